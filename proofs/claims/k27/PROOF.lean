import PyProof.Rows.All
import PySem.Str
import PySem.Sem
import PyProof.StrBlockL
import PyProof.Rows.Walk
import Wide.All
import OpenK.AllK
import Wide.FinOn
import Lean
import PyProof.EqAt
import PyProof.EqKinds
import PyProof.TupleCall
import PyProof.SeqRoads2
import PyProof.ExcArgs
import KE.KIsAll
import PyProof.DictIter
import PyProof.Rows.CountFlat
import PyProof.NeKinds
import KE.KSortKey
import KE.KMinKey
import KE.KIntText
import PyProof.Rows.FStr
import PyProof.Rows.StrJoin2
import PyProof.DictItems
import KE.KDictSum
import PySem.Challenge.RW_risecount_k27_downsets_and_calm
set_option Elab.async false
set_option linter.all false
set_option maxRecDepth 100000
set_option maxHeartbeats 3999999
open PySem.W (CodeHd OpenLaw codeIn excIn fnOf hideAll instObj keepIn lookIn methodObj noTabs tabObj)
open And renaming intro->vp
open Array renaming append_empty->qf,empty_append->a1i,eraseIdxIfInBounds->a1h,ext_getElem?->a1g,extract_empty_of_stop_le_start->n_,extract_succ_right->a1f,forIn_toList->a1e,getD->ke,getElem?_eq_getElem->qe,getElem?_eq_none->a1d,getElem?_extract->Ez,getElem?_map->Ey,getElem?_setIfInBounds->a1c,getElem?_toList->qd,length_toList->gz,map_append->zf,map_extract->si,map_reverse->a1b,size_extract->Ex,size_map->Ew,toList->a1a,toList_append->qc,toList_extract->vn,toList_map->a09
open Array.Perm renaming refl->my
open BEq renaming beq->a08
open Bool renaming and_eq_true->jf,and_false->a07,eq_iff_iff->qb,false->ag,false_and->sh,false_eq_true->mx,false_ne_true->b_,false_or->a06,not_eq_true->Eu,not_eq_true'->vk,not_false->Et,not_true->Es,or_eq_true->a05,true->ae,true_and->vj,true_or->a04
open Classical renaming axiomOfChoice->a2t,byContradiction->a2s,propDecidable->Er
open Decidable renaming decide->Zv
open False renaming elim->jt
open ForInStep renaming done->a03,yield->mw
open Int renaming emod_lt_of_pos->jn,emod_nonneg->iz,fdiv_eq_ediv_of_nonneg->a02,le_trans->Ep,mul_one->a01,toNat_natCast->gr,toNat_of_nonneg->Eo,zero_add->a00
open List renaming Nodup->En,all_cons->mr,all_eq_true->js,all_map->vg,any_cons->kc,any_eq_false->a0X,any_eq_true->Em,any_map->El,append_assoc->Ek,append_nil->ip,cons_append->zd,contains_eq_mem->a0W,drop_eq_getElem_cons->nz,drop_eq_nil_of_le->sg,drop_length->a0V,drop_take->a0U,drop_zero->se,ext_getElem?->sd,extract_eq_take_drop->vf,filterMap_cons->za,find?_cons->ik,flatMap_append->Ei,flatten_cons->qa,foldl->Eh,foldl_cons->a0T,forIn_cons->r_,forIn_nil->y_,getD_eq_getElem?_getD->kb,getElem?_append_left->j_,getElem?_append_right->jz,getElem?_cons_succ->ny,getElem?_cons_zero->ve,getElem?_eq_getElem->cj,getElem?_eq_none->lp,getElem?_eq_some_iff->dh,getElem?_map->ft,getElem?_nil->Eg,getElem?_range->vd,getElem?_replicate->jr,getElem?_set_ne->jm,getElem?_set_self->kn,getElem?_take_of_lt->Ef,getElem?_zipIdx->a0S,getElem?_zip_eq_some->a0R,getElem_drop->Ee,getElem_inj->a0Q,getElem_map->a0P,getElem_mem->p_,getElem_of_mem->p0,getElem_take->Ed,length->pz,length_append->dm,length_cons->fj,length_drop->km,length_eq_zero_iff->vc,length_erase_of_mem->a0O,length_filter_le->r9,length_map->bo,length_nil->mq,length_range->jk,length_replicate->je,length_set->gy,length_singleton->yz,length_take->ij,lookup_append->Ec,lookup_cons->r6,map_append->jd,map_congr_left->pq,map_cons->cf,map_drop->a0N,map_id->a0M,map_map->f_,map_nil->mn,map_take->a0L,mem_append->gn,mem_append_left->gj,mem_append_right->gm,mem_cons->bx,mem_cons_of_mem->gf,mem_cons_self->de,mem_filter->iy,mem_filterMap->pk,mem_flatMap->yy,mem_iff_getElem?->yx,mem_map->gd,mem_map_of_mem->Eb,mem_of_getElem?->pj,mem_range->ll,mem_reverse->a0K,mem_singleton->cg,nil_append->pf,nil_perm->a0J,nodup_append->rn,nodup_cons->kl,nodup_nil->rm,nodup_range->a0I,not_mem_nil->vb,of_mem_zip->rj,pairwise_append->Ea,pairwise_cons->fz,pairwise_iff_getElem->u_,pairwise_lt_range->D_,pairwise_map->uz,pairwise_reverse->Dz,pairwise_singleton->a0H,perm_ext_iff_of_nodup->Dy,perm_nil->Dx,range->cm,range_succ->yw,range_succ_eq_map->yu,replicate->cp,replicate_succ->kj,replicate_zero->Dw,reverse_perm->Dv,set_cons_succ->Du,set_cons_zero->Dt,set_nil->Ds,size_toArray->cu,take_append_drop->Dr,take_length->uw,take_of_length_le->rh,take_sublist->a0G,take_zero->a0F,toArray->yt,zip_append->a0E,zip_cons_cons->Dq
open List.Nodup renaming length_le_of_subset->a2r,mem_erase_iff->a2q,sublist->a2p
open List.Pairwise renaming filter->vi,imp_of_mem->a0Z,map->vh,nil->ze,of_map->a2o
open List.Perm renaming cons_inv->a2n,refl->a0Y,swap->a2m
open List.cons renaming inj->a2l,injEq->Ej
open Nat renaming add_assoc->Dp,add_sub_cancel_left->a0D,add_zero->Dm,eq_of_testBit_eq->Dl,le_add_right->a0C,le_of_ble_eq_true->yr,le_of_eq->ml,le_of_lt->lj,le_refl->bp,le_succ->pd,le_trans->ig,lt_asymm->a0B,lt_irrefl->jq,lt_log2_self->a0A,lt_of_lt_of_le->gi,lt_succ_of_lt->uv,lt_succ_self->uu,lt_trans->yq,min_eq_left->a0z,min_le_right->a0y,min_self->a0x,mod_two_eq_zero_or_one->a0w,ne_of_gt->nu,ne_of_lt->fq,one_pos->a0v,pow_le_pow_right->Dk,shiftLeft_eq->a0u,shiftRight_eq_div_pow->a0t,strongRecOn->Dj,sub_self->a0s,sub_zero->a0r,succ->a0q,succ_mul->Di,succ_ne_self->a0p,testBit_and->Dh,testBit_lt_two_pow->a0o,testBit_two_pow->a0n,zero_add->o_,zero_le->ie
open Ne renaming symm->fg
open Option renaming bind_none->Dg,bind_some->di,getD_none->a0m,isSome_map->ur,join_none->De,join_some->yp,map->a0l,map_eq_some_iff->lh,map_none->Dc,map_some->rf,none->af,some->aa
open Option.some renaming inj->ee,injEq->a2k
open Or renaming inl->cz,inr->cc
open Prod renaming ext->a0k
open Prod.mk renaming inj->C_
open PyProof.Rows renaming AllBare->lg,IntsAre->ki,IsTup->h_,Keyed->d_,SortKind->kh,SortSt->dg,Subscript_->Cz,args_list_sort->Cy,args_sorted1->Cw,args_tuple_getitem->a0j,assignInOrder_cons->Cv,assignInOrder_nil->a0i,boot_all->a2j,boot_any->a2i,boot_bool->Cu,boot_int->a0h,boot_isinstance->Ct,boot_list->a0g,boot_range->a0f,boot_sorted->uq,boot_str->a2h,boot_sum->a0e,boot_tuple->Cs,bubble_perm->Cr,callWith_builtin1->a2g,callWith_type1->ym,entry_list_sort->yl,entry_sorted->yj,entry_tuple_getitem->a0d,get?_update_seq->q_,getElem?_bubble->a0c,intBits_le->Cq,kind_sorted->yi,listItems_at->yh,listUpdate_at->nq,list_sort_plain->a0b,lt_int->yf,plain_sorted->ye,pow_int->a2f,seqEpoch_at->qz,slicePart_none->a0a,slot_list_sort->yd,slot_tuple_getitem->oz,sortedAll_at->Zn,sortedAll_old->Zm,sortedHeap_at->Zl,sortedHeap_old->Zk,subscriptTail_builtinR->Zj,truthy_tuple->Zi,tupleItemsOf_->Zh,wpS_bind->bh,wpS_forRange->iw,wpS_get->k_,wpS_lift->oy,wpS_modify->mh,wpS_mono->jj,wpS_pure->bu
open PyProof.Rows.IsTup renaming new->yo
open PyProof.Rows.SortSt renaming mk'->mj
open PySem renaming Addr->ah,Arguments->yc,Around->br,BindsTo->qx,Builtin->yb,DictEntry->uo,Env->df,Expr->av,Fin->Cj,FuncData->gc,Heap->ba,IntMulOk->ug,IsEnum->uf,IsPart->kz,IsRangeIter->Yd,Keyword->gx,Model->l_,NameKind->jb,Obj->ay,Paired->iu,PassesOwn->Cf,Pos->bq,Program->bg,Result->xp,Scope->fu,Sem->gb,Shared->ak,Stmt->cn,Str->aj,Tok->ir,Value->ai,Within->Xf,World->a_,assignEach->e_,backTo->cy,cLine->c_,call->Bu,call_function_tree->Xe,call_list_seq->Xd,call_meets->qr,call_range_1->Xc,codeAny->ly,codeAny_builtin->lx,codeAny_call_builtin->Xb,codeAny_call_function->Xa,codeAny_func->W_,codeAny_mono->xa,concat_meets->Bt,eqIsQuiet_byValue->Wz,find?_eq_fast->w_,fitsIndex_both->Bs,intBits_le_64->Wy,isSubtype_tuple_tuple->Wx,keywordEach->lr,mainGlobals->gu,mem_of_lookup->jy,model->au,name_of_addr->Ww,noFill_tuple_add->Br,plainId_quiet->qq,pushCells_keeps->Wv,rangeSize_one->Wu,seqIndex_neg->Wt,seqIndex_of->Ws,seq_tuple_add->Bq,sizeLine->bj,sizeLine_eq->fv,slot_list_getitem->Wq,starEach->ar,swapsWith->gk,tupleKind_room_in1->Wo,typeIs_int->Bp,wpAny->ax,wpAny_Assign_Subscript->Wn,wpAny_Call_Name_kw->tu,wpAny_Dict_empty->Wm,wpAny_Name->Bo,wpAny_assign_Name->Wl,wpAny_attempt->qp,wpAny_bind->aq,wpAny_bindName->Wk,wpAny_call->tq,wpAny_callSpecial?_slot->qo,wpAny_call_entry->jw,wpAny_eqBool_int->Wj,wpAny_execs_cons->Bn,wpAny_execs_nil->Bm,wpAny_extend_seq->Wi,wpAny_field->ng,wpAny_getItem_heap->Wh,wpAny_getItem_of->Wg,wpAny_handled->Wf,wpAny_holding->iq,wpAny_isInstance->Bl,wpAny_isTrue_Compare1->We,wpAny_letGo->Bk,wpAny_load->Bj,wpAny_loadPart'->Wd,wpAny_mono->gp,wpAny_newFunctionEnv_cells->Wc,wpAny_newList->om,wpAny_newObj_type->qm,wpAny_newTuple->Bi,wpAny_of_eq->Wb,wpAny_passesOwn->tm,wpAny_pure->az,wpAny_pyIter_enum->wz,wpAny_pyIter_list->wy,wpAny_pyIter_tuple->wx,wpAny_rule->i_,wpAny_runValue->Wa,wpAny_seqItems->Bh,wpAny_sequenceKey->V_,wpAny_setField->Vz,wpAny_setFlight_noneW->Vy,wpAny_setItem_heap->Vx,wpAny_setItem_pairs->Vw,wpAny_specialOf->Bg,wpAny_standAt->Bf,wpAny_throw->Vv,wpAny_truthy_bool->ko,wpAny_truthy_list->Vu,wpAny_tupleItemsOf->Vt,wpAny_typeOf->Be
open PySem.Around renaming frames_deeper->Zg,under_plainId->nj
open PySem.AutoListH renaming list___mul___list_int_3->a2e,list_insert_list_int_val_1->a2d
open PySem.AutoSeq1 renaming list_extend_list_list_0->a2c,sub_tuple_tuple->a2b
open PySem.Builtin.Dict_items renaming ownsTuple->Zf
open PySem.Builtin.List renaming listTooLong->ya
open PySem.Builtin.ObjectAttr renaming dataDescriptor?->a2a,find->a19
open PySem.Builtin.Range renaming rangeSize->Ze
open PySem.Builtin.Slice renaming sliceAdjust->Cp,sliceApplied->Zd,sliceFields->a18,slicePartIndex->a17,slicePlaces->x_
open PySem.Builtin.SmallTypes renaming nextOf->Zc
open PySem.Builtin.Tuple renaming tupleCompareSizes->a16,tupleExact->xy,tupleHashOf->Zb,tupleIsExact->a15,tupleItemsOf->Za
open PySem.Calls renaming Name_function_global->Y_,call_function_entry->Co,evalArgs_plain->Yz
open PySem.DictEntry renaming refKey->a14
open PySem.EqMixed renaming eq_bool_str->a13,eq_int_str->a12,eq_str_bool->a1Z,eq_str_int->a1Y,ne_bool_str->a1X,ne_int_str->a1W,ne_str_bool->a1V,ne_str_int->a1U
open PySem.EqNone renaming eq_bool_none->a1T,eq_int_none->a1S,eq_none_bool->a1R,eq_none_int->a1Q,eq_none_none->a1P,eq_none_str->a1O,eq_str_none->a1N,ne_bool_none->a1M,ne_int_none->a1L,ne_none_bool->a1K,ne_none_int->a1J,ne_none_none->a1I,ne_none_str->a1H,ne_str_none->a1G
open PySem.F renaming args_dict_keyiterator_next_1->Yy,args_tuple_add_2->Cn,args_tuple_iterator_next_1->Yx,entry_all_loop->Yw,entry_any_loop->Yv,entry_dict_keyiterator_next->Yu,entry_list_iadd->Yt,entry_proto_collect->Ys,entry_tuple_add->Cm,entry_tuple_iterator_next->Yr,excAttr_ValueError->Yq,plainAttrs_list->Yp,plain_all_loop->xx,plain_any_loop->xw,plain_list_iadd->xv,plain_proto_collect->Yo,slot_dict_getitem->Yn,slot_dict_iter->Ym,slot_dict_keyiterator_next->uk,slot_int_rmul->Yl,slot_list_append->Yk,slot_list_extend->Yj,slot_list_insert->Yi,slot_list_pop->Yh,slot_tuple_add->Ck,slot_tuple_eq->Yg,slot_tuple_iterator_next->xu
open PySem.Flow renaming next->Yf
open PySem.Heap renaming ExtBut->Ye,SameBut->mf,get?_push_of_some->cx,get?_push_size->fw,get?_update_other->Ci,get?_update_self->uj,lt_size->bz,size_push->uh
open PySem.Heap.DictOf renaming new->a1F
open PySem.Heap.IsSliceOf renaming new->a1E
open PySem.Heap.SameBut renaming update->ma
open PySem.IsL renaming update->a1D
open PySem.Manifest renaming find?->xt
open PySem.MeetsSeq renaming list_pop_at->a1B
open PySem.MeetsSeq.EqGives renaming int->a1C
open PySem.NameKind renaming cell->kg,free->ji
open PySem.Obj renaming cls_mapFields->Yc,data_mapFields->xr,isFreed_of_fields->Yb,mapFields->Cg,mapSeq->fm,putSet->Ya
open PySem.Paired renaming length->qw,snoc->xq
open PySem.PassesOwn renaming never->ku
open PySem.SeqAt renaming EqAt->lz
open PySem.SeqAt.EqAt renaming bool_bool->a1A,bool_int->a1z,bool_none->a1y,bool_str->a1x,int_bool->a1w,int_int->Ce,int_none->a1v,int_str->X_,int_tuple->a1u,none_bool->a1t,none_int->a1s,none_str->a1r,same->xo,str_bool->a1q,str_int->Xz,str_none->a1p,str_str->a1o,str_tuple->a1n,tuple_int->a1m,tuple_str->a1l
open PySem.SeqRoads2.EqGives renaming str->a1k
open PySem.Str renaming ofString->qv
open PySem.Value renaming bool->ue,builtin->Xy,float->Xx,int->kr,isInt->Xw,isStrOf->Xv,none->gq,ref->dq,str->xm,type->g_
open PySem.Value.ref renaming inj->a1j
open PySem.W renaming Frag->ao,KasT->ox,Looks->ou,OpenLaw->qu,WalkO->Cd,callWith_K->Xp,cellsFrom_some->Cc,codeRec_of->Xo,exmOne->xl,findIn->Xn,funFrames_hide->Xm,hideAll_get->ud,hideAll_none->uc,kas_asc->jh,kas_ask->oq,kas_bin->xk,kas_count->xj,kas_desc->oo,kas_descPart->xi,kas_item->bt,kas_place->jo,kas_rev->gw,kas_sort->t_,kas_swaps_map->Xl,kas_tail3->Ca,kat_cons->B_,kat_yes->Bz,kia_one->jg,kitOne->qt,kitx_dict->Xk,kitx_list->By,kitx_tuple->Xj,kla_fn->xh,kla_obj->xf,looks_findIn->Bx,nsIn->Bw,of_hideAll->Bv,plainGet->Xi,subIn->xb,tabIn->tw,tail_of_in->Xh
open PySem.W.KF renaming slot_gs->Xu
open PySem.W.KasT renaming ret->nh
open PySem.W.KatTups renaming cons->Xt
open PySem.W.Looks renaming of_pure->Xs
open PySem.W.WData renaming int->Xr
open PySem.W.WShape renaming has->Xq
open PySem.Walks renaming list->Xg
open Sum renaming inl->dj,inr->jv
open Sum.inl renaming inj->wu
open Sum.inr renaming inj->Bd
open True renaming intro->ju
open PySem
set_option genSizeOf false
set_option compiler.extract_closed false
set_option bootstrap.genMatcherCode false
noncomputable section
local macro_rules|`(tactic|lia)=>`(tactic|omega)
local macro_rules|`(∅)=>`(by omega)
local macro_rules|`(tactic|show $t)=>`(tactic|first|refine $t|fail)
set_option hygiene false
local macro_rules|`(tactic|symm$[$l:location]?)=>`(tactic|simp only[Dn]$[$l]?)
set_option hygiene true
local macro_rules|`(tactic|walk_at "0")=>`(tactic|first|show .inl rfl|show .inr rfl)
local macro_rules|`(tactic|walk_at "1")=>`(tactic|first|show cz rfl|show cc (cz rfl)|show cc (cc rfl))
local macro_rules|`(tactic|walk_at "2")=>`(tactic|first|show .inr rfl|show .inl rfl)
abbrev Q0a:=List (List Int)
abbrev Q0b:=List (ah×ay)
abbrev Q0c:=ai->ak->Prop
abbrev Q0d:=aj->Option ai
abbrev Q0e:=List Int
abbrev Q0f:=List ai
abbrev Q0g:=List aj
abbrev Z_.{u}:=@if_pos.{u}
abbrev Zz.{u}:=@if_neg.{u}
abbrev Zy:=@decide_eq_false
abbrev Zx:=@decide_eq_true
abbrev Zw.{u}:=@absurd.{u}

namespace L3
inductive D where
 |non
 |bl (b:Bool)
 |int (i:Int)
 |str (x:aj)
 |tup (xs:List D)
 |lst (xs:List D)
 |kR (ns:Q0e)
 |gR (ks:List (Sum Int aj)) (xs:List D)
 |cN (q:Nat->ay->Prop) (ks:List (Sum (Sum Int aj) (List (Sum (Sum Int aj) (List (Sum Int aj)))))) (xs:List D)
 |exc (c:aj) (a:Nat)
 |rws (xs:Q0a)
mutual
noncomputable def D.wQ:D->Bool
 |.non=>ae
 |.bl _=>ae
 |.int _=>ae
 |.str _=>ae
 |.tup ds=>wR ds
 |.lst _=>ag
 |.kR _=>ae
 |.gR _ _=>ag
 |.cN _ _ _=>ag
 |.exc _ _=>ae
 |.rws _=>ag
noncomputable def wR:List D->Bool
 |[]=>ae
 |d::ds=>d.wQ&&wR ds
end
abbrev bK:=List (Option D)
inductive Sv where
 |no
 |ro (d:D)
 |ow (d:D)
abbrev aW:=List Sv
noncomputable def Sv.all:Sv->Option D
 |.no=>af
 |.ro d=>aa d
 |.ow d=>aa d
abbrev Sv.ri(n:Int):Sv:=.ro (.int n)
noncomputable def Sv.rd:Sv->Option D
 |.ro d=>aa d
 |_=>af
def bA(ρ:aW):bK:=ρ.map Sv.all
def fG(ρ:aW):bK:=ρ.map Sv.rd
end L3
namespace L4
open L3
inductive M (α:Type) where
 |no
 |ex (c:aj)
 |ok (a:α)
inductive Out where
 |no
 |nx (ρ:aW)
 |rt (d:D)
 |ex (c:aj)
abbrev EF:=bK->Option D
abbrev TF:=bK->Option Bool
abbrev AF:=bK->Option (List D)
abbrev XF:=aW->Option (aW×D)
abbrev SF:=aW->Out
abbrev kT:=List D->M D
def i5:Nat:=16777216
def aT(i:Nat):EF:=λρ=>(ρ[i]?).join
def eC(d:D):EF:=λ_=>aa d
abbrev eI(n:Int):EF:=eC (.int n)
abbrev cV:EF:=aT 0
abbrev dU:EF:=aT 1
abbrev fM:EF:=aT 2
abbrev nM:EF:=aT 3
abbrev nN:EF:=aT 4
abbrev UY:EF:=aT 5
abbrev WM:EF:=aT 6
abbrev zr:EF:=aT 7
abbrev qj:EF:=aT 8
abbrev wc:EF:=aT 9
abbrev y9:EF:=aT 10
abbrev aJV:EF:=aT 11
abbrev aJW:EF:=aT 12
def aB(g:D->D->Option D)(a b:EF):EF:=λρ=>(a ρ).bind λx=>(b ρ).bind λy=>g x y
noncomputable def i9:D->Option Bool
 |.bl b=>aa b
 |.lst ds=>aa (!ds.isEmpty)
 |.tup ds=>aa (!ds.isEmpty)
 |_=>af
def tV(f:EF):TF:=λρ=>(f ρ).bind i9
def nO(t:TF):TF:=λρ=>(t ρ).map (!·)
def kU(t u:TF):TF:=λρ=>(t ρ).bind λb=>if b=ae then u ρ else aa ag
def WN(t u:TF):TF:=λρ=>(t ρ).bind λb=>if b=ae then aa ae else u ρ
noncomputable def pD:D->Option Bool
 |.bl b=>aa b
 |_=>af
def jA(a b:EF):EF:=λρ=>(a ρ).bind λx=>(pD x).bind λc=>if c=ae then b ρ else aa (.bl ag)
def qk(a b:EF):EF:=λρ=>(a ρ).bind λx=>(pD x).bind λc=>if c=ae then aa (.bl ae) else b ρ
def tT(a:EF):EF:=λρ=>(a ρ).bind λx=>(pD x).map λc=>.bl (!c)
def we(t:TF)(a b:EF):EF:=λρ=>(t ρ).bind λc=>if c=ae then a ρ else b ρ
noncomputable def P6:D->Option D
 |.int i=>aa (.int (-i))
 |_=>af
def zA(a:EF):EF:=λρ=>(a ρ).bind P6
def jB(f g:D->D->Option D)(a b c:EF):EF:=λρ=>(a ρ).bind λx=>(b ρ).bind λy=>(f x y).bind λz=>(pD z).bind λk=>if k=ae then(c ρ).bind λw=>g y w else aa (.bl ag)
noncomputable def BV(g:Int->Int->D):D->D->Option D
 |.int i,.int j=>aa (g i j)
 |_,_=>af
noncomputable def gW(c:Int->Int->Bool)(g:Int->Int->D):D->D->Option D
 |.int i,.int j=>if c i j=ae then aa (g i j) else af
 |_,_=>af
noncomputable def cP:D->D->Option D
 |.int i,.int j=>aa (.int (i+j))
 |.lst a,.lst b=>if a.length+b.length<=i5 then aa (.lst (a++b)) else af
 |.tup a,.tup b=>if a.length+b.length<=i5 then aa (.tup (a++b)) else af
 |.str a,.str b=>if a.length+b.length<=i5 then aa (.str (a++b)) else af
 |_,_=>af
def GU:D->D->Option D:=BV λi j=>.int (i-j)
def zB(i j:Int):Bool:=Zv (i.natAbs<18446744073709551616)||Zv (j.natAbs<18446744073709551616)||Zv (i.natAbs.log2+j.natAbs.log2<=134217700)
def mulM:D->D->Option D:=gW zB λi j=>.int (i*j)
def dB:D->D->Option D:=gW (λ_ j=>Zv (0<j)) λi j=>.int (i%j)
def qW:D->D->Option D:=gW (λ_ j=>Zv (0<j)&&Zv (j.natAbs<1073741824)) λi j=>.int (i/j)
def zC:D->D->Option D:=gW (λi j=>Zv (0<=j)&&Zv (j.natAbs<=1000000)&&Zv (i.natAbs<18446744073709551616)) λi j=>.int (i^j.toNat)
def ltM:D->D->Option D:=BV λi j=>.bl (Zv (i<j))
def leM:D->D->Option D:=BV λi j=>.bl (Zv (i<=j))
def qX:D->D->Option D:=BV λi j=>.bl (Zv (j<i))
def geM:D->D->Option D:=BV λi j=>.bl (Zv (j<=i))
noncomputable def UZ:D->D->Option Bool
 |.int i,.int j=>aa (Zv (i=j))
 |.bl i,.bl j=>aa (Zv (i=j))
 |.str i,.str j=>aa (Zv (i=j))
 |.non,.non=>aa ae
 |_,_=>af
def qD:D->D->Option D:=λx y=>(UZ x y).map .bl
def neM:D->D->Option D:=λx y=>(UZ x y).map λb=>.bl (!b)
noncomputable def qY:D->Bool
 |.non=>ae
 |_=>ag
def P7:D->D->Option D:=λx y=>if qY y=ae then aa (.bl (qY x)) else af
noncomputable def intsOf:List D->Option (List Int)
 |[]=>aa []
 |.int i::ds=>(intsOf ds).map (i :: ·)
 |_::_=>af
def nQ(neg:Bool):D->D->Option D
 |.int i,.tup ds=>(intsOf ds).map λns=>.bl (if neg then !ns.contains i else ns.contains i)
 |.int i,.lst ds=>(intsOf ds).map λns=>.bl (if neg then !ns.contains i else ns.contains i)
 |_,_=>af
def WQ(n:Nat)(i:Int):Option Nat:=if 0<=i then(if i<n then aa i.toNat else af) else if -(n:Int)<=i then aa (i+n).toNat else af
def tU{α:Type}(xs:List α)(i:Int):Option α:=(WQ xs.length i).bind λj=>xs[j]?
noncomputable def dI:D->D->Option D
 |.lst a,.int i=>tU a i
 |.tup a,.int i=>tU a i
 |.kR a,.int i=>(tU a i).map D.int
 |_,_=>af
noncomputable def qZ:D->Option (Sum Int aj)
 |.int i=>aa (.inl i)
 |.str x=>aa (.inr x)
 |_=>af
def gX(ks:List (Sum Int aj))(ds:List D)(k:Sum Int aj):Option D:=((ks.zip ds).find? λa=>Zv (a.1=k)).map (·.2)
def rA:D->D->Option D
 |.gR ks ds,d=>(qZ d).bind λk=>gX ks ds k
 |_,_=>af
def aJ:AF:=λ_=>aa []
def aA(a:EF)(t:AF):AF:=λρ=>(a ρ).bind λd=>(t ρ).bind λds=>aa (d::ds)
abbrev bS(i:Nat):AF:=aA (aT i) aJ
def gS(t:AF):EF:=λρ=>(t ρ).bind λds=>if ds.length<=i5 then aa (.tup ds) else af
def dC(t:AF):EF:=λρ=>(t ρ).bind λds=>if ds.length<=i5 then aa (.lst ds) else af
def cL(g:List D->Option D)(t:AF):EF:=λρ=>(t ρ).bind g
noncomputable def wU:M D->Option D
 |.ok d=>aa d
 |_=>af
def aN(R:kT)(t:AF):EF:=λρ=>(t ρ).bind λds=>wU (R ds)
noncomputable def b7:List D->Option D
 |[.lst a]=>aa (.int a.length)
 |[.tup a]=>aa (.int a.length)
 |[.kR a]=>aa (.int a.length)
 |_=>af
noncomputable def cQ:List D->Option D
 |[.lst a]=>aa (.tup a)
 |[.tup a]=>aa (.tup a)
 |_=>af
noncomputable def uN:List D->Option D
 |[.lst a]=>aa (.lst a)
 |[.tup a]=>aa (.lst a)
 |_=>af
noncomputable def insI(a:Int):List Int->List Int
 |[]=>[a]
 |b::l=>if a<=b then a::b::l else b::insI a l
def sortI:List Int->List Int
 |[]=>[]
 |a::l=>insI a (sortI l)
def gY:List D->Option D
 |[.lst a]=>(intsOf a).bind λns=>if ns.length<64 then aa (.lst ((sortI ns).map D.int)) else af
 |_=>af
def GV:List D->Option D
 |[.lst a]=>(intsOf a).map λns=>.int ns.sum
 |_=>af
def k9:List D->Option (List Bool)
 |[]=>aa []
 |d::ds=>(i9 d).bind λb=>(k9 ds).map (b :: ·)
def allM:List D->Option D
 |[.lst a]=>(k9 a).map λbs=>.bl (bs.all id)
 |_=>af
def anyM:List D->Option D
 |[.lst a]=>(k9 a).map λbs=>.bl (bs.any id)
 |_=>af
noncomputable def tyM:D->String
 |.non => "NoneType"
 |.bl _ => "bool"
 |.int _ => "int"
 |.str _ => "str"
 |.tup _ => "tuple"
 |.lst _ => "list"
 |.kR _ => "list"
 |.gR _ _ => "dict"
 |.cN _ _ _ => "dict"
 |.exc _ _ => "NoneType"
 |.rws _ => "NoneType"
def BW(T:String)(d:D):Bool:=tyM d == T||(T == "int"&&tyM d == "bool")
noncomputable def BX:D->Bool
 |.exc _ _=>ag
 |.cN _ _ _=>ag
 |.rws _=>ag
 |_=>ae
def i6(T:String)(a:EF):EF:=λρ=>(a ρ).bind λd=>if BX d=ae then aa (.bl (BW T d)) else af
def bD(lo:Int)(n:Nat):List Int:=(cm n).map λk:Nat=>lo+(k:Int)
def Ol(a:Int)(n:Nat):List Int:=(cm n).map λk:Nat=>a-(k:Int)
noncomputable def BY(t:AF):EF:=λρ=>(t ρ).bind λds=>match ds with
 |[.int j]=>if j.natAbs<=16777216 then aa (.lst ((bD 0 j.toNat).map D.int)) else af
 |_=>af
noncomputable def repLM:D->D->Option D
 |.lst a,.int n=>if a.length*n.toNat<=i5/\n.natAbs<9223372036854775808 then aa (.lst (cp n.toNat a).flatten) else af
 |_,_=>af
noncomputable def GW:D->D->Option D
 |.lst a,.lst b=>if a.length+b.length<=i5 then aa (.lst (a++b)) else af
 |_,_=>af
noncomputable def zD:D->Option (List D)
 |.lst ds=>aa ds
 |.tup ds=>aa ds
 |_=>af
def bI(f:EF):AF:=λρ=>(f ρ).bind zD
noncomputable def BZ:List D->Option (List D)
 |[.int j]=>if j.natAbs<4611686018427387904 then aa ((bD 0 j.toNat).map D.int) else af
 |[.int i,.int j]=>if i.natAbs<4611686018427387904/\j.natAbs<4611686018427387904 then aa ((bD i (j-i).toNat).map D.int) else af
 |[.int i,.int j,.int k]=>if k=-1/\i.natAbs<1000000/\j.natAbs<1000000 then aa ((Ol i (i-j).toNat).map D.int) else af
 |_=>af
def bX(t:AF):AF:=λρ=>(t ρ).bind BZ
noncomputable def EH:List D->Option (List D)
 |[.lst ds]=>aa (ds.zipIdx.map λp=>.tup [.int (p.2:Int),p.1])
 |[.tup ds]=>aa (ds.zipIdx.map λp=>.tup [.int (p.2:Int),p.1])
 |_=>af
def rB(t:AF):AF:=λρ=>(t ρ).bind EH
def Oj:List D->Option (List D)
 |[a,b]=>(zD a).bind λxs=>(zD b).map λys=>(xs.zip ys).map λp=>.tup [p.1,p.2]
 |_=>af
def WR(t:AF):AF:=λρ=>(t ρ).bind Oj
noncomputable def WU:List D->Option (List D)
 |[.lst ds]=>aa ds.reverse
 |[.tup ds]=>aa ds.reverse
 |_=>af
def WV(t:AF):AF:=λρ=>(t ρ).bind WU
abbrev P8:=D->bK->Option bK
def g1(i:Nat):P8:=λd ρ=>aa (ρ.set i (aa d))
noncomputable def uO:D->Option (D×D)
 |.tup [x,y]=>aa (x,y)
 |_=>af
def g2(i j:Nat):P8:=λd ρ=>(uO d).map λp=>(ρ.set i (aa p.1)).set j (aa p.2)
def cK:TF:=λ_=>aa ae
def benv(nl:Nat)(fr:List Nat)(ρ:bK):bK:=cp nl af++fr.map λj=>(ρ[j]?).join
noncomputable def fP(g:P8)(t:TF)(e:EF)(ρ:bK):List D->Option (List D)
 |[]=>aa []
 |d::ds=>(g d ρ).bind λρ1=>(t ρ1).bind λb=>if b=ae then(e ρ1).bind λy=>(fP g t e ρ ds).map (y :: ·) else fP g t e ρ ds
def bT(nl:Nat)(fr:List Nat)(it:AF)(g:P8)(t:TF)(e:EF):EF:=λρ=>(it ρ).bind λds=>if ds.length<=i5 then(fP g t e (benv nl fr ρ) ds).map D.lst else af
abbrev OF:=bK->Option (Option Int)
def vw:OF:=λ_=>aa af
noncomputable def asInt:D->Option Int
 |.int i=>aa i
 |_=>af
def oE(f:EF):OF:=λρ=>(f ρ).bind λd=>(asInt d).map aa
noncomputable def P9(n d:Nat):Option Int->Nat
 |none=>d
 |some i=>if i<0 then(i+n).toNat else min i.toNat n
def QA(xs:List D)(lo a:Option Int):List D:=(xs.drop (P9 xs.length 0 lo)).take (P9 xs.length xs.length a-P9 xs.length 0 lo)
def slM(d:D)(lo a:Option Int):Option D:=match d with
 |.lst ds=>aa (.lst (QA ds lo a))
 |.tup ds=>aa (.tup (QA ds lo a))
 |_=>af
def WW(f:EF)(lo a:OF):EF:=λρ=>(f ρ).bind λd=>(lo ρ).bind λl=>(a ρ).bind λh=>slM d l h
def J9(f:EF):XF:=λρ=>(f (bA ρ)).bind λd=>if d.wQ=ae then aa (ρ,d) else af
def cB(f:EF):XF:=λρ=>(f (fG ρ)).bind λd=>aa (ρ,d)
noncomputable def l6:Option Sv->Option (List D)
 |some (.ow (.lst ds))=>aa ds
 |_=>af
def qE(i:Nat)(m:List D->D->Option (List D×D))(x:XF):XF:=λρ=>(l6 ρ[i]?).bind λ_=>(x ρ).bind λp=>(l6 p.1[i]?).bind λds=>(m ds p.2).map λq=>(p.1.set i (.ow (.lst q.1)),q.2)
def kX:List D->D->Option (List D×D):=λds d=>if ds.length<i5 then aa (ds++[d],.non) else af
noncomputable def QB:List D->D->Option (List D×D)
 |ds,.int k=>if k.natAbs<9223372036854775808 then(WQ ds.length k).bind λj=>(ds[j]?).map λd=>(ds.eraseIdx j,d) else af
 |_,_=>af
noncomputable def GX:List D->D->Option (List D×D)
 |ds,.lst es=>if ds.length+es.length<=i5 then aa (ds++es,.non) else af
 |_,_=>af
def dJ:SF:=λρ=>.nx ρ
noncomputable def aO(f g:SF):SF:=λρ=>match f ρ with
 |.nx ρ'=>g ρ'
 |o=>o
def cC(f:EF):SF:=λρ=>match f (bA ρ) with
 |some d=>.rt d
 |none=>.no
def gZ(t:TF)(a b:SF):SF:=λρ=>match t (bA ρ) with
 |some ae=>a ρ
 |some ag=>b ρ
 |none=>.no
def bH(i:Nat)(f:EF):SF:=λρ=>match f (fG ρ) with
 |some d=>.nx (ρ.set i (.ro d))
 |none=>.no
noncomputable def KA(i:Nat)(x:XF):SF:=λρ=>match x ρ with
 |some p=>.nx (p.1.set i (.ro p.2))
 |none=>.no
def l7(i:Nat)(f:EF):SF:=λρ=>match f (fG ρ) with
 |some d=>.nx (ρ.set i (.ow d))
 |none=>.no
def rC:D->Bool
 |.lst ds=>wR ds
 |_=>ag
def KC(i:Nat)(f:EF):SF:=λρ=>match f (bA ρ) with
 |some d=>if rC d=ae then .nx (ρ.set i (.ow d)) else .no
 |none=>.no
def rD(i:Nat)(f:EF):SF:=λρ=>match f (bA ρ) with
 |some d=>if rC d=ae then .nx (ρ.set i (.ro d)) else .no
 |none=>.no
def zE(i:Nat):SF:=λρ=>.nx (ρ.set i (.ow (.gR [] [])))
noncomputable def sX(x:XF):SF:=λρ=>match x ρ with
 |some p=>.nx p.1
 |none=>.no
noncomputable def rE:Option Sv->Option (List (Sum Int aj)×List D)
 |some (.ow (.gR ks ds))=>aa (ks,ds)
 |_=>af
def EI(i:Nat)(x:XF)(k:EF):SF:=λρ=>match ((x ρ).bind λp=>(rE p.1[i]?).bind λkd=>(k (bA p.1)).bind λc=>(qZ c).bind λa =>
  if(gX kd.1 kd.2 a).isNone=ae/\kd.2.length<i5 then aa (p.1.set i (.ow (.gR (kd.1++[a]) (kd.2++[p.2])))) else af) with
 |some ρ'=>.nx ρ'
 |none=>.no
abbrev WY:=D->aW->Option aW
def tQ(i:Nat):WY:=λd ρ=>aa (ρ.set i (.ro d))
def PZ(i j:Nat):WY:=λd ρ=>(uO d).map λp=>(ρ.set i (.ro p.1)).set j (.ro p.2)
noncomputable def fH(g:WY)(b:SF):List D->aW->Out
 |[],ρ=>.nx ρ
 |d::ds,ρ=>match g d ρ with
  |none=>.no
  |some ρ1=>match b ρ1 with
   |.nx ρ2=>fH g b ds ρ2
   |o=>o
def eT(it:AF)(g:WY)(b:SF):SF:=λρ=>match it (fG ρ) with
 |some ds=>fH g b ds ρ
 |none=>.no
def bL(n:Nat)(ds:List D):aW:=ds.map Sv.ro++cp (n-ds.length) Sv.no
noncomputable def bM(n a:Nat)(b:SF):kT:=λds=>if ds.length=a then(match b (bL n ds) with
 |.rt d=>.ok d
 |.nx _=>.ok .non
 |.ex c=>.ex c
 |.no=>.no) else .no
noncomputable def d9:List Int->List Int->Bool
 |[],[]=>ag
 |[],_::_=>ae
 |_::_,[]=>ag
 |a::as,b::bs=>if a=b then d9 as bs else Zv (a<b)
def GY(t:Q0e):List (List Int)->List (List Int)
 |[]=>[t]
 |u::us=>if d9 u t=ae then u::GY t us else t::u::us
def pE:List (List Int)->List (List Int)
 |[]=>[]
 |t::ts=>GY t (pE ts)
def l8(t:Q0e):D:=.tup (t.map D.int)
def U0:D->Option (List Int)
 |.tup ds=>intsOf ds
 |_=>af
def lB:List D->Option (List (List Int))
 |[]=>aa []
 |d::ds=>(U0 d).bind λt=>(lB ds).map (t :: ·)
def lC:List D->Option D
 |[.lst a]=>(lB a).bind λc=>if c.length<64/\c.all (λt=>!t.isEmpty)=ae then aa (.lst ((pE c).map l8)) else af
 |_=>af
theorem B0:∀a b:Q0e,d9 a b=ae->d9 b a=ag
 |[],[],h=>by cases h
 |[],_::_,_=>rfl
 |_::_,[],h=>by cases h
 |a::as,b::bs,h=>by
  unfold d9 at h ⊢;by_cases e:a=b
  .rw [Z_ e] at h;rw[Z_ e.symm];show B0 as bs h
  .rw [Zz e] at h;rw[Zz (fg e)];simp at h ⊢;lia
theorem B1:∀a b c:Q0e,d9 b a=ag->d9 c b=ag->d9 c a=ag
 |[],[],c,h1,h2=>h2
 |[],b::bs,[],h1,h2=>rfl
 |[],b::bs,c::cs,h1,h2=>rfl
 |a::as,[],c,h1,h2=>by cases h1
 |a::as,b::bs,[],h1,h2=>by cases h2
 |a::as,b::bs,c::cs,h1,h2=>by
  unfold d9 at h1 h2 ⊢;by_cases e1:b=a
  .subst e1;rw[Z_ rfl] at h1;by_cases d:c=b
   .subst d;rw[Z_ rfl] at h2 ⊢;show B1 as bs cs h1 h2
   .rw [Zz d] at h2 ⊢;show h2
  .rw [Zz e1] at h1;by_cases d:c=b
   .subst d;rw[Zz e1];show h1
   .rw [Zz d] at h2;simp at h1 h2;rw[Zz ∅];simp;lia
theorem KG:∀a b:Q0e,d9 a b=ag->d9 b a=ag->a=b
 |[],[],_,_=>rfl
 |[],_::_,h1,_=>by cases h1
 |_::_,[],_,h2=>by cases h2
 |a::as,b::bs,h1,h2=>by
  unfold d9 at h1 h2;by_cases e:a=b
  .subst e;rw[Z_ rfl] at h1 h2;rw[KG as bs h1 h2]
  .rw [Zz e] at h1;rw[Zz (fg e)] at h2;simp at h1 h2;lia
theorem nR(t:Q0e):∀l,(GY t l).Perm (t::l)
 |[]=>.refl _
 |u::us=>by
  unfold GY;by_cases h:d9 u t=ae
  .rw [Z_ h];show((nR t us).cons u).trans (.swap t u us)
  .rw [Zz h]
theorem iN:∀l,(pE l).Perm l
 |[]=>.refl _
 |t::ts=>(nR t _).trans ((iN ts).cons t)
def UpT(l:Q0a):Prop:=l.Pairwise λa b=>d9 b a=ag
theorem EJ(t:Q0e):∀l,UpT l->UpT (GY t l)
 |[],_=>a0H _ _
 |u::us,h=>by
  have⟨h1,h2⟩:=fz.mp h;unfold GY;by_cases e:d9 u t=ae
  .rw [Z_ e];show fz.mpr ⟨λx a=>?_,EJ t us h2⟩;rcases bx.mp ((nR t us).mem_iff.mp a) with rfl|a
   .exact B0 _ _ e
   .exact h1 x a
  .rw [Zz e];have e:d9 u t=ag:=by simpa using e
   show fz.mpr ⟨λx a=>?_,h⟩;rcases(bx.mp a:x=u\/x∈us) with rfl|a
   .exact e
   .exact B1 t u x e (h1 x a)
theorem zF:∀l,UpT (pE l)
 |[]=>.nil
 |t::ts=>EJ t _ (zF ts)
theorem EK:∀{l m:Q0a},l.Perm m->UpT l->UpT m->l=m
 |[],m,p,_,_=>by rw[a0J.mp p]
 |a::l,[],p,_,_=>by have:=p.length_eq;simp at this
 |a::l,b::m,p,h1,h2=>by
  obtain⟨q,o⟩:=fz.mp h1;obtain⟨n,j⟩:=fz.mp h2;have e:a=b:=by
   have d:=bx.mp (p.mem_iff.mp de);have c:=bx.mp (p.mem_iff.mpr de);rcases d with h|h
   .exact h
   .rcases c with h' | h'
    .exact h'.symm
    .exact KG _ _ (n a h) (q b h')
  subst e;rw[EK p.cons_inv o j]
noncomputable def tW(f:D->D->Option Bool):List D->List D->Option Bool
 |d::ds,e::es=>(f d e).bind λx=>(tW f ds es).map (x && ·)
 |_,_=>aa ae
def eqP:Nat->D->D->Option Bool
 |_,.int i,.int j=>aa (Zv (i=j))
 |_,.bl i,.bl j=>if i=j then aa ae else af
 |_,.str i,.str j=>if i=j then aa ae else af
 |n+1,.tup a,.tup b=>(tW (eqP n) a b).map λr=>r&&Zv (a.length=b.length)
 |_,_,_=>af
theorem nU:∀{a b:List D} {r:Bool},tW f a b=aa r ->∃e:Nat->Bool,(∀(j:Nat) (x y:D),a[j]?=aa x->b[j]?=aa y->f x y=aa (e j))/\r=(cm (min a.length b.length)).all e
 |[],b,r,h=>by cases h;show⟨λ_=>ae,λj x y l=>by simp at l,by simp⟩
 |d::ds,[],r,h=>by cases h;show⟨λ_=>ae,λj x y _ h2=>by simp at h2,by simp⟩
 |d::ds,c::cs,r,h=>by
  unfold tW at h
  cases q:f d c with
  |none=>rw[q] at h;cases h
  |some x =>
   rw[q] at h
   cases q2:tW f ds cs with
   |none=>simp[q2] at h
   |some y =>
    simp[q2] at h;obtain⟨e,l,h2⟩:=nU q2;show⟨λj=>match j with|0=>x|j+1=>e j,λj u v e1 m=>?_,?_⟩
    .cases j with
     |zero=>cases e1;cases m;show q
     |succ j=>show l j u v (by simpa using e1) (by simpa using m)
    .rw [<- h,h2,fj,fj,show min (ds.length+1) (cs.length+1)=min ds.length cs.length+1 by lia,yu,mr,vg];rfl
abbrev RF:=bK->Option aj
noncomputable def Bc:M D->Option aj
 |.ex c=>aa c
 |_=>af
def uP(R:kT)(t:AF):RF:=λρ=>(t ρ).bind λds=>Bc (R ds)
def B3(r:RF)(f:SF):SF:=λρ=>match r (bA ρ) with
 |some c=>.ex c
 |none=>f ρ
def wV(t:AF)(c:aj):SF:=λρ=>match t (bA ρ) with
 |some ds=>if ds.length<=10 then .ex c else .no
 |none=>.no
noncomputable def wW(c:aj)(e:Nat)(b:Bool)(i:Nat):EF:=λρ=>match aT i ρ with
 |some (.exc c' a)=>if c'=c/\a=e then aa (.bl b) else af
 |_=>af
theorem EL(h:wW c e b i ρ=aa d):aT i ρ=aa (.exc c e)/\d=.bl b:=by
 unfold wW at h;split at h
 .rename_i c' a q;by_cases z:c'=c/\a=e
  .rw [Z_ z] at h;cases h;rw[q,z.1,z.2];show⟨rfl,rfl⟩
  .rw [Zz z] at h;cases h
 .cases h
def KH:D->D->Option D:=gW (λi j=>Zv (0<=j)&&Zv (j<=100)&&Zv (i.natAbs<2^1000)) λi j=>.int (i^j.toNat)
def U1(f:EF)(r:RF):RF:=λρ=>(f ρ).bind λ_=>r ρ
def KI(i:Nat)(h c:EF):XF:=λρ=>(l6 ρ[i]?).bind λds=>(h (bA ρ)).bind λk=>(asInt k).bind λa=>(c (bA ρ)).bind λd =>
 if d.wQ=ae/\0<=a/\a<=(ds.length:Int)/\ds.length<i5 then aa (ρ.set i (.ow (.lst (ds.take a.toNat++d::ds.drop a.toNat))),.non) else af
noncomputable def GZ(x:XF)(g:WY):SF:=λρ=>match (x ρ).bind λp=>g p.2 p.1 with
 |some ρ'=>.nx ρ'
 |none=>.no
def zG(i j:Nat)(t:AF):SF:=λρ=>match t (fG ρ) with
 |some [x,y]=>.nx ((ρ.set i (.ro x)).set j (.ro y))
 |_=>.no
def jC:List D->Option D
 |[.tup ds]=>(intsOf ds).bind λns=>if ns.length<64 then aa (.lst ((sortI ns).map D.int)) else af
 |_=>af
abbrev pW:Nat->ay->Prop:=λ_ _=>True
def adr(q:Nat->ay->Prop):Nat->ay->Prop:=λa _=>∃o,q a o
abbrev wZ:=Sum Int aj
abbrev PN1:=List (Sum wZ (List wZ))
abbrev nV:=Sum wZ PN1
def KJ:List D->Option (List wZ)
 |[]=>aa []
 |d::ds=>(qZ d).bind λk=>(KJ ds).map (k :: ·)
def U2:D->Option (Sum wZ (List wZ))
 |.tup ds=>(KJ ds).map .inr
 |d=>(qZ d).map .inl
def nW:List D->Option PN1
 |[]=>aa []
 |d::ds=>(U2 d).bind λk=>(nW ds).map (k :: ·)
def pX:D->Option nV
 |.tup ds=>(nW ds).map .inr
 |d=>(qZ d).map .inl
noncomputable def dK:wZ->D
 |.inl i=>.int i
 |.inr x=>.str x
def KL:Sum wZ (List wZ)->D
 |.inl k=>dK k
 |.inr ks=>.tup (ks.map dK)
def U3:nV->D
 |.inl k=>dK k
 |.inr ks=>.tup (ks.map KL)
def bF(ks:List nV)(ds:List D)(k:nV):Option D:=((ks.zip ds).find? λp=>Zv (p.1=k)).map (·.2)
def kindB(ks:List nV)(k:nV):Bool:=ks.all λq=>q.isLeft == k.isLeft
def aJY:D->D->Option D
 |.cN _ ks ds,d=>(pX d).bind λk=>if kindB ks k=ae then bF ks ds k else af
 |_,_=>af
def G0(neg:Bool):D->D->Option D
 |d,.cN _ ks ds=>(pX d).bind λk=>if kindB ks k=ae then aa (.bl (if neg then !(bF ks ds k).isSome else(bF ks ds k).isSome)) else af
 |_,_=>af
def dF(ks:List nV)(ds:List D)(k:nV)(v:D):List nV×List D :=
 if ks.any (λq=>Zv (q=k))=ae then(ks,(ks.zip ds).map λp=>if p.1=k then v else p.2) else(ks++[k],ds++[v])
def KN:D->Option (List D)
 |.cN _ ks _=>aa (ks.map U3)
 |_=>af
noncomputable def B4:Option Sv->Option ((Nat->ay->Prop)×List nV×List D)
 |some (.ow (.cN q ks ds))=>aa (q,ks,ds)
 |_=>af
def U4(i:Nat):SF:=λρ=>.nx (ρ.set i (.ow (.cN pW [] [])))
def pF(i:Nat)(x:XF)(k:EF):SF:=λρ=>match ((x ρ).bind λp=>(B4 p.1[i]?).bind λkd=>(k (bA p.1)).bind λc=>(pX c).bind λa =>
  if kindB kd.2.1 a=ae/\kd.2.2.length<i5 then aa (p.1.set i (.ow (.cN (adr kd.1) (dF kd.2.1 kd.2.2 a p.2).1 (dF kd.2.1 kd.2.2 a p.2).2))) else af) with
 |some ρ'=>.nx ρ'
 |none=>.no
abbrev KD:=List nV×List D
abbrev J0:=List D->KD->M (D×KD)
def startM(n:Nat)(ds:List D)(q:Nat->ay->Prop)(kd:KD):aW:=ds.map Sv.ro++Sv.ow (.cN q kd.1 kd.2)::cp (n-(ds.length+1)) Sv.no
def QC(j:Nat)(k:EF)(q:Nat->ay->Prop):aW->Option (D×KD):=λρ=>(B4 ρ[j]?).bind λkd=>(k (fG ρ)).bind λh=>(pX h).bind λc=>@ite _ (kindB kd.2.1 c=ae /\∀a o,kd.1 a o ->∃o2,q a o2) (Er _) ((bF kd.2.1 kd.2.2 c).map λd=>(d,kd.2)) af
def rF(n a:Nat)(b:SF)(k:EF)(q:Nat->ay->Prop)(ds:List D)(kd:KD):Option (D×KD):=if ds.length+1=a then(match b (startM n ds q kd) with
 |.nx ρ=>QC (a-1) k q ρ
 |_=>af) else af
def runM(n a:Nat)(b:SF)(k:EF):J0:=λds kd=>@dite _ (∃r,∀q,rF n a b k q ds kd=aa r) (Er _) (λh=>.ok h.choose) λ_=>.no
def EM(h:runM n np b k ds kd=.ok r)(q:Nat->ay->Prop):rF n np b k q ds kd=aa r:=by
 unfold runM at h;split at h
 .rename_i hx;cases h;show hx.choose_spec q
 .cases h
theorem QD(h:∀q,rF n np b k q ds kd=aa r):runM n np b k ds kd=.ok r:=by have a:∃r,∀q,rF n np b k q ds kd=aa r:=⟨r,h⟩;unfold runM;rw[dif_pos a];have e:=a.choose_spec pW;rw[h pW] at e;rw[ee e]
def stepM(R:J0)(t:AF)(j:Nat)(ρ:aW):Option ((Nat->ay->Prop)×D×KD):=(t (fG ρ)).bind λds=>(B4 ρ[j]?).bind λkd=>match R ds kd.2 with
 |.ok r=>aa (kd.1,r)
 |_=>af
def QE(R:J0)(t:AF)(j:Nat):SF:=λρ=>match stepM R t j ρ with
 |some r=>.nx (ρ.set j (.ow (.cN (adr r.1) r.2.2.1 r.2.2.2)))
 |none=>.no
def nnC(i j:Int):Bool:=Zv (0<=i)&&Zv (0<=j)
def QF:D->D->Option D:=gW (λi j=>Zv (0<=j)&&Zv (j.natAbs<=1000000)&&Zv (i.natAbs<18446744073709551616)) λi j=>.int (i*2^j.toNat)
def QG:D->D->Option D:=gW (λ_ j=>Zv (0<=j)) λi j=>.int (i/2^j.toNat)
def uQ:D->D->Option D:=gW nnC λi j=>.int ((i.toNat &&& j.toNat:Nat):Int)
noncomputable def rG(h:SF)(a:aj->Option aW)(fr:SF):SF:=λρ=>match h ρ with
 |.ex c=>(match a c with
  |some ρ1=>(match fr ρ1 with
   |.rt d=>.rt d
   |_=>.no)
  |none=>.no)
 |.nx ρ'=>fr ρ'
 |.rt d=>.rt d
 |.no=>.no
noncomputable def rH(key:EF)(ρ:bK):List D->Option (List D)
 |[]=>aa []
 |d::ds=>(key (ρ.set 0 (aa d))).bind λk=>(rH key ρ ds).map (k :: ·)
theorem uR:∀{ds ks:List D} {i:Nat} {d:D},rH key ρ ds=aa ks->ds[i]?=aa d ->∃k,ks[i]?=aa k/\key (ρ.set 0 (aa d))=aa k
 |[],ks,i,d,h,hd=>by cases hd
 |d0::ds,ks,i,d,h,hd=>by
  unfold rH at h
  cases e:key (ρ.set 0 (aa d0)) with
  |none=>rw[e] at h;cases h
  |some k =>
   rw[e] at h
   cases e2:rH key ρ ds with
   |none=>rw[e2] at h;cases h
   |some r =>
    rw[e2] at h;cases h
    cases i with
    |zero=>cases hd;show⟨k,rfl,e⟩
    |succ i =>
     obtain⟨a,c,h2⟩:=uR (i:=i) (d:=d) e2 (by rw[ny] at hd;show hd);show⟨a,by rw[<- c];show ny,h2⟩
structure TO {α:Type} (lt:α->α->Bool):Prop where
 as:∀x y,lt x y=ae->lt y x=ag
 tr:∀x y z,lt x y=ag->lt y z=ag->lt x z=ag
 one:∀x y,lt x y=ag->lt y x=ag->x=y
theorem TO.G2{α:Type}{lt:α->α->Bool}(O:TO lt)(x:α):lt x x=ag:=by
 cases h:lt x x with
 |false=>rfl
 |true=>rw[O.as x x h] at h;cases h
noncomputable def G3{α:Type}(lt:α->α->Bool)(a:α):List α->List α
 |[]=>[a]
 |b::l=>if lt b a=ae then b::G3 lt a l else a::b::l
def jD{α:Type}(lt:α->α->Bool):List α->List α
 |[]=>[]
 |a::l=>G3 lt a (jD lt l)
section
variable{α:Type}{lt:α->α->Bool}
theorem nX(a:α):∀l:List α,(G3 lt a l).Perm (a::l)
 |[]=>.refl _
 |b::l=>by
  unfold G3;split
  .exact ((nX a l).cons b).trans (.swap a b l)
  .exact .refl _
theorem eB:∀l:List α,(jD lt l).Perm l
 |[]=>.refl _
 |a::l=>(nX a _).trans ((eB l).cons a)
def WZ(lt:α->α->Bool)(l:List α):Prop:=l.Pairwise λa b=>lt b a=ag
theorem EN(O:TO lt)(a:α):∀l:List α,WZ lt l->WZ lt (G3 lt a l)
 |[],_=>a0H ..
 |b::l,h=>by
  obtain⟨j,h2⟩:=fz.1 h;unfold G3;split
  .rename_i c;show fz.2 ⟨λx d=>?_,EN O a l h2⟩;rcases bx.1 ((nX a l).mem_iff.1 d) with rfl|d
   .exact O.as _ _ c
   .exact j x d
  .rename_i c;have c:lt b a=ag:=by simpa using c
   show fz.2 ⟨λx d=>?_,h⟩;rcases bx.1 d with rfl|d
   .exact c
   .exact O.tr x b a (j x d) c
theorem l9(O:TO lt):∀l:List α,WZ lt (jD lt l)
 |[]=>.nil
 |a::l=>EN O a _ (l9 O l)
theorem qF(O:TO lt):∀{l m:List α},l.Perm m->WZ lt l->WZ lt m->l=m
 |[],m,p,_,_=>(a0J.1 p).symm
 |a::l,[],p,_,_=>by cases (Dx.1 p)
 |a::l,b::m,p,h,k=>by
  obtain⟨j,h2⟩:=fz.1 h;obtain⟨k1,k2⟩:=fz.1 k;have e:a=b:=by
   rcases bx.1 (p.mem_iff.1 (de (a:=a) (l:=l))) with e|d
   .exact e
   rcases bx.1 (p.mem_iff.2 (de (a:=b) (l:=m))) with e|c
   .exact e.symm
   show O.one a b (k1 a d) (j b c)
  subst e;rw[qF O (a2n p) h2 k2]
theorem QH(O:TO lt)(p:l.Perm m):jD lt l=jD lt m:=qF O (((eB l).trans p).trans (eB m).symm) (l9 O l) (l9 O m)
noncomputable def rJ[DecidableEq α](lt:α->α->Bool):List α->List α->Bool
 |[],[]=>ag
 |[],_::_=>ae
 |_::_,[]=>ag
 |a::l,b::m=>if a=b then rJ lt l m else lt a b
theorem w4[DecidableEq α](O:TO lt):TO (rJ lt) where
 as:=λx=>by
  induction x with
  |nil=>intro y h;cases y with
   |nil=>cases h
   |cons b m=>rfl
  |cons a l ih=>intro y h;cases y with
   |nil=>cases h
   |cons b m =>
    unfold rJ at h ⊢;by_cases e:a=b
    .rw [Z_ e] at h;rw[Z_ e.symm];show ih m h
    .rw [Zz e] at h;rw[Zz (fg e)];show O.as a b h
 one:=λx=>by
  induction x with
  |nil=>intro y h k;cases y with
   |nil=>rfl
   |cons b m=>cases h
  |cons a l ih=>intro y h k;cases y with
   |nil=>cases k
   |cons b m =>
    unfold rJ at h k;by_cases e:a=b
    .rw [Z_ e] at h;rw[Z_ e.symm] at k;rw[e,ih m h k]
    .rw [Zz e] at h;rw[Zz (fg e)] at k;show Zw (O.one a b h k) e
 tr:=λx=>by
  induction x with
  |nil=>intro y z h k;cases y with
   |nil=>show k
   |cons b m=>cases h
  |cons a l ih=>intro y z h k;cases y with
   |nil=>cases z with
    |nil=>rfl
    |cons c n=>cases k
   |cons b m=>cases z with
    |nil=>rfl
    |cons c n =>
     unfold rJ at h k ⊢;by_cases e:a=b
     .subst e;rw[Z_ rfl] at h;by_cases f:a=c
      .rw [Z_ f] at k ⊢;show ih m n h k
      .rw [Zz f] at k ⊢;show k
     .rw [Zz e] at h;by_cases f:b=c
      .subst f;rw[Zz e];show h
      .rw [Zz f] at k;by_cases g:a=c
       .subst g;show Zw (O.one a b h k) e
       .rw [Zz g];show O.tr a b c h k
def iA{a:Type}[DecidableEq α](lt:α->α->Bool)(c:a->a->Bool)(x y:α×a):Bool:=if x.1=y.1 then c x.2 y.2 else lt x.1 y.1
theorem jE{a:Type}[DecidableEq α]{c:a->a->Bool}(O:TO lt)(P:TO c):TO (iA lt c) where
 as:=λx y h=>by
  unfold iA at h ⊢;by_cases e:x.1=y.1
  .rw [Z_ e] at h;rw[Z_ e.symm];show P.as _ _ h
  .rw [Zz e] at h;rw[Zz (fg e)];show O.as _ _ h
 one:=λx y h k=>by
  unfold iA at h k;by_cases e:x.1=y.1
  .rw [Z_ e] at h;rw[Z_ e.symm] at k;show a0k e (P.one _ _ h k)
  .rw [Zz e] at h;rw[Zz (fg e)] at k;show Zw (O.one _ _ h k) e
 tr:=λx y z h k=>by
  unfold iA at h k ⊢;by_cases e:x.1=y.1
  .rw [Z_ e] at h;by_cases f:x.1=z.1
   .rw [Z_ f];rw[Z_ (e.symm.trans f)] at k;show P.tr _ _ _ h k
   .rw [Zz f];rw[Zz (λg=>f (e.trans g))] at k;rw[e];show k
  .rw [Zz e] at h;by_cases f:y.1=z.1
   .rw [Zz (λg=>e (g.trans f.symm)),<- f];show h
   .rw [Zz f] at k;by_cases g:x.1=z.1
    .rw [<- g] at k;show Zw (O.one _ _ h k) e
    .rw [Zz g];show O.tr _ _ _ h k
end
noncomputable def tX{α:Type}(f:D->Option α):List D->Option (List α)
 |[]=>aa []
 |d::ds=>(f d).bind λx=>(tX f ds).map (x :: ·)
theorem kB{α:Type}{f:D->Option α}{g:α->D}(h:∀d x,f d=aa x->d=g x):∀{ds:List D} {xs:List α},tX f ds=aa xs->ds=xs.map g
 |[],_,e=>by cases e;rfl
 |d::ds,xs,e=>by unfold tX at e;obtain⟨x,e1,e⟩:=Option.bind_eq_some_iff.1 e;obtain⟨ys,a,rfl⟩:=lh.1 e;rw[cf,h d x e1,kB h a]
theorem mB{α:Type}{f:D->Option α}{g:α->D}(h:∀x,f (g x)=aa x):∀xs:List α,tX f (xs.map g)=aa xs
 |[]=>rfl
 |x::xs=>by rw[cf,tX,h,mB h xs];rfl
def w8{α:Type}(f:D->Option α)(g:α->D)(lt:α->α->Bool):List D->Option D
 |[.lst ds]=>(tX f ds).bind λT=>if T.length<=5000 then aa (.lst ((jD lt T).map g)) else af
 |_=>af
abbrev EO(a b:Int):Bool:=Zv (a<b)
def jF:TO EO:=⟨λa b h=>by simp at h ⊢;lia,λa b c h k=>by simp at h k ⊢;lia,λa b h k=>by simp at h k;lia⟩
theorem ER:∀a b:Q0e,d9 a b=rJ EO a b
 |[],[]=>rfl
 |[],_::_=>rfl
 |_::_,[]=>rfl
 |a::l,b::m=>by rw[d9,rJ,ER l m]
abbrev QI:=Int×List Int
abbrev QJ(x:QI):D:=.tup [.int x.1,.tup (x.2.map D.int)]
def ES:D->Option QI
 |.tup [.int k,.tup a]=>(intsOf a).map λl=>(k,l)
 |_=>af
abbrev zH:QI->QI->Bool:=iA EO (rJ EO)
abbrev B5:List D->Option D:=w8 ES QJ zH
def ET:TO zH:=jE jF (w4 jF)
end L4
namespace Ord
structure Rows (rows:Q0a):Prop where
 up:∀(b:Nat) (r:Q0e),rows[b]?=aa r->r.Pairwise (·<·)
 rng:∀(b:Nat) (r:Q0e),rows[b]?=aa r ->∀a∈r,0<=a/\a<(rows.length:Int)
 tr:∀(b a:Nat) (r v:Q0e),rows[b]?=aa r->(a:Int)∈r->rows[a]?=aa v ->∀c∈v,c∈r
 G2:∀(b:Nat) (r:Q0e),rows[b]?=aa r->(b:Int)∉r
theorem rK{α:Type}:∀(l:List α) (j:Nat) (x:α),l[j]?=aa x->(x::l.eraseIdx j).Perm l
 |[],j,x,h=>by simp at h
 |a::l,0,x,h=>by simp at h;subst h;simp
 |a::l,j+1,x,h=>by have c:=rK l j x (by simpa using h);rw[List.eraseIdx_cons_succ];show(a2m a x _).trans (c.cons a)
def w9{l:Q0e}(p:Int->Bool)(h:l.Nodup):(l.filter p).Nodup:=vi p h
def Under(d:Q0e)(us:Q0a)(t:Nat)(u:Q0e):Prop :=
 u.Nodup /\∀a∈u,∃(s:Nat) (v:Q0e),s<t/\d[s]?=aa a/\us[s]?=aa v /\∀c∈v,c∈u
def Good(a:Q0e)(us:Q0a):Prop:=∀(t:Nat) (u:Q0e),us[t]?=aa u->Under a us t u
def Under.mono(h:Under Ξ us t u)(l:t<=t'):Under Ξ us t' u :=
 ⟨h.1,λa c=>by obtain⟨s,v,m,h2,j,d⟩:=h.2 a c;show⟨s,v,by lia,h2,j,d⟩⟩
def rL{c:Q0e}(h:c.Nodup){i j:Nat}{a:Int}(l:c[i]?=aa a)(d:c[j]?=aa a):i=j:=by obtain⟨n,e1⟩:=dh.mp l;obtain⟨h2,m⟩:=dh.mp d;show(a0Q h).mp (e1.trans m.symm)
theorem Under.step{j:Q0e}{us:Q0a}{i:Nat}{u v:Q0e}{x:Int}(hw:j.Nodup)(g:Good j us)(h:Under j us i u)(A:j[i]?=aa x)(F:us[i]?=aa v):
  Under j us (i+1) (u++(v++[x]).filter λa=>!u.contains a):=by
 have o:=g i v F;have mem:∀c,c∈v++[x]->c∈u++(v++[x]).filter λa=>!u.contains a:=λc d=>by
  by_cases I:c∈u
  .exact gj _ I
  .exact gm _ (iy.mpr ⟨d,by simpa using I⟩)
 have J:(v++[x]).Nodup:=by show rn.mpr ⟨o.1,by simp,λa m b l e=>?_⟩;have l:=cg.mp l;subst l;subst e;obtain⟨s,_,n,h2,_⟩:=o.2 a m;have:=rL hw h2 A;lia
 show⟨rn.mpr ⟨h.1,w9 _ J,λa m b l e=>?_⟩,λa m=>?_⟩
 .subst e;have:=(iy.mp l).2;simp at this;show this m
 .rcases gn.mp m with n|n
  .obtain ⟨s,z,K,y,q,p⟩:=h.2 a n;show⟨s,z,by lia,y,q,λc d=>gj _ (p c d)⟩
  .rcases gn.mp (iy.mp n).1 with h2|h2
   .obtain ⟨s,z,K,y,q,p⟩:=o.2 a h2;show⟨s,z,by lia,y,q,λc d=>mem c (gj _ (p c d))⟩
   .have e:=cg.mp h2;subst e;show⟨i,v,by lia,A,F,λc d=>mem c (gj _ d)⟩
def Good.snoc(g:Good Ξ us)(h:Under Ξ us us.length u):Good Ξ (us++[u]):=λt z e=>by
 have old:∀{s:Nat} {v:Q0e},us[s]?=aa v->(us++[u])[s]?=aa v:=λ{s v} e=>by rw[j_ (dh.mp e).1];show e
 have up:∀{t:Nat} {z:Q0e},Under Ξ us t z->Under Ξ (us++[u]) t z:=λ{t z} q=>⟨q.1,λa d=>by obtain⟨s,v,o,n,m,l⟩:=q.2 a d;show⟨s,v,o,n,old m,l⟩⟩;by_cases c:t<us.length
 .rw [j_ c] at e;show up (g t z e)
 .have j:t=us.length:=by have:=(dh.mp e).1;simp at this;lia
  subst j;rw[jz (bp _),a0s] at e;have e:u=z:=by simpa using e
  subst e;show up h
theorem Good.rows{d:Q0e}{us rows:Q0a}{n:Nat}(g:Good d us)(Y:us.length=n)(hw:d.Perm ((cm n).map λk:Nat=>(k:Int)))(Z:rows.length=n)
  (h:∀(b t:Nat) (r u:Q0e),rows[b]?=aa r->d[t]?=aa (b:Int)->us[t]?=aa u->r.Perm u/\r.Pairwise (· <= ·)):Rows rows:=by
 have nd:d.Nodup:=hw.nodup_iff.mpr (by
  show vh _ (λa b y=>?_) a0I;intro e;show y ∅)
 have find:∀(b:Nat),b<n ->∃t u,d[t]?=aa (b:Int)/\us[t]?=aa u:=λb o=>by
  have x:(b:Int)∈d:=hw.mem_iff.mpr (gd.mpr ⟨b,ll.mpr o,rfl⟩);obtain⟨t,F⟩:=yx.mp x;have hl:d.length=n:=by rw[hw.length_eq,bo,jk]
  have:=(dh.mp F).1;show⟨t,us[t]'∅,F,cj ∅⟩
 have row:∀(b:Nat) (r:Q0e),rows[b]?=aa r ->∃t u,d[t]?=aa (b:Int)/\us[t]?=aa u/\r.Perm u/\r.Pairwise (· <= ·):=λb r e=>by have o:=(dh.mp e).1;obtain⟨t,u,l,h2⟩:=find b ∅;show⟨t,u,l,h2,h b t r u e l h2⟩
 show⟨λb r e=>?_,λb r e a A=>?_,λb a r v e A ev c L=>?_,λb r e o=>?_⟩
 .obtain ⟨t,u,l,h2,j,p⟩:=row b r e;have J:r.Nodup:=j.nodup_iff.mpr (g t u h2).1;show(List.pairwise_and_iff.mpr ⟨p,J⟩).imp λq=>by have:=q.1;have:=q.2;lia
 .obtain ⟨t,u,l,h2,j,p⟩:=row b r e;obtain⟨s,z,_,m,_⟩:=(g t u h2).2 a (j.mem_iff.mp A);have x:=hw.mem_iff.mp (pj m);obtain⟨k,K,rfl⟩:=gd.mp x;have:=ll.mp K;lia
 .obtain ⟨t,u,l,h2,j,p⟩:=row b r e;obtain⟨t2,u2,k1,k2,k3,X⟩:=row a v ev;obtain⟨s,z,_,m,I,U⟩:=(g t u h2).2 _ (j.mem_iff.mp A);have O:=rL nd m k1;subst O;rw[k2] at I;cases I;show j.mem_iff.mpr (U c (k3.mem_iff.mp L))
 .obtain ⟨t,u,l,h2,j,p⟩:=row b r e;obtain⟨s,z,a1,m,_⟩:=(g t u h2).2 _ (j.mem_iff.mp o);have:=rL nd m l;lia
noncomputable def tri:Nat->Nat
 |0=>0
 |j+1=>tri j+j
theorem KP(h:i<=j):tri i<=tri j:=by
 induction h with
 |refl=>show bp _
 |step _ ih=>show ig ih (a0C _ _)
def W0(a:j<n)(c:i<j):tri j+i<tri n:=by have:=KP (show j+1<=n by lia);show tri j+i<tri n;have e:tri (j+1)=tri j+j:=rfl;lia
theorem eU:∀(l m:Q0e),l.Nodup->(∀a∈l,a∈m)->l.length<=m.length
 |[],m,_,_=>ie _
 |a::l,m,h,hs=>by
  obtain⟨n,h2⟩:=kl.mp h;have d:=hs a de;have j:=eU l (m.erase a) h2 λb c=>by have:b≠a:=λe=>n (e▸c);show(List.mem_erase_of_ne this).mpr (hs b (gf _ c))
  rw[a0O d] at j;have:0<m.length:=List.length_pos_of_mem d;rw[fj];lia
end Ord
namespace LL
open L3 L4
def c6:kT:=bM 2 2
  (aO (gZ (tV (aB qD (cL b7 (bS 0)) (eI 0)))
   (cC (eI 0))
   dJ)
  (cC (aB dI cV (aB dB dU (cL b7 (bS 0))))))
def eD:kT:=bM 5 3
  (aO (bH 3 (aB dB (aB mulM (aB cP (aB cP (aB cP cV (aB mulM (aB mulM (eI 11) dU) dU)) (aB mulM (eI 17) dU)) fM) (eI 48271)) (eI 2147483647)))
  (aO (bH 4 (aB dB (aB cP (aB cP (aB mulM nM (aB cP (aB qW nM (eI 4096)) (eI 5))) (aB mulM (eI 29) dU)) fM) (eI 2147483629)))
  (cC (aB dB (aB mulM nN (eI 39373)) (eI 1000000007)))))
def c7:kT:=bM 6 3
  (aO (l7 3 (dC aJ))
  (aO (bH 4 (eI 0))
  (aO (gZ (tV (aB geM cV (aB zC (eI 10) (eI 18))))
   (bH 4 cV)
   dJ)
  (aO (eT (bX (bS 1)) (tQ 5)
   (gZ (tV (aB qX nN (eI 0)))
    (aO (sX (qE 3 kX (cB (aB dB nN (eI 64)))))
    (bH 4 (aB qW nN (eI 64))))
    (sX (qE 3 kX (cB (aN LL.eD (aA cV (aA UY (bS 2)))))))))
  (cC nM)))))
def bQ:Nat->kT
 |0=>λ_=>.no
 |n+1=>bM 2 2
  (aO (gZ (tV (i6 "tuple" dU))
   (aO (gZ (WN (nO (tV (i6 "tuple" cV))) (tV (aB neM (cL b7 (bS 0)) (cL b7 (bS 1)))))
    (cC (eC (.bl ag)))
    dJ)
   (cC (cL allM (aA (bT 1 [0,1] (bX (aA (cL b7 (bS 1)) aJ)) (g1 0) cK (aN (bQ n) (aA (aB dI dU cV) (aA (aB dI fM cV) aJ)))) aJ))))
   dJ)
  (aO (gZ (tV (aB P7 dU (eC .non)))
   (cC (aB P7 cV (eC .non)))
   dJ)
  (aO (gZ (tV (i6 "bool" dU))
   (cC (jA (i6 "bool" cV) (aB qD cV dU)))
   dJ)
  (aO (gZ (tV (i6 "int" dU))
   (cC (jA (i6 "int" cV) (jA (tT (i6 "bool" cV)) (aB qD cV dU))))
   dJ)
  (cC (jA (i6 "str" cV) (aB qD cV dU)))))))
def kC:kT:=bM 11 3
  (aO (l7 3 (BY (bS 1)))
  (aO (l7 4 (dC aJ))
  (aO (eT (bX (bS 1)) (tQ 5)
   (sX (qE 4 kX (qE 3 QB (J9 (aB dB (aB dI cV UY) (cL b7 (bS 3))))))))
  (aO (zE 6)
  (aO (bH 7 dU)
  (aO (eT (bX (bS 1)) (tQ 8)
   (aO (bH 9 (dC aJ))
   (aO (eT (bX (bS 8)) (tQ 10)
    (aO (gZ (tV (aB ltM (aB dB (aB dI cV zr) (eI 4)) fM))
     (rD 9 (aB GW wc (bT 1 [9] (bI (aB cP (aB rA WM (aB dI nN y9)) (dC (aA (aB dI nN y9) aJ)))) (g1 0) (tV (aB (nQ ae) cV dU)) cV)))
     dJ)
    (bH 7 (aB cP zr (eI 1)))))
   (EI 6 (cB wc) (aB dI nN qj)))))
  (cC (cL cQ (aA (bT 1 [6] (bX (bS 1)) (g1 0) cK (cL cQ (aA (cL gY (aA (aB rA dU cV) aJ)) aJ))) aJ)))))))))
def kD:kT:=bM 7 4
  (aO (bH 4 (aN LL.c7 (aA (aN LL.c6 (aA cV (bS 1))) (aA (eI 4) (bS 3)))))
  (aO (bH 5 (aB dB (aB dI nN (eI 0)) (aB cP fM (eI 1))))
  (aO (bH 6 (aN LL.c7 (aA (aN LL.c6 (aA cV (aA (aB cP dU (eI 1)) aJ))) (aA (aB cP UY (aB qW (aB mulM UY (aB GU UY (eI 1))) (eI 2))) (aA (aB cP nM (eI 10007)) aJ)))))
  (cC (aN LL.kC (aA WM (aA UY (aA (aB dI (dC (aA (eI 1) (aA (eI 1) (aA (eI 2) (aA (eI 2) (aA (eI 3) (aA (eI 1) (aA (eI 0) (aA (eI 4) aJ))))))))) (aB dB (aB dI nN (eI 1)) (eI 8))) aJ))))))))
def τ(xs:Q0e):D:=.tup (xs.map D.int)
def aE(xs:Q0e):D:=.lst (xs.map D.int)
def aM(rows:Q0a):D:=.tup (rows.map τ)
def mC:cP (.int i) (.int j)=aa (.int (i+j)):=rfl
def rM:GU (.int i) (.int j)=aa (.int (i-j)):=rfl
def bC(h:0<j):dB (.int i) (.int j)=aa (.int (i%j)):=by simp[dB,gW,h]
def jG(h:0<j)(h2:j<1073741824):qW (.int i) (.int j)=aa (.int (i/j)):=by simp[qW,gW,h,show j.natAbs<1073741824 by lia]
def qG:ltM (.int i) (.int j)=aa (.bl (Zv (i<j))):=rfl
def qH:leM (.int i) (.int j)=aa (.bl (Zv (i<=j))):=rfl
def fQ:qX (.int i) (.int j)=aa (.bl (Zv (j<i))):=rfl
def mD:geM (.int i) (.int j)=aa (.bl (Zv (j<=i))):=rfl
def g7:qD (.int i) (.int j)=aa (.bl (Zv (i=j))):=rfl
def xA:neM (.int i) (.int j)=aa (.bl (!Zv (i=j))):=rfl
def nY:qD (.bl i) (.bl j)=aa (.bl (Zv (i=j))):=rfl
def kE:qD (.str i) (.str j)=aa (.bl (Zv (i=j))):=rfl
def xB:P7 d .non=aa (.bl (qY d)):=rfl
def kF:dI (.lst a) (.int i)=tU a i:=rfl
def qI:dI (.tup a) (.int i)=tU a i:=rfl
def xC:dI (.kR a) (.int i)=(tU a i).map D.int:=rfl
def jH:b7 [.lst a]=aa (.int a.length):=rfl
def f9:b7 [.tup a]=aa (.int a.length):=rfl
def rN:b7 [.kR a]=aa (.int a.length):=rfl
def eV:cQ [.lst a]=aa (.tup a):=rfl
def lD:cQ [.tup a]=aa (.tup a):=rfl
def nZ:uN [.lst a]=aa (.lst a):=rfl
def n5:uN [.tup a]=aa (.lst a):=rfl
def n6:zD (.lst a)=aa a:=rfl
def n8:zD (.tup a)=aa a:=rfl
def kG:i9 (.bl b)=aa b:=rfl
def lE:i9 (.lst b)=aa (!b.isEmpty):=rfl
def lF:i9 (.tup b)=aa (!b.isEmpty):=rfl
def mE:pD (.bl b)=aa b:=rfl
def qJ(h:ds.length<16777216):kX ds d=aa (ds++[d],.non):=Z_ h
def QK(h:ds.length+es.length<=16777216):GX ds (.lst es)=aa (ds++es,.non):=Z_ h
def n9:EH [.tup ds]=aa (ds.zipIdx.map λp=>.tup [.int (p.2:Int),p.1]):=rfl
def oA:EH [.lst ds]=aa (ds.zipIdx.map λp=>.tup [.int (p.2:Int),p.1]):=rfl
def rO:WU [.tup ds]=aa ds.reverse:=rfl
def rP:WU [.lst ds]=aa ds.reverse:=rfl
def fN(a:ds.length=np)(h:b (bL n ds)=.rt d):bM n np b ds=.ok d:=by unfold bM;rw[Z_ a,h]
def dD(ρ':aW)(a:f ρ=.nx ρ')(h2:g ρ'=o):aO f g ρ=o:=by unfold aO;rw[a];show h2
def xD(a:f ρ=.rt d):aO f g ρ=.rt d:=by unfold aO;rw[a]
def fR(h:f (bA ρ)=aa d):cC f ρ=.rt d:=by unfold cC;rw[h]
def gT(d:D)(h:f (fG ρ)=aa d)(a:ρ.set i (.ro d)=ρ'):bH i f ρ=.nx ρ':=by unfold bH;rw[h,<- a]
def J1(h:t (bA ρ)=aa ae)(h2:a ρ=o):gZ t a b ρ=o:=by unfold gZ;rw[h];show h2
def qK(h:t (bA ρ)=aa ag)(h2:b ρ=o):gZ t a b ρ=o:=by unfold gZ;rw[h];show h2
def G4(ds:List D)(h:it (fG ρ)=aa ds)(h2:fH g b ds ρ=o):eT it g b ρ=o:=by unfold eT;rw[h];show h2
def fI(ds:List D)(h:it ρ=aa ds)(a:ds.length<=16777216)(h2:fP g t e (benv nl fr ρ) ds=aa ys):bT nl fr it g t e ρ=aa (.lst ys):=by unfold bT;rw[h];show(if ds.length<=i5 then _ else _)=_;rw[Z_ (show ds.length<=i5 from a),h2];rfl
def rQ(h:a.length+b.length<=16777216):cP (.lst a) (.lst b)=aa (.lst (a++b)):=Z_ h
def KQ(h:a.length+b.length<=16777216):cP (.tup a) (.tup b)=aa (.tup (a++b)):=Z_ h
def KR(h:a.length+b.length<=16777216):GW (.lst a) (.lst b)=aa (.lst (a++b)):=Z_ h
def rR(h:i.natAbs<18446744073709551616):mulM (.int i) (.int j)=aa (.int (i*j)):=by simp[mulM,gW,zB,h]
def xE(h:j.natAbs<18446744073709551616):mulM (.int i) (.int j)=aa (.int (i*j)):=by simp[mulM,gW,zB,h]
def zJ(h:j.natAbs<4611686018427387904):BZ [.int j]=aa ((bD 0 j.toNat).map D.int):=Z_ h
def mF{n:Nat}(h:n<4611686018427387904):BZ [.int (n:Int)]=aa ((bD 0 n).map D.int):=by rw[zJ ∅];rfl
theorem cD:∀ns:Q0e,intsOf (ns.map D.int)=aa ns
 |[]=>rfl
 |n::ns=>by simp[intsOf,cD ns]
def mG{neg:Bool}{i:Int}{ns:Q0e}:nQ neg (.int i) (.tup (ns.map D.int))=aa (.bl (if neg then !ns.contains i else ns.contains i)):=by simp[nQ,cD]
def qL{neg:Bool}{i:Int}{ns:Q0e}:nQ neg (.int i) (.lst (ns.map D.int))=aa (.bl (if neg then !ns.contains i else ns.contains i)):=by simp[nQ,cD]
def sorted_ints(h:ns.length<64):gY [.lst (ns.map D.int)]=aa (.lst ((sortI ns).map D.int)):=by simp[gY,cD,h]
def sum_ints{ns:Q0e}:GV [.lst (ns.map D.int)]=aa (.int ns.sum):=by simp[GV,cD]
theorem oB:∀bs:List Bool,k9 (bs.map D.bl)=aa bs
 |[]=>rfl
 |b::bs=>by simp[k9,i9,oB bs]
def qM{bs:List Bool}:allM [.lst (bs.map D.bl)]=aa (.bl (bs.all id)):=by simp[allM,oB]
def QL{bs:List Bool}:anyM [.lst (bs.map D.bl)]=aa (.bl (bs.any id)):=by simp[anyM,oB]
def xF{n:Nat}{i:Int}(c:0<=i)(a:i<n):WQ n i=aa i.toNat:=by unfold WQ;rw[Z_ c,Z_ a]
def QM(h:k<n):WQ n (k:Int)=aa k:=by rw[xF ∅ ∅];rfl
def QN{α:Type}{xs:List α}{k:Nat}(h:k<xs.length):tU xs (k:Int)=xs[k]?:=by unfold tU;rw[QM h];rfl
def rS{α:Type}{xs:List α}{i:Int}(d:0<=i)(c:i<xs.length):∃x∈xs,tU xs i=aa x/\xs[i.toNat]?=aa x:=by
 have a:i.toNat<xs.length:=by lia
 show⟨xs[i.toNat],p_ a,?_,by simp[a]⟩;unfold tU;rw[xF d c];simp[a]
theorem mH{α a:Type}(f:α->a)(xs:List α)(i:Int):tU (xs.map f) i=(tU xs i).map f:=by
 unfold tU;rw[bo]
 cases WQ xs.length i with
 |none=>rfl
 |some j=>simp
def mI{α:Type}{xs:List α}{k:Nat}{x:α}(h:xs[k]?=aa x):tU xs (k:Int)=aa x:=by rw[QN (dh.mp h).1,h]
def aV(lo:Int)(n:Nat):(bD lo n).length=n:=by simp[bD]
def mJ(h:i<n):(bD lo n)[i]?=aa (lo+(i:Int)):=by simp[bD,h]
def G5(lo:Int)(n:Nat):bD lo (n+1)=bD lo n++[lo+(n:Int)]:=by simp[bD,yw]
def bR:x∈bD lo n↔lo<=x/\x<lo+n:=by
 unfold bD;rw[gd];simp only[ll]
 constructor
 .rintro ⟨k,a,rfl⟩;lia
 .rintro ⟨c,h2⟩;show⟨(x-lo).toNat,by lia,by lia⟩
theorem zK(P:Nat->aW->Prop)(ds:List D)(q:P 0 ρ)(step:∀(i:Nat) (d:D) (ρ:aW),ds[i]?=aa d->P i ρ ->∃ρ1 a,g d ρ=aa ρ1/\b ρ1=.nx a/\P (i+1) a):
  ∃ρ',fH g b ds ρ=.nx ρ'/\P ds.length ρ':=by
 suffices H:∀(l:List D) (k:Nat) (ρ:aW),ds.drop k=l->k<=ds.length->P k ρ ->∃ρ',fH g b l ρ=.nx ρ'/\P ds.length ρ' from H ds 0 ρ (by simp) (ie _) q
 intro l
 induction l with
 |nil =>
  intro k ρ c o n;have:ds.length<=k:=by simpa using c
  show⟨ρ,rfl,by rwa [show ds.length=k by lia]⟩
 |cons d l ih =>
  intro k ρ c o n;have j:k<ds.length:=by apply a2s;intro h;rw[sg ∅] at c;cases c
  have p:ds[k]?=aa d:=by have:=congrArg (λx=>x[0]?) c;simpa using this
  obtain⟨ρ1,a,e1,v,p2⟩:=step k d ρ p n;have m:ds.drop (k+1)=l:=by rw[nz j] at c;show(a2l c).2
  obtain⟨ρ',u,p3⟩:=ih (k+1) a m j p2;show⟨ρ',by simp only[fH,e1,v,u],p3⟩
theorem KS(P:Nat->aW->Prop)(lo:Int)(n:Nat)(l:P 0 ρ)(step:∀(i:Nat) (ρ:aW),i<n->P i ρ ->∃ρ1 a,g (.int (lo+(i:Int))) ρ=aa ρ1/\b ρ1=.nx a/\P (i+1) a):
  ∃ρ',fH g b ((bD lo n).map D.int) ρ=.nx ρ'/\P n ρ':=by
 have:=zK (g:=g) (b:=b) P ((bD lo n).map D.int) l λi d ρ c j=>by
  have h:i<n:=by have:=(dh.mp c).1;simpa[aV] using this
  rw[ft,mJ h] at c;cases c;show step i ρ h j
 simpa[aV] using this
theorem uS{α:Type}(mk:α->D)(f:α->D)(l:List α)(h:∀a∈l,(g (mk a) ρ).bind e=aa (f a)):fP g cK e ρ (l.map mk)=aa (l.map f):=by
 induction l with
 |nil=>rfl
 |cons a l ih =>
  have c:=h a (by simp);have h2:=ih λx j=>h x (by simp[j])
  cases hg:g (mk a) ρ with
  |none=>rw[hg] at c;cases c
  |some ρ1 =>
   rw[hg] at c;have d:e ρ1=aa (f a):=c;simp only[cf,fP,hg,di,cK,if_true,d,h2,rf]
def dE{α:Type}(mk:α->D)(f:α->D)(l:List α)(h:∀a∈l,∃ρ1,g (mk a) ρ=aa ρ1/\e ρ1=aa (f a)):fP g cK e ρ (l.map mk)=aa (l.map f) :=
 uS mk f l λa c=>by obtain⟨ρ1,d,h2⟩:=h a c;rw[d];show h2
theorem fJ{α:Type}(mk:α->D)(p:α->Bool)(f:α->D)(l:List α)(h:∀a∈l,∃ρ1,g (mk a) ρ=aa ρ1/\t ρ1=aa (p a)/\(p a=ae->e ρ1=aa (f a))):
  fP g t e ρ (l.map mk)=aa ((l.filter p).map f):=by
 induction l with
 |nil=>rfl
 |cons a l c =>
  obtain⟨ρ1,d,h2,m⟩:=h a (by simp);have c:=c λx j=>h x (by simp[j])
  cases hp:p a with
  |false=>simp[fP,d,h2,hp,c]
  |true=>simp[fP,d,h2,hp,m hp,c]
theorem KU{α d:Type}(mk:α->D)(out:d->D)(R:α->d->Prop)(l:List α)(h:∀a∈l,∃ρ1 b,g (mk a) ρ=aa ρ1/\e ρ1=aa (out b)/\R a b):
  ∃bs:List d,bs.length=l.length/\(∀(i:Nat) (a:α) (b:d),l[i]?=aa a->bs[i]?=aa b->R a b)/\fP g cK e ρ (l.map mk)=aa (bs.map out):=by
 induction l with
 |nil=>show⟨[],rfl,λi a b h=>by simp at h,rfl⟩
 |cons a l ih =>
  obtain⟨ρ1,b,q,h2,p⟩:=h a (by simp);obtain⟨bs,n,m,o⟩:=ih λx c=>h x (by simp[c]);show⟨b::bs,by simp[n],λi x y c j=>?_,by simp[fP,q,h2,o,cK]⟩
  cases i with
  |zero=>simp at c j;subst c j;show p
  |succ i=>show m i x y (by simpa using c) (by simpa using j)
def Rt(o:Out)(Q:D->Prop):Prop:=∃d,o=.rt d/\Q d
def Nx(o:Out)(Q:aW->Prop):Prop:=∃ρ,o=.nx ρ/\Q ρ
def jI(M:aW->Prop)(a:Nx (f ρ) M)(h2:∀ρ',M ρ'->Rt (g ρ') Q):Rt (aO f g ρ) Q:=by obtain⟨ρ',e,m⟩:=a;unfold aO;rw[e];show h2 ρ' m
def KW(M:aW->Prop)(a:Nx (f ρ) M)(h2:∀ρ',M ρ'->Nx (g ρ') Q):Nx (aO f g ρ) Q:=by obtain⟨ρ',e,m⟩:=a;unfold aO;rw[e];show h2 ρ' m
def bE(ρ':aW)(a:f ρ=.nx ρ')(h2:Rt (g ρ') Q):Rt (aO f g ρ) Q:=by unfold aO;rw[a];show h2
def xG(ρ':aW)(a:f ρ=.nx ρ')(h2:Nx (g ρ') Q):Nx (aO f g ρ) Q:=by unfold aO;rw[a];show h2
def rT(c:Bool)(h:t (bA ρ)=aa c)(d:c=ae->Nx (a ρ) Q)(h2:c=ag->Nx (b ρ) Q):Nx (gZ t a b ρ) Q:=by unfold gZ;rw[h];cases c;show h2 rfl;show d rfl
def rV(d:D)(h:f (bA ρ)=aa d)(q:Q d):Rt (cC f ρ) Q:=⟨d,fR h,q⟩
def B6(d:D)(h:f (fG ρ)=aa d)(q:Q (ρ.set i (.ro d))):Nx (bH i f ρ) Q:=⟨_,gT d h rfl,q⟩
def lG(q:Q ρ):Nx (dJ ρ) Q:=⟨ρ,rfl,q⟩
theorem KY(ds:List D)(P:Nat->aW->Prop)(h:it (fG ρ)=aa ds)(l:P 0 ρ)(step:∀(i:Nat) (d:D) (ρ:aW),ds[i]?=aa d->P i ρ ->∃ρ1,g d ρ=aa ρ1/\Nx (b ρ1) (P (i+1)))
  (fin:∀ρ',P ds.length ρ'->Q ρ'):Nx (eT it g b ρ) Q:=by
 obtain⟨ρ',e,p⟩:=zK (g:=g) (b:=b) P ds l λi d ρ j c=>by obtain⟨ρ1,e1,a,m,p2⟩:=step i d ρ j c;show⟨ρ1,a,e1,m,p2⟩
 show⟨ρ',G4 ds h e,fin ρ' p⟩
theorem oC{t:AF}{g:WY}{b:SF}{ρ:aW}{Q:aW->Prop}(n:Nat)(P:Nat->aW->Prop)(h:t (fG ρ)=aa [.int (n:Int)])(l:n<4611686018427387904)(m:P 0 ρ)(step:∀(i:Nat) (ρ:aW),i<n->P i ρ ->∃ρ1,g (.int (i:Int)) ρ=aa ρ1/\Nx (b ρ1) (P (i+1)))
  (fin:∀ρ',P n ρ'->Q ρ'):Nx (eT (bX t) g b ρ) Q:=by
 show KY ((bD 0 n).map D.int) P (by unfold bX;rw[h,di,mF l]) m (λi d ρ a j=>?_) (λρ' p=>fin ρ' (by simpa[aV] using p));have c:i<n:=by have:=(dh.mp a).1;simpa[aV] using this
 rw[ft,mJ c] at a;have a:D.int (0+(i:Int))=d:=by simpa using a
 subst a;obtain⟨ρ1,e,q⟩:=step i ρ c j;show⟨ρ1,by rw[a00];show e,q⟩
def xH(a:ds.length=np)(h:Rt (b (bL n ds)) Q):∃d,bM n np b ds=.ok d/\Q d:=by obtain⟨d,e,q⟩:=h;show⟨d,fN a e,q⟩
theorem uT:∀(l:Q0e) (j:Nat),(l.map D.int).eraseIdx j=(l.eraseIdx j).map D.int
 |[],j=>by simp
 |a::l,0=>by simp
 |a::l,j+1=>by simp[uT l j]
def aY(d:a ρ=aa x)(c:b ρ=aa y)(h:g x y=z):aB g a b ρ=z:=by unfold aB;rw[d,c];show h
def eL(c:a ρ=aa x)(h:g [x]=z):cL g (aA a aJ) ρ=z:=by unfold cL aA aJ;rw[c];show h
def lH(c:a ρ=aa x)(h:f [x]=.ok d):aN f (aA a aJ) ρ=aa d:=by unfold aN;(try unfold bS);unfold aA aJ;rw[c];show wU (f [x])=_;rw[h];rfl
def cR(j:a ρ=aa x)(c:b ρ=aa y)(h:f [x,y]=.ok d):aN f (aA a (aA b aJ)) ρ=aa d:=by unfold aN;(try unfold bS);unfold aA aJ;rw[j,c];show wU (f [x,y])=_;rw[h];rfl
def jJ(m:a ρ=aa x)(l:b ρ=aa y)(j:c ρ=aa z)(h:f [x,y,z]=.ok d):aN f (aA a (aA b (aA c aJ))) ρ=aa d:=by unfold aN;(try unfold bS);unfold aA aJ;rw[m,l,j];show wU (f [x,y,z])=_;rw[h];rfl
def W2(n:a ρ=aa x)(m:b ρ=aa y)(l:c ρ=aa z)(j:e ρ=aa w)(h:f [x,y,z,w]=.ok d):aN f (aA a (aA b (aA c (aA e aJ)))) ρ=aa d:=by unfold aN;(try unfold bS);unfold aA aJ;rw[n,m,l,j];show wU (f [x,y,z,w])=_;rw[h];rfl
def args1(c:a ρ=aa x):aA a aJ ρ=aa [x]:=by unfold aA aJ;rw[c];rfl
def args2(d:a ρ=aa x)(c:b ρ=aa y):aA a (aA b aJ) ρ=aa [x,y]:=by unfold aA aJ;rw[d,c];rfl
def U5{a:EF}{ρ:bK}{n:Nat}(d:a ρ=aa (.int (n:Int)))(c:n<4611686018427387904):bX (aA a aJ) ρ=aa ((bD 0 n).map D.int):=by unfold bX;rw[args1 d,di,mF c]
def tY(h:f ρ=aa d)(a:i9 d=aa b):tV f ρ=aa b:=by unfold tV;rw[h];show a
def tnE(h:t ρ=aa b)(a:(!b)=c):nO t ρ=aa c:=by unfold nO;rw[h,<- a];rfl
def QO{l:Q0e}{i:Int}{y:Int}(d:0<=i)(c:i<l.length)(h2:l.length<=16777216)(a:l[i.toNat]?=aa y):QB (l.map D.int) (.int i)=aa ((l.eraseIdx i.toNat).map D.int,.int y):=by show(if i.natAbs<9223372036854775808 then _ else _)=_;rw[Z_ ∅,bo,xF d c,di,ft,a,uT];rfl
def kH{a:Q0e}{j:Nat}{x:Int}(h:a[j]?=aa x):tU (a.map D.int) (j:Int)=aa (.int x):=by rw[mH,mI h];rfl
def KZ{α:Type}{l:List α}{i j:Nat}{x:α}(h:l[i]?=aa x)(a:i<j):(l.take j)[i]?=aa x:=by rw[Ef a];show h
theorem uU:∀ns:Q0e,wR (ns.map D.int)=ae
 |[]=>rfl
 |n::ns=>by rw[cf,wR,uU ns];rfl
def lI:gX (q::ks) (d::ds) k=if q=k then aa d else gX ks ds k:=by
 by_cases e:q=k
 .simp [gX,e]
 .simp [gX,e]
theorem oD:∀{c:Q0e} {us:Q0a} {i:Nat} {x:Int} {v:Q0e},c.Nodup->c[i]?=aa x->us[i]?=aa v->gX (c.map dj) (us.map aE) (dj x)=aa (aE v)
 |[],us,i,x,v,_,h,_=>by simp at h
 |w::ws,[],i,x,v,_,_,h=>by simp at h
 |w::ws,u::us,0,x,v,_,h1,h2=>by simp at h1 h2;subst h1 h2;rw[cf,cf,lI,Z_ rfl]
 |w::ws,u::us,i+1,x,v,hn,h1,h2=>by
  obtain⟨j,d⟩:=kl.mp hn;have a:ws[i]?=aa x:=by simpa using h1
  have ne:(dj w:Sum Int aj)≠dj x:=λe=>j (by cases e;show pj a);rw[cf,cf,lI,Zz ne];show oD d a (by simpa using h2)
theorem uV:∀{a:Q0e} {us:Q0a} {x:Int},x∉a->gX (a.map dj) (us.map aE) (dj x)=af
 |[],us,x,_=>by simp[gX]
 |w::ws,[],x,_=>by simp[gX]
 |w::ws,u::us,x,h=>by have ne:(dj w:Sum Int aj)≠dj x:=λe=>h (by cases e;show de);rw[cf,cf,lI,Zz ne];show uV λz=>h (gf _ z)
theorem insI_perm(a:Int):∀l:Q0e,(insI a l).Perm (a::l)
 |[]=>.refl _
 |b::l=>by
  unfold insI;split
  .exact .refl _
  .exact ((insI_perm a l).cons b).trans (.swap a b l)
theorem sortI_perm:∀l:Q0e,(sortI l).Perm l
 |[]=>.refl _
 |a::l=>(insI_perm a (sortI l)).trans ((sortI_perm l).cons a)
theorem pG(a:Int):∀l:Q0e,l.Pairwise (· <= ·)->(insI a l).Pairwise (· <= ·)
 |[],_=>by simp[insI]
 |b::l,h=>by
  unfold insI;split
  .rename_i hab;show fz.mpr ⟨λc d=>?_,h⟩;rcases bx.mp d with e|e
   .subst e;show hab
   .exact Ep hab ((fz.mp h).1 c e)
  .rename_i hab;show fz.mpr ⟨λc d=>?_,pG a l (fz.mp h).2⟩;rcases bx.mp ((insI_perm a l).mem_iff.mp d) with e|e
   .subst e;lia
   .exact (fz.mp h).1 c e
theorem fT:∀l:Q0e,(sortI l).Pairwise (· <= ·)
 |[]=>ze
 |a::l=>pG a _ (fT l)
theorem uW:∀{l m:Q0e},l.Perm m->l.Pairwise (· <= ·)->m.Pairwise (· <= ·)->l=m
 |[],m,p,_,_=>by rw[p.nil_eq]
 |a::l,[],p,_,_=>by have:=p.length_eq;simp at this
 |a::l,b::m,p,h1,h2=>by
  have e:a=b:=by
   have m1:=p.mem_iff.mp (de (a:=a) (l:=l));have d:=p.mem_iff.mpr (de (a:=b) (l:=m));rcases bx.mp m1 with e|e
   .exact e
   .rcases bx.mp d with c|c
    .exact c.symm
    .have:=(fz.mp h2).1 a e;have:=(fz.mp h1).1 b c;lia
  subst e;rw[uW p.cons_inv (fz.mp h1).2 (fz.mp h2).2]
def zL(p:m.Perm l)(h:m.Pairwise (· <= ·)):sortI l=m:=uW ((sortI_perm l).trans p.symm) (fT l) h
local macro_rules | `(tactic| walk_at "ev") => `(tactic| simp only[bL,aO,gZ,cC,bH,KA,l7,KC,rD,zE,sX,eT,dJ,aT,eC,aB,tV,nO,kU,WN,jA,qk,tT,we,zA,jB,aJ,aA,cL,aN,wU,i6,bI,bX,rB,WR,WV,g1,g2,tQ,PZ,uO,cK,benv,WW,vw,oE,asInt,cB,qE,l6,bA,fG,Sv.all,Sv.rd,cf,mn,ve,ny,Eg,yp,De,di,Dg,rf,Dc,Dt,Du,Ds,fj,mq,bo,zd,pf,kj,Dw,Nat.reduceSub,Nat.reduceAdd,Nat.reduceEqDiff,kG,lE,lF,mE,P6,mC,rM,qG,qH,fQ,mD,g7,xA,nY,kE,xB,qY,kF,qI,xC,jH,f9,rN,eV,lD,nZ,n5,n6,n8,n9,oA,rO,rP,if_true,if_false,ite_true,ite_false,reduceIte,decide_true,decide_false,decide_eq_true_eq,mx,Es,Et,mG,qL])
def iO(ns:Q0e)(k:Int):∃c,c6 [.kR ns,.int k]=.ok (.int c):=by
 unfold c6;by_cases h:(ns.length:Int)=0
 .exact ⟨0,fN rfl (xD (J1 (by walk_at "ev";rw[Zx h]) rfl))⟩
 .obtain ⟨x,_,e,_⟩:=rS (xs:=ns) (i:=k%(ns.length:Int)) (iz _ ∅) (jn _ ∅);show⟨x,fN rfl (dD _ (qK (by walk_at "ev";rw[Zy h]) rfl) (fR ?_))⟩
  walk_at "ev"
  rw[bC ∅]
  walk_at "ev"
  rw[e];rfl
def K0(c k s:Int):Int:=(c+11*k*k+17*k+s)*48271%2147483647
def Bb(c k s:Int):Int:=(K0 c k s*(K0 c k s/4096+5)+29*k+s)%2147483629
def zM(c k s:Int)(l:0<=k)(h:k<1000000):∃r,0<=r/\eD [.int c,.int k,.int s]=.ok (.int r):=by
 unfold eD;have d:0<=K0 c k s:=iz ((c+11*k*k+17*k+s)*48271) (b:=2147483647) (by decide);have a:K0 c k s<2147483647:=jn ((c+11*k*k+17*k+s)*48271) (b:=2147483647) (by decide);show⟨Bb c k s*39373%1000000007,iz _ (b:=1000000007) (by decide),fN rfl (dD _ (gT (.int (K0 c k s)) ?_ rfl) (dD _ (gT (.int (Bb c k s)) ?_ rfl) (fR ?_)))⟩
 .walk_at "ev"
  rw[rR (by decide)]
  walk_at "ev"
  rw[xE ∅,rR (i:=17) (by decide)]
  walk_at "ev"
  rw[xE (j:=48271) (by decide)]
  walk_at "ev"
  rw[bC (by decide)];rfl
 .walk_at "ev"
  rw[jG (by decide) (by decide)]
  walk_at "ev"
  rw[rR ∅,rR (i:=29) (by decide)]
  walk_at "ev"
  rw[bC (by decide)];rfl
 .walk_at "ev"
  rw[xE (j:=39373) (by decide)]
  walk_at "ev"
  rw[bC (by decide)]
def uX(xs:Q0e)(x:Int):D.lst (xs.map D.int++[.int x])=aE (xs++[x]):=by simp[aE]
def jK(c many s:Int)(A:0<=many)(z:many<1000000):∃xs:Q0e,xs.length=many.toNat/\(∀x∈xs,0<=x)/\c7 [.int c,.int many,.int s]=.ok (aE xs):=by
 unfold c7;have key:∀left:Int,∃ρ',fH (tQ 5) (gZ (tV (aB qX (aT 4) (eC (.int 0))))
    (aO (sX (qE 3 kX (cB (aB dB (aT 4) (eC (.int 64))))))
    (bH 4 (aB qW (aT 4) (eC (.int 64)))))
    (sX (qE 3 kX (cB (aN LL.eD (aA (aT 0) (aA (aT 5) (aA (aT 2) aJ))))))))
    ((bD 0 many.toNat).map D.int) [Sv.ro (.int c),Sv.ro (.int many),Sv.ro (.int s),Sv.ow (.lst []),Sv.ro (.int left),Sv.no]=.nx ρ' /\
    ∃(xs:Q0e) (l:Int) (v:Sv),xs.length=many.toNat/\(∀x∈xs,0<=x)/\ρ'=[Sv.ro (.int c),Sv.ro (.int many),Sv.ro (.int s),Sv.ow (aE xs),Sv.ro (.int l),v]:=by
  intro left;show KS (λi ρ'=>∃(xs:Q0e) (l:Int) (v:Sv),xs.length=i/\(∀x∈xs,0<=x)/\ρ'=[Sv.ro (.int c),Sv.ro (.int many),Sv.ro (.int s),Sv.ow (aE xs),Sv.ro (.int l),v]) 0 _ ⟨[],left,_,rfl,by simp,rfl⟩ ?_;rintro i _ y ⟨xs,l,v,d,o,rfl⟩;have hlen:(xs.map D.int).length<16777216:=by rw[bo];lia
  by_cases p:0<l
  .refine ⟨_,_,rfl,J1 (by walk_at "ev";rw[Zx p]) (dD [Sv.ro (.int c),Sv.ro (.int many),Sv.ro (.int s),Sv.ow (aE (xs++[l%64])),Sv.ro (.int l),Sv.ro (.int (0+(i:Int)))] ?_ (gT (.int (l/64)) ?_ rfl)),xs++[l%64],l/64,_,by simp[d],?_,rfl⟩
   .walk_at "ev"
    rw[bC (by decide)]
    walk_at "ev"
    simp only[aE,l6]
    walk_at "ev"
    rw[qJ hlen]
    walk_at "ev"
    rw[uX];rfl
   .walk_at "ev"
    rw[jG (by decide) (by decide)]
   .intro x d;rcases gn.mp d with h|h
    .exact o x h
    .rw [cg.mp h];show iz _ (by decide)
  .obtain ⟨r,u,e⟩:=zM c (0+(i:Int)) s ∅ ∅;show⟨_,[Sv.ro (.int c),Sv.ro (.int many),Sv.ro (.int s),Sv.ow (aE (xs++[r])),Sv.ro (.int l),Sv.ro (.int (0+(i:Int)))],rfl,qK (by walk_at "ev";rw[Zy p]) ?_,xs++[r],l,_,by simp[d],?_,rfl⟩
   .walk_at "ev"
    rw[e];simp only[aE,l6]
    walk_at "ev"
    rw[qJ hlen]
    walk_at "ev"
    rw[uX];rfl
   .intro x d;rcases gn.mp d with h|h
    .exact o x h
    .rw [cg.mp h];show u
 have n:zC (.int 10) (.int 18)=aa (.int 1000000000000000000):=rfl;have fin:∀left:Int,(0=0) ->∃xs:Q0e,xs.length=many.toNat/\(∀x∈xs,0<=x)/\aO (eT (bX (aA (aT 1) aJ)) (tQ 5) (gZ (tV (aB qX (aT 4) (eC (.int 0))))
    (aO (sX (qE 3 kX (cB (aB dB (aT 4) (eC (.int 64))))))
    (bH 4 (aB qW (aT 4) (eC (.int 64)))))
    (sX (qE 3 kX (cB (aN LL.eD (aA (aT 0) (aA (aT 5) (aA (aT 2) aJ))))))))) (cC (aT 3)) [Sv.ro (.int c),Sv.ro (.int many),Sv.ro (.int s),Sv.ow (.lst []),Sv.ro (.int left),Sv.no]=.rt (aE xs):=by
  intro left _;obtain⟨ρ',e,xs,l,v,m,j,rfl⟩:=key left;show⟨xs,m,j,dD _ (G4 _ ?_ e) (fR rfl)⟩
  walk_at "ev"
  show zJ ∅
 by_cases q:1000000000000000000<=c
 .obtain ⟨xs,a,b,e⟩:=fin c rfl;show⟨xs,a,b,fN rfl (dD _ rfl (dD _ rfl (dD _ (J1 ?_ rfl) e)))⟩
  walk_at "ev"
  rw[n]
  walk_at "ev"
  rw[Zx q]
 .obtain ⟨xs,a,b,e⟩:=fin 0 rfl;show⟨xs,a,b,fN rfl (dD _ rfl (dD _ rfl (dD _ (qK ?_ rfl) e)))⟩
  walk_at "ev"
  rw[n]
  walk_at "ev"
  rw[Zy q]
theorem K1(l:Q0e)(n:Nat)(m:Int)(hn:n<=9)(hl:n+Ord.tri n<=l.length):
  ∃d,kC [aE l,.int n,.int m]=.ok d /\∃rows:Q0a,rows.length=n/\Ord.Rows rows/\d=aM rows:=by
 unfold kC;show xH rfl ?_;rw[show bL 11 [aE l,.int n,.int m]=[Sv.ro (aE l),Sv.ro (.int n),Sv.ro (.int m),Sv.no,Sv.no,Sv.no,Sv.no,Sv.no,Sv.no,Sv.no,Sv.no] from rfl];show bE [Sv.ro (aE l),Sv.ro (.int n),Sv.ro (.int m),Sv.ow (.lst ((bD 0 n).map D.int)),Sv.no,Sv.no,Sv.no,Sv.no,Sv.no,Sv.no,Sv.no] ?_ ?_
 .walk_at "ev"
  simp only[BY]
  walk_at "ev"
  rw[Z_ ∅];rfl
 show bE [Sv.ro (aE l),Sv.ro (.int n),Sv.ro (.int m),Sv.ow (.lst ((bD 0 n).map D.int)),Sv.ow (.lst []),Sv.no,Sv.no,Sv.no,Sv.no,Sv.no,Sv.no] rfl ?_;show jI (λρ=>∃(c:Q0e) (o q:Sv),c.Perm (bD 0 n)/\ρ=[Sv.ro (aE l),Sv.ro (.int n),Sv.ro (.int m),q,Sv.ow (aE c),o,Sv.no,Sv.no,Sv.no,Sv.no,Sv.no]) ?_ ?_
 .refine oC n (λi ρ=>∃(p c:Q0e) (o:Sv),c.length=i/\(c++p).Perm (bD 0 n)/\ρ=[Sv.ro (aE l),Sv.ro (.int n),Sv.ro (.int m),Sv.ow (aE p),Sv.ow (aE c),o,Sv.no,Sv.no,Sv.no,Sv.no,Sv.no])
   rfl ∅ ⟨bD 0 n,[],Sv.no,rfl,.refl _,rfl⟩ ?_ ?_
  .rintro i _ hi ⟨p,c,o,hw,L,rfl⟩;have hlr:c.length+p.length=n:=by have:=L.length_eq;rw[dm,aV] at this;show this
   obtain⟨x,F⟩:∃x,l[i]?=aa x:=⟨_,cj ∅⟩;have hr0:(0:Int)<p.length:=by lia
   have h0:=iz x (show(p.length:Int)≠0 by lia);have h1:=jn x hr0;obtain⟨y,hy⟩:∃y,p[(x%(p.length:Int)).toNat]?=aa y:=⟨_,cj ∅⟩;show⟨_,rfl,[Sv.ro (aE l),Sv.ro (.int n),Sv.ro (.int m),Sv.ow (aE (p.eraseIdx (x%(p.length:Int)).toNat)),Sv.ow (aE (c++[y])),Sv.ro (.int i),Sv.no,Sv.no,Sv.no,Sv.no,Sv.no],?_,p.eraseIdx (x%(p.length:Int)).toNat,c++[y],Sv.ro (.int i),by simp[hw],?_,rfl⟩
   .have e1:=QO h0 h1 ∅ hy;simp only[aE]
    walk_at "ev"
    simp only[J9]
    walk_at "ev"
    rw[kH F]
    walk_at "ev"
    rw[bC hr0]
    walk_at "ev"
    simp only[D.wQ,ite_true,di]
    walk_at "ev"
    rw[e1]
    walk_at "ev"
    rw[qJ (by rw[bo];lia)]
    walk_at "ev"
    rw[jd];rfl
   .rw [Ek];show((Ord.rK p _ y hy).append_left c).trans L
  .rintro _ ⟨p,c,o,hw,L,rfl⟩;have hlr:c.length+p.length=n:=by have:=L.length_eq;rw[dm,aV] at this;show this
   have e:p=[]:=vc.mp ∅;subst e;rw[ip] at L;show⟨c,o,_,L,rfl⟩
 rintro _ ⟨c,o,q,L,rfl⟩;have I:c.Perm ((cm n).map λk:Nat=>(k:Int)):=by
  have e:bD 0 n=(cm n).map λk:Nat=>(k:Int):=pq λk _=>by show 0+(k:Int)=k;lia
  rw[<- e];show L
 have hlw:c.length=n:=by rw[I.length_eq,bo,jk]
 have A:c.Nodup:=I.nodup_iff.mpr (vh _ (λa b hab e=>hab ∅) a0I);have W3:∀{us:Q0a} (t:Nat) (u:Q0e),Ord.Under c us t u->u.length<=n:=λ{us} t u h=>by rw[<- hlw];show Ord.eU u c h.1 λa ha=>by obtain⟨s,_,_,h2,_⟩:=h.2 a ha;show pj h2
 show bE [Sv.ro (aE l),Sv.ro (.int n),Sv.ro (.int m),q,Sv.ow (aE c),o,Sv.ow (.gR [] []),Sv.no,Sv.no,Sv.no,Sv.no] rfl ?_;show bE [Sv.ro (aE l),Sv.ro (.int n),Sv.ro (.int m),q,Sv.ow (aE c),o,Sv.ow (.gR [] []),Sv.ro (.int n),Sv.no,Sv.no,Sv.no] rfl ?_;show jI (λρ=>∃(us:Q0a) (v7 K J v10:Sv),us.length=n/\Ord.Good c us/\ρ=[Sv.ro (aE l),Sv.ro (.int n),Sv.ro (.int m),q,Sv.ow (aE c),o,Sv.ow (.gR (c.map dj) (us.map aE)),v7,K,J,v10]) ?_ ?_
 .refine oC n (λj ρ=>∃(us:Q0a) (K J v10:Sv),us.length=j/\Ord.Good c us/\ρ=[Sv.ro (aE l),Sv.ro (.int n),Sv.ro (.int m),q,Sv.ow (aE c),o,Sv.ow (.gR ((c.take j).map dj) (us.map aE)),Sv.ro (.int ((n+Ord.tri j:Nat):Int)),K,J,v10])
   rfl ∅ ⟨[],Sv.no,Sv.no,Sv.no,rfl,(λt u e=>by simp at e),rfl⟩ ?_ ?_
  .rintro j _ hj ⟨us,K,J,v10,z,O,rfl⟩;show⟨_,rfl,?_⟩;show xG [Sv.ro (aE l),Sv.ro (.int n),Sv.ro (.int m),q,Sv.ow (aE c),o,Sv.ow (.gR ((c.take j).map dj) (us.map aE)),Sv.ro (.int ((n+Ord.tri j:Nat):Int)),Sv.ro (.int j),Sv.ro (.lst []),v10] rfl ?_;show KW (λρ=>∃(u:Q0e) (v10:Sv),Ord.Under c us j u/\ρ=[Sv.ro (aE l),Sv.ro (.int n),Sv.ro (.int m),q,Sv.ow (aE c),o,Sv.ow (.gR ((c.take j).map dj) (us.map aE)),Sv.ro (.int ((n+Ord.tri (j+1):Nat):Int)),Sv.ro (.int j),Sv.ro (aE u),v10]) ?_ ?_
   .refine oC j (λi ρ=>∃(u:Q0e) (v10:Sv),Ord.Under c us i u/\ρ=[Sv.ro (aE l),Sv.ro (.int n),Sv.ro (.int m),q,Sv.ow (aE c),o,Sv.ow (.gR ((c.take j).map dj) (us.map aE)),Sv.ro (.int ((n+Ord.tri j+i:Nat):Int)),Sv.ro (.int j),Sv.ro (aE u),v10])
     rfl ∅ ⟨[],_,⟨rm,λa ha=>(nomatch ha)⟩,rfl⟩ ?_ ?_
    .rintro i _ hi ⟨u,v10,Z,rfl⟩;have tl:=Ord.W0 hj hi;obtain⟨y,hy⟩:∃y,l[n+Ord.tri j+i]?=aa y:=⟨_,cj ∅⟩;obtain⟨x,F⟩:∃x,c[i]?=aa x:=⟨_,cj ∅⟩;obtain⟨v,hv⟩:∃v,us[i]?=aa v:=⟨_,cj ∅⟩;have lv:=W3 _ _ (O i v hv);have lu:=W3 _ _ Z;show⟨_,rfl,?_⟩;show KW (λρ=>∃u':Q0e,Ord.Under c us (i+1) u'/\ρ=[Sv.ro (aE l),Sv.ro (.int n),Sv.ro (.int m),q,Sv.ow (aE c),o,Sv.ow (.gR ((c.take j).map dj) (us.map aE)),Sv.ro (.int ((n+Ord.tri j+i:Nat):Int)),Sv.ro (.int j),Sv.ro (aE u'),Sv.ro (.int i)]) ?_ ?_
     .refine rT (Zv (y%4<m)) ?_ (λ_=>?_) (λ_=>lG ⟨u,Z.mono ∅,rfl⟩)
      .simp only[aE]
       walk_at "ev"
       rw[kH hy]
       walk_at "ev"
       rw[bC (by decide)]
       walk_at "ev"
      .refine ⟨_,?_,_,Z.step A O F hv,rfl⟩;have hf:=r9 (λa=>!u.contains a) (v++[x]);have e1:fP (g1 0) (tV (aB (nQ ae) cV dU)) cV [af,aa (.lst (u.map D.int))] ((v++[x]).map D.int)=aa (((v++[x]).filter λa=>!u.contains a).map D.int) :=
        fJ D.int _ D.int (v++[x]) λa _=>⟨_,rfl,by walk_at "ev",λ_=>rfl⟩
       have e2:aB cP (aB rA WM (aB dI nN y9)) (dC (aA (aB dI nN y9) aJ)) [aa (aE l),aa (.int n),aa (.int m),q.all,aa (aE c),o.all,aa (.gR ((c.take j).map dj) (us.map aE)),aa (.int ((n+Ord.tri j+i:Nat):Int)),aa (.int j),aa (aE u),aa (.int i)]=aa (.lst ((v++[x]).map D.int)):=by
        simp only[aE]
        walk_at "ev"
        rw[kH F]
        walk_at "ev"
        simp only[rA,qZ,di];have:=oD (a2p (a0G j c) A) (KZ F hi) hv;simp only[aE] at this;rw[this];simp only[dC]
        walk_at "ev"
        rw[kH F]
        walk_at "ev"
        rw[Z_ (by decide),di,rQ (by simp;lia)];simp
       have e3:bT 1 [9] (bI (aB cP (aB rA WM (aB dI nN y9)) (dC (aA (aB dI nN y9) aJ)))) (g1 0) (tV (aB (nQ ae) cV dU)) cV [aa (aE l),aa (.int n),aa (.int m),q.all,aa (aE c),o.all,aa (.gR ((c.take j).map dj) (us.map aE)),aa (.int ((n+Ord.tri j+i:Nat):Int)),aa (.int j),aa (aE u),aa (.int i)]=aa (.lst (((v++[x]).filter λa=>!u.contains a).map D.int)) :=
        fI ((v++[x]).map D.int) (by unfold bI;rw[e2];rfl) (by simp;lia) e1
       unfold rD;have e4:aB GW wc (bT 1 [9] (bI (aB cP (aB rA WM (aB dI nN y9)) (dC (aA (aB dI nN y9) aJ)))) (g1 0) (tV (aB (nQ ae) cV dU)) cV) [aa (aE l),aa (.int n),aa (.int m),q.all,aa (aE c),o.all,aa (.gR ((c.take j).map dj) (us.map aE)),aa (.int ((n+Ord.tri j+i:Nat):Int)),aa (.int j),aa (aE u),aa (.int i)]=aa (aE (u++(v++[x]).filter λa=>!u.contains a)):=by show aY (x:=aE u) rfl e3 ?_;show GW (.lst (u.map D.int)) _=_;rw[KR (by simp only[bo,dm,fj,mq] at hf ⊢;lia),<- jd];rfl
       rw[show bA _=[aa (aE l),aa (.int n),aa (.int m),q.all,aa (aE c),o.all,aa (.gR ((c.take j).map dj) (us.map aE)),aa (.int ((n+Ord.tri j+i:Nat):Int)),aa (.int j),aa (aE u),aa (.int i)] from rfl,e4];show(if rC (aE _)=ae then _ else _)=_;rw[Z_ (show rC (aE _)=ae from uU _)];rfl
     rintro _ ⟨u',hU',rfl⟩;show⟨_,rfl,u',_,hU',rfl⟩
    .rintro _ ⟨u,v10,Z,rfl⟩;show⟨u,v10,Z,by rw[Dp];rfl⟩
   rintro _ ⟨u,v10,Z,rfl⟩;obtain⟨x,F⟩:∃x,c[j]?=aa x:=⟨_,cj ∅⟩;show⟨[Sv.ro (aE l),Sv.ro (.int n),Sv.ro (.int m),q,Sv.ow (aE c),o,Sv.ow (.gR ((c.take (j+1)).map dj) ((us++[u]).map aE)),Sv.ro (.int ((n+Ord.tri (j+1):Nat):Int)),Sv.ro (.int j),Sv.ro (aE u),v10],?_,us++[u],Sv.ro (.int j),Sv.ro (aE u),v10,by simp[z],O.snoc (by rw[z];show Z),rfl⟩;have hno:gX ((c.take j).map dj) (us.map aE) (dj x)=af:=uV λhm=>by
    obtain⟨t,X⟩:=yx.mp hm;have htl:t<j:=by have:=(dh.mp X).1;rw[ij] at this;lia
    rw[Ef htl] at X;have:=Ord.rL A X F;lia
   unfold EI
   walk_at "ev"
   simp only[rE,di];have e5:dI (aE c) (.int (j:Int))=aa (.int x):=kH F;rw[e5];simp only[di,qZ,hno,Option.isNone_none,true_and];rw[Z_ (by rw[bo];show us.length<16777216;lia),List.take_succ,F,jd,jd];rfl
  .rintro _ ⟨us,K,J,v10,z,O,rfl⟩;show⟨us,Sv.ro (.int ((n+Ord.tri n:Nat):Int)),K,J,v10,z,O,?_⟩;rw[rh ∅]
 rintro _ ⟨us,v7,K,J,v10,z,O,rfl⟩;have ec:∃rows:Q0a,rows.length=(cm n).length/\(∀(i:Nat) (b:Nat) (r:Q0e),(cm n)[i]?=aa b->rows[i]?=aa r ->∀(t:Nat) (u:Q0e),c[t]?=aa (b:Int)->us[t]?=aa u->r.Perm u/\r.Pairwise (· <= ·)) /\
   fP (g1 0) cK (cL cQ (aA (cL gY (aA (aB rA dU cV) aJ)) aJ)) [af,aa (.gR (c.map dj) (us.map aE))] ((cm n).map λb:Nat=>D.int (b:Int))=aa (rows.map τ):=by
  show KU (λb:Nat=>D.int (b:Int)) τ _ (cm n) λb hb=>?_;have hb2:=ll.mp hb;have hm:(b:Int)∈c:=I.mem_iff.mpr (gd.mpr ⟨b,hb,rfl⟩);obtain⟨t,X⟩:=yx.mp hm;obtain⟨u,U⟩:∃u,us[t]?=aa u:=⟨_,cj (by have:=(dh.mp X).1;lia)⟩;have lu:=W3 _ _ (O t u U);show⟨_,sortI u,rfl,?_,λt' u' e1 e2=>?_⟩
  .walk_at "ev"
   simp only[rA,qZ,di];rw[oD A X U];simp only[aE]
   walk_at "ev"
   rw[sorted_ints ∅];rfl
  .have e:=Ord.rL A e1 X;subst e;rw[U] at e2;cases e2;show⟨sortI_perm u,fT u⟩
 obtain⟨rows,Y,hr2,ec⟩:=ec;rw[jk] at Y;show rV (aM rows) ?_ ⟨rows,Y,O.rows z I Y λb t r u e1 e2 e3=>hr2 b b r (by rw[vd (by have:=(dh.mp e1).1;lia)]) e1 t u e2 e3,rfl⟩;have e6:(bD 0 n).map D.int=(cm n).map λb:Nat=>D.int (b:Int):=by unfold bD;rw[f_];show pq λb _=>by show D.int (0+(b:Int))=_;rw[a00]
 have e7:=fI (nl:=1) (fr:=[6]) (it:=bX (bS 1)) (g:=g1 0) (t:=cK) (e:=cL cQ (aA (cL gY (aA (aB rA dU cV) aJ)) aJ)) (ρ:=bA [Sv.ro (aE l),Sv.ro (.int n),Sv.ro (.int m),q,Sv.ow (aE c),o,Sv.ow (.gR (c.map dj) (us.map aE)),v7,K,J,v10]) ((bD 0 n).map D.int)
  (by walk_at "ev";show mF ∅) (by rw[bo,aV];lia) (by rw[e6];show ec)
 show eL e7 rfl
theorem QP(n:Nat):2*Ord.tri n+n=n*n:=by
 induction n with
 |zero=>rfl
 |succ n ih =>
  show 2*(Ord.tri n+n)+(n+1)=(n+1)*(n+1);have:(n+1)*(n+1)=n*n+2*n+1:=by rw[Nat.add_mul,Nat.mul_add];lia
  lia
theorem K2(ns:Q0e)(k m s:Int)(h0:0<=m)(h1:m<=9):
  ∃d,kD [.kR ns,.int k,.int m,.int s]=.ok d /\∃rows:Q0a,(rows.length:Int)<=m/\Ord.Rows rows/\d=aM rows:=by
 unfold kD;show xH rfl ?_;obtain⟨Z,v⟩:=iO ns k;obtain⟨xs,z,F,ex⟩:=jK Z 4 s (by decide) (by decide);obtain⟨Y,u⟩:=iO ns (k+1);obtain⟨a,b,r,rfl⟩:∃a b r,xs=a::b::r:=by
  match xs,z with
  |a::b::r,_=>show⟨a,b,r,rfl⟩
 have O:=iz a (show m+1≠0 by lia);have L:=jn a (show 0<m+1 by lia);obtain⟨n,K⟩:∃n:Nat,a%(m+1)=(n:Int):=⟨(a%(m+1)).toNat,by lia⟩;have c:n<=9:=by lia
 have et:=QP n;have J:(n:Int)*((n:Int)-1)/2=(Ord.tri n:Int):=by
  have:(n:Int)*((n:Int)-1)=2*(Ord.tri n:Int):=by
   have e2:((n*n:Nat):Int)=(n:Int)*n:=by simp
   rw[Int.mul_sub,a01];lia
  rw[this,Int.mul_ediv_cancel_left _ (by decide)]
 have aJ1:Ord.tri n<=36:=Ord.KP c;obtain⟨ys,hy,A,U⟩:=jK Y ((n:Int)+Ord.tri n) (s+10007) ∅ ∅;show bE _ (gT (aE (a::b::r)) (jJ (cR rfl rfl v) rfl rfl ex) rfl) ?_;show bE _ (gT (.int n) ?_ rfl) ?_
 .simp only[aE]
  walk_at "ev"
  rw[show tU (D.int a::D.int b::r.map D.int) 0=aa (D.int a) from mI (k:=0) rfl]
  walk_at "ev"
  rw[bC ∅,K]
 show bE _ (gT (aE ys) (jJ (cR rfl rfl u) ?_ rfl U) rfl) ?_
 .walk_at "ev"
  rw[rR ∅]
  walk_at "ev"
  rw[jG (by decide) (by decide),J]
  walk_at "ev"
 have p:=iz b (show(8:Int)≠0 by decide);have o:=jn b (show(0:Int)<8 by decide);have j:∃h:Int,aB dI (dC (aA (eI 1) (aA (eI 1) (aA (eI 2) (aA (eI 2) (aA (eI 3) (aA (eI 1) (aA (eI 0) (aA (eI 4) aJ))))))))) (aB dB (aB dI nN (eI 1)) (eI 8)) [aa (.kR ns),aa (.int k),aa (.int m),aa (.int s),aa (aE (a::b::r)),aa (.int n),aa (aE ys)]=aa (.int h):=by
  obtain⟨x,z,e,_⟩:=rS (xs:=[(1:Int),1,2,2,3,1,0,4]) (i:=b%8) p o;show⟨x,aY (x:=.lst ([(1:Int),1,2,2,3,1,0,4].map D.int)) rfl (y:=.int (b%8)) ?_ ?_⟩
  .refine aY (x:=.int b) (y:=.int 8) ?_ rfl (bC (by decide));simp only[aE]
   walk_at "ev"
   show mI (k:=1) rfl
  .rw [kF,mH,e];rfl
 obtain⟨h,q⟩:=j;obtain⟨d,X,rows,I,l,rfl⟩:=K1 ys n h c ∅;show rV (aM rows) (jJ rfl rfl q X) ⟨rows,by lia,l,rfl⟩
def gA:kT:=bM 2 2
  (cC (jB leM ltM (eC (.int 0)) (aT 0) (aT 1)))
noncomputable def B7:Nat->D->Prop
 |0,_=>False
 |n+1,.tup ds=>ds.length<=1000000 /\∀d∈ds,B7 n d
 |_+1,.int _=>True
 |_+1,.bl _=>True
 |_+1,.non=>True
 |_+1,.str _=>True
 |_+1,_=>False
def isi(h:f ρ=aa d)(a:BX d=ae:=by rfl):i6 T f ρ=aa (.bl (BW T d)):=by unfold i6;rw[h];show Z_ a
theorem same_refl:∀(n:Nat) (d:D),B7 n d->bQ n [d,d]=.ok (.bl ae)
 |0,_,h=>h.elim
 |n+1,.tup ds,h=>by
  have j:=h.1;unfold bQ;show fN rfl (xD (J1 (by unfold tV;rw[isi rfl];rfl) (dD _ (qK ?_ rfl) (fR ?_))))
  .simp only[bL,aO,gZ,cC,bH,KA,l7,KC,rD,zE,sX,eT,dJ,aT,eC,aB,tV,nO,kU,WN,jA,qk,tT,we,zA,jB,aJ,aA,cL,aN,wU,i6,bI,bX,rB,WR,WV,g1,g2,tQ,PZ,uO,cK,benv,WW,vw,oE,asInt,cB,qE,l6,bA,fG,Sv.all,Sv.rd,cf,mn,ve,ny,Eg,yp,De,di,Dg,rf,Dc,Dt,Du,Ds,fj,mq,bo,zd,pf,kj,Dw,Nat.reduceSub,Nat.reduceAdd,Nat.reduceEqDiff,kG,lE,lF,mE,P6,mC,rM,qG,qH,fQ,mD,g7,xA,nY,kE,xB,qY,kF,qI,xC,jH,f9,rN,eV,lD,nZ,n5,n6,n8,n9,oA,rO,rP,if_true,if_false,ite_true,ite_false,reduceIte,decide_true,decide_false,decide_eq_true_eq,mx,Es,Et,mG,qL];simp[BW,tyM,bL,bA,i6,BX,aT,Sv.all,i9]
  .have e1:=fI (nl:=1) (fr:=[0,1]) (it:=bX (aA (cL b7 (bS 1)) aJ)) (g:=g1 0) (t:=cK) (e:=aN (bQ n) (aA (aB dI (aT 1) (aT 0)) (aA (aB dI (aT 2) (aT 0)) aJ))) (ρ:=[aa (.tup ds),aa (.tup ds)]) ((bD 0 ds.length).map D.int) (ys:=(bD 0 ds.length).map λ_=>D.bl ae)
    (by simp only[bL,aO,gZ,cC,bH,KA,l7,KC,rD,zE,sX,eT,dJ,aT,eC,aB,tV,nO,kU,WN,jA,qk,tT,we,zA,jB,aJ,aA,cL,aN,wU,i6,bI,bX,rB,WR,WV,g1,g2,tQ,PZ,uO,cK,benv,WW,vw,oE,asInt,cB,qE,l6,bA,fG,Sv.all,Sv.rd,cf,mn,ve,ny,Eg,yp,De,di,Dg,rf,Dc,Dt,Du,Ds,fj,mq,bo,zd,pf,kj,Dw,Nat.reduceSub,Nat.reduceAdd,Nat.reduceEqDiff,kG,lE,lF,mE,P6,mC,rM,qG,qH,fQ,mD,g7,xA,nY,kE,xB,qY,kF,qI,xC,jH,f9,rN,eV,lD,nZ,n5,n6,n8,n9,oA,rO,rP,if_true,if_false,ite_true,ite_false,reduceIte,decide_true,decide_false,decide_eq_true_eq,mx,Es,Et,mG,qL];show mF ∅) (by rw[bo,aV];lia) (uS D.int (λ_=>D.bl ae) (bD 0 ds.length) λk a=>by have a:=bR.mp a;obtain⟨x,c,e,_⟩:=rS (xs:=ds) (i:=k) ∅ ∅;show aN (bQ n) _ _=_;show cR (aY rfl rfl e) (aY rfl rfl e) (same_refl n x (h.2 x c)))
   show eL e1 ?_;have:(bD 0 ds.length).map (λ_=>D.bl ae)=((bD 0 ds.length).map λ_=>ae).map D.bl:=by rw[f_];rfl
   rw[this,qM];congr 2;simp
 |n+1,.int i,_=>by unfold bQ;show fN rfl (dD _ (qK rfl rfl) (dD _ (qK rfl rfl) (dD _ (qK rfl rfl) (xD (J1 rfl (fR ?_))))));show jA _ _ _=_;simp[jA,tT,i6,BX,aT,BW,tyM,pD,aB,g7,nY,kE,bL,bA,Sv.all]
 |n+1,.bl b,_=>by unfold bQ;show fN rfl (dD _ (qK rfl rfl) (dD _ (qK rfl rfl) (xD (J1 rfl (fR ?_)))));simp[jA,tT,i6,BX,aT,BW,tyM,pD,aB,g7,nY,kE,bL,bA,Sv.all]
 |n+1,.non,_=>by unfold bQ;show fN rfl (dD _ (qK rfl rfl) (xD (J1 rfl (fR rfl))))
 |n+1,.str x,_=>by unfold bQ;show fN rfl (dD _ (qK rfl rfl) (dD _ (qK rfl rfl) (dD _ (qK rfl rfl) (dD _ (qK rfl rfl) (fR ?_)))));simp[jA,tT,i6,BX,aT,BW,tyM,pD,aB,g7,nY,kE,bL,bA,Sv.all]
 |n+1,.lst _,h=>h.elim
 |n+1,.kR _,h=>h.elim
 |n+1,.gR _ _,h=>h.elim
 |n+1,.cN _ _ _,h=>h.elim
 |n+1,.exc _ _,h=>h.elim
 |n+1,.rws _,h=>h.elim
theorem oF{α:Type}(P:aW->Prop)(mk:α->D)(ok:α->Bool):∀(l:List α) (ρ:aW),P ρ->(∀a∈l,∀ρ,P ρ ->∃ρ1,g (mk a) ρ=aa ρ1/\(ok a=ae->Nx (b ρ1) P)/\(ok a=ag->b ρ1=.rt z)) ->
  (l.all ok=ae->Nx (fH g b (l.map mk) ρ) P)/\(l.all ok=ag->fH g b (l.map mk) ρ=.rt z)
 |[],ρ,h,_=>⟨λ_=>⟨ρ,rfl,h⟩,λe=>by cases e⟩
 |a::l,ρ,h,step=>by
  obtain⟨ρ1,e1,n,h2⟩:=step a (by simp) ρ h
  cases hd:ok a with
  |true =>
   obtain⟨c,j,p2⟩:=n hd;have m:=oF P mk ok l c p2 λd' d=>step d' (by simp[d]);simp only[cf,fH,e1,j,mr,hd,vj];show m
  |false =>
   have j:=h2 hd;simp only[cf,fH,e1,j,mr,hd,sh];show⟨λe=>(by cases e),λ_=>trivial⟩
def row(rows:Q0a)(b:Int):List Int:=(rows[b.toNat]?).getD []
def B8(d:0<=i)(c:i<rows.length):dI (aM rows) (.int i)=aa (τ (row rows i)):=by
 have a:i.toNat<rows.length:=by lia
 rw[show aM rows=.tup (rows.map τ) from rfl,qI,mH];unfold tU row;rw[xF d c];simp[a]
def CA:nQ ag (.int i) (τ xs)=aa (.bl (xs.contains i)):=by unfold τ;rw[mG];rfl
def QQ:nQ ae (.int i) (τ xs)=aa (.bl (!xs.contains i)):=by unfold τ;rw[mG];rfl
def iP:b7 [aM rows]=aa (.int rows.length):=by unfold aM;rw[f9,bo]
def K3:b7 [τ xs]=aa (.int xs.length):=by unfold τ;rw[f9,bo]
def zN(a n:Int):gA [.int a,.int n]=.ok (.bl (Zv (0<=a)&&Zv (a<n))):=by
 unfold gA;show fN rfl (fR ?_);show jB leM ltM (eC (.int 0)) (aT 0) (aT 1) [aa (.int a),aa (.int n)]=_;unfold jB;simp only[eC,aT,ve,ny,yp,di,qH,qG,mE];by_cases h:0<=a
 .simp [h]
 .simp [h]
def pairD(p:Int×Int):D:=.tup [.int p.1,.int p.2]
end LL
namespace Ord
def rel(rows:Q0a)(a b:Nat):Bool:=(rows.getD b []).contains (a:Int)
def Rows.Ow(h:Rows rows)(c:a<rows.length):rel rows a a=ag:=by unfold rel;rw[kb,cj c];have:=h.G2 a _ (cj c);simpa using this
def Rows.tr'(h:Rows rows)(l:b<rows.length)(j:c<rows.length)(d:rel rows a b=ae)(h2:rel rows b c=ae):rel rows a c=ae:=by
 unfold rel at *;rw[kb,cj l] at d;rw[kb,cj j] at h2 ⊢;have d:(a:Int)∈rows[b]:=by simpa using d
 have h2:(b:Int)∈rows[c]:=by simpa using h2
 have:=h.tr c b _ _ (cj j) h2 (cj l) _ d;simpa using this
def xI(h:x[b]?=aa r):rel x a b=ae↔(a:Int)∈r:=by unfold rel;rw[kb,h];simp
def K4(h:Rows y)(c:y[b]?=aa v):z∈v ↔ ∃a:Nat,z=(a:Int)/\a<y.length/\rel y a b=ae:=by
 constructor
 .intro d;obtain⟨q1,q2⟩:=h.rng _ _ c _ d;show⟨z.toNat,by lia,by lia,?_⟩;rw[xI c,show((z.toNat:Nat):Int)=z by lia];show d
 .rintro ⟨a,rfl,j,h2⟩
  rwa [xI c] at h2
def W4(lo:Int)(n:Nat):(L4.bD lo n).Pairwise (·<·):=vh _ (λa b (h:a<b)=>by lia) D_
def Rows.short(h:Rows x)(d:r∈x):r.length<=x.length:=by
 obtain⟨b,c⟩:=yx.mp d;have nd:r.Nodup:=(h.up b r c).imp λq=>by lia
 have:=eU r (L4.bD 0 x.length) nd λa j=>LL.bR.mpr (by have:=h.rng b r c a j;lia)
 rwa [LL.aV] at this
end Ord
namespace K45
open L3 L4 LL
def pr(p:Int×Int):List Int:=[p.1,p.2]
def dM(x:Q0a)(k:Nat):List (Int×Int):=(bD 0 k).flatMap λb=>(row x b).map λa=>(a,b)
def lJ(x:Q0a)(k:Nat):dM x (k+1)=dM x k++(row x (k:Int)).map λa=>(a,(k:Int)):=by unfold dM;rw[G5,Ei];simp
def jL{x:Q0a}{p:Int×Int}:p∈dM x x.length↔0<=p.2/\p.2<(x.length:Int)/\p.1∈row x p.2:=by
 unfold dM;rw[yy]
 constructor
 .rintro ⟨b,d,c⟩;obtain⟨a,h,rfl⟩:=gd.mp c;have:=bR.mp d;show⟨by lia,by lia,h⟩
 .rintro ⟨l,j,h2⟩;show⟨p.2,bR.mpr ∅,gd.mpr ⟨p.1,h2,rfl⟩⟩
def mK{x:Q0a}{b:Int}(c:0<=b)(a:b<(x.length:Int)):x[b.toNat]?=aa (row x b):=by
 have:b.toNat<x.length:=by lia
 unfold row;rw[cj this];rfl
def zP{x:Q0a}{a b:Nat}(c:b<x.length):(((a:Int),(b:Int))∈dM x x.length)↔Ord.rel x a b=ae:=by
 rw[jL];have e:=mK (x:=x) (b:=(b:Int)) ∅ ∅;rw[gr] at e;rw[Ord.xI e]
 constructor
 .rintro ⟨_,_,h⟩;show h
 .intro h;show⟨by show(0:Int)<=(b:Int);lia,by show(b:Int)<_;lia,h⟩
def CB{x:Q0a}(j:Ord.Rows x):(dM x x.length).Nodup:=by
 unfold dM;rw[En,List.pairwise_flatMap]
 constructor
 .intro b d;have d:=bR.mp d;have nd:(row x b).Nodup:=(j.up _ _ (mK ∅ ∅)).imp λq=>by lia
  show vh _ (λa c h e=>h (congrArg Prod.fst e)) nd
 .refine (Ord.W4 0 x.length).imp λ{b c} h p m q l e=>?_;obtain⟨a,_,rfl⟩:=gd.mp m;obtain⟨n,_,rfl⟩:=gd.mp l;have:=congrArg Prod.snd e;simp at this;lia
theorem zQ(c:Ord.Rows x)(h:x.length<=9):∀k,k<=x.length->(dM x k).length<=k*8:=by
 intro k
 induction k with
 |zero=>intro _;simp[dM,bD]
 |succ k ih =>
  intro j;rw[lJ,dm,bo];have l:=ih ∅;have e:=mK (x:=x) (b:=(k:Int)) ∅ ∅;rw[gr] at e;have nd:(row x (k:Int)).Nodup:=(c.up _ _ e).imp λq=>by lia
  have h2:((k:Int)::row x (k:Int)).length<=(bD 0 x.length).length:=Ord.eU _ _ (kl.mpr ⟨c.G2 _ _ e,nd⟩) λa d=>by
   rcases bx.1 d with rfl|d
   .exact bR.mpr ∅
   .have:=c.rng _ _ e a d;show bR.mpr ∅
  rw[aV,fj] at h2;lia
def un(t:Q0e):Int×Int:=(t.getD 0 0,t.getD 1 0)
def srt(l:List (Int×Int)):List (Int×Int):=(pE (l.map pr)).map un
def zR(l:List (Int×Int)):(srt l).Perm l:=by have:=(iN (l.map pr)).map un;rw[f_] at this;have e:(un∘pr)=id:=funext λp=>rfl;rw[e,a0M] at this;show this
def QR(l:List (Int×Int)):(pE (l.map pr)).map l8=(srt l).map pairD:=by unfold srt;rw[f_];show pq λt a=>?_;obtain⟨p,_,rfl⟩:=gd.mp ((iN (l.map pr)).mem_iff.mp a);rfl
theorem rW:∀l:List (Int×Int),lB (l.map pairD)=aa (l.map pr)
 |[]=>rfl
 |p::l=>by rw[cf,lB,rW l];rfl
def CC(h:l.length<64):lC [.lst (l.map pairD)]=aa (.lst ((srt l).map pairD)):=by unfold lC;simp only[rW,di];rw[Z_ ⟨by simpa using h,js.mpr λt a=>by obtain⟨p,_,rfl⟩:=gd.mp a;rfl⟩,QR]
def code(p:Int×Int):Int:=if p.1<p.2 then p.1*9+p.2 else p.2*9+p.1
def codes:List Int:=(bD 0 9).flatMap λi=>(bD (i+1) (8-i).toNat).map λj=>i*9+j
def rX{x:Q0a}(h:Ord.Rows x){a b:Int}(j:(a,b)∈dM x x.length)(h2:(b,a)∈dM x x.length):False:=by obtain⟨n,l,d⟩:=jL.mp j;obtain⟨p,o,c⟩:=jL.mp h2;simp only at n l p o d c;obtain⟨m,rfl⟩:∃m:Nat,a=(m:Int):=⟨a.toNat,by lia⟩;obtain⟨k,rfl⟩:∃k:Nat,b=(k:Int):=⟨b.toNat,by lia⟩;have:=h.tr' ∅ ∅ ((zP ∅).mp j) ((zP ∅).mp h2);rw[h.Ow ∅] at this;cases this
def mL{a b c d:Int}(j:0<=b/\b<9)(h:0<=d/\d<9)(e:a*9+b=c*9+d):a=c/\b=d:=by lia
def QS{x:Q0a}(o:Ord.Rows x)(I:x.length<=9):(dM x x.length).length<=36:=by
 have v:∀p∈dM x x.length,0<=p.1/\p.1<9/\0<=p.2/\p.2<9/\p.1≠p.2:=λp m=>by obtain⟨A,n,h2⟩:=jL.mp m;have e:=mK A n;obtain⟨q1,q2⟩:=o.rng _ _ e _ h2;show⟨q1,by lia,A,by lia,λz=>?_⟩;obtain⟨a,b⟩:=p;simp only at z;subst z;show rX o m m
 have nd:((dM x x.length).map code).Nodup:=by
  rw[En,uz];show a0Z (λ{p q} m y u e=>?_) (CB o);have l:=v p m;have j:=v q y;obtain⟨a,b⟩:=p;obtain⟨c,d⟩:=q;simp only at l j;unfold code at e;simp only at e;by_cases n:a<b<;>by_cases h2:c<d
  .rw [Z_ n,Z_ h2] at e;obtain⟨rfl,rfl⟩:=mL ⟨l.2.2.1,l.2.2.2.1⟩ ⟨j.2.2.1,j.2.2.2.1⟩ e;show u rfl
  .rw [Z_ n,Zz h2] at e;obtain⟨rfl,rfl⟩:=mL ⟨l.2.2.1,l.2.2.2.1⟩ ⟨j.1,j.2.1⟩ e;show rX o m y
  .rw [Zz n,Z_ h2] at e;obtain⟨rfl,rfl⟩:=mL ⟨l.1,l.2.1⟩ ⟨j.2.2.1,j.2.2.2.1⟩ e;show rX o m y
  .rw [Zz n,Zz h2] at e;obtain⟨rfl,rfl⟩:=mL ⟨l.1,l.2.1⟩ ⟨j.1,j.2.1⟩ e;show u rfl
 have:=Ord.eU _ codes nd λz F=>by
  obtain⟨p,m,rfl⟩:=gd.mp F;have:=v p m;unfold code codes;by_cases h:p.1<p.2
  .rw [Z_ h,yy];show⟨p.1,bR.mpr ∅,gd.mpr ⟨p.2,bR.mpr ∅,rfl⟩⟩
  .rw [Zz h,yy];show⟨p.2,bR.mpr ∅,gd.mpr ⟨p.1,bR.mpr ∅,rfl⟩⟩
 rw[bo] at this;have e:codes.length=36:=by decide+kernel
 lia
def zS{x:Q0a}(a:Ord.Rows x)(c:x.length<=9):(dM x x.length).length<64:=by have:=QS a c;lia
end K45
namespace G6
open L3 L4
def fW:kT:=bM 4 1
  (aO (l7 1 (dC aJ))
  (aO (eT (rB (bS 0)) (PZ 2 3)
   (sX (qE 1 GX (cB (bT 1 [2] (bI nM) (g1 0) cK (gS (aA cV (bS 1))))))))
  (cC (cL cQ (aA (cL lC (bS 1)) aJ)))))
open LL K45
def Fe(h:x ρ=aa (ρ',d)):sX x ρ=.nx ρ':=by unfold sX;rw[h]
theorem Ov(j:l6 ρ[i]?=aa ds0)(a:x ρ=aa (ρ1,d))(h:l6 ρ1[i]?=aa ds)(c:m ds d=aa q):
  qE i m x ρ=aa (ρ1.set i (.ow (.lst q.1)),q.2):=by
 unfold qE;rw[j,di,a,di,h,di,c];rfl
section
variable{x:Q0a}(hx:Ord.Rows x)
include hx
def Uk(j:0<=c)(d:c<(x.length:Int))(h:a∈row x c):0<=a/\a<(x.length:Int):=hx.rng _ _ (mK j d) a h
end
def W5(x:Q0a)(p:Int×Int):Bool:=!(row x p.2).any λc=>(row x c).contains p.1
structure Cl (x:Q0a) (P:List (Int×Int)) (b:Int) (u f:Q0e):Prop where
 nd:u.Nodup
 sub:∀a∈u,a∈row x b
 fr:∀a∈f,a=b\/a∈u
 cl:∀c,(c=b\/c∈u)->c∉f ->∀a,(a,c)∈P->a∈u
abbrev T(x:Q0a):List (Int×Int):=srt (dM x x.length)
def lK(n:Ord.Rows x)(o:x.length<=9):fW [aM x]=.ok (.tup ((T x).map pairD)):=by
 have v:=zS n o;unfold fW;show fN rfl (dD [.ro (aM x),.ow (.lst []),.no,.no] rfl ?_);obtain⟨ρ',e,m,l,rfl⟩:Nx (eT (rB (bS 0)) (PZ 2 3)
   (sX (qE 1 GX (cB (bT 1 [2] (bI nM) (g1 0) cK (gS (aA cV (bS 1))))))) [.ro (aM x),.ow (.lst []),.no,.no])
   (λρ=>∃m l,ρ=[Sv.ro (aM x),Sv.ow (.lst ((dM x x.length).map pairD)),m,l]):=by
  show KY ((x.map τ).zipIdx.map λp=>.tup [.int (p.2:Int),p.1]) (λi ρ=>∃m l,ρ=[Sv.ro (aM x),Sv.ow (.lst ((dM x i).map pairD)),m,l]) rfl ⟨_,_,rfl⟩ ?_ λρ h=>by simpa using h
  rintro i d _ j ⟨m,l,rfl⟩;rw[ft,a0S,ft] at j
  cases q:x[i]? with
  |none=>rw[q] at j;cases j
  |some r =>
   have z:i<x.length:=(dh.mp q).1;rw[q] at j;have j:=ee j;subst j;have u:row x (i:Int)=r:=by unfold row;rw[gr,q];rfl
   have y:=zQ n o i ∅;have c:=zQ n o (i+1) ∅;rw[lJ,dm,u] at c;show⟨[.ro (aM x),.ow (.lst ((dM x i).map pairD)),.ro (.int (i:Int)),.ro (τ r)],by show aa [_,_,_,_]=_;rw[o_],_,Fe (Ov (ρ1:=[.ro (aM x),.ow (.lst ((dM x i).map pairD)),.ro (.int (i:Int)),.ro (τ r)]) (ds0:=(dM x i).map pairD) (ds:=(dM x i).map pairD) (d:=.lst ((r.map λa=>(a,(i:Int))).map pairD)) rfl ?_ rfl (QK (by simp at c ⊢;lia))),.ro (.int (i:Int)),.ro (τ r),?_⟩
   .unfold cB;rw[fI (r.map D.int) rfl (by simp at c ⊢;lia) (dE D.int (λa=>pairD (a,(i:Int))) r λa _=>⟨_,rfl,rfl⟩),f_];rfl
   .rw [lJ,jd,u];rfl
 show dD _ e (fR (eL (eL rfl (CC v)) rfl))
def Uj:p∈T x↔0<=p.2/\p.2<(x.length:Int)/\p.1∈row x p.2:=by rw[(zR _).mem_iff,jL]
def Ui(a:Ord.Rows x)(c:x.length<=9):(T x).length<64:=by rw[(zR _).length_eq];show zS a c
abbrev B(x:Q0a):List (Int×Int):=(T x).filter (W5 x)
end G6
namespace LL
open L3 L4
def kI:kT:=bM 5 3
  (aO (gZ (tV (aB geM cV (aB zC (eI 10) (eI 18))))
   (cC (aB dB (aB qW cV (eI 64)) dU))
   dJ)
  (aO (bH 3 (eI 0))
  (aO (eT (bX (aA (eI 20) aJ)) (tQ 4)
   (bH 3 (aB cP (aB mulM nM (eI 1000000007)) (aN LL.eD (aA cV (aA nN (bS 2)))))))
  (cC (aB dB nM dU)))))
def fW:kT:=bM 4 1
  (aO (l7 1 (dC aJ))
  (aO (eT (rB (bS 0)) (PZ 2 3)
   (sX (qE 1 GX (cB (bT 1 [2] (bI nM) (g1 0) cK (gS (aA cV (bS 1))))))))
  (cC (cL cQ (aA (cL lC (bS 1)) aJ)))))
def Ou(a:ds.length=np)(h:b (bL n ds)=.ex c):bM n np b ds=.ex c:=by unfold bM;rw[Z_ a,h]
def Ot(h:f ρ=.ex c):aO f g ρ=.ex c:=by unfold aO;rw[h]
def Oq(h:r (bA ρ)=aa c):B3 r f ρ=.ex c:=by unfold B3;rw[h]
def Oo(h:r (bA ρ)=af)(h2:f ρ=o):B3 r f ρ=o:=by unfold B3;rw[h];show h2
def W6(ρ:bK)(h:(Zv ((0:Int)<=j)&&Zv (j.natAbs<=1000000)&&Zv (i.natAbs<18446744073709551616))=ae):aB zC (eI i) (eI j) ρ=aa (.int (i^j.toNat)) :=
 aY rfl rfl (Z_ h)
def K5(c s:Int)(d:0<most):∃r,0<=r/\r<most/\kI [.int c,.int most,.int s]=.ok (.int r):=by
 have j:∀ρ,aB zC (eI 10) (eI 18) ρ=aa (.int 1000000000000000000):=λρ=>by rw[W6 ρ (by decide+kernel)];rfl
 unfold kI;by_cases h:(1000000000000000000:Int)<=c
 .refine ⟨c/64%most,iz _ ∅,jn _ d,fN rfl (xD (J1 (tY (aY (x:=.int c) (y:=.int 1000000000000000000) rfl (j _) mD) (by rw[Zx h];rfl)) (fR (aY (x:=.int (c/64)) (y:=.int most) (aY (x:=.int c) (y:=.int 64) rfl rfl (jG (by decide) (by decide))) rfl (bC d)))))⟩
 .obtain ⟨_,e,x,a,rfl⟩:Nx (eT (bX (aA (eI 20) aJ)) (tQ 4)
   (bH 3 (aB cP (aB mulM nM (eI 1000000007)) (aN LL.eD (aA cV (aA nN (bS 2)))))) [.ri c,.ri most,.ri s,.ri 0,.no])
   (λρ=>∃x a,ρ=[.ri c,.ri most,.ri s,.ri x,a]):=by
   show oC 20 (λi ρ=>∃x a,ρ=[.ri c,.ri most,.ri s,.ri x,a]) rfl (by decide) ⟨0,.no,rfl⟩ ?_ λρ h=>h;rintro i _ m ⟨x,a,rfl⟩;obtain⟨r,_,l⟩:=zM c (i:Int) s ∅ ∅;show⟨_,rfl,_,gT (.int (x*1000000007+r)) (aY (x:=.int (x*1000000007)) (y:=.int r) (aY (x:=.int x) (y:=.int 1000000007) rfl rfl (xE (by decide))) (jJ rfl rfl rfl l) mC) rfl,_,_,rfl⟩
  show⟨x%most,iz _ ∅,jn _ d,fN rfl (dD _ (qK (tY (aY (x:=.int c) (y:=.int 1000000000000000000) rfl (j _) mD) (by rw[Zy h];rfl)) rfl) (dD _ (gT (.int 0) rfl rfl) (dD _ e (fR (aY (x:=.int x) (y:=.int most) rfl rfl (bC d))))))⟩
def lK(a:Ord.Rows x)(c:x.length<=9):LL.fW [aM x]=.ok (.tup ((G6.T x).map pairD)):=G6.lK a c
def η(c:Q0e)(a:Int):Int:=(c[a.toNat]?).getD 0
def W7(d:0<=a)(c:a<(fl.length:Int)):dI (τ fl) (.int a)=aa (.int (η fl a)):=by obtain⟨x,_,e,h⟩:=rS d c;show tU (fl.map D.int) a=_;rw[mH,e];unfold η;rw[h];rfl
def K6(d:0<=a)(c:a<(fl.length:Int)):dI (aE fl) (.int a)=aa (.int (η fl a)):=W7 d c
def jM:kT:=bM 2 2
  (cC (cL cQ (aA (cL jC (aA (aB cP cV (gS (bS 1))) aJ)) aJ)))
def dN:kT:=bM 3 2
  (aO (bH 2 (bT 1 [1] (bX (aA (cL b7 (bS 0)) aJ)) (g1 0) (tV (aB (nQ ae) cV dU)) cV))
  (cC (bT 1 [1,0] (bI fM) (g1 0) (tV (cL allM (aA (bT 1 [1] (bI (aB dI fM cV)) (g1 0) cK (aB (nQ ag) cV dU)) aJ))) cV)))
def bY(x:Q0a)(a:Q0e):List Int:=((bD 0 x.length).filter λt=>!a.contains t).filter λt=>(row x t).all λl=>a.contains l
def cU(a:Q0e)(t:Int):List Int:=sortI (a++[t])
def rdI(x:Q0a)(a:Q0e):List (List Int):=(bY x a).map (cU a)
def W8(x:Q0a)(a:Q0e):Prop:=a.Nodup /\∀t∈a,0<=t/\t<(x.length:Int)
def xJ(h:ns.length<64):jC [.tup (ns.map D.int)]=aa (.lst ((sortI ns).map D.int)):=by simp[jC,cD,h]
def G7(h:a.length<=9):jM [τ a,.int t]=.ok (τ (cU a t)):=by
 unfold jM;show fN rfl (fR (eL (x:=aE (cU a t)) (eL (x:=τ (a++[t])) (aY (x:=τ a) (y:=τ [t]) rfl rfl ?_) ?_) rfl))
 .unfold τ;rw[KQ (by simp;lia),jd]
 .have:=xJ (ns:=a++[t]) (by simp;lia);show this
def K7(p:x.length<=9)(m:∀r∈x,r.length<=9):dN [aM x,τ a]=.ok (aE (bY x a)):=by
 unfold dN bY;have e1:bT 1 [1] (bX (aA (cL b7 (bS 0)) aJ)) (g1 0) (tV (aB (nQ ae) cV dU)) cV (fG (bL 3 [aM x,τ a]))=aa (aE ((bD 0 x.length).filter λt=>!a.contains t)):=by show fI ((bD 0 x.length).map D.int) (U5 (eL rfl iP) ∅) (by rw[bo,aV];lia) ?_;show fJ D.int _ D.int (bD 0 x.length) λt _=>⟨[aa (.int t),aa (τ a)],rfl,tY (aY (x:=.int t) (y:=τ a) rfl rfl QQ) rfl,λ_=>rfl⟩
 generalize h:((bD 0 x.length).filter λt=>!a.contains t)=L at e1;have n:∀t∈L,0<=t/\t<(x.length:Int):=λt c=>by rw[<- h] at c;have:=bR.mp (iy.mp c).1;lia
 have q:L.length<=9:=by rw[<- h];have:=r9 (λt=>!a.contains t) (bD 0 x.length);rw[aV] at this;lia
 show fN rfl (dD _ (gT (aE L) e1 rfl) (fR ?_));show fI (L.map D.int) rfl (by rw[bo];lia) ?_;show fJ D.int _ D.int L λt c=>⟨[aa (.int t),aa (τ a),aa (aM x)],rfl,?_,λ_=>rfl⟩;obtain⟨j,t1⟩:=n t c;have o:(row x t).length<=9:=by unfold row;rw[cj ∅];show m _ (p_ _)
 show tY (d:=.bl ((row x t).all λl=>a.contains l)) (eL (x:=.lst (((row x t).map λl=>a.contains l).map D.bl)) ?_ ?_) rfl
 .refine Eq.trans (fI ((row x t).map D.int) ?_ (by rw[bo];lia) (dE D.int (λl=>.bl (a.contains l)) (row x t) λl _=>⟨[aa (.int l),aa (τ a)],rfl,aY (x:=.int l) (y:=τ a) rfl rfl CA⟩)) (by rw[f_];rfl);unfold bI;rw[aY (x:=aM x) (y:=.int t) (z:=aa (τ (row x t))) rfl rfl (B8 j t1)];rfl
 .rw [qM,vg];rfl
def oG(h:t∈bY x a):(0<=t/\t<(x.length:Int))/\t∉a:=by unfold bY at h;have c:=(iy.mp h).1;have h2:=iy.mp c;have:=bR.mp h2.1;show⟨by lia,by simpa using h2.2⟩
def W9(n:Nat):(bD 0 n).Nodup:=by show u_.mpr λi j d c h=>?_;have e1:=mJ (lo:=0) (n:=n) (i:=i) (by simpa[aV] using d);have a:=mJ (lo:=0) (n:=n) (i:=j) (by simpa[aV] using c);rw[cj d] at e1;rw[cj c] at a;have e1:=ee e1;have a:=ee a;lia
def oH(h:W8 x a):(bY x a).length+a.length<=x.length:=by
 have nd:(bY x a++a).Nodup:=by show rn.mpr ⟨?_,h.1,λu d v c e=>(oG d).2 (e▸c)⟩;unfold bY;show vi _ (vi _ (W9 x.length))
 have:=Ord.eU _ (bD 0 x.length) nd λt j=>bR.mpr (by
  rcases gn.1 j with z|z
  .have:=(oG z).1;lia
  .have:=h.2 t z;lia)
 rwa [dm,aV] at this
def U6(h:W8 x a):(∀b∈rdI x a,W8 x b/\b.length=a.length+1)/\(rdI x a).length+a.length<=x.length:=by
 show⟨λb j=>?_,by unfold rdI;rw[bo];show oH h⟩;unfold rdI at j;obtain⟨t,l,rfl⟩:=gd.mp j;obtain⟨m,n⟩:=oG l;have p:=sortI_perm (a++[t]);show⟨⟨?_,λu c=>?_⟩,?_⟩
 .unfold cU;show p.nodup_iff.mpr (rn.mpr ⟨h.1,by simp,λu c v d e=>?_⟩);rw[cg] at d;subst d;subst e;show n c
 .unfold cU at c;rcases gn.1 (p.mem_iff.mp c) with z|z
  .exact h.2 u z
  .rw [cg] at z;subst z;show m
 .unfold cU;rw[p.length_eq];simp
def xK(h:W8 x a):a.length<=x.length:=by have:=oH h;lia
def QT:W8 x []:=⟨rm,λt a=>by cases a⟩
end LL
namespace K24
noncomputable def fact:Nat->Int
 |0=>1
 |k+1=>fact k*(k+1)
noncomputable def ff(x:Int):Nat->Int
 |0=>1
 |k+1=>ff x k*(x-k)
--CUT
def C(x:Int)(m:Nat):Int:=ff x m/fact m
noncomputable def diffs:List Int->List Int
 |a::b::l=>(b-a)::diffs (b::l)
 |_=>[]
theorem mM:∀l:Q0e,(diffs l).length=l.length-1
 |[]=>rfl
 |[_]=>rfl
 |a::b::l=>by rw[diffs,fj,mM (b::l)];simp
def fd(l:Q0e):List Int:=match l with
 |[]=>[]
 |a::r=>a::fd (diffs (a::r))
termination_by l.length
decreasing_by rw[mM];simp
noncomputable def vals(f:Int->Int):Nat->Int->List Int
 |0,_=>[]
 |n+1,x=>f x::vals f n (x+1)
def DV(n:Nat)(d:Int):List Int->Int->Int
 |[],_=>0
 |w::l,k=>w*C (k+n-1-d) n+DV n (d+1) l k
end K24
namespace LL
open L3 L4
def kJ:kT:=bM 1 1
  (cC (bT 1 [] (bI cV) (g1 0) cK (cL GV (aA (bT 1 [] (bI cV) (g1 0) cK (aB QF (eI 1) cV)) aJ))))
def mO{ks:List nV}{k a:nV}{v:D}:∀{ks:List nV} {ds:List D},ks.length=ds.length->bF (dF ks ds k v).1 (dF ks ds k v).2 a=if a=k then aa v else bF ks ds a:=by
 intro ks ds c;unfold dF;split
 .rename_i hc;have go:∀(ks:List nV) (ds:List D),ks.length=ds.length->bF ks ((ks.zip ds).map λp=>if p.1=k then v else p.2) a=if a=k then(bF ks ds a).map (λ_=>v) else bF ks ds a:=by
   intro ks
   induction ks with
   |nil=>intro ds _;simp[bF]
   |cons q ks ih =>
    intro ds c
    cases ds with
    |nil=>simp at c
    |cons d ds =>
     have:=ih ds (by simpa using c);unfold bF at this ⊢;by_cases j:q=a
     .subst j;by_cases h2:q=k
      .simp [h2]
      .simp [h2]
     .simpa [j] using this
  have l:k∈ks:=by rw[Em] at hc;obtain⟨q,m,e⟩:=hc;rw[<- of_decide_eq_true e];show m
  have some_of:∀(ks:List nV) (ds:List D),ks.length=ds.length->k∈ks ->∃d,bF ks ds k=aa d:=by
   intro ks
   induction ks with
   |nil=>intro ds _ h;cases h
   |cons q ks ih =>
    intro ds c h
    cases ds with
    |nil=>simp at c
    |cons d ds =>
     by_cases j:q=k
     .exact ⟨d,by simp[bF,j]⟩
     .obtain ⟨d',e⟩:=ih ds (by simpa using c) ((bx.1 h).resolve_left (fg j));show⟨d',by unfold bF at e ⊢;simpa[j] using e⟩
  rw[go ks ds c];by_cases h:a=k
  .subst h;obtain⟨d,e⟩:=some_of ks ds c l;rw[e];simp
  .rw [Zz h,Zz h]
 .rename_i hc;have o:k∉ks:=λh=>hc (Em.2 ⟨k,h,by simp⟩);unfold bF;dsimp only;rw[a0E c,List.find?_append];by_cases h:a=k
  .subst h;have:((ks.zip ds).find? λp=>Zv (p.1=a))=af:=by rw[List.find?_eq_none];intro p n;have:=rj n;simp only[decide_eq_true_eq];show λe=>o (e▸this.1)
   rw[this];simp
  .rw [Zz h];have:([k].zip [v]).find? (λp=>Zv (p.1=a))=af:=by simp[fg h]
   rw[this,Option.or_none]
def EU{ks:List nV}{ds:List D}{k:nV}{v:D}(h:ks.length=ds.length):(dF ks ds k v).1.length=(dF ks ds k v).2.length/\(dF ks ds k v).1.length<=ks.length+1:=by
 unfold dF;split
 .simp [h]
 .simp [h]
def G8{ks:List nV}{ds:List D}{k:nV}{v:D}(h:∀q∈ks,q.isLeft=ag)(c:k.isLeft=ag):∀q∈(dF ks ds k v).1,q.isLeft=ag:=by
 unfold dF;split
 .exact h
 .intro q a;rcases gn.1 a with z|z
  .exact h q z
  .rw [cg.1 z];show c
theorem lL(h:∀q∈ks,q.isLeft=ag)(c:k.isLeft=ag):kindB ks k=ae:=by unfold kindB;rw[js];intro q a;rw[h q a,c];rfl
def A_(a b:Q0e):List Int:=(a.zip b).map λp=>p.1+p.2
def Om(l:Q0e):List Int:=0::l.dropLast
def Oi(n:Nat):List Int:=1::cp (max n 1-1) 0
def zer(n:Nat):List Int:=cp (max n 1) 0
section
variable(x:Q0a)
def Sh:Nat->List Int->Int->List Int
 |0,_,_=>Oi x.length
 |m+1,a,l=>(bY x a).foldl (λc t=>A_ c (if t<l then Om (Sh m (cU a t) t) else Sh m (cU a t) t)) (zer x.length)
end
noncomputable def most:Nat->Nat
 |0=>1
 |m+1=>1+(m+1)*most m
def K8(kd a:KD):Prop:=∀k,(bF kd.1 kd.2 k).isSome=ae->(bF a.1 a.2 k).isSome=ae
def zT(h:ρ[0]?=aa (aa (aM x)))(c:ρ[1]?=aa (aa (τ a))):tV (aB qD (cL b7 (bS 1)) (cL b7 (bS 0))) ρ=aa (Zv (a.length=x.length)):=by
 have e0:aT 0 ρ=aa (aM x):=by unfold aT;rw[h];rfl
 have e1:aT 1 ρ=aa (τ a):=by unfold aT;rw[c];rfl
 show tY (d:=.bl (Zv ((a.length:Int)=x.length))) (aY (eL e1 K3) (eL e0 iP) g7) ?_;rw[kG];congr 1;show decide_eq_decide.2 ∅
def XA:∀{n:Nat},n<=9->most n<=1000000:=by
 intro n h;have:∀n,n<=9->most n<=1000000:=by decide
 show this n h
def shares(x:Q0a):List Int:=Sh x x.length [] 0
open K24
theorem Oh(c:f (fG ρ)=aa d)(h2:ρ[i]?=aa (.ow (.lst ds)))(a:ds.length<16777216):sX (qE i kX (cB f)) ρ=.nx (ρ.set i (.ow (.lst (ds++[d])))):=by
 have e:qE i kX (cB f) ρ=aa (ρ.set i (.ow (.lst (ds++[d]))),.non):=by unfold qE cB;rw[h2,c];show((l6 ρ[i]?).bind λds=>(kX ds d).map _)=_;rw[h2];show((kX ds d).map _)=_;rw[qJ a];rfl
 unfold sX;rw[e]
noncomputable def ev(k:Int):List Int->Int
 |[]=>0
 |a::l=>a+k*ev k l
def XB(s:Int)(l:Q0e):List Int:=((l++[0]).zip (0::l)).map λp:Int×Int=>s*p.1+p.2
noncomputable def U7(s t:Int):Nat->List Int
 |0=>[s]
 |n+1=>XB (t-n) (U7 s t n)
def U8(n:Nat):List Int->Nat->List Int->List Int
 |[],_,ψ=>ψ
 |s::w,d,ψ=>U8 n w (d+1) (A_ ψ (U7 s ((n:Int)-1-d) n))
def XD(x:Q0a):List Int:=fd (vals (DV x.length 0 (shares x)) (x.length+1) 0)
theorem CD:∀a b:Nat,a+b=(a ||| b)+(a &&& b):=by
 intro a
 induction a using Dj with
 |ind a ih =>
  intro b;by_cases h:a=0
  .subst h;simp
  .have e:=ih (a/2) ∅ (b/2);have l:(a ||| b)/2=(a/2 ||| b/2):=Nat.or_div_two ..;have j:(a &&& b)/2=(a/2 &&& b/2):=Nat.and_div_two ..;have m1:(a ||| b)%2=(a%2 ||| b%2):=Nat.or_mod_two_pow (n:=1);have d:(a &&& b)%2=(a%2 &&& b%2):=Nat.and_mod_two_pow (n:=1);have c:a%2+b%2=(a%2 ||| b%2)+(a%2 &&& b%2):=by rcases a0w a with p|p<;>rcases a0w b with q|q<;>rw[p,q]<;>decide
   lia
def QU(h:S.testBit b=ag):2^b+S=(2^b ||| S):=by
 have e:(2^b &&& S)=0:=by
  apply Dl;intro i;rw[Dh,a0n,Nat.zero_testBit];by_cases a:b=i
  .subst a;simp[h]
  .simp [a]
 rw[CD,e,Dm]
theorem EV{M S:Nat}:(M &&& S=M) ↔ ∀i,M.testBit i=ae->S.testBit i=ae:=by
 constructor
 .intro h i a;have:=congrArg (λz=>z.testBit i) h;simp only[Dh,a,vj] at this;show this
 .intro h;apply Dl;intro i;rw[Dh]
  cases e:M.testBit i with
  |false=>rfl
  |true=>rw[h i e];rfl
noncomputable def BQ:List Int->Nat
 |[]=>0
 |a::r=>2^a.toNat ||| BQ r
theorem kK:∀{r:Q0e},(∀a∈r,0<=a)->((BQ r).testBit i=ae↔(i:Int)∈r)
 |[],_=>by simp[BQ]
 |a::r,h=>by
  have c:=kK (i:=i) (r:=r) λb d=>h b (gf _ d);have j:=h a de;rw[BQ,Nat.testBit_or,a0n,a05,c,bx,decide_eq_true_eq]
  constructor
  .rintro (e|e)
   .exact .inl ∅
   .exact .inr e
  .rintro (e|e)
   .exact .inl ∅
   .exact .inr e
theorem EW:∀{r:Q0e},(∀a∈r,0<=a)->r.Nodup->(r.map λa=>(2:Int)^a.toNat).sum=(BQ r:Int)
 |[],_,_=>rfl
 |a::r,h,nd=>by
  have h':∀b∈r,0<=b:=λb c=>h b (gf _ c);have d:=EW h' (kl.1 nd).2;have j:=h a de;have c:(BQ r).testBit a.toNat=ag:=by
   cases e:(BQ r).testBit a.toNat with
   |false=>rfl
   |true =>
    have:=(kK h').1 e;rw[show((a.toNat:Nat):Int)=a by lia] at this;show Zw this (kl.1 nd).1
  rw[cf,List.sum_cons,d,BQ,<- QU c]
  push_cast
  rfl
section
variable(x:Q0a)
def Mk(b:Nat):Nat:=BQ (row x b)
end
section
variable{x:Q0a}
def K9(j:Ord.Rows x)(d:b<x.length):(Mk x b).testBit i=ae↔(i:Int)∈row x b:=by
 show kK λa h=>?_;have e:row x b=x[b]:=by unfold row;simp[d]
 rw[e] at h;obtain⟨c,rfl,_⟩:=(Ord.K4 j (cj d)).1 h;lia
def uY:t∈bY x a↔(0<=t/\t<(x.length:Int))/\t∉a /\∀l∈row x t,l∈a:=by
 unfold bY;rw[iy,iy,bR,js];simp only[vk,a0W,decide_eq_false_iff_not,decide_eq_true_eq]
 constructor
 .rintro ⟨⟨d,h2⟩,c⟩;show⟨by lia,h2,c⟩
 .rintro ⟨d,h2,c⟩;show⟨⟨by lia,h2⟩,c⟩
end
def mP(h:c i j=ae):gW c g (.int i) (.int j)=aa (g i j):=Z_ h
def QV(a b:Nat):nnC (a:Int) (b:Int)=ae:=by unfold nnC;rw[Zx ∅,Zx ∅];rfl
def zU(a b:Nat):uQ (.int a) (.int b)=aa (.int ((a &&& b:Nat):Int)):=by show(mP (QV a b)).trans ?_;rw[gr,gr]
def QW(a b:Nat):QG (.int a) (.int b)=aa (.int ((a >>> b:Nat):Int)):=by show(mP (Zx (show(0:Int)<=(b:Int) by lia))).trans ?_;rw[gr,a0t];congr 2
def QX{a b:Nat}(d:a<18446744073709551616)(c:b<=1000000):QF (.int a) (.int b)=aa (.int ((a <<< b:Nat):Int)):=by
 show(mP (by
  show(Zv (0<=(b:Int))&&Zv ((b:Int).natAbs<=1000000)&&Zv ((a:Int).natAbs<18446744073709551616))=ae;rw[Zx ∅,Zx ∅,Zx ∅];rfl)).trans ?_
 rw[gr,a0u];congr 2
def QY(b:Nat):(1 <<< b:Nat)=2^b:=by rw[a0u,Nat.one_mul]
def QZ(a b:Nat):(a >>> b &&& 1)=if a.testBit b=ae then 1 else 0:=by
 rw[Nat.and_one_is_mod,a0t,Nat.testBit_eq_decide_div_mod_eq];by_cases h:a/2^b%2=1
 .rw [Zx h,Z_ rfl];show h
 .rw [Zy h,Zz (by decide)];lia
def Og{f g:EF}{ρ:bK}{h b:Nat}(c:f ρ=aa (.int h))(a:g ρ=aa (.int b)):aB uQ (aB QG f g) (eI 1) ρ=aa (.int (if h.testBit b=ae then 1 else 0)):=by show aY (x:=.int ((h >>> b:Nat):Int)) (y:=.int ((1:Nat):Int)) (aY c a (QW h b)) rfl ?_;rw[zU,QZ];split<;>rfl
section
variable{x:Q0a}
def mQ(x:Q0a):List Int:=x.map λr=>(BQ r:Int)
def LA(d:Ord.Rows x)(v:x.length<=9):kJ [aM x]=.ok (aE (mQ x)):=by
 unfold kJ mQ;have u:aE (x.map λr=>(BQ r:Int))=.lst (x.map λr=>D.int (BQ r:Int)):=by unfold aE;rw[f_];rfl
 rw[u];show fN rfl (fR (fI (x.map τ) rfl (by rw[bo];lia) (dE τ (λr=>.int (BQ r:Int)) x λr n=>⟨[aa (τ r)],rfl,?_⟩)));obtain⟨b,o,rfl⟩:=p0 n;have c:∀a∈x[b],0<=a/\a<(x.length:Int):=d.rng b _ (cj o);have j:=d.up b _ (cj o);have l:(x[b]).Nodup:=j.imp λh=>by lia
 have p:=Ord.Rows.short d n;rw[<- EW (λa m=>(c a m).1) l];show eL (x:=aE ((x[b]).map λa:Int=>(2:Int)^a.toNat)) ?_ sum_ints;have q:aE ((x[b]).map λa=>(2:Int)^a.toNat)=.lst ((x[b]).map λa=>D.int ((2:Int)^a.toNat)):=by unfold aE;rw[f_];rfl
 rw[q];show fI ((x[b]).map D.int) rfl (by rw[bo];lia) (dE D.int (λa=>.int ((2:Int)^a.toNat)) _ λa m=>⟨[aa (.int a)],rfl,?_⟩);have r:=c a m;show aY (x:=.int 1) (y:=.int a) rfl rfl ?_;show(mP (by
  show(Zv (0<=a)&&Zv (a.natAbs<=1000000)&&Zv ((1:Int).natAbs<18446744073709551616))=ae;rw[Zx r.1,Zx ∅];rfl)).trans ?_
 rw[Int.one_mul]
def XE(a:b<x.length):dI (aE (mQ x)) (.int b)=aa (.int (Mk x b:Int)):=by
 unfold aE;rw[kF];show kH ?_;unfold mQ;rw[ft,cj a];have e:row x b=x[b]:=by unfold row;simp[a]
 unfold Mk;rw[e];rfl
end
end LL
namespace K25
open L3 L4 K24 LL
section
variable{x:Q0a}
def Uh(x:Q0a):List Int:=U8 x.length (shares x) 0 (cp (x.length+1) 0)
end
abbrev st(ns:Q0e)(x:Q0a)(h:Int)(d c a:Sv):aW:=[.ro (.kR ns),.ro (aM x),.ri x.length,.ro (τ (shares x)),.ro (τ (XD x)),.ro (τ (Uh x)),.ri h,d,c,a]
end K25
namespace LL
open L3 L4 K24
section
variable(x:Q0a)
def cnt:Nat->List Int->Int
 |0,_=>1
 |m+1,a=>((bY x a).map λt=>cnt m (cU a t)).sum
end
noncomputable def dl:Int->List Int->Int
 |_,[]=>0
 |l,t::w=>(if t<l then 1 else 0)+dl t w
section
variable{x y:Q0a}
def Turned(x y:Q0a):Prop:=y.length=x.length /\∀a b:Int,0<=b->b<(x.length:Int)->(a∈row y ((x.length:Int)-1-b)↔(x.length:Int)-1-a∈row x b)
def Turned.symm(h:Turned x y):Turned y x:=by show⟨h.1.symm,λa b d c=>?_⟩;rw[h.1] at c ⊢;have e:=h.2 ((x.length:Int)-1-a) ((x.length:Int)-1-b) ∅ ∅;rw[show(x.length:Int)-1-((x.length:Int)-1-b)=b by lia,show(x.length:Int)-1-((x.length:Int)-1-a)=a by lia] at e;show e.symm
def CF(x z:Q0a):Prop:=z.length=x.length /\∀a b:Int,0<=a->a<(x.length:Int)->0<=b->b<(x.length:Int)->(a∈row x b↔b∈row z a)
def CF.symm(h:CF x y):CF y x:=⟨h.1.symm,λa b j d h2 c=>by rw[h.1] at d c;show(h.2 b a h2 c j d).symm⟩
end
section
variable{x y z:Q0a}
structure Sd (x y z:Q0a):Prop where
 len:z.length=x.length+y.length
 lo:∀t:Int,0<=t->t<(x.length:Int) ->∀a,a∈row z t↔a∈row x t
 hi:∀t:Int,0<=t->t<(y.length:Int) ->∀a,a∈row z (t+x.length)↔a-x.length∈row y t
 rx:∀t:Int,0<=t->t<(x.length:Int) ->∀a∈row x t,0<=a/\a<(x.length:Int)
 ry:∀t:Int,0<=t->t<(y.length:Int) ->∀a∈row y t,0<=a/\a<(y.length:Int)
structure Cb (x y:Q0a) (a b c:Q0e):Prop where
 lo:∀t:Int,0<=t->t<(x.length:Int)->(t∈c↔t∈a)
 hi:∀t:Int,0<=t->t<(y.length:Int)->(t+x.length∈c↔t∈b)
structure Av (x y z:Q0a) (s t:Int):Prop where
 len:z.length=x.length+y.length
 lo:∀a:Int,0<=a->a<(x.length:Int) ->∀b,b∈row z (a+s)↔b-s∈row x a
 hi:∀a:Int,0<=a->a<(y.length:Int) ->∀b,b∈row z (a+t)↔(s<=b/\b<s+x.length)\/b-t∈row y a
 rx:∀a:Int,0<=a->a<(x.length:Int) ->∀b∈row x a,0<=b/\b<(x.length:Int)
 ry:∀a:Int,0<=a->a<(y.length:Int) ->∀b∈row y a,0<=b/\b<(y.length:Int)
 st:(s=0/\t=x.length)\/(s=y.length/\t=0)
end
def Of(h:f (fG ρ)=aa d):l7 i f ρ=.nx (ρ.set i (.ow d)):=by unfold l7;rw[h]
def Q0(c:0<=i)(a:i<(l.length:Int)):η l i∈l:=by unfold η;rw[cj ∅];show p_ _
def CG(a:Ord.Rows x)(d:x.length<=9):∀r∈x,r.length<=9:=λr c=>ig (Ord.Rows.short a c) d
def Az(h:t (fG ρ)=aa [x,y]):zG i j t ρ=.nx ((ρ.set i (.ro x)).set j (.ro y)):=by unfold zG;rw[h]
theorem EX{α:Type}[DecidableEq α]{f:D->D->Option Bool}{mk:α->D}(h:∀a b,f (mk a) (mk b)=aa (Zv (a=b))):∀l m:List α,(tW f (l.map mk) (m.map mk)).map (λr=>r&&Zv ((l.map mk).length=(m.map mk).length))=aa (Zv (l=m))
 |[],[]=>rfl
 |[],b::m=>by show aa (ae&&Zv (0=(m.map mk).length+1))=_;rw[Zy ∅,Zy (by simp)];rfl
 |a::l,[]=>by show aa (ae&&Zv ((l.map mk).length+1=0))=_;rw[Zy ∅,Zy (by simp)];rfl
 |a::l,b::m=>by
  have c:=EX h l m;rw[cf,cf,tW,h a b]
  cases e:tW f (l.map mk) (m.map mk) with
  |none=>rw[e] at c;cases c
  |some r =>
   rw[e] at c;have d:(r&&Zv ((l.map mk).length=(m.map mk).length))=Zv (l=m):=ee c;show aa ((Zv (a=b)&&r)&&Zv ((l.map mk).length+1=(m.map mk).length+1))=_;rw[Bool.and_assoc,show Zv ((l.map mk).length+1=(m.map mk).length+1)=Zv ((l.map mk).length=(m.map mk).length) from decide_eq_decide.2 ∅,d];congr 1;rw[qb,jf,decide_eq_true_eq,decide_eq_true_eq,decide_eq_true_eq,Ej]
def Q1(n:Nat)(a b:Q0e):eqP (n+1) (τ a) (τ b)=aa (Zv (a=b)):=EX (λa b=>by cases n<;>rfl) a b
theorem XG(d:a ρ=aa (.bl p))(c:p=ae->b ρ=aa (.bl q))(h:p=ag->q=ag):jA a b ρ=aa (.bl q):=by
 unfold jA;rw[d];show(if p=ae then b ρ else aa (.bl ag))=_
 cases p with
 |true=>show c rfl
 |false=>rw[h rfl];rfl
def U9(a:ds.length=np)(h:Rt (b (bL n ds)) λe=>e=d):bM n np b ds=.ok d:=by obtain⟨d',e,rfl⟩:=xH a h;show e
section
variable{x:Q0a}{R:List Int->Int}
def Q2(n:Nat):(bD 0 n).Pairwise (·<·):=by unfold bD;show vh _ (λa b h=>by lia) D_
end
end LL
namespace L4
open L3
noncomputable def foldM(R:J0)(o:D):List D->KD->Option (List D×KD)
 |[],kd=>aa ([],kd)
 |v::l,kd=>match R [o,v] kd with
  |.ok r=>(foldM R o l r.2).map λp=>(r.1::p.1,p.2)
  |_=>af
noncomputable def Ug:D->Option (List D)
 |.lst l=>aa l
 |_=>af
def LB(R:J0)(io il j:Nat):XF:=λρ=>(aT io (fG ρ)).bind λo=>(aT il (fG ρ)).bind λl=>(Ug l).bind λvs=>(B4 ρ[j]?).bind λkd=>(foldM R o vs kd.2).bind λp=>(intsOf p.1).bind λns =>
 if vs.length<i5 then aa (ρ.set j (.ow (.cN (adr kd.1) p.2.1 p.2.2)),.int ns.sum) else af
noncomputable def Q4{a:Type}(f:D->Option a):D->Option (Int×a)
 |.tup [.int k,e]=>(f e).map λb=>(k,b)
 |_=>af
def xM{a:Type}[DecidableEq a](f:D->Option a)(g:a->D)(lt:a->a->Bool)(items:D->Option (List D))(fr:List Nat)(src key:EF):EF:=λρ=>(src ρ).bind λd=>(items d).bind λds=>(tX f ds).bind λbs=>(rH key (benv 1 fr ρ) ds).bind λkd=>(tX (Q4 f) kd).bind λT =>
 if T.length<=5000/\T.map (·.2)=bs then aa (.lst ((jD (iA EO lt) T).map λt=>g t.2)) else af
def CH:D->Option (List Int)
 |.tup a=>intsOf a
 |_=>af
abbrev oh(l:Q0e):D:=.tup (l.map D.int)
abbrev xN(fr:List Nat)(src key:EF):EF:=xM CH oh (rJ EO) KN fr src key
end L4
namespace K11
open L3 L4
def bN:Nat->J0
 |0=>λ_ _=>.no
 |n+1=>runM 4 3
  ((aO (gZ (tV (aB qD (cL b7 (bS 1)) (cL b7 (bS 0))))
   (pF 2 (cB (eI 1)) dU)
   dJ)
  (gZ (tV (aB (G0 ae) dU fM))
   (aO (bH 3 (bT 1 [1] (bI (aN LL.dN (aA cV (bS 1)))) (g1 0) cK (aN LL.jM (aA dU (bS 0)))))
   (pF 2 (LB (bN n) 0 3 2) dU))
   dJ)))
  dU
def iB:kT:=bM 2 1
  (aO (U4 1)
  (aO (QE (bN 11) (aA (aT 0) (aA (gS aJ) aJ)) 1)
  (cC (aT 1))))
end K11
namespace K15
open L3 L4 K24 LL
def Ue(h:fb ρ=.nx ρ')(h2:fr ρ'=o):rG fb fh fr ρ=o:=by unfold rG;rw[h];show h2
def Ud(h:fb ρ=.ex c)(a:fh c=aa ρ1)(h2:fr ρ1=.rt d):rG fb fh fr ρ=.rt d:=by unfold rG;rw[h];dsimp only;rw[a];dsimp only;rw[h2]
def rcA(a:t ρ=aa ds)(h:Bc (R ds)=c):uP R t ρ=c:=by unfold uP;rw[a];show h
end K15
namespace K27
open L3 L4
def gB:kT:=bM 1 1
  (cC (cL cQ (aA (xN [] (aN K11.iB (bS 0)) (gS (aA (cL b7 (bS 0)) (bS 0)))) aJ)))
def c8:kT:=bM 2 2
  (aO (gZ (nO (tV (cL allM (aA (bT 1 [0] (bI dU) (g1 0) cK (aN LL.gA (aA cV (aA (cL b7 (bS 1)) aJ)))) aJ))))
   (wV (aA (eC (.str "a number that is no thing of the order")) aJ) "NoThing")
   dJ)
  (cC (tT (cL anyM (aA (bT 2 [1] (bI (aN LL.fW (bS 0))) (g2 0 1) cK (jA (aB qX cV dU) (jA (aB (nQ ag) cV fM) (aB (nQ ag) dU fM)))) aJ)))))
def iQ:kT:=bM 2 2
  (cC (cL cQ (aA (bT 1 [0] (bX (bS 1)) (g1 0) (tV (aB qD (aB uQ (aB QG dU cV) (eI 1)) (eI 1))) cV) aJ)))
def kL:kT:=bM 6 1
  (aO (bH 1 (cL b7 (bS 0)))
  (aO (bH 2 (aN LL.kJ (bS 0)))
  (aO (l7 3 (dC aJ))
  (aO (eT (bX (aA (aB QF (eI 1) dU) aJ)) (tQ 4)
   (aO (bH 5 (aN iQ (aA nN (bS 1))))
   (gZ (tV (cL allM (aA (bT 1 [4,2] (bI UY) (g1 0) cK (aB qD (aB uQ (aB dI fM cV) dU) (aB dI fM cV))) aJ)))
    (sX (qE 3 kX (cB (gS (aA (cL b7 (bS 5)) (bS 5))))))
    dJ)))
  (cC (bT 2 [] (bI (cL B5 (bS 3))) (g2 0 1) cK dU))))))
def mR:kT:=bM 4 2
  (aO (eT (bI dU) (tQ 2)
   (eT (bI (aB dI cV fM)) (tQ 3)
    (gZ (kU (tV (aB qX nM fM)) (tV (aB (nQ ag) nM dU)))
     (cC (eC (.bl ag)))
     dJ)))
  (cC (eC (.bl ae))))
def jN:kT:=bM 1 1
  (cC (gS (aA (eC (.str "refused")) (aA (cL cQ (aA (bT 1 [0] (bX (aA (eI 14) aJ)) (g1 0) cK (qk (aB qD cV (eI 0)) (aB qD cV dU))) aJ)) aJ))))
def fK:kT:=bM 4 2
  (aO (bH 2 (eC .non))
  (rG (B3 (U1 (eC (.str "told")) (uP c8 (aA cV (bS 1)))) (bH 2 (gS (aA (eC (.str "told")) (aA (aN c8 (aA cV (bS 1))) aJ))))) (λc=>if c="NoThing" then aa [.no,.no,.ro (.tup [.str "refused",.tup [.bl ae,.bl ae,.bl ag,.bl ag,.bl ag,.bl ag,.bl ag,.bl ag,.bl ag,.bl ag,.bl ag,.bl ag,.bl ag,.bl ag]]),.no] else af)
  (cC fM)))
def lM:kT:=bM 7 2
  (aO (bH 2 (aN LL.c7 (aA (aN LL.c6 (aA cV (aA (eI 4) aJ))) (aA (eI 6) (aA (eI 400009) aJ)))))
  (aO (bH 3 (dC aJ))
  (aO (eT (bX (aA (cL b7 (bS 1)) aJ)) (tQ 4)
   (bH 3 (aB cP nM (bT 1 [4] (bI (aB dI dU nN)) (g1 0) (tV (aB qX cV dU)) (gS (aA cV (bS 1)))))))
  (aO (zG 5 6 (aA (aB dB (aB dI fM (eI 1)) (cL b7 (bS 1))) (aA (aB dB (aB dI fM (eI 2)) (cL b7 (bS 1))) aJ)))
  (aO (gZ (kU (tV (aB qX (cL b7 (bS 3)) (eI 0))) (tV (aB qX (aB dB (aB dI fM (eI 3)) (eI 4)) (eI 0))))
   (GZ (cB (aB dI nM (aB dB (aB dI fM (eI 1)) (cL b7 (bS 3))))) (PZ 5 6))
   dJ)
  (aO (gZ (tV (aB qD (aB dB (aB qW (aB dI fM (eI 3)) (eI 4)) (eI 2)) (eI 1)))
   (zG 5 6 (aA WM (bS 5)))
   dJ)
  (cC (aB cP (aB repLM (dC (bS 5)) (aB cP (eI 1) (aB dB (aB cP (aB mulM (eI 64) (aB dI fM (eI 4))) (aB dI fM (eI 5))) (eI 298)))) (dC (bS 6))))))))))
def uZ:kT:=bM 9 1
  (aO (bH 1 (eI 7))
  (aO (gZ (tV (aB qD (aB dB (aB dI (aN LL.c7 (aA (aN LL.c6 (aA cV (aA (eI 3) aJ))) (aA (eI 1) (aA (eI 300007) aJ)))) (eI 0)) (eI 8)) (eI 3)))
   (bH 1 (eI 9))
   dJ)
  (aO (bH 2 (aN LL.kD (aA cV (aA (eI 0) (aA dU (aA (eI 100003) aJ))))))
  (aO (bH 3 (cL cQ (aA (aN kL (bS 2)) aJ)))
  (aO (gZ (nO (tV (aN (LL.bQ 6) (aA (aN gB (bS 2)) (bS 3)))))
   (cC (eC (.bl ag)))
   dJ)
  (aO (bH 4 (aN LL.c7 (aA (aN LL.c6 (aA cV (aA (eI 2) aJ))) (aA (eI 24) (aA (eI 200017) aJ)))))
  (aO (bH 5 (dC aJ))
  (aO (gZ (tV (aB qX (cL b7 (bS 2)) (eI 0)))
   (aO (bH 5 (bT 1 [2] (bI (WW nN (oE (eI 4)) (oE (aB cP (eI 4) (aB dB (aB dI nN (eI 0)) (eI 21)))))) (g1 0) cK (aB dB cV (cL b7 (bS 1)))))
   (gZ (tV (aB qD (aB dB (aB dI (aN LL.c7 (aA (aN LL.c6 (aA cV (aA (eI 4) aJ))) (aA (eI 1) (aA (eI 400009) aJ)))) (eI 0)) (eI 4)) (eI 1)))
    (bH 5 (aN lM (aA cV (bS 2))))
    dJ))
   dJ)
  (aO (bH 6 (gS (aA (eC (.str "told")) (aA (aN mR (aA fM (bS 5))) aJ))))
  (aO (gZ (nO (tV (aN (LL.bQ 6) (aA (aN fK (aA fM (aA (cL cQ (bS 5)) aJ))) (bS 6)))))
   (cC (eC (.bl ag)))
   dJ)
  (aO (l7 7 (cL uN (bS 5)))
  (aO (bH 8 (aN LL.kI (aA (aN LL.c6 (aA cV (aA (eI 5) aJ))) (aA (aB GU (aB KH (aB zC (eI 10) (eI 60)) (eI 10)) (eI 9)) (aA (eI 500009) aJ)))))
  (aO (sX (KI 7 (aB dB (aB dI nN (eI 1)) (aB cP (cL b7 (bS 7)) (eI 1))) (aB dI (dC (aA (zA (eI 1)) (aA (cL b7 (bS 2)) (aA (aB cP (cL b7 (bS 2)) qj) (aA (aB GU (zA (eI 1)) qj) aJ))))) (aB dB (aB dI nN (eI 2)) (eI 4)))))
  (aO (gZ (nO (tV (aN (LL.bQ 6) (aA (aN fK (aA fM (aA (cL cQ (bS 7)) aJ))) (aA (aN jN (aA (eI 1) aJ)) aJ)))))
   (cC (eC (.bl ag)))
   dJ)
  (cC (jA (aN (LL.bQ 6) (aA (aN fK (aA fM (aA (cL cQ (bS 5)) aJ))) (bS 6))) (aN (LL.bQ 6) (aA (aN gB (bS 2)) (bS 3)))))))))))))))))))
open K24 LL K11
section
variable{x:Q0a}
def kW(a:Q0e):nV:=.inr (a.map λt=>.inl (.inl t))
theorem EY:∀a:Q0e,nW (a.map D.int)=aa (a.map λt=>.inl (.inl t))
 |[]=>rfl
 |t::a=>by rw[cf];unfold nW;rw[EY a];rfl
def LC(a:Q0e):pX (τ a)=aa (kW a):=by show(nW (a.map D.int)).map jv=_;rw[EY];rfl
theorem xO:∀{a b:Q0e},kW a=kW b->a=b
 |[],[],_=>rfl
 |[],_::_,h=>by simp[kW] at h
 |_::_,[],h=>by simp[kW] at h
 |s::a,t::b,h=>by unfold kW at h;simp only[cf,Sum.inr.injEq,Ej,Sum.inl.injEq] at h;rw[h.1,xO (a:=a) (b:=b) (by unfold kW;rw[h.2])]
abbrev cW(x:Q0a)(a:Q0e):D:=.int (cnt x (x.length-a.length) a)
abbrev G9(kd:KD)(a:Q0e):Prop:=(bF kd.1 kd.2 (kW a)).isSome=ae
def DS(x:Q0a)(a:Q0e):Prop:=a.Pairwise (·<·) /\∀t∈a,(0<=t/\t<(x.length:Int)) /\∀s∈row x t,s∈a
def Uc{l:Q0e}(h:l.Pairwise (· <= ·))(nd:l.Nodup):l.Pairwise (·<·):=(h.and nd).imp λ{a b} h=>by lia
def EZ{a:Q0e}{t:Int}(h:DS x a)(j:t∈bY x a):DS x (cU a t):=by
 obtain⟨n,h2,m⟩:=uY.1 j;have pm:(cU a t).Perm (a++[t]):=sortI_perm _;show⟨Uc (fT _) (pm.nodup_iff.2 ?_),λs l=>?_⟩
 .rw [rn];show⟨h.1.imp λ{a b} h=>by lia,by simp,λu c v d e=>by rw[cg.1 d] at e;show h2 (e▸c)⟩
 .rcases gn.1 (pm.mem_iff.1 l) with z|z
  .exact ⟨(h.2 s z).1,λu c=>pm.mem_iff.2 (gj _ ((h.2 s z).2 u c))⟩
  .rw [cg.1 z];show⟨n,λu c=>pm.mem_iff.2 (gj _ (m u c))⟩
def zV{ks:List nV}{ds:List D}{k:nV}{v:D}:(dF ks ds k v).1=ks\/(k∉ks/\(dF ks ds k v).1=ks++[k]):=by
 unfold dF;split
 .exact .inl rfl
 .rename_i h;show .inr ⟨λq=>h (Em.2 ⟨k,q,by simp⟩),rfl⟩
def gC(x:Q0a)(kd:KD):Prop:=kd.1.length=kd.2.length/\(∀q∈kd.1,q.isLeft=ag)/\(∀a d,bF kd.1 kd.2 (kW a)=aa d->d=cW x a)/\(∀a,G9 kd a->a.length<x.length ->∀t∈bY x a,G9 kd (cU a t))/\kd.1.Nodup /\∀q∈kd.1,∃a,DS x a/\q=kW a
def kZ(x:Q0a)(kd:KD)(a:Q0e):KD:=dF kd.1 kd.2 (kW a) (cW x a)
def E1{kd:KD}{a:Q0e}(h:gC x kd)(A:DS x a)(p:a.length<x.length ->∀t∈bY x a,G9 kd (cU a t)):gC x (kZ x kd a)/\(kZ x kd a).1.length<=kd.1.length+1/\bF (kZ x kd a).1 (kZ x kd a).2 (kW a)=aa (cW x a)/\K8 kd (kZ x kd a):=by
 have up:K8 kd (kZ x kd a):=λk e=>by
  unfold kZ;rw[mO (ks:=[]) h.1];split
  .rfl
  .exact e
 show⟨⟨(EU h.1).1,G8 h.2.1 rfl,λb d e=>?_,λb e m t l=>?_,?_,?_⟩,(EU h.1).2,by unfold kZ;rw[mO (ks:=[]) h.1,Z_ rfl],up⟩
 .unfold kZ at e;rw[mO (ks:=[]) h.1] at e;split at e
  .rename_i hk;cases xO hk;show(ee e).symm
  .exact h.2.2.1 b d e
 .unfold G9 kZ at e;rw[mO (ks:=[]) h.1] at e;split at e
  .rename_i hk;cases xO hk;show up _ (p m t l)
  .exact up _ (h.2.2.2.1 b e m t l)
 .unfold kZ;rcases zV (ks:=kd.1) (ds:=kd.2) (k:=kW a) (v:=cW x a) with z|⟨j,c⟩
  .rw [z];show h.2.2.2.2.1
  .rw [c,rn];show⟨h.2.2.2.2.1,by simp,λu o v n e=>by rw[cg.1 n] at e;show j (e▸o)⟩
 .unfold kZ;rcases zV (ks:=kd.1) (ds:=kd.2) (k:=kW a) (v:=cW x a) with z|⟨j,c⟩
  .rw [z];show h.2.2.2.2.2
  .rw [c];intro q y;rcases gn.1 y with q2|q2
   .exact h.2.2.2.2.2 q q2
   .exact ⟨a,A,cg.1 q2⟩
abbrev E2(x:Q0a)(a:Q0e)(q:Nat->ay->Prop)(kd:KD)(v:Sv):aW:=[.ro (aM x),.ro (τ a),.ow (.cN q kd.1 kd.2),v]
def XH{a:Q0e}{q:Nat->ay->Prop}{kd:KD}{v:Sv}(h:gC x kd):tV (aB (G0 ae) dU fM) (bA (E2 x a q kd v))=aa (!(bF kd.1 kd.2 (kW a)).isSome):=by show tY (d:=.bl (!(bF kd.1 kd.2 (kW a)).isSome)) (aY (x:=τ a) (y:=.cN q kd.1 kd.2) rfl rfl ?_) rfl;show((pX (τ a)).bind _)=_;rw[LC];show(if _ then _ else _)=_;rw[Z_ (lL h.2.1 rfl)];rfl
def Ub{a:Q0e}{q c:Nat->ay->Prop}{kd:KD}{v:Sv}{d:D}(h:gC x kd)(l:∀b o,q b o ->∃o2,c b o2)(m:bF kd.1 kd.2 (kW a)=aa d):QC 2 dU c (E2 x a q kd v)=aa (d,kd):=by have e:QC 2 dU c (E2 x a q kd v)=(pX (τ a)).bind λj=>@ite _ (kindB kd.1 j=ae /\∀b o,q b o ->∃o2,c b o2) (Er _) ((bF kd.1 kd.2 j).map λd=>(d,kd)) af:=rfl;rw[e,LC];show(Z_ ⟨lL h.2.1 rfl,l⟩).trans (by rw[m];rfl)
def VA{a:Q0e}{q q1:Nat->ay->Prop}{kd kd1:KD}{v:Sv}{f:XF}(h:gC x kd1)(j:kd1.1.length<16000000)(d:f (E2 x a q kd v)=aa (E2 x a q1 kd1 v,cW x a)):pF 2 f dU (E2 x a q kd v)=.nx (E2 x a (adr q1) (kZ x kd1 a) v):=by
 unfold pF;rw[d,di]
 show(match ((pX (τ a)).bind λc=>if kindB kd1.1 c=ae/\kd1.2.length<i5 then aa ((E2 x a q1 kd1 v).set 2 (.ow (.cN (adr q1) (dF kd1.1 kd1.2 c (cW x a)).1 (dF kd1.1 kd1.2 c (cW x a)).2))) else af) with
  |some ρ'=>Out.nx ρ'
  |none=>.no)=_
 rw[LC,di,Z_ ⟨lL h.2.1 rfl,by rw[<- h.1];unfold i5;lia⟩];rfl
theorem LD{n m:Nat}{a:Q0e}:∀(d:Q0e) (kd:KD),gC x kd ->
  (∀t∈d,∀kd,gC x kd->kd.1.length+most m<=10000000 ->∃h,bN n [aM x,τ (cU a t)] kd=.ok (.int (cnt x m (cU a t)),h)/\gC x h/\h.1.length<=kd.1.length+most m/\K8 kd h/\G9 h (cU a t)) ->
  kd.1.length+d.length*most m<=10000000 ->
  ∃c,foldM (bN n) (aM x) (d.map λt=>τ (cU a t)) kd=aa (d.map λt=>.int (cnt x m (cU a t)),c)/\gC x c/\c.1.length<=kd.1.length+d.length*most m/\K8 kd c /\∀t∈d,G9 c (cU a t)
 |[],kd,hM,_,_=>⟨kd,rfl,hM,by simp,λ_ e=>e,λt v=>(nomatch v)⟩
 |t::d,kd,hM,hR,hc=>by
  rw[fj,Di] at hc;obtain⟨kd1,e1,q,z,o,in1⟩:=hR t de kd hM ∅;obtain⟨c,A,F,y,j,p⟩:=LD d kd1 q (λu l=>hR u (gf _ l)) ∅;show⟨c,?_,F,by rw[fj,Di];lia,λk e=>j k (o k e),λu l=>?_⟩
  .rw [cf];unfold foldM;rw[e1];dsimp only;rw[A];rfl
  .rcases bx.1 l with e|l
   .rw [e];show j _ in1
   .exact p u l
abbrev bW(n:Nat):L4.SF:=(aO (gZ (tV (aB qD (cL b7 (bS 1)) (cL b7 (bS 0))))
   (pF 2 (cB (eI 1)) dU)
   dJ)
  (gZ (tV (aB (G0 ae) dU fM))
   (aO (bH 3 (bT 1 [1] (bI (aN LL.dN (aA cV (bS 1)))) (g1 0) cK (aN LL.jM (aA dU (bS 0)))))
   (pF 2 (LB (bN n) 0 3 2) dU))
   dJ))
def xP{n:Nat}{a:Q0e}{kd c:KD}{d:D}(new:∀q,∃q2 v,(∀b o,q2 b o ->∃o2,q b o2)/\bW n (startM 4 [aM x,τ a] q kd)=.nx (E2 x a q2 c v))(l:gC x c)(j:bF c.1 c.2 (kW a)=aa d):bN (n+1) [aM x,τ a] kd=.ok (d,c):=by
 unfold bN;show QD λq=>?_
 have e1:rF 4 3 (bW n) dU q [aM x,τ a] kd=(match bW n (startM 4 [aM x,τ a] q kd) with
  |.nx ρ=>QC 2 dU q ρ
  |_=>af):=rfl
 show e1.trans ?_;obtain⟨q2,v,h,m⟩:=new q;rw[m];show Ub l h j
theorem LF(Y:x.length<=9)(Z:∀r∈x,r.length<=9):∀(m e:Nat) (a:Q0e) (kd:KD),W8 x a->DS x a->a.length+m=x.length->gC x kd->kd.1.length+most m<=10000000 ->
  ∃l,bN (m+1+e) [aM x,τ a] kd=.ok (.int (cnt x m a),l)/\gC x l/\l.1.length<=kd.1.length+most m/\bF l.1 l.2 (kW a)=aa (.int (cnt x m a))/\K8 kd l:=by
 intro m
 induction m with
 |zero =>
  intro e a kd ok ds v c hc;have v:a.length=x.length:=v;have m0:most 0=1:=rfl;have e0:x.length-a.length=0:=by lia
  rw[show 0+1+e=e+1 by lia];obtain⟨p1,p2,p3,p4⟩:=E1 (a:=a) c ds (λz=>by lia);have j:=p3;unfold cW at j;rw[e0] at j;show⟨kZ x kd a,xP (λq=>⟨adr q,.no,λb o h=>h,?_⟩) p1 j,p1,by lia,j,p4⟩;have L:cW x a=.int 1:=by unfold cW;rw[e0];rfl
  show dD (E2 x a (adr q) (kZ x kd a) .no) (J1 ((zT (x:=x) (a:=a) rfl rfl).trans (by rw[Zx v])) ?_) (qK ?_ rfl)
  .exact VA (q:=q) (q1:=q) (kd:=kd) c ∅ (by rw[L];rfl)
  .rw [XH p1,p3];rfl
 |succ m ih =>
  intro e a kd ok ds v c hc;have mm:most (m+1)=1+(m+1)*most m:=rfl;have e0:x.length-a.length=m+1:=by lia
  have U:=oH ok;have ha:=xK ok;rw[show m+1+1+e=(m+1+e)+1 by lia];have lt:∀q,tV (aB qD (cL b7 (bS 1)) (cL b7 (bS 0))) (bA (startM 4 [aM x,τ a] q kd))=aa ag:=λq=>(zT (x:=x) (a:=a) rfl rfl).trans (by rw[Zy ∅])
  cases hk:bF kd.1 kd.2 (kW a) with
  |some d =>
   have K:=c.2.2.1 a d hk;unfold cW at K;rw[e0] at K;subst K;show⟨kd,xP (λq=>⟨q,.no,λb o h=>⟨o,h⟩,dD (E2 x a q kd .no) (qK (lt q) rfl) (qK (by rw[XH c,hk];rfl) rfl)⟩) c hk,c,by lia,hk,λ_ e=>e⟩
  |none =>
   have hlen:(bY x a).length*most m<=(m+1)*most m:=Nat.mul_le_mul_right _ ∅;obtain⟨kd1,ef,O,hc1,X,F⟩:=LD (n:=m+1+e) (m:=m) (a:=a) (bY x a) kd c (λt u kd J I=>(ih e (cU a t) kd ((U6 ok).1 _ (Eb u)).1 (EZ ds u) (by have:=((U6 ok).1 _ (Eb u)).2;lia) J I).imp λ_ h=>⟨h.1,h.2.1,h.2.2.1,h.2.2.2.2,by unfold G9;rw[h.2.2.2.1];rfl⟩) ∅;obtain⟨p1,p2,p3,p4⟩:=E1 (a:=a) O ds (λ_=>F);have j:=p3;unfold cW at j;rw[e0] at j
   let A:D:=.lst ((bY x a).map λt=>τ (cU a t))
   show⟨kZ x kd1 a,xP (λq=>⟨adr (adr q),.ro A,λb o ⟨o1,o2,h⟩=>⟨o2,h⟩,?_⟩) p1 j,p1,by lia,j,λk e=>p4 k (X k e)⟩;show dD (E2 x a q kd .no) (qK (lt q) rfl) (J1 (by rw[XH c,hk];rfl) (dD (E2 x a q kd (.ro A)) (gT A ?_ rfl) ?_))
   .refine fI ((bY x a).map D.int) ?_ (by rw[bo];lia) (dE D.int (λt=>τ (cU a t)) (bY x a) λt u=>⟨[aa (.int t),aa (τ a)],rfl,cR rfl rfl (G7 ∅)⟩);unfold bI;rw[cR (x:=aM x) (y:=τ a) rfl rfl (K7 Y Z)];rfl
   .refine VA (q:=q) (q1:=adr q) (kd:=kd) (kd1:=kd1) O ∅ ?_;have en:intsOf ((bY x a).map λt=>D.int (cnt x m (cU a t)))=aa ((bY x a).map λt=>cnt x m (cU a t)):=by rw[<- cD,f_];rfl
    have L:cW x a=.int (((bY x a).map λt=>cnt x m (cU a t)).sum):=by unfold cW;rw[e0];rfl
    rw[L];show((foldM (bN (m+1+e)) (aM x) ((bY x a).map λt=>τ (cU a t)) (kd.1,kd.2)).bind λp=>(intsOf p.1).bind λns=>if((bY x a).map λt=>τ (cU a t)).length<i5 then aa ((E2 x a q kd (.ro A)).set 2 (.ow (.cN (adr q) p.2.1 p.2.2)),D.int ns.sum) else af)=_;rw[show(kd.1,kd.2)=kd from rfl,ef,di,en,di,Z_ (by rw[bo];unfold i5;lia)];rfl
def Q6(j:x.length<=9)(m:∀r∈x,r.length<=9):∃kd,iB [aM x]=.ok (.cN (adr pW) kd.1 kd.2)/\gC x kd/\G9 kd []:=by
 obtain⟨kd,e,o,u,n,_⟩:=LF j m x.length (10-x.length) [] ([],[]) QT ⟨ze,λt l=>(by cases l)⟩ (by simp) ⟨rfl,λq c=>(by cases c),λa d h=>(by simp[bF] at h),λa h=>(by simp[G9,bF] at h),rm,λq c=>(by cases c)⟩ (by have:=XA j;simp;lia);rw[show x.length+1+(10-x.length)=11 by lia] at e;show⟨kd,?_,o,by unfold G9;rw[n];rfl⟩;unfold iB;show fN rfl (dD [.ro (aM x),.ow (.cN pW [] [])] rfl (dD [.ro (aM x),.ow (.cN (adr pW) kd.1 kd.2)] ?_ (fR rfl)));have p:stepM (bN 11) (aA cV (aA (gS aJ) aJ)) 1 [.ro (aM x),.ow (.cN pW [] [])]=aa (pW,.int (cnt x x.length []),kd):=by
  unfold stepM;rw[args2 (x:=aM x) (y:=τ []) rfl rfl,di]
  show(match bN 11 [aM x,τ []] ([],[]) with
   |.ok r=>aa (pW,r)
   |_=>af)=_
  rw[e]
 unfold QE;rw[p];rfl
def Q7{ks:List nV}{ds:List D}{k:nV}(c:ks.length=ds.length):(bF ks ds k).isSome=ae↔k∈ks:=by
 unfold bF;rw[ur,List.find?_isSome]
 constructor
 .rintro ⟨p,a,e⟩;rw[<- of_decide_eq_true e];show(rj a).1
 .intro h;obtain⟨i,d,e⟩:=p0 h;show⟨(ks[i],ds[i]'∅),List.mem_iff_getElem.2 ⟨i,by simp;lia,by simp⟩,by simp[e]⟩
def E3(j:Ord.Rows x){s t:Int}(F:0<=s/\s<(x.length:Int))(A:0<=t/\t<(x.length:Int))(h:s∈row x t):(row x s).length<(row x t).length:=by
 obtain⟨b,y⟩:∃b:Nat,t=(b:Int):=⟨t.toNat,by lia⟩;obtain⟨a,z⟩:∃a:Nat,s=(a:Int):=⟨s.toNat,by lia⟩;subst y z;have p:b<x.length:=by lia
 have q:a<x.length:=by lia
 have n:x[b]?=aa x[b]:=cj p;have c:x[a]?=aa x[a]:=cj q;have m:row x (b:Int)=x[b]:=by unfold row;rw[gr,n];rfl
 have o:row x (a:Int)=x[a]:=by unfold row;rw[gr,c];rfl
 rw[m] at h;rw[o,m];have d:x[a].Nodup:=(j.up a _ c).imp λ{u v} h=>by lia
 have nd:((a:Int)::x[a]).Nodup:=kl.2 ⟨j.G2 a _ c,d⟩;have sub:∀u∈(a:Int)::x[a],u∈x[b]:=λu l=>by
  rcases bx.1 l with rfl|l
  .exact h
  .exact j.tr b a _ _ n h c u l
 have:=a2r nd sub;rw[fj] at this;lia
theorem LG{f:Int->Nat}:∀{l:Q0e},l≠[] ->∃t∈l,∀s∈l,f s<=f t
 |[],h=>Zw rfl h
 |[a],_=>⟨a,by simp,λs c=>by rw[cg.1 c];show bp _⟩
 |a::b::l,_=>by
  obtain⟨t,d,h⟩:=LG (f:=f) (l:=b::l) (by simp);by_cases z:f a<=f t
  .exact ⟨t,gf _ d,λs c=>by
    rcases bx.1 c with rfl|c
    .exact z
    .exact h s c⟩
  .exact ⟨a,de,λs c=>by
    rcases bx.1 c with rfl|c
    .exact bp _
    .have:=h s c;lia⟩
def LH{l m:Q0e}(d:l.Pairwise (·<·))(c:m.Pairwise (·<·))(h:∀t,t∈l↔t∈m):l=m:=by have e:sortI m=l:=zL ((Dy (d.imp λ{a b} h=>by lia) (c.imp λ{a b} h=>by lia)).2 h) (d.imp λ{a b} h=>by lia);have j:sortI m=m:=zL (a0Y _) (c.imp λ{a b} h=>by lia);rw[<- e,j]
theorem VB(m:Ord.Rows x){kd:KD}(h:gC x kd)(p:G9 kd []):∀(n:Nat) (a:Q0e),a.length=n->DS x a->G9 kd a
 |0,a,hl,_=>by rw[vc.1 hl];show p
 |n+1,a,hl,hd=>by
  obtain⟨t,c,A⟩:=LG (f:=λt=>(row x t).length) (l:=a) (λz=>by rw[z] at hl;cases hl);have nd:a.Nodup:=hd.1.imp λ{a b} h=>by lia
  have j:∀s,s∈a.erase t↔s≠t/\s∈a:=λs=>a2q nd;have hd2:DS x (a.erase t):=⟨hd.1.sublist List.erase_sublist,λs d=>by obtain⟨F,h2⟩:=(j s).1 d;show⟨(hd.2 s h2).1,λu o=>(j u).2 ⟨λe=>?_,(hd.2 s h2).2 u o⟩⟩;subst e;have:=E3 m (hd.2 u c).1 (hd.2 s h2).1 o;have:=A s h2;lia⟩
  have v:(a.erase t).length=n:=by rw[a0O c];lia
  have y:=VB m h p n (a.erase t) v hd2;have rd:t∈bY x (a.erase t):=uY.2 ⟨(hd.2 t c).1,λz=>((j t).1 z).1 rfl,λs d=>(j s).2 ⟨λe=>by subst e;have:=E3 m (hd.2 s c).1 (hd.2 s c).1 d;lia,(hd.2 t c).2 s d⟩⟩
  have ok:W8 x a:=⟨nd,λs d=>(hd.2 s d).1⟩;have:=xK ok;have key:=h.2.2.2.1 (a.erase t) y ∅ t rd;have pm:(cU (a.erase t) t).Perm (a.erase t++[t]):=sortI_perm _;have e:cU (a.erase t) t=a:=LH (EZ hd2 rd).1 hd.1 λs=>by
   rw[pm.mem_iff,gn,cg,j s]
   constructor
   .rintro (⟨_,q⟩|rfl)
    .exact q
    .exact c
   .intro q;by_cases z:s=t
    .exact .inr z
    .exact .inl ⟨z,q⟩
  rwa [e] at key
def Q8(m:Ord.Rows x){kd:KD}(h:gC x kd)(o:G9 kd []):∃A:Q0a,kd.1=A.map kW/\A.Nodup /\∀a,a∈A↔DS x a:=by
 have ex:∀ks:List nV,(∀q∈ks,∃a,DS x a/\q=kW a) ->∃A:Q0a,ks=A.map kW /\∀a∈A,DS x a:=by
  intro ks
  induction ks with
  |nil=>intro _;show⟨[],rfl,λa n=>nomatch n⟩
  |cons q ks ih =>
   intro l;obtain⟨a,j,rfl⟩:=l q de;obtain⟨A,rfl,d⟩:=ih λq h=>l q (gf _ h);show⟨a::A,rfl,λb c=>by
    rcases bx.1 c with rfl|c
    .exact j
    .exact d b c⟩
 obtain⟨A,e,d⟩:=ex kd.1 h.2.2.2.2.2;show⟨A,e,?_,λa=>⟨d a,λj=>?_⟩⟩
 .have:=h.2.2.2.2.1;rw[e] at this;show a2o kW (λa b ne e=>ne (by rw[e])) this
 .have:=(Q7 h.1).1 (VB m h o a.length a rfl j);rw[e] at this;obtain⟨b,c,p⟩:=gd.1 this
  rwa [<- xO p]
end
section
variable{x:Q0a}
def tL(S n:Nat):List Int:=(bD 0 n).filter λb=>S.testBit b.toNat
def iR{S n:Nat}{t:Int}:t∈tL S n↔(0<=t/\t<(n:Int))/\S.testBit t.toNat=ae:=by
 unfold tL;rw[iy,bR]
 constructor
 .rintro ⟨a,b⟩;show⟨by lia,b⟩
 .rintro ⟨a,b⟩;show⟨by lia,b⟩
def VC(S n:Nat):(tL S n).Pairwise (·<·):=vi _ (Q2 n)
def CI(x:Q0a)(S:Nat):Bool:=(tL S x.length).all λb=>Zv (Mk x b.toNat &&& S=Mk x b.toNat)
def t6(x:Q0a):List (List Int):=((cm (2^x.length)).filter λS=>CI x S).map λS=>tL S x.length
def VD(c:Ord.Rows x){S:Nat}:CI x S=ae↔DS x (tL S x.length):=by
 unfold CI DS;rw[js]
 constructor
 .intro h;show⟨VC _ _,λt a=>⟨(iR.1 a).1,λs d=>?_⟩⟩;obtain⟨⟨j,t1⟩,_⟩:=iR.1 a;have sub:=EV.1 (of_decide_eq_true (h t a));obtain⟨b,rfl⟩:∃b:Nat,t=(b:Int):=⟨t.toNat,by lia⟩;have r:=c.rng b (row x b) (by unfold row;rw[gr,cj ∅];rfl) s d;obtain⟨i,rfl⟩:∃i:Nat,s=(i:Int):=⟨s.toNat,by lia⟩;show iR.2 ⟨by lia,?_⟩;show sub i ((K9 c ∅).2 d)
 .rintro ⟨_,h⟩ t a;obtain⟨⟨j,t1⟩,_⟩:=iR.1 a;obtain⟨b,rfl⟩:∃b:Nat,t=(b:Int):=⟨t.toNat,by lia⟩;show Zx (EV.2 λi l=>?_);have:=(h _ a).2 (i:Int) ((K9 c (b:=b) ∅).1 l);show(iR.1 this).2
def XI{S T n:Nat}(j:S<2^n)(d:T<2^n)(h:tL S n=tL T n):S=T:=by
 apply Dl;intro i;by_cases c:i<n
 .have a:=iR (S:=S) (n:=n) (t:=(i:Int));have b:=iR (S:=T) (n:=n) (t:=(i:Int));rw[h] at a;have:S.testBit i=ae↔T.testBit i=ae:=by
   constructor
   .intro z;show(b.1 (a.2 ⟨by lia,z⟩)).2
   .intro z;show(a.1 (b.2 ⟨by lia,z⟩)).2
  rw[qb];show this
 .have p:2^n<=2^i:=Dk (by decide) ∅;rw[a0o ∅,a0o ∅]
def VE:(t6 x).Nodup:=by unfold t6;rw[En,uz];show a0Z (λ{a b} d c h e=>?_) (vi _ D_);have d:=ll.1 (iy.1 d).1;have c:=ll.1 (iy.1 c).1;have:=XI d c e;lia
def LI(d:Ord.Rows x){a:Q0e}:a∈t6 x↔DS x a:=by
 unfold t6;rw[gd]
 constructor
 .rintro ⟨S,m,rfl⟩;show(VD d).1 (iy.1 m).2
 .intro h;have e:tL (BQ a) x.length=a:=LH (VC _ _) h.1 λt=>by
   rw[iR]
   constructor
   .rintro ⟨⟨j,t1⟩,z⟩;have:=(kK λu c=>(h.2 u c).1.1).1 z
    rwa [Eo j] at this
   .intro l;have r:=(h.2 t l).1;show⟨r,(kK λu c=>(h.2 u c).1.1).2 ?_⟩
    rwa [Eo r.1]
  show⟨BQ a,iy.2 ⟨ll.2 (Nat.lt_pow_two_of_testBit _ λi n=>?_),(VD d).2 (by rw[e];show h)⟩,e⟩
  cases z:(BQ a).testBit i with
  |false=>rfl
  |true =>
   have:=(h.2 _ ((kK λu c=>(h.2 u c).1.1).1 z)).1;lia
def CJ(c:x.length<=9):(t6 x).length<=512:=by unfold t6;rw[bo];have a:=r9 (λS=>CI x S) (cm (2^x.length));rw[jk] at a;have:2^x.length<=2^9:=Dk (by decide) c;lia
abbrev Q9(a:Q0e):QI:=((a.length:Int),a)
def t7(x:Q0a):List (List Int):=(jD zH ((t6 x).map Q9)).map (·.2)
def XJ{A:Q0a}(nd:A.Nodup)(c:∀a,a∈A↔a∈t6 x):jD zH (A.map Q9)=jD zH ((t6 x).map Q9) :=
 QH ET (((Dy nd VE).2 c).map Q9)
def XM{t:QI}(h:t∈jD zH ((t6 x).map Q9)):t.2∈t6 x:=by obtain⟨a,c,rfl⟩:=gd.1 ((eB _).mem_iff.1 h);show c
def E4:(t7 x).length=(t6 x).length:=by unfold t7;rw[bo,(eB _).length_eq,bo]
def RA{a:Q0e}(h:a∈t7 x):a∈t6 x:=by obtain⟨t,c,rfl⟩:=gd.1 h;show XM c
def dK(a:Q0e):U3 (kW a)=τ a:=by unfold kW U3;show D.tup _=D.tup _;congr 1;rw[f_];rfl
theorem u3{key:EF}{ρ:bK}{f:List Int->D}:∀A:Q0a,(∀a∈A,key (ρ.set 0 (aa (τ a)))=aa (f a))->rH key ρ (A.map τ)=aa (A.map f)
 |[],_=>rfl
 |a::A,h=>by rw[cf,rH,h a de,di,u3 A λb c=>h b (gf _ c)];rfl
def pH(c:Ord.Rows x)(h:x.length<=9):gB [aM x]=.ok (.tup ((t7 x).map τ)):=by
 have m:=CG c h;obtain⟨kd,e,n,p⟩:=Q6 h m;obtain⟨A,u,nd,o⟩:=Q8 c n p;have j:∀a,a∈A↔a∈t6 x:=λa=>(o a).trans (LI c).symm;have v:A.length<=512:=by have:=((Dy nd VE).2 j).length_eq;have:=CJ h;lia
 have l:∀a:Q0e,CH (oh a)=aa a:=λa=>cD a;have q:xN [] (aN iB (bS 0)) (gS (aA (cL b7 (bS 0)) (bS 0))) [aa (aM x)]=aa (.lst ((t7 x).map τ)):=by
  unfold xN xM;rw[lH (x:=aM x) (d:=.cN (adr pW) kd.1 kd.2) rfl e,di];show((aa (kd.1.map U3)).bind _)=_;rw[di,u,f_,show(U3∘kW:List Int->D)=τ from funext dK];rw[show tX CH (A.map τ)=aa A from mB l A,di,u3 (f:=λa=>.tup [.int (a.length:Int),τ a]) A λa z=>?_,di]
  .have:A.map (λa=>D.tup [.int (a.length:Int),τ a])=(A.map Q9).map λt:QI=>D.tup [.int t.1,oh t.2]:=by rw[f_];rfl
   rw[this,mB (f:=Q4 CH) (g:=λt:QI=>D.tup [.int t.1,oh t.2]) (λt=>?_),di,bo,Z_ ⟨by lia,by rw[f_];show a0M _⟩]
   .rw [show jD (iA EO (rJ EO)) (A.map Q9)=jD zH ((t6 x).map Q9) from XJ nd j];unfold t7;rw[f_];rfl
   .show ((CH (oh t.2)).map λb=>(t.1,b))=_;rw[l];rfl
  .unfold gS;rw[args2 (x:=.int (a.length:Int)) (y:=τ a) (eL (x:=τ a) rfl (by unfold τ;rw[f9,bo])) rfl];rfl
 unfold gB;show fN rfl (fR (eL (x:=.lst ((t7 x).map τ)) q eV))
def HA{S n:Nat}(h:n<=9):iQ [.int S,.int n]=.ok (τ (tL S n)):=by unfold iQ;show fN rfl (fR (eL (x:=aE (tL S n)) ?_ eV));show fI ((bD 0 n).map D.int) (U5 rfl ∅) (by rw[bo,aV];lia) (fJ D.int (λb=>S.testBit b.toNat) D.int (bD 0 n) λb a=>⟨[aa (.int b),aa (.int S)],rfl,?_,λ_=>rfl⟩);have j:=(bR.1 a).1;obtain⟨c,rfl⟩:∃c:Nat,b=(c:Int):=⟨b.toNat,by lia⟩;show(tY (d:=.bl (Zv ((if S.testBit c=ae then(1:Int) else 0)=1))) (aY (x:=.int (if S.testBit c=ae then 1 else 0)) (y:=.int 1) (Og rfl rfl) rfl rfl) rfl).trans ?_;rw[gr];cases S.testBit c<;>rfl
def LJ(v:Ord.Rows x)(o:x.length<=9):kL [aM x]=.ok (.lst ((t7 x).map τ)):=by
 have I:2^x.length<=2^9:=Dk (by decide) o
 let j:List Int->D:=λa=>.tup [.int (a.length:Int),τ a]
 unfold kL;show U9 rfl ?_;show bE [.ro (aM x),.ri x.length,.no,.no,.no,.no] (gT (.int x.length) (eL (x:=aM x) rfl iP) rfl) ?_;show bE [.ro (aM x),.ri x.length,.ro (aE (mQ x)),.no,.no,.no] (gT _ (lH rfl (LA v o)) rfl) ?_;show bE [.ro (aM x),.ri x.length,.ro (aE (mQ x)),.ow (.lst []),.no,.no] rfl ?_;show jI (λρ=>∃n m,ρ=[.ro (aM x),.ri x.length,.ro (aE (mQ x)),.ow (.lst ((t6 x).map j)),n,m]) ?_ λρ ⟨n,m,e⟩=>?_
 .refine oC (2^x.length) (λi ρ=>∃n m,ρ=[.ro (aM x),.ri x.length,.ro (aE (mQ x)),.ow (.lst ((((cm i).filter λS=>CI x S).map λS=>tL S x.length).map j)),n,m]) (args1 (aY (x:=.int ((1:Nat):Int)) (y:=.int (x.length:Nat)) rfl rfl (by rw[QX (by decide) ∅,QY]))) ∅ ⟨.no,.no,rfl⟩ (λS ρ L ⟨n,m,e⟩=>?_) λρ h=>h;subst e;have few:∀i,i<=512->((((cm i).filter λS=>CI x S).map λS=>tL S x.length).map j).length<=512:=λi K=>by rw[bo,bo];have a:=r9 (λS=>CI x S) (cm i);rw[jk] at a;lia
  have F:=few S ∅;show⟨[.ro (aM x),.ri x.length,.ro (aE (mQ x)),.ow (.lst ((((cm S).filter λS=>CI x S).map λS=>tL S x.length).map j)),.ri S,m],rfl,?_⟩;rw[yw,List.filter_append,jd,jd];generalize (((cm S).filter λS=>CI x S).map λS=>tL S x.length).map j=R at F ⊢;show xG [.ro (aM x),.ri x.length,.ro (aE (mQ x)),.ow (.lst R),.ri S,.ro (τ (tL S x.length))] (gT _ (cR (x:=.int S) (y:=.int x.length) rfl rfl (HA o)) rfl) ?_;have p:tV (cL allM (aA (bT 1 [4,2] (bI UY) (g1 0) cK (aB qD (aB uQ (aB dI fM cV) dU) (aB dI fM cV))) aJ)) (bA [.ro (aM x),.ri x.length,.ro (aE (mQ x)),.ow (.lst R),.ri S,.ro (τ (tL S x.length))])=aa (CI x S):=by
   show tY (d:=.bl (CI x S)) (eL (x:=.lst (((tL S x.length).map λb=>Zv (Mk x b.toNat &&& S=Mk x b.toNat)).map D.bl)) ?_ ?_) rfl
   .rw [f_];show fI ((tL S x.length).map D.int) rfl (by rw[bo];unfold tL;have:=r9 (λb:Int=>S.testBit b.toNat) (bD 0 x.length);rw[aV] at this;lia) (dE D.int _ (tL S x.length) λb A=>⟨[aa (.int b),aa (.int S),aa (aE (mQ x))],rfl,?_⟩);obtain⟨⟨U,O⟩,_⟩:=iR.1 A;obtain⟨c,rfl⟩:∃c:Nat,b=(c:Int):=⟨b.toNat,by lia⟩;have u:aB dI fM cV [aa (.int (c:Int)),aa (.int S),aa (aE (mQ x))]=aa (.int (Mk x c:Int)):=aY (x:=aE (mQ x)) (y:=.int c) rfl rfl (XE ∅);show aY (x:=.int ((Mk x c &&& S:Nat):Int)) (y:=.int (Mk x c:Int)) (aY u rfl (zU _ _)) u ?_;rw[g7];show aa (D.bl _)=aa (D.bl (Zv (Mk x (c:Int).toNat &&& S=Mk x (c:Int).toNat)));rw[gr];congr 2;show decide_eq_decide.2 ∅
   .rw [qM];unfold CI;rw[vg];rfl
  show rT (CI x S) p (λq=>?_) λq=>lG ⟨.ro (.int S),.ro (τ (tL S x.length)),by rw[show[S].filter (λS=>CI x S)=[] by simp[q],mn,mn,ip]⟩;rw[show[S].filter (λS=>CI x S)=[S] by simp[q]];show⟨_,Oh (i:=3) (ds:=R) (d:=j (tL S x.length)) ?_ rfl ∅,⟨_,_,rfl⟩⟩;unfold gS;rw[args2 (x:=.int ((tL S x.length).length:Int)) (y:=τ (tL S x.length)) (eL (x:=τ (tL S x.length)) rfl (by unfold τ;rw[f9,bo])) rfl];rfl
 .subst e;have J:=CJ o;show rV _ (fI ((t7 x).map j) ?_ (by rw[bo,E4];lia) (dE j τ (t7 x) λa _=>⟨[aa (.int (a.length:Int)),aa (τ a)],rfl,rfl⟩)) rfl;unfold bI;rw[eL (x:=.lst ((t6 x).map j)) rfl (?_:B5 [.lst ((t6 x).map j)]=aa (.lst ((t7 x).map j)))]
  .rfl
  .show ((tX ES ((t6 x).map j)).bind λT=>if T.length<=5000 then aa (D.lst ((jD zH T).map QJ)) else af)=_;rw[show(t6 x).map j=((t6 x).map Q9).map QJ by rw[f_];rfl,mB (λt=>?_),di,bo,Z_ ∅]
   .congr 2;unfold t7;rw[f_];show pq λt z=>?_;obtain⟨a,_,rfl⟩:=gd.1 ((eB _).mem_iff.1 z);rfl
   .show ((intsOf (t.2.map D.int)).map λl=>(t.1,l))=_;rw[cD];rfl
def VF(x:Q0a)(c:Q0e):Bool:=c.all λb=>(row x b).all λa=>!(Zv (b<a)&&c.contains a)
abbrev In(x:Q0a)(a:Q0e):Prop:=∀t∈a,0<=t/\t<(x.length:Int)
theorem HB{d:Q0e}(o:In x d):mR [aM x,aE d]=.ok (.bl (VF x d)):=by
 unfold mR;have inner:∀b:Int,0<=b->b<(x.length:Int) ->∀j:Sv,((row x b).all (λa=>!(Zv (b<a)&&d.contains a))=ae->Nx (eT (bI (aB dI cV fM)) (tQ 3)
    (gZ (kU (tV (aB qX nM fM)) (tV (aB (nQ ag) nM dU)))
     (cC (eC (.bl ag)))
     dJ) [.ro (aM x),.ro (aE d),.ri b,j]) λρ=>∃j,ρ=[.ro (aM x),.ro (aE d),.ri b,j]) /\
   ((row x b).all (λa=>!(Zv (b<a)&&d.contains a))=ag->(eT (bI (aB dI cV fM)) (tQ 3)
    (gZ (kU (tV (aB qX nM fM)) (tV (aB (nQ ag) nM dU)))
     (cC (eC (.bl ag)))
     dJ) [.ro (aM x),.ro (aE d),.ri b,j])=.rt (.bl ag)):=by
  intro b v u j;have it:bI (aB dI cV fM) (fG [.ro (aM x),.ro (aE d),.ri b,j])=aa ((row x b).map D.int):=by unfold bI;rw[aY (x:=aM x) (y:=.int b) rfl rfl (B8 v u)];rfl
  have L:=oF (g:=tQ 3) (b:=gZ (kU (tV (aB qX nM fM)) (tV (aB (nQ ag) nM dU)))
     (cC (eC (.bl ag)))
     dJ) (z:=.bl ag) (λρ=>∃j,ρ=[.ro (aM x),.ro (aE d),.ri b,j]) D.int (λa=>!(Zv (b<a)&&d.contains a)) (row x b) [.ro (aM x),.ro (aE d),.ri b,j] ⟨_,rfl⟩ (by
   rintro a F _ ⟨l,rfl⟩;show⟨[.ro (aM x),.ro (aE d),.ri b,.ri a],rfl,?_⟩;have c:kU (tV (aB qX nM fM)) (tV (aB (nQ ag) nM dU)) (bA [.ro (aM x),.ro (aE d),.ri b,.ri a])=aa (Zv (b<a)&&d.contains a):=by have e1:tV (aB qX nM fM) (bA [.ro (aM x),.ro (aE d),.ri b,.ri a])=aa (Zv (b<a)):=tY (aY (x:=.int a) (y:=.int b) rfl rfl fQ) rfl;have q:tV (aB (nQ ag) nM dU) (bA [.ro (aM x),.ro (aE d),.ri b,.ri a])=aa (d.contains a):=tY (aY (x:=.int a) (y:=aE d) rfl rfl qL) rfl;unfold kU;rw[e1,q];cases Zv (b<a)<;>rfl
   constructor
   .intro h;show⟨_,qK (by rw[c];show congrArg aa ((vk _).mp h)) rfl,_,rfl⟩
   .intro h;show J1 (by rw[c];show congrArg aa ((Bool.not_eq_false' _).mp h)) (fR rfl))
  show⟨λh=>?_,λh=>G4 _ it (L.2 h)⟩;obtain⟨ρ',e,p⟩:=L.1 h;show⟨ρ',G4 _ it e,p⟩
 have L:=oF (g:=tQ 2) (b:=eT (bI (aB dI cV fM)) (tQ 3)
    (gZ (kU (tV (aB qX nM fM)) (tV (aB (nQ ag) nM dU)))
     (cC (eC (.bl ag)))
     dJ)) (z:=.bl ag) (λρ=>∃m j,ρ=[.ro (aM x),.ro (aE d),m,j]) D.int (λb=>(row x b).all λa=>!(Zv (b<a)&&d.contains a)) d [.ro (aM x),.ro (aE d),.no,.no] ⟨_,_,rfl⟩ (by
  rintro b n _ ⟨A,l,rfl⟩;have n:=o b n;have I:=inner b ∅ ∅ l;show⟨[.ro (aM x),.ro (aE d),.ri b,l],rfl,λh=>?_,I.2⟩;obtain⟨ρ',e,j,rfl⟩:=I.1 h;show⟨_,e,_,_,rfl⟩)
 have it:bI dU (fG [.ro (aM x),.ro (aE d),.no,.no])=aa (d.map D.int):=rfl;show fN rfl ?_;show aO _ _ [.ro (aM x),.ro (aE d),.no,.no]=.rt (.bl (VF x d))
 cases h:VF x d with
 |true =>
  obtain⟨ρ',e,m,j,rfl⟩:=L.1 h;show dD _ (G4 _ it e) (fR rfl)
 |false=>show xD (G4 _ it (L.2 h))
def LK{a:Q0e}(c:a.length<=1000){v:Sv}:tV (cL allM (aA (bT 1 [0] (bI dU) (g1 0) cK (aN LL.gA (aA cV (aA (cL b7 (bS 1)) aJ)))) aJ)) (bA [.ro (aM x),.ro (τ a)])=aa (a.all λt=>Zv (0<=t)&&Zv (t<(x.length:Int))):=by
 show tY (d:=.bl (a.all λt=>Zv (0<=t)&&Zv (t<(x.length:Int)))) (eL (x:=.lst ((a.map λt=>Zv (0<=t)&&Zv (t<(x.length:Int))).map D.bl)) ?_ ?_) rfl
 .rw [f_];show fI (a.map D.int) rfl (by rw[bo];lia) (dE D.int _ a λt _=>⟨[aa (.int t),aa (aM x)],rfl,cR (x:=.int t) (y:=.int x.length) rfl (eL (x:=aM x) rfl iP) (zN t x.length)⟩)
 .rw [qM,vg];rfl
def RB(n:Ord.Rows x)(u:x.length<=9){c:Q0e}(o:In x c)(A:c.length<=1000):c8 [aM x,τ c]=.ok (.bl (VF x c)):=by
 have j:(c.all λt=>Zv (0<=t)&&Zv (t<(x.length:Int)))=ae:=js.2 λt h=>by have:=o t h;simp;lia
 have I:=G6.Ui n u;have F:VF x c=!((G6.T x).any λp=>Zv (p.2<p.1)&&(c.contains p.1&&c.contains p.2)):=by
  rw[qb];unfold VF;simp only[js,vk,Bool.and_eq_false_iff,a0X,jf,not_and,Eu,Prod.forall,G6.Uj,decide_eq_true_eq,decide_eq_false_iff_not,a0W]
  constructor
  .intro h a b l d j m;rcases h b m a l.2.2 with z|z
   .exact z d
   .exact z j
  .intro h b l a j;have r:=o b l;by_cases d:b<a
   .exact .inr λq=>h a b ⟨r.1,r.2,j⟩ d q l
   .exact .inl d
 unfold c8;show fN rfl (dD [.ro (aM x),.ro (τ c)] (qK (tnE (b:=ae) (by rw[<- j];show LK A (v:=.no)) rfl) rfl) (fR ?_));unfold tT;rw[eL (x:=.lst (((G6.T x).map λp=>Zv (p.2<p.1)&&(c.contains p.1&&c.contains p.2)).map D.bl)) (z:=aa (.bl ((G6.T x).any λp=>Zv (p.2<p.1)&&(c.contains p.1&&c.contains p.2)))) ?_ ?_]
 .rw [F];rfl
 .rw [f_];show fI ((G6.T x).map pairD) ?_ (by rw[bo];lia) (dE pairD _ (G6.T x) λp _=>⟨[aa (.int p.1),aa (.int p.2),aa (τ c)],rfl,?_⟩)
  .unfold bI;rw[lH (x:=aM x) rfl (lK n u)];rfl
  .refine XG (p:=Zv (p.2<p.1)) (aY (x:=.int p.1) (y:=.int p.2) rfl rfl fQ) (λh=>?_) λh=>?_
   .show _=aa (D.bl (Zv (p.2<p.1)&&(c.contains p.1&&c.contains p.2)));rw[h,vj];show XG (p:=c.contains p.1) (aY (x:=.int p.1) (y:=τ c) rfl rfl CA) (λh2=>?_) λh2=>?_
    .rw [h2,vj];show aY (x:=.int p.2) (y:=τ c) rfl rfl CA
    .rw [h2,sh]
   .show (Zv (p.2<p.1)&&(c.contains p.1&&c.contains p.2))=ag;rw[h,sh]
 .rw [QL,El];rfl
def RC{a:Q0e}(d:a.length<=1000)(h:¬ In x a):c8 [aM x,τ a]=.ex "NoThing":=by
 have j:(a.all λt=>Zv (0<=t)&&Zv (t<(x.length:Int)))=ag:=by
  cases z:a.all λt=>Zv (0<=t)&&Zv (t<(x.length:Int)) with
  |false=>rfl
  |true=>show Zw (λt c=>by have:=js.1 z t c;simpa using this) h
 unfold c8;show Ou rfl (Ot (J1 (tnE (b:=ag) (by rw[<- j];show LK d (v:=.no)) rfl) rfl))
def RD{w t:D}{b:Bool}(h:c8 [w,t]=.ok (.bl b)):fK [w,t]=.ok (.tup [.str "told",.bl b]):=by
 unfold fK;show fN rfl (dD _ rfl (K15.Ue (ρ':=[.ro w,.ro t,.ro (.tup [.str "told",.bl b]),.no]) (Oo ?_ (gT _ ?_ rfl)) (fR rfl)))
 .exact show uP c8 (aA cV (bS 1)) (bA [.ro w,.ro t,.ro .non,.no])=af from K15.rcA (ds:=[w,t]) rfl (by rw[h];rfl)
 .unfold gS;rw[args2 (x:=.str "told") (y:=.bl b) rfl (cR rfl rfl h)];rfl
abbrev HC:D:=.tup [.str "refused",.tup [.bl ae,.bl ae,.bl ag,.bl ag,.bl ag,.bl ag,.bl ag,.bl ag,.bl ag,.bl ag,.bl ag,.bl ag,.bl ag,.bl ag]]
def RE{w t:D}(h:c8 [w,t]=.ex "NoThing"):fK [w,t]=.ok HC:=by unfold fK;show fN rfl (dD _ rfl (K15.Ud (Oq ?_) (Z_ rfl) (fR rfl)));show show uP c8 (aA cV (bS 1)) (bA [.ro w,.ro t,.ro .non,.no])=aa "NoThing" from K15.rcA (ds:=[w,t]) rfl (by rw[h];rfl)
def CK:jN [.int 1]=.ok HC:=rfl
def rep1(v:Int){m:Int}(d:0<=m)(c:m<=1000):repLM (aE [v]) (.int m)=aa (aE (cp m.toNat v)):=by
 obtain⟨n,rfl⟩:∃n:Nat,m=(n:Int):=⟨m.toNat,by lia⟩;show(if([v].map D.int).length*(n:Int).toNat<=i5/\(n:Int).natAbs<9223372036854775808 then aa (D.lst (cp (n:Int).toNat ([v].map D.int)).flatten) else af)=_;have a:(1000:Nat)<=i5:=by decide
 rw[Z_ ⟨by rw[bo,gr,yz];lia,by lia⟩,gr];have e:∀k:Nat,(cp k [v]).flatten=cp k v:=λk=>by
  induction k with
  |zero=>rfl
  |succ k ih=>rw[kj,qa,ih];rfl
 rw[<- List.map_replicate,<- List.map_flatten,e];rfl
def Od{f:EF}{i j:Nat}{ρ:aW}{p q:D}(h:f (fG ρ)=aa (.tup [p,q])):GZ (cB f) (PZ i j) ρ=.nx ((ρ.set i (.ro p)).set j (.ro q)):=by unfold GZ cB;rw[h];rfl
def HD(L:Ord.Rows x)(hn:x.length<=9)(h0:0<x.length)(ns:Q0e):∃l:Q0e,l.length<=299/\In x l/\lM [.kR ns,aM x]=.ok (aE l):=by
 obtain⟨c4,U⟩:=iO ns 4;obtain⟨n,Y,w0,O⟩:=jK c4 6 400009 (by decide) (by decide);have Y:n.length=6:=Y
 let ST:Nat->List (Int×Int):=λi=>(bD 0 i).flatMap λb=>((row x b).filter λa=>Zv (b<a)).map λa=>(a,b)
 have Oc:∀i,i<=x.length ->∀p∈ST i,(0<=p.1/\p.1<(x.length:Int))/\(0<=p.2/\p.2<(x.length:Int)):=λi hi p I=>by obtain⟨b,hb,I⟩:=yy.1 I;obtain⟨a,ha,rfl⟩:=gd.1 I;have hb:=bR.1 hb;show⟨G6.Uk L (c:=b) ∅ ∅ (iy.1 ha).1,by lia,by lia⟩
 have X:∀i,i<=x.length->(ST i).length<=i*9:=λi hi=>by
  induction i with
  |zero=>simp[ST,bD]
  |succ i ih =>
   have e:ST (i+1)=ST i++((row x (i:Int)).filter λa=>Zv ((i:Int)<a)).map λa=>(a,(i:Int)):=by show(bD 0 (i+1)).flatMap _=_;unfold bD;rw[yw,jd,Ei];simp[ST,bD]
   have a1:=r9 (λa:Int=>Zv ((i:Int)<a)) (row x (i:Int));have a2:(row x (i:Int)).length<=9:=by unfold row;rw[gr,cj ∅];show CG L hn _ (p_ _)
   have:=ih ∅;rw[e,dm,bo];lia
 have at_:∀{ρ:bK} (j:Int),aT 2 ρ=aa (aE n)->0<=j->j<6->aB dI fM (eI j) ρ=aa (.int (η n j)):=λ{ρ} j e J K=>aY (x:=aE n) (y:=.int j) e rfl (K6 J ∅);have an:∀j:Int,0<=j->j<6->0<=η n j:=λj J K=>w0 _ (Q0 J ∅);have hlen:∀{ρ:bK},aT 1 ρ=aa (aM x)->cL b7 (bS 1) ρ=aa (.int x.length):=λ{ρ} e=>eL (x:=aM x) e iP
 let F:Sv->Sv->Sv->Sv->aW:=λv3 u v5 v6=>[.ro (.kR ns),.ro (aM x),.ro (aE n),v3,u,v5,v6]
 let m:Int:=1+(64*η n 4+η n 5)%298
 have m0:0<=m:=by have:=iz (64*η n 4+η n 5) (show(298:Int)≠0 by decide);show 0<=1+(64*η n 4+η n 5)%298;lia
 have m1:m<=298:=by have:=jn (64*η n 4+η n 5) (show(0:Int)<298 by decide);show 1+(64*η n 4+η n 5)%298<=298;lia
 have main:Rt ((aO (bH 2 (aN LL.c7 (aA (aN LL.c6 (aA cV (aA (eI 4) aJ))) (aA (eI 6) (aA (eI 400009) aJ)))))
  (aO (bH 3 (dC aJ))
  (aO (eT (bX (aA (cL b7 (bS 1)) aJ)) (tQ 4)
   (bH 3 (aB cP nM (bT 1 [4] (bI (aB dI dU nN)) (g1 0) (tV (aB qX cV dU)) (gS (aA cV (bS 1)))))))
  (aO (zG 5 6 (aA (aB dB (aB dI fM (eI 1)) (cL b7 (bS 1))) (aA (aB dB (aB dI fM (eI 2)) (cL b7 (bS 1))) aJ)))
  (aO (gZ (kU (tV (aB qX (cL b7 (bS 3)) (eI 0))) (tV (aB qX (aB dB (aB dI fM (eI 3)) (eI 4)) (eI 0))))
   (GZ (cB (aB dI nM (aB dB (aB dI fM (eI 1)) (cL b7 (bS 3))))) (PZ 5 6))
   dJ)
  (aO (gZ (tV (aB qD (aB dB (aB qW (aB dI fM (eI 3)) (eI 4)) (eI 2)) (eI 1)))
   (zG 5 6 (aA WM (bS 5)))
   dJ)
  (cC (aB cP (aB repLM (dC (bS 5)) (aB cP (eI 1) (aB dB (aB cP (aB mulM (eI 64) (aB dI fM (eI 4))) (aB dI fM (eI 5))) (eI 298)))) (dC (bS 6))))))))))
  (bL 7 [.kR ns,aM x])) λd=>∃l:Q0e,l.length<=299/\In x l/\d=aE l:=by
  show bE (F .no .no .no .no) (gT (aE n) (jJ (x:=.int c4) (y:=.int 6) (z:=.int 400009) (cR rfl rfl U) rfl rfl O) rfl) ?_;show bE (F (.ro (.lst ((ST 0).map pairD))) .no .no .no) rfl ?_;show jI (λρ=>∃u,ρ=F (.ro (.lst ((ST x.length).map pairD))) u .no .no) ?_ ?_
  .refine oC x.length (λi ρ=>∃u,ρ=F (.ro (.lst ((ST i).map pairD))) u .no .no) (args1 (hlen rfl)) ∅ ⟨_,rfl⟩ (λi ρ hi ⟨u,e⟩=>?_) λρ h=>h;subst e;show⟨F (.ro (.lst ((ST i).map pairD))) (.ro (.int i)) .no .no,rfl,B6 (.lst ((ST (i+1)).map pairD)) ?_ ⟨_,rfl⟩⟩;have e:ST (i+1)=ST i++((row x (i:Int)).filter λa=>Zv ((i:Int)<a)).map λa=>(a,(i:Int)):=by show(bD 0 (i+1)).flatMap _=_;unfold bD;rw[yw,jd,Ei];simp[ST,bD]
   have l1:=X (i+1) ∅;rw[e] at l1 ⊢;rw[jd];rw[dm,bo] at l1;show aY (x:=.lst ((ST i).map pairD)) (y:=.lst ((((row x (i:Int)).filter λa=>Zv ((i:Int)<a)).map λa=>(a,(i:Int))).map pairD)) rfl ?_ (rQ (by simp only[bo];lia));rw[f_];have a2:(row x (i:Int)).length<=9:=by unfold row;rw[gr,cj ∅];show CG L hn _ (p_ _)
   show fI ((row x (i:Int)).map D.int) ?_ (by rw[bo];lia) (fJ D.int (λa=>Zv ((i:Int)<a)) _ (row x (i:Int)) λa _=>⟨[aa (.int a),aa (.int i)],rfl,tY (aY (x:=.int a) (y:=.int i) rfl rfl fQ) rfl,λ_=>rfl⟩);unfold bI;rw[aY (x:=aM x) (y:=.int i) rfl rfl (B8 ∅ ∅)];rfl
  rintro _ ⟨u,rfl⟩;have md:∀{ρ:bK} (j:Int),aT 2 ρ=aa (aE n)->aT 1 ρ=aa (aM x)->0<=j->j<6->aB dB (aB dI fM (eI j)) (cL b7 (bS 1)) ρ=aa (.int (η n j%x.length)):=λ{ρ} j e1 e2 J K=>aY (x:=.int (η n j)) (y:=.int x.length) (at_ j e1 J K) (hlen e2) (bC ∅);have Z:∀v:Int,0<=v%(x.length:Int)/\v%(x.length:Int)<(x.length:Int):=λv=>⟨iz v ∅,jn v ∅⟩;show bE (F (.ro (.lst ((ST x.length).map pairD))) u (.ro (.int (η n 1%x.length))) (.ro (.int (η n 2%x.length)))) (Az (args2 (md 1 rfl rfl (by decide) (by decide)) (md 2 rfl rfl (by decide) (by decide)))) ?_;show jI (λρ=>∃a b:Int,In x [a,b]/\ρ=F (.ro (.lst ((ST x.length).map pairD))) u (.ro (.int a)) (.ro (.int b))) ?_ ?_
  .have two:In x [η n 1%x.length,η n 2%x.length]:=λt o=>by
    rcases bx.1 o with rfl|o
    .exact Z _
    .rw [cg.1 o];show Z _
   have Ay:∀{ρ:bK},aT 3 ρ=aa (.lst ((ST x.length).map pairD))->cL b7 (bS 3) ρ=aa (.int (ST x.length).length):=λ{ρ} e=>eL e (by rw[jH,bo]);have t1:tV (aB qX (cL b7 (bS 3)) (eI 0)) (bA (F (.ro (.lst ((ST x.length).map pairD))) u (.ro (.int (η n 1%x.length))) (.ro (.int (η n 2%x.length)))))=aa (Zv ((0:Int)<(ST x.length).length)):=tY (aY (x:=.int (ST x.length).length) (y:=.int 0) (Ay rfl) rfl fQ) rfl;have t2:tV (aB qX (aB dB (aB dI fM (eI 3)) (eI 4)) (eI 0)) (bA (F (.ro (.lst ((ST x.length).map pairD))) u (.ro (.int (η n 1%x.length))) (.ro (.int (η n 2%x.length)))))=aa (Zv ((0:Int)<η n 3%4)):=tY (aY (x:=.int (η n 3%4)) (y:=.int 0) (aY (x:=.int (η n 3)) (y:=.int 4) (at_ 3 rfl (by decide) (by decide)) rfl (bC (by decide))) rfl fQ) rfl;show rT (Zv ((0:Int)<(ST x.length).length)&&Zv ((0:Int)<η n 3%4)) ?_ (λhc=>?_) λ_=>lG ⟨_,_,two,rfl⟩
   .unfold kU;rw[t1,t2];cases Zv ((0:Int)<(ST x.length).length)<;>rfl
   .have I:=of_decide_eq_true (Bool.and_eq_true_iff.1 hc).1;have q0:=iz (η n 1) (show((ST x.length).length:Int)≠0 by lia);have q1:=jn (η n 1) I;obtain⟨j,hj⟩:∃j:Nat,(j:Int)=η n 1%(ST x.length).length:=⟨(η n 1%(ST x.length).length).toNat,by lia⟩;have jl:j<(ST x.length).length:=by lia
    have r:=Oc x.length (bp _) _ (p_ jl);show⟨_,Od (p:=.int (ST x.length)[j].1) (q:=.int (ST x.length)[j].2) ?_,⟨(ST x.length)[j].1,(ST x.length)[j].2,λt o=>?_,rfl⟩⟩
    .refine aY (x:=.lst ((ST x.length).map pairD)) (y:=.int j) rfl ?_ (mI (k:=j) (by rw[ft,cj jl];rfl));rw[hj];show aY (x:=.int (η n 1)) (y:=.int (ST x.length).length) (at_ 1 rfl (by decide) (by decide)) (Ay rfl) (bC I)
    .rcases bx.1 o with rfl|o
     .exact r.1
     .rw [cg.1 o];show r.2
  rintro _ ⟨a,b,A,rfl⟩;show jI (λρ=>∃a b:Int,In x [a,b]/\ρ=F (.ro (.lst ((ST x.length).map pairD))) u (.ro (.int a)) (.ro (.int b))) ?_ ?_
  .refine rT (Zv (η n 3/4%2=1)) (tY (d:=.bl (Zv (η n 3/4%2=1))) (aY (x:=.int (η n 3/4%2)) (y:=.int 1) (aY (x:=.int (η n 3/4)) (y:=.int 2) (aY (x:=.int (η n 3)) (y:=.int 4) (at_ 3 rfl (by decide) (by decide)) rfl (jG (by decide) (by decide))) rfl (bC (by decide))) rfl rfl) rfl) (λ_=>?_) λ_=>lG ⟨a,b,A,rfl⟩;show⟨_,Az (x:=.int b) (y:=.int a) rfl,⟨b,a,λt o=>A t (by rcases bx.1 o with rfl|o;simp;rw[cg.1 o];simp),rfl⟩⟩
  rintro _ ⟨a,b,A,rfl⟩;show rV (aE (cp m.toNat a++[b])) (aY (x:=aE (cp m.toNat a)) (y:=aE [b]) (aY (x:=aE [a]) (y:=.int m) rfl ?_ (rep1 a m0 ∅)) rfl ?_) ⟨_,by simp;lia,λt o=>?_,rfl⟩
  .exact aY (x:=.int 1) (y:=.int ((64*η n 4+η n 5)%298)) rfl (aY (x:=.int (64*η n 4+η n 5)) (y:=.int 298) (aY (x:=.int (64*η n 4)) (y:=.int (η n 5)) (aY (x:=.int 64) (y:=.int (η n 4)) rfl (at_ 4 rfl (by decide) (by decide)) rfl) (at_ 5 rfl (by decide) (by decide)) rfl) rfl (bC (by decide))) rfl
  .unfold aE;rw[rQ (by simp;lia),jd]
  .rcases gn.1 o with o|o
   .rw [List.eq_of_mem_replicate o];show A a (by simp)
   .rw [cg.1 o];show A b (by simp)
 obtain⟨d,e,l,h1,h2,rfl⟩:=xH rfl main;show⟨l,h1,h2,e⟩
def RG(ρ:bK):aB KH (aB zC (eI 10) (eI 60)) (eI 10) ρ=aa (.int (((10:Int)^60)^10)):=by
 show aY (x:=.int ((10:Int)^60)) (y:=.int 10) (aY (x:=.int 10) (y:=.int 60) rfl rfl ?_) rfl ?_
 .show (if(Zv ((0:Int)<=60)&&Zv ((60:Int).natAbs<=1000000)&&Zv ((10:Int).natAbs<18446744073709551616))=ae then aa (D.int ((10:Int)^(60:Int).toNat)) else af)=_;show Z_ (by decide+kernel)
 .show (if(Zv ((0:Int)<=10)&&Zv ((10:Int)<=100)&&Zv (((10:Int)^60).natAbs<2^1000))=ae then aa (D.int (((10:Int)^60)^(10:Int).toNat)) else af)=_;show Z_ (by decide+kernel)
def E5{a:EF}{t:AF}{ρ:bK}{d:D}{ds:List D}(h:a ρ=aa d)(c:t ρ=aa ds):aA a t ρ=aa (d::ds):=by unfold aA;rw[h,c];rfl
def XN{l:Q0e}{n:Nat}{f lo a:EF}{ρ:bK}(h:f ρ=aa (aE l))(c:lo ρ=aa (.int 4))(h2:a ρ=aa (.int (n:Int)))(j:4<=n)(d:n<=l.length):WW f (oE lo) (oE a) ρ=aa (aE ((l.take n).drop 4)):=by unfold WW oE;rw[h,c,h2];show aa (D.lst (QA (l.map D.int) (aa (4:Int)) (aa (n:Int))))=_;unfold QA P9;dsimp only;rw[Zz ∅,Zz ∅,bo,show min (n:Int).toNat l.length=n by lia,show min (4:Int).toNat l.length=4 by lia,<- a0N,<- a0L,a0U];rfl
def listE{l:Q0e}:uN [aE l]=aa (aE l):=rfl
theorem Ob{i:Nat}{c a:EF}{ρ:aW}{l:Q0e}{k d:Int}(n:l6 ρ[i]?=aa (l.map D.int))(m:c (bA ρ)=aa (.int k))(j:a (bA ρ)=aa (.int d))(k0:0<=k)(k1:k<=(l.length:Int))(h:l.length<1000):
  sX (KI i c a) ρ=.nx (ρ.set i (.ow (aE (l.take k.toNat++d::l.drop k.toNat)))):=by
 unfold sX KI;rw[n,di,m,di,show asInt (.int k)=aa k from rfl,di,j,di,Z_ ⟨rfl,k0,by rw[bo];show k1,by rw[bo];show gi h (by decide)⟩];show Out.nx (ρ.set i _)=Out.nx (ρ.set i _);unfold aE;rw[jd,cf,a0L,a0N]
def HE{n:Nat}{l:Q0e}(h:l.length<=1000):B7 (n+2) (τ l):=⟨by rw[bo];lia,λd a=>by obtain⟨i,_,rfl⟩:=gd.1 a;show trivial⟩
def E6(c:Ord.Rows x)(l:x.length<=9):LL.bQ 6 [.tup ((t7 x).map τ),.tup ((t7 x).map τ)]=.ok (.bl ae):=same_refl 6 _ ⟨by rw[bo,E4];have:=CJ l;lia,λd m=>by obtain⟨a,n,rfl⟩:=gd.1 m;have:=(LI c).1 (RA n);have:=xK (x:=x) (a:=a) ⟨this.1.imp λ{a b} h=>by lia,λs j=>(this.2 s j).1⟩;show HE ∅⟩
def E7(b:Bool):LL.bQ 6 [.tup [.str "told",.bl b],.tup [.str "told",.bl b]]=.ok (.bl ae):=same_refl 6 _ ⟨yr rfl,λd a=>by
 rcases bx.1 a with rfl|a
 .exact trivial
 .rcases bx.1 a with rfl|a
  .exact trivial
  .cases a⟩
def RH:LL.bQ 6 [HC,HC]=.ok (.bl ae):=same_refl 6 _ ⟨yr rfl,λd a=>by
 rcases bx.1 a with rfl|a
 .exact trivial
 .rcases bx.1 a with rfl|a
  .refine ⟨yr rfl,λe c=>?_⟩;have:∃b,e=.bl b:=by simp only[bx,vb,or_false] at c;rcases c with rfl|rfl|rfl|rfl|rfl|rfl|rfl|rfl|rfl|rfl|rfl|rfl|rfl|rfl<;>show⟨_,rfl⟩
   obtain⟨b,rfl⟩:=this;show trivial
  .cases a⟩
def zW(c s:Int){ns:Q0e}{k m:Int}{ρ:bK}(e0:aT 0 ρ=aa (.kR ns))(n:c6 [.kR ns,.int k]=.ok (.int c))(d:0<m):∃v,aB dB (aB dI (aN LL.c7 (aA (aN LL.c6 (aA cV (aA (eI k) aJ))) (aA (eI 1) (aA (eI s) aJ)))) (eI 0)) (eI m) ρ=aa (.int v):=by
 obtain⟨l,h,_,j⟩:=jK c 1 s (by decide) (by decide);obtain⟨a,rfl⟩:∃a,l=[a]:=by
  match l,h with
  |[a],_=>show⟨a,rfl⟩
 show⟨a%m,aY (x:=.int a) (y:=.int m) (aY (x:=aE [a]) (y:=.int 0) (jJ (x:=.int c) (y:=.int 1) (z:=.int s) (cR (x:=.kR ns) (y:=.int k) e0 rfl n) rfl rfl j) rfl (mI (k:=0) rfl)) rfl (bC d)⟩
abbrev S9(ns:Q0e)(n m l j h d c a:Sv):aW:=[.ro (.kR ns),n,m,l,j,h,d,c,a]
def LM(ns:Q0e)(hns:ns.length<=63):uZ [.kR ns]=.ok (.bl ae):=by
 obtain⟨c2,ec2⟩:=iO ns 2;obtain⟨c3,ec3⟩:=iO ns 3;obtain⟨c4,Z⟩:=iO ns 4;obtain⟨c5,Y⟩:=iO ns 5;obtain⟨c,K,hd0,X⟩:=jK c2 24 200017 (by decide) (by decide);have K:c.length=24:=K;unfold uZ;show U9 rfl ?_;show bE (S9 ns (.ro (.int 7)) .no .no .no .no .no .no .no) rfl ?_;show jI (λρ=>∃m:Int,0<=m/\m<=9/\ρ=S9 ns (.ro (.int m)) .no .no .no .no .no .no .no) ?_ ?_
 .obtain ⟨v,ev⟩:=zW c3 300007 (ns:=ns) (k:=3) (m:=8) (ρ:=bA (S9 ns (.ro (.int 7)) .no .no .no .no .no .no .no)) rfl ec3 (by decide);show rT (Zv (v=3)) (tY (d:=.bl (Zv (v=3))) (aY (x:=.int v) (y:=.int 3) ev rfl rfl) rfl) (λ_=>B6 (.int 9) rfl ⟨9,by decide,by decide,rfl⟩) λ_=>lG ⟨7,by decide,by decide,rfl⟩
 rintro _ ⟨q,U,O,rfl⟩;obtain⟨_,ed,x,hxl,I,rfl⟩:=K2 ns 0 q 100003 U O;have J:x.length<=9:=by lia
 let dd:Sv:=.ro (.tup ((t7 x).map τ))
 show bE (S9 ns (.ro (.int q)) (.ro (aM x)) .no .no .no .no .no .no) (gT (aM x) (W2 rfl rfl rfl rfl ed) rfl) ?_;show bE (S9 ns (.ro (.int q)) (.ro (aM x)) dd .no .no .no .no .no) (gT (.tup ((t7 x).map τ)) (eL (x:=.lst ((t7 x).map τ)) (lH (x:=aM x) rfl (LJ I J)) eV) rfl) ?_;show bE _ (qK (tnE (b:=ae) (tY (d:=.bl ae) (cR (x:=.tup ((t7 x).map τ)) (y:=.tup ((t7 x).map τ)) (lH (x:=aM x) rfl (pH I J)) rfl (E6 I J)) rfl) rfl) rfl) ?_;show bE (S9 ns (.ro (.int q)) (.ro (aM x)) dd (.ro (aE c)) .no .no .no .no) (gT (aE c) (jJ (x:=.int c2) (y:=.int 24) (z:=.int 200017) (cR rfl rfl ec2) rfl rfl X) rfl) ?_;show bE (S9 ns (.ro (.int q)) (.ro (aM x)) dd (.ro (aE c)) (.ro (aE [])) .no .no .no) rfl ?_;have at_:∀{ρ:bK} (j:Int),aT 4 ρ=aa (aE c)->0<=j->j<24->aB dI nN (eI j) ρ=aa (.int (η c j)):=λ{ρ} j e j0 j1=>aY (x:=aE c) (y:=.int j) e rfl (K6 j0 ∅);have hlen:∀{ρ:bK},aT 2 ρ=aa (aM x)->cL b7 (bS 2) ρ=aa (.int x.length):=λ{ρ} e=>eL (x:=aM x) e iP;show jI (λρ=>∃a:Q0e,a.length<=299/\In x a/\ρ=S9 ns (.ro (.int q)) (.ro (aM x)) dd (.ro (aE c)) (.ro (aE a)) .no .no .no) ?_ ?_
 .refine rT (Zv ((0:Int)<x.length)) (tY (aY (x:=.int x.length) (y:=.int 0) (hlen rfl) rfl fQ) rfl) (λhp=>?_) λ_=>lG ⟨[],by simp,(λt h=>by cases h),rfl⟩;have hp:=of_decide_eq_true hp
  let b:Int:=4+η c 0%21
  have b0:=iz (η c 0) (show(21:Int)≠0 by decide);have b1:=jn (η c 0) (show(0:Int)<21 by decide)
  let cut:List Int:=(c.take b.toNat).drop 4
  let a:List Int:=cut.map λd:Int=>d%(x.length:Int)
  have F:a.length<=299:=by show(cut.map _).length<=299;rw[bo];show((c.take b.toNat).drop 4).length<=299;rw[km,ij];lia
  have u:In x a:=λt ht=>by obtain⟨d,_,rfl⟩:=gd.1 ht;show⟨iz d ∅,jn d ∅⟩
  show xG (S9 ns (.ro (.int q)) (.ro (aM x)) dd (.ro (aE c)) (.ro (aE a)) .no .no .no) (gT (aE a) (fI (cut.map D.int) ?_ (by rw[bo];rw[bo] at F;lia) ?_) rfl) ?_
  .have eb:aB cP (eI 4) (aB dB (aB dI nN (eI 0)) (eI 21)) (fG (S9 ns (.ro (.int q)) (.ro (aM x)) dd (.ro (aE c)) (.ro (aE [])) .no .no .no))=aa (.int ((b.toNat:Nat):Int)):=by rw[Eo (show 0<=b by show 0<=4+η c 0%21;lia)];show aY (x:=.int 4) (y:=.int (η c 0%21)) rfl (aY (x:=.int (η c 0)) (y:=.int 21) (at_ 0 rfl (by decide) (by decide)) rfl (bC (by decide))) rfl
   have bb:b=4+η c 0%21:=rfl;unfold bI;rw[XN (l:=c) (n:=b.toNat) rfl rfl eb ∅ ∅];rfl
  .show fP _ _ _ _ _=aa ((cut.map λd:Int=>d%(x.length:Int)).map D.int);rw[f_];show dE D.int _ cut λd _=>⟨[aa (.int d),aa (aM x)],rfl,aY (x:=.int d) (y:=.int x.length) rfl (eL (x:=aM x) rfl iP) (bC ∅)⟩
  .obtain ⟨v,ev⟩:=zW c4 400009 (ns:=ns) (k:=4) (m:=4) (ρ:=bA (S9 ns (.ro (.int q)) (.ro (aM x)) dd (.ro (aE c)) (.ro (aE a)) .no .no .no)) rfl Z (by decide);obtain⟨l,l1,l2,el⟩:=HD I J ∅ ns;show rT (Zv (v=1)) (tY (d:=.bl (Zv (v=1))) (aY (x:=.int v) (y:=.int 1) ev rfl rfl) rfl) (λ_=>B6 (aE l) (cR (x:=.kR ns) (y:=aM x) rfl rfl el) ⟨l,l1,l2,rfl⟩) λ_=>lG ⟨a,F,u,rfl⟩
 rintro _ ⟨a,F,u,rfl⟩
 let A:D:=.tup [.str "told",.bl (VF x a)]
 have et:=RD (RB I J u ∅);show bE (S9 ns (.ro (.int q)) (.ro (aM x)) dd (.ro (aE c)) (.ro (aE a)) (.ro A) .no .no) (gT A ?_ rfl) ?_
 .unfold gS;rw[args2 (x:=.str "told") (y:=.bl (VF x a)) rfl (cR (x:=aM x) (y:=aE a) rfl rfl (HB u))];rfl
 have tup:∀{ρ:bK} {i:Nat} {l:Q0e},aT i ρ=aa (aE l)->cL cQ (bS i) ρ=aa (τ l):=λ{ρ i l} e=>eL (x:=aE l) e rfl;show bE _ (qK (tnE (b:=ae) (tY (d:=.bl ae) (cR (x:=A) (y:=A) (cR (x:=aM x) (y:=τ a) rfl (tup rfl) et) rfl (E7 _)) rfl) rfl) rfl) ?_;show bE (S9 ns (.ro (.int q)) (.ro (aM x)) dd (.ro (aE c)) (.ro (aE a)) (.ro A) (.ow (aE a)) .no) (Of (eL (x:=aE a) rfl listE)) ?_;obtain⟨o,f0,f1,ef⟩:=K5 c5 500009 (most:=(10^60)^10-9) (by decide);show bE (S9 ns (.ro (.int q)) (.ro (aM x)) dd (.ro (aE c)) (.ro (aE a)) (.ro A) (.ow (aE a)) (.ro (.int o))) (gT (.int o) (jJ (x:=.int c5) (y:=.int ((10^60)^10-9)) (z:=.int 500009) (cR rfl rfl Y) ?_ rfl ef) rfl) ?_
 .refine aY (x:=.int ((10^60)^10)) (y:=.int 9) ?_ rfl rfl;show RG _
 let bd:Int:=η c 1%((a.length:Int)+1)
 have bd0:0<=bd:=iz (η c 1) ∅;have bd1:bd<(a.length:Int)+1:=jn (η c 1) ∅;obtain⟨v,L,ev,_⟩:=rS (xs:=[-1,(x.length:Int),(x.length:Int)+o,-1-o]) (i:=η c 2%4) (iz _ (by decide)) (by have:=jn (η c 2) (show(0:Int)<4 by decide);simpa using this);have vo:¬ (0<=v/\v<(x.length:Int)):=by have L:v∈[-1,(x.length:Int),(x.length:Int)+o,-1-o]:=L;simp only[bx,vb,or_false] at L;rcases L with rfl|rfl|rfl|rfl<;>lia
 let bad:List Int:=a.take bd.toNat++v::a.drop bd.toNat
 show bE (S9 ns (.ro (.int q)) (.ro (aM x)) dd (.ro (aE c)) (.ro (aE a)) (.ro A) (.ow (aE bad)) (.ro (.int o))) (Ob (i:=7) (l:=a) (k:=bd) (d:=v) rfl ?_ ?_ bd0 ∅ ∅) ?_
 .exact aY (x:=.int (η c 1)) (y:=.int ((a.length:Int)+1)) (at_ 1 rfl (by decide) (by decide)) (aY (x:=.int a.length) (y:=.int 1) (eL (x:=aE a) rfl (by unfold aE;rw[jH,bo])) rfl rfl) (bC ∅)
 .refine aY (x:=aE [-1,(x.length:Int),(x.length:Int)+o,-1-o]) (y:=.int (η c 2%4)) ?_ (aY (x:=.int (η c 2)) (y:=.int 4) (at_ 2 rfl (by decide) (by decide)) rfl (bC (by decide))) (by unfold aE;rw[kF,mH,ev];rfl);have e4:∀{ρ:bK},aT 2 ρ=aa (aM x)->aT 8 ρ=aa (.int o)->aA (zA (eI 1)) (aA (cL b7 (bS 2)) (aA (aB cP (cL b7 (bS 2)) qj) (aA (aB GU (zA (eI 1)) qj) aJ))) ρ=aa [.int (-1),.int (x.length:Int),.int ((x.length:Int)+o),.int (-1-o)]:=λ{ρ} h2 h8=>E5 rfl (E5 (hlen h2) (E5 (aY (x:=.int x.length) (y:=.int o) (hlen h2) h8 rfl) (E5 (aY (x:=.int (-1)) (y:=.int o) rfl h8 rfl) rfl)));unfold dC;rw[e4 rfl rfl];rfl
 have nb:¬ In x bad:=λh=>vo (h v (gm _ de));have bl:bad.length<=1000:=by show(a.take bd.toNat++v::a.drop bd.toNat).length<=1000;rw[dm,fj,ij,km];lia
 show bE _ (qK (tnE (b:=ae) (tY (d:=.bl ae) (cR (x:=HC) (y:=HC) (cR (x:=aM x) (y:=τ bad) rfl (tup rfl) (RE (RC bl nb))) (lH (x:=.int 1) rfl CK) RH) rfl) rfl) rfl) ?_;show rV (.bl ae) (XG (p:=ae) (cR (x:=A) (y:=A) (cR (x:=aM x) (y:=τ a) rfl (tup rfl) et) rfl (E7 _)) (λ_=>cR (x:=.tup ((t7 x).map τ)) (y:=.tup ((t7 x).map τ)) (lH (x:=aM x) rfl (pH I J)) rfl (E6 I J)) λh=>by cases h) rfl
end
end K27
section
-- CHANGE: your row's module here,as the last of these rows
namespace L2
open PySem.Spec PyProof.Rows
abbrev Key:=Sum Int aj
noncomputable def u4:Key->ai->Bool
 |.inl k,v=>Xw k v
 |.inr x,v=>Xv x v
noncomputable def Oa(w:a_):Key->Int
 |.inl k=>hashInt k
 |.inr x=>hashStr w x
theorem bO:∀{k:Key} {v:ai},u4 k v=ae->(∃i t,k=dj i/\v=kr i t)\/(∃x t,k=jv x/\v=xm x t)
 |.inl i,v,h=>by obtain⟨t,e⟩:=Value.isInt_shape (k:=i) (v:=v) h;show .inl ⟨i,t,rfl,e⟩
 |.inr x,v,h=>by obtain⟨t,e⟩:=Value.isStrOf_shape (x:=x) (v:=v) h;show .inr ⟨x,t,rfl,e⟩
def HF(i:Int)(t:ir):u4 (.inl i) (.int i t)=ae:=by simp[u4,Xw]
def HG(x:aj)(t:ir):u4 (.inr x) (.str x t)=ae:=by simp[u4,Xv]
def XQ(a b:Int):Zv ((dj a:Key)=dj b)=(a == b):=by
 by_cases e:a=b
 .subst e;simp
 .have h:¬ (dj a:Key)=dj b:=λq=>e (wu q);rw[Zy h];show(beq_eq_false_iff_ne.mpr e).symm
def XR(a b:aj):Zv ((jv a:Key)=jv b)=Zv (a=b):=by
 by_cases e:a=b
 .subst e;simp
 .have h:¬ (jv a:Key)=jv b:=λq=>e (Bd q);rw[Zy h,Zy e]
def XS(a:Int)(b:aj):Zv ((dj a:Key)=jv b)=ag:=Zy (λq=>nomatch q)
def XT(a:aj)(b:Int):Zv ((jv a:Key)=dj b)=ag:=Zy (λq=>nomatch q)
def aR(Ω:bg)(w:a_):PySem.KeyKind Ω w Key where
 is:=u4
 hash:=Oa w
 inj:=λv a b m d=>by
  rcases bO m with⟨i,t,rfl,rfl⟩|⟨x,t,rfl,rfl⟩
  .rcases bO d with⟨j,u,rfl,e⟩|⟨y,u,rfl,e⟩
   .injection e with e1 _;rw[e1]
   .exact nomatch e
  .rcases bO d with⟨j,u,rfl,e⟩|⟨y,u,rfl,e⟩
   .exact nomatch e
   .injection e with e1 _;rw[e1]
 byValue:=λk v h=>by rcases bO h with⟨i,t,rfl,rfl⟩|⟨x,t,rfl,rfl⟩<;>rfl
 pyHash:=λc h=>by
  rcases bO c with⟨i,t,rfl,rfl⟩|⟨x,t,rfl,rfl⟩
  .exact wpAny_pyHash_int h
  .exact wpAny_pyHash_str h
 eqBool:=λl c h=>by
  rcases bO l with⟨i,t,rfl,rfl⟩|⟨x,t,rfl,rfl⟩
  .rcases bO c with⟨j,u,rfl,rfl⟩|⟨y,u,rfl,rfl⟩
   .rw [XQ] at h;show Wj h
   .rw [XS] at h;show X_ i t y u _ _ _ _ h
  .rcases bO c with⟨j,u,rfl,rfl⟩|⟨y,u,rfl,rfl⟩
   .rw [XT] at h;show Xz x t j u _ _ _ _ h
   .rw [XR] at h;show wpAny_eqBool_str h
 «strs»:=λk x t v h=>by
  rcases bO h with⟨i,u,rfl,e⟩|⟨y,u,rfl,e⟩
  .exact nomatch e
  .injection e with e1 _;subst e1;cases v<;>rfl
def zX(Ω:bg)(w:a_)(i:Int)(t:ir):(aR Ω w).is (.inl i) (.int i t)=ae:=HF i t
def zY(Ω:bg)(w:a_)(x:aj)(t:ir):(aR Ω w).is (.inr x) (.str x t)=ae:=HG x t
abbrev N1:=List (Sum Key (List Key))
abbrev KX:=Sum Key N1
section
variable{Ω:bg}{w:a_}{K:Type}[dK:DecidableEq K](knd:KeyKind Ω w K)
noncomputable def lN(h:ba):Sum K (List K)->ai->Prop
 |.inl k,v=>knd.is k v=ae
 |.inr ks,v=>∃b,v=.ref b/\IsTupleKey knd h ks b
inductive eM (h:ba):List (Sum K (List K))->List ai->Prop
 |nil:eM h [] []
 |cons {k:Sum K (List K)} {v:ai} {ks:List (Sum K (List K))} {vs:Q0f}:lN knd h k v->eM h ks vs->eM h (k::ks) (v::vs)
def eW(h:ba)(ks:List (Sum K (List K)))(a:ah):Prop:=∃o items n,h.get? a=aa o/\o.cls=.type "tuple" /\o.data=.seq items n/\eM knd h ks items.toList
variable{knd}
theorem lN.inj{h:ba}{v:ai}:∀{x y:Sum K (List K)},lN knd h x v->lN knd h y v->x=y
 |.inl a,.inl b,hx,hy=>by rw[knd.inj _ _ _ hx hy]
 |.inl a,.inr b,hx,⟨q,e,_⟩=>by subst e;show Zw (knd.byValue _ _ hx) (by simp[carriedByValue])
 |.inr a,.inl b,⟨q,e,_⟩,hy=>by subst e;show Zw (knd.byValue _ _ hy) (by simp[carriedByValue])
 |.inr a,.inr b,⟨q,e,hx⟩,⟨r,f,hy⟩=>by subst e;injection f with f;subst f;rw[hx.inj hy]
theorem eM.inj{h:ba}{x:List (Sum K (List K))}{vs:Q0f}(c:eM knd h x vs):∀{y},eM knd h y vs->x=y:=by
 induction c with
 |nil=>intro y a;cases a;rfl
 |cons h1 _ ih =>
  intro y a
  cases a with
  |cons h2 t2=>rw[h1.inj h2,ih t2]
def eW.typeIs{s:ak}{ks:List (Sum K (List K))}{a:ah}(x:eW knd s.heap ks a):s.TypeIs (.ref a) "tuple":=let ⟨o,_,_,ho,hc,_⟩:=x;⟨o,ho,hc⟩
def eW.inj{h:ba}{a:ah}{x y:List (Sum K (List K))}(m:eW knd h x a)(l:eW knd h y a):x=y:=by obtain⟨o,u,n,ho,_,q,p⟩:=m;obtain⟨v,its',z,c,_,d,j⟩:=l;rw[ho] at c;cases c;rw[q] at d;cases d;show p.inj j
theorem eW.keeps{es ep}(x:eW knd h ks a)(ho:h.get? d=aa o)(j:o.data=.dict es ep)(l:mf d h h'):eW knd h' ks a:=by
 obtain⟨q,items,n,m,u,p,c⟩:=x;have ne:a≠d:=λz=>by subst z;rw[m] at ho;cases ho;rw[p] at j;cases j
 show⟨q,items,n,(l.2 a ne).trans m,u,p,?_⟩;have go:∀{ks:List (Sum K (List K))} {vs:Q0f},eM knd h ks vs->eM knd h' ks vs:=by
  intro ks vs t
  induction t with
  |nil=>show .nil
  | @cons k v ks vs h1 _ ih =>
   show .cons ?_ ih
   cases k with
   |inl k=>show h1
   |inr k=>obtain⟨b,e,y⟩:=h1;show⟨b,e,y.keeps ho j l⟩
 show go c
noncomputable def mS(knd:KeyKind Ω w K):Sum K (List K)->Int
 |.inl k=>knd.hash k
 |.inr ks=>tupleKeyHash knd ks
noncomputable def iC:Sum K (List K)->Nat
 |.inl _=>1
 |.inr ks=>ks.length+1
def rY(knd:KeyKind Ω w K)(ks:List (Sum K (List K))):Int:=reduceHash (Zb (ks.map (mS knd)))
def kM(ks:List (Sum K (List K))):Nat:=(ks.map iC).sum+1
variable{s:ak}{A:br}{E:Q0c}
theorem HH(c:A.units<c_)(a:lN knd s.heap k v)(h:Q (mS knd k) {s with toks:=s.toks+iC k}):ax (au Ω w) A (pyHash v) Q E s:=by
 cases k with
 |inl k=>show knd.pyHash a h
 |inr k =>
  obtain⟨b,e,d⟩:=a;subst e;show wpAny_pyHash_tuple c d h
def rZ(x:IsTupleKey knd h ks b):∃items,h.IsTuple b items:=by obtain⟨o,items,n,ho,c,a,_⟩:=x;show⟨items,o,ho,c,n,a⟩
end
section
variable{P:bg}{w:a_}{A:br}{E:Q0c}{s:ak}
theorem RI(d:A.units<c_)(m:lN (aR P w) s.heap x u)(l:lN (aR P w) s.heap y v)(h:Q (Zv (x=y)) s):ax (au P w) A (eqBool u v) Q E s:=by
 cases x with
 |inl x =>
  cases y with
  |inl y =>
   show(aR P w).eqBool m l ?_;rw[show Zv (x=y)=Zv ((dj x:Sum Key (List Key))=dj y) by simp];show h
  |inr y =>
   obtain⟨b,e,c⟩:=l;subst e;obtain⟨n,c⟩:=rZ c;rw[show Zv ((dj x:Sum Key (List Key))=jv y)=ag by simp] at h;rcases bO m with⟨i,t,rfl,rfl⟩|⟨i,t,rfl,rfl⟩
   .exact a1u i t c d P w E Q h
   .exact a1n i t c d P w E Q h
 |inr x =>
  obtain⟨a,e,j⟩:=m;subst e
  cases y with
  |inl y =>
   obtain⟨n,j⟩:=rZ j;rw[show Zv ((jv x:Sum Key (List Key))=dj y)=ag by simp] at h;rcases bO l with⟨i,t,rfl,rfl⟩|⟨i,t,rfl,rfl⟩
   .exact a1m i t j d P w E Q h
   .exact a1l i t j d P w E Q h
  |inr y =>
   obtain⟨b,e,c⟩:=l;subst e;show wpAny_eqBool_tuple d j c ?_;rw[show Zv (x=y)=Zv ((jv x:Sum Key (List Key))=jv y) by simp];show h
theorem u5:∀(a:Q0f) (left:List (Sum Key (List Key))) (b:Array Int) (s:ak) (R:Array Int->ak->Prop),A.units<c_->eM (aR P w) s.heap left a ->
  (∀c:Array Int,c.toList=b.toList++left.map (mS (aR P w))->R c {s with toks:=s.toks+(left.map iC).sum}) ->
  ax (au P w) A (forIn a b λx r=>do
   let r' <- pyHash x
   pure (mw (r.push r'))) R E s
 |[],left,b,s,R,hu,t,k=>by cases t;show az (k b (by simp))
 |v::a,left,b,s,R,hu,t,k=>by
  cases t with
  | @cons kk _ ks _ h1 h2 =>
   rw[r_];show aq (aq (HH hu h1 (az ?_)));show u5 a ks _ _ _ hu h2 λc e=>?_;have:=k c (by rw[e];simp);simpa[Dp] using this
def HI{ks:List (Sum Key (List Key))}{a:ah}{Q:Int->ak->Prop}(p:A.units+1<c_)(l:eW (aR P w) s.heap ks a)(h:Q (rY (aR P w) ks) {s with toks:=s.toks+kM ks}):ax (au P w) A (pyHash (.ref a)) Q E s:=by
 have d:=l.typeIs;obtain⟨o,m,n,ho,_,u,q⟩:=l;have c:=F.slot_tuple_hash;unfold pyHash pyHashByItsType
 wp_walk using wpAny_cRoomFor_or (.inr ∅),Bg d c.lookup,(wpAny_callSpecialIfBoundUnlessNone?_slot d c (jw c d F.entry_tuple_hash ?_ (F.args_tuple_hash_1 _)))
 rw[u];show az (az (aq ?_));rw[<- a1e];show u5 m.toList ks #[] s _ p q λb v=>?_;dsimp only;rw[v,pf];unfold rY reduceHash at h;show wpAny_ret_mkInt ?_;have x:s.toks+(ks.map iC).sum+1=s.toks+kM ks:=by unfold kM;lia
 show ax (au P w) A (pyHashByItsType.reduced _) Q E {s with toks:=s.toks+(ks.map iC).sum+1};rw[x];unfold pyHashByItsType.reduced;generalize Zb (ks.map (mS (aR P w)))=z at h ⊢;by_cases j:(Zv (-(2^63:Int)<=z)&&Zv (z<2^63))=ae
 .rw [Z_ j] at h ⊢;show az h
 .rw [Zz j] at h ⊢;show aq (i_ ?_);show az h
theorem eq_loop:∀(x y:List (Sum Key (List Key))) (xs ys:Q0f) (R:Option Fin×Unit->ak->Prop),A.units<c_->eM (aR P w) s.heap x xs->eM (aR P w) s.heap y ys ->
  (x≠y->R (aa (.done (.ret (.bool ag))),()) s)->((x=y↔xs.length=ys.length)->R (af,()) s) ->
  ax (au P w) A (forIn (xs.zip ys) ((af,()):Option Fin×Unit) λp _=>do
   let c <- eqBool p.1 p.2
   if(!c)=ae then do
    let q <- ret (ue ag)
    pure (a03 (aa q,()))
   else pure (mw (af,()))) R E s
 |[],y,xs,ys,R,hu,hx,hy,k1,k2=>by cases hx;show az (k2 ?_);cases hy<;>simp
 |kx::x,[],xs,ys,R,hu,hx,hy,k1,k2=>by cases hx;cases hy;show az (k2 (by simp))
 |kx::x,ky::y,xs,ys,R,hu,hx,hy,k1,k2=>by
  cases hx with
  | @cons _ u _ xs hx1 hx2 =>
   cases hy with
   | @cons _ v _ ys hy1 hy2 =>
    rw[Dq,r_];show aq (aq (RI hu hx1 hy1 ?_));by_cases a:kx=ky
    .subst a;rw[Zx rfl,Zz (by decide)];show az (eq_loop x y xs ys R hu hx2 hy2 (λn=>k1 (by simpa using n)) λe=>k2 ?_);simpa using e
    .rw [Zy a,Z_ (by decide)];show aq (az (az (az (k1 (by simp[a])))))
def RJ{x y:List (Sum Key (List Key))}{a b:ah}{Q:Bool->ak->Prop}(L:A.units+1<c_)(j:eW (aR P w) s.heap x a)(d:eW (aR P w) s.heap y b)(h:Q (Zv (x=y)) s):ax (au P w) A (eqBool (.ref a) (.ref b)) Q E s:=by
 have J:=j.typeIs;have ty:=d.typeIs;have K:=Yg;by_cases c:a=b
 .subst c;rw[j.inj d,Zx rfl] at h;show xo _ P w E Q h
 .obtain ⟨X,xs,Z,o,_,I,u⟩:=j;obtain⟨U,ys,Y,m,_,v,p⟩:=d;unfold eqBool;rw[Zz (by simpa using c)];have l:A.units<c_:=by lia
  apply iq;apply aq;show(wpAny_richCompare_same_room (op:=.Eq) J ty K (jw K J F.entry_tuple_eq ?_ (F.args_tuple_eq_2 _ _)) l);unfold Builtin.«tuple.__eq__»
  wp_walk using Bl ty Wx,Vt o I,Vt m v
  show eq_loop x y xs.toList ys.toList _ L u p (λn=>?_) λe=>?_
  .rw [Zy n] at h;show az ⟨_,rfl,(λz=>nomatch z),ko h⟩
  .refine az ⟨_,rfl,(λz=>nomatch z),?_⟩;have O:(xs.size == ys.size)=Zv (x=y):=by
    by_cases q:x=y
    .rw [Zx q];simpa using e.1 q
    .rw [Zy q];simpa using λz=>q (e.2 z)
   show ax (au P w) A (truthOfDropped (.bool (xs.size == ys.size))) Q E s;rw[O];show ko h
theorem sA:∀(vs:Q0f) (R:Option Bool×Unit->ak->Prop),(∀v∈vs,∀Q:Bool->ak->Prop,Q ae s->ax (au P w) A (eqIsQuiet d v) Q E s)->R (af,()) s ->
  ax (au P w) A (forIn vs ((af,()):Option Bool×Unit) λy _=>do
   let c <- eqIsQuiet d y
   if(!c)=ae then pure (a03 (aa ag,()))
   else pure (mw (af,()))) R E s
 |[],R,hq,k=>az k
 |v::vs,R,hq,k=>by rw[r_];show aq (aq (hq v de _ ?_));rw[Zz (by decide)];show az (sA vs R (λu a=>hq u (gf _ a)) k)
theorem u6(c:s.TypeIs (dq a) "tuple")(ho:s.heap.get? a=aa o)(m:o.data=.seq xs n)(l:∀v∈xs.toList,∀Q:Bool->ak->Prop,Q ae s->ax (au P w) A (eqIsQuiet d v) Q E s)(h:Q ae s):
  ax (au P w) A (eqIsQuiet (d+1) (.ref a)) Q E s:=by
 have j:=Yg;unfold eqIsQuiet;show aq (Bg c j.lookup ?_);show ax (au P w) A (isInstance (.ref a) (.type "tuple") >>= _) _ _ s;show aq (Bl c Wx ?_);rw[Zz (by decide)];dsimp only;show aq (Bh ho m (aq ?_));show ax _ _ (forIn xs _ _) _ _ s;rw[<- a1e];show sA xs.toList _ l (az h)
def CL{x:List (Sum Key (List Key))}{a:ah}{Q:Bool->ak->Prop}(q:eW (aR P w) s.heap x a)(h:Q ae s):ax (au P w) A (eqIsQuiet 8 (.ref a)) Q E s:=by
 have I:=q.typeIs;obtain⟨o,xs,n,ho,_,U,O⟩:=q;show u6 (d:=7) I ho U ?_ h;have go:∀{ks:List (Sum Key (List Key))} {vs:Q0f},eM (aR P w) s.heap ks vs ->∀v∈vs,∀Q:Bool->ak->Prop,Q ae s->ax (au P w) A (eqIsQuiet 7 v) Q E s:=by
  intro ks vs t
  induction t with
  |nil=>intro v L;cases L
  | @cons k v ks vs h1 _ ih =>
   intro u j Q k0;rcases bx.1 j with e|j
   .subst e
    cases k with
    |inl k =>
     rw[Wz _ ((aR P w).byValue _ _ h1)];show az k0
    |inr k =>
     obtain⟨b,e,y⟩:=h1;subst e;have J:=y.typeIs;obtain⟨X,z,Y,l,_,p,m⟩:=y;show u6 (d:=6) J l p (λF c Q' K=>?_) k0;rw[Wz _ (m.byValue F c)];show az K
   .exact ih u j Q k0
 show go O
def gD(P:bg)(w:a_):HeapKind P w (List (Sum Key (List Key))) where
 is:=eW (aR P w)
 hash:=rY (aR P w)
 draws:=kM
 room:=λA=>A.units+1<c_
 inj:=λc a=>c.inj a
 keeps:=λx ho m l=>x.keeps ho m l
 pyHash:=λd j h=>HI d j h
 eqBool:=λd c a h=>RJ d c a h
 quiet:=λj h=>CL j h
def nest_room(a:A.units+2<c_):(gD P w).room A.in1:=a
end
inductive V where
 |non|bl (b:Bool)|int (i:Int)|str (x:aj)|HJ (b:Array UInt8)|flt (b:UInt64)|ref (a:ah)|ty (n:String)
 deriving DecidableEq
noncomputable def Ψ:V->ai->Prop
 |.non,u=>u=gq
 |.bl b,u=>u=ue b
 |.int i,u=>∃t,u=kr i t
 |.str x,u=>∃t,u=xm x t
 |.HJ b,u=>∃t,u=Value.bytes b t
 |.flt b,u=>∃t,u=Xx b t
 |.ref a,u=>u=dq a
 |.ty n,u=>u=g_ n
abbrev θ:List V->List ai->Prop:=iu Ψ
def θ.length{xs:List V}{us:Q0f}(r:θ xs us):xs.length=us.length:=qw r
theorem θ.get:∀{xs:List V} {us:Q0f} {i:Nat} {x:V},θ xs us->xs[i]?=aa x ->∃u,us[i]?=aa u/\Ψ x u
 |_,_,_,_,.nil,e=>by simp at e
 |_,_,0,_,.cons r _,e=>by simp at e;subst e;show⟨_,rfl,r⟩
 |_,_,i+1,x,.cons _ t,e=>by obtain⟨u,a,h2⟩:=θ.get (i:=i) (x:=x) t (by simpa using e);show⟨u,by simpa using a,h2⟩
theorem θ.append:∀{xs ys:List V} {us a:Q0f},θ xs us->θ ys a->θ (xs++ys) (us++a)
 |_,_,_,_,.nil,s=>s
 |_,_,_,_,.cons r t,s=>.cons r (θ.append t s)
theorem θ.take:∀{xs:List V} {us:Q0f} (n:Nat),θ xs us->θ (xs.take n) (us.take n)
 |_,_,0,_=>.nil
 |_,_,_+1,.nil=>.nil
 |_,_,n+1,.cons r t=>.cons r (θ.take n t)
theorem θ.drop:∀{xs:List V} {us:Q0f} (n:Nat),θ xs us->θ (xs.drop n) (us.drop n)
 |_,_,0,r=>r
 |_,_,_+1,.nil=>.nil
 |_,_,n+1,.cons _ t=>θ.drop n t
def jO:Option V->Option ai->Prop
 |some v,aa u=>Ψ v u
 |none,af=>True
 |_,_=>False
def KV{a:Type}:List (a×V)->List (a×ai)->Prop:=iu λ(p:a×V) (q:a×ai)=>p.1=q.1/\Ψ p.2 q.2
noncomputable def kV:Key->V
 |.inl i=>.int i
 |.inr x=>.str x
inductive HO where
 |lst (xs:List V)
 |tup (xs:List V)
 |dK (χ:List (Key×V))|dT (χ:List (List Key×V))
 |dX (o:ay) (χ:List (KX×V×V))
 |set (S:Int->Bool) (n:Nat)
 |ins (C dx:ah) (fs:List (aj×V))
 |own (x:ah)
 |xd (fs:List (aj×V))
 |met (f x:ah)
 |rng (lo hi:Int)
 |pZ (o:ay) (u:HO)
 |E8 (q:aj)
 |ext (φ:ba->Prop)
abbrev Hp:=ah->Option HO
def upd(H:Hp)(a:ah)(o:HO):Hp:=λb=>if b=a then aa o else H b
def aI{H:Hp}{a:ah}{o:HO}:upd H a o a=aa o:=by unfold upd;rw[Z_ rfl]
def aL{H:Hp}{a b:ah}{o:HO}(h:b≠a):upd H a o b=H b:=by unfold upd;rw[Zz h]
def VG{H:Hp}{a b:ah}{o u:HO}(h:H a=aa o)(h':H b=aa u)(d:o≠u):a≠b:=by intro e;subst e;rw[h] at h';show d (ee h')
theorem aP{H:Hp}{a b:ah}{o:HO}(h:H a=aa o)(h':H b=af):a≠b:=by intro e;subst e;rw[h] at h';cases h'
def sC(H:Hp):Sum Key (List Key)->V->Prop
 |.inl k,v=>v=kV k
 |.inr ks,v=>∃b,v=.ref b/\H b=aa (.tup (ks.map kV))
def jP(H:Hp)(ks:N1)(a:ah):Prop:=∃vs,H a=aa (.tup vs)/\iu (sC H) ks vs
def t8(P:bg)(w:a_)(H:Hp)(o:ay)(χ:List (KX×V×V)):Prop:=o.ExactDict /\∃a c,o.data=.dict a c /\
 ((∃vs:List (Key×ai),iu (λ(p:KX×V×V) (q:Key×ai)=>p.1=.inl q.1/\p.2.1=kV q.1/\Ψ p.2.2 q.2) χ vs/\KeysOf (aR P w) a/\Pairs (aR P w) a.toList vs/\(vs.map (·.1)).Nodup) \/
  ∃xs:List (N1×ah×ai),iu (λ(p:KX×V×V) (q:N1×ah×ai)=>p.1=.inr q.1/\p.2.1=.ref q.2.1/\jP H q.1 q.2.1/\Ψ p.2.2 q.2.2) χ xs/\a.toList=xs.map (entryOfKey (gD P w))/\(xs.map (·.1)).Nodup)
theorem Paired.XU{α h:Type}{F G:α->h->Prop}:∀{d:List α} {c:List h},iu F d c->(∀a b,F a b->G a b)->iu G d c
 |_,_,.nil,_=>.nil
 |_,_,.cons r t,f=>.cons (f _ _ r) (Paired.XU t f)
theorem jP.stay{H H':Hp}{ks:N1}{a:ah}(h:jP H ks a)(c:∀b xs,H b=aa (.tup xs)->H' b=aa (.tup xs)):jP H' ks a:=by
 obtain⟨vs,e,r⟩:=h;show⟨vs,c _ _ e,Paired.XU r λk v q=>?_⟩
 cases k with
 |inl k=>show q
 |inr k=>obtain⟨b,e,q⟩:=q;show⟨b,e,c _ _ q⟩
def t8.stay{P:bg}{w:a_}{H H':Hp}{o:ay}{χ:List (KX×V×V)}(h:t8 P w H o χ)(a:∀b xs,H b=aa (.tup xs)->H' b=aa (.tup xs)):t8 P w H' o χ:=by
 obtain⟨x,d,j,e,h⟩:=h;show⟨x,d,j,e,?_⟩;rcases h with h|⟨xs,r,c,h2⟩
 .exact .inl h
 .exact .inr ⟨xs,Paired.XU r λp q z=>⟨z.1,z.2.1,z.2.2.1.stay a,z.2.2.2⟩,c,h2⟩
def BR(h:ba)(a:ah):Prop:=∀o,h.get? a=aa o->o.dict=af
def BR.at{h h':ba}{a:ah}{o:ay}(n:BR h a)(e:h.get? a=aa o)(c:h'.get? a=aa o):BR h' a:=λu q=>by rw[c] at q;cases q;show n _ e
def BR.new(h:ba)(a:Array ai){n:Nat}:BR (h.push {cls:=.type "tuple",data:=.seq a n}) h.objs.size:=λu q=>by rw[fw h rfl] at q;cases q;rfl
def BR.is(e:h.get? a=aa o)(d:o.dict=af):BR h a:=λu q=>by rw[e] at q;cases q;show d
abbrev xQ(a:ay):HO:=.pZ a (.ext λ_=>True)
def E9(H:Hp)(q:aj)(a:Array ai):Prop:=TriplesOk a.toList /\
 ∀j h,codeAmong j a.toList=aa h ->∃c d vs t,h=.ref c/\H c=aa (xQ d)/\d.data=.fields vs/\vs[1]?=aa (.str q t)
theorem E9.stay{H H':Hp}{q:aj}{a:Array ai}(h:E9 H q a)(j:∀b o u,H b=aa (.pZ o u)->H' b=aa (.pZ o u)):E9 H' q a :=
 ⟨h.1,λd l e=>let ⟨c,oc,vs,t,e1,e2,e3⟩:=h.2 d l e;⟨c,oc,vs,t,e1,j _ _ _ e2,e3⟩⟩
section
variable(P:bg)(w:a_)
def bZ(H:Hp)(h:ba)(a:ah):HO->Prop
 |.lst xs=>xs.length<=bj /\∃(d:Q0f) (n:Nat),θ xs d/\h.get? a=aa {cls:=.type "list",data:=.seq d.toArray n}
 |.tup xs=>xs.length<=bj /\∃d:Q0f,θ xs d/\h_ h a d.toArray/\BR h a
 |.dK χ=>χ.length<=bj/\(a == sysModules)=ag /\∃vs,KV χ vs/\h.DictOf (aR P w) a vs
 |.dT χ=>χ.length<=bj/\(a == sysModules)=ag /\∃xs:List (List Key×ah×ai),
   iu (λ(p:List Key×V) (q:List Key×ah×ai)=>p.1=q.1/\H q.2.1=aa (.tup (p.1.map kV))/\Ψ p.2 q.2.2) χ xs /\
   ∃o m y,h.get? a=aa o/\o.ExactDict/\o.data=.dict m y/\m.toList=xs.map (entryOfKey (tupleKind (aR P w)))/\(xs.map (·.1)).Nodup
 |.dX o χ=>χ.length<=bj/\(a == sysModules)=ag/\h.get? a=aa o/\t8 P w H o χ
 |.set S n=>h.SetOf (intKind P w) a S n
 |.ins C dx fs=>H dx=aa (.own a)/\fs.length<=1000/\dx≠a/\h.get? a=aa (instObj C dx) /\
   ∃c,h.Ns1 dx c/\(∀f,jO (fs.lookup f) (c f))/\Xf c (fs.map (·.1))
 |.own _=>∃o,h.get? a=aa o
 |.xd fs=>∃c,h.Ns1 a c /\∀f,jO (fs.lookup f) (c f)
 |.rng lo hi=>∃t u v,h.get? a=aa {cls:=.type "range",data:=.fields #[.int lo t,.int hi u,.int 1 v]}
 |.pZ o u=>h.get? a=aa o/\bZ H h a u
 |.E8 q=>∃j:Array ai,h.get? a=aa {cls:=.none,data:=.fields j}/\E9 H q j
 |.met f x=>h.get? a=aa (methodObj (.ref f) (.ref x))
 |.ext φ=>φ h/\(∃o,h.get? a=aa o) /\∀l h2:ba,φ l->(∀o,l.get? a=aa o->h2.get? a=aa o)->φ h2
def kN(H:Hp)(h:ba):Prop:=∀a o,H a=aa o->bZ P w H h a o
end
section
variable{P:bg}{w:a_}{H H':Hp}{h h':ba}{a:ah}{o:HO}
theorem bZ.lt(x:bZ P w H h a o):a<h.objs.size:=by
 cases o with
 |lst xs=>obtain⟨_,_,_,_,e⟩:=x;show bz e
 |tup xs=>obtain⟨_,_,_,p,_⟩:=x;show p.lt
 |dK χ=>obtain⟨_,_,_,_,o,_,_,e,_⟩:=x;show bz e
 |dT χ=>obtain⟨_,_,_,_,o,_,_,e,_⟩:=x;show bz e
 |dX ob χ=>obtain⟨_,_,e,_⟩:=x;show bz e
 |set S n=>obtain⟨o,_,_,_,e,_⟩:=x;show bz e
 |ins C dx fs=>obtain⟨_,_,_,e,_⟩:=x;show bz e
 |own y=>obtain⟨_,e⟩:=x;show bz e
 |xd fs=>obtain⟨_,⟨_,_,_,e,_⟩,_⟩:=x;show bz e
 |rng lo hi=>obtain⟨_,_,_,e⟩:=x;show bz e
 |pZ ob u=>obtain⟨e,_⟩:=x;show bz e
 |E8 q=>obtain⟨c,e,_⟩:=x;show bz e
 |met f y=>show bz (show h.get? a=aa _ from x)
 |ext φ=>obtain⟨_,⟨_,e⟩,_⟩:=x;show bz e
theorem Paired.XW{α j:Type}{F G:α->j->Prop}:∀{d:List α} {c:List j},iu F d c->(∀a b,F a b->G a b)->iu G d c
 |_,_,.nil,_=>.nil
 |_,_,.cons r t,f=>.cons (f _ _ r) (Paired.XW t f)
theorem bZ.stay(x:bZ P w H h a o)(k:∀b u,(b=a\/H b=aa (.own a))->h.get? b=aa u->h'.get? b=aa u)
  (ho:∀b,H b=aa (.own a)->H' b=aa (.own a)) (J:∀b xs,H b=aa (.tup xs)->H' b=aa (.tup xs)) (L:∀b o u,H b=aa (.pZ o u)->H' b=aa (.pZ o u):=by show λ_ _ _ q=>q):bZ P w H' h' a o:=by
 induction o with
 |lst xs=>obtain⟨z,A,n,r,e⟩:=x;show⟨z,A,n,r,k _ _ (.inl rfl) e⟩
 |tup xs=>obtain⟨z,A,r,⟨j,e,c⟩,nd⟩:=x;show⟨z,A,r,⟨j,k _ _ (.inl rfl) e,c⟩,nd.at e (k _ _ (.inl rfl) e)⟩
 |dK χ=>obtain⟨z,y,vs,r,j,l,m,e,c⟩:=x;show⟨z,y,vs,r,j,l,m,k _ _ (.inl rfl) e,c⟩
 |dT χ =>
  obtain⟨z,y,xs,r,j,l,m,e,c⟩:=x;show⟨z,y,xs,Paired.XW r λp q z=>⟨z.1,J _ _ z.2.1,z.2.2⟩,j,l,m,k _ _ (.inl rfl) e,c⟩
 |dX j χ=>obtain⟨z,y,e,c⟩:=x;show⟨z,y,k _ _ (.inl rfl) e,c.stay J⟩
 |set S n=>obtain⟨j,l,m,t,e,c⟩:=x;show⟨j,l,m,t,k _ _ (.inl rfl) e,c⟩
 |ins C dx fs =>
  obtain⟨d,z,ne,e,I,⟨F,l,m,O,c⟩,r⟩:=x;show⟨ho _ d,z,ne,k _ _ (.inl rfl) e,I,⟨F,l,m,k _ _ (.inr d) O,c⟩,r⟩
 |own y=>obtain⟨j,e⟩:=x;show⟨j,k _ _ (.inl rfl) e⟩
 |xd fs=>obtain⟨I,⟨F,l,m,e,c⟩,r⟩:=x;show⟨I,⟨F,l,m,k _ _ (.inl rfl) e,c⟩,r⟩
 |rng lo hi=>obtain⟨t,u,v,e⟩:=x;show⟨t,u,v,k _ _ (.inl rfl) e⟩
 |pZ j u ih=>obtain⟨e,q⟩:=x;show⟨k _ _ (.inl rfl) e,ih q⟩
 |E8 q=>obtain⟨K,e,r⟩:=x;show⟨K,k a _ (.inl rfl) e,r.stay L⟩
 |met f y =>
  have e:h.get? a=aa (methodObj (.ref f) (.ref y)):=x;show h'.get? a=aa (methodObj (.ref f) (.ref y));show k a _ (.inl rfl) e
 |ext φ=>obtain⟨p,⟨o,e⟩,st⟩:=x;show⟨st _ _ p λo q=>k _ _ (.inl rfl) q,⟨o,k _ _ (.inl rfl) e⟩,st⟩
def kN.lt(x:kN P w H h)(e:H a=aa o):a<h.objs.size:=(x a o e).lt
theorem kN.fresh(x:kN P w H h)(e:h.objs.size<=a):H a=af:=by
 cases q:H a with
 |none=>rfl
 |some u=>show Zw (gi (x.lt q) e) (jq _)
def kN.kept(x:kN P w H h)(k:∀b u,h.get? b=aa u->h'.get? b=aa u):kN P w H h':=λa o e =>
 (x a o e).stay (λb u _ q=>k b u q) (λ_ q=>q) λ_ _ q=>q
def kN.laid(x:kN P w H h)(k:∀b u,h.get? b=aa u->h'.get? b=aa u)(l:h.objs.size<=a)(new:bZ P w (upd H a o) h' a o):kN P w (upd H a o) h':=λb u e=>by
 have d:=x.fresh l;by_cases j:b=a
 .subst j;rw[aI] at e;cases e;show new
 .rw [aL j] at e;show(x b u e).stay (λc v _ q=>k c v q) (λc q=>by rw[aL (aP q d)];show q) (λc xs q=>by rw[aL (aP q d)];show q) λc o u q=>by rw[aL (aP q d)];show q
end
def Rd(H:Hp)(a:ah)(u:HO):Prop:=H a=aa u \/∃o,H a=aa (.pZ o u)
theorem Rd.ok{P:bg}{w:a_}{H:Hp}{h:ba}{a:ah}{u:HO}(r:Rd H a u)(x:kN P w H h):bZ P w H h a u:=by
 rcases r with r|⟨o,r⟩
 .exact x a u r
 .obtain ⟨_,q⟩:=x a _ r;show q
def Mut:Option HO->Prop
 |some (.lst _)=>True
 |some (.dK _)=>True
 |some (.dT _)=>True
 |some (.dX _ _)=>True
 |some (.set _ _)=>True
 |some (.ins _ _ _)=>True
 |some (.ext _)=>True
 |_=>False
section
variable{P:bg}{w:a_}{H:Hp}{h h':ba}{x e:ah}{o':HO}
theorem kN.write(ok:kN P w H h)(d:Mut (H x))(p:e=x\/H e=aa (.own x))(k:∀b u,b≠e->h.get? b=aa u->h'.get? b=aa u)(m:∃u,h'.get? e=aa u)
  (new:bZ P w (upd H x o') h' x o'):kN P w (upd H x o') h':=λb u q=>by
 have A:∀c y,H c=aa (.own y)->c≠x:=λc y r z=>by subst z;rw[r] at d;show d
 have I:∀c xs,H c=aa (.tup xs)->c≠x:=λc xs r z=>by subst z;rw[r] at d;show d
 by_cases l:b=x
 .subst l;rw[aI] at q;cases q;show new
 .rw [aL l] at q;by_cases a:b=e
  .have n:H b=aa (.own x):=by
    rcases p with z|z
    .exact Zw (a.trans z) l
    .rw [a];show z
   rw[q] at n;cases n;obtain⟨v,F⟩:=m;show⟨v,by rw[a];show F⟩
  .refine (ok b u q).stay (λc v j r=>k c v ?_ r) (λc r=>by rw[aL (A c b r)];show r) (λc xs r=>by rw[aL (I c xs r)];show r) λc o u r=>by rw[aL λz=>by subst z;rw[r] at d;show d];show r
   rcases j with rfl|j
   .exact a
   .rintro rfl;rcases p with z|z
    .exact A c b j z
    .rw [j] at z;cases z;show l rfl
end
structure Un (fs ex:List ah) (H H':Hp) (h h':ba):Prop where
 keep:∀b o,h.get? b=aa o->H b=af->b∉fs->b∉ex->h'.get? b=aa o
 slot:∀b o,h.get? b=aa o->H b=af->b∈fs->b∉ex ->∃sl,h'.get? b=aa {o with slots:=sl}
 free:∀b o,h.get? b=aa o->H b=af->b∉ex->H' b=af
 there:∀b o,h.get? b=aa o->b∉ex ->∃o',h'.get? b=aa o'
 tups:∀b xs,H b=aa (.tup xs)->H' b=aa (.tup xs)
 p6:∀b o u,H b=aa (.pZ o u)->H' b=aa (.pZ o u)
 oI:∀b q,H b=aa (.E8 q)->H' b=aa (.E8 q)
section
variable{fs fs' ex ex':List ah}{H H1 H2:Hp}{h h1 h2 h':ba}{a x e:ah}{o:HO}
def Un.any(u:Un fs ex H H1 h h1){b:ah}{c:ay}(q:h.get? b=aa c)(n:H b=af)(d:b∉ex):∃l,h1.get? b=aa {c with slots:=l}:=by
 by_cases j:b∈fs
 .exact u.slot b c q n j d
 .exact ⟨c.slots,u.keep b c q n j d⟩
def Un.kept(k:∀b u,h.get? b=aa u->h'.get? b=aa u):Un fs ex H H h h' :=
 ⟨λb c q _ _ _=>k b c q,λb c q _ _ _=>⟨c.slots,k b c q⟩,λ_ _ _ n _=>n,λb c q _=>⟨c,k b c q⟩,λ_ _ q=>q,λ_ _ _ q=>q,λ_ d q=>q⟩
def Un.refl:Un fs ex H H h h:=Un.kept λ_ _ q=>q
theorem Un.laid(k:∀b u,h.get? b=aa u->h'.get? b=aa u)(d:h.objs.size<=a)(c:H a=af):Un fs ex H (upd H a o) h h' where
 keep:=λb u q _ _ _=>k b u q
 slot:=λb u q _ _ _=>⟨u.slots,k b u q⟩
 free:=λb u q n _=>by rw[aL (fq (gi (bz q) d))];show n
 there:=λb u q _=>⟨u,k b u q⟩
 tups:=λb xs q=>by rw[aL (aP q c)];show q
 p6:=λb u xs q=>by rw[aL (aP q c)];show q
 oI:=λb j q=>by rw[aL (aP q c),q]
def Un.write(d:Mut (H x))(v:e=x\/H e=aa (.own x))(k:∀b u,b≠e->h.get? b=aa u->h'.get? b=aa u)(l:∃u,h'.get? e=aa u):Un fs ex H (upd H x o) h h':=by
 have m:∀b,H b=af->b≠x:=λb n z=>by subst z;rw[n] at d;show d
 have p:∀b,H b=af->b≠e:=λb n z=>by
  subst z;rcases v with r|r
  .exact m b n r
  .rw [n] at r;cases r
 have j:∀b u,H b=aa u->¬ Mut (aa u)->b≠x:=λb u q nm z=>by subst z;rw[q] at d;show nm d
 show⟨λb u q n _ _=>k b u (p b n) q,λb u q n _ _=>⟨u.slots,k b u (p b n) q⟩,λb u q n _=>by rw[aL (m b n)];show n,λb u q _=>?_,
  λb xs q=>by rw[aL (j b _ q λz=>z)];show q,λb u xs q=>by rw[aL (j b _ q λz=>z)];show q,λb y q=>by rw[aL (j b _ q λz=>z),q]⟩
 by_cases c:b=e
 .subst c;show l
 .exact ⟨u,k b u c q⟩
end
def trk(h:ba)(H:Hp):List ah:=(cm h.objs.size).filter λa=>(H a).isSome
def t9(h:ba)(H:Hp):ba:=hideAll h (trk h H)
def HK(h:ba)(H:Hp):(t9 h H).objs.size=h.objs.size:=PySem.W.hideAll_size _ _
def LN(e:h.get? b=aa o)(n:H b=af):(t9 h H).get? b=aa o :=
 ud _ e λa=>by have q:(H b).isSome=ae:=(iy.mp a).2;rw[n] at q;simp at q
theorem RK(e:(t9 h H).get? b=aa o):h.get? b=aa o/\H b=af:=by
 have a:h.get? b=aa o:=Bv (trk h H) e;show⟨a,?_⟩
 cases q:H b with
 |none=>rfl
 |some x =>
  have c:b∈trk h H:=iy.mpr ⟨ll.mpr (bz a),by simp[q]⟩;have z:(t9 h H).get? b=af:=uc (trk h H) c;rw[z] at e;cases e
structure Mod (K:ao) (mg:Q0d) (ω:ba):Prop where
 kin:K.In ω
 glob:ω.Ns gu mg
 blt:∃mb,ω.Ns builtinsNs mb /\∀x:aj,x ≠ "__name__"->mb x=bootBuiltins x
 nolimit:ω.NoLimit
 bm:∃bm ob,mg "__builtins__"=aa (.ref bm)/\bm≠builtinsNs/\ω.get? bm=aa ob/\ob.cls=.type "module" /\ob.dict=aa builtinsNs/\ob.data=.plain
def zZ:List aj:=["going_of","count_of_chain","cut_paper","downsets","strictest_chains"]
def jQ(x:aj):aj:=x++".<locals>.<lambda>"
def cM(K:ao):List (aj×ah×ah):=zZ.filterMap λx=>(tw K x).map λp=>(x,p.1,p.2)
def RL(K:ao)(ω:ba)(H:Hp):Prop:=∀t∈cM K,CodeHd ω t.2.1 t.2.2/\H t.2.2=aa (.E8 (jQ t.1))
structure Cx where
 Ω:bg
 w:a_
 K:ao
 mg:aj->Option ai
 ω:ba
 A:br
 N:List aj
 s₀:ak
 H₀:Hp
 env:df
 Γ:List df
 stack:List df
 ex:List ah
 fn:aj->Bool
 calm:Bool
 pn:List (ah×ay)
 xe:ai->ak->Prop
abbrev Zu(x:aj):Prop:=(x == ("__debug__":aj))=ag
abbrev Zt(x:aj):Prop:=(x == ("__classdict__":aj))=ag
abbrev Zr(X:Cx)(e:av)(l:List av):Prop:=ar (e::l) X.env=(ag,eval e X.env)::ar l X.env
abbrev Zq(X:Cx)(x:aj):Prop:=X.fn x=ae\/X.env.scope.names.lookup x=aa .local
abbrev Zp(X:Cx)(a:bq)(e:av):Prop:=((cy a (ar [e] X.env)).all (λx=>!x.1)&&(backToKw a (lr [] X.env)).all (λx=>x.1.isSome) && Zv ([e].length+([]:List gx).length+(if([]:List gx).isEmpty then 0 else 1)<30))=ae
abbrev Zo(X:Cx)(i:av):Prop:=∀x,foldedSetIterable i X.env x=pure x
abbrev Si(X:Cx)(e:av)(x:aj)(p q:bq):Prop:=gk e (aa (.Name x p)) q.line X.env=pure ag
abbrev gV(X:Cx)(x y:aj)(c a:bq):Prop:=(e_ [.Name x c,.Name y a] X.env).map (·.2)=assign (.Name x c) X.env::(e_ [.Name y a] X.env).map (·.2)
abbrev Q0h(X:Cx)(y:aj)(a:bq):Prop:=(e_ [.Name y a] X.env).map (·.2)=assign (.Name y a) X.env::(e_ [] X.env).map (·.2)
abbrev Q0i(X:Cx)(x y:aj)(c a:bq):Prop:=(e_ [.Name x c,.Name y a] X.env).findIdx? (·.1)=af
abbrev Q0j(X:Cx)(x y:aj)(c a:bq):Prop:=(e_ [.Name x c,.Name y a] X.env).length=2
abbrev Q0k(p q:bq):Prop:=(p.endLine == q.line)=ae
abbrev Q0l(X:Cx)(p:bq)(l:List av):Prop:=(cy p (ar l X.env)).any (·.1)=ag
def frs(l:List df):List ah:=l.filterMap (·.frame)
abbrev Cx.fs(X:Cx):List ah:=frs X.Γ
def qN(sc:fu)(x:aj):Prop:=sc.names.lookup x=aa .local\/sc.names.lookup x=aa .cell\/sc.names.lookup x=aa .free
def Loc(sc:fu)(x:aj):Prop:=sc.names.lookup x=aa .local\/sc.names.lookup x=aa .cell
def Look(env:df)(h:ba)(m:Q0d)(x:aj)(u:ai):Prop :=
 (env.kindOf x=aa .local/\m x=aa u)\/((env.kindOf x=aa .cell\/env.kindOf x=aa .free) /\∃c,env.cells.lookup x=aa c/\h.IsCell c (aa u))
structure Cx.Ok (X:Cx):Prop where
 mod:Mod X.K X.mg X.ω
 kind:X.env.scope.kind=.function
 glob:X.env.globals=gu
 blt:X.env.builtins=builtinsNs
 above:X.s₀.heap.objs.size<=X.env.locals
 inj:∀x y c,X.env.cells.lookup x=aa c->X.env.cells.lookup y=aa c->x=y
 has:∀x,(X.env.kindOf x=aa .cell\/X.env.kindOf x=aa .free) ->∃c,X.env.cells.lookup x=aa c
 cab:∀x c,X.fn x=ae->X.env.cells.lookup x=aa c->X.s₀.heap.objs.size<=c
 hd:X.calm=ae->X.A.handled=af
 frames:X.A.frames=aa X.stack
 stk:X.stack=X.Γ\/(X.stack=X.env::X.Γ/\X.env.frame=aa X.env.locals)
 exf:∀b∈X.ex,b≠X.env.locals /\∀x c,X.env.cells.lookup x=aa c->c≠b
 bs:∀b o,X.ω.get? b=aa o->X.s₀.heap.get? b=aa o/\X.H₀ b=af
 FA:X.ω.objs.size<=X.s₀.heap.objs.size
 z4:∀b o,X.ω.get? b=aa o->b∉X.ex
 CM:∀b∈X.ex,b∉X.fs
 jR:X.s₀.heap.FunFrames X.ω X.Γ
 P0:∀b∈X.fs,X.H₀ b=af
 tab:RL X.K X.ω X.H₀
structure Φ (X:Cx) (π:Q0b) (σ:List (Option V)) (H:Hp) (s:ak):Prop where
 ok:X.Ok
 os:s.os=X.s₀.os
 bare:lg s.gens
 ω:Un X.fs X.ex X.H₀ H X.s₀.heap s.heap
 loc:∃m,s.heap.Ns X.env.locals m /\∀(i:Nat) (x:aj) (v:V),X.N[i]?=aa x->σ[i]?=aa (aa v)->qN X.env.scope x ->∃u,Ψ v u/\Look X.env s.heap m x u
 cell:∀x c,X.env.cells.lookup x=aa c ->∃v,s.heap.IsCell c v
 free:H X.env.locals=af
 d7:∀x c,X.env.cells.lookup x=aa c->H c=af
 pin:∀p∈X.pn++π,s.heap.get? p.1=aa p.2/\H p.1=af/\p.1≠X.env.locals/\p.1∉X.fs /\∀v,p.2.data≠.cell v
 hok:kN X.Ω X.w H s.heap
 len:σ.length=X.N.length
section
variable{X:Cx}{π:Q0b}{σ:List (Option V)}{H H':Hp}{s:ak}{h':ba}
def Cx.Ok.Nz(ok:X.Ok)(e:X.ω.get? b=aa o):b∉X.fs:=λa=>by have:=(ok.jR.mem a).1;rw[e] at this;cases this
def Φ.bs(I:Φ X π σ H s):∀b o,X.ω.get? b=aa o->s.heap.get? b=aa o/\H b=af:=λb o e =>
 ⟨I.ω.keep b o (I.ok.bs b o e).1 (I.ok.bs b o e).2 (I.ok.Nz e) (I.ok.z4 b o e),I.ω.free b o (I.ok.bs b o e).1 (I.ok.bs b o e).2 (I.ok.z4 b o e)⟩
def Φ.bk(I:Φ X π σ H s):∀b o,X.ω.get? b=aa o->s.heap.get? b=aa o:=λb o e=>(I.bs b o e).1
def Φ.mod(I:Φ X π σ H s):Mod X.K X.mg X.ω:=I.ok.mod
def Φ.tab(I:Φ X π σ H s):RL X.K X.ω H:=λt a=>⟨(I.ok.tab t a).1,I.ω.oI _ _ (I.ok.tab t a).2⟩
def Φ.oJ(I:Φ X π σ H s):X.K.In s.heap:=I.ok.mod.kin.keeps I.bk
def Φ.nolimit(I:Φ X π σ H s):s.heap.NoLimit:=I.ok.mod.nolimit.keeps I.bk
def Φ.fr(I:Φ X π σ H s):∃m,Fr X.ω X.env.locals s.heap m :=
 let ⟨m,hn,_⟩:=I.loc
 ⟨m,hn,I.bk,ig I.ok.FA I.ok.above⟩
def Φ.lt(I:Φ X π σ H s):X.env.locals<s.heap.objs.size:=let ⟨_,hn,_⟩:=I.loc;hn.lt
def Φ.sz(I:Φ X π σ H s):X.s₀.heap.objs.size<=s.heap.objs.size:=ig I.ok.above (lj I.lt)
def Φ.Ny(I:Φ X π σ H s)(h:s.heap.objs.size<=a):a∉X.fs:=λc=>by obtain⟨_,o,ho,_⟩:=I.ok.jR.mem c;show Zw (gi (bz ho) (ig I.sz h)) (jq _)
def Φ.RM(I:Φ X π σ H s):∀x c,X.env.cells.lookup x=aa c->c≠X.env.locals:=λx c e z=>by obtain⟨v,o,ho,h⟩:=I.cell x c e;obtain⟨m,⟨j,l,n,a,d,_⟩,_⟩:=I.loc;rw[z,a] at ho;cases ho;rw[d] at h;cases h
def Φ.jR(I:Φ X π σ H s):s.heap.FunFrames X.ω X.Γ:=by
 have all:∀(l:List df),(∀b∈frs l,b∈X.fs)->X.s₀.heap.FunFrames X.ω l->s.heap.FunFrames X.ω l:=by
  intro l
  induction l with
  |nil=>intro _ _;trivial
  |cons env r ih =>
   intro h n;obtain⟨p,⟨L,o,a,m,ho,q⟩,j⟩:=n;have d:L∈X.fs:=h L (by unfold frs;rw[za,a];show de);obtain⟨u,e⟩:=I.ω.slot L o ho (I.ok.P0 L d) d λz=>I.ok.CM L z d;show⟨p,⟨L,_,a,m,e,q⟩,ih (λb c=>h b (by unfold frs;rw[za,a];show gf _ c)) j⟩
 show all X.Γ (λ_ c=>c) I.ok.jR
def Φ.stack(I:Φ X π σ H s):s.heap.FunFrames X.ω X.stack:=by
 rcases I.ok.stk with e|⟨e,c⟩
 .rw [e];show I.jR
 .rw [e];obtain⟨m,a,_⟩:=I.loc;show .cons (by rw[I.ok.kind];decide) c a ?_ I.jR;show Heap.get?_none_of_le (ig I.ok.FA I.ok.above)
def Φ.lO(I:Φ X π σ H s):∀b∈frs X.stack,b∈X.env.locals::X.fs:=λb a=>by
 rcases I.ok.stk with e|⟨e,c⟩
 .rw [e] at a;show gf _ a
 .rw [e] at a;unfold frs at a;rw[za,c] at a;show a
def Φ.qO(I:Φ X π σ H s):∀b∈frs X.stack,H b=af:=λb a=>by
 rcases bx.mp (I.lO b a) with e|a
 .rw [e];show I.free
 .obtain ⟨_,o,ho,_⟩:=I.ok.jR.mem a;show I.ω.free b o ho (I.ok.P0 b a) λz=>I.ok.CM b z a
theorem Φ.step{g':Array GenState}{t':Nat}{d':Drawn}{ch:List ah}(I:Φ X π σ H s)
  (j:∀b∈ch,(b∈X.ex\/X.s₀.heap.objs.size<=b)/\b≠X.env.locals/\(∀x c,X.env.cells.lookup x=aa c->c≠b) /\∀p∈X.pn++π,p.1≠b)
  (keep:∀b o,b≠X.env.locals->b∉X.fs->b∉ch->s.heap.get? b=aa o->H b=af->h'.get? b=aa o)
  (slot:∀b o,b≠X.env.locals->b∈X.fs->b∉ch->s.heap.get? b=aa o->H b=af ->∃L,h'.get? b=aa {o with slots:=L}) (free:∀b o,b∉ch->s.heap.get? b=aa o->H b=af->H' b=af)
  (there:∀b o,b∉ch->s.heap.get? b=aa o ->∃F,h'.get? b=aa F)
  (tups:∀b xs,H b=aa (.tup xs)->H' b=aa (.tup xs)) (p6:∀b o u,H b=aa (.pZ o u)->H' b=aa (.pZ o u)) (oI:∀b q,H b=aa (.E8 q)->H' b=aa (.E8 q))
  (ns:∀m,s.heap.Ns X.env.locals m->h'.Ns X.env.locals m) (U:kN X.Ω X.w H' h') (hg:lg g'):
  Φ X π σ H' {s with heap:=h',gens:=g',drawn:=d',toks:=t' }:=by
 have J:∀b o,X.s₀.heap.get? b=aa o->b≠X.env.locals:=λb o e=>fq (gi (bz e) I.ok.above);have y:∀b o,X.s₀.heap.get? b=aa o->b∉X.ex->b∉ch:=λb o e a A=>by
  rcases(j b A).1 with z|z
  .exact a z
  .exact Zw (gi (bz e) z) (jq _)
 have cellK:∀x c,X.env.cells.lookup x=aa c ->∀v,s.heap.IsCell c v->h'.IsCell c v:=λx c e v O=>by
  obtain⟨o,ho,Y⟩:=O;have h:c∉ch:=λz=>(j c z).2.2.1 x c e rfl;by_cases hc:c∈X.fs
  .obtain ⟨L,q⟩:=slot c o (I.RM x c e) hc h ho (I.d7 x c e);show⟨_,q,Y⟩
  .exact ⟨o,keep c o (I.RM x c e) hc h ho (I.d7 x c e),Y⟩
 show⟨I.ok,I.os,hg,⟨λb o e n A a=>?_,λb o e n A a=>?_,λb o e n a=>?_,λb o e a=>?_,λb xs e=>tups b xs (I.ω.tups b xs e),λb o xs e=>p6 b o xs (I.ω.p6 b o xs e),λb ps e=>oI b ps (I.ω.oI b ps e)⟩,?_,λx c e=>?_,?_,λx c e=>?_,λp hp=>?_,U,I.len⟩
 .exact keep b o (J b o e) A (y b o e a) (I.ω.keep b o e n A a) (I.ω.free b o e n a)
 .obtain ⟨L,e1⟩:=I.ω.slot b o e n A a;obtain⟨K,Z⟩:=slot b _ (J b o e) A (y b o e a) e1 (I.ω.free b o e n a);show⟨K,Z⟩
 .obtain ⟨F,e1⟩:=I.ω.there b o e a;show free b F (y b o e a) e1 (I.ω.free b o e n a)
 .obtain ⟨F,e1⟩:=I.ω.there b o e a;show there b F (y b o e a) e1
 .obtain ⟨m,hn,hl⟩:=I.loc;show⟨m,ns m hn,λi x v e1 Z e3=>?_⟩;obtain⟨u,r,l⟩:=hl i x v e1 Z e3;show⟨u,r,?_⟩;rcases l with l|⟨k,c,e,z⟩
  .exact .inl l
  .exact .inr ⟨k,c,e,cellK x c e _ z⟩
 .obtain ⟨v,z⟩:=I.cell x c e;show⟨v,cellK x c e v z⟩
 .obtain ⟨m,⟨o,_,_,ho,_⟩,_⟩:=I.loc;show free _ o (λz=>(j _ z).2.1 rfl) ho I.free
 .obtain ⟨v,o,ho,Y⟩:=I.cell x c e;show free c o (λz=>(j c z).2.2.1 x c e rfl) ho (I.d7 x c e)
 .obtain ⟨e,n,ne,nf,d⟩:=I.pin p hp;have h:p.1∉ch:=λz=>(j p.1 z).2.2.2 p hp rfl;show⟨keep p.1 p.2 ne nf h e n,free p.1 p.2 h e n,ne,nf,d⟩
def Φ.un{t':Nat}(I:Φ X π σ H s)(u:Un X.fs [] H H' s.heap h')(c:kN X.Ω X.w H' h'):Φ X π σ H' {s with heap:=h',toks:=t' }:=by
 obtain⟨m,⟨o,A,F,ho,r⟩,_⟩:=id I.loc;obtain⟨v,q⟩:=u.any ho I.free (by simp);show I.step (g':=s.gens) (d':=s.drawn) (ch:=[]) (λ_ z=>nomatch z) (λb o _ d _ e n=>u.keep b o e n d (by simp)) (λb o _ d _ e n=>u.slot b o e n d (by simp)) (λb o _ e n=>u.free b o e n (by simp)) (λb o _ e=>u.there b o e (by simp)) u.tups u.p6 u.oI (λy p=>by obtain⟨x,h,j,a,l⟩:=p;rw[ho] at a;cases a;show⟨_,h,j,q,l⟩) c I.bare
theorem Φ.call{g':Array GenState}{t':Nat}{d':Drawn}{ch:List ah}(I:Φ X π σ H s)(u:Un (frs X.stack) ch H H' s.heap h')(j:kN X.Ω X.w H' h')(F:lg g')
  (h:∀b∈ch,(b∈X.ex\/X.s₀.heap.objs.size<=b)/\b≠X.env.locals/\(∀x c,X.env.cells.lookup x=aa c->c≠b) /\∀p∈X.pn++π,p.1≠b):
  Φ X π σ H' {s with heap:=h',gens:=g',drawn:=d',toks:=t' }:=by
 obtain⟨m,⟨o,U,Y,ho,r⟩,_⟩:=id I.loc;obtain⟨K,l⟩:=u.any ho I.free λz=>(h _ z).2.1 rfl;show I.step (ch:=ch) h (λb o l J a e n=>u.keep b o e n (λz=>(bx.mp (I.lO b z)).elim l J) a) (λb o _ _ a e n=>u.any e n a) (λb o a e n=>u.free b o e n a) (λb o a e=>u.there b o e a) u.tups u.p6 u.oI (λO A=>by obtain⟨L,q,v,d,y⟩:=A;rw[ho] at d;cases d;show⟨_,q,v,l,y⟩) j F
theorem Φ.turned{t':Nat}{it:ah}(I:Φ X π σ H s)(k:∀b o,b≠it->s.heap.get? b=aa o->h'.get? b=aa o)(j:H it=af)(h:it≠X.env.locals)
  (F:it∈X.ex\/X.s₀.heap.objs.size<=it) (h2:∀x c,X.env.cells.lookup x=aa c->c≠it) (A:∀p∈X.pn++π,p.1≠it):Φ X π σ H {s with heap:=h',toks:=t' }:=by
 have d:∀b u,H b=aa u->b≠it:=λb u e z=>by rw[z,j] at e;cases e
 show I.step (g':=s.gens) (d':=s.drawn) (ch:=[it]) (λb y=>?_) (λb o _ _ a e _=>k b o (λz=>a (by simp[z])) e) (λb o _ _ a e _=>⟨o.slots,k b o (λz=>a (by simp[z])) e⟩) (λ_ _ _ _ n=>n)
  (λb o a e=>⟨o,k b o (λz=>a (by simp[z])) e⟩) (λ_ _ e=>e) (λ_ _ _ e=>e) (λb L e=>e) (λm l=>?_) (λb u e=>?_) I.bare
 .have e:b=it:=by simpa using y
  subst e;show⟨F,h,h2,A⟩
 .obtain ⟨o,J,K,ho,r⟩:=l;show⟨o,J,K,k _ o (fg h) ho,r⟩
 .refine (I.hok b u e).stay (λc v a q=>k c v ?_ q) (λ_ q=>q) λ_ _ q=>q;rcases a with z|z
  .rw [z];show d b u e
  .exact d c _ z
def Φ.tok(I:Φ X π σ H s)(t:Nat):Φ X π σ H {s with toks:=t}:=I.un (h':=s.heap) (t':=t) Un.refl I.hok
def Φ.kept(I:Φ X π σ H s)(k:∀b u,s.heap.get? b=aa u->h'.get? b=aa u):Φ X π σ H {s with heap:=h',toks:=t' }:=I.un (Un.kept k) (I.hok.kept k)
theorem Φ.laid{a:ah}{o:HO}{t':Nat}(I:Φ X π σ H s)(k:∀b u,s.heap.get? b=aa u->h'.get? b=aa u)(c:s.heap.objs.size<=a)(new:bZ X.Ω X.w (upd H a o) h' a o):
  Φ X π σ (upd H a o) {s with heap:=h',toks:=t' }:=I.un (Un.laid k c (I.hok.fresh c)) (I.hok.laid k c new)
theorem Φ.write(I:Φ X π σ H s)(c:Mut (H x))(d:e=x\/H e=aa (.own x))(k:∀b u,b≠e->s.heap.get? b=aa u->h'.get? b=aa u)(a:∃u,h'.get? e=aa u)
  (new:bZ X.Ω X.w (upd H x o) h' x o):Φ X π σ (upd H x o) {s with heap:=h',toks:=t' }:=I.un (Un.write c d k a) (I.hok.write c d k a new)
def Φ.weak(I:Φ X π σ H s)(a:σ'.length=σ.length)(w:∀(i:Nat) v,σ'[i]?=aa (aa v)->σ[i]?=aa (aa v)):Φ X π σ' H s :=
 ⟨I.ok,I.os,I.bare,I.ω,let ⟨m,hn,hl'⟩:=I.loc;⟨m,hn,λi x v e1 d c=>hl' i x v e1 (w i v d) c⟩,I.cell,I.free,I.d7,I.pin,I.hok,a.trans I.len⟩
def Φ.xR(I:Φ X π σ H s)(h:∀p∈LO,s.heap.get? p.1=aa p.2/\H p.1=af/\p.1≠X.env.locals/\p.1∉X.fs /\∀v,p.2.data≠.cell v):Φ X LO σ H s :=
 ⟨I.ok,I.os,I.bare,I.ω,I.loc,I.cell,I.free,I.d7,λp a=>(gn.mp a).elim (λz=>I.pin p (gj _ z)) (h p),I.hok,I.len⟩
def z5{N:Q0g}(hN:N.Nodup){i j:Nat}{x:aj}(a:N[i]?=aa x)(b:N[j]?=aa x):i=j:=by obtain⟨d,e1⟩:=dh.mp a;obtain⟨h2,c⟩:=dh.mp b;show(a0Q hN).mp (e1.trans c.symm)
theorem u7{M:l_}{A:br}{E:Q0c}{i:Nat}{x:aj}{v:V}{u:ai}{Q:Unit->ak->Prop}(I:Φ X π σ H s)(hN:X.N.Nodup)(hi:X.N[i]?=aa x)(J:Loc X.env.scope x)(r:Ψ v u)
  (h:∀s',Φ X π (σ.set i (aa v)) H s'->(∃a,mf a s.heap s'.heap/\(a=X.env.locals\/X.env.cells.lookup x=aa a))->Q () s') (hf:Zq X x:=by first|show .inl rfl|show .inr rfl|assumption):ax M A (storeName X.env x u) Q E s:=by
 obtain⟨m,hn,hl⟩:=id I.loc;have hcls:(X.env.scope.kind == .class||(X.env.scope.kind == .module&&X.env.locals !=X.env.globals))=ag:=by rw[I.ok.kind];rfl
 have U:i<σ.length:=by rw[I.len];show(dh.mp hi).1
 have RM:=I.RM;have tracked:∀{a:ah} {h':ba},(∃o,s.heap.get? a=aa o/\H a=af)->mf a s.heap h'->kN X.Ω X.w H h':=λ{a h'} ha l b ob e=>by
  obtain⟨_,_,K⟩:=ha;show(I.hok b ob e).stay (λc w' F q=>(l.2 c ?_).trans q) (λ_ q=>q) λ_ _ q=>q;rintro rfl;rcases F with rfl|F
  .rw [K] at e;cases e
  .rw [K] at F;cases F
 rcases J with O|O
 .refine wpAny_storeName_local O hn (λh' hn' l=>?_) hcls;obtain⟨oL,_,_,hoL,_⟩:=id hn;show h _ ⟨I.ok,I.os,I.bare,⟨λb o e n hb J=>?_,λb o e n hb J=>?_,I.ω.free,λb o e J=>?_,I.ω.tups,I.ω.p6,I.ω.oI⟩,⟨_,hn',λj y v' e1 L e3=>?_⟩,λy c e=>?_,I.free,I.d7,λp hp=>?_,tracked ⟨oL,hoL,I.free⟩ l,by simpa using I.len⟩ ⟨_,l,.inl rfl⟩
  .exact (l.2 b (fq (gi (bz e) I.ok.above))).trans (I.ω.keep b o e n hb J)
  .obtain ⟨sl,e1⟩:=I.ω.slot b o e n hb J;show⟨sl,(l.2 b (fq (gi (bz e) I.ok.above))).trans e1⟩
  .obtain ⟨o',e1⟩:=I.ω.there b o e J;show⟨o',(l.2 b (fq (gi (bz e) I.ok.above))).trans e1⟩
  .by_cases Y:j=i
   .subst Y;rw[hi] at e1;cases e1;rw[kn U] at L;cases L;show⟨u,r,.inl ⟨O,by simp⟩⟩
   .rw [jm (fg Y)] at L;obtain⟨u',r',q⟩:=hl j y v' e1 L e3;show⟨u',r',?_⟩;rcases q with⟨k,e⟩|⟨k,c,e,z⟩
    .refine .inl ⟨k,?_⟩;have:y≠x:=λe=>Y (z5 hN e1 (e▸hi));simp[this,e]
    .exact .inr ⟨k,c,e,z.sameBut l (RM y c e)⟩
  .obtain ⟨w',z⟩:=I.cell y c e;show⟨w',z.sameBut l (RM y c e)⟩
  .obtain ⟨e,n,ne,nf,d⟩:=I.pin p hp;show⟨(l.2 p.1 ne).trans e,n,ne,nf,d⟩
 .have Z:X.fn x=ae:=by
   rcases hf with z|z
   .exact z
   .rw [z] at O;cases O
  obtain⟨c,F⟩:=I.ok.has x (.inl O);obtain⟨w',z⟩:=I.cell x c F;show wpAny_storeName_cell I.ok.kind O F z (λh' hc' l=>?_);obtain⟨oc,hoc,Nw⟩:=id z;show h {s with heap:=h' } ⟨I.ok,I.os,I.bare,⟨λb o e n hb J=>?_,λb o e n hb J=>?_,I.ω.free,λb o e J=>?_,I.ω.tups,I.ω.p6,I.ω.oI⟩,⟨m,hn.sameBut l (fg (RM x c F)),λj y v' e1 L e3=>?_⟩,λy c' e=>?_,I.free,I.d7,λp hp=>?_,tracked ⟨oc,hoc,I.d7 x c F⟩ l,by simpa using I.len⟩ ⟨c,l,.inr F⟩
  .exact (l.2 b (fq (gi (bz e) (I.ok.cab x c Z F)))).trans (I.ω.keep b o e n hb J)
  .obtain ⟨sl,e1⟩:=I.ω.slot b o e n hb J;show⟨sl,(l.2 b (fq (gi (bz e) (I.ok.cab x c Z F)))).trans e1⟩
  .obtain ⟨o',e1⟩:=I.ω.there b o e J;show⟨o',(l.2 b (fq (gi (bz e) (I.ok.cab x c Z F)))).trans e1⟩
  .by_cases Y:j=i
   .subst Y;rw[hi] at e1;cases e1;rw[kn U] at L;cases L;show⟨u,r,.inr ⟨.inl O,c,F,hc'⟩⟩
   .rw [jm (fg Y)] at L;obtain⟨u',r',q⟩:=hl j y v' e1 L e3;show⟨u',r',?_⟩;rcases q with q|⟨k,c',e,z'⟩
    .exact .inl q
    .refine .inr ⟨k,c',e,z'.sameBut l ?_⟩;rintro rfl;show Y (z5 hN e1 (I.ok.inj _ _ _ e F▸hi))
  .by_cases hcc:c'=c
   .subst hcc;show⟨_,hc'⟩
   .obtain ⟨w2,z2⟩:=I.cell y c' e;show⟨w2,z2.sameBut l hcc⟩
  .obtain ⟨e,n,ne,nf,d⟩:=I.pin p hp;show⟨(l.2 p.1 ?_).trans e,n,ne,nf,d⟩;intro q;rw[q,hoc] at e;have q':oc=p.2:=ee e;show d w' (by rw[<- q'];show Nw)
theorem jS(I:Φ X π σ H s)(hN:X.N.Nodup)(c:X.N[i]?=aa x)(a:Loc X.env.scope x)(r:Ψ v u)
  (h:∀s',Φ X π (σ.set i (aa v)) H s'->Q () s') (d:Zq X x:=by first|show .inl rfl|show .inr rfl|assumption):ax M A (storeName X.env x u) Q E s :=
 u7 I hN c a r (λs' j _=>h s' j) d
theorem Φ.call'(I:Φ X π σ H s)(ho:s'.os=s.os)(u:Un (frs X.stack) ch H H' s.heap s'.heap)(a:kN X.Ω X.w H' s'.heap)(j:lg s'.gens)
  (d:∀b∈ch,(b∈X.ex\/X.s₀.heap.objs.size<=b)/\b≠X.env.locals/\(∀x c,X.env.cells.lookup x=aa c->c≠b) /\∀p∈X.pn++π,p.1≠b):Φ X π σ H' s':=by
 obtain⟨h',g',d',t',h⟩:=s';have e:h=s.os:=ho;subst e;show I.call (g':=g') (t':=t') (d':=d') u a j d
end
abbrev XK:=ai->Option ah->Hp->Prop
abbrev St:=List (Option V)
abbrev VK:=V->Hp->Prop
abbrev TE:=St->Hp->VK->Prop
abbrev TT:=St->Hp->(Bool->Hp->Prop)->Prop
abbrev TA:=St->Hp->(List V->Hp->Prop)->Prop
structure Ends where
 nx:St->Hp->Prop
 rt:VK
 bk:St->Hp->Prop:=λ_ _=>False
 ct:St->Hp->Prop:=λ_ _=>False
abbrev TS:=Ends->St->Hp->Prop
def EP(X:Cx)(π:Q0b)(σ:St)(Q:VK)(u:ai)(s':ak):Prop:=∃v H',Φ X π σ H' s'/\Ψ v u/\Q v H'
def TP(X:Cx)(π:Q0b)(σ:St)(Q:Bool->Hp->Prop)(b:Bool)(s':ak):Prop:=∃H',Φ X π σ H' s'/\Q b H'
def AP(X:Cx)(π:Q0b)(σ:St)(Q:List V->Hp->Prop)(us:Q0f)(s':ak):Prop:=∃vs H',Φ X π σ H' s'/\θ vs us/\Q vs H'
def SP(X:Cx)(π:Q0b)(D:Ends)(f:Flow)(s':ak):Prop :=
 match f with
 |.next=>∃a H',Φ X π a H' s'/\D.nx a H'
 |.brk=>∃a H',Φ X π a H' s'/\D.bk a H'
 |.cont=>∃a H',Φ X π a H' s'/\D.ct a H'
 |.ret u=>∃v a H',Φ X π a H' s'/\Ψ v u/\D.rt v H'
def PE(X:Cx)(e:av)(t:TE):Prop :=
 ∀(π:Q0b) (s:ak) (σ:St) (H:Hp) (Q:VK),Φ X π σ H s->t σ H Q->ax (au X.Ω X.w) X.A (eval e X.env) (EP X π σ Q) X.xe s
def PT(X:Cx)(e:av)(t:TT):Prop :=
 ∀(π:Q0b) (s:ak) (σ:St) (H:Hp) (Q:Bool->Hp->Prop),Φ X π σ H s->t σ H Q->ax (au X.Ω X.w) X.A (isTrue e X.env (eval e X.env)) (TP X π σ Q) X.xe s
def PW(X:Cx)(e:av)(t:TT):Prop :=
 ∀(whole:gb ai) (π:Q0b) (s:ak) (σ:St) (H:Hp) (Q:Bool->Hp->Prop),Φ X π σ H s->t σ H Q->ax (au X.Ω X.w) X.A (isTrue e X.env whole) (TP X π σ Q) X.xe s
def PW.pt(h:PW X e t):PT X e t:=h _
def PA(X:Cx)(c:List av)(t:TA):Prop :=
 ∀(a:bq) (π:Q0b) (s:ak) (σ:St) (H:Hp) (Q:List V->Hp->Prop),Φ X π σ H s->t σ H Q->ax (au X.Ω X.w) X.A (spliced (cy a (ar c X.env))) (AP X π σ Q) X.xe s
def PS(X:Cx)(st:cn)(t:TS):Prop :=
 ∀(π:Q0b) (s:ak) (σ:St) (H:Hp) (D:Ends),Φ X π σ H s->t D σ H->ax (au X.Ω X.w) X.A (exec st X.env) (SP X π D) X.xe s
def tS(X:Cx)(st:List cn)(t:TS):Prop :=
 ∀(π:Q0b) (s:ak) (σ:St) (H:Hp) (D:Ends),Φ X π σ H s->t D σ H->ax (au X.Ω X.w) X.A (execs st X.env) (SP X π D) X.xe s
def dA{α:Type}{t:gb α}{Q Q':α->ak->Prop}{M:l_}{A:br}{E:Q0c}{s:ak}(h:ax M A t Q E s)(c:∀a s,Q a s->Q' a s):ax M A t Q' E s:=gp h c λ_ _ x=>x
section
variable{X:Cx}
def oK(i:Nat):TE:=λσ H Q=>∃v,σ[i]?=aa (aa v)/\Q v H
def tC(v:V):TE:=λ_ H Q=>Q v H
def gE(hN:X.N[i]?=aa x)(p:qN X.env.scope x)(j:Zu x:=by decide)(n:Zt x:=by decide):PE X (.Name x ν) (oK i):=by
 intro π s σ H Q I h;obtain⟨v,e,h⟩:=h;obtain⟨m,q,z⟩:=I.loc;obtain⟨u,r,l⟩:=z i x v hN e p;have fin:EP X π σ Q u s:=⟨v,H,I,r,h⟩;rcases l with⟨d,y⟩|⟨d,c,o,a⟩
 .exact Bo (wpAny_loadName_local I.ok.kind d q y fin) j
 .rcases d with d|d
  .exact Bo (wpAny_loadName_cell I.ok.kind d o a fin) j
  .exact Bo (wpAny_loadName_free I.ok.kind d o a fin n) j
def XX{i j ν}:PE X (.Constant (.int i) j ν) (tC (.int i)):=λ_ _ _ H _ I h=>wpAny_Constant_int ⟨.int i,H,I.tok _,⟨_,rfl⟩,h⟩
def Ua{b j ν}:PE X (.Constant (.bool b) j ν) (tC (.bl b)):=λ_ _ _ H _ I h=>Constant_bool ⟨.bl b,H,I,rfl,h⟩
def XY{j ν}:PE X (.Constant .none j ν) (tC .non):=λ_ _ _ H _ I h=>Constant_none ⟨.non,H,I,rfl,h⟩
def XZ{x j ν}:PE X (.Constant (.str x) j ν) (tC (.str x)):=λ_ _ _ H _ I h=>Calls.Constant_str ⟨.str x,H,I.tok _,⟨_,rfl⟩,h⟩
def Gl(X:Cx)(x:aj):Prop:=X.env.kindOf x=aa .globalImplicit
theorem mT(I:Φ X π σ H s)(c:Gl X x)(a:X.mg x=aa u)(h:Q u s)
  (d:Zu x:=by decide):ax (au X.Ω X.w) X.A (eval (.Name x ν) X.env) Q E s :=
 Y_ I.ok.kind c (Calls.loadGlobal_global (by rw[I.ok.glob];show I.mod.glob.keeps I.bk) a h) d
theorem lP(I:Φ X π σ H s)(j:Gl X x)(d:X.mg x=af)(a:bootBuiltins x=aa u)(h:Q u s)
  (c:x ≠ "__name__":=by decide) (l:Zu x:=by decide):ax (au X.Ω X.w) X.A (eval (.Name x ν) X.env) Q E s:=by
 obtain⟨mb,m,h2⟩:=I.mod.blt;show Y_ I.ok.kind j (Calls.loadGlobal_builtin (by rw[I.ok.glob];show I.mod.glob.keeps I.bk) d (by rw[I.ok.blt];show m.keeps I.bk) ((h2 x c).trans a) h) l
def RN(c:Gl X x)(a:X.mg x=aa u)(r:Ψ v u)(d:Zu x:=by decide):PE X (.Name x ν) (tC v) :=
 λ_ _ _ H _ I h=>mT I c a ⟨v,H,I,r,h⟩ d
def FC(j:Gl X x)(d:X.mg x=af)(a:bootBuiltins x=aa u)(r:Ψ v u)(c:x ≠ "__name__":=by decide)(l:Zu x:=by decide):PE X (.Name x ν) (tC v) :=
 λ_ _ _ H _ I h=>lP I j d a ⟨v,H,I,r,h⟩ c l
variable{a b:av}{ta tb:TE}{ν:bq}
def PC(X:Cx)(op:CmpOp)(a b:av)(t:TE):Prop :=
 ∀(π:Q0b) (s:ak) (σ:St) (H:Hp) (Q:VK),Φ X π σ H s->t σ H Q ->
  ax (au X.Ω X.w) X.A (eval a X.env) (λv d=>ax (au X.Ω X.w) X.A (eval b X.env) (λu c=>ax (au X.Ω X.w) X.A (compareOp op v u) (EP X π σ Q) X.xe c) X.xe d) X.xe s
def tB(t:TE):TT:=λσ H Q=>t σ H λx H1=>∃c,x=.bl c/\Q c H1
def X0{op:CmpOp}{t:TE}(h:PC X op a b t)(j:behindInMarks op b=ag:=by first|show aBV _ (by decide) (by decide)|rfl):PT X (.Compare a [op] [b] ν) (tB t):=by intro π s σ H Q I hw;show We (dA (h π s σ H _ I hw) λv n j=>dA j λu m h2=>dA h2 λc s3 ⟨x,H1,l,r1,q1⟩=>?_) j;obtain⟨d,rfl,q⟩:=q1;cases r1;show ko ⟨H1,l,q⟩
variable{tA tB':TT}{Θ:List av}
def kU(t u:TT):TT:=λσ H Q=>t σ H λc H1=>if c=ae then u σ H1 Q else Q ag H1
def WN(t u:TT):TT:=λσ H Q=>t σ H λc H1=>if c=ae then Q ae H1 else u σ H1 Q
def nO(t:TT):TT:=λσ H Q=>t σ H λc H1=>Q (!c) H1
theorem RP(d:PT X a tA):PW X (.BoolOp .And [a] ν) tA:=by
 intro j π s σ H Q I h;show isTrue_and (dA (d π s σ H Q I h) λc l e=>?_)
 cases c with
 |true=>show isTrue_and_nil e
 |false=>show e
theorem X1(d:PT X a tA):PW X (.BoolOp .Or [a] ν) tA:=by
 intro j π s σ H Q I h;show isTrue_or (dA (d π s σ H Q I h) λc l e=>?_)
 cases c with
 |false=>show isTrue_or_nil e
 |true=>show e
theorem X2(n:PT X a tA)(m:PW X (.BoolOp .And (b::Θ) ν) tB'):PW X (.BoolOp .And (a::b::Θ) ν) (kU tA tB'):=by
 intro j π s σ H Q I h;show isTrue_and (dA (n π s σ H _ I h) λc l ⟨H1,d,q1⟩=>?_)
 cases c with
 |true=>show m j π l σ H1 Q d q1
 |false=>show⟨H1,d,q1⟩
theorem T_(n:PT X a tA)(m:PW X (.BoolOp .Or (b::Θ) ν) tB'):PW X (.BoolOp .Or (a::b::Θ) ν) (WN tA tB'):=by
 intro j π s σ H Q I h;show isTrue_or (dA (n π s σ H _ I h) λc l ⟨H1,d,q1⟩=>?_)
 cases c with
 |true=>show⟨H1,d,q1⟩
 |false=>show m j π l σ H1 Q d q1
def X3(d:PT X a tA):PT X (.UnaryOp .Not a ν) (nO tA):=by intro π s σ H Q I h;show isTrue_not (d π s σ H (λc H1=>Q (!c) H1) I h)
def TM(ta tb:TE):TE:=λσ H Q=>ta σ H λx H1=>∃c,x=.bl c/\if c=ae then tb σ H1 Q else Q (.bl ag) H1
def Nv(ta tb:TE):TE:=λσ H Q=>ta σ H λx H1=>∃c,x=.bl c/\if c=ae then Q (.bl ae) H1 else tb σ H1 Q
def Tz(ta:TE):TE:=λσ H Q=>ta σ H λx H1=>∃c,x=.bl c/\Q (.bl (!c)) H1
def X4{op}(h:PE X a t):PE X (.BoolOp op [a] ν) t:=λπ s σ H Q I hw=>BoolOp_one (h π s σ H Q I hw)
theorem X5(m:PE X a ta)(l:PE X (.BoolOp .And (b::Θ) ν) tb):PE X (.BoolOp .And (a::b::Θ) ν) (TM ta tb):=by
 intro π s σ H Q I h;show BoolOp_and (dA (m π s σ H _ I h) λv j ⟨x,H1,d,r1,q1⟩=>?_);obtain⟨c,rfl,q1⟩:=q1;cases r1;show ko ?_
 cases c with
 |true=>show l π j σ H1 Q d q1
 |false=>show⟨.bl ag,H1,d,rfl,q1⟩
theorem Tx(m:PE X a ta)(l:PE X (.BoolOp .Or (b::Θ) ν) tb):PE X (.BoolOp .Or (a::b::Θ) ν) (Nv ta tb):=by
 intro π s σ H Q I h;show BoolOp_or (dA (m π s σ H _ I h) λv j ⟨x,H1,d,r1,q1⟩=>?_);obtain⟨c,rfl,q1⟩:=q1;cases r1;show ko ?_
 cases c with
 |false=>show l π j σ H1 Q d q1
 |true=>show⟨.bl ae,H1,d,rfl,q1⟩
def X6(d:PE X a ta):PE X (.UnaryOp .Not a ν) (Tz ta):=by intro π s σ H Q I h;show UnaryOp_ (dA (d π s σ H _ I h) λv l ⟨x,H1,j,r1,q1⟩=>?_);obtain⟨c,rfl,q1⟩:=q1;cases r1;show not_of (ko ⟨.bl (!c),H1,j,rfl,q1⟩)
end
def dS(K:ao)(H:Hp)(a:ah)(xs:List V):Prop :=
 Rd H a (.lst xs) \/
  ∃(o:ay) (c:Array ai) (n:Nat),K.lookup a=aa o/\o.cls=.type "list" /\o.dict=af/\o.data=.seq c n/\c.size<=bj/\θ xs c.toList
def dZ(K:ao)(H:Hp)(a:ah)(xs:List V):Prop :=
 Rd H a (.tup xs) \/
  ∃(o:ay) (c:Array ai) (n:Nat),K.lookup a=aa o/\o.cls=.type "tuple" /\o.data=.seq c n/\c.size<=bj/\θ xs c.toList
noncomputable def Nu:ai->Option V
 |.none=>aa .non
 |.bool b=>aa (.bl b)
 |.int i _=>aa (.int i)
 |.str x _=>aa (.str x)
 |.bytes b _=>aa (.HJ b)
 |.float b _=>aa (.flt b)
 |.ref a=>aa (.ref a)
 |.type n=>aa (.ty n)
 |_=>af
theorem Ψ.abs(r:Ψ x u):Nu u=aa x:=by
 cases x with
 |non=>cases r;rfl
 |bl _=>cases r;rfl
 |int _=>obtain⟨t,rfl⟩:=r;rfl
 |str _=>obtain⟨t,rfl⟩:=r;rfl
 |HJ _=>obtain⟨t,rfl⟩:=r;rfl
 |flt _=>obtain⟨t,rfl⟩:=r;rfl
 |ref _=>cases r;rfl
 |ty _=>cases r;rfl
def Ψ.inj{x y:V}{u:ai}(r:Ψ x u)(q:Ψ y u):x=y:=ee (r.abs.symm.trans q.abs)
theorem θ.inj:∀{xs ys:List V} {us:Q0f},θ xs us->θ ys us->xs=ys
 |_,_,_,.nil,.nil=>rfl
 |_,_,_,.cons r t,.cons r' t'=>by rw[r.inj r',θ.inj t t']
section
variable{X:Cx}{π:Q0b}{σ:St}{H:Hp}{s:ak}{a:ah}{xs ys:List V}
def dS.of{K:ao}(h:H a=aa (.lst xs)):dS K H a xs:=.inl (.inl h)
def dZ.of{K:ao}(h:H a=aa (.tup xs)):dZ K H a xs:=.inl (.inl h)
def Φ.list(I:Φ X π σ H s)(h:dS X.K H a xs):∃c:Q0f,θ xs c/\PlainL s.heap a c.toArray/\xs.length<=bj:=by
 rcases h with h|⟨o,c,n,j,m,l,d,p,r⟩
 .obtain ⟨z,c,n,r,e⟩:=h.ok I.hok;show⟨c,r,⟨_,n,e,rfl,rfl,rfl⟩,z⟩
 .refine ⟨c.toList,r,⟨o,n,I.oJ a o j,m,l,by simpa using d⟩,?_⟩;have e:=r.length;simp only[gz] at e;lia
def Φ.tuple(I:Φ X π σ H s)(h:dZ X.K H a xs):∃c:Q0f,θ xs c/\h_ s.heap a c.toArray/\xs.length<=bj:=by
 rcases h with h|⟨o,c,n,j,l,d,m,r⟩
 .obtain ⟨z,c,r,p,_⟩:=h.ok I.hok;show⟨c,r,p,z⟩
 .refine ⟨c.toList,r,⟨o,I.oJ a o j,l,n,by simpa using d⟩,?_⟩;have e:=r.length;simp only[gz] at e;lia
def Φ.mU(I:Φ X π σ H s)(h:dS X.K H a xs)(h':dS X.K H a ys):xs=ys:=by
 obtain⟨j,r,⟨o,n,e,_,_,d⟩,_⟩:=I.list h;obtain⟨its',l,⟨p,q,c,_,_,d'⟩,_⟩:=I.list h';rw[e] at c;cases c;rw[d] at d';injection d' with m _;have:j=its':=by simpa using congrArg a1a m
 subst this;show r.inj l
def Φ.iD(I:Φ X π σ H s)(h:dZ X.K H a xs)(h':dZ X.K H a ys):xs=ys:=by
 obtain⟨j,r,⟨o,e,_,n,d⟩,_⟩:=I.tuple h;obtain⟨its',l,⟨p,c,_,q,d'⟩,_⟩:=I.tuple h';rw[e] at c;cases c;rw[d] at d';injection d' with m _;have:j=its':=by simpa using congrArg a1a m
 subst this;show r.inj l
end
abbrev Cx.wish(X:Cx)(E:Q0c):Cx:={X with xe:=E}
abbrev Cx.CN(X:Cx):Cx:=X.wish λ_ _=>False
def Cx.Ok.wish{X:Cx}(ok:X.Ok)(E:Q0c):(X.wish E).Ok :=
 ⟨ok.mod,ok.kind,ok.glob,ok.blt,ok.above,ok.inj,ok.has,ok.cab,ok.hd,ok.frames,ok.stk,ok.exf,ok.bs,ok.FA,ok.z4,ok.CM,ok.jR,ok.P0,ok.tab⟩
def Cx.Ok.jT{X:Cx}{E:Q0c}(ok:(X.wish E).Ok):X.Ok :=
 ⟨ok.mod,ok.kind,ok.glob,ok.blt,ok.above,ok.inj,ok.has,ok.cab,ok.hd,ok.frames,ok.stk,ok.exf,ok.bs,ok.FA,ok.z4,ok.CM,ok.jR,ok.P0,ok.tab⟩
section
variable{X:Cx}{π:Q0b}{σ:St}{H:Hp}{s:ak}{E:Q0c}
def Φ.wish(I:Φ X π σ H s)(E:Q0c):Φ (X.wish E) π σ H s:=⟨I.ok.wish E,I.os,I.bare,I.ω,I.loc,I.cell,I.free,I.d7,I.pin,I.hok,I.len⟩
def Φ.jT(I:Φ (X.wish E) π σ H s):Φ X π σ H s:=⟨I.ok.jT,I.os,I.bare,I.ω,I.loc,I.cell,I.free,I.d7,I.pin,I.hok,I.len⟩
theorem SP.jT{D:Ends}{f:Flow}{s':ak}(h:SP (X.wish E) π D f s'):SP X π D f s':=by
 cases f with
 |next=>obtain⟨a,H',I,q⟩:=h;show⟨a,H',I.jT,q⟩
 |brk=>obtain⟨a,H',I,q⟩:=h;show⟨a,H',I.jT,q⟩
 |cont=>obtain⟨a,H',I,q⟩:=h;show⟨a,H',I.jT,q⟩
 |ret u=>obtain⟨v,a,H',I,r,q⟩:=h;show⟨v,a,H',I.jT,r,q⟩
def tS.CN{st:List cn}{t:TS}(h:tS X.CN st t):tS X st t:=λπ s σ H D I hw =>
 gp (h π s σ H D (I.wish _) hw) (λ_ _ q=>q.jT) λ_ _ z=>jt z
variable{st:cn}{Θ:List cn}{t u:TS}{e:av}{te:TE}{ν:bq}
def Ur:TS:=λD σ H=>D.nx σ H
def CO(t u:TS):TS:=λD σ H=>t {D with nx:=u D} σ H
def FD:tS X [] Ur:=λ_ _ σ H _ I h=>Bm ⟨σ,H,I,h⟩
theorem sD(d:PS X st t)(h2:tS X Θ u):tS X (st::Θ) (CO t u):=by
 intro π s σ H D I h;show Bn (dA (d π s σ H {D with nx:=u D} I h) λf c q=>?_)
 cases f with
 |next =>
  obtain⟨a,H',j,q⟩:=q;show h2 π c a H' D j q
 |ret v=>show q
 |brk=>show q
 |cont=>show q
theorem FE(a:PS X st t):tS X [st] t:=by
 intro π s σ H D I h;show Bn (dA (a π s σ H D I h) λf c q=>?_)
 cases f with
 |next=>show Bm q
 |ret v=>show q
 |brk=>show q
 |cont=>show q
def Φ.quiet(I:Φ X π σ H s):interactive X.env=ag:=by simp[interactive,I.ok.kind]
def Uq(te:TE):TS:=λD σ H=>te σ H λ_ H1=>D.nx σ H1
def FF(c:PE X e te)(a:gk e af ν.line X.env=pure ag:=by rfl):PS X (.Expr e ν) (Uq te):=by intro π s σ H D I h;show wpAny_Expr_any (dA (c π s σ H _ I h) λv j ⟨x,H1,d,r1,q1⟩=>⟨σ,H1,d,q1⟩) I.quiet a
def Ba(te:TE):TS:=λD σ H=>te σ H D.rt
def LP(a:PE X e te):PS X (.Return (aa e) ν) (Ba te):=by intro π s σ H D I h;show wpAny_Return_some (dA (a π s σ H _ I h) λv d ⟨x,H1,c,r1,q1⟩=>⟨x,σ,H1,c,r1,q1⟩)
def Nt(c:TT)(t u:TS):TS:=λD σ H=>c σ H λb H1=>if b=ae then t D σ H1 else u D σ H1
theorem Uo(m:PT X c tc)(o:tS X a t)(n:tS X b u):PS X (.If c a b ν) (Nt tc t u):=by
 intro π s σ H D I h;show wpAny_If (dA (m π s σ H _ I h) λd j ⟨H1,l,q1⟩=>?_)
 cases d with
 |true=>show o π j σ H1 D l q1
 |false=>show n π j σ H1 D l q1
end
abbrev TG:=V->St->Hp->(St->Hp->Prop)->Prop
abbrev TGs:=List V->St->Hp->(St->Hp->Prop)->Prop
def PG(X:Cx)(target:av)(t:TG):Prop :=
 ∀(π:Q0b) (s:ak) (σ:St) (H:Hp) (v:V) (u:ai) (Q:St->Hp->Prop),Φ X π σ H s->Ψ v u->t v σ H Q ->
  ax (au X.Ω X.w) X.A (assign target X.env u) (λ_ s'=>∃a H',Φ X π a H' s'/\Q a H') X.xe s
def PGs(X:Cx)(c:List av)(t:TGs):Prop :=
 ∀(π:Q0b) (s:ak) (σ:St) (H:Hp) (vs:List V) (us:Q0f) (Q:St->Hp->Prop),Φ X π σ H s->θ vs us->t vs σ H Q ->
  ax (au X.Ω X.w) X.A (assignInOrder ((e_ c X.env).map (·.2)) us) (λ_ s'=>∃a H',Φ X π a H' s'/\Q a H') X.xe s
section
variable{X:Cx}{ν:bq}
def vA(i:Nat):TG:=λv σ H Q=>Q (σ.set i (aa v)) H
def iS(hN:X.N.Nodup)(c:X.N[i]?=aa x)(a:Loc X.env.scope x)(d:Zq X x:=by first|show .inl rfl|show .inr rfl|assumption):PG X (.Name x ν) (vA i):=by intro π s σ H v u Q I r h;show Wl (jS I hN c a r (λs' j=>⟨_,H,j,h⟩) d)
def Nr:TGs:=λvs σ H Q=>vs=[]/\Q σ H
def Um(t:TG)(u:TGs):TGs:=λvs σ H Q=>∃v r,vs=v::r/\t v σ H λa H'=>u r a H' Q
def FG:PGs X [] Nr:=by intro π s σ H vs us Q I r h;obtain⟨e,h⟩:=h;subst e;cases r;show a0i ⟨σ,H,I,h⟩
theorem mV(j:PG X e t)(h2:PGs X es u)
  (d:(e_ (e::es) X.env).map (·.2)=assign e X.env::(e_ es X.env).map (·.2):=by rfl):PGs X (e::es) (Um t u):=by
 intro π s σ H vs us Q I r h;obtain⟨v,m,e1,h⟩:=h;subst e1
 cases r with
 |cons r rr =>
  rw[d];show Cv (dA (j π s σ H _ _ _ I r h) λ_ c ⟨a,H1,l,q1⟩=>?_);show h2 π c a H1 _ _ Q l rr q1
def Nq(K:ao)(n:Nat)(t:TGs):TG:=λv σ H Q=>∃a xs,v=.ref a/\dZ K H a xs/\xs.length=n/\t xs σ H Q
theorem LQ(x:X.calm=ae)(h:PGs X es t)
  (p:(e_ es X.env).length=n:=by rfl) (c:(e_ es X.env).findIdx? (·.1)=af:=by rfl):PG X (.Tuple es k ν) (Nq X.K n t):=by
 intro π s σ H v u Q I r hw;obtain⟨a,xs,e1,m,q,hw⟩:=hw;subst e1;cases r;obtain⟨z,d,l,A⟩:=I.tuple m;show assign_Tuple_tuple (I.ok.hd x) l (by simp[p,<- q,d.length]) c λh' j=>?_;have y:Φ X π σ H {s with heap:=h' }:=I.kept (t':=s.toks) λb o e=>j b o (fq (bz e)) e;show h π _ σ H xs _ Q y (by simpa using d) hw
def X7(te:TE)(g:TG):TS:=λD σ H=>te σ H λx H1=>g x σ H1 D.nx
def X8(j:PE X e te)(d:PG X tg g)(c:swapsWithSole [tg] e ν.line X.env=pure ag:=by rfl)(hw:swappedStores [tg] e X.env=pure af:=by rfl)
  (l:(e_ [tg] X.env).map (·.2)=[assign tg X.env]:=by rfl):PS X (.Assign [tg] e ν) (X7 te g):=by
 intro π s σ H D I h;show wpAny_Assign_stores (dA (j π s σ H _ I h) λv a ⟨x,H1,m,r1,q1⟩=>?_) c hw;rw[l];show dA (d π a σ H1 x v _ m r1 q1) λ_ n q=>q
def oM(hN:X.N.Nodup)(d:X.N[i]?=aa x)(a:Loc X.env.scope x)(l:PE X e te)(c:Si X e x pos' ν:=by rfl)(j:Zq X x:=by first|show .inl rfl|show .inr rfl|assumption):
  PS X (.Assign [.Name x pos'] e ν) (X7 te (vA i)):=by
 intro π s σ H D I h;show wpAny_Assign_Name (dA (l π s σ H _ I h) λv p ⟨y,H1,n,r1,q1⟩=>?_) c;show jS n hN d a r1 (λo m=>⟨_,H1,m,q1⟩) j
def Np(i j:Nat)(a:TA):TS:=λD σ H=>a σ H λvs H1=>∃v w,vs=[v,w]/\D.nx ((σ.set i (aa v)).set j (aa w)) H1
theorem X9{kt k2 J3}(O:X.calm=ae)(hN:X.N.Nodup)(L:X.N[i]?=aa x)(K:X.N[j]?=aa y)(l:i≠j)
  (n:X.env.scope.names.lookup x=aa .local) (m:X.env.scope.names.lookup y=aa .local) (U:PA X [a,b] ta)
  (hw:swappedStores [.Tuple [.Name x px,.Name y py] kt pt] (.Tuple [a,b] k2 J3) X.env=pure (aa [x,y]))
  (J:swapsWithSole [.Tuple [.Name x px,.Name y py] kt pt] (.Tuple [a,b] k2 J3) ν.line X.env=pure ag:=by rfl):
  PS X (.Assign [.Tuple [.Name x px,.Name y py] kt pt] (.Tuple [a,b] k2 J3) ν) (Np i j ta):=by
 intro π s σ H D I h;rw[exec_Assign_arm];show aq (Bf ?_);rw[J];show aq (az ?_);rw[Zz (by decide)];show aq (Tuple_ (dA (U _ π s σ H _ I h) λus c ⟨vs,H1,I1,r1,q1⟩=>?_));obtain⟨v,w,e1,q1⟩:=q1;subst e1;obtain⟨u1,u2,rfl,F,z⟩:∃u1 u2,us=[u1,u2]/\Ψ v u1/\Ψ w u2:=by
  cases r1 with
  |cons p q =>
   cases q with
   |cons p' q' =>
    cases q';show⟨_,_,rfl,p,p'⟩
 show qm ?_ (by show 2<=bj;decide);have I2:Φ X π σ H1 {c with heap:=c.heap.push {cls:=.type "tuple",data:=.seq [u1,u2].toArray} }:=I1.kept (t':=c.toks) λb o e=>cx _ e;rw[hw];show aq (az ?_);show ax (au X.Ω X.w) X.A (do rule "assign.swapped-stores";let items <- unpackItems (.ref c.heap.objs.size) 2 af;assignInOrder [λv=>bindName X.env y v,λv=>bindName X.env x v] items.reverse;pure Yf) _ _ _;show aq (i_ (aq (unpackItems_tuple (items:=#[u1,u2]) (I.ok.hd O) (yo c.heap _) λh' d=>?_)));have Z:=I2.kept (h':=h') (t':=c.toks) λb o e=>d b o (fq (bz e)) e;show ax _ _ (assignInOrder [λv=>bindName X.env y v,λv=>bindName X.env x v] [u2,u1] >>= λ_=>pure Yf) _ _ _;show aq (Cv (Wk (jS Z hN K (.inl m) z (λs2 Y=>?_) (.inr m))));show Cv (Wk (jS Y hN L (.inl n) F (λs3 u=>a0i (az ?_)) (.inr n)));rw[List.set_comm _ _ (fg l)] at u;show⟨_,H1,u,q1⟩
end
structure It where
 go:Nat->Hp->Prop
 yld:Nat->Hp->V->Hp->Prop
 stop:Nat->Hp->Prop
def k6(X:Cx)(π:Q0b)(H:Hp)(b:ah):Prop :=
 H b=af/\b≠X.env.locals/\b∉X.fs/\(b∈X.ex\/X.s₀.heap.objs.size<=b)/\(∀x c,X.env.cells.lookup x=aa c->c≠b) /\∀p∈X.pn++π,p.1≠b
def Φ.xS(I:Φ X π σ H s)(a:s.heap.objs.size<=b)(h:H' b=af):k6 X π H' b:=by
 show⟨h,nu (gi I.lt a),I.Ny a,.inr (ig I.sz a),λx c e z=>?_,λp d z=>?_⟩
 .obtain ⟨v,q⟩:=I.cell x c e;show Zw (gi q.lt (by rw[z];show a)) (jq _)
 .exact Zw (gi (bz (I.pin p d).1) (by rw[z];show a)) (jq _)
structure Turn (P:bg) (w:a_) (K:ao) (tg:av) (J:It) (fp:List ah) (it:ah) (tn:Nat->ba->Prop):Prop where
 mem:it∈fp
 obj:∀i h,tn i h ->∀b∈fp,∃o,h.get? b=aa o /\∀v,o.data≠.cell v
 keep:∀i h h',tn i h->(∀b∈fp,∀o,h.get? b=aa o->h'.get? b=aa o)->tn i h'
 item:∀(X:Cx),X.Ω=P->X.w=w->X.K=K->X.calm=ae ->∀(i:Nat) (π:Q0b) (s:ak) (σ:St) (H:Hp) (E:Q0c),Φ X π σ H s->(∀b∈fp,k6 X π H b)->tn i s.heap->J.go i H ->
  ax (au P w) X.A (pyNext (.ref it)) (λr s1=>∃u,r=aa u /\
   ax (au P w) X.A (letOwnedTupleGo tg (.ref it) u) (λ_ s2=>∃x H',Φ X π σ H' s2/\Ψ x u/\J.yld i H x H'/\tn (i+1) s2.heap /\∀b∈fp,H' b=af) E s1) E s
 done:∀(X:Cx),X.Ω=P->X.w=w->X.K=K->X.calm=ae ->∀(i:Nat) (π:Q0b) (s:ak) (σ:St) (H:Hp) (E:Q0c),Φ X π σ H s->(∀b∈fp,k6 X π H b)->tn i s.heap->J.stop i H ->
  ax (au P w) X.A (pyNext (.ref it)) (λr s1=>r=af/\Φ X π σ H s1) E s
 self:∀(A:br) (i:Nat) (s:ak) (Q:Q0c) (E:Q0c),tn i s.heap->Q (.ref it) s->ax (au P w) A (pyIter (.ref it)) Q E s
abbrev TI:=St->Hp->(It->Hp->Prop)->Prop
def PIE(X:Cx)(π:Q0b)(σ:St)(h:av)(R:It->Hp->Prop)(a:ai)(c:ak):Prop :=
 ∃(it:ah) (d:List ah) (tn:Nat->ba->Prop) (J:It) (H':Hp),a=.ref it/\Φ X π σ H' c/\Turn X.Ω X.w X.K h J d it tn/\tn 0 c.heap/\(∀b∈d,k6 X π H' b)/\R J H'
def PI(X:Cx)(a iter:av)(wi:TI):Prop :=
 ∀(π:Q0b) (s:ak) (σ:St) (H:Hp) (R:It->Hp->Prop),Φ X π σ H s->wi σ H R ->
  ax (au X.Ω X.w) X.A (eval iter X.env) (λv c=>ax (au X.Ω X.w) X.A (pyIter v) (PIE X π σ a R) X.xe c) X.xe s
theorem LR(ho:s.heap.get? it=aa o)(j:o.cls=.type n)(d:o.data=.fields vs)
  (c:["enumerate","zip","dict_itemiterator","dict_reverseitemiterator","odict_iterator","itertools.zip_longest","itertools.pairwise"].contains n=ag) (a:Q () s):ax M A (letOwnedTupleGo tg (.ref it) u) Q E s:=by
 unfold letOwnedTupleGo;cases tg<;>first
  |show az a
  | (cases u<;>first
    |show az a
    | (show aq (Bj ho ?_)
       rw[j,d];show ax M A (if(["enumerate","zip","dict_itemiterator","dict_reverseitemiterator","odict_iterator","itertools.zip_longest","itertools.pairwise"].contains n&&vs[0]? == aa (rawInt _))=ae then _ else _) Q E s;rw[Zz (by intro h;rw[c,sh] at h;cases h)];show az a))
def Itl(K:ao)(a:ah):It :=
 ⟨λi H=>∃xs x,dS K H a xs/\xs[i]?=aa x,λi H x H'=>H'=H /\∀xs,dS K H a xs->xs[i]?=aa x,λi H=>∃xs,dS K H a xs/\xs.length<=i⟩
def Itt(K:ao)(a:ah):It :=
 ⟨λi H=>∃xs x,dZ K H a xs/\xs[i]?=aa x,λi H x H'=>H'=H /\∀xs,dZ K H a xs->xs[i]?=aa x,λi H=>∃xs,dZ K H a xs/\xs.length<=i⟩
def Itr(lo:Int)(n:Nat):It:=⟨λi _=>i<n,λi H x H'=>H'=H/\x=.int (lo+i),λi _=>n<=i⟩
theorem vB{P:bg}{w:a_}{K:ao}{tg:av}(a it:ah):Turn P w K tg (Itl K a) [it] it (λi h=>h.IsListIter it a i) where
 mem:=by simp
 obj:=λi h st b j=>by
  have e:b=it:=by simpa using j
  subst e;obtain⟨o,e,c,d⟩:=st;show⟨o,e,λv z=>by rw[d] at z;cases z⟩
 keep:=λi h h' st k=>st.at λo e=>k it (by simp) o e
 item:=by intro X F hw J hc i π s σ H E I n st A;subst F hw J;obtain⟨xs,x,m,y⟩:=A;obtain⟨ι,q,p,hz⟩:=I.list m;obtain⟨u,hu,ru⟩:=q.get y;obtain⟨Z,Y,f2,U,O,L⟩:=n it (by simp);show wpAny_pyNext_list_item st p.isList (x:=u) (by simpa using hu) λh' l sb=>?_;have I1:Φ X π σ H {s with heap:=h' }:=I.turned (t':=s.toks) (λb o j e=>(sb.2 b j).trans e) Z Y U O L;obtain⟨o,e,c,d⟩:=id l;show⟨u,rfl,LR (s:={s with heap:=h' }) e c d (by decide) ⟨x,H,I1,ru,⟨rfl,λys hy=>by rw[I.mU hy m];show y⟩,l,λb j=>(n b j).1⟩⟩
 done:=by intro X F hw J hc i π s σ H E I n st A;subst F hw J;obtain⟨xs,m,y⟩:=A;obtain⟨ι,q,p,hz⟩:=I.list m;obtain⟨Z,Y,f2,U,O,L⟩:=n it (by simp);have hl:=q.length;show wpAny_pyNext_list_end (I.ok.hd hc) st p.isList (by simp;lia) λh' eb=>⟨rfl,I.turned (t':=s.toks) (λb o j e=>eb b o j e) Z Y U O L⟩
 self:=λ_ _ _ _ _ st h=>wpAny_pyIter_listiter st h
theorem CP{P:bg}{w:a_}{K:ao}{tg:av}(a it:ah):Turn P w K tg (Itt K a) [it] it (λi h=>h.IsTupleIter it a i) where
 mem:=by simp
 obj:=λi h st b j=>by
  have e:b=it:=by simpa using j
  subst e;obtain⟨o,e,c,d⟩:=st;show⟨o,e,λv z=>by rw[d] at z;cases z⟩
 keep:=λi h h' st k=>st.at λo e=>k it (by simp) o e
 item:=by intro X J hw L hc i π s σ H E I n st F;subst J hw L;obtain⟨xs,x,m,A⟩:=F;obtain⟨q,y,p,hz⟩:=I.tuple m;obtain⟨u,hu,ru⟩:=y.get A;obtain⟨f0,Z,f2,Y,U,O⟩:=n it (by simp);show wpAny_pyNext_tuple_item st (show s.heap.IsTuple a q.toArray from p) (x:=u) (by simpa using hu) λh' l sb=>?_;have I1:Φ X π σ H {s with heap:=h' }:=I.turned (t':=s.toks) (λb o j e=>(sb.2 b j).trans e) f0 Z Y U O;obtain⟨o,e,c,d⟩:=id l;show⟨u,rfl,LR (s:={s with heap:=h' }) e c d (by decide) ⟨x,H,I1,ru,⟨rfl,λys hy=>by rw[I.iD hy m];show A⟩,l,λb j=>(n b j).1⟩⟩
 done:=by intro X J hw L hc i π s σ H E I n st F;subst J hw L;obtain⟨xs,m,A⟩:=F;obtain⟨q,y,p,hz⟩:=I.tuple m;obtain⟨f0,Z,f2,Y,U,O⟩:=n it (by simp);have hl:=y.length;show wpAny_pyNext_tuple_end (I.ok.hd hc) st (show s.heap.IsTuple a q.toArray from p) (by simp;lia) λh' eb=>⟨rfl,I.turned (t':=s.toks) (λb o j e=>eb b o j e) f0 Z Y U O⟩
 self:=λ_ _ _ _ _ st h=>wpAny_pyIter_tupleiter st h
theorem CQ{P:bg}{w:a_}{K:ao}{L:av}(it:ah)(lo:Int)(n:Nat):Turn P w K L (Itr lo n) [it] it (λi h=>Yd h it (lo+(i:Nat)*1) ((n:Int)-(i:Nat)) 1) where
 mem:=by simp
 obj:=λi h st b a=>by
  have e:b=it:=by simpa using a
  subst e;show⟨_,st,λv z=>by have J:Data.fields _=Data.cell v:=z;cases J⟩
 keep:=λi h h' st k=>k it (by simp) _ st
 item:=by intro X m hw p l i π s σ H E I d st j;subst m hw p;obtain⟨A,y,Y,x,u,q⟩:=d it (by simp);have W:=Walks.range (prog:=X.Ω) (w:=X.w) (I.ok.hd l) it lo 1 n;show W.item i s _ _ j st λv h' F U c O=>?_;obtain⟨t,rfl⟩:=U;have I1:Φ X π σ H {s with heap:=h',toks:=F}:=I.turned (λb o a e=>O b o (by simpa using a) e) A y x u q;show⟨_,rfl,LR (s:={s with heap:=h',toks:=F}) (n:="range_iterator") c rfl rfl (by decide) ⟨.int (lo+i),H,I1,⟨t,?_⟩,⟨rfl,rfl⟩,c,λb a=>(d b a).1⟩⟩;rw[a01]
 done:=by intro X m hw p l i π s σ H E I d st j;subst m hw p;obtain⟨A,y,Y,x,u,q⟩:=d it (by simp);show wpAny_pyNext_range_end (I.ok.hd l) st (by have:n<=i:=j;lia) λh' Z=>⟨rfl,I.turned (t':=s.toks) (λb o a e=>Z b o a e) A y x u q⟩
 self:=λ_ _ _ _ _ st h=>wpAny_pyIter_rangeiter st h
section
variable{X:Cx}{tg:av}
def LS(K:ao)(c:TE):TI:=λσ H R=>c σ H λx H1=>∃a,x=.ref a/\(∃xs,dS K H1 a xs)/\R (Itl K a) H1
def RQ{l:av}{m:TE}(u:PE X l m):PI X tg l (LS X.K m):=by
 intro π s σ H R I h;show dA (u π s σ H _ I h) λv c j=>?_;obtain⟨x,H1,d,r1,q1⟩:=j;obtain⟨a,e,⟨xs,n⟩,q⟩:=q1;subst e;cases r1;obtain⟨z,A,p,F⟩:=d.list n;show wy p.isList ?_;show⟨c.heap.objs.size,[c.heap.objs.size],_,_,H1,rfl,d.kept (t':=c.toks) λb o e=>cx _ e,vB a _,⟨_,fw _ rfl,rfl,rfl⟩,λb y=>?_,q⟩;have e:b=c.heap.objs.size:=by simpa using y
 subst e;show d.xS (bp _) (d.hok.fresh (bp _))
theorem LU{π:Q0b}{σ:St}{H:Hp}{s:ak}{R:It->Hp->Prop}{E:Q0c}{lo a:Int}{t u v:ir}{c:Nat}(I:Φ X π σ H s)(m:-(2^62)<=lo)(h2:lo<2^62)(l:-(2^62)<=a)(j:a<2^62)
  (q:R (Itr lo (a-lo).toNat) H):ax (au X.Ω X.w) X.A (pyIter (.ref s.heap.objs.size)) (PIE X π σ tg R) E {s with heap:=s.heap.push {cls:=.type "range",data:=.fields #[.int lo t,.int a u,.int 1 v]},toks:=c}:=by
 show wpAny_pyIter_range (IsRange.new ..) (small_one m h2 l j) ?_;have d:Φ X π σ H {s with heap:=s.heap.push {cls:=.type "range",data:=.fields #[.int lo t,.int a u,.int 1 v]},toks:=c}:=I.kept λb o e=>cx _ e;show⟨(s.heap.push {cls:=.type "range",data:=.fields #[.int lo t,.int a u,.int 1 v]}).objs.size,[(s.heap.push {cls:=.type "range",data:=.fields #[.int lo t,.int a u,.int 1 v]}).objs.size],_,_,H,rfl,
  d.kept (t':=c) λb o e=>cx _ e,CQ _ lo (a-lo).toNat,?_,λb h=>?_,q⟩
 .have e1:lo+((0:Nat):Int)*1=lo:=by simp
  have n:(((a-lo).toNat:Nat):Int)-((0:Nat):Int)=Ze lo a 1:=by rw[Wu];split<;>lia
  show Yd _ _ (lo+((0:Nat):Int)*1) ((((a-lo).toNat:Nat):Int)-((0:Nat):Int)) 1;rw[e1,n];show fw _ rfl
 .have e:b=(s.heap.push {cls:=.type "range",data:=.fields #[.int lo t,.int a u,.int 1 v]}).objs.size:=by simpa using h
  subst e;show d.xS (bp _) (d.hok.fresh (bp _))
def Ul(a:TA):TI:=λσ H R=>a σ H λvs H1=>∃j:Int,vs=[.int j] /\ -(2^62)<=j/\j<2^62/\R (Itr 0 j.toNat) H1
theorem HL{a:av}{d:TA}{p c:bq}(n:Gl X "range")(m:X.mg "range"=af)(o:PA X [a] d)(l:ar [a] X.env=[(ag,eval a X.env)]:=by rfl):PI X tg (.Call (.Name "range" p) [a] [] c) (Ul d):=by
 intro π s σ H R I h;show Call_ (lP I n m a0f (ym (dA (o c π s σ H _ I h) λus v ⟨vs,H1,u,r1,q1⟩=>?_) l rfl));obtain⟨j,e,q1,q2,q⟩:=q1;subst e
 cases r1 with
 |cons r rr =>
  cases rr;obtain⟨t,rfl⟩:=r;show Xc (LU u ∅ ∅ q1 q2 (by simpa using q))
def Nn(wi:TI)(g:TG)(h:TS):TS:=λD σ H=>wi σ H λJ H1=>∃W:Nat->Nat->St->Hp->Prop,(∃m,W 0 m σ H1) /\∀i m σ H,W i m σ H ->
 (J.stop i H/\D.nx σ H)\/(J.go i H /\∃N:St->Hp->Prop,(∀a H',N a H' ->∃d,d<m/\W (i+1) d a H') /\∀x H',J.yld i H x H'->g x σ H' λc j=>h {D with nx:=N,ct:=N,bk:=D.nx} c j)
def sE(a:List ah)(h:ba):List (ah×ay):=a.filterMap λb=>(h.get? b).map λo=>(b,o)
def iT(a:b∈fp)(e:h.get? b=aa o):(b,o)∈sE fp h:=pk.mpr ⟨b,a,by rw[e];rfl⟩
theorem HM(a:p∈sE fp h):p.1∈fp/\h.get? p.1=aa p.2:=by
 obtain⟨b,c,e⟩:=pk.mp a
 cases q:h.get? b with
 |none=>rw[q] at e;cases e
 |some o =>
  rw[q] at e;have d:(b,o)=p:=ee e;subst d;show⟨c,q⟩
def Φ.pinned(I:Φ X π σ H s)(j:∀b∈fp,k6 X π H b)(ho:∀b∈fp,∃o,s.heap.get? b=aa o /\∀v,o.data≠.cell v):Φ X (π++sE fp s.heap) σ H s :=
 I.xR λp h=>(gn.mp h).elim (λz=>I.pin p (gm _ z)) λz=>by obtain⟨a,e⟩:=HM z;obtain⟨n,m,l,_⟩:=j p.1 a;obtain⟨o,c,d⟩:=ho p.1 a;rw[e] at c;cases c;show⟨e,n,m,l,d⟩
def Φ.fL(I:Φ X (π++pl) σ H s):Φ X π σ H s:=I.xR λp a=>I.pin p (gm _ (gj _ a))
theorem YA(O:Cf (au X.Ω X.w) X.A X.env X.xe)(hc:X.calm=ae)(hi:PI X tg iter wi)(hg:PG X tg g)(p:tS X body tb)
  (hs:Zo X iter:=by intro _;rfl):PS X (.For tg iter body [] ν) (Nn wi g tb):=by
 intro π s σ H D I h;show wpAny_For (dA (hi π s σ H _ I h) λv s1 h1=>dA h1 λitv s2 h2=>?_) hs;obtain⟨it,Y,tn,J,H2,e,I2,T,st2,f2,W,⟨m0,w0⟩,turn⟩:=h2;subst e
 -- what stays ae of the iterator's objects through the loop
 have l:∀{H':Hp},(∀b∈Y,H' b=af) ->∀b∈Y,k6 X π H' b:=λhn b p=>⟨hn b p,(f2 b p).2⟩;show codeAny_forLoop_any (λn s'=>∃i j H',Φ X π j H' s'/\tn i s'.heap/\(∀b∈Y,H' b=af)/\W i n j H') ?_ m0 ⟨0,σ,H2,I2,st2,λb p=>(f2 b p).1,w0⟩;rintro n s3 ⟨i,c,Z,I3,K,U,w3⟩;rcases turn i n c Z w3 with⟨stop,qn⟩|⟨go,N,hN,step⟩
 .refine tm O (dA (T.done X rfl rfl rfl hc i π s3 c Z X.xe I3 (l U) K stop) λr s4 ⟨hr,I4⟩=>?_);subst hr;show Bm ⟨c,Z,I4,qn⟩
 .refine tm O (dA (T.item X rfl rfl rfl hc i π s3 c Z X.xe I3 (l U) K go) λr s4 ⟨u,hr,h4⟩=>?_);subst hr;show tm O (dA h4 λ_ s5 ⟨x,H5,I5,r5,y5,F,fr5⟩=>?_);have I5':=I5.pinned (l fr5) (T.obj _ _ F);show tm O (dA (hg _ s5 c H5 x u _ I5' r5 (step x H5 y5)) λ_ s6 ⟨σ6,H6,I6,q6⟩=>?_);show tm O (dA (p _ s6 σ6 H6 _ I6 q6) λf s7 z=>?_);have again:∀{a:St} {y:Hp},Φ X (π++sE Y s5.heap) a y s7->N a y ->∃m,m<n /\∃i j H',Φ X π j H' s7/\tn i s7.heap/\(∀b∈Y,H' b=af)/\W i m j H':=λ{a y} q L=>by obtain⟨m',hm,w7⟩:=hN a y L;show⟨m',hm,i+1,a,y,q.fL,T.keep _ _ _ F λb p o e=>(q.pin (b,o) (gm _ (gm _ (iT p e)))).1,λb p=>?_,w7⟩;obtain⟨o,e,d⟩:=T.obj _ _ F b p;show(q.pin (b,o) (gm _ (gm _ (iT p e)))).2.1
  cases f with
  |next=>obtain⟨a,y,q,L⟩:=z;show again q L
  |cont=>obtain⟨a,y,q,L⟩:=z;show again q L
  |brk=>obtain⟨a,y,q,z⟩:=z;show⟨a,y,q.fL,z⟩
  |ret v=>obtain⟨x7,a,y,q,r7,z⟩:=z;show⟨x7,a,y,q.fL,r7,z⟩
end
abbrev R2:=V->V->Hp->VK->Prop
def gF(X:Cx)(f:ai->ai->gb ai)(r:R2):Prop :=
 ∀(π:Q0b) (s:ak) (σ:St) (H:Hp) (x y:V) (v u:ai) (Q:VK),Φ X π σ H s->Ψ x v->Ψ y u->r x y H Q ->
  ax (au X.Ω X.w) X.A (f v u) (EP X π σ Q) X.xe s
def UnR(X:Cx)(f:ai->gb ai)(r:V->Hp->VK->Prop):Prop :=
 ∀(π:Q0b) (s:ak) (σ:St) (H:Hp) (x:V) (v:ai) (Q:VK),Φ X π σ H s->Ψ x v->r x H Q ->
  ax (au X.Ω X.w) X.A (f v) (EP X π σ Q) X.xe s
def d4(X:Cx)(f:ai)(r:List V->Hp->VK->Prop):Prop :=
 ∀(π:Q0b) (s:ak) (σ:St) (H:Hp) (xs:List V) (us:Q0f) (Q:VK),Φ X π σ H s->θ xs us->r xs H Q ->
  ax (au X.Ω X.w) X.A (call f us) (EP X π σ Q) X.xe s
def Nd(X:Cx)(r:V->Hp->(Bool->Hp->Prop)->Prop):Prop :=
 ∀(π:Q0b) (s:ak) (σ:St) (H:Hp) (x:V) (v:ai) (Q:Bool->Hp->Prop),Φ X π σ H s->Ψ x v->r x H Q ->
  ax (au X.Ω X.w) X.A (truthy v) (TP X π σ Q) X.xe s
def qg(r:R2)(c a:TE):TE:=λσ H Q=>c σ H λx H1=>a σ H1 λy d=>r x y d Q
def Fc(r:V->Hp->VK->Prop)(a:TE):TE:=λσ H Q=>a σ H λx H1=>r x H1 Q
def rI(C:Int->Int->Prop)(g:Int->Int->V):R2:=λx y H Q=>∃i j,x=.int i/\y=.int j/\C i j/\Q (g i j) H
def HN(g:Int->Int->V):R2:=λx y H Q=>∃i j,x=.int i/\y=.int j/\Q (g i j) H
def rU(g:Int->V):V->Hp->VK->Prop:=λx H Q=>∃i,x=.int i/\Q (g i) H
section
variable{X:Cx}{a b c:av}{ta tb tc:TE}{ν:bq}
theorem YB(J:PE X a ta)(F:PE X b tb){π:Q0b}{s:ak}{σ:St}{H:Hp}{R:V->V->Hp->Prop}(I:Φ X π σ H s)
  (h:ta σ H λx H1=>tb σ H1 λy d=>R x y d) {Q:Q0c} {f:ai->ai->gb ai}
  (z:∀v u m x y d,Φ X π σ d m->Ψ x v->Ψ y u->R x y d->ax (au X.Ω X.w) X.A (f v u) Q X.xe m):
  ax (au X.Ω X.w) X.A (eval a X.env) (λv l=>ax (au X.Ω X.w) X.A (eval b X.env) (λu j=>ax (au X.Ω X.w) X.A (f v u) Q X.xe j) X.xe l) X.xe s:=by
 show dA (J π s σ H _ I h) λv p o=>?_;obtain⟨x,H1,L,r1,q1⟩:=o;show dA (F π p σ H1 _ L q1) λu m n=>?_;obtain⟨y,d,K,q,q2⟩:=n;show z v u m x y d K r1 q q2
def LV{op:Operator}{r:R2}(ho:gF X (binaryOp op) r)(n:PE X a ta)(m:PE X b tb):PE X (.BinOp a op b ν) (qg r ta tb):=by intro π s σ H Q I h;show wpAny_BinOp (YB n m I h λv u d x y p o l j q=>ho π d σ p x y v u Q o l j q)
def Tw(ho:UnR X (unaryOp op) r)(j:PE X a ta):PE X (.UnaryOp op a ν) (Fc r ta):=by intro π s σ H Q I h;show UnaryOp_ (dA (j π s σ H _ I h) λv d ⟨x,H1,l,r1,q1⟩=>ho π d σ H1 x v Q l r1 q1)
theorem VH{f:ai->ai->gb ai}{C:Int->Int->Prop}{g:Int->Int->Int}
  (rule:∀(i j:Int) (t u:ir) (s:ak) (Q:Q0c) (E:Q0c),C i j->Q (.int (g i j) s.toks) {s with toks:=s.toks+1}->ax (au X.Ω X.w) X.A (f (.int i t) (.int j u)) Q E s):
  gF X f (rI C λi j=>.int (g i j)):=by
 intro π s σ H x y v u Q I l d h;obtain⟨i,j,rfl,rfl,m,q⟩:=h;obtain⟨t,rfl⟩:=l;obtain⟨t',rfl⟩:=d;show rule i j t t' s _ _ m ⟨.int (g i j),H,I.tok _,⟨_,rfl⟩,q⟩
theorem Aw{f:ai->ai->gb ai}{g:Int->Int->Int}
  (rule:∀(i j:Int) (t u:ir) (s:ak) (Q:Q0c) (E:Q0c),Q (.int (g i j) s.toks) {s with toks:=s.toks+1}->ax (au X.Ω X.w) X.A (f (.int i t) (.int j u)) Q E s):
  gF X f (HN λi j=>.int (g i j)):=by
 intro π s σ H x y v u Q I l d h;obtain⟨i,j,rfl,rfl,q⟩:=h;obtain⟨t,rfl⟩:=l;obtain⟨t',rfl⟩:=d;show rule i j t t' s _ _ ⟨.int (g i j),H,I.tok _,⟨_,rfl⟩,q⟩
theorem RR{f:ai->ai->gb ai}{g:Int->Int->Bool}
  (rule:∀(i j:Int) (t u:ir) (s:ak) (Q:Q0c) (E:Q0c),Q (.bool (g i j)) s->ax (au X.Ω X.w) X.A (f (.int i t) (.int j u)) Q E s):
  gF X f (HN λi j=>.bl (g i j)):=by
 intro π s σ H x y v u Q I l d h;obtain⟨i,j,rfl,rfl,q⟩:=h;obtain⟨t,rfl⟩:=l;obtain⟨t',rfl⟩:=d;show rule i j t t' s _ _ ⟨.bl (g i j),H,I,rfl,q⟩
def Au(i j:Int):Prop:=0<j/\j<1073741824
def YC(i j:Int):Prop:=0<=j/\j<=1000000/\i.natAbs<2^64
def RS(i j:Int):Prop:=(-(2^64)<i/\i<2^64)\/(-(2^64)<j/\j<2^64)
def RS.ok{i j:Int}(h:RS i j):ug i j:=by
 rcases h with⟨d,h2⟩|⟨d,h2⟩
 .exact .of_left (Wy d h2)
 .exact .of_right (Wy d h2)
def CS(k:Nat):(0:Int)<=2^k:=by rw[two_pow_cast];show Int.natCast_nonneg _
def YD:gF X (binaryOp .Add) (HN λi j=>.int (i+j)):=Aw λ_ _ _ _ _ _ _ q=>add_int q
def YE:gF X (binaryOp .Sub) (HN λi j=>.int (i-j)):=Aw λ_ _ _ _ _ _ _ q=>sub_int q
def RT:gF X (binaryOp .FloorDiv) (rI Au λi j=>.int (i/j)):=VH λi j _ _ _ _ _ d q=>by have h:(0:Int)<j:=d.1;have h2:j<1073741824:=d.2;show floordiv_int ∅ (by rw[a02 i ∅];show q) (.inl (PyProof.noPylong_small ∅))
def YF:gF X (binaryOp .Mod) (rI (λ_ j=>0<j) λi j=>.int (i%j)):=VH λi j _ _ _ _ _ d q=>by have h:(0:Int)<j:=d;show mod_int' ∅ (by rw[Int.fmod_eq_emod_of_nonneg i ∅];show q)
def YG:gF X (binaryOp .Pow) (rI YC λi j=>.int (i^j.toNat)):=VH λ_ _ _ _ _ _ _ d q=>pow_int_small d.1 d.2.1 d.2.2 q
def YH:gF X (binaryOp .LShift) (rI YC λi j=>.int (i*2^j.toNat)):=VH λ_ _ _ _ _ _ _ d q=>lshift_int_small d.1 d.2.1 d.2.2 q
def YI:gF X (binaryOp .RShift) (rI (λ_ j=>0<=j) λi j=>.int (i/2^j.toNat)):=VH λi j _ _ _ _ _ d q =>
 rshift_int d (by rw[a02 i (CS _)];show q)
theorem unI{f:ai->gb ai}{g:Int->Int}
  (rule:∀(i:Int) (t:ir) (s:ak) (Q:Q0c) (E:Q0c),Q (.int (g i) s.toks) {s with toks:=s.toks+1}->ax (au X.Ω X.w) X.A (f (.int i t)) Q E s):
  UnR X f (rU λi=>.int (g i)):=by
 intro π s σ H x v Q I d h;obtain⟨i,rfl,q⟩:=h;obtain⟨t,rfl⟩:=d;show rule i t s _ _ ⟨.int (g i),H,I.tok _,⟨_,rfl⟩,q⟩
def YJ:UnR X (unaryOp .USub) (rU λi=>.int (-i)):=unI λ_ _ _ _ _ q=>neg_int q
end
noncomputable def YK:V->V->Bool
 |.non,.non=>ae | .non,.int _=>ae | .int _,.non=>ae | .non,.bl _=>ae | .bl _,.non=>ae | .non,.str _=>ae | .str _,.non=>ae
 |.int _,.int _=>ae | .bl _,.bl _=>ae | .str _,.str _=>ae | .HJ _,.HJ _=>ae
 |.int _,.str _=>ae | .str _,.int _=>ae | .bl _,.str _=>ae | .str _,.bl _=>ae
 |_,_=>ag
def zh:R2:=λx y H Q=>YK x y=ae/\Q (.bl (Zv (x=y))) H
def zg:R2:=λx y H Q=>YK x y=ae/\Q (.bl (!Zv (x=y))) H
def xT:Zv (V.int i=V.int j)=(i == j):=by rw[qb];simp
def CT:Zv (V.bl i=V.bl j)=(i == j):=by rw[qb];simp
def xU:Zv (V.str i=V.str j)=(i == j):=by rw[qb];simp
def FH:Zv (V.HJ i=V.HJ j)=(i.toList == j.toList):=by rw[qb];cases i;cases j;simp
section
variable{X:Cx}{a b c:av}{ta tb tc:TE}{ν:bq}
def bG(I:Φ X π σ H s)(q:Q (.bl k) H)(e:k=k'):EP X π σ Q (.bool k') s:=by subst e;show⟨.bl k,H,I,rfl,q⟩
theorem VI:gF X (compareOp .Eq) zh:=by
 intro π s σ H x y v u Q I m d h;obtain⟨l,q⟩:=h
 cases x with
 |non =>
  cases m
  cases y with
  |non=>cases d;show a1P (bG I q (by simp))
  |bl j=>cases d;show a1R (bG I q (by simp))
  |int j=>obtain⟨t',rfl⟩:=d;show a1Q (bG I q (by simp))
  |str j=>obtain⟨t',rfl⟩:=d;show a1O (bG I q (by simp))
  |_=>show Zw (show ag=ae from l) b_
 |bl i =>
  cases m
  cases y with
  |non=>cases d;show a1T (bG I q (by simp))
  |bl j=>cases d;show eq_bool (bG I q CT)
  |str j=>obtain⟨t',rfl⟩:=d;show a13 (bG I q (by simp))
  |_=>show Zw (show ag=ae from l) b_
 |int i =>
  obtain⟨t,rfl⟩:=m
  cases y with
  |non=>cases d;show a1S (bG I q (by simp))
  |int j=>obtain⟨t',rfl⟩:=d;show eq_int (bG I q xT)
  |str j=>obtain⟨t',rfl⟩:=d;show a12 (bG I q (by simp))
  |_=>show Zw (show ag=ae from l) b_
 |str i =>
  obtain⟨t,rfl⟩:=m
  cases y with
  |non=>cases d;show a1N (bG I q (by simp))
  |bl j=>cases d;show a1Z (bG I q (by simp))
  |int j=>obtain⟨t',rfl⟩:=d;show a1Y (bG I q (by simp))
  |str j=>obtain⟨t',rfl⟩:=d;show eq_str (bG I q xU)
  |_=>show Zw (show ag=ae from l) b_
 |HJ i =>
  obtain⟨t,rfl⟩:=m
  cases y with
  |HJ j=>obtain⟨t',rfl⟩:=d;show PySem.W.eq_bytes (bG I q FH)
  |_=>show Zw (show ag=ae from l) b_
 |_=>cases y<;>show Zw (show ag=ae from l) b_
theorem Tv:gF X (compareOp .NotEq) zg:=by
 intro π s σ H x y v u Q I m d h;obtain⟨l,q⟩:=h
 cases x with
 |non =>
  cases m
  cases y with
  |non=>cases d;show a1I (bG I q (by simp))
  |bl j=>cases d;show a1K (bG I q (by simp))
  |int j=>obtain⟨t',rfl⟩:=d;show a1J (bG I q (by simp))
  |str j=>obtain⟨t',rfl⟩:=d;show a1H (bG I q (by simp))
  |_=>show Zw (show ag=ae from l) b_
 |bl i =>
  cases m
  cases y with
  |non=>cases d;show a1M (bG I q (by simp))
  |bl j=>cases d;show ne_bool (bG I q (congrArg not CT))
  |str j=>obtain⟨t',rfl⟩:=d;show a1X (bG I q (by simp))
  |_=>show Zw (show ag=ae from l) b_
 |int i =>
  obtain⟨t,rfl⟩:=m
  cases y with
  |non=>cases d;show a1L (bG I q (by simp))
  |int j=>obtain⟨t',rfl⟩:=d;show ne_int (bG I q (congrArg not xT))
  |str j=>obtain⟨t',rfl⟩:=d;show a1W (bG I q (by simp))
  |_=>show Zw (show ag=ae from l) b_
 |str i =>
  obtain⟨t,rfl⟩:=m
  cases y with
  |non=>cases d;show a1G (bG I q (by simp))
  |bl j=>cases d;show a1V (bG I q (by simp))
  |int j=>obtain⟨t',rfl⟩:=d;show a1U (bG I q (by simp))
  |str j=>obtain⟨t',rfl⟩:=d;show ne_str (bG I q (congrArg not xU))
  |_=>show Zw (show ag=ae from l) b_
 |HJ i =>
  obtain⟨t,rfl⟩:=m
  cases y with
  |HJ j=>obtain⟨t',rfl⟩:=d;show PySem.W.ne_bytes (bG I q (congrArg not FH))
  |_=>show Zw (show ag=ae from l) b_
 |_=>cases y<;>show Zw (show ag=ae from l) b_
def VJ:gF X (compareOp .Lt) (HN λi j=>.bl (Zv (i<j))):=RR λ_ _ _ _ _ _ _ q=>yf q
def Tu:gF X (compareOp .LtE) (HN λi j=>.bl (Zv (i<=j))):=RR λ_ _ _ _ _ _ _ q=>le_int q
def VL:gF X (compareOp .Gt) (HN λi j=>.bl (Zv (j<i))):=RR λ_ _ _ _ _ _ _ q=>gt_int q
def Tt:gF X (compareOp .GtE) (HN λi j=>.bl (Zv (j<=i))):=RR λ_ _ _ _ _ _ _ q=>ge_int q
def LW:gF X (compareOp .Is) (λx y H Q=>y=.non/\Q (.bl (Zv (x=.non))) H):=by
 intro π s σ H x y v u Q I d j h;obtain⟨rfl,q⟩:=h;cases j;show is_none_gen (bG I q ?_);cases x<;>first
  | (cases d;rfl)
  | (obtain⟨t,rfl⟩:=d;rfl)
def gF.or(h:gF X f r)(h':gF X f r'):gF X f (λx y H Q=>r x y H Q\/r' x y H Q):=by
 intro π s σ H x y v u Q I j d q;rcases q with q|q
 .exact h π s σ H x y v u Q I j d q
 .exact h' π s σ H x y v u Q I j d q
def iU(b:av)(h:op≠.In:=by decide)(h2:op≠.NotIn:=by decide):behindInMarks op b=ag:=by
 have e1:(op == CmpOp.In)=ag:=by cases op<;>first|rfl|show Zw rfl h
 have d:(op == CmpOp.NotIn)=ag:=by cases op<;>first|rfl|show Zw rfl h2
 cases b<;>simp[behindInMarks,e1,d]
def RU{op:CmpOp}{r:R2}(ho:gF X (compareOp op) r)(o:PE X a ta)(n:PE X b tb)(m:behindInMarks op b=ag):PE X (.Compare a [op] [b] ν) (qg r ta tb):=by intro π s σ H Q I h;show wpAny_Compare1 (YB o n I h λv u d x y z p l j q=>ho π d σ z x y v u Q p l j q) m
def FI(t:TE):TT:=λσ H Q=>t σ H λx H'=>∃k,x=.bl k/\Q k H'
def RV(ho:gF X (compareOp op) r)(q:PE X a ta)(p:PE X b tb)(o:behindInMarks op b=ag):PT X (.Compare a [op] [b] ν) (FI (qg r ta tb)):=by
 intro π s σ H Q I h;show We (dA (q π s σ H _ I h) λv j ⟨x,H1,J,r1,q1⟩=>dA (p π j σ H1 _ J q1) λu d ⟨y,L,F,m,q2⟩ =>
  dA (ho π d σ L x y v u _ F r1 m q2) λc s3 ⟨z,K,A,l,k,e,n⟩=>?_) o
 subst e;cases l;show ko ⟨K,A,n⟩
def LX(r j:R2)(ta tb tc:TE):TE:=λσ H Q=>ta σ H λx H1=>tb σ H1 λy m=>r x y m λz d=>∃k,z=.bl k /\
 (if k=ae then tc σ d λh l=>j y h l Q else Q (.bl ag) d)
theorem LY(ho:gF X (compareOp op) r)(j:gF X (compareOp op') r')(Z:PE X a ta)(Y:PE X b tb)(U:PE X c tc)
  (O:lastMarks [op,op'] [b,c]=ag:=by with_unfolding_all rfl):PE X (.Compare a [op,op'] [b,c] ν) (LX r r' ta tb tc):=by
 intro π s σ H Q I h;show Compare_chain (dA (Z π s σ H _ I h) λv F ⟨x,H1,I1,r1,q1⟩=>chain_link (dA (Y π F σ H1 _ I1 q1) λu A ⟨y,H2,I2,l,q2⟩ =>
  dA (ho π A σ H2 x y v u _ I2 r1 l q2) λd s3 ⟨z,o,n,K,k,e,m⟩=>?_)) O
 subst e;cases K;show ko ?_
 cases k with
 |false=>show ite_ff ⟨.bl ag,o,n,rfl,m⟩
 |true=>show ite_tt (chain_last (dA (U π s3 σ o _ n m) λq s4 ⟨p,H4,I4,J,L⟩=>j π s4 σ H4 y p u q Q I4 l J L))
def As(K:ao)(x:V)(H:Hp)(k:Bool):Prop :=
 match x with
 |.non=>k=ag
 |.bl b=>k=b
 |.int i=>k=(i !=0)
 |.str y=>y.length<=bj/\k=((y.length:Int) !=0)
 |.HJ y=>y.size<=bj/\k=((y.size:Int) !=0)
 |.ref p=>(∃xs,dS K H p xs/\k=!xs.isEmpty)\/(∃xs,dZ K H p xs/\k=!xs.isEmpty) \/∃χ,H p=aa (.dK χ)/\k=!χ.isEmpty
 |_=>False
def CU{d:Type}{χ:List (d×V)}{vs:List (d×ai)}(r:KV χ vs):(!vs.isEmpty)=!χ.isEmpty:=by cases r<;>rfl
def iV{xs:List V}{d:Q0f}(r:θ xs d):(!d.toArray.isEmpty)=!xs.isEmpty:=by cases r<;>simp
def xV:(bj:Nat)<2^63:=by rw[fv];decide
theorem YL:Nd X (λx H Q=>∃k,As X.K x H k/\Q k H):=by
 intro π s σ H x v Q I j h;obtain⟨k,e,q⟩:=h;have J:=xV;have F:bj=16777216:=fv
 cases x with
 |non =>
  cases j;have d:k=ag:=e;subst d;show truthy_none ⟨H,I,q⟩
 |bl b =>
  cases j;have d:k=b:=e;subst d;show ko ⟨H,I,q⟩
 |int i =>
  obtain⟨t,rfl⟩:=j;have d:k=(i !=0):=e;subst d;show PySem.P.truthy_int ⟨H,I,q⟩
 |str y =>
  obtain⟨t,rfl⟩:=j;obtain⟨z,d⟩:y.length<=bj/\k=((y.length:Int) !=0):=e;subst d;show PySem.P.truthy_str ∅ ⟨H,I.tok _,q⟩
 |HJ y =>
  obtain⟨t,rfl⟩:=j;obtain⟨z,d⟩:y.size<=bj/\k=((y.size:Int) !=0):=e;subst d;show PySem.W.truthy_bytes ∅ ⟨H,I.tok _,q⟩
 |ref p =>
  cases j;have d:(∃xs,dS X.K H p xs/\k=!xs.isEmpty)\/(∃xs,dZ X.K H p xs/\k=!xs.isEmpty) \/∃χ,H p=aa (.dK χ)/\k=!χ.isEmpty:=e;rcases d with⟨xs,l,d⟩|⟨xs,l,d⟩|⟨χ,l,d⟩
  .subst d;obtain⟨u,r,n,o⟩:=I.list l;have hlen:=r.length;show Vu n.isList (by simp only[cu];lia) ⟨H,I.tok _,by rw[iV r];show q⟩
  .subst d;obtain⟨u,r,n,o⟩:=I.tuple l;have hlen:=r.length;show Zi n (by simp only[cu];lia) ⟨H,I.tok _,by rw[iV r];show q⟩
  .subst d;obtain⟨o,A,vs,r,m⟩:χ.length<=bj/\(p == sysModules)=ag /\∃vs,KV χ vs/\s.heap.DictOf (aR X.Ω X.w) p vs:=I.hok p _ l;have hlen:χ.length=vs.length:=qw r;show wpAny_truthy_dict A m ∅ ⟨H,I.tok _,by rw[CU r];show q⟩
 |_=>show(show False from e).elim
theorem LZ(l:PE X a ta)(j:∀whole,isTrue a X.env whole=(do let v <- whole;standAt a.pos;holding [v] (truthy v))):
  PT X a (λσ H Q=>ta σ H λx H'=>∃k,As X.K x H' k/\Q k H'):=by
 intro π s σ H Q I h;show isTrue_plain (dA (l π s σ H _ I h) λv d ⟨x,H1,m,r1,q1⟩=>YL π d σ H1 x v Q m r1 q1) (j _)
def CV:gF X (binaryOp .Add) (λx y H Q=>∃i j,x=.str i/\y=.str j/\i.length+j.length<=bj/\Q (.str (i++j)) H):=by intro π s σ H x y v u Q I l d h;obtain⟨i,j,rfl,rfl,m,q⟩:=h;obtain⟨t,rfl⟩:=l;obtain⟨t',rfl⟩:=d;show add_str (λt' n=>⟨.str (i++j),H,I.tok _,⟨_,rfl⟩,q⟩) m
theorem vals1(r:θ [x] us):∃u,us=[u]/\Ψ x u:=by
 cases r with
 |cons r1 r2=>cases r2;show⟨_,rfl,r1⟩
theorem vals2(r:θ [x,y] us):∃u d,us=[u,d]/\Ψ x u/\Ψ y d:=by
 cases r with
 |cons r1 r2 =>
  cases r2 with
  |cons r3 r4=>cases r4;show⟨_,_,rfl,r1,r3⟩
end
structure YM (h:ba) (x dx C:ah) (mA:Q0d):Prop where
 obj:h.get? x=aa (instObj C dx)
 ns:h.Ns1 dx mA
 ne:dx≠x
def HP{h:ba}{m:ah}{j:Q0d}(n:h.Ns1 m j):∃d,h.get? m=aa d /\∀name,lookIn name d=aa (j name):=by
 obtain⟨o,l,F,ho,x,v,_,u⟩:=n;show⟨o,ho,λname=>?_⟩;have e:=u name;unfold nsFind findBy at e;rw[<- Array.find?_toList] at e;unfold lookIn;rw[x];dsimp only;split
 .rename_i y q;rw[q] at e;show congrArg aa e
 .rename_i q;rw[q] at e;have a:l.toList.any (·.refKey)=ag:=by rw[a0X];intro y p;obtain⟨z,t,c⟩:=v y (Array.mem_toList_iff.mp p);simp[a14,c]
  have A:¬ l.toList.any (·.refKey)=ae:=by rw[a];show b_
  rw[Zz A];show congrArg aa e
def YM.look(I:YM h x dx C mA):∃a,PySem.W.InstAt h x (instObj C dx) C (aa a) /\∀name,lookIn name a=aa (mA name) :=
 let ⟨a,ho,hl⟩:=HP I.ns
 ⟨a,⟨I.obj,rfl,rfl,ho⟩,hl⟩
theorem jO.some_of(r:jO (aa v) o):∃u,o=aa u/\Ψ v u:=by
 cases o with
 |none=>show(show False from r).elim
 |some u=>show⟨u,rfl,r⟩
section
variable{P:bg}{w:a_}{H H':Hp}{h h':ba}{a C dx:ah}{fs fs':List (aj×V)}
def RW(j:kN P w H h)(e:H a=aa (.ins C dx fs)):∃c,YM h a dx C c/\(∀f,jO (fs.lookup f) (c f))/\Xf c (fs.map (·.1))/\fs.length<=1000/\H dx=aa (.own a):=by obtain⟨d,z,ne,l,c,n,r,q⟩:=(show bZ P w H h a (.ins C dx fs) from j a _ e);show⟨c,⟨l,n,ne⟩,r,q,z,d⟩
end
structure Cls (K:ao) (C:ah):Prop where
 pg:Xi K C Str.empty=ae
 hd:PySem.W.hasDictIn K C=ae
 po:PySem.W.plainOver K C=ae
 sa:Xn K (.ref C) "__setattr__"=aa (aa (.builtin "object.__setattr__"))
def Cls.get{K:ao}{C:ah}(c:Cls K C)(f:aj):Xi K C f=ae:=c.pg
section
variable{X:Cx}{π:Q0b}{σ:St}{H:Hp}{s:ak}{A:br}{E:Q0c}{Q:Q0c}{c:ai}{b:Bool}
inductive mW (K:ao) (H:Hp):V->ai->Prop where
 |non:mW K H .non (.type "NoneType")
 |bl (x:Bool):mW K H (.bl x) (.type "bool")
 |int (i:Int):mW K H (.int i) (.type "int")
 |str (x:aj):mW K H (.str x) (.type "str")
 |flt (x:UInt64):mW K H (.flt x) (.type "float")
 |lst {a:ah} {xs:List V} (e:H a=aa (.lst xs)):mW K H (.ref a) (.type "list")
 |pZ {a:ah} {o:ay} {xs:List V} (e:H a=aa (.pZ o (.lst xs))):mW K H (.ref a) (.type "list")
 |tup {a:ah} {xs:List V} (e:H a=aa (.tup xs)):mW K H (.ref a) (.type "tuple")
 |dK {a:ah} {χ:List (Key×V)} (e:H a=aa (.dK χ)):mW K H (.ref a) (.type "dict")
 |dT {a:ah} {χ:List (List Key×V)} (e:H a=aa (.dT χ)):mW K H (.ref a) (.type "dict")
 |ins {a C dx:ah} {fs:List (aj×V)} (e:H a=aa (.ins C dx fs)) (cl:Cls K C) (ha:Xn K (.ref C) "__class__"=aa (aa (.builtin "object.__class__")))
   (hn:PySem.W.specialIn K (.builtin "object.__class__") "__get__"=aa (aa (.builtin "getset_descriptor.__get__"))) (htk:PySem.W.takesIn K (.builtin "object.__class__")=aa ae)
   (hm:PySem.W.mroIn K C (.type "object")=aa ae):mW K H (.ref a) (.ref C)
theorem HQ(I:Φ X π σ H s)(d:Ψ x u)(ty:mW X.K H x t)(e:qt X.K t c=aa b)(h:∀l,Q (.bool b) {s with toks:=l}):
  ax (au X.Ω X.w) A (call (.builtin "isinstance") [u,c]) Q E s:=by
 cases ty with
 |non=>cases (show u=gq from d);show jg PySem.W.kitx_none I.oJ ju e (λz=>nomatch z) h
 |bl y=>cases (show u=ue y from d);show jg PySem.W.kitx_bool I.oJ ju e (λz=>nomatch z) h
 |int i=>obtain⟨t,q⟩:=(show ∃t,u=kr i t from d);cases q;show jg PySem.W.kitx_int I.oJ ju e (λz=>nomatch z) h
 |str y=>obtain⟨t,q⟩:=(show ∃t,u=xm y t from d);cases q;show jg PySem.W.kitx_str I.oJ ju e (λz=>nomatch z) h
 |flt y=>obtain⟨t,q⟩:=(show ∃t,u=Xx y t from d);cases q;show jg PySem.W.kitx_float I.oJ ju e (λz=>nomatch z) h
 | @lst a xs ea =>
  cases (show u=dq a from d);obtain⟨_,_,n,_,j⟩:=(show bZ X.Ω X.w H s.heap a (.lst xs) from I.hok a _ ea);show jg By I.oJ ⟨_,j,rfl⟩ e (λz=>nomatch z) h
 | @pZ a ob xs ea =>
  cases (show u=dq a from d);obtain⟨_,_,_,n,_,j⟩:=(show bZ X.Ω X.w H s.heap a (.pZ ob (.lst xs)) from I.hok a _ ea);show jg By I.oJ ⟨_,j,rfl⟩ e (λz=>nomatch z) h
 | @tup a xs ea =>
  cases (show u=dq a from d);obtain⟨_,_,_,p,_⟩:=(show bZ X.Ω X.w H s.heap a (.tup xs) from I.hok a _ ea);obtain⟨o,j,h2,_⟩:=p;show jg Xj I.oJ ⟨o,j,h2⟩ e (λz=>nomatch z) h
 | @dK a χ ea =>
  cases (show u=dq a from d);obtain⟨_,_,vs,_,p⟩:=(show bZ X.Ω X.w H s.heap a (.dK χ) from I.hok a _ ea);obtain⟨o,m,v,j,h2,_⟩:=p;show jg Xk I.oJ ⟨o,j,h2.1⟩ e (λz=>nomatch z) h
 | @dT a χ ea =>
  cases (show u=dq a from d);obtain⟨_,_,xs,_,o,m,v,j,h2,_⟩:=(show bZ X.Ω X.w H s.heap a (.dT χ) from I.hok a _ ea);show jg Xk I.oJ ⟨o,j,h2.1⟩ e (λz=>nomatch z) h
 | @ins a C dx fs ea cl ha hn htk hm =>
  cases (show u=dq a from d);obtain⟨L,O,_⟩:=RW I.hok ea;obtain⟨F,J,_⟩:=O.look;show jg (PySem.W.kitx_own (cl.get _) cl.hd ha hn htk hm) I.oJ J e (λz=>nomatch z) h
end
structure cZ (k:Nat) (A:br):Prop where
 hd:A.handled=af
 dp:A.depth+3*k+5<recursionLimit
 un:A.units+16*k+200<c_
def cZ.mono(r:cZ k A)(h:j<=k):cZ j A:=⟨r.hd,by have:=r.dp;lia,by have:=r.un;lia⟩
def cZ.deeper(r:cZ (k+1) A)(env:df):cZ k (A.deeper env) :=
 ⟨r.hd,by have:=r.dp;show A.depth+1+3*k+5<_;lia,by have:=r.un;show A.units+3+16*k+200<_;lia⟩
def cZ.depth(r:cZ k A):A.depth<recursionLimit:=by have:=r.dp;lia
def cZ.units(r:cZ k A):A.units+64<c_:=by have:=r.un;lia
def MA:TA:=λ_ H Q=>Q [] H
def k8(a:TE)(tr:TA):TA:=λσ H Q=>a σ H λx H1=>tr σ H1 λxs c=>Q (x::xs) c
section
variable{X:Cx}{e:av}{es:List av}{te:TE}{t:TA}{ν:bq}
def gG:PA X [] MA:=λ_ _ _ _ H Q I h=>Calls.spliced_nil ⟨[],H,I,.nil,h⟩
def b8(m:PE X e te)(l:PA X es t)(j:Zr X e es:=by rfl):PA X (e::es) (k8 te t):=by intro ν π s σ H Q I h;rw[j];show ax _ _ (spliced ((ag,eval e X.env)::cy ν (ar es X.env))) _ _ s;show Calls.spliced_cons (dA (m π s σ H _ I h) λu c ⟨x,H1,o,r1,q1⟩=>?_);show dA (l ν π c σ H1 _ o q1) λus q a=>by obtain⟨xs,p,n,d,q2⟩:=a;show⟨x::xs,p,n,.cons r1 d,q2⟩
def Nc(t:TA):TE:=λσ H Q=>t σ H λxs H1=>xs.length<=bj /\∀p,H1 p=af->Q (.ref p) (upd H1 p (.tup xs))
def Nb(t:TA):TE:=λσ H Q=>t σ H λxs H1=>xs.length<=bj /\∀p,H1 p=af->Q (.ref p) (upd H1 p (.lst xs))
def MB{x1}(h:PA X es t):PE X (.Tuple es x1 ν) (Nc t):=by intro π s σ H Q I d;show wpAny_Tuple_spliced (dA (h ν π s σ H _ I d) λus a ⟨xs,H1,c,r,z,q⟩=>⟨by rw[<- r.length];show z,?_⟩);have j:H1 a.heap.objs.size=af:=c.hok.fresh (bp _);show⟨.ref a.heap.objs.size,upd H1 a.heap.objs.size (.tup xs),c.laid (t':=a.toks) (λb u e=>cx _ e) (bp _) ?_,rfl,q _ j⟩;show⟨z,us,r,⟨_,fw _ rfl,rfl,_,rfl⟩,BR.new _ _⟩
def YN(h:PA X es t):PE X (.List es ν) (Nb t):=by intro π s σ H Q I d;show wpAny_List_spliced (dA (h ν π s σ H _ I d) λus a ⟨xs,H1,c,r,z,q⟩=>⟨by rw[<- r.length];show z,?_⟩);have j:H1 a.heap.objs.size=af:=c.hok.fresh (bp _);show⟨.ref a.heap.objs.size,upd H1 a.heap.objs.size (.lst xs),c.laid (t':=a.toks) (λb u e=>cx _ e) (bp _) ?_,rfl,q _ j⟩;show⟨z,us,0,r,fw _ rfl⟩
end
abbrev Sp:=List V->Hp->VK->XK->Prop
abbrev CW:=List df->Hp->ak->XK->ai->ak->Prop
structure RX (P:bg) (w:a_) (K:ao) (mg:Q0d) (ω:ba) (A:br) (Γ:List df) (s:ak) (H:Hp):Prop where
 frames:A.frames=aa Γ
 mod:Mod K mg ω
 bs:∀b o,ω.get? b=aa o->s.heap.get? b=aa o/\H b=af
 FA:ω.objs.size<=s.heap.objs.size
 jR:s.heap.FunFrames ω Γ
 P0:∀b∈frs Γ,H b=af
 hok:kN P w H s.heap
 bare:lg s.gens
 tab:RL K ω H
def CE(Γ:List df)(P:bg)(w:a_)(H:Hp)(s:ak)(Q:VK)(u:ai)(s':ak):Prop :=
 ∃v H',s'.os=s.os/\lg s'.gens/\Un (frs Γ) [] H H' s.heap s'.heap/\kN P w H' s'.heap/\Ψ v u/\Q v H'
def CR(CX:CW)(Γ:List df)(P:bg)(w:a_)(H:Hp)(s:ak)(Q:VK)(E:XK)(r:xp)(s':ak):Prop :=
 match r with
 |.ok (.ret u)=>CE Γ P w H s Q u s'
 |.ok _=>False
 |.error e=>CX Γ H s E e s'
structure hJ (P:bg) (w:a_) (K:ao) (mg:Q0d) (ω:ba) (CX:CW) (k:Nat) (f:ah) (fd:gc) (ps:Q0g) (sp:Sp):Prop where
 len:∀vs H Q E,sp vs H Q E->vs.length=ps.length
 run:∀(A:br) (Γ:List df) (s:ak) (H:Hp) (args:Args) (us:Q0f) (vs:List V) (Q:VK) (E:XK),cZ k A->RX P w K mg ω A Γ s H->qx s fd args (ps.zip us)->θ vs us->sp vs H Q E ->
  ly (au P w) A (.call (.ref f) args) (CR CX Γ P w H s Q E) s
theorem hJ.mono{P:bg}{w:a_}{K:ao}{mg:Q0d}{ω:ba}{CX:CW}{j k:Nat}{f:ah}{fd:gc}{a:Q0g}{sp:Sp}(F:hJ P w K mg ω CX j f fd a sp)(h:j<=k):
  hJ P w K mg ω CX k f fd a sp:=⟨F.len,λA Γ s H args us vs Q E c=>F.run A Γ s H args us vs Q E (c.mono h)⟩
section
variable{X:Cx}{π:Q0b}{σ:St}{H:Hp}{s s':ak}
def Φ.env0(I:Φ X π σ H s):RX X.Ω X.w X.K X.mg X.ω X.A X.stack s H :=
 ⟨I.ok.frames,I.ok.mod,I.bs,ig I.ok.FA I.sz,I.stack,I.qO,I.hok,I.bare,I.tab⟩
def Φ.after(I:Φ X π σ H s)(h:CE X.stack X.Ω X.w H s Q u s'):EP X π σ Q u s':=by obtain⟨v,H',j,bare,un,c,r,q⟩:=h;obtain⟨l,g,d,t,a⟩:=s';obtain rfl:a=s.os:=j;show⟨v,H',I.call (h':=l) (g':=g) (d':=d) (t':=t) (ch:=[]) un c bare (λb z=>Zw z (by simp)),r,q⟩
end
def MC(sp:Sp)(a:List V)(E:XK)(t:TA):TE:=λσ H Q=>t σ H λvs H1=>sp (vs++a) H1 Q E
def Binds(K:ao)(fd:gc)(a:Q0g)(ds:Q0f):Prop :=
 ∀(s:ak) (us:Q0f),K.In s.heap->(us++ds).length=a.length->qx s fd ⟨us,[]⟩ (a.zip (us++ds))
def Binds.all{K:ao}{fd:gc}{a:Q0g}(h:∀us:Q0f,us.length=a.length->bindArgs fd ⟨us,[]⟩=pure (a.zip us)):Binds K fd a []:=λs us _ c=>by rw[ip] at c ⊢;show .of_eq (h us c)
def Passes(CX:CW)(X:Cx)(E:XK):Prop:=∀(π:Q0b) (σ:St) (H:Hp) (s:ak) (e:ai) (s':ak),Φ X π σ H s->CX X.stack H s E e s'->X.xe e s'
section
variable{X:Cx}{CX:CW}{k:Nat}{f C:ah}{fd:gc}{ps:Q0g}{sp:Sp}{VM:List V}{ds:Q0f}{E:XK}{x m:aj}{p ν apos:bq}{e o:av}{es:List av}{ta:TE}{t:TA}
theorem YO(F:hJ X.Ω X.w X.K X.mg X.ω CX k f fd ps sp)(j:cZ k X.A)(q:Binds X.K fd ps ds)(n:θ VM ds)(d:Passes CX X E)
  (I:Φ X π σ H s) (r:θ vs us) (h:sp (vs++VM) H Q E):ax (au X.Ω X.w) X.A (call (.ref f) us) (EP X π σ Q) X.xe s:=by
 have c:θ (vs++VM) (us++ds):=r.append n;have l:(us++ds).length=ps.length:=by rw[<- c.length];show F.len _ _ _ _ h
 show tq (xa (F.run X.A X.stack s H ⟨us,[]⟩ (us++ds) (vs++VM) Q E j I.env0 (q s us I.oJ l) c h) λr s' a=>?_)
 cases r with
 |error e=>show d π σ H s e s' I a
 |ok fl =>
  cases fl with
  |ret u=>show I.after a
  |next=>show jt a
  |brk=>show jt a
  |cont=>show jt a
theorem mX(F:hJ X.Ω X.w X.K X.mg X.ω CX k f fd ps sp)(l:cZ k X.A)(v:Gl X x)(n:X.mg x=aa (.ref f))(u:keepIn X.K (.ref f)=ae)(J:Binds X.K fd ps ds)(z:θ VM ds)(j:Passes CX X E)
  (L:PA X (e::es) t) (c:Zu x:=by decide) (y:Zr X e es:=by rfl) (a:Q0l X ν es:=by rfl):
  PE X (.Call (.Name x p) (e::es) [] ν) (MC sp VM E t):=by
 intro π s σ H Q I h;show tu (mT I v n ?_ c);show Xp (h₀:=X.ω) I.ok.mod.kin u (dA (L ν π s σ H _ I h) λus O ⟨vs,H1,d,r,q⟩=>⟨d.oJ,?_⟩) y a;show YO F l J z j d r q
end
structure cH (N P:Q0g) (sc:fu):Prop where
 kind:sc.kind=.function
 co:sc.isCoroutine=ag
 gen:sc.isGenerator=ag
 nd:N.Nodup
 pre:N.take P.length=P
 par:∀x∈P,sc.names.lookup x=aa .local\/sc.names.lookup x=aa .cell
 YQ:∀y∈sc.names,y.2≠.free
theorem vC{kindOf:aj->Option jb}{x:aj}:∀{binds:List (aj×ai)} {m:Q0d},(∀v,(x,v)∉binds)->bindL kindOf binds m x=m x
 |[],_,_=>rfl
 | (n,v)::r,m,h=>by
  unfold bindL;rw[vC λw hw=>h w (gf _ hw)];split
  .have:x≠n:=by rintro rfl;show h v de
   simp[this]
  .rfl
theorem vD{kindOf:aj->Option jb}{x:aj}:∀{binds:List (aj×ai)} {m:Q0d},(∀v,(x,v)∉binds)->bindC kindOf binds m x=m x
 |[],_,_=>rfl
 | (n,v)::r,m,h=>by
  unfold bindC;rw[vD λw hw=>h w (gf _ hw)];split
  .rfl
  .have:x≠n:=by rintro rfl;show h v de
   simp[this]
theorem vE{kindOf:aj->Option jb}{x:aj}{v:ai}:∀{P:Q0g} {vs:Q0f} {i:Nat} {m:Q0d},P.Nodup->P[i]?=aa x->vs[i]?=aa v->kindOf x=aa .local ->
  bindL kindOf (P.zip vs) m x=aa v
 |[],_,_,_,_,h,_,_=>by simp at h
 |_::_,[],_,_,_,_,h,_=>by simp at h
 |p::P,w::vs,0,m,nd,h1,h2,hk=>by simp at h1 h2;subst h1;subst h2;show bindL kindOf ((p,w)::P.zip vs) m p=_;unfold bindL;rw[vC λv a=>(kl.mp nd).1 (rj a).1,Z_ hk];simp
 |p::P,w::vs,i+1,m,nd,h1,h2,hk=>by show bindL kindOf ((p,w)::P.zip vs) m x=_;unfold bindL;show vE (i:=i) (kl.mp nd).2 (by simpa using h1) (by simpa using h2) hk
theorem vF{kindOf:aj->Option jb}{x:aj}{v:ai}:∀{P:Q0g} {vs:Q0f} {i:Nat} {m:Q0d},P.Nodup->P[i]?=aa x->vs[i]?=aa v->kindOf x≠aa .local ->
  bindC kindOf (P.zip vs) m x=aa v
 |[],_,_,_,_,h,_,_=>by simp at h
 |_::_,[],_,_,_,_,h,_=>by simp at h
 |p::P,w::vs,0,m,nd,h1,h2,hk=>by simp at h1 h2;subst h1;subst h2;show bindC kindOf ((p,w)::P.zip vs) m p=_;unfold bindC;rw[vD λv a=>(kl.mp nd).1 (rj a).1,Zz hk];simp
 |p::P,w::vs,i+1,m,nd,h1,h2,hk=>by show bindC kindOf ((p,w)::P.zip vs) m x=_;unfold bindC;show vF (i:=i) (kl.mp nd).2 (by simpa using h1) (by simpa using h2) hk
def start(N:Q0g)(vs:List V):St:=vs.map aa++cp (N.length-vs.length) af
def eQ(CX:CW)(P:bg)(w:a_)(K:ao)(mg:Q0d)(ω:ba)(N:Q0g)(qual:aj)(scope:fu)(f:ah)(cd:ai)(A:br)(Γ:List df)(s:ak)(H:Hp)(E:XK):Cx where
 Ω:=P
 w:=w
 K:=K
 mg:=mg
 ω:=ω
 A:=A.deeper (envOfC qual scope s.heap.objs.size f cd)
 N:=N
 s₀:=s
 H₀:=H
 env:=envOfC qual scope s.heap.objs.size f cd
 Γ:=Γ
 stack:=envOfC qual scope s.heap.objs.size f cd::Γ
 ex:=[]
 calm:=ae
 fn:=λ_=>ae
 pn:=[]
 xe:=λe s'=>ax (au P w) (A.deeper (envOfC qual scope s.heap.objs.size f cd)) (leaving (envOfC qual scope s.heap.objs.size f cd) e) (λ_ a=>CX Γ H s E e a) (λc a=>CX Γ H s E c a) s'
def z7{sc:fu}{n:Nat}{x:aj}(h:sc.names.lookup x=aa .cell):∃c,(cellsFrom n sc.names []).lookup x=aa c:=by have q:=Cc sc.names n [] (.inl h);show Option.isSome_iff_exists.mp q
theorem vG{CX:CW}{P:bg}{w:a_}{K:ao}{mg:Q0d}{ω:ba}{N d:Q0g}{qual:aj}{scope:fu}{f:ah}{cd:ai}{A:br}{Γ:List df}{s J:ak}{H:Hp}{E:XK}{us:Q0f}{vs:List V}
  (S:cH N d scope) (Y:A.handled=af) (e0:RX P w K mg ω A Γ s H) (hl:vs.length=d.length) (r:θ vs us)
  (x:InCallC s s.heap.objs.size (bindL (envOfC qual scope s.heap.objs.size f cd).kindOf (d.zip us) λ_=>af) (cellsFrom (s.heap.objs.size+1) scope.names []) (bindC (envOfC qual scope s.heap.objs.size f cd).kindOf (d.zip us) λ_=>af) J):
  Φ (eQ CX P w K mg ω N qual scope f cd A Γ s H E) [] (start N vs) H J:=by
 have X:d.length<=N.length:=by have:=congrArg pz S.pre;rw[ij] at this;lia
 obtain⟨I,tk,rfl,O⟩:=x.done;have j:∀b:ah,b∉(eQ CX P w K mg ω N qual scope f cd A Γ s H E).ex:=λb z=>Zw (show b∈([]:List ah) from z) (by simp);show⟨⟨e0.mod,S.kind,rfl,rfl,bp _,λy z c I h2=>?_,λy l=>?_,λy c _ h=>?_,λ_=>Y,Zg e0.frames,.inr ⟨rfl,rfl⟩,λb z=>Zw z (j b),e0.bs,e0.FA,λb _ _=>j b,λb z=>Zw z (j b),e0.jR,e0.P0,e0.tab⟩,
  rfl,e0.bare,Un.kept O,⟨_,x.toInCall.ns,λi y v I h2 h3=>?_⟩,λy c h=>⟨_,x.cell y c h⟩,e0.hok.fresh (bp _),λy c h=>?_,λp o=>Zw (show p∈([]:Q0b) from o) (by simp),e0.hok.kept O,?_⟩
 .exact Ww x.apart (jy I) (jy h2)
 .have l:scope.names.lookup y=aa .cell\/scope.names.lookup y=aa .free:=l;rcases l with l|l
  .exact z7 l
  .exact Zw rfl (S.YQ _ (jy l))
 .exact lj (x.above y c (jy h))
 .have F:i<vs.length:=by
   unfold start at h2;by_cases F:i<vs.length
   .exact F
   .rw [jz (by simpa using F)] at h2;rw[jr] at h2;split at h2<;>cases h2
  have Z:vs[i]?=aa v:=by
   unfold start at h2;rw[j_ (by simpa using F),ft] at h2
   cases e:vs[i]? with
   |none=>rw[e] at h2;cases h2
   |some a=>rw[e] at h2;cases h2;rfl
  obtain⟨u,L,U⟩:=r.get Z;have o:d[i]?=aa y:=by rw[<- S.pre,Ef ∅];show I
  have m:d.Nodup:=by rw[<- S.pre];show S.nd.sublist (a0G _ _)
  show⟨u,U,?_⟩;rcases S.par y (pj o) with k|k
  .exact .inl ⟨k,vE m o L k⟩
  .obtain ⟨c,e⟩:=z7 (n:=s.heap.objs.size+1) k;show .inr ⟨.inl k,c,e,?_⟩;have q:=x.cell y c e;rw[vF m o L (by show scope.names.lookup y≠_;rw[k];decide)] at q;show q
 .exact e0.hok.fresh (lj (x.above y c (jy h)))
 .unfold start;show _=N.length;rw[dm,bo,je];lia
theorem MD{CX:CW}{P:bg}{w:a_}{K:ao}{mg:Q0d}{ω:ba}{k:Nat}{f:ah}{name qual:aj}{params:yc}{body:List cn}{scope:fu}{U kV doc pm a ct Z:ai}{X Y:Option ah}
  {z:Array (Option ai)} {N m:Q0g} {sp:Sp} (lk:K.lookup f=aa ⟨Z,Y,.func (fnOf name qual params body scope U kV doc pm X a ct),z⟩) (L:codeIn K a qual=ae) (S:cH N m scope)
  (len:∀vs H Q E,sp vs H Q E->vs.length=m.length)
  (h:∀(A:br) (Γ:List df) (s:ak) (H:Hp) (vs:List V) (Q:VK) (E:XK),cZ k (A.deeper (envOfC qual scope s.heap.objs.size f a))->sp vs H Q E ->
   ∃t,tS (eQ CX P w K mg ω N qual scope f a A Γ s H E) body t/\t {nx:=λ_ H'=>Q .non H',rt:=Q} (start N vs) H):
  hJ P w K mg ω CX (k+1) f (fnOf name qual params body scope U kV doc pm X a ct) m sp:=by
 show⟨len,λA Γ s H args us vs Q E F e0 hb r l=>?_⟩;have hl:=len _ _ _ _ l;have KX:K.In s.heap:=e0.mod.kin.keeps λb o e=>(e0.bs b o e).1;have lim:s.heap.NoLimit:=e0.mod.nolimit.keeps λb o e=>(e0.bs b o e).1;have d:∀y∈m.zip us,scope.names.lookup y.1=aa .local\/(scope.names.lookup y.1=aa .cell/\((cellsFrom (s.heap.objs.size+1) scope.names []).lookup y.1).isSome=ae):=λ⟨n,v⟩ hy=>by
  rcases S.par n (rj hy).1 with q|q
  .exact .inl q
  .exact .inr ⟨q,Cc _ _ _ (.inl q)⟩
 show Xa F.depth (KX _ _ lk) rfl S.co S.gen rfl (Xo KX L) (hb _ _ _ _ ?_);show Wc S.kind d λenv he O x=>?_;subst he;show⟨lim.keeps x.toInCall.keep,W_ ?_⟩;obtain⟨t,ht,hq⟩:=h A Γ s H vs Q E (F.deeper _) l;have I:Φ (eQ CX P w K mg ω N qual scope f a A Γ s H E) [] (start N vs) H O:=vG S F.hd e0 hl r x;show gp (ht [] O (start N vs) H _ I hq) (λfl s' j=>?_) λe s' j=>j;have fin:∀{c:St} {H':Hp} {v:V} {u:ai},Φ (eQ CX P w K mg ω N qual scope f a A Γ s H E) [] c H' s'->Ψ v u->Q v H'->CE Γ P w H s Q u s' :=
  λ{c H' v u} J p q=>⟨v,H',J.os,J.bare,J.ω,J.hok,p,q⟩
 cases fl with
 |ret u =>
  obtain⟨v,c,H',J,p,q⟩:=j;show fin J p q
 |next =>
  obtain⟨c,H',J,q⟩:=j;show fin (v:=V.non) (u:=gq) J rfl q
 |brk =>
  obtain⟨_,_,_,q⟩:=j;show jt q
 |cont =>
  obtain⟨_,_,_,q⟩:=j;show jt q
section
variable{X:Cx}{x:aj}{p ν:bq}{e:av}{es:List av}{t:TA}{id T:String}{r:List V->Hp->VK->Prop}
def sx(r:List V->Hp->VK->Prop)(t:TA):TE:=λσ H Q=>t σ H λvs H1=>r vs H1 Q
def gH(q:d4 X (.builtin id) r)(n:Gl X x)(m:X.mg x=af)(j:bootBuiltins x=aa (.builtin id))(u:PA X (e::es) t)(l:x ≠ "__name__":=by decide)(c:Zu x:=by decide)
  (o:Zr X e es:=by rfl) (a:Q0l X ν es:=by rfl):PE X (.Call (.Name x p) (e::es) [] ν) (sx r t):=by
 intro π s σ H Q I h;show tu (lP I n m j ?_ l c);show a2g (dA (u ν π s σ H _ I h) λus d ⟨vs,H1,v,r1,q1⟩=>q π d σ H1 vs us Q v r1 q1) o a
def oN(q:d4 X (.type T) r)(n:Gl X x)(m:X.mg x=af)(j:bootBuiltins x=aa (.type T))(u:PA X (e::es) t)(l:x ≠ "__name__":=by decide)(c:Zu x:=by decide)
  (o:Zr X e es:=by rfl) (a:Q0l X ν es:=by rfl):PE X (.Call (.Name x p) (e::es) [] ν) (sx r t):=by
 intro π s σ H Q I h;show tu (lP I n m j ?_ l c);show ym (dA (u ν π s σ H _ I h) λus d ⟨vs,H1,v,r1,q1⟩=>q π d σ H1 vs us Q v r1 q1) o a
end
end L2
namespace HT
open PyProof.Rows
section
open PySem.SeqAt

open PySem.MeetsSeq PySem.MeetsSeq2 PySem.MeetsSeq3
end
section
variable{Ω:bg}{w:a_}{A:br}{E:Q0c}{s:ak}
theorem RY(u:h_ s.heap t vs.toArray)(v:h_ s.heap b ws.toArray)(m:vs≠[])
  (x:ws=[]->Q (.ref t) s) (h2:ws≠[]->Q (.ref s.heap.objs.size) {s with heap:=s.heap.push {cls:=.type "tuple",data:=.seq (vs++ws).toArray} })
  (hsz:vs.length+ws.length<=bj):ax (au Ω w) A (binaryOp .Add (.ref t) (.ref b)) Q E s:=by
 obtain⟨⟨cls,dd,data,j⟩,ho,p,n,o⟩:=id u;obtain⟨⟨q,h,data2,c⟩,a,d,l,hd2⟩:=id v;simp only at p o d hd2;subst p o d hd2;have e:vs.toArray++ws.toArray=(vs++ws).toArray:=by simp
 by_cases hw:ws=[]
 .exact Bt ⟨_,ho,rfl⟩ ⟨_,a,rfl⟩ Br Bq Ck Cm (Cn _ _)
   (tuple_addW1 t b vs.toArray ws.toArray n l dd h j c (by simpa using m) (by simp[hw])) ⟨ho,a,x hw⟩
 .refine Bt ⟨_,ho,rfl⟩ ⟨_,a,rfl⟩ Br Bq Ck Cm (Cn _ _)
   (tuple_addW2 t b vs.toArray ws.toArray n l dd h j c (by simpa using m) (by simpa using hw) (by rw[cu,cu];show hsz)) ⟨ho,a,?_⟩
  rw[e];show h2 hw
noncomputable def eK(n d:Nat):Option Int->Nat
 |none=>d
 |some v=>if v<0 then(v+(n:Int)).toNat else min v.toNat n
theorem YR(n d:Nat)(c:d<=n)(o:Option Int):eK n d o<=n:=by
 cases o with
 |none=>show c
 |some v =>
  show(if v<0 then(v+(n:Int)).toNat else min v.toNat n)<=n;by_cases a:v<0
  .rw [Z_ a];lia
  .rw [Zz a];show a0y _ _
def FJ(v:Int)(n d:Nat):(if v<0 then max (v+(n:Int)) 0 else min v (n:Int))=((eK n d (aa v):Nat):Int):=by
 show(if v<0 then max (v+(n:Int)) 0 else min v (n:Int))=(((if v<0 then(v+(n:Int)).toNat else min v.toNat n):Nat):Int);by_cases a:v<0
 .simp only[Z_ a];lia
 .simp only[Zz a];lia
def CY(lo a:Option Int)(n:Nat):Cp lo a 1 (n:Int)=(((eK n 0 lo:Nat):Int),((eK n n a:Nat):Int)):=by
 have c:¬ ((1:Int)<0):=by lia
 unfold Cp;simp only[c,if_false];show a0k ?_ ?_
 .cases lo with
  |none=>rfl
  |some v=>show FJ v n 0
 .cases a with
  |none=>rfl
  |some v=>show FJ v n n
def CZ(i j:Nat):x_ (i:Int) (j:Int) 1=j-i:=by
 unfold x_;have a:(1:Int)>0:=by lia
 simp only[a,if_true,Int.ediv_one];split<;>lia
theorem sF(p:kz v o)(h:Q o s):ax (au Ω w) A (a17 v) Q E s:=by
 cases p with
 |none=>show a0a h
 |int i t=>show slicePart_int h
theorem iE{m:ah}{l j:ai}{lo c:Option Int}{n:Nat}{Q:Int×Int×Nat->ak->Prop}(q:s.heap.IsSliceOf m l j .none)(p:kz l lo)(o:kz j c)
  (h:Q (((eK n 0 lo:Nat):Int),1,eK n n c-eK n 0 lo) s):ax (au Ω w) A (Zd (.ref m) (pure (n:Int))) Q E s:=by
 obtain⟨v,a,u,d⟩:=id q;unfold Zd a18;show aq (aq (ng a d (x:=l) rfl (aq (ng a d (x:=j) rfl (aq (ng a d (x:=.none) rfl (az ?_)))))));show aq (a0a ?_);show ax _ _ (if((1:Int) == 0)=ae then _ else _) _ _ s;rw[Zz (by decide)];show aq (sF p (aq (sF o (aq (az ?_)))));show ax _ _ (match Cp lo c 1 (n:Int) with|(lo,c)=>pure (lo,(1:Int),x_ lo c 1)) _ _ s;rw[CY lo c n];show ax _ _ (pure (((eK n 0 lo:Nat):Int),(1:Int),x_ ((eK n 0 lo:Nat):Int) ((eK n n c:Nat):Int) 1)) _ _ s;rw[CZ];show az h
def ME(xs:Array ai)(i k:Nat):((cm k).filterMap λ(m:Nat)=>xs[((i:Int)+(m:Int)*1).toNat]?).toArray=((xs.toList.drop i).take k).toArray:=by
 have e:(λ(m:Nat)=>xs[((i:Int)+(m:Int)*1).toNat]?)=λm=>xs[i+m]?:=by
  funext m
  have:((i:Int)+(m:Int)*1).toNat=i+m:=by lia
  rw[this]
 rw[e];have:=pick_run xs i k;rw[List.filterMap_map] at this;have a:((λx=>xs[x]?)∘λx=>i+x)=λm=>xs[i+m]?:=rfl;rw[a] at this;rw[this]
theorem mY{t j:ah}{items:Array ai}{u p:ai}{lo a:Option Int}{Q:Q0c}(c:h_ s.heap t items)(v:s.heap.IsSliceOf j u p .none)(y:kz u lo)(x:kz p a)
  (hw:¬ (eK items.size 0 lo=0/\eK items.size items.size a=items.size))
  (h:Q (.ref s.heap.objs.size) {s with heap:=s.heap.push {cls:=.type "tuple",data:=.seq ((items.toList.drop (eK items.size 0 lo)).take (eK items.size items.size a-eK items.size 0 lo)).toArray} })
  (hsz:items.size<=bj):ax (au Ω w) A (getItem (.ref t) (.ref j)) Q E s:=by
 have d:sizeOk (.seq ((items.toList.drop (eK items.size 0 lo)).take (eK items.size items.size a-eK items.size 0 lo)).toArray):=by show((items.toList.drop (eK items.size 0 lo)).take (eK items.size items.size a-eK items.size 0 lo)).toArray.size<=bj;rw[cu,ij,km,gz];lia
 have J:eK items.size items.size a<=items.size:=YR _ _ (bp _) a;obtain⟨z,l,o,F⟩:=id v;have I:s.TypeIs (.ref j) "slice":=⟨z,l,o⟩;unfold getItem
 try with_reducible show iq ?_
 first|show aq (az ?_)|skip
 show aq (V_ c.typeIs (by decide) ?_);show aq (qo (name:=qv "__getitem__") c.typeIs oz
  (jw oz c.typeIs a0d ?_ (a0j _ _)))
 show ax _ _ (Za (.ref t) >>= _) _ _ s;show aq (Zh c ?_);show aq (Be I ?_);rw[Z_ (by decide)];show aq (iE v y x ?_);have n:¬ ((((eK items.size 0 lo:Nat):Int) == 0&&(1:Int) == 1&&(eK items.size items.size a-eK items.size 0 lo) == items.size)=ae):=by intro q;rw[jf,jf] at q;have q1:((eK items.size 0 lo:Nat):Int)=0:=eq_of_beq q.1.1;have q2:eK items.size items.size a-eK items.size 0 lo=items.size:=eq_of_beq q.2;show hw ⟨by lia,by lia⟩
 show ax _ _ (if(((eK items.size 0 lo:Nat):Int) == 0&&(1:Int) == 1&&(eK items.size items.size a-eK items.size 0 lo) == items.size)=ae then _ else _) _ _ s;rw[Zz n,ME]
 first
  |show aq (m:=xy _) (qm (az ⟨_,rfl,az h⟩) d)
  |show aq (m:=xy _) (qm (aq (az (az ⟨_,rfl,az h⟩))) d)
  |show aq (aq (m:=xy _) (qm (az (az ⟨_,rfl,az h⟩)) d))
  |show aq (aq (m:=xy _) (qm (az ⟨_,rfl,az h⟩) d))
end
end HT
namespace L2
open PySem.Spec PyProof.Rows
abbrev TO:=St->Hp->(Option Int->Hp->Prop)->Prop
def PO(X:Cx)(e:Option av)(t:TO):Prop :=
 ∀(π:Q0b) (s:ak) (σ:St) (H:Hp) (Q:Option Int->Hp->Prop),Φ X π σ H s->t σ H Q ->
  ax (au X.Ω X.w) X.A (evalPart e X.env) (λu s'=>∃o H',Φ X π σ H' s'/\kz u o/\Q o H') X.xe s
def Ts(t:TE):TO:=λσ H Q=>t σ H λx H1=>∃i,x=.int i/\Q (aa i) H1
theorem intsAre_of:∀{us:Q0f},θ (ns.map V.int) us->ki us ns:=by
 induction ns with
 |nil=>intro us r;rw[mn] at r;cases r;show .nil
 |cons n ns ih =>
  intro us r;rw[cf] at r
  cases r with
  |cons r1 r2 =>
   obtain⟨t,e⟩:=r1;subst e;show .cons n t (ih r2)
section
variable{X:Cx}{e:av}{te:TE}{lo hi:Option av}{tl th:TO}{ν p2:bq}
def RZ(h:PE X e te):PO X (aa e) (Ts te):=by intro π s σ H Q I hw;rw[evalPart_some];show dA (h π s σ H _ I hw) λu d a=>?_;obtain⟨x,H1,c,r1,q1⟩:=a;obtain⟨i,rfl,q⟩:=q1;obtain⟨t,rfl⟩:=r1;show⟨aa i,H1,c,.int i t,q⟩
def VN(X:Cx)(r:V->Option Int->Option Int->Hp->VK->Prop):Prop :=
 ∀(π:Q0b) (s:ak) (σ:St) (H:Hp) (x:V) (v c a:ai) (lo hi:Option Int) (d:ah) (Q:VK),Φ X π σ H s->Ψ x v->s.heap.IsSliceOf d c a .none->kz c lo->kz a hi->r x lo hi H Q ->
  ∃T id,typeLookup (.type T) "__getitem__"=pure (aa (.builtin id))/\s.TypeIs v T/\ax (au X.Ω X.w) X.A (getItem v (.ref d)) (EP X π σ Q) X.xe s
def VN.or(h:VN X r)(h':VN X r'):VN X (λx lo hi H Q=>r x lo hi H Q\/r' x lo hi H Q):=by
 intro π s σ H x v c a lo hi d Q I j n m l q;rcases q with q|q
 .exact h π s σ H x v c a lo hi d Q I j n m l q
 .exact h' π s σ H x v c a lo hi d Q I j n m l q
def Fd(r:V->Option Int->Option Int->Hp->VK->Prop)(te:TE)(tl th:TO):TE:=λσ H Q=>te σ H λx H1=>tl σ H1 λl c=>th σ c λu a=>r x l u a Q
def MF(F:VN X r)(L:PE X e te)(J:PO X lo tl)(y:PO X hi th):PE X (.Subscript e (.Slice lo hi af p2) ν) (Fd r te tl th):=by intro π s σ H Q I h;show Cz (dA (L π s σ H _ I h) λv m ⟨x,H1,I1,r1,q1⟩=>?_);show wpAny_Slice (dA (J π m σ H1 _ I1 q1) λc j ⟨l,H2,Z,p,q2⟩=>dA (y π j σ H2 _ Z q2) λa s3 ⟨u,d,Y,o,n⟩=>?_);rw[evalPart_none];show az ?_;have U:Φ X π σ d {s3 with heap:=s3.heap.push {cls:=.type "slice",data:=.fields #[c,a,.none]} }:=Y.kept (t':=s3.toks) λb ob q=>cx _ q;obtain⟨T,id,O,z,K⟩:=F π {s3 with heap:=s3.heap.push {cls:=.type "slice",data:=.fields #[c,a,.none]} } σ d x v c a l u s3.heap.objs.size Q U r1 (a1E ..) p o n;show ax (au X.Ω X.w) X.A (subscriptTail e (.Slice lo hi af p2) v (.ref s3.heap.objs.size)) (EP X π σ Q) X.xe {s3 with heap:=s3.heap.push {cls:=.type "slice",data:=.fields #[c,a,.none]} };show tail_any (ops:=[.ref s3.heap.objs.size,v]) z O K (by with_unfolding_all rfl)
def z8(xs:List V)(lo hi:Option Int):List V:=(xs.drop (HT.eK xs.length 0 lo)).take (HT.eK xs.length xs.length hi-HT.eK xs.length 0 lo)
def pI(xs:List V)(lo hi:Option Int):(z8 xs lo hi).length<=xs.length:=by unfold z8;rw[ij,km];lia
def Na(K:ao):V->Option Int->Option Int->Hp->VK->Prop:=λx lo hi H Q=>∃a xs,x=.ref a/\dZ K H a xs /\
 ¬ (HT.eK xs.length 0 lo=0/\HT.eK xs.length xs.length hi=xs.length) /\∀p,H p=af->Q (.ref p) (upd H p (.tup (z8 xs lo hi)))
def YS:VN X (Na X.K):=by
 intro π s σ H x v z y lo hi A Q I l u n m h;obtain⟨a,xs,rfl,p,hw,q⟩:=h;cases l;obtain⟨j,r,d,c⟩:=I.tuple p;have hlen:j.toArray.size=xs.length:=by rw[cu];show r.length.symm
 show⟨"tuple",_,oz.lookup,d.typeIs,?_⟩;show HT.mY d u n m (by rw[hlen];show hw) ?_ (by rw[hlen];show c);rw[hlen];show⟨.ref s.heap.objs.size,_,I.laid (t':=s.toks) (o:=.tup (z8 xs lo hi)) (λb F q=>cx _ q) (bp _) ?_,rfl,q _ (I.hok.fresh (bp _))⟩;show⟨ig (pI xs lo hi) c,_,(r.drop (HT.eK xs.length 0 lo)).take (HT.eK xs.length xs.length hi-HT.eK xs.length 0 lo),yo _ _,BR.new _ _⟩
def Tr(K:ao):R2:=λx y H Q=>∃a b xs ys,x=.ref a/\y=.ref b/\dZ K H a xs/\dZ K H b ys/\xs≠[]/\xs.length+ys.length<=bj /\
 (ys=[]->Q (.ref a) H)/\(ys≠[] ->∀p,H p=af->Q (.ref p) (upd H p (.tup (xs++ys))))
theorem θ.xW(r:θ xs us):us=[]↔xs=[]:=by
 cases r with
 |nil=>simp
 |cons _ _=>simp
def R1:gF X (binaryOp .Add) (Tr X.K):=by intro π s σ H x y v u Q I m l h;obtain⟨a,b,xs,ys,rfl,rfl,A,p,n,j,q1,q2⟩:=h;cases m;cases l;obtain⟨F,r1,p1,_⟩:=I.tuple A;obtain⟨d,c,p2,_⟩:=I.tuple p;show HT.RY p1 p2 (λz=>n (r1.xW.mp z)) (λz=>⟨.ref a,H,I,rfl,q1 (c.xW.mp z)⟩) (λz=>?_) (by rw[<- r1.length,<- c.length];show j);show⟨.ref s.heap.objs.size,_,I.laid (t':=s.toks) (o:=.tup (xs++ys)) (λb J q=>cx _ q) (bp _) ?_,rfl,q2 (λw=>z (c.xW.mpr w)) _ (I.hok.fresh (bp _))⟩;show⟨by rw[dm];show j,_,r1.append c,yo _ _,BR.new _ _⟩
end
def R3(n:Nat)(i:Int):Option Nat:=if 0<=i then(if i<n then aa i.toNat else af) else if -(n:Int)<=i then aa (i+n).toNat else af
def p7{α:Type}(xs:List α)(i:Int):Option α:=(R3 xs.length i).bind λj=>xs[j]?
def FL(h:R3 n i=aa j):seqIndex? i n=aa j/\j<n /\ -(n:Int)<=i/\i<n:=by
 unfold R3 at h;by_cases c:0<=i
 .rw [Z_ c] at h;by_cases a:i<n
  .rw [Z_ a] at h;have e:i.toNat=j:=ee h;show⟨by rw[Ws c a,e],by lia,by lia,a⟩
  .rw [Zz a] at h;cases h
 .rw [Zz c] at h;by_cases a:-(n:Int)<=i
  .rw [Z_ a] at h;have e:(i+n).toNat=j:=ee h;show⟨by rw[Wt ∅ a,e],by lia,a,by lia⟩
  .rw [Zz a] at h;cases h
theorem FN{α:Type}{xs:List α}{i:Int}{v:α}(h:p7 xs i=aa v):∃j,seqIndex? i xs.length=aa j/\xs[j]?=aa v/\j<xs.length /\ -(xs.length:Int)<=i/\i<xs.length:=by
 unfold p7 at h
 cases e:R3 xs.length i with
 |none=>rw[e] at h;cases h
 |some j =>
  rw[e] at h;obtain⟨d,h2,c,a⟩:=FL e;show⟨j,d,h,h2,c,a⟩
def xX(b:av):Prop:=∀o i,subscripted b ag o i=operate [o,i] (getItem o i)
def YT(X:Cx)(r:R2):Prop :=
 ∀(value slice:av) (π:Q0b) (s:ak) (σ:St) (H:Hp) (x y:V) (v u:ai) (Q:VK),Φ X π σ H s->Ψ x v->Ψ y u->r x y H Q ->
  subscripted slice ag v u=operate [v,u] (getItem v u)->ax (au X.Ω X.w) X.A (subscriptTail value slice v u) (EP X π σ Q) X.xe s
def MtR(X:Cx)(id:String)(r:V->List V->Hp->VK->Prop):Prop :=
 ∀(π:Q0b) (s:ak) (σ:St) (H:Hp) (x:V) (xs:List V) (v:ai) (us:Q0f) (Q:VK),Φ X π σ H s->Ψ x v->θ xs us->r x xs H Q ->
  ax (au X.Ω X.w) X.A (call (.builtin id) (v::us)) (EP X π σ Q) X.xe s
section
variable{X:Cx}{a b:av}{ta tb:TE}{ν:bq}
def YT.or(h:YT X r)(h':YT X r'):YT X (λx y H Q=>r x y H Q\/r' x y H Q):=by
 intro value slice π s σ H x y v u Q I d c q j;rcases q with q|q
 .exact h value slice π s σ H x y v u Q I d c q j
 .exact h' value slice π s σ H x y v u Q I d c q j
def Tq(m:YT X r)(o:PE X a ta)(n:PE X b tb)(l:xX b):PE X (.Subscript a b ν) (qg r ta tb):=by intro π s σ H Q I h;show Cz (YB o n I h λv u c x y z p j d q=>m a b π c σ z x y v u Q p j d q (l _ _))
def Ar(K:ao):R2:=λx y H Q=>∃p xs i v,x=.ref p/\y=.int i/\dS K H p xs/\p7 xs i=aa v/\Q v H
def Aq(K:ao):R2:=λx y H Q=>∃p xs i v,x=.ref p/\y=.int i/\dZ K H p xs/\p7 xs i=aa v/\Q v H
def R4:YT X (Ar X.K):=by
 intro value slice π s σ H x y v u Q I L J h m;obtain⟨p,xs,i,z,rfl,rfl,O,Y,q⟩:=h;cases L;obtain⟨t,rfl⟩:=J;obtain⟨A,r,d,hz⟩:=I.list O;obtain⟨j,c,h2,h3,h4,Z⟩:=FN Y;obtain⟨w,o,F⟩:=r.get h2;have U:=r.length;have hn:=xV;have fin:EP X π σ Q w s:=⟨z,H,I,F,q⟩;by_cases n:0<=i
 .have l:i.toNat=j:=by rw[Ws n Z] at c;show ee c
  show item_listR d.isList n ∅ (by rw[l];simpa using o) fin m
 .have l:(i+(A.toArray.size:Int)).toNat=j:=by rw[Wt ∅ h4] at c;rw[cu,<- U];show ee c
  show Zj (x:=w) d.isList.typeIs Wq.lookup
   (wpAny_getItem_list_neg (Q:=λr s'=>r=w/\EP X π σ Q r s') d.isList ∅ (by rw[cu]<;>lia) ∅ (by rw[l];simpa using o) ⟨rfl,fin⟩) m
def YU:YT X (Aq X.K):=by
 intro value slice π s σ H x y v u Q I m l h n;obtain⟨p,xs,i,z,rfl,rfl,o,F,q⟩:=h;cases m;obtain⟨t,rfl⟩:=l;obtain⟨O,r,c,U⟩:=I.tuple o;obtain⟨j,J,h2,h3,h4,Z⟩:=FN F;obtain⟨w,L,d⟩:=r.get h2;have A:=r.length;have Y:=xV;have fin:EP X π σ Q w s:=⟨z,H,I,d,q⟩;show Zj (x:=w) c.typeIs oz.lookup
  (getItem_tuple (j:=j) (Q:=λr s'=>r=w/\EP X π σ Q r s') c ∅ ∅ (by rw[cu,<- A];show J) (by simpa using L) ⟨rfl,fin⟩) n
def xZ(lo c:Option Int)(n:Nat):(sliceBounds lo c af n).1=((HT.eK n 0 lo:Nat):Int)/\(sliceBounds lo c af n).2.1=((HT.eK n n c:Nat):Int)/\(sliceBounds lo c af n).2.2=1:=by
 show⟨?_,?_,rfl⟩
 .cases lo with
  |none=>simp[sliceBounds,HT.eK]
  |some i =>
   simp only[sliceBounds,HT.eK,a0m,show(1:Int)>0 by decide,if_true];by_cases h:i<0
   .simp only[h,if_true]<;>lia
   .simp only[h,if_false]<;>lia
 .cases c with
  |none=>simp[sliceBounds,HT.eK]
  |some i =>
   simp only[sliceBounds,HT.eK,a0m,show(1:Int)>0 by decide,if_true];by_cases h:i<0
   .simp only[h,if_true]<;>lia
   .simp only[h,if_false]<;>lia
def uA(c:Q0f)(lo d:Option Int):slicePick c.toArray lo d af=((c.drop (HT.eK c.length 0 lo)).take (HT.eK c.length c.length d-HT.eK c.length 0 lo)).toArray:=by obtain⟨j,h2,h⟩:=xZ lo d c.toArray.size;unfold slicePick;rw[j,h2,h];simp only[sliceRange_one,pick_run,cu]<;>rfl
def M_(K:ao):V->Option Int->Option Int->Hp->VK->Prop:=λx lo c H Q=>∃a xs,x=.ref a/\dS K H a xs /\∀p,H p=af->Q (.ref p) (upd H p (.lst (z8 xs lo c)))
theorem R5:VN X (M_ X.K):=by intro π s σ H x v A z lo c F Q I j u m l h;obtain⟨a,xs,rfl,p,q⟩:=h;cases j;obtain⟨y,r,d,n⟩:=I.list p;have hlen:=r.length;show⟨"list",_,Wq.lookup,d.isList.typeIs,?_⟩;show wpAny_getItem_list_slice d.isList u m l .none (by simp) ?_ (by rw[cu]<;>lia);rw[uA,<- hlen];show⟨.ref s.heap.objs.size,_,I.laid (t':=s.toks) (o:=.lst (z8 xs lo c)) (λb J q=>cx _ q) (bp _) ?_,rfl,q _ (I.hok.fresh (bp _))⟩;show⟨ig (pI xs lo c) n,_,0,(r.drop (HT.eK xs.length 0 lo)).take (HT.eK xs.length xs.length c-HT.eK xs.length 0 lo),fw _ rfl⟩
noncomputable def mZ:V->Bool
 |.non=>ae
 |.bl _=>ae
 |.int _=>ae
 |.str _=>ae
 |_=>ag
noncomputable def VO:V->V->Bool
 |.non,.non=>ae
 |.bl a,.bl b=>a == b
 |.bl a,.int b=>(if a then 1 else 0) == b
 |.int a,.bl b=>a == (if b then 1 else 0)
 |.int a,.int b=>a == b
 |.str a,.str b=>a == b
 |_,_=>ag
theorem YV(d:Ψ y u)(c:Ψ x v)(j:mZ y=ae)(h:mZ x=ae):lz A s u v (VO y x):=by
 cases y with
 |non =>
  cases d
  cases x with
  |non=>cases c;show xo _
  |bl b=>cases c;show a1t b
  |int b=>obtain⟨t,rfl⟩:=c;show a1s b t
  |str b=>obtain⟨t,rfl⟩:=c;show a1r b t
  |_=>show Zw (show ag=ae from h) b_
 |bl a =>
  cases d
  cases x with
  |non=>cases c;show a1y a
  |bl b=>cases c;show a1A a b
  |int b=>obtain⟨t,rfl⟩:=c;show a1z a b t
  |str b=>obtain⟨t,rfl⟩:=c;show a1x a b t
  |_=>show Zw (show ag=ae from h) b_
 |int a =>
  obtain⟨t',rfl⟩:=d
  cases x with
  |non=>cases c;show a1v a t'
  |bl b=>cases c;show a1w a t' b
  |int b=>obtain⟨t,rfl⟩:=c;show Ce a t' b t
  |str b=>obtain⟨t,rfl⟩:=c;show X_ a t' b t
  |_=>show Zw (show ag=ae from h) b_
 |str a =>
  obtain⟨t',rfl⟩:=d
  cases x with
  |non=>cases c;show a1p a t'
  |bl b=>cases c;show a1q a t' b
  |int b=>obtain⟨t,rfl⟩:=c;show Xz a t' b t
  |str b=>obtain⟨t,rfl⟩:=c;show a1o a t' b t
  |_=>show Zw (show ag=ae from h) b_
 |_=>show Zw (show ag=ae from j) b_
def C4(x:V)(u:ai):Bool:=match u with
 |.none=>VO .non x
 |.bool b=>VO (.bl b) x
 |.int i _=>VO (.int i) x
 |.str z _=>VO (.str z) x
 |_=>ag
theorem MG(r:Ψ y u)(f:mZ y=ae):C4 x u=VO y x:=by
 cases y with
 |non=>cases r;rfl
 |bl b=>cases r;rfl
 |int i=>obtain⟨t,rfl⟩:=r;rfl
 |str z=>obtain⟨t,rfl⟩:=r;rfl
 |_=>show Zw (show ag=ae from f) b_
theorem m4:∀{xs:List V} {us:Q0f},θ xs us->xs.all mZ=ae->us.any (C4 x)=xs.any λy=>VO y x
 |_,_,.nil,_=>rfl
 |y::xs,u::us,.cons r t,f=>by rw[mr,jf] at f;rw[kc,kc,MG r f.1,m4 t f.2]
theorem jU(d:Ψ x v)(h:mZ x=ae):∀{xs:List V} {us:Q0f},θ xs us->xs.all mZ=ae ->∀u∈us,lz A s u v (C4 x u)
 |_,_,.nil,_=>λu c=>by cases c
 |y::xs,u::us,.cons r t,f=>λj c=>by
  rw[mr,jf] at f;rcases bx.mp c with rfl|c
  .rw [MG r f.1];show YV r d f.1 h
  .exact jU d h t f.2 j c
def inV(x:V)(xs:List V):Bool:=xs.any λy=>VO y x
def vv(K:ao)(neg:Bool):R2:=λx y H Q=>∃p xs,y=.ref p/\(dS K H p xs\/dZ K H p xs)/\mZ x=ae/\xs.all mZ=ae/\Q (.bl (if neg then !inV x xs else inV x xs)) H
def vH:gF X (compareOp .In) (vv X.K ag):=by
 intro π s σ H x y v u Q I l n h;obtain⟨p,xs,rfl,d,m,fs,q⟩:=h;cases n;rcases d with d|d
 .obtain ⟨c,r,j,o⟩:=I.list d;show SeqAt.in_listAt (C4 x) j.isList (λw hw=>jU l m r fs w (by simpa using hw)) ⟨.bl _,H,I,rfl,?_⟩;rw[show c.toArray.any (C4 x)=c.any (C4 x) by simp,m4 r fs];show q
 .obtain ⟨c,r,j,o⟩:=I.tuple d;show SeqAt.in_tupleAt (C4 x) j (λw hw=>jU l m r fs w (by simpa using hw)) ⟨.bl _,H,I,rfl,?_⟩;rw[show c.toArray.any (C4 x)=c.any (C4 x) by simp,m4 r fs];show q
def x5:gF X (compareOp .NotIn) (vv X.K ae):=by
 intro π s σ H x y v u Q I l n h;obtain⟨p,xs,rfl,d,m,fs,q⟩:=h;cases n;rcases d with d|d
 .obtain ⟨c,r,j,o⟩:=I.list d;show SeqAt.notIn_listAt (C4 x) j.isList (λw hw=>jU l m r fs w (by simpa using hw)) ⟨.bl _,H,I,rfl,?_⟩;rw[show c.toArray.any (C4 x)=c.any (C4 x) by simp,m4 r fs];show q
 .obtain ⟨c,r,j,o⟩:=I.tuple d;show SeqAt.notIn_tupleAt (C4 x) j (λw hw=>jU l m r fs w (by simpa using hw)) ⟨.bl _,H,I,rfl,?_⟩;rw[show c.toArray.any (C4 x)=c.any (C4 x) by simp,m4 r fs];show q
def x6:d4 X (.builtin "len") (λxs H Q=>∃p ys,xs=[.ref p]/\(dS X.K H p ys\/dZ X.K H p ys)/\Q (.int ys.length) H):=by
 intro π s σ H xs us Q I r h;obtain⟨p,ys,rfl,c,q⟩:=h;obtain⟨u,rfl,m⟩:=vals1 r;cases m;have o:=xV;rcases c with c|c
 .obtain ⟨l,d,j,n⟩:=I.list c;have hlen:=d.length;show Calls.call_len_list j.isList (by simp only[cu]<;>lia) ⟨.int ys.length,H,I.tok _,⟨s.toks+1,by rw[cu,hlen]⟩,q⟩
 .obtain ⟨l,d,j,n⟩:=I.tuple c;have hlen:=d.length;show len_tuple j (by simp only[cu]<;>lia) ⟨.int ys.length,H,I.tok _,⟨s.toks+1,by rw[cu,hlen]⟩,q⟩
def x8:d4 X (.type "list") (λxs H Q=>∃p ys,xs=[.ref p]/\(dS X.K H p ys\/dZ X.K H p ys) /\∀l,H l=af->Q (.ref l) (upd H l (.lst ys))):=by
 intro π s σ H xs us Q I r h;obtain⟨p,ys,rfl,x,q⟩:=h;obtain⟨u,rfl,J⟩:=vals1 r;cases J;have fin:∀(c:Q0f),θ ys c->ys.length<=bj ->∀(h':ba) (j:Nat),(∀b F,s.heap.get? b=aa F->h'.get? b=aa F) ->
   h'.get? s.heap.objs.size=aa {cls:=.type "list",dict:=af,data:=.seq c.toArray j,slots:=#[]}->EP X π σ Q (.ref s.heap.objs.size) {s with heap:=h' }:=λc d v h' j m e =>
  ⟨.ref s.heap.objs.size,_,I.laid (t':=s.toks) m (bp _) (show bZ X.Ω X.w _ h' _ (.lst ys) from⟨v,c,j,d,e⟩),rfl,q _ (I.hok.fresh (bp _))⟩
 rcases x with x|x
 .obtain ⟨c,d,y,v⟩:=I.list x;have hlen:=d.length;obtain⟨o,ho,A,n,z⟩:=y.isList;show Xd p (.inl rfl) ho A z (λh' j m e=>fin c d v h' j m e) (by simp only[cu]<;>lia)
 .obtain ⟨c,d,y,v⟩:=I.tuple x;have hlen:=d.length;obtain⟨o,ho,A,n,z⟩:=y;show Xd p (.inr rfl) ho A z (λh' j m e=>fin c d v h' j m e) (by simp only[cu]<;>lia)
theorem uB:d4 X (.type "tuple") (λxs H Q=>∃p ys,xs=[.ref p]/\((dS X.K H p ys /\∀l,H l=af->Q (.ref l) (upd H l (.tup ys)))\/(dZ X.K H p ys/\Q (.ref p) H))):=by
 intro π s σ H xs us Q I r h;obtain⟨p,ys,rfl,h⟩:=h;obtain⟨u,rfl,x⟩:=vals1 r;cases x;rcases h with⟨m,q⟩|⟨m,q⟩
 .obtain ⟨c,d,j,n⟩:=I.list m;have hlen:=d.length;show call_tuple_list j.isList (λh' y=>?_) (by simp only[cu]<;>lia);have v:Φ X π σ H {s with heap:=h' }:=I.kept (t':=s.toks) y;have z:Φ X π σ (upd H h'.objs.size (.tup ys)) {s with heap:=h'.push {cls:=.type "tuple",data:=.seq c.toArray} } :=
   v.laid (t':=s.toks) (λb o e=>cx _ e) (bp _) (show bZ X.Ω X.w _ _ _ (.tup ys) from⟨n,c,d,yo _ _,BR.new _ _⟩)
  show⟨.ref h'.objs.size,_,z,rfl,q _ (v.hok.fresh (bp _))⟩
 .obtain ⟨c,d,j,n⟩:=I.tuple m;show call_tuple_same j ⟨.ref p,H,I,rfl,q⟩
def tyV(K:ao)(T:String)(x:V)(H:Hp):Prop:=match x with
 |.str _=>T="str"
 |.int _=>T="int"
 |.ref p=>(T="list" /\∃xs,dS K H p xs)\/(T="tuple" /\∃o,K.lookup p=aa o/\o.cls=.type "tuple" /\o.dict=af) \/
   (T="dict" /\((∃χ,H p=aa (.dK χ)) \/∃χ,H p=aa (.dT χ)))\/(T="set" /\∃S n,H p=aa (.set S n))\/(T="tuple" /\∃xs,H p=aa (.tup xs))
 |_=>False
theorem YW(I:Φ X π σ H s)(r:Ψ x v)(ty:tyV X.K T x H):
  s.TypeIs v T /\∀a,v=.ref a ->∃m,s.heap.get? a=aa m/\m.dict=af:=by
 cases x with
 |str z =>
  obtain⟨t,rfl⟩:=r;cases (show T="str" from ty);show⟨typeIs_str s z t,λ_ e=>nomatch e⟩
 |int i =>
  obtain⟨t,rfl⟩:=r;cases (show T="int" from ty);show⟨Bp s i t,λ_ e=>nomatch e⟩
 |ref p =>
  cases r;rcases ty with⟨rfl,xs,q⟩|⟨rfl,o,d,u,j⟩|⟨rfl,d⟩|⟨rfl,S,n,d⟩|⟨rfl,xs,d⟩
  .obtain ⟨y,_,l,_⟩:=I.list q;show⟨l.isList.typeIs,λa e=>?_⟩;cases e;obtain⟨o,n,e,c,j,_⟩:=l;show⟨o,e,j⟩
  .refine ⟨⟨o,I.oJ p o d,u⟩,λa e=>?_⟩;cases e;show⟨o,I.oJ _ o d,j⟩
  .have z:∃o,s.heap.get? p=aa o/\o.ExactDict:=by
    rcases d with⟨χ,d⟩|⟨χ,d⟩
    .obtain ⟨_,_,_,_,o,_,_,e,ex,_⟩:=I.hok p _ d;show⟨o,e,ex⟩
    .obtain ⟨_,_,_,_,o,_,_,e,ex,_⟩:=I.hok p _ d;show⟨o,e,ex⟩
   obtain⟨o,e,ex⟩:=z;show⟨⟨o,e,ex.1⟩,λa h=>?_⟩;cases h;show⟨o,e,ex.2.1⟩
  .obtain ⟨o,_,_,_,e,ex,_⟩:=I.hok p _ d;show⟨⟨o,e,ex.1⟩,λa h=>?_⟩;cases h;show⟨o,e,ex.2.1⟩
  .obtain ⟨_,_,_,⟨o,e,c,_⟩,nd⟩:=I.hok p _ d;show⟨⟨o,e,c⟩,λa h=>?_⟩;cases h;show⟨o,e,nd _ e⟩
 |_=>show jt ty
def vt(K:ao)(T:String)(r:V->List V->Hp->VK->Prop)(c:TE)(t:TA):TE:=λσ H Q=>c σ H λx H1=>tyV K T x H1/\t σ H1 λxs d=>r x xs d Q
variable{o e:av}{es:List av}{to:TE}{t:TA}{name:aj}{apos cpos:bq}{T id:String}{r:V->List V->Hp->VK->Prop}
theorem VP(z:PlainAttrs T)(slot:Slot T name id)(l:typeOf (.builtin id)=pure (.type "method_descriptor"))(F:MtR X id r)(ho:PE X o to)(J:PA X (e::es) t)
  (d:attributeBase o name X.env (eval o X.env)=eval o X.env:=by rfl)
  (j:((cy cpos (ar (e::es) X.env)).all (λx=>!x.1)&&(backToKw cpos (lr [] X.env)).all (λx=>x.1.isSome)
   && Zv ((e::es).length+([]:List gx).length+(if([]:List gx).isEmpty then 0 else 1)<30))=ae:=by rfl)
  (c:Q0k apos cpos:=by rfl) (A:Zr X e es:=by rfl) (hplain:Q0l X cpos es:=by rfl):
  PE X (.Call (.Attribute o name apos) (e::es) [] cpos) (vt X.K T r to t):=by
 intro π s σ H Q I h;show wpAny_Call_method_late d j c rfl (dA (ho π s σ H _ I h) λv u ⟨x,H1,p,r1,ty,q1⟩=>?_);obtain⟨L,h2⟩:=YW p r1 ty;show⟨T,id,z,slot,l,L,h2,?_⟩;have n:=J cpos π u σ H1 _ p q1;rw[A] at n ⊢;show Calls.callWith_builtin (by show(ag||(cy cpos (ar es X.env)).any (·.1))=ag;rw[hplain]<;>rfl) (Yz ?_);show dA n λus q m=>by obtain⟨vs,U,O,y,q2⟩:=m;show F π q σ U x vs v us Q O r1 y q2
end
def MtM(X:Cx)(id:String)(r:V->List V->Hp->VK->Prop):Prop :=
 ∀(π:Q0b) (s:ak) (σ:St) (H:Hp) (x:V) (xs:List V) (v:ai) (us:Q0f) (Q:VK),Φ X π σ H s->Ψ x v->θ xs us->r x xs H Q ->
  ax (au X.Ω X.w) X.A (call (.builtin id) (v::us)) (EP X π σ Q) X.xe s
theorem θ.one:∀{x:V} {us:Q0f},θ [x] us ->∃u,us=[u]/\Ψ x u
 |_,_,.cons r .nil=>⟨_,rfl,r⟩
theorem θ.eraseIdx:∀{xs:List V} {us:Q0f} (i:Nat),θ xs us->θ (xs.eraseIdx i) (us.eraseIdx i)
 |_,_,_,.nil=>.nil
 |_,_,0,.cons _ t=>t
 |_,_,i+1,.cons r t=>.cons r (θ.eraseIdx i t)
theorem θ.rep(h:θ xs us):∀k:Nat,θ (cp k xs).flatten (cp k us).flatten
 |0=>.nil
 |k+1=>by rw[kj,kj,qa,qa];show θ.append h (θ.rep h k)
theorem vJ{α:Type}:∀(l:List α) (i:Nat),(l.eraseIdx i).length<=l.length
 |[],_=>bp _
 |_::_,0=>pd _
 |_::r,i+1=>Nat.succ_le_succ (vJ r i)
theorem foldl_rep(c:Q0f):∀(k:Nat) (a:Q0f),
  Eh (λx1 d=>x1++d) a.toArray (cp k c.toArray)=(a++(cp k c).flatten).toArray
 |0,a=>by simp
 |k+1,a=>by
  have e:a.toArray++c.toArray=(a++c).toArray:=by simp
  have h:(a++c)++(cp k c).flatten=a++(cp (k+1) c).flatten:=by rw[kj,qa,Ek]
  rw[<- h,<- foldl_rep c k (a++c),<- e,kj,a0T]
section
variable{X:Cx}{π:Q0b}{σ:St}{H:Hp}{s:ak}{l b:ah}{xs ys zs:List V}
theorem Φ.R6{a its':Q0f}{n:Nat}{f:Array ai->Array ai}{t':Nat}(I:Φ X π σ H s)(o:H l=aa (.lst xs))
  (e:s.heap.get? l=aa {cls:=.type "list",data:=.seq a.toArray n}) (j:f a.toArray=its'.toArray) (d:θ ys its') (c:ys.length<=bj):
  Φ X π σ (upd H l (.lst ys)) {s with heap:=s.heap.update l (fm f),toks:=t' }:=by
 have q:=a1D e f;rw[j] at q;show I.write (x:=l) (e:=l) (by rw[o];show trivial) (.inl rfl) (λp u m h=>(Ci s.heap (fm f) (fg m)).trans h) ⟨_,q⟩ ?_;show⟨c,its',_,d,q⟩
theorem Φ.Ap(I:Φ X π σ H s)(c:θ ys ι)(a:ys.length<=bj):
  Φ X π σ (upd H s.heap.objs.size (.lst ys)) {s with heap:=s.heap.push {cls:=.type "list",data:=.seq ι.toArray},toks:=t' } :=
 I.laid (λ_ _ q=>cx _ q) (bp _) ⟨a,ι,0,c,fw _ rfl⟩
def Φ.fresh(I:Φ X π σ H s):H s.heap.objs.size=af:=I.hok.fresh (bp _)
def Φ.z9(I:Φ X π σ H s)(c:H l=aa (.lst xs)):xs.length<=bj /\∃(a:Q0f) (n:Nat),θ xs a/\xs.length=a.length/\s.heap.get? l=aa {cls:=.type "list",data:=.seq a.toArray n}:=by obtain⟨z,a,n,r,e⟩:=I.hok l _ c;show⟨z,a,n,r,r.length,e⟩
def AA{n:Nat}(h:n<=bj):ya n=ag:=by unfold ya;show Zy ∅
def FO:V->List V->Hp->VK->Prop:=λx vs H Q=>∃l xs y,x=.ref l/\vs=[y]/\H l=aa (.lst xs)/\xs.length<bj/\Q .non (upd H l (.lst (xs++[y])))
def vK:MtM X "list.append" FO:=by intro π s σ H x vs v us Q I d j h;obtain⟨l,xs,y,rfl,rfl,c,o,q⟩:=h;cases d;obtain⟨u,rfl,m⟩:=j.one;obtain⟨z,a,n,r,p,e⟩:=I.z9 c;show qr Yk ⟨_,e,rfl⟩ F.entry_list_append (F.args_list_append_2 _ _) (PySem.list_append l a.toArray n u (by rw[cu];lia)) ⟨e,?_⟩;show⟨.non,_,I.R6 (its':=a++[u]) c e (by simp) (r.append (.cons m .nil)) ?_,rfl,q⟩;rw[dm,yz];lia
def FP:V->List V->Hp->VK->Prop:=λx vs H Q=>∃l b xs zs,x=.ref l/\vs=[.ref b]/\H l=aa (.lst xs)/\H b=aa (.lst zs)/\xs.length+zs.length<=bj/\Q .non (upd H l (.lst (xs++zs)))
def HR:MtM X "list.extend" FP:=by
 intro π s σ H x vs v us Q I j m h;obtain⟨l,b,xs,zs,rfl,rfl,d,J,U,q⟩:=h;cases j;obtain⟨u,rfl,o⟩:=m.one;cases o;obtain⟨z,c,n,r,Y,e⟩:=I.z9 d;obtain⟨O,a,y,p,A,K⟩:=I.z9 J;have hsz:c.toArray.size+a.toArray.size<=bj:=by rw[cu,cu];lia
 have L:¬ (!c.toArray.isEmpty&&ya (c.toArray.size+a.toArray.size))=ae:=by rw[AA hsz,a07];show b_
 show qr Yj ⟨_,e,rfl⟩ F.entry_list_extend (F.args_list_extend_2 _ _)
  (a2c l c.toArray n b a.toArray y L (by rw[cu];lia) ∅) ⟨e,K,?_⟩
 show⟨.non,_,I.R6 (its':=c++a) d e (by simp) (r.append p) ?_,rfl,q⟩;rw[dm];lia
def MI:V->List V->Hp->VK->Prop:=λx vs H Q=>∃l xs i k y,x=.ref l/\vs=[.int i]/\H l=aa (.lst xs) /\ -(2^63)<=i/\i<2^63/\seqIndex? i xs.length=aa k/\xs[k]?=aa y/\Q y (upd H l (.lst (xs.eraseIdx k)))
def MJ:MtM X "list.pop" MI:=by
 intro π s σ H x vs v us Q I j m h;obtain⟨l,xs,i,k,y,rfl,rfl,c,K,h2,J,p,q⟩:=h;cases j;obtain⟨u,rfl,o⟩:=m.one;obtain⟨t,rfl⟩:=o;obtain⟨z,a,n,r,A,e⟩:=I.z9 c;obtain⟨w,hw,d⟩:=r.get p;show qr Yh ⟨_,e,rfl⟩ F.entry_list_pop (F.args_list_pop_2 _ _)
  (a1B l a.toArray n i t k w (Bs K h2) (by rw[cu,<- A];show J) (by rw[<- qd];show hw) (by rw[cu];lia)) ⟨e,?_⟩
 show⟨y,_,I.R6 (its':=a.eraseIdx k) c e ?_ (r.eraseIdx k) ?_,d,q⟩
 .show a.toArray.eraseIdxIfInBounds k=(a.eraseIdx k).toArray;rw[List.eraseIdxIfInBounds_toArray]
 .have:=vJ xs k;lia
def Ao:R2:=λx y H Q=>∃l b xs zs,x=.ref l/\y=.ref b/\H l=aa (.lst xs)/\H b=aa (.lst zs)/\xs.length+zs.length<=bj /\∀p,H p=af->Q (.ref p) (upd H p (.lst (xs++zs)))
def MK:gF X (binaryOp .Add) Ao:=by
 intro π s σ H x y v u Q I j d h;obtain⟨l,b,xs,zs,rfl,rfl,p,A,O,q⟩:=h;cases j;cases d;obtain⟨z,c,n,r,U,e⟩:=I.z9 p;obtain⟨K,a,L,m,o,J⟩:=I.z9 A;show PySem.P.add_list e J ?_ (by rw[cu,cu];lia);have F:c.toArray++a.toArray=(c++a).toArray:=by simp
 rw[F];show⟨.ref _,_,I.Ap (t':=s.toks) (r.append m) (by rw[dm];lia),rfl,q _ I.fresh⟩
def Mz:R2:=λx y H Q=>∃l k xs,x=.ref l/\y=.int k/\H l=aa (.lst xs) /\ -(2^63)<=k/\k<2^63/\xs.length*k.toNat<=bj /\
 ∀p,H p=af->Q (.ref p) (upd H p (.lst (cp k.toNat xs).flatten))
theorem len_rep{α:Type}(xs:List α)(k:Nat):(cp k xs).flatten.length=k*xs.length:=by
 induction k with
 |zero=>simp
 |succ k ih=>rw[kj,qa,dm,ih,Di,Nat.add_comm]
def YX:gF X (binaryOp .Mult) Mz:=by
 intro π s σ H x y v u Q I K J h;obtain⟨l,k,xs,rfl,rfl,O,Y,h2,A,q⟩:=h;cases K;obtain⟨t,rfl⟩:=J;obtain⟨z,c,n,r,L,e⟩:=I.z9 O;have hlen:c.toArray.size*k.toNat<=bj:=by rw[cu,<- L];show A
 have o:¬ c.toArray.size*k.toNat>(2^63-1)/8:=by
  have:(bj:Nat)<=(2^63-1)/8:=by decide
  lia
 have j:¬ (!Builtin.List.listFitsIndex k)=ae:=by rw[Bs Y h2];show b_
 have MH:¬ ya (c.toArray.size*k.toNat)=ae:=by rw[AA hlen];show b_
 have d:Eh (λx1 p=>x1++p) #[] (cp (if c.toArray.isEmpty=ae then 0 else k.toNat) c.toArray)=(cp k.toNat c).flatten.toArray:=by
  have Z:∀m:Nat,Eh (λx1 p=>x1++p) #[] (cp m c.toArray)=(cp m c).flatten.toArray:=λm=>by have:=foldl_rep c m [];rw[pf] at this;show this
  rw[Z]
  cases c with
  |nil=>simp
  |cons a r'=>rw[Zz (by simp)]
 show wpAny_binaryOp_repeat_ref (T:="list") (U:="int") (by decide) ⟨_,e,rfl⟩ (λs'=>Bp s' k t) noFill_list_mul F.fills_int_mul Yl repeat_list F.slot_int_index.lookup
  (qr Yl (Bp s k t) F.entry_int_rmul (F.args_int_rmul_2 _ _) (int___rmul___int_list k t l c.toArray n)
   ⟨e,rfl,⟨_,e,rfl⟩,qr F.slot_list_mul ⟨_,e,rfl⟩ F.entry_list_mul (F.args_list_mul_2 _ _) (a2e l c.toArray n k t j o MH) ⟨e,?_⟩⟩)
 rw[d];show⟨.ref _,_,I.Ap (t':=s.toks) (r.rep k.toNat) (by rw[len_rep,Nat.mul_comm];show A),rfl,q _ I.fresh⟩
end
section
variable{Ω:bg}{w:a_}{A:br}{E:Q0c}{s:ak}
set_option maxRecDepth 100000 in
end
end L2
namespace HS
open PySem.W PySem.Calls PyProof.Rows
theorem p8:∀(ns:Q0e) (vs:Q0f),WellAll P h vs (ns.map Xr)->ki vs ns:=by
 intro ns
 induction ns with
 |nil =>
  intro vs w;rw[mn] at w;cases w;show .nil
 |cons n ns ih =>
  intro vs w;rw[cf] at w
  cases w with
  |cons a b =>
   cases a;show .cons _ _ (ih _ b)
theorem HU{l:qu}{n:Nat}(x:l.most=aa n){P:Params}{h:ba}{args:List WData}{vals:Q0f}
  (c:l.row.toRowW.claim.pre args=ae) (o:WellAll P h vals args):
  ∃a vs ns,vals=[dq a]/\args=[WData.list (ns.map Xr)]/\h.get? a=aa {cls:=.type "list",data:=.seq vs.toArray}/\ki vs ns/\ns.length<=n:=by
 have p:WShape.hasAll [] args [.list .int]=ae:=(pre_splitW c).1;have u:l.pre.holds [] {args:=args}=ae:=(pre_splitW c).2;obtain⟨d,r,rfl,z,h2⟩:=hasAllW_cons p;obtain rfl:=hasAllW_nil h2;obtain⟨xs,rfl,y⟩:=hasW_list z;obtain⟨ns,rfl⟩:=items_int y;have hlen:ns.length<=n:=by
  unfold OpenLaw.pre at u;have m:(WTm.not (.lt (.lit (.int (n:Int))) (.len (.arg 0)))).holds [] {args:=[.list (ns.map .int)]}=ae:=by have m:=(holds_andW u).1;rw[x] at m;show m
  have j:=condW_of m (w_not (w_lt w_lit (w_len_list (w_arg rfl))));rw[bo] at j;show Nat.le_of_not_lt λq=>?_;have v:(n:Int)<((ns.length:Nat):Int):=by lia
  first
   | (rw[Zx v] at j;show Zw j (by decide))
   | (simp at j;lia)
 cases o with
 |cons w1 w2 =>
  cases w2
  cases w1 with
  |list ho hall=>show⟨_,_,ns,rfl,rfl,ho,p8 ns _ hall,hlen⟩
def HV(l:qu)(args:List WData):l.row.toRowW.claim.post args (.bool ae) args=ae :=
 postW_of (r:=l.row.toRowW) (X:=(ae == ae))
  (show Xq [] (.bool ae) .bool=ae by first|rfl|decide|simp[Xq,WShape.arms,WShape.armsAll])
  (show(WTm.eq .res (.lit (.bool ae))).value [] {args:=args,res:=aa (.bool ae),after:=args}=aa (.bool (ae == ae)) from w_eq_bool (w_res rfl) w_lit) rfl
theorem AB{l:qu}{n:Nat}{q:bg}{loose:Q0g}{A:(aj->Option ai)->ba->Prop}{YP:a_->ba->Prop}{d:DefRec}
  (J:l.most=aa n) (v:d.params.defaults=[])
  (call:∀(w:a_) (s₀ c:ak) (mg mb:Q0d) (m:ah) (o:ay) (pm cd doc:ai) (a:ah) (vs:Q0f) (ns:Q0e),
   Ground q loose [] A w s₀ mg mb c.heap->YP w c.heap ->
   c.heap.get? m=aa o->o.data=.func (docDef d.name d.params d.body d.scope pm cd doc)->c.heap.CodeRec cd d.name->mg d.name=aa (.ref m) ->
   c.heap.get? a=aa {cls:=.type "list",data:=.seq vs.toArray}->ki vs ns->ns.length<=n->c.gens=#[] ->
   ly (au l.prog w) callerA (.call (.ref m) ⟨[.ref a],[]⟩) (λr s'=>r=.ok (.ret (.bool ae))/\OldK c.heap s'.heap/\s'.os=c.os/\lg s'.gens) c):
  Cd q loose A YP l.row.toRowW d [] (λf vs=>Bu f vs):=by
 intro w s₀ c mg mb G Y m o pm cd doc dV kV ho U x z u O args vals as h y F p L;obtain rfl:dV=.none:=Dflts.none z v;obtain rfl:kV=.none:=Dflts.noKw z;obtain⟨a,vs,ns,rfl,rfl,j,hints,hlen⟩:=HU J h p;show enter_call (xa (call w s₀ c mg mb m o pm cd doc a vs ns G Y ho (fd_plain U) x u j hints hlen O) λr s' I=>?_);obtain⟨rfl,h2,Z,X⟩:=I;show⟨.inl ⟨.bool ae,.bool ae,[],rfl,λ_=>rfl,.bool ae,HV l _,λ_=>⟨ze,λ_ K=>(nomatch K)⟩⟩,h2,Z,X⟩
section
variable{Ω:bg}{w:a_}{A:br}{E:Q0c}{s:ak}{K:ao}
def x9(h:ba):ba:={h with objs:=#[]}
theorem sG(h:ba)(b:ah):(x9 h).get? b=af:=by
 cases e:(x9 h).get? b with
 |none=>rfl
 |some o=>show Zw (bz e) (Nat.not_lt_zero _)
def ledger(h:ba)(L d:ah):List (ah×ay):=(cm h.objs.size).filterMap λa=>if a=L\/a=d then af else(h.get? a).map λo=>(a,o)
def iW:(a,o)∈ledger h L d↔a≠L/\a≠d/\h.get? a=aa o:=by
 unfold ledger;rw[pk]
 constructor
 .rintro ⟨b,_,e⟩;split at e
  .cases e
  .rename_i hb;obtain⟨m,ho,l⟩:=lh.mp e;cases l;show⟨λq=>hb (.inl q),λq=>hb (.inr q),ho⟩
 .rintro ⟨j,c,ho⟩;show⟨a,ll.mpr (bz ho),?_⟩;rw[Zz (show ¬ (a=L\/a=d) from λq=>q.elim j c),ho]<;>rfl
def YY(n:h.Ns L m):Fr (x9 h) L h m :=
 ⟨n,λb o e=>(by rw[sG] at e;cases e),ie _⟩
end
end HS
namespace L2
open PySem.Spec PyProof.Rows
theorem eE:∀{vs:Q0f} {ns:Q0e},ki vs ns->θ (ns.map V.int) vs
 |_,_,.nil=>.nil
 |_,_,.cons n t h=>.cons ⟨t,rfl⟩ (eE h)
def Only(H:Hp):Prop:=∀b,H b=af\/(∃o xs,H b=aa (.pZ o (.lst xs))) \/∃q,H b=aa (.E8 q)
structure TabsOk (K:ao) (q:bg):Prop where
 nd:((cM K).map (·.2.2)).Nodup
 rc:∀t∈cM K,∃e,(recsOf q).find? (λe=>e.name == t.1)=aa e
theorem C5{K:ao}{t:aj×ah×ah}(h:t∈cM K):tw K t.1=aa (t.2.1,t.2.2):=by
 obtain⟨x,_,e⟩:=pk.mp h
 cases q:tw K x with
 |none=>rw[q] at e;cases e
 |some p=>rw[q] at e;cases e;show q
def C6(K:ao)(a:ah)(u:Option HO):Hp:=λb=>if b=a then u else((cM K).find? λt=>t.2.2 == b).map λt=>.E8 (jQ t.1)
theorem HW{l:List (aj×ah×ah)}(nd:(l.map (·.2.2)).Nodup){t:aj×ah×ah}(h:t∈l):l.find? (λu=>u.2.2 == t.2.2)=aa t:=by
 induction l with
 |nil=>cases h
 |cons u l ih =>
  rw[cf,kl] at nd;rw[ik];by_cases e:(u.2.2 == t.2.2)=ae
  .rw [e];rcases bx.1 h with z|z
   .rw [z]
   .exact Zw (gd.2 ⟨t,z,(eq_of_beq e).symm⟩) nd.1
  .rw [Eu] at e;rw[e];rcases bx.1 h with z|z
   .rw [z,beq_self_eq_true] at e;cases e
   .exact ih nd.2 z
theorem ML{P:bg}{w:a_}{K:ao}{mg mb:Q0d}{CX:CW}{k:Nat}{fa a:ah}{fd:gc}{x:aj}{sp:Sp}{c:ak}{vs:Q0f}{ns:Q0e}
  (KX:K.In c.heap) (hns:c.heap.Ns gu mg) (O:c.heap.Ns builtinsNs mb) (hbb:∀x:aj,x ≠ "__name__"->mb x=bootBuiltins x) (hlim:c.heap.NoLimit)
  (hbm:∃bm J,mg "__builtins__"=aa (.ref bm)/\bm≠builtinsNs/\c.heap.get? bm=aa J/\J.cls=.type "module" /\J.dict=aa builtinsNs/\J.data=.plain)
  (I:∀t∈cM K,CodeHd c.heap t.2.1 t.2.2/\c.heap.get? t.2.2=aa (tabObj #[])) (hnd:((cM K).map (·.2.2)).Nodup) (hnt:noTabs K=ae) (hg:c.gens=#[])
  (Y:c.heap.get? a=aa {cls:=.type "list",data:=.seq vs.toArray}) (hi:ki vs ns) (hl:ns.length<=bj) (hr:cZ k callerA)
  (F:∀ω:ba,K.In ω->ω.Ns gu mg->hJ P w K mg ω CX k fa fd [x] sp) (U:∀(s:ak) (u:ai),qx s fd ⟨[u],[]⟩ [(x,u)])
  (hsp:∀H:Hp,Only H->dS K H a (ns.map V.int)->sp [.ref a] H (λv _=>v=.bl ae) λ_ _ _=>False)
  (wa:∀H e s',CX [] H c (λ_ _ _=>False) e s'->False):
  ly (au P w) callerA (.call (.ref fa) ⟨[.ref a],[]⟩) (λr s'=>r=.ok (.ret (.bool ae))/\OldK c.heap s'.heap/\s'.os=c.os/\lg s'.gens) c:=by
 have rv:=eE hi;have Z:=hi.length;have neA:∀t∈cM K,t.2.2≠a:=λt j z=>by have e:=(I t j).2;rw[z,Y] at e;cases e
 -- a tracked address: the script or a table
 have core:∀u:Option HO,(u=af \/∃o xs,u=aa (.pZ o (.lst xs)))->dS K (C6 K a u) a (ns.map V.int)->(∀v,u=aa v->bZ P w (C6 K a u) c.heap a v)->(u≠af->K.lookup a=af) ->
   ly (au P w) callerA (.call (.ref fa) ⟨[.ref a],[]⟩) (λr s'=>r=.ok (.ret (.bool ae))/\OldK c.heap s'.heap/\s'.os=c.os/\lg s'.gens) c:=by
  intro u hu hS An hK;obtain⟨H,eH⟩:∃H,C6 K a u=H:=⟨_,rfl⟩;have tU:∀t∈cM K,H t.2.2=aa (.E8 (jQ t.1)):=λt j=>by rw[<- eH];unfold C6;rw[Zz (neA t j),HW hnd j];rfl
  have X:∀b,H b=af\/(b=a/\H b=u/\u≠af) \/∃t∈cM K,t.2.2=b/\H b=aa (.E8 (jQ t.1)):=λb=>by
   by_cases O:b=a
   .cases hu2:u with
    |none=>left;rw[<- eH];unfold C6;rw[Z_ O,hu2]
    |some v=>right;left;show⟨O,?_,by simp⟩;rw[<- eH];unfold C6;rw[Z_ O,hu2]
   .cases q:(cM K).find? λt=>t.2.2 == b with
    |none=>left;rw[<- eH];unfold C6;rw[Zz O,q];rfl
    |some t =>
     have e1:t.2.2=b:=eq_of_beq (List.find?_some (p:=λt:aj×ah×ah=>t.2.2 == b) q);have l:=List.mem_of_find?_eq_some q;show .inr (.inr ⟨t,l,e1,by rw[<- e1];show tU t l⟩)
  rw[eH] at hS An;have hO:Only H:=λb=>by
   rcases X b with z|⟨_,z,_⟩|⟨t,_,_,z⟩
   .exact .inl z
   .rcases hu with y|⟨o,xs,y⟩
    .exact .inl (z.trans y)
    .exact .inr (.inl ⟨o,xs,z.trans y⟩)
   .exact .inr (.inr ⟨_,z⟩)
  have hok:kN P w H c.heap:=λb v e=>by
   rcases X b with z|⟨rfl,z,_⟩|⟨t,j,rfl,z⟩
   .rw [z] at e;cases e
   .exact An v (by rw[<- z];show e)
   .rw [z] at e;cases e;show⟨#[],(I t j).2,trivial,λν cv e=>by cases e⟩
  -- an object that is neither the script nor a table is not tracked
  have MM:∀{b:ah} {o:ay},c.heap.get? b=aa o->o.cls≠.none->(∀ys n,o.data≠.seq ys n)->H b=af:=λ{b o} e hc hs=>by
   rcases X b with z|⟨rfl,_,_⟩|⟨t,j,rfl,z⟩
   .exact z
   .rw [Y] at e;cases e;show Zw rfl (hs _ _)
   .rw [(I t j).2] at e;cases e;show Zw rfl hc
  have nsN:∀{b:ah} {o:ay} {es:Array uo} {ep:Nat},c.heap.get? b=aa o->o.data=.dict es ep->H b=af:=λ{b o es ep} e d=>by
   rcases X b with z|⟨rfl,_,_⟩|⟨t,j,rfl,z⟩
   .exact z
   .rw [Y] at e;cases e;cases d
   .rw [(I t j).2] at e;cases e;cases d
  have qP:∀{b:ah} {o:ay},c.heap.get? b=aa o->H b=af->(t9 c.heap H).get? b=aa o:=λe n=>LN e n;have A:∀{b:ah} {m:Q0d},c.heap.Ns b m->(t9 c.heap H).Ns b m:=λ{b m} ⟨o,es,ep,e,d,r⟩=>⟨o,es,ep,qP e (nsN e d),d,r⟩;have zo:K.In (t9 c.heap H):=λb o e=>qP (KX b o e) (by
   rcases X b with z|⟨rfl,_,z⟩|⟨t,j,rfl,z⟩
   .exact z
   .rw [hK z] at e;cases e
   .have l:=KX _ o e;rw[(I t j).2] at l;cases l;have h2:=js.mp hnt (t.2.2,tabObj #[]) (PySem.W.mem_of_lookupK e);show Zw (show ag=ae from h2) b_)
  have hM:Mod K mg (t9 c.heap H):=⟨zo,A hns,⟨mb,A O,hbb⟩,let ⟨mc,h1,h2⟩:=hlim;⟨mc,A h1,h2⟩,
   let ⟨bm,J,b1,b2,b3,b4,b5,b6⟩:=hbm;⟨bm,J,b1,b2,qP b3 (MM b3 (by rw[b4];nofun) λys n z=>by rw[b6] at z;cases z),b4,b5,b6⟩⟩
  have My:RL K (t9 c.heap H) H:=λt j=>by obtain⟨o,vs',file,tf,flags,tg,inF,text,tt,e1,r1,r2,r3⟩:=(I t j).1;show⟨⟨o,vs',file,tf,flags,tg,inF,text,tt,qP e1 (MM e1 (by rw[r1];nofun) λys n z=>by rw[r2] at z;cases z),r1,r2,r3⟩,tU t j⟩
  have e0:RX P w K mg (t9 c.heap H) callerA [] c H:=⟨rfl,hM,λb o e=>RK e,ml (HK _ _),trivial,λb O=>Zw (show b∈([]:List ah) from O) (by simp),hok,.of_eq hg,My⟩;show xa ((F _ zo (A hns)).run callerA [] c H ⟨[.ref a],[]⟩ [.ref a] [.ref a] _ _ hr e0 (U c (.ref a)) (.cons rfl .nil) (hsp H hO hS)) λr s' h=>?_
  cases r with
  |error e=>show(wa H e s' h).elim
  |ok fl =>
   cases fl with
   |next=>show jt h
   |brk=>show jt h
   |cont=>show jt h
   |ret v =>
    obtain⟨y,H',os,bare,un,L,r',q⟩:=h;have q':y=.bl ae:=q;subst q';obtain rfl:v=ue ae:=r';have old:∀b o,c.heap.get? b=aa o->asItWas c.heap s'.heap b o /\∃o',s'.heap.get? b=aa o':=λb o e=>by
     rcases X b with z|⟨rfl,z,hne⟩|⟨t,j,rfl,z⟩
     .have k:=un.keep b o e z (by intro z;show Zw (show b∈([]:List ah) from z) (by simp)) (by simp);show⟨.inl k,o,k⟩
     .rcases hu with y|⟨J,xs,y⟩
      .exact Zw y hne
      .have z1:=z.trans y;have z2:=un.p6 b J _ z1;obtain⟨e1,_⟩:=hok b _ z1;obtain⟨l,_⟩:=L b _ z2;rw[e] at e1;cases e1;show⟨.inl l,o,l⟩
     .obtain ⟨ps,l,_⟩:=L _ _ (un.oI _ _ z);have e1:=(I t j).2;rw[e] at e1;cases e1;show⟨.inr (.inl ⟨((I t j).1.tab (I t j).2).isCodeTable,rfl,#[],ps,rfl,by rw[l,a1i]⟩),_,l⟩
    show⟨rfl,⟨λb o e=>(old b o e).1,λb o e=>(old b o e).2⟩,os,bare⟩
 cases hk:K.lookup a with
 |some o =>
  -- the script is one of the module's own objects
  have e:=KX a o hk;rw[Y] at e;cases e;show core af (.inl rfl) (.inr ⟨_,vs.toArray,_,hk,rfl,rfl,rfl,by rw[cu,Z];show hl,by simpa using rv⟩) (λv z=>by cases z) λz=>Zw rfl z
 |none =>
  show core (aa (.pZ {cls:=.type "list",data:=.seq vs.toArray} (.lst (ns.map V.int)))) (.inr ⟨_,_,rfl⟩) (.inl (.inr ⟨{cls:=.type "list",data:=.seq vs.toArray},Z_ rfl⟩)) (λv z=>?_) λ_=>hk;cases z;show⟨Y,by rw[bo];show hl,vs,_,rv,Y⟩
abbrev KOf{K:ao}{h:ba}(_:K.In h):ao:=K
theorem R7{l:qu}{n k:Nat}{q:bg}{loose:Q0g}{XP:(aj->Option ai)->ba->Prop}{YP:a_->ba->Prop}{d:DefRec}{K:Params->ao}{CX:a_->CW}{sp:a_->Sp}{x:aj}
  (X:l.most=aa n) (z:n<=bj) (I:d.params.defaults=[]) (U:cZ k callerA)
  (hY:∀(w:a_) (h:ba),YP w h->(K w.params).In h)
  (J:∀w:a_,TabsOk (K w.params) q) (y:∀w:a_,noTabs (K w.params)=ae)
  (F:∀(w:a_) (mg:Q0d) (m:ah) (h:ba),(K w.params).In h->h.Ns gu mg->mg d.name=aa (.ref m) ->
   ∃fd:gc,(∀(s:ak) (u:ai),qx s fd ⟨[u],[]⟩ [(x,u)]) /\
    ∀ω:ba,(K w.params).In ω->ω.Ns gu mg->hJ l.prog w (K w.params) mg ω (CX w) k m fd [x] (sp w))
  (p:∀(w:a_) (H:Hp) (a:ah) (ns:Q0e),ns.length<=n->Only H->dS (K w.params) H a (ns.map V.int)->sp w [.ref a] H (λv _=>v=.bl ae) λ_ _ _=>False)
  (O:∀(w:a_) (H:Hp) (s:ak) (e:ai) (s':ak),CX w [] H s (λ_ _ _=>False) e s'->False):
  Cd q loose XP YP l.row.toRowW d [] (λf vs=>Bu f vs):=by
 show HS.AB X I λw s₀ c mg mb m o pm cd doc a vs ns G Y ho hd hcd A j hints hlen Z=>?_;have KX:=hY w _ Y;obtain⟨fd,hb,hF⟩:=F w mg m _ KX G.T.g A;have hT:∀t∈cM (K w.params),CodeHd c.heap t.2.1 t.2.2/\c.heap.get? t.2.2=aa (tabObj #[]):=λt L=>by obtain⟨e,he⟩:=(J w).rc t L;show PySem.W.tab_of G.T KX he (C5 L)
 show ML KX G.T.g G.T.b G.T.builtins G.T.nolimit G.T.bmain hT (J w).nd (y w) Z j hints (ig hlen z) U hF hb (λH hO hS=>p w H a ns hlen hO hS) λH e s'=>O w H c e s'
noncomputable def m5(s:cn):yc:=match s with
 |.FunctionDef _ a _ _ _ _ _ _ _ _=>a
 |_=>{posonlyargs:=[],args:=[],vararg:=af,kwonlyargs:=[],kw_defaults:=[],kwarg:=af,defaults:=[]}
noncomputable def bV(s:cn):List cn:=match s with
 |.FunctionDef _ _ b _ _ _ _ _ _ _=>b
 |_=>[]
noncomputable def aF(s:cn):fu:=match s with
 |.FunctionDef _ _ _ _ _ _ sc _ _ _=>sc
 |_=>{kind:=.function,names:=[],isGenerator:=ag,isCoroutine:=ag}
abbrev gI:CW:=λ_ _ _ _ _ _=>False
abbrev E0:XK:=λ_ _ _=>False
def MN:Passes gI X E0:=λ_ _ _ _ _ _ _ h=>h.elim
structure MO (K:ao) (x qual:aj) (st:cn) (f:ah) (fd:gc):Prop where
 ex:∃(oc:ai) (od:Option ah) (kV doc pm:ai) (an:Option ah) (cdv ct:ai) (osl:Array (Option ai)),
  fd=fnOf x qual (m5 st) (bV st) (aF st) .none kV doc pm an cdv ct/\K.lookup f=aa ⟨oc,od,.func fd,osl⟩/\codeIn K cdv qual=ae
 kp:keepIn K (.ref f)=ae
section
variable{P:bg}{w:a_}{K:ao}{mg:Q0d}{ω:ba}
theorem MO.ok{x qual:aj}{st:cn}{f:ah}{fd:gc}{N d:Q0g}{k:Nat}{sp:Sp}(F:MO K x qual st f fd)(S:cH N d (aF st))(len:∀vs H Q E,sp vs H Q E->vs.length=d.length)
  (c:∀(a:ai) (A:br) (Γ:List df) (s:ak) (H:Hp) (vs:List V) (Q:VK) (E:XK),cZ k (A.deeper (envOfC qual (aF st) s.heap.objs.size f a))->sp vs H Q E ->
   ∃t,tS (eQ gI P w K mg ω N qual (aF st) f a A Γ s H E).CN (bV st) t/\t {nx:=λ_ H'=>Q .non H',rt:=Q} (start N vs) H):hJ P w K mg ω gI (k+1) f fd d sp:=by
 obtain⟨u,p,kV,doc,pm,v,a,ct,m,rfl,n,l⟩:=F.ex;show MD n l S len λA Γ s H vs Q E o j=>?_;obtain⟨t,h,q⟩:=c a A Γ s H vs Q E o j;show⟨t,h.CN,q⟩
theorem YZ{x qual:aj}{st:cn}{f:ah}{m:ai}{j h:Option ah}{d:Array (Option ai)}{kV doc pm a ct:ai}(l:K.lookup f=aa ⟨m,j,.func (fnOf x qual (m5 st) (bV st) (aF st) .none kV doc pm h a ct),d⟩)
  (c:codeIn K a qual=ae) (k:keepIn K (.ref f)=ae):MO K x qual st f (fnOf x qual (m5 st) (bV st) (aF st) .none kV doc pm h a ct):=⟨⟨m,j,kV,doc,pm,h,a,ct,d,rfl,l,c⟩,k⟩
end
def ξ(H H':Hp):Prop:=∀b o,H b=aa o->H' b=aa o
def ξ.refl(H:Hp):ξ H H:=λ_ _ h=>h
def ξ.trans{H H1 d:Hp}(a:ξ H H1)(b:ξ H1 d):ξ H d:=λc o h=>b c o (a c o h)
theorem ξ.free{H H':Hp}(e:ξ H H'){l:ah}(h:H' l=af):H l=af:=by
 cases q:H l with
 |none=>rfl
 |some o =>
  rw[e l o q] at h;cases h
section
variable{κ:Type}[DecidableEq κ]
def i7(χ:List (κ×V))(k:κ):Option V:=(χ.find? λa=>Zv (a.1=k)).map (·.2)
def putK(χ:List (κ×V))(k:κ)(v:V):List (κ×V) :=
 if(χ.any λa=>Zv (a.1=k))=ae then χ.map (λa=>if a.1=k then(a.1,v) else a) else χ++[(k,v)]
def sH{p:κ×V}{r:List (κ×V)}{k:κ}(e:p.1=k):i7 (p::r) k=aa p.2:=by simp[i7,ik,e]
def sI{p:κ×V}{r:List (κ×V)}{k:κ}(e:¬ p.1=k):i7 (p::r) k=i7 r k:=by simp[i7,ik,e]
theorem sJ(k:κ):∀χ:List (κ×V),(χ.any λa=>Zv (a.1=k))=(i7 χ k).isSome
 |[]=>rfl
 |p::r=>by
  rw[kc];by_cases e:p.1=k
  .simp only[sH e,Zx e,a04,Option.isSome_some]
  .rw [sI e,Zy e,a06];show sJ k r
def pJ(χ:List (κ×V))(k:κ)(v:V):(putK χ k v).length<=χ.length+1:=by
 unfold putK;split
 .rw [bo];lia
 .rw [dm,fj,mq];lia
def MP{χ:List (κ×V)}{k:κ}(v:V)(h:i7 χ k=af):putK χ k v=χ++[(k,v)]:=by unfold putK;rw[sJ,h];show Zz (by decide)
theorem jO.kO(r:jO o u):o.isSome=u.isSome:=by
 cases o with
 |none=>cases u with
  |none=>rfl
  |some _=>show(show False from r).elim
 |some _=>cases u with
  |none=>show(show False from r).elim
  |some _=>rfl
theorem jO.getD{o:Option V}{u:Option ai}{d:V}{d':ai}(r:jO o u)(rd:Ψ d d'):Ψ (o.getD d) (u.getD d'):=by
 cases o with
 |none=>cases u with
  |none=>show rd
  |some _=>show(show False from r).elim
 |some _=>cases u with
  |none=>show(show False from r).elim
  |some _=>show r
theorem KV.val{χ:List (κ×V)}{vs:List (κ×ai)}(r:KV χ vs)(k:κ):jO (i7 χ k) (valueAt vs k):=by
 unfold KV at r
 induction r with
 |nil=>show ju
 | @cons p q ps qs h t ih =>
  obtain⟨c,h2⟩:=h;by_cases e:p.1=k
  .have a:q.1=k:=c.symm.trans e;have b:valueAt (q::qs) k=aa q.2:=by simp[valueAt,ik,a]
   rw[sH e,b];show h2
  .have a:¬ q.1=k:=λz=>e (c.trans z);have b:valueAt (q::qs) k=valueAt qs k:=by simp[valueAt,ik,a]
   rw[sI e,b];show ih
theorem KV.any{χ:List (κ×V)}{vs:List (κ×ai)}(r:KV χ vs)(k:κ):(χ.any λa=>Zv (a.1=k))=vs.any λa=>Zv (a.1=k):=by
 unfold KV at r
 induction r with
 |nil=>rfl
 |cons h t ih=>rw[kc,kc,ih,h.1]
theorem KV.repl(r:KV χ vs)(k:κ)(d:Ψ y u):
  KV (χ.map λa=>if a.1=k then(a.1,y) else a) (vs.map λa=>if a.1=k then(a.1,u) else a):=by
 unfold KV at r ⊢
 induction r with
 |nil=>show .nil
 | @cons p q ps qs h t ih =>
  rw[cf,cf];show .cons ?_ ih;obtain⟨c,h2⟩:=h;by_cases e:p.1=k
  .rw [Z_ e,Z_ (c.symm.trans e)];show⟨c,d⟩
  .rw [Zz e,Zz (λz=>e (c.trans z))];show⟨c,h2⟩
def KV.put(r:KV χ vs)(k:κ)(a:Ψ y u):KV (putK χ k y) (stored vs k u):=by
 unfold putK stored;rw[r.any k];by_cases e:(vs.any λc=>Zv (c.1=k))=ae
 .rw [Z_ e,Z_ e];show r.repl k a
 .rw [Zz e,Zz e];show xq r ⟨rfl,a⟩
def KV.length{χ:List (κ×V)}{vs:List (κ×ai)}(r:KV χ vs):χ.length=vs.length:=qw r
end
theorem pK(r:Ψ (kV k) u):(aR P w).is k u=ae:=by
 cases k with
 |inl i=>obtain⟨t,e⟩:=(show ∃t,u=kr i t from r);subst e;show zX P w i t
 |inr x=>obtain⟨t,e⟩:=(show ∃t,u=xm x t from r);subst e;show zY P w x t
theorem vL:∀{ks:List Key} {us:Q0f},θ (ks.map kV) us->ItemsAre (aR P w) ks us
 |[],_,r=>by rw[mn] at r;cases r;show .nil
 |k::ks,_,r=>by
  rw[cf] at r
  cases r with
  |cons h t=>show .cons (pK h) (vL t)
abbrev KT(H:Hp):List (List Key×V)->List (List Key×ah×ai)->Prop:=iu λp q=>p.1=q.1/\H q.2.1=aa (.tup (p.1.map kV))/\Ψ p.2 q.2.2
theorem KT.val{H:Hp}{χ:List (List Key×V)}{xs:List (List Key×ah×ai)}(r:KT H χ xs)(k:List Key):jO (i7 χ k) ((atKey xs k).map (·.2)):=by
 induction r with
 |nil=>show ju
 | @cons p q ps qs h t ih =>
  obtain⟨c,_,h2⟩:=h;by_cases e:p.1=k
  .have a:q.1=k:=c.symm.trans e;have b:atKey (q::qs) k=aa q.2:=by simp[atKey,ik,a]
   rw[sH e,b];show h2
  .have a:¬ q.1=k:=λz=>e (c.trans z);have b:atKey (q::qs) k=atKey qs k:=by simp[atKey,ik,a]
   rw[sI e,b];show ih
theorem KT.repl(r:KT H χ xs)(k:List Key)(d:Ψ y u):
  KT H (χ.map λc=>if c.1=k then(c.1,y) else c) (xs.map (putAt k u)):=by
 induction r with
 |nil=>show .nil
 | @cons p q ps qs h t ih =>
  rw[cf,cf];show .cons ?_ ih;obtain⟨a,h2,j⟩:=h;unfold putAt;by_cases e:p.1=k
  .rw [Z_ e,Z_ (a.symm.trans e)];show⟨a,h2,d⟩
  .rw [Zz e,Zz (λz=>e (a.trans z))];show⟨a,h2,j⟩
theorem KT.put(r:KT H χ xs)(k:List Key)(d:H b=aa (.tup (k.map kV)))(a:Ψ y u):
  KT H (putK χ k y) (storedH xs k b u):=by
 have e:(χ.any λc=>Zv (c.1=k))=(atKey xs k).isSome:=by rw[sJ,(r.val k).kO,ur]
 unfold putK storedH;rw[e];by_cases q:(atKey xs k).isSome=ae
 .rw [Z_ q,Z_ q];show r.repl k a
 .rw [Zz q,Zz q];show xq r ⟨rfl,d,a⟩
def KT.keeps(r:KT H χ xs)(a:∀b ys,H b=aa (.tup ys)->H' b=aa (.tup ys)):KT H' χ xs :=
 Paired.XW r λ_ _ z=>⟨z.1,a _ _ z.2.1,z.2.2⟩
section
variable{P:bg}{w:a_}{H:Hp}{h:ba}{a:ah}
def VQ(ok:kN P w H h)(e:Rd H a u):bZ P w H h a u:=e.ok ok
def MQ(ok:kN P w H h)(e:Rd H a (.dK χ)):χ.length<=bj/\(a == sysModules)=ag /\∃vs,KV χ vs/\h.DictOf (aR P w) a vs :=
 show bZ P w H h a (.dK χ) from VQ ok e
def Tp(ok:kN P w H h)(e:H a=aa (.dK χ)):χ.length<=bj/\(a == sysModules)=ag /\∃vs,KV χ vs/\h.DictOf (aR P w) a vs:=MQ ok (.inl e)
def yA(ok:kN P w H h)(e:H a=aa (.tup (ks.map kV))):(tupleKind (aR P w)).is h ks a:=by obtain⟨_,c,r,⟨o,j,h2,n,d⟩,_⟩:=(show bZ P w H h a (.tup (ks.map kV)) from ok a _ e);show⟨o,c.toArray,n,j,h2,d,by simpa using vL r⟩
theorem MR(ok:kN P w H h)(e:Rd H a (.dT χ)):χ.length<=bj/\(a == sysModules)=ag /\
  ∃xs,KT H χ xs/\h.DictOfH (tupleKind (aR P w)) a xs:=by
 obtain⟨z,y,xs,r,o,v,A,u,h2,n,j,d⟩:=(show bZ P w H h a (.dT χ) from VQ ok e);show⟨z,y,xs,r,o,v,A,u,h2,n,j,λx c=>?_,d⟩;have all:∀{l:List (List Key×V)} {m:List (List Key×ah×ai)},KT H l m ->∀x∈m,(tupleKind (aR P w)).is h x.1 x.2.1:=by
  intro l m q
  induction q with
  |nil=>intro x c;show nomatch c
  | @cons p q ps qs hq t ih =>
   intro x c;rcases bx.mp c with e|c
   .subst e;show yA ok (by rw[<- hq.1];show hq.2.1)
   .exact ih x c
 show all r x c
theorem To(ok:kN P w H h)(e:H a=aa (.dT χ)):χ.length<=bj/\(a == sysModules)=ag /\
  ∃xs,KT H χ xs/\h.DictOfH (tupleKind (aR P w)) a xs:=MR ok (.inl e)
end
def HX(H:Hp)(a:ah)(y:V)(r:Option V):Prop :=
 (∃χ k,Rd H a (.dK χ)/\y=kV k/\r=i7 χ k) \/∃χ k b,Rd H a (.dT χ)/\y=.ref b/\H b=aa (.tup (k.map kV))/\r=i7 χ k
def MS(H:Hp)(a:ah)(y v:V)(H':Hp):Prop :=
 (∃χ k,H a=aa (.dK χ)/\y=kV k/\χ.length<bj/\H'=upd H a (.dK (putK χ k v))) \/
 ∃χ k b,H a=aa (.dT χ)/\y=.ref b/\H b=aa (.tup (k.map kV))/\χ.length<bj/\H'=upd H a (.dT (putK χ k v))
def HX.k{H:Hp}{a:ah}{χ:List (Key×V)}{k:Key}(e:H a=aa (.dK χ)):HX H a (kV k) (i7 χ k):=.inl ⟨χ,k,.inl e,rfl,rfl⟩
def MS.k{H:Hp}{a:ah}{χ:List (Key×V)}{k:Key}{v:V}(e:H a=aa (.dK χ))(c:χ.length<bj):MS H a (kV k) v (upd H a (.dK (putK χ k v))):=.inl ⟨χ,k,e,rfl,c,rfl⟩
section
variable{X:Cx}{π:Q0b}{σ:St}{H:Hp}{s:ak}{a:ah}{y v:V}{u r:ai}{o:Option V}{A:br}{E:Q0c}
def Φ.big(I:Φ X π σ H s):sysModules<s.heap.objs.size:=by have h:gu<s.heap.objs.size:=(I.mod.glob.keeps I.bk).lt;show yq (by decide) h
theorem HY(q:A.units+1<c_)(I:Φ X π σ H s)(g:HX H a y (aa v))(n:Ψ y u)(h:∀c s',Φ X π σ H s'->Ψ v c->Q c s'):
  ax (au X.Ω X.w) A (getItem (.ref a) u) Q E s:=by
 rcases g with⟨χ,k,e,m,l⟩|⟨χ,k,b,e,m,J,l⟩
 .subst m;obtain⟨z,F,vs,rel,dd⟩:=MQ I.hok e;obtain⟨c,hw,d⟩:=jO.some_of (v:=v) (o:=valueAt vs k) (by rw[l];show rel.val k);show Wg (pK n) dd.mapOf hw (h c _ (I.tok _) d)
 .subst m;cases (show u=dq b from n);obtain⟨z,F,xs,rel,dd⟩:=MR I.hok e;obtain⟨c,hw,d⟩:=jO.some_of (v:=v) (o:=(atKey xs k).map (·.2)) (by rw[l];show rel.val k);obtain⟨p,x,j⟩:=lh.mp hw;show Wh (Wo q) (yA I.hok J) dd x ?_;rw[j];show h c _ (I.tok _) d
theorem qQ(I:Φ X π σ H s)(c:Mut (H a))(d:mf a s.heap h')(h:∃q,h'.get? a=aa q)(new:bZ X.Ω X.w (upd H a ob) h' a ob):
  Φ X π σ (upd H a ob) {s with heap:=h',toks:=t' } :=
 I.write (x:=a) (e:=a) c (.inl rfl) (λb q j z=>(d.2 b j).trans z) h new
theorem Y0(z:χ.length<=bj)(c:(a == sysModules)=ag)(rel:KV χ vs)(dd:h'.DictOf (aR P w) a vs):
  bZ P w H' h' a (.dK χ):=⟨z,c,vs,rel,dd⟩
theorem HZ(Y:A.units+1<c_)(I:Φ X π σ H s)(g:MS H a y v H')(K:Ψ y u)(L:Ψ v r)(h:∀s',Φ X π σ H' s'->Q () s'):
  ax (au X.Ω X.w) A (setItem (.ref a) u r) Q E s:=by
 rcases g with⟨χ,k,e,F,l,J⟩|⟨χ,k,b,e,F,U,l,J⟩
 .subst F J;obtain⟨z,x,vs,rel,dd⟩:=Tp I.hok e;have m:vs.length<=bj:=by rw[<- rel.length];show z
  have p:(putK χ k v).length<=bj:=by have:=pJ χ k v;lia
  show Vw (hsz:=m) (pK K) dd λh' j n=>h _ ?_;have Z:∃q,h'.get? a=aa q:=let ⟨q,_,_,d,_⟩:=j;⟨q,d⟩;show qQ I (by rw[e];show ju) n Z (Y0 p x (rel.put k L) j)
 .subst F J;cases (show u=dq b from K);obtain⟨z,x,xs,rel,dd⟩:=To I.hok e;have m:xs.length<=bj:=by rw[<- qw rel];show z
  have p:(putK χ k v).length<=bj:=by have:=pJ χ k v;lia
  show Vx (hsz:=m) (Wo Y) (yA I.hok U) dd λh' j n=>h _ ?_;obtain⟨q,es,ep,d,h2,h3,h4,_,h5⟩:=j;show qQ I (by rw[e];show ju) n ⟨q,d⟩ ⟨p,x,_,(rel.put k U L).keeps λc ys O=>?_,q,es,ep,d,h2,h3,h4,h5⟩;rw[aL (VG O e (λz=>nomatch z))];show O
end
def IA(i:av):Prop:=∀a c,subscripted i ag a c=operate [a,c] (getItem a c)
theorem FQ{Ω:bg}{w:a_}{A:br}{E:Q0c}{s:ak}{env:df}{value slice:av}{p:bq}{T id:String}{Q:Q0c}
  (u:typeLookup (.type T) "__getitem__"=pure (aa (.builtin id))) (q:IA slice)
  (h:ax (au Ω w) A (eval value env) (λo j=>ax (au Ω w) A (eval slice env) (λi a=>a.TypeIs o T/\ax (au Ω w) A (getItem o i) Q E a) E j) E s):
  ax (au Ω w) A (eval (.Subscript value slice p) env) Q E s:=by
 show Cz (gp h (λo j m=>gp m (λi a c=>?_) λ_ _ x=>x) λ_ _ x=>x);obtain⟨n,c⟩:=c;unfold subscriptTail;show aq ?_;rw[getitemInPython_of_ne n.not_modules];show aq (Bg n u ?_);have fin:ax (au Ω w) A (subscripted slice ag o i) (λr d=>ax (au Ω w) A (letTemporaryGo value o r >>= λ_=>pure r) Q E d) E a:=by rw[q o i];show wpAny_operating (gp c (λr d l=>aq (wpAny_letTemporaryGo (az l))) λ_ _ x=>x)
 first
  |show az (aq fin)
  |show aq (az (aq fin))
  |show aq fin
def AD(I:Φ X π σ H s)(g:HX H a y o):s.TypeIs (.ref a) "dict":=by
 rcases g with⟨χ,k,e,_,_⟩|⟨χ,k,b,e,_,_,_⟩
 .obtain ⟨_,_,vs,_,dd⟩:=MQ I.hok e;show dd.typeIs
 .obtain ⟨_,_,xs,_,dd⟩:=MR I.hok e;show dd.typeIs
def Tn(d ty:TE):TE:=λσ H Q=>d σ H λx H1=>ty σ H1 λy c=>∃a v,x=.ref a/\HX c a y (aa v)/\Q v c
def Tj(h ty d:TE):TS:=λD σ H=>d σ H λv H1=>h σ H1 λx l=>ty σ l λy j=>∃a c,x=.ref a/\MS j a y v c/\D.nx σ c
section
variable{X:Cx}{o i e value:av}{ν pos' tpos:bq}{td ty tv:TE}
def R8(n:X.A.units+1<c_)(ho:PE X o td)(q:PE X i ty)(p:IA i):PE X (.Subscript o i ν) (Tn td ty):=by intro π s σ H Q I h;show FQ Yn.lookup p (dA (ho π s σ H _ I h) λu j ⟨x,H1,F,m,q1⟩=>dA (q π j σ H1 _ F q1) λO L ⟨y,J,c,l,a,v,ex,g,q2⟩=>?_);subst ex;obtain rfl:u=dq a:=m;show⟨AD c g,HY n c g l λK s3 z d=>⟨v,J,z,d,q2⟩⟩
theorem R9(q:X.A.units+1<c_)(ho:PE X o td)(F:PE X i ty)(p:PE X value tv)(z:gk value (aa (.Subscript o i pos')) ν.line X.env=pure ag):
  PS X (.Assign [.Subscript o i pos'] value ν) (Tj td ty tv):=by
 intro π s σ H D I h;show Wn (dA (p π s σ H _ I h) λr d ⟨v,H1,O,m,q1⟩=>dA (ho π d σ H1 _ O q1) λu c ⟨x,Y,L,l,q2⟩=>dA (F π c σ Y _ L q2) λZ s3 ⟨y,H3,K,j,a,U,ex,g,n⟩=>?_) z;subst ex;obtain rfl:u=dq a:=l;show HZ q K g j m λs4 J=>⟨σ,U,J,n⟩
end
def MT(h:ba)(a:sysModules<h.objs.size):bZ P w H (h.push {cls:=.type "dict",data:=.dict #[]}) h.objs.size (.dK []) :=
 ⟨ie _,beq_eq_false_iff_ne.mpr (fg (fq a)),[],.nil,a1F h⟩
def Y1:TE:=λ_ H Q=>∀p,H p=af->Q (.ref p) (upd H p (.dK []))
section
variable{X:Cx}{ν:bq}
def MU:PE X (.Dict [] [] ν) Y1:=λπ s σ H Q I h =>
 Wm ⟨.ref s.heap.objs.size,_,I.laid (a:=s.heap.objs.size) (o:=.dK []) (t':=s.toks) (λ_ _ q=>cx _ q) (bp _) (MT s.heap I.big),rfl,h _ (I.hok.fresh (bp _))⟩
end
end L2
end
namespace L3
open L2
def VS(K:ao)(H:Hp)(a:ah)(ns:Q0e):Prop:=(∃o,H a=aa (.pZ o (.lst (ns.map V.int))))\/dS K (λ_=>af) a (ns.map V.int)
def Rw(S:ah->Prop)(H:Hp)(xs:Q0a)(p:ah):Prop:=∃as:List ah,H p=aa (.lst (as.map V.ref))/\as.Nodup/\(∀a∈as,S a)/\as.map H=xs.map λx=>aa (.lst (x.map V.int))
mutual
noncomputable def Dn(K:ao)(S:ah->Prop)(H:Hp):D->V->Prop
 |.non,v=>v=.non
 |.bl b,v=>v=.bl b
 |.int i,v=>v=.int i
 |.str x,v=>v=.str x
 |.tup ds,v=>∃a xs,v=.ref a/\H a=aa (.tup xs)/\aH K S H ds xs
 |.lst ds,v=>∃a xs,v=.ref a/\H a=aa (.lst xs)/\S a/\aH K S H ds xs
 |.kR ns,v=>∃a,v=.ref a/\VS K H a ns
 |.gR ks ds,v=>∃a xs,v=.ref a/\H a=aa (.dK (ks.zip xs))/\S a/\ks.length=xs.length/\aH K S H ds xs
 |.cN q ks ds,v=>∃a o χ,v=.ref a/\H a=aa (.dX o χ)/\S a/\(χ.map (·.1)=ks/\q a o)/\aH K S H ds (χ.map (·.2.2))
 |.exc _ a,v=>v=.ref a
 |.rws xs,v=>∃a,v=.ref a/\S a/\Rw S H xs a
noncomputable def aH(K:ao)(S:ah->Prop)(H:Hp):List D->List V->Prop
 |[],xs=>xs=[]
 |d::ds,xs=>∃v r,xs=v::r/\Dn K S H d v/\aH K S H ds r
end
structure Fits (K:ao) (S S':ah->Prop) (H H':Hp):Prop where
 t:∀a xs,H a=aa (.tup xs)->H' a=aa (.tup xs)
 s:∀a ns,VS K H a ns->VS K H' a ns
 l:∀a xs,H a=aa (.lst xs)->S a->H' a=aa (.lst xs)/\S' a
 d:∀a xs,H a=aa (.dK xs)->S a->H' a=aa (.dK xs)/\S' a
 e:∀a o xs,H a=aa (.dX o xs)->S a->H' a=aa (.dX o xs)/\S' a
section
variable{K:ao}{S S':ah->Prop}{H H':Hp}
def Rw.fits(f:Fits K S S' H H')(q:∀ys,H p=aa (.lst ys)->H' p=aa (.lst ys))(h:Rw S H xs p):Rw S' H' xs p:=by
 obtain⟨as,v,h2,o,n⟩:=h;have j:as.length=xs.length:=by have:=congrArg pz n;simpa using this
 have d:∀i (c:i<as.length),H as[i]=aa (.lst ((xs[i]'(j▸c)).map V.int)):=λi c=>by have:=congrArg (λl=>l[i]?) n;simpa[c,j▸c] using this
 show⟨as,q _ v,h2,λa m=>?_,List.ext_getElem (by simpa using j) λi c u=>?_⟩
 .obtain ⟨i,c,rfl⟩:=p0 m;show(f.l _ _ (d i c) (o _ m)).2
 .rw [bo] at c;rw[a0P,a0P];show(f.l _ _ (d i c) (o _ (p_ c))).1
mutual
theorem Dn.fits(f:Fits K S S' H H'):∀(d:D) (v:V),Dn K S H d v->Dn K S' H' d v
 |.non,v,h=>by simpa only[Dn] using h
 |.bl b,v,h=>by simpa only[Dn] using h
 |.int i,v,h=>by simpa only[Dn] using h
 |.str x,v,h=>by simpa only[Dn] using h
 |.tup ds,v,h=>by symm at h ⊢;obtain⟨a,xs,e,q,r⟩:=h;show⟨a,xs,e,f.t a xs q,aH.fits f ds xs r⟩
 |.lst ds,v,h=>by symm at h ⊢;obtain⟨a,xs,e,q,s,r⟩:=h;obtain⟨c,s'⟩:=f.l a xs q s;show⟨a,xs,e,c,s',aH.fits f ds xs r⟩
 |.kR ns,v,h=>by symm at h ⊢;obtain⟨a,e,q⟩:=h;show⟨a,e,f.s a ns q⟩
 |.gR ks ds,v,h=>by symm at h ⊢;obtain⟨a,xs,e,q,s,l,r⟩:=h;obtain⟨c,s'⟩:=f.d a _ q s;show⟨a,xs,e,c,s',l,aH.fits f ds xs r⟩
 |.cN _ ks ds,v,h=>by symm at h ⊢;obtain⟨a,o,χ,e,q,s,l,r⟩:=h;obtain⟨c,s'⟩:=f.e a _ _ q s;show⟨a,o,χ,e,c,s',l,aH.fits f ds _ r⟩
 |.exc _ _,v,h=>by simpa only[Dn] using h
 |.rws xs,v,h=>by symm at h ⊢;obtain⟨a,e,s,r⟩:=h;obtain⟨as,j,h2⟩:=r;show⟨a,e,(f.l a _ j s).2,Rw.fits f (λys e1=>(f.l a ys e1 s).1) ⟨as,j,h2⟩⟩
theorem aH.fits(f:Fits K S S' H H'):∀(ds:List D) (xs:List V),aH K S H ds xs->aH K S' H' ds xs
 |[],xs,h=>by simpa only[aH] using h
 |d::ds,xs,h=>by simp only[aH] at h ⊢;obtain⟨v,r,e,a,h2⟩:=h;show⟨v,r,e,Dn.fits f d v a,aH.fits f ds r h2⟩
end
mutual
theorem Dn.IB:∀(d:D) (v:V),d.wQ=ae->Dn K S H d v->Dn K S' H d v
 |.non,v,_,h=>by simpa only[Dn] using h
 |.bl b,v,_,h=>by simpa only[Dn] using h
 |.int i,v,_,h=>by simpa only[Dn] using h
 |.str x,v,_,h=>by simpa only[Dn] using h
 |.tup ds,v,hi,h=>by symm at h ⊢;obtain⟨a,xs,e,q,r⟩:=h;show⟨a,xs,e,q,aH.IB ds xs (by simpa only[D.wQ] using hi) r⟩
 |.lst _,v,hi,h=>by simp only[D.wQ] at hi;cases hi
 |.kR ns,v,_,h=>by simpa only[Dn] using h
 |.gR _ _,v,hi,h=>by simp only[D.wQ] at hi;cases hi
 |.cN _ _ _,v,hi,h=>by simp only[D.wQ] at hi;cases hi
 |.exc _ _,v,_,h=>by simpa only[Dn] using h
 |.rws _,v,hi,h=>by simp only[D.wQ] at hi;cases hi
theorem aH.IB:∀(ds:List D) (xs:List V),wR ds=ae->aH K S H ds xs->aH K S' H ds xs
 |[],xs,_,h=>by simpa only[aH] using h
 |d::ds,xs,hi,h=>by simp only[wR,jf] at hi;simp only[aH] at h ⊢;obtain⟨v,r,e,a,h2⟩:=h;show⟨v,r,e,Dn.IB d v hi.1 a,aH.IB ds r hi.2 h2⟩
end
def Dn.wQ(a:d.wQ=ae)(h:Dn K S H d v):Dn K S' H d v:=Dn.IB d v a h
def aH.wQ(a:wR ds=ae)(h:aH K S H ds xs):aH K S' H ds xs:=aH.IB ds xs a h
def dS.some(h:dS K (λ_=>af) a xs):dS K H a xs:=by
 rcases h with(h|⟨o,h⟩)|h
 .cases h
 .cases h
 .exact .inr h
def VS.sq(h:VS K H a ns):dS K H a (ns.map V.int):=by
 rcases h with⟨o,h⟩|h
 .exact .inl (.inr ⟨o,h⟩)
 .exact dS.some h
def Wr(H:Hp)(p:ah):Prop:=(∃xs,H p=aa (.lst xs))\/(∃xs,H p=aa (.dK xs)) \/∃o xs,H p=aa (.dX o xs)
def Wr.tup(w:Wr H p)(h:H a=aa (.tup xs)):upd H p o a=aa (.tup xs):=by
 rw[aL]
 .exact h
 .intro e;subst e;rcases w with⟨ys,w⟩|⟨ys,w⟩|⟨_,ys,w⟩<;>rw[h] at w<;>cases w
def Wr.kR(w:Wr H p)(h:VS K H a ns):VS K (upd H p o) a ns:=by
 rcases h with⟨c,h⟩|h
 .refine .inl ⟨c,?_⟩;rw[aL]
  .exact h
  .intro e;subst e;rcases w with⟨ys,w⟩|⟨ys,w⟩|⟨_,ys,w⟩<;>rw[h] at w<;>cases w
 .exact .inr h
def Fits.same(e:ξ H H'):Fits K S S H H' :=
 ⟨λa xs h=>e _ _ h,λa ns h=>h.elim (λ⟨o,h⟩=>.inl ⟨o,e _ _ h⟩) .inr,λa xs h s=>⟨e _ _ h,s⟩,λa xs h s=>⟨e _ _ h,s⟩,λa _ xs h s=>⟨e _ _ h,s⟩⟩
def Fits.mono(m:∀a,S a->S' a):Fits K S S' H H :=
 ⟨λ_ _ h=>h,λ_ _ h=>h,λa _ h s=>⟨h,m a s⟩,λa _ h s=>⟨h,m a s⟩,λa _ _ h s=>⟨h,m a s⟩⟩
def Fits.fresh(c:H p=af):Fits K S (λa=>S a/\a≠p) H H :=
 ⟨λ_ _ h=>h,λ_ _ h=>h,λa _ h s=>⟨h,s,aP h c⟩,λa _ h s=>⟨h,s,aP h c⟩,λa _ _ h s=>⟨h,s,aP h c⟩⟩
def Fits.upd(w:Wr H p)(c:¬ S p):Fits K S S H (upd H p o):=by have ne:∀a,S a->a≠p:=λa s e=>c (e▸s);show⟨λa xs h=>w.tup h,λa ns h=>w.kR h,λa xs h s=>⟨by rw[aL (ne a s)];show h,s⟩,λa xs h s=>⟨by rw[aL (ne a s)];show h,s⟩,λa _ xs h s=>⟨by rw[aL (ne a s)];show h,s⟩⟩
def Fits.trans(a:Fits K S S' H H')(b:Fits K S' S'' H' VT):Fits K S S'' H VT :=
 ⟨λx xs h=>b.t x xs (a.t x xs h),λx ns h=>b.s x ns (a.s x ns h),λx xs h s=>let ⟨h1,s1⟩:=a.l x xs h s;b.l x xs h1 s1,λx xs h s=>let ⟨h1,s1⟩:=a.d x xs h s;b.d x xs h1 s1,λx o xs h s=>let ⟨h1,s1⟩:=a.e x o xs h s;b.e x o xs h1 s1⟩
def aG(a:H p=af):ξ H (upd H p o):=λb u h=>by rw[aL (aP h a)];show h
theorem aH.len:∀{ds:List D} {xs:List V},aH K S H ds xs->ds.length=xs.length
 |[],xs,h=>by simp only[aH] at h;subst h;rfl
 |d::ds,xs,h=>by simp only[aH] at h;obtain⟨v,r,e,_,h2⟩:=h;subst e;simp[aH.len h2]
theorem aH.get:∀{ds:List D} {xs:List V} {i:Nat} {d:D},aH K S H ds xs->ds[i]?=aa d ->∃v,xs[i]?=aa v/\Dn K S H d v
 |[],xs,i,d,h,e=>by simp at e
 |d::ds,xs,i,d',h,e=>by
  simp only[aH] at h;obtain⟨v,r,e1,a,h2⟩:=h;subst e1
  cases i with
  |zero=>simp at e;subst e;show⟨v,by simp,a⟩
  |succ i =>
   obtain⟨u,c,q⟩:=aH.get (i:=i) (d:=d') h2 (by simpa using e);show⟨u,by simpa using c,q⟩
def aH.nil:aH K S H [] []:=by simp only[aH]
def aH.cons(h:Dn K S H d v)(t:aH K S H ds xs):aH K S H (d::ds) (v::xs):=by simp only[aH];show⟨v,xs,rfl,h,t⟩
def aH.aX(h:aH K S H (d::ds) xs):∃v r,xs=v::r/\Dn K S H d v/\aH K S H ds r:=by simpa only[aH] using h
theorem aH.append:∀{ds a:List D} {xs ys:List V},aH K S H ds xs->aH K S H a ys->aH K S H (ds++a) (xs++ys)
 |[],a,xs,ys,h,g=>by simp only[aH] at h;subst h;show g
 |d::ds,a,xs,ys,h,g=>by obtain⟨v,r,e,c,h2⟩:=h.aX;subst e;show aH.cons c (aH.append h2 g)
def aH.one(h:Dn K S H d v):aH K S H [d] [v]:=aH.cons h aH.nil
theorem aH.take:∀{ds:List D} {xs:List V} (n:Nat),aH K S H ds xs->aH K S H (ds.take n) (xs.take n)
 |_,_,0,_=>by simp[aH.nil]
 |[],xs,n+1,h=>by simp only[aH] at h;subst h;simp[aH.nil]
 |d::ds,xs,n+1,h=>by obtain⟨v,r,e,a,h2⟩:=h.aX;subst e;simpa using aH.cons a (aH.take n h2)
theorem aH.drop:∀{ds:List D} {xs:List V} (n:Nat),aH K S H ds xs->aH K S H (ds.drop n) (xs.drop n)
 |_,_,0,h=>by simpa using h
 |[],xs,n+1,h=>by simp only[aH] at h;subst h;simp[aH.nil]
 |d::ds,xs,n+1,h=>by obtain⟨v,r,e,a,h2⟩:=h.aX;subst e;simpa using aH.drop n h2
theorem aH.erase:∀{ds:List D} {xs:List V} (n:Nat),aH K S H ds xs->aH K S H (ds.eraseIdx n) (xs.eraseIdx n)
 |[],xs,n,g=>by simp only[aH] at g;subst g;simp[aH.nil]
 |d::ds,xs,n,g=>by
  obtain⟨v,r,e,a,h2⟩:=g.aX;subst e
  cases n with
  |zero=>show h2
  |succ n=>show aH.cons a (aH.erase n h2)
def aH.insert:∀{ds:List D} {xs:List V} {d:D} {v:V} (n:Nat),Dn K S H d v->aH K S H ds xs->aH K S H (ds.take n++d::ds.drop n) (xs.take n++v::xs.drop n) :=
 λn h g=>aH.append (aH.take n g) (aH.cons h (aH.drop n g))
theorem aH.ints:∀{ns:Q0e} {xs:List V},aH K S H (ns.map D.int) xs↔xs=ns.map V.int
 |[],xs=>by simp[aH]
 |n::ns,xs=>by
  rw[cf,cf]
  constructor
  .intro h;obtain⟨v,r,e,a,h2⟩:=h.aX;symm at a;rw[e,a,aH.ints.mp h2]
  .intro e;rw[e];show aH.cons (by symm) (aH.ints.mpr rfl)
end
def Sl(K:ao)(S:ah->Prop)(H:Hp)(ρ:bK)(σ:St):Prop:=∀(i:Nat) (d:D),ρ[i]?=aa (aa d) ->∃v,σ[i]?=aa (aa v)/\Dn K S H d v
theorem Sl.fits{K:ao}{S S':ah->Prop}{H H':Hp}{ρ:bK}{σ:St}(f:Fits K S S' H H')(h:Sl K S H ρ σ):Sl K S' H' ρ σ:=λi d e =>
 let ⟨v,e1,q⟩:=h i d e;⟨v,e1,Dn.fits f d v q⟩
def sL(K:ao)(S:ah->Prop)(H:Hp)(d:D)(p:ah):Prop :=
 match d with
 |.lst ds=>∃xs,H p=aa (.lst xs)/\aH K S H ds xs
 |.gR ks ds=>∃xs,H p=aa (.dK (ks.zip xs))/\ks.length=xs.length/\aH K S H ds xs
 |.cN q ks ds=>∃o χ,H p=aa (.dX o χ)/\(χ.map (·.1)=ks/\q p o)/\aH K S H ds (χ.map (·.2.2))
 |.rws xs=>Rw S H xs p
 |_=>False
def SO(S:ah->Prop)(w:Nat->ah)(ρ:aW):ah->Prop:=λa=>S a /\∀(i:Nat) (d:D),ρ[i]?=aa (Sv.ow d)->a≠w i
structure ST (K:ao) (H₀:Hp) (S:ah->Prop) (w:Nat->ah) (σ:St) (H:Hp) (ρ:aW) (G:List (D×V)):Prop where
 fc:∀a,H₀ a=af->S a
 sm:ξ H₀ H
 own:∀(i:Nat) (d:D),ρ[i]?=aa (Sv.ow d)->σ[i]?=aa (aa (.ref (w i)))/\H₀ (w i)=af/\sL K (SO S w ρ) H d (w i)
 inj:∀(i j:Nat) (d e:D),ρ[i]?=aa (Sv.ow d)->ρ[j]?=aa (Sv.ow e)->w i=w j->i=j
 ro:∀(i:Nat) (d:D),ρ[i]?=aa (Sv.ro d) ->∃v,σ[i]?=aa (aa v)/\Dn K (SO S w ρ) H d v
 gh:∀g∈G,Dn K (SO S w ρ) H g.1 g.2
 rw:∀(i:Nat) (xs:Q0a),ρ[i]?=aa (Sv.ow (.rws xs)) ->∀ys,H (w i)=aa (.lst ys) ->∀a,V.ref a∈ys->H₀ a=af
section
variable{K:ao}{H₀ H H':Hp}{S S':ah->Prop}{w:Nat->ah}{σ:St}{ρ:aW}{G:List (D×V)}
theorem sL.wr(h:sL K S H d p):Wr H p:=by
 cases d with
 |lst ds=>obtain⟨xs,e,_⟩:=h;show .inl ⟨_,e⟩
 |gR ks ds=>obtain⟨xs,e,_⟩:=h;show .inr (.inl ⟨_,e⟩)
 |cN q0 ks ds=>obtain⟨o,χ,e,_⟩:=h;show .inr (.inr ⟨_,_,e⟩)
 |rws xs=>obtain⟨_,e,_⟩:=h;show .inl ⟨_,e⟩
 |_=>show jt h
theorem sL.dn{d:D}{p:ah}(h:sL K S H d p)(c:S' p)(m:∀a,S a->S' a):Dn K S' H d (.ref p):=by
 cases d with
 |lst ds=>obtain⟨xs,e,q⟩:=h;symm;show⟨p,xs,rfl,e,c,aH.fits (.mono m) ds xs q⟩
 |gR ks ds=>obtain⟨xs,e,l,q⟩:=h;symm;show⟨p,xs,rfl,e,c,l,aH.fits (.mono m) ds xs q⟩
 |cN q0 ks ds=>obtain⟨o,χ,e,l,q⟩:=h;symm;show⟨p,o,χ,rfl,e,c,l,aH.fits (.mono m) ds _ q⟩
 |rws xs=>symm;show⟨p,rfl,c,Rw.fits (.mono (K:=K) m) (λ_ e=>e) h⟩
 |_=>show jt h
theorem sL.fits{d:D}{p:ah}(f:Fits K S S' H H')(a:∀o,H p=aa o->H' p=aa o)(h:sL K S H d p):sL K S' H' d p:=by
 cases d with
 |lst ds=>obtain⟨xs,e,q⟩:=h;show⟨xs,a _ e,aH.fits f ds xs q⟩
 |gR ks ds=>obtain⟨xs,e,l,q⟩:=h;show⟨xs,a _ e,l,aH.fits f ds xs q⟩
 |cN q0 ks ds=>obtain⟨o,χ,e,l,q⟩:=h;show⟨o,χ,a _ e,l,aH.fits f ds _ q⟩
 |rws xs=>show Rw.fits f (λ_ e=>a _ e) h
 |_=>show jt h
def ST.rwN(h:ST K H₀ S w σ H ρ G)(q:ρ[i]?=aa (Sv.ow (.rws xs)))(d:∀o,H (w i)=aa o->H' (w i)=aa o):∀ys,H' (w i)=aa (.lst ys) ->∀a,V.ref a∈ys->H₀ a=af:=λys c=>by obtain⟨as,e,_⟩:=(h.own i _ q).2.2;rw[d _ e] at c;cases c;show h.rw i xs q _ e
def ST.MV(h:ST K H₀ S w σ H ρ G):∀a,H a=af->S a:=λa e=>h.fc a (h.sm.free e)
def ST.FR(h:ST K H₀ S w σ H ρ G):∀a,H a=af->SO S w ρ a:=λa e=>⟨h.MV a e,λi d q z=>by have wr:=(h.own i d q).2.2.wr;subst z;rcases wr with⟨xs,k⟩|⟨xs,k⟩|⟨_,xs,k⟩<;>rw[e] at k<;>cases k⟩
theorem uC{i:Nat}{d:D}(h:(bA ρ)[i]?=aa (aa d)):ρ[i]?=aa (Sv.ro d)\/ρ[i]?=aa (Sv.ow d):=by
 unfold bA at h;rw[ft] at h
 cases e:ρ[i]? with
 |none=>rw[e] at h;cases h
 |some s =>
  rw[e] at h
  cases s with
  |no=>cases h
  |ro d'=>cases h;show .inl rfl
  |ow d'=>cases h;show .inr rfl
theorem yB{i:Nat}{d:D}(h:(fG ρ)[i]?=aa (aa d)):ρ[i]?=aa (Sv.ro d):=by
 unfold fG at h;rw[ft] at h
 cases e:ρ[i]? with
 |none=>rw[e] at h;cases h
 |some s =>
  rw[e] at h
  cases s with
  |no=>cases h
  |ro d'=>cases h;rfl
  |ow d'=>cases h
def ST.all(h:ST K H₀ S w σ H ρ G):Sl K S H (bA ρ) σ:=λi d e=>by
 rcases uC e with e|e
 .obtain ⟨v,e1,q⟩:=h.ro i d e;show⟨v,e1,Dn.fits (.mono λ_ z=>z.1) d v q⟩
 .obtain ⟨e1,a,q⟩:=h.own i d e;show⟨_,e1,q.dn (h.fc _ a) λ_ z=>z.1⟩
def ST.rd(h:ST K H₀ S w σ H ρ G):Sl K (SO S w ρ) H (fG ρ) σ:=λi d e=>h.ro i d (yB e)
def ST.same(h:ST K H₀ S w σ H ρ G)(e:ξ H H'):ST K H₀ S w σ H' ρ G :=
 ⟨h.fc,h.sm.trans e,λi d q=>let ⟨a,b,c⟩:=h.own i d q;⟨a,b,c.fits (.same e) λo z=>e _ o z⟩,h.inj,λi d q=>let ⟨v,a,b⟩:=h.ro i d q;⟨v,a,Dn.fits (.same e) d v b⟩,λg j=>Dn.fits (.same e) _ _ (h.gh g j),λi xs q=>h.rwN q λo z=>e _ o z⟩
def SO.mono{ρ':aW}(hw:∀(i:Nat) (d:D),ρ'[i]?=aa (Sv.ow d) ->∃e,ρ[i]?=aa (Sv.ow e)):∀a,SO S w ρ a->SO S w ρ' a:=λa c=>by obtain⟨s,n⟩:=c;show⟨s,λi d e=>let ⟨d',e'⟩:=hw i d e;n i d' e'⟩
def get_set{α:Type}{l:List α}{i j:Nat}{x y:α}(h:(l.set i x)[j]?=aa y):(j=i/\y=x/\i<l.length)\/(j≠i/\l[j]?=aa y):=by
 by_cases e:j=i
 .subst e;by_cases a:j<l.length
  .rw [kn a] at h;show .inl ⟨rfl,(ee h).symm,a⟩
  .rw [lp (by simp;lia)] at h;cases h
 .rw [jm (fg e)] at h;show .inr ⟨e,h⟩
def ST.iX{i:Nat}{d:D}{v:V}(h:ST K H₀ S w σ H ρ G)(y:i<σ.length)(q:Dn K (SO S w ρ) H d v):ST K H₀ S w (σ.set i (aa v)) H (ρ.set i (.ro d)) G:=by
 have hw:∀(j:Nat) (e:D),(ρ.set i (.ro d))[j]?=aa (Sv.ow e)->j≠i/\ρ[j]?=aa (Sv.ow e):=λj e l=>by
  rcases get_set l with⟨_,z,_⟩|z
  .cases z
  .exact z
 have m:∀a,SO S w ρ a->SO S w (ρ.set i (.ro d)) a:=SO.mono λj e l=>⟨e,(hw j e l).2⟩;show⟨h.fc,h.sm,λj e l=>?_,λj k d' p F h2=>h.inj j k d' p (hw j d' F).2 (hw k p h2).2,λj e l=>?_,λg A=>Dn.fits (.mono m) _ _ (h.gh g A),λj xs x=>h.rw j xs (hw j _ x).2⟩
 .obtain ⟨n,o⟩:=hw j e l;obtain⟨a,b,c⟩:=h.own j e o;show⟨by rw[jm (fg n)];show a,b,c.fits (.mono m) λ_ z=>z⟩
 .rcases get_set l with⟨n,z,_⟩|⟨n,z⟩
  .cases z;subst n;show⟨v,kn y,Dn.fits (.mono m) d v q⟩
  .obtain ⟨u,a,b⟩:=h.ro j e z;show⟨u,by rw[jm (fg n)];show a,Dn.fits (.mono m) e u b⟩
theorem ST.C7{i:Nat}{d:D}{p:ah}(h:ST K H₀ S w σ H ρ G)(U:i<σ.length)(e:ξ H H')(A:H p=af)(q:sL K (λa=>SO S w ρ a/\a≠p) H' d p)
  (O:∀xs,d=.rws xs ->∀ys,H' p=aa (.lst ys) ->∀a,V.ref a∈ys->H₀ a=af:=by intro _ z;cases z):
  ST K H₀ S (λj=>if j=i then p else w j) (σ.set i (aa (.ref p))) H' (ρ.set i (.ow d)) G:=by
 have Z:H₀ p=af:=h.sm.free A;have hw:∀(j:Nat) (e:D),j≠i->(ρ.set i (.ow d))[j]?=aa (Sv.ow e)->ρ[j]?=aa (Sv.ow e):=λj e l Y=>by
  rcases get_set Y with⟨z,_,_⟩|⟨_,z⟩
  .exact Zw z l
  .exact z
 have m:∀a,(SO S w ρ a/\a≠p)->SO S (λj=>if j=i then p else w j) (ρ.set i (.ow d)) a:=λa ⟨⟨s,n⟩,ne⟩=>⟨s,λj f v=>by
  show a≠(if j=i then p else w j);by_cases l:j=i
  .rw [Z_ l];show ne
  .rw [Zz l];show n j f (hw j f l v)⟩
 have F:Fits K (SO S w ρ) (SO S (λj=>if j=i then p else w j) (ρ.set i (.ow d))) H H':=((Fits.fresh A).trans (.mono m)).trans (.same e);have I:∀(j:Nat) (f:D),ρ[j]?=aa (Sv.ow f)->w j≠p:=λj f v z=>by have wr:=(h.own j f v).2.2.wr;rw[z] at wr;rcases wr with⟨xs,k⟩|⟨xs,k⟩|⟨_,xs,k⟩<;>rw[A] at k<;>cases k
 show⟨h.fc,h.sm.trans e,λj f v=>?_,λj k d' y L h2 z=>?_,λj f v=>?_,λg X=>Dn.fits F _ _ (h.gh g X),λj xs J=>?_⟩
 rotate_right
 .show ∀ys,H' (if j=i then p else w j)=aa (.lst ys)->_;by_cases l:j=i
  .subst l;rw[Z_ rfl];rcases get_set J with⟨_,z,_⟩|⟨z,_⟩
   .exact O xs (Sv.ow.inj z).symm
   .exact Zw rfl z
  .rw [Zz l];show h.rwN (hw j _ l J) λo z=>e _ o z
 .by_cases l:j=i
  .subst l;rcases get_set v with⟨_,z,_⟩|⟨z,_⟩
   .cases z;rw[Z_ rfl];show⟨kn U,Z,q.fits (.mono m) λ_ z=>z⟩
   .exact Zw rfl z
  .rw [Zz l];obtain⟨a,b,c⟩:=h.own j f (hw j f l v);show⟨by rw[jm (fg l)];show a,b,c.fits F λo z=>e _ o z⟩
 .have z:(if j=i then p else w j)=(if k=i then p else w k):=z;by_cases l:j=i
  .by_cases x:k=i
   .rw [l,x]
   .rw [Z_ l,Zz x] at z;show Zw z.symm (I k y (hw k y x h2))
  .by_cases x:k=i
   .rw [Zz l,Z_ x] at z;show Zw z (I j d' (hw j d' l L))
   .rw [Zz l,Zz x] at z;show h.inj j k d' y (hw j d' l L) (hw k y x h2) z
 .rcases get_set v with⟨_,z,_⟩|⟨l,z⟩
  .cases z
  .obtain ⟨u,a,b⟩:=h.ro j f z;show⟨u,by rw[jm (fg l)];show a,Dn.fits F f u b⟩
def ST.write{i:Nat}{d d':D}{o:HO}(h:ST K H₀ S w σ H ρ G)(e:ρ[i]?=aa (Sv.ow d))(q:sL K (SO S w ρ) (upd H (w i) o) d' (w i))(U:∀xs,d'≠.rws xs:=by intro _ z;cases z):ST K H₀ S w σ (upd H (w i) o) (ρ.set i (.ow d')) G:=by
 obtain⟨a0,I,Z⟩:=h.own i d e;have v:SO S w (ρ.set i (.ow d'))=SO S w ρ:=by
  funext a
  show propext ⟨λ⟨s,n⟩=>⟨s,λj f m=>?_⟩,λ⟨s,n⟩=>⟨s,λj f m=>?_⟩⟩
  .by_cases l:j=i
   .subst l;show n j d' (by rw[kn (dh.mp e).1])
   .exact n j f (by rw[jm (fg l)];show m)
  .by_cases l:j=i
   .subst l;show n j d e
   .exact n j f (by rw[jm (fg l)] at m;show m)
 have L:¬ SO S w ρ (w i):=λ⟨_,n⟩=>n i d e rfl;have F:Fits K (SO S w ρ) (SO S w ρ) H (upd H (w i) o):=.upd Z.wr L;show⟨h.fc,λb u A=>?_,λj f m=>?_,λj k d1 e1 Y h2 z=>?_,λj f m=>?_,λg X=>by rw[v];show Dn.fits F _ _ (h.gh g X),λj xs O=>?_⟩
 rotate_right
 .rcases get_set O with⟨_,z,_⟩|⟨l,z⟩
  .exact Zw (Sv.ow.inj z).symm (U xs)
  .exact h.rwN z λJ p=>by rw[aL λy=>l (h.inj _ _ _ _ z e y)];show p
 .rw [aL (aP A I)];show h.sm b u A
 .rw [v];rcases get_set m with⟨l,z,_⟩|⟨l,z⟩
  .cases z;subst l;show⟨a0,I,q⟩
  .obtain ⟨a,b,c⟩:=h.own j f z;show⟨a,b,c.fits F λJ p=>by rw[aL λy=>l (h.inj _ _ _ _ z e y)];show p⟩
 .have g1:∃x,ρ[j]?=aa (Sv.ow x):=by
   rcases get_set Y with⟨l,_,_⟩|⟨_,z⟩
   .subst l;show⟨d,e⟩
   .exact ⟨_,z⟩
  have g2:∃x,ρ[k]?=aa (Sv.ow x):=by
   rcases get_set h2 with⟨l,_,_⟩|⟨_,z⟩
   .subst l;show⟨d,e⟩
   .exact ⟨_,z⟩
  obtain⟨_,g1⟩:=g1;obtain⟨_,g2⟩:=g2;show h.inj j k _ _ g1 g2 z
 .rw [v];rcases get_set m with⟨_,z,_⟩|⟨l,z⟩
  .cases z
  .obtain ⟨u,a,b⟩:=h.ro j f z;show⟨u,a,Dn.fits F f u b⟩
def Mx{n i:Nat}{d:D}{P:Nat->Prop}:∀(j:Nat) (xs:Q0a),((cp n Sv.no).set i (.ro d))[j]?=aa (Sv.ow (.rws xs))->P j:=λj xs z=>by
 rcases get_set z with⟨_,z,_⟩|⟨_,z⟩
 .cases z
 .rw [jr] at z;split at z<;>cases z
def ST.ghost(h:ST K H₀ S w σ H ρ G)(a:∀g∈G',Dn K (SO S w ρ) H g.1 g.2):ST K H₀ S w σ H ρ G':=⟨h.fc,h.sm,h.own,h.inj,h.ro,a,h.rw⟩
end
open PySem.Spec PyProof.Rows
abbrev WE:=bK->(D->Prop)->Prop
abbrev WT:=bK->(Bool->Prop)->Prop
abbrev WA:=bK->(List D->Prop)->Prop
def lift(K:ao)(t:WE):TE:=λσ H Q=>∃(S:ah->Prop) (ρ:bK) (Q3:D->Prop),(∀a,H a=af->S a)/\Sl K S H ρ σ/\t ρ Q3 /\∀v H' d,ξ H H'->Dn K S H' d v->Q3 d->Q v H'
def liftT(K:ao)(t:WT):TT:=λσ H Q=>∃(S:ah->Prop) (ρ:bK) (Q3:Bool->Prop),(∀a,H a=af->S a)/\Sl K S H ρ σ/\t ρ Q3 /\∀b H',ξ H H'->Q3 b->Q b H'
def MW(K:ao)(t:WA):TA:=λσ H Q=>∃(S:ah->Prop) (ρ:bK) (Q3:List D->Prop),(∀a,H a=af->S a)/\Sl K S H ρ σ/\t ρ Q3 /\∀vs H' ds,ξ H H'->aH K S H' ds vs->Q3 ds->Q vs H'
def MX(K:ao)(t:WE):TE:=λσ H Q=>∃(S:ah->Prop) (ρ:bK) (Q3:D->Prop),(∀a,H a=af->S a)/\Sl K S H ρ σ/\t ρ Q3 /\
 ∀p xs H' ds,H p=af->H' p=aa (.lst xs)->ξ H H'->aH K (λa=>S a/\a≠p) H' ds xs->Q3 (.lst ds)->Q (.ref p) H'
def bU(X:Cx)(e:av)(t:WE):Prop:=PE X e (lift X.K t)
def AE(X:Cx)(e:av)(t:WE):Prop:=PE X e (MX X.K t)
def uD(X:Cx)(e:av)(t:WT):Prop:=PT X e (liftT X.K t)
def uE(X:Cx)(a:List av)(t:WA):Prop:=PA X a (MW X.K t)
section
variable{X:Cx}
def imp(h:PE X e t)(f:∀σ H Q,t' σ H Q->t σ H Q):PE X e t':=λπ s σ H Q I q=>h π s σ H Q I (f σ H Q q)
def MY(h:PT X e t)(f:∀σ H Q,t' σ H Q->t σ H Q):PT X e t':=λπ s σ H Q I q=>h π s σ H Q I (f σ H Q q)
def AG(h:PA X e t)(f:∀σ H Q,t' σ H Q->t σ H Q):PA X e t':=λa π s σ H Q I q=>h a π s σ H Q I (f σ H Q q)
def aU{H H':Hp}{S:ah->Prop}(c:∀a,H a=af->S a)(s:ξ H H'):∀a,H' a=af->S a:=λa e=>c a (s.free e)
theorem AE.pe(h:AE X e t):bU X e t:=imp h λσ H Q a=>by obtain⟨S,ρ,Q3,d,j,l,k⟩:=a;show⟨S,ρ,Q3,d,j,l,λp xs H' ds m c s dn q=>k _ H' _ s (by symm;show⟨p,xs,rfl,c,d p m,aH.fits (.mono λ_ z=>z.1) ds xs dn⟩) q⟩
noncomputable def SA(i:Nat):WE:=λρ Q=>match ρ[i]? with
 |some (aa d)=>Q d
 |_=>False
def wC(d:D):WE:=λ_ Q=>Q d
def MZ{K:ao}{i:Nat}{σ:L2.St}{H:Hp}{Q:VK}(h:lift K (SA i) σ H Q):oK i σ H Q:=by
 obtain⟨S,ρ,Q3,j,c,a,k⟩:=h;unfold SA at a;split at a
 .rename_i d e;obtain⟨v,e1,q⟩:=c i d e;show⟨v,e1,k v H d (ξ.refl H) q a⟩
 .exact a.elim
def x3(i:Nat)(hN:X.N[i]?=aa x:=by rfl)(c:qN X.env.scope x:=by walk_at "1")(d:Zu x:=by decide)
  (a:Zt x:=by decide):bU X (.Name x ν) (SA i):=imp (gE hN c d a) λ_ _ _=>MZ
def yC{K:ao}{d:D}{v:V}{σ:L2.St}{H:Hp}{Q:VK}(c:∀S H,Dn K S H d v)(h:lift K (wC d) σ H Q):tC v σ H Q:=by obtain⟨S,ρ,Q3,l,j,a,k⟩:=h;show k v H d (ξ.refl H) (c S H) a
def i3{j ν}:bU X (.Constant (.int i) j ν) (wC (.int i)):=imp XX λ_ _ _=>yC (λ_ _=>by symm)
def b3{j ν}:bU X (.Constant (.bool b) j ν) (wC (.bl b)):=imp Ua λ_ _ _=>yC (λ_ _=>by symm)
def n3{j ν}:bU X (.Constant .none j ν) (wC .non):=imp XY λ_ _ _=>yC (λ_ _=>by symm)
def s3{j ν}:bU X (.Constant (.str x) j ν) (wC (.str x)):=imp XZ λ_ _ _=>yC (λ_ _=>by symm)
abbrev F2:=D->D->(D->Prop)->Prop
def eR(f:F2)(c a:WE):WE:=λρ Q=>c ρ λx=>a ρ λy=>f x y Q
def O3(K:ao)(r:R2)(f:F2):Prop:=∀(S:ah->Prop) (H:Hp) (x y:V) (h c:D) (Q3:D->Prop) (Q:VK),(∀a,H a=af->S a)->Dn K S H h x->Dn K S H c y->f h c Q3 ->
 (∀v H' d,ξ H H'->Dn K S H' d v->Q3 d->Q v H')->r x y H Q
def m6{K:ao}{r:R2}{f:F2}{o n:WE}{σ:L2.St}{H:Hp}{Q:VK}(z:O3 K r f)(h:lift K (eR f o n) σ H Q):qg r (lift K o) (lift K n) σ H Q:=by obtain⟨S,ρ,Q3,j,p,y,k⟩:=h;show⟨S,ρ,_,j,p,y,λv H1 d a F q1=>?_⟩;show⟨S,ρ,_,aU j a,Sl.fits (.same a) p,q1,λu I A c m q2=>?_⟩;show z S I v u d A Q3 Q (aU j (a.trans c)) (Dn.fits (.same c) _ _ F) m q2 λq H' d' s' l x=>k q H' d' ((a.trans c).trans s') l x
theorem P4(ho:gF X (binaryOp op) r)(h:O3 X.K r f)(d:bU X a ta)(c:bU X b tb):bU X (.BinOp a op b ν) (eR f ta tb) :=
 imp (LV ho d c) λ_ _ _=>m6 h
def IC(C:Int->Int->Prop)(g:Int->Int->D):F2
 |.int i,.int j,Q=>C i j/\Q (g i j)
 |_,_,_=>False
theorem jV{K:ao}{C:Int->Int->Prop}{g:Int->Int->Int}:O3 K (rI C λi j=>.int (g i j)) (IC C λi j=>.int (g i j)):=by
 intro S H x y l h Q3 Q m d c a k;cases l<;>cases h<;>try show a.elim
 symm at d c;show⟨_,_,d,c,a.1,k _ H _ (ξ.refl H) (by symm) a.2⟩
noncomputable def sM(g:Int->Int->D):F2
 |.int i,.int j,Q=>Q (g i j)
 |_,_,_=>False
def SD{K:ao}{g:Int->Int->Int}:O3 K (HN λi j=>.int (g i j)) (sM λi j=>.int (g i j)):=by
 intro S H x y l h Q3 Q m c a d k;cases l<;>cases h<;>try show d.elim
 symm at c a;show⟨_,_,c,a,k _ H _ (ξ.refl H) (by symm) d⟩
def Mw:F2:=sM λi j=>.int (i-j)
def Mv:F2:=IC (λ_ j=>0<j) λi j=>.int (i%j)
def Mu:F2:=IC Au λi j=>.int (i/j)
def Mt:F2:=IC YC λi j=>.int (i^j.toNat)
section
variable{a b:av}{ν:bq}{ta tb:WE}
def Ms(d:bU X a ta)(c:bU X b tb):bU X (.BinOp a .Sub b ν) (eR Mw ta tb):=P4 YE SD d c
def Mr(d:bU X a ta)(c:bU X b tb):bU X (.BinOp a .Mod b ν) (eR Mv ta tb):=P4 YF jV d c
def Mq(d:bU X a ta)(c:bU X b tb):bU X (.BinOp a .FloorDiv b ν) (eR Mu ta tb):=P4 RT jV d c
def Mp(d:bU X a ta)(c:bU X b tb):bU X (.BinOp a .Pow b ν) (eR Mt ta tb):=P4 YG jV d c
end
def VU(K:ao):R2:=λx y H Q=>∃a b xs ys,x=.ref a/\y=.ref b/\dZ K H a xs/\dZ K H b ys/\xs.length+ys.length<=bj /\
 (xs=[]->Q (.ref b) H)/\(xs≠[]->ys=[]->Q (.ref a) H)/\(xs≠[]->ys≠[] ->∀p,H p=af->Q (.ref p) (upd H p (.tup (xs++ys))))
theorem M4{Ω:bg}{w:a_}{A:br}{E:Q0c}{s:ak}{t b:ah}{j:Q0f}{Q:Q0c}(u:h_ s.heap t #[])(v:h_ s.heap b j.toArray)
  (x:Q (.ref b) s):ax (au Ω w) A (binaryOp .Add (.ref t) (.ref b)) Q E s:=by
 obtain⟨⟨cls,dd,data,p⟩,ho,m,n,l⟩:=id u;obtain⟨⟨o,h,data2,d⟩,a,c,q,hd2⟩:=id v;simp only at m l c hd2;subst m l c hd2;show Bt ⟨_,ho,rfl⟩ ⟨_,a,rfl⟩ Br Bq Ck Cm (Cn _ _)
   (tuple_addW0 t b #[] j.toArray n q dd h p d (by simp)) ⟨ho,a,x⟩
theorem M5:gF X (binaryOp .Add) (VU X.K):=by
 intro π s σ H x y v u Q I j d h;obtain⟨a,b,xs,ys,rfl,rfl,n,m,p,o,q1,q2⟩:=h;by_cases c:xs=[]
 .cases j;cases d;subst c;obtain⟨q,r1,p1,_⟩:=I.tuple n;obtain⟨l,z,p2,_⟩:=I.tuple m;cases r1;show M4 p1 p2 ⟨.ref b,H,I,rfl,o rfl⟩
 .exact R1 π s σ H _ _ v u Q I j d ⟨a,b,xs,ys,rfl,rfl,n,m,c,p,q1 c,q2 c⟩
noncomputable def Y2:F2
 |.int i,.int j,Q=>Q (.int (i+j))
 |.lst a,.lst b,Q=>a.length+b.length<=bj/\Q (.lst (a++b))
 |.tup a,.tup b,Q=>a.length+b.length<=bj/\Q (.tup (a++b))
 |.str a,.str b,Q=>a.length+b.length<=bj/\Q (.str (a++b))
 |_,_,_=>False
def Am(K:ao):R2:=λx y H Q=>(HN λi j=>.int (i+j)) x y H Q\/(Ao x y H Q\/(VU K x y H Q \/∃i j,x=.str i/\y=.str j/\i.length+j.length<=bj/\Q (.str (i++j)) H))
theorem Y3{K:ao}:O3 K (Am K) Y2:=by
 intro S H x y F o Q3 Q A h d c k
 cases F with
 |int i =>
  cases o with
  |int j=>symm at h d;show .inl ⟨_,_,h,d,k _ H _ (ξ.refl H) (by symm) c⟩
  |_=>show c.elim
 |str i =>
  cases o with
  |str j=>symm at h d;show .inr (.inr (.inr ⟨_,_,h,d,c.1,k _ H _ (ξ.refl H) (by symm) c.2⟩))
  |_=>show c.elim
 |lst ds =>
  cases o with
  |lst es =>
   symm at h d;obtain⟨a,xs,rfl,v,J,m⟩:=h;obtain⟨b,ys,rfl,u,I,l⟩:=d;show .inr (.inl ⟨a,b,xs,ys,rfl,rfl,v,u,by rw[<- m.len,<- l.len];show c.1,λp n=>k _ _ _ (aG n) ?_ c.2⟩);symm;show⟨p,_,rfl,aI,A p n,aH.fits (.same (aG n)) _ _ (m.append l)⟩
  |_=>show c.elim
 |tup ds =>
  cases o with
  |tup es =>
   symm at h d;obtain⟨a,xs,rfl,v,m⟩:=h;obtain⟨b,ys,rfl,u,l⟩:=d;show .inr (.inr (.inl ⟨a,b,xs,ys,rfl,rfl,dZ.of v,dZ.of u,by rw[<- m.len,<- l.len];show c.1,λe=>?_,λ_ e=>?_,λ_ _ p n=>?_⟩))
   .subst e;have z:ds=[]:=vc.mp m.len;subst z;show k _ H _ (ξ.refl H) (by symm;show⟨b,ys,rfl,u,l⟩) c.2
   .subst e;have z:es=[]:=vc.mp l.len;subst z;have q:=c.2;rw[ip] at q;show k _ H _ (ξ.refl H) (by symm;show⟨a,xs,rfl,v,m⟩) q
   .refine k _ _ _ (aG n) ?_ c.2;symm;show⟨p,_,rfl,aI,aH.fits (.same (aG n)) _ _ (m.append l)⟩
  |_=>show c.elim
 |_=>cases o<;>show c.elim
def SE:gF X (binaryOp .Add) (Am X.K):=gF.or YD (gF.or MK (gF.or M5 CV))
theorem Mo(d:bU X a ta)(c:bU X b tb):bU X (.BinOp a .Add b ν) (eR Y2 ta tb):=P4 SE Y3 d c
noncomputable def Al:F2
 |.lst a,.lst b,Q=>a.length+b.length<=bj/\Q (.lst (a++b))
 |_,_,_=>False
def Ti{a b:av}{K:bq}{y x:WE}(o:bU X a y)(n:bU X b x):AE X (.BinOp a .Add b K) (eR Al y x):=imp (LV MK o n) λσ H Q h=>by
 obtain⟨S,ρ,Q3,A,z,L,k⟩:=h;show⟨S,ρ,_,A,z,L,λv H1 d l J q1=>?_⟩;show⟨S,ρ,_,aU A l,Sl.fits (.same l) z,q1,λu Z O j c q2=>?_⟩;cases d<;>cases O<;>try show q2.elim
 symm at J c;obtain⟨a,xs,rfl,o,Y,I⟩:=J;obtain⟨b,ys,rfl,n,U,F⟩:=c;have q:=aH.fits (.same j) _ _ I;show⟨a,b,xs,ys,rfl,rfl,j _ _ o,n,by rw[<- I.len,<- F.len];show q2.1,λp m=>k p _ _ _ ((l.trans j).free m) aI ((l.trans j).trans (aG m)) ?_ q2.2⟩;show aH.fits ((Fits.fresh m).trans (.same (aG m))) _ _ (q.append F)
def Mn:WA:=λ_ Q=>Q []
def Th(a:WE)(t:WA):WA:=λρ Q=>a ρ λd=>t ρ λds=>Q (d::ds)
def Mm:uE X [] Mn:=AG gG λσ H Q a=>by obtain⟨S,ρ,Q3,h,d,c,k⟩:=a;show k [] H [] (ξ.refl H) aH.nil c
def Tg{e:av}{c:List av}{te:WE}{t:WA}(p:bU X e te)(o:uE X c t)(n:Zr X e c:=by rfl):uE X (e::c) (Th te t) :=
 AG (b8 p o n) λσ H Q x=>by obtain⟨S,ρ,Q3,l,h,m,k⟩:=x;show⟨S,ρ,_,l,h,m,λv H1 d a u q1=>?_⟩;show⟨S,ρ,_,aU l a,Sl.fits (.same a) h,q1,λus y ds j q q2=>?_⟩;show k _ y _ (a.trans j) (aH.cons (Dn.fits (.same j) _ _ u) q) q2
def Nl(t:WA):WE:=λρ Q=>t ρ λds=>ds.length<=bj/\Q (.tup ds)
def Nk(t:WA):WE:=λρ Q=>t ρ λds=>ds.length<=bj/\Q (.lst ds)
def Nj{x1}(h:uE X es t):bU X (.Tuple es x1 ν) (Nl t):=imp (MB h) λσ H Q n=>by obtain⟨S,ρ,Q3,m,d,l,k⟩:=n;show⟨S,ρ,_,m,d,l,λvs H1 ds j c q1=>⟨by rw[<- c.len];show q1.1,λp a=>k _ _ _ (j.trans (aG a)) ?_ q1.2⟩⟩;symm;show⟨p,_,rfl,aI,aH.fits (.same (aG a)) _ _ c⟩
def Nh(h:uE X es t):AE X (.List es ν) (Nk t):=imp (YN h) λσ H Q n=>by obtain⟨S,ρ,Q3,m,j,l,k⟩:=n;show⟨S,ρ,_,m,j,l,λvs H1 ds c d q1=>⟨by rw[<- d.len];show q1.1,λp a=>k p vs _ ds (c.free a) aI (c.trans (aG a)) ?_ q1.2⟩⟩;show aH.fits ((Fits.fresh a).trans (.same (aG a))) _ _ d
end
section
variable{X:Cx}
noncomputable def jW(t:WE):WT:=λρ Q=>t ρ λd=>match d with
 |.bl b=>Q b
 |_=>False
theorem ID{K:ao}{t:WE}{σ:L2.St}{H:Hp}{Q:Bool->Hp->Prop}(h:liftT K (jW t) σ H Q):FI (lift K t) σ H Q:=by
 obtain⟨S,ρ,Q3,m,c,l,k⟩:=h;show⟨S,ρ,_,m,c,l,λv H1 d j a q1=>?_⟩
 cases d with
 |bl b=>symm at a;show⟨b,a,k b H1 j q1⟩
 |_=>show q1.elim
def C8(f:∀σ H Q,t' σ H Q->t σ H Q)(h:FI t' σ H Q):FI t σ H Q:=f σ H _ h
def SG(ho:gF X (compareOp op) r)(j:O3 X.K r f)(h:bU X a ta)(d:bU X b tb)(c:behindInMarks op b=ag):bU X (.Compare a [op] [b] ν) (eR f ta tb) :=
 imp (RU ho h d c) λ_ _ _=>m6 j
def pL(ho:gF X (compareOp op) r)(l:O3 X.K r f)(j:bU X a ta)(d:bU X b tb)(c:behindInMarks op b=ag):uD X (.Compare a [op] [b] ν) (jW (eR f ta tb)) :=
 MY (RV ho j d c) λ_ _ _ h=>C8 (λ_ _ _=>m6 l) (ID h)
theorem oP{K:ao}{g:Int->Int->Bool}:O3 K (HN λi j=>.bl (g i j)) (sM λi j=>.bl (g i j)):=by
 intro S H x y l h Q3 Q m c a d k;cases l<;>cases h<;>try show d.elim
 symm at c a;show⟨_,_,c,a,k _ H _ (ξ.refl H) (by symm) d⟩
noncomputable def M6:D->D->Bool
 |.non,.non=>ae | .non,.int _=>ae | .int _,.non=>ae | .non,.bl _=>ae | .bl _,.non=>ae | .non,.str _=>ae | .str _,.non=>ae
 |.int _,.int _=>ae | .bl _,.bl _=>ae | .str _,.str _=>ae | .int _,.str _=>ae | .str _,.int _=>ae | .bl _,.str _=>ae | .str _,.bl _=>ae
 |_,_=>ag
noncomputable def eqS:D->D->Bool
 |.non,.non=>ae
 |.int i,.int j=>Zv (i=j)
 |.bl i,.bl j=>Zv (i=j)
 |.str i,.str j=>Zv (i=j)
 |_,_=>ag
def SH:F2:=λx y Q=>M6 x y=ae/\Q (.bl (eqS x y))
def Y4:F2:=λx y Q=>M6 x y=ae/\Q (.bl (!eqS x y))
def FT{K:ao}{S:ah->Prop}{H:Hp}{x y:V}{c a:D}(j:Dn K S H c x)(d:Dn K S H a y)(h:M6 c a=ae):YK x y=ae/\Zv (x=y)=eqS c a:=by
 cases c<;>first
  | (show Zw (show ag=ae from h) b_)
  |skip
 all_goals (cases a<;>first
  | (show Zw (show ag=ae from h) b_)
  | (symm at j d;subst j;subst d;show⟨rfl,by first|show xT|show CT|show xU|show Zy (λh=>by cases h)|show Zx rfl⟩))
def M7{K:ao}:O3 K zh SH:=by intro S H x y m l Q3 Q j d c a k;obtain⟨h,h2⟩:=FT d c a.1;show⟨h,k _ H _ (ξ.refl H) (by symm;rw[h2]) a.2⟩
theorem Y5{K:ao}:O3 K zg Y4:=by intro S H x y m l Q3 Q j d c a k;obtain⟨h,h2⟩:=FT d c a.1;show⟨h,k _ H _ (ξ.refl H) (by symm;rw[h2]) a.2⟩
noncomputable def allI:List D->Bool
 |[]=>ae
 |.int _::r=>allI r
 |_::_=>ag
noncomputable def uF(i:Int):List D->Bool
 |[]=>ag
 |.int j::r=>j == i||uF i r
 |_::r=>uF i r
theorem vM:∀ns:Q0e,allI (ns.map D.int)=ae
 |[]=>rfl
 |n::ns=>by rw[cf];show vM ns
theorem vN(i:Int):∀ns:Q0e,uF i (ns.map D.int)=ns.contains i
 |[]=>rfl
 |n::ns=>by rw[cf,uF,vN i ns,List.contains_cons];congr 1;show Bool.beq_comm
theorem yD:∀{ds:List D},allI ds=ae ->∃ns:Q0e,ds=ns.map D.int
 |[],_=>⟨[],rfl⟩
 |.int n::r,h=>by obtain⟨ns,e⟩:=yD (ds:=r) h;show⟨n::ns,by rw[e];rfl⟩
 |.non::r,h=>Zw (show ag=ae from h) b_
 |.bl _::r,h=>Zw (show ag=ae from h) b_
 |.str _::r,h=>Zw (show ag=ae from h) b_
 |.tup _::r,h=>Zw (show ag=ae from h) b_
 |.lst _::r,h=>Zw (show ag=ae from h) b_
 |.kR _::r,h=>Zw (show ag=ae from h) b_
 |.gR _ _::r,h=>Zw (show ag=ae from h) b_
 |.cN _ _ _::r,h=>Zw (show ag=ae from h) b_
def inF(neg:Bool):F2
 |.int i,.tup ds,Q=>allI ds=ae/\Q (.bl (if neg then !uF i ds else uF i ds))
 |.int i,.lst ds,Q=>allI ds=ae/\Q (.bl (if neg then !uF i ds else uF i ds))
 |_,_,_=>False
theorem sN(i:Int):∀ns:Q0e,inV (.int i) (ns.map V.int)=uF i (ns.map D.int)
 |[]=>rfl
 |n::ns=>by have e:=sN i ns;unfold inV at e ⊢;rw[cf,cf,kc,uF,e];rfl
theorem oQ:∀ns:Q0e,(ns.map V.int).all mZ=ae
 |[]=>rfl
 |n::ns=>by rw[cf,mr,oQ ns];rfl
theorem M8{K:ao}{neg:Bool}:O3 K (vv K neg) (inF neg):=by
 intro S H x y o n Q3 Q p m c d k
 cases o with
 |int i =>
  symm at m;subst m
  cases n with
  |tup ds =>
   symm at c;obtain⟨a,xs,rfl,h,l⟩:=c;obtain⟨j,h2⟩:=d;obtain⟨ns,rfl⟩:=yD j;have e:=aH.ints.mp l;subst e;show⟨a,_,rfl,.inr (dZ.of h),rfl,oQ ns,k _ H _ (ξ.refl H) ?_ h2⟩;symm;rw[sN]
  |lst ds =>
   symm at c;obtain⟨a,xs,rfl,h,_,l⟩:=c;obtain⟨j,h2⟩:=d;obtain⟨ns,rfl⟩:=yD j;have e:=aH.ints.mp l;subst e;show⟨a,_,rfl,.inl (dS.of h),rfl,oQ ns,k _ H _ (ξ.refl H) ?_ h2⟩;symm;rw[sN]
  |_=>show d.elim
 |_=>cases n<;>show d.elim
section
variable{a b:av}{ν:bq}{ta tb:WE}
def ltF:F2:=sM λi j=>.bl (Zv (i<j))
def gtF:F2:=sM λi j=>.bl (Zv (i>j))
def geF:F2:=sM λi j=>.bl (Zv (i >= j))
def gt3(d:bU X a ta)(c:bU X b tb):bU X (.Compare a [.Gt] [b] ν) (eR gtF ta tb):=SG VL oP d c (iU _)
def Nf(d:bU X a ta)(c:bU X b tb):bU X (.Compare a [.Eq] [b] ν) (eR SH ta tb):=SG VI M7 d c (iU _)
def in3(h:bU X a ta)(d:bU X b tb)(c:behindInMarks .In b=ag:=by with_unfolding_all rfl):bU X (.Compare a [.In] [b] ν) (eR (inF ag) ta tb):=SG vH M8 h d c
def Ml(d:bU X a ta)(c:bU X b tb):uD X (.Compare a [.Lt] [b] ν) (jW (eR ltF ta tb)):=pL VJ oP d c (iU _)
def Mj(d:bU X a ta)(c:bU X b tb):uD X (.Compare a [.Gt] [b] ν) (jW (eR gtF ta tb)):=pL VL oP d c (iU _)
def Mi(d:bU X a ta)(c:bU X b tb):uD X (.Compare a [.GtE] [b] ν) (jW (eR geF ta tb)):=pL Tt oP d c (iU _)
def Tf(d:bU X a ta)(c:bU X b tb):uD X (.Compare a [.Eq] [b] ν) (jW (eR SH ta tb)):=pL VI M7 d c (iU _)
def Sy(d:bU X a ta)(c:bU X b tb):uD X (.Compare a [.NotEq] [b] ν) (jW (eR Y4 ta tb)):=pL Tv Y5 d c (iU _)
def Mf(h:bU X a ta)(d:bU X b tb)(c:behindInMarks .In b=ag:=by with_unfolding_all rfl):uD X (.Compare a [.In] [b] ν) (jW (eR (inF ag) ta tb)):=pL vH M8 h d c
def Sx(h:bU X a ta)(d:bU X b tb)(c:behindInMarks .NotIn b=ag:=by with_unfolding_all rfl):uD X (.Compare a [.NotIn] [b] ν) (jW (eR (inF ae) ta tb)):=pL x5 M8 h d c
end
noncomputable def isD:D->Bool
 |.non=>ae
 |_=>ag
def SI:F2:=λx y Q=>isD y=ae/\Q (.bl (isD x))
def M9{K:ao}:O3 K (λx y H Q=>y=.non/\Q (.bl (Zv (x=.non))) H) SI:=by
 intro S H x y m l Q3 Q n c d h k;obtain⟨j,h2⟩:=h;cases l<;>try show Zw (show ag=ae from j) b_
 symm at d;show⟨d,k _ H _ (ξ.refl H) ?_ h2⟩;cases m<;>symm at c ⊢
 all_goals first
  | (subst c;simp[isD])
  | (obtain⟨a,xs,rfl,_⟩:=c;simp[isD])
  | (obtain⟨a,_,xs,rfl,_⟩:=c;simp[isD])
  | (obtain⟨a,rfl,_⟩:=c;simp[isD])
def Sw(d:bU X a ta)(c:bU X b tb):uD X (.Compare a [.Is] [b] ν) (jW (eR SI ta tb)):=pL LW M9 d c (iU _)
def Me(d:bU X a ta)(c:bU X b tb):bU X (.Compare a [.Is] [b] ν) (eR SI ta tb):=SG LW M9 d c (iU _)
def Su(t:WT):WT:=λρ Q=>t ρ λb=>Q (!b)
def Ss(t u:WT):WT:=λρ Q=>t ρ λb=>if b=ae then u ρ Q else Q ag
def Md(t u:WT):WT:=λρ Q=>t ρ λb=>if b=ae then Q ae else u ρ Q
def J4(X:Cx)(e:av)(t:WT):Prop:=PW X e (liftT X.K t)
def Y6(h:PW X e t)(f:∀σ H Q,t' σ H Q->t σ H Q):PW X e t':=λa π s σ H Q I q=>h a π s σ H Q I (f σ H Q q)
section
variable{a b:av}{Θ:List av}{ν:bq}{ta tb:WT}
def J4.pt(h:J4 X e t):uD X e t:=PW.pt h
def Sr(j:uD X a ta):uD X (.UnaryOp .Not a ν) (Su ta):=MY (X3 j) λσ H Q m=>by obtain⟨S,ρ,Q3,l,c,h,k⟩:=m;show⟨S,ρ,_,l,c,h,λb H1 d q1=>k (!b) H1 d q1⟩
def Mb(c:uD X a ta):J4 X (.BoolOp .And [a] ν) ta:=RP c
def or1(c:uD X a ta):J4 X (.BoolOp .Or [a] ν) ta:=X1 c
theorem Sq(o:uD X a ta)(n:J4 X (.BoolOp .And (b::Θ) ν) tb):J4 X (.BoolOp .And (a::b::Θ) ν) (Ss ta tb):=Y6 (X2 o n) λσ H Q q=>by
 obtain⟨S,ρ,Q3,j,h,m,k⟩:=q;show⟨S,ρ,_,j,h,m,λc H1 d q1=>?_⟩
 cases c with
 |true=>rw[Z_ rfl] at q1 ⊢;show⟨S,ρ,Q3,aU j d,Sl.fits (.same d) h,q1,λp u l q2=>k p u (d.trans l) q2⟩
 |false=>rw[Zz b_] at q1 ⊢;show k ag H1 d q1
theorem L_(o:uD X a ta)(n:J4 X (.BoolOp .Or (b::Θ) ν) tb):J4 X (.BoolOp .Or (a::b::Θ) ν) (Md ta tb):=Y6 (T_ o n) λσ H Q q=>by
 obtain⟨S,ρ,Q3,j,h,m,k⟩:=q;show⟨S,ρ,_,j,h,m,λc H1 d q1=>?_⟩
 cases c with
 |false=>rw[Zz b_] at q1 ⊢;show⟨S,ρ,Q3,aU j d,Sl.fits (.same d) h,q1,λp u l q2=>k p u (d.trans l) q2⟩
 |true=>rw[Z_ rfl] at q1 ⊢;show k ae H1 d q1
end
noncomputable def Ly(c a:WE):WE:=λρ Q=>c ρ λx=>match x with
 |.bl ae=>a ρ Q
 |.bl ag=>Q (.bl ag)
 |_=>False
noncomputable def Fb(c a:WE):WE:=λρ Q=>c ρ λx=>match x with
 |.bl ae=>Q (.bl ae)
 |.bl ag=>a ρ Q
 |_=>False
noncomputable def Lx(a:WE):WE:=λρ Q=>a ρ λx=>match x with
 |.bl b=>Q (.bl (!b))
 |_=>False
section
variable{a b c:av}{Θ:List av}{ν:bq}{ta tb:WE}{tc:WT}
def Lw{op}(d:bU X a ta):bU X (.BoolOp op [a] ν) ta:=X4 d
theorem Lv(u:bU X a ta)(q:bU X (.BoolOp .And (b::Θ) ν) tb):bU X (.BoolOp .And (a::b::Θ) ν) (Ly ta tb):=imp (X5 u q) λσ H Q y=>by
 obtain⟨S,ρ,Q3,l,j,p,k⟩:=y;show⟨S,ρ,_,l,j,p,λv H1 d h m q1=>?_⟩
 cases d with
 |bl c =>
  symm at m;show⟨c,m,?_⟩
  cases c with
  |true=>rw[Z_ rfl];show⟨S,ρ,Q3,aU l h,Sl.fits (.same h) j,q1,λn z d' o x q2=>k n z d' (h.trans o) x q2⟩
  |false=>rw[Zz b_];show k _ H1 (.bl ag) h (by symm) q1
 |_=>show q1.elim
theorem or3(u:bU X a ta)(q:bU X (.BoolOp .Or (b::Θ) ν) tb):bU X (.BoolOp .Or (a::b::Θ) ν) (Fb ta tb):=imp (Tx u q) λσ H Q y=>by
 obtain⟨S,ρ,Q3,l,j,p,k⟩:=y;show⟨S,ρ,_,l,j,p,λv H1 d h m q1=>?_⟩
 cases d with
 |bl c =>
  symm at m;show⟨c,m,?_⟩
  cases c with
  |false=>rw[Zz b_];show⟨S,ρ,Q3,aU l h,Sl.fits (.same h) j,q1,λn z d' o x q2=>k n z d' (h.trans o) x q2⟩
  |true=>rw[Z_ rfl];show k _ H1 (.bl ae) h (by symm) q1
 |_=>show q1.elim
theorem Lp(n:bU X a ta):bU X (.UnaryOp .Not a ν) (Lx ta):=imp (X6 n) λσ H Q p=>by
 obtain⟨S,ρ,Q3,o,j,m,k⟩:=p;show⟨S,ρ,_,o,j,m,λv H1 d l h q1=>?_⟩
 cases d with
 |bl c=>symm at h;show⟨c,h,k _ H1 (.bl (!c)) l (by symm) q1⟩
 |_=>show q1.elim
noncomputable def Ln(ta:WE):WE:=λρ Q=>ta ρ λx=>match x with
 |.int i=>Q (.int (-i))
 |_=>False
theorem Lm(n:bU X a ta):bU X (.UnaryOp .USub a ν) (Ln ta):=imp (Tw YJ n) λσ H Q p=>by
 obtain⟨S,ρ,Q3,o,j,m,k⟩:=p;show⟨S,ρ,_,o,j,m,λv H1 d l h q1=>?_⟩
 cases d with
 |int i=>symm at h;show⟨i,h,k _ H1 (.int (-i)) l (by symm) q1⟩
 |_=>show q1.elim
end
noncomputable def C9(f g:F2)(d c a:WE):WE:=λρ Q=>d ρ λx=>c ρ λy=>f x y λz=>match z with
 |.bl ae=>a ρ λu=>g y u Q
 |.bl ag=>Q (.bl ag)
 |_=>False
theorem DA{K:ao}{r A:R2}{f g:F2}{y x q:WE}{σ:L2.St}{H:Hp}{Q:VK}(Y:O3 K r f)(h2:O3 K A g)(h:lift K (C9 f g y x q) σ H Q):LX r A (lift K y) (lift K x) (lift K q) σ H Q:=by
 obtain⟨S,ρ,Q3,l,n,U,k⟩:=h;show⟨S,ρ,_,l,n,U,λv H1 d a d1 q1=>?_⟩;show⟨S,ρ,_,aU l a,Sl.fits (.same a) n,q1,λu H2 e j e1 q2=>?_⟩;show Y S H2 v u d e _ _ (aU l (a.trans j)) (Dn.fits (.same j) _ _ d1) e1 q2 λz H3 Z s3 m o=>?_
 cases Z with
 |bl c =>
  symm at m;show⟨c,m,?_⟩
  cases c with
  |false=>rw[Zz b_];show k _ H3 (.bl ag) ((a.trans j).trans s3) (by symm) o
  |true =>
   rw[Z_ rfl];show⟨S,ρ,_,aU l ((a.trans j).trans s3),Sl.fits (.same ((a.trans j).trans s3)) n,o,λF H4 dw s4 p O=>?_⟩;show h2 S H4 u F e dw Q3 Q (aU l (((a.trans j).trans s3).trans s4)) (Dn.fits (.same (s3.trans s4)) _ _ e1) p O λI H5 d' J d5 L=>k I H5 d' ((((a.trans j).trans s3).trans s4).trans J) d5 L
 |_=>show o.elim
theorem Y8(ho:gF X (compareOp op) r)(d:gF X (compareOp op') r')(n:O3 X.K r f)(h2:O3 X.K r' g)(m:bU X a ta)(l:bU X b tb)(j:bU X c tc)
  (h:lastMarks [op,op'] [b,c]=ag:=by with_unfolding_all rfl):bU X (.Compare a [op,op'] [b,c] ν) (C9 f g ta tb tc):=imp (LY ho d m l j h) λ_ _ _=>DA n h2
noncomputable def ixF:F2
 |.lst ds,.int i,Q=>(match p7 ds i with|some d=>Q d|none=>False)
 |.tup ds,.int i,Q=>(match p7 ds i with|some d=>Q d|none=>False)
 |.kR ns,.int i,Q=>(match p7 ns i with|some n=>Q (.int n)|none=>False)
 |_,_,_=>False
theorem aH.at{K:ao}{S:ah->Prop}{H:Hp}{ds:List D}{xs:List V}{i:Int}{d:D}(h:aH K S H ds xs)(e:p7 ds i=aa d):∃v,p7 xs i=aa v/\Dn K S H d v:=by
 unfold p7 at e ⊢;rw[<- h.len]
 cases q:R3 ds.length i with
 |none=>rw[q] at e;cases e
 |some j =>
  rw[q] at e;obtain⟨v,e1,dn⟩:=h.get (i:=j) (d:=d) e;show⟨v,e1,dn⟩
theorem SJ{α a:Type}(f:α->a)(xs:List α)(i:Int):p7 (xs.map f) i=(p7 xs i).map f:=by
 unfold p7;rw[bo]
 cases R3 xs.length i with
 |none=>rfl
 |some j=>simp
theorem So{K:ao}:O3 K (λx y H Q=>Ar K x y H Q\/Aq K x y H Q) ixF:=by
 intro S H x y q m Q3 Q z j h c k
 cases q with
 |lst ds =>
  cases m with
  |int i =>
   symm at j h;obtain⟨a,xs,rfl,l,u,p⟩:=j;have c:(match p7 ds i with|some d=>Q3 d|none=>False):=c
   cases e:p7 ds i with
   |none=>rw[e] at c;show c.elim
   |some d =>
    rw[e] at c;obtain⟨v,e1,o⟩:=p.at e;show .inl ⟨a,xs,i,v,rfl,h,dS.of l,e1,k v H d (ξ.refl H) o c⟩
  |_=>show c.elim
 |tup ds =>
  cases m with
  |int i =>
   symm at j h;obtain⟨a,xs,rfl,l,p⟩:=j;have c:(match p7 ds i with|some d=>Q3 d|none=>False):=c
   cases e:p7 ds i with
   |none=>rw[e] at c;show c.elim
   |some d =>
    rw[e] at c;obtain⟨v,e1,o⟩:=p.at e;show .inr ⟨a,xs,i,v,rfl,h,(dZ.of l),e1,k v H d (ξ.refl H) o c⟩
  |_=>show c.elim
 |kR ns =>
  cases m with
  |int i =>
   symm at j h;obtain⟨a,rfl,l⟩:=j;have c:(match p7 ns i with|some n=>Q3 (.int n)|none=>False):=c
   cases e:p7 ns i with
   |none=>rw[e] at c;show c.elim
   |some n =>
    rw[e] at c;show .inl ⟨a,_,i,.int n,rfl,h,l.sq,by rw[SJ,e];rfl,k _ H (.int n) (ξ.refl H) (by symm) c⟩
  |_=>show c.elim
 |_=>cases m<;>show c.elim
def ix3(h:bU X a ta)(d:bU X b tb)(c:xX b:=by intro _ _;rfl):bU X (.Subscript a b ν) (eR ixF ta tb) :=
 imp (Tq (R4.or YU) h d c) λ_ _ _=>m6 So
abbrev F1:=List D->(D->Prop)->Prop
def IE(f:F1)(t:WA):WE:=λρ Q=>t ρ λds=>f ds Q
def C3(K:ao)(r:List V->Hp->VK->Prop)(f:F1):Prop:=∀(S:ah->Prop) (H:Hp) (xs:List V) (ds:List D) (Q3:D->Prop) (Q:VK),(∀a,H a=af->S a)->aH K S H ds xs->f ds Q3 ->
 (∀v H' d,ξ H H'->Dn K S H' d v->Q3 d->Q v H')->r xs H Q
def C3F(K:ao)(r:List V->Hp->VK->Prop)(f:F1):Prop:=∀(S:ah->Prop) (H:Hp) (xs:List V) (ds:List D) (Q3:D->Prop) (Q:VK),(∀a,H a=af->S a)->aH K S H ds xs->f ds Q3 ->
 (∀p ys H' c,H p=af->H' p=aa (.lst ys)->ξ H H'->aH K (λa=>S a/\a≠p) H' c ys->Q3 (.lst c)->Q (.ref p) H')->r xs H Q
def FU{K:ao}{r:List V->Hp->VK->Prop}{f:F1}{t:WA}{σ:L2.St}{H:Hp}{Q:VK}(n:C3 K r f)(h:lift K (IE f t) σ H Q):sx r (MW K t) σ H Q:=by obtain⟨S,ρ,Q3,c,j,m,k⟩:=h;show⟨S,ρ,_,c,j,m,λvs H1 ds a o q1=>?_⟩;show n S H1 vs ds Q3 Q (aU c a) o q1 λv H' d s' d' l=>k v H' d (a.trans s') d' l
def AH{K:ao}{r:List V->Hp->VK->Prop}{f:F1}{t:WA}{σ:L2.St}{H:Hp}{Q:VK}(o:C3F K r f)(h:MX K (IE f t) σ H Q):sx r (MW K t) σ H Q:=by obtain⟨S,ρ,Q3,d,j,m,k⟩:=h;show⟨S,ρ,_,d,j,m,λvs H1 ds a u q1=>?_⟩;show o S H1 vs ds Q3 Q (aU d a) u q1 λp ys H' q n c s' d' l=>k p ys H' q (a.free n) c (a.trans s') d' l
def yE{x:aj}{p h:bq}{e:av}{a:List av}{t:WA}{id:String}{r:List V->Hp->VK->Prop}{f:F1}(q:d4 X (.builtin id) r)(v:C3 X.K r f)(j:bootBuiltins x=aa (.builtin id))(n:Gl X x)(m:X.mg x=af)(u:uE X (e::a) t)(l:x ≠ "__name__":=by decide)(d:Zu x:=by decide)
  (o:Zr X e a:=by rfl) (c:Q0l X h a:=by rfl):bU X (.Call (.Name x p) (e::a) [] h) (IE f t) :=
 imp (gH q n m j u l d o c) λ_ _ _=>FU v
def yF{x:aj}{p h:bq}{e:av}{a:List av}{t:WA}{id:String}{r:List V->Hp->VK->Prop}{f:F1}(q:d4 X (.builtin id) r)(v:C3F X.K r f)(j:bootBuiltins x=aa (.builtin id))(n:Gl X x)(m:X.mg x=af)(u:uE X (e::a) t)(l:x ≠ "__name__":=by decide)(d:Zu x:=by decide)
  (o:Zr X e a:=by rfl) (c:Q0l X h a:=by rfl):AE X (.Call (.Name x p) (e::a) [] h) (IE f t) :=
 imp (gH q n m j u l d o c) λ_ _ _=>AH v
def SK(n:d4 X (.type T) r)(q:C3 X.K r f)(d:bootBuiltins x=aa (.type T))(l:Gl X x)(j:X.mg x=af)(o:uE X (e::es) t)(h:x ≠ "__name__":=by decide)(c:Zu x:=by decide)
  (m:Zr X e es:=by rfl) (a:Q0l X ν es:=by rfl):bU X (.Call (.Name x p) (e::es) [] ν) (IE f t) :=
 imp (oN n l j d o h c m a) λ_ _ _=>FU q
theorem NA(n:d4 X (.type T) r)(q:C3F X.K r f)(d:bootBuiltins x=aa (.type T))(l:Gl X x)(j:X.mg x=af)(o:uE X (e::es) t)(h:x ≠ "__name__":=by decide)(c:Zu x:=by decide)
  (m:Zr X e es:=by rfl) (a:Q0l X ν es:=by rfl):AE X (.Call (.Name x p) (e::es) [] ν) (IE f t) :=
 imp (oN n l j d o h c m a) λ_ _ _=>AH q
noncomputable def yG:F1
 |[.lst ds],Q=>Q (.int ds.length)
 |[.tup ds],Q=>Q (.int ds.length)
 |[.kR ns],Q=>Q (.int ns.length)
 |_,_=>False
theorem Y9{K:ao}:C3 K (λxs H Q=>∃p ys,xs=[.ref p]/\(dS K H p ys\/dZ K H p ys)/\Q (.int ys.length) H) yG:=by
 intro S H xs ds Q3 Q n j d k
 match ds,d with
 |[.lst es],d =>
  obtain⟨v,r,rfl,c,h2⟩:=j.aX;simp only[aH] at h2;subst h2;symm at c;obtain⟨a,ys,rfl,h,m,l⟩:=c;show⟨a,ys,rfl,.inl (dS.of h),k _ H _ (ξ.refl H) (by symm;rw[l.len]) d⟩
 |[.tup es],d =>
  obtain⟨v,r,rfl,c,h2⟩:=j.aX;simp only[aH] at h2;subst h2;symm at c;obtain⟨a,ys,rfl,h,l⟩:=c;show⟨a,ys,rfl,.inr (dZ.of h),k _ H _ (ξ.refl H) (by symm;rw[l.len]) d⟩
 |[.kR ns],d =>
  obtain⟨v,r,rfl,c,h2⟩:=j.aX;simp only[aH] at h2;subst h2;symm at c;obtain⟨a,rfl,h⟩:=c;show⟨a,_,rfl,.inl h.sq,k _ H _ (ξ.refl H) (by symm;rw[bo]) d⟩
theorem Lj(a:X.mg "len"=af)(h:uE X [e] t)(c:Gl X "len":=by rfl)
  (d:Zr X e []:=by rfl):bU X (.Call (.Name "len" p) [e] [] ν) (IE yG t):=yE x6 Y9 PySem.boot_len c a h (by decide) (by decide) d (by rfl)
noncomputable def DB:F1
 |[.lst ds],Q=>Q (.tup ds)
 |[.tup ds],Q=>Q (.tup ds)
 |_,_=>False
theorem NB{K:ao}:C3 K (λxs H Q=>∃p ys,xs=[.ref p]/\((dS K H p ys /\∀l,H l=af->Q (.ref l) (upd H l (.tup ys)))\/(dZ K H p ys/\Q (.ref p) H))) DB:=by
 intro S H xs ds Q3 Q u n d k
 match ds,d with
 |[.lst es],d =>
  obtain⟨v,r,rfl,c,h2⟩:=n.aX;simp only[aH] at h2;subst h2;symm at c;obtain⟨a,ys,rfl,h,q,o⟩:=c;show⟨a,ys,rfl,.inl ⟨dS.of h,λl m=>k _ _ _ (aG m) ?_ d⟩⟩;symm;show⟨l,ys,rfl,aI,aH.fits (.same (aG m)) _ _ o⟩
 |[.tup es],d =>
  obtain⟨v,r,rfl,c,h2⟩:=n.aX;simp only[aH] at h2;subst h2;have j:=c;symm at c;obtain⟨a,ys,rfl,h,o⟩:=c;show⟨a,ys,rfl,.inr ⟨(dZ.of h),k _ H _ (ξ.refl H) j d⟩⟩
theorem ZA(c:X.mg "tuple"=af)(a:bootBuiltins "tuple"=aa (.type "tuple"))(j:uE X [e] t)(d:Gl X "tuple":=by rfl)
  (h:Zr X e []:=by rfl):bU X (.Call (.Name "tuple" p) [e] [] ν) (IE DB t):=SK uB NB a d c j (by decide) (by decide) h (by rfl)
noncomputable def NC:F1
 |[.lst ds],Q=>Q (.lst ds)
 |[.tup ds],Q=>Q (.lst ds)
 |_,_=>False
theorem SM{K:ao}:C3F K (λxs H Q=>∃p ys,xs=[.ref p]/\(dS K H p ys\/dZ K H p ys) /\∀l,H l=af->Q (.ref l) (upd H l (.lst ys))) NC:=by
 intro S H xs ds Q3 Q q n d k
 match ds,d with
 |[.lst es],d =>
  obtain⟨v,r,rfl,h,h2⟩:=n.aX;simp only[aH] at h2;subst h2;symm at h;obtain⟨a,ys,rfl,j,o,m⟩:=h;show⟨a,ys,rfl,.inl (dS.of j),λl c=>k l ys _ es c aI (aG c) (aH.fits ((Fits.fresh c).trans (.same (aG c))) _ _ m) d⟩
 |[.tup es],d =>
  obtain⟨v,r,rfl,h,h2⟩:=n.aX;simp only[aH] at h2;subst h2;symm at h;obtain⟨a,ys,rfl,j,m⟩:=h;show⟨a,ys,rfl,.inr (dZ.of j),λl c=>k l ys _ es c aI (aG c) (aH.fits ((Fits.fresh c).trans (.same (aG c))) _ _ m) d⟩
def Sn(c:X.mg "list"=af)(a:bootBuiltins "list"=aa (.type "list"))(j:uE X [e] t)(d:Gl X "list":=by rfl)
  (h:Zr X e []:=by rfl):AE X (.Call (.Name "list" p) [e] [] ν) (IE NC t):=NA x8 SM a d c j (by decide) (by decide) h (by rfl)
abbrev Spec:=List D->(D->Prop)->Prop
def sp3(K:ao)(R:Spec):Sp:=λvs H Q _=>∃(S:ah->Prop) (ds:List D) (Q3:D->Prop),(∀a,H a=af->S a)/\aH K S H ds vs/\R ds Q3 /\∀v H' d,ξ H H'->Dn K S H' d v->Q3 d->Q v H'
theorem Sm(F:hJ X.Ω X.w X.K X.mg X.ω gI k f fd ps (sp3 X.K R))(o:cZ k X.A)(q:X.mg x=aa (.ref f))(u:keepIn X.K (.ref f)=ae)(I:Binds X.K fd ps [])
  (J:uE X (e::es) t) (y:Gl X x:=by rfl) (c:Zu x:=by decide) (z:Zr X e es:=by rfl) (a:Q0l X ν es:=by rfl):
  bU X (.Call (.Name x p) (e::es) [] ν) (IE R t):=imp (mX F o y q u I .nil MN J c z a) λσ H Q O=>by
 obtain⟨S,ρ,Q3,j,l,n,k⟩:=O;show⟨S,ρ,_,j,l,n,λvs H1 ds h L q1=>?_⟩;show sp3 X.K R (vs++[]) H1 Q E0;rw[ip];show⟨S,ds,Q3,aU j h,L,q1,λv H' d s' d' m=>k v H' d (h.trans s') d' m⟩
end
structure DE where
 nx:aW->Prop
 rt:D->Prop
 bk:aW->Prop:=λ_=>False
 ct:aW->Prop:=λ_=>False
 ex:aj->Prop:=λ_=>False
abbrev WS:=DE->aW->Prop
structure lQ (X:Cx) (π:Q0b) (H:Hp) (s:ak) (e:ah) (cls a0:ai) (P:List ah):Prop where
 mem:e∈P
 free:∀q∈P,H q=af
 new:∀q∈P,X.s₀.heap.get? q=af
 fld:∀q∈P,∃o vs,s.heap.get? q=aa o/\o.data=.fields vs
 pin:∀q∈P,∀p∈X.pn++π,p.1≠q
 tr:(∃oe vs,s.heap.get? e=aa oe/\oe.cls=cls/\oe.data=.fields vs/\vs[1]?=aa .none/\vs[0]?=aa a0) \/
  (∃oe vs T oT ts,s.heap.get? e=aa oe/\(oe.cls=cls/\vs[0]?=aa a0)/\oe.data=.fields vs/\vs[1]?=aa (.ref T)/\T∈P/\T≠e/\s.heap.get? T=aa oT/\oT.data=.fields ts/\ts[3]?=aa .none)
def XC(X:Cx)(c:aj)(H:Hp):Prop:=∃C:ah,X.mg c=aa (.ref C) /\∀(π:Q0b) (σ:L2.St) (s:ak) (e:ah) (a:ai) (P:List ah),Φ X π σ H s->lQ X π H s e (.ref C) a P->X.xe (.ref e) s
structure ND (K:ao) (xc:aj->Hp->Prop) (n:Nat) (H₀:Hp) (S:ah->Prop) (G:List (D×V)) (E:DE) (B:Ends):Prop where
 nx:∀w σ H ρ,σ.length=n->ST K H₀ S w σ H ρ G->E.nx ρ->B.nx σ H
 rt:∀v H d,ξ H₀ H->Dn K S H d v->E.rt d->B.rt v H
 bk:∀w σ H ρ,σ.length=n->ST K H₀ S w σ H ρ G->E.bk ρ->B.bk σ H
 ct:∀w σ H ρ,σ.length=n->ST K H₀ S w σ H ρ G->E.ct ρ->B.ct σ H
 ex:∀c H,ξ H₀ H->E.ex c->xc c H
def m7(K:ao)(xc:aj->Hp->Prop)(n:Nat)(t:WS):TS:=λB σ H=>∃(H₀:Hp) (S:ah->Prop) (w:Nat->ah) (ρ:aW) (G:List (D×V)) (E:DE),σ.length=n/\ST K H₀ S w σ H ρ G/\t E ρ/\ND K xc n H₀ S G E B
def DC(X:Cx)(st:cn)(t:WS):Prop:=PS X st (m7 X.K (XC X) X.N.length t)
def sO(X:Cx)(st:List cn)(t:WS):Prop:=tS X st (m7 X.K (XC X) X.N.length t)
section
variable{X:Cx}
def jX{e:cn}{t t':TS}(h:PS X e t)(f:∀B σ H,t' B σ H->t B σ H):PS X e t':=λπ s σ H B I q=>h π s σ H B I (f B σ H q)
def AI(h:tS X e t)(f:∀B σ H,t' B σ H->t B σ H):tS X e t':=λπ s σ H B I q=>h π s σ H B I (f B σ H q)
def Sk:WS:=λE ρ=>E.nx ρ
def ZC(t u:WS):WS:=λE ρ=>t {E with nx:=u E} ρ
def Kz:sO X [] Sk:=AI FD λB σ H d=>by obtain⟨H₀,S,w,ρ,G,E,c,st,a,ok⟩:=d;show ok.nx w σ H ρ c st a
def Kx{st:cn}{d:List cn}{t u:WS}(o:DC X st t)(h2:sO X d u):sO X (st::d) (ZC t u):=AI (sD o h2) λB σ H p=>by obtain⟨H₀,S,w,ρ,G,E,n,l,m,ok⟩:=p;show⟨H₀,S,w,ρ,G,{E with nx:=u E},n,l,m,⟨λj h H' ρ' c a q=>⟨H₀,S,j,ρ',G,E,c,a,q,ok⟩,ok.rt,ok.bk,ok.ct,ok.ex⟩⟩
def Sj{st:cn}{t:WS}(a:DC X st t):sO X [st] t:=AI (FE a) λ_ _ _ h=>h
def Kv(t:WE):WS:=λE ρ=>t (bA ρ) E.rt
def Ku(h:bU X e t):DC X (.Return (aa e) ν) (Kv t):=jX (LP h) λB σ H j=>by obtain⟨H₀,S,w,ρ,G,E,l,st,c,ok⟩:=j;show⟨S,bA ρ,E.rt,st.MV,st.all,c,λv H' d s' d' a=>ok.rt v H' d (st.sm.trans s') d' a⟩
def Ks(c:WT)(t u:WS):WS:=λE ρ=>c (bA ρ) λb=>if b=ae then t E ρ else u E ρ
theorem Kr(m:uD X c tc)(o:sO X a t)(n:sO X b u):DC X (.If c a b ν) (Ks tc t u):=jX (Uo m o n) λB σ H p=>by
 obtain⟨H₀,S,w,ρ,G,E,j,st,l,ok⟩:=p;show⟨S,bA ρ,_,st.MV,st.all,l,λd H1 h q1=>?_⟩
 cases d with
 |true=>rw[Z_ rfl] at q1 ⊢;show⟨H₀,S,w,ρ,G,E,j,st.same h,q1,ok⟩
 |false=>rw[Zz b_] at q1 ⊢;show⟨H₀,S,w,ρ,G,E,j,st.same h,q1,ok⟩
def ZD(i:Nat)(t:WE):WS:=λE ρ=>t (fG ρ) λd=>E.nx (ρ.set i (.ro d))
def Ko(i:Nat)(t:WE):WS:=λE ρ=>t (fG ρ) λd=>E.nx (ρ.set i (.ow d))
section
variable{i:Nat}{x:aj}{e:av}{t:WE}{ν pos':bq}
def gJ{N:Q0g}{i:Nat}{x:aj}(h:N[i]?=aa x):i<N.length:=(dh.mp h).1
def Kn(hN:X.N.Nodup)(o:bU X e t)(c:X.N[i]?=aa x:=by rfl)(j:Loc X.env.scope x:=by walk_at "0")(m:Si X e x pos' ν:=by rfl)(n:Zq X x:=by walk_at "0"):
  DC X (.Assign [.Name x pos'] e ν) (ZD i t):=jX (oM hN c j o m n) λB σ H p=>by
 obtain⟨H₀,S,w,ρ,G,E,a,st,l,ok⟩:=p;show⟨_,fG ρ,_,st.FR,st.rd,l,λv H' d s' d' h=>ok.nx w _ H' _ (by rw[gy];show a) ((st.same s').iX (by rw[a];show gJ c) d') h⟩
def Kl(hN:X.N.Nodup)(u:AE X e t)(h:X.N[i]?=aa x:=by rfl)(l:Loc X.env.scope x:=by walk_at "0")(n:Si X e x pos' ν:=by rfl)(q:Zq X x:=by walk_at "0"):
  DC X (.Assign [.Name x pos'] e ν) (Ko i t):=jX (oM hN h l u n q) λB σ H v=>by
 obtain⟨H₀,S,w,ρ,G,E,c,st,m,ok⟩:=v;show⟨_,fG ρ,_,st.FR,st.rd,m,λp xs H' ds o a s' d' j=>ok.nx _ _ H' _ (by rw[gy];show c) (st.C7 (d:=.lst ds) (by rw[c];show gJ h) s' o ⟨xs,a,d'⟩) j⟩
end
def eX(N:Q0g)(ds:List D):aW:=ds.map Sv.ro++cp (N.length-ds.length) Sv.no
def m8{K:ao}{H:Hp}{S:ah->Prop}{N:Q0g}{ds:List D}{vs:List V}(p:∀a,H a=af->S a)(h:aH K S H ds vs):ST K H S (λ_=>0) (L2.start N vs) H (eX N ds) []:=by
 have no:∀(i:Nat) (d:D),(eX N ds)[i]?≠aa (Sv.ow d):=λi d e=>by
  unfold eX at e;by_cases c:i<ds.length
  .rw [j_ (by simpa using c),ft] at e
   cases q:ds[i]? with
   |none=>rw[q] at e;cases e
   |some a=>rw[q] at e;cases e
  .rw [jz (by simpa using c),jr] at e;split at e<;>cases e
 have l:∀a,S a->SO S (λ_=>0) (eX N ds) a:=λa s=>⟨s,λi d e=>Zw e (no i d)⟩;show⟨p,ξ.refl H,λi d e=>Zw e (no i d),λi j d e o=>Zw o (no i d),λi d e=>?_,λg n=>(nomatch n),λi _ e=>Zw e (no i _)⟩;unfold eX at e;by_cases c:i<ds.length
 .rw [j_ (by simpa using c),ft] at e
  cases q:ds[i]? with
  |none=>rw[q] at e;cases e
  |some a =>
   rw[q] at e;cases e;obtain⟨v,e1,u⟩:=h.get q;show⟨v,?_,Dn.fits (.mono l) _ _ u⟩;unfold L2.start;have m:i<vs.length:=(dh.mp e1).1;rw[j_ (by simpa using m),ft,e1];rfl
 .rw [jz (by simpa using c),jr] at e;split at e<;>cases e
theorem Kj{P:bg}{w:a_}{K:ao}{mg:Q0d}{ω:ba}{x qual:aj}{st:cn}{f:ah}{fd:gc}{N j:Q0g}{k:Nat}{R:Spec}(F:MO K x qual st f fd)(S:cH N j (aF st))(len:∀ds Q,R ds Q->ds.length=j.length)
  (c:∀(a:ai) (A:br) (Γ:List df) (s:ak) (H:Hp) (E:XK),cZ k (A.deeper (envOfC qual (aF st) s.heap.objs.size f a)) ->
   ∃t:WS,sO (eQ gI P w K mg ω N qual (aF st) f a A Γ s H E).CN (bV st) t /\∀ds Q,R ds Q->t {nx:=λ_=>Q .non,rt:=Q} (eX N ds)):hJ P w K mg ω gI (k+1) f fd j (sp3 K R):=by
 show F.ok S (λvs H Q E h=>?_) λa A Γ s H vs Q E u h=>?_
 .obtain ⟨S',ds,Q3,n,dn,r,_⟩:=h;rw[<- dn.len];show len ds Q3 r
 .obtain ⟨t,p,y⟩:=c a A Γ s H E u;obtain⟨S',ds,Q3,n,dn,r,m⟩:=h;show⟨_,p,H,S',λ_=>0,eX N ds,[],{nx:=λ_=>Q3 .non,rt:=Q3},?_,m8 n dn,y ds Q3 r,⟨λI o H' ρ' _ l q=>?_,λv H' d s' d' q=>m v H' d s' d' q,λ_ _ _ _ _ _ q=>q,λ_ _ _ _ _ _ q=>q,λ_ _ _ q=>q.elim⟩⟩
  .have L:=len ds Q3 r;have z:=dn.len;have J:j.length<=N.length:=by have:=congrArg pz S.pre;rw[ij] at this;lia
   unfold L2.start;show _=N.length;rw[dm,bo,je];lia
  .exact m .non H' .non l.sm (by symm) q
end
abbrev WX:=aW->(aW->D->Prop)->Prop
def FV(K:ao)(n:Nat)(t:WX):TE:=λσ H Q=>∃(H₀:Hp) (S:ah->Prop) (w:Nat->ah) (ρ:aW) (G:List (D×V)) (Q3:aW->D->Prop),σ.length=n/\ST K H₀ S w σ H ρ G/\t ρ Q3 /\
 ∀a v H' ρ' d,ST K H₀ S a σ H' ρ' G->Dn K (SO S a ρ') H' d v->Q3 ρ' d->Q v H'
def DD(X:Cx)(e:av)(t:WX):Prop:=PE X e (FV X.K X.N.length t)
def Sg(t:WE):WX:=λρ Q=>t (bA ρ) λd=>d.wQ=ae/\Q ρ d
def ZE(t:WE):WX:=λρ Q=>t (fG ρ) λd=>Q ρ d
section
variable{X:Cx}
def px3(h:bU X e t):DD X e (Sg t):=imp h λσ H Q j=>by obtain⟨H₀,S,w,ρ,G,Q3,l,st,c,k⟩:=j;show⟨S,bA ρ,_,st.MV,st.all,c,λv H' d s' d' a=>k w v H' ρ d (st.same s') (Dn.wQ a.1 d') a.2⟩
def Kh(h:bU X e t):DD X e (ZE t):=imp h λσ H Q j=>by obtain⟨H₀,S,w,ρ,G,Q3,l,st,c,k⟩:=j;show⟨_,fG ρ,_,st.FR,st.rd,c,λv H' d s' d' a=>k w v H' ρ d (st.same s') d' a⟩
def Sf(t:WX):WS:=λE ρ=>t ρ λρ' _=>E.nx ρ'
theorem Se(n:DD X e t)(m:gk e af ν.line X.env=pure ag:=by rfl):DC X (.Expr e ν) (Sf t):=jX (FF n m) λB σ H o=>by obtain⟨H₀,S,w,ρ,G,E,c,st,l,ok⟩:=o;show⟨H₀,S,w,ρ,G,_,c,st,l,λh v H' ρ' d a d' j=>ok.nx h _ H' _ c a j⟩
noncomputable def og(i:Nat)(f:List D->D->(List D->D->Prop)->Prop)(t:WX):WX:=λρ Q=>(match ρ[i]? with|some (.ow (.lst _))=>True|_=>False)/\t ρ λρ' d=>match ρ'[i]? with
 |some (.ow (.lst ds))=>f ds d λa r=>Q (ρ'.set i (.ow (.lst a))) r
 |_=>False
def M3(K:ao)(r:V->List V->Hp->VK->Prop)(f:List D->D->(List D->D->Prop)->Prop):Prop:=∀(S:ah->Prop) (H:Hp) (p:ah) (xs:List V) (ds:List D) (y:V) (d:D) (Q3:List D->D->Prop) (Q:VK),
 H p=aa (.lst xs)->aH K S H ds xs->Dn K S H d y->f ds d Q3->(∀ys a v d',aH K S H a ys->Dn K S H d' v->Q3 a d'->Q v (upd H p (.lst ys)))->r (.ref p) [y] H Q
theorem SN{K:ao}{n i:Nat}{r:V->List V->Hp->VK->Prop}{f:List D->D->(List D->D->Prop)->Prop}{t:WX}{σ:L2.St}{H:Hp}{Q:VK}(h3:M3 K r f)(h:FV K n (og i f t) σ H Q):
  vt K "list" r (oK i) (k8 (FV K n t) MA) σ H Q:=by
 obtain⟨H₀,S,w,ρ,G,Q3,Z,st,⟨A,U⟩,k⟩:=h;split at A
 .rename_i ds e;obtain⟨a,b,c⟩:=st.own i _ e;obtain⟨xs,Y,dn⟩:=c;show⟨_,a,.inl ⟨rfl,xs,dS.of Y⟩,H₀,S,w,ρ,G,_,Z,st,U,λl v H' ρ' d m d' u=>?_⟩;split at u
  .rename_i ds' e';obtain⟨a',b',c'⟩:=m.own i _ e';obtain⟨q,o,y⟩:=c';have ew:w i=l i:=by have z:=a.symm.trans a';have I:=ee (ee z);injection I
   rw[ew];show h3 _ H' (l i) q ds' v d _ Q o y d' u λys p J d2 VV x q2=>?_;have O:¬ SO S l ρ' (l i):=λ⟨_,z⟩=>z i _ e' rfl;have F:Fits K (SO S l ρ') (SO S l ρ') H' (upd H' (l i) (.lst ys)):=.upd (.inl ⟨_,o⟩) O;have L:∀a,SO S l ρ' a->SO S l (ρ'.set i (.ow (.lst p))) a:=SO.mono λj f hf=>by
    rcases get_set hf with⟨hj,_,_⟩|⟨_,z⟩
    .subst hj;show⟨_,e'⟩
    .exact ⟨_,z⟩
   show k l J _ _ d2 (m.write (d':=.lst p) e' ⟨ys,aI,aH.fits F _ _ VV⟩) (Dn.fits (F.trans (.mono L)) _ _ x) q2
  .exact u.elim
 .exact A.elim
theorem m1{i:Nat}{x:aj}{id:String}{name:aj}{e:av}{p apos a:bq}{r:V->List V->Hp->VK->Prop}{f:List D->D->(List D->D->Prop)->Prop}{t:WX}(slot:Slot "list" name id)(l:typeOf (.builtin id)=pure (.type "method_descriptor"))(q:MtR X id r)(y:M3 X.K r f)(u:DD X e t)
  (hN:X.N[i]?=aa x:=by rfl) (o:qN X.env.scope x:=by walk_at "1") (v:Zu x:=by decide) (m:Zt x:=by decide)
  (d:attributeBase (.Name x p) name X.env (eval (.Name x p) X.env)=eval (.Name x p) X.env:=by rfl)
  (j:Zp X a e:=by rfl)
  (c:Q0k apos a:=by rfl) (n:Zr X e []:=by rfl):
  DD X (.Call (.Attribute (.Name x p) name apos) [e] [] a) (og i f t) :=
 imp (VP Yp slot l q (gE hN o v m) (b8 u gG n) d j c n (by rfl)) λ_ _ _ h=>SN y h
def ZF:List D->D->(List D->D->Prop)->Prop:=λds d Q=>ds.length<bj/\Q (ds++[d]) .non
theorem ZG{K:ao}:M3 K FO ZF:=by intro S H p xs ds y d Q3 Q c dn h a k;show⟨p,xs,y,rfl,rfl,c,by rw[<- dn.len];show a.1,k _ _ _ _ (dn.append (aH.one h)) (by symm) a.2⟩
noncomputable def ZH:List D->D->(List D->D->Prop)->Prop
 |ds,.int k,Q=>(-(2^63)<=k/\k<2^63)/\(match R3 ds.length k with|some j=>(match ds[j]? with|some d=>Q (ds.eraseIdx j) d|none=>False)|none=>False)
 |_,_,_=>False
theorem ZI{K:ao}:M3 K MI ZH:=by
 intro S H p xs ds y d Q3 Q h dn c a k
 cases d with
 |int i =>
  symm at c;subst c;obtain⟨⟨l,h2⟩,a⟩:=a;split at a
  .rename_i j ej;split at a
   .rename_i dd ed;obtain⟨v,ev,m⟩:=dn.get ed;obtain⟨g1,_⟩:=FL ej;show⟨p,xs,i,j,v,rfl,rfl,h,l,h2,by rw[<- dn.len];show g1,ev,k _ _ _ _ (dn.erase j) m a⟩
   .exact a.elim
  .exact a.elim
 |_=>show a.elim
section
variable{i:Nat}{x:aj}{e:av}{p apos cpos:bq}{t:WX}
def Ke(m:DD X e t)(hN:X.N[i]?=aa x:=by rfl)(j:qN X.env.scope x:=by walk_at "1")(n:Zu x:=by decide)(h:Zt x:=by decide)
  (c:attributeBase (.Name x p) "append" X.env (eval (.Name x p) X.env)=eval (.Name x p) X.env:=by rfl)
  (d:Zp X cpos e:=by rfl)
  (a:Q0k apos cpos:=by rfl) (l:Zr X e []:=by rfl):
  DD X (.Call (.Attribute (.Name x p) "append" apos) [e] [] cpos) (og i ZF t):=m1 Yk PySem.F.type_list_append vK ZG m hN j n h c d a l
def Kd(m:DD X e t)(hN:X.N[i]?=aa x:=by rfl)(j:qN X.env.scope x:=by walk_at "1")(n:Zu x:=by decide)(h:Zt x:=by decide)
  (c:attributeBase (.Name x p) "pop" X.env (eval (.Name x p) X.env)=eval (.Name x p) X.env:=by rfl)
  (d:Zp X cpos e:=by rfl)
  (a:Q0k apos cpos:=by rfl) (l:Zr X e []:=by rfl):
  DD X (.Call (.Attribute (.Name x p) "pop" apos) [e] [] cpos) (og i ZH t):=m1 Yh PySem.F.type_list_pop MJ ZI m hN j n h c d a l
end
end
structure Wlk (K:ao) (J:It) (ds:List D) (G:List (D×V)):Prop where
 go:∀(S:ah->Prop) (H:Hp),(∀a,H a=af->S a)->(∀g∈G,Dn K S H g.1 g.2) ->∀(i:Nat) (d:D),ds[i]?=aa d->J.go i H /\∀x H',J.yld i H x H'->ξ H H'/\Dn K S H' d x
 stop:∀(S:ah->Prop) (H:Hp),(∀g∈G,Dn K S H g.1 g.2) ->∀i:Nat,ds.length=i->J.stop i H
abbrev WI:=bK->(List D->Prop)->Prop
def VW(K:ao)(t:WI):TI:=λσ H R=>∃(S:ah->Prop) (ρ:bK) (Q3:List D->Prop),(∀a,H a=af->S a)/\Sl K S H ρ σ/\t ρ Q3 /\
 ∀J H' ds G,ξ H H'->(∀g∈G,Dn K S H' g.1 g.2)->Wlk K J ds G->Q3 ds->R J H'
def SQ(X:Cx)(a iter:av)(t:WI):Prop:=PI X a iter (VW X.K t)
section
variable{X:Cx}{tg:av}
theorem SR(h:PI X tg e t)(f:∀σ H R,t' σ H R->t σ H R):PI X tg e t':=λπ s σ H R I q=>h π s σ H R I (f σ H R q)
noncomputable def Sb(t:WE):WI:=λρ Q=>t ρ λd=>match d with
 |.lst ds=>Q ds
 |.tup ds=>Q ds
 |_=>False
theorem NF{K:ao}{a:ah}{ds:List D}:Wlk K (Itl K a) ds [(.lst ds,.ref a)] where
 go:=λS H p l i d e=>by have h:=l _ (cg.mpr rfl);symm at h;obtain⟨b,xs,c,j,m,dn⟩:=h;injection c with c;subst c;obtain⟨v,ev,o⟩:=dn.get e;show⟨⟨xs,v,dS.of j,ev⟩,λx H' y=>?_⟩;obtain⟨e1,y⟩:=y;subst e1;have ex:=y xs (dS.of j);rw[ev] at ex;cases ex;show⟨ξ.refl _,o⟩
 stop:=λS H l i n=>by have h:=l _ (cg.mpr rfl);symm at h;obtain⟨b,xs,c,j,m,dn⟩:=h;injection c with c;subst c;show⟨xs,dS.of j,by rw[<- dn.len];show ml n⟩
theorem SS{K:ao}{a:ah}{ds:List D}:Wlk K (Itt K a) ds [(.tup ds,.ref a)] where
 go:=λS H o l i d e=>by have h:=l _ (cg.mpr rfl);symm at h;obtain⟨b,xs,c,j,dn⟩:=h;injection c with c;subst c;obtain⟨v,ev,n⟩:=dn.get e;show⟨⟨xs,v,(dZ.of j),ev⟩,λx H' y=>?_⟩;obtain⟨e1,y⟩:=y;subst e1;have ex:=y xs (dZ.of j);rw[ev] at ex;cases ex;show⟨ξ.refl _,n⟩
 stop:=λS H l i m=>by have h:=l _ (cg.mpr rfl);symm at h;obtain⟨b,xs,c,j,dn⟩:=h;injection c with c;subst c;show⟨xs,(dZ.of j),by rw[<- dn.len];show ml m⟩
def ZJ(z:PE X l tl):PI X tg l (λσ H R=>tl σ H λx H1=>∃a,x=.ref a/\(((∃xs,dS X.K H1 a xs)/\R (Itl X.K a) H1)\/((∃xs,dZ X.K H1 a xs)/\R (Itt X.K a) H1))):=by
 intro π s σ H R I h;show dA (z π s σ H _ I h) λv c A=>?_;obtain⟨x,H1,d,r1,q1⟩:=A;obtain⟨a,e,q⟩:=q1;subst e;cases r1;rcases q with⟨⟨xs,j⟩,q⟩|⟨⟨xs,j⟩,q⟩
 .obtain ⟨n,u,p,y⟩:=d.list j;show wy p.isList ?_;show⟨c.heap.objs.size,[c.heap.objs.size],_,_,H1,rfl,d.kept (t':=c.toks) λb o e=>cx _ e,vB a _,⟨_,fw _ rfl,rfl,rfl⟩,λb m=>?_,q⟩;have e:b=c.heap.objs.size:=by simpa using m
  subst e;show d.xS (bp _) (d.hok.fresh (bp _))
 .obtain ⟨n,u,p,y⟩:=d.tuple j;show wx (show c.heap.IsTuple a n.toArray from p) ?_;show⟨c.heap.objs.size,[c.heap.objs.size],_,_,H1,rfl,d.kept (t':=c.toks) λb o e=>cx _ e,CP a _,⟨_,fw _ rfl,rfl,rfl⟩,λb m=>?_,q⟩;have e:b=c.heap.objs.size:=by simpa using m
  subst e;show d.xS (bp _) (d.hok.fresh (bp _))
theorem Sa(h:bU X l t):SQ X tg l (Sb t):=SR (ZJ h) λσ H R y=>by
 obtain⟨S,ρ,Q3,u,p,q,k⟩:=y;show⟨S,ρ,_,u,p,q,λv H1 d o j q1=>?_⟩
 cases d with
 |lst ds =>
  have c:=j;symm at j;obtain⟨a,xs,rfl,n,z,x⟩:=j;show⟨a,rfl,.inl ⟨⟨xs,dS.of n⟩,k _ H1 ds [(.lst ds,.ref a)] o (λg m=>by cases cg.mp m;show c) NF q1⟩⟩
 |tup ds =>
  have c:=j;symm at j;obtain⟨a,xs,rfl,n,x⟩:=j;show⟨a,rfl,.inr ⟨⟨xs,(dZ.of n)⟩,k _ H1 ds [(.tup ds,.ref a)] o (λg m=>by cases cg.mp m;show c) SS q1⟩⟩
 |_=>show q1.elim
def qA(lo:Int)(n:Nat):List Int:=(cm n).map λk:Nat=>lo+(k:Int)
def pM(lo:Int)(n:Nat):(qA lo n).length=n:=by simp[qA]
def NG{lo:Int}{n i:Nat}:(qA lo n)[i]?=if i<n then aa (lo+(i:Int)) else af:=by
 unfold qA;rw[ft];by_cases h:i<n
 .rw [Z_ h,vd h];rfl
 .rw [Zz h,lp (by simpa using h)];rfl
theorem IF{K:ao}{lo:Int}{n:Nat}:Wlk K (Itr lo n) ((qA lo n).map D.int) [] where
 go:=λS H l c i d e=>by
  rw[ft,NG] at e;by_cases h:i<n
  .rw [Z_ h] at e;cases e;show⟨h,λx H' y=>?_⟩;obtain⟨e1,j⟩:=y;subst e1;show⟨ξ.refl _,by symm;show j⟩
  .rw [Zz h] at e;cases e
 stop:=λS H c i a=>by rw[bo,pM] at a;show ml a
noncomputable def ZK(t:WA):WI:=λρ Q=>t ρ λds=>match ds with
 |[.int j]=>(-(2^62)<=j/\j<2^62)/\Q ((qA 0 j.toNat).map D.int)
 |_=>False
def ZL(o:X.mg "range"=af)(q:uE X [a] t)(c:Gl X "range":=by rfl)(n:ar [a] X.env=[(ag,eval a X.env)]:=by rfl):SQ X tg (.Call (.Name "range" p) [a] [] ν) (ZK t) :=
 SR (HL c o q n) λσ H R y=>by
  obtain⟨S,ρ,Q3,u,h,m,k⟩:=y;show⟨S,ρ,_,u,h,m,λvs H1 ds l x q1=>?_⟩;split at q1
  .rename_i j;obtain⟨v,r,rfl,d,h2⟩:=x.aX;simp only[aH] at h2;subst h2;symm at d;subst d;show⟨j,rfl,q1.1.1,q1.1.2,k _ H1 _ [] l (λg c=>nomatch c) IF q1.2⟩
  .exact q1.elim
abbrev WG:=D->aW->(aW->Prop)->Prop
def R_(K:ao)(n:Nat)(g:WG):TG:=λv σ H Q=>∃(H₀:Hp) (S:ah->Prop) (w:Nat->ah) (ρ:aW) (G:List (D×V)) (d:D) (Q3:aW->Prop),σ.length=n/\ST K H₀ S w σ H ρ G/\Dn K (SO S w ρ) H d v/\g d ρ Q3 /\
 ∀a H' ρ',a.length=n->ST K H₀ S w a H' ρ' G->Q3 ρ'->Q a H'
def SU(X:Cx)(tg:av)(g:WG):Prop:=PG X tg (R_ X.K X.N.length g)
def IG(h:PG X e t)(f:∀v σ H Q,t' v σ H Q->t v σ H Q):PG X e t':=λπ s σ H v u Q I r q=>h π s σ H v u Q I r (f v σ H Q q)
def gN(i:Nat):WG:=λd ρ Q=>Q (ρ.set i (.ro d))
theorem Rz(hN:X.N.Nodup)(c:X.N[i]?=aa x:=by rfl)(h:Loc X.env.scope x:=by walk_at "0")(l:Zq X x:=by walk_at "0"):SU X (.Name x ν) (gN i) :=
 IG (iS hN c h l) λv σ H Q m=>by obtain⟨H₀,S,w,ρ,G,d,Q3,a,st,dn,j,k⟩:=m;show k _ H _ (by rw[gy];show a) (st.iX (by rw[a];show gJ c) dn) j
noncomputable def g2(i j:Nat):WG:=λd ρ Q=>match d with
 |.tup [d1,d2]=>Q ((ρ.set i (.ro d1)).set j (.ro d2))
 |_=>False
def Ry(hc:X.calm=ae)(hN:X.N.Nodup)(K:X.N[i]?=aa x:=by rfl)(J:X.N[j]?=aa y:=by rfl)(Y:Loc X.env.scope x:=by walk_at "0")(U:Loc X.env.scope y:=by walk_at "0")
  (I:Zq X x:=by walk_at "0") (F:Zq X y:=by walk_at "0")
  (Z:Q0j X x y px py:=by rfl) (p:Q0i X x y px py:=by rfl)
  (u:gV X x y px py:=by rfl) (q:Q0h X y py:=by rfl):
  SU X (.Tuple [.Name x px,.Name y py] k ν) (g2 i j) :=
 IG (LQ (n:=2) hc (mV (iS hN K Y I) (mV (iS hN J U F) FG q) u) Z p) λv σ H Q Lg=>by
  obtain⟨H₀,S,w,ρ,G,d,Q3,A,st,dn,c,k⟩:=Lg;unfold g2 at c;split at c
  .rename_i d1 d2;symm at dn;obtain⟨a,xs,rfl,ha,da⟩:=dn;obtain⟨O,r1,rfl,h1,h2⟩:=da.aX;obtain⟨h,r2,rfl,h3,L⟩:=h2.aX;simp only[aH] at L;subst L;show⟨a,_,rfl,(dZ.of ha),rfl,O,[h],rfl,h,[],rfl,rfl,?_⟩;have o:=st.iX (i:=i) (by rw[A];show gJ K) h1;have m:∀a,SO S w ρ a->SO S w (ρ.set i (.ro d1)) a:=SO.mono λn f I=>by
    rcases get_set I with⟨_,z,_⟩|⟨_,z⟩
    .cases z
    .exact ⟨_,z⟩
   have l:=o.iX (i:=j) (d:=d2) (v:=h) (by rw[gy,A];show gJ J) (Dn.fits (.mono m) _ _ h3);show k _ H _ (by rw[gy,gy];show A) l c
  .exact c.elim
def Lf(c:WI)(g:WG)(h:WS):WS:=λE ρ=>c (fG ρ) λds=>∃Φ:Nat->aW->Prop,Φ 0 ρ /\
 (∀(i:Nat) (d:D) (ρ':aW),ds[i]?=aa d->Φ i ρ'->g d ρ' λa=>h {E with nx:=Φ (i+1),ct:=Φ (i+1),bk:=E.nx} a) /\∀ρ',Φ ds.length ρ'->E.nx ρ'
theorem Le(hc:X.calm=ae)(hp:Cf (au X.Ω X.w) X.A X.env X.xe)(hi:SQ X tg iter ti)(n:SU X tg g)(hb:sO X body tb)
  (hs:Zo X iter:=by intro _;rfl):DC X (.For tg iter body [] ν) (Lf ti g tb):=jX (YA hp hc hi n hb hs) λB σ H Ld=>by
 obtain⟨H₀,S,w,ρ,G,E,hl,st,ht,ok⟩:=Ld;show⟨_,fG ρ,_,st.FR,st.rd,ht,λJ H1 ds I s1 hg1 wk q1=>?_⟩;obtain⟨Iv,h0,turn,fin⟩:=q1;have u:∀{w σ H ρ},ST X.K H₀ S w σ H ρ (I++G)->ST X.K H₀ S w σ H ρ G:=λst=>st.ghost λg n=>st.gh g (gm _ n);show⟨λi m σ H=>m=ds.length-i/\i<=ds.length/\σ.length=X.N.length /\∃w ρ,ST X.K H₀ S w σ H ρ (I++G)/\Iv i ρ,
  ⟨_,rfl,ie _,hl,w,ρ,(st.same s1).ghost λg n=>(gn.mp n).elim (λz=>hg1 g z) λz=>(st.same s1).gh g z,h0⟩,?_⟩
 rintro i m L H2 ⟨rfl,hi2,F,U,l,j,iv⟩;by_cases p:i<ds.length
 .refine .inr ?_;obtain⟨g1,g2⟩:=wk.go _ H2 j.FR (λg n=>j.gh g (gj _ n)) i ds[i] (by simp[p]);show⟨g1,λa H'=>a.length=X.N.length /\∃w ρ,ST X.K H₀ S w a H' ρ (I++G)/\Iv (i+1) ρ,λa H' ⟨h,o,ρ',c,Z⟩=>⟨ds.length-(i+1),by lia,rfl,p,h,o,ρ',c,Z⟩,λx H' y=>?_⟩;obtain⟨s3,dx⟩:=g2 x H' y;show⟨H₀,S,U,l,I++G,ds[i],_,F,j.same s3,dx,turn i ds[i] l (by simp[p]) iv,λσ4 H4 O hl4 Y q4=>?_⟩;show⟨H₀,S,U,O,I++G,_,hl4,Y,q4,⟨λo a H' ρ' h c q=>⟨h,o,ρ',c,q⟩,λv H' d s' d' q=>ok.rt v H' d s' d' q,λo a H' ρ' h c q=>ok.nx o a H' ρ' h (u c) q,λo a H' ρ' h c q=>⟨h,o,ρ',c,q⟩,ok.ex⟩⟩
 .have e:i=ds.length:=by lia
  subst e;show .inl ⟨wk.stop _ H2 (λg n=>j.gh g (gj _ n)) _ rfl,ok.nx U L H2 l F (u j) (fin l iv)⟩
end
theorem sP(h:∀x∈scope.names,x.2=.free ->∃c,env.cells.lookup x.1=aa c):
  ∃d,closureFor scope env=pure d/\(∀x∈scope.names,x.2=.free->d.lookup x.1=env.cells.lookup x.1) /\∀x c,d.lookup x=aa c->env.cells.lookup x=aa c:=by
 have go:∀(l:List (aj×jb)) (j:List (aj×ah)),(∀x∈l,x.2=.free ->∃c,env.cells.lookup x.1=aa c)->(∀x c,j.lookup x=aa c->env.cells.lookup x=aa c) ->
   ∃d,(forIn l j λ(x:aj×jb) (L:List (aj×ah))=>(match x with|(name,kind)=>if(kind == ji)=ae then(do let c <- cellOf env name;pure (mw ((name,c)::L))) else pure (mw L):gb (ForInStep (List (aj×ah)))))=pure d /\
    (∀x c,j.lookup x=aa c->d.lookup x=aa c)/\(∀x∈l,x.2=.free->d.lookup x.1=env.cells.lookup x.1) /\∀x c,d.lookup x=aa c->env.cells.lookup x=aa c:=by
  intro l
  induction l with
  |nil=>intro j _ p;show⟨j,by rw[y_],λ_ _ z=>z,λx a=>(nomatch a),p⟩
  |cons y l ih =>
   intro j F p;by_cases v:y.2=.free
   .obtain ⟨c,A⟩:=F y de v;have I:∀x n,((y.1,c)::j).lookup x=aa n->env.cells.lookup x=aa n:=λx n a=>by
     rw[r6] at a;split at a
     .rename_i e;cases a;rw[eq_of_beq e];show A
     .exact p x n a
    obtain⟨d,e,u,h2,q⟩:=ih ((y.1,c)::j) (λx a=>F x (gf _ a)) I;show⟨d,?_,λx n a=>?_,λx a m=>?_,q⟩
    .rw [r_,<- e];have e1:(y.2 == ji)=ae:=by rw[v];rfl
     have K:cellOf env y.1=pure c:=by unfold cellOf;rw[A]
     obtain⟨O,U⟩:=y;dsimp only at e1 K ⊢;rw[Z_ e1,K];rfl
    .by_cases o:x=y.1
     .subst o;have X:((y.1,c)::j).lookup y.1=aa c:=by simp
      have J:=p _ _ a;rw[A] at J;cases J;show u _ _ X
     .refine u x n ?_;rw[r6];have:(x == y.1)=ag:=by simpa using o
      rw[this];show a
    .rcases bx.mp a with rfl|a
     .rw [A];show u _ _ (by simp)
     .exact h2 x a m
   .obtain ⟨d,e,u,h2,q⟩:=ih j (λx a=>F x (gf _ a)) p;show⟨d,?_,u,λx a m=>?_,q⟩
    .rw [r_,<- e];have e1:¬ (y.2 == ji)=ae:=by simpa using v
     obtain⟨O,U⟩:=y;dsimp only at e1 ⊢;rw[Zz e1];rfl
    .rcases bx.mp a with rfl|a
     .exact Zw m v
     .exact h2 x a m
 obtain⟨d,e,_,h2,q⟩:=go scope.names [] h (λx c z=>by simp at z);show⟨d,?_,h2,q⟩;have Y:=congrArg (λt=>t >>= λr=>(pure r:gb (List (aj×ah)))) e;show Y
theorem eZ:∀(l:List (aj×jb)) (n:Nat) (own a:List (aj×ah)),cellsFrom n l (own++a)=cellsFrom n l own++a
 |[],_,_,_=>rfl
 | (x,k)::r,n,own,a=>by
  unfold cellsFrom;split
  .exact eZ r (n+1) ((x,n)::own) a
  .exact eZ r n own a
theorem gK:∀(l:List (aj×jb)) (n:Nat) (own:List (aj×ah)) (p:aj×ah),p∈cellsFrom n l own->p∈own\/(p.1,kg)∈l
 |[],_,_,_,h=>.inl h
 | (x,k)::r,n,own,p,h=>by
  unfold cellsFrom at h;split at h
  .rename_i hk;rcases gK r _ _ p h with h|h
   .rcases bx.1 h with rfl|h
    .exact .inr (by rw[<- eq_of_beq hk];show de)
    .exact .inl h
   .exact .inr (gf _ h)
  .rcases gK r _ _ p h with h|h
   .exact .inl h
   .exact .inr (gf _ h)
theorem hW:∀(l:List (aj×jb)) (n:Nat) (own:List (aj×ah)) (x:aj),((∃c,own.lookup x=aa c)\/(x,kg)∈l) ->∃c,(cellsFrom n l own).lookup x=aa c
 |[],_,_,_,h=>h.elim id λz=>(nomatch z)
 | (y,k)::r,n,own,x,h=>by
  unfold cellsFrom;split
  .refine hW r _ _ x ?_;by_cases e:x=y
   .exact .inl ⟨n,by rw[e,r6,beq_self_eq_true]⟩
   .rcases h with⟨c,h⟩|h
    .exact .inl ⟨c,by rw[r6,beq_eq_false_iff_ne.mpr e];show h⟩
    .rcases bx.mp h with z|z
     .exact Zw (C_ z).1 e
     .exact .inr z
  .rename_i hk;show hW r _ _ x (h.imp_right λz=>?_);rcases bx.mp z with z|z
   .rw [<- (C_ z).2] at hk;show Zw rfl hk
   .exact z
theorem IH{M:l_}{A:br}{E:Q0c}{s:ak}{sc:fu}{g:ah}{j:List (aj×ah)}{q:aj}{f:Option ah}{code:ai}{env:df}{bl:ah}{Q:df->ak->Prop}
  (h:∀a:ba,a.Ns s.heap.objs.size (λ_=>af)->(∀b o,s.heap.get? b=aa o->a.get? b=aa o)->CellsOk a (s.heap.objs.size+1) (cellsFrom (s.heap.objs.size+1) sc.names []) ->
   Q (newEnv sc s.heap.objs.size g (cellsFrom (s.heap.objs.size+1) sc.names j) q f code (aa env) bl) {s with heap:=a}):
  ax M A (newFunctionEnv sc g j [] q f code (aa env) bl) Q E s:=by
 unfold newFunctionEnv;show aq (wpAny_alloc (aq (wpAny_layCells _ (λx k c=>by cases e:k == kg<;>simp[e]) _ _ _ _ ?_)));have d:∀o:ay,(s.heap.push o).objs.size=s.heap.objs.size+1:=λo=>uh ..;have ok:=λo=>cellsFrom_ok sc.names (s.heap.push o) (s.heap.objs.size+1) [] ⟨λ_ _ z=>(nomatch z),.nil⟩ (by rw[d];show bp _);simp only[d] at ok ⊢;rw[y_];show aq (az (az (h _ ((Heap.Ns.new s.heap _).keeps (Wv _ _)) (λb o e=>Wv _ _ b o (cx _ e)) (ok _))))
def blk(X:Cx)(N:Q0g)(sc:fu)(a:List (aj×ah))(C:ah)(pn:Q0b)(ex:List ah)(s₀:ak)(H₀:Hp):Cx :=
 {X with N:=N,s₀:=s₀,H₀:=H₀,env:=compEnvC sc a C X.env,Γ:=X.stack,stack:=X.stack,ex:=ex,fn:=λx=>sc.names.lookup x == aa kg,pn:=pn,xe:=λ_ _=>False}
def AJ(nl:Nat)(fr:List Nat)(σ:L2.St):L2.St:=cp nl af++fr.map λj=>(σ[j]?).join
structure AK (X:Cx) (ls fs:Q0g) (fr:List Nat) (sc:fu):Prop where
 kind:sc.kind=.function
 nd:(ls++fs).Nodup
 uniq:∀x∈sc.names,sc.names.lookup x.1=aa x.2
 free:∀x∈sc.names,x.2=.free->X.env.kindOf x.1=aa .cell\/X.env.kindOf x.1=aa .free
 slot:∀(k:Nat) (x:aj),fs[k]?=aa x ->∃j,fr[k]?=aa j/\X.N[j]?=aa x/\(x,ji)∈sc.names/\sc.names.lookup x=aa .free
 yG:fr.length=fs.length
section
variable{X:Cx}
theorem pN(t:aj->jb->jb)(x:aj):∀l:List (aj×jb),(l.map λp=>(p.1,t p.1 p.2)).lookup x=(l.lookup x).map (t x)
 |[]=>rfl
 | (n,k)::r=>by
  rw[cf,r6,r6];by_cases a:(x == n)=ae
  .rw [a,eq_of_beq a];rfl
  .rw [Eu] at a;rw[a];show pN t x r
theorem sQ{sc:fu}{env:df}{x:aj}{l:List (aj×jb)}:(l.map λ(n,k)=>if(k == ji&&env.scope.kind == .function&&env.kindOf n == aa .cell) then(n,kg) else(n,k)).lookup x =
  (l.lookup x).map λk=>if(k == ji&&env.scope.kind == .function&&env.kindOf x == aa .cell) then kg else k:=by
 rw[<- pN (λy k=>if(k == ji&&env.scope.kind == .function&&env.kindOf y == aa .cell) then kg else k) x l];show congrArg (List.lookup x) (pq λp _=>?_);dsimp only;split<;>rfl
def ne_size{b c:ah}{h:ba}{o:ay}(e:h.get? b=aa o)(a:c=h.objs.size):b≠c:=λz=>jq _ (by have q:=bz e;rw[z,a] at q;show q)
def AL{b c:ah}{n:Nat}(h:b<n)(a:n<=c):b≠c:=λz=>jq c (gi (z▸h) a)
theorem SV{ls fs:Q0g}{fr:List Nat}{sc:fu}{h:List (aj×ah)}{C:ah}{π:Q0b}{ex:List ah}{σ:L2.St}{H:Hp}{s s4:ak}(B:AK X ls fs fr sc)(I:Φ X π σ H s)
  (hcl:∀x∈sc.names,x.2=.free->h.lookup x.1=X.env.cells.lookup x.1) (iF:∀x c,h.lookup x=aa c->X.env.cells.lookup x=aa c\/(C<c/\s4.heap.IsCell c af)) (Ak:∀x∈sc.names,x.2=.cell ->∃c,h.lookup x.1=aa c/\C<c)
  (hinj:∀x y c,h.lookup x=aa c->h.lookup y=aa c->x=y) (hex:∀b∈ex,k6 X π H b/\b<s.heap.objs.size)
  (O:C=s.heap.objs.size) {m:Q0d} (hn:s4.heap.Ns C m) (hk:∀b o,s.heap.get? b=aa o->s4.heap.get? b=aa o) (ho:s4.os=s.os) (hg:s4.gens=s.gens):
  Φ (blk X (ls++fs) sc h C (X.pn++π) ex s H) [] (AJ ls.length fr σ) H s4:=by
 have Z:∀{b:ah} {o:ay},s.heap.get? b=aa o->b≠C:=λe=>ne_size e O;have aIj:∀x c,h.lookup x=aa c->c≠C:=λx c e=>by
  rcases iF x c e with e|⟨e,_⟩
  .obtain ⟨v,o,ho,_⟩:=I.cell x c e;show Z ho
  .exact nu e
 have zm:∀x,(compEnvC sc h C X.env).kindOf x=(sc.names.lookup x).map λk=>if(k == ji&&X.env.scope.kind == .function&&X.env.kindOf x == aa .cell) then kg else k:=λx=>sQ (sc:=sc)
 have okX:(blk X (ls++fs) sc h C (X.pn++π) ex s H).Ok:=by
  show⟨I.ok.mod,B.kind,I.ok.glob,I.ok.blt,(by show s.heap.objs.size<=C;rw[O];show bp _),hinj,λx A=>?_,λx c hf hl=>?_,I.ok.hd,I.ok.frames,.inl rfl,λb L=>?_,λb o e=>I.bs b o e,ig I.ok.FA I.sz,λb o e L=>?_,λb L=>?_,I.stack,I.qO,I.tab⟩
  ·-- a cell or free name of the block
   have hx':∃k,sc.names.lookup x=aa k/\((if(k == ji&&X.env.scope.kind == .function&&X.env.kindOf x == aa .cell) then kg else k)=.cell\/(if(k == ji&&X.env.scope.kind == .function&&X.env.kindOf x == aa .cell) then kg else k)=.free):=by
    have A:(compEnvC sc h C X.env).kindOf x=aa .cell\/(compEnvC sc h C X.env).kindOf x=aa .free:=A;rw[zm] at A
    cases e:sc.names.lookup x with
    |none=>rw[e] at A;rcases A with A|A<;>cases A
    |some k=>rw[e] at A;show⟨k,rfl,A.imp (λz=>ee z) λz=>ee z⟩
   obtain⟨k,e,K⟩:=hx';have U:=jy e;by_cases kf:k=.free
   .subst kf;have q:=hcl _ U rfl;obtain⟨c,hc⟩:=I.ok.has x (B.free _ U rfl);show⟨c,q.trans hc⟩
   .have Y:(k == ji)=ag:=by simpa using kf
    rw[Y] at K;simp only[sh,mx,if_false] at K;rcases K with z|z
    .obtain ⟨c,hc,_⟩:=Ak _ U z;show⟨c,hc⟩
    .exact Zw z kf
  ·-- an own cell is new
   obtain⟨c',F,hlt⟩:=Ak _ (jy (eq_of_beq hf)) rfl;have F:h.lookup x=aa c':=F;have hl:h.lookup x=aa c:=hl;rw[hl] at F;cases F;rw[O] at hlt;show lj hlt
  .refine ⟨AL (hex b L).2 (ml O.symm),λx c e=>?_⟩;rcases iF x c e with e|⟨e,_⟩
   .exact (hex b L).1.2.2.2.2.1 x c e
   .exact fg (AL (hex b L).2 (by rw[<- O];show lj e))
  .obtain ⟨⟨_,_,_,f3,_,_⟩,_⟩:=hex b L;rcases f3 with f3|f3
   .exact I.ok.z4 b o e f3
   .exact Zw (gi (bz e) (ig I.ok.FA f3)) (jq _)
  .intro z;obtain⟨⟨_,f1,f2,_,_,_⟩,_⟩:=hex b L;rcases bx.mp (I.lO b z) with z|z
   .exact f1 z
   .exact f2 z
 show⟨okX,ho,by rw[hg];show I.bare,Un.kept hk,⟨m,hn,λi x v h1 h2 h3=>?_⟩,λx c e=>?_,?_,λx c e=>?_,λp hp=>?_,I.hok.kept hk,?_⟩
 ·-- a name with a value is one from around
  have hi:¬ i<ls.length:=λhi=>by unfold AJ at h2;rw[j_ (by simpa using hi),jr,Z_ hi] at h2;cases h2
  have e1:fs[i-ls.length]?=aa x:=by have h1:(ls++fs)[i]?=aa x:=h1;rw[jz ∅] at h1;show h1
  obtain⟨j,ej,eN,U,hlk⟩:=B.slot _ _ e1;have Y:(σ[j]?).join=aa v:=by unfold AJ at h2;rw[jz (by simpa using hi),ft,je,ej] at h2;show ee h2
  have e3:σ[j]?=aa (aa v):=by
   cases q:σ[j]? with
   |none=>rw[q] at Y;cases Y
   |some o=>rw[q] at Y;rw[show o=aa v from Y]
  have hfr:=B.free _ U rfl;have vis:qN X.env.scope x:=.inr hfr;obtain⟨mm,hnm,hl⟩:=I.loc;obtain⟨u,r,l⟩:=hl j x v eN e3 vis;show⟨u,r,?_⟩;rcases l with⟨k1,_⟩|⟨k1,c,ec,zc⟩
  .have k1:X.env.kindOf x=aa .local:=k1;rcases hfr with z|z<;>rw[k1] at z<;>cases z
  .refine .inr ⟨?_,c,(hcl _ U rfl).trans ec,?_⟩
   .show (compEnvC sc h C X.env).kindOf x=aa .cell\/(compEnvC sc h C X.env).kindOf x=aa .free;rw[zm,hlk];dsimp only[a0l];split
    .exact .inl rfl
    .exact .inr rfl
   .obtain ⟨oc,J,hd⟩:=zc;show⟨oc,hk _ _ J,hd⟩
 .rcases iF x c e with e|⟨_,e⟩
  .obtain ⟨v,oc,J,hd⟩:=I.cell x c e;show⟨v,oc,hk _ _ J,hd⟩
  .exact ⟨af,e⟩
 .show H C=af;rw[O];show I.hok.fresh (bp _)
 .rcases iF x c e with e|⟨e,_⟩
  .exact I.d7 x c e
  .exact I.hok.fresh (by rw[<- O];show lj e)
 .have hp:p∈(X.pn++π)++[]:=hp;rw[ip] at hp;obtain⟨e,n,ne,nf,d⟩:=I.pin p hp;show⟨hk _ _ e,n,Z e,λz=>?_,d⟩;rcases bx.mp (I.lO _ z) with z|z
  .exact ne z
  .exact nf z
 .show (AJ ls.length fr σ).length=(ls++fs).length;unfold AJ;rw[dm,dm,je,bo,B.yG]
theorem NH{ls fs:Q0g}{sc:fu}{O:List (aj×ah)}{C:ah}{π U:Q0b}{ex:List ah}{σ m:L2.St}{H H':Hp}{s s':ak}{h':ba}(I:Φ X π σ H s)
  (J:Φ (blk X (ls++fs) sc O C (X.pn++π) ex s H) U m H' s') (hex:∀b∈ex,k6 X π H b) (y:C=s.heap.objs.size) (l:mf C s'.heap h'):Φ X π σ H' {s' with heap:=h' }:=by
 have a:∀{b:ah} {o:ay},s.heap.get? b=aa o->b≠C:=λe=>ne_size e y;have fr:H' C=af:=J.free;have un:Un (frs X.stack) ex H H' s.heap s'.heap:=J.ω;show I.call' (s':={s' with heap:=h' }) (ch:=ex) J.os ⟨λb o e n j h=>(l.2 b (a e)).trans (un.keep b o e n j h),λb o e n j h=>?_,un.free,λb o e h=>?_,un.tups,un.p6,un.oI⟩ ?_ J.bare λb j=>?_
 .obtain ⟨p,q⟩:=un.slot b o e n j h;show⟨p,(l.2 b (a e)).trans q⟩
 .obtain ⟨x,q⟩:=un.there b o e h;show⟨x,(l.2 b (a e)).trans q⟩
 .intro b v e;show(J.hok b v e).stay (λc u d q=>(l.2 c ?_).trans q) (λ_ q=>q) λ_ _ q=>q;intro z;rcases d with d|d
  .rw [z] at d;rw[<- d,fr] at e;cases e
  .rw [z,fr] at d;cases d
 .obtain ⟨_,L,_,K,F,A⟩:=hex b j;show⟨K,L,F,A⟩
abbrev ZM(ifs:List av)(env:df):gb Bool:=forIn ifs ae λc r=>if r=ae then(do let b <- isTrue c env (eval c env);pure (mw b)) else pure (mw r)
abbrev Calm(Ω:bg)(w:a_)(A:br){α:Type}(t:gb α)(Q:α->ak->Prop)(s:ak):Prop:=ax (au Ω w) A t Q (λ_ _=>False) s
theorem jY(j:Nat->ak->Prop)
  (turn:∀n s,j n s->Calm Ω w A (pyNext it) (λgot l=>match got with
   |none=>R (.ok .next) l
   |some v=>Calm Ω w A (letOwnedTupleGo tg it v) (λ_ q=>Calm Ω w A (assign tg env v) (λ_ s3=>Calm Ω w A (ZM ifs env) (λok s4 =>
     if ok=ae then Calm Ω w A (eval el env) (λx p=>Calm Ω w A (call (.builtin "list.append") [ψ,x]) (λ_ o=>∃m,m<n/\j m o) p) s4 else ∃m,m<n/\j m s4) s3) q) l) s)
  (n:Nat) (h:j n s):ly (au Ω w) A (.compLoop (.ListComp el [⟨tg,src,ifs,0⟩] bs at_) 0 it ψ env) R s:=by
 have no:∀{α:Type} {E:Q0c} {t:gb α} {Q Q':α->ak->Prop} {s:ak},Calm Ω w A t Q s->(∀a s,Q a s->Q' a s)->ax (au Ω w) A t Q' E s:=λh f=>gp h f λ_ _ z=>z.elim;show codeAny_loop rfl j (λn s u=>?_) n h;show wpAny_noted (m:=compTurn (.ListComp el [⟨tg,src,ifs,0⟩] bs at_) 0 it ψ env) ?_;rw[compTurn_list];show aq (Bf (aq (no (turn n s u) λgot l d=>?_)))
 match got,d with
 |none,d=>show az d
 |some v,d =>
  show aq (no d λ_ _ h2=>aq (no h2 λ_ _ I=>aq (no I λok s4 c=>?_)))
  match ok,c with
  |false,c=>show az (vp rfl c)
  |true,c=>show aq (aq (no c λ_ _ F=>aq (no F λ_ _ y=>az (az (vp rfl y)))))
abbrev TFk:=L2.St->Hp->(Bool->Hp->Prop)->Prop
def PIf(X:Cx)(ifs:List av)(t:TFk):Prop :=
 ∀(π:Q0b) (s:ak) (σ:L2.St) (H:Hp) (Q:Bool->Hp->Prop),Φ X π σ H s->t σ H Q ->
  ax (au X.Ω X.w) X.A (forIn ifs ae λc r=>if r=ae then do let ok <- isTrue c X.env (eval c X.env);pure (mw ok) else pure (mw r)) (TP X π σ Q) X.xe s
def FW:PIf X [] (λ_ H Q=>Q ae H):=λπ s σ H Q I h=>by rw[y_];show az ⟨H,I,h⟩
def ZN(h:PT X c t):PIf X [c] t:=λπ s σ H Q I hw=>by rw[r_];show aq ?_;rw[Z_ rfl];show aq (dA (h π s σ H Q I hw) λb a q=>az ?_);dsimp only;rw[y_];show az q
def AM(nl:Nat)(fr:List Nat)(wi:TI)(g:TG)(tf:TFk)(te:TE):TE:=λσ H Q=>wi σ H λJ H1=>∀c,H1 c=af ->∃W:Nat->Nat->Hp->List V->Prop,(∃m,W 0 m (upd H1 c (.lst [])) []) /\
 ∀i m H ys,W i m H ys->H c=aa (.lst ys)/\((J.stop i H/\Q (.ref c) H)\/(J.go i H /\∀x H',J.yld i H x H'->g x (AJ nl fr σ) H' λa n=>(a.drop nl=fr.map λj=>(σ[j]?).join)/\tf a n λb l =>
  if b=ae then te a l λy h=>h c=aa (.lst ys)/\ys.length<bj /\∃d,d<m/\W (i+1) d (upd h c (.lst (ys++[y]))) (ys++[y]) else ∃d,d<m/\W (i+1) d l ys))
theorem AN{ls fs:Q0g}{fr:List Nat}{sc:fu}{tg iter elt:av}{ifs:List av}{ν p2:bq}{wi:TI}{g:TG}{tf:TFk}{te:TE}{π:Q0b}{σ:L2.St}{H:Hp}{s:ak}{Qe:VK}{use:Option (ai->gb Unit)}{Qv:Q0c}
  (hc:X.calm=ae) (B:AK X ls fs fr sc) (hi:PI X tg iter wi) (hg:∀F C pn ex s H,PG (blk X (ls++fs) sc F C pn ex s H) tg g) (hf:∀F C pn ex s H,PIf (blk X (ls++fs) sc F C pn ex s H) ifs tf) (he:∀F C pn ex s H,PE (blk X (ls++fs) sc F C pn ex s H) elt te)
  (hs:Zo X iter) (I:Φ X π σ H s) (h:AM ls.length fr wi g tf te σ H Qe)
  (fin:∀j C s' H',Φ X π σ H' s'->(∃m,s'.heap.Ns C m)->k6 X π H' C->Qe (.ref j) H'->compPost (au X.Ω X.w) X.A X.xe use Qv (.ref j) C (.ok .next) s'):
  ax (au X.Ω X.w) X.A (comprehension (.ListComp elt [⟨tg,iter,ifs,0⟩] sc ν) sc X.env p2 (newList []) ag (eval iter X.env) use) Qv X.xe s:=by
 obtain⟨F,ecl,hcl,iF⟩:=sP (scope:=sc) (env:=X.env) λx hx hf=>I.ok.has x.1 (B.free x hx hf);show wpAny_comprehension_free (g:=⟨tg,iter,ifs,0⟩) (gs:=[]) rfl hs ecl B.kind (λx hx e=>(B.uniq x hx).trans (congrArg aa e)) ?_;show dA (hi π s σ H _ I h) λv s1 h1=>dA h1 λitv U h2=>?_;obtain⟨it,l,tn,J,H2,e,I2,T,st2,f2,h2⟩:=h2;subst e;show qm ?_ (by show([]:Q0f).toArray.size<=bj;simp);have hacc:H2 U.heap.objs.size=af:=I2.hok.fresh (bp _);have I3:Φ X π σ (upd H2 U.heap.objs.size (.lst [])) {U with heap:=U.heap.push {cls:=.type "list",data:=.seq ([]:Q0f).toArray} } :=
  I2.laid (t':=U.toks) (λb o e=>cx _ e) (bp _) ⟨by simp,[],0,.nil,fw _ rfl⟩
 have hfp:∀b∈l,b<U.heap.objs.size:=λb a=>by obtain⟨o,e,_⟩:=T.obj _ _ st2 b a;show bz e
 obtain⟨W,⟨m0,w0⟩,turn⟩:=h2 _ hacc;generalize AO:U.heap.objs.size=j at hacc I3 w0 turn ⊢;have Lc:∀b∈l,b≠j:=λb a=>AL (hfp b a) (ml AO);have f3:∀b∈l,k6 X π (upd H2 j (.lst [])) b:=λb a=>⟨by rw[aL (Lc b a)];show(f2 b a).1,(f2 b a).2⟩;generalize hs3:({U with heap:=U.heap.push {cls:=.type "list",data:=.seq ([]:Q0f).toArray} }:ak)=s3 at I3;have O:s3.heap.objs.size=j+1:=by rw[<- hs3];show(U.heap.push _).objs.size=_;rw[uh,AO]
 have st3:tn 0 s3.heap:=T.keep _ _ _ st2 λb a o e=>by rw[<- hs3];show cx _ e
 show IH λh4 hn4 hk4 co=>?_;generalize hC:s3.heap.objs.size=C at hn4 co ⊢;have eC:cellsFrom (C+1) sc.names F=cellsFrom (C+1) sc.names []++F:=eZ sc.names (C+1) [] F;generalize hcs:cellsFrom (C+1) sc.names []=cs at co eC;have own:∀x c,cs.lookup x=aa c->(x,kg)∈sc.names/\C<c/\h4.IsCell c af:=λx c e=>by
  have m:=jy e;show⟨?_,(co.empty x c m).2,(co.empty x c m).1⟩;rw[<- hcs] at m;rcases gK _ _ _ _ m with z|z
  .cases z
  .exact z
 generalize hdl:cellsFrom (C+1) sc.names F=dl at eC ⊢;have two:∀x c,dl.lookup x=aa c->cs.lookup x=aa c\/(cs.lookup x=af/\F.lookup x=aa c):=λx c e=>by
  rw[eC,Ec] at e
  cases q:cs.lookup x with
  |none=>rw[q] at e;show .inr ⟨rfl,e⟩
  |some d=>rw[q] at e;show .inl e
 have Lb:∀x∈sc.names,x.2=.free->dl.lookup x.1=X.env.cells.lookup x.1:=λx hx e=>by
  rw[<- hcl x hx e,eC,Ec]
  cases q:cs.lookup x.1 with
  |none=>rfl
  |some d =>
   have z:=B.uniq _ (own _ _ q).1;rw[B.uniq x hx,e] at z;cases z
 have Aj:∀x c,dl.lookup x=aa c->X.env.cells.lookup x=aa c\/(C<c/\h4.IsCell c af):=λx c e=>by
  rcases two x c e with e|⟨_,e⟩
  .exact .inr (own x c e).2
  .exact .inl (iF x c e)
 have La:∀x∈sc.names,x.2=.cell ->∃c,dl.lookup x.1=aa c/\C<c:=λx hx e=>by obtain⟨c,hc⟩:=hW sc.names (C+1) [] x.1 (.inr (by rw[<- e];show hx));rw[hcs] at hc;show⟨c,by rw[eC,Ec,hc];rfl,(own _ _ hc).2.1⟩
 have low:∀x c,F.lookup x=aa c->c<C:=λx c e=>by obtain⟨v,o,ho,_⟩:=I3.cell x c (iF x c e);rw[<- hC];show bz ho
 have K_:∀x y c,dl.lookup x=aa c->dl.lookup y=aa c->x=y:=λx y c e e'=>by
  rcases two x c e with e|⟨_,e⟩<;>rcases two y c e' with e' | ⟨_,e'⟩
  .exact Ww co.apart (jy e) (jy e')
  .exact Zw (own _ _ e).2.1 (a0B (low _ _ e'))
  .exact Zw (own _ _ e').2.1 (a0B (low _ _ e))
  .exact I3.ok.inj x y c (iF x c e) (iF y c e')
 have I4:Φ (blk X (ls++fs) sc dl C (X.pn++π) l s3 (upd H2 j (.lst []))) [] (AJ ls.length fr σ) (upd H2 j (.lst [])) {s3 with heap:=h4} :=
  SV B I3 Lb Aj La K_ (λb a=>⟨f3 b a,by rw[O,<- AO];show uv (hfp b a)⟩) hC.symm hn4 hk4 rfl rfl
 generalize Z:blk X (ls++fs) sc dl C (X.pn++π) l s3 (upd H2 j (.lst []))=Y at I4;have pY:Y.Ω=X.Ω:=by rw[<- Z];rfl
 have wY:Y.w=X.w:=by rw[<- Z];rfl
 have kY:Y.K=X.K:=by rw[<- Z];rfl
 have AY:Y.A=X.A:=by rw[<- Z];rfl
 have cY:Y.calm=ae:=by rw[<- Z];show hc
 have eY:Y.env=compEnvC sc dl C X.env:=by rw[<- Z];rfl
 have xY:Y.xe=λ_ _=>False:=by rw[<- Z];rfl
 have NI:∀{H':Hp},(∀b∈l,H' b=af) ->∀b∈l,k6 Y [] H' b:=λhn b a=>by
  rw[<- Z];obtain⟨_,f1,f2',_,f4,f5⟩:=f3 b a;show⟨hn b a,λz=>?_,λz=>?_,.inl a,λx c e=>?_,λp hp=>f5 p ?_⟩
  .exact Zw z (AL (hfp b a) (by rw[<- hC,O,AO];show pd _))
  .rcases bx.mp (I3.lO b z) with z|z
   .exact f1 z
   .exact f2' z
  .rcases Aj x c e with e|⟨e,_⟩
   .exact f4 x c e
   .exact fg (AL (hfp b a) (by rw[AO];show lj (yq (by rw[<- hC,O];show uu _) e)))
  .have hp:p∈(X.pn++π)++[]:=hp;rw[ip] at hp;show hp
 have st4:tn 0 h4:=T.keep _ _ _ st3 λb a o e=>hk4 b o e;have loop:∀s5:ak,(∃i H',Φ Y [] (AJ ls.length fr σ) H' s5/\tn i s5.heap/\(∀b∈l,H' b=af) /\∃m ys,W i m H' ys)->ly (au X.Ω X.w) X.A (.compLoop (.ListComp elt [⟨tg,iter,ifs,0⟩] sc ν) 0 (.ref it) (.ref j) (compEnvC sc dl C X.env)) (compPost (au X.Ω X.w) X.A X.xe use Qv (.ref j) C) s5:=by
  rintro s5 ⟨i,H',I5,st5,fr5,m,ys,w5⟩;show jY (λn s'=>∃i H' ys,Φ Y [] (AJ ls.length fr σ) H' s'/\tn i s'.heap/\(∀b∈l,H' b=af)/\W i n H' ys) ?_ m ⟨i,H',ys,I5,st5,fr5,w5⟩;rintro n s6 ⟨i,H6,ys,I6,st6,fr6,w6⟩;obtain⟨ha6,alt⟩:=turn i n H6 ys w6;rcases alt with⟨stop,qn⟩|⟨go,step⟩
  .have q:=T.done Y pY wY kY cY i [] s6 _ H6 (λ_ _=>False) I6 (NI fr6) st6 stop;rw[AY] at q;show dA q λr s7 J_=>?_;obtain⟨hr,I7⟩:=J_;subst hr;have fr7:H6 C=af:=by have:=I7.free;rw[eY] at this;show this
   show fin j C s7 H6 ?_ ?_ (I3.xS (ml hC) fr7) qn
   .rw [<- Z] at I7;show NH I3 I7 (λb a=>f3 b a) hC.symm (.refl ..)
   .obtain ⟨m,hm,_⟩:=I7.loc;rw[eY] at hm;show⟨m,hm⟩
  .have q:=T.item Y pY wY kY cY i [] s6 _ H6 (λ_ _=>False) I6 (NI fr6) st6 go;rw[AY] at q;show dA q λr s7 Jz=>?_;obtain⟨u,hr,h7⟩:=Jz;subst hr;show dA h7 λ_ s8 Jy=>?_;obtain⟨x,H8,I8,r8,y8,st8,fr8⟩:=Jy;have I8':=I8.pinned (NI fr8) (T.obj _ _ st8);have hgY:=hg dl C (X.pn++π) l s3 (upd H2 j (.lst []));have hfY:=hf dl C (X.pn++π) l s3 (upd H2 j (.lst []));have heY:=he dl C (X.pn++π) l s3 (upd H2 j (.lst []));rw[Z] at hgY hfY heY;have q8:=hgY _ s8 _ H8 x u _ I8' r8 (step x H8 y8);rw[pY,wY,AY,eY,xY] at q8;show dA q8 λ_ s9 Jx=>?_;obtain⟨L,H9,I9,hσ9,q9⟩:=Jx;have ZO:=hfY _ s9 L H9 _ I9 q9;rw[pY,wY,AY,eY,xY] at ZO;show dA ZO λok Fg Jw=>?_;obtain⟨H10,I10,ZO⟩:=Jw;have bl:∀{H7:Hp} {s7:ak},Φ Y ([]++sE l s8.heap) L H7 s7->(∃m',m'<n /\∃ys',W (i+1) m' H7 ys') ->∃m,m<n /\∃i H' ys,Φ Y [] (AJ ls.length fr σ) H' s7/\tn i s7.heap/\(∀b∈l,H' b=af)/\W i m H' ys:=λ{H7 s7} I7 ⟨m',hm,ys',w7⟩=>by
    show⟨m',hm,i+1,H7,ys',?_,T.keep _ _ _ st8 λb a o e=>(I7.pin (b,o) (gm _ (gm _ (iT a e)))).1,λb a=>?_,w7⟩
    .refine I7.fL.weak ?_ λk v e=>?_
     .rw [I7.len,<- I6.len]
     .by_cases hk:k<ls.length
      .unfold AJ at e;rw[j_ (by simpa using hk),jr,Z_ hk] at e;cases e
      .have e2:(L.drop ls.length)[k-ls.length]?=aa (aa v):=by rw[hσ9];unfold AJ at e;rw[jz (by simpa using hk),je] at e;show e
       rw[List.getElem?_drop] at e2;rw[show ls.length+(k-ls.length)=k by lia] at e2;show e2
    .obtain ⟨o,e,d⟩:=T.obj _ _ st8 b a;show(I7.pin (b,o) (gm _ (gm _ (iT a e)))).2.1
   cases ok with
   |false =>
    rw[Zz b_] at ZO ⊢;obtain⟨m',hm,w'⟩:=ZO;show bl I10 ⟨m',hm,ys,w'⟩
   |true =>
    rw[Z_ rfl] at ZO ⊢;have zj:=heY _ Fg L H10 _ I10 ZO;rw[pY,wY,AY,eY,xY] at zj;show dA zj λyv Ff Jv=>?_;obtain⟨y,H11,I11,Fh,ZP,Ju,m',hm,w'⟩:=Jv;have zi:=(vK (X:=Y)) _ Ff L H11 (.ref j) [y] (.ref j) [yv] (λ_ H'=>H'=upd H11 j (.lst (ys++[y]))) I11 rfl (.cons Fh .nil) ⟨j,ys,y,rfl,rfl,ZP,Ju,rfl⟩;rw[pY,wY,AY,xY] at zi;show dA zi λ_ s12 Jt=>?_;obtain⟨_,H12,I12,_,F_⟩:=Jt;subst F_;show bl I12 ⟨m',hm,_,w'⟩
 have L0:=loop _ ⟨0,_,I4,st4,λb a=>(f3 b a).1,m0,[],w0⟩;show codeAny_compStart_list L0 (T.self _ 0 _ _ _ st4 L0)
theorem FX
  (x:X.calm=ae) (B:AK X ls fs fr sc) (n:PI X tg iter wi) (p:∀a C pn ex s H,PG (blk X (ls++fs) sc a C pn ex s H) tg g) (u:∀a C pn ex s H,PIf (blk X (ls++fs) sc a C pn ex s H) ifs tf) (v:∀a C pn ex s H,PE (blk X (ls++fs) sc a C pn ex s H) elt te)
  (l:Zo X iter:=by intro _;rfl):PE X (.ListComp elt [⟨tg,iter,ifs,0⟩] sc ν) (AM ls.length fr wi g tf te):=by
 intro π s σ H Q I h;rw[eval_ListComp];show AN (use:=af) x B n p u v l I h λj C s' H' O d z q=>?_;obtain⟨m,d⟩:=d;obtain⟨L,K,_,J,F,A⟩:=z;show⟨m,d,λh' c=>⟨.ref j,H',O.turned (t':=s'.toks) (λb o y e=>(c.2 b y).trans e) L K J F A,rfl,q⟩⟩
theorem DF(hN:X.N.Nodup)(l:X.N[i]?=aa x)(J:X.env.scope.names.lookup x=aa .local)
  (hc:X.calm=ae) (B:AK X ls fs fr sc) (Z:PI X tg iter wi) (hg:∀d C pn ex s H,PG (blk X (ls++fs) sc d C pn ex s H) tg g) (hf:∀d C pn ex s H,PIf (blk X (ls++fs) sc d C pn ex s H) ifs tf) (he:∀d C pn ex s H,PE (blk X (ls++fs) sc d C pn ex s H) elt te)
  (n:gk (.ListComp elt [⟨tg,iter,ifs,0⟩] sc ν) (aa (.Name x pos')) spos.line X.env=pure ae)
  (U:Zo X iter:=by intro _;rfl):PS X (.Assign [.Name x pos'] (.ListComp elt [⟨tg,iter,ifs,0⟩] sc ν) spos) (X7 (AM ls.length fr wi g tf te) (vA i)):=by
 intro π s σ H D I h;rw[exec_Assign_Name_used _ _ _ _ n];show aq (Bf (aq ?_));show ax _ X.A (do let _ <- comprehension (.ListComp elt [⟨tg,iter,ifs,0⟩] sc ν) sc X.env _ (newList []) ag (eval iter X.env) (aa (assign (.Name x pos') X.env))) _ _ s;show aq (gp (AN (use:=aa (assign (.Name x pos') X.env)) (Qv:=λ_ s'=>SP X π D .next s') hc B Z hg hf he U I h λO C s' H' I' u fp q=>?_) (λ_ s' Y=>az (az Y)) λ_ _ e=>e);obtain⟨m,u⟩:=u;obtain⟨f0,L,_,f3,K,f5⟩:=fp;show Wl (u7 I' hN l (.inl J) (v:=.ref O) rfl (λj F c=>?_) (.inr J));obtain⟨a,c,z⟩:=c;have y:a≠C:=by
  rcases z with rfl|z
  .exact fg L
  .exact K x a z
 show⟨m,u.sameBut c (fg y),λh' p=>⟨_,H',F.turned (t':=j.toks) (λb o hb e=>(p.2 b hb).trans e) f0 L f3 K f5,q⟩⟩
end
def P5(Γ:List (aj×jb))(sc:fu)(N ls fs:Q0g)(fr:List Nat):Bool :=
 (sc.kind == .function)&&Zv (ls++fs).Nodup&&sc.names.all (λx=>Zv (sc.names.lookup x.1=aa x.2)) &&
 sc.names.all (λx=>Zv (x.2=.free->(Γ.lookup x.1=aa .cell\/Γ.lookup x.1=aa .free)))&&Zv (fr.length=fs.length) &&
 (fs.zip fr).all (λx=>Zv (N[x.2]?=aa x.1)&&sc.names.contains (x.1,ji)&&Zv (sc.names.lookup x.1=aa .free))
def lR(h:P5 X.env.scope.names sc X.N ls fs fr=ae):AK X ls fs fr sc:=by
 unfold P5 at h;simp only[jf,js,decide_eq_true_eq] at h;obtain⟨⟨⟨⟨⟨o,h2⟩,n⟩,m⟩,l⟩,j⟩:=h;show⟨eq_of_beq o,h2,n,m,λk x e=>?_,l⟩;have p:k<fs.length:=(dh.mp e).1;have d:(x,fr[k]'∅)∈fs.zip fr:=by
  have:(fs.zip fr)[k]?=aa (x,fr[k]'∅):=by rw[a0R];show⟨e,by simp⟩
  show pj this
 obtain⟨⟨a,b⟩,c⟩:=j _ d;show⟨fr[k]'∅,by simp,a,by simpa using b,c⟩
abbrev GE:=D->bK->(bK->Prop)->Prop
def yH(K:ao)(nl n:Nat)(g:GE):TG:=λv σ H Q=>∃(S:ah->Prop) (ρ:bK) (d:D) (Q3:bK->Prop),σ.length=n/\(∀a,H a=af->S a)/\Sl K S H ρ σ/\Dn K S H d v/\g d ρ Q3 /\
 ∀c ρ',Sl K S H ρ' c->c.drop nl=σ.drop nl->Q3 ρ'->Q c H
def ZQ(X:Cx)(nl:Nat)(a:av)(g:GE):Prop:=PG X a (yH X.K nl X.N.length g)
theorem Sl.set{K:ao}{S:ah->Prop}{H:Hp}{ρ:bK}{σ:L2.St}{i:Nat}{d:D}{v:V}(h:Sl K S H ρ σ)(l:i<σ.length)(q:Dn K S H d v):Sl K S H (ρ.set i (aa d)) (σ.set i (aa v)):=λj e m=>by
 rcases get_set m with⟨c,z,_⟩|⟨c,z⟩
 .cases z;subst c;show⟨v,kn l,q⟩
 .obtain ⟨u,a,b⟩:=h j e z;show⟨u,by rw[jm (fg c)];show a,b⟩
def hN(i:Nat):GE:=λd ρ Q=>Q (ρ.set i (aa d))
noncomputable def h2(i j:Nat):GE:=λd ρ Q=>match d with
 |.tup [d1,d2]=>Q ((ρ.set i (aa d1)).set j (aa d2))
 |_=>False
def drop_set{α:Type}{l:List α}{i n:Nat}{x:α}(h:i<n):(l.set i x).drop n=l.drop n:=by rw[List.drop_set,Z_ h]
section
variable{X:Cx}
def Rx{nl i:Nat}{x:aj}{j:bq}(nd:X.N.Nodup)(a:i<nl)(h:X.N[i]?=aa x:=by rfl)(m:Loc X.env.scope x:=by walk_at "0")(c:Zq X x:=by walk_at "2"):ZQ X nl (.Name x j) (hN i) :=
 IG (iS nd h m c) λv σ H Q p=>by obtain⟨S,ρ,d,Q3,n,q,l,dn,o,k⟩:=p;show k _ _ (l.set (by rw[n];show gJ h) dn) (drop_set a) o
def Ru{nl i j:Nat}{x y:aj}{Z:Nat}{O h c:bq}(hc:X.calm=ae)(nd:X.N.Nodup)(u:i<nl)(q:j<nl)(K:X.N[i]?=aa x:=by rfl)(J:X.N[j]?=aa y:=by rfl)(hx:Loc X.env.scope x:=by walk_at "0")(A:Zq X x:=by walk_at "2")(hy:Loc X.env.scope y:=by walk_at "0")(z:Zq X y:=by walk_at "2")
  (hn:Q0j X x y h c:=by rfl) (m:Q0i X x y h c:=by rfl)
  (p:gV X x y h c:=by rfl) (o:Q0h X y c:=by rfl):
  ZQ X nl (.Tuple [.Name x h,.Name y c] Z O) (h2 i j) :=
 IG (LQ (n:=2) hc (mV (iS nd K hx A) (mV (iS nd J hy z) FG o) p) hn m) λv σ H Q Jr=>by
  obtain⟨S,ρ,d,Q3,I,fc,Y,dn,l,k⟩:=Jr;unfold h2 at l;split at l
  .rename_i d1 d2;symm at dn;obtain⟨a,xs,rfl,ha,da⟩:=dn;obtain⟨U,r1,rfl,h1,h2⟩:=da.aX;obtain⟨F,r2,rfl,h3,L⟩:=h2.aX;simp only[aH] at L;subst L;show⟨a,_,rfl,(dZ.of ha),rfl,U,[F],rfl,F,[],rfl,rfl,?_⟩;show k _ _ ((Y.set (by rw[I];show gJ K) h1).set (by rw[gy,I];show gJ J) h3) (by rw[drop_set q,drop_set u]) l
  .exact l.elim
def NJ(X:Cx)(ifs:List av)(t:WT):Prop:=PIf X ifs (liftT X.K t)
def Rr:WT:=λ_ Q=>Q ae
def Jq:NJ X [] Rr:=λπ s σ H Q I c=>by obtain⟨S,ρ,Q3,h,d,a,k⟩:=c;show FW π s σ H Q I (k ae H (ξ.refl H) a)
theorem Rq(h:uD X c t):NJ X [c] t:=ZN h
noncomputable def m9(g:GE)(tf:WT)(te:WE)(ρ:bK):List D->List D->(D->Prop)->Prop
 |[],ψ,Q=>Q (.lst ψ)
 |d::r,ψ,Q=>g d ρ λa=>tf a λb=>if b=ae then te a λy=>ψ.length<bj/\m9 g tf te ρ r (ψ++[y]) Q else m9 g tf te ρ r ψ Q
def benv(nl:Nat)(fr:List Nat)(ρ:bK):bK:=cp nl af++fr.map λj=>(ρ[j]?).join
def FY(nl:Nat)(fr:List Nat)(a:WI)(g:GE)(tf:WT)(te:WE):WE:=λρ Q=>a ρ λds=>m9 g tf te (benv nl fr ρ) ds [] Q
def SW{K:ao}{S:ah->Prop}{H:Hp}{ρ:bK}{σ:L2.St}{nl:Nat}{fr:List Nat}(h:Sl K S H ρ σ):Sl K S H (benv nl fr ρ) (AJ nl fr σ):=λi d e=>by
 unfold benv at e;unfold AJ;by_cases a:i<nl
 .rw [j_ (by simpa using a),jr,Z_ a] at e;cases e
 .rw [jz (by simpa using a),ft,je] at e ⊢
  cases q:fr[i-nl]? with
  |none=>rw[q] at e;cases e
  |some j =>
   rw[q] at e;have e1:(ρ[j]?).join=aa d:=ee e;have c:ρ[j]?=aa (aa d):=by
    cases z:ρ[j]? with
    |none=>rw[z] at e1;cases e1
    |some o=>rw[z] at e1;rw[show o=aa d from e1]
   obtain⟨v,ev,l⟩:=h j d c;show⟨v,by show aa ((σ[j]?).join)=_;rw[ev];rfl,l⟩
def vO{K:ao}{nl n:Nat}{fr:List Nat}{ti:WI}{g:GE}{tf:WT}{te:WE}{σ:L2.St}{H:Hp}{Q:VK}(hn:nl+fr.length=n)(h:MX K (FY nl fr ti g tf te) σ H Q):AM nl fr (VW K ti) (yH K nl n g) (liftT K tf) (lift K te) σ H Q:=by
 obtain⟨S,ρ,Q3,fc,sl,ht,k⟩:=h;show⟨S,ρ,_,fc,sl,ht,λJ H1 ds G Y hG wk q1=>?_⟩;intro c j;have h0:H c=af:=Y.free j;have fc1:=aU fc Y;have ok:∀{l:Hp},ξ H1 l->(∃ys,l c=aa (.lst ys))->(∀a,l a=af->S a/\a≠c)/\Sl K (λa=>S a/\a≠c) l (benv nl fr ρ) (AJ nl fr σ) /\∀g∈G,Dn K (λa=>S a/\a≠c) l g.1 g.2:=λ{l} A o=>by
  show⟨λa e=>⟨aU fc1 A a e,λz=>?_⟩,?_,λg hg=>Dn.fits ((Fits.fresh j).trans (.same A)) _ _ (hG g hg)⟩
  .subst z;obtain⟨ys,o⟩:=o;rw[e] at o;cases o
  .exact SW (Sl.fits ((Fits.fresh h0).trans (.same (Y.trans A))) sl)
 show⟨λi m l ys=>m=ds.length-i/\i<=ds.length/\ξ H1 l/\l c=aa (.lst ys) /\∃I,aH K (λa=>S a/\a≠c) l I ys/\m9 g tf te (benv nl fr ρ) (ds.drop i) I Q3,
  ⟨_,rfl,ie _,aG j,aI,[],aH.nil,q1⟩,?_⟩
 rintro i m l ys ⟨rfl,hi,A,o,I,dn,cw⟩;obtain⟨q,sl2,U⟩:=ok A ⟨ys,o⟩;show⟨o,?_⟩;by_cases p:i<ds.length
 .refine .inr ?_;obtain⟨g1,g2⟩:=wk.go _ l q U i ds[i] (by simp[p]);show⟨g1,λx H' y=>?_⟩;obtain⟨s3,dx⟩:=g2 x H' y;rw[nz p,m9] at cw;show⟨λa=>S a/\a≠c,benv nl fr ρ,ds[i],_,?_,aU q s3,Sl.fits (.same s3) sl2,dx,cw,λσ' ρ' L hd q'=>?_⟩
  .unfold AJ;rw[dm,je,bo];show hn
  .refine ⟨by rw[hd];unfold AJ;rw[List.drop_append_of_le_length (by simp),List.drop_replicate];simp,λa=>S a/\a≠c,ρ',_,aU q s3,L,q',λb H3 s4 Z=>?_⟩
   cases b with
   |false =>
    rw[Zz b_] at Z ⊢;show⟨_,by lia,rfl,p,(A.trans s3).trans s4,(s3.trans s4) _ _ o,I,aH.fits (.same (s3.trans s4)) _ _ dn,Z⟩
   |true =>
    rw[Z_ rfl] at Z ⊢;show⟨λa=>S a/\a≠c,ρ',_,aU q (s3.trans s4),Sl.fits (.same s4) L,Z,λv H4 d s5 d5 q5=>?_⟩;have O:H4 c=aa (.lst ys):=((s3.trans s4).trans s5) _ _ o;have F:Fits K (λa=>S a/\a≠c) (λa=>S a/\a≠c) H4 (upd H4 c (.lst (ys++[v]))):=.upd (.inl ⟨_,O⟩) λz=>z.2 rfl;show⟨O,by rw[<- dn.len];show q5.1,_,by lia,rfl,p,λb u hb=>?_,aI,I++[d],aH.fits F _ _ ((aH.fits (.same ((s3.trans s4).trans s5)) _ _ dn).append (aH.one d5)),q5.2⟩;rw[aL (aP hb j)];show(((A.trans s3).trans s4).trans s5) _ _ hb
 .have e:i=ds.length:=by lia
  subst e;rw[a0V,m9] at cw;show .inl ⟨wk.stop _ l U _ rfl,k c ys l I h0 o (Y.trans A) dn cw⟩
theorem Te{ls fs:Q0g}{fr:List Nat}{sc:fu}{c iter elt:av}{ifs:List av}{j:bq}{d:WI}{g:GE}{tf:WT}{te:WE}(u:X.calm=ae)(m:SQ X c iter d)
  (o:∀a C pn ex s H,(blk X (ls++fs) sc a C pn ex s H).N.Nodup->ZQ (blk X (ls++fs) sc a C pn ex s H) ls.length c g) (p:∀a C pn ex s H,NJ (blk X (ls++fs) sc a C pn ex s H) ifs tf) (q:∀a C pn ex s H,bU (blk X (ls++fs) sc a C pn ex s H) elt te)
  (B:P5 X.env.scope.names sc X.N ls fs fr=ae:=by rfl) (l:Zo X iter:=by intro _;rfl):AE X (.ListComp elt [⟨c,iter,ifs,0⟩] sc j) (FY ls.length fr d g tf te) :=
 imp (FX (g:=yH X.K ls.length (ls++fs).length g) (tf:=liftT X.K tf) (te:=lift X.K te) u (lR B) m (λa C pn ex s H=>o a C pn ex s H (lR B).nd) p q l) λσ H Q h=>vO (n:=(ls++fs).length) (by rw[dm,(lR B).yG]) h
theorem II{i:Nat}{x:aj}{ls fs:Q0g}{fr:List Nat}{sc:fu}{j iter elt:av}{ifs:List av}{o a pos':bq}{q:WI}{g:GE}{tf:WT}{te:WE}(nd:X.N.Nodup)(Y:X.calm=ae)(J:SQ X j iter q)
  (L:∀c C pn ex s H,(blk X (ls++fs) sc c C pn ex s H).N.Nodup->ZQ (blk X (ls++fs) sc c C pn ex s H) ls.length j g) (O:∀c C pn ex s H,NJ (blk X (ls++fs) sc c C pn ex s H) ifs tf) (U:∀c C pn ex s H,bU (blk X (ls++fs) sc c C pn ex s H) elt te)
  (h:X.N[i]?=aa x:=by rfl) (y:X.env.scope.names.lookup x=aa .local:=by rfl) (l:gk (.ListComp elt [⟨j,iter,ifs,0⟩] sc o) (aa (.Name x pos')) a.line X.env=pure ae:=by rfl)
  (B:P5 X.env.scope.names sc X.N ls fs fr=ae:=by rfl) (F:Zo X iter:=by intro _;rfl):DC X (.Assign [.Name x pos'] (.ListComp elt [⟨j,iter,ifs,0⟩] sc o) a) (ZD i (FY ls.length fr q g tf te)) :=
 jX (DF (g:=yH X.K ls.length (ls++fs).length g) (tf:=liftT X.K tf) (te:=lift X.K te) nd h y Y (lR B) J (λc C pn ex s H=>L c C pn ex s H (lR B).nd) O U l F) λBd σ H Z=>by
 obtain⟨H₀,S,w,ρ,G,E,u,st,A,ok⟩:=Z;show vO (n:=(ls++fs).length) (by rw[dm,(lR B).yG]) ⟨_,fG ρ,_,st.FR,st.rd,A,λp xs H' ds I m s' d' v=>ok.nx w _ H' _ (by rw[gy];show u) ((st.same s').iX (d:=.lst ds) (by rw[u];show gJ h) (by symm;show⟨p,xs,rfl,m,st.FR p I,aH.fits (.mono λ_ z=>z.1) _ _ d'⟩)) v⟩
noncomputable def tyD:D->String
 |.non => "NoneType"
 |.bl _ => "bool"
 |.int _ => "int"
 |.str _ => "str"
 |.tup _ => "tuple"
 |.lst _ => "list"
 |.kR _ => "list"
 |.gR _ _ => "dict"
 |.cN _ _ _ => "dict"
 |.exc _ _ => "NoneType"
 |.rws _ => "NoneType"
inductive DG:String->Prop
 |t:DG "tuple"
 |b:DG "bool"
 |i:DG "int"
 |s:DG "str"
def isT(T:String)(d:D):Bool:=tyD d == T||(T == "int"&&tyD d == "bool")
def Jn(K:ao)(T:String):List V->Hp->VK->Prop:=λxs H Q=>∃x t b,xs=[x,.ty T]/\(mW K H x t\/(t=.type "tuple" /\∃a ys,x=.ref a/\dZ K H a ys)\/(t=.type "list" /\∃a ys,x=.ref a/\dS K H a ys))/\qt K t (.type T)=aa b/\Q (.bl b) H
theorem NK:d4 X (.builtin "isinstance") (Jn X.K T):=by
 intro π s σ H xs us Q I r h;obtain⟨x,t,b,rfl,ty,e,q⟩:=h;obtain⟨u,m,rfl,r1,v⟩:=vals2 r;obtain rfl:m=g_ T:=v;rcases ty with ty|⟨rfl,a,ys,rfl,d⟩|⟨rfl,a,ys,rfl,d⟩
 .exact HQ I r1 ty e λc=>⟨.bl b,H,I.tok c,rfl,q⟩
 .cases r1;obtain⟨l,_,p,_⟩:=I.tuple d;obtain⟨o,j,h2,_⟩:=p;show jg Xj I.oJ ⟨o,j,h2⟩ e (λz=>nomatch z) λc=>⟨.bl b,H,I.tok c,rfl,q⟩
 .cases r1;obtain⟨l,_,p,_⟩:=I.list d;obtain⟨o,n,j,h2,_⟩:=p;show jg By I.oJ ⟨o,j,h2⟩ e (λz=>nomatch z) λc=>⟨.bl b,H,I.tok c,rfl,q⟩
noncomputable def VX:D->Prop
 |.exc _ _=>False
 |.cN _ _ _=>False
 |.rws _=>False
 |_=>True
def Jm(T:String)(t:WE):WE:=λρ Q=>t ρ λd=>VX d/\Q (.bl (isT T d))
def Jl{K:ao}{T:String}(h:DG T)(d:D):qt K (.type (tyD d)) (.type T)=aa (isT T d):=by cases h<;>cases d<;>with_unfolding_all rfl
def Td{K:ao}{S:ah->Prop}{H:Hp}{d:D}{v:V}(j:VX d)(h:Dn K S H d v):∃t,t=g_ (tyD d)/\(mW K H v t\/(t=.type "tuple" /\∃a ys,v=.ref a/\dZ K H a ys)\/(t=.type "list" /\∃a ys,v=.ref a/\dS K H a ys)):=by
 show⟨_,rfl,?_⟩;cases d<;>symm at h
 .subst h;show .inl .non
 .subst h;show .inl (.bl _)
 .subst h;show .inl (.int _)
 .subst h;show .inl (.str _)
 .obtain ⟨a,xs,rfl,c,_⟩:=h;show .inr (.inl ⟨rfl,a,xs,rfl,(dZ.of c)⟩)
 .obtain ⟨a,xs,rfl,c,_⟩:=h;show .inl (.lst c)
 .obtain ⟨a,rfl,c⟩:=h;show .inr (.inr ⟨rfl,a,_,rfl,c.sq⟩)
 .obtain ⟨a,xs,rfl,c,_⟩:=h;show .inl (.dK c)
 .exact j.elim
 .exact j.elim
 .exact j.elim
theorem Jk{T:String}{x:aj}{e:av}{t:WE}{p p2 m:bq}(K:DG T)(F:X.mg "isinstance"=af)(h:X.mg x=af)(y:bootBuiltins x=aa (.type T))(J:bU X e t)(I:Gl X "isinstance":=by rfl)(j:Gl X x:=by rfl)(A:x ≠ "__name__":=by decide)(l:Zu x:=by decide)
  (n:ar [e,.Name x p2] X.env=(ag,eval e X.env)::ar [.Name x p2] X.env:=by rfl) (a:ar [.Name x p2] X.env=(ag,eval (.Name x p2) X.env)::ar [] X.env:=by rfl) (c:(cy m (ar [.Name x p2] X.env)).any (·.1)=ag:=by rfl):
  bU X (.Call (.Name "isinstance" p) [e,.Name x p2] [] m) (Jm T t) :=
 imp (gH (NK (T:=T)) I F Ct (b8 J (b8 (FC (v:=.ty T) j h y rfl A l) gG a) n) (by decide) (by decide) n c) λσ H Q Y=>by obtain⟨S,ρ,Q3,L,q,z,k⟩:=Y;show⟨S,ρ,_,L,q,z,λv H1 d u U q1=>?_⟩;obtain⟨o,e1,O⟩:=Td q1.1 U;show⟨v,o,isT T d,rfl,O,?_,k _ H1 (.bl _) u (by symm) q1.2⟩;rw[e1];show Jl K d
noncomputable def VY:List D->Option (List Bool)
 |[]=>aa []
 |.bl b::r=>(VY r).map (b :: ·)
 |_::_=>af
theorem range_all(bs:List Bool):(cm bs.length).all (λi=>bs.getD i ae)=bs.all id:=by
 induction bs with
 |nil=>rfl
 |cons b bs ih=>rw[fj,yu,mr,vg,mr,<- ih];rfl
theorem range_any(bs:List Bool):(cm bs.length).any (λi=>bs.getD i ae)=bs.any id:=by
 induction bs with
 |nil=>rfl
 |cons b bs ih=>rw[fj,yu,kc,El,kc,<- ih];rfl
def blF(f:List Bool->Bool):F1
 |[.lst ds],Q=>(match VY ds with|some bs=>Q (.bl (f bs))|none=>False)
 |_,_=>False
def AQ:List V->Hp->VK->Prop:=λxs H Q=>∃a ns,xs=[.ref a]/\H a=aa (.lst (ns.map V.int))/\ns.length<64 /\∀c:Q0e,c.Perm ns->c.Pairwise (· <= ·) ->∀p,H p=af->Q (.ref p) (upd H p (.lst (c.map V.int)))
theorem iY:d4 X (.builtin "sorted") AQ:=by
 intro π s σ H xs us Q I r h;obtain⟨a,ns,rfl,z,L,q⟩:=h;obtain⟨u,rfl,x⟩:=vals1 r;cases x;obtain⟨d,n,p,K⟩:=I.list (dS.of z);have y:=intsAre_of n;have hlen:d.length=ns.length:=by have:=n.length;rw[bo] at this;show this.symm
 show sorted_ints p.isList y ∅ λout c F v A=>?_;have l:H (s.heap.objs.size+1)=af:=I.hok.fresh (pd _);obtain⟨e1,m⟩:=Zn s.heap d out;have j:c.length<=bj:=by rw[v.length_eq,fv];lia
 have J:Φ X π σ (upd H (s.heap.objs.size+1) (.lst (c.map V.int))) {s with heap:=sortedAll s.heap d out} :=
  I.laid (t':=s.toks) (λb o e=>Zm e) (pd _) ⟨by rw[bo];show j,out.toList,e1,eE F,by simpa[seqObj] using m⟩
 show⟨.ref _,_,J,rfl,q c v A _ l⟩
def intsOf:List D->Option (List Int)
 |[]=>aa []
 |.int b::r=>(intsOf r).map (b :: ·)
 |_::_=>af
theorem cD:∀bs:Q0e,intsOf (bs.map D.int)=aa bs
 |[]=>rfl
 |b::bs=>by rw[cf,intsOf,cD bs];rfl
theorem oR:∀{ds:List D} {bs:Q0e},intsOf ds=aa bs->ds=bs.map D.int
 |[],bs,h=>by cases h;rfl
 |.int b::r,bs,h=>by
  rw[intsOf] at h
  cases q:intsOf r with
  |none=>rw[q] at h;cases h
  |some cs=>rw[q] at h;cases h;rw[cf,oR q]
 |.non::r,bs,h=>by cases h
 |.bl _::r,bs,h=>by cases h
 |.str _::r,bs,h=>by cases h
 |.tup _::r,bs,h=>by cases h
 |.lst _::r,bs,h=>by cases h
 |.kR _::r,bs,h=>by cases h
 |.gR _ _::r,bs,h=>by cases h
 |.cN _ _ _::r,bs,h=>by cases h
def NL:F1
 |[.lst ds],Q=>(match intsOf ds with|some ns=>ns.length<64 /\∀a:Q0e,a.Perm ns->a.Pairwise (· <= ·)->Q (.lst (a.map D.int))|none=>False)
 |_,_=>False
theorem SX{K:ao}:C3F K AQ NL:=by
 intro S H xs ds Q3 Q y m h k
 match ds,h with
 |[.lst es],h =>
  obtain⟨v,r,rfl,j,h2⟩:=m.aX;simp only[aH] at h2;subst h2;symm at j;obtain⟨a,ys,rfl,n,x,u⟩:=j;have d:(match intsOf es with|some ns=>ns.length<64 /\∀c:Q0e,c.Perm ns->c.Pairwise (· <= ·)->Q3 (.lst (c.map D.int))|none=>False):=h
  clear h
  cases q:intsOf es with
  |none=>rw[q] at d;show d.elim
  |some ns =>
   rw[q] at d;have e:=oR q;subst e;have o:=aH.ints.mp u;subst o;show⟨a,ns,rfl,n,d.1,λc j h2 p l=>k p _ _ _ l aI (aG l) (aH.ints.mpr rfl) (d.2 c j h2)⟩
def SY(a:X.mg "sorted"=af)(h:uE X [e] t)(c:Gl X "sorted":=by rfl)
  (d:Zr X e []:=by rfl):AE X (.Call (.Name "sorted" p) [e] [] ν) (IE NL t):=yF iY SX uq c a h (by decide) (by decide) d (by rfl)
end
section
variable{X:Cx}
def IJ(v:Gl X "range")(n:X.mg "range"=af)(x:PA X [a] ta)(m:ar [a] X.env=[(ag,eval a X.env)]:=by rfl):
  PE X (.Call (.Name "range" p) [a] [] ν) (λσ H Q=>ta σ H λvs H1=>∃j:Int,vs=[.int j] /\∀p,H1 p=af->Q (.ref p) (upd H1 p (.rng 0 j))):=by
 intro π s σ H Q I h;show Call_ (lP I v n a0f (ym (dA (x ν π s σ H _ I h) λus d ⟨vs,H1,c,r1,q1⟩=>?_) m rfl));obtain⟨j,e,q⟩:=q1;subst e;obtain⟨u,rfl,l⟩:=vals1 r1;obtain⟨t,rfl⟩:=l;show Xc ?_;show⟨.ref d.heap.objs.size,_,c.laid (o:=.rng 0 j) (λb o e=>cx _ e) (bp _) ⟨_,_,_,fw _ rfl⟩,rfl,q _ (c.hok.fresh (bp _))⟩
def NM{lo:Int}{n:Nat}{a:Array ai}(h:ItemsOf (λi v=>∃t,v=.int (lo+(i:Nat)*1) t) a n):θ ((qA lo n).map V.int) a.toList:=by
 obtain⟨p,q⟩:=h;have key:∀(l:Q0f) (k:Nat) (m:Nat),l.length=m->(∀(j:Nat) (v:ai),l[j]?=aa v ->∃t,v=kr (lo+((k+j:Nat):Int)) t)->θ (((List.range' k m).map λi:Nat=>lo+(i:Int)).map V.int) l:=by
  intro l
  induction l with
  |nil=>intro k m c _;subst c;show .nil
  |cons v l ih =>
   intro k m c o;subst c;rw[fj,List.range'_succ,cf,cf];show .cons ?_ (ih (k+1) l.length rfl λj w e=>?_)
   .obtain ⟨t,e⟩:=o 0 v (by simp);show⟨t,by simpa using e⟩
   .obtain ⟨t,d⟩:=o (j+1) w (by simpa using e);show⟨t,by rw[d];congr 1;congr 1;congr 1;lia⟩
 have:=key a.toList 0 n (by simpa using p) λj v e=>by obtain⟨t,d⟩:=q j v (by simpa using e);show⟨t,by rw[d];simp⟩
 unfold qA;rw[List.range_eq_range'];show this
theorem uG(J:X.calm=ae):d4 X (.type "list") (λxs H Q=>∃p j,xs=[.ref p]/\H p=aa (.rng 0 j) /\ -(2^62)<=j/\j<=16777216 /\∀l,H l=af->Q (.ref l) (upd H l (.lst ((qA 0 j.toNat).map V.int)))):=by
 intro π s σ H xs us Q I r h;obtain⟨p,j,rfl,A,U,O,q⟩:=h;obtain⟨u,rfl,x⟩:=vals1 r;cases x;obtain⟨t,u,v,e⟩:=I.hok p _ A;have hsz:Ze 0 j 1=(j.toNat:Int):=by rw[Wu];split<;>lia
 show call_list_range (a:=0) (b:=j) (c:=1) (n:=j.toNat) (I.ok.hd J) e (small_one ∅ ∅ ∅ ∅) hsz ∅ λh' L d K y F hit=>?_;have m:H s.heap.objs.size=af:=I.hok.fresh (bp _);have z:θ ((qA 0 j.toNat).map V.int) d.toList:=NM hit;show⟨.ref s.heap.objs.size,_,I.laid (o:=.lst ((qA 0 j.toNat).map V.int)) y (bp _) ⟨?_,d.toList,K,z,by simpa using F⟩,rfl,q _ m⟩;rw[bo,pM,fv];lia
noncomputable def ZR(t:WA):WE:=λρ Q=>t ρ λds=>match ds with
 |[.int j]=>(-(2^62)<=j/\j<=16777216)/\Q (.lst ((qA 0 j.toNat).map D.int))
 |_=>False
def DH(I:X.calm=ae)(A:X.mg "list"=af)(c:X.mg "range"=af)(J:uE X [a] t)(F:Gl X "list":=by rfl)(h:Gl X "range":=by rfl)(z:ar [a] X.env=[(ag,eval a X.env)]:=by rfl)
  (q:ar [.Call (.Name "range" p2) [a] [] pos2] X.env=(ag,eval (.Call (.Name "range" p2) [a] [] pos2) X.env)::ar [] X.env:=by rfl):
  AE X (.Call (.Name "list" p) [.Call (.Name "range" p2) [a] [] pos2] [] ν) (ZR t) :=
 imp (oN (uG I) F A a0g (b8 (IJ h c J z) gG q) (by decide) (by decide) q (by rfl)) λσ H Q O=>by
  obtain⟨S,ρ,Q3,K,x,y,k⟩:=O;show⟨S,ρ,_,K,x,y,λvs H1 ds m L q1=>?_⟩;split at q1
  .rename_i j;obtain⟨v,r,rfl,u,h2⟩:=L.aX;simp only[aH] at h2;subst h2;symm at u;subst u;show⟨j,rfl,λp n=>⟨p,j,rfl,aI,q1.1.1,q1.1.2,λl o=>?_⟩⟩;have d:H1 l=af:=(aG n).free o;show k l _ _ _ (m.free d) aI ((m.trans (aG n)).trans (aG o)) (aH.ints.mpr rfl) q1.2
  .exact q1.elim
def g8(ks:List Key)(ds:List D)(k:Key):Option D:=((ks.zip ds).find? λa=>Zv (a.1=k)).map (·.2)
theorem sR{K:ao}{S:ah->Prop}{H:Hp}{k:Key}:∀{ks:List Key} {ds:List D} {xs:List V},ks.length=xs.length->aH K S H ds xs ->
  (∀d,g8 ks ds k=aa d ->∃v,i7 (ks.zip xs) k=aa v/\Dn K S H d v)/\(g8 ks ds k=af->i7 (ks.zip xs) k=af)
 |[],ds,xs,_,_=>by
  show⟨λd e=>?_,λ_=>?_⟩
  .simp [g8] at e
  .simp [i7]
 |q::ks,ds,xs,hl,dn=>by
  cases ds with
  |nil=>simp only[aH] at dn;subst dn;simp at hl
  |cons d0 ds =>
   obtain⟨v,r,rfl,j,h2⟩:=dn.aX;have h:=sR (k:=k) (ks:=ks) (ds:=ds) (xs:=r) (by simpa using hl) h2;by_cases e:q=k
   .refine ⟨λd a=>?_,λa=>?_⟩
    .simp only[g8,Dq,ik,e,decide_true,rf] at a;cases a;show⟨v,by simp[i7,e],j⟩
    .simp [g8,e] at a
   .refine ⟨λd a=>?_,λa=>?_⟩
    .have c:g8 ks ds k=aa d:=by simpa[g8,e] using a
     obtain⟨u,l,m⟩:=h.1 d c;show⟨u,by simpa[i7,e] using l,m⟩
    .have c:g8 ks ds k=af:=by simpa[g8,e] using a
     simpa[i7,e] using h.2 c
theorem NN(hN:X.N.Nodup)(h:X.N[i]?=aa x:=by rfl)(j:Loc X.env.scope x:=by walk_at "0")(m:gk (.Dict [] [] p) (aa (.Name x pos')) ν.line X.env=pure ag:=by rfl)(n:Zq X x:=by walk_at "0"):
  DC X (.Assign [.Name x pos'] (.Dict [] [] p) ν) (λE ρ=>E.nx (ρ.set i (.ow (.gR [] [])))):=jX (oM hN h j MU m n) λB σ H ⟨H₀,S,w,ρ,G,E,c,st,l,ok⟩=>λp a =>
 ok.nx _ _ _ _ (by rw[gy];show c) (st.C7 (d:=.gR [] []) (by rw[c];show gJ h) (aG a) a ⟨[],aI,rfl,aH.nil⟩) l
noncomputable def AR:D->Option Key
 |.int i=>aa (.inl i)
 |.str x=>aa (.inr x)
 |_=>af
theorem NO{K:ao}{S:ah->Prop}{H:Hp}{d:D}{v:V}{k:Key}(h:Dn K S H d v)(e:AR d=aa k):v=kV k:=by cases d<;>simp only[AR] at e<;>cases e<;>symm at h<;>show h
def ZS:F2:=λx y Q=>match x,AR y with
 |.gR ks ds,aa k=>(match g8 ks ds k with|some d=>Q d|none=>False)
 |_,_=>False
theorem Jh{o i:av}{x:bq}{l m:WE}(y:X.A.units+1<c_)(ho:bU X o l)(J:bU X i m)(F:IA i:=by intro _ _;rfl):bU X (.Subscript o i x) (eR ZS l m):=imp (R8 y ho J F) λσ H Q Jg=>by
 obtain⟨S,ρ,Q3,q,n,z,k⟩:=Jg;show⟨S,ρ,_,q,n,z,λv H1 d h Y q1=>?_⟩;show⟨S,ρ,_,aU q h,Sl.fits (.same h) n,q1,λu H2 d2 p Z q2=>?_⟩;unfold ZS at q2;split at q2
 .rename_i ks ds kk ek;have c:=Dn.fits (.same p) _ _ Y;symm at c;obtain⟨a,xs,rfl,K,sa,I,U⟩:=c;split at q2
  .rename_i d3 e3;obtain⟨j,ev,O⟩:=(sR I U).1 d3 e3;have L:=NO Z ek;subst L;show⟨a,j,rfl,?_,k j H2 d3 (h.trans p) O q2⟩;have g:=HX.k (k:=kk) K;rw[ev] at g;show g
  .exact q2.elim
 .exact q2.elim
def Tc(i:Nat)(t:WX)(a:WE):WS:=λE ρ=>t ρ λρ' d=>(match ρ'[i]? with|some (.ow (.gR _ _))=>True|_=>False)/\a (bA ρ') λkd=>match ρ'[i]?,AR kd with
 |some (.ow (.gR ks ds)),aa k=>(g8 ks ds k=af/\ds.length<bj)/\E.nx (ρ'.set i (.ow (.gR (ks++[k]) (ds++[d]))))
 |_,_=>False
theorem Tb{i:Nat}{x:aj}{e k:av}{t:WX}{y:WE}{u pos' p:bq}(hu:X.A.units+1<c_)(he:DD X e t)(hk:bU X k y)
  (hN:X.N[i]?=aa x:=by rfl) (hv:qN X.env.scope x:=by walk_at "1") (hd:Zu x:=by decide) (o:Zt x:=by decide)
  (hs:gk e (aa (.Subscript (.Name x p) k pos')) u.line X.env=pure ag:=by rfl):
  DC X (.Assign [.Subscript (.Name x p) k pos'] e u) (Tc i t y):=jX (R9 hu (gE hN hv hd o) hk he hs) λB σ H Jf=>by
 obtain⟨H₀,S,w,ρ,G,E,O,st,ht,ok⟩:=Jf;show⟨H₀,S,w,ρ,G,_,O,st,ht,λj v H' ρ' d h d' m=>?_⟩;obtain⟨J,m⟩:=m;split at J
 .rename_i ks0 ds0 e0;obtain⟨a0,_,_⟩:=h.own i _ e0;show⟨_,a0,S,bA ρ',_,h.MV,h.all,m,λkv U dk I q q2=>?_⟩;split at q2
  .rename_i ks ds kk e1 ek;have l:=h.same I;obtain⟨a,b,c⟩:=l.own i _ e1;obtain⟨xs,L,hlen,dn⟩:=c;have eu:=NO q ek;subst eu;have n:=(sR (k:=kk) hlen dn).2 q2.1.1;have Y:¬ SO S j ρ' (j i):=λ⟨_,z⟩=>z i _ e1 rfl;have Z:(ks.zip xs).length<bj:=by rw[List.length_zip,hlen,a0x,<- dn.len];show q2.1.2
   have Ir:putK (ks.zip xs) kk v=(ks++[kk]).zip (xs++[v]):=by rw[MP v n,a0E hlen];rfl
   have F:Fits X.K (SO S j ρ') (SO S j ρ') U (upd U (j i) (.dK (putK (ks.zip xs) kk v))):=.upd (.inr (.inl ⟨_,L⟩)) Y;show⟨j i,_,rfl,MS.k L Z,ok.nx j σ _ _ O (l.write (d':=.gR (ks++[kk]) (ds++[d])) e1 ⟨xs++[v],?_,by simp[hlen],aH.fits F _ _ (dn.append (aH.one (Dn.fits (.same I) _ _ d')))⟩) q2.2⟩;rw[aI,Ir]
  .exact q2.elim
 .exact J.elim
def Ta(i:Nat)(t:WE):WS:=λE ρ=>t (bA ρ) λd=>(match d with | .lst ds=>wR ds=ae|_=>False)/\E.nx (ρ.set i (.ro d))
theorem S_(hN:X.N.Nodup)(u:AE X e t)(j:X.N[i]?=aa x:=by rfl)(l:Loc X.env.scope x:=by walk_at "0")(n:Si X e x pos' ν:=by rfl)(q:Zq X x:=by walk_at "0"):
  DC X (.Assign [.Name x pos'] e ν) (Ta i t):=jX (oM hN j l u n q) λB σ H v=>by
 obtain⟨H₀,S,w,ρ,G,E,h,st,m,ok⟩:=v;show⟨_,bA ρ,_,st.MV,st.all,m,λp xs H' ds o a s' d' c=>ok.nx w _ H' _ (by rw[gy];show h) ((st.same s').iX (d:=.lst ds) (by rw[h];show gJ j) (by symm;show⟨p,xs,rfl,a,st.FR p o,aH.wQ c.1 d'⟩)) c.2⟩
noncomputable def ZT:List D->D->(List D->D->Prop)->Prop
 |ds,.lst es,Q=>ds.length+es.length<=bj/\Q (ds++es) .non
 |_,_,_=>False
theorem ZU{K:ao}:M3 K FP ZT:=by
 intro S H p xs ds y d Q3 Q l dn c a k
 cases d with
 |lst es =>
  symm at c;obtain⟨b,j,rfl,m,n,h⟩:=c;show⟨p,b,xs,j,rfl,rfl,l,m,by rw[<- dn.len,<- h.len];show a.1,k _ _ _ _ (dn.append h) (by symm) a.2⟩
 |_=>show a.elim
section
variable{i:Nat}{x:aj}{e:av}{p apos cpos:bq}{t:WX}
def S3(m:DD X e t)(hN:X.N[i]?=aa x:=by rfl)(j:qN X.env.scope x:=by walk_at "1")(n:Zu x:=by decide)(h:Zt x:=by decide)
  (c:attributeBase (.Name x p) "extend" X.env (eval (.Name x p) X.env)=eval (.Name x p) X.env:=by rfl)
  (d:Zp X cpos e:=by rfl)
  (a:Q0k apos cpos:=by rfl) (l:Zr X e []:=by rfl):
  DD X (.Call (.Attribute (.Name x p) "extend" apos) [e] [] cpos) (og i ZT t):=m1 Yj PySem.F.type_list_extend HR ZU m hN j n h c d a l
end
end
section
variable{X:Cx}{π:Q0b}{σ:L2.St}{H:Hp}{s:ak}{h':ba}
theorem turnT{t':Nat}{ch:List ah}{T:ah}{xs:List V}{h:Q0f}(I:Φ X π σ H s)(k:∀b o,b∉ch->s.heap.get? b=aa o->h'.get? b=aa o)(l:∀b∈ch,k6 X π H b)
  (m:s.heap.objs.size<=T) (y:θ xs h) (x:xs.length<=bj) (A:h_ h' T h.toArray) (nd:BR h' T):Φ X π σ (upd H T (.tup xs)) {s with heap:=h',toks:=t' }:=by
 have fr:H T=af:=I.hok.fresh m;have p:∀{b:ah} {o:ay},s.heap.get? b=aa o->b≠T:=λ{b} {o} e z=>jq _ (gi (bz e) (z▸m));have live:∀{b:ah} {u:HO},H b=aa u->b∉ch:=λ{b} {u} e z=>by rw[(l _ z).1] at e;cases e
 show I.call' (s':={s with heap:=h',toks:=t' }) (ch:=ch) rfl ⟨λb o e _ _ a=>k b o a e,λb o e _ _ a=>⟨o.slots,k b o a e⟩,λb o e n _=>by rw[aL (p e)];show n,λb o e a=>⟨o,k b o a e⟩,
  λb ys e=>by rw[aL (aP e fr)];show e,λb o u e=>by rw[aL (aP e fr)];show e,λb O e=>by rw[aL (aP e fr),e]⟩ ?_ I.bare λb d=>?_
 .intro b u e;by_cases d:b=T
  .subst d;rw[aI] at e;cases e;show⟨x,h,y,A,nd⟩
  .rw [aL d] at e;show(I.hok b u e).stay (λc v j q=>k c v ?_ q) (λc q=>by rw[aL (aP q fr)];show q) (λc ys q=>by rw[aL (aP q fr)];show q) λc o u q=>by rw[aL (aP q fr)];show q
   rcases j with rfl|j
   .exact live e
   .exact live j
 .obtain ⟨_,L,_,K,J,F⟩:=l b d;show⟨K,L,J,F⟩
def AS{t':Nat}{ch:List ah}(I:Φ X π σ H s)(k:∀b o,b∉ch->s.heap.get? b=aa o->h'.get? b=aa o)(h:∀b∈ch,k6 X π H b):Φ X π σ H {s with heap:=h',toks:=t' }:=by
 have live:∀{b:ah} {u:HO},H b=aa u->b∉ch:=λ{b} {u} e z=>by rw[(h _ z).1] at e;cases e
 show I.call' (s':={s with heap:=h',toks:=t' }) (ch:=ch) rfl ⟨λb o e _ _ a=>k b o a e,λb o e _ _ a=>⟨o.slots,k b o a e⟩,λb o e n _=>n,λb o e a=>⟨o,k b o a e⟩,
  λb ys e=>e,λb o u e=>e,λb y e=>e⟩ ?_ I.bare λb j=>?_
 .intro b u e;show(I.hok b u e).stay (λc v d q=>k c v ?_ q) (λc q=>q) λc ys q=>q;rcases d with rfl|d
  .exact live e
  .exact live d
 .obtain ⟨_,x,_,p,m,l⟩:=h b j;show⟨p,x,m,l⟩
end
def Itp(go:Nat->Hp->Prop)(Y:Nat->Hp->List V->Prop)(stop:Nat->Hp->Prop):It:=⟨go,λi H x H'=>∃T vs,x=.ref T/\H T=af/\H'=upd H T (.tup vs)/\Y i H vs,stop⟩
def NP(P:bg)(w:a_)(A:br)(it:ah)(wr:List ah)(n:Nat)(c:Nat->Array ai->Prop)(St:Nat->ba->Prop)(Mid:Nat->ah->ba->Prop):Prop :=
 ∀i (s:ak) (Q:Option ai->ak->Prop) (E:Q0c),i<n->St i s.heap ->
  (∀T vals h' a,c i vals->s.heap.objs.size<=T->h'.IsTuple T vals->BR h' T->Mid i T h'->(∀b o,b∉wr->s.heap.get? b=aa o->h'.get? b=aa o)->Q (aa (.ref T)) {s with heap:=h',toks:=a}) ->
  ax (au P w) A (pyNext (.ref it)) Q E s
theorem sS{P:bg}{w:a_}{K:ao}{es:List av}{kk:Nat}{tp:bq}{go:Nat->Hp->Prop}{Y:Nat->Hp->List V->Prop}{stop:Nat->Hp->Prop}{m:List ah}{it:ah}{tn:Nat->ba->Prop}(mem:it∈m)
  (obj:∀i h,tn i h ->∀b∈m,∃o,h.get? b=aa o /\∀v,o.data≠.cell v) (keep:∀i h h',tn i h->(∀b∈m,∀o,h.get? b=aa o->h'.get? b=aa o)->tn i h')
  (wk:∀(X:Cx),X.Ω=P->X.w=w->X.K=K->X.calm=ae ->∀(i:Nat) (π:Q0b) (s:ak) (σ:L2.St) (H:Hp),Φ X π σ H s->tn i s.heap->go i H\/stop i H ->
   ∃j wr n p St Mid,(WalksT P w X.A it j wr n p St Mid/\NP P w X.A it wr n p St Mid)/\St i s.heap/\(∀b∈wr,b∈m)/\(∀h,St (i+1) h->tn (i+1) h) /\
    (go i H->i<n /\∀vals,p i vals ->∃vs,vs.length<=bj/\θ vs vals.toList/\Y i H vs)/\(stop i H->i=n))
  (self:∀(A:br) (i:Nat) (s:ak) (Q:Q0c) (E:Q0c),tn i s.heap->Q (.ref it) s->ax (au P w) A (pyIter (.ref it)) Q E s):
  Turn P w K (.Tuple es kk tp) (Itp go Y stop) m it tn where
 mem:=mem
 obj:=obj
 keep:=keep
 self:=self
 item:=by intro X O hw U J i π s σ H E I u st l;obtain⟨j,wr,n,p,St,Mid,⟨W,J2⟩,y,sub,nx,ok,_⟩:=wk X O hw U J i π s σ H I st (.inl l);obtain⟨hi,ok⟩:=ok l;show J2 i s _ _ hi y λT vals h1 q hp L ht nd F k1=>⟨.ref T,rfl,W.go es kk tp i T _ _ _ F λh2 s2 k2=>?_⟩;obtain⟨vs,hz,hv,hy⟩:=ok vals hp;obtain⟨o,Z,c,d⟩:=ht;have x:h_ h2 T vals.toList.toArray:=⟨o,k2 T o (W.apart i T _ F) Z,c,by simpa using d⟩;have I2:Φ X π σ (upd H T (.tup vs)) {s with heap:=h2,toks:=q}:=turnT (t':=q) (ch:=wr) I (λb o a e=>k2 b o a (k1 b o a e)) (λb a=>u b (sub b a)) L hv hz x (nd.at Z (k2 T o (W.apart i T _ F) Z));show⟨.ref T,upd H T (.tup vs),I2,rfl,⟨T,vs,rfl,I.hok.fresh L,rfl,hy⟩,nx h2 s2,λb a=>?_⟩;obtain⟨ob,eb,_⟩:=obj _ _ st b a;have nb:b≠T:=λz=>jq _ (gi (bz eb) (z▸L));rw[aL nb];show(u b a).1
 done:=by intro X O hw U J i π s σ H E I u st l;obtain⟨j,wr,n,p,St,Mid,⟨W,_⟩,y,sub,nx,_,ok⟩:=wk X O hw U J i π s σ H I st (.inr l);obtain rfl:=ok l;show W.done s _ _ y λh2 q k2=>⟨rfl,AS (t':=q) (ch:=wr) I k2 λb a=>u b (sub b a)⟩
def Iel(K:ao)(l:ah):It:=Itp (λi H=>∃xs v,dS K H l xs/\xs[i]?=aa v) (λi H vs=>∃v,vs=[.int i,v] /\∀xs,dS K H l xs->xs[i]?=aa v) (λi H=>∃xs,dS K H l xs/\xs.length=i)
def Iet(K:ao)(l:ah):It:=Itp (λi H=>∃xs v,dZ K H l xs/\xs[i]?=aa v) (λi H vs=>∃v,vs=[.int i,v] /\∀xs,dZ K H l xs->xs[i]?=aa v) (λi H=>∃xs,dZ K H l xs/\xs.length=i)
def AU:[V.int 0,V.int 0].length<=bj:=by rw[fv];decide
theorem AV(e it l:ah)(c:e≠it)(hle:l≠e)(a:l≠it)(items:Array ai):NP Ω w A e [e,it] items.size (λi vals=>∃t x,items[i]?=aa x/\vals=#[.int i t,x])
  (λi h=>(∃old,uf h e it i old)/\h.IsListIter it l i/\h.IsList l items) (λi T h=>(∃x,IsEnumOut h e it ((i:Int)+1) x T)/\h.IsListIter it l (i+1)/\h.IsList l items/\T≠e/\T≠it):=by
 intro i s Q E v ⟨⟨old,u⟩,p,n⟩ q;have m:items[i]?=aa items[i]:=qe v;show wpAny_pyNext_enum_item u p n m c λg F z b3 _ j=>?_;have l1:e<s.heap.objs.size:=bz u;have l2:it<s.heap.objs.size:=by obtain⟨_,y,_⟩:=p;show bz y
 show q s.heap.objs.size #[.int i s.toks,items[i]] g (s.toks+1) ⟨_,_,m,rfl⟩ (bp _) ⟨_,b3,rfl,_,rfl⟩ (BR.is b3 rfl) ⟨⟨_,F⟩,z,n.at λo y=>j l o hle a y,nu l1,nu l2⟩ λb o d y=>?_;simp only[bx,vb,or_false,not_or] at d;show j b o d.1 d.2 y
theorem AW{Ω:bg}{w:a_}{A:br}{it:ah}{l:List ah}{n:Nat}{P:Nat->ai->Prop}{St:Nat->ba->Prop}(D:Draws Ω w A.in1 it l n P St)(e:ah)(a:e≠it)(c:e∉l):
  NP Ω w A e [e,it] n (λi vals=>∃t x,P i x/\vals=#[.int i t,x]) (λi h=>(∃old,uf h e it i old)/\St i h) (λi T h=>(∃x,IsEnumOut h e it ((i:Int)+1) x T)/\St (i+1) h/\T≠e/\T≠it):=by
 intro i s Q E z ⟨⟨old,p⟩,m⟩ q;show wpAny_pyNext_enum_itemD D p m z a c λx g j u I F b3 _ v=>?_;have l1:e<s.heap.objs.size:=bz p;have l2:it<s.heap.objs.size:=by obtain⟨_,y⟩:=D.live _ _ m;show bz y
 show q s.heap.objs.size #[.int i j,x] g (j+1) ⟨_,_,u,rfl⟩ (bp _) ⟨_,b3,rfl,_,rfl⟩ (BR.is b3 rfl) ⟨⟨_,I⟩,F,nu l1,nu l2⟩ λb o d y=>?_;simp only[bx,vb,or_false,not_or] at d;show v b o d.1 d.2 y
theorem DI{P:bg}{w:a_}{K:ao}{es:List av}{kk:Nat}{Z:bq}{e it l:ah}(m:e≠it)(hle:l≠e)(j:l≠it):
  Turn P w K (.Tuple es kk Z) (Iel K l) [e,it] e (λi h=>(∃old,uf h e it i old)/\h.IsListIter it l i):=by
 show sS (by simp) (λi h st b O=>?_) (λi h h2 st k=>?_) (λX hP hw hK hc i π s σ H I st hg=>?_) (λA i s Q E st q=>?_)
 .obtain ⟨⟨old,a⟩,o,c,d1,d2⟩:=st;rcases bx.mp O with rfl|d
  .exact ⟨_,a,λv z=>by cases z⟩
  .rw [cg.mp d];show⟨o,c,λv z=>by rw[d2] at z;cases z⟩
 .obtain ⟨⟨old,a⟩,b⟩:=st;show⟨⟨old,k e (by simp) _ a⟩,b.at λo q=>k it (by simp) o q⟩
 .subst hP hw hK;have d:∃xs,dS X.K H l xs:=by rcases hg with⟨xs,_,a,_⟩|⟨xs,a,_⟩<;>show⟨xs,a⟩
  obtain⟨xs,d⟩:=d;obtain⟨n,U,p,hz⟩:=I.list d;have Y:=U.length;show⟨_,_,_,_,_,_,⟨WalksT.enumerate (I.ok.hd hc) e it l m hle j n.toArray,AV e it l m hle j n.toArray⟩,⟨st.1,st.2,p.isList⟩,λb O=>O,λh q=>⟨q.1,q.2.1⟩,λg=>?_,λg=>?_⟩
  .obtain ⟨ys,v,F,J⟩:=g;obtain rfl:=I.mU F d;obtain⟨u,hu,ru⟩:=U.get J;have L:i<ys.length:=(dh.mp J).1;show⟨by rw[cu,<- Y];show L,λvals q=>?_⟩;obtain⟨t,x,hx,rfl⟩:=q;have ex:x=u:=by
    have:n[i]?=aa x:=by simpa using hx
    rw[hu] at this;show(ee this).symm
   subst ex;show⟨[.int i,v],AU,.cons ⟨t,rfl⟩ (.cons ru .nil),v,rfl,λzs y=>by rw[I.mU y d];show J⟩
  .obtain ⟨ys,F,e2⟩:=g;obtain rfl:=I.mU F d;rw[cu,<- Y,e2]
 .obtain ⟨⟨old,a⟩,b⟩:=st;show wz a q
section
variable{Ω:bg}{w:a_}{A:br}{E:Q0c}{s:ak}
theorem NQ(hit:s.heap.IsTupleIter it t i)(j:s.heap.IsTuple t items)(h:items[i]?=aa x)
  (n:∀h',h'.IsTupleIter it t (i+1)->mf it s.heap h'->Q x {s with heap:=h' }):ax (au Ω w) A (Zc (.ref it)) Q E s:=by
 obtain⟨⟨p,c,_,nl,d⟩,o,ho,l,a⟩:=vp j hit;show aq (m:=callSpecial? _ _) (qo hit.typeIs xu (jw xu hit.typeIs Yr ?_ (Yx _)));show aq (m:=field _ 0) (ng ho a (x:=.ref t) rfl ?_);show ax _ _ (if ag=ae then _ else _) _ _ s;rw[Zz b_];show aq (m:=field _ 1) (ng ho a (x:=.int i 0) rfl (aq (m:=seqItems? _) (Bh c d ?_)));simp only[h,gr];show aq (Vz ho a (by simp) (az ⟨x,rfl,az (n _ ⟨_,uj _ ho (Yb (xr a _)),(Yc ..).trans l,?_⟩ (ma ..))⟩));rw[xr a];simp[rawInt]
theorem IK(l:A.handled=af)(hit:s.heap.IsTupleIter it t i)(j:s.heap.IsTuple t items)(h:items[i]?=af)
  (n:∀h' e,Ye it s.heap h'->(∃o,h'.get? e=aa o/\o.cls=.type "StopIteration")->E (.ref e) {s with heap:=h' }):ax (au Ω w) A (Zc (.ref it)) Q E s:=by
 obtain⟨⟨q,a,_,nl,c⟩,o,ho,u,d⟩:=vp j hit;show aq (m:=callSpecial? _ _) (qo hit.typeIs xu (jw xu hit.typeIs Yr ?_ (Yx _)));show aq (m:=field _ 0) (ng ho d (x:=.ref t) rfl ?_);show ax _ _ (if ag=ae then _ else _) _ _ s;rw[Zz b_];show aq (m:=field _ 1) (ng ho d (x:=.int i 0) rfl (aq (m:=seqItems? _) (Bh a c ?_)));simp only[h,gr];show aq (i_ (aq (m:=setField _ _ _) (Vz ho d (by simp) ?_)));have p:A.in1.handled=af:=l
 wp_walk
 unfold raiseNew;apply aq;apply Wf;rw[p];show aq (az (Vv (n _ _ (((ma ..).extBut.push _).push _) ⟨_,fw _ rfl,rfl⟩)))
theorem ZV(m:A.handled=af)(it t:ah)(d:t≠it)(items:Array ai):Draws Ω w A it [it,t] items.size (λi v=>items[i]?=aa v) (λi h=>h.IsTupleIter it t i/\h.IsTuple t items) where
 live:=λi h st=>by obtain⟨⟨o,ho,_⟩,_⟩:=st;show⟨o,ho⟩
 frame:=λi h h' st k=>by obtain⟨⟨o,ho,r⟩,o2,c,l⟩:=st;show⟨⟨o,k it (by simp) o ho,r⟩,o2,k t (by simp) o2 c,l⟩
 item:=λi s Q E j st q=>NQ st.1 st.2 (x:=items[i]) (qe j) λh' a b=>q _ h' s.toks (qe j) ⟨a,st.2.extBut b.extBut d⟩ b
 done:=λs Q E st q=>IK m st.1 st.2 (a1d (bp _)) q
theorem IM(l:ah)(items:Array ai):Meets (Builtin.«enumerate.__new__» ⟨[.type "enumerate",.ref l],[]⟩) (λ_ R s=>s.heap.IsTuple l items /\
  R (.ok (.ret (.ref (s.heap.push {cls:=.type "tuple_iterator",data:=.fields #[.ref l,.int 0 0]}).objs.size))) {s with heap:=(s.heap.push {cls:=.type "tuple_iterator",data:=.fields #[.ref l,.int 0 0]}).push {cls:=.type "enumerate",data:=.fields #[.none,.bool ag,.ref s.heap.objs.size,rawInt 0,.none,.none]} }):=by
 show .of_wp λp0 n v u s h=>?_;obtain⟨a,h⟩:=h;obtain⟨m,q,d,o,p⟩:=s;have j:=sub_enumerate
 wp_walk using wx a
 show wpAny_stack_any λ_=>az ?_;split<;>first
  | (rename_i c _ _ _ _ _;cases (c == g_ "enumerate")<;>(wp_walk using wx a;show⟨_,rfl,h⟩))
  | (wp_walk using wx a;show⟨_,rfl,h⟩)
theorem DJ(d:s.heap.IsTuple l items)
  (h:∀h',uf h' (s.heap.objs.size+1) s.heap.objs.size 0 .none->h'.IsTupleIter s.heap.objs.size l 0->(∀b o,s.heap.get? b=aa o->h'.get? b=aa o)->Q (.ref (s.heap.objs.size+1)) {s with heap:=h' }):ax (au Ω w) A (call (.type "enumerate") [.ref l]) Q E s:=by
 show callType_new F.called_enumerate (by decide) (F.typeCall_enumerate_1 _) (F.newCall_enumerate_1 _) (λobj=>F.args_object_init_2 obj _) F.entry_enumerate_new (IM l items) ⟨d,?_⟩;generalize a:s.heap.push {cls:=.type "tuple_iterator",data:=.fields #[.ref l,.int 0 0]}=h1;have e1:h1.objs.size=s.heap.objs.size+1:=by rw[<- a,uh]
 have g1:h1.get? s.heap.objs.size=aa {cls:=.type "tuple_iterator",data:=.fields #[.ref l,.int 0 0]}:=by rw[<- a];show fw _ rfl
 have k1:∀b o,s.heap.get? b=aa o->h1.get? b=aa o:=λb o e=>by rw[<- a];show cx _ e
 generalize c:h1.push {cls:=.type "enumerate",data:=.fields #[.none,.bool ag,.ref s.heap.objs.size,rawInt 0,.none,.none]}=h2;have g2:h2.get? h1.objs.size=aa {cls:=.type "enumerate",data:=.fields #[.none,.bool ag,.ref s.heap.objs.size,rawInt 0,.none,.none]}:=by rw[<- c];show fw _ rfl
 have k2:∀b o,h1.get? b=aa o->h2.get? b=aa o:=λb o e=>by rw[<- c];show cx _ e
 show⟨⟨_,g2,rfl⟩,?_⟩;rw[e1] at g2 ⊢;show h h2 g2 ⟨_,k2 _ _ g1,rfl,rfl⟩ λb o e=>k2 b o (k1 b o e)
end
theorem DK{P:bg}{w:a_}{K:ao}{es:List av}{kk:Nat}{tp:bq}{e it l:ah}(j:e≠it)(hle:l≠e)(U:l≠it):
  Turn P w K (.Tuple es kk tp) (Iet K l) [e,it] e (λi h=>(∃old,uf h e it i old)/\h.IsTupleIter it l i):=by
 show sS (by simp) (λi h st b Y=>?_) (λi h h2 st k=>?_) (λX hP hw hK hc i π s σ H I st hg=>?_) (λA i s Q E st q=>?_)
 .obtain ⟨⟨old,a⟩,o,c,d1,d2⟩:=st;rcases bx.mp Y with rfl|d
  .exact ⟨_,a,λv z=>by cases z⟩
  .rw [cg.mp d];show⟨o,c,λv z=>by rw[d2] at z;cases z⟩
 .obtain ⟨⟨old,a⟩,o,b,r⟩:=st;show⟨⟨old,k e (by simp) _ a⟩,o,k it (by simp) o b,r⟩
 .subst hP hw hK;have d:∃xs,dZ X.K H l xs:=by rcases hg with⟨xs,_,a,_⟩|⟨xs,a,_⟩<;>show⟨xs,a⟩
  obtain⟨xs,d⟩:=d;obtain⟨m,Z,p,hz⟩:=I.tuple d;have hl:=Z.length;have D:Draws X.Ω X.w X.A.in1 it [it,l] m.toArray.size (λi v=>m.toArray[i]?=aa v) (λi h=>h.IsTupleIter it l i/\h.IsTuple l m.toArray):=ZV (show X.A.in1.handled=af from I.ok.hd hc) it l U m.toArray;have n:e∉[it,l]:=λz=>by
   rcases bx.mp z with y|y
   .exact j y
   .exact hle (cg.mp y).symm
  show⟨_,_,_,_,_,_,⟨WalksT.enumerateD D e j n (by simp),AW D e j n⟩,⟨st.1,st.2,p⟩,λb Y=>Y,λh q=>⟨q.1,q.2.1⟩,λg=>?_,λg=>?_⟩
  .obtain ⟨ys,v,J,L⟩:=g;obtain rfl:=I.iD J d;obtain⟨u,hu,ru⟩:=Z.get L;have O:i<ys.length:=(dh.mp L).1;show⟨by rw[cu,<- hl];show O,λvals q=>?_⟩;obtain⟨t,x,hx,rfl⟩:=q;have ex:x=u:=by
    have:m[i]?=aa x:=by simpa using hx
    rw[hu] at this;show(ee this).symm
   subst ex;show⟨[.int i,v],AU,.cons ⟨t,rfl⟩ (.cons ru .nil),v,rfl,λzs F=>by rw[I.iD F d];show L⟩
  .obtain ⟨ys,J,e2⟩:=g;obtain rfl:=I.iD J d;rw[cu,<- hl,e2]
 .obtain ⟨⟨old,a⟩,b⟩:=st;show wz a q
section
variable{X:Cx}{es:List av}{kk:Nat}{tp:bq}
def S4{a:av}{J:TA}{p A:bq}(hg:Gl X "enumerate")(hm:X.mg "enumerate"=af)(ha:PA X [a] J)(hs:ar [a] X.env=[(ag,eval a X.env)]:=by rfl):
  PI X (.Tuple es kk tp) (.Call (.Name "enumerate" p) [a] [] A) (λσ H R=>J σ H λvs H1=>∃l,vs=[.ref l]/\(((∃xs,dS X.K H1 l xs)/\R (Iel X.K l) H1)\/((∃xs,dZ X.K H1 l xs)/\R (Iet X.K l) H1))):=by
 intro π s σ H R I h;show Call_ (lP I hg hm boot_enumerate (ym (dA (ha A π s σ H _ I h) λus d ⟨vs,H1,j,r1,q1⟩=>?_) hs rfl));obtain⟨l,e,q⟩:=q1;subst e;obtain⟨u,rfl,Y⟩:=vals1 r1;cases Y;have O:∀b∈[d.heap.objs.size+1,d.heap.objs.size],k6 X π H1 b:=λb L=>by
  have hle:d.heap.objs.size<=b:=by
   simp only[bx,or_false,vb] at L;rcases L with rfl|rfl
   .exact pd _
   .exact bp _
  show j.xS hle (j.hok.fresh hle)
 rcases q with⟨⟨xs,x⟩,q⟩|⟨⟨xs,x⟩,q⟩
 .obtain ⟨F,U,m,Z⟩:=j.list x;have c:l<d.heap.objs.size:=by obtain⟨o,n,e,_⟩:=m;show bz e
  show call_enumerate_list m.isList λh' v z hsz y=>wz v ?_;show⟨d.heap.objs.size+1,_,_,_,H1,rfl,j.kept (t':=d.toks) y,DI (a0p _) (fq (uv c)) (fq c),⟨⟨_,v⟩,z⟩,O,q⟩
 .obtain ⟨F,U,m,Z⟩:=j.tuple x;have c:l<d.heap.objs.size:=m.lt;show DJ (items:=F.toArray) m λh' v z y=>wz v ?_;show⟨d.heap.objs.size+1,_,_,_,H1,rfl,j.kept (t':=d.toks) y,DK (a0p _) (fq (uv c)) (fq c),⟨⟨_,v⟩,z⟩,O,q⟩
def pO(ds:List D):List D:=ds.zipIdx.map λp=>.tup [.int (p.2:Int),p.1]
theorem vP{ds:List D}{i:Nat}{d:D}(h:(pO ds)[i]?=aa d):∃d0,ds[i]?=aa d0/\d=.tup [.int (i:Int),d0]:=by
 unfold pO at h;rw[ft,a0S] at h
 cases q:ds[i]? with
 |none=>rw[q] at h;cases h
 |some d0 =>
  rw[q] at h;simp at h;show⟨d0,rfl,h.symm⟩
def FZ{K:ao}{S:ah->Prop}{H:Hp}{T:ah}{x y:V}{c a:D}(fr:H T=af)(h:Dn K S H c x)(d:Dn K S H a y):Dn K S (upd H T (.tup [x,y])) (.tup [c,a]) (.ref T):=by symm;show⟨T,[x,y],rfl,aI,aH.fits (.same (aG fr)) _ _ (aH.cons h (aH.one d))⟩
theorem IP{K:ao}{a:ah}{ds:List D}:Wlk K (Iel K a) (pO ds) [(.lst ds,.ref a)] where
 go:=λS H u l i d e=>by have h:=l _ (cg.mpr rfl);symm at h;obtain⟨b,xs,c,j,m,dn⟩:=h;injection c with c;subst c;obtain⟨d0,e0,rfl⟩:=vP e;obtain⟨v,ev,p⟩:=dn.get e0;show⟨⟨xs,v,dS.of j,ev⟩,λx H' y=>?_⟩;obtain⟨T,vs,rfl,fr,rfl,q,rfl,n⟩:=y;have ex:=n xs (dS.of j);rw[ev] at ex;cases ex;show⟨aG fr,FZ fr (by symm) p⟩
 stop:=λS H l i o=>by have h:=l _ (cg.mpr rfl);symm at h;obtain⟨b,xs,c,j,m,dn⟩:=h;injection c with c;subst c;show⟨xs,dS.of j,by rw[<- dn.len,<- o];simp[pO]⟩
theorem IQ{K:ao}{a:ah}{ds:List D}:Wlk K (Iet K a) (pO ds) [(.tup ds,.ref a)] where
 go:=λS H q l i d e=>by have h:=l _ (cg.mpr rfl);symm at h;obtain⟨b,xs,c,j,dn⟩:=h;injection c with c;subst c;obtain⟨d0,e0,rfl⟩:=vP e;obtain⟨v,ev,o⟩:=dn.get e0;show⟨⟨xs,v,(dZ.of j),ev⟩,λx H' y=>?_⟩;obtain⟨T,vs,rfl,fr,rfl,p,rfl,m⟩:=y;have ex:=m xs (dZ.of j);rw[ev] at ex;cases ex;show⟨aG fr,FZ fr (by symm) o⟩
 stop:=λS H l i n=>by have h:=l _ (cg.mpr rfl);symm at h;obtain⟨b,xs,c,j,dn⟩:=h;injection c with c;subst c;show⟨xs,(dZ.of j),by rw[<- dn.len,<- n];simp[pO]⟩
noncomputable def S0(t:WA):WI:=λρ Q=>t ρ λds=>match ds with
 |[.lst es]=>Q (pO es)
 |[.tup es]=>Q (pO es)
 |_=>False
def DL(y:X.mg "enumerate"=af)(z:uE X [a] t)(h:Gl X "enumerate":=by rfl)(x:ar [a] X.env=[(ag,eval a X.env)]:=by rfl):SQ X (.Tuple es kk tp) (.Call (.Name "enumerate" p) [a] [] ν) (S0 t) :=
 SR (S4 h y z x) λσ H R I=>by
  obtain⟨S,ρ,Q3,A,q,u,k⟩:=I;show⟨S,ρ,_,A,q,u,λvs H1 ds m n q1=>?_⟩;split at q1
  .obtain ⟨v,r,rfl,d,h2⟩:=n.aX;simp only[aH] at h2;subst h2;have c:=d;symm at d;obtain⟨l,xs,rfl,j,o,F⟩:=d;show⟨l,rfl,.inl ⟨⟨xs,dS.of j⟩,k _ H1 _ [(_,.ref l)] m (λg h=>by cases cg.mp h;show c) IP q1⟩⟩
  .obtain ⟨v,r,rfl,d,h2⟩:=n.aX;simp only[aH] at h2;subst h2;have c:=d;symm at d;obtain⟨l,xs,rfl,j,F⟩:=d;show⟨l,rfl,.inr ⟨⟨xs,(dZ.of j)⟩,k _ H1 _ [(_,.ref l)] m (λg h=>by cases cg.mp h;show c) IQ q1⟩⟩
  .exact q1.elim
variable{a b:av}{ν:bq}{ta tb:WE}
def S5:gF X (binaryOp .Mult) (rI ug λi j=>.int (i*j)):=VH λ_ _ _ _ _ _ _ c q=>mul_int q c
def Sz:F2:=IC ug λi j=>.int (i*j)
def Rp(d:bU X a ta)(c:bU X b tb):bU X (.BinOp a .Mult b ν) (eR Sz ta tb):=P4 S5 jV d c
end
theorem S6(c:i.natAbs<2^m)(a:j.natAbs<2^n)(h:m+n<=134217728):ug i j:=by show mulOk_of_bits (Cq c) (Cq a) h
section
variable{X:Cx}
noncomputable def aIy(t:WE):WT:=λρ Q=>t ρ λd=>match d with
 |.lst ds=>Q (!ds.isEmpty)
 |.tup ds=>Q (!ds.isEmpty)
 |_=>False
def aH.empty{K:ao}{S:ah->Prop}{H:Hp}{ds:List D}{xs:List V}(h:aH K S H ds xs):ds.isEmpty=xs.isEmpty:=by have:=h.len;cases ds<;>cases xs<;>simp at this ⊢
def ZW:List V->Hp->VK->Prop:=λxs H Q=>∃(a:ah) (ns:Q0e),xs=[.ref a]/\H a=aa (.lst (ns.map V.int))/\Q (.int ns.sum) H
theorem vQ(o:X.calm=ae):d4 X (.builtin "sum") ZW:=by
 intro π s σ H xs us Q I r h;obtain⟨a,ns,rfl,v,q⟩:=h;obtain⟨u,rfl,m⟩:=vals1 r;cases m;obtain⟨y,l,p,A⟩:=I.list (dS.of v);have d:=intsAre_of l;obtain⟨c,j⟩:=d.allInts.items;have x:c.toList.map (·.1)=ns:=by rw[<- nums_intItems,<- j];show d.numsOf
 have ev:preSum (numAt c) c.size=ns.sum:=by rw[preSum_eq,rh (by simp),x]
 show sum_intListG (I.ok.hd o) (j▸p.isList) λh' z t' n=>⟨.int ns.sum,H,I.kept n,⟨t',by rw[ev]⟩,q⟩
def sumF:F1
 |[.lst ds],Q=>(match intsOf ds with|some ns=>Q (.int ns.sum)|none=>False)
 |_,_=>False
def IS{ns:Q0e}{Q:D->Prop}:sumF [.lst (ns.map D.int)] Q=Q (.int ns.sum):=by show(match intsOf (ns.map D.int) with|some ns=>Q (.int ns.sum)|none=>False)=_;rw[cD]
theorem ZX{K:ao}:C3 K ZW sumF:=by
 intro S H xs ds Q3 Q p j d k
 match ds,d with
 |[.lst es],d =>
  obtain⟨v,r,rfl,h,h2⟩:=j.aX;simp only[aH] at h2;subst h2;symm at h;obtain⟨a,ys,rfl,l,o,n⟩:=h;have c:(match intsOf es with|some ns=>Q3 (.int ns.sum)|none=>False):=d
  clear d
  cases q:intsOf es with
  |none=>rw[q] at c;show c.elim
  |some ns =>
   rw[q] at c;have e:=oR q;subst e;have m:=aH.ints.mp n;subst m;show⟨a,ns,rfl,l,k _ H _ (ξ.refl H) (by symm) c⟩
theorem Io(h:X.calm=ae)(a:X.mg "sum"=af)(j:uE X [e] t)(c:Gl X "sum":=by rfl)
  (d:Zr X e []:=by rfl):bU X (.Call (.Name "sum" p) [e] [] ν) (IE sumF t):=yE (vQ h) ZX a0e c a j (by decide) (by decide) d (by rfl)
abbrev WO:=bK->(Option Int->Prop)->Prop
def Ro(K:ao)(t:WO):TO:=λσ H Q=>∃(S:ah->Prop) (ρ:bK) (Q3:Option Int->Prop),(∀a,H a=af->S a)/\Sl K S H ρ σ/\t ρ Q3 /\∀o H',ξ H H'->Q3 o->Q o H'
def PO3(X:Cx)(e:Option av)(t:WO):Prop:=PO X e (Ro X.K t)
noncomputable def Rm(t:WE):WO:=λρ Q=>t ρ λd=>match d with
 |.int i=>Q (aa i)
 |_=>False
theorem po3(h:bU X e t):PO3 X (aa e) (Rm t):=λπ s σ H Q I n=>by
 obtain⟨S,ρ,Q3,m,c,l,k⟩:=n;show RZ h π s σ H Q I ⟨S,ρ,_,m,c,l,λv H1 d j a q1=>?_⟩
 cases d with
 |int i=>symm at a;show⟨i,a,k _ H1 j q1⟩
 |_=>show q1.elim
def cutD(xs:List D)(lo a:Option Int):List D:=(xs.drop (HT.eK xs.length 0 lo)).take (HT.eK xs.length xs.length a-HT.eK xs.length 0 lo)
def aH.cut{K:ao}{S:ah->Prop}{H:Hp}{ds:List D}{xs:List V}{lo a:Option Int}(h:aH K S H ds xs):aH K S H (cutD ds lo a) (z8 xs lo a):=by unfold cutD z8;rw[h.len];show(h.drop _).take _
theorem NR{Ω:bg}{w:a_}{A:br}{E:Q0c}{s:ak}{t d:ah}{items:Array ai}{l j:ai}{lo q:Option Int}{Q:Q0c}(c:h_ s.heap t items)(p:s.heap.IsSliceOf d l j .none)(v:kz l lo)(u:kz j q)
  (z:HT.eK items.size 0 lo=0) (y:HT.eK items.size items.size q=items.size) (h:Q (.ref t) s):ax (au Ω w) A (getItem (.ref t) (.ref d)) Q E s:=by
 have x:s.TypeIs (.ref d) "slice":=by obtain⟨o,a,b,_⟩:=p;show⟨o,a,b⟩
 unfold getItem
 try with_reducible show iq ?_
 first|show aq (az ?_)|skip
 apply aq;show V_ c.typeIs (by decide) (aq (qo c.typeIs oz (jw oz c.typeIs a0d ?_ (a0j _ _))));show aq (m:=Za _) (Zh c (aq (Be x ?_)));rw[Z_ (by decide)];show aq (HT.iE (n:=items.size) p v u ?_);rw[z,y];show ax _ _ (if((((0:Nat):Int) == 0)&&((1:Int) == 1)&&((items.size-0) == items.size))=ae then _ else _) _ _ s;rw[Z_ (by simp)];show aq (m:=a15 _) (aq (Be c.typeIs (az ?_)));show ax _ _ (if ae=ae then _ else _) _ _ s;rw[Z_ rfl];show aq (i_ (az ⟨_,rfl,az h⟩))
def Il(K:ao):V->Option Int->Option Int->Hp->VK->Prop:=λx lo c H Q=>∃a xs,x=.ref a/\dZ K H a xs/\(HT.eK xs.length 0 lo=0/\HT.eK xs.length xs.length c=xs.length)/\Q (.ref a) H
theorem S8:VN X (Il X.K):=by
 intro π s σ H x v u p lo A y Q I j o m l h;obtain⟨a,xs,rfl,n,hw,q⟩:=h;cases j;obtain⟨d,r,c,z⟩:=I.tuple n;have hlen:d.toArray.size=xs.length:=by rw[cu];show r.length.symm
 show⟨"tuple",_,oz.lookup,c.typeIs,NR c o m l (by rw[hlen];show hw.1) (by rw[hlen];show hw.2) ⟨.ref a,H,I,rfl,q⟩⟩
def E_(te:WE)(c h:WO):WE:=λρ Q=>te ρ λd=>c ρ λlo=>h ρ λa=>match d with
 |.lst ds=>Q (.lst (cutD ds lo a))
 |.tup ds=>Q (.tup (cutD ds lo a))
 |_=>False
def sl3{e:av}{lo I:Option av}{p2 J:bq}{te:WE}{A F:WO}(U:bU X e te)(u:PO3 X lo A)(O:PO3 X I F):bU X (.Subscript e (.Slice lo I af p2) J) (E_ te A F) :=
 imp (MF (R5.or (YS.or S8)) U u O) λσ H Q Z=>by
  obtain⟨S,ρ,Q3,x,z,L,k⟩:=Z;show⟨S,ρ,_,x,z,L,λv H1 d h Y q1=>?_⟩;show⟨S,ρ,_,aU x h,Sl.fits (.same h) z,q1,λo H2 n q2=>?_⟩;show⟨S,ρ,_,aU x (h.trans n),Sl.fits (.same (h.trans n)) z,q2,λo2 H3 s3 q=>?_⟩;have y:=Dn.fits (.same (n.trans s3)) _ _ Y;have m:=(h.trans n).trans s3
  cases d with
  |lst ds =>
   symm at y;obtain⟨a,xs,rfl,j,K,l⟩:=y;show .inl ⟨a,xs,rfl,dS.of j,λp c=>k _ _ _ (m.trans (aG c)) ?_ q⟩;symm;show⟨p,_,rfl,aI,aU x m p c,aH.fits (.same (aG c)) _ _ l.cut⟩
  |tup ds =>
   symm at y;obtain⟨a,xs,rfl,j,l⟩:=y;have u:=l.len;by_cases hw:HT.eK xs.length 0 o=0/\HT.eK xs.length xs.length o2=xs.length
   .refine .inr (.inr ⟨a,xs,rfl,(dZ.of j),hw,k _ _ _ m ?_ q⟩);have e:cutD ds o o2=ds:=by unfold cutD;rw[u,hw.1,hw.2,se,a0r,rh (ml u)]
    rw[e];symm;show⟨a,xs,rfl,j,l⟩
   .refine .inr (.inl ⟨a,xs,rfl,(dZ.of j),hw,λp c=>k _ _ _ (m.trans (aG c)) ?_ q⟩);symm;show⟨p,_,rfl,aI,aH.fits (.same (aG c)) _ _ l.cut⟩
  |_=>show q.elim
end
end L3
namespace L4
open PySem.Spec PyProof.Rows L2 L3
def wE(f:EF):WE:=λρ Q=>∃d,f ρ=aa d/\Q d
def wT(f:TF):WT:=λρ Q=>∃d,f ρ=aa d/\Q d
def wA(f:AF):WA:=λρ Q=>∃d,f ρ=aa d/\Q d
def wI(f:AF):WI:=λρ Q=>∃d,f ρ=aa d/\Q d
def wO(f:OF):WO:=λρ Q=>∃d,f ρ=aa d/\Q d
def wX(f:XF):WX:=λρ Q=>∃p,f ρ=aa p/\Q p.1 p.2
noncomputable def wS(f:SF):WS:=λE ρ=>match f ρ with
 |.nx ρ'=>E.nx ρ'
 |.rt d=>E.rt d
 |.ex c=>E.ex c
 |.no=>False
def wG(g:WY):WG:=λd ρ Q=>∃ρ',g d ρ=aa ρ'/\Q ρ'
def vq(g:P8):GE:=λd ρ Q=>∃ρ',g d ρ=aa ρ'/\Q ρ'
abbrev aZ(X:Cx)(e:av)(f:EF):Prop:=bU X e (wE f)
abbrev i8(X:Cx)(e:av)(f:EF):Prop:=AE X e (wE f)
abbrev vR(X:Cx)(e:av)(f:TF):Prop:=uD X e (wT f)
abbrev NS(X:Cx)(e:av)(f:TF):Prop:=J4 X e (wT f)
abbrev qB(X:Cx)(a:List av)(f:AF):Prop:=uE X a (wA f)
abbrev TB(X:Cx)(a e:av)(f:AF):Prop:=SQ X a e (wI f)
abbrev PO4(X:Cx)(e:Option av)(f:OF):Prop:=PO3 X e (wO f)
abbrev F5(X:Cx)(e:av)(f:XF):Prop:=DD X e (wX f)
abbrev uH(X:Cx)(st:cn)(f:SF):Prop:=DC X st (wS f)
abbrev fU(X:Cx)(st:List cn)(f:SF):Prop:=sO X st (wS f)
section
variable{X:Cx}
def cE{e:av}{t t':WE}(h:bU X e t)(c:∀ρ Q,t' ρ Q->t ρ Q):bU X e t':=imp h λ_ _ _ l=>by obtain⟨S,ρ,Q3,j,a,d,k⟩:=l;show⟨S,ρ,Q3,j,a,c ρ Q3 d,k⟩
def cF(h:AE X e t)(c:∀ρ Q,t' ρ Q->t ρ Q):AE X e t':=imp h λ_ _ _ l=>by obtain⟨S,ρ,Q3,j,a,d,k⟩:=l;show⟨S,ρ,Q3,j,a,c ρ Q3 d,k⟩
def cT{e:av}{t t':WT}(h:uD X e t)(c:∀ρ Q,t' ρ Q->t ρ Q):uD X e t':=MY h λ_ _ _ l=>by obtain⟨S,ρ,Q3,j,a,d,k⟩:=l;show⟨S,ρ,Q3,j,a,c ρ Q3 d,k⟩
def cW{e:av}{t t':WT}(h:J4 X e t)(c:∀ρ Q,t' ρ Q->t ρ Q):J4 X e t':=Y6 h λ_ _ _ l=>by obtain⟨S,ρ,Q3,j,a,d,k⟩:=l;show⟨S,ρ,Q3,j,a,c ρ Q3 d,k⟩
def cA(h:uE X e t)(c:∀ρ Q,t' ρ Q->t ρ Q):uE X e t':=AG h λ_ _ _ l=>by obtain⟨S,ρ,Q3,j,a,d,k⟩:=l;show⟨S,ρ,Q3,j,a,c ρ Q3 d,k⟩
def cI(h:SQ X tg e t)(c:∀ρ Q,t' ρ Q->t ρ Q):SQ X tg e t':=SR h λ_ _ _ l=>by obtain⟨S,ρ,Q3,j,a,d,k⟩:=l;show⟨S,ρ,Q3,j,a,c ρ Q3 d,k⟩
def cX(h:DD X e t)(c:∀ρ Q,t' ρ Q->t ρ Q):DD X e t':=imp h λ_ _ _ j=>by obtain⟨H₀,S,w,ρ,G,Q3,d,st,a,k⟩:=j;show⟨H₀,S,w,ρ,G,Q3,d,st,c ρ Q3 a,k⟩
def cS(h:DC X e t)(c:∀E ρ,t' E ρ->t E ρ):DC X e t':=jX h λ_ _ _ j=>by obtain⟨H₀,S,w,ρ,G,E,d,st,a,ok⟩:=j;show⟨H₀,S,w,ρ,G,E,d,st,c E ρ a,ok⟩
def zv(h:sO X e t)(c:∀E ρ,t' E ρ->t E ρ):sO X e t':=AI h λ_ _ _ j=>by obtain⟨H₀,S,w,ρ,G,E,d,st,a,ok⟩:=j;show⟨H₀,S,w,ρ,G,E,d,st,c E ρ a,ok⟩
def NS.pt(h:NS X e f):vR X e f:=J4.pt h
def i8.pe(h:i8 X e f):aZ X e f:=AE.pe h
theorem bnd{α c:Type}{o:Option α}{f:α->Option c}{b:c}(h:o.bind f=aa b):∃a,o=aa a/\f a=aa b:=by
 cases o with
 |none=>cases h
 |some a=>show⟨a,rfl,h⟩
theorem pP{α c:Type}{o:Option α}{f:α->c}{b:c}(h:o.map f=aa b):∃a,o=aa a/\f a=b:=by
 cases o with
 |none=>cases h
 |some a=>show⟨a,rfl,ee h⟩
theorem x4(i:Nat)(hN:X.N[i]?=aa x:=by rfl)(c:qN X.env.scope x:=by walk_at "1")(j:Zu x:=by decide)
  (a:Zt x:=by decide):aZ X (.Name x ν) (aT i):=cE (x3 i hN c j a) λρ Q l=>by
 obtain⟨d,e,q⟩:=l;unfold aT at e;unfold SA
 cases h:ρ[i]? with
 |none=>rw[h] at e;cases e
 |some o =>
  rw[h] at e
  cases o with
  |none=>cases e
  |some d'=>cases e;show q
def i4{j ν}:aZ X (.Constant (.int i) j ν) (eI i):=cE i3 λ_ _ a=>by obtain⟨_,e,q⟩:=a;cases e;show q
def b4{j ν}:aZ X (.Constant (.bool b) j ν) (eC (.bl b)):=cE b3 λ_ _ a=>by obtain⟨_,e,q⟩:=a;cases e;show q
def n4{j ν}:aZ X (.Constant .none j ν) (eC .non):=cE n3 λ_ _ a=>by obtain⟨_,e,q⟩:=a;cases e;show q
def s4{j ν}:aZ X (.Constant (.str x) j ν) (eC (.str x)):=cE s3 λ_ _ a=>by obtain⟨_,e,q⟩:=a;cases e;show q
def Tells(f:F2)(g:D->D->Option D):Prop:=∀(x y d:D) (Q:D->Prop),g x y=aa d->Q d->f x y Q
def eS{f:F2}{g:D->D->Option D}(h:Tells f g){c a:EF}(ρ:bK)(Q:D->Prop)(w:wE (aB g c a) ρ Q):eR f (wE c) (wE a) ρ Q:=by obtain⟨d,e,q⟩:=w;obtain⟨x,ex,e⟩:=bnd e;obtain⟨y,j,e⟩:=bnd e;show⟨x,ex,y,j,h x y d Q e q⟩
def fA:Tells (sM g) (BV g):=λx y d Q e q=>by
 cases x<;>first|(cases e;done)|skip
 all_goals (cases y<;>first|(cases e;done)|skip)
 cases e;show q
def dO(h:∀i j,c i j=ae->C i j):Tells (IC C g) (gW c g):=λx y d Q e q=>by
 cases x<;>first|(cases e;done)|skip
 all_goals (cases y<;>first|(cases e;done)|skip)
 rename_i i j;have e:(if c i j=ae then aa (g i j) else af)=aa d:=e;by_cases a:c i j=ae
 .rw [Z_ a] at e;cases e;show⟨h i j a,q⟩
 .rw [Zz a] at e;cases e
def szl{n:Nat}{α:Type}{x d:α}{Q:α->Prop}(e:(if n<=i5 then aa x else af)=aa d)(q:Q d):n<=bj/\Q x:=by
 by_cases h:n<=i5
 .rw [Z_ h] at e;cases e;show⟨by rw[fv];show h,q⟩
 .rw [Zz h] at e;cases e
def IT:Tells Y2 cP:=λx y d Q e q=>by
 cases x<;>first|(cases e;done)|skip
 all_goals (cases y<;>first|(cases e;done)|skip)
 .cases e;show q
 .exact szl (x:=D.str _) e q
 .exact szl (x:=D.tup _) e q
 .exact szl (x:=D.lst _) e q
def IU:Tells Al GW:=λx y d Q e q=>by
 cases x<;>first|(cases e;done)|skip
 all_goals (cases y<;>first|(cases e;done)|skip)
 show szl (x:=D.lst _) e q
def ZY(h:zB i j=ae):ug i j:=by
 unfold zB at h;simp only[a05,decide_eq_true_eq] at h;rcases h with(h|h)|h
 .exact RS.ok (.inl ⟨by lia,by lia⟩)
 .exact RS.ok (.inr ⟨by lia,by lia⟩)
 .refine S6 (m:=i.natAbs.log2+1) (n:=j.natAbs.log2+1) ?_ ?_ ∅
  .exact a0A
  .exact a0A
section
variable{a b:av}{ν:bq}{fa fb:EF}
def fV(d:aZ X a fa)(c:aZ X b fb):aZ X (.BinOp a .Add b ν) (aB cP fa fb):=cE (Mo d c) (eS IT)
def ZZ(d:aZ X a fa)(c:aZ X b fb):aZ X (.BinOp a .Sub b ν) (aB GU fa fb):=cE (Ms d c) (eS fA)
def uI(d:aZ X a fa)(c:aZ X b fb):aZ X (.BinOp a .Mult b ν) (aB mulM fa fb):=cE (Rp d c) (eS (dO λ_ _ h=>ZY h))
def gL(d:aZ X a fa)(c:aZ X b fb):aZ X (.BinOp a .Mod b ν) (aB dB fa fb):=cE (Mr d c) (eS (dO λ_ _ h=>by simpa using h))
def NT(d:aZ X a fa)(c:aZ X b fb):aZ X (.BinOp a .FloorDiv b ν) (aB qW fa fb):=cE (Mq d c) (eS (dO λi j h=>by simp only[jf,decide_eq_true_eq] at h;show⟨h.1,by lia⟩))
def Z0(d:aZ X a fa)(c:aZ X b fb):aZ X (.BinOp a .Pow b ν) (aB zC fa fb):=cE (Mp d c) (eS (dO λi j h=>by simp only[jf,decide_eq_true_eq] at h;show⟨h.1.1,by lia,h.2⟩))
def Rl(d:aZ X a fa)(c:aZ X b fb):i8 X (.BinOp a .Add b ν) (aB GW fa fb):=cF (Ti d c) (eS IU)
def tells_eq:Tells SH qD:=λx y d Q e q=>by
 cases x<;>first|(cases e;done)|skip
 all_goals (cases y<;>first|(cases e;done)|skip)
 all_goals (cases e;show⟨rfl,q⟩)
def NU:Tells Y4 neM:=λx y d Q e q=>by
 cases x<;>first|(cases e;done)|skip
 all_goals (cases y<;>first|(cases e;done)|skip)
 all_goals (cases e;show⟨rfl,q⟩)
theorem ints_of:∀{ds:List D} {ns:Q0e},intsOf ds=aa ns->ds=ns.map D.int
 |[],ns,h=>by cases h;rfl
 |d::ds,ns,h=>by
  cases d<;>first|cases h;done|skip
  obtain⟨m,e,rfl⟩:=pP h;rw[ints_of e];rfl
def sU{neg:Bool}:Tells (inF neg) (nQ neg):=λx y d Q e q=>by
 cases x<;>first|(cases e;done)|skip
 all_goals (cases y<;>first|(cases e;done)|skip)
 all_goals
  obtain⟨ns,e1,rfl⟩:=pP e;have:=ints_of e1;subst this;show⟨vM ns,by rw[vN];show q⟩
def AX:Tells SI P7:=λx y d Q e q=>by
 unfold P7 at e;split at e
 .rename_i h;cases e;show⟨(by cases y<;>first|rfl|cases h),?_⟩;have:isD x=qY x:=by cases x<;>rfl
  rw[this];show q
 .cases e
def gt4(d:aZ X a fa)(c:aZ X b fb):aZ X (.Compare a [.Gt] [b] ν) (aB qX fa fb):=cE (gt3 d c) (eS fA)
def eq4(d:aZ X a fa)(c:aZ X b fb):aZ X (.Compare a [.Eq] [b] ν) (aB qD fa fb):=cE (Nf d c) (eS tells_eq)
def in4(h:aZ X a fa)(d:aZ X b fb)(c:behindInMarks .In b=ag:=by with_unfolding_all rfl):aZ X (.Compare a [.In] [b] ν) (aB (nQ ag) fa fb):=cE (in3 h d c) (eS sU)
def is4(d:aZ X a fa)(c:aZ X b fb):aZ X (.Compare a [.Is] [b] ν) (aB P7 fa fb):=cE (Me d c) (eS AX)
def pQ{f:F2}{g:D->D->Option D}(h:Tells f g)(j:∀x y d,g x y=aa d ->∃b,d=.bl b){fa fb:EF}(ρ:bK)(Q:Bool->Prop)(w:wT (tV (aB g fa fb)) ρ Q):jW (eR f (wE fa) (wE fb)) ρ Q:=by obtain⟨b,e,q⟩:=w;obtain⟨d,e1,m⟩:=bnd e;obtain⟨x,ex,e1⟩:=bnd e1;obtain⟨y,l,e1⟩:=bnd e1;obtain⟨c,rfl⟩:=j x y d e1;cases m;show⟨x,ex,y,l,h x y _ _ e1 q⟩
def sV{g:Int->Int->Bool}(x y d:D)(e:BV (λi j=>.bl (g i j)) x y=aa d):∃b,d=.bl b:=by
 cases x<;>first|(cases e;done)|skip
 all_goals (cases y<;>first|(cases e;done)|skip)
 cases e;show⟨_,rfl⟩
def Rk(x y d:D)(e:qD x y=aa d):∃b,d=.bl b:=by obtain⟨b,_,rfl⟩:=pP e;show⟨_,rfl⟩
def Rj(x y d:D)(e:neM x y=aa d):∃b,d=.bl b:=by obtain⟨b,_,rfl⟩:=pP e;show⟨_,rfl⟩
def VZ{neg:Bool}(x y d:D)(e:nQ neg x y=aa d):∃b,d=.bl b:=by
 cases x<;>first|(cases e;done)|skip
 all_goals (cases y<;>first|(cases e;done)|skip)
 all_goals (obtain⟨b,_,rfl⟩:=pP e;show⟨_,rfl⟩)
def Ri(x y d:D)(e:P7 x y=aa d):∃b,d=.bl b:=by
 unfold P7 at e;split at e
 .cases e;show⟨_,rfl⟩
 .cases e
def Jd(d:aZ X a fa)(c:aZ X b fb):vR X (.Compare a [.Lt] [b] ν) (tV (aB ltM fa fb)):=cT (Ml d c) (pQ fA sV)
def IV(d:aZ X a fa)(c:aZ X b fb):vR X (.Compare a [.Gt] [b] ν) (tV (aB qX fa fb)):=cT (Mj d c) (pQ fA sV)
def Ai(d:aZ X a fa)(c:aZ X b fb):vR X (.Compare a [.GtE] [b] ν) (tV (aB geM fa fb)):=cT (Mi d c) (pQ fA sV)
def IW(d:aZ X a fa)(c:aZ X b fb):vR X (.Compare a [.Eq] [b] ν) (tV (aB qD fa fb)):=cT (Tf d c) (pQ tells_eq Rk)
def Jc(d:aZ X a fa)(c:aZ X b fb):vR X (.Compare a [.NotEq] [b] ν) (tV (aB neM fa fb)):=cT (Sy d c) (pQ NU Rj)
def Jb(h:aZ X a fa)(d:aZ X b fb)(c:behindInMarks .In b=ag:=by with_unfolding_all rfl):vR X (.Compare a [.In] [b] ν) (tV (aB (nQ ag) fa fb)):=cT (Mf h d c) (pQ sU VZ)
def V0(h:aZ X a fa)(d:aZ X b fb)(c:behindInMarks .NotIn b=ag:=by with_unfolding_all rfl):vR X (.Compare a [.NotIn] [b] ν) (tV (aB (nQ ae) fa fb)):=cT (Sx h d c) (pQ sU VZ)
def Ja(d:aZ X a fa)(c:aZ X b fb):vR X (.Compare a [.Is] [b] ν) (tV (aB P7 fa fb)):=cT (Sw d c) (pQ AX Ri)
end
def O4(K:ao)(r:R2)(g:D->D->Option D):Prop:=∃f,O3 K r f/\Tells f g /\∀x y d,g x y=aa d ->∃b,d=.bl b
def Rh{K:ao}:O4 K (HN λi j=>.bl (Zv (i<j))) ltM:=⟨_,oP,fA,sV⟩
def Rf{K:ao}:O4 K (HN λi j=>.bl (Zv (i<=j))) leM:=⟨_,oP,fA,sV⟩
theorem TC{f g:F2}{p q:D->D->Option D}(n:Tells f p)(m:Tells g q){j h c:EF}(ρ:bK)(Q:D->Prop)(w:wE (jB p q j h c) ρ Q):C9 f g (wE j) (wE h) (wE c) ρ Q:=by
 obtain⟨d,e,k⟩:=w;obtain⟨x,ex,e⟩:=bnd e;obtain⟨y,v,e⟩:=bnd e;obtain⟨z,o,e⟩:=bnd e;obtain⟨b,l,a⟩:=bnd e;show⟨x,ex,y,v,n x y z _ o ?_⟩
 clear e
 cases z<;>first|cases l;done|skip
 cases l
 cases b with
 |true =>
  rw[Z_ rfl] at a;obtain⟨u,A,e⟩:=bnd a;show⟨u,A,m y u d Q e k⟩
 |false =>
  rw[Zz b_] at a;cases a;show k
theorem Z1(ho:gF X (compareOp op) r)(d:gF X (compareOp op') r')(n:O4 X.K r p)(h2:O4 X.K r' q)(m:aZ X a fa)(l:aZ X b fb)(j:aZ X c fc)
  (h:lastMarks [op,op'] [b,c]=ag:=by with_unfolding_all rfl):aZ X (.Compare a [op,op'] [b,c] ν) (jB p q fa fb fc):=by
 obtain⟨f,o1,t1,_⟩:=n;obtain⟨g,o2,t2,_⟩:=h2;show cE (Y8 ho d o1 o2 m l j h) (TC t1 t2)
section
variable{a b c:av}{Θ:List av}{ν:bq}{fa fb:EF}{ta tb tc:TF}
def AZ(d:vR X a ta):vR X (.UnaryOp .Not a ν) (nO ta):=cT (Sr d) λρ Q j=>by obtain⟨b,e,q⟩:=j;obtain⟨c,h,rfl⟩:=pP e;show⟨c,h,q⟩
def V1(d:vR X a ta):NS X (.BoolOp .And [a] ν) ta:=Mb d
def Iz(d:vR X a ta):NS X (.BoolOp .Or [a] ν) ta:=or1 d
theorem V2(j:vR X a ta)(h:NS X (.BoolOp .And (b::Θ) ν) tb):NS X (.BoolOp .And (a::b::Θ) ν) (kU ta tb):=cW (Sq j h) λρ Q m=>by
 obtain⟨d,e,q⟩:=m;obtain⟨c,l,e⟩:=bnd e;show⟨c,l,?_⟩
 cases c with
 |true=>rw[Z_ rfl] at e ⊢;show⟨d,e,q⟩
 |false=>rw[Zz b_] at e ⊢;cases e;show q
theorem Iw(j:vR X a ta)(h:NS X (.BoolOp .Or (b::Θ) ν) tb):NS X (.BoolOp .Or (a::b::Θ) ν) (WN ta tb):=cW (L_ j h) λρ Q m=>by
 obtain⟨d,e,q⟩:=m;obtain⟨c,l,e⟩:=bnd e;show⟨c,l,?_⟩
 cases c with
 |true=>rw[Z_ rfl] at e ⊢;cases e;show q
 |false=>rw[Zz b_] at e ⊢;show⟨d,e,q⟩
def IY{op}(d:aZ X a fa):aZ X (.BoolOp op [a] ν) fa:=Lw d
theorem DM(l:aZ X a fa)(j:aZ X (.BoolOp .And (b::Θ) ν) fb):aZ X (.BoolOp .And (a::b::Θ) ν) (jA fa fb):=cE (Lv l j) λρ Q m=>by
 obtain⟨d,e,q⟩:=m;obtain⟨x,ex,e1⟩:=bnd e;obtain⟨c,h,e⟩:=bnd e1
 clear e1
 show⟨x,ex,?_⟩;cases x<;>first|cases h;done|skip
 cases h
 cases c with
 |true=>rw[Z_ rfl] at e;show⟨d,e,q⟩
 |false=>rw[Zz b_] at e;cases e;show q
theorem or4(l:aZ X a fa)(j:aZ X (.BoolOp .Or (b::Θ) ν) fb):aZ X (.BoolOp .Or (a::b::Θ) ν) (qk fa fb):=cE (or3 l j) λρ Q m=>by
 obtain⟨d,e,q⟩:=m;obtain⟨x,ex,e1⟩:=bnd e;obtain⟨c,h,e⟩:=bnd e1
 clear e1
 show⟨x,ex,?_⟩;cases x<;>first|cases h;done|skip
 cases h
 cases c with
 |true=>rw[Z_ rfl] at e;cases e;show q
 |false=>rw[Zz b_] at e;show⟨d,e,q⟩
def Ah(j:aZ X a fa):aZ X (.UnaryOp .Not a ν) (tT fa):=cE (Lp j) λρ Q l=>by
 obtain⟨d,e,q⟩:=l;obtain⟨x,ex,e⟩:=bnd e;obtain⟨c,h,rfl⟩:=pP e;show⟨x,ex,?_⟩;cases x<;>first|cases h;done|skip
 cases h;show q
def Ag(h:aZ X a fa):aZ X (.UnaryOp .USub a ν) (zA fa):=cE (Lm h) λρ Q j=>by
 obtain⟨d,e,q⟩:=j;obtain⟨x,ex,e⟩:=bnd e;show⟨x,ex,?_⟩;cases x<;>first|cases e;done|skip
 cases e;show q
def uJ{e:av}{f:EF}(h:aZ X e f)(u:∀whole,isTrue e X.env whole=(do let v <- whole;standAt e.pos;holding [v] (truthy v)):=by intro _;rfl):vR X e (tV f) :=
 MY (LZ h u) λσ H Q A=>by
  obtain⟨S,ρ,Q3,y,q,⟨b,x,n⟩,k⟩:=A;obtain⟨d0,z,l⟩:=bnd x;show⟨S,ρ,λd=>d=d0,y,q,⟨d0,z,rfl⟩,λv H1 d m j q1=>?_⟩;subst q1
  cases d with
  |bl c=>cases l;symm at j;subst j;show⟨_,rfl,k _ H1 m n⟩
  |lst ds =>
   cases l;symm at j;obtain⟨a,xs,rfl,o,F,p⟩:=j;show⟨_,.inl ⟨xs,dS.of o,by rw[<- p.empty]⟩,k _ H1 m n⟩
  |tup ds =>
   cases l;symm at j;obtain⟨a,xs,rfl,o,p⟩:=j;show⟨_,.inr (.inl ⟨xs,(dZ.of o),by rw[<- p.empty]⟩),k _ H1 m n⟩
  |_=>cases l
end
end
section
variable{X:Cx}
def aK:qB X [] aJ:=cA Mm λ_ _ a=>by obtain⟨_,e,q⟩:=a;cases e;show q
def aC(h:aZ X e fe)(c:qB X es t)(a:Zr X e es:=by rfl):qB X (e::es) (aA fe t):=cA (Tg h c a) λρ Q m=>by obtain⟨ds,e,q⟩:=m;obtain⟨d,l,e⟩:=bnd e;obtain⟨r,j,e⟩:=bnd e;cases e;show⟨d,l,r,j,q⟩
def uK{x1}(h:qB X es t):aZ X (.Tuple es x1 ν) (gS t):=cE (Nj h) λρ Q c=>by obtain⟨d,e,q⟩:=c;obtain⟨ds,a,e⟩:=bnd e;show⟨ds,a,szl (x:=D.tup ds) e q⟩
def k7(h:qB X es t):i8 X (.List es ν) (dC t):=cF (Nh h) λρ Q c=>by obtain⟨d,e,q⟩:=c;obtain⟨ds,a,e⟩:=bnd e;show⟨ds,a,szl (x:=D.lst ds) e q⟩
def NV:Tells ixF dI:=λx y d Q e q=>by
 cases x<;>first|(cases e;done)|skip
 all_goals (cases y<;>first|(cases e;done)|skip)
 .have e:p7 _ _=aa d:=e;show(match p7 _ _ with|some d=>Q d|none=>False);rw[e];show q
 .have e:p7 _ _=aa d:=e;show(match p7 _ _ with|some d=>Q d|none=>False);rw[e];show q
 .obtain ⟨n,e1,rfl⟩:=pP e;have e1:p7 _ _=aa n:=e1;show(match p7 _ _ with|some n=>Q (.int n)|none=>False);rw[e1];show q
def lZ(h:aZ X a fa)(d:aZ X b fb)(c:xX b:=by intro _ _;rfl):aZ X (.Subscript a b ν) (aB dI fa fb):=cE (ix3 h d c) (eS NV)
def IZ:Tells ZS rA:=λx y d Q e q=>by
 cases x<;>first|cases e;done|skip
 rename_i ks ds;obtain⟨k,a,e⟩:=bnd e;have a:AR y=aa k:=by cases y<;>first|show a|cases a
 have e:g8 ks ds k=aa d:=e
 show(match D.gR ks ds,AR y with
  |.gR ks ds,aa k=>(match g8 ks ds k with|some d=>Q d|none=>False)
  |_,_=>False)
 rw[a];dsimp only;rw[e];show q
def Af(a:X.A.units+1<c_)(ho:aZ X o fo)(d:aZ X i fi)(c:IA i:=by intro _ _;rfl):aZ X (.Subscript o i ν) (aB rA fo fi):=cE (Jh a ho d c) (eS IZ)
def lS(f:F1)(g:List D->Option D):Prop:=∀(ds:List D) (d:D) (Q:D->Prop),g ds=aa d->Q d->f ds Q
def yI(h:lS f g)(ρ:bK)(Q:D->Prop)(w:wE (cL g t) ρ Q):IE f (wA t) ρ Q:=by obtain⟨d,e,q⟩:=w;obtain⟨ds,a,e⟩:=bnd e;show⟨ds,a,h ds d Q e q⟩
theorem JA:lS yG b7:=λds d Q e q=>by
 cases ds with
 |nil=>cases e
 |cons a ds =>
  cases a<;>first|(cases e;done)|skip
  all_goals (cases ds<;>first|(cases e;show q)|(cases e;done))
theorem A1:lS DB cQ:=λds d Q e q=>by
 cases ds with
 |nil=>cases e
 |cons a ds =>
  cases a<;>first|(cases e;done)|skip
  all_goals (cases ds<;>first|(cases e;show q)|(cases e;done))
theorem DN:lS NC uN:=λds d Q e q=>by
 cases ds with
 |nil=>cases e
 |cons a ds =>
  cases a<;>first|(cases e;done)|skip
  all_goals (cases ds<;>first|(cases e;show q)|(cases e;done))
def gM(a:X.mg "len"=af)(h:qB X [e] t)(c:Gl X "len":=by rfl)(d:Zr X e []:=by rfl):aZ X (.Call (.Name "len" p) [e] [] ν) (cL b7 t):=cE (Lj a h c d) (yI JA)
def fO(a:X.mg "tuple"=af)(h:qB X [e] t)(c:Gl X "tuple":=by rfl)(d:Zr X e []:=by rfl):aZ X (.Call (.Name "tuple" p) [e] [] ν) (cL cQ t):=cE (ZA a Cs h c d) (yI A1)
def Rc(a:X.mg "list"=af)(h:qB X [e] t)(c:Gl X "list":=by rfl)(d:Zr X e []:=by rfl):i8 X (.Call (.Name "list" p) [e] [] ν) (cL uN t):=cF (Sn a a0g h c d) (yI DN)
theorem vS:∀ds:List D,L3.intsOf ds=L4.intsOf ds
 |[]=>rfl
 |d::ds=>by
  cases d<;>first|rfl|skip
  show(L3.intsOf ds).map _=(L4.intsOf ds).map _;rw[vS ds]
theorem lT(a:Int):∀l:Q0e,(insI a l).Perm (a::l)
 |[]=>.refl _
 |b::l=>by
  unfold insI;split
  .exact .refl _
  .exact ((lT a l).cons b).trans (.swap a b l)
theorem jZ:∀l:Q0e,(sortI l).Perm l
 |[]=>.refl _
 |a::l=>(lT a (sortI l)).trans ((jZ l).cons a)
theorem nA(a:Int):∀l:Q0e,l.Pairwise (· <= ·)->(insI a l).Pairwise (· <= ·)
 |[],_=>by simp[insI]
 |b::l,h=>by
  unfold insI;split
  .rename_i hab;show fz.mpr ⟨λc d=>?_,h⟩;rcases bx.mp d with e|e
   .subst e;show hab
   .exact Ep hab ((fz.mp h).1 c e)
  .rename_i hab;show fz.mpr ⟨λc d=>?_,nA a l (fz.mp h).2⟩;rcases bx.mp ((lT a l).mem_iff.mp d) with e|e
   .subst e;lia
   .exact (fz.mp h).1 c e
theorem hZ:∀l:Q0e,(sortI l).Pairwise (· <= ·)
 |[]=>ze
 |a::l=>nA a _ (hZ l)
theorem lU:∀{l m:Q0e},l.Perm m->l.Pairwise (· <= ·)->m.Pairwise (· <= ·)->l=m
 |[],m,p,_,_=>by rw[p.nil_eq]
 |a::l,[],p,_,_=>by have:=p.length_eq;simp at this
 |a::l,b::m,p,h1,h2=>by
  have e:a=b:=by
   have m1:=p.mem_iff.mp (de (a:=a) (l:=l));have d:=p.mem_iff.mpr (de (a:=b) (l:=m));rcases bx.mp m1 with e|e
   .exact e
   .rcases bx.mp d with c|c
    .exact c.symm
    .have:=(fz.mp h2).1 a e;have:=(fz.mp h1).1 b c;lia
  subst e;rw[lU p.cons_inv (fz.mp h1).2 (fz.mp h2).2]
def yJ:lS NL gY:=λds d Q e q=>by
 unfold gY at e;split at e
 .rename_i a;obtain⟨ns,e1,e⟩:=bnd e;by_cases h:ns.length<64
  .rw [Z_ h] at e;cases e;show(match L3.intsOf a with|some ns=>ns.length<64 /\∀c:Q0e,c.Perm ns->c.Pairwise (· <= ·)->Q (.lst (c.map D.int))|none=>False);rw[vS,e1];show⟨h,λc p s=>?_⟩;rw[lU (p.trans (jZ ns).symm) s (hZ ns)];show q
  .rw [Zz h] at e;cases e
 .cases e
def TH(a:X.mg "sorted"=af)(h:qB X [e] t)(c:Gl X "sorted":=by rfl)(d:Zr X e []:=by rfl):i8 X (.Call (.Name "sorted" p) [e] [] ν) (cL gY t):=cF (SY a h c d) (yI yJ)
def JB:lS sumF GV:=λds d Q e q=>by
 unfold GV at e;split at e
 .rename_i a;obtain⟨ns,e1,rfl⟩:=pP e;have:=ints_of e1;subst this;rw[IS];show q
 .cases e
def Hk(h:X.calm=ae)(a:X.mg "sum"=af)(j:qB X [e] t)(c:Gl X "sum":=by rfl)(d:Zr X e []:=by rfl):aZ X (.Call (.Name "sum" p) [e] [] ν) (cL GV t):=cE (Io h a j c d) (yI JB)
def Z2(T:String)(d:D):BW T d=isT T d:=by cases d<;>rfl
theorem A2(A:DG T)(v:X.mg "isinstance"=af)(j:X.mg x=af)(n:bootBuiltins x=aa (.type T))(z:aZ X e f)(y:Gl X "isinstance":=by rfl)(l:Gl X x:=by rfl)(u:x ≠ "__name__":=by decide)(m:Zu x:=by decide)
  (o:ar [e,.Name x p2] X.env=(ag,eval e X.env)::ar [.Name x p2] X.env:=by rfl) (c:ar [.Name x p2] X.env=(ag,eval (.Name x p2) X.env)::ar [] X.env:=by rfl) (h:(cy ν (ar [.Name x p2] X.env)).any (·.1)=ag:=by rfl):
  aZ X (.Call (.Name "isinstance" p) [e,.Name x p2] [] ν) (i6 T f):=cE (Jk A v j n z y l u m o c h) λρ Q F=>by
 obtain⟨d,e,q⟩:=F;obtain⟨x,ex,e⟩:=bnd e;by_cases a:BX x=ae
 .rw [Z_ a] at e;cases e;show⟨x,ex,(by cases x<;>first|trivial|cases a),by show Q (.bl (isT T x));rw[<- Z2];show q⟩
 .rw [Zz a] at e;cases e
def BS(K:ao)(R:kT):Sp:=sp3 K λds Q=>∃d,R ds=.ok d/\Q d
inductive Cl (P:bg) (w:a_) (K:ao) (mg:Q0d) (ω:ba) (CX:CW) (k:Nat) (x:aj) (ps:Q0g) (sp:Sp):Prop
 |mk {f:ah} {fd:gc} (F:hJ P w K mg ω CX k f fd ps sp) (m:mg x=aa (.ref f)) (kp:keepIn K (.ref f)=ae) (b:Binds K fd ps []):Cl P w K mg ω CX k x ps sp
theorem Cl.up{P:bg}{w:a_}{K:ao}{mg:Q0d}{ω:ba}{CX:CW}{j k:Nat}{x:aj}{a:Q0g}{sp:Sp}(c:Cl P w K mg ω CX j x a sp)(h:j<=k:=by decide):Cl P w K mg ω CX k x a sp:=by obtain⟨F,m,q,b⟩:=c;show⟨F.mono h,m,q,b⟩
inductive Df (K:ao) (mg:Q0d) (x:aj) (st:cn) (ps:Q0g):Prop
 |mk {f:ah} {fd:gc} (a:Bw K gu x=aa (aa (.ref f))) (F:MO K x x st f fd) (m:mg x=aa (.ref f)) (b:Binds K fd ps []):Df K mg x st ps
theorem aCo{K:ao}{mg:Q0d}{h:ba}{x:aj}{st:cn}{j:Q0g}{f:ah}{p:ai}{o n:Option ah}{m:Array (Option ai)}{kV doc pm d ct:ai}(X:K.In h)(G:h.Ns gu mg)
  (b:∀us:Q0f,us.length=j.length->bindArgs (fnOf x x (m5 st) (bV st) (aF st) .none kV doc pm n d ct) ⟨us,[]⟩=pure (j.zip us)) (a:Bw K gu x=aa (aa (.ref f)))
  (l:K.lookup f=aa ⟨p,o,.func (fnOf x x (m5 st) (bV st) (aF st) .none kV doc pm n d ct),m⟩) (c:codeIn K d x=ae) (k:keepIn K (.ref f)=ae):Df K mg x st j:=⟨a,YZ l c k,PySem.W.mg_of X G a,.all b⟩
def u1(r:cZ k A):A.units+1<c_:=by have:=r.units;lia
def u2(r:cZ k A):A.units+2<c_:=by have:=r.units;lia
def u9(r:cZ k A):A.units+9<c_:=by have:=r.units;lia
theorem bJ(C:Cl X.Ω X.w X.K X.mg X.ω gI k x ps (BS X.K R))(l:cZ k X.A)
  (y:qB X (e::es) t) (o:Gl X x:=by rfl) (j:Zu x:=by decide) (u:Zr X e es:=by rfl) (a:Q0l X ν es:=by rfl):
  aZ X (.Call (.Name x p) (e::es) [] ν) (aN R t):=by
 obtain⟨F,m,n,v⟩:=C;show cE (Sm F l m n v y o j u a) λρ Q I=>?_;obtain⟨d,e,q⟩:=I;obtain⟨ds,z,e⟩:=bnd e;show⟨ds,z,d,?_,q⟩
 cases h:R ds with
 |ok d'=>rw[h] at e;cases e;rfl
 |no=>rw[h] at e;cases e
 |ex c=>rw[h] at e;cases e
def DO(v:X.calm=ae)(n:X.mg "list"=af)(c:X.mg "range"=af)(x:qB X [a] t)(o:Gl X "list":=by rfl)(l:Gl X "range":=by rfl)(m:ar [a] X.env=[(ag,eval a X.env)]:=by rfl)
  (u:ar [.Call (.Name "range" p2) [a] [] pos2] X.env=(ag,eval (.Call (.Name "range" p2) [a] [] pos2) X.env)::ar [] X.env:=by rfl):
  i8 X (.Call (.Name "list" p) [.Call (.Name "range" p2) [a] [] pos2] [] ν) (BY t):=cF (DH v n c x o l m u) λρ Q z=>by
 obtain⟨d,e,q⟩:=z;obtain⟨ds,y,e⟩:=bnd e;show⟨ds,y,?_⟩;split at e
 .rename_i j;by_cases h:j.natAbs<=16777216
  .rw [Z_ h] at e;cases e;show⟨⟨by lia,by lia⟩,q⟩
  .rw [Zz h] at e;cases e
 .cases e
section
variable{tg:av}
def gO(h:aZ X l f):TB X tg l (bI f):=cI (Sa h) λρ Q c=>by
 obtain⟨ds,e,q⟩:=c;obtain⟨d,a,e⟩:=bnd e;show⟨d,a,?_⟩;cases d<;>first|cases e;done|skip
 all_goals (cases e;show q)
def Z3(h:aA fa aJ ρ=aa as):∃a,fa ρ=aa a/\as=[a]:=by obtain⟨a,c,e⟩:=bnd h;cases e;show⟨a,c,rfl⟩
def d8(m:X.mg "range"=af)(o:aZ X a fa)(n:Gl X "range":=by rfl)(l:ar [a] X.env=[(ag,eval a X.env)]:=by rfl):TB X tg (.Call (.Name "range" p) [a] [] ν) (bX (aA fa aJ)):=cI (ZL m (aC o aK l) n l) λρ Q u=>by
 obtain⟨ds,e,q⟩:=u;obtain⟨as,d,e⟩:=bnd e;show⟨as,d,?_⟩;obtain⟨a,c,rfl⟩:=Z3 d
 clear d c
 cases a<;>first|cases e;done|skip
 rename_i j;by_cases h:j.natAbs<4611686018427387904
 .have e:(if j.natAbs<4611686018427387904 then aa ((bD 0 j.toNat).map D.int) else af)=aa ds:=e;rw[Z_ h] at e;cases e;show⟨⟨by lia,by lia⟩,q⟩
 .have e:(if j.natAbs<4611686018427387904 then aa ((bD 0 j.toNat).map D.int) else af)=aa ds:=e;rw[Zz h] at e;cases e
end
def DP(d:X.mg "enumerate"=af)(j:qB X [a] t)(h:Gl X "enumerate":=by rfl)(c:ar [a] X.env=[(ag,eval a X.env)]:=by rfl):TB X (.Tuple es kk tp) (.Call (.Name "enumerate" p) [a] [] ν) (rB t):=cI (DL d j h c) λρ Q m=>by obtain⟨ds,e,q⟩:=m;obtain⟨as,l,e⟩:=bnd e;show⟨as,l,?_⟩;unfold EH at e;split at e<;>first|(cases e;show q)|cases e
theorem sW:∀(ds a ys:List D) (Q:D->Prop),fP g t e ρ ds=aa ys->a.length+ds.length<=bj->Q (.lst (a++ys))->m9 (vq g) (wT t) (wE e) ρ ds a Q
 |[],a,ys,Q,h,_,q=>by cases h;rw[m9];simpa using q
 |d::ds,a,ys,Q,h,hl,q=>by
  rw[m9];obtain⟨ρ1,e1,h⟩:=bnd h;obtain⟨b,m,h⟩:=bnd h;simp only[fj] at hl;show⟨ρ1,e1,b,m,?_⟩
  cases b with
  |true =>
   rw[Z_ rfl] at h ⊢;obtain⟨y,l,h⟩:=bnd h;obtain⟨c,j,rfl⟩:=pP h;show⟨y,l,by lia,sW ds (a++[y]) c Q j (by simp;lia) (by simpa using q)⟩
  |false =>
   rw[Zz b_] at h ⊢;show sW ds a ys Q h ∅ q
def NW(ρ:bK)(Q:D->Prop)(w:wE (bT nl fr it g t e) ρ Q):FY nl fr (wI it) (vq g) (wT t) (wE e) ρ Q:=by
 obtain⟨d,h,q⟩:=w;obtain⟨ds,e1,h⟩:=bnd h;show⟨ds,e1,?_⟩;by_cases a:ds.length<=i5
 .rw [Z_ a] at h;obtain⟨ys,c,rfl⟩:=pP h;show sW ds [] ys Q c (by rw[fv,mq,o_];show a) (by simpa using q)
 .rw [Zz a] at h;cases h
abbrev NX(X:Cx)(nl:Nat)(a:av)(g:P8):Prop:=ZQ X nl a (vq g)
abbrev TJ(X:Cx)(ifs:List av)(t:TF):Prop:=NJ X ifs (wT t)
def cG(h:ZQ X nl tg g)(c:∀d ρ Q,g' d ρ Q->g d ρ Q):ZQ X nl tg g':=IG h λ_ _ _ _ n=>by obtain⟨S,ρ,d,Q3,j,m,a,dn,l,k⟩:=n;show⟨S,ρ,d,Q3,j,m,a,dn,c d ρ Q3 l,k⟩
def sY(nd:X.N.Nodup)(a:i<nl)(j:X.N[i]?=aa x:=by rfl)(h:Loc X.env.scope x:=by walk_at "0")(c:Zq X x:=by walk_at "2"):NX X nl (.Name x ν) (g1 i):=cG (Rx nd a j h c) λd ρ Q l=>by obtain⟨ρ',e,q⟩:=l;cases e;show q
theorem F6(h:uO d=aa p):d=.tup [p.1,p.2]:=by
 cases d<;>first|(cases h;done)|skip
 rename_i l
 cases l with
 |nil=>cases h
 |cons a l =>
  cases l with
  |nil=>cases h
  |cons b l =>
   cases l with
   |nil=>cases h;rfl
   |cons c l=>cases h
def Z4(I:X.calm=ae)(nd:X.N.Nodup)(m:i<nl)(l:j<nl)(F:X.N[i]?=aa x:=by rfl)(A:X.N[j]?=aa y:=by rfl)(v:Loc X.env.scope x:=by walk_at "0")(o:Zq X x:=by walk_at "2")(u:Loc X.env.scope y:=by walk_at "0")(n:Zq X y:=by walk_at "2")
  (z:Q0j X x y px py:=by rfl) (a:Q0i X x y px py:=by rfl)
  (h:gV X x y px py:=by rfl) (c:Q0h X y py:=by rfl):
  NX X nl (.Tuple [.Name x px,.Name y py] kk ν) (g2 i j):=cG (Ru I nd m l F A v o u n z a h c) λd ρ Q K=>by
 obtain⟨ρ',e,q⟩:=K;obtain⟨p,J,rfl⟩:=pP e;rw[F6 J];show q
def F7:TJ X [] cK:=λπ s σ H Q I d=>by obtain⟨S,ρ,Q3,c,a,⟨_,e,q⟩,k⟩:=d;cases e;show Jq π s σ H Q I ⟨S,ρ,Q3,c,a,q,k⟩
def NY(h:vR X c t):TJ X [c] t:=Rq h
section
variable{ls fs:Q0g}{fr:List Nat}{sc:fu}{tg iter elt:av}{ifs:List av}{ν:bq}{it:AF}{g:P8}{t:TF}{e:EF}
theorem NZ(m:X.calm=ae)(d:TB X tg iter it)
  (h:∀a C pn ex s H,(blk X (ls++fs) sc a C pn ex s H).N.Nodup->NX (blk X (ls++fs) sc a C pn ex s H) ls.length tg g) (j:∀a C pn ex s H,TJ (blk X (ls++fs) sc a C pn ex s H) ifs t) (l:∀a C pn ex s H,aZ (blk X (ls++fs) sc a C pn ex s H) elt e)
  (B:P5 X.env.scope.names sc X.N ls fs fr=ae:=by rfl) (c:Zo X iter:=by intro _;rfl):i8 X (.ListComp elt [⟨tg,iter,ifs,0⟩] sc ν) (bT ls.length fr it g t e):=cF (Te m d h j l B c) NW
variable{i:Nat}{x:aj}{spos pos':bq}
theorem oS(nd:X.N.Nodup)(u:X.calm=ae)(n:TB X tg iter it)
  (o:∀a C pn ex s H,(blk X (ls++fs) sc a C pn ex s H).N.Nodup->NX (blk X (ls++fs) sc a C pn ex s H) ls.length tg g) (p:∀a C pn ex s H,TJ (blk X (ls++fs) sc a C pn ex s H) ifs t) (q:∀a C pn ex s H,aZ (blk X (ls++fs) sc a C pn ex s H) elt e)
  (c:X.N[i]?=aa x:=by rfl) (l:X.env.scope.names.lookup x=aa .local:=by rfl) (j:gk (.ListComp elt [⟨tg,iter,ifs,0⟩] sc ν) (aa (.Name x pos')) spos.line X.env=pure ae:=by rfl)
  (B:P5 X.env.scope.names sc X.N ls fs fr=ae:=by rfl) (m:Zo X iter:=by intro _;rfl):uH X (.Assign [.Name x pos'] (.ListComp elt [⟨tg,iter,ifs,0⟩] sc ν) spos) (bH i (bT ls.length fr it g t e)) :=
 cS (II nd u n o p q c l j B m) λE ρ w=>by
  unfold wS bH at w;unfold ZD
  cases h:bT ls.length fr it g t e (fG ρ) with
  |none=>rw[h] at w;show w.elim
  |some d=>rw[h] at w;show NW _ _ ⟨d,h,w⟩
end
end
section
variable{X:Cx}
def cO(h:PO3 X e t)(c:∀ρ Q,t' ρ Q->t ρ Q):PO3 X e t':=λπ s σ H Q I l=>by obtain⟨S,ρ,Q3,j,a,d,k⟩:=l;show h π s σ H Q I ⟨S,ρ,Q3,j,a,c ρ Q3 d,k⟩
def po4(h:aZ X e f):PO4 X (aa e) (oE f):=cO (po3 h) λρ Q j=>by
 obtain⟨o,e,q⟩:=j;obtain⟨d,c,e⟩:=bnd e;obtain⟨i,a,rfl⟩:=pP e;show⟨d,c,?_⟩;cases d<;>first|cases a;done|skip
 cases a;show q
def sl4{e:av}{lo a:Option av}{p2 m:bq}{f:EF}{c j:OF}(p:aZ X e f)(n:PO4 X lo c)(o:PO4 X a j):aZ X (.Subscript e (.Slice lo a af p2) m) (WW f c j):=cE (sl3 p n o) λρ Q y=>by
 obtain⟨r,e,q⟩:=y;obtain⟨d,x,e⟩:=bnd e;obtain⟨l,u,e⟩:=bnd e;obtain⟨h,v,e⟩:=bnd e;show⟨d,x,l,u,h,v,?_⟩;cases d<;>first|cases e;done|skip
 all_goals (cases e;show q)
def px4(h:aZ X e f):F5 X e (J9 f):=cX (px3 h) λρ Q j=>by
 obtain⟨p,e,q⟩:=j;obtain⟨d,c,e⟩:=bnd e;show⟨d,c,?_⟩;by_cases a:d.wQ=ae
 .rw [Z_ a] at e;cases e;show⟨a,q⟩
 .rw [Zz a] at e;cases e
def DQ(h:aZ X e f):F5 X e (cB f):=cX (Kh h) λρ Q c=>by obtain⟨p,e,q⟩:=c;obtain⟨d,a,e⟩:=bnd e;cases e;show⟨d,a,q⟩
def DR(h:l6 o=aa ds):o=aa (.ow (.lst ds)):=by
 unfold l6 at h;split at h
 .cases h;rfl
 .cases h
def yK(f:List D->D->(List D->D->Prop)->Prop)(m:List D->D->Option (List D×D)):Prop:=∀ds d q (Q:List D->D->Prop),m ds d=aa q->Q q.1 q.2->f ds d Q
def Z6(h:yK f m)(ρ:aW)(Q:aW->D->Prop)(w:wX (qE i m x) ρ Q):og i f (wX x) ρ Q:=by obtain⟨r,e,q⟩:=w;obtain⟨ds0,e0,e⟩:=bnd e;obtain⟨p,j,e⟩:=bnd e;obtain⟨ds,e1,e⟩:=bnd e;obtain⟨z,d,rfl⟩:=pP e;have c:=DR e0;have o1:=DR e1;show⟨by rw[c];trivial,p,j,?_⟩;show(match p.1[i]? with|some (.ow (.lst ds))=>f ds p.2 λa r=>Q (p.1.set i (.ow (.lst a))) r|_=>False);rw[o1];show h ds p.2 z _ d q
def JC:yK ZF kX:=λds d q Q e k=>by
 unfold kX at e;by_cases h:ds.length<i5
 .rw [Z_ h] at e;cases e;show⟨by rw[fv];show h,k⟩
 .rw [Zz h] at e;cases e
def JD:yK ZH QB:=λds d q Q e k=>by
 cases d<;>first|cases e;done|skip
 rename_i i;have e:(if i.natAbs<9223372036854775808 then(WQ ds.length i).bind λj=>(ds[j]?).map λd=>(ds.eraseIdx j,d) else af)=aa q:=e;by_cases h:i.natAbs<9223372036854775808
 .rw [Z_ h] at e;obtain⟨j,a,e⟩:=bnd e;obtain⟨d,c,rfl⟩:=pP e;have a:R3 ds.length i=aa j:=a;show⟨⟨by lia,by lia⟩,?_⟩;show(match R3 ds.length i with|some j=>(match ds[j]? with|some d=>Q (ds.eraseIdx j) d|none=>False)|none=>False);rw[a];dsimp only;rw[c];show k
 .rw [Zz h] at e;cases e
def JE:yK ZT GX:=λds d q Q e k=>by
 cases d<;>first|cases e;done|skip
 rename_i es;have e:(if ds.length+es.length<=i5 then aa (ds++es,D.non) else af)=aa q:=e;by_cases h:ds.length+es.length<=i5
 .rw [Z_ h] at e;cases e;show⟨by rw[fv];show h,k⟩
 .rw [Zz h] at e;cases e
section
variable{i:Nat}{x:aj}{e:av}{p apos cpos:bq}{f:XF}
def TK(m:F5 X e f)(hN:X.N[i]?=aa x:=by rfl)(j:qN X.env.scope x:=by walk_at "1")(n:Zu x:=by decide)(h:Zt x:=by decide)
  (c:attributeBase (.Name x p) "append" X.env (eval (.Name x p) X.env)=eval (.Name x p) X.env:=by rfl)
  (d:Zp X cpos e:=by rfl)
  (a:Q0k apos cpos:=by rfl) (l:Zr X e []:=by rfl):
  F5 X (.Call (.Attribute (.Name x p) "append" apos) [e] [] cpos) (qE i kX f):=cX (Ke m hN j n h c d a l) (Z6 JC)
def Gv(m:F5 X e f)(hN:X.N[i]?=aa x:=by rfl)(j:qN X.env.scope x:=by walk_at "1")(n:Zu x:=by decide)(h:Zt x:=by decide)
  (c:attributeBase (.Name x p) "pop" X.env (eval (.Name x p) X.env)=eval (.Name x p) X.env:=by rfl)
  (d:Zp X cpos e:=by rfl)
  (a:Q0k apos cpos:=by rfl) (l:Zr X e []:=by rfl):
  F5 X (.Call (.Attribute (.Name x p) "pop" apos) [e] [] cpos) (qE i QB f):=cX (Kd m hN j n h c d a l) (Z6 JD)
def TL(m:F5 X e f)(hN:X.N[i]?=aa x:=by rfl)(j:qN X.env.scope x:=by walk_at "1")(n:Zu x:=by decide)(h:Zt x:=by decide)
  (c:attributeBase (.Name x p) "extend" X.env (eval (.Name x p) X.env)=eval (.Name x p) X.env:=by rfl)
  (d:Zp X cpos e:=by rfl)
  (a:Q0k apos cpos:=by rfl) (l:Zr X e []:=by rfl):
  F5 X (.Call (.Attribute (.Name x p) "extend" apos) [e] [] cpos) (qE i GX f):=cX (S3 m hN j n h c d a l) (Z6 JE)
end
def gU:fU X [] dJ:=zv Kz λ_ _ w=>w
theorem Rb(E:DE)(ρ:aW)(w:wS (aO f g) E ρ):ZC (wS f) (wS g) E ρ:=by
 unfold wS aO at w;unfold ZC wS
 cases h:f ρ with
 |nx ρ'=>rw[h] at w;show w
 |rt d=>rw[h] at w;show w
 |no=>rw[h] at w;show w
 |ex c=>rw[h] at w;show w
def bB{st:cn}{a:List cn}{f g:SF}(c:uH X st f)(h2:fU X a g):fU X (st::a) (aO f g):=zv (Kx c h2) Rb
def aS{st:cn}{f:SF}(a:uH X st f):fU X [st] f:=Sj a
theorem dW(h:aZ X e f):uH X (.Return (aa e) ν) (cC f):=cS (Ku h) λE ρ w=>by
 unfold wS cC at w
 cases h:f (bA ρ) with
 |none=>rw[h] at w;show w.elim
 |some d=>rw[h] at w;show⟨d,h,w⟩
theorem gP(d:vR X c t)(l:fU X a f)(j:fU X b g):uH X (.If c a b ν) (gZ t f g):=cS (Kr d l j) λE ρ w=>by
 unfold wS gZ at w
 cases h:t (bA ρ) with
 |none=>rw[h] at w;show w.elim
 |some c =>
  rw[h] at w;show⟨c,h,?_⟩
  cases c with
  |true=>rw[Z_ rfl];show w
  |false=>rw[Zz b_];show w
section
variable{i:Nat}{x:aj}{e:av}{f:EF}{ν pos':bq}
theorem d6(hN:X.N.Nodup)(m:aZ X e f)(j:X.N[i]?=aa x:=by rfl)(a:Loc X.env.scope x:=by walk_at "0")(c:Si X e x pos' ν:=by rfl)(l:Zq X x:=by walk_at "0"):
  uH X (.Assign [.Name x pos'] e ν) (bH i f):=cS (Kn hN m j a c l) λE ρ w=>by
 unfold wS bH at w
 cases h:f (fG ρ) with
 |none=>rw[h] at w;show w.elim
 |some d=>rw[h] at w;show⟨d,h,w⟩
theorem JF(hN:X.N.Nodup)(m:i8 X e f)(j:X.N[i]?=aa x:=by rfl)(a:Loc X.env.scope x:=by walk_at "0")(c:Si X e x pos' ν:=by rfl)(l:Zq X x:=by walk_at "0"):
  uH X (.Assign [.Name x pos'] e ν) (l7 i f):=cS (Kl hN m j a c l) λE ρ w=>by
 unfold wS l7 at w
 cases h:f (fG ρ) with
 |none=>rw[h] at w;show w.elim
 |some d=>rw[h] at w;show⟨d,h,w⟩
theorem Ra(hN:X.N.Nodup)(n:i8 X e f)(l:X.N[i]?=aa x:=by rfl)(c:Loc X.env.scope x:=by walk_at "0")(j:Si X e x pos' ν:=by rfl)(m:Zq X x:=by walk_at "0"):
  uH X (.Assign [.Name x pos'] e ν) (rD i f):=cS (S_ hN n l c j m) λE ρ w=>by
 unfold wS rD at w
 cases h:f (bA ρ) with
 |none=>rw[h] at w;show w.elim
 |some d =>
  rw[h] at w;dsimp only at w;by_cases a:rC d=ae
  .rw [Z_ a] at w;show⟨d,h,?_,w⟩;cases d<;>first|show a|cases a
  .rw [Zz a] at w;show w.elim
def N0(hN:X.N.Nodup)(d:X.N[i]?=aa x:=by rfl)(a:Loc X.env.scope x:=by walk_at "0")(c:gk (.Dict [] [] p) (aa (.Name x pos')) ν.line X.env=pure ag:=by rfl)(h:Zq X x:=by walk_at "0"):
  uH X (.Assign [.Name x pos'] (.Dict [] [] p) ν) (zE i):=cS (NN hN d a c h) λE ρ w=>w
end
theorem vT(c:F5 X e f)(a:gk e af ν.line X.env=pure ag:=by rfl):uH X (.Expr e ν) (sX f):=cS (Se c a) λE ρ w=>by
 unfold wS sX at w
 cases h:f ρ with
 |none=>rw[h] at w;show w.elim
 |some d=>rw[h] at w;show⟨d,h,w⟩
def JG(h:rE o=aa p):o=aa (.ow (.gR p.1 p.2)):=by
 unfold rE at h;split at h
 .cases h;rfl
 .cases h
theorem Q_(u:X.A.units+1<c_)(z:F5 X e f)(y:aZ X k fk)
  (hN:X.N[i]?=aa x:=by rfl) (n:qN X.env.scope x:=by walk_at "1") (F:Zu x:=by decide) (l:Zt x:=by decide)
  (v:gk e (aa (.Subscript (.Name x p) k pos')) ν.line X.env=pure ag:=by rfl):
  uH X (.Assign [.Subscript (.Name x p) k pos'] e ν) (EI i f fk):=cS (Tb u z y hN n F l v) λE ρ w=>by
 unfold wS EI at w;cases h:((f ρ).bind λp=>(rE p.1[i]?).bind λkd=>(fk (bA p.1)).bind λa=>(qZ a).bind λc =>
  if(gX kd.1 kd.2 c).isNone=ae/\kd.2.length<i5 then aa (p.1.set i (.ow (.gR (kd.1++[c]) (kd.2++[p.2])))) else af) with
 |none=>rw[h] at w;show w.elim
 |some ρ' =>
  rw[h] at w;obtain⟨q,I,h⟩:=bnd h;obtain⟨kd,K,h⟩:=bnd h;obtain⟨a,J,h⟩:=bnd h;obtain⟨c,m,h⟩:=bnd h;have o:=JG K;by_cases j:(gX kd.1 kd.2 c).isNone=ae/\kd.2.length<i5
  .rw [Z_ j] at h;cases h;show⟨q,I,by rw[o];trivial,a,J,?_⟩;have L:AR a=aa c:=by cases a<;>first|show m|cases m
   show(match q.1[i]?,AR a with
    |some (.ow (.gR ks ds)),aa k=>(g8 ks ds k=af/\ds.length<bj)/\E.nx (q.1.set i (.ow (.gR (ks++[k]) (ds++[q.2]))))
    |_,_=>False)
   rw[o,L];show⟨⟨?_,by rw[fv];show j.2⟩,w⟩;have:=j.1
   cases hl:gX kd.1 kd.2 c with
   |none=>show hl
   |some d=>rw[hl] at this;cases this
  .rw [Zz j] at h;cases h
def zw(h:SU X tg g)(c:∀d ρ Q,g' d ρ Q->g d ρ Q):SU X tg g':=IG h λ_ _ _ _ l=>by obtain⟨H₀,S,w,ρ,G,d,Q3,a,st,dn,j,k⟩:=l;show⟨H₀,S,w,ρ,G,d,Q3,a,st,dn,c d ρ Q3 j,k⟩
def nB(hN:X.N.Nodup)(c:X.N[i]?=aa x:=by rfl)(a:Loc X.env.scope x:=by walk_at "0")(h:Zq X x:=by walk_at "0"):SU X (.Name x ν) (wG (tQ i)) :=
 zw (Rz hN c a h) λd ρ Q j=>by obtain⟨ρ',e,q⟩:=j;cases e;show q
def V3(A:X.calm=ae)(hN:X.N.Nodup)(v:X.N[i]?=aa x:=by rfl)(u:X.N[j]?=aa y:=by rfl)(n:Loc X.env.scope x:=by walk_at "0")(m:Loc X.env.scope y:=by walk_at "0")
  (z:Zq X x:=by walk_at "0") (l:Zq X y:=by walk_at "0")
  (o:Q0j X x y px py:=by rfl) (a:Q0i X x y px py:=by rfl)
  (h:gV X x y px py:=by rfl) (c:Q0h X y py:=by rfl):
  SU X (.Tuple [.Name x px,.Name y py] k ν) (wG (PZ i j)):=zw (Ry A hN v u n m z l o a h c) λd ρ Q I=>by
 obtain⟨ρ',e,q⟩:=I;obtain⟨p,F,rfl⟩:=pP e;rw[F6 F];show q
theorem uL(q:X.calm=ae)(p:Cf (au X.Ω X.w) X.A X.env X.xe)(m:TB X tg iter it)(l:SU X tg (wG g))(j:fU X body b)
  (o:Zo X iter:=by intro _;rfl):uH X (.For tg iter body [] ν) (eT it g b):=cS (Le q p m l j o) λE ρ w=>by
 unfold wS eT at w
 cases h:it (fG ρ) with
 |none=>rw[h] at w;show w.elim
 |some ds =>
  rw[h] at w;show⟨ds,h,λi ρ'=>wS (fH g b (ds.drop i)) E ρ',(by show wS (fH g b (ds.drop 0)) E ρ;rw[se];show w),λi d ρ' n a=>?_,λρ' a=>?_⟩
  .have m:i<ds.length:=(dh.mp n).1;have e1:ds[i]=d:=(dh.mp n).2;have a:wS (fH g b (ds.drop i)) E ρ':=a;rw[nz m,e1] at a;unfold wS fH at a
   cases l:g d ρ' with
   |none=>rw[l] at a;show a.elim
   |some ρ1 =>
    rw[l] at a;dsimp only at a;show⟨ρ1,l,?_⟩;unfold wS
    cases j:b ρ1 with
    |nx ρ2=>rw[j] at a;dsimp only;rw[j];show a
    |rt d=>rw[j] at a;dsimp only;rw[j];show a
    |no=>rw[j] at a;dsimp only;rw[j];show a
    |ex c=>rw[j] at a;dsimp only;rw[j];show a
  .have a:wS (fH g b (ds.drop ds.length)) E ρ':=a;rw[a0V] at a;show a
end
theorem Ae{P:bg}{w:a_}{K:ao}{mg:Q0d}{ω:ba}{x qual:aj}{st:cn}{f:ah}{fd:gc}{N l:Q0g}{k n m:Nat}{b:SF}(F:MO K x qual st f fd)(S:cH N l (aF st))(u:N.length=n)(p:l.length=m)
  (j:∀(a:ai) (A:br) (Γ:List df) (s:ak) (H:Hp) (E:XK),cZ k (A.deeper (envOfC qual (aF st) s.heap.objs.size f a)) ->
   fU (eQ gI P w K mg ω N qual (aF st) f a A Γ s H E).CN (bV st) b):hJ P w K mg ω gI (k+1) f fd l (BS K (bM n m b)):=by
 subst u p;show Kj F S (λds Q ⟨d,e,q⟩=>?_) λa A Γ s H E o=>⟨_,j a A Γ s H E o,λds Q ⟨d,e,q⟩=>?_⟩
 .unfold bM at e;by_cases h:ds.length=l.length
  .exact h
  .rw [Zz h] at e;cases e
 .unfold bM at e;by_cases h:ds.length=l.length
  .rw [Z_ h] at e;have v:eX N ds=bL N.length ds:=rfl;unfold wS;rw[v]
   cases hb:b (bL N.length ds) with
   |rt d'=>rw[hb] at e;cases e;show q
   |nx ρ=>rw[hb] at e;cases e;show q
   |no=>rw[hb] at e;cases e
   |ex c=>rw[hb] at e;cases e
  .rw [Zz h] at e;cases e
theorem fd4{P:bg}{w:a_}{K:ao}{mg:Q0d}{ω:ba}{x:aj}{st:cn}{N c:Q0g}{k n d:Nat}{b:SF}(D:Df K mg x st c)
  (h:∀{f:ah} {a:ai} {A:br} {Γ:List df} {s:ak} {H:Hp} {E:XK},cZ k (A.deeper (envOfC x (aF st) s.heap.objs.size f a))->N.Nodup->fU (eQ gI P w K mg ω N x (aF st) f a A Γ s H E).CN (bV st) b)
  (S:cH N c (aF st):=by show⟨rfl,rfl,rfl,by decide+kernel,rfl,by decide+kernel,by decide+kernel⟩) (o:N.length=n:=by rfl) (l:c.length=d:=by rfl):Cl P w K mg ω gI (k+1) x c (BS K (bM n d b)):=by
 obtain⟨_,F,m,q⟩:=D;show⟨Ae F S o l λ_ _ _ _ _ _ j=>h j S.nd,m,F.kp,q⟩
def Qz{P:bg}{w:a_}{K:ao}{mg:Q0d}{ω:ba}{k:Nat}{f:ah}{fd:gc}{a:Q0g}:hJ P w K mg ω gI k f fd a (BS K λ_=>.no) :=
 ⟨λ_ _ _ _ h=>(by obtain⟨_,_,_,_,_,⟨_,e,_⟩,_⟩:=h;cases e),λ_ _ _ _ _ _ _ _ _ _ _ _ _ h=>(by obtain⟨_,_,_,_,_,⟨_,e,_⟩,_⟩:=h;cases e)⟩
def nn4{P:bg}{w:a_}{K:ao}{mg:Q0d}{ω:ba}{k:Nat}{x:aj}{st:cn}{a:Q0g}(D:Df K mg x st a):Cl P w K mg ω gI k x a (BS K λ_=>.no):=by obtain⟨_,F,m,q⟩:=D;show⟨Qz,m,F.kp,q⟩
section
variable{X:Cx}{π:Q0b}{σ:L2.St}{H:Hp}
theorem pR(I:Φ X π σ H s)(d:Ψ x v)(e:x=.bl k\/(∃p xs,x=.ref p/\(dS X.K H p xs\/dZ X.K H p xs)/\k=!xs.isEmpty))
  (q:∀j,Q k {s with toks:=j}):ax (au X.Ω X.w) A (truthy v) Q E s:=by
 have m:bj=16777216:=fv;rcases e with rfl|⟨p,xs,rfl,a,rfl⟩
 .cases d;show ko (q s.toks)
 .cases d;rcases a with a|a
  .obtain ⟨h,r,c,l⟩:=I.list a;have hlen:=r.length;show Vu c.isList (by simp only[cu];lia) (by rw[iV r];show q _)
  .obtain ⟨h,r,c,l⟩:=I.tuple a;have hlen:=r.length;show Zi c (by simp only[cu];lia) (by rw[iV r];show q _)
def TrV(K:ao)(H:Hp)(x:V)(k:Bool):Prop:=x=.bl k\/(∃p xs,x=.ref p/\(dS K H p xs\/dZ K H p xs)/\k=!xs.isEmpty)
def vU(h:j<n):(cm n).drop j=j::(cm n).drop (j+1):=by
 have a:j<(cm n).length:=by rw[jk];show h
 rw[nz a,List.getElem_range]
section
variable{it:ah}{fp wr:List ah}{n:Nat}{P:Nat->ai->Prop}{St:Nat->ba->Prop}{R:xp->ak->Prop}{tr:Nat->Bool}
theorem vV(W:Walks X.Ω X.w X.A.in1 it fp wr n P St)(h:∀b∈wr,k6 X π H b)(l:∀j v,P j v ->∃x,Ψ x v/\TrV X.K H x (tr j)):
  ∀(m j:Nat) (st:ak),m+j=n->Φ X π σ H st->St j st.heap->(∀a,Φ X π σ H a->R (.ok (.ret (.bool (((cm n).drop j).any tr)))) a)->ly (au X.Ω X.w) X.A (.builtin "any.loop" ⟨[.ref it],[]⟩) R st
 |0,j,st,hj,I,hS,k=>by
  obtain rfl:j=n:=by lia
  show lx (Yv) ?_;rw[nj xw];show aq (W.done st _ _ hS λh2 t2 d=>aq (i_ (az ?_)));have:=k _ (AS (t':=t2) I d h)
  rwa [sg (by simp)] at this
 |m+1,j,st,hj,I,hS,k=>by
  have c:j<n:=by lia
  show lx (Yv) ?_;rw[nj xw];show aq (W.item j st _ _ c hS λv h2 t2 y q d=>?_);have p:Φ X π σ H {st with heap:=h2,toks:=t2}:=AS (t':=t2) I d h;obtain⟨x,u,z⟩:=l j v y;rw[vU c,kc] at k;show aq (iq (pR p u z λt3=>aq (Bk ?_)));have o:Φ X π σ H {st with heap:=h2,toks:=t3}:=p.tok t3
  cases hb:tr j with
  |false =>
   rw[hb,a06] at k;rw[Zz b_];show az ⟨qq xw _,vV W h l m (j+1) _ ∅ o q k⟩
  |true =>
   rw[hb,a04] at k;rw[Z_ rfl];show aq (i_ (az (k _ o)))
theorem vW(W:Walks X.Ω X.w X.A.in1 it fp wr n P St)(h:∀b∈wr,k6 X π H b)(l:∀j v,P j v ->∃x,Ψ x v/\TrV X.K H x (tr j)):
  ∀(m j:Nat) (st:ak),m+j=n->Φ X π σ H st->St j st.heap->(∀a,Φ X π σ H a->R (.ok (.ret (.bool (((cm n).drop j).all tr)))) a)->ly (au X.Ω X.w) X.A (.builtin "all.loop" ⟨[.ref it],[]⟩) R st
 |0,j,st,hj,I,hS,k=>by
  obtain rfl:j=n:=by lia
  show lx (Yw) ?_;rw[nj xx];show aq (W.done st _ _ hS λh2 t2 d=>aq (i_ (az ?_)));have:=k _ (AS (t':=t2) I d h)
  rwa [sg (by simp)] at this
 |m+1,j,st,hj,I,hS,k=>by
  have c:j<n:=by lia
  show lx (Yw) ?_;rw[nj xx];show aq (W.item j st _ _ c hS λv h2 t2 y q d=>?_);have p:Φ X π σ H {st with heap:=h2,toks:=t2}:=AS (t':=t2) I d h;obtain⟨x,u,z⟩:=l j v y;rw[vU c,mr] at k;show aq (iq (pR p u z λt3=>aq (Bk ?_)));have o:Φ X π σ H {st with heap:=h2,toks:=t3}:=p.tok t3
  cases hb:tr j with
  |true =>
   rw[hb,vj] at k;rw[Z_ rfl];show az ⟨qq xx _,vW W h l m (j+1) _ ∅ o q k⟩
  |false =>
   rw[hb,sh] at k;rw[Zz b_];show aq (i_ (az (k _ o)))
end
def Z7(f:List Bool->Bool)(K:ao):List V->Hp->VK->Prop:=λxs H Q=>∃a ys bs,xs=[.ref a]/\H a=aa (.lst ys)/\bs.length=ys.length/\(∀(j:Nat) (y:V) (b:Bool),ys[j]?=aa y->bs[j]?=aa b->TrV K H y b)/\Q (.bl (f bs)) H
def JH(hc:X.calm=ae):d4 X (.builtin "any") (Z7 (λbs=>bs.any id) X.K):=by
 intro π s σ H xs us Q I r h;obtain⟨a,ys,bs,rfl,ha,hl,Y,q⟩:=h;obtain⟨u,rfl,d⟩:=vals1 r;cases d;obtain⟨c,J,p,hz⟩:=I.list (dS.of ha);have y:a<s.heap.objs.size:=by obtain⟨o,n,e,_⟩:=p;show bz e
 have Z:c.length=ys.length:=J.length.symm;have l:∀j v,c.toArray[j]?=aa v ->∃x,Ψ x v/\TrV X.K H x (bs.getD j ae):=λj v e=>by
  have e1:c[j]?=aa v:=by simpa using e
  have L:j<ys.length:=by have:=(dh.mp e1).1;lia
  obtain⟨u,O,d⟩:=J.get (cj L);rw[e1] at O;cases O;show⟨_,d,Y j _ _ (cj L) ?_⟩;rw[kb,cj ∅];rfl
 show Xe (F.kind_any) F.plain_any F.entry_any (F.args_any1 _) ?_;unfold Builtin.«any»;show aq (m:=oneArg "any" _) (az (aq (wy p.isList (az ⟨qq xw _,?_⟩))));have z:H s.heap.objs.size=af:=I.hok.fresh (bp _);have I1:Φ X π σ H {s with heap:=s.heap.push {cls:=.type "list_iterator",data:=.fields #[.ref a,rawInt 0]} }:=I.kept (t':=s.toks) λb o e=>cx _ e;show vV (X:=X) (π:=π) (σ:=σ) (H:=H) (tr:=λj=>bs.getD j ae) (Xg (A:=X.A.in1) (show X.A.in1.handled=af from I.ok.hd hc) s.heap.objs.size a (fq y) c.toArray) (λb hb=>?_) l c.toArray.size 0 _ rfl I1
  ⟨⟨_,fw _ rfl,rfl,rfl⟩,p.isList.at λo e=>cx _ e⟩ λU I'=>?_
 .cases cg.mp hb;show I.xS (bp _) z
 .refine ⟨.bl _,H,I',rfl,?_⟩;rw[se,show c.toArray.size=bs.length by simp[Z,hl],range_any];show q
def JI(hc:X.calm=ae):d4 X (.builtin "all") (Z7 (λbs=>bs.all id) X.K):=by
 intro π s σ H xs us Q I r h;obtain⟨a,ys,bs,rfl,ha,hl,Y,q⟩:=h;obtain⟨u,rfl,d⟩:=vals1 r;cases d;obtain⟨c,J,p,hz⟩:=I.list (dS.of ha);have y:a<s.heap.objs.size:=by obtain⟨o,n,e,_⟩:=p;show bz e
 have Z:c.length=ys.length:=J.length.symm;have l:∀j v,c.toArray[j]?=aa v ->∃x,Ψ x v/\TrV X.K H x (bs.getD j ae):=λj v e=>by
  have e1:c[j]?=aa v:=by simpa using e
  have L:j<ys.length:=by have:=(dh.mp e1).1;lia
  obtain⟨u,O,d⟩:=J.get (cj L);rw[e1] at O;cases O;show⟨_,d,Y j _ _ (cj L) ?_⟩;rw[kb,cj ∅];rfl
 show Xe (F.kind_all) F.plain_all F.entry_all (F.args_all1 _) ?_;unfold Builtin.«all»;show aq (m:=oneArg "all" _) (az (aq (wy p.isList (az ⟨qq xx _,?_⟩))));have z:H s.heap.objs.size=af:=I.hok.fresh (bp _);have I1:Φ X π σ H {s with heap:=s.heap.push {cls:=.type "list_iterator",data:=.fields #[.ref a,rawInt 0]} }:=I.kept (t':=s.toks) λb o e=>cx _ e;show vW (X:=X) (π:=π) (σ:=σ) (H:=H) (tr:=λj=>bs.getD j ae) (Xg (A:=X.A.in1) (show X.A.in1.handled=af from I.ok.hd hc) s.heap.objs.size a (fq y) c.toArray) (λb hb=>?_) l c.toArray.size 0 _ rfl I1
  ⟨⟨_,fw _ rfl,rfl,rfl⟩,p.isList.at λo e=>cx _ e⟩ λU I'=>?_
 .cases cg.mp hb;show I.xS (bp _) z
 .refine ⟨.bl _,H,I',rfl,?_⟩;rw[se,show c.toArray.size=bs.length by simp[Z,hl],range_all];show q
theorem V4{K:ao}{S:ah->Prop}{H:Hp}:∀{p:List D} {ys:List V} {bs:List Bool},aH K S H p ys->k9 p=aa bs->bs.length=ys.length /\∀(j:Nat) (y:V) (b:Bool),ys[j]?=aa y->bs[j]?=aa b->TrV K H y b
 |[],ys,bs,dn,h=>by simp only[aH] at dn;subst dn;cases h;show⟨rfl,λj y b e=>by simp at e⟩
 |d::p,ys,bs,dn,h=>by
  obtain⟨v,r,rfl,l,h2⟩:=dn.aX;obtain⟨b,m,h⟩:=bnd h;obtain⟨F,A,rfl⟩:=pP h;obtain⟨z,x⟩:=V4 h2 A;show⟨by simp[z],λj y c o q=>?_⟩
  cases j with
  |zero =>
   simp at o q;subst o q;cases d<;>first|cases m;done|skip
   .cases m;symm at l;show .inl l
   .cases m;symm at l;obtain⟨a,xs,rfl,n,u⟩:=l;show .inr ⟨a,xs,rfl,.inr (dZ.of n),by rw[<- u.empty]⟩
   .cases m;symm at l;obtain⟨a,xs,rfl,n,_,u⟩:=l;show .inr ⟨a,xs,rfl,.inl (dS.of n),by rw[<- u.empty]⟩
  |succ j=>show x j y c (by simpa using o) (by simpa using q)
def trF(f:List Bool->Bool):F1
 |[.lst es],Q=>∃bs,k9 es=aa bs/\Q (.bl (f bs))
 |_,_=>False
theorem N2{K:ao}{f:List Bool->Bool}:C3 K (Z7 f K) (trF f):=by
 intro S H xs ds Q3 Q p l j k
 match ds,j with
 |[.lst es],⟨bs,eb,q⟩ =>
  obtain⟨v,r,rfl,c,h2⟩:=l.aX;simp only[aH] at h2;subst h2;symm at c;obtain⟨a,ys,rfl,m,o,n⟩:=c;obtain⟨h,d⟩:=V4 n eb;show⟨a,ys,bs,rfl,m,h,d,k _ H _ (ξ.refl H) (by symm) q⟩
def Gq{p a:bq}{e:av}{t:AF}(l:X.calm=ae)(c:X.mg "any"=af)(m:qB X [e] t)(h:Gl X "any":=by rfl)(j:Zr X e []:=by rfl):aZ X (.Call (.Name "any" p) [e] [] a) (cL anyM t) :=
 cE (yE (JH l) N2 a2i h c m (by decide) (by decide) j (by rfl)) (yI λds d Q e q=>by
  unfold anyM at e;split at e
  .obtain ⟨bs,n,rfl⟩:=pP e;show⟨bs,n,q⟩
  .cases e)
def TN{p a:bq}{e:av}{t:AF}(l:X.calm=ae)(c:X.mg "all"=af)(m:qB X [e] t)(h:Gl X "all":=by rfl)(j:Zr X e []:=by rfl):aZ X (.Call (.Name "all" p) [e] [] a) (cL allM t) :=
 cE (yE (JI l) N2 a2j h c m (by decide) (by decide) j (by rfl)) (yI λds d Q e q=>by
  unfold allM at e;split at e
  .obtain ⟨bs,n,rfl⟩:=pP e;show⟨bs,n,q⟩
  .cases e)
end
end L4
namespace L3
open PySem.Spec PyProof.Rows L2
end L3
namespace L4
open PySem.Spec PyProof.Rows L2 L3
open PySem.W
noncomputable def told(lt:Nat->Nat->Bool){α:Type}:ox α->α
 |.ret a=>a
 |.ask i j k=>told lt (k (lt i j))
theorem fX{α a:Type}(f:α->ox a):∀t:ox α,told lt (t.bind f)=told lt (f (told lt t))
 |.ret _=>rfl
 |.ask i j k=>fX f (k (lt i j))
section
variable{lt:Nat->Nat->Bool}
def Up(lt:Nat->Nat->Bool)(p:Array Nat)(k:Nat):Prop:=∀i j,i<j->j<k->lt (p.getD j 0) (p.getD i 0)=ag
def J6(lt:Nat->Nat->Bool)(p:Array Nat)(k:Nat):Prop:=∀i j,i<j->j<k->lt (p.getD i 0) (p.getD j 0)=ag
structure eJ (lt:Nat->Nat->Bool):Prop where
 as:∀a b,lt a b=ae->lt b a=ag
 tr:∀a b c,lt b a=ag->lt c b=ag->lt c a=ag
theorem eJ.G2(O:eJ lt)(x:Nat):lt x x=ag:=by
 cases hb:lt x x with
 |false=>rfl
 |true=>have:=O.as _ _ hb;rw[hb] at this;show this
def b9{p:Array Nat}{i:Nat}:p.getD i 0=(p[i]?).getD 0:=by rw[Array.getD_eq_getD_getElem?]
def bP{p:Array Nat}{i j:Nat}(a:j<=p.size)(k:Nat):(gw p i j).getD k 0=if i<=k/\k<j then p.getD (i+j-1-k) 0 else p.getD k 0:=by unfold gw;rw[b9,getElem?_mirror_all a];split<;>rw[b9]
def sZ(p:Array Nat)(i j:Nat):(gw p i j).size=p.size:=mirror_size _ _ _ _
def c9(p:Array Nat)(i j:Nat):(gw p i j).Perm p:=mirror_perm _ _ _ _
theorem DT(O:eJ lt)(p:Array Nat):∀f n,1<=n->Up lt p n->n<=told lt (jh p f n)/\told lt (jh p f n)<=n+f/\Up lt p (told lt (jh p f n))/\(told lt (jh p f n)<n+f->lt (p.getD (told lt (jh p f n)) 0) (p.getD (told lt (jh p f n)-1) 0)=ae)
 |0,n,h1,hu=>⟨bp _,bp _,hu,λh=>Zw h (jq _)⟩
 |f+1,n,h1,hu=>by
  show n<=told lt (if lt (p.getD n 0) (p.getD (n-1) 0)=ae then nh n else jh p f (n+1))/\told lt (if lt (p.getD n 0) (p.getD (n-1) 0)=ae then nh n else jh p f (n+1))<=n+(f+1)/\Up lt p (told lt (if lt (p.getD n 0) (p.getD (n-1) 0)=ae then nh n else jh p f (n+1)))/\(told lt (if lt (p.getD n 0) (p.getD (n-1) 0)=ae then nh n else jh p f (n+1))<n+(f+1)->lt (p.getD (told lt (if lt (p.getD n 0) (p.getD (n-1) 0)=ae then nh n else jh p f (n+1))) 0) (p.getD (told lt (if lt (p.getD n 0) (p.getD (n-1) 0)=ae then nh n else jh p f (n+1))-1) 0)=ae)
  cases hc:lt (p.getD n 0) (p.getD (n-1) 0) with
  |true=>show⟨bp _,by show n<=n+(f+1);lia,hu,λ_=>hc⟩
  |false =>
   rw[Zz b_];have l:Up lt p (n+1):=λi j o u=>by
    by_cases m:j<n
    .exact hu i j o m
    .have:j=n:=by lia
     subst this;by_cases q:i=j-1
     .subst q;show hc
     .exact O.tr _ _ _ (hu i (j-1) ∅ ∅) hc
   obtain⟨a,b,c,d⟩:=DT O p f (n+1) ∅ l;show⟨by lia,by lia,c,λh=>d ∅⟩
def Z8(a:n<=p.size)(h:J6 lt p n):Up lt (gw p 0 n) n:=λi j d c=>by rw[bP a,bP a,Z_ ⟨by lia,c⟩,Z_ ⟨by lia,by lia⟩];show h _ _ ∅ ∅
def Last(lt:Nat->Nat->Bool)(p:Array Nat)(n q:Nat):Prop:=q+1<=n /\∀i j,n-(q+1)<=i->i<n->n-(q+1)<=j->j<n->lt (p.getD i 0) (p.getD j 0)=ag
def rev_last(d:n<=p.size)(h:J6 lt p n)(l:Last lt p n q):J6 lt (gw p (n-(q+1)) n) n:=λi j c a=>by
 have:=l.1;rw[bP d,bP d];by_cases m:n-(q+1)<=i
 .rw [Z_ ⟨m,by lia⟩,Z_ ⟨by lia,a⟩];show l.2 _ _ ∅ ∅ ∅ ∅
 .rw [Zz ∅];by_cases h2:n-(q+1)<=j
  .rw [Z_ ⟨h2,a⟩];show h _ _ ∅ ∅
  .rw [Zz ∅];show h i j c a
def iG(O:eJ lt)(o:1<=n)(h:J6 lt p n)(d:lt (p.getD (n-1) 0) (p.getD n 0)=ag):J6 lt p (n+1):=λi j c m=>by
 by_cases a:j<n
 .exact h i j c a
 .have:j=n:=by lia
  subst this;by_cases l:i=j-1
  .subst l;show d
  .exact O.tr _ _ _ d (h i (j-1) ∅ ∅)
def N3(a:n<p.size):(gw p (n-(q+1)) n).getD n 0=p.getD n 0:=by rw[bP (lj a),Zz ∅]
theorem qR(O:eJ lt):∀f (p:Array Nat) n q,1<=n->n+f<=p.size->J6 lt p n->Last lt p n q ->∀r,r=told lt (oo f p n q)->r.1.Perm p/\r.2.1<=n+f/\n<=r.2.1/\J6 lt r.1 r.2.1/\Last lt r.1 r.2.1 r.2.2
 |0,p,n,q,_,_,h,l,r,m=>by subst m;show⟨my _,bp _,bp _,h,l⟩
 |f+1,p,n,q,h1,hs,h,l,r,m=>by
  have m:r=told lt (if lt (p.getD n 0) (p.getD (n-1) 0)=ae then(if q>0 then oo f (gw p (n-(q+1)) n) (n+1) 0 else oo f p (n+1) 0) else .ask (p.getD (n-1) 0) (p.getD n 0) λd=>if d=ae then .ret (p,n,q) else oo f p (n+1) (q+1)):=m;have one:∀p:Array Nat,Last lt p (n+1) 0:=λp=>⟨by lia,λi j a b c d=>by
   have e1:i=n:=by lia
   have z:j=n:=by lia
   rw[e1,z];show O.G2 _⟩
  cases hc:lt (p.getD n 0) (p.getD (n-1) 0) with
  |true =>
   rw[hc,Z_ rfl] at m;have o:=O.as _ _ hc;by_cases v:q>0
   .rw [Z_ v] at m;have F:=rev_last ∅ h l;have y:=l.1;have A:J6 lt (gw p (n-(q+1)) n) (n+1):=by show iG O h1 F ?_;rw[N3 ∅,bP ∅,Z_ ⟨by lia,by lia⟩];show O.tr _ (p.getD (n-1) 0) _ o (l.2 _ _ ∅ ∅ ∅ ∅)
    obtain⟨a,b,c,d,e⟩:=qR O f (gw p (n-(q+1)) n) (n+1) 0 ∅ (by rw[sZ];lia) A (one _) r m;show⟨a.trans (c9 _ _ _),by lia,by lia,d,e⟩
   .rw [Zz v] at m;obtain⟨a,b,c,d,e⟩:=qR O f p (n+1) 0 ∅ ∅ (iG O h1 h o) (one _) r m;show⟨a,by lia,by lia,d,e⟩
  |false =>
   rw[hc,Zz b_] at m;have m:r=told lt (if lt (p.getD (n-1) 0) (p.getD n 0)=ae then nh (p,n,q) else oo f p (n+1) (q+1)):=m
   cases hd:lt (p.getD (n-1) 0) (p.getD n 0) with
   |true =>
    rw[hd,Z_ rfl] at m;subst m;show⟨my _,by show n<=n+(f+1);lia,bp _,h,l⟩
   |false =>
    rw[hd,Zz b_] at m;have y:=l.1;have l2:Last lt p (n+1) (q+1):=⟨by lia,λi j a b c d=>by
     by_cases x:i<n
     .by_cases u:j<n
      .exact l.2 i j ∅ x ∅ u
      .have:j=n:=by lia
       subst this;show O.tr _ (p.getD (j-1) 0) _ hd (l.2 i (j-1) ∅ x ∅ ∅)
     .have:i=n:=by lia
      subst this;by_cases u:j<i
      .exact O.tr _ (p.getD (i-1) 0) _ (l.2 (i-1) j ∅ ∅ ∅ u) hc
      .have:j=i:=by lia
       subst this;show(one p).2 j j ∅ ∅ ∅ ∅⟩
    obtain⟨a,b,c,d,e⟩:=qR O f p (n+1) (q+1) ∅ ∅ (iG O h1 h hd) l2 r m;show⟨a,by lia,by lia,d,e⟩
def vX{p q:Array Nat}(h:p.Perm q):p.size=q.size:=h.size_eq
def F8(O:eJ lt)(j:1<=n)(m:n<=nrem)(l:nrem<=p.size)(h:J6 lt p n)(r:Nat×Array Nat)(d:r=told lt (Ca n nrem p)):r.2.Perm p/\1<=r.1/\r.1<=nrem/\Up lt r.2 r.1:=by unfold Ca at d;rw[fX] at d;obtain⟨a,b,c,_⟩:=DT O (gw p 0 n) (nrem-n) n j (Z8 ∅ h);subst d;show⟨c9 _ _ _,ig j a,(by show told lt _<=nrem;lia),c⟩
def pS(O:eJ lt){n nrem:Nat}{p:Array Nat}(I:1<=n)(F:n+1<=nrem)(A:nrem<=p.size)(h:J6 lt p (n+1))(r:Nat×Array Nat)(l:r=told lt (xi n nrem p)):r.2.Perm p/\1<=r.1/\r.1<=nrem/\Up lt r.2 r.1:=by
 unfold xi at l;rw[fX] at l;have one:Last lt p (n+1) 0:=⟨by lia,λi j a b c d=>by
  have e1:i=n:=by lia
  have x:j=n:=by lia
  rw[e1,x];show O.G2 _⟩
 obtain⟨a,b,c,d,e⟩:=qR O (nrem-(n+1)) p (n+1) 0 ∅ ∅ h one _ rfl;generalize told lt (oo (nrem-(n+1)) p (n+1) 0)=z at a b c d e l;have y:=vX a;by_cases v:z.2.2>0
 .rw [Z_ v] at l;obtain⟨u,q,o,m⟩:=F8 O (n:=z.2.1) (nrem:=nrem) (p:=gw z.1 (z.2.1-(z.2.2+1)) z.2.1) ∅ ∅ (by rw[sZ];lia) (rev_last ∅ d e) r l;show⟨u.trans ((c9 _ _ _).trans a),q,o,m⟩
 .rw [Zz v] at l;obtain⟨u,q,o,m⟩:=F8 O (n:=z.2.1) (nrem:=nrem) (p:=z.1) ∅ ∅ ∅ d r l;show⟨u.trans a,q,o,m⟩
def N4(O:eJ lt)(X:1<=n)(y:n<=p.size)(r:Nat×Array Nat)(h:r=told lt (xj n p)):r.2.Perm p/\1<=r.1/\r.1<=n/\Up lt r.2 r.1:=by
 unfold xj at h;rw[fX] at h;obtain⟨a,b,c,d⟩:=DT O p (n-1) 1 (bp _) (λi j o u=>by lia);generalize told lt (jh p (n-1) 1)=m at a b c d h;by_cases q:(m == n)=ae
 .rw [Z_ q] at h;subst h;show⟨my _,a,by show m<=n;lia,c⟩
 .rw [Zz q] at h;have q:m≠n:=λe=>q (by rw[e];simp);have l:=d ∅;by_cases h2:m>1
  .rw [Z_ h2] at h;have h:r=told lt (if lt (p.getD 0 0) (p.getD (m-1) 0)=ae then nh (m,p) else xi m n (gw p 0 m)):=h
   cases hc:lt (p.getD 0 0) (p.getD (m-1) 0) with
   |true =>
    rw[hc,Z_ rfl] at h;subst h;show⟨my _,a,by show m<=n;lia,c⟩
   |false =>
    rw[hc,Zz b_] at h;have all:∀i j,i<m->j<m->lt (p.getD i 0) (p.getD j 0)=ag:=λi j z u=>by
     have F:∀i,i<m->lt (p.getD 0 0) (p.getD i 0)=ag:=λi z=>by
      by_cases I:i=m-1
      .subst I;show hc
      .exact O.tr _ _ _ (c i (m-1) ∅ ∅) hc
     have G2:∀x,lt x x=ag:=λx=>by
      cases hb:lt x x with
      |false=>rfl
      |true=>have:=O.as _ _ hb;rw[hb] at this;show this
     have A:lt (p.getD i 0) (p.getD 0 0)=ag:=by
      by_cases v:i=0
      .subst v;show G2 _
      ·-- a later one is not less than the first one
       show c 0 i ∅ z
     show O.tr _ _ _ (F j u) A
    have dn:J6 lt (gw p 0 m) (m+1):=by
     show iG O a (λi j o u=>?_) ?_
     .rw [bP ∅,bP ∅,Z_ ⟨by lia,by lia⟩,Z_ ⟨by lia,by lia⟩];show all _ _ ∅ ∅
     .rw [bP ∅,bP ∅,Z_ ⟨by lia,by lia⟩,Zz ∅];show O.tr _ (p.getD (m-1) 0) _ (O.as _ _ l) (all _ _ ∅ ∅)
    obtain⟨U,L,K,J⟩:=pS O a ∅ (by rw[sZ];show y) dn r h;show⟨U.trans (c9 _ _ _),L,K,J⟩
  .rw [Zz h2] at h;have:m=1:=by lia
   subst this;have dn:J6 lt p (1+1):=iG O (bp _) (λi j o u=>by lia) (O.as _ _ l);show pS O (bp _) ∅ y dn r h
theorem tE(O:eJ lt)(p:Array Nat)(k:Nat):∀f l r,l<=r->r<=k->r-l<=f->Up lt p k->(∀i,i<l->lt (p.getD k 0) (p.getD i 0)=ag)->(∀i,r<=i->i<k->lt (p.getD i 0) (p.getD k 0)=ag) ->
  told lt (jo p k f l r)<=k/\(∀i,i<told lt (jo p k f l r)->lt (p.getD k 0) (p.getD i 0)=ag) /\∀i,told lt (jo p k f l r)<=i->i<k->lt (p.getD i 0) (p.getD k 0)=ag
 |0,l,r,hlr,hr,hf,_,h1,h2=>by
  have:l=r:=by lia
  subst this;show⟨hr,h1,h2⟩
 |f+1,l,r,hlr,hr,hf,hu,h1,h2=>by
  unfold jo;by_cases a:l >= r
  .rw [Z_ a];have:l=r:=by lia
   subst this;show⟨hr,h1,h2⟩
  .rw [Zz a];show told lt (if lt (p.getD k 0) (p.getD ((l+r)/2) 0)=ae then jo p k f l ((l+r)/2) else jo p k f ((l+r)/2+1) r)<=k/\(∀i,i<told lt (if lt (p.getD k 0) (p.getD ((l+r)/2) 0)=ae then jo p k f l ((l+r)/2) else jo p k f ((l+r)/2+1) r)->lt (p.getD k 0) (p.getD i 0)=ag) /\∀i,told lt (if lt (p.getD k 0) (p.getD ((l+r)/2) 0)=ae then jo p k f l ((l+r)/2) else jo p k f ((l+r)/2+1) r)<=i->i<k->lt (p.getD i 0) (p.getD k 0)=ag
   cases hc:lt (p.getD k 0) (p.getD ((l+r)/2) 0) with
   |true =>
    rw[Z_ rfl];show tE O p k f l ((l+r)/2) ∅ ∅ ∅ hu h1 λi h c=>?_;by_cases d:i=(l+r)/2
    .subst d;show O.as _ _ hc
    .exact O.tr _ _ _ (O.as _ _ hc) (hu _ i ∅ c)
   |false =>
    rw[Zz b_];show tE O p k f ((l+r)/2+1) r ∅ hr ∅ hu (λi h=>?_) h2;by_cases d:i=(l+r)/2
    .subst d;show hc
    .exact O.tr _ _ _ (hu i ((l+r)/2) ∅ ∅) hc
def F9{p:Array Nat}{k l:Nat}(c:k<p.size)(d:l<=k)(i:Nat):(bubble p k (k-l)).getD i 0=if i=l then p.getD k 0 else if l<i/\i<=k then p.getD (i-1) 0 else p.getD i 0:=by
 rw[b9,a0c c _ ∅,show k-(k-l)=l by lia];by_cases a:i=l
 .rw [Z_ a,Z_ a,b9]
 .rw [Zz a,Zz a];by_cases h2:l<i/\i<=k
  .rw [Z_ h2,Z_ h2,b9]
  .rw [Zz h2,Zz h2,b9]
theorem N5(O:eJ lt):∀f (p:Array Nat) k,k+f<=p.size->Up lt p k->(told lt (xk f p k)).Perm p/\Up lt (told lt (xk f p k)) (k+f)
 |0,p,k,_,h=>⟨my _,h⟩
 |f+1,p,k,hs,h=>by
  unfold xk;rw[fX];obtain⟨a,b,c⟩:=tE O p k k 0 k ∅ (bp _) ∅ h (λi x=>by lia) (λi x v=>by lia);generalize told lt (jo p k k 0 k)=l at a b c;have u:k<p.size:=by lia
  have h2:Up lt (bubble p k (k-l)) (k+1):=λi j q y=>by
   rw[F9 u a,F9 u a];by_cases d:j=l
   .rw [Z_ d,Zz ∅,Zz ∅];show b i ∅
   .rw [Zz d];by_cases m:l<j/\j<=k
    .rw [Z_ m];by_cases n:i=l
     .rw [Z_ n];show c (j-1) ∅ ∅
     .rw [Zz n];by_cases o:l<i/\i<=k
      .rw [Z_ o];show h _ _ ∅ ∅
      .rw [Zz o];show h _ _ ∅ ∅
    .rw [Zz m,Zz ∅,Zz ∅];show h _ _ q ∅
  obtain⟨e,g⟩:=N5 O f (bubble p k (k-l)) (k+1) (by rw[bubble_size];lia) h2;show⟨e.trans (Cr _ _ _),by rw[show k+(f+1)=k+1+f by lia];show g⟩
def TQ(O:eJ lt){n:Nat}(j:1<=n):(told lt (t_ n)).Perm (yt (cm n))/\Up lt (told lt (t_ n)) n:=by
 unfold t_;rw[fX];obtain⟨a,b,c,d⟩:=N4 O (n:=n) (p:=yt (cm n)) j (by simp) _ rfl;generalize told lt (xj n (yt (cm n)))=r at a b c d;have l:r.2.size=n:=by rw[vX a];simp
 by_cases h:r.1<n
 .rw [Z_ h,show max r.1 1=r.1 by lia];obtain⟨e,g⟩:=N5 O (n-r.1) r.2 r.1 ∅ d;show⟨e.trans a,by rw[show r.1+(n-r.1)=n by lia] at g;show g⟩
 .rw [Zz h];have:r.1=n:=by lia
  show⟨a,by rw[<- this];show d⟩
end
open HS
section
variable{Ω:bg}{w:a_}{A:br}{s:ak}{Q:Bool->ak->Prop}
theorem Z9:∀(us:Q0f) (vs:Q0f) (as bs:Q0e) (i:Nat) (fin:Bool),(fin=Zv (us.length<vs.length))->ki us as->ki vs bs->Q (d9 as bs) s->KatLex Ω w A ae fin Q (us.zip vs) i s:=by
 intro us
 induction us with
 |nil =>
  intro vs as bs i fin d h c q;cases h
  cases c with
  |nil=>subst d;show q
  |cons b t' c=>subst d;simpa[KatLex,d9] using q
 |cons u us ih =>
  intro vs as bs i fin d h c q
  cases h with
  |cons a t h =>
   cases c with
   |nil=>subst d;simpa[KatLex,d9] using q
   |cons b t' c =>
    rename_i as vs bs;show B_ (Wj (kat_go (λe=>?_) (λe=>?_)))
    .have e:a=b:=by simpa using e
     show Bz (ih _ _ _ (i+1) fin (by rw[d];simp) h c ?_);simpa[d9,e] using q
    .have e:a≠b:=by simpa using e
     have q:Q (Zv (a<b)) s:=by simpa[d9,e] using q
     show kat_no ?_
     cases hc:(ae&&i == 0) with
     |true=>show oneLt_int q
     |false=>show kat_one _ _ (yf q)
end
noncomputable def GA(n:Nat){α:Type}:ox α->(α->Prop)->Prop
 |.ret a,Q=>Q a
 |.ask i j k,Q=>i<n/\j<n /\∀b,GA n (k b) Q
theorem iH{n:Nat}{α c:Type}{f:α->ox c}{Q:c->Prop}:∀(t:ox α),GA n t (λa=>GA n (f a) Q)->GA n (t.bind f) Q
 |.ret a,h=>h
 |.ask i j k,h=>⟨h.1,h.2.1,λb=>iH (k b) (h.2.2 b)⟩
def Rg(n:Nat)(p:Array Nat):Prop:=p.Perm (yt (cm n))
theorem Rg.lt(h:Rg n p)(a:1<=n)(k:Nat):p.getD k 0<n:=by
 rw[b9]
 cases q:p[k]? with
 |none=>show a
 |some x =>
  have:x∈p:=Array.mem_of_getElem? q;have:=h.mem_iff.mp this;simpa using this
section
variable{n:Nat}
theorem yL(a:1<=n)(h:Rg n p)(q:∀m,Q m):∀f m,GA n (jh p f m) Q
 |0,m=>q m
 |f+1,m=>⟨h.lt a _,h.lt a _,λb=>by
  cases b with
  |true=>show q m
  |false=>show yL a h q f (m+1)⟩
theorem nE(a:1<=n)(q:∀r,Rg n r.1->Q r):∀f p m k,Rg n p->GA n (oo f p m k) Q
 |0,p,m,k,h=>q _ h
 |f+1,p,m,k,h=>⟨h.lt a _,h.lt a _,λb=>by
  cases b with
  |true =>
   show GA n (if k>0 then _ else _) Q;by_cases c:k>0
   .rw [Z_ c];show nE a q f _ _ _ ((c9 _ _ _).trans h)
   .rw [Zz c];show nE a q f _ _ _ h
  |false=>show⟨h.lt a _,h.lt a _,λd=>by
    cases d with
    |true=>show q _ h
    |false=>show nE a q f _ _ _ h⟩⟩
def A3(c:1<=n){Q:Nat×Array Nat->Prop}(q:∀r,Rg n r.2->Q r){m k:Nat}{p:Array Nat}(h:Rg n p):GA n (Ca m k p) Q :=
 iH _ (yL c ((c9 _ _ _).trans h) (λa=>q (a,gw p 0 m) ((c9 _ _ _).trans h)) _ _)
def nF(a:1<=n){Q:Nat×Array Nat->Prop}(q:∀r,Rg n r.2->Q r){m k:Nat}{p:Array Nat}(h:Rg n p):GA n (xi m k p) Q :=
 iH _ (nE a (λr c=>by
  by_cases d:r.2.2>0
  .rw [Z_ d];show A3 a q ((c9 _ _ _).trans c)
  .rw [Zz d];show A3 a q c) _ _ _ _ h)
def JJ(a:1<=n){Q:Nat×Array Nat->Prop}(q:∀r,Rg n r.2->Q r){k:Nat}{p:Array Nat}(h:Rg n p):GA n (xj k p) Q :=
 iH _ (yL a h (λm=>by
  by_cases e:(m == k)=ae
  .rw [Z_ e];show q _ h
  .rw [Zz e];by_cases d:m>1
   .rw [Z_ d];show⟨h.lt a _,h.lt a _,λc=>by
     cases c with
     |true=>show q _ h
     |false=>show nF a q ((c9 _ _ _).trans h)⟩
   .rw [Zz d];show nF a q h) _ _)
theorem oU(a:1<=n)(h:Rg n p)(q:∀m,Q m)(k:Nat):∀f l r,GA n (jo p k f l r) Q
 |0,l,r=>q l
 |f+1,l,r=>by
  unfold jo;by_cases e:l >= r
  .rw [Z_ e];show q l
  .rw [Zz e];show⟨h.lt a _,h.lt a _,λc=>by
    cases c with
    |true=>show oU a h q k f _ _
    |false=>show oU a h q k f _ _⟩
theorem GB(a:1<=n){Q:Array Nat->Prop}(q:∀p,Q p):∀f p k,Rg n p->GA n (xk f p k) Q
 |0,p,k,h=>q p
 |f+1,p,k,h=>iH _ (oU a h (λl=>GB a q f _ _ ((Cr _ _ _).trans h)) k _ _ _)
def N6(a:1<=n){Q:Array Nat->Prop}(q:∀p,Q p):GA n (t_ n) Q :=
 iH _ (JJ a (λr c=>by
  by_cases e:r.1<n
  .rw [Z_ e];show GB a q _ _ _ c
  .rw [Zz e];show q _) (my _))
variable{X:Cx}
def iI(a:Q0a)(i:Nat):List Int:=(a[i]?).getD []
theorem GC(h:∀i j (C:Bool->ak->Prop),i<n->j<n->C (lt i j) s->oq Ω w A κ vs i j C s){α:Type}:∀(t:ox α) (Q:α->ak->Prop),GA n t (λ_=>True)->Q (told lt t) s->t.kasWp (oq Ω w A κ vs) Q s
 |.ret a,Q,_,q=>q
 |.ask i j k,Q,sf,q=>h i j _ sf.1 sf.2.1 (GC h (k (lt i j)) Q (sf.2.2 _) q)
def DU(K:ao):List V->Hp->VK->Prop:=λxs H Q=>∃(a:ah) (d:List ah) (c:Q0a),xs=[.ref a]/\H a=aa (.lst (d.map V.ref))/\d.length=c.length/\2<=c.length/\c.length<64 /\
 (∀(j:Nat) (p:ah) (t:Q0e),d[j]?=aa p->c[j]?=aa t->dZ K H p (t.map V.int)/\t≠[]) /\
 ∀h:List Nat,h.Perm (cm c.length)->(∀i j:Nat,i<j->j<c.length->d9 (iI c (h.getD j 0)) (iI c (h.getD i 0))=ag) ->∀q,H q=af->Q (.ref q) (upd H q (.lst (h.map λi=>V.ref (d.getD i 0))))
theorem vY:∀{a:List ah} {us:Q0f},θ (a.map V.ref) us->us=a.map dq
 |[],_,.nil=>rfl
 |p::a,_,.cons r t=>by rw[vY t];rw[show _=dq p from r];rfl
theorem bZ.live(x:L2.bZ P w H h a o):∃u,h.get? a=aa u:=by
 cases o with
 |lst xs=>obtain⟨_,_,_,_,e⟩:=x;show⟨_,e⟩
 |tup xs=>obtain⟨_,_,_,⟨_,e,_⟩,_⟩:=x;show⟨_,e⟩
 |dK χ=>obtain⟨_,_,_,_,o,_,_,e,_⟩:=x;show⟨_,e⟩
 |dT χ=>obtain⟨_,_,_,_,o,_,_,e,_⟩:=x;show⟨_,e⟩
 |dX ob χ=>obtain⟨_,_,e,_⟩:=x;show⟨_,e⟩
 |set S n=>obtain⟨o,_,_,_,e,_⟩:=x;show⟨_,e⟩
 |ins C dx fs=>obtain⟨_,_,_,e,_⟩:=x;show⟨_,e⟩
 |own y=>obtain⟨_,e⟩:=x;show⟨_,e⟩
 |xd fs=>obtain⟨_,⟨_,_,_,e,_⟩,_⟩:=x;show⟨_,e⟩
 |rng lo hi=>obtain⟨_,_,_,e⟩:=x;show⟨_,e⟩
 |pZ ob u=>obtain⟨e,_⟩:=x;show⟨_,e⟩
 |E8 q=>obtain⟨_,e,_⟩:=x;show⟨_,e⟩
 |met f y=>show⟨_,(show h.get? a=aa _ from x)⟩
 |ext φ=>obtain⟨_,⟨_,e⟩,_⟩:=x;show⟨_,e⟩
def yM:d4 X (.builtin "sorted") (DU X.K):=by
 intro π s σ H xs us Q I r h;obtain⟨a,A,F,rfl,ha,hl,h2,gg,ht,q⟩:=h;obtain⟨u,rfl,ru⟩:=vals1 r;cases ru;obtain⟨ι,rv,pl,hz⟩:=I.list (dS.of ha);have Gp:=vY rv;subst Gp;obtain⟨m,hns,_⟩:=id I.loc;have hL:=I.lt;have hn:(A.map dq).length=F.length:=by rw[bo];show hl
 have tup:∀(j:Nat),j<F.length ->∃(p:ah) (us:Q0f),A[j]?=aa p/\h_ s.heap p us.toArray/\ki us (iI F j)/\iI F j≠[]/\(A.map dq).getD j gq=.ref p:=λj hj=>by
  obtain⟨q1,q2⟩:=ht j A[j] F[j] (by simp[hl,hj]) (by simp[hj]);obtain⟨us,ru,pt,_⟩:=I.tuple q1;show⟨A[j],us,by simp[hl,hj],pt,?_,?_,by simp[hl,hj]⟩
  .unfold iI;rw[cj hj];show intsAre_of ru
  .unfold iI;rw[cj hj];show q2
 show kat_sorted (h₀:=x9 s.heap) (L:=X.env.locals) (m:=m) (news:=ledger s.heap X.env.locals s.heap.objs.size) (vs:=A.map dq) (YY hns) (λp hp=>?_) pl.isList ∅ ∅ λD e1 h' F' N' hD=>?_
 .obtain ⟨x,o⟩:=p;obtain⟨n1,_,e⟩:=iW.mp hp;show⟨e,n1,sG _ _⟩
 have J:∀b o,b≠X.env.locals->s.heap.get? b=aa o->h'.get? b=aa o:=λb o U e =>
  (N' (b,o) (gf _ (iW.mpr ⟨U,fq (bz e),e⟩))).1
 have yN:∀{p:ah} {us:Array ai},h_ s.heap p us->p≠X.env.locals:=λ{p us} ⟨o,e,c,n,d⟩ z=>by subst z;obtain⟨o2,es,ep,e2,d2,_⟩:=hns;rw[e] at e2;cases e2;rw[d] at d2;cases d2
 -- the kind: tuples that begin with ints
 have kt:∀(Y:List ah) (fs:Q0f),Y.length=fs.length->(∀(j:Nat) (p:ah) (f:ai),Y[j]?=aa p->fs[j]?=aa f ->∃us:Array ai,h_ h' p us/\us[0]?=aa f)->KatTups h' (Y.map dq) fs:=by
  intro Y
  induction Y with
  |nil=>intro fs hf _;cases fs;show trivial;simp at hf
  |cons p Y ih =>
   intro fs hf h
   cases fs with
   |nil=>simp at hf
   |cons f fs =>
    obtain⟨us,⟨o,e,c,n,d⟩,u0⟩:=h 0 p f rfl rfl;show Xt e c d u0 (ih fs (by simpa using hf) λj p' f' h1 h2=>h (j+1) p' f' (by simpa using h1) (by simpa using h2))
 have heads:∃fs:Q0f,fs.length=A.length/\(∀v∈fs,∃i t,v=kr i t) /\∀(j:Nat) (p:ah) (f:ai),A[j]?=aa p->fs[j]?=aa f ->∃us:Array ai,h_ h' p us/\us[0]?=aa f:=by
  have:∀k,k<=A.length ->∃fs:Q0f,fs.length=k/\(∀v∈fs,∃i t,v=kr i t) /\∀(j:Nat) (p:ah) (f:ai),A[j]?=aa p->fs[j]?=aa f ->∃us:Array ai,h_ h' p us/\us[0]?=aa f:=by
   intro k
   induction k with
   |zero=>intro _;show⟨[],rfl,λv hv=>(nomatch hv),λj p f _ e=>by simp at e⟩
   |succ k ih =>
    intro hk;obtain⟨fs,f1,f2,f3⟩:=ih ∅;obtain⟨p,us,hp,pt,hi,ne,_⟩:=tup k ∅;obtain⟨i,t,us',rfl⟩:∃i t us',us=kr i t::us':=by
     generalize iI F k=w at hi ne
     cases hi with
     |nil=>show Zw rfl ne
     |cons n t r=>show⟨n,t,_,rfl⟩
    show⟨fs++[kr i t],by simp[f1],λv hv=>?_,λj p' f' h1 h2=>?_⟩
    .rcases gn.mp hv with h|h
     .exact f2 v h
     .exact ⟨i,t,cg.mp h⟩
    .by_cases hj:j<k
     .rw [j_ ∅] at h2;show f3 j p' f' h1 h2
     .have:j=k:=by have:=(dh.mp h2).1;simp[f1] at this;lia
      subst this;rw[jz ∅,f1,a0s] at h2;rw[hp] at h1;cases h1;have h2:kr i t=f':=by simpa using h2
      subst h2;obtain⟨o,e,c⟩:=id pt;show⟨_,⟨o,J p o (yN pt) e,c⟩,by simp⟩
  show this A.length (bp _)
 obtain⟨fs,f1,f2,f3⟩:=heads;show kat_kind (T:=.type "int") (kt A fs f1.symm f3) ∅ (λv hv=>?_) (by decide) ?_
 .obtain ⟨i,t,rfl⟩:=f2 v hv;show Xs rfl
 have O:eJ λi j=>d9 (iI F i) (iI F j):=⟨λx y a=>B0 _ _ a,λx y z a b=>B1 _ _ _ a b⟩;rw[hn];show GC (n:=F.length) (lt:=λi j=>d9 (iI F i) (iI F j)) (λi j C hi hj hC=>?_) _ _ (N6 ∅ λ_=>trivial) ?_
 .obtain ⟨p,us,hp,pt,hi',_,ep⟩:=tup i hi;obtain⟨p2,us2,hp2,J3,hi2,_,ep2⟩:=tup j hj;unfold oq;rw[ep,ep2,show(g_ "int" !=g_ "tuple")=ae from by decide];obtain⟨o,e,c,n,d⟩:=id pt;obtain⟨o2,e2,c2,n2,d2⟩:=id J3;show kat_lt (s:={s with heap:=h' }) (J p o (yN pt) e) d (J p2 o2 (yN J3) e2) d2 (Z9 us us2 _ _ 0 _ rfl hi' hi2 hC)
 obtain⟨sp,su⟩:=TQ O (n:=F.length) ∅;generalize told (λi j=>d9 (iI F i) (iI F j)) (t_ F.length)=pp at sp su;show KasFin.intro F' N' (UpdF.head λp hp z=>jq _ (z▸hD p hp)) λh'' c F'' N''=>?_;have nD:D≠X.env.locals:=(N' _ (de ..)).2.1;have dead:s.heap.get? D=af:=by
  cases e:s.heap.get? D with
  |none=>rfl
  |some o=>show Zw (hD (D,o) (iW.mpr ⟨nD,fq (bz e),e⟩)) (jq _)
 have GD:∀b o,b≠X.env.locals->s.heap.get? b=aa o->h''.get? b=aa o:=λb o U e =>
  (N'' (b,o) (gf _ (iW.mpr ⟨U,fq (bz e),e⟩))).1
 have Fy:=(N'' (D,_) (de ..)).1;have hfr:H D=af:=by
  cases e:H D with
  |none=>rfl
  |some u =>
   obtain⟨o,eo⟩:=bZ.live (I.hok D u e);rw[dead] at eo;cases eo
 have neD:∀{b:ah} {o:ay},s.heap.get? b=aa o->b≠D:=λ{b o} e z=>by rw[z,dead] at e;cases e
 have Z:∀{b:ah} {u:HO},H b=aa u->b≠D:=λ{b u} e z=>by rw[z,hfr] at e;cases e
 have hlp:pp.toList.Perm (cm F.length):=by simpa using sp.toList
 show⟨.ref D,upd H D (.lst (pp.toList.map λi=>V.ref (A.getD i 0))),?_,rfl,q pp.toList hlp (λi j hij hj=>?_) D hfr⟩
 .show L2.Φ X π σ _ {s with heap:=h'' };show I.step (s:=s) (h':=h'') (g':=s.gens) (t':=s.toks) (d':=s.drawn) (ch:=[]) (λb U=>nomatch U) (λb o U _ _ e _=>GD b o U e) (λb o U _ _ e _=>⟨o.slots,GD b o U e⟩) (λb o _ e n=>by rw[aL (neD e)];show n) (λb o _ e=>?_)
   (λb xs e=>by rw[aL (Z e)];show e) (λb o u e=>by rw[aL (Z e)];show e) (λb A e=>by rw[aL (Z e),e]) (λm2 hm2=>?_) ?_ I.bare
  .by_cases U:b=X.env.locals
   .subst U;obtain⟨o2,_,_,e2,_⟩:=F''.ns;show⟨o2,e2⟩
   .exact ⟨o,GD b o U e⟩
  .have:m2=m:=by
    obtain⟨oa,ea,pa,h1,h2,_,h3⟩:=hm2;obtain⟨ob,eb,pb,k1,k2,_,k3⟩:=hns;rw[h1] at k1;cases k1;rw[h2] at k2;cases k2
    funext x
    rw[<- h3,<- k3]
   subst this;show F''.ns
  .intro b u e;by_cases U:b=D
   .subst U;rw[aI] at e;cases e;show⟨?_,pp.toList.map λi=>dq (A.getD i 0),c,?_,Fy.trans ?_⟩
    .rw [bo,hlp.length_eq,jk,fv];lia
    .have:∀l:List Nat,θ (l.map λi=>V.ref (A.getD i 0)) (l.map λi=>dq (A.getD i 0)):=λl=>by
      induction l with
      |nil=>show .nil
      |cons a l ih=>show .cons rfl ih
     show this _
    .have:(pp.toList.map λi=>(A.map dq).getD i gq)=pp.toList.map λi=>dq (A.getD i 0):=pq λi hi=>by
      have:i<F.length:=by simpa using hlp.mem_iff.mp hi
      simp[hl,this]
     rw[this]
   .rw [aL U] at e;show(I.hok b u e).stay (λc v hc ev=>GD c v (λz=>?_) ev) (λc ec=>by rw[aL (Z ec)];show ec) (λc ys ec=>by rw[aL (Z ec)];show ec) λc o u ec=>by rw[aL (Z ec)];show ec
    subst z;rcases hc with hc|hc
    .rw [<- hc,I.free] at e;cases e
    .rw [I.free] at hc;cases hc
 .have:=su i j hij hj;rw[b9,b9] at this;simpa using this
theorem N7(ho:s.heap.get? a=aa (seqObj "list" #[v] n))
  (h:P (.done (.ret .none)) {s with heap:=sortedHeap s.heap a [v] #[v]}):ax (au Ω w) A (Builtin.«list.sort» ⟨[.ref a],[]⟩) P E s:=by
 rw[a0b];have j:=bz ho;show aq (yh ho rfl (aq (nq ho rfl ?_)));have d:=q_ ho (λ_=>(#[]:Array ai));show aq (qz d rfl (aq (Bi (aq (om (iq ?_))))));have c:(((s.heap.update a (fm λ_=>(#[]:Array ai))).push (seqObj "tuple" #[v] 0)).push (seqObj "list" #[] 0)).get? a=_:=cx _ (cx _ d);show ax (au Ω w) A _ P E {s with heap:=((s.heap.update a (fm λ_=>(#[]:Array ai))).push (seqObj "tuple" #[v] 0)).push (seqObj "list" #[] 0)};dsimp only;rw[Z_ (show(#[v]:Array ai).size<2 from uu 1),Z_ (show(#[v]:Array ai).size<2 from uu 1)];show aq (az ?_);rw[StateT.run_pure];show aq (az (aq (qz c rfl (aq (nq c rfl ?_ (hsz2:=?_))))))
 .simp only[bne_self_eq_false,mx,if_false];have e:(arrOf (mj general' ((#[v]:Array ai).zip #[v]) #[] 7 af)).map (·.2)=#[v]:=by show((#[v]:Array ai).zip #[v]).map (·.2)=#[v];simp
  rw[e];show az h
 .show (((#[v]:Array ai).zip #[v]).map (·.2)).size<=bj+1;simp
def yO:List V->Hp->VK->Prop:=λxs H Q=>∃(a:ah) (x:V),xs=[.ref a]/\H a=aa (.lst [x]) /\∀q,H q=af->Q (.ref q) (upd H q (.lst [x]))
def nG:d4 X (.builtin "sorted") yO:=by
 intro π s σ H xs us Q I r h;obtain⟨a,x,rfl,z,q⟩:=h;obtain⟨u,rfl,p⟩:=vals1 r;cases p;obtain⟨F,l,y,J⟩:=I.list (dS.of z);obtain⟨v,rfl,j⟩:=vals1 l;show Co yi ye yj (Cw (.ref a)) (show ax _ _ (Builtin.«sorted» _) _ _ _ from ?_);unfold Builtin.«sorted»;show aq (m:=checkCount "sorted" 1 1 _) (az (aq (collect_list y.isList (aq (om ?_)))));have hsz:((s.heap.push (seqObj "list" #[] 0)).update s.heap.objs.size (fm (· ++ [v].toArray))).objs.size=s.heap.objs.size+1:=by rw[Heap.size_update,size_push']
 have c:(((s.heap.push (seqObj "list" #[] 0)).update s.heap.objs.size (fm (· ++ [v].toArray))).push (seqObj "list" [v].toArray 0)).get? (s.heap.objs.size+1)=aa (seqObj "list" #[v] 0):=by rw[<- hsz];show fw _ rfl
 show ax _ _ _ _ _ {s with heap:=((s.heap.push (seqObj "list" #[] 0)).update s.heap.objs.size (fm (· ++ [v].toArray))).push (seqObj "list" [v].toArray 0)};rw[hsz];show aq (iq (jw yd ⟨_,c,rfl⟩ yl (N7 c ⟨_,rfl,?_⟩) (Cy _)));show az ⟨.ref (s.heap.objs.size+1),rfl,?_⟩;obtain⟨e1,d⟩:=Zn s.heap [v] #[v];have A:L2.Φ X π σ (upd H (s.heap.objs.size+1) (.lst [x])) {s with heap:=sortedAll s.heap [v] #[v]} :=
  I.laid (t':=s.toks) (λb o e=>Zm e) (pd _) ⟨by rw[fv];simp,[v],e1,.cons j .nil,by simpa[seqObj] using d⟩
 show⟨.ref _,_,A,rfl,q _ (I.hok.fresh (pd _))⟩
theorem yP:d4 X (.builtin "sorted") (λxs H Q=>AQ xs H Q\/yO xs H Q\/DU X.K xs H Q):=by
 intro π s σ H xs us Q I r h;rcases h with h|h|h
 .exact iY π s σ H xs us Q I r h
 .exact nG π s σ H xs us Q I r h
 .exact yM π s σ H xs us Q I r h
def N8:F1
 |[.lst ds],Q=>∃a,lB ds=aa a/\a.length<64/\(∀t∈a,t≠[])/\Q (.lst ((pE a).map l8))
 |_,_=>False
def N9(h:U0 d=aa t):d=l8 t:=by
 cases d<;>first|cases h;done|skip
 rename_i ds;unfold l8;rw[<- ints_of h]
theorem vZ:∀{ds:List D} {a:Q0a},lB ds=aa a->ds=a.map l8
 |[],a,h=>by cases h;rfl
 |d::ds,a,h=>by unfold lB at h;obtain⟨t,e1,h⟩:=bnd h;obtain⟨us,c,rfl⟩:=pP h;rw[cf,N9 e1,vZ c]
def Vl{K:ao}{S:ah->Prop}{H:Hp}{t:Q0e}{v:V}(h:Dn K S H (l8 t) v):∃p,v=.ref p/\H p=aa (.tup (t.map V.int)):=by unfold l8 at h;symm at h;obtain⟨a,xs,rfl,c,d⟩:=h;rw[aH.ints.mp d] at c;show⟨a,rfl,c⟩
theorem A4{K:ao}{S:ah->Prop}{H:Hp}:∀{c:Q0a} {ys:List V},aH K S H (c.map l8) ys ->∃a:List ah,ys=a.map V.ref/\a.length=c.length /\∀(j:Nat) (p:ah) (t:Q0e),a[j]?=aa p->c[j]?=aa t->H p=aa (.tup (t.map V.int))
 |[],ys,h=>by simp only[mn,aH] at h;show⟨[],h,rfl,λj p t e=>by simp at e⟩
 |t::c,ys,h=>by
  obtain⟨v,r,rfl,x,h2⟩:=aH.aX h;obtain⟨p,rfl,l⟩:=Vl x;obtain⟨a,rfl,m,o⟩:=A4 h2;show⟨p::a,rfl,by simp[m],λj q u e1 d=>?_⟩
  cases j with
  |zero=>cases e1;cases d;show l
  |succ j=>show o j q u (by simpa using e1) (by simpa using d)
def OA(a:Q0a):(cm a.length).map (iI a)=a:=by
 show sd λi=>?_;rw[ft];by_cases h:i<a.length
 .rw [vd h];simp[iI,h]
 .rw [lp (by simpa using h),lp (by simpa using h)];rfl
theorem OB{K:ao}:C3F K (λxs H Q=>AQ xs H Q\/yO xs H Q\/DU K xs H Q) N8:=by
 intro S H xs ds Q3 Q fc hd c k
 match ds,c with
 |[.lst Z],c =>
  obtain⟨v,r,rfl,Y,h2⟩:=hd.aX;simp only[aH] at h2;subst h2;symm at Y;obtain⟨a,ys,rfl,U,sa,da⟩:=Y;obtain⟨I,e,A,d,q⟩:=c;rw[vZ e] at da;obtain⟨z,rfl,h,o⟩:=A4 da;have one:∀(p:ah) (t:Q0e) (H':Hp) (S':ah->Prop),ξ H H'->H p=aa (.tup (t.map V.int))->Dn K S' H' (l8 t) (.ref p):=λp t H' S' J m=>by unfold l8;symm;show⟨p,_,rfl,J _ _ m,aH.ints.mpr rfl⟩
  match I,h,o,A,d,q with
  |[],h,o,A,d,q =>
   have:z=[]:=vc.mp h;subst this;show .inl ⟨a,[],rfl,U,by decide,λL m _ p c=>?_⟩;have:L=[]:=Dx.mp m;subst this;show k p [] _ [] c aI (aG c) (by simp only[aH]) q
  |[t],h,o,A,d,q =>
   obtain⟨p,rfl⟩:∃p,z=[p]:=by
    match z,h with
    |[p],_=>show⟨p,rfl⟩
   show .inr (.inl ⟨a,.ref p,rfl,U,λl c=>k l [.ref p] _ [l8 t] c aI (aG c) (aH.one (one p t _ _ (aG c) (o 0 p t rfl rfl))) q⟩)
  |t1::t2::I,h,o,A,d,q =>
   generalize hT:t1::t2::I=T at *;show .inr (.inr ⟨a,z,T,rfl,U,h,by rw[<- hT];simp,A,λj p t e1 e2=>⟨dZ.of (o j p t e1 e2),d t (pj e2)⟩,λF m hu l c=>?_⟩);have hlen:F.length=T.length:=by rw[m.length_eq,jk]
   have Z:pE T=F.map (iI T):=by
    show EK ((iN T).trans ?_) (zF T) ?_
    .have:=(m.map (iI T)).symm;rw[OA] at this;show this
    .rw [UpT,uz,u_];intro i j y hj O;have:=hu i j O ∅;simpa[y,hj] using this
   have dn:∀(H':Hp),ξ H H' ->∀u:List Nat,(∀i∈u,i<T.length)->aH K (λx=>S x/\x≠l) H' (u.map λi=>l8 (iI T i)) (u.map λi=>V.ref (z.getD i 0)):=by
    intro H' J u
    induction u with
    |nil=>intro _;show aH.nil
    |cons i u ih =>
     intro IL;have y:=IL i de;show aH.cons (one _ _ _ _ J ?_) (ih λx hx=>IL x (gf _ hx));show o i _ _ (by simp[h,y]) (by simp[iI,y])
   show k l _ _ (F.map λi=>l8 (iI T i)) c aI (aG c) (dn _ (aG c) F λi y=>by simpa using m.mem_iff.mp y) ?_;rw[Z,f_] at q;show q
def A5:lS N8 lC:=λds d Q e q=>by
 unfold lC at e;split at e
 .rename_i a;obtain⟨c,e1,e⟩:=bnd e;by_cases h:c.length<64/\c.all (λt=>!t.isEmpty)=ae
  .rw [Z_ h] at e;cases e;show⟨c,e1,h.1,λt j z=>?_,q⟩;have:=js.mp h.2 t j;rw[z] at this;cases this
  .rw [Zz h] at e;cases e
 .cases e
def OC(a:X.mg "sorted"=af)(h:qB X [e] t)(c:Gl X "sorted":=by rfl)(d:Zr X e []:=by rfl):i8 X (.Call (.Name "sorted" p) [e] [] ν) (cL lC t):=cF (yF yP OB uq c a h (by decide) (by decide) d (by rfl)) (yI A5)
end
open PySem.SeqAt
section
variable{X:Cx}{π:Q0b}{σ:L2.St}{H:Hp}{s:ak}{S:ah->Prop}
def EqI(n:Nat)(d e:D)(b:Bool):Prop:=(∃i j,d=.int i/\e=.int j/\b=Zv (i=j))\/(∃i,d=.bl i/\e=.bl i/\b=ae)\/(∃i,d=.str i/\e=.str i/\b=ae) \/∃m a c r,n=m+1/\d=.tup a/\e=.tup c/\tW (eqP m) a c=aa r/\b=(r&&Zv (a.length=c.length))
theorem GF:∀{n:Nat} {d e:D} {b:Bool},eqP n d e=aa b->EqI n d e b:=by
 intro n d e b h;have one:∀{p:Prop} [Decidable p],(if p then aa ae else af)=aa b->p/\b=ae:=λ{p} _ h=>by
  by_cases c:p
  .rw [Z_ c] at h;cases h;show⟨c,rfl⟩
  .rw [Zz c] at h;show nomatch h
 cases n with
 |zero =>
  cases d<;>first|(cases h;done)|skip
  all_goals (cases e<;>first|(cases h;done)|skip)
  .obtain ⟨rfl,a⟩:=one h;show .inr (.inl ⟨_,rfl,rfl,a⟩)
  .cases h;show .inl ⟨_,_,rfl,rfl,rfl⟩
  .obtain ⟨rfl,a⟩:=one h;show .inr (.inr (.inl ⟨_,rfl,rfl,a⟩))
 |succ m =>
  cases d<;>first|(cases h;done)|skip
  all_goals (cases e<;>first|(cases h;done)|skip)
  .obtain ⟨rfl,a⟩:=one h;show .inr (.inl ⟨_,rfl,rfl,a⟩)
  .cases h;show .inl ⟨_,_,rfl,rfl,rfl⟩
  .obtain ⟨rfl,a⟩:=one h;show .inr (.inr (.inl ⟨_,rfl,rfl,a⟩))
  .obtain ⟨r,e1,rfl⟩:=pP (show(tW (eqP m) _ _).map _=aa b from h);show .inr (.inr (.inr ⟨m,_,_,r,rfl,rfl,rfl,e1,rfl⟩))
theorem OD(I:L2.Φ X π σ H s):∀(n:Nat) (d e:D) (x:V) (b:Bool),eqP n d e=aa b->Dn X.K S H d x->Dn X.K S H e x->b=ae:=by
 intro n
 induction n using Dj with
 |ind n ih =>
  intro d e x b h y o;rcases GF h with⟨i,j,rfl,rfl,rfl⟩|⟨i,rfl,rfl,z⟩|⟨i,rfl,rfl,z⟩|⟨m,a,c,r,rfl,rfl,rfl,e1,rfl⟩
  .symm at y o;rw[y] at o;cases o;show Zx rfl
  .exact z
  .exact z
  .symm at y o;obtain⟨p,xs,rfl,Z,O⟩:=y;obtain⟨q,ys,eq,Y,L⟩:=o;cases eq;have:=I.iD (dZ.of Z) (dZ.of Y);subst this;obtain⟨f,h1,h2⟩:=nU e1;have hl:a.length=c.length:=by rw[O.len,L.len]
   rw[Zx hl,Bool.and_true,h2,js];intro j u;have u:j<min a.length c.length:=by simpa using u
   have J:j<a.length:=gi u (Nat.min_le_left ..);have F:j<c.length:=gi u (a0y ..);obtain⟨v,U,dv⟩:=O.get (cj J);obtain⟨v2,l,A⟩:=L.get (cj F);rw[U] at l;cases l;show ih m (uu m) _ _ v _ (h1 j _ _ (cj J) (cj F)) dv A
theorem Vk(I:L2.Φ X π σ H s):∀(n:Nat) (A:br) (d e:D) (x y:V) (u v:ai) (b:Bool),A.units+n<c_->eqP n d e=aa b->Dn X.K S H d x->Dn X.K S H e y->L2.Ψ x u->L2.Ψ y v->lz A s u v b:=by
 have onI:∀(A:br) (i j:Int) (x y:V) (u v:ai),Dn X.K S H (.int i) x->Dn X.K S H (.int j) y->L2.Ψ x u->L2.Ψ y v->lz A s u v (Zv (i=j)):=by
  intro A i j x y u v o l J F;symm at o l;subst o l;obtain⟨t,rfl⟩:=J;obtain⟨t2,rfl⟩:=F;have:=(a1C i j t t2).at A s
  rwa [show(i == j)=Zv (i=j) from by simp[a08]] at this
 have onB:∀(A:br) (i j b:Bool) (x y:V) (u v:ai),(if i=j then aa ae else af)=aa b->Dn X.K S H (.bl i) x->Dn X.K S H (.bl j) y->L2.Ψ x u->L2.Ψ y v->lz A s u v b:=by
  intro A i j b x y u v h o l J F;symm at o l;subst o l;split at h
  .rename_i e;cases h;subst e;cases J;cases F;show xo _
  .cases h
 have onS:∀(A:br) (i j:aj) (b:Bool) (x y:V) (u v:ai),(if i=j then aa ae else af)=aa b->Dn X.K S H (.str i) x->Dn X.K S H (.str j) y->L2.Ψ x u->L2.Ψ y v->lz A s u v b:=by
  intro A i j b x y u v h o l J F;symm at o l;subst o l;split at h
  .rename_i e;cases h;subst e;obtain⟨t,rfl⟩:=J;obtain⟨t2,rfl⟩:=F;have:=(a1k i i t t2).at A s
   rwa [show(i.cps.toList == i.cps.toList)=ae from by simp] at this
  .cases h
 intro n
 induction n using Dj with
 |ind n ih =>
  intro A d e x y u v b hu h o l J F;rcases GF h with⟨i,j,rfl,rfl,rfl⟩|⟨i,rfl,rfl,rfl⟩|⟨i,rfl,rfl,rfl⟩|⟨m,a,c,r,rfl,rfl,rfl,e1,rfl⟩
  .exact onI A _ _ x y u v o l J F
  .exact onB A i i ae x y u v (Z_ rfl) o l J F
  .exact onS A i i ae x y u v (Z_ rfl) o l J F
  .have hd0:=o;have he0:=l;symm at o l;obtain⟨p,xs,rfl,hp,da⟩:=o;obtain⟨q,ys,rfl,hq,dc⟩:=l;cases J;cases F;by_cases L:p=q
   .subst L;rw[OD I (m+1) _ _ _ _ h hd0 he0];show xo _
   .obtain ⟨f,h1,h2⟩:=nU e1;obtain⟨Y,rx,pt,_⟩:=I.tuple (dZ.of hp);obtain⟨z,ry,J3,_⟩:=I.tuple (dZ.of hq);have l1:Y.length=a.length:=by rw[<- rx.length,da.len]
    have l2:z.length=c.length:=by rw[<- ry.length,dc.len]
    have key:=RcAt.tuples (A:=A) (s:=s) (e:=f) (show s.heap.IsTuple p Y.toArray from pt) (show s.heap.IsTuple q z.toArray from J3) ∅ λj U O=>by
     have U:j<a.length:=by simpa[l1] using U
     have O:j<c.length:=by simpa[l2] using O
     obtain⟨w,hw,dw⟩:=da.get (cj U);obtain⟨w2,hw2,dw2⟩:=dc.get (cj O);obtain⟨g,hg,rg⟩:=rx.get hw;obtain⟨g2,hg2,Z⟩:=ry.get hw2;have e3:Y.toArray[j]'(by simp;lia)=g:=by have:=(dh.mp hg).2;simpa using this
     have e4:z.toArray[j]'(by simp;lia)=g2:=by have:=(dh.mp hg2).2;simpa using this
     rw[e3,e4];show ih m (uu m) A.in1 _ _ w w2 g g2 _ (by show A.units+1+m<c_;lia) (h1 j _ _ (cj U) (cj O)) dw dw2 rg Z
    show EqAt.of_refs L ?_;rw[h2];simpa[l1,l2,a08] using key
open Classical in
end
end L4
namespace L5
open PySem.Spec PyProof.Rows L2 L3 L4
theorem wB(x:bZ P w H h a o):∃u,h.get? a=aa u:=by
 cases o with
 |lst xs=>obtain⟨_,_,_,_,e⟩:=x;show⟨_,e⟩
 |tup xs=>obtain⟨_,_,_,⟨u,e,_⟩,_⟩:=x;show⟨_,e⟩
 |dK χ=>obtain⟨_,_,_,_,o,_,_,e,_⟩:=x;show⟨_,e⟩
 |dT χ=>obtain⟨_,_,_,_,o,_,_,e,_⟩:=x;show⟨_,e⟩
 |dX ob χ=>obtain⟨_,_,e,_⟩:=x;show⟨_,e⟩
 |set S n=>obtain⟨o,_,_,_,e,_⟩:=x;show⟨_,e⟩
 |ins C dx fs=>obtain⟨_,_,_,e,_⟩:=x;show⟨_,e⟩
 |own y=>obtain⟨_,e⟩:=x;show⟨_,e⟩
 |xd fs=>obtain⟨_,⟨_,_,_,e,_⟩,_⟩:=x;show⟨_,e⟩
 |rng lo hi=>obtain⟨_,_,_,e⟩:=x;show⟨_,e⟩
 |pZ ob u=>obtain⟨e,_⟩:=x;show⟨_,e⟩
 |E8 q=>obtain⟨_,e,_⟩:=x;show⟨_,e⟩
 |met f y=>show⟨_,(show h.get? a=aa _ from x)⟩
 |ext φ=>obtain⟨_,⟨_,e⟩,_⟩:=x;show⟨_,e⟩
section
variable{X:Cx}{π:Q0b}{σ:L2.St}{H:Hp}{s:ak}{h':ba}{e:ah}{cls a0:ai}{P:List ah}
def flown(I:Φ X π σ H s)(T:lQ X π H s e cls a0 P)(F:∀b o,b∉P->b∉frs X.stack->s.heap.get? b=aa o->h'.get? b=aa o)(us:s.heap.UpToSlots h'):Φ X π σ H {s with heap:=h' }:=by
 have frame:∀b∈frs X.stack,∃o,s.heap.get? b=aa o /\∀vs,o.data≠.fields vs:=λb h=>(I.stack.mem h).2;have old:∀b o,X.s₀.heap.get? b=aa o->b∉P:=λb o q h=>by rw[T.new b h] at q;cases q
 have yN:∀b o,X.s₀.heap.get? b=aa o->b≠X.env.locals:=λb o q=>fq (gi (bz q) I.ok.above);have cellK:∀c v,s.heap.IsCell c v->h'.IsCell c v:=λc v Gn=>by
  obtain⟨o,ho,hd⟩:=Gn;obtain⟨L,q⟩:=us c o ho λvs z=>by rw[hd] at z;cases z
  show⟨_,q,hd⟩
 obtain⟨m,hn,hl⟩:=id I.loc;show⟨I.ok,I.os,I.bare,⟨λb o a n h A=>?_,λb o a n h A=>?_,I.ω.free,λb o a A=>?_,I.ω.tups,I.ω.p6,I.ω.oI⟩,⟨m,us.ns hn,λi x v h1 h2 h3=>?_⟩,λx c U=>?_,I.free,I.d7,λp Z=>?_,λb ob a=>?_,I.len⟩
 .exact F b o (old b o a) (λz=>(bx.mp (I.lO b z)).elim (yN b o a) h) (I.ω.keep b o a n h A)
 .obtain ⟨L,q⟩:=I.ω.slot b o a n h A;obtain⟨_,o2,J,y⟩:=I.ok.jR.mem h;rw[a] at J;obtain rfl:=ee J;obtain⟨K,q2⟩:=us b {o with slots:=L} q y;show⟨K,q2⟩
 .obtain ⟨Y,q⟩:=I.ω.there b o a A;by_cases hf:b∈frs X.stack
  .obtain ⟨o2,J,y⟩:=frame b hf;obtain⟨L,q2⟩:=us b o2 J y;show⟨_,q2⟩
  .exact ⟨Y,F b Y (old b o a) hf q⟩
 .obtain ⟨u,r,l⟩:=hl i x v h1 h2 h3;show⟨u,r,l.imp id λ⟨k,c,U,O⟩=>⟨k,c,U,cellK _ _ O⟩⟩
 .obtain ⟨v,O⟩:=I.cell x c U;show⟨v,cellK _ _ O⟩
 .obtain ⟨q,n,ne,y,d⟩:=I.pin p Z;show⟨F _ _ (λz=>T.pin _ z p Z rfl) (λz=>(bx.mp (I.lO _ z)).elim ne y) q,n,ne,y,d⟩
 .refine (I.hok b ob a).stay (λc u j q=>F c u (λz=>?_) (λz=>?_) q) (λ_ q=>q) λ_ _ q=>q
  .have fr:=T.free c z;rcases j with rfl|j
   .rw [fr] at a;cases a
   .rw [fr] at j;cases j
  .have fr:=I.qO c z;rcases j with rfl|j
   .rw [fr] at a;cases a
   .rw [fr] at j;cases j
end
def BU(P:bg)(w:a_):CW:=λΓ H s E e s'=>∃(a T:ah) (cls j:ai) (H':Hp) (c h:ay) (vs d:Array ai),e=.ref a/\s'.os=s.os/\lg s'.gens/\Un (frs Γ) [] H H' s.heap s'.heap/\kN P w H' s'.heap /\
 H' a=af/\H' T=af/\s.heap.get? a=af/\s.heap.get? T=af/\T≠a/\s'.heap.get? a=aa c/\(c.cls=cls/\vs[0]?=aa j)/\c.data=.fields vs/\vs[1]?=aa (.ref T)/\s'.heap.get? T=aa h/\h.data=.fields d/\d[3]?=aa .none/\E cls af H'
section
variable{P:bg}{w:a_}{K:ao}{mg:Q0d}{ω:ba}{N:Q0g}{qual:aj}{scope:fu}{f:ah}{cd:ai}{A:br}{Γ:List df}{s0:ak}{H0:Hp}{E:XK}
theorem OE(I:Φ (eQ (BU P w) P w K mg ω N qual scope f cd A Γ s0 H0 E) π σ H s)
  (T:lQ (eQ (BU P w) P w K mg ω N qual scope f cd A Γ s0 H0 E) π H s e cls a0 Q) (hE:E cls af H):(eQ (BU P w) P w K mg ω N qual scope f cd A Γ s0 H0 E).xe (.ref e) s:=by
 generalize h:eQ (BU P w) P w K mg ω N qual scope f cd A Γ s0 H0 E=X at I T;have st:X.stack=X.env::Γ:=by rw[<- h];rfl
 have hin:∀env∈X.stack,∀b,env.frame=aa b->b∈Q++frs X.stack:=λenv m b hb=>gm _ (pk.mpr ⟨env,m,hb⟩);have stay:(hideAll s.heap (Q++frs X.stack)).StaysIn s.heap:=λb o q=>Bv _ q;have fns:s.heap.FunFrames (hideAll s.heap (Q++frs X.stack)) X.stack:=Xm I.stack hin;have l:(hideAll s.heap (Q++frs X.stack)).get? e=af:=uc _ (gj _ T.mem);have fin:∀h',Heap.LeftW (hideAll s.heap (Q++frs X.stack)) X.stack e cls a0 s.heap h'->BU P w Γ H0 s0 E (.ref e) {s with heap:=h' }:=λh' Qy=>by
  obtain⟨k1,k2,k3,k4⟩:=Qy;have J:=flown I T (λb o n1 n2 q=>k1 b o (ud _ q λz=>(gn.mp z).elim n1 n2)) k4;obtain⟨F,vs,a,U,y,m,p,n,v,Z,Y,O,d,h3⟩:=k3;have c:a∉frs X.stack:=λz=>by obtain⟨_,o,ho,nf⟩:=I.stack.mem z;obtain⟨sl,q⟩:=k4 a o ho nf;rw[O] at q;cases q;show nf y d
  have s_:a∈Q\/s.heap.get? a=af:=by
   by_cases hq:a∈Q
   .exact .inl hq
   .right
    cases q:s.heap.get? a with
    |none=>rfl
    |some o =>
     have:=ud (Q++frs X.stack) q λz=>(gn.mp z).elim hq c;rw[Z] at this;cases this
  have e1:X.fs=frs Γ:=by rw[<- h];rfl
  have e2:X.ex=[]:=by rw[<- h];rfl
  have e3:X.H₀=H0:=by rw[<- h];rfl
  have x:X.s₀=s0:=by rw[<- h];rfl
  have e5:X.Ω=P:=by rw[<- h];rfl
  have e6:X.w=w:=by rw[<- h];rfl
  have b0:=J.ω;have b1:=J.hok;have b2:=J.os;rw[e1,e2,e3,x] at b0;rw[e5,e6] at b1;rw[x] at b2;show⟨e,a,cls,a0,H,F,U,vs,y,rfl,b2,J.bare,b0,b1,T.free e T.mem,?_,?_,?_,Y,m,p,n,v,O,d,h3,hE⟩
  .rcases s_ with z|z
   .exact T.free _ z
   .cases q:H a with
    |none=>rfl
    |some o =>
     obtain⟨u,eu⟩:=wB (I.hok _ _ q);rw[z] at eu;cases eu
  .rw [<- x];show T.new e T.mem
  .rcases s_ with z|z
   .rw [<- x];show T.new _ z
   .cases q:s0.heap.get? a with
    |none=>rfl
    |some o =>
     have tb:=I.ω.there a o (by rw[x];show q) (by rw[e2];simp);obtain⟨o',eo⟩:=tb;rw[z] at eo;cases eo
 have go:ax (au P w) X.A (leaving X.env (.ref e)) (λ_ j=>BU P w Γ H0 s0 E (.ref e) j) (λe' j=>BU P w Γ H0 s0 E e' j) s:=by
  have c:=I.ok.frames;have hf:X.env.frame=aa X.env.locals:=by rw[<- h];rfl
  rw[st] at c;rw[st] at fns fin l stay;rcases T.tr with⟨F,vs,m,p,n,v,h0⟩|⟨F,vs,a,U,y,m,p,n,v,hm,Y,O,d,h3⟩
  .subst p;show wpAny_leaving_firstW c fns hf m stay l n v h0 λh' L=>fin h' L
  .refine wpAny_leaving_nextW c fns hf ⟨F,vs,a,U,y,m,p,n,v,uc _ (gj _ hm),Y,O,d,h3⟩ stay l λh' L=>fin h' L
 rw[<- h] at go ⊢;show go
end
theorem A6(U:X.ex=[])(I:Φ X π σ H s)(c:BU X.Ω X.w X.stack H s E e s'):
  ∃d cls l H' Q,e=.ref d/\Φ X π σ H' s'/\lQ X π H' s' d cls l Q/\E cls af H':=by
 obtain⟨d,T,cls,l,H',n,u,vs,m,rfl,F,bare,un,j,L,K,g1,g2,O,v,Z,x,h1,y,h,h3,hE⟩:=c;have J:Φ X π σ H' s':=I.call' (ch:=[]) F un j bare λb z=>Zw z (by simp);have no:∀q,q∈[d,T]->s.heap.get? q=af:=λq a=>by
  rcases bx.1 a with rfl|a
  .exact g1
  .rw [cg.mp a];show g2
 show⟨d,cls,l,H',[d,T],rfl,J,⟨de,λq a=>?_,λq a=>?_,λq a=>?_,λq a p Y z=>?_,.inr ⟨n,vs,T,u,m,v,Z,x,h1,by simp,O,y,h,h3⟩⟩,hE⟩
 .rcases bx.1 a with rfl|a
  .exact L
  .rw [cg.mp a];show K
 .cases k:X.s₀.heap.get? q with
  |none=>rfl
  |some o =>
   obtain⟨o',A⟩:=I.ω.there q o k (by rw[U];simp);rw[no q a] at A;cases A
 .rcases bx.1 a with rfl|a
  .exact ⟨n,vs,v,x⟩
  .rw [cg.mp a];show⟨u,m,y,h⟩
 .have:=(I.pin p Y).1;rw[z,no q a] at this;cases this
def sp5(K:ao)(mg:Q0d)(R:kT):Sp:=λvs H Q E=>∃(S:ah->Prop) (ds:List D),(∀a,H a=af->S a)/\aH K S H ds vs/\match R ds with
 |.ok d=>∀v H',ξ H H'->Dn K S H' d v->Q v H'
 |.ex c=>∃C:ah,mg c=aa (.ref C) /\∀H',ξ H H'->E (.ref C) af H'
 |.no=>False
theorem Gm{P:bg}{w:a_}{K:ao}{mg:Q0d}{ω:ba}{x qual:aj}{st:cn}{f:ah}{fd:gc}{N j:Q0g}{k n y:Nat}{b:SF}(F:MO K x qual st f fd)(S:cH N j (aF st))(Z:N.length=n)(J:j.length=y)
  (m:∀(l:ai) (A:br) (Γ:List df) (s:ak) (H:Hp) (E:XK),cZ k (A.deeper (envOfC qual (aF st) s.heap.objs.size f l)) ->
   fU (eQ (BU P w) P w K mg ω N qual (aF st) f l A Γ s H E) (bV st) b):hJ P w K mg ω (BU P w) (k+1) f fd j (sp5 K mg (bM n y b)):=by
 subst Z J;obtain⟨oc,od,kV,doc,pm,an,l,ct,U,rfl,X,u⟩:=F.ex;have hlen:∀ds:List D,bM N.length j.length b ds≠.no->ds.length=j.length:=λds h=>by
  by_cases e:ds.length=j.length
  .exact e
  .exact Zw (show bM N.length j.length b ds=.no by unfold bM;rw[Zz e]) h
 show MD X u S (λvs H Q E h=>?_) λA Γ s H vs Q E Y h=>?_
 .obtain ⟨S',ds,_,dn,a⟩:=h;rw[<- dn.len];show hlen ds λz=>by rw[z] at a;show a
 .obtain ⟨S',ds,fc,dn,a⟩:=h;have hl:ds.length=j.length:=hlen ds λz=>by rw[z] at a;show a
  have hdn:=dn.len;show⟨_,m l A Γ s H E Y,H,S',λ_=>0,eX N ds,[],{nx:=λ_=>bM N.length j.length b ds=.ok .non,rt:=λd=>bM N.length j.length b ds=.ok d,ex:=λc=>bM N.length j.length b ds=.ex c},?_,m8 fc dn,?_,⟨λw' L H' ρ' _ p q=>?_,λv H' d s' d' q=>?_,λ_ _ _ _ _ _ q=>q,λ_ _ _ _ _ _ q=>q,λc H' O q=>?_⟩⟩
  .have J:j.length<=N.length:=by have:=congrArg pz S.pre;rw[ij] at this;lia
   unfold L2.start;show _=N.length;rw[dm,bo,je];lia
  .have e2:eX N ds=bL N.length ds:=rfl;have o:bM N.length j.length b ds=(match b (bL N.length ds) with | .rt d=>.ok d | .nx _=>.ok .non | .ex c=>.ex c | .no=>.no):=by unfold bM;rw[Z_ hl]<;>cases b (bL N.length ds)<;>rfl
   rw[o] at a;unfold wS;rw[e2]
   cases hb:b (bL N.length ds) with
   |rt d'=>rw[hb] at o;show o
   |nx ρ=>rw[hb] at o;show o
   |ex c=>rw[hb] at o;show o
   |no=>rw[hb] at a;show a
  .rw [q] at a;show a .non H' p.sm (by symm)
  .rw [q] at a;show a v H' s' d'
  .rw [q] at a;obtain⟨C,hm,hE⟩:=a;show⟨C,hm,λπ σ s' e a0 P I T=>OE I T (hE H' O)⟩
theorem fd5{P:bg}{w:a_}{K:ao}{mg:Q0d}{ω:ba}{x:aj}{st:cn}{N c:Q0g}{k n d:Nat}{b:SF}(D:Df K mg x st c)
  (h:∀{f:ah} {a:ai} {A:br} {Γ:List df} {s:ak} {H:Hp} {E:XK},cZ k (A.deeper (envOfC x (aF st) s.heap.objs.size f a))->N.Nodup->fU (eQ (BU P w) P w K mg ω N x (aF st) f a A Γ s H E) (bV st) b)
  (S:cH N c (aF st):=by show⟨rfl,rfl,rfl,by decide+kernel,rfl,by decide+kernel,by decide+kernel⟩) (o:N.length=n:=by rfl) (l:c.length=d:=by rfl):Cl P w K mg ω (BU P w) (k+1) x c (sp5 K mg (bM n d b)):=by
 obtain⟨_,F,m,q⟩:=D;show⟨Gm F S o l λ_ _ _ _ _ _ j=>h j S.nd,m,F.kp,q⟩
section
variable{X:Cx}{k:Nat}{f:ah}{fd:gc}{ps:Q0g}{R:kT}{x:aj}{p ν:bq}{e:av}{es:List av}{t:AF}
theorem Qx(C:Cl X.Ω X.w X.K X.mg X.ω (BU X.Ω X.w) k x ps (sp5 X.K X.mg R))(y:cZ k X.A)
  (Y:qB X (e::es) t) (L:Gl X x:=by rfl) (m:Zu x:=by decide) (O:Zr X e es:=by rfl) (l:Q0l X ν es:=by rfl):
  aZ X (.Call (.Name x p) (e::es) [] ν) (aN R t):=by
 obtain⟨F,I,J,U⟩:=C;show imp (mX (E:=E0) F y L I J U .nil (λπ σ H s e s' _ c=>by obtain⟨_,_,_,_,_,_,_,_,_,_,_,_,_,_,_,_,_,_,_,_,_,_,_,_,_,_,Z⟩:=c;show Z.elim) Y m O l) λσ H Q Qw=>?_;obtain⟨S,ρ,Q3,o,q,⟨d,a,u⟩,k⟩:=Qw;obtain⟨ds,et,a⟩:=bnd a;show⟨S,ρ,λz=>z=ds,o,q,⟨ds,et,rfl⟩,λvs H1 j n d1 q1=>?_⟩;subst q1;show sp5 X.K X.mg R (vs++[]) H1 Q E0;rw[ip];show⟨S,j,aU o n,d1,?_⟩
 cases h:R j with
 |ok d'=>rw[h] at a;cases a;show λv H' s' d'=>k v H' _ (n.trans s') d' u
 |no=>rw[h] at a;cases a
 |ex c=>rw[h] at a;cases a
def tR(X:Cx)(r:RF):TE:=λσ H _=>∃(S:ah->Prop) (ρ:bK) (c:aj),(∀a,H a=af->S a)/\Sl X.K S H ρ σ/\r ρ=aa c /\∀H',ξ H H'->XC X c H'
def PR(X:Cx)(e:av)(r:RF):Prop:=PE X e (tR X r)
theorem Vj(O:X.ex=[])(C:Cl X.Ω X.w X.K X.mg X.ω (BU X.Ω X.w) k x ps (sp5 X.K X.mg R))(U:cZ k X.A)
  (ha:qB X (e::es) t) (hg:Gl X x:=by rfl) (u:Zu x:=by decide) (he:Zr X e es:=by rfl) (o:Q0l X ν es:=by rfl):
  PR X (.Call (.Name x p) (e::es) [] ν) (uP R t):=by
 obtain⟨F,Y,Z,hb⟩:=C;show imp (mX (E:=λcls _ H'=>∃c C,cls=.ref C/\X.mg c=aa (.ref C)/\XC X c H') F U hg Y Z hb .nil (λπ σ H s e s' I c=>by obtain⟨ea,cls,a0,H',Q,rfl,J,T,c,C,rfl,q,C2,l,xc⟩:=A6 O I c;rw[q] at l;cases l;show xc π σ s' ea a0 Q J T) ha u he o) λσ H Q hV=>?_
 obtain⟨S,ρ,c,v,L,ec,k⟩:=hV;obtain⟨ds,et,a⟩:=bnd ec;show⟨S,ρ,λz=>z=ds,v,L,⟨ds,et,rfl⟩,λvs H1 m n d1 q1=>?_⟩;subst q1;rw[ip];show⟨S,m,aU v n,d1,?_⟩
 cases h:R m with
 |ex c' =>
  rw[h] at a;cases a;obtain⟨C,j,_⟩:=k H1 n;show⟨C,j,λH' y=>⟨c,C,rfl,j,k H' (n.trans y)⟩⟩
 |ok d=>rw[h] at a;cases a
 |no=>rw[h] at a;cases a
def Vi{e:av}{t u:TE}(a:PE X e t)(h2:PE X e u):PE X e (λσ H Q=>t σ H Q\/u σ H Q):=λπ s σ H Q I h=>h.elim (a π s σ H Q I) (h2 π s σ H Q I)
theorem Qu{i:Nat}{x:aj}{e:av}{f:EF}{r:RF}{ν pos':bq}(hN:X.N.Nodup)(h:aZ X e f)(y:PR X e r)(m:X.N[i]?=aa x:=by rfl)(q:Loc X.env.scope x:=by walk_at "0")(u:Si X e x pos' ν:=by rfl)(j:Zq X x:=by walk_at "0"):
  uH X (.Assign [.Name x pos'] e ν) (B3 r (bH i f)):=jX (oM hN m q (Vi y h) u j) λB σ H z=>by
 obtain⟨H₀,S,w,ρ,G,E,l,st,a,ok⟩:=z;unfold wS B3 at a
 cases hc:r (bA ρ) with
 |some c =>
  rw[hc] at a;show .inl ⟨S,bA ρ,c,st.MV,st.all,hc,λH' n=>ok.ex c H' (st.sm.trans n) a⟩
 |none =>
  rw[hc] at a;dsimp only at a;unfold bH at a
  cases j:f (fG ρ) with
  |none=>rw[j] at a;show a.elim
  |some d =>
   rw[j] at a;show .inr ⟨_,fG ρ,_,st.FR,st.rd,⟨d,j,a⟩,λv H' d s' d' o=>ok.nx w _ H' _ (by rw[gy];show l) ((st.same s').iX (by rw[l];show gJ m) d') o⟩
end
abbrev bmV:List ai:=[.type "ValueError",.type "Exception",.type "BaseException",.type "object"]
structure wo (K:ao) (C:ah):Prop where
 ex:∃nm q N bs bm hdct sn sub ab col dd k0 k1 k2 k3 k5,K.lookup C=aa (excClassObj nm q C N bs bm hdct sn sub ab col dd k0 k1 k2 k3 k5 "ValueError.__new__")/\PySem.W.tailIn K bmV bm=ae/\PySem.W.nsOkIn K N=ae/\Bw K N "__init__"=aa af
section
variable{X:Cx}
theorem Vh(hx:X.ex=[])(h:X.calm=ae)(J:X.mg c=aa (.ref C))(hC:wo X.K C)(ha:qB X (e::es) t)(hg:Gl X c:=by rfl)(hd:Zu c:=by decide)
  (L:Zr X e es:=by rfl) (x:Q0l X cpos es:=by rfl):
  uH X (.Raise (aa (.Call (.Name c np) (e::es) [] cpos)) af ν) (wV t c):=by
 intro π s σ H B I ⟨H₀,S,w,ρ,G,E,hl,st,a,ok⟩;unfold wS wV at a
 cases et:t (bA ρ) with
 |none=>rw[et] at a;show a.elim
 |some ds =>
  rw[et] at a;dsimp only at a;by_cases v:ds.length<=10
  .rw [Z_ v] at a;obtain⟨nm,q,N,bs,bm,hdct,sn,sub,ab,col,dd,k0,k1,k2,k3,k5,lk,y,no,ni⟩:=hC.ex;show wpAny_Raise_call_subT (C:=C) (nm:=nm) (q:=q) (N:=N) (bs:=bs) (bm:=bm) (hdct:=hdct) (sn:=sn) (sub:=sub) (ab:=ab) (col:=col) (dd:=dd) (k0:=k0) (k1:=k1) (k2:=k2) (k3:=k3) (k5:=k5) (mN:=X.ω.nsMap N)
    PySem.F.excBase_ValueError ((Xh I.oJ y).hasType rfl) (I.ok.hd h) (by rw[L];show(ag||(cy cpos (ar es X.env)).any (·.1))=ag;rw[x];rfl) (PySem.W.nsMap_none_of_in I.ok.mod.kin no ni) (mT I hg J ⟨rfl,?_⟩ hd)
   have hN:X.ω.Ns N (X.ω.nsMap N):=.of_isNs (PySem.W.isNs_of_in I.ok.mod.kin no);have args:=ha cpos π s σ H (λvs H1=>vs.length=ds.length/\ξ H H1) I ⟨S,bA ρ,λz=>z=ds,st.MV,st.all,⟨ds,et,rfl⟩,λvs H1 ds' n d1 q1=>⟨by rw[<- d1.len,q1],n⟩⟩;rw[L] at args ⊢;show Yz (gp args (λus n ⟨vs,H1,j,r,hlen,Z⟩=>?_) λ_ _ z=>z);show⟨rfl,?_,j.oJ _ _ lk,hN.keeps j.bk,Xh j.oJ y,λh' m mk=>?_⟩
   .show us.length<=bj;rw[<- r.length,hlen];show ig v (by decide)
   .obtain ⟨C',l,xc⟩:=ok.ex c H1 (st.sm.trans Z) a;rw[J] at l;cases l;obtain⟨Y,A,_,_⟩:=mk.there;have I2:Φ X π σ H1 {n with heap:=h' }:=j.kept (t':=n.toks) mk.keeps;show xc π σ _ m (.ref Y) [m] I2 ⟨de,λq d=>?_,λq d=>?_,λq d=>?_,λq d p hp z=>?_,.inl ⟨_,_,A,rfl,rfl,rfl,rfl⟩⟩
    .rw [cg.1 d]
     cases k:H1 m with
     |none=>rfl
     |some o =>
      obtain⟨u,O⟩:=wB (j.hok _ _ k);rw[mk.new] at O;cases O
    .rw [cg.1 d]
     cases k:X.s₀.heap.get? m with
     |none=>rfl
     |some o =>
      obtain⟨o',U⟩:=j.ω.there m o k (by rw[hx];simp);rw[mk.new] at U;cases U
    .rw [cg.1 d];show⟨_,_,A,rfl⟩
    .have:=(j.pin p hp).1;rw[z,cg.mp d,mk.new] at this;cases this
  .rw [Zz v] at a;show a.elim
end
open PySem.W Builtin.ObjectAttr Builtin.Getset_descriptor
structure tF (K:ao) (C:ah):Prop where
 hc:isClsIn K C=ae
 hm:mroIn K C (.type "object")=aa ae
 hs:subIn K (.ref C) (.type "BaseException")=aa ae
 hga:findIn K (.ref C) "__getattribute__"=aa (aa (.builtin "BaseException.__getattribute__"))
 hgg:findIn K (.ref C) "__getattr__"=aa af
 ha:findIn K (.ref C) "__class__"=aa (aa (.builtin "object.__class__"))
 hn:specialIn K (.builtin "object.__class__") "__get__"=aa (aa (.builtin "getset_descriptor.__get__"))
 ht:takesIn K (.builtin "object.__class__")=aa ae
def Is(a C:ah)(h:ba):Prop:=∃o,h.get? a=aa o/\o.cls=.ref C
section
variable{Ω:bg}{w:a_}{A:br}{E:Q0c}{s:ak}{K:ao}{a C:ah}
def kP{M:l_}{h:ba}(i:Is a C h):ou M h (typeOf (.ref a)) (.ref C):=by obtain⟨o,c,h2⟩:=i;show h2▸Looks.andThen (Looks.ld c) .now
theorem TR{c:ai}{R:xp->ak->Prop}(X:K.In s.heap)(i:Is a C s.heap)(q:tF K C)(h:R (.ok (.ret (.ref C))) s):
  ly (au Ω w) A (.call (.builtin "getset_descriptor.__get__") ⟨[.builtin "object.__class__",.ref a,c],[]⟩) R s:=by
 obtain⟨j,n,l,m,d⟩:=s;have p:=kP (M:=au Ω w) i;have o:=looks_mroIn (M:=au Ω w) X q.hm;show Xb Xu.plain KF.entry_gs ?_;show Xu.check _ _ _ _ _ _ _ _ KF.type_class (KF.args_gs _ _ _) ?_;unfold Builtin.«getset_descriptor.__get__» descrGet;rw[dga_obj];show aq (az ?_);unfold descrGetter descrCheckInstance descrNameAndClass isInstance;simp only[KF.owner_class]
 repeat lk
 show vp (Code.quiet_builtin _ (by decide+kernel)) (lx KF.entry_class ?_);unfold Builtin.«object.__class__» shownTypeOf;repeat lk
 show h
def OG{h:ir}{Q:Cj->ak->Prop}(X:K.In s.heap)(i:Is a C s.heap)(q:tF K C)(l:Q (.done (.ret (.ref C))) s):ax (au Ω w) A (Builtin.«object.__getattribute__» ⟨[.ref a,.str "__class__" h],[]⟩) Q E s:=by
 obtain⟨c,g,d,t,j⟩:=s;have o:=kP (M:=au Ω w) i;have n:ou (au Ω w) c (a19 (.ref a) (.ref C) "__class__") (.bind (.builtin "getset_descriptor.__get__") (.builtin "object.__class__")) :=
  have m:ou (au Ω w) c (a2a (aa (.builtin "object.__class__")) (aa (.builtin "getset_descriptor.__get__"))) (aa (.builtin "getset_descriptor.__get__",.builtin "object.__class__")):=(looks_takesIn X q.ht).andThen Looks.now
  (Bx X q.ha).andThen ((looks_specialIn X q.hn).andThen (m.andThen (Looks.tag .now)))
 unfold yb.«object.__getattribute__»;show aq (az (aq (az (aq (o.at (aq (n.at ?_)))))));show ax _ _ (holding [.builtin "object.__class__"] (call (.builtin "getset_descriptor.__get__") [.builtin "object.__class__",.ref a,.ref C]) >>= ret) _ _ _;show aq (iq (tq (TR (s:=⟨c,g,d,t,j⟩) X i q (az l))))
def JK{M:l_}{c:ai}{Q:Unit->ak->Prop}(X:K.In s.heap)(i:Is a C s.heap)(q:tF K C)(h:Q () s):ax M A (checkBuiltinCall "BaseException.__getattribute__" ⟨[.ref a,c],[]⟩) Q E s:=by
 obtain⟨j,g,d,t,l⟩:=s;have L:ou M j (isInstance (.ref a) (.type "BaseException")) ae:=(kP (M:=M) i).andThen (looks_subIn X q.hs);have k1:builtinKind "BaseException.__getattribute__"=aa .slot:=by decide+kernel
 have k2:splitId "BaseException.__getattribute__"=aa ("BaseException","__getattribute__"):=by decide+kernel
 simp only[checkBuiltinCall,k1,k2];show aq (L.at ?_);rw[Zz (by decide)];show Wb (F.args_bexc_ga (.ref a) c) h
def Vg{j:ir}{Q:Q0c}(X:K.In s.heap)(i:Is a C s.heap)(q:tF K C)(l:Q (.ref C) s):ax (au Ω w) A (getAttrBy (.ref a) (.str "__class__" j) ag) Q E s:=by
 obtain⟨h,g,d,t,c⟩:=s;have o:=kP (M:=au Ω w) i;have n:=Bx (M:=au Ω w) X q.hga;have m:=Bx (M:=au Ω w) X q.hgg;unfold getAttrBy;show iq (aq (o.at ?_));show aq (n.at ?_);dsimp only;have ne:(Xy "BaseException.__getattribute__" == Xy "object.__getattribute__")=ag:=by decide+kernel
 rw[ne,a07,Zz b_];unfold getAttrByItsOwn hookBefore;rw[Z_ (show onTheHeap (dq C)=ae from rfl)];show aq (m.at (aq (qp (iq ?_))));unfold callGetattribute;rw[Zz (by simp)];unfold boundAndCalled;show aq (Wb (Yq.ga.bind (.ref a)) ?_);show tq (Xb Yq.ga.plain F.entry_bexc_ga (JK (s:=⟨h,g,d,t,c⟩) X i q (OG (s:=⟨h,g,d,t,c⟩) X i q ?_)));show handed_on rfl l
def OH(X:K.In s.heap)(i:Is a C s.heap)(q:tF K C)(h:Q (aa (.ref C)) {s with toks:=s.toks+1}):ax (au Ω w) A (getAttr? (.ref a) "__class__") Q E s:=by obtain⟨j,g,d,t,c⟩:=s;unfold getAttr? getAttrBy?;show aq (wpAny_mkText (aq (qp ?_)));show Vg (s:=⟨j,g,d,t+1,c⟩) X i q (az h)
theorem OJ(q:tF K C):KitX K (.ref a) (.ref C) (Is a C) where
 ty:=λ_ _ _ i=>kP i
 it:=λ_ _ X _=>by
  have c:(clsIn K C).isSome=ae:=q.hc;unfold clsIn at c;split at c
  .rename_i lk;intro p Q' o s' k h;unfold isType loadHead;show aq (wpAny_loadPart (k _ _ (X _ _ lk)) (az h))
  .cases c
 ne:=λh j d0 m n l X d=>by
  have c:(clsIn K C).isSome=ae:=q.hc;show Bool.eq_false_iff.mpr λz=>?_;obtain rfl:C=j:=a1j (beq_iff_eq.mp z);unfold clsIn at c;split at c
  .rename_i lk;cases (X _ _ lk).symm.trans d
  .cases c
 ca:=λX i k=>OH X i q k
variable{X:Cx}
def oV(X:Cx)(e C:ah):Prop:=∃c:ay,(e,c)∈X.pn/\c.cls=.ref C
def oV.is(h:oV X e C)(I:Φ X π σ H s):Is e C s.heap:=by obtain⟨c,d,j⟩:=h;show⟨c,(I.pin _ (gj _ d)).1,j⟩
theorem A7(m:oV X e C)(q:tF X.K C)(l:∀c,Ψ v c->c=u)(n:qt X.K (.ref C) u=aa b):
  d4 X (.builtin "isinstance") (λxs H Q=>xs=[.ref e,v]/\Q (.bl b) H):=by
 intro π s σ H xs us Q I r h;obtain⟨rfl,h⟩:=h;obtain⟨u1,u2,rfl,r1,j⟩:=vals2 r;cases r1;obtain rfl:=l u2 j;show jg (OJ q) I.oJ (m.is I) n (λz=>nomatch z) λd=>⟨.bl b,H,I.tok d,rfl,h⟩
theorem Ad{i:Nat}{n x c:aj}{e C D:ah}{b:Bool}{p p1 p2 o:bq}(O:oV X e C)(q:tF X.K C)(U:X.mg "isinstance"=af)(hD:X.mg x=aa (.ref D))(hb:qt X.K (.ref C) (.ref D)=aa b)
  (hN:X.N[i]?=aa n:=by rfl) (L:qN X.env.scope n:=by walk_at "1") (Z:Zu n:=by decide) (m:Zt n:=by decide)
  (Y:Gl X "isinstance":=by rfl) (TU:Gl X x:=by rfl) (l:Zu x:=by decide)
  (u:ar [.Name n p1,.Name x p2] X.env=(ag,eval (.Name n p1) X.env)::ar [.Name x p2] X.env:=by rfl) (h:ar [.Name x p2] X.env=(ag,eval (.Name x p2) X.env)::ar [] X.env:=by rfl) (j:(cy o (ar [.Name x p2] X.env)).any (·.1)=ag:=by rfl):
  aZ X (.Call (.Name "isinstance" p) [.Name n p1,.Name x p2] [] o) (wW c e b i) :=
 imp (gH (A7 (v:=.ref D) O q (λu' r=>by cases r;rfl) hb) Y U Ct (b8 (x4 i hN L Z m) (b8 (RN (v:=.ref D) TU hD rfl l) gG h) u) (by decide) (by decide) u j) λσ H Q Qj=>by obtain⟨S,ρ,Q3,fc,F,⟨d,ed,J⟩,k⟩:=Qj;obtain⟨ev,rfl⟩:=EL ed;show⟨S,ρ,λz=>z=.exc c e,fc,F,⟨_,ev,rfl⟩,λv H1 d I y q1=>?_⟩;subst q1;symm at y;subst y;show⟨rfl,k _ H1 _ I (by symm) J⟩
theorem Qi(U:oV X e C)(q:tF X.K C)(Y:X.mg "isinstance"=af)(hD:X.mg x=af)(u:bootBuiltins x=aa (.type T))(hb:qt X.K (.ref C) (.type T)=aa b)
  (hN:X.N[i]?=aa n:=by rfl) (O:qN X.env.scope n:=by walk_at "1") (hd:Zu n:=by decide) (o:Zt n:=by decide)
  (Z:Gl X "isinstance":=by rfl) (TU:Gl X x:=by rfl) (l:x ≠ "__name__":=by decide) (m:Zu x:=by decide)
  (y:ar [.Name n p1,.Name x p2] X.env=(ag,eval (.Name n p1) X.env)::ar [.Name x p2] X.env:=by rfl) (h:ar [.Name x p2] X.env=(ag,eval (.Name x p2) X.env)::ar [] X.env:=by rfl) (j:(cy ν (ar [.Name x p2] X.env)).any (·.1)=ag:=by rfl):
  aZ X (.Call (.Name "isinstance" p) [.Name n p1,.Name x p2] [] ν) (wW c e b i) :=
 imp (gH (A7 (v:=.ty T) U q (λu' r=>r) hb) Z Y Ct (b8 (x4 i hN O hd o) (b8 (FC (v:=.ty T) TU hD u rfl l m) gG h) y) (by decide) (by decide) y j) λσ H Q Qh=>by obtain⟨S,ρ,Q3,fc,I,⟨d,ed,L⟩,k⟩:=Qh;obtain⟨ev,rfl⟩:=EL ed;show⟨S,ρ,λz=>z=.exc c e,fc,I,⟨_,ev,rfl⟩,λv H1 d J F q1=>?_⟩;subst q1;symm at F;subst F;show⟨rfl,k _ H1 _ J (by symm) L⟩
end
def hcx(X:Cx)(a:Option ai)(pn:Q0b):Cx:={X with A:=X.A.mark a,calm:=ag,pn:=pn,xe:=λ_ _=>False}
section
variable{X:Cx}{π:Q0b}{σ:L2.St}{H:Hp}{s:ak}
def yQ{n i:Nat}{v:V}(h:(cp n (af:Option V))[i]?=aa (aa v)):False:=by rw[jr] at h;split at h<;>cases h
theorem Ac{d:Option ai}{pn:Q0b}(I:Φ X π σ H s)(a:∀p∈pn,s.heap.get? p.1=aa p.2/\H p.1=af/\p.1≠X.env.locals/\p.1∉X.fs /\∀v,p.2.data≠.cell v):
  Φ (hcx X d pn) [] (cp X.N.length af) H s:=by
 obtain⟨m,c,_⟩:=id I.loc;show⟨⟨I.ok.mod,I.ok.kind,I.ok.glob,I.ok.blt,I.ok.above,I.ok.inj,I.ok.has,I.ok.cab,λz=>(nomatch z),?_,I.ok.stk,I.ok.exf,I.ok.bs,I.ok.FA,I.ok.z4,I.ok.CM,I.ok.jR,I.ok.P0,I.ok.tab⟩,I.os,I.bare,I.ω,⟨m,c,λi x v _ h2 _=>(yQ h2).elim⟩,I.cell,I.free,I.d7,λp h=>?_,I.hok,by show(cp X.N.length af).length=X.N.length;rw[je]⟩
 .exact I.ok.frames
 .have h:p∈pn++[]:=h;rw[ip] at h;show a p h
def Qg{X:Cx}{π j pn:Q0b}{d:Option ai}{a:L2.St}{H:Hp}{s:ak}(ok:X.Ok)(I:Φ (hcx X d pn) j a H s)(sub:∀p∈X.pn++π,p∈pn):Φ X π (cp X.N.length af) H s:=by obtain⟨m,c,_⟩:=id I.loc;show⟨ok,I.os,I.bare,I.ω,⟨m,c,λi x v _ h2 _=>(yQ h2).elim⟩,I.cell,I.free,I.d7,λp h=>I.pin p (gj _ (sub p h)),I.hok,by rw[je]⟩
def V6{h':ba}{y:Q0d}{t:Nat}(I:Φ X π σ H s)(U:h'.Ns X.env.locals y)(a:mf X.env.locals s.heap h'):Φ X π (cp X.N.length af) H {s with heap:=h',toks:=t}:=by
 have l:∀b o,X.s₀.heap.get? b=aa o->b≠X.env.locals:=λb o q=>fq (gi (bz q) I.ok.above);show⟨I.ok,I.os,I.bare,⟨λb o e n m h=>(a.2 b (l b o e)).trans (I.ω.keep b o e n m h),λb o e n m h=>?_,I.ω.free,λb o e h=>?_,I.ω.tups,I.ω.p6,I.ω.oI⟩,⟨y,U,λi x v _ h2 _=>(yQ h2).elim⟩,λx c e=>?_,I.free,I.d7,λp O=>?_,λb F e=>?_,by rw[je]⟩
 .obtain ⟨A,q⟩:=I.ω.slot b o e n m h;show⟨A,(a.2 b (l b o e)).trans q⟩
 .obtain ⟨J,q⟩:=I.ω.there b o e h;show⟨J,(a.2 b (l b o e)).trans q⟩
 .obtain ⟨v,L⟩:=I.cell x c e;show⟨v,L.sameBut a (I.RM x c e)⟩
 .obtain ⟨q,n,ne,K,d⟩:=I.pin p O;show⟨(a.2 _ ne).trans q,n,ne,K,d⟩
 .refine (I.hok b F e).stay (λc u j q=>(a.2 c λz=>?_).trans q) (λ_ q=>q) λ_ _ q=>q;rcases j with rfl|j
  .rw [z,I.free] at e;cases e
  .rw [z,I.free] at j;cases j
theorem looked{π:Q0b}{σ:L2.St}{H:Hp}{s:ak}{e:ah}{cls v:ai}{P:List ah}{E:Q0c}{Q:ak->Prop}(l:X.stack=X.env::X.Γ)(n:X.env.frame=aa X.env.locals)(I:Φ X π σ H s)(T:lQ X π H s e cls v P)
  (k:∀h',Φ X π σ H {s with heap:=h' }->h'.TracedW (hideAll s.heap (P++frs X.stack)) e cls v->(hideAll s.heap (P++frs X.stack)).StaysIn h'->h'.FunFrames (hideAll s.heap (P++frs X.stack)) X.stack->s.heap.UpToSlots h'->Q {s with heap:=h' }):
  ax (au X.Ω X.w) X.A (noteFrame (.ref e) X.env) (λ_ Z=>ax (au X.Ω X.w) X.A (setFlight (.ref e) af) (λ_ s3=>Q s3) E Z) E s:=by
 have m:∀env∈X.stack,∀b,env.frame=aa b->b∈P++frs X.stack:=λenv c b hb=>gm _ (pk.mpr ⟨env,c,hb⟩);have stay:(hideAll s.heap (P++frs X.stack)).StaysIn s.heap:=λb o q=>Bv _ q;have fns:s.heap.FunFrames (hideAll s.heap (P++frs X.stack)) X.stack:=Xm I.stack m;have d:(hideAll s.heap (P++frs X.stack)).get? e=af:=uc _ (gj _ T.mem);generalize K:hideAll s.heap (P++frs X.stack)=B at *;have next:∀h',Heap.NotedW B X.stack e cls v (rawInt X.env.locals) s.heap h'->ax (au X.Ω X.w) X.A (setFlight (.ref e) af) (λ_ s3=>Q s3) E {s with heap:=h' }:=λh' Qf=>by
  obtain⟨k1,k2,k3,k4⟩:=Qf;show Vy (s:={s with heap:=h' }) k1 k2 k3 λh2 J j2 j3 j4=>?_;have us:s.heap.UpToSlots h2:=λb o eb F=>by obtain⟨U,q⟩:=k4 b o eb F;show⟨U,j4 b _ q F⟩
  show k h2 (flown I T (λb o n1 n2 q=>J b o ?_) us) j3 J j2 us;rw[<- K];show ud _ q λz=>(gn.mp z).elim n1 n2
 have a:=I.ok.frames;rw[l] at a fns next
 rcases T.tr with⟨y,vs,c,u,h,j,h0⟩|⟨y,vs,L,oT,O,c,u,h,j,hm,m_,hT,p,h3⟩
 .subst u;unfold noteFrame;simp only[n];show aq (ng (x:=.none) c h j ?_);rw[Zz (by decide)];show wpAny_entryW a fns n c stay d h (Array.getElem?_eq_some_iff.mp j).1 h0 next
 .have Y:B.get? L=af:=by rw[<- K];show uc _ (gj _ hm)
  show wpAny_noteFrame_onW a fns n ⟨y,vs,L,oT,O,c,u,h,j,Y,m_,hT,p,h3⟩ stay d next
def CPB(i j:Int):Prop:=0<=j/\j<=100/\i.natAbs<2^1000
def TV:gF X (binaryOp .Pow) (rI CPB λi j=>.int (i^j.toNat)):=VH λ_ _ _ _ _ _ _ c q=>by obtain⟨a,h,d⟩:=c;show a2f a (Ep (Int.mul_le_mul_of_nonneg_right (?_:_<=(1000:Int)) a) ∅) q;have:=Cq d;lia
def Qd(d:aZ X a fa)(c:aZ X b fb):aZ X (.BinOp a .Pow b ν) (aB KH fa fb):=cE (P4 TV jV d c) (eS (dO λi j h=>by simp only[jf,decide_eq_true_eq] at h;show⟨h.1.1,h.1.2,h.2⟩))
def j5{p:Prop}(h:ag=ae):p:=nomatch h
def ExI(mro:Q0f)(l:List (Option ai))(P:ah->List ai->String->Bool):Prop:=∃C1 bm j h d c n a,mro=.ref C1::bm/\l=[j,h,d,c,aa (.builtin n),a]/\P C1 bm n=ae
theorem JL(h:excIn.match_1 (λ_ _=>Bool) mro sl (λC1 bm _ _ _ _ n _=>P C1 bm n) (λ_ _=>ag)=ae):
  ExI mro sl P:=by
 cases mro with
 |nil=>show j5 h
 |cons v bm =>
 cases v with
 |ref C1 =>
  cases sl with
  |nil=>show j5 h
  |cons y0 sl =>
  cases sl with
  |nil=>show j5 h
  |cons y1 sl =>
  cases sl with
  |nil=>show j5 h
  |cons y2 sl =>
  cases sl with
  |nil=>show j5 h
  |cons y3 sl =>
  cases sl with
  |nil=>show j5 h
  |cons y4 sl =>
  cases y4 with
  |none=>show j5 h
  |some w =>
  cases w with
  |builtin n =>
   cases sl with
   |nil=>show j5 h
   |cons y5 sl =>
   cases sl with
   |cons z sl=>show j5 h
   |nil=>show⟨C1,bm,y0,y1,y2,y3,n,y5,rfl,rfl,h⟩
  |_=>show j5 h
 |_=>show j5 h
def TY{K:ao}{C:ah}(h:excIn K C bmV "ValueError.__new__"=ae):wo K C:=by
 unfold excIn at h;split at h
 .rename_i dd cd a lk;obtain⟨C1,bm,o,m,l,j,n,d,e1,c,h⟩:=JL h;obtain⟨O,J,Y,I,F,A,z,y,x,U,L⟩:=cd;obtain⟨a⟩:=a;dsimp only at e1 c h;subst e1 c;simp only[jf,beq_iff_eq,vk] at h;obtain⟨⟨⟨⟨⟨g1,g2⟩,v⟩,u⟩,q⟩,p⟩:=h;subst g1 g2 v;show⟨⟨O,F,I,J,bm,A,z,y,x,U,dd,o,m,l,j,d,lk,u,q,p⟩⟩
 .cases h
end
variable{K:ao}{C D:ah}
structure yR (K:ao) (C D:ah):Prop where
 ne:(dq C == dq D)=ag
 c:isClsIn K D=ae
 t:typeIn K (.ref D)=aa (.type "type")
 s:subIn K (.ref C) (.ref D)=aa ag
def wD(c:isClsIn K D=ae)(a:typeIn K (.ref D)=aa (.type "type"))(s:subIn K t (.ref D)=aa b):kitCls K t (.ref D)=aa b:=by have c:(clsIn K D).isSome=ae:=c;unfold kitCls;dsimp only;rw[c,a,Z_ (by decide)];show s
def yR.one(n:yR K C D):kitOne K (.ref C) (.ref D)=aa ag:=by unfold kitOne;rw[n.ne,Zz b_];show wD n.c n.t n.s
def OK:kitOne K (.ref C) (.ref C)=aa ae:=by unfold kitOne;rw[Z_ (by simp)]
def TZ(k:kitMeta T=ae)(s:subIn K (.ref C) (.type T)=aa b):kitOne K (.ref C) (.type T)=aa b:=by unfold kitOne;rw[Zz (show ¬ (dq C == g_ T)=ae from λz=>by cases beq_iff_eq.mp z)];unfold kitCls;dsimp only;rw[Z_ k];show s
def Vf(e1:subIn K (.ref D) (.type "BaseException")=aa ae)(d:isClsIn K D=ae)(c:typeIn K (.ref D)=aa (.type "type"))(a:subIn K (.ref C) (.ref D)=aa b):exmOne K (.ref C) (.ref D)=aa b:=by unfold exmOne;rw[e1,Z_ (by decide)];show wD d c a
end L5
namespace L5
open PySem.Spec PyProof.Rows L2 L3 L4
section
variable{X:Cx}
def PRs(X:Cx)(a:List av)(r:RF):Prop:=PA X a (λσ H _=>tR X r σ H λ_ _=>True)
def AG(h:PA X es t)(f:∀σ H Q,t' σ H Q->t σ H Q):PA X es t':=λa π s σ H Q I q=>h a π s σ H Q I (f σ H Q q)
def Ve(p:aZ X e f)(o:PRs X es r)(n:Zr X e es:=by rfl):PRs X (e::es) (U1 f r) :=
 AG (b8 p o n) λσ H Q u=>by obtain⟨S,ρ,c,l,j,h,k⟩:=u;obtain⟨d,q,h⟩:=bnd h;show⟨S,ρ,λ_=>True,l,j,⟨d,q,trivial⟩,λv H1 x a _ _=>⟨S,ρ,c,aU l a,Sl.fits (.same a) j,h,λH' m=>k H' (a.trans m)⟩⟩
def Vd(c:PR X e r)(d:qB X es t)(a:Zr X e es:=by rfl):PRs X (e::es) r :=
 AG (b8 c d a) λσ H Q h=>h
def Qa{x1}(h:PRs X es r):PR X (.Tuple es x1 ν) r:=imp (MB h) λσ H Q h=>h
end
open HS
section
variable{X:Cx}
def Ab:F2
 |.lst a,.int n,Q=>a.length*n.toNat<=bj /\ -(2^63)<=n/\n<2^63/\Q (.lst (cp n.toNat a).flatten)
 |_,_,_=>False
theorem GG{K:ao}{S:ah->Prop}{H:Hp}{ds:List D}{xs:List V}(h:aH K S H ds xs):∀n:Nat,aH K S H (cp n ds).flatten (cp n xs).flatten
 |0=>aH.nil
 |n+1=>by rw[kj,kj,qa,qa];show h.append (GG h n)
def rep3(o:bU X a ta)(O:bU X b tb):AE X (.BinOp a .Mult b ν) (eR Ab ta tb):=imp (LV YX o O) λσ H Q h=>by
 obtain⟨S,ρ,Q3,y,x,L,k⟩:=h;show⟨S,ρ,_,y,x,L,λv H1 d l A q1=>?_⟩;show⟨S,ρ,_,aU y l,Sl.fits (.same l) x,q1,λu Z U j c q2=>?_⟩;cases d<;>cases U<;>try show q2.elim
 rename_i ds n;symm at A c;obtain⟨a,xs,rfl,o,Y,z⟩:=A;subst c;have q:=aH.fits (.same j) _ _ z;obtain⟨J,I,F,K⟩:=q2;show⟨a,n,xs,rfl,rfl,j _ _ o,I,F,by rw[<- z.len];show J,λp m=>k p _ _ _ ((l.trans j).free m) aI ((l.trans j).trans (aG m)) ?_ K⟩;show aH.fits ((Fits.fresh m).trans (.same (aG m))) _ _ (GG q _)
def JM:Tells Ab repLM:=λx y d Q e q=>by
 cases x<;>first|(cases e;done)|skip
 cases y<;>first|(cases e;done)|skip
 rename_i a n;have e:(if a.length*n.toNat<=i5/\n.natAbs<9223372036854775808 then aa (D.lst (cp n.toNat a).flatten) else af)=aa d:=e;by_cases h:a.length*n.toNat<=i5/\n.natAbs<9223372036854775808
 .rw [Z_ h] at e;cases e;show⟨by rw[fv];show h.1,by have:=h.2;lia,by have:=h.2;lia,q⟩
 .rw [Zz h] at e;cases e
def P_(d:aZ X a fa)(c:aZ X b fb):i8 X (.BinOp a .Mult b ν) (aB repLM fa fb):=cF (rep3 d c) (eS JM)
def GH:V->List V->Hp->VK->Prop:=λx vs H Q=>∃l xs k y,x=.ref l/\vs=[.int k,y]/\H l=aa (.lst xs)/\0<=k/\k<=(xs.length:Int)/\xs.length<bj/\Q .non (upd H l (.lst (xs.take k.toNat++y::xs.drop k.toNat)))
def JN:MtR X "list.insert" GH:=by
 intro π s σ H x vs v us Q I m o h;obtain⟨l,xs,k,y,rfl,rfl,j,k0,k1,A,q⟩:=h;cases m;obtain⟨u,u2,rfl,p,c⟩:=vals2 o;obtain⟨t,rfl⟩:=p;obtain⟨z,a,n,r,J,e⟩:=I.z9 j;have sz:bj<2^62:=by decide
 show qr Yi ⟨_,e,rfl⟩ PySem.F.entry_list_insert (PySem.F.args_list_insert_3 _ _ _) (a2d l a.toArray n k t u2 (by rw[Bs ∅ ∅];decide) (by rw[cu];lia)) ⟨e,?_⟩;show⟨.non,_,I.R6 (its':=a.take k.toNat++u2::a.drop k.toNat) j e ?_ ((r.take k.toNat).append (.cons c (r.drop k.toNat))) ?_,rfl,q⟩
 .show (let d:=if k<0 then(k+((a.toArray.size:Nat):Int)).toNat else min k.toNat a.toArray.size;(a.toArray.extract 0 d).push u2++a.toArray.extract d)=_;rw[Zz ∅,show min k.toNat a.toArray.size=k.toNat by rw[cu];lia];simp;show rh (by rw[km];show bp _)
 .rw [dm,fj,ij,km];lia
def OL{K:ao}{n i:Nat}{O L:EF}{σ:L2.St}{H:Hp}{Q:VK}(h:FV K n (wX (KI i O L)) σ H Q):vt K "list" GH (oK i) (k8 (lift K (wE O)) (k8 (lift K (wE L)) MA)) σ H Q:=by
 obtain⟨H₀,S,w,ρ,G,Q3,hl,st,⟨p,e,q⟩,k⟩:=h;obtain⟨ds,e0,e⟩:=bnd e;obtain⟨kd,ek,e⟩:=bnd e;obtain⟨c,v,e⟩:=bnd e;obtain⟨d,ed,e⟩:=bnd e;by_cases A:d.wQ=ae/\0<=c/\c<=(ds.length:Int)/\ds.length<i5
 .rw [Z_ A] at e;cases e;obtain⟨hi,k0,k1,hz⟩:=A;have o:=DR e0;obtain⟨a,b,xs,hp,dn⟩:=st.own i _ o;cases kd<;>first|(cases v;done)|skip
  cases v;show⟨_,a,.inl ⟨rfl,xs,dS.of hp⟩,S,bA ρ,λd=>d=.int c,st.MV,st.all,⟨_,ek,rfl⟩,λv1 H1 d1 Z y q1=>?_⟩;subst q1;symm at y;subst y;have l:=st.same Z;show⟨S,bA ρ,λd'=>d'=d,l.MV,l.all,⟨_,ed,rfl⟩,λJ U d2 Y I q2=>?_⟩;subst q2;have m:=l.same Y;obtain⟨a',b',j,u,x⟩:=m.own i _ o;have dl:=x.len;have nS:¬ SO S w ρ (w i):=λ⟨_,z⟩=>z i _ o rfl;have F:Fits K (SO S w ρ) (SO S w ρ) U (upd U (w i) (.lst (j.take c.toNat++J::j.drop c.toNat))):=.upd (.inl ⟨_,u⟩) nS;show⟨w i,j,c,J,rfl,rfl,u,k0,by rw[<- dl];show k1,by rw[<- dl,fv];show hz,?_⟩;show k w .non _ _ .non (m.write (d':=.lst (ds.take c.toNat++d2::ds.drop c.toNat)) o ⟨_,aI,aH.fits F _ _ (aH.insert c.toNat (Dn.wQ hi I) x)⟩) (by symm) q
 .rw [Zz A] at e;cases e
theorem Gk(u:aZ X ea fa)(q:aZ X eb fb)
  (hN:X.N[i]?=aa x:=by rfl) (n:qN X.env.scope x:=by walk_at "1") (o:Zu x:=by decide) (l:Zt x:=by decide)
  (c:attributeBase (.Name x p) "insert" X.env (eval (.Name x p) X.env)=eval (.Name x p) X.env:=by rfl)
  (d:((cy cpos (ar [ea,eb] X.env)).all (λx=>!x.1)&&(backToKw cpos (lr [] X.env)).all (λx=>x.1.isSome)
   && Zv ([ea,eb].length+([]:List gx).length+(if([]:List gx).isEmpty then 0 else 1)<30))=ae:=by rfl)
  (a:Q0k apos cpos:=by rfl) (m:ar [ea,eb] X.env=(ag,eval ea X.env)::ar [eb] X.env:=by rfl) (j:Zr X eb []:=by rfl) (hplain:(cy cpos (ar [eb] X.env)).any (·.1)=ag:=by rfl):
  F5 X (.Call (.Attribute (.Name x p) "insert" apos) [ea,eb] [] cpos) (KI i fa fb) :=
 imp (VP Yp Yi PySem.F.type_list_insert JN (gE hN n o l) (b8 u (b8 q gG j) m) c d a m hplain) λ_ _ _ h=>OL h
def Pz(A:F5 X e f)(z:SU X tg (wG g))(y:swapsWithSole [tg] e ν.line X.env=pure ag:=by rfl)(hw:swappedStores [tg] e X.env=pure af:=by rfl)
  (F:(e_ [tg] X.env).map (·.2)=[assign tg X.env]:=by rfl):uH X (.Assign [tg] e ν) (GZ f g) :=
 jX (X8 A z y hw F) λB σ H K=>by
  obtain⟨H₀,S,w,ρ,G,E,o,st,c,ok⟩:=K;unfold wS GZ at c
  cases e1:(f ρ).bind λp=>g p.2 p.1 with
  |none=>rw[e1] at c;show c.elim
  |some ρ' =>
   rw[e1] at c;obtain⟨p,J,I⟩:=bnd e1;show⟨H₀,S,w,ρ,G,λa q=>a=p.1/\q=p.2,o,st,⟨p,J,rfl,rfl⟩,λn v H' a q l d' x=>?_⟩;obtain⟨rfl,rfl⟩:=x;show⟨H₀,S,n,p.1,G,p.2,_,o,l,d',⟨ρ',I,c⟩,λd L h m j u=>ok.nx n d L h m j u⟩
end
def Vc(I:Φ X π σ H s)(a:∀p∈pn,s.heap.get? p.1=aa p.2/\H p.1=af/\p.1≠X.env.locals/\p.1∉X.fs /\∀v,p.2.data≠.cell v):Φ (hcx X hd pn) [] σ H s :=
 ⟨⟨I.ok.mod,I.ok.kind,I.ok.glob,I.ok.blt,I.ok.above,I.ok.inj,I.ok.has,I.ok.cab,λz=>(nomatch z),I.ok.frames,I.ok.stk,I.ok.exf,I.ok.bs,I.ok.FA,I.ok.z4,I.ok.CM,I.ok.jR,I.ok.P0,I.ok.tab⟩,I.os,I.bare,I.ω,I.loc,I.cell,I.free,I.d7,λp h=>a p (by have h:p∈pn++[]:=h;rw[ip] at h;show h),I.hok,I.len⟩
theorem Vb{Y:Cx}{e:ah}{oe:ay}{pn:Q0b}{x qual:aj}{st:cn}{f:ah}{fd:gc}{N L:Q0g}{k n np:Nat}{b:SF}{p ν:bq}{a:av}{es:List av}{t:AF}
  (F:MO Y.K x qual st f fd) (S:cH N L (aF st)) (hn:N.length=n) (hp:L.length=np) (hm:Y.mg x=aa (.ref f)) (hk:keepIn Y.K (.ref f)=ae) (hb:Binds Y.K fd L []) (hr:cZ k Y.A)
  (X:∀(m:ai) (Γ:List df) (s:ak) (H:Hp) (E:XK),fU (hcx (eQ gI Y.Ω Y.w Y.K Y.mg Y.ω N qual (aF st) f m Y.A Γ s H E) (aa (.ref e)) ([]++[(e,oe)])) (bV st) b)
  (ha:qB (hcx Y (aa (.ref e)) (pn++[(e,oe)])) (a::es) t) (hg:Gl Y x:=by rfl) (hdb:Zu x:=by decide) (he:ar (a::es) Y.env=(ag,eval a Y.env)::ar es Y.env:=by rfl) (hpl:(cy ν (ar es Y.env)).any (·.1)=ag:=by rfl):
  aZ (hcx Y (aa (.ref e)) (pn++[(e,oe)])) (.Call (.Name x p) (a::es) [] ν) (aN (bM n np b) t):=by
 intro π s σ H Q I h;subst hn hp;obtain⟨S',ρ,Q3,fc,sl,⟨d,e1,q⟩,kq⟩:=h;obtain⟨ds,ed,j⟩:=bnd e1;have er:ds.length=L.length/\(b (bL N.length ds)=.rt d \/∃ρ',b (bL N.length ds)=.nx ρ'/\d=.non):=by
  unfold bM at j;by_cases hl:ds.length=L.length
  .rw [Z_ hl] at j;show⟨hl,?_⟩
   cases hb:b (bL N.length ds) with
   |rt d'=>rw[hb] at j;cases j;show .inl rfl
   |nx ρ'=>rw[hb] at j;cases j;show .inr ⟨ρ',rfl,rfl⟩
   |no=>rw[hb] at j;cases j
   |ex c=>rw[hb] at j;cases j
  .rw [Zz hl] at j;cases j
 show tu (mT I hg hm ?_ hdb);show Xp (h₀:=Y.ω) I.ok.mod.kin hk (dA (ha ν π s σ H (λvs H1=>ξ H H1/\aH Y.K S' H1 ds vs) I ⟨S',ρ,λz=>z=ds,fc,sl,⟨ds,ed,rfl⟩,λvs H1 ds' l d1 z=>by subst z;show⟨l,d1⟩⟩) λus l ⟨vs,H1,Z,r1,O,d1⟩=>⟨Z.oJ,?_⟩) he hpl;have hlv:vs.length=L.length:=by rw[<- d1.len];show er.1
 have hlu:us.length=L.length:=by rw[<- r1.length];show hlv
 have hb':=hb l us Z.oJ (by rw[ip];show hlu);obtain⟨oc,od,kV,doc,pm,an,m,ct,osl,rfl,lk,hcd⟩:=F.ex;show tq (xa (R:=CR gI Y.stack Y.Ω Y.w H1 l Q E0) ?_ λr s' hq=>?_)
 .have e0:=Z.env0;have KX:Y.K.In l.heap:=Z.oJ;have lim:l.heap.NoLimit:=e0.mod.nolimit.keeps λb o e=>(e0.bs b o e).1;have U:∀y∈L.zip us,(aF st).names.lookup y.1=aa .local\/((aF st).names.lookup y.1=aa .cell/\((cellsFrom (l.heap.objs.size+1) (aF st).names []).lookup y.1).isSome=ae):=λy hy=>by
   rcases S.par y.1 (rj hy).1 with q|q
   .exact .inl q
   .exact .inr ⟨q,Cc _ _ _ (.inl q)⟩
  rw[ip] at hb';show Xa hr.depth (KX _ _ lk) rfl S.co S.gen rfl (Xo KX hcd) (hb' _ _ _ _ ?_);show Wc S.kind U λenv he s2 x=>?_;subst he;show⟨lim.keeps x.toInCall.keep,W_ ?_⟩;have I0:Φ (eQ gI Y.Ω Y.w Y.K Y.mg Y.ω N qual (aF st) f m Y.A Y.stack l H1 E0) [] (start N vs) H1 s2:=vG S hr.hd ⟨e0.frames,e0.mod,e0.bs,e0.FA,e0.jR,e0.P0,e0.hok,e0.bare,e0.tab⟩ hlv r1 x;have pe:=Z.pin (e,oe) (gj _ (gm _ (cg.mpr rfl)));obtain⟨pe1,pe2,pe3,pe4,pe5⟩:=pe;have elt:e<l.heap.objs.size:=bz pe1;have Ih:Φ (hcx (eQ gI Y.Ω Y.w Y.K Y.mg Y.ω N qual (aF st) f m Y.A Y.stack l H1 E0) (aa (.ref e)) ([]++[(e,oe)])) [] (start N vs) H1 s2:=Vc I0 λz hz=>by
   rw[pf] at hz;rw[cg.mp hz];show⟨x.toInCall.keep e oe pe1,pe2,fq elt,λy=>?_,pe5⟩;have y:e∈frs Y.stack:=y;rcases Z.ok.stk with z|⟨z1,z2⟩
   .have z:Y.stack=Y.Γ:=z;rw[z] at y;show pe4 y
   .have z1:Y.stack=Y.env::Y.Γ:=z1;have z2:Y.env.frame=aa Y.env.locals:=z2;rw[z1] at y;unfold frs at y;rw[za,z2] at y;rcases bx.mp y with y|y
    .exact pe3 y
    .exact pe4 y
  show gp (X m Y.stack l H1 E0 [] s2 (start N vs) H1 {nx:=λ_ H'=>Q .non H',rt:=Q} Ih ⟨H1,S',λ_=>0,eX N ds,[],{nx:=λ_=>d=.non,rt:=λd'=>d'=d},?_,m8 (aU fc O) d1,?_,⟨λw' σ' H' ρ' _ st' z=>?_,λv H' d' s' d'' z=>?_,λ_ _ _ _ _ _ z=>z,λ_ _ _ _ _ _ z=>z,λ_ _ _ z=>z.elim⟩⟩) (λfl s' hs=>?_) λ_ _ z=>z.elim
  .have hp:L.length<=N.length:=by have:=congrArg pz S.pre;rw[ij] at this;lia
   unfold L2.start;show _=N.length;rw[dm,bo,je];lia
  .show wS b _ (bL N.length ds);unfold wS;rcases er.2 with z|⟨ρ',z,z2⟩
   .rw [z]
   .rw [z];show z2
  .subst z;show kq .non H' .non (O.trans st'.sm) (by symm) q
  .subst z;show kq v H' d' (O.trans s') d'' q
  .cases fl with
   |ret u =>
    obtain⟨v,σ',H',J,rv,z⟩:=hs;show⟨v,H',J.os,J.bare,J.ω,J.hok,rv,z⟩
   |next =>
    obtain⟨σ',H',J,z⟩:=hs;show⟨.non,H',J.os,J.bare,J.ω,J.hok,rfl,z⟩
   |brk=>obtain⟨_,_,_,z⟩:=hs;show z.elim
   |cont=>obtain⟨_,_,_,z⟩:=hs;show z.elim
 .cases r with
  |error e=>show hq.elim
  |ok fl =>
   cases fl with
   |ret u=>show Z.after hq
   |next=>show hq.elim
   |brk=>show hq.elim
   |cont=>show hq.elim
end L5
namespace L6
open PySem.Spec PyProof.Rows
section
variable{Ω:bg}{w:a_}{A:br}{E:Q0c}{s:ak}
theorem stored(ho:s.heap.get? a=aa o)(c:o.data=.set es ep t):
  (s.heap.update a (Ya es' t')).get? a=aa {o with data:=.set es' (ep+1) t' }:=by
 have q:=uj (Ya es' t') ho (by rw[putSet_of es' t' c];rfl)
 rwa [putSet_of es' t' c] at q
end
open L2 L3 L4
section
variable{X:Cx}
def Aa{kt k2 J3}(Y:X.calm=ae)(hN:X.N.Nodup)(Z:qB X [a,b] t)(q:X.N[i]?=aa x:=by rfl)(p:X.N[j]?=aa y:=by rfl)(n:i≠j:=by decide)
  (L:X.env.scope.names.lookup x=aa .local:=by rfl) (K:X.env.scope.names.lookup y=aa .local:=by rfl)
  (hw:swappedStores [.Tuple [.Name x px,.Name y py] kt pt] (.Tuple [a,b] k2 J3) X.env=pure (aa [x,y]):=by rfl)
  (O:swapsWithSole [.Tuple [.Name x px,.Name y py] kt pt] (.Tuple [a,b] k2 J3) ν.line X.env=pure ag:=by rfl):
  uH X (.Assign [.Tuple [.Name x px,.Name y py] kt pt] (.Tuple [a,b] k2 J3) ν) (zG i j t) :=
 jX (X9 Y hN q p n L K Z hw O) λB σ H Px=>by
  obtain⟨H₀,S,w,ρ,G,E,l,st,c,ok⟩:=Px;unfold wS zG at c
  cases et:t (fG ρ) with
  |none=>rw[et] at c;show c.elim
  |some ds =>
   rw[et] at c
   match ds,et,c with
   |[d1,d2],et,c =>
    show⟨_,fG ρ,λu=>u=[d1,d2],st.FR,st.rd,⟨_,et,rfl⟩,λvs H1 u F q1 e=>?_⟩;subst e;obtain⟨A,r,rfl,q2,J⟩:=q1.aX;obtain⟨v,r2,rfl,I,o⟩:=J.aX;simp only[aH] at o;subst o;show⟨A,v,rfl,?_⟩;have h:=(st.same F).iX (by rw[l];show gJ q) q2;have m:∀a,SO S w ρ a->SO S w (ρ.set i (.ro d1)) a:=SO.mono λk e U=>by
     rcases get_set U with⟨_,z,_⟩|z
     .cases z
     .exact ⟨e,z.2⟩
    have d:=h.iX (i:=j) (by rw[gy,l];show gJ p) (Dn.fits (.mono m) _ _ I);show ok.nx w _ H1 _ (by rw[gy,gy];show l) d c
   |[],et,c=>show c.elim
   |[_],et,c=>show c.elim
   |_::_::_::_,et,c=>show c.elim
end
theorem A8(m:h_ s.heap t ι.toArray)(l:ι.length<=bj)
  (h:∀h',s.heap.objs.size<=h'.objs.size->(∀b u,s.heap.get? b=aa u->h'.get? b=aa u)->Q ι {s with heap:=h' }):ax (au Ω w) A (collect (.ref t)) Q E s:=by
 obtain⟨n,a,d,o,c⟩:=id m;unfold collect;apply aq;apply Wa;show lx Ys ?_;rw[nj Yo]
 wp_walk
 show⟨qq xv _,lx Yt ?_⟩;rw[nj xv];have j:(s.heap.push {cls:=.type "list",data:=.seq #[]}).get? s.heap.objs.size=aa {cls:=.type "list",data:=.seq #[] 0}:=fw _ rfl;show Wi (R:=wants _ _) (s:={s with heap:=s.heap.push {cls:=.type "list",data:=.seq #[]} }) s.heap.objs.size t _ 0 (.inr rfl) j (cx _ a) d c ?_ (by simpa using l);have g1:=uj (fm (· ++ ι.toArray)) j rfl;apply aq;apply Bj g1;have fin:=h ((s.heap.push {cls:=.type "list",data:=.seq #[]}).update s.heap.objs.size (fm (· ++ ι.toArray))) (lj (bz g1)) λb u e=>(Ci _ _ (nu (bz e))).trans (cx _ e);show az ?_;simpa using fin
theorem DW(p:h_ s.heap t ι.toArray)(d:ki ι ns)(v:ns.length<64)
  (h:∀h' n l out a e,(∀b u,s.heap.get? b=aa u->h'.get? b=aa u)->s.heap.objs.size<=l->ki out a->a.Perm ns->a.Pairwise (· <= ·)->h'.get? l=aa (seqObj "list" out.toArray e)->Q (.ref l) {s with heap:=h',toks:=n}):
  ax (au Ω w) A (call (.builtin "sorted") [.ref t]) Q E s:=by
 have o:ι.length<64:=by rw[IntsAre.length d];show v
 apply Co yi ye yj (Cw _);unfold Builtin.«sorted»;show aq (m:=checkCount "sorted" 1 1 _) (az (aq (A8 (A:=A.in1) p (by rw[fv];lia) λj l1 keep=>?_)));apply aq;show om ?_ (by rw[fv];lia);have g1:(j.push (seqObj "list" ι.toArray 0)).get? j.objs.size=aa (seqObj "list" ι.toArray 0):=fw _ rfl;show aq (iq (jw yd ⟨_,g1,rfl⟩ yl (list_sort_tree g1 d o λout a z y x=>⟨_,rfl,?_⟩) (Cy _)));obtain⟨e,g2⟩:=Zl (out:=out) g1;show az ⟨_,rfl,h _ s.toks _ out.toList a e (λb u q=>?_) l1 z y x (by simpa using g2)⟩;have c:=bz (keep b u q);rw[Zk (fq c) (by rw[uh];show uv c)];show cx _ (keep b u q)
section
variable{X:Cx}
def Va(K:ao):List V->Hp->VK->Prop:=λxs H Q=>∃(a:ah) (ns:Q0e),xs=[.ref a]/\dZ K H a (ns.map V.int)/\ns.length<64 /\∀c:Q0e,c.Perm ns->c.Pairwise (· <= ·) ->∀p,H p=af->Q (.ref p) (upd H p (.lst (c.map V.int)))
def DX:d4 X (.builtin "sorted") (Va X.K):=by
 intro π s σ H xs us Q I r h;obtain⟨a,ns,rfl,y,z,q⟩:=h;obtain⟨u,rfl,v⟩:=vals1 r;cases v;obtain⟨L,p,x,O⟩:=I.tuple y;show DW x (intsAre_of p) z λh' n l out c e keep j F m A g=>?_;have d:c.length<=bj:=by rw[m.length_eq,fv];lia
 have J:=I.laid (t':=n) (a:=l) (o:=.lst (c.map V.int)) keep j ⟨by rw[bo];show d,out,e,eE F,by simpa[seqObj] using g⟩;show⟨.ref l,_,J,rfl,q c m A l (I.hok.fresh j)⟩
def OM(I:X.mg "sorted"=af)(L:qB X [e] t)(J:Gl X "sorted":=by rfl)(K:Zr X e []:=by rfl):
  i8 X (.Call (.Name "sorted" p) [e] [] ν) (cL jC t) :=
 imp (gH DX J I uq L (by decide) (by decide) K (by rfl)) λσ H Q Z=>by
  obtain⟨S,ρ,Q3,O,A,⟨d,c,F⟩,k⟩:=Z;obtain⟨ds,n,c⟩:=bnd c;show⟨S,ρ,λx=>x=ds,O,A,⟨_,n,rfl⟩,λvs H1 x o y q1=>?_⟩;subst q1;unfold jC at c;split at c
  .rename_i a;obtain⟨ns,e1,c⟩:=bnd c;by_cases m:ns.length<64
   .rw [Z_ m] at c;cases c;rw[ints_of e1] at y;obtain⟨v,r,rfl,u,h2⟩:=y.aX;simp only[aH] at h2;subst h2;symm at u;obtain⟨t1,xs,rfl,q,Y⟩:=u;rw[aH.ints.mp Y] at q;show⟨t1,ns,rfl,dZ.of q,m,λj pm z l h=>?_⟩;have U:j=sortI ns:=lU (pm.trans (jZ _).symm) z (hZ _);subst U;show k l _ _ _ (o.free h) aI (o.trans (aG h)) (aH.ints.mpr rfl) F
   .rw [Zz m] at c;cases c
  .cases c
end
end L6
namespace L7
open PySem.Spec PyProof.Rows L2 L3 L4 LL
section
variable(rd:List Int->List (List Int))
abbrev All:ah->Prop:=λ_=>True
end
def At(K:ao)(x:Q0a)(a:Q0e)(p:ah)(σ:L2.St)(H:Hp):Prop :=
 ∃c d,σ[0]?=aa (aa c)/\Dn K All H (aM x) c/\σ[1]?=aa (aa d)/\Dn K All H (τ a) d/\σ[2]?=aa (aa (.ref p))
section
variable{K:ao}{rd:List Int->List (List Int)}{x:Q0a}{Ok:List Int->Prop}{a:Q0e}{p:ah}{σ:L2.St}{H:Hp}{χ:List (List Key×V)}
structure Parts (K:ao) (rd:List Int->List (List Int)) (x:Q0a) (a:Q0e) (C1:TT) (T1:TE) (T3:TS):Prop where
 c1:∀p σ H Q,At K x a p σ H->(∀H',ξ H H'->Q (Zv (a.length=x.length)) H')->C1 σ H Q
 t1:∀σ H (Q:VK),(∀H',ξ H H'->Q (.int 1) H')->T1 σ H Q
 t3:∀p (D:Ends) σ H,σ.length=4->At K x a p σ H->a.length<x.length->(∀(σ':L2.St) (H':Hp) (l:ah) (ps:List ah),ξ H H'->At K x a p σ' H'->σ'[3]?=aa (aa (.ref l))->H' l=aa (.lst (ps.map V.ref))->ps.length=(rd a).length ->
  (∀(i:Nat) (q:ah) (b:Q0e),ps[i]?=aa q->(rd a)[i]?=aa b->H' q=aa (.tup (b.map V.int)))->D.nx σ' H')->T3 D σ H
def wst(x:Q0a)(a:Q0e)(p:ah):aW:=[.ro (aM x),.ro (τ a),.ro (.exc "" p),.no]
theorem At.st(h:At K x a p σ H):ST K H All (λ_=>0) σ H (wst x a p) []:=by
 have no:∀(i:Nat) (d:D),(wst x a p)[i]?≠aa (Sv.ow d):=λi d e=>by
  match i,e with
  |0,e=>cases e
  |1,e=>cases e
  |2,e=>cases e
  |3,e=>cases e
  |n+4,e=>simp[wst] at e
 obtain⟨c,l,y,h2,v,u,q⟩:=h;show⟨λ_ _=>trivial,ξ.refl H,λi d e=>Zw e (no i d),λi j d e h=>Zw h (no i d),λi d e=>?_,λg o=>(by cases o),λi _ e=>Zw e (no i _)⟩;have m:∀b,All b->SO All (λ_=>0) (wst x a p) b:=λb _=>⟨trivial,λi d e=>Zw e (no i d)⟩
 match i,e with
 |0,e=>cases e;show⟨c,y,Dn.fits (.mono m) _ _ h2⟩
 |1,e=>cases e;show⟨l,v,Dn.fits (.mono m) _ _ u⟩
 |2,e=>cases e;show⟨_,q,by simp only[Dn]⟩
 |3,e=>cases e
 |n+4,e=>simp[wst] at e
variable{Ω:bg}{w:a_}{A:br}{E:Q0c}{s:ak}{d it:ah}{o:ay}{es:Array uo}{ep i:Nat}
theorem JO(m:(d == sysModules)=ag)(ho:s.heap.get? d=aa o)(j:o.ExactDict)(l:o.data=.dict es ep)
  (h:Q (.ref s.heap.objs.size) {s with heap:=s.heap.push {cls:=.type "dict_keyiterator",data:=.fields #[.ref d,.int 0 0,.int es.size 0,.int ep 0]} }):ax (au Ω w) A (pyIter (.ref d)) Q E s:=by
 have c:s.TypeIs (.ref d) "dict":=⟨o,ho,j.1⟩;show wpAny_pyIter_slot c Ym (jw Ym c F.entry_dict_iter ?_ (F.args_dict_iter_1 _))
 (unfold Builtin.«dict.__iter__»;wp_walk)
 rw[j.1,Zz (by decide)]
 wp_walk
 rw[l];show az ?_
 wp_walk
 rw[l];show az ?_
 wp_walk
 show⟨.ref s.heap.objs.size,rfl,"dict_keyiterator",_,⟨_,fw _ rfl,rfl⟩,uk.lookup,h⟩
theorem JP(q:s.heap.IsKeyIter it d i es.size ep)(ho:s.heap.get? d=aa o)(u:o.data=.dict es ep)(v:i<es.size)
  (h:∀h',h'.IsKeyIter it d (i+1) es.size ep->mf it s.heap h'->Q (aa es[i].key) {s with heap:=h' }):ax (au Ω w) A (pyNext (.ref it)) Q E s:=by
 have n:=q.typeIs;obtain⟨F,j,m,c⟩:=id q;unfold pyNext;show aq (qp (qo (name:=qv "__next__") n uk (jw uk n Yu ?_ (Yy _))));unfold Builtin.«dict_keyiterator.__next__»
 wp_walk
 rw[c,show((xt "dict_keyiterator").elim "dict_keyiterator" λx=>x.tpName)="dict_keyiterator" by rw[w_];kernel_rfl,Zz (by decide)]
 wp_walk
 rw[u];show az ?_;rw[Zz (by simp)]
 wp_walk
 rw[u];show az ?_;rw[Zz (by simp)];show az ?_;dsimp only;rw[Zz ∅,gr,qe v];dsimp only
 wp_walk
 rw[c];dsimp only;simp only[show((xt "dict_keyiterator").elim "dict_keyiterator" λx=>x.tpName)="dict_keyiterator" by rw[w_];kernel_rfl,show Zf "dict_keyiterator"=ag from by decide,mx,if_false];generalize y:List.any _ _=bw;have z:bw=ag:=by rw[<- y];decide
 subst z;rw[Z_ (by simp),Zz (by decide)];have g1:=uj (Cg λx=>x.setIfInBounds (0+1) (rawInt ((i:Int)+1))) j (Yb (xr c _));have l:(s.heap.update it (Cg λx=>x.setIfInBounds (0+1) (rawInt ((i:Int)+1)))).IsKeyIter it d (i+1) es.size ep:=⟨_,g1,(Yc ..).trans m,by rw[xr c];simp[rawInt]⟩;have fin:=h _ l (ma ..);show wpAny_update j ?_;have t1:Shared.TypeIs {s with heap:=s.heap.update it (Cg λx=>x.setIfInBounds (0+1) (rawInt ((i:Int)+1)))} (.ref it) "dict_keyiterator":=l.typeIs;show aq (iq (aq (wpAny_isOneOf_keyiter t1 ?_)));rw[Z_ (by decide)];show az (az ⟨_,rfl,az fin⟩)
theorem ON(u:A.handled=af)(l:s.heap.IsKeyIter it d i es.size ep)(ho:s.heap.get? d=aa o)(m:o.data=.dict es ep)(q:es.size<=i)
  (h:∀h',Ye it s.heap h'->Q af {s with heap:=h' }):ax (au Ω w) A (pyNext (.ref it)) Q E s:=by
 have j:=l.typeIs;obtain⟨z,n,v,c⟩:=id l;unfold pyNext;show aq (qp (qo (name:=qv "__next__") j uk (jw uk j Yu ?_ (Yy _))));unfold Builtin.«dict_keyiterator.__next__»
 wp_walk
 rw[c,show((xt "dict_keyiterator").elim "dict_keyiterator" λx=>x.tpName)="dict_keyiterator" by rw[w_];kernel_rfl,Zz (by decide)]
 wp_walk
 rw[m];show az ?_;rw[Zz (by simp)]
 wp_walk
 rw[m];show az ?_;rw[Zz (by simp)];show az ?_;dsimp only;rw[Zz ∅,gr,a1d q];dsimp only
 wp_walk
 rw[c];dsimp only;simp only[show((xt "dict_keyiterator").elim "dict_keyiterator" λx=>x.tpName)="dict_keyiterator" by rw[w_];kernel_rfl,show Zf "dict_keyiterator"=ag from by decide,mx,if_false];rw[Z_ (by simp)]
 wp_walk
 have y:A.in1.handled=af:=u;unfold raiseNew;apply aq;apply Wf;rw[y];show aq (az (Vv (aq ?_)));show Bl (b:=ae) (T:="StopIteration") ?_ isSubtype_stop ?_
 .exact ⟨_,fw _ rfl,rfl⟩
 apply az;apply h;show((ma ..).extBut.push _).push _
end
end L7
namespace L8
open PySem.Spec PyProof.Rows L2
def eO(χ:List (KX×V×V))(k:KX):Option V:=(χ.find? λp=>Zv (p.1=k)).map (·.2.2)
def dF(χ:List (KX×V×V))(k:KX)(y v:V):List (KX×V×V):=if χ.any (λp=>Zv (p.1=k))=ae then χ.map (λp=>if p.1=k then(p.1,p.2.1,v) else p) else χ++[(k,y,v)]
def J8(H:Hp):KX->V->Prop
 |.inl k,y=>y=kV k
 |.inr ks,y=>∃b,y=.ref b/\jP H ks b
def nH(χ:List (KX×V×V))(k:KX):Prop:=∀p∈χ,p.1.isLeft=k.isLeft
def A9(χ:List (KX×V×V))(k:KX)(y v:V):(dF χ k y v).length<=χ.length+1:=by
 unfold dF;split
 .rw [bo];lia
 .simp
abbrev PL:List (KX×V×V)->List (Key×ai)->Prop:=iu λp q=>p.1=.inl q.1/\p.2.1=kV q.1/\Ψ p.2.2 q.2
abbrev PT(H:Hp):List (KX×V×V)->List (N1×ah×ai)->Prop:=iu λp q=>p.1=.inr q.1/\p.2.1=.ref q.2.1/\jP H q.1 q.2.1/\Ψ p.2.2 q.2.2
theorem PL.val(r:PL χ vs)(k:Key):jO (eO χ (.inl k)) (valueAt vs k):=by
 induction r with
 |nil=>show ju
 | @cons p q ps qs h t ih =>
  by_cases e:q.1=k
  .have e1:p.1=.inl k:=by rw[h.1,e]
   have a:eO (p::ps) (.inl k)=aa p.2.2:=by unfold eO;rw[ik,Zx e1];rfl
   have b:valueAt (q::qs) k=aa q.2:=by unfold valueAt;rw[ik];simp[e]
   rw[a,b];show h.2.2
  .have e1:¬ p.1=.inl k:=λz=>e (by rw[h.1] at z;show wu z);have a:eO (p::ps) (.inl k)=eO ps (.inl k):=by unfold eO;rw[ik,Zy e1]
   have b:valueAt (q::qs) k=valueAt qs k:=by unfold valueAt;rw[ik];simp[e]
   rw[a,b];show ih
theorem PT.val(r:PT H χ xs)(k:N1):jO (eO χ (.inr k)) ((atKey xs k).map (·.2)):=by
 induction r with
 |nil=>show ju
 | @cons p q ps qs h t ih =>
  by_cases e:q.1=k
  .have e1:p.1=.inr k:=by rw[h.1,e]
   have a:eO (p::ps) (.inr k)=aa p.2.2:=by unfold eO;rw[ik,Zx e1];rfl
   have b:atKey (q::qs) k=aa q.2:=by unfold atKey;rw[ik];simp[e]
   rw[a,b];show h.2.2.2
  .have e1:¬ p.1=.inr k:=λz=>e (by rw[h.1] at z;show Bd z);have a:eO (p::ps) (.inr k)=eO ps (.inr k):=by unfold eO;rw[ik,Zy e1]
   have b:atKey (q::qs) k=atKey qs k:=by unfold atKey;rw[ik];simp[e]
   rw[a,b];show ih
theorem OO(χ:List (KX×V×V))(k:KX):χ.any (λp=>Zv (p.1=k))=(eO χ k).isSome:=by
 unfold eO;rw[ur]
 induction χ with
 |nil=>rfl
 |cons p ps ih =>
  rw[kc,ik,ih];cases Zv (p.1=k)<;>rfl
def PL.put(r:PL χ vs)(k:Key)(a:Ψ v u):PL (dF χ (.inl k) (kV k) v) (stored vs k u):=by
 have e:χ.any (λp=>Zv (p.1=.inl k))=vs.any (λc=>c.1=k):=by
  induction r with
  |nil=>rfl
  | @cons p q ps qs h t ih =>
   rw[kc,kc,ih,h.1];congr 1;show decide_eq_decide.2 ⟨λz=>wu z,λz=>by rw[z]⟩
 unfold dF stored;rw[e];split
 .rename_i hc
  clear hc e
  induction r with
  |nil=>show .nil
  | @cons p q ps qs h t ih =>
   rw[cf,cf];show .cons ?_ ih;by_cases z:q.1=k
   .rw [Z_ z,Z_ (by rw[h.1,z])];show⟨h.1,h.2.1,a⟩
   .rw [Zz z,Zz (λy=>z (by rw[h.1] at y;show wu y))];show h
 .exact xq r ⟨rfl,rfl,a⟩
def PT.put(r:PT H χ xs)(k:N1)(c:jP H k b)(a:Ψ v u):PT H (dF χ (.inr k) (.ref b) v) (storedH xs k b u):=by
 have e:χ.any (λp=>Zv (p.1=.inr k))=(atKey xs k).isSome:=by rw[OO];have:=(PT.val r k).kO;rw[ur] at this;show this
 unfold dF storedH;rw[e];split
 .rename_i hc
  clear hc e
  induction r with
  |nil=>show .nil
  | @cons p q ps qs h t ih =>
   rw[cf,cf];show .cons ?_ ih;unfold putAt;by_cases z:q.1=k
   .rw [Z_ z,Z_ (by rw[h.1,z])];show⟨h.1,h.2.1,h.2.2.1,a⟩
   .rw [Zz z,Zz (λy=>z (by rw[h.1] at y;show Bd y))];show h
 .exact xq r ⟨rfl,rfl,c,a⟩
section
variable{P:bg}{w:a_}{H:Hp}{h:ba}{a:ah}{o:ay}{χ:List (KX×V×V)}
def nI(ok:kN P w H h)(n:jP H ks b):(gD P w).is h ks b:=by
 obtain⟨vs,e,r⟩:=n;obtain⟨_,l,d,⟨q,y,h2,m,x⟩,_⟩:=(show bZ P w H h b (.tup vs) from ok b _ e);have go:∀{ks:N1} {vs:List V} {us:Q0f},iu (sC H) ks vs->θ vs us->eM (aR P w) h ks us:=by
  intro ks vs us r
  induction r generalizing us with
  |nil=>intro d;cases d;show .nil
  | @cons k v ks vs i _ ih =>
   intro d
   cases d with
   | @cons _ u _ us j rt =>
    show .cons ?_ (ih rt)
    cases k with
    |inl k =>
     have i:v=kV k:=i;subst i;show pK j
    |inr k =>
     obtain⟨c,rfl,p⟩:=i;have j:u=.ref c:=j;show⟨c,j,yA ok p⟩
 show⟨q,l.toArray,m,y,h2,x,by simpa using go r d⟩
def tG(x:t8 P w H o χ)(ho:h.get? a=aa o)(n:∀p∈χ,p.1.isLeft=ae):∃vs,PL χ vs/\h.DictOf (aR P w) a vs:=by
 obtain⟨ex,d,j,l,m⟩:=x;rcases m with⟨vs,r,c,h2,v⟩|⟨xs,r,c,h2⟩
 .exact ⟨vs,r,o,d,j,ho,ex,l,c,h2,v⟩
 .cases r with
  |nil =>
   have e0:d.toList=[]:=c;have e1:d=#[]:=by simpa using e0
   subst e1;show⟨[],.nil,o,#[],j,ho,ex,l,(λ_ u=>by simp at u),.nil,rm⟩
  | @cons p q ps qs hq t =>
   have:=n p de;rw[hq.1] at this;cases this
def yS(ok:kN P w H h)(x:t8 P w H o χ)(ho:h.get? a=aa o)(n:∀p∈χ,p.1.isLeft=ag):∃xs,PT H χ xs/\h.DictOfH (gD P w) a xs:=by
 obtain⟨ex,d,l,m,c⟩:=x;rcases c with⟨vs,r,j,h2,v⟩|⟨xs,r,j,h2⟩
 .cases r with
  |nil =>
   have e0:d.toList=[]:=List.eq_nil_of_length_eq_zero (by rw[h2.length];rfl);show⟨[],.nil,o,d,l,ho,ex,m,e0,(λ_ u=>by simp at u),rm⟩
  | @cons p q ps qs hq t =>
   have:=n p de;rw[hq.1] at this;cases this
 .refine ⟨xs,r,o,d,l,ho,ex,m,j,?_,h2⟩;have go:∀{χ:List (KX×V×V)} {xs:List (N1×ah×ai)},PT H χ xs ->∀x∈xs,(gD P w).is h x.1 x.2.1:=by
   intro χ xs r
   induction r with
   |nil=>intro x c;cases c
   |cons hq _ ih =>
    intro x c;rcases bx.1 c with e|c
    .subst e;show nI ok hq.2.2.1
    .exact ih x c
  show go r
variable{X:Cx}{π:Q0b}{σ:L2.St}{s:ak}{y v z:V}{u r:ai}{A:br}{E:Q0c}{k:KX}
def BA(I:Φ X π σ H s)(e:H a=aa (.dX o χ)):χ.length<=bj/\(a == sysModules)=ag/\s.heap.get? a=aa o/\t8 X.Ω X.w H o χ:=I.hok a _ e
def wm{k:Key}(kd:nH χ (.inl k)):∀p∈χ,p.1.isLeft=ae:=kd
def wj{k:N1}(kd:nH χ (.inr k)):∀p∈χ,p.1.isLeft=ag:=kd
theorem JQ(x:A.units+2<c_)(I:Φ X π σ H s)(e:H a=aa (.dX o χ))(d:J8 H k y)(kd:nH χ k)(q:eO χ k=aa v)(m:Ψ y u)(h:∀c s',Φ X π σ H s'->Ψ v c->Q c s'):
  ax (au X.Ω X.w) A (getItem (.ref a) u) Q E s:=by
 obtain⟨z,K,ho,n⟩:=BA I e
 cases k with
 |inl k =>
  have d:y=kV k:=d;subst d;obtain⟨vs,rel,dd⟩:=tG n ho (wm kd);obtain⟨c,hw,j⟩:=jO.some_of (v:=v) (o:=valueAt vs k) (by rw[<- q];show PL.val rel k);show Wg (pK m) dd.mapOf hw (h c _ (I.tok _) j)
 |inr k =>
  obtain⟨b,rfl,J⟩:=d;obtain rfl:u=dq b:=m;obtain⟨xs,rel,dd⟩:=yS I.hok n ho (wj kd);obtain⟨c,hw,j⟩:=jO.some_of (v:=v) (o:=(atKey xs k).map (·.2)) (by rw[<- q];show PT.val rel k);obtain⟨p,F,l⟩:=lh.mp hw;show Wh (nest_room x) (nI I.hok J) dd F ?_;rw[l];show h c _ (I.tok _) j
theorem Gj(neg:Bool)(m:A.units+2<c_)(I:Φ X π σ H s)(e:H a=aa (.dX o χ))(d:J8 H k y)(kd:nH χ k)(j:Ψ y u)(h:∀s',Φ X π σ H s'->Q (.bool (if neg then !(eO χ k).isSome else(eO χ k).isSome)) s'):
  ax (au X.Ω X.w) A (compareOp (if neg then .NotIn else .In) u (.ref a)) Q E s:=by
 obtain⟨z,c,ho,l⟩:=BA I e
 cases k with
 |inl k =>
  have d:y=kV k:=d;subst d;obtain⟨vs,rel,dd⟩:=tG l ho (wm kd);have ev:(eO χ (.inl k)).isSome=(valueAt vs k).isSome:=(PL.val rel k).kO;rw[ev] at h
  cases neg with
  |false=>show wpAny_in_of (pK j) c dd.mapOf (h _ (I.tok _))
  |true=>show wpAny_notIn_of (pK j) c dd.mapOf (h _ (I.tok _))
 |inr k =>
  obtain⟨b,rfl,n⟩:=d;obtain rfl:u=dq b:=j;obtain⟨xs,rel,dd⟩:=yS I.hok l ho (wj kd);have ev:=(PT.val rel k).kO;rw[ur] at ev;rw[ev] at h
  cases neg with
  |false=>show wpAny_in_heap (nest_room m) (nI I.hok n) c dd (h _ (I.tok _))
  |true=>show wpAny_notIn_heap (nest_room m) (nI I.hok n) c dd (h _ (I.tok _))
def OP(I:Φ X π σ H s)(e:H a=aa (.dX o χ)):s.TypeIs (.ref a) "dict":=by obtain⟨z,d,ho,c⟩:=BA I e;show⟨o,ho,c.1.1⟩
def OQ{P:bg}{w:a_}{h':ba}{H':Hp}{χ:List (KX×V×V)}{vs:List (Key×ai)}(rel:PL χ vs)(dd:h'.DictOf (aR P w) a vs):∃c,h'.get? a=aa c/\t8 P w H' c χ:=by obtain⟨c,p,q,n,h2,m,l,j,d⟩:=dd;show⟨c,n,h2,p,q,m,.inl ⟨vs,rel,l,j,d⟩⟩
def T4{P:bg}{w:a_}{h':ba}{H':Hp}{χ:List (KX×V×V)}{xs:List (N1×ah×ai)}(rel:PT H' χ xs)(dd:h'.DictOfH (gD P w) a xs):∃c,h'.get? a=aa c/\t8 P w H' c χ:=by obtain⟨c,n,p,m,h2,l,j,_,d⟩:=dd;show⟨c,m,h2,n,p,l,.inr ⟨xs,rel,j,d⟩⟩
def T5{H:Hp}{a:ah}{o:ay}{χ:List (KX×V×V)}{u:HO}(e:H a=aa (.dX o χ)):∀b ys,H b=aa (.tup ys)->upd H a u b=aa (.tup ys):=λb ys c=>by rw[aL (VG c e (λz=>nomatch z))];show c
theorem JR(O:A.units+2<c_)(I:Φ X π σ H s)(e:H a=aa (.dX o χ))(j:J8 H k y)(kd:nH χ k)(U:χ.length<bj)(q:Ψ y u)(x:Ψ v r)(h:∀c s',Φ X π σ (upd H a (.dX c (dF χ k y v))) s'->Q () s'):
  ax (au X.Ω X.w) A (setItem (.ref a) u r) Q E s:=by
 obtain⟨z,L,ho,K⟩:=BA I e;have J:(dF χ k y v).length<=bj:=by have:=A9 χ k y v;lia
 have F:Mut (H a):=by rw[e];show ju
 cases k with
 |inl k =>
  have j:y=kV k:=j;subst j;obtain⟨vs,rel,dd⟩:=tG K ho (wm kd);have n:vs.length<=bj:=by rw[<- qw rel];show z
  show Vw (hsz:=n) (pK q) dd λh' p m=>?_;obtain⟨c,g1,g2⟩:=OQ (H':=upd H a (.dX o (dF χ (.inl k) (kV k) v))) (PL.put rel k x) p;show h c _ (qQ I F m ⟨c,g1⟩ ⟨J,L,g1,g2.stay λb ys l=>by
   by_cases d:b=a
   .subst d;rw[aI] at l;cases l
   .rw [aL d] at l ⊢;show l⟩)
 |inr k =>
  obtain⟨b,rfl,d⟩:=j;obtain rfl:u=dq b:=q;obtain⟨xs,rel,dd⟩:=yS I.hok K ho (wj kd);have n:xs.length<=bj:=by rw[<- qw rel];show z
  show Vx (hsz:=n) (nest_room O) (nI I.hok d) dd λh' p m=>?_;obtain⟨c,g1,g2⟩:=T4 (PT.put rel k d x) p;show h c _ (qQ I F m ⟨c,g1⟩ ⟨J,L,g1,g2.stay (T5 e)⟩)
end
open L7
def V7(d ty:TE):TE:=λσ H Q=>d σ H λx H1=>ty σ H1 λy c=>∃a o χ k v,x=.ref a/\c a=aa (.dX o χ)/\J8 c k y/\nH χ k/\eO χ k=aa v/\Q v c
def wg(neg:Bool)(ty d:TE):TE:=λσ H Q=>ty σ H λy H1=>d σ H1 λx c=>∃a o χ k,x=.ref a/\c a=aa (.dX o χ)/\J8 c k y/\nH χ k/\Q (.bl (if neg then !(eO χ k).isSome else(eO χ k).isSome)) c
def Pu(h ty d:TE):TS:=λD σ H=>d σ H λv H1=>h σ H1 λx l=>ty σ l λy c=>∃a o χ k,x=.ref a/\c a=aa (.dX o χ)/\J8 c k y/\nH χ k/\χ.length<bj /\∀j,D.nx σ (upd c a (.dX j (dF χ k y v)))
def Pr:TE:=λ_ H Q=>∀p o,H p=af->Q (.ref p) (upd H p (.dX o []))
section
variable{X:Cx}{o i e f value:av}{ν pos':bq}{td ty tv tz:TE}
def T6(p:X.A.units+2<c_)(ho:PE X o td)(F:PE X i ty)(q:IA i):PE X (.Subscript o i ν) (V7 td ty):=by intro π s σ H Q I h;show FQ Yn.lookup q (dA (ho π s σ H _ I h) λu d ⟨x,H1,L,l,q1⟩=>?_);show dA (F π d σ H1 _ L q1) λiv Y J=>?_;obtain⟨y,O,c,j,a,Z,χ,k,v,ex,e,z,kd,n,q2⟩:=J;subst ex;obtain rfl:u=dq a:=l;show⟨OP c e,JQ p c e z kd n j λU s3 K m=>⟨v,O,K,m,q2⟩⟩
def JS(l:X.A.units+2<c_)(n:PE X i ty)(ho:PE X o td):PC X .NotIn i o (wg ae ty td):=by intro π s σ H Q I h;show dA (n π s σ H _ I h) λO c p=>?_;obtain⟨y,H1,F,d,q1⟩:=p;show dA (ho π c σ H1 _ F q1) λu K q=>?_;obtain⟨x,J,z,j,a,L,χ,k,ex,e,m,kd,q2⟩:=q;subst ex;obtain rfl:u=dq a:=j;show Gj ae l z e m kd d λs3 v=>⟨.bl _,J,v,rfl,q2⟩
def T7(z:X.A.units+2<c_)(ho:PE X o td)(L:PE X i ty)(q:PE X value tv)(F:gk value (aa (.Subscript o i pos')) ν.line X.env=pure ag):PS X (.Assign [.Subscript o i pos'] value ν) (Pu td ty tv):=by intro π s σ H D I h;show Wn (dA (q π s σ H _ I h) λr d ⟨v,H1,I1,m,q1⟩=>?_) F;show dA (ho π d σ H1 _ I1 q1) λu c O=>?_;obtain⟨x,H2,I2,l,q2⟩:=O;show dA (L π c σ H2 _ I2 q2) λiv s3 U=>?_;obtain⟨y,H3,Z,j,a,ob,χ,k,ex,e,K,kd,J,n⟩:=U;subst ex;obtain rfl:u=dq a:=l;show JR z Z e K kd J j m λp s4 Y=>⟨σ,_,Y,n p⟩
def OR(h:ba)(c:sysModules<h.objs.size):bZ P w H (h.push {cls:=.type "dict",data:=.dict #[]}) h.objs.size (.dX {cls:=.type "dict",data:=.dict #[]} []) :=
 ⟨ie _,beq_eq_false_iff_ne.mpr (fg (fq c)),fw _ rfl,⟨rfl,rfl,rfl⟩,#[],0,rfl,.inl ⟨[],.nil,(λ_ a=>by simp at a),.nil,rm⟩⟩
def T8:PE X (.Dict [] [] ν) Pr:=λπ s σ H Q I h =>
 Wm ⟨.ref s.heap.objs.size,_,I.laid (t':=s.toks) (λ_ _ q=>cx _ q) (bp _) (OR s.heap I.big),rfl,h _ _ (I.hok.fresh (bp _))⟩
end
def Pk(h:(aR P w).is k u=ae):Ψ (kV k) u:=by
 rcases bO h with⟨i,t,rfl,rfl⟩|⟨i,t,rfl,rfl⟩
 .exact ⟨t,rfl⟩
 .exact ⟨t,rfl⟩
def OS(x:t8 P w H o χ):∃c m,o.data=.dict c m/\θ (χ.map (·.2.1)) (c.toList.map (·.key)) /\∀p∈χ,J8 H p.1 p.2.1:=by
 obtain⟨_,c,m,v,n⟩:=x;show⟨c,m,v,?_⟩;rcases n with⟨vs,r,_,h2,_⟩|⟨xs,r,u,_⟩
 .have go:∀{χ:List (KX×V×V)} {vs:List (Key×ai)} {l:List uo},PL χ vs->Pairs (aR P w) l vs->θ (χ.map (·.2.1)) (l.map (·.key)) /\∀p∈χ,J8 H p.1 p.2.1:=by
   intro χ vs l r
   induction r generalizing l with
   |nil=>intro h2;cases h2;show⟨.nil,λp j=>by cases j⟩
   | @cons p q ps qs hq t ih =>
    intro h2
    cases h2 with
    |cons k1 k2 k3 =>
     obtain⟨h,d⟩:=ih k3;show⟨.cons ?_ h,λp' a=>?_⟩
     .dsimp only;rw[hq.2.1];show Pk k1
     .rcases bx.1 a with e|a
      .subst e;rw[hq.1,hq.2.1];rfl
      .exact d p' a
  show go r h2
 .have go:∀{χ:List (KX×V×V)} {xs:List (N1×ah×ai)},PT H χ xs->θ (χ.map (·.2.1)) ((xs.map (entryOfKey (gD P w))).map (·.key)) /\∀p∈χ,J8 H p.1 p.2.1:=by
   intro χ xs r
   induction r with
   |nil=>show⟨.nil,λp j=>by cases j⟩
   | @cons p q ps qs hq t ih =>
    obtain⟨h,d⟩:=ih;show⟨.cons ?_ h,λp' a=>?_⟩
    .dsimp only;rw[hq.2.1];rfl
    .rcases bx.1 a with e|a
     .subst e;rw[hq.1,hq.2.1];show⟨_,rfl,hq.2.2.1⟩
     .exact d p' a
  rw[u];show go r
open L3 L4
section
variable{K:ao}{S:ah->Prop}{H:Hp}
def T9(h:Dn K S H d v)(e:qZ d=aa k):v=kV k:=by cases d<;>simp only[qZ] at e<;>cases e<;>symm at h<;>show h
theorem BB:∀{ds:List D} {xs:List V} {ks:List Key},aH K S H ds xs->KJ ds=aa ks->xs=ks.map kV
 |[],xs,ks,h,e=>by simp only[aH] at h;cases e;show h
 |d::ds,xs,ks,h,e=>by obtain⟨v,r,rfl,c,h2⟩:=h.aX;obtain⟨k,j,e⟩:=bnd e;obtain⟨a,l,rfl⟩:=pP e;rw[T9 c j,BB h2 l];rfl
theorem OT(h:Dn K S H d v)(e:U2 d=aa k):sC H k v:=by
 cases d with
 |tup ds =>
  obtain⟨ks,j,rfl⟩:=pP e;symm at h;obtain⟨a,xs,rfl,c,dn⟩:=h;rw[BB dn j] at c;show⟨a,rfl,c⟩
 |int i=>cases e;symm at h;show h
 |str i=>cases e;symm at h;show h
 |_=>cases e
theorem wF:∀{ds:List D} {xs:List V} {ks:N1},aH K S H ds xs->nW ds=aa ks->iu (sC H) ks xs
 |[],xs,ks,h,e=>by simp only[aH] at h;cases e;subst h;show .nil
 |d::ds,xs,ks,h,e=>by obtain⟨v,r,rfl,c,h2⟩:=h.aX;obtain⟨k,j,e⟩:=bnd e;obtain⟨a,l,rfl⟩:=pP e;show .cons (OT c j) (wF h2 l)
theorem yT(h:Dn K S H d v)(e:pX d=aa k):J8 H k v:=by
 cases d with
 |tup ds =>
  obtain⟨ks,j,rfl⟩:=pP e;symm at h;obtain⟨a,xs,rfl,c,dn⟩:=h;show⟨a,rfl,xs,c,wF dn j⟩
 |int i=>cases e;symm at h;show h
 |str i=>cases e;symm at h;show h
 |_=>cases e
def OU(k:Key):Dn K S H (dK k) (kV k):=by cases k<;>simp only[dK,Dn]<;>rfl
theorem OV:∀ks:List Key,aH K S H (ks.map dK) (ks.map kV)
 |[]=>aH.nil
 |k::ks=>aH.cons (OU k) (OV ks)
theorem wH:∀{ks:N1} {vs:List V},iu (sC H) ks vs->aH K S H (ks.map KL) vs
 |_,_,.nil=>aH.nil
 |k::ks,v::vs,.cons h t=>by
  show aH.cons ?_ (wH t)
  cases k with
  |inl k =>
   have h:v=kV k:=h;subst h;show OU k
  |inr k =>
   obtain⟨b,rfl,a⟩:=h;simp only[KL,Dn];show⟨b,_,rfl,a,OV k⟩
theorem U_(h:J8 H k v):Dn K S H (U3 k) v:=by
 cases k with
 |inl k =>
  have h:v=kV k:=h;subst h;show OU k
 |inr k =>
  obtain⟨b,rfl,vs,a,r⟩:=h;simp only[U3,Dn];show⟨b,vs,rfl,a,wH r⟩
theorem yU:∀{χ:List (KX×V×V)} {ds:List D},aH K S H ds (χ.map (·.2.2))->(∀d,bF (χ.map (·.1)) ds k=aa d ->∃v,eO χ k=aa v/\Dn K S H d v)/\(bF (χ.map (·.1)) ds k=af->eO χ k=af)
 |[],ds,h=>⟨λd e=>by simp[bF] at e,λ_=>rfl⟩
 |p::χ,ds,h=>by
  cases ds with
  |nil=>show Zw h.len (by simp)
  |cons d0 ds =>
   obtain⟨v,r,e1,j,h2⟩:=h.aX;rw[cf] at e1;cases e1;have c:=yU (k:=k) (χ:=χ) (ds:=ds) h2;by_cases e:p.1=k
   .have a:bF ((p::χ).map (·.1)) (d0::ds) k=aa d0:=by simp[bF,e]
    have b:eO (p::χ) k=aa p.2.2:=by simp[eO,e]
    rw[a,b];show⟨λd l=>by cases l;show⟨_,rfl,j⟩,λz=>nomatch z⟩
   .have a:bF ((p::χ).map (·.1)) (d0::ds) k=bF (χ.map (·.1)) ds k:=by simp[bF,e]
    have b:eO (p::χ) k=eO χ k:=by simp[eO,e]
    rw[a,b];show c
def DY(h:kindB (χ.map (·.1)) k=ae):nH χ k:=λp a=>by unfold kindB at h;rw[js] at h;simpa using h p.1 (Eb a)
theorem Qs(a:Dn K S H d v):∀{χ:List (KX×V×V)} {ds:List D},aH K S H ds (χ.map (·.2.2)) ->
  (L8.dF χ k y v).map (·.1)=(L4.dF (χ.map (·.1)) ds k d).1/\aH K S H (L4.dF (χ.map (·.1)) ds k d).2 ((L8.dF χ k y v).map (·.2.2)):=by
 intro χ ds h;have e:(χ.map (·.1)).any (λq=>Zv (q=k))=χ.any (λp=>Zv (p.1=k)):=by rw[El];rfl
 unfold L8.dF L4.dF;rw[e];split
 .refine ⟨?_,?_⟩
  .simp only[f_];show pq λp _=>?_;show(if p.1=k then(p.1,p.2.1,v) else p).1=p.1;split<;>rfl
  .dsimp only;have go:∀{χ:List (KX×V×V)} {ds:List D},aH K S H ds (χ.map (·.2.2))->aH K S H (((χ.map (·.1)).zip ds).map λp=>if p.1=k then d else p.2) ((χ.map λp=>if p.1=k then(p.1,p.2.1,v) else p).map (·.2.2)):=by
    intro χ
    induction χ with
    |nil=>intro ds h;cases ds with
     |nil=>show aH.nil
     |cons d0 ds=>show Zw h.len (by simp)
    |cons p χ ih =>
     intro ds h
     cases ds with
     |nil=>show Zw h.len (by simp)
     |cons d0 ds =>
      obtain⟨u,r,e1,c,h2⟩:=h.aX;rw[cf] at e1;cases e1;show aH.cons ?_ (ih h2);by_cases z:p.1=k
      .simpa [z] using a
      .simpa [z] using c
   show go h
 .refine ⟨by simp,?_⟩;rw[jd];show h.append (aH.one a)
end
section
variable{X:Cx}
theorem OW(h:lift X.K (wE (aB (G0 neg) fi fo)) σ H Q):wg neg (lift X.K (wE fi)) (lift X.K (wE fo)) σ H Q:=by
 obtain⟨S,ρ,Q3,z,n,⟨d,e,q⟩,k⟩:=h;obtain⟨x,ex,e⟩:=bnd e;obtain⟨y,J,e⟩:=bnd e;show⟨S,ρ,λd=>d=x,z,n,⟨x,ex,rfl⟩,λv H1 Z l c e1=>?_⟩;subst e1;show⟨S,ρ,λd=>d=y,aU z l,Sl.fits (.same l) n,⟨y,J,rfl⟩,λu H2 Y p F U=>?_⟩;subst U;have c:=Dn.fits (.same p) _ _ c
 cases Y with
 |cN q0 ks ds =>
  obtain⟨j,L,e⟩:=bnd (o:=pX Z) e;symm at F;obtain⟨a,o,χ,rfl,I,sa,⟨rfl,_⟩,A⟩:=F;by_cases m:kindB (χ.map (·.1)) j=ae
  .rw [Z_ m] at e;cases e;have ev:(eO χ j).isSome=(bF (χ.map (·.1)) ds j).isSome:=by
    cases hl:bF (χ.map (·.1)) ds j with
    |none=>rw[(yU A).2 hl];rfl
    |some d3=>obtain⟨v3,O,_⟩:=(yU A).1 d3 hl;rw[O];rfl
   show⟨a,o,χ,j,rfl,I,yT c L,DY m,?_⟩;rw[ev];show k _ H2 _ (l.trans p) (by symm) q
  .rw [Zz m] at e;cases e
 |_=>cases e
section
variable{o i:av}{ν:bq}{fo fi:EF}
def JT(h:liftT X.K (wT (tV (aB (G0 neg) fi fo))) σ H Q):tB (wg neg (lift X.K (wE fi)) (lift X.K (wE fo))) σ H Q:=by
 obtain⟨S,ρ,Q3,m,c,⟨b,e,q⟩,k⟩:=h;obtain⟨d,e1,u⟩:=bnd e;have n:d=.bl b:=by
  obtain⟨x,ex,e⟩:=bnd e1;obtain⟨y,z,e⟩:=bnd e
  cases y with
  |cN q0 ks ds =>
   obtain⟨l,A,e⟩:=bnd (o:=pX x) e;by_cases a:kindB ks l=ae
   .rw [Z_ a] at e;cases e;cases u;rfl
   .rw [Zz a] at e;cases e
  |_=>cases e
 subst n;show OW ⟨S,ρ,λd=>d=.bl b,m,c,⟨_,e1,rfl⟩,λv H1 d j dn p=>?_⟩;subst p;symm at dn;show⟨b,dn,k b H1 j q⟩
def Uz(a:X.A.units+2<c_)(d:aZ X i fi)(ho:aZ X o fo)(c:behindInMarks .NotIn o=ag:=by with_unfolding_all rfl):vR X (.Compare i [.NotIn] [o] ν) (tV (aB (G0 ae) fi fo)):=MY (X0 (JS a d ho) c) λ_ _ _=>JT
end
end
section
variable{X:Cx}
def Qr(hN:X.N.Nodup)(h:X.N[i]?=aa x:=by rfl)(j:Loc X.env.scope x:=by walk_at "0")(m:gk (.Dict [] [] p) (aa (.Name x pos')) ν.line X.env=pure ag:=by rfl)(n:Zq X x:=by walk_at "0"):
  uH X (.Assign [.Name x pos'] (.Dict [] [] p) ν) (U4 i):=jX (oM hN h j T8 m n) λB σ H ⟨H₀,S,w,ρ,G,E,c,st,l,ok⟩=>λp o a =>
 ok.nx _ _ _ _ (by rw[gy];show c) (st.C7 (d:=.cN pW [] []) (by rw[c];show gJ h) (aG a) a ⟨o,[],aI,⟨rfl,trivial⟩,aH.nil⟩) l
def qS(h:B4 o=aa p):o=aa (.ow (.cN p.1 p.2.1 p.2.2)):=by
 unfold B4 at h;split at h
 .cases h;rfl
 .cases h
theorem V8(hu:X.A.units+2<c_)(he:F5 X e f)(hk:aZ X k fk)
  (hN:X.N[i]?=aa x:=by rfl) (hv:qN X.env.scope x:=by walk_at "1") (hd:Zu x:=by decide) (L:Zt x:=by decide)
  (hs:gk e (aa (.Subscript (.Name x p) k pos')) ν.line X.env=pure ag:=by rfl):
  uH X (.Assign [.Subscript (.Name x p) k pos'] e ν) (pF i f fk):=jX (T7 hu (gE hN hv hd L) hk he hs) λB σ H Qq=>by
 obtain⟨H₀,S,w,ρ,G,E,Z,st,q,ok⟩:=Qq;unfold wS pF at q;cases h:((f ρ).bind λp=>(B4 p.1[i]?).bind λkd=>(fk (bA p.1)).bind λI=>(pX I).bind λl =>
  if kindB kd.2.1 l=ae/\kd.2.2.length<i5 then aa (p.1.set i (.ow (.cN (adr kd.1) (L4.dF kd.2.1 kd.2.2 l p.2).1 (L4.dF kd.2.1 kd.2.2 l p.2).2))) else af) with
 |none=>rw[h] at q;show q.elim
 |some ρ2 =>
  rw[h] at q;obtain⟨⟨ρ1,d1⟩,eq,h⟩:=bnd h;obtain⟨⟨q0,ks,ds⟩,ed,h⟩:=bnd h;obtain⟨I,ek,h⟩:=bnd h;obtain⟨l,e2,h⟩:=bnd h;have u:=qS ed;by_cases J:kindB ks l=ae/\ds.length<i5
  .rw [Z_ J] at h;cases h;show⟨H₀,S,w,ρ,G,λρ' d=>ρ'=ρ1/\d=d1,Z,st,⟨_,eq,rfl,rfl⟩,λm v H' ρ' d j dv q'=>?_⟩;obtain⟨rfl,rfl⟩:=q';obtain⟨a0,_,_⟩:=j.own i _ u;show⟨_,a0,S,bA ρ',λy=>y=I,j.MV,j.all,⟨I,ek,rfl⟩,λy H2 y' O dy ey=>?_⟩;subst ey;have n:=j.same O;obtain⟨a,b,c⟩:=n.own i _ u;obtain⟨o,χ,Y,⟨e5,hq⟩,dn⟩:=c;subst e5;have nS:¬ SO S m ρ' (m i):=λ⟨_,z⟩=>z i _ u rfl;show⟨m i,o,χ,l,rfl,Y,yT dy e2,DY J.1,?_,λU=>?_⟩
   .have:=dn.len;rw[bo] at this;rw[fv,<- this];show J.2
   .have F:Fits X.K (SO S m ρ') (SO S m ρ') H2 (upd H2 (m i) (.dX U (L8.dF χ l y v))):=.upd (.inr (.inr ⟨_,_,Y⟩)) nS;obtain⟨p1,p2⟩:=Qs (k:=l) (y:=y) (Dn.fits (.same O) _ _ dv) dn;show ok.nx m σ _ _ Z (n.write (d':=.cN (adr q0) _ _) u ⟨U,_,aI,⟨p1,o,hq⟩,aH.fits F _ _ p2⟩) q
  .rw [Zz J] at h;cases h
end
def wJ{K:ao}{H₀ H H':Hp}{S:ah->Prop}{w:Nat->ah}{σ:L2.St}{ρ:aW}{G:List (D×V)}{i:Nat}{d d':D}(h:ST K H₀ S w σ H ρ G)(e:ρ[i]?=aa (Sv.ow d))(v:∀b u,b≠w i->H b=aa u->H' b=aa u)(q:sL K (SO S w ρ) H' d' (w i))(Y:∀xs,d'≠.rws xs:=by intro _ z;cases z):ST K H₀ S w σ H' (ρ.set i (.ow d')) G:=by
 obtain⟨a0,I,c0⟩:=h.own i d e;have wr:=c0.wr;have A:SO S w (ρ.set i (.ow d'))=SO S w ρ:=by
  funext a
  show propext ⟨λ⟨s,n⟩=>⟨s,λj f p=>?_⟩,λ⟨s,n⟩=>⟨s,λj f p=>?_⟩⟩
  .by_cases l:j=i
   .subst l;show n j d' (by rw[kn (dh.1 e).1])
   .exact n j f (by rw[jm (fg l)];show p)
  .by_cases l:j=i
   .subst l;show n j d e
   .exact n j f (by rw[jm (fg l)] at p;show p)
 have ne:∀a,SO S w ρ a->a≠w i:=λa z=>z.2 i d e;have O:∀a xs,H a=aa (.tup xs)->a≠w i:=λa xs z y=>by subst y;rcases wr with⟨_,k⟩|⟨_,k⟩|⟨_,_,k⟩<;>rw[z] at k<;>cases k
 have U:∀a o u,H a=aa (.pZ o u)->a≠w i:=λa o u z y=>by subst y;rcases wr with⟨_,k⟩|⟨_,k⟩|⟨_,_,k⟩<;>rw[z] at k<;>cases k
 have F:Fits K (SO S w ρ) (SO S w ρ) H H':=⟨λa xs z=>v _ _ (O a xs z) z,λa ns z=>z.elim (λ⟨o,y⟩=>.inl ⟨o,v _ _ (U a o _ y) y⟩) .inr,λa xs z s=>⟨v _ _ (ne a s) z,s⟩,λa xs z s=>⟨v _ _ (ne a s) z,s⟩,λa o xs z s=>⟨v _ _ (ne a s) z,s⟩⟩;show⟨h.fc,λb u z=>v b u (aP z I) (h.sm b u z),λj f p=>?_,λj k d1 e1 h1 h2 z=>?_,λj f p=>?_,λg hg=>by rw[A];show Dn.fits F _ _ (h.gh g hg),λj xs X=>?_⟩
 rotate_right
 .rcases get_set X with⟨_,z,_⟩|⟨l,z⟩
  .exact Zw (Sv.ow.inj z).symm (Y xs)
  .exact h.rwN z λL x=>v _ _ (λy=>l (h.inj _ _ _ _ z e y)) x
 .rw [A];rcases get_set p with⟨l,z,_⟩|⟨l,z⟩
  .cases z;subst l;show⟨a0,I,q⟩
  .obtain ⟨a,b,c⟩:=h.own j f z;show⟨a,b,c.fits F λL x=>v _ _ (λy=>l (h.inj _ _ _ _ z e y)) x⟩
 .have old:∀{m:Nat} {y:D},(ρ.set i (.ow d'))[m]?=aa (Sv.ow y) ->∃J,ρ[m]?=aa (Sv.ow J):=λ{m y} Z=>by
   rcases get_set Z with⟨l,_,_⟩|⟨_,z⟩
   .subst l;show⟨d,e⟩
   .exact ⟨_,z⟩
  obtain⟨_,g1⟩:=old h1;obtain⟨_,g2⟩:=old h2;show h.inj j k _ _ g1 g2 z
 .rw [A];rcases get_set p with⟨_,z,_⟩|⟨l,z⟩
  .cases z
  .obtain ⟨u,a,b⟩:=h.ro j f z;show⟨u,a,Dn.fits F f u b⟩
def JU(K:ao)(R:J0):Sp:=λvs H Q _=>∃(T:ah->Prop) (ds:List D) (us:List V) (p:ah) (o:ay) (χ:List (KX×V×V)) (xs:List D) (r:D×KD),vs=us++[.ref p]/\(∀a,H a=af->T a)/\¬ T p/\H p=aa (.dX o χ)/\aH K T H ds us/\aH K T H xs (χ.map (·.2.2))/\R ds (χ.map (·.1),xs)=.ok r /\
 ∀v H' d c,(∀b u,b≠p->H b=aa u->H' b=aa u)->H' p=aa (.dX d c)->c.map (·.1)=r.2.1->aH K T H' r.2.2 (c.map (·.2.2))->Dn K T H' r.1 v->Q v H'
def tH(K:ao)(t:AF)(j:Nat):TA:=λσ H Q=>∃(S:ah->Prop) (ρ:bK) (ds:List D) (p:ah),(∀a,H a=af->S a)/\Sl K S H ρ σ/\t ρ=aa ds/\σ[j]?=aa (aa (.ref p)) /\∀vs H',ξ H H'->aH K S H' ds vs->Q (vs++[.ref p]) H'
section
variable{X:Cx}
def V9(u:aZ X e f)(q:PA X es (tH X.K g j))(o:Zr X e es:=by rfl):PA X (e::es) (tH X.K (aA f g) j) :=
 AG (b8 u q o) λσ H Q I=>by obtain⟨S,ρ,ds,p,n,l,a,z,k⟩:=I;obtain⟨d,A,a⟩:=bnd a;obtain⟨r,x,a⟩:=bnd a;cases a;show⟨S,ρ,λy=>y=d,n,l,⟨d,A,rfl⟩,λv H1 L c h e1=>?_⟩;subst e1;show⟨S,ρ,r,p,aU n c,Sl.fits (.same c) l,x,z,λvs J m F=>?_⟩;show k (v::vs) J (c.trans m) (aH.cons (Dn.fits (.same m) _ _ h) F)
def Qo(hN:X.N[j]?=aa x:=by rfl)(c:qN X.env.scope x:=by walk_at "1")(d:Zu x:=by decide)(a:Zt x:=by decide):PA X [.Name x ν] (tH X.K aJ j) :=
 AG (b8 (gE hN c d a) gG) λσ H Q m=>by obtain⟨S,ρ,ds,p,o,n,h,l,k⟩:=m;cases h;show⟨_,l,k [] H (ξ.refl H) aH.nil⟩
theorem JV{R:J0}{t:AF}{j:Nat}{H₀ H:Hp}{S:ah->Prop}{w:Nat->ah}{σ:L2.St}{ρ:aW}{G:List (D×V)}{r:(Nat->ay->Prop)×D×KD}{Q:VK}(st:ST X.K H₀ S w σ H ρ G)(h:stepM R t j ρ=aa r)
  (k:∀v H',ST X.K H₀ S w σ H' (ρ.set j (.ow (.cN (adr r.1) r.2.2.1 r.2.2.2))) G->Dn X.K (SO S w ρ) H' r.2.1 v->Q v H'):MC (JU X.K R) [] E0 (tH X.K t j) σ H Q:=by
 obtain⟨ds,y,h⟩:=bnd h;obtain⟨⟨Y,ks,xs⟩,A,h⟩:=bnd h;have l:=qS A
 cases hR:R ds (ks,xs) with
 |no=>dsimp only at h;rw[hR] at h;cases h
 |ex c=>dsimp only at h;rw[hR] at h;cases h
 |ok r0 =>
  dsimp only at h;rw[hR] at h;cases h;obtain⟨U,Z,_⟩:=st.own j _ l;show⟨SO S w ρ,fG ρ,ds,w j,st.FR,st.rd,y,U,λvs H1 n dn=>?_⟩;have a:=st.same n;obtain⟨_,_,⟨o,χ,u,⟨I,q⟩,O⟩⟩:=a.own j _ l;subst I;show JU X.K R ((vs++[V.ref (w j)])++[]) H1 Q E0;rw[ip];show⟨SO S w ρ,ds,vs,w j,o,χ,xs,r0,rfl,a.FR,λz=>z.2 j _ l rfl,u,dn,O,hR,λv H' p d x m F J L=>?_⟩;show k v H' (wJ a l x ⟨p,d,m,⟨F,o,q⟩,J⟩) L
theorem Gi(C:Cl X.Ω X.w X.K X.mg X.ω gI k y ps (JU X.K R))(n:cZ k X.A)
  (J:PA X (e::es) (tH X.K t j)) (x:Gl X y:=by rfl) (l:Zu y:=by decide) (z:Zr X e es:=by rfl) (d:Q0l X cpos es:=by rfl)
  (m:gk (.Call (.Name y p) (e::es) [] cpos) af ν.line X.env=pure ag:=by rfl):
  uH X (.Expr (.Call (.Name y p) (e::es) [] cpos) ν) (QE R t j):=by
 obtain⟨F,o,u,I⟩:=C;show jX (FF (mX F n x o u I .nil MN J l z d) m) λB σ H L=>?_;obtain⟨H₀,S,w,ρ,G,E,q,st,a,ok⟩:=L;unfold wS QE at a
 cases h:stepM R t j ρ with
 |none=>rw[h] at a;show a.elim
 |some r =>
  rw[h] at a;show JV st h λv H' c _=>ok.nx w _ H' _ q c a
abbrev GI(K:ao)(j:Nat)(k:EF):TS:=Ba (V7 (oK j) (lift K (wE k)))
def Ql{st:cn}{b:SF}{j:Nat}{x:aj}{i:av}{k:EF}{p c pos':bq}(l:X.A.units+2<c_)(h:uH X st b)(n:aZ X i k)(hN:X.N[j]?=aa x:=by rfl)(d:qN X.env.scope x:=by walk_at "1")(o:Zu x:=by decide)(a:Zt x:=by decide)(m:IA i:=by intro _ _;rfl):
  tS X [st,.Return (aa (.Subscript (.Name x p) i c)) pos'] (CO (m7 X.K (XC X) X.N.length (wS b)) (GI X.K j k)):=sD h (FE (LP (T6 l (gE hN d o a) n m)))
theorem xD{st:cn}{l:List cn}{f g:SF}{m:TS}(u:uH X st f)(h2:tS X l (CO (m7 X.K (XC X) X.N.length (wS g)) m)):tS X (st::l) (CO (m7 X.K (XC X) X.N.length (wS (aO f g))) m):=AI (sD u h2) λB σ H v=>by
 obtain⟨H₀,S,w,ρ,G,E,p,st,a,ok⟩:=v;unfold wS aO at a;show⟨H₀,S,w,ρ,G,{E with nx:=wS g E},p,st,?_,⟨λo n H' ρ' j h q=>⟨H₀,S,o,ρ',G,E,j,h,q,ok⟩,ok.rt,ok.bk,ok.ct,ok.ex⟩⟩;unfold wS
 cases hf:f ρ with
 |nx ρ'=>rw[hf] at a;show a
 |rt d=>rw[hf] at a;show a
 |ex c=>rw[hf] at a;show a
 |no=>rw[hf] at a;show a
end
theorem Gh{P:bg}{w:a_}{K:ao}{mg:Q0d}{ω:ba}{x qual:aj}{st:cn}{f:ah}{fd:gc}{N Y:Q0g}{k n np:Nat}{b:SF}{key:EF}(F:MO K x qual st f fd)(S:cH N Y (aF st))(hn:N.length=n)(hp:Y.length=np)
  (U:∀(I:ai) (A:br) (Γ:List df) (s:ak) (H:Hp) (E:XK),cZ k (A.deeper (envOfC qual (aF st) s.heap.objs.size f I)) ->
   ∃xc,tS (eQ gI P w K mg ω N qual (aF st) f I A Γ s H E).CN (bV st) (CO (m7 K xc N.length (wS b)) (GI K (np-1) key))):hJ P w K mg ω gI (k+1) f fd Y (JU K (runM n np b key)):=by
 subst hn hp;show F.ok S (λvs H Q E h=>?_) λI A Γ s H vs Q E hr h=>?_
 .obtain ⟨T,ds,us,p,o,χ,xs,r,rfl,fc,np,hp,du,dx,hR,kk⟩:=h;have hb:=EM hR pW;unfold rF at hb;split at hb
  .rename_i hl;rw[dm,<- du.len];show hl
  .cases hb
 .obtain ⟨xc,hb⟩:=U I A Γ s H E hr;obtain⟨T,ds,us,p,o,χ,xs,r,rfl,fc,nT,hp,du,dx,hR,kk⟩:=h;show⟨_,hb,?_⟩;have j:=EM hR (λa _=>a=p);unfold rF at j;split at j
  case isFalse=>cases j
  rename_i hl;have hlu:=du.len;have hpN:Y.length<=N.length:=by have:=congrArg pz S.pre;rw[ij] at this;lia
  have j0:Y.length-1=ds.length:=by lia
  have sj:(startM N.length ds (λa _=>a=p) (χ.map (·.1),xs))[ds.length]?=aa (Sv.ow (.cN (λa _=>a=p) (χ.map (·.1)) xs)):=by unfold startM;rw[jz (by simp)];simp
  have sv:∀i,i<ds.length->(startM N.length ds (λa _=>a=p) (χ.map (·.1),xs))[i]?=(ds[i]?).map Sv.ro:=λi hi=>by unfold startM;rw[j_ (by simpa using hi),ft]
  have sn:∀i,ds.length<i ->∀y,(startM N.length ds (λa _=>a=p) (χ.map (·.1),xs))[i]?=aa y->y=Sv.no:=λi hi y e=>by
   unfold startM at e;rw[jz (by simp;lia)] at e;obtain⟨m,hm⟩:∃m,i-(List.map Sv.ro ds).length=m+1:=⟨i-ds.length-1,by simp;lia⟩;rw[hm,ny,jr] at e;split at e
   .cases e;rfl
   .cases e
  have ow:∀(i:Nat) (d:D),(startM N.length ds (λa _=>a=p) (χ.map (·.1),xs))[i]?=aa (Sv.ow d)->i=ds.length/\d=.cN (λa _=>a=p) (χ.map (·.1)) xs:=λi d e=>by
   rcases Nat.lt_trichotomy i ds.length with h|h|h
   .rw [sv i h] at e;obtain⟨y,_,ey⟩:=lh.1 e;cases ey
   .subst h;rw[sj] at e;cases e;show⟨rfl,rfl⟩
   .cases sn i h _ e
  have so:∀a,T a->SO (λa=>T a\/a=p) (λ_=>p) (startM N.length ds (λa _=>a=p) (χ.map (·.1),xs)) a:=λa ta=>⟨.inl ta,λi d e z=>nT (by rw[<- show a=p from z];show ta)⟩;have J:L2.start N (us++[.ref p])=us.map aa++aa (.ref p)::cp (N.length-(us.length+1)) af:=by unfold L2.start;simp
  cases hbs:b (startM N.length ds (λa _=>a=p) (χ.map (·.1),xs)) with
  |no=>rw[hbs] at j;cases j
  |rt d=>rw[hbs] at j;cases j
  |ex c=>rw[hbs] at j;cases j
  |nx ρ1 =>
   rw[hbs] at j;dsimp only at j;show⟨λc=>if c=p then af else H c,λa=>T a\/a=p,λ_=>p,startM N.length ds (λa _=>a=p) (χ.map (·.1),xs),[],{nx:=λρ=>ρ=ρ1,rt:=λ_=>False,bk:=λ_=>False,ct:=λ_=>False,ex:=λ_=>False},?_,?_,?_,?_⟩
   .rw [J];simp;lia
   .refine ⟨λa e=>?_,λc u e=>?_,λi d e=>?_,λi i' d d' h1 h2 _=>(ow i d h1).1.trans (ow i' d' h2).1.symm,λi d e=>?_,λg hg=>(by cases hg),λi xs e=>by have:=(ow i _ e).2;cases this⟩
    .by_cases z:a=p
     .exact .inr z
     .exact .inl (fc a (by simpa[z] using e))
    .by_cases z:c=p
     .simp [z] at e
     .simpa [z] using e
    .obtain ⟨rfl,rfl⟩:=ow i d e;show⟨?_,by simp,o,χ,hp,⟨rfl,rfl⟩,aH.fits (.mono so) _ _ dx⟩;rw[J,jz (by simp;lia)];simp[hlu]
    .by_cases hi:i<ds.length
     .rw [sv i hi] at e;obtain⟨y,e1,ey⟩:=lh.1 e;cases ey;obtain⟨v,ev,dv⟩:=du.get e1;show⟨v,?_,Dn.fits (.mono so) _ _ dv⟩;have hv:i<us.length:=(dh.1 ev).1;rw[J,j_ (by simpa using hv),ft,ev];rfl
     .rcases Nat.lt_or_ge ds.length i with h|h
      .cases sn i h _ e
      .have:i=ds.length:=by lia
       subst this;rw[sj] at e;cases e
   .unfold wS;rw[hbs]
   .refine ⟨λw' σ' H' ρ' hl' l e=>?_,λ_ _ _ _ _ z=>z.elim,λ_ _ _ _ _ _ z=>z.elim,λ_ _ _ _ _ _ z=>z.elim,λ_ _ _ z=>z.elim⟩;subst e;rw[j0] at j ⊢;obtain⟨⟨q',Z,X⟩,eo,j⟩:=bnd j;obtain⟨kv,ek,j⟩:=bnd j;obtain⟨L,e2,j⟩:=bnd j;have o0:=qS eo;obtain⟨a0,b0,⟨o1,DZ,hp1,⟨e5,hq1⟩,dk1⟩⟩:=l.own ds.length _ o0;split at j
    case isFalse=>cases j
    rename_i hc;obtain⟨d,ed,hq9⟩:=pP j;obtain⟨_,q⟩:=hc.2 _ _ hq1;have q:w' ds.length=p:=q;show⟨_,a0,SO (λa=>T a\/a=p) w' ρ',fG ρ',λy=>y=kv,l.FR,l.rd,⟨kv,ek,rfl⟩,λy H2 y' s2 dy ey=>?_⟩;subst ey;have st2:=l.same s2;obtain⟨_,_,⟨o2,OX,O,⟨e6,_⟩,dk2⟩⟩:=st2.own ds.length _ o0;have toT:∀a,SO (λa=>T a\/a=p) w' ρ' a->T a:=λa z=>z.1.elim id λy=>Zw (y.trans q.symm) (z.2 _ _ o0);have e7:OX.map (·.1)=Z:=e6;have hk2:kindB (OX.map (·.1)) L=ae:=by rw[e7];show hc.1
    have ed2:bF (OX.map (·.1)) X L=aa d:=by rw[e7];show ed
    obtain⟨v3,ev,dv⟩:=(yU dk2).1 d ed2;show⟨w' ds.length,o2,OX,L,v3,rfl,O,yT dy e2,DY hk2,ev,?_⟩;have er:r=(d,Z,X):=hq9.symm;subst er;rw[q] at O;show kk v3 H2 o2 OX (λc u ne hc=>s2 _ _ (l.sm c u (by simpa[ne] using hc))) O e7 (aH.fits (.mono toT) _ _ dk2) (Dn.fits (.mono toT) _ _ dv)
theorem fdM{P:bg}{w:a_}{K:ao}{mg:Q0d}{ω:ba}{x:aj}{st:cn}{N c:Q0g}{k n d:Nat}{b:SF}{key:EF}(D:Df K mg x st c)
  (h:∀{f:ah} {a:ai} {A:br} {Γ:List df} {s:ak} {H:Hp} {E:XK},cZ k (A.deeper (envOfC x (aF st) s.heap.objs.size f a))->N.Nodup ->∃xc,tS (eQ gI P w K mg ω N x (aF st) f a A Γ s H E).CN (bV st) (CO (m7 K xc N.length (wS b)) (GI K (d-1) key)))
  (S:cH N c (aF st):=by show⟨rfl,rfl,rfl,by decide+kernel,rfl,by decide+kernel,by decide+kernel⟩) (o:N.length=n:=by rfl) (l:c.length=d:=by rfl):Cl P w K mg ω gI (k+1) x c (JU K (runM n d b key)):=by
 obtain⟨_,F,m,q⟩:=D;show⟨Gh F S o l λ_ _ _ _ _ _ j=>h j S.nd,m,F.kp,q⟩
def Pj{P:bg}{w:a_}{K:ao}{mg:Q0d}{ω:ba}{k:Nat}{f:ah}{fd:gc}{a:Q0g}:hJ P w K mg ω gI k f fd a (JU K λ_ _=>.no) :=
 ⟨λ_ _ _ _ h=>(by obtain⟨_,_,_,_,_,_,_,_,_,_,_,_,_,_,e,_⟩:=h;cases e),λ_ _ _ _ _ _ _ _ _ _ _ _ _ h=>(by obtain⟨_,_,_,_,_,_,_,_,_,_,_,_,_,_,e,_⟩:=h;cases e)⟩
def nnM{P:bg}{w:a_}{K:ao}{mg:Q0d}{ω:ba}{k:Nat}{x:aj}{st:cn}{a:Q0g}(D:Df K mg x st a):Cl P w K mg ω gI k x a (JU K λ_ _=>.no):=by obtain⟨_,F,m,q⟩:=D;show⟨Pj,m,F.kp,q⟩
open L5
section
variable{X:Cx}
def CNN(i j:Int):Prop:=0<=i/\0<=j
def Pg(h:nnC i j=ae):CNN i j:=by unfold nnC at h;rw[jf] at h;show⟨of_decide_eq_true h.1,of_decide_eq_true h.2⟩
def UA:gF X (binaryOp .BitAnd) (rI CNN λi j=>.int ((i.toNat &&& j.toNat:Nat):Int)):=VH λi j _ _ _ _ _ a q=>and_int (by rw[bitAnd_pp a.1 a.2];show q)
section
variable{a b:av}{fa fb:EF}{ν:bq}
def WB(d:aZ X a fa)(c:aZ X b fb):aZ X (.BinOp a .BitAnd b ν) (aB uQ fa fb):=cE (P4 UA jV d c) (eS (dO λi j h=>Pg h))
def Gg(d:aZ X a fa)(c:aZ X b fb):aZ X (.BinOp a .RShift b ν) (aB QG fa fb):=cE (P4 YI jV d c) (eS (dO λi j h=>by simpa using h))
def z_(d:aZ X a fa)(c:aZ X b fb):aZ X (.BinOp a .LShift b ν) (aB QF fa fb):=cE (P4 YH jV d c) (eS (dO λi j h=>by
 simp only[jf,decide_eq_true_eq] at h;show⟨h.1.1,by lia,?_⟩;have:(2:Nat)^64=18446744073709551616:=by decide
 rw[this];show h.2))
end
end
end L8
namespace L9
open PySem.Spec PyProof.Rows L2 L3 L4 L5
section
variable{X:Cx}{π:Q0b}{σ:L2.St}{H:Hp}{s:ak}
def Uy(ok:X.Ok)(I:Φ (hcx X hd pn) V5 σ' H s)(sub:∀p∈X.pn++π,p∈pn):Φ X π σ' H s :=
 ⟨ok,I.os,I.bare,I.ω,I.loc,I.cell,I.free,I.d7,λp h=>I.pin p (gj _ (sub p h)),I.hok,I.len⟩
theorem Ux(I:Φ X π σ H s)(hN:X.N.Nodup)(o:X.N[i]?=aa n)
  (y:∀(j:Nat) (x:aj) (v:V),X.N[j]?=aa x->σ[j]?=aa (aa v)->qN X.env.scope x ->∃u,Ψ v u/\Look X.env s.heap m x u)
  (h:h'.Ns X.env.locals (λx=>if x=n then v0 else m x)) (d:mf X.env.locals s.heap h'):Φ X π (σ.set i af) H {s with heap:=h',toks:=t}:=by
 have W:=V6 (t:=t) I h d;show⟨W.ok,W.os,W.bare,W.ω,⟨_,h,λj x v a h2 A=>?_⟩,W.cell,W.free,W.d7,W.pin,W.hok,by rw[gy];show I.len⟩;rcases get_set h2 with⟨_,z,_⟩|⟨ne,z⟩
 .cases z
 .obtain ⟨u,r,l⟩:=y j x v a z A;show⟨u,r,?_⟩;have p:x≠n:=λe=>by subst e;obtain⟨F,L⟩:=dh.1 a;obtain⟨K,J⟩:=dh.1 o;show ne ((List.getElem?_inj F hN).1 (a.trans o.symm))
  rcases l with⟨k,e⟩|⟨k,c,e,q⟩
  .refine .inl ⟨k,?_⟩;show(if x=n then v0 else m x)=aa u;rw[Zz p];show e
  .exact .inr ⟨k,c,e,q.sameBut d (I.RM x c e)⟩
theorem UB{π:Q0b}{σ:L2.St}{H:Hp}{s:ak}{e C C0:ah}{a0:ai}{P:List ah}{E:Q0c}{R0 n:aj}{i:Nat}{b0:cn}{a:List cn}{np F:bq}{d:ba}{B:Ends}{N1:L2.St->Hp->Prop}(I:Φ X π σ H s)(T:lQ X π H s e (.ref C) a0 P)
  (tr:d.TracedW (hideAll s.heap (P++frs X.stack)) e (.ref C) a0) (stay:(hideAll s.heap (P++frs X.stack)).StaysIn d) (fns:d.FunFrames (hideAll s.heap (P++frs X.stack)) X.stack) (us:s.heap.UpToSlots d)
  (hm0:X.mg R0=aa (.ref C0)) (hg0:Gl X R0) (hd0:Zu R0) (hx:xl X.K (.ref C) (.ref C0)=aa ae) (hN:X.N.Nodup) (hi:X.N[i]?=aa n) (Y:X.env.scope.names.lookup n=aa .local)
  (hB:∀y H2,N1 y H2->B.nx (y.set i af) H2)
  (run:∀(h:ay) (s7:ak),h.cls=.ref C->Φ (hcx X (aa (.ref e)) (X.pn++π++[(e,h)])) [] ((cp X.N.length af).set i (aa (.ref e))) H s7 ->
   ax (au X.Ω X.w) (X.A.mark (aa (.ref e))) (execs (b0::a) X.env) (SP (hcx X (aa (.ref e)) (X.pn++π++[(e,h)])) [] {nx:=N1,rt:=B.rt}) (λ_ _=>False) s7):
  ax (au X.Ω X.w) X.A (handleBy (.ref e) X.env [.ExceptHandler (aa (.Name R0 np)) (aa n) (b0::a) F]) (SP X π B) E {s with heap:=d}:=by
 have kp:∀h',(hideAll s.heap (P++frs X.stack)).StaysIn h' ->∀b o,b∉P->b∉frs X.stack->s.heap.get? b=aa o->h'.get? b=aa o:=λh' st b o n1 n2 q=>st b o (ud _ q λz=>(gn.1 z).elim n1 n2);have J5:Φ X π σ H {s with heap:=d}:=flown I T (kp d stay) us;show wpAny_handleBy_cons (codeAny_handlers_test ?_) (by intro q;cases q);have Z5:Φ (hcx X (aa (.ref e)) []) [] _ H {s with heap:=d}:=Ac J5 λp c=>nomatch c;show mT (X:=hcx X (aa (.ref e)) []) Z5 hg0 hm0 ?_ hd0;have LT:ou (au X.Ω X.w) d (typeOf (.ref e)) (.ref C):=by obtain⟨h,_,_,_,_,L,hc,_⟩:=tr;show kP ⟨h,L,hc.1⟩
 show(PySem.W.exm_one (K:=X.K) J5.oJ LT hx).here ?_;show codeAny_handlers_suite_as (n:=n) ?_;show Vy (s:={s with heap:=d}) stay fns tr.at λh7 j1 j2 j3 j4=>?_;have us7:s.heap.UpToSlots h7:=λb o eb U=>by obtain⟨sl,q⟩:=us b o eb U;show⟨sl,j4 b _ q U⟩
 have J7:Φ X π σ H {s with heap:=h7}:=flown I T (kp h7 j1) us7;obtain⟨h,vs,T2,oT,ts,L,⟨hc,_⟩,hd,_⟩:=j3;have Y7:Φ (hcx X (aa (.ref e)) (X.pn++π++[(e,h)])) [] _ H {s with heap:=h7}:=Ac J7 λp c=>by
  rcases gn.1 c with c|c
  .exact J7.pin p c
  .rw [cg.1 c];show⟨L,T.free e T.mem,λz=>?_,λz=>?_,λv z=>by rw[hd] at z;cases z⟩
   .obtain ⟨m,⟨o,es,ep,ho,J,_⟩,_⟩:=J7.loc;have z:e=X.env.locals:=z;rw[<- z] at ho;have q:=L.symm.trans ho;cases q;rw[hd] at J;cases J
   .obtain ⟨_,o,ho,U⟩:=J7.jR.mem z;have q:=L.symm.trans ho;cases q;show U vs hd
 show jS (X:=hcx X (aa (.ref e)) (X.pn++π++[(e,h)])) Y7 hN hi (.inl Y) (v:=.ref e) rfl (λs8 I8=>?_) (.inr Y);show gp (run h s8 hc I8) (λf s9 Z=>?_) λ_ _ z=>z.elim
 cases f with
 |ret u =>
  obtain⟨v,j,H',I9,rv,q⟩:=Z;have O:Φ X π _ H' s9:=Qg I.ok I9 λp c=>gj _ c;obtain⟨m,hn,_⟩:=id O.loc;show wpAny_nameGoes Y hn (by rw[I.ok.kind];rfl) λh' m' x l=>⟨v,_,H',V6 O x l,rv,q⟩
 |next =>
  obtain⟨j,H',I9,q⟩:=Z;have O:Φ X π j H' s9:=Uy I.ok I9 λp c=>gj _ c;obtain⟨m,hn,hm⟩:=id O.loc;show wpAny_nameGoes_keeps Y hn (by rw[I.ok.kind];rfl) λh' v0 x l=>⟨j.set i af,H',Ux O hN hi hm x l,hB _ _ q⟩
 |brk=>obtain⟨_,_,_,q⟩:=Z;show q.elim
 |cont=>obtain⟨_,_,_,q⟩:=Z;show q.elim
def ST.Uw{K:ao}{H₀ H:Hp}{S:ah->Prop}{w:Nat->ah}{σ:L2.St}{ρ:aW}{i:Nat}(h:ST K H₀ S w σ H ρ [])(o:∀d,ρ[i]?≠aa (Sv.ow d)):ST K H₀ S w (σ.set i af) H (ρ.set i .no) []:=by
 have other:∀{j:Nat} {s:Sv},s≠.no->(ρ.set i .no)[j]?=aa s->j≠i/\ρ[j]?=aa s:=λ{j s} m q=>by
  rcases get_set q with⟨_,z,_⟩|z
  .exact Zw z m
  .exact z
 have keep:∀{j:Nat} {v:V},j≠i->σ[j]?=aa (aa v)->(σ.set i af)[j]?=aa (aa v):=λ{j v} ne q=>by rw[jm (fg ne)];show q
 have l:∀a,SO S w ρ a->SO S w (ρ.set i .no) a:=SO.mono λj d q=>⟨d,(other (by intro z;cases z) q).2⟩;show⟨h.fc,h.sm,λj d q=>?_,λj k d e q1 q2 z=>?_,λj d q=>?_,λg n=>(nomatch n),λj xs q=>h.rw j xs (other (by intro z;cases z) q).2⟩
 .obtain ⟨ne,q⟩:=other (by intro z;cases z) q;obtain⟨a,b,c⟩:=h.own j d q;show⟨keep ne a,b,c.fits (.mono l) λ_ z=>z⟩
 .exact h.inj j k d e (other (by intro z;cases z) q1).2 (other (by intro z;cases z) q2).2 z
 .obtain ⟨ne,q⟩:=other (by intro z;cases z) q;obtain⟨v,a,b⟩:=h.ro j d q;show⟨v,keep ne a,Dn.fits (.mono l) d v b⟩
theorem Pe{R0 n:aj}{C0:ah}{i:Nat}{body:List cn}{b0:cn}{y Θ:List cn}{np Z ν:bq}{fb fr:SF}{fh:aj->Option aW}(hst:X.stack=X.env::X.Γ)(hf:X.env.frame=aa X.env.locals)(hm0:X.mg R0=aa (.ref C0))(hN:X.N.Nodup)
  (hbody:∀pn xe,fU {X with pn:=pn,xe:=xe} body fb) (hrest:fU X Θ fr)
  (hh:∀c ρ1,fh c=aa ρ1 ->∃(C:ah) (g:Nat->SF) (o:Nat->aW),X.mg c=aa (.ref C)/\xl X.K (.ref C) (.ref C0)=aa ae/\(∀e:Nat,g e ((cp X.N.length Sv.no).set i (.ro (.exc c e)))=.nx (o e)/\(o e).set i .no=ρ1 /\∀d,(o e)[i]?≠aa (Sv.ow d)) /\
   ∀(e:ah) (oe:ay) (pn:Q0b),oe.cls=.ref C->fU (hcx X (aa (.ref e)) (pn++[(e,oe)])) (b0::y) (g e))
  (hi:X.N[i]?=aa n:=by rfl) (hl:X.env.scope.names.lookup n=aa .local:=by rfl) (hg0:Gl X R0:=by rfl) (hd0:Zu R0:=by decide):
  fU X (.Try body [.ExceptHandler (aa (.Name R0 np)) (aa n) (b0::y) Z] [] [] ν::Θ) (rG fb fh fr):=by
 intro π s σ H B I ⟨H₀,S,w,ρ,G,E,hlen,st,l,ok⟩;generalize nc:({B with nx:=λa H'=>m7 X.K (XC X) X.N.length (wS fr) B a H' }:Ends)=B2;show Bn (dA (Q:=SP X π B2) ?_ λf s1 q=>?_)
 rotate_left
 .subst nc
  cases f with
  |next =>
   obtain⟨a,H',I',q⟩:=q;show hrest π s1 a H' B I' q
  |ret v=>show q
  |brk=>show q
  |cont=>show q
 show wpAny_Try_except ?_;generalize F:(λ(e:ai) (s1:ak)=>ax (au X.Ω X.w) X.A (noteFrame e X.env) (λ_ O=>ax (au X.Ω X.w) X.A (setFlight e af) (λ_ s3=>ax (au X.Ω X.w) X.A (handleBy e X.env [.ExceptHandler (aa (.Name R0 np)) (aa n) (b0::y) Z]) (SP X π B2) X.xe s3) X.xe O) X.xe s1)=xe;have I':Φ {X with pn:=X.pn++π,xe:=xe} [] σ H s :=
  ⟨⟨I.ok.mod,I.ok.kind,I.ok.glob,I.ok.blt,I.ok.above,I.ok.inj,I.ok.has,I.ok.cab,I.ok.hd,I.ok.frames,I.ok.stk,I.ok.exf,I.ok.bs,I.ok.FA,I.ok.z4,I.ok.CM,I.ok.jR,I.ok.P0,I.ok.tab⟩,I.os,I.bare,I.ω,I.loc,I.cell,I.free,I.d7,λp hp=>I.pin p (by have hp:p∈(X.pn++π)++[]:=hp;rw[ip] at hp;show hp),I.hok,I.len⟩
 have back:∀{WC:Q0b} {m:L2.St} {U:Hp} {O:ak},Φ {X with pn:=X.pn++π,xe:=xe} WC m U O->Φ X π m U O:=λJ=>⟨I.ok,J.os,J.bare,J.ω,J.loc,J.cell,J.free,J.d7,λp hp=>J.pin p (gj _ hp),J.hok,J.len⟩;have ht':wS fb {E with nx:=λρ'=>wS fr E ρ',ex:=λc=>∃ρ1 d,fh c=aa ρ1/\fr ρ1=.rt d/\E.rt d} ρ:=by
  unfold wS rG at l;unfold wS
  cases hb:fb ρ with
  |nx ρ'=>rw[hb] at l;show l
  |rt d=>rw[hb] at l;show l
  |no=>rw[hb] at l;show l
  |ex c =>
   rw[hb] at l;dsimp only at l ⊢
   cases hc:fh c with
   |none=>rw[hc] at l;show l.elim
   |some ρ1 =>
    rw[hc] at l;dsimp only at l
    cases hr:fr ρ1 with
    |rt d=>rw[hr] at l;show⟨ρ1,d,rfl,hr,l⟩
    |nx _=>rw[hr] at l;show l.elim
    |no=>rw[hr] at l;show l.elim
    |ex _=>rw[hr] at l;show l.elim
 have ok':ND X.K (XC {X with pn:=X.pn++π,xe:=xe}) X.N.length H₀ S G {E with nx:=λρ'=>wS fr E ρ',ex:=λc=>∃ρ1 d,fh c=aa ρ1/\fr ρ1=.rt d/\E.rt d} B2:=⟨λw2 m U x l2 L q=>by
   rw[<- nc];show⟨H₀,S,w2,x,G,E,l2,L,q,ok⟩,λv U d2 O dn z=>by rw[<- nc];show ok.rt v U d2 O dn z,λw2 m U x l2 L z=>by rw[<- nc];show ok.bk w2 m U x l2 L z,λw2 m U x l2 L z=>by rw[<- nc];show ok.ct w2 m U x l2 L z,λc H' sm ⟨ρ1,d,hfd,hfr,q⟩=>by
  obtain⟨C,g,o,hmc,hx,hg,hs⟩:=hh c ρ1 hfd;show⟨C,hmc,λWC m O e a0 P I2 T2=>?_⟩;have IX:=back I2;have TX:lQ X π H' O e (.ref C) a0 P:=⟨T2.mem,T2.free,T2.new,T2.fld,λq hq p hp=>T2.pin q hq p (gj _ hp),T2.tr⟩;show xe (.ref e) O;rw[<- F];obtain⟨g1,g2,g3⟩:=hg e;show looked hst hf IX TX λh' J tr stay fns us=>UB (N1:=λY H3=>∃w3,Y.length=X.N.length/\ST X.K H₀ S w3 Y H3 (o e) []) IX TX tr stay fns us hm0 hg0 hd0 hx hN hi hl (λY H3 ⟨w3,l3,st3⟩=>?_) λoe s7 hc I7=>?_
  .rw [<- nc];show⟨H₀,S,w3,(o e).set i .no,[],{nx:=λ_=>False,rt:=E.rt},by rw[gy];show l3,ST.Uw st3 g3,?_,⟨λ_ _ _ _ _ _ z=>z.elim,λv U d2 O dn z=>ok.rt v U d2 O dn z,λ_ _ _ _ _ _ z=>z.elim,λ_ _ _ _ _ _ z=>z.elim,λ_ _ _ z=>z.elim⟩⟩;show wS fr _ _;unfold wS;rw[g2,hfr];show q
  .have hrt:B2.rt=B.rt:=by rw[<- nc]
   rw[hrt];show(hs e oe (X.pn++π) hc) [] s7 _ H' _ I7 ⟨H₀,S,λ_=>0,(cp X.N.length Sv.no).set i (.ro (.exc c e)),[],{nx:=λx=>x=o e,rt:=λ_=>False},?_,⟨st.fc,sm,λj d2 z=>?_,λj k d1 d2 z=>?_,λj d2 z=>?_,λg hg=>(nomatch hg),Mx⟩,?_,⟨λw3 Y H3 ρ3 l3 st3 z=>⟨w3,l3,by rw[<- z];show st3⟩,λ_ _ _ _ _ z=>z.elim,λ_ _ _ _ _ _ z=>z,λ_ _ _ _ _ _ z=>z,λ_ _ _ z=>z.elim⟩⟩
   .show ((cp X.N.length (af:Option V)).set i (aa (.ref e))).length=X.N.length;rw[gy,je]
   .rcases get_set z with⟨_,z,_⟩|⟨_,z⟩
    .cases z
    .rw [jr] at z;split at z<;>cases z
   .rcases get_set z with⟨_,z,_⟩|⟨_,z⟩
    .cases z
    .rw [jr] at z;split at z<;>cases z
   .rcases get_set z with⟨rfl,z,hj⟩|⟨_,z⟩
    .cases z;show⟨.ref e,kn (by simpa using hj),by simp only[Dn]⟩
    .rw [jr] at z;split at z<;>cases z
   .show wS (g e) _ _;unfold wS;rw[g1]⟩
 have run:=hbody (X.pn++π) xe [] s σ H B2 I' ⟨H₀,S,w,ρ,G,_,hlen,st,ht',ok'⟩;rw[<- F] at run ⊢;show gp run (λf s1 h=>?_) λ_ _ z=>z
 cases f with
 |next =>
  obtain⟨a,H',J,q⟩:=h;rw[F] at J;show FD π s1 a H' B2 (back J) q
 |brk=>obtain⟨a,H',J,q⟩:=h;rw[F] at J;show⟨a,H',back J,q⟩
 |cont=>obtain⟨a,H',J,q⟩:=h;rw[F] at J;show⟨a,H',back J,q⟩
 |ret u=>obtain⟨v,a,H',J,rv,q⟩:=h;rw[F] at J;show⟨v,a,H',back J,rv,q⟩
end
open PySem.SeqAt
abbrev vI(p:Int×ir):ai:=.int p.1 p.2
theorem Uv(l b:ah)(o m:List (Int×ir))(n U:Nat)(dd K:Option ah)(O I:Array (Option ai)):
  Meets (Builtin.«tuple.__lt__» ⟨[.ref l,.ref b],[]⟩) λA R s =>
   s.heap.get? l=aa ⟨.type "tuple",dd,.seq (o.map vI).toArray n,O⟩/\s.heap.get? b=aa ⟨.type "tuple",K,.seq (m.map vI).toArray U,I⟩/\R (.ok (.ret (.bool (d9 (o.map (·.1)) (m.map (·.1)))))) s :=
 .of_wp λΩ w A R s h=>by
  obtain⟨F,g,d,v,z⟩:=s;obtain⟨X,Y,h⟩:=h;have f2:=a2b
  wp_walk using Wd X,Wd Y,wpAny_forIn_list _ (λL c s'=>c.1=af/\s'=⟨F,g,d,v,z⟩ /\∃us vs:List (Int×ir),L=(us.map vI).zip (vs.map vI)/\us.length+m.length=vs.length+o.length/\R (.ok (.ret (.bool (d9 (us.map (·.1)) (vs.map (·.1)))))) ⟨F,g,d,v,z⟩) _
  case turn =>
   rintro⟨x,y⟩ L c s' ⟨J,rfl,us,vs,j,u,a⟩
   cases us with
   |nil=>cases j
   |cons p us =>
    cases vs with
    |nil=>cases j
    |cons q vs =>
     rw[cf,cf,Dq] at j;injection j with Z h2;obtain⟨rfl,rfl⟩:=C_ Z;rw[cf,cf,d9] at a;show aq (Ce p.1 p.2 q.1 q.2 Ω w _ _ ?_);by_cases e:p.1=q.1
     .rw [Z_ e] at a;rw[show(p.1 == q.1)=ae from beq_iff_eq.2 e]
      wp_walk
      show⟨rfl,rfl,us,vs,h2,by simp only[fj] at u;lia,a⟩
     .rw [Zz e] at a;rw[show(p.1 == q.1)=ag from beq_eq_false_iff_ne.2 e];have step:∀{A:br} {Q:Q0c} {E:Q0c},Q (.bool (Zv (p.1<q.1))) ⟨F,g,d,v,z⟩->ax (au Ω w) A (richCompare .Lt (vI p) (vI q)) Q E ⟨F,g,d,v,z⟩:=λh=>yf h
      wp_walk using step
      show⟨_,rfl,a⟩
  case fin =>
   rintro⟨b1,b2⟩ s' ⟨J,rfl,us,vs,j,u,a⟩;simp only at J;subst J;have e:d9 (us.map (·.1)) (vs.map (·.1))=Zv (o.length<m.length):=by
    cases us with
    |nil =>
     cases vs with
     |nil =>
      show(Zy ?_).symm;simp only[mq] at u;lia
     |cons q vs =>
      show(Zx ?_).symm;simp only[mq,fj] at u;lia
    |cons p us =>
     cases vs with
     |nil =>
      show(Zy ?_).symm;simp only[mq,fj] at u;lia
     |cons q vs=>cases j
   rw[e] at a
   wp_walk
   show⟨_,rfl,by simpa[a16] using a⟩
  show⟨rfl,rfl,o,m,rfl,by lia,h⟩
section
variable{X:Cx}
theorem eE:∀{is:Q0e} {us:Q0f},θ (is.map V.int) us ->∃a:List (Int×ir),us=a.map vI/\a.map (·.1)=is
 |[],_,.nil=>⟨[],rfl,rfl⟩
 |i::is,_,.cons r t=>by obtain⟨a,e,h⟩:=eE t;obtain⟨k,c⟩:=r;show⟨(i,k)::a,by rw[e,c];rfl,by rw[cf,h]⟩
end
end L9
namespace L4
open PySem.Spec PyProof.Rows L2 L3 PySem.W HS
section
variable{X:Cx}{π:Q0b}{σ:L2.St}{H:Hp}{s:ak}
def Fp(X:Cx)(π:Q0b)(b:ah):Prop :=
 b≠X.env.locals/\b∉X.fs/\(b∈X.ex\/X.s₀.heap.objs.size<=b)/\(∀x c,X.env.cells.lookup x=aa c->c≠b) /\∀p∈X.pn++π,p.1≠b
def D0(I:Φ X π σ H s)(a:s.heap.objs.size<=b):Fp X π b:=(I.xS (H':=H) a (I.hok.fresh a)).2
def qT(I:Φ X π σ H s)(f:Fp X π b)(c:H b=af)(e:s.heap.get? b=aa o)(d:∀v,o.data≠.cell v):Φ X (π++[(b,o)]) σ H s:=by
 show I.xR λp a=>?_;rcases gn.1 a with z|z
 .exact I.pin p (gm _ z)
 .rw [cg.1 z];show⟨e,c,f.1,f.2.1,d⟩
def iZ(I:Φ X (π++[(b,o)]) σ H s):s.heap.get? b=aa o/\H b=af:=by obtain⟨e,n,_⟩:=I.pin (b,o) (gm _ (gm _ (cg.2 rfl)));show⟨e,n⟩
theorem nJ(I:Φ X (π++[(b,o)]) σ H s)(f:Fp X π b)(k:∀c u,c≠b->s.heap.get? c=aa u->h'.get? c=aa u)(e:h'.get? b=aa o')(d:∀v,o'.data≠.cell v):
  Φ X (π++[(b,o')]) σ H {s with heap:=h',toks:=t' }:=by
 obtain⟨l,m,j,h,a⟩:=id f;show qT (I.fL.turned (t':=t') k (iZ I).2 l j h a) f (iZ I).2 e d
end
def UC(X:Cx)(σ:L2.St)(P:Q0b)(f:ai)(t:V->Hp->VK->Prop):Prop :=
 ∀(π:Q0b) (s:ak) (H:Hp) (v:V) (u:ai) (Q:VK),Φ X π σ H s->(∀p∈P,p∈π)->Ψ v u->t v H Q ->
  ax (au X.Ω X.w) X.A.in1.in1 (call f [u]) (EP X π σ Q) (λ_ _=>False) s
def g9(X:Cx)(n:Nat)(lt:Nat->Nat->Bool)(ks:List V)(H:Hp):Prop :=
 ∀(π:Q0b) (σ:L2.St) (s:ak) (us:Q0f),Φ X π σ H s->θ ks us ->
  ∃a,(∀Q:kh->ak->Prop,Q a s->ax (au X.Ω X.w) X.A.in1.in1 (keyKind' us.toArray) Q (λ_ _=>False) s) /\
   ∀(i j:Nat) (C:Bool->ak->Prop),i<n->j<n->C (lt i j) s->oq X.Ω X.w X.A.in1.in1 a us i j C s
theorem wK(r:Ψ k u):∀{ks:List V} {us:Q0f},θ ks us->θ (ks++[k]) (us++[u])
 |_,_,.nil=>.cons r .nil
 |_,_,.cons q h=>.cons q (wK r h)
theorem gQ:∀{ks:List V} {us:Q0f},θ ks us->ks.length=us.length
 |_,_,.nil=>rfl
 |_,_,.cons q h=>by rw[fj,fj,gQ h]
theorem oW(r:θ xs us):∀a:List Nat,(∀i∈a,i<us.length)->θ (a.map λi=>xs.getD i .non) (a.map λi=>us.getD i gq)
 |[],_=>.nil
 |i::a,h=>by
  have d:=h i de;have c:=gQ r;obtain⟨u,m,l⟩:=r.get (i:=i) (x:=xs[i]'∅) (by simp[c,d]);have e1:xs.getD i .non=xs[i]'∅:=by simp[c,d]
  have o:us.getD i gq=u:=by rw[kb,m];rfl
  show .cons ?_ (oW r a λj n=>h j (gf _ n));show Ψ (xs.getD i .non) (us.getD i gq);rw[e1,o];show l
section
variable{X:Cx}{π:Q0b}{σ:L2.St}{H:Hp}{s:ak}{P:Q0b}{f:ai}{t:V->Hp->VK->Prop}{xs:List V}{us:Q0f}{a kS:ah}{e1:Nat}{E:Q0c}
 {W:Nat->List V->Hp->Prop}
end
abbrev EA(q:aj)(sc:fu)(a:List (aj×ah))(L f:ah)(cd:ai):df:=envX q sc L f cd a
def BC(X:Cx)(N:Q0g)(q:aj)(sc:fu)(a:List (aj×ah))(L f:ah)(cd:ai)(s₀:ak)(H₀:Hp):Cx :=
 {X with N:=N,s₀:=s₀,H₀:=H₀,env:=EA q sc a L f cd,A:=X.A.in1.in1.deeper (EA q sc a L f cd),Γ:=X.stack,stack:=EA q sc a L f cd::X.stack,ex:=[],fn:=λ_=>ag,calm:=ae,pn:=[],xe:=λ_ _=>False}
structure GJ (X:Cx) (x:aj) (fs:Q0g) (fr:List Nat) (sc:fu):Prop where
 kind:sc.kind=.function
 co:sc.isCoroutine=ag
 gen:sc.isGenerator=ag
 par:sc.names.lookup x=aa .local
 OY:∀y∈sc.names,y.2≠.cell
 free:∀y∈sc.names,y.2=.free->X.env.kindOf y.1=aa .cell\/X.env.kindOf y.1=aa .free
 slot:∀(k:Nat) (y:aj),fs[k]?=aa y ->∃j,fr[k]?=aa j/\X.N[j]?=aa y/\(y,ji)∈sc.names/\sc.names.lookup y=aa .free
 yG:fr.length=fs.length
def JW(v:V)(fr:List Nat)(σ:L2.St):L2.St:=aa v::fr.map λj=>(σ[j]?).join
section
variable{X:Cx}{π:Q0b}{σ:L2.St}{H:Hp}{s:ak}
theorem UD(hc:X.calm=ae)(B:GJ X x fs fr sc)(I:Φ X π σ H s)
  (J:∀y∈sc.names,y.2=.free->cl.lookup y.1=X.env.cells.lookup y.1) (K:∀y c,cl.lookup y=aa c->X.env.cells.lookup y=aa c) (r:Ψ v u)
  (hn:O.Ns s.heap.objs.size λy=>[(x,u)].reverse.lookup y) (L:∀b o,s.heap.get? b=aa o->O.get? b=aa o):
  Φ (BC X (x::fs) q sc cl s.heap.objs.size f cd s H) [] (JW v fr σ) H {s with heap:=O,toks:=t' }:=by
 have ok:(BC X (x::fs) q sc cl s.heap.objs.size f cd s H).Ok:=by
  show⟨I.ok.mod,B.kind,rfl,rfl,bp _,λy z c O h2=>I.ok.inj y z c (K y c O) (K z c h2),λy a=>?_,(λy c h=>by cases h),λ_=>I.ok.hd hc,Zg (A:=X.A.in1.in1) I.ok.frames,.inr ⟨rfl,rfl⟩,(λb z=>by cases z),λb o e=>I.bs b o e,ig I.ok.FA I.sz,(λb o _ z=>by cases z),(λb z=>by cases z),I.stack,I.qO,I.tab⟩;have a:sc.names.lookup y=aa .cell\/sc.names.lookup y=aa .free:=a;rcases a with a|a
  .exact Zw rfl (B.OY _ (jy a))
  .have n:=jy a;obtain⟨c,e⟩:=I.ok.has y (B.free _ n rfl);show⟨c,(J _ n rfl).trans e⟩
 show⟨ok,rfl,I.bare,Un.kept L,⟨_,hn,λi y w e1 m e3=>?_⟩,λy c e=>?_,I.hok.fresh (bp _),λy c e=>I.d7 y c (K y c e),(λp hp=>by cases hp),I.hok.kept L,?_⟩
 .cases i with
  |zero =>
   have e1:x=y:=ee e1;have m:v=w:=ee (ee m);subst e1 m;show⟨u,r,.inl ⟨B.par,by simp⟩⟩
  |succ i =>
   have e1:fs[i]?=aa y:=e1;obtain⟨j,ej,eN,n,hlk⟩:=B.slot i y e1;have U:(σ[j]?).join=aa w:=by have m:(fr.map λj=>(σ[j]?).join)[i]?=aa (aa w):=m;rw[ft,ej] at m;show ee m
   have e5:σ[j]?=aa (aa w):=by
    cases q:σ[j]? with
    |none=>rw[q] at U;cases U
    |some o=>rw[q] at U;rw[show o=aa w from U]
   have F:=B.free _ n rfl;obtain⟨mm,_,hl⟩:=I.loc;obtain⟨z,rz,l⟩:=hl j y w eN e5 (.inr F);show⟨z,rz,?_⟩;rcases l with⟨k1,_⟩|⟨k1,c,ec,zc⟩
   .rcases F with Y|Y<;>rw[k1] at Y<;>cases Y
   .obtain ⟨Z,d,hd⟩:=zc;show .inr ⟨.inr hlk,c,(J _ n rfl).trans ec,Z,L _ _ d,hd⟩
 .obtain ⟨w,Z,d,hd⟩:=I.cell y c (K y c e);show⟨w,Z,L _ _ d,hd⟩
 .show (JW v fr σ).length=(x::fs).length;unfold JW;rw[fj,bo,B.yG,fj]
def pT(H:Hp)(c:ah)(q:aj):Prop:=∃a vs t,H c=aa (xQ a)/\a.data=.fields vs/\vs[1]?=aa (.str q t)
def pT.rec(x:pT H c q)(ok:kN P w H h):h.CodeRec (.ref c) q:=by obtain⟨a,vs,t,e,d,v⟩:=x;show⟨c,a,vs,t,rfl,(ok c _ e).1,d,v⟩
def pT.same(x:pT H c q)(a:ξ H H'):pT H' c q:=by obtain⟨h,vs,t,e,d,v⟩:=x;show⟨h,vs,t,a _ _ e,d,v⟩
theorem UE(hc:X.calm=ae)(B:GJ X x fs fr sc)(a:X.A.depth<recursionLimit)
  (m:∀y∈sc.names,y.2=.free->cl.lookup y.1=X.env.cells.lookup y.1) (F:∀y c,cl.lookup y=aa c->X.env.cells.lookup y=aa c)
  (hb:∀u,bindArgs (xh "<lambda>" q params body sc cl pm (.ref c) ct) ⟨[u],[]⟩=pure [(x,u)]) (Z:∀L s H,PE (BC X (x::fs) q sc cl L f (.ref c) s H) body te):
  UC X σ [(f,xf "<lambda>" q params body sc cl pm c ct)] (.ref f) (λv H Q=>pT H c q/\te (JW v fr σ) H Q):=by
 intro π s H v u Q I U r ⟨cq,O⟩;have ef:=(I.pin _ (gm _ (U _ de))).1;show tq (kla_callFunE (fd:=xh "<lambda>" q params body sc cl pm (.ref c) ct) a ef rfl B.co B.gen rfl (cq.rec I.hok) ?_);rw[hb u];show az (wpAny_newFunctionEnv B.OY (λy K=>?_) (λh1 l d=>⟨I.nolimit.fresh _ d,?_⟩) B.kind)
 .rw [cg.1 K];show B.par
 .have Y:∀b o,s.heap.get? b=aa o->h1.get? b=aa o:=λb o e=>d.extBut b o (fq (bz e)) (cx _ e);have J:=UD (q:=q) (f:=f) (cd:=.ref c) (t':=s.toks+1) hc B I m F r l Y;show kla_codeExpr ?_;show gp (Z s.heap.objs.size s H [] _ (JW v fr σ) H Q J O) (λw s' h=>?_) λ_ _ z=>z.elim;obtain⟨y,H',j,n,p⟩:=h;show⟨y,H',I.call' (s':=s') (ch:=[]) j.os j.ω j.hok j.bare (λb z=>by cases z),n,p⟩
theorem tJ{m p2:bq}{c j:ai}:∀(l:Q0f),TriplesOk l->codeAmong p2 (l++[rawInt m.line,rawInt m.col,c])=aa j->codeAmong p2 l=aa j\/j=c
 |[],_,h=>by
  simp only[pf,codeAmong,rawInt] at h;split at h
  .exact .inr (ee h).symm
  .cases h
 |.int a t::.int b u::d::r,hT,h=>by
  simp only[zd,codeAmong] at h ⊢;split at h
  .rename_i hp;rw[Z_ hp];show .inl h
  .rename_i hn;rw[Zz hn];show tJ r hT h
theorem OZ(I:Φ X π σ H s)(hx:(x0,c,P)∈cM X.K)(hq:X.env.qual++"<lambda>"=jQ x0)
  (j:X.env.code=.ref c) (B:GJ X x fs fr sc) (hdef:defaultsOf params X.env=([],[]))
  (h:∀(f a:ah) (ct:ai) (O:List (aj×ah)) (H':Hp) (s':ak),ξ H H'->pT H' a (jQ x0)->(∀y∈sc.names,y.2=.free->O.lookup y.1=X.env.cells.lookup y.1)->(∀y c,O.lookup y=aa c->X.env.cells.lookup y=aa c) ->
   Φ X (π++[(f,xf "<lambda>" (jQ x0) params body sc O ((X.mg "__name__").getD .none) a ct)]) σ H' s'->Q (.ref f) s'):
  ax (au X.Ω X.w) X.A (eval (.Lambda params body sc ν) X.env) Q E s:=by
 obtain⟨hC,hP⟩:=I.tab _ hx;dsimp only at hC hP;obtain⟨ps,eP,hT,hA⟩:=I.hok P _ hP;have C:=hC.keeps I.bk;obtain⟨bm,ob,b1,b2,b3,b4,b5,b6⟩:=I.mod.bm;have F:=I.mod.glob.keeps I.bk;have hgP:gu≠P:=λz=>by obtain⟨o,es,ep,eo,U,_⟩:=F;rw[z,eP] at eo;cases eo;cases U
 have l:=I.bk _ _ b3;have J:bm≠P:=λz=>by rw[z,eP] at l;cases l;cases b4
 have hbG:bm≠gu:=λz=>by obtain⟨o,es,ep,eo,U,_⟩:=F;rw[z,eo] at l;cases l;rw[U] at b6;cases b6
 have zp:s.heap.BuiltinsAt X.mg P:=⟨bm,ob,b1,b2,hbG,J,l,b4,b5,b6⟩;obtain⟨O,ecl,hcl,iF⟩:=sP (scope:=sc) (env:=X.env) λy hy hf=>I.ok.has _ (B.free y hy hf);show kla_eval hdef ?_;rw[hq]
 -- behind the making: the function object is laid and pinned
 have fin:∀(a:ah) (ct:ai) (H':Hp) (h':ba) (p:ir),ξ H H'->pT H' a (jQ x0)->Φ X π σ H' {s with heap:=h',toks:=p} ->
   Q (.ref h'.objs.size) {s with heap:=h'.push (xf "<lambda>" (jQ x0) params body sc O ((X.mg "__name__").getD .none) a ct),toks:=p}:=λa ct H' h' p m cq I'=>by
  have I2:=I'.kept (t':=p) (h':=h'.push (xf "<lambda>" (jQ x0) params body sc O ((X.mg "__name__").getD .none) a ct)) λb u e=>cx _ e;show h _ a ct O H' _ m cq hcl iF (qT I2 (D0 I' (bp _)) (I'.hok.fresh (bp _)) (fw _ rfl) (λv z=>by cases z))
 cases hf:codeAmong ν ps.toList with
 |some cv =>
  obtain⟨a,L,vs,t,rfl,e1,e2,e3⟩:=hA ν cv hf;show kla_makeFunctionHit (mg:=X.mg) ecl I.ok.glob F j C eP hT hf zp λct h' p hk hsz=>?_;show fin a ct H h' p (λ_ _ e=>e) ⟨L,vs,t,e1,e2,e3⟩ (I.kept hk)
 |none =>
  show kla_makeFunction (mg:=X.mg) ecl I.ok.glob F j C eP hT hf hgP zp λa ct h' p hX hge hlt Z Y=>?_;obtain⟨c2,L,vs,t,e2,hoc,U,hv⟩:=Z;cases e2;have hfr:H a=af:=I.hok.fresh hge;have nC:∀{b:ah} {o:HO},H b=aa o->b≠a:=λe=>aP e hfr;have nP:∀{b:ah},H b=af->b≠P:=λe z=>by rw[z,hP] at e;cases e
  have m:ξ H (upd H a (xQ L)):=λb o e=>by rw[aL (nC e)];show e
  show fin a ct (upd H a (xQ L)) h' p m ⟨L,vs,t,aI,U,hv⟩ (I.un (t':=p) ⟨λb o e n _ _=>hX b o (nP n) e,λb o e n _ _=>⟨o.slots,hX b o (nP n) e⟩,λb o e n _=>?_,λb o e _=>?_,λb xs e=>m _ _ e,λb o u e=>m _ _ e,λb q e=>m _ _ e⟩ λb u e=>?_)
  .rw [aL (fq (gi (bz e) hge))];show n
  .by_cases hb:b=P
   .exact ⟨_,hb▸Y⟩
   .exact ⟨o,hX b o hb e⟩
  .by_cases hb:b=a
   .subst hb;rw[aI] at e;cases e;show⟨hoc,trivial,⟨L,hoc⟩,λ_ _ _ _=>trivial⟩
   .rw [aL hb] at e;by_cases J:b=P
    .subst J;rw[hP] at e;cases e;show⟨_,Y,?_,λp2 cv e=>?_⟩
     .rw [qc];show TriplesOk_snoc _ _ _ _ hT
     .rw [qc] at e;rcases tJ _ hT e with z|z
      .obtain ⟨c3,oc3,vs3,t3,y1,y2,y3⟩:=hA p2 cv z;show⟨c3,oc3,vs3,t3,y1,m _ _ y2,y3⟩
      .exact ⟨a,L,vs,t,z,aI,U,hv⟩
    .refine (I.hok b u e).stay (λd w hc q=>hX d w ?_ q) (λd q=>m _ _ q) (λd xs q=>m _ _ q) λd o u q=>m _ _ q;rcases hc with z|z
     .rw [z];show J
     .intro y;rw[y,hP] at z;cases z
def track(I:Φ X (π++[(b,o)]) σ H s)(f:Fp X π b)(new:bZ X.Ω X.w (upd H b u) s.heap b u):Φ X π σ (upd H b u) s:=by
 obtain⟨x,y,v,p,l⟩:=f;have h:=(iZ I).2;have J:=I.fL;have a:∀{d:ah} {w:HO},H d=aa w->upd H b u d=aa w:=λ{d w} e=>by rw[aL (aP e h)];show e
 have q:=J.step (s:=s) (H':=upd H b u) (h':=s.heap) (g':=s.gens) (t':=s.toks) (d':=s.drawn) (ch:=[b]) (λd c=>?_) (λd w _ _ _ e _=>e) (λd w _ _ _ e _=>⟨w.slots,e⟩) (λd w c e n=>?_) (λd w _ e=>⟨w,e⟩) (λd xs e=>a e) (λd o u e=>a e) (λd q e=>a e) (λm j=>j) (λd w e=>?_) J.bare
 .exact q
 .rw [cg.1 c];show⟨v,x,p,l⟩
 .rw [aL λz=>c (cg.2 z)];show n
 .by_cases c:d=b
  .subst c;rw[aI] at e;cases e;show new
  .rw [aL c] at e;show(J.hok d w e).stay (λ_ _ _ q=>q) (λ_ q=>a q) (λ_ _ q=>a q) λ_ _ _ q=>a q
theorem Uu{K:ao}{S:ah->Prop}{H H':Hp}{ρ:bK}{σ:L2.St}{fr:List Nat}{d:D}{v:V}(h:Sl K S H ρ σ)(c:ξ H H')(p:Dn K S H' d v):Sl K S H' ((benv 1 fr ρ).set 0 (aa d)) (JW v fr σ):=by
 intro i e a
 cases i with
 |zero=>cases a;show⟨v,rfl,p⟩
 |succ i =>
  have a:(fr.map λj=>(ρ[j]?).join)[i]?=aa (aa e):=a;rw[ft] at a
  cases ej:fr[i]? with
  |none=>rw[ej] at a;cases a
  |some j =>
   rw[ej] at a;have a:(ρ[j]?).join=aa e:=ee a;have m:ρ[j]?=aa (aa e):=by
    cases q:ρ[j]? with
    |none=>rw[q] at a;cases a
    |some o=>rw[q] at a;rw[show o=aa e from a]
   obtain⟨w,l,n⟩:=h j e m;show⟨w,?_,Dn.fits (Fits.same c) e w n⟩;show(fr.map λj=>(σ[j]?).join)[i]?=aa (aa w);rw[ft,ej,rf,l];rfl
end
def UG(Γ:List (aj×jb))(sc:fu)(N:Q0g)(x:aj)(fs:Q0g)(fr:List Nat):Bool :=
 (sc.kind == .function) && !sc.isCoroutine && !sc.isGenerator&&Zv (sc.names.lookup x=aa .local)&&sc.names.all (λy=>Zv (y.2≠.cell)) &&
 sc.names.all (λy=>Zv (y.2=.free->(Γ.lookup y.1=aa .cell\/Γ.lookup y.1=aa .free)))&&Zv (fr.length=fs.length) &&
 (fs.zip fr).all (λy=>Zv (N[y.2]?=aa y.1)&&sc.names.contains (y.1,ji)&&Zv (sc.names.lookup y.1=aa .free))
def GK(h:UG X.env.scope.names sc X.N x fs fr=ae):GJ X x fs fr sc:=by
 unfold UG at h;simp only[jf,js,decide_eq_true_eq,vk] at h;obtain⟨⟨⟨⟨⟨⟨⟨q,h2⟩,p⟩,o⟩,n⟩,m⟩,l⟩,j⟩:=h;show⟨eq_of_beq q,h2,p,o,n,m,λk y e=>?_,l⟩;have u:k<fs.length:=(dh.mp e).1;have d:(y,fr[k]'∅)∈fs.zip fr:=by
  have:(fs.zip fr)[k]?=aa (y,fr[k]'∅):=by rw[a0R];show⟨e,by simp⟩
  show pj this
 obtain⟨⟨a,b⟩,c⟩:=j _ d;show⟨fr[k]'∅,by simp,a,by simpa using b,c⟩
def O0{K:ao}{x0:aj}{f c n:ah}{j:ai}{h:Option ah}{fd:gc}{d:Array (Option ai)}(l:nsIn K gu x0=aa (aa (.ref f)))(m:K.lookup f=aa ⟨j,h,.func fd,d⟩)(a:tabIn K x0=aa (c,n)):fd.code=.ref c:=by
 unfold tabIn at a;rw[l] at a;dsimp only at a;rw[m] at a;dsimp only at a;split at a
 .rename_i c2 hc;split at a
  .split at a
   .cases a;show hc
   .cases a
  .cases a
 .cases a
def Ut{K:ao}{x0:aj}{c a:ah}(d:x0∈zZ)(h:tabIn K x0=aa (c,a)):(x0,c,a)∈cM K:=pk.2 ⟨x0,d,by rw[h];rfl⟩
theorem Pd{P:bg}{w:a_}{K:ao}{mg:Q0d}{ω:ba}{x qual:aj}{st:cn}{f c Pt:ah}{fd:gc}{N j:Q0g}{k n u:Nat}{b:SF}(F:MO K x qual st f fd)(U:nsIn K gu x=aa (aa (.ref f)))(X:tabIn K x=aa (c,Pt))(S:cH N j (aF st))(Z:N.length=n)(I:j.length=u)
  (a:∀(A:br) (Γ:List df) (s:ak) (H:Hp) (E:XK),cZ k (A.deeper (envOfC qual (aF st) s.heap.objs.size f (.ref c))) ->
   fU (eQ gI P w K mg ω N qual (aF st) f (.ref c) A Γ s H E).CN (bV st) b):hJ P w K mg ω gI (k+1) f fd j (BS K (bM n u b)):=by
 subst Z I;obtain⟨oc,od,kV,doc,pm,an,p,ct,O,rfl,y,o⟩:=F.ex;have ec:p=.ref c:=O0 U y X;subst ec;show MD y o S (λvs H Q E h=>?_) λA Γ s H vs Q E Y h=>?_
 .obtain ⟨S',ds,Q3,J,dn,⟨d,e,q⟩,_⟩:=h;rw[<- dn.len];unfold bM at e;by_cases h:ds.length=j.length
  .exact h
  .rw [Zz h] at e;cases e
 .obtain ⟨S',ds,Q3,J,dn,⟨d,e,q⟩,z⟩:=h;have l:=a A Γ s H E Y;unfold bM at e;by_cases h:ds.length=j.length
  case neg=>rw[Zz h] at e;cases e
  rw[Z_ h] at e;show⟨_,L2.tS.CN l,H,S',λ_=>0,eX N ds,[],{nx:=λ_=>Q3 .non,rt:=Q3},?_,m8 J dn,?_,⟨λw' L H' ρ' _ m q=>?_,λv H' d s' d' q=>z v H' d s' d' q,λ_ _ _ _ _ _ q=>q,λ_ _ _ _ _ _ q=>q,λ_ _ _ q=>q.elim⟩⟩
  .have hl2:=dn.len;have I:j.length<=N.length:=by have:=congrArg pz S.pre;rw[ij] at this;lia
   unfold L2.start;show _=N.length;rw[dm,bo,je];lia
  .have e2:eX N ds=bL N.length ds:=rfl;unfold wS;rw[e2]
   cases l:b (bL N.length ds) with
   |rt d'=>rw[l] at e;cases e;show q
   |nx ρ=>rw[l] at e;cases e;show q
   |no=>rw[l] at e;cases e
   |ex c=>rw[l] at e;cases e
  .exact z .non H' .non m.sm (by symm) q
theorem UH:∀(us:Q0f),us.length=1 ->∃a,us=[a]
 |[a],_=>⟨a,rfl⟩
theorem UI:∀(us:Q0f),us.length=2 ->∃c a,us=[c,a]
 |[c,a],_=>⟨c,a,rfl⟩
theorem UJ:∀(us:Q0f),us.length=3 ->∃d c a,us=[d,c,a]
 |[d,c,a],_=>⟨d,c,a,rfl⟩
theorem UK:∀(us:Q0f),us.length=4 ->∃h d c a,us=[h,d,c,a]
 |[h,d,c,a],_=>⟨h,d,c,a,rfl⟩
theorem Gf{P:bg}{w:a_}{K:ao}{mg:Q0d}{ω:ba}{x:aj}{st:cn}{c v:ah}{N d:Q0g}{k n j:Nat}{b:SF}(D:Df K mg x st d)(l:tabIn K x=aa (c,v))
  (h:∀{f:ah} {A:br} {Γ:List df} {s:ak} {H:Hp} {E:XK},cZ k (A.deeper (envOfC x (aF st) s.heap.objs.size f (.ref c)))->N.Nodup->fU (eQ gI P w K mg ω N x (aF st) f (.ref c) A Γ s H E).CN (bV st) b)
  (S:cH N d (aF st):=by show⟨rfl,rfl,rfl,by decide+kernel,rfl,by decide+kernel,by decide+kernel⟩) (u:N.length=n:=by rfl) (p:d.length=j:=by rfl):Cl P w K mg ω gI (k+1) x d (BS K (bM n j b)):=by
 obtain⟨a,F,m,q⟩:=D;show⟨Pd F a l S u p λ_ _ _ _ _ o=>h o S.nd,m,F.kp,q⟩
def nK{K:ao}{x:aj}(h:nsIn K gu x=aa af):tabIn K x=af:=by unfold tabIn;rw[h]
theorem BD{K:ao}{x:aj}{f c j:ah}{n h:ai}{m d:Option ah}{fd:gc}{vs:Array ai}{l a:Array (Option ai)}(u:nsIn K gu x=aa (aa (.ref f)))(h2:K.lookup f=aa ⟨n,m,.func fd,l⟩)(q:fd.code=.ref c)
  (p:K.lookup c=aa ⟨h,d,.fields vs,a⟩) (o:vs[11]?=aa (.ref j)):tabIn K x=aa (c,j):=by
 unfold tabIn;rw[u];dsimp only;rw[h2];dsimp only;rw[q];dsimp only;rw[p];dsimp only;rw[o]
theorem JX{K:ao}{r1 h d c a:Option (ah×ah)}(n:tabIn K "going_of"=r1)(h2:tabIn K "count_of_chain"=h)(m:tabIn K "cut_paper"=d)(l:tabIn K "downsets"=c)(j:tabIn K "strictest_chains"=a):
  cM K=([("going_of",r1),("count_of_chain",h),("cut_paper",d),("downsets",c),("strictest_chains",a)]:List (aj×Option (ah×ah))).filterMap λp=>p.2.map λt=>(p.1,t.1,t.2):=by
 subst n h2 m l j;rfl
def tabs_ok{K:ao}{q:bg}{L:List (aj×ah×ah)}(h:cM K=L)(nd:(L.map (·.2.2)).Nodup)(rc:∀t∈L,∃e,(recsOf q).find? (λe=>e.name == t.1)=aa e):TabsOk K q:=⟨by rw[h];show nd,by rw[h];show rc⟩
section
variable{Ω:bg}{w:a_}{A:br}{E:Q0c}{s:ak}{z TI TO i1 i2:ah}{f1 f2:List ah}{n1 n2 k:Nat}{P1 P2:Nat->ai->Prop}{S1 S2:Nat->ba->Prop}{a b:ai}
structure Zap (z TI TO i1 i2:ah) (f1 f2:List ah):Prop where
 zO:z≠TO
 zI:z≠TI
 OI:TO≠TI
 m1:i1∈f1
 m2:i2∈f2
 z1:z∉f1
 z2:z∉f2
 o1:TO∉f1
 o2:TO∉f2
 c1:i1∉f2
 c2:i2∉f1
 I1:TI≠i1
 I2:TI≠i2
def Zap.q2(p:Zap z TI TO i1 i2 f1 f2):z≠i2:=λe=>p.z2 (e▸p.m2)
def Zap.p1(p:Zap z TI TO i1 i2 f1 f2):TO≠i1:=λe=>p.o1 (e▸p.m1)
end
open PySem.SeqAt
end L4
namespace L9
open PySem.SeqAt PySem.Spec PyProof.Rows L2 L3 L4 L5
open MeetsSeq3 MeetsSeq2 MeetsSeq
open AutoSeq1 (wpAny_loadPart')  -- objects read
def zz(A:br)(s:ak)(x y:ai)(r:Bool):Prop :=
 ∀(Ω:bg) (w:a_) (E:Q0c) (Q:Q0c),Q (.bool r) s->ax (au Ω w) A (richCompare .Lt x y) Q E s
section
variable{X:Cx}
def Ge{K:ao}{S:ah->Prop}{H:Hp}{a b:D}{xs:List V}(h:aH K S H [a,b] xs):∃u w,xs=[u,w]/\Dn K S H a u/\Dn K S H b w:=by simp only[aH] at h;obtain⟨u,r,rfl,c,w,d,rfl,h2,rfl⟩:=h;show⟨u,w,rfl,c,h2⟩
end
end L9
namespace L9
open PySem.SeqAt PySem.Spec PyProof.Rows L2 L3 L4 L5 PySem.W HS
section
variable{X:Cx}
def map_getD{α:Type}(xs:List α)(z:α):(cm xs.length).map (λi=>xs.getD i z)=xs:=by
 show sd λi=>?_;rw[ft];by_cases h:i<xs.length
 .rw [vd h];simp[h]
 .rw [lp (by simpa using h),lp (by simpa using h)];rfl
end
end L9
namespace L4
open PySem.SeqAt PySem.Spec PyProof.Rows L2 L3
open PySem.W
abbrev dG(a:kh)(it:Array d_)(p:Array Nat)(q:Array (Nat×Nat×Nat))(g:Nat):dg:=mj a (p.map (bt it)) q g af
def Asks(Ω:bg)(w:a_)(A:br)(s:ak)(a:kh)(it:Array d_)(n:Nat)(lt:Nat->Nat->Bool):Prop :=
 ∀(i j:Nat) (C:Bool->ak->Prop),i<n->j<n->C (lt i j) s->kas_cmp Ω w A a it i j C s
def qU:Bool->d_->Array d_->Nat->Nat->Nat->StateT dg gb (Option Nat):=sortPriv% PySem.Builtin.gallop
section
variable{Ω:bg}{w:a_}{A:br}{E:Q0c}{s:ak}{κ:kh}{it:Array d_}{n:Nat}{lt:Nat->Nat->Bool}
theorem BE(m:Asks Ω w A s κ it n lt)(d:i<n)(a:j<n)(h:Q (aa (lt i j)) (dG κ it p q g)):
  wpS (au Ω w) A E s (lt' (bt it i) (bt it j)) Q (dG κ it p q g):=by
 rw[lt'_eq];show bh (k_ ?_);show bh (oy (qp (gp (m i j (λc s'=>c=lt i j/\s'=s) d a ⟨rfl,rfl⟩) (λc s' l=>?_) λ_ _ z=>z.elim)));obtain⟨rfl,rfl⟩:=l;show⟨rfl,bu h⟩
def dP{a:Array Nat}{i:Nat}{st:dg}{Q:d_->dg->Prop}(c:i<a.size)(h:Q (bt it (a.getD i 0)) st):wpS (au Ω w) A E s (elem' (a.map (bt it)) i) Q st:=by
 rw[elem'_eq];have e:(a.map (bt it))[i]?=aa (bt it (a.getD i 0)):=by simp[ke,c]
 rw[e];show bu h
theorem wL{left:Bool}{key:Nat}{arr:Array Nat}{ω cnt hint:Nat}{p:Array Nat}{q:Array (Nat×Nat×Nat)}{g:Nat}{Q:Option Nat->dg->Prop}(Z:Asks Ω w A s κ it n lt)(Y:key<n)(y:ω+cnt<=arr.size)(X:∀i,i<arr.size->arr.getD i 0<n)(hh:hint<cnt)
  (B:Nat->Bool) (hB:∀i,i<cnt->B i=if left=ae then lt (arr.getD (ω+i) 0) key else !lt key (arr.getD (ω+i) 0)) (mono:∀i j,i<=j->j<cnt->B j=ae->B i=ae)
  (h:∀k,k<=cnt->(∀i,i<k->B i=ae)->(∀i,k<=i->i<cnt->B i=ag)->Q (aa k) (dG κ it p q g)):
  wpS (au Ω w) A E s (qU left (bt it key) (arr.map (bt it)) ω cnt hint) Q (dG κ it p q g):=by
 have ask:∀(i:Nat) (R:Option Bool->dg->Prop),i<cnt->R (aa (B i)) (dG κ it p q g)->wpS (au Ω w) A E s (do
   let x <- elem' (arr.map (bt it)) (ω+i)
   if left then lt' x (bt it key) else return (<- lt' (bt it key) x).map (!·)) R (dG κ it p q g):=λi R v K=>by
  show bh (dP ∅ ?_);rw[hB i v] at K
  cases left with
  |true=>show BE Z (X _ ∅) Y K
  |false=>show bh (BE Z Y (X _ ∅) (bu K))
 have fin:∀lo v:Nat,lo<=v->v<=cnt->(∀i,i<lo->B i=ae)->(∀i,v<=i->i<cnt->B i=ag) ->∀R:Option (Option Nat)×Nat×Nat->dg->Prop,(∀l k,k<=cnt->(∀i,i<k->B i=ae)->(∀i,k<=i->i<cnt->B i=ag)->R (af,l,k) (dG κ it p q g))->wpS (au Ω w) A E s (forIn [0:cnt] ((af,lo,v):Option (Option Nat)×Nat×Nat) λ_ c=>if c.2.1 >= c.2.2 then pure (.done (af,c.2.1,c.2.2)) else do
   let x <- (do
    let x <- elem' (arr.map (bt it)) (ω+(c.2.1+(c.2.2-c.2.1)/2))
    if left then lt' x (bt it key) else return (<- lt' (bt it key) x).map (!·):StateT dg gb (Option Bool))
   match x with
   |some m=>if m=ae then pure (.yield (af,c.2.1+(c.2.2-c.2.1)/2+1,c.2.2)) else pure (.yield (af,c.2.1,c.2.1+(c.2.2-c.2.1)/2))
   |_=>pure (.done (aa af,c.2.1,c.2.2))) R (dG κ it p q g):=λlo v L h2 h3 h4 R K=>by
  show iw (I:=λx c st=>st=dG κ it p q g /\∃l k,c=(af,l,k)/\l<=k/\k<=cnt/\k-l<=cnt-x/\(∀i,i<l->B i=ae)/\(∀i,k<=i->i<cnt->B i=ag)) ?_ ?_ ⟨rfl,lo,v,rfl,L,h2,by lia,h3,h4⟩
  .rintro x c st _ U ⟨rfl,l,k,rfl,O,d,u,a,J⟩;dsimp only;by_cases F:l >= k
   .rw [Z_ F];show bu (K l k d (λi v=>a i ∅) J)
   .rw [Zz F];show bh (ask _ _ ∅ ?_)
    cases y:B (l+(k-l)/2) with
    |true =>
     show bu ⟨rfl,_,_,rfl,by lia,d,by lia,λi v=>?_,J⟩;show mono i _ ∅ ∅ y
    |false =>
     show bu ⟨rfl,_,_,rfl,by lia,by lia,by lia,a,λi L h2=>?_⟩
     cases hb2:B i with
     |false=>rfl
     |true=>rw[mono _ i L h2 hb2] at y;cases y
  .rintro c st ⟨rfl,l,k,rfl,O,d,u,a,J⟩;show K l k d (λi v=>a i ∅) J
 unfold qU;show bh (ask hint _ hh ?_)
 cases hr:B hint with
 |true =>
  show bh (jj (iw (I:=λx c st=>st=dG κ it p q g /\∃l o,c=(af,l,o)/\x<o/\l<o/\hint+l<cnt/\B (hint+l)=ae) (Q:=λc st=>st=dG κ it p q g /\∃l o,c=(af,l,o)/\l<o/\hint+l<cnt/\B (hint+l)=ae/\(o<cnt-hint->B (hint+o)=ag)) ?_ ?_ ⟨rfl,0,1,rfl,by lia,by lia,by lia,hr⟩) ?_)
  .rintro x c st _ U ⟨rfl,l,o,rfl,O,d,u,a⟩;dsimp only;by_cases F:o >= cnt-hint
   .rw [Z_ F];show bu ⟨rfl,l,o,rfl,d,u,a,λz=>by lia⟩
   .rw [Zz F];show bh (ask _ _ ∅ ?_)
    cases y:B (hint+o) with
    |true=>show bu ⟨rfl,_,_,rfl,by lia,by lia,by lia,y⟩
    |false=>show bu ⟨rfl,l,o,rfl,d,u,a,λ_=>y⟩
  .rintro c st ⟨rfl,l,o,rfl,O,d,u,a⟩;show⟨rfl,l,o,rfl,d,u,a,λz=>by lia⟩
  .rintro c st ⟨rfl,l,o,rfl,d,u,a,J⟩;dsimp only;show bh (fin _ _ ∅ ∅ (λi v=>mono i (hint+l) ∅ u a) (λi L h2=>?_) _ λl k k1 k2 k3=>bu (h k k1 k2 k3))
   cases hb2:B i with
   |false=>rfl
   |true =>
    have:=J ∅;rw[mono _ i ∅ h2 hb2] at this;cases this
 |false =>
  show bh (jj (iw (I:=λx c st=>st=dG κ it p q g /\∃l o,c=(af,l,o)/\x<o/\l<o/\l<=hint/\B (hint-l)=ag) (Q:=λc st=>st=dG κ it p q g /\∃l o,c=(af,l,o)/\l<o/\l<=hint/\B (hint-l)=ag/\(o<hint+1->B (hint-o)=ae)) ?_ ?_ ⟨rfl,0,1,rfl,by lia,by lia,by lia,hr⟩) ?_)
  .rintro x c st _ U ⟨rfl,l,o,rfl,O,d,u,a⟩;dsimp only;by_cases F:o >= hint+1
   .rw [Z_ F];show bu ⟨rfl,l,o,rfl,d,u,a,λz=>by lia⟩
   .rw [Zz F];show bh (ask _ _ ∅ ?_)
    cases y:B (hint-o) with
    |true=>show bu ⟨rfl,l,o,rfl,d,u,a,λ_=>y⟩
    |false=>show bu ⟨rfl,_,_,rfl,by lia,by lia,by lia,y⟩
  .rintro c st ⟨rfl,l,o,rfl,O,d,u,a⟩;show⟨rfl,l,o,rfl,d,u,a,λz=>by lia⟩
  .rintro c st ⟨rfl,l,o,rfl,d,u,a,J⟩;dsimp only;show bh (fin _ _ ∅ ∅ (λi v=>mono i (hint-o) ∅ ∅ (J ∅)) (λi L h2=>?_) _ λl k k1 k2 k3=>bu (h k k1 k2 k3))
   cases hb2:B i with
   |false=>rfl
   |true =>
    rw[mono _ i L h2 hb2] at a;cases a
end
def BF:Array d_->Array d_->StateT dg gb (Array d_):=sortPriv% PySem.Builtin.mergeLo
def BG:Array d_->Array d_->StateT dg gb (Array d_):=sortPriv% PySem.Builtin.mergeHi
section
variable{lt:Nat->Nat->Bool}{all out xs ys u v:List Nat}
abbrev UpL(lt:Nat->Nat->Bool)(l:List Nat):Prop:=l.Pairwise λa b=>lt b a=ag
structure Mg (lt:Nat->Nat->Bool) (all out xs ys:List Nat):Prop where
 pm:(out++(xs++ys)).Perm all
 ux:UpL lt (out++xs)
 uy:UpL lt (out++ys)
def Mg.swap(h:Mg lt all out xs ys):Mg lt all out ys xs:=⟨((List.perm_append_comm).append_left out).trans h.pm,h.uy,h.ux⟩
def Mg.mv(h:Mg lt all out (u++v) ys)(m:∀a∈u,∀b∈ys,lt b a=ag):Mg lt all (out++u) v ys:=by
 obtain⟨pm,d,l⟩:=h;have e:=Ek out u v;show⟨by simpa using pm,by rw[e];show d,?_⟩;rw[<- e] at d;have a:=Ea.1 l;show Ea.2 ⟨(Ea.1 d).1,a.2.1,λx c y j=>?_⟩;rcases gn.1 c with c|c
 .exact a.2.2 x c y j
 .exact m x c y j
end
def tK:UpL lt a.toList↔Up lt a a.size:=by
 unfold UpL Up;rw[u_];show⟨λh i j c d=>?_,λh i j l d c=>?_⟩
 .have:=h i j (by simp;lia) (by simpa using d) c;simpa[ke,d,yq c d] using this
 .have d:j<a.size:=by simpa using d
  have:=h i j c d;simpa[ke,d,yq c d] using this
def qV{a:Array Nat}{i x:Nat}(h:x∈a.toList.drop i):∃j,i<=j/\j<a.size/\x=a.getD j 0:=by obtain⟨k,c,e⟩:=p0 h;rw[km,gz] at c;show⟨i+k,by lia,by lia,?_⟩;rw[<- e,Ee];simp[ke,show i+k<a.size by lia]
def UL{a:Array Nat}{i x:Nat}(h:x∈a.toList.take i):∃j,j<i/\j<a.size/\x=a.getD j 0:=by obtain⟨k,c,e⟩:=p0 h;rw[ij,gz] at c;show⟨k,by lia,by lia,?_⟩;rw[<- e,Ed];simp[ke,show k<a.size by lia]
def O1{a:Array Nat}{j:Nat}(h:j<a.size):a.getD j 0∈a.toList:=by simp[ke,h]
def Mk(lt:Nat->Nat->Bool)(it:Array d_)(all:List Nat)(a b:Array Nat)(c:Nat)(out:Array d_)(i j:Nat):Prop :=
 ∃o:Array Nat,out=o.map (bt it)/\Mg lt all o.toList (a.toList.drop i) (b.toList.drop j)/\c<=o.size
def Res(lt:Nat->Nat->Bool)(it:Array d_)(all:List Nat)(r:Array d_):Prop:=∃m:Array Nat,r=m.map (bt it)/\m.toList.Perm all/\UpL lt m.toList
section
variable{lt:Nat->Nat->Bool}{it:Array d_}{all:List Nat}{a b:Array Nat}{c i j k:Nat}{out:Array d_}
def Mk.swap(h:Mk lt it all a b c out i j):Mk lt it all b a c out j i:=by obtain⟨o,e,m,d⟩:=h;show⟨o,e,m.swap,d⟩
def Mk.few(h:Mk lt it all a b c out i j)(l:d<=c):Mk lt it all a b d out i j:=by obtain⟨o,e,m,n⟩:=h;show⟨o,e,m,by lia⟩
def Mk.size(h:Mk lt it all a b c out i j):c+(a.size-i)+(b.size-j)<=all.length:=by obtain⟨o,e,m,d⟩:=h;have:=m.pm.length_eq;simp only[dm,km,gz] at this;lia
theorem Mk.mv(h:Mk lt it all a b c out i j)(F:i+k<=a.size)(u:∀x y,i<=x->x<i+k->j<=y->y<b.size->lt (b.getD y 0) (a.getD x 0)=ag):
  Mk lt it all a b (c+k) (out++(a.map (bt it)).extract i (i+k)) (i+k) j:=by
 obtain⟨o,e,m,I⟩:=h;have z:a.toList.drop i=(a.extract i (i+k)).toList++a.toList.drop (i+k):=by rw[vn,vf,a0D,<- List.drop_drop,Dr]
 rw[z] at m;show⟨o++a.extract i (i+k),by rw[e,zf,si],?_,?_⟩
 .rw [qc];show m.mv λx d y p=>?_;obtain⟨A,n,l,rfl⟩:=qV p;rw[vn,vf,a0D] at d;obtain⟨q,v,e⟩:=p0 d;rw[ij,km,gz] at v;have:x=a.getD (i+q) 0:=by rw[<- e,Ed,Ee];simp[ke,show i+q<a.size by lia]
  rw[this];show u _ _ ∅ ∅ n l
 .simp [Ex];lia
def Mk.push(h:Mk lt it all a b c out i j)(d:i<a.size)(n:∀y,j<=y->y<b.size->lt (b.getD y 0) (a.getD i 0)=ag):Mk lt it all a b (c+1) (out.push (bt it (a.getD i 0))) (i+1) j:=by
 have:=h.mv (k:=1) ∅ λx y x1 o m l=>by rw[show x=i by lia];show n y m l
 have e:(a.map (bt it)).extract i (i+1)=#[bt it (a.getD i 0)]:=by rw[a1f ∅ (by simpa using d)];have e0:(a.map (bt it)).extract i i=#[]:=n_ (bp _);rw[e0];simp[ke,d]
 rwa [e] at this
def Mk.fin(h:Mk lt it all a b c out i j)(l:b.size<=j):Res lt it all (out++(a.map (bt it)).extract i a.size++(b.map (bt it)).extract j b.size):=by
 obtain⟨o,e,m,q⟩:=h;have p:b.toList.drop j=[]:=sg (by simpa using l);have n:(a.extract i a.size).toList=a.toList.drop i:=by rw[vn,vf,<- gz,<- km,uw]
 have d:(b.map (bt it)).extract j b.size=#[]:=by simp[l]
 show⟨o++a.extract i a.size,by rw[e,d,qf,zf,si],?_,?_⟩
 .have:=m.pm;rw[p,ip] at this
  rwa [qc,n]
 .rw [qc,n];show m.ux
def Mk.fin'(h:Mk lt it all a b c out i j)(d:a.size<=i):Res lt it all (out++(a.map (bt it)).extract i a.size++(b.map (bt it)).extract j b.size):=by have r:=h.swap.fin d;rw[show(a.map (bt it)).extract i a.size=#[] from n_ d,qf] at r ⊢;show r
def Mk.last(h:Mk lt it all a b c out i j)(p:i+1=a.size)(d:∀y∈b.toList,lt (a.getD (a.size-1) 0) y=ag):Res lt it all (out++(b.map (bt it)).extract j b.size++(a.map (bt it)).extract i a.size):=by
 by_cases o:j<=b.size
 .have:=h.swap.mv (k:=b.size-j) ∅ λx y x1 n m l=>by rw[show y=a.size-1 by lia];show d _ (O1 ∅)
  rw[show j+(b.size-j)=b.size by lia] at this;have r:=this.swap.fin (bp _)
  rwa [show(b.map (bt it)).extract b.size b.size=#[] from n_ (bp _),qf] at r
 .have r:=h.fin ∅;rw[show(b.map (bt it)).extract j b.size=#[] from n_ ∅,qf] at r ⊢;show r
variable{Ω:bg}{w:a_}{A:br}{E:Q0c}{s:ak}{κ:kh}{n:Nat}
def aQ{α:Type}{c:Prop}[Decidable c]{t e:StateT dg gb α}{Q:α->dg->Prop}{st:dg}{M:l_}(d:c->wpS M A E s t Q st)(h2:¬ c->wpS M A E s e Q st):wpS M A E s (if c then t else e) Q st:=by
 by_cases h:c
 .rw [Z_ h];show d h
 .rw [Zz h];show h2 h
def oX{α h d:Type}{F:h->d->StateT dg gb α}{P:h->d->Prop}{m:StateT dg gb α}{Q:α->dg->Prop}{st:dg}{M:l_}(l:∀x y,P x y->wpS M A E s (F x y) Q st)(h2:(∀x y,P x y->wpS M A E s (F x y) Q st)->wpS M A E s m Q st):wpS M A E s m Q st:=h2 l
theorem O5{key:Nat}{arr:Array Nat}{ω cnt hint:Nat}{p:Array Nat}{q:Array (Nat×Nat×Nat)}{g:Nat}{Q:Option Nat->dg->Prop}(x:Asks Ω w A s κ it n lt)(O:eJ lt)(m:key<n)(v:ω+cnt<=arr.size)(l:∀i,i<arr.size->arr.getD i 0<n)(u:hint<cnt)(up:∀i j,ω<=i->i<j->j<ω+cnt->lt (arr.getD j 0) (arr.getD i 0)=ag)
  (h:∀k,k<=cnt->(∀i,ω<=i->i<ω+k->lt key (arr.getD i 0)=ag)->(∀i,ω+k<=i->i<ω+cnt->lt key (arr.getD i 0)=ae)->Q (aa k) (dG κ it p q g)):
  wpS (au Ω w) A E s (qU ag (bt it key) (arr.map (bt it)) ω cnt hint) Q (dG κ it p q g):=by
 show wL x m v l u (λi=>!lt key (arr.getD (ω+i) 0)) (λ_ _=>rfl) (λi j o z d=>?_) λk k1 k2 k3=>h k k1 (λi y h2=>?_) λi y h2=>?_
 .by_cases e:i=j
  .rw [e];show d
  .have d:lt key (arr.getD (ω+j) 0)=ag:=by simpa using d
   have:=O.tr _ _ _ (up (ω+i) (ω+j) ∅ ∅ ∅) d;simpa using this
 .have:=k2 (i-ω) ∅;rw[show ω+(i-ω)=i by lia] at this;simpa using this
 .have:=k3 (i-ω) ∅ ∅;rw[show ω+(i-ω)=i by lia] at this;simpa using this
theorem O6{key:Nat}{arr:Array Nat}{ω cnt hint:Nat}{p:Array Nat}{q:Array (Nat×Nat×Nat)}{g:Nat}{Q:Option Nat->dg->Prop}(x:Asks Ω w A s κ it n lt)(O:eJ lt)(m:key<n)(v:ω+cnt<=arr.size)(l:∀i,i<arr.size->arr.getD i 0<n)(u:hint<cnt)(up:∀i j,ω<=i->i<j->j<ω+cnt->lt (arr.getD j 0) (arr.getD i 0)=ag)
  (h:∀k,k<=cnt->(∀i,ω<=i->i<ω+k->lt (arr.getD i 0) key=ae)->(∀i,ω+k<=i->i<ω+cnt->lt (arr.getD i 0) key=ag)->Q (aa k) (dG κ it p q g)):
  wpS (au Ω w) A E s (qU ae (bt it key) (arr.map (bt it)) ω cnt hint) Q (dG κ it p q g):=by
 show wL x m v l u (λi=>lt (arr.getD (ω+i) 0) key) (λ_ _=>rfl) (λi j o z d=>?_) λk k1 k2 k3=>h k k1 (λi y h2=>?_) λi y h2=>?_
 .by_cases e:i=j
  .rw [e];show d
  .cases hc:lt (arr.getD (ω+i) 0) key with
   |true=>rfl
   |false =>
    have:=O.tr _ _ _ hc (up (ω+i) (ω+j) ∅ ∅ ∅);rw[this] at d;cases d
 .have:=k2 (i-ω) ∅
  rwa [show ω+(i-ω)=i by lia] at this
 .have:=k3 (i-ω) ∅ ∅
  rwa [show ω+(i-ω)=i by lia] at this
theorem Pc{a b:Array Nat}{p:Array Nat}{q:Array (Nat×Nat×Nat)}{g:Nat}{Q:Array d_->dg->Prop}(hA:Asks Ω w A s κ it n lt)(O:eJ lt)(ha:1<=a.size)(hb:1<=b.size)(an:∀i,i<a.size->a.getD i 0<n)(bn:∀i,i<b.size->b.getD i 0<n)
  (ua:Up lt a a.size) (ub:Up lt b b.size) (h1:∀i,i<a.size->lt (a.getD i 0) (b.getD 0 0)=ag) (h2:∀y∈b.toList,lt (a.getD (a.size-1) 0) y=ag)
  (h:∀(r:Array d_) (g:Nat),Res lt it (a.toList++b.toList) r->Q r (dG κ it p q g)):
  wpS (au Ω w) A E s (BF (a.map (bt it)) (b.map (bt it))) Q (dG κ it p q g):=by
 obtain⟨all,X⟩:∃l,l=a.toList++b.toList:=⟨_,rfl⟩;have tot:all.length=a.size+b.size:=by rw[X];simp
 rw[<- X] at h;have M0:Mk lt it all a b 0 #[] 0 0:=⟨#[],by simp,⟨by rw[X];simp,by simpa using tK.2 ua,by simpa using tK.2 ub⟩,by simp⟩;have M1:=(M0.swap.push ∅ λy _ hy=>h1 y hy).swap;rw[o_] at M1;have b0:#[].push (bt it (b.getD 0 0))=#[bt it (b.getD 0 0)]:=rfl;rw[b0] at M1
 -- whose turn it is
 have bw:∀{i j:Nat},j<b.size->lt (b.getD j 0) (a.getD i 0)=ae ->∀y,i<=y->y<a.size->lt (a.getD y 0) (b.getD j 0)=ag:=λ{i j} o Z y y1 y2=>by
  by_cases e:y=i
  .rw [e];show O.as _ _ Z
  .exact O.tr _ _ _ (O.as _ _ Z) (ua i y ∅ y2)
 have aw:∀{i j:Nat},i<a.size->lt (b.getD j 0) (a.getD i 0)=ag ->∀y,j<=y->y<b.size->lt (b.getD y 0) (a.getD i 0)=ag:=λ{i j} J Z y y1 y2=>by
  by_cases e:y=j
  .rw [e];show Z
  .exact O.tr _ _ _ Z (ub j y ∅ y2)
 unfold BF;show bh (oy (i_ ⟨rfl,?_⟩));show bh (dP ∅ ?_);simp -zeta -zetaHave only[Ew,beq_iff_eq]
 extract_lets out ia ib
 by_cases e1:1=b.size
 .rw [Z_ e1];show bu (h _ g (M1.fin ∅))
 rw[Zz e1];by_cases e2:0+1=a.size
 .rw [Z_ e2];show bu (h _ g (M1.last e2 h2))
 rw[Zz e2];show bh (k_ ?_)
 extract_lets mg
 show bh (jj (iw (I:=λx c st=>(∃g,st=dG κ it p q g)/\c.1=af/\Mk lt it all a b (x+1) c.2.1 c.2.2.1 c.2.2.2.1/\c.2.2.1+1<a.size/\c.2.2.2.1<b.size) (Q:=λc st=>(∃g,st=dG κ it p q g) /\∃z,c.1=aa z/\Res lt it all z) ?_ ?_ ⟨⟨_,rfl⟩,rfl,M1,show 0+1<a.size by lia,show 1<b.size by lia⟩) ?_)
 .rintro x ⟨_,out,i,j,mg⟩ st _ hx ⟨⟨g,rfl⟩,rfl,M,J,o⟩
  extract_lets
  show bh (jj (iw (I:=λy c st=>(∃g,st=dG κ it p q g)/\c.1=af/\Mk lt it all a b (x+1+y) c.2.1 c.2.2.1 c.2.2.2.1/\c.2.2.1+1<a.size/\c.2.2.2.1<b.size) (Q:=λc st=>(∃g,st=dG κ it p q g)/\((∃z,c.1=aa z/\Res lt it all z)\/(c.1=af/\Mk lt it all a b (x+2) c.2.1 c.2.2.1 c.2.2.2.1/\c.2.2.1+1<a.size/\c.2.2.2.1<b.size))) ?_ ?_ ⟨⟨_,rfl⟩,rfl,M,J,o⟩) ?_)
  .rintro y ⟨_,out,i,j,ac,bc⟩ st _ hy ⟨⟨g,rfl⟩,rfl,M,J,o⟩;dsimp only at M J o ⊢;show bh (dP o (bh (dP (show i<a.size by lia) (bh (BE hA (bn _ o) (an _ ∅) ?_)))))
   cases Z:lt (b.getD j 0) (a.getD i 0) with
   |true =>
    have K:=(M.swap.push o (bw o Z)).swap;show bh (dP o ?_);show aQ (λe=>bu ⟨⟨_,rfl⟩,.inl ⟨_,rfl,K.fin ∅⟩⟩) λe=>aQ (λ_=>bu ⟨⟨_,rfl⟩,.inr ⟨rfl,K.few (d:=x+2) ∅,J,show j+1<b.size by lia⟩⟩) λ_=>bu ⟨⟨_,rfl⟩,rfl,K,J,show j+1<b.size by lia⟩
   |false =>
    have K:=M.push ∅ (aw ∅ Z);show bh (dP (show i<a.size by lia) ?_);show aQ (λe=>bu ⟨⟨_,rfl⟩,.inl ⟨_,rfl,K.last e h2⟩⟩) λe=>aQ (λ_=>bu ⟨⟨_,rfl⟩,.inr ⟨rfl,K.few (d:=x+2) ∅,show i+1+1<a.size by lia,o⟩⟩) λ_=>bu ⟨⟨_,rfl⟩,rfl,K,show i+1+1<a.size by lia,o⟩
  .rintro ⟨_,out,i,j,ac,bc⟩ st ⟨⟨g,rfl⟩,rfl,M,J,o⟩;have:=M.size;dsimp only at this J o;lia
  .rintro ⟨r,out,i,j,ac,bc⟩ st ⟨⟨g,rfl⟩,⟨z,L,hz⟩|⟨L,M,J,o⟩⟩
   .dsimp only at L;subst L;show bu ⟨⟨_,rfl⟩,z,rfl,hz⟩
   .dsimp only at L M J o;subst L;show bh (oy (i_ ⟨rfl,?_⟩))
    extract_lets
    show bh (jj (iw (I:=λy c st=>(∃g,st=dG κ it p q g)/\c.1=af/\Mk lt it all a b (x+2+y) c.2.1 c.2.2.1 c.2.2.2.1/\c.2.2.1+1<a.size/\c.2.2.2.1<b.size) (Q:=λc st=>(∃g,st=dG κ it p q g)/\((∃z,c.1=aa z/\Res lt it all z)\/(c.1=af/\Mk lt it all a b (x+2) c.2.1 c.2.2.1 c.2.2.2.1/\c.2.2.1+1<a.size/\c.2.2.2.1<b.size))) ?_ ?_ ⟨⟨_,rfl⟩,rfl,M,J,o⟩) ?_)
    .rintro y ⟨_,out,i,j,mg,ac,bc⟩ st _ hy ⟨⟨g,rfl⟩,rfl,M,J,o⟩;dsimp only at M J o
     extract_lets -merge
     rename_i jp _;show oX (F:=jp) (P:=λ_ _=>True) (λ_ m _=>?_) λY=>aQ (λ_=>Y () _ trivial) λ_=>Y () _ trivial;show bh (mh (bh (dP o (bh (O5 (ω:=i) (cnt:=a.size-i) (hint:=0) hA O (bn _ o) ∅ an ∅ (λx y _ h2 h3=>ua x y h2 ∅) λk k1 k2 k3=>?_)))));have K:=M.mv (k:=k) ∅ λu v u1 u2 v1 v2=>aw ∅ (k2 u u1 u2) v v1 v2
     dsimp -zeta -zetaHave only
     extract_lets -merge
     rename_i jp2 _ _;show oX (F:=jp2 ()) (P:=λout U=>Mk lt it all a b (x+2+y) out U j/\U+1<a.size /\∀u,U<=u->u<a.size->lt (b.getD j 0) (a.getD u 0)=ae) (λout U ⟨M,J,gt⟩=>?_) λY=>aQ (λ(e:k>0)=>?_) λ(e:¬ k>0)=>?_
     .have K:=(M.swap.push o λu u1 u2=>O.as _ _ (gt u u1 u2)).swap;show bh (dP o ?_)
      extract_lets
      show aQ (λ(e:j+1=b.size)=>bu ⟨⟨_,rfl⟩,.inl ⟨_,rfl,K.fin ∅⟩⟩) λ(e:¬ j+1=b.size)=>?_;show bh (dP (show U<a.size by lia) (bh (O6 (ω:=j+1) (cnt:=b.size-(j+1)) (hint:=0) hA O (an _ ∅) ∅ bn ∅ (λx y _ h2 h3=>ub x y h2 ∅) λk k1 k2 k3=>?_)));have M3:=(K.swap.mv (k:=k) ∅ λu v u1 u2 v1 v2=>bw ∅ (k2 u u1 u2) v v1 v2).swap
      dsimp -zeta -zetaHave only
      extract_lets -merge
      rename_i jp3 _ _;show oX (F:=jp3 ()) (P:=λout j'=>Mk lt it all a b (x+2+y) out U j'/\j'<b.size /\∀u,j'<=u->u<b.size->lt (b.getD u 0) (a.getD U 0)=ag) (λout j' ⟨M,o,gt⟩=>?_) λY=>aQ (λ(e:k>0)=>?_) λ(e:¬ k>0)=>?_
      .have K:=M.push ∅ λu u1 u2=>gt u u1 u2;show bh (dP (show U<a.size by lia) ?_);show aQ (λ(e:U+1+1=a.size)=>bu ⟨⟨_,rfl⟩,.inl ⟨_,rfl,K.last e h2⟩⟩) λ(e:¬ U+1+1=a.size)=>aQ (λ_=>bu ⟨⟨_,rfl⟩,.inr ⟨rfl,K.few (d:=x+2) ∅,show U+1+1<a.size by lia,o⟩⟩) λ_=>bu ⟨⟨_,rfl⟩,rfl,K,show U+1+1<a.size by lia,o⟩
      .extract_lets
       show aQ (λ(e:j+1+k=b.size)=>bu ⟨⟨_,rfl⟩,.inl ⟨_,rfl,M3.fin ∅⟩⟩) λ(e:¬ j+1+k=b.size)=>Y _ _ ⟨M3.few ∅,show j+1+k<b.size by lia,λu u1 u2=>k3 u u1 ∅⟩
      .have:k=0:=by lia
       subst this;show Y _ _ ⟨K.few ∅,show j+1<b.size by lia,λu u1 u2=>k3 u u1 ∅⟩
     .extract_lets
      show aQ (λ(e:i+k+1=a.size)=>bu ⟨⟨_,rfl⟩,.inl ⟨_,rfl,K.last e h2⟩⟩) λ(_:¬ i+k+1=a.size)=>aQ (λ(e:i+k=a.size)=>bu ⟨⟨_,rfl⟩,.inl ⟨_,rfl,K.fin' ∅⟩⟩) λ(e:¬ i+k=a.size)=>Y _ _ ⟨K.few ∅,show i+k+1<a.size by lia,λu u1 u2=>k3 u u1 ∅⟩
     .have:k=0:=by lia
      subst this;show Y _ _ ⟨M,J,λu u1 u2=>k3 u u1 ∅⟩
    .rintro ⟨_,out,i,j,ac,bc⟩ st ⟨⟨g,rfl⟩,rfl,M,J,o⟩;have:=M.size;dsimp only at this J o;lia
    .rintro ⟨r,out,i,j,mg,ac,bc⟩ st ⟨⟨g,rfl⟩,⟨z,L,hz⟩|⟨L,M,J,o⟩⟩
     .dsimp only at L;subst L;show bu ⟨⟨_,rfl⟩,z,rfl,hz⟩
     .dsimp only at L M J o;subst L;show bh (mh ?_);show bu ⟨⟨_,rfl⟩,rfl,M,J,o⟩
 .rintro ⟨_,out,i,j,mg⟩ st ⟨⟨g,rfl⟩,rfl,M,J,o⟩;have:=M.size;dsimp only at this J o;lia
 .rintro ⟨r,out,i,j,mg⟩ st ⟨⟨g,rfl⟩,z,L,hz⟩;dsimp only at L;subst L;show bu (h _ _ hz)
end
def Mh(lt:Nat->Nat->Bool)(it:Array d_)(all:List Nat)(a b:Array Nat)(c:Nat)(out:Array d_)(i j:Nat):Prop :=
 ∃o:Array Nat,out=o.map (bt it)/\Mg (λx y=>lt y x) all o.toList (a.toList.take i).reverse (b.toList.take j).reverse/\c<=o.size
section
variable{lt:Nat->Nat->Bool}{it:Array d_}{all:List Nat}{a b:Array Nat}{c i j k:Nat}{out:Array d_}
def Mh.swap(h:Mh lt it all a b c out i j):Mh lt it all b a c out j i:=by obtain⟨o,e,m,d⟩:=h;show⟨o,e,m.swap,d⟩
def Mh.few(h:Mh lt it all a b c out i j)(l:d<=c):Mh lt it all a b d out i j:=by obtain⟨o,e,m,n⟩:=h;show⟨o,e,m,by lia⟩
def Mh.size(h:Mh lt it all a b c out i j):c+min i a.size+min j b.size<=all.length:=by obtain⟨o,e,m,d⟩:=h;have:=m.pm.length_eq;simp only[dm,List.length_reverse,ij,gz] at this;lia
theorem Mh.mv(h:Mh lt it all a b c out i j)(z:k<=i)(I:i<=a.size)(u:∀x y,k<=x->x<i->y<j->y<b.size->lt (a.getD x 0) (b.getD y 0)=ag):
  Mh lt it all a b (c+(i-k)) (out++((a.map (bt it)).extract k i).reverse) k j:=by
 obtain⟨o,e,m,J⟩:=h;have e0:(a.extract k i).toList=(a.toList.take i).drop k:=by rw[vn,vf,a0U]
 have A:(a.toList.take i).reverse=(a.extract k i).toList.reverse++(a.toList.take k).reverse:=by
  rw[e0,<- List.reverse_append];congr 1
  conv=>lhs;rw[<- Dr k (a.toList.take i)]
  rw[List.take_take,a0z z]
 rw[A] at m;show⟨o++(a.extract k i).reverse,by rw[e,zf,a1b,si],?_,?_⟩
 .rw [qc,Array.toList_reverse];show m.mv λx d y p=>?_;obtain⟨F,n,l,rfl⟩:=UL (a0K.1 p);rw[a0K,e0] at d;obtain⟨q,v,e⟩:=p0 d;rw[km,ij,gz] at v;have:x=a.getD (k+q) 0:=by rw[<- e,Ee,Ed];simp[ke,show k+q<a.size by lia]
  rw[this];show u _ _ ∅ ∅ n l
 .simp [Ex];lia
def Mh.push(h:Mh lt it all a b c out i j)(p:1<=i)(o:i<=a.size)(m:∀y,y<j->y<b.size->lt (a.getD (i-1) 0) (b.getD y 0)=ag):Mh lt it all a b (c+1) (out.push (bt it (a.getD (i-1) 0))) (i-1) j:=by
 have:=h.mv (k:=i-1) ∅ ∅ λx y x1 n l d=>by rw[show x=i-1 by lia];show m y l d
 obtain⟨i,rfl⟩:∃k,i=k+1:=⟨i-1,by lia⟩;rw[Nat.add_sub_cancel] at this ⊢;have e:((a.map (bt it)).extract i (i+1)).reverse=#[bt it (a.getD i 0)]:=by rw[a1f ∅ (by simp;lia)];have e0:(a.map (bt it)).extract i i=#[]:=n_ (bp _);rw[e0];simp[ke,show i<a.size by lia]
 rw[e,show i+1-i=1 by lia] at this;show this
def Mh.fin(h:Mh lt it all a b c out i 0):Res lt it all ((a.map (bt it)).extract 0 i++(b.map (bt it)).extract 0 0++out.reverse):=by
 obtain⟨o,e,m,p⟩:=h;have n:(a.extract 0 i).toList=a.toList.take i:=by rw[vn,vf,se,a0r]
 have d:(b.map (bt it)).extract 0 0=#[]:=n_ (bp _);have l:(a.extract 0 i++o.reverse).toList=(o.toList++(a.toList.take i).reverse).reverse:=by simp[n]
 show⟨a.extract 0 i++o.reverse,by rw[e,d,qf,zf,si,a1b],?_,?_⟩
 .rw [l];have:=m.pm;rw[a0F,List.reverse_nil,ip] at this;show(Dv _).trans this
 .rw [l];show Dz.2 m.ux
def Mh.UM(h:Mh lt it all a b c out i j)(d:i=0):Res lt it all ((a.map (bt it)).extract 0 i++(b.map (bt it)).extract 0 j++out.reverse):=by
 subst d;have r:=h.swap.fin;rw[show(a.map (bt it)).extract 0 0=#[] from n_ (bp _)] at r ⊢
 rwa [qf,<- a1i (xs:=(b.map (bt it)).extract 0 j)] at r
def Mh.Gd(h:Mh lt it all a b c out i j)(d:j=0):Res lt it all ((a.map (bt it)).extract 0 i++(b.map (bt it)).extract 0 j++out.reverse):=by subst d;show h.fin
def Mh.last(h:Mh lt it all a b c out i j)(l:j=1)(m:i<=a.size)(q:1<=b.size)(d:∀x,x<a.size->lt (a.getD x 0) (b.getD 0 0)=ag):Res lt it all ((b.map (bt it)).extract 0 j++(a.map (bt it)).extract 0 i++out.reverse):=by
 subst l;have:=h.mv (k:=0) ∅ m λx y x1 p o n=>by rw[show y=0 by lia];show d _ ∅
 have r:=this.swap.fin;rw[show(a.map (bt it)).extract 0 0=#[] from n_ (bp _),qf,Array.reverse_append,Array.reverse_reverse,<- Array.append_assoc] at r;show r
variable{Ω:bg}{w:a_}{A:br}{E:Q0c}{s:ak}{κ:kh}{n:Nat}
theorem Pb(hA:Asks Ω w A s κ it n lt)(O:eJ lt)(ha:1<=a.size)(hb:1<=b.size)(an:∀i,i<a.size->a.getD i 0<n)(bn:∀i,i<b.size->b.getD i 0<n)
  (ua:Up lt a a.size) (ub:Up lt b b.size) (h1:∀i,i<a.size->lt (a.getD i 0) (b.getD 0 0)=ag) (h2:∀y,y<b.size->lt (a.getD (a.size-1) 0) (b.getD y 0)=ag)
  (h:∀(r:Array d_) (g:Nat),Res lt it (a.toList++b.toList) r->Q r (dG κ it p q g)):
  wpS (au Ω w) A E s (BG (a.map (bt it)) (b.map (bt it))) Q (dG κ it p q g):=by
 obtain⟨all,hall⟩:∃l,l=a.toList++b.toList:=⟨_,rfl⟩;have tot:all.length=a.size+b.size:=by rw[hall];simp
 rw[<- hall] at h;have M0:Mh lt it all a b 0 #[] a.size b.size:=by
  show⟨#[],by simp,⟨?_,?_,?_⟩,by simp⟩
  .rw [hall,<- gz,<- gz,uw,uw];show(Dv _).append (Dv _)
  .rw [<- gz,uw];show Dz.2 (tK.2 ua)
  .rw [<- gz,uw];show Dz.2 (tK.2 ub)
 have M1:=M0.push ∅ ∅ λy _ hy=>h2 y hy;rw[o_] at M1;have b0:#[].push (bt it (a.getD (a.size-1) 0))=#[bt it (a.getD (a.size-1) 0)]:=rfl;rw[b0] at M1
 -- whose turn it is
 have aw:∀{u j:Nat},1<=j->j<=b.size->lt (b.getD (j-1) 0) (a.getD u 0)=ae ->∀y,y<j->y<b.size->lt (a.getD u 0) (b.getD y 0)=ag:=λ{u j} h0 hj hl y y1 y2=>by
  by_cases e:y=j-1
  .rw [e];show O.as _ _ hl
  .exact O.tr _ _ _ (ub y (j-1) ∅ ∅) (O.as _ _ hl)
 have bw:∀{i v:Nat},1<=i->i<=a.size->lt (b.getD v 0) (a.getD (i-1) 0)=ag ->∀x,x<i->x<a.size->lt (b.getD v 0) (a.getD x 0)=ag:=λ{i v} h0 hi hl x x1 x2=>by
  by_cases e:x=i-1
  .rw [e];show hl
  .exact O.tr _ _ _ (ua x (i-1) ∅ ∅) hl
 unfold BG;show bh (oy (i_ ⟨rfl,?_⟩));simp -zeta -zetaHave only[Ew,beq_iff_eq]
 extract_lets
 show bh (dP (show a.size-1<a.size by lia) ?_)
 extract_lets
 show aQ (λ(e:a.size-1=0)=>bu (h _ g ?_)) λ(e1:¬ a.size-1=0)=>aQ (λ(e:b.size=1)=>bu (h _ g ?_)) λ(e2:¬ b.size=1)=>?_
 .exact M1.UM e
 .exact M1.last e ∅ hb h1
 show bh (k_ ?_)
 extract_lets
 let J (x na nb:Nat) (out:Array d_):Prop:=Mh lt it all a b x out na nb/\1<=na/\na<=a.size/\2<=nb/\nb<=b.size
 show bh (jj (iw (I:=λx c st=>(∃g,st=dG κ it p q g)/\c.1=af/\J (x+1) c.2.1 c.2.2.1 c.2.2.2.1) (Q:=λc st=>(∃g,st=dG κ it p q g) /\∃z,c.1=aa z/\Res lt it all z) ?_ ?_ ⟨⟨_,rfl⟩,rfl,M1,show 1<=a.size-1 by lia,show a.size-1<=_ by lia,show 2<=b.size by lia,bp _⟩) ?_)
 .rintro x ⟨_,i,j,out,mg⟩ st _ hx ⟨⟨g,rfl⟩,rfl,M,L,o,U,K⟩
  extract_lets
  show bh (jj (iw (I:=λy c st=>(∃g,st=dG κ it p q g)/\c.1=af/\J (x+1+y) c.2.1 c.2.2.1 c.2.2.2.1) (Q:=λc st=>(∃g,st=dG κ it p q g)/\((∃z,c.1=aa z/\Res lt it all z)\/(c.1=af/\J (x+2) c.2.1 c.2.2.1 c.2.2.2.1))) ?_ ?_ ⟨⟨_,rfl⟩,rfl,M,L,o,U,K⟩) ?_)
  .rintro y ⟨_,i,j,out,ac,bc⟩ st _ hy ⟨⟨g,rfl⟩,rfl,M,L,o,U,K⟩;dsimp only at M L o U K ⊢;show bh (dP (show j-1<b.size by lia) (bh (dP (show i-1<a.size by lia) (bh (BE hA (bn _ ∅) (an _ ∅) ?_)))))
   cases hl:lt (b.getD (j-1) 0) (a.getD (i-1) 0) with
   |true =>
    have X:=M.push L o (aw ∅ K hl);show bh (dP (show i-1<a.size by lia) ?_);show aQ (λe=>bu ⟨⟨_,rfl⟩,.inl ⟨_,rfl,X.UM e⟩⟩) λe=>aQ (λ_=>bu ⟨⟨_,rfl⟩,.inr ⟨rfl,X.few (d:=x+2) ∅,show 1<=i-1 by lia,show i-1<=_ by lia,U,K⟩⟩) λ_=>bu ⟨⟨_,rfl⟩,rfl,X,show 1<=i-1 by lia,show i-1<=_ by lia,U,K⟩
   |false =>
    have X:=(M.swap.push ∅ K (bw ∅ o hl)).swap;show bh (dP (show j-1<b.size by lia) ?_);show aQ (λe=>bu ⟨⟨_,rfl⟩,.inl ⟨_,rfl,X.last e o hb h1⟩⟩) λe=>aQ (λ_=>bu ⟨⟨_,rfl⟩,.inr ⟨rfl,X.few (d:=x+2) ∅,L,o,show 2<=j-1 by lia,show j-1<=_ by lia⟩⟩) λ_=>bu ⟨⟨_,rfl⟩,rfl,X,L,o,show 2<=j-1 by lia,show j-1<=_ by lia⟩
  .rintro ⟨_,i,j,out,ac,bc⟩ st ⟨⟨g,rfl⟩,rfl,M,L,o,U,K⟩;have:=M.size;dsimp only at this L o U K;lia
  .rintro ⟨r,i,j,out,ac,bc⟩ st ⟨⟨g,rfl⟩,⟨z,Z,hz⟩|⟨Z,M,L,o,U,K⟩⟩
   .dsimp only at Z;subst Z;show bu ⟨⟨_,rfl⟩,z,rfl,hz⟩
   .dsimp only at Z M L o U K;subst Z;show bh (oy (i_ ⟨rfl,?_⟩))
    extract_lets
    show bh (jj (iw (I:=λy c st=>(∃g,st=dG κ it p q g)/\c.1=af/\J (x+2+y) c.2.1 c.2.2.1 c.2.2.2.1) (Q:=λc st=>(∃g,st=dG κ it p q g)/\((∃z,c.1=aa z/\Res lt it all z)\/(c.1=af/\J (x+2) c.2.1 c.2.2.1 c.2.2.2.1))) ?_ ?_ ⟨⟨_,rfl⟩,rfl,M,L,o,U,K⟩) ?_)
    .rintro y ⟨_,i,j,out,mg,ac,bc⟩ st _ hy ⟨⟨g,rfl⟩,rfl,M,L,o,U,K⟩;dsimp only at M L o U K
     extract_lets -merge
     rename_i jp _;show oX (F:=jp) (P:=λ_ _=>True) (λ_ m _=>?_) λpU=>aQ (λ_=>pU () _ trivial) λ_=>pU () _ trivial;show bh (mh (bh (dP (show j-1<b.size by lia) (bh (O5 (ω:=0) (cnt:=i) (hint:=i-1) hA O (bn (j-1) ∅) ∅ an ∅ (λx y _ h2 h3=>ua x y h2 ∅) λk k1 k2 k3=>?_)))));have X:=M.mv (k:=k) ∅ o λu v u1 u2 v1 v2=>aw ∅ K (k3 u ∅ ∅) v v1 v2
     dsimp -zeta -zetaHave only
     extract_lets -merge
     rename_i jp2 _ _;show oX (F:=jp2 ()) (P:=λY out=>Mh lt it all a b (x+2+y) out Y j/\1<=Y/\Y<=a.size /\∀u,u<Y->u<a.size->lt (b.getD (j-1) 0) (a.getD u 0)=ag) (λY out ⟨M,L,o,gt⟩=>?_) λpU=>aQ (λ(e:i-k>0)=>?_) λ(e:¬ i-k>0)=>?_
     .have X:=(M.swap.push ∅ K gt).swap;show bh (dP (show j-1<b.size by lia) ?_)
      extract_lets
      show aQ (λ(e:j-1=1)=>bu ⟨⟨_,rfl⟩,.inl ⟨_,rfl,X.last e o hb h1⟩⟩) λ(e:¬ j-1=1)=>?_;show bh (dP (show Y-1<a.size by lia) (bh (O6 (ω:=0) (cnt:=j-1) (hint:=j-1-1) hA O (an (Y-1) ∅) ∅ bn ∅ (λx y _ h2 h3=>ub x y h2 ∅) λk k1 k2 k3=>?_)));have M3:=(X.swap.mv (k:=k) ∅ ∅ λu v u1 u2 v1 v2=>bw L o (k3 u ∅ ∅) v v1 v2).swap
      dsimp -zeta -zetaHave only
      extract_lets -merge
      rename_i jp3 _ _;show oX (F:=jp3 ()) (P:=λj' out=>Mh lt it all a b (x+2+y) out Y j'/\2<=j'/\j'<=b.size /\∀u,u<j'->u<b.size->lt (b.getD u 0) (a.getD (Y-1) 0)=ae) (λj' out ⟨M,U,K,gt⟩=>?_) λpU=>aQ (λ(e:j-1-k>0)=>?_) λ(e:¬ j-1-k>0)=>?_
      .have X:=M.push L o λu u1 u2=>O.as _ _ (gt u u1 u2);show bh (dP (show Y-1<a.size by lia) ?_);show aQ (λ(e:Y-1=0)=>bu ⟨⟨_,rfl⟩,.inl ⟨_,rfl,X.UM e⟩⟩) λ(e:¬ Y-1=0)=>aQ (λ_=>bu ⟨⟨_,rfl⟩,.inr ⟨rfl,X.few (d:=x+2) ∅,show 1<=Y-1 by lia,show Y-1<=_ by lia,U,K⟩⟩) λ_=>bu ⟨⟨_,rfl⟩,rfl,X,show 1<=Y-1 by lia,show Y-1<=_ by lia,U,K⟩
      .extract_lets
       show aQ (λ(e:k=1)=>bu ⟨⟨_,rfl⟩,.inl ⟨_,rfl,M3.last e o hb h1⟩⟩) λ(_:¬ k=1)=>aQ (λ(e:k=0)=>bu ⟨⟨_,rfl⟩,.inl ⟨_,rfl,M3.Gd e⟩⟩) λ(e:¬ k=0)=>pU _ _ ⟨M3.few ∅,show 2<=k by lia,show k<=_ by lia,λu u1 u2=>k2 u ∅ ∅⟩
      .have:k=j-1:=by lia
       subst this;show pU (j-1) _ ⟨X.few ∅,show 2<=j-1 by lia,show j-1<=_ by lia,λu u1 u2=>k2 u ∅ ∅⟩
     .extract_lets
      show aQ (λ(e:k=0)=>bu ⟨⟨_,rfl⟩,.inl ⟨_,rfl,X.UM e⟩⟩) λ(e:¬ k=0)=>pU _ _ ⟨X.few ∅,show 1<=k by lia,show k<=_ by lia,λu u1 u2=>k2 u ∅ ∅⟩
     .have:k=i:=by lia
      subst this;show pU k _ ⟨M,L,o,λu u1 u2=>k2 u ∅ ∅⟩
    .rintro ⟨_,i,j,out,mg,ac,bc⟩ st ⟨⟨g,rfl⟩,rfl,M,L,o,U,K⟩;have:=M.size;dsimp only at this L o U K;lia
    .rintro ⟨r,i,j,out,mg,ac,bc⟩ st ⟨⟨g,rfl⟩,⟨z,Z,hz⟩|⟨Z,M,L,o,U,K⟩⟩
     .dsimp only at Z;subst Z;show bu ⟨⟨_,rfl⟩,z,rfl,hz⟩
     .dsimp only at Z M L o U K;subst Z;show bh (mh ?_);show bu ⟨⟨_,rfl⟩,rfl,M,L,o,U,K⟩
 .rintro ⟨_,i,j,out,mg⟩ st ⟨⟨g,rfl⟩,rfl,M,L,o,U,K⟩;have:=M.size;dsimp only at this L o U K;lia
 .rintro ⟨r,i,j,out,mg⟩ st ⟨⟨g,rfl⟩,z,Z,hz⟩;dsimp only at Z;subst Z;show bu (h _ _ hz)
end
abbrev Pn(n:Nat)(p:Array Nat):Prop:=p.Perm (cm n).toArray
abbrev y7(lt:Nat->Nat->Bool)(p:Array Nat)(lo m:Nat):Prop:=∀i j,lo<=i->i<j->j<lo+m->lt (p.getD j 0) (p.getD i 0)=ag
abbrev WD(lt:Nat->Nat->Bool)(p:Array Nat)(lo m:Nat):Prop:=∀i j,lo<=i->i<j->j<lo+m->lt (p.getD i 0) (p.getD j 0)=ag
section
variable{n lo:Nat}{p p':Array Nat}{lt:Nat->Nat->Bool}
def Pn.size(h:Pn n p):p.size=n:=by have:=h.size_eq;simpa using this
def Pn.bd(h:Pn n p)(c:i<n):p.getD i 0<n:=by
 have a:=h.size;have:p.getD i 0∈p:=by simp[ke,a,c]
 simpa using h.mem_iff.1 this
abbrev Kp(p p':Array Nat)(lo:Nat):Prop:=∀i,i<lo->p'.getD i 0=p.getD i 0
def EB(c:k<p.size)(h:d<=k)(i:Nat):(bubble p k d).getD i 0=if i=k-d then p.getD k 0 else if k-d<i/\i<=k then p.getD (i-1) 0 else p.getD i 0:=by
 rw[b9,b9,b9,b9,a0c c d h];by_cases a:i=k-d
 .rw [Z_ a,Z_ a]
 .rw [Zz a,Zz a];by_cases h2:k-d<i/\i<=k
  .rw [Z_ h2,Z_ h2]
  .rw [Zz h2,Zz h2]
end
section
variable{Ω:bg}{w:a_}{A:br}{E:Q0c}{s:ak}{κ:kh}{it:Array d_}{n:Nat}{lt:Nat->Nat->Bool}{p:Array Nat}{q:Array (Nat×Nat×Nat)}{g:Nat}
def BH(l:Asks Ω w A s κ it n lt)(a:Pn n p)(d:i<n)(c:j<n)(h:Q (aa (lt (p.getD i 0) (p.getD j 0))) (dG κ it p q g)):wpS (au Ω w) A E s (ltAt' i j) Q (dG κ it p q g):=by have m:=a.size;rw[ltAt'_eq];show bh (k_ (bh (dP ∅ (bh (dP ∅ (BE l (a.bd d) (a.bd c) h))))))
def yV(h:Q () (dG κ it (gw p i j) q g)):wpS (au Ω w) A E s (reverseSlice' i j) Q (dG κ it p q g):=by rw[reverseSlice'_eq];show mh ?_;have e:mirror (p.map (bt it)) i j ((j-i)/2)=(gw p i j).map (bt it):=Xl (bt it) (λk=>i+k) (λk=>j-1-k) _ p;show Q () (mj κ (mirror (p.map (bt it)) i j ((j-i)/2)) q g af);rw[e];show h
def UN(h:Q () (dG κ it (bubble p k (k-l)) q g)):wpS (au Ω w) A E s (moveDown' k l) Q (dG κ it p q g):=by rw[moveDown'_eq];show mh ?_;have e:bubble (p.map (bt it)) k (k-l)=(bubble p k (k-l)).map (bt it):=Xl (bt it) (λi=>k-i) (λi=>k-i-1) _ p;show Q () (mj κ (bubble (p.map (bt it)) k (k-l)) q g af);rw[e];show h
theorem Us{lo m ok:Nat}{Q:Bool->dg->Prop}(hA:Asks Ω w A s κ it n lt)(O:eJ lt)(X:Pn n p)(hm:lo+m<=n)(o:1<=ok)(Y:ok<=m)(U:y7 lt p lo ok)
  (h:∀p',Pn n p'->Kp p p' lo->y7 lt p' lo m->Q ae (dG κ it p' q g)):wpS (au Ω w) A E s (binarySort' lo m ok) Q (dG κ it p q g):=by
 unfold binarySort';show bh (jj (iw (I:=λk c st=>c.1=af /\∃p',st=dG κ it p' q g/\Pn n p'/\Kp p p' lo/\y7 lt p' lo k/\k<=m) (Q:=λc st=>c.1=af /\∃p',st=dG κ it p' q g/\Pn n p'/\Kp p p' lo/\y7 lt p' lo m) ?_ ?_ ⟨rfl,p,rfl,X,λ_ _=>rfl,by rw[show max ok 1=ok by lia];show U,by lia⟩) ?_)
 .rintro k ⟨_,_⟩ st k1 k2 ⟨rfl,p',rfl,v,Z,u,_⟩;have hs:=v.size;dsimp only;show bh (jj (iw (I:=λx c st=>st=dG κ it p' q g /\∃l r,c=(af,l,r)/\l<=r/\r<=k/\r-l<=k-x/\(∀i,lo<=i->i<lo+l->lt (p'.getD (lo+k) 0) (p'.getD i 0)=ag) /\∀i,lo+r<=i->i<lo+k->lt (p'.getD i 0) (p'.getD (lo+k) 0)=ag)
   (Q:=λc st=>st=dG κ it p' q g /\∃l r,c=(af,l,r)/\l<=k/\(∀i,lo<=i->i<lo+l->lt (p'.getD (lo+k) 0) (p'.getD i 0)=ag) /\∀i,lo+l<=i->i<lo+k->lt (p'.getD i 0) (p'.getD (lo+k) 0)=ag) ?_ ?_ ⟨rfl,0,k,rfl,by lia,by lia,by lia,λi o h2=>by lia,λi o h2=>by lia⟩) ?_)
  .rintro x c st _ hx ⟨rfl,l,r,rfl,L,a2,a3,z,y⟩;dsimp only;show aQ (λe=>bu ⟨rfl,l,r,rfl,by lia,z,λi o h2=>y i ∅ h2⟩) λe=>bh (BH hA v ∅ ∅ ?_)
   cases hl:lt (p'.getD (lo+k) 0) (p'.getD (lo+(l+r)/2) 0) with
   |true =>
    show bu ⟨rfl,l,(l+r)/2,rfl,by lia,by lia,by lia,z,λi o h2=>?_⟩;by_cases F:i=lo+(l+r)/2
    .rw [F];show O.as _ _ hl
    .exact O.tr _ _ _ (O.as _ _ hl) (u _ i ∅ ∅ h2)
   |false =>
    show bu ⟨rfl,(l+r)/2+1,r,rfl,by lia,by lia,by lia,λi o h2=>?_,y⟩;by_cases F:i=lo+(l+r)/2
    .rw [F];show hl
    .exact O.tr _ _ _ (u i _ o ∅ ∅) hl
  .rintro c st ⟨rfl,l,r,rfl,L,a2,a3,z,y⟩;show⟨rfl,l,r,rfl,by lia,z,λi o h2=>y i ∅ h2⟩
  .rintro c st ⟨rfl,l,r,rfl,L,z,y⟩;dsimp only;show bh (UN (bu ⟨rfl,_,rfl,(Cr _ _ _).trans v,?_,?_,by lia⟩))
   all_goals rw[show lo+k-(lo+l)=k-l by lia]
   .intro i hi;rw[EB ∅ ∅,Zz ∅,Zz ∅];show Z i hi
   .intro i j o h2 h3;rw[EB ∅ ∅,EB ∅ ∅];by_cases K:i=lo+k-(k-l)
    .rw [Z_ K,Zz ∅,Z_ ∅];show y _ ∅ ∅
    .rw [Zz K];by_cases J:j=lo+k-(k-l)
     .rw [Z_ J,Zz ∅];show z _ o ∅
     .rw [Zz J];split<;>split<;>show u _ _ ∅ ∅ ∅
 .rintro ⟨_,_⟩ st ⟨rfl,p',rfl,a,b,c,d⟩;show⟨rfl,p',rfl,a,b,by rwa [show max (max ok 1) m=m by lia] at c⟩
 .rintro ⟨_,_⟩ st ⟨rfl,p',rfl,a,b,c⟩;show bu (h p' a b c)
theorem O7{lo a:Nat}{Q:Option (Option Nat)×Nat->dg->Prop}(v:Asks Ω w A s κ it n lt)(O:eJ lt)(o:Pn n p)(d:1<=a)(J:lo+a<=n)(l:y7 lt p lo a)
  (h:∀m,a<=m->lo+m<=n->y7 lt p lo m->(lo+m<n->lt (p.getD (lo+m) 0) (p.getD (lo+m-1) 0)=ae)->Q (af,m) (dG κ it p q g)):
  wpS (au Ω w) A E s (forIn [a:n-lo] ((af,a):Option (Option Nat)×Nat) λ_ c=>do
   let z <- ltAt' (lo+c.2) (lo+c.2-1)
   match z with
   |some b=>if b=ae then pure (.done (af,c.2)) else pure (.yield (af,c.2+1))
   |_=>pure (.done (aa af,c.2))) Q (dG κ it p q g):=by
 show iw (I:=λx c st=>st=dG κ it p q g/\c=(af,x)/\y7 lt p lo x) ?_ ?_ ⟨rfl,rfl,l⟩
 .rintro x c st x1 F ⟨rfl,rfl,u⟩;show bh (BH v o (show lo+x<n by lia) (show lo+x-1<n by lia) ?_)
  cases hl:lt (p.getD (lo+x) 0) (p.getD (lo+x-1) 0) with
  |true=>show bu (h x x1 ∅ u λ_=>hl)
  |false =>
   show bu ⟨rfl,rfl,λi j d h2 K=>?_⟩;by_cases e:j=lo+x
   .subst e;by_cases y:i=lo+x-1
    .rw [y];show hl
    .exact O.tr _ _ _ (u i (lo+x-1) d ∅ ∅) hl
   .exact u i j d h2 ∅
 .rintro c st ⟨rfl,rfl,u⟩;rw[show max a (n-lo)=n-lo by lia] at u ⊢;show h _ ∅ ∅ u λz=>by lia
abbrev Ls(lt:Nat->Nat->Bool)(p:Array Nat)(e k:Nat):Prop:=∀i j,e-(k+1)<=i->i<e->e-(k+1)<=j->j<e->lt (p.getD i 0) (p.getD j 0)=ag
def O8{lo m k:Nat}(O:eJ lt)(a:lo+m<=p.size)(v:k+1<=m)(c:WD lt p lo m)(o:Ls lt p (lo+m) k):WD lt (gw p (lo+m-(k+1)) (lo+m)) lo m:=λi j d h2 u=>by
 rw[bP a,bP a];by_cases l:lo+m-(k+1)<=i/\i<lo+m
 .rw [Z_ l,Z_ ∅];show o _ _ ∅ ∅ ∅ ∅
 .rw [Zz l];by_cases h:lo+m-(k+1)<=j/\j<lo+m
  .rw [Z_ h];show c _ _ d ∅ ∅
  .rw [Zz h];show c _ _ d h2 u
theorem O9{lo:Nat}{Q:Option Nat->dg->Prop}(Z:Asks Ω w A s κ it n lt)(O:eJ lt)(K:Pn n p)(hlo:lo<n)
  (h:∀m p',Pn n p'->Kp p p' lo->1<=m->lo+m<=n->y7 lt p' lo m->Q (aa m) (dG κ it p' q g)):wpS (au Ω w) A E s (countRun' lo (n-lo)) Q (dG κ it p q g):=by
 have hs:=K.size
 -- they fall: turned about
 have tail:∀(m:Nat) (p':Array Nat) (F:Option (Option Nat)×Nat->StateT dg gb (Option Nat)),Pn n p'->Kp p p' lo->1<=m->lo+m<=n->WD lt p' lo m->(∀m,F (af,m)=pure (aa m))->wpS (au Ω w) A E s (do
   reverseSlice' lo (lo+m)
   let c <- forIn [m:n-lo] ((af,m):Option (Option Nat)×Nat) λ_ c=>do
    let z <- ltAt' (lo+c.2) (lo+c.2-1)
    match z with
    |some b=>if b=ae then pure (.done (af,c.2)) else pure (.yield (af,c.2+1))
    |_=>pure (.done (aa af,c.2))
   F c) Q (dG κ it p' q g):=λm p' F l o m1 m2 v hF=>by
  have X:=l.size;have Y:Pn n (gw p' lo (lo+m)):=(c9 _ _ _).trans l;show bh (yV (bh (O7 Z O Y m1 m2 (λi j U h2 h3=>?_) λm' a b u _=>?_)))
  .rw [bP ∅,bP ∅,Z_ ∅,Z_ ∅];show v _ _ ∅ ∅ ∅
  .rw [hF];show bu (h m' _ Y (λi L=>?_) ∅ b u);rw[bP ∅,Zz ∅];show o i L
 unfold countRun';show bh (O7 Z O K (bp 1) ∅ (λi j U h2 h3=>by lia) λm m1 m2 u J=>?_)
 dsimp -zeta -zetaHave only
 extract_lets -merge
 rename_i jp;have pU:∀p',Pn n p'->Kp p p' lo->lo+m<n->WD lt p' lo (m+1)->wpS (au Ω w) A E s (jp ()) Q (dG κ it p' q g):=λp' l o hm v=>by
  show bh (oy (i_ ⟨rfl,?_⟩));show bh (jj (iw (I:=λx c st=>∃p' k,st=dG κ it p' q g/\c=(af,x,k)/\Pn n p'/\Kp p p' lo/\WD lt p' lo x/\k+1<=x/\Ls lt p' (lo+x) k) (Q:=λc st=>∃x p' k,st=dG κ it p' q g/\c=(af,x,k)/\Pn n p'/\Kp p p' lo/\WD lt p' lo x/\k+1<=x/\lo+x<=n/\Ls lt p' (lo+x) k) ?_ ?_ ⟨p',0,rfl,rfl,l,o,v,show 0+1<=m+1 by lia,λi j (a:lo+(m+1)-1<=i) (b:i<lo+(m+1)) c d=>by rw[show i=j by lia];show O.G2 _⟩) ?_)
  .rintro x c st (x1:m+1<=x) x2 ⟨p',k,rfl,rfl,l,o,v,k1,ls⟩;have X:=l.size;have one:∀P:Array Nat,WD lt P lo x->lt (P.getD (lo+x-1) 0) (P.getD (lo+x) 0)=ag->WD lt P lo (x+1):=λP hP y i j U h2 h3=>by
    by_cases e:j=lo+x
    .subst e;by_cases e2:i=lo+x-1
     .rw [e2];show y
     .exact O.tr _ _ _ y (hP i (lo+x-1) U ∅ ∅)
    .exact hP i j U h2 ∅
   dsimp only;show bh (BH Z l (show lo+x<n by lia) (show lo+x-1<n by lia) ?_)
   cases y:lt (p'.getD (lo+x) 0) (p'.getD (lo+x-1) 0) with
   |true =>
    dsimp only;rw[Z_ rfl];have l1:∀P:Array Nat,Ls lt P (lo+(x+1)) 0:=λP i j a b c d=>by rw[show i=j by lia];show O.G2 _
    show aQ (λ(e:k>0)=>bh (yV (bu ⟨_,0,rfl,rfl,(c9 _ _ _).trans l,λi L=>?_,one _ (O8 O ∅ k1 v ls) ?_,by lia,l1 _⟩))) λ(e:¬ k>0)=>bu ⟨_,0,rfl,rfl,l,o,one _ v (O.as _ _ y),by lia,l1 _⟩
    .rw [bP (show lo+x<=p'.size by lia),Zz ∅];show o i L
    .rw [bP (show lo+x<=p'.size by lia),bP (show lo+x<=p'.size by lia),Z_ ∅,Zz ∅];have a:=O.as _ _ y;by_cases e2:lo+x-(k+1)+(lo+x)-1-(lo+x-1)=lo+x-1
     .rw [e2];show a
     .exact O.tr _ _ _ a (ls _ _ ∅ ∅ ∅ ∅)
   |false =>
    show bh (BH Z l (show lo+x-1<n by lia) (show lo+x<n by lia) ?_)
    cases hl2:lt (p'.getD (lo+x-1) 0) (p'.getD (lo+x) 0) with
    |true=>show bu ⟨x,p',k,rfl,rfl,l,o,v,k1,by lia,ls⟩
    |false =>
     show bu ⟨p',k+1,rfl,rfl,l,o,one _ v hl2,by lia,λi j a b c d=>?_⟩;have f1:lt (p'.getD i 0) (p'.getD (lo+x-1) 0)=ag:=by
      by_cases e:i=lo+x
      .rw [e];show y
      .exact ls _ _ ∅ ∅ ∅ ∅
     have f2:lt (p'.getD (lo+x-1) 0) (p'.getD j 0)=ag:=by
      by_cases e:j=lo+x
      .rw [e];show hl2
      .exact ls _ _ ∅ ∅ ∅ ∅
     show O.tr _ _ _ f2 f1
  .rintro c st ⟨p',k,rfl,rfl,l,o,v,k1,ls⟩;show⟨_,p',k,rfl,rfl,l,o,v,k1,show lo+max (m+1) (n-lo)<=n by lia,ls⟩
  .rintro c st ⟨x,p',k,rfl,rfl,l,o,v,k1,J,ls⟩;have X:=l.size;dsimp only;show aQ (λ(e:k>0)=>bh (yV (tail x _ _ ((c9 _ _ _).trans l) (λi L=>?_) ∅ J (O8 O ∅ k1 v ls) λ_=>rfl))) λ(e:¬ k>0)=>tail x _ _ l o ∅ J v λ_=>rfl;rw[bP (show lo+x<=p'.size by lia),Zz ∅];show o i L
 show aQ (λe=>bu (h m p K (λ_ _=>rfl) m1 m2 u)) λe=>?_;have e:¬ m=n-lo:=by simpa using e
 have J:=J ∅;show aQ (λ(e1:m>1)=>bh (BH Z K hlo (show lo+m-1<n by lia) ?_)) λ(e1:¬ m>1)=>pU p K (λ_ _=>rfl) ∅ λi j U h2 h3=>?_
 .cases y:lt (p.getD lo 0) (p.getD (lo+m-1) 0) with
  |true=>show bu (h m p K (λ_ _=>rfl) m1 m2 u)
  |false =>
   show bh (yV (pU _ ((c9 _ _ _).trans K) (λi L=>?_) ∅ λi j U h2 h3=>?_))
   .rw [bP (show lo+m<=p.size by lia),Zz ∅]
   .rw [bP (show lo+m<=p.size by lia),bP (show lo+m<=p.size by lia),Z_ ∅];by_cases e:j=lo+m
    .rw [Zz ∅,e];show O.tr _ _ _ (O.as _ _ J) (O.tr _ _ _ y ?_);by_cases e2:lo+(lo+m)-1-i=lo
     .rw [e2];show O.G2 _
     .exact u _ _ ∅ ∅ ∅
    .rw [Z_ ∅];show u _ _ ∅ ∅ ∅
 .rw [show i=lo+m-1 by lia,show j=lo+m by lia];show O.as _ _ J
variable{α:Type}
theorem nL(L:Nat):∀(m:List α) (d:Nat) (arr:Array α) (i:Nat),L+d+m.length<=arr.size->((m.zipIdx d).foldl (λa q=>a.setIfInBounds (L+q.2) q.1) arr)[i]?=if L+d<=i/\i<L+d+m.length then m[i-(L+d)]? else arr[i]?
 |[],d,arr,i,h=>by rw[Zz (by simp)];rfl
 |x::m,d,arr,i,h=>by
  rw[fj] at h ⊢;rw[List.zipIdx_cons,a0T,nL L m (d+1) _ i (by rw[Array.size_setIfInBounds];lia)];by_cases e:i=L+d
  .rw [Zz ∅,Z_ ∅,e,a1c,Z_ rfl,Z_ (by show L+d<_;lia)];simp
  .by_cases c:L+(d+1)<=i/\i<L+(d+1)+m.length
   .rw [Z_ c,Z_ ∅,show i-(L+d)=i-(L+(d+1))+1 by lia,ny]
   .rw [Zz c,Zz ∅,a1c,Zz (λz=>e z.symm)]
end
def seg(p:Array Nat)(L:Nat)(m:Array Nat):Array Nat:=(m.toList.zipIdx 0).foldl (λa q=>a.setIfInBounds (L+q.2) q.1) p
def UO(it:Array d_)(h:L+m.size<=p.size):(((m.map (bt it)).toList.zipIdx 0).foldl (λa q=>a.setIfInBounds (L+q.2) q.1) (p.map (bt it)))=(seg p L m).map (bt it):=by apply a1g;intro i;unfold seg;rw[nL L _ 0 _ i (by simpa using h),Ey,Ey,nL L _ 0 _ i (by simpa using h)];simp only[a09,bo,ft,Ey];split<;>rfl
def yW(h:L+m.size<=p.size):(seg p L m).getD i 0=if L<=i/\i<L+m.size then m.getD (i-L) 0 else p.getD i 0:=by unfold seg;rw[b9,b9,b9,nL L _ 0 _ i (by simpa using h)];simp only[Dm,gz,qd];split<;>rfl
def PB(h:L+m.size<=p.size)(a:m.Perm (p.extract L (L+m.size))):(seg p L m).Perm p:=by
 have e:seg p L m=p.extract 0 L++m++p.extract (L+m.size) p.size:=by
  apply a1g;intro i;unfold seg;rw[nL L _ 0 _ i (by simpa using h)];simp only[Dm,gz,qd,Array.getElem?_append,Ez,Ex,Array.size_append,a0x]
  repeat' split
  all_goals first|rfl|(exfalso;lia)|(congr 1;lia)|(simp;lia)
 have c:p=p.extract 0 L++p.extract L (L+m.size)++p.extract (L+m.size) p.size:=by simp[show L<=L+m.size by lia,h]
 rw[e]
 conv=>rhs;rw[c]
 show((my _).append a).append (my _)
section
variable{Ω:bg}{w:a_}{A:br}{E:Q0c}{s:ak}{κ:kh}{it:Array d_}{n:Nat}{lt:Nat->Nat->Bool}{p:Array Nat}{q:Array (Nat×Nat×Nat)}{g:Nat}
def UP{st a:dg}{Q:PUnit->dg->Prop}{M:l_}(h:Q ⟨⟩ a):wpS M A E s (set a:StateT dg gb PUnit) Q st:=by unfold wpS;rw[StateT.run_set];show az ⟨rfl,h⟩
theorem PD{i d l pw F pw':Nat}{Q:Bool->dg->Prop}(hA:Asks Ω w A s κ it n lt)(O:eJ lt)(I:Pn n p)(q1:q[i]?=aa (d,l,pw))(q2:q[i+1]?=aa (d+l,F,pw'))(h1:1<=l)(h2:1<=F)(hn:d+l+F<=n)
  (L:y7 lt p d l) (K:y7 lt p (d+l) F)
  (h:∀p' g',Pn n p'->(∀j,j<d\/d+l+F<=j->p'.getD j 0=p.getD j 0)->y7 lt p' d (l+F)->Q ae (dG κ it p' ((q.setIfInBounds i (d,l+F,pw)).eraseIdxIfInBounds (i+1)) g')):
  wpS (au Ω w) A E s (mergeAt' i) Q (dG κ it p q g):=by
 have hs:=I.size;unfold mergeAt';show bh (k_ ?_);dsimp only;rw[q1,q2];dsimp only;obtain⟨Y,hq⟩:∃z,z=(q.setIfInBounds i (d,l+F,pw)).eraseIdxIfInBounds (i+1):=⟨_,rfl⟩;rw[<- hq] at h ⊢;show bh (UP ?_);show bh (dP (show d+l<p.size by lia) (bh (O5 (ω:=d) (cnt:=l) (hint:=0) hA O (I.bd ∅) ∅ (λi J=>I.bd ∅) ∅ (λi j a b c=>L i j a b c) λk k1 k2 k3=>?_)))
 -- below the first of the second run
 have F2:∀u v,d<=u->u<d+k->d+l<=v->v<d+l+F->lt (p.getD v 0) (p.getD u 0)=ag:=λu v u1 u2 v1 o=>by
  by_cases e:v=d+l
  .rw [e];show k2 u u1 u2
  .exact O.tr _ _ _ (k2 u u1 u2) (K (d+l) v (bp _) ∅ o)
 show aQ (λe=>bu (h p g I (λ_ _=>rfl) λu v u1 u2 o=>?_)) λe=>?_
 .have e:l-k=0:=by simpa using e
  by_cases c1:v<d+l
  .exact L u v u1 u2 c1
  .by_cases c2:u<d+l
   .exact F2 u v u1 ∅ ∅ ∅
   .exact K u v ∅ u2 ∅
 have e:¬ l-k=0:=by simpa using e
 show bh (dP (show d+k+(l-k)-1<p.size by lia) ?_);rw[show d+k+(l-k)-1=d+l-1 by lia];show bh (O6 (ω:=d+l) (cnt:=F) (hint:=F-1) hA O (I.bd ∅) ∅ (λi J=>I.bd ∅) ∅ (λi j a b c=>K i j a b c) λc c1 c2 c3=>?_);have F3:∀u v,d<=u->u<d+l->d+l+c<=v->v<d+l+F->lt (p.getD v 0) (p.getD u 0)=ag:=λu v u1 u2 v1 o=>by
  by_cases e:u=d+l-1
  .rw [e];show c3 v v1 o
  .exact O.tr _ _ _ (L u (d+l-1) u1 ∅ ∅) (c3 v v1 o)
 show aQ (λe=>bu (h p g I (λ_ _=>rfl) λu v u1 u2 o=>?_)) λe2=>?_
 .have e:c=0:=by simpa using e
  by_cases c1:v<d+l
  .exact L u v u1 u2 c1
  .by_cases c2:u<d+l
   .exact F3 u v u1 ∅ ∅ ∅
   .exact K u v ∅ u2 ∅
 have e2:¬ c=0:=by simpa using e2
 -- what the merge leaves
 let x:=p.extract (d+k) (d+l)
 let y:=p.extract (d+l) (d+l+c)
 have xs:x.size=l-k:=by simp[x];lia
 have ys:y.size=c:=by simp[y];lia
 have X:∀i,i<x.size->x.getD i 0=p.getD (d+k+i) 0:=λi J=>by rw[b9,b9,Ez,Z_ ∅]
 have U:∀i,i<y.size->y.getD i 0=p.getD (d+l+i) 0:=λi J=>by rw[b9,b9,Ez,Z_ ∅]
 have fin:∀(r:Array d_) (g':Nat),Res lt it (x.toList++y.toList) r->wpS (au Ω w) A E s (do
   modify λs=>setArr s (r.toList.zipIdx.foldl (λa z=>a.setIfInBounds (d+k+z.2) z.1) (arrOf s))
   return (failedOf (<- get)).isNone) Q (dG κ it p Y g'):=λr g' Pa=>by
  obtain⟨m,er,pm,um⟩:=Pa;have ms:m.size=l-k+c:=by have:=pm.length_eq;simpa[xs,ys] using this
  have Z:d+k+m.size<=p.size:=by lia
  show bh (mh (bh (k_ (bu ?_))));have es:setArr (dG κ it p Y g') (r.toList.zipIdx.foldl (λa z=>a.setIfInBounds (d+k+z.2) z.1) (arrOf (dG κ it p Y g')))=dG κ it (seg p (d+k) m) Y g':=by rw[er];show mj κ _ Y g' af=mj κ _ Y g' af;rw[<- UO it Z]
  rw[es];have mp:∀u,u<m.size ->∃v,d+k<=v/\v<d+l+c/\m.getD u 0=p.getD v 0:=λu hu=>by
   have:=pm.mem_iff.1 (O1 hu);rcases gn.1 this with z|z
   .obtain ⟨v,_,o,e⟩:=qV (i:=0) z;rw[e,X v o];show⟨_,by lia,by lia,rfl⟩
   .obtain ⟨v,_,o,e⟩:=qV (i:=0) z;rw[e,U v o];show⟨_,by lia,by lia,rfl⟩
  have um:=tK.1 um;show h _ g' ((PB Z ?_).trans I) (λj hj=>by rw[yW Z,Zz ∅]) λu v u1 u2 o=>?_
  .have:x++y=p.extract (d+k) (d+k+m.size):=by rw[show d+k+m.size=d+l+c by lia];simp only[x,y];rw[Array.extract_append_extract,a0z ∅,Nat.max_eq_right ∅]
   rw[<- this,Array.perm_iff_toList_perm,qc];show pm
  .rw [yW Z,yW Z];by_cases a1:u<d+k
   .rw [Zz (show ¬ (d+k<=u/\u<d+k+m.size) by lia)];have F4:∀v,d+k<=v->v<d+l+F->lt (p.getD v 0) (p.getD u 0)=ag:=λv v1 o=>by
     by_cases z:v<d+l
     .exact L u v u1 ∅ z
     .exact F2 u v u1 a1 ∅ o
    by_cases a2:d+k<=v/\v<d+k+m.size
    .rw [Z_ a2];obtain⟨z,z1,z2,e⟩:=mp (v-(d+k)) ∅;rw[e];show F4 z z1 ∅
    .rw [Zz a2];by_cases a3:v<d+k
     .exact L u v u1 u2 ∅
     .exact F4 v ∅ ∅
   .by_cases a2:u<d+k+m.size
    .rw [Z_ (show d+k<=u/\u<d+k+m.size by lia)];by_cases a3:v<d+k+m.size
     .rw [Z_ (show d+k<=v/\v<d+k+m.size by lia)];show um _ _ ∅ ∅
     .rw [Zz (show ¬ (d+k<=v/\v<d+k+m.size) by lia)];obtain⟨z,z1,z2,e⟩:=mp (u-(d+k)) ∅;rw[e];by_cases z3:z<d+l
      .exact F3 z v ∅ z3 ∅ ∅
      .exact K z v ∅ ∅ ∅
    .rw [Zz (show ¬ (d+k<=u/\u<d+k+m.size) by lia),Zz (show ¬ (d+k<=v/\v<d+k+m.size) by lia)];show K u v ∅ u2 ∅
 have ex:(p.map (bt it)).extract (d+k) (d+l)=x.map (bt it):=by rw[si]
 have ey:(p.map (bt it)).extract (d+l) (d+l+c)=y.map (bt it):=by rw[si]
 rw[ex,ey];have an:∀i,i<x.size->x.getD i 0<n:=λi J=>by rw[X i J];show I.bd ∅
 have bn:∀i,i<y.size->y.getD i 0<n:=λi J=>by rw[U i J];show I.bd ∅
 have ux:Up lt x x.size:=λi j a b=>by rw[X i ∅,X j b];show L _ _ ∅ ∅ ∅
 have uy:Up lt y y.size:=λi j a b=>by rw[U i ∅,U j b];show K _ _ ∅ ∅ ∅
 have g1:∀i,i<x.size->lt (x.getD i 0) (y.getD 0 0)=ag:=λi J=>by rw[X i J,U 0 ∅];show O.as _ _ (k3 _ ∅ ∅)
 have g2:∀j,j<y.size->lt (x.getD (x.size-1) 0) (y.getD j 0)=ag:=λj hj=>by rw[X _ ∅,U j hj,show d+k+(x.size-1)=d+l-1 by lia];show O.as _ _ (c2 _ ∅ ∅)
 show aQ (λ_=>bh (Pc hA O ∅ ∅ an bn ux uy g1 (λz hz=>?_) fin)) λ_=>bh (Pb hA O ∅ ∅ an bn ux uy g1 g2 fin);obtain⟨j,_,j2,e⟩:=qV (i:=0) hz;rw[e];show g2 j j2
end
theorem wM{α:Type}{x y z:α}{l2:List α}:∀l1:List α,((l1++x::y::l2).set l1.length z).eraseIdx (l1.length+1)=l1++z::l2
 |[]=>rfl
 |a::l1=>congrArg (a :: ·) (wM l1)
noncomputable def Rn(lt:Nat->Nat->Bool)(p:Array Nat):List (Nat×Nat×Nat)->Nat->Nat->Prop
 |[],a,b=>a=b
 |r::l,a,b=>r.1=a/\1<=r.2.1/\y7 lt p a r.2.1/\Rn lt p l (a+r.2.1) b
section
variable{lt:Nat->Nat->Bool}{p p':Array Nat}
theorem Rn.len:∀{l:List (Nat×Nat×Nat)} {a b:Nat},Rn lt p l a b->a+l.length<=b
 |[],a,b,h=>ml h
 |r::l,a,b,⟨_,h1,_,h⟩=>by have:=Rn.len h;rw[fj];lia
theorem Rn.keep:∀{l:List (Nat×Nat×Nat)} {a b:Nat},Rn lt p l a b->(∀i,a<=i->i<b->p'.getD i 0=p.getD i 0)->Rn lt p' l a b
 |[],a,b,h,_=>h
 |r::l,a,b,⟨e,h1,u,h⟩,k=>by have:=Rn.len h;show⟨e,h1,λi j d c m=>?_,h.keep λi d c=>k i ∅ c⟩;rw[k i d ∅,k j ∅ ∅];show u i j d c m
theorem Rn.same:∀{l m:List (Nat×Nat×Nat)} {a b:Nat},Rn lt p l a b->l.map (λr=>(r.1,r.2.1))=m.map (λr=>(r.1,r.2.1))->Rn lt p m a b
 |[],m,a,b,h,e=>by
  cases m with
  |nil=>show h
  |cons _ _=>cases e
 |r::l,m,a,b,⟨e1,h1,u,h⟩,e=>by
  cases m with
  |nil=>cases e
  |cons r' m =>
   rw[cf,cf,Ej,Prod.mk.injEq] at e;obtain⟨⟨j,c⟩,d⟩:=e;show⟨j▸e1,c▸h1,c▸u,?_⟩;rw[<- c];show h.same d
theorem Rn.split:∀{l m:List (Nat×Nat×Nat)} {a b:Nat},Rn lt p (l++m) a b ->∃c,Rn lt p l a c/\Rn lt p m c b
 |[],m,a,b,h=>⟨a,rfl,h⟩
 |r::l,m,a,b,⟨e,h1,u,h⟩=>by obtain⟨c,x,y⟩:=Rn.split h;show⟨c,⟨e,h1,u,x⟩,y⟩
theorem Rn.join:∀{l m:List (Nat×Nat×Nat)} {a b c:Nat},Rn lt p l a c->Rn lt p m c b->Rn lt p (l++m) a b
 |[],m,a,b,c,h,k=>by cases h;show k
 |r::l,m,a,b,c,⟨e,h1,u,h⟩,k=>⟨e,h1,u,h.join k⟩
end
section
variable{Ω:bg}{w:a_}{A:br}{E:Q0c}{s:ak}{κ:kh}{it:Array d_}{n:Nat}{lt:Nat->Nat->Bool}{p:Array Nat}{q:Array (Nat×Nat×Nat)}{g:Nat}
theorem GL{i lo:Nat}{Q:Bool->dg->Prop}(hA:Asks Ω w A s κ it n lt)(O:eJ lt)(hp:Pn n p)(U:Rn lt p q.toList 0 lo)(hlo:lo<=n)(I:i+1<q.size)
  (h:∀p' z g',Pn n p'->(∀j,lo<=j->p'.getD j 0=p.getD j 0)->Rn lt p' z.toList 0 lo->z.size+1=q.size->Q ae (dG κ it p' z g')):
  wpS (au Ω w) A E s (mergeAt' i) Q (dG κ it p q g):=by
 obtain⟨⟨a,m,d⟩,X⟩:∃x,q[i]?=aa x:=⟨_,qe ∅⟩;obtain⟨⟨J,l,o⟩,h2⟩:∃x,q[i+1]?=aa x:=⟨_,qe I⟩;have g1:q.toList[i]?=aa (a,m,d):=by rw[qd];show X
 have g2:q.toList[i+1]?=aa (J,l,o):=by rw[qd];show h2
 obtain⟨l1,l2,e,hl⟩:∃l1 l2,q.toList=l1++(a,m,d)::(J,l,o)::l2/\l1.length=i:=by
  show⟨q.toList.take i,q.toList.drop (i+2),?_,by simp;lia⟩;obtain⟨hx,ex⟩:=dh.1 g1;obtain⟨Z,ey⟩:=dh.1 g2
  conv=>lhs;rw[<- Dr i q.toList,nz hx,nz Z,ex,ey]
 rw[e] at U;obtain⟨c,r1,e1,L,u1,Y,K,u2,y⟩:=U.split;dsimp only at e1 L u1 Y K u2 y;subst e1;subst Y;have b1:=r1.len;have b2:=y.len;show PD hA O hp X h2 L K ∅ u1 u2 λp' g' F k u=>h p' _ g' F (λj v=>k j ∅) ?_ ?_
 .have eq:((q.setIfInBounds i (a,m+l,d)).eraseIdxIfInBounds (i+1)).toList=l1++(a,m+l,d)::l2:=by
   have:((q.setIfInBounds i (a,m+l,d)).eraseIdxIfInBounds (i+1)).toList=(q.toList.set i (a,m+l,d)).eraseIdx (i+1):=by simp[a1h,I]
   rw[this,e,<- hl];show wM l1
  rw[eq];show Rn.join (c:=a) (r1.keep λj _ v=>k j (.inl v)) ⟨rfl,by dsimp only;lia,u,?_⟩;dsimp only;rw[<- Dp];show y.keep λj v _=>k j (.inr v)
 .simp [a1h,I];lia
def PF{α c a:Type}{F:c->a->StateT dg gb α}{P:a->dg->Prop}{m:StateT dg gb α}{Q:α->dg->Prop}{st:dg}{M:l_}(d:∀x y st,P y st->wpS M A E s (F x y) Q st)(h2:(∀x y st,P y st->wpS M A E s (F x y) Q st)->wpS M A E s m Q st):wpS M A E s m Q st:=h2 d
theorem UQ{Q:Unit->dg->Prop}(hA:Asks Ω w A s κ it n lt)(O:eJ lt)(hp:Pn n p)(h1:1<=n)
  (h:∀p' o g',Pn n p'->y7 lt p' 0 n->Q () (dG κ it p' o g')):wpS (au Ω w) A E s sortRuns' Q (dG κ it p #[] g):=by
 have hs:=hp.size;unfold sortRuns';show bh (k_ ?_);simp -zeta -zetaHave only[Ew,hs]
 extract_lets
 show bh (jj (iw (I:=λx c st=>∃p' o g' lo,st=dG κ it p' o g'/\c=(af,lo)/\Pn n p'/\Rn lt p' o.toList 0 lo/\lo<=n/\(x<=lo\/lo=n)) (Q:=λc st=>∃p' o g',st=dG κ it p' o g'/\c=(af,n)/\Pn n p'/\Rn lt p' o.toList 0 n) ?_ ?_ ⟨p,#[],g,0,rfl,rfl,hp,rfl,by lia,.inl (bp _)⟩) ?_)
 .rintro x c st _ (hx:x<n) ⟨p',o,g',lo,rfl,rfl,J,hq,hlo,hxl⟩
  extract_lets -merge
  rename_i jp fo _;show aQ (λ(e:lo >= n)=>by
   have e2:lo=n:=by lia
   subst e2;show bu ⟨p',o,g',rfl,rfl,J,hq⟩) λ(e:¬ lo >= n)=>?_
  show bh (O9 hA O J ∅ λm p1 z k1 m1 m2 u1=>?_);have v:=hq.keep (p':=p1) λi _ Z=>k1 i Z
  dsimp -zeta -zetaHave only
  extract_lets -merge
  show PF (F:=jp) (P:=λm st=>∃p1,st=dG κ it p1 o g'/\Pn n p1/\Rn lt p1 o.toList 0 lo/\1<=m/\lo+m<=n/\y7 lt p1 lo m) (λ_ m st ⟨p1,U,z,v,m1,m2,u1⟩=>?_) λX=>aQ (λe2=>?_) λe2=>X () m _ ⟨p1,rfl,z,v,m1,m2,u1⟩
  .subst U;show bh (k_ ?_)
   extract_lets -merge
   rename_i jp2;show PF (F:=λ_:Unit=>jp2) (P:=λ_ st=>∃p2 q2 g2,st=dG κ it p2 q2 g2/\Pn n p2/\Rn lt p2 q2.toList 0 lo/\y7 lt p2 lo m) (λ_ _ st ⟨p2,q2,g2,U,d,a,u2⟩=>?_) λX=>?_
   .subst U;show bh (mh (bu ⟨p2,q2.push (lo,m,0),g2,lo+m,rfl,rfl,d,?_,m2,by lia⟩));rw[Array.toList_push];show a.join ⟨rfl,m1,u2,rfl⟩
   .show wpS _ _ _ _ (match o.back? with|some (s1,n1,_)=>_|_=>_) _ _
    cases hb:o.back? with
    |none=>show X () () _ ⟨p1,o,g',rfl,z,v,u1⟩
    |some r =>
     obtain⟨s1,n1,z1⟩:=r
     dsimp -zeta -zetaHave only
     extract_lets pw
     show bh (jj (iw (I:=λx c st=>c.1=af /\∃p2 q2 g2,st=dG κ it p2 q2 g2/\Pn n p2/\Rn lt p2 q2.toList 0 lo/\y7 lt p2 lo m) (Q:=λc st=>c.1=af /\∃p2 q2 g2,st=dG κ it p2 q2 g2/\Pn n p2/\Rn lt p2 q2.toList 0 lo/\y7 lt p2 lo m) ?_ (λc st h=>h) ⟨rfl,p1,o,g',rfl,z,v,u1⟩) ?_)
     .rintro y ⟨_,_⟩ st _ hy ⟨rfl,p2,q2,g2,rfl,d,a,u2⟩;show bh (k_ ?_);show wpS _ _ _ _ (match if q2.size>1 then q2[q2.size-2]? else af with|some (_,_,older)=>_|_=>_) _ _;by_cases c1:q2.size>1
      .rw [Z_ c1];obtain⟨⟨r1,r2,r3⟩,er⟩:∃r,q2[q2.size-2]?=aa r:=⟨_,qe ∅⟩;rw[er];show aQ (λ_=>bu ⟨rfl,p2,q2,g2,rfl,d,a,u2⟩) λ_=>bh (GL hA O d a ∅ (show q2.size-2+1<q2.size by lia) λp3 q3 g3 L k3 K _=>bu ⟨rfl,p3,q3,g3,rfl,L,K,λi j i1 i2 i3=>?_⟩);rw[k3 i i1,k3 j ∅];show u2 i j i1 i2 i3
      .rw [Zz c1];show bu ⟨rfl,p2,q2,g2,rfl,d,a,u2⟩
     .rintro ⟨_,_⟩ st ⟨rfl,p2,q2,g2,rfl,d,a,u2⟩;show bh (mh (X () () _ ⟨p2,_,g2,rfl,d,a.same ?_,u2⟩));show sd λi=>?_;rw[ft,ft,qd,qd];show _=a0l _ (q2.modify _ _)[i]?;rw[Array.getElem?_modify];split
      .cases q2[i]?<;>rfl
      .rfl
  .refine bh (oy (i_ ⟨rfl,?_⟩));have f1:m<=fo:=by show m<=min (n-lo) _;have:m<_:=e2;lia
   have f2:lo+fo<=n:=by show lo+min (n-lo) _<=n;lia
   show bh (Us hA O z f2 m1 f1 u1 λp2 d k2 u2=>X () fo _ ⟨p2,rfl,d,v.keep λi _ Z=>k2 i Z,by lia,f2,u2⟩)
 .rintro c st ⟨p',o,g',lo,rfl,rfl,J,hq,hlo,(hxl:max 0 n<=lo\/lo=n)⟩;have e:lo=n:=by lia
  subst e;show⟨p',o,g',rfl,rfl,J,hq⟩
 .rintro c st ⟨p1,q1,g1,rfl,rfl,z,v⟩;show bh (jj (iw (I:=λx c st=>c.1=af /\∃p2 q2 g2,st=dG κ it p2 q2 g2/\Pn n p2/\Rn lt p2 q2.toList 0 n/\(q2.size<=1\/q2.size+x<=n)) (Q:=λc st=>c.1=af /\∃p2 q2 g2,st=dG κ it p2 q2 g2/\Pn n p2/\Rn lt p2 q2.toList 0 n/\q2.size<=1) ?_ ?_ ⟨rfl,p1,q1,g1,rfl,z,v,.inr (by have:=v.len;rw[gz] at this;lia)⟩) ?_)
  .rintro y ⟨_,_⟩ st _ hy ⟨rfl,p2,q2,g2,rfl,d,a,Y⟩;show bh (k_ ?_)
   extract_lets
   show aQ (λ(e:q2.size<=1)=>bu ⟨rfl,p2,q2,g2,rfl,d,a,e⟩) λ(e:¬ q2.size<=1)=>?_;rename_i i1 bf i;have Z:∀(c:Prop) [Decidable c],(if c then q2.size-2-1 else q2.size-2)+1<q2.size:=λc _=>by split<;>lia
   show bh (GL hA O d a (bp _) (Z _) λp3 q3 g3 L _ K z3=>bu ⟨rfl,p3,q3,g3,rfl,L,K,by lia⟩)
  .rintro ⟨_,_⟩ st ⟨rfl,p2,q2,g2,rfl,d,a,(Y:q2.size<=1\/q2.size+max 0 n<=n)⟩;show⟨rfl,p2,q2,g2,rfl,d,a,by lia⟩
  .rintro ⟨_,_⟩ st ⟨rfl,p2,q2,g2,rfl,d,a,Y⟩;show bu (h p2 q2 g2 d ?_);rw[<- gz] at Y
   cases hl:q2.toList with
   |nil =>
    rw[hl] at a;have:0=n:=a;lia
   |cons r l =>
    rw[hl] at a Y
    cases l with
    |cons _ _=>simp at Y
    |nil =>
     obtain⟨_,_,u,e⟩:=a;have e:0+r.2.1=n:=e;rw[o_] at e
     rwa [e] at u
end
end L4
namespace L8
open PySem.Spec PyProof.Rows L2 L3 L4
def PH{K:ao}{T:ah->Prop}{H H':Hp}{p:ah}(wr:Wr H p)(j:¬ T p)(c:∀b u,b≠p->H b=aa u->H' b=aa u):Fits K T T H H':=by
 have ne:∀a,T a->a≠p:=λa t e=>j (e▸t);have d:∀a xs,H a=aa (.tup xs)->a≠p:=λa xs z y=>by subst y;rcases wr with⟨_,k⟩|⟨_,k⟩|⟨_,_,k⟩<;>rw[z] at k<;>cases k
 have h:∀a o u,H a=aa (.pZ o u)->a≠p:=λa o u z y=>by subst y;rcases wr with⟨_,k⟩|⟨_,k⟩|⟨_,_,k⟩<;>rw[z] at k<;>cases k
 show⟨λa xs z=>c _ _ (d a xs z) z,λa ns z=>z.elim (λ⟨o,y⟩=>.inl ⟨o,c _ _ (h a o _ y) y⟩) .inr,λa xs z s=>⟨c _ _ (ne a s) z,s⟩,λa xs z s=>⟨c _ _ (ne a s) z,s⟩,λa o xs z s=>⟨c _ _ (ne a s) z,s⟩⟩
theorem wN:∀{l:List D} {kd:KD} {r:List D×KD},foldM R o l kd=aa r->r.1.length=l.length
 |[],kd,r,h=>by cases h;rfl
 |v::l,kd,r,h=>by
  unfold foldM at h;split at h
  .obtain ⟨p,e,rfl⟩:=lh.1 h;rw[fj,fj,wN e]
  .cases h
section
variable{K:ao}{R:J0}{io il j:Nat}{H₀ H:Hp}{S:ah->Prop}{w:Nat->ah}{σ:L2.St}{ρ:aW}{G:List (D×V)}{o:D}{vs xs:List D}{q0:Nat->ay->Prop}{ks:List nV}{r:List D×KD}{ns:Q0e}{Q:VK}
abbrev WH(K:ao)(R:J0)(io il j:Nat):TE:=AM 1 [io,j] (LS K (oK il)) (vA 0) (λ_ H Q=>Q ae H) (MC (JU K R) [] E0 (k8 (oK 1) (k8 (oK 0) (k8 (oK 2) MA))))
theorem PJ(st:ST K H₀ S w σ H ρ G)(x:aT io (fG ρ)=aa o)(A:aT il (fG ρ)=aa (.lst vs))(o0:ρ[j]?=aa (.ow (.cN q0 ks xs)))(hf:foldM R o vs (ks,xs)=aa r)(hn:r.1=ns.map D.int)(hz:vs.length<bj)
  (k:∀c H',H' c=aa (.lst (ns.map V.int))->ST K H₀ S w σ H' (ρ.set j (.ow (.cN (adr q0) r.2.1 r.2.2))) G->Q (.ref c) H'):WH K R io il j σ H Q:=by
 obtain⟨a0,b0,ob,χ,X,⟨U,hq⟩,dk⟩:=st.own j _ o0;subst U;have wr:Wr H (w j):=.inr (.inr ⟨_,_,X⟩);have nT:¬ SO S w ρ (w j):=λz=>z.2 j _ o0 rfl;have nl:ns.length=vs.length:=by have:=wN hf;rw[hn,bo] at this;show this
 have rd:=st.rd;obtain⟨vo,so,dno⟩:=rd io o (by unfold aT at x;cases h:(fG ρ)[io]? with|none=>rw[h] at x;cases x|some z=>rw[h] at x;cases z with|none=>cases x|some z=>cases x;rfl);obtain⟨vl,sl,dl⟩:=rd il _ (by unfold aT at A;cases h:(fG ρ)[il]? with|none=>rw[h] at A;cases A|some z=>rw[h] at A;cases z with|none=>cases A|some z=>cases A;rfl);symm at dl;obtain⟨l,us,rfl,Y,tl,du⟩:=dl;have lw:l≠w j:=λz=>nT (z▸tl);have ul:us.length=vs.length:=du.len.symm;show⟨_,sl,l,rfl,⟨_,dS.of Y⟩,λc m=>?_⟩;have al:l≠c:=λz=>by rw[z,m] at Y;cases Y
 have ap:w j≠c:=λz=>by rw[z,m] at X;cases X
 let T:ah->Prop:=λa=>SO S w ρ a/\a≠c
 have Fu:¬ T (w j):=λz=>nT z.1;have F0:Fits K (SO S w ρ) T H (upd H c (.lst [])):=(Fits.fresh m).trans (.same (aG m));show⟨λi mm H1 ys=>i+mm=vs.length /\∃kd1 r1,foldM R o (vs.drop i) kd1=aa r1/\r1.1=(ns.drop i).map D.int/\r1.2=r.2/\ys=(ns.take i).map V.int/\H1 c=aa (.lst ys)/\(∀b u,b≠w j->H b=aa u->H1 b=aa u) /\∃o1 F,H1 (w j)=aa (.dX o1 F)/\F.map (·.1)=kd1.1/\aH K T H1 kd1.2 (F.map (·.2.2)),
  ⟨vs.length,by lia,(χ.map (λz:KX×V×V=>z.1),xs),r,by rw[se];show hf,hn,rfl,rfl,aI,λb u n h=>by rw[aL (aP h m)];show h,ob,χ,by rw[aL ap];show X,rfl,aH.fits F0 _ _ dk⟩,?_⟩
 rintro i mm H1 ys ⟨e1,kd1,r1,p,e3,e4,U,Z,O,o1,F,e8,e9,zu⟩;show⟨Z,?_⟩;have q:=O _ _ lw Y;by_cases hi:i<vs.length
 .refine .inr ⟨⟨_,us[i],dS.of q,by simp[ul,hi]⟩,λv H2 hy=>?_⟩;obtain⟨rfl,hy⟩:=hy;have hv:=hy _ (dS.of q);rw[cj ∅] at hv;cases hv;rw[nz hi] at p;have L:i<ns.length:=by lia
  rw[nz L,cf] at e3;unfold foldM at p;split at p
  case h_2=>cases p
  rename_i r2 hR;obtain⟨r3,Fz,er⟩:=lh.1 p;subst er;injection e3 with e3 e3';have F1:Fits K (SO S w ρ) (SO S w ρ) H H2:=PH wr nT O;have F2:Fits K (SO S w ρ) T H H2:=⟨F1.t,F1.s,λa xs z s=>⟨(F1.l a xs z s).1,s,aP z m⟩,λa xs z s=>⟨(F1.d a xs z s).1,s,aP z m⟩,λa o xs z s=>⟨(F1.e a o xs z s).1,s,aP z m⟩⟩;obtain⟨ui,J,dvi⟩:=du.get (cj hi);rw[cj ∅] at J;cases J;show⟨by show[(σ[io]?).join,(σ[j]?).join]=_;rfl,?_⟩;show(if ae=ae then _ else _);rw[Z_ rfl];show⟨vo,by show aa ((σ[io]?).join)=_;rw[so];rfl,us[i],rfl,.ref (w j),by show aa ((σ[j]?).join)=_;rw[a0];rfl,?_⟩;show⟨T,[o,vs[i]],[vo,us[i]],w j,o1,F,kd1.2,r2,rfl,λa z=>⟨st.FR a ?_,λy=>by rw[y,Z] at z;cases z⟩,Fu,e8,aH.cons (Dn.fits F2 _ _ dno) (aH.cons (Dn.fits F2 _ _ dvi) aH.nil),zu,by rw[e9];show hR,λv2 H' o' I hb hp' ek dx dv=>?_⟩
  .cases h:H a with
   |none=>rfl
   |some u =>
    have na:a≠w j:=λy=>by rw[y,e8] at z;cases z
    rw[O a u na h] at z;cases z
  .rw [e3] at dv;symm at dv;subst dv;have ea:=hb _ _ ap.symm Z;have F3:Fits K T T H' (upd H' c (.lst (ys++[V.int ns[i]]))):=.upd (.inl ⟨_,ea⟩) λz=>z.2 rfl;show⟨ea,by rw[U,bo,ij];lia,mm-1,by lia,by lia,r2.2,r3,Fz,e3',e4,by rw[U,List.take_succ_eq_append_getElem L,jd];rfl,aI,λb u n h=>?_,o',I,by rw[aL ap];show hp',ek,aH.fits F3 _ _ dx⟩;rw[aL (aP h m)];show hb _ _ n (O _ _ n h)
 .refine .inl ⟨⟨_,dS.of q,by lia⟩,k c H1 ?_ (wJ st o0 O ⟨o1,F,e8,⟨?_,ob,hq⟩,?_⟩)⟩
  .rw [Z,U,rh ∅]
  .rw [sg ∅] at p;cases p;rw[e9,<- e4]
  .rw [sg ∅] at p;cases p;rw[<- e4];show aH.fits (.mono λa z=>z.1) _ _ zu
end
theorem O_(C:Cl X.Ω X.w X.K X.mg X.ω gI k y ps (JU X.K R))(hr:cZ k X.A)(O:X.calm=ae)(hm:X.mg "sum"=af)
  (hi:PI X tg iter (LS X.K (oK il))) (hg:∀a C pn ex s H,PG (blk X ([v]++fs) sc a C pn ex s H) tg (vA 0)) (J:∀a C pn ex s H,PA (blk X ([v]++fs) sc a C pn ex s H) (e::es) (k8 (oK 1) (k8 (oK 0) (k8 (oK 2) MA))))
  (x:∀a C pn ex s H,Gl (blk X ([v]++fs) sc a C pn ex s H) y) (he:∀a C pn ex s H,ar (e::es) (blk X ([v]++fs) sc a C pn ex s H).env=(ag,eval e (blk X ([v]++fs) sc a C pn ex s H).env)::ar es (blk X ([v]++fs) sc a C pn ex s H).env) (m:∀a C pn ex s H,(cy cpos (ar es (blk X ([v]++fs) sc a C pn ex s H).env)).any (·.1)=ag) (I:Zu y)
  (B:P5 X.env.scope.names sc X.N [v] fs [io,j]=ae:=by rfl) (hs:Zo X iter:=by intro _;rfl) (z:Gl X "sum":=by rfl):F5 X (.Call (.Name "sum" p) [.ListComp (.Call (.Name y p2) (e::es) [] cpos) [⟨tg,iter,[],0⟩] sc ν] [] spos) (LB R io il j):=by
 obtain⟨F,n,hk,hb⟩:=C;show imp (gH (vQ O) z hm a0e (b8 (FX (g:=vA 0) (tf:=λ_ H Q=>Q ae H) O (lR B) hi hg (λa C pn ex s H=>FW) (λa C pn ex s H=>mX F hr (x a C pn ex s H) n hk hb .nil MN (J a C pn ex s H) I (he a C pn ex s H) (m a C pn ex s H)) hs) gG)) ?_;rintro σ H Q ⟨H₀,S,w,ρ,G,Q3,hl2,st,⟨r,e,q⟩,k⟩;obtain⟨o,eo,f1⟩:=bnd e;obtain⟨l,el,f2⟩:=bnd f1;obtain⟨vs,ev,Z⟩:=bnd f2;obtain⟨⟨q0,ks,xs⟩,ed,Y⟩:=bnd Z;obtain⟨r2,ef,U⟩:=bnd Y;obtain⟨ns,en,c⟩:=bnd U
 clear e f1 f2 Z Y U
 have L:l=.lst vs:=by cases l<;>first|cases ev;rfl|cases ev
 subst L;by_cases h:vs.length<i5
 .rw [Z_ h] at c;cases c;show WH X.K R io il j σ H λu H1=>ZW [u] H1 Q;show PJ st eo el (qS ed) ef (ints_of en) (by rw[fv];show h) λψ H' J d=>⟨ψ,ns,rfl,J,k w (.int ns.sum) H' _ (.int ns.sum) d (by symm) q⟩
 .rw [Zz h] at c;cases c
end L8
namespace L9
open PySem.Spec PyProof.Rows L2 L3 L4 L5 L8
def NSs(K:ao)(C:ah):List ah->Prop
 |[]=>True
 |D::ds=>yR K C D/\NSs K C ds
theorem NSs.at{K:ao}{C D:ah}:∀{ds:List ah},NSs K C ds->D∈ds->yR K C D
 |[],_,h=>by cases h
 |_::_,n,h=>by
  rcases bx.1 h with rfl|h
  .exact n.1
  .exact n.2.at h
structure RO (K:ao) (R:ah):Prop where
 a:xb K (.ref R) (.type "BaseException")=aa ae
 b:PySem.W.isClsIn K R=ae
 c:PySem.W.typeIn K (.ref R)=aa (.type "type")
structure XO (K:ao) (R C:ah) (ds:List ah):Prop where
 q:tF K C
 v:xb K (.ref C) (.type "ValueError")=aa ae
 r:xb K (.ref C) (.ref R)=aa ae
 d:NSs K C ds
def XO.exm{K:ao}{R C:ah}{ds:List ah}(z:XO K R C ds)(o:RO K R):xl K (.ref C) (.ref R)=aa ae:=Vf o.a o.b o.c z.r
structure HO6 (X:Cx) (e C:ah) (ds:List ah):Prop where
 g:oV X e C
 q:tF X.K C
 v:xb X.K (.ref C) (.type "ValueError")=aa ae
 d:NSs X.K C ds
 i:X.mg "isinstance"=af
 w:X.mg "ValueError"=af
def XO.ho(z:XO X.K R C ds)(h:oe.cls=.ref C)(i:X.mg "isinstance"=af)(w:X.mg "ValueError"=af):HO6 (hcx X (aa (.ref e)) (pn++[(e,oe)])) e C ds :=
 ⟨⟨oe,gm _ de,h⟩,z.q,z.v,z.d,i,w⟩
section
variable{X:Cx}{i:Nat}{n x c:aj}{e C D:ah}{ds:List ah}{p p1 p2 ν:bq}
def Gb(z:HO6 X e C ds)(v:X.mg x=aa (.ref C))(hN:X.N[i]?=aa n:=by rfl)(l:qN X.env.scope n:=by walk_at "1")(u:Zu n:=by decide)(j:Zt n:=by decide)
  (o:Gl X "isinstance":=by rfl) (y:Gl X x:=by rfl) (h:Zu x:=by decide)
  (m:ar [.Name n p1,.Name x p2] X.env=(ag,eval (.Name n p1) X.env)::ar [.Name x p2] X.env:=by rfl) (a:ar [.Name x p2] X.env=(ag,eval (.Name x p2) X.env)::ar [] X.env:=by rfl) (d:(cy ν (ar [.Name x p2] X.env)).any (·.1)=ag:=by rfl):
  aZ X (.Call (.Name "isinstance" p) [.Name n p1,.Name x p2] [] ν) (wW c e ae i):=Ad z.g z.q z.i v OK hN l u j o y h m a d
def qC(z:HO6 X e C ds)(A:X.mg x=aa (.ref D))(u:D∈ds:=by simp)(hN:X.N[i]?=aa n:=by rfl)(m:qN X.env.scope n:=by walk_at "1")(y:Zu n:=by decide)(l:Zt n:=by decide)
  (v:Gl X "isinstance":=by rfl) (F:Gl X x:=by rfl) (j:Zu x:=by decide)
  (o:ar [.Name n p1,.Name x p2] X.env=(ag,eval (.Name n p1) X.env)::ar [.Name x p2] X.env:=by rfl) (a:ar [.Name x p2] X.env=(ag,eval (.Name x p2) X.env)::ar [] X.env:=by rfl) (h:(cy ν (ar [.Name x p2] X.env)).any (·.1)=ag:=by rfl):
  aZ X (.Call (.Name "isinstance" p) [.Name n p1,.Name x p2] [] ν) (wW c e ag i):=Ad z.g z.q z.i A (z.d.at u).one hN m y l v F j o a h
def Ga(z:HO6 X e C ds)(hN:X.N[i]?=aa n:=by rfl)(j:qN X.env.scope n:=by walk_at "1")(o:Zu n:=by decide)(h:Zt n:=by decide)
  (m:Gl X "isinstance":=by rfl) (u:Gl X "ValueError":=by rfl)
  (l:ar [.Name n p1,.Name "ValueError" p2] X.env=(ag,eval (.Name n p1) X.env)::ar [.Name "ValueError" p2] X.env:=by rfl) (a:ar [.Name "ValueError" p2] X.env=(ag,eval (.Name "ValueError" p2) X.env)::ar [] X.env:=by rfl) (d:(cy ν (ar [.Name "ValueError" p2] X.env)).any (·.1)=ag:=by rfl):
  aZ X (.Call (.Name "isinstance" p) [.Name n p1,.Name "ValueError" p2] [] ν) (wW c e ae i):=Qi z.g z.q z.i z.w PyProof.Rows.Boot.«ValueError» (TZ (by decide+kernel) z.v) hN j o h m u (by decide) (by decide) l a d
end
def isA(c:aj)(e i:Nat):List D->AF
 |[]=>aJ
 |.bl b::l=>aA (wW c e b i) (isA c e i l)
 |_::_=>λ_=>af
noncomputable def oY:List D->Bool
 |[]=>ae
 |.bl _::l=>oY l
 |_::_=>ag
theorem EC(h:aT i ρ=aa (.exc c e)):∀l:List D,oY l=ae->isA c e i l ρ=aa l
 |[],_=>rfl
 |d::l,b=>by
  cases d with
  |bl x =>
   have a:=EC h l b;unfold isA aA wW;rw[a,h];simp
  |_=>cases b
inductive Ph (P:bg) (w:a_) (ω:ba):Prop
 |mk:Ph P w ω
section
variable{P:bg}{w:a_}{K:ao}{mg:Q0d}{ω:ba}{x:aj}{st:cn}{ps:Q0g}{n np:Nat}{b:SF}{key:EF}
def zy(c:Cl P w K mg ω CX j x ps sp)(k n:Nat)(h:j<=k:=by decide):Cl P w K mg ω CX (k+n) x ps sp:=c.up (ig h (a0C k n))
theorem yX(j:Ph P w ω)(k:Nat)(F:kT)(e:F=bM n np b)(N:Q0g)(D:Df K mg x st ps)
  (h:∀{f:ah} {a:ai} {A:br} {Γ:List df} {s:ak} {H:Hp} {E:XK},cZ k (A.deeper (envOfC x (aF st) s.heap.objs.size f a))->N.Nodup->fU (eQ gI P w K mg ω N x (aF st) f a A Γ s H E).CN (bV st) b)
  (S:cH N ps (aF st):=by show⟨rfl,rfl,rfl,by decide+kernel,rfl,by decide+kernel,by decide+kernel⟩) (d:N.length=n:=by rfl) (c:ps.length=np:=by rfl):Cl P w K mg ω gI (k+1) x ps (BS K F):=e▸fd4 D h S d c
theorem fq5(j:Ph P w ω)(k:Nat)(F:kT)(e:F=bM n np b)(N:Q0g)(D:Df K mg x st ps)
  (h:∀{f:ah} {a:ai} {A:br} {Γ:List df} {s:ak} {H:Hp} {E:XK},cZ k (A.deeper (envOfC x (aF st) s.heap.objs.size f a))->N.Nodup->fU (eQ (BU P w) P w K mg ω N x (aF st) f a A Γ s H E) (bV st) b)
  (S:cH N ps (aF st):=by show⟨rfl,rfl,rfl,by decide+kernel,rfl,by decide+kernel,by decide+kernel⟩) (d:N.length=n:=by rfl) (c:ps.length=np:=by rfl):Cl P w K mg ω (BU P w) (k+1) x ps (sp5 K mg F):=e▸fd5 D h S d c
theorem fqM(j:Ph P w ω)(k:Nat)(F:J0)(e:F=runM n np b key)(N:Q0g)(D:Df K mg x st ps)
  (h:∀{f:ah} {a:ai} {A:br} {Γ:List df} {s:ak} {H:Hp} {E:XK},cZ k (A.deeper (envOfC x (aF st) s.heap.objs.size f a))->N.Nodup ->∃xc,tS (eQ gI P w K mg ω N x (aF st) f a A Γ s H E).CN (bV st) (CO (m7 K xc N.length (wS b)) (GI K (np-1) key)))
  (S:cH N ps (aF st):=by show⟨rfl,rfl,rfl,by decide+kernel,rfl,by decide+kernel,by decide+kernel⟩) (d:N.length=n:=by rfl) (c:ps.length=np:=by rfl):Cl P w K mg ω gI (k+1) x ps (JU K F):=e▸fdM D h S d c
theorem fqL(l:Ph P w ω)(k:Nat)(F:kT)(e:F=bM n np b)(N:Q0g)(D:Df K mg x st ps)(a:tw K x=aa (c,Pt))
  (h:∀{f:ah} {A:br} {Γ:List df} {s:ak} {H:Hp} {E:XK},cZ k (A.deeper (envOfC x (aF st) s.heap.objs.size f (.ref c)))->N.Nodup->fU (eQ gI P w K mg ω N x (aF st) f (.ref c) A Γ s H E).CN (bV st) b)
  (S:cH N ps (aF st):=by show⟨rfl,rfl,rfl,by decide+kernel,rfl,by decide+kernel,by decide+kernel⟩) (j:N.length=n:=by rfl) (d:ps.length=np:=by rfl):Cl P w K mg ω gI (k+1) x ps (BS K F):=e▸Gf D a h S j d
theorem rc4(a:Ph P w ω)(k:Nat)(F:Nat->kT)(D:Df K mg x st ps)(h:∀n,Cl P w K mg ω gI (k+n) x ps (BS K (F n))->Cl P w K mg ω gI (k+n+1) x ps (BS K (F (n+1))))(e:F 0=(λ_=>.no):=by rfl):∀n,Cl P w K mg ω gI (k+n) x ps (BS K (F n))
 |0=>e▸nn4 D
 |n+1=>h n (rc4 a k F D h e n)
theorem rcM(a:Ph P w ω)(k:Nat)(F:Nat->J0)(D:Df K mg x st ps)(h:∀n,Cl P w K mg ω gI (k+n) x ps (JU K (F n))->Cl P w K mg ω gI (k+n+1) x ps (JU K (F (n+1))))(e:F 0=(λ_ _=>.no):=by rfl):∀n,Cl P w K mg ω gI (k+n) x ps (JU K (F n))
 |0=>e▸nnM D
 |n+1=>h n (rcM a k F D h e n)
variable{X:Cx}{l m:aj}{fr:List Nat}{sc:fu}{iter elt c:av}{ν pt p1 p2:bq}{kk:Nat}{it:AF}{t:TF}{e:EF}
abbrev lV(X:Cx)(fr:List Nat):List aj:=fr.map λi=>X.N.getD i ""
def UR(j:TB X (.Name l pt) iter it)(o:∀{cl C pn ex s H},aZ (blk X ([l]++lV X fr) sc cl C pn ex s H) elt e)(p:X.calm=ae:=by rfl)
  (d:∀{cl C pn ex s H},Loc (blk X ([l]++lV X fr) sc cl C pn ex s H).env.scope l:=by walk_at "0") (a:∀{cl C pn ex s H},(blk X ([l]++lV X fr) sc cl C pn ex s H).fn l=ae\/(blk X ([l]++lV X fr) sc cl C pn ex s H).env.scope.names.lookup l=aa .local:=by walk_at "2")
  (B:P5 X.env.scope.names sc X.N [l] (lV X fr) fr=ae:=by rfl) (h:Zo X iter:=by intro _;rfl):aZ X (.ListComp elt [⟨.Name l pt,iter,[],0⟩] sc ν) (bT 1 fr it (g1 0) cK e) :=
 i8.pe (NZ (ls:=[l]) p j (λ_ _ _ _ _ _ nd=>sY (i:=0) nd a0v rfl d a) (λ_ _ _ _ _ _=>F7) (λ_ _ _ _ _ _=>o) B h)
def US(j:TB X (.Name l pt) iter it)(o:∀{cl C pn ex s H},vR (blk X ([l]++lV X fr) sc cl C pn ex s H) c t)(p:∀{cl C pn ex s H},aZ (blk X ([l]++lV X fr) sc cl C pn ex s H) elt e)(q:X.calm=ae:=by rfl)
  (d:∀{cl C pn ex s H},Loc (blk X ([l]++lV X fr) sc cl C pn ex s H).env.scope l:=by walk_at "0") (a:∀{cl C pn ex s H},(blk X ([l]++lV X fr) sc cl C pn ex s H).fn l=ae\/(blk X ([l]++lV X fr) sc cl C pn ex s H).env.scope.names.lookup l=aa .local:=by walk_at "2")
  (B:P5 X.env.scope.names sc X.N [l] (lV X fr) fr=ae:=by rfl) (h:Zo X iter:=by intro _;rfl):aZ X (.ListComp elt [⟨.Name l pt,iter,[c],0⟩] sc ν) (bT 1 fr it (g1 0) t e) :=
 i8.pe (NZ (ls:=[l]) q j (λ_ _ _ _ _ _ nd=>sY (i:=0) nd a0v rfl d a) (λ_ _ _ _ _ _=>NY o) (λ_ _ _ _ _ _=>p) B h)
def cp4(d:TB X (.Tuple [.Name l p1,.Name m p2] kk pt) iter it)(o:∀{cl C pn ex s H},aZ (blk X ([l,m]++lV X fr) sc cl C pn ex s H) elt e)(p:X.calm=ae:=by rfl)
  (h:∀{cl C pn ex s H},(blk X ([l,m]++lV X fr) sc cl C pn ex s H).N.Nodup->NX (blk X ([l,m]++lV X fr) sc cl C pn ex s H) 2 (.Tuple [.Name l p1,.Name m p2] kk pt) (g2 0 1):=by show λnd=>Z4 (i:=0) (j:=1) rfl nd (by decide) (by decide))
  (B:P5 X.env.scope.names sc X.N [l,m] (lV X fr) fr=ae:=by rfl) (a:Zo X iter:=by intro _;rfl):aZ X (.ListComp elt [⟨.Tuple [.Name l p1,.Name m p2] kk pt,iter,[],0⟩] sc ν) (bT 2 fr it (g2 0 1) cK e) :=
 i8.pe (NZ (ls:=[l,m]) p d (λ_ _ _ _ _ _ nd=>h nd) (λ_ _ _ _ _ _=>F7) (λ_ _ _ _ _ _=>o) B a)
end
end L9
namespace L6
open PySem.Spec PyProof.Rows L2 L3 L4 PySem.W HS
section
variable{Ω:bg}{w:a_}{A:br}{E:Q0c}{s:ak}{vs us:Q0f}{lt:Nat->Nat->Bool}
theorem BI(a:s.heap.get? t=aa o)(d:o.cls=.type "list")(c:o.data=.seq ι.toArray n)(l:ι.length<=bj)
  (h:∀h',s.heap.objs.size<=h'.objs.size->(∀b u,s.heap.get? b=aa u->h'.get? b=aa u)->Q ι {s with heap:=h' }):ax (au Ω w) A (collect (.ref t)) Q E s:=by
 unfold collect;show aq (Wa (lx Ys ?_));rw[nj Yo]
 wp_walk
 show⟨qq xv _,lx Yt ?_⟩;rw[nj xv];have j:(s.heap.push {cls:=.type "list",data:=.seq #[]}).get? s.heap.objs.size=aa {cls:=.type "list",data:=.seq #[] 0}:=fw _ rfl;show Wi (R:=wants _ _) (s:={s with heap:=s.heap.push {cls:=.type "list",data:=.seq #[]} }) s.heap.objs.size t _ 0 (.inl rfl) j (cx _ a) d c ?_ (by simpa using l);have g1:=uj (fm (· ++ ι.toArray)) j rfl;show aq (Bj g1 (az ?_));simpa using h ((s.heap.push {cls:=.type "list",data:=.seq #[]}).update s.heap.objs.size (fm (· ++ ι.toArray))) (lj (bz g1)) λb u e=>(Ci _ _ (nu (bz e))).trans (cx _ e)
theorem GN{c:kh}{Q:dg->ak->Prop}(o:us.length=vs.length)(O:eJ lt)(x:1<=vs.length)(q:∀(i j:Nat) (C:Bool->ak->Prop),i<vs.length->j<vs.length->C (lt i j) s->oq Ω w A c us i j C s)
  (h:∀(st:dg) (m:List Nat),(arrOf st).map (·.2)=(m.map λi=>vs.getD i gq).toArray->failedOf st=af->m.Perm (cm vs.length)->(∀i j:Nat,i<j->j<vs.length->lt (m.getD j 0) (m.getD i 0)=ag)->Q st s):
  ax (au Ω w) A (sortRuns'.run (mj c (us.toArray.zip vs.toArray) #[] 7 af)) (λr s'=>Q r.2 s') E s:=by
 have y:mj c (us.toArray.zip vs.toArray) #[] 7 af=dG c (us.toArray.zip vs.toArray) (cm vs.length).toArray #[] 7:=by
  have e:=kas_range (us.toArray.zip vs.toArray);have z:(us.toArray.zip vs.toArray).size=vs.length:=by simp[o]
  rw[z] at e;unfold dG;rw[e]
 rw[y];rw[kat_ask_eq o] at q;show gp (UQ (n:=vs.length) (lt:=lt) (Q:=λ_ st=>∃p' l g',st=dG c (us.toArray.zip vs.toArray) p' l g'/\Pn vs.length p'/\y7 lt p' 0 vs.length) q O (my _) x λp' l g' a b=>⟨p',l,g',rfl,a,b⟩) ?_ λ_ _ z=>z;rintro⟨⟨⟩,st⟩ s' ⟨rfl,p',l,g',d,u,v⟩;dsimp only at d ⊢;subst d;show h _ p'.toList (kat_snds o rfl) rfl (by simpa using u.toList) λi j p I=>?_;have F:=u.size;have:=v i j (ie _) p ∅;simpa[ke,show i<p'.size by lia,show j<p'.size by lia] using this
theorem JY(ho:s.heap.get? a=aa (seqObj "list" vs.toArray n))(h2:2<=vs.length)(Z:vs.length<=5000)(O:eJ lt)
  (ask:∀l,(∀b u,b≠a->s.heap.get? b=aa u->l.get? b=aa u) ->∃m,(∀Q:kh->ak->Prop,Q m {s with heap:=l}->ax (au Ω w) A (keyKind' vs.toArray) Q (λ_ _=>False) {s with heap:=l}) /\∀(i j:Nat) (C:Bool->ak->Prop),i<vs.length->j<vs.length->C (lt i j) {s with heap:=l}->oq Ω w A m vs i j C {s with heap:=l})
  (h:∀c:List Nat,c.Perm (cm vs.length)->(∀i j:Nat,i<j->j<vs.length->lt (c.getD j 0) (c.getD i 0)=ag)->P (.done (.ret .none)) {s with heap:=sortedHeap s.heap a vs (c.map λi=>vs.getD i gq).toArray}):ax (au Ω w) A (Builtin.«list.sort» ⟨[.ref a],[]⟩) P E s:=by
 have ha:=bz ho;have x:=ma s.heap a (fm λ_=>(#[]:Array ai));obtain⟨e1,o1⟩:∃e1,(s.heap.update a (fm λ_=>#[])).get? a=aa (seqObj "list" #[] e1):=⟨_,q_ ho λ_=>#[]⟩;have o2:=cx (seqObj "list" #[] 0) (cx (seqObj "tuple" vs.toArray 0) o1);have Y:bj=16777216:=rfl;rw[a0b];show aq (yh ho rfl (aq (nq ho rfl (aq (qz o1 rfl (aq (Bi (aq (om (iq ?_) (ie _))) (by show vs.length<=_;lia))))) (by rw[cu];lia) (ie _))));have o:¬ vs.toArray.size<2:=by rw[cu];lia
 dsimp only;rw[Zz o,Zz o];obtain⟨m,y,F⟩:=ask _ λb u J q=>cx (seqObj "list" #[] 0) (cx (seqObj "tuple" vs.toArray 0) ((x.2 b J).trans q));show aq (gp (y _ ?_) (λ_ _ z=>z) λ_ _ z=>z.elim);show aq (gp (GN (us:=vs) (vs:=vs) (lt:=lt) (Q:=λst s'=>s' = {s with heap:=((s.heap.update a (fm λ_=>#[])).push (seqObj "tuple" vs.toArray 0)).push (seqObj "list" #[] 0)} /\∃c:List Nat,(arrOf st).map (·.2)=(c.map λi=>vs.getD i gq).toArray/\failedOf st=af/\c.Perm (cm vs.length) /\∀i j:Nat,i<j->j<vs.length->lt (c.getD j 0) (c.getD i 0)=ag) rfl O ∅ F λst c X U L K=>⟨rfl,c,X,U,L,K⟩) ?_ λ_ _ z=>z);rintro⟨⟨⟩,st⟩ s' ⟨rfl,c,d,v,p,I⟩;dsimp only at d v ⊢;rw[d,v];show aq (qz o2 rfl (aq (nq o2 rfl ?_ (ie _) (by rw[cu,bo,p.length_eq,jk];lia))));show ax _ _ (if(e1 !=e1)=ae then _ else _) _ _ _;rw[Zz (by simp)];show az (h c p I)
variable{X:Cx}
def GO(X:Cx):List V->Hp->VK->Prop:=λxs H Q=>∃(a:ah) (ys:List V) (lt:Nat->Nat->Bool),xs=[.ref a]/\H a=aa (.lst ys)/\2<=ys.length/\ys.length<=5000/\eJ lt/\g9 X ys.length lt ys H /\
 ∀c:List Nat,c.Perm (cm ys.length)->(∀i j:Nat,i<j->j<ys.length->lt (c.getD j 0) (c.getD i 0)=ag) ->∀q,H q=af->Q (.ref q) (upd H q (.lst (c.map λi=>ys.getD i .non)))
def uM:d4 X (.builtin "sorted") (GO X):=by
 intro π s σ H xs us Q I r h;obtain⟨a,ys,lt,rfl,Z,h2,K,O,ask,q⟩:=h;obtain⟨u,rfl,F⟩:=vals1 r;cases F;obtain⟨c,p,J,hz⟩:=I.list (dS.of Z);have v:c.length=ys.length:=(gQ p).symm;obtain⟨o,ho,Y,n,U⟩:=J.isList;have zl:bj=16777216:=rfl;apply Co yi ye yj (Cw _);unfold Builtin.«sorted»;show aq (m:=checkCount "sorted" 1 1 _) (az (aq (BI (A:=X.A.in1) ho Y U ∅ λj l1 keep=>?_)));apply aq;show om ?_ ∅;have g1:(j.push (seqObj "list" c.toArray 0)).get? j.objs.size=aa (seqObj "list" c.toArray 0):=fw _ rfl;show aq (iq (jw yd ⟨_,g1,rfl⟩ yl (JY (lt:=lt) g1 ∅ ∅ O (λh2 k2=>?_) λd l z=>⟨_,rfl,?_⟩) (Cy _)))
 .have I2:=I.kept (t':=s.toks) (h':=h2) λb u q=>k2 b u (fq (bz (keep b u q))) (cx _ (keep b u q));rw[v];show ask _ _ _ c I2 p
 .rw [v] at l z;obtain⟨e,g2⟩:=Zl (out:=(d.map λi=>c.getD i gq).toArray) g1;show az ⟨_,rfl,?_⟩;have x:∀i∈d,i<c.length:=λi L=>by rw[v];simpa using l.mem_iff.1 L
  show⟨.ref j.objs.size,upd H j.objs.size (.lst (d.map λi=>ys.getD i .non)),I.laid (t':=s.toks) (a:=j.objs.size) (λb u q=>?_) l1 ⟨by rw[bo,l.length_eq,jk];lia,_,e,oW p d x,g2⟩,rfl,q d l z _ (I.hok.fresh l1)⟩;have y:=bz (keep b u q);rw[Zk (fq y) (by rw[uh];show uv y)];show cx _ (keep b u q)
end
end L6
namespace L9
open PySem.SeqAt PySem.Spec PyProof.Rows L2 L3 L4 L5 L6 PySem.W HS
theorem kts:∀{us:Q0f} {x0 x1:Nat->ai},(∀i,i<us.length ->∃a,us[i]?=aa (.ref a)/\h.IsTuple a #[x0 i,x1 i])->KatTups h us ((cm us.length).map x0)
 |[],_,_,_=>KatTups.nil
 |u::us,x0,x1,q=>by obtain⟨a,e,o,ho,j,n,d⟩:=q 0 (by simp);simp only[ve,a2k] at e;subst e;rw[fj,yu,cf,f_];show Xt ho j d rfl (kts (x0:=x0∘a0q) (x1:=x1∘a0q) λi c=>by simpa using q (i+1) (by simpa using c))
structure Prs (X:Cx) (b:Bool) (n:Nat) (e0 e1 r0 r1:Nat->Nat->Bool) (s:ak) (us:Q0f) (x0 x1:Nat->ai):Prop where
 at_:∀i,i<n ->∃a,us[i]?=aa (.ref a)/\s.heap.IsTuple a #[x0 i,x1 i]
 q0:∀i j,i<n->j<n->lz X.A.in1.in1 s (x0 i) (x0 j) (e0 i j)
 l0:∀i j,i<n->j<n ->∀Q:Bool->ak->Prop,Q (r0 i j) s->ax (au X.Ω X.w) X.A.in1.in1 (oneLt' b (x0 i) (x0 j)) Q (λ_ _=>False) s
 q1:∀i j,i<n->j<n->lz X.A.in1.in1 s (x1 i) (x1 j) (e1 i j)
 l1:∀i j,i<n->j<n->zz X.A.in1.in1 s (x1 i) (x1 j) (r1 i j)
theorem Vr(O:ys.length=n)(h2:0<n)
  (h:∀(π:Q0b) (σ:L2.St) (s:ak) (us:Q0f),L2.Φ X π σ H s->θ ys us ->∃x0 x1,Prs X (g_ T !=g_ "tuple") n e0 e1 r0 r1 s us x0 x1 /\∀i,i<n->ou (au X.Ω X.w) s.heap (typeOf (x0 i)) (.type T)):
  g9 X n (λi j=>if e0 i j=ae then(if e1 i j=ae then ag else r1 i j) else r0 i j) ys H:=by
 intro π σ s us I r;obtain⟨x0,x1,P,m⟩:=h π σ s us I r;have U:=gQ r;show⟨_,λQ q=>kat_kind (T:=.type T) (kts (x1:=x1) λi c=>P.at_ i ∅) (by simp;lia) (λv o=>?_) (by simp) q,λi j C c l d=>?_⟩
 .obtain ⟨i,c,rfl⟩:=gd.1 o;show m i (by have:=ll.1 c;lia)
 obtain⟨a,y,J,u,_,L,A⟩:=P.at_ i c;obtain⟨b,x,F,p,_,K,z⟩:=P.at_ j l;dsimp only at d;unfold oq;rw[kb,kb,y,x];show kat_lt u A p z ?_;show B_ (P.q0 i j c l _ _ _ _ (kat_go (λe=>?_) (λe=>?_)))
 .rw [Z_ e] at d;show Bz (B_ (P.q1 i j c l _ _ _ _ (kat_go (λe=>?_) (λe=>?_))))
  .rw [Z_ e] at d;show Bz (kat_nil d)
  .rw [Zz (by simp[e])] at d;show kat_no ?_;rw[show((g_ T !=g_ "tuple")&&(0+1 == 0))=ag from by simp];show kat_one _ _ (P.l1 i j c l _ _ _ _ (show W.BoolBack C (ue _) s from d))
 .rw [Zz (by simp[e])] at d;show kat_no ?_;rw[show((g_ T !=g_ "tuple")&&(0 == 0))=(g_ T !=g_ "tuple") from by simp];show P.l0 i j c l _ d
structure BJ {α:Type} [DecidableEq α] (X:Cx) (m:Nat) (g:α->D) (lt:α->α->Bool):Prop where
 inj:∀{S:ah->Prop} {H:Hp} {x y:α} {v:V},Dn X.K S H (g x) v->Dn X.K S H (g y) v->x=y
 at_:∀{S:ah->Prop} {π:Q0b} {σ:L2.St} {H:Hp} {s:ak} {x y:α} {vx vy:V} {u v:ai} {A:br},L2.Φ X π σ H s->A.units+m<c_->Dn X.K S H (g x) vx->Dn X.K S H (g y) vy->L2.Ψ vx u->L2.Ψ vy v ->
  lz A s u v (Zv (x=y))/\zz A s u v (lt x y)
def PK{x y:Q0e}(h:x.map V.int=y.map V.int):x=y:=(List.map_inj_right (λa b h=>V.int.inj h)).1 h
section
variable{X:Cx}
def GP:BJ X 0 D.int EO:=by
 show⟨λh k=>?_,?_⟩
 .symm at h k;subst h;cases k;rfl
 intro S π σ H s x y m l u v A I n c a j d;symm at c a;subst c a;obtain⟨t,rfl⟩:=j;obtain⟨t2,rfl⟩:=d;show⟨Ce x t y t2,λΩ w E Q h=>yf h⟩
def GQ:BJ X 1 (λl:List Int=>.tup (l.map D.int)) (rJ EO):=by
 show⟨λh k=>?_,?_⟩
 .symm at h k;obtain⟨a,xs,rfl,o,O⟩:=h;obtain⟨b,ys,e,n,L⟩:=k;cases e;rw[aH.ints.1 O] at o;rw[aH.ints.1 L,o] at n;show PK (HO.tup.inj (ee n))
 intro S π σ H s x y vx vy u v A I hu K J Y U;rw[<- ER];show⟨Vk I 1 A _ _ _ _ _ _ _ hu (LL.Q1 0 x y) K J Y U,λΩ w E Q h=>?_⟩;symm at K J;obtain⟨a,xs,rfl,o,O⟩:=K;obtain⟨b,ys,rfl,n,L⟩:=J;rw[aH.ints.1 O] at o;rw[aH.ints.1 L] at n;cases Y;cases U;obtain⟨t1,v1,p1,_⟩:=I.tuple (dZ.of o);obtain⟨t2,v2,p2,_⟩:=I.tuple (dZ.of n);obtain⟨ps,e1,f1⟩:=eE v1;obtain⟨Z,e2,f2⟩:=eE v2;subst e1 e2;obtain⟨⟨c1,d1,g1,q⟩,o1,m,n1,d⟩:=id (show s.heap.IsTuple a (ps.map vI).toArray from p1);obtain⟨⟨c2,d2,g2,p⟩,o2,j,n2,c⟩:=id (show s.heap.IsTuple b (Z.map vI).toArray from p2);simp only at m d j c;subst m d j c;show richCompare_meets_room (op:=.Lt) ⟨_,o1,rfl⟩ ⟨_,o2,rfl⟩ F.slot_tuple_lt F.entry_tuple_lt (F.args_tuple_lt_2 _ _) (Uv a b ps Z n1 n2 d1 d2 q p) ⟨o1,o2,?_⟩ ∅;rw[f1,f2];show⟨(λz=>by cases z),h⟩
def PM{K:ao}{S:ah->Prop}{π:Q0b}{σ:L2.St}{H:Hp}{s:ak}{d e:D}{m:V}{u:ai}(y:K=X.K)(I:L2.Φ X π σ H s)(h:Dn K S H (.tup [d,e]) m)(r:L2.Ψ m u):∃a j c l u1,u=.ref a/\m=.ref a/\s.heap.IsTuple a #[l,u1]/\Dn K S H d j/\Dn K S H e c/\L2.Ψ j l/\L2.Ψ c u1:=by symm at h;obtain⟨a,xs,rfl,o,p⟩:=h;obtain⟨j,c,rfl,v,q⟩:=Ge p;cases r;obtain⟨t1,n,x,_⟩:=I.tuple (dZ.of o);obtain⟨l,u1,rfl,r0,r1⟩:=vals2 n;show⟨a,j,c,l,u1,rfl,rfl,x,v,q,r0,r1⟩
structure zx {α:Type} (X:Cx) (m:Nat) (T:String) (g:α->D) (lt:α->α->Bool):Prop where
 at_:∀{S:ah->Prop} {π:Q0b} {σ:L2.St} {H:Hp} {s:ak} {x y:α} {vx vy:V} {u v:ai} {A:br},L2.Φ X π σ H s->A.units+m<c_->Dn X.K S H (g x) vx->Dn X.K S H (g y) vy->L2.Ψ vx u->L2.Ψ vy v ->
  ou (au X.Ω X.w) s.heap (typeOf u) (.type T) /\∀Q:Bool->ak->Prop,Q (lt x y) s->ax (au X.Ω X.w) A (oneLt' (g_ T !=g_ "tuple") u v) Q (λ_ _=>False) s
def GR:zx X 0 "int" D.int EO:=by
 constructor
 intro S π σ H s x y l j u v A I m c a h d;symm at c a;subst c a;obtain⟨t,rfl⟩:=h;obtain⟨t2,rfl⟩:=d;show⟨Xs rfl,λQ q=>oneLt_int q⟩
def ED{S:ah->Prop}{H:Hp}{K:ao}{α:Type}{g:α->D}{z:α}{T:List α}{ys:List V}(h:aH K S H (T.map g) ys){i:Nat}(j:i<ys.length):∃v,ys[i]?=aa v/\Dn K S H (g (T.getD i z)) v:=by
 have c:T.length=ys.length:=by simpa using h.len
 obtain⟨v,ev,a⟩:=h.get (i:=i) (d:=g (T.getD i z)) (by rw[ft,cj ∅,kb,cj ∅];rfl);show⟨v,ev,a⟩
theorem WJ{α J:Type}[DecidableEq α][DecidableEq J]{T0:String}{m:Nat}{g:α->D}{h:J->D}{lt:α->α->Bool}{L:J->J->Bool}(c1:BJ X m g lt)(o1:zx X m T0 g lt)(c2:BJ X m h L)(O2:TO L)(hu:X.A.units+2+m<c_)
  {S:ah->Prop} {H:Hp} {z:α×J} {T:List (α×J)} {ys:List V} (hd:aH X.K S H (T.map λp=>.tup [g p.1,h p.2]) ys) (h2:0<ys.length):g9 X ys.length (λi j=>iA lt L (T.getD i z) (T.getD j z)) ys H:=by
 have eu:X.A.in1.in1.units=X.A.units+2:=rfl;have key:=Vr (X:=X) (T:=T0) (n:=ys.length) (H:=H) (ys:=ys) (e0:=λi j=>Zv ((T.getD i z).1=(T.getD j z).1)) (e1:=λi j=>Zv ((T.getD i z).2=(T.getD j z).2)) (r0:=λi j=>lt (T.getD i z).1 (T.getD j z).1) (r1:=λi j=>L (T.getD i z).2 (T.getD j z).2) rfl h2 (λπ σ s us I r=>by
  have hl:=gQ r;have all:∀i:Nat,∃p:ai×ai,i<ys.length ->∃a l d,us[i]?=aa (.ref a)/\s.heap.IsTuple a #[p.1,p.2]/\Dn X.K S H (g (T.getD i z).1) l/\Dn X.K S H (h (T.getD i z).2) d/\L2.Ψ l p.1/\L2.Ψ d p.2:=λi=>by
   by_cases c:i<ys.length
   .obtain ⟨v,ev,dv⟩:=ED (z:=z) hd c;obtain⟨u,eu,ru⟩:=r.get ev;obtain⟨a,l,d,u0,u1,rfl,_,P1,x,y,r0,r1⟩:=PM rfl I dv ru;show⟨(u0,u1),λ_=>⟨a,l,d,eu,P1,x,y,r0,r1⟩⟩
   .exact ⟨(gq,gq),λq=>Zw q c⟩
  obtain⟨f,o⟩:=a2t all;show⟨λi=>(f i).1,λi=>(f i).2,⟨λi c=>?_,λi j c F=>?_,λi j c F Q q=>?_,λi j c F=>?_,λi j c F=>?_⟩,λi c=>?_⟩
  .obtain ⟨a,l,d,e,t,_⟩:=o i c;show⟨a,e,t⟩
  .obtain ⟨a,l,d,e,t,x,y,r0,r1⟩:=o i c;obtain⟨a',Z,Y,e',t',d0,U,O,q1⟩:=o j F;show(c1.at_ I ∅ x d0 r0 O).1
  .obtain ⟨a,l,d,e,t,x,y,r0,r1⟩:=o i c;obtain⟨a',Z,Y,e',t',d0,U,O,q1⟩:=o j F;show(o1.at_ I ∅ x d0 r0 O).2 Q q
  .obtain ⟨a,l,d,e,t,x,y,r0,r1⟩:=o i c;obtain⟨a',Z,Y,e',t',d0,U,O,q1⟩:=o j F;show(c2.at_ I ∅ y U r1 q1).1
  .obtain ⟨a,l,d,e,t,x,y,r0,r1⟩:=o i c;obtain⟨a',Z,Y,e',t',d0,U,O,q1⟩:=o j F;show(c2.at_ I ∅ y U r1 q1).2
  .obtain ⟨a,l,d,e,t,x,y,r0,r1⟩:=o i c;show(o1.at_ (A:=X.A.in1.in1) I ∅ x x r0 r0).1)
 have ef:(λi j=>iA lt L (T.getD i z) (T.getD j z))=λi j=>if Zv ((T.getD i z).1=(T.getD j z).1)=ae then(if Zv ((T.getD i z).2=(T.getD j z).2)=ae then ag else L (T.getD i z).2 (T.getD j z).2) else lt (T.getD i z).1 (T.getD j z).1:=by
  funext i j
  unfold iA;by_cases e:(T.getD i z).1=(T.getD j z).1
  .rw [Z_ e,Z_ (Zx e)];by_cases e2:(T.getD i z).2=(T.getD j z).2
   .rw [Z_ (Zx e2),e2,O2.G2]
   .rw [Zz (by simpa using e2)]
  .rw [Zz e,Zz (by simpa using e)]
 rw[ef];show key
def PN(X:Cx):List V->Hp->VK->Prop:=λxs H Q=>AQ xs H Q\/yO xs H Q\/GO X xs H Q
def yY:d4 X (.builtin "sorted") (PN X):=by
 intro π s σ H xs us Q I r h;rcases h with h|h|h
 .exact iY π s σ H xs us Q I r h
 .exact nG π s σ H xs us Q I r h
 .exact uM π s σ H xs us Q I r h
theorem PQ{α:Type}{f:D->Option α}{g:α->D}{lt:α->α->Bool}(z:α)(O:TO lt)(back:∀d x,f d=aa x->d=g x)
  (ask:∀{S:ah->Prop} {H:Hp} {T:List α} {ys:List V},aH X.K S H (T.map g) ys->0<ys.length->g9 X ys.length (λi j=>lt (T.getD i z) (T.getD j z)) ys H):C3F X.K (PN X) (λds Q=>∃d,w8 f g lt ds=aa d/\Q d):=by
 intro S H xs ds Q3 Q fc hd ⟨d,e,q⟩ k;unfold w8 at e;split at e
 .rename_i Z;obtain⟨T,e1,e⟩:=bnd e;by_cases A:T.length<=5000
  .rw [Z_ A] at e;cases e;have e1:=kB back e1;subst e1;obtain⟨v,r,rfl,Y,h2⟩:=hd.aX;simp only[aH] at h2;subst h2;symm at Y;obtain⟨a,ys,rfl,n,sa,h⟩:=Y;have m:T.length=ys.length:=by simpa using h.len
   match T,ys,m,h,n,A,q with
   |[],[],m,h,n,A,q =>
    show .inl ⟨a,[],rfl,n,by decide,λI u _ p c=>?_⟩;have:I=[]:=Dx.mp u;subst this;show k p [] _ [] c aI (aG c) aH.nil q
   |[t],[y],m,h,n,A,q =>
    show .inr (.inl ⟨a,y,rfl,n,λl c=>k l [y] _ [g t] c aI (aG c) (aH.fits ((Fits.fresh c).trans (.same (aG c))) _ _ h) q⟩)
   |t1::t2::ts,ys,m,h,n,A,q =>
    generalize hT:t1::t2::ts=T at *;have h2:2<=ys.length:=by rw[<- m,<- hT];simp
    show .inr (.inr ⟨a,ys,λi j=>lt (T.getD i z) (T.getD j z),rfl,n,h2,by lia,⟨λx y a=>O.as _ _ a,λx y z a b=>O.tr _ _ _ b a⟩,ask h ∅,λF u U l c=>?_⟩);rw[<- m] at u U;have Z:jD lt T=F.map (λi=>T.getD i z):=by
     show qF O ((eB T).trans ?_) (l9 O T) ?_
     .have:=(u.map λi=>T.getD i z).symm;rw[map_getD] at this;show this
     .have hlen:F.length=T.length:=by rw[u.length_eq,jk]
      rw[WZ,uz,u_];intro i j L hj J;have:=U i j J ∅;simpa[L,hj] using this
    have dn:∀o:List Nat,(∀i∈o,i<ys.length)->aH X.K S H (o.map λi=>g (T.getD i z)) (o.map λi=>ys.getD i .non):=by
     intro o
     induction o with
     |nil=>intro _;show aH.nil
     |cons i o ih =>
      intro IL;obtain⟨v,ev,dv⟩:=ED (z:=z) h (IL i de);show aH.cons ?_ (ih λx hx=>IL x (gf _ hx));dsimp only;rw[kb (l:=ys),ev];show dv
    show k l _ _ (F.map λi=>g (T.getD i z)) c aI (aG c) (aH.fits ((Fits.fresh c).trans (.same (aG c))) _ _ (dn F λi L=>by rw[<- m];simpa using u.mem_iff.mp L)) ?_;rw[Z,f_] at q;show q
  .rw [Zz A] at e;cases e
 .cases e
def JZ(d:D)(x:QI)(h:ES d=aa x):d=QJ x:=by
 unfold ES at h;split at h
 .obtain ⟨l,e,rfl⟩:=lh.1 h;rw[L4.ints_of e]
 .cases h
def BJ.up{α:Type}[DecidableEq α]{m k:Nat}{g:α->D}{lt:α->α->Bool}(c:BJ X m g lt)(h:m<=k):BJ X k g lt:=⟨c.inj,λI a=>c.at_ I ∅⟩
def UT{p a:bq}{e:av}{t:AF}(c:X.A.units+9<c_)(j:X.mg "sorted"=af)(n:qB X [e] t)(l:Gl X "sorted":=by rfl)(m:Zr X e []:=by rfl):i8 X (.Call (.Name "sorted" p) [e] [] a) (cL B5 t) :=
 cF (yF yY (PQ (0,[]) ET JZ λd h=>WJ (GP.up (ie 1)) ⟨λI c=>GR.at_ I ∅⟩ GQ (w4 jF) ∅ d h) uq l j n (by decide) (by decide) m (by rfl)) (yI λds d Q e q=>⟨d,e,q⟩)
end
end L9
namespace L6
open PySem.Spec PyProof.Rows L2 L3 L4 PySem.W HS
section
variable{X:Cx}{π:Q0b}{σ:L2.St}{H:Hp}{s:ak}{P:Q0b}{f:ai}{t:V->Hp->VK->Prop}{xs:List V}{us:Q0f}{a kS:ah}{e1:Nat}{E:Q0c}
 {W:Nat->List V->Hp->Prop}
theorem pV{st:dg}{e:Nat}{p:Q0f}{out:Q0f}{Pf:Cj->ak->Prop}(I:Φ X ((π++[(a,seqObj "list" #[] e1)])++[(kS,seqObj "list" p.toArray e)]) σ H s)(U:Fp X π a)(O:Fp X (π++[(a,seqObj "list" #[] e1)]) kS)
  (d:(arrOf st).map (·.2)=out.toArray) (hz:out.length<=5000) (hk:p.length<=5000) (L:failedOf st=af)
  (h:∀s' c,Φ X (π++[(a,seqObj "list" out.toArray c)]) σ H s'->Pf (.done (.ret .none)) s'):ax (au X.Ω X.w) X.A.in1.in1 (ksk_tail a ag e1 (.ref kS) st) Pf E s:=by
 have o:=(iZ I).1;have F:=ma s.heap kS (fm λ_=>(#[]:Array ai));obtain⟨x,l⟩:∃x,(s.heap.update kS (fm λ_=>(#[]:Array ai))).get? kS=aa (seqObj "list" #[] x):=⟨_,q_ o λ_=>#[]⟩;have Z:=nJ (h':=s.heap.update kS (fm λ_=>(#[]:Array ai))) (t':=s.toks) I O (λb u n q=>(F.2 b n).trans q) l (λv z=>by cases z);have y:=Z.fL;have j:=(iZ y).1;obtain⟨K,e2⟩:∃g,s.heap.update kS (fm λ_=>(#[]:Array ai))=g:=⟨_,rfl⟩;have J:=ma (s.heap.update kS (fm λ_=>(#[]:Array ai))) a (fm λ_=>out.toArray);obtain⟨ca,m⟩:∃ca,((s.heap.update kS (fm λ_=>(#[]:Array ai))).update a (fm λ_=>out.toArray)).get? a=aa (seqObj "list" out.toArray ca):=⟨_,q_ j λ_=>out.toArray⟩;have Y:=nJ (t':=s.toks) y U (λb u n q=>(J.2 b n).trans q) m (λv z=>by cases z);unfold ksk_tail;dsimp only;rw[d];show aq (nq o rfl ?_ (by rw[cu,fv];lia) (ie _));show aq (Bk (aq (qz j rfl ?_)));show aq (nq j rfl ?_ (ie _) (by show(if ag=ae then _ else _:Array ai).size<=_;rw[Zz b_,cu,fv];lia));rw[L];simp only[if_false,bne_self_eq_false,mx];show az (h _ ca Y)
theorem EE{lt:Nat->Nat->Bool}{ks:List V}{e:Nat}{m:Q0f}{Pf:Cj->ak->Prop}(I:Φ X ((π++[(a,seqObj "list" #[] e1)])++[(kS,seqObj "list" m.toArray e)]) σ H s)(F:Fp X π a)(y:Fp X (π++[(a,seqObj "list" #[] e1)]) kS)
  (r:θ ks m) (L:m.length=us.length) (x:us.length<=5000) (O:eJ lt) (ask:2<=us.length->g9 X us.length lt ks H)
  (h:∀(l:List Nat) s' c,l.Perm (cm us.length)->(∀i j:Nat,i<j->j<us.length->lt (l.getD j 0) (l.getD i 0)=ag) ->
   Φ X (π++[(a,seqObj "list" (l.map λi=>us.getD i gq).toArray c)]) σ H s'->Pf (.done (.ret .none)) s'):
  ax (au X.Ω X.w) X.A.in1.in1 (ksk_end a ag us.toArray e1 (.ref kS) m.toArray) Pf E s:=by
 unfold ksk_end;dsimp only;simp only[if_false,mx];by_cases h2:us.length<2
 .have o:us.toArray.size<2:=by rw[cu];show h2
  rw[Z_ o,Z_ o];apply aq;apply az;apply aq;apply az;have d:(arrOf (mj general' (m.toArray.zip us.toArray) #[] 7 af)).map (·.2)=us.toArray:=by show(m.toArray.zip us.toArray).map (·.2)=_;apply Array.toList_inj.mp;rw[a09,ksk_zip,List.map_snd_zip (by rw[List.toList_toArray];lia)]
  show pV I F y d x ∅ rfl λs' c q=>h (cm us.length) s' c (a0Y _) (λi j U hj=>by lia) ?_;have:(cm us.length).map (λi=>us.getD i gq)=us:=by
   show sd λi=>?_;rw[ft];by_cases p:i<us.length
   .rw [vd p];simp[p]
   .rw [lp (by simpa using p),lp (by simpa using p)];rfl
  rw[this];show q
 .have o:¬ us.toArray.size<2:=by rw[cu];show h2
  rw[Zz o,Zz o];obtain⟨κ,J,K⟩:=ask ∅ _ _ s m I r;show aq (gp (J _ ?_) (λ_ _ z=>z) λ_ _ z=>z.elim);show aq (gp (GN (us:=m) (vs:=us) (lt:=lt) (Q:=λn s'=>s'=s /\∃l:List Nat,(arrOf n).map (·.2)=(l.map λi=>us.getD i gq).toArray/\failedOf n=af/\l.Perm (cm us.length) /\∀i j:Nat,i<j->j<us.length->lt (l.getD j 0) (l.getD i 0)=ag) L O ∅ K λst l a1 a2 Z Y=>⟨rfl,l,a1,a2,Z,Y⟩) ?_ λ_ _ z=>z);rintro⟨⟨⟩,n⟩ s' ⟨rfl,l,d,v,u,o⟩;dsimp only at d v ⊢;show pV I F y d (by rw[bo,u.length_eq,jk];show x) ∅ v λs' c q=>h l s' c u o q
theorem BK(hK:UC X σ P f t)(hP:∀p∈P,p∈π)(I:Φ X ((π++[(a,seqObj "list" #[] e1)])++[(kS,seqObj "list" #[] 0)]) σ H s)(fa:Fp X π a)(fk:Fp X (π++[(a,seqObj "list" #[] e1)]) kS)
  (r:θ xs us) (gg:us.length<=5000) (O:eJ lt) (w0:W 0 [] H) (ws:∀(i:Nat) (x:V) (ks:List V) (H':Hp),xs[i]?=aa x->W i ks H'->t x H' λk VT=>W (i+1) (ks++[k]) VT)
  (ask:∀ks H',W us.length ks H'->2<=us.length->g9 X us.length lt ks H')
  (h:∀(n:List Nat) (ks:List V) (H':Hp) s' c,W us.length ks H'->n.Perm (cm us.length)->(∀i j:Nat,i<j->j<us.length->lt (n.getD j 0) (n.getD i 0)=ag) ->
   Φ X (π++[(a,seqObj "list" (n.map λi=>us.getD i gq).toArray c)]) σ H' s'->Pf (.done (.ret .none)) s'):
  ax (au X.Ω X.w) X.A.in1.in1 (ksk_rest a f ag us.toArray e1 (.ref kS)) Pf E s:=by
 unfold ksk_rest;show aq (i_ ?_);rw[List.forIn_toArray];show aq (ksk_fold (λi s'=>∃(H':Hp) (ks:List V) (l:Q0f) (e:Nat),Φ X ((π++[(a,seqObj "list" #[] e1)])++[(kS,seqObj "list" l.toArray e)]) σ H' s'/\θ ks l/\l.length=i/\W i ks H') us 0 s ⟨H,[],[],0,I,.nil,rfl,w0⟩ ?_ ?_)
 .rintro j u s' hu ⟨H',ks,l,e,U,Y,K,m⟩;rw[o_] at K m ⊢;have hj:j<us.length:=(dh.mp hu).1;have F:=gQ r;obtain⟨u',J,ru⟩:=r.get (i:=j) (x:=xs[j]'∅) (by simp[F,hj]);rw[hu] at J;cases J;have q:=hK _ s' H' (xs[j]'∅) u _ U (λp Z=>gj _ (gj _ (hP p Z))) ru (ws j _ ks H' (by simp[F,hj]) m);show aq (qp (gp q (λd y h2=>?_) λ_ _ z=>z.elim));obtain⟨k,H2,L,rk,w2⟩:=h2;dsimp only;have nk:=(iZ L).1;have sk:=ma y.heap kS (fm (·.push d));have ea:l.toArray.push d=(l++[d]).toArray:=by simp
  obtain⟨c2,hc2⟩:∃c2,(y.heap.update kS (fm (·.push d))).get? kS=aa (seqObj "list" (l++[d]).toArray c2):=⟨_,by rw[<- ea];show q_ nk (·.push d)⟩;show aq (nq nk rfl ?_ (by rw[cu,fv];lia) (by rw[ea,cu,dm,yz,fv];lia));show az ⟨rfl,H2,ks++[k],l++[d],c2,?_,wK rk Y,by rw[dm,yz,K],w2⟩;show nJ (t':=y.toks) L fk (λb o hb q=>(sk.2 b hb).trans q) hc2 (λv z=>by cases z)
 .rintro s' ⟨H',ks,l,e,U,Y,K,m⟩;rw[o_] at K m;show aq (yh (iZ U).1 rfl ?_);show EE U fa fk Y K gg O (ask ks H' m) λn y c Z hs L=>h n ks H' y c m Z hs L
theorem BL(hK:UC X σ P f t)(Z:∀p∈P,p∈π)(I:Φ X π σ H s)(o:Fp X π a)(U:H a=af)(ho:s.heap.get? a=aa (seqObj "list" us.toArray n))
  (r:θ xs us) (gg:us.length<=5000) (O:eJ lt) (K:W 0 [] H) (J:∀(i:Nat) (x:V) (ks:List V) (H':Hp),xs[i]?=aa x->W i ks H'->t x H' λk VT=>W (i+1) (ks++[k]) VT)
  (ask:∀ks H',W us.length ks H'->2<=us.length->g9 X us.length lt ks H')
  (h:∀(m:List Nat) (ks:List V) (H':Hp) s' c,W us.length ks H'->m.Perm (cm us.length)->(∀i j:Nat,i<j->j<us.length->lt (m.getD j 0) (m.getD i 0)=ag) ->
   Φ X (π++[(a,seqObj "list" (m.map λi=>us.getD i gq).toArray c)]) σ H' s'->Pf (.done (.ret .none)) s'):
  ax (au X.Ω X.w) X.A.in1.in1 (ksk_tree a f ag) Pf E s:=by
 have L:=ma s.heap a (fm λ_=>(#[]:Array ai));obtain⟨d,l⟩:∃d,(s.heap.update a (fm λ_=>(#[]:Array ai))).get? a=aa (seqObj "list" #[] d):=⟨_,q_ ho λ_=>#[]⟩;have I0:=qT I o U ho (λv z=>by cases z);have I1:=nJ (h':=s.heap.update a (fm λ_=>(#[]:Array ai))) (t':=s.toks) I0 o (λb u Y q=>(L.2 b Y).trans q) l (λv z=>by cases z);unfold ksk_tree;apply aq;show yh ho rfl ?_;apply aq;show nq ho rfl ?_ (by rw[cu,fv];lia) (ie _);apply aq;show qz l rfl ?_;show aq (Bi ?_ (by show us.length<=_;rw[fv];lia));apply aq;show om ?_ (ie _);show iq ?_;have y:=I1.kept (t':=s.toks) (h':=((s.heap.update a (fm λ_=>(#[]:Array ai))).push (seqObj "tuple" us.toArray 0))) λb u q=>cx _ q;have I3:=y.kept (t':=s.toks) (h':=((s.heap.update a (fm λ_=>(#[]:Array ai))).push (seqObj "tuple" us.toArray 0)).push (seqObj "list" #[] 0)) λb u q=>cx _ q;have F:Fp X (π++[(a,seqObj "list" #[] d)]) ((s.heap.update a (fm λ_=>(#[]:Array ai))).push (seqObj "tuple" us.toArray 0)).objs.size:=D0 y (bp _);have I4:=qT I3 F (y.hok.fresh (bp _)) (fw _ rfl) (λv z=>by cases z);show BK hK Z I4 o F r gg O K J ask h
theorem BM{π:Q0b}{σ:L2.St}{H:Hp}{s:ak}{P:Q0b}{r f:ah}{t:V->Hp->VK->Prop}{W:Nat->List V->Hp->Prop}{lt:Nat->Nat->Bool}{xs:List V}{Q:VK}(I:Φ X π σ H s)
  (hK:UC X σ P (.ref f) t) (hP:∀p∈P,p∈π) (U:xs.length<=5000) (O:eJ lt)
  (Z:∀Qc:List ai->ak->Prop,(∀(us:Q0f) (h':ba) (v:Nat),(∀b o,s.heap.get? b=aa o->h'.get? b=aa o)->θ xs us->Qc us {s with heap:=h',toks:=v})->ax (au X.Ω X.w) X.A.in1 (collect (.ref r)) Qc X.xe s)
  (w0:W 0 [] H) (ws:∀(i:Nat) (x:V) (ks:List V) (H':Hp),xs[i]?=aa x->W i ks H'->t x H' λk VT=>W (i+1) (ks++[k]) VT)
  (ask:∀ks H',W xs.length ks H'->2<=xs.length->g9 X xs.length lt ks H')
  (h:∀(d:List Nat) (ks:List V) (H':Hp) (D:ah),W xs.length ks H'->d.Perm (cm xs.length)->(∀i j:Nat,i<j->j<xs.length->lt (d.getD j 0) (d.getD i 0)=ag)->H D=af->H' D=af ->
   Q (.ref D) (upd H' D (.lst (d.map λi=>xs.getD i .non)))):
  ax (au X.Ω X.w) X.A (call (.builtin "sorted") [.ref r] [(qv "key",.ref f)]) (EP X π σ Q) X.xe s:=by
 show call_function_entry_kw yi ye yj (ksk_s1 _ _) ?_;unfold Builtin.«sorted»;apply aq (m:=checkCount "sorted" 1 1 _);apply az;show aq (Z _ λus h' v kp y=>?_);have L:=gQ y;have J:=I.kept (t':=v) kp;apply aq;show om ?_ (by rw[fv];lia);have I2:=J.kept (t':=v) (h':=h'.push (seqObj "list" us.toArray 0)) λb u q=>cx _ q;have l:(h'.push (seqObj "list" us.toArray 0)).get? h'.objs.size=aa (seqObj "list" us.toArray 0):=fw _ rfl;have n:H h'.objs.size=af:=J.hok.fresh (bp _);have Y:Fp X π h'.objs.size:=D0 J (bp _);show aq (iq (wpAny_call_entry_kw yd ⟨_,l,rfl⟩ yl ?_ (ksk_l1 _ _)));show ax (au X.Ω X.w) X.A.in1.in1 (Builtin.«list.sort» ⟨[.ref h'.objs.size],[(qv "key",.ref f)]⟩) _ _ _;rw[ksk_t1];rw[L] at U;rw[L] at ask h;show BL hK hP I2 Y n l y U O w0 ws ask λd ks H' s' c w' z hs K=>?_;have F:=(iZ K).2;show⟨_,rfl,az ⟨_,rfl,.ref h'.objs.size,upd H' h'.objs.size (.lst (d.map λi=>xs.getD i .non)),track K Y ?_,rfl,h d ks H' _ w' z hs n F⟩⟩;show⟨?_,d.map λi=>us.getD i gq,c,oW y d λi hi=>by simpa using z.mem_iff.mp hi,(iZ K).1⟩;rw[bo,z.length_eq,jk,fv];lia
end
end L6
namespace L9
open PySem.SeqAt PySem.Spec PyProof.Rows L2 L3 L4 L5 L6 L7 L8 PySem.W HS
section
variable{X:Cx}
structure Src (X:Cx) (items:D->Option (List D)):Prop where
 at_:∀{S:ah->Prop} {π:Q0b} {σ:L2.St} {H:Hp} {s:ak} {d:D} {v:V} {ds:List D},L2.Φ X π σ H s->X.A.handled=af->Dn X.K S H d v->items d=aa ds ->∃(r:ah) (xs:List V),v=.ref r/\aH X.K S H ds xs/\xs.length<=bj /\
  ∀Qc:List ai->ak->Prop,(∀(us:Q0f) (h':ba) (tk:Nat),(∀b o,s.heap.get? b=aa o->h'.get? b=aa o)->θ xs us->Qc us {s with heap:=h',toks:=tk})->ax (au X.Ω X.w) X.A.in1 (collect (.ref r)) Qc X.xe s
theorem UU(x:(d == sysModules)=ag)(m:o.ExactDict)(p:o.data=.dict es ep):KdlSrc Ω w "dict" d d es.size (λi v=>∃h:i<es.size,v=es[i].key) (λh=>h.get? d=aa o) where
 type:=λ_ a=>⟨o,a,m.1⟩
 there:=λ_ a=>⟨bz a,bz a⟩
 keep:=λ_ _ a y=>y d (.inl rfl) o a
 notList:=by decide
 notTuple:=by decide
 hint:=λ_ _ _ _ a n=>kdl_hint_dict ⟨o,a,m.1⟩ n
 iter:=λA s F a=>⟨_,λi h=>h.IsKeyIter s.heap.objs.size d i es.size ep/\h.get? d=aa o,(λ_ _ n=>JO x a m p n),
  ⟨λb I=>bx.2 (.inl (cg.1 I)),λi h h' st k=>⟨st.1.at λc e=>k _ de c e,k d (gf _ de) o st.2⟩,
   λi s' Q E u st h=>JP st.1 st.2 p u λh' j q=>h _ h' s'.toks ⟨u,rfl⟩ ⟨j,(q.2 d (fq (bz a))).trans st.2⟩ λb c l e=>(q.2 b λz=>l (cg.2 z)).trans e,
   λs' Q E st h=>ON F st.1 st.2 p (bp _) λh' J=>h h' s'.toks λb c l e=>J b c (λz=>l (cg.2 z)) e,
   λi s' Q E st h=>wpAny_pyIter_keyiter st.1 h⟩,⟨⟨_,fw _ rfl,rfl,by simp⟩,cx _ a⟩⟩
theorem BN{K:ao}{S:ah->Prop}{H:Hp}:∀χ:List (KX×V×V),(∀p∈χ,J8 H p.1 p.2.1)->aH K S H ((χ.map (·.1)).map U3) (χ.map (·.2.1))
 |[],_=>aH.nil
 |p::l,h=>aH.cons (U_ (h p de)) (BN l λq a=>h q (gf _ a))
theorem Oz:Src X KN:=⟨λ{S π σ H s d v ds} I J n u=>by
 cases d with
 |cN q0 ks xs =>
  cases u;symm at n;obtain⟨a,o,χ,rfl,K,O,⟨rfl,_⟩,Y⟩:=n;obtain⟨l,z,ho,m⟩:=BA I K;obtain⟨j,U,L,ks,F⟩:=OS m;have A:j.size=χ.length:=by have:=ks.length;simp at this;lia
  show⟨a,χ.map (·.2.1),rfl,?_,by rw[bo];show l,λQc q=>?_⟩
  .exact BN χ F
  .refine kdu_collect (UU z m.1 L) J ho (by rw[A];show l) λh' x h y hit=>q _ h' x y ?_;have:h.toList=j.toList.map (·.key):=by
    apply sd;intro i;by_cases p:i<j.size
    .have c:i<h.size:=by rw[hit.1];show p
     obtain⟨_,e⟩:=hit.2 i h[i] (by simp[c]);simp[p,c,e]
    .rw [lp (by rw[gz,hit.1];lia),lp (by simp;lia)]
   rw[this];show ks
 |_=>cases u⟩
def PU{a:Type}{f:D->Option a}{g:a->D}(h:∀d x,f d=aa x->d=g x)(d:D)(x:Int×a)(e:Q4 f d=aa x):d=.tup [.int x.1,g x.2]:=by
 unfold Q4 at e;split at e
 .obtain ⟨b,e1,rfl⟩:=lh.1 e;rw[h _ _ e1]
 .cases e
theorem UW{Y:Type}[DecidableEq Y]{fd:D->Option Y}{g:Y->D}{lt:Y->Y->Bool}{items:D->Option (List D)}{m:Nat}(zb:Y)(back:∀d x,fd d=aa x->d=g x)(O:TO lt)(cb:BJ X (m+1) g lt)(sr:Src X items)
  {x0 x:aj} {fs:Q0g} {fr:List Nat} {c Pt:ah} {a body:av} {fa fk:EF} {params:yc} {sc:fu} {p ν wq kp:bq} {k:Nat} (hc:X.calm=ae) (hr:cZ k X.A) (hu:X.A.units+2+(m+1)<c_) (hm:X.mg "sorted"=af)
  (hx:(x0,c,Pt)∈cM X.K) (Z:X.env.code=.ref c) (ha:aZ X a fa) (hk:∀cl L f cd s H,aZ (BC X (x::fs) (jQ x0) sc cl L f cd s H) body fk) (B:UG X.env.scope.names sc X.N x fs fr=ae:=by rfl)
  (hb:∀(cl:List (aj×ah)) (pm cd ct u:ai),bindArgs (xh "<lambda>" (jQ x0) params body sc cl pm cd ct) ⟨[u],[]⟩=pure [(x,u)]:=by intro _ _ _ _ _;rfl)
  (hq:X.env.qual++"<lambda>"=jQ x0:=by rfl) (hdef:defaultsOf params X.env=([],[]):=by rfl)
  (hg:Gl X "sorted":=by rfl) (he:Zr X a []:=by rfl) (he2:cy ν (ar [a] X.env)=(ag,eval a X.env)::cy ν (ar [] X.env):=by rfl) (hpl:(cy ν (ar [a] X.env)).any (λx=>x.fst)=ag:=by rfl):
  i8 X (.Call (.Name "sorted" p) [a] [⟨aa "key",.Lambda params body sc wq,kp⟩] ν) (xM fd g lt items fr fa fk):=by
 intro π s σ H Q I ⟨S,ρ,Q3,fc,sl,⟨d,n,q3⟩,kk⟩;obtain⟨da,e1,n⟩:=bnd n;obtain⟨ds,e2,n⟩:=bnd n;obtain⟨bs,e5,n⟩:=bnd n;obtain⟨kd,e3,n⟩:=bnd n;obtain⟨T,e4,n⟩:=bnd n;by_cases ht:T.length<=5000/\T.map (·.2)=bs
 case neg=>rw[Zz ht] at n;cases n
 rw[Z_ ht] at n;cases n;obtain⟨ht5,htb⟩:=ht;subst htb;have ekd:=kB (PU back) e4;have eds:=kB back e5;rw[f_] at eds;have lds:ds.length=T.length:=by rw[eds,bo]
 have lkd:kd.length=T.length:=by rw[ekd,bo]
 have hA:PA X [a] _:=b8 ha gG he;show tu (lP I hg hm uq ?_);show callWith_kw (dA (hA ν π s σ H (λvs H1=>∃v,vs=[v]/\ξ H H1/\Dn X.K S H1 da v) I ⟨S,ρ,λd=>d=da,fc,sl,⟨da,e1,rfl⟩,λv H1 d' s1 d1 q1=>?_⟩) λus s1 ⟨vs,H1,I1,r1,q1⟩=>?_) he2 (hplain:=hpl)
 .subst q1;show⟨v,rfl,s1,d1⟩
 obtain⟨v,rfl,sm1,dv1⟩:=q1;obtain⟨u,rfl,ru⟩:=vals1 r1;have hd0:X.A.handled=af:=I.ok.hd hc;show kws_cons (OZ I1 hx hq Z (GK B) hdef λf c' ct cl H2 s2 sm2 cq hcl iF I2=>kws_nil ?_);have sm:=sm1.trans sm2;obtain⟨r,xs,rfl,F,hxz,wt⟩:=sr.at_ I2 hd0 (Dn.fits (.same sm2) _ _ dv1) e2;cases ru;show ax (au X.Ω X.w) X.A (call (.builtin "sorted") [.ref r] [(qv "key",.ref f)]) _ _ s2;have o:xs.length=T.length:=by rw[<- lds];show F.len.symm
 have key:=UE (te:=lift X.K (wE fk)) (σ:=σ) (q:=jQ x0) (params:=params) (f:=f) (c:=c') (pm:=(X.mg "__name__").getD .none) (ct:=ct) hc (GK B) (by have:=hr.dp;lia) hcl iF (λu=>hb cl _ _ _ u) λL s H=>hk cl L f (.ref c') s H;have main:=BM (Q:=Q) (W:=λi ks H'=>ξ H2 H'/\aH X.K S H' (kd.take i) ks) (lt:=λi j=>iA EO lt (T.getD i (0,zb)) (T.getD j (0,zb))) (xs:=xs) (r:=r) I2 key (λp hp=>gm _ hp) (by rw[o];show ht5) ⟨λx y a=>(jE jF O).as _ _ a,λx y z a b=>(jE jF O).tr _ _ _ b a⟩
  wt ⟨ξ.refl _,by rw[a0F];show aH.nil⟩ (λi x ks H' hxi ⟨h,dk⟩=>?_) (λks H' ⟨h,dk⟩ h2=>?_) λix ks H' Dd ⟨h,dk⟩ hp hs hD hD'=>?_
 .exact dA main λv s' ⟨y,H',J,ry,qy⟩=>⟨y,H',J.fL,ry,qy⟩
 .have U:i<ds.length:=by have:=(dh.1 hxi).1;lia
  obtain⟨v,ev,dv⟩:=F.get (i:=i) (d:=ds[i]) (cj U);rw[hxi] at ev;cases ev;obtain⟨kv,ek,ek2⟩:=uR e3 (cj U);show⟨cq.same h,S,_,λd=>d=kv,aU fc (sm.trans h),Uu (d:=ds[i]) sl (sm.trans h) (Dn.fits (.same h) _ _ dv),⟨kv,ek2,rfl⟩,λv VT d s3 dv n=>?_⟩;subst n;show⟨h.trans s3,?_⟩;rw[List.take_add_one,ek];show aH.append (aH.fits (Fits.same s3) _ _ dk) (aH.one dv)
 .rw [o,rh ∅,ekd] at dk;have hl:=dk.len;rw[bo] at hl;rw[o,hl];show WJ (GP.up (ie _)) ⟨λI hu=>GR.at_ I ∅⟩ cb O hu dk ∅
 .rw [o] at hp hs;have hH:H Dd=af:=sm.free hD;have es:jD (iA EO lt) T=ix.map (λi=>T.getD i (0,zb)):=by
   show qF (jE jF O) ((eB T).trans ?_) (l9 (jE jF O) T) ?_
   .have:=(hp.map λi=>T.getD i (0,zb)).symm;rw[map_getD] at this;show this
   .have hlen:ix.length=T.length:=by rw[hp.length_eq,jk]
    rw[WZ,uz,u_];intro i j U hj hij;have:=hs i j hij ∅;simpa[U,hj] using this
  show kk Dd _ _ ((jD (iA EO lt) T).map λt=>g t.2) hH aI ((sm.trans h).trans (aG hD')) ?_ q3;rw[es,f_];have dn:∀jx:List Nat,(∀i∈jx,i<xs.length)->aH X.K S H2 (jx.map ((λt=>g t.2)∘λi=>T.getD i (0,zb))) (jx.map λi=>xs.getD i .non):=by
   intro jx
   induction jx with
   |nil=>intro _;show aH.nil
   |cons i jx ih =>
    intro IL;have U:=IL i de;obtain⟨v,ev,dv⟩:=ED (z:=(0,zb)) (g:=(λt:Int×Y=>g t.2)) (by rw[eds] at F;show F) U;show aH.cons ?_ (ih λx hx=>IL x (gf _ hx));dsimp only;rw[kb (l:=xs),ev];show dv
  show aH.fits ((Fits.same h).trans ((Fits.fresh hD').trans (.same (aG hD')))) _ _ (dn ix λi U=>by rw[o];simpa using hp.mem_iff.mp U)
def PV(d:D)(x:Q0e)(h:CH d=aa x):d=oh x:=by
 unfold CH at h;split at h
 .rw [L4.ints_of h]
 .cases h
theorem Vq{x0 x:aj}{fs:Q0g}{fr:List Nat}{c Pt:ah}{a body:av}{v q:EF}{params:yc}{sc:fu}{p j y z:bq}{k:Nat}(hc:X.calm=ae)(I:cZ k X.A)(hu:X.A.units+9<c_)(O:X.mg "sorted"=af)
  (F:(x0,c,Pt)∈cM X.K) (d:X.env.code=.ref c) (ha:aZ X a v) (U:∀o L f cd s H,aZ (BC X (x::fs) (jQ x0) sc o L f cd s H) body q) (B:UG X.env.scope.names sc X.N x fs fr=ae:=by rfl)
  (hb:∀(o:List (aj×ah)) (pm cd ct u:ai),bindArgs (xh "<lambda>" (jQ x0) params body sc o pm cd ct) ⟨[u],[]⟩=pure [(x,u)]:=by intro _ _ _ _ _;rfl)
  (J:X.env.qual++"<lambda>"=jQ x0:=by rfl) (h:defaultsOf params X.env=([],[]):=by rfl)
  (Y:Gl X "sorted":=by rfl) (Z:Zr X a []:=by rfl) (n:cy j (ar [a] X.env)=(ag,eval a X.env)::cy j (ar [] X.env):=by rfl) (l:(cy j (ar [a] X.env)).any (λx=>x.fst)=ag:=by rfl):
  i8 X (.Call (.Name "sorted" p) [a] [⟨aa "key",.Lambda params body sc y,z⟩] j) (xN fr v q) :=
 UW (m:=0) [] PV (w4 jF) GQ Oz hc I ∅ O F d ha U B hb J h Y Z n l
variable{Y:Cx}{e:ah}{oe:ay}{pn:Q0b}{x:aj}{st:cn}{ps:Q0g}{k n np:Nat}{b:SF}{p ν:bq}{a:av}{es:List av}{t:AF}
theorem Vp(z:HO6 (hcx Y (aa (.ref e)) (pn++[(e,oe)])) e C ds)(L:oe.cls=.ref C)(D:Df Y.K Y.mg x st ps)(N:Q0g)(o:cZ k Y.A)
  (c:∀{h:ai} {Γ:List df} {s:ak} {H:Hp} {E:XK} {f:ah},HO6 (hcx (eQ gI Y.Ω Y.w Y.K Y.mg Y.ω N x (aF st) f h Y.A Γ s H E) (aa (.ref e)) ([]++[(e,oe)])) e C ds->N.Nodup->fU (hcx (eQ gI Y.Ω Y.w Y.K Y.mg Y.ω N x (aF st) f h Y.A Γ s H E) (aa (.ref e)) ([]++[(e,oe)])) (bV st) b)
  (O:qB (hcx Y (aa (.ref e)) (pn++[(e,oe)])) (a::es) t) (S:cH N ps (aF st):=by show⟨rfl,rfl,rfl,by decide+kernel,rfl,by decide+kernel,by decide+kernel⟩) (y:N.length=n:=by rfl) (u:ps.length=np:=by rfl) (I:Gl Y x:=by rfl) (l:Zu x:=by decide) (J:ar (a::es) Y.env=(ag,eval a Y.env)::ar es Y.env:=by rfl) (j:(cy ν (ar es Y.env)).any (·.1)=ag:=by rfl):
  aZ (hcx Y (aa (.ref e)) (pn++[(e,oe)])) (.Call (.Name x p) (a::es) [] ν) (aN (bM n np b) t):=by
 obtain⟨_,F,m,q⟩:=D;show Vb F S y u m F.kp q o (λh Γ s H E=>c ⟨⟨oe,gm _ de,L⟩,z.q,z.v,z.d,z.i,z.w⟩ S.nd) O I l J j
end
def UX(c:aj)(e:Nat)(l1 l2 l3 l4:List D):SF :=
 aO (bH 1 (dC (isA c e 0 l1))) (aO (bH 1 (aB cP dU (dC (isA c e 0 l2)))) (aO (bH 1 (aB cP dU (dC (isA c e 0 l3)))) (cC (cL cQ (aA (aB cP dU (dC (isA c e 0 l4))) aJ)))))
def Vo(u:oY l1=ae)(q:oY l2=ae)(b3:oY l3=ae)(b4:oY l4=ae)(z:l1.length+l2.length+l3.length+l4.length<=100):bM 2 1 (UX c e l1 l2 l3 l4) [.exc c e]=.ok (.tup (l1++l2++l3++l4)):=by
 have h:∀v:Option D,aT 0 [aa (.exc c e),v]=aa (.exc c e):=λ_=>rfl;have sz:i5=16777216:=rfl;show(match UX c e l1 l2 l3 l4 (bL 2 [.exc c e]) with | .rt d=>M.ok d | .nx _=>.ok .non | .ex c=>.ex c | .no=>.no)=_;have e1:UX c e l1 l2 l3 l4 (bL 2 [.exc c e])=.rt (.tup (l1++l2++l3++l4)):=by
  have p:dC (isA c e 0 l1) [aa (.exc c e),af]=aa (.lst l1):=by unfold dC;rw[EC (h af) l1 u,di,Z_ ∅]
  have n:∀(l m:List D),oY m=ae->l.length+m.length<=100->aB cP (aT 1) (dC (isA c e 0 m)) [aa (.exc c e),aa (.lst l)]=aa (.lst (l++m)):=λl m bm a=>by
   have g1:dC (isA c e 0 m) [aa (.exc c e),aa (.lst l)]=aa (.lst m):=by unfold dC;rw[EC (h _) m bm,di,Z_ ∅]
   unfold aB;rw[g1];show cP (.lst l) (.lst m)=_;show Z_ ∅
  have o:bH 1 (dC (isA c e 0 l1)) [.ro (.exc c e),.no]=.nx [.ro (.exc c e),.ro (.lst l1)]:=by unfold bH;show(match dC (isA c e 0 l1) [aa (.exc c e),af] with|some d=>_|none=>_)=_;rw[p];rfl
  have j:∀(l m:List D),oY m=ae->l.length+m.length<=100->bH 1 (aB cP (aT 1) (dC (isA c e 0 m))) [.ro (.exc c e),.ro (.lst l)]=.nx [.ro (.exc c e),.ro (.lst (l++m))]:=λl m bm a=>by unfold bH;show(match aB cP (aT 1) (dC (isA c e 0 m)) [aa (.exc c e),aa (.lst l)] with|some d=>_|none=>_)=_;rw[n l m bm a];rfl
  have s3:∀(l m:List D),oY m=ae->l.length+m.length<=100->cC (cL cQ (aA (aB cP (aT 1) (dC (isA c e 0 m))) aJ)) [.ro (.exc c e),.ro (.lst l)]=.rt (.tup (l++m)):=λl m bm a=>by unfold cC;show(match cL cQ (aA (aB cP (aT 1) (dC (isA c e 0 m))) aJ) [aa (.exc c e),aa (.lst l)] with|some d=>_|none=>_)=_;unfold cL aA;rw[n l m bm a];rfl
  unfold UX;show aO _ _ [.ro (.exc c e),.no]=_;unfold aO;rw[o];show aO _ _ [.ro (.exc c e),.ro (.lst l1)]=_;unfold aO;rw[j l1 l2 q ∅];show aO _ _ [.ro (.exc c e),.ro (.lst (l1++l2))]=_;unfold aO;rw[j _ l3 b3 (by rw[dm];lia)];show s3 _ l4 b4 (by rw[dm,dm];lia)
 rw[e1]
theorem Fx(v:X.mg c=aa (.ref C))(z:XO X.K C0 C ds)(o:RO X.K C0)(q:X.mg "isinstance"=af)(mv:X.mg "ValueError"=af)
  (m:ρ1=(cp X.N.length Sv.no).set k (.ro (.tup [.str t,.tup (l1++l2++l3++l4)]))) (n:i<X.N.length) (p:k≠i) (y:oY l1=ae) (x:oY l2=ae) (b3:oY l3=ae) (b4:oY l4=ae) (sz:l1.length+l2.length+l3.length+l4.length<=100)
  (u:∀{e l pn},HO6 (hcx X (aa (.ref e)) (pn++[(e,l)])) e C ds->l.cls=.ref C->fU (hcx X (aa (.ref e)) (pn++[(e,l)])) (A::suite) (bH k (gS (aA (eC (.str t)) (aA (aN (bM 2 1 (UX c e l1 l2 l3 l4)) (aA (aT i) aJ)) aJ))))):
  ∃(C:ah) (g:Nat->SF) (a:Nat->aW),X.mg c=aa (.ref C)/\xl X.K (.ref C) (.ref C0)=aa ae/\(∀e:Nat,g e ((cp X.N.length Sv.no).set i (.ro (.exc c e)))=.nx (a e)/\(a e).set i .no=ρ1 /\∀d,(a e)[i]?≠aa (Sv.ow d)) /\
   ∀(e:ah) (l:ay) (pn:Q0b),l.cls=.ref C->fU (hcx X (aa (.ref e)) (pn++[(e,l)])) (A::suite) (g e):=by
 show⟨C,λe=>bH k (gS (aA (eC (.str t)) (aA (aN (bM 2 1 (UX c e l1 l2 l3 l4)) (aA (aT i) aJ)) aJ))),λe=>((cp X.N.length Sv.no).set i (.ro (.exc c e))).set k (.ro (.tup [.str t,.tup (l1++l2++l3++l4)])),v,z.exm o,λe=>⟨?_,?_,λd=>?_⟩,λe l pn h=>u (z.ho h q mv) h⟩
 .have h:aT i (fG ((cp X.N.length Sv.no).set i (.ro (.exc c e))))=aa (.exc c e):=by unfold aT fG;rw[List.map_set,kn (by simpa using n)];rfl
  have f:aN (bM 2 1 (UX c e l1 l2 l3 l4)) (aA (aT i) aJ) (fG ((cp X.N.length Sv.no).set i (.ro (.exc c e))))=aa (.tup (l1++l2++l3++l4)):=by unfold aN;(try unfold bS);unfold aA;rw[h];show wU (bM 2 1 (UX c e l1 l2 l3 l4) [.exc c e])=_;rw[Vo y x b3 b4 sz];rfl
  dsimp only;generalize aN (bM 2 1 (UX c e l1 l2 l3 l4)) (aA (aT i) aJ)=g at f ⊢;unfold bH gS aA;rw[f];rfl
 .rw [m];apply sd;intro j;simp only[List.getElem?_set,jr,gy,je];split
  .subst_vars
   simp[p,n]
  .split
   .simp_all
   .simp_all
 .rw [jm p,kn (by simpa using n)];intro h;cases h
end L9
namespace K27
open L2 L3 L4 L6 L7 L8 L9 L5
def top(i : Nat):cn:=PySem.Challenge.pw_risecount_k27_downsets_and_calm.main.body.getD i (.Pass ⟨0,0,0,0⟩)
structure Zs (K:ao) (mg:Q0d) (iJ eF fY iK iL fB fZ kQ f7 fC eG fE dQ fF:ah) (ql qh:ah):Prop where
 tM:mg "Looped"=aa (.ref iJ)
 j6:mg "NoFilling"=aa (.ref eF)
 oZ:mg "NoGoing"=aa (.ref fY)
 tN:mg "NoLine"=aa (.ref iK)
 tP:mg "NoName"=aa (.ref iL)
 lW:mg "NoNumber"=aa (.ref fB)
 o9:mg "NoOrder"=aa (.ref fZ)
 yZ:mg "NoRow"=aa (.ref kQ)
 pA:mg "NoShape"=aa (.ref f7)
 iM:mg "NoThing"=aa (.ref fC)
 j7:mg "NotForest"=aa (.ref eG)
 lX:mg "NotLoose"=aa (.ref fE)
 j8:mg "RiseError"=aa (.ref dQ)
 lY:mg "TooGreat"=aa (.ref fF)
 pB:wo K fC
 rr:RO K dQ
 pC:XO K dQ fC [iJ,eF,fY,iK,iL,fB,fZ,kQ,f7,eG,fE,fF]
 tb7:tw K "downsets"=aa (ql,qh)
 D1:Df K mg "is_thing" (top 16) ["number","n"]
 D2:Df K mg "ties_of" (top 17) ["order"]
 D3:Df K mg "ready_things" (top 19) ["order","ahead"]
 D4:Df K mg "joined" (top 20) ["ahead","thing"]
 D5:Df K mg "find_ways" (top 22) ["order","ahead","ways"]
 D6:Df K mg "ways_on" (top 21) ["order"]
 D7:Df K mg "downsets" (top 24) ["order"]
 D8:Df K mg "is_calm" (top 25) ["order","things"]
 D9:Df K mg "_law_kinds" (top 27) ["_law_e"]
 D10:Df K mg "_law_mixed" (top 28) ["_law_cell_here","_law_k","_law_salt"]
 D11:Df K mg "_law_draws" (top 29) ["_law_cell_here","_law_many","_law_salt"]
 D12:Df K mg "_law_great" (top 30) ["_law_cell_here","_law_most","_law_salt"]
 D13:Df K mg "_law_cell" (top 31) ["_law_script","_law_k"]
 D14:Df K mg "_law_order" (top 32) ["_law_draws_here","_law_n","_law_thick"]
 D15:Df K mg "_law_drawn" (top 33) ["_law_script","_law_k","_law_most","_law_salt"]
 D16:Df K mg "_law_masks" (top 34) ["_law_order_here"]
 D17:Df K mg "_law_things" (top 35) ["_law_mask","_law_many"]
 D18:Df K mg "_law_downs" (top 36) ["_law_order_here"]
 D19:Df K mg "_law_same" (top 37) ["_law_found","_law_due"]
 D20:Df K mg "_law_calm" (top 38) ["_law_order_here","_law_things_here"]
 D21:Df K mg "_law_refused" (top 39) ["_law_at"]
 D22:Df K mg "_law_told" (top 40) ["_law_order_here","_law_things_here"]
 D23:Df K mg "_law_padded" (top 41) ["_law_script","_law_order_here"]
 D24:Df K mg "law" (top 42) ["_law_script"]
 j9:mg "sorted"=af
 dH:mg "tuple"=af
 BO:mg "enumerate"=af
 GS:mg "all"=af
 dR:mg "len"=af
 dY:mg "range"=af
 WK:mg "sum"=af
 Oy:mg "any"=af
 PX:mg "list"=af
 cJ:mg "isinstance"=af
 Ox:mg "str"=af
 WL:mg "int"=af
 EG:mg "bool"=af
 y6:mg "ValueError"=af
section
variable{P:bg}{w:a_}{ω:ba}{K:ao}{mg:Q0d}{iJ eF fY iK iL fB fZ kQ f7 fC eG fE dQ fF:ah}{ql qh:ah}(p:Ph P w ω)(Z:Zs K mg iJ eF fY iK iL fB fZ kQ f7 fC eG fE dQ fF ql qh)
include p Z
def o1:=yX p 3 LL.gA rfl ["number","n"] Z.D1 λa nd=>(aS (dW (Z1 Tu VJ Rf Rh i4 (x4 0) (x4 1))))
def o2:=yX p 3 LL.fW rfl ["order","ties","b","row"] Z.D2 λa nd=>(bB (JF (i:=1) nd (k7 aK))
  (bB (uL rfl ku (DP Z.BO (aC (x4 0) aK)) (V3 (i:=2) (j:=3) rfl nd)
   (aS (vT (TL (i:=1) (DQ (UR (gO (x4 3)) (uK (aC (x4 0) (aC (x4 1) aK)))))))))
  (aS (dW (fO Z.dH (aC (i8.pe (OC Z.j9 (aC (x4 1) aK))) aK))))))
def o3:=yX p 3 LL.dN rfl ["order","ahead","others"] Z.D3 λa nd=>(bB (oS (i:=2) (ls:=["thing"]) (fs:=["ahead"]) (fr:=[1]) nd rfl (d8 Z.dY (gM Z.dR (aC (x4 0) aK))) (λ_ _ _ _ _ _ nd=>sY (i:=0) nd (by decide)) (λ_ _ _ _ _ _=>NY (V0 (x4 0) (x4 1))) (λ_ _ _ _ _ _=>(x4 0)))
  (aS (dW (US (gO (x4 2)) (uJ (TN rfl Z.GS (aC (UR (gO (lZ (x4 2) (x4 0))) (in4 (x4 0) (x4 1))) aK))) (x4 0)))))
def o4:=yX p 3 LL.jM rfl ["ahead","thing"] Z.D4 λa nd=>(aS (dW (fO Z.dH (aC (i8.pe (OM Z.j9 (aC (fV (x4 0) (uK (aC (x4 1) aK))) aK))) aK))))
def o5:=rcM p 4 K11.bN Z.D5 (λn c=>fqM p (4+n) _ rfl ["order","ahead","ways","further"] Z.D5 λa nd=>⟨_,(xD (gP (IW (gM Z.dR (aC (x4 1) aK)) (gM Z.dR (aC (x4 0) aK)))
   (aS (V8 (i:=2) (u2 a) (DQ i4) (x4 1)))
   gU)
  (Ql (j:=2) (u2 a) (gP (Uz (u2 a) (x4 1) (x4 2))
   (bB (oS (i:=3) (ls:=["thing"]) (fs:=["ahead"]) (fr:=[1]) nd rfl (gO (bJ (zy (o3 p Z) 4 n) a (aC (x4 0) (aC (x4 1) aK)))) (λ_ _ _ _ _ _ nd=>sY (i:=0) nd (by decide)) (λ_ _ _ _ _ _=>F7) (λ_ _ _ _ _ _=>(bJ (zy (o4 p Z) 4 n) a (aC (x4 1) (aC (x4 0) aK)))))
   (aS (V8 (i:=2) (u2 a) (O_ (v:="longer") (fs:=["order","ways"]) (io:=0) (il:=3) (j:=2) c a rfl Z.WK (RQ (gE (i:=3) rfl (by first|show .inl rfl|show .inr (.inl rfl)|show .inr (.inr rfl)))) (λ_ _ _ _ _ _=>iS (i:=0) (show(["longer","order","ways"]:Q0g).Nodup by decide+kernel) rfl (.inl rfl)) (λ_ _ _ _ _ _=>b8 (gE (i:=1) rfl (by first|show .inl rfl|show .inr (.inl rfl)|show .inr (.inr rfl))) (b8 (gE (i:=0) rfl (.inl rfl)) (b8 (gE (i:=2) rfl (by first|show .inl rfl|show .inr (.inl rfl)|show .inr (.inr rfl))) gG))) (λ_ _ _ _ _ _=>rfl) (λ_ _ _ _ _ _=>rfl) (λ_ _ _ _ _ _=>rfl) (by decide)) (x4 1))))
   gU) (x4 1)))⟩) rfl 11
def o6:=yX p 15 K11.iB rfl ["order","ways"] Z.D6 λa nd=>(bB (Qr (i:=1) nd)
  (bB (Gi (j:=1) (o5 p Z).up a (V9 (x4 0) (V9 (uK aK) (Qo (j:=1)))))
  (aS (dW (x4 1)))))
def o7:=fqL p 16 gB rfl ["order"] Z.D7 Z.tb7 λa nd=>(aS (dW (fO Z.dH (aC (i8.pe (Vq (x:="things") (fs:=[]) (fr:=[]) (x0:="downsets") rfl a (u9 a) Z.j9 (Ut (by decide) Z.tb7) rfl (bJ (o6 p Z).up a (aC (x4 0) aK)) (λ_ _ _ _ _ _=>(uK (aC (gM Z.dR (aC (x4 0) aK)) (aC (x4 0) aK)))))) aK))))
def o8:=fq5 p 4 c8 rfl ["order","things"] Z.D8 λa nd=>(bB (gP (AZ (uJ (TN rfl Z.GS (aC (UR (gO (x4 1)) (bJ (o1 p Z).up a (aC (x4 0) (aC (gM Z.dR (aC (x4 1) aK)) aK)))) aK))))
   (aS (Vh rfl rfl Z.iM Z.pB (aC s4 aK)))
   gU)
  (aS (dW (Ah (Gq rfl Z.Oy (aC (cp4 (gO (bJ (o2 p Z).up a (aC (x4 0) aK))) (DM (gt4 (x4 0) (x4 1)) (DM (in4 (x4 0) (x4 2)) (IY (in4 (x4 1) (x4 2)))))) aK))))))
def zk:=yX p 3 LL.eD rfl ["_law_cell_here","_law_k","_law_salt","_law_one","_law_two"] Z.D10 λa nd=>(bB (d6 (i:=3) nd (gL (uI (fV (fV (fV (x4 0) (uI (uI i4 (x4 1)) (x4 1))) (uI i4 (x4 1))) (x4 2)) i4) i4))
  (bB (d6 (i:=4) nd (gL (fV (fV (uI (x4 3) (fV (NT (x4 3) i4) i4)) (uI i4 (x4 1))) (x4 2)) i4))
  (aS (dW (gL (uI (x4 4) i4) i4)))))
def oj:=yX p 4 LL.c7 rfl ["_law_cell_here","_law_many","_law_salt","_law_found","_law_left","_law_k"] Z.D11 λa nd=>(bB (JF (i:=3) nd (k7 aK))
  (bB (d6 (i:=4) nd i4)
  (bB (gP (Ai (x4 0) (Z0 i4 i4))
   (aS (d6 (i:=4) nd (x4 0)))
   gU)
  (bB (uL rfl ku (d8 Z.dY (x4 1)) (nB (i:=5) nd)
   (aS (gP (IV (x4 4) i4)
    (bB (vT (TK (i:=3) (DQ (gL (x4 4) i4))))
    (aS (d6 (i:=4) nd (NT (x4 4) i4))))
    (aS (vT (TK (i:=3) (DQ (bJ (zk p Z).up a (aC (x4 0) (aC (x4 5) (aC (x4 2) aK)))))))))))
  (aS (dW (x4 3)))))))
def Ft:=yX p 4 LL.kI rfl ["_law_cell_here","_law_most","_law_salt","_law_found","_law_k"] Z.D12 λa nd=>(bB (gP (Ai (x4 0) (Z0 i4 i4))
   (aS (dW (gL (NT (x4 0) i4) (x4 1))))
   gU)
  (bB (d6 (i:=3) nd i4)
  (bB (uL rfl ku (d8 Z.dY i4) (nB (i:=4) nd)
   (aS (d6 (i:=3) nd (fV (uI (x4 3) i4) (bJ (zk p Z).up a (aC (x4 0) (aC (x4 4) (aC (x4 2) aK))))))))
  (aS (dW (gL (x4 3) (x4 1)))))))
def mz:=yX p 3 LL.c6 rfl ["_law_script","_law_k"] Z.D13 λa nd=>(bB (gP (IW (gM Z.dR (aC (x4 0) aK)) i4)
   (aS (dW i4))
   gU)
  (aS (dW (lZ (x4 0) (gL (x4 1) (gM Z.dR (aC (x4 0) aK)))))))
def Fs:=yX p 3 LL.kC rfl ["_law_draws_here","_law_n","_law_thick","_law_rest","_law_word","_law_k","_law_low","_law_at","_law_j","_law_under","_law_i"] Z.D14 λa nd=>(bB (JF (i:=3) nd (DO rfl Z.PX Z.dY (aC (x4 1) aK)))
  (bB (JF (i:=4) nd (k7 aK))
  (bB (uL rfl ku (d8 Z.dY (x4 1)) (nB (i:=5) nd)
   (aS (vT (TK (i:=4) (Gv (i:=3) (px4 (gL (lZ (x4 0) (x4 5)) (gM Z.dR (aC (x4 3) aK)))))))))
  (bB (N0 (i:=6) nd)
  (bB (d6 (i:=7) nd (x4 1))
  (bB (uL rfl ku (d8 Z.dY (x4 1)) (nB (i:=8) nd)
   (bB (d6 (i:=9) nd (i8.pe (k7 aK)))
   (bB (uL rfl ku (d8 Z.dY (x4 8)) (nB (i:=10) nd)
    (bB (gP (Jd (gL (lZ (x4 0) (x4 7)) i4) (x4 2))
     (aS (Ra (i:=9) nd (Rl (x4 9) (US (gO (fV (Af (u1 a) (x4 6) (lZ (x4 4) (x4 10))) (i8.pe (k7 (aC (lZ (x4 4) (x4 10)) aK))))) (V0 (x4 0) (x4 1)) (x4 0)))))
     gU)
    (aS (d6 (i:=7) nd (fV (x4 7) i4)))))
   (aS (Q_ (i:=6) (u1 a) (DQ (x4 9)) (lZ (x4 4) (x4 8)))))))
  (aS (dW (fO Z.dH (aC (UR (d8 Z.dY (x4 1)) (fO Z.dH (aC (i8.pe (TH Z.j9 (aC (Af (u1 a) (x4 1) (x4 0)) aK))) aK))) aK))))))))))
def Fq:=yX p 5 LL.kD rfl ["_law_script","_law_k","_law_most","_law_salt","_law_head","_law_n","_law_draws_here"] Z.D15 λa nd=>(bB (d6 (i:=4) nd (bJ (oj p Z).up a (aC (bJ (mz p Z).up a (aC (x4 0) (aC (x4 1) aK))) (aC i4 (aC (x4 3) aK)))))
  (bB (d6 (i:=5) nd (gL (lZ (x4 4) i4) (fV (x4 2) i4)))
  (bB (d6 (i:=6) nd (bJ (oj p Z).up a (aC (bJ (mz p Z).up a (aC (x4 0) (aC (fV (x4 1) i4) aK))) (aC (fV (x4 5) (NT (uI (x4 5) (ZZ (x4 5) i4)) i4)) (aC (fV (x4 3) i4) aK)))))
  (aS (dW (bJ (Fs p Z).up a (aC (x4 6) (aC (x4 5) (aC (lZ (i8.pe (k7 (aC i4 (aC i4 (aC i4 (aC i4 (aC i4 (aC i4 (aC i4 (aC i4 aK)))))))))) (gL (lZ (x4 4) i4) i4)) aK)))))))))
def Fo:=yX p 3 LL.kJ rfl ["_law_order_here"] Z.D16 λa nd=>(aS (dW (UR (gO (x4 0)) (Hk rfl Z.WK (aC (UR (gO (x4 0)) (z_ i4 (x4 0))) aK)))))
def Fn:=yX p 3 iQ rfl ["_law_mask","_law_many"] Z.D17 λa nd=>(aS (dW (fO Z.dH (aC (US (d8 Z.dY (x4 1)) (IW (WB (Gg (x4 1) (x4 0)) i4) i4) (x4 0)) aK))))
def Fm:=yX p 4 kL rfl ["_law_order_here","_law_many","_law_masks_here","_law_found","_law_mask","_law_things_here"] Z.D18 λa nd=>(bB (d6 (i:=1) nd (gM Z.dR (aC (x4 0) aK)))
  (bB (d6 (i:=2) nd (bJ (Fo p Z).up a (aC (x4 0) aK)))
  (bB (JF (i:=3) nd (k7 aK))
  (bB (uL rfl ku (d8 Z.dY (z_ i4 (x4 1))) (nB (i:=4) nd)
   (bB (d6 (i:=5) nd (bJ (Fn p Z).up a (aC (x4 4) (aC (x4 1) aK))))
   (aS (gP (uJ (TN rfl Z.GS (aC (UR (gO (x4 5)) (eq4 (WB (lZ (x4 2) (x4 0)) (x4 1)) (lZ (x4 2) (x4 0)))) aK)))
    (aS (vT (TK (i:=3) (DQ (uK (aC (gM Z.dR (aC (x4 5) aK)) (aC (x4 5) aK)))))))
    gU))))
  (aS (dW (cp4 (gO (i8.pe (UT (u9 a) Z.j9 (aC (x4 3) aK)))) (x4 1))))))))
def qi:=rc4 p 3 LL.bQ Z.D19 (λn c=>yX p (3+n) _ rfl ["_law_found","_law_due"] Z.D19 λa nd=>(bB (gP (uJ (A2 DG.t Z.cJ Z.dH Cs (x4 1)))
   (bB (gP (NS.pt (Iw (AZ (uJ (A2 DG.t Z.cJ Z.dH Cs (x4 0)))) (Iz (Jc (gM Z.dR (aC (x4 0) aK)) (gM Z.dR (aC (x4 1) aK))))))
    (aS (dW b4))
    gU)
   (aS (dW (TN rfl Z.GS (aC (UR (d8 Z.dY (gM Z.dR (aC (x4 1) aK))) (bJ c a (aC (lZ (x4 1) (x4 0)) (aC (lZ (x4 2) (x4 0)) aK)))) aK)))))
   gU)
  (bB (gP (Ja (x4 1) n4)
   (aS (dW (is4 (x4 0) n4)))
   gU)
  (bB (gP (uJ (A2 DG.b Z.cJ Z.EG Cu (x4 1)))
   (aS (dW (DM (A2 DG.b Z.cJ Z.EG Cu (x4 0)) (IY (eq4 (x4 0) (x4 1))))))
   gU)
  (bB (gP (uJ (A2 DG.i Z.cJ Z.WL a0h (x4 1)))
   (aS (dW (DM (A2 DG.i Z.cJ Z.WL a0h (x4 0)) (DM (Ah (A2 DG.b Z.cJ Z.EG Cu (x4 0))) (IY (eq4 (x4 0) (x4 1)))))))
   gU)
  (aS (dW (DM (A2 DG.s Z.cJ Z.Ox a2h (x4 0)) (IY (eq4 (x4 0) (x4 1))))))))))) rfl 6
def Fl:=yX p 3 mR rfl ["_law_order_here","_law_things_here","_law_b","_law_a"] Z.D20 λa nd=>(bB (uL rfl ku (gO (x4 1)) (nB (i:=2) nd)
   (aS (uL rfl ku (gO (lZ (x4 0) (x4 2))) (nB (i:=3) nd)
    (aS (gP (NS.pt (V2 (IV (x4 3) (x4 2)) (V1 (Jb (x4 3) (x4 1)))))
     (aS (dW b4))
     gU)))))
  (aS (dW b4)))
def Fj:=yX p 3 jN rfl ["_law_at"] Z.D21 λa nd=>(aS (dW (uK (aC s4 (aC (fO Z.dH (aC (UR (d8 Z.dY i4) (or4 (eq4 (x4 0) i4) (IY (eq4 (x4 0) (x4 1))))) aK)) aK)))))
def vz:=yX p 5 fK rfl ["_law_order_here","_law_things_here","_law_found","_law_e"] Z.D22 λa nd=>(bB (d6 (i:=2) nd n4)
  (Pe (i:=3) rfl rfl Z.j8 nd (λpn xe=>(aS (Qu (i:=2) nd (uK (aC s4 (aC (Qx (o8 p Z).up a (aC (x4 0) (aC (x4 1) aK))) aK))) (Qa (Ve s4 (Vd (Vj rfl (o8 p Z).up a (aC (x4 0) (aC (x4 1) aK))) aK))))))
  (aS (dW (x4 2))) (λc ρ1 h=>by
   repeat' split at h
   .cases h;subst_vars;show Fx (i:=3) (k:=2) (l1:=[.bl ae,.bl ae,.bl ag,.bl ag]) (l2:=[.bl ag,.bl ag,.bl ag,.bl ag]) (l3:=[.bl ag,.bl ag,.bl ag]) (l4:=[.bl ag,.bl ag,.bl ag]) Z.iM Z.pC Z.rr Z.cJ Z.y6 rfl (yr rfl) (by decide) rfl rfl rfl rfl (by decide) (λz d=>?_);show aS (d6 (i:=2) nd (uK (aC s4 (aC (Vp z d Z.D9 ["_law_e","_law_found"] a (λz nd=>?_) (aC (x4 3) aK)) aK))));show bB (d6 (i:=1) nd (i8.pe (k7 ?_))) ?_;show aC (Ga z) ?_;show aC (Gb z Z.iM) ?_;show aC (qC z Z.tM (by simp)) ?_;show aC (qC z Z.o9 (by simp)) ?_;show aK;show bB (d6 (i:=1) nd (fV (x4 1) (i8.pe (k7 ?_)))) ?_;show aC (qC z Z.lW (by simp)) ?_;show aC (qC z Z.lY (by simp)) ?_;show aC (qC z Z.oZ (by simp)) ?_;show aC (qC z Z.yZ (by simp)) ?_;show aK;show bB (d6 (i:=1) nd (fV (x4 1) (i8.pe (k7 ?_)))) ?_;show aC (qC z Z.j6 (by simp)) ?_;show aC (qC z Z.lX (by simp)) ?_;show aC (qC z Z.j7 (by simp)) ?_;show aK;show aS (dW (fO Z.dH (aC (fV (x4 1) (i8.pe (k7 ?_))) aK)));show aC (qC z Z.pA (by simp)) ?_;show aC (qC z Z.tP (by simp)) ?_;show aC (qC z Z.tN (by simp)) ?_;show aK
   .cases h)))
def Fi:=yX p 5 lM rfl ["_law_script","_law_order_here","_law_wide","_law_strict","_law_b","_law_first","_law_last"] Z.D23 λa nd=>(bB (d6 (i:=2) nd (bJ (oj p Z).up a (aC (bJ (mz p Z).up a (aC (x4 0) (aC i4 aK))) (aC i4 (aC i4 aK)))))
  (bB (d6 (i:=3) nd (i8.pe (k7 aK)))
  (bB (uL rfl ku (d8 Z.dY (gM Z.dR (aC (x4 1) aK))) (nB (i:=4) nd)
   (aS (d6 (i:=3) nd (fV (x4 3) (US (gO (lZ (x4 1) (x4 4))) (IV (x4 0) (x4 1)) (uK (aC (x4 0) (aC (x4 1) aK))))))))
  (bB (Aa (i:=5) (j:=6) rfl nd (aC (gL (lZ (x4 2) i4) (gM Z.dR (aC (x4 1) aK))) (aC (gL (lZ (x4 2) i4) (gM Z.dR (aC (x4 1) aK))) aK)))
  (bB (gP (NS.pt (V2 (IV (gM Z.dR (aC (x4 3) aK)) i4) (V1 (IV (gL (lZ (x4 2) i4) i4) i4))))
   (aS (Pz (DQ (lZ (x4 3) (gL (lZ (x4 2) i4) (gM Z.dR (aC (x4 3) aK))))) (V3 (i:=5) (j:=6) rfl nd)))
   gU)
  (bB (gP (IW (gL (NT (lZ (x4 2) i4) i4) i4) i4)
   (aS (Aa (i:=5) (j:=6) rfl nd (aC (x4 6) (aC (x4 5) aK))))
   gU)
  (aS (dW (fV (i8.pe (P_ (i8.pe (k7 (aC (x4 5) aK))) (fV i4 (gL (fV (uI i4 (lZ (x4 2) i4)) (lZ (x4 2) i4)) i4)))) (i8.pe (k7 (aC (x4 6) aK))))))))))))
def Vn{f:ah}{fd:gc}(F:MO K "law" "law" (top 42) f fd):hJ P w K mg ω gI 18 f fd ["_law_script"] (BS K uZ):=by
 have S:cH ["_law_script","_law_most","_law_order_here","_law_due","_law_head","_law_things_here","_law_calm_here","_law_bad","_law_far"] ["_law_script"] (aF (top 42)):=⟨rfl,rfl,rfl,by decide+kernel,rfl,by decide+kernel,by decide+kernel⟩;have nd:=S.nd;show Ae F S rfl rfl (λ_ _ _ _ _ _ a=>(bB (d6 (i:=1) nd i4)
  (bB (gP (IW (gL (lZ (bJ (oj p Z).up a (aC (bJ (mz p Z).up a (aC (x4 0) (aC i4 aK))) (aC i4 (aC i4 aK)))) i4) i4) i4)
   (aS (d6 (i:=1) nd i4))
   gU)
  (bB (d6 (i:=2) nd (bJ (Fq p Z).up a (aC (x4 0) (aC i4 (aC (x4 1) (aC i4 aK))))))
  (bB (d6 (i:=3) nd (fO Z.dH (aC (bJ (Fm p Z).up a (aC (x4 2) aK)) aK)))
  (bB (gP (AZ (uJ (bJ (qi p Z).up a (aC (bJ (o7 p Z).up a (aC (x4 2) aK)) (aC (x4 3) aK)))))
   (aS (dW b4))
   gU)
  (bB (d6 (i:=4) nd (bJ (oj p Z).up a (aC (bJ (mz p Z).up a (aC (x4 0) (aC i4 aK))) (aC i4 (aC i4 aK)))))
  (bB (d6 (i:=5) nd (i8.pe (k7 aK)))
  (bB (gP (IV (gM Z.dR (aC (x4 2) aK)) i4)
   (bB (oS (i:=5) (ls:=["_law_d"]) (fs:=["_law_order_here"]) (fr:=[2]) nd rfl (gO (sl4 (x4 4) (po4 i4) (po4 (fV i4 (gL (lZ (x4 4) i4) i4))))) (λ_ _ _ _ _ _ nd=>sY (i:=0) nd (by decide)) (λ_ _ _ _ _ _=>F7) (λ_ _ _ _ _ _=>(gL (x4 0) (gM Z.dR (aC (x4 1) aK)))))
   (aS (gP (IW (gL (lZ (bJ (oj p Z).up a (aC (bJ (mz p Z).up a (aC (x4 0) (aC i4 aK))) (aC i4 (aC i4 aK)))) i4) i4) i4)
    (aS (d6 (i:=5) nd (bJ (Fi p Z).up a (aC (x4 0) (aC (x4 2) aK)))))
    gU)))
   gU)
  (bB (d6 (i:=6) nd (uK (aC s4 (aC (bJ (Fl p Z).up a (aC (x4 2) (aC (x4 5) aK))) aK))))
  (bB (gP (AZ (uJ (bJ (qi p Z).up a (aC (bJ (vz p Z).up a (aC (x4 2) (aC (fO Z.dH (aC (x4 5) aK)) aK))) (aC (x4 6) aK)))))
   (aS (dW b4))
   gU)
  (bB (JF (i:=7) nd (Rc Z.PX (aC (x4 5) aK)))
  (bB (d6 (i:=8) nd (bJ (Ft p Z).up a (aC (bJ (mz p Z).up a (aC (x4 0) (aC i4 aK))) (aC (ZZ (Qd (Z0 i4 i4) i4) i4) (aC i4 aK)))))
  (bB (vT (Gk (i:=7) (gL (lZ (x4 4) i4) (fV (gM Z.dR (aC (x4 7) aK)) i4)) (lZ (i8.pe (k7 (aC (Ag i4) (aC (gM Z.dR (aC (x4 2) aK)) (aC (fV (gM Z.dR (aC (x4 2) aK)) (x4 8)) (aC (ZZ (Ag i4) (x4 8)) aK)))))) (gL (lZ (x4 4) i4) i4))))
  (bB (gP (AZ (uJ (bJ (qi p Z).up a (aC (bJ (vz p Z).up a (aC (x4 2) (aC (fO Z.dH (aC (x4 7) aK)) aK))) (aC (bJ (Fj p Z).up a (aC i4 aK)) aK)))))
   (aS (dW b4))
   gU)
  (aS (dW (DM (bJ (qi p Z).up a (aC (bJ (vz p Z).up a (aC (x4 2) (aC (fO Z.dH (aC (x4 5) aK)) aK))) (aC (x4 6) aK))) (IY (bJ (qi p Z).up a (aC (bJ (o7 p Z).up a (aC (x4 2) aK)) (aC (x4 3) aK))))))))))))))))))))))
end
theorem all_mk{l:qu}{w:a_}{K:ao}{mg:Q0d}{c:ah}(a:mg "law"=aa (.ref c)){p L u o n A q j I z J y O x:ah}{d h:ah}(Z:Zs K mg p L u o n A q j I z J y O x d h):
  ∃fd:gc,(∀(s:ak) (v:ai),qx s fd ⟨[v],[]⟩ [("_law_script",v)]) /\∀ω:ba,K.In ω->ω.Ns gu mg->hJ l.prog w K mg ω gI 18 c fd ["_law_script"] (BS K uZ):=by
 obtain @⟨_,fd,_,F,m,_⟩:=Z.D24;cases a.symm.trans m;show⟨fd,λs v=>?_,λω _ _=>Vn .mk Z F⟩;obtain⟨_,_,_,_,_,_,_,_,_,e,_⟩:=F.ex;rw[e];show .of_eq rfl
def Vm{K:ao}{H:Hp}{a:ah}{ns:Q0e}(o:Only H)(h:dS K H a (ns.map V.int)):VS K H a ns:=by
 rcases h with h|h
 .rcases h with h|⟨b,h⟩
  .rcases o a with z|⟨_,_,z⟩|⟨_,z⟩<;>rw[z] at h<;>cases h
  .exact .inl ⟨b,h⟩
 .exact .inr (.inr h)
theorem walk{l:qu}{q:bg}{loose:Q0g}{O:(aj->Option ai)->ba->Prop}{YP:a_->ba->Prop}{d:DefRec}{K:Params->ao}(y:l.most=aa 63)(j:d.params.defaults=[])
  (J:∀(w:a_) (h:ba),YP w h->(K w.params).In h) (p:∀w:a_,TabsOk (K w.params) q) (c:∀w:a_,noTabs (K w.params)=ae)
  (F:∀(w:a_) (mg:Q0d) (m:ah) (h:ba),(K w.params).In h->h.Ns gu mg->mg d.name=aa (.ref m) ->
   ∃fd:gc,(∀(s:ak) (u:ai),qx s fd ⟨[u],[]⟩ [("_law_script",u)]) /\∀ω:ba,(K w.params).In ω->ω.Ns gu mg->hJ l.prog w (K w.params) mg ω gI 18 m fd ["_law_script"] (BS (K w.params) uZ)):
  Cd q loose O YP l.row.toRowW d [] (λf vs=>Bu f vs) :=
 L2.R7 (n:=63) (k:=18) (x:="_law_script") (CX:=λ_=>gI) (sp:=λw=>BS (K w.params) uZ) y (by decide) j ⟨rfl,by decide,by decide⟩ J p c F
  (λ_ H a ns A o L=>⟨λa=>H a=af,[.kR ns],λd=>d=.bl ae,λ_ h=>h,⟨_,_,rfl,⟨a,rfl,Vm o L⟩,rfl⟩,⟨_,LM ns A,rfl⟩,λv H' d _ I e=>by subst e;show I⟩) λ_ _ _ _ _ z=>z
end K27
open PySem.W PyProof.Rows
namespace PySem.W.Fast
def tw15283099507614925119:=0
def tw2645819756668181198:=0
def tw3545793408171380899:=0
def tw18271096192142149299:=0
def tw2972551298308039502:=0
def tw13179079761173588495:=0
def tw17130295475456130903:=0
def tw2117103722919460504:=0
def tw14184953353859571235:=0
def tw12076015637623971709:=0
def tw4699364295258366821:=0
def tw12004148852548870993:=0
def tw15420212678642301220:=0
def tw11864353581573127598:=0
def tw7432563461571356863:=0
def tw6405373548493075508:=0
def tw4374925362492024648:=0
def tw8793815561990187004:=0
def tw17857811425079109367:=0
def tw16081896528299305654:=0
def tw2830534906185641946:=0
def tw11029226052519551328:=0
def tw13812397229925134601:=0
def tw7293971275316368063:=0
def tw16647751183595361055:=0
def tw14120495012584792270:=0
def tw12412604355746704276:=0
def tw9381362882771511569:=0
def tw41639785022071740:=0
def tw5791873157683078053:=0
def tw2855799822909956139:=0
def tw8601348019740719711:=0
def tw1672421653597272458:=0
def tw7996201683027408704:=0
def tw2234245578043827681:=0
def tw6604793746199563075:=0
def tw1383654688626968574:=0
def tw17560573334375524753:=0
def tw12762175775807986693:=0
def tw15169842456364562501:=0
def tw5513922701762616209:=0
def tw6784267117095374435:=0
def tw3018390513958075072:=0
def tw18070902849774157575:=0
def tw6045593912928529531:=0
def tw11495556229901850215:=0
def tw4944177613962578877:=0
def tw4389147712322650864:=0
def tw8317126562607619838:=0
def tw808520171812578906:=0
def tw11104939904351415873:=0
def tw17886224479142356326:=0
def tw2570205568599078676:=0
def tw6976076925909159329:=0
def tw8257012776667874528:=0
def tw6759383826208918681:=0
def tw7522132375252271570:=0
def tw10301868733687804412:=0
def tw3266600524410587239:=0
def tw5650367514017071471:=0
def tw2419931818685402328:=0
def tw6601476395563661996:=0
def tw18364288297879199717:=0
def tw6539169305209693848:=0
def tw7465368775122053307:=0
def tw12962873369264677473:=0
def tw7653758203594971376:=0
def tw14293621187208504118:=0
def tw1106048924545174707:=0
def tw2506021149846290046:=0
def tw10769505841419258694:=0
def tw12867311984115953878:=0
def tw6680595004804797783:=0
def tw16494413331397378833:=0
def tw12209398767622742064:=0
def tw15433294491330387515:=0
def tw11707918683270602219:=0
def tw421358136445254138:=0
def tw15785826044762967009:=0
def tw14380329523130305328:=0
def tw6420924750249367935:=0
def tw2295511402616727773:=0
def tw12234391904846068658:=0
def tw17599587053419871872:=0
def tw10736177308982641061:=0
def tw7675325854262551162:=0
def tw8838400453205464063:=0
def tw11602549819379404915:=0
def tw12930559573304273279:=0
def tw6668583168915877872:=0
def tw16642915011473874432:=0
def tw8223388169438678233:=0
def tw4367700836506849372:=0
def tw14734549132477168679:=0
def tw8618076266982151065:=0
def tw14997890530996540453:=0
def tw6768311612335254008:=0
def tw15317268128046865130:=0
def tw18443809971619750959:=0
def tw10634511239125510046:=0
def tw3147984687855078856:=0
def tw9929741298636812932:=0
def tw648977575783050073:=0
def tw3162629885310082074:=0
def tw6912899980102373433:=0
def tw7734955365337668322:=0
def tw4109507284060325909:=0
def tw16671594822036747848:=0
def tw16411907362739863205:=0
def tw7774710121439323937:=0
def tw7429375023529646847:=0
def tw14429267789090462565:=0
def tw8895877851160702916:=0
def tw8688802768511520009:=0
def tw8049544138482372297:=0
def tw5034890450243884447:=0
def tw17115354918694892628:=0
def tw12500329374033197112:=0
def tw18071654752676927674:=0
def tw4405545707110646703:=0
def tw16473912878852615963:=0
def tw1364086821959718283:=0
def tw6898795755064029278:=0
def tw1647449878178602579:=0
def tw1195891482425101714:=0
def tw3015406827111529219:=0
def tw9745253950583313292:=0
def tw8049341777141672628:=0
def tw2786299716987846530:=0
def tw2570357916167261711:=0
def tw1709403355746081393:=0
def tw16236238324969516576:=0
def tw14740313420954958475:=0
def tw14221411371123283280:=0
def tw15457302713222101262:=0
def tw12670889857867985422:=0
def tw1375140944337346963:=0
def tw10605019906397390702:=0
def tw8106734439128029837:=0
def tw16038625490767894013:=0
def tw840684306353654223:=0
def tw1084896792178313087:=0
def tw12237568519736469914:=0
def tw3126661954295022097:=0
def tw8270414123436082136:=0
def tw5875664314110216410:=0
def tw526943025408639247:=0
def tw3820150135693801833:=0
def tw1485181355089498289:=0
def tw849678805258724161:=0
def tw5063153502547759027:=0
def tw4034554811829989486:=0
def tw3174667486768952646:=0
def tw18204839053810765574:=0
def tw18130104564111199065:=0
def tw17977685405108816511:=0
def tw16842006216548791449:=0
def tw16150595028363840884:=0
def tw15418409604244659960:=0
def tw12976235607942983224:=0
def tw10034676925610318015:=0
def tw9890682320855323000:=0
def tw18341616232609222994:=0
def tw9811567665491809026:=0
def tw18141234853064805723:=0
def tw14903277591403733805:=0
def tw3325057632274735793:=0
def tw752134924448662237:=0
def tw9600573116891946261:=0
def tw8333107298445660507:=0
def tw4199669387251648305:=0
def tw1306729031855082472:=0
def tw15071307886918011371:=0
def tw1398049292462376436:=0
def tw9876340122206469192:=0
def tw128916181909375371:=0
def tw11402018387318806224:=0
def tw6528280666933144656:=0
def tw176850740420329356:=0
def tw8642254031829939611:=0
def tw6978304280976226457:=0
def tw6682682708878328506:=0
def tw378279650769553304:=0
def tw3516922010365156404:=0
def tw16715513054902723134:=0
def tw15339764397948991700:=0
def tw13614263225154846145:=0
def tw1219843538047032485:=0
def tw10755213051660515996:=0
def tw9180589046506024850:=0
def tw8117871563404400677:=0
def tw7914493776136154063:=0
def tw5216649818398312788:=0
def tw4206405247398721818:=0
def tw4064262703837282095:=0
def tw210368165609099377:=0
def tw17893880102171109413:=0
def tw15358693610264531195:=0
def tw15105918835104965732:=0
def tw13303245664589520976:=0
def tw11230353949253784207:=0
def tw11151250442203784748:=0
def tw4502039589023937011:=0
def tw17955797276176978649:=0
def tw4083864058821690084:=0
def tw5209802284486035010:=0
def tw11785284720395163843:=0
def tw7681763748580847315:=0
def tw14338743245916935199:=0
def tw10043843107676013220:=0
def tw13944481920270969636:=0
def tw18389049814651342954:=0
def tw2249145908486708873:=0
def tw15055966451569942726:=0
def tw8120951628596615072:=0
def tw7598933292210193163:=0
def tw12251052713078631063:=0
def tw5631057597247781900:=0
def tw13410137636613896890:=0
def tw5589426759447936620:=0
def tw664553616885983408:=0
def tw6602950085627508513:=0
def tw5194547588595761369:=0
def tw3563377113532939197:=0
def tw2603993412304675001:=0
def tw17965739287798461604:=0
def tw17690189371476658101:=0
def tw17577571708294784958:=0
def tw17013396000642769451:=0
def tw15012773287484429423:=0
def tw13956309364575260391:=0
def tw1107513094828957051:=0
def tw7643182898909912327:=0
def tw7418147600217874338:=0
def tw4170021370226322686:=0
def tw3025002398474553553:=0
def tw2289468509747618873:=0
def tw14255892384938635574:=0
def tw13822958532275502120:=0
def tw13061903825837947129:=0
def tw11696770174115302263:=0
def tw11597476591602305255:=0
def tw7045558243390665800:=0
def tw8181709493526952331:=0
def tw6762744812310076476:=0
def tw15481135409224243825:=0
def tw12648249442462789846:=0
def tw11012974974256214099:=0
def tw8881851001879092476:=0
def tw7001126751766284283:=0
def tw6009646190978880602:=0
def tw3353418321042227831:=0
def tw18030091417472966973:=0
def tw16982252088346496742:=0
def tw16605465846989799429:=0
def tw13905041443842017957:=0
def tw1310565431778992138:=0
def tw12273279041736070970:=0
def tw9962985612158836977:=0
def tw5627654750170978398:=0
def tw2237170819757339925:=0
def tw18268810541702144135:=0
def tw14599866583773564063:=0
def tw9967290708295530425:=0
def tw9872921979475982018:=0
def tw94115718501415924:=0
def tw9396257686185112217:=0
def tw9101575694884087295:=0
def tw8894392148961406911:=0
def tw8571734940253547270:=0
def tw822542365176457954:=0
def tw7279705365417736982:=0
def tw7015471581165016525:=0
def tw670539668151477456:=0
def tw6428067333366851077:=0
def tw6419975219351719621:=0
def tw6256578297454456291:=0
def tw6187253767166263026:=0
def tw5817717824941736984:=0
def tw5701056043655447493:=0
def tw5691823226481833216:=0
def tw5558009594107709420:=0
def tw5113979871214078730:=0
def tw503720645789313591:=0
def tw5024065806617022000:=0
def tw488569873574573360:=0
def tw4062521848061042284:=0
def tw3933932841907145753:=0
def tw3853265345841829060:=0
def tw3244962809260470688:=0
def tw3191287921201724836:=0
def tw2717924213241222031:=0
def tw2492045522248472939:=0
def tw2379671638212183756:=0
def tw2368602855975645104:=0
def tw2145176813130774946:=0
def tw18408455526952618739:=0
def tw17774603288179593993:=0
def tw17696386231621193299:=0
def tw17617677520059875297:=0
def tw17499312789818255617:=0
def tw17389433245983870920:=0
def tw16938581519395233513:=0
def tw16892604038540987297:=0
def tw16596708787799199702:=0
def tw16251961260512240346:=0
def tw16191283288425807197:=0
def tw15945894406034304551:=0
def tw15934647505761390612:=0
def tw15642294509821868032:=0
def tw15524246029028083368:=0
def tw14914824333653091590:=0
def tw14885836364762170154:=0
def tw14500140572961718110:=0
def tw14454270978125575510:=0
def tw14388156969939018065:=0
def tw13976911382996780863:=0
def tw13961562156427034615:=0
def tw1381762165615021673:=0
def tw13751321800871401913:=0
def tw13332537152100501318:=0
def tw1317814722840798403:=0
def tw13009965415626757923:=0
def tw12715315438677822146:=0
def tw12625665542730451981:=0
def tw12450702853186981243:=0
def tw12414277794112129343:=0
def tw12168884100221331780:=0
def tw12160764421458475799:=0
def tw12026350195414515431:=0
def tw11897370967408540463:=0
def tw11821152455622299081:=0
def tw11748571952024915008:=0
def tw11639606404866464560:=0
def tw11622972386448801376:=0
def tw11553617195523462178:=0
def tw11454929588125410453:=0
def tw11427127484884820540:=0
def tw11360732276165462815:=0
def tw11236207026699272222:=0
def tw10829586101053742601:=0
def tw10813934245962253567:=0
def tw10725002025608420914:=0
def tw10720598086948797759:=0
def tw10597884104427932808:=0
def tw10525506044677214666:=0
def tw10037184779484949492:=0
end PySem.W.Fast
set_option maxRecDepth 100000 in
set_option maxHeartbeats 0 in
theorem PySem.Challenge.cw_risecount_k27_downsets_and_calm_holds : PySem.Challenge.rw_risecount_k27_downsets_and_calm.Holds := by
 w_on; o_law; k_head; (case hw=>w_witness2)
 k_fill
 show K27.walk (l := PySem.Challenge.rw_risecount_k27_downsets_and_calm) rfl rfl (fun w h Y => PySem.W.km_in_of Y) ?hTbs ?hNtb ?F
 case hTbs =>
  intro w
  refine' L4.tabs_ok (L4.JX ?t1 ?t2 ?t3 ?t4 ?t5) ?nd ?rc
  (case t1=>(refine' L4.nK ?p1; (case p1=>k_is)))
  (case t2=>(refine' L4.nK ?p1; (case p1=>k_is)))
  (case t3=>(refine' L4.nK ?p1; (case p1=>k_is)))
  (case t4=>(refine' L4.BD ?p1 ?p2 ?p3 ?p4 ?p5; (case p1=>k_is); (case p2=>k_is); (case p3=>show rfl); (case p4=>k_is); (case p5=>show rfl)))
  (case t5=>(refine' L4.nK ?p1; (case p1=>k_is)))
  (case nd=>decide)
  (case rc=>(intro t j; rcases List.mem_cons.1 j with rfl | j<;>first | show ⟨_,rfl⟩ | cases j))
 case hNtb =>
  intro w
  kernel_rfl
 case F =>
  intro w mg n h KX G m
  refine' K27.all_mk m ⟨?tM,?j6,?oZ,?tN,?tP,?lW,?o9,?yZ,?pA,?iM,?j7,?lX,?j8,?lY,?pB,?rr,?pC,?tb7,?_,?_,?_,?_,?_,?_,?_,?_,?_,?_,?_,?_,?_,?_,?_,?_,?_,?_,?_,?_,?_,?_,?_,?_,?_,?_,?_,?_,?_,?_,?_,?_,?_,?_,?_,?_,?_,?_⟩
  (case' tM | j6 | oZ | tN | tP | lW | o9 | yZ | pA | iM | j7 | lX | j8 | lY=>show PySem.W.mg_of KX G (by k_is))
  (case' pB=>show L5.TY (by k_exc))
  (case rr=>show ⟨by k_is,by k_is,by k_is⟩)
  (case' pC=>show ⟨⟨by k_is,by k_is,by k_is,by k_is,by k_is,by k_is,by k_is,by k_is⟩,by k_is,by k_is,?_⟩; (repeat refine' And.intro ⟨by rfl,by k_is,by k_is,by k_is⟩ ?_); trivial)
  (case tb7=>(refine' L4.BD ?p1 ?p2 ?p3 ?p4 ?p5; (case p1=>k_is); (case p2=>k_is); (case p3=>show rfl); (case p4=>k_is); (case p5=>show rfl)))
  all_goals first | show PySem.W.mg_none_of KX G (by k_is) | (refine' L4.aCo KX G ?b ?a ?l ?c ?k; (case a=>k_is); (case l=>k_is); (case c=>k_is); (case k=>k_is); (case b=>(intro us d; first | (obtain ⟨_,rfl⟩:=L4.UH us d; rfl) | (obtain ⟨_,_,rfl⟩:=L4.UI us d; rfl) | (obtain ⟨_,_,_,rfl⟩:=L4.UJ us d; rfl) | (obtain ⟨_,_,_,_,rfl⟩:=L4.UK us d; rfl))))
end
