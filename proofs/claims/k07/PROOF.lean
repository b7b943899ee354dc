import PyProof.Rows.All
import PySem.Str
import PySem.Sem
import PyProof.StrBlockL
import PyProof.Rows.Walk
import PyProof.Rows.StrFacts2
import PyProof.StrLawsTight
import PyProof.StrLawsChain
import Wide.All
import OpenK.AllK
import Wide.FinOn
import Lean
import PyProof.EqAt
import PyProof.EqKinds
import PyProof.TupleCall
import PyProof.SeqRoads2
import PyProof.ExcArgs
import KE.KIsAll
import PyProof.DictIter
import PyProof.Rows.CountFlat
import PyProof.NeKinds
import KE.KSortKey
import KE.KMinKey
import KE.KIntText
import PyProof.Rows.FStr
import PyProof.Rows.StrJoin2
import PySem.Challenge.RW_risecount_k07_texts_refused
set_option Elab.async false
set_option linter.all false
set_option maxRecDepth 100000
set_option maxHeartbeats 3999999
open PySem.W (CodeHd OpenLaw codeIn excIn fnOf hideAll instObj keepIn lookIn methodObj noTabs tabObj)
open And renaming intro->tj
open Array renaming forIn_toList->Yt,getD->s_,getD_eq_getD_getElem?->xa,getElem?_eq_getElem->ka,getElem?_eq_none->Ce,getElem?_eq_some_iff->Cd,getElem?_toList->w_,getElem_toList->Ys,length_toList->Cc,size_append->Yr,toList->Yq,toList_append->Yp,toList_push->Yo
open Array.Perm renaming refl->qp
open Bool renaming and_eq_true->fm,eq_iff_iff->wz,false->ag,false_and->Ca,false_eq_true->mh,false_ne_true->bg,false_or->qo,not_eq_true->Yn,not_eq_true'->Ym,not_false->qm,not_not->Yl,not_true->ql,or_eq_true->B_,true->af,true_and->jt,true_or->Yk
open Classical renaming byContradiction->wy,epsilon->Yj,epsilon_spec->Yi
open Decidable renaming decide->Zv
open False renaming elim->ip
open ForInStep renaming done->Yh,yield->kq
open Int renaming ediv_one->Yg,emod_lt_of_pos->jd,emod_nonneg->gm,le_trans->Yf,mul_one->Ye,toNat_natCast->qk,toNat_of_nonneg->Bz,zero_add->By
open List renaming Nodup->Yd,all_cons->qj,all_eq_true->ko,all_map->Ya,any_cons->jr,any_map->X_,append_assoc->km,append_nil->il,cons_append->n_,drop_eq_getElem_cons->sv,drop_eq_nil_of_le->Bx,drop_length->Xz,drop_zero->wu,eraseIdxIfInBounds_toArray->Xy,eraseIdx_cons_succ->Bw,ext_getElem?->wt,filterMap_cons->sr,filterMap_map->Xx,find?_cons->mf,flatten_cons->sk,foldl_cons->wq,forIn_cons->qi,forIn_nil->wo,getD_eq_getElem?_getD->nz,getElem?_append_left->jq,getElem?_append_right->jo,getElem?_cons_succ->ny,getElem?_cons_zero->nu,getElem?_drop->Xw,getElem?_eq_getElem->cm,getElem?_eq_none->kl,getElem?_eq_some_iff->c_,getElem?_map->d_,getElem?_nil->qh,getElem?_range->wm,getElem?_replicate->jc,getElem?_set_ne->j_,getElem?_set_self->kj,getElem?_take_of_lt->Bv,getElem?_zipIdx->Bu,getElem_drop->Xv,getElem_inj->Xu,getElem_map->Xt,getElem_mem->sj,getElem_of_mem->wj,length->qg,length_append->cu,length_cons->cn,length_drop->me,length_eq_zero_iff->ki,length_eraseIdx_of_lt->Xs,length_map->bp,length_nil->jn,length_range->qf,length_replicate->jb,length_reverse->Xr,length_set->ik,length_singleton->wg,length_take->kh,lookup_append->Bt,lookup_cons->qe,map_append->gk,map_congr_left->nq,map_cons->bt,map_drop->Xq,map_map->ij,map_nil->ja,map_reverse->Xp,map_take->Xo,mem_append->dq,mem_append_left->dj,mem_append_right->gg,mem_cons->bh,mem_cons_of_mem->cq,mem_cons_self->b_,mem_filter->si,mem_filterMap->nk,mem_flatMap->Bs,mem_iff_getElem?->we,mem_map->fz,mem_of_getElem?->jz,mem_range->nj,mem_singleton->bx,nil_append->nh,nodup_append->wc,nodup_cons->md,nodup_nil->Xn,nodup_range->Xm,not_mem_nil->i_,of_mem_zip->Br,pairwise_and_iff->Xl,pairwise_cons->dm,pairwise_iff_getElem->sh,pairwise_lt_range->Bq,pairwise_map->Xk,range->ck,range_succ->Xj,range_succ_eq_map->Bp,replicate->bw,replicate_succ->ig,replicate_zero->qd,reverse_cons->Bo,set_cons_succ->qc,set_cons_zero->qb,set_nil->qa,size_toArray->cf,sum_cons->Bn,take_append_drop->Xi,take_of_length_le->ng,take_sublist->Bm,take_succ->Xh,toArray->wb,zip_cons_cons->Xg
open List.Nodup renaming sublist->a1o
open List.Pairwise renaming and->a1n,filter->a1m,imp_of_mem->a1l,map->wx,nil->sy
open List.Perm renaming append_left->a1k,nil->a1j,refl->Yc,swap->Yb
open List.cons renaming inj->sx
open Nat renaming add_assoc->Xf,le_add_left->Xe,le_add_right->Xd,le_of_ble_eq_true->ma,le_of_eq->jm,le_of_lt->jy,le_refl->bf,le_succ->l_,le_trans->cy,lt_asymm->Xc,lt_irrefl->gf,lt_log2_self->Xb,lt_of_le_of_lt->Bl,lt_of_lt_of_le->e_,lt_succ_of_lt->sg,lt_succ_self->Bk,lt_trans->Xa,mod_lt->W_,mul_comm->Wz,ne_of_gt->nc,ne_of_lt->de,one_pos->Wy,sub_self->Bj,succ_ne_self->Bi,zero_le->g_
open Ne renaming symm->fj
open Option renaming bind->wa,bind_none->p_,bind_some->cj,getD_none->Wx,join_none->pz,join_some->m_,map->Ww,map_eq_some_iff->v_,map_none->pw,map_some->kg,none->ae,some->aa
open Option.some renaming inj->fu
open Or renaming inl->cb,inr->br
open Prod.mk renaming inj->Wv
open PyProof renaming noPylong_small->Vz
open PyProof.Rows renaming AllBare->jw,IntsAre->gd,IsTup->gc,Subscript_->Be,args_list_sort->Wt,args_sorted1->Ws,args_tuple_getitem->Wq,boot_all->a1h,boot_any->a1g,boot_bool->Bd,boot_int->Bc,boot_isinstance->Bb,boot_list->a1f,boot_range->Ba,boot_sorted->A_,boot_str->Wo,boot_tuple->Az,bubble_perm->Wn,callWith_builtin1->a1e,callWith_type1->se,entry_list_sort->Wm,entry_sorted->Wl,entry_tuple_getitem->Wk,fact_split->pq,get?_update_seq->Wj,join_list->a1d,kind_sorted->Wi,len_upper->a1c,listUpdate_at->vz,plain_sorted->Wh,seqEpoch_at->Wg,slicePart_none->Wf,slot_list_sort->We,slot_tuple_getitem->mz,sortedAll_at->Wd,sortedAll_old->Wc,subscriptTail_builtinR->Wb,truthy_tuple->Wa,tupleItemsOf_->V_
open PyProof.Rows.F renaming entry_set_update_loop->Wu,plain_set_update_loop->Bh
open PyProof.Rows.IntsAre renaming length->Bg
open PyProof.Rows.IsTup renaming new->Bf
open PyProof.Rows.SCL renaming upper->a1i
open PySem renaming Addr->ah,Around->bo,BindsTo->pk,Env->cx,Expr->au,FuncData->ft,Heap->a_,IntMulOk->r6,IsEnum->rz,IsPart->jj,IsRangeIter->vn,Keyword->di,Model->pd,NameKind->gz,Obj->ay,Paired->jh,PassesOwn->o_,Pos->ba,Program->bb,Result->vi,Scope->fq,Sem->gj,Shared->ak,Stmt->bq,Str->ai,Tok->f_,Value->aj,Walks->ou,Within->To,World->az,assignEach->cp,backTo->bz,boot_len->Tn,builtinLookup_eq_fast->Tj,cLine->fv,call->zx,call_function_tree->Ti,call_meets->lg,call_range_1->Th,codeAny->ia,codeAny_builtin->jv,codeAny_call_builtin->uw,codeAny_mono->qz,concat_meets->zw,entryFor_alias->Tg,eqIsQuiet_byValue->Tf,evalPart_none->zv,evalPart_some->Te,fitsIndex_both->Td,fits_of_scanBound->uv,intBits_le_64->Tc,intKind_is->zu,intText?->zt,isSubtype_stop->Tb,isSubtype_tuple_tuple->Ta,isSubtype_type->S_,keywordEach->iu,mainGlobals->gw,mem_of_lookup->ju,model->aw,name_of_addr->S0,noFill_tuple_add->zr,plainId_quiet->mq,pushCells_keeps->Sz,rangeSize_one->Sy,seqIndex_neg->Sx,seqIndex_of->Sw,seqSlot_of->Su,seq_tuple_add->zp,sizeLine->bc,sizeLine_eq->df,slot_list_getitem->Ss,starEach->ar,sub_set_self->Sr,swapsWith->fg,tupleKind_room_in1->Sq,typeIs_int->zo,typeLookup_type->So,wpAny->av,wpAny_Assign_Name->Sn,wpAny_BinOp->Sm,wpAny_Call_Name_kw->zm,wpAny_Call_method_late->Sk,wpAny_Constant_int->Sj,wpAny_List_spliced->Sg,wpAny_Name->zl,wpAny_Slice->Sf,wpAny_alloc->Se,wpAny_askSetting->zk,wpAny_attempt->oq,wpAny_bind->ao,wpAny_call->uu,wpAny_callSpecial?_slot->la,wpAny_call_entry->gu,wpAny_eqBool_int->Sb,wpAny_execs_cons->zj,wpAny_execs_nil->ur,wpAny_field->k_,wpAny_getItem_list_slice->Sa,wpAny_handled->zi,wpAny_holding->gp,wpAny_isInstance->qy,wpAny_letGo->R_,wpAny_load->uq,wpAny_mono->ir,wpAny_newList->zh,wpAny_newObj_type->kz,wpAny_newTuple->Rz,wpAny_of_eq->zg,wpAny_passesOwn->mn,wpAny_pure->ax,wpAny_pyIter_enum->uo,wpAny_pyIter_list->zf,wpAny_pyIter_range->Ry,wpAny_pyIter_rangeiter->Rx,wpAny_pyIter_slot->Ru,wpAny_pyIter_tuple->qx,wpAny_pyNext_range_end->Rr,wpAny_rule->iq,wpAny_runValue->Rq,wpAny_seqItems->ze,wpAny_sequenceKey->Rp,wpAny_setEntries_of->qw,wpAny_setField->ku,wpAny_setFlight_noneW->Ro,wpAny_setState_of->oo,wpAny_specialOf->um,wpAny_storeSet_of->Rn,wpAny_throw->zd,wpAny_truthy_bool->kc,wpAny_truthy_list->Rm,wpAny_tupleItemsOf->Rl,wpAny_typeOf->om
open PySem.Around renaming under_plainId->lx
open PySem.AutoListH renaming list_insert_list_int_val_1->a1b
open PySem.Builtin.Frozenset renaming newClass->a1a,sizeOf->a09,slot0->a08,updateFrom->a07
open PySem.Builtin.List renaming listExtendWith->Ay,listLengthHint->Ax,listSameRef->Vy,listTouch->a06
open PySem.Builtin.ObjectAttr renaming dataDescriptor?->a05,find->a04
open PySem.Builtin.Range renaming rangeFitsLong->a03,rangeSize->sd,small->Vx
open PySem.Builtin.Slice renaming sliceAdjust->Aw,sliceApplied->Vw,sliceFields->a02,slicePartIndex->a01,slicePlaces->vy
open PySem.Builtin.SmallTypes renaming nextOf->Vv
open PySem.Builtin.Str renaming occurrences->fw,strSliceIndices->Vu
open PySem.Builtin.Tuple renaming tupleExact->vx,tupleHashOf->Vt,tupleIsExact->a00,tupleItemsOf->Vs,tupleTooMany->a0Z
open PySem.Calls renaming Constant_str->Au,Name_function_global->Vr,callWith_builtin->As,call_function_entry->Vq,evalArgs_plain->Ar,spliced_cons->vw,spliced_nil->Aq
open PySem.Code renaming quiet_builtin->Vp
open PySem.Data renaming cell->Vo,fields->Vn,seq->Vm
open PySem.DictEntry renaming refKey->a0Y
open PySem.EqMixed renaming eq_bool_str->a0X,eq_int_str->a0W,eq_str_bool->a0V,eq_str_int->a0U,ne_bool_str->a0T,ne_int_str->a0S,ne_str_bool->a0R,ne_str_int->a0Q
open PySem.EqNone renaming eq_bool_none->a0P,eq_int_none->a0O,eq_none_bool->a0N,eq_none_int->a0M,eq_none_none->a0L,eq_none_str->a0K,eq_str_none->a0J,ne_bool_none->a0I,ne_int_none->a0H,ne_none_bool->a0G,ne_none_int->a0F,ne_none_none->a0E,ne_none_str->a0D,ne_str_none->a0C
open PySem.Expr renaming Constant->Vl
open PySem.F renaming args_tuple_add_2->Ap,args_tuple_iterator_next_1->Vk,called_set->lp,entry_all_loop->Vj,entry_any_loop->Vi,entry_list_pop->Vh,entry_tuple_add->Ao,entry_tuple_iterator_next->Vg,excAttr_ValueError->Vf,plainAttrs_list->An,plainAttrs_str->r_,plain_all_loop->vv,plain_any_loop->vt,plain_list_iadd->Ve,slot_int_rmul->Vd,slot_list_append->Vc,slot_list_insert->Vb,slot_list_pop->vq,slot_set_iter->Va,slot_str_index->U_,slot_str_replace->Uz,slot_tuple_add->Am,slot_tuple_eq->Uy,slot_tuple_iterator_next->vp,slot_tuple_mul->Al,slot_tuple_rmul->Ux,type_list_pop->Uw
open PySem.Heap renaming ExtBut->Ak,SameBut->jl,get?_none_of_le->Uu,get?_push_of_some->bu,get?_push_size->cz,get?_update_other->r9,get?_update_self->pj,lt_size->bj,size_push->pf
open PySem.Heap.DictOf renaming new->a0B
open PySem.Heap.IsSliceOf renaming new->Uv
open PySem.Heap.SameBut renaming refl->a0A,update->jk
open PySem.IsL renaming update->a0z
open PySem.IsRange renaming new->Ut
open PySem.MeetsSeq renaming list_pop_at->a0y,list_pop_last->a0x
open PySem.NameKind renaming cell->ji,free->iz
open PySem.Obj renaming cls_mapFields->vm,data_mapFields->iy,isFreed_of_fields->rn,mapFields->Us,mapSeq->ke,putSet->vk
open PySem.Paired renaming length->vj,snoc->Ur
open PySem.PassesOwn renaming leaving->Uq,never->jg
open PySem.Pv renaming boot_set->a0w
open PySem.SB renaming notContains->a0v
open PySem.SeqAt renaming EqAt->Uo
open PySem.SeqAt.EqAt renaming bool_bool->a0u,bool_int->a0t,bool_none->a0s,bool_str->a0r,int_bool->a0q,int_int->a0p,int_none->a0o,int_str->Um,int_tuple->a0n,none_bool->a0m,none_int->a0l,none_str->a0k,same->Ul,str_bool->a0j,str_int->Uk,str_none->a0i,str_str->a0h,str_tuple->a0g,tuple_int->a0f,tuple_str->a0e
open PySem.SetTable renaming Probe->a0d,advance->a0c,below->dc,fill->a0b,fits->Uj,freeSlot->a0a,fresh->Zn,grown->oz,has->vg,insertAt->vf,laid->Zm,layClean->Zl,orStandIn->Zk,probe->Zj,put->Zi,relaid->Zh,sizeAbove->Zg,slot->Ui,standIn->Zf
open PySem.SetTable.below renaming go->vh
open PySem.SetTable.probe renaming go->Aj
open PySem.Slot renaming of->Uh
open PySem.Str renaming cps->Ug,cps_append->Ai,join->cc,ofString->ll
open PySem.StrLaws renaming glued_eq_join->Ah,join_length_le->Ag,join_split->ve,occ_length_le_len->Ze,replace_one->Ue
open PySem.Txt renaming join->gi,replace->iw,slice->gr,slice_le->rm,split->dh,upper->rk
open PySem.Value renaming bool->vd,builtin->Ud,float->Uc,int->ie,isInt->Ub,isStrOf->Ua,none->rj,ref->dg,str->vc,type->my
open PySem.Value.ref renaming inj->Zd
open PySem.W renaming Frag->aq,KasT->mx,Looks->rh,OpenLaw->oy,WalkO->Af,cellsFrom_some->Tx,exmOne->vb,findIn->Tw,funFrames_hide->Tv,hideAll_get->rf,hideAll_none->rb,kas_asc->gy,kas_ask->Ae,kas_bin->u_,kas_count->uz,kas_desc->mw,kas_descPart->uy,kas_place->ib,kas_rev->gq,kas_sort->q_,kas_tail3->Ad,kia_one->gx,kitOne->ox,kitx_dict->Tu,kitx_list->Ac,kitx_tuple->Tt,looks_findIn->Ab,nsIn->Aa,of_hideAll->z_,plainGet->Ts,subIn->ux,tabIn->zy,tail_of_in->Tr
open PySem.W.KF renaming slot_gs->T_
open PySem.W.KIN renaming call_text->Zc
open PySem.W.KasT renaming ret->lh
open PySem.W.WData renaming int->TM
open PySem.W.WShape renaming has->Tz
open PySem.Walks renaming list->Tq,range->Tp
open PySem.pickOrder renaming go->zq
open Sum renaming inl->cg,inr->jf
open True renaming intro->kb
open PySem
set_option genSizeOf false
set_option compiler.extract_closed false
set_option bootstrap.genMatcherCode false
noncomputable section
local macro_rules|`(⇑$x)=>`(($x).length)
local macro_rules|`(↥$x)=>`(($x).heap.objs.size)
local macro_rules|`(⋯)=>`(by decide)
local macro_rules|`(↑$x)=>`(by simpa using $x)
local macro_rules|`(tactic|erw[$[$r:term],*]$[$l]?)=>`(tactic|simp only[$[$r:term],*]$[$l]?)
local macro_rules|`(tactic|lia)=>`(tactic|first|cutsat|omega)
local macro_rules|`(∅)=>`(by lia)
local macro_rules|`(tactic|show $t)=>`(tactic|first|refine $t|fail)
set_option hygiene false
local macro_rules|`(tactic|symm$[$l:location]?)=>`(tactic|simp only[Dn]$[$l]?)
set_option hygiene true
local macro_rules|`(tactic|walk_at "0")=>`(tactic|first|show .inl rfl|show .inr rfl)
local macro_rules|`(tactic|walk_at "1")=>`(tactic|first|show cb rfl|show br (cb rfl)|show br (br rfl))
local macro_rules|`(tactic|walk_at "2")=>`(tactic|first|show .inr rfl|show .inl rfl)
theorem Zq0(h:True:=by rfl):True:=h
theorem Zq1(h:True:=by decide):True:=h
theorem Zq2(h:True:=by walk_at "0"):True:=h
theorem Zq3(h:True:=by walk_at "1"):True:=h
theorem Zq4(h:True:=by with_unfolding_all rfl):True:=h
theorem Zq5(h:True:=by intro _;rfl):True:=h
theorem Zq6(h:True:=by walk_at "2"):True:=h
theorem Zq7(h:True:=by intro _ _;rfl):True:=h
theorem Zq8(h:True:=by show⟨rfl,rfl,rfl,by decide+kernel,rfl,by decide+kernel,by decide+kernel⟩):True:=h
theorem Zq9(h:True:=by first|show .inl rfl|show .inr rfl|assumption):True:=h
local macro_rules|`($t<|>0)=>`(autoParam $t Zq0._auto_1)|`($t<|>1)=>`(autoParam $t Zq1._auto_1)|`($t<|>2)=>`(autoParam $t Zq2._auto_1)|`($t<|>3)=>`(autoParam $t Zq3._auto_1)|`($t<|>4)=>`(autoParam $t Zq4._auto_1)|`($t<|>5)=>`(autoParam $t Zq5._auto_1)|`($t<|>6)=>`(autoParam $t Zq6._auto_1)|`($t<|>7)=>`(autoParam $t Zq7._auto_1)|`($t<|>8)=>`(autoParam $t Zq8._auto_1)|`($t<|>9)=>`(autoParam $t Zq9._auto_1)
abbrev Q0a:=List (List Int)
abbrev Q0b:=List (ah×ay)
abbrev Q0c:=aj->ak->Prop
abbrev Q0d:=ai->Option aj
abbrev Q0e:=List Int
abbrev Q0f:=List aj
abbrev Q0g:=List ai
abbrev Z_.{u}:=@if_pos.{u}
abbrev Zz.{u}:=@if_neg.{u}
abbrev Zy:=@decide_eq_false
abbrev Zx:=@decide_eq_true
abbrev Zw.{u}:=@absurd.{u}

namespace L3
inductive D where
 |non
 |bl (b:Bool)
 |int (i:Int)
 |str (x:ai)
 |tup (xs:List D)
 |lst (xs:List D)
 |i9 (ns:Q0e)
 |iR (ks:List (Sum Int ai)) (xs:List D)
 |mL (q:Nat->ay->Prop) (ks:List (Sum (Sum Int ai) (List (Sum (Sum Int ai) (List (Sum Int ai)))))) (xs:List D)
 |exc (c:ai) (a:Nat)
 |rws (xs:Q0a)
mutual
noncomputable def D.uF:D->Bool
 |.non=>af
 |.bl _=>af
 |.int _=>af
 |.str _=>af
 |.tup ds=>wZ ds
 |.lst _=>ag
 |.i9 _=>af
 |.iR _ _=>ag
 |.mL _ _ _=>ag
 |.exc _ _=>af
 |.rws _=>ag
noncomputable def wZ:List D->Bool
 |[]=>af
 |d::ds=>d.uF&&wZ ds
end
abbrev cD:=List (Option D)
inductive Sv where
 |no
 |ro (d:D)
 |ow (d:D)
abbrev bG:=List Sv
noncomputable def Sv.all:Sv->Option D
 |.no=>ae
 |.ro d=>aa d
 |.ow d=>aa d
abbrev Sv.ri(n:Int):Sv:=.ro (.int n)
noncomputable def Sv.rd:Sv->Option D
 |.ro d=>aa d
 |_=>ae
def aV(ρ:bG):cD:=ρ.map Sv.all
def fB(ρ:bG):cD:=ρ.map Sv.rd
end L3
namespace L4
open L3
inductive M (α:Type) where
 |no
 |ex (c:ai)
 |ok (a:α)
inductive Out where
 |no
 |nx (ρ:bG)
 |rt (d:D)
 |ex (c:ai)
abbrev EF:=cD->Option D
abbrev TF:=cD->Option Bool
abbrev AF:=cD->Option (List D)
abbrev XF:=bG->Option (bG×D)
abbrev SF:=bG->Out
abbrev kR:=List D->M D
def g8:Nat:=16777216
def aK(i:Nat):EF:=λρ=>(ρ[i]?).join
def eC(d:D):EF:=λ_=>aa d
abbrev eI(n:Int):EF:=eC (.int n)
abbrev bV:EF:=aK 0
abbrev cH:EF:=aK 1
abbrev fE:EF:=aK 2
abbrev kT:EF:=aK 3
abbrev fC:EF:=aK 4
abbrev w9:EF:=aK 5
abbrev uU:EF:=aK 6
abbrev y7:EF:=aK 7
abbrev Z6:EF:=aK 8
abbrev UD:EF:=aK 9
abbrev zB:EF:=aK 10
abbrev Yy:EF:=aK 11
abbrev Yx:EF:=aK 12
def aB(g:D->D->Option D)(a b:EF):EF:=λρ=>(a ρ).bind λx=>(b ρ).bind λy=>g x y
noncomputable def kU:D->Option Bool
 |.bl b=>aa b
 |.lst ds=>aa (!ds.isEmpty)
 |.tup ds=>aa (!ds.isEmpty)
 |_=>ae
def tV(f:EF):TF:=λρ=>(f ρ).bind kU
def gF(t:TF):TF:=λρ=>(t ρ).map (!·)
def mM(t u:TF):TF:=λρ=>(t ρ).bind λb=>if b=af then u ρ else aa ag
def nO(t u:TF):TF:=λρ=>(t ρ).bind λb=>if b=af then aa af else u ρ
noncomputable def qF:D->Option Bool
 |.bl b=>aa b
 |_=>ae
def g9(a b:EF):EF:=λρ=>(a ρ).bind λx=>(qF x).bind λc=>if c=af then b ρ else aa (.bl ag)
def BW(a b:EF):EF:=λρ=>(a ρ).bind λx=>(qF x).bind λc=>if c=af then aa (.bl af) else b ρ
def rN(a:EF):EF:=λρ=>(a ρ).bind λx=>(qF x).map λc=>.bl (!c)
def J3(t:TF)(a b:EF):EF:=λρ=>(t ρ).bind λc=>if c=af then a ρ else b ρ
noncomputable def BX:D->Option D
 |.int i=>aa (.int (-i))
 |_=>ae
def zC(a:EF):EF:=λρ=>(a ρ).bind BX
def hJ(f g:D->D->Option D)(a b c:EF):EF:=λρ=>(a ρ).bind λx=>(b ρ).bind λy=>(f x y).bind λz=>(qF z).bind λk=>if k=af then(c ρ).bind λw=>g y w else aa (.bl ag)
noncomputable def BY(g:Int->Int->D):D->D->Option D
 |.int i,.int j=>aa (g i j)
 |_,_=>ae
noncomputable def nQ(c:Int->Int->Bool)(g:Int->Int->D):D->D->Option D
 |.int i,.int j=>if c i j=af then aa (g i j) else ae
 |_,_=>ae
noncomputable def aX:D->D->Option D
 |.int i,.int j=>aa (.int (i+j))
 |.lst a,.lst b=>if ⇑a+⇑b<=g8 then aa (.lst (a++b)) else ae
 |.tup a,.tup b=>if ⇑a+⇑b<=g8 then aa (.tup (a++b)) else ae
 |.str a,.str b=>if ⇑a+⇑b<=g8 then aa (.str (a++b)) else ae
 |_,_=>ae
def VW:D->D->Option D:=BY λi j=>.int (i-j)
def zD(i j:Int):Bool:=Zv (i.natAbs<18446744073709551616)||Zv (j.natAbs<18446744073709551616)||Zv (i.natAbs.log2+j.natAbs.log2<=134217700)
def mulM:D->D->Option D:=nQ zD λi j=>.int (i*j)
def dH:D->D->Option D:=nQ (λ_ j=>Zv (0<j)) λi j=>.int (i%j)
def zE:D->D->Option D:=nQ (λ_ j=>Zv (0<j)&&Zv (j.natAbs<1073741824)) λi j=>.int (i/j)
def VX:D->D->Option D:=nQ (λi j=>Zv (0<=j)&&Zv (j.natAbs<=1000000)&&Zv (i.natAbs<18446744073709551616)) λi j=>.int (i^j.toNat)
def Z7:D->D->Option D:=BY λi j=>.bl (Zv (i<j))
def leM:D->D->Option D:=BY λi j=>.bl (Zv (i<=j))
def J4:D->D->Option D:=BY λi j=>.bl (Zv (j<i))
def JV:D->D->Option D:=BY λi j=>.bl (Zv (j<=i))
noncomputable def UE:D->D->Option Bool
 |.int i,.int j=>aa (Zv (i=j))
 |.bl i,.bl j=>aa (Zv (i=j))
 |.str i,.str j=>aa (Zv (i=j))
 |.non,.non=>aa af
 |_,_=>ae
def qV:D->D->Option D:=λx y=>(UE x y).map .bl
def EV:D->D->Option D:=λx y=>(UE x y).map λb=>.bl (!b)
noncomputable def mH:D->Bool
 |.non=>af
 |_=>ag
def JW:D->D->Option D:=λx y=>if mH y=af then aa (.bl (mH x)) else ae
noncomputable def intsOf:List D->Option (List Int)
 |[]=>aa []
 |.int i::ds=>(intsOf ds).map (i :: ·)
 |_::_=>ae
def nP(neg:Bool):D->D->Option D
 |.int i,.tup ds=>(intsOf ds).map λns=>.bl (if neg then !ns.contains i else ns.contains i)
 |.int i,.lst ds=>(intsOf ds).map λns=>.bl (if neg then !ns.contains i else ns.contains i)
 |_,_=>ae
def VY(n:Nat)(i:Int):Option Nat:=if 0<=i then(if i<n then aa i.toNat else ae) else if -(n:Int)<=i then aa (i+n).toNat else ae
def uG{α:Type}(xs:List α)(i:Int):Option α:=(VY ⇑xs i).bind λj=>xs[j]?
noncomputable def dC:D->D->Option D
 |.lst a,.int i=>uG a i
 |.tup a,.int i=>uG a i
 |.i9 a,.int i=>(uG a i).map D.int
 |_,_=>ae
noncomputable def GX:D->Option (Sum Int ai)
 |.int i=>aa (.inl i)
 |.str x=>aa (.inr x)
 |_=>ae
def iT(ks:List (Sum Int ai))(ds:List D)(k:Sum Int ai):Option D:=((ks.zip ds).find? λa=>Zv (a.1=k)).map (·.2)
def rO:D->D->Option D
 |.iR ks ds,d=>(GX d).bind λk=>iT ks ds k
 |_,_=>ae
def aE:AF:=λ_=>aa []
def aA(a:EF)(t:AF):AF:=λρ=>(a ρ).bind λd=>(t ρ).bind λds=>aa (d::ds)
abbrev bW(i:Nat):AF:=aA (aK i) aE
def eO(t:AF):EF:=λρ=>(t ρ).bind λds=>if ⇑ds<=g8 then aa (.tup ds) else ae
def cV(t:AF):EF:=λρ=>(t ρ).bind λds=>if ⇑ds<=g8 then aa (.lst ds) else ae
def bL(g:List D->Option D)(t:AF):EF:=λρ=>(t ρ).bind g
noncomputable def rP:M D->Option D
 |.ok d=>aa d
 |_=>ae
def aJ(R:kR)(t:AF):EF:=λρ=>(t ρ).bind λds=>rP (R ds)
noncomputable def eP:List D->Option D
 |[.lst a]=>aa (.int ⇑a)
 |[.tup a]=>aa (.int ⇑a)
 |[.i9 a]=>aa (.int ⇑a)
 |_=>ae
noncomputable def dI:List D->Option D
 |[.lst a]=>aa (.tup a)
 |[.tup a]=>aa (.tup a)
 |_=>ae
noncomputable def UG:List D->Option D
 |[.lst a]=>aa (.lst a)
 |[.tup a]=>aa (.lst a)
 |_=>ae
noncomputable def insI(a:Int):List Int->List Int
 |[]=>[a]
 |b::l=>if a<=b then a::b::l else b::insI a l
def sortI:List Int->List Int
 |[]=>[]
 |a::l=>insI a (sortI l)
def fU:List D->Option D
 |[.lst a]=>(intsOf a).bind λns=>if ⇑ns<64 then aa (.lst ((sortI ns).map D.int)) else ae
 |_=>ae
def mO:List D->Option (List Bool)
 |[]=>aa []
 |d::ds=>(kU d).bind λb=>(mO ds).map (b :: ·)
def allM:List D->Option D
 |[.lst a]=>(mO a).map λbs=>.bl (bs.all id)
 |_=>ae
def anyM:List D->Option D
 |[.lst a]=>(mO a).map λbs=>.bl (bs.any id)
 |_=>ae
noncomputable def Z8:D->String
 |.non => "NoneType"
 |.bl _ => "bool"
 |.int _ => "int"
 |.str _ => "str"
 |.tup _ => "tuple"
 |.lst _ => "list"
 |.i9 _ => "list"
 |.iR _ _ => "dict"
 |.mL _ _ _ => "dict"
 |.exc _ _ => "NoneType"
 |.rws _ => "NoneType"
def BZ(T:String)(d:D):Bool:=Z8 d == T||(T == "int"&&Z8 d == "bool")
noncomputable def B0:D->Bool
 |.exc _ _=>ag
 |.mL _ _ _=>ag
 |.rws _=>ag
 |_=>af
def jA(T:String)(a:EF):EF:=λρ=>(a ρ).bind λd=>if B0 d=af then aa (.bl (BZ T d)) else ae
def bT(a:Int)(n:Nat):List Int:=(ck n).map λk:Nat=>a+(k:Int)
def Lq(a:Int)(n:Nat):List Int:=(ck n).map λk:Nat=>a-(k:Int)
noncomputable def B3(t:AF):EF:=λρ=>(t ρ).bind λds=>match ds with
 |[.int j]=>if j.natAbs<=16777216 then aa (.lst ((bT 0 j.toNat).map D.int)) else ae
 |_=>ae
noncomputable def rQ:D->D->Option D
 |.tup a,.int n=>if ⇑a*n.toNat<=g8/\n.natAbs<9223372036854775808 then aa (.tup (bw n.toNat a).flatten) else ae
 |_,_=>ae
noncomputable def GY:D->D->Option D
 |.lst a,.lst b=>if ⇑a+⇑b<=g8 then aa (.lst (a++b)) else ae
 |_,_=>ae
noncomputable def kW:D->Option (List D)
 |.lst ds=>aa ds
 |.tup ds=>aa ds
 |_=>ae
def bU(f:EF):AF:=λρ=>(f ρ).bind kW
noncomputable def B4:List D->Option (List D)
 |[.int j]=>if j.natAbs<4611686018427387904 then aa ((bT 0 j.toNat).map D.int) else ae
 |[.int i,.int j]=>if i.natAbs<4611686018427387904/\j.natAbs<4611686018427387904 then aa ((bT i (j-i).toNat).map D.int) else ae
 |[.int i,.int j,.int k]=>if k=-1/\i.natAbs<1000000/\j.natAbs<1000000 then aa ((Lq i (i-j).toNat).map D.int) else ae
 |_=>ae
def bP(t:AF):AF:=λρ=>(t ρ).bind B4
noncomputable def EW:List D->Option (List D)
 |[.lst ds]=>aa (ds.zipIdx.map λp=>.tup [.int (p.2:Int),p.1])
 |[.tup ds]=>aa (ds.zipIdx.map λp=>.tup [.int (p.2:Int),p.1])
 |_=>ae
def nR(t:AF):AF:=λρ=>(t ρ).bind EW
def Lp:List D->Option (List D)
 |[a,b]=>(kW a).bind λxs=>(kW b).map λys=>(xs.zip ys).map λp=>.tup [p.1,p.2]
 |_=>ae
def GZ(t:AF):AF:=λρ=>(t ρ).bind Lp
noncomputable def VZ:List D->Option (List D)
 |[.lst ds]=>aa ds.reverse
 |[.tup ds]=>aa ds.reverse
 |_=>ae
def G0(t:AF):AF:=λρ=>(t ρ).bind VZ
abbrev UH:=D->cD->Option cD
def g1(i:Nat):UH:=λd ρ=>aa (ρ.set i (aa d))
noncomputable def nU:D->Option (D×D)
 |.tup [x,y]=>aa (x,y)
 |_=>ae
def g2(i j:Nat):UH:=λd ρ=>(nU d).map λp=>(ρ.set i (aa p.1)).set j (aa p.2)
def bY:TF:=λ_=>aa af
def benv(nl:Nat)(fr:List Nat)(ρ:cD):cD:=bw nl ae++fr.map λj=>(ρ[j]?).join
noncomputable def hZ(g:UH)(t:TF)(e:EF)(ρ:cD):List D->Option (List D)
 |[]=>aa []
 |d::ds=>(g d ρ).bind λρ1=>(t ρ1).bind λb=>if b=af then(e ρ1).bind λy=>(hZ g t e ρ ds).map (y :: ·) else hZ g t e ρ ds
def dD(nl:Nat)(fr:List Nat)(it:AF)(g:UH)(t:TF)(e:EF):EF:=λρ=>(it ρ).bind λds=>if ⇑ds<=g8 then(hZ g t e (benv nl fr ρ) ds).map D.lst else ae
abbrev OF:=cD->Option (Option Int)
def jZ:OF:=λ_=>aa ae
noncomputable def asInt:D->Option Int
 |.int i=>aa i
 |_=>ae
def oE(f:EF):OF:=λρ=>(f ρ).bind λd=>(asInt d).map aa
noncomputable def jB(n d:Nat):Option Int->Nat
 |none=>d
 |some i=>if i<0 then(i+n).toNat else min i.toNat n
def G2(xs:List D)(a d:Option Int):List D:=(xs.drop (jB ⇑xs 0 a)).take (jB ⇑xs ⇑xs d-jB ⇑xs 0 a)
def slM(d:D)(a h:Option Int):Option D:=match d with
 |.lst ds=>aa (.lst (G2 ds a h))
 |.tup ds=>aa (.tup (G2 ds a h))
 |_=>ae
def lT(f:EF)(a j:OF):EF:=λρ=>(f ρ).bind λd=>(a ρ).bind λl=>(j ρ).bind λh=>slM d l h
def qG(f:EF):XF:=λρ=>(f (aV ρ)).bind λd=>if d.uF=af then aa (ρ,d) else ae
def aU(f:EF):XF:=λρ=>(f (fB ρ)).bind λd=>aa (ρ,d)
noncomputable def kX:Option Sv->Option (List D)
 |some (.ow (.lst ds))=>aa ds
 |_=>ae
def mQ(i:Nat)(m:List D->D->Option (List D×D))(x:XF):XF:=λρ=>(kX ρ[i]?).bind λ_=>(x ρ).bind λp=>(kX p.1[i]?).bind λds=>(m ds p.2).map λq=>(p.1.set i (.ow (.lst q.1)),q.2)
def gG:List D->D->Option (List D×D):=λds d=>if ⇑ds<g8 then aa (ds++[d],.non) else ae
noncomputable def PU:List D->D->Option (List D×D)
 |ds,.int k=>if k.natAbs<9223372036854775808 then(VY ⇑ds k).bind λj=>(ds[j]?).map λd=>(ds.eraseIdx j,d) else ae
 |_,_=>ae
def zF(i:Nat):XF:=λρ=>(kX ρ[i]?).bind λds=>(ds[⇑ds-1]?).map λd=>(ρ.set i (.ow (.lst ds.dropLast)),d)
def cZ:SF:=λρ=>.nx ρ
noncomputable def aG(f g:SF):SF:=λρ=>match f ρ with
 |.nx ρ'=>g ρ'
 |o=>o
def bJ(f:EF):SF:=λρ=>match f (aV ρ) with
 |some d=>.rt d
 |none=>.no
def gH(t:TF)(a b:SF):SF:=λρ=>match t (aV ρ) with
 |some af=>a ρ
 |some ag=>b ρ
 |none=>.no
def aY(i:Nat)(f:EF):SF:=λρ=>match f (fB ρ) with
 |some d=>.nx (ρ.set i (.ro d))
 |none=>.no
noncomputable def jH(i:Nat)(x:XF):SF:=λρ=>match x ρ with
 |some p=>.nx (p.1.set i (.ro p.2))
 |none=>.no
def j0(i:Nat)(f:EF):SF:=λρ=>match f (fB ρ) with
 |some d=>.nx (ρ.set i (.ow d))
 |none=>.no
def rR:D->Bool
 |.lst ds=>wZ ds
 |_=>ag
def uV(i:Nat)(f:EF):SF:=λρ=>match f (aV ρ) with
 |some d=>if rR d=af then .nx (ρ.set i (.ow d)) else .no
 |none=>.no
def mI(i:Nat)(f:EF):SF:=λρ=>match f (aV ρ) with
 |some d=>if rR d=af then .nx (ρ.set i (.ro d)) else .no
 |none=>.no
def qH(i:Nat):SF:=λρ=>.nx (ρ.set i (.ow (.iR [] [])))
noncomputable def sX(x:XF):SF:=λρ=>match x ρ with
 |some p=>.nx p.1
 |none=>.no
noncomputable def rS:Option Sv->Option (List (Sum Int ai)×List D)
 |some (.ow (.iR ks ds))=>aa (ks,ds)
 |_=>ae
def EX(i:Nat)(x:XF)(k:EF):SF:=λρ=>match ((x ρ).bind λp=>(rS p.1[i]?).bind λa=>(k (aV p.1)).bind λh=>(GX h).bind λd =>
  if(iT a.1 a.2 d).isNone=af/\⇑a.2<g8 then aa (p.1.set i (.ow (.iR (a.1++[d]) (a.2++[p.2])))) else ae) with
 |some ρ'=>.nx ρ'
 |none=>.no
abbrev V0:=D->bG->Option bG
def qW(i:Nat):V0:=λd ρ=>aa (ρ.set i (.ro d))
def kQ(i j:Nat):V0:=λd ρ=>(nU d).map λp=>(ρ.set i (.ro p.1)).set j (.ro p.2)
noncomputable def bC(g:V0)(b:SF):List D->bG->Out
 |[],ρ=>.nx ρ
 |d::ds,ρ=>match g d ρ with
  |none=>.no
  |some ρ1=>match b ρ1 with
   |.nx ρ2=>bC g b ds ρ2
   |o=>o
def d6(it:AF)(g:V0)(b:SF):SF:=λρ=>match it (fB ρ) with
 |some ds=>bC g b ds ρ
 |none=>.no
def dQ(t:TF)(b:SF):Nat->bG->Out
 |0,_=>.no
 |n+1,ρ=>match t (aV ρ) with
  |none=>.no
  |some ag=>.nx ρ
  |some af=>match b ρ with
   |.nx ρ'=>dQ t b n ρ'
   |o=>o
def B5:Nat:=1000000
def B6(n:Nat)(t:TF)(b:SF):SF:=dQ t b n
def bN(n:Nat)(ds:List D):bG:=ds.map Sv.ro++bw (n-⇑ds) Sv.no
noncomputable def bX(n a:Nat)(b:SF):kR:=λds=>if ⇑ds=a then(match b (bN n ds) with
 |.rt d=>.ok d
 |.nx _=>.ok .non
 |.ex c=>.ex c
 |.no=>.no) else .no
noncomputable def gE:List Int->List Int->Bool
 |[],[]=>ag
 |[],_::_=>af
 |_::_,[]=>ag
 |a::as,b::bs=>if a=b then gE as bs else Zv (a<b)
def G3(t:Q0e):List (List Int)->List (List Int)
 |[]=>[t]
 |u::us=>if gE u t=af then u::G3 t us else t::u::us
def qI:List (List Int)->List (List Int)
 |[]=>[]
 |t::ts=>G3 t (qI ts)
def nV(t:Q0e):D:=.tup (t.map D.int)
def UI:D->Option (List Int)
 |.tup ds=>intsOf ds
 |_=>ae
def mR:List D->Option (List (List Int))
 |[]=>aa []
 |d::ds=>(UI d).bind λt=>(mR ds).map (t :: ·)
def mT:List D->Option D
 |[.lst a]=>(mR a).bind λd=>if ⇑d<64/\d.all (λt=>!t.isEmpty)=af then aa (.lst ((qI d).map nV)) else ae
 |_=>ae
theorem B7:∀a b:Q0e,gE a b=af->gE b a=ag
 |[],[],h=>by cases h
 |[],_::_,_=>rfl
 |_::_,[],h=>by cases h
 |a::as,b::bs,h=>by
  unfold gE at h ⊢;by_cases e:a=b
  .rw [Z_ e] at h;rw[Z_ e.symm];show B7 as bs h
  .rw [Zz e] at h;rw[Zz (fj e)];simp at h ⊢;lia
theorem B8:∀a b c:Q0e,gE b a=ag->gE c b=ag->gE c a=ag
 |[],[],c,h1,h2=>h2
 |[],b::bs,[],h1,h2=>rfl
 |[],b::bs,c::cs,h1,h2=>rfl
 |a::as,[],c,h1,h2=>by cases h1
 |a::as,b::bs,[],h1,h2=>by cases h2
 |a::as,b::bs,c::cs,h1,h2=>by
  unfold gE at h1 h2 ⊢;by_cases h:b=a
  .subst h;rw[Z_ rfl] at h1;by_cases d:c=b
   .subst d;rw[Z_ rfl] at h2 ⊢;show B8 as bs cs h1 h2
   .rw [Zz d] at h2 ⊢;show h2
  .rw [Zz h] at h1;by_cases d:c=b
   .subst d;rw[Zz h];show h1
   .rw [Zz d] at h2;simp at h1 h2;rw[Zz ∅];simp;lia
theorem J6:∀a b:Q0e,gE a b=ag->gE b a=ag->a=b
 |[],[],_,_=>rfl
 |[],_::_,h1,_=>by cases h1
 |_::_,[],_,h2=>by cases h2
 |a::as,b::bs,h1,h2=>by
  unfold gE at h1 h2;by_cases e:a=b
  .subst e;rw[Z_ rfl] at h1 h2;rw[J6 as bs h1 h2]
  .rw [Zz e] at h1;rw[Zz (fj e)] at h2;simp at h1 h2;lia
theorem pI(t:Q0e):∀l,(G3 t l).Perm (t::l)
 |[]=>.refl _
 |u::us=>by
  unfold G3;by_cases h:gE u t=af
  .rw [Z_ h];show((pI t us).cons u).trans (.swap t u us)
  .rw [Zz h]
theorem j5:∀l,(qI l).Perm l
 |[]=>.refl _
 |t::ts=>(pI t _).trans ((j5 ts).cons t)
def Z9(l:Q0a):Prop:=l.Pairwise λa b=>gE b a=ag
theorem EY(t:Q0e):∀l,Z9 l->Z9 (G3 t l)
 |[],_=>List.pairwise_singleton _ _
 |u::us,h=>by
  have⟨h1,h2⟩:=dm.mp h;unfold G3;by_cases e:gE u t=af
  .rw [Z_ e];show dm.mpr ⟨λx a=>?_,EY t us h2⟩;rcases bh.mp ((pI t us).mem_iff.mp a) with rfl|a
   .exact B7 _ _ e
   .exact h1 x a
  .rw [Zz e];have e:gE u t=ag:=by simpa using e
   show dm.mpr ⟨λx a=>?_,h⟩;rcases(bh.mp a:x=u\/x∈us) with rfl|a
   .exact e
   .exact B8 t u x e (h1 x a)
theorem zG:∀l,Z9 (qI l)
 |[]=>.nil
 |t::ts=>EY t _ (zG ts)
theorem EZ:∀{l m:Q0a},l.Perm m->Z9 l->Z9 m->l=m
 |[],m,p,_,_=>by rw[List.nil_perm.mp p]
 |a::l,[],p,_,_=>by have:=p.length_eq;simp at this
 |a::l,b::m,p,h1,h2=>by
  obtain⟨v,q⟩:=dm.mp h1;obtain⟨o,n⟩:=dm.mp h2;have e:a=b:=by
   have j:=bh.mp (p.mem_iff.mp b_);have d:=bh.mp (p.mem_iff.mpr b_);rcases j with h|h
   .exact h
   .rcases d with h' | h'
    .exact h'.symm
    .exact J6 _ _ (o a h) (v b h')
  subst e;rw[EZ p.cons_inv q n]
abbrev RF:=cD->Option ai
noncomputable def PV:M D->Option ai
 |.ex c=>aa c
 |_=>ae
def eU(R:kR)(t:AF):RF:=λρ=>(t ρ).bind λds=>PV (R ds)
def iS(r:RF)(f:SF):SF:=λρ=>match r (aV ρ) with
 |some c=>.ex c
 |none=>f ρ
def iU(t:AF)(c:ai):SF:=λρ=>match t (aV ρ) with
 |some ds=>if ⇑ds<=10 then .ex c else .no
 |none=>.no
noncomputable def CA(c:ai)(e:Nat)(b:Bool)(i:Nat):EF:=λρ=>match aK i ρ with
 |some (.exc c' a)=>if c'=c/\a=e then aa (.bl b) else ae
 |_=>ae
theorem E2(h:CA c e b i ρ=aa d):aK i ρ=aa (.exc c e)/\d=.bl b:=by
 unfold CA at h;split at h
 .rename_i c' a q;by_cases z:c'=c/\a=e
  .rw [Z_ z] at h;cases h;rw[q,z.1,z.2];show⟨rfl,rfl⟩
  .rw [Zz z] at h;cases h
 .cases h
noncomputable def CB(h:SF)(a:ai->Option D):SF:=λρ=>match h ρ with
 |.ex c=>(match a c with
  |some d=>.rt d
  |none=>.no)
 |o=>o
def E3(f:EF)(r:RF):RF:=λρ=>(f ρ).bind λ_=>r ρ
noncomputable def splitM:D->D->Option D
 |.str x,.str y=>if ⇑x+2<=g8/\(⇑y == 0)=ag then aa (.lst ((dh x y).map D.str)) else ae
 |_,_=>ae
def J8(i:Nat)(j h:EF):XF:=λρ=>(kX ρ[i]?).bind λds=>(j (aV ρ)).bind λk=>(asInt k).bind λa=>(h (aV ρ)).bind λd =>
 if d.uF=af/\0<=a/\a<=(⇑ds:Int)/\⇑ds<g8 then aa (ρ.set i (.ow (.lst (ds.take a.toNat++d::ds.drop a.toNat))),.non) else ae
noncomputable def Rb:D->Option D
 |.lst ds=>aa (.lst ds.reverse)
 |_=>ae
def J9(f:EF):EF:=λρ=>(f ρ).bind Rb
noncomputable def G4(x:XF)(g:V0):SF:=λρ=>match (x ρ).bind λp=>g p.2 p.1 with
 |some ρ'=>.nx ρ'
 |none=>.no
noncomputable def PX(f:SF):SF:=λρ=>match f ρ with
 |.ex _=>.no
 |o=>o
def putN(ns:Q0e)(k:Int):List Int:=if k∈ns then ns else ns++[k]
def xA(ns:Q0e):List Int:=ns.foldl putN []
def eE:List D->Option D
 |[.tup ds]=>(intsOf ds).bind λns=>if ⇑ns<64 then aa (.lst ((sortI (xA ns)).map D.int)) else ae
 |_=>ae
noncomputable def kZ:List D->Option D
 |[.int i]=>if i.natAbs<1900 then aa (.str (ll (toString i))) else ae
 |_=>ae
noncomputable def fF:List D->Option D
 |[.str x]=>if ⇑x<=g8 then aa (.int ⇑x) else ae
 |_=>ae
noncomputable def k6:List D->Option D
 |[.str x]=>match x.cps.toList with
  |[c]=>if 48<=c/\c<=57 then aa (.int ((c:Int)-48)) else ae
  |_=>ae
 |_=>ae
noncomputable def dE:D->D->Option D
 |.str x,.int i=>if ⇑x<=g8 then(uG x.cps.toList i).map λc=>.str ⟨#[c]⟩ else ae
 |_,_=>ae
noncomputable def KA:D->D->Option D
 |.str x,.str y=>aa (.bl (!(fw y x 0 ⇑y 1).isEmpty))
 |_,_=>ae
noncomputable def cB:D->D->Option D
 |.str x,.str y=>if ⇑x+⇑y<=g8 then aa (.str (x++y)) else ae
 |_,_=>ae
noncomputable def rT:List D->Option (List ai)
 |[]=>aa []
 |.str x::r=>(rT r).map (x :: ·)
 |_::_=>ae
def joinM:D->D->Option D
 |.str s,.lst ds=>(rT ds).bind λys=>if(ys.map (·.length)).sum+⇑ys*⇑s<=g8 then aa (.str (gi s ys)) else ae
 |_,_=>ae
end L4
namespace Ord
structure Rows (rows:Q0a):Prop where
 up:∀(b:Nat) (r:Q0e),rows[b]?=aa r->r.Pairwise (·<·)
 rng:∀(b:Nat) (r:Q0e),rows[b]?=aa r ->∀a∈r,0<=a/\a<(⇑rows:Int)
 tr:∀(b a:Nat) (r v:Q0e),rows[b]?=aa r->(a:Int)∈r->rows[a]?=aa v ->∀c∈v,c∈r
 PM:∀(b:Nat) (r:Q0e),rows[b]?=aa r->(b:Int)∉r
theorem rV{α:Type}:∀(l:List α) (j:Nat) (x:α),l[j]?=aa x->(x::l.eraseIdx j).Perm l
 |[],j,x,h=>by simp at h
 |a::l,0,x,h=>by simp at h;subst h;simp
 |a::l,j+1,x,h=>by have d:=rV l j x ↑h;rw[Bw];show(Yb a x _).trans (d.cons a)
def xB{l:Q0e}(p:Int->Bool)(h:l.Nodup):(l.filter p).Nodup:=a1m p h
def Under(d:Q0e)(h:Q0a)(t:Nat)(u:Q0e):Prop :=
 u.Nodup /\∀a∈u,∃(s:Nat) (v:Q0e),s<t/\d[s]?=aa a/\h[s]?=aa v /\∀c∈v,c∈u
def Good(d:Q0e)(a:Q0a):Prop:=∀(t:Nat) (u:Q0e),a[t]?=aa u->Under d a t u
def Under.mono(h:Under Ξ us t u)(m:t<=t'):Under Ξ us t' u :=
 ⟨h.1,λa d=>by obtain⟨s,v,n,h2,l,j⟩:=h.2 a d;show⟨s,v,∅,h2,l,j⟩⟩
def rW{d:Q0e}(h:d.Nodup){i j:Nat}{a:Int}(m:d[i]?=aa a)(l:d[j]?=aa a):i=j:=by obtain⟨p,o⟩:=c_.mp m;obtain⟨h2,n⟩:=c_.mp l;show(Xu h).mp (o.trans n.symm)
theorem Under.step{j:Q0e}{n:Q0a}{i:Nat}{u v:Q0e}{x:Int}(hw:j.Nodup)(g:Good j n)(h:Under j n i u)(F:j[i]?=aa x)(I:n[i]?=aa v):
  Under j n (i+1) (u++(v++[x]).filter λa=>!u.contains a):=by
 have p:=g i v I;have mem:∀c,c∈v++[x]->c∈u++(v++[x]).filter λa=>!u.contains a:=λc d=>by
  by_cases J:c∈u
  .exact dj _ J
  .exact gg _ (si.mpr ⟨d,↑J⟩)
 have K:(v++[x]).Nodup:=by show wc.mpr ⟨p.1,by simp,λa m b l e=>?_⟩;have l:=bx.mp l;subst l;subst e;obtain⟨s,_,o,h2,_⟩:=p.2 a m;have:=rW hw h2 F;lia
 show⟨wc.mpr ⟨h.1,xB _ K,λa m b l e=>?_⟩,λa m=>?_⟩
 .subst e;have:=(si.mp l).2;simp at this;show this m
 .rcases dq.mp m with o|o
  .obtain ⟨s,z,L,A,y,q⟩:=h.2 a o;show⟨s,z,∅,A,y,λc d=>dj _ (q c d)⟩
  .rcases dq.mp (si.mp o).1 with h2|h2
   .obtain ⟨s,z,L,A,y,q⟩:=p.2 a h2;show⟨s,z,∅,A,y,λc d=>mem c (dj _ (q c d))⟩
   .have e:=bx.mp h2;subst e;show⟨i,v,∅,F,I,λc d=>mem c (dj _ d)⟩
def Good.snoc(g:Good Ξ us)(h:Under Ξ us ⇑us u):Good Ξ (us++[u]):=λt z e=>by
 have old:∀{s:Nat} {v:Q0e},us[s]?=aa v->(us++[u])[s]?=aa v:=λ{s v} e=>by rw[jq (c_.mp e).1];show e
 have up:∀{t:Nat} {z:Q0e},Under Ξ us t z->Under Ξ (us++[u]) t z:=λ{t z} q=>⟨q.1,λa j=>by obtain⟨s,v,p,o,n,m⟩:=q.2 a j;show⟨s,v,p,o,old n,m⟩⟩;by_cases d:t<⇑us
 .rw [jq d] at e;show up (g t z e)
 .have l:t=⇑us:=by have:=(c_.mp e).1;simp at this;lia
  subst l;rw[jo (bf _),Bj] at e;have e:u=z:=by simpa using e
  subst e;show up h
theorem Good.rows{d:Q0e}{m rows:Q0a}{n:Nat}(g:Good d m)(hu:⇑m=n)(hw:d.Perm ((ck n).map λk:Nat=>(k:Int)))(hr:⇑rows=n)
  (h:∀(b t:Nat) (r u:Q0e),rows[b]?=aa r->d[t]?=aa (b:Int)->m[t]?=aa u->r.Perm u/\r.Pairwise (· <= ·)):Rows rows:=by
 have nd:d.Nodup:=hw.nodup_iff.mpr (by
  show wx _ (λa b A=>?_) Xm;intro e;show A ∅)
 have find:∀(b:Nat),b<n ->∃t u,d[t]?=aa (b:Int)/\m[t]?=aa u:=λb p=>by
  have y:(b:Int)∈d:=hw.mem_iff.mpr (fz.mpr ⟨b,nj.mpr p,rfl⟩);obtain⟨t,I⟩:=we.mp y;have hl:⇑d=n:=by rw[hw.length_eq,bp,qf]
  have:=(c_.mp I).1;show⟨t,m[t]'∅,I,cm ∅⟩
 have row:∀(b:Nat) (r:Q0e),rows[b]?=aa r ->∃t u,d[t]?=aa (b:Int)/\m[t]?=aa u/\r.Perm u/\r.Pairwise (· <= ·):=λb r e=>by have p:=(c_.mp e).1;obtain⟨t,u,l,h2⟩:=find b ∅;show⟨t,u,l,h2,h b t r u e l h2⟩
 show⟨λb r e=>?_,λb r e a F=>?_,λb a r v e F ev c O=>?_,λb r e p=>?_⟩
 .obtain ⟨t,u,l,h2,j,x⟩:=row b r e;have K:r.Nodup:=j.nodup_iff.mpr (g t u h2).1;show(Xl.mpr ⟨x,K⟩).imp λq=>by have:=q.1;have:=q.2;lia
 .obtain ⟨t,u,l,h2,j,x⟩:=row b r e;obtain⟨s,z,_,o,_⟩:=(g t u h2).2 a (j.mem_iff.mp F);have y:=hw.mem_iff.mp (jz o);obtain⟨k,L,rfl⟩:=fz.mp y;have:=nj.mp L;lia
 .obtain ⟨t,u,l,h2,j,x⟩:=row b r e;obtain⟨t2,Y,k1,k2,k3,Z⟩:=row a v ev;obtain⟨s,z,_,o,J,X⟩:=(g t u h2).2 _ (j.mem_iff.mp F);have U:=rW nd o k1;subst U;rw[k2] at J;cases J;show j.mem_iff.mpr (X c (k3.mem_iff.mp O))
 .obtain ⟨t,u,l,h2,j,x⟩:=row b r e;obtain⟨s,z,a1,o,_⟩:=(g t u h2).2 _ (j.mem_iff.mp p);have:=rW nd o l;lia
noncomputable def tri:Nat->Nat
 |0=>0
 |j+1=>tri j+j
theorem KC(h:i<=j):tri i<=tri j:=by
 induction h with
 |refl=>show bf _
 |step _ ih=>show cy ih (Xd _ _)
def V1(a:j<n)(d:i<j):tri j+i<tri n:=by have:=KC (show j+1<=n by lia);show tri j+i<tri n;have e:tri (j+1)=tri j+j:=rfl;lia
theorem fI:∀(l m:Q0e),l.Nodup->(∀a∈l,a∈m)->⇑l<=⇑m
 |[],m,_,_=>g_ _
 |a::l,m,h,hs=>by
  obtain⟨o,h2⟩:=md.mp h;have j:=hs a b_;have n:=fI l (m.erase a) h2 λb d=>by have:b≠a:=λe=>o (e▸d);show(List.mem_erase_of_ne this).mpr (hs b (cq _ d))
  rw[List.length_erase_of_mem j] at n;have:0<⇑m:=List.length_pos_of_mem j;rw[cn];lia
end Ord
namespace LL
open L3 L4
def jI:kR:=bX 2 2
  (aG (gH (tV (aB qV (bL eP (bW 0)) (eI 0)))
   (bJ (eI 0))
   cZ)
  (bJ (aB dC bV (aB dH cH (bL eP (bW 0))))))
def gP:kR:=bX 5 3
  (aG (aY 3 (aB dH (aB mulM (aB aX (aB aX (aB aX bV (aB mulM (aB mulM (eI 11) cH) cH)) (aB mulM (eI 17) cH)) fE) (eI 48271)) (eI 2147483647)))
  (aG (aY 4 (aB dH (aB aX (aB aX (aB mulM kT (aB aX (aB zE kT (eI 4096)) (eI 5))) (aB mulM (eI 29) cH)) fE) (eI 2147483629)))
  (bJ (aB dH (aB mulM fC (eI 39373)) (eI 1000000007)))))
def gQ:kR:=bX 6 3
  (aG (j0 3 (cV aE))
  (aG (aY 4 (eI 0))
  (aG (gH (tV (aB JV bV (aB VX (eI 10) (eI 18))))
   (aY 4 bV)
   cZ)
  (aG (d6 (bP (bW 1)) (qW 5)
   (gH (tV (aB J4 fC (eI 0)))
    (aG (sX (mQ 3 gG (aU (aB dH fC (eI 64)))))
    (aY 4 (aB zE fC (eI 64))))
    (sX (mQ 3 gG (aU (aJ LL.gP (aA bV (aA w9 (bW 2)))))))))
  (bJ kT)))))
def cN:Nat->kR
 |0=>λ_=>.no
 |n+1=>bX 2 2
  (aG (gH (tV (jA "tuple" cH))
   (aG (gH (nO (gF (tV (jA "tuple" bV))) (tV (aB EV (bL eP (bW 0)) (bL eP (bW 1)))))
    (bJ (eC (.bl ag)))
    cZ)
   (bJ (bL allM (aA (dD 1 [0,1] (bP (aA (bL eP (bW 1)) aE)) (g1 0) bY (aJ (cN n) (aA (aB dC cH bV) (aA (aB dC fE bV) aE)))) aE))))
   cZ)
  (aG (gH (tV (aB JW cH (eC .non)))
   (bJ (aB JW bV (eC .non)))
   cZ)
  (aG (gH (tV (jA "bool" cH))
   (bJ (g9 (jA "bool" bV) (aB qV bV cH)))
   cZ)
  (aG (gH (tV (jA "int" cH))
   (bJ (g9 (jA "int" bV) (g9 (rN (jA "bool" bV)) (aB qV bV cH))))
   cZ)
  (bJ (g9 (jA "str" bV) (aB qV bV cH)))))))
def lU:kR:=bX 11 3
  (aG (j0 3 (B3 (bW 1)))
  (aG (j0 4 (cV aE))
  (aG (d6 (bP (bW 1)) (qW 5)
   (sX (mQ 4 gG (mQ 3 PU (qG (aB dH (aB dC bV w9) (bL eP (bW 3))))))))
  (aG (qH 6)
  (aG (aY 7 cH)
  (aG (d6 (bP (bW 1)) (qW 8)
   (aG (aY 9 (cV aE))
   (aG (d6 (bP (bW 8)) (qW 10)
    (aG (gH (tV (aB Z7 (aB dH (aB dC bV y7) (eI 4)) fE))
     (mI 9 (aB GY UD (dD 1 [9] (bU (aB aX (aB rO uU (aB dC fC zB)) (cV (aA (aB dC fC zB) aE)))) (g1 0) (tV (aB (nP af) bV cH)) bV)))
     cZ)
    (aY 7 (aB aX y7 (eI 1)))))
   (EX 6 (aU UD) (aB dC fC Z6)))))
  (bJ (bL dI (aA (dD 1 [6] (bP (bW 1)) (g1 0) bY (bL dI (aA (bL fU (aA (aB rO cH bV) aE)) aE))) aE)))))))))
def lV:kR:=bX 7 4
  (aG (aY 4 (aJ LL.gQ (aA (aJ LL.jI (aA bV (bW 1))) (aA (eI 4) (bW 3)))))
  (aG (aY 5 (aB dH (aB dC fC (eI 0)) (aB aX fE (eI 1))))
  (aG (aY 6 (aJ LL.gQ (aA (aJ LL.jI (aA bV (aA (aB aX cH (eI 1)) aE))) (aA (aB aX w9 (aB zE (aB mulM w9 (aB VW w9 (eI 1))) (eI 2))) (aA (aB aX kT (eI 10007)) aE)))))
  (bJ (aJ LL.lU (aA uU (aA w9 (aA (aB dC (cV (aA (eI 1) (aA (eI 1) (aA (eI 2) (aA (eI 2) (aA (eI 3) (aA (eI 1) (aA (eI 0) (aA (eI 4) aE))))))))) (aB dH (aB dC fC (eI 1)) (eI 8))) aE))))))))
def τ(xs:Q0e):D:=.tup (xs.map D.int)
def aF(xs:Q0e):D:=.lst (xs.map D.int)
def bE(rows:Q0a):D:=.tup (rows.map τ)
def eV:aX (.int i) (.int j)=aa (.int (i+j)):=rfl
def jJ:VW (.int i) (.int j)=aa (.int (i-j)):=rfl
def bI(h:0<j):dH (.int i) (.int j)=aa (.int (i%j)):=by simp[dH,nQ,h]
def rX(h:0<j)(h2:j<1073741824):zE (.int i) (.int j)=aa (.int (i/j)):=by simp[zE,nQ,h,show j.natAbs<1073741824 by lia]
def j6:Z7 (.int i) (.int j)=aa (.bl (Zv (i<j))):=rfl
def j7:leM (.int i) (.int j)=aa (.bl (Zv (i<=j))):=rfl
def fV:J4 (.int i) (.int j)=aa (.bl (Zv (j<i))):=rfl
def lW:JV (.int i) (.int j)=aa (.bl (Zv (j<=i))):=rfl
def cM:qV (.int i) (.int j)=aa (.bl (Zv (i=j))):=rfl
def iV:EV (.int i) (.int j)=aa (.bl (!Zv (i=j))):=rfl
def j8:qV (.bl i) (.bl j)=aa (.bl (Zv (i=j))):=rfl
def fW:qV (.str i) (.str j)=aa (.bl (Zv (i=j))):=rfl
def lX:JW d .non=aa (.bl (mH d)):=rfl
def j9:dC (.lst a) (.int i)=uG a i:=rfl
def kA:dC (.tup a) (.int i)=uG a i:=rfl
def lY:dC (.i9 a) (.int i)=(uG a i).map D.int:=rfl
def f6:eP [.lst a]=aa (.int ⇑a):=rfl
def h8:eP [.tup a]=aa (.int ⇑a):=rfl
def jK:eP [.i9 a]=aa (.int ⇑a):=rfl
def fJ:dI [.lst a]=aa (.tup a):=rfl
def fK:dI [.tup a]=aa (.tup a):=rfl
def gR:UG [.lst a]=aa (.lst a):=rfl
def gS:UG [.tup a]=aa (.lst a):=rfl
def gT:kW (.lst a)=aa a:=rfl
def gU:kW (.tup a)=aa a:=rfl
def gW:kU (.bl b)=aa b:=rfl
def fL:kU (.lst b)=aa (!b.isEmpty):=rfl
def fM:kU (.tup b)=aa (!b.isEmpty):=rfl
def f7:qF (.bl b)=aa b:=rfl
def iW(h:⇑ds<16777216):gG ds d=aa (ds++[d],.non):=Z_ h
def gX:EW [.tup ds]=aa (ds.zipIdx.map λp=>.tup [.int (p.2:Int),p.1]):=rfl
def gY:EW [.lst ds]=aa (ds.zipIdx.map λp=>.tup [.int (p.2:Int),p.1]):=rfl
def jL:VZ [.tup ds]=aa ds.reverse:=rfl
def jM:VZ [.lst ds]=aa ds.reverse:=rfl
def E4(h:t ρ=aa ds)(a:⇑ds<=16777216):eO t ρ=aa (.tup ds):=by unfold eO;rw[h];show Z_ a
def d7(a:⇑ds=np)(h:b (bN n ds)=.rt d):bX n np b ds=.ok d:=by unfold bX;rw[Z_ a,h]
def aQ(a:bG)(d:f ρ=.nx a)(h2:g a=o):aG f g ρ=o:=by unfold aG;rw[d];show h2
def mU(a:f ρ=.rt d):aG f g ρ=.rt d:=by unfold aG;rw[a]
def eW(h:f (aV ρ)=aa d):bJ f ρ=.rt d:=by unfold bJ;rw[h]
def cP(d:D)(h:f (fB ρ)=aa d)(a:ρ.set i (.ro d)=ρ'):aY i f ρ=.nx ρ':=by unfold aY;rw[h,<- a]
def uI(h:t (aV ρ)=aa af)(h2:a ρ=o):gH t a b ρ=o:=by unfold gH;rw[h];show h2
def nW(h:t (aV ρ)=aa ag)(h2:b ρ=o):gH t a b ρ=o:=by unfold gH;rw[h];show h2
def nX(ds:List D)(h:it (fB ρ)=aa ds)(h2:bC g b ds ρ=o):d6 it g b ρ=o:=by unfold d6;rw[h];show h2
def qJ(ds:List D)(h:it ρ=aa ds)(a:⇑ds<=16777216)(h2:hZ g t e (benv nl fr ρ) ds=aa ys):dD nl fr it g t e ρ=aa (.lst ys):=by unfold dD;rw[h];show(if ⇑ds<=g8 then _ else _)=_;rw[Z_ (show ⇑ds<=g8 from a),h2];rfl
def rY(h:⇑a+⇑b<=16777216):aX (.lst a) (.lst b)=aa (.lst (a++b)):=Z_ h
def zH(h:⇑a+⇑b<=16777216):aX (.tup a) (.tup b)=aa (.tup (a++b)):=Z_ h
def KD(h:⇑a+⇑b<=16777216):GY (.lst a) (.lst b)=aa (.lst (a++b)):=Z_ h
def pJ(h:i.natAbs<18446744073709551616):mulM (.int i) (.int j)=aa (.int (i*j)):=by simp[mulM,nQ,zD,h]
def CC(h:j.natAbs<18446744073709551616):mulM (.int i) (.int j)=aa (.int (i*j)):=by simp[mulM,nQ,zD,h]
def zJ(h:j.natAbs<4611686018427387904):B4 [.int j]=aa ((bT 0 j.toNat).map D.int):=Z_ h
def nY{n:Nat}(h:n<4611686018427387904):B4 [.int (n:Int)]=aa ((bT 0 n).map D.int):=by rw[zJ ∅];rfl
theorem iA:∀ns:Q0e,intsOf (ns.map D.int)=aa ns
 |[]=>rfl
 |n::ns=>by simp[intsOf,iA ns]
def kB{neg:Bool}{i:Int}{ns:Q0e}:nP neg (.int i) (.tup (ns.map D.int))=aa (.bl (if neg then !ns.contains i else ns.contains i)):=by simp[nP,iA]
def iX{neg:Bool}{i:Int}{ns:Q0e}:nP neg (.int i) (.lst (ns.map D.int))=aa (.bl (if neg then !ns.contains i else ns.contains i)):=by simp[nP,iA]
def sorted_ints(h:⇑ns<64):fU [.lst (ns.map D.int)]=aa (.lst ((sortI ns).map D.int)):=by simp[fU,iA,h]
theorem pK:∀bs:List Bool,mO (bs.map D.bl)=aa bs
 |[]=>rfl
 |b::bs=>by simp[mO,kU,pK bs]
def E5{bs:List Bool}:allM [.lst (bs.map D.bl)]=aa (.bl (bs.all id)):=by simp[allM,pK]
def E6{bs:List Bool}:anyM [.lst (bs.map D.bl)]=aa (.bl (bs.any id)):=by simp[anyM,pK]
def xC{n:Nat}{i:Int}(d:0<=i)(a:i<n):VY n i=aa i.toNat:=by unfold VY;rw[Z_ d,Z_ a]
def PY(h:k<n):VY n (k:Int)=aa k:=by rw[xC ∅ ∅];rfl
def PZ{α:Type}{xs:List α}{k:Nat}(h:k<⇑xs):uG xs (k:Int)=xs[k]?:=by unfold uG;rw[PY h];rfl
def CD{α:Type}{xs:List α}{i:Int}(h:0<=i)(d:i<⇑xs):∃x∈xs,uG xs i=aa x/\xs[i.toNat]?=aa x:=by
 have a:i.toNat<⇑xs:=∅
 show⟨xs[i.toNat],sj a,?_,by simp[a]⟩;unfold uG;rw[xC h d];simp[a]
theorem xD{α a:Type}(f:α->a)(xs:List α)(i:Int):uG (xs.map f) i=(uG xs i).map f:=by
 unfold uG;rw[bp]
 cases VY ⇑xs i with
 |none=>rfl
 |some j=>simp
def cC{α:Type}{xs:List α}{k:Nat}{x:α}(h:xs[k]?=aa x):uG xs (k:Int)=aa x:=by rw[PZ (c_.mp h).1,h]
def bM(a:Int)(n:Nat):⇑(bT a n)=n:=by simp[bT]
def zK(h:i<n):(bT lo n)[i]?=aa (lo+(i:Int)):=by simp[bT,h]
def uW(a:Int)(n:Nat):bT a (n+1)=bT a n++[a+(n:Int)]:=by simp[bT,Xj]
def cQ:x∈bT lo n↔lo<=x/\x<lo+n:=by
 unfold bT;rw[fz];erw[nj]
 constructor
 .rintro ⟨k,a,rfl⟩;lia
 .rintro ⟨d,h2⟩;show⟨(x-lo).toNat,∅,∅⟩
theorem zL(P:Nat->bG->Prop)(ds:List D)(A:P 0 ρ)(step:∀(i:Nat) (d:D) (ρ:bG),ds[i]?=aa d->P i ρ ->∃ρ1 j,g d ρ=aa ρ1/\b ρ1=.nx j/\P (i+1) j):
  ∃a,bC g b ds ρ=.nx a/\P ⇑ds a:=by
 suffices H:∀(l:List D) (k:Nat) (ρ:bG),ds.drop k=l->k<=⇑ds->P k ρ ->∃a,bC g b l ρ=.nx a/\P ⇑ds a from H ds 0 ρ (by simp) (g_ _) A
 intro l
 induction l with
 |nil =>
  intro k ρ m y p;have:⇑ds<=k:=by simpa using m
  show⟨ρ,rfl,by rwa [show ⇑ds=k by lia]⟩
 |cons d l ih =>
  intro k ρ m y p;have n:k<⇑ds:=by apply wy;intro h;rw[Bx ∅] at m;cases m
  have z:ds[k]?=aa d:=by have:=congrArg (λx=>x[0]?) m;simpa using this
  obtain⟨ρ1,j,J,I,v⟩:=step k d ρ z p;have o:ds.drop (k+1)=l:=by rw[sv n] at m;show(sx m).2
  obtain⟨a,F,q⟩:=ih (k+1) j o n v;show⟨a,by erw[bC,J,I,F],q⟩
theorem KG(P:Nat->bG->Prop)(j:Int)(n:Nat)(p:P 0 ρ)(step:∀(i:Nat) (ρ:bG),i<n->P i ρ ->∃ρ1 a,g (.int (j+(i:Int))) ρ=aa ρ1/\b ρ1=.nx a/\P (i+1) a):
  ∃h,bC g b ((bT j n).map D.int) ρ=.nx h/\P n h:=by
 have:=zL (g:=g) (b:=b) P ((bT j n).map D.int) p λi d ρ l o=>by
  have m:i<n:=by have:=(c_.mp l).1;simpa[bM] using this
  rw[d_,zK m] at l;cases l;show step i ρ m o
 simpa[bM] using this
theorem uX{α:Type}(mk:α->D)(f:α->D)(l:List α)(h:∀a∈l,(g (mk a) ρ).bind e=aa (f a)):hZ g bY e ρ (l.map mk)=aa (l.map f):=by
 induction l with
 |nil=>rfl
 |cons a l ih =>
  have d:=h a (by simp);have h2:=ih λx m=>h x (by simp[m])
  cases hg:g (mk a) ρ with
  |none=>rw[hg] at d;cases d
  |some ρ1 =>
   rw[hg] at d;have j:e ρ1=aa (f a):=d;erw[bt,hZ,hg,cj,bY,if_true,j,h2,kg]
def jN{α:Type}(mk:α->D)(f:α->D)(l:List α)(h:∀a∈l,∃ρ1,g (mk a) ρ=aa ρ1/\e ρ1=aa (f a)):hZ g bY e ρ (l.map mk)=aa (l.map f) :=
 uX mk f l λa d=>by obtain⟨ρ1,j,h2⟩:=h a d;rw[j];show h2
theorem zM{α:Type}(mk:α->D)(p:α->Bool)(f:α->D)(l:List α)(h:∀a∈l,∃ρ1,g (mk a) ρ=aa ρ1/\t ρ1=aa (p a)/\(p a=af->e ρ1=aa (f a))):
  hZ g t e ρ (l.map mk)=aa ((l.filter p).map f):=by
 induction l with
 |nil=>rfl
 |cons a l d =>
  obtain⟨ρ1,j,h2,n⟩:=h a (by simp);have d:=d λx m=>h x (by simp[m])
  cases hp:p a with
  |false=>simp[hZ,j,h2,hp,d]
  |true=>simp[hZ,j,h2,hp,n hp,d]
theorem KH{α j:Type}(mk:α->D)(out:j->D)(R:α->j->Prop)(l:List α)(h:∀a∈l,∃ρ1 b,g (mk a) ρ=aa ρ1/\e ρ1=aa (out b)/\R a b):
  ∃bs:List j,⇑bs=⇑l/\(∀(i:Nat) (a:α) (b:j),l[i]?=aa a->bs[i]?=aa b->R a b)/\hZ g bY e ρ (l.map mk)=aa (bs.map out):=by
 induction l with
 |nil=>show⟨[],rfl,λi a b h=>by simp at h,rfl⟩
 |cons a l ih =>
  obtain⟨ρ1,b,v,h2,q⟩:=h a (by simp);obtain⟨bs,o,n,p⟩:=ih λx d=>h x (by simp[d]);show⟨b::bs,by simp[o],λi x y d m=>?_,by simp[hZ,v,h2,p,bY]⟩
  cases i with
  |zero=>simp at d m;subst d m;show q
  |succ i=>show n i x y ↑d ↑m
def Rt(o:Out)(Q:D->Prop):Prop:=∃d,o=.rt d/\Q d
def Nx(o:Out)(Q:bG->Prop):Prop:=∃ρ,o=.nx ρ/\Q ρ
def KI(M:bG->Prop)(d:Nx (f ρ) M)(h2:∀a,M a->Rt (g a) Q):Rt (aG f g ρ) Q:=by obtain⟨a,e,m⟩:=d;unfold aG;rw[e];show h2 a m
def KJ(M:bG->Prop)(d:Nx (f ρ) M)(h2:∀a,M a->Nx (g a) Q):Nx (aG f g ρ) Q:=by obtain⟨a,e,m⟩:=d;unfold aG;rw[e];show h2 a m
def kC(a:bG)(d:f ρ=.nx a)(h2:Rt (g a) Q):Rt (aG f g ρ) Q:=by unfold aG;rw[d];show h2
def P0(a:bG)(d:f ρ=.nx a)(h2:Nx (g a) Q):Nx (aG f g ρ) Q:=by unfold aG;rw[d];show h2
def UJ(c:Bool)(h:t (aV ρ)=aa c)(d:c=af->Nx (a ρ) Q)(h2:c=ag->Nx (b ρ) Q):Nx (gH t a b ρ) Q:=by unfold gH;rw[h];cases c;show h2 rfl;show d rfl
def KL(d:D)(h:f (aV ρ)=aa d)(q:Q d):Rt (bJ f ρ) Q:=⟨d,eW h,q⟩
def V2(q:Q ρ):Nx (cZ ρ) Q:=⟨ρ,rfl,q⟩
theorem CF(ds:List D)(P:Nat->bG->Prop)(h:it (fB ρ)=aa ds)(o:P 0 ρ)(step:∀(i:Nat) (d:D) (ρ:bG),ds[i]?=aa d->P i ρ ->∃ρ1,g d ρ=aa ρ1/\Nx (b ρ1) (P (i+1)))
  (fin:∀a,P ⇑ds a->Q a):Nx (d6 it g b ρ) Q:=by
 obtain⟨a,e,p⟩:=zL (g:=g) (b:=b) P ds o λi d ρ n m=>by obtain⟨ρ1,v,j,q,l⟩:=step i d ρ n m;show⟨ρ1,j,v,q,l⟩
 show⟨a,nX ds h e,fin a p⟩
theorem xE{t:AF}{g:V0}{b:SF}{ρ:bG}{Q:bG->Prop}(n:Nat)(P:Nat->bG->Prop)(h:t (fB ρ)=aa [.int (n:Int)])(o:n<4611686018427387904)(v:P 0 ρ)(step:∀(i:Nat) (ρ:bG),i<n->P i ρ ->∃ρ1,g (.int (i:Int)) ρ=aa ρ1/\Nx (b ρ1) (P (i+1)))
  (fin:∀a,P n a->Q a):Nx (d6 (bP t) g b ρ) Q:=by
 show CF ((bT 0 n).map D.int) P (by unfold bP;rw[h,cj,nY o]) v (λi d ρ j m=>?_) (λa p=>fin a (by simpa[bM] using p));have l:i<n:=by have:=(c_.mp j).1;simpa[bM] using this
 rw[d_,zK l] at j;have j:D.int (0+(i:Int))=d:=by simpa using j
 subst j;obtain⟨ρ1,e,q⟩:=step i ρ l m;show⟨ρ1,by rw[By];show e,q⟩
def KN(a:⇑ds=np)(h:Rt (b (bN n ds)) Q):∃d,bX n np b ds=.ok d/\Q d:=by obtain⟨d,e,q⟩:=h;show⟨d,d7 a e,q⟩
theorem uY:∀(l:Q0e) (j:Nat),(l.map D.int).eraseIdx j=(l.eraseIdx j).map D.int
 |[],j=>by simp
 |a::l,0=>by simp
 |a::l,j+1=>by simp[uY l j]
def aS(j:a ρ=aa x)(d:b ρ=aa y)(h:g x y=z):aB g a b ρ=z:=by unfold aB;rw[j,d];show h
def binI{g:D->D->Option D}{d a:EF}{ρ:cD}{x y:Int}{z:Option D}(j:d ρ=aa (.int x))(h2:a ρ=aa (.int y))(h:g (.int x) (.int y)=z):aB g d a ρ=z:=aS j h2 h
def dF(d:a ρ=aa x)(h:g [x]=z):bL g (aA a aE) ρ=z:=by unfold bL aA aE;rw[d];show h
def dR(j:a ρ=aa x)(h:f [x]=.ok d):aJ f (aA a aE) ρ=aa d:=by unfold aJ;(try unfold bW);unfold aA aE;rw[j];show rP (f [x])=_;rw[h];rfl
def dS(l:a ρ=aa x)(j:b ρ=aa y)(h:f [x,y]=.ok d):aJ f (aA a (aA b aE)) ρ=aa d:=by unfold aJ;(try unfold bW);unfold aA aE;rw[l,j];show rP (f [x,y])=_;rw[h];rfl
def jC(m:a ρ=aa x)(l:b ρ=aa y)(j:c ρ=aa z)(h:f [x,y,z]=.ok d):aJ f (aA a (aA b (aA c aE))) ρ=aa d:=by unfold aJ;(try unfold bW);unfold aA aE;rw[m,l,j];show rP (f [x,y,z])=_;rw[h];rfl
def V3(n:a ρ=aa x)(m:b ρ=aa y)(l:c ρ=aa z)(j:e ρ=aa w)(h:f [x,y,z,w]=.ok d):aJ f (aA a (aA b (aA c (aA e aE)))) ρ=aa d:=by unfold aJ;(try unfold bW);unfold aA aE;rw[n,m,l,j];show rP (f [x,y,z,w])=_;rw[h];rfl
def args1(d:a ρ=aa x):aA a aE ρ=aa [x]:=by unfold aA aE;rw[d];rfl
def args2(h:a ρ=aa x)(d:b ρ=aa y):aA a (aA b aE) ρ=aa [x,y]:=by unfold aA aE;rw[h,d];rfl
def KO{a:EF}{ρ:cD}{n:Nat}(h:a ρ=aa (.int (n:Int)))(d:n<4611686018427387904):bP (aA a aE) ρ=aa ((bT 0 n).map D.int):=by unfold bP;rw[args1 h,cj,nY d]
def mD(h:f ρ=aa d)(a:kU d=aa b):tV f ρ=aa b:=by unfold tV;rw[h];show a
def P4(h:t ρ=aa b)(a:(!b)=c):gF t ρ=aa c:=by unfold gF;rw[h,<- a];rfl
def Ra(h:t ρ=aa b)(h2:b=af->u ρ=aa c)(a:b=ag->c=ag):mM t u ρ=aa c:=by
 unfold mM;rw[h];cases b
 .rw [a rfl];rfl
 .exact h2 rfl
def uJ(h:t ρ=aa b)(h2:b=ag->u ρ=aa c)(a:b=af->c=af):nO t u ρ=aa c:=by
 unfold nO;rw[h];cases b
 .exact h2 rfl
 .rw [a rfl];rfl
def P5{l:Q0e}{i:Int}{y:Int}(h:0<=i)(d:i<⇑l)(h2:⇑l<=16777216)(a:l[i.toNat]?=aa y):PU (l.map D.int) (.int i)=aa ((l.eraseIdx i.toNat).map D.int,.int y):=by show(if i.natAbs<9223372036854775808 then _ else _)=_;rw[Z_ ∅,bp,xC h d,cj,d_,a,uY];rfl
def nZ{a:Q0e}{j:Nat}{x:Int}(h:a[j]?=aa x):uG (a.map D.int) (j:Int)=aa (.int x):=by rw[xD,cC h];rfl
def KP{α:Type}{l:List α}{i j:Nat}{x:α}(h:l[i]?=aa x)(a:i<j):(l.take j)[i]?=aa x:=by rw[Bv a];show h
theorem pL:∀ns:Q0e,wZ (ns.map D.int)=af
 |[]=>rfl
 |n::ns=>by rw[bt,wZ,pL ns];rfl
def mV:iT (q::ks) (d::ds) k=if q=k then aa d else iT ks ds k:=by
 by_cases e:q=k
 .simp [iT,e]
 .simp [iT,e]
theorem pM:∀{j:Q0e} {a:Q0a} {i:Nat} {x:Int} {v:Q0e},j.Nodup->j[i]?=aa x->a[i]?=aa v->iT (j.map cg) (a.map aF) (cg x)=aa (aF v)
 |[],a,i,x,v,_,h,_=>by simp at h
 |w::ws,[],i,x,v,_,_,h=>by simp at h
 |w::ws,u::a,0,x,v,_,h1,h2=>by simp at h1 h2;subst h1 h2;rw[bt,bt,mV,Z_ rfl]
 |w::ws,u::a,i+1,x,v,hn,h1,h2=>by
  obtain⟨m,l⟩:=md.mp hn;have d:ws[i]?=aa x:=by simpa using h1
  have ne:(cg w:Sum Int ai)≠cg x:=λe=>m (by cases e;show jz d);rw[bt,bt,mV,Zz ne];show pM l d ↑h2
theorem uZ:∀{d:Q0e} {a:Q0a} {x:Int},x∉d->iT (d.map cg) (a.map aF) (cg x)=ae
 |[],a,x,_=>by simp[iT]
 |w::ws,[],x,_=>by simp[iT]
 |w::ws,u::a,x,h=>by have ne:(cg w:Sum Int ai)≠cg x:=λe=>h (by cases e;show b_);rw[bt,bt,mV,Zz ne];show uZ λz=>h (cq _ z)
theorem insI_perm(a:Int):∀l:Q0e,(insI a l).Perm (a::l)
 |[]=>.refl _
 |b::l=>by
  unfold insI;split
  .exact .refl _
  .exact ((insI_perm a l).cons b).trans (.swap a b l)
theorem sortI_perm:∀l:Q0e,(sortI l).Perm l
 |[]=>.refl _
 |a::l=>(insI_perm a (sortI l)).trans ((sortI_perm l).cons a)
theorem qK(a:Int):∀l:Q0e,l.Pairwise (· <= ·)->(insI a l).Pairwise (· <= ·)
 |[],_=>by simp[insI]
 |b::l,h=>by
  unfold insI;split
  .rename_i hab;show dm.mpr ⟨λc d=>?_,h⟩;rcases bh.mp d with e|e
   .subst e;show hab
   .exact Yf hab ((dm.mp h).1 c e)
  .rename_i hab;show dm.mpr ⟨λc d=>?_,qK a l (dm.mp h).2⟩;rcases bh.mp ((insI_perm a l).mem_iff.mp d) with e|e
   .subst e;lia
   .exact (dm.mp h).1 c e
theorem gJ:∀l:Q0e,(sortI l).Pairwise (· <= ·)
 |[]=>sy
 |a::l=>qK a _ (gJ l)
local macro_rules | `(tactic| walk_at "ev") => `(tactic| simp only[bN,j0,sX,aK,eC,aB,tV,aE,aA,bL,aJ,rP,bP,aU,mQ,kX,aV,fB,Sv.all,Sv.rd,bt,ja,nu,ny,m_,cj,kg,qb,qc,cn,jn,bp,n_,nh,ig,qd,Nat.reduceSub,Nat.reduceAdd,gW,eV,jJ,j6,fV,lW,cM,j9,lY,f6,jK,if_true,iX])
def xF(ns:Q0e)(k:Int):∃c,jI [.i9 ns,.int k]=.ok (.int c):=by
 unfold jI;by_cases h:(⇑ns:Int)=0
 .exact ⟨0,d7 rfl (mU (uI (by walk_at "ev";rw[Zx h]) rfl))⟩
 .obtain ⟨x,_,e,_⟩:=CD (xs:=ns) (i:=k%(⇑ns:Int)) (gm _ ∅) (jd _ ∅);show⟨x,d7 rfl (aQ _ (nW (by walk_at "ev";rw[Zy h]) rfl) (eW ?_))⟩
  walk_at "ev"
  rw[bI ∅]
  walk_at "ev"
  rw[e];rfl
def KQ(c k s:Int):Int:=(c+11*k*k+17*k+s)*48271%2147483647
def za(c k s:Int):Int:=(KQ c k s*(KQ c k s/4096+5)+29*k+s)%2147483629
def KR(c k s:Int)(l:0<=k)(h:k<1000000):∃r,0<=r/\gP [.int c,.int k,.int s]=.ok (.int r):=by
 unfold gP;have d:0<=KQ c k s:=gm ((c+11*k*k+17*k+s)*48271) (b:=2147483647) ⋯;have a:KQ c k s<2147483647:=jd ((c+11*k*k+17*k+s)*48271) (b:=2147483647) ⋯;show⟨za c k s*39373%1000000007,gm _ (b:=1000000007) ⋯,d7 rfl (aQ _ (cP (.int (KQ c k s)) ?_ rfl) (aQ _ (cP (.int (za c k s)) ?_ rfl) (eW ?_)))⟩
 .walk_at "ev"
  rw[pJ ⋯]
  walk_at "ev"
  rw[CC ∅,pJ (i:=17) ⋯]
  walk_at "ev"
  rw[CC (j:=48271) ⋯]
  walk_at "ev"
  rw[bI ⋯];rfl
 .walk_at "ev"
  rw[rX ⋯ ⋯]
  walk_at "ev"
  rw[pJ ∅,pJ (i:=29) ⋯]
  walk_at "ev"
  rw[bI ⋯];rfl
 .walk_at "ev"
  rw[CC (j:=39373) ⋯]
  walk_at "ev"
  rw[bI ⋯]
def u4(xs:Q0e)(x:Int):D.lst (xs.map D.int++[.int x])=aF (xs++[x]):=by simp[aF]
def rZ(c many s:Int)(I:0<=many)(F:many<1000000):∃xs:Q0e,⇑xs=many.toNat/\(∀x∈xs,0<=x)/\gQ [.int c,.int many,.int s]=.ok (aF xs):=by
 unfold gQ;have key:∀left:Int,∃d,bC (qW 5) (gH (tV (aB J4 (aK 4) (eC (.int 0))))
    (aG (sX (mQ 3 gG (aU (aB dH (aK 4) (eC (.int 64))))))
    (aY 4 (aB zE (aK 4) (eC (.int 64)))))
    (sX (mQ 3 gG (aU (aJ LL.gP (aA (aK 0) (aA (aK 5) (aA (aK 2) aE))))))))
    ((bT 0 many.toNat).map D.int) [Sv.ro (.int c),Sv.ro (.int many),Sv.ro (.int s),Sv.ow (.lst []),Sv.ro (.int left),Sv.no]=.nx d /\
    ∃(xs:Q0e) (l:Int) (v:Sv),⇑xs=many.toNat/\(∀x∈xs,0<=x)/\d=[Sv.ro (.int c),Sv.ro (.int many),Sv.ro (.int s),Sv.ow (aF xs),Sv.ro (.int l),v]:=by
  intro left;show KG (λi d=>∃(xs:Q0e) (l:Int) (v:Sv),⇑xs=i/\(∀x∈xs,0<=x)/\d=[Sv.ro (.int c),Sv.ro (.int many),Sv.ro (.int s),Sv.ow (aF xs),Sv.ro (.int l),v]) 0 _ ⟨[],left,_,rfl,by simp,rfl⟩ ?_;rintro i _ A ⟨xs,l,v,j,p,rfl⟩;have hlen:⇑(xs.map D.int)<16777216:=by rw[bp];lia
  by_cases q:0<l
  .refine ⟨_,_,rfl,uI (by walk_at "ev";rw[Zx q]) (aQ [Sv.ro (.int c),Sv.ro (.int many),Sv.ro (.int s),Sv.ow (aF (xs++[l%64])),Sv.ro (.int l),Sv.ro (.int (0+(i:Int)))] ?_ (cP (.int (l/64)) ?_ rfl)),xs++[l%64],l/64,_,by simp[j],?_,rfl⟩
   .walk_at "ev"
    rw[bI ⋯]
    walk_at "ev"
    erw[aF,kX]
    walk_at "ev"
    rw[iW hlen]
    walk_at "ev"
    rw[u4];rfl
   .walk_at "ev"
    rw[rX ⋯ ⋯]
   .intro x j;rcases dq.mp j with h|h
    .exact p x h
    .rw [bx.mp h];show gm _ ⋯
  .obtain ⟨r,z,e⟩:=KR c (0+(i:Int)) s ∅ ∅;show⟨_,[Sv.ro (.int c),Sv.ro (.int many),Sv.ro (.int s),Sv.ow (aF (xs++[r])),Sv.ro (.int l),Sv.ro (.int (0+(i:Int)))],rfl,nW (by walk_at "ev";rw[Zy q]) ?_,xs++[r],l,_,by simp[j],?_,rfl⟩
   .walk_at "ev"
    rw[e];erw[aF,kX]
    walk_at "ev"
    rw[iW hlen]
    walk_at "ev"
    rw[u4];rfl
   .intro x j;rcases dq.mp j with h|h
    .exact p x h
    .rw [bx.mp h];show z
 have o:VX (.int 10) (.int 18)=aa (.int 1000000000000000000):=rfl;have fin:∀left:Int,(0=0) ->∃xs:Q0e,⇑xs=many.toNat/\(∀x∈xs,0<=x)/\aG (d6 (bP (aA (aK 1) aE)) (qW 5) (gH (tV (aB J4 (aK 4) (eC (.int 0))))
    (aG (sX (mQ 3 gG (aU (aB dH (aK 4) (eC (.int 64))))))
    (aY 4 (aB zE (aK 4) (eC (.int 64)))))
    (sX (mQ 3 gG (aU (aJ LL.gP (aA (aK 0) (aA (aK 5) (aA (aK 2) aE))))))))) (bJ (aK 3)) [Sv.ro (.int c),Sv.ro (.int many),Sv.ro (.int s),Sv.ow (.lst []),Sv.ro (.int left),Sv.no]=.rt (aF xs):=by
  intro left _;obtain⟨d,e,xs,l,v,n,m,rfl⟩:=key left;show⟨xs,n,m,aQ _ (nX _ ?_ e) (eW rfl)⟩
  walk_at "ev"
  show zJ ∅
 by_cases y:1000000000000000000<=c
 .obtain ⟨xs,a,b,e⟩:=fin c rfl;show⟨xs,a,b,d7 rfl (aQ _ rfl (aQ _ rfl (aQ _ (uI ?_ rfl) e)))⟩
  walk_at "ev"
  rw[o]
  walk_at "ev"
  rw[Zx y]
 .obtain ⟨xs,a,b,e⟩:=fin 0 rfl;show⟨xs,a,b,d7 rfl (aQ _ rfl (aQ _ rfl (aQ _ (nW ?_ rfl) e)))⟩
  walk_at "ev"
  rw[o]
  walk_at "ev"
  rw[Zy y]
theorem KS(o:Q0e)(n:Nat)(p:Int)(hn:n<=9)(hl:n+Ord.tri n<=⇑o):
  ∃d,lU [aF o,.int n,.int p]=.ok d /\∃rows:Q0a,⇑rows=n/\Ord.Rows rows/\d=bE rows:=by
 unfold lU;show KN rfl ?_;rw[show bN 11 [aF o,.int n,.int p]=[Sv.ro (aF o),Sv.ro (.int n),Sv.ro (.int p),Sv.no,Sv.no,Sv.no,Sv.no,Sv.no,Sv.no,Sv.no,Sv.no] from rfl];show kC [Sv.ro (aF o),Sv.ro (.int n),Sv.ro (.int p),Sv.ow (.lst ((bT 0 n).map D.int)),Sv.no,Sv.no,Sv.no,Sv.no,Sv.no,Sv.no,Sv.no] ?_ ?_
 .walk_at "ev"
  erw[B3]
  walk_at "ev"
  rw[Z_ ∅];rfl
 show kC [Sv.ro (aF o),Sv.ro (.int n),Sv.ro (.int p),Sv.ow (.lst ((bT 0 n).map D.int)),Sv.ow (.lst []),Sv.no,Sv.no,Sv.no,Sv.no,Sv.no,Sv.no] rfl ?_;show KI (λρ=>∃(l:Q0e) (q A:Sv),l.Perm (bT 0 n)/\ρ=[Sv.ro (aF o),Sv.ro (.int n),Sv.ro (.int p),A,Sv.ow (aF l),q,Sv.no,Sv.no,Sv.no,Sv.no,Sv.no]) ?_ ?_
 .refine xE n (λi ρ=>∃(z l:Q0e) (q:Sv),⇑l=i/\(l++z).Perm (bT 0 n)/\ρ=[Sv.ro (aF o),Sv.ro (.int n),Sv.ro (.int p),Sv.ow (aF z),Sv.ow (aF l),q,Sv.no,Sv.no,Sv.no,Sv.no,Sv.no])
   rfl ∅ ⟨bT 0 n,[],Sv.no,rfl,.refl _,rfl⟩ ?_ ?_
  .rintro i _ hi ⟨z,l,q,hw,O,rfl⟩;have hlr:⇑l+⇑z=n:=by have:=O.length_eq;rw[cu,bM] at this;show this
   obtain⟨x,J⟩:∃x,o[i]?=aa x:=⟨_,cm ∅⟩;have hr0:(0:Int)<⇑z:=∅
   have h0:=gm x (show(⇑z:Int)≠0 by lia);have h1:=jd x hr0;obtain⟨y,hy⟩:∃y,z[(x%(⇑z:Int)).toNat]?=aa y:=⟨_,cm ∅⟩;show⟨_,rfl,[Sv.ro (aF o),Sv.ro (.int n),Sv.ro (.int p),Sv.ow (aF (z.eraseIdx (x%(⇑z:Int)).toNat)),Sv.ow (aF (l++[y])),Sv.ro (.int i),Sv.no,Sv.no,Sv.no,Sv.no,Sv.no],?_,z.eraseIdx (x%(⇑z:Int)).toNat,l++[y],Sv.ro (.int i),by simp[hw],?_,rfl⟩
   .have X:=P5 h0 h1 ∅ hy;erw[aF]
    walk_at "ev"
    erw[qG]
    walk_at "ev"
    rw[nZ J]
    walk_at "ev"
    rw[bI hr0]
    walk_at "ev"
    erw[D.uF,ite_true,cj]
    walk_at "ev"
    rw[X]
    walk_at "ev"
    rw[iW (by rw[bp];lia)]
    walk_at "ev"
    rw[gk];rfl
   .rw [km];show((Ord.rV z _ y hy).append_left l).trans O
  .rintro _ ⟨z,l,q,hw,O,rfl⟩;have hlr:⇑l+⇑z=n:=by have:=O.length_eq;rw[cu,bM] at this;show this
   have e:z=[]:=ki.mp ∅;subst e;rw[il] at O;show⟨l,q,_,O,rfl⟩
 rintro _ ⟨l,q,A,O,rfl⟩;have K:l.Perm ((ck n).map λk:Nat=>(k:Int)):=by
  have e:bT 0 n=(ck n).map λk:Nat=>(k:Int):=nq λk _=>by show 0+(k:Int)=k;lia
  rw[<- e];show O
 have hlw:⇑l=n:=by rw[K.length_eq,bp,qf]
 have I:l.Nodup:=K.nodup_iff.mpr (wx _ (λa b hab e=>hab ∅) Xm);have V4:∀{m:Q0a} (t:Nat) (u:Q0e),Ord.Under l m t u->⇑u<=n:=λ{m} t u h=>by rw[<- hlw];show Ord.fI u l h.1 λa ha=>by obtain⟨s,_,_,h2,_⟩:=h.2 a ha;show jz h2
 show kC [Sv.ro (aF o),Sv.ro (.int n),Sv.ro (.int p),A,Sv.ow (aF l),q,Sv.ow (.iR [] []),Sv.no,Sv.no,Sv.no,Sv.no] rfl ?_;show kC [Sv.ro (aF o),Sv.ro (.int n),Sv.ro (.int p),A,Sv.ow (aF l),q,Sv.ow (.iR [] []),Sv.ro (.int n),Sv.no,Sv.no,Sv.no] rfl ?_;show KI (λρ=>∃(m:Q0a) (v7 v8 L v10:Sv),⇑m=n/\Ord.Good l m/\ρ=[Sv.ro (aF o),Sv.ro (.int n),Sv.ro (.int p),A,Sv.ow (aF l),q,Sv.ow (.iR (l.map cg) (m.map aF)),v7,v8,L,v10]) ?_ ?_
 .refine xE n (λj ρ=>∃(m:Q0a) (v8 L v10:Sv),⇑m=j/\Ord.Good l m/\ρ=[Sv.ro (aF o),Sv.ro (.int n),Sv.ro (.int p),A,Sv.ow (aF l),q,Sv.ow (.iR ((l.take j).map cg) (m.map aF)),Sv.ro (.int ((n+Ord.tri j:Nat):Int)),v8,L,v10])
   rfl ∅ ⟨[],Sv.no,Sv.no,Sv.no,rfl,(λt u e=>by simp at e),rfl⟩ ?_ ?_
  .rintro j _ hj ⟨m,v8,L,v10,F,U,rfl⟩;show⟨_,rfl,?_⟩;show P0 [Sv.ro (aF o),Sv.ro (.int n),Sv.ro (.int p),A,Sv.ow (aF l),q,Sv.ow (.iR ((l.take j).map cg) (m.map aF)),Sv.ro (.int ((n+Ord.tri j:Nat):Int)),Sv.ro (.int j),Sv.ro (.lst []),v10] rfl ?_;show KJ (λρ=>∃(u:Q0e) (v10:Sv),Ord.Under l m j u/\ρ=[Sv.ro (aF o),Sv.ro (.int n),Sv.ro (.int p),A,Sv.ow (aF l),q,Sv.ow (.iR ((l.take j).map cg) (m.map aF)),Sv.ro (.int ((n+Ord.tri (j+1):Nat):Int)),Sv.ro (.int j),Sv.ro (aF u),v10]) ?_ ?_
   .refine xE j (λi ρ=>∃(u:Q0e) (v10:Sv),Ord.Under l m i u/\ρ=[Sv.ro (aF o),Sv.ro (.int n),Sv.ro (.int p),A,Sv.ow (aF l),q,Sv.ow (.iR ((l.take j).map cg) (m.map aF)),Sv.ro (.int ((n+Ord.tri j+i:Nat):Int)),Sv.ro (.int j),Sv.ro (aF u),v10])
     rfl ∅ ⟨[],_,⟨Xn,λa ha=>(nomatch ha)⟩,rfl⟩ ?_ ?_
    .rintro i _ hi ⟨u,v10,hU,rfl⟩;have tl:=Ord.V1 hj hi;obtain⟨y,hy⟩:∃y,o[n+Ord.tri j+i]?=aa y:=⟨_,cm ∅⟩;obtain⟨x,J⟩:∃x,l[i]?=aa x:=⟨_,cm ∅⟩;obtain⟨v,hv⟩:∃v,m[i]?=aa v:=⟨_,cm ∅⟩;have lv:=V4 _ _ (U i v hv);have lu:=V4 _ _ hU;show⟨_,rfl,?_⟩;show KJ (λρ=>∃u':Q0e,Ord.Under l m (i+1) u'/\ρ=[Sv.ro (aF o),Sv.ro (.int n),Sv.ro (.int p),A,Sv.ow (aF l),q,Sv.ow (.iR ((l.take j).map cg) (m.map aF)),Sv.ro (.int ((n+Ord.tri j+i:Nat):Int)),Sv.ro (.int j),Sv.ro (aF u'),Sv.ro (.int i)]) ?_ ?_
     .refine UJ (Zv (y%4<p)) ?_ (λ_=>?_) (λ_=>V2 ⟨u,hU.mono ∅,rfl⟩)
      .erw[aF]
       walk_at "ev"
       rw[nZ hy]
       walk_at "ev"
       rw[bI ⋯]
       walk_at "ev"
      .refine ⟨_,?_,_,hU.step I U J hv,rfl⟩;have hf:=List.length_filter_le (λa=>!u.contains a) (v++[x]);have X:hZ (g1 0) (tV (aB (nP af) bV cH)) bV [ae,aa (.lst (u.map D.int))] ((v++[x]).map D.int)=aa (((v++[x]).filter λa=>!u.contains a).map D.int) :=
        zM D.int _ D.int (v++[x]) λa _=>⟨_,rfl,by walk_at "ev",λ_=>rfl⟩
       have e2:aB aX (aB rO uU (aB dC fC zB)) (cV (aA (aB dC fC zB) aE)) [aa (aF o),aa (.int n),aa (.int p),A.all,aa (aF l),q.all,aa (.iR ((l.take j).map cg) (m.map aF)),aa (.int ((n+Ord.tri j+i:Nat):Int)),aa (.int j),aa (aF u),aa (.int i)]=aa (.lst ((v++[x]).map D.int)):=by
        erw[aF]
        walk_at "ev"
        rw[nZ J]
        walk_at "ev"
        erw[rO,GX,cj];have:=pM (a1o (Bm j l) I) (KP J hi) hv;erw[aF] at this;rw[this];erw[cV]
        walk_at "ev"
        rw[nZ J]
        walk_at "ev"
        rw[Z_ ⋯,cj,rY (by simp;lia)];simp
       have e3:dD 1 [9] (bU (aB aX (aB rO uU (aB dC fC zB)) (cV (aA (aB dC fC zB) aE)))) (g1 0) (tV (aB (nP af) bV cH)) bV [aa (aF o),aa (.int n),aa (.int p),A.all,aa (aF l),q.all,aa (.iR ((l.take j).map cg) (m.map aF)),aa (.int ((n+Ord.tri j+i:Nat):Int)),aa (.int j),aa (aF u),aa (.int i)]=aa (.lst (((v++[x]).filter λa=>!u.contains a).map D.int)) :=
        qJ ((v++[x]).map D.int) (by unfold bU;rw[e2];rfl) (by simp;lia) X
       unfold mI;have e4:aB GY UD (dD 1 [9] (bU (aB aX (aB rO uU (aB dC fC zB)) (cV (aA (aB dC fC zB) aE)))) (g1 0) (tV (aB (nP af) bV cH)) bV) [aa (aF o),aa (.int n),aa (.int p),A.all,aa (aF l),q.all,aa (.iR ((l.take j).map cg) (m.map aF)),aa (.int ((n+Ord.tri j+i:Nat):Int)),aa (.int j),aa (aF u),aa (.int i)]=aa (aF (u++(v++[x]).filter λa=>!u.contains a)):=by show aS (x:=aF u) rfl e3 ?_;show GY (.lst (u.map D.int)) _=_;rw[KD (by erw[bp,cu,cn,jn] at hf ⊢;lia),<- gk];rfl
       rw[show aV _=[aa (aF o),aa (.int n),aa (.int p),A.all,aa (aF l),q.all,aa (.iR ((l.take j).map cg) (m.map aF)),aa (.int ((n+Ord.tri j+i:Nat):Int)),aa (.int j),aa (aF u),aa (.int i)] from rfl,e4];show(if rR (aF _)=af then _ else _)=_;rw[Z_ (show rR (aF _)=af from pL _)];rfl
     rintro _ ⟨u',hU',rfl⟩;show⟨_,rfl,u',_,hU',rfl⟩
    .rintro _ ⟨u,v10,hU,rfl⟩;show⟨u,v10,hU,by rw[Xf];rfl⟩
   rintro _ ⟨u,v10,hU,rfl⟩;obtain⟨x,J⟩:∃x,l[j]?=aa x:=⟨_,cm ∅⟩;show⟨[Sv.ro (aF o),Sv.ro (.int n),Sv.ro (.int p),A,Sv.ow (aF l),q,Sv.ow (.iR ((l.take (j+1)).map cg) ((m++[u]).map aF)),Sv.ro (.int ((n+Ord.tri (j+1):Nat):Int)),Sv.ro (.int j),Sv.ro (aF u),v10],?_,m++[u],Sv.ro (.int j),Sv.ro (aF u),v10,by simp[F],U.snoc (by rw[F];show hU),rfl⟩;have hno:iT ((l.take j).map cg) (m.map aF) (cg x)=ae:=uZ λhm=>by
    obtain⟨t,Z⟩:=we.mp hm;have htl:t<j:=by have:=(c_.mp Z).1;rw[kh] at this;lia
    rw[Bv htl] at Z;have:=Ord.rW I Z J;lia
   unfold EX
   walk_at "ev"
   erw[rS,cj];have e5:dC (aF l) (.int (j:Int))=aa (.int x):=nZ J;rw[e5];erw[cj,GX,hno,Option.isNone_none,true_and];rw[Z_ (by rw[bp];show ⇑m<16777216;lia),Xh,J,gk,gk];rfl
  .rintro _ ⟨m,v8,L,v10,F,U,rfl⟩;show⟨m,Sv.ro (.int ((n+Ord.tri n:Nat):Int)),v8,L,v10,F,U,?_⟩;rw[ng ∅]
 rintro _ ⟨m,v7,v8,L,v10,F,U,rfl⟩;have ec:∃rows:Q0a,⇑rows=⇑(ck n)/\(∀(i:Nat) (b:Nat) (r:Q0e),(ck n)[i]?=aa b->rows[i]?=aa r ->∀(t:Nat) (u:Q0e),l[t]?=aa (b:Int)->m[t]?=aa u->r.Perm u/\r.Pairwise (· <= ·)) /\
   hZ (g1 0) bY (bL dI (aA (bL fU (aA (aB rO cH bV) aE)) aE)) [ae,aa (.iR (l.map cg) (m.map aF))] ((ck n).map λb:Nat=>D.int (b:Int))=aa (rows.map τ):=by
  show KH (λb:Nat=>D.int (b:Int)) τ _ (ck n) λb hb=>?_;have hb2:=nj.mp hb;have hm:(b:Int)∈l:=K.mem_iff.mpr (fz.mpr ⟨b,hb,rfl⟩);obtain⟨t,Z⟩:=we.mp hm;obtain⟨u,Y⟩:∃u,m[t]?=aa u:=⟨_,cm (by have:=(c_.mp Z).1;lia)⟩;have lu:=V4 _ _ (U t u Y);show⟨_,sortI u,rfl,?_,λt' u' X e2=>?_⟩
  .walk_at "ev"
   erw[rO,GX,cj];rw[pM I Z Y];erw[aF]
   walk_at "ev"
   rw[sorted_ints ∅];rfl
  .have e:=Ord.rW I X Z;subst e;rw[Y] at e2;cases e2;show⟨sortI_perm u,gJ u⟩
 obtain⟨rows,hr1,hr2,ec⟩:=ec;rw[qf] at hr1;show KL (bE rows) ?_ ⟨rows,hr1,U.rows F K hr1 λb t r u X e2 e3=>hr2 b b r (by rw[wm (by have:=(c_.mp X).1;lia)]) X t u e2 e3,rfl⟩;have e6:(bT 0 n).map D.int=(ck n).map λb:Nat=>D.int (b:Int):=by unfold bT;rw[ij];show nq λb _=>by show D.int (0+(b:Int))=_;rw[By]
 have e7:=qJ (nl:=1) (fr:=[6]) (it:=bP (bW 1)) (g:=g1 0) (t:=bY) (e:=bL dI (aA (bL fU (aA (aB rO cH bV) aE)) aE)) (ρ:=aV [Sv.ro (aF o),Sv.ro (.int n),Sv.ro (.int p),A,Sv.ow (aF l),q,Sv.ow (.iR (l.map cg) (m.map aF)),v7,v8,L,v10]) ((bT 0 n).map D.int)
  (by walk_at "ev";show nY ∅) (by rw[bp,bM];lia) (by rw[e6];show ec)
 show dF e7 rfl
theorem P6(n:Nat):2*Ord.tri n+n=n*n:=by
 induction n with
 |zero=>rfl
 |succ n ih =>
  show 2*(Ord.tri n+n)+(n+1)=(n+1)*(n+1);have:(n+1)*(n+1)=n*n+2*n+1:=by rw[Nat.add_mul,Nat.mul_add];lia
  lia
theorem KU(ns:Q0e)(k m s:Int)(h0:0<=m)(h1:m<=9):
  ∃d,lV [.i9 ns,.int k,.int m,.int s]=.ok d /\∃rows:Q0a,(⇑rows:Int)<=m/\Ord.Rows rows/\d=bE rows:=by
 unfold lV;show KN rfl ?_;obtain⟨c1,A⟩:=xF ns k;obtain⟨xs,F,J,ex⟩:=rZ c1 4 s ⋯ ⋯;obtain⟨c2,z⟩:=xF ns (k+1);obtain⟨a,b,r,rfl⟩:∃a b r,xs=a::b::r:=by
  match xs,F with
  |a::b::r,_=>show⟨a,b,r,rfl⟩
 have X:=gm a (show m+1≠0 by lia);have U:=jd a (show 0<m+1 by lia);obtain⟨n,O⟩:∃n:Nat,a%(m+1)=(n:Int):=⟨(a%(m+1)).toNat,∅⟩;have h:n<=9:=∅
 have et:=P6 n;have L:(n:Int)*((n:Int)-1)/2=(Ord.tri n:Int):=by
  have:(n:Int)*((n:Int)-1)=2*(Ord.tri n:Int):=by
   have e2:((n*n:Nat):Int)=(n:Int)*n:=by simp
   rw[Int.mul_sub,Ye];lia
  rw[this,Int.mul_ediv_cancel_left _ ⋯]
 have Yw:Ord.tri n<=36:=Ord.KC h;obtain⟨ys,hy,I,Y⟩:=rZ c2 ((n:Int)+Ord.tri n) (s+10007) ∅ ∅;show kC _ (cP (aF (a::b::r)) (jC (dS rfl rfl A) rfl rfl ex) rfl) ?_;show kC _ (cP (.int n) ?_ rfl) ?_
 .erw[aF]
  walk_at "ev"
  rw[show uG (D.int a::D.int b::r.map D.int) 0=aa (D.int a) from cC (k:=0) rfl]
  walk_at "ev"
  rw[bI ∅,O]
 show kC _ (cP (aF ys) (jC (dS rfl rfl z) ?_ rfl Y) rfl) ?_
 .walk_at "ev"
  rw[pJ ∅]
  walk_at "ev"
  rw[rX ⋯ ⋯,L]
  walk_at "ev"
 have q:=gm b (show(8:Int)≠0 by decide);have p:=jd b (show(0:Int)<8 by decide);have l:∃j:Int,aB dC (cV (aA (eI 1) (aA (eI 1) (aA (eI 2) (aA (eI 2) (aA (eI 3) (aA (eI 1) (aA (eI 0) (aA (eI 4) aE))))))))) (aB dH (aB dC fC (eI 1)) (eI 8)) [aa (.i9 ns),aa (.int k),aa (.int m),aa (.int s),aa (aF (a::b::r)),aa (.int n),aa (aF ys)]=aa (.int j):=by
  obtain⟨x,F,e,_⟩:=CD (xs:=[(1:Int),1,2,2,3,1,0,4]) (i:=b%8) q p;show⟨x,aS (x:=.lst ([(1:Int),1,2,2,3,1,0,4].map D.int)) rfl (y:=.int (b%8)) ?_ ?_⟩
  .refine binI (x:=b) (y:=8) ?_ rfl (bI ⋯);erw[aF]
   walk_at "ev"
   show cC (k:=1) rfl
  .rw [j9,xD,e];rfl
 obtain⟨j,v⟩:=l;obtain⟨d,Z,rows,K,o,rfl⟩:=KS ys n j h ∅;show KL (bE rows) (jC rfl rfl v Z) ⟨rows,∅,o,rfl⟩
def iB:kR:=bX 2 2
  (bJ (hJ leM Z7 (eC (.int 0)) (aK 0) (aK 1)))
noncomputable def kD:Nat->D->Prop
 |0,_=>False
 |n+1,.tup ds=>⇑ds<=1000000 /\∀d∈ds,kD n d
 |_+1,.int _=>True
 |_+1,.bl _=>True
 |_+1,.non=>True
 |_+1,.str _=>True
 |_+1,_=>False
def isi(h:f ρ=aa d)(a:B0 d=af<|>0):jA T f ρ=aa (.bl (BZ T d)):=by unfold jA;rw[h];show Z_ a
theorem same_refl:∀(n:Nat) (d:D),kD n d->cN n [d,d]=.ok (.bl af)
 |0,_,h=>h.elim
 |n+1,.tup ds,h=>by
  have m:=h.1;unfold cN;show d7 rfl (mU (uI (by unfold tV;rw[isi rfl];rfl) (aQ _ (nW ?_ rfl) (eW ?_))))
  .erw[bN,aG,gH,bJ,aY,jH,j0,uV,mI,qH,sX,d6,cZ,aK,eC,aB,tV,gF,mM,nO,g9,BW,rN,J3,zC,hJ,aE,aA,bL,aJ,rP,jA,bU,bP,nR,GZ,G0,g1,g2,qW,kQ,nU,bY,benv,lT,jZ,oE,asInt,aU,mQ,kX,aV,fB,Sv.all,Sv.rd,bt,ja,nu,ny,qh,m_,pz,cj,p_,kg,pw,qb,qc,qa,cn,jn,bp,n_,nh,ig,qd,Nat.reduceSub,Nat.reduceAdd,Nat.reduceEqDiff,gW,fL,fM,f7,BX,eV,jJ,j6,j7,fV,lW,cM,iV,j8,fW,lX,mH,j9,kA,lY,f6,h8,jK,fJ,fK,gR,gS,gT,gU,gX,gY,jL,jM,if_true,if_false,ite_true,ite_false,reduceIte,decide_true,decide_false,decide_eq_true_eq,mh,ql,qm,kB,iX];simp[BZ,Z8,bN,aV,jA,B0,aK,Sv.all,kU]
  .have l:=qJ (nl:=1) (fr:=[0,1]) (it:=bP (aA (bL eP (bW 1)) aE)) (g:=g1 0) (t:=bY) (e:=aJ (cN n) (aA (aB dC (aK 1) (aK 0)) (aA (aB dC (aK 2) (aK 0)) aE))) (ρ:=[aa (.tup ds),aa (.tup ds)]) ((bT 0 ⇑ds).map D.int) (ys:=(bT 0 ⇑ds).map λ_=>D.bl af)
    (by erw[bN,aG,gH,bJ,aY,jH,j0,uV,mI,qH,sX,d6,cZ,aK,eC,aB,tV,gF,mM,nO,g9,BW,rN,J3,zC,hJ,aE,aA,bL,aJ,rP,jA,bU,bP,nR,GZ,G0,g1,g2,qW,kQ,nU,bY,benv,lT,jZ,oE,asInt,aU,mQ,kX,aV,fB,Sv.all,Sv.rd,bt,ja,nu,ny,qh,m_,pz,cj,p_,kg,pw,qb,qc,qa,cn,jn,bp,n_,nh,ig,qd,Nat.reduceSub,Nat.reduceAdd,Nat.reduceEqDiff,gW,fL,fM,f7,BX,eV,jJ,j6,j7,fV,lW,cM,iV,j8,fW,lX,mH,j9,kA,lY,f6,h8,jK,fJ,fK,gR,gS,gT,gU,gX,gY,jL,jM,if_true,if_false,ite_true,ite_false,reduceIte,decide_true,decide_false,decide_eq_true_eq,mh,ql,qm,kB,iX];show nY ∅) (by rw[bp,bM];lia) (uX D.int (λ_=>D.bl af) (bT 0 ⇑ds) λk a=>by have a:=cQ.mp a;obtain⟨x,j,e,_⟩:=CD (xs:=ds) (i:=k) ∅ ∅;show aJ (cN n) _ _=_;show dS (aS rfl rfl e) (aS rfl rfl e) (same_refl n x (h.2 x j)))
   show dF l ?_;have:(bT 0 ⇑ds).map (λ_=>D.bl af)=((bT 0 ⇑ds).map λ_=>af).map D.bl:=by rw[ij];rfl
   rw[this,E5];congr 2;simp
 |n+1,.int i,_=>by unfold cN;show d7 rfl (aQ _ (nW rfl rfl) (aQ _ (nW rfl rfl) (aQ _ (nW rfl rfl) (mU (uI rfl (eW ?_))))));show g9 _ _ _=_;simp[g9,rN,jA,B0,aK,BZ,Z8,qF,aB,cM,j8,fW,bN,aV,Sv.all]
 |n+1,.bl b,_=>by unfold cN;show d7 rfl (aQ _ (nW rfl rfl) (aQ _ (nW rfl rfl) (mU (uI rfl (eW ?_)))));simp[g9,rN,jA,B0,aK,BZ,Z8,qF,aB,cM,j8,fW,bN,aV,Sv.all]
 |n+1,.non,_=>by unfold cN;show d7 rfl (aQ _ (nW rfl rfl) (mU (uI rfl (eW rfl))))
 |n+1,.str x,_=>by unfold cN;show d7 rfl (aQ _ (nW rfl rfl) (aQ _ (nW rfl rfl) (aQ _ (nW rfl rfl) (aQ _ (nW rfl rfl) (eW ?_)))));simp[g9,rN,jA,B0,aK,BZ,Z8,qF,aB,cM,j8,fW,bN,aV,Sv.all]
 |n+1,.lst _,h=>h.elim
 |n+1,.i9 _,h=>h.elim
 |n+1,.iR _ _,h=>h.elim
 |n+1,.mL _ _ _,h=>h.elim
 |n+1,.exc _ _,h=>h.elim
 |n+1,.rws _,h=>h.elim
def CG(h:⇑xs<=1000000):kD (n+2) (τ xs):=⟨by rw[bp];show h,λd a=>by obtain⟨i,_,rfl⟩:=fz.mp a;trivial⟩
def CH(h:⇑rows<=1000000)(h2:∀r∈rows,⇑r<=1000000):kD (n+3) (bE rows):=⟨by rw[bp];show h,λd j=>by obtain⟨r,a,rfl⟩:=fz.mp j;show CG (h2 r a)⟩
def row(rows:Q0a)(b:Int):List Int:=(rows[b.toNat]?).getD []
def sA(h:0<=i)(d:i<⇑rows):dC (bE rows) (.int i)=aa (τ (row rows i)):=by
 have a:i.toNat<⇑rows:=∅
 rw[show bE rows=.tup (rows.map τ) from rfl,kA,xD];unfold uG row;rw[xC h d];simp[a]
def xG:nP ag (.int i) (τ xs)=aa (.bl (xs.contains i)):=by unfold τ;rw[kB];rfl
def n6:eP [bE rows]=aa (.int ⇑rows):=by unfold bE;rw[h8,bp]
theorem zipIdx_map{α d:Type}(f:α->d)(l:List α)(m:Nat):(l.map f).zipIdx m=(l.zipIdx m).map λp=>(f p.1,p.2):=by
 induction l generalizing m with
 |nil=>rfl
 |cons a l ih=>simp[List.zipIdx_cons,ih]
def iY(a n:Int):iB [.int a,.int n]=.ok (.bl (Zv (0<=a)&&Zv (a<n))):=by
 unfold iB;show d7 rfl (eW ?_);show hJ leM Z7 (eC (.int 0)) (aK 0) (aK 1) [aa (.int a),aa (.int n)]=_;unfold hJ;erw[eC,aK,nu,ny,m_,cj,j7,j6,f7];by_cases h:0<=a
 .simp [h]
 .simp [h]
def pairD(p:Int×Int):D:=.tup [.int p.1,.int p.2]
end LL
namespace Ord
def rel(rows:Q0a)(a b:Nat):Bool:=(rows.getD b []).contains (a:Int)
theorem up_eq:∀(l m:Q0e),l.Pairwise (·<·)->m.Pairwise (·<·)->(∀x,x∈l↔x∈m)->l=m
 |[],[],_,_,_=>rfl
 |[],b::m,_,_,h=>by have:=(h b).mpr b_;cases this
 |a::l,[],_,_,h=>by have:=(h a).mp b_;cases this
 |a::l,b::m,hl,hm,h=>by
  obtain⟨l1,l2⟩:=dm.mp hl;obtain⟨m1,n⟩:=dm.mp hm;have e:a=b:=by
   have d:=bh.mp ((h a).mp b_);have h2:=bh.mp ((h b).mpr b_);rcases d with d|d
   .exact d
   .rcases h2 with h2|h2
    .exact h2.symm
    .have:=m1 a d;have:=l1 b h2;lia
  subst e;congr 1;show up_eq l m l2 n λx=>⟨λj=>?_,λj=>?_⟩
  .rcases bh.mp ((h x).mp (cq _ j)) with d|d
   .have:=l1 x j;lia
   .exact d
  .rcases bh.mp ((h x).mpr (cq _ j)) with d|d
   .have:=m1 x j;lia
   .exact d
def Rows.Lo(h:Rows rows)(d:a<⇑rows):rel rows a a=ag:=by unfold rel;rw[nz,cm d];have:=h.PM a _ (cm d);simpa using this
def Rows.tr'(h:Rows rows)(l:b<⇑rows)(j:c<⇑rows)(d:rel rows a b=af)(h2:rel rows b c=af):rel rows a c=af:=by
 unfold rel at *;rw[nz,cm l] at d;rw[nz,cm j] at h2 ⊢;have d:(a:Int)∈rows[b]:=by simpa using d
 have h2:(b:Int)∈rows[c]:=by simpa using h2
 have:=h.tr c b _ _ (cm j) h2 (cm l) _ d;simpa using this
def P7(h:x[b]?=aa r):rel x a b=af↔(a:Int)∈r:=by unfold rel;rw[nz,h];simp
def V5(d:Int)(n:Nat):(L4.bT d n).Pairwise (·<·):=wx _ (λa b (h:a<b)=>∅) Bq
def Rows.short(h:Rows x)(j:r∈x):⇑r<=⇑x:=by
 obtain⟨b,d⟩:=we.mp j;have nd:r.Nodup:=(h.up b r d).imp λq=>by lia
 have:=fI r (L4.bT 0 ⇑x) nd λa l=>LL.cQ.mpr (by have:=h.rng b r d a l;lia)
 rwa [LL.bM] at this
end Ord
namespace UK
open L3 L4
def iC:kR:=bX 3 1
  (aG (aY 1 (cV aE))
  (aG (d6 (bP (aA (bL eP (aA (aK 0) aE)) aE)) (qW 2)
   (aY 1 (aB aX (aK 1) (dD 1 [2] (bU (aB dC (aK 0) (aK 2))) (g1 0) bY (eO (aA (aK 0) (aA (aK 1) aE)))))))
  (bJ (bL mT (aA (aK 1) aE)))))
open LL
def pr(p:Int×Int):List Int:=[p.1,p.2]
def dU(x:Q0a)(k:Nat):List (Int×Int):=(bT 0 k).flatMap λb=>(row x b).map λa=>(a,b)
def mX(x:Q0a)(k:Nat):dU x (k+1)=dU x k++(row x (k:Int)).map λa=>(a,(k:Int)):=by unfold dU;rw[uW,List.flatMap_append];simp
def k7{x:Q0a}{p:Int×Int}:p∈dU x ⇑x↔0<=p.2/\p.2<(⇑x:Int)/\p.1∈row x p.2:=by
 unfold dU;rw[Bs]
 constructor
 .rintro ⟨b,h,d⟩;obtain⟨a,j,rfl⟩:=fz.mp d;have:=cQ.mp h;show⟨∅,∅,j⟩
 .rintro ⟨m,l,h2⟩;show⟨p.2,cQ.mpr ∅,fz.mpr ⟨p.1,h2,rfl⟩⟩
def fX{x:Q0a}{b:Int}(d:0<=b)(a:b<(⇑x:Int)):x[b.toNat]?=aa (row x b):=by
 have:b.toNat<⇑x:=∅
 unfold row;rw[cm this];rfl
def zN{x:Q0a}{a b:Nat}(d:b<⇑x):(((a:Int),(b:Int))∈dU x ⇑x)↔Ord.rel x a b=af:=by
 rw[k7];have e:=fX (x:=x) (b:=(b:Int)) ∅ ∅;rw[qk] at e;rw[Ord.P7 e]
 constructor
 .rintro ⟨_,_,h⟩;show h
 .intro h;show⟨by show(0:Int)<=(b:Int);lia,by show(b:Int)<_;lia,h⟩
def CI{x:Q0a}(j:Ord.Rows x):(dU x ⇑x).Nodup:=by
 unfold dU;rw[Yd,List.pairwise_flatMap]
 constructor
 .intro b d;have d:=cQ.mp d;have nd:(row x b).Nodup:=(j.up _ _ (fX ∅ ∅)).imp λq=>by lia
  show wx _ (λa c h e=>h (congrArg Prod.fst e)) nd
 .refine (Ord.V5 0 ⇑x).imp λ{b c} h p m q l e=>?_;obtain⟨a,_,rfl⟩:=fz.mp m;obtain⟨n,_,rfl⟩:=fz.mp l;have:=congrArg Prod.snd e;simp at this;lia
theorem zP(d:Ord.Rows x)(j:⇑x<=9):∀k,k<=⇑x->⇑(dU x k)<=k*8:=by
 intro k
 induction k with
 |zero=>intro _;simp[dU,bT]
 |succ k ih =>
  intro l;rw[mX,cu,bp];have m:=ih ∅;have e:=fX (x:=x) (b:=(k:Int)) ∅ ∅;rw[qk] at e;have nd:(row x (k:Int)).Nodup:=(d.up _ _ e).imp λq=>by lia
  have h2:⇑((k:Int)::row x (k:Int))<=⇑(bT 0 ⇑x):=Ord.fI _ _ (md.mpr ⟨d.PM _ _ e,nd⟩) λa h=>by
   rcases bh.1 h with rfl|h
   .exact cQ.mpr ∅
   .have:=d.rng _ _ e a h;show cQ.mpr ∅
  rw[bM,cn] at h2;lia
def un(t:Q0e):Int×Int:=(t.getD 0 0,t.getD 1 0)
def srt(l:List (Int×Int)):List (Int×Int):=(qI (l.map pr)).map un
def zQ(l:List (Int×Int)):(srt l).Perm l:=by have:=(j5 (l.map pr)).map un;rw[ij] at this;have e:(un∘pr)=id:=funext λp=>rfl;rw[e,List.map_id] at this;show this
def P8(l:List (Int×Int)):(qI (l.map pr)).map nV=(srt l).map pairD:=by unfold srt;rw[ij];show nq λt a=>?_;obtain⟨p,_,rfl⟩:=fz.mp ((j5 (l.map pr)).mem_iff.mp a);rfl
theorem sC:∀l:List (Int×Int),mR (l.map pairD)=aa (l.map pr)
 |[]=>rfl
 |p::l=>by rw[bt,mR,sC l];rfl
def CJ(h:⇑l<64):mT [.lst (l.map pairD)]=aa (.lst ((srt l).map pairD)):=by unfold mT;erw[sC,cj];rw[Z_ ⟨↑h,ko.mpr λt a=>by obtain⟨p,_,rfl⟩:=fz.mp a;rfl⟩,P8]
def P9{x:Q0a}(l:Ord.Rows x)(m:⇑x<=9)(o:⇑(dU x ⇑x)<64):iC [bE x]=.ok (.lst ((srt (dU x ⇑x)).map pairD)):=by
 unfold iC;show d7 rfl (aQ _ (cP (.lst []) rfl rfl) ?_);obtain⟨n,e,j,rfl⟩:Nx (d6 (bP (aA (bL eP (bW 0)) aE)) (qW 2)
   (aY 1 (aB aX cH (dD 1 [2] (bU (aB dC bV fE)) (g1 0) bY (eO (aA bV (bW 1))))))
   [Sv.ro (bE x),Sv.ro (.lst []),Sv.no]) (λρ=>∃j,ρ=[Sv.ro (bE x),Sv.ro (.lst ((dU x ⇑x).map pairD)),j]):=by
  show xE ⇑x (λi ρ=>∃j,ρ=[Sv.ro (bE x),Sv.ro (.lst ((dU x i).map pairD)),j]) (args1 (dF rfl n6)) ∅ ⟨_,rfl⟩ ?_ λρ h=>h;rintro i _ q ⟨j,rfl⟩;have p:=zP l m i ∅;have d:=zP l m (i+1) ∅;rw[mX,cu] at d;show⟨_,rfl,_,cP (.lst ((dU x (i+1)).map pairD)) (aS (x:=.lst ((dU x i).map pairD)) (y:=.lst (((row x (i:Int)).map λa=>(a,(i:Int))).map pairD)) rfl (qJ ((row x (i:Int)).map D.int) ?_ (by simp at d ⊢;lia) ?_) ?_) rfl,_,rfl⟩
  .unfold bU;rw[aS (x:=bE x) (y:=.int (i:Int)) rfl rfl (sA ∅ ∅)];rfl
  .rw [ij];show jN D.int _ (row x (i:Int)) λa _=>⟨_,rfl,rfl⟩
  .rw [rY (by simp at d ⊢;lia),mX,gk]
 show aQ _ e (eW (dF rfl (CJ o)))
def QA(h:l.Nodup):(sortI l).Pairwise (·<·):=by have p:=sortI_perm l;have nd:(sortI l).Nodup:=p.nodup_iff.mpr h;show(Xl.mpr ⟨gJ l,nd⟩).imp λq=>by have:=q.1;have:=q.2;lia
def code(p:Int×Int):Int:=if p.1<p.2 then p.1*9+p.2 else p.2*9+p.1
def codes:List Int:=(bT 0 9).flatMap λi=>(bT (i+1) (8-i).toNat).map λj=>i*9+j
def sD{x:Q0a}(j:Ord.Rows x){a b:Int}(l:(a,b)∈dU x ⇑x)(h2:(b,a)∈dU x ⇑x):False:=by obtain⟨o,n,h⟩:=k7.mp l;obtain⟨q,p,d⟩:=k7.mp h2;simp only at o n q p h d;obtain⟨m,rfl⟩:∃m:Nat,a=(m:Int):=⟨a.toNat,∅⟩;obtain⟨k,rfl⟩:∃k:Nat,b=(k:Int):=⟨b.toNat,∅⟩;have:=j.tr' ∅ ∅ ((zN ∅).mp l) ((zN ∅).mp h2);rw[j.Lo ∅] at this;cases this
def n8{a b c d:Int}(j:0<=b/\b<9)(h:0<=d/\d<9)(e:a*9+b=c*9+d):a=c/\b=d:=∅
def QB{x:Q0a}(o:Ord.Rows x)(J:⇑x<=9):⇑(dU x ⇑x)<=36:=by
 have y:∀p∈dU x ⇑x,0<=p.1/\p.1<9/\0<=p.2/\p.2<9/\p.1≠p.2:=λp m=>by obtain⟨F,n,h2⟩:=k7.mp m;have e:=fX F n;obtain⟨q1,q2⟩:=o.rng _ _ e _ h2;show⟨q1,∅,F,∅,λz=>?_⟩;obtain⟨a,b⟩:=p;simp only at z;subst z;show sD o m m
 have nd:((dU x ⇑x).map code).Nodup:=by
  rw[Yd,Xk];show a1l (λ{p q} m A v e=>?_) (CI o);have l:=y p m;have j:=y q A;obtain⟨a,b⟩:=p;obtain⟨c,d⟩:=q;simp only at l j;unfold code at e;simp only at e;by_cases n:a<b<;>by_cases h2:c<d
  .rw [Z_ n,Z_ h2] at e;obtain⟨rfl,rfl⟩:=n8 ⟨l.2.2.1,l.2.2.2.1⟩ ⟨j.2.2.1,j.2.2.2.1⟩ e;show v rfl
  .rw [Z_ n,Zz h2] at e;obtain⟨rfl,rfl⟩:=n8 ⟨l.2.2.1,l.2.2.2.1⟩ ⟨j.1,j.2.1⟩ e;show sD o m A
  .rw [Zz n,Z_ h2] at e;obtain⟨rfl,rfl⟩:=n8 ⟨l.1,l.2.1⟩ ⟨j.2.2.1,j.2.2.2.1⟩ e;show sD o m A
  .rw [Zz n,Zz h2] at e;obtain⟨rfl,rfl⟩:=n8 ⟨l.1,l.2.1⟩ ⟨j.1,j.2.1⟩ e;show v rfl
 have:=Ord.fI _ codes nd λz I=>by
  obtain⟨p,m,rfl⟩:=fz.mp I;have:=y p m;unfold code codes;by_cases h:p.1<p.2
  .rw [Z_ h,Bs];show⟨p.1,cQ.mpr ∅,fz.mpr ⟨p.2,cQ.mpr ∅,rfl⟩⟩
  .rw [Zz h,Bs];show⟨p.2,cQ.mpr ∅,fz.mpr ⟨p.1,cQ.mpr ∅,rfl⟩⟩
 rw[bp] at this;have e:⇑codes=36:=by decide+kernel
 lia
def zR{x:Q0a}(a:Ord.Rows x)(d:⇑x<=9):⇑(dU x ⇑x)<64:=by have:=QB a d;lia
end UK
namespace KW
open L3 L4 LL UK
def tu(h:x ρ=aa (ρ',d)):sX x ρ=.nx ρ':=by unfold sX;rw[h]
theorem QC(l:kX ρ[i]?=aa ds0)(a:x ρ=aa (ρ1,d))(j:kX ρ1[i]?=aa ds)(h:m ds d=aa q):
  mQ i m x ρ=aa (ρ1.set i (.ow (.lst q.1)),q.2):=by
 unfold mQ;rw[l,cj,a,cj,j,cj,h];rfl
def UL(a:g d ρ=aa ρ1)(j:b ρ1=.nx ρ2)(h:bC g b ds ρ2=o):bC g b (d::ds) ρ=o:=by rw[bC,a];show(match b ρ1 with | .nx ρ2=>bC g b ds ρ2|o=>o)=o;rw[j];show h
section
variable{x:Q0a}(hx:Ord.Rows x)
include hx
def u5(j:0<=c)(d:c<(⇑x:Int))(h:a∈row x c):0<=a/\a<(⇑x:Int):=hx.rng _ _ (fX j d) a h
def KY(j:0<=c)(h:c<(⇑x:Int))(d:b∈row x c)(l:a∈row x b):a∈row x c:=by obtain⟨n,m⟩:=u5 hx j h d;show hx.tr c.toNat b.toNat _ _ (fX j h) (by rw[show((b.toNat:Nat):Int)=b by lia];show d) (fX n m) a l
def UM(d:0<=c)(a:c<(⇑x:Int)):c∉row x c:=λh=>hx.PM c.toNat _ (fX d a) (by rw[show((c.toNat:Nat):Int)=c by lia];show h)
end
def V6(x:Q0a)(p:Int×Int):Bool:=!(row x p.2).any λc=>(row x c).contains p.1
noncomputable def nw(c:Int):List (Int×Int)->List Int->List Int
 |[],_=>[]
 |p::ps,u=>if p.2=c/\p.1∉u then p.1::nw c ps (u++[p.1]) else nw c ps u
theorem sE(c:Int):∀(ps:List (Int×Int)) (u:Q0e),u.Nodup->(u++nw c ps u).Nodup
 |[],u,h=>by simpa[nw] using h
 |p::ps,u,h=>by
  unfold nw;split
  .rename_i q;have:=sE c ps (u++[p.1]) (wc.mpr ⟨h,by simp,λa j b d e=>by
    have:b=p.1:=by simpa using d
    show q.2 (by rw[<- this,<- e];show j)⟩)
   rwa [km] at this
  .exact sE c ps u h
theorem CK(c:Int):∀(ps:List (Int×Int)) (u:Q0e) (a:Int),a∈nw c ps u->(a,c)∈ps
 |[],u,a,h=>by simp[nw] at h
 |p::ps,u,a,h=>by
  unfold nw at h;split at h
  .rename_i q;rcases bh.1 h with rfl|h
   .rw [<- q.1];show b_
   .exact cq _ (CK c ps _ a h)
  .exact cq _ (CK c ps _ a h)
theorem CL(c:Int):∀(ps:List (Int×Int)) (u:Q0e) (a:Int),(a,c)∈ps->a∈u++nw c ps u
 |[],u,a,h=>by cases h
 |p::ps,u,a,h=>by
  unfold nw;rcases bh.1 h with e|h
  .subst e;by_cases d:a∈u
   .exact dj _ d
   .rw [Z_ ⟨rfl,d⟩];show gg _ b_
  .split
   .have:=CL c ps (u++[p.1]) a h
    rwa [km] at this
   .exact CL c ps u a h
theorem inner:∀(ps:List (Int×Int)) (u f:Q0e) (v7 v8:Sv),⇑u+⇑ps<1000->⇑f+⇑ps<1000 ->∃j a,
  bC (kQ 7 8) (gH (mM (tV (aB qV Z6 uU)) (tV (aB (nP af) y7 fC)))
      (aG (sX (mQ 4 gG (aU y7)))
      (sX (mQ 5 gG (aU y7))))
      cZ) (ps.map pairD) [.ri n,.ro t,.ow fo,.ri b,.ow (aF u),.ow (aF f),.ri c,v7,v8]=.nx [.ri n,.ro t,.ow fo,.ri b,.ow (aF (u++nw c ps u)),.ow (aF (f++nw c ps u)),.ri c,j,a]
 |[],u,f,v7,v8,_,_=>⟨v7,v8,by simp[nw,bC]⟩
 |p::ps,u,f,v7,v8,hu,hf=>by
  erw[cn] at hu hf;have test:mM (tV (aB qV Z6 uU)) (tV (aB (nP af) y7 fC)) (aV [.ri n,.ro t,.ow fo,.ri b,.ow (aF u),.ow (aF f),.ri c,.ri p.1,.ri p.2])=aa (Zv (p.2=c) && !u.contains p.1):=by show Ra (mD (binI (x:=p.2) (y:=c) rfl rfl cM) rfl) (λh=>?_) (λh=>by rw[h];rfl);rw[h,jt];show mD (aS (x:=.int p.1) (y:=aF u) rfl rfl iX) rfl
  unfold nw;by_cases h:p.2=c/\p.1∉u
  .obtain ⟨j,a,e⟩:=inner (n:=n) (b:=b) (c:=c) (t:=t) (fo:=fo) ps (u++[p.1]) (f++[p.1]) (.ro (.int p.1)) (.ro (.int p.2)) (by simp;lia) (by simp;lia);show⟨j,a,?_⟩;have l:(Zv (p.2=c) && !u.contains p.1)=af:=by simp[h.1,h.2]
   rw[l] at test;rw[Z_ h];rw[km,km] at e;rw[bt];show UL rfl (uI test (aQ _ (tu (QC (ds0:=u.map D.int) (ds:=u.map D.int) rfl rfl rfl (iW (by simp;lia)))) (tu (QC (ds0:=f.map D.int) (ds:=f.map D.int) (d:=.int p.1) rfl rfl rfl (iW (by simp;lia)))))) ?_;rw[show aF (u++[p.1])=.lst (u.map D.int++[.int p.1]) by simp[aF],show aF (f++[p.1])=.lst (f.map D.int++[.int p.1]) by simp[aF]] at e;show e
  .obtain ⟨j,a,e⟩:=inner (n:=n) (b:=b) (c:=c) (t:=t) (fo:=fo) ps u f (.ro (.int p.1)) (.ro (.int p.2)) ∅ ∅;show⟨j,a,?_⟩;have l:(Zv (p.2=c) && !u.contains p.1)=ag:=by
    by_cases m:p.2=c
    .have:p.1∈u:=wy λz=>h ⟨m,z⟩;simp[this]
    .simp [m]
   rw[l] at test;rw[Zz h,bt];show UL rfl (nW test rfl) e
def wT:TF:=tV (aB J4 (bL eP (bW 5)) (eI 0))
def wB:SF:=(aG (jH 6 (zF 5))
    (d6 (bU cH) (kQ 7 8)
     (gH (mM (tV (aB qV Z6 uU)) (tV (aB (nP af) y7 fC)))
      (aG (sX (mQ 4 gG (aU y7)))
      (sX (mQ 5 gG (aU y7))))
      cZ)))
abbrev T(x:Q0a):List (Int×Int):=srt (dU x ⇑x)
def Q_:p∈T x↔0<=p.2/\p.2<(⇑x:Int)/\p.1∈row x p.2:=by rw[(zQ _).mem_iff,k7]
def Qz(a:Ord.Rows x)(d:⇑x<=9):⇑(T x)<64:=by rw[(zQ _).length_eq];show zR a d
abbrev B(x:Q0a):List (Int×Int):=(T x).filter (V6 x)
end KW
namespace LL
open L3 L4
def iC:kR:=bX 3 1
  (aG (aY 1 (cV aE))
  (aG (d6 (bP (aA (bL eP (bW 0)) aE)) (qW 2)
   (aY 1 (aB aX cH (dD 1 [2] (bU (aB dC bV fE)) (g1 0) bY (eO (aA bV (bW 1)))))))
  (bJ (bL mT (bW 1)))))
def G5(a:⇑ds=np)(h:b (bN n ds)=.ex c):bX n np b ds=.ex c:=by unfold bX;rw[Z_ a,h]
def runN(a:⇑ds=np)(h:b (bN n ds)=.nx ρ):bX n np b ds=.ok .non:=by unfold bX;rw[Z_ a,h]
def QD(h:f ρ=.ex c):aG f g ρ=.ex c:=by unfold aG;rw[h]
def G6(h:r (aV ρ)=aa c):iS r f ρ=.ex c:=by unfold iS;rw[h]
def KZ(h:r (aV ρ)=ae)(h2:f ρ=o):iS r f ρ=o:=by unfold iS;rw[h];show h2
def rc1(d:a ρ=aa x)(h:PV (R [x])=c):eU R (aA a aE) ρ=c:=by unfold eU;rw[args1 d];show h
def rc2(j:a ρ=aa x)(d:b ρ=aa y)(h:PV (R [x,y])=c):eU R (aA a (aA b aE)) ρ=c:=by unfold eU;rw[args2 j d];show h
def rnE(a:f ρ=aa d)(h:r ρ=c):E3 f r ρ=c:=by unfold E3;rw[a];show h
def V7(h:fb ρ=.ex c)(h2:fh c=aa d):CB fb fh ρ=.rt d:=by unfold CB;rw[h];show(match fh c with|some d=>Out.rt d|none=>.no)=_;rw[h2]
def Ln(h:fb ρ=.rt d):CB fb fh ρ=.rt d:=by unfold CB;rw[h]
def CM(h:a (aV ρ)=aa d):iU (aA a aE) c ρ=.ex c:=by unfold iU;rw[args1 h];show Z_ (by simp)
def Lm(d:a ρ=aa x):eO (aA a aE) ρ=aa (.tup [x]):=E4 (args1 d) (by simp)
def K0(h:a ρ=aa x)(d:b ρ=aa y):eO (aA a (aA b aE)) ρ=aa (.tup [x,y]):=E4 (args2 h d) (by simp)
def G7(a:Ord.Rows x)(d:⇑x<=9):LL.iC [bE x]=.ok (.lst ((KW.T x).map pairD)):=UK.P9 a d (UK.zR a d)
def aH:kR:=bX 3 3
  (gH (nO (gF (tV (aJ LL.iB (aA cH (bW 0))))) (gF (tV (aJ LL.iB (aA fE (bW 0))))))
   (iU (aA (eC (.str "a number that is no thing of the order")) aE) "NoThing")
   cZ)
def bQ:kR:=bX 8 3
  (aG (iS (eU LL.aH (aA (bL eP (bW 0)) (aA cH (bW 2)))) (sX (aU (aJ LL.aH (aA (bL eP (bW 0)) (aA cH (bW 2)))))))
  (aG (gH (nO (tV (aB qV cH fE)) (tV (aB (nP ag) fE (aB dC bV cH))))
   (iU (aA (eC (.str "a thing would lie under itself")) aE) "Looped")
   cZ)
  (aG (aY 3 (aB aX (aB dC bV cH) (eO (bW 1))))
  (aG (j0 4 (cV aE))
  (aG (PX (d6 (nR (bW 0)) (kQ 5 6)
   (aG (aY 7 (BW (aB qV w9 fE) (aB (nP ag) fE uU)))
   (sX (mQ 4 gG (aU (J3 (tV y7) (bL dI (aA (bL eE (aA (aB aX uU kT) aE)) aE)) uU)))))))
  (bJ (bL dI (bW 4))))))))
def K1:a∈putN ns k↔a∈ns\/a=k:=by
 unfold putN;split
 .rename_i h;show⟨.inl,λq=>q.elim id λz=>z▸h⟩
 .rw [dq,bx]
def CN(h:ns.Nodup):(putN ns k).Nodup:=by
 unfold putN;split
 .exact h
 .rename_i z;show wc.mpr ⟨h,by simp,λa j b d=>by rw[bx] at d;intro e;subst e;subst d;show z j⟩
theorem u6:∀(ks ns:Q0e),ns.Nodup->(ks.foldl putN ns).Nodup /\∀a,a∈ks.foldl putN ns↔a∈ns\/a∈ks
 |[],ns,h=>⟨h,λa=>by simp⟩
 |k::ks,ns,h=>by obtain⟨d,h2⟩:=u6 ks (putN ns k) (CN h);show⟨d,λa=>?_⟩;rw[wq,h2,K1,bh,or_assoc]
def K2(ns:Q0e):(xA ns).Nodup /\∀a,a∈xA ns↔a∈ns:=by obtain⟨d,h2⟩:=u6 ns [] (by simp);show⟨d,λa=>by unfold xA;rw[h2];simp⟩
def both(r l:Q0e):List Int:=sortI (xA (r++l))
def QE(r l:Q0e):(both r l).Pairwise (·<·):=by have a:=gJ (xA (r++l));have h2:(both r l).Nodup:=(sortI_perm (xA (r++l))).nodup_iff.mpr (K2 _).1;show(a1n a h2).imp λq=>by lia
def K3:a∈both r l↔a∈r\/a∈l:=by unfold both;rw[(sortI_perm _).mem_iff,(K2 _).2,dq]
def QF(h:⇑r+⇑l<64):eE [.tup (r.map D.int++l.map D.int)]=aa (.lst ((both r l).map D.int)):=by unfold eE;rw[<- gk];dsimp only;rw[iA];show(if⇑(r++l)<64 then _ else _)=_;rw[Z_ (by rw[cu];show h)];rfl
def rc3(l:a ρ=aa x)(j:b ρ=aa y)(d:c ρ=aa z)(h:PV (R [x,y,z])=o):eU R (aA a (aA b (aA c aE))) ρ=o:=by unfold eU aA aE;rw[l,j,d];show h
def thing(n a:Int):Bool:=Zv (0<=a)&&Zv (a<n)
def lZ(h:thing n a=af)(d:thing n b=af):aH [.int n,.int a,.int b]=.ok .non:=by unfold aH;show runN (ρ:=[Sv.ro (.int n),Sv.ro (.int a),Sv.ro (.int b)]) rfl (nW ?_ rfl);show uJ (b:=ag) (P4 (mD (dS rfl rfl (iY a n)) rfl) (by rw[show(Zv (0<=a)&&Zv (a<n))=af from h];rfl)) (λ_=>?_) (λz=>by cases z);show P4 (mD (dS rfl rfl (iY b n)) rfl) (by rw[show(Zv (0<=b)&&Zv (b<n))=af from d];rfl)
def G8(h:(thing n a&&thing n b)=ag):aH [.int n,.int a,.int b]=.ex "NoThing":=by
 unfold aH;show G5 rfl (uI ?_ (CM rfl));show uJ (b:=!thing n a) (P4 (mD (dS rfl rfl (iY a n)) rfl) rfl) (λz=>?_) (λ_=>rfl);have d:thing n a=af:=by simpa using z
 rw[d,jt] at h;show P4 (mD (dS rfl rfl (iY b n)) rfl) (by rw[show(Zv (0<=b)&&Zv (b<n))=ag from h];rfl)
def d8:thing n a=af↔0<=a/\a<n:=by simp[thing]
theorem y_(j:ρ=Sv.ro (bE x)::Sv.ro (.int a)::Sv.ro (.int b)::r)(h:thing ⇑x a=af)(d:thing ⇑x b=af):
  iS (eU LL.aH (aA (bL eP (bW 0)) (aA cH (bW 2)))) (sX (aU (aJ LL.aH (aA (bL eP (bW 0)) (aA cH (bW 2)))))) ρ=.nx ρ:=by
 subst j;show KZ (rc3 (dF rfl n6) rfl rfl (by rw[lZ h d];rfl)) ?_;unfold sX aU;rw[jC (dF rfl n6) rfl rfl (lZ h d)];rfl
def xH(b:Int)(lower:Q0e)(p:List Int×Nat):List Int:=if Zv ((p.2:Int)=b)||p.1.contains b then both p.1 lower else p.1
def put(x:Q0a)(a b:Int):List (List Int):=x.zipIdx.map (xH b (row x a++[a]))
def kL(x:Q0a)(a b:Int):Bool:=Zv (a=b)||(row x a).contains b
def u7(d:thing ⇑x a=af):(nO (tV (aB qV cH fE)) (tV (aB (nP ag) fE (aB dC bV cH)))) (aV (Sv.ro (bE x)::Sv.ro (.int a)::Sv.ro (.int b)::r))=aa (kL x a b):=by obtain⟨j,h⟩:=d8.mp d;show uJ (b:=Zv (a=b)) (mD (binI (x:=a) (y:=b) rfl rfl cM) rfl) (λz=>?_) (λz=>by unfold kL;rw[z];rfl);unfold kL;rw[z,qo];show mD (aS (x:=.int b) (y:=τ (row x a)) rfl (aS (x:=bE x) (y:=.int a) rfl rfl (sA j h)) xG) rfl
def K4(d:thing ⇑x a=af)(j:thing ⇑x b=af)(h:kL x a b=af):bQ [bE x,.int a,.int b]=.ex "Looped":=by unfold bQ;show G5 rfl (aQ _ (y_ rfl d j) (QD (uI ((u7 d).trans (congrArg aa h)) (CM rfl))))
def V8(hn:⇑x<=1000)(z:∀r∈x,⇑r<=9)(v:thing ⇑x a=af)(K:thing ⇑x b=af)(h:kL x a b=ag):bQ [bE x,.int a,.int b]=.ok (bE (put x a b)):=by
 obtain⟨U,O⟩:=d8.mp v;have hw:⇑(row x a)<=9:=by unfold row;rw[cm ∅];show z _ (sj _)
 unfold bQ;show d7 rfl (aQ _ (y_ rfl v K) (aQ _ (nW ((u7 v).trans (congrArg aa h)) rfl) (aQ _ (cP (τ (row x a++[a])) (aS (x:=τ (row x a)) (y:=.tup [.int a]) (aS (x:=bE x) (y:=.int a) rfl rfl (sA U O)) (Lm rfl) ?_) rfl) (aQ [Sv.ro (bE x),Sv.ro (.int a),Sv.ro (.int b),Sv.ro (τ (row x a++[a])),Sv.ow (.lst []),Sv.no,Sv.no,Sv.no] rfl ?_))))
 .unfold τ;rw[zH (by simp;lia),gk];rfl
 .have L:Nx (d6 (nR (bW 0)) (kQ 5 6)
    (aG (aY 7 (BW (aB qV w9 fE) (aB (nP ag) fE uU)))
    (sX (mQ 4 gG (aU (J3 (tV y7) (bL dI (aA (bL eE (aA (aB aX uU kT) aE)) aE)) uU))))) [Sv.ro (bE x),Sv.ro (.int a),Sv.ro (.int b),Sv.ro (τ (row x a++[a])),Sv.ow (.lst []),Sv.no,Sv.no,Sv.no])
    λρ=>∃v5 v6 v7,ρ=[Sv.ro (bE x),Sv.ro (.int a),Sv.ro (.int b),Sv.ro (τ (row x a++[a])),Sv.ow (.lst ((put x a b).map τ)),v5,v6,v7]:=by
   show CF ((x.map τ).zipIdx.map λp=>D.tup [.int (p.2:Int),p.1]) (λi ρ=>∃v5 v6 v7,ρ=[Sv.ro (bE x),Sv.ro (.int a),Sv.ro (.int b),Sv.ro (τ (row x a++[a])),Sv.ow (.lst (((put x a b).take i).map τ)),v5,v6,v7]) rfl ⟨_,_,_,rfl⟩ ?_ ?_
   .rintro i d _ A ⟨v5,v6,v7,rfl⟩;rw[zipIdx_map,ij,d_] at A;obtain⟨⟨r,j⟩,n,rfl⟩:=v_.mp A;have J:j=i/\x[i]?=aa r:=by rw[Bu] at n;obtain⟨r',Z,Y⟩:=v_.mp n;cases Y;show⟨∅,Z⟩
    obtain⟨rfl,I⟩:=J;have rl:⇑r<=9:=z r (jz I);show⟨[Sv.ro (bE x),Sv.ro (.int a),Sv.ro (.int b),Sv.ro (τ (row x a++[a])),Sv.ow (.lst (((put x a b).take j).map τ)),Sv.ro (.int j),Sv.ro (τ r),v7],rfl,?_⟩;have q:(put x a b)[j]?=aa (xH b (row x a++[a]) (r,j)):=by unfold put;rw[d_,n];rfl
    have F:(put x a b).take (j+1)=(put x a b).take j++[xH b (row x a++[a]) (r,j)]:=by rw[List.take_add_one,q];rfl
    have X:(BW (aB qV w9 fE) (aB (nP ag) fE uU)) (fB [Sv.ro (bE x),Sv.ro (.int a),Sv.ro (.int b),Sv.ro (τ (row x a++[a])),Sv.ow (.lst (((put x a b).take j).map τ)),Sv.ro (.int j),Sv.ro (τ r),v7])=aa (.bl (Zv ((j:Int)=b)||r.contains b)):=by unfold BW;rw[binI (x:=j) (y:=b) rfl rfl cM,aS (x:=.int b) (y:=τ r) rfl rfl xG];erw[cj,f7];cases Zv ((j:Int)=b)<;>rfl
    show⟨_,aQ _ (cP _ X rfl) ?_,Sv.ro (.int j),Sv.ro (τ r),Sv.ro (.bl (Zv ((j:Int)=b)||r.contains b)),rfl⟩;rw[F];unfold sX;have ev:(aU (J3 (tV y7) (bL dI (aA (bL eE (aA (aB aX uU kT) aE)) aE)) uU)) [Sv.ro (bE x),Sv.ro (.int a),Sv.ro (.int b),Sv.ro (τ (row x a++[a])),Sv.ow (.lst (((put x a b).take j).map τ)),Sv.ro (.int j),Sv.ro (τ r),Sv.ro (.bl (Zv ((j:Int)=b)||r.contains b))]
      = aa ([Sv.ro (bE x),Sv.ro (.int a),Sv.ro (.int b),Sv.ro (τ (row x a++[a])),Sv.ow (.lst (((put x a b).take j).map τ)),Sv.ro (.int j),Sv.ro (τ r),Sv.ro (.bl (Zv ((j:Int)=b)||r.contains b))],τ (xH b (row x a++[a]) (r,j))):=by
     unfold aU J3;rw[mD (b:=Zv ((j:Int)=b)||r.contains b) rfl rfl];unfold xH
     cases Zv ((j:Int)=b)||r.contains b with
     |false=>rfl
     |true =>
      erw[cj,if_true];rw[dF (x:=.lst ((both r (row x a++[a])).map D.int)) (dF (x:=.tup (r.map D.int++(row x a++[a]).map D.int)) (aS (x:=τ r) (y:=τ (row x a++[a])) rfl rfl (zH (by simp;lia))) (QF (by simp;lia))) rfl];rfl
    have pl:⇑((put x a b).take j)<1000+1:=by
     rw[kh];have:⇑(put x a b)=⇑x:=by simp[put]
     lia
    have ex:=KW.QC (i:=4) (m:=gG) rfl ev rfl (iW (d:=τ (xH b (row x a++[a]) (r,j))) (ds:=((put x a b).take j).map τ) (by rw[bp];lia));show(congrArg (λo:Option (bG×D)=>match o with|some p=>Out.nx p.1|none=>Out.no) ex).trans ?_;rw[gk];rfl
   .rintro l ⟨v5,v6,v7,rfl⟩;show⟨v5,v6,v7,?_⟩;rw[ng (by simp[put])]
  obtain⟨l,e,v5,v6,v7,rfl⟩:=L;show aQ _ (by unfold PX;rw[e]) (eW ?_);show dF rfl rfl
def eF:kR:=bX 9 2
  (aG (j0 2 (cV aE))
  (aG (d6 (bP (bW 0)) (qW 3)
   (aG (j0 4 (cV aE))
   (aG (j0 5 (cV (bW 3)))
   (aG (B6 B5 (tV (aB J4 (bL eP (bW 5)) (eI 0)))
    (aG (jH 6 (zF 5))
    (d6 (bU cH) (kQ 7 8)
     (gH (mM (tV (aB qV Z6 uU)) (tV (aB (nP af) y7 fC)))
      (aG (sX (mQ 4 gG (aU y7)))
      (sX (mQ 5 gG (aU y7))))
      cZ))))
   (aG (gH (tV (aB (nP ag) kT fC))
    (bJ (eC .non))
    cZ)
   (sX (mQ 2 gG (qG (bL dI (aA (bL fU (bW 4)) aE))))))))))
  (bJ (bL dI (bW 2)))))
open KW UK
theorem E7(up:∀d:Int,0<=d->d<(⇑y:Int)->(row y d).Pairwise (·<·))(rng:∀c d:Int,0<=d->d<(⇑y:Int)->c∈row y d->0<=c/\c<(⇑y:Int))
  (tr:∀c v d:Int,0<=d->d<(⇑y:Int)->v∈row y d->c∈row y v->c∈row y d) (PM:∀d:Int,0<=d->d<(⇑y:Int)->d∉row y d):Ord.Rows y:=by
 have j:∀(b:Nat) (r:Q0e),y[b]?=aa r->row y (b:Int)=r/\(b:Int)<(⇑y:Int):=λb r h=>by unfold row;rw[qk,h];have:=(c_.1 h).1;show⟨rfl,∅⟩
 show⟨λb r h=>?_,λb r h a m=>?_,λb a r v h m o c n=>?_,λb r h=>?_⟩
 .obtain ⟨e,l⟩:=j b r h;rw[<- e];show up b ∅ l
 .obtain ⟨e,l⟩:=j b r h;rw[<- e] at m;show rng a b ∅ l m
 .obtain ⟨e,l⟩:=j b r h;obtain⟨p,l2⟩:=j a v o;rw[<- e] at m ⊢;rw[<- p] at n;show tr c a b ∅ l m n
 .obtain ⟨e,l⟩:=j b r h;rw[<- e];show PM b ∅ l
def iD(x:Q0a)(a b:Int):⇑(put x a b)=⇑x:=by simp[put]
def E8(l:0<=d)(j:d<(⇑x:Int)):row (put x a b) d=xH b (row x a++[a]) (row x d,d.toNat):=by
 have h:d.toNat<⇑x:=∅
 unfold row put;rw[d_,Bu,cm h];simp[row]
def iZ(l:0<=d)(j:d<(⇑x:Int)):c∈row (put x a b) d↔c∈row x d\/((d=b\/b∈row x d)/\(c=a\/c∈row x a)):=by
 rw[E8 l j];unfold xH;have e:((d.toNat:Nat):Int)=d:=∅
 rw[e];by_cases h:(Zv (d=b)||(row x d).contains b)=af
 .rw [Z_ h,K3,dq,bx];have h':d=b\/b∈row x d:=by simpa using h
  constructor
  .rintro (z|z|z)
   .exact .inl z
   .exact .inr ⟨h',.inr z⟩
   .exact .inr ⟨h',.inl z⟩
  .rintro (z|⟨_,z|z⟩)
   .exact .inl z
   .exact .inr (.inr z)
   .exact .inr (.inl z)
 .rw [Zz h];have h':¬ (d=b\/b∈row x d):=by simpa using h
  show⟨.inl,λz=>z.elim id λq=>Zw q.1 h'⟩
def K5(h:kL x a b=ag):a≠b/\b∉row x a:=by unfold kL at h;simpa using h
theorem K6(n:Ord.Rows x)(Y:thing ⇑x a=af)(X:thing ⇑x b=af)(h:kL x a b=ag):Ord.Rows (put x a b):=by
 obtain⟨A,q⟩:=d8.mp Y;obtain⟨b0,Z⟩:=d8.mp X;obtain⟨F,o⟩:=K5 h;show E7 (λd m j=>?_) (λc d m j I=>?_) (λc v d m j O I=>?_) λd m j U=>?_
 .rw [iD] at j;rw[E8 m j];unfold xH;split
  .exact QE _ _
  .exact n.up _ _ (fX m j)
 .rw [iD] at j ⊢;rcases(iZ m j).1 I with z|⟨_,z|z⟩
  .exact u5 n m j z
  .omega
  .exact u5 n A q z
 .rw [iD] at j;have p:=(iZ m j).1 O;have K:0<=v/\v<(⇑x:Int):=by
   rcases p with z|⟨_,z|z⟩
   .exact u5 n m j z
   .omega
   .exact u5 n A q z
  show(iZ m j).2 ?_;rcases(iZ K.1 K.2).1 I with z|⟨u,l⟩
  .rcases p with y|⟨u,l⟩
   .exact .inl (KY n m j y z)
   .refine .inr ⟨u,.inr ?_⟩;rcases l with e|l
    .rw [e] at z;show z
    .exact KY n A q l z
  .refine .inr ⟨?_,l⟩;rcases p with y|⟨L,_⟩
   .rcases u with e|u
    .rw [e] at y;show .inr y
    .exact .inr (KY n m j y u)
   .exact L
 .rw [iD] at j;rcases(iZ m j).1 U with z|⟨u,l⟩
  .exact UM n m j z
  .rcases u with e|u
   .rcases l with J|l
    .exact F (J.symm.trans e)
    .rw [e] at l;show o l
   .rcases l with J|l
    .rw [J] at u;show o u
    .exact o (KY n A q l u)
inductive TC (P:List (Int×Int)):Int->Int->Prop where
 |one {a b:Int} (h:(a,b)∈P):TC P a b
 |more {a c b:Int} (h:(a,c)∈P) (t:TC P c b):TC P a b
theorem TC.trans(h:TC P a b)(g:TC P b c):TC P a c:=by
 induction h with
 |one h=>show .more h g
 |more h _ ih=>show .more h (ih g)
theorem TC.mono(s:∀p∈P,p∈Q)(h:TC P a b):TC Q a b:=by
 induction h with
 |one h=>show .one (s _ h)
 |more h _ ih=>show .more (s _ h) ih
def QG(n:Nat)(P:List (Int×Int)):Prop:=∀p∈P,(0<=p.1/\p.1<(n:Int))/\0<=p.2/\p.2<(n:Int)
theorem TC.rng(d:QG n P)(h:TC P a b):0<=a/\a<(n:Int):=by
 cases h with
 |one h=>show(d _ h).1
 |more h _=>show(d _ h).1
structure Cg (P:List (Int×Int)) (b:Int) (u f:Q0e):Prop where
 nd:u.Nodup
 sub:∀a∈u,TC P a b
 fr:∀a∈f,a=b\/a∈u
 cl:∀c,(c=b\/c∈u)->c∉f ->∀a,(a,c)∈P->a∈u
def Cg.step(h:Cg P b u (f++[c])):Cg P b (u++nw c P u) (f++nw c P u):=by
 show⟨sE c P u h.nd,λa j=>?_,λa j=>?_,λd l m a j=>?_⟩
 .rcases dq.1 j with j|j
  .exact h.sub a j
  .have q:=CK c P u a j;rcases h.fr c (by simp) with e|e
   .rw [<- e];show .one q
   .exact .more q (h.sub c e)
 .rcases dq.1 j with j|j
  .exact (h.fr a (dj _ j)).imp id λz=>dj _ z
  .exact .inr (gg _ j)
 .by_cases e:d=c
  .subst e;show CL d P u a j
  .refine dj _ (h.cl d ?_ (λz=>?_) a j)
   .rcases l with l|l
    .exact .inl l
    .rcases dq.1 l with l|l
     .exact .inr l
     .exact Zw (gg _ l) m
   .rcases dq.1 z with z|z
    .exact m (dj _ z)
    .exact e ↑z
def Cg.all(h:Cg P b u [])(t:TC P a b):a∈u:=by
 have key:∀{a c:Int},TC P a c->c=b->a∈u:=λ{a c} t=>by
  induction t with
  |one q=>intro e;subst e;show h.cl _ (.inl rfl) (by simp) _ q
  |more q _ ih=>intro e;show h.cl _ (.inr (ih e)) (by simp) _ q
 show key t rfl
def Cg.few(j:QG n P)(h:Cg P b u f):⇑u<=n:=by
 have q:=Ord.fI u (bT 0 n) h.nd λa d=>cQ.mpr (by have:=TC.rng j (h.sub a d);lia)
 rwa [bM] at q
theorem V9(Z:n<=9)(x:QG n P)(hl:⇑P<=800)(U:kW Pd=aa (P.map pairD)):
  ∀(m N:Nat) (u f:Q0e) (v6 v7 v8:Sv),⇑f+2*(n-⇑u)<=m->m<N->m<100->Cg P b u f ->∃l I j d,Cg P b l [] /\
   dQ wT wB N [.ri n,.ro Pd,.ow fo,.ri b,.ow (aF u),.ow (aF f),v6,v7,v8]=.nx [.ri n,.ro Pd,.ow fo,.ri b,.ow (aF l),.ow (aF []),I,j,d]:=by
 intro m
 induction m with
 |zero =>
  intro N u f v6 v7 v8 v hN _ h;obtain⟨N,rfl⟩:∃k,N=k+1:=⟨N-1,∅⟩;have:f=[]:=List.eq_nil_of_length_eq_zero ∅;subst this;show⟨u,v6,v7,v8,h,rfl⟩
 |succ m ih =>
  intro N u f v6 v7 v8 v hN y h;obtain⟨N,rfl⟩:∃k,N=k+1:=⟨N-1,∅⟩;rcases List.eq_nil_or_concat f with rfl|⟨a,c,e⟩
  .exact ⟨u,v6,v7,v8,h,rfl⟩
  .rw [List.concat_eq_append] at e;subst e;rw[cu,wg] at v;have Y:=h.few x;have q:=h.step;have p:=q.few x;rw[cu] at p;obtain⟨j,d,e⟩:=inner (n:=n) (b:=b) (c:=c) (t:=Pd) (fo:=fo) P u a v7 v8 ∅ ∅;obtain⟨l,F,A,z,L,X⟩:=ih N (u++nw c P u) (a++nw c P u) (.ro (.int c)) j d (by rw[cu,cu];lia) ∅ ∅ q;show⟨l,F,A,z,L,?_⟩;have J:wT (aV [.ri n,.ro Pd,.ow fo,.ri b,.ow (aF u),.ow (aF (a++[c])),v6,v7,v8])=aa af:=by have e:wT (aV [.ri n,.ro Pd,.ow fo,.ri b,.ow (aF u),.ow (aF (a++[c])),v6,v7,v8])=aa (Zv ((0:Int)<⇑((a++[c]).map D.int))):=rfl;rw[e,bp,cu,wg,Zx ∅]
   have O:wB [.ri n,.ro Pd,.ow fo,.ri b,.ow (aF u),.ow (aF (a++[c])),v6,v7,v8]=.nx [.ri n,.ro Pd,.ow fo,.ri b,.ow (aF (u++nw c P u)),.ow (aF (a++nw c P u)),.ri c,j,d]:=by
    show aQ [.ri n,.ro Pd,.ow fo,.ri b,.ow (aF u),.ow (aF a),.ri c,v7,v8] ?_ (nX _ (show kW Pd=aa (P.map pairD) from U) e);have K:zF 5 [.ri n,.ro Pd,.ow fo,.ri b,.ow (aF u),.ow (aF (a++[c])),v6,v7,v8]=aa ([.ri n,.ro Pd,.ow fo,.ri b,.ow (aF u),.ow (aF a),v6,v7,v8],.int c):=by unfold zF;show(Ww _ (((a++[c]).map D.int)[⇑((a++[c]).map D.int)-1]?))=_;rw[gk];simp[aF]
    unfold jH;rw[K];rfl
   rw[dQ,J];show(match wB _ with | .nx ρ'=>dQ wT wB N ρ' | o=>o)=_;rw[O];show X
theorem sF:∀(ds a:List D) (ρ:bG),bC g b (ds++a) ρ=match bC g b ds ρ with | .nx ρ'=>bC g b a ρ' | o=>o
 |[],a,ρ=>rfl
 |d::ds,a,ρ=>by
  rw[n_]
  cases h1:g d ρ with
  |none=>erw[bC,h1]
  |some ρ1 =>
   cases h2:b ρ1 with
   |nx ρ2=>erw[bC,h1,h2];show sF ds a ρ2
   |rt d=>erw[bC,h1,h2]
   |ex c=>erw[bC,h1,h2]
   |no=>erw[bC,h1,h2]
def QH:SF:=(aG (j0 4 (cV aE))
   (aG (j0 5 (cV (bW 3)))
   (aG (B6 B5 wT wB)
   (aG (gH (tV (aB (nP ag) kT fC))
    (bJ (eC .non))
    cZ)
   (sX (mQ 2 gG (qG (bL dI (aA (bL fU (bW 4)) aE)))))))))
theorem QI(K:n<=9)(F:QG n P)(L:⇑P<=800)(O:kW Pd=aa (P.map pairD))(A:⇑fs<1000):
  (TC P b b->QH [.ri n,.ro Pd,.ow (.lst fs),.ri b,v4,v5,v6,v7,v8]=.rt .non) /\
  (¬ TC P b b ->∃r:Q0e,r.Pairwise (·<·)/\(∀a,a∈r↔TC P a b) /\∃J I m l j,QH [.ri n,.ro Pd,.ow (.lst fs),.ri b,v4,v5,v6,v7,v8]=.nx [.ri n,.ro Pd,.ow (.lst (fs++[τ r])),.ri b,J,I,m,l,j]):=by
 obtain⟨u,m,l,j,h,e⟩:=V9 K F L O (b:=b) (fo:=.lst fs) 50 B5 [] [b] v6 v7 v8 (by simp;lia) ⋯ ∅
  ⟨Xn,λa v=>by simp at v,λa v=>.inl ↑v,λc h A=>h.elim (λe=>Zw (by simp[e]) A) λz=>by simp at z⟩
 have mem:∀a,a∈u↔TC P a b:=λa=>⟨h.sub a,h.all⟩;have U:=h.few F;have o:(tV (aB (nP ag) kT fC)) (aV [.ri n,.ro Pd,.ow (.lst fs),.ri b,.ow (aF u),.ow (aF []),m,l,j])=aa (u.contains b):=mD (aS (x:=.int b) (y:=aF u) rfl rfl iX) rfl
 constructor
 .intro t;have p:u.contains b=af:=by simpa using (mem b).2 t
  unfold QH;show aQ _ rfl (aQ _ rfl (aQ _ e (mU (uI (o.trans (congrArg aa p)) (eW rfl)))))
 .intro t;have p:u.contains b=ag:=by
   cases q:u.contains b with
   |false=>rfl
   |true=>show Zw ((mem b).1 ↑q) t
  show⟨sortI u,QA h.nd,λa=>by rw[(sortI_perm u).mem_iff];show mem a,.ow (aF u),.ow (aF []),m,l,j,?_⟩;unfold QH;show aQ _ rfl (aQ _ rfl (aQ _ e (aQ _ (nW (o.trans (congrArg aa p)) rfl) (tu (QC (ρ1:=[.ri n,.ro Pd,.ow (.lst fs),.ri b,.ow (aF u),.ow (aF []),m,l,j]) (ds0:=fs) (ds:=fs) (d:=τ (sortI u)) rfl ?_ rfl (iW ∅))))));unfold qG;rw[dF (x:=aF (sortI u)) (dF (x:=aF u) rfl (sorted_ints ∅)) (z:=aa (τ (sortI u))) rfl];show(if(τ (sortI u)).uF=af then _ else _)=_;rw[Z_ (show(τ (sortI u)).uF=af from pL _)]
theorem zT(O:n<=9)(Z:QG n P)(U:⇑P<=800)(Y:kW Pd=aa (P.map pairD)):∀i:Nat,i<=n ->
  ((∃b:Nat,b<i/\TC P b b)->bC (qW 3) QH ((bT 0 i).map D.int) [.ri n,.ro Pd,.ow (.lst []),.no,.no,.no,.no,.no,.no]=.rt .non) /\
  ((∀b:Nat,b<i->¬ TC P b b) ->∃d:Q0a,⇑d=i/\(∀(b:Nat) (r:Q0e),d[b]?=aa r->r.Pairwise (·<·) /\∀a,a∈r↔TC P a b) /\∃x v4 v5 v6 v7 v8,
   bC (qW 3) QH ((bT 0 i).map D.int) [.ri n,.ro Pd,.ow (.lst []),.no,.no,.no,.no,.no,.no]=.nx [.ri n,.ro Pd,.ow (.lst (d.map τ)),x,v4,v5,v6,v7,v8]):=by
 intro i
 induction i with
 |zero=>show λ_=>⟨λ⟨b,l,_⟩=>∅,λ_=>⟨[],rfl,λb r h=>by simp at h,_,_,_,_,_,_,rfl⟩⟩
 |succ i ih =>
  intro hi;obtain⟨p,m⟩:=ih ∅;rw[uW,gk,By];by_cases l:∃b:Nat,b<i/\TC P b b
  .refine ⟨λ_=>by rw[sF,p l],λh=>?_⟩;obtain⟨b,v,h2⟩:=l;show Zw h2 (h b ∅)
  .obtain ⟨d,y,sp,x,v4,v5,v6,v7,v8,e⟩:=m λb v h2=>l ⟨b,v,h2⟩;obtain⟨t1,t2⟩:=QI O Z U Y (fs:=d.map τ) (by rw[bp];lia) (b:=(i:Int)) (v4:=v4) (v5:=v5) (v6:=v6) (v7:=v7) (v8:=v8);have go:∀o,QH [.ri n,.ro Pd,.ow (.lst (d.map τ)),.ro (.int (i:Int)),v4,v5,v6,v7,v8]=o->bC (qW 3) QH ((bT 0 i).map D.int++[(i:Int)].map D.int) [.ri n,.ro Pd,.ow (.lst []),.no,.no,.no,.no,.no,.no]=o:=λo h=>by rw[sF,e];show(match QH [.ri n,.ro Pd,.ow (.lst (d.map τ)),.ro (.int (i:Int)),v4,v5,v6,v7,v8] with | .nx ρ2=>Out.nx ρ2|o=>o)=o;rw[h];cases o<;>rfl
   show⟨λ⟨b,v,h2⟩=>?_,λh=>?_⟩
   .have:b=i:=by apply wy;intro z;show l ⟨b,∅,h2⟩
    subst this;show go _ (t1 h2)
   .obtain ⟨r,up,L,K,J,I,F,A,e2⟩:=t2 (h i ∅);show⟨d++[r],by simp[y],λb q j=>?_,_,K,J,I,F,A,(go _ e2).trans (by rw[gk];rfl)⟩;by_cases X:b<i
    .rw [jq ∅] at j;show sp b q j
    .rw [jo ∅] at j;have:b=i:=by have:=(c_.1 j).1;simp at this;lia
     subst this;rw[y,Bj] at j;cases j;show⟨up,L⟩
def zU(d:n<=9)(a:QG n P)(j:⇑P<=800)(l:kW Pd=aa (P.map pairD))(h:∃b:Int,TC P b b):LL.eF [.int n,Pd]=.ok .non:=by obtain⟨b,t⟩:=h;have m:=TC.rng a t;have e:=(zT d a j l n (bf _)).1 ⟨b.toNat,∅,by rw[show((b.toNat:Nat):Int)=b by lia];show t⟩;unfold LL.eF;show d7 rfl (aQ [.ri n,.ro Pd,.ow (.lst []),.no,.no,.no,.no,.no,.no] rfl (mU (nX _ (KO rfl ∅) e)))
theorem zV(j:Ord.Rows x)(o:⇑x<=9)(v:QG ⇑x P)(p:⇑P<=800)(q:kW Pd=aa (P.map pairD))(h:∀a b:Int,0<=b->b<(⇑x:Int)->(a∈row x b↔TC P a b)):
  LL.eF [.int ⇑x,Pd]=.ok (bE x):=by
 obtain⟨d,A,sp,z,v4,v5,v6,v7,v8,e⟩:=(zT o v p q ⇑x (bf _)).2 λb I t=>UM j (c:=(b:Int)) ∅ ∅ ((h b b ∅ ∅).2 t);have y:d=x:=by
  show wt λk=>?_;by_cases F:k<⇑x
  .have m:d[k]?=aa d[k]:=cm ∅;have l:x[k]?=aa (row x (k:Int)):=by
    have:=fX (x:=x) (b:=(k:Int)) ∅ ∅
    rwa [qk] at this
   rw[m,l];obtain⟨up,n⟩:=sp k _ m;show congrArg aa (Ord.up_eq _ _ up (j.up _ _ l) λa=>by rw[n,h a k ∅ ∅])
  .rw [kl ∅,kl ∅]
 rw[y] at e;unfold LL.eF;show d7 rfl (aQ [.ri ⇑x,.ro Pd,.ow (.lst []),.no,.no,.no,.no,.no,.no] rfl (aQ _ (nX _ (KO rfl ∅) e) (eW (dF rfl rfl))))
def WB(x:Q0a)(a:Q0e):List Int:=((bT 0 ⇑x).filter λt=>!a.contains t).filter λt=>(row x t).all λl=>a.contains l
def UN(a:Q0e)(t:Int):List Int:=sortI (a++[t])
end LL
namespace K24
noncomputable def fact:Nat->Int
 |0=>1
 |k+1=>fact k*(k+1)
noncomputable def ff(x:Int):Nat->Int
 |0=>1
 |k+1=>ff x k*(x-k)
--CUT
def C(x:Int)(m:Nat):Int:=ff x m/fact m
noncomputable def diffs:List Int->List Int
 |a::b::l=>(b-a)::diffs (b::l)
 |_=>[]
theorem n9:∀l:Q0e,⇑(diffs l)=⇑l-1
 |[]=>rfl
 |[_]=>rfl
 |a::b::l=>by rw[diffs,cn,n9 (b::l)];simp
def fd(l:Q0e):List Int:=match l with
 |[]=>[]
 |a::r=>a::fd (diffs (a::r))
termination_by ⇑l
decreasing_by rw[n9];simp
noncomputable def vals(f:Int->Int):Nat->Int->List Int
 |0,_=>[]
 |n+1,x=>f x::vals f n (x+1)
def DV(n:Nat)(d:Int):List Int->Int->Int
 |[],_=>0
 |w::l,k=>w*C (k+n-1-d) n+DV n (d+1) l k
end K24
namespace LL
open L3 L4
def yz(a b:Q0e):List Int:=(a.zip b).map λp=>p.1+p.2
def Ll(l:Q0e):List Int:=0::l.dropLast
def Lk(n:Nat):List Int:=1::bw (max n 1-1) 0
def zer(n:Nat):List Int:=bw (max n 1) 0
section
variable(x:Q0a)
def Sh:Nat->List Int->Int->List Int
 |0,_,_=>Lk ⇑x
 |m+1,a,l=>(WB x a).foldl (λψ t=>yz ψ (if t<l then Ll (Sh m (UN a t) t) else Sh m (UN a t) t)) (zer ⇑x)
end
def shares(x:Q0a):List Int:=Sh x ⇑x [] 0
open K24
noncomputable def ev(k:Int):List Int->Int
 |[]=>0
 |a::l=>a+k*ev k l
def WC(s:Int)(l:Q0e):List Int:=((l++[0]).zip (0::l)).map λp:Int×Int=>s*p.1+p.2
noncomputable def UO(s t:Int):Nat->List Int
 |0=>[s]
 |n+1=>WC (t-n) (UO s t n)
def UP(n:Nat):List Int->Nat->List Int->List Int
 |[],_,ψ=>ψ
 |s::w,d,ψ=>UP n w (d+1) (yz ψ (UO s ((n:Int)-1-d) n))
def WD(x:Q0a):List Int:=fd (vals (DV ⇑x 0 (shares x)) (⇑x+1) 0)
end LL
namespace K25
open L3 L4 K24 LL
section
variable{x:Q0a}
def Qy(x:Q0a):List Int:=UP ⇑x (shares x) 0 (bw (⇑x+1) 0)
end
abbrev st(ns:Q0e)(x:Q0a)(d:Int)(v7 v8 a:Sv):bG:=[.ro (.i9 ns),.ro (bE x),.ri ⇑x,.ro (τ (shares x)),.ro (τ (WD x)),.ro (τ (Qy x)),.ri d,v7,v8,a]
end K25
namespace LL
open L3 L4 K24
noncomputable def dl:Int->List Int->Int
 |_,[]=>0
 |l,t::w=>(if t<l then 1 else 0)+dl t w
section
variable{x y:Q0a}
def Turned(x y:Q0a):Prop:=⇑y=⇑x /\∀a b:Int,0<=b->b<(⇑x:Int)->(a∈row y ((⇑x:Int)-1-b)↔(⇑x:Int)-1-a∈row x b)
def Turned.symm(h:Turned x y):Turned y x:=by show⟨h.1.symm,λa b j d=>?_⟩;rw[h.1] at d ⊢;have e:=h.2 ((⇑x:Int)-1-a) ((⇑x:Int)-1-b) ∅ ∅;rw[show(⇑x:Int)-1-((⇑x:Int)-1-b)=b by lia,show(⇑x:Int)-1-((⇑x:Int)-1-a)=a by lia] at e;show e.symm
def CO(x z:Q0a):Prop:=⇑z=⇑x /\∀a b:Int,0<=a->a<(⇑x:Int)->0<=b->b<(⇑x:Int)->(a∈row x b↔b∈row z a)
def CO.symm(h:CO x y):CO y x:=⟨h.1.symm,λa b l j h2 d=>by rw[h.1] at j d;show(h.2 b a h2 d l j).symm⟩
end
section
variable{x y z:Q0a}
structure Sd (x y z:Q0a):Prop where
 len:⇑z=⇑x+⇑y
 lo:∀t:Int,0<=t->t<(⇑x:Int) ->∀a,a∈row z t↔a∈row x t
 hi:∀t:Int,0<=t->t<(⇑y:Int) ->∀a,a∈row z (t+⇑x)↔a-⇑x∈row y t
 rx:∀t:Int,0<=t->t<(⇑x:Int) ->∀a∈row x t,0<=a/\a<(⇑x:Int)
 ry:∀t:Int,0<=t->t<(⇑y:Int) ->∀a∈row y t,0<=a/\a<(⇑y:Int)
structure Cb (x y:Q0a) (a b c:Q0e):Prop where
 lo:∀t:Int,0<=t->t<(⇑x:Int)->(t∈c↔t∈a)
 hi:∀t:Int,0<=t->t<(⇑y:Int)->(t+⇑x∈c↔t∈b)
structure Av (x y z:Q0a) (s t:Int):Prop where
 len:⇑z=⇑x+⇑y
 lo:∀a:Int,0<=a->a<(⇑x:Int) ->∀b,b∈row z (a+s)↔b-s∈row x a
 hi:∀a:Int,0<=a->a<(⇑y:Int) ->∀b,b∈row z (a+t)↔(s<=b/\b<s+⇑x)\/b-t∈row y a
 rx:∀a:Int,0<=a->a<(⇑x:Int) ->∀b∈row x a,0<=b/\b<(⇑x:Int)
 ry:∀a:Int,0<=a->a<(⇑y:Int) ->∀b∈row y a,0<=b/\b<(⇑y:Int)
 st:(s=0/\t=⇑x)\/(s=⇑y/\t=0)
end
theorem K7(j:a ρ=aa (.bl p))(d:p=af->b ρ=aa (.bl q))(h:p=ag->q=ag):g9 a b ρ=aa (.bl q):=by
 unfold g9;rw[j];show(if p=af then b ρ else aa (.bl ag))=_
 cases p with
 |true=>show d rfl
 |false=>rw[h rfl];rfl
end LL
namespace L4
open L3
noncomputable def UQ:List D->Option D
 |[.str x]=>if ⇑x<=1000 then aa (.str (iw x "<" " < ")) else ae
 |_=>ae
noncomputable def upS:List D->Option D
 |[.str x]=>if ⇑x<=1000 then aa (.str (rk x)) else ae
 |_=>ae
noncomputable def Lj(d:D)(a h:Option Int):Option D:=match d with
 |.str x=>if ⇑x<=1000 then aa (.str (gr x a h)) else ae
 |_=>ae
def oA(f:EF)(a j:OF):EF:=λρ=>(f ρ).bind λd=>(a ρ).bind λl=>(j ρ).bind λh=>Lj d l h
noncomputable def i5:D->D->Option D
 |.str x,.str y=>aa (.bl (fw y x 0 ⇑y 1).isEmpty)
 |_,_=>ae
noncomputable def uK:D->D->Option D
 |.str x,.str y=>match fw x y 0 ⇑x 1 with
  |i::_=>aa (.int (i:Int))
  |[]=>ae
 |_,_=>ae
def kM(a:Int)(n:Nat):List Int:=(ck n).map λk:Nat=>a+(k:Int)*4
noncomputable def K8:List D->Option (List D)
 |[.int i,.int j,.int k]=>if k=4/\i.natAbs<1000000/\j.natAbs<1000000 then aa ((kM i ((j-i+3)/4).toNat).map D.int) else ae
 |_=>ae
def rD(t:AF):AF:=λρ=>(t ρ).bind K8
def E9(a:Q0g):AF:=λ_=>aa (a.map D.str)
def len_app(x y:ai):⇑(x++y)=⇑x+⇑y:=by show(x++y).cps.size=_;rw[Ai,Yr];rfl
theorem sG(c:Nat):∀a:Q0g,(a.map (·.length)).sum<=⇑(cc ⟨#[c]⟩ a)
 |[]=>g_ _
 |[w]=>by simp[cc]
 |p::q::r=>by
  have d:=sG c (q::r);have e:⇑(cc ⟨#[c]⟩ (p::q::r))=⇑p+1+⇑(cc ⟨#[c]⟩ (q::r)):=by show⇑(p++⟨#[c]⟩++cc ⟨#[c]⟩ (q::r))=_;rw[len_app,len_app];rfl
  rw[e,bt,Bn];lia
def K9(x:ai):⇑(iw x "<" " < ")<=4*⇑x+6:=by have e:iw x "<" " < "=(" < ":ai).join (dh x ⟨#[60]⟩):=Ue x " < " 60;have d:=Ag " < " (dh x ⟨#[60]⟩);have h2:=sG 60 (dh x ⟨#[60]⟩);rw[ve] at h2;have h:=(pq x ⟨#[60]⟩).2;have a:⇑(" < ":ai)=3:=rfl;rw[e];rw[a] at d;lia
end L4
namespace zW
open L3 L4
def bA:kR:=bX 5 2
  (aG (d6 (bU cH) (kQ 2 3)
   (iS (eU LL.aH (aA bV (aA fE (bW 3)))) (sX (aU (aJ LL.aH (aA bV (aA fE (bW 3))))))))
  (aG (aY 4 (aB rQ (eO (aA (eO aE) aE)) bV))
  (aG (d6 (bU cH) (kQ 2 3)
   (iS (eU LL.bQ (aA fC (aA fE (bW 3)))) (aY 4 (aJ LL.bQ (aA fC (aA fE (bW 3)))))))
  (bJ fC))))
open LL KW UK
def short{x:Q0a}(a:Ord.Rows x)(h:⇑x<=9):∀r∈x,⇑r<=9:=λr d=>cy (Ord.Rows.short a d) h
def good(n:Nat)(P:List (Int×Int)):Bool:=P.all λp=>thing n p.1&&thing n p.2
def FA{n:Nat}{P:List (Int×Int)}(h:good n P=af):QG n P:=λp a=>by have:=ko.mp h p a;rw[fm,d8,d8] at this;show this
def B1:SF:=iS (eU LL.aH (aA bV (aA fE (bW 3)))) (sX (aU (aJ LL.aH (aA bV (aA fE (bW 3))))))
theorem LA{n:Nat}{Pd:D}:∀(P:List (Int×Int)) (d a:Sv),
  (good n P=ag->bC (kQ 2 3) B1 (P.map pairD) [.ri n,.ro Pd,d,a,.no]=.ex "NoThing") /\
  (good n P=af ->∃l j,bC (kQ 2 3) B1 (P.map pairD) [.ri n,.ro Pd,d,a,.no]=.nx [.ri n,.ro Pd,l,j,.no])
 |[],d,a=>⟨λh=>(by cases h),λ_=>⟨d,a,rfl⟩⟩
 |p::P,d,a=>by
  obtain⟨q,m⟩:=LA (n:=n) (Pd:=Pd) P (.ro (.int p.1)) (.ro (.int p.2));have v:good n (p::P)=((thing n p.1&&thing n p.2)&&good n P):=rfl;rw[v]
  cases h:(thing n p.1&&thing n p.2) with
  |false =>
   show⟨λ_=>?_,λz=>by cases z⟩;have e:B1 [.ri n,.ro Pd,.ri p.1,.ri p.2,.no]=.ex "NoThing":=G6 (rc3 rfl rfl rfl (by rw[G8 h];rfl));show(match B1 [.ri n,.ro Pd,.ri p.1,.ri p.2,.no] with | .nx ρ2=>bC (kQ 2 3) B1 (P.map pairD) ρ2|o=>o)=_;rw[e]
  |true =>
   rw[jt];have h':=Bool.and_eq_true_iff.mp h;have e:B1 [.ri n,.ro Pd,.ri p.1,.ri p.2,.no]=.nx [.ri n,.ro Pd,.ri p.1,.ri p.2,.no]:=by show KZ (rc3 rfl rfl rfl (by rw[lZ h'.1 h'.2];rfl)) ?_;unfold sX aU;rw[jC (x:=.int n) (y:=.int p.1) (z:=.int p.2) rfl rfl rfl (lZ h'.1 h'.2)];rfl
   have go:bC (kQ 2 3) B1 ((p::P).map pairD) [.ri n,.ro Pd,d,a,.no]=bC (kQ 2 3) B1 (P.map pairD) [.ri n,.ro Pd,.ri p.1,.ri p.2,.no]:=by show(match B1 [.ri n,.ro Pd,.ri p.1,.ri p.2,.no] with | .nx ρ2=>bC (kQ 2 3) B1 (P.map pairD) ρ2|o=>o)=_;rw[e]
   rw[go];show⟨q,m⟩
structure Φ (n:Nat) (Q:List (Int×Int)) (x:Q0a):Prop where
 len:⇑x=n
 rows:Ord.Rows x
 rng:QG n Q
 has:∀p∈Q,p.1∈row x p.2
 sub:∀a b:Int,0<=b->b<(n:Int)->a∈row x b->TC Q a b
def Φ.put{n:Nat}{Q:List (Int×Int)}{x:Q0a}(h:Φ n Q x){a b:Int}(v:thing n a=af)(q:thing n b=af)(K:kL x a b=ag):Φ n (Q++[(a,b)]) (LL.put x a b):=by
 have J:=h.len;subst J;obtain⟨I,F⟩:=d8.mp v;obtain⟨A,y⟩:=d8.mp q;have one:TC (Q++[(a,b)]) a b:=.one (by simp);have old:∀{c d:Int},TC Q c d->TC (Q++[(a,b)]) c d:=λt=>t.mono λp j=>dj _ j;show⟨iD x a b,K6 h.rows v q K,λp j=>?_,λp j=>?_,λc d o m L=>?_⟩
 .rcases dq.1 j with z|z
  .exact h.rng p z
  .rw [bx] at z;subst z;show⟨⟨I,F⟩,A,y⟩
 .rcases dq.1 j with z|z
  .have:=h.rng p z;show(iZ this.2.1 this.2.2).2 (.inl (h.has p z))
  .rw [bx] at z;subst z;show(iZ A y).2 (.inr ⟨.inl rfl,.inl rfl⟩)
 .rcases (iZ o m).1 L with z|⟨u,l⟩
  .exact old (h.sub c d o m z)
  .have t1:TC (Q++[(a,b)]) c b:=by
    rcases l with e|l
    .rw [e];show one
    .exact (old (h.sub c a I F l)).trans one
   rcases u with e|u
   .rw [e];show t1
   .exact t1.trans (old (h.sub b d o m u))
def Φ.loop{n:Nat}{Q:List (Int×Int)}{x:Q0a}(h:Φ n Q x){a b:Int}(o:thing n a=af)(d:kL x a b=af):∃c,TC (Q++[(a,b)]) c c:=by
 have l:=h.len;subst l;obtain⟨v,q⟩:=d8.mp o;have one:TC (Q++[(a,b)]) a b:=.one (by simp);unfold kL at d;rw[B_,decide_eq_true_eq,List.contains_iff_mem] at d;rcases d with e|m
 .refine ⟨b,?_⟩;rw[e] at one ⊢;show one
 .exact ⟨b,((h.sub b a v q m).mono λp j=>dj _ j).trans one⟩
theorem Φ.all{n:Nat}{Q:List (Int×Int)}{x:Q0a}(h:Φ n Q x){a b:Int}(t:TC Q a b):0<=b/\b<(n:Int)/\a∈row x b:=by
 have d:=h.len;subst d
 induction t with
 |one q=>show⟨(h.rng _ q).2.1,(h.rng _ q).2.2,h.has _ q⟩
 |more q _ ih=>show⟨ih.1,ih.2.1,KY h.rows ih.1 ih.2.1 ih.2.2 (h.has _ q)⟩
def Φ.nil(n:Nat):Φ n [] (bw n []):=by
 have j:∀d:Int,row (bw n ([]:Q0e)) d=[]:=λd=>by unfold row;rw[jc];split<;>rfl
 show⟨by simp,E7 (λd _ _=>by rw[j];show sy) (λc d _ _ h=>by rw[j] at h;cases h) (λc v d _ _ h _=>by rw[j] at h;cases h) (λd _ _ h=>by rw[j] at h;cases h),λp l=>(by cases l),λp l=>(by cases l),λa b _ _ h=>(by rw[j] at h;cases h)⟩
def B2:SF:=iS (eU LL.bQ (aA fC (aA fE (bW 3)))) (aY 4 (aJ LL.bQ (aA fC (aA fE (bW 3)))))
theorem UR{n:Nat}(K:n<=9){Pd:D}:∀(P Q:List (Int×Int)) (x:Q0a) (j d:Sv),good n P=af->Φ n Q x ->
  (bC (kQ 2 3) B2 (P.map pairD) [.ri n,.ro Pd,j,d,.ro (bE x)]=.ex "Looped" /\∃b,TC (Q++P) b b) \/
  (∃y I F,Φ n (Q++P) y/\bC (kQ 2 3) B2 (P.map pairD) [.ri n,.ro Pd,j,d,.ro (bE x)]=.nx [.ri n,.ro Pd,I,F,.ro (bE y)])
 |[],Q,x,j,d,_,h=>.inr ⟨x,j,d,by rw[il];show h,rfl⟩
 |p::P,Q,x,j,d,hg,h=>by
  have l:((thing n p.1&&thing n p.2)&&good n P)=af:=hg;rw[fm,fm] at l;obtain⟨⟨v,z⟩,L⟩:=l;have m:=h.len;have A:Q++p::P=(Q++[(p.1,p.2)])++P:=by simp
  cases hlp:kL x p.1 p.2 with
  |true =>
   show .inl ⟨?_,?_⟩
   .have e:B2 [.ri n,.ro Pd,.ri p.1,.ri p.2,.ro (bE x)]=.ex "Looped":=G6 (rc3 rfl rfl rfl (by rw[K4 (by rw[m];show v) (by rw[m];show z) hlp];rfl));show(match B2 [.ri n,.ro Pd,.ri p.1,.ri p.2,.ro (bE x)] with | .nx ρ2=>bC (kQ 2 3) B2 (P.map pairD) ρ2|o=>o)=_;rw[e]
   .obtain ⟨c,t⟩:=h.loop v hlp;show⟨c,by rw[A];show t.mono λq J=>dj _ J⟩
  |false =>
   have e:B2 [.ri n,.ro Pd,.ri p.1,.ri p.2,.ro (bE x)]=.nx [.ri n,.ro Pd,.ri p.1,.ri p.2,.ro (bE (LL.put x p.1 p.2))]:=by have e:=V8 (x:=x) (a:=p.1) (b:=p.2) ∅ (short h.rows ∅) (by rw[m];show v) (by rw[m];show z) hlp;show KZ (rc3 rfl rfl rfl (by rw[e];rfl)) (cP _ (jC rfl rfl rfl e) rfl)
   have go:bC (kQ 2 3) B2 ((p::P).map pairD) [.ri n,.ro Pd,j,d,.ro (bE x)]=bC (kQ 2 3) B2 (P.map pairD) [.ri n,.ro Pd,.ri p.1,.ri p.2,.ro (bE (LL.put x p.1 p.2))]:=by show(match B2 [.ri n,.ro Pd,.ri p.1,.ri p.2,.ro (bE x)] with | .nx ρ2=>bC (kQ 2 3) B2 (P.map pairD) ρ2|o=>o)=_;rw[e]
   rw[go,A];show UR K P (Q++[(p.1,p.2)]) (LL.put x p.1 p.2) _ _ L (h.put v z hlp)
def CP{n:Nat}(a:n<=9):rQ (.tup [.tup []]) (.int n)=aa (bE (bw n [])):=by show(if _/\_ then _ else _)=_;rw[Z_ ⟨by simp[g8];lia,∅⟩];unfold bE;simp[τ]
def CQ{n:Nat}{P:List (Int×Int)}(h:good n P=ag):bA [.int n,.tup (P.map pairD)]=.ex "NoThing":=by unfold bA;show G5 rfl (QD (nX _ rfl ((LA P .no .no).1 h)))
theorem CS{n:Nat}(a:n<=9){P:List (Int×Int)}(h:good n P=af):
  (bA [.int n,.tup (P.map pairD)]=.ex "Looped" /\∃b,TC P b b)\/(∃y,Φ n P y/\bA [.int n,.tup (P.map pairD)]=.ok (bE y)):=by
 obtain⟨l,j,d⟩:=(LA (n:=n) (Pd:=.tup (P.map pairD)) P .no .no).2 h;have st:∀o,bC (kQ 2 3) B2 (P.map pairD) [.ri n,.ro (.tup (P.map pairD)),l,j,.ro (bE (bw n []))]=o->(aG (d6 (bU cH) (kQ 2 3) B1) (aG (aY 4 (aB rQ (eO (aA (eO aE) aE)) bV)) (d6 (bU cH) (kQ 2 3) B2))) (bN 5 [.int n,.tup (P.map pairD)])=o:=λo e =>
  aQ _ (nX _ rfl d) (aQ _ (cP _ (aS (x:=.tup [.tup []]) (y:=.int n) rfl rfl (CP a)) rfl) (nX _ rfl e))
 rcases UR a P [] (bw n []) l j (Pd:=.tup (P.map pairD)) h (Φ.nil n) with⟨e,b,t⟩|⟨y,q,p,m,e⟩
 .refine .inl ⟨?_,b,t⟩;unfold bA;show G5 rfl (aQ _ (nX _ rfl d) (aQ _ (cP _ (aS (x:=.tup [.tup []]) (y:=.int n) rfl rfl (CP a)) rfl) (QD (nX _ rfl e))))
 .refine .inr ⟨y,m,?_⟩;unfold bA;show d7 rfl (aQ _ (nX _ rfl d) (aQ _ (cP _ (aS (x:=.tup [.tup []]) (y:=.int n) rfl rfl (CP a)) rfl) (aQ _ (nX _ rfl e) (eW rfl))))
def sH{l:List D}(a:⇑l<=1000000)(h:∀d∈l,d=.bl af\/d=.bl ag\/d=.str "refused"):kD 6 (.tup l):=⟨a,λd j=>by rcases h d j with rfl|rfl|rfl<;>trivial⟩
def Li{f:EF}{i j:Nat}{ρ:bG}{p q:D}(h:f (fB ρ)=aa (.tup [p,q])):G4 (aU f) (kQ i j) ρ=.nx ((ρ.set i (.ro p)).set j (.ro q)):=by unfold G4 aU;rw[h];rfl
end zW
namespace K06
open L3 L4 LL
def BP(a:Int):ai:=⟨#[48+a.toNat]⟩
def F9(a:Int):Prop:=0<=a/\a<10
def QJ:∀n:Nat,n<10->ll (toString (n:Int))=(⟨#[48+n]⟩:ai):=by decide+kernel
def l0{a:Int}(h:F9 a):kZ [.int a]=aa (.str (BP a)):=by unfold kZ;show(if a.natAbs<1900 then aa (D.str (ll (toString a))) else ae)=_;have d:=h.1;have h2:=h.2;rw[Z_ ∅];have:=QJ a.toNat ∅;rw[Bz d] at this;rw[this];rfl
theorem yy{c:Nat}:∀{p q X Y:List Nat},c∉p->c∉q->p++c::X=q++c::Y->p=q/\X=Y
 |[],[],X,Y,_,_,h=>⟨rfl,(sx h).2⟩
 |[],b::q,X,Y,_,hq,h=>Zw (sx h).1 λe=>hq (by rw[e];show b_)
 |a::p,[],X,Y,hp,_,h=>Zw (sx h).1 λe=>hp (by rw[<- e];show b_)
 |a::p,b::q,X,Y,hp,hq,h=>by obtain⟨m,l⟩:=sx h;obtain⟨j,d⟩:=yy (λz=>hp (cq _ z)) (λz=>hq (cq _ z)) l;show⟨by rw[m,j],d⟩
def FC{a b:ai}(h:a.cps.toList=b.cps.toList):a=b:=by obtain⟨⟨a⟩⟩:=a;obtain⟨⟨b⟩⟩:=b;have:a=b:=h;rw[this]
def k8(c:Nat)(p q:ai)(r:Q0g):(cc ⟨#[c]⟩ (p::q::r)).cps.toList=p.cps.toList++c::(cc ⟨#[c]⟩ (q::r)).cps.toList:=by show(p++⟨#[c]⟩++cc ⟨#[c]⟩ (q::r)).cps.toList=_;rw[Ai,Ai,Yp,Yp,km];rfl
theorem zX{c:Nat}:∀{ps qs:Q0g},ps≠[]->qs≠[]->(∀p∈ps,c∉p.cps.toList)->(∀q∈qs,c∉q.cps.toList)->(cc ⟨#[c]⟩ ps).cps.toList=(cc ⟨#[c]⟩ qs).cps.toList->ps=qs
 |[],_,h,_,_,_,_=>Zw rfl h
 |_::_,[],_,h,_,_,_=>Zw rfl h
 |[p],[q],_,_,_,_,h=>by rw[FC (a:=p) (b:=q) h]
 |[p],q::q'::r,_,_,hp,_,h=>by rw[k8] at h;show Zw (by rw[show(cc ⟨#[c]⟩ [p])=p from rfl] at h;rw[h];simp) (hp p b_)
 |p::p'::r,[q],_,_,_,hq,h=>by rw[k8] at h;show Zw (by rw[show(cc ⟨#[c]⟩ [q])=q from rfl] at h;rw[<- h];simp) (hq q b_)
 |p::p'::r,q::q'::s,_,_,hp,hq,h=>by rw[k8,k8] at h;obtain⟨l,j⟩:=yy (hp p b_) (hq q b_) h;rw[FC l,zX (ps:=p'::r) (qs:=q'::s) (λz=>by cases z) (λz=>by cases z) (λa d=>hp a (cq _ d)) (λa d=>hq a (cq _ d)) j]
theorem CT{c:Nat}{a:Q0g}(d:a≠[])(h:∀w∈a,c∉w.cps.toList):dh (gi ⟨#[c]⟩ a) ⟨#[c]⟩=a:=by
 have e:gi ⟨#[c]⟩ a=cc ⟨#[c]⟩ a:=Ah _ _;rw[e];have j:=ve (cc ⟨#[c]⟩ a) ⟨#[c]⟩;show zX (c:=c) (λz=>?_) d (StrLaws.split_free _ c) h (by rw[j]);rw[z] at j
 cases a with
 |nil=>show d rfl
 |cons w r =>
  have:=(pq (cc ⟨#[c]⟩ (w::r)) ⟨#[c]⟩).1;rw[z] at this;show Zw this ⋯
theorem strs_map:∀l:Q0g,rT (l.map D.str)=aa l
 |[]=>rfl
 |x::l=>by rw[bt];show(rT (l.map D.str)).map (x :: ·)=_;rw[strs_map l];rfl
end K06
namespace K07
open L3 L4
def bA:kR:=bX 5 2
  (aG (d6 (bU cH) (kQ 2 3)
   (iS (eU LL.aH (aA bV (aA fE (bW 3)))) (sX (aU (aJ LL.aH (aA bV (aA fE (bW 3))))))))
  (aG (aY 4 (aB rQ (eO (aA (eO aE) aE)) bV))
  (aG (d6 (bU cH) (kQ 2 3)
   (iS (eU LL.bQ (aA fC (aA fE (bW 3)))) (aY 4 (aJ LL.bQ (aA fC (aA fE (bW 3)))))))
  (bJ fC))))
def c7:kR:=bX 1 1
  (bJ (g9 (aB qV (bL fF (bW 0)) (eI 1)) (aB KA bV (eC (.str "0123456789")))))
def dG:kR:=bX 1 1
  (bJ (g9 (aB qV (bL fF (bW 0)) (eI 3)) (g9 (aJ c7 (aA (aB dE bV (eI 0)) aE)) (g9 (aB qV (aB dE bV (eI 1)) (eC (.str "<"))) (aJ c7 (aA (aB dE bV (eI 2)) aE))))))
def dB:kR:=bX 4 1
  (aG (aY 1 (aB splitM bV (eC (.str " "))))
  (aG (aY 2 (lT cH (oE (eI 1)) jZ))
  (aG (gH (nO (gF (tV (aJ c7 (aA (aB dC cH (eI 0)) aE)))) (gF (tV (bL allM (aA (dD 1 [] (bU fE) (g1 0) bY (aJ dG (bW 0))) aE)))))
   (iU (aA (eC (.str "a text that has not the form of an order")) aE) "NoOrder")
   cZ)
  (aG (aY 3 (bL dI (aA (dD 1 [] (bU fE) (g1 0) bY (eO (aA (bL k6 (aA (aB dE bV (eI 0)) aE)) (aA (bL k6 (aA (aB dE bV (eI 2)) aE)) aE)))) aE)))
  (iS (eU bA (aA (bL k6 (aA (aB dC cH (eI 0)) aE)) (bW 3))) (bJ (aJ bA (aA (bL k6 (aA (aB dC cH (eI 0)) aE)) (bW 3)))))))))
def gZ:kR:=bX 2 1
  (CB (iS (E3 (eC (.str "told")) (eU dB (bW 0))) (bJ (eO (aA (eC (.str "told")) (aA (aJ dB (bW 0)) aE))))) (λc=>if c="NoThing" then aa (.tup [.str "refused",.bl af,.bl ag,.bl ag,.bl ag,.bl ag,.bl ag,.bl ag,.bl ag,.bl ag,.bl ag,.bl ag,.bl ag,.bl ag,.bl af]) else if c="Looped" then aa (.tup [.str "refused",.bl ag,.bl af,.bl ag,.bl ag,.bl ag,.bl ag,.bl ag,.bl ag,.bl ag,.bl ag,.bl ag,.bl ag,.bl ag,.bl af]) else if c="NoOrder" then aa (.tup [.str "refused",.bl ag,.bl ag,.bl af,.bl ag,.bl ag,.bl ag,.bl ag,.bl ag,.bl ag,.bl ag,.bl ag,.bl ag,.bl ag,.bl af]) else ae))
def c8:kR:=bX 2 1
  (aG (aY 1 (eC (.str "NoThing Looped NoOrder NoNumber TooGreat NoGoing NoRow NoFilling NotLoose NotForest")))
  (aG (aY 1 (aB cB cH (eC (.str " NoShape NoName NoLine"))))
  (bJ (aB aX (aB aX (eO (aA (eC (.str "refused")) aE)) (bL dI (aA (dD 1 [0] (bU (aB splitM cH (eC (.str " ")))) (g1 0) bY (aB qV bV cH)) aE))) (eO (aA (eC (.bl af)) aE))))))
def k9:kR:=bX 4 1
  (aG (aY 1 (eC (.str "0123456789")))
  (aG (gH (nO (tV (aB EV (aB dH (bL fF (bW 0)) (eI 4)) (eI 1))) (tV (aB i5 (aB dE bV (eI 0)) cH)))
   (bJ (eC .non))
   cZ)
  (aG (j0 2 (cV aE))
  (aG (d6 (rD (aA (eI 1) (aA (bL fF (bW 0)) (aA (eI 4) aE)))) (qW 3)
   (aG (gH (nO (tV (aB EV (aB dE bV kT) (eC (.str " ")))) (nO (tV (aB i5 (aB dE bV (aB aX kT (eI 1))) cH)) (nO (tV (aB EV (aB dE bV (aB aX kT (eI 2))) (eC (.str "<")))) (tV (aB i5 (aB dE bV (aB aX kT (eI 3))) cH)))))
    (bJ (eC .non))
    cZ)
   (sX (mQ 2 gG (aU (eO (aA (aB uK cH (aB dE bV (aB aX kT (eI 1)))) (aA (aB uK cH (aB dE bV (aB aX kT (eI 3)))) aE))))))))
  (bJ (eO (aA (aB uK cH (aB dE bV (eI 0))) (bW 2))))))))
def oB:kR:=bX 5 1
  (aG (aY 1 (aJ k9 (bW 0)))
  (aG (gH (tV (aB JW cH (eC .non)))
   (bJ (aJ c8 (aA (eC (.str "NoOrder")) aE)))
   cZ)
  (aG (G4 (aU cH) (kQ 2 3))
  (aG (gH (tV (bL anyM (aA (dD 2 [2] (bU kT) (g2 0 1) bY (BW (aB JV bV fE) (aB JV cH fE))) aE)))
   (bJ (aJ c8 (aA (eC (.str "NoThing")) aE)))
   cZ)
  (aG (aY 4 (aJ LL.eF (aA fE (bW 3))))
  (aG (gH (tV (aB JW fC (eC .non)))
   (bJ (aJ c8 (aA (eC (.str "Looped")) aE)))
   cZ)
  (bJ (eO (aA (eC (.str "told")) (bW 4))))))))))
def oC:kR:=bX 3 1
  (aG (aY 1 (eC (.str "abcdefghijklmnopqrstuvwxyz")))
  (aG (aY 2 (aB cB (aB cB (aB cB (aB cB (eC (.str " !\"#$&'()*+,-./0123456789:;<=>?@")) (bL upS (bW 1))) (eC (.str "[\\]^_`"))) cH) (eC (.str "{|}~"))))
  (bJ (aB dE fE (aB dH (aB aX (aB mulM (eI 64) (aB dC bV (eI 0))) (aB dC bV (eI 1))) (bL fF (bW 2)))))))
def eG:kR:=bX 9 2
  (aG (aY 2 (aB dH (aB dC cH (eI 1)) (aB aX (bL fF (bW 0)) (eI 1))))
  (aG (aY 3 (aJ oC (aA (lT cH (oE (eI 2)) jZ) aE)))
  (aG (aY 4 (aB splitM bV (eC (.str " "))))
  (aG (aY 5 (aB dH (aB dC cH (eI 1)) (bL eP (bW 4))))
  (aG (aY 6 (aB cB (aB cB (bL kZ (aA (aB dH (aB dC cH (eI 2)) (eI 10)) aE)) (eC (.str "<"))) (bL kZ (aA (aB dH (aB dC cH (eI 3)) (eI 10)) aE))))
  (aG (aY 7 (cV (aA (aB cB (aB cB (oA bV jZ (oE fE)) kT) (oA bV (oE fE) jZ)) (aA (aB cB (oA bV jZ (oE fE)) (oA bV (oE (aB aX fE (eI 1))) jZ)) (aA (aB cB (aB cB (oA bV jZ (oE fE)) kT) (oA bV (oE (aB aX fE (eI 1))) jZ)) aE)))))
  (aG (aY 7 (aB aX y7 (cV (aA (aB joinM (eC (.str " ")) (aB aX (lT fC jZ (oE w9)) (lT fC (oE (aB aX w9 (eI 1))) jZ))) (aA (aB joinM (eC (.str " ")) (aB aX (aB aX (lT fC jZ (oE w9)) (lT (lT fC (oE w9) jZ) jZ (oE (eI 1)))) (lT fC (oE w9) jZ))) aE)))))
  (aG (aY 7 (aB aX y7 (cV (aA (aB joinM (eC (.str " ")) (J9 fC)) (aA (aB joinM (eC (.str " ")) (aB aX (aB aX (lT fC jZ (oE (aB aX w9 (eI 1)))) (cV (bW 6))) (lT fC (oE (aB aX w9 (eI 1))) jZ))) (aA (aB cB (eC (.str " ")) bV) aE))))))
  (aG (aY 8 (aB aX (aB aX (lT fC jZ (oE w9)) (cV (aA (bL UQ (aA (aB dC fC w9) aE)) aE))) (lT fC (oE (aB aX w9 (eI 1))) jZ)))
  (bJ (aB dC (aB aX y7 (cV (aA (aB cB bV (eC (.str " "))) (aA (aB cB (bL kZ (aA (aB dH (aB dC cH (eI 2)) (eI 10)) aE)) (oA bV (oE (eI 1)) jZ)) (aA (aB joinM (eC (.str " ")) Z6) aE))))) (aB dH (aB dC cH (eI 0)) (eI 11)))))))))))))
def lA:kR:=bX 10 3
  (aG (aY 3 (cV (E9 ["","0","9","10"," ","0 0<0","1 0<0","2 0<1 1<0","2 0<2","3 0<1 1<2 2<0 0<5","2 0<1  ","a","-1","2 0>1","2 1<0 0","3 0<1,1<2","00","2 0<1 1<0 x","1 1<1","3 2<1 2<1 2<1","2 0<2 0>1","1 0<0 0<5,","3 0<1 0<1 0<1 "])))
  (aG (aY 4 (aJ LL.gQ (aA (aJ LL.jI (aA bV (bW 1))) (aA (eI 12) (bW 2)))))
  (aG (gH (tV (aB qV (aB dH (aB dC fC (eI 0)) (eI 8)) (eI 1)))
   (bJ (aB dC kT (aB dH (aB dC fC (eI 1)) (eI 23))))
   cZ)
  (aG (aY 5 (aJ LL.lV (aA bV (aA (aB aX cH (eI 1)) (aA (eI 9) (aA (aB aX fE (eI 20011)) aE))))))
  (aG (j0 6 (cV aE))
  (aG (d6 (bU (aJ LL.iC (bW 5))) (kQ 7 8)
   (gH (gF (tV (bL anyM (aA (dD 1 [7,5,8] (bP (aA (bL eP (bW 5)) aE)) (g1 0) bY (g9 (aB (nP ag) cH (aB dC fE bV)) (aB (nP ag) bV (aB dC fE kT)))) aE))))
    (sX (J8 6 (aB dH (aB dC fC (eI 2)) (aB aX (bL eP (bW 6)) (eI 1))) (aB cB (aB cB (bL kZ (bW 7)) (eC (.str "<"))) (bL kZ (bW 8)))))
    cZ))
  (aG (jH 9 (qG (aB joinM (eC (.str " ")) (aB aX (cV (aA (bL kZ (aA (bL eP (bW 5)) aE)) aE)) uU))))
  (aG (gH (tV (aB J4 (aB dH (aB dC fC (eI 0)) (eI 8)) (eI 1)))
   (aY 9 (aJ eG (aA UD (aA (lT fC (oE (eI 3)) (oE (eI 7))) aE))))
   cZ)
  (aG (gH (tV (aB J4 (aB dH (aB dC fC (eI 0)) (eI 8)) (eI 6)))
   (aY 9 (aJ eG (aA UD (aA (lT fC (oE (eI 7)) (oE (eI 11))) aE))))
   cZ)
  (bJ UD))))))))))
def u9:kR:=bX 4 1
  (aG (aY 1 (aJ lA (aA (aK 0) (aA (eC (.int 0)) (aA (eC (.int 100003)) aE)))))
  (aG (aY 2 (aJ lA (aA (aK 0) (aA (eC (.int 3)) (aA (eC (.int 400009)) aE)))))
  (aG (aY 3 (aJ oB (aA (aK 1) aE)))
  (aG (gH (nO (gF (tV (aJ (LL.cN 6) (aA (aJ gZ (aA (aK 1) aE)) (aA (aK 3) aE))))) (gF (tV (aJ (LL.cN 6) (aA (aJ gZ (aA (aK 2) aE)) (aA (aJ oB (aA (aK 2) aE)) aE))))))
   (bJ (eC (.bl ag)))
   cZ)
  (bJ (aJ (LL.cN 6) (aA (aJ gZ (aA (aK 1) aE)) (aA (aK 3) aE))))))))
open LL K06
abbrev FS:ai:="0123456789"
def isF(c:Nat):Bool:=Zv (48<=c/\c<=57)
def LB:∀n:Nat,n<10->fw FS ⟨#[48+n]⟩ 0 ⇑FS 1=[n]:=by decide+kernel
def xI{c:Nat}(h:isF c=af):fw FS ⟨#[c]⟩ 0 ⇑FS 1=[c-48]:=by
 have h:=of_decide_eq_true h;have:=LB (c-48) ∅
 rwa [show 48+(c-48)=c by lia] at this
def Qx:∀i:Nat,i<10->FS.cps.extract i (i+1)=#[48+i]:=by decide+kernel
theorem LC{c:Nat}(h:isF c=ag):fw FS ⟨#[c]⟩ 0 ⇑FS 1=[]:=by
 have h:=of_decide_eq_false h
 cases e:fw FS ⟨#[c]⟩ 0 ⇑FS 1 with
 |nil=>rfl
 |cons i r =>
  exfalso;obtain⟨a,h2⟩:=StrLaws.occ_spec FS ⟨#[c]⟩ 0 ⇑FS 1 i (by rw[e];show b_);have a:i+1<=10:=a;have h2:(FS.cps.extract i (i+1) == #[c])=af:=h2;rw[Qx i ∅] at h2;have:48+i=c:=by simpa using h2
  lia
theorem xJ(c:Nat):i5 (.str ⟨#[c]⟩) (.str FS)=aa (.bl (!isF c)):=by
 show aa (D.bl (fw FS ⟨#[c]⟩ 0 ⇑FS 1).isEmpty)=_
 cases h:isF c with
 |true=>rw[xI h];rfl
 |false=>rw[LC h];rfl
theorem WH(c:Nat):KA (.str ⟨#[c]⟩) (.str FS)=aa (.bl (isF c)):=by
 show aa (D.bl (!(fw FS ⟨#[c]⟩ 0 ⇑FS 1).isEmpty))=_
 cases h:isF c with
 |true=>rw[xI h];rfl
 |false=>rw[LC h];rfl
def CU{c:Nat}(h:isF c=af):uK (.str FS) (.str ⟨#[c]⟩)=aa (.int ((c:Int)-48)):=by show(match fw FS ⟨#[c]⟩ 0 ⇑FS 1 with|i::_=>aa (D.int (i:Int))|[]=>ae)=_;rw[xI h];have:=of_decide_eq_true h;show aa (D.int ((c-48:Nat):Int))=_;congr 2;lia
theorem xK{c:Nat}(h:isF c=af):k6 [.str ⟨#[c]⟩]=aa (.int ((c:Int)-48)):=Z_ (of_decide_eq_true h)
noncomputable def eX:List Nat->Option (List (Int×Int))
 |[]=>aa []
 |w::a::l::b::r=>if w=32/\isF a=af/\l=60/\isF b=af then(eX r).map (((a:Int)-48,(b:Int)-48):: ·) else ae
 |_=>ae
def G9:List Nat->Option (Int×List (Int×Int))
 |[]=>ae
 |c::r=>if isF c=af then(eX r).map ((c:Int)-48,·) else ae
noncomputable def rE(w:ai):Bool:=match w.cps.toList with
 |[a,l,b]=>isF a&&(Zv (l=60)&&isF b)
 |_=>ag
noncomputable def FD(w:ai):Bool:=match w.cps.toList with
 |[c]=>isF c
 |_=>ag
def LD{w:ai}{l:List Nat}(h:w.cps.toList=l):w=⟨l.toArray⟩:=FC (by rw[h])
def mY(w:ai):⇑w=⇑w.cps.toList:=by show w.cps.size=_;simp
def pN{w:ai}(hw:⇑w<=g8):c7 [.str w]=.ok (.bl (FD w)):=by
 unfold c7;have d:fF [.str w]=aa (.int ⇑w):=Z_ hw;show d7 rfl (eW (K7 (p:=Zv ((⇑w:Int)=1)) (binI (x:=⇑w) (y:=1) (dF (x:=.str w) rfl d) rfl cM) (λh=>?_) λh=>?_))
 .have h:=of_decide_eq_true h;obtain⟨c,e⟩:∃c,w.cps.toList=[c]:=by
   have:⇑w.cps.toList=1:=by rw[<- mY];lia
   match w.cps.toList,this with
   |[c],_=>show⟨c,rfl⟩
  have a:=LD e;show aS (x:=.str w) (y:=.str FS) rfl rfl ?_;unfold FD;rw[e];subst a;show WH c
 .have h:=of_decide_eq_false h;unfold FD;split
  .rename_i c e;have:⇑w=1:=by rw[mY,e];rfl
   lia
  .rfl
def lB{w:ai}(hw:⇑w<=g8){i:Nat}{c:Nat}(h:w.cps.toList[i]?=aa c):dE (.str w) (.int (i:Int))=aa (.str ⟨#[c]⟩):=by show(if ⇑w<=g8 then(uG w.cps.toList (i:Int)).map (λc=>D.str ⟨#[c]⟩) else ae)=_;rw[Z_ hw,cC h];rfl
def US(c:Nat):Zv ((⟨#[c]⟩:ai)="<")=Zv (c=60):=by
 by_cases h:c=60
 .subst h;rfl
 .rw [Zy h,Zy];intro z;have:(#[c]:Array Nat)=#[60]:=congrArg Ug z;show h ↑this
def Rj(c:Nat):Zv ((⟨#[c]⟩:ai)=" ")=Zv (c=32):=by
 by_cases h:c=32
 .subst h;rfl
 .rw [Zy h,Zy];intro z;have:(#[c]:Array Nat)=#[32]:=congrArg Ug z;show h ↑this
def UT(c:Nat):⇑(⟨#[c]⟩:ai)<=g8:=ma rfl
theorem zY{w:ai}(hw:⇑w<=g8):dG [.str w]=.ok (.bl (rE w)):=by
 unfold dG;have n:fF [.str w]=aa (.int ⇑w):=Z_ hw;show d7 rfl (eW (K7 (p:=Zv ((⇑w:Int)=3)) (aS (x:=.int ⇑w) (y:=.int 3) (dF (x:=.str w) rfl n) rfl cM) (λh=>?_) λh=>?_))
 .have h:=of_decide_eq_true h;obtain⟨a,l,b,e⟩:∃a l b,w.cps.toList=[a,l,b]:=by
   have:⇑w.cps.toList=3:=by rw[<- mY];lia
   match w.cps.toList,this with
   |[a,l,b],_=>show⟨a,l,b,rfl⟩
  have v:=lB hw (i:=0) (c:=a) (by rw[e];rfl);have q:=lB hw (i:=1) (c:=l) (by rw[e];rfl);have o:=lB hw (i:=2) (c:=b) (by rw[e];rfl);have m:rE w=(isF a&&(Zv (l=60)&&isF b)):=by unfold rE;rw[e]
  rw[m];show K7 (p:=isF a) (dR (aS (x:=.str w) (y:=.int 0) rfl rfl v) (pN (UT a))) (λj=>?_) λj=>by rw[j];rfl
  rw[j,jt];show K7 (p:=Zv (l=60)) (aS (aS (x:=.str w) (y:=.int 1) rfl rfl q) (y:=.str "<") rfl (by rw[fW,US])) (λd=>?_) λd=>by rw[d];rfl
  rw[d,jt];show dR (aS (x:=.str w) (y:=.int 2) rfl rfl o) (pN (UT b))
 .have h:=of_decide_eq_false h;unfold rE;split
  .rename_i a l b e;have:⇑w=3:=by rw[mY,e];rfl
   lia
  .rfl
def iE(a:Q0g):List Nat:=a.flatMap λw=>32::w.cps.toList
noncomputable def pairOf(w:ai):Int×Int:=match w.cps.toList with
 |[a,_,b]=>((a:Int)-48,(b:Int)-48)
 |_=>(0,0)
noncomputable def g0(w:ai):Int:=match w.cps.toList with
 |[c]=>(c:Int)-48
 |_=>0
theorem l4(p:ai):∀a:Q0g,(cc ⟨#[32]⟩ (p::a)).cps.toList=p.cps.toList++iE a
 |[]=>by rw[show cc ⟨#[32]⟩ [p]=p from rfl];simp[iE]
 |q::r=>by rw[k8,l4 q r];rfl
def sI{w:ai}(h:rE w=af):∃a b,w.cps.toList=[a,60,b]/\isF a=af/\isF b=af:=by
 unfold rE at h;split at h
 .rename_i a l b e;erw[fm,decide_eq_true_eq] at h;obtain⟨j,rfl,d⟩:=h;show⟨a,b,e,j,d⟩
 .cases h
def xM{w:ai}(h:FD w=af):∃c,w.cps.toList=[c]/\isF c=af:=by
 unfold FD at h;split at h
 .rename_i c e;show⟨c,e,h⟩
 .cases h
theorem lC:∀d:Q0g,(∀w∈d,rE w=af)->eX (iE d)=aa (d.map pairOf)
 |[],_=>rfl
 |w::r,h=>by
  obtain⟨a,b,e,n,m⟩:=sI (h w b_);have j:=lC r λx l=>h x (cq _ l);have o:iE (w::r)=32::a::60::b::iE r:=by show 32::w.cps.toList++iE r=_;rw[e];rfl
  have p:pairOf w=((a:Int)-48,(b:Int)-48):=by unfold pairOf;rw[e]
  rw[o,bt,p];show(if 32=32/\isF a=af/\60=60/\isF b=af then(eX (iE r)).map (((a:Int)-48,(b:Int)-48):: ·) else ae)=_;rw[Z_ ⟨rfl,n,rfl,m⟩,j];rfl
theorem mZ:∀(l:List Nat) (P:List (Int×Int)),eX l=aa P ->∃j,l=iE j/\(∀w∈j,rE w=af)/\P=j.map pairOf
 |[],P,h=>by cases h;show⟨[],rfl,λw hw=>(nomatch hw),rfl⟩
 |[_],P,h=>by cases h
 |[_,_],P,h=>by cases h
 |[_,_,_],P,h=>by cases h
 |w::a::l::b::r,P,h=>by
  have d:(if w=32/\isF a=af/\l=60/\isF b=af then(eX r).map (((a:Int)-48,(b:Int)-48):: ·) else ae)=aa P:=h;by_cases c:w=32/\isF a=af/\l=60/\isF b=af
  .rw [Z_ c] at d;obtain⟨rfl,o,rfl,n⟩:=c
   cases e:eX r with
   |none=>rw[e] at d;cases d
   |some P' =>
    rw[e] at d;cases d;obtain⟨j,p,h2,rfl⟩:=mZ r P' e;show⟨⟨#[a,60,b]⟩::j,by rw[p];rfl,λx m=>?_,rfl⟩;rcases bh.mp m with rfl|m
    .show (isF a&&(Zv (60=60)&&isF b))=af;rw[o,n];rfl
    .exact h2 x m
  .rw [Zz c] at d;cases d
def LF{w:ai}(h:rE w=af):(32:Nat)∉w.cps.toList:=by obtain⟨a,b,e,j,d⟩:=sI h;have j:=of_decide_eq_true j;have d:=of_decide_eq_true d;rw[e];erw[bh,i_,or_false];lia
def LG{w:ai}(h:FD w=af):(32:Nat)∉w.cps.toList:=by obtain⟨a,e,d⟩:=xM h;have d:=of_decide_eq_true d;rw[e];erw[bh,i_,or_false];lia
def BQ(w:ai)(a:Q0g):Bool:=FD w&&a.all rE
theorem words(z:ai):∃w a,dh z " "=w::a/\cc ⟨#[32]⟩ (w::a)=z/\G9 z.cps.toList=if BQ w a=af then aa (g0 w,a.map pairOf) else ae:=by
 have o:=(pq z " ").1;have j:=ve z ⟨#[32]⟩
 cases e:dh z " " with
 |nil=>rw[e] at o;show Zw o ⋯
 |cons w a =>
  have j:cc ⟨#[32]⟩ (w::a)=z:=by rw[<- e];show j
  show⟨w,a,rfl,j,?_⟩;have F:z.cps.toList=w.cps.toList++iE a:=by rw[<- j,l4]
  by_cases ho:BQ w a=af
  .rw [Z_ ho];unfold BQ at ho;rw[fm,ko] at ho;obtain⟨c,v,h⟩:=xM ho.1;rw[F,v];show(if isF c=af then(eX (iE a)).map ((c:Int)-48,·) else ae)=_;rw[Z_ h,lC a ho.2];have:g0 w=(c:Int)-48:=by unfold g0;rw[v]
   rw[this];rfl
  .rw [Zz ho]
   cases d:G9 z.cps.toList with
   |none=>rfl
   |some q =>
    exfalso;apply ho
    cases hz:z.cps.toList with
    |nil=>rw[hz] at d;cases d
    |cons c r =>
     rw[hz] at d;have d:(if isF c=af then(eX r).map ((c:Int)-48,·) else ae)=aa q:=d;by_cases h:isF c=af
     .rw [Z_ h] at d
      cases hr:eX r with
      |none=>rw[hr] at d;cases d
      |some P =>
       obtain⟨vs,A,m,_⟩:=mZ r P hr;have n:FD ⟨#[c]⟩=af:=h;have y:z=gi ⟨#[32]⟩ (⟨#[c]⟩::vs):=by have:gi ⟨#[32]⟩ (⟨#[c]⟩::vs)=cc ⟨#[32]⟩ (⟨#[c]⟩::vs):=Ah _ _;rw[this];show FC ?_;rw[hz,l4,A];rfl
       have p:dh z " "=⟨#[c]⟩::vs:=by
        rw[y];show CT (c:=32) (λz=>by cases z) λx l=>?_;rcases bh.mp l with rfl|l
        .exact LG n
        .exact LF (m x l)
       rw[e] at p;cases p;show(FD _&&_)=af;rw[n,jt,ko];show m
     .rw [Zz h] at d;cases d
theorem LH{z w:ai}{d:Q0g}(j:cc ⟨#[32]⟩ d=z)(hw:w∈d):⇑w<=⇑z:=by
 have h:=sG 32 d;rw[j] at h;show cy ?_ h
 clear h j
 induction d with
 |nil=>cases hw
 |cons a r ih =>
  rw[bt,Bn];rcases bh.mp hw with rfl|hw
  .omega
  .have:=ih hw;lia
def sJ{z w:ai}{a:Q0g}(e:dh z " "=w::a):⇑a<=⇑z+1:=by have h:=(pq z " ").2;rw[e,cn] at h;lia
def Ri{w:ai}(hw:⇑w<=g8)(h:rE w=af):eO (aA (bL k6 (aA (aB dE bV (eI 0)) aE)) (aA (bL k6 (aA (aB dE bV (eI 2)) aE)) aE)) [aa (.str w)]=aa (pairD (pairOf w)):=by
 obtain⟨a,b,e,j,d⟩:=sI h;have l:pairOf w=((a:Int)-48,(b:Int)-48):=by unfold pairOf;rw[e]
 rw[l];show K0 (dF (aS (x:=.str w) (y:=.int 0) rfl rfl (lB hw (i:=0) (by rw[e];rfl))) (xK j)) (dF (aS (x:=.str w) (y:=.int 2) rfl rfl (lB hw (i:=2) (by rw[e];rfl))) (xK d))
def FE{ds:List D}{d:D}:slM (.lst (d::ds)) (aa 1) ae=aa (.lst ds):=by
 show aa (D.lst (G2 (d::ds) (aa 1) ae))=_;unfold G2;rw[cn];have h:jB (⇑ds+1) 0 (aa 1)=1:=by unfold jB;simp
 have a:jB (⇑ds+1) (⇑ds+1) ae=⇑ds+1:=rfl;rw[h,a];show aa (D.lst (ds.take (⇑ds+1-1)))=_;rw[Nat.add_sub_cancel,List.take_length]
section
variable{z w:ai}{ws:Q0g}
def WJ(a:⇑z<=3000)(e:dh z " "=w::ws)(j:cc ⟨#[32]⟩ (w::ws)=z){x:ai}(d:x∈w::ws):⇑x<=g8:=cy (LH j d) (cy a (ma rfl))
def FF(a:⇑z<=3000)(e:dh z " "=w::ws)(j:cc ⟨#[32]⟩ (w::ws)=z):aB splitM bV (eC (.str " ")) (fB (bN 4 [.str z]))=aa (.lst ((w::ws).map D.str)):=by show aS (x:=.str z) (y:=.str " ") rfl rfl ?_;show(if ⇑z+2<=g8/\(⇑(" ":ai) == 0)=ag then aa (D.lst ((dh z " ").map D.str)) else ae)=_;rw[Z_ ⟨cy (Nat.add_le_add_right a 2) (ma rfl),rfl⟩,e]
def LI(a:⇑z<=3000)(e:dh z " "=w::ws)(j:cc ⟨#[32]⟩ (w::ws)=z):(nO (gF (tV (aJ c7 (aA (aB dC cH (eI 0)) aE)))) (gF (tV (bL allM (aA (dD 1 [] (bU fE) (g1 0) bY (aJ dG (bW 0))) aE))))) (aV [.ro (.str z),.ro (.lst ((w::ws).map D.str)),.ro (.lst (ws.map D.str)),.no])=aa (!BQ w ws):=by
 have o:=sJ e;show uJ (b:=!FD w) (P4 (mD (dR (x:=.str w) (aS (x:=.lst ((w::ws).map D.str)) (y:=.int 0) rfl rfl (cC (k:=0) rfl)) (pN (WJ a e j b_))) rfl) rfl) (λh=>?_) λh=>by unfold BQ;erw[Ym] at h;rw[h];rfl
 have h:FD w=af:=by simpa using h
 have m:BQ w ws=ws.all rE:=by unfold BQ;rw[h,jt]
 rw[m];show P4 (b:=ws.all rE) (mD (d:=.bl (ws.all rE)) (dF (x:=.lst (ws.map λx=>D.bl (rE x))) (qJ (ws.map D.str) rfl (by rw[bp];lia) ?_) ?_) rfl) rfl
 .exact jN D.str (λx=>D.bl (rE x)) ws λx l=>⟨_,rfl,dR (x:=.str x) rfl (zY (WJ a e j (cq _ l)))⟩
 .have n:(ws.map λx=>D.bl (rE x))=(ws.map rE).map D.bl:=by rw[ij];rfl
  rw[n,E5,Ya];rfl
def LJ(l:⇑z<=3000)(e:dh z " "=w::ws)(j:cc ⟨#[32]⟩ (w::ws)=z)(h:BQ w ws=ag):dB [.str z]=.ex "NoOrder":=by unfold dB;show G5 rfl (aQ _ (cP _ (FF l e j) rfl) (aQ _ (cP (.lst (ws.map D.str)) FE rfl) (QD (uI ?_ (CM (d:=.str "a text that has not the form of an order") rfl)))));have:=LI l e j;rw[h] at this;show this
theorem zZ(l:⇑z<=3000)(e:dh z " "=w::ws)(j:cc ⟨#[32]⟩ (w::ws)=z)(h:BQ w ws=af){o:Out}(ho:(iS (eU bA (aA (bL k6 (aA (aB dC cH (eI 0)) aE)) (bW 3))) (bJ (aJ bA (aA (bL k6 (aA (aB dC cH (eI 0)) aE)) (bW 3))))) [.ro (.str z),.ro (.lst ((w::ws).map D.str)),.ro (.lst (ws.map D.str)),.ro (.tup ((ws.map pairOf).map pairD))]=o):
  (aG (aY 1 (aB splitM bV (eC (.str " "))))
  (aG (aY 2 (lT cH (oE (eI 1)) jZ))
  (aG (gH (nO (gF (tV (aJ c7 (aA (aB dC cH (eI 0)) aE)))) (gF (tV (bL allM (aA (dD 1 [] (bU fE) (g1 0) bY (aJ dG (bW 0))) aE)))))
   (iU (aA (eC (.str "a text that has not the form of an order")) aE) "NoOrder")
   cZ)
  (aG (aY 3 (bL dI (aA (dD 1 [] (bU fE) (g1 0) bY (eO (aA (bL k6 (aA (aB dE bV (eI 0)) aE)) (aA (bL k6 (aA (aB dE bV (eI 2)) aE)) aE)))) aE)))
  (iS (eU bA (aA (bL k6 (aA (aB dC cH (eI 0)) aE)) (bW 3))) (bJ (aJ bA (aA (bL k6 (aA (aB dC cH (eI 0)) aE)) (bW 3))))))))) (bN 4 [.str z])=o:=by
 have p:=sJ e;have d:=h;unfold BQ at d;rw[fm,ko] at d;have n:=LI l e j;rw[h] at n;show aQ _ (cP _ (FF l e j) rfl) (aQ _ (cP (.lst (ws.map D.str)) FE rfl) (aQ [.ro (.str z),.ro (.lst ((w::ws).map D.str)),.ro (.lst (ws.map D.str)),.no] (nW n rfl) (aQ [.ro (.str z),.ro (.lst ((w::ws).map D.str)),.ro (.lst (ws.map D.str)),.ro (.tup ((ws.map pairOf).map pairD))] (cP (.tup ((ws.map pairOf).map pairD)) ?_ rfl) ho)));show dF (x:=.lst ((ws.map pairOf).map pairD)) (qJ (ws.map D.str) rfl (by rw[bp];lia) ?_) rfl;rw[ij];show jN D.str (pairD∘pairOf) ws λx m=>⟨_,rfl,Ri (WJ l e j (cq _ m)) (d.2 x m)⟩
def LK(m:⇑z<=3000)(e:dh z " "=w::ws)(j:cc ⟨#[32]⟩ (w::ws)=z)(h:FD w=af){r:List (Option D)}:bL k6 (aA (aB dC cH (eI 0)) aE) (aa (.str z)::aa (.lst ((w::ws).map D.str))::r)=aa (.int (g0 w)):=by
 obtain⟨c,a,d⟩:=xM h;have l:g0 w=(c:Int)-48:=by unfold g0;rw[a]
 rw[l];show dF (x:=.str w) (aS (x:=.lst ((w::ws).map D.str)) (y:=.int 0) rfl rfl (cC (k:=0) rfl)) ?_;rw[LD a];show xK d
def QK(a:⇑z<=3000)(e:dh z " "=w::ws)(j:cc ⟨#[32]⟩ (w::ws)=z)(h:BQ w ws=af){d:D}(ho:bA [.int (g0 w),.tup ((ws.map pairOf).map pairD)]=.ok d):dB [.str z]=.ok d:=by
 have l:FD w=af:=by unfold BQ at h;rw[fm] at h;show h.1
 show d7 rfl (zZ a e j h (KZ (rc2 (LK a e j l) rfl (by rw[ho];rfl)) (eW (dS (LK a e j l) rfl ho))))
def FG(a:⇑z<=3000)(e:dh z " "=w::ws)(j:cc ⟨#[32]⟩ (w::ws)=z)(h:BQ w ws=af){c:ai}(ho:bA [.int (g0 w),.tup ((ws.map pairOf).map pairD)]=.ex c):dB [.str z]=.ex c:=by
 have d:FD w=af:=by unfold BQ at h;rw[fm] at h;show h.1
 show G5 rfl (zZ a e j h (G6 (rc2 (LK a e j d) rfl (by rw[ho];rfl))))
end
def BR:SF:=(aG (gH (nO (tV (aB EV (aB dE bV kT) (eC (.str " ")))) (nO (tV (aB i5 (aB dE bV (aB aX kT (eI 1))) cH)) (nO (tV (aB EV (aB dE bV (aB aX kT (eI 2))) (eC (.str "<")))) (tV (aB i5 (aB dE bV (aB aX kT (eI 3))) cH)))))
    (bJ (eC .non))
    cZ)
   (sX (mQ 2 gG (aU (eO (aA (aB uK cH (aB dE bV (aB aX kT (eI 1)))) (aA (aB uK cH (aB dE bV (aB aX kT (eI 3)))) aE)))))))
theorem vA:∀(l:List Nat) (P:List (Int×Int)),eX l=aa P->⇑l=4*⇑P:=λl P h=>by
 obtain⟨d,rfl,hw,rfl⟩:=mZ l P h
 clear h
 induction d with
 |nil=>rfl
 |cons w r ih =>
  obtain⟨a,b,e,_,_⟩:=sI (hw w b_);have:iE (w::r)=32::a::60::b::iE r:=by show 32::w.cps.toList++iE r=_;rw[e];rfl
  rw[this,bt,cn,cn,cn,cn,cn,ih λx j=>hw x (cq _ j)];lia
def HA(a:Int)(n:Nat):kM a (n+1)=a::kM (a+4) n:=by
 unfold kM;rw[Bp,bt,ij];congr 1
 .simp
 .refine nq λk _=>?_;show a+((k+1:Nat):Int)*4=a+4+(k:Int)*4;lia
def ne_str(x y:ai):EV (.str x) (.str y)=aa (.bl (!Zv (x=y))):=rfl
section
variable{z:ai}
def szz(a:⇑z<=3000):⇑z<=g8:=cy a (ma rfl)
def QL(a:⇑z<=3000){pre t:List Nat}{k:Nat}{c:Nat}(e:z.cps.toList=pre++t)(h:t[k]?=aa c):dE (.str z) (.int ((⇑pre:Int)+(k:Int)))=aa (.str ⟨#[c]⟩):=by have:=lB (szz a) (i:=⇑pre+k) (c:=c) (by rw[e,jo (Xd _ _),Nat.add_sub_cancel_left];show h);show this
theorem HB(d:⇑z<=3000){pre:List Nat}{w a l b:Nat}{t:List Nat}{ψ:List (Int×Int)}(e:z.cps.toList=pre++w::a::l::b::t)(J:⇑ψ<=1000):
  BR [.ro (.str z),.ro (.str FS),.ow (.lst (ψ.map pairD)),.ri ⇑pre]=if w=32/\isF a=af/\l=60/\isF b=af then .nx [.ro (.str z),.ro (.str FS),.ow (.lst ((ψ++[((a:Int)-48,(b:Int)-48)]).map pairD)),.ri ⇑pre] else .rt .non:=by
 have I:dE (.str z) (.int (⇑pre:Int))=aa (.str ⟨#[w]⟩):=by have:=QL d (k:=0) (c:=w) e rfl;simpa using this
 have A:=QL d (k:=1) (c:=a) e rfl;have F:=QL d (k:=2) (c:=l) e rfl;have v:=QL d (k:=3) (c:=b) e rfl;have p:(nO (tV (aB EV (aB dE bV kT) (eC (.str " ")))) (nO (tV (aB i5 (aB dE bV (aB aX kT (eI 1))) cH)) (nO (tV (aB EV (aB dE bV (aB aX kT (eI 2))) (eC (.str "<")))) (tV (aB i5 (aB dE bV (aB aX kT (eI 3))) cH))))) (aV [.ro (.str z),.ro (.str FS),.ow (.lst (ψ.map pairD)),.ri ⇑pre])=aa (!Zv (w=32)||(!isF a||(!Zv (l=60) || !isF b))):=by
  show uJ (b:=!Zv (w=32)) (mD (aS (aS (x:=.str z) (y:=.int ⇑pre) rfl rfl I) (y:=.str " ") rfl (by rw[ne_str,Rj])) rfl) (λh=>?_) λh=>by rw[h];rfl
  rw[h,qo];show uJ (b:=!isF a) (mD (aS (aS (x:=.str z) (y:=.int ((⇑pre:Int)+1)) rfl rfl A) (y:=.str FS) rfl (xJ a)) rfl) (λh=>?_) λh=>by rw[h];rfl
  rw[h,qo];show uJ (b:=!Zv (l=60)) (mD (aS (aS (x:=.str z) (y:=.int ((⇑pre:Int)+2)) rfl rfl F) (y:=.str "<") rfl (by rw[ne_str,US])) rfl) (λh=>?_) λh=>by rw[h];rfl
  rw[h,qo];show mD (aS (aS (x:=.str z) (y:=.int ((⇑pre:Int)+3)) rfl rfl v) (y:=.str FS) rfl (xJ b)) rfl
 by_cases j:w=32/\isF a=af/\l=60/\isF b=af
 .rw [Z_ j];obtain⟨m,o,h2,n⟩:=j;show aQ _ (nW (p.trans (by rw[Zx m,o,Zx h2,n];rfl)) rfl) ?_;have q:eO (aA (aB uK cH (aB dE bV (aB aX kT (eI 1)))) (aA (aB uK cH (aB dE bV (aB aX kT (eI 3)))) aE)) (fB [.ro (.str z),.ro (.str FS),.ow (.lst (ψ.map pairD)),.ri ⇑pre])=aa (pairD ((a:Int)-48,(b:Int)-48)) :=
   K0 (aS (x:=.str FS) rfl (aS (x:=.str z) (y:=.int ((⇑pre:Int)+1)) rfl rfl A) (CU o)) (aS (x:=.str FS) rfl (aS (x:=.str z) (y:=.int ((⇑pre:Int)+3)) rfl rfl v) (CU n))
  erw[bN,aG,gH,bJ,aY,jH,j0,uV,mI,qH,sX,d6,cZ,aK,eC,aB,tV,gF,mM,nO,g9,BW,rN,J3,zC,hJ,aE,aA,bL,aJ,rP,jA,bU,bP,nR,GZ,G0,g1,g2,qW,kQ,nU,bY,benv,lT,jZ,oE,asInt,aU,mQ,kX,aV,fB,Sv.all,Sv.rd,bt,ja,nu,ny,qh,m_,pz,cj,p_,kg,pw,qb,qc,qa,cn,jn,bp,n_,nh,ig,qd,Nat.reduceSub,Nat.reduceAdd,Nat.reduceEqDiff,gW,fL,fM,f7,BX,eV,jJ,j6,j7,fV,lW,cM,iV,j8,fW,lX,mH,j9,kA,lY,f6,h8,jK,fJ,fK,gR,gS,gT,gU,gX,gY,jL,jM,if_true,if_false,ite_true,ite_false,reduceIte,decide_true,decide_false,decide_eq_true_eq,mh,ql,qm,kB,iX];erw[fB,bt,ja,Sv.rd] at q;rw[q];erw[bN,aG,gH,bJ,aY,jH,j0,uV,mI,qH,sX,d6,cZ,aK,eC,aB,tV,gF,mM,nO,g9,BW,rN,J3,zC,hJ,aE,aA,bL,aJ,rP,jA,bU,bP,nR,GZ,G0,g1,g2,qW,kQ,nU,bY,benv,lT,jZ,oE,asInt,aU,mQ,kX,aV,fB,Sv.all,Sv.rd,bt,ja,nu,ny,qh,m_,pz,cj,p_,kg,pw,qb,qc,qa,cn,jn,bp,n_,nh,ig,qd,Nat.reduceSub,Nat.reduceAdd,Nat.reduceEqDiff,gW,fL,fM,f7,BX,eV,jJ,j6,j7,fV,lW,cM,iV,j8,fW,lX,mH,j9,kA,lY,f6,h8,jK,fJ,fK,gR,gS,gT,gU,gX,gY,jL,jM,if_true,if_false,ite_true,ite_false,reduceIte,decide_true,decide_false,decide_eq_true_eq,mh,ql,qm,kB,iX];rw[iW (by rw[bp];lia)];erw[bN,aG,gH,bJ,aY,jH,j0,uV,mI,qH,sX,d6,cZ,aK,eC,aB,tV,gF,mM,nO,g9,BW,rN,J3,zC,hJ,aE,aA,bL,aJ,rP,jA,bU,bP,nR,GZ,G0,g1,g2,qW,kQ,nU,bY,benv,lT,jZ,oE,asInt,aU,mQ,kX,aV,fB,Sv.all,Sv.rd,bt,ja,nu,ny,qh,m_,pz,cj,p_,kg,pw,qb,qc,qa,cn,jn,bp,n_,nh,ig,qd,Nat.reduceSub,Nat.reduceAdd,Nat.reduceEqDiff,gW,fL,fM,f7,BX,eV,jJ,j6,j7,fV,lW,cM,iV,j8,fW,lX,mH,j9,kA,lY,f6,h8,jK,fJ,fK,gR,gS,gT,gU,gX,gY,jL,jM,if_true,if_false,ite_true,ite_false,reduceIte,decide_true,decide_false,decide_eq_true_eq,mh,ql,qm,kB,iX];rw[gk];rfl
 .rw [Zz j];show mU (uI (p.trans ?_) rfl);congr 1;cases m:Zv (w=32)<;>cases h2:isF a<;>cases h3:Zv (l=60)<;>cases h4:isF b<;>first|rfl|skip
  show Zw ⟨of_decide_eq_true m,h2,of_decide_eq_true h3,h4⟩ j
theorem vB(q:⇑z<=3000):∀(n:Nat) (pre t:List Nat) (ψ:List (Int×Int)) (v:Sv),z.cps.toList=pre++t->⇑t=4*n->⇑ψ+n<=1000 ->
  ∃m,bC (qW 3) BR ((kM ⇑pre n).map D.int) [.ro (.str z),.ro (.str FS),.ow (.lst (ψ.map pairD)),v]=match eX t with|none=>.rt .non|some P=>.nx [.ro (.str z),.ro (.str FS),.ow (.lst ((ψ++P).map pairD)),m]
 |0,pre,t,ψ,v,e,hl,hA=>by have:t=[]:=ki.mp hl;subst this;show⟨v,by show Out.nx _=Out.nx _;rw[il]⟩
 |n+1,pre,t,ψ,v,e,hl,hA=>by
  match t,hl,e with
  |w::a::l::b::t,hl,e =>
   have j:=HB q (ψ:=ψ) e ∅;have go:∀{o:Out},(match BR [.ro (.str z),.ro (.str FS),.ow (.lst (ψ.map pairD)),.ri ⇑pre] with | .nx ρ2=>bC (qW 3) BR ((kM ((⇑pre:Int)+4) n).map D.int) ρ2|o=>o)=o->bC (qW 3) BR ((kM ⇑pre (n+1)).map D.int) [.ro (.str z),.ro (.str FS),.ow (.lst (ψ.map pairD)),v]=o:=λ{o} h=>by rw[HA,bt];show h
   have d:eX (w::a::l::b::t)=if w=32/\isF a=af/\l=60/\isF b=af then(eX t).map (((a:Int)-48,(b:Int)-48):: ·) else ae:=rfl
   by_cases x:w=32/\isF a=af/\l=60/\isF b=af
   .rw [Z_ x] at j d;obtain⟨m,p⟩:=vB q n (pre++[w,a,l,b]) t (ψ++[((a:Int)-48,(b:Int)-48)]) (.ro (.int ⇑pre)) (by rw[e,km];rfl) (by erw[cn] at hl;lia) (by rw[cu,wg];lia);show⟨m,go ?_⟩;rw[j,d];have y:(⇑(pre++[w,a,l,b]):Int)=(⇑pre:Int)+4:=by rw[cu];rfl
    rw[y] at p;show bC (qW 3) BR ((kM ((⇑pre:Int)+4) n).map D.int) _=_;rw[p]
    cases eX t with
    |none=>rfl
    |some P =>
     show Out.nx _=Out.nx _;rw[km];rfl
   .rw [Zz x] at j d;show⟨v,go ?_⟩;rw[j,d]
def HC(v:⇑z<=3000):k9 [.str z]=.ok (match G9 z.cps.toList with|none=>.non|some q=>.tup [.int q.1,.lst (q.2.map pairD)]):=by
 unfold k9;have F:fF [.str z]=aa (.int ⇑z):=Z_ (szz v);have I:dH (.int (⇑z:Int)) (.int 4)=aa (.int ((⇑z:Int)%4)):=bI ⋯;have p:=mY z;show d7 rfl (aQ [.ro (.str z),.ro (.str FS),.no,.no] rfl ?_);by_cases n:(⇑z:Int)%4=1
 .cases hz2:z.cps.toList with
  |nil=>rw[hz2] at p;rw[p] at n;show Zw n ⋯
  |cons c r =>
   have K:dE (.str z) (.int 0)=aa (.str ⟨#[c]⟩):=lB (szz v) (i:=0) (by rw[hz2];rfl);have A:⇑z=⇑r+1:=by rw[p,hz2];rfl
   have o:(nO (tV (aB EV (aB dH (bL fF (aA (aK 0) aE)) (eC (.int 4))) (eC (.int 1)))) (tV (aB i5 (aB dE (aK 0) (eC (.int 0))) (aK 1)))) (aV [.ro (.str z),.ro (.str FS),.no,.no])=aa (!isF c):=by
    show uJ (b:=ag) (mD (d:=.bl ag) (aS (aS (dF (x:=.str z) rfl F) (y:=.int 4) rfl I) (y:=.int 1) rfl (by rw[iV,Zx n];rfl)) rfl) (λ_=>?_) λh=>by cases h
    show mD (aS (aS (x:=.str z) (y:=.int 0) rfl rfl K) (y:=.str FS) rfl (xJ c)) rfl
   have j:G9 (c::r)=if isF c=af then(eX r).map ((c:Int)-48,·) else ae:=rfl
   cases l:isF c with
   |false =>
    rw[l] at o j;rw[j];show mU (uI o rfl)
   |true =>
    rw[l] at o j;rw[j,Z_ rfl];obtain⟨U,m⟩:=vB v (⇑r/4) [c] r [] .no hz2 ∅ (by erw[jn];lia);have L:K8 [.int 1,.int (⇑z:Int),.int 4]=aa ((kM 1 (⇑r/4)).map D.int):=by show(if(4:Int)=4/\(1:Int).natAbs<1000000/\(⇑z:Int).natAbs<1000000 then aa ((kM 1 (((⇑z:Int)-1+3)/4).toNat).map D.int) else ae)=_;rw[Z_ ⟨rfl,⋯,∅⟩,show(((⇑z:Int)-1+3)/4).toNat=⇑r/4 by lia]
    show aQ _ (nW o rfl) (aQ [.ro (.str z),.ro (.str FS),.ow (.lst []),.no] rfl ?_);have J:rD (aA (eC (.int 1)) (aA (bL fF (aA (aK 0) aE)) (aA (eC (.int 4)) aE))) (fB [.ro (.str z),.ro (.str FS),.ow (.lst []),.no])=aa ((kM 1 (⇑r/4)).map D.int):=by
     unfold rD;have:aA (eC (.int 1)) (aA (bL fF (aA (aK 0) aE)) (aA (eC (.int 4)) aE)) (fB [.ro (.str z),.ro (.str FS),.ow (.lst []),.no])=aa [.int 1,.int (⇑z:Int),.int 4]:=by have O:bL fF (aA (aK 0) aE) (fB [.ro (.str z),.ro (.str FS),.ow (.lst []),.no])=aa (.int (⇑z:Int)):=dF (x:=.str z) rfl F;show(wa (aa (D.int 1)) λd=>wa (wa (bL fF (aA (aK 0) aE) (fB [.ro (.str z),.ro (.str FS),.ow (.lst []),.no])) λd=>wa (aa [D.int 4]) λds=>aa (d::ds)) λds=>aa (d::ds))=_;rw[O];rfl
     rw[this];show L
    cases a:eX r with
    |none =>
     rw[a] at m;show mU (nX _ J m)
    |some P =>
     rw[a] at m;show aQ _ (nX _ J m) (eW ?_);show K0 (aS (x:=.str FS) rfl (aS (x:=.str z) (y:=.int 0) rfl rfl K) (CU l)) rfl
 .have:G9 z.cps.toList=ae:=by
   cases a:G9 z.cps.toList with
   |none=>rfl
   |some q =>
    exfalso
    cases hz2:z.cps.toList with
    |nil=>rw[hz2] at a;cases a
    |cons c r =>
     rw[hz2] at a;have a:(if isF c=af then(eX r).map ((c:Int)-48,·) else ae)=aa q:=a;by_cases l:isF c=af
     .rw [Z_ l] at a
      cases A:eX r with
      |none=>rw[A] at a;cases a
      |some P =>
       have:=vA r P A;rw[hz2,cn] at p;lia
     .rw [Zz l] at a;cases a
  rw[this];show mU (uI (uJ (b:=af) (mD (d:=.bl af) (aS (aS (dF (x:=.str z) rfl F) (y:=.int 4) rfl I) (y:=.int 1) rfl (by rw[iV,Zy n];rfl)) rfl) (λh=>by cases h) λ_=>rfl) rfl)
end
def QM:D:=.tup [.str "refused",.bl af,.bl ag,.bl ag,.bl ag,.bl ag,.bl ag,.bl ag,.bl ag,.bl ag,.bl ag,.bl ag,.bl ag,.bl ag,.bl af]
def QN:D:=.tup [.str "refused",.bl ag,.bl af,.bl ag,.bl ag,.bl ag,.bl ag,.bl ag,.bl ag,.bl ag,.bl ag,.bl ag,.bl ag,.bl ag,.bl af]
def QO:D:=.tup [.str "refused",.bl ag,.bl ag,.bl af,.bl ag,.bl ag,.bl ag,.bl ag,.bl ag,.bl ag,.bl ag,.bl ag,.bl ag,.bl ag,.bl af]
def HD:c8 [.str "NoThing"]=.ok QM:=by kernel_rfl
def HE:c8 [.str "Looped"]=.ok QN:=by kernel_rfl
def HF:c8 [.str "NoOrder"]=.ok QO:=by kernel_rfl
def QP:kD 6 QM:=by unfold QM;show zW.sH (by simp) λd a=>?_;erw[bh,i_,or_false] at a;rcases a with h|h|h|h|h|h|h|h|h|h|h|h|h|h|h<;>simp[h]
def QQ:kD 6 QN:=by unfold QN;show zW.sH (by simp) λd a=>?_;erw[bh,i_,or_false] at a;rcases a with h|h|h|h|h|h|h|h|h|h|h|h|h|h|h<;>simp[h]
def QR:kD 6 QO:=by unfold QO;show zW.sH (by simp) λd a=>?_;erw[bh,i_,or_false] at a;rcases a with h|h|h|h|h|h|h|h|h|h|h|h|h|h|h<;>simp[h]
def LM{c:Nat}(h:isF c=af):0<=(c:Int)-48/\(c:Int)-48<10:=by have:=of_decide_eq_true h;lia
def LN{n:Nat}{P:List (Int×Int)}(j:∀p∈P,(0<=p.1/\p.1<10)/\0<=p.2/\p.2<10)(o:⇑P<=1000){a b e:D}:tV (bL anyM (aA (dD 2 [2] (bU kT) (g2 0 1) bY (BW (aB JV bV fE) (aB JV cH fE))) aE)) (aV [.ro a,.ro b,.ri n,.ro (.lst (P.map pairD)),.no])=aa (!zW.good n P):=by
 have ho:∀p:Int×Int,BW (aB JV bV fE) (aB JV cH fE) [aa (.int p.1),aa (.int p.2),aa (.int n)]=aa (.bl (Zv ((n:Int)<=p.1)||Zv ((n:Int)<=p.2))):=λp=>by have q:aB JV bV fE [aa (.int p.1),aa (.int p.2),aa (.int n)]=aa (.bl (Zv ((n:Int)<=p.1))):=rfl;have h:aB JV cH fE [aa (.int p.1),aa (.int p.2),aa (.int n)]=aa (.bl (Zv ((n:Int)<=p.2))):=rfl;unfold BW;rw[q,h];cases Zv ((n:Int)<=p.1)<;>rfl
 show mD (d:=.bl (!zW.good n P)) (dF (x:=.lst (P.map λp=>D.bl (Zv ((n:Int)<=p.1)||Zv ((n:Int)<=p.2)))) (qJ (P.map pairD) rfl (by rw[bp];lia) ?_) ?_) rfl
 .exact jN pairD (λp=>D.bl (Zv ((n:Int)<=p.1)||Zv ((n:Int)<=p.2))) P λp v=>⟨_,rfl,ho p⟩
 .have h:(P.map λp=>D.bl (Zv ((n:Int)<=p.1)||Zv ((n:Int)<=p.2)))=(P.map λp=>Zv ((n:Int)<=p.1)||Zv ((n:Int)<=p.2)).map D.bl:=by rw[ij];rfl
  rw[h,E6,X_];congr 2;unfold zW.good;rw[List.not_all_eq_any_not]
  induction P with
  |nil=>rfl
  |cons p r ih =>
   rw[jr,jr,ih (λx m=>j x (cq _ m)) (by erw[cn] at o;lia) (by rw[ij];rfl)];congr 1;have:=j p b_;unfold thing;rw[Zx (show 0<=p.1 by lia),Zx (show 0<=p.2 by lia),jt,jt];show(Zv ((n:Int)<=p.1)||Zv ((n:Int)<=p.2))=_;by_cases l:(n:Int)<=p.1
   .rw [Zx l,Zy (show ¬ p.1<(n:Int) by lia)];rfl
   .rw [Zy l,Zx (show p.1<(n:Int) by lia)];by_cases h2:(n:Int)<=p.2
    .rw [Zx h2,Zy (show ¬ p.2<(n:Int) by lia)];rfl
    .rw [Zy h2,Zx (show p.2<(n:Int) by lia)];rfl
theorem z4{z:ai}(A:⇑z<=3000):∃d,kD 6 d/\gZ [.str z]=.ok d/\oB [.str z]=.ok d:=by
 obtain⟨w,q,e,j,m⟩:=words z;have l:=HC A;unfold gZ oB
 cases ho:BQ w q with
 |false =>
  rw[ho,Zz bg] at m;rw[m] at l;show⟨QO,QR,?_,?_⟩
  .exact d7 rfl (V7 (G6 (rnE rfl (rc1 rfl (by rw[LJ A e j ho];rfl)))) rfl)
  .exact d7 rfl (aQ _ (cP _ (dR rfl l) rfl) (mU (uI (mD rfl rfl) (eW (dR rfl HF)))))
 |true =>
  rw[ho,Z_ rfl] at m;rw[m] at l;have h:=ho;unfold BQ at h;rw[fm,ko] at h;obtain⟨c,U,hc⟩:=xM h.1;have eg:g0 w=(c:Int)-48:=by unfold g0;rw[U]
  have h9:=LM hc;obtain⟨n,L⟩:∃n:Nat,g0 w=(n:Int):=⟨(g0 w).toNat,by rw[eg];lia⟩;have J:n<=9:=∅
  generalize v:q.map pairOf=P at l;have hP:∀p∈P,(0<=p.1/\p.1<10)/\0<=p.2/\p.2<10:=λp m=>by
   rw[<- v] at m;obtain⟨x,Z,rfl⟩:=fz.mp m;obtain⟨a,b,ex,ha,hb⟩:=sI (h.2 x Z);have:pairOf x=((a:Int)-48,(b:Int)-48):=by unfold pairOf;rw[ex]
   rw[this];show⟨LM ha,LM hb⟩
  have hl:⇑P<=750:=by
   have h1:=vA (iE q) (q.map pairOf) (lC q h.2);have h2:⇑z=⇑w.cps.toList+⇑(iE q):=by rw[mY,<- j,l4,cu]
   rw[<- v];lia
  rw[L] at l;have go:∀{o:Out} (k:SF),k [.ro (.str z),.ro (.tup [.int n,.lst (P.map pairD)]),.ro (.int n),.ro (.lst (P.map pairD)),.no]=o->aG (aY 1 (aJ k9 (aA (aK 0) aE))) (aG (gH (tV (aB JW (aK 1) (eC .non))) (bJ (aJ c8 (aA (eC (.str "NoOrder")) aE))) cZ) (aG (G4 (aU (aK 1)) (kQ 2 3)) k)) (bN 5 [.str z])=o:=λ{o} k hk =>
   aQ _ (cP _ (dR rfl l) rfl) (aQ _ (nW (mD rfl rfl) rfl) (aQ _ (zW.Li rfl) hk))
  have O:bA=zW.bA:=rfl;have I:=LN (n:=n) hP ∅ (a:=.str z) (b:=.tup [.int n,.lst (P.map pairD)]) (e:=.non)
  cases hg:zW.good n P with
  |false =>
   rw[hg] at I;show⟨QM,QP,?_,?_⟩
   .exact d7 rfl (V7 (G6 (rnE rfl (rc1 rfl (by rw[FG A e j ho (by rw[L,v,O];show zW.CQ hg)];rfl)))) rfl)
   .exact d7 rfl (go _ (mU (uI I (eW (dR rfl HD)))))
  |true =>
   rw[hg] at I;rcases zW.CS J hg with⟨ex,t⟩|⟨y,F,ex⟩
   .refine ⟨QN,QQ,?_,?_⟩
    .exact d7 rfl (V7 (G6 (rnE rfl (rc1 rfl (by rw[FG A e j ho (by rw[L,v,O];show ex)];rfl)))) rfl)
    .exact d7 rfl (go _ (aQ _ (nW I rfl) (aQ _ (cP .non (dS rfl rfl (zU J (zW.FA hg) ∅ rfl t)) rfl) (mU (uI (mD rfl rfl) (eW (dR rfl HE)))))))
   .have K:=F.len;show⟨.tup [.str "told",bE y],?_,?_,?_⟩
    .refine ⟨by simp,λd X=>?_⟩;erw[bh,i_,or_false] at X;rcases X with rfl|rfl
     .trivial
     .exact CH ∅ λr l=>by have:=zW.short F.rows ∅ r l;lia
    .have Y:=QK A e j ho (d:=bE y) (by rw[L,v,O];show ex);show d7 rfl (Ln (KZ (rnE rfl (rc1 rfl (by rw[Y];rfl))) (eW (K0 rfl (dR rfl Y)))))
    .have U:LL.eF [.int n,.lst (P.map pairD)]=.ok (bE y):=by
      have:=zV F.rows ∅ (P:=P) (by rw[K];show zW.FA hg) ∅ (Pd:=.lst (P.map pairD)) rfl λa b b0 b1=>⟨F.sub a b b0 ∅,λt=>(F.all t).2.2⟩
      rwa [K] at this
     show d7 rfl (go _ (aQ _ (nW I rfl) (aQ _ (cP (bE y) (dS rfl rfl U) rfl) (aQ _ (nW (mD rfl rfl) rfl) (eW (K0 rfl rfl))))))
def mS(xs:Q0g):Nat:=(xs.map (·.length)).sum+⇑xs
def dO(xs:Q0g)(a d:Option Int):List ai:=(xs.drop (jB ⇑xs 0 a)).take (jB ⇑xs ⇑xs d-jB ⇑xs 0 a)
def dW(a b:Q0g):mS (a++b)=mS a+mS b:=by unfold mS;rw[gk,List.sum_append,cu];lia
def i6(x:ai)(a:Q0g):mS (x::a)=⇑x+1+mS a:=by unfold mS;rw[bt,Bn,cn];lia
def sL(xs:Q0g)(a d:Option Int):mS (dO xs a d)<=mS xs:=by have h:=dW ((xs.drop (jB ⇑xs 0 a)).take (jB ⇑xs ⇑xs d-jB ⇑xs 0 a)) ((xs.drop (jB ⇑xs 0 a)).drop (jB ⇑xs ⇑xs d-jB ⇑xs 0 a));have h2:=dW (xs.take (jB ⇑xs 0 a)) (xs.drop (jB ⇑xs 0 a));rw[Xi] at h h2;unfold dO;lia
def LO(xs:Q0g):mS xs.reverse=mS xs:=by unfold mS;rw[Xp,List.sum_reverse,Xr]
def sM(xs:Q0g):⇑xs<=mS xs:=Xe _ _
def l5(xs:Q0g):⇑(gi " " xs)<=mS xs:=by have e:gi " " xs=cc " " xs:=Ah _ _;have h:=Ag " " xs;rw[e];have a:⇑(" ":ai)=1:=rfl;rw[a] at h;unfold mS;lia
theorem xN(c:Nat):∀(w:ai) (a:Q0g),⇑(cc ⟨#[c]⟩ (w::a))+1=mS (w::a)
 |w,[]=>by show ⇑w+1=_;rw[i6];rfl
 |p,q::r=>by
  have d:=xN c q r;have e:⇑(cc ⟨#[c]⟩ (p::q::r))=⇑p+1+⇑(cc ⟨#[c]⟩ (q::r)):=by show⇑(p++⟨#[c]⟩++cc ⟨#[c]⟩ (q::r))=_;rw[len_app,len_app];rfl
  rw[e,i6];lia
def LP{z w:ai}{a:Q0g}(j:cc ⟨#[32]⟩ (w::a)=z):mS (w::a)=⇑z+1:=by rw[<- j,xN]
def LQ(xs:Q0g)(a d:Option Int):G2 (xs.map D.str) a d=(dO xs a d).map D.str:=by unfold G2 dO;rw[bp,Xo,Xq]
def QS{xs:Q0g}{k:Nat}(h:k<=⇑xs):dO xs ae (aa (k:Int))=xs.take k:=by
 unfold dO;have d:jB ⇑xs 0 ae=0:=rfl;have a:jB ⇑xs ⇑xs (aa (k:Int))=k:=by show(if(k:Int)<0 then((k:Int)+⇑xs).toNat else min (k:Int).toNat ⇑xs)=k;rw[Zz ∅];lia
 rw[d,a];rfl
def HG{xs:Q0g}{k:Nat}(h:k<=⇑xs):dO xs (aa (k:Int)) ae=xs.drop k:=by
 unfold dO;have d:jB ⇑xs ⇑xs ae=⇑xs:=rfl;have a:jB ⇑xs 0 (aa (k:Int))=k:=by show(if(k:Int)<0 then((k:Int)+⇑xs).toNat else min (k:Int).toNat ⇑xs)=k;rw[Zz ∅];lia
 rw[d,a,ng (by rw[me];lia)]
section
variable{f g:EF}{lo hi:OF}{ρ:cD}{x y:ai}{xs ys:Q0g}{l h:Option Int}
def mE(d:f ρ=aa (.str x))(a:g ρ=aa (.str y))(j:⇑x+⇑y<=100000):aB cB f g ρ=aa (.str (x++y)):=aS d a (Z_ (by show _<=16777216;lia))
def ssl(d:f ρ=aa (.str x))(j:lo ρ=aa l)(h2:hi ρ=aa h)(a:⇑x<=1000):oA f lo hi ρ=aa (.str (gr x l h)):=by unfold oA;rw[d,cj,j,cj,h2,cj];show Z_ a
def UU(a:f ρ=aa (.lst (xs.map D.str)))(d:lo ρ=aa l)(h2:hi ρ=aa h):lT f lo hi ρ=aa (.lst ((dO xs l h).map D.str)):=by unfold lT;rw[a,cj,d,cj,h2,cj,<- LQ];rfl
def sN(d:f ρ=aa (.lst (xs.map D.str)))(a:g ρ=aa (.lst (ys.map D.str)))(j:⇑xs+⇑ys<=100000):aB aX f g ρ=aa (.lst ((xs++ys).map D.str)):=by show aS d a ?_;rw[rY (by rw[bp,bp];lia),gk]
def vC(d:f ρ=aa (.lst (xs.map D.str)))(a:mS xs<=100000):aB joinM (eC (.str " ")) f ρ=aa (.str (gi " " xs)):=by show aS (x:=.str " ") rfl d ?_;show(rT (xs.map D.str)).bind _=_;rw[strs_map,cj];show Z_ ?_;have j:⇑(" ":ai)=1:=rfl;rw[j];show(xs.map (·.length)).sum+⇑xs*1<=16777216;unfold mS at a;lia
def l1{a:EF}(d:a ρ=aa (.str x)):cV (aA a aE) ρ=aa (.lst ([x].map D.str)):=by unfold cV aA;rw[d];rfl
def l2{a b:EF}(j:a ρ=aa (.str x))(d:b ρ=aa (.str y)):cV (aA a (aA b aE)) ρ=aa (.lst ([x,y].map D.str)):=by unfold cV aA;rw[j,d];rfl
def l3{a b c:EF}{w:ai}(m:a ρ=aa (.str x))(j:b ρ=aa (.str y))(d:c ρ=aa (.str w)):cV (aA a (aA b (aA c aE))) ρ=aa (.lst ([x,y,w].map D.str)):=by unfold cV aA;rw[m,j,d];rfl
end
def len1(c:Nat):⇑(⟨#[c]⟩:ai)=1:=rfl
def QT{d:Q0e}{a b:Int}{r:Q0e}(n:d=a::b::r)(F:0<=a)(A:0<=b):∃c,oC [aF d]=.ok (.str ⟨#[c]⟩):=by
 subst n;unfold oC;obtain⟨u,j⟩:∃u,u=rk "abcdefghijklmnopqrstuvwxyz":=⟨_,rfl⟩;have v:⇑u<=78:=by rw[j];show a1c "abcdefghijklmnopqrstuvwxyz"
 have p:upS [.str "abcdefghijklmnopqrstuvwxyz"]=aa (.str u):=by rw[j];show(if⇑("abcdefghijklmnopqrstuvwxyz":ai)<=1000 then aa (D.str (rk "abcdefghijklmnopqrstuvwxyz")) else(ae:Option D))=_;rw[Z_ (by decide+kernel)]
 obtain⟨S,l⟩:∃S:ai,S=" !\"#$&'()*+,-./0123456789:;<=>?@"++u++"[\\]^_`"++"abcdefghijklmnopqrstuvwxyz"++"{|}~":=⟨_,rfl⟩;have k1:⇑(" !\"#$&'()*+,-./0123456789:;<=>?@":ai)=32:=by decide+kernel
 have k2:⇑("[\\]^_`":ai)=6:=by decide+kernel
 have k3:⇑("abcdefghijklmnopqrstuvwxyz":ai)=26:=by decide+kernel
 have h:⇑("{|}~":ai)=4:=by decide+kernel
 have z:⇑S=68+⇑u:=by rw[l,len_app,len_app,len_app,len_app,k1,k2,k3,h];lia
 have q:aB cB (aB cB (aB cB (aB cB (eC (.str " !\"#$&'()*+,-./0123456789:;<=>?@")) (bL upS (bW 1))) (eC (.str "[\\]^_`"))) cH) (eC (.str "{|}~")) (fB [.ro (aF (a::b::r)),.ro (.str "abcdefghijklmnopqrstuvwxyz"),.no])=aa (.str S):=by rw[l];show mE (mE (mE (mE rfl (dF rfl p) ?_) rfl ?_) rfl ?_) rfl ?_<;>erw[len_app,k1,k2,k3,h]<;>lia
 have J:=gm (64*a+b) (show(⇑S:Int)≠0 by lia);have I:=jd (64*a+b) (show(0:Int)<(⇑S:Int) by lia);obtain⟨i,m⟩:∃i:Nat,(64*a+b)%(⇑S:Int)=(i:Int):=⟨((64*a+b)%(⇑S:Int)).toNat,∅⟩;obtain⟨c,o⟩:∃c,S.cps.toList[i]?=aa c:=⟨_,cm (by rw[<- mY];lia)⟩;show⟨c,d7 rfl (aQ [.ro (aF (a::b::r)),.ro (.str "abcdefghijklmnopqrstuvwxyz"),.no] rfl (aQ _ (cP (.str S) q rfl) (eW ?_)))⟩;have sz:⇑S<=g8:=by show _<=16777216;lia
 show aS (x:=.str S) (y:=.int i) rfl (binI (x:=(64*a+b)) (y:=⇑S) (binI (x:=(64*a)) (y:=b) (binI (x:=64) (y:=a) rfl (aS (x:=aF (a::b::r)) (y:=.int 0) rfl rfl (cC (k:=0) rfl)) (pJ ⋯)) (aS (x:=aF (a::b::r)) (y:=.int 1) rfl rfl (cC (k:=1) rfl)) eV) (dF (x:=.str S) rfl (Z_ sz)) ?_) (lB sz o);rw[bI ∅,m]
theorem HH(x:ai):⇑(iw x "<" " < ")<=3*⇑x+3:=by
 have e:iw x "<" " < "=(" < ":ai).join (dh x ⟨#[60]⟩):=Ue x " < " 60;have a:=Ag " < " (dh x ⟨#[60]⟩);have j:=ve x ⟨#[60]⟩;have h:⇑(" < ":ai)=3:=rfl;have d:=(pq x ⟨#[60]⟩).1
 cases es:dh x ⟨#[60]⟩ with
 |nil=>rw[es] at d;show Zw d ⋯
 |cons p r =>
  rw[es] at a j;have h2:=xN 60 p r;rw[j] at h2;rw[h] at a;unfold mS at h2;rw[e,es];rw[cn] at a h2;lia
set_option maxHeartbeats 8000000 in
def vD{z:ai}(hz:⇑z<=900){v p l q:Int}(p0:0<=v)(p1:0<=p)(p2:0<=l)(p3:0<=q):∃y:ai,⇑y<=3*⇑z+10/\eG [.str z,aF [v,p,l,q]]=.ok (.str y):=by
 unfold eG;obtain⟨w,ws,Y,j,_⟩:=words z;have mW:=LP j;generalize hW:w::ws=W at Y mW;have W0:0<⇑W:=by rw[<- hW];show Nat.succ_pos _
 obtain⟨c,hc⟩:=QT (d:=[l,q]) rfl p2 p3;have sz:⇑z<=g8:=by show _<=16777216;lia
 have el:fF [.str z]=aa (.int ⇑z):=Z_ sz
 -- places
 have a0:=gm p (show((⇑z:Int)+1)≠0 by lia);generalize ha:p%((⇑z:Int)+1)=A at a0;obtain⟨k,hk⟩:∃k:Nat,p%(⇑W:Int)=(k:Int):=⟨(p%(⇑W:Int)).toNat,by have:=gm p (show(⇑W:Int)≠0 by lia);lia⟩;have K:k<⇑W:=by have:=jd p (show(0:Int)<(⇑W:Int) by lia);lia
 obtain⟨x,hx⟩:∃x,W[k]?=aa x:=⟨_,cm K⟩;have q2:F9 (l%10):=⟨gm _ ⋯,jd _ ⋯⟩;have q3:F9 (q%10):=⟨gm _ ⋯,jd _ ⋯⟩;have η:dC (aF [v,p,l,q]) (.int 0)=aa (.int v):=cC (k:=0) rfl;have L:dC (aF [v,p,l,q]) (.int 1)=aa (.int p):=cC (k:=1) rfl;have at2:dC (aF [v,p,l,q]) (.int 2)=aa (.int l):=cC (k:=2) rfl;have Z:dC (aF [v,p,l,q]) (.int 3)=aa (.int q):=cC (k:=3) rfl;generalize hD:aF [v,p,l,q]=Dr at η L at2 Z
 -- the pieces
 have s1:=rm z ae (aa A);have s2:=rm z (aa A) ae;have s3:=rm z (aa (A+1)) ae;have s4:=rm z (aa 1) ae;have hxl:⇑x+1+(mS (W.take k)+mS (W.drop (k+1)))=mS W:=by
  have e:W=W.take k++x::W.drop (k+1):=by have:=Xi k W;rw[sv K] at this;rw[cm K] at hx;cases hx;show this.symm
  have:=dW (W.take k) (x::W.drop (k+1));rw[<- e,i6] at this;lia
 have hR:=HH x;have c1:=sL W ae (aa (k:Int));have c2:=sL W (aa ((k:Int)+1)) ae;have c3:=sL W (aa (k:Int)) ae;have c4:=sL (dO W (aa (k:Int)) ae) ae (aa 1);have c5:=sL W ae (aa ((k:Int)+1));have n1:=sM (dO W ae (aa (k:Int)));have n2:=sM (dO W (aa ((k:Int)+1)) ae);have n3:=sM (dO W (aa (k:Int)) ae);have n4:=sM (dO (dO W (aa (k:Int)) ae) ae (aa 1));have n5:=sM (dO W ae (aa ((k:Int)+1)))
 let a:ai:=BP (l%10)++"<"++BP (q%10)
 have lt:⇑a=3:=by show⇑(BP _++"<"++BP _:ai)=3;rw[len_app,len_app];rfl
 let o:ai:=gr z ae (aa A)++⟨#[c]⟩++gr z (aa A) ae
 let n:ai:=gr z ae (aa A)++gr z (aa (A+1)) ae
 let m:ai:=gr z ae (aa A)++⟨#[c]⟩++gr z (aa (A+1)) ae
 let v4:ai:=gi " " (dO W ae (aa (k:Int))++dO W (aa ((k:Int)+1)) ae)
 let v5:ai:=gi " " (dO W ae (aa (k:Int))++dO (dO W (aa (k:Int)) ae) ae (aa 1)++dO W (aa (k:Int)) ae)
 let v6:ai:=gi " " W.reverse
 let v7:ai:=gi " " (dO W ae (aa ((k:Int)+1))++[a]++dO W (aa ((k:Int)+1)) ae)
 let v8:ai:=" "++z
 let Pt:List ai:=dO W ae (aa (k:Int))++[iw x "<" " < "]++dO W (aa ((k:Int)+1)) ae
 let J:ai:=z++" "
 let v10:ai:=BP (l%10)++gr z (aa 1) ae
 let v11:ai:=gi " " Pt
 have e1:⇑(" ":ai)=1:=rfl;have m7:mS [a]=4:=by rw[i6,lt];rfl
 have mP:mS Pt<=3*⇑z+4:=by show mS (dO W ae (aa (k:Int))++[iw x "<" " < "]++dO W (aa ((k:Int)+1)) ae)<=_;have t1:=QS (xs:=W) (k:=k) ∅;have t2:dO W (aa ((k:Int)+1)) ae=W.drop (k+1):=HG (xs:=W) (k:=k+1) ∅;rw[t1,t2,dW,dW,i6];have:mS ([]:Q0g)=0:=rfl;lia
 have b1:⇑o<=3*⇑z+10:=by show⇑(_++_++_:ai)<=_;rw[len_app,len_app,len1];lia
 have b2:⇑n<=3*⇑z+10:=by show⇑(_++_:ai)<=_;rw[len_app];lia
 have b3:⇑m<=3*⇑z+10:=by show⇑(_++_++_:ai)<=_;rw[len_app,len_app,len1];lia
 have b4:⇑v4<=3*⇑z+10:=cy (l5 _) (by rw[dW];lia);have b5:⇑v5<=3*⇑z+10:=cy (l5 _) (by rw[dW,dW];lia);have b6:⇑v6<=3*⇑z+10:=cy (l5 _) (by rw[LO];lia);have b7:⇑v7<=3*⇑z+10:=cy (l5 _) (by rw[dW,dW,m7];lia);have b8:⇑v8<=3*⇑z+10:=by show⇑(_++_:ai)<=_;rw[len_app,e1];lia
 have b9:⇑J<=3*⇑z+10:=by show⇑(_++_:ai)<=_;rw[len_app,e1];lia
 have f1:⇑(BP (l%10))=1:=rfl;have Dm:⇑v10<=3*⇑z+10:=by show⇑(_++_:ai)<=_;rw[len_app,f1];lia
 have Dl:⇑v11<=3*⇑z+10:=cy (l5 _) ∅;have hb:∀y∈[o,n,m,v4,v5,v6,v7,v8,J,v10,v11],⇑y<=3*⇑z+10:=λy X=>by
  erw[bh,i_,or_false] at X;rcases X with h|h|h|h|h|h|h|h|h|h|h<;>rw[h]
  .exact b1
  .exact b2
  .exact b3
  .exact b4
  .exact b5
  .exact b6
  .exact b7
  .exact b8
  .exact b9
  .exact Dm
  .exact Dl
 have i0:=gm v (show(11:Int)≠0 by decide);have i1:=jd v (show(0:Int)<11 by decide);obtain⟨y,X⟩:∃y,[o,n,m,v4,v5,v6,v7,v8,J,v10,v11][(v%11).toNat]?=aa y:=⟨_,cm (by show _<11;lia)⟩;show⟨y,hb y (jz X),?_⟩
 let ρ:bG:=[.ro (.str z),.ro Dr,.ro (.int A),.ro (.str ⟨#[c]⟩),.ro (.lst (W.map D.str)),.ro (.int k),.ro (.str a),.no,.no]
 let ρ1:bG:=[.ro (.str z),.ro Dr,.ro (.int A),.ro (.str ⟨#[c]⟩),.ro (.lst (W.map D.str)),.ro (.int k),.ro (.str a),.ro (.lst ([o,n,m].map D.str)),.no]
 let I:bG:=[.ro (.str z),.ro Dr,.ro (.int A),.ro (.str ⟨#[c]⟩),.ro (.lst (W.map D.str)),.ro (.int k),.ro (.str a),.ro (.lst ([o,n,m,v4,v5].map D.str)),.no]
 let F:bG:=[.ro (.str z),.ro Dr,.ro (.int A),.ro (.str ⟨#[c]⟩),.ro (.lst (W.map D.str)),.ro (.int k),.ro (.str a),.ro (.lst ([o,n,m,v4,v5,v6,v7,v8].map D.str)),.no]
 let O:bG:=[.ro (.str z),.ro Dr,.ro (.int A),.ro (.str ⟨#[c]⟩),.ro (.lst (W.map D.str)),.ro (.int k),.ro (.str a),.ro (.lst ([o,n,m,v4,v5,v6,v7,v8].map D.str)),.ro (.lst (Pt.map D.str))]
 have hsl:lT (aK 1) (oE (eC (.int 2))) jZ (fB [.ro (.str z),.ro Dr,.ro (.int A),.no,.no,.no,.no,.no,.no])=aa (aF [l,q]):=by rw[<- hD];rfl
 show d7 rfl (aQ [.ro (.str z),.ro Dr,.ro (.int A),.no,.no,.no,.no,.no,.no] (cP (.int A) (aS (x:=.int p) (y:=.int ((⇑z:Int)+1)) (aS (x:=Dr) (y:=.int 1) rfl rfl L) (aS (x:=.int ⇑z) (y:=.int 1) (dF (x:=.str z) rfl el) rfl eV) (by rw[bI ∅,ha])) rfl)
  (aQ [.ro (.str z),.ro Dr,.ro (.int A),.ro (.str ⟨#[c]⟩),.no,.no,.no,.no,.no] (cP (.str ⟨#[c]⟩) (dR hsl hc) rfl)
  (aQ [.ro (.str z),.ro Dr,.ro (.int A),.ro (.str ⟨#[c]⟩),.ro (.lst (W.map D.str)),.no,.no,.no,.no] (cP (.lst (W.map D.str)) (aS (x:=.str z) (y:=.str " ") rfl rfl ?_) rfl)
  (aQ [.ro (.str z),.ro Dr,.ro (.int A),.ro (.str ⟨#[c]⟩),.ro (.lst (W.map D.str)),.ro (.int k),.no,.no,.no] (cP (.int k) (aS (x:=.int p) (y:=.int ⇑W) (aS (x:=Dr) (y:=.int 1) rfl rfl L) (dF (x:=.lst (W.map D.str)) rfl (by rw[f6,bp])) (by rw[bI ∅,hk])) rfl)
  (aQ ρ (cP (.str a) (mE (mE (dF (x:=.int (l%10)) (aS (x:=.int l) (y:=.int 10) (aS (x:=Dr) (y:=.int 2) rfl rfl at2) rfl (bI ⋯)) (l0 q2)) (y:="<") rfl (by rw[f1];decide)) (dF (x:=.int (q%10)) (aS (x:=.int q) (y:=.int 10) (aS (x:=Dr) (y:=.int 3) rfl rfl Z) rfl (bI ⋯)) (l0 q3)) (by rw[len_app];show 1+1+1<=100000;decide)) rfl)
  (aQ ρ1 (cP (.lst ([o,n,m].map D.str)) ?_ rfl)
  (aQ I (cP (.lst ([o,n,m,v4,v5].map D.str)) ?_ rfl)
  (aQ F (cP (.lst ([o,n,m,v4,v5,v6,v7,v8].map D.str)) ?_ rfl)
  (aQ O (cP (.lst (Pt.map D.str)) ?_ rfl) (eW ?_))))))))))
 .show (if ⇑z+2<=g8/\(⇑(" ":ai) == 0)=ag then aa (D.lst ((dh z " ").map D.str)) else ae)=_;rw[Z_ ⟨by show _<=16777216;lia,rfl⟩,Y]
 .have z1:oA (aK 0) jZ (oE (aK 2)) (fB ρ)=aa (.str (gr z ae (aa A))):=ssl rfl rfl rfl ∅;have z2:oA (aK 0) (oE (aK 2)) jZ (fB ρ)=aa (.str (gr z (aa A) ae)):=ssl rfl rfl rfl ∅;have z3:oA (aK 0) (oE (aB aX (aK 2) (eC (.int 1)))) jZ (fB ρ)=aa (.str (gr z (aa (A+1)) ae)):=ssl rfl rfl rfl ∅;show l3 (mE (mE z1 (y:=⟨#[c]⟩) rfl (by rw[len1];lia)) z2 (by rw[len_app,len1];lia)) (mE z1 z3 ∅) (mE (mE z1 (y:=⟨#[c]⟩) rfl (by rw[len1];lia)) z3 (by rw[len_app,len1];lia))
 .have y1:lT (aK 4) jZ (oE (aK 5)) (fB ρ1)=aa (.lst ((dO W ae (aa (k:Int))).map D.str)):=UU rfl rfl rfl;have U:lT (aK 4) (oE (aB aX (aK 5) (eC (.int 1)))) jZ (fB ρ1)=aa (.lst ((dO W (aa ((k:Int)+1)) ae).map D.str)):=UU rfl rfl rfl;have y3:lT (aK 4) (oE (aK 5)) jZ (fB ρ1)=aa (.lst ((dO W (aa (k:Int)) ae).map D.str)):=UU rfl rfl rfl;show sN (xs:=[o,n,m]) (ys:=[v4,v5]) rfl (l2 (vC (sN y1 U ∅) (by rw[dW];lia)) (vC (sN (sN y1 (UU y3 rfl rfl) ∅) y3 (by rw[cu];lia)) (by rw[dW,dW];lia))) (by show 3+2<=100000;decide)
 .have U:lT (aK 4) (oE (aB aX (aK 5) (eC (.int 1)))) jZ (fB I)=aa (.lst ((dO W (aa ((k:Int)+1)) ae).map D.str)):=UU rfl rfl rfl;have y5:lT (aK 4) jZ (oE (aB aX (aK 5) (eC (.int 1)))) (fB I)=aa (.lst ((dO W ae (aa ((k:Int)+1))).map D.str)):=UU rfl rfl rfl;have yr:J9 (aK 4) (fB I)=aa (.lst (W.reverse.map D.str)):=by show aa (D.lst (W.map D.str).reverse)=_;rw[Xp]
  show sN (xs:=[o,n,m,v4,v5]) (ys:=[v6,v7,v8]) rfl (l3 (vC yr (by rw[LO];lia)) (vC (sN (sN y5 (ys:=[a]) (l1 rfl) ?_) U ?_) (by rw[dW,dW,m7];lia)) (mE rfl rfl (by rw[e1];lia))) (by show 5+3<=100000;decide)
  .show _+1<=100000;lia
  .rw [cu];show _+1+_<=100000;lia
 .have y1:lT (aK 4) jZ (oE (aK 5)) (fB F)=aa (.lst ((dO W ae (aa (k:Int))).map D.str)):=UU rfl rfl rfl;have U:lT (aK 4) (oE (aB aX (aK 5) (eC (.int 1)))) jZ (fB F)=aa (.lst ((dO W (aa ((k:Int)+1)) ae).map D.str)):=UU rfl rfl rfl;have yx:aB dC (aK 4) (aK 5) (fB F)=aa (.str x):=aS (x:=.lst (W.map D.str)) (y:=.int k) rfl rfl (cC (k:=k) (by rw[d_,hx];rfl));show sN (sN y1 (ys:=[iw x "<" " < "]) (l1 (dF yx (Z_ ∅))) ?_) U ?_
  .show _+1<=100000;lia
  .rw [cu];show _+1+_<=100000;lia
 .have yl:aB aX (aK 7) (cV (aA (aB cB (aK 0) (eC (.str " "))) (aA (aB cB (bL kZ (aA (aB dH (aB dC (aK 1) (eC (.int 2))) (eC (.int 10))) aE)) (oA (aK 0) (oE (eC (.int 1))) jZ)) (aA (aB joinM (eC (.str " ")) (aK 8)) aE)))) (aV O)=aa (.lst ([o,n,m,v4,v5,v6,v7,v8,J,v10,v11].map D.str)):=by show sN (xs:=[o,n,m,v4,v5,v6,v7,v8]) (ys:=[J,v10,v11]) rfl (l3 (mE rfl rfl (by rw[e1];lia)) (mE (dF (x:=.int (l%10)) (aS (x:=.int l) (y:=.int 10) (aS (x:=Dr) (y:=.int 2) rfl rfl at2) rfl (bI ⋯)) (l0 q2)) (ssl rfl rfl rfl ∅) (by rw[f1];lia)) (vC (xs:=Pt) rfl ∅)) (by show 8+3<=100000;decide)
  show aS (x:=.lst ([o,n,m,v4,v5,v6,v7,v8,J,v10,v11].map D.str)) (y:=.int (v%11)) yl (aS (x:=.int v) (y:=.int 11) (aS (x:=Dr) (y:=.int 0) rfl rfl η) rfl (bI ⋯)) ?_;have:=cC (xs:=[o,n,m,v4,v5,v6,v7,v8,J,v10,v11].map D.str) (k:=(v%11).toNat) (x:=.str y) (by rw[d_,X];rfl);rw[Bz i0] at this;show this
def AN:EF:=bL anyM (aA (dD 1 [7,5,8] (bP (aA (bL eP (bW 5)) aE)) (g1 0) bY (g9 (aB (nP ag) cH (aB dC fE bV)) (aB (nP ag) bV (aB dC fE kT)))) aE)
def HI{x:Q0a}(n:⇑x<=9){p:Int×Int}(m:0<=p.2)(l:p.2<(⇑x:Int)){a b c d e g:Option D}:∃t:Bool,AN [a,b,c,d,e,aa (bE x),g,aa (.int p.1),aa (.int p.2),ae]=aa (.bl t):=by
 show⟨_,dF (x:=.lst ((bT 0 ⇑x).map λc=>D.bl ((row x c).contains p.1&&(row x p.2).contains c))) (qJ ((bT 0 ⇑x).map D.int) (KO (dF rfl n6) ∅) (by rw[bp,bM];lia) (jN D.int (λc=>D.bl ((row x c).contains p.1&&(row x p.2).contains c)) _ λc j=>⟨_,rfl,?_⟩)) (z:=aa (.bl (((bT 0 ⇑x).map λc=>(row x c).contains p.1&&(row x p.2).contains c).any id))) ?_⟩
 .have rc:=cQ.1 j;show K7 (p:=(row x c).contains p.1) (aS (x:=.int p.1) (y:=τ (row x c)) rfl (aS (x:=bE x) (y:=.int c) rfl rfl (sA ∅ ∅)) xG) (λh=>?_) λh=>by rw[h];rfl
  rw[h,jt];show aS (x:=.int c) (y:=τ (row x p.2)) rfl (aS (x:=bE x) (y:=.int p.2) rfl rfl (sA m l)) xG
 .have e:((bT 0 ⇑x).map λc=>D.bl ((row x c).contains p.1&&(row x p.2).contains c))=((bT 0 ⇑x).map λc=>(row x c).contains p.1&&(row x p.2).contains c).map D.bl:=by rw[ij];rfl
  rw[e,E6]
def T3(xs:Q0g):Prop:=∀w∈xs,⇑w=3
theorem UW{xs:Q0g}(h:T3 xs):mS xs=4*⇑xs:=by
 induction xs with
 |nil=>rfl
 |cons a r ih =>
  rw[i6,h a b_,ih λw hw=>h w (cq _ hw),cn];lia
def FH(ns:Q0e)(k s:Int):∃z:ai,⇑z<=3000/\lA [.i9 ns,.int k,.int s]=.ok (.str z):=by
 unfold lA;obtain⟨c1,ec1⟩:=xF ns k;obtain⟨ds,K,hdn,ed⟩:=rZ c1 12 s ⋯ ⋯;obtain⟨n,l,m,x3,x4,I,F,A,v,o,J,L,rfl⟩:∃n l m x3 x4 I F A v o J L,ds=[n,l,m,x3,x4,I,F,A,v,o,J,L]:=by
  have K:⇑ds=12:=K
  match ds,K with
  |[n,l,m,x3,x4,I,F,A,v,o,J,L],_=>show⟨_,_,_,_,_,_,_,_,_,_,_,_,rfl⟩
 have g:∀x∈[n,l,m,x3,x4,I,F,A,v,o,J,L],0<=x:=hdn;have η:dC (aF [n,l,m,x3,x4,I,F,A,v,o,J,L]) (.int 0)=aa (.int n):=cC (k:=0) rfl;have at1:dC (aF [n,l,m,x3,x4,I,F,A,v,o,J,L]) (.int 1)=aa (.int l):=cC (k:=1) rfl;have at2:dC (aF [n,l,m,x3,x4,I,F,A,v,o,J,L]) (.int 2)=aa (.int m):=cC (k:=2) rfl;have Z:slM (aF [n,l,m,x3,x4,I,F,A,v,o,J,L]) (aa 3) (aa 7)=aa (aF [x3,x4,I,F]):=rfl;have Y:slM (aF [n,l,m,x3,x4,I,F,A,v,o,J,L]) (aa 7) (aa 11)=aa (aF [A,v,o,J]):=rfl;generalize aF [n,l,m,x3,x4,I,F,A,v,o,J,L]=Hd at ed η at1 at2 Z Y;obtain⟨j,uf⟩:∃j:Q0g,j=(["","0","9","10"," ","0 0<0","1 0<0","2 0<1 1<0","2 0<2","3 0<1 1<2 2<0 0<5","2 0<1  ","a","-1","2 0>1","2 1<0 0","3 0<1,1<2","00","2 0<1 1<0 x","1 1<1","3 2<1 2<1 2<1","2 0<2 0>1","1 0<0 0<5,","3 0<1 0<1 0<1 "]:Q0g):=⟨_,rfl⟩;have Dg:∀w∈j,⇑w<=100:=by rw[uf];decide+kernel
 have De:⇑j=23:=by rw[uf];rfl
 have X:∀{a b c d:Option D} {r:cD},aB dH (aB dC fC (eI 0)) (eI 8) (a::b::c::d::aa Hd::r)=aa (.int (n%8)):=λ{a b c d r}=>binI (x:=n) (y:=8) (aS (x:=Hd) (y:=.int 0) rfl rfl η) rfl (bI ⋯);have e0:aY 3 (cV (E9 ["","0","9","10"," ","0 0<0","1 0<0","2 0<1 1<0","2 0<2","3 0<1 1<2 2<0 0<5","2 0<1  ","a","-1","2 0>1","2 1<0 0","3 0<1,1<2","00","2 0<1 1<0 x","1 1<1","3 2<1 2<1 2<1","2 0<2 0>1","1 0<0 0<5,","3 0<1 0<1 0<1 "])) (bN 10 [.i9 ns,.int k,.int s])=.nx [.ro (.i9 ns),.ri k,.ri s,.ro (.lst (j.map D.str)),.no,.no,.no,.no,.no,.no]:=by rw[uf];rfl
 by_cases h1:n%8=1
 .obtain ⟨w,hw⟩:∃w,j[(l%23).toNat]?=aa w:=⟨_,cm (by have:=jd l (show(0:Int)<23 by decide);have:=gm l (show(23:Int)≠0 by decide);rw[De];lia)⟩;show⟨w,cy (Dg w (jz hw)) ⋯,?_⟩;show d7 rfl (aQ _ e0 (aQ [.ro (.i9 ns),.ri k,.ri s,.ro (.lst (j.map D.str)),.ro Hd,.no,.no,.no,.no,.no] (cP Hd (jC (dS rfl rfl ec1) rfl rfl ed) rfl) (mU (uI (mD (aS X (y:=.int 1) rfl (by rw[cM,Zx h1])) rfl) (eW (aS (x:=.lst (j.map D.str)) (y:=.int (l%23)) rfl (binI (x:=l) (y:=23) (aS (x:=Hd) (y:=.int 1) rfl rfl at1) rfl (bI ⋯)) ?_))))));have:=cC (xs:=j.map D.str) (k:=(l%23).toNat) (x:=.str w) (by rw[d_,hw];rfl);rw[Bz (gm l ⋯)] at this;show this
 .obtain ⟨dd,edr,x,hxl,hx,rfl⟩:=KU ns (k+1) 9 (s+20011) ⋯ ⋯;have hn:⇑x<=9:=∅
  have hT:=KW.Qz hx hn;obtain⟨ρ',elo,xs,v7,v8,U,hxs,rfl⟩:Nx (d6 (bU (aJ LL.iC (bW 5))) (kQ 7 8)
    (gH (gF (tV AN))
     (sX (J8 6 (aB dH (aB dC fC (eI 2)) (aB aX (bL eP (bW 6)) (eI 1))) (aB cB (aB cB (bL kZ (bW 7)) (eC (.str "<"))) (bL kZ (bW 8)))))
     cZ) [.ro (.i9 ns),.ri k,.ri s,.ro (.lst (j.map D.str)),.ro Hd,.ro (bE x),.ow (.lst []),.no,.no,.no]) (λρ=>∃xs v7 v8,T3 xs/\⇑xs<=63/\ρ=[Sv.ro (.i9 ns),.ri k,.ri s,.ro (.lst (j.map D.str)),.ro Hd,.ro (bE x),.ow (.lst (xs.map D.str)),v7,v8,.no]):=by
   show CF ((KW.T x).map pairD) (λi ρ=>∃xs v7 v8,T3 xs/\⇑xs<=i/\ρ=[Sv.ro (.i9 ns),.ri k,.ri s,.ro (.lst (j.map D.str)),.ro Hd,.ro (bE x),.ow (.lst (xs.map D.str)),v7,v8,.no]) ?_ ⟨[],_,_,λw hw=>(nomatch hw),bf _,rfl⟩ ?_ λρ h=>?_
   .unfold bU;rw[dR (x:=bE x) rfl (G7 hx hn)];rfl
   .rintro i d _ K ⟨xs,v7,v8,U,hxs,rfl⟩;rw[d_] at K
    cases q:(KW.T x)[i]? with
    |none=>rw[q] at K;cases K
    |some p =>
     rw[q] at K;have K:=fu K;subst K;have hi:i<⇑(KW.T x):=(c_.mp q).1;obtain⟨h0,h1,h2⟩:=KW.Q_.mp (jz q);have ra:=KW.u5 hx h0 h1 h2;show⟨[.ro (.i9 ns),.ri k,.ri s,.ro (.lst (j.map D.str)),.ro Hd,.ro (bE x),.ow (.lst (xs.map D.str)),.ri p.1,.ri p.2,.no],rfl,?_⟩;obtain⟨t,et⟩:=HI hn h0 h1 (p:=p) (a:=aa (.i9 ns)) (b:=aa (.int k)) (c:=aa (.int s)) (d:=aa (.lst (j.map D.str))) (e:=aa Hd) (g:=aa (.lst (xs.map D.str)));show UJ (!t) (P4 (mD (d:=.bl t) et rfl) rfl) (λhb=>?_) λhb=>⟨_,rfl,xs,_,_,U,∅,rfl⟩;have q1:F9 p.1:=⟨∅,∅⟩;have q2:F9 p.2:=⟨∅,∅⟩;have l1:⇑(BP p.1)=1:=rfl;have ei:aB dH (aB dC fC (eI 2)) (aB aX (bL eP (bW 6)) (eI 1)) (aV [.ro (.i9 ns),.ri k,.ri s,.ro (.lst (j.map D.str)),.ro Hd,.ro (bE x),.ow (.lst (xs.map D.str)),.ri p.1,.ri p.2,.no])=aa (.int (m%((⇑xs:Int)+1))):=by show binI (x:=m) (y:=((⇑xs:Int)+1)) (aS (x:=Hd) (y:=.int 2) rfl rfl at2) (binI (x:=⇑xs) (y:=1) (dF (x:=.lst (xs.map D.str)) rfl (by rw[f6,bp])) rfl eV) (bI ∅)
     have es:aB cB (aB cB (bL kZ (bW 7)) (eC (.str "<"))) (bL kZ (bW 8)) (aV [.ro (.i9 ns),.ri k,.ri s,.ro (.lst (j.map D.str)),.ro Hd,.ro (bE x),.ow (.lst (xs.map D.str)),.ri p.1,.ri p.2,.no])=aa (.str (BP p.1++"<"++BP p.2)) :=
      mE (mE (dF (x:=.int p.1) rfl (l0 q1)) (y:="<") rfl (by rw[l1];decide)) (dF (x:=.int p.2) rfl (l0 q2)) (by rw[len_app];show 1+1+1<=100000;decide)
     have k0:=gm m (show((⇑xs:Int)+1)≠0 by lia);have k1:=jd m (show(0:Int)<(⇑xs:Int)+1 by lia);generalize m%((⇑xs:Int)+1)=kk at ei k0 k1;show⟨[.ro (.i9 ns),.ri k,.ri s,.ro (.lst (j.map D.str)),.ro Hd,.ro (bE x),.ow (.lst ((xs.take kk.toNat++(BP p.1++"<"++BP p.2)::xs.drop kk.toNat).map D.str)),.ri p.1,.ri p.2,.no],?_,xs.take kk.toNat++(BP p.1++"<"++BP p.2)::xs.drop kk.toNat,_,_,λw hw=>?_,?_,rfl⟩
     .unfold sX J8;rw[show kX ([Sv.ro (.i9 ns),.ri k,.ri s,.ro (.lst (j.map D.str)),.ro Hd,.ro (bE x),.ow (.lst (xs.map D.str)),.ri p.1,.ri p.2,.no]:bG)[6]?=aa (xs.map D.str) from rfl,cj,ei,cj,show asInt (.int kk)=aa kk from rfl,cj,es,cj,Z_ ⟨rfl,k0,by rw[bp];lia,by rw[bp];show _<16777216;lia⟩];show Out.nx _=Out.nx _;rw[gk,bt,Xo,Xq];rfl
     .rcases dq.mp hw with hw|hw
      .exact U w (List.mem_of_mem_take hw)
      .rcases bh.mp hw with rfl|hw
       .rw [len_app,len_app];rfl
       .exact U w (List.mem_of_mem_drop hw)
     .rw [cu,cn,kh,me];lia
   .obtain ⟨xs,v7,v8,a,b,c⟩:=h;rw[bp] at b;show⟨xs,v7,v8,a,∅,c⟩
  have qn:F9 (⇑x:Int):=⟨∅,∅⟩;have f1:⇑(BP (⇑x:Int))=1:=rfl;obtain⟨z,hz⟩:∃z,z=gi " " ([BP (⇑x:Int)]++xs):=⟨_,rfl⟩;have lz:⇑z<=254:=by rw[hz];show cy (l5 _) ?_;rw[dW,UW U,i6,f1];show 1+1+0+_<=_;lia
  have ez:aB joinM (eC (.str " ")) (aB aX (cV (aA (bL kZ (aA (bL eP (bW 5)) aE)) aE)) uU) (aV [.ro (.i9 ns),.ri k,.ri s,.ro (.lst (j.map D.str)),.ro Hd,.ro (bE x),.ow (.lst (xs.map D.str)),v7,v8,.no])=aa (.str z):=by rw[hz];show vC (sN (l1 (dF (x:=.int ⇑x) (dF (x:=bE x) rfl n6) (l0 qn))) rfl (by show 1+_<=_;lia)) ?_;rw[dW,UW U,i6,f1];show 1+1+0+_<=_;lia
  let ρ:ai->bG:=λz=>[.ro (.i9 ns),.ri k,.ri s,.ro (.lst (j.map D.str)),.ro Hd,.ro (bE x),.ow (.lst (xs.map D.str)),v7,v8,.ro (.str z)]
  obtain⟨O,lz1,e1⟩:∃O:ai,⇑O<=3*⇑z+10/\gH (tV (aB J4 (aB dH (aB dC fC (eI 0)) (eI 8)) (eI 1))) (aY 9 (aJ eG (aA UD (aA (lT fC (oE (eI 3)) (oE (eI 7))) aE)))) cZ (ρ z)=.nx (ρ O):=by
   by_cases h:1<n%8
   .obtain ⟨y,ly,ey⟩:=vD (z:=z) ∅ (g x3 (by simp)) (g x4 (by simp)) (g I (by simp)) (g F (by simp));show⟨y,ly,uI (mD (aS X (y:=.int 1) rfl (by rw[fV,Zx h])) rfl) (cP (.str y) (dS (x:=.str z) rfl Z ey) rfl)⟩
   .exact ⟨z,∅,nW (mD (aS X (y:=.int 1) rfl (by rw[fV,Zy h])) rfl) rfl⟩
  obtain⟨z2,lz2,e2⟩:∃z2:ai,⇑z2<=3*⇑O+10/\gH (tV (aB J4 (aB dH (aB dC fC (eI 0)) (eI 8)) (eI 6))) (aY 9 (aJ eG (aA UD (aA (lT fC (oE (eI 7)) (oE (eI 11))) aE)))) cZ (ρ O)=.nx (ρ z2):=by
   by_cases h:6<n%8
   .obtain ⟨y,ly,ey⟩:=vD (z:=O) ∅ (g A (by simp)) (g v (by simp)) (g o (by simp)) (g J (by simp));show⟨y,ly,uI (mD (aS X (y:=.int 6) rfl (by rw[fV,Zx h])) rfl) (cP (.str y) (dS (x:=.str O) rfl Y ey) rfl)⟩
   .exact ⟨O,∅,nW (mD (aS X (y:=.int 6) rfl (by rw[fV,Zy h])) rfl) rfl⟩
  show⟨z2,∅,d7 rfl (aQ _ e0 (aQ [.ro (.i9 ns),.ri k,.ri s,.ro (.lst (j.map D.str)),.ro Hd,.no,.no,.no,.no,.no] (cP Hd (jC (dS rfl rfl ec1) rfl rfl ed) rfl) (aQ _ (nW (mD (aS X (y:=.int 1) rfl (by rw[cM,Zy h1])) rfl) rfl) (aQ [.ro (.i9 ns),.ri k,.ri s,.ro (.lst (j.map D.str)),.ro Hd,.ro (bE x),.no,.no,.no,.no] (cP (bE x) (V3 rfl rfl rfl rfl edr) rfl) (aQ [.ro (.i9 ns),.ri k,.ri s,.ro (.lst (j.map D.str)),.ro Hd,.ro (bE x),.ow (.lst []),.no,.no,.no] rfl (aQ _ elo (aQ (ρ z) ?_ (aQ _ e1 (aQ _ e2 (eW rfl))))))))))⟩;unfold jH qG;rw[ez];rfl
def LR(ns:Q0e)(p:⇑ns<=63):u9 [.i9 ns]=.ok (.bl af):=by unfold u9;obtain⟨m,q,x⟩:=FH ns 0 100003;obtain⟨l,h2,v⟩:=FH ns 3 400009;obtain⟨d,p1,j,A⟩:=z4 q;obtain⟨y,o,F,z⟩:=z4 h2;have a:=same_refl 6 d p1;have n:=same_refl 6 y o;show d7 rfl (aQ _ (cP (.str m) (jC rfl rfl rfl x) rfl) (aQ _ (cP (.str l) (jC rfl rfl rfl v) rfl) (aQ _ (cP d (dR rfl A) rfl) (aQ _ (nW ?_ rfl) (eW (dS (dR rfl j) rfl a))))));show uJ (b:=ag) (P4 (mD (dS (dR rfl j) rfl a) rfl) rfl) (λ_=>P4 (mD (dS (dR rfl F) (dR rfl z) n) rfl) rfl) λh=>by cases h
end K07
section
-- CHANGE: your row's module here,as the last of these rows
namespace L2
open PySem.Spec PyProof.Rows
abbrev Key:=Sum Int ai
noncomputable def vE:Key->aj->Bool
 |.inl k,v=>Ub k v
 |.inr x,v=>Ua x v
noncomputable def Lh(w:az):Key->Int
 |.inl k=>hashInt k
 |.inr x=>hashStr w x
theorem bR:∀{k:Key} {v:aj},vE k v=af->(∃i t,k=cg i/\v=ie i t)\/(∃x t,k=jf x/\v=vc x t)
 |.inl i,v,h=>by obtain⟨t,e⟩:=Value.isInt_shape (k:=i) (v:=v) h;show .inl ⟨i,t,rfl,e⟩
 |.inr x,v,h=>by obtain⟨t,e⟩:=Value.isStrOf_shape (x:=x) (v:=v) h;show .inr ⟨x,t,rfl,e⟩
def HJ(i:Int)(t:f_):vE (.inl i) (.int i t)=af:=by simp[vE,Ub]
def HK(x:ai)(t:f_):vE (.inr x) (.str x t)=af:=by simp[vE,Ua]
def WK(a b:Int):Zv ((cg a:Key)=cg b)=(a == b):=by
 by_cases e:a=b
 .subst e;simp
 .have h:¬ (cg a:Key)=cg b:=λq=>e (Sum.inl.inj q);rw[Zy h];show(beq_eq_false_iff_ne.mpr e).symm
def WL(a b:ai):Zv ((jf a:Key)=jf b)=Zv (a=b):=by
 by_cases e:a=b
 .subst e;simp
 .have h:¬ (jf a:Key)=jf b:=λq=>e (Sum.inr.inj q);rw[Zy h,Zy e]
def WM(a:Int)(b:ai):Zv ((cg a:Key)=jf b)=ag:=Zy (λq=>nomatch q)
def WN(a:ai)(b:Int):Zv ((jf a:Key)=cg b)=ag:=Zy (λq=>nomatch q)
def aT(Ω:bb)(w:az):PySem.KeyKind Ω w Key where
 is:=vE
 hash:=Lh w
 inj:=λv a b o m=>by
  rcases bR o with⟨i,t,rfl,rfl⟩|⟨x,t,rfl,rfl⟩
  .rcases bR m with⟨j,u,rfl,e⟩|⟨y,u,rfl,e⟩
   .injection e with d _;rw[d]
   .exact nomatch e
  .rcases bR m with⟨j,u,rfl,e⟩|⟨y,u,rfl,e⟩
   .exact nomatch e
   .injection e with d _;rw[d]
 byValue:=λk v h=>by rcases bR h with⟨i,t,rfl,rfl⟩|⟨x,t,rfl,rfl⟩<;>rfl
 pyHash:=λl h=>by
  rcases bR l with⟨i,t,rfl,rfl⟩|⟨x,t,rfl,rfl⟩
  .exact wpAny_pyHash_int h
  .exact wpAny_pyHash_str h
 eqBool:=λn l h=>by
  rcases bR n with⟨i,t,rfl,rfl⟩|⟨x,t,rfl,rfl⟩
  .rcases bR l with⟨j,u,rfl,rfl⟩|⟨y,u,rfl,rfl⟩
   .rw [WK] at h;show Sb h
   .rw [WM] at h;show Um i t y u _ _ _ _ h
  .rcases bR l with⟨j,u,rfl,rfl⟩|⟨y,u,rfl,rfl⟩
   .rw [WN] at h;show Uk x t j u _ _ _ _ h
   .rw [WL] at h;show wpAny_eqBool_str h
 «strs»:=λk x t v h=>by
  rcases bR h with⟨i,u,rfl,e⟩|⟨y,u,rfl,e⟩
  .exact nomatch e
  .injection e with d _;subst d;cases v<;>rfl
def z5(Ω:bb)(w:az)(i:Int)(t:f_):(aT Ω w).is (.inl i) (.int i t)=af:=HJ i t
def z6(Ω:bb)(w:az)(x:ai)(t:f_):(aT Ω w).is (.inr x) (.str x t)=af:=HK x t
abbrev N1:=List (Sum Key (List Key))
abbrev KX:=Sum Key N1
section
variable{Ω:bb}{w:az}{K:Type}[dK:DecidableEq K](knd:KeyKind Ω w K)
noncomputable def m9(h:a_):Sum K (List K)->aj->Prop
 |.inl k,v=>knd.is k v=af
 |.inr ks,v=>∃b,v=.ref b/\IsTupleKey knd h ks b
inductive fN (h:a_):List (Sum K (List K))->List aj->Prop
 |nil:fN h [] []
 |cons {k:Sum K (List K)} {v:aj} {ks:List (Sum K (List K))} {vs:Q0f}:m9 knd h k v->fN h ks vs->fN h (k::ks) (v::vs)
def fO(h:a_)(ks:List (Sum K (List K)))(a:ah):Prop:=∃o items n,h.get? a=aa o/\o.cls=.type "tuple" /\o.data=.seq items n/\fN knd h ks items.toList
variable{knd}
theorem m9.inj{h:a_}{v:aj}:∀{x y:Sum K (List K)},m9 knd h x v->m9 knd h y v->x=y
 |.inl a,.inl b,hx,hy=>by rw[knd.inj _ _ _ hx hy]
 |.inl a,.inr b,hx,⟨q,e,_⟩=>by subst e;show Zw (knd.byValue _ _ hx) (by simp[carriedByValue])
 |.inr a,.inl b,⟨q,e,_⟩,hy=>by subst e;show Zw (knd.byValue _ _ hy) (by simp[carriedByValue])
 |.inr a,.inr b,⟨q,e,hx⟩,⟨r,f,hy⟩=>by subst e;injection f with f;subst f;rw[hx.inj hy]
theorem fN.inj{h:a_}{x:List (Sum K (List K))}{vs:Q0f}(d:fN knd h x vs):∀{y},fN knd h y vs->x=y:=by
 induction d with
 |nil=>intro y a;cases a;rfl
 |cons h1 _ ih =>
  intro y a
  cases a with
  |cons h2 t2=>rw[h1.inj h2,ih t2]
def fO.typeIs{s:ak}{ks:List (Sum K (List K))}{a:ah}(x:fO knd s.heap ks a):s.TypeIs (.ref a) "tuple":=let ⟨o,_,_,ho,hc,_⟩:=x;⟨o,ho,hc⟩
def fO.inj{h:a_}{a:ah}{x y:List (Sum K (List K))}(p:fO knd h x a)(m:fO knd h y a):x=y:=by obtain⟨o,z,n,ho,_,v,q⟩:=p;obtain⟨A,its',F,d,_,j,l⟩:=m;rw[ho] at d;cases d;rw[v] at j;cases j;show q.inj l
theorem fO.keeps{es ep}(x:fO knd h ks a)(ho:h.get? d=aa o)(l:o.data=.dict es ep)(m:jl d h h'):fO knd h' ks a:=by
 obtain⟨q,items,n,p,A,y,j⟩:=x;have ne:a≠d:=λz=>by subst z;rw[p] at ho;cases ho;rw[y] at l;cases l
 show⟨q,items,n,(m.2 a ne).trans p,A,y,?_⟩;have go:∀{ks:List (Sum K (List K))} {vs:Q0f},fN knd h ks vs->fN knd h' ks vs:=by
  intro ks vs t
  induction t with
  |nil=>show .nil
  | @cons k v ks vs h1 _ ih =>
   show .cons ?_ ih
   cases k with
   |inl k=>show h1
   |inr k=>obtain⟨b,e,F⟩:=h1;show⟨b,e,F.keeps ho l m⟩
 show go j
noncomputable def oD(knd:KeyKind Ω w K):Sum K (List K)->Int
 |.inl k=>knd.hash k
 |.inr ks=>tupleKeyHash knd ks
noncomputable def jO:Sum K (List K)->Nat
 |.inl _=>1
 |.inr ks=>⇑ks+1
def sO(knd:KeyKind Ω w K)(ks:List (Sum K (List K))):Int:=reduceHash (Vt (ks.map (oD knd)))
def l6(ks:List (Sum K (List K))):Nat:=(ks.map jO).sum+1
variable{s:ak}{A:bo}{E:Q0c}
theorem HL(d:A.units<fv)(a:m9 knd s.heap k v)(h:Q (oD knd k) {s with toks:=s.toks+jO k}):av (aw Ω w) A (pyHash v) Q E s:=by
 cases k with
 |inl k=>show knd.pyHash a h
 |inr k =>
  obtain⟨b,e,j⟩:=a;subst e;show wpAny_pyHash_tuple d j h
def sP(x:IsTupleKey knd h ks b):∃items,h.IsTuple b items:=by obtain⟨o,items,n,ho,d,a,_⟩:=x;show⟨items,o,ho,d,n,a⟩
end
section
variable{P:bb}{w:az}{A:bo}{E:Q0c}{s:ak}
theorem QU(j:A.units<fv)(n:m9 (aT P w) s.heap x u)(m:m9 (aT P w) s.heap y v)(h:Q (Zv (x=y)) s):av (aw P w) A (eqBool u v) Q E s:=by
 cases x with
 |inl x =>
  cases y with
  |inl y =>
   show(aT P w).eqBool n m ?_;rw[show Zv (x=y)=Zv ((cg x:Sum Key (List Key))=cg y) by simp];show h
  |inr y =>
   obtain⟨b,e,d⟩:=m;subst e;obtain⟨o,d⟩:=sP d;rw[show Zv ((cg x:Sum Key (List Key))=jf y)=ag by simp] at h;rcases bR n with⟨i,t,rfl,rfl⟩|⟨i,t,rfl,rfl⟩
   .exact a0n i t d j P w E Q h
   .exact a0g i t d j P w E Q h
 |inr x =>
  obtain⟨a,e,l⟩:=n;subst e
  cases y with
  |inl y =>
   obtain⟨o,l⟩:=sP l;rw[show Zv ((jf x:Sum Key (List Key))=cg y)=ag by simp] at h;rcases bR m with⟨i,t,rfl,rfl⟩|⟨i,t,rfl,rfl⟩
   .exact a0f i t l j P w E Q h
   .exact a0e i t l j P w E Q h
  |inr y =>
   obtain⟨b,e,d⟩:=m;subst e;show wpAny_eqBool_tuple j l d ?_;rw[show Zv (x=y)=Zv ((jf x:Sum Key (List Key))=jf y) by simp];show h
theorem vF:∀(a:Q0f) (left:List (Sum Key (List Key))) (b:Array Int) (s:ak) (R:Array Int->ak->Prop),A.units<fv->fN (aT P w) s.heap left a ->
  (∀d:Array Int,d.toList=b.toList++left.map (oD (aT P w))->R d {s with toks:=s.toks+(left.map jO).sum}) ->
  av (aw P w) A (forIn a b λx r=>do
   let r' <- pyHash x
   pure (kq (r.push r'))) R E s
 |[],left,b,s,R,hu,t,k=>by cases t;show ax (k b (by simp))
 |v::a,left,b,s,R,hu,t,k=>by
  cases t with
  | @cons kk _ ks _ h1 h2 =>
   rw[qi];show ao (ao (HL hu h1 (ax ?_)));show vF a ks _ _ _ hu h2 λd e=>?_;have:=k d (by rw[e];simp);simpa[Xf] using this
def HM{ks:List (Sum Key (List Key))}{a:ah}{Q:Int->ak->Prop}(q:A.units+1<fv)(m:fO (aT P w) s.heap ks a)(h:Q (sO (aT P w) ks) {s with toks:=s.toks+l6 ks}):av (aw P w) A (pyHash (.ref a)) Q E s:=by
 have j:=m.typeIs;obtain⟨o,p,n,ho,_,x,v⟩:=m;have d:=F.slot_tuple_hash;unfold pyHash pyHashByItsType
 wp_walk using wpAny_cRoomFor_or (.inr ∅),um j d.lookup,(wpAny_callSpecialIfBoundUnlessNone?_slot j d (gu d j F.entry_tuple_hash ?_ (F.args_tuple_hash_1 _)))
 rw[x];show ax (ax (ao ?_));rw[<- Yt];show vF p.toList ks #[] s _ q v λb y=>?_;dsimp only;rw[y,nh];unfold sO reduceHash at h;show wpAny_ret_mkInt ?_;have I:s.toks+(ks.map jO).sum+1=s.toks+l6 ks:=by unfold l6;lia
 show av (aw P w) A (pyHashByItsType.reduced _) Q E {s with toks:=s.toks+(ks.map jO).sum+1};rw[I];unfold pyHashByItsType.reduced;generalize Vt (ks.map (oD (aT P w)))=z at h ⊢;by_cases l:(Zv (-(2^63:Int)<=z)&&Zv (z<2^63))=af
 .rw [Z_ l] at h ⊢;show ax h
 .rw [Zz l] at h ⊢;show ao (iq ?_);show ax h
theorem eq_loop:∀(x y:List (Sum Key (List Key))) (xs ys:Q0f) (R:Option Fin×Unit->ak->Prop),A.units<fv->fN (aT P w) s.heap x xs->fN (aT P w) s.heap y ys ->
  (x≠y->R (aa (.done (.ret (.bool ag))),()) s)->((x=y↔⇑xs=⇑ys)->R (ae,()) s) ->
  av (aw P w) A (forIn (xs.zip ys) ((ae,()):Option Fin×Unit) λp _=>do
   let c <- eqBool p.1 p.2
   if(!c)=af then do
    let q <- ret (vd ag)
    pure (Yh (aa q,()))
   else pure (kq (ae,()))) R E s
 |[],y,xs,ys,R,hu,hx,hy,k1,k2=>by cases hx;show ax (k2 ?_);cases hy<;>simp
 |kx::x,[],xs,ys,R,hu,hx,hy,k1,k2=>by cases hx;cases hy;show ax (k2 (by simp))
 |kx::x,ky::y,xs,ys,R,hu,hx,hy,k1,k2=>by
  cases hx with
  | @cons _ u _ xs hx1 hx2 =>
   cases hy with
   | @cons _ v _ ys hy1 hy2 =>
    rw[Xg,qi];show ao (ao (QU hu hx1 hy1 ?_));by_cases a:kx=ky
    .subst a;rw[Zx rfl,Zz ⋯];show ax (eq_loop x y xs ys R hu hx2 hy2 (λn=>k1 ↑n) λe=>k2 ?_);simpa using e
    .rw [Zy a,Z_ ⋯];show ao (ax (ax (ax (k1 (by simp[a])))))
def QV{x y:List (Sum Key (List Key))}{a b:ah}{Q:Bool->ak->Prop}(U:A.units+1<fv)(l:fO (aT P w) s.heap x a)(j:fO (aT P w) s.heap y b)(h:Q (Zv (x=y)) s):av (aw P w) A (eqBool (.ref a) (.ref b)) Q E s:=by
 have L:=l.typeIs;have ty:=j.typeIs;have O:=Uy;by_cases d:a=b
 .subst d;rw[l.inj j,Zx rfl] at h;show Ul _ P w E Q h
 .obtain ⟨Z,xs,na,p,_,K,I⟩:=l;obtain⟨Y,ys,nb,o,_,J,v⟩:=j;unfold eqBool;rw[Zz ↑d];have m:A.units<fv:=∅
  apply gp;apply ao;show(wpAny_richCompare_same_room (op:=.Eq) L ty O (gu O L F.entry_tuple_eq ?_ (F.args_tuple_eq_2 _ _)) m);unfold Builtin.«tuple.__eq__»
  wp_walk using qy ty Ta,Rl p K,Rl o J
  show eq_loop x y xs.toList ys.toList _ U I v (λn=>?_) λe=>?_
  .rw [Zy n] at h;show ax ⟨_,rfl,(λz=>nomatch z),kc h⟩
  .refine ax ⟨_,rfl,(λz=>nomatch z),?_⟩;have X:(xs.size == ys.size)=Zv (x=y):=by
    by_cases q:x=y
    .rw [Zx q];simpa using e.1 q
    .rw [Zy q];simpa using λz=>q (e.2 z)
   show av (aw P w) A (truthOfDropped (.bool (xs.size == ys.size))) Q E s;rw[X];show kc h
theorem sQ:∀(vs:Q0f) (R:Option Bool×Unit->ak->Prop),(∀v∈vs,∀Q:Bool->ak->Prop,Q af s->av (aw P w) A (eqIsQuiet d v) Q E s)->R (ae,()) s ->
  av (aw P w) A (forIn vs ((ae,()):Option Bool×Unit) λy _=>do
   let c <- eqIsQuiet d y
   if(!c)=af then pure (Yh (aa ag,()))
   else pure (kq (ae,()))) R E s
 |[],R,hq,k=>ax k
 |v::vs,R,hq,k=>by rw[qi];show ao (ao (hq v b_ _ ?_));rw[Zz ⋯];show ax (sQ vs R (λu a=>hq u (cq _ a)) k)
theorem vG(j:s.TypeIs (dg a) "tuple")(ho:s.heap.get? a=aa o)(p:o.data=.seq xs n)(m:∀v∈xs.toList,∀Q:Bool->ak->Prop,Q af s->av (aw P w) A (eqIsQuiet d v) Q E s)(h:Q af s):
  av (aw P w) A (eqIsQuiet (d+1) (.ref a)) Q E s:=by
 have l:=Uy;unfold eqIsQuiet;show ao (um j l.lookup ?_);show av (aw P w) A (isInstance (.ref a) (.type "tuple") >>= _) _ _ s;show ao (qy j Ta ?_);rw[Zz ⋯];dsimp only;show ao (ze ho p (ao ?_));show av _ _ (forIn xs _ _) _ _ s;rw[<- Yt];show sQ xs.toList _ m (ax h)
def CV{x:List (Sum Key (List Key))}{a:ah}{Q:Bool->ak->Prop}(y:fO (aT P w) s.heap x a)(h:Q af s):av (aw P w) A (eqIsQuiet 8 (.ref a)) Q E s:=by
 have J:=y.typeIs;obtain⟨o,xs,n,ho,_,X,U⟩:=y;show vG (d:=7) J ho X ?_ h;have go:∀{ks:List (Sum Key (List Key))} {vs:Q0f},fN (aT P w) s.heap ks vs ->∀v∈vs,∀Q:Bool->ak->Prop,Q af s->av (aw P w) A (eqIsQuiet 7 v) Q E s:=by
  intro ks vs t
  induction t with
  |nil=>intro v O;cases O
  | @cons k v ks vs h1 _ ih =>
   intro u l Q k0;rcases bh.1 l with e|l
   .subst e
    cases k with
    |inl k =>
     rw[Tf _ ((aT P w).byValue _ _ h1)];show ax k0
    |inr k =>
     obtain⟨b,e,z⟩:=h1;subst e;have K:=z.typeIs;obtain⟨Y,F,Z,m,_,q,p⟩:=z;show vG (d:=6) K m q (λI j Q' L=>?_) k0;rw[Tf _ (p.byValue I j)];show ax L
   .exact ih u l Q k0
 show go U
def LS(P:bb)(w:az):HeapKind P w (List (Sum Key (List Key))) where
 is:=fO (aT P w)
 hash:=sO (aT P w)
 draws:=l6
 room:=λA=>A.units+1<fv
 inj:=λd a=>d.inj a
 keeps:=λx ho n m=>x.keeps ho n m
 pyHash:=λj l h=>HM j l h
 eqBool:=λj d a h=>QV j d a h
 quiet:=λl h=>CV l h
end
inductive V where
 |non|bl (b:Bool)|int (i:Int)|str (x:ai)|HN (b:Array UInt8)|flt (b:UInt64)|ref (a:ah)|ty (n:String)
 deriving DecidableEq
noncomputable def Ψ:V->aj->Prop
 |.non,u=>u=rj
 |.bl b,u=>u=vd b
 |.int i,u=>∃t,u=ie i t
 |.str x,u=>∃t,u=vc x t
 |.HN b,u=>∃t,u=Value.bytes b t
 |.flt b,u=>∃t,u=Uc b t
 |.ref a,u=>u=dg a
 |.ty n,u=>u=my n
abbrev θ:List V->List aj->Prop:=jh Ψ
def θ.length{xs:List V}{a:Q0f}(r:θ xs a):⇑xs=⇑a:=vj r
theorem θ.get:∀{xs:List V} {a:Q0f} {i:Nat} {x:V},θ xs a->xs[i]?=aa x ->∃u,a[i]?=aa u/\Ψ x u
 |_,_,_,_,.nil,e=>by simp at e
 |_,_,0,_,.cons r _,e=>by simp at e;subst e;show⟨_,rfl,r⟩
 |_,_,i+1,x,.cons _ t,e=>by obtain⟨u,d,h2⟩:=θ.get (i:=i) (x:=x) t ↑e;show⟨u,↑d,h2⟩
theorem θ.append:∀{xs ys:List V} {d a:Q0f},θ xs d->θ ys a->θ (xs++ys) (d++a)
 |_,_,_,_,.nil,s=>s
 |_,_,_,_,.cons r t,s=>.cons r (θ.append t s)
theorem θ.take:∀{xs:List V} {a:Q0f} (n:Nat),θ xs a->θ (xs.take n) (a.take n)
 |_,_,0,_=>.nil
 |_,_,_+1,.nil=>.nil
 |_,_,n+1,.cons r t=>.cons r (θ.take n t)
theorem θ.drop:∀{xs:List V} {a:Q0f} (n:Nat),θ xs a->θ (xs.drop n) (a.drop n)
 |_,_,0,r=>r
 |_,_,_+1,.nil=>.nil
 |_,_,n+1,.cons _ t=>θ.drop n t
def pO:Option V->Option aj->Prop
 |some v,aa u=>Ψ v u
 |none,ae=>True
 |_,_=>False
def KV{a:Type}:List (a×V)->List (a×aj)->Prop:=jh λ(p:a×V) (q:a×aj)=>p.1=q.1/\Ψ p.2 q.2
noncomputable def kV:Key->V
 |.inl i=>.int i
 |.inr x=>.str x
inductive HO where
 |lst (xs:List V)
 |tup (xs:List V)
 |dK (χ:List (Key×V))|dT (χ:List (List Key×V))
 |dX (o:ay) (χ:List (KX×V×V))
 |set (S:Int->Bool) (n:Nat)
 |ins (C dx:ah) (fs:List (ai×V))
 |own (x:ah)
 |xd (fs:List (ai×V))
 |met (f x:ah)
 |rng (lo hi:Int)
 |sR (o:ay) (u:HO)
 |FI (q:ai)
 |ext (φ:a_->Prop)
abbrev Hp:=ah->Option HO
def upd(H:Hp)(a:ah)(o:HO):Hp:=λb=>if b=a then aa o else H b
def aN{H:Hp}{a:ah}{o:HO}:upd H a o a=aa o:=by unfold upd;rw[Z_ rfl]
def aL{H:Hp}{a b:ah}{o:HO}(h:b≠a):upd H a o b=H b:=by unfold upd;rw[Zz h]
def Rh{H:Hp}{a b:ah}{o u:HO}(h:H a=aa o)(h':H b=aa u)(d:o≠u):a≠b:=by intro e;subst e;rw[h] at h';show d (fu h')
theorem bB{H:Hp}{a b:ah}{o:HO}(h:H a=aa o)(h':H b=ae):a≠b:=by intro e;subst e;rw[h] at h';cases h'
def WQ(H:Hp):Sum Key (List Key)->V->Prop
 |.inl k,v=>v=kV k
 |.inr ks,v=>∃b,v=.ref b/\H b=aa (.tup (ks.map kV))
def xO(H:Hp)(ks:N1)(a:ah):Prop:=∃vs,H a=aa (.tup vs)/\jh (WQ H) ks vs
def QW(P:bb)(w:az)(H:Hp)(o:ay)(d:List (KX×V×V)):Prop:=o.ExactDict /\∃a h,o.data=.dict a h /\
 ((∃vs:List (Key×aj),jh (λ(p:KX×V×V) (q:Key×aj)=>p.1=.inl q.1/\p.2.1=kV q.1/\Ψ p.2.2 q.2) d vs/\KeysOf (aT P w) a/\Pairs (aT P w) a.toList vs/\(vs.map (·.1)).Nodup) \/
  ∃xs:List (N1×ah×aj),jh (λ(p:KX×V×V) (q:N1×ah×aj)=>p.1=.inr q.1/\p.2.1=.ref q.2.1/\xO H q.1 q.2.1/\Ψ p.2.2 q.2.2) d xs/\a.toList=xs.map (entryOfKey (LS P w))/\(xs.map (·.1)).Nodup)
theorem Paired.WR{α j:Type}{F G:α->j->Prop}:∀{h:List α} {d:List j},jh F h d->(∀a b,F a b->G a b)->jh G h d
 |_,_,.nil,_=>.nil
 |_,_,.cons r t,f=>.cons (f _ _ r) (Paired.WR t f)
theorem xO.stay{H H':Hp}{ks:N1}{a:ah}(h:xO H ks a)(d:∀b xs,H b=aa (.tup xs)->H' b=aa (.tup xs)):xO H' ks a:=by
 obtain⟨vs,e,r⟩:=h;show⟨vs,d _ _ e,Paired.WR r λk v q=>?_⟩
 cases k with
 |inl k=>show q
 |inr k=>obtain⟨b,e,q⟩:=q;show⟨b,e,d _ _ q⟩
def QW.stay{P:bb}{w:az}{H H':Hp}{o:ay}{a:List (KX×V×V)}(h:QW P w H o a)(d:∀b xs,H b=aa (.tup xs)->H' b=aa (.tup xs)):QW P w H' o a:=by
 obtain⟨x,l,m,e,h⟩:=h;show⟨x,l,m,e,?_⟩;rcases h with h|⟨xs,r,j,h2⟩
 .exact .inl h
 .exact .inr ⟨xs,Paired.WR r λp q z=>⟨z.1,z.2.1,z.2.2.1.stay d,z.2.2.2⟩,j,h2⟩
def z7(h:a_)(a:ah):Prop:=∀o,h.get? a=aa o->o.dict=ae
def z7.at{h h':a_}{a:ah}{o:ay}(n:z7 h a)(e:h.get? a=aa o)(d:h'.get? a=aa o):z7 h' a:=λu q=>by rw[d] at q;cases q;show n _ e
def z7.new(h:a_)(a:Array aj){n:Nat}:z7 (h.push {cls:=.type "tuple",data:=.seq a n}) h.objs.size:=λu q=>by rw[cz h rfl] at q;cases q;rfl
def z7.is(e:h.get? a=aa o)(d:o.dict=ae):z7 h a:=λu q=>by rw[e] at q;cases q;show d
abbrev WU(a:ay):HO:=.sR a (.ext λ_=>True)
def FJ(H:Hp)(q:ai)(ps:Array aj):Prop:=TriplesOk ps.toList /\
 ∀ν d,codeAmong ν ps.toList=aa d ->∃c a vs t,d=.ref c/\H c=aa (WU a)/\a.data=.fields vs/\vs[1]?=aa (.str q t)
theorem FJ.stay{H H':Hp}{q:ai}{ps:Array aj}(h:FJ H q ps)(a:∀b o u,H b=aa (.sR o u)->H' b=aa (.sR o u)):FJ H' q ps :=
 ⟨h.1,λν d e=>let ⟨c,oc,vs,t,e1,e2,e3⟩:=h.2 ν d e;⟨c,oc,vs,t,e1,a _ _ _ e2,e3⟩⟩
section
variable(P:bb)(w:az)
def bZ(H:Hp)(h:a_)(a:ah):HO->Prop
 |.lst xs=>⇑xs<=bc /\∃(j:Q0f) (n:Nat),θ xs j/\h.get? a=aa {cls:=.type "list",data:=.seq j.toArray n}
 |.tup xs=>⇑xs<=bc /\∃j:Q0f,θ xs j/\gc h a j.toArray/\z7 h a
 |.dK χ=>⇑χ<=bc/\(a == sysModules)=ag /\∃vs,KV χ vs/\h.DictOf (aT P w) a vs
 |.dT χ=>⇑χ<=bc/\(a == sysModules)=ag /\∃xs:List (List Key×ah×aj),
   jh (λ(p:List Key×V) (q:List Key×ah×aj)=>p.1=q.1/\H q.2.1=aa (.tup (p.1.map kV))/\Ψ p.2 q.2.2) χ xs /\
   ∃o m y,h.get? a=aa o/\o.ExactDict/\o.data=.dict m y/\m.toList=xs.map (entryOfKey (tupleKind (aT P w)))/\(xs.map (·.1)).Nodup
 |.dX o χ=>⇑χ<=bc/\(a == sysModules)=ag/\h.get? a=aa o/\QW P w H o χ
 |.set S n=>h.SetOf (intKind P w) a S n
 |.ins C dx fs=>H dx=aa (.own a)/\⇑fs<=1000/\dx≠a/\h.get? a=aa (instObj C dx) /\
   ∃d,h.Ns1 dx d/\(∀f,pO (fs.lookup f) (d f))/\To d (fs.map (·.1))
 |.own _=>∃o,h.get? a=aa o
 |.xd fs=>∃d,h.Ns1 a d /\∀f,pO (fs.lookup f) (d f)
 |.rng lo hi=>∃t u v,h.get? a=aa {cls:=.type "range",data:=.fields #[.int lo t,.int hi u,.int 1 v]}
 |.sR o u=>h.get? a=aa o/\bZ H h a u
 |.FI q=>∃ps:Array aj,h.get? a=aa {cls:=.none,data:=.fields ps}/\FJ H q ps
 |.met f x=>h.get? a=aa (methodObj (.ref f) (.ref x))
 |.ext φ=>φ h/\(∃o,h.get? a=aa o) /\∀l h2:a_,φ l->(∀o,l.get? a=aa o->h2.get? a=aa o)->φ h2
def nA(H:Hp)(h:a_):Prop:=∀a o,H a=aa o->bZ P w H h a o
end
section
variable{P:bb}{w:az}{H H':Hp}{h h':a_}{a:ah}{o:HO}
theorem bZ.lt(x:bZ P w H h a o):a<h.objs.size:=by
 cases o with
 |lst xs=>obtain⟨_,_,_,_,e⟩:=x;show bj e
 |tup xs=>obtain⟨_,_,_,p,_⟩:=x;show p.lt
 |dK χ=>obtain⟨_,_,_,_,o,_,_,e,_⟩:=x;show bj e
 |dT χ=>obtain⟨_,_,_,_,o,_,_,e,_⟩:=x;show bj e
 |dX ob χ=>obtain⟨_,_,e,_⟩:=x;show bj e
 |set S n=>obtain⟨o,_,_,_,e,_⟩:=x;show bj e
 |ins C dx fs=>obtain⟨_,_,_,e,_⟩:=x;show bj e
 |own y=>obtain⟨_,e⟩:=x;show bj e
 |xd fs=>obtain⟨_,⟨_,_,_,e,_⟩,_⟩:=x;show bj e
 |rng lo hi=>obtain⟨_,_,_,e⟩:=x;show bj e
 |sR ob u=>obtain⟨e,_⟩:=x;show bj e
 |FI q=>obtain⟨ps,e,_⟩:=x;show bj e
 |met f y=>show bj (show h.get? a=aa _ from x)
 |ext φ=>obtain⟨_,⟨_,e⟩,_⟩:=x;show bj e
theorem Paired.WV{α l:Type}{F G:α->l->Prop}:∀{j:List α} {d:List l},jh F j d->(∀a b,F a b->G a b)->jh G j d
 |_,_,.nil,_=>.nil
 |_,_,.cons r t,f=>.cons (f _ _ r) (Paired.WV t f)
theorem bZ.stay(x:bZ P w H h a o)(k:∀b u,(b=a\/H b=aa (.own a))->h.get? b=aa u->h'.get? b=aa u)
  (ho:∀b,H b=aa (.own a)->H' b=aa (.own a)) (J:∀b xs,H b=aa (.tup xs)->H' b=aa (.tup xs)) (K:∀b o u,H b=aa (.sR o u)->H' b=aa (.sR o u):=by show λ_ _ _ q=>q):bZ P w H' h' a o:=by
 induction o with
 |lst xs=>obtain⟨z,A,n,r,e⟩:=x;show⟨z,A,n,r,k _ _ (.inl rfl) e⟩
 |tup xs=>obtain⟨z,A,r,⟨j,e,c⟩,nd⟩:=x;show⟨z,A,r,⟨j,k _ _ (.inl rfl) e,c⟩,nd.at e (k _ _ (.inl rfl) e)⟩
 |dK χ=>obtain⟨z,y,vs,r,j,l,m,e,c⟩:=x;show⟨z,y,vs,r,j,l,m,k _ _ (.inl rfl) e,c⟩
 |dT χ =>
  obtain⟨z,y,xs,r,j,l,m,e,c⟩:=x;show⟨z,y,xs,Paired.WV r λp q z=>⟨z.1,J _ _ z.2.1,z.2.2⟩,j,l,m,k _ _ (.inl rfl) e,c⟩
 |dX j χ=>obtain⟨z,y,e,c⟩:=x;show⟨z,y,k _ _ (.inl rfl) e,c.stay J⟩
 |set S n=>obtain⟨j,l,m,t,e,c⟩:=x;show⟨j,l,m,t,k _ _ (.inl rfl) e,c⟩
 |ins C dx fs =>
  obtain⟨d,z,ne,e,I,⟨F,l,m,L,c⟩,r⟩:=x;show⟨ho _ d,z,ne,k _ _ (.inl rfl) e,I,⟨F,l,m,k _ _ (.inr d) L,c⟩,r⟩
 |own y=>obtain⟨j,e⟩:=x;show⟨j,k _ _ (.inl rfl) e⟩
 |xd fs=>obtain⟨I,⟨F,l,m,e,c⟩,r⟩:=x;show⟨I,⟨F,l,m,k _ _ (.inl rfl) e,c⟩,r⟩
 |rng lo hi=>obtain⟨t,u,v,e⟩:=x;show⟨t,u,v,k _ _ (.inl rfl) e⟩
 |sR j u ih=>obtain⟨e,q⟩:=x;show⟨k _ _ (.inl rfl) e,ih q⟩
 |FI q=>obtain⟨ps,e,r⟩:=x;show⟨ps,k a _ (.inl rfl) e,r.stay K⟩
 |met f y =>
  have e:h.get? a=aa (methodObj (.ref f) (.ref y)):=x;show h'.get? a=aa (methodObj (.ref f) (.ref y));show k a _ (.inl rfl) e
 |ext φ=>obtain⟨p,⟨o,e⟩,st⟩:=x;show⟨st _ _ p λo q=>k _ _ (.inl rfl) q,⟨o,k _ _ (.inl rfl) e⟩,st⟩
def nA.lt(x:nA P w H h)(e:H a=aa o):a<h.objs.size:=(x a o e).lt
theorem nA.fresh(x:nA P w H h)(e:h.objs.size<=a):H a=ae:=by
 cases q:H a with
 |none=>rfl
 |some u=>show Zw (e_ (x.lt q) e) (gf _)
def nA.kept(x:nA P w H h)(k:∀b u,h.get? b=aa u->h'.get? b=aa u):nA P w H h':=λa o e =>
 (x a o e).stay (λb u _ q=>k b u q) (λ_ q=>q) λ_ _ q=>q
def nA.laid(x:nA P w H h)(k:∀b u,h.get? b=aa u->h'.get? b=aa u)(l:h.objs.size<=a)(new:bZ P w (upd H a o) h' a o):nA P w (upd H a o) h':=λb u e=>by
 have d:=x.fresh l;by_cases j:b=a
 .subst j;rw[aN] at e;cases e;show new
 .rw [aL j] at e;show(x b u e).stay (λc v _ q=>k c v q) (λc q=>by rw[aL (bB q d)];show q) (λc xs q=>by rw[aL (bB q d)];show q) λc o u q=>by rw[aL (bB q d)];show q
end
def Rd(H:Hp)(a:ah)(u:HO):Prop:=H a=aa u \/∃o,H a=aa (.sR o u)
theorem Rd.ok{P:bb}{w:az}{H:Hp}{h:a_}{a:ah}{u:HO}(r:Rd H a u)(x:nA P w H h):bZ P w H h a u:=by
 rcases r with r|⟨o,r⟩
 .exact x a u r
 .obtain ⟨_,q⟩:=x a _ r;show q
noncomputable def Mut:Option HO->Prop
 |some (.lst _)=>True
 |some (.dK _)=>True
 |some (.dT _)=>True
 |some (.dX _ _)=>True
 |some (.set _ _)=>True
 |some (.ins _ _ _)=>True
 |some (.ext _)=>True
 |_=>False
section
variable{P:bb}{w:az}{H:Hp}{h h':a_}{x e:ah}{o':HO}
theorem nA.write(ok:nA P w H h)(d:Mut (H x))(A:e=x\/H e=aa (.own x))(k:∀b u,b≠e->h.get? b=aa u->h'.get? b=aa u)(m:∃u,h'.get? e=aa u)
  (new:bZ P w (upd H x o') h' x o'):nA P w (upd H x o') h':=λb u q=>by
 have n:∀c y,H c=aa (.own y)->c≠x:=λc y r z=>by subst z;rw[r] at d;show d
 have I:∀c xs,H c=aa (.tup xs)->c≠x:=λc xs r z=>by subst z;rw[r] at d;show d
 by_cases l:b=x
 .subst l;rw[aN] at q;cases q;show new
 .rw [aL l] at q;by_cases a:b=e
  .have p:H b=aa (.own x):=by
    rcases A with z|z
    .exact Zw (a.trans z) l
    .rw [a];show z
   rw[q] at p;cases p;obtain⟨v,F⟩:=m;show⟨v,by rw[a];show F⟩
  .refine (ok b u q).stay (λc v j r=>k c v ?_ r) (λc r=>by rw[aL (n c b r)];show r) (λc xs r=>by rw[aL (I c xs r)];show r) λc o u r=>by rw[aL λz=>by subst z;rw[r] at d;show d];show r
   rcases j with rfl|j
   .exact a
   .rintro rfl;rcases A with z|z
    .exact n c b j z
    .rw [j] at z;cases z;show l rfl
end
structure Un (fs ex:List ah) (H H':Hp) (h h':a_):Prop where
 keep:∀b o,h.get? b=aa o->H b=ae->b∉fs->b∉ex->h'.get? b=aa o
 slot:∀b o,h.get? b=aa o->H b=ae->b∈fs->b∉ex ->∃sl,h'.get? b=aa {o with slots:=sl}
 free:∀b o,h.get? b=aa o->H b=ae->b∉ex->H' b=ae
 there:∀b o,h.get? b=aa o->b∉ex ->∃o',h'.get? b=aa o'
 tups:∀b xs,H b=aa (.tup xs)->H' b=aa (.tup xs)
 qX:∀b o u,H b=aa (.sR o u)->H' b=aa (.sR o u)
 pP:∀b q,H b=aa (.FI q)->H' b=aa (.FI q)
section
variable{fs fs' ex ex':List ah}{H H1 H2:Hp}{h h1 h2 h':a_}{a x e:ah}{o:HO}
def Un.any(u:Un fs ex H H1 h h1){b:ah}{d:ay}(q:h.get? b=aa d)(n:H b=ae)(j:b∉ex):∃m,h1.get? b=aa {d with slots:=m}:=by
 by_cases l:b∈fs
 .exact u.slot b d q n l j
 .exact ⟨d.slots,u.keep b d q n l j⟩
def Un.kept(k:∀b u,h.get? b=aa u->h'.get? b=aa u):Un fs ex H H h h' :=
 ⟨λb d q _ _ _=>k b d q,λb d q _ _ _=>⟨d.slots,k b d q⟩,λ_ _ _ n _=>n,λb d q _=>⟨d,k b d q⟩,λ_ _ q=>q,λ_ _ _ q=>q,λ_ ps q=>q⟩
def Un.refl:Un fs ex H H h h:=Un.kept λ_ _ q=>q
theorem Un.laid(k:∀b u,h.get? b=aa u->h'.get? b=aa u)(j:h.objs.size<=a)(d:H a=ae):Un fs ex H (upd H a o) h h' where
 keep:=λb u q _ _ _=>k b u q
 slot:=λb u q _ _ _=>⟨u.slots,k b u q⟩
 free:=λb u q n _=>by rw[aL (de (e_ (bj q) j))];show n
 there:=λb u q _=>⟨u,k b u q⟩
 tups:=λb xs q=>by rw[aL (bB q d)];show q
 qX:=λb u xs q=>by rw[aL (bB q d)];show q
 pP:=λb ps q=>by rw[aL (bB q d),q]
def Un.write(j:Mut (H x))(y:e=x\/H e=aa (.own x))(k:∀b u,b≠e->h.get? b=aa u->h'.get? b=aa u)(m:∃u,h'.get? e=aa u):Un fs ex H (upd H x o) h h':=by
 have p:∀b,H b=ae->b≠x:=λb n z=>by subst z;rw[n] at j;show j
 have v:∀b,H b=ae->b≠e:=λb n z=>by
  subst z;rcases y with r|r
  .exact p b n r
  .rw [n] at r;cases r
 have l:∀b u,H b=aa u->¬ Mut (aa u)->b≠x:=λb u q nm z=>by subst z;rw[q] at j;show nm j
 show⟨λb u q n _ _=>k b u (v b n) q,λb u q n _ _=>⟨u.slots,k b u (v b n) q⟩,λb u q n _=>by rw[aL (p b n)];show n,λb u q _=>?_,
  λb xs q=>by rw[aL (l b _ q λz=>z)];show q,λb u xs q=>by rw[aL (l b _ q λz=>z)];show q,λb ps q=>by rw[aL (l b _ q λz=>z),q]⟩
 by_cases d:b=e
 .subst d;show m
 .exact ⟨u,k b u d q⟩
end
def trk(h:a_)(H:Hp):List ah:=(ck h.objs.size).filter λa=>(H a).isSome
def uL(h:a_)(H:Hp):a_:=hideAll h (trk h H)
def HP(h:a_)(H:Hp):(uL h H).objs.size=h.objs.size:=PySem.W.hideAll_size _ _
def LU(e:h.get? b=aa o)(n:H b=ae):(uL h H).get? b=aa o :=
 rf _ e λa=>by have q:(H b).isSome=af:=(si.mp a).2;rw[n] at q;simp at q
theorem QX(e:(uL h H).get? b=aa o):h.get? b=aa o/\H b=ae:=by
 have a:h.get? b=aa o:=z_ (trk h H) e;show⟨a,?_⟩
 cases q:H b with
 |none=>rfl
 |some x =>
  have d:b∈trk h H:=si.mpr ⟨nj.mpr (bj a),by simp[q]⟩;have z:(uL h H).get? b=ae:=rb (trk h H) d;rw[z] at e;cases e
structure Mod (K:aq) (mg:Q0d) (ω:a_):Prop where
 kin:K.In ω
 glob:ω.Ns gw mg
 blt:∃mb,ω.Ns builtinsNs mb /\∀x:ai,x ≠ "__name__"->mb x=bootBuiltins x
 nolimit:ω.NoLimit
 bm:∃bm ob,mg "__builtins__"=aa (.ref bm)/\bm≠builtinsNs/\ω.get? bm=aa ob/\ob.cls=.type "module" /\ob.dict=aa builtinsNs/\ob.data=.plain
def LV:List ai:=["going_of","count_of_chain","cut_paper","downsets","strictest_chains"]
def QY(x:ai):ai:=x++".<locals>.<lambda>"
def dM(K:aq):List (ai×ah×ah):=LV.filterMap λx=>(zy K x).map λp=>(x,p.1,p.2)
def QZ(K:aq)(ω:a_)(H:Hp):Prop:=∀t∈dM K,CodeHd ω t.2.1 t.2.2/\H t.2.2=aa (.FI (QY t.1))
structure Cx where
 Ω:bb
 w:az
 K:aq
 mg:ai->Option aj
 ω:a_
 A:bo
 N:List ai
 s₀:ak
 H₀:Hp
 env:cx
 outer:List cx
 stack:List cx
 ex:List ah
 fn:ai->Bool
 calm:Bool
 pn:List (ah×ay)
 xe:aj->ak->Prop
abbrev Zu(x:ai):Prop:=(x == ("__debug__":ai))=ag
abbrev Zt(x:ai):Prop:=(x == ("__classdict__":ai))=ag
abbrev Zr(X:Cx)(e:au)(l:List au):Prop:=ar (e::l) X.env=(ag,eval e X.env)::ar l X.env
abbrev Zq(X:Cx)(x:ai):Prop:=X.fn x=af\/X.env.scope.names.lookup x=aa .local
abbrev Zp(X:Cx)(a:ba)(e:au):Prop:=((bz a (ar [e] X.env)).all (λx=>!x.1)&&(backToKw a (iu [] X.env)).all (λx=>x.1.isSome) && Zv ([e].length+⇑([]:List di)+(if([]:List di).isEmpty then 0 else 1)<30))=af
abbrev Zo(X:Cx)(i:au):Prop:=∀x,foldedSetIterable i X.env x=pure x
abbrev Rv(X:Cx)(e:au)(x:ai)(p q:ba):Prop:=fg e (aa (.Name x p)) q.line X.env=pure ag
abbrev gV(X:Cx)(x y:ai)(d a:ba):Prop:=(cp [.Name x d,.Name y a] X.env).map (·.2)=assign (.Name x d) X.env::(cp [.Name y a] X.env).map (·.2)
abbrev Q0h(X:Cx)(y:ai)(a:ba):Prop:=(cp [.Name y a] X.env).map (·.2)=assign (.Name y a) X.env::(cp [] X.env).map (·.2)
abbrev Q0i(X:Cx)(x y:ai)(d a:ba):Prop:=(cp [.Name x d,.Name y a] X.env).findIdx? (·.1)=ae
abbrev Q0j(X:Cx)(x y:ai)(d a:ba):Prop:=⇑(cp [.Name x d,.Name y a] X.env)=2
abbrev Q0k(p q:ba):Prop:=(p.endLine == q.line)=af
abbrev Q0l(X:Cx)(p:ba)(l:List au):Prop:=(bz p (ar l X.env)).any (·.1)=ag
def frs(l:List cx):List ah:=l.filterMap (·.frame)
abbrev Cx.fs(X:Cx):List ah:=frs X.outer
def vH(sc:fq)(x:ai):Prop:=sc.names.lookup x=aa .local\/sc.names.lookup x=aa .cell\/sc.names.lookup x=aa .free
def Loc(sc:fq)(x:ai):Prop:=sc.names.lookup x=aa .local\/sc.names.lookup x=aa .cell
def Look(env:cx)(h:a_)(m:Q0d)(x:ai)(u:aj):Prop :=
 (env.kindOf x=aa .local/\m x=aa u)\/((env.kindOf x=aa .cell\/env.kindOf x=aa .free) /\∃c,env.cells.lookup x=aa c/\h.IsCell c (aa u))
structure Cx.Ok (X:Cx):Prop where
 mod:Mod X.K X.mg X.ω
 kind:X.env.scope.kind=.function
 glob:X.env.globals=gw
 blt:X.env.builtins=builtinsNs
 above:↥X.s₀<=X.env.locals
 inj:∀x y c,X.env.cells.lookup x=aa c->X.env.cells.lookup y=aa c->x=y
 has:∀x,(X.env.kindOf x=aa .cell\/X.env.kindOf x=aa .free) ->∃c,X.env.cells.lookup x=aa c
 cab:∀x c,X.fn x=af->X.env.cells.lookup x=aa c->↥X.s₀<=c
 hd:X.calm=af->X.A.handled=ae
 frames:X.A.frames=aa X.stack
 stk:X.stack=X.outer\/(X.stack=X.env::X.outer/\X.env.frame=aa X.env.locals)
 exf:∀b∈X.ex,b≠X.env.locals /\∀x c,X.env.cells.lookup x=aa c->c≠b
 bs:∀b o,X.ω.get? b=aa o->X.s₀.heap.get? b=aa o/\X.H₀ b=ae
 PN:X.ω.objs.size<=↥X.s₀
 CW:∀b o,X.ω.get? b=aa o->b∉X.ex
 HQ:∀b∈X.ex,b∉X.fs
 nB:X.s₀.heap.FunFrames X.ω X.outer
 UX:∀b∈X.fs,X.H₀ b=ae
 tab:QZ X.K X.ω X.H₀
structure Φ (X:Cx) (π:Q0b) (σ:List (Option V)) (H:Hp) (s:ak):Prop where
 ok:X.Ok
 os:s.os=X.s₀.os
 bare:jw s.gens
 ω:Un X.fs X.ex X.H₀ H X.s₀.heap s.heap
 loc:∃m,s.heap.Ns X.env.locals m /\∀(i:Nat) (x:ai) (v:V),X.N[i]?=aa x->σ[i]?=aa (aa v)->vH X.env.scope x ->∃u,Ψ v u/\Look X.env s.heap m x u
 cell:∀x c,X.env.cells.lookup x=aa c ->∃v,s.heap.IsCell c v
 free:H X.env.locals=ae
 fG:∀x c,X.env.cells.lookup x=aa c->H c=ae
 pin:∀p∈X.pn++π,s.heap.get? p.1=aa p.2/\H p.1=ae/\p.1≠X.env.locals/\p.1∉X.fs /\∀v,p.2.data≠.cell v
 hok:nA X.Ω X.w H s.heap
 len:⇑σ=⇑X.N
variable{X:Cx}
section
variable{π:Q0b}{σ:List (Option V)}{H H':Hp}{s:ak}{h':a_}
def Cx.Ok.Lf(ok:X.Ok)(e:X.ω.get? b=aa o):b∉X.fs:=λa=>by have:=(ok.nB.mem a).1;rw[e] at this;cases this
def Φ.bs(I:Φ X π σ H s):∀b o,X.ω.get? b=aa o->s.heap.get? b=aa o/\H b=ae:=λb o e =>
 ⟨I.ω.keep b o (I.ok.bs b o e).1 (I.ok.bs b o e).2 (I.ok.Lf e) (I.ok.CW b o e),I.ω.free b o (I.ok.bs b o e).1 (I.ok.bs b o e).2 (I.ok.CW b o e)⟩
def Φ.bk(I:Φ X π σ H s):∀b o,X.ω.get? b=aa o->s.heap.get? b=aa o:=λb o e=>(I.bs b o e).1
def Φ.mod(I:Φ X π σ H s):Mod X.K X.mg X.ω:=I.ok.mod
def Φ.tab(I:Φ X π σ H s):QZ X.K X.ω H:=λt a=>⟨(I.ok.tab t a).1,I.ω.pP _ _ (I.ok.tab t a).2⟩
def Φ.rF(I:Φ X π σ H s):X.K.In s.heap:=I.ok.mod.kin.keeps I.bk
def Φ.lt(I:Φ X π σ H s):X.env.locals<↥s:=let ⟨_,hn,_⟩:=I.loc;hn.lt
def Φ.sz(I:Φ X π σ H s):↥X.s₀<=↥s:=cy I.ok.above (jy I.lt)
def Φ.Le(I:Φ X π σ H s)(h:↥s<=a):a∉X.fs:=λd=>by obtain⟨_,o,ho,_⟩:=I.ok.nB.mem d;show Zw (e_ (bj ho) (cy I.sz h)) (gf _)
def Φ.UY(I:Φ X π σ H s):∀x c,X.env.cells.lookup x=aa c->c≠X.env.locals:=λx c e z=>by obtain⟨v,o,ho,h⟩:=I.cell x c e;obtain⟨m,⟨j,l,n,a,d,_⟩,_⟩:=I.loc;rw[z,a] at ho;cases ho;rw[d] at h;cases h
def Φ.nB(I:Φ X π σ H s):s.heap.FunFrames X.ω X.outer:=by
 have all:∀(l:List cx),(∀b∈frs l,b∈X.fs)->X.s₀.heap.FunFrames X.ω l->s.heap.FunFrames X.ω l:=by
  intro l
  induction l with
  |nil=>intro _ _;trivial
  |cons env r ih =>
   intro j p;obtain⟨q,⟨L,o,a,n,ho,v⟩,m⟩:=p;have h:L∈X.fs:=j L (by unfold frs;rw[sr,a];show b_);obtain⟨x,e⟩:=I.ω.slot L o ho (I.ok.UX L h) h λz=>I.ok.HQ L z h;show⟨q,⟨L,_,a,n,e,v⟩,ih (λb d=>j b (by unfold frs;rw[sr,a];show cq _ d)) m⟩
 show all X.outer (λ_ d=>d) I.ok.nB
def Φ.stack(I:Φ X π σ H s):s.heap.FunFrames X.ω X.stack:=by
 rcases I.ok.stk with e|⟨e,d⟩
 .rw [e];show I.nB
 .rw [e];obtain⟨m,a,_⟩:=I.loc;show .cons (by rw[I.ok.kind];decide) d a ?_ I.nB;show Uu (cy I.ok.PN I.ok.above)
def Φ.nC(I:Φ X π σ H s):∀b∈frs X.stack,b∈X.env.locals::X.fs:=λb a=>by
 rcases I.ok.stk with e|⟨e,d⟩
 .rw [e] at a;show cq _ a
 .rw [e] at a;unfold frs at a;rw[sr,d] at a;show a
def Φ.xP(I:Φ X π σ H s):∀b∈frs X.stack,H b=ae:=λb a=>by
 rcases bh.mp (I.nC b a) with e|a
 .rw [e];show I.free
 .obtain ⟨_,o,ho,_⟩:=I.ok.nB.mem a;show I.ω.free b o ho (I.ok.UX b a) λz=>I.ok.HQ b z a
theorem Φ.step{g':Array GenState}{t':Nat}{d':Drawn}{ch:List ah}(I:Φ X π σ H s)
  (j:∀b∈ch,(b∈X.ex\/↥X.s₀<=b)/\b≠X.env.locals/\(∀x c,X.env.cells.lookup x=aa c->c≠b) /\∀p∈X.pn++π,p.1≠b)
  (keep:∀b o,b≠X.env.locals->b∉X.fs->b∉ch->s.heap.get? b=aa o->H b=ae->h'.get? b=aa o)
  (slot:∀b o,b≠X.env.locals->b∈X.fs->b∉ch->s.heap.get? b=aa o->H b=ae ->∃O,h'.get? b=aa {o with slots:=O}) (free:∀b o,b∉ch->s.heap.get? b=aa o->H b=ae->H' b=ae)
  (there:∀b o,b∉ch->s.heap.get? b=aa o ->∃J,h'.get? b=aa J)
  (tups:∀b xs,H b=aa (.tup xs)->H' b=aa (.tup xs)) (qX:∀b o u,H b=aa (.sR o u)->H' b=aa (.sR o u)) (pP:∀b q,H b=aa (.FI q)->H' b=aa (.FI q))
  (ns:∀m,s.heap.Ns X.env.locals m->h'.Ns X.env.locals m) (Y:nA X.Ω X.w H' h') (hg:jw g'):
  Φ X π σ H' {s with heap:=h',gens:=g',drawn:=d',toks:=t' }:=by
 have K:∀b o,X.s₀.heap.get? b=aa o->b≠X.env.locals:=λb o e=>de (e_ (bj e) I.ok.above);have y:∀b o,X.s₀.heap.get? b=aa o->b∉X.ex->b∉ch:=λb o e a A=>by
  rcases(j b A).1 with z|z
  .exact a z
  .exact Zw (e_ (bj e) z) (gf _)
 have cellK:∀x c,X.env.cells.lookup x=aa c ->∀v,s.heap.IsCell c v->h'.IsCell c v:=λx c e v U=>by
  obtain⟨o,ho,Z⟩:=U;have h:c∉ch:=λz=>(j c z).2.2.1 x c e rfl;by_cases hc:c∈X.fs
  .obtain ⟨O,q⟩:=slot c o (I.UY x c e) hc h ho (I.fG x c e);show⟨_,q,Z⟩
  .exact ⟨o,keep c o (I.UY x c e) hc h ho (I.fG x c e),Z⟩
 show⟨I.ok,I.os,hg,⟨λb o e n A a=>?_,λb o e n A a=>?_,λb o e n a=>?_,λb o e a=>?_,λb xs e=>tups b xs (I.ω.tups b xs e),λb o xs e=>qX b o xs (I.ω.qX b o xs e),λb ps e=>pP b ps (I.ω.pP b ps e)⟩,?_,λx c e=>?_,?_,λx c e=>?_,λp hp=>?_,Y,I.len⟩
 .exact keep b o (K b o e) A (y b o e a) (I.ω.keep b o e n A a) (I.ω.free b o e n a)
 .obtain ⟨O,F⟩:=I.ω.slot b o e n A a;obtain⟨L,e2⟩:=slot b _ (K b o e) A (y b o e a) F (I.ω.free b o e n a);show⟨L,e2⟩
 .obtain ⟨J,F⟩:=I.ω.there b o e a;show free b J (y b o e a) F (I.ω.free b o e n a)
 .obtain ⟨J,F⟩:=I.ω.there b o e a;show there b J (y b o e a) F
 .obtain ⟨m,hn,hl⟩:=I.loc;show⟨m,ns m hn,λi x v F e2 e3=>?_⟩;obtain⟨u,r,l⟩:=hl i x v F e2 e3;show⟨u,r,?_⟩;rcases l with l|⟨k,c,e,z⟩
  .exact .inl l
  .exact .inr ⟨k,c,e,cellK x c e _ z⟩
 .obtain ⟨v,z⟩:=I.cell x c e;show⟨v,cellK x c e v z⟩
 .obtain ⟨m,⟨o,_,_,ho,_⟩,_⟩:=I.loc;show free _ o (λz=>(j _ z).2.1 rfl) ho I.free
 .obtain ⟨v,o,ho,Z⟩:=I.cell x c e;show free c o (λz=>(j c z).2.2.1 x c e rfl) ho (I.fG x c e)
 .obtain ⟨e,n,ne,nf,d⟩:=I.pin p hp;have h:p.1∉ch:=λz=>(j p.1 z).2.2.2 p hp rfl;show⟨keep p.1 p.2 ne nf h e n,free p.1 p.2 h e n,ne,nf,d⟩
def Φ.un{t':Nat}(I:Φ X π σ H s)(u:Un X.fs [] H H' s.heap h')(d:nA X.Ω X.w H' h'):Φ X π σ H' {s with heap:=h',toks:=t' }:=by
 obtain⟨m,⟨o,A,F,ho,r⟩,_⟩:=id I.loc;obtain⟨v,q⟩:=u.any ho I.free (by simp);show I.step (g':=s.gens) (d':=s.drawn) (ch:=[]) (λ_ z=>nomatch z) (λb o _ h _ e n=>u.keep b o e n h (by simp)) (λb o _ h _ e n=>u.slot b o e n h (by simp)) (λb o _ e n=>u.free b o e n (by simp)) (λb o _ e=>u.there b o e (by simp)) u.tups u.qX u.pP (λy p=>by obtain⟨x,es',j,a,l⟩:=p;rw[ho] at a;cases a;show⟨_,es',j,q,l⟩) d I.bare
theorem Φ.call{g':Array GenState}{t':Nat}{d':Drawn}{ch:List ah}(I:Φ X π σ H s)(u:Un (frs X.stack) ch H H' s.heap h')(j:nA X.Ω X.w H' h')(A:jw g')
  (h:∀b∈ch,(b∈X.ex\/↥X.s₀<=b)/\b≠X.env.locals/\(∀x c,X.env.cells.lookup x=aa c->c≠b) /\∀p∈X.pn++π,p.1≠b):
  Φ X π σ H' {s with heap:=h',gens:=g',drawn:=d',toks:=t' }:=by
 obtain⟨m,⟨o,O,U,ho,r⟩,_⟩:=id I.loc;obtain⟨J,l⟩:=u.any ho I.free λz=>(h _ z).2.1 rfl;show I.step (ch:=ch) h (λb o l F a e n=>u.keep b o e n (λz=>(bh.mp (I.nC b z)).elim l F) a) (λb o _ _ a e n=>u.any e n a) (λb o a e n=>u.free b o e n a) (λb o a e=>u.there b o e a) u.tups u.qX u.pP (λL y=>by obtain⟨K,es',q,d,v⟩:=y;rw[ho] at d;cases d;show⟨_,es',q,l,v⟩) j A
theorem Φ.turned{t':Nat}{it:ah}(I:Φ X π σ H s)(k:∀b o,b≠it->s.heap.get? b=aa o->h'.get? b=aa o)(j:H it=ae)(h:it≠X.env.locals)
  (F:it∈X.ex\/↥X.s₀<=it) (h2:∀x c,X.env.cells.lookup x=aa c->c≠it) (A:∀p∈X.pn++π,p.1≠it):Φ X π σ H {s with heap:=h',toks:=t' }:=by
 have d:∀b u,H b=aa u->b≠it:=λb u e z=>by rw[z,j] at e;cases e
 show I.step (g':=s.gens) (d':=s.drawn) (ch:=[it]) (λb y=>?_) (λb o _ _ a e _=>k b o (λz=>a (by simp[z])) e) (λb o _ _ a e _=>⟨o.slots,k b o (λz=>a (by simp[z])) e⟩) (λ_ _ _ _ n=>n)
  (λb o a e=>⟨o,k b o (λz=>a (by simp[z])) e⟩) (λ_ _ e=>e) (λ_ _ _ e=>e) (λb ps e=>e) (λm l=>?_) (λb u e=>?_) I.bare
 .have e:b=it:=by simpa using y
  subst e;show⟨F,h,h2,A⟩
 .obtain ⟨o,J,K,ho,r⟩:=l;show⟨o,J,K,k _ o (fj h) ho,r⟩
 .refine (I.hok b u e).stay (λc v a q=>k c v ?_ q) (λ_ q=>q) λ_ _ q=>q;rcases a with z|z
  .rw [z];show d b u e
  .exact d c _ z
def Φ.tok(I:Φ X π σ H s)(t:Nat):Φ X π σ H {s with toks:=t}:=I.un (h':=s.heap) (t':=t) Un.refl I.hok
def Φ.kept(I:Φ X π σ H s)(k:∀b u,s.heap.get? b=aa u->h'.get? b=aa u):Φ X π σ H {s with heap:=h',toks:=t' }:=I.un (Un.kept k) (I.hok.kept k)
theorem Φ.laid{a:ah}{o:HO}{t':Nat}(I:Φ X π σ H s)(k:∀b u,s.heap.get? b=aa u->h'.get? b=aa u)(d:↥s<=a)(new:bZ X.Ω X.w (upd H a o) h' a o):
  Φ X π σ (upd H a o) {s with heap:=h',toks:=t' }:=I.un (Un.laid k d (I.hok.fresh d)) (I.hok.laid k d new)
theorem Φ.write(I:Φ X π σ H s)(d:Mut (H x))(h:e=x\/H e=aa (.own x))(k:∀b u,b≠e->s.heap.get? b=aa u->h'.get? b=aa u)(a:∃u,h'.get? e=aa u)
  (new:bZ X.Ω X.w (upd H x o) h' x o):Φ X π σ (upd H x o) {s with heap:=h',toks:=t' }:=I.un (Un.write d h k a) (I.hok.write d h k a new)
def Φ.weak(I:Φ X π σ H s)(a:⇑σ'=⇑σ)(w:∀(i:Nat) v,σ'[i]?=aa (aa v)->σ[i]?=aa (aa v)):Φ X π σ' H s :=
 ⟨I.ok,I.os,I.bare,I.ω,let ⟨m,hn,hl'⟩:=I.loc;⟨m,hn,λi x v j h d=>hl' i x v j (w i v h) d⟩,I.cell,I.free,I.fG,I.pin,I.hok,a.trans I.len⟩
def Φ.FK(I:Φ X π σ H s)(h:∀p∈LW,s.heap.get? p.1=aa p.2/\H p.1=ae/\p.1≠X.env.locals/\p.1∉X.fs /\∀v,p.2.data≠.cell v):Φ X LW σ H s :=
 ⟨I.ok,I.os,I.bare,I.ω,I.loc,I.cell,I.free,I.fG,λp a=>(dq.mp a).elim (λz=>I.pin p (dj _ z)) (h p),I.hok,I.len⟩
def z8{N:Q0g}(hN:N.Nodup){i j:Nat}{x:ai}(a:N[i]?=aa x)(b:N[j]?=aa x):i=j:=by obtain⟨l,h⟩:=c_.mp a;obtain⟨h2,d⟩:=c_.mp b;show(Xu hN).mp (h.trans d.symm)
theorem HR{M:pd}{A:bo}{E:Q0c}{i:Nat}{x:ai}{v:V}{u:aj}{Q:Unit->ak->Prop}(I:Φ X π σ H s)(hN:X.N.Nodup)(hi:X.N[i]?=aa x)(K:Loc X.env.scope x)(r:Ψ v u)
  (h:∀s',Φ X π (σ.set i (aa v)) H s'->(∃a,jl a s.heap s'.heap/\(a=X.env.locals\/X.env.cells.lookup x=aa a))->Q () s') (hf:Zq X x<|>9):av M A (storeName X.env x u) Q E s:=by
 obtain⟨m,hn,hl⟩:=id I.loc;have hcls:(X.env.scope.kind == .class||(X.env.scope.kind == .module&&X.env.locals !=X.env.globals))=ag:=by rw[I.ok.kind];rfl
 have Y:i<⇑σ:=by rw[I.len];show(c_.mp hi).1
 have UY:=I.UY;have tracked:∀{a:ah} {h':a_},(∃o,s.heap.get? a=aa o/\H a=ae)->jl a s.heap h'->nA X.Ω X.w H h':=λ{a h'} ha l b ob e=>by
  obtain⟨_,_,L⟩:=ha;show(I.hok b ob e).stay (λc w' J q=>(l.2 c ?_).trans q) (λ_ q=>q) λ_ _ q=>q;rintro rfl;rcases J with rfl|J
  .rw [L] at e;cases e
  .rw [L] at J;cases J
 rcases K with U|U
 .refine wpAny_storeName_local U hn (λh' hn' l=>?_) hcls;obtain⟨oL,_,_,hoL,_⟩:=id hn;show h _ ⟨I.ok,I.os,I.bare,⟨λb o e n hb K=>?_,λb o e n hb K=>?_,I.ω.free,λb o e K=>?_,I.ω.tups,I.ω.qX,I.ω.pP⟩,⟨_,hn',λj y v' F O e3=>?_⟩,λy c e=>?_,I.free,I.fG,λp hp=>?_,tracked ⟨oL,hoL,I.free⟩ l,↑I.len⟩ ⟨_,l,.inl rfl⟩
  .exact (l.2 b (de (e_ (bj e) I.ok.above))).trans (I.ω.keep b o e n hb K)
  .obtain ⟨sl,F⟩:=I.ω.slot b o e n hb K;show⟨sl,(l.2 b (de (e_ (bj e) I.ok.above))).trans F⟩
  .obtain ⟨o',F⟩:=I.ω.there b o e K;show⟨o',(l.2 b (de (e_ (bj e) I.ok.above))).trans F⟩
  .by_cases Z:j=i
   .subst Z;rw[hi] at F;cases F;rw[kj Y] at O;cases O;show⟨u,r,.inl ⟨U,by simp⟩⟩
   .rw [j_ (fj Z)] at O;obtain⟨u',r',q⟩:=hl j y v' F O e3;show⟨u',r',?_⟩;rcases q with⟨k,e⟩|⟨k,c,e,z⟩
    .refine .inl ⟨k,?_⟩;have:y≠x:=λe=>Z (z8 hN F (e▸hi));simp[this,e]
    .exact .inr ⟨k,c,e,z.sameBut l (UY y c e)⟩
  .obtain ⟨w',z⟩:=I.cell y c e;show⟨w',z.sameBut l (UY y c e)⟩
  .obtain ⟨e,n,ne,nf,d⟩:=I.pin p hp;show⟨(l.2 p.1 ne).trans e,n,ne,nf,d⟩
 .have hfn:X.fn x=af:=by
   rcases hf with z|z
   .exact z
   .rw [z] at U;cases U
  obtain⟨c,J⟩:=I.ok.has x (.inl U);obtain⟨w',z⟩:=I.cell x c J;show wpAny_storeName_cell I.ok.kind U J z (λh' hc' l=>?_);obtain⟨oc,hoc,Ld⟩:=id z;show h {s with heap:=h' } ⟨I.ok,I.os,I.bare,⟨λb o e n hb K=>?_,λb o e n hb K=>?_,I.ω.free,λb o e K=>?_,I.ω.tups,I.ω.qX,I.ω.pP⟩,⟨m,hn.sameBut l (fj (UY x c J)),λj y v' F O e3=>?_⟩,λy c' e=>?_,I.free,I.fG,λp hp=>?_,tracked ⟨oc,hoc,I.fG x c J⟩ l,↑I.len⟩ ⟨c,l,.inr J⟩
  .exact (l.2 b (de (e_ (bj e) (I.ok.cab x c hfn J)))).trans (I.ω.keep b o e n hb K)
  .obtain ⟨sl,F⟩:=I.ω.slot b o e n hb K;show⟨sl,(l.2 b (de (e_ (bj e) (I.ok.cab x c hfn J)))).trans F⟩
  .obtain ⟨o',F⟩:=I.ω.there b o e K;show⟨o',(l.2 b (de (e_ (bj e) (I.ok.cab x c hfn J)))).trans F⟩
  .by_cases Z:j=i
   .subst Z;rw[hi] at F;cases F;rw[kj Y] at O;cases O;show⟨u,r,.inr ⟨.inl U,c,J,hc'⟩⟩
   .rw [j_ (fj Z)] at O;obtain⟨u',r',q⟩:=hl j y v' F O e3;show⟨u',r',?_⟩;rcases q with q|⟨k,c',e,z'⟩
    .exact .inl q
    .refine .inr ⟨k,c',e,z'.sameBut l ?_⟩;rintro rfl;show Z (z8 hN F (I.ok.inj _ _ _ e J▸hi))
  .by_cases hcc:c'=c
   .subst hcc;show⟨_,hc'⟩
   .obtain ⟨w2,z2⟩:=I.cell y c' e;show⟨w2,z2.sameBut l hcc⟩
  .obtain ⟨e,n,ne,nf,d⟩:=I.pin p hp;show⟨(l.2 p.1 ?_).trans e,n,ne,nf,d⟩;intro q;rw[q,hoc] at e;have q':oc=p.2:=fu e;show d w' (by rw[<- q'];show Ld)
theorem oF(I:Φ X π σ H s)(hN:X.N.Nodup)(d:X.N[i]?=aa x)(a:Loc X.env.scope x)(r:Ψ v u)
  (h:∀s',Φ X π (σ.set i (aa v)) H s'->Q () s') (j:Zq X x<|>9):av M A (storeName X.env x u) Q E s :=
 HR I hN d a r (λs' l _=>h s' l) j
theorem Φ.call'(I:Φ X π σ H s)(ho:s'.os=s.os)(u:Un (frs X.stack) ch H H' s.heap s'.heap)(a:nA X.Ω X.w H' s'.heap)(j:jw s'.gens)
  (d:∀b∈ch,(b∈X.ex\/↥X.s₀<=b)/\b≠X.env.locals/\(∀x c,X.env.cells.lookup x=aa c->c≠b) /\∀p∈X.pn++π,p.1≠b):Φ X π σ H' s':=by
 obtain⟨h',g',d',t',h⟩:=s';have e:h=s.os:=ho;subst e;show I.call (g':=g') (t':=t') (d':=d') u a j d
end
abbrev XK:=aj->Option ah->Hp->Prop
abbrev St:=List (Option V)
abbrev VK:=V->Hp->Prop
abbrev TE:=St->Hp->VK->Prop
abbrev TT:=St->Hp->(Bool->Hp->Prop)->Prop
abbrev TA:=St->Hp->(List V->Hp->Prop)->Prop
structure Ends where
 nx:St->Hp->Prop
 rt:VK
 bk:St->Hp->Prop:=λ_ _=>False
 ct:St->Hp->Prop:=λ_ _=>False
abbrev TS:=Ends->St->Hp->Prop
inductive EP (X:Cx) (π:Q0b) (σ:St) (Q:VK) (u:aj) (s':ak):Prop
 |mk (v:_) (H':_) (h1:Φ X π σ H' s') (h2:Ψ v u) (h3:Q v H'):EP X π σ Q u s'
inductive TP (X:Cx) (π:Q0b) (σ:St) (Q:Bool->Hp->Prop) (b:Bool) (s':ak):Prop
 |mk (H':_) (h1:Φ X π σ H' s') (h2:Q b H'):TP X π σ Q b s'
inductive AP (X:Cx) (π:Q0b) (σ:St) (Q:List V->Hp->Prop) (us:Q0f) (s':ak):Prop
 |mk (vs:_) (H':_) (h1:Φ X π σ H' s') (h2:θ vs us) (h3:Q vs H'):AP X π σ Q us s'
def SP(X:Cx)(π:Q0b)(D:Ends)(f:Flow)(s':ak):Prop :=
 match f with
 |.next=>∃a H',Φ X π a H' s'/\D.nx a H'
 |.brk=>∃a H',Φ X π a H' s'/\D.bk a H'
 |.cont=>∃a H',Φ X π a H' s'/\D.ct a H'
 |.ret u=>∃v a H',Φ X π a H' s'/\Ψ v u/\D.rt v H'
def PE(X:Cx)(e:au)(t:TE):Prop :=
 ∀(π:Q0b) (s:ak) (σ:St) (H:Hp) (Q:VK),Φ X π σ H s->t σ H Q->av (aw X.Ω X.w) X.A (eval e X.env) (EP X π σ Q) X.xe s
def PT(X:Cx)(e:au)(t:TT):Prop :=
 ∀(π:Q0b) (s:ak) (σ:St) (H:Hp) (Q:Bool->Hp->Prop),Φ X π σ H s->t σ H Q->av (aw X.Ω X.w) X.A (isTrue e X.env (eval e X.env)) (TP X π σ Q) X.xe s
def PW(X:Cx)(e:au)(t:TT):Prop :=
 ∀(whole:gj aj) (π:Q0b) (s:ak) (σ:St) (H:Hp) (Q:Bool->Hp->Prop),Φ X π σ H s->t σ H Q->av (aw X.Ω X.w) X.A (isTrue e X.env whole) (TP X π σ Q) X.xe s
def PW.pt(h:PW X e t):PT X e t:=h _
def PA(X:Cx)(a:List au)(t:TA):Prop :=
 ∀(ν:ba) (π:Q0b) (s:ak) (σ:St) (H:Hp) (Q:List V->Hp->Prop),Φ X π σ H s->t σ H Q->av (aw X.Ω X.w) X.A (spliced (bz ν (ar a X.env))) (AP X π σ Q) X.xe s
def PS(X:Cx)(st:bq)(t:TS):Prop :=
 ∀(π:Q0b) (s:ak) (σ:St) (H:Hp) (D:Ends),Φ X π σ H s->t D σ H->av (aw X.Ω X.w) X.A (exec st X.env) (SP X π D) X.xe s
def y9(X:Cx)(st:List bq)(t:TS):Prop :=
 ∀(π:Q0b) (s:ak) (σ:St) (H:Hp) (D:Ends),Φ X π σ H s->t D σ H->av (aw X.Ω X.w) X.A (execs st X.env) (SP X π D) X.xe s
def c6{α:Type}{t:gj α}{Q Q':α->ak->Prop}{M:pd}{A:bo}{E:Q0c}{s:ak}(h:av M A t Q E s)(d:∀a s,Q a s->Q' a s):av M A t Q' E s:=ir h d λ_ _ x=>x
section
def Q0(i:Nat):TE:=λσ H Q=>∃v,σ[i]?=aa (aa v)/\Q v H
def tC(v:V):TE:=λ_ H Q=>Q v H
def sS(hN:X.N[i]?=aa x)(p:vH X.env.scope x)(j:Zu x<|>1)(n:Zt x<|>1):PE X (.Name x ν) (Q0 i):=by
 intro π s σ H Q I h;obtain⟨v,e,h⟩:=h;obtain⟨m,q,z⟩:=I.loc;obtain⟨u,r,l⟩:=z i x v hN e p;have fin:EP X π σ Q u s:=⟨v,H,I,r,h⟩;rcases l with⟨d,y⟩|⟨d,c,o,a⟩
 .exact zl (wpAny_loadName_local I.ok.kind d q y fin) j
 .rcases d with d|d
  .exact zl (wpAny_loadName_cell I.ok.kind d o a fin) j
  .exact zl (wpAny_loadName_free I.ok.kind d o a fin n) j
def WW{i j ν}:PE X (.Constant (.int i) j ν) (tC (.int i)):=λ_ _ _ H _ I h=>Sj ⟨.int i,H,I.tok _,⟨_,rfl⟩,h⟩
def Rf{b j ν}:PE X (.Constant (.bool b) j ν) (tC (.bl b)):=λ_ _ _ H _ I h=>Constant_bool ⟨.bl b,H,I,rfl,h⟩
def WY{j ν}:PE X (.Constant .none j ν) (tC .non):=λ_ _ _ H _ I h=>Constant_none ⟨.non,H,I,rfl,h⟩
def WZ{x j ν}:PE X (.Constant (.str x) j ν) (tC (.str x)):=λ_ _ _ H _ I h=>Au ⟨.str x,H,I.tok _,⟨_,rfl⟩,h⟩
def Gl(X:Cx)(x:ai):Prop:=X.env.kindOf x=aa .globalImplicit
theorem rG(I:Φ X π σ H s)(d:Gl X x)(a:X.mg x=aa u)(h:Q u s)
  (j:Zu x<|>1):av (aw X.Ω X.w) X.A (eval (.Name x ν) X.env) Q E s :=
 Vr I.ok.kind d (Calls.loadGlobal_global (by rw[I.ok.glob];show I.mod.glob.keeps I.bk) a h) j
theorem nE(I:Φ X π σ H s)(l:Gl X x)(j:X.mg x=ae)(a:bootBuiltins x=aa u)(h:Q u s)
  (d:x ≠ "__name__"<|>1) (m:Zu x<|>1):av (aw X.Ω X.w) X.A (eval (.Name x ν) X.env) Q E s:=by
 obtain⟨mb,n,h2⟩:=I.mod.blt;show Vr I.ok.kind l (Calls.loadGlobal_builtin (by rw[I.ok.glob];show I.mod.glob.keeps I.bk) j (by rw[I.ok.blt];show n.keeps I.bk) ((h2 x d).trans a) h) m
def FL(d:Gl X x)(a:X.mg x=aa u)(r:Ψ v u)(j:Zu x<|>1):PE X (.Name x ν) (tC v) :=
 λ_ _ _ H _ I h=>rG I d a ⟨v,H,I,r,h⟩ j
def FN(l:Gl X x)(j:X.mg x=ae)(a:bootBuiltins x=aa u)(r:Ψ v u)(d:x ≠ "__name__"<|>1)(m:Zu x<|>1):PE X (.Name x ν) (tC v) :=
 λ_ _ _ H _ I h=>nE I l j a ⟨v,H,I,r,h⟩ d m
variable{a b:au}{ta tb:TE}{ν:ba}
variable{tA tB':TT}{Θ:List au}
def mM(t u:TT):TT:=λσ H Q=>t σ H λc d=>if c=af then u σ d Q else Q ag d
def nO(t u:TT):TT:=λσ H Q=>t σ H λc d=>if c=af then Q af d else u σ d Q
def gF(t:TT):TT:=λσ H Q=>t σ H λc d=>Q (!c) d
theorem Q2(d:PT X a tA):PW X (.BoolOp .And [a] ν) tA:=by
 intro j π s σ H Q I h;show isTrue_and (c6 (d π s σ H Q I h) λc l e=>?_)
 cases c with
 |true=>show isTrue_and_nil e
 |false=>show e
theorem W2(d:PT X a tA):PW X (.BoolOp .Or [a] ν) tA:=by
 intro j π s σ H Q I h;show isTrue_or (c6 (d π s σ H Q I h) λc l e=>?_)
 cases c with
 |false=>show isTrue_or_nil e
 |true=>show e
theorem W3(o:PT X a tA)(n:PW X (.BoolOp .And (b::Θ) ν) tB'):PW X (.BoolOp .And (a::b::Θ) ν) (mM tA tB'):=by
 intro l π s σ H Q I h;show isTrue_and (c6 (o π s σ H _ I h) λc m ⟨j,d,q1⟩=>?_)
 cases c with
 |true=>show n l π m σ j Q d q1
 |false=>show⟨j,d,q1⟩
theorem Rc(o:PT X a tA)(n:PW X (.BoolOp .Or (b::Θ) ν) tB'):PW X (.BoolOp .Or (a::b::Θ) ν) (nO tA tB'):=by
 intro l π s σ H Q I h;show isTrue_or (c6 (o π s σ H _ I h) λc m ⟨j,d,q1⟩=>?_)
 cases c with
 |true=>show⟨j,d,q1⟩
 |false=>show n l π m σ j Q d q1
def W4(j:PT X a tA):PT X (.UnaryOp .Not a ν) (gF tA):=by intro π s σ H Q I h;show isTrue_not (c6 (j π s σ H (λc d=>Q (!c) d) I h) λ_ _ ⟨d,l,q⟩=>⟨d,l,q⟩)
def Qw(ta tb:TE):TE:=λσ H Q=>ta σ H λx d=>∃c,x=.bl c/\if c=af then tb σ d Q else Q (.bl ag) d
def Lc(ta tb:TE):TE:=λσ H Q=>ta σ H λx d=>∃c,x=.bl c/\if c=af then Q (.bl af) d else tb σ d Q
def Qu(ta:TE):TE:=λσ H Q=>ta σ H λx d=>∃c,x=.bl c/\Q (.bl (!c)) d
def W5{op}(h:PE X a t):PE X (.BoolOp op [a] ν) t:=λπ s σ H Q I hw=>BoolOp_one (h π s σ H Q I hw)
theorem W6(o:PE X a ta)(n:PE X (.BoolOp .And (b::Θ) ν) tb):PE X (.BoolOp .And (a::b::Θ) ν) (Qw ta tb):=by
 intro π s σ H Q I h;show BoolOp_and (c6 (o π s σ H _ I h) λv l ⟨x,j,d,m,q1⟩=>?_);obtain⟨c,rfl,q1⟩:=q1;cases m;show kc ?_
 cases c with
 |true=>show n π l σ j Q d q1
 |false=>show⟨.bl ag,j,d,rfl,q1⟩
theorem Qt(o:PE X a ta)(n:PE X (.BoolOp .Or (b::Θ) ν) tb):PE X (.BoolOp .Or (a::b::Θ) ν) (Lc ta tb):=by
 intro π s σ H Q I h;show BoolOp_or (c6 (o π s σ H _ I h) λv l ⟨x,j,d,m,q1⟩=>?_);obtain⟨c,rfl,q1⟩:=q1;cases m;show kc ?_
 cases c with
 |false=>show n π l σ j Q d q1
 |true=>show⟨.bl af,j,d,rfl,q1⟩
def W7(j:PE X a ta):PE X (.UnaryOp .Not a ν) (Qu ta):=by intro π s σ H Q I h;show UnaryOp_ (c6 (j π s σ H _ I h) λv n ⟨x,m,l,d,q1⟩=>?_);obtain⟨c,rfl,q1⟩:=q1;cases d;show not_of (kc ⟨.bl (!c),m,l,rfl,q1⟩)
def Cn(t:TT)(ta tb:TE):TE:=λσ H Q=>t σ H λc d=>if c=af then ta σ d Q else tb σ d Q
theorem LX{c:au}(n:PT X c tA)(p:PE X a ta)(o:PE X b tb):PE X (.IfExp c a b ν) (Cn tA ta tb):=by
 intro π s σ H Q I h;show wpAny_IfExp (c6 (n π s σ H _ I h) λd j ⟨m,l,q1⟩=>?_)
 cases d with
 |true=>show p π j σ m Q l q1
 |false=>show o π j σ m Q l q1
end
def eJ(K:aq)(H:Hp)(a:ah)(xs:List V):Prop :=
 Rd H a (.lst xs) \/
  ∃(o:ay) (d:Array aj) (n:Nat),K.lookup a=aa o/\o.cls=.type "list" /\o.dict=ae/\o.data=.seq d n/\d.size<=bc/\θ xs d.toList
def eR(K:aq)(H:Hp)(a:ah)(xs:List V):Prop :=
 Rd H a (.tup xs) \/
  ∃(o:ay) (d:Array aj) (n:Nat),K.lookup a=aa o/\o.cls=.type "tuple" /\o.data=.seq d n/\d.size<=bc/\θ xs d.toList
noncomputable def Lb:aj->Option V
 |.none=>aa .non
 |.bool b=>aa (.bl b)
 |.int i _=>aa (.int i)
 |.str x _=>aa (.str x)
 |.bytes b _=>aa (.HN b)
 |.float b _=>aa (.flt b)
 |.ref a=>aa (.ref a)
 |.type n=>aa (.ty n)
 |_=>ae
theorem Ψ.abs(r:Ψ x u):Lb u=aa x:=by
 cases x with
 |non=>cases r;rfl
 |bl _=>cases r;rfl
 |int _=>obtain⟨t,rfl⟩:=r;rfl
 |str _=>obtain⟨t,rfl⟩:=r;rfl
 |HN _=>obtain⟨t,rfl⟩:=r;rfl
 |flt _=>obtain⟨t,rfl⟩:=r;rfl
 |ref _=>cases r;rfl
 |ty _=>cases r;rfl
def Ψ.inj{x y:V}{u:aj}(r:Ψ x u)(q:Ψ y u):x=y:=fu (r.abs.symm.trans q.abs)
theorem θ.inj:∀{xs ys:List V} {a:Q0f},θ xs a->θ ys a->xs=ys
 |_,_,_,.nil,.nil=>rfl
 |_,_,_,.cons r t,.cons r' t'=>by rw[r.inj r',θ.inj t t']
section
variable{π:Q0b}{σ:St}{H:Hp}{s:ak}{a:ah}{xs ys:List V}
def eJ.of{K:aq}(h:H a=aa (.lst xs)):eJ K H a xs:=.inl (.inl h)
def eR.of{K:aq}(h:H a=aa (.tup xs)):eR K H a xs:=.inl (.inl h)
def Φ.list(I:Φ X π σ H s)(h:eJ X.K H a xs):∃d:Q0f,θ xs d/\PlainL s.heap a d.toArray/\⇑xs<=bc:=by
 rcases h with h|⟨o,d,n,l,p,m,j,q,r⟩
 .obtain ⟨z,d,n,r,e⟩:=h.ok I.hok;show⟨d,r,⟨_,n,e,rfl,rfl,rfl⟩,z⟩
 .refine ⟨d.toList,r,⟨o,n,I.rF a o l,p,m,↑j⟩,?_⟩;have e:=⇑r;erw[Cc] at e;lia
def Φ.tuple(I:Φ X π σ H s)(h:eR X.K H a xs):∃d:Q0f,θ xs d/\gc s.heap a d.toArray/\⇑xs<=bc:=by
 rcases h with h|⟨o,d,n,l,m,j,q,r⟩
 .obtain ⟨z,d,r,p,_⟩:=h.ok I.hok;show⟨d,r,p,z⟩
 .refine ⟨d.toList,r,⟨o,I.rF a o l,m,n,↑j⟩,?_⟩;have e:=⇑r;erw[Cc] at e;lia
def Φ.oG(I:Φ X π σ H s)(h:eJ X.K H a xs)(h':eJ X.K H a ys):xs=ys:=by
 obtain⟨l,r,⟨o,n,e,_,_,d⟩,_⟩:=I.list h;obtain⟨its',m,⟨q,v,j,_,_,d'⟩,_⟩:=I.list h';rw[e] at j;cases j;rw[d] at d';injection d' with p _;have:l=its':=by simpa using congrArg Yq p
 subst this;show r.inj m
def Φ.l7(I:Φ X π σ H s)(h:eR X.K H a xs)(h':eR X.K H a ys):xs=ys:=by
 obtain⟨l,r,⟨o,e,_,n,d⟩,_⟩:=I.tuple h;obtain⟨its',m,⟨q,j,_,v,d'⟩,_⟩:=I.tuple h';rw[e] at j;cases j;rw[d] at d';injection d' with p _;have:l=its':=by simpa using congrArg Yq p
 subst this;show r.inj m
end
abbrev Cx.wish(X:Cx)(E:Q0c):Cx:={X with xe:=E}
abbrev Cx.LY(X:Cx):Cx:=X.wish λ_ _=>False
def Cx.Ok.wish{X:Cx}(ok:X.Ok)(E:Q0c):(X.wish E).Ok :=
 ⟨ok.mod,ok.kind,ok.glob,ok.blt,ok.above,ok.inj,ok.has,ok.cab,ok.hd,ok.frames,ok.stk,ok.exf,ok.bs,ok.PN,ok.CW,ok.HQ,ok.nB,ok.UX,ok.tab⟩
def Cx.Ok.kE{X:Cx}{E:Q0c}(ok:(X.wish E).Ok):X.Ok :=
 ⟨ok.mod,ok.kind,ok.glob,ok.blt,ok.above,ok.inj,ok.has,ok.cab,ok.hd,ok.frames,ok.stk,ok.exf,ok.bs,ok.PN,ok.CW,ok.HQ,ok.nB,ok.UX,ok.tab⟩
section
variable{π:Q0b}{σ:St}{H:Hp}{s:ak}{E:Q0c}
def Φ.wish(I:Φ X π σ H s)(E:Q0c):Φ (X.wish E) π σ H s:=⟨I.ok.wish E,I.os,I.bare,I.ω,I.loc,I.cell,I.free,I.fG,I.pin,I.hok,I.len⟩
def Φ.kE(I:Φ (X.wish E) π σ H s):Φ X π σ H s:=⟨I.ok.kE,I.os,I.bare,I.ω,I.loc,I.cell,I.free,I.fG,I.pin,I.hok,I.len⟩
theorem SP.kE{D:Ends}{f:Flow}{s':ak}(h:SP (X.wish E) π D f s'):SP X π D f s':=by
 cases f with
 |next=>obtain⟨a,H',I,q⟩:=h;show⟨a,H',I.kE,q⟩
 |brk=>obtain⟨a,H',I,q⟩:=h;show⟨a,H',I.kE,q⟩
 |cont=>obtain⟨a,H',I,q⟩:=h;show⟨a,H',I.kE,q⟩
 |ret u=>obtain⟨v,a,H',I,r,q⟩:=h;show⟨v,a,H',I.kE,r,q⟩
def y9.LY{st:List bq}{t:TS}(h:y9 X.LY st t):y9 X st t:=λπ s σ H D I hw =>
 ir (h π s σ H D (I.wish _) hw) (λ_ _ q=>q.kE) λ_ _ z=>ip z
variable{st:bq}{Θ:List bq}{t u:TS}{e:au}{te:TE}{ν:ba}
def Qs:TS:=λD σ H=>D.nx σ H
def yw(t u:TS):TS:=λD σ H=>t {D with nx:=u D} σ H
def FO:y9 X [] Qs:=λ_ _ σ H _ I h=>ur ⟨σ,H,I,h⟩
theorem LZ(j:PS X st t)(h2:y9 X Θ u):y9 X (st::Θ) (yw t u):=by
 intro π s σ H D I h;show zj (c6 (j π s σ H {D with nx:=u D} I h) λf d q=>?_)
 cases f with
 |next =>
  obtain⟨a,H',l,q⟩:=q;show h2 π d a H' D l q
 |ret v=>show q
 |brk=>show q
 |cont=>show q
theorem Q4(a:PS X st t):y9 X [st] t:=by
 intro π s σ H D I h;show zj (c6 (a π s σ H D I h) λf d q=>?_)
 cases f with
 |next=>show ur q
 |ret v=>show q
 |brk=>show q
 |cont=>show q
def Φ.quiet(I:Φ X π σ H s):interactive X.env=ag:=by simp[interactive,I.ok.kind]
def Qr(te:TE):TS:=λD σ H=>te σ H λ_ a=>D.nx σ a
def FP(d:PE X e te)(a:fg e ae ν.line X.env=pure ag<|>0):PS X (.Expr e ν) (Qr te):=by intro π s σ H D I h;show wpAny_Expr_any (c6 (d π s σ H _ I h) λv m ⟨x,l,j,n,q1⟩=>⟨σ,l,j,q1⟩) I.quiet a
def La(te:TE):TS:=λD σ H=>te σ H D.rt
def MA(d:PE X e te):PS X (.Return (aa e) ν) (La te):=by intro π s σ H D I h;show wpAny_Return_some (c6 (d π s σ H _ I h) λv m ⟨x,l,j,a,q1⟩=>⟨x,σ,l,j,a,q1⟩)
def K_(c:TT)(t u:TS):TS:=λD σ H=>c σ H λb a=>if b=af then t D σ a else u D σ a
theorem Qq(n:PT X c tc)(p:y9 X a t)(o:y9 X b u):PS X (.If c a b ν) (K_ tc t u):=by
 intro π s σ H D I h;show wpAny_If (c6 (n π s σ H _ I h) λd j ⟨m,l,q1⟩=>?_)
 cases d with
 |true=>show p π j σ m D l q1
 |false=>show o π j σ m D l q1
end
abbrev TG:=V->St->Hp->(St->Hp->Prop)->Prop
abbrev TGs:=List V->St->Hp->(St->Hp->Prop)->Prop
def PG(X:Cx)(target:au)(t:TG):Prop :=
 ∀(π:Q0b) (s:ak) (σ:St) (H:Hp) (v:V) (u:aj) (Q:St->Hp->Prop),Φ X π σ H s->Ψ v u->t v σ H Q ->
  av (aw X.Ω X.w) X.A (assign target X.env u) (λ_ s'=>∃a H',Φ X π a H' s'/\Q a H') X.xe s
def PGs(X:Cx)(h:List au)(t:TGs):Prop :=
 ∀(π:Q0b) (s:ak) (σ:St) (H:Hp) (vs:List V) (d:Q0f) (Q:St->Hp->Prop),Φ X π σ H s->θ vs d->t vs σ H Q ->
  av (aw X.Ω X.w) X.A (assignInOrder ((cp h X.env).map (·.2)) d) (λ_ s'=>∃a H',Φ X π a H' s'/\Q a H') X.xe s
section
variable{ν:ba}
def MB(i:Nat):TG:=λv σ H Q=>Q (σ.set i (aa v)) H
def l8(hN:X.N.Nodup)(d:X.N[i]?=aa x)(a:Loc X.env.scope x)(j:Zq X x<|>9):PG X (.Name x ν) (MB i):=by intro π s σ H v u Q I r h;show wpAny_assign_Name (oF I hN d a r (λs' l=>⟨_,H,l,h⟩) j)
def Kz:TGs:=λvs σ H Q=>vs=[]/\Q σ H
def Qp(t:TG)(u:TGs):TGs:=λvs σ H Q=>∃v r,vs=v::r/\t v σ H λa H'=>u r a H' Q
def FQ:PGs X [] Kz:=by intro π s σ H vs a Q I r h;obtain⟨e,h⟩:=h;subst e;cases r;show assignInOrder_nil ⟨σ,H,I,h⟩
theorem oH(l:PG X e t)(h2:PGs X es u)
  (j:((cp (e::es) X.env).map (·.2)=assign e X.env::(cp es X.env).map (·.2))<|>0):PGs X (e::es) (Qp t u):=by
 intro π s σ H vs q Q I r h;obtain⟨v,p,m,h⟩:=h;subst m
 cases r with
 |cons r rr =>
  rw[j];show assignInOrder_cons (c6 (l π s σ H _ _ _ I r h) λ_ d ⟨a,o,n,q1⟩=>?_);show h2 π d a o _ _ Q n rr q1
def Ko(K:aq)(n:Nat)(t:TGs):TG:=λv σ H Q=>∃a xs,v=.ref a/\eR K H a xs/\⇑xs=n/\t xs σ H Q
theorem MC(y:X.calm=af)(h:PGs X es t)
  (q:⇑(cp es X.env)=n<|>0) (d:(cp es X.env).findIdx? (·.1)=ae<|>0):PG X (.Tuple es k ν) (Ko X.K n t):=by
 intro π s σ H v u Q I r hw;obtain⟨a,xs,z,p,x,hw⟩:=hw;subst z;cases r;obtain⟨F,j,m,J⟩:=I.tuple p;show assign_Tuple_tuple (I.ok.hd y) m (by simp[q,<- x,⇑j]) d λh' l=>?_;have A:Φ X π σ H {s with heap:=h' }:=I.kept (t':=s.toks) λb o e=>l b o (de (bj e)) e;show h π _ σ H xs _ Q A ↑j hw
def W8(te:TE)(g:TG):TS:=λD σ H=>te σ H λx a=>g x σ a D.nx
def W9(m:PE X e te)(l:PG X tg g)(j:swapsWithSole [tg] e ν.line X.env=pure ag<|>0)(hw:swappedStores [tg] e X.env=pure ae<|>0)
  (n:(cp [tg] X.env).map (·.2)=[assign tg X.env]<|>0):PS X (.Assign [tg] e ν) (W8 te g):=by
 intro π s σ H D I h;show wpAny_Assign_stores (c6 (m π s σ H _ I h) λv a ⟨x,p,o,d,q1⟩=>?_) j hw;rw[n];show c6 (l π a σ p x v _ o d q1) λ_ y q=>q
def pQ(hN:X.N.Nodup)(l:X.N[i]?=aa x)(d:Loc X.env.scope x)(n:PE X e te)(j:Rv X e x pos' ν<|>0)(m:Zq X x<|>9):
  PS X (.Assign [.Name x pos'] e ν) (W8 te (MB i)):=by
 intro π s σ H D I h;show Sn (c6 (n π s σ H _ I h) λv A ⟨y,q,p,a,q1⟩=>?_) j;show oF p hN l d a (λz o=>⟨_,q,o,q1⟩) m
def XA(c:TT)(j:TS):TS:=λD σ H=>∃W:Nat->St->Hp->Prop,(∃m,W m σ H) /\∀m σ H,W m σ H ->
 c σ H λb h=>if b=af then ∃N:St->Hp->Prop,(∀a H',N a H' ->∃d,d<m/\W d a H')/\j {D with nx:=N,ct:=N,bk:=D.nx} σ h else D.nx σ h
theorem MD(y:o_ (aw X.Ω X.w) X.A X.env X.xe)(Z:PT X c tc)(hb:y9 X body tb):PS X (.While c body [] ν) (XA tc tb):=by
 intro π s σ H D I h;obtain⟨W,⟨Y,L⟩,turn⟩:=h;show wpAny_While (codeAny_whileLoop (λn s'=>∃j H',Φ X π j H' s'/\W n j H') ?_ Y ⟨σ,H,I,L⟩);rintro n U ⟨d,J,I1,K⟩;show mn y (c6 (Z π U d J _ I1 (turn n d J K)) λb O ⟨F,z,q2⟩=>?_)
 cases b with
 |true =>
  obtain⟨N,hN,q2⟩:=q2;rw[Z_ rfl];show mn y (c6 (hb π O d F _ z q2) λf s3 m=>?_)
  cases f with
  |next =>
   obtain⟨a,l,x,n3⟩:=m;obtain⟨p,q,o⟩:=hN a l n3;show⟨p,q,a,l,x,o⟩
  |cont =>
   obtain⟨a,l,x,n3⟩:=m;obtain⟨p,q,o⟩:=hN a l n3;show⟨p,q,a,l,x,o⟩
  |brk=>show m
  |ret v=>show m
 |false =>
  rw[Zz bg];show ur ⟨d,F,z,q2⟩
end
structure It where
 go:Nat->Hp->Prop
 yld:Nat->Hp->V->Hp->Prop
 stop:Nat->Hp->Prop
def mF(X:Cx)(π:Q0b)(H:Hp)(b:ah):Prop :=
 H b=ae/\b≠X.env.locals/\b∉X.fs/\(b∈X.ex\/↥X.s₀<=b)/\(∀x c,X.env.cells.lookup x=aa c->c≠b) /\∀p∈X.pn++π,p.1≠b
theorem Φ.z9(I:Φ X π σ H s)(a:↥s<=b)(h:H' b=ae):mF X π H' b:=by
 show⟨h,nc (e_ I.lt a),I.Le a,.inr (cy I.sz a),λx c e z=>?_,λp d z=>?_⟩
 .obtain ⟨v,q⟩:=I.cell x c e;show Zw (e_ q.lt (by rw[z];show a)) (gf _)
 .exact Zw (e_ (bj (I.pin p d).1) (by rw[z];show a)) (gf _)
structure Turn (P:bb) (w:az) (K:aq) (tg:au) (J:It) (fp:List ah) (it:ah) (tn:Nat->a_->Prop):Prop where
 mem:it∈fp
 obj:∀i h,tn i h ->∀b∈fp,∃o,h.get? b=aa o /\∀v,o.data≠.cell v
 keep:∀i h h',tn i h->(∀b∈fp,∀o,h.get? b=aa o->h'.get? b=aa o)->tn i h'
 item:∀(X:Cx),X.Ω=P->X.w=w->X.K=K->X.calm=af ->∀(i:Nat) (π:Q0b) (s:ak) (σ:St) (H:Hp) (E:Q0c),Φ X π σ H s->(∀b∈fp,mF X π H b)->tn i s.heap->J.go i H ->
  av (aw P w) X.A (pyNext (.ref it)) (λr s1=>∃u,r=aa u /\
   av (aw P w) X.A (letOwnedTupleGo tg (.ref it) u) (λ_ s2=>∃x H',Φ X π σ H' s2/\Ψ x u/\J.yld i H x H'/\tn (i+1) s2.heap /\∀b∈fp,H' b=ae) E s1) E s
 done:∀(X:Cx),X.Ω=P->X.w=w->X.K=K->X.calm=af ->∀(i:Nat) (π:Q0b) (s:ak) (σ:St) (H:Hp) (E:Q0c),Φ X π σ H s->(∀b∈fp,mF X π H b)->tn i s.heap->J.stop i H ->
  av (aw P w) X.A (pyNext (.ref it)) (λr s1=>r=ae/\Φ X π σ H s1) E s
 self:∀(A:bo) (i:Nat) (s:ak) (Q:Q0c) (E:Q0c),tn i s.heap->Q (.ref it) s->av (aw P w) A (pyIter (.ref it)) Q E s
abbrev TI:=St->Hp->(It->Hp->Prop)->Prop
inductive PIE (X:Cx) (π:Q0b) (σ:St) (tg:au) (R:It->Hp->Prop) (itv:aj) (s2:ak):Prop
 |mk (it:ah) (fp:List ah) (tn:Nat->a_->Prop) (J:It) (H':Hp) (h1:itv=.ref it) (h2:Φ X π σ H' s2) (h3:Turn X.Ω X.w X.K tg J fp it tn) (h4:tn 0 s2.heap) (h5:(∀b∈fp,mF X π H' b)) (h6:R J H'):PIE X π σ tg R itv s2
def PI(X:Cx)(a iter:au)(wi:TI):Prop :=
 ∀(π:Q0b) (s:ak) (σ:St) (H:Hp) (R:It->Hp->Prop),Φ X π σ H s->wi σ H R ->
  av (aw X.Ω X.w) X.A (eval iter X.env) (λv d=>av (aw X.Ω X.w) X.A (pyIter v) (PIE X π σ a R) X.xe d) X.xe s
theorem FR(ho:s.heap.get? it=aa o)(l:o.cls=.type n)(j:o.data=.fields vs)
  (d:["enumerate","zip","dict_itemiterator","dict_reverseitemiterator","odict_iterator","itertools.zip_longest","itertools.pairwise"].contains n=ag) (a:Q () s):av M A (letOwnedTupleGo tg (.ref it) u) Q E s:=by
 unfold letOwnedTupleGo;cases tg<;>first
  |show ax a
  | (cases u<;>first
    |show ax a
    | (show ao (uq ho ?_)
       rw[l,j];show av M A (if(["enumerate","zip","dict_itemiterator","dict_reverseitemiterator","odict_iterator","itertools.zip_longest","itertools.pairwise"].contains n&&vs[0]? == aa (rawInt _))=af then _ else _) Q E s;rw[Zz (by intro h;rw[d,Ca] at h;cases h)];show ax a))
def Itl(K:aq)(a:ah):It :=
 ⟨λi H=>∃xs x,eJ K H a xs/\xs[i]?=aa x,λi H x H'=>H'=H /\∀xs,eJ K H a xs->xs[i]?=aa x,λi H=>∃xs,eJ K H a xs/\⇑xs<=i⟩
def Itt(K:aq)(a:ah):It :=
 ⟨λi H=>∃xs x,eR K H a xs/\xs[i]?=aa x,λi H x H'=>H'=H /\∀xs,eR K H a xs->xs[i]?=aa x,λi H=>∃xs,eR K H a xs/\⇑xs<=i⟩
def Itr(a:Int)(n:Nat):It:=⟨λi _=>i<n,λi H x H'=>H'=H/\x=.int (a+i),λi _=>n<=i⟩
theorem HS{P:bb}{w:az}{K:aq}{tg:au}(a it:ah):Turn P w K tg (Itl K a) [it] it (λi h=>h.IsListIter it a i) where
 mem:=by simp
 obj:=λi h st b j=>by
  have e:b=it:=by simpa using j
  subst e;obtain⟨o,e,c,d⟩:=st;show⟨o,e,λv z=>by rw[d] at z;cases z⟩
 keep:=λi h h' st k=>st.at λo e=>k it (by simp) o e
 item:=by intro X F hw J hc i π s σ H E I n st A;subst F hw J;obtain⟨xs,x,m,y⟩:=A;obtain⟨ι,q,p,hz⟩:=I.list m;obtain⟨u,hu,ru⟩:=q.get y;obtain⟨Z,Y,f2,U,O,L⟩:=n it (by simp);show wpAny_pyNext_list_item st p.isList (x:=u) ↑hu λh' l sb=>?_;have I1:Φ X π σ H {s with heap:=h' }:=I.turned (t':=s.toks) (λb o j e=>(sb.2 b j).trans e) Z Y U O L;obtain⟨o,e,c,d⟩:=id l;show⟨u,rfl,FR (s:={s with heap:=h' }) e c d ⋯ ⟨x,H,I1,ru,⟨rfl,λys hy=>by rw[I.oG hy m];show y⟩,l,λb j=>(n b j).1⟩⟩
 done:=by intro X F hw J hc i π s σ H E I n st A;subst F hw J;obtain⟨xs,m,y⟩:=A;obtain⟨ι,q,p,hz⟩:=I.list m;obtain⟨Z,Y,f2,U,O,L⟩:=n it (by simp);have hl:=⇑q;show wpAny_pyNext_list_end (I.ok.hd hc) st p.isList (by simp;lia) λh' eb=>⟨rfl,I.turned (t':=s.toks) (λb o j e=>eb b o j e) Z Y U O L⟩
 self:=λ_ _ _ _ _ st h=>wpAny_pyIter_listiter st h
theorem CY{P:bb}{w:az}{K:aq}{tg:au}(a it:ah):Turn P w K tg (Itt K a) [it] it (λi h=>h.IsTupleIter it a i) where
 mem:=by simp
 obj:=λi h st b j=>by
  have e:b=it:=by simpa using j
  subst e;obtain⟨o,e,c,d⟩:=st;show⟨o,e,λv z=>by rw[d] at z;cases z⟩
 keep:=λi h h' st k=>st.at λo e=>k it (by simp) o e
 item:=by intro X J hw L hc i π s σ H E I n st F;subst J hw L;obtain⟨xs,x,m,A⟩:=F;obtain⟨q,y,p,hz⟩:=I.tuple m;obtain⟨u,hu,ru⟩:=y.get A;obtain⟨f0,Z,f2,Y,U,O⟩:=n it (by simp);show wpAny_pyNext_tuple_item st (show s.heap.IsTuple a q.toArray from p) (x:=u) ↑hu λh' l sb=>?_;have I1:Φ X π σ H {s with heap:=h' }:=I.turned (t':=s.toks) (λb o j e=>(sb.2 b j).trans e) f0 Z Y U O;obtain⟨o,e,c,d⟩:=id l;show⟨u,rfl,FR (s:={s with heap:=h' }) e c d ⋯ ⟨x,H,I1,ru,⟨rfl,λys hy=>by rw[I.l7 hy m];show A⟩,l,λb j=>(n b j).1⟩⟩
 done:=by intro X J hw L hc i π s σ H E I n st F;subst J hw L;obtain⟨xs,m,A⟩:=F;obtain⟨q,y,p,hz⟩:=I.tuple m;obtain⟨f0,Z,f2,Y,U,O⟩:=n it (by simp);have hl:=⇑y;show wpAny_pyNext_tuple_end (I.ok.hd hc) st (show s.heap.IsTuple a q.toArray from p) (by simp;lia) λh' eb=>⟨rfl,I.turned (t':=s.toks) (λb o j e=>eb b o j e) f0 Z Y U O⟩
 self:=λ_ _ _ _ _ st h=>wpAny_pyIter_tupleiter st h
theorem CZ{P:bb}{w:az}{K:aq}{Y:au}(it:ah)(j:Int)(n:Nat):Turn P w K Y (Itr j n) [it] it (λi h=>vn h it (j+(i:Nat)*1) ((n:Int)-(i:Nat)) 1) where
 mem:=by simp
 obj:=λi h st b a=>by
  have e:b=it:=by simpa using a
  subst e;show⟨_,st,λv z=>by have U:Vn _=Vo v:=z;cases U⟩
 keep:=λi h h' st k=>k it (by simp) _ st
 item:=by intro X q hw x p i π s σ H E I l st m;subst q hw x;obtain⟨L,J,f2,F,A,y⟩:=l it (by simp);have W:=Tp (prog:=X.Ω) (w:=X.w) (I.ok.hd p) it j 1 n;show W.item i s _ _ m st λv h' O hv d Z=>?_;obtain⟨t,rfl⟩:=hv;have I1:Φ X π σ H {s with heap:=h',toks:=O}:=I.turned (λb o a e=>Z b o ↑a e) L J F A y;show⟨_,rfl,FR (s:={s with heap:=h',toks:=O}) (n:="range_iterator") d rfl rfl ⋯ ⟨.int (j+i),H,I1,⟨t,?_⟩,⟨rfl,rfl⟩,d,λb a=>(l b a).1⟩⟩;rw[Ye]
 done:=by intro X q hw x p i π s σ H E I l st m;subst q hw x;obtain⟨L,J,f2,F,A,y⟩:=l it (by simp);show Rr (I.ok.hd p) st (by have:n<=i:=m;lia) λh' eb=>⟨rfl,I.turned (t':=s.toks) (λb o a e=>eb b o a e) L J F A y⟩
 self:=λ_ _ _ _ _ st h=>Rx st h
section
variable{tg:au}
theorem ME{π:Q0b}{σ:St}{H:Hp}{s:ak}{R:It->Hp->Prop}{E:Q0c}{a d:Int}{t u v:f_}{h:Nat}(I:Φ X π σ H s)(p:-(2^62)<=a)(h2:a<2^62)(n:-(2^62)<=d)(m:d<2^62)
  (q:R (Itr a (d-a).toNat) H):av (aw X.Ω X.w) X.A (pyIter (.ref ↥s)) (PIE X π σ tg R) E {s with heap:=s.heap.push {cls:=.type "range",data:=.fields #[.int a t,.int d u,.int 1 v]},toks:=h}:=by
 show Ry (Ut ..) (small_one p h2 n m) ?_;have j:Φ X π σ H {s with heap:=s.heap.push {cls:=.type "range",data:=.fields #[.int a t,.int d u,.int 1 v]},toks:=h}:=I.kept λb o e=>bu _ e;show⟨(s.heap.push {cls:=.type "range",data:=.fields #[.int a t,.int d u,.int 1 v]}).objs.size,[(s.heap.push {cls:=.type "range",data:=.fields #[.int a t,.int d u,.int 1 v]}).objs.size],_,_,H,rfl,
  j.kept (t':=h) λb o e=>bu _ e,CZ _ a (d-a).toNat,?_,λb l=>?_,q⟩
 .have y:a+((0:Nat):Int)*1=a:=by simp
  have x:(((d-a).toNat:Nat):Int)-((0:Nat):Int)=sd a d 1:=by rw[Sy];split<;>lia
  show vn _ _ (a+((0:Nat):Int)*1) ((((d-a).toNat:Nat):Int)-((0:Nat):Int)) 1;rw[y,x];show cz _ rfl
 .have e:b=(s.heap.push {cls:=.type "range",data:=.fields #[.int a t,.int d u,.int 1 v]}).objs.size:=by simpa using l
  subst e;show j.z9 (bf _) (j.hok.fresh (bf _))
def Qo(a:TA):TI:=λσ H R=>a σ H λvs d=>∃j:Int,vs=[.int j] /\ -(2^62)<=j/\j<2^62/\R (Itr 0 j.toNat) d
theorem HU{a:au}{d:TA}{p ν:ba}(o:Gl X "range")(n:X.mg "range"=ae)(v:PA X [a] d)(m:ar [a] X.env=[(ag,eval a X.env)]<|>0):PI X tg (.Call (.Name "range" p) [a] [] ν) (Qo d):=by
 intro π s σ H R I h;show Call_ (nE I o n Ba (se (c6 (v ν π s σ H _ I h) λy z ⟨vs,A,x,l,q1⟩=>?_) m rfl));obtain⟨j,e,q1,q2,q⟩:=q1;subst e
 cases l with
 |cons r rr =>
  cases rr;obtain⟨t,rfl⟩:=r;show Th (ME x ∅ ∅ q1 q2 ↑q)
def Kn(wi:TI)(g:TG)(j:TS):TS:=λD σ H=>wi σ H λJ n=>∃W:Nat->Nat->St->Hp->Prop,(∃m,W 0 m σ n) /\∀i m σ H,W i m σ H ->
 (J.stop i H/\D.nx σ H)\/(J.go i H /\∃N:St->Hp->Prop,(∀a H',N a H' ->∃h,h<m/\W (i+1) h a H') /\∀x H',J.yld i H x H'->g x σ H' λd l=>j {D with nx:=N,ct:=N,bk:=D.nx} d l)
def sU(a:List ah)(h:a_):List (ah×ay):=a.filterMap λb=>(h.get? b).map λo=>(b,o)
def kF(a:b∈fp)(e:h.get? b=aa o):(b,o)∈sU fp h:=nk.mpr ⟨b,a,by rw[e];rfl⟩
theorem HV(a:p∈sU fp h):p.1∈fp/\h.get? p.1=aa p.2:=by
 obtain⟨b,d,e⟩:=nk.mp a
 cases q:h.get? b with
 |none=>rw[q] at e;cases e
 |some o =>
  rw[q] at e;have j:(b,o)=p:=fu e;subst j;show⟨d,q⟩
def Φ.pinned(I:Φ X π σ H s)(l:∀b∈fp,mF X π H b)(ho:∀b∈fp,∃o,s.heap.get? b=aa o /\∀v,o.data≠.cell v):Φ X (π++sU fp s.heap) σ H s :=
 I.FK λp j=>(dq.mp j).elim (λz=>I.pin p (gg _ z)) λz=>by obtain⟨a,e⟩:=HV z;obtain⟨q,n,m,_⟩:=l p.1 a;obtain⟨o,h,d⟩:=ho p.1 a;rw[e] at h;cases h;show⟨e,q,n,m,d⟩
def Φ.oI(I:Φ X (π++pl) σ H s):Φ X π σ H s:=I.FK λp a=>I.pin p (gg _ (dj _ a))
theorem XB(U:o_ (aw X.Ω X.w) X.A X.env X.xe)(hc:X.calm=af)(hi:PI X tg iter wi)(hg:PG X tg g)(q:y9 X body tb)
  (hs:Zo X iter<|>5):PS X (.For tg iter body [] ν) (Kn wi g tb):=by
 intro π s σ H D I h;show wpAny_For (c6 (hi π s σ H _ I h) λv s1 h1=>c6 h1 λitv s2 h2=>?_) hs;obtain⟨it,Z,tn,J,H2,e,I2,T,st2,f2,W,⟨m0,w0⟩,turn⟩:=h2;subst e
 -- what stays af of the iterator's objects through the loop
 have p:∀{H':Hp},(∀b∈Z,H' b=ae) ->∀b∈Z,mF X π H' b:=λhn b q=>⟨hn b q,(f2 b q).2⟩;show codeAny_forLoop_any (λn s'=>∃i l H',Φ X π l H' s'/\tn i s'.heap/\(∀b∈Z,H' b=ae)/\W i n l H') ?_ m0 ⟨0,σ,H2,I2,st2,λb q=>(f2 b q).1,w0⟩;rintro n s3 ⟨i,j,H3,I3,L,Y,w3⟩;rcases turn i n j H3 w3 with⟨stop,qn⟩|⟨go,N,hN,step⟩
 .refine mn U (c6 (T.done X rfl rfl rfl hc i π s3 j H3 X.xe I3 (p Y) L stop) λr s4 ⟨hr,I4⟩=>?_);subst hr;show ur ⟨j,H3,I4,qn⟩
 .refine mn U (c6 (T.item X rfl rfl rfl hc i π s3 j H3 X.xe I3 (p Y) L go) λr s4 ⟨u,hr,h4⟩=>?_);subst hr;show mn U (c6 h4 λ_ s5 ⟨x,H5,I5,r5,y5,K,fr5⟩=>?_);have I5':=I5.pinned (p fr5) (T.obj _ _ K);show mn U (c6 (hg _ s5 j H5 x u _ I5' r5 (step x H5 y5)) λ_ s6 ⟨σ6,H6,I6,q6⟩=>?_);show mn U (c6 (q _ s6 σ6 H6 _ I6 q6) λf s7 F=>?_);have again:∀{a:St} {z:Hp},Φ X (π++sU Z s5.heap) a z s7->N a z ->∃m,m<n /\∃i l H',Φ X π l H' s7/\tn i s7.heap/\(∀b∈Z,H' b=ae)/\W i m l H':=λ{a z} y O=>by obtain⟨m',hm,w7⟩:=hN a z O;show⟨m',hm,i+1,a,z,y.oI,T.keep _ _ _ K λb q o e=>(y.pin (b,o) (gg _ (gg _ (kF q e)))).1,λb q=>?_,w7⟩;obtain⟨o,e,d⟩:=T.obj _ _ K b q;show(y.pin (b,o) (gg _ (gg _ (kF q e)))).2.1
  cases f with
  |next=>obtain⟨a,z,y,O⟩:=F;show again y O
  |cont=>obtain⟨a,z,y,O⟩:=F;show again y O
  |brk=>obtain⟨a,z,y,F⟩:=F;show⟨a,z,y.oI,F⟩
  |ret v=>obtain⟨x7,a,z,y,r7,F⟩:=F;show⟨x7,a,z,y.oI,r7,F⟩
end
abbrev R2:=V->V->Hp->VK->Prop
def iQ(X:Cx)(f:aj->aj->gj aj)(r:R2):Prop :=
 ∀(π:Q0b) (s:ak) (σ:St) (H:Hp) (x y:V) (v u:aj) (Q:VK),Φ X π σ H s->Ψ x v->Ψ y u->r x y H Q ->
  av (aw X.Ω X.w) X.A (f v u) (EP X π σ Q) X.xe s
def UnR(X:Cx)(f:aj->gj aj)(r:V->Hp->VK->Prop):Prop :=
 ∀(π:Q0b) (s:ak) (σ:St) (H:Hp) (x:V) (v:aj) (Q:VK),Φ X π σ H s->Ψ x v->r x H Q ->
  av (aw X.Ω X.w) X.A (f v) (EP X π σ Q) X.xe s
def eB(X:Cx)(f:aj)(r:List V->Hp->VK->Prop):Prop :=
 ∀(π:Q0b) (s:ak) (σ:St) (H:Hp) (xs:List V) (a:Q0f) (Q:VK),Φ X π σ H s->θ xs a->r xs H Q ->
  av (aw X.Ω X.w) X.A (call f a) (EP X π σ Q) X.xe s
def Km(X:Cx)(r:V->Hp->(Bool->Hp->Prop)->Prop):Prop :=
 ∀(π:Q0b) (s:ak) (σ:St) (H:Hp) (x:V) (v:aj) (Q:Bool->Hp->Prop),Φ X π σ H s->Ψ x v->r x H Q ->
  av (aw X.Ω X.w) X.A (truthy v) (TP X π σ Q) X.xe s
def mj(r:R2)(d a:TE):TE:=λσ H Q=>d σ H λx j=>a σ j λy h=>r x y h Q
def Ck(r:V->Hp->VK->Prop)(a:TE):TE:=λσ H Q=>a σ H λx d=>r x d Q
def rI(C:Int->Int->Prop)(g:Int->Int->V):R2:=λx y H Q=>∃i j,x=.int i/\y=.int j/\C i j/\Q (g i j) H
def HW(g:Int->Int->V):R2:=λx y H Q=>∃i j,x=.int i/\y=.int j/\Q (g i j) H
def rU(g:Int->V):V->Hp->VK->Prop:=λx H Q=>∃i,x=.int i/\Q (g i) H
section
variable{a b c:au}{ta tb tc:TE}{ν:ba}
theorem XD(L:PE X a ta)(K:PE X b tb){π:Q0b}{s:ak}{σ:St}{H:Hp}{R:V->V->Hp->Prop}(I:Φ X π σ H s)
  (h:ta σ H λx p=>tb σ p λy d=>R x y d) {Q:Q0c} {f:aj->aj->gj aj}
  (J:∀v u m x y d,Φ X π σ d m->Ψ x v->Ψ y u->R x y d->av (aw X.Ω X.w) X.A (f v u) Q X.xe m):
  av (aw X.Ω X.w) X.A (eval a X.env) (λv l=>av (aw X.Ω X.w) X.A (eval b X.env) (λu j=>av (aw X.Ω X.w) X.A (f v u) Q X.xe j) X.xe l) X.xe s:=by
 show c6 (L π s σ H _ I h) λv q o=>?_;obtain⟨x,p,U,F,q1⟩:=o;show c6 (K π q σ p _ U q1) λu m n=>?_;obtain⟨y,d,O,z,q2⟩:=n;show J v u m x y d O F z q2
def MF{op:Operator}{r:R2}(ho:iQ X (binaryOp op) r)(n:PE X a ta)(m:PE X b tb):PE X (.BinOp a op b ν) (mj r ta tb):=by intro π s σ H Q I h;show Sm (XD n m I h λv u d x y p o l j q=>ho π d σ p x y v u Q o l j q)
def Qn(ho:UnR X (unaryOp op) r)(l:PE X a ta):PE X (.UnaryOp op a ν) (Ck r ta):=by intro π s σ H Q I h;show UnaryOp_ (c6 (l π s σ H _ I h) λv d ⟨x,n,m,j,q1⟩=>ho π d σ n x v Q m j q1)
theorem opI{f:aj->aj->gj aj}{C:Int->Int->Prop}{g:Int->Int->Int}
  (rule:∀(i j:Int) (t u:f_) (s:ak) (Q:Q0c) (E:Q0c),C i j->Q (.int (g i j) s.toks) {s with toks:=s.toks+1}->av (aw X.Ω X.w) X.A (f (.int i t) (.int j u)) Q E s):
  iQ X f (rI C λi j=>.int (g i j)):=by
 intro π s σ H x y v u Q I l d h;obtain⟨i,j,rfl,rfl,m,q⟩:=h;obtain⟨t,rfl⟩:=l;obtain⟨t',rfl⟩:=d;show rule i j t t' s _ _ m ⟨.int (g i j),H,I.tok _,⟨_,rfl⟩,q⟩
theorem yu{f:aj->aj->gj aj}{g:Int->Int->Int}
  (rule:∀(i j:Int) (t u:f_) (s:ak) (Q:Q0c) (E:Q0c),Q (.int (g i j) s.toks) {s with toks:=s.toks+1}->av (aw X.Ω X.w) X.A (f (.int i t) (.int j u)) Q E s):
  iQ X f (HW λi j=>.int (g i j)):=by
 intro π s σ H x y v u Q I l d h;obtain⟨i,j,rfl,rfl,q⟩:=h;obtain⟨t,rfl⟩:=l;obtain⟨t',rfl⟩:=d;show rule i j t t' s _ _ ⟨.int (g i j),H,I.tok _,⟨_,rfl⟩,q⟩
theorem Q5{f:aj->aj->gj aj}{g:Int->Int->Bool}
  (rule:∀(i j:Int) (t u:f_) (s:ak) (Q:Q0c) (E:Q0c),Q (.bool (g i j)) s->av (aw X.Ω X.w) X.A (f (.int i t) (.int j u)) Q E s):
  iQ X f (HW λi j=>.bl (g i j)):=by
 intro π s σ H x y v u Q I l d h;obtain⟨i,j,rfl,rfl,q⟩:=h;obtain⟨t,rfl⟩:=l;obtain⟨t',rfl⟩:=d;show rule i j t t' s _ _ ⟨.bl (g i j),H,I,rfl,q⟩
def yt(i j:Int):Prop:=0<j/\j<1073741824
def yq(i j:Int):Prop:=0<=j/\j<=1000000/\i.natAbs<2^64
def Q6(i j:Int):Prop:=(-(2^64)<i/\i<2^64)\/(-(2^64)<j/\j<2^64)
def Q6.ok{i j:Int}(h:Q6 i j):r6 i j:=by
 rcases h with⟨d,h2⟩|⟨d,h2⟩
 .exact .of_left (Tc d h2)
 .exact .of_right (Tc d h2)
def XE:iQ X (binaryOp .Add) (HW λi j=>.int (i+j)):=yu λ_ _ _ _ _ _ _ q=>add_int q
def XG:iQ X (binaryOp .Sub) (HW λi j=>.int (i-j)):=yu λ_ _ _ _ _ _ _ q=>sub_int q
def Q7:iQ X (binaryOp .FloorDiv) (rI yt λi j=>.int (i/j)):=opI λi j _ _ _ _ _ d q=>by have h:(0:Int)<j:=d.1;have h2:j<1073741824:=d.2;show floordiv_int ∅ (by rw[Int.fdiv_eq_ediv_of_nonneg i ∅];show q) (.inl (Vz ∅))
def MG:iQ X (binaryOp .Mod) (rI (λ_ j=>0<j) λi j=>.int (i%j)):=opI λi j _ _ _ _ _ d q=>by have h:(0:Int)<j:=d;show mod_int' ∅ (by rw[Int.fmod_eq_emod_of_nonneg i ∅];show q)
def XH:iQ X (binaryOp .Pow) (rI yq λi j=>.int (i^j.toNat)):=opI λ_ _ _ _ _ _ _ d q=>pow_int_small d.1 d.2.1 d.2.2 q
theorem unI{f:aj->gj aj}{g:Int->Int}
  (rule:∀(i:Int) (t:f_) (s:ak) (Q:Q0c) (E:Q0c),Q (.int (g i) s.toks) {s with toks:=s.toks+1}->av (aw X.Ω X.w) X.A (f (.int i t)) Q E s):
  UnR X f (rU λi=>.int (g i)):=by
 intro π s σ H x v Q I d h;obtain⟨i,rfl,q⟩:=h;obtain⟨t,rfl⟩:=d;show rule i t s _ _ ⟨.int (g i),H,I.tok _,⟨_,rfl⟩,q⟩
def XI:UnR X (unaryOp .USub) (rU λi=>.int (-i)):=unI λ_ _ _ _ _ q=>neg_int q
end
noncomputable def XJ:V->V->Bool
 |.non,.non=>af | .non,.int _=>af | .int _,.non=>af | .non,.bl _=>af | .bl _,.non=>af | .non,.str _=>af | .str _,.non=>af
 |.int _,.int _=>af | .bl _,.bl _=>af | .str _,.str _=>af | .HN _,.HN _=>af
 |.int _,.str _=>af | .str _,.int _=>af | .bl _,.str _=>af | .str _,.bl _=>af
 |_,_=>ag
def xf:R2:=λx y H Q=>XJ x y=af/\Q (.bl (Zv (x=y))) H
def xb:R2:=λx y H Q=>XJ x y=af/\Q (.bl (!Zv (x=y))) H
def xQ:Zv (V.int i=V.int j)=(i == j):=by rw[wz];simp
def C4:Zv (V.bl i=V.bl j)=(i == j):=by rw[wz];simp
def xR:Zv (V.str i=V.str j)=(i == j):=by rw[wz];simp
def FT:Zv (V.HN i=V.HN j)=(i.toList == j.toList):=by rw[wz];cases i;cases j;simp
section
variable{a b c:au}{ta tb tc:TE}{ν:ba}
def bF(I:Φ X π σ H s)(q:Q (.bl k) H)(e:k=k'):EP X π σ Q (.bool k') s:=by subst e;show⟨.bl k,H,I,rfl,q⟩
theorem UZ:iQ X (compareOp .Eq) xf:=by
 intro π s σ H x y v u Q I m d h;obtain⟨l,q⟩:=h
 cases x with
 |non =>
  cases m
  cases y with
  |non=>cases d;show a0L (bF I q (by simp))
  |bl j=>cases d;show a0N (bF I q (by simp))
  |int j=>obtain⟨t',rfl⟩:=d;show a0M (bF I q (by simp))
  |str j=>obtain⟨t',rfl⟩:=d;show a0K (bF I q (by simp))
  |_=>show Zw (show ag=af from l) bg
 |bl i =>
  cases m
  cases y with
  |non=>cases d;show a0P (bF I q (by simp))
  |bl j=>cases d;show eq_bool (bF I q C4)
  |str j=>obtain⟨t',rfl⟩:=d;show a0X (bF I q (by simp))
  |_=>show Zw (show ag=af from l) bg
 |int i =>
  obtain⟨t,rfl⟩:=m
  cases y with
  |non=>cases d;show a0O (bF I q (by simp))
  |int j=>obtain⟨t',rfl⟩:=d;show eq_int (bF I q xQ)
  |str j=>obtain⟨t',rfl⟩:=d;show a0W (bF I q (by simp))
  |_=>show Zw (show ag=af from l) bg
 |str i =>
  obtain⟨t,rfl⟩:=m
  cases y with
  |non=>cases d;show a0J (bF I q (by simp))
  |bl j=>cases d;show a0V (bF I q (by simp))
  |int j=>obtain⟨t',rfl⟩:=d;show a0U (bF I q (by simp))
  |str j=>obtain⟨t',rfl⟩:=d;show eq_str (bF I q xR)
  |_=>show Zw (show ag=af from l) bg
 |HN i =>
  obtain⟨t,rfl⟩:=m
  cases y with
  |HN j=>obtain⟨t',rfl⟩:=d;show PySem.W.eq_bytes (bF I q FT)
  |_=>show Zw (show ag=af from l) bg
 |_=>cases y<;>show Zw (show ag=af from l) bg
theorem Qm:iQ X (compareOp .NotEq) xb:=by
 intro π s σ H x y v u Q I m d h;obtain⟨l,q⟩:=h
 cases x with
 |non =>
  cases m
  cases y with
  |non=>cases d;show a0E (bF I q (by simp))
  |bl j=>cases d;show a0G (bF I q (by simp))
  |int j=>obtain⟨t',rfl⟩:=d;show a0F (bF I q (by simp))
  |str j=>obtain⟨t',rfl⟩:=d;show a0D (bF I q (by simp))
  |_=>show Zw (show ag=af from l) bg
 |bl i =>
  cases m
  cases y with
  |non=>cases d;show a0I (bF I q (by simp))
  |bl j=>cases d;show ne_bool (bF I q (congrArg not C4))
  |str j=>obtain⟨t',rfl⟩:=d;show a0T (bF I q (by simp))
  |_=>show Zw (show ag=af from l) bg
 |int i =>
  obtain⟨t,rfl⟩:=m
  cases y with
  |non=>cases d;show a0H (bF I q (by simp))
  |int j=>obtain⟨t',rfl⟩:=d;show ne_int (bF I q (congrArg not xQ))
  |str j=>obtain⟨t',rfl⟩:=d;show a0S (bF I q (by simp))
  |_=>show Zw (show ag=af from l) bg
 |str i =>
  obtain⟨t,rfl⟩:=m
  cases y with
  |non=>cases d;show a0C (bF I q (by simp))
  |bl j=>cases d;show a0R (bF I q (by simp))
  |int j=>obtain⟨t',rfl⟩:=d;show a0Q (bF I q (by simp))
  |str j=>obtain⟨t',rfl⟩:=d;show ne_str (bF I q (congrArg not xR))
  |_=>show Zw (show ag=af from l) bg
 |HN i =>
  obtain⟨t,rfl⟩:=m
  cases y with
  |HN j=>obtain⟨t',rfl⟩:=d;show PySem.W.ne_bytes (bF I q (congrArg not FT))
  |_=>show Zw (show ag=af from l) bg
 |_=>cases y<;>show Zw (show ag=af from l) bg
def U0:iQ X (compareOp .Lt) (HW λi j=>.bl (Zv (i<j))):=Q5 λ_ _ _ _ _ _ _ q=>lt_int q
def Ql:iQ X (compareOp .LtE) (HW λi j=>.bl (Zv (i<=j))):=Q5 λ_ _ _ _ _ _ _ q=>le_int q
def Qk:iQ X (compareOp .Gt) (HW λi j=>.bl (Zv (j<i))):=Q5 λ_ _ _ _ _ _ _ q=>gt_int q
def U1:iQ X (compareOp .GtE) (HW λi j=>.bl (Zv (j<=i))):=Q5 λ_ _ _ _ _ _ _ q=>ge_int q
def HX:iQ X (compareOp .In) (λx y H Q=>∃i j,x=.str i/\y=.str j/\Q (.bl (!(fw j i 0 ⇑j 1).isEmpty)) H):=by intro π s σ H x y v u Q I l d h;obtain⟨i,j,rfl,rfl,q⟩:=h;obtain⟨t,rfl⟩:=l;obtain⟨t',rfl⟩:=d;show in_str (bF I q rfl)
def MH:iQ X (compareOp .Is) (λx y H Q=>y=.non/\Q (.bl (Zv (x=.non))) H):=by
 intro π s σ H x y v u Q I d j h;obtain⟨rfl,q⟩:=h;cases j;show is_none_gen (bF I q ?_);cases x<;>first
  | (cases d;rfl)
  | (obtain⟨t,rfl⟩:=d;rfl)
def iQ.or(h:iQ X f r)(h':iQ X f r'):iQ X f (λx y H Q=>r x y H Q\/r' x y H Q):=by
 intro π s σ H x y v u Q I j d q;rcases q with q|q
 .exact h π s σ H x y v u Q I j d q
 .exact h' π s σ H x y v u Q I j d q
def kG(b:au)(h:op≠.In<|>1)(h2:op≠.NotIn<|>1):behindInMarks op b=ag:=by
 have j:(op == CmpOp.In)=ag:=by cases op<;>first|rfl|show Zw rfl h
 have d:(op == CmpOp.NotIn)=ag:=by cases op<;>first|rfl|show Zw rfl h2
 cases b<;>simp[behindInMarks,j,d]
def Q8{op:CmpOp}{r:R2}(ho:iQ X (compareOp op) r)(o:PE X a ta)(n:PE X b tb)(m:behindInMarks op b=ag):PE X (.Compare a [op] [b] ν) (mj r ta tb):=by intro π s σ H Q I h;show wpAny_Compare1 (XD o n I h λv u d x y z p l j q=>ho π d σ z x y v u Q p l j q) m
def FU(t:TE):TT:=λσ H Q=>t σ H λx H'=>∃k,x=.bl k/\Q k H'
def Q9(ho:iQ X (compareOp op) r)(A:PE X a ta)(q:PE X b tb)(p:behindInMarks op b=ag):PT X (.Compare a [op] [b] ν) (FU (mj r ta tb)):=by
 intro π s σ H Q I h;show wpAny_isTrue_Compare1 (c6 (A π s σ H _ I h) λv j ⟨x,U,K,n,q1⟩=>c6 (q π j σ U _ K q1) λu d ⟨y,O,J,m,q2⟩ =>
  c6 (ho π d σ O x y v u _ J n m q2) λc s3 ⟨z,L,F,l,k,e,o⟩=>?_) p
 subst e;cases l;show kc ⟨L,F,o⟩
def MI(r j:R2)(ta tb tc:TE):TE:=λσ H Q=>ta σ H λx n=>tb σ n λy m=>r x y m λz d=>∃k,z=.bl k /\
 (if k=af then tc σ d λh l=>j y h l Q else Q (.bl ag) d)
theorem MJ(ho:iQ X (compareOp op) r)(j:iQ X (compareOp op') r')(ha:PE X a ta)(Z:PE X b tb)(Y:PE X c tc)
  (U:lastMarks [op,op'] [b,c]=ag<|>4):PE X (.Compare a [op,op'] [b,c] ν) (MI r r' ta tb tc):=by
 intro π s σ H Q I h;show Compare_chain (c6 (ha π s σ H _ I h) λv F ⟨x,H1,I1,L,q1⟩=>chain_link (c6 (Z π F σ H1 _ I1 q1) λu A ⟨y,H2,I2,l,q2⟩ =>
  c6 (ho π A σ H2 x y v u _ I2 L l q2) λd s3 ⟨z,o,n,K,k,e,m⟩=>?_)) U
 subst e;cases K;show kc ?_
 cases k with
 |false=>show ite_ff ⟨.bl ag,o,n,rfl,m⟩
 |true=>show ite_tt (chain_last (c6 (Y π s3 σ o _ n m) λq s4 ⟨p,H4,I4,J,O⟩=>j π s4 σ H4 y p u q Q I4 l J O))
noncomputable def yp(K:aq)(x:V)(H:Hp)(k:Bool):Prop :=
 match x with
 |.non=>k=ag
 |.bl b=>k=b
 |.int i=>k=(i !=0)
 |.str y=>⇑y<=bc/\k=((⇑y:Int) !=0)
 |.HN y=>y.size<=bc/\k=((y.size:Int) !=0)
 |.ref p=>(∃xs,eJ K H p xs/\k=!xs.isEmpty)\/(∃xs,eR K H p xs/\k=!xs.isEmpty) \/∃d,H p=aa (.dK d)/\k=!d.isEmpty
 |_=>False
def C5{h:Type}{d:List (h×V)}{vs:List (h×aj)}(r:KV d vs):(!vs.isEmpty)=!d.isEmpty:=by cases r<;>rfl
def kH{xs:List V}{d:Q0f}(r:θ xs d):(!d.toArray.isEmpty)=!xs.isEmpty:=by cases r<;>simp
def pR:(bc:Nat)<2^63:=by rw[df];decide
theorem XM:Km X (λx H Q=>∃k,yp X.K x H k/\Q k H):=by
 intro π s σ H x v Q I l h;obtain⟨k,e,q⟩:=h;have O:=pR;have L:bc=16777216:=df
 cases x with
 |non =>
  cases l;have d:k=ag:=e;subst d;show truthy_none ⟨H,I,q⟩
 |bl b =>
  cases l;have d:k=b:=e;subst d;show kc ⟨H,I,q⟩
 |int i =>
  obtain⟨t,rfl⟩:=l;have d:k=(i !=0):=e;subst d;show PySem.P.truthy_int ⟨H,I,q⟩
 |str y =>
  obtain⟨t,rfl⟩:=l;obtain⟨F,d⟩:⇑y<=bc/\k=((⇑y:Int) !=0):=e;subst d;show PySem.P.truthy_str ∅ ⟨H,I.tok _,q⟩
 |HN y =>
  obtain⟨t,rfl⟩:=l;obtain⟨F,d⟩:y.size<=bc/\k=((y.size:Int) !=0):=e;subst d;show PySem.W.truthy_bytes ∅ ⟨H,I.tok _,q⟩
 |ref p =>
  cases l;have d:(∃xs,eJ X.K H p xs/\k=!xs.isEmpty)\/(∃xs,eR X.K H p xs/\k=!xs.isEmpty) \/∃j,H p=aa (.dK j)/\k=!j.isEmpty:=e;rcases d with⟨xs,n,d⟩|⟨xs,n,d⟩|⟨j,n,d⟩
  .subst d;obtain⟨A,r,o,z⟩:=I.list n;have hlen:=⇑r;show Rm o.isList (by erw[cf];lia) ⟨H,I.tok _,by rw[kH r];show q⟩
  .subst d;obtain⟨A,r,o,z⟩:=I.tuple n;have hlen:=⇑r;show Wa o (by erw[cf];lia) ⟨H,I.tok _,by rw[kH r];show q⟩
  .subst d;obtain⟨z,J,vs,r,m⟩:⇑j<=bc/\(p == sysModules)=ag /\∃vs,KV j vs/\s.heap.DictOf (aT X.Ω X.w) p vs:=I.hok p _ n;have hlen:⇑j=⇑vs:=vj r;show wpAny_truthy_dict J m ∅ ⟨H,I.tok _,by rw[C5 r];show q⟩
 |_=>show(show False from e).elim
theorem MK(m:PE X a ta)(l:∀whole,isTrue a X.env whole=(do let v <- whole;standAt a.pos;holding [v] (truthy v))):
  PT X a (λσ H Q=>ta σ H λx H'=>∃k,yp X.K x H' k/\Q k H'):=by
 intro π s σ H Q I h;show isTrue_plain (c6 (m π s σ H _ I h) λv d ⟨x,o,n,j,q1⟩=>XM π d σ o x v Q n j q1) (l _)
def sV:iQ X (binaryOp .Add) (λx y H Q=>∃i j,x=.str i/\y=.str j/\⇑i+⇑j<=bc/\Q (.str (i++j)) H):=by intro π s σ H x y v u Q I l d h;obtain⟨i,j,rfl,rfl,m,q⟩:=h;obtain⟨t,rfl⟩:=l;obtain⟨t',rfl⟩:=d;show add_str (λt' n=>⟨.str (i++j),H,I.tok _,⟨_,rfl⟩,q⟩) m
theorem vals1(r:θ [x] us):∃u,us=[u]/\Ψ x u:=by
 cases r with
 |cons r1 r2=>cases r2;show⟨_,rfl,r1⟩
theorem vals2(r:θ [x,y] us):∃u d,us=[u,d]/\Ψ x u/\Ψ y d:=by
 cases r with
 |cons r1 r2 =>
  cases r2 with
  |cons r3 r4=>cases r4;show⟨_,_,rfl,r1,r3⟩
def xS:eB X (.type "str") (λxs H Q=>∃i,xs=[.int i]/\i.natAbs.log2<1920/\Q (.str (toString i)) H):=by intro π s σ H xs j Q I r h;obtain⟨i,rfl,d,q⟩:=h;obtain⟨u,rfl,t,rfl⟩:=vals1 r;show PySem.P.str_of_int d ⟨.str _,H,I.tok _,⟨_,rfl⟩,q⟩
end
structure XN (h:a_) (x dx C:ah) (mA:Q0d):Prop where
 obj:h.get? x=aa (instObj C dx)
 ns:h.Ns1 dx mA
 ne:dx≠x
def HY{h:a_}{p:ah}{l:Q0d}(n:h.Ns1 p l):∃j,h.get? p=aa j /\∀name,lookIn name j=aa (l name):=by
 obtain⟨o,m,J,ho,F,A,_,x⟩:=n;show⟨o,ho,λname=>?_⟩;have e:=x name;unfold nsFind findBy at e;rw[<- Array.find?_toList] at e;unfold lookIn;rw[F];dsimp only;split
 .rename_i y q;rw[q] at e;show congrArg aa e
 .rename_i q;rw[q] at e;have a:m.toList.any (·.refKey)=ag:=by rw[List.any_eq_false];intro y v;obtain⟨z,t,d⟩:=A y (Array.mem_toList_iff.mp v);simp[a0Y,d]
  have I:¬ m.toList.any (·.refKey)=af:=by rw[a];show bg
  rw[Zz I];show congrArg aa e
def XN.look(I:XN h x dx C mA):∃a,PySem.W.InstAt h x (instObj C dx) C (aa a) /\∀name,lookIn name a=aa (mA name) :=
 let ⟨a,ho,hl⟩:=HY I.ns
 ⟨a,⟨I.obj,rfl,rfl,ho⟩,hl⟩
theorem pO.some_of(r:pO (aa v) o):∃u,o=aa u/\Ψ v u:=by
 cases o with
 |none=>show(show False from r).elim
 |some u=>show⟨u,rfl,r⟩
section
variable{P:bb}{w:az}{H H':Hp}{h h':a_}{a C dx:ah}{fs fs':List (ai×V)}
def RA(l:nA P w H h)(e:H a=aa (.ins C dx fs)):∃j,XN h a dx C j/\(∀f,pO (fs.lookup f) (j f))/\To j (fs.map (·.1))/\⇑fs<=1000/\H dx=aa (.own a):=by obtain⟨d,z,ne,m,j,n,r,q⟩:=(show bZ P w H h a (.ins C dx fs) from l a _ e);show⟨j,⟨m,n,ne⟩,r,q,z,d⟩
end
structure Cls (K:aq) (C:ah):Prop where
 pg:Ts K C Str.empty=af
 hd:PySem.W.hasDictIn K C=af
 po:PySem.W.plainOver K C=af
 sa:Tw K (.ref C) "__setattr__"=aa (aa (.builtin "object.__setattr__"))
def Cls.get{K:aq}{C:ah}(c:Cls K C)(f:ai):Ts K C f=af:=c.pg
section
variable{π:Q0b}{σ:St}{H:Hp}{s:ak}{A:bo}{E:Q0c}{Q:Q0c}{c:aj}{b:Bool}
inductive oJ (K:aq) (H:Hp):V->aj->Prop where
 |non:oJ K H .non (.type "NoneType")
 |bl (x:Bool):oJ K H (.bl x) (.type "bool")
 |int (i:Int):oJ K H (.int i) (.type "int")
 |str (x:ai):oJ K H (.str x) (.type "str")
 |flt (x:UInt64):oJ K H (.flt x) (.type "float")
 |lst {a:ah} {xs:List V} (e:H a=aa (.lst xs)):oJ K H (.ref a) (.type "list")
 |sR {a:ah} {o:ay} {xs:List V} (e:H a=aa (.sR o (.lst xs))):oJ K H (.ref a) (.type "list")
 |tup {a:ah} {xs:List V} (e:H a=aa (.tup xs)):oJ K H (.ref a) (.type "tuple")
 |dK {a:ah} {χ:List (Key×V)} (e:H a=aa (.dK χ)):oJ K H (.ref a) (.type "dict")
 |dT {a:ah} {χ:List (List Key×V)} (e:H a=aa (.dT χ)):oJ K H (.ref a) (.type "dict")
 |ins {a C dx:ah} {fs:List (ai×V)} (e:H a=aa (.ins C dx fs)) (cl:Cls K C) (ha:Tw K (.ref C) "__class__"=aa (aa (.builtin "object.__class__")))
   (hn:PySem.W.specialIn K (.builtin "object.__class__") "__get__"=aa (aa (.builtin "getset_descriptor.__get__"))) (htk:PySem.W.takesIn K (.builtin "object.__class__")=aa af)
   (hm:PySem.W.mroIn K C (.type "object")=aa af):oJ K H (.ref a) (.ref C)
theorem HZ(I:Φ X π σ H s)(d:Ψ x u)(ty:oJ X.K H x t)(e:ox X.K t c=aa b)(h:∀l,Q (.bool b) {s with toks:=l}):
  av (aw X.Ω X.w) A (call (.builtin "isinstance") [u,c]) Q E s:=by
 cases ty with
 |non=>cases (show u=rj from d);show gx PySem.W.kitx_none I.rF kb e (λz=>nomatch z) h
 |bl y=>cases (show u=vd y from d);show gx PySem.W.kitx_bool I.rF kb e (λz=>nomatch z) h
 |int i=>obtain⟨t,q⟩:=(show ∃t,u=ie i t from d);cases q;show gx PySem.W.kitx_int I.rF kb e (λz=>nomatch z) h
 |str y=>obtain⟨t,q⟩:=(show ∃t,u=vc y t from d);cases q;show gx PySem.W.kitx_str I.rF kb e (λz=>nomatch z) h
 |flt y=>obtain⟨t,q⟩:=(show ∃t,u=Uc y t from d);cases q;show gx PySem.W.kitx_float I.rF kb e (λz=>nomatch z) h
 | @lst a xs ea =>
  cases (show u=dg a from d);obtain⟨_,_,n,_,j⟩:=(show bZ X.Ω X.w H s.heap a (.lst xs) from I.hok a _ ea);show gx Ac I.rF ⟨_,j,rfl⟩ e (λz=>nomatch z) h
 | @sR a ob xs ea =>
  cases (show u=dg a from d);obtain⟨_,_,_,n,_,j⟩:=(show bZ X.Ω X.w H s.heap a (.sR ob (.lst xs)) from I.hok a _ ea);show gx Ac I.rF ⟨_,j,rfl⟩ e (λz=>nomatch z) h
 | @tup a xs ea =>
  cases (show u=dg a from d);obtain⟨_,_,_,p,_⟩:=(show bZ X.Ω X.w H s.heap a (.tup xs) from I.hok a _ ea);obtain⟨o,j,h2,_⟩:=p;show gx Tt I.rF ⟨o,j,h2⟩ e (λz=>nomatch z) h
 | @dK a χ ea =>
  cases (show u=dg a from d);obtain⟨_,_,vs,_,p⟩:=(show bZ X.Ω X.w H s.heap a (.dK χ) from I.hok a _ ea);obtain⟨o,m,v,j,h2,_⟩:=p;show gx Tu I.rF ⟨o,j,h2.1⟩ e (λz=>nomatch z) h
 | @dT a χ ea =>
  cases (show u=dg a from d);obtain⟨_,_,xs,_,o,m,v,j,h2,_⟩:=(show bZ X.Ω X.w H s.heap a (.dT χ) from I.hok a _ ea);show gx Tu I.rF ⟨o,j,h2.1⟩ e (λz=>nomatch z) h
 | @ins a C dx fs ea cl ha hn htk hm =>
  cases (show u=dg a from d);obtain⟨L,O,_⟩:=RA I.hok ea;obtain⟨F,J,_⟩:=O.look;show gx (PySem.W.kitx_own (cl.get _) cl.hd ha hn htk hm) I.rF J e (λz=>nomatch z) h
end
structure eQ (k:Nat) (A:bo):Prop where
 hd:A.handled=ae
 dp:A.depth+3*k+5<recursionLimit
 un:A.units+16*k+200<fv
def eQ.mono(r:eQ k A)(h:j<=k):eQ j A:=⟨r.hd,by have:=r.dp;lia,by have:=r.un;lia⟩
def eQ.deeper(r:eQ (k+1) A)(env:cx):eQ k (A.deeper env) :=
 ⟨r.hd,by have:=r.dp;show A.depth+1+3*k+5<_;lia,by have:=r.un;show A.units+3+16*k+200<_;lia⟩
def eQ.depth(r:eQ k A):A.depth<recursionLimit:=by have:=r.dp;lia
def eQ.units(r:eQ k A):A.units+64<fv:=by have:=r.un;lia
def RB:TA:=λ_ H Q=>Q [] H
def AA(a:TE)(tr:TA):TA:=λσ H Q=>a σ H λx h=>tr σ h λxs d=>Q (x::xs) d
section
variable{e:au}{es:List au}{te:TE}{t:TA}{ν:ba}
def iF:PA X [] RB:=λ_ _ _ _ H Q I h=>Aq ⟨[],H,I,.nil,h⟩
def cJ(o:PE X e te)(n:PA X es t)(m:Zr X e es<|>0):PA X (e::es) (AA te t):=by intro ν π s σ H Q I h;rw[m];show av _ _ (spliced ((ag,eval e X.env)::bz ν (ar es X.env))) _ _ s;show vw (c6 (o π s σ H _ I h) λu d ⟨x,y,q,l,q1⟩=>?_);show c6 (n ν π d σ y _ q q1) λz A a=>by obtain⟨xs,v,p,j,q2⟩:=a;show⟨x::xs,v,p,.cons l j,q2⟩
def Kl(t:TA):TE:=λσ H Q=>t σ H λxs a=>⇑xs<=bc /\∀p,a p=ae->Q (.ref p) (upd a p (.tup xs))
def yo(t:TA):TE:=λσ H Q=>t σ H λxs a=>⇑xs<=bc /\∀p,a p=ae->Q (.ref p) (upd a p (.lst xs))
def ML{x1}(h:PA X es t):PE X (.Tuple es x1 ν) (Kl t):=by intro π s σ H Q I m;show wpAny_Tuple_spliced (c6 (h ν π s σ H _ I m) λl a ⟨xs,j,d,r,z,q⟩=>⟨by rw[<- ⇑r];show z,?_⟩);have n:j ↥a=ae:=d.hok.fresh (bf _);show⟨.ref ↥a,upd j ↥a (.tup xs),d.laid (t':=a.toks) (λb u e=>bu _ e) (bf _) ?_,rfl,q _ n⟩;show⟨z,l,r,⟨_,cz _ rfl,rfl,_,rfl⟩,z7.new _ _⟩
def XQ(h:PA X es t):PE X (.List es ν) (yo t):=by intro π s σ H Q I m;show Sg (c6 (h ν π s σ H _ I m) λl a ⟨xs,j,d,r,z,q⟩=>⟨by rw[<- ⇑r];show z,?_⟩);have n:j ↥a=ae:=d.hok.fresh (bf _);show⟨.ref ↥a,upd j ↥a (.lst xs),d.laid (t':=a.toks) (λb u e=>bu _ e) (bf _) ?_,rfl,q _ n⟩;show⟨z,l,0,r,cz _ rfl⟩
end
abbrev Sp:=List V->Hp->VK->XK->Prop
abbrev C6:=List cx->Hp->ak->XK->aj->ak->Prop
structure RC (P:bb) (w:az) (K:aq) (mg:Q0d) (ω:a_) (A:bo) (outer:List cx) (s:ak) (H:Hp):Prop where
 frames:A.frames=aa outer
 mod:Mod K mg ω
 bs:∀b o,ω.get? b=aa o->s.heap.get? b=aa o/\H b=ae
 PN:ω.objs.size<=↥s
 nB:s.heap.FunFrames ω outer
 UX:∀b∈frs outer,H b=ae
 hok:nA P w H s.heap
 bare:jw s.gens
 tab:QZ K ω H
def CE(outer:List cx)(P:bb)(w:az)(H:Hp)(s:ak)(Q:VK)(u:aj)(s':ak):Prop :=
 ∃v H',s'.os=s.os/\jw s'.gens/\Un (frs outer) [] H H' s.heap s'.heap/\nA P w H' s'.heap/\Ψ v u/\Q v H'
def CR(CX:C6)(outer:List cx)(P:bb)(w:az)(H:Hp)(s:ak)(Q:VK)(E:XK)(r:vi)(s':ak):Prop :=
 match r with
 |.ok (.ret u)=>CE outer P w H s Q u s'
 |.ok _=>False
 |.error e=>CX outer H s E e s'
structure kN (P:bb) (w:az) (K:aq) (mg:Q0d) (ω:a_) (CX:C6) (k:Nat) (f:ah) (fd:ft) (ps:Q0g) (sp:Sp):Prop where
 len:∀vs H Q E,sp vs H Q E->⇑vs=⇑ps
 run:∀(A:bo) (outer:List cx) (s:ak) (H:Hp) (args:Args) (us:Q0f) (vs:List V) (Q:VK) (E:XK),eQ k A->RC P w K mg ω A outer s H->pk s fd args (ps.zip us)->θ vs us->sp vs H Q E ->
  ia (aw P w) A (.call (.ref f) args) (CR CX outer P w H s Q E) s
theorem kN.mono{P:bb}{w:az}{K:aq}{mg:Q0d}{ω:a_}{CX:C6}{j k:Nat}{f:ah}{fd:ft}{ps:Q0g}{sp:Sp}(F:kN P w K mg ω CX j f fd ps sp)(h:j<=k):
  kN P w K mg ω CX k f fd ps sp:=⟨F.len,λA outer s H args a vs Q E d=>F.run A outer s H args a vs Q E (d.mono h)⟩
section
variable{π:Q0b}{σ:St}{H:Hp}{s s':ak}
def Φ.env0(I:Φ X π σ H s):RC X.Ω X.w X.K X.mg X.ω X.A X.stack s H :=
 ⟨I.ok.frames,I.ok.mod,I.bs,cy I.ok.PN I.sz,I.stack,I.xP,I.hok,I.bare,I.tab⟩
def Φ.after(I:Φ X π σ H s)(h:CE X.stack X.Ω X.w H s Q u s'):EP X π σ Q u s':=by obtain⟨v,H',l,bare,un,j,r,q⟩:=h;obtain⟨m,g,d,t,a⟩:=s';obtain rfl:a=s.os:=l;show⟨v,H',I.call (h':=m) (g':=g) (d':=d) (t':=t) (ch:=[]) un j bare (λb z=>Zw z (by simp)),r,q⟩
end
def Qj(sp:Sp)(a:List V)(E:XK)(t:TA):TE:=λσ H Q=>t σ H λvs d=>sp (vs++a) d Q E
def Binds(K:aq)(fd:ft)(ps:Q0g)(ds:Q0f):Prop :=
 ∀(s:ak) (a:Q0f),K.In s.heap->⇑(a++ds)=⇑ps->pk s fd ⟨a,[]⟩ (ps.zip (a++ds))
def Binds.all{K:aq}{fd:ft}{ps:Q0g}(h:∀a:Q0f,⇑a=⇑ps->bindArgs fd ⟨a,[]⟩=pure (ps.zip a)):Binds K fd ps []:=λs a _ d=>by rw[il] at d ⊢;show .of_eq (h a d)
def Passes(CX:C6)(X:Cx)(E:XK):Prop:=∀(π:Q0b) (σ:St) (H:Hp) (s:ak) (e:aj) (s':ak),Φ X π σ H s->CX X.stack H s E e s'->X.xe e s'
section
variable{CX:C6}{k:Nat}{f C:ah}{fd:ft}{ps:Q0g}{sp:Sp}{U2:List V}{ds:Q0f}{E:XK}{x m:ai}{p ν apos:ba}{e o:au}{es:List au}{ta:TE}{t:TA}
theorem XR(F:kN X.Ω X.w X.K X.mg X.ω CX k f fd ps sp)(l:eQ k X.A)(v:Binds X.K fd ps ds)(q:θ U2 ds)(j:Passes CX X E)
  (I:Φ X π σ H s) (r:θ vs us) (h:sp (vs++U2) H Q E):av (aw X.Ω X.w) X.A (call (.ref f) us) (EP X π σ Q) X.xe s:=by
 have d:θ (vs++U2) (us++ds):=r.append q;have n:⇑(us++ds)=⇑ps:=by rw[<- ⇑d];show F.len _ _ _ _ h
 show uu (qz (F.run X.A X.stack s H ⟨us,[]⟩ (us++ds) (vs++U2) Q E l I.env0 (v s us I.rF n) d h) λr s' a=>?_)
 cases r with
 |error e=>show j π σ H s e s' I a
 |ok fl =>
  cases fl with
  |ret u=>show I.after a
  |next=>show ip a
  |brk=>show ip a
  |cont=>show ip a
theorem xT(F:kN X.Ω X.w X.K X.mg X.ω CX k f fd ps sp)(n:eQ k X.A)(z:Gl X x)(v:X.mg x=aa (.ref f))(y:keepIn X.K (.ref f)=af)(O:Binds X.K fd ps ds)(L:θ U2 ds)(l:Passes CX X E)
  (U:PA X (e::es) t) (d:Zu x<|>1) (J:Zr X e es<|>0) (a:Q0l X ν es<|>0):
  PE X (.Call (.Name x p) (e::es) [] ν) (Qj sp U2 E t):=by
 intro π s σ H Q I h;show zm (rG I z v ?_ d);show PySem.W.callWith_K (h₀:=X.ω) I.ok.mod.kin y (c6 (U ν π s σ H _ I h) λY Z ⟨vs,H1,j,r,q⟩=>⟨j.rF,?_⟩) J a;show XR F n O L l j r q
end
structure eD (N P:Q0g) (sc:fq):Prop where
 kind:sc.kind=.function
 co:sc.isCoroutine=ag
 gen:sc.isGenerator=ag
 nd:N.Nodup
 pre:N.take ⇑P=P
 par:∀x∈P,sc.names.lookup x=aa .local\/sc.names.lookup x=aa .cell
 XS:∀y∈sc.names,y.2≠.free
theorem vI{kindOf:ai->Option gz}{x:ai}:∀{binds:List (ai×aj)} {m:Q0d},(∀v,(x,v)∉binds)->bindL kindOf binds m x=m x
 |[],_,_=>rfl
 | (n,v)::r,m,h=>by
  unfold bindL;rw[vI λw hw=>h w (cq _ hw)];split
  .have:x≠n:=by rintro rfl;show h v b_
   simp[this]
  .rfl
theorem vJ{kindOf:ai->Option gz}{x:ai}:∀{binds:List (ai×aj)} {m:Q0d},(∀v,(x,v)∉binds)->bindC kindOf binds m x=m x
 |[],_,_=>rfl
 | (n,v)::r,m,h=>by
  unfold bindC;rw[vJ λw hw=>h w (cq _ hw)];split
  .rfl
  .have:x≠n:=by rintro rfl;show h v b_
   simp[this]
theorem vK{kindOf:ai->Option gz}{x:ai}{v:aj}:∀{P:Q0g} {vs:Q0f} {i:Nat} {m:Q0d},P.Nodup->P[i]?=aa x->vs[i]?=aa v->kindOf x=aa .local ->
  bindL kindOf (P.zip vs) m x=aa v
 |[],_,_,_,_,h,_,_=>by simp at h
 |_::_,[],_,_,_,_,h,_=>by simp at h
 |p::P,w::vs,0,m,nd,h1,h2,hk=>by simp at h1 h2;subst h1;subst h2;show bindL kindOf ((p,w)::P.zip vs) m p=_;unfold bindL;rw[vI λv a=>(md.mp nd).1 (Br a).1,Z_ hk];simp
 |p::P,w::vs,i+1,m,nd,h1,h2,hk=>by show bindL kindOf ((p,w)::P.zip vs) m x=_;unfold bindL;show vK (i:=i) (md.mp nd).2 ↑h1 ↑h2 hk
theorem vL{kindOf:ai->Option gz}{x:ai}{v:aj}:∀{P:Q0g} {vs:Q0f} {i:Nat} {m:Q0d},P.Nodup->P[i]?=aa x->vs[i]?=aa v->kindOf x≠aa .local ->
  bindC kindOf (P.zip vs) m x=aa v
 |[],_,_,_,_,h,_,_=>by simp at h
 |_::_,[],_,_,_,_,h,_=>by simp at h
 |p::P,w::vs,0,m,nd,h1,h2,hk=>by simp at h1 h2;subst h1;subst h2;show bindC kindOf ((p,w)::P.zip vs) m p=_;unfold bindC;rw[vJ λv a=>(md.mp nd).1 (Br a).1,Zz hk];simp
 |p::P,w::vs,i+1,m,nd,h1,h2,hk=>by show bindC kindOf ((p,w)::P.zip vs) m x=_;unfold bindC;show vL (i:=i) (md.mp nd).2 ↑h1 ↑h2 hk
def start(N:Q0g)(vs:List V):St:=vs.map aa++bw (⇑N-⇑vs) ae
def kO(CX:C6)(P:bb)(w:az)(K:aq)(mg:Q0d)(ω:a_)(N:Q0g)(qual:ai)(scope:fq)(f:ah)(d:aj)(A:bo)(outer:List cx)(s:ak)(H:Hp)(E:XK):Cx where
 Ω:=P
 w:=w
 K:=K
 mg:=mg
 ω:=ω
 A:=A.deeper (envOfC qual scope ↥s f d)
 N:=N
 s₀:=s
 H₀:=H
 env:=envOfC qual scope ↥s f d
 outer:=outer
 stack:=envOfC qual scope ↥s f d::outer
 ex:=[]
 calm:=af
 fn:=λ_=>af
 pn:=[]
 xe:=λe s'=>av (aw P w) (A.deeper (envOfC qual scope ↥s f d)) (leaving (envOfC qual scope ↥s f d) e) (λ_ a=>CX outer H s E e a) (λh a=>CX outer H s E h a) s'
def AB{sc:fq}{n:Nat}{x:ai}(h:sc.names.lookup x=aa .cell):∃c,(cellsFrom n sc.names []).lookup x=aa c:=by have q:=Tx sc.names n [] (.inl h);show Option.isSome_iff_exists.mp q
theorem IA{CX:C6}{P:bb}{w:az}{K:aq}{mg:Q0d}{ω:a_}{N ps:Q0g}{qual:ai}{scope:fq}{f:ah}{J:aj}{A:bo}{outer:List cx}{s O:ak}{H:Hp}{E:XK}{L:Q0f}{vs:List V}
  (S:eD N ps scope) (hd:A.handled=ae) (d:RC P w K mg ω A outer s H) (hl:⇑vs=⇑ps) (r:θ vs L)
  (x:InCallC s ↥s (bindL (envOfC qual scope ↥s f J).kindOf (ps.zip L) λ_=>ae) (cellsFrom (↥s+1) scope.names []) (bindC (envOfC qual scope ↥s f J).kindOf (ps.zip L) λ_=>ae) O):
  Φ (kO CX P w K mg ω N qual scope f J A outer s H E) [] (start N vs) H O:=by
 have Z:⇑ps<=⇑N:=by have:=congrArg qg S.pre;rw[kh] at this;lia
 obtain⟨I,tk,rfl,X⟩:=x.done;have j:∀b:ah,b∉(kO CX P w K mg ω N qual scope f J A outer s H E).ex:=λb z=>Zw (show b∈([]:List ah) from z) (by simp);show⟨⟨d.mod,S.kind,rfl,rfl,bf _,λy z c I h2=>?_,λy l=>?_,λy c _ h=>?_,λ_=>hd,Around.frames_deeper d.frames,.inr ⟨rfl,rfl⟩,λb z=>Zw z (j b),d.bs,d.PN,λb _ _=>j b,λb z=>Zw z (j b),d.nB,d.UX,d.tab⟩,
  rfl,d.bare,Un.kept X,⟨_,x.toInCall.ns,λi y v I h2 h3=>?_⟩,λy c h=>⟨_,x.cell y c h⟩,d.hok.fresh (bf _),λy c h=>?_,λp o=>Zw (show p∈([]:Q0b) from o) (by simp),d.hok.kept X,?_⟩
 .exact S0 x.apart (ju I) (ju h2)
 .have l:scope.names.lookup y=aa .cell\/scope.names.lookup y=aa .free:=l;rcases l with l|l
  .exact AB l
  .exact Zw rfl (S.XS _ (ju l))
 .exact jy (x.above y c (ju h))
 .have F:i<⇑vs:=by
   unfold start at h2;by_cases F:i<⇑vs
   .exact F
   .rw [jo ↑F] at h2;rw[jc] at h2;split at h2<;>cases h2
  have ha:vs[i]?=aa v:=by
   unfold start at h2;rw[jq ↑F,d_] at h2
   cases e:vs[i]? with
   |none=>rw[e] at h2;cases h2
   |some a=>rw[e] at h2;cases h2;rfl
  obtain⟨u,U,Y⟩:=r.get ha;have o:ps[i]?=aa y:=by rw[<- S.pre,Bv ∅];show I
  have m:ps.Nodup:=by rw[<- S.pre];show S.nd.sublist (Bm _ _)
  show⟨u,Y,?_⟩;rcases S.par y (jz o) with k|k
  .exact .inl ⟨k,vK m o U k⟩
  .obtain ⟨c,e⟩:=AB (n:=↥s+1) k;show .inr ⟨.inl k,c,e,?_⟩;have q:=x.cell y c e;rw[vL m o U (by show scope.names.lookup y≠_;rw[k];decide)] at q;show q
 .exact d.hok.fresh (jy (x.above y c (ju h)))
 .unfold start;show _=⇑N;rw[cu,bp,jb];lia
theorem U3{CX:C6}{P:bb}{w:az}{K:aq}{mg:Q0d}{ω:a_}{k:Nat}{f:ah}{name qual:ai}{params:Arguments}{body:List bq}{scope:fq}{Y kV doc X a ct oc:aj}{Z od:Option ah}
  {F:Array (Option aj)} {N ps:Q0g} {sp:Sp} (lk:K.lookup f=aa ⟨oc,od,.func (fnOf name qual params body scope Y kV doc X Z a ct),F⟩) (O:codeIn K a qual=af) (S:eD N ps scope)
  (len:∀vs H Q E,sp vs H Q E->⇑vs=⇑ps)
  (j:∀(A:bo) (outer:List cx) (s:ak) (H:Hp) (vs:List V) (Q:VK) (E:XK),eQ k (A.deeper (envOfC qual scope ↥s f a))->sp vs H Q E ->
   ∃t,y9 (kO CX P w K mg ω N qual scope f a A outer s H E) body t/\t {nx:=λ_ H'=>Q .non H',rt:=Q} (start N vs) H):
  kN P w K mg ω CX (k+1) f (fnOf name qual params body scope Y kV doc X Z a ct) ps sp:=by
 show⟨len,λA outer s H args us vs Q E L p hb r m=>?_⟩;have hl:=len _ _ _ _ m;have KX:K.In s.heap:=p.mod.kin.keeps λb o e=>(p.bs b o e).1;have lim:s.heap.NoLimit:=p.mod.nolimit.keeps λb o e=>(p.bs b o e).1;have h:∀y∈ps.zip us,scope.names.lookup y.1=aa .local\/(scope.names.lookup y.1=aa .cell/\((cellsFrom (↥s+1) scope.names []).lookup y.1).isSome=af):=λ⟨n,v⟩ hy=>by
  rcases S.par n (Br hy).1 with q|q
  .exact .inl q
  .exact .inr ⟨q,Tx _ _ _ (.inl q)⟩
 show codeAny_call_function L.depth (KX _ _ lk) rfl S.co S.gen rfl (PySem.W.codeRec_of KX O) (hb _ _ _ _ ?_);show wpAny_newFunctionEnv_cells S.kind h λenv he U x=>?_;subst he;show⟨lim.keeps x.toInCall.keep,codeAny_func ?_⟩;obtain⟨t,ht,hq⟩:=j A outer s H vs Q E (L.deeper _) m;have I:Φ (kO CX P w K mg ω N qual scope f a A outer s H E) [] (start N vs) H U:=IA S L.hd p hl r x;show ir (ht [] U (start N vs) H _ I hq) (λfl s' l=>?_) λe s' l=>l;have fin:∀{d:St} {H':Hp} {v:V} {u:aj},Φ (kO CX P w K mg ω N qual scope f a A outer s H E) [] d H' s'->Ψ v u->Q v H'->CE outer P w H s Q u s' :=
  λ{d H' v u} J z q=>⟨v,H',J.os,J.bare,J.ω,J.hok,z,q⟩
 cases fl with
 |ret u =>
  obtain⟨v,d,H',J,z,q⟩:=l;show fin J z q
 |next =>
  obtain⟨d,H',J,q⟩:=l;show fin (v:=V.non) (u:=rj) J rfl q
 |brk =>
  obtain⟨_,_,_,q⟩:=l;show ip q
 |cont =>
  obtain⟨_,_,_,q⟩:=l;show ip q
section
variable{x:ai}{p ν:ba}{e:au}{es:List au}{t:TA}{id T:String}{r:List V->Hp->VK->Prop}
def qq(r:List V->Hp->VK->Prop)(t:TA):TE:=λσ H Q=>t σ H λvs a=>r vs a Q
def jP(z:eB X (.builtin id) r)(v:Gl X x)(q:X.mg x=ae)(n:bootBuiltins x=aa (.builtin id))(A:PA X (e::es) t)(o:x ≠ "__name__"<|>1)(d:Zu x<|>1)
  (y:Zr X e es<|>0) (a:Q0l X ν es<|>0):PE X (.Call (.Name x p) (e::es) [] ν) (qq r t):=by
 intro π s σ H Q I h;show zm (nE I v q n ?_ o d);show a1e (c6 (A ν π s σ H _ I h) λj l ⟨vs,J,F,m,q1⟩=>z π l σ J vs j Q F m q1) y a
def pS(z:eB X (.type T) r)(v:Gl X x)(q:X.mg x=ae)(n:bootBuiltins x=aa (.type T))(A:PA X (e::es) t)(o:x ≠ "__name__"<|>1)(d:Zu x<|>1)
  (y:Zr X e es<|>0) (a:Q0l X ν es<|>0):PE X (.Call (.Name x p) (e::es) [] ν) (qq r t):=by
 intro π s σ H Q I h;show zm (nE I v q n ?_ o d);show se (c6 (A ν π s σ H _ I h) λj l ⟨vs,J,F,m,q1⟩=>z π l σ J vs j Q F m q1) y a
end
end L2
namespace HT
open PyProof.Rows
section
open PySem.SeqAt

open PySem.MeetsSeq PySem.MeetsSeq2 PySem.MeetsSeq3
end
section
variable{Ω:bb}{w:az}{A:bo}{E:Q0c}{s:ak}
theorem RD(x:gc s.heap t vs.toArray)(y:gc s.heap b ws.toArray)(o:vs≠[])
  (z:ws=[]->Q (.ref t) s) (h2:ws≠[]->Q (.ref ↥s) {s with heap:=s.heap.push {cls:=.type "tuple",data:=.seq (vs++ws).toArray} })
  (hsz:⇑vs+⇑ws<=bc):av (aw Ω w) A (binaryOp .Add (.ref t) (.ref b)) Q E s:=by
 obtain⟨⟨cls,dd,data,l⟩,ho,q,n,p⟩:=id x;obtain⟨⟨v,j,data2,d⟩,a,h,m,hd2⟩:=id y;simp only at q p h hd2;subst q p h hd2;have e:vs.toArray++ws.toArray=(vs++ws).toArray:=by simp
 by_cases hw:ws=[]
 .exact zw ⟨_,ho,rfl⟩ ⟨_,a,rfl⟩ zr zp Am Ao (Ap _ _)
   (tuple_addW1 t b vs.toArray ws.toArray n m dd j l d ↑o (by simp[hw])) ⟨ho,a,z hw⟩
 .refine zw ⟨_,ho,rfl⟩ ⟨_,a,rfl⟩ zr zp Am Ao (Ap _ _)
   (tuple_addW2 t b vs.toArray ws.toArray n m dd j l d ↑o ↑hw (by rw[cf,cf];show hsz)) ⟨ho,a,?_⟩
  rw[e];show h2 hw
noncomputable def eT(n d:Nat):Option Int->Nat
 |none=>d
 |some v=>if v<0 then(v+(n:Int)).toNat else min v.toNat n
theorem XT(n d:Nat)(h:d<=n)(o:Option Int):eT n d o<=n:=by
 cases o with
 |none=>show h
 |some v =>
  show(if v<0 then(v+(n:Int)).toNat else min v.toNat n)<=n;by_cases a:v<0
  .rw [Z_ a];lia
  .rw [Zz a];show Nat.min_le_right _ _
def FV(v:Int)(n d:Nat):(if v<0 then max (v+(n:Int)) 0 else min v (n:Int))=((eT n d (aa v):Nat):Int):=by
 show(if v<0 then max (v+(n:Int)) 0 else min v (n:Int))=(((if v<0 then(v+(n:Int)).toNat else min v.toNat n):Nat):Int);by_cases a:v<0
 .erw[Z_ a];lia
 .erw[Zz a];lia
def C7(a d:Option Int)(n:Nat):Aw a d 1 (n:Int)=(((eT n 0 a:Nat):Int),((eT n n d:Nat):Int)):=by
 have h:¬ ((1:Int)<0):=∅
 unfold Aw;erw[h,if_false];show Prod.ext ?_ ?_
 .cases a with
  |none=>rfl
  |some v=>show FV v n 0
 .cases d with
  |none=>rfl
  |some v=>show FV v n n
def C8(i j:Nat):vy (i:Int) (j:Int) 1=j-i:=by
 unfold vy;have a:(1:Int)>0:=∅
 erw[a,if_true,Yg];split<;>lia
theorem sW(p:jj v o)(h:Q o s):av (aw Ω w) A (a01 v) Q E s:=by
 cases p with
 |none=>show Wf h
 |int i t=>show slicePart_int h
theorem jQ{p:ah}{o m:aj}{a j:Option Int}{n:Nat}{Q:Int×Int×Nat->ak->Prop}(y:s.heap.IsSliceOf p o m .none)(v:jj o a)(q:jj m j)
  (h:Q (((eT n 0 a:Nat):Int),1,eT n n j-eT n 0 a) s):av (aw Ω w) A (Vw (.ref p) (pure (n:Int))) Q E s:=by
 obtain⟨F,d,z,l⟩:=id y;unfold Vw a02;show ao (ao (k_ d l (x:=o) rfl (ao (k_ d l (x:=m) rfl (ao (k_ d l (x:=.none) rfl (ax ?_)))))));show ao (Wf ?_);show av _ _ (if((1:Int) == 0)=af then _ else _) _ _ s;rw[Zz ⋯];show ao (sW v (ao (sW q (ao (ax ?_)))));show av _ _ (match Aw a j 1 (n:Int) with|(a,j)=>pure (a,(1:Int),vy a j 1)) _ _ s;rw[C7 a j n];show av _ _ (pure (((eT n 0 a:Nat):Int),(1:Int),vy ((eT n 0 a:Nat):Int) ((eT n n j:Nat):Int) 1)) _ _ s;rw[C8];show ax h
def MM(xs:Array aj)(i k:Nat):((ck k).filterMap λ(m:Nat)=>xs[((i:Int)+(m:Int)*1).toNat]?).toArray=((xs.toList.drop i).take k).toArray:=by
 have e:(λ(m:Nat)=>xs[((i:Int)+(m:Int)*1).toNat]?)=λm=>xs[i+m]?:=by
  funext m
  have:((i:Int)+(m:Int)*1).toNat=i+m:=∅
  rw[this]
 rw[e];have:=pick_run xs i k;rw[Xx] at this;have a:((λx=>xs[x]?)∘λx=>i+x)=λm=>xs[i+m]?:=rfl;rw[a] at this;rw[this]
theorem oK{t n:ah}{items:Array aj}{y x:aj}{a d:Option Int}{Q:Q0c}(j:gc s.heap t items)(z:s.heap.IsSliceOf n y x .none)(I:jj y a)(F:jj x d)
  (hw:¬ (eT items.size 0 a=0/\eT items.size items.size d=items.size))
  (h:Q (.ref ↥s) {s with heap:=s.heap.push {cls:=.type "tuple",data:=.seq ((items.toList.drop (eT items.size 0 a)).take (eT items.size items.size d-eT items.size 0 a)).toArray} })
  (hsz:items.size<=bc):av (aw Ω w) A (getItem (.ref t) (.ref n)) Q E s:=by
 have l:sizeOk (.seq ((items.toList.drop (eT items.size 0 a)).take (eT items.size items.size d-eT items.size 0 a)).toArray):=by show((items.toList.drop (eT items.size 0 a)).take (eT items.size items.size d-eT items.size 0 a)).toArray.size<=bc;rw[cf,kh,me,Cc];lia
 have O:eT items.size items.size d<=items.size:=XT _ _ (bf _) d;obtain⟨J,o,v,K⟩:=id z;have L:s.TypeIs (.ref n) "slice":=⟨J,o,v⟩;unfold getItem
 try with_reducible show gp ?_
 first|show ao (ax ?_)|skip
 show ao (Rp j.typeIs ⋯ ?_);show ao (la (name:=ll "__getitem__") j.typeIs mz
  (gu mz j.typeIs Wk ?_ (Wq _ _)))
 show av _ _ (Vs (.ref t) >>= _) _ _ s;show ao (V_ j ?_);show ao (om L ?_);rw[Z_ ⋯];show ao (jQ z I F ?_);have p:¬ ((((eT items.size 0 a:Nat):Int) == 0&&(1:Int) == 1&&(eT items.size items.size d-eT items.size 0 a) == items.size)=af):=by intro q;rw[fm,fm] at q;have q1:((eT items.size 0 a:Nat):Int)=0:=eq_of_beq q.1.1;have q2:eT items.size items.size d-eT items.size 0 a=items.size:=eq_of_beq q.2;show hw ⟨∅,∅⟩
 show av _ _ (if(((eT items.size 0 a:Nat):Int) == 0&&(1:Int) == 1&&(eT items.size items.size d-eT items.size 0 a) == items.size)=af then _ else _) _ _ s;rw[Zz p,MM]
 first
  |show ao (m:=vx _) (kz (ax ⟨_,rfl,ax h⟩) l)
  |show ao (m:=vx _) (kz (ao (ax (ax ⟨_,rfl,ax h⟩))) l)
  |show ao (ao (m:=vx _) (kz (ax (ax ⟨_,rfl,ax h⟩)) l))
  |show ao (ao (m:=vx _) (kz (ax ⟨_,rfl,ax h⟩) l))
end
end HT
namespace L2
open PySem.Spec PyProof.Rows
abbrev TO:=St->Hp->(Option Int->Hp->Prop)->Prop
def PO(X:Cx)(e:Option au)(t:TO):Prop :=
 ∀(π:Q0b) (s:ak) (σ:St) (H:Hp) (Q:Option Int->Hp->Prop),Φ X π σ H s->t σ H Q ->
  av (aw X.Ω X.w) X.A (evalPart e X.env) (λu s'=>∃o H',Φ X π σ H' s'/\jj u o/\Q o H') X.xe s
def RE:TO:=λ_ H Q=>Q ae H
def Qi(t:TE):TO:=λσ H Q=>t σ H λx a=>∃i,x=.int i/\Q (aa i) a
theorem intsAre_of:∀{a:Q0f},θ (ns.map V.int) a->gd a ns:=by
 induction ns with
 |nil=>intro a r;rw[ja] at r;cases r;show .nil
 |cons n ns ih =>
  intro a r;rw[bt] at r
  cases r with
  |cons r1 r2 =>
   obtain⟨t,e⟩:=r1;subst e;show .cons n t (ih r2)
variable{X:Cx}
section
variable{e:au}{te:TE}{lo hi:Option au}{tl th:TO}{ν p2:ba}
def RG:PO X ae RE:=by intro π s σ H Q I h;rw[zv];show ax ⟨ae,H,I,.none,h⟩
def RH(h:PE X e te):PO X (aa e) (Qi te):=by intro π s σ H Q I hw;rw[Te];show c6 (h π s σ H _ I hw) λu m a=>?_;obtain⟨x,l,j,d,q1⟩:=a;obtain⟨i,rfl,q⟩:=q1;obtain⟨t,rfl⟩:=d;show⟨aa i,l,j,.int i t,q⟩
def RI(X:Cx)(r:V->Option Int->Option Int->Hp->VK->Prop):Prop :=
 ∀(π:Q0b) (s:ak) (σ:St) (H:Hp) (x:V) (v d a:aj) (lo hi:Option Int) (h:ah) (Q:VK),Φ X π σ H s->Ψ x v->s.heap.IsSliceOf h d a .none->jj d lo->jj a hi->r x lo hi H Q ->
  ∃T id,typeLookup (.type T) "__getitem__"=pure (aa (.builtin id))/\s.TypeIs v T/\av (aw X.Ω X.w) X.A (getItem v (.ref h)) (EP X π σ Q) X.xe s
def RI.or(h:RI X r)(h':RI X r'):RI X (λx lo hi H Q=>r x lo hi H Q\/r' x lo hi H Q):=by
 intro π s σ H x v d a lo hi j Q I l o n m q;rcases q with q|q
 .exact h π s σ H x v d a lo hi j Q I l o n m q
 .exact h' π s σ H x v d a lo hi j Q I l o n m q
def Cm(r:V->Option Int->Option Int->Hp->VK->Prop)(te:TE)(tl th:TO):TE:=λσ H Q=>te σ H λx h=>tl σ h λl d=>th σ d λu a=>r x l u a Q
def AD(K:RI X r)(U:PE X e te)(L:PO X lo tl)(F:PO X hi th):PE X (.Subscript e (.Slice lo hi ae p2) ν) (Cm r te tl th):=by intro π s σ H Q I h;show Be (c6 (U π s σ H _ I h) λv n ⟨x,H1,I1,o,q1⟩=>?_);show Sf (c6 (L π n σ H1 _ I1 q1) λd m ⟨l,H2,I2,z,q2⟩=>c6 (F π m σ H2 _ I2 q2) λa s3 ⟨u,j,I3,y,p⟩=>?_);rw[zv];show ax ?_;have Z:Φ X π σ j {s3 with heap:=s3.heap.push {cls:=.type "slice",data:=.fields #[d,a,.none]} }:=I3.kept (t':=s3.toks) λb ob q=>bu _ q;obtain⟨T,id,Y,J,O⟩:=K π {s3 with heap:=s3.heap.push {cls:=.type "slice",data:=.fields #[d,a,.none]} } σ j x v d a l u ↥s3 Q Z o (Uv ..) z y p;show av (aw X.Ω X.w) X.A (subscriptTail e (.Slice lo hi ae p2) v (.ref ↥s3)) (EP X π σ Q) X.xe {s3 with heap:=s3.heap.push {cls:=.type "slice",data:=.fields #[d,a,.none]} };show tail_any (ops:=[.ref ↥s3,v]) J Y O (by with_unfolding_all rfl)
def AE(xs:List V)(lo hi:Option Int):List V:=(xs.drop (HT.eT ⇑xs 0 lo)).take (HT.eT ⇑xs ⇑xs hi-HT.eT ⇑xs 0 lo)
def qL(xs:List V)(lo hi:Option Int):⇑(AE xs lo hi)<=⇑xs:=by unfold AE;rw[kh,me];lia
def Kk(K:aq):V->Option Int->Option Int->Hp->VK->Prop:=λx lo hi H Q=>∃a xs,x=.ref a/\eR K H a xs /\
 ¬ (HT.eT ⇑xs 0 lo=0/\HT.eT ⇑xs ⇑xs hi=⇑xs) /\∀p,H p=ae->Q (.ref p) (upd H p (.tup (AE xs lo hi)))
def XU:RI X (Kk X.K):=by
 intro π s σ H x v F A lo hi J Q I m z p n h;obtain⟨a,xs,rfl,y,hw,q⟩:=h;cases m;obtain⟨l,r,j,d⟩:=I.tuple y;have hlen:l.toArray.size=⇑xs:=by rw[cf];show r.length.symm
 show⟨"tuple",_,mz.lookup,j.typeIs,?_⟩;show HT.oK j z p n (by rw[hlen];show hw) ?_ (by rw[hlen];show d);rw[hlen];show⟨.ref ↥s,_,I.laid (t':=s.toks) (o:=.tup (AE xs lo hi)) (λb L q=>bu _ q) (bf _) ?_,rfl,q _ (I.hok.fresh (bf _))⟩;show⟨cy (qL xs lo hi) d,_,(r.drop (HT.eT ⇑xs 0 lo)).take (HT.eT ⇑xs ⇑xs hi-HT.eT ⇑xs 0 lo),Bf _ _,z7.new _ _⟩
def Qh(K:aq):R2:=λx y H Q=>∃a b xs ys,x=.ref a/\y=.ref b/\eR K H a xs/\eR K H b ys/\xs≠[]/\⇑xs+⇑ys<=bc /\
 (ys=[]->Q (.ref a) H)/\(ys≠[] ->∀p,H p=ae->Q (.ref p) (upd H p (.tup (xs++ys))))
theorem θ.xU(r:θ xs us):us=[]↔xs=[]:=by
 cases r with
 |nil=>simp
 |cons _ _=>simp
def RJ:iQ X (binaryOp .Add) (Qh X.K):=by intro π s σ H x y v u Q I p n h;obtain⟨a,b,xs,ys,rfl,rfl,J,F,A,m,q1,q2⟩:=h;cases p;cases n;obtain⟨L,j,p1,_⟩:=I.tuple J;obtain⟨l,d,p2,_⟩:=I.tuple F;show HT.RD p1 p2 (λz=>A (j.xU.mp z)) (λz=>⟨.ref a,H,I,rfl,q1 (d.xU.mp z)⟩) (λz=>?_) (by rw[<- ⇑j,<- ⇑d];show m);show⟨.ref ↥s,_,I.laid (t':=s.toks) (o:=.tup (xs++ys)) (λb O q=>bu _ q) (bf _) ?_,rfl,q2 (λw=>z (d.xU.mpr w)) _ (I.hok.fresh (bf _))⟩;show⟨by rw[cu];show m,_,j.append d,Bf _ _,z7.new _ _⟩
end
def RK(n:Nat)(i:Int):Option Nat:=if 0<=i then(if i<n then aa i.toNat else ae) else if -(n:Int)<=i then aa (i+n).toNat else ae
def qM{α:Type}(xs:List α)(i:Int):Option α:=(RK ⇑xs i).bind λj=>xs[j]?
def FX(h:RK n i=aa j):seqIndex? i n=aa j/\j<n /\ -(n:Int)<=i/\i<n:=by
 unfold RK at h;by_cases d:0<=i
 .rw [Z_ d] at h;by_cases a:i<n
  .rw [Z_ a] at h;have e:i.toNat=j:=fu h;show⟨by rw[Sw d a,e],∅,∅,a⟩
  .rw [Zz a] at h;cases h
 .rw [Zz d] at h;by_cases a:-(n:Int)<=i
  .rw [Z_ a] at h;have e:(i+n).toNat=j:=fu h;show⟨by rw[Sx ∅ a,e],∅,a,∅⟩
  .rw [Zz a] at h;cases h
theorem xV{α:Type}{xs:List α}{i:Int}{v:α}(h:qM xs i=aa v):∃j,seqIndex? i ⇑xs=aa j/\xs[j]?=aa v/\j<⇑xs /\ -(⇑xs:Int)<=i/\i<⇑xs:=by
 unfold qM at h
 cases e:RK ⇑xs i with
 |none=>rw[e] at h;cases h
 |some j =>
  rw[e] at h;obtain⟨l,h2,d,a⟩:=FX e;show⟨j,l,h,h2,d,a⟩
def rH(b:au):Prop:=∀o i,subscripted b ag o i=operate [o,i] (getItem o i)
def U4(X:Cx)(r:R2):Prop :=
 ∀(value slice:au) (π:Q0b) (s:ak) (σ:St) (H:Hp) (x y:V) (v u:aj) (Q:VK),Φ X π σ H s->Ψ x v->Ψ y u->r x y H Q ->
  subscripted slice ag v u=operate [v,u] (getItem v u)->av (aw X.Ω X.w) X.A (subscriptTail value slice v u) (EP X π σ Q) X.xe s
def U5(X:Cx)(id:String)(r:V->List V->Hp->VK->Prop):Prop :=
 ∀(π:Q0b) (s:ak) (σ:St) (H:Hp) (x:V) (xs:List V) (v:aj) (a:Q0f) (Q:VK),Φ X π σ H s->Ψ x v->θ xs a->r x xs H Q ->
  av (aw X.Ω X.w) X.A (call (.builtin id) (v::a)) (EP X π σ Q) X.xe s
section
variable{a b:au}{ta tb:TE}{ν:ba}
def U4.or(h:U4 X r)(h':U4 X r'):U4 X (λx y H Q=>r x y H Q\/r' x y H Q):=by
 intro value slice π s σ H x y v u Q I j d q l;rcases q with q|q
 .exact h value slice π s σ H x y v u Q I j d q l
 .exact h' value slice π s σ H x y v u Q I j d q l
def U6(n:U4 X r)(p:PE X a ta)(o:PE X b tb)(m:rH b):PE X (.Subscript a b ν) (mj r ta tb):=by intro π s σ H Q I h;show Be (XD p o I h λv u d x y A z l j q=>n a b π d σ A x y v u Q z l j q (m _ _))
def ym(K:aq):R2:=λx y H Q=>∃p xs i v,x=.ref p/\y=.int i/\eJ K H p xs/\qM xs i=aa v/\Q v H
def yj(K:aq):R2:=λx y H Q=>∃p xs i v,x=.ref p/\y=.int i/\eR K H p xs/\qM xs i=aa v/\Q v H
def yi:R2:=λx y H Q=>∃z i c,x=.str z/\y=.int i/\⇑z<=bc/\qM z.cps.toList i=aa c/\Q (.str ⟨#[c]⟩) H
def RL:U4 X (ym X.K):=by
 intro value slice π s σ H x y v u Q I O L h n;obtain⟨p,xs,i,z,rfl,rfl,U,Z,q⟩:=h;cases O;obtain⟨t,rfl⟩:=L;obtain⟨F,r,l,hz⟩:=I.list U;obtain⟨j,d,h2,h3,h4,h5⟩:=xV Z;obtain⟨w,A,J⟩:=r.get h2;have Y:=⇑r;have hn:=pR;have fin:EP X π σ Q w s:=⟨z,H,I,J,q⟩;by_cases o:0<=i
 .have m:i.toNat=j:=by rw[Sw o h5] at d;show fu d
  show item_listR l.isList o ∅ (by rw[m];simpa using A) fin n
 .have m:(i+(F.toArray.size:Int)).toNat=j:=by rw[Sx ∅ h4] at d;rw[cf,<- Y];show fu d
  show Wb (x:=w) l.isList.typeIs Ss.lookup
   (wpAny_getItem_list_neg (Q:=λr s'=>r=w/\EP X π σ Q r s') l.isList ∅ (by rw[cf]<;>lia) ∅ (by rw[m];simpa using A) ⟨rfl,fin⟩) n
def XW:U4 X (yj X.K):=by
 intro value slice π s σ H x y v u Q I n m h o;obtain⟨p,xs,i,z,rfl,rfl,A,J,q⟩:=h;cases n;obtain⟨t,rfl⟩:=m;obtain⟨U,r,d,Y⟩:=I.tuple A;obtain⟨j,L,h2,h3,h4,h5⟩:=xV J;obtain⟨w,O,l⟩:=r.get h2;have F:=⇑r;have Z:=pR;have fin:EP X π σ Q w s:=⟨z,H,I,l,q⟩;show Wb (x:=w) d.typeIs mz.lookup
  (getItem_tuple (j:=j) (Q:=λr s'=>r=w/\EP X π σ Q r s') d ∅ ∅ (by rw[cf,<- F];show L) ↑O ⟨rfl,fin⟩) o
def XX:U4 X yi:=by
 intro value slice π s σ H x y v u Q I m l h n;obtain⟨z,i,c,rfl,rfl,L,p,q⟩:=h;obtain⟨t,rfl⟩:=m;obtain⟨t',rfl⟩:=l;obtain⟨j,d,h2,U,F,A⟩:=xV p;have o:⇑z.cps.toList=⇑z:=by simp[Str.length]
 rw[o] at d F A;have O:=pR;show tail_any (typeIs_str s z t) slot_str_getitem.lookup (getItem_str (c:=c) (by
  have K:Zv (i < -(2^63:Int))=ag:=Zy ∅;have J:Zv (i >= 2^63)=ag:=Zy ∅;rw[K,J,Bool.or_false]) (by rw[d];simpa using h2) ⟨.str ⟨#[c]⟩,H,I.tok _,⟨_,rfl⟩,q⟩) n
def xW(d j:Option Int)(n:Nat):(sliceBounds d j ae n).1=((HT.eT n 0 d:Nat):Int)/\(sliceBounds d j ae n).2.1=((HT.eT n n j:Nat):Int)/\(sliceBounds d j ae n).2.2=1:=by
 show⟨?_,?_,rfl⟩
 .cases d with
  |none=>simp[sliceBounds,HT.eT]
  |some i =>
   erw[sliceBounds,HT.eT,Wx,show(1:Int)>0 by decide,if_true];by_cases h:i<0
   .erw[h,if_true]<;>lia
   .erw[h,if_false]<;>lia
 .cases j with
  |none=>simp[sliceBounds,HT.eT]
  |some i =>
   erw[sliceBounds,HT.eT,Wx,show(1:Int)>0 by decide,if_true];by_cases h:i<0
   .erw[h,if_true]<;>lia
   .erw[h,if_false]<;>lia
def uM(d:Q0f)(h j:Option Int):slicePick d.toArray h j ae=((d.drop (HT.eT ⇑d 0 h)).take (HT.eT ⇑d ⇑d j-HT.eT ⇑d 0 h)).toArray:=by obtain⟨m,h2,l⟩:=xW h j d.toArray.size;unfold slicePick;rw[m,h2,l];erw[sliceRange_one,pick_run,cf]<;>rfl
def Kj(K:aq):V->Option Int->Option Int->Hp->VK->Prop:=λx d h H Q=>∃a xs,x=.ref a/\eJ K H a xs /\∀p,H p=ae->Q (.ref p) (upd H p (.lst (AE xs d h)))
theorem RM:RI X (Kj X.K):=by intro π s σ H x v L J d j O Q I m A p n h;obtain⟨a,xs,rfl,z,q⟩:=h;cases m;obtain⟨F,r,l,y⟩:=I.list z;have hlen:=⇑r;show⟨"list",_,Ss.lookup,l.isList.typeIs,?_⟩;show Sa l.isList A p n .none (by simp) ?_ (by rw[cf]<;>lia);rw[uM,<- hlen];show⟨.ref ↥s,_,I.laid (t':=s.toks) (o:=.lst (AE xs d j)) (λb U q=>bu _ q) (bf _) ?_,rfl,q _ (I.hok.fresh (bf _))⟩;show⟨cy (qL xs d j) y,_,0,(r.drop (HT.eT ⇑xs 0 d)).take (HT.eT ⇑xs ⇑xs j-HT.eT ⇑xs 0 d),cz _ rfl⟩
noncomputable def oM:V->Bool
 |.non=>af
 |.bl _=>af
 |.int _=>af
 |.str _=>af
 |_=>ag
noncomputable def U7:V->V->Bool
 |.non,.non=>af
 |.bl a,.bl b=>a == b
 |.bl a,.int b=>(if a then 1 else 0) == b
 |.int a,.bl b=>a == (if b then 1 else 0)
 |.int a,.int b=>a == b
 |.str a,.str b=>a == b
 |_,_=>ag
theorem XY(h:Ψ y u)(d:Ψ x v)(l:oM y=af)(j:oM x=af):Uo A s u v (U7 y x):=by
 cases y with
 |non =>
  cases h
  cases x with
  |non=>cases d;show Ul _
  |bl b=>cases d;show a0m b
  |int b=>obtain⟨t,rfl⟩:=d;show a0l b t
  |str b=>obtain⟨t,rfl⟩:=d;show a0k b t
  |_=>show Zw (show ag=af from j) bg
 |bl a =>
  cases h
  cases x with
  |non=>cases d;show a0s a
  |bl b=>cases d;show a0u a b
  |int b=>obtain⟨t,rfl⟩:=d;show a0t a b t
  |str b=>obtain⟨t,rfl⟩:=d;show a0r a b t
  |_=>show Zw (show ag=af from j) bg
 |int a =>
  obtain⟨t',rfl⟩:=h
  cases x with
  |non=>cases d;show a0o a t'
  |bl b=>cases d;show a0q a t' b
  |int b=>obtain⟨t,rfl⟩:=d;show a0p a t' b t
  |str b=>obtain⟨t,rfl⟩:=d;show Um a t' b t
  |_=>show Zw (show ag=af from j) bg
 |str a =>
  obtain⟨t',rfl⟩:=h
  cases x with
  |non=>cases d;show a0i a t'
  |bl b=>cases d;show a0j a t' b
  |int b=>obtain⟨t,rfl⟩:=d;show Uk a t' b t
  |str b=>obtain⟨t,rfl⟩:=d;show a0h a t' b t
  |_=>show Zw (show ag=af from j) bg
 |_=>show Zw (show ag=af from l) bg
def C9(x:V)(u:aj):Bool:=match u with
 |.none=>U7 .non x
 |.bool b=>U7 (.bl b) x
 |.int i _=>U7 (.int i) x
 |.str z _=>U7 (.str z) x
 |_=>ag
theorem MN(r:Ψ y u)(f:oM y=af):C9 x u=U7 y x:=by
 cases y with
 |non=>cases r;rfl
 |bl b=>cases r;rfl
 |int i=>obtain⟨t,rfl⟩:=r;rfl
 |str z=>obtain⟨t,rfl⟩:=r;rfl
 |_=>show Zw (show ag=af from f) bg
theorem oN:∀{xs:List V} {d:Q0f},θ xs d->xs.all oM=af->d.any (C9 x)=xs.any λy=>U7 y x
 |_,_,.nil,_=>rfl
 |y::xs,u::d,.cons r t,f=>by rw[qj,fm] at f;rw[jr,jr,MN r f.1,oN t f.2]
theorem lD(j:Ψ x v)(l:oM x=af):∀{xs:List V} {h:Q0f},θ xs h->xs.all oM=af ->∀u∈h,Uo A s u v (C9 x u)
 |_,_,.nil,_=>λu d=>by cases d
 |y::xs,u::h,.cons r t,f=>λm d=>by
  rw[qj,fm] at f;rcases bh.mp d with rfl|d
  .rw [MN r f.1];show XY r j f.1 l
  .exact lD j l t f.2 m d
def inV(x:V)(xs:List V):Bool:=xs.any λy=>U7 y x
def tw(K:aq)(neg:Bool):R2:=λx y H Q=>∃p xs,y=.ref p/\(eJ K H p xs\/eR K H p xs)/\oM x=af/\xs.all oM=af/\Q (.bl (if neg then !inV x xs else inV x xs)) H
def vM:iQ X (compareOp .In) (tw X.K ag):=by
 intro π s σ H x y v u Q I m o h;obtain⟨p,xs,rfl,j,n,fs,q⟩:=h;cases o;rcases j with j|j
 .obtain ⟨d,r,l,z⟩:=I.list j;show SeqAt.in_listAt (C9 x) l.isList (λw hw=>lD m n r fs w ↑hw) ⟨.bl _,H,I,rfl,?_⟩;rw[show d.toArray.any (C9 x)=d.any (C9 x) by simp,oN r fs];show q
 .obtain ⟨d,r,l,z⟩:=I.tuple j;show SeqAt.in_tupleAt (C9 x) l (λw hw=>lD m n r fs w ↑hw) ⟨.bl _,H,I,rfl,?_⟩;rw[show d.toArray.any (C9 x)=d.any (C9 x) by simp,oN r fs];show q
def xX:iQ X (compareOp .NotIn) (tw X.K af):=by
 intro π s σ H x y v u Q I m o h;obtain⟨p,xs,rfl,j,n,fs,q⟩:=h;cases o;rcases j with j|j
 .obtain ⟨d,r,l,z⟩:=I.list j;show SeqAt.notIn_listAt (C9 x) l.isList (λw hw=>lD m n r fs w ↑hw) ⟨.bl _,H,I,rfl,?_⟩;rw[show d.toArray.any (C9 x)=d.any (C9 x) by simp,oN r fs];show q
 .obtain ⟨d,r,l,z⟩:=I.tuple j;show SeqAt.notIn_tupleAt (C9 x) l (λw hw=>lD m n r fs w ↑hw) ⟨.bl _,H,I,rfl,?_⟩;rw[show d.toArray.any (C9 x)=d.any (C9 x) by simp,oN r fs];show q
def xZ:eB X (.builtin "len") (λxs H Q=>∃p ys,xs=[.ref p]/\(eJ X.K H p ys\/eR X.K H p ys)/\Q (.int ⇑ys) H):=by
 intro π s σ H xs v Q I r h;obtain⟨p,ys,rfl,d,q⟩:=h;obtain⟨u,rfl,n⟩:=vals1 r;cases n;have x:=pR;rcases d with d|d
 .obtain ⟨m,j,l,o⟩:=I.list d;have hlen:=⇑j;show Calls.call_len_list l.isList (by erw[cf]<;>lia) ⟨.int ⇑ys,H,I.tok _,⟨s.toks+1,by rw[cf,hlen]⟩,q⟩
 .obtain ⟨m,j,l,o⟩:=I.tuple d;have hlen:=⇑j;show len_tuple l (by erw[cf]<;>lia) ⟨.int ⇑ys,H,I.tok _,⟨s.toks+1,by rw[cf,hlen]⟩,q⟩
def yA:eB X (.builtin "len") (λxs H Q=>∃z,xs=[.str z]/\⇑z<=bc/\Q (.int ⇑z) H):=by intro π s σ H xs d Q I r h;obtain⟨z,rfl,j,q⟩:=h;obtain⟨u,rfl,t,rfl⟩:=vals1 r;have l:=pR;show len_str ∅ ⟨.int ⇑z,H,I.tok _,⟨_,rfl⟩,q⟩
theorem uN:eB X (.type "tuple") (λxs H Q=>∃p ys,xs=[.ref p]/\((eJ X.K H p ys /\∀l,H l=ae->Q (.ref l) (upd H l (.tup ys)))\/(eR X.K H p ys/\Q (.ref p) H))):=by
 intro π s σ H xs F Q I r h;obtain⟨p,ys,rfl,h⟩:=h;obtain⟨u,rfl,y⟩:=vals1 r;cases y;rcases h with⟨n,q⟩|⟨n,q⟩
 .obtain ⟨d,j,m,v⟩:=I.list n;have hlen:=⇑j;show call_tuple_list m.isList (λh' z=>?_) (by erw[cf]<;>lia);have x:Φ X π σ H {s with heap:=h' }:=I.kept (t':=s.toks) z;have A:Φ X π σ (upd H h'.objs.size (.tup ys)) {s with heap:=h'.push {cls:=.type "tuple",data:=.seq d.toArray} } :=
   x.laid (t':=s.toks) (λb o e=>bu _ e) (bf _) (show bZ X.Ω X.w _ _ _ (.tup ys) from⟨v,d,j,Bf _ _,z7.new _ _⟩)
  show⟨.ref h'.objs.size,_,A,rfl,q _ (x.hok.fresh (bf _))⟩
 .obtain ⟨d,j,m,v⟩:=I.tuple n;show call_tuple_same m ⟨.ref p,H,I,rfl,q⟩
def tyV(K:aq)(T:String)(x:V)(H:Hp):Prop:=match x with
 |.str _=>T="str"
 |.int _=>T="int"
 |.ref p=>(T="list" /\∃xs,eJ K H p xs)\/(T="tuple" /\∃o,K.lookup p=aa o/\o.cls=.type "tuple" /\o.dict=ae) \/
   (T="dict" /\((∃d,H p=aa (.dK d)) \/∃d,H p=aa (.dT d)))\/(T="set" /\∃S n,H p=aa (.set S n))\/(T="tuple" /\∃xs,H p=aa (.tup xs))
 |_=>False
theorem DA(I:Φ X π σ H s)(r:Ψ x v)(ty:tyV X.K T x H):
  s.TypeIs v T /\∀a,v=.ref a ->∃m,s.heap.get? a=aa m/\m.dict=ae:=by
 cases x with
 |str z =>
  obtain⟨t,rfl⟩:=r;cases (show T="str" from ty);show⟨typeIs_str s z t,λ_ e=>nomatch e⟩
 |int i =>
  obtain⟨t,rfl⟩:=r;cases (show T="int" from ty);show⟨zo s i t,λ_ e=>nomatch e⟩
 |ref p =>
  cases r;rcases ty with⟨rfl,xs,y⟩|⟨rfl,o,d,A,j⟩|⟨rfl,d⟩|⟨rfl,S,n,d⟩|⟨rfl,xs,d⟩
  .obtain ⟨F,_,l,_⟩:=I.list y;show⟨l.isList.typeIs,λa e=>?_⟩;cases e;obtain⟨o,n,e,c,j,_⟩:=l;show⟨o,e,j⟩
  .refine ⟨⟨o,I.rF p o d,A⟩,λa e=>?_⟩;cases e;show⟨o,I.rF _ o d,j⟩
  .have z:∃o,s.heap.get? p=aa o/\o.ExactDict:=by
    rcases d with⟨q,d⟩|⟨q,d⟩
    .obtain ⟨_,_,_,_,o,_,_,e,ex,_⟩:=I.hok p _ d;show⟨o,e,ex⟩
    .obtain ⟨_,_,_,_,o,_,_,e,ex,_⟩:=I.hok p _ d;show⟨o,e,ex⟩
   obtain⟨o,e,ex⟩:=z;show⟨⟨o,e,ex.1⟩,λa h=>?_⟩;cases h;show⟨o,e,ex.2.1⟩
  .obtain ⟨o,_,_,_,e,ex,_⟩:=I.hok p _ d;show⟨⟨o,e,ex.1⟩,λa h=>?_⟩;cases h;show⟨o,e,ex.2.1⟩
  .obtain ⟨_,_,_,⟨o,e,c,_⟩,nd⟩:=I.hok p _ d;show⟨⟨o,e,c⟩,λa h=>?_⟩;cases h;show⟨o,e,nd _ e⟩
 |_=>show ip ty
def Ki(K:aq)(T:String)(r:V->List V->Hp->VK->Prop)(h:TE):TE:=λσ H Q=>h σ H λx d=>tyV K T x d/\r x [] d Q
def tq(K:aq)(T:String)(r:V->List V->Hp->VK->Prop)(h:TE)(t:TA):TE:=λσ H Q=>h σ H λx d=>tyV K T x d/\t σ d λxs j=>r x xs j Q
variable{o e:au}{es:List au}{to:TE}{t:TA}{name:ai}{apos cpos:ba}{T id:String}{r:V->List V->Hp->VK->Prop}
theorem MO(q:PlainAttrs T)(slot:Slot T name id)(l:typeOf (.builtin id)=pure (.type "method_descriptor"))(y:U5 X id r)(ho:PE X o to)
  (j:attributeBase o name X.env (eval o X.env)=eval o X.env<|>0) (d:Q0k apos cpos<|>0):PE X (.Call (.Attribute o name apos) [] [] cpos) (Ki X.K T r to):=by
 intro π s σ H Q I h;show wpAny_Call_method0_late j d (c6 (ho π s σ H _ I h) λv p ⟨x,A,n,m,ty,q1⟩=>?_);obtain⟨z,h2⟩:=DA n m ty;show⟨T,id,q,slot,l,z,h2,As rfl (PySem.evalArgs_none (y π p σ A x [] v [] Q n m .nil q1))⟩
theorem AG(O:PlainAttrs T)(slot:Slot T name id)(n:typeOf (.builtin id)=pure (.type "method_descriptor"))(Y:U5 X id r)(ho:PE X o to)(Z:PA X (e::es) t)
  (l:attributeBase o name X.env (eval o X.env)=eval o X.env<|>0)
  (m:((bz cpos (ar (e::es) X.env)).all (λx=>!x.1)&&(backToKw cpos (iu [] X.env)).all (λx=>x.1.isSome)
   && Zv (⇑(e::es)+⇑([]:List di)+(if([]:List di).isEmpty then 0 else 1)<30))=af:=by rfl)
  (j:Q0k apos cpos<|>0) (U:Zr X e es<|>0) (d:Q0l X cpos es<|>0):
  PE X (.Call (.Attribute o name apos) (e::es) [] cpos) (tq X.K T r to t):=by
 intro π s σ H Q I h;show Sk l m j rfl (c6 (ho π s σ H _ I h) λv J ⟨x,H1,z,q,ty,q1⟩=>?_);obtain⟨h1,h2⟩:=DA z q ty;show⟨T,id,O,slot,n,h1,h2,?_⟩;have y:=Z cpos π J σ H1 _ z q1;rw[U] at y ⊢;show As (by show(ag||(bz cpos (ar es X.env)).any (·.1))=ag;rw[d]<;>rfl) (Ar ?_);show c6 y λA F p=>by obtain⟨vs,H2,I2,L,q2⟩:=p;show Y π F σ H2 x vs v A Q I2 q L q2
end
def MtM(X:Cx)(id:String)(r:V->List V->Hp->VK->Prop):Prop :=
 ∀(π:Q0b) (s:ak) (σ:St) (H:Hp) (x:V) (xs:List V) (v:aj) (a:Q0f) (Q:VK),Φ X π σ H s->Ψ x v->θ xs a->r x xs H Q ->
  av (aw X.Ω X.w) X.A (call (.builtin id) (v::a)) (EP X π σ Q) X.xe s
theorem θ.one:∀{x:V} {a:Q0f},θ [x] a ->∃u,a=[u]/\Ψ x u
 |_,_,.cons r .nil=>⟨_,rfl,r⟩
theorem θ.zero:∀{a:Q0f},θ [] a->a=[]
 |_,.nil=>rfl
theorem θ.dropLast{xs:List V}{a:Q0f}(h:θ xs a):θ xs.dropLast a.dropLast:=by
 induction h with
 |nil=>show .nil
 |cons r t ih =>
  cases t with
  |nil=>show .nil
  |cons q t'=>show .cons r ih
theorem θ.eraseIdx:∀{xs:List V} {a:Q0f} (i:Nat),θ xs a->θ (xs.eraseIdx i) (a.eraseIdx i)
 |_,_,_,.nil=>.nil
 |_,_,0,.cons _ t=>t
 |_,_,i+1,.cons r t=>.cons r (θ.eraseIdx i t)
theorem θ.rep(h:θ xs us):∀k:Nat,θ (bw k xs).flatten (bw k us).flatten
 |0=>.nil
 |k+1=>by rw[ig,ig,sk,sk];show θ.append h (θ.rep h k)
theorem nF{α:Type}(l:List α):l.eraseIdx (⇑l-1)=l.dropLast:=by
 induction l with
 |nil=>rfl
 |cons a r ih =>
  cases r with
  |nil=>rfl
  |cons b r =>
   have e:⇑(a::b::r)-1=(⇑(b::r)-1)+1:=by have d:⇑(a::b::r)=⇑r+2:=rfl;have h2:⇑(b::r)=⇑r+1:=rfl;lia
   rw[e,Bw,ih]
   all_goals rfl
theorem vN{α:Type}:∀(l:List α) (i:Nat),⇑(l.eraseIdx i)<=⇑l
 |[],_=>bf _
 |_::_,0=>l_ _
 |_::r,i+1=>Nat.succ_le_succ (vN r i)
section
variable{π:Q0b}{σ:St}{H:Hp}{s:ak}{l b:ah}{xs ys zs:List V}
theorem Φ.RN{a its':Q0f}{n:Nat}{f:Array aj->Array aj}{t':Nat}(I:Φ X π σ H s)(p:H l=aa (.lst xs))
  (e:s.heap.get? l=aa {cls:=.type "list",data:=.seq a.toArray n}) (m:f a.toArray=its'.toArray) (h:θ ys its') (d:⇑ys<=bc):
  Φ X π σ (upd H l (.lst ys)) {s with heap:=s.heap.update l (ke f),toks:=t' }:=by
 have q:=a0z e f;rw[m] at q;show I.write (x:=l) (e:=l) (by rw[p];show trivial) (.inl rfl) (λv u o j=>(r9 s.heap (ke f) (fj o)).trans j) ⟨_,q⟩ ?_;show⟨d,its',_,h,q⟩
theorem Φ.yh(I:Φ X π σ H s)(d:θ ys ι)(a:⇑ys<=bc):
  Φ X π σ (upd H ↥s (.lst ys)) {s with heap:=s.heap.push {cls:=.type "list",data:=.seq ι.toArray},toks:=t' } :=
 I.laid (λ_ _ q=>bu _ q) (bf _) ⟨a,ι,0,d,cz _ rfl⟩
def Φ.fresh(I:Φ X π σ H s):H ↥s=ae:=I.hok.fresh (bf _)
def Φ.DB(I:Φ X π σ H s)(d:H l=aa (.lst xs)):⇑xs<=bc /\∃(a:Q0f) (n:Nat),θ xs a/\⇑xs=⇑a/\s.heap.get? l=aa {cls:=.type "list",data:=.seq a.toArray n}:=by obtain⟨z,a,n,r,e⟩:=I.hok l _ d;show⟨z,a,n,r,⇑r,e⟩
def FY:V->List V->Hp->VK->Prop:=λx vs H Q=>∃l xs y,x=.ref l/\vs=[y]/\H l=aa (.lst xs)/\⇑xs<bc/\Q .non (upd H l (.lst (xs++[y])))
def vO:MtM X "list.append" FY:=by intro π s σ H x vs v p Q I j m h;obtain⟨l,xs,y,rfl,rfl,d,A,q⟩:=h;cases j;obtain⟨u,rfl,o⟩:=m.one;obtain⟨z,a,n,r,J,e⟩:=I.DB d;show lg Vc ⟨_,e,rfl⟩ F.entry_list_append (F.args_list_append_2 _ _) (PySem.list_append l a.toArray n u (by rw[cf];lia)) ⟨e,?_⟩;show⟨.non,_,I.RN (its':=a++[u]) d e (by simp) (r.append (.cons o .nil)) ?_,rfl,q⟩;rw[cu,wg];lia
def Kh:V->List V->Hp->VK->Prop:=λx vs H Q=>∃l xs y,x=.ref l/\vs=[]/\H l=aa (.lst xs)/\xs[⇑xs-1]?=aa y/\Q y (upd H l (.lst xs.dropLast))
def XZ:MtM X "list.pop" Kh:=by
 intro π s σ H x vs v O Q I o p h;obtain⟨l,xs,y,rfl,rfl,m,J,q⟩:=h;cases o;have j:=p.zero;subst j;obtain⟨z,a,n,r,L,e⟩:=I.DB m;obtain⟨u,K,A⟩:=r.get J;have d:a.toArray[a.toArray.size-1]?=aa u:=by show a.toArray[⇑a-1]?=aa u;rw[<- w_,<- L];show K
 show lg vq ⟨_,e,rfl⟩ Vh (F.args_list_pop_1 _) (a0x l a.toArray n u d (by rw[cf];lia)) ⟨e,?_⟩;show⟨y,_,I.RN (its':=a.dropLast) m e ?_ r.dropLast ?_,A,q⟩
 .show a.toArray.eraseIdxIfInBounds (a.toArray.size-1)=a.dropLast.toArray;rw[cf,Xy,nF]
 .rw [List.length_dropLast];lia
def MP:V->List V->Hp->VK->Prop:=λx vs H Q=>∃l xs i k y,x=.ref l/\vs=[.int i]/\H l=aa (.lst xs) /\ -(2^63)<=i/\i<2^63/\seqIndex? i ⇑xs=aa k/\xs[k]?=aa y/\Q y (upd H l (.lst (xs.eraseIdx k)))
def MQ:MtM X "list.pop" MP:=by
 intro π s σ H x vs v O Q I m o h;obtain⟨l,xs,i,k,y,rfl,rfl,d,L,h2,K,A,q⟩:=h;cases m;obtain⟨u,rfl,p⟩:=o.one;obtain⟨t,rfl⟩:=p;obtain⟨z,a,n,r,J,e⟩:=I.DB d;obtain⟨w,hw,j⟩:=r.get A;show lg vq ⟨_,e,rfl⟩ Vh (F.args_list_pop_2 _ _)
  (a0y l a.toArray n i t k w (Td L h2) (by rw[cf,<- J];show K) (by rw[<- w_];show hw) (by rw[cf];lia)) ⟨e,?_⟩
 show⟨y,_,I.RN (its':=a.eraseIdx k) d e ?_ (r.eraseIdx k) ?_,j,q⟩
 .show a.toArray.eraseIdxIfInBounds k=(a.eraseIdx k).toArray;rw[Xy]
 .have:=vN xs k;lia
def yg:R2:=λx y H Q=>∃l b xs zs,x=.ref l/\y=.ref b/\H l=aa (.lst xs)/\H b=aa (.lst zs)/\⇑xs+⇑zs<=bc /\∀p,H p=ae->Q (.ref p) (upd H p (.lst (xs++zs)))
def MR:iQ X (binaryOp .Add) yg:=by
 intro π s σ H x y v u Q I m j h;obtain⟨l,b,xs,zs,rfl,rfl,A,F,U,q⟩:=h;cases m;cases j;obtain⟨z,d,n,r,Y,e⟩:=I.DB A;obtain⟨L,a,O,o,p,K⟩:=I.DB F;show PySem.P.add_list e K ?_ (by rw[cf,cf];lia);have J:d.toArray++a.toArray=(d++a).toArray:=by simp
 rw[J];show⟨.ref _,_,I.yh (t':=s.toks) (r.append o) (by rw[cu];lia),rfl,q _ I.fresh⟩
end
section
variable{Ω:bb}{w:az}{A:bo}{E:Q0c}{s:ak}
set_option maxRecDepth 100000 in
end
end L2
namespace X0
open PySem.W PySem.Calls PyProof.Rows
theorem qY:∀(ns:Q0e) (vs:Q0f),WellAll P h vs (ns.map TM)->gd vs ns:=by
 intro ns
 induction ns with
 |nil =>
  intro vs w;rw[ja] at w;cases w;show .nil
 |cons n ns ih =>
  intro vs w;rw[bt] at w
  cases w with
  |cons a b =>
   cases a;show .cons _ _ (ih _ b)
theorem IB{l:oy}{n:Nat}(z:l.most=aa n){P:Params}{h:a_}{args:List WData}{vals:Q0f}
  (j:l.row.toRowW.claim.pre args=af) (p:WellAll P h vals args):
  ∃a vs ns,vals=[dg a]/\args=[WData.list (ns.map TM)]/\h.get? a=aa {cls:=.type "list",data:=.seq vs.toArray}/\gd vs ns/\⇑ns<=n:=by
 have v:WShape.hasAll [] args [.list .int]=af:=(pre_splitW j).1;have x:l.pre.holds [] {args:=args}=af:=(pre_splitW j).2;obtain⟨d,r,rfl,F,h2⟩:=hasAllW_cons v;obtain rfl:=hasAllW_nil h2;obtain⟨xs,rfl,A⟩:=hasW_list F;obtain⟨ns,rfl⟩:=items_int A;have hlen:⇑ns<=n:=by
  unfold OpenLaw.pre at x;have o:(WTm.not (.lt (.lit (.int (n:Int))) (.len (.arg 0)))).holds [] {args:=[.list (ns.map .int)]}=af:=by have o:=(holds_andW x).1;rw[z] at o;show o
  have m:=condW_of o (w_not (w_lt w_lit (w_len_list (w_arg rfl))));rw[bp] at m;show Nat.le_of_not_lt λq=>?_;have y:(n:Int)<((⇑ns:Nat):Int):=∅
  first
   | (rw[Zx y] at m;show Zw m ⋯)
   | (simp at m;lia)
 cases p with
 |cons w1 w2 =>
  cases w2
  cases w1 with
  |list ho hall=>show⟨_,_,ns,rfl,rfl,ho,qY ns _ hall,hlen⟩
def IC(l:oy)(args:List WData):l.row.toRowW.claim.post args (.bool af) args=af :=
 postW_of (r:=l.row.toRowW) (X:=(af == af))
  (show Tz [] (.bool af) .bool=af by first|rfl|decide|simp[Tz,WShape.arms,WShape.armsAll])
  (show(WTm.eq .res (.lit (.bool af))).value [] {args:=args,res:=aa (.bool af),after:=args}=aa (.bool (af == af)) from w_eq_bool (w_res rfl) w_lit) rfl
theorem AH{l:oy}{n:Nat}{q:bb}{loose:Q0g}{K:(ai->Option aj)->a_->Prop}{YP:az->a_->Prop}{d:DefRec}
  (U:l.most=aa n) (A:d.params.defaults=[])
  (call:∀(w:az) (s₀ h:ak) (mg mb:Q0d) (p:ah) (o:ay) (x v doc:aj) (a:ah) (vs:Q0f) (ns:Q0e),
   Ground q loose [] K w s₀ mg mb h.heap->YP w h.heap ->
   h.heap.get? p=aa o->o.data=.func (docDef d.name d.params d.body d.scope x v doc)->h.heap.CodeRec v d.name->mg d.name=aa (.ref p) ->
   h.heap.get? a=aa {cls:=.type "list",data:=.seq vs.toArray}->gd vs ns->⇑ns<=n->h.gens=#[] ->
   ia (aw l.prog w) callerA (.call (.ref p) ⟨[.ref a],[]⟩) (λr s'=>r=.ok (.ret (.bool af))/\OldK h.heap s'.heap/\s'.os=h.os/\jw s'.gens) h):
  Af q loose K YP l.row.toRowW d [] (λf vs=>zx f vs):=by
 intro w s₀ h mg mb G Y p o x v doc dV kV ho hd F J z hg args vals as j I L y Z;obtain rfl:dV=.none:=Dflts.none J A;obtain rfl:kV=.none:=Dflts.noKw J;obtain⟨a,vs,ns,rfl,rfl,m,hints,hlen⟩:=IB U j y;show enter_call (qz (call w s₀ h mg mb p o x v doc a vs ns G Y ho (fd_plain hd) F z m hints hlen hg) λr s' O=>?_);obtain⟨rfl,h2,h3,h4⟩:=O;show⟨.inl ⟨.bool af,.bool af,[],rfl,λ_=>rfl,.bool af,IC l _,λ_=>⟨sy,λ_ X=>(nomatch X)⟩⟩,h2,h3,h4⟩
section
variable{Ω:bb}{w:az}{A:bo}{E:Q0c}{s:ak}{K:aq}
def sY(h:a_):a_:={h with objs:=#[]}
theorem nG(h:a_)(b:ah):(sY h).get? b=ae:=by
 cases e:(sY h).get? b with
 |none=>rfl
 |some o=>show Zw (bj e) (Nat.not_lt_zero _)
def ledger(h:a_)(L d:ah):List (ah×ay):=(ck h.objs.size).filterMap λa=>if a=L\/a=d then ae else(h.get? a).map λo=>(a,o)
def fP:(a,o)∈ledger h L d↔a≠L/\a≠d/\h.get? a=aa o:=by
 unfold ledger;rw[nk]
 constructor
 .rintro ⟨b,_,e⟩;split at e
  .cases e
  .rename_i hb;obtain⟨n,ho,m⟩:=v_.mp e;cases m;show⟨λq=>hb (.inl q),λq=>hb (.inr q),ho⟩
 .rintro ⟨l,j,ho⟩;show⟨a,nj.mpr (bj ho),?_⟩;rw[Zz (show ¬ (a=L\/a=d) from λq=>q.elim l j),ho]<;>rfl
def MS(n:h.Ns L m):Fr (sY h) L h m :=
 ⟨n,λb o e=>(by rw[nG] at e;cases e),g_ _⟩
end
end X0
namespace L2
open PySem.Spec PyProof.Rows
theorem l9:∀{vs:Q0f} {ns:Q0e},gd vs ns->θ (ns.map V.int) vs
 |_,_,.nil=>.nil
 |_,_,.cons n t h=>.cons ⟨t,rfl⟩ (l9 h)
def Only(H:Hp):Prop:=∀b,H b=ae\/(∃o xs,H b=aa (.sR o (.lst xs))) \/∃q,H b=aa (.FI q)
structure TabsOk (K:aq) (q:bb):Prop where
 nd:((dM K).map (·.2.2)).Nodup
 rc:∀t∈dM K,∃e,(recsOf q).find? (λe=>e.name == t.1)=aa e
theorem DC{K:aq}{t:ai×ah×ah}(h:t∈dM K):zy K t.1=aa (t.2.1,t.2.2):=by
 obtain⟨x,_,e⟩:=nk.mp h
 cases q:zy K x with
 |none=>rw[q] at e;cases e
 |some p=>rw[q] at e;cases e;show q
def DD(K:aq)(a:ah)(u:Option HO):Hp:=λb=>if b=a then u else((dM K).find? λt=>t.2.2 == b).map λt=>.FI (QY t.1)
theorem ID{l:List (ai×ah×ah)}(nd:(l.map (·.2.2)).Nodup){t:ai×ah×ah}(h:t∈l):l.find? (λu=>u.2.2 == t.2.2)=aa t:=by
 induction l with
 |nil=>cases h
 |cons u l ih =>
  rw[bt,md] at nd;rw[mf];by_cases e:(u.2.2 == t.2.2)=af
  .rw [e];rcases bh.1 h with z|z
   .rw [z]
   .exact Zw (fz.2 ⟨t,z,(eq_of_beq e).symm⟩) nd.1
  .rw [Yn] at e;rw[e];rcases bh.1 h with z|z
   .rw [z,beq_self_eq_true] at e;cases e
   .exact ih nd.2 z
theorem MT{P:bb}{w:az}{K:aq}{mg mb:Q0d}{CX:C6}{k:Nat}{fa a:ah}{fd:ft}{x:ai}{sp:Sp}{j:ak}{vs:Q0f}{ns:Q0e}
  (KX:K.In j.heap) (hns:j.heap.Ns gw mg) (X:j.heap.Ns builtinsNs mb) (hbb:∀x:ai,x ≠ "__name__"->mb x=bootBuiltins x) (hlim:j.heap.NoLimit)
  (hbm:∃bm O,mg "__builtins__"=aa (.ref bm)/\bm≠builtinsNs/\j.heap.get? bm=aa O/\O.cls=.type "module" /\O.dict=aa builtinsNs/\O.data=.plain)
  (L:∀t∈dM K,CodeHd j.heap t.2.1 t.2.2/\j.heap.get? t.2.2=aa (tabObj #[])) (hnd:((dM K).map (·.2.2)).Nodup) (hnt:noTabs K=af) (hg:j.gens=#[])
  (ha:j.heap.get? a=aa {cls:=.type "list",data:=.seq vs.toArray}) (hi:gd vs ns) (hl:⇑ns<=bc) (hr:eQ k callerA)
  (F:∀ω:a_,K.In ω->ω.Ns gw mg->kN P w K mg ω CX k fa fd [x] sp) (Y:∀(s:ak) (u:aj),pk s fd ⟨[u],[]⟩ [(x,u)])
  (hsp:∀H:Hp,Only H->eJ K H a (ns.map V.int)->sp [.ref a] H (λv _=>v=.bl af) λ_ _ _=>False)
  (ui:∀H e s',CX [] H j (λ_ _ _=>False) e s'->False):
  ia (aw P w) callerA (.call (.ref fa) ⟨[.ref a],[]⟩) (λr s'=>r=.ok (.ret (.bool af))/\OldK j.heap s'.heap/\s'.os=j.os/\jw s'.gens) j:=by
 have rv:=l9 hi;have lenV:=⇑hi;have neA:∀t∈dM K,t.2.2≠a:=λt l z=>by have e:=(L t l).2;rw[z,ha] at e;cases e
 -- a tracked address: the script or a table
 have core:∀u:Option HO,(u=ae \/∃o xs,u=aa (.sR o (.lst xs)))->eJ K (DD K a u) a (ns.map V.int)->(∀v,u=aa v->bZ P w (DD K a u) j.heap a v)->(u≠ae->K.lookup a=ae) ->
   ia (aw P w) callerA (.call (.ref fa) ⟨[.ref a],[]⟩) (λr s'=>r=.ok (.ret (.bool af))/\OldK j.heap s'.heap/\s'.os=j.os/\jw s'.gens) j:=by
  intro u hu hS yf hK;obtain⟨H,eH⟩:∃H,DD K a u=H:=⟨_,rfl⟩;have uG:∀t∈dM K,H t.2.2=aa (.FI (QY t.1)):=λt l=>by rw[<- eH];unfold DD;rw[Zz (neA t l),ID hnd l];rfl
  have Z:∀b,H b=ae\/(b=a/\H b=u/\u≠ae) \/∃t∈dM K,t.2.2=b/\H b=aa (.FI (QY t.1)):=λb=>by
   by_cases X:b=a
   .cases hu2:u with
    |none=>left;rw[<- eH];unfold DD;rw[Z_ X,hu2]
    |some v=>right;left;show⟨X,?_,by simp⟩;rw[<- eH];unfold DD;rw[Z_ X,hu2]
   .cases q:(dM K).find? λt=>t.2.2 == b with
    |none=>left;rw[<- eH];unfold DD;rw[Zz X,q];rfl
    |some t =>
     have I:t.2.2=b:=eq_of_beq (List.find?_some (p:=λt:ai×ah×ah=>t.2.2 == b) q);have A:=List.mem_of_find?_eq_some q;show .inr (.inr ⟨t,A,I,by rw[<- I];show uG t A⟩)
  rw[eH] at hS yf;have hO:Only H:=λb=>by
   rcases Z b with z|⟨_,z,_⟩|⟨t,_,_,z⟩
   .exact .inl z
   .rcases hu with y|⟨o,xs,y⟩
    .exact .inl (z.trans y)
    .exact .inr (.inl ⟨o,xs,z.trans y⟩)
   .exact .inr (.inr ⟨_,z⟩)
  have hok:nA P w H j.heap:=λb v e=>by
   rcases Z b with z|⟨rfl,z,_⟩|⟨t,l,rfl,z⟩
   .rw [z] at e;cases e
   .exact yf v (by rw[<- z];show e)
   .rw [z] at e;cases e;show⟨#[],(L t l).2,trivial,λν cv e=>by cases e⟩
  -- an object that is neither the script nor a table is not tracked
  have MU:∀{b:ah} {o:ay},j.heap.get? b=aa o->o.cls≠.none->(∀ys n,o.data≠.seq ys n)->H b=ae:=λ{b o} e hc hs=>by
   rcases Z b with z|⟨rfl,_,_⟩|⟨t,l,rfl,z⟩
   .exact z
   .rw [ha] at e;cases e;show Zw rfl (hs _ _)
   .rw [(L t l).2] at e;cases e;show Zw rfl hc
  have nsN:∀{b:ah} {o:ay} {es:Array DictEntry} {ep:Nat},j.heap.get? b=aa o->o.data=.dict es ep->H b=ae:=λ{b o es ep} e d=>by
   rcases Z b with z|⟨rfl,_,_⟩|⟨t,l,rfl,z⟩
   .exact z
   .rw [ha] at e;cases e;cases d
   .rw [(L t l).2] at e;cases e;cases d
  have rJ:∀{b:ah} {o:ay},j.heap.get? b=aa o->H b=ae->(uL j.heap H).get? b=aa o:=λe n=>LU e n;have J:∀{b:ah} {m:Q0d},j.heap.Ns b m->(uL j.heap H).Ns b m:=λ{b m} ⟨o,es,ep,e,d,r⟩=>⟨o,es,ep,rJ e (nsN e d),d,r⟩;have xo:K.In (uL j.heap H):=λb o e=>rJ (KX b o e) (by
   rcases Z b with z|⟨rfl,_,z⟩|⟨t,l,rfl,z⟩
   .exact z
   .rw [hK z] at e;cases e
   .have A:=KX _ o e;rw[(L t l).2] at A;cases A;have h2:=ko.mp hnt (t.2.2,tabObj #[]) (PySem.W.mem_of_lookupK e);show Zw (show ag=af from h2) bg)
  have hM:Mod K mg (uL j.heap H):=⟨xo,J hns,⟨mb,J X,hbb⟩,let ⟨mc,h1,h2⟩:=hlim;⟨mc,J h1,h2⟩,
   let ⟨bm,O,b1,b2,b3,b4,b5,b6⟩:=hbm;⟨bm,O,b1,b2,rJ b3 (MU b3 (by rw[b4];nofun) λys n z=>by rw[b6] at z;cases z),b4,b5,b6⟩⟩
  have Kg:QZ K (uL j.heap H) H:=λt l=>by obtain⟨o,vs',file,tf,flags,tg,inF,text,tt,I,r1,r2,r3⟩:=(L t l).1;show⟨⟨o,vs',file,tf,flags,tg,inF,text,tt,rJ I (MU I (by rw[r1];nofun) λys n z=>by rw[r2] at z;cases z),r1,r2,r3⟩,uG t l⟩
  have e0:RC P w K mg (uL j.heap H) callerA [] j H:=⟨rfl,hM,λb o e=>QX e,jm (HP _ _),trivial,λb X=>Zw (show b∈([]:List ah) from X) (by simp),hok,.of_eq hg,Kg⟩;show qz ((F _ xo (J hns)).run callerA [] j H ⟨[.ref a],[]⟩ [.ref a] [.ref a] _ _ hr e0 (Y j (.ref a)) (.cons rfl .nil) (hsp H hO hS)) λr s' h=>?_
  cases r with
  |error e=>show(ui H e s' h).elim
  |ok fl =>
   cases fl with
   |next=>show ip h
   |brk=>show ip h
   |cont=>show ip h
   |ret v =>
    obtain⟨y,H',os,bare,un,U,r',q⟩:=h;have q':y=.bl af:=q;subst q';obtain rfl:v=vd af:=r';have old:∀b o,j.heap.get? b=aa o->asItWas j.heap s'.heap b o /\∃o',s'.heap.get? b=aa o':=λb o e=>by
     rcases Z b with z|⟨rfl,z,hne⟩|⟨t,l,rfl,z⟩
     .have k:=un.keep b o e z (by intro z;show Zw (show b∈([]:List ah) from z) (by simp)) (by simp);show⟨.inl k,o,k⟩
     .rcases hu with y|⟨O,xs,y⟩
      .exact Zw y hne
      .have z1:=z.trans y;have z2:=un.qX b O _ z1;obtain⟨I,_⟩:=hok b _ z1;obtain⟨A,_⟩:=U b _ z2;rw[e] at I;cases I;show⟨.inl A,o,A⟩
     .obtain ⟨ps,A,_⟩:=U _ _ (un.pP _ _ z);have I:=(L t l).2;rw[e] at I;cases I;show⟨.inr (.inl ⟨((L t l).1.tab (L t l).2).isCodeTable,rfl,#[],ps,rfl,by rw[A,Array.empty_append]⟩),_,A⟩
    show⟨rfl,⟨λb o e=>(old b o e).1,λb o e=>(old b o e).2⟩,os,bare⟩
 cases hk:K.lookup a with
 |some o =>
  -- the script is one of the module's own objects
  have e:=KX a o hk;rw[ha] at e;cases e;show core ae (.inl rfl) (.inr ⟨_,vs.toArray,_,hk,rfl,rfl,rfl,by rw[cf,lenV];show hl,↑rv⟩) (λv z=>by cases z) λz=>Zw rfl z
 |none =>
  show core (aa (.sR {cls:=.type "list",data:=.seq vs.toArray} (.lst (ns.map V.int)))) (.inr ⟨_,_,rfl⟩) (.inl (.inr ⟨{cls:=.type "list",data:=.seq vs.toArray},Z_ rfl⟩)) (λv z=>?_) λ_=>hk;cases z;show⟨ha,by rw[bp];show hl,vs,_,rv,ha⟩
abbrev KOf{K:aq}{h:a_}(_:K.In h):aq:=K
theorem RP{l:oy}{n k:Nat}{q:bb}{loose:Q0g}{XP:(ai->Option aj)->a_->Prop}{YP:az->a_->Prop}{d:DefRec}{K:Params->aq}{CX:az->C6}{sp:az->Sp}{x:ai}
  (Z:l.most=aa n) (A:n<=bc) (J:d.params.defaults=[]) (X:eQ k callerA)
  (hY:∀(w:az) (h:a_),YP w h->(K w.params).In h)
  (L:∀w:az,TabsOk (K w.params) q) (z:∀w:az,noTabs (K w.params)=af)
  (F:∀(w:az) (mg:Q0d) (p:ah) (h:a_),(K w.params).In h->h.Ns gw mg->mg d.name=aa (.ref p) ->
   ∃fd:ft,(∀(s:ak) (u:aj),pk s fd ⟨[u],[]⟩ [(x,u)]) /\
    ∀ω:a_,(K w.params).In ω->ω.Ns gw mg->kN l.prog w (K w.params) mg ω (CX w) k p fd [x] (sp w))
  (y:∀(w:az) (H:Hp) (a:ah) (ns:Q0e),⇑ns<=n->Only H->eJ (K w.params) H a (ns.map V.int)->sp w [.ref a] H (λv _=>v=.bl af) λ_ _ _=>False)
  (U:∀(w:az) (H:Hp) (s:ak) (e:aj) (s':ak),CX w [] H s (λ_ _ _=>False) e s'->False):
  Af q loose XP YP l.row.toRowW d [] (λf vs=>zx f vs):=by
 show X0.AH Z J λw s₀ j mg mb p o pm cd doc a vs ns G Y ho hd hcd I m hints hlen hg=>?_;have KX:=hY w _ Y;obtain⟨fd,hb,hF⟩:=F w mg p _ KX G.T.g I;have hT:∀t∈dM (K w.params),CodeHd j.heap t.2.1 t.2.2/\j.heap.get? t.2.2=aa (tabObj #[]):=λt O=>by obtain⟨e,he⟩:=(L w).rc t O;show PySem.W.tab_of G.T KX he (DC O)
 show MT KX G.T.g G.T.b G.T.builtins G.T.nolimit G.T.bmain hT (L w).nd (z w) hg m hints (cy hlen A) X hF hb (λH hO hS=>y w H a ns hlen hO hS) λH e s'=>U w H j e s'
noncomputable def oO(s:bq):Arguments:=match s with
 |.FunctionDef _ a _ _ _ _ _ _ _ _=>a
 |_=>{posonlyargs:=[],args:=[],vararg:=ae,kwonlyargs:=[],kw_defaults:=[],kwarg:=ae,defaults:=[]}
noncomputable def dN(s:bq):List bq:=match s with
 |.FunctionDef _ _ b _ _ _ _ _ _ _=>b
 |_=>[]
noncomputable def aO(s:bq):fq:=match s with
 |.FunctionDef _ _ _ _ _ _ sc _ _ _=>sc
 |_=>{kind:=.function,names:=[],isGenerator:=ag,isCoroutine:=ag}
abbrev rK:C6:=λ_ _ _ _ _ _=>False
abbrev E0:XK:=λ_ _ _=>False
def Px:Passes rK X E0:=λ_ _ _ _ _ _ _ h=>h.elim
structure U8 (K:aq) (x qual:ai) (st:bq) (f:ah) (fd:ft):Prop where
 ex:∃(oc:aj) (od:Option ah) (kV doc pm:aj) (an:Option ah) (cdv ct:aj) (osl:Array (Option aj)),
  fd=fnOf x qual (oO st) (dN st) (aO st) .none kV doc pm an cdv ct/\K.lookup f=aa ⟨oc,od,.func fd,osl⟩/\codeIn K cdv qual=af
 kp:keepIn K (.ref f)=af
section
variable{P:bb}{w:az}{K:aq}{mg:Q0d}{ω:a_}
theorem U8.ok{x qual:ai}{st:bq}{f:ah}{fd:ft}{N ps:Q0g}{k:Nat}{sp:Sp}(F:U8 K x qual st f fd)(S:eD N ps (aO st))(len:∀vs H Q E,sp vs H Q E->⇑vs=⇑ps)
  (d:∀(a:aj) (A:bo) (outer:List cx) (s:ak) (H:Hp) (vs:List V) (Q:VK) (E:XK),eQ k (A.deeper (envOfC qual (aO st) ↥s f a))->sp vs H Q E ->
   ∃t,y9 (kO rK P w K mg ω N qual (aO st) f a A outer s H E).LY (dN st) t/\t {nx:=λ_ H'=>Q .non H',rt:=Q} (start N vs) H):kN P w K mg ω rK (k+1) f fd ps sp:=by
 obtain⟨y,v,kV,doc,p,z,a,ct,m,rfl,n,l⟩:=F.ex;show U3 n l S len λA outer s H vs Q E o j=>?_;obtain⟨t,h,q⟩:=d a A outer s H vs Q E o j;show⟨t,h.LY,q⟩
theorem X1{x qual:ai}{st:bq}{f:ah}{n:aj}{m j:Option ah}{d:Array (Option aj)}{kV doc h a ct:aj}(l:K.lookup f=aa ⟨n,m,.func (fnOf x qual (oO st) (dN st) (aO st) .none kV doc h j a ct),d⟩)
  (c:codeIn K a qual=af) (k:keepIn K (.ref f)=af):U8 K x qual st f (fnOf x qual (oO st) (dN st) (aO st) .none kV doc h j a ct):=⟨⟨n,m,kV,doc,h,j,a,ct,d,rfl,l,c⟩,k⟩
end
def ξ(H H':Hp):Prop:=∀b o,H b=aa o->H' b=aa o
def ξ.refl(H:Hp):ξ H H:=λ_ _ h=>h
def ξ.trans{H j d:Hp}(a:ξ H j)(b:ξ j d):ξ H d:=λc o h=>b c o (a c o h)
theorem ξ.free{H H':Hp}(e:ξ H H'){l:ah}(h:H' l=ae):H l=ae:=by
 cases q:H l with
 |none=>rfl
 |some o =>
  rw[e l o q] at h;cases h
section
variable{κ:Type}[DecidableEq κ]
def kP(a:List (κ×V))(k:κ):Option V:=(a.find? λd=>Zv (d.1=k)).map (·.2)
def putK(d:List (κ×V))(k:κ)(v:V):List (κ×V) :=
 if(d.any λa=>Zv (a.1=k))=af then d.map (λa=>if a.1=k then(a.1,v) else a) else d++[(k,v)]
def sZ{p:κ×V}{r:List (κ×V)}{k:κ}(e:p.1=k):kP (p::r) k=aa p.2:=by simp[kP,mf,e]
def tB{p:κ×V}{r:List (κ×V)}{k:κ}(e:¬ p.1=k):kP (p::r) k=kP r k:=by simp[kP,mf,e]
theorem tD(k:κ):∀a:List (κ×V),(a.any λd=>Zv (d.1=k))=(kP a k).isSome
 |[]=>rfl
 |p::r=>by
  rw[jr];by_cases e:p.1=k
  .erw[sZ e,Zx e,Yk,Option.isSome_some]
  .rw [tB e,Zy e,qo];show tD k r
def qN(a:List (κ×V))(k:κ)(v:V):⇑(putK a k v)<=⇑a+1:=by
 unfold putK;split
 .rw [bp];lia
 .rw [cu,cn,jn];lia
def MV{a:List (κ×V)}{k:κ}(v:V)(h:kP a k=ae):putK a k v=a++[(k,v)]:=by unfold putK;rw[tD,h];show Zz ⋯
theorem pO.IE(r:pO o u):o.isSome=u.isSome:=by
 cases o with
 |none=>cases u with
  |none=>rfl
  |some _=>show(show False from r).elim
 |some _=>cases u with
  |none=>show(show False from r).elim
  |some _=>rfl
theorem pO.getD{o:Option V}{u:Option aj}{d:V}{d':aj}(r:pO o u)(rd:Ψ d d'):Ψ (o.getD d) (u.getD d'):=by
 cases o with
 |none=>cases u with
  |none=>show rd
  |some _=>show(show False from r).elim
 |some _=>cases u with
  |none=>show(show False from r).elim
  |some _=>show r
theorem KV.val{d:List (κ×V)}{vs:List (κ×aj)}(r:KV d vs)(k:κ):pO (kP d k) (valueAt vs k):=by
 unfold KV at r
 induction r with
 |nil=>show kb
 | @cons p q ps qs h t ih =>
  obtain⟨j,h2⟩:=h;by_cases e:p.1=k
  .have a:q.1=k:=j.symm.trans e;have b:valueAt (q::qs) k=aa q.2:=by simp[valueAt,mf,a]
   rw[sZ e,b];show h2
  .have a:¬ q.1=k:=λz=>e (j.trans z);have b:valueAt (q::qs) k=valueAt qs k:=by simp[valueAt,mf,a]
   rw[tB e,b];show ih
theorem KV.any{d:List (κ×V)}{vs:List (κ×aj)}(r:KV d vs)(k:κ):(d.any λa=>Zv (a.1=k))=vs.any λa=>Zv (a.1=k):=by
 unfold KV at r
 induction r with
 |nil=>rfl
 |cons h t ih=>rw[jr,jr,ih,h.1]
theorem KV.repl(r:KV χ vs)(k:κ)(j:Ψ y u):
  KV (χ.map λa=>if a.1=k then(a.1,y) else a) (vs.map λa=>if a.1=k then(a.1,u) else a):=by
 unfold KV at r ⊢
 induction r with
 |nil=>show .nil
 | @cons p q ps qs h t ih =>
  rw[bt,bt];show .cons ?_ ih;obtain⟨d,h2⟩:=h;by_cases e:p.1=k
  .rw [Z_ e,Z_ (d.symm.trans e)];show⟨d,j⟩
  .rw [Zz e,Zz (λz=>e (d.trans z))];show⟨d,h2⟩
def KV.put(r:KV χ vs)(k:κ)(a:Ψ y u):KV (putK χ k y) (stored vs k u):=by
 unfold putK stored;rw[r.any k];by_cases e:(vs.any λd=>Zv (d.1=k))=af
 .rw [Z_ e,Z_ e];show r.repl k a
 .rw [Zz e,Zz e];show Ur r ⟨rfl,a⟩
def KV.length{a:List (κ×V)}{vs:List (κ×aj)}(r:KV a vs):⇑a=⇑vs:=vj r
end
theorem MW(r:Ψ (kV k) u):(aT P w).is k u=af:=by
 cases k with
 |inl i=>obtain⟨t,e⟩:=(show ∃t,u=ie i t from r);subst e;show z5 P w i t
 |inr x=>obtain⟨t,e⟩:=(show ∃t,u=vc x t from r);subst e;show z6 P w x t
theorem vP:∀{ks:List Key} {a:Q0f},θ (ks.map kV) a->ItemsAre (aT P w) ks a
 |[],_,r=>by rw[ja] at r;cases r;show .nil
 |k::ks,_,r=>by
  rw[bt] at r
  cases r with
  |cons h t=>show .cons (MW h) (vP t)
abbrev KT(H:Hp):List (List Key×V)->List (List Key×ah×aj)->Prop:=jh λp q=>p.1=q.1/\H q.2.1=aa (.tup (p.1.map kV))/\Ψ p.2 q.2.2
theorem KT.val{H:Hp}{d:List (List Key×V)}{xs:List (List Key×ah×aj)}(r:KT H d xs)(k:List Key):pO (kP d k) ((atKey xs k).map (·.2)):=by
 induction r with
 |nil=>show kb
 | @cons p q ps qs h t ih =>
  obtain⟨j,_,h2⟩:=h;by_cases e:p.1=k
  .have a:q.1=k:=j.symm.trans e;have b:atKey (q::qs) k=aa q.2:=by simp[atKey,mf,a]
   rw[sZ e,b];show h2
  .have a:¬ q.1=k:=λz=>e (j.trans z);have b:atKey (q::qs) k=atKey qs k:=by simp[atKey,mf,a]
   rw[tB e,b];show ih
theorem KT.repl(r:KT H χ xs)(k:List Key)(j:Ψ y u):
  KT H (χ.map λd=>if d.1=k then(d.1,y) else d) (xs.map (putAt k u)):=by
 induction r with
 |nil=>show .nil
 | @cons p q ps qs h t ih =>
  rw[bt,bt];show .cons ?_ ih;obtain⟨a,h2,l⟩:=h;unfold putAt;by_cases e:p.1=k
  .rw [Z_ e,Z_ (a.symm.trans e)];show⟨a,h2,j⟩
  .rw [Zz e,Zz (λz=>e (a.trans z))];show⟨a,h2,l⟩
theorem KT.put(r:KT H χ xs)(k:List Key)(h:H b=aa (.tup (k.map kV)))(a:Ψ y u):
  KT H (putK χ k y) (storedH xs k b u):=by
 have e:(χ.any λd=>Zv (d.1=k))=(atKey xs k).isSome:=by rw[tD,(r.val k).IE,Option.isSome_map]
 unfold putK storedH;rw[e];by_cases q:(atKey xs k).isSome=af
 .rw [Z_ q,Z_ q];show r.repl k a
 .rw [Zz q,Zz q];show Ur r ⟨rfl,h,a⟩
def KT.keeps(r:KT H χ xs)(a:∀b ys,H b=aa (.tup ys)->H' b=aa (.tup ys)):KT H' χ xs :=
 Paired.WV r λ_ _ z=>⟨z.1,a _ _ z.2.1,z.2.2⟩
section
variable{P:bb}{w:az}{H:Hp}{h:a_}{a:ah}
def U9(ok:nA P w H h)(e:Rd H a u):bZ P w H h a u:=e.ok ok
def MX(ok:nA P w H h)(e:Rd H a (.dK χ)):⇑χ<=bc/\(a == sysModules)=ag /\∃vs,KV χ vs/\h.DictOf (aT P w) a vs :=
 show bZ P w H h a (.dK χ) from U9 ok e
def Pw(ok:nA P w H h)(e:H a=aa (.dK χ)):⇑χ<=bc/\(a == sysModules)=ag /\∃vs,KV χ vs/\h.DictOf (aT P w) a vs:=MX ok (.inl e)
def DF(ok:nA P w H h)(e:H a=aa (.tup (ks.map kV))):(tupleKind (aT P w)).is h ks a:=by obtain⟨_,d,r,⟨o,l,h2,n,j⟩,_⟩:=(show bZ P w H h a (.tup (ks.map kV)) from ok a _ e);show⟨o,d.toArray,n,l,h2,j,by simpa using vP r⟩
theorem MY(ok:nA P w H h)(e:Rd H a (.dT χ)):⇑χ<=bc/\(a == sysModules)=ag /\
  ∃xs,KT H χ xs/\h.DictOfH (tupleKind (aT P w)) a xs:=by
 obtain⟨z,y,xs,r,o,F,I,A,h2,v,n,j⟩:=(show bZ P w H h a (.dT χ) from U9 ok e);show⟨z,y,xs,r,o,F,I,A,h2,v,n,λx d=>?_,j⟩;have all:∀{l:List (List Key×V)} {m:List (List Key×ah×aj)},KT H l m ->∀x∈m,(tupleKind (aT P w)).is h x.1 x.2.1:=by
  intro l m q
  induction q with
  |nil=>intro x d;show nomatch d
  | @cons p q ps qs hq t ih =>
   intro x d;rcases bh.mp d with e|d
   .subst e;show DF ok (by rw[<- hq.1];show hq.2.1)
   .exact ih x d
 show all r x d
theorem Pu(ok:nA P w H h)(e:H a=aa (.dT χ)):⇑χ<=bc/\(a == sysModules)=ag /\
  ∃xs,KT H χ xs/\h.DictOfH (tupleKind (aT P w)) a xs:=MY ok (.inl e)
end
def IF(H:Hp)(a:ah)(y:V)(r:Option V):Prop :=
 (∃d k,Rd H a (.dK d)/\y=kV k/\r=kP d k) \/∃d k b,Rd H a (.dT d)/\y=.ref b/\H b=aa (.tup (k.map kV))/\r=kP d k
def MZ(H:Hp)(a:ah)(y v:V)(H':Hp):Prop :=
 (∃d k,H a=aa (.dK d)/\y=kV k/\⇑d<bc/\H'=upd H a (.dK (putK d k v))) \/
 ∃d k b,H a=aa (.dT d)/\y=.ref b/\H b=aa (.tup (k.map kV))/\⇑d<bc/\H'=upd H a (.dT (putK d k v))
def IF.k{H:Hp}{a:ah}{d:List (Key×V)}{k:Key}(e:H a=aa (.dK d)):IF H a (kV k) (kP d k):=.inl ⟨d,k,.inl e,rfl,rfl⟩
def MZ.k{H:Hp}{a:ah}{d:List (Key×V)}{k:Key}{v:V}(e:H a=aa (.dK d))(h:⇑d<bc):MZ H a (kV k) v (upd H a (.dK (putK d k v))):=.inl ⟨d,k,e,rfl,h,rfl⟩
variable{X:Cx}
section
variable{π:Q0b}{σ:St}{H:Hp}{s:ak}{a:ah}{y v:V}{u r:aj}{o:Option V}{A:bo}{E:Q0c}
def Φ.big(I:Φ X π σ H s):sysModules<↥s:=by have h:gw<↥s:=(I.mod.glob.keeps I.bk).lt;show Xa ⋯ h
theorem IG(F:A.units+1<fv)(I:Φ X π σ H s)(g:IF H a y (aa v))(q:Ψ y u)(h:∀d s',Φ X π σ H s'->Ψ v d->Q d s'):
  av (aw X.Ω X.w) A (getItem (.ref a) u) Q E s:=by
 rcases g with⟨x,k,e,n,l⟩|⟨x,k,b,e,n,L,l⟩
 .subst n;obtain⟨z,K,vs,rel,dd⟩:=MX I.hok e;obtain⟨d,hw,j⟩:=pO.some_of (v:=v) (o:=valueAt vs k) (by rw[l];show rel.val k);show wpAny_getItem_of (MW q) dd.mapOf hw (h d _ (I.tok _) j)
 .subst n;cases (show u=dg b from q);obtain⟨z,K,xs,rel,dd⟩:=MY I.hok e;obtain⟨d,hw,j⟩:=pO.some_of (v:=v) (o:=(atKey xs k).map (·.2)) (by rw[l];show rel.val k);obtain⟨p,J,m⟩:=v_.mp hw;show wpAny_getItem_heap (Sq F) (DF I.hok L) dd J ?_;rw[m];show h d _ (I.tok _) j
theorem FZ(I:Φ X π σ H s)(d:Mut (H a))(h:jl a s.heap h')(j:∃q,h'.get? a=aa q)(new:bZ X.Ω X.w (upd H a ob) h' a ob):
  Φ X π σ (upd H a ob) {s with heap:=h',toks:=t' } :=
 I.write (x:=a) (e:=a) d (.inl rfl) (λb q l z=>(h.2 b l).trans z) j new
theorem X2(z:⇑χ<=bc)(d:(a == sysModules)=ag)(rel:KV χ vs)(dd:h'.DictOf (aT P w) a vs):
  bZ P w H' h' a (.dK χ):=⟨z,d,vs,rel,dd⟩
theorem IH(Z:A.units+1<fv)(I:Φ X π σ H s)(g:MZ H a y v H')(L:Ψ y u)(O:Ψ v r)(h:∀s',Φ X π σ H' s'->Q () s'):
  av (aw X.Ω X.w) A (setItem (.ref a) u r) Q E s:=by
 rcases g with⟨j,k,e,J,l,K⟩|⟨j,k,b,e,J,Y,l,K⟩
 .subst J K;obtain⟨z,F,vs,rel,dd⟩:=Pw I.hok e;have n:⇑vs<=bc:=by rw[<- ⇑rel];show z
  have x:⇑(putK j k v)<=bc:=by have:=qN j k v;lia
  show wpAny_setItem_pairs (hsz:=n) (MW L) dd λh' d p=>h _ ?_;have he:∃q,h'.get? a=aa q:=let ⟨q,_,_,m,_⟩:=d;⟨q,m⟩;show FZ I (by rw[e];show kb) p he (X2 x F (rel.put k O) d)
 .subst J K;cases (show u=dg b from L);obtain⟨z,F,xs,rel,dd⟩:=Pu I.hok e;have n:⇑xs<=bc:=by rw[<- vj rel];show z
  have x:⇑(putK j k v)<=bc:=by have:=qN j k v;lia
  show wpAny_setItem_heap (hsz:=n) (Sq Z) (DF I.hok Y) dd λh' d p=>h _ ?_;obtain⟨q,es,ep,m,h2,h3,h4,_,h5⟩:=d;show FZ I (by rw[e];show kb) p ⟨q,m⟩ ⟨x,F,_,(rel.put k Y O).keeps λc ys U=>?_,q,es,ep,m,h2,h3,h4,h5⟩;rw[aL (Rh U e (λz=>nomatch z))];show U
end
def RQ(i:au):Prop:=∀a d,subscripted i ag a d=operate [a,d] (getItem a d)
theorem RR{Ω:bb}{w:az}{A:bo}{E:Q0c}{s:ak}{env:cx}{value slice:au}{ν:ba}{T id:String}{Q:Q0c}
  (v:typeLookup (.type T) "__getitem__"=pure (aa (.builtin id))) (q:RQ slice)
  (h:av (aw Ω w) A (eval value env) (λo l=>av (aw Ω w) A (eval slice env) (λi a=>a.TypeIs o T/\av (aw Ω w) A (getItem o i) Q E a) E l) E s):
  av (aw Ω w) A (eval (.Subscript value slice ν) env) Q E s:=by
 show Be (ir h (λo l n=>ir n (λi a d=>?_) λ_ _ x=>x) λ_ _ x=>x);obtain⟨p,d⟩:=d;unfold subscriptTail;show ao ?_;rw[getitemInPython_of_ne p.not_modules];show ao (um p v ?_);have fin:av (aw Ω w) A (subscripted slice ag o i) (λr j=>av (aw Ω w) A (letTemporaryGo value o r >>= λ_=>pure r) Q E j) E a:=by rw[q o i];show wpAny_operating (ir d (λr j m=>ao (wpAny_letTemporaryGo (ax m))) λ_ _ x=>x)
 first
  |show ax (ao fin)
  |show ao (ax (ao fin))
  |show ao fin
def AI(I:Φ X π σ H s)(g:IF H a y o):s.TypeIs (.ref a) "dict":=by
 rcases g with⟨d,k,e,_,_⟩|⟨d,k,b,e,_,_,_⟩
 .obtain ⟨_,_,vs,_,dd⟩:=MX I.hok e;show dd.typeIs
 .obtain ⟨_,_,xs,_,dd⟩:=MY I.hok e;show dd.typeIs
def Pr(h ty:TE):TE:=λσ H Q=>h σ H λx j=>ty σ j λy d=>∃a v,x=.ref a/\IF d a y (aa v)/\Q v d
def Pq(j ty h:TE):TS:=λD σ H=>h σ H λv n=>j σ n λx m=>ty σ m λy l=>∃a d,x=.ref a/\MZ l a y v d/\D.nx σ d
section
variable{o i e value:au}{ν pos' tpos:ba}{td ty tv:TE}
def RS(p:X.A.units+1<fv)(ho:PE X o td)(z:PE X i ty)(q:RQ i):PE X (.Subscript o i ν) (Pr td ty):=by intro π s σ H Q I h;show RR PySem.F.slot_dict_getitem.lookup q (c6 (ho π s σ H _ I h) λu l ⟨x,O,K,n,q1⟩=>c6 (z π l σ O _ K q1) λZ Y ⟨y,L,d,m,a,v,ex,g,q2⟩=>?_);subst ex;obtain rfl:u=dg a:=n;show⟨AI d g,IG p d g m λU s3 J j=>⟨v,L,J,j,q2⟩⟩
theorem RT(z:X.A.units+1<fv)(ho:PE X o td)(J:PE X i ty)(q:PE X value tv)(F:fg value (aa (.Subscript o i pos')) ν.line X.env=pure ag):
  PS X (.Assign [.Subscript o i pos'] value ν) (Pq td ty tv):=by
 intro π s σ H D I h;show wpAny_Assign_Subscript (c6 (q π s σ H _ I h) λr j ⟨v,H1,U,n,q1⟩=>c6 (ho π j σ H1 _ U q1) λu d ⟨x,Z,O,m,q2⟩=>c6 (J π d σ Z _ O q2) λiv s3 ⟨y,H3,L,l,a,Y,ex,g,p⟩=>?_) F;subst ex;obtain rfl:u=dg a:=m;show IH z L g l n λs4 K=>⟨σ,Y,K,p⟩
end
def M0(h:a_)(a:sysModules<h.objs.size):bZ P w H (h.push {cls:=.type "dict",data:=.dict #[]}) h.objs.size (.dK []) :=
 ⟨g_ _,beq_eq_false_iff_ne.mpr (fj (de a)),[],.nil,a0B h⟩
def X3:TE:=λ_ H Q=>∀p,H p=ae->Q (.ref p) (upd H p (.dK []))
section
variable{ν:ba}
def M1:PE X (.Dict [] [] ν) X3:=λπ s σ H Q I h =>
 wpAny_Dict_empty ⟨.ref ↥s,_,I.laid (a:=↥s) (o:=.dK []) (t':=s.toks) (λ_ _ q=>bu _ q) (bf _) (M0 s.heap I.big),rfl,h _ (I.hok.fresh (bf _))⟩
end
end L2
end
namespace L3
open L2
def VA(K:aq)(H:Hp)(a:ah)(ns:Q0e):Prop:=(∃o,H a=aa (.sR o (.lst (ns.map V.int))))\/eJ K (λ_=>ae) a (ns.map V.int)
def Rw(S:ah->Prop)(H:Hp)(xs:Q0a)(p:ah):Prop:=∃d:List ah,H p=aa (.lst (d.map V.ref))/\d.Nodup/\(∀a∈d,S a)/\d.map H=xs.map λx=>aa (.lst (x.map V.int))
mutual
noncomputable def Dn(K:aq)(S:ah->Prop)(H:Hp):D->V->Prop
 |.non,v=>v=.non
 |.bl b,v=>v=.bl b
 |.int i,v=>v=.int i
 |.str x,v=>v=.str x
 |.tup ds,v=>∃a xs,v=.ref a/\H a=aa (.tup xs)/\aM K S H ds xs
 |.lst ds,v=>∃a xs,v=.ref a/\H a=aa (.lst xs)/\S a/\aM K S H ds xs
 |.i9 ns,v=>∃a,v=.ref a/\VA K H a ns
 |.iR ks ds,v=>∃a xs,v=.ref a/\H a=aa (.dK (ks.zip xs))/\S a/\⇑ks=⇑xs/\aM K S H ds xs
 |.mL q ks ds,v=>∃a o d,v=.ref a/\H a=aa (.dX o d)/\S a/\(d.map (·.1)=ks/\q a o)/\aM K S H ds (d.map (·.2.2))
 |.exc _ a,v=>v=.ref a
 |.rws xs,v=>∃a,v=.ref a/\S a/\Rw S H xs a
noncomputable def aM(K:aq)(S:ah->Prop)(H:Hp):List D->List V->Prop
 |[],xs=>xs=[]
 |d::ds,xs=>∃v r,xs=v::r/\Dn K S H d v/\aM K S H ds r
end
structure Fits (K:aq) (S S':ah->Prop) (H H':Hp):Prop where
 t:∀a xs,H a=aa (.tup xs)->H' a=aa (.tup xs)
 s:∀a ns,VA K H a ns->VA K H' a ns
 l:∀a xs,H a=aa (.lst xs)->S a->H' a=aa (.lst xs)/\S' a
 d:∀a xs,H a=aa (.dK xs)->S a->H' a=aa (.dK xs)/\S' a
 e:∀a o xs,H a=aa (.dX o xs)->S a->H' a=aa (.dX o xs)/\S' a
section
variable{K:aq}{S S':ah->Prop}{H H':Hp}
def Rw.fits(f:Fits K S S' H H')(x:∀ys,H p=aa (.lst ys)->H' p=aa (.lst ys))(h:Rw S H xs p):Rw S' H' xs p:=by
 obtain⟨m,z,h2,v,q⟩:=h;have n:⇑m=⇑xs:=by have:=congrArg qg q;simpa using this
 have j:∀i (d:i<⇑m),H m[i]=aa (.lst ((xs[i]'(n▸d)).map V.int)):=λi d=>by have:=congrArg (λl=>l[i]?) q;simpa[d,n▸d] using this
 show⟨m,x _ z,h2,λa o=>?_,List.ext_getElem ↑n λi d y=>?_⟩
 .obtain ⟨i,d,rfl⟩:=wj o;show(f.l _ _ (j i d) (v _ o)).2
 .rw [bp] at d;rw[Xt,Xt];show(f.l _ _ (j i d) (v _ (sj d))).1
mutual
theorem Dn.fits(f:Fits K S S' H H'):∀(d:D) (v:V),Dn K S H d v->Dn K S' H' d v
 |.non,v,h=>by simpa only[Dn] using h
 |.bl b,v,h=>by simpa only[Dn] using h
 |.int i,v,h=>by simpa only[Dn] using h
 |.str x,v,h=>by simpa only[Dn] using h
 |.tup ds,v,h=>by symm at h ⊢;obtain⟨a,xs,e,q,r⟩:=h;show⟨a,xs,e,f.t a xs q,aM.fits f ds xs r⟩
 |.lst ds,v,h=>by symm at h ⊢;obtain⟨a,xs,e,q,s,r⟩:=h;obtain⟨j,s'⟩:=f.l a xs q s;show⟨a,xs,e,j,s',aM.fits f ds xs r⟩
 |.i9 ns,v,h=>by symm at h ⊢;obtain⟨a,e,q⟩:=h;show⟨a,e,f.s a ns q⟩
 |.iR ks ds,v,h=>by symm at h ⊢;obtain⟨a,xs,e,q,s,l,r⟩:=h;obtain⟨j,s'⟩:=f.d a _ q s;show⟨a,xs,e,j,s',l,aM.fits f ds xs r⟩
 |.mL _ ks ds,v,h=>by symm at h ⊢;obtain⟨a,o,n,e,q,s,l,r⟩:=h;obtain⟨j,s'⟩:=f.e a _ _ q s;show⟨a,o,n,e,j,s',l,aM.fits f ds _ r⟩
 |.exc _ _,v,h=>by simpa only[Dn] using h
 |.rws xs,v,h=>by symm at h ⊢;obtain⟨a,e,s,r⟩:=h;obtain⟨y,m,h2⟩:=r;show⟨a,e,(f.l a _ m s).2,Rw.fits f (λys p=>(f.l a ys p s).1) ⟨y,m,h2⟩⟩
theorem aM.fits(f:Fits K S S' H H'):∀(ds:List D) (xs:List V),aM K S H ds xs->aM K S' H' ds xs
 |[],xs,h=>by simpa only[aM] using h
 |d::ds,xs,h=>by erw[aM] at h ⊢;obtain⟨v,r,e,a,h2⟩:=h;show⟨v,r,e,Dn.fits f d v a,aM.fits f ds r h2⟩
end
mutual
theorem Dn.II:∀(d:D) (v:V),d.uF=af->Dn K S H d v->Dn K S' H d v
 |.non,v,_,h=>by simpa only[Dn] using h
 |.bl b,v,_,h=>by simpa only[Dn] using h
 |.int i,v,_,h=>by simpa only[Dn] using h
 |.str x,v,_,h=>by simpa only[Dn] using h
 |.tup ds,v,hi,h=>by symm at h ⊢;obtain⟨a,xs,e,q,r⟩:=h;show⟨a,xs,e,q,aM.II ds xs (by simpa only[D.uF] using hi) r⟩
 |.lst _,v,hi,h=>by erw[D.uF] at hi;cases hi
 |.i9 ns,v,_,h=>by simpa only[Dn] using h
 |.iR _ _,v,hi,h=>by erw[D.uF] at hi;cases hi
 |.mL _ _ _,v,hi,h=>by erw[D.uF] at hi;cases hi
 |.exc _ _,v,_,h=>by simpa only[Dn] using h
 |.rws _,v,hi,h=>by erw[D.uF] at hi;cases hi
theorem aM.II:∀(ds:List D) (xs:List V),wZ ds=af->aM K S H ds xs->aM K S' H ds xs
 |[],xs,_,h=>by simpa only[aM] using h
 |d::ds,xs,hi,h=>by erw[wZ,fm] at hi;erw[aM] at h ⊢;obtain⟨v,r,e,a,h2⟩:=h;show⟨v,r,e,Dn.II d v hi.1 a,aM.II ds r hi.2 h2⟩
end
def Dn.uF(a:d.uF=af)(h:Dn K S H d v):Dn K S' H d v:=Dn.II d v a h
def aM.uF(a:wZ ds=af)(h:aM K S H ds xs):aM K S' H ds xs:=aM.II ds xs a h
def eJ.some(h:eJ K (λ_=>ae) a xs):eJ K H a xs:=by
 rcases h with(h|⟨o,h⟩)|h
 .cases h
 .cases h
 .exact .inr h
def VA.sq(h:VA K H a ns):eJ K H a (ns.map V.int):=by
 rcases h with⟨o,h⟩|h
 .exact .inl (.inr ⟨o,h⟩)
 .exact eJ.some h
def Wr(H:Hp)(p:ah):Prop:=(∃xs,H p=aa (.lst xs))\/(∃xs,H p=aa (.dK xs)) \/∃o xs,H p=aa (.dX o xs)
def Wr.tup(w:Wr H p)(h:H a=aa (.tup xs)):upd H p o a=aa (.tup xs):=by
 rw[aL]
 .exact h
 .intro e;subst e;rcases w with⟨ys,w⟩|⟨ys,w⟩|⟨_,ys,w⟩<;>rw[h] at w<;>cases w
def Wr.i9(w:Wr H p)(h:VA K H a ns):VA K (upd H p o) a ns:=by
 rcases h with⟨d,h⟩|h
 .refine .inl ⟨d,?_⟩;rw[aL]
  .exact h
  .intro e;subst e;rcases w with⟨ys,w⟩|⟨ys,w⟩|⟨_,ys,w⟩<;>rw[h] at w<;>cases w
 .exact .inr h
def Fits.same(e:ξ H H'):Fits K S S H H' :=
 ⟨λa xs h=>e _ _ h,λa ns h=>h.elim (λ⟨o,h⟩=>.inl ⟨o,e _ _ h⟩) .inr,λa xs h s=>⟨e _ _ h,s⟩,λa xs h s=>⟨e _ _ h,s⟩,λa _ xs h s=>⟨e _ _ h,s⟩⟩
def Fits.mono(m:∀a,S a->S' a):Fits K S S' H H :=
 ⟨λ_ _ h=>h,λ_ _ h=>h,λa _ h s=>⟨h,m a s⟩,λa _ h s=>⟨h,m a s⟩,λa _ _ h s=>⟨h,m a s⟩⟩
def Fits.fresh(d:H p=ae):Fits K S (λa=>S a/\a≠p) H H :=
 ⟨λ_ _ h=>h,λ_ _ h=>h,λa _ h s=>⟨h,s,bB h d⟩,λa _ h s=>⟨h,s,bB h d⟩,λa _ _ h s=>⟨h,s,bB h d⟩⟩
def Fits.upd(w:Wr H p)(d:¬ S p):Fits K S S H (upd H p o):=by have ne:∀a,S a->a≠p:=λa s e=>d (e▸s);show⟨λa xs h=>w.tup h,λa ns h=>w.i9 h,λa xs h s=>⟨by rw[aL (ne a s)];show h,s⟩,λa xs h s=>⟨by rw[aL (ne a s)];show h,s⟩,λa _ xs h s=>⟨by rw[aL (ne a s)];show h,s⟩⟩
def Fits.trans(a:Fits K S S' H H')(b:Fits K S' S'' H' H''):Fits K S S'' H H'' :=
 ⟨λx xs h=>b.t x xs (a.t x xs h),λx ns h=>b.s x ns (a.s x ns h),λx xs h s=>let ⟨h1,s1⟩:=a.l x xs h s;b.l x xs h1 s1,λx xs h s=>let ⟨h1,s1⟩:=a.d x xs h s;b.d x xs h1 s1,λx o xs h s=>let ⟨h1,s1⟩:=a.e x o xs h s;b.e x o xs h1 s1⟩
def aI(a:H p=ae):ξ H (upd H p o):=λb u h=>by rw[aL (bB h a)];show h
theorem aM.len:∀{ds:List D} {xs:List V},aM K S H ds xs->⇑ds=⇑xs
 |[],xs,h=>by erw[aM] at h;subst h;rfl
 |d::ds,xs,h=>by erw[aM] at h;obtain⟨v,r,e,_,h2⟩:=h;subst e;simp[aM.len h2]
theorem aM.get:∀{ds:List D} {xs:List V} {i:Nat} {d:D},aM K S H ds xs->ds[i]?=aa d ->∃v,xs[i]?=aa v/\Dn K S H d v
 |[],xs,i,d,h,e=>by simp at e
 |d::ds,xs,i,d',h,e=>by
  erw[aM] at h;obtain⟨v,r,l,a,h2⟩:=h;subst l
  cases i with
  |zero=>simp at e;subst e;show⟨v,by simp,a⟩
  |succ i =>
   obtain⟨u,j,q⟩:=aM.get (i:=i) (d:=d') h2 ↑e;show⟨u,↑j,q⟩
def aM.nil:aM K S H [] []:=by erw[aM]
def aM.cons(h:Dn K S H d v)(t:aM K S H ds xs):aM K S H (d::ds) (v::xs):=by erw[aM];show⟨v,xs,rfl,h,t⟩
def aM.bH(h:aM K S H (d::ds) xs):∃v r,xs=v::r/\Dn K S H d v/\aM K S H ds r:=by simpa only[aM] using h
theorem aM.append:∀{ds a:List D} {xs ys:List V},aM K S H ds xs->aM K S H a ys->aM K S H (ds++a) (xs++ys)
 |[],a,xs,ys,h,g=>by erw[aM] at h;subst h;show g
 |d::ds,a,xs,ys,h,g=>by obtain⟨v,r,e,j,h2⟩:=h.bH;subst e;show aM.cons j (aM.append h2 g)
def aM.one(h:Dn K S H d v):aM K S H [d] [v]:=aM.cons h aM.nil
theorem aM.take:∀{ds:List D} {xs:List V} (n:Nat),aM K S H ds xs->aM K S H (ds.take n) (xs.take n)
 |_,_,0,_=>by simp[aM.nil]
 |[],xs,n+1,h=>by erw[aM] at h;subst h;simp[aM.nil]
 |d::ds,xs,n+1,h=>by obtain⟨v,r,e,a,h2⟩:=h.bH;subst e;simpa using aM.cons a (aM.take n h2)
theorem aM.drop:∀{ds:List D} {xs:List V} (n:Nat),aM K S H ds xs->aM K S H (ds.drop n) (xs.drop n)
 |_,_,0,h=>by simpa using h
 |[],xs,n+1,h=>by erw[aM] at h;subst h;simp[aM.nil]
 |d::ds,xs,n+1,h=>by obtain⟨v,r,e,a,h2⟩:=h.bH;subst e;simpa using aM.drop n h2
theorem aM.erase:∀{ds:List D} {xs:List V} (n:Nat),aM K S H ds xs->aM K S H (ds.eraseIdx n) (xs.eraseIdx n)
 |[],xs,n,g=>by erw[aM] at g;subst g;simp[aM.nil]
 |d::ds,xs,n,g=>by
  obtain⟨v,r,e,a,h2⟩:=g.bH;subst e
  cases n with
  |zero=>show h2
  |succ n=>show aM.cons a (aM.erase n h2)
def aM.insert:∀{ds:List D} {xs:List V} {d:D} {v:V} (n:Nat),Dn K S H d v->aM K S H ds xs->aM K S H (ds.take n++d::ds.drop n) (xs.take n++v::xs.drop n) :=
 λn h g=>aM.append (aM.take n g) (aM.cons h (aM.drop n g))
theorem aM.ints:∀{ns:Q0e} {xs:List V},aM K S H (ns.map D.int) xs↔xs=ns.map V.int
 |[],xs=>by simp[aM]
 |n::ns,xs=>by
  rw[bt,bt]
  constructor
  .intro h;obtain⟨v,r,e,a,h2⟩:=h.bH;symm at a;rw[e,a,aM.ints.mp h2]
  .intro e;rw[e];show aM.cons (by symm) (aM.ints.mpr rfl)
end
def Sl(K:aq)(S:ah->Prop)(H:Hp)(ρ:cD)(σ:St):Prop:=∀(i:Nat) (d:D),ρ[i]?=aa (aa d) ->∃v,σ[i]?=aa (aa v)/\Dn K S H d v
theorem Sl.fits{K:aq}{S S':ah->Prop}{H H':Hp}{ρ:cD}{σ:St}(f:Fits K S S' H H')(h:Sl K S H ρ σ):Sl K S' H' ρ σ:=λi d e =>
 let ⟨v,e1,q⟩:=h i d e;⟨v,e1,Dn.fits f d v q⟩
def uO(K:aq)(S:ah->Prop)(H:Hp)(d:D)(p:ah):Prop :=
 match d with
 |.lst ds=>∃xs,H p=aa (.lst xs)/\aM K S H ds xs
 |.iR ks ds=>∃xs,H p=aa (.dK (ks.zip xs))/\⇑ks=⇑xs/\aM K S H ds xs
 |.mL q ks ds=>∃o a,H p=aa (.dX o a)/\(a.map (·.1)=ks/\q p o)/\aM K S H ds (a.map (·.2.2))
 |.rws xs=>Rw S H xs p
 |_=>False
def SO(S:ah->Prop)(w:Nat->ah)(ρ:bG):ah->Prop:=λa=>S a /\∀(i:Nat) (d:D),ρ[i]?=aa (Sv.ow d)->a≠w i
structure ST (K:aq) (H₀:Hp) (S:ah->Prop) (w:Nat->ah) (σ:St) (H:Hp) (ρ:bG) (G:List (D×V)):Prop where
 fc:∀a,H₀ a=ae->S a
 sm:ξ H₀ H
 own:∀(i:Nat) (d:D),ρ[i]?=aa (Sv.ow d)->σ[i]?=aa (aa (.ref (w i)))/\H₀ (w i)=ae/\uO K (SO S w ρ) H d (w i)
 inj:∀(i j:Nat) (d e:D),ρ[i]?=aa (Sv.ow d)->ρ[j]?=aa (Sv.ow e)->w i=w j->i=j
 ro:∀(i:Nat) (d:D),ρ[i]?=aa (Sv.ro d) ->∃v,σ[i]?=aa (aa v)/\Dn K (SO S w ρ) H d v
 gh:∀g∈G,Dn K (SO S w ρ) H g.1 g.2
 rw:∀(i:Nat) (xs:Q0a),ρ[i]?=aa (Sv.ow (.rws xs)) ->∀ys,H (w i)=aa (.lst ys) ->∀a,V.ref a∈ys->H₀ a=ae
section
variable{K:aq}{H₀ H H':Hp}{S S':ah->Prop}{w:Nat->ah}{σ:St}{ρ:bG}{G:List (D×V)}
theorem uO.wr(h:uO K S H d p):Wr H p:=by
 cases d with
 |lst ds=>obtain⟨xs,e,_⟩:=h;show .inl ⟨_,e⟩
 |iR ks ds=>obtain⟨xs,e,_⟩:=h;show .inr (.inl ⟨_,e⟩)
 |mL q0 ks ds=>obtain⟨o,a,e,_⟩:=h;show .inr (.inr ⟨_,_,e⟩)
 |rws xs=>obtain⟨_,e,_⟩:=h;show .inl ⟨_,e⟩
 |_=>show ip h
theorem uO.dn{d:D}{p:ah}(h:uO K S H d p)(j:S' p)(m:∀a,S a->S' a):Dn K S' H d (.ref p):=by
 cases d with
 |lst ds=>obtain⟨xs,e,q⟩:=h;symm;show⟨p,xs,rfl,e,j,aM.fits (.mono m) ds xs q⟩
 |iR ks ds=>obtain⟨xs,e,l,q⟩:=h;symm;show⟨p,xs,rfl,e,j,l,aM.fits (.mono m) ds xs q⟩
 |mL q0 ks ds=>obtain⟨o,n,e,l,q⟩:=h;symm;show⟨p,o,n,rfl,e,j,l,aM.fits (.mono m) ds _ q⟩
 |rws xs=>symm;show⟨p,rfl,j,Rw.fits (.mono (K:=K) m) (λ_ e=>e) h⟩
 |_=>show ip h
theorem uO.fits{d:D}{p:ah}(f:Fits K S S' H H')(a:∀o,H p=aa o->H' p=aa o)(h:uO K S H d p):uO K S' H' d p:=by
 cases d with
 |lst ds=>obtain⟨xs,e,q⟩:=h;show⟨xs,a _ e,aM.fits f ds xs q⟩
 |iR ks ds=>obtain⟨xs,e,l,q⟩:=h;show⟨xs,a _ e,l,aM.fits f ds xs q⟩
 |mL q0 ks ds=>obtain⟨o,j,e,l,q⟩:=h;show⟨o,j,a _ e,l,aM.fits f ds _ q⟩
 |rws xs=>show Rw.fits f (λ_ e=>a _ e) h
 |_=>show ip h
def ST.rwN(h:ST K H₀ S w σ H ρ G)(q:ρ[i]?=aa (Sv.ow (.rws xs)))(j:∀o,H (w i)=aa o->H' (w i)=aa o):∀ys,H' (w i)=aa (.lst ys) ->∀a,V.ref a∈ys->H₀ a=ae:=λys d=>by obtain⟨l,e,_⟩:=(h.own i _ q).2.2;rw[j _ e] at d;cases d;show h.rw i xs q _ e
def ST.F0(h:ST K H₀ S w σ H ρ G):∀a,H a=ae->S a:=λa e=>h.fc a (h.sm.free e)
def ST.RU(h:ST K H₀ S w σ H ρ G):∀a,H a=ae->SO S w ρ a:=λa e=>⟨h.F0 a e,λi d q z=>by have wr:=(h.own i d q).2.2.wr;subst z;rcases wr with⟨xs,k⟩|⟨xs,k⟩|⟨_,xs,k⟩<;>rw[e] at k<;>cases k⟩
theorem uP{i:Nat}{d:D}(h:(aV ρ)[i]?=aa (aa d)):ρ[i]?=aa (Sv.ro d)\/ρ[i]?=aa (Sv.ow d):=by
 unfold aV at h;rw[d_] at h
 cases e:ρ[i]? with
 |none=>rw[e] at h;cases h
 |some s =>
  rw[e] at h
  cases s with
  |no=>cases h
  |ro d'=>cases h;show .inl rfl
  |ow d'=>cases h;show .inr rfl
theorem yB{i:Nat}{d:D}(h:(fB ρ)[i]?=aa (aa d)):ρ[i]?=aa (Sv.ro d):=by
 unfold fB at h;rw[d_] at h
 cases e:ρ[i]? with
 |none=>rw[e] at h;cases h
 |some s =>
  rw[e] at h
  cases s with
  |no=>cases h
  |ro d'=>cases h;rfl
  |ow d'=>cases h
def ST.all(h:ST K H₀ S w σ H ρ G):Sl K S H (aV ρ) σ:=λi d e=>by
 rcases uP e with e|e
 .obtain ⟨v,a,q⟩:=h.ro i d e;show⟨v,a,Dn.fits (.mono λ_ z=>z.1) d v q⟩
 .obtain ⟨a,j,q⟩:=h.own i d e;show⟨_,a,q.dn (h.fc _ j) λ_ z=>z.1⟩
def ST.rd(h:ST K H₀ S w σ H ρ G):Sl K (SO S w ρ) H (fB ρ) σ:=λi d e=>h.ro i d (yB e)
def ST.same(h:ST K H₀ S w σ H ρ G)(e:ξ H H'):ST K H₀ S w σ H' ρ G :=
 ⟨h.fc,h.sm.trans e,λi d q=>let ⟨a,b,c⟩:=h.own i d q;⟨a,b,c.fits (.same e) λo z=>e _ o z⟩,h.inj,λi d q=>let ⟨v,a,b⟩:=h.ro i d q;⟨v,a,Dn.fits (.same e) d v b⟩,λg j=>Dn.fits (.same e) _ _ (h.gh g j),λi xs q=>h.rwN q λo z=>e _ o z⟩
def SO.mono{h:bG}(hw:∀(i:Nat) (d:D),h[i]?=aa (Sv.ow d) ->∃e,ρ[i]?=aa (Sv.ow e)):∀a,SO S w ρ a->SO S w h a:=λa j=>by obtain⟨s,n⟩:=j;show⟨s,λi d e=>let ⟨d',e'⟩:=hw i d e;n i d' e'⟩
def get_set{α:Type}{l:List α}{i j:Nat}{x y:α}(h:(l.set i x)[j]?=aa y):(j=i/\y=x/\i<⇑l)\/(j≠i/\l[j]?=aa y):=by
 by_cases e:j=i
 .subst e;by_cases a:j<⇑l
  .rw [kj a] at h;show .inl ⟨rfl,(fu h).symm,a⟩
  .rw [kl (by simp;lia)] at h;cases h
 .rw [j_ (fj e)] at h;show .inr ⟨e,h⟩
def ST.lE{i:Nat}{d:D}{v:V}(h:ST K H₀ S w σ H ρ G)(y:i<⇑σ)(q:Dn K (SO S w ρ) H d v):ST K H₀ S w (σ.set i (aa v)) H (ρ.set i (.ro d)) G:=by
 have hw:∀(j:Nat) (e:D),(ρ.set i (.ro d))[j]?=aa (Sv.ow e)->j≠i/\ρ[j]?=aa (Sv.ow e):=λj e l=>by
  rcases get_set l with⟨_,z,_⟩|z
  .cases z
  .exact z
 have m:∀a,SO S w ρ a->SO S w (ρ.set i (.ro d)) a:=SO.mono λj e l=>⟨e,(hw j e l).2⟩;show⟨h.fc,h.sm,λj e l=>?_,λj k d' p F h2=>h.inj j k d' p (hw j d' F).2 (hw k p h2).2,λj e l=>?_,λg A=>Dn.fits (.mono m) _ _ (h.gh g A),λj xs x=>h.rw j xs (hw j _ x).2⟩
 .obtain ⟨n,o⟩:=hw j e l;obtain⟨a,b,c⟩:=h.own j e o;show⟨by rw[j_ (fj n)];show a,b,c.fits (.mono m) λ_ z=>z⟩
 .rcases get_set l with⟨n,z,_⟩|⟨n,z⟩
  .cases z;subst n;show⟨v,kj y,Dn.fits (.mono m) d v q⟩
  .obtain ⟨u,a,b⟩:=h.ro j e z;show⟨u,by rw[j_ (fj n)];show a,Dn.fits (.mono m) e u b⟩
theorem ST.M4{i:Nat}{d:D}{p:ah}(h:ST K H₀ S w σ H ρ G)(U:i<⇑σ)(e:ξ H H')(A:H p=ae)(q:uO K (λa=>SO S w ρ a/\a≠p) H' d p)
  (O:∀xs,d=.rws xs ->∀ys,H' p=aa (.lst ys) ->∀a,V.ref a∈ys->H₀ a=ae:=by intro _ z;cases z):
  ST K H₀ S (λj=>if j=i then p else w j) (σ.set i (aa (.ref p))) H' (ρ.set i (.ow d)) G:=by
 have Z:H₀ p=ae:=h.sm.free A;have hw:∀(j:Nat) (e:D),j≠i->(ρ.set i (.ow d))[j]?=aa (Sv.ow e)->ρ[j]?=aa (Sv.ow e):=λj e l Y=>by
  rcases get_set Y with⟨z,_,_⟩|⟨_,z⟩
  .exact Zw z l
  .exact z
 have m:∀a,(SO S w ρ a/\a≠p)->SO S (λj=>if j=i then p else w j) (ρ.set i (.ow d)) a:=λa ⟨⟨s,n⟩,ne⟩=>⟨s,λj f v=>by
  show a≠(if j=i then p else w j);by_cases l:j=i
  .rw [Z_ l];show ne
  .rw [Zz l];show n j f (hw j f l v)⟩
 have F:Fits K (SO S w ρ) (SO S (λj=>if j=i then p else w j) (ρ.set i (.ow d))) H H':=((Fits.fresh A).trans (.mono m)).trans (.same e);have I:∀(j:Nat) (f:D),ρ[j]?=aa (Sv.ow f)->w j≠p:=λj f v z=>by have wr:=(h.own j f v).2.2.wr;rw[z] at wr;rcases wr with⟨xs,k⟩|⟨xs,k⟩|⟨_,xs,k⟩<;>rw[A] at k<;>cases k
 show⟨h.fc,h.sm.trans e,λj f v=>?_,λj k d' y L h2 z=>?_,λj f v=>?_,λg X=>Dn.fits F _ _ (h.gh g X),λj xs J=>?_⟩
 rotate_right
 .show ∀ys,H' (if j=i then p else w j)=aa (.lst ys)->_;by_cases l:j=i
  .subst l;rw[Z_ rfl];rcases get_set J with⟨_,z,_⟩|⟨z,_⟩
   .exact O xs (Sv.ow.inj z).symm
   .exact Zw rfl z
  .rw [Zz l];show h.rwN (hw j _ l J) λo z=>e _ o z
 .by_cases l:j=i
  .subst l;rcases get_set v with⟨_,z,_⟩|⟨z,_⟩
   .cases z;rw[Z_ rfl];show⟨kj U,Z,q.fits (.mono m) λ_ z=>z⟩
   .exact Zw rfl z
  .rw [Zz l];obtain⟨a,b,c⟩:=h.own j f (hw j f l v);show⟨by rw[j_ (fj l)];show a,b,c.fits F λo z=>e _ o z⟩
 .have z:(if j=i then p else w j)=(if k=i then p else w k):=z;by_cases l:j=i
  .by_cases x:k=i
   .rw [l,x]
   .rw [Z_ l,Zz x] at z;show Zw z.symm (I k y (hw k y x h2))
  .by_cases x:k=i
   .rw [Zz l,Z_ x] at z;show Zw z (I j d' (hw j d' l L))
   .rw [Zz l,Zz x] at z;show h.inj j k d' y (hw j d' l L) (hw k y x h2) z
 .rcases get_set v with⟨_,z,_⟩|⟨l,z⟩
  .cases z
  .obtain ⟨u,a,b⟩:=h.ro j f z;show⟨u,by rw[j_ (fj l)];show a,Dn.fits F f u b⟩
def ST.write{i:Nat}{d d':D}{o:HO}(h:ST K H₀ S w σ H ρ G)(e:ρ[i]?=aa (Sv.ow d))(q:uO K (SO S w ρ) (upd H (w i) o) d' (w i))(U:∀xs,d'≠.rws xs:=by intro _ z;cases z):ST K H₀ S w σ (upd H (w i) o) (ρ.set i (.ow d')) G:=by
 obtain⟨a0,I,Z⟩:=h.own i d e;have v:SO S w (ρ.set i (.ow d'))=SO S w ρ:=by
  funext a
  show propext ⟨λ⟨s,n⟩=>⟨s,λj f m=>?_⟩,λ⟨s,n⟩=>⟨s,λj f m=>?_⟩⟩
  .by_cases l:j=i
   .subst l;show n j d' (by rw[kj (c_.mp e).1])
   .exact n j f (by rw[j_ (fj l)];show m)
  .by_cases l:j=i
   .subst l;show n j d e
   .exact n j f (by rw[j_ (fj l)] at m;show m)
 have L:¬ SO S w ρ (w i):=λ⟨_,n⟩=>n i d e rfl;have F:Fits K (SO S w ρ) (SO S w ρ) H (upd H (w i) o):=.upd Z.wr L;show⟨h.fc,λb u A=>?_,λj f m=>?_,λj k d1 e1 Y h2 z=>?_,λj f m=>?_,λg X=>by rw[v];show Dn.fits F _ _ (h.gh g X),λj xs O=>?_⟩
 rotate_right
 .rcases get_set O with⟨_,z,_⟩|⟨l,z⟩
  .exact Zw (Sv.ow.inj z).symm (U xs)
  .exact h.rwN z λJ p=>by rw[aL λy=>l (h.inj _ _ _ _ z e y)];show p
 .rw [aL (bB A I)];show h.sm b u A
 .rw [v];rcases get_set m with⟨l,z,_⟩|⟨l,z⟩
  .cases z;subst l;show⟨a0,I,q⟩
  .obtain ⟨a,b,c⟩:=h.own j f z;show⟨a,b,c.fits F λJ p=>by rw[aL λy=>l (h.inj _ _ _ _ z e y)];show p⟩
 .have g1:∃x,ρ[j]?=aa (Sv.ow x):=by
   rcases get_set Y with⟨l,_,_⟩|⟨_,z⟩
   .subst l;show⟨d,e⟩
   .exact ⟨_,z⟩
  have g2:∃x,ρ[k]?=aa (Sv.ow x):=by
   rcases get_set h2 with⟨l,_,_⟩|⟨_,z⟩
   .subst l;show⟨d,e⟩
   .exact ⟨_,z⟩
  obtain⟨_,g1⟩:=g1;obtain⟨_,g2⟩:=g2;show h.inj j k _ _ g1 g2 z
 .rw [v];rcases get_set m with⟨_,z,_⟩|⟨l,z⟩
  .cases z
  .obtain ⟨u,a,b⟩:=h.ro j f z;show⟨u,a,Dn.fits F f u b⟩
def Kf{n i:Nat}{d:D}{P:Nat->Prop}:∀(j:Nat) (xs:Q0a),((bw n Sv.no).set i (.ro d))[j]?=aa (Sv.ow (.rws xs))->P j:=λj xs z=>by
 rcases get_set z with⟨_,z,_⟩|⟨_,z⟩
 .cases z
 .rw [jc] at z;split at z<;>cases z
def ST.ghost(h:ST K H₀ S w σ H ρ G)(a:∀g∈G',Dn K (SO S w ρ) H g.1 g.2):ST K H₀ S w σ H ρ G':=⟨h.fc,h.sm,h.own,h.inj,h.ro,a,h.rw⟩
end
open PySem.Spec PyProof.Rows
abbrev WE:=cD->(D->Prop)->Prop
abbrev WT:=cD->(Bool->Prop)->Prop
abbrev WA:=cD->(List D->Prop)->Prop
inductive lift (K:aq) (t:WE) (σ:L2.St) (H:Hp) (Q:VK):Prop
 |mk (S:ah->Prop) (ρ:cD) (Q3:D->Prop) (h1:(∀a,H a=ae->S a)) (h2:Sl K S H ρ σ) (h3:t ρ Q3) (h4:∀v H' d,ξ H H'->Dn K S H' d v->Q3 d->Q v H'):lift K t σ H Q
inductive liftT (K:aq) (t:WT) (σ:L2.St) (H:Hp) (Q:(Bool->Hp->Prop)):Prop
 |mk (S:ah->Prop) (ρ:cD) (Q3:Bool->Prop) (h1:(∀a,H a=ae->S a)) (h2:Sl K S H ρ σ) (h3:t ρ Q3) (h4:∀b H',ξ H H'->Q3 b->Q b H'):liftT K t σ H Q
inductive F3 (K:aq) (t:WA) (σ:L2.St) (H:Hp) (Q:(List V->Hp->Prop)):Prop
 |mk (S:ah->Prop) (ρ:cD) (Q3:List D->Prop) (h1:(∀a,H a=ae->S a)) (h2:Sl K S H ρ σ) (h3:t ρ Q3) (h4:∀vs H' ds,ξ H H'->aM K S H' ds vs->Q3 ds->Q vs H'):F3 K t σ H Q
inductive F4 (K:aq) (t:WE) (σ:L2.St) (H:Hp) (Q:VK):Prop
 |mk (S:ah->Prop) (ρ:cD) (Q3:D->Prop) (h1:(∀a,H a=ae->S a)) (h2:Sl K S H ρ σ) (h3:t ρ Q3) (h4:∀p xs H' ds,H p=ae->H' p=aa (.lst xs)->ξ H H'->aM K (λa=>S a/\a≠p) H' ds xs->Q3 (.lst ds)->Q (.ref p) H'):F4 K t σ H Q
def bO(X:Cx)(e:au)(t:WE):Prop:=PE X e (lift X.K t)
def F5(X:Cx)(e:au)(t:WE):Prop:=PE X e (F4 X.K t)
def tE(X:Cx)(e:au)(t:WT):Prop:=PT X e (liftT X.K t)
def yC(X:Cx)(a:List au)(t:WA):Prop:=PA X a (F3 X.K t)
variable{X:Cx}
section
def imp(h:PE X e t)(f:∀σ H Q,t' σ H Q->t σ H Q):PE X e t':=λπ s σ H Q I q=>h π s σ H Q I (f σ H Q q)
def RV(h:PT X e t)(f:∀σ H Q,t' σ H Q->t σ H Q):PT X e t':=λπ s σ H Q I q=>h π s σ H Q I (f σ H Q q)
def IJ(h:PA X e t)(f:∀σ H Q,t' σ H Q->t σ H Q):PA X e t':=λν π s σ H Q I q=>h ν π s σ H Q I (f σ H Q q)
def aR{H H':Hp}{S:ah->Prop}(d:∀a,H a=ae->S a)(s:ξ H H'):∀a,H' a=ae->S a:=λa e=>d a (s.free e)
theorem F5.pe(h:F5 X e t):bO X e t:=imp h λσ H Q a=>by obtain⟨S,ρ,Q3,j,l,m,k⟩:=a;show⟨S,ρ,Q3,j,l,m,λp xs H' ds n d s dn q=>k _ H' _ s (by symm;show⟨p,xs,rfl,d,j p n,aM.fits (.mono λ_ z=>z.1) ds xs dn⟩) q⟩
noncomputable def RW(i:Nat):WE:=λρ Q=>match ρ[i]? with
 |some (aa d)=>Q d
 |_=>False
def wC(d:D):WE:=λ_ Q=>Q d
def M5{K:aq}{i:Nat}{σ:L2.St}{H:Hp}{Q:VK}(h:lift K (RW i) σ H Q):Q0 i σ H Q:=by
 obtain⟨S,ρ,Q3,m,j,a,k⟩:=h;unfold RW at a;split at a
 .rename_i d e;obtain⟨v,l,q⟩:=j i d e;show⟨v,l,k v H d (ξ.refl H) q a⟩
 .exact a.elim
def x3(i:Nat)(hN:X.N[i]?=aa x<|>0)(d:vH X.env.scope x<|>3)(h:Zu x<|>1)
  (a:Zt x<|>1):bO X (.Name x ν) (RW i):=imp (sS hN d h a) λ_ _ _=>M5
def pU{K:aq}{d:D}{v:V}{σ:L2.St}{H:Hp}{Q:VK}(j:∀S H,Dn K S H d v)(h:lift K (wC d) σ H Q):tC v σ H Q:=by obtain⟨S,ρ,Q3,m,l,a,k⟩:=h;show k v H d (ξ.refl H) (j S H) a
def i3{j ν}:bO X (.Constant (.int i) j ν) (wC (.int i)):=imp WW λ_ _ _=>pU (λ_ _=>by symm)
def b3{j ν}:bO X (.Constant (.bool b) j ν) (wC (.bl b)):=imp Rf λ_ _ _=>pU (λ_ _=>by symm)
def n3{j ν}:bO X (.Constant .none j ν) (wC .non):=imp WY λ_ _ _=>pU (λ_ _=>by symm)
def s3{j ν}:bO X (.Constant (.str x) j ν) (wC (.str x)):=imp WZ λ_ _ _=>pU (λ_ _=>by symm)
abbrev F2:=D->D->(D->Prop)->Prop
def fD(f:F2)(d a:WE):WE:=λρ Q=>d ρ λx=>a ρ λy=>f x y Q
def O3(K:aq)(r:R2)(f:F2):Prop:=∀(S:ah->Prop) (H:Hp) (x y:V) (j h:D) (Q3:D->Prop) (Q:VK),(∀a,H a=ae->S a)->Dn K S H j x->Dn K S H h y->f j h Q3 ->
 (∀v H' d,ξ H H'->Dn K S H' d v->Q3 d->Q v H')->r x y H Q
def iG{K:aq}{r:R2}{f:F2}{p o:WE}{σ:L2.St}{H:Hp}{Q:VK}(A:O3 K r f)(h:lift K (fD f p o) σ H Q):mj r (lift K p) (lift K o) σ H Q:=by obtain⟨S,ρ,Q3,l,q,z,k⟩:=h;show⟨S,ρ,_,l,q,z,λv L d a I q1=>?_⟩;show⟨S,ρ,_,aR l a,Sl.fits (.same a) q,q1,λu J F j n q2=>?_⟩;show A S J v u d F Q3 Q (aR l (a.trans j)) (Dn.fits (.same j) _ _ I) n q2 λx H' d' s' m y=>k x H' d' ((a.trans j).trans s') m y
theorem X4(ho:iQ X (binaryOp op) r)(j:O3 X.K r f)(h:bO X a ta)(d:bO X b tb):bO X (.BinOp a op b ν) (fD f ta tb) :=
 imp (MF ho h d) λ_ _ _=>iG j
def IK(C:Int->Int->Prop)(g:Int->Int->D):F2
 |.int i,.int j,Q=>C i j/\Q (g i j)
 |_,_,_=>False
theorem tF{K:aq}{C:Int->Int->Prop}{g:Int->Int->Int}:O3 K (rI C λi j=>.int (g i j)) (IK C λi j=>.int (g i j)):=by
 intro S H x y m l Q3 Q n h d a k;cases m<;>(try show a.elim)<;>cases l<;>try show a.elim
 symm at h d;show⟨_,_,h,d,a.1,k _ H _ (ξ.refl H) (by symm) a.2⟩
noncomputable def tG(g:Int->Int->D):F2
 |.int i,.int j,Q=>Q (g i j)
 |_,_,_=>False
def RX{K:aq}{g:Int->Int->Int}:O3 K (HW λi j=>.int (g i j)) (tG λi j=>.int (g i j)):=by
 intro S H x y m l Q3 Q n h d a k;cases m<;>(try show a.elim)<;>cases l<;>try show a.elim
 symm at h d;show⟨_,_,h,d,k _ H _ (ξ.refl H) (by symm) a⟩
def Ke:F2:=tG λi j=>.int (i-j)
def ye:F2:=IK (λ_ j=>0<j) λi j=>.int (i%j)
def Kd:F2:=IK yt λi j=>.int (i/j)
def Kc:F2:=IK yq λi j=>.int (i^j.toNat)
section
variable{a b:au}{ν:ba}{ta tb:WE}
def Kb(h:bO X a ta)(d:bO X b tb):bO X (.BinOp a .Sub b ν) (fD Ke ta tb):=X4 XG RX h d
def Ka(h:bO X a ta)(d:bO X b tb):bO X (.BinOp a .Mod b ν) (fD ye ta tb):=X4 MG tF h d
def Ky(h:bO X a ta)(d:bO X b tb):bO X (.BinOp a .FloorDiv b ν) (fD Kd ta tb):=X4 Q7 tF h d
def Kx(h:bO X a ta)(d:bO X b tb):bO X (.BinOp a .Pow b ν) (fD Kc ta tb):=X4 XH tF h d
end
def VB(K:aq):R2:=λx y H Q=>∃a b xs ys,x=.ref a/\y=.ref b/\eR K H a xs/\eR K H b ys/\⇑xs+⇑ys<=bc /\
 (xs=[]->Q (.ref b) H)/\(xs≠[]->ys=[]->Q (.ref a) H)/\(xs≠[]->ys≠[] ->∀p,H p=ae->Q (.ref p) (upd H p (.tup (xs++ys))))
theorem M6{Ω:bb}{w:az}{A:bo}{E:Q0c}{s:ak}{t b:ah}{l:Q0f}{Q:Q0c}(x:gc s.heap t #[])(y:gc s.heap b l.toArray)
  (z:Q (.ref b) s):av (aw Ω w) A (binaryOp .Add (.ref t) (.ref b)) Q E s:=by
 obtain⟨⟨cls,dd,data,q⟩,ho,o,n,m⟩:=id x;obtain⟨⟨p,j,data2,h⟩,a,d,v,hd2⟩:=id y;simp only at o m d hd2;subst o m d hd2;show zw ⟨_,ho,rfl⟩ ⟨_,a,rfl⟩ zr zp Am Ao (Ap _ _)
   (tuple_addW0 t b #[] l.toArray n v dd j q h (by simp)) ⟨ho,a,z⟩
theorem M7:iQ X (binaryOp .Add) (VB X.K):=by
 intro π s σ H x y v u Q I l j h;obtain⟨a,b,xs,ys,rfl,rfl,o,n,A,q,q1,q2⟩:=h;by_cases d:xs=[]
 .cases l;cases j;subst d;obtain⟨F,p,p1,_⟩:=I.tuple o;obtain⟨m,J,z,_⟩:=I.tuple n;cases p;show M6 p1 z ⟨.ref b,H,I,rfl,q rfl⟩
 .exact RJ π s σ H _ _ v u Q I l j ⟨a,b,xs,ys,rfl,rfl,o,n,d,A,q1 d,q2 d⟩
noncomputable def X5:F2
 |.int i,.int j,Q=>Q (.int (i+j))
 |.lst a,.lst b,Q=>⇑a+⇑b<=bc/\Q (.lst (a++b))
 |.tup a,.tup b,Q=>⇑a+⇑b<=bc/\Q (.tup (a++b))
 |.str a,.str b,Q=>⇑a+⇑b<=bc/\Q (.str (a++b))
 |_,_,_=>False
def yd(K:aq):R2:=λx y H Q=>(HW λi j=>.int (i+j)) x y H Q\/(yg x y H Q\/(VB K x y H Q \/∃i j,x=.str i/\y=.str j/\⇑i+⇑j<=bc/\Q (.str (i++j)) H))
theorem M8{K:aq}:O3 K (yd K) X5:=by
 intro S H x y J A Q3 Q I l h d k
 cases J with
 |int i =>
  cases A with
  |int j=>symm at l h;show .inl ⟨_,_,l,h,k _ H _ (ξ.refl H) (by symm) d⟩
  |_=>show d.elim
 |str i =>
  cases A with
  |str j=>symm at l h;show .inr (.inr (.inr ⟨_,_,l,h,d.1,k _ H _ (ξ.refl H) (by symm) d.2⟩))
  |_=>show d.elim
 |lst ds =>
  cases A with
  |lst es =>
   symm at l h;obtain⟨a,xs,rfl,z,O,n⟩:=l;obtain⟨b,ys,rfl,v,L,m⟩:=h;show .inr (.inl ⟨a,b,xs,ys,rfl,rfl,z,v,by rw[<- n.len,<- m.len];show d.1,λp o=>k _ _ _ (aI o) ?_ d.2⟩);symm;show⟨p,_,rfl,aN,I p o,aM.fits (.same (aI o)) _ _ (n.append m)⟩
  |_=>show d.elim
 |tup ds =>
  cases A with
  |tup es =>
   symm at l h;obtain⟨a,xs,rfl,z,n⟩:=l;obtain⟨b,ys,rfl,v,m⟩:=h;show .inr (.inr (.inl ⟨a,b,xs,ys,rfl,rfl,eR.of z,eR.of v,by rw[<- n.len,<- m.len];show d.1,λe=>?_,λ_ e=>?_,λ_ _ p o=>?_⟩))
   .subst e;have F:ds=[]:=ki.mp n.len;subst F;show k _ H _ (ξ.refl H) (by symm;show⟨b,ys,rfl,v,m⟩) d.2
   .subst e;have F:es=[]:=ki.mp m.len;subst F;have q:=d.2;rw[il] at q;show k _ H _ (ξ.refl H) (by symm;show⟨a,xs,rfl,z,n⟩) q
   .refine k _ _ _ (aI o) ?_ d.2;symm;show⟨p,_,rfl,aN,aM.fits (.same (aI o)) _ _ (n.append m)⟩
  |_=>show d.elim
 |_=>show d.elim
def F6:iQ X (binaryOp .Add) (yd X.K):=iQ.or XE (iQ.or MR (iQ.or M7 sV))
theorem Kw(h:bO X a ta)(d:bO X b tb):bO X (.BinOp a .Add b ν) (fD X5 ta tb):=X4 F6 M8 h d
noncomputable def yc:F2
 |.lst a,.lst b,Q=>⇑a+⇑b<=bc/\Q (.lst (a++b))
 |_,_,_=>False
def Pp{a b:au}{ν:ba}{z y:WE}(q:bO X a z)(o:bO X b y):F5 X (.BinOp a .Add b ν) (fD yc z y):=imp (MF MR q o) λσ H Q h=>by
 obtain⟨S,ρ,Q3,F,A,L,k⟩:=h;show⟨S,ρ,_,F,A,L,λv H1 d m K q1=>?_⟩;show⟨S,ρ,_,aR F m,Sl.fits (.same m) A,q1,λu Z O l j q2=>?_⟩;cases d<;>(try show q2.elim)<;>cases O<;>try show q2.elim
 symm at K j;obtain⟨a,xs,rfl,q,Y,J⟩:=K;obtain⟨b,ys,rfl,o,U,I⟩:=j;have x:=aM.fits (.same l) _ _ J;show⟨a,b,xs,ys,rfl,rfl,l _ _ q,o,by rw[<- J.len,<- I.len];show q2.1,λp n=>k p _ _ _ ((m.trans l).free n) aN ((m.trans l).trans (aI n)) ?_ q2.2⟩;show aM.fits ((Fits.fresh n).trans (.same (aI n))) _ _ (x.append I)
def Kv:WA:=λ_ Q=>Q []
def Po(a:WE)(t:WA):WA:=λρ Q=>a ρ λd=>t ρ λds=>Q (d::ds)
def Ku:yC X [] Kv:=IJ iF λσ H Q a=>by obtain⟨S,ρ,Q3,j,h,d,k⟩:=a;show k [] H [] (ξ.refl H) aM.nil d
def Pn{e:au}{j:List au}{te:WE}{t:WA}(x:bO X e te)(q:yC X j t)(p:Zr X e j<|>0):yC X (e::j) (Po te t) :=
 IJ (cJ x q p) λσ H Q h=>by obtain⟨S,ρ,Q3,n,l,o,k⟩:=h;show⟨S,ρ,_,n,l,o,λv I d a z q1=>?_⟩;show⟨S,ρ,_,aR n a,Sl.fits (.same a) l,q1,λF A ds m y q2=>?_⟩;show k _ A _ (a.trans m) (aM.cons (Dn.fits (.same m) _ _ z) y) q2
def Kt(t:WA):WE:=λρ Q=>t ρ λds=>⇑ds<=bc/\Q (.tup ds)
def Ks(t:WA):WE:=λρ Q=>t ρ λds=>⇑ds<=bc/\Q (.lst ds)
def Kr{x1}(h:yC X es t):bO X (.Tuple es x1 ν) (Kt t):=imp (ML h) λσ H Q o=>by obtain⟨S,ρ,Q3,n,j,m,k⟩:=o;show⟨S,ρ,_,n,j,m,λvs q ds l d q1=>⟨by rw[<- d.len];show q1.1,λp a=>k _ _ _ (l.trans (aI a)) ?_ q1.2⟩⟩;symm;show⟨p,_,rfl,aN,aM.fits (.same (aI a)) _ _ d⟩
def Kp(h:yC X es t):F5 X (.List es ν) (Ks t):=imp (XQ h) λσ H Q o=>by obtain⟨S,ρ,Q3,n,l,m,k⟩:=o;show⟨S,ρ,_,n,l,m,λvs q ds d j q1=>⟨by rw[<- j.len];show q1.1,λp a=>k p vs _ ds (d.free a) aN (d.trans (aI a)) ?_ q1.2⟩⟩;show aM.fits ((Fits.fresh a).trans (.same (aI a))) _ _ j
end
section
noncomputable def lF(t:WE):WT:=λρ Q=>t ρ λd=>match d with
 |.bl b=>Q b
 |_=>False
theorem IL{K:aq}{t:WE}{σ:L2.St}{H:Hp}{Q:Bool->Hp->Prop}(h:liftT K (lF t) σ H Q):FU (lift K t) σ H Q:=by
 obtain⟨S,ρ,Q3,n,j,m,k⟩:=h;show⟨S,ρ,_,n,j,m,λv o d l a q1=>?_⟩
 cases d with
 |bl b=>symm at a;show⟨b,a,k b o l q1⟩
 |_=>show q1.elim
def DG(f:∀σ H Q,t' σ H Q->t σ H Q)(h:FU t' σ H Q):FU t σ H Q:=f σ H _ h
def M9(ho:iQ X (compareOp op) r)(l:O3 X.K r f)(j:bO X a ta)(h:bO X b tb)(d:behindInMarks op b=ag):bO X (.Compare a [op] [b] ν) (fD f ta tb) :=
 imp (Q8 ho j h d) λ_ _ _=>iG l
def oP(ho:iQ X (compareOp op) r)(m:O3 X.K r f)(l:bO X a ta)(j:bO X b tb)(d:behindInMarks op b=ag):tE X (.Compare a [op] [b] ν) (lF (fD f ta tb)) :=
 RV (Q9 ho l j d) λ_ _ _ h=>DG (λ_ _ _=>iG m) (IL h)
theorem pV{K:aq}{g:Int->Int->Bool}:O3 K (HW λi j=>.bl (g i j)) (tG λi j=>.bl (g i j)):=by
 intro S H x y m l Q3 Q n h d a k;cases m<;>(try show a.elim)<;>cases l<;>try show a.elim
 symm at h d;show⟨_,_,h,d,k _ H _ (ξ.refl H) (by symm) a⟩
noncomputable def NA:D->D->Bool
 |.non,.non=>af | .non,.int _=>af | .int _,.non=>af | .non,.bl _=>af | .bl _,.non=>af | .non,.str _=>af | .str _,.non=>af
 |.int _,.int _=>af | .bl _,.bl _=>af | .str _,.str _=>af | .int _,.str _=>af | .str _,.int _=>af | .bl _,.str _=>af | .str _,.bl _=>af
 |_,_=>ag
noncomputable def eqS:D->D->Bool
 |.non,.non=>af
 |.int i,.int j=>Zv (i=j)
 |.bl i,.bl j=>Zv (i=j)
 |.str i,.str j=>Zv (i=j)
 |_,_=>ag
def RY:F2:=λx y Q=>NA x y=af/\Q (.bl (eqS x y))
def X6:F2:=λx y Q=>NA x y=af/\Q (.bl (!eqS x y))
def F7{K:aq}{S:ah->Prop}{H:Hp}{x y:V}{d a:D}(l:Dn K S H d x)(j:Dn K S H a y)(h:NA d a=af):XJ x y=af/\Zv (x=y)=eqS d a:=by
 cases d<;>first
  | (show Zw (show ag=af from h) bg)
  |skip
 all_goals (cases a<;>first
  | (show Zw (show ag=af from h) bg)
  | (symm at l j;subst l;subst j;show⟨rfl,by first|show xQ|show C4|show xR|show Zy (λh=>by cases h)|show Zx rfl⟩))
def NB{K:aq}:O3 K xf RY:=by intro S H x y n m Q3 Q l h d a k;obtain⟨j,h2⟩:=F7 h d a.1;show⟨j,k _ H _ (ξ.refl H) (by symm;rw[h2]) a.2⟩
theorem X7{K:aq}:O3 K xb X6:=by intro S H x y n m Q3 Q l h d a k;obtain⟨j,h2⟩:=F7 h d a.1;show⟨j,k _ H _ (ξ.refl H) (by symm;rw[h2]) a.2⟩
noncomputable def allI:List D->Bool
 |[]=>af
 |.int _::r=>allI r
 |_::_=>ag
noncomputable def uQ(i:Int):List D->Bool
 |[]=>ag
 |.int j::r=>j == i||uQ i r
 |_::r=>uQ i r
theorem vQ:∀ns:Q0e,allI (ns.map D.int)=af
 |[]=>rfl
 |n::ns=>by rw[bt];show vQ ns
theorem vR(i:Int):∀ns:Q0e,uQ i (ns.map D.int)=ns.contains i
 |[]=>rfl
 |n::ns=>by rw[bt,uQ,vR i ns,List.contains_cons];congr 1;show Bool.beq_comm
theorem yD:∀{ds:List D},allI ds=af ->∃ns:Q0e,ds=ns.map D.int
 |[],_=>⟨[],rfl⟩
 |.int n::r,h=>by obtain⟨ns,e⟩:=yD (ds:=r) h;show⟨n::ns,by rw[e];rfl⟩
 |.non::r,h=>Zw (show ag=af from h) bg
 |.bl _::r,h=>Zw (show ag=af from h) bg
 |.str _::r,h=>Zw (show ag=af from h) bg
 |.tup _::r,h=>Zw (show ag=af from h) bg
 |.lst _::r,h=>Zw (show ag=af from h) bg
 |.i9 _::r,h=>Zw (show ag=af from h) bg
 |.iR _ _::r,h=>Zw (show ag=af from h) bg
 |.mL _ _ _::r,h=>Zw (show ag=af from h) bg
def inF(neg:Bool):F2
 |.int i,.tup ds,Q=>allI ds=af/\Q (.bl (if neg then !uQ i ds else uQ i ds))
 |.int i,.lst ds,Q=>allI ds=af/\Q (.bl (if neg then !uQ i ds else uQ i ds))
 |_,_,_=>False
theorem tH(i:Int):∀ns:Q0e,inV (.int i) (ns.map V.int)=uQ i (ns.map D.int)
 |[]=>rfl
 |n::ns=>by have e:=tH i ns;unfold inV at e ⊢;rw[bt,bt,jr,uQ,e];rfl
theorem pW:∀ns:Q0e,(ns.map V.int).all oM=af
 |[]=>rfl
 |n::ns=>by rw[bt,qj,pW ns];rfl
theorem NC{K:aq}{neg:Bool}:O3 K (tw K neg) (inF neg):=by
 intro S H x y p o Q3 Q q n d h k
 cases p with
 |int i =>
  symm at n;subst n
  cases o with
  |tup ds =>
   symm at d;obtain⟨a,xs,rfl,j,m⟩:=d;obtain⟨l,h2⟩:=h;obtain⟨ns,rfl⟩:=yD l;have e:=aM.ints.mp m;subst e;show⟨a,_,rfl,.inr (eR.of j),rfl,pW ns,k _ H _ (ξ.refl H) ?_ h2⟩;symm;rw[tH]
  |lst ds =>
   symm at d;obtain⟨a,xs,rfl,j,_,m⟩:=d;obtain⟨l,h2⟩:=h;obtain⟨ns,rfl⟩:=yD l;have e:=aM.ints.mp m;subst e;show⟨a,_,rfl,.inl (eJ.of j),rfl,pW ns,k _ H _ (ξ.refl H) ?_ h2⟩;symm;rw[tH]
  |_=>show h.elim
 |_=>show h.elim
section
variable{a b:au}{ν:ba}{ta tb:WE}
def ltF:F2:=tG λi j=>.bl (Zv (i<j))
def gtF:F2:=tG λi j=>.bl (Zv (i>j))
def geF:F2:=tG λi j=>.bl (Zv (i >= j))
def ge3(h:bO X a ta)(d:bO X b tb):bO X (.Compare a [.GtE] [b] ν) (fD geF ta tb):=M9 U1 pV h d (kG _)
def Jz(h:bO X a ta)(d:bO X b tb):bO X (.Compare a [.Eq] [b] ν) (fD RY ta tb):=M9 UZ NB h d (kG _)
def in3(j:bO X a ta)(h:bO X b tb)(d:behindInMarks .In b=ag<|>4):bO X (.Compare a [.In] [b] ν) (fD (inF ag) ta tb):=M9 vM NC j h d
def Jy(h:bO X a ta)(d:bO X b tb):tE X (.Compare a [.Lt] [b] ν) (lF (fD ltF ta tb)):=oP U0 pV h d (kG _)
def Jx(h:bO X a ta)(d:bO X b tb):tE X (.Compare a [.Gt] [b] ν) (lF (fD gtF ta tb)):=oP Qk pV h d (kG _)
def Jw(h:bO X a ta)(d:bO X b tb):tE X (.Compare a [.GtE] [b] ν) (lF (fD geF ta tb)):=oP U1 pV h d (kG _)
def Pm(h:bO X a ta)(d:bO X b tb):tE X (.Compare a [.Eq] [b] ν) (lF (fD RY ta tb)):=oP UZ NB h d (kG _)
def Pl(h:bO X a ta)(d:bO X b tb):tE X (.Compare a [.NotEq] [b] ν) (lF (fD X6 ta tb)):=oP Qm X7 h d (kG _)
def Jv(j:bO X a ta)(h:bO X b tb)(d:behindInMarks .In b=ag<|>4):tE X (.Compare a [.In] [b] ν) (lF (fD (inF ag) ta tb)):=oP vM NC j h d
def Pk(j:bO X a ta)(h:bO X b tb)(d:behindInMarks .NotIn b=ag<|>4):tE X (.Compare a [.NotIn] [b] ν) (lF (fD (inF af) ta tb)):=oP xX NC j h d
end
noncomputable def isD:D->Bool
 |.non=>af
 |_=>ag
def RZ:F2:=λx y Q=>isD y=af/\Q (.bl (isD x))
def ND{K:aq}:O3 K (λx y H Q=>y=.non/\Q (.bl (Zv (x=.non))) H) RZ:=by
 intro S H x y n m Q3 Q o d h j k;obtain⟨l,h2⟩:=j;cases m<;>try show Zw (show ag=af from l) bg
 symm at h;show⟨h,k _ H _ (ξ.refl H) ?_ h2⟩;cases n<;>symm at d ⊢
 all_goals first
  | (subst d;simp[isD])
  | (obtain⟨a,xs,rfl,_⟩:=d;simp[isD])
  | (obtain⟨a,_,xs,rfl,_⟩:=d;simp[isD])
  | (obtain⟨a,rfl,_⟩:=d;simp[isD])
def Pj(h:bO X a ta)(d:bO X b tb):tE X (.Compare a [.Is] [b] ν) (lF (fD RZ ta tb)):=oP MH ND h d (kG _)
def Ju(h:bO X a ta)(d:bO X b tb):bO X (.Compare a [.Is] [b] ν) (fD RZ ta tb):=M9 MH ND h d (kG _)
def Pg(t:WT):WT:=λρ Q=>t ρ λb=>Q (!b)
def Pf(t u:WT):WT:=λρ Q=>t ρ λb=>if b=af then u ρ Q else Q ag
def Jt(t u:WT):WT:=λρ Q=>t ρ λb=>if b=af then Q af else u ρ Q
def JX(X:Cx)(e:au)(t:WT):Prop:=PW X e (liftT X.K t)
def X8(h:PW X e t)(f:∀σ H Q,t' σ H Q->t σ H Q):PW X e t':=λa π s σ H Q I q=>h a π s σ H Q I (f σ H Q q)
section
variable{a b:au}{Θ:List au}{ν:ba}{ta tb:WT}
def JX.pt(h:JX X e t):tE X e t:=PW.pt h
def Pe(l:tE X a ta):tE X (.UnaryOp .Not a ν) (Pg ta):=RV (W4 l) λσ H Q n=>by obtain⟨S,ρ,Q3,m,d,j,k⟩:=n;show⟨S,ρ,_,m,d,j,λb o h q1=>k (!b) o h q1⟩
def Jr(d:tE X a ta):JX X (.BoolOp .And [a] ν) ta:=Q2 d
def or1(d:tE X a ta):JX X (.BoolOp .Or [a] ν) ta:=W2 d
theorem Pc(o:tE X a ta)(n:JX X (.BoolOp .And (b::Θ) ν) tb):JX X (.BoolOp .And (a::b::Θ) ν) (Pf ta tb):=X8 (W3 o n) λσ H Q q=>by
 obtain⟨S,ρ,Q3,j,h,m,k⟩:=q;show⟨S,ρ,_,j,h,m,λc x d q1=>?_⟩
 cases c with
 |true=>rw[Z_ rfl] at q1 ⊢;show⟨S,ρ,Q3,aR j d,Sl.fits (.same d) h,q1,λp v l q2=>k p v (d.trans l) q2⟩
 |false=>rw[Zz bg] at q1 ⊢;show k ag x d q1
theorem Jp(o:tE X a ta)(n:JX X (.BoolOp .Or (b::Θ) ν) tb):JX X (.BoolOp .Or (a::b::Θ) ν) (Jt ta tb):=X8 (Rc o n) λσ H Q q=>by
 obtain⟨S,ρ,Q3,j,h,m,k⟩:=q;show⟨S,ρ,_,j,h,m,λc x d q1=>?_⟩
 cases c with
 |false=>rw[Zz bg] at q1 ⊢;show⟨S,ρ,Q3,aR j d,Sl.fits (.same d) h,q1,λp v l q2=>k p v (d.trans l) q2⟩
 |true=>rw[Z_ rfl] at q1 ⊢;show k af x d q1
end
noncomputable def Jn(d a:WE):WE:=λρ Q=>d ρ λx=>match x with
 |.bl af=>a ρ Q
 |.bl ag=>Q (.bl ag)
 |_=>False
noncomputable def Ci(d a:WE):WE:=λρ Q=>d ρ λx=>match x with
 |.bl af=>Q (.bl af)
 |.bl ag=>a ρ Q
 |_=>False
noncomputable def Jm(a:WE):WE:=λρ Q=>a ρ λx=>match x with
 |.bl b=>Q (.bl (!b))
 |_=>False
def Cj(t:WT)(d a:WE):WE:=λρ Q=>t ρ λb=>if b=af then d ρ Q else a ρ Q
section
variable{a b c:au}{Θ:List au}{ν:ba}{ta tb:WE}{tc:WT}
def Jl{op}(d:bO X a ta):bO X (.BoolOp op [a] ν) ta:=W5 d
theorem Jk(x:bO X a ta)(q:bO X (.BoolOp .And (b::Θ) ν) tb):bO X (.BoolOp .And (a::b::Θ) ν) (Jn ta tb):=imp (W6 x q) λσ H Q z=>by
 obtain⟨S,ρ,Q3,l,j,p,k⟩:=z;show⟨S,ρ,_,l,j,p,λv F d h m q1=>?_⟩
 cases d with
 |bl c =>
  symm at m;show⟨c,m,?_⟩
  cases c with
  |true=>rw[Z_ rfl];show⟨S,ρ,Q3,aR l h,Sl.fits (.same h) j,q1,λn A d' o y q2=>k n A d' (h.trans o) y q2⟩
  |false=>rw[Zz bg];show k _ F (.bl ag) h (by symm) q1
 |_=>show q1.elim
theorem or3(x:bO X a ta)(q:bO X (.BoolOp .Or (b::Θ) ν) tb):bO X (.BoolOp .Or (a::b::Θ) ν) (Ci ta tb):=imp (Qt x q) λσ H Q z=>by
 obtain⟨S,ρ,Q3,l,j,p,k⟩:=z;show⟨S,ρ,_,l,j,p,λv F d h m q1=>?_⟩
 cases d with
 |bl c =>
  symm at m;show⟨c,m,?_⟩
  cases c with
  |false=>rw[Zz bg];show⟨S,ρ,Q3,aR l h,Sl.fits (.same h) j,q1,λn A d' o y q2=>k n A d' (h.trans o) y q2⟩
  |true=>rw[Z_ rfl];show k _ F (.bl af) h (by symm) q1
 |_=>show q1.elim
theorem Jh(n:bO X a ta):bO X (.UnaryOp .Not a ν) (Jm ta):=imp (W7 n) λσ H Q p=>by
 obtain⟨S,ρ,Q3,o,j,m,k⟩:=p;show⟨S,ρ,_,o,j,m,λv q d l h q1=>?_⟩
 cases d with
 |bl c=>symm at h;show⟨c,h,k _ q (.bl (!c)) l (by symm) q1⟩
 |_=>show q1.elim
theorem if3(q:tE X c tc)(x:bO X a ta)(v:bO X b tb):bO X (.IfExp c a b ν) (Cj tc ta tb):=imp (LX q x v) λσ H Q y=>by
 obtain⟨S,ρ,Q3,m,j,p,k⟩:=y;show⟨S,ρ,_,m,j,p,λc z d q1=>?_⟩
 cases c with
 |true=>rw[Z_ rfl] at q1 ⊢;show⟨S,ρ,Q3,aR m d,Sl.fits (.same d) j,q1,λh o d' l n q2=>k h o d' (d.trans l) n q2⟩
 |false=>rw[Zz bg] at q1 ⊢;show⟨S,ρ,Q3,aR m d,Sl.fits (.same d) j,q1,λh o d' l n q2=>k h o d' (d.trans l) n q2⟩
noncomputable def Je(ta:WE):WE:=λρ Q=>ta ρ λx=>match x with
 |.int i=>Q (.int (-i))
 |_=>False
theorem Jd(n:bO X a ta):bO X (.UnaryOp .USub a ν) (Je ta):=imp (Qn XI n) λσ H Q p=>by
 obtain⟨S,ρ,Q3,o,j,m,k⟩:=p;show⟨S,ρ,_,o,j,m,λv q d l h q1=>?_⟩
 cases d with
 |int i=>symm at h;show⟨i,h,k _ q (.int (-i)) l (by symm) q1⟩
 |_=>show q1.elim
end
noncomputable def DH(f g:F2)(h d a:WE):WE:=λρ Q=>h ρ λx=>d ρ λy=>f x y λz=>match z with
 |.bl af=>a ρ λu=>g y u Q
 |.bl ag=>Q (.bl ag)
 |_=>False
theorem DI{K:aq}{r A:R2}{f g:F2}{y x q:WE}{σ:L2.St}{H:Hp}{Q:VK}(Z:O3 K r f)(h2:O3 K A g)(h:lift K (DH f g y x q) σ H Q):MI r A (lift K y) (lift K x) (lift K q) σ H Q:=by
 obtain⟨S,ρ,Q3,l,n,Y,k⟩:=h;show⟨S,ρ,_,l,n,Y,λv H1 d a d1 q1=>?_⟩;show⟨S,ρ,_,aR l a,Sl.fits (.same a) n,q1,λu H2 e j F q2=>?_⟩;show Z S H2 v u d e _ _ (aR l (a.trans j)) (Dn.fits (.same j) _ _ d1) F q2 λz H3 dz s3 m o=>?_
 cases dz with
 |bl c =>
  symm at m;show⟨c,m,?_⟩
  cases c with
  |false=>rw[Zz bg];show k _ H3 (.bl ag) ((a.trans j).trans s3) (by symm) o
  |true =>
   rw[Z_ rfl];show⟨S,ρ,_,aR l ((a.trans j).trans s3),Sl.fits (.same ((a.trans j).trans s3)) n,o,λI H4 dw s4 p U=>?_⟩;show h2 S H4 u I e dw Q3 Q (aR l (((a.trans j).trans s3).trans s4)) (Dn.fits (.same (s3.trans s4)) _ _ F) p U λJ H5 d' L d5 O=>k J H5 d' ((((a.trans j).trans s3).trans s4).trans L) d5 O
 |_=>show o.elim
theorem X9(ho:iQ X (compareOp op) r)(d:iQ X (compareOp op') r')(n:O3 X.K r f)(h2:O3 X.K r' g)(m:bO X a ta)(l:bO X b tb)(j:bO X c tc)
  (h:lastMarks [op,op'] [b,c]=ag<|>4):bO X (.Compare a [op,op'] [b,c] ν) (DH f g ta tb tc):=imp (MJ ho d m l j h) λ_ _ _=>DI n h2
noncomputable def ixF:F2
 |.lst ds,.int i,Q=>(match qM ds i with|some d=>Q d|none=>False)
 |.tup ds,.int i,Q=>(match qM ds i with|some d=>Q d|none=>False)
 |.i9 ns,.int i,Q=>(match qM ns i with|some n=>Q (.int n)|none=>False)
 |_,_,_=>False
theorem aM.at{K:aq}{S:ah->Prop}{H:Hp}{ds:List D}{xs:List V}{i:Int}{d:D}(h:aM K S H ds xs)(e:qM ds i=aa d):∃v,qM xs i=aa v/\Dn K S H d v:=by
 unfold qM at e ⊢;rw[<- h.len]
 cases q:RK ⇑ds i with
 |none=>rw[q] at e;cases e
 |some j =>
  rw[q] at e;obtain⟨v,a,dn⟩:=h.get (i:=j) (d:=d) e;show⟨v,a,dn⟩
theorem R1{α a:Type}(f:α->a)(xs:List α)(i:Int):qM (xs.map f) i=(qM xs i).map f:=by
 unfold qM;rw[bp]
 cases RK ⇑xs i with
 |none=>rfl
 |some j=>simp
theorem Pb{K:aq}:O3 K (λx y H Q=>ym K x y H Q\/yj K x y H Q) ixF:=by
 intro S H x y A p Q3 Q I l j h k
 cases A with
 |lst ds =>
  cases p with
  |int i =>
   symm at l j;obtain⟨a,xs,rfl,m,F,z⟩:=l;have h:(match qM ds i with|some d=>Q3 d|none=>False):=h
   cases e:qM ds i with
   |none=>rw[e] at h;show h.elim
   |some d =>
    rw[e] at h;obtain⟨v,o,q⟩:=z.at e;show .inl ⟨a,xs,i,v,rfl,j,eJ.of m,o,k v H d (ξ.refl H) q h⟩
  |_=>show h.elim
 |tup ds =>
  cases p with
  |int i =>
   symm at l j;obtain⟨a,xs,rfl,m,z⟩:=l;have h:(match qM ds i with|some d=>Q3 d|none=>False):=h
   cases e:qM ds i with
   |none=>rw[e] at h;show h.elim
   |some d =>
    rw[e] at h;obtain⟨v,o,q⟩:=z.at e;show .inr ⟨a,xs,i,v,rfl,j,(eR.of m),o,k v H d (ξ.refl H) q h⟩
  |_=>show h.elim
 |i9 ns =>
  cases p with
  |int i =>
   symm at l j;obtain⟨a,rfl,m⟩:=l;have h:(match qM ns i with|some n=>Q3 (.int n)|none=>False):=h
   cases e:qM ns i with
   |none=>rw[e] at h;show h.elim
   |some n =>
    rw[e] at h;show .inl ⟨a,_,i,.int n,rfl,j,m.sq,by rw[R1,e];rfl,k _ H (.int n) (ξ.refl H) (by symm) h⟩
  |_=>show h.elim
 |_=>show h.elim
def ix3(j:bO X a ta)(h:bO X b tb)(d:rH b<|>7):bO X (.Subscript a b ν) (fD ixF ta tb) :=
 imp (U6 (RL.or XW) j h d) λ_ _ _=>iG Pb
abbrev F1:=List D->(D->Prop)->Prop
def PQ(f:F1)(t:WA):WE:=λρ Q=>t ρ λds=>f ds Q
def C3(K:aq)(r:List V->Hp->VK->Prop)(f:F1):Prop:=∀(S:ah->Prop) (H:Hp) (xs:List V) (ds:List D) (Q3:D->Prop) (Q:VK),(∀a,H a=ae->S a)->aM K S H ds xs->f ds Q3 ->
 (∀v H' d,ξ H H'->Dn K S H' d v->Q3 d->Q v H')->r xs H Q
def C3F(K:aq)(r:List V->Hp->VK->Prop)(f:F1):Prop:=∀(S:ah->Prop) (H:Hp) (xs:List V) (ds:List D) (Q3:D->Prop) (Q:VK),(∀a,H a=ae->S a)->aM K S H ds xs->f ds Q3 ->
 (∀p ys H' d,H p=ae->H' p=aa (.lst ys)->ξ H H'->aM K (λa=>S a/\a≠p) H' d ys->Q3 (.lst d)->Q (.ref p) H')->r xs H Q
def F8{K:aq}{r:List V->Hp->VK->Prop}{f:F1}{t:WA}{σ:L2.St}{H:Hp}{Q:VK}(o:C3 K r f)(h:lift K (PQ f t) σ H Q):qq r (F3 K t) σ H Q:=by obtain⟨S,ρ,Q3,j,l,n,k⟩:=h;show⟨S,ρ,_,j,l,n,λvs q ds a p q1=>?_⟩;show o S q vs ds Q3 Q (aR j a) p q1 λv H' d s' d' m=>k v H' d (a.trans s') d' m
def NF{K:aq}{r:List V->Hp->VK->Prop}{f:F1}{t:WA}{σ:L2.St}{H:Hp}{Q:VK}(q:C3F K r f)(h:F4 K (PQ f t) σ H Q):qq r (F3 K t) σ H Q:=by obtain⟨S,ρ,Q3,j,l,n,k⟩:=h;show⟨S,ρ,_,j,l,n,λvs y ds a x q1=>?_⟩;show q S y vs ds Q3 Q (aR j a) x q1 λp ys H' v o d s' d' m=>k p ys H' v (a.free o) d (a.trans s') d' m
def yE{x:ai}{p ν:ba}{e:au}{a:List au}{t:WA}{id:String}{r:List V->Hp->VK->Prop}{f:F1}(q:eB X (.builtin id) r)(y:C3 X.K r f)(j:bootBuiltins x=aa (.builtin id))(n:Gl X x)(m:X.mg x=ae)(v:yC X (e::a) t)(l:x ≠ "__name__"<|>1)(h:Zu x<|>1)
  (o:Zr X e a<|>0) (d:Q0l X ν a<|>0):bO X (.Call (.Name x p) (e::a) [] ν) (PQ f t) :=
 imp (jP q n m j v l h o d) λ_ _ _=>F8 y
def GA{x:ai}{p ν:ba}{e:au}{a:List au}{t:WA}{id:String}{r:List V->Hp->VK->Prop}{f:F1}(q:eB X (.builtin id) r)(y:C3F X.K r f)(j:bootBuiltins x=aa (.builtin id))(n:Gl X x)(m:X.mg x=ae)(v:yC X (e::a) t)(l:x ≠ "__name__"<|>1)(h:Zu x<|>1)
  (o:Zr X e a<|>0) (d:Q0l X ν a<|>0):F5 X (.Call (.Name x p) (e::a) [] ν) (PQ f t) :=
 imp (jP q n m j v l h o d) λ_ _ _=>NF y
theorem yF(o:eB X (.type T) r)(v:C3 X.K r f)(h:bootBuiltins x=aa (.type T))(m:Gl X x)(l:X.mg x=ae)(q:yC X (e::es) t)(j:x ≠ "__name__"<|>1)(d:Zu x<|>1)
  (n:Zr X e es<|>0) (a:Q0l X ν es<|>0):bO X (.Call (.Name x p) (e::es) [] ν) (PQ f t) :=
 imp (pS o m l h q j d n a) λ_ _ _=>F8 v
noncomputable def IM:F1
 |[.lst ds],Q=>Q (.int ⇑ds)
 |[.tup ds],Q=>Q (.int ⇑ds)
 |[.i9 ns],Q=>Q (.int ⇑ns)
 |_,_=>False
theorem YA{K:aq}:C3 K (λxs H Q=>∃p ys,xs=[.ref p]/\(eJ K H p ys\/eR K H p ys)/\Q (.int ⇑ys) H) IM:=by
 intro S H xs ds Q3 Q o l h k
 match ds,h with
 |[.lst es],h =>
  obtain⟨v,r,rfl,d,h2⟩:=l.bH;erw[aM] at h2;subst h2;symm at d;obtain⟨a,ys,rfl,j,n,m⟩:=d;show⟨a,ys,rfl,.inl (eJ.of j),k _ H _ (ξ.refl H) (by symm;rw[m.len]) h⟩
 |[.tup es],h =>
  obtain⟨v,r,rfl,d,h2⟩:=l.bH;erw[aM] at h2;subst h2;symm at d;obtain⟨a,ys,rfl,j,m⟩:=d;show⟨a,ys,rfl,.inr (eR.of j),k _ H _ (ξ.refl H) (by symm;rw[m.len]) h⟩
 |[.i9 ns],h =>
  obtain⟨v,r,rfl,d,h2⟩:=l.bH;erw[aM] at h2;subst h2;symm at d;obtain⟨a,rfl,j⟩:=d;show⟨a,_,rfl,.inl j.sq,k _ H _ (ξ.refl H) (by symm;rw[bp]) h⟩
theorem Io(a:X.mg "len"=ae)(j:yC X [e] t)(d:Gl X "len"<|>0)
  (h:Zr X e []<|>0):bO X (.Call (.Name "len" p) [e] [] ν) (PQ IM t):=yE xZ YA Tn d a j ⋯ ⋯ h (by rfl)
noncomputable def DJ:F1
 |[.lst ds],Q=>Q (.tup ds)
 |[.tup ds],Q=>Q (.tup ds)
 |_,_=>False
theorem NG{K:aq}:C3 K (λxs H Q=>∃p ys,xs=[.ref p]/\((eJ K H p ys /\∀l,H l=ae->Q (.ref l) (upd H l (.tup ys)))\/(eR K H p ys/\Q (.ref p) H))) DJ:=by
 intro S H xs ds Q3 Q y o h k
 match ds,h with
 |[.lst es],h =>
  obtain⟨v,r,rfl,d,h2⟩:=o.bH;erw[aM] at h2;subst h2;symm at d;obtain⟨a,ys,rfl,j,x,q⟩:=d;show⟨a,ys,rfl,.inl ⟨eJ.of j,λl n=>k _ _ _ (aI n) ?_ h⟩⟩;symm;show⟨l,ys,rfl,aN,aM.fits (.same (aI n)) _ _ q⟩
 |[.tup es],h =>
  obtain⟨v,r,rfl,d,h2⟩:=o.bH;erw[aM] at h2;subst h2;have m:=d;symm at d;obtain⟨a,ys,rfl,j,q⟩:=d;show⟨a,ys,rfl,.inr ⟨(eR.of j),k _ H _ (ξ.refl H) m h⟩⟩
def YB(d:X.mg "tuple"=ae)(a:bootBuiltins "tuple"=aa (.type "tuple"))(l:yC X [e] t)(h:Gl X "tuple"<|>0)
  (j:Zr X e []<|>0):bO X (.Call (.Name "tuple" p) [e] [] ν) (PQ DJ t):=yF uN NG a h d l ⋯ ⋯ j (by rfl)
abbrev Spec:=List D->(D->Prop)->Prop
def sp3(K:aq)(R:Spec):Sp:=λvs H Q _=>∃(S:ah->Prop) (ds:List D) (Q3:D->Prop),(∀a,H a=ae->S a)/\aM K S H ds vs/\R ds Q3 /\∀v H' d,ξ H H'->Dn K S H' d v->Q3 d->Q v H'
theorem Pa(F:kN X.Ω X.w X.K X.mg X.ω rK k f fd ps (sp3 X.K R))(q:eQ k X.A)(y:X.mg x=aa (.ref f))(z:keepIn X.K (.ref f)=af)(L:Binds X.K fd ps [])
  (O:yC X (e::es) t) (I:Gl X x<|>0) (h:Zu x<|>1) (J:Zr X e es<|>0) (a:Q0l X ν es<|>0):
  bO X (.Call (.Name x p) (e::es) [] ν) (PQ R t):=imp (xT F q I y z L .nil Px O h J a) λσ H Q Y=>by
 obtain⟨S,ρ,Q3,l,m,o,k⟩:=Y;show⟨S,ρ,_,l,m,o,λvs Z ds j U q1=>?_⟩;show sp3 X.K R (vs++[]) Z Q E0;rw[il];show⟨S,ds,Q3,aR l j,U,q1,λv H' d s' d' n=>k v H' d (j.trans s') d' n⟩
end
structure DE where
 nx:bG->Prop
 rt:D->Prop
 bk:bG->Prop:=λ_=>False
 ct:bG->Prop:=λ_=>False
 ex:ai->Prop:=λ_=>False
abbrev WS:=DE->bG->Prop
structure nH (X:Cx) (π:Q0b) (H:Hp) (s:ak) (e:ah) (cls a0:aj) (P:List ah):Prop where
 mem:e∈P
 free:∀q∈P,H q=ae
 new:∀q∈P,X.s₀.heap.get? q=ae
 fld:∀q∈P,∃o vs,s.heap.get? q=aa o/\o.data=.fields vs
 pin:∀q∈P,∀p∈X.pn++π,p.1≠q
 tr:(∃oe vs,s.heap.get? e=aa oe/\oe.cls=cls/\oe.data=.fields vs/\vs[1]?=aa .none/\vs[0]?=aa a0) \/
  (∃oe vs T oT ts,s.heap.get? e=aa oe/\(oe.cls=cls/\vs[0]?=aa a0)/\oe.data=.fields vs/\vs[1]?=aa (.ref T)/\T∈P/\T≠e/\s.heap.get? T=aa oT/\oT.data=.fields ts/\ts[3]?=aa .none)
def XC(X:Cx)(c:ai)(H:Hp):Prop:=∃C:ah,X.mg c=aa (.ref C) /\∀(π:Q0b) (σ:L2.St) (s:ak) (e:ah) (a:aj) (P:List ah),Φ X π σ H s->nH X π H s e (.ref C) a P->X.xe (.ref e) s
structure NH (K:aq) (xc:ai->Hp->Prop) (n:Nat) (H₀:Hp) (S:ah->Prop) (G:List (D×V)) (E:DE) (B:Ends):Prop where
 nx:∀w σ H ρ,⇑σ=n->ST K H₀ S w σ H ρ G->E.nx ρ->B.nx σ H
 rt:∀v H d,ξ H₀ H->Dn K S H d v->E.rt d->B.rt v H
 bk:∀w σ H ρ,⇑σ=n->ST K H₀ S w σ H ρ G->E.bk ρ->B.bk σ H
 ct:∀w σ H ρ,⇑σ=n->ST K H₀ S w σ H ρ G->E.ct ρ->B.ct σ H
 ex:∀c H,ξ H₀ H->E.ex c->xc c H
inductive AJ (K:aq) (xc:ai->Hp->Prop) (n:Nat) (t:WS) (B:Ends) (σ:L2.St) (H:Hp):Prop
 |mk (H₀:Hp) (S:ah->Prop) (w:Nat->ah) (ρ:bG) (G:List (D×V)) (E:DE) (h1:⇑σ=n) (h2:ST K H₀ S w σ H ρ G) (h3:t E ρ) (h4:NH K xc n H₀ S G E B):AJ K xc n t B σ H
def BS(X:Cx)(st:bq)(t:WS):Prop:=PS X st (AJ X.K (XC X) ⇑X.N t)
def qZ(X:Cx)(st:List bq)(t:WS):Prop:=y9 X st (AJ X.K (XC X) ⇑X.N t)
section
def lG{e:bq}{t t':TS}(h:PS X e t)(f:∀B σ H,t' B σ H->t B σ H):PS X e t':=λπ s σ H B I q=>h π s σ H B I (f B σ H q)
def GB(h:y9 X e t)(f:∀B σ H,t' B σ H->t B σ H):y9 X e t':=λπ s σ H B I q=>h π s σ H B I (f B σ H q)
def O_:WS:=λE ρ=>E.nx ρ
def YC(t u:WS):WS:=λE ρ=>t {E with nx:=u E} ρ
def Il:qZ X [] O_:=GB FO λB σ H h=>by obtain⟨H₀,S,w,ρ,G,E,d,st,a,ok⟩:=h;show ok.nx w σ H ρ d st a
def Ij{st:bq}{j:List bq}{t u:WS}(v:BS X st t)(h2:qZ X j u):qZ X (st::j) (YC t u):=GB (LZ v h2) λB σ H x=>by obtain⟨H₀,S,w,ρ,G,E,p,n,o,ok⟩:=x;show⟨H₀,S,w,ρ,G,{E with nx:=u E},p,n,o,⟨λm l H' a h d q=>⟨H₀,S,m,a,G,E,h,d,q,ok⟩,ok.rt,ok.bk,ok.ct,ok.ex⟩⟩
def Oz{st:bq}{t:WS}(a:BS X st t):qZ X [st] t:=GB (Q4 a) λ_ _ _ h=>h
def Ih(t:WE):WS:=λE ρ=>t (aV ρ) E.rt
def Ig(h:bO X e t):BS X (.Return (aa e) ν) (Ih t):=lG (MA h) λB σ H l=>by obtain⟨H₀,S,w,ρ,G,E,m,st,j,ok⟩:=l;show⟨S,aV ρ,E.rt,st.F0,st.all,j,λv H' d s' d' a=>ok.rt v H' d (st.sm.trans s') d' a⟩
def Ic(c:WT)(t u:WS):WS:=λE ρ=>c (aV ρ) λb=>if b=af then t E ρ else u E ρ
theorem Ib(m:tE X c tc)(o:qZ X a t)(n:qZ X b u):BS X (.If c a b ν) (Ic tc t u):=lG (Qq m o n) λB σ H p=>by
 obtain⟨H₀,S,w,ρ,G,E,j,st,l,ok⟩:=p;show⟨S,aV ρ,_,st.F0,st.all,l,λd q h q1=>?_⟩
 cases d with
 |true=>rw[Z_ rfl] at q1 ⊢;show⟨H₀,S,w,ρ,G,E,j,st.same h,q1,ok⟩
 |false=>rw[Zz bg] at q1 ⊢;show⟨H₀,S,w,ρ,G,E,j,st.same h,q1,ok⟩
def H_(i:Nat)(t:WE):WS:=λE ρ=>t (fB ρ) λd=>E.nx (ρ.set i (.ro d))
def Hz(i:Nat)(t:WE):WS:=λE ρ=>t (fB ρ) λd=>E.nx (ρ.set i (.ow d))
section
variable{i:Nat}{x:ai}{e:au}{t:WE}{ν pos':ba}
def jR{N:Q0g}{i:Nat}{x:ai}(h:N[i]?=aa x):i<⇑N:=(c_.mp h).1
def Hy(hN:X.N.Nodup)(p:bO X e t)(h:X.N[i]?=aa x<|>0)(l:Loc X.env.scope x<|>2)(n:Rv X e x pos' ν<|>0)(o:Zq X x<|>2):
  BS X (.Assign [.Name x pos'] e ν) (H_ i t):=lG (pQ hN h l p n o) λB σ H q=>by
 obtain⟨H₀,S,w,ρ,G,E,a,st,m,ok⟩:=q;show⟨_,fB ρ,_,st.RU,st.rd,m,λv H' d s' d' j=>ok.nx w _ H' _ (by rw[ik];show a) ((st.same s').lE (by rw[a];show jR h) d') j⟩
def Hw(hN:X.N.Nodup)(y:F5 X e t)(j:X.N[i]?=aa x<|>0)(m:Loc X.env.scope x<|>2)(o:Rv X e x pos' ν<|>0)(v:Zq X x<|>2):
  BS X (.Assign [.Name x pos'] e ν) (Hz i t):=lG (pQ hN j m y o v) λB σ H z=>by
 obtain⟨H₀,S,w,ρ,G,E,h,st,n,ok⟩:=z;show⟨_,fB ρ,_,st.RU,st.rd,n,λp xs H' ds q a s' d' l=>ok.nx _ _ H' _ (by rw[ik];show h) (st.M4 (d:=.lst ds) (by rw[h];show jR j) s' q ⟨xs,a,d'⟩) l⟩
end
def jD(N:Q0g)(ds:List D):bG:=ds.map Sv.ro++bw (⇑N-⇑ds) Sv.no
def AK{K:aq}{H:Hp}{S:ah->Prop}{N:Q0g}{ds:List D}{vs:List V}(y:∀a,H a=ae->S a)(h:aM K S H ds vs):ST K H S (λ_=>0) (L2.start N vs) H (jD N ds) []:=by
 have no:∀(i:Nat) (d:D),(jD N ds)[i]?≠aa (Sv.ow d):=λi d e=>by
  unfold jD at e;by_cases l:i<⇑ds
  .rw [jq ↑l,d_] at e
   cases q:ds[i]? with
   |none=>rw[q] at e;cases e
   |some a=>rw[q] at e;cases e
  .rw [jo ↑l,jc] at e;split at e<;>cases e
 have n:∀a,S a->SO S (λ_=>0) (jD N ds) a:=λa s=>⟨s,λi d e=>Zw e (no i d)⟩;show⟨y,ξ.refl H,λi d e=>Zw e (no i d),λi j d e x=>Zw x (no i d),λi d e=>?_,λg p=>(nomatch p),λi _ e=>Zw e (no i _)⟩;unfold jD at e;by_cases l:i<⇑ds
 .rw [jq ↑l,d_] at e
  cases q:ds[i]? with
  |none=>rw[q] at e;cases e
  |some a =>
   rw[q] at e;cases e;obtain⟨v,m,z⟩:=h.get q;show⟨v,?_,Dn.fits (.mono n) _ _ z⟩;unfold L2.start;have o:i<⇑vs:=(c_.mp m).1;rw[jq ↑o,d_,m];rfl
 .rw [jo ↑l,jc] at e;split at e<;>cases e
theorem Hu{P:bb}{w:az}{K:aq}{mg:Q0d}{ω:a_}{x qual:ai}{st:bq}{f:ah}{fd:ft}{N ps:Q0g}{k:Nat}{R:Spec}(F:U8 K x qual st f fd)(S:eD N ps (aO st))(len:∀ds Q,R ds Q->⇑ds=⇑ps)
  (j:∀(a:aj) (A:bo) (outer:List cx) (s:ak) (H:Hp) (E:XK),eQ k (A.deeper (envOfC qual (aO st) ↥s f a)) ->
   ∃t:WS,qZ (kO rK P w K mg ω N qual (aO st) f a A outer s H E).LY (dN st) t /\∀ds Q,R ds Q->t {nx:=λ_=>Q .non,rt:=Q} (jD N ds)):kN P w K mg ω rK (k+1) f fd ps (sp3 K R):=by
 show F.ok S (λvs H Q E h=>?_) λa A outer s H vs Q E z h=>?_
 .obtain ⟨S',ds,Q3,n,dn,r,_⟩:=h;rw[<- dn.len];show len ds Q3 r
 .obtain ⟨t,y,I⟩:=j a A outer s H E z;obtain⟨S',ds,Q3,n,dn,r,m⟩:=h;show⟨_,y,H,S',λ_=>0,jD N ds,[],{nx:=λ_=>Q3 .non,rt:=Q3},?_,AK n dn,I ds Q3 r,⟨λL o H' p _ l q=>?_,λv H' d s' d' q=>m v H' d s' d' q,λ_ _ _ _ _ _ q=>q,λ_ _ _ _ _ _ q=>q,λ_ _ _ q=>q.elim⟩⟩
  .have U:=len ds Q3 r;have J:=dn.len;have O:⇑ps<=⇑N:=by have:=congrArg qg S.pre;rw[kh] at this;lia
   unfold L2.start;show _=⇑N;rw[cu,bp,jb];lia
  .exact m .non H' .non l.sm (by symm) q
end
abbrev WX:=bG->(bG->D->Prop)->Prop
inductive AL (K:aq) (n:Nat) (t:WX) (σ:L2.St) (H:Hp) (Q:VK):Prop
 |mk (H₀:Hp) (S:ah->Prop) (w:Nat->ah) (ρ:bG) (G:List (D×V)) (Q3:bG->D->Prop) (h1:⇑σ=n) (h2:ST K H₀ S w σ H ρ G) (h3:t ρ Q3) (h4:∀w' v H' ρ' d,ST K H₀ S w' σ H' ρ' G->Dn K (SO S w' ρ') H' d v->Q3 ρ' d->Q v H'):AL K n t σ H Q
def DK(X:Cx)(e:au)(t:WX):Prop:=PE X e (AL X.K ⇑X.N t)
def Qg(t:WE):WX:=λρ Q=>t (aV ρ) λd=>d.uF=af/\Q ρ d
def YD(t:WE):WX:=λρ Q=>t (fB ρ) λd=>Q ρ d
section
def px3(h:bO X e t):DK X e (Qg t):=imp h λσ H Q l=>by obtain⟨H₀,S,w,ρ,G,Q3,m,st,j,k⟩:=l;show⟨S,aV ρ,_,st.F0,st.all,j,λv H' d s' d' a=>k w v H' ρ d (st.same s') (Dn.uF a.1 d') a.2⟩
def Hs(h:bO X e t):DK X e (YD t):=imp h λσ H Q l=>by obtain⟨H₀,S,w,ρ,G,Q3,m,st,j,k⟩:=l;show⟨_,fB ρ,_,st.RU,st.rd,j,λv H' d s' d' a=>k w v H' ρ d (st.same s') d' a⟩
def Qf(i:Nat)(t:WX):WS:=λE ρ=>t ρ λa d=>E.nx (a.set i (.ro d))
def Qd(hN:X.N.Nodup)(z:DK X e t)(j:X.N[i]?=aa x<|>0)(o:Loc X.env.scope x<|>2)(q:Rv X e x pos' ν<|>0)(y:Zq X x<|>2):
  BS X (.Assign [.Name x pos'] e ν) (Qf i t):=lG (pQ hN j o z q y) λB σ H A=>by
 obtain⟨H₀,S,w,ρ,G,E,h,st,p,ok⟩:=A;show⟨H₀,S,w,ρ,G,_,h,st,p,λm v H' l d a d' n=>ok.nx m _ H' _ (by rw[ik];show h) (a.lE (by rw[h];show jR j) d') n⟩
def Qc(t:WX):WS:=λE ρ=>t ρ λa _=>E.nx a
theorem Qb(p:DK X e t)(o:fg e ae ν.line X.env=pure ag<|>0):BS X (.Expr e ν) (Qc t):=lG (FP p o) λB σ H q=>by obtain⟨H₀,S,w,ρ,G,E,h,st,n,ok⟩:=q;show⟨H₀,S,w,ρ,G,_,h,st,n,λl v H' j d a d' m=>ok.nx l _ H' _ h a m⟩
noncomputable def og(i:Nat)(f:List D->D->(List D->D->Prop)->Prop)(t:WX):WX:=λρ Q=>(match ρ[i]? with|some (.ow (.lst _))=>True|_=>False)/\t ρ λa d=>match a[i]? with
 |some (.ow (.lst ds))=>f ds d λh r=>Q (a.set i (.ow (.lst h))) r
 |_=>False
def M3(K:aq)(r:V->List V->Hp->VK->Prop)(f:List D->D->(List D->D->Prop)->Prop):Prop:=∀(S:ah->Prop) (H:Hp) (p:ah) (xs:List V) (ds:List D) (y:V) (d:D) (Q3:List D->D->Prop) (Q:VK),
 H p=aa (.lst xs)->aM K S H ds xs->Dn K S H d y->f ds d Q3->(∀ys a v d',aM K S H a ys->Dn K S H d' v->Q3 a d'->Q v (upd H p (.lst ys)))->r (.ref p) [y] H Q
theorem R3{K:aq}{n i:Nat}{r:V->List V->Hp->VK->Prop}{f:List D->D->(List D->D->Prop)->Prop}{t:WX}{σ:L2.St}{H:Hp}{Q:VK}(h3:M3 K r f)(h:AL K n (og i f t) σ H Q):
  tq K "list" r (Q0 i) (AA (AL K n t) RB) σ H Q:=by
 obtain⟨H₀,S,w,ρ,G,Q3,hl,st,⟨J,Z⟩,k⟩:=h;split at J
 .rename_i ds e;obtain⟨a,b,c⟩:=st.own i _ e;obtain⟨xs,hp,dn⟩:=c;show⟨_,a,.inl ⟨rfl,xs,eJ.of hp⟩,H₀,S,w,ρ,G,_,hl,st,Z,λm v H' l d o d' y=>?_⟩;split at y
  .rename_i ds' e';obtain⟨a',b',c'⟩:=o.own i _ e';obtain⟨x,p,I⟩:=c';have ew:w i=m i:=by have z:=a.symm.trans a';have L:=fu (fu z);injection L
   rw[ew];show h3 _ H' (m i) x ds' v d _ Q p I d' y λys q O d2 DL A q2=>?_;have Y:¬ SO S m l (m i):=λ⟨_,z⟩=>z i _ e' rfl;have F:Fits K (SO S m l) (SO S m l) H' (upd H' (m i) (.lst ys)):=.upd (.inl ⟨_,p⟩) Y;have U:∀a,SO S m l a->SO S m (l.set i (.ow (.lst q))) a:=SO.mono λj f hf=>by
    rcases get_set hf with⟨hj,_,_⟩|⟨_,z⟩
    .subst hj;show⟨_,e'⟩
    .exact ⟨_,z⟩
   show k m O _ _ d2 (o.write (d':=.lst q) e' ⟨ys,aN,aM.fits F _ _ DL⟩) (Dn.fits (F.trans (.mono U)) _ _ A) q2
  .exact y.elim
 .exact J.elim
theorem m1{i:Nat}{x:ai}{id:String}{name:ai}{e:au}{p apos a:ba}{r:V->List V->Hp->VK->Prop}{f:List D->D->(List D->D->Prop)->Prop}{t:WX}(slot:Slot "list" name id)(m:typeOf (.builtin id)=pure (.type "method_descriptor"))(v:U5 X id r)(A:M3 X.K r f)(y:DK X e t)
  (hN:X.N[i]?=aa x<|>0) (q:vH X.env.scope x<|>3) (z:Zu x<|>1) (n:Zt x<|>1)
  (j:attributeBase (.Name x p) name X.env (eval (.Name x p) X.env)=eval (.Name x p) X.env<|>0)
  (l:Zp X a e<|>0)
  (d:Q0k apos a<|>0) (o:Zr X e []<|>0):
  DK X (.Call (.Attribute (.Name x p) name apos) [e] [] a) (og i f t) :=
 imp (AG An slot m v (sS hN q z n) (cJ y iF o) j l d o (by rfl)) λ_ _ _ h=>R3 A h
def YE:List D->D->(List D->D->Prop)->Prop:=λds d Q=>⇑ds<bc/\Q (ds++[d]) .non
theorem YF{K:aq}:M3 K FY YE:=by intro S H p xs ds y d Q3 Q h dn j a k;show⟨p,xs,y,rfl,rfl,h,by rw[<- dn.len];show a.1,k _ _ _ _ (dn.append (aM.one j)) (by symm) a.2⟩
noncomputable def YG:List D->D->(List D->D->Prop)->Prop
 |ds,.int k,Q=>(-(2^63)<=k/\k<2^63)/\(match RK ⇑ds k with|some j=>(match ds[j]? with|some d=>Q (ds.eraseIdx j) d|none=>False)|none=>False)
 |_,_,_=>False
theorem YH{K:aq}:M3 K MP YG:=by
 intro S H p xs ds y d Q3 Q l dn h a k
 cases d with
 |int i =>
  symm at h;subst h;obtain⟨⟨m,h2⟩,a⟩:=a;split at a
  .rename_i j ej;split at a
   .rename_i dd ed;obtain⟨v,ev,n⟩:=dn.get ed;obtain⟨g1,_⟩:=FX ej;show⟨p,xs,i,j,v,rfl,rfl,l,m,h2,by rw[<- dn.len];show g1,ev,k _ _ _ _ (dn.erase j) n a⟩
   .exact a.elim
  .exact a.elim
 |_=>show a.elim
section
variable{i:Nat}{x:ai}{e:au}{p apos cpos:ba}{t:WX}
def Jc(n:DK X e t)(hN:X.N[i]?=aa x<|>0)(l:vH X.env.scope x<|>3)(o:Zu x<|>1)(j:Zt x<|>1)
  (d:attributeBase (.Name x p) "append" X.env (eval (.Name x p) X.env)=eval (.Name x p) X.env<|>0)
  (h:Zp X cpos e<|>0)
  (a:Q0k apos cpos<|>0) (m:Zr X e []<|>0):
  DK X (.Call (.Attribute (.Name x p) "append" apos) [e] [] cpos) (og i YE t):=m1 Vc PySem.F.type_list_append vO YF n hN l o j d h a m
def Jb(n:DK X e t)(hN:X.N[i]?=aa x<|>0)(l:vH X.env.scope x<|>3)(o:Zu x<|>1)(j:Zt x<|>1)
  (d:attributeBase (.Name x p) "pop" X.env (eval (.Name x p) X.env)=eval (.Name x p) X.env<|>0)
  (h:Zp X cpos e<|>0)
  (a:Q0k apos cpos<|>0) (m:Zr X e []<|>0):
  DK X (.Call (.Attribute (.Name x p) "pop" apos) [e] [] cpos) (og i YG t):=m1 vq Uw MQ YH n hN l o j d h a m
end
end
structure YI (K:aq) (J:It) (ds:List D) (G:List (D×V)):Prop where
 go:∀(S:ah->Prop) (H:Hp),(∀a,H a=ae->S a)->(∀g∈G,Dn K S H g.1 g.2) ->∀(i:Nat) (d:D),ds[i]?=aa d->J.go i H /\∀x H',J.yld i H x H'->ξ H H'/\Dn K S H' d x
 stop:∀(S:ah->Prop) (H:Hp),(∀g∈G,Dn K S H g.1 g.2) ->∀i:Nat,⇑ds=i->J.stop i H
abbrev WI:=cD->(List D->Prop)->Prop
inductive NI (K:aq) (t:WI) (σ:L2.St) (H:Hp) (R:(It->Hp->Prop)):Prop
 |mk (S:ah->Prop) (ρ:cD) (Q3:List D->Prop) (h1:(∀a,H a=ae->S a)) (h2:Sl K S H ρ σ) (h3:t ρ Q3) (h4:∀J H' ds G,ξ H H'->(∀g∈G,Dn K S H' g.1 g.2)->YI K J ds G->Q3 ds->R J H'):NI K t σ H R
def R4(X:Cx)(a iter:au)(t:WI):Prop:=PI X a iter (NI X.K t)
section
variable{tg:au}
theorem NJ(h:PI X tg e t)(f:∀σ H R,t' σ H R->t σ H R):PI X tg e t':=λπ s σ H R I q=>h π s σ H R I (f σ H R q)
noncomputable def Qa(t:WE):WI:=λρ Q=>t ρ λd=>match d with
 |.lst ds=>Q ds
 |.tup ds=>Q ds
 |_=>False
theorem NK{K:aq}{a:ah}{ds:List D}:YI K (Itl K a) ds [(.lst ds,.ref a)] where
 go:=λS H z m i d e=>by have h:=m _ (bx.mpr rfl);symm at h;obtain⟨b,xs,j,l,n,dn⟩:=h;injection j with j;subst j;obtain⟨v,ev,q⟩:=dn.get e;show⟨⟨xs,v,eJ.of l,ev⟩,λx H' y=>?_⟩;obtain⟨p,y⟩:=y;subst p;have ex:=y xs (eJ.of l);rw[ev] at ex;cases ex;show⟨ξ.refl _,q⟩
 stop:=λS H m i o=>by have h:=m _ (bx.mpr rfl);symm at h;obtain⟨b,xs,j,l,n,dn⟩:=h;injection j with j;subst j;show⟨xs,eJ.of l,by rw[<- dn.len];show jm o⟩
theorem R5{K:aq}{a:ah}{ds:List D}:YI K (Itt K a) ds [(.tup ds,.ref a)] where
 go:=λS H q m i d e=>by have h:=m _ (bx.mpr rfl);symm at h;obtain⟨b,xs,j,l,dn⟩:=h;injection j with j;subst j;obtain⟨v,ev,p⟩:=dn.get e;show⟨⟨xs,v,(eR.of l),ev⟩,λx H' y=>?_⟩;obtain⟨o,y⟩:=y;subst o;have ex:=y xs (eR.of l);rw[ev] at ex;cases ex;show⟨ξ.refl _,p⟩
 stop:=λS H m i n=>by have h:=m _ (bx.mpr rfl);symm at h;obtain⟨b,xs,j,l,dn⟩:=h;injection j with j;subst j;show⟨xs,(eR.of l),by rw[<- dn.len];show jm n⟩
def YJ(L:PE X l tl):PI X tg l (λσ H R=>tl σ H λx m=>∃a,x=.ref a/\(((∃xs,eJ X.K m a xs)/\R (Itl X.K a) m)\/((∃xs,eR X.K m a xs)/\R (Itt X.K a) m))):=by
 intro π s σ H R I h;show c6 (L π s σ H _ I h) λv d O=>?_;obtain⟨x,m,j,F,q1⟩:=O;obtain⟨a,e,q⟩:=q1;subst e;cases F;rcases q with⟨⟨xs,n⟩,q⟩|⟨⟨xs,n⟩,q⟩
 .obtain ⟨z,A,p,J⟩:=j.list n;show zf p.isList ?_;show⟨↥d,[↥d],_,_,m,rfl,j.kept (t':=d.toks) λb o e=>bu _ e,HS a _,⟨_,cz _ rfl,rfl,rfl⟩,λb y=>?_,q⟩;have e:b=↥d:=by simpa using y
  subst e;show j.z9 (bf _) (j.hok.fresh (bf _))
 .obtain ⟨z,A,p,J⟩:=j.tuple n;show qx (show d.heap.IsTuple a z.toArray from p) ?_;show⟨↥d,[↥d],_,_,m,rfl,j.kept (t':=d.toks) λb o e=>bu _ e,CY a _,⟨_,cz _ rfl,rfl,rfl⟩,λb y=>?_,q⟩;have e:b=↥d:=by simpa using y
  subst e;show j.z9 (bf _) (j.hok.fresh (bf _))
theorem P_(h:bO X l t):R4 X tg l (Qa t):=NJ (YJ h) λσ H R F=>by
 obtain⟨S,ρ,Q3,z,x,y,k⟩:=F;show⟨S,ρ,_,z,x,y,λv q d p m q1=>?_⟩
 cases d with
 |lst ds =>
  have j:=m;symm at m;obtain⟨a,xs,rfl,o,I,A⟩:=m;show⟨a,rfl,.inl ⟨⟨xs,eJ.of o⟩,k _ q ds [(.lst ds,.ref a)] p (λg n=>by cases bx.mp n;show j) NK q1⟩⟩
 |tup ds =>
  have j:=m;symm at m;obtain⟨a,xs,rfl,o,A⟩:=m;show⟨a,rfl,.inr ⟨⟨xs,(eR.of o)⟩,k _ q ds [(.tup ds,.ref a)] p (λg n=>by cases bx.mp n;show j) R5 q1⟩⟩
 |_=>show q1.elim
def rA(a:Int)(n:Nat):List Int:=(ck n).map λk:Nat=>a+(k:Int)
def qO(a:Int)(n:Nat):⇑(rA a n)=n:=by simp[rA]
def NL{a:Int}{n i:Nat}:(rA a n)[i]?=if i<n then aa (a+(i:Int)) else ae:=by
 unfold rA;rw[d_];by_cases h:i<n
 .rw [Z_ h,wm h];rfl
 .rw [Zz h,kl ↑h];rfl
theorem IP{K:aq}{a:Int}{n:Nat}:YI K (Itr a n) ((rA a n).map D.int) [] where
 go:=λS H p l i d e=>by
  rw[d_,NL] at e;by_cases h:i<n
  .rw [Z_ h] at e;cases e;show⟨h,λx H' y=>?_⟩;obtain⟨o,m⟩:=y;subst o;show⟨ξ.refl _,by symm;show m⟩
  .rw [Zz h] at e;cases e
 stop:=λS H l i j=>by rw[bp,qO] at j;show jm j
noncomputable def YK(t:WA):WI:=λρ Q=>t ρ λds=>match ds with
 |[.int j]=>(-(2^62)<=j/\j<2^62)/\Q ((rA 0 j.toNat).map D.int)
 |_=>False
theorem YL(q:X.mg "range"=ae)(x:yC X [a] t)(d:Gl X "range"<|>0)(o:ar [a] X.env=[(ag,eval a X.env)]<|>0):R4 X tg (.Call (.Name "range" p) [a] [] ν) (YK t) :=
 NJ (HU d q x o) λσ H R A=>by
  obtain⟨S,ρ,Q3,y,l,n,k⟩:=A;show⟨S,ρ,_,y,l,n,λvs F ds m z q1=>?_⟩;split at q1
  .rename_i j;obtain⟨v,r,rfl,h,h2⟩:=z.bH;erw[aM] at h2;subst h2;symm at h;subst h;show⟨j,rfl,q1.1.1,q1.1.2,k _ F _ [] m (λg d=>nomatch d) IP q1.2⟩
  .exact q1.elim
abbrev WG:=D->bG->(bG->Prop)->Prop
inductive VC (K:aq) (n:Nat) (g:WG) (v:V) (σ:L2.St) (H:Hp) (Q:(L2.St->Hp->Prop)):Prop
 |mk (H₀:Hp) (S:ah->Prop) (w:Nat->ah) (ρ:bG) (G:List (D×V)) (d:D) (Q3:bG->Prop) (h1:⇑σ=n) (h2:ST K H₀ S w σ H ρ G) (h3:Dn K (SO S w ρ) H d v) (h4:g d ρ Q3) (h5:∀σ' H' ρ',⇑σ'=n->ST K H₀ S w σ' H' ρ' G->Q3 ρ'->Q σ' H'):VC K n g v σ H Q
def R6(X:Cx)(tg:au)(g:WG):Prop:=PG X tg (VC X.K ⇑X.N g)
def pX(h:PG X e t)(f:∀v σ H Q,t' v σ H Q->t v σ H Q):PG X e t':=λπ s σ H v u Q I r q=>h π s σ H v u Q I r (f v σ H Q q)
def gN(i:Nat):WG:=λd ρ Q=>Q (ρ.set i (.ro d))
theorem Pz(hN:X.N.Nodup)(h:X.N[i]?=aa x<|>0)(j:Loc X.env.scope x<|>2)(m:Zq X x<|>2):R6 X (.Name x ν) (gN i) :=
 pX (l8 hN h j m) λv σ H Q n=>by obtain⟨H₀,S,w,ρ,G,d,Q3,a,st,dn,l,k⟩:=n;show k _ H _ (by rw[ik];show a) (st.lE (by rw[a];show jR h) dn) l
noncomputable def g2(i j:Nat):WG:=λd ρ Q=>match d with
 |.tup [d1,d2]=>Q ((ρ.set i (.ro d1)).set j (.ro d2))
 |_=>False
def Py(hc:X.calm=af)(hN:X.N.Nodup)(O:X.N[i]?=aa x<|>0)(L:X.N[j]?=aa y<|>0)(hx:Loc X.env.scope x<|>2)(Z:Loc X.env.scope y<|>2)
  (K:Zq X x<|>2) (J:Zq X y<|>2)
  (hn:Q0j X x y px py<|>0) (q:Q0i X x y px py<|>0)
  (F:gV X x y px py<|>0) (A:Q0h X y py<|>0):
  R6 X (.Tuple [.Name x px,.Name y py] k ν) (g2 i j) :=
 pX (MC (n:=2) hc (oH (l8 hN O hx K) (oH (l8 hN L Z J) FQ A) F) hn q) λv σ H Q Iw=>by
  obtain⟨H₀,S,w,ρ,G,d,Q3,I,st,dn,h,k⟩:=Iw;unfold g2 at h;split at h
  .rename_i d1 d2;symm at dn;obtain⟨a,xs,rfl,ha,da⟩:=dn;obtain⟨Y,r1,rfl,h1,h2⟩:=da.bH;obtain⟨l,r2,rfl,h3,U⟩:=h2.bH;erw[aM] at U;subst U;show⟨a,_,rfl,(eR.of ha),rfl,Y,[l],rfl,l,[],rfl,rfl,?_⟩;have p:=st.lE (i:=i) (by rw[I];show jR O) h1;have m:∀a,SO S w ρ a->SO S w (ρ.set i (.ro d1)) a:=SO.mono λn f K=>by
    rcases get_set K with⟨_,z,_⟩|⟨_,z⟩
    .cases z
    .exact ⟨_,z⟩
   have o:=p.lE (i:=j) (d:=d2) (v:=l) (by rw[ik,I];show jR L) (Dn.fits (.mono m) _ _ h3);show k _ H _ (by rw[ik,ik];show I) o h
  .exact h.elim
def Iu(j:WI)(g:WG)(l:WS):WS:=λE ρ=>j (fB ρ) λds=>∃Φ:Nat->bG->Prop,Φ 0 ρ /\
 (∀(i:Nat) (d:D) (a:bG),ds[i]?=aa d->Φ i a->g d a λh=>l {E with nx:=Φ (i+1),ct:=Φ (i+1),bk:=E.nx} h) /\∀a,Φ ⇑ds a->E.nx a
theorem Ir(hc:X.calm=af)(hp:o_ (aw X.Ω X.w) X.A X.env X.xe)(hi:R4 X tg iter ti)(p:R6 X tg g)(hb:qZ X body tb)
  (hs:Zo X iter<|>5):BS X (.For tg iter body [] ν) (Iu ti g tb):=lG (XB hp hc hi p hb hs) λB σ H Iq=>by
 obtain⟨H₀,S,w,ρ,G,E,hl,st,ht,ok⟩:=Iq;show⟨_,fB ρ,_,st.RU,st.rd,ht,λJ H1 ds U s1 hg1 wk q1=>?_⟩;obtain⟨Iv,h0,turn,fin⟩:=q1;have L:∀{w σ H ρ},ST X.K H₀ S w σ H ρ (U++G)->ST X.K H₀ S w σ H ρ G:=λst=>st.ghost λg p=>st.gh g (gg _ p);show⟨λi m σ H=>m=⇑ds-i/\i<=⇑ds/\⇑σ=⇑X.N /\∃w ρ,ST X.K H₀ S w σ H ρ (U++G)/\Iv i ρ,
  ⟨_,rfl,g_ _,hl,w,ρ,(st.same s1).ghost λg p=>(dq.mp p).elim (λz=>hg1 g z) λz=>(st.same s1).gh g z,h0⟩,?_⟩
 rintro i m Y H2 ⟨rfl,hi2,O,w2,o,n,iv⟩;by_cases I:i<⇑ds
 .refine .inr ?_;obtain⟨g1,g2⟩:=wk.go _ H2 n.RU (λg p=>n.gh g (dj _ p)) i ds[i] (by simp[I]);show⟨g1,λa H'=>⇑a=⇑X.N /\∃w ρ,ST X.K H₀ S w a H' ρ (U++G)/\Iv (i+1) ρ,λa H' ⟨l,F,h,j,iv'⟩=>⟨⇑ds-(i+1),∅,rfl,I,l,F,h,j,iv'⟩,λx H' y=>?_⟩;obtain⟨s3,dx⟩:=g2 x H' y;show⟨H₀,S,w2,o,U++G,ds[i],_,O,n.same s3,dx,turn i ds[i] o (by simp[I]) iv,λσ4 H4 Z hl4 st4 q4=>?_⟩;show⟨H₀,S,w2,Z,U++G,_,hl4,st4,q4,⟨λF a H' h l j q=>⟨l,F,h,j,q⟩,λv H' d s' d' q=>ok.rt v H' d s' d' q,λF a H' h l j q=>ok.nx F a H' h l (L j) q,λF a H' h l j q=>⟨l,F,h,j,q⟩,ok.ex⟩⟩
 .have e:i=⇑ds:=∅
  subst e;show .inl ⟨wk.stop _ H2 (λg p=>n.gh g (dj _ p)) _ rfl,ok.nx w2 Y H2 o O (L n) (fin o iv)⟩
end
theorem DM(h:∀x∈scope.names,x.2=.free ->∃c,env.cells.lookup x.1=aa c):
  ∃d,closureFor scope env=pure d/\(∀x∈scope.names,x.2=.free->d.lookup x.1=env.cells.lookup x.1) /\∀x c,d.lookup x=aa c->env.cells.lookup x=aa c:=by
 have go:∀(l:List (ai×gz)) (ψ:List (ai×ah)),(∀x∈l,x.2=.free ->∃c,env.cells.lookup x.1=aa c)->(∀x c,ψ.lookup x=aa c->env.cells.lookup x=aa c) ->
   ∃d,(forIn l ψ λ(x:ai×gz) (O:List (ai×ah))=>(match x with|(name,kind)=>if(kind == iz)=af then(do let c <- cellOf env name;pure (kq ((name,c)::O))) else pure (kq O):gj (ForInStep (List (ai×ah)))))=pure d /\
    (∀x c,ψ.lookup x=aa c->d.lookup x=aa c)/\(∀x∈l,x.2=.free->d.lookup x.1=env.cells.lookup x.1) /\∀x c,d.lookup x=aa c->env.cells.lookup x=aa c:=by
  intro l
  induction l with
  |nil=>intro ψ _ o;show⟨ψ,by rw[wo],λ_ _ z=>z,λx a=>(nomatch a),o⟩
  |cons y l ih =>
   intro ψ I o;by_cases A:y.2=.free
   .obtain ⟨c,F⟩:=I y b_ A;have J:∀x m,((y.1,c)::ψ).lookup x=aa m->env.cells.lookup x=aa m:=λx m a=>by
     rw[qe] at a;split at a
     .rename_i e;cases a;rw[eq_of_beq e];show F
     .exact o x m a
    obtain⟨d,e,q,h2,p⟩:=ih ((y.1,c)::ψ) (λx a=>I x (cq _ a)) J;show⟨d,?_,λx m a=>?_,λx a j=>?_,p⟩
    .rw [qi,<- e];have v:(y.2 == iz)=af:=by rw[A];rfl
     have L:cellOf env y.1=pure c:=by unfold cellOf;rw[F]
     obtain⟨U,X⟩:=y;dsimp only at v L ⊢;rw[Z_ v,L];rfl
    .by_cases n:x=y.1
     .subst n;have Y:((y.1,c)::ψ).lookup y.1=aa c:=by simp
      have K:=o _ _ a;rw[F] at K;cases K;show q _ _ Y
     .refine q x m ?_;rw[qe];have:(x == y.1)=ag:=by simpa using n
      rw[this];show a
    .rcases bh.mp a with rfl|a
     .rw [F];show q _ _ (by simp)
     .exact h2 x a j
   .obtain ⟨d,e,q,h2,p⟩:=ih ψ (λx a=>I x (cq _ a)) o;show⟨d,?_,q,λx a j=>?_,p⟩
    .rw [qi,<- e];have v:¬ (y.2 == iz)=af:=by simpa using A
     obtain⟨U,X⟩:=y;dsimp only at v ⊢;rw[Zz v];rfl
    .rcases bh.mp a with rfl|a
     .exact Zw j A
     .exact h2 x a j
 obtain⟨d,e,_,h2,p⟩:=go scope.names [] h (λx c z=>by simp at z);show⟨d,?_,h2,p⟩;have Z:=congrArg (λt=>t >>= λr=>(pure r:gj (List (ai×ah)))) e;show Z
theorem fQ:∀(l:List (ai×gz)) (n:Nat) (own a:List (ai×ah)),cellsFrom n l (own++a)=cellsFrom n l own++a
 |[],_,_,_=>rfl
 | (x,k)::r,n,own,a=>by
  unfold cellsFrom;split
  .exact fQ r (n+1) ((x,n)::own) a
  .exact fQ r n own a
theorem iH:∀(l:List (ai×gz)) (n:Nat) (own:List (ai×ah)) (p:ai×ah),p∈cellsFrom n l own->p∈own\/(p.1,ji)∈l
 |[],_,_,_,h=>.inl h
 | (x,k)::r,n,own,p,h=>by
  unfold cellsFrom at h;split at h
  .rename_i hk;rcases iH r _ _ p h with h|h
   .rcases bh.1 h with rfl|h
    .exact .inr (by rw[<- eq_of_beq hk];show b_)
    .exact .inl h
   .exact .inr (cq _ h)
  .rcases iH r _ _ p h with h|h
   .exact .inl h
   .exact .inr (cq _ h)
theorem jE:∀(l:List (ai×gz)) (n:Nat) (own:List (ai×ah)) (x:ai),((∃c,own.lookup x=aa c)\/(x,ji)∈l) ->∃c,(cellsFrom n l own).lookup x=aa c
 |[],_,_,_,h=>h.elim id λz=>(nomatch z)
 | (y,k)::r,n,own,x,h=>by
  unfold cellsFrom;split
  .refine jE r _ _ x ?_;by_cases e:x=y
   .exact .inl ⟨n,by rw[e,qe,beq_self_eq_true]⟩
   .rcases h with⟨c,h⟩|h
    .exact .inl ⟨c,by rw[qe,beq_eq_false_iff_ne.mpr e];show h⟩
    .rcases bh.mp h with z|z
     .exact Zw (Wv z).1 e
     .exact .inr z
  .rename_i hk;show jE r _ _ x (h.imp_right λz=>?_);rcases bh.mp z with z|z
   .rw [<- (Wv z).2] at hk;show Zw rfl hk
   .exact z
theorem IQ{M:pd}{A:bo}{E:Q0c}{s:ak}{sc:fq}{g:ah}{j:List (ai×ah)}{q:ai}{f:Option ah}{code:aj}{env:cx}{bl:ah}{Q:cx->ak->Prop}
  (h:∀a:a_,a.Ns ↥s (λ_=>ae)->(∀b o,s.heap.get? b=aa o->a.get? b=aa o)->CellsOk a (↥s+1) (cellsFrom (↥s+1) sc.names []) ->
   Q (newEnv sc ↥s g (cellsFrom (↥s+1) sc.names j) q f code (aa env) bl) {s with heap:=a}):
  av M A (newFunctionEnv sc g j [] q f code (aa env) bl) Q E s:=by
 unfold newFunctionEnv;show ao (Se (ao (wpAny_layCells _ (λx k c=>by cases e:k == ji<;>simp[e]) _ _ _ _ ?_)));have d:∀o:ay,(s.heap.push o).objs.size=↥s+1:=λo=>pf ..;have ok:=λo=>cellsFrom_ok sc.names (s.heap.push o) (↥s+1) [] ⟨λ_ _ z=>(nomatch z),.nil⟩ (by rw[d];show bf _);erw[d] at ok ⊢;rw[wo];show ao (ax (ax (h _ ((Heap.Ns.new s.heap _).keeps (Sz _ _)) (λb o e=>Sz _ _ b o (bu _ e)) (ok _))))
def blk(X:Cx)(N:Q0g)(sc:fq)(a:List (ai×ah))(C:ah)(pn:Q0b)(ex:List ah)(s₀:ak)(H₀:Hp):Cx :=
 {X with N:=N,s₀:=s₀,H₀:=H₀,env:=compEnvC sc a C X.env,outer:=X.stack,stack:=X.stack,ex:=ex,fn:=λx=>sc.names.lookup x == aa ji,pn:=pn,xe:=λ_ _=>False}
def AM(nl:Nat)(fr:List Nat)(σ:L2.St):L2.St:=bw nl ae++fr.map λj=>(σ[j]?).join
structure GC (X:Cx) (ls fs:Q0g) (fr:List Nat) (sc:fq):Prop where
 kind:sc.kind=.function
 nd:(ls++fs).Nodup
 uniq:∀x∈sc.names,sc.names.lookup x.1=aa x.2
 free:∀x∈sc.names,x.2=.free->X.env.kindOf x.1=aa .cell\/X.env.kindOf x.1=aa .free
 slot:∀(k:Nat) (x:ai),fs[k]?=aa x ->∃j,fr[k]?=aa j/\X.N[j]?=aa x/\(x,iz)∈sc.names/\sc.names.lookup x=aa .free
 IM:⇑fr=⇑fs
theorem qP(t:ai->gz->gz)(x:ai):∀l:List (ai×gz),(l.map λp=>(p.1,t p.1 p.2)).lookup x=(l.lookup x).map (t x)
 |[]=>rfl
 | (n,k)::r=>by
  rw[bt,qe,qe];by_cases a:(x == n)=af
  .rw [a,eq_of_beq a];rfl
  .rw [Yn] at a;rw[a];show qP t x r
theorem tI{sc:fq}{env:cx}{x:ai}{l:List (ai×gz)}:(l.map λ(n,k)=>if(k == iz&&env.scope.kind == .function&&env.kindOf n == aa .cell) then(n,ji) else(n,k)).lookup x =
  (l.lookup x).map λk=>if(k == iz&&env.scope.kind == .function&&env.kindOf x == aa .cell) then ji else k:=by
 rw[<- qP (λy k=>if(k == iz&&env.scope.kind == .function&&env.kindOf y == aa .cell) then ji else k) x l];show congrArg (List.lookup x) (nq λp _=>?_);dsimp only;split<;>rfl
def ne_size{b c:ah}{h:a_}{o:ay}(e:h.get? b=aa o)(a:c=h.objs.size):b≠c:=λz=>gf _ (by have q:=bj e;rw[z,a] at q;show q)
def AO{b c:ah}{n:Nat}(h:b<n)(a:n<=c):b≠c:=λz=>gf c (e_ (z▸h) a)
theorem R7{ls fs:Q0g}{fr:List Nat}{sc:fq}{h:List (ai×ah)}{C:ah}{π:Q0b}{ex:List ah}{σ:L2.St}{H:Hp}{s s4:ak}(B:GC X ls fs fr sc)(I:Φ X π σ H s)
  (hcl:∀x∈sc.names,x.2=.free->h.lookup x.1=X.env.cells.lookup x.1) (yG:∀x c,h.lookup x=aa c->X.env.cells.lookup x=aa c\/(C<c/\s4.heap.IsCell c ae)) (yb:∀x∈sc.names,x.2=.cell ->∃c,h.lookup x.1=aa c/\C<c)
  (hinj:∀x y c,h.lookup x=aa c->h.lookup y=aa c->x=y) (hex:∀b∈ex,mF X π H b/\b<↥s)
  (O:C=↥s) {m:Q0d} (hn:s4.heap.Ns C m) (hk:∀b o,s.heap.get? b=aa o->s4.heap.get? b=aa o) (ho:s4.os=s.os) (hg:s4.gens=s.gens):
  Φ (blk X (ls++fs) sc h C (X.pn++π) ex s H) [] (AM ⇑ls fr σ) H s4:=by
 have Z:∀{b:ah} {o:ay},s.heap.get? b=aa o->b≠C:=λe=>ne_size e O;have Y_:∀x c,h.lookup x=aa c->c≠C:=λx c e=>by
  rcases yG x c e with e|⟨e,_⟩
  .obtain ⟨v,o,ho,_⟩:=I.cell x c e;show Z ho
  .exact nc e
 have xn:∀x,(compEnvC sc h C X.env).kindOf x=(sc.names.lookup x).map λk=>if(k == iz&&X.env.scope.kind == .function&&X.env.kindOf x == aa .cell) then ji else k:=λx=>tI (sc:=sc)
 have okX:(blk X (ls++fs) sc h C (X.pn++π) ex s H).Ok:=by
  show⟨I.ok.mod,B.kind,I.ok.glob,I.ok.blt,(by show ↥s<=C;rw[O];show bf _),hinj,λx A=>?_,λx c hf hl=>?_,I.ok.hd,I.ok.frames,.inl rfl,λb L=>?_,λb o e=>I.bs b o e,cy I.ok.PN I.sz,λb o e L=>?_,λb L=>?_,I.stack,I.xP,I.tab⟩
  ·-- a cell or free name of the block
   have hx':∃k,sc.names.lookup x=aa k/\((if(k == iz&&X.env.scope.kind == .function&&X.env.kindOf x == aa .cell) then ji else k)=.cell\/(if(k == iz&&X.env.scope.kind == .function&&X.env.kindOf x == aa .cell) then ji else k)=.free):=by
    have A:(compEnvC sc h C X.env).kindOf x=aa .cell\/(compEnvC sc h C X.env).kindOf x=aa .free:=A;rw[xn] at A
    cases e:sc.names.lookup x with
    |none=>rw[e] at A;rcases A with A|A<;>cases A
    |some k=>rw[e] at A;show⟨k,rfl,A.imp (λz=>fu z) λz=>fu z⟩
   obtain⟨k,e,K⟩:=hx';have U:=ju e;by_cases kf:k=.free
   .subst kf;have q:=hcl _ U rfl;obtain⟨c,hc⟩:=I.ok.has x (B.free _ U rfl);show⟨c,q.trans hc⟩
   .have Y:(k == iz)=ag:=by simpa using kf
    rw[Y] at K;erw[Ca,mh,if_false] at K;rcases K with z|z
    .obtain ⟨c,hc,_⟩:=yb _ U z;show⟨c,hc⟩
    .exact Zw z kf
  ·-- an own cell is new
   obtain⟨c',F,hlt⟩:=yb _ (ju (eq_of_beq hf)) rfl;have F:h.lookup x=aa c':=F;have hl:h.lookup x=aa c:=hl;rw[hl] at F;cases F;rw[O] at hlt;show jy hlt
  .refine ⟨AO (hex b L).2 (jm O.symm),λx c e=>?_⟩;rcases yG x c e with e|⟨e,_⟩
   .exact (hex b L).1.2.2.2.2.1 x c e
   .exact fj (AO (hex b L).2 (by rw[<- O];show jy e))
  .obtain ⟨⟨_,_,_,f3,_,_⟩,_⟩:=hex b L;rcases f3 with f3|f3
   .exact I.ok.CW b o e f3
   .exact Zw (e_ (bj e) (cy I.ok.PN f3)) (gf _)
  .intro z;obtain⟨⟨_,f1,f2,_,_,_⟩,_⟩:=hex b L;rcases bh.mp (I.nC b z) with z|z
   .exact f1 z
   .exact f2 z
 show⟨okX,ho,by rw[hg];show I.bare,Un.kept hk,⟨m,hn,λi x v h1 h2 h3=>?_⟩,λx c e=>?_,?_,λx c e=>?_,λp hp=>?_,I.hok.kept hk,?_⟩
 ·-- a name with a value is one from around
  have hi:¬ i<⇑ls:=λhi=>by unfold AM at h2;rw[jq ↑hi,jc,Z_ hi] at h2;cases h2
  have e1:fs[i-⇑ls]?=aa x:=by have h1:(ls++fs)[i]?=aa x:=h1;rw[jo ∅] at h1;show h1
  obtain⟨j,ej,eN,U,hlk⟩:=B.slot _ _ e1;have Y:(σ[j]?).join=aa v:=by unfold AM at h2;rw[jo ↑hi,d_,jb,ej] at h2;show fu h2
  have e3:σ[j]?=aa (aa v):=by
   cases q:σ[j]? with
   |none=>rw[q] at Y;cases Y
   |some o=>rw[q] at Y;rw[show o=aa v from Y]
  have hfr:=B.free _ U rfl;have vis:vH X.env.scope x:=.inr hfr;obtain⟨mm,hnm,hl⟩:=I.loc;obtain⟨u,r,l⟩:=hl j x v eN e3 vis;show⟨u,r,?_⟩;rcases l with⟨k1,_⟩|⟨k1,c,ec,zc⟩
  .have k1:X.env.kindOf x=aa .local:=k1;rcases hfr with z|z<;>rw[k1] at z<;>cases z
  .refine .inr ⟨?_,c,(hcl _ U rfl).trans ec,?_⟩
   .show (compEnvC sc h C X.env).kindOf x=aa .cell\/(compEnvC sc h C X.env).kindOf x=aa .free;rw[xn,hlk];dsimp only[Ww];split
    .exact .inl rfl
    .exact .inr rfl
   .obtain ⟨oc,J,hd⟩:=zc;show⟨oc,hk _ _ J,hd⟩
 .rcases yG x c e with e|⟨_,e⟩
  .obtain ⟨v,oc,J,hd⟩:=I.cell x c e;show⟨v,oc,hk _ _ J,hd⟩
  .exact ⟨ae,e⟩
 .show H C=ae;rw[O];show I.hok.fresh (bf _)
 .rcases yG x c e with e|⟨e,_⟩
  .exact I.fG x c e
  .exact I.hok.fresh (by rw[<- O];show jy e)
 .have hp:p∈(X.pn++π)++[]:=hp;rw[il] at hp;obtain⟨e,n,ne,nf,d⟩:=I.pin p hp;show⟨hk _ _ e,n,Z e,λz=>?_,d⟩;rcases bh.mp (I.nC _ z) with z|z
  .exact ne z
  .exact nf z
 .show ⇑(AM ⇑ls fr σ)=⇑(ls++fs);unfold AM;rw[cu,cu,jb,bp,B.IM]
theorem NM{ls fs:Q0g}{sc:fq}{O:List (ai×ah)}{C:ah}{π U:Q0b}{ex:List ah}{σ m:L2.St}{H H':Hp}{s s':ak}{h':a_}(I:Φ X π σ H s)
  (J:Φ (blk X (ls++fs) sc O C (X.pn++π) ex s H) U m H' s') (hex:∀b∈ex,mF X π H b) (y:C=↥s) (l:jl C s'.heap h'):Φ X π σ H' {s' with heap:=h' }:=by
 have a:∀{b:ah} {o:ay},s.heap.get? b=aa o->b≠C:=λe=>ne_size e y;have fr:H' C=ae:=J.free;have un:Un (frs X.stack) ex H H' s.heap s'.heap:=J.ω;show I.call' (s':={s' with heap:=h' }) (ch:=ex) J.os ⟨λb o e n j h=>(l.2 b (a e)).trans (un.keep b o e n j h),λb o e n j h=>?_,un.free,λb o e h=>?_,un.tups,un.qX,un.pP⟩ ?_ J.bare λb j=>?_
 .obtain ⟨p,q⟩:=un.slot b o e n j h;show⟨p,(l.2 b (a e)).trans q⟩
 .obtain ⟨x,q⟩:=un.there b o e h;show⟨x,(l.2 b (a e)).trans q⟩
 .intro b v e;show(J.hok b v e).stay (λc u d q=>(l.2 c ?_).trans q) (λ_ q=>q) λ_ _ q=>q;intro z;rcases d with d|d
  .rw [z] at d;rw[<- d,fr] at e;cases e
  .rw [z,fr] at d;cases d
 .obtain ⟨_,L,_,K,F,A⟩:=hex b j;show⟨K,L,F,A⟩
abbrev YM(ifs:List au)(env:cx):gj Bool:=forIn ifs af λc r=>if r=af then(do let b <- isTrue c env (eval c env);pure (kq b)) else pure (kq r)
abbrev Calm(Ω:bb)(w:az)(A:bo){α:Type}(t:gj α)(Q:α->ak->Prop)(s:ak):Prop:=av (aw Ω w) A t Q (λ_ _=>False) s
theorem lH(l:Nat->ak->Prop)
  (turn:∀n s,l n s->Calm Ω w A (pyNext it) (λgot o=>match got with
   |none=>R (.ok .next) o
   |some v=>Calm Ω w A (letOwnedTupleGo tg it v) (λ_ y=>Calm Ω w A (assign tg env v) (λ_ s3=>Calm Ω w A (YM ifs env) (λok s4 =>
     if ok=af then Calm Ω w A (eval el env) (λx q=>Calm Ω w A (call (.builtin "list.append") [ψ,x]) (λ_ p=>∃m,m<n/\l m p) q) s4 else ∃m,m<n/\l m s4) s3) y) o) s)
  (n:Nat) (h:l n s):ia (aw Ω w) A (.compLoop (.ListComp el [⟨tg,src,ifs,0⟩] bs at_) 0 it ψ env) R s:=by
 have no:∀{α:Type} {E:Q0c} {t:gj α} {Q Q':α->ak->Prop} {s:ak},Calm Ω w A t Q s->(∀a s,Q a s->Q' a s)->av (aw Ω w) A t Q' E s:=λh f=>ir h f λ_ _ z=>z.elim;show codeAny_loop rfl l (λn s F=>?_) n h;show wpAny_noted (m:=compTurn (.ListComp el [⟨tg,src,ifs,0⟩] bs at_) 0 it ψ env) ?_;rw[compTurn_list];show ao (wpAny_standAt (ao (no (turn n s F) λgot o j=>?_)))
 match got,j with
 |none,j=>show ax j
 |some v,j =>
  show ao (no j λ_ _ h2=>ao (no h2 λ_ _ K=>ao (no K λok s4 d=>?_)))
  match ok,d with
  |false,d=>show ax (tj rfl d)
  |true,d=>show ao (ao (no d λ_ _ J=>ao (no J λ_ _ I=>ax (ax (tj rfl I)))))
abbrev TFk:=L2.St->Hp->(Bool->Hp->Prop)->Prop
def PIf(X:Cx)(ifs:List au)(t:TFk):Prop :=
 ∀(π:Q0b) (s:ak) (σ:L2.St) (H:Hp) (Q:Bool->Hp->Prop),Φ X π σ H s->t σ H Q ->
  av (aw X.Ω X.w) X.A (forIn ifs af λc r=>if r=af then do let ok <- isTrue c X.env (eval c X.env);pure (kq ok) else pure (kq r)) (TP X π σ Q) X.xe s
def R8:PIf X [] (λ_ H Q=>Q af H):=λπ s σ H Q I h=>by rw[wo];show ax ⟨H,I,h⟩
def YN(h:PT X c t):PIf X [c] t:=λπ s σ H Q I hw=>by rw[qi];show ao ?_;rw[Z_ rfl];show ao (c6 (h π s σ H Q I hw) λb a q=>ax ?_);dsimp only;rw[wo];show ax q
def NN(nl:Nat)(fr:List Nat)(wi:TI)(g:TG)(tf:TFk)(te:TE):TE:=λσ H Q=>wi σ H λJ n=>∀ψ,n ψ=ae ->∃W:Nat->Nat->Hp->List V->Prop,(∃m,W 0 m (upd n ψ (.lst [])) []) /\
 ∀i m H ys,W i m H ys->H ψ=aa (.lst ys)/\((J.stop i H/\Q (.ref ψ) H)\/(J.go i H /\∀x H',J.yld i H x H'->g x (AM nl fr σ) H' λa o=>(a.drop nl=fr.map λj=>(σ[j]?).join)/\tf a o λb l =>
  if b=af then te a l λy h=>h ψ=aa (.lst ys)/\⇑ys<bc /\∃d,d<m/\W (i+1) d (upd h ψ (.lst (ys++[y]))) (ys++[y]) else ∃d,d<m/\W (i+1) d l ys))
theorem NO{ls fs:Q0g}{fr:List Nat}{sc:fq}{tg iter elt:au}{ifs:List au}{ν p2:ba}{wi:TI}{g:TG}{tf:TFk}{te:TE}{π:Q0b}{σ:L2.St}{H:Hp}{s:ak}{Qe:VK}{use:Option (aj->gj Unit)}{Qv:Q0c}
  (hc:X.calm=af) (B:GC X ls fs fr sc) (hi:PI X tg iter wi) (hg:∀l C pn ex s H,PG (blk X (ls++fs) sc l C pn ex s H) tg g) (hf:∀l C pn ex s H,PIf (blk X (ls++fs) sc l C pn ex s H) ifs tf) (he:∀l C pn ex s H,PE (blk X (ls++fs) sc l C pn ex s H) elt te)
  (hs:Zo X iter) (I:Φ X π σ H s) (h:NN ⇑ls fr wi g tf te σ H Qe)
  (fin:∀ψ C s' H',Φ X π σ H' s'->(∃m,s'.heap.Ns C m)->mF X π H' C->Qe (.ref ψ) H'->compPost (aw X.Ω X.w) X.A X.xe use Qv (.ref ψ) C (.ok .next) s'):
  av (aw X.Ω X.w) X.A (comprehension (.ListComp elt [⟨tg,iter,ifs,0⟩] sc ν) sc X.env p2 (newList []) ag (eval iter X.env) use) Qv X.xe s:=by
 obtain⟨l,ecl,hcl,yG⟩:=DM (scope:=sc) (env:=X.env) λx hx hf=>I.ok.has x.1 (B.free x hx hf);show wpAny_comprehension_free (g:=⟨tg,iter,ifs,0⟩) (gs:=[]) rfl hs ecl B.kind (λx hx e=>(B.uniq x hx).trans (congrArg aa e)) ?_;show c6 (hi π s σ H _ I h) λv s1 h1=>c6 h1 λitv O h2=>?_;obtain⟨it,j,tn,J,H2,e,I2,T,st2,f2,h2⟩:=h2;subst e;show kz ?_ (by show([]:Q0f).toArray.size<=bc;simp);have hacc:H2 ↥O=ae:=I2.hok.fresh (bf _);have I3:Φ X π σ (upd H2 ↥O (.lst [])) {O with heap:=O.heap.push {cls:=.type "list",data:=.seq ([]:Q0f).toArray} } :=
  I2.laid (t':=O.toks) (λb o e=>bu _ e) (bf _) ⟨by simp,[],0,.nil,cz _ rfl⟩
 have Z:∀b∈j,b<↥O:=λb a=>by obtain⟨o,e,_⟩:=T.obj _ _ st2 b a;show bj e
 obtain⟨W,⟨m0,w0⟩,turn⟩:=h2 _ hacc;generalize AQ:↥O=ψ at hacc I3 w0 turn ⊢;have Hn:∀b∈j,b≠ψ:=λb a=>AO (Z b a) (jm AQ);have f3:∀b∈j,mF X π (upd H2 ψ (.lst [])) b:=λb a=>⟨by rw[aL (Hn b a)];show(f2 b a).1,(f2 b a).2⟩;generalize hs3:({O with heap:=O.heap.push {cls:=.type "list",data:=.seq ([]:Q0f).toArray} }:ak)=s3 at I3;have L:↥s3=ψ+1:=by rw[<- hs3];show(O.heap.push _).objs.size=_;rw[pf,AQ]
 have st3:tn 0 s3.heap:=T.keep _ _ _ st2 λb a o e=>by rw[<- hs3];show bu _ e
 show IQ λh4 hn4 hk4 co=>?_;generalize hC:↥s3=C at hn4 co ⊢;have eC:cellsFrom (C+1) sc.names l=cellsFrom (C+1) sc.names []++l:=fQ sc.names (C+1) [] l;generalize hcs:cellsFrom (C+1) sc.names []=cs at co eC;have own:∀x c,cs.lookup x=aa c->(x,ji)∈sc.names/\C<c/\h4.IsCell c ae:=λx c e=>by
  have m:=ju e;show⟨?_,(co.empty x c m).2,(co.empty x c m).1⟩;rw[<- hcs] at m;rcases iH _ _ _ _ m with z|z
  .cases z
  .exact z
 generalize hdl:cellsFrom (C+1) sc.names l=dl at eC ⊢;have two:∀x c,dl.lookup x=aa c->cs.lookup x=aa c\/(cs.lookup x=ae/\l.lookup x=aa c):=λx c e=>by
  rw[eC,Bt] at e
  cases q:cs.lookup x with
  |none=>rw[q] at e;show .inr ⟨rfl,e⟩
  |some d=>rw[q] at e;show .inl e
 have Hm:∀x∈sc.names,x.2=.free->dl.lookup x.1=X.env.cells.lookup x.1:=λx hx e=>by
  rw[<- hcl x hx e,eC,Bt]
  cases q:cs.lookup x.1 with
  |none=>rfl
  |some d =>
   have z:=B.uniq _ (own _ _ q).1;rw[B.uniq x hx,e] at z;cases z
 have ya:∀x c,dl.lookup x=aa c->X.env.cells.lookup x=aa c\/(C<c/\h4.IsCell c ae):=λx c e=>by
  rcases two x c e with e|⟨_,e⟩
  .exact .inr (own x c e).2
  .exact .inl (yG x c e)
 have Hl:∀x∈sc.names,x.2=.cell ->∃c,dl.lookup x.1=aa c/\C<c:=λx hx e=>by obtain⟨c,hc⟩:=jE sc.names (C+1) [] x.1 (.inr (by rw[<- e];show hx));rw[hcs] at hc;show⟨c,by rw[eC,Bt,hc];rfl,(own _ _ hc).2.1⟩
 have low:∀x c,l.lookup x=aa c->c<C:=λx c e=>by obtain⟨v,o,ho,_⟩:=I3.cell x c (yG x c e);rw[<- hC];show bj ho
 have Hk:∀x y c,dl.lookup x=aa c->dl.lookup y=aa c->x=y:=λx y c e e'=>by
  rcases two x c e with e|⟨_,e⟩<;>rcases two y c e' with e' | ⟨_,e'⟩
  .exact S0 co.apart (ju e) (ju e')
  .exact Zw (own _ _ e).2.1 (Xc (low _ _ e'))
  .exact Zw (own _ _ e').2.1 (Xc (low _ _ e))
  .exact I3.ok.inj x y c (yG x c e) (yG y c e')
 have I4:Φ (blk X (ls++fs) sc dl C (X.pn++π) j s3 (upd H2 ψ (.lst []))) [] (AM ⇑ls fr σ) (upd H2 ψ (.lst [])) {s3 with heap:=h4} :=
  R7 B I3 Hm ya Hl Hk (λb a=>⟨f3 b a,by rw[L,<- AQ];show sg (Z b a)⟩) hC.symm hn4 hk4 rfl rfl
 generalize U:blk X (ls++fs) sc dl C (X.pn++π) j s3 (upd H2 ψ (.lst []))=Y at I4;have pY:Y.Ω=X.Ω:=by rw[<- U];rfl
 have wY:Y.w=X.w:=by rw[<- U];rfl
 have kY:Y.K=X.K:=by rw[<- U];rfl
 have AY:Y.A=X.A:=by rw[<- U];rfl
 have cY:Y.calm=af:=by rw[<- U];show hc
 have eY:Y.env=compEnvC sc dl C X.env:=by rw[<- U];rfl
 have xY:Y.xe=λ_ _=>False:=by rw[<- U];rfl
 have NP:∀{H':Hp},(∀b∈j,H' b=ae) ->∀b∈j,mF Y [] H' b:=λhn b a=>by
  rw[<- U];obtain⟨_,f1,f2',_,f4,f5⟩:=f3 b a;show⟨hn b a,λz=>?_,λz=>?_,.inl a,λx c e=>?_,λp hp=>f5 p ?_⟩
  .exact Zw z (AO (Z b a) (by rw[<- hC,L,AQ];show l_ _))
  .rcases bh.mp (I3.nC b z) with z|z
   .exact f1 z
   .exact f2' z
  .rcases ya x c e with e|⟨e,_⟩
   .exact f4 x c e
   .exact fj (AO (Z b a) (by rw[AQ];show jy (Xa (by rw[<- hC,L];show Bk _) e)))
  .have hp:p∈(X.pn++π)++[]:=hp;rw[il] at hp;show hp
 have st4:tn 0 h4:=T.keep _ _ _ st3 λb a o e=>hk4 b o e;have loop:∀s5:ak,(∃i H',Φ Y [] (AM ⇑ls fr σ) H' s5/\tn i s5.heap/\(∀b∈j,H' b=ae) /\∃m ys,W i m H' ys)->ia (aw X.Ω X.w) X.A (.compLoop (.ListComp elt [⟨tg,iter,ifs,0⟩] sc ν) 0 (.ref it) (.ref ψ) (compEnvC sc dl C X.env)) (compPost (aw X.Ω X.w) X.A X.xe use Qv (.ref ψ) C) s5:=by
  rintro s5 ⟨i,H',I5,st5,fr5,m,ys,w5⟩;show lH (λn s'=>∃i H' ys,Φ Y [] (AM ⇑ls fr σ) H' s'/\tn i s'.heap/\(∀b∈j,H' b=ae)/\W i n H' ys) ?_ m ⟨i,H',ys,I5,st5,fr5,w5⟩;rintro n s6 ⟨i,H6,ys,I6,st6,fr6,w6⟩;obtain⟨ha6,alt⟩:=turn i n H6 ys w6;rcases alt with⟨stop,qn⟩|⟨go,step⟩
  .have q:=T.done Y pY wY kY cY i [] s6 _ H6 (λ_ _=>False) I6 (NP fr6) st6 stop;rw[AY] at q;show c6 q λr s7 Hj=>?_;obtain⟨hr,I7⟩:=Hj;subst hr;have fr7:H6 C=ae:=by have:=I7.free;rw[eY] at this;show this
   show fin ψ C s7 H6 ?_ ?_ (I3.z9 (jm hC) fr7) qn
   .rw [<- U] at I7;show NM I3 I7 (λb a=>f3 b a) hC.symm (.refl ..)
   .obtain ⟨m,hm,_⟩:=I7.loc;rw[eY] at hm;show⟨m,hm⟩
  .have q:=T.item Y pY wY kY cY i [] s6 _ H6 (λ_ _=>False) I6 (NP fr6) st6 go;rw[AY] at q;show c6 q λr s7 Hi=>?_;obtain⟨u,hr,h7⟩:=Hi;subst hr;show c6 h7 λ_ s8 Hh=>?_;obtain⟨x,H8,I8,r8,y8,st8,fr8⟩:=Hh;have I8':=I8.pinned (NP fr8) (T.obj _ _ st8);have hgY:=hg dl C (X.pn++π) j s3 (upd H2 ψ (.lst []));have hfY:=hf dl C (X.pn++π) j s3 (upd H2 ψ (.lst []));have heY:=he dl C (X.pn++π) j s3 (upd H2 ψ (.lst []));rw[U] at hgY hfY heY;have q8:=hgY _ s8 _ H8 x u _ I8' r8 (step x H8 y8);rw[pY,wY,AY,eY,xY] at q8;show c6 q8 λ_ s9 Hg=>?_;obtain⟨F,H9,I9,hσ9,q9⟩:=Hg;have YO:=hfY _ s9 F H9 _ I9 q9;rw[pY,wY,AY,eY,xY] at YO;show c6 YO λok Cp Hf=>?_;obtain⟨H10,I10,YO⟩:=Hf;have bl:∀{H7:Hp} {s7:ak},Φ Y ([]++sU j s8.heap) F H7 s7->(∃m',m'<n /\∃ys',W (i+1) m' H7 ys') ->∃m,m<n /\∃i H' ys,Φ Y [] (AM ⇑ls fr σ) H' s7/\tn i s7.heap/\(∀b∈j,H' b=ae)/\W i m H' ys:=λ{H7 s7} I7 ⟨m',hm,ys',w7⟩=>by
    show⟨m',hm,i+1,H7,ys',?_,T.keep _ _ _ st8 λb a o e=>(I7.pin (b,o) (gg _ (gg _ (kF a e)))).1,λb a=>?_,w7⟩
    .refine I7.oI.weak ?_ λk v e=>?_
     .rw [I7.len,<- I6.len]
     .by_cases hk:k<⇑ls
      .unfold AM at e;rw[jq ↑hk,jc,Z_ hk] at e;cases e
      .have e2:(F.drop ⇑ls)[k-⇑ls]?=aa (aa v):=by rw[hσ9];unfold AM at e;rw[jo ↑hk,jb] at e;show e
       rw[Xw] at e2;rw[show ⇑ls+(k-⇑ls)=k by lia] at e2;show e2
    .obtain ⟨o,e,d⟩:=T.obj _ _ st8 b a;show(I7.pin (b,o) (gg _ (gg _ (kF a e)))).2.1
   cases ok with
   |false =>
    rw[Zz bg] at YO ⊢;obtain⟨m',hm,w'⟩:=YO;show bl I10 ⟨m',hm,ys,w'⟩
   |true =>
    rw[Z_ rfl] at YO ⊢;have xh:=heY _ Cp F H10 _ I10 YO;rw[pY,wY,AY,eY,xY] at xh;show c6 xh λyv Co He=>?_;obtain⟨y,H11,I11,Cr,YQ,Hc,m',hm,w'⟩:=He;have xg:=(vO (X:=Y)) _ Co F H11 (.ref ψ) [y] (.ref ψ) [yv] (λ_ H'=>H'=upd H11 ψ (.lst (ys++[y]))) I11 rfl (.cons Cr .nil) ⟨ψ,ys,y,rfl,rfl,YQ,Hc,rfl⟩;rw[pY,wY,AY,xY] at xg;show c6 xg λ_ Yu Hb=>?_;obtain⟨_,H12,I12,_,Dj⟩:=Hb;subst Dj;show bl I12 ⟨m',hm,_,w'⟩
 have L0:=loop _ ⟨0,_,I4,st4,λb a=>(f3 b a).1,m0,[],w0⟩;show codeAny_compStart_list L0 (T.self _ 0 _ _ _ st4 L0)
theorem R9
  (y:X.calm=af) (B:GC X ls fs fr sc) (n:PI X tg iter wi) (p:∀a C pn ex s H,PG (blk X (ls++fs) sc a C pn ex s H) tg g) (v:∀a C pn ex s H,PIf (blk X (ls++fs) sc a C pn ex s H) ifs tf) (x:∀a C pn ex s H,PE (blk X (ls++fs) sc a C pn ex s H) elt te)
  (l:Zo X iter<|>5):PE X (.ListComp elt [⟨tg,iter,ifs,0⟩] sc ν) (NN ⇑ls fr wi g tf te):=by
 intro π s σ H Q I h;rw[eval_ListComp];show NO (use:=ae) y B n p v x l I h λψ C s' H' U j A q=>?_;obtain⟨m,j⟩:=j;obtain⟨O,L,_,K,J,F⟩:=A;show⟨m,j,λh' d=>⟨.ref ψ,H',U.turned (t':=s'.toks) (λb o z e=>(d.2 b z).trans e) O L K J F,rfl,q⟩⟩
def YR(outer:List (ai×gz))(sc:fq)(N ls fs:Q0g)(fr:List Nat):Bool :=
 (sc.kind == .function)&&Zv (ls++fs).Nodup&&sc.names.all (λx=>Zv (sc.names.lookup x.1=aa x.2)) &&
 sc.names.all (λx=>Zv (x.2=.free->(outer.lookup x.1=aa .cell\/outer.lookup x.1=aa .free)))&&Zv (⇑fr=⇑fs) &&
 (fs.zip fr).all (λx=>Zv (N[x.2]?=aa x.1)&&sc.names.contains (x.1,iz)&&Zv (sc.names.lookup x.1=aa .free))
theorem DN(h:YR X.env.scope.names sc X.N ls fs fr=af):GC X ls fs fr sc:=by
 unfold YR at h;erw[fm,ko,decide_eq_true_eq] at h;obtain⟨⟨⟨⟨⟨o,h2⟩,n⟩,m⟩,l⟩,j⟩:=h;show⟨eq_of_beq o,h2,n,m,λk x e=>?_,l⟩;have p:k<⇑fs:=(c_.mp e).1;have d:(x,fr[k]'∅)∈fs.zip fr:=by
  have:(fs.zip fr)[k]?=aa (x,fr[k]'∅):=by rw[List.getElem?_zip_eq_some];show⟨e,by simp⟩
  show jz this
 obtain⟨⟨a,b⟩,c⟩:=j _ d;show⟨fr[k]'∅,by simp,a,↑b,c⟩
abbrev GE:=D->cD->(cD->Prop)->Prop
inductive yH (K:aq) (nl n:Nat) (g:GE) (v:V) (σ:L2.St) (H:Hp) (Q:(L2.St->Hp->Prop)):Prop
 |mk (S:ah->Prop) (ρ:cD) (d:D) (Q3:cD->Prop) (h1:⇑σ=n) (h2:(∀a,H a=ae->S a)) (h3:Sl K S H ρ σ) (h4:Dn K S H d v) (h5:g d ρ Q3) (h6:∀σ' ρ',Sl K S H ρ' σ'->σ'.drop nl=σ.drop nl->Q3 ρ'->Q σ' H):yH K nl n g v σ H Q
def PG4(X:Cx)(nl:Nat)(a:au)(g:GE):Prop:=PG X a (yH X.K nl ⇑X.N g)
theorem Sl.set{K:aq}{S:ah->Prop}{H:Hp}{ρ:cD}{σ:L2.St}{i:Nat}{d:D}{v:V}(h:Sl K S H ρ σ)(m:i<⇑σ)(q:Dn K S H d v):Sl K S H (ρ.set i (aa d)) (σ.set i (aa v)):=λj e n=>by
 rcases get_set n with⟨l,z,_⟩|⟨l,z⟩
 .cases z;subst l;show⟨v,kj m,q⟩
 .obtain ⟨u,a,b⟩:=h j e z;show⟨u,by rw[j_ (fj l)];show a,b⟩
def hN(i:Nat):GE:=λd ρ Q=>Q (ρ.set i (aa d))
noncomputable def h2(i j:Nat):GE:=λd ρ Q=>match d with
 |.tup [d1,d2]=>Q ((ρ.set i (aa d1)).set j (aa d2))
 |_=>False
def drop_set{α:Type}{l:List α}{i n:Nat}{x:α}(h:i<n):(l.set i x).drop n=l.drop n:=by rw[List.drop_set,Z_ h]
def Oy{nl i:Nat}{x:ai}{ν:ba}(nd:X.N.Nodup)(a:i<nl)(j:X.N[i]?=aa x<|>0)(m:Loc X.env.scope x<|>2)(h:Zq X x<|>6):PG4 X nl (.Name x ν) (hN i) :=
 pX (l8 nd j m h) λv σ H Q p=>by obtain⟨S,ρ,d,Q3,n,q,l,dn,o,k⟩:=p;show k _ _ (l.set (by rw[n];show jR j) dn) (drop_set a) o
def Ox{nl i j:Nat}{x y:ai}{kk:Nat}{ν l h:ba}(hc:X.calm=af)(nd:X.N.Nodup)(A:i<nl)(z:j<nl)(O:X.N[i]?=aa x<|>0)(L:X.N[j]?=aa y<|>0)(hx:Loc X.env.scope x<|>2)(I:Zq X x<|>6)(hy:Loc X.env.scope y<|>2)(F:Zq X y<|>6)
  (hn:Q0j X x y l h<|>0) (o:Q0i X x y l h<|>0)
  (q:gV X x y l h<|>0) (p:Q0h X y h<|>0):
  PG4 X nl (.Tuple [.Name x l,.Name y h] kk ν) (h2 i j) :=
 pX (MC (n:=2) hc (oH (l8 nd O hx I) (oH (l8 nd L hy F) FQ p) q) hn o) λv σ H Q G_=>by
  obtain⟨S,ρ,d,Q3,K,fc,Z,dn,m,k⟩:=G_;unfold h2 at m;split at m
  .rename_i d1 d2;symm at dn;obtain⟨a,xs,rfl,ha,da⟩:=dn;obtain⟨Y,r1,rfl,h1,h2⟩:=da.bH;obtain⟨J,r2,rfl,h3,U⟩:=h2.bH;erw[aM] at U;subst U;show⟨a,_,rfl,(eR.of ha),rfl,Y,[J],rfl,J,[],rfl,rfl,?_⟩;show k _ _ ((Z.set (by rw[K];show jR O) h1).set (by rw[ik,K];show jR L) h3) (by rw[drop_set z,drop_set A]) m
  .exact m.elim
def SA(X:Cx)(ifs:List au)(t:WT):Prop:=PIf X ifs (liftT X.K t)
def Ow:WT:=λ_ Q=>Q af
def Gz:SA X [] Ow:=λπ s σ H Q I d=>by obtain⟨S,ρ,Q3,j,h,a,k⟩:=d;show R8 π s σ H Q I (k af H (ξ.refl H) a)
theorem Ov(h:tE X c t):SA X [c] t:=YN h
noncomputable def oQ(g:GE)(tf:WT)(te:WE)(ρ:cD):List D->List D->(D->Prop)->Prop
 |[],ψ,Q=>Q (.lst ψ)
 |d::r,ψ,Q=>g d ρ λa=>tf a λb=>if b=af then te a λy=>⇑ψ<bc/\oQ g tf te ρ r (ψ++[y]) Q else oQ g tf te ρ r ψ Q
def benv(nl:Nat)(fr:List Nat)(ρ:cD):cD:=bw nl ae++fr.map λj=>(ρ[j]?).join
def NQ(nl:Nat)(fr:List Nat)(a:WI)(g:GE)(tf:WT)(te:WE):WE:=λρ Q=>a ρ λds=>oQ g tf te (benv nl fr ρ) ds [] Q
def SD{K:aq}{S:ah->Prop}{H:Hp}{ρ:cD}{σ:L2.St}{nl:Nat}{fr:List Nat}(h:Sl K S H ρ σ):Sl K S H (benv nl fr ρ) (AM nl fr σ):=λi d e=>by
 unfold benv at e;unfold AM;by_cases l:i<nl
 .rw [jq ↑l,jc,Z_ l] at e;cases e
 .rw [jo ↑l,d_,jb] at e ⊢
  cases q:fr[i-nl]? with
  |none=>rw[q] at e;cases e
  |some j =>
   rw[q] at e;have a:(ρ[j]?).join=aa d:=fu e;have m:ρ[j]?=aa (aa d):=by
    cases z:ρ[j]? with
    |none=>rw[z] at a;cases a
    |some o=>rw[z] at a;rw[show o=aa d from a]
   obtain⟨v,ev,n⟩:=h j d m;show⟨v,by show aa ((σ[j]?).join)=_;rw[ev];rfl,n⟩
def IS{K:aq}{nl n:Nat}{fr:List Nat}{ti:WI}{g:GE}{tf:WT}{te:WE}{σ:L2.St}{H:Hp}{Q:VK}(hn:nl+⇑fr=n)(h:F4 K (NQ nl fr ti g tf te) σ H Q):NN nl fr (NI K ti) (yH K nl n g) (liftT K tf) (lift K te) σ H Q:=by
 obtain⟨S,ρ,Q3,fc,sl,ht,k⟩:=h;show⟨S,ρ,_,fc,sl,ht,λJ H1 ds G Z hG wk q1=>?_⟩;intro ψ j;have h0:H ψ=ae:=Z.free j;have fc1:=aR fc Z;have ok:∀{l:Hp},ξ H1 l->(∃ys,l ψ=aa (.lst ys))->(∀a,l a=ae->S a/\a≠ψ)/\Sl K (λa=>S a/\a≠ψ) l (benv nl fr ρ) (AM nl fr σ) /\∀g∈G,Dn K (λa=>S a/\a≠ψ) l g.1 g.2:=λ{l} A o=>by
  show⟨λa e=>⟨aR fc1 A a e,λz=>?_⟩,?_,λg hg=>Dn.fits ((Fits.fresh j).trans (.same A)) _ _ (hG g hg)⟩
  .subst z;obtain⟨ys,o⟩:=o;rw[e] at o;cases o
  .exact SD (Sl.fits ((Fits.fresh h0).trans (.same (Z.trans A))) sl)
 show⟨λi m l ys=>m=⇑ds-i/\i<=⇑ds/\ξ H1 l/\l ψ=aa (.lst ys) /\∃I,aM K (λa=>S a/\a≠ψ) l I ys/\oQ g tf te (benv nl fr ρ) (ds.drop i) I Q3,
  ⟨_,rfl,g_ _,aI j,aN,[],aM.nil,q1⟩,?_⟩
 rintro i m l ys ⟨rfl,hi,A,o,I,dn,cw⟩;obtain⟨q,sl2,Y⟩:=ok A ⟨ys,o⟩;show⟨o,?_⟩;by_cases p:i<⇑ds
 .refine .inr ?_;obtain⟨g1,g2⟩:=wk.go _ l q Y i ds[i] (by simp[p]);show⟨g1,λx H' y=>?_⟩;obtain⟨s3,dx⟩:=g2 x H' y;rw[sv p,oQ] at cw;show⟨λa=>S a/\a≠ψ,benv nl fr ρ,ds[i],_,?_,aR q s3,Sl.fits (.same s3) sl2,dx,cw,λσ' L O hd q'=>?_⟩
  .unfold AM;rw[cu,jb,bp];show hn
  .refine ⟨by rw[hd];unfold AM;rw[List.drop_append_of_le_length (by simp),List.drop_replicate];simp,λa=>S a/\a≠ψ,L,_,aR q s3,O,q',λb H3 s4 q4=>?_⟩
   cases b with
   |false =>
    rw[Zz bg] at q4 ⊢;show⟨_,∅,rfl,p,(A.trans s3).trans s4,(s3.trans s4) _ _ o,I,aM.fits (.same (s3.trans s4)) _ _ dn,q4⟩
   |true =>
    rw[Z_ rfl] at q4 ⊢;show⟨λa=>S a/\a≠ψ,L,_,aR q (s3.trans s4),Sl.fits (.same s4) O,q4,λv H4 d s5 d5 q5=>?_⟩;have U:H4 ψ=aa (.lst ys):=((s3.trans s4).trans s5) _ _ o;have F:Fits K (λa=>S a/\a≠ψ) (λa=>S a/\a≠ψ) H4 (upd H4 ψ (.lst (ys++[v]))):=.upd (.inl ⟨_,U⟩) λz=>z.2 rfl;show⟨U,by rw[<- dn.len];show q5.1,_,∅,rfl,p,λb u hb=>?_,aN,I++[d],aM.fits F _ _ ((aM.fits (.same ((s3.trans s4).trans s5)) _ _ dn).append (aM.one d5)),q5.2⟩;rw[aL (bB hb j)];show(((A.trans s3).trans s4).trans s5) _ _ hb
 .have e:i=⇑ds:=∅
  subst e;rw[Xz,oQ] at cw;show .inl ⟨wk.stop _ l Y _ rfl,k ψ ys l I h0 o (Z.trans A) dn cw⟩
theorem Ou{ls fs:Q0g}{fr:List Nat}{sc:fq}{d iter elt:au}{ifs:List au}{ν:ba}{j:WI}{g:GE}{tf:WT}{te:WE}(v:X.calm=af)(m:R4 X d iter j)
  (o:∀a C pn ex s H,(blk X (ls++fs) sc a C pn ex s H).N.Nodup->PG4 (blk X (ls++fs) sc a C pn ex s H) ⇑ls d g) (p:∀a C pn ex s H,SA (blk X (ls++fs) sc a C pn ex s H) ifs tf) (q:∀a C pn ex s H,bO (blk X (ls++fs) sc a C pn ex s H) elt te)
  (B:YR X.env.scope.names sc X.N ls fs fr=af<|>0) (l:Zo X iter<|>5):F5 X (.ListComp elt [⟨d,iter,ifs,0⟩] sc ν) (NQ ⇑ls fr j g tf te) :=
 imp (R9 (g:=yH X.K ⇑ls ⇑(ls++fs) g) (tf:=liftT X.K tf) (te:=lift X.K te) v (DN B) m (λa C pn ex s H=>o a C pn ex s H (DN B).nd) p q l) λσ H Q h=>IS (n:=⇑(ls++fs)) (by rw[cu,(DN B).IM]) h
noncomputable def tyD:D->String
 |.non => "NoneType"
 |.bl _ => "bool"
 |.int _ => "int"
 |.str _ => "str"
 |.tup _ => "tuple"
 |.lst _ => "list"
 |.i9 _ => "list"
 |.iR _ _ => "dict"
 |.mL _ _ _ => "dict"
 |.exc _ _ => "NoneType"
 |.rws _ => "NoneType"
inductive DO:String->Prop
 |t:DO "tuple"
 |b:DO "bool"
 |i:DO "int"
 |s:DO "str"
def rE(T:String)(d:D):Bool:=tyD d == T||(T == "int"&&tyD d == "bool")
def Gx(K:aq)(T:String):List V->Hp->VK->Prop:=λxs H Q=>∃x t b,xs=[x,.ty T]/\(oJ K H x t\/(t=.type "tuple" /\∃a ys,x=.ref a/\eR K H a ys)\/(t=.type "list" /\∃a ys,x=.ref a/\eJ K H a ys))/\ox K t (.type T)=aa b/\Q (.bl b) H
theorem NR:eB X (.builtin "isinstance") (Gx X.K T):=by
 intro π s σ H xs F Q I r h;obtain⟨x,t,b,rfl,ty,e,q⟩:=h;obtain⟨u,y,rfl,j,A⟩:=vals2 r;obtain rfl:y=my T:=A;rcases ty with ty|⟨rfl,a,ys,rfl,l⟩|⟨rfl,a,ys,rfl,l⟩
 .exact HZ I j ty e λd=>⟨.bl b,H,I.tok d,rfl,q⟩
 .cases j;obtain⟨v,_,p,_⟩:=I.tuple l;obtain⟨o,m,h2,_⟩:=p;show gx Tt I.rF ⟨o,m,h2⟩ e (λz=>nomatch z) λd=>⟨.bl b,H,I.tok d,rfl,q⟩
 .cases j;obtain⟨v,_,p,_⟩:=I.list l;obtain⟨o,n,m,h2,_⟩:=p;show gx Ac I.rF ⟨o,m,h2⟩ e (λz=>nomatch z) λd=>⟨.bl b,H,I.tok d,rfl,q⟩
noncomputable def VD:D->Prop
 |.exc _ _=>False
 |.mL _ _ _=>False
 |.rws _=>False
 |_=>True
def Gw(T:String)(t:WE):WE:=λρ Q=>t ρ λd=>VD d/\Q (.bl (rE T d))
def Gv{K:aq}{T:String}(h:DO T)(d:D):ox K (.type (tyD d)) (.type T)=aa (rE T d):=by cases h<;>cases d<;>with_unfolding_all rfl
def Ot{K:aq}{S:ah->Prop}{H:Hp}{d:D}{v:V}(l:VD d)(h:Dn K S H d v):∃t,t=my (tyD d)/\(oJ K H v t\/(t=.type "tuple" /\∃a ys,v=.ref a/\eR K H a ys)\/(t=.type "list" /\∃a ys,v=.ref a/\eJ K H a ys)):=by
 show⟨_,rfl,?_⟩;cases d<;>symm at h
 .subst h;show .inl .non
 .subst h;show .inl (.bl _)
 .subst h;show .inl (.int _)
 .subst h;show .inl (.str _)
 .obtain ⟨a,xs,rfl,j,_⟩:=h;show .inr (.inl ⟨rfl,a,xs,rfl,(eR.of j)⟩)
 .obtain ⟨a,xs,rfl,j,_⟩:=h;show .inl (.lst j)
 .obtain ⟨a,rfl,j⟩:=h;show .inr (.inr ⟨rfl,a,_,rfl,j.sq⟩)
 .obtain ⟨a,xs,rfl,j,_⟩:=h;show .inl (.dK j)
 .exact l.elim
 .exact l.elim
 .exact l.elim
theorem Gu{T:String}{x:ai}{e:au}{t:WE}{p a ν:ba}(O:DO T)(J:X.mg "isinstance"=ae)(l:X.mg x=ae)(A:bootBuiltins x=aa (.type T))(L:bO X e t)(K:Gl X "isinstance"<|>0)(m:Gl X x<|>0)(I:x ≠ "__name__"<|>1)(n:Zu x<|>1)
  (o:(ar [e,.Name x a] X.env=(ag,eval e X.env)::ar [.Name x a] X.env)<|>0) (h:(ar [.Name x a] X.env=(ag,eval (.Name x a) X.env)::ar [] X.env)<|>0) (j:(bz ν (ar [.Name x a] X.env)).any (·.1)=ag<|>0):
  bO X (.Call (.Name "isinstance" p) [e,.Name x a] [] ν) (Gw T t) :=
 imp (jP (NR (T:=T)) K J Bb (cJ L (cJ (FN (v:=.ty T) m l A rfl I n) iF h) o) ⋯ ⋯ o j) λσ H Q Gg=>by obtain⟨S,ρ,Q3,U,y,F,k⟩:=Gg;show⟨S,ρ,_,U,y,F,λv H1 d z d1 q1=>?_⟩;obtain⟨q,Z,Y⟩:=Ot q1.1 d1;show⟨v,q,rE T d,rfl,Y,?_,k _ H1 (.bl _) z (by symm) q1.2⟩;rw[Z];show Gv O d
noncomputable def VE:List D->Option (List Bool)
 |[]=>aa []
 |.bl b::r=>(VE r).map (b :: ·)
 |_::_=>ae
theorem range_all(bs:List Bool):(ck ⇑bs).all (λi=>bs.getD i af)=bs.all id:=by
 induction bs with
 |nil=>rfl
 |cons b bs ih=>rw[cn,Bp,qj,Ya,qj,<- ih];rfl
theorem range_any(bs:List Bool):(ck ⇑bs).any (λi=>bs.getD i af)=bs.any id:=by
 induction bs with
 |nil=>rfl
 |cons b bs ih=>rw[cn,Bp,jr,X_,jr,<- ih];rfl
def blF(f:List Bool->Bool):F1
 |[.lst ds],Q=>(match VE ds with|some bs=>Q (.bl (f bs))|none=>False)
 |_,_=>False
def GD:List V->Hp->VK->Prop:=λxs H Q=>∃a ns,xs=[.ref a]/\H a=aa (.lst (ns.map V.int))/\⇑ns<64 /\∀d:Q0e,d.Perm ns->d.Pairwise (· <= ·) ->∀p,H p=ae->Q (.ref p) (upd H p (.lst (d.map V.int)))
theorem oR:eB X (.builtin "sorted") GD:=by
 intro π s σ H xs O Q I r h;obtain⟨a,ns,rfl,A,Y,q⟩:=h;obtain⟨u,rfl,y⟩:=vals1 r;cases y;obtain⟨j,v,p,U⟩:=I.list (eJ.of A);have z:=intsAre_of v;have hlen:⇑j=⇑ns:=by have:=⇑v;rw[bp] at this;show this.symm
 show sorted_ints p.isList z ∅ λout d K x J=>?_;have m:H (↥s+1)=ae:=I.hok.fresh (l_ _);obtain⟨F,n⟩:=Wd s.heap j out;have l:⇑d<=bc:=by rw[x.length_eq,df];lia
 have L:Φ X π σ (upd H (↥s+1) (.lst (d.map V.int))) {s with heap:=sortedAll s.heap j out} :=
  I.laid (t':=s.toks) (λb o e=>Wc e) (l_ _) ⟨by rw[bp];show l,out.toList,F,l9 K,by simpa[seqObj] using n⟩
 show⟨.ref _,_,L,rfl,q d x J _ m⟩
def intsOf:List D->Option (List Int)
 |[]=>aa []
 |.int b::r=>(intsOf r).map (b :: ·)
 |_::_=>ae
theorem vS:∀{ds:List D} {bs:Q0e},intsOf ds=aa bs->ds=bs.map D.int
 |[],bs,h=>by cases h;rfl
 |.int b::r,bs,h=>by
  rw[intsOf] at h
  cases q:intsOf r with
  |none=>rw[q] at h;cases h
  |some cs=>rw[q] at h;cases h;rw[bt,vS q]
 |.non::r,bs,h=>by cases h
 |.bl _::r,bs,h=>by cases h
 |.str _::r,bs,h=>by cases h
 |.tup _::r,bs,h=>by cases h
 |.lst _::r,bs,h=>by cases h
 |.i9 _::r,bs,h=>by cases h
 |.iR _ _::r,bs,h=>by cases h
 |.mL _ _ _::r,bs,h=>by cases h
def NS:F1
 |[.lst ds],Q=>(match intsOf ds with|some ns=>⇑ns<64 /\∀a:Q0e,a.Perm ns->a.Pairwise (· <= ·)->Q (.lst (a.map D.int))|none=>False)
 |_,_=>False
theorem SE{K:aq}:C3F K GD NS:=by
 intro S H xs ds Q3 Q A n j k
 match ds,j with
 |[.lst es],j =>
  obtain⟨v,r,rfl,l,h2⟩:=n.bH;erw[aM] at h2;subst h2;symm at l;obtain⟨a,ys,rfl,o,z,y⟩:=l;have h:(match intsOf es with|some ns=>⇑ns<64 /\∀d:Q0e,d.Perm ns->d.Pairwise (· <= ·)->Q3 (.lst (d.map D.int))|none=>False):=j
  clear j
  cases q:intsOf es with
  |none=>rw[q] at h;show h.elim
  |some ns =>
   rw[q] at h;have e:=vS q;subst e;have x:=aM.ints.mp y;subst x;show⟨a,ns,rfl,o,h.1,λd l h2 p m=>k p _ _ _ m aN (aI m) (aM.ints.mpr rfl) (h.2 d l h2)⟩
def SG(a:X.mg "sorted"=ae)(j:yC X [e] t)(d:Gl X "sorted"<|>0)
  (h:Zr X e []<|>0):F5 X (.Call (.Name "sorted" p) [e] [] ν) (PQ NS t):=GA oR SE A_ d a j ⋯ ⋯ h (by rfl)
section
def IT(z:Gl X "range")(y:X.mg "range"=ae)(A:PA X [a] ta)(x:ar [a] X.env=[(ag,eval a X.env)]<|>0):
  PE X (.Call (.Name "range" p) [a] [] ν) (λσ H Q=>ta σ H λvs d=>∃j:Int,vs=[.int j] /\∀p,d p=ae->Q (.ref p) (upd d p (.rng 0 j))):=by
 intro π s σ H Q I h;show Call_ (nE I z y Ba (se (c6 (A ν π s σ H _ I h) λF m ⟨vs,d,l,v,q1⟩=>?_) x rfl));obtain⟨j,e,q⟩:=q1;subst e;obtain⟨u,rfl,n⟩:=vals1 v;obtain⟨t,rfl⟩:=n;show Th ?_;show⟨.ref ↥m,_,l.laid (o:=.rng 0 j) (λb o e=>bu _ e) (bf _) ⟨_,_,_,cz _ rfl⟩,rfl,q _ (l.hok.fresh (bf _))⟩
def NT{a:Int}{n:Nat}{ψ:Array aj}(h:ItemsOf (λi v=>∃t,v=.int (a+(i:Nat)*1) t) ψ n):θ ((rA a n).map V.int) ψ.toList:=by
 obtain⟨q,x⟩:=h;have key:∀(l:Q0f) (k:Nat) (m:Nat),⇑l=m->(∀(j:Nat) (v:aj),l[j]?=aa v ->∃t,v=ie (a+((k+j:Nat):Int)) t)->θ (((List.range' k m).map λi:Nat=>a+(i:Int)).map V.int) l:=by
  intro l
  induction l with
  |nil=>intro k m d _;subst d;show .nil
  |cons v l ih =>
   intro k m d p;subst d;rw[cn,List.range'_succ,bt,bt];show .cons ?_ (ih (k+1) ⇑l rfl λj w e=>?_)
   .obtain ⟨t,e⟩:=p 0 v (by simp);show⟨t,↑e⟩
   .obtain ⟨t,o⟩:=p (j+1) w ↑e;show⟨t,by rw[o];congr 1;congr 1;congr 1;lia⟩
 have:=key ψ.toList 0 n ↑q λj v e=>by obtain⟨t,o⟩:=x j v ↑e;show⟨t,by rw[o];simp⟩
 unfold rA;rw[List.range_eq_range'];show this
theorem uR(J:X.calm=af):eB X (.type "list") (λxs H Q=>∃p j,xs=[.ref p]/\H p=aa (.rng 0 j) /\ -(2^62)<=j/\j<=16777216 /\∀l,H l=ae->Q (.ref l) (upd H l (.lst ((rA 0 j.toNat).map V.int)))):=by
 intro π s σ H xs L Q I r h;obtain⟨p,j,rfl,A,Y,U,q⟩:=h;obtain⟨u,rfl,x⟩:=vals1 r;cases x;obtain⟨t,u,v,e⟩:=I.hok p _ A;have hsz:sd 0 j 1=(j.toNat:Int):=by rw[Sy];split<;>lia
 show call_list_range (a:=0) (b:=j) (c:=1) (n:=j.toNat) (I.ok.hd J) e (small_one ∅ ∅ ∅ ∅) hsz ∅ λh' O d K y F hit=>?_;have m:H ↥s=ae:=I.hok.fresh (bf _);have z:θ ((rA 0 j.toNat).map V.int) d.toList:=NT hit;show⟨.ref ↥s,_,I.laid (o:=.lst ((rA 0 j.toNat).map V.int)) y (bf _) ⟨?_,d.toList,K,z,↑F⟩,rfl,q _ m⟩;rw[bp,qO,df];lia
noncomputable def YS(t:WA):WE:=λρ Q=>t ρ λds=>match ds with
 |[.int j]=>(-(2^62)<=j/\j<=16777216)/\Q (.lst ((rA 0 j.toNat).map D.int))
 |_=>False
def DP(K:X.calm=af)(I:X.mg "list"=ae)(d:X.mg "range"=ae)(L:yC X [a] t)(J:Gl X "list"<|>0)(m:Gl X "range"<|>0)(F:ar [a] X.env=[(ag,eval a X.env)]<|>0)
  (x:(ar [.Call (.Name "range" p2) [a] [] pos2] X.env=(ag,eval (.Call (.Name "range" p2) [a] [] pos2) X.env)::ar [] X.env)<|>0):
  F5 X (.Call (.Name "list" p) [.Call (.Name "range" p2) [a] [] pos2] [] ν) (YS t) :=
 imp (pS (uR K) J I a1f (cJ (IT m d L F) iF x) ⋯ ⋯ x (by rfl)) λσ H Q Z=>by
  obtain⟨S,ρ,Q3,O,z,A,k⟩:=Z;show⟨S,ρ,_,O,z,A,λvs Y ds n U q1=>?_⟩;split at q1
  .rename_i j;obtain⟨v,r,rfl,y,h2⟩:=U.bH;erw[aM] at h2;subst h2;symm at y;subst y;show⟨j,rfl,λp o=>⟨p,j,rfl,aN,q1.1.1,q1.1.2,λl q=>?_⟩⟩;have h:Y l=ae:=(aI o).free q;show k l _ _ _ (n.free h) aN ((n.trans (aI o)).trans (aI q)) (aM.ints.mpr rfl) q1.2
  .exact q1.elim
def i7(ks:List Key)(ds:List D)(k:Key):Option D:=((ks.zip ds).find? λa=>Zv (a.1=k)).map (·.2)
theorem tJ{K:aq}{S:ah->Prop}{H:Hp}{k:Key}:∀{ks:List Key} {ds:List D} {xs:List V},⇑ks=⇑xs->aM K S H ds xs ->
  (∀d,i7 ks ds k=aa d ->∃v,kP (ks.zip xs) k=aa v/\Dn K S H d v)/\(i7 ks ds k=ae->kP (ks.zip xs) k=ae)
 |[],ds,xs,_,_=>by
  show⟨λd e=>?_,λ_=>?_⟩
  .simp [i7] at e
  .simp [kP]
 |q::ks,ds,xs,hl,dn=>by
  cases ds with
  |nil=>erw[aM] at dn;subst dn;simp at hl
  |cons d0 ds =>
   obtain⟨v,r,rfl,l,h2⟩:=dn.bH;have j:=tJ (k:=k) (ks:=ks) (ds:=ds) (xs:=r) ↑hl h2;by_cases e:q=k
   .refine ⟨λd a=>?_,λa=>?_⟩
    .erw[i7,Xg,mf,e,decide_true,kg] at a;cases a;show⟨v,by simp[kP,e],l⟩
    .simp [i7,e] at a
   .refine ⟨λd a=>?_,λa=>?_⟩
    .have h:i7 ks ds k=aa d:=by simpa[i7,e] using a
     obtain⟨u,m,n⟩:=j.1 d h;show⟨u,by simpa[kP,e] using m,n⟩
    .have h:i7 ks ds k=ae:=by simpa[i7,e] using a
     simpa[kP,e] using j.2 h
theorem NU(hN:X.N.Nodup)(j:X.N[i]?=aa x<|>0)(l:Loc X.env.scope x<|>2)(n:fg (.Dict [] [] p) (aa (.Name x pos')) ν.line X.env=pure ag<|>0)(o:Zq X x<|>2):
  BS X (.Assign [.Name x pos'] (.Dict [] [] p) ν) (λE ρ=>E.nx (ρ.set i (.ow (.iR [] [])))):=lG (pQ hN j l M1 n o) λB σ H ⟨H₀,S,w,ρ,G,E,h,st,m,ok⟩=>λp a =>
 ok.nx _ _ _ _ (by rw[ik];show h) (st.M4 (d:=.iR [] []) (by rw[h];show jR j) (aI a) a ⟨[],aN,rfl,aM.nil⟩) m
noncomputable def AR:D->Option Key
 |.int i=>aa (.inl i)
 |.str x=>aa (.inr x)
 |_=>ae
theorem NV{K:aq}{S:ah->Prop}{H:Hp}{d:D}{v:V}{k:Key}(h:Dn K S H d v)(e:AR d=aa k):v=kV k:=by cases d<;>erw[AR] at e<;>cases e<;>symm at h<;>show h
def YT:F2:=λx y Q=>match x,AR y with
 |.iR ks ds,aa k=>(match i7 ks ds k with|some d=>Q d|none=>False)
 |_,_=>False
theorem Ge{o i:au}{ν:ba}{m n:WE}(y:X.A.units+1<fv)(ho:bO X o m)(J:bO X i n)(F:RQ i<|>7):bO X (.Subscript o i ν) (fD YT m n):=imp (RS y ho J F) λσ H Q Gd=>by
 obtain⟨S,ρ,Q3,x,p,z,k⟩:=Gd;show⟨S,ρ,_,x,p,z,λv H1 d j Y q1=>?_⟩;show⟨S,ρ,_,aR x j,Sl.fits (.same j) p,q1,λu Z d2 q DL q2=>?_⟩;unfold YT at q2;split at q2
 .rename_i ks ds kk ek;have h:=Dn.fits (.same q) _ _ Y;symm at h;obtain⟨a,xs,rfl,K,sa,I,U⟩:=h;split at q2
  .rename_i d3 e3;obtain⟨l,ev,O⟩:=(tJ I U).1 d3 e3;have L:=NV DL ek;subst L;show⟨a,l,rfl,?_,k l Z d3 (j.trans q) O q2⟩;have g:=IF.k (k:=kk) K;rw[ev] at g;show g
  .exact q2.elim
 .exact q2.elim
def Oq(i:Nat)(t:WX)(h:WE):WS:=λE ρ=>t ρ λa d=>(match a[i]? with|some (.ow (.iR _ _))=>True|_=>False)/\h (aV a) λj=>match a[i]?,AR j with
 |some (.ow (.iR ks ds)),aa k=>(i7 ks ds k=ae/\⇑ds<bc)/\E.nx (a.set i (.ow (.iR (ks++[k]) (ds++[d]))))
 |_,_=>False
theorem Oo{i:Nat}{x:ai}{e k:au}{t:WX}{I:WE}{ν pos' p:ba}(hu:X.A.units+1<fv)(he:DK X e t)(hk:bO X k I)
  (hN:X.N[i]?=aa x<|>0) (hv:vH X.env.scope x<|>3) (hd:Zu x<|>1) (q:Zt x<|>1)
  (hs:fg e (aa (.Subscript (.Name x p) k pos')) ν.line X.env=pure ag<|>0):
  BS X (.Assign [.Subscript (.Name x p) k pos'] e ν) (Oq i t I):=lG (RT hu (sS hN hv hd q) hk he hs) λB σ H Gb=>by
 obtain⟨H₀,S,w,ρ,G,E,U,st,ht,ok⟩:=Gb;show⟨H₀,S,w,ρ,G,_,U,st,ht,λl v H' h d j d' n=>?_⟩;obtain⟨L,n⟩:=n;split at L
 .rename_i ks0 ds0 e0;obtain⟨a0,_,_⟩:=j.own i _ e0;show⟨_,a0,S,aV h,_,j.F0,j.all,n,λkv Y dk J y q2=>?_⟩;split at q2
  .rename_i ks ds kk e1 ek;have m:=j.same J;obtain⟨a,b,c⟩:=m.own i _ e1;obtain⟨xs,O,hlen,dn⟩:=c;have eu:=NV y ek;subst eu;have o:=(tJ (k:=kk) hlen dn).2 q2.1.1;have Z:¬ SO S l h (l i):=λ⟨_,z⟩=>z i _ e1 rfl;have hz:⇑(ks.zip xs)<bc:=by rw[List.length_zip,hlen,Nat.min_self,<- dn.len];show q2.1.2
   have Ga:putK (ks.zip xs) kk v=(ks++[kk]).zip (xs++[v]):=by rw[MV v o,List.zip_append hlen];rfl
   have F:Fits X.K (SO S l h) (SO S l h) Y (upd Y (l i) (.dK (putK (ks.zip xs) kk v))):=.upd (.inr (.inl ⟨_,O⟩)) Z;show⟨l i,_,rfl,MZ.k O hz,ok.nx l σ _ _ U (m.write (d':=.iR (ks++[kk]) (ds++[d])) e1 ⟨xs++[v],?_,by simp[hlen],aM.fits F _ _ (dn.append (aM.one (Dn.fits (.same J) _ _ d')))⟩) q2.2⟩;rw[aN,Ga]
  .exact q2.elim
 .exact L.elim
def Om(i:Nat)(t:WE):WS:=λE ρ=>t (aV ρ) λd=>(match d with | .lst ds=>wZ ds=af|_=>False)/\E.nx (ρ.set i (.ro d))
def Ol(hN:X.N.Nodup)(y:F5 X e t)(l:X.N[i]?=aa x<|>0)(m:Loc X.env.scope x<|>2)(o:Rv X e x pos' ν<|>0)(v:Zq X x<|>2):
  BS X (.Assign [.Name x pos'] e ν) (Om i t):=lG (pQ hN l m y o v) λB σ H z=>by
 obtain⟨H₀,S,w,ρ,G,E,j,st,n,ok⟩:=z;show⟨_,aV ρ,_,st.F0,st.all,n,λp xs H' ds q a s' d' h=>ok.nx w _ H' _ (by rw[ik];show j) ((st.same s').lE (d:=.lst ds) (by rw[j];show jR l) (by symm;show⟨p,xs,rfl,a,st.RU p q,aM.uF h.1 d'⟩)) h.2⟩
def YU(c:WT)(j:WS):WS:=λE ρ=>∃(Φ:bG->Prop) (h:bG->Nat),Φ ρ /\∀a,Φ a->c (aV a) λb=>if b=af then j {E with nx:=λd=>Φ d/\h d<h a,ct:=λd=>Φ d/\h d<h a,bk:=E.nx} a else E.nx a
theorem YV(U:o_ (aw X.Ω X.w) X.A X.env X.xe)(hc:tE X c tc)(hb:qZ X body tb):BS X (.While c body [] ν) (YU tc tb):=lG (MD U hc hb) λB σ H Fz=>by
 obtain⟨H₀,S,w,ρ,G,E,Z,st,⟨L,F,h0,turn⟩,ok⟩:=Fz;show⟨λm σ H=>∃w ρ,⇑σ=⇑X.N/\ST X.K H₀ S w σ H ρ G/\L ρ/\m=F ρ,⟨_,w,ρ,Z,st,h0,rfl⟩,?_⟩;rintro m z H2 ⟨J,n,x,o,O,rfl⟩;show⟨S,aV n,_,o.F0,o.all,turn n O,λb H3 s3 y=>?_⟩
 cases b with
 |false=>rw[Zz bg] at y ⊢;show ok.nx J z H3 n x (o.same s3) y
 |true =>
  rw[Z_ rfl] at y ⊢;show⟨λa H'=>∃w ρ,⇑a=⇑X.N/\ST X.K H₀ S w a H' ρ G/\L ρ/\F ρ<F n,λa H' ⟨p,h,l,j,I,Y⟩=>⟨_,Y,p,h,l,j,I,rfl⟩,?_⟩;show⟨H₀,S,J,n,G,_,x,o.same s3,y,⟨λp a H' h l j q=>⟨p,h,l,j,q.1,q.2⟩,λv H' d s' d' q=>ok.rt v H' d s' d' q,λp a H' h l j q=>ok.nx p a H' h l j q,λp a H' h l j q=>⟨p,h,l,j,q.1,q.2⟩,ok.ex⟩⟩
section
variable{i:Nat}{x:ai}{e:au}{p apos cpos:ba}{t:WX}
noncomputable def VF(i:Nat):WX:=λρ Q=>match ρ[i]? with
 |some (.ow (.lst ds))=>(match ds[⇑ds-1]? with|some d=>Q (ρ.set i (.ow (.lst ds.dropLast))) d|none=>False)
 |_=>False
def aM.dropLast{K:aq}{S:ah->Prop}{H:Hp}{ds:List D}{xs:List V}(h:aM K S H ds xs):aM K S H ds.dropLast xs.dropLast:=by rw[<- nF,<- nF,<- h.len];show h.erase _
def Oj(hN:X.N[i]?=aa x<|>0)(A:vH X.env.scope x<|>3)(L:Zu x<|>1)(o:Zt x<|>1)
  (l:attributeBase (.Name x p) "pop" X.env (eval (.Name x p) X.env)=eval (.Name x p) X.env<|>0) (h:Q0k apos cpos<|>0):
  DK X (.Call (.Attribute (.Name x p) "pop" apos) [] [] cpos) (VF i) :=
 imp (MO An vq Uw XZ (sS hN A L o) l h) λσ H Q U=>by
  obtain⟨H₀,S,w,ρ,G,Q3,Y,st,m,k⟩:=U;unfold VF at m;split at m
  .rename_i ds e;split at m
   .rename_i d ed;obtain⟨a,b,c⟩:=st.own i _ e;obtain⟨xs,n,dn⟩:=c;obtain⟨v,ev,O⟩:=dn.get ed;have y:¬ SO S w ρ (w i):=λ⟨_,z⟩=>z i _ e rfl;have F:Fits X.K (SO S w ρ) (SO S w ρ) H (upd H (w i) (.lst xs.dropLast)):=.upd (.inl ⟨_,n⟩) y;have q:∀a,SO S w ρ a->SO S w (ρ.set i (.ow (.lst ds.dropLast))) a:=SO.mono λj f J=>by
     rcases get_set J with⟨I,_,_⟩|⟨_,z⟩
     .subst I;show⟨_,e⟩
     .exact ⟨_,z⟩
    show⟨_,a,.inl ⟨rfl,xs,eJ.of n⟩,w i,xs,v,rfl,rfl,n,by rw[<- dn.len];show ev,?_⟩;show k w v _ _ d (st.write (d':=.lst ds.dropLast) e ⟨_,aN,aM.fits F _ _ dn.dropLast⟩) (Dn.fits (F.trans (.mono q)) _ _ O) m
   .exact m.elim
  .exact m.elim
end
end
section
variable{π:Q0b}{σ:L2.St}{H:Hp}{s:ak}{h':a_}
theorem turnT{t':Nat}{ch:List ah}{T:ah}{xs:List V}{h:Q0f}(I:Φ X π σ H s)(k:∀b o,b∉ch->s.heap.get? b=aa o->h'.get? b=aa o)(l:∀b∈ch,mF X π H b)
  (m:↥s<=T) (y:θ xs h) (x:⇑xs<=bc) (A:gc h' T h.toArray) (nd:z7 h' T):Φ X π σ (upd H T (.tup xs)) {s with heap:=h',toks:=t' }:=by
 have fr:H T=ae:=I.hok.fresh m;have p:∀{b:ah} {o:ay},s.heap.get? b=aa o->b≠T:=λ{b} {o} e z=>gf _ (e_ (bj e) (z▸m));have live:∀{b:ah} {u:HO},H b=aa u->b∉ch:=λ{b} {u} e z=>by rw[(l _ z).1] at e;cases e
 show I.call' (s':={s with heap:=h',toks:=t' }) (ch:=ch) rfl ⟨λb o e _ _ a=>k b o a e,λb o e _ _ a=>⟨o.slots,k b o a e⟩,λb o e n _=>by rw[aL (p e)];show n,λb o e a=>⟨o,k b o a e⟩,
  λb ys e=>by rw[aL (bB e fr)];show e,λb o u e=>by rw[aL (bB e fr)];show e,λb ps e=>by rw[aL (bB e fr),e]⟩ ?_ I.bare λb d=>?_
 .intro b u e;by_cases d:b=T
  .subst d;rw[aN] at e;cases e;show⟨x,h,y,A,nd⟩
  .rw [aL d] at e;show(I.hok b u e).stay (λc v j q=>k c v ?_ q) (λc q=>by rw[aL (bB q fr)];show q) (λc ys q=>by rw[aL (bB q fr)];show q) λc o u q=>by rw[aL (bB q fr)];show q
   rcases j with rfl|j
   .exact live e
   .exact live j
 .obtain ⟨_,L,_,K,J,F⟩:=l b d;show⟨K,L,J,F⟩
def tK{t':Nat}{ch:List ah}(I:Φ X π σ H s)(k:∀b o,b∉ch->s.heap.get? b=aa o->h'.get? b=aa o)(h:∀b∈ch,mF X π H b):Φ X π σ H {s with heap:=h',toks:=t' }:=by
 have live:∀{b:ah} {u:HO},H b=aa u->b∉ch:=λ{b} {u} e z=>by rw[(h _ z).1] at e;cases e
 show I.call' (s':={s with heap:=h',toks:=t' }) (ch:=ch) rfl ⟨λb o e _ _ a=>k b o a e,λb o e _ _ a=>⟨o.slots,k b o a e⟩,λb o e n _=>n,λb o e a=>⟨o,k b o a e⟩,
  λb ys e=>e,λb o u e=>e,λb ps e=>e⟩ ?_ I.bare λb j=>?_
 .intro b u e;show(I.hok b u e).stay (λc v d q=>k c v ?_ q) (λc q=>q) λc ys q=>q;rcases d with rfl|d
  .exact live e
  .exact live d
 .obtain ⟨_,x,_,p,m,l⟩:=h b j;show⟨p,x,m,l⟩
end
def Itp(go:Nat->Hp->Prop)(Y:Nat->Hp->List V->Prop)(stop:Nat->Hp->Prop):It:=⟨go,λi H x H'=>∃T vs,x=.ref T/\H T=ae/\H'=upd H T (.tup vs)/\Y i H vs,stop⟩
def NW(P:bb)(w:az)(A:bo)(it:ah)(wr:List ah)(n:Nat)(d:Nat->Array aj->Prop)(St:Nat->a_->Prop)(Mid:Nat->ah->a_->Prop):Prop :=
 ∀i (s:ak) (Q:Option aj->ak->Prop) (E:Q0c),i<n->St i s.heap ->
  (∀T vals h' a,d i vals->↥s<=T->h'.IsTuple T vals->z7 h' T->Mid i T h'->(∀b o,b∉wr->s.heap.get? b=aa o->h'.get? b=aa o)->Q (aa (.ref T)) {s with heap:=h',toks:=a}) ->
  av (aw P w) A (pyNext (.ref it)) Q E s
theorem tL{P:bb}{w:az}{K:aq}{es:List au}{kk:Nat}{tp:ba}{go:Nat->Hp->Prop}{Y:Nat->Hp->List V->Prop}{stop:Nat->Hp->Prop}{m:List ah}{it:ah}{tn:Nat->a_->Prop}(mem:it∈m)
  (obj:∀i h,tn i h ->∀b∈m,∃o,h.get? b=aa o /\∀v,o.data≠.cell v) (keep:∀i h h',tn i h->(∀b∈m,∀o,h.get? b=aa o->h'.get? b=aa o)->tn i h')
  (wk:∀(X:Cx),X.Ω=P->X.w=w->X.K=K->X.calm=af ->∀(i:Nat) (π:Q0b) (s:ak) (σ:L2.St) (H:Hp),Φ X π σ H s->tn i s.heap->go i H\/stop i H ->
   ∃j wr n p St Mid,(WalksT P w X.A it j wr n p St Mid/\NW P w X.A it wr n p St Mid)/\St i s.heap/\(∀b∈wr,b∈m)/\(∀h,St (i+1) h->tn (i+1) h) /\
    (go i H->i<n /\∀vals,p i vals ->∃vs,⇑vs<=bc/\θ vs vals.toList/\Y i H vs)/\(stop i H->i=n))
  (self:∀(A:bo) (i:Nat) (s:ak) (Q:Q0c) (E:Q0c),tn i s.heap->Q (.ref it) s->av (aw P w) A (pyIter (.ref it)) Q E s):
  Turn P w K (.Tuple es kk tp) (Itp go Y stop) m it tn where
 mem:=mem
 obj:=obj
 keep:=keep
 self:=self
 item:=by intro X U hw Z L i π s σ H E I x st l;obtain⟨j,wr,n,p,St,Mid,⟨W,J2⟩,F,sub,nx,ok,_⟩:=wk X U hw Z L i π s σ H I st (.inl l);obtain⟨hi,ok⟩:=ok l;show J2 i s _ _ hi F λT vals h1 q hp O ht nd J k1=>⟨.ref T,rfl,W.go es kk tp i T _ _ _ J λh2 s2 k2=>?_⟩;obtain⟨vs,hz,hv,hy⟩:=ok vals hp;obtain⟨o,eo,c,d⟩:=ht;have y:gc h2 T vals.toList.toArray:=⟨o,k2 T o (W.apart i T _ J) eo,c,↑d⟩;have I2:Φ X π σ (upd H T (.tup vs)) {s with heap:=h2,toks:=q}:=turnT (t':=q) (ch:=wr) I (λb o a e=>k2 b o a (k1 b o a e)) (λb a=>x b (sub b a)) O hv hz y (nd.at eo (k2 T o (W.apart i T _ J) eo));show⟨.ref T,upd H T (.tup vs),I2,rfl,⟨T,vs,rfl,I.hok.fresh O,rfl,hy⟩,nx h2 s2,λb a=>?_⟩;obtain⟨ob,eb,_⟩:=obj _ _ st b a;have nb:b≠T:=λz=>gf _ (e_ (bj eb) (z▸O));rw[aL nb];show(x b a).1
 done:=by intro X U hw Z L i π s σ H E I x st l;obtain⟨j,wr,n,p,St,Mid,⟨W,_⟩,F,sub,nx,_,ok⟩:=wk X U hw Z L i π s σ H I st (.inr l);obtain rfl:=ok l;show W.done s _ _ F λh2 q k2=>⟨rfl,tK (t':=q) (ch:=wr) I k2 λb a=>x b (sub b a)⟩
def Iel(K:aq)(l:ah):It:=Itp (λi H=>∃xs v,eJ K H l xs/\xs[i]?=aa v) (λi H vs=>∃v,vs=[.int i,v] /\∀xs,eJ K H l xs->xs[i]?=aa v) (λi H=>∃xs,eJ K H l xs/\⇑xs=i)
def Iet(K:aq)(l:ah):It:=Itp (λi H=>∃xs v,eR K H l xs/\xs[i]?=aa v) (λi H vs=>∃v,vs=[.int i,v] /\∀xs,eR K H l xs->xs[i]?=aa v) (λi H=>∃xs,eR K H l xs/\⇑xs=i)
def AS:[V.int 0,V.int 0].length<=bc:=by rw[df];decide
theorem AU(e it l:ah)(d:e≠it)(hle:l≠e)(a:l≠it)(items:Array aj):NW Ω w A e [e,it] items.size (λi vals=>∃t x,items[i]?=aa x/\vals=#[.int i t,x])
  (λi h=>(∃old,rz h e it i old)/\h.IsListIter it l i/\h.IsList l items) (λi T h=>(∃x,IsEnumOut h e it ((i:Int)+1) x T)/\h.IsListIter it l (i+1)/\h.IsList l items/\T≠e/\T≠it):=by
 intro i s Q E F ⟨⟨old,z⟩,v,p⟩ q;have n:items[i]?=aa items[i]:=ka F;show wpAny_pyNext_enum_item z v p n d λg J I b3 _ m=>?_;have l1:e<↥s:=bj z;have l2:it<↥s:=by obtain⟨_,y,_⟩:=v;show bj y
 show q ↥s #[.int i s.toks,items[i]] g (s.toks+1) ⟨_,_,n,rfl⟩ (bf _) ⟨_,b3,rfl,_,rfl⟩ (z7.is b3 rfl) ⟨⟨_,J⟩,I,p.at λo y=>m l o hle a y,nc l1,nc l2⟩ λb o j y=>?_;erw[bh,i_,or_false,not_or] at j;show m b o j.1 j.2 y
theorem AV{Ω:bb}{w:az}{A:bo}{it:ah}{m:List ah}{n:Nat}{P:Nat->aj->Prop}{St:Nat->a_->Prop}(D:Draws Ω w A.in1 it m n P St)(e:ah)(a:e≠it)(d:e∉m):
  NW Ω w A e [e,it] n (λi vals=>∃t x,P i x/\vals=#[.int i t,x]) (λi h=>(∃old,rz h e it i old)/\St i h) (λi T h=>(∃x,IsEnumOut h e it ((i:Int)+1) x T)/\St (i+1) h/\T≠e/\T≠it):=by
 intro i s Q E I ⟨⟨old,v⟩,p⟩ q;show wpAny_pyNext_enum_itemD D v p I a d λx g l z K J b3 _ F=>?_;have l1:e<↥s:=bj v;have l2:it<↥s:=by obtain⟨_,y⟩:=D.live _ _ p;show bj y
 show q ↥s #[.int i l,x] g (l+1) ⟨_,_,z,rfl⟩ (bf _) ⟨_,b3,rfl,_,rfl⟩ (z7.is b3 rfl) ⟨⟨_,K⟩,J,nc l1,nc l2⟩ λb o j y=>?_;erw[bh,i_,or_false,not_or] at j;show F b o j.1 j.2 y
theorem DQ{P:bb}{w:az}{K:aq}{es:List au}{kk:Nat}{Z:ba}{e it l:ah}(m:e≠it)(hle:l≠e)(j:l≠it):
  Turn P w K (.Tuple es kk Z) (Iel K l) [e,it] e (λi h=>(∃old,rz h e it i old)/\h.IsListIter it l i):=by
 show tL (by simp) (λi h st b O=>?_) (λi h h2 st k=>?_) (λX hP hw hK hc i π s σ H I st hg=>?_) (λA i s Q E st q=>?_)
 .obtain ⟨⟨old,a⟩,o,c,d1,d2⟩:=st;rcases bh.mp O with rfl|d
  .exact ⟨_,a,λv z=>by cases z⟩
  .rw [bx.mp d];show⟨o,c,λv z=>by rw[d2] at z;cases z⟩
 .obtain ⟨⟨old,a⟩,b⟩:=st;show⟨⟨old,k e (by simp) _ a⟩,b.at λo q=>k it (by simp) o q⟩
 .subst hP hw hK;have d:∃xs,eJ X.K H l xs:=by rcases hg with⟨xs,_,a,_⟩|⟨xs,a,_⟩<;>show⟨xs,a⟩
  obtain⟨xs,d⟩:=d;obtain⟨n,U,p,hz⟩:=I.list d;have Y:=⇑U;show⟨_,_,_,_,_,_,⟨WalksT.enumerate (I.ok.hd hc) e it l m hle j n.toArray,AU e it l m hle j n.toArray⟩,⟨st.1,st.2,p.isList⟩,λb O=>O,λh q=>⟨q.1,q.2.1⟩,λg=>?_,λg=>?_⟩
  .obtain ⟨ys,v,F,J⟩:=g;obtain rfl:=I.oG F d;obtain⟨u,hu,ru⟩:=U.get J;have L:i<⇑ys:=(c_.mp J).1;show⟨by rw[cf,<- Y];show L,λvals q=>?_⟩;obtain⟨t,x,hx,rfl⟩:=q;have ex:x=u:=by
    have:n[i]?=aa x:=by simpa using hx
    rw[hu] at this;show(fu this).symm
   subst ex;show⟨[.int i,v],AS,.cons ⟨t,rfl⟩ (.cons ru .nil),v,rfl,λzs y=>by rw[I.oG y d];show J⟩
  .obtain ⟨ys,F,e2⟩:=g;obtain rfl:=I.oG F d;rw[cf,<- Y,e2]
 .obtain ⟨⟨old,a⟩,b⟩:=st;show uo a q
section
variable{Ω:bb}{w:az}{A:bo}{E:Q0c}{s:ak}
theorem NX(hit:s.heap.IsTupleIter it t i)(l:s.heap.IsTuple t items)(j:items[i]?=aa x)
  (p:∀h',h'.IsTupleIter it t (i+1)->jl it s.heap h'->Q x {s with heap:=h' }):av (aw Ω w) A (Vv (.ref it)) Q E s:=by
 obtain⟨⟨q,d,_,nl,h⟩,o,ho,n,a⟩:=tj l hit;show ao (m:=callSpecial? _ _) (la hit.typeIs vp (gu vp hit.typeIs Vg ?_ (Vk _)));show ao (m:=field _ 0) (k_ ho a (x:=.ref t) rfl ?_);show av _ _ (if ag=af then _ else _) _ _ s;rw[Zz bg];show ao (m:=field _ 1) (k_ ho a (x:=.int i 0) rfl (ao (m:=seqItems? _) (ze d h ?_)));erw[j,qk];show ao (ku ho a (by simp) (ax ⟨x,rfl,ax (p _ ⟨_,pj _ ho (rn (iy a _)),(vm ..).trans n,?_⟩ (jk ..))⟩));rw[iy a];simp[rawInt]
theorem IU(n:A.handled=ae)(hit:s.heap.IsTupleIter it t i)(l:s.heap.IsTuple t items)(j:items[i]?=ae)
  (p:∀h' e,Ak it s.heap h'->(∃o,h'.get? e=aa o/\o.cls=.type "StopIteration")->E (.ref e) {s with heap:=h' }):av (aw Ω w) A (Vv (.ref it)) Q E s:=by
 obtain⟨⟨v,a,_,nl,d⟩,o,ho,y,h⟩:=tj l hit;show ao (m:=callSpecial? _ _) (la hit.typeIs vp (gu vp hit.typeIs Vg ?_ (Vk _)));show ao (m:=field _ 0) (k_ ho h (x:=.ref t) rfl ?_);show av _ _ (if ag=af then _ else _) _ _ s;rw[Zz bg];show ao (m:=field _ 1) (k_ ho h (x:=.int i 0) rfl (ao (m:=seqItems? _) (ze a d ?_)));erw[j,qk];show ao (iq (ao (m:=setField _ _ _) (ku ho h (by simp) ?_)));have q:A.in1.handled=ae:=n
 wp_walk
 unfold raiseNew;apply ao;apply zi;rw[q];show ao (ax (zd (p _ _ (((jk ..).extBut.push _).push _) ⟨_,cz _ rfl,rfl⟩)))
theorem YX(n:A.handled=ae)(it t:ah)(j:t≠it)(items:Array aj):Draws Ω w A it [it,t] items.size (λi v=>items[i]?=aa v) (λi h=>h.IsTupleIter it t i/\h.IsTuple t items) where
 live:=λi h st=>by obtain⟨⟨o,ho,_⟩,_⟩:=st;show⟨o,ho⟩
 frame:=λi h h' st k=>by obtain⟨⟨o,ho,r⟩,o2,d,m⟩:=st;show⟨⟨o,k it (by simp) o ho,r⟩,o2,k t (by simp) o2 d,m⟩
 item:=λi s Q E l st q=>NX st.1 st.2 (x:=items[i]) (ka l) λh' a b=>q _ h' s.toks (ka l) ⟨a,st.2.extBut b.extBut j⟩ b
 done:=λs Q E st q=>IU n st.1 st.2 (Ce (bf _)) q
theorem IV(l:ah)(items:Array aj):Meets (Builtin.«enumerate.__new__» ⟨[.type "enumerate",.ref l],[]⟩) (λ_ R s=>s.heap.IsTuple l items /\
  R (.ok (.ret (.ref (s.heap.push {cls:=.type "tuple_iterator",data:=.fields #[.ref l,.int 0 0]}).objs.size))) {s with heap:=(s.heap.push {cls:=.type "tuple_iterator",data:=.fields #[.ref l,.int 0 0]}).push {cls:=.type "enumerate",data:=.fields #[.none,.bool ag,.ref ↥s,rawInt 0,.none,.none]} }):=by
 show .of_wp λp n x v s h=>?_;obtain⟨a,h⟩:=h;obtain⟨m,g0,d,o,q⟩:=s;have j:=sub_enumerate
 wp_walk using qx a
 show wpAny_stack_any λ_=>ax ?_;split<;>first
  | (rename_i c _ _ _ _ _;cases (c == my "enumerate")<;>(wp_walk using qx a;show⟨_,rfl,h⟩))
  | (wp_walk using qx a;show⟨_,rfl,h⟩)
theorem DR(j:s.heap.IsTuple l items)
  (h:∀h',rz h' (↥s+1) ↥s 0 .none->h'.IsTupleIter ↥s l 0->(∀b o,s.heap.get? b=aa o->h'.get? b=aa o)->Q (.ref (↥s+1)) {s with heap:=h' }):av (aw Ω w) A (call (.type "enumerate") [.ref l]) Q E s:=by
 show callType_new F.called_enumerate ⋯ (F.typeCall_enumerate_1 _) (F.newCall_enumerate_1 _) (λobj=>F.args_object_init_2 obj _) F.entry_enumerate_new (IV l items) ⟨j,?_⟩;generalize a:s.heap.push {cls:=.type "tuple_iterator",data:=.fields #[.ref l,.int 0 0]}=h1;have m:h1.objs.size=↥s+1:=by rw[<- a,pf]
 have g1:h1.get? ↥s=aa {cls:=.type "tuple_iterator",data:=.fields #[.ref l,.int 0 0]}:=by rw[<- a];show cz _ rfl
 have k1:∀b o,s.heap.get? b=aa o->h1.get? b=aa o:=λb o e=>by rw[<- a];show bu _ e
 generalize d:h1.push {cls:=.type "enumerate",data:=.fields #[.none,.bool ag,.ref ↥s,rawInt 0,.none,.none]}=h2;have g2:h2.get? h1.objs.size=aa {cls:=.type "enumerate",data:=.fields #[.none,.bool ag,.ref ↥s,rawInt 0,.none,.none]}:=by rw[<- d];show cz _ rfl
 have k2:∀b o,h1.get? b=aa o->h2.get? b=aa o:=λb o e=>by rw[<- d];show bu _ e
 show⟨⟨_,g2,rfl⟩,?_⟩;rw[m] at g2 ⊢;show h h2 g2 ⟨_,k2 _ _ g1,rfl,rfl⟩ λb o e=>k2 b o (k1 b o e)
end
theorem DS{P:bb}{w:az}{K:aq}{es:List au}{kk:Nat}{tp:ba}{e it l:ah}(j:e≠it)(hle:l≠e)(U:l≠it):
  Turn P w K (.Tuple es kk tp) (Iet K l) [e,it] e (λi h=>(∃old,rz h e it i old)/\h.IsTupleIter it l i):=by
 show tL (by simp) (λi h st b Y=>?_) (λi h h2 st k=>?_) (λX hP hw hK hc i π s σ H I st hg=>?_) (λA i s Q E st q=>?_)
 .obtain ⟨⟨old,a⟩,o,c,d1,d2⟩:=st;rcases bh.mp Y with rfl|d
  .exact ⟨_,a,λv z=>by cases z⟩
  .rw [bx.mp d];show⟨o,c,λv z=>by rw[d2] at z;cases z⟩
 .obtain ⟨⟨old,a⟩,o,b,r⟩:=st;show⟨⟨old,k e (by simp) _ a⟩,o,k it (by simp) o b,r⟩
 .subst hP hw hK;have d:∃xs,eR X.K H l xs:=by rcases hg with⟨xs,_,a,_⟩|⟨xs,a,_⟩<;>show⟨xs,a⟩
  obtain⟨xs,d⟩:=d;obtain⟨m,Z,p,hz⟩:=I.tuple d;have hl:=⇑Z;have D:Draws X.Ω X.w X.A.in1 it [it,l] m.toArray.size (λi v=>m.toArray[i]?=aa v) (λi h=>h.IsTupleIter it l i/\h.IsTuple l m.toArray):=YX (show X.A.in1.handled=ae from I.ok.hd hc) it l U m.toArray;have n:e∉[it,l]:=λz=>by
   rcases bh.mp z with y|y
   .exact j y
   .exact hle (bx.mp y).symm
  show⟨_,_,_,_,_,_,⟨WalksT.enumerateD D e j n (by simp),AV D e j n⟩,⟨st.1,st.2,p⟩,λb Y=>Y,λh q=>⟨q.1,q.2.1⟩,λg=>?_,λg=>?_⟩
  .obtain ⟨ys,v,J,L⟩:=g;obtain rfl:=I.l7 J d;obtain⟨u,hu,ru⟩:=Z.get L;have O:i<⇑ys:=(c_.mp L).1;show⟨by rw[cf,<- hl];show O,λvals q=>?_⟩;obtain⟨t,x,hx,rfl⟩:=q;have ex:x=u:=by
    have:m[i]?=aa x:=by simpa using hx
    rw[hu] at this;show(fu this).symm
   subst ex;show⟨[.int i,v],AS,.cons ⟨t,rfl⟩ (.cons ru .nil),v,rfl,λzs F=>by rw[I.l7 F d];show L⟩
  .obtain ⟨ys,J,e2⟩:=g;obtain rfl:=I.l7 J d;rw[cf,<- hl,e2]
 .obtain ⟨⟨old,a⟩,b⟩:=st;show uo a q
section
variable{es:List au}{kk:Nat}{tp:ba}
def SI{a:au}{L:TA}{p ν:ba}(hg:Gl X "enumerate")(hm:X.mg "enumerate"=ae)(ha:PA X [a] L)(hs:ar [a] X.env=[(ag,eval a X.env)]<|>0):
  PI X (.Tuple es kk tp) (.Call (.Name "enumerate" p) [a] [] ν) (λσ H R=>L σ H λvs m=>∃l,vs=[.ref l]/\(((∃xs,eJ X.K m l xs)/\R (Iel X.K l) m)\/((∃xs,eR X.K m l xs)/\R (Iet X.K l) m))):=by
 intro π s σ H R I h;show Call_ (nE I hg hm boot_enumerate (se (c6 (ha ν π s σ H _ I h) λus j ⟨vs,m,v,Z,q1⟩=>?_) hs rfl));obtain⟨l,e,q⟩:=q1;subst e;obtain⟨u,rfl,Y⟩:=vals1 Z;cases Y;have fo:∀b∈[↥j+1,↥j],mF X π m b:=λb O=>by
  have hle:↥j<=b:=by
   erw[bh,or_false,i_] at O;rcases O with rfl|rfl
   .exact l_ _
   .exact bf _
  show v.z9 hle (v.hok.fresh hle)
 rcases q with⟨⟨xs,z⟩,q⟩|⟨⟨xs,z⟩,q⟩
 .obtain ⟨J,U,x,hz⟩:=v.list z;have d:l<↥j:=by obtain⟨o,n,e,_⟩:=x;show bj e
  show call_enumerate_list x.isList λh' y F hsz A=>uo y ?_;show⟨↥j+1,_,_,_,m,rfl,v.kept (t':=j.toks) A,DQ (Bi _) (de (sg d)) (de d),⟨⟨_,y⟩,F⟩,fo,q⟩
 .obtain ⟨J,U,x,hz⟩:=v.tuple z;have d:l<↥j:=x.lt;show DR (items:=J.toArray) x λh' y F A=>uo y ?_;show⟨↥j+1,_,_,_,m,rfl,v.kept (t':=j.toks) A,DS (Bi _) (de (sg d)) (de d),⟨⟨_,y⟩,F⟩,fo,q⟩
def qQ(ds:List D):List D:=ds.zipIdx.map λp=>.tup [.int (p.2:Int),p.1]
theorem vT{ds:List D}{i:Nat}{d:D}(h:(qQ ds)[i]?=aa d):∃a,ds[i]?=aa a/\d=.tup [.int (i:Int),a]:=by
 unfold qQ at h;rw[d_,Bu] at h
 cases q:ds[i]? with
 |none=>rw[q] at h;cases h
 |some a =>
  rw[q] at h;simp at h;show⟨a,rfl,h.symm⟩
def GF{K:aq}{S:ah->Prop}{H:Hp}{T:ah}{x y:V}{d a:D}(fr:H T=ae)(j:Dn K S H d x)(h:Dn K S H a y):Dn K S (upd H T (.tup [x,y])) (.tup [d,a]) (.ref T):=by symm;show⟨T,[x,y],rfl,aN,aM.fits (.same (aI fr)) _ _ (aM.cons j (aM.one h))⟩
theorem IW{K:aq}{a:ah}{ds:List D}:YI K (Iel K a) (qQ ds) [(.lst ds,.ref a)] where
 go:=λS H F m i d e=>by have h:=m _ (bx.mpr rfl);symm at h;obtain⟨b,xs,j,l,n,dn⟩:=h;injection j with j;subst j;obtain⟨I,q,rfl⟩:=vT e;obtain⟨v,ev,z⟩:=dn.get q;show⟨⟨xs,v,eJ.of l,ev⟩,λx H' y=>?_⟩;obtain⟨T,vs,rfl,fr,rfl,A,rfl,o⟩:=y;have ex:=o xs (eJ.of l);rw[ev] at ex;cases ex;show⟨aI fr,GF fr (by symm) z⟩
 stop:=λS H m i p=>by have h:=m _ (bx.mpr rfl);symm at h;obtain⟨b,xs,j,l,n,dn⟩:=h;injection j with j;subst j;show⟨xs,eJ.of l,by rw[<- dn.len,<- p];simp[qQ]⟩
theorem IY{K:aq}{a:ah}{ds:List D}:YI K (Iet K a) (qQ ds) [(.tup ds,.ref a)] where
 go:=λS H A m i d e=>by have h:=m _ (bx.mpr rfl);symm at h;obtain⟨b,xs,j,l,dn⟩:=h;injection j with j;subst j;obtain⟨F,p,rfl⟩:=vT e;obtain⟨v,ev,q⟩:=dn.get p;show⟨⟨xs,v,(eR.of l),ev⟩,λx H' y=>?_⟩;obtain⟨T,vs,rfl,fr,rfl,z,rfl,n⟩:=y;have ex:=n xs (eR.of l);rw[ev] at ex;cases ex;show⟨aI fr,GF fr (by symm) q⟩
 stop:=λS H m i o=>by have h:=m _ (bx.mpr rfl);symm at h;obtain⟨b,xs,j,l,dn⟩:=h;injection j with j;subst j;show⟨xs,(eR.of l),by rw[<- dn.len,<- o];simp[qQ]⟩
noncomputable def Oi(t:WA):WI:=λρ Q=>t ρ λds=>match ds with
 |[.lst es]=>Q (qQ es)
 |[.tup es]=>Q (qQ es)
 |_=>False
def DT(F:X.mg "enumerate"=ae)(I:yC X [a] t)(j:Gl X "enumerate"<|>0)(A:ar [a] X.env=[(ag,eval a X.env)]<|>0):R4 X (.Tuple es kk tp) (.Call (.Name "enumerate" p) [a] [] ν) (Oi t) :=
 NJ (SI j F I A) λσ H R L=>by
  obtain⟨S,ρ,Q3,J,y,z,k⟩:=L;show⟨S,ρ,_,J,y,z,λvs q ds n o q1=>?_⟩;split at q1
  .obtain ⟨v,r,rfl,h,h2⟩:=o.bH;erw[aM] at h2;subst h2;have d:=h;symm at h;obtain⟨l,xs,rfl,m,x,K⟩:=h;show⟨l,rfl,.inl ⟨⟨xs,eJ.of m⟩,k _ q _ [(_,.ref l)] n (λg j=>by cases bx.mp j;show d) IW q1⟩⟩
  .obtain ⟨v,r,rfl,h,h2⟩:=o.bH;erw[aM] at h2;subst h2;have d:=h;symm at h;obtain⟨l,xs,rfl,m,K⟩:=h;show⟨l,rfl,.inr ⟨⟨xs,(eR.of m)⟩,k _ q _ [(_,.ref l)] n (λg j=>by cases bx.mp j;show d) IY q1⟩⟩
  .exact q1.elim
variable{a b:au}{ν:ba}{ta tb:WE}
def SJ:iQ X (binaryOp .Mult) (rI r6 λi j=>.int (i*j)):=opI λ_ _ _ _ _ _ _ d q=>mul_int q d
def Oh:F2:=IK r6 λi j=>.int (i*j)
def Og(h:bO X a ta)(d:bO X b tb):bO X (.BinOp a .Mult b ν) (fD Oh ta tb):=X4 SJ tF h d
end
theorem SK(d:i.natAbs<2^m)(a:j.natAbs<2^n)(h:m+n<=134217728):r6 i j:=by show mulOk_of_bits (intBits_le d) (intBits_le a) h
noncomputable def Yz(t:WE):WT:=λρ Q=>t ρ λd=>match d with
 |.lst ds=>Q (!ds.isEmpty)
 |.tup ds=>Q (!ds.isEmpty)
 |_=>False
theorem aM.empty{K:aq}{S:ah->Prop}{H:Hp}{ds:List D}{xs:List V}(h:aM K S H ds xs):ds.isEmpty=xs.isEmpty:=by have:=h.len;cases ds<;>cases xs<;>simp at this ⊢
abbrev WO:=cD->(Option Int->Prop)->Prop
inductive VG (K:aq) (t:WO) (σ:L2.St) (H:Hp) (Q:(Option Int->Hp->Prop)):Prop
 |mk (S:ah->Prop) (ρ:cD) (Q3:Option Int->Prop) (h1:(∀a,H a=ae->S a)) (h2:Sl K S H ρ σ) (h3:t ρ Q3) (h4:∀o H',ξ H H'->Q3 o->Q o H'):VG K t σ H Q
def YY(X:Cx)(e:Option au)(t:WO):Prop:=PO X e (VG X.K t)
def SM:WO:=λ_ Q=>Q ae
noncomputable def Of(t:WE):WO:=λρ Q=>t ρ λd=>match d with
 |.int i=>Q (aa i)
 |_=>False
def Fw:YY X ae SM:=λπ s σ H Q I d=>by obtain⟨S,ρ,Q3,j,h,a,k⟩:=d;show RG π s σ H Q I (k ae H (ξ.refl H) a)
theorem po3(h:bO X e t):YY X (aa e) (Of t):=λπ s σ H Q I p=>by
 obtain⟨S,ρ,Q3,n,j,m,k⟩:=p;show RH h π s σ H Q I ⟨S,ρ,_,n,j,m,λv o d l a q1=>?_⟩
 cases d with
 |int i=>symm at a;show⟨i,a,k _ o l q1⟩
 |_=>show q1.elim
def cutD(xs:List D)(a d:Option Int):List D:=(xs.drop (HT.eT ⇑xs 0 a)).take (HT.eT ⇑xs ⇑xs d-HT.eT ⇑xs 0 a)
def aM.cut{K:aq}{S:ah->Prop}{H:Hp}{ds:List D}{xs:List V}{a d:Option Int}(h:aM K S H ds xs):aM K S H (cutD ds a d) (AE xs a d):=by unfold cutD AE;rw[h.len];show(h.drop _).take _
theorem NY{Ω:bb}{w:az}{A:bo}{E:Q0c}{s:ak}{t j:ah}{items:Array aj}{p l:aj}{q x:Option Int}{Q:Q0c}(d:gc s.heap t items)(v:s.heap.IsSliceOf j p l .none)(z:jj p q)(y:jj l x)
  (J:HT.eT items.size 0 q=0) (I:HT.eT items.size items.size x=items.size) (h:Q (.ref t) s):av (aw Ω w) A (getItem (.ref t) (.ref j)) Q E s:=by
 have F:s.TypeIs (.ref j) "slice":=by obtain⟨o,a,b,_⟩:=v;show⟨o,a,b⟩
 unfold getItem
 try with_reducible show gp ?_
 first|show ao (ax ?_)|skip
 apply ao;show Rp d.typeIs ⋯ (ao (la d.typeIs mz (gu mz d.typeIs Wk ?_ (Wq _ _))));show ao (m:=Vs _) (V_ d (ao (om F ?_)));rw[Z_ ⋯];show ao (HT.jQ (n:=items.size) v z y ?_);rw[J,I];show av _ _ (if((((0:Nat):Int) == 0)&&((1:Int) == 1)&&((items.size-0) == items.size))=af then _ else _) _ _ s;rw[Z_ (by simp)];show ao (m:=a00 _) (ao (om d.typeIs (ax ?_)));show av _ _ (if af=af then _ else _) _ _ s;rw[Z_ rfl];show ao (iq (ax ⟨_,rfl,ax h⟩))
def Ft(K:aq):V->Option Int->Option Int->Hp->VK->Prop:=λx d h H Q=>∃a xs,x=.ref a/\eR K H a xs/\(HT.eT ⇑xs 0 d=0/\HT.eT ⇑xs ⇑xs h=⇑xs)/\Q (.ref a) H
theorem SN:RI X (Ft X.K):=by
 intro π s σ H x v z y F L A Q I l p n m h;obtain⟨a,xs,rfl,o,hw,q⟩:=h;cases l;obtain⟨j,r,d,J⟩:=I.tuple o;have hlen:j.toArray.size=⇑xs:=by rw[cf];show r.length.symm
 show⟨"tuple",_,mz.lookup,d.typeIs,NY d p n m (by rw[hlen];show hw.1) (by rw[hlen];show hw.2) ⟨.ref a,H,I,rfl,q⟩⟩
def Cf(te:WE)(j l:WO):WE:=λρ Q=>te ρ λd=>j ρ λa=>l ρ λh=>match d with
 |.lst ds=>Q (.lst (cutD ds a h))
 |.tup ds=>Q (.tup (cutD ds a h))
 |_=>False
def sl3{e:au}{K L:Option au}{U ν:ba}{te:WE}{I J:WO}(he:bO X e te)(y:YY X K I)(Z:YY X L J):bO X (.Subscript e (.Slice K L ae U) ν) (Cf te I J) :=
 imp (AD (RM.or (XU.or SN)) he y Z) λσ H Q Fs=>by
  obtain⟨S,ρ,Q3,z,F,Y,k⟩:=Fs;show⟨S,ρ,_,z,F,Y,λv H1 d j d1 q1=>?_⟩;show⟨S,ρ,_,aR z j,Sl.fits (.same j) F,q1,λo H2 q q2=>?_⟩;show⟨S,ρ,_,aR z (j.trans q),Sl.fits (.same (j.trans q)) F,q2,λo2 H3 s3 x=>?_⟩;have A:=Dn.fits (.same (q.trans s3)) _ _ d1;have n:=(j.trans q).trans s3
  cases d with
  |lst ds =>
   symm at A;obtain⟨a,xs,rfl,l,O,m⟩:=A;show .inl ⟨a,xs,rfl,eJ.of l,λp h=>k _ _ _ (n.trans (aI h)) ?_ x⟩;symm;show⟨p,_,rfl,aN,aR z n p h,aM.fits (.same (aI h)) _ _ m.cut⟩
  |tup ds =>
   symm at A;obtain⟨a,xs,rfl,l,m⟩:=A;have y:=m.len;by_cases hw:HT.eT ⇑xs 0 o=0/\HT.eT ⇑xs ⇑xs o2=⇑xs
   .refine .inr (.inr ⟨a,xs,rfl,(eR.of l),hw,k _ _ _ n ?_ x⟩);have e:cutD ds o o2=ds:=by unfold cutD;rw[y,hw.1,hw.2,wu,Nat.sub_zero,ng (jm y)]
    rw[e];symm;show⟨a,xs,rfl,l,m⟩
   .refine .inr (.inl ⟨a,xs,rfl,(eR.of l),hw,λp h=>k _ _ _ (n.trans (aI h)) ?_ x⟩);symm;show⟨p,_,rfl,aN,aM.fits (.same (aI h)) _ _ m.cut⟩
  |_=>show x.elim
end L3
namespace L4
open PySem.Spec PyProof.Rows L2 L3
def wE(f:EF):WE:=λρ Q=>∃d,f ρ=aa d/\Q d
def wT(f:TF):WT:=λρ Q=>∃d,f ρ=aa d/\Q d
def wA(f:AF):WA:=λρ Q=>∃d,f ρ=aa d/\Q d
def wI(f:AF):WI:=λρ Q=>∃d,f ρ=aa d/\Q d
def wO(f:OF):WO:=λρ Q=>∃d,f ρ=aa d/\Q d
def wX(f:XF):WX:=λρ Q=>∃p,f ρ=aa p/\Q p.1 p.2
noncomputable def wS(f:SF):WS:=λE ρ=>match f ρ with
 |.nx ρ'=>E.nx ρ'
 |.rt d=>E.rt d
 |.ex c=>E.ex c
 |.no=>False
def wG(g:V0):WG:=λd ρ Q=>∃a,g d ρ=aa a/\Q a
def tm(g:UH):GE:=λd ρ Q=>∃a,g d ρ=aa a/\Q a
abbrev aW(X:Cx)(e:au)(f:EF):Prop:=bO X e (wE f)
abbrev lI(X:Cx)(e:au)(f:EF):Prop:=F5 X e (wE f)
abbrev uH(X:Cx)(e:au)(f:TF):Prop:=tE X e (wT f)
abbrev BU(X:Cx)(e:au)(f:TF):Prop:=JX X e (wT f)
abbrev pZ(X:Cx)(a:List au)(f:AF):Prop:=yC X a (wA f)
abbrev SQ(X:Cx)(a e:au)(f:AF):Prop:=R4 X a e (wI f)
abbrev PO4(X:Cx)(e:Option au)(f:OF):Prop:=YY X e (wO f)
abbrev JY(X:Cx)(e:au)(f:XF):Prop:=DK X e (wX f)
abbrev rL(X:Cx)(st:bq)(f:SF):Prop:=BS X st (wS f)
abbrev iI(X:Cx)(st:List bq)(f:SF):Prop:=qZ X st (wS f)
variable{X:Cx}
section
def cE{e:au}{t t':WE}(h:bO X e t)(c:∀ρ Q,t' ρ Q->t ρ Q):bO X e t':=imp h λ_ _ _ l=>by obtain⟨S,ρ,Q3,j,a,d,k⟩:=l;show⟨S,ρ,Q3,j,a,c ρ Q3 d,k⟩
def cF(h:F5 X e t)(c:∀ρ Q,t' ρ Q->t ρ Q):F5 X e t':=imp h λ_ _ _ l=>by obtain⟨S,ρ,Q3,j,a,d,k⟩:=l;show⟨S,ρ,Q3,j,a,c ρ Q3 d,k⟩
def cT{e:au}{t t':WT}(h:tE X e t)(c:∀ρ Q,t' ρ Q->t ρ Q):tE X e t':=RV h λ_ _ _ l=>by obtain⟨S,ρ,Q3,j,a,d,k⟩:=l;show⟨S,ρ,Q3,j,a,c ρ Q3 d,k⟩
def cW{e:au}{t t':WT}(h:JX X e t)(c:∀ρ Q,t' ρ Q->t ρ Q):JX X e t':=X8 h λ_ _ _ l=>by obtain⟨S,ρ,Q3,j,a,d,k⟩:=l;show⟨S,ρ,Q3,j,a,c ρ Q3 d,k⟩
def cA(h:yC X e t)(c:∀ρ Q,t' ρ Q->t ρ Q):yC X e t':=IJ h λ_ _ _ l=>by obtain⟨S,ρ,Q3,j,a,d,k⟩:=l;show⟨S,ρ,Q3,j,a,c ρ Q3 d,k⟩
def cI(h:R4 X tg e t)(c:∀ρ Q,t' ρ Q->t ρ Q):R4 X tg e t':=NJ h λ_ _ _ l=>by obtain⟨S,ρ,Q3,j,a,d,k⟩:=l;show⟨S,ρ,Q3,j,a,c ρ Q3 d,k⟩
def cX(h:DK X e t)(c:∀ρ Q,t' ρ Q->t ρ Q):DK X e t':=imp h λ_ _ _ j=>by obtain⟨H₀,S,w,ρ,G,Q3,d,st,a,k⟩:=j;show⟨H₀,S,w,ρ,G,Q3,d,st,c ρ Q3 a,k⟩
def cS(h:BS X e t)(c:∀E ρ,t' E ρ->t E ρ):BS X e t':=lG h λ_ _ _ j=>by obtain⟨H₀,S,w,ρ,G,E,d,st,a,ok⟩:=j;show⟨H₀,S,w,ρ,G,E,d,st,c E ρ a,ok⟩
def xp(h:qZ X e t)(c:∀E ρ,t' E ρ->t E ρ):qZ X e t':=GB h λ_ _ _ j=>by obtain⟨H₀,S,w,ρ,G,E,d,st,a,ok⟩:=j;show⟨H₀,S,w,ρ,G,E,d,st,c E ρ a,ok⟩
def BU.pt(h:BU X e f):uH X e f:=JX.pt h
def lI.pe(h:lI X e f):aW X e f:=F5.pe h
theorem bnd{α d:Type}{o:Option α}{f:α->Option d}{b:d}(h:o.bind f=aa b):∃a,o=aa a/\f a=aa b:=by
 cases o with
 |none=>cases h
 |some a=>show⟨a,rfl,h⟩
theorem tM{α d:Type}{o:Option α}{f:α->d}{b:d}(h:o.map f=aa b):∃a,o=aa a/\f a=b:=by
 cases o with
 |none=>cases h
 |some a=>show⟨a,rfl,fu h⟩
theorem x4(i:Nat)(hN:X.N[i]?=aa x<|>0)(j:vH X.env.scope x<|>3)(l:Zu x<|>1)
  (a:Zt x<|>1):aW X (.Name x ν) (aK i):=cE (x3 i hN j l a) λρ Q m=>by
 obtain⟨d,e,q⟩:=m;unfold aK at e;unfold RW
 cases h:ρ[i]? with
 |none=>rw[h] at e;cases e
 |some o =>
  rw[h] at e
  cases o with
  |none=>cases e
  |some d'=>cases e;show q
def i4{j ν}:aW X (.Constant (.int i) j ν) (eI i):=cE i3 λ_ _ a=>by obtain⟨_,e,q⟩:=a;cases e;show q
def b4{j ν}:aW X (.Constant (.bool b) j ν) (eC (.bl b)):=cE b3 λ_ _ a=>by obtain⟨_,e,q⟩:=a;cases e;show q
def n4{j ν}:aW X (.Constant .none j ν) (eC .non):=cE n3 λ_ _ a=>by obtain⟨_,e,q⟩:=a;cases e;show q
def s4{j ν}:aW X (.Constant (.str x) j ν) (eC (.str x)):=cE s3 λ_ _ a=>by obtain⟨_,e,q⟩:=a;cases e;show q
def Tells(f:F2)(g:D->D->Option D):Prop:=∀(x y d:D) (Q:D->Prop),g x y=aa d->Q d->f x y Q
def fH{f:F2}{g:D->D->Option D}(h:Tells f g){j a:EF}(ρ:cD)(Q:D->Prop)(w:wE (aB g j a) ρ Q):fD f (wE j) (wE a) ρ Q:=by obtain⟨d,e,q⟩:=w;obtain⟨x,ex,e⟩:=bnd e;obtain⟨y,l,e⟩:=bnd e;show⟨x,ex,y,l,h x y d Q e q⟩
def fR:Tells (tG g) (BY g):=λx y d Q e q=>by
 cases x<;>first|(cases e;done)|skip
 all_goals (cases y<;>first|(cases e;done)|skip)
 cases e;show q
def iJ(h:∀i j,c i j=af->C i j):Tells (IK C g) (nQ c g):=λx y d Q e q=>by
 cases x<;>first|(cases e;done)|skip
 all_goals (cases y<;>first|(cases e;done)|skip)
 rename_i i j;have e:(if c i j=af then aa (g i j) else ae)=aa d:=e;by_cases a:c i j=af
 .rw [Z_ a] at e;cases e;show⟨h i j a,q⟩
 .rw [Zz a] at e;cases e
def szl{n:Nat}{α:Type}{x d:α}{Q:α->Prop}(e:(if n<=g8 then aa x else ae)=aa d)(q:Q d):n<=bc/\Q x:=by
 by_cases h:n<=g8
 .rw [Z_ h] at e;cases e;show⟨by rw[df];show h,q⟩
 .rw [Zz h] at e;cases e
def vU:Tells X5 aX:=λx y d Q e q=>by
 cases x<;>first|(cases e;done)|skip
 all_goals (cases y<;>first|(cases e;done)|skip)
 .cases e;show q
 .exact szl (x:=D.str _) e q
 .exact szl (x:=D.tup _) e q
 .exact szl (x:=D.lst _) e q
def IZ:Tells yc GY:=λx y d Q e q=>by
 cases x<;>first|(cases e;done)|skip
 all_goals (cases y<;>first|(cases e;done)|skip)
 show szl (x:=D.lst _) e q
def YZ(h:zD i j=af):r6 i j:=by
 unfold zD at h;erw[B_,decide_eq_true_eq] at h;rcases h with(h|h)|h
 .exact Q6.ok (.inl ⟨∅,∅⟩)
 .exact Q6.ok (.inr ⟨∅,∅⟩)
 .refine SK (m:=i.natAbs.log2+1) (n:=j.natAbs.log2+1) ?_ ?_ ∅
  .exact Xb
  .exact Xb
section
variable{a b:au}{ν:ba}{fa fb:EF}
def cR(h:aW X a fa)(d:aW X b fb):aW X (.BinOp a .Add b ν) (aB aX fa fb):=cE (Kw h d) (fH vU)
def Gh(h:aW X a fa)(d:aW X b fb):aW X (.BinOp a .Sub b ν) (aB VW fa fb):=cE (Kb h d) (fH fR)
def yI(j:aW X a fa)(d:aW X b fb):aW X (.BinOp a .Mult b ν) (aB mulM fa fb):=cE (Og j d) (fH (iJ λ_ _ h=>YZ h))
def jF(j:aW X a fa)(d:aW X b fb):aW X (.BinOp a .Mod b ν) (aB dH fa fb):=cE (Ka j d) (fH (iJ λ_ _ h=>by simpa using h))
def Y0(l:aW X a fa)(d:aW X b fb):aW X (.BinOp a .FloorDiv b ν) (aB zE fa fb):=cE (Ky l d) (fH (iJ λi j h=>by erw[fm,decide_eq_true_eq] at h;show⟨h.1,∅⟩))
def Fl(l:aW X a fa)(d:aW X b fb):aW X (.BinOp a .Pow b ν) (aB VX fa fb):=cE (Kx l d) (fH (iJ λi j h=>by erw[fm,decide_eq_true_eq] at h;show⟨h.1.1,∅,h.2⟩))
def Oe(h:aW X a fa)(d:aW X b fb):lI X (.BinOp a .Add b ν) (aB GY fa fb):=cF (Pp h d) (fH IZ)
def tells_eq:Tells RY qV:=λx y d Q e q=>by
 cases x<;>first|(cases e;done)|skip
 all_goals (cases y<;>first|(cases e;done)|skip)
 all_goals (cases e;show⟨rfl,q⟩)
def NZ:Tells X6 EV:=λx y d Q e q=>by
 cases x<;>first|(cases e;done)|skip
 all_goals (cases y<;>first|(cases e;done)|skip)
 all_goals (cases e;show⟨rfl,q⟩)
theorem ints_of:∀{ds:List D} {ns:Q0e},intsOf ds=aa ns->ds=ns.map D.int
 |[],ns,h=>by cases h;rfl
 |d::ds,ns,h=>by
  cases d<;>first|cases h;done|skip
  obtain⟨m,e,rfl⟩:=tM h;rw[ints_of e];rfl
def tN{neg:Bool}:Tells (inF neg) (nP neg):=λx y d Q e q=>by
 cases x<;>first|(cases e;done)|skip
 all_goals (cases y<;>first|(cases e;done)|skip)
 all_goals
  obtain⟨ns,h,rfl⟩:=tM e;have:=ints_of h;subst this;show⟨vQ ns,by rw[vR];show q⟩
def AW:Tells RZ JW:=λx y d Q e q=>by
 unfold JW at e;split at e
 .rename_i h;cases e;show⟨(by cases y<;>first|rfl|cases h),?_⟩;have:isD x=mH x:=by cases x<;>rfl
  rw[this];show q
 .cases e
def ge4(h:aW X a fa)(d:aW X b fb):aW X (.Compare a [.GtE] [b] ν) (aB JV fa fb):=cE (ge3 h d) (fH fR)
def eq4(h:aW X a fa)(d:aW X b fb):aW X (.Compare a [.Eq] [b] ν) (aB qV fa fb):=cE (Jz h d) (fH tells_eq)
def in4(j:aW X a fa)(h:aW X b fb)(d:behindInMarks .In b=ag<|>4):aW X (.Compare a [.In] [b] ν) (aB (nP ag) fa fb):=cE (in3 j h d) (fH tN)
def is4(h:aW X a fa)(d:aW X b fb):aW X (.Compare a [.Is] [b] ν) (aB JW fa fb):=cE (Ju h d) (fH AW)
def oS{f:F2}{g:D->D->Option D}(h:Tells f g)(l:∀x y d,g x y=aa d ->∃b,d=.bl b){fa fb:EF}(ρ:cD)(Q:Bool->Prop)(w:wT (tV (aB g fa fb)) ρ Q):lF (fD f (wE fa) (wE fb)) ρ Q:=by obtain⟨b,e,q⟩:=w;obtain⟨d,j,n⟩:=bnd e;obtain⟨x,ex,j⟩:=bnd j;obtain⟨y,m,j⟩:=bnd j;obtain⟨c,rfl⟩:=l x y d j;cases n;show⟨x,ex,y,m,h x y _ _ j q⟩
def tO{g:Int->Int->Bool}(x y d:D)(e:BY (λi j=>.bl (g i j)) x y=aa d):∃b,d=.bl b:=by
 cases x<;>first|(cases e;done)|skip
 all_goals (cases y<;>first|(cases e;done)|skip)
 cases e;show⟨_,rfl⟩
def Od(x y d:D)(e:qV x y=aa d):∃b,d=.bl b:=by obtain⟨b,_,rfl⟩:=tM e;show⟨_,rfl⟩
def Oc(x y d:D)(e:EV x y=aa d):∃b,d=.bl b:=by obtain⟨b,_,rfl⟩:=tM e;show⟨_,rfl⟩
def VH{neg:Bool}(x y d:D)(e:nP neg x y=aa d):∃b,d=.bl b:=by
 cases x<;>first|(cases e;done)|skip
 all_goals (cases y<;>first|(cases e;done)|skip)
 all_goals (obtain⟨b,_,rfl⟩:=tM e;show⟨_,rfl⟩)
def Ob(x y d:D)(e:JW x y=aa d):∃b,d=.bl b:=by
 unfold JW at e;split at e
 .cases e;show⟨_,rfl⟩
 .cases e
def Fj(h:aW X a fa)(d:aW X b fb):uH X (.Compare a [.Lt] [b] ν) (tV (aB Z7 fa fb)):=cT (Jy h d) (oS fR tO)
def SR(h:aW X a fa)(d:aW X b fb):uH X (.Compare a [.Gt] [b] ν) (tV (aB J4 fa fb)):=cT (Jx h d) (oS fR tO)
def Fi(h:aW X a fa)(d:aW X b fb):uH X (.Compare a [.GtE] [b] ν) (tV (aB JV fa fb)):=cT (Jw h d) (oS fR tO)
def SS(h:aW X a fa)(d:aW X b fb):uH X (.Compare a [.Eq] [b] ν) (tV (aB qV fa fb)):=cT (Pm h d) (oS tells_eq Od)
def SU(h:aW X a fa)(d:aW X b fb):uH X (.Compare a [.NotEq] [b] ν) (tV (aB EV fa fb)):=cT (Pl h d) (oS NZ Oc)
def x_(j:aW X a fa)(h:aW X b fb)(d:behindInMarks .In b=ag<|>4):uH X (.Compare a [.In] [b] ν) (tV (aB (nP ag) fa fb)):=cT (Jv j h d) (oS tN VH)
def VI(j:aW X a fa)(h:aW X b fb)(d:behindInMarks .NotIn b=ag<|>4):uH X (.Compare a [.NotIn] [b] ν) (tV (aB (nP af) fa fb)):=cT (Pk j h d) (oS tN VH)
def Y1(h:aW X a fa)(d:aW X b fb):uH X (.Compare a [.Is] [b] ν) (tV (aB JW fa fb)):=cT (Pj h d) (oS AW Ob)
end
def O4(K:aq)(r:R2)(g:D->D->Option D):Prop:=∃f,O3 K r f/\Tells f g /\∀x y d,g x y=aa d ->∃b,d=.bl b
def Oa{K:aq}:O4 K (HW λi j=>.bl (Zv (i<j))) Z7:=⟨_,pV,fR,tO⟩
def Np{K:aq}:O4 K (HW λi j=>.bl (Zv (i<=j))) leM:=⟨_,pV,fR,tO⟩
theorem SV{f g:F2}{p q:D->D->Option D}(o:Tells f p)(n:Tells g q){l j h:EF}(ρ:cD)(Q:D->Prop)(w:wE (hJ p q l j h) ρ Q):DH f g (wE l) (wE j) (wE h) ρ Q:=by
 obtain⟨d,e,k⟩:=w;obtain⟨x,ex,e⟩:=bnd e;obtain⟨y,A,e⟩:=bnd e;obtain⟨z,v,e⟩:=bnd e;obtain⟨b,m,a⟩:=bnd e;show⟨x,ex,y,A,o x y z _ v ?_⟩
 clear e
 cases z<;>first|cases m;done|skip
 cases m
 cases b with
 |true =>
  rw[Z_ rfl] at a;obtain⟨u,F,e⟩:=bnd a;show⟨u,F,n y u d Q e k⟩
 |false =>
  rw[Zz bg] at a;cases a;show k
theorem Y2(ho:iQ X (compareOp op) r)(d:iQ X (compareOp op') r')(n:O4 X.K r p)(h2:O4 X.K r' q)(m:aW X a fa)(l:aW X b fb)(j:aW X c fc)
  (h:lastMarks [op,op'] [b,c]=ag<|>4):aW X (.Compare a [op,op'] [b,c] ν) (hJ p q fa fb fc):=by
 obtain⟨f,o1,t1,_⟩:=n;obtain⟨g,o2,t2,_⟩:=h2;show cE (X9 ho d o1 o2 m l j h) (SV t1 t2)
section
variable{a b c:au}{Θ:List au}{ν:ba}{fa fb:EF}{ta tb tc:TF}
def qR(d:uH X a ta):uH X (.UnaryOp .Not a ν) (gF ta):=cT (Pe d) λρ Q j=>by obtain⟨b,e,q⟩:=j;obtain⟨c,h,rfl⟩:=tM e;show⟨c,h,q⟩
def Nn(d:uH X a ta):BU X (.BoolOp .And [a] ν) ta:=Jr d
def DU(d:uH X a ta):BU X (.BoolOp .Or [a] ν) ta:=or1 d
theorem Nm(j:uH X a ta)(h:BU X (.BoolOp .And (b::Θ) ν) tb):BU X (.BoolOp .And (a::b::Θ) ν) (mM ta tb):=cW (Pc j h) λρ Q m=>by
 obtain⟨d,e,q⟩:=m;obtain⟨c,l,e⟩:=bnd e;show⟨c,l,?_⟩
 cases c with
 |true=>rw[Z_ rfl] at e ⊢;show⟨d,e,q⟩
 |false=>rw[Zz bg] at e ⊢;cases e;show q
theorem yJ(j:uH X a ta)(h:BU X (.BoolOp .Or (b::Θ) ν) tb):BU X (.BoolOp .Or (a::b::Θ) ν) (nO ta tb):=cW (Jp j h) λρ Q m=>by
 obtain⟨d,e,q⟩:=m;obtain⟨c,l,e⟩:=bnd e;show⟨c,l,?_⟩
 cases c with
 |true=>rw[Z_ rfl] at e ⊢;cases e;show q
 |false=>rw[Zz bg] at e ⊢;show⟨d,e,q⟩
def AX{op}(d:aW X a fa):aW X (.BoolOp op [a] ν) fa:=Jl d
theorem yK(m:aW X a fa)(l:aW X (.BoolOp .And (b::Θ) ν) fb):aW X (.BoolOp .And (a::b::Θ) ν) (g9 fa fb):=cE (Jk m l) λρ Q n=>by
 obtain⟨d,e,q⟩:=n;obtain⟨x,ex,j⟩:=bnd e;obtain⟨c,h,e⟩:=bnd j
 clear j
 show⟨x,ex,?_⟩;cases x<;>first|cases h;done|skip
 cases h
 cases c with
 |true=>rw[Z_ rfl] at e;show⟨d,e,q⟩
 |false=>rw[Zz bg] at e;cases e;show q
theorem or4(m:aW X a fa)(l:aW X (.BoolOp .Or (b::Θ) ν) fb):aW X (.BoolOp .Or (a::b::Θ) ν) (BW fa fb):=cE (or3 m l) λρ Q n=>by
 obtain⟨d,e,q⟩:=n;obtain⟨x,ex,j⟩:=bnd e;obtain⟨c,h,e⟩:=bnd j
 clear j
 show⟨x,ex,?_⟩;cases x<;>first|cases h;done|skip
 cases h
 cases c with
 |true=>rw[Z_ rfl] at e;cases e;show q
 |false=>rw[Zz bg] at e;show⟨d,e,q⟩
def Fc(j:aW X a fa):aW X (.UnaryOp .Not a ν) (rN fa):=cE (Jh j) λρ Q l=>by
 obtain⟨d,e,q⟩:=l;obtain⟨x,ex,e⟩:=bnd e;obtain⟨c,h,rfl⟩:=tM e;show⟨x,ex,?_⟩;cases x<;>first|cases h;done|skip
 cases h;show q
theorem if4(h:uH X c tc)(l:aW X a fa)(j:aW X b fb):aW X (.IfExp c a b ν) (J3 tc fa fb):=cE (if3 h l j) λρ Q n=>by
 obtain⟨d,e,q⟩:=n;obtain⟨c,m,e⟩:=bnd e;show⟨c,m,?_⟩
 cases c with
 |true=>rw[Z_ rfl] at e ⊢;show⟨d,e,q⟩
 |false=>rw[Zz bg] at e ⊢;show⟨d,e,q⟩
def Ez(h:aW X a fa):aW X (.UnaryOp .USub a ν) (zC fa):=cE (Jd h) λρ Q j=>by
 obtain⟨d,e,q⟩:=j;obtain⟨x,ex,e⟩:=bnd e;show⟨x,ex,?_⟩;cases x<;>first|cases e;done|skip
 cases e;show q
def p4{e:au}{f:EF}(h:aW X e f)(z:(∀whole,isTrue e X.env whole=(do let v <- whole;standAt e.pos;holding [v] (truthy v)))<|>5):uH X e (tV f) :=
 RV (MK h z) λσ H Q J=>by
  obtain⟨S,ρ,Q3,F,y,⟨b,A,n⟩,k⟩:=J;obtain⟨x,I,l⟩:=bnd A;show⟨S,ρ,λd=>d=x,F,y,⟨x,I,rfl⟩,λv q d m j q1=>?_⟩;subst q1
  cases d with
  |bl c=>cases l;symm at j;subst j;show⟨_,rfl,k _ q m n⟩
  |lst ds =>
   cases l;symm at j;obtain⟨a,xs,rfl,o,K,p⟩:=j;show⟨_,.inl ⟨xs,eJ.of o,by rw[<- p.empty]⟩,k _ q m n⟩
  |tup ds =>
   cases l;symm at j;obtain⟨a,xs,rfl,o,p⟩:=j;show⟨_,.inr (.inl ⟨xs,(eR.of o),by rw[<- p.empty]⟩),k _ q m n⟩
  |_=>cases l
end
end
section
def bD:pZ X [] aE:=cA Ku λ_ _ a=>by obtain⟨_,e,q⟩:=a;cases e;show q
def aC(j:aW X e fe)(h:pZ X es t)(a:Zr X e es<|>0):pZ X (e::es) (aA fe t):=cA (Pn j h a) λρ Q n=>by obtain⟨ds,e,q⟩:=n;obtain⟨d,m,e⟩:=bnd e;obtain⟨r,l,e⟩:=bnd e;cases e;show⟨d,m,r,l,q⟩
def oU{x1}(h:pZ X es t):aW X (.Tuple es x1 ν) (eO t):=cE (Kr h) λρ Q j=>by obtain⟨d,e,q⟩:=j;obtain⟨ds,a,e⟩:=bnd e;show⟨ds,a,szl (x:=D.tup ds) e q⟩
def kI(h:pZ X es t):lI X (.List es ν) (cV t):=cF (Kp h) λρ Q j=>by obtain⟨d,e,q⟩:=j;obtain⟨ds,a,e⟩:=bnd e;show⟨ds,a,szl (x:=D.lst ds) e q⟩
def N0:Tells ixF dC:=λx y d Q e q=>by
 cases x<;>first|(cases e;done)|skip
 all_goals (cases y<;>first|(cases e;done)|skip)
 .have e:qM _ _=aa d:=e;show(match qM _ _ with|some d=>Q d|none=>False);rw[e];show q
 .have e:qM _ _=aa d:=e;show(match qM _ _ with|some d=>Q d|none=>False);rw[e];show q
 .obtain ⟨n,a,rfl⟩:=tM e;have a:qM _ _=aa n:=a;show(match qM _ _ with|some n=>Q (.int n)|none=>False);rw[a];show q
def lJ(j:aW X a fa)(h:aW X b fb)(d:rH b<|>7):aW X (.Subscript a b ν) (aB dC fa fb):=cE (ix3 j h d) (fH N0)
def I0:Tells YT rO:=λx y d Q e q=>by
 cases x<;>first|cases e;done|skip
 rename_i ks ds;obtain⟨k,a,e⟩:=bnd e;have a:AR y=aa k:=by cases y<;>first|show a|cases a
 have e:i7 ks ds k=aa d:=e
 show(match D.iR ks ds,AR y with
  |.iR ks ds,aa k=>(match i7 ks ds k with|some d=>Q d|none=>False)
  |_,_=>False)
 rw[a];dsimp only;rw[e];show q
def xx(a:X.A.units+1<fv)(ho:aW X o fo)(h:aW X i fi)(d:RQ i<|>7):aW X (.Subscript o i ν) (aB rO fo fi):=cE (Ge a ho h d) (fH I0)
def p5(f:F1)(g:List D->Option D):Prop:=∀(ds:List D) (d:D) (Q:D->Prop),g ds=aa d->Q d->f ds Q
def yL(h:p5 f g)(ρ:cD)(Q:D->Prop)(w:wE (bL g t) ρ Q):PQ f (wA t) ρ Q:=by obtain⟨d,e,q⟩:=w;obtain⟨ds,a,e⟩:=bnd e;show⟨ds,a,h ds d Q e q⟩
theorem JA:p5 IM eP:=λds d Q e q=>by
 cases ds with
 |nil=>cases e
 |cons a ds =>
  cases a<;>first|(cases e;done)|skip
  all_goals (cases ds<;>first|(cases e;show q)|(cases e;done))
theorem AZ:p5 DJ dI:=λds d Q e q=>by
 cases ds with
 |nil=>cases e
 |cons a ds =>
  cases a<;>first|(cases e;done)|skip
  all_goals (cases ds<;>first|(cases e;show q)|(cases e;done))
def oV(a:X.mg "len"=ae)(j:pZ X [e] t)(d:Gl X "len"<|>0)(h:Zr X e []<|>0):aW X (.Call (.Name "len" p) [e] [] ν) (bL eP t):=cE (Io a j d h) (yL JA)
def lK(a:X.mg "tuple"=ae)(j:pZ X [e] t)(d:Gl X "tuple"<|>0)(h:Zr X e []<|>0):aW X (.Call (.Name "tuple" p) [e] [] ν) (bL dI t):=cE (YB a Az j d h) (yL AZ)
theorem vV:∀ds:List D,L3.intsOf ds=L4.intsOf ds
 |[]=>rfl
 |d::ds=>by
  cases d<;>first|rfl|skip
  show(L3.intsOf ds).map _=(L4.intsOf ds).map _;rw[vV ds]
theorem nI(a:Int):∀l:Q0e,(insI a l).Perm (a::l)
 |[]=>.refl _
 |b::l=>by
  unfold insI;split
  .exact .refl _
  .exact ((nI a l).cons b).trans (.swap a b l)
theorem lM:∀l:Q0e,(sortI l).Perm l
 |[]=>.refl _
 |a::l=>(nI a (sortI l)).trans ((lM l).cons a)
theorem oW(a:Int):∀l:Q0e,l.Pairwise (· <= ·)->(insI a l).Pairwise (· <= ·)
 |[],_=>by simp[insI]
 |b::l,h=>by
  unfold insI;split
  .rename_i hab;show dm.mpr ⟨λc d=>?_,h⟩;rcases bh.mp d with e|e
   .subst e;show hab
   .exact Yf hab ((dm.mp h).1 c e)
  .rename_i hab;show dm.mpr ⟨λc d=>?_,oW a l (dm.mp h).2⟩;rcases bh.mp ((nI a l).mem_iff.mp d) with e|e
   .subst e;lia
   .exact (dm.mp h).1 c e
theorem jG:∀l:Q0e,(sortI l).Pairwise (· <= ·)
 |[]=>sy
 |a::l=>oW a _ (jG l)
theorem nJ:∀{l m:Q0e},l.Perm m->l.Pairwise (· <= ·)->m.Pairwise (· <= ·)->l=m
 |[],m,p,_,_=>by rw[p.nil_eq]
 |a::l,[],p,_,_=>by have:=p.length_eq;simp at this
 |a::l,b::m,p,h1,h2=>by
  have e:a=b:=by
   have m1:=p.mem_iff.mp (b_ (a:=a) (l:=l));have h:=p.mem_iff.mpr (b_ (a:=b) (l:=m));rcases bh.mp m1 with e|e
   .exact e
   .rcases bh.mp h with d|d
    .exact d.symm
    .have:=(dm.mp h2).1 a e;have:=(dm.mp h1).1 b d;lia
  subst e;rw[nJ p.cons_inv (dm.mp h1).2 (dm.mp h2).2]
def yM:p5 NS fU:=λds d Q e q=>by
 unfold fU at e;split at e
 .rename_i a;obtain⟨ns,l,e⟩:=bnd e;by_cases j:⇑ns<64
  .rw [Z_ j] at e;cases e;show(match L3.intsOf a with|some ns=>⇑ns<64 /\∀h:Q0e,h.Perm ns->h.Pairwise (· <= ·)->Q (.lst (h.map D.int))|none=>False);rw[vV,l];show⟨j,λh p s=>?_⟩;rw[nJ (p.trans (lM ns).symm) s (jG ns)];show q
  .rw [Zz j] at e;cases e
 .cases e
def GG(a:X.mg "sorted"=ae)(j:pZ X [e] t)(d:Gl X "sorted"<|>0)(h:Zr X e []<|>0):lI X (.Call (.Name "sorted" p) [e] [] ν) (bL fU t):=cF (SG a j d h) (yL yM)
def Y3(T:String)(d:D):BZ T d=rE T d:=by cases d<;>rfl
theorem A1(I:DO T)(z:X.mg "isinstance"=ae)(l:X.mg x=ae)(o:bootBuiltins x=aa (.type T))(F:aW X e f)(A:Gl X "isinstance"<|>0)(m:Gl X x<|>0)(y:x ≠ "__name__"<|>1)(n:Zu x<|>1)
  (v:(ar [e,.Name x p2] X.env=(ag,eval e X.env)::ar [.Name x p2] X.env)<|>0) (h:(ar [.Name x p2] X.env=(ag,eval (.Name x p2) X.env)::ar [] X.env)<|>0) (j:(bz ν (ar [.Name x p2] X.env)).any (·.1)=ag<|>0):
  aW X (.Call (.Name "isinstance" p) [e,.Name x p2] [] ν) (jA T f):=cE (Gu I z l o F A m y n v h j) λρ Q J=>by
 obtain⟨d,e,q⟩:=J;obtain⟨x,ex,e⟩:=bnd e;by_cases a:B0 x=af
 .rw [Z_ a] at e;cases e;show⟨x,ex,(by cases x<;>first|trivial|cases a),by show Q (.bl (rE T x));rw[<- Y3];show q⟩
 .rw [Zz a] at e;cases e
def GH(K:aq)(R:kR):Sp:=sp3 K λds Q=>∃d,R ds=.ok d/\Q d
inductive Cl (P:bb) (w:az) (K:aq) (mg:Q0d) (ω:a_) (CX:C6) (k:Nat) (x:ai) (ps:Q0g) (sp:Sp):Prop
 |mk {f:ah} {fd:ft} (F:kN P w K mg ω CX k f fd ps sp) (m:mg x=aa (.ref f)) (kp:keepIn K (.ref f)=af) (b:Binds K fd ps []):Cl P w K mg ω CX k x ps sp
theorem Cl.up{P:bb}{w:az}{K:aq}{mg:Q0d}{ω:a_}{CX:C6}{j k:Nat}{x:ai}{ps:Q0g}{sp:Sp}(c:Cl P w K mg ω CX j x ps sp)(h:j<=k<|>1):Cl P w K mg ω CX k x ps sp:=by obtain⟨F,m,q,b⟩:=c;show⟨F.mono h,m,q,b⟩
inductive Df (K:aq) (mg:Q0d) (x:ai) (st:bq) (ps:Q0g):Prop
 |mk {f:ah} {fd:ft} (a:Aa K gw x=aa (aa (.ref f))) (F:U8 K x x st f fd) (m:mg x=aa (.ref f)) (b:Binds K fd ps []):Df K mg x st ps
theorem Za{K:aq}{mg:Q0d}{h:a_}{x:ai}{st:bq}{ps:Q0g}{f:ah}{q:aj}{p o:Option ah}{m:Array (Option aj)}{kV doc n d ct:aj}(X:K.In h)(G:h.Ns gw mg)
  (b:∀j:Q0f,⇑j=⇑ps->bindArgs (fnOf x x (oO st) (dN st) (aO st) .none kV doc n o d ct) ⟨j,[]⟩=pure (ps.zip j)) (a:Aa K gw x=aa (aa (.ref f)))
  (l:K.lookup f=aa ⟨q,p,.func (fnOf x x (oO st) (dN st) (aO st) .none kV doc n o d ct),m⟩) (c:codeIn K d x=af) (k:keepIn K (.ref f)=af):Df K mg x st ps:=⟨a,X1 l c k,PySem.W.mg_of X G a,.all b⟩
def u1(r:eQ k A):A.units+1<fv:=by have:=r.units;lia
theorem bS(C:Cl X.Ω X.w X.K X.mg X.ω rK k x ps (GH X.K R))(l:eQ k X.A)
  (z:pZ X (e::es) t) (o:Gl X x<|>0) (j:Zu x<|>1) (v:Zr X e es<|>0) (a:Q0l X ν es<|>0):
  aW X (.Call (.Name x p) (e::es) [] ν) (aJ R t):=by
 obtain⟨F,m,n,y⟩:=C;show cE (Pa F l m n y z o j v a) λρ Q J=>?_;obtain⟨d,e,q⟩:=J;obtain⟨ds,I,e⟩:=bnd e;show⟨ds,I,d,?_,q⟩
 cases h:R ds with
 |ok d'=>rw[h] at e;cases e;rfl
 |no=>rw[h] at e;cases e
 |ex c=>rw[h] at e;cases e
def DW(y:X.calm=af)(o:X.mg "list"=ae)(l:X.mg "range"=ae)(z:pZ X [a] t)(v:Gl X "list"<|>0)(m:Gl X "range"<|>0)(n:ar [a] X.env=[(ag,eval a X.env)]<|>0)
  (x:(ar [.Call (.Name "range" p2) [a] [] pos2] X.env=(ag,eval (.Call (.Name "range" p2) [a] [] pos2) X.env)::ar [] X.env)<|>0):
  lI X (.Call (.Name "list" p) [.Call (.Name "range" p2) [a] [] pos2] [] ν) (B3 t):=cF (DP y o l z v m n x) λρ Q F=>by
 obtain⟨d,e,q⟩:=F;obtain⟨ds,A,e⟩:=bnd e;show⟨ds,A,?_⟩;split at e
 .rename_i j;by_cases h:j.natAbs<=16777216
  .rw [Z_ h] at e;cases e;show⟨⟨∅,∅⟩,q⟩
  .rw [Zz h] at e;cases e
 .cases e
section
variable{tg:au}
def mJ(h:aW X l f):SQ X tg l (bU f):=cI (P_ h) λρ Q j=>by
 obtain⟨ds,e,q⟩:=j;obtain⟨d,a,e⟩:=bnd e;show⟨d,a,?_⟩;cases d<;>first|cases e;done|skip
 all_goals (cases e;show q)
def N2(h:aA fa aE ρ=aa as):∃a,fa ρ=aa a/\as=[a]:=by obtain⟨a,d,e⟩:=bnd h;cases e;show⟨a,d,rfl⟩
def Y4(h:aA fa (aA fb aE) ρ=aa as):∃a b,fa ρ=aa a/\fb ρ=aa b/\as=[a,b]:=by obtain⟨a,l,e⟩:=bnd h;obtain⟨r,d,e⟩:=bnd e;obtain⟨b,j,rfl⟩:=N2 d;cases e;show⟨a,b,l,j,rfl⟩
def N3(h:aA fa (aA fb (aA fc aE)) ρ=aa as):∃a b c,fa ρ=aa a/\fb ρ=aa b/\fc ρ=aa c/\as=[a,b,c]:=by obtain⟨a,m,e⟩:=bnd h;obtain⟨r,d,e⟩:=bnd e;obtain⟨b,c,l,j,rfl⟩:=Y4 d;cases e;show⟨a,b,c,m,l,j,rfl⟩
def gK(n:X.mg "range"=ae)(v:aW X a fa)(o:Gl X "range"<|>0)(m:ar [a] X.env=[(ag,eval a X.env)]<|>0):SQ X tg (.Call (.Name "range" p) [a] [] ν) (bP (aA fa aE)):=cI (YL n (aC v bD m) o m) λρ Q y=>by
 obtain⟨ds,e,q⟩:=y;obtain⟨x,l,e⟩:=bnd e;show⟨x,l,?_⟩;obtain⟨a,d,rfl⟩:=N2 l
 clear l d
 cases a<;>first|cases e;done|skip
 rename_i j;by_cases h:j.natAbs<4611686018427387904
 .have e:(if j.natAbs<4611686018427387904 then aa ((bT 0 j.toNat).map D.int) else ae)=aa ds:=e;rw[Z_ h] at e;cases e;show⟨⟨∅,∅⟩,q⟩
 .have e:(if j.natAbs<4611686018427387904 then aa ((bT 0 j.toNat).map D.int) else ae)=aa ds:=e;rw[Zz h] at e;cases e
end
def DX(h:X.mg "enumerate"=ae)(l:pZ X [a] t)(j:Gl X "enumerate"<|>0)(d:ar [a] X.env=[(ag,eval a X.env)]<|>0):SQ X (.Tuple es kk tp) (.Call (.Name "enumerate" p) [a] [] ν) (nR t):=cI (DT h l j d) λρ Q o=>by obtain⟨ds,e,q⟩:=o;obtain⟨n,m,e⟩:=bnd e;show⟨n,m,?_⟩;unfold EW at e;split at e<;>first|(cases e;show q)|cases e
theorem tP:∀(ds ψ ys:List D) (Q:D->Prop),hZ g t e ρ ds=aa ys->⇑ψ+⇑ds<=bc->Q (.lst (ψ++ys))->oQ (tm g) (wT t) (wE e) ρ ds ψ Q
 |[],ψ,ys,Q,h,_,q=>by cases h;rw[oQ];simpa using q
 |d::ds,ψ,ys,Q,h,hl,q=>by
  rw[oQ];obtain⟨ρ1,n,h⟩:=bnd h;obtain⟨b,m,h⟩:=bnd h;erw[cn] at hl;show⟨ρ1,n,b,m,?_⟩
  cases b with
  |true =>
   rw[Z_ rfl] at h ⊢;obtain⟨y,l,h⟩:=bnd h;obtain⟨a,j,rfl⟩:=tM h;show⟨y,l,∅,tP ds (ψ++[y]) a Q j (by simp;lia) ↑q⟩
  |false =>
   rw[Zz bg] at h ⊢;show tP ds ψ ys Q h ∅ q
def Y5(ρ:cD)(Q:D->Prop)(w:wE (dD nl fr it g t e) ρ Q):NQ nl fr (wI it) (tm g) (wT t) (wE e) ρ Q:=by
 obtain⟨d,h,q⟩:=w;obtain⟨ds,l,h⟩:=bnd h;show⟨ds,l,?_⟩;by_cases a:⇑ds<=g8
 .rw [Z_ a] at h;obtain⟨ys,j,rfl⟩:=tM h;show tP ds [] ys Q j (by rw[df,jn,Nat.zero_add];show a) ↑q
 .rw [Zz a] at h;cases h
abbrev SW(X:Cx)(nl:Nat)(a:au)(g:UH):Prop:=PG4 X nl a (tm g)
abbrev Y6(X:Cx)(ifs:List au)(t:TF):Prop:=SA X ifs (wT t)
def cG(h:PG4 X nl tg g)(c:∀d ρ Q,g' d ρ Q->g d ρ Q):PG4 X nl tg g':=pX h λ_ _ _ _ n=>by obtain⟨S,ρ,d,Q3,j,m,a,dn,l,k⟩:=n;show⟨S,ρ,d,Q3,j,m,a,dn,c d ρ Q3 l,k⟩
def N4(nd:X.N.Nodup)(a:i<nl)(m:X.N[i]?=aa x<|>0)(l:Loc X.env.scope x<|>2)(h:Zq X x<|>6):SW X nl (.Name x ν) (g1 i):=cG (Oy nd a m l h) λd ρ Q n=>by obtain⟨j,e,q⟩:=n;cases e;show q
theorem GI(h:nU d=aa p):d=.tup [p.1,p.2]:=by
 cases d<;>first|(cases h;done)|skip
 rename_i l
 cases l with
 |nil=>cases h
 |cons a l =>
  cases l with
  |nil=>cases h
  |cons b l =>
   cases l with
   |nil=>cases h;rfl
   |cons c l=>cases h
def Y8(L:X.calm=af)(nd:X.N.Nodup)(n:i<nl)(m:j<nl)(K:X.N[i]?=aa x<|>0)(J:X.N[j]?=aa y<|>0)(F:Loc X.env.scope x<|>2)(v:Zq X x<|>6)(A:Loc X.env.scope y<|>2)(o:Zq X y<|>6)
  (I:Q0j X x y px py<|>0) (a:Q0i X x y px py<|>0)
  (l:gV X x y px py<|>0) (h:Q0h X y py<|>0):
  SW X nl (.Tuple [.Name x px,.Name y py] kk ν) (g2 i j):=cG (Ox L nd n m K J F v A o I a l h) λd ρ Q U=>by
 obtain⟨z,e,q⟩:=U;obtain⟨p,O,rfl⟩:=tM e;rw[GI O];show q
def VJ:Y6 X [] bY:=λπ s σ H Q I h=>by obtain⟨S,ρ,Q3,d,a,⟨_,e,q⟩,k⟩:=h;cases e;show Gz π s σ H Q I ⟨S,ρ,Q3,d,a,q,k⟩
def Y9(h:uH X c t):Y6 X [c] t:=Ov h
section
variable{ls fs:Q0g}{fr:List Nat}{sc:fq}{tg iter elt:au}{ifs:List au}{ν:ba}{it:AF}{g:UH}{t:TF}{e:EF}
theorem N5(n:X.calm=af)(h:SQ X tg iter it)
  (j:∀a C pn ex s H,(blk X (ls++fs) sc a C pn ex s H).N.Nodup->SW (blk X (ls++fs) sc a C pn ex s H) ⇑ls tg g) (l:∀a C pn ex s H,Y6 (blk X (ls++fs) sc a C pn ex s H) ifs t) (m:∀a C pn ex s H,aW (blk X (ls++fs) sc a C pn ex s H) elt e)
  (B:YR X.env.scope.names sc X.N ls fs fr=af<|>0) (d:Zo X iter<|>5):lI X (.ListComp elt [⟨tg,iter,ifs,0⟩] sc ν) (dD ⇑ls fr it g t e):=cF (Ou n h j l m B d) Y5
variable{i:Nat}{x:ai}{spos pos':ba}
end
end
section
def cO(h:YY X e t)(c:∀ρ Q,t' ρ Q->t ρ Q):YY X e t':=λπ s σ H Q I l=>by obtain⟨S,ρ,Q3,j,a,d,k⟩:=l;show h π s σ H Q I ⟨S,ρ,Q3,j,a,c ρ Q3 d,k⟩
def yN:PO4 X ae jZ:=cO Fw λ_ _ a=>by obtain⟨_,e,q⟩:=a;cases e;show q
def tQ(h:aW X e f):PO4 X (aa e) (oE f):=cO (po3 h) λρ Q l=>by
 obtain⟨o,e,q⟩:=l;obtain⟨d,j,e⟩:=bnd e;obtain⟨i,a,rfl⟩:=tM e;show⟨d,j,?_⟩;cases d<;>first|cases a;done|skip
 cases a;show q
def GJ{e:au}{a j:Option au}{o ν:ba}{f:EF}{m n:OF}(x:aW X e f)(p:PO4 X a m)(v:PO4 X j n):aW X (.Subscript e (.Slice a j ae o) ν) (lT f m n):=cE (sl3 x p v) λρ Q F=>by
 obtain⟨r,e,q⟩:=F;obtain⟨d,A,e⟩:=bnd e;obtain⟨l,y,e⟩:=bnd e;obtain⟨h,z,e⟩:=bnd e;show⟨d,A,l,y,h,z,?_⟩;cases d<;>first|cases e;done|skip
 all_goals (cases e;show q)
def px4(h:aW X e f):JY X e (qG f):=cX (px3 h) λρ Q l=>by
 obtain⟨p,e,q⟩:=l;obtain⟨d,j,e⟩:=bnd e;show⟨d,j,?_⟩;by_cases a:d.uF=af
 .rw [Z_ a] at e;cases e;show⟨a,q⟩
 .rw [Zz a] at e;cases e
def A2(h:aW X e f):JY X e (aU f):=cX (Hs h) λρ Q j=>by obtain⟨p,e,q⟩:=j;obtain⟨d,a,e⟩:=bnd e;cases e;show⟨d,a,q⟩
def yO(h:kX o=aa ds):o=aa (.ow (.lst ds)):=by
 unfold kX at h;split at h
 .cases h;rfl
 .cases h
def DY(f:List D->D->(List D->D->Prop)->Prop)(m:List D->D->Option (List D×D)):Prop:=∀ds d q (Q:List D->D->Prop),m ds d=aa q->Q q.1 q.2->f ds d Q
def xw(h:DY f m)(ρ:bG)(Q:bG->D->Prop)(w:wX (mQ i m x) ρ Q):og i f (wX x) ρ Q:=by obtain⟨r,e,q⟩:=w;obtain⟨ds0,o,e⟩:=bnd e;obtain⟨p,l,e⟩:=bnd e;obtain⟨ds,n,e⟩:=bnd e;obtain⟨z,j,rfl⟩:=tM e;have d:=yO o;have o1:=yO n;show⟨by rw[d];trivial,p,l,?_⟩;show(match p.1[i]? with|some (.ow (.lst ds))=>f ds p.2 λa r=>Q (p.1.set i (.ow (.lst a))) r|_=>False);rw[o1];show h ds p.2 z _ j q
def JB:DY YE gG:=λds d q Q e k=>by
 unfold gG at e;by_cases h:⇑ds<g8
 .rw [Z_ h] at e;cases e;show⟨by rw[df];show h,k⟩
 .rw [Zz h] at e;cases e
def JC:DY YG PU:=λds d q Q e k=>by
 cases d<;>first|cases e;done|skip
 rename_i i;have e:(if i.natAbs<9223372036854775808 then(VY ⇑ds i).bind λj=>(ds[j]?).map λd=>(ds.eraseIdx j,d) else ae)=aa q:=e;by_cases h:i.natAbs<9223372036854775808
 .rw [Z_ h] at e;obtain⟨j,a,e⟩:=bnd e;obtain⟨d,l,rfl⟩:=tM e;have a:RK ⇑ds i=aa j:=a;show⟨⟨∅,∅⟩,?_⟩;show(match RK ⇑ds i with|some j=>(match ds[j]? with|some d=>Q (ds.eraseIdx j) d|none=>False)|none=>False);rw[a];dsimp only;rw[l];show k
 .rw [Zz h] at e;cases e
section
variable{i:Nat}{x:ai}{e:au}{p apos cpos:ba}{f:XF}
def A3(n:JY X e f)(hN:X.N[i]?=aa x<|>0)(l:vH X.env.scope x<|>3)(o:Zu x<|>1)(j:Zt x<|>1)
  (d:attributeBase (.Name x p) "append" X.env (eval (.Name x p) X.env)=eval (.Name x p) X.env<|>0)
  (h:Zp X cpos e<|>0)
  (a:Q0k apos cpos<|>0) (m:Zr X e []<|>0):
  JY X (.Call (.Attribute (.Name x p) "append" apos) [e] [] cpos) (mQ i gG f):=cX (Jc n hN l o j d h a m) (xw JB)
def Dy(n:JY X e f)(hN:X.N[i]?=aa x<|>0)(l:vH X.env.scope x<|>3)(o:Zu x<|>1)(j:Zt x<|>1)
  (d:attributeBase (.Name x p) "pop" X.env (eval (.Name x p) X.env)=eval (.Name x p) X.env<|>0)
  (h:Zp X cpos e<|>0)
  (a:Q0k apos cpos<|>0) (m:Zr X e []<|>0):
  JY X (.Call (.Attribute (.Name x p) "pop" apos) [e] [] cpos) (mQ i PU f):=cX (Jb n hN l o j d h a m) (xw JC)
def Nk(hN:X.N[i]?=aa x<|>0)(l:vH X.env.scope x<|>3)(m:Zu x<|>1)(j:Zt x<|>1)
  (h:attributeBase (.Name x p) "pop" X.env (eval (.Name x p) X.env)=eval (.Name x p) X.env<|>0) (a:Q0k apos cpos<|>0):
  JY X (.Call (.Attribute (.Name x p) "pop" apos) [] [] cpos) (zF i):=cX (Oj hN l m j h a) λρ Q y=>by
 obtain⟨r,e,q⟩:=y;obtain⟨ds,n,e⟩:=bnd e;obtain⟨d,v,rfl⟩:=tM e;have o:=yO n;show(match ρ[i]? with|some (.ow (.lst ds))=>(match ds[⇑ds-1]? with|some d=>Q (ρ.set i (.ow (.lst ds.dropLast))) d|none=>False)|_=>False);rw[o];dsimp only;rw[v];show q
end
def iK:iI X [] cZ:=xp Il λ_ _ w=>w
theorem VL(E:DE)(ρ:bG)(w:wS (aG f g) E ρ):YC (wS f) (wS g) E ρ:=by
 unfold wS aG at w;unfold YC wS
 cases h:f ρ with
 |nx ρ'=>rw[h] at w;show w
 |rt d=>rw[h] at w;show w
 |no=>rw[h] at w;show w
 |ex c=>rw[h] at w;show w
def aZ{st:bq}{a:List bq}{f g:SF}(d:rL X st f)(h2:iI X a g):iI X (st::a) (aG f g):=xp (Ij d h2) VL
def aP{st:bq}{f:SF}(a:rL X st f):iI X [st] f:=Oz a
theorem dJ(h:aW X e f):rL X (.Return (aa e) ν) (bJ f):=cS (Ig h) λE ρ w=>by
 unfold wS bJ at w
 cases h:f (aV ρ) with
 |none=>rw[h] at w;show w.elim
 |some d=>rw[h] at w;show⟨d,h,w⟩
theorem gM(d:uH X c t)(l:iI X a f)(j:iI X b g):rL X (.If c a b ν) (gH t f g):=cS (Ib d l j) λE ρ w=>by
 unfold wS gH at w
 cases h:t (aV ρ) with
 |none=>rw[h] at w;show w.elim
 |some c =>
  rw[h] at w;show⟨c,h,?_⟩
  cases c with
  |true=>rw[Z_ rfl];show w
  |false=>rw[Zz bg];show w
section
variable{i:Nat}{x:ai}{e:au}{f:EF}{ν pos':ba}
theorem cU(hN:X.N.Nodup)(n:aW X e f)(l:X.N[i]?=aa x<|>0)(a:Loc X.env.scope x<|>2)(j:Rv X e x pos' ν<|>0)(m:Zq X x<|>2):
  rL X (.Assign [.Name x pos'] e ν) (aY i f):=cS (Hy hN n l a j m) λE ρ w=>by
 unfold wS aY at w
 cases h:f (fB ρ) with
 |none=>rw[h] at w;show w.elim
 |some d=>rw[h] at w;show⟨d,h,w⟩
theorem yP(hN:X.N.Nodup)(n:lI X e f)(l:X.N[i]?=aa x<|>0)(a:Loc X.env.scope x<|>2)(j:Rv X e x pos' ν<|>0)(m:Zq X x<|>2):
  rL X (.Assign [.Name x pos'] e ν) (j0 i f):=cS (Hw hN n l a j m) λE ρ w=>by
 unfold wS j0 at w
 cases h:f (fB ρ) with
 |none=>rw[h] at w;show w.elim
 |some d=>rw[h] at w;show⟨d,h,w⟩
theorem Ni(hN:X.N.Nodup)(o:lI X e f)(m:X.N[i]?=aa x<|>0)(j:Loc X.env.scope x<|>2)(l:Rv X e x pos' ν<|>0)(n:Zq X x<|>2):
  rL X (.Assign [.Name x pos'] e ν) (mI i f):=cS (Ol hN o m j l n) λE ρ w=>by
 unfold wS mI at w
 cases h:f (aV ρ) with
 |none=>rw[h] at w;show w.elim
 |some d =>
  rw[h] at w;dsimp only at w;by_cases a:rR d=af
  .rw [Z_ a] at w;show⟨d,h,?_,w⟩;cases d<;>first|show a|cases a
  .rw [Zz a] at w;show w.elim
theorem VM{f:XF}(hN:X.N.Nodup)(n:JY X e f)(l:X.N[i]?=aa x<|>0)(a:Loc X.env.scope x<|>2)(j:Rv X e x pos' ν<|>0)(m:Zq X x<|>2):
  rL X (.Assign [.Name x pos'] e ν) (jH i f):=cS (Qd hN n l a j m) λE ρ w=>by
 unfold wS jH at w
 cases h:f ρ with
 |none=>rw[h] at w;show w.elim
 |some d=>rw[h] at w;show⟨d,h,w⟩
def N6(hN:X.N.Nodup)(h:X.N[i]?=aa x<|>0)(a:Loc X.env.scope x<|>2)(d:fg (.Dict [] [] p) (aa (.Name x pos')) ν.line X.env=pure ag<|>0)(j:Zq X x<|>2):
  rL X (.Assign [.Name x pos'] (.Dict [] [] p) ν) (qH i):=cS (NU hN h a d j) λE ρ w=>w
end
theorem oX(j:JY X e f)(a:fg e ae ν.line X.env=pure ag<|>0):rL X (.Expr e ν) (sX f):=cS (Qb j a) λE ρ w=>by
 unfold wS sX at w
 cases h:f ρ with
 |none=>rw[h] at w;show w.elim
 |some d=>rw[h] at w;show⟨d,h,w⟩
def JD(h:rS o=aa p):o=aa (.ow (.iR p.1 p.2)):=by
 unfold rS at h;split at h
 .cases h;rfl
 .cases h
theorem Nh(z:X.A.units+1<fv)(J:JY X e f)(I:aW X k fk)
  (hN:X.N[i]?=aa x<|>0) (y:vH X.env.scope x<|>3) (K:Zu x<|>1) (n:Zt x<|>1)
  (F:fg e (aa (.Subscript (.Name x p) k pos')) ν.line X.env=pure ag<|>0):
  rL X (.Assign [.Subscript (.Name x p) k pos'] e ν) (EX i f fk):=cS (Oo z J I hN y K n F) λE ρ w=>by
 unfold wS EX at w;cases h:((f ρ).bind λp=>(rS p.1[i]?).bind λa=>(fk (aV p.1)).bind λj=>(GX j).bind λl =>
  if(iT a.1 a.2 l).isNone=af/\⇑a.2<g8 then aa (p.1.set i (.ow (.iR (a.1++[l]) (a.2++[p.2])))) else ae) with
 |none=>rw[h] at w;show w.elim
 |some ρ' =>
  rw[h] at w;obtain⟨q,L,h⟩:=bnd h;obtain⟨a,U,h⟩:=bnd h;obtain⟨j,O,h⟩:=bnd h;obtain⟨l,v,h⟩:=bnd h;have o:=JD U;by_cases m:(iT a.1 a.2 l).isNone=af/\⇑a.2<g8
  .rw [Z_ m] at h;cases h;show⟨q,L,by rw[o];trivial,j,O,?_⟩;have Y:AR j=aa l:=by cases j<;>first|show v|cases v
   show(match q.1[i]?,AR j with
    |some (.ow (.iR ks ds)),aa k=>(i7 ks ds k=ae/\⇑ds<bc)/\E.nx (q.1.set i (.ow (.iR (ks++[k]) (ds++[q.2]))))
    |_,_=>False)
   rw[o,Y];show⟨⟨?_,by rw[df];show m.2⟩,w⟩;have:=m.1
   cases hl:iT a.1 a.2 l with
   |none=>show hl
   |some d=>rw[hl] at this;cases this
  .rw [Zz m] at h;cases h
def xq(h:R6 X tg g)(c:∀d ρ Q,g' d ρ Q->g d ρ Q):R6 X tg g':=pX h λ_ _ _ _ l=>by obtain⟨H₀,S,w,ρ,G,d,Q3,a,st,dn,j,k⟩:=l;show⟨H₀,S,w,ρ,G,d,Q3,a,st,dn,c d ρ Q3 j,k⟩
def tT(hN:X.N.Nodup)(j:X.N[i]?=aa x<|>0)(h:Loc X.env.scope x<|>2)(l:Zq X x<|>2):R6 X (.Name x ν) (wG (qW i)) :=
 xq (Pz hN j h l) λd ρ Q m=>by obtain⟨a,e,q⟩:=m;cases e;show q
def vW(J:X.calm=af)(hN:X.N.Nodup)(F:X.N[i]?=aa x<|>0)(A:X.N[j]?=aa y<|>0)(v:Loc X.env.scope x<|>2)(o:Loc X.env.scope y<|>2)
  (I:Zq X x<|>2) (m:Zq X y<|>2)
  (z:Q0j X x y px py<|>0) (a:Q0i X x y px py<|>0)
  (l:gV X x y px py<|>0) (h:Q0h X y py<|>0):
  R6 X (.Tuple [.Name x px,.Name y py] k ν) (wG (kQ i j)):=xq (Py J hN F A v o I m z a l h) λd ρ Q L=>by
 obtain⟨n,e,q⟩:=L;obtain⟨p,K,rfl⟩:=tM e;rw[GI K];show q
theorem rB(v:X.calm=af)(q:o_ (aw X.Ω X.w) X.A X.env X.xe)(n:SQ X tg iter it)(m:R6 X tg (wG g))(l:iI X body b)
  (p:Zo X iter<|>5):rL X (.For tg iter body [] ν) (d6 it g b):=cS (Ir v q n m l p) λE ρ w=>by
 unfold wS d6 at w
 cases h:it (fB ρ) with
 |none=>rw[h] at w;show w.elim
 |some ds =>
  rw[h] at w;show⟨ds,h,λi j=>wS (bC g b (ds.drop i)) E j,(by show wS (bC g b (ds.drop 0)) E ρ;rw[wu];show w),λi d j o a=>?_,λj a=>?_⟩
  .have n:i<⇑ds:=(c_.mp o).1;have x:ds[i]=d:=(c_.mp o).2;have a:wS (bC g b (ds.drop i)) E j:=a;rw[sv n,x] at a;unfold wS bC at a
   cases m:g d j with
   |none=>rw[m] at a;show a.elim
   |some ρ1 =>
    rw[m] at a;dsimp only at a;show⟨ρ1,m,?_⟩;unfold wS
    cases l:b ρ1 with
    |nx ρ2=>rw[l] at a;dsimp only;rw[l];show a
    |rt d=>rw[l] at a;dsimp only;rw[l];show a
    |no=>rw[l] at a;dsimp only;rw[l];show a
    |ex c=>rw[l] at a;dsimp only;rw[l];show a
  .have a:wS (bC g b (ds.drop ⇑ds)) E j:=a;rw[Xz] at a;show a
theorem ZA(I:o_ (aw X.Ω X.w) X.A X.env X.xe)(L:uH X c t)(l:iI X body b):rL X (.While c body [] ν) (B6 n t b):=cS (YV I L l) λE ρ w=>by
 have least:∀{p:Nat->Prop},(∃n,p n) ->∃n,p n /\∀m,p m->n<=m:=λ{p} ⟨n,J⟩=>by
  induction n using Nat.strongRecOn with
  |ind n ih =>
   by_cases h:∃m,m<n/\p m
   .obtain ⟨m,o,q⟩:=h;show ih m o q
   .exact ⟨n,J,λm q=>by apply wy;intro z;show h ⟨m,∅,q⟩⟩
 show⟨λa=>∃m,wS (dQ t b m) E a,λa=>(Yj λm=>wS (dQ t b m) E a /\∀k,wS (dQ t b k) E a->m<=k),⟨n,w⟩,λa F=>?_⟩;obtain⟨y,v⟩:=least F;have o:=Yi (p:=λm=>wS (dQ t b m) E a /\∀k,wS (dQ t b k) E a->m<=k) ⟨y,v⟩;dsimp only;generalize (Yj λm=>wS (dQ t b m) E a /\∀k,wS (dQ t b k) E a->m<=k)=m at o ⊢
 cases m with
 |zero=>show o.1.elim
 |succ m =>
  have j:=o.1;unfold wS dQ at j
  cases ht:t (aV a) with
  |none=>rw[ht] at j;show j.elim
  |some c =>
   rw[ht] at j;show⟨c,ht,?_⟩
   cases c with
   |false=>rw[Zz bg];show j
   |true =>
    rw[Z_ rfl];dsimp only at j;unfold wS
    cases l:b a with
    |nx ρ2 =>
     rw[l] at j;have h2:wS (dQ t b m) E ρ2:=j;show⟨⟨m,h2⟩,?_⟩;obtain⟨k0,x⟩:=least (p:=λm=>wS (dQ t b m) E ρ2) ⟨m,h2⟩;have K:=Yi (p:=λm=>wS (dQ t b m) E ρ2 /\∀k,wS (dQ t b k) E ρ2->m<=k) ⟨k0,x⟩;show Nat.lt_succ_of_le (K.2 m h2)
    |rt d=>rw[l] at j;show j
    |no=>rw[l] at j;show j
    |ex c=>rw[l] at j;show j
end
theorem xu{P:bb}{w:az}{K:aq}{mg:Q0d}{ω:a_}{x qual:ai}{st:bq}{f:ah}{fd:ft}{N ps:Q0g}{k n l:Nat}{b:SF}(F:U8 K x qual st f fd)(S:eD N ps (aO st))(p:⇑N=n)(o:⇑ps=l)
  (j:∀(a:aj) (A:bo) (outer:List cx) (s:ak) (H:Hp) (E:XK),eQ k (A.deeper (envOfC qual (aO st) ↥s f a)) ->
   iI (kO rK P w K mg ω N qual (aO st) f a A outer s H E).LY (dN st) b):kN P w K mg ω rK (k+1) f fd ps (GH K (bX n l b)):=by
 subst p o;show Hu F S (λds Q ⟨d,e,q⟩=>?_) λa A outer s H E m=>⟨_,j a A outer s H E m,λds Q ⟨d,e,q⟩=>?_⟩
 .unfold bX at e;by_cases h:⇑ds=⇑ps
  .exact h
  .rw [Zz h] at e;cases e
 .unfold bX at e;by_cases h:⇑ds=⇑ps
  .rw [Z_ h] at e;have v:jD N ds=bN ⇑N ds:=rfl;unfold wS;rw[v]
   cases hb:b (bN ⇑N ds) with
   |rt d'=>rw[hb] at e;cases e;show q
   |nx ρ=>rw[hb] at e;cases e;show q
   |no=>rw[hb] at e;cases e
   |ex c=>rw[hb] at e;cases e
  .rw [Zz h] at e;cases e
theorem fd4{P:bb}{w:az}{K:aq}{mg:Q0d}{ω:a_}{x:ai}{st:bq}{N ps:Q0g}{k n d:Nat}{b:SF}(D:Df K mg x st ps)
  (h:∀{f:ah} {a:aj} {A:bo} {outer:List cx} {s:ak} {H:Hp} {E:XK},eQ k (A.deeper (envOfC x (aO st) ↥s f a))->N.Nodup->iI (kO rK P w K mg ω N x (aO st) f a A outer s H E).LY (dN st) b)
  (S:eD N ps (aO st)<|>8) (o:⇑N=n<|>0) (l:⇑ps=d<|>0):Cl P w K mg ω rK (k+1) x ps (GH K (bX n d b)):=by
 obtain⟨_,F,m,q⟩:=D;show⟨xu F S o l λ_ _ _ _ _ _ j=>h j S.nd,m,F.kp,q⟩
def Nc{P:bb}{w:az}{K:aq}{mg:Q0d}{ω:a_}{k:Nat}{f:ah}{fd:ft}{ps:Q0g}:kN P w K mg ω rK k f fd ps (GH K λ_=>.no) :=
 ⟨λ_ _ _ _ h=>(by obtain⟨_,_,_,_,_,⟨_,e,_⟩,_⟩:=h;cases e),λ_ _ _ _ _ _ _ _ _ _ _ _ _ h=>(by obtain⟨_,_,_,_,_,⟨_,e,_⟩,_⟩:=h;cases e)⟩
def nn4{P:bb}{w:az}{K:aq}{mg:Q0d}{ω:a_}{k:Nat}{x:ai}{st:bq}{ps:Q0g}(D:Df K mg x st ps):Cl P w K mg ω rK k x ps (GH K λ_=>.no):=by obtain⟨_,F,m,q⟩:=D;show⟨Nc,m,F.kp,q⟩
section
variable{π:Q0b}{σ:L2.St}{H:Hp}
theorem qS(I:Φ X π σ H s)(h:Ψ x v)(e:x=.bl k\/(∃p xs,x=.ref p/\(eJ X.K H p xs\/eR X.K H p xs)/\k=!xs.isEmpty))
  (q:∀l,Q k {s with toks:=l}):av (aw X.Ω X.w) A (truthy v) Q E s:=by
 have n:bc=16777216:=df;rcases e with rfl|⟨p,xs,rfl,a,rfl⟩
 .cases h;show kc (q s.toks)
 .cases h;rcases a with a|a
  .obtain ⟨j,r,d,m⟩:=I.list a;have hlen:=⇑r;show Rm d.isList (by erw[cf];lia) (by rw[kH r];show q _)
  .obtain ⟨j,r,d,m⟩:=I.tuple a;have hlen:=⇑r;show Wa d (by erw[cf];lia) (by rw[kH r];show q _)
def TrV(K:aq)(H:Hp)(x:V)(k:Bool):Prop:=x=.bl k\/(∃p xs,x=.ref p/\(eJ K H p xs\/eR K H p xs)/\k=!xs.isEmpty)
def vX(h:j<n):(ck n).drop j=j::(ck n).drop (j+1):=by
 have a:j<⇑(ck n):=by rw[qf];show h
 rw[sv a,List.getElem_range]
section
variable{it:ah}{fp wr:List ah}{n:Nat}{P:Nat->aj->Prop}{St:Nat->a_->Prop}{R:vi->ak->Prop}{tr:Nat->Bool}
theorem vY(W:ou X.Ω X.w X.A.in1 it fp wr n P St)(l:∀b∈wr,mF X π H b)(o:∀j v,P j v ->∃x,Ψ x v/\TrV X.K H x (tr j)):
  ∀(m j:Nat) (st:ak),m+j=n->Φ X π σ H st->St j st.heap->(∀a,Φ X π σ H a->R (.ok (.ret (.bool (((ck n).drop j).any tr)))) a)->ia (aw X.Ω X.w) X.A (.builtin "any.loop" ⟨[.ref it],[]⟩) R st
 |0,j,st,hj,I,hS,k=>by
  obtain rfl:j=n:=∅
  show jv (Vi) ?_;rw[lx vt];show ao (W.done st _ _ hS λh2 t2 h=>ao (iq (ax ?_)));have:=k _ (tK (t':=t2) I h l)
  rwa [Bx (by simp)] at this
 |m+1,j,st,hj,I,hS,k=>by
  have d:j<n:=∅
  show jv (Vi) ?_;rw[lx vt];show ao (W.item j st _ _ d hS λv h2 t2 F y h=>?_);have q:Φ X π σ H {st with heap:=h2,toks:=t2}:=tK (t':=t2) I h l;obtain⟨x,z,J⟩:=o j v F;rw[vX d,jr] at k;show ao (gp (qS q z J λt3=>ao (R_ ?_)));have p:Φ X π σ H {st with heap:=h2,toks:=t3}:=q.tok t3
  cases hb:tr j with
  |false =>
   rw[hb,qo] at k;rw[Zz bg];show ax ⟨mq vt _,vY W l o m (j+1) _ ∅ p y k⟩
  |true =>
   rw[hb,Yk] at k;rw[Z_ rfl];show ao (iq (ax (k _ p)))
theorem vZ(W:ou X.Ω X.w X.A.in1 it fp wr n P St)(l:∀b∈wr,mF X π H b)(o:∀j v,P j v ->∃x,Ψ x v/\TrV X.K H x (tr j)):
  ∀(m j:Nat) (st:ak),m+j=n->Φ X π σ H st->St j st.heap->(∀a,Φ X π σ H a->R (.ok (.ret (.bool (((ck n).drop j).all tr)))) a)->ia (aw X.Ω X.w) X.A (.builtin "all.loop" ⟨[.ref it],[]⟩) R st
 |0,j,st,hj,I,hS,k=>by
  obtain rfl:j=n:=∅
  show jv (Vj) ?_;rw[lx vv];show ao (W.done st _ _ hS λh2 t2 h=>ao (iq (ax ?_)));have:=k _ (tK (t':=t2) I h l)
  rwa [Bx (by simp)] at this
 |m+1,j,st,hj,I,hS,k=>by
  have d:j<n:=∅
  show jv (Vj) ?_;rw[lx vv];show ao (W.item j st _ _ d hS λv h2 t2 F y h=>?_);have q:Φ X π σ H {st with heap:=h2,toks:=t2}:=tK (t':=t2) I h l;obtain⟨x,z,J⟩:=o j v F;rw[vX d,qj] at k;show ao (gp (qS q z J λt3=>ao (R_ ?_)));have p:Φ X π σ H {st with heap:=h2,toks:=t3}:=q.tok t3
  cases hb:tr j with
  |true =>
   rw[hb,jt] at k;rw[Z_ rfl];show ax ⟨mq vv _,vZ W l o m (j+1) _ ∅ p y k⟩
  |false =>
   rw[hb,Ca] at k;rw[Zz bg];show ao (iq (ax (k _ p)))
end
def ZC(f:List Bool->Bool)(K:aq):List V->Hp->VK->Prop:=λxs H Q=>∃a ys bs,xs=[.ref a]/\H a=aa (.lst ys)/\⇑bs=⇑ys/\(∀(j:Nat) (y:V) (b:Bool),ys[j]?=aa y->bs[j]?=aa b->TrV K H y b)/\Q (.bl (f bs)) H
def JE(hc:X.calm=af):eB X (.builtin "any") (ZC (λbs=>bs.any id) X.K):=by
 intro π s σ H xs us Q I r h;obtain⟨a,ys,bs,rfl,ha,hl,ht,q⟩:=h;obtain⟨u,rfl,l⟩:=vals1 r;cases l;obtain⟨d,L,p,hz⟩:=I.list (eJ.of ha);have z:a<↥s:=by obtain⟨o,n,e,_⟩:=p;show bj e
 have hn:⇑d=⇑ys:=L.length.symm;have y:∀j v,d.toArray[j]?=aa v ->∃x,Ψ x v/\TrV X.K H x (bs.getD j af):=λj v e=>by
  have Y:d[j]?=aa v:=by simpa using e
  have O:j<⇑ys:=by have:=(c_.mp Y).1;lia
  obtain⟨u,U,l⟩:=L.get (cm O);rw[Y] at U;cases U;show⟨_,l,ht j _ _ (cm O) ?_⟩;rw[nz,cm ∅];rfl
 show Ti (F.kind_any) F.plain_any F.entry_any (F.args_any1 _) ?_;unfold Builtin.«any»;show ao (m:=oneArg "any" _) (ax (ao (zf p.isList (ax ⟨mq vt _,?_⟩))));have J:H ↥s=ae:=I.hok.fresh (bf _);have I1:Φ X π σ H {s with heap:=s.heap.push {cls:=.type "list_iterator",data:=.fields #[.ref a,rawInt 0]} }:=I.kept (t':=s.toks) λb o e=>bu _ e;show vY (X:=X) (π:=π) (σ:=σ) (H:=H) (tr:=λj=>bs.getD j af) (Tq (A:=X.A.in1) (show X.A.in1.handled=ae from I.ok.hd hc) ↥s a (de z) d.toArray) (λb hb=>?_) y d.toArray.size 0 _ rfl I1
  ⟨⟨_,cz _ rfl,rfl,rfl⟩,p.isList.at λo e=>bu _ e⟩ λZ I'=>?_
 .cases bx.mp hb;show I.z9 (bf _) J
 .refine ⟨.bl _,H,I',rfl,?_⟩;rw[wu,show d.toArray.size=⇑bs by simp[hn,hl],range_any];show q
def JF(hc:X.calm=af):eB X (.builtin "all") (ZC (λbs=>bs.all id) X.K):=by
 intro π s σ H xs us Q I r h;obtain⟨a,ys,bs,rfl,ha,hl,ht,q⟩:=h;obtain⟨u,rfl,l⟩:=vals1 r;cases l;obtain⟨d,L,p,hz⟩:=I.list (eJ.of ha);have z:a<↥s:=by obtain⟨o,n,e,_⟩:=p;show bj e
 have hn:⇑d=⇑ys:=L.length.symm;have y:∀j v,d.toArray[j]?=aa v ->∃x,Ψ x v/\TrV X.K H x (bs.getD j af):=λj v e=>by
  have Y:d[j]?=aa v:=by simpa using e
  have O:j<⇑ys:=by have:=(c_.mp Y).1;lia
  obtain⟨u,U,l⟩:=L.get (cm O);rw[Y] at U;cases U;show⟨_,l,ht j _ _ (cm O) ?_⟩;rw[nz,cm ∅];rfl
 show Ti (F.kind_all) F.plain_all F.entry_all (F.args_all1 _) ?_;unfold Builtin.«all»;show ao (m:=oneArg "all" _) (ax (ao (zf p.isList (ax ⟨mq vv _,?_⟩))));have J:H ↥s=ae:=I.hok.fresh (bf _);have I1:Φ X π σ H {s with heap:=s.heap.push {cls:=.type "list_iterator",data:=.fields #[.ref a,rawInt 0]} }:=I.kept (t':=s.toks) λb o e=>bu _ e;show vZ (X:=X) (π:=π) (σ:=σ) (H:=H) (tr:=λj=>bs.getD j af) (Tq (A:=X.A.in1) (show X.A.in1.handled=ae from I.ok.hd hc) ↥s a (de z) d.toArray) (λb hb=>?_) y d.toArray.size 0 _ rfl I1
  ⟨⟨_,cz _ rfl,rfl,rfl⟩,p.isList.at λo e=>bu _ e⟩ λZ I'=>?_
 .cases bx.mp hb;show I.z9 (bf _) J
 .refine ⟨.bl _,H,I',rfl,?_⟩;rw[wu,show d.toArray.size=⇑bs by simp[hn,hl],range_all];show q
theorem VN{K:aq}{S:ah->Prop}{H:Hp}:∀{p:List D} {ys:List V} {bs:List Bool},aM K S H p ys->mO p=aa bs->⇑bs=⇑ys /\∀(j:Nat) (y:V) (b:Bool),ys[j]?=aa y->bs[j]?=aa b->TrV K H y b
 |[],ys,bs,dn,h=>by erw[aM] at dn;subst dn;cases h;show⟨rfl,λj y b e=>by simp at e⟩
 |d::p,ys,bs,dn,h=>by
  obtain⟨v,r,rfl,l,h2⟩:=dn.bH;obtain⟨b,m,h⟩:=bnd h;obtain⟨I,F,rfl⟩:=tM h;obtain⟨A,z⟩:=VN h2 F;show⟨by simp[A],λj y c o q=>?_⟩
  cases j with
  |zero =>
   simp at o q;subst o q;cases d<;>first|cases m;done|skip
   .cases m;symm at l;show .inl l
   .cases m;symm at l;obtain⟨a,xs,rfl,n,x⟩:=l;show .inr ⟨a,xs,rfl,.inr (eR.of n),by rw[<- x.empty]⟩
   .cases m;symm at l;obtain⟨a,xs,rfl,n,_,x⟩:=l;show .inr ⟨a,xs,rfl,.inl (eJ.of n),by rw[<- x.empty]⟩
  |succ j=>show z j y c ↑o ↑q
def trF(f:List Bool->Bool):F1
 |[.lst es],Q=>∃bs,mO es=aa bs/\Q (.bl (f bs))
 |_,_=>False
theorem N7{K:aq}{f:List Bool->Bool}:C3 K (ZC f K) (trF f):=by
 intro S H xs ds Q3 Q x m l k
 match ds,l with
 |[.lst es],⟨bs,eb,q⟩ =>
  obtain⟨v,r,rfl,d,h2⟩:=m.bH;erw[aM] at h2;subst h2;symm at d;obtain⟨a,ys,rfl,n,p,o⟩:=d;obtain⟨j,h⟩:=VN o eb;show⟨a,ys,bs,rfl,n,j,h,k _ H _ (ξ.refl H) (by symm) q⟩
def xt{p ν:ba}{e:au}{t:AF}(l:X.calm=af)(a:X.mg "any"=ae)(m:pZ X [e] t)(h:Gl X "any"<|>0)(j:Zr X e []<|>0):aW X (.Call (.Name "any" p) [e] [] ν) (bL anyM t) :=
 cE (yE (JE l) N7 a1g h a m ⋯ ⋯ j (by rfl)) (yL λds d Q e q=>by
  unfold anyM at e;split at e
  .obtain ⟨bs,n,rfl⟩:=tM e;show⟨bs,n,q⟩
  .cases e)
def xr{p ν:ba}{e:au}{t:AF}(l:X.calm=af)(a:X.mg "all"=ae)(m:pZ X [e] t)(h:Gl X "all"<|>0)(j:Zr X e []<|>0):aW X (.Call (.Name "all" p) [e] [] ν) (bL allM t) :=
 cE (yE (JF l) N7 a1h h a m ⋯ ⋯ j (by rfl)) (yL λds d Q e q=>by
  unfold allM at e;split at e
  .obtain ⟨bs,n,rfl⟩:=tM e;show⟨bs,n,q⟩
  .cases e)
end
end L4
namespace L3
open PySem.Spec PyProof.Rows L2
end L3
namespace L4
open PySem.Spec PyProof.Rows L2 L3
open PySem.W
noncomputable def told(lt:Nat->Nat->Bool){α:Type}:mx α->α
 |.ret a=>a
 |.ask i j k=>told lt (k (lt i j))
theorem g7{α a:Type}(f:α->mx a):∀t:mx α,told lt (t.bind f)=told lt (f (told lt t))
 |.ret _=>rfl
 |.ask i j k=>g7 f (k (lt i j))
section
variable{lt:Nat->Nat->Bool}
def Up(lt:Nat->Nat->Bool)(p:Array Nat)(k:Nat):Prop:=∀i j,i<j->j<k->lt (p.getD j 0) (p.getD i 0)=ag
def JZ(lt:Nat->Nat->Bool)(p:Array Nat)(k:Nat):Prop:=∀i j,i<j->j<k->lt (p.getD i 0) (p.getD j 0)=ag
structure rC (lt:Nat->Nat->Bool):Prop where
 as:∀a b,lt a b=af->lt b a=ag
 tr:∀a b c,lt b a=ag->lt c b=ag->lt c a=ag
theorem rC.PM(O:rC lt)(x:Nat):lt x x=ag:=by
 cases hb:lt x x with
 |false=>rfl
 |true=>have:=O.as _ _ hb;rw[hb] at this;show this
def gO{p:Array Nat}{i:Nat}:p.getD i 0=(p[i]?).getD 0:=by rw[xa]
def fY{p:Array Nat}{i j:Nat}(a:j<=p.size)(k:Nat):(gq p i j).getD k 0=if i<=k/\k<j then p.getD (i+j-1-k) 0 else p.getD k 0:=by unfold gq;rw[gO,getElem?_mirror_all a];split<;>rw[gO]
def tU(p:Array Nat)(i j:Nat):(gq p i j).size=p.size:=mirror_size _ _ _ _
def eZ(p:Array Nat)(i j:Nat):(gq p i j).Perm p:=mirror_perm _ _ _ _
theorem DZ(O:rC lt)(p:Array Nat):∀f n,1<=n->Up lt p n->n<=told lt (gy p f n)/\told lt (gy p f n)<=n+f/\Up lt p (told lt (gy p f n))/\(told lt (gy p f n)<n+f->lt (p.getD (told lt (gy p f n)) 0) (p.getD (told lt (gy p f n)-1) 0)=af)
 |0,n,h1,hu=>⟨bf _,bf _,hu,λh=>Zw h (gf _)⟩
 |f+1,n,h1,hu=>by
  show n<=told lt (if lt (p.getD n 0) (p.getD (n-1) 0)=af then lh n else gy p f (n+1))/\told lt (if lt (p.getD n 0) (p.getD (n-1) 0)=af then lh n else gy p f (n+1))<=n+(f+1)/\Up lt p (told lt (if lt (p.getD n 0) (p.getD (n-1) 0)=af then lh n else gy p f (n+1)))/\(told lt (if lt (p.getD n 0) (p.getD (n-1) 0)=af then lh n else gy p f (n+1))<n+(f+1)->lt (p.getD (told lt (if lt (p.getD n 0) (p.getD (n-1) 0)=af then lh n else gy p f (n+1))) 0) (p.getD (told lt (if lt (p.getD n 0) (p.getD (n-1) 0)=af then lh n else gy p f (n+1))-1) 0)=af)
  cases hc:lt (p.getD n 0) (p.getD (n-1) 0) with
  |true=>show⟨bf _,by show n<=n+(f+1);lia,hu,λ_=>hc⟩
  |false =>
   rw[Zz bg];have l:Up lt p (n+1):=λi j o v=>by
    by_cases m:j<n
    .exact hu i j o m
    .have:j=n:=∅
     subst this;by_cases q:i=j-1
     .subst q;show hc
     .exact O.tr _ _ _ (hu i (j-1) ∅ ∅) hc
   obtain⟨a,b,c,d⟩:=DZ O p f (n+1) ∅ l;show⟨∅,∅,c,λh=>d ∅⟩
def ZD(a:n<=p.size)(h:JZ lt p n):Up lt (gq p 0 n) n:=λi j l d=>by rw[fY a,fY a,Z_ ⟨∅,d⟩,Z_ ⟨∅,∅⟩];show h _ _ ∅ ∅
def Last(lt:Nat->Nat->Bool)(p:Array Nat)(n q:Nat):Prop:=q+1<=n /\∀i j,n-(q+1)<=i->i<n->n-(q+1)<=j->j<n->lt (p.getD i 0) (p.getD j 0)=ag
def rev_last(m:n<=p.size)(h:JZ lt p n)(l:Last lt p n q):JZ lt (gq p (n-(q+1)) n) n:=λi j d a=>by
 have:=l.1;rw[fY m,fY m];by_cases o:n-(q+1)<=i
 .rw [Z_ ⟨o,∅⟩,Z_ ⟨∅,a⟩];show l.2 _ _ ∅ ∅ ∅ ∅
 .rw [Zz ∅];by_cases h2:n-(q+1)<=j
  .rw [Z_ ⟨h2,a⟩];show h _ _ ∅ ∅
  .rw [Zz ∅];show h i j d a
def jS(O:rC lt)(q:1<=n)(h:JZ lt p n)(l:lt (p.getD (n-1) 0) (p.getD n 0)=ag):JZ lt p (n+1):=λi j d o=>by
 by_cases a:j<n
 .exact h i j d a
 .have:j=n:=∅
  subst this;by_cases m:i=j-1
  .subst m;show l
  .exact O.tr _ _ _ l (h i (j-1) ∅ ∅)
def N8(a:n<p.size):(gq p (n-(q+1)) n).getD n 0=p.getD n 0:=by rw[fY (jy a),Zz ∅]
theorem rM(O:rC lt):∀f (p:Array Nat) n q,1<=n->n+f<=p.size->JZ lt p n->Last lt p n q ->∀r,r=told lt (mw f p n q)->r.1.Perm p/\r.2.1<=n+f/\n<=r.2.1/\JZ lt r.1 r.2.1/\Last lt r.1 r.2.1 r.2.2
 |0,p,n,q,_,_,h,l,r,m=>by subst m;show⟨qp _,bf _,bf _,h,l⟩
 |f+1,p,n,q,h1,hs,h,l,r,m=>by
  have m:r=told lt (if lt (p.getD n 0) (p.getD (n-1) 0)=af then(if q>0 then mw f (gq p (n-(q+1)) n) (n+1) 0 else mw f p (n+1) 0) else .ask (p.getD (n-1) 0) (p.getD n 0) λd=>if d=af then .ret (p,n,q) else mw f p (n+1) (q+1)):=m;have one:∀p:Array Nat,Last lt p (n+1) 0:=λp=>⟨∅,λi j a b c d=>by
   have F:i=n:=∅
   have A:j=n:=∅
   rw[F,A];show O.PM _⟩
  cases hc:lt (p.getD n 0) (p.getD (n-1) 0) with
  |true =>
   rw[hc,Z_ rfl] at m;have o:=O.as _ _ hc;by_cases x:q>0
   .rw [Z_ x] at m;have J:=rev_last ∅ h l;have z:=l.1;have I:JZ lt (gq p (n-(q+1)) n) (n+1):=by show jS O h1 J ?_;rw[N8 ∅,fY ∅,Z_ ⟨∅,∅⟩];show O.tr _ (p.getD (n-1) 0) _ o (l.2 _ _ ∅ ∅ ∅ ∅)
    obtain⟨a,b,c,d,e⟩:=rM O f (gq p (n-(q+1)) n) (n+1) 0 ∅ (by rw[tU];lia) I (one _) r m;show⟨a.trans (eZ _ _ _),∅,∅,d,e⟩
   .rw [Zz x] at m;obtain⟨a,b,c,d,e⟩:=rM O f p (n+1) 0 ∅ ∅ (jS O h1 h o) (one _) r m;show⟨a,∅,∅,d,e⟩
  |false =>
   rw[hc,Zz bg] at m;have m:r=told lt (if lt (p.getD (n-1) 0) (p.getD n 0)=af then lh (p,n,q) else mw f p (n+1) (q+1)):=m
   cases hd:lt (p.getD (n-1) 0) (p.getD n 0) with
   |true =>
    rw[hd,Z_ rfl] at m;subst m;show⟨qp _,by show n<=n+(f+1);lia,bf _,h,l⟩
   |false =>
    rw[hd,Zz bg] at m;have z:=l.1;have l2:Last lt p (n+1) (q+1):=⟨∅,λi j a b c d=>by
     by_cases y:i<n
     .by_cases v:j<n
      .exact l.2 i j ∅ y ∅ v
      .have:j=n:=∅
       subst this;show O.tr _ (p.getD (j-1) 0) _ hd (l.2 i (j-1) ∅ y ∅ ∅)
     .have:i=n:=∅
      subst this;by_cases v:j<i
      .exact O.tr _ (p.getD (i-1) 0) _ (l.2 (i-1) j ∅ ∅ ∅ v) hc
      .have:j=i:=∅
       subst this;show(one p).2 j j ∅ ∅ ∅ ∅⟩
    obtain⟨a,b,c,d,e⟩:=rM O f p (n+1) (q+1) ∅ ∅ (jS O h1 h hd) l2 r m;show⟨a,∅,∅,d,e⟩
def wD{p q:Array Nat}(h:p.Perm q):p.size=q.size:=h.size_eq
def GK(O:rC lt)(j:1<=n)(m:n<=nrem)(l:nrem<=p.size)(h:JZ lt p n)(r:Nat×Array Nat)(d:r=told lt (Ad n nrem p)):r.2.Perm p/\1<=r.1/\r.1<=nrem/\Up lt r.2 r.1:=by unfold Ad at d;rw[g7] at d;obtain⟨a,b,c,_⟩:=DZ O (gq p 0 n) (nrem-n) n j (ZD ∅ h);subst d;show⟨eZ _ _ _,cy j a,(by show told lt _<=nrem;lia),c⟩
def qT(O:rC lt){n nrem:Nat}{p:Array Nat}(K:1<=n)(J:n+1<=nrem)(I:nrem<=p.size)(h:JZ lt p (n+1))(r:Nat×Array Nat)(l:r=told lt (uy n nrem p)):r.2.Perm p/\1<=r.1/\r.1<=nrem/\Up lt r.2 r.1:=by
 unfold uy at l;rw[g7] at l;have one:Last lt p (n+1) 0:=⟨∅,λi j a b c d=>by
  have A:i=n:=∅
  have y:j=n:=∅
  rw[A,y];show O.PM _⟩
 obtain⟨a,b,c,d,e⟩:=rM O (nrem-(n+1)) p (n+1) 0 ∅ ∅ h one _ rfl;generalize told lt (mw (nrem-(n+1)) p (n+1) 0)=z at a b c d e l;have F:=wD a;by_cases x:z.2.2>0
 .rw [Z_ x] at l;obtain⟨v,q,o,m⟩:=GK O (n:=z.2.1) (nrem:=nrem) (p:=gq z.1 (z.2.1-(z.2.2+1)) z.2.1) ∅ ∅ (by rw[tU];lia) (rev_last ∅ d e) r l;show⟨v.trans ((eZ _ _ _).trans a),q,o,m⟩
 .rw [Zz x] at l;obtain⟨v,q,o,m⟩:=GK O (n:=z.2.1) (nrem:=nrem) (p:=z.1) ∅ ∅ ∅ d r l;show⟨v.trans a,q,o,m⟩
def N9(O:rC lt)(Y:1<=n)(z:n<=p.size)(r:Nat×Array Nat)(h:r=told lt (uz n p)):r.2.Perm p/\1<=r.1/\r.1<=n/\Up lt r.2 r.1:=by
 unfold uz at h;rw[g7] at h;obtain⟨a,b,c,d⟩:=DZ O p (n-1) 1 (bf _) (λi j o v=>∅);generalize told lt (gy p (n-1) 1)=m at a b c d h;by_cases q:(m == n)=af
 .rw [Z_ q] at h;subst h;show⟨qp _,a,by show m<=n;lia,c⟩
 .rw [Zz q] at h;have q:m≠n:=λe=>q (by rw[e];simp);have l:=d ∅;by_cases h2:m>1
  .rw [Z_ h2] at h;have h:r=told lt (if lt (p.getD 0 0) (p.getD (m-1) 0)=af then lh (m,p) else uy m n (gq p 0 m)):=h
   cases hc:lt (p.getD 0 0) (p.getD (m-1) 0) with
   |true =>
    rw[hc,Z_ rfl] at h;subst h;show⟨qp _,a,by show m<=n;lia,c⟩
   |false =>
    rw[hc,Zz bg] at h;have all:∀i j,i<m->j<m->lt (p.getD i 0) (p.getD j 0)=ag:=λi j A v=>by
     have I:∀i,i<m->lt (p.getD 0 0) (p.getD i 0)=ag:=λi A=>by
      by_cases J:i=m-1
      .subst J;show hc
      .exact O.tr _ _ _ (c i (m-1) ∅ ∅) hc
     have PM:∀x,lt x x=ag:=λx=>by
      cases hb:lt x x with
      |false=>rfl
      |true=>have:=O.as _ _ hb;rw[hb] at this;show this
     have F:lt (p.getD i 0) (p.getD 0 0)=ag:=by
      by_cases y:i=0
      .subst y;show PM _
      ·-- a later one is not less than the first one
       show c 0 i ∅ A
     show O.tr _ _ _ (I j v) F
    have dn:JZ lt (gq p 0 m) (m+1):=by
     show jS O a (λi j o v=>?_) ?_
     .rw [fY ∅,fY ∅,Z_ ⟨∅,∅⟩,Z_ ⟨∅,∅⟩];show all _ _ ∅ ∅
     .rw [fY ∅,fY ∅,Z_ ⟨∅,∅⟩,Zz ∅];show O.tr _ (p.getD (m-1) 0) _ (O.as _ _ l) (all _ _ ∅ ∅)
    obtain⟨X,U,L,K⟩:=qT O a ∅ (by rw[tU];show z) dn r h;show⟨X.trans (eZ _ _ _),U,L,K⟩
  .rw [Zz h2] at h;have:m=1:=∅
   subst this;have dn:JZ lt p (1+1):=jS O (bf _) (λi j o v=>∅) (O.as _ _ l);show qT O (bf _) ∅ z dn r h
theorem tW(O:rC lt)(p:Array Nat)(k:Nat):∀f l r,l<=r->r<=k->r-l<=f->Up lt p k->(∀i,i<l->lt (p.getD k 0) (p.getD i 0)=ag)->(∀i,r<=i->i<k->lt (p.getD i 0) (p.getD k 0)=ag) ->
  told lt (ib p k f l r)<=k/\(∀i,i<told lt (ib p k f l r)->lt (p.getD k 0) (p.getD i 0)=ag) /\∀i,told lt (ib p k f l r)<=i->i<k->lt (p.getD i 0) (p.getD k 0)=ag
 |0,l,r,hlr,hr,hf,_,h1,h2=>by
  have:l=r:=∅
  subst this;show⟨hr,h1,h2⟩
 |f+1,l,r,hlr,hr,hf,hu,h1,h2=>by
  unfold ib;by_cases a:l >= r
  .rw [Z_ a];have:l=r:=∅
   subst this;show⟨hr,h1,h2⟩
  .rw [Zz a];show told lt (if lt (p.getD k 0) (p.getD ((l+r)/2) 0)=af then ib p k f l ((l+r)/2) else ib p k f ((l+r)/2+1) r)<=k/\(∀i,i<told lt (if lt (p.getD k 0) (p.getD ((l+r)/2) 0)=af then ib p k f l ((l+r)/2) else ib p k f ((l+r)/2+1) r)->lt (p.getD k 0) (p.getD i 0)=ag) /\∀i,told lt (if lt (p.getD k 0) (p.getD ((l+r)/2) 0)=af then ib p k f l ((l+r)/2) else ib p k f ((l+r)/2+1) r)<=i->i<k->lt (p.getD i 0) (p.getD k 0)=ag
   cases hc:lt (p.getD k 0) (p.getD ((l+r)/2) 0) with
   |true =>
    rw[Z_ rfl];show tW O p k f l ((l+r)/2) ∅ ∅ ∅ hu h1 λi j d=>?_;by_cases h:i=(l+r)/2
    .subst h;show O.as _ _ hc
    .exact O.tr _ _ _ (O.as _ _ hc) (hu _ i ∅ d)
   |false =>
    rw[Zz bg];show tW O p k f ((l+r)/2+1) r ∅ hr ∅ hu (λi j=>?_) h2;by_cases h:i=(l+r)/2
    .subst h;show hc
    .exact O.tr _ _ _ (hu i ((l+r)/2) ∅ ∅) hc
def GL{p:Array Nat}{k l:Nat}(d:k<p.size)(h:l<=k)(i:Nat):(bubble p k (k-l)).getD i 0=if i=l then p.getD k 0 else if l<i/\i<=k then p.getD (i-1) 0 else p.getD i 0:=by
 rw[gO,getElem?_bubble d _ ∅,show k-(k-l)=l by lia];by_cases a:i=l
 .rw [Z_ a,Z_ a,gO]
 .rw [Zz a,Zz a];by_cases h2:l<i/\i<=k
  .rw [Z_ h2,Z_ h2,gO]
  .rw [Zz h2,Zz h2,gO]
theorem OA(O:rC lt):∀f (p:Array Nat) k,k+f<=p.size->Up lt p k->(told lt (u_ f p k)).Perm p/\Up lt (told lt (u_ f p k)) (k+f)
 |0,p,k,_,h=>⟨qp _,h⟩
 |f+1,p,k,hs,h=>by
  unfold u_;rw[g7];obtain⟨a,b,c⟩:=tW O p k k 0 k ∅ (bf _) ∅ h (λi y=>∅) (λi y x=>∅);generalize told lt (ib p k k 0 k)=l at a b c;have v:k<p.size:=∅
  have h2:Up lt (bubble p k (k-l)) (k+1):=λi j q z=>by
   rw[GL v a,GL v a];by_cases d:j=l
   .rw [Z_ d,Zz ∅,Zz ∅];show b i ∅
   .rw [Zz d];by_cases m:l<j/\j<=k
    .rw [Z_ m];by_cases n:i=l
     .rw [Z_ n];show c (j-1) ∅ ∅
     .rw [Zz n];by_cases o:l<i/\i<=k
      .rw [Z_ o];show h _ _ ∅ ∅
      .rw [Zz o];show h _ _ ∅ ∅
    .rw [Zz m,Zz ∅,Zz ∅];show h _ _ q ∅
  obtain⟨e,g⟩:=OA O f (bubble p k (k-l)) (k+1) (by rw[bubble_size];lia) h2;show⟨e.trans (Wn _ _ _),by rw[show k+(f+1)=k+1+f by lia];show g⟩
def SX(O:rC lt){n:Nat}(j:1<=n):(told lt (q_ n)).Perm (wb (ck n))/\Up lt (told lt (q_ n)) n:=by
 unfold q_;rw[g7];obtain⟨a,b,c,d⟩:=N9 O (n:=n) (p:=wb (ck n)) j (by simp) _ rfl;generalize told lt (uz n (wb (ck n)))=r at a b c d;have l:r.2.size=n:=by rw[wD a];simp
 by_cases h:r.1<n
 .rw [Z_ h,show max r.1 1=r.1 by lia];obtain⟨e,g⟩:=OA O (n-r.1) r.2 r.1 ∅ d;show⟨e.trans a,by rw[show r.1+(n-r.1)=n by lia] at g;show g⟩
 .rw [Zz h];have:r.1=n:=∅
  show⟨a,by rw[<- this];show d⟩
end
open X0
section
variable{Ω:bb}{w:az}{A:bo}{s:ak}{Q:Bool->ak->Prop}
theorem ZE:∀(d:Q0f) (vs:Q0f) (m bs:Q0e) (i:Nat) (fin:Bool),(fin=Zv (⇑d<⇑vs))->gd d m->gd vs bs->Q (gE m bs) s->KatLex Ω w A af fin Q (d.zip vs) i s:=by
 intro d
 induction d with
 |nil =>
  intro vs m bs i fin j l h q;cases l
  cases h with
  |nil=>subst j;show q
  |cons b t' h=>subst j;simpa[KatLex,gE] using q
 |cons u d ih =>
  intro vs m bs i fin j l h q
  cases l with
  |cons a t l =>
   cases h with
   |nil=>subst j;simpa[KatLex,gE] using q
   |cons b t' h =>
    rename_i m vs bs;show kat_cons (Sb (kat_go (λe=>?_) (λe=>?_)))
    .have e:a=b:=by simpa using e
     show kat_yes (ih _ _ _ (i+1) fin (by rw[j];simp) l h ?_);simpa[gE,e] using q
    .have e:a≠b:=by simpa using e
     have q:Q (Zv (a<b)) s:=by simpa[gE,e] using q
     show kat_no ?_
     cases hc:(af&&i == 0) with
     |true=>show oneLt_int q
     |false=>show kat_one _ _ (lt_int q)
end
noncomputable def GN(n:Nat){α:Type}:mx α->(α->Prop)->Prop
 |.ret a,Q=>Q a
 |.ask i j k,Q=>i<n/\j<n /\∀b,GN n (k b) Q
theorem jT{n:Nat}{α d:Type}{f:α->mx d}{Q:d->Prop}:∀(t:mx α),GN n t (λa=>GN n (f a) Q)->GN n (t.bind f) Q
 |.ret a,h=>h
 |.ask i j k,h=>⟨h.1,h.2.1,λb=>jT (k b) (h.2.2 b)⟩
def Rg(n:Nat)(p:Array Nat):Prop:=p.Perm (wb (ck n))
theorem Rg.lt(h:Rg n p)(a:1<=n)(k:Nat):p.getD k 0<n:=by
 rw[gO]
 cases q:p[k]? with
 |none=>show a
 |some x =>
  have:x∈p:=Array.mem_of_getElem? q;have:=h.mem_iff.mp this;simpa using this
section
variable{n:Nat}
theorem yQ(a:1<=n)(h:Rg n p)(q:∀m,Q m):∀f m,GN n (gy p f m) Q
 |0,m=>q m
 |f+1,m=>⟨h.lt a _,h.lt a _,λb=>by
  cases b with
  |true=>show q m
  |false=>show yQ a h q f (m+1)⟩
theorem oY(a:1<=n)(q:∀r,Rg n r.1->Q r):∀f p m k,Rg n p->GN n (mw f p m k) Q
 |0,p,m,k,h=>q _ h
 |f+1,p,m,k,h=>⟨h.lt a _,h.lt a _,λb=>by
  cases b with
  |true =>
   show GN n (if k>0 then _ else _) Q;by_cases j:k>0
   .rw [Z_ j];show oY a q f _ _ _ ((eZ _ _ _).trans h)
   .rw [Zz j];show oY a q f _ _ _ h
  |false=>show⟨h.lt a _,h.lt a _,λd=>by
    cases d with
    |true=>show q _ h
    |false=>show oY a q f _ _ _ h⟩⟩
def A4(d:1<=n){Q:Nat×Array Nat->Prop}(q:∀r,Rg n r.2->Q r){m k:Nat}{p:Array Nat}(h:Rg n p):GN n (Ad m k p) Q :=
 jT _ (yQ d ((eZ _ _ _).trans h) (λa=>q (a,gq p 0 m) ((eZ _ _ _).trans h)) _ _)
def oZ(a:1<=n){Q:Nat×Array Nat->Prop}(q:∀r,Rg n r.2->Q r){m k:Nat}{p:Array Nat}(h:Rg n p):GN n (uy m k p) Q :=
 jT _ (oY a (λr d=>by
  by_cases j:r.2.2>0
  .rw [Z_ j];show A4 a q ((eZ _ _ _).trans d)
  .rw [Zz j];show A4 a q d) _ _ _ _ h)
def JG(a:1<=n){Q:Nat×Array Nat->Prop}(q:∀r,Rg n r.2->Q r){k:Nat}{p:Array Nat}(h:Rg n p):GN n (uz k p) Q :=
 jT _ (yQ a h (λm=>by
  by_cases e:(m == k)=af
  .rw [Z_ e];show q _ h
  .rw [Zz e];by_cases d:m>1
   .rw [Z_ d];show⟨h.lt a _,h.lt a _,λc=>by
     cases c with
     |true=>show q _ h
     |false=>show oZ a q ((eZ _ _ _).trans h)⟩
   .rw [Zz d];show oZ a q h) _ _)
theorem p6(a:1<=n)(h:Rg n p)(q:∀m,Q m)(k:Nat):∀f l r,GN n (ib p k f l r) Q
 |0,l,r=>q l
 |f+1,l,r=>by
  unfold ib;by_cases e:l >= r
  .rw [Z_ e];show q l
  .rw [Zz e];show⟨h.lt a _,h.lt a _,λc=>by
    cases c with
    |true=>show p6 a h q k f _ _
    |false=>show p6 a h q k f _ _⟩
theorem GO(a:1<=n){Q:Array Nat->Prop}(q:∀p,Q p):∀f p k,Rg n p->GN n (u_ f p k) Q
 |0,p,k,h=>q p
 |f+1,p,k,h=>jT _ (p6 a h (λl=>GO a q f _ _ ((Wn _ _ _).trans h)) k _ _ _)
def OB(a:1<=n){Q:Array Nat->Prop}(q:∀p,Q p):GN n (q_ n) Q :=
 jT _ (JG a (λr d=>by
  by_cases e:r.1<n
  .rw [Z_ e];show GO a q _ _ _ d
  .rw [Zz e];show q _) (qp _))
variable{X:Cx}
def jU(a:Q0a)(i:Nat):List Int:=(a[i]?).getD []
theorem GP(h:∀i j (C:Bool->ak->Prop),i<n->j<n->C (lt i j) s->Ae Ω w A κ vs i j C s){α:Type}:∀(t:mx α) (Q:α->ak->Prop),GN n t (λ_=>True)->Q (told lt t) s->t.kasWp (Ae Ω w A κ vs) Q s
 |.ret a,Q,_,q=>q
 |.ask i j k,Q,sf,q=>h i j _ sf.1 sf.2.1 (GP h (k (lt i j)) Q (sf.2.2 _) q)
def D0(K:aq):List V->Hp->VK->Prop:=λxs H Q=>∃(a:ah) (ps:List ah) (d:Q0a),xs=[.ref a]/\H a=aa (.lst (ps.map V.ref))/\⇑ps=⇑d/\2<=⇑d/\⇑d<64 /\
 (∀(j:Nat) (p:ah) (t:Q0e),ps[j]?=aa p->d[j]?=aa t->eR K H p (t.map V.int)/\t≠[]) /\
 ∀h:List Nat,h.Perm (ck ⇑d)->(∀i j:Nat,i<j->j<⇑d->gE (jU d (h.getD j 0)) (jU d (h.getD i 0))=ag) ->∀q,H q=ae->Q (.ref q) (upd H q (.lst (h.map λi=>V.ref (ps.getD i 0))))
theorem wF:∀{ps:List ah} {a:Q0f},θ (ps.map V.ref) a->a=ps.map dg
 |[],_,.nil=>rfl
 |p::ps,_,.cons r t=>by rw[wF t];rw[show _=dg p from r];rfl
theorem bZ.live(x:L2.bZ P w H h a o):∃u,h.get? a=aa u:=by
 cases o with
 |lst xs=>obtain⟨_,_,_,_,e⟩:=x;show⟨_,e⟩
 |tup xs=>obtain⟨_,_,_,⟨_,e,_⟩,_⟩:=x;show⟨_,e⟩
 |dK χ=>obtain⟨_,_,_,_,o,_,_,e,_⟩:=x;show⟨_,e⟩
 |dT χ=>obtain⟨_,_,_,_,o,_,_,e,_⟩:=x;show⟨_,e⟩
 |dX ob χ=>obtain⟨_,_,e,_⟩:=x;show⟨_,e⟩
 |set S n=>obtain⟨o,_,_,_,e,_⟩:=x;show⟨_,e⟩
 |ins C dx fs=>obtain⟨_,_,_,e,_⟩:=x;show⟨_,e⟩
 |own y=>obtain⟨_,e⟩:=x;show⟨_,e⟩
 |xd fs=>obtain⟨_,⟨_,_,_,e,_⟩,_⟩:=x;show⟨_,e⟩
 |rng lo hi=>obtain⟨_,_,_,e⟩:=x;show⟨_,e⟩
 |sR ob u=>obtain⟨e,_⟩:=x;show⟨_,e⟩
 |FI q=>obtain⟨_,e,_⟩:=x;show⟨_,e⟩
 |met f y=>show⟨_,(show h.get? a=aa _ from x)⟩
 |ext φ=>obtain⟨_,⟨_,e⟩,_⟩:=x;show⟨_,e⟩
def yR:eB X (.builtin "sorted") (D0 X.K):=by
 intro π s σ H xs A Q I r h;obtain⟨a,ps,F,rfl,ha,hl,h2,gn,ht,q⟩:=h;obtain⟨u,rfl,ru⟩:=vals1 r;cases ru;obtain⟨ι,rv,pl,hz⟩:=I.list (eJ.of ha);have Dx:=wF rv;subst Dx;obtain⟨m,hns,_⟩:=id I.loc;have hL:=I.lt;have hn:⇑(ps.map dg)=⇑F:=by rw[bp];show hl
 have tup:∀(j:Nat),j<⇑F ->∃(p:ah) (A:Q0f),ps[j]?=aa p/\gc s.heap p A.toArray/\gd A (jU F j)/\jU F j≠[]/\(ps.map dg).getD j rj=.ref p:=λj Z=>by
  obtain⟨q1,q2⟩:=ht j ps[j] F[j] (by simp[hl,Z]) (by simp[Z]);obtain⟨A,ru,pt,_⟩:=I.tuple q1;show⟨ps[j],A,by simp[hl,Z],pt,?_,?_,by simp[hl,Z]⟩
  .unfold jU;rw[cm Z];show intsAre_of ru
  .unfold jU;rw[cm Z];show q2
 show kat_sorted (h₀:=sY s.heap) (L:=X.env.locals) (m:=m) (news:=ledger s.heap X.env.locals ↥s) (vs:=ps.map dg) (MS hns) (λp hp=>?_) pl.isList ∅ ∅ λD e1 h' F' N' hD=>?_
 .obtain ⟨x,o⟩:=p;obtain⟨n1,_,e⟩:=fP.mp hp;show⟨e,n1,nG _ _⟩
 have J:∀b o,b≠X.env.locals->s.heap.get? b=aa o->h'.get? b=aa o:=λb o U e =>
  (N' (b,o) (cq _ (fP.mpr ⟨U,de (bj e),e⟩))).1
 have yS:∀{p:ah} {A:Array aj},gc s.heap p A->p≠X.env.locals:=λ{p A} ⟨o,e,c,n,d⟩ z=>by subst z;obtain⟨o2,es,ep,e2,d2,_⟩:=hns;rw[e] at e2;cases e2;rw[d] at d2;cases d2
 -- the kind: tuples that begin with ints
 have kt:∀(Y:List ah) (fs:Q0f),⇑Y=⇑fs->(∀(j:Nat) (p:ah) (f:aj),Y[j]?=aa p->fs[j]?=aa f ->∃A:Array aj,gc h' p A/\A[0]?=aa f)->KatTups h' (Y.map dg) fs:=by
  intro Y
  induction Y with
  |nil=>intro fs hf _;cases fs;show trivial;simp at hf
  |cons p Y ih =>
   intro fs hf h
   cases fs with
   |nil=>simp at hf
   |cons f fs =>
    obtain⟨A,⟨o,e,c,n,d⟩,u0⟩:=h 0 p f rfl rfl;show KatTups.cons e c d u0 (ih fs ↑hf λj p' f' h1 h2=>h (j+1) p' f' ↑h1 ↑h2)
 have heads:∃fs:Q0f,⇑fs=⇑ps/\(∀v∈fs,∃i t,v=ie i t) /\∀(j:Nat) (p:ah) (f:aj),ps[j]?=aa p->fs[j]?=aa f ->∃A:Array aj,gc h' p A/\A[0]?=aa f:=by
  have:∀k,k<=⇑ps ->∃fs:Q0f,⇑fs=k/\(∀v∈fs,∃i t,v=ie i t) /\∀(j:Nat) (p:ah) (f:aj),ps[j]?=aa p->fs[j]?=aa f ->∃A:Array aj,gc h' p A/\A[0]?=aa f:=by
   intro k
   induction k with
   |zero=>intro _;show⟨[],rfl,λv hv=>(nomatch hv),λj p f _ e=>by simp at e⟩
   |succ k ih =>
    intro hk;obtain⟨fs,f1,f2,f3⟩:=ih ∅;obtain⟨p,A,hp,pt,hi,ne,_⟩:=tup k ∅;obtain⟨i,t,us',rfl⟩:∃i t us',A=ie i t::us':=by
     generalize jU F k=w at hi ne
     cases hi with
     |nil=>show Zw rfl ne
     |cons n t r=>show⟨n,t,_,rfl⟩
    show⟨fs++[ie i t],by simp[f1],λv hv=>?_,λj p' f' h1 h2=>?_⟩
    .rcases dq.mp hv with h|h
     .exact f2 v h
     .exact ⟨i,t,bx.mp h⟩
    .by_cases Z:j<k
     .rw [jq ∅] at h2;show f3 j p' f' h1 h2
     .have:j=k:=by have:=(c_.mp h2).1;simp[f1] at this;lia
      subst this;rw[jo ∅,f1,Bj] at h2;rw[hp] at h1;cases h1;have h2:ie i t=f':=by simpa using h2
      subst h2;obtain⟨o,e,c⟩:=id pt;show⟨_,⟨o,J p o (yS pt) e,c⟩,by simp⟩
  show this ⇑ps (bf _)
 obtain⟨fs,f1,f2,f3⟩:=heads;show kat_kind (T:=.type "int") (kt ps fs f1.symm f3) ∅ (λv hv=>?_) ⋯ ?_
 .obtain ⟨i,t,rfl⟩:=f2 v hv;show Looks.of_pure rfl
 have O:rC λi j=>gE (jU F i) (jU F j):=⟨λx y a=>B7 _ _ a,λx y z a b=>B8 _ _ _ a b⟩;rw[hn];show GP (n:=⇑F) (lt:=λi j=>gE (jU F i) (jU F j)) (λi j C hi Z hC=>?_) _ _ (OB ∅ λ_=>trivial) ?_
 .obtain ⟨p,A,hp,pt,hi',_,ep⟩:=tup i hi;obtain⟨p2,us2,hp2,pt2,hi2,_,ep2⟩:=tup j Z;unfold Ae;rw[ep,ep2,show(my "int" !=my "tuple")=af from by decide];obtain⟨o,e,c,n,d⟩:=id pt;obtain⟨o2,e2,c2,n2,d2⟩:=id pt2;show kat_lt (s:={s with heap:=h' }) (J p o (yS pt) e) d (J p2 o2 (yS pt2) e2) d2 (ZE A us2 _ _ 0 _ rfl hi' hi2 hC)
 obtain⟨sp,su⟩:=SX O (n:=⇑F) ∅;generalize told (λi j=>gE (jU F i) (jU F j)) (q_ ⇑F)=pp at sp su;show KasFin.intro F' N' (UpdF.head λp hp z=>gf _ (z▸hD p hp)) λh'' c F'' N''=>?_;have nD:D≠X.env.locals:=(N' _ (b_ ..)).2.1;have dead:s.heap.get? D=ae:=by
  cases e:s.heap.get? D with
  |none=>rfl
  |some o=>show Zw (hD (D,o) (fP.mpr ⟨nD,de (bj e),e⟩)) (gf _)
 have pA:∀b o,b≠X.env.locals->s.heap.get? b=aa o->h''.get? b=aa o:=λb o U e =>
  (N'' (b,o) (cq _ (fP.mpr ⟨U,de (bj e),e⟩))).1
 have Dh:=(N'' (D,_) (b_ ..)).1;have hfr:H D=ae:=by
  cases e:H D with
  |none=>rfl
  |some u =>
   obtain⟨o,eo⟩:=bZ.live (I.hok D u e);rw[dead] at eo;cases eo
 have neD:∀{b:ah} {o:ay},s.heap.get? b=aa o->b≠D:=λ{b o} e z=>by rw[z,dead] at e;cases e
 have JH:∀{b:ah} {u:HO},H b=aa u->b≠D:=λ{b u} e z=>by rw[z,hfr] at e;cases e
 have hlp:pp.toList.Perm (ck ⇑F):=by simpa using sp.toList
 show⟨.ref D,upd H D (.lst (pp.toList.map λi=>V.ref (ps.getD i 0))),?_,rfl,q pp.toList hlp (λi j hij Z=>?_) D hfr⟩
 .show L2.Φ X π σ _ {s with heap:=h'' };show I.step (s:=s) (h':=h'') (g':=s.gens) (t':=s.toks) (d':=s.drawn) (ch:=[]) (λb U=>nomatch U) (λb o U _ _ e _=>pA b o U e) (λb o U _ _ e _=>⟨o.slots,pA b o U e⟩) (λb o _ e n=>by rw[aL (neD e)];show n) (λb o _ e=>?_)
   (λb xs e=>by rw[aL (JH e)];show e) (λb o u e=>by rw[aL (JH e)];show e) (λb ps e=>by rw[aL (JH e),e]) (λm2 hm2=>?_) ?_ I.bare
  .by_cases U:b=X.env.locals
   .subst U;obtain⟨o2,_,_,e2,_⟩:=F''.ns;show⟨o2,e2⟩
   .exact ⟨o,pA b o U e⟩
  .have:m2=m:=by
    obtain⟨oa,ea,pa,h1,h2,_,h3⟩:=hm2;obtain⟨ob,eb,pb,k1,k2,_,k3⟩:=hns;rw[h1] at k1;cases k1;rw[h2] at k2;cases k2
    funext x
    rw[<- h3,<- k3]
   subst this;show F''.ns
  .intro b u e;by_cases U:b=D
   .subst U;rw[aN] at e;cases e;show⟨?_,pp.toList.map λi=>dg (ps.getD i 0),c,?_,Dh.trans ?_⟩
    .rw [bp,hlp.length_eq,qf,df];lia
    .have:∀l:List Nat,θ (l.map λi=>V.ref (ps.getD i 0)) (l.map λi=>dg (ps.getD i 0)):=λl=>by
      induction l with
      |nil=>show .nil
      |cons a l ih=>show .cons rfl ih
     show this _
    .have:(pp.toList.map λi=>(ps.map dg).getD i rj)=pp.toList.map λi=>dg (ps.getD i 0):=nq λi hi=>by
      have:i<⇑F:=by simpa using hlp.mem_iff.mp hi
      simp[hl,this]
     rw[this]
   .rw [aL U] at e;show(I.hok b u e).stay (λc v hc ev=>pA c v (λz=>?_) ev) (λc ec=>by rw[aL (JH ec)];show ec) (λc ys ec=>by rw[aL (JH ec)];show ec) λc o u ec=>by rw[aL (JH ec)];show ec
    subst z;rcases hc with hc|hc
    .rw [<- hc,I.free] at e;cases e
    .rw [I.free] at hc;cases hc
 .have:=su i j hij Z;rw[gO,gO] at this;simpa using this
theorem OC(ho:s.heap.get? a=aa (seqObj "list" #[v] n))
  (h:P (.done (.ret .none)) {s with heap:=sortedHeap s.heap a [v] #[v]}):av (aw Ω w) A (Builtin.«list.sort» ⟨[.ref a],[]⟩) P E s:=by
 rw[list_sort_plain];have l:=bj ho;show ao (listItems_at ho rfl (ao (vz ho rfl ?_)));have j:=Wj ho (λ_=>(#[]:Array aj));show ao (Wg j rfl (ao (Rz (ao (zh (gp ?_))))));have d:(((s.heap.update a (ke λ_=>(#[]:Array aj))).push (seqObj "tuple" #[v] 0)).push (seqObj "list" #[] 0)).get? a=_:=bu _ (bu _ j);show av (aw Ω w) A _ P E {s with heap:=((s.heap.update a (ke λ_=>(#[]:Array aj))).push (seqObj "tuple" #[v] 0)).push (seqObj "list" #[] 0)};dsimp only;rw[Z_ (show(#[v]:Array aj).size<2 from Bk 1),Z_ (show(#[v]:Array aj).size<2 from Bk 1)];show ao (ax ?_);rw[StateT.run_pure];show ao (ax (ao (Wg d rfl (ao (vz d rfl ?_ (hsz2:=?_))))))
 .erw[bne_self_eq_false,mh,if_false];have e:(arrOf (SortSt.mk' general' ((#[v]:Array aj).zip #[v]) #[] 7 ae)).map (·.2)=#[v]:=by show((#[v]:Array aj).zip #[v]).map (·.2)=#[v];simp
  rw[e];show ax h
 .show (((#[v]:Array aj).zip #[v]).map (·.2)).size<=bc+1;simp
def EA:List V->Hp->VK->Prop:=λxs H Q=>∃(a:ah) (x:V),xs=[.ref a]/\H a=aa (.lst [x]) /\∀q,H q=ae->Q (.ref q) (upd H q (.lst [x]))
def yT:eB X (.builtin "sorted") EA:=by
 intro π s σ H xs L Q I r h;obtain⟨a,x,rfl,A,q⟩:=h;obtain⟨u,rfl,y⟩:=vals1 r;cases y;obtain⟨K,p,z,O⟩:=I.list (eJ.of A);obtain⟨v,rfl,l⟩:=vals1 p;show Vq Wi Wh Wl (Ws (.ref a)) (show av _ _ (Builtin.«sorted» _) _ _ _ from ?_);unfold Builtin.«sorted»;show ao (m:=checkCount "sorted" 1 1 _) (ax (ao (collect_list z.isList (ao (zh ?_)))));have hsz:((s.heap.push (seqObj "list" #[] 0)).update ↥s (ke (· ++ [v].toArray))).objs.size=↥s+1:=by rw[Heap.size_update,size_push']
 have d:(((s.heap.push (seqObj "list" #[] 0)).update ↥s (ke (· ++ [v].toArray))).push (seqObj "list" [v].toArray 0)).get? (↥s+1)=aa (seqObj "list" #[v] 0):=by rw[<- hsz];show cz _ rfl
 show av _ _ _ _ _ {s with heap:=((s.heap.push (seqObj "list" #[] 0)).update ↥s (ke (· ++ [v].toArray))).push (seqObj "list" [v].toArray 0)};rw[hsz];show ao (gp (gu We ⟨_,d,rfl⟩ Wm (OC d ⟨_,rfl,?_⟩) (Wt _)));show ax ⟨.ref (↥s+1),rfl,?_⟩;obtain⟨F,j⟩:=Wd s.heap [v] #[v];have J:L2.Φ X π σ (upd H (↥s+1) (.lst [x])) {s with heap:=sortedAll s.heap [v] #[v]} :=
  I.laid (t':=s.toks) (λb o e=>Wc e) (l_ _) ⟨by rw[df];simp,[v],F,.cons l .nil,by simpa[seqObj] using j⟩
 show⟨.ref _,_,J,rfl,q _ (I.hok.fresh (l_ _))⟩
theorem yU:eB X (.builtin "sorted") (λxs H Q=>GD xs H Q\/EA xs H Q\/D0 X.K xs H Q):=by
 intro π s σ H xs a Q I r h;rcases h with h|h|h
 .exact oR π s σ H xs a Q I r h
 .exact yT π s σ H xs a Q I r h
 .exact yR π s σ H xs a Q I r h
def OD:F1
 |[.lst ds],Q=>∃a,mR ds=aa a/\⇑a<64/\(∀t∈a,t≠[])/\Q (.lst ((qI a).map nV))
 |_,_=>False
def OE(h:UI d=aa t):d=nV t:=by
 cases d<;>first|cases h;done|skip
 rename_i ds;unfold nV;rw[<- ints_of h]
theorem wH:∀{ds:List D} {a:Q0a},mR ds=aa a->ds=a.map nV
 |[],a,h=>by cases h;rfl
 |d::ds,a,h=>by unfold mR at h;obtain⟨t,l,h⟩:=bnd h;obtain⟨m,j,rfl⟩:=tM h;rw[bt,OE l,wH j]
def ZF{K:aq}{S:ah->Prop}{H:Hp}{t:Q0e}{v:V}(h:Dn K S H (nV t) v):∃p,v=.ref p/\H p=aa (.tup (t.map V.int)):=by unfold nV at h;symm at h;obtain⟨a,xs,rfl,d,j⟩:=h;rw[aM.ints.mp j] at d;show⟨a,rfl,d⟩
theorem A5{K:aq}{S:ah->Prop}{H:Hp}:∀{a:Q0a} {ys:List V},aM K S H (a.map nV) ys ->∃ps:List ah,ys=ps.map V.ref/\⇑ps=⇑a /\∀(j:Nat) (p:ah) (t:Q0e),ps[j]?=aa p->a[j]?=aa t->H p=aa (.tup (t.map V.int))
 |[],ys,h=>by erw[ja,aM] at h;show⟨[],h,rfl,λj p t e=>by simp at e⟩
 |t::a,ys,h=>by
  obtain⟨v,r,rfl,y,h2⟩:=aM.bH h;obtain⟨p,rfl,m⟩:=ZF y;obtain⟨ps,rfl,o,x⟩:=A5 h2;show⟨p::ps,rfl,by simp[o],λj q u l d=>?_⟩
  cases j with
  |zero=>cases l;cases d;show m
  |succ j=>show x j q u ↑l ↑d
def OG(a:Q0a):(ck ⇑a).map (jU a)=a:=by
 show wt λi=>?_;rw[d_];by_cases h:i<⇑a
 .rw [wm h];simp[jU,h]
 .rw [kl ↑h,kl ↑h];rfl
theorem OH{K:aq}:C3F K (λxs H Q=>GD xs H Q\/EA xs H Q\/D0 K xs H Q) OD:=by
 intro S H xs ds Q3 Q fc hd d k
 match ds,d with
 |[.lst es],d =>
  obtain⟨v,r,rfl,Z,h2⟩:=hd.bH;erw[aM] at h2;subst h2;symm at Z;obtain⟨a,ys,rfl,Y,sa,da⟩:=Z;obtain⟨J,e,F,h,q⟩:=d;rw[wH e] at da;obtain⟨ps,rfl,m,y⟩:=A5 da;have one:∀(p:ah) (t:Q0e) (H':Hp) (S':ah->Prop),ξ H H'->H p=aa (.tup (t.map V.int))->Dn K S' H' (nV t) (.ref p):=λp t H' S' L o=>by unfold nV;symm;show⟨p,_,rfl,L _ _ o,aM.ints.mpr rfl⟩
  match J,m,y,F,h,q with
  |[],m,y,F,h,q =>
   have:ps=[]:=ki.mp m;subst this;show .inl ⟨a,[],rfl,Y,⋯,λO o _ p d=>?_⟩;have:O=[]:=List.perm_nil.mp o;subst this;show k p [] _ [] d aN (aI d) (by erw[aM]) q
  |[t],m,y,F,h,q =>
   obtain⟨p,rfl⟩:∃p,ps=[p]:=by
    match ps,m with
    |[p],_=>show⟨p,rfl⟩
   show .inr (.inl ⟨a,.ref p,rfl,Y,λl d=>k l [.ref p] _ [nV t] d aN (aI d) (aM.one (one p t _ _ (aI d) (y 0 p t rfl rfl))) q⟩)
  |t1::t2::J,m,y,F,h,q =>
   generalize hT:t1::t2::J=T at *;show .inr (.inr ⟨a,ps,T,rfl,Y,m,by rw[<- hT];simp,F,λj p t e1 e2=>⟨eR.of (y j p t e1 e2),h t (jz e2)⟩,λI o hu l d=>?_⟩);have hlen:⇑I=⇑T:=by rw[o.length_eq,qf]
   have es:qI T=I.map (jU T):=by
    show EZ ((j5 T).trans ?_) (zG T) ?_
    .have:=(o.map (jU T)).symm;rw[OG] at this;show this
    .rw [Z9,Xk,sh];intro i j A hj U;have:=hu i j U ∅;simpa[A,hj] using this
   have dn:∀(H':Hp),ξ H H' ->∀z:List Nat,(∀i∈z,i<⇑T)->aM K (λx=>S x/\x≠l) H' (z.map λi=>nV (jU T i)) (z.map λi=>V.ref (ps.getD i 0)):=by
    intro H' L z
    induction z with
    |nil=>intro _;show aM.nil
    |cons i z ih =>
     intro YW;have A:=YW i b_;show aM.cons (one _ _ _ _ L ?_) (ih λx hx=>YW x (cq _ hx));show y i _ _ (by simp[m,A]) (by simp[jU,A])
   show k l _ _ (I.map λi=>nV (jU T i)) d aN (aI d) (dn _ (aI d) I λi A=>by simpa using o.mem_iff.mp A) ?_;rw[es,ij] at q;show q
def A6:p5 OD mT:=λds d Q e q=>by
 unfold mT at e;split at e
 .rename_i a;obtain⟨j,m,e⟩:=bnd e;by_cases h:⇑j<64/\j.all (λt=>!t.isEmpty)=af
  .rw [Z_ h] at e;cases e;show⟨j,m,h.1,λt l z=>?_,q⟩;have:=ko.mp h.2 t l;rw[z] at this;cases this
  .rw [Zz h] at e;cases e
 .cases e
def OJ(a:X.mg "sorted"=ae)(j:pZ X [e] t)(d:Gl X "sorted"<|>0)(h:Zr X e []<|>0):lI X (.Call (.Name "sorted" p) [e] [] ν) (bL mT t):=cF (GA yU OH A_ d a j ⋯ ⋯ h (by rfl)) (yL A6)
end
open PySem.SeqAt
end L4
namespace L5
open PySem.Spec PyProof.Rows L2 L3 L4
theorem p7(x:bZ P w H h a o):∃u,h.get? a=aa u:=by
 cases o with
 |lst xs=>obtain⟨_,_,_,_,e⟩:=x;show⟨_,e⟩
 |tup xs=>obtain⟨_,_,_,⟨u,e,_⟩,_⟩:=x;show⟨_,e⟩
 |dK χ=>obtain⟨_,_,_,_,o,_,_,e,_⟩:=x;show⟨_,e⟩
 |dT χ=>obtain⟨_,_,_,_,o,_,_,e,_⟩:=x;show⟨_,e⟩
 |dX ob χ=>obtain⟨_,_,e,_⟩:=x;show⟨_,e⟩
 |set S n=>obtain⟨o,_,_,_,e,_⟩:=x;show⟨_,e⟩
 |ins C dx fs=>obtain⟨_,_,_,e,_⟩:=x;show⟨_,e⟩
 |own y=>obtain⟨_,e⟩:=x;show⟨_,e⟩
 |xd fs=>obtain⟨_,⟨_,_,_,e,_⟩,_⟩:=x;show⟨_,e⟩
 |rng lo hi=>obtain⟨_,_,_,e⟩:=x;show⟨_,e⟩
 |sR ob u=>obtain⟨e,_⟩:=x;show⟨_,e⟩
 |FI q=>obtain⟨_,e,_⟩:=x;show⟨_,e⟩
 |met f y=>show⟨_,(show h.get? a=aa _ from x)⟩
 |ext φ=>obtain⟨_,⟨_,e⟩,_⟩:=x;show⟨_,e⟩
variable{X:Cx}
section
variable{π:Q0b}{σ:L2.St}{H:Hp}{s:ak}{h':a_}{e:ah}{cls a0:aj}{P:List ah}
def flown(I:Φ X π σ H s)(T:nH X π H s e cls a0 P)(J:∀b o,b∉P->b∉frs X.stack->s.heap.get? b=aa o->h'.get? b=aa o)(F:s.heap.UpToSlots h'):Φ X π σ H {s with heap:=h' }:=by
 have frame:∀b∈frs X.stack,∃o,s.heap.get? b=aa o /\∀vs,o.data≠.fields vs:=λb h=>(I.stack.mem h).2;have old:∀b o,X.s₀.heap.get? b=aa o->b∉P:=λb o q h=>by rw[T.new b h] at q;cases q
 have yS:∀b o,X.s₀.heap.get? b=aa o->b≠X.env.locals:=λb o q=>de (e_ (bj q) I.ok.above);have cellK:∀c v,s.heap.IsCell c v->h'.IsCell c v:=λc v Nb=>by
  obtain⟨o,ho,hd⟩:=Nb;obtain⟨O,q⟩:=F c o ho λvs z=>by rw[hd] at z;cases z
  show⟨_,q,hd⟩
 obtain⟨m,hn,hl⟩:=id I.loc;show⟨I.ok,I.os,I.bare,⟨λb o a n h A=>?_,λb o a n h A=>?_,I.ω.free,λb o a A=>?_,I.ω.tups,I.ω.qX,I.ω.pP⟩,⟨m,F.ns hn,λi x v h1 h2 h3=>?_⟩,λx c Y=>?_,I.free,I.fG,λp hp=>?_,λb ob a=>?_,I.len⟩
 .exact J b o (old b o a) (λz=>(bh.mp (I.nC b z)).elim (yS b o a) h) (I.ω.keep b o a n h A)
 .obtain ⟨O,q⟩:=I.ω.slot b o a n h A;obtain⟨_,o2,K,y⟩:=I.ok.nB.mem h;rw[a] at K;obtain rfl:=fu K;obtain⟨L,q2⟩:=F b {o with slots:=O} q y;show⟨L,q2⟩
 .obtain ⟨Z,q⟩:=I.ω.there b o a A;by_cases hf:b∈frs X.stack
  .obtain ⟨o2,K,y⟩:=frame b hf;obtain⟨O,q2⟩:=F b o2 K y;show⟨_,q2⟩
  .exact ⟨Z,J b Z (old b o a) hf q⟩
 .obtain ⟨u,r,l⟩:=hl i x v h1 h2 h3;show⟨u,r,l.imp id λ⟨k,c,Y,U⟩=>⟨k,c,Y,cellK _ _ U⟩⟩
 .obtain ⟨v,U⟩:=I.cell x c Y;show⟨v,cellK _ _ U⟩
 .obtain ⟨q,n,ne,y,d⟩:=I.pin p hp;show⟨J _ _ (λz=>T.pin _ z p hp rfl) (λz=>(bh.mp (I.nC _ z)).elim ne y) q,n,ne,y,d⟩
 .refine (I.hok b ob a).stay (λc u j q=>J c u (λz=>?_) (λz=>?_) q) (λ_ q=>q) λ_ _ q=>q
  .have fr:=T.free c z;rcases j with rfl|j
   .rw [fr] at a;cases a
   .rw [fr] at j;cases j
  .have fr:=I.xP c z;rcases j with rfl|j
   .rw [fr] at a;cases a
   .rw [fr] at j;cases j
end
def BV(P:bb)(w:az):C6:=λouter H s E e s'=>∃(a T:ah) (cls l:aj) (H':Hp) (d j:ay) (vs h:Array aj),e=.ref a/\s'.os=s.os/\jw s'.gens/\Un (frs outer) [] H H' s.heap s'.heap/\nA P w H' s'.heap /\
 H' a=ae/\H' T=ae/\s.heap.get? a=ae/\s.heap.get? T=ae/\T≠a/\s'.heap.get? a=aa d/\(d.cls=cls/\vs[0]?=aa l)/\d.data=.fields vs/\vs[1]?=aa (.ref T)/\s'.heap.get? T=aa j/\j.data=.fields h/\h[3]?=aa .none/\E cls ae H'
section
variable{P:bb}{w:az}{K:aq}{mg:Q0d}{ω:a_}{N:Q0g}{qual:ai}{scope:fq}{f:ah}{cd:aj}{A:bo}{outer:List cx}{s0:ak}{H0:Hp}{E:XK}
theorem OK(I:Φ (kO (BV P w) P w K mg ω N qual scope f cd A outer s0 H0 E) π σ H s)
  (T:nH (kO (BV P w) P w K mg ω N qual scope f cd A outer s0 H0 E) π H s e cls a0 Q) (hE:E cls ae H):(kO (BV P w) P w K mg ω N qual scope f cd A outer s0 H0 E).xe (.ref e) s:=by
 generalize j:kO (BV P w) P w K mg ω N qual scope f cd A outer s0 H0 E=X at I T;have st:X.stack=X.env::outer:=by rw[<- j];rfl
 have hin:∀env∈X.stack,∀b,env.frame=aa b->b∈Q++frs X.stack:=λenv n b hb=>gg _ (nk.mpr ⟨env,n,hb⟩);have stay:(hideAll s.heap (Q++frs X.stack)).StaysIn s.heap:=λb o q=>z_ _ q;have fns:s.heap.FunFrames (hideAll s.heap (Q++frs X.stack)) X.stack:=Tv I.stack hin;have m:(hideAll s.heap (Q++frs X.stack)).get? e=ae:=rb _ (dj _ T.mem);have fin:∀h',Heap.LeftW (hideAll s.heap (Q++frs X.stack)) X.stack e cls a0 s.heap h'->BV P w outer H0 s0 E (.ref e) {s with heap:=h' }:=λh' Na=>by
  obtain⟨k1,k2,k3,k4⟩:=Na;have J:=flown I T (λb o n1 n2 q=>k1 b o (rf _ q λz=>(dq.mp z).elim n1 n2)) k4;obtain⟨O,vs,a,Y,F,n,v,p,x,hnT,Z,U,h,h3⟩:=k3;have d:a∉frs X.stack:=λz=>by obtain⟨_,o,ho,nf⟩:=I.stack.mem z;obtain⟨sl,q⟩:=k4 a o ho nf;rw[U] at q;cases q;show nf F h
  have qu:a∈Q\/s.heap.get? a=ae:=by
   by_cases hq:a∈Q
   .exact .inl hq
   .right
    cases q:s.heap.get? a with
    |none=>rfl
    |some o =>
     have:=rf (Q++frs X.stack) q λz=>(dq.mp z).elim hq d;rw[hnT] at this;cases this
  have e1:X.fs=frs outer:=by rw[<- j];rfl
  have e2:X.ex=[]:=by rw[<- j];rfl
  have e3:X.H₀=H0:=by rw[<- j];rfl
  have y:X.s₀=s0:=by rw[<- j];rfl
  have e5:X.Ω=P:=by rw[<- j];rfl
  have e6:X.w=w:=by rw[<- j];rfl
  have b0:=J.ω;have b1:=J.hok;have b2:=J.os;rw[e1,e2,e3,y] at b0;rw[e5,e6] at b1;rw[y] at b2;show⟨e,a,cls,a0,H,O,Y,vs,F,rfl,b2,J.bare,b0,b1,T.free e T.mem,?_,?_,?_,Z,n,v,p,x,U,h,h3,hE⟩
  .rcases qu with z|z
   .exact T.free _ z
   .cases q:H a with
    |none=>rfl
    |some o =>
     obtain⟨u,eu⟩:=p7 (I.hok _ _ q);rw[z] at eu;cases eu
  .rw [<- y];show T.new e T.mem
  .rcases qu with z|z
   .rw [<- y];show T.new _ z
   .cases q:s0.heap.get? a with
    |none=>rfl
    |some o =>
     have tb:=I.ω.there a o (by rw[y];show q) (by rw[e2];simp);obtain⟨o',eo⟩:=tb;rw[z] at eo;cases eo
 have go:av (aw P w) X.A (leaving X.env (.ref e)) (λ_ l=>BV P w outer H0 s0 E (.ref e) l) (λe' l=>BV P w outer H0 s0 E e' l) s:=by
  have d:=I.ok.frames;have hf:X.env.frame=aa X.env.locals:=by rw[<- j];rfl
  rw[st] at d;rw[st] at fns fin m stay;rcases T.tr with⟨O,vs,n,v,p,x,h0⟩|⟨O,vs,a,Y,F,n,v,p,x,hm,Z,U,h,h3⟩
  .subst v;show wpAny_leaving_firstW d fns hf n stay m p x h0 λh' L=>fin h' L
  .refine wpAny_leaving_nextW d fns hf ⟨O,vs,a,Y,F,n,v,p,x,rb _ (dj _ hm),Z,U,h,h3⟩ stay m λh' L=>fin h' L
 rw[<- j] at go ⊢;show go
end
theorem A7(Y:X.ex=[])(I:Φ X π σ H s)(c:BV X.Ω X.w X.stack H s E e s'):
  ∃d cls l H' Q,e=.ref d/\Φ X π σ H' s'/\nH X π H' s' d cls l Q/\E cls ae H':=by
 obtain⟨d,T,cls,l,H',n,v,vs,m,rfl,K,bare,un,j,O,L,g1,g2,U,x,hc,y,h1,A,h,h3,hE⟩:=c;have J:Φ X π σ H' s':=I.call' (ch:=[]) K un j bare λb z=>Zw z (by simp);have no:∀q,q∈[d,T]->s.heap.get? q=ae:=λq a=>by
  rcases bh.1 a with rfl|a
  .exact g1
  .rw [bx.mp a];show g2
 show⟨d,cls,l,H',[d,T],rfl,J,⟨b_,λq a=>?_,λq a=>?_,λq a=>?_,λq a p Z z=>?_,.inr ⟨n,vs,T,v,m,x,hc,y,h1,by simp,U,A,h,h3⟩⟩,hE⟩
 .rcases bh.1 a with rfl|a
  .exact O
  .rw [bx.mp a];show L
 .cases k:X.s₀.heap.get? q with
  |none=>rfl
  |some o =>
   obtain⟨o',F⟩:=I.ω.there q o k (by rw[Y];simp);rw[no q a] at F;cases F
 .rcases bh.1 a with rfl|a
  .exact ⟨n,vs,x,y⟩
  .rw [bx.mp a];show⟨v,m,A,h⟩
 .have:=(I.pin p Z).1;rw[z,no q a] at this;cases this
def sp5(K:aq)(mg:Q0d)(R:kR):Sp:=λvs H Q E=>∃(S:ah->Prop) (ds:List D),(∀a,H a=ae->S a)/\aM K S H ds vs/\match R ds with
 |.ok d=>∀v H',ξ H H'->Dn K S H' d v->Q v H'
 |.ex c=>∃C:ah,mg c=aa (.ref C) /\∀H',ξ H H'->E (.ref C) ae H'
 |.no=>False
theorem Dw{P:bb}{w:az}{K:aq}{mg:Q0d}{ω:a_}{x qual:ai}{st:bq}{f:ah}{fd:ft}{N ps:Q0g}{k n y:Nat}{b:SF}(F:U8 K x qual st f fd)(S:eD N ps (aO st))(hn:⇑N=n)(J:⇑ps=y)
  (l:∀(j:aj) (A:bo) (outer:List cx) (s:ak) (H:Hp) (E:XK),eQ k (A.deeper (envOfC qual (aO st) ↥s f j)) ->
   iI (kO (BV P w) P w K mg ω N qual (aO st) f j A outer s H E) (dN st) b):kN P w K mg ω (BV P w) (k+1) f fd ps (sp5 K mg (bX n y b)):=by
 subst hn J;obtain⟨oc,od,kV,doc,pm,an,j,ct,X,rfl,Y,p⟩:=F.ex;have hlen:∀ds:List D,bX ⇑N ⇑ps b ds≠.no->⇑ds=⇑ps:=λds h=>by
  by_cases e:⇑ds=⇑ps
  .exact e
  .exact Zw (show bX ⇑N ⇑ps b ds=.no by unfold bX;rw[Zz e]) h
 show U3 Y p S (λvs H Q E h=>?_) λA outer s H vs Q E Z h=>?_
 .obtain ⟨S',ds,_,dn,a⟩:=h;rw[<- dn.len];show hlen ds λz=>by rw[z] at a;show a
 .obtain ⟨S',ds,fc,dn,a⟩:=h;have hl:⇑ds=⇑ps:=hlen ds λz=>by rw[z] at a;show a
  have hdn:=dn.len;show⟨_,l j A outer s H E Z,H,S',λ_=>0,jD N ds,[],{nx:=λ_=>bX ⇑N ⇑ps b ds=.ok .non,rt:=λd=>bX ⇑N ⇑ps b ds=.ok d,ex:=λc=>bX ⇑N ⇑ps b ds=.ex c},?_,AK fc dn,?_,⟨λw' L H' O _ o q=>?_,λv H' d s' d' q=>?_,λ_ _ _ _ _ _ q=>q,λ_ _ _ _ _ _ q=>q,λc H' U q=>?_⟩⟩
  .have J:⇑ps<=⇑N:=by have:=congrArg qg S.pre;rw[kh] at this;lia
   unfold L2.start;show _=⇑N;rw[cu,bp,jb];lia
  .have e2:jD N ds=bN ⇑N ds:=rfl;have m:bX ⇑N ⇑ps b ds=(match b (bN ⇑N ds) with | .rt d=>.ok d | .nx _=>.ok .non | .ex c=>.ex c | .no=>.no):=by unfold bX;rw[Z_ hl]<;>cases b (bN ⇑N ds)<;>rfl
   rw[m] at a;unfold wS;rw[e2]
   cases hb:b (bN ⇑N ds) with
   |rt d'=>rw[hb] at m;show m
   |nx ρ=>rw[hb] at m;show m
   |ex c=>rw[hb] at m;show m
   |no=>rw[hb] at a;show a
  .rw [q] at a;show a .non H' o.sm (by symm)
  .rw [q] at a;show a v H' s' d'
  .rw [q] at a;obtain⟨C,hm,hE⟩:=a;show⟨C,hm,λπ σ s' e a0 P I T=>OK I T (hE H' U)⟩
theorem fd5{P:bb}{w:az}{K:aq}{mg:Q0d}{ω:a_}{x:ai}{st:bq}{N ps:Q0g}{k n d:Nat}{b:SF}(D:Df K mg x st ps)
  (h:∀{f:ah} {a:aj} {A:bo} {outer:List cx} {s:ak} {H:Hp} {E:XK},eQ k (A.deeper (envOfC x (aO st) ↥s f a))->N.Nodup->iI (kO (BV P w) P w K mg ω N x (aO st) f a A outer s H E) (dN st) b)
  (S:eD N ps (aO st)<|>8) (o:⇑N=n<|>0) (l:⇑ps=d<|>0):Cl P w K mg ω (BV P w) (k+1) x ps (sp5 K mg (bX n d b)):=by
 obtain⟨_,F,m,q⟩:=D;show⟨Dw F S o l λ_ _ _ _ _ _ j=>h j S.nd,m,F.kp,q⟩
section
variable{k:Nat}{f:ah}{fd:ft}{ps:Q0g}{R:kR}{x:ai}{p ν:ba}{e:au}{es:List au}{t:AF}
theorem A8(C:Cl X.Ω X.w X.K X.mg X.ω (BV X.Ω X.w) k x ps (sp5 X.K X.mg R))(I:eQ k X.A)
  (Z:pZ X (e::es) t) (O:Gl X x<|>0) (m:Zu x<|>1) (U:Zr X e es<|>0) (l:Q0l X ν es<|>0):
  aW X (.Call (.Name x p) (e::es) [] ν) (aJ R t):=by
 obtain⟨F,J,L,Y⟩:=C;show imp (xT (E:=E0) F I O J L Y .nil (λπ σ H s e s' _ c=>by obtain⟨_,_,_,_,_,_,_,_,_,_,_,_,_,_,_,_,_,_,_,_,_,_,_,_,_,_,hE⟩:=c;show hE.elim) Z m U l) λσ H Q M_=>?_;obtain⟨S,ρ,Q3,o,q,⟨d,a,y⟩,k⟩:=M_;obtain⟨ds,et,a⟩:=bnd a;show⟨S,ρ,λz=>z=ds,o,q,⟨ds,et,rfl⟩,λvs H1 j n d1 q1=>?_⟩;subst q1;show sp5 X.K X.mg R (vs++[]) H1 Q E0;rw[il];show⟨S,j,aR o n,d1,?_⟩
 cases h:R j with
 |ok d'=>rw[h] at a;cases a;show λv H' s' d'=>k v H' _ (n.trans s') d' y
 |no=>rw[h] at a;cases a
 |ex c=>rw[h] at a;cases a
def tR(X:Cx)(r:RF):TE:=λσ H _=>∃(S:ah->Prop) (ρ:cD) (c:ai),(∀a,H a=ae->S a)/\Sl X.K S H ρ σ/\r ρ=aa c /\∀H',ξ H H'->XC X c H'
def PR(X:Cx)(e:au)(r:RF):Prop:=PE X e (tR X r)
theorem tX(U:X.ex=[])(C:Cl X.Ω X.w X.K X.mg X.ω (BV X.Ω X.w) k x ps (sp5 X.K X.mg R))(Y:eQ k X.A)
  (ha:pZ X (e::es) t) (hg:Gl X x<|>0) (v:Zu x<|>1) (he:Zr X e es<|>0) (o:Q0l X ν es<|>0):
  PR X (.Call (.Name x p) (e::es) [] ν) (eU R t):=by
 obtain⟨F,Z,hk,hb⟩:=C;show imp (xT (E:=λcls _ H'=>∃c C,cls=.ref C/\X.mg c=aa (.ref C)/\XC X c H') F Y hg Z hk hb .nil (λπ σ H s e s' I c=>by obtain⟨ea,cls,a0,H',Q,rfl,J,T,c,C,rfl,q,C2,l,xc⟩:=A7 U I c;rw[q] at l;cases l;show xc π σ s' ea a0 Q J T) ha v he o) λσ H Q hV=>?_
 obtain⟨S,ρ,c,y,O,ec,k⟩:=hV;obtain⟨ds,et,a⟩:=bnd ec;show⟨S,ρ,λz=>z=ds,y,O,⟨ds,et,rfl⟩,λvs H1 m n d1 q1=>?_⟩;subst q1;rw[il];show⟨S,m,aR y n,d1,?_⟩
 cases h:R m with
 |ex c' =>
  rw[h] at a;cases a;obtain⟨C,j,_⟩:=k H1 n;show⟨C,j,λH' L=>⟨c,C,rfl,j,k H' (n.trans L)⟩⟩
 |ok d=>rw[h] at a;cases a
 |no=>rw[h] at a;cases a
def EB{e:au}{t u:TE}(a:PE X e t)(h2:PE X e u):PE X e (λσ H Q=>t σ H Q\/u σ H Q):=λπ s σ H Q I h=>h.elim (a π s σ H Q I) (h2 π s σ H Q I)
theorem VO{e:au}{f:EF}{r:RF}{ν:ba}(h:aW X e f)(m:PR X e r):rL X (.Return (aa e) ν) (iS r (bJ f)):=lG (MA (EB m h)) λB σ H n=>by
 obtain⟨H₀,S,w,ρ,G,E,o,st,a,ok⟩:=n;unfold wS iS at a
 cases hc:r (aV ρ) with
 |some c =>
  rw[hc] at a;show .inl ⟨S,aV ρ,c,st.F0,st.all,hc,λH' j=>ok.ex c H' (st.sm.trans j) a⟩
 |none =>
  rw[hc] at a;dsimp only at a;unfold bJ at a
  cases hf:f (aV ρ) with
  |none=>rw[hf] at a;show a.elim
  |some d =>
   rw[hf] at a;show .inr ⟨S,aV ρ,_,st.F0,st.all,⟨d,hf,a⟩,λv H' d s' d' l=>ok.rt v H' d (st.sm.trans s') d' l⟩
theorem My{i:Nat}{x:ai}{e:au}{f:EF}{r:RF}{ν pos':ba}(hN:X.N.Nodup)(h:aW X e f)(z:PR X e r)(m:X.N[i]?=aa x<|>0)(q:Loc X.env.scope x<|>2)(y:Rv X e x pos' ν<|>0)(j:Zq X x<|>2):
  rL X (.Assign [.Name x pos'] e ν) (iS r (aY i f)):=lG (pQ hN m q (EB z h) y j) λB σ H A=>by
 obtain⟨H₀,S,w,ρ,G,E,l,st,a,ok⟩:=A;unfold wS iS at a
 cases hc:r (aV ρ) with
 |some c =>
  rw[hc] at a;show .inl ⟨S,aV ρ,c,st.F0,st.all,hc,λH' n=>ok.ex c H' (st.sm.trans n) a⟩
 |none =>
  rw[hc] at a;dsimp only at a;unfold aY at a
  cases j:f (fB ρ) with
  |none=>rw[j] at a;show a.elim
  |some d =>
   rw[j] at a;show .inr ⟨_,fB ρ,_,st.RU,st.rd,⟨d,j,a⟩,λv H' d s' d' o=>ok.nx w _ H' _ (by rw[ik];show l) ((st.same s').lE (by rw[l];show jR m) d') o⟩
theorem OL{e:au}{f:EF}{r:RF}{ν:ba}(h:aW X e f)(n:PR X e r)(m:fg e ae ν.line X.env=pure ag<|>0):rL X (.Expr e ν) (iS r (sX (aU f))):=lG (FP (EB n h) m) λB σ H q=>by
 obtain⟨H₀,S,w,ρ,G,E,o,st,a,ok⟩:=q;unfold wS iS at a
 cases hc:r (aV ρ) with
 |some c =>
  rw[hc] at a;show .inl ⟨S,aV ρ,c,st.F0,st.all,hc,λH' j=>ok.ex c H' (st.sm.trans j) a⟩
 |none =>
  rw[hc] at a;dsimp only at a;unfold sX aU at a
  cases hf:f (fB ρ) with
  |none=>rw[hf] at a;show a.elim
  |some d =>
   rw[hf] at a;show .inr ⟨_,fB ρ,_,st.RU,st.rd,⟨d,hf,a⟩,λv H' d s' d' l=>ok.nx w σ H' ρ o (st.same s') l⟩
end
abbrev bmV:List aj:=[.type "ValueError",.type "Exception",.type "BaseException",.type "object"]
structure OM (K:aq) (C:ah):Prop where
 ex:∃nm q N bs bm hdct sn sub ab col dd k0 k1 k2 k3 k5,K.lookup C=aa (excClassObj nm q C N bs bm hdct sn sub ab col dd k0 k1 k2 k3 k5 "ValueError.__new__")/\PySem.W.tailIn K bmV bm=af/\PySem.W.nsOkIn K N=af/\Aa K N "__init__"=aa ae
theorem EC(hx:X.ex=[])(h:X.calm=af)(L:X.mg c=aa (.ref C))(hC:OM X.K C)(ha:pZ X (e::es) t)(hg:Gl X c<|>0)(hd:Zu c<|>1)
  (O:Zr X e es<|>0) (y:Q0l X cpos es<|>0):
  rL X (.Raise (aa (.Call (.Name c np) (e::es) [] cpos)) ae ν) (iU t c):=by
 intro π s σ H B I ⟨H₀,S,w,ρ,G,E,hl,st,a,ok⟩;unfold wS iU at a
 cases et:t (aV ρ) with
 |none=>rw[et] at a;show a.elim
 |some ds =>
  rw[et] at a;dsimp only at a;by_cases x:⇑ds<=10
  .rw [Z_ x] at a;obtain⟨nm,q,N,bs,bm,hdct,sn,sub,ab,col,dd,k0,k1,k2,k3,k5,lk,A,no,ni⟩:=hC.ex;show wpAny_Raise_call_subT (C:=C) (nm:=nm) (q:=q) (N:=N) (bs:=bs) (bm:=bm) (hdct:=hdct) (sn:=sn) (sub:=sub) (ab:=ab) (col:=col) (dd:=dd) (k0:=k0) (k1:=k1) (k2:=k2) (k3:=k3) (k5:=k5) (mN:=X.ω.nsMap N)
    PySem.F.excBase_ValueError ((Tr I.rF A).hasType rfl) (I.ok.hd h) (by rw[O];show(ag||(bz cpos (ar es X.env)).any (·.1))=ag;rw[y];rfl) (PySem.W.nsMap_none_of_in I.ok.mod.kin no ni) (rG I hg L ⟨rfl,?_⟩ hd)
   have hN:X.ω.Ns N (X.ω.nsMap N):=.of_isNs (PySem.W.isNs_of_in I.ok.mod.kin no);have args:=ha cpos π s σ H (λvs l=>⇑vs=⇑ds/\ξ H l) I ⟨S,aV ρ,λz=>z=ds,st.F0,st.all,⟨ds,et,rfl⟩,λvs l ds' v d1 q1=>⟨by rw[<- d1.len,q1],v⟩⟩;rw[O] at args ⊢;show Ar (ir args (λZ v ⟨vs,l,j,r,hlen,sm⟩=>?_) λ_ _ z=>z);show⟨rfl,?_,j.rF _ _ lk,hN.keeps j.bk,Tr j.rF A,λh' n mk=>?_⟩
   .show ⇑Z<=bc;rw[<- ⇑r,hlen];show cy x ⋯
   .obtain ⟨C',m,xc⟩:=ok.ex c l (st.sm.trans sm) a;rw[L] at m;cases m;obtain⟨tt,J,_,_⟩:=mk.there;have I2:Φ X π σ l {v with heap:=h' }:=j.kept (t':=v.toks) mk.keeps;show xc π σ _ n (.ref tt) [n] I2 ⟨b_,λq d=>?_,λq d=>?_,λq d=>?_,λq d p hp z=>?_,.inl ⟨_,_,J,rfl,rfl,rfl,rfl⟩⟩
    .rw [bx.1 d]
     cases k:l n with
     |none=>rfl
     |some o =>
      obtain⟨u,U⟩:=p7 (j.hok _ _ k);rw[mk.new] at U;cases U
    .rw [bx.1 d]
     cases k:X.s₀.heap.get? n with
     |none=>rfl
     |some o =>
      obtain⟨o',Y⟩:=j.ω.there n o k (by rw[hx];simp);rw[mk.new] at Y;cases Y
    .rw [bx.1 d];show⟨_,_,J,rfl⟩
    .have:=(j.pin p hp).1;rw[z,bx.mp d,mk.new] at this;cases this
  .rw [Zz x] at a;show a.elim
open PySem.W Builtin.ObjectAttr Builtin.Getset_descriptor
structure tY (K:aq) (C:ah):Prop where
 hc:isClsIn K C=af
 hm:mroIn K C (.type "object")=aa af
 hs:subIn K (.ref C) (.type "BaseException")=aa af
 hga:findIn K (.ref C) "__getattribute__"=aa (aa (.builtin "BaseException.__getattribute__"))
 hgg:findIn K (.ref C) "__getattr__"=aa ae
 ha:findIn K (.ref C) "__class__"=aa (aa (.builtin "object.__class__"))
 hn:specialIn K (.builtin "object.__class__") "__get__"=aa (aa (.builtin "getset_descriptor.__get__"))
 ht:takesIn K (.builtin "object.__class__")=aa af
def Is(a C:ah)(h:a_):Prop:=∃o,h.get? a=aa o/\o.cls=.ref C
section
variable{Ω:bb}{w:az}{A:bo}{E:Q0c}{s:ak}{K:aq}{a C:ah}
def mB{M:pd}{h:a_}(i:Is a C h):rh M h (typeOf (.ref a)) (.ref C):=by obtain⟨o,d,h2⟩:=i;show h2▸Looks.andThen (Looks.ld d) .now
theorem SY{d:aj}{R:vi->ak->Prop}(X:K.In s.heap)(i:Is a C s.heap)(q:tY K C)(h:R (.ok (.ret (.ref C))) s):
  ia (aw Ω w) A (.call (.builtin "getset_descriptor.__get__") ⟨[.builtin "object.__class__",.ref a,d],[]⟩) R s:=by
 obtain⟨l,g0,m,n,j⟩:=s;have p:=mB (M:=aw Ω w) i;have o:=looks_mroIn (M:=aw Ω w) X q.hm;show uw T_.plain KF.entry_gs ?_;show T_.check _ _ _ _ _ _ _ _ KF.type_class (KF.args_gs _ _ _) ?_;unfold Builtin.«getset_descriptor.__get__» descrGet;rw[dga_obj];show ao (ax ?_);unfold descrGetter descrCheckInstance descrNameAndClass isInstance;erw[KF.owner_class]
 repeat lk
 show tj (Vp _ (by decide+kernel)) (jv KF.entry_class ?_);unfold Builtin.«object.__class__» shownTypeOf;repeat lk
 show h
def ON{j:f_}{Q:PySem.Fin->ak->Prop}(X:K.In s.heap)(i:Is a C s.heap)(q:tY K C)(m:Q (.done (.ret (.ref C))) s):av (aw Ω w) A (Builtin.«object.__getattribute__» ⟨[.ref a,.str "__class__" j],[]⟩) Q E s:=by
 obtain⟨h,g,d,t,l⟩:=s;have p:=mB (M:=aw Ω w) i;have o:rh (aw Ω w) h (a04 (.ref a) (.ref C) "__class__") (.bind (.builtin "getset_descriptor.__get__") (.builtin "object.__class__")) :=
  have n:rh (aw Ω w) h (a05 (aa (.builtin "object.__class__")) (aa (.builtin "getset_descriptor.__get__"))) (aa (.builtin "getset_descriptor.__get__",.builtin "object.__class__")):=(looks_takesIn X q.ht).andThen Looks.now
  (Ab X q.ha).andThen ((looks_specialIn X q.hn).andThen (n.andThen (Looks.tag .now)))
 unfold PySem.Builtin.«object.__getattribute__»;show ao (ax (ao (ax (ao (p.at (ao (o.at ?_)))))));show av _ _ (holding [.builtin "object.__class__"] (call (.builtin "getset_descriptor.__get__") [.builtin "object.__class__",.ref a,.ref C]) >>= ret) _ _ _;show ao (gp (uu (SY (s:=⟨h,g,d,t,l⟩) X i q (ax m))))
def JI{M:pd}{h:aj}{Q:Unit->ak->Prop}(X:K.In s.heap)(i:Is a C s.heap)(q:tY K C)(j:Q () s):av M A (checkBuiltinCall "BaseException.__getattribute__" ⟨[.ref a,h],[]⟩) Q E s:=by
 obtain⟨l,g,d,t,m⟩:=s;have L:rh M l (isInstance (.ref a) (.type "BaseException")) af:=(mB (M:=M) i).andThen (looks_subIn X q.hs);have k1:builtinKind "BaseException.__getattribute__"=aa .slot:=by decide+kernel
 have k2:splitId "BaseException.__getattribute__"=aa ("BaseException","__getattribute__"):=by decide+kernel
 erw[checkBuiltinCall,k1,k2];show ao (L.at ?_);rw[Zz ⋯];show zg (F.args_bexc_ga (.ref a) h) j
def ZG{l:f_}{Q:Q0c}(X:K.In s.heap)(i:Is a C s.heap)(q:tY K C)(m:Q (.ref C) s):av (aw Ω w) A (getAttrBy (.ref a) (.str "__class__" l) ag) Q E s:=by
 obtain⟨j,g,d,t,h⟩:=s;have p:=mB (M:=aw Ω w) i;have o:=Ab (M:=aw Ω w) X q.hga;have n:=Ab (M:=aw Ω w) X q.hgg;unfold getAttrBy;show gp (ao (p.at ?_));show ao (o.at ?_);dsimp only;have ne:(Ud "BaseException.__getattribute__" == Ud "object.__getattribute__")=ag:=by decide+kernel
 rw[ne,Bool.and_false,Zz bg];unfold getAttrByItsOwn hookBefore;rw[Z_ (show onTheHeap (dg C)=af from rfl)];show ao (n.at (ao (oq (gp ?_))));unfold callGetattribute;rw[Zz (by simp)];unfold boundAndCalled;show ao (zg (Vf.ga.bind (.ref a)) ?_);show uu (uw Vf.ga.plain F.entry_bexc_ga (JI (s:=⟨j,g,d,t,h⟩) X i q (ON (s:=⟨j,g,d,t,h⟩) X i q ?_)));show handed_on rfl m
def OO(X:K.In s.heap)(i:Is a C s.heap)(q:tY K C)(j:Q (aa (.ref C)) {s with toks:=s.toks+1}):av (aw Ω w) A (getAttr? (.ref a) "__class__") Q E s:=by obtain⟨l,g,d,t,h⟩:=s;unfold getAttr? getAttrBy?;show ao (wpAny_mkText (ao (oq ?_)));show ZG (s:=⟨l,g,d,t+1,h⟩) X i q (ax j)
theorem OP(q:tY K C):KitX K (.ref a) (.ref C) (Is a C) where
 ty:=λ_ _ _ i=>mB i
 it:=λ_ _ X _=>by
  have d:(clsIn K C).isSome=af:=q.hc;unfold clsIn at d;split at d
  .rename_i lk;intro x Q' v s' k h;unfold isType loadHead;show ao (wpAny_loadPart (k _ _ (X _ _ lk)) (ax h))
  .cases d
 ne:=λh l p n o m X j=>by
  have d:(clsIn K C).isSome=af:=q.hc;show Bool.eq_false_iff.mpr λz=>?_;obtain rfl:C=l:=Zd (beq_iff_eq.mp z);unfold clsIn at d;split at d
  .rename_i lk;cases (X _ _ lk).symm.trans j
  .cases d
 ca:=λX i k=>OO X i q k
variable{X:Cx}
def p8(X:Cx)(e C:ah):Prop:=∃d:ay,(e,d)∈X.pn/\d.cls=.ref C
def p8.is(h:p8 X e C)(I:Φ X π σ H s):Is e C s.heap:=by obtain⟨d,j,l⟩:=h;show⟨d,(I.pin _ (dj _ j)).1,l⟩
theorem A9(p:p8 X e C)(q:tY X.K C)(o:∀d,Ψ v d->d=u)(x:ox X.K (.ref C) u=aa b):
  eB X (.builtin "isinstance") (λxs H Q=>xs=[.ref e,v]/\Q (.bl b) H):=by
 intro π s σ H xs y Q I r h;obtain⟨rfl,h⟩:=h;obtain⟨u1,j,rfl,n,m⟩:=vals2 r;cases n;obtain rfl:=o j m;show gx (OP q) I.rF (p.is I) x (λz=>nomatch z) λl=>⟨.bl b,H,I.tok l,rfl,h⟩
theorem S3{i:Nat}{n x c:ai}{e C D:ah}{b:Bool}{p p1 h ν:ba}(Y:p8 X e C)(q:tY X.K C)(Z:X.mg "isinstance"=ae)(hD:X.mg x=aa (.ref D))(hb:ox X.K (.ref C) (.ref D)=aa b)
  (hN:X.N[i]?=aa n<|>0) (U:vH X.env.scope n<|>3) (hd:Zu n<|>1) (y:Zt n<|>1)
  (hg:Gl X "isinstance"<|>0) (m:Gl X x<|>0) (o:Zu x<|>1)
  (F:(ar [.Name n p1,.Name x h] X.env=(ag,eval (.Name n p1) X.env)::ar [.Name x h] X.env)<|>0) (j:(ar [.Name x h] X.env=(ag,eval (.Name x h) X.env)::ar [] X.env)<|>0) (l:(bz ν (ar [.Name x h] X.env)).any (·.1)=ag<|>0):
  aW X (.Call (.Name "isinstance" p) [.Name n p1,.Name x h] [] ν) (CA c e b i) :=
 imp (jP (A9 (v:=.ref D) Y q (λu' r=>by cases r;rfl) hb) hg Z Bb (cJ (x4 i hN U hd y) (cJ (FL (v:=.ref D) m hD rfl o) iF j) F) ⋯ ⋯ F l) λσ H Q N_=>by obtain⟨S,ρ,Q3,fc,J,⟨d,ed,O⟩,k⟩:=N_;obtain⟨ev,rfl⟩:=E2 ed;show⟨S,ρ,λz=>z=.exc c e,fc,J,⟨_,ev,rfl⟩,λv H1 d L I q1=>?_⟩;subst q1;symm at I;subst I;show⟨rfl,k _ H1 _ L (by symm) O⟩
theorem OQ(Z:p8 X e C)(q:tY X.K C)(hm:X.mg "isinstance"=ae)(hD:X.mg x=ae)(F:bootBuiltins x=aa (.type T))(hb:ox X.K (.ref C) (.type T)=aa b)
  (hN:X.N[i]?=aa n<|>0) (Y:vH X.env.scope n<|>3) (hd:Zu n<|>1) (y:Zt n<|>1)
  (hg:Gl X "isinstance"<|>0) (m:Gl X x<|>0) (l:x ≠ "__name__"<|>1) (o:Zu x<|>1)
  (I:(ar [.Name n p1,.Name x p2] X.env=(ag,eval (.Name n p1) X.env)::ar [.Name x p2] X.env)<|>0) (h:(ar [.Name x p2] X.env=(ag,eval (.Name x p2) X.env)::ar [] X.env)<|>0) (j:(bz ν (ar [.Name x p2] X.env)).any (·.1)=ag<|>0):
  aW X (.Call (.Name "isinstance" p) [.Name n p1,.Name x p2] [] ν) (CA c e b i) :=
 imp (jP (A9 (v:=.ty T) Z q (λu' r=>r) hb) hg hm Bb (cJ (x4 i hN Y hd y) (cJ (FN (v:=.ty T) m hD F rfl l o) iF h) I) ⋯ ⋯ I j) λσ H Q Nz=>by obtain⟨S,ρ,Q3,fc,L,⟨d,ed,U⟩,k⟩:=Nz;obtain⟨ev,rfl⟩:=E2 ed;show⟨S,ρ,λz=>z=.exc c e,fc,L,⟨_,ev,rfl⟩,λv H1 d O J q1=>?_⟩;subst q1;symm at J;subst J;show⟨rfl,k _ H1 _ O (by symm) U⟩
end
def hcx(X:Cx)(a:Option aj)(pn:Q0b):Cx:={X with A:=X.A.mark a,calm:=ag,pn:=pn,xe:=λ_ _=>False}
section
variable{π:Q0b}{σ:L2.St}{H:Hp}{s:ak}
def yV{n i:Nat}{v:V}(h:(bw n (ae:Option V))[i]?=aa (aa v)):False:=by rw[jc] at h;split at h<;>cases h
theorem xy{j:Option aj}{pn:Q0b}(I:Φ X π σ H s)(a:∀p∈pn,s.heap.get? p.1=aa p.2/\H p.1=ae/\p.1≠X.env.locals/\p.1∉X.fs /\∀v,p.2.data≠.cell v):
  Φ (hcx X j pn) [] (bw ⇑X.N ae) H s:=by
 obtain⟨m,d,_⟩:=id I.loc;show⟨⟨I.ok.mod,I.ok.kind,I.ok.glob,I.ok.blt,I.ok.above,I.ok.inj,I.ok.has,I.ok.cab,λz=>(nomatch z),?_,I.ok.stk,I.ok.exf,I.ok.bs,I.ok.PN,I.ok.CW,I.ok.HQ,I.ok.nB,I.ok.UX,I.ok.tab⟩,I.os,I.bare,I.ω,⟨m,d,λi x v _ h2 _=>(yV h2).elim⟩,I.cell,I.free,I.fG,λp h=>?_,I.hok,by show⇑(bw ⇑X.N ae)=⇑X.N;rw[jb]⟩
 .exact I.ok.frames
 .have h:p∈pn++[]:=h;rw[il] at h;show a p h
def Ny{X:Cx}{π l pn:Q0b}{j:Option aj}{a:L2.St}{H:Hp}{s:ak}(ok:X.Ok)(I:Φ (hcx X j pn) l a H s)(sub:∀p∈X.pn++π,p∈pn):Φ X π (bw ⇑X.N ae) H s:=by obtain⟨m,d,_⟩:=id I.loc;show⟨ok,I.os,I.bare,I.ω,⟨m,d,λi x v _ h2 _=>(yV h2).elim⟩,I.cell,I.free,I.fG,λp h=>I.pin p (dj _ (sub p h)),I.hok,by rw[jb]⟩
def Nv{h':a_}{y:Q0d}{t:Nat}(I:Φ X π σ H s)(U:h'.Ns X.env.locals y)(a:jl X.env.locals s.heap h'):Φ X π (bw ⇑X.N ae) H {s with heap:=h',toks:=t}:=by
 have l:∀b o,X.s₀.heap.get? b=aa o->b≠X.env.locals:=λb o q=>de (e_ (bj q) I.ok.above);show⟨I.ok,I.os,I.bare,⟨λb o e n m h=>(a.2 b (l b o e)).trans (I.ω.keep b o e n m h),λb o e n m h=>?_,I.ω.free,λb o e h=>?_,I.ω.tups,I.ω.qX,I.ω.pP⟩,⟨y,U,λi x v _ h2 _=>(yV h2).elim⟩,λx c e=>?_,I.free,I.fG,λp O=>?_,λb F e=>?_,by rw[jb]⟩
 .obtain ⟨A,q⟩:=I.ω.slot b o e n m h;show⟨A,(a.2 b (l b o e)).trans q⟩
 .obtain ⟨J,q⟩:=I.ω.there b o e h;show⟨J,(a.2 b (l b o e)).trans q⟩
 .obtain ⟨v,L⟩:=I.cell x c e;show⟨v,L.sameBut a (I.UY x c e)⟩
 .obtain ⟨q,n,ne,K,d⟩:=I.pin p O;show⟨(a.2 _ ne).trans q,n,ne,K,d⟩
 .refine (I.hok b F e).stay (λc u j q=>(a.2 c λz=>?_).trans q) (λ_ q=>q) λ_ _ q=>q;rcases j with rfl|j
  .rw [z,I.free] at e;cases e
  .rw [z,I.free] at j;cases j
theorem looked{π:Q0b}{σ:L2.St}{H:Hp}{s:ak}{e:ah}{cls F:aj}{P:List ah}{E:Q0c}{Q:ak->Prop}(m:X.stack=X.env::X.outer)(p:X.env.frame=aa X.env.locals)(I:Φ X π σ H s)(T:nH X π H s e cls F P)
  (k:∀h',Φ X π σ H {s with heap:=h' }->h'.TracedW (hideAll s.heap (P++frs X.stack)) e cls F->(hideAll s.heap (P++frs X.stack)).StaysIn h'->h'.FunFrames (hideAll s.heap (P++frs X.stack)) X.stack->s.heap.UpToSlots h'->Q {s with heap:=h' }):
  av (aw X.Ω X.w) X.A (noteFrame (.ref e) X.env) (λ_ s2=>av (aw X.Ω X.w) X.A (setFlight (.ref e) ae) (λ_ s3=>Q s3) E s2) E s:=by
 have n:∀env∈X.stack,∀b,env.frame=aa b->b∈P++frs X.stack:=λenv d b hb=>gg _ (nk.mpr ⟨env,d,hb⟩);have stay:(hideAll s.heap (P++frs X.stack)).StaysIn s.heap:=λb o q=>z_ _ q;have fns:s.heap.FunFrames (hideAll s.heap (P++frs X.stack)) X.stack:=Tv I.stack n;have h:(hideAll s.heap (P++frs X.stack)).get? e=ae:=rb _ (dj _ T.mem);generalize U:hideAll s.heap (P++frs X.stack)=B at *;have next:∀h',Heap.NotedW B X.stack e cls F (rawInt X.env.locals) s.heap h'->av (aw X.Ω X.w) X.A (setFlight (.ref e) ae) (λ_ s3=>Q s3) E {s with heap:=h' }:=λh' Nu=>by
  obtain⟨k1,k2,k3,k4⟩:=Nu;show Ro (s:={s with heap:=h' }) k1 k2 k3 λh2 O j2 j3 j4=>?_;have J:s.heap.UpToSlots h2:=λb o eb L=>by obtain⟨sl,q⟩:=k4 b o eb L;show⟨sl,j4 b _ q L⟩
  show k h2 (flown I T (λb o n1 n2 q=>O b o ?_) J) j3 O j2 J;rw[<- U];show rf _ q λz=>(dq.mp z).elim n1 n2
 have a:=I.ok.frames;rw[m] at a fns next
 rcases T.tr with⟨K,vs,d,y,j,l,h0⟩|⟨K,vs,Y,oT,Z,d,y,j,l,hm,kr,hT,v,h3⟩
 .subst y;unfold noteFrame;erw[p];show ao (k_ (x:=.none) d j l ?_);rw[Zz ⋯];show wpAny_entryW a fns p d stay h j (Cd.mp l).1 h0 next
 .have qu:B.get? Y=ae:=by rw[<- U];show rb _ (dj _ hm)
  show wpAny_noteFrame_onW a fns p ⟨K,vs,Y,oT,Z,d,y,j,l,qu,kr,hT,v,h3⟩ stay h next
theorem caught(I:Φ X π σ H s)(T:nH X π H s e (.ref C) a0 P)
  (tr:h5.TracedW (hideAll s.heap (P++frs X.stack)) e (.ref C) a0) (stay:(hideAll s.heap (P++frs X.stack)).StaysIn h5) (fns:h5.FunFrames (hideAll s.heap (P++frs X.stack)) X.stack) (us:s.heap.UpToSlots h5)
  (U:X.mg R0=aa (.ref C0)) (Z:Gl X R0) (hd0:Zu R0) (hx:vb X.K (.ref C) (.ref C0)=aa af) (hN:X.N.Nodup) (hi:X.N[i]?=aa n) (Y:X.env.scope.names.lookup n=aa .local)
  (run:∀(a:ay) (s7:ak),a.cls=.ref C->Φ (hcx X (aa (.ref e)) (X.pn++π++[(e,a)])) [] ((bw ⇑X.N ae).set i (aa (.ref e))) H s7 ->
   av (aw X.Ω X.w) (X.A.mark (aa (.ref e))) (execs (b0::suite) X.env) (SP (hcx X (aa (.ref e)) (X.pn++π++[(e,a)])) [] {nx:=λ_ _=>False,rt:=B.rt}) (λ_ _=>False) s7):
  av (aw X.Ω X.w) X.A (handleBy (.ref e) X.env [.ExceptHandler (aa (.Name R0 np)) (aa n) (b0::suite) hpos]) (SP X π B) E {s with heap:=h5}:=by
 have kp:∀h',(hideAll s.heap (P++frs X.stack)).StaysIn h' ->∀b o,b∉P->b∉frs X.stack->s.heap.get? b=aa o->h'.get? b=aa o:=λh' st b o n1 n2 q=>st b o (rf _ q λz=>(dq.mp z).elim n1 n2);have J5:Φ X π σ H {s with heap:=h5}:=flown I T (kp h5 stay) us;show wpAny_handleBy_cons (codeAny_handlers_test ?_) (by intro q;cases q);have Z5:Φ (hcx X (aa (.ref e)) []) [] _ H {s with heap:=h5}:=xy J5 λp d=>nomatch d;show rG (X:=hcx X (aa (.ref e)) []) Z5 Z U ?_ hd0;have LT:rh (aw X.Ω X.w) h5 (typeOf (.ref e)) (.ref C):=by obtain⟨a,_,_,_,_,j,hc,_⟩:=tr;show mB ⟨a,j,hc.1⟩
 show(PySem.W.exm_one (K:=X.K) J5.rF LT hx).here ?_;show codeAny_handlers_suite_as (n:=n) ?_;show Ro (s:={s with heap:=h5}) stay fns tr.at λy j1 j2 j3 j4=>?_;have J:s.heap.UpToSlots y:=λb o eb l=>by obtain⟨sl,q⟩:=us b o eb l;show⟨sl,j4 b _ q l⟩
 have F:Φ X π σ H {s with heap:=y}:=flown I T (kp y j1) J;obtain⟨a,vs,T2,oT,ts,j,⟨hc,_⟩,hd,_⟩:=j3;have Y7:Φ (hcx X (aa (.ref e)) (X.pn++π++[(e,a)])) [] _ H {s with heap:=y}:=xy F λp d=>by
  rcases dq.1 d with d|d
  .exact F.pin p d
  .rw [bx.1 d];show⟨j,T.free e T.mem,λz=>?_,λz=>?_,λv z=>by rw[hd] at z;cases z⟩
   .obtain ⟨m,⟨o,es,ep,ho,h,_⟩,_⟩:=F.loc;have z:e=X.env.locals:=z;rw[<- z] at ho;have q:=j.symm.trans ho;cases q;rw[hd] at h;cases h
   .obtain ⟨_,o,ho,l⟩:=F.nB.mem z;have q:=j.symm.trans ho;cases q;show l vs hd
 show oF (X:=hcx X (aa (.ref e)) (X.pn++π++[(e,a)])) Y7 hN hi (.inl Y) (v:=.ref e) rfl (λs8 I8=>?_) (.inr Y);show ir (run a s8 hc I8) (λf s9 x=>?_) λ_ _ z=>z.elim
 cases f with
 |ret u =>
  obtain⟨v,σ',H',I9,rv,q⟩:=x;have B9:Φ X π _ H' s9:=Ny I.ok I9 λp d=>dj _ d;obtain⟨m,hn,_⟩:=id B9.loc;show wpAny_nameGoes Y hn (by rw[I.ok.kind];rfl) λh' m' O L=>⟨v,_,H',Nv B9 O L,rv,q⟩
 |next=>obtain⟨_,_,_,q⟩:=x;show q.elim
 |brk=>obtain⟨_,_,_,q⟩:=x;show q.elim
 |cont=>obtain⟨_,_,_,q⟩:=x;show q.elim
theorem Dv(hst:X.stack=X.env::X.outer)(hf:X.env.frame=aa X.env.locals)(hm0:X.mg R0=aa (.ref C0))(hN:X.N.Nodup)
  (F:∀pn xe,iI {X with pn:=pn,xe:=xe} body fb)
  (hh:∀c d,fh c=aa d ->∃(C:ah) (g:Nat->SF),X.mg c=aa (.ref C)/\vb X.K (.ref C) (.ref C0)=aa af/\(∀e:Nat,g e ((bw ⇑X.N Sv.no).set i (.ro (.exc c e)))=.rt d) /\
   ∀(e:ah) (O:ay) (pn:Q0b),O.cls=.ref C->iI (hcx X (aa (.ref e)) (pn++[(e,O)])) (b0::suite) (g e))
  (hi:X.N[i]?=aa n<|>0) (hl:X.env.scope.names.lookup n=aa .local<|>0) (hg0:Gl X R0<|>0) (hd0:Zu R0<|>1):
  rL X (.Try body [.ExceptHandler (aa (.Name R0 np)) (aa n) (b0::suite) hpos] [] [] ν) (CB fb fh):=by
 intro π s σ H B I ⟨H₀,S,w,ρ,G,E,hlen,st,m,ok⟩;show wpAny_Try_except ?_;generalize l:(λ(e:aj) (s1:ak)=>av (aw X.Ω X.w) X.A (noteFrame e X.env) (λ_ o=>av (aw X.Ω X.w) X.A (setFlight e ae) (λ_ s3=>av (aw X.Ω X.w) X.A (handleBy e X.env [.ExceptHandler (aa (.Name R0 np)) (aa n) (b0::suite) hpos]) (SP X π B) X.xe s3) X.xe o) X.xe s1)=xe;have I':Φ {X with pn:=X.pn++π,xe:=xe} [] σ H s :=
  ⟨⟨I.ok.mod,I.ok.kind,I.ok.glob,I.ok.blt,I.ok.above,I.ok.inj,I.ok.has,I.ok.cab,I.ok.hd,I.ok.frames,I.ok.stk,I.ok.exf,I.ok.bs,I.ok.PN,I.ok.CW,I.ok.HQ,I.ok.nB,I.ok.UX,I.ok.tab⟩,I.os,I.bare,I.ω,I.loc,I.cell,I.free,I.fG,λp x=>I.pin p (by have x:p∈(X.pn++π)++[]:=x;rw[il] at x;show x),I.hok,I.len⟩
 have back:∀{VP:Q0b} {y:L2.St} {Z:Hp} {o:ak},Φ {X with pn:=X.pn++π,xe:=xe} VP y Z o->Φ X π y Z o:=λJ=>⟨I.ok,J.os,J.bare,J.ω,J.loc,J.cell,J.free,J.fG,λp x=>J.pin p (dj _ x),J.hok,J.len⟩;have ht':wS fb {E with ex:=λc=>∃d,fh c=aa d/\E.rt d} ρ:=by
  unfold wS CB at m;unfold wS
  cases hb:fb ρ with
  |nx ρ'=>rw[hb] at m;show m
  |rt d=>rw[hb] at m;show m
  |no=>rw[hb] at m;show m
  |ex c =>
   rw[hb] at m;dsimp only at m ⊢
   cases U:fh c with
   |none=>rw[U] at m;show m.elim
   |some d=>rw[U] at m;show⟨d,rfl,m⟩
 have ok':NH X.K (XC {X with pn:=X.pn++π,xe:=xe}) ⇑X.N H₀ S G {E with ex:=λc=>∃d,fh c=aa d/\E.rt d} B:=⟨ok.nx,ok.rt,ok.bk,ok.ct,λc H' sm ⟨d,hfd,q⟩=>by
  obtain⟨C,g,hmc,hx,hg,hs⟩:=hh c d hfd;show⟨C,hmc,λVP y o e a0 P I2 L=>?_⟩;have IX:=back I2;have TX:nH X π H' o e (.ref C) a0 P:=⟨L.mem,L.free,L.new,L.fld,λq hq p x=>L.pin q hq p (dj _ x),L.tr⟩;show xe (.ref e) o;rw[<- l];show looked hst hf IX TX λh' J tr stay fns us=>caught IX TX tr stay fns us hm0 hg0 hd0 hx hN hi hl λO s7 U I7=>?_;show(hs e O (X.pn++π) U) [] s7 _ H' _ I7 ⟨H₀,S,λ_=>0,(bw ⇑X.N Sv.no).set i (.ro (.exc c e)),[],{nx:=λ_=>False,rt:=E.rt},?_,⟨st.fc,sm,λj Y z=>?_,λj k d1 Y z=>?_,λj Y z=>?_,λg hg=>(nomatch hg),Kf⟩,?_,⟨λ_ _ _ _ _ _ z=>z.elim,λv Z Y o dn z=>ok.rt v Z Y o dn z,λ_ _ _ _ _ _ z=>z,λ_ _ _ _ _ _ z=>z,λ_ _ _ z=>z.elim⟩⟩
  .show ⇑((bw ⇑X.N (ae:Option V)).set i (aa (.ref e)))=⇑X.N;rw[ik,jb]
  .rcases get_set z with⟨_,z,_⟩|⟨_,z⟩
   .cases z
   .rw [jc] at z;split at z<;>cases z
  .rcases get_set z with⟨_,z,_⟩|⟨_,z⟩
   .cases z
   .rw [jc] at z;split at z<;>cases z
  .rcases get_set z with⟨rfl,z,hj⟩|⟨_,z⟩
   .cases z;show⟨.ref e,kj ↑hj,by erw[Dn]⟩
   .rw [jc] at z;split at z<;>cases z
  .show wS (g e) _ _;unfold wS;rw[hg e];show q⟩
 have run:=F (X.pn++π) xe [] s σ H B I' ⟨H₀,S,w,ρ,G,_,hlen,st,ht',ok'⟩;rw[<- l] at run ⊢;show ir run (λf s1 h=>?_) λ_ _ z=>z
 cases f with
 |next =>
  obtain⟨a,H',J,q⟩:=h;rw[l] at J;show FO π s1 a H' B (back J) q
 |brk=>obtain⟨a,H',J,q⟩:=h;rw[l] at J;show⟨a,H',back J,q⟩
 |cont=>obtain⟨a,H',J,q⟩:=h;rw[l] at J;show⟨a,H',back J,q⟩
 |ret u=>obtain⟨v,a,H',J,rv,q⟩:=h;rw[l] at J;show⟨v,a,H',back J,rv,q⟩
def lN{p:Prop}(h:ag=af):p:=nomatch h
def ExI(mro:Q0f)(l:List (Option aj))(P:ah->List aj->String->Bool):Prop:=∃C1 bm j y1 h d n a,mro=.ref C1::bm/\l=[j,y1,h,d,aa (.builtin n),a]/\P C1 bm n=af
theorem JJ(h:excIn.match_1 (λ_ _=>Bool) mro sl (λC1 bm _ _ _ _ n _=>P C1 bm n) (λ_ _=>ag)=af):
  ExI mro sl P:=by
 cases mro with
 |nil=>show lN h
 |cons v bm =>
 cases v with
 |ref C1 =>
  cases sl with
  |nil=>show lN h
  |cons y0 sl =>
  cases sl with
  |nil=>show lN h
  |cons y1 sl =>
  cases sl with
  |nil=>show lN h
  |cons y2 sl =>
  cases sl with
  |nil=>show lN h
  |cons y3 sl =>
  cases sl with
  |nil=>show lN h
  |cons y4 sl =>
  cases y4 with
  |none=>show lN h
  |some w =>
  cases w with
  |builtin n =>
   cases sl with
   |nil=>show lN h
   |cons y5 sl =>
   cases sl with
   |cons z sl=>show lN h
   |nil=>show⟨C1,bm,y0,y1,y2,y3,n,y5,rfl,rfl,h⟩
  |_=>show lN h
 |_=>show lN h
def S4{K:aq}{C:ah}(h:excIn K C bmV "ValueError.__new__"=af):OM K C:=by
 unfold excIn at h;split at h
 .rename_i dd cd a lk;obtain⟨C1,bm,p,y1,o,m,n,l,j,d,h⟩:=JJ h;obtain⟨O,L,Y,J,I,F,A,z,y,U,Z⟩:=cd;obtain⟨a⟩:=a;dsimp only at j d h;subst j d;erw[fm,beq_iff_eq,Ym] at h;obtain⟨⟨⟨⟨⟨g1,g2⟩,x⟩,g4⟩,v⟩,q⟩:=h;subst g1 g2 x;show⟨⟨O,I,J,L,bm,F,A,z,y,U,dd,p,y1,o,m,l,lk,g4,v,q⟩⟩
 .cases h
end
variable{K:aq}{C D:ah}
structure yW (K:aq) (C D:ah):Prop where
 ne:(dg C == dg D)=ag
 c:isClsIn K D=af
 t:typeIn K (.ref D)=aa (.type "type")
 s:subIn K (.ref C) (.ref D)=aa ag
def wJ(c:isClsIn K D=af)(a:typeIn K (.ref D)=aa (.type "type"))(s:subIn K t (.ref D)=aa b):kitCls K t (.ref D)=aa b:=by have c:(clsIn K D).isSome=af:=c;unfold kitCls;dsimp only;rw[c,a,Z_ ⋯];show s
def yW.one(n:yW K C D):kitOne K (.ref C) (.ref D)=aa ag:=by unfold kitOne;rw[n.ne,Zz bg];show wJ n.c n.t n.s
def tZ:kitOne K (.ref C) (.ref C)=aa af:=by unfold kitOne;rw[Z_ (by simp)]
def yX(k:kitMeta T=af)(s:subIn K (.ref C) (.type T)=aa b):kitOne K (.ref C) (.type T)=aa b:=by unfold kitOne;rw[Zz (show ¬ (dg C == my T)=af from λz=>by cases beq_iff_eq.mp z)];unfold kitCls;dsimp only;rw[Z_ k];show s
def ZH(j:subIn K (.ref D) (.type "BaseException")=aa af)(h:isClsIn K D=af)(d:typeIn K (.ref D)=aa (.type "type"))(a:subIn K (.ref C) (.ref D)=aa b):exmOne K (.ref C) (.ref D)=aa b:=by unfold exmOne;rw[j,Z_ ⋯];show wJ h d a
end L5
namespace L5
open PySem.Spec PyProof.Rows L2 L3 L4
variable{X:Cx}
def PRs(X:Cx)(a:List au)(r:RF):Prop:=PA X a (λσ H _=>tR X r σ H λ_ _=>True)
def IJ(h:PA X es t)(f:∀σ H Q,t' σ H Q->t σ H Q):PA X es t':=λν π s σ H Q I q=>h ν π s σ H Q I (f σ H Q q)
def ZI(p:aW X e f)(o:PRs X es r)(n:Zr X e es<|>0):PRs X (e::es) (E3 f r) :=
 IJ (cJ p o n) λσ H Q x=>by obtain⟨S,ρ,c,l,j,h,k⟩:=x;obtain⟨d,q,h⟩:=bnd h;show⟨S,ρ,λ_=>True,l,j,⟨d,q,trivial⟩,λv z y a _ _=>⟨S,ρ,c,aR l a,Sl.fits (.same a) j,h,λH' m=>k H' (a.trans m)⟩⟩
def ZJ(d:PR X e r)(j:pZ X es t)(a:Zr X e es<|>0):PRs X (e::es) r :=
 IJ (cJ d j a) λσ H Q h=>h
def Nr{x1}(h:PRs X es r):PR X (.Tuple es x1 ν) r:=imp (ML h) λσ H Q h=>h
open X0
section
variable{π:Q0b}{σ:L2.St}{H:Hp}{s:ak}
theorem S5{D:ah}{u:HO}{m:Q0d}{h':a_}{t':Nat}(I:Φ X π σ H s)(A:s.heap.Ns X.env.locals m)(l:h'.Ns X.env.locals m)(q:∀b o,b≠X.env.locals->s.heap.get? b=aa o->h'.get? b=aa o)(dead:s.heap.get? D=ae)
  (ok:bZ X.Ω X.w (upd H D u) h' D u):H D=ae/\Φ X π σ (upd H D u) {s with heap:=h',toks:=t' }:=by
 have p:H D=ae:=by
  cases e:H D with
  |none=>rfl
  |some u =>
   obtain⟨o,J⟩:=p7 (I.hok D u e);rw[dead] at J;cases J
 have y:∀{b:ah} {o:ay},s.heap.get? b=aa o->b≠D:=λ{b o} e z=>by rw[z,dead] at e;cases e
 have j:∀{b:ah} {u:HO},H b=aa u->b≠D:=λ{b u} e z=>by rw[z,p] at e;cases e
 show⟨p,?_⟩;show L2.Φ X π σ _ {s with heap:=h',toks:=t' };show I.step (s:=s) (h':=h') (g':=s.gens) (t':=t') (d':=s.drawn) (ch:=[]) (λb a=>nomatch a) (λb o a _ _ e _=>q b o a e) (λb o a _ _ e _=>⟨o.slots,q b o a e⟩) (λb o _ e n=>by rw[aL (y e)];show n) (λb o _ e=>?_)
  (λb xs e=>by rw[aL (j e)];show e) (λb o u e=>by rw[aL (j e)];show e) (λb ps e=>by rw[aL (j e),e]) (λK F=>?_) ?_ I.bare
 .by_cases a:b=X.env.locals
  .subst a;obtain⟨o2,_,_,Y,_⟩:=l;show⟨o2,Y⟩
  .exact ⟨o,q b o a e⟩
 .have:K=m:=by
   obtain⟨oa,ea,pa,O,h2,_,L⟩:=F;obtain⟨ob,eb,Z,k1,k2,_,k3⟩:=A;rw[O] at k1;cases k1;rw[h2] at k2;cases k2
   funext x
   rw[<- L,<- k3]
  subst this;show l
 .intro b v e;by_cases a:b=D
  .subst a;rw[aN] at e;cases e;show ok
  .rw [aL a] at e;show(I.hok b v e).stay (λc w h U=>q c w (λz=>?_) U) (λc d=>by rw[aL (j d)];show d) (λc ys d=>by rw[aL (j d)];show d) λc o u d=>by rw[aL (j d)];show d
   subst z;rcases h with h|h
   .rw [<- h,I.free] at e;cases e
   .rw [I.free] at h;cases h
def ZK:V->List V->Hp->VK->Prop:=λx xs H Q=>∃z y,x=.str z/\xs=[.str y]/\⇑z+2<=bc/\(⇑y == 0)=ag /\∀l,H l=ae->Q (.ref l) (upd H l (.lst ((dh z y).map V.str)))
theorem wK:∀l:List (ai×f_),θ ((l.map (·.1)).map V.str) (strValues l)
 |[]=>.nil
 |p::r=>.cons ⟨p.2,rfl⟩ (wK r)
def OR:U5 X "str.split" ZK:=by
 intro π s σ H x xs v Y Q I j r h;obtain⟨z,y,rfl,rfl,d,A,q⟩:=h;obtain⟨u,rfl,ty,rfl⟩:=vals1 r;obtain⟨Z,rfl⟩:=j;obtain⟨m,a,_⟩:=id I.loc;show splitN1 (h₀:=sY s.heap) (L:=X.env.locals) (m:=m) (news:=ledger s.heap X.env.locals ↥s) (MS a) (λp J=>?_) A (λl h' k e F N=>?_) d
 .obtain ⟨x,o⟩:=p;obtain⟨n,_,e⟩:=fP.mp J;show⟨e,n,nG _ _⟩
 .have dead:s.heap.get? ↥s=ae:=Uu (bf _);obtain⟨K,U⟩:=S5 (D:=↥s) (u:=.lst ((dh z y).map V.str)) (t':=k) I a F.ns (λb o O e=>(N (b,o) (cq _ (fP.mpr ⟨O,de (bj e),e⟩))).1) dead
   ⟨by rw[bp];show cy (pq z y).2 d,strValues l,0,by rw[<- e];show wK l,(N _ (b_ ..)).1⟩
  show⟨.ref ↥s,_,U,rfl,q _ K⟩
theorem BA{K:aq}{S:ah->Prop}{H:Hp}:∀l:Q0g,aM K S H (l.map D.str) (l.map V.str)
 |[]=>aM.nil
 |x::r=>aM.cons (by symm) (BA r)
def JK(h:splitM a b=aa d):∃x y,a=.str x/\b=.str y/\(⇑x+2<=g8/\(⇑y == 0)=ag)/\d=.lst ((dh x y).map D.str):=by
 unfold splitM at h;split at h
 .split at h
  .rename_i z;cases h;show⟨_,_,rfl,rfl,z,rfl⟩
  .cases h
 .cases h
def ED(ho:aW X o fo)(Z:aW X e fe)(j:attributeBase o "split" X.env (eval o X.env)=eval o X.env<|>0)
  (m:Zp X cpos e<|>0)
  (h:Q0k apos cpos<|>0) (K:Zr X e []<|>0) (a:(bz cpos (ar [] X.env)).any (·.1)=ag<|>0):
  lI X (.Call (.Attribute o "split" apos) [e] [] cpos) (aB splitM fo fe) :=
 imp (AG r_ F.slot_str_split F.type_str_split OR ho (cJ Z iF K) j m h K a) λσ H Q Nq=>by obtain⟨S,ρ,Q3,O,A,⟨d,n,Y⟩,k⟩:=Nq;obtain⟨dx,ex,n⟩:=bnd n;obtain⟨dy,ey,n⟩:=bnd n;obtain⟨x,y,rfl,rfl,J,rfl⟩:=JK n;show⟨S,ρ,λz=>z=.str x,O,A,⟨_,ex,rfl⟩,λv H1 d1 p q q1=>?_⟩;subst q1;symm at q;subst q;show⟨rfl,S,ρ,λz=>z=.str y,aR O p,Sl.fits (.same p) A,⟨_,ey,rfl⟩,λv2 H2 d2 I U q2=>?_⟩;subst q2;symm at U;subst U;show⟨x,y,rfl,rfl,J.1,J.2,λl L=>k l _ _ _ ((p.trans I).free L) aN ((p.trans I).trans (aI L)) (BA _) Y⟩
theorem BB(a:Q0f):∀m:Nat,m<=⇑a->(ck m).filterMap (λk=>a[⇑a-1-k]?)=a.reverse.take m
 |0,_=>rfl
 |m+1,hm=>by
  have d:a[⇑a-1-m]?=aa (a[⇑a-1-m]'∅):=cm _;have h:a.reverse[m]?=aa (a[⇑a-1-m]'∅):=by rw[List.getElem?_reverse ∅];show d
  rw[Xj,List.filterMap_append,BB a m ∅,Xh,h,sr,d];rfl
def OS(a:Q0f):slicePick a.toArray ae ae (aa (-1))=a.reverse.toArray:=by
 have c:∀n:Nat,((if(n:Int)-1>-1 then((n:Int)-1 - -1 - -1-1) / - -1 else 0:Int)).toNat=n:=λn=>by rw[show(- -1:Int)=1 from rfl,Yg];split<;>lia
 have b:sliceRange (((a.toArray.size:Nat):Int)-1) (-1) (-1)=(ck ⇑a).map λk=>⇑a-1-k:=by unfold sliceRange;erw[show ¬ ((-1:Int)>0) by decide,if_false,c,cf];show nq λk d=>?_;have:=nj.mp d;lia
 unfold slicePick;show(List.filterMap (λx=>a.toArray[x]?) (sliceRange (((a.toArray.size:Nat):Int)-1) (-1) (-1))).toArray=_;rw[b,Xx];congr 1;have:=BB a ⇑a (bf _);rw[ng (by simp)] at this;rw[<- this];congr 1
 funext k
 simp
theorem GQ{K:aq}{S:ah->Prop}{H:Hp}:∀{ds:List D} {xs:List V},aM K S H ds xs->aM K S H ds.reverse xs.reverse
 |[],xs,h=>by erw[aM] at h;subst h;show aM.nil
 |d::ds,xs,h=>by obtain⟨v,r,rfl,j,h2⟩:=h.bH;rw[Bo (a:=d),Bo (a:=v)];show(GQ h2).append (aM.one j)
theorem BC:∀{xs:List V} {a:Q0f},θ xs a->θ xs.reverse a.reverse
 |_,_,.nil=>.nil
 |_,_,.cons p q=>by erw[Bo];show(BC q).append (.cons p .nil)
def Mv{e st:au}{f:EF}{p2 ν:ba}(he:aW X e f)(L:aW X st (zC (eI 1)))(O:(∀o r,letTemporaryGo e o r=pure ())<|>7):lI X (.Subscript e (.Slice ae ae (aa st) p2) ν) (J9 f):=by
 intro π s σ H Q I h;obtain⟨S,ρ,Q3,Z,Y,⟨d,e1,q⟩,k⟩:=h;obtain⟨d0,e2,e3⟩:=bnd e1;cases d0<;>first|(cases e3;done)|skip
 rename_i ds;cases e3;show wpAny_Subscript_Slice_step PySem.F.slot_list_getitem.lookup (c6 (he π s σ H (λx p=>ξ H p/\Dn X.K S p (.lst ds) x) I ⟨S,ρ,λd=>d=.lst ds,Z,Y,⟨_,e2,rfl⟩,λv H' d s' d' J=>by subst J;show⟨s',d'⟩⟩) λv s1 ⟨x,p,I1,r1,l,d1⟩=>?_) O;show Sf ?_;rw[zv];show ax ?_;show ax ?_;rw[Te];show c6 (L π s1 σ p (λx U=>ξ p U/\x=.int (-1)) I1 ⟨S,ρ,λd=>d=.int (-1),aR Z l,Sl.fits (.same l) Y,⟨_,rfl,rfl⟩,λv H' d s' d' J=>by subst J;symm at d';show⟨s',d'⟩⟩) λu A Mu=>?_;obtain⟨y,U,I2,r2,j,ey⟩:=Mu;subst ey;obtain⟨t,rfl⟩:=r2;symm at d1;obtain⟨a,xs,rfl,ha,sa,da⟩:=d1;cases r1;have hH:=j _ _ ha;have m:Φ X π σ U {A with heap:=A.heap.push {cls:=.type "slice",data:=.fields #[.none,.none,.int (-1) t]} }:=I2.kept (t':=A.toks) λb ob q=>bu _ q;obtain⟨z,ι,n,r,hl,e⟩:=m.DB hH;show⟨⟨_,e,rfl⟩,?_⟩;show Sa (items:=ι.toArray) ⟨_,e,rfl,n,rfl⟩ (Uv ..) .none .none (.int (-1) t) ⋯ ?_ (by rw[cf,<- hl];show z);rw[OS];have dl:=GQ (aM.fits (.same j) _ _ da);show⟨.ref _,_,m.yh (t':=A.toks) (BC r) (by rw[Xr];show z),rfl,k _ _ _ _ ((l.trans j).free m.fresh) aN ((l.trans j).trans (aI m.fresh)) (aM.fits ((Fits.fresh m.fresh).trans (.same (aI m.fresh))) _ _ dl) q⟩
def GR:V->List V->Hp->VK->Prop:=λx vs H Q=>∃l xs k y,x=.ref l/\vs=[.int k,y]/\H l=aa (.lst xs)/\0<=k/\k<=(⇑xs:Int)/\⇑xs<bc/\Q .non (upd H l (.lst (xs.take k.toNat++y::xs.drop k.toNat)))
def JL:U5 X "list.insert" GR:=by
 intro π s σ H x vs v K Q I p A h;obtain⟨l,xs,k,y,rfl,rfl,o,k0,k1,L,q⟩:=h;cases p;obtain⟨u,d,rfl,J,j⟩:=vals2 A;obtain⟨t,rfl⟩:=J;obtain⟨z,a,n,r,O,e⟩:=I.DB o;have sz:bc<2^62:=by decide
 show lg Vb ⟨_,e,rfl⟩ PySem.F.entry_list_insert (PySem.F.args_list_insert_3 _ _ _) (a1b l a.toArray n k t d (by rw[Td ∅ ∅];decide) (by rw[cf];lia)) ⟨e,?_⟩;show⟨.non,_,I.RN (its':=a.take k.toNat++d::a.drop k.toNat) o e ?_ ((r.take k.toNat).append (.cons j (r.drop k.toNat))) ?_,rfl,q⟩
 .show (let m:=if k<0 then(k+((a.toArray.size:Nat):Int)).toNat else min k.toNat a.toArray.size;(a.toArray.extract 0 m).push d++a.toArray.extract m)=_;rw[Zz ∅,show min k.toNat a.toArray.size=k.toNat by rw[cf];lia];simp;show ng (by rw[me];show bf _)
 .rw [cu,cn,kh,me];lia
def OT{K:aq}{n i:Nat}{Y U:EF}{σ:L2.St}{H:Hp}{Q:VK}(h:AL K n (wX (J8 i Y U)) σ H Q):tq K "list" GR (Q0 i) (AA (lift K (wE Y)) (AA (lift K (wE U)) RB)) σ H Q:=by
 obtain⟨H₀,S,w,ρ,G,Q3,hl,st,⟨p,e,q⟩,k⟩:=h;obtain⟨ds,e0,e⟩:=bnd e;obtain⟨kd,ek,e⟩:=bnd e;obtain⟨j,y,e⟩:=bnd e;obtain⟨d,ed,e⟩:=bnd e;by_cases J:d.uF=af/\0<=j/\j<=(⇑ds:Int)/\⇑ds<g8
 .rw [Z_ J] at e;cases e;obtain⟨hi,k0,k1,hz⟩:=J;have o:=yO e0;obtain⟨a,b,xs,hp,dn⟩:=st.own i _ o;cases kd<;>first|(cases y;done)|skip
  cases y;show⟨_,a,.inl ⟨rfl,xs,eJ.of hp⟩,S,aV ρ,λd=>d=.int j,st.F0,st.all,⟨_,ek,rfl⟩,λv1 H1 d1 s1 I q1=>?_⟩;subst q1;symm at I;subst I;have m:=st.same s1;show⟨S,aV ρ,λd'=>d'=d,m.F0,m.all,⟨_,ed,rfl⟩,λO Z d2 s2 L q2=>?_⟩;subst q2;have v:=m.same s2;obtain⟨a',b',l,x,A⟩:=v.own i _ o;have dl:=A.len;have nS:¬ SO S w ρ (w i):=λ⟨_,z⟩=>z i _ o rfl;have F:Fits K (SO S w ρ) (SO S w ρ) Z (upd Z (w i) (.lst (l.take j.toNat++O::l.drop j.toNat))):=.upd (.inl ⟨_,x⟩) nS;show⟨w i,l,j,O,rfl,rfl,x,k0,by rw[<- dl];show k1,by rw[<- dl,df];show hz,?_⟩;show k w .non _ _ .non (v.write (d':=.lst (ds.take j.toNat++d2::ds.drop j.toNat)) o ⟨_,aN,aM.fits F _ _ (aM.insert j.toNat (Dn.uF hi L) A)⟩) (by symm) q
 .rw [Zz J] at e;cases e
theorem Du(z:aW X ea fa)(y:aW X eb fb)
  (hN:X.N[i]?=aa x<|>0) (q:vH X.env.scope x<|>3) (v:Zu x<|>1) (n:Zt x<|>1)
  (j:attributeBase (.Name x p) "insert" X.env (eval (.Name x p) X.env)=eval (.Name x p) X.env<|>0)
  (l:((bz cpos (ar [ea,eb] X.env)).all (λx=>!x.1)&&(backToKw cpos (iu [] X.env)).all (λx=>x.1.isSome)
   && Zv ([ea,eb].length+⇑([]:List di)+(if([]:List di).isEmpty then 0 else 1)<30))=af:=by rfl)
  (d:Q0k apos cpos<|>0) (o:(ar [ea,eb] X.env=(ag,eval ea X.env)::ar [eb] X.env)<|>0) (m:Zr X eb []<|>0) (a:(bz cpos (ar [eb] X.env)).any (·.1)=ag<|>0):
  JY X (.Call (.Attribute (.Name x p) "insert" apos) [ea,eb] [] cpos) (J8 i fa fb) :=
 imp (AG An Vb PySem.F.type_list_insert JL (sS hN q v n) (cJ z (cJ y iF m) o) j l d o a) λ_ _ _ h=>OT h
def Mt(I:JY X e f)(F:R6 X tg (wG g))(A:swapsWithSole [tg] e ν.line X.env=pure ag<|>0)(hw:swappedStores [tg] e X.env=pure ae<|>0)
  (J:(cp [tg] X.env).map (·.2)=[assign tg X.env]<|>0):rL X (.Assign [tg] e ν) (G4 f g) :=
 lG (W9 I F A hw J) λB σ H O=>by
  obtain⟨H₀,S,w,ρ,G,E,q,st,d,ok⟩:=O;unfold wS G4 at d
  cases e1:(f ρ).bind λp=>g p.2 p.1 with
  |none=>rw[e1] at d;show d.elim
  |some ρ' =>
   rw[e1] at d;obtain⟨p,L,K⟩:=bnd e1;show⟨H₀,S,w,ρ,G,λa x=>a=p.1/\x=p.2,q,st,⟨p,L,rfl,rfl⟩,λo v H' a x m d' z=>?_⟩;obtain⟨rfl,rfl⟩:=z;show⟨H₀,S,o,p.1,G,p.2,_,q,m,d',⟨ρ',K,d⟩,λh U j n l y=>ok.nx o h U j n l y⟩
def ZL{st:bq}{t:TS}(h:PS X.LY st t):PS X st t:=λπ s σ H D I hw=>ir (h π s σ H D (I.wish λ_ _=>False) hw) (λ_ _ q=>SP.kE q) λ_ _ z=>z.elim
theorem Mr{st:bq}{f:SF}(h:rL X.LY st f):rL X st (PX f):=lG (ZL h) λB σ H l=>by
 obtain⟨H₀,S,w,ρ,G,E,m,j,a,ok⟩:=l;show⟨H₀,S,w,ρ,G,{E with ex:=λ_=>False},m,j,?_,⟨ok.nx,ok.rt,ok.bk,ok.ct,λ_ _ _ q=>q.elim⟩⟩;unfold wS PX at a;unfold wS
 cases hf:f ρ with
 |nx ρ1=>rw[hf] at a;show a
 |rt d=>rw[hf] at a;show a
 |no=>rw[hf] at a;show a
 |ex c=>rw[hf] at a;show a.elim
end
end L5
namespace L6
open PySem.Spec PyProof.Rows
def Up(l:List Nat):Prop:=l.Pairwise (·<·)
theorem OU(xs:Array Nat)(j:Nat)(up:Up xs.toList):∀f d a,a-d<=f->d<=a->a<=xs.size->(∀i,i<d->xs.getD i j<j)->(∀i,a<=i->i<xs.size->j<=xs.getD i j) ->
  vh xs j f d a<=xs.size/\(∀i,i<vh xs j f d a->xs.getD i j<j) /\∀i,vh xs j f d a<=i->i<xs.size->j<=xs.getD i j:=by
 have mono:∀i k,i<=k->k<xs.size->xs.getD i j<=xs.getD k j:=λi k y v=>by
  by_cases e:i=k
  .subst e;show bf _
  .have p:i<xs.size:=∅
   have:=sh.mp up i k ↑p ↑v ∅;erw[s_,p,v,dif_pos];simpa using jy this
 intro f
 induction f with
 |zero =>
  intro d a p h2 o n m;have:d=a:=∅
  subst this;show⟨o,n,m⟩
 |succ f ih =>
  intro d a p h2 o n m;unfold vh;by_cases q:d<a
  .rw [Z_ q];dsimp only;by_cases l:xs.getD ((d+a)/2) j<j
   .rw [Z_ l];show ih _ _ ∅ ∅ o (λi h=>?_) m;show Bl (mono i ((d+a)/2) ∅ ∅) l
   .rw [Zz l];show ih _ _ ∅ ∅ ∅ n λi h x=>?_;show cy (Nat.not_lt.mp l) (mono _ i h x)
  .rw [Zz q];have:d=a:=∅
   subst this;show⟨o,n,m⟩
def below_at(up:Up xs.toList)(j:Nat):dc xs j<=xs.size/\(∀i,i<dc xs j->xs.getD i j<j) /\∀i,dc xs j<=i->i<xs.size->j<=xs.getD i j :=
 OU xs j up _ _ _ ∅ ∅ (bf _) (λi h=>∅) λi a h2=>by lia
def EE(up:Up xs.toList)(j:xs[k]?=aa p):dc xs (p+1)=k+1:=by
 obtain⟨q,h2,n⟩:=below_at up (p+1);have l:k<xs.size:=(Cd.mp j).1;have v:xs.getD k (p+1)=p:=by rw[xa,j];rfl
 have a:¬ dc xs (p+1)<=k:=λh=>by have:=n k h l;lia
 by_cases m:k+1<dc xs (p+1)
 .have o:=h2 (k+1) m;have d:k+1<xs.size:=∅
  have:=sh.mp up k (k+1) ↑l ↑d ∅;have y:xs.getD (k+1) (p+1)=xs[k+1]:=by simp[s_,d]
  have x:xs[k]=p:=by have:=Cd.mp j;show this.2
  erw[Ys] at this;lia
 .omega
def BD(up:Up xs.toList):dc xs 0=0:=by
 obtain⟨d,h2,a⟩:=below_at up 0;by_cases h:dc xs 0=0
 .exact h
 .have:=h2 0 ∅;lia
def uT{α:Type}(xs:Array α)(p:Nat)(x:α):(vf xs p x).toList=xs.toList.take p++x::xs.toList.drop p:=by unfold vf;simp[Array.toList_extract,List.extract_eq_take_drop];show ng ?_;simp
def ZM(up:Up xs.toList)(F:xs[dc xs j]?≠aa j):Up (vf xs (dc xs j) j).toList:=by
 obtain⟨U,h2,y⟩:=below_at up j;rw[uT];unfold Up at *;rw[List.pairwise_append];show⟨up.sublist (Bm ..),?_,λa I b l=>?_⟩
 .rw [dm];show⟨λb l=>?_,up.sublist (List.drop_sublist ..)⟩;obtain⟨i,p,L⟩:=wj l;have e:=L;rw[Xv] at e;have h:dc xs j+i<xs.size:=by simp at p;lia
  have v:=y (dc xs j+i) ∅ h;have x:xs.getD (dc xs j+i) j=b:=by erw[s_,h,dif_pos];simpa using e
  rw[x] at v;by_cases K:b=j
  .exfalso;subst K;by_cases o:i=0
   .subst o;apply F;rw[ka ↑h];simpa using e
   .have d:dc xs b<xs.size:=∅
    have q:=sh.mp up (dc xs b) (dc xs b+i) ↑d ↑h ∅;have O:=y (dc xs b) (bf _) d;have X:xs.getD (dc xs b) b=xs[dc xs b]:=by simp[s_,d]
    rw[e] at q;erw[Ys] at q;lia
  .omega
 .obtain ⟨i,p,e⟩:=wj I;have n:i<dc xs j:=by simp at p;lia
  have h:i<xs.size:=∅
  have v:=h2 i n;have x:xs.getD i j=a:=by erw[s_,h,dif_pos];rw[<- e];simp
  rw[x] at v;rcases bh.1 l with l|l
  .omega
  .obtain ⟨k,A,z⟩:=wj l;rw[Xv] at z;have m:dc xs j+k<xs.size:=by simp at A;lia
   have q:=sh.mp up i (dc xs j+k) ↑h ↑m ∅;rw[z] at q;have J:xs.toList[i]=a:=by rw[<- e];simp
   rw[J] at q;show q
def OV(n:Nat):Up (Array.range n).toList:=by unfold Up;rw[Array.toList_range];show Bq
structure J0 (led:Bool) (t:SetTable) (n:Nat):Prop where
 fit:t.fits n=af
 led:t.led=led
 no:t.dummies=#[]
 up:Up t.place.toList
def kJ{led:Bool}{t:SetTable}(n:Nat)(h:t.led=led):J0 led (t.standIn n) n:=by show⟨?_,h,rfl,OV n⟩;unfold Uj Zf a0b;simp;lia
theorem BE(m:t.dummies=#[]):∀(k:Nat) (p:a0d) {j:Nat} {d:Option Nat},p.dummy=ae->Aj t f h k p=aa (.empty j d)->d=ae/\t.place[dc t.place j]?≠aa j:=by
 intro k
 induction k with
 |zero=>intro p j d _ e;unfold Aj at e;cases e
 |succ k ih =>
  intro p j d l e;unfold Aj at e;have a:(t.advance p).dummy=ae:=by unfold a0c;split<;>show l
  cases q:t.slot p.j with
  |empty =>
   rw[q] at e;injection e with e;injection e with o n;subst o;show⟨by rw[<- n];show l,λz=>?_⟩;unfold Ui at q;dsimp only at q;rw[z] at q;simp at q
  |dummy =>
   exfalso;unfold Ui at q;dsimp only at q;split at q
   .cases q
   .have:vg t.dummies p.j=ag:=by rw[m];unfold vg;simp
    rw[this] at q;cases q
  |live i =>
   rw[q] at e;dsimp only at e;split at e
   .cases e
   .exact ih _ a e
theorem J0.layNew{led:Bool}{t:SetTable}{a:Array (Int×aj)}(h:J0 led t a.size)(k:Int)(x:aj):J0 led (layNew t a k x).2.1 (layNew t a k x).1.size:=by
 unfold PySem.layNew
 cases q:t.freeSlot k with
 |none =>
  dsimp only;rw[Array.size_push];show kJ _ h.led
 |some r =>
  obtain⟨slot,v⟩:=r;dsimp only;unfold a0a at q;have l:t.place[dc t.place slot]?≠aa slot:=by
   unfold Zj at q;split at q
   .rename_i j d e;obtain⟨p,o⟩:=BE h.no _ _ rfl e;subst p;cases q;show o
   .cases q
  have m:vg t.dummies slot=ag:=by rw[h.no];simp[vg]
  have n:t.put slot=({t with place:=vf t.place (dc t.place slot) slot},dc t.place slot):=by unfold Zi;rw[m];rfl
  rw[n];dsimp only;unfold Zk;split
  .rename_i hf;show⟨hf,h.led,h.no,ZM h.up l⟩
  .exact kJ _ h.led
theorem pB{n:Type}(f:Nat->Option n):∀l:List Nat,Up l->Up ((l.filterMap λj=>(f j).map (j,·)).map (·.1))
 |[],_=>by simp[Up]
 |a::l,h=>by
  have h':=dm.1 h;have m:=pB f l h'.2;rw[sr]
  cases q:f a with
  |none=>show m
  |some b =>
   dsimp only[kg];rw[bt];show dm.mpr ⟨λc x=>?_,m⟩;obtain⟨p,o,e⟩:=fz.mp x;obtain⟨j,v,d⟩:=nk.mp o
   cases q2:f j with
   |none=>rw[q2] at d;cases d
   |some b2 =>
    rw[q2] at d;cases d;rw[<- e];show h'.1 j v
theorem J0.Mq{led:Bool}{t:SetTable}{a:Array (Int×aj)}(h:J0 led t a.size)(wanted:Nat):J0 led (relayAll t a wanted).2.1 (relayAll t a wanted).1.size:=by
 unfold relayAll
 cases q:t.relaid (a.map (·.1)) wanted with
 |none=>show kJ _ h.led
 |some r =>
  obtain⟨t',order⟩:=r;dsimp only;split
  .rename_i hc;rw[fm] at hc;unfold Zh Zm at q
   cases q2:Zl (Zg wanted-1) (a.map (·.1)) with
   |none=>rw[q2] at q;cases q
   |some owner =>
    rw[q2] at q;cases q;show⟨hc.2,h.led,rfl,?_⟩;dsimp only;show pB _ _ Bq
  .exact kJ _ h.led
theorem OW(led:Bool):J0 led (Zn 0 0 led) 0:=⟨by rfl,rfl,rfl,sy⟩
noncomputable def nK(e:Int×aj):Int:=match e.2 with
 |.int m _=>m
 |_=>0
def BF(e:Int×aj):Prop:=∃m t,e=(hashInt m,ie m t)
def mG(led:Bool)(o:ay)(ns:Q0e):Prop:=∃a d t,o.ExactSet/\o.data=.set a d t/\(∀e∈a.toList,BF e)/\(a.toList.map nK).Perm ns/\J0 led t a.size/\a.size<scanBound
def EG(ns:Q0e)(k:Int):List Int:=if k∈ns then ns else ns++[k]
def OX(Ω:bb)(w:az)(h:∀e∈l,BF e):ElemsOf (intKind Ω w) l:=λe a=>by obtain⟨m,t,rfl⟩:=h e a;show⟨⟨m,zu Ω w m t,rfl⟩,rfl⟩
def OY(Ω:bb)(w:az)(h:BF e)(k:Int):(intKind Ω w).is k e.2=Zv (k=nK e):=by obtain⟨m,t,rfl⟩:=h;show KeyKind.is_eq_decide (zu Ω w m t) k
section
variable{Ω:bb}{w:az}{A:bo}{E:Q0c}{s:ak}
theorem stored(ho:s.heap.get? a=aa o)(d:o.data=.set es ep t):
  (s.heap.update a (vk es' t')).get? a=aa {o with data:=.set es' (ep+1) t' }:=by
 have q:=pj (vk es' t') ho (by rw[putSet_of es' t' d];rfl)
 rwa [putSet_of es' t' d] at q
theorem add_int(ho:s.heap.get? a=aa o)(hi:mG led o ns)(hb:⇑ns+1<scanBound)
  (h:∀h' m b,jl a s.heap h'->h'.get? a=aa m->mG led m (EG ns k)->Q b {s with heap:=h',toks:=s.toks+1}):av (aw Ω w) A (setAdd a (.int k tk)) Q E s:=by
 obtain⟨O,ep,t,Z,y,F,J,K,hs⟩:=hi;have v:=OX Ω w F;have calm:∀(b:Bool) (U:ak) (Q1:Unit->ak->Prop),Q1 () U->av (aw Ω w) A (match b with|true=>rule "set.scan.the-table-gave-way" | false=>pure ()) Q1 E U:=λb U Q1 q=>by
  cases b
  .exact ax q
  .exact iq q
 have hk:=zu Ω w k tk;unfold setAdd;show gp (ao ((intKind Ω w).pyHash hk ?_));unfold setAddHashed setAddHashedIn setAddByScan;show gp (ao (oo (s:={s with toks:=s.toks+1}) ho y K.fit ?_));dsimp only;rw[Z_ (byScan_of (x:=.int k tk) rfl hs v)];show ao (ao (iq (ao (wpAny_setScan_of (s:={s with toks:=s.toks+1}) hk ho y K.fit v ?_))))
 cases hf:O.toList.findIdx? (λe=>(intKind Ω w).is k e.2) with
 |some j =>
  obtain⟨hj,e,_⟩:=List.findIdx?_eq_some_iff_getElem.1 hf;have hm:=sj hj;rw[OY Ω w (F _ hm),decide_eq_true_eq] at e;have Y:k∈ns:=J.mem_iff.1 (e▸List.mem_map_of_mem hm);apply ax;apply ax;show h s.heap o ag (a0A ..) ho ?_;rw[EG,Z_ Y];show⟨O,ep,t,Z,y,F,J,K,hs⟩
 |none =>
  have Y:k∉ns:=λz=>by obtain⟨e,n,ee⟩:=fz.1 (J.mem_iff.2 z);have q:=List.findIdx?_eq_none_iff.1 hf e n;rw[OY Ω w (F e n),ee] at q;simp at q
  dsimp only;have p1:=layNew_perm t O (hashInt k) (.int k tk);have t1:=K.layNew (hashInt k) (.int k tk);show av _ _ _ _ _ _;have eh:(intKind Ω w).hash k=hashInt k:=rfl;rw[eh];generalize layNew t O (hashInt k) (.int k tk)=L at p1 t1 ⊢;obtain⟨d,tb,wd,gv⟩:=L;rw[Yo] at p1;dsimp only at p1 t1 ⊢;have e1:∀e∈d.toList,BF e:=λe n=>by
   rcases dq.1 (p1.mem_iff.1 n) with z|z
   .exact F e z
   .exact ⟨k,tk,bx.1 z⟩
  have X:(d.toList.map nK).Perm (ns++[k]):=(p1.map nK).trans (by rw[gk];show J.append_right _);have l1:d.size=⇑ns+1:=by have q:=X.length_eq;simpa using q
  have z1:d.size<scanBound:=∅
  have fin:∀h' m,jl a s.heap h'->h'.get? a=aa m->mG led m (ns++[k])->Q af {s with heap:=h',toks:=s.toks+1}:=λh' m q1 q2 q3=>h h' m af q1 q2 (by rw[EG,Zz Y];show q3);have tail:∀l:SetTable,J0 led l d.size->av (aw Ω w) A (do
    storeSet a d l
    if(!wd&&l.tooFull)=af then do
      (match (relayAll l d (oz d.size)).2.2 with|true=>rule "set.scan.the-table-gave-way" | false=>pure ())
      storeSet a (relayAll l d (oz d.size)).1 (relayAll l d (oz d.size)).2.1
      pure (aa af)
     else pure (aa af)) (λr s'=>av (aw Ω w) A (match r with|some added=>pure added|none=>setAddHashedIn a (.int k tk) (hashInt k) 99999) Q E s') E {s with toks:=s.toks+1}:=λl t2=>by
   show ao (Rn (s:={s with toks:=s.toks+1}) ho y ?_ (uv z1));have g1:=stored (es':=d) (t':=l) ho y;have i1:mG led {o with data:=.set d (ep+1) l} (ns++[k]):=⟨d,ep+1,l,Z,rfl,e1,X,t2,z1⟩;split
   .have p:=relayAll_perm l d (oz d.size);have t3:=t2.Mq (oz d.size);generalize relayAll l d (oz d.size)=L at p t3 ⊢;obtain⟨I,tc,gv2⟩:=L;dsimp only at p t3 ⊢;have l2:I.size=d.size:=by have q:=p.length_eq;simpa using q
    show ao (calm gv2 _ _ (ao (Rn (s:={s with heap:=s.heap.update a (vk d l),toks:=s.toks+1}) g1 rfl (ax (ax ?_)) (uv ∅))));show fin _ _ ((jk ..).trans (jk ..)) (stored (s:={s with heap:=s.heap.update a (vk d l)}) g1 rfl) ⟨I,_,tc,Z,rfl,λe n=>e1 e (p.mem_iff.1 n),(p.map nK).trans X,t3,∅⟩
   .exact ax (ax (fin _ _ (jk ..) g1 i1))
  show ao (calm gv _ _ ?_);split
  .apply ao;apply ax;show tail _ t1
  .apply ao;apply ax;show tail _ t1
end
noncomputable def e8:List Int->List Int->List Int
 |ns,[]=>ns
 |ns,k::r=>e8 (EG ns k) r
def cL(w:az):Bool:=!(w.params.followText "set-order")
def iL(led:Bool):ay:={cls:=.type "set",dict:=ae,data:=.set #[] 0 (.fresh 0 0 led)}
def JM(led:Bool):mG led (iL led) []:=⟨#[],0,.fresh 0 0 led,⟨rfl,rfl,rfl⟩,rfl,λe a=>by simp at a,a1j,OW led,⋯⟩
def BG(ns:Q0e)(k:Int):⇑(EG ns k)<=⇑ns+1:=by
 unfold EG;split
 .omega
 .simp
section
variable{Ω:bb}{w:az}{A:bo}{E:Q0c}{s:ak}
theorem OZ(hh:A.handled=ae)(L:gd items.toList ns)(hI:t≠I)(j:S≠I)(U:S≠t)(hb:⇑ns+1<scanBound):
  ∀(r:Q0e) (i:Nat) (s:ak) (d:Q0e) (o:ay),r=ns.drop i->i<=⇑ns->s.heap.IsTupleIter I t i->s.heap.IsTuple t items->s.heap.get? S=aa o->mG led o d->⇑d<=i ->
   (∀h' a F,(∀b u,b≠S->b≠I->s.heap.get? b=aa u->h'.get? b=aa u)->h'.get? S=aa F->mG led F (e8 d r)->R (.ok (.ret .none)) {s with heap:=h',toks:=a})->ia (aw Ω w) A (.builtin "set.update.loop" ⟨[.ref S,.ref I],[]⟩) R s:=by
 have W:=Walks.tuple (prog:=Ω) (w:=w) (A:=A.in1) hh I t hI items;have hn:items.size=⇑ns:=by have q:=Bg L;simpa using q
 intro r
 induction r with
 |nil =>
  intro i s d o h y it m ho z _ fin;have e:i=items.size:=by have q:=congrArg qg h;rw[me,jn] at q;lia
  subst e;apply jv Wu;rw[lx Bh];unfold Builtin.«set.update.loop»;show ao (W.done s _ _ ⟨it,m⟩ λh' a keep=>ax ?_);show fin h' a o (λb u O h2 e=>keep b u ↑h2 e) (keep S o ↑j ho) z
 |cons k r ih =>
  intro i s d o h y it m ho z hm fin;have Z:i<⇑ns:=by have q:=congrArg qg h;rw[me,cn] at q;lia
  have ek:ns[i]?=aa k:=by
   have q:(ns.drop i)[0]?=aa k:=by rw[<- h];rfl
   rwa [Xw,Nat.add_zero] at q
  apply jv Wu;rw[lx Bh];unfold Builtin.«set.update.loop»;show ao (W.item i s _ _ ∅ ⟨it,m⟩ λv O a Y st keep=>?_);obtain⟨t1,rfl⟩:=IntsAre.int_at L i v (by rw[w_];show Y);have e2:ns.getD i 0=k:=by rw[nz,ek];rfl
  rw[e2];show ao (gp (add_int (s:={s with heap:=O,toks:=a}) (keep S o ↑j ho) z ∅ λh2 o2 _ p g2 X=>ax ⟨mq Bh _,?_⟩));have x:h2.IsTupleIter I t (i+1):=st.1.at λo e=>by rw[p.2 I (fj j)];show e
  have l:h2.IsTuple t items:=st.2.at λo e=>by rw[p.2 t (fj U)];show e
  show ih (i+1) {s with heap:=h2,toks:=a+1} _ o2 ?_ ∅ x l g2 X (cy (BG d k) ∅) λh3 n o3 k3 g3 i3=>fin h3 n o3 (λb u K J e=>k3 b u K J ?_) g3 i3
  .have q:=congrArg List.tail h;rw[List.tail_drop] at q;show q
  .show h2.get? b=aa u;rw[p.2 b K];show keep b u ↑J e
def S6(x:aj):MeetsIn Ω w (Builtin.«set.__new__» ⟨[.type "set",x],[]⟩) (λ_ R s=>R (.ok (.ret (.ref ↥s))) {s with heap:=s.heap.push (iL (cL w))}):=by
 show .of_wp λA R s h=>?_;have a:=Sr;unfold Builtin.«set.__new__» a1a newSet setsByText
 wp_walk
 apply zk;apply ax;dsimp only;erw[newObj];show ao (Se (ax (ax ⟨_,rfl,h⟩)))
theorem O0(v:gd items.toList ns)(o:S≠t)(I:⇑ns+1<scanBound):
  MeetsIn Ω w (Builtin.«set.__init__» ⟨[.ref S,.ref t],[]⟩) (λA R s=>A.handled=ae/\s.heap.IsTuple t items/\s.heap.get? S=aa (iL led) /\
   ∀h' j d,(∀b u,b≠S->b<↥s->s.heap.get? b=aa u->h'.get? b=aa u)->h'.get? S=aa d->mG led d (e8 [] ns)->R (.ok (.ret .none)) {s with heap:=h',toks:=j}):=by
 show .of_wp λA R s h=>?_;obtain⟨x,a,n,h⟩:=h;have T1:s.TypeIs (.ref S) "set":=⟨_,n,rfl⟩;have X:=a.typeIs;have L:=F.sub_tuple_set;have K:=F.sub_tuple_frozenset;obtain⟨O,m,z,U,y⟩:=id a;unfold Builtin.«set.__init__»;unfold noKeywords a07;generalize J:pyIter=P
 wp_walk
 subst J;have q:S<↥s:=bj n;have lt:t<↥s:=bj m;show qx a (ao (Rq ?_));show OZ (A:=A.in1) (t:=t) (S:=S) x v (de lt) (de q) o I ns 0 _ [] (iL led) rfl (g_ _) ⟨_,cz _ rfl,rfl,rfl⟩ (a.push _) (bu _ n) (JM led) (bf _) λh' j d keep g i=>?_;show ax (ax ⟨_,rfl,h h' j d (λb u p l e=>keep b u p (de l) (bu _ e)) g i⟩)
theorem O1(q:A.handled=ae)(p:gd items.toList ns)(o:s.heap.IsTuple t items)(v:⇑ns+1<scanBound)
  (h:∀h' d a,(∀b u,s.heap.get? b=aa u->h'.get? b=aa u)->h'.get? ↥s=aa a->mG (cL w) a (e8 [] ns)->Q (.ref ↥s) {s with heap:=h',toks:=d}):
  av (aw Ω w) A (call (.type "set") [.ref t]) Q E s:=by
 obtain⟨c,z,m1⟩:=lp.mro;have Y:=lp.made;have X:=lp.sub;have U:=lp.notType;have O:=lp.canCreate;have L:=F.typeCall_set_1 (.ref t);obtain⟨I,n,_⟩:=id o;have lt:t<↥s:=bj n;show uu (codeAny_of_tree (ax ⟨Vp _ (by decide+kernel),jv F.entry_type_call ?_⟩));rw[Around.under_plain (weight_type_call_type ..) (units_type_call_type ..)]
 wp_walk
 have y:ia (aw Ω w) A.in1 (.call (.builtin "set.__new__") ⟨[.type "set",.ref t],[]⟩) (λr l=>r=.ok (.ret (.ref ↥s))/\l={s with heap:=s.heap.push (iL (cL w))}) s :=
  uw F.plain_set_new F.entry_set_new (zg (F.newCall_set_1 _) (S6 (.ref t) A.in1 (λr l=>r=.ok (.ret (.ref ↥s))/\l={s with heap:=s.heap.push (iL (cL w))}) s ⟨rfl,rfl⟩))
 show qz y λr l m=>?_;obtain⟨rfl,rfl⟩:=m;dsimp only;have g1:(s.heap.push (iL (cL w))).get? ↥s=aa (iL (cL w)):=cz _ rfl;have T1:Shared.TypeIs {s with heap:=s.heap.push (iL (cL w))} (.ref ↥s) "set":=⟨_,g1,rfl⟩;have K:=lp.init.lookup;have J:=lp.init.bind (.ref ↥s)
 wp_walk
 have x:ia (aw Ω w) A.in1 (.call (.builtin "set.__init__") ⟨[.ref ↥s,.ref t],[]⟩) (λr j=>∃h' d a,r=.ok (.ret .none)/\j={s with heap:=h',toks:=d} /\
   (∀b u,s.heap.get? b=aa u->h'.get? b=aa u)/\h'.get? ↥s=aa a/\mG (cL w) a (e8 [] ns)) {s with heap:=s.heap.push (iL (cL w))} :=
  uw lp.init.plain F.entry_set_init (check_set_init_1 T1 (O0 (led:=cL w) p (nc lt) v A.in1 (λr j=>∃h' d a,r=.ok (.ret .none)/\j={s with heap:=h',toks:=d} /\
   (∀b u,s.heap.get? b=aa u->h'.get? b=aa u)/\h'.get? ↥s=aa a/\mG (cL w) a (e8 [] ns)) {s with heap:=s.heap.push (iL (cL w))} ⟨q,o.push _,g1,λh' d a keep g i =>
    ⟨h',d,a,rfl,rfl,λb u e=>keep b u (de (bj e)) (by rw[pf];show sg (bj e)) (bu _ e),g,i⟩⟩))
 show qz x λr j m=>?_;obtain⟨h',d,a,rfl,rfl,keep,g,i⟩:=m;show ax ?_;dsimp only;rw[Zz ⋯];show ax (h h' d a keep g i)
end
namespace Si
def slot_next:Slot "set_iterator" "__next__" "set_iterator.__next__":=Uh (owner:="set_iterator") (n:="__next__") (by rw[So,Tj];kernel_rfl) (by decide+kernel) (by decide+kernel) (by decide+kernel) (cb (by decide+kernel)) (by rw[S_];kernel_rfl)
def wL:Slot "set_iterator" "__iter__" "set_iterator.__iter__":=Uh (owner:="set_iterator") (n:="__iter__") (by rw[So,Tj];kernel_rfl) (by decide+kernel) (by decide+kernel) (by decide+kernel) (cb (by decide+kernel)) (by rw[S_];kernel_rfl)
def entry_next:entryFor table "set_iterator.__next__"=aa Builtin.«set_iterator.__next__»:=entryFor_of_tree (by kernel_rfl)
def args_next(a:aj):argsOk "set_iterator.__next__" ⟨[a],[]⟩:=by unfold argsOk;kernel_rfl
def JN(a:aj):argsOk "set_iterator.__iter__" ⟨[a],[]⟩:=by unfold argsOk;kernel_rfl
def EH:entryFor table "set_iterator.__iter__"=aa Builtin.«dict_keyiterator.__iter__» :=
 Tg (id':="dict_keyiterator.__iter__") (by kernel_rfl) (by decide+kernel) (by decide+kernel) (by kernel_rfl)
def t6:entryFor table "set.__iter__"=aa Builtin.«frozenset.__iter__» :=
 Tg (id':="frozenset.__iter__") (by kernel_rfl) (by decide+kernel) (by decide+kernel) (by kernel_rfl)
end Si
def nL(h:a_)(I S:ah)(f:aj)(i n a:Nat):Prop:=∃o,h.get? I=aa o/\o.cls=.type "set_iterator" /\o.data=.fields #[f,rawInt i,.ref S,rawInt n,rawInt a]
section
variable{Ω:bb}{w:az}{A:bo}{E:Q0c}{s:ak}
def nL.typeIs(x:nL s.heap I S f i n ep):s.TypeIs (.ref I) "set_iterator":=let ⟨o,ho,hc,_⟩:=x;⟨o,ho,hc⟩
def mC(a:w.params.followText "set-order"=b)(h:Q b s):av (aw Ω w) A setsByText Q E s:=by unfold setsByText;show ao (zk (ax ?_));rw[<- a] at h;show h
theorem mK(hw:cL w=af)(ho:s.heap.get? S=aa o)(m:o.data=.set es ep t)(a:J0 af t es.size)
  (l:¬ (!t.plain&&es.size>1)=af) (d:dc t.place q=i) (h:Q (match es[i]?,t.place[i]? with|some (_,x),aa j=>aa (x,j+1)|_,_=>ae) s) (k:Nat):av (aw Ω w) A (setNext S q k ep) Q E s:=by
 have n:w.params.followText "set-order"=ag:=by unfold cL at hw;simpa using hw
 unfold setNext;show ao (oo ho m a.fit ?_);dsimp only;show ao (mC n ?_);rw[Zz ⋯];split
 .rename_i z;show Zw z l
 show ao ?_;show av _ _ (if(!t.led && !es.isEmpty)=af then unsupported "set:maker-not-led" else pure ()) _ _ _;rw[a.led,Zz (by simp)];show ax ?_;rw[d];show ax h
theorem BH{I S:ah}{o:ay}{h:Array (Int×aj)}{j i q:Nat}{t:SetTable}{v:aj}{p:Nat}{Q:Option aj->ak->Prop}(ho:s.heap.get? S=aa o)(x:o.data=.set h j t)(n:t.fits h.size=af)(it:nL s.heap I S (rawInt q) i h.size j)
  (hN:∀(m:Option (aj×Nat)->ak->Prop) (z:Q0c),m (aa (v,p)) s->av (aw Ω w) A.in1 (setNext S q i j) m z s)
  (y:∀h',nL h' I S (rawInt p) (i+1) h.size j->jl I s.heap h'->Q (aa v) {s with heap:=h' }):av (aw Ω w) A (pyNext (.ref I)) Q E s:=by
 have tn:=it.typeIs;obtain⟨F,d,l,a⟩:=it;unfold pyNext;show ao (oq (la (name:=ll "__next__") tn Si.slot_next (gu Si.slot_next tn Si.entry_next ?_ (Si.args_next _))));unfold Builtin.«set_iterator.__next__»
 wp_walk
 rw[a];show ax ?_;dsimp only[rawInt];show ao (qw ho x n ?_);rw[Zz (by simp)];show ao (hN _ _ ?_);dsimp only;show ao (ku d a (by simp) ?_);have g1:=pj (Us (·.setIfInBounds 0 (ie (p:Int) 0))) d (rn (iy a _));show ao (ku (s:={s with heap:=s.heap.update I (Us (·.setIfInBounds 0 (ie (p:Int) 0)))}) g1 (iy a _) (by simp) (ax ⟨_,rfl,ax (y _ ⟨_,pj _ g1 (rn (iy (iy a _) _)),?_,?_⟩ ((jk ..).trans (jk ..)))⟩))
 .exact (vm ..).trans ((vm ..).trans l)
 .rw [iy (iy a _)];simp[rawInt]
theorem wM{I S:ah}{o:ay}{h:Array (Int×aj)}{j i q:Nat}{t:SetTable}{Q:Option aj->ak->Prop}(m:A.handled=ae)(ho:s.heap.get? S=aa o)(p:o.data=.set h j t)(n:t.fits h.size=af)(it:nL s.heap I S (rawInt q) i h.size j)
  (hN:∀(l:Option (aj×Nat)->ak->Prop) (z:Q0c),l ae s->av (aw Ω w) A.in1 (setNext S q i j) l z s)
  (x:∀h',Ak I s.heap h'->Q ae {s with heap:=h' }):av (aw Ω w) A (pyNext (.ref I)) Q E s:=by
 have tn:=it.typeIs;have y:A.in1.handled=ae:=m;obtain⟨F,d,v,a⟩:=it;unfold pyNext;show ao (oq (la (name:=ll "__next__") tn Si.slot_next (gu Si.slot_next tn Si.entry_next ?_ (Si.args_next _))));unfold Builtin.«set_iterator.__next__»
 wp_walk
 rw[a];show ax ?_;dsimp only[rawInt];show ao (qw ho p n ?_);rw[Zz (by simp)];show ao (hN _ _ ?_);dsimp only
 wp_walk using ku d a (by simp)
 unfold raiseNew;apply ao;apply zi;rw[y];show ao (ax (zd (ao ?_)));show qy (b:=af) (T:="StopIteration") ?_ Tb ?_
 .exact ⟨_,cz _ rfl,rfl⟩
 apply ax;apply x;show((jk ..).extBut.push _).push _
theorem O2{I S T:ah}{o:ay}{d:Array (Int×aj)}{p i j:Nat}{t:SetTable}{v:aj}{q:Int}{ps:Array aj}{Q:Option aj->ak->Prop}(ho:s.heap.get? S=aa o)(y:o.data=.set d p t)(x:t.fits d.size=af)(it:nL s.heap I S (.ref T) i d.size p)
  (z:s.heap.IsTuple T ps) (F:ps[i]?=aa (rawInt j)) (J:d[j]?=aa (q,v))
  (K:∀h',nL h' I S (.ref T) (i+1) d.size p->jl I s.heap h'->Q (aa v) {s with heap:=h' }):av (aw Ω w) A (pyNext (.ref I)) Q E s:=by
 have tn:=it.typeIs;obtain⟨U,h,n,a⟩:=it;obtain⟨X,l,_,Y,m⟩:=z;unfold pyNext;show ao (oq (la (name:=ll "__next__") tn Si.slot_next (gu Si.slot_next tn Si.entry_next ?_ (Si.args_next _))));unfold Builtin.«set_iterator.__next__»
 wp_walk
 rw[a];show ax ?_;dsimp only[rawInt];show ao (qw ho y x ?_);rw[Zz (by simp)];unfold seqItems?;show ao (ao (uq l ?_));rw[m];show ax ?_;have O:ps[((i:Nat):Int).toNat]?=aa (.int (j:Int) 0):=F;dsimp only;rw[O];dsimp only;unfold setNextDrawn;show ao (ao (oo ho y x ?_));dsimp only;rw[Zz (by simp)];have L:d[((j:Nat):Int).toNat]?=aa (q,v):=J;rw[L];show ax ?_;show ao (ku h a (by simp) (ax ⟨_,rfl,ax (K _ ⟨_,pj _ h (rn (iy a _)),?_,?_⟩ (jk ..))⟩))
 .exact (vm ..).trans n
 .rw [iy a];simp[rawInt]
theorem JO(n:A.handled=ae)(ho:s.heap.get? S=aa o)(q:o.data=.set es ep t)(p:t.fits es.size=af)(it:nL s.heap I S (.ref T) i es.size ep)
  (l:s.heap.IsTuple T ps) (m:ps[i]?=ae) (x:∀h',Ak I s.heap h'->Q ae {s with heap:=h' }):av (aw Ω w) A (pyNext (.ref I)) Q E s:=by
 have tn:=it.typeIs;have y:A.in1.handled=ae:=n;obtain⟨F,d,v,a⟩:=it;obtain⟨J,h,_,K,j⟩:=l;unfold pyNext;show ao (oq (la (name:=ll "__next__") tn Si.slot_next (gu Si.slot_next tn Si.entry_next ?_ (Si.args_next _))));unfold Builtin.«set_iterator.__next__»
 wp_walk
 rw[a];show ax ?_;dsimp only[rawInt];show ao (qw ho q p ?_);rw[Zz (by simp)];unfold seqItems?;show ao (ao (uq h ?_));rw[j];show ax ?_;have z:ps[((i:Nat):Int).toNat]?=ae:=m;dsimp only;rw[z];dsimp only
 wp_walk using ku d a (by simp),ku (pj _ d (rn (iy a _))) (iy a _) (by simp)
 unfold raiseNew;apply ao;apply zi;rw[y];show ao (ax (zd (ao ?_)));show qy (b:=af) (T:="StopIteration") ?_ Tb ?_
 .exact ⟨_,cz _ rfl,rfl⟩
 apply ax;apply x;show(((jk ..).trans (jk ..)).extBut.push _).push _
end
def JP(a:n≠0)(h:∀i d,i<n->Q i {s with drawn:=d}):av M A (choose src n) Q E s:=λl p j=>by unfold choose;show⟨a,h _ _ (W_ _ (Nat.pos_of_ne_zero a))⟩
theorem nM{α:Type}:∀(l:List α) (i:Nat) (x:α),l[i]?=aa x->l.Perm (x::l.eraseIdx i)
 |[],i,x,h=>by simp at h
 |a::l,0,x,h=>by simp at h;subst h;show Yc _
 |a::l,i+1,x,h=>by have q:=nM l i x ↑h;rw[Bw];show(q.cons a).trans (Yb ..)
theorem GS{α:Type}:∀(n:Nat) (l:List α) (s:ak) {Q:List α->ak->Prop},⇑l=n->(∀j d,j.Perm l->Q j {s with drawn:=d})->av M A (drawOrder n l) Q E s
 |0,l,s,Q,hl,h=>by have:l=[]:=ki.mp hl;subst this;unfold drawOrder;show ax (h [] s.drawn (Yc _))
 |n+1,[],s,Q,hl,h=>by simp at hl
 |n+1,a::l,s,Q,hl,h=>by unfold drawOrder;show ao (JP (by simp) λi d m=>?_);have e:(a::l)[i]?=aa ((a::l)[i]):=cm m;rw[e];show ao (GS n _ _ (by rw[Xs m];simp at hl ⊢;lia) λj d' o=>ax ?_);show h _ d' ((o.cons _).trans (nM _ _ _ e).symm)
theorem GU{α:Type}(f:Nat->Nat):∀(n k:Nat) (l:List α) (out:Array α),⇑l<=n->(zq f n k l out).toList.Perm (out.toList++l)
 |0,k,l,out,h=>by have:l=[]:=ki.mp (Nat.le_zero.mp h);subst this;unfold zq;rw[il]
 |n+1,k,l,out,h=>by
  unfold zq
  cases l with
  |nil=>simp
  |cons a l =>
   have d:f k%⇑(a::l)<⇑(a::l):=W_ _ (by simp);have e:(a::l)[f k%⇑(a::l)]?=aa ((a::l)[f k%⇑(a::l)]):=cm d;rw[e];show(GU f n (k+1) _ _ (by rw[Xs d];simp at h ⊢;lia)).trans ?_;rw[Yo,km];show a1k _ (nM _ _ _ e).symm
def p9{α:Type}(f:Nat->Nat)(xs:Array α):(pickOrder f xs).toList.Perm xs.toList:=by have q:=GU f xs.size 0 xs.toList #[] (by simp);simpa[pickOrder] using q
section
variable{Ω:bb}{w:az}{A:bo}{E:Q0c}{s:ak}
theorem pC(hw:cL w=ag)(ho:s.heap.get? S=aa o)(d:o.data=.set es ep t)(a:t.fits es.size=af)(q i:Nat)
  (h:Q (((pickOrder (w.params.setOrder S ep) es)[i]?).map λe=>(e.2,q)) s):av (aw Ω w) A (setNext S q i ep) Q E s:=by
 have j:w.params.followText "set-order"=af:=by unfold cL at hw;simpa using hw
 unfold setNext;apply ao;show oo ho d a ?_;dsimp only;show ao (mC j ?_);rw[Z_ rfl,Zz (by simp)];show ao ?_;unfold setWalk;apply ao;show oo ho d a ?_;dsimp only;show ao (mC j ?_);rw[Z_ rfl];show ao (zk (ax (ax h)))
def t7(x:nL h I S f i n ep)(k:∀o,h.get? I=aa o->h'.get? I=aa o):nL h' I S f i n ep:=let ⟨o,a,b⟩:=x;⟨o,k o a,b⟩
theorem yY(it:nL s.heap I S f i n ep)(h:Q (.ref I) s):av (aw Ω w) A (pyIter (.ref I)) Q E s :=
 Ru it.typeIs Si.wL (gu Si.wL it.typeIs Si.EH (ax ⟨_,rfl,_,_,it.typeIs,Si.slot_next.lookup,h⟩) (Si.JN _))
noncomputable def slotAt(t:SetTable):Nat->Nat
 |0=>0
 |i+1=>t.place.getD i 0+1
theorem t8(up:Up t.place.toList)(a:i<=t.place.size):dc t.place (slotAt t i)=i:=by
 cases i with
 |zero=>show BD up
 |succ i =>
  have e:t.place[i]?=aa (t.place.getD i 0):=by rw[xa,ka ∅];rfl
  show EE up e
def t9{t:SetTable}{n:Nat}(h:t.fits n=af):t.place.size=n:=by unfold Uj at h;simp at h;show h.1
theorem BI{I S:ah}{o:ay}{a:Array (Int×aj)}{J:Nat}{t:SetTable}(L:A.handled=ae)(hw:cL w=af)(K:S≠I)(l:o.data=.set a J t)(d:J0 af t a.size)(z:¬ (!t.plain&&a.size>1)=af):
  ou Ω w A I [I,S] [I] a.size (λi v=>(a.toList.map (·.2))[i]?=aa v) (λi h=>h.get? S=aa o/\i<=a.size/\nL h I S (rawInt (slotAt t i)) i a.size J) where
 sub:=λc F=>by simp at F;simp[F]
 frame:=λi h h' st k=>⟨k S (by simp) o st.1,st.2.1,t7 st.2.2 λo e=>k I (by simp) o e⟩
 item:=λi s R E n st j=>by
  obtain⟨ho,hle,it⟩:=st;have U:a[i]?=aa (a[i].1,a[i].2):=ka n;have sz:=t9 d.fit;have O:t.place[i]?=aa (t.place.getD i 0):=by rw[xa,ka ∅];rfl
  show BH (v:=a[i].2) (p:=slotAt t (i+1)) ho l d.fit it (λX Y q=>mK hw ho l d z (t8 d.up ∅) (by rw[U,O];show q) i) λh' m y=>?_;show j _ h' s.toks (by simp[n]) ⟨by rw[y.2 S K];show ho,n,m⟩ λb u x e=>by rw[y.2 b ↑x];show e
 done:=λs Q E st j=>by obtain⟨ho,hle,it⟩:=st;have sz:=t9 d.fit;show wM L ho l d.fit it (λX Y q=>mK hw ho l d z (t8 d.up ∅) (by rw[Ce ∅];show q) a.size) λh' ex=>?_;show j h' s.toks λb u x e=>ex b u ↑x e
 self:=λi s Q E st j=>yY st.2.2 j
theorem EI(J:A.handled=ae)(hw:cL w=ag)(z:S≠I)(j:o.data=.set es ep t)(d:t.fits es.size=af):
  ou Ω w A I [I,S] [I] es.size (λi v=>((pickOrder (w.params.setOrder S ep) es).toList.map (·.2))[i]?=aa v) (λi h=>h.get? S=aa o/\i<=es.size/\nL h I S (rawInt (0:Nat)) i es.size ep) where
 sub:=λc y=>by simp at y;simp[y]
 frame:=λi h h' st k=>⟨k S (by simp) o st.1,st.2.1,t7 st.2.2 λo e=>k I (by simp) o e⟩
 item:=λi s R E F st a=>by
  obtain⟨ho,hle,it⟩:=st;have sz:(pickOrder (w.params.setOrder S ep) es).size=es.size:=by have q:=(p9 (w.params.setOrder S ep) es).length_eq;simpa using q
  generalize K:pickOrder (w.params.setOrder S ep) es=P at sz a;have L:P[i]?=aa P[i]:=ka ∅;show BH (v:=P[i].2) (p:=0) ho j d it (λO U q=>pC hw ho j d 0 i (by rw[K,L];show q)) λh' l x=>?_;have m:i<P.size:=∅
  show a _ h' s.toks (by simp[m]) ⟨by rw[x.2 S z];show ho,F,l⟩ λb u n e=>by rw[x.2 b ↑n];show e
 done:=λs Q E st a=>by
  obtain⟨ho,hle,it⟩:=st;have sz:(pickOrder (w.params.setOrder S ep) es).size=es.size:=by have q:=(p9 (w.params.setOrder S ep) es).length_eq;simpa using q
  show wM J ho j d it (λO U q=>pC hw ho j d 0 es.size (by rw[Ce ∅];show q)) λh' ex=>?_;show a h' s.toks λb u n e=>ex b u ↑n e
 self:=λi s Q E st a=>yY st.2.2 a
theorem BJ{I S T:ah}{o:ay}{a:Array (Int×aj)}{U:Nat}{t:SetTable}{d:List Nat}(Y:A.handled=ae)(X:S≠I)(Dd:T≠I)(L:o.data=.set a U t)(K:t.fits a.size=af)(z:d.Perm (ck a.size)):
  ou Ω w A I [I,S,T] [I] a.size (λi v=>((d.map λj=>(a.toList.map (·.2)).getD j .none))[i]?=aa v)
   (λi h=>h.get? S=aa o/\h.IsTuple T ((d.map λj:Nat=>rawInt (j:Int)).toArray)/\nL h I S (.ref T) i a.size U) where
 sub:=λc O=>by simp at O;simp[O]
 frame:=λi h h' st k=>⟨k S (by simp) o st.1,st.2.1.at λo e=>k T (by simp) o e,t7 st.2.2 λo e=>k I (by simp) o e⟩
 item:=λi s R E hi st n=>by
  obtain⟨ho,p,it⟩:=st;have J:⇑d=a.size:=by have q:=z.length_eq;simpa using q
  have l:i<⇑d:=∅
  have m:d[i]<a.size:=by have q:=z.mem_iff.1 (sj l);simpa using q
  have Z:a[d[i]]?=aa (a[d[i]].1,a[d[i]].2):=ka m;show O2 (j:=d[i]) (v:=a[d[i]].2) ho L K it p (by simp[l]) Z λh' y x=>?_;show n _ h' s.toks (by simp[l,m]) ⟨by rw[x.2 S X];show ho,p.at λo e=>by rw[x.2 T Dd];show e,y⟩ λb u F e=>by rw[x.2 b ↑F];show e
 done:=λs Q E st n=>by
  obtain⟨ho,p,it⟩:=st;have J:⇑d=a.size:=by have q:=z.length_eq;simpa using q
  show JO Y ho L K it p (by simp[J]) λh' ex=>?_;show n h' s.toks λb u F e=>ex b u ↑F e
 self:=λi s Q E st n=>yY st.2.2 n
def Gives(Ω:bb)(w:az)(I:ah)(a:List ah)(vs:Q0f)(h:a_):Prop :=
 ∃(n:Nat) (P:Nat->aj->Prop) (St:Nat->a_->Prop),n=⇑vs/\(∀i v,P i v->vs[i]?=aa v)/\St 0 h /\∀A:bo,A.handled=ae->ou Ω w A I a [I] n P St
theorem O5(ho:s.heap.get? S=aa o)(d:o.data=.set es ep t)(a:t.fits es.size=af)
  (h:Q (cL w&&(!t.plain&&es.size>1)) s):av (aw Ω w) A (setDrawn S) Q E s:=by
 unfold setDrawn;apply ao;show oo ho d a ?_;dsimp only;show ao (mC (b:=!cL w) (by unfold cL;simp) (ax ?_));rw[Yl];show h
theorem O6(ho:s.heap.get? S=aa o)(hi:mG (cL w) o ns)
  (h:∀h' d I fp vs ms,(∀b u,s.heap.get? b=aa u->h'.get? b=aa u)->(∀b∈fp,b=S\/↥s<=b)->↥s<=I->gd vs ms->ms.Perm ns->Gives Ω w I fp vs h'->Q (.ref I) {s with heap:=h',drawn:=d}):
  av (aw Ω w) A (pyIter (.ref S)) Q E s:=by
 obtain⟨a,L,t,O,p,hE,hp,y,hs⟩:=hi;have tS:s.TypeIs (.ref S) "set":=⟨o,ho,O.1⟩;have lS:=bj ho;have VQ:∀l:List (Int×aj),(∀e∈l,BF e)->gd (l.map (·.2)) (l.map nK):=by
  intro l
  induction l with
  |nil=>intro _;show .nil
  |cons e l ih =>
   intro he;obtain⟨m,tk,rfl⟩:=he e b_;show .cons m tk (ih λx O=>he x (cq _ O))
 show Ru tS Va (gu Va tS Si.t6 ?_ (F.args_set_iter_1 _));unfold Builtin.«frozenset.__iter__» a08 a09;have step:∀(f:aj) (J:a_) (d:Drawn),(∀b u,s.heap.get? b=aa u->J.get? b=aa u)->(∀I:ah,I=J.objs.size->Q (.ref I) {s with heap:=J.push {cls:=.type "set_iterator",data:=.fields #[f,rawInt (0:Nat),.ref S,rawInt a.size,rawInt L]},drawn:=d}) ->
   av (aw Ω w) A.in1 (do ret (<- newFields "set_iterator" [f,rawInt 0,.ref S,rawInt a.size,rawInt (<- setEpoch S)])) (λfin s'=>∃v,fin=.done (.ret v) /\∃T' r,s'.TypeIs v T'/\typeLookup (.type T') "__next__"=pure (aa r)/\Q v s') E {s with heap:=J,drawn:=d}:=λf J d keep q=>by
  show ao (wpAny_setEpoch_of (s:={s with heap:=J,drawn:=d}) (keep S o ho) p y.fit ?_);show ao (kz (ax ⟨_,rfl,_,_,⟨_,cz _ rfl,rfl⟩,Si.slot_next.lookup,q _ rfl⟩))
 wp_walk using qw ho p y.fit,O5 ho p y.fit
 by_cases n:(cL w&&(!t.plain&&Zv (a.size>1)))=af
 .rw [Z_ n];rw[fm] at n;show ao (GS a.size (ck a.size) s (by simp) λjs d hj=>?_);have lj:⇑js=a.size:=by have q:=hj.length_eq;simpa using q
  show ao (Rz ?_ (by rw[bp,lj];show uv hs));show step (.ref ↥s) _ d (λb u e=>bu _ e) λI eI=>?_;have zI:@Eq Nat I (↥s+1):=by rw[eI,pf]
  have qr:S≠I:=λz=>by rw[z,zI] at lS;show Zw (Nat.lt_of_succ_lt lS) (gf _)
  have Cz:↥s≠I:=λz=>by rw[zI] at z;show Bi _ z.symm
  have K:↥s<=I:=by rw[zI];show l_ _
  show h _ d I [I,S,↥s] (js.map λj=>(a.toList.map (·.2)).getD j .none) (js.map λj=>(a.toList.map nK).getD j 0) (λb u e=>bu _ (bu _ e)) (λb X=>?_) K ?_ ?_ ⟨a.size,_,_,by simp[lj],λi v q=>q,?_,λA' Y=>BJ Y (t:=t) qr Cz p y.fit hj⟩
  .erw[i_,bh,or_false] at X;rcases X with z|z|z
   .exact .inr (z▸K)
   .exact .inl z
   .exact .inr (jm z.symm)
  .have all:∀l:List Nat,(∀j∈l,j<a.size)->gd (l.map λj=>(a.toList.map (·.2)).getD j .none) (l.map λj=>(a.toList.map nK).getD j 0):=by
    intro l
    induction l with
    |nil=>intro _;show .nil
    |cons j l ih =>
     intro hl;have U:=hl j b_;obtain⟨m,tk,e⟩:=hE a[j] (by simp[Array.getElem_mem]);have e1:(a.toList.map (·.2)).getD j .none=.int m tk:=by simp[U,e]
     have e2:(a.toList.map nK).getD j 0=m:=by simp[U,e,nK]
     rw[bt,bt,e1,e2];show .cons m tk (ih λx O=>hl x (cq _ O))
   show all js λj hm=>by have q:=hj.mem_iff.1 hm;simpa using q
  .refine ((hj.map _).trans ?_).trans hp;have e:(ck a.size).map (λj=>(a.toList.map nK).getD j 0)=a.toList.map nK:=by
    show wt λi=>?_;by_cases hi:i<a.size
    .simp [hi]
    .simp [hi]
   rw[e]
  .refine ⟨bu _ (bu _ ho),⟨_,bu _ (cz _ rfl),rfl,_,rfl⟩,⟨_,by rw[eI];show cz _ rfl,rfl,rfl⟩⟩
 .rw [Zz n];show ao (ax (step (rawInt 0) s.heap s.drawn (λb u e=>e) λI eI=>?_));have K:↥s<=I:=jm eI.symm;have qr:S≠I:=λz=>by rw[z,eI] at lS;show Zw lS (gf _)
  have η:∀f,nL (s.heap.push {cls:=.type "set_iterator",data:=.fields #[f,rawInt (0:Nat),.ref S,rawInt a.size,rawInt L]}) I S f 0 a.size L:=λf=>⟨_,by rw[eI];show cz _ rfl,rfl,rfl⟩;have Z:∀b∈[I,S],b=S\/↥s<=b:=λb X=>by
   erw[i_,bh,or_false] at X;rcases X with z|z
   .exact .inr (z▸K)
   .exact .inl z
  cases hw:cL w with
  |true =>
   have hpl:¬ (!t.plain&&a.size>1)=af:=λz=>n (by rw[hw,z];rfl);show h _ s.drawn I [I,S] (a.toList.map (·.2)) (a.toList.map nK) (λb u e=>bu _ e) Z K (VQ _ hE) hp
    ⟨a.size,_,_,by simp,λi v q=>q,⟨bu _ ho,g_ _,η _⟩,λA' Y=>BI Y hw qr p (hw▸y) hpl⟩
  |false =>
   have pp:=p9 (w.params.setOrder S L) a;show h _ s.drawn I [I,S] ((pickOrder (w.params.setOrder S L) a).toList.map (·.2)) ((pickOrder (w.params.setOrder S L) a).toList.map nK) (λb u e=>bu _ e) Z K (VQ _ λe he=>hE e (pp.mem_iff.1 he)) ((pp.map nK).trans hp)
    ⟨a.size,_,_,by have q:=pp.length_eq;simp at q ⊢;lia,λi v q=>q,⟨bu _ ho,g_ _,η _⟩,λA' Y=>EI Y hw qr p y.fit⟩
def O7(ho:s.heap.get? S=aa o)(d:o.cls=.type "set")(h:Q ag s):av (aw Ω w) A (Ax (.ref S)) Q E s:=by
 have a:s.TypeIs (.ref S) "set":=⟨o,ho,d⟩;have e:splitId "set.__len__"=aa ("set","__len__"):=by kernel_rfl
 show av _ _ (Ax _) _ _ _;unfold Ax;show ao (um a F.slot_set_len.lookup ?_);dsimp only;rw[e];dsimp only;show ao (qy a Sr ?_);rw[Zz ⋯,Z_ (by kernel_rfl)];show ao (om a (ax h))
def EJ(hh:A.handled=ae)(ho:s.heap.get? S=aa o)(U:mG (cL w) o ns)(x:s.heap.get? L=aa {cls:=.type "list",data:=.seq #[] c0})
  (hR:∀h' d tk ψ a v,(∀b u,b≠L->s.heap.get? b=aa u->h'.get? b=aa u)->h'.get? L=aa {cls:=.type "list",data:=.seq ψ a }->gd ψ.toList v->v.Perm ns->R (.ok (.ret res)) {s with heap:=h',drawn:=d,toks:=tk}):
  av (aw Ω w) A.in1 (Ay (.ref L) (.ref S) res) (λfin s'=>match fin with | .done f=>R (.ok f) s' | .again a=>a.quiet=af/\ia (aw Ω w) A a R s') (λe s'=>R (.error e) s') s:=by
 have l:o.ExactSet:=by obtain⟨_,_,_,l,_⟩:=U;show l
 have O:⇑ns<scanBound:=by obtain⟨es,_,_,_,_,_,hp,_,hs⟩:=U;rw[<- hp.length_eq];simpa using hs
 have Z:L≠S:=λz=>by rw[z,ho] at x;cases x;have q:=l.1;simp at q
 have K:=bj x;show av _ _ (Ay _ _ _) _ _ _;unfold Ay;show ao (om (T:="set") ⟨o,ho,l.1⟩ ?_);have y:Vy (.ref L) (.ref S)=ag:=by simp[Vy,Z]
 rw[Zz (by rw[y];decide)];show ao (O6 (A:=A.in1) ho U λm d I fp vs v keep X gI hv hm gv=>?_);show ao (gp (O7 (s:={s with heap:=m,drawn:=d}) (keep S o ho) l.1 ?_));rw[Z_ (by kernel_rfl)];unfold a06;have g1:=keep L _ x;have gb:∀(f:Array aj->Array aj) (g:a_) (c:Nat) (xs:Array aj),g.get? L=aa {cls:=.type "list",data:=.seq xs c} ->∃a,(g.update L (ke f)).get? L=aa {cls:=.type "list",data:=.seq (f xs) a }:=λf g c xs e=>⟨_,Wj e f⟩;show ao (iq (ao (ao (vz (s:={s with heap:=m,drawn:=d}) g1 rfl ?_ (g_ _) (by simp)))));obtain⟨c2,g2⟩:=gb (·.push .none) m _ _ g1;show vz (s:={s with heap:=m.update L (ke (·.push .none)),drawn:=d}) g2 rfl ?_ (by simp;rw[df];lia) (by simp);obtain⟨c3,g3⟩:=gb (·.pop) _ _ _ g2;obtain⟨n,P,St,en,hP,J,W⟩:=gv;have Yv:L≠I:=λz=>by rw[z] at K;show Zw (e_ K gI) (gf _)
 have xl:L∉fp:=λz=>by
  rcases X L z with q|q
  .exact Z q
  .exact Zw (e_ K q) (gf _)
 have W1:=(W A.in1 hh).toS;have nn:n<=bc:=by rw[en,Bg hv,hm.length_eq];show uv O
 show ax ⟨mq F.plain_extend_loop _,codeAny_extend_loopS W1 nn L xl res n 0 _ #[] _ rfl (g_ _) (W1.frame 0 {s with heap:=m,drawn:=d} _ s.toks J (bf _) λb hb u e=>?_) g3 (ItemsOf.nil _) λs' ψ a p Y it=>?_⟩
 .have h:L≠b:=λz=>xl (z▸hb);show(r9 _ _ h).trans ((r9 _ _ h).trans e)
 .have es':s' = {s with heap:=s'.heap,drawn:=d,toks:=s'.toks}:=by obtain⟨h',g',d',t',o'⟩:=s';have q1:=p.gens;have q2:=p.drawn;have q3:=p.os;dsimp only at q1 q2 q3;subst q1;subst q2;subst q3;rfl
  have ev:ψ.toList=vs:=by
   show wt λj=>?_;by_cases hj:j<n
   .have y:ψ[j]?=aa (ψ[j]'(by rw[it.1];show hj)):=ka _;rw[w_,y];show(hP j _ (it.2 j _ y)).symm
   .rw [kl (by simp[it.1];lia),kl ∅]
  rw[es'];show hR _ d _ ψ a v (λb u h e=>p.heap b u (λz=>?_) ?_) Y (ev▸hv) hm
  .rcases bh.1 z with q|q
   .exact h q
   .rw [bx] at q;rw[q] at e;show Zw (e_ (bj e) gI) (gf _)
  .exact (r9 _ _ (fj h)).trans ((r9 _ _ (fj h)).trans (keep b u e))
theorem BK(q:A.handled=ae)(ho:s.heap.get? S=aa o)(p:mG (cL w) o ns)
  (h:∀h' d j vs a,↥s<=h'.objs.size->(∀b u,s.heap.get? b=aa u->h'.get? b=aa u)->gd vs a->a.Perm ns->Q vs {s with heap:=h',drawn:=d,toks:=j}):av (aw Ω w) A (collect (.ref S)) Q E s:=by
 unfold collect;apply ao;apply Rq;show jv F.entry_proto_collect ?_;rw[lx F.plain_proto_collect]
 wp_walk
 show⟨mq Ve _,jv F.entry_list_iadd ?_⟩;rw[lx Ve];show EJ (R:=wants _ _) (s:={s with heap:=s.heap.push {cls:=.type "list",data:=.seq #[]} }) q (bu _ ho) p (cz _ rfl) λh' d j ψ v a keep l m n=>?_;apply ao;apply uq l;show ax (h h' d j ψ.toList a (jy (bj l)) (λb u e=>keep b u (de (bj e)) (bu _ e)) m n)
theorem EK(F:A.handled=ae)(ho:s.heap.get? S=aa o)(z:mG (cL w) o ns)(I:⇑ns<64)
  (h:∀h' d j l out a e,(∀b u,s.heap.get? b=aa u->h'.get? b=aa u)->↥s<=l->gd out a->a.Perm ns->a.Pairwise (· <= ·)->h'.get? l=aa (seqObj "list" out.toArray e)->Q (.ref l) {s with heap:=h',drawn:=d,toks:=j}):
  av (aw Ω w) A (call (.builtin "sorted") [.ref S]) Q E s:=by
 apply Vq Wi Wh Wl (Ws _);unfold Builtin.«sorted»;show ao (m:=checkCount "sorted" 1 1 _) (ax (ao (BK (A:=A.in1) F ho z λx d j vs O l1 keep p v=>?_)));have y:⇑vs<64:=by rw[Bg p,v.length_eq];show I
 apply ao;show zh ?_ (by rw[df];lia);have g1:(x.push (seqObj "list" vs.toArray 0)).get? x.objs.size=aa (seqObj "list" vs.toArray 0):=cz _ rfl;show ao (gp (gu We ⟨_,g1,rfl⟩ Wm (list_sort_tree g1 p y λout a L K J=>⟨_,rfl,?_⟩) (Wt _)));obtain⟨e,g2⟩:=sortedHeap_at (out:=out) g1;show ax ⟨_,rfl,h _ d j _ out.toList a e (λb u q=>?_) l1 L (K.trans v) J ↑g2⟩;have n:=bj (keep b u q);rw[sortedHeap_old (de n) (by rw[pf];show sg n)];show bu _ (keep b u q)
end
open L2 L3 L4
theorem qU:∀(ks ns:Q0e),e8 ns ks=ks.foldl putN ns
 |[],ns=>rfl
 |k::ks,ns=>by rw[e8,qU ks,wq];rfl
theorem uA:∀(ks ns:Q0e),⇑(e8 ns ks)<=⇑ns+⇑ks
 |[],ns=>bf _
 |k::ks,ns=>by have a:=uA ks (EG ns k);have b:=BG ns k;rw[e8,cn];lia
def ZN(w:az)(a:ah)(ns:Q0e):HO:=.ext λh=>∃o,h.get? a=aa o/\mG (cL w) o ns
variable{X:Cx}
def JQ(I:Φ X π σ H s):Φ X π σ H {s with drawn:=d}:=⟨I.ok,I.os,I.bare,I.ω,I.loc,I.cell,I.free,I.fG,I.pin,I.hok,I.len⟩
def Dt(w:az)(K:aq):List V->Hp->VK->Prop:=λxs H Q=>∃(a:ah) (ns:Q0e),xs=[.ref a]/\eR K H a (ns.map V.int)/\⇑ns<64 /\∀p,H p=ae->Q (.ref p) (upd H p (ZN w p (e8 [] ns)))
def JR(J:X.calm=af):eB X (.type "set") (Dt X.w X.K):=by intro π s σ H xs U Q I r h;obtain⟨a,ns,rfl,L,gn,q⟩:=h;obtain⟨u,rfl,p⟩:=vals1 r;cases p;obtain⟨l,n,d,hz⟩:=I.tuple L;have y:=intsAre_of n;obtain⟨Y,x,F,Z,A⟩:=id d;show O1 (items:=l.toArray) (ns:=ns) (I.ok.hd J) ↑y d (by unfold scanBound;lia) λh' m j keep g i=>?_;show⟨.ref ↥s,_,I.laid (t':=m) (o:=ZN X.w ↥s (e8 [] ns)) keep (bf _) ⟨⟨j,g,i⟩,⟨j,g⟩,λh1 h2 z k=>?_⟩,rfl,q _ (I.hok.fresh (bf _))⟩;obtain⟨o2,O,v⟩:=z;show⟨o2,k o2 O,v⟩
def ZO(w:az):List V->Hp->VK->Prop:=λxs H Q=>∃(a:ah) (ns:Q0e),xs=[.ref a]/\H a=aa (ZN w a ns)/\⇑ns<64 /\∀d:Q0e,d.Perm ns->d.Pairwise (· <= ·) ->∀p,H p=ae->Q (.ref p) (upd H p (.lst (d.map V.int)))
def EL(z:X.calm=af):eB X (.builtin "sorted") (ZO X.w):=by
 intro π s σ H xs O Q I r h;obtain⟨a,ns,rfl,A,F,q⟩:=h;obtain⟨u,rfl,x⟩:=vals1 r;cases x;obtain⟨⟨o,ho,y⟩,_⟩:=I.hok a _ A;show EK (I.ok.hd z) ho y F λh' d v l out j e keep n K p J g=>?_;have m:⇑j<=bc:=by rw[p.length_eq,df];lia
 have L:=I.laid (t':=v) (a:=l) (o:=.lst (j.map V.int)) keep n ⟨by rw[bp];show m,out,e,l9 K,by simpa[seqObj] using g⟩;show⟨.ref l,_,JQ (d:=d) L,rfl,q j p J l (I.hok.fresh n)⟩
def EM(J:X.calm=af)(hm:X.mg "sorted"=ae)(o:X.mg "set"=ae)(ha:pZ X [e] t)(hg:Gl X "sorted"<|>0)(q:Gl X "set"<|>0)
  (hs:Zr X e []<|>0) (I:(ar [.Call (.Name "set" p2) [e] [] pos2] X.env=(ag,eval (.Call (.Name "set" p2) [e] [] pos2) X.env)::ar [] X.env)<|>0):
  lI X (.Call (.Name "sorted" p) [.Call (.Name "set" p2) [e] [] pos2] [] ν) (bL eE t) :=
 imp (jP (EL J) hg hm A_ (cJ (pS (JR J) q o a0w ha ⋯ ⋯ hs (by rfl)) iF I) ⋯ ⋯ I (by rfl)) λσ H Q Mp=>by
  obtain⟨S,ρ,Q3,fc,Y,⟨d,h,Z⟩,k⟩:=Mp;obtain⟨ds,x,h⟩:=bnd h;show⟨S,ρ,λL=>L=ds,fc,Y,⟨_,x,rfl⟩,λvs H1 L y O q1=>?_⟩;subst q1;unfold eE at h;split at h
  .rename_i a;obtain⟨ns,e1,h⟩:=bnd h;by_cases m:⇑ns<64
   .rw [Z_ m] at h;cases h;rw[ints_of e1] at O;obtain⟨v,r,rfl,K,h2⟩:=O.bH;erw[aM] at h2;subst h2;symm at K;obtain⟨t1,xs,rfl,A,dt⟩:=K;rw[aM.ints.mp dt] at A;show⟨t1,ns,rfl,(eR.of A),m,λp F=>⟨p,e8 [] ns,rfl,aN,Bl (uA ns []) ↑m,λn z U l j=>?_⟩⟩;have e3:n=sortI (xA ns):=by have e4:e8 [] ns=xA ns:=qU ns [];rw[e4] at z;show nJ (z.trans (lM _).symm) U (jG _)
    subst e3;have l1:H1 l=ae:=(aI F).free j;show k l _ _ _ (y.free l1) aN ((y.trans (aI F)).trans (aI j)) (aM.ints.mpr rfl) Z
   .rw [Zz m] at h;cases h
  .cases h
def EN:fillsNumberSlot (.type "tuple") "mul"=pure ag :=
 PySem.fillsNumberSlot_seq (id:="tuple.__mul__") (r:=aa (.builtin "tuple.__rmul__")) Al.lookup (by decide+kernel) Ux.lookup (by decide+kernel)
def EO:seqRepeat? (.type "tuple")=pure (aa (.builtin "tuple.__mul__")):=by unfold seqRepeat?;rw[Su (T:="tuple") (name:="__mul__") (id:="tuple.__mul__") Al.lookup (by decide+kernel),Su (T:="tuple") (name:="__rmul__") (id:="tuple.__rmul__") Ux.lookup (by decide+kernel)];rfl
section
variable{Ω:bb}{w:az}{A:bo}{E:Q0c}{s:ak}
def O8(a:Int)(l:f_)(t:ah)(items:Array aj):Meets (Builtin.«int.__rmul__» ⟨[.int a l,.ref t],[]⟩) (λ_ R s=>gc s.heap t items/\R (.ok (.ret Value.notImplemented)) s):=by
 show .of_wp λq o z y s h=>?_;obtain⟨j,h⟩:=h;have p:=j.typeIs;obtain⟨v,m,n,x,d⟩:=id j
 wp_walk
 rw[d];show ax ?_;show ao (iq (ax ⟨_,rfl,h⟩))
theorem S7(x:Int)(q:f_)(t:ah)(items:Array aj)(Z:-(2^63:Int)<=x/\x<2^63)(l:items.size*x.toNat<=2^24):Meets (Builtin.«tuple.__mul__» ⟨[.ref t,.int x q],[]⟩) (λ_ R s=>gc s.heap t items /\
  (items.isEmpty=af\/x=1->R (.ok (.ret (.ref t))) s)/\(items.isEmpty=ag->x≠1->R (.ok (.ret (.ref ↥s))) {s with heap:=s.heap.push {cls:=.type "tuple",data:=.seq ((bw x.toNat items).foldl (· ++ ·) #[])} })):=by
 show .of_wp λU O A0 R0 s h=>?_;obtain⟨m,z,h2⟩:=h;have p:=m.typeIs;obtain⟨X,v,y,Y,j⟩:=id m;have J:(Zv (x < -2^63)||Zv (x >= 2^63))=ag:=by rw[Zy ∅,Zy ∅];rfl
 wp_walk
 rw[Zz (by rw[J];decide)]
 wp_walk
 rw[j];apply ax;apply ax;by_cases d:(items.isEmpty||x == 1)=af
 .rw [Z_ d];show ao (ao (om p (ax ?_)));rw[Z_ ⋯];show ao (iq (ax ⟨_,rfl,z ↑d⟩))
 .rw [Zz d];have a:items.isEmpty=ag/\x≠1:=by simpa using d
  have h2:=h2 a.1 a.2;dsimp only;by_cases o:x<=0
  .rw [Z_ (by rw[Zx o];rfl)];have K:x.toNat=0:=∅
   rw[K] at h2;show ao (kz (ax ⟨_,rfl,h2⟩) (g_ _))
  .have L:(items.size:Int)*x<=2^24:=by
    have I:x=(x.toNat:Int):=∅
    rw[I]
    exact_mod_cast l
   rw[Zz (by rw[Zy o,a.1];decide),Zz ∅,Zz (by unfold a0Z;rw[df];simp;lia)];have F:∀(n:Nat) (ψ:Array aj),((bw n items).foldl (· ++ ·) ψ).size=ψ.size+n*items.size:=by
    intro n
    induction n with
    |zero=>intro ψ;simp
    |succ n ih=>intro ψ;rw[ig,wq,ih,Yr,Nat.succ_mul];lia
   show ao (kz (ax ⟨_,rfl,h2⟩) ?_);show((bw x.toNat items).foldl (· ++ ·) #[]).size<=bc;rw[F,df,Wz];simpa using l
theorem S8(a:gc s.heap t items)(h:-(2^63:Int)<=x/\x<2^63)(d:items.size*x.toNat<=2^24)(j:items.isEmpty=af\/x=1->Q (.ref t) s)
  (h2:items.isEmpty=ag->x≠1->Q (.ref ↥s) {s with heap:=s.heap.push {cls:=.type "tuple",data:=.seq ((bw x.toNat items).foldl (· ++ ·) #[])} }):av (aw Ω w) A (binaryOp .Mult (.ref t) (.int x u)) Q E s :=
 wpAny_binaryOp_repeat_ref (T:="tuple") (U:="int") ⋯ a.typeIs (λs'=>zo s' x u) EN PySem.F.fills_int_mul Vd EO PySem.F.slot_int_index.lookup
  (lg Vd (zo s x u) PySem.F.entry_int_rmul (PySem.F.args_int_rmul_2 _ _) (O8 x u t items) ⟨a,rfl,a.typeIs,lg Al a.typeIs PySem.F.entry_tuple_mul (PySem.F.args_tuple_mul_2 _ _) (S7 x u t items h d) ⟨a,j,h2⟩⟩)
variable{X:Cx}
def Mo(K:aq):R2:=λx y H Q=>∃a n xs,x=.ref a/\y=.int n/\eR K H a xs/\(-(2^63)<=n/\n<2^63)/\⇑xs*n.toNat<=bc/\(xs=[]\/n=1->Q (.ref a) H)/\(xs≠[]->n≠1 ->∀p,H p=ae->Q (.ref p) (upd H p (.tup (bw n.toNat xs).flatten)))
theorem wN(items:Q0f):∀(n:Nat) (ψ:Array aj),((bw n items.toArray).foldl (· ++ ·) ψ).toList=ψ.toList++(bw n items).flatten
 |0,ψ=>by simp
 |n+1,ψ=>by rw[ig,wq,wN items n,ig,sk];simp
def S9:iQ X (binaryOp .Mult) (Mo X.K):=by
 intro π s σ H x y v u Q I L J h;obtain⟨a,n,xs,rfl,rfl,Y,U,m,q1,q2⟩:=h;cases L;obtain⟨Z,rfl⟩:=J;obtain⟨d,l,O,_⟩:=I.tuple Y;have p:=⇑l;have q:d.toArray.isEmpty=af↔xs=[]:=by rw[<- ki,p];simp
 show S8 (items:=d.toArray) O U (by simpa[<- p,df] using m) (λz=>?_) λj F=>?_
 .exact ⟨.ref a,H,I,rfl,q1 (z.imp q.1 id)⟩
 .have ne:xs≠[]:=λz=>by rw[q.2 z] at j;cases j
  show⟨.ref ↥s,_,I.laid (t':=s.toks) (o:=.tup (bw n.toNat xs).flatten) (λb o e=>bu _ e) (bf _) ⟨?_,(bw n.toNat d).flatten,l.rep _,⟨_,cz _ rfl,rfl,0,?_⟩,z7.new _ _⟩,rfl,q2 ne F _ (I.hok.fresh (bf _))⟩
  .have:⇑(bw n.toNat xs).flatten=⇑xs*n.toNat:=by simp[Wz]
   rw[this];show m
  .show Vm _ _=Vm _ _;congr 1;apply Array.toList_inj.mp;rw[wN];simp
theorem BL{K:aq}{S:ah->Prop}{H:Hp}{ds:List D}{xs:List V}(h:aM K S H ds xs):∀n:Nat,aM K S H (bw n ds).flatten (bw n xs).flatten
 |0=>aM.nil
 |n+1=>by rw[ig,ig,sk,sk];show h.append (BL h n)
def O9(h:rQ a b=aa d):∃ds n,a=.tup ds/\b=.int n/\(⇑ds*n.toNat<=g8/\n.natAbs<9223372036854775808)/\d=.tup (bw n.toNat ds).flatten:=by
 unfold rQ at h;split at h
 .split at h
  .rename_i z;cases h;show⟨_,_,rfl,rfl,z,rfl⟩
  .cases h
 .cases h
def Mn(Y:aW X a fa)(U:aW X b fb):aW X (.BinOp a .Mult b ν) (aB rQ fa fb):=imp (MF S9 Y U) λσ H Q Mm=>by
 obtain⟨S,ρ,Q3,K,x,⟨d,h,y⟩,k⟩:=Mm;obtain⟨dx,ex,h⟩:=bnd h;obtain⟨dy,Z,h⟩:=bnd h;obtain⟨ds,n,rfl,rfl,o,rfl⟩:=O9 h;show⟨S,ρ,λz=>z=.tup ds,K,x,⟨_,ex,rfl⟩,λv H1 d1 l O e1=>?_⟩;subst e1;show⟨S,ρ,λz=>z=.int n,aR K l,Sl.fits (.same l) x,⟨_,Z,rfl⟩,λv2 H2 d2 m L e2=>?_⟩;subst e2;symm at L;subst L;have j:=Dn.fits (.same m) _ _ O;symm at j;obtain⟨t,xs,rfl,I,q⟩:=j;have F:=q.len;show⟨t,n,xs,rfl,rfl,(eR.of I),⟨by have:=o.2;lia,by have:=o.2;lia⟩,by rw[<- F,df];show o.1,λz=>?_,λz1 z2 p J=>?_⟩
 .refine k _ H2 _ (l.trans m) ?_ y;have e:(bw n.toNat ds).flatten=ds:=by
   rcases z with z|z
   .have:ds=[]:=ki.mp (by rw[F,z];rfl);rw[this];simp
   .rw [z];simp
  rw[e];symm;show⟨t,xs,rfl,I,q⟩
 .refine k _ _ _ ((l.trans m).trans (aI J)) ?_ y;symm;show⟨p,_,rfl,aN,aM.fits (.same (aI J)) _ _ (BL q _)⟩
end
end L6
namespace L7
open PySem.Spec PyProof.Rows L2 L3 L4 LL
section
variable(rd:List Int->List (List Int))
abbrev All:ah->Prop:=λ_=>True
end
def At(K:aq)(x:Q0a)(a:Q0e)(p:ah)(σ:L2.St)(H:Hp):Prop :=
 ∃d h,σ[0]?=aa (aa d)/\Dn K All H (bE x) d/\σ[1]?=aa (aa h)/\Dn K All H (τ a) h/\σ[2]?=aa (aa (.ref p))
section
variable{K:aq}{rd:List Int->List (List Int)}{x:Q0a}{Ok:List Int->Prop}{a:Q0e}{p:ah}{σ:L2.St}{H:Hp}{χ:List (List Key×V)}
structure Parts (K:aq) (rd:List Int->List (List Int)) (x:Q0a) (a:Q0e) (C1:TT) (T1:TE) (T3:TS):Prop where
 c1:∀p σ H Q,At K x a p σ H->(∀H',ξ H H'->Q (Zv (⇑a=⇑x)) H')->C1 σ H Q
 t1:∀σ H (Q:VK),(∀H',ξ H H'->Q (.int 1) H')->T1 σ H Q
 t3:∀p (D:Ends) σ H,⇑σ=4->At K x a p σ H->⇑a<⇑x->(∀(σ':L2.St) (H':Hp) (l:ah) (ps:List ah),ξ H H'->At K x a p σ' H'->σ'[3]?=aa (aa (.ref l))->H' l=aa (.lst (ps.map V.ref))->⇑ps=⇑(rd a) ->
  (∀(i:Nat) (q:ah) (b:Q0e),ps[i]?=aa q->(rd a)[i]?=aa b->H' q=aa (.tup (b.map V.int)))->D.nx σ' H')->T3 D σ H
def wst(x:Q0a)(a:Q0e)(p:ah):bG:=[.ro (bE x),.ro (τ a),.ro (.exc "" p),.no]
theorem At.st(h:At K x a p σ H):ST K H All (λ_=>0) σ H (wst x a p) []:=by
 have no:∀(i:Nat) (d:D),(wst x a p)[i]?≠aa (Sv.ow d):=λi d e=>by
  match i,e with
  |0,e=>cases e
  |1,e=>cases e
  |2,e=>cases e
  |3,e=>cases e
  |n+4,e=>simp[wst] at e
 obtain⟨l,o,A,h2,z,y,v⟩:=h;show⟨λ_ _=>trivial,ξ.refl H,λi d e=>Zw e (no i d),λi j d e h=>Zw h (no i d),λi d e=>?_,λg q=>(by cases q),λi _ e=>Zw e (no i _)⟩;have m:∀b,All b->SO All (λ_=>0) (wst x a p) b:=λb _=>⟨trivial,λi d e=>Zw e (no i d)⟩
 match i,e with
 |0,e=>cases e;show⟨l,A,Dn.fits (.mono m) _ _ h2⟩
 |1,e=>cases e;show⟨o,z,Dn.fits (.mono m) _ _ y⟩
 |2,e=>cases e;show⟨_,v,by erw[Dn]⟩
 |3,e=>cases e
 |n+4,e=>simp[wst] at e
end
end L7
namespace L4
open PySem.Spec PyProof.Rows L2 L3 PySem.W X0
variable{X:Cx}
section
variable{π:Q0b}{σ:L2.St}{H:Hp}{s:ak}{P:Q0b}{f:aj}{t:V->Hp->VK->Prop}{xs:List V}{us:Q0f}{a kS:ah}{e1:Nat}{E:Q0c}
 {W:Nat->List V->Hp->Prop}
end
theorem TB:∀(d:Q0f),⇑d=1 ->∃a,d=[a]
 |[a],_=>⟨a,rfl⟩
theorem TH:∀(h:Q0f),⇑h=2 ->∃d a,h=[d,a]
 |[d,a],_=>⟨d,a,rfl⟩
theorem TJ:∀(j:Q0f),⇑j=3 ->∃h d a,j=[h,d,a]
 |[h,d,a],_=>⟨h,d,a,rfl⟩
theorem TK:∀(l:Q0f),⇑l=4 ->∃j h d a,l=[j,h,d,a]
 |[j,h,d,a],_=>⟨j,h,d,a,rfl⟩
def lO{K:aq}{x:ai}(h:nsIn K gw x=aa ae):tabIn K x=ae:=by unfold tabIn;rw[h]
theorem JS{K:aq}{l j h d a:Option (ah×ah)}(q:tabIn K "going_of"=l)(h2:tabIn K "count_of_chain"=j)(o:tabIn K "cut_paper"=h)(n:tabIn K "downsets"=d)(m:tabIn K "strictest_chains"=a):
  dM K=([("going_of",l),("count_of_chain",j),("cut_paper",h),("downsets",d),("strictest_chains",a)]:List (ai×Option (ah×ah))).filterMap λp=>p.2.map λt=>(p.1,t.1,t.2):=by
 subst q h2 o n m;rfl
def tabs_ok{K:aq}{q:bb}{L:List (ai×ah×ah)}(h:dM K=L)(nd:(L.map (·.2.2)).Nodup)(rc:∀t∈L,∃e,(recsOf q).find? (λe=>e.name == t.1)=aa e):TabsOk K q:=⟨by rw[h];show nd,by rw[h];show rc⟩
section
variable{Ω:bb}{w:az}{A:bo}{E:Q0c}{s:ak}{z TI TO i1 i2:ah}{f1 f2:List ah}{n1 n2 k:Nat}{P1 P2:Nat->aj->Prop}{S1 S2:Nat->a_->Prop}{a b:aj}
structure Zap (z TI TO i1 i2:ah) (f1 f2:List ah):Prop where
 zO:z≠TO
 zI:z≠TI
 OI:TO≠TI
 m1:i1∈f1
 m2:i2∈f2
 z1:z∉f1
 z2:z∉f2
 o1:TO∉f1
 o2:TO∉f2
 c1:i1∉f2
 c2:i2∉f1
 I1:TI≠i1
 I2:TI≠i2
def Zap.q1(p:Zap z TI TO i1 i2 f1 f2):z≠i1:=λe=>p.z1 (e▸p.m1)
def Zap.q2(p:Zap z TI TO i1 i2 f1 f2):z≠i2:=λe=>p.z2 (e▸p.m2)
end
open PySem.SeqAt
end L4
namespace L4
open PySem.Spec PyProof.Rows L2 L3 L5
def qv(g:List D->Option D):F1:=λds Q=>∃d,g ds=aa d/\Q d
def ml(g:D->D->Option D):F2:=λx y Q=>∃d,g x y=aa d/\Q d
def tm1(g:List D->Option D):p5 (qv g) g:=λ_ d _ e q=>⟨d,e,q⟩
def tm2(g:D->D->Option D):Tells (ml g) g:=λ_ _ d _ e q=>⟨d,e,q⟩
variable{X:Cx}
section
variable{p ν:ba}{e:au}{t:AF}
def GV{ds:List D}{d:D}{g:ai->Option D}{G:List D->Option D}(l:∀ds d,G ds=aa d ->∃x,ds=[.str x]/\g x=aa d)(h:G ds=aa d){K:aq}{S:ah->Prop}{H:Hp}{xs:List V}(j:aM K S H ds xs):∃x,xs=[.str x]/\g x=aa d:=by obtain⟨x,rfl,e⟩:=l ds d h;obtain⟨v,r,rfl,a,h2⟩:=j.bH;erw[aM] at h2;subst h2;symm at a;subst a;show⟨x,rfl,e⟩
def TL{K:aq}:C3 K (λxs H Q=>∃z:ai,xs=[.str z]/\⇑z<=bc/\Q (.int ⇑z) H) (qv fF):=by
 intro S H xs ds Q3 Q l j ⟨d,e,q⟩ k;obtain⟨x,rfl,e⟩:=GV (g:=λx=>if ⇑x<=g8 then aa (.int ⇑x) else ae) (λds d h=>by
  unfold fF at h;split at h
  .exact ⟨_,rfl,h⟩
  .cases h) e j
 by_cases a:⇑x<=g8
 .rw [Z_ a] at e;cases e;show⟨x,rfl,by rw[df];show a,k _ H _ (ξ.refl H) (by symm) q⟩
 .rw [Zz a] at e;cases e
def wQ(a:X.mg "len"=ae)(j:pZ X [e] t)(d:Gl X "len"<|>0)(h:Zr X e []<|>0):aW X (.Call (.Name "len" p) [e] [] ν) (bL fF t) :=
 cE (yE yA TL Tn d a j ⋯ ⋯ h (by rfl)) (yL (tm1 _))
def ZP{K:aq}:C3 K (λxs H Q=>∃i:Int,xs=[.int i]/\i.natAbs.log2<1920/\Q (.str (toString i)) H) (qv kZ):=by
 intro S H xs ds Q3 Q l j ⟨d,e,q⟩ k;unfold kZ at e;split at e
 .rename_i i;obtain⟨v,r,rfl,h,h2⟩:=j.bH;erw[aM] at h2;subst h2;symm at h;subst h;by_cases a:i.natAbs<1900
  .rw [Z_ a] at e;cases e;show⟨i,rfl,?_,k _ H _ (ξ.refl H) (by symm) q⟩;show Bl (Nat.log2_le_self _) ∅
  .rw [Zz a] at e;cases e
 .cases e
def wR(l:X.calm=af)(a:X.mg "str"=ae)(j:pZ X [e] t)(d:Gl X "str"<|>0)(h:Zr X e []<|>0):aW X (.Call (.Name "str" p) [e] [] ν) (bL kZ t) :=
 cE (yF xS ZP Wo d a j ⋯ ⋯ h (by rfl)) (yL (tm1 _))
def TN:∀c:Nat,c<58->48<=c->zt ⟨#[c]⟩=aa ((c:Int)-48):=by decide+kernel
def PB:eB X (.type "int") (λxs H Q=>∃x:ai,∃n:Int,xs=[.str x]/\⇑x<=640/\zt x=aa n/\Q (.int n) H):=by intro π s σ H xs j Q I r h;obtain⟨x,n,rfl,d,a,q⟩:=h;obtain⟨u,rfl,t,rfl⟩:=vals1 r;show Zc a d ⟨.int n,H,I.tok _,⟨_,rfl⟩,q⟩
theorem ZQ{K:aq}:C3 K (λxs H Q=>∃x:ai,∃n:Int,xs=[.str x]/\⇑x<=640/\zt x=aa n/\Q (.int n) H) (qv k6):=by
 intro S H xs ds Q3 Q m j ⟨d,e,q⟩ k;obtain⟨x,rfl,e⟩:=GV (g:=λx=>match x.cps.toList with|[c]=>if 48<=c/\c<=57 then aa (.int ((c:Int)-48)) else ae|_=>ae) (λds d h=>by
  unfold k6 at h;split at h
  .exact ⟨_,rfl,h⟩
  .cases h) e j
 obtain⟨⟨l⟩⟩:=x
 match l,e with
 |[c],e =>
  have e:(if 48<=c/\c<=57 then aa (D.int ((c:Int)-48)) else ae)=aa d:=e;by_cases a:48<=c/\c<=57
  .rw [Z_ a] at e;cases e;show⟨_,_,rfl,by show 1<=640;decide,TN c ∅ a.1,k _ H _ (ξ.refl H) (by symm) q⟩
  .rw [Zz a] at e;cases e
 |[],e=>cases e
 |_::_::_,e=>cases e
def TQ(l:X.calm=af)(a:X.mg "int"=ae)(j:pZ X [e] t)(d:Gl X "int"<|>0)(h:Zr X e []<|>0):aW X (.Call (.Name "int" p) [e] [] ν) (bL k6 t) :=
 cE (yF PB ZQ Bc d a j ⋯ ⋯ h (by rfl)) (yL (tm1 _))
end
section
variable{ν:ba}{a b:au}{fa fb:EF}
def yZ{K:aq}{r:R2}{g:D->D->Option D}(h:∀(l j d:D),g l j=aa d->d.uF=af /\∀(S:ah->Prop) (H:Hp) (x y:V) (Q:VK),Dn K S H l x->Dn K S H j y->(∀v,Dn K S H d v->Q v H)->r x y H Q):O3 K r (ml g):=by intro S H x y l j Q3 Q p n m ⟨d,e,q⟩ k;show(h l j d e).2 S H x y Q n m λv o=>k v H d (ξ.refl H) o q
def ZR{K:aq}:O3 K yi (ml dE):=yZ λo n d e=>by
 unfold dE at e;split at e
 .rename_i x i;by_cases h:⇑x<=g8
  .rw [Z_ h] at e;obtain⟨c,m,rfl⟩:=tM e;show⟨rfl,λS H v w Q l j k=>?_⟩;symm at l j;show⟨x,i,c,l,j,by rw[df];show h,m,k _ (by symm)⟩
  .rw [Zz h] at e;cases e
 .cases e
def pD(j:aW X a fa)(h:aW X b fb)(d:rH b<|>7):aW X (.Subscript a b ν) (aB dE fa fb):=cE (imp (U6 XX j h d) λ_ _ _=>iG ZR) (fH (tm2 _))
def ZS{K:aq}:O3 K (λx y H Q=>∃i j:ai,x=.str i/\y=.str j/\Q (.bl (!(fw j i 0 ⇑j 1).isEmpty)) H) (ml KA):=yZ λn m d e=>by
 unfold KA at e;split at e
 .cases e;show⟨rfl,λS H v w Q l h k=>?_⟩;symm at l h;show⟨_,_,l,h,k _ (by symm)⟩
 .cases e
def Ds(j:aW X a fa)(h:aW X b fb)(d:behindInMarks .In b=ag<|>4):aW X (.Compare a [.In] [b] ν) (aB KA fa fb):=cE (M9 HX ZS j h d) (fH (tm2 _))
def TR{K:aq}:O3 K (λx y H Q=>∃i j:ai,x=.str i/\y=.str j/\⇑i+⇑j<=bc/\Q (.str (i++j)) H) (ml cB):=yZ λo n d e=>by
 unfold cB at e;split at e
 .rename_i x y;by_cases h:⇑x+⇑y<=g8
  .rw [Z_ h] at e;cases e;show⟨rfl,λS H v w Q m l k=>?_⟩;symm at m l;show⟨_,_,m,l,by rw[df];show h,k _ (by symm)⟩
  .rw [Zz h] at e;cases e
 .cases e
def f9(h:aW X a fa)(d:aW X b fb):aW X (.BinOp a .Add b ν) (aB cB fa fb):=cE (X4 sV TR h d) (fH (tm2 _))
end
def rJoin(K:aq):V->List V->Hp->VK->Prop:=λx xs H Q=>∃(z:ai) (l:ah) (ys:Q0g),x=.str z/\xs=[.ref l]/\H l=aa (.lst (ys.map V.str))/\(ys.map (·.length)).sum+⇑ys*⇑z<=16777216/\Q (.str (gi z ys)) H
theorem BM:∀{ys:Q0g} {a:Q0f},θ (ys.map V.str) a->StrsAre a ys
 |[],_,h=>by cases h;show .nil
 |y::ys,_,h=>by
  cases h with
  |cons r1 r2 =>
   obtain⟨t,rfl⟩:=r1;show .cons y t (BM r2)
def TU:U5 X "str.join" (rJoin X.K):=by intro π s σ H x xs v y Q I a r h;obtain⟨z,l,ys,rfl,rfl,o,n,q⟩:=h;obtain⟨u,rfl,j⟩:=vals1 r;cases j;obtain⟨t,rfl⟩:=a;obtain⟨p,d,m,_⟩:=I.list (eJ.of o);show a1d m.isList (BM d) n λt' k=>⟨.str _,H,I.tok k,⟨_,rfl⟩,q⟩
theorem wU:∀{ds:List D} {ys:Q0g},rT ds=aa ys->ds=ys.map D.str
 |[],ys,h=>by cases h;rfl
 |d::ds,ys,h=>by
  cases d<;>first|(cases h;done)|skip
  rename_i x;obtain⟨z,e,rfl⟩:=tM (show(rT ds).map (x :: ·)=aa ys from h);rw[wU e];rfl
theorem uB{K:aq}{S:ah->Prop}{H:Hp}:∀{ys:Q0g} {xs:List V},aM K S H (ys.map D.str) xs->xs=ys.map V.str
 |[],xs,h=>by simpa only[ja,aM] using h
 |y::ys,xs,h=>by obtain⟨v,r,rfl,a,h2⟩:=h.bH;symm at a;subst a;rw[uB h2];rfl
def TV(h:joinM a b=aa d):∃z ys,a=.str z/\b=.lst (ys.map D.str)/\(ys.map (·.length)).sum+⇑ys*⇑z<=g8/\d=.str (gi z ys):=by
 unfold joinM at h;split at h
 .rename_i z ds;obtain⟨ys,j,h⟩:=bnd h;split at h
  .rename_i hz;cases h;show⟨z,ys,rfl,by rw[wU j],hz,rfl⟩
  .cases h
 .cases h
def wV{o e:au}{fo J:EF}{apos a:ba}(ho:aW X o fo)(Z:aW X e J)(m:attributeBase o "join" X.env (eval o X.env)=eval o X.env<|>0)
  (n:Zp X a e<|>0)
  (j:Q0k apos a<|>0) (A:Zr X e []<|>0) (h:(bz a (ar [] X.env)).any (·.1)=ag<|>0):
  aW X (.Call (.Attribute o "join" apos) [e] [] a) (aB joinM fo J) :=
 imp (AG r_ F.slot_str_join F.type_str_join TU ho (cJ Z iF A) m n j A h) λσ H Q Ml=>by obtain⟨S,ρ,Q3,K,y,⟨d,p,U⟩,k⟩:=Ml;obtain⟨dx,ex,p⟩:=bnd p;obtain⟨dy,ey,p⟩:=bnd p;obtain⟨z,ys,rfl,rfl,Y,rfl⟩:=TV p;show⟨S,ρ,λw=>w=.str z,K,y,⟨_,ex,rfl⟩,λv H1 d1 q x q1=>?_⟩;subst q1;symm at x;subst x;show⟨rfl,S,ρ,λw=>w=.lst (ys.map D.str),aR K q,Sl.fits (.same q) y,⟨_,ey,rfl⟩,λv2 H2 d2 O L q2=>?_⟩;subst q2;symm at L;obtain⟨l,xs,rfl,I,_,dl⟩:=L;rw[uB dl] at I;show⟨z,l,ys,rfl,rfl,I,Y,k _ H2 _ (q.trans O) (by symm) U⟩
def Dk(a:X.mg x=aa (.str z t))(h:Gl X x<|>0)(j:Zu x<|>1):aW X (.Name x ν) (eC (.str z)) :=
 cE (imp (FL h a (v:=.str z) ⟨t,rfl⟩ j) λ_ _ _=>pU (d:=.str z) (λ_ _=>by symm)) λ_ _ l=>by obtain⟨_,e,q⟩:=l;cases e;show q
end L4
namespace L9
open PySem.Spec PyProof.Rows L2 L3 L4 L5
def NSs(K:aq)(C:ah):List ah->Prop
 |[]=>True
 |D::ds=>yW K C D/\NSs K C ds
theorem NSs.at{K:aq}{C D:ah}:∀{ds:List ah},NSs K C ds->D∈ds->yW K C D
 |[],_,h=>by cases h
 |_::_,n,h=>by
  rcases bh.1 h with rfl|h
  .exact n.1
  .exact n.2.at h
structure RO (K:aq) (R:ah):Prop where
 a:ux K (.ref R) (.type "BaseException")=aa af
 b:PySem.W.isClsIn K R=af
 c:PySem.W.typeIn K (.ref R)=aa (.type "type")
structure XO (K:aq) (R C:ah) (ds:List ah):Prop where
 q:tY K C
 v:ux K (.ref C) (.type "ValueError")=aa af
 r:ux K (.ref C) (.ref R)=aa af
 d:NSs K C ds
def XO.exm{K:aq}{R C:ah}{ds:List ah}(z:XO K R C ds)(o:RO K R):vb K (.ref C) (.ref R)=aa af:=ZH o.a o.b o.c z.r
structure HO6 (X:Cx) (e C:ah) (ds:List ah):Prop where
 g:p8 X e C
 q:tY X.K C
 v:ux X.K (.ref C) (.type "ValueError")=aa af
 d:NSs X.K C ds
 i:X.mg "isinstance"=ae
 w:X.mg "ValueError"=ae
def XO.ho(z:XO X.K R C ds)(h:oe.cls=.ref C)(i:X.mg "isinstance"=ae)(w:X.mg "ValueError"=ae):HO6 (hcx X (aa (.ref e)) (pn++[(e,oe)])) e C ds :=
 ⟨⟨oe,gg _ b_,h⟩,z.q,z.v,z.d,i,w⟩
variable{X:Cx}
section
variable{i:Nat}{n x c:ai}{e C D:ah}{ds:List ah}{p p1 p2 ν:ba}
def dP(z:HO6 X e C ds)(I:X.mg x=aa (.ref D))(y:D∈ds:=by simp)(hN:X.N[i]?=aa n<|>0)(o:vH X.env.scope n<|>3)(F:Zu n<|>1)(m:Zt n<|>1)
  (A:Gl X "isinstance"<|>0) (j:Gl X x<|>0) (l:Zu x<|>1)
  (v:(ar [.Name n p1,.Name x p2] X.env=(ag,eval (.Name n p1) X.env)::ar [.Name x p2] X.env)<|>0) (a:(ar [.Name x p2] X.env=(ag,eval (.Name x p2) X.env)::ar [] X.env)<|>0) (h:(bz ν (ar [.Name x p2] X.env)).any (·.1)=ag<|>0):
  aW X (.Call (.Name "isinstance" p) [.Name n p1,.Name x p2] [] ν) (CA c e ag i):=S3 z.g z.q z.i I (z.d.at y).one hN o F m A j l v a h
end
def isA(c:ai)(e i:Nat):List D->AF
 |[]=>aE
 |.bl b::l=>aA (CA c e b i) (isA c e i l)
 |_::_=>λ_=>ae
noncomputable def TY:List D->Bool
 |[]=>af
 |.bl _::l=>TY l
 |_::_=>ag
theorem PC(h:aK i ρ=aa (.exc c e)):∀l:List D,TY l=af->isA c e i l ρ=aa l
 |[],_=>rfl
 |d::l,b=>by
  cases d with
  |bl x =>
   have a:=PC h l b;unfold isA aA CA;rw[a,h];simp
  |_=>cases b
def ZT(a:i<n)(b:TY l=af)(z:⇑l+1<=g8):bJ (eO (aA (eC (.str t)) (isA c e i l))) ((bw n Sv.no).set i (.ro (.exc c e)))=.rt (.tup (.str t::l)):=by
 have h:aK i (aV ((bw n Sv.no).set i (.ro (.exc c e))))=aa (.exc c e):=by unfold aK aV;rw[List.map_set,kj ↑a];rfl
 unfold bJ eO aA eC;rw[PC h l b];simp[z]
theorem ud(p:X.mg c=aa (.ref C))(z:XO X.K C0 C ds)(o:RO X.K C0)(m:X.mg "isinstance"=ae)(j:X.mg "ValueError"=ae)
  (v:d=.tup (.str t::l)) (q:i<⇑X.N) (b:TY l=af) (sz:⇑l+1<=g8)
  (n:∀{e a pn},HO6 (hcx X (aa (.ref e)) (pn++[(e,a)])) e C ds->iI (hcx X (aa (.ref e)) (pn++[(e,a)])) (x::suite) (bJ (eO (aA (eC (.str t)) (isA c e i l))))):
  ∃(C:ah) (g:Nat->SF),X.mg c=aa (.ref C)/\vb X.K (.ref C) (.ref C0)=aa af/\(∀e:Nat,g e ((bw ⇑X.N Sv.no).set i (.ro (.exc c e)))=.rt d) /\
   ∀(e:ah) (a:ay) (pn:Q0b),a.cls=.ref C->iI (hcx X (aa (.ref e)) (pn++[(e,a)])) (x::suite) (g e) :=
 ⟨C,λe=>bJ (eO (aA (eC (.str t)) (isA c e i l))),p,z.exm o,λe=>v▸ZT q b sz,λe a pn h=>n (z.ho h m j)⟩
inductive Ph (P:bb) (w:az) (ω:a_):Prop
 |mk:Ph P w ω
section
variable{P:bb}{w:az}{K:aq}{mg:Q0d}{ω:a_}{x:ai}{st:bq}{ps:Q0g}{n np:Nat}{b:SF}{key:EF}
theorem zA(l:Ph P w ω)(k:Nat)(F:kR)(e:F=bX n np b)(N:Q0g)(D:Df K mg x st ps)
  (h:∀{f:ah} {a:aj} {A:bo} {outer:List cx} {s:ak} {H:Hp} {E:XK},eQ k (A.deeper (envOfC x (aO st) ↥s f a))->N.Nodup->iI (kO rK P w K mg ω N x (aO st) f a A outer s H E).LY (dN st) b)
  (S:eD N ps (aO st)<|>8) (j:⇑N=n<|>0) (d:⇑ps=np<|>0):Cl P w K mg ω rK (k+1) x ps (GH K F):=e▸fd4 D h S j d
theorem fq5(l:Ph P w ω)(k:Nat)(F:kR)(e:F=bX n np b)(N:Q0g)(D:Df K mg x st ps)
  (h:∀{f:ah} {a:aj} {A:bo} {outer:List cx} {s:ak} {H:Hp} {E:XK},eQ k (A.deeper (envOfC x (aO st) ↥s f a))->N.Nodup->iI (kO (BV P w) P w K mg ω N x (aO st) f a A outer s H E) (dN st) b)
  (S:eD N ps (aO st)<|>8) (j:⇑N=n<|>0) (d:⇑ps=np<|>0):Cl P w K mg ω (BV P w) (k+1) x ps (sp5 K mg F):=e▸fd5 D h S j d
theorem rc4(a:Ph P w ω)(k:Nat)(F:Nat->kR)(D:Df K mg x st ps)(h:∀n,Cl P w K mg ω rK (k+n) x ps (GH K (F n))->Cl P w K mg ω rK (k+n+1) x ps (GH K (F (n+1))))(e:F 0=(λ_=>.no)<|>0):∀n,Cl P w K mg ω rK (k+n) x ps (GH K (F n))
 |0=>e▸nn4 D
 |n+1=>h n (rc4 a k F D h e n)
variable{X:Cx}{i:Nat}{ν:ba}
def xv(hN:X.N[i]?=aa x<|>0)(d:vH X.env.scope x<|>3)(h:Zu x<|>1)
  (a:Zt x<|>1):aW X (.Name x ν) (aK i):=x4 i hN d h a
def y1(hN:X.N[i]?=aa x<|>0)(d:vH X.env.scope x<|>3)(h:Zu x<|>1)
  (a:Zt x<|>1):pZ X [.Name x ν] (bW i):=aC (x4 i hN d h a) bD
end
section
variable{l m:ai}{fr:List Nat}{sc:fq}{iter elt c:au}{ν pt p1 p2:ba}{kk:Nat}{it:AF}{t:TF}{e:EF}
abbrev nN(X:Cx)(fr:List Nat):List ai:=fr.map λi=>X.N.getD i ""
def ZU(j:SQ X (.Name l pt) iter it)(n:∀{cl C pn ex s H},aW (blk X ([l]++nN X fr) sc cl C pn ex s H) elt e)(o:X.calm=af<|>0)
  (d:(∀{cl C pn ex s H},Loc (blk X ([l]++nN X fr) sc cl C pn ex s H).env.scope l)<|>2) (a:(∀{cl C pn ex s H},(blk X ([l]++nN X fr) sc cl C pn ex s H).fn l=af\/(blk X ([l]++nN X fr) sc cl C pn ex s H).env.scope.names.lookup l=aa .local)<|>6)
  (B:YR X.env.scope.names sc X.N [l] (nN X fr) fr=af<|>0) (h:Zo X iter<|>5):aW X (.ListComp elt [⟨.Name l pt,iter,[],0⟩] sc ν) (dD 1 fr it (g1 0) bY e) :=
 lI.pe (N5 (ls:=[l]) o j (λ_ _ _ _ _ _ nd=>N4 (i:=0) nd Wy rfl d a) (λ_ _ _ _ _ _=>VJ) (λ_ _ _ _ _ _=>n) B h)
def Dq(j:SQ X (.Name l pt) iter it)(n:∀{cl C pn ex s H},uH (blk X ([l]++nN X fr) sc cl C pn ex s H) c t)(o:∀{cl C pn ex s H},aW (blk X ([l]++nN X fr) sc cl C pn ex s H) elt e)(p:X.calm=af<|>0)
  (d:(∀{cl C pn ex s H},Loc (blk X ([l]++nN X fr) sc cl C pn ex s H).env.scope l)<|>2) (a:(∀{cl C pn ex s H},(blk X ([l]++nN X fr) sc cl C pn ex s H).fn l=af\/(blk X ([l]++nN X fr) sc cl C pn ex s H).env.scope.names.lookup l=aa .local)<|>6)
  (B:YR X.env.scope.names sc X.N [l] (nN X fr) fr=af<|>0) (h:Zo X iter<|>5):aW X (.ListComp elt [⟨.Name l pt,iter,[c],0⟩] sc ν) (dD 1 fr it (g1 0) t e) :=
 lI.pe (N5 (ls:=[l]) p j (λ_ _ _ _ _ _ nd=>N4 (i:=0) nd Wy rfl d a) (λ_ _ _ _ _ _=>Y9 n) (λ_ _ _ _ _ _=>o) B h)
def cp4(d:SQ X (.Tuple [.Name l p1,.Name m p2] kk pt) iter it)(n:∀{cl C pn ex s H},aW (blk X ([l,m]++nN X fr) sc cl C pn ex s H) elt e)(o:X.calm=af<|>0)
  (h:∀{cl C pn ex s H},(blk X ([l,m]++nN X fr) sc cl C pn ex s H).N.Nodup->SW (blk X ([l,m]++nN X fr) sc cl C pn ex s H) 2 (.Tuple [.Name l p1,.Name m p2] kk pt) (g2 0 1):=by show λnd=>Y8 (i:=0) (j:=1) rfl nd ⋯ ⋯)
  (B:YR X.env.scope.names sc X.N [l,m] (nN X fr) fr=af<|>0) (a:Zo X iter<|>5):aW X (.ListComp elt [⟨.Tuple [.Name l p1,.Name m p2] kk pt,iter,[],0⟩] sc ν) (dD 2 fr it (g2 0 1) bY e) :=
 lI.pe (N5 (ls:=[l,m]) o d (λ_ _ _ _ _ _ nd=>h nd) (λ_ _ _ _ _ _=>VJ) (λ_ _ _ _ _ _=>n) B a)
end
end L9
namespace L4
open PySem.SeqAt PySem.Spec PyProof.Rows L2 L3 PySem.W X0
def TG(b c:Nat)(X:Cx)(e:au)(t:TE):Prop :=
 ∀(π:Q0b) (s:ak) (σ:L2.St) (H:Hp) (Q:VK),Φ X π σ H s->b<=s.toks->t σ H Q->av (aw X.Ω X.w) X.A (eval e X.env) (λv s'=>c<=s'.toks/\EP X π σ Q v s') X.xe s
def TGA(b c:Nat)(X:Cx)(a:List au)(t:TA):Prop :=
 ∀(ν:ba) (π:Q0b) (s:ak) (σ:L2.St) (H:Hp) (Q:List V->Hp->Prop),Φ X π σ H s->b<=s.toks->t σ H Q->av (aw X.Ω X.w) X.A (spliced (bz ν (ar a X.env))) (λv s'=>c<=s'.toks/\AP X π σ Q v s') X.xe s
def TGS(b c:Nat)(X:Cx)(st:bq)(t:TS):Prop :=
 ∀(π:Q0b) (s:ak) (σ:L2.St) (H:Hp) (D:Ends),Φ X π σ H s->b<=s.toks->t D σ H->av (aw X.Ω X.w) X.A (exec st X.env) (λv s'=>c<=s'.toks/\SP X π D v s') X.xe s
def VR(b:Nat)(X:Cx)(st:List bq)(t:TS):Prop :=
 ∀(π:Q0b) (s:ak) (σ:L2.St) (H:Hp) (D:Ends),Φ X π σ H s->b<=s.toks->t D σ H->av (aw X.Ω X.w) X.A (execs st X.env) (SP X π D) X.xe s
variable{X:Cx}
section
variable{b c d:Nat}
def jV{α:Type}{M:pd}{A:bo}{s:ak}{t:gj α}{Q:α->ak->Prop}{E:Q0c}(h:b<=s.toks)(k:av M A t Q E s):av M A t (λa s'=>b<=s'.toks/\Q a s') E s:=ir (wpAny_toks_of h k) (λ_ _ z=>z) λ_ _ z=>z.2
def TG.of(h:PE X e t):TG b b X e t:=λπ s σ H Q I a q=>jV a (h π s σ H Q I q)
def TGS.of(h:PS X e t):TGS b b X e t:=λπ s σ H Q I a q=>jV a (h π s σ H Q I q)
def VR.of(h:y9 X e t):VR b X e t:=λπ s σ H Q I _ q=>h π s σ H Q I q
def VR.pss(h:VR 0 X e t):y9 X e t:=λπ s σ H Q I q=>h π s σ H Q I (g_ _) q
def pX(h:TG b c X e t)(f:∀σ H Q,t' σ H Q->t σ H Q):TG b c X e t':=λπ s σ H Q I a q=>h π s σ H Q I a (f σ H Q q)
def ZV{j ν}:TG 0 1 X (.Constant (.int i) j ν) (tC (.int i)):=λ_ _ _ H _ I _ h=>Sj ⟨Xe _ _,.int i,H,I.tok _,⟨_,rfl⟩,h⟩
def VS(ho:iQ X (binaryOp op) r)(z:TG b c X x ta)(q:TG c d X y tb):TG b d X (.BinOp x op y ν) (mj r ta tb):=by intro π s σ H Q I p h;show Sm (c6 (z π s σ H _ I p h) λv m ⟨k1,j⟩=>?_);obtain⟨x,L,J,o,q1⟩:=j;show c6 (q π m σ L _ J k1 q1) λu l A=>?_;obtain⟨k2,a⟩:=A;obtain⟨y,K,F,n,q2⟩:=a;show jV k2 (ho π l σ K x y v u Q F o n q2)
theorem ZW{i:Nat}{x:ai}{e:au}{te:TE}{ν pos':ba}(hN:X.N.Nodup)(o:X.N[i]?=aa x)(l:Loc X.env.scope x)(q:TG b c X e te)(m:Rv X e x pos' ν)(p:Zq X x):
  TGS b c X (.Assign [.Name x pos'] e ν) (W8 te (MB i)):=by
 intro π s σ H D I n h;show Sn (c6 (q π s σ H _ I n h) λv K ⟨k1,a⟩=>?_) m;obtain⟨y,F,A,j,q1⟩:=a;show jV k1 (oF A hN o l j (λJ z=>⟨_,F,z,q1⟩) p)
theorem PD{st:bq}{j:List bq}{t u:TS}(n:TGS b c X st t)(h2:VR c X j u):VR b X (st::j) (yw t u):=by
 intro π s σ H D I m h;show zj (c6 (n π s σ H {D with nx:=u D} I m h) λf l ⟨k1,q⟩=>?_)
 cases f with
 |next =>
  obtain⟨a,H',o,q⟩:=q;show h2 π l a H' D o k1 q
 |ret v=>show q
 |brk=>show q
 |cont=>show q
def TZ(n:TG b c X e te)(l:Zr X e []<|>0):TGA b c X [e] (AA te RB):=by intro ν π s σ H Q I m h;rw[l];show av _ _ (spliced ((ag,eval e X.env)::bz ν (ar [] X.env))) _ _ s;show vw (c6 (n π s σ H _ I m h) λu q ⟨k1,a⟩=>?_);obtain⟨x,p,o,j,q1⟩:=a;show Aq ⟨k1,[x],p,o,.cons j .nil,q1⟩
def ZX(h:TGA b c X es t):TG b c X (.List es ν) (yo t):=by intro π s σ H Q I p o;show Sg (c6 (h ν π s σ H _ I p o) λn a ⟨k1,m⟩=>?_);obtain⟨xs,l,j,r,z,q⟩:=m;show⟨by rw[<- ⇑r];show z,k1,?_⟩;have v:l ↥a=ae:=j.hok.fresh (bf _);show⟨.ref ↥a,upd l ↥a (.lst xs),j.laid (t':=a.toks) (λb u e=>bu _ e) (bf _) ?_,rfl,q _ v⟩;show⟨z,n,0,r,cz _ rfl⟩
def Mi(K:aq)(a:TE):TE:=λσ H Q=>a σ H λx h=>∃z,x=.str z/\⇑z<=1000/\Q (.str (iw z "<" " < ")) h
theorem T4{o:au}{J:TE}{A y:Nat}{p1 p apos a:ba}(ho:PE X o J)
  (l:attributeBase o "replace" X.env (eval o X.env)=eval o X.env<|>0)
  (n:((bz a (ar [.Constant (.str "<") A p1,.Constant (.str " < ") y p] X.env)).all (λx=>!x.1)&&(backToKw a (iu [] X.env)).all (λx=>x.1.isSome)
   && Zv ([Vl (.str "<") A p1,.Constant (.str " < ") y p].length+⇑([]:List di)+(if([]:List di).isEmpty then 0 else 1)<30))=af:=by rfl)
  (j:Q0k apos a<|>0):
  TG 1 1 X (.Call (.Attribute o "replace" apos) [.Constant (.str "<") A p1,.Constant (.str " < ") y p] [] a) (Mi X.K J):=by
 intro π s σ H Q I U h;show jV U (Sk l n j rfl (c6 (jV U (ho π s σ H _ I h)) λv m ⟨k1,z1⟩=>?_));obtain⟨x,H1,Z,L,z,rfl,hz,q⟩:=z1;obtain⟨h1,h2⟩:=DA (T:="str") Z L rfl;show⟨"str","str.replace",r_,Uz,F.type_str_replace,h1,h2,?_⟩;obtain⟨t,rfl⟩:=L;show As rfl (Ar (vw (Au (k:=A) (pos:=p1) (vw (Au (k:=y) (pos:=p) (Aq ?_))))));show lg Uz rfl F.entry_str_replace (F.args_str_replace_3 _ _ _) (gives_str_replace z "<" " < " t _ _ λ_=>⟨?_,?_,⋯,?_⟩).meets ?_
 .show (m.toks == 0||m.toks+1 == 0)=ag;have:m.toks≠0:=∅
  simp[this]
 .show (m.toks == m.toks+1)=ag;simp
 .have:=Ze z "<" 0 ⇑z (⇑z+1);show Zv (_>bc)=ag;rw[df];erw[decide_eq_false_iff_not];have e:⇑("<":ai)=1:=rfl;have e2:⇑(" < ":ai)=3:=rfl;rw[e2];lia
 .have Y:=Z.tok (m.toks+1+1);unfold iw at q;split
  .rename_i hc;rw[Z_ hc] at q;show⟨.str z,H1,Y,⟨t,rfl⟩,q⟩
  .rename_i hc;have O:=K9 z;unfold iw at O;rw[Zz hc] at q O;show⟨?_,.str _,H1,Y.tok _,⟨_,rfl⟩,q⟩;rw[df];lia
abbrev J1(b c:Nat)(X:Cx)(e:au)(f:EF):Prop:=TG b c X e (lift X.K (wE f))
abbrev TS4(b c:Nat)(X:Cx)(st:bq)(f:SF):Prop:=TGS b c X st (AJ X.K (XC X) ⇑X.N (wS f))
abbrev TL4(b:Nat)(X:Cx)(st:List bq)(f:SF):Prop:=VR b X st (AJ X.K (XC X) ⇑X.N (wS f))
def uk(h:TG b c X e (lift X.K t))(f:∀ρ Q,t' ρ Q->t ρ Q):TG b c X e (lift X.K t'):=pX h λ_ _ _ m=>by obtain⟨S,ρ,Q3,l,a,j,k⟩:=m;show⟨S,ρ,Q3,l,a,f ρ Q3 j,k⟩
def g4(h:aW X e f):J1 b b X e f:=TG.of h
def C_{j ν}:J1 0 1 X (.Constant (.int i) j ν) (eI i):=uk (t:=wC (.int i)) (pX ZV λ_ _ _=>pU (λ_ _=>by symm)) λ_ _ a=>by obtain⟨_,e,q⟩:=a;cases e;show q
section
variable{x y:au}{ν:ba}{fa fb:EF}
def PF(h:J1 b c X x fa)(a:J1 c d X y fb):J1 b d X (.BinOp x .Add y ν) (aB aX fa fb):=uk (pX (VS F6 h a) λ_ _ _=>iG M8) (fH vU)
def Mf(j:J1 b c X x fa)(a:J1 c d X y fb):J1 b d X (.BinOp x .Mod y ν) (aB dH fa fb):=uk (t:=fD ye (wE fa) (wE fb)) (pX (VS MG j a) λ_ _ _=>iG tF) (fH (iJ λ_ _ h=>by simpa using h))
end
def Me(F:J1 b c X e f)(A:Zr X e []<|>0):J1 b c X (.List [e] ν) (cV (aA f aE)):=pX (ZX (TZ F A)) λσ H Q O=>by obtain⟨S,ρ,Q3,l,y,⟨d,I,q⟩,k⟩:=O;obtain⟨ds,a,L⟩:=bnd I;obtain⟨m,K,a⟩:=bnd a;obtain⟨r,J,a⟩:=bnd a;cases J;cases a;have q2:=szl (x:=D.lst [m]) L q;show⟨S,ρ,λz=>z=m,l,y,⟨_,K,rfl⟩,λv n d j o z=>?_⟩;subst z;show[v].length<=bc /\∀p,n p=ae->Q (.ref p) (upd n p (.lst [v]));show⟨by rw[df];show ma rfl,λp h=>k _ _ (D.lst [d]) (j.trans (aI h)) ?_ q2.2⟩;symm;show⟨p,[v],rfl,aN,l p (j.free h),aM.fits (.mono λ_ z=>z.1) _ _ (aM.fits ((Fits.fresh h).trans (.same (aI h))) _ _ (aM.cons o aM.nil))⟩
theorem ZY(ho:aW X o fo)
  (h:attributeBase o "replace" X.env (eval o X.env)=eval o X.env<|>0)
  (l:((bz cpos (ar [.Constant (.str "<") j1 p1,.Constant (.str " < ") j2 p2] X.env)).all (λx=>!x.1)&&(backToKw cpos (iu [] X.env)).all (λx=>x.1.isSome)
   && Zv ([Vl (.str "<") j1 p1,.Constant (.str " < ") j2 p2].length+⇑([]:List di)+(if([]:List di).isEmpty then 0 else 1)<30))=af:=by rfl)
  (a:Q0k apos cpos<|>0):
  J1 1 1 X (.Call (.Attribute o "replace" apos) [.Constant (.str "<") j1 p1,.Constant (.str " < ") j2 p2] [] cpos) (bL UQ (aA fo aE)):=pX (T4 ho h l a) λσ H Q U=>by
 obtain⟨S,ρ,Q3,I,A,⟨d,J,q⟩,k⟩:=U;obtain⟨ds,m,j⟩:=bnd J;obtain⟨O,L,m⟩:=bnd m;obtain⟨r,K,m⟩:=bnd m;cases K;cases m;cases O<;>first|(cases j;done)|skip
 rename_i z _;have j:(if ⇑z<=1000 then aa (D.str (iw z "<" " < ")) else ae)=aa d:=j;by_cases n:⇑z<=1000
 .rw [Z_ n] at j;cases j;show⟨S,ρ,λy=>y=.str z,I,A,⟨_,L,rfl⟩,λv Y d F p y=>?_⟩;subst y;symm at p;show⟨z,p,n,k _ Y _ F (by symm) q⟩
 .rw [Zz n] at j;cases j
theorem VT(hN:X.N.Nodup)(q:J1 b c X e f)(l:X.N[i]?=aa x<|>0)(n:Loc X.env.scope x<|>2)(o:Rv X e x pos' ν<|>0)(p:Zq X x<|>2):
  TS4 b c X (.Assign [.Name x pos'] e ν) (aY i f):=λπ s σ H D I y z=>by
 obtain⟨H₀,S,w,ρ,G,E,j,st,a,ok⟩:=z;unfold wS aY at a
 cases h:f (fB ρ) with
 |none=>rw[h] at a;show a.elim
 |some d =>
  rw[h] at a;show ZW hN l n q o p π s σ H D I y ⟨_,fB ρ,_,st.RU,st.rd,⟨d,h,a⟩,λv H' d s' d' m=>ok.nx w _ H' _ (by rw[ik];show j) ((st.same s').lE (by rw[j];show jR l) d') m⟩
def ZZ{st:bq}{f:SF}(h:rL X st f):TS4 b b X st f:=TGS.of h
def Di{st:List bq}{f:SF}(h:iI X st f):TL4 b X st f:=VR.of h
def pE{st:bq}{l:List bq}{f g:SF}(y:TS4 b c X st f)(h2:TL4 c X l g):TL4 b X (st::l) (aG f g):=λπ s σ H D I x z=>by obtain⟨H₀,S,w,ρ,G,E,v,o,p,ok⟩:=z;show PD y h2 π s σ H D I x ⟨H₀,S,w,ρ,G,{E with nx:=wS g E},v,o,VL E ρ p,⟨λn m H' a j h q=>⟨H₀,S,n,a,G,E,j,h,q,ok⟩,ok.rt,ok.bk,ok.ct,ok.ex⟩⟩
def L_{st:List bq}{f:SF}(h:TL4 0 X st f):iI X st f:=h.pss
def Cq:V->List V->Hp->VK->Prop:=λx xs H Q=>∃z,x=.str z/\xs=[]/\⇑z<=1000/\Q (.str (rk z)) H
def PH:U5 X "str.upper" Cq:=by intro π s σ H x xs v j Q I a r h;obtain⟨z,rfl,rfl,l,q⟩:=h;cases r;obtain⟨t,rfl⟩:=a;show a1i ∅ λ_=>⟨.str _,H,I.tok _,⟨_,rfl⟩,q⟩
def up4(ho:aW X o fo)(h:attributeBase o "upper" X.env (eval o X.env)=eval o X.env<|>0)(a:Q0k apos cpos<|>0):
  aW X (.Call (.Attribute o "upper" apos) [] [] cpos) (bL upS (aA fo aE)):=imp (MO r_ F.slot_str_upper F.type_str_upper PH ho h a) λσ H Q O=>by
 obtain⟨S,ρ,Q3,A,p,⟨d,I,q⟩,k⟩:=O;obtain⟨ds,l,j⟩:=bnd I;obtain⟨L,K,l⟩:=bnd l;obtain⟨r,J,l⟩:=bnd l;cases J;cases l;cases L<;>first|(cases j;done)|skip
 rename_i z _;have j:(if ⇑z<=1000 then aa (D.str (rk z)) else ae)=aa d:=j;by_cases m:⇑z<=1000
 .rw [Z_ m] at j;cases j;show⟨S,ρ,λy=>y=.str z,A,p,⟨_,K,rfl⟩,λv U d x n y=>?_⟩;subst y;symm at n;subst n;show⟨rfl,z,rfl,rfl,m,k _ U _ x (by symm) q⟩
 .rw [Zz m] at j;cases j
def Dp:V->Option Int->Option Int->Hp->VK->Prop:=λx a h H Q=>∃z,x=.str z/\⇑z<=1000/\Q (.str (gr z a h)) H
theorem part_of(h:jj v o):∃q:Option (Int×f_),v=partValue q/\o=q.map (·.1):=by
 cases h with
 |none=>show⟨ae,rfl,rfl⟩
 |int i t=>show⟨aa (i,t),rfl,rfl⟩
def Z0:RI X Dp:=by
 intro π s σ H x v p o A K y Q I a n m j h;obtain⟨z,rfl,J,q⟩:=h;obtain⟨t,rfl⟩:=a;obtain⟨l,rfl,rfl⟩:=part_of m;obtain⟨u,rfl,rfl⟩:=part_of j;have hle:=rm z (l.map (·.1)) (u.map (·.1));show⟨"str",_,F.slot_str_getitem.lookup,rfl,wpAny_getItem_str_slice (st:=ae) n rfl ?_⟩;unfold gr at q hle;unfold sliceMade;have e:slicePicked z l u ae=Vu (l.map (·.1)) (u.map (·.1)) 1 ⇑z:=rfl;rw[e];show Made.post (if(1 == 1&&⇑(Vu (l.map (·.1)) (u.map (·.1)) 1 ⇑z) == ⇑z)=af then _ else _) _ _;split
 .rename_i hc;rw[Z_ hc] at q;show⟨.str z,H,I,⟨t,rfl⟩,q⟩
 .rename_i hc;rw[Zz hc] at q hle;show⟨?_,.str _,H,I.tok _,⟨_,rfl⟩,q⟩;rw[df];show cy hle ∅
theorem ER{e:au}{F I:Option au}{L ν:ba}{f:EF}{J K:OF}(Y:aW X e f)(O:PO4 X F J)(U:PO4 X I K):aW X (.Subscript e (.Slice F I ae L) ν) (oA f J K) :=
 imp (AD Z0 Y O U) λσ H Q Ly=>by
  obtain⟨S,ρ,Q3,x,m,⟨d0,a,q⟩,k⟩:=Ly;obtain⟨d1,e1,a⟩:=bnd a;obtain⟨l,Z,a⟩:=bnd a;obtain⟨h,eh,a⟩:=bnd a;cases d1<;>first|(cases a;done)|skip
  rename_i z _ _;have a:(if ⇑z<=1000 then aa (D.str (gr z l h)) else ae)=aa d0:=a;by_cases p:⇑z<=1000
  .rw [Z_ p] at a;cases a;show⟨S,ρ,λy=>y=.str z,x,m,⟨_,e1,rfl⟩,λv H1 d j A y=>?_⟩;subst y;symm at A;subst A;show⟨S,ρ,λy=>y=l,aR x j,Sl.fits (.same j) m,⟨_,Z,rfl⟩,λo H2 n y=>?_⟩;subst y;show⟨S,ρ,λy=>y=h,aR x (j.trans n),Sl.fits (.same (j.trans n)) m,⟨_,eh,rfl⟩,λo2 H3 s3 y=>?_⟩;subst y;show⟨z,rfl,p,k _ H3 _ ((j.trans n).trans s3) (by symm) q⟩
  .rw [Zz p] at a;cases a
noncomputable def pF:List au->Option (List ai)
 |[]=>aa []
 |.Constant (.str i) _ _::es=>(pF es).map (i :: ·)
 |_=>ae
theorem GW:∀(j:List au) (ns:Q0g),pF j=aa ns->pZ X j (λ_=>aa (ns.map D.str))
 |[],ns,h=>by cases h;show bD
 |e::j,ns,h=>by
  cases e<;>first|(cases h;done)|skip
  rename_i k a b;cases k<;>first|(cases h;done)|skip
  obtain⟨r,l,rfl⟩:=tM (show(pF j).map _=aa ns from h);show aC s4 (GW j r l) rfl
def Lx(h:pF es=aa ns:=by decide+kernel):pZ X es (E9 ns):=GW es ns h
end
section
variable{ν:ba}{a b:au}{fa fb:EF}
def ES:iQ X (compareOp .NotIn) (λx y H Q=>∃i j,x=.str i/\y=.str j/\Q (.bl (fw j i 0 ⇑j 1).isEmpty) H):=by intro π s σ H x y v u Q I l d h;obtain⟨i,j,rfl,rfl,q⟩:=h;obtain⟨t,rfl⟩:=l;obtain⟨t',rfl⟩:=d;show a0v (bF I q ?_);show _=! !(fw j i 0 ⇑j 1).isEmpty;rw[Yl]
def T5{K:aq}:O3 K (λx y H Q=>∃i j:ai,x=.str i/\y=.str j/\Q (.bl (fw j i 0 ⇑j 1).isEmpty) H) (ml i5):=yZ λn m d e=>by
 unfold i5 at e;split at e
 .cases e;show⟨rfl,λS H v w Q l h k=>?_⟩;symm at l h;show⟨_,_,l,h,k _ (by symm)⟩
 .cases e
def T6(x y d:D)(h:i5 x y=aa d):∃b,d=.bl b:=by
 unfold i5 at h;split at h
 .cases h;show⟨_,rfl⟩
 .cases h
def ET(j:aW X a fa)(h:aW X b fb)(d:behindInMarks .NotIn b=ag<|>4):uH X (.Compare a [.NotIn] [b] ν) (tV (aB i5 fa fb)):=cT (oP ES T5 j h d) (oS (tm2 _) T6)
def T7:V->List V->Hp->VK->Prop:=λx xs H Q=>∃(z y:ai) (i:Nat) (r:List Nat),x=.str z/\xs=[.str y]/\fw z y 0 ⇑z 1=i::r/\Q (.int (i:Int)) H
def JT:U5 X "str.index" T7:=by intro π s σ H x xs v l Q I j r h;obtain⟨z,y,i,rr,rfl,rfl,ho,q⟩:=h;obtain⟨u,rfl,ty,rfl⟩:=vals1 r;obtain⟨d,rfl⟩:=j;show lg U_ rfl F.entry_str_index (F.args_str_index_2 _ _) (gives_str_index z y d ty i rr ho).meets ⟨.int i,H,I.tok _,⟨_,rfl⟩,q⟩
theorem T8{a b d:D}(h:uK a b=aa d):∃(x y:ai) (i:Nat) (r:List Nat),a=.str x/\b=.str y/\d=.int (i:Int)/\fw x y 0 ⇑x 1=i::r:=by
 cases a<;>first|(cases h;done)|skip
 all_goals (cases b<;>first|(cases h;done)|skip)
 rename_i x y;have h:(match fw x y 0 ⇑x 1 with|i::_=>aa (D.int (i:Int))|[]=>ae)=aa d:=h
 cases ho:fw x y 0 ⇑x 1 with
 |nil=>rw[ho] at h;cases h
 |cons i r=>rw[ho] at h;cases h;show⟨x,y,i,r,rfl,rfl,rfl,ho⟩
def y6(ho:aW X o fo)(U:aW X e fe)(l:attributeBase o "index" X.env (eval o X.env)=eval o X.env<|>0)
  (m:Zp X cpos e<|>0)
  (j:Q0k apos cpos<|>0) (A:Zr X e []<|>0) (h:(bz cpos (ar [] X.env)).any (·.1)=ag<|>0):
  aW X (.Call (.Attribute o "index" apos) [e] [] cpos) (aB uK fo fe) :=
 imp (AG r_ U_ F.type_str_index JT ho (cJ U iF A) l m j A h) λσ H Q Z=>by obtain⟨S,ρ,Q3,I,z,⟨d,n,L⟩,k⟩:=Z;obtain⟨dx,ex,n⟩:=bnd n;obtain⟨dy,Y,n⟩:=bnd n;obtain⟨x,y,i,rr,rfl,rfl,rfl,O⟩:=T8 n;show⟨S,ρ,λw=>w=.str x,I,z,⟨_,ex,rfl⟩,λv H1 d1 p q q1=>?_⟩;subst q1;symm at q;subst q;show⟨rfl,S,ρ,λw=>w=.str y,aR I p,Sl.fits (.same p) z,⟨_,Y,rfl⟩,λv2 H2 d2 K J q2=>?_⟩;subst q2;symm at J;subst J;show⟨x,y,i,rr,rfl,rfl,O,k _ H2 _ (p.trans K) (by symm) L⟩
end
end L4
namespace L3
open PySem.Spec PyProof.Rows L2 L4
def Iru(a:Int)(n:Nat):It:=⟨λi _=>i<n,λi H x H'=>H'=H/\x=.int (a+(i:Int)*4),λi _=>n<=i⟩
theorem T9{P:bb}{w:az}{K:aq}{A:au}(it:ah)(j:Int)(n:Nat):Turn P w K A (Iru j n) [it] it (λi h=>vn h it (j+(i:Nat)*4) ((n:Int)-(i:Nat)) 4) where
 mem:=bx.mpr rfl
 obj:=λi h st b a=>by cases bx.mp a;show⟨_,st,λv z=>by cases (show Vn _=Vo v from z)⟩
 keep:=λi h h' st k=>k it (bx.mpr rfl) _ st
 item:=by intro X q hw x p i π s σ H E I l st m;subst q hw x;have W:=Tp (prog:=X.Ω) (w:=X.w) (I.ok.hd p) it j 4 n;show W.item i s _ _ m st λv h' y J d F=>?_;obtain⟨t,rfl⟩:=J;have O:Φ X π σ H {s with heap:=h',toks:=y}:=tK (ch:=[it]) I (λb o a e=>F b o a e) λb a=>l b a;show⟨_,rfl,FR (s:={s with heap:=h',toks:=y}) (n:="range_iterator") d rfl rfl ⋯ ⟨.int (j+(i:Int)*4),H,O,⟨t,rfl⟩,⟨rfl,rfl⟩,d,λb a=>(l b a).1⟩⟩
 done:=by intro X q hw x p i π s σ H E I l st m;subst q hw x;show Rr (I.ok.hd p) st (by have:n<=i:=m;lia) λh' L=>⟨rfl,tK (t':=s.toks) (ch:=[it]) I (λb o a e=>L b o (λz=>a (bx.mpr z)) e) λb a=>l b a⟩
 self:=λ_ _ _ _ _ st h=>Rx st h
def BN(i j:Int):sd i j 4=(((j-i+3)/4).toNat:Int):=by
 delta sd
 rw[Z_ ⋯];split<;>lia
def JU(h:-1000000<=i)(h2:i<1000000)(d:-1000000<=j)(a:j<1000000):Vx i j 4=af:=by unfold Vx;rw[BN];erw[a03,fm,B_,decide_eq_true_eq,beq_iff_eq];rw[Z_ (show(4:Int)>0 by decide)];erw[decide_eq_true_eq,fm];lia
def PJ{a:Int}{n i:Nat}:(kM a n)[i]?=if i<n then aa (a+(i:Int)*4) else ae:=by
 unfold kM;rw[d_];by_cases h:i<n
 .rw [Z_ h,wm h];rfl
 .rw [Zz h,kl ↑h];rfl
theorem UA{K:aq}{a:Int}{n:Nat}:YI K (Iru a n) ((kM a n).map D.int) [] where
 go:=λS H p l i d e=>by
  rw[d_,PJ] at e;by_cases h:i<n
  .rw [Z_ h] at e;cases e;show⟨h,λx H' y=>?_⟩;obtain⟨o,m⟩:=y;subst o;show⟨ξ.refl _,by symm;show m⟩
  .rw [Zz h] at e;cases e
 stop:=λS H l i j=>by rw[bp,show⇑(kM a n)=n by simp[kM]] at j;show jm j
variable{X:Cx}
section
variable{tg:au}
noncomputable def UB(t:WA):WI:=λρ Q=>t ρ λds=>match ds with
 |[.int i,.int j,.int c]=>(c=4 /\ -1000000<=i/\i<1000000 /\ -1000000<=j/\j<1000000)/\Q ((kM i ((j-i+3)/4).toNat).map D.int)
 |_=>False
theorem Z1(F:Gl X "range")(z:X.mg "range"=ae)(K:PA X [a,b,c] ta)(y:ar [a,b,c] X.env=[(ag,eval a X.env),(ag,eval b X.env),(ag,eval c X.env)]<|>0)(m:ar [b,c] X.env=[(ag,eval b X.env),(ag,eval c X.env)]<|>0):
  PI X tg (.Call (.Name "range" p) [a,b,c] [] ν) (λσ H R=>ta σ H λvs n=>∃i j:Int,vs=[.int i,.int j,.int 4]/\(-1000000<=i/\i<1000000 /\ -1000000<=j/\j<1000000)/\R (Iru i ((j-i+3)/4).toNat) n):=by
 intro π s σ H R I h;show Call_ (nE I F z Ba (se (c6 (K ν π s σ H _ I h) λus l ⟨vs,n,Z,x,q1⟩=>?_) (by rw[y,m]) (by rw[m];rfl)));obtain⟨i,j,e,⟨U,h2,O,L⟩,q⟩:=q1;subst e
 cases x with
 |cons r rr=>cases rr with
  |cons r' rr=>cases rr with
   |cons r'' rr =>
    cases rr;obtain⟨t,rfl⟩:=r;obtain⟨t',rfl⟩:=r';obtain⟨v,rfl⟩:=r'';show call_range_3 ⋯ ?_ (cb (Vz ∅));show Ry (Ut ..) (JU U h2 O L) ?_;generalize A:l.heap.push {cls:=.type "range",data:=.fields #[.int i t,.int j t',.int 4 v]}=h1';have k1:∀b o,l.heap.get? b=aa o->h1'.get? b=aa o:=λb o e=>by rw[<- A];show bu _ e
    have d:Φ X π σ n {l with heap:=h1',toks:=l.toks}:=Z.kept k1;show⟨h1'.objs.size,[h1'.objs.size],_,_,n,rfl,d.kept (t':=l.toks) λb o e=>bu _ e,T9 _ i ((j-i+3)/4).toNat,?_,λb J=>?_,q⟩
    .have Y:i+((0:Nat):Int)*4=i:=∅
     show vn _ _ (i+((0:Nat):Int)*4) (((((j-i+3)/4).toNat:Nat):Int)-((0:Nat):Int)) 4;rw[Y,show((((j-i+3)/4).toNat:Nat):Int)-((0:Nat):Int)=sd i j 4 by rw[BN];lia];show cz _ rfl
    .cases bx.mp J;show d.z9 (bf _) (d.hok.fresh (bf _))
def UC(A:X.mg "range"=ae)(I:yC X [a,b,c] t)(h:Gl X "range"<|>0)(z:ar [a,b,c] X.env=[(ag,eval a X.env),(ag,eval b X.env),(ag,eval c X.env)]<|>0)(d:ar [b,c] X.env=[(ag,eval b X.env),(ag,eval c X.env)]<|>0):R4 X tg (.Call (.Name "range" p) [a,b,c] [] ν) (UB t) :=
 NJ (Z1 h A I z d) λσ H R O=>by
  obtain⟨S,ρ,Q3,K,q,y,k⟩:=O;show⟨S,ρ,_,K,q,y,λvs U ds x L q1=>?_⟩;split at q1
  .rename_i i j c;obtain⟨⟨rfl,F⟩,q1⟩:=q1;obtain⟨v,r,rfl,o,h2⟩:=L.bH;obtain⟨Z,r2,rfl,n,J⟩:=h2.bH;obtain⟨Y,r3,rfl,m,l⟩:=J.bH;erw[aM] at l;subst l;symm at o n m;subst o n m;show⟨i,j,rfl,F,k _ U _ [] x (λg h=>nomatch h) UA q1⟩
  .exact q1.elim
def PK(y:X.mg "range"=ae)(I:aW X a fa)(F:aW X b fb)(A:aW X c fc)(z:Gl X "range"<|>0)(x:ar [a,b,c] X.env=[(ag,eval a X.env),(ag,eval b X.env),(ag,eval c X.env)]<|>0)(d:ar [b,c] X.env=[(ag,eval b X.env),(ag,eval c X.env)]<|>0)(l:ar [c] X.env=[(ag,eval c X.env)]<|>0):
  SQ X tg (.Call (.Name "range" p) [a,b,c] [] ν) (rD (aA fa (aA fb (aA fc aE)))):=cI (UC y (aC I (aC F (aC A bD l) (d.trans (by rw[l]))) (x.trans (by rw[d]))) z x d) λρ Q K=>by
 obtain⟨ds,e,q⟩:=K;obtain⟨J,v,e⟩:=bnd e;show⟨J,v,?_⟩;obtain⟨a,b,c,o,n,m,rfl⟩:=N3 v
 clear v o n m
 cases a<;>first|(cases e;done)|skip
 all_goals (cases b<;>first|(cases e;done)|skip)
 all_goals (cases c<;>first|(cases e;done)|skip)
 rename_i i j k;have e:(if k=4/\i.natAbs<1000000/\j.natAbs<1000000 then aa ((kM i ((j-i+3)/4).toNat).map D.int) else ae)=aa ds:=e;by_cases h:k=4/\i.natAbs<1000000/\j.natAbs<1000000
 .rw [Z_ h] at e;cases e;show⟨⟨h.1,∅,∅,∅,∅⟩,q⟩
 .rw [Zz h] at e;cases e
end
end L3
namespace L9
open PySem.Spec PyProof.Rows L2 L3 L4 L5 PySem.W
structure Wr (p:Prop):Prop where
 h:p
variable{X:Cx}
section
variable{P:bb}{w:az}{K:aq}{mg:Q0d}{ω:a_}{x:ai}{st:bq}{ps:Q0g}{n np:Nat}{b:SF}
def Ls{a:List au}{ns:Q0g}(h:pF a=aa ns:=by decide+kernel):Wr (pZ X a (E9 ns)):=⟨Lx h⟩
def Ei{a:List au}{t:AF}{ν:ba}(h:Wr (pZ X a t)):Wr (aW X (.List a ν) (cV t)):=⟨lI.pe (kI h.h)⟩
def Eh{i:Nat}{x:ai}{e:au}{f:EF}{ν pos':ba}(hN:X.N.Nodup)(m:Wr (aW X e f))(j:X.N[i]?=aa x<|>0)(a:Loc X.env.scope x<|>2)(d:Rv X e x pos' ν<|>0)(l:Zq X x<|>2):
  Wr (rL X (.Assign [.Name x pos'] e ν) (aY i f)):=⟨cU hN m.h j a d l⟩
def Eg{st:bq}{a:List bq}{f g:SF}(d:Wr (rL X st f))(h2:Wr (iI X a g)):Wr (iI X (st::a) (aG f g)):=⟨aZ d.h h2.h⟩
theorem Ef(j:Ph P w ω)(k:Nat)(F:kR)(e:F=bX n np b)(N:Q0g)(D:Df K mg x st ps)
  (h:∀{f:ah} {d:aj} {A:bo} {outer:List cx} {s:ak} {H:Hp} {E:XK},eQ k (A.deeper (envOfC x (aO st) ↥s f d))->N.Nodup->Wr (iI (kO rK P w K mg ω N x (aO st) f d A outer s H E).LY (dN st) b))
  (S:eD N ps (aO st)<|>8) (m:⇑N=n<|>0) (l:⇑ps=np<|>0):Cl P w K mg ω rK (k+1) x ps (GH K F):=zA j k F e N D (λa b=>(h a b).h) S m l
end
end L9
namespace K07
open L2 L3 L4 L6 L7 L9 L5
def top(i : Nat):bq:=PySem.Challenge.pw_risecount_k07_texts_refused.main.body.getD i (.Pass ⟨0,0,0,0⟩)
structure Zs (K:aq) (mg:Q0d) (jW:f_) (e9 c9 eK gA gB dY d9 i8 eL eA dA dZ cK d4:ah):Prop where
 iM:mg "Looped"=aa (.ref e9)
 gC:mg "NoFilling"=aa (.ref c9)
 jX:mg "NoGoing"=aa (.ref eK)
 lP:mg "NoLine"=aa (.ref gA)
 lQ:mg "NoName"=aa (.ref gB)
 iN:mg "NoNumber"=aa (.ref dY)
 fS:mg "NoOrder"=aa (.ref d9)
 pG:mg "NoRow"=aa (.ref i8)
 jY:mg "NoShape"=aa (.ref eL)
 fT:mg "NoThing"=aa (.ref eA)
 gD:mg "NotForest"=aa (.ref dA)
 iO:mg "NotLoose"=aa (.ref dZ)
 lR:mg "RiseError"=aa (.ref cK)
 iP:mg "TooGreat"=aa (.ref d4)
 uC:OM K e9
 qA:OM K d9
 qB:OM K eA
 rr:RO K cK
 uD:XO K cK e9 [c9,eK,gA,gB,dY,d9,i8,eL,eA,dA,dZ,d4]
 qC:XO K cK d9 [e9,c9,eK,gA,gB,dY,i8,eL,eA,dA,dZ,d4]
 qD:XO K cK eA [e9,c9,eK,gA,gB,dY,d9,i8,eL,dA,dZ,d4]
 qE:mg "FIGURES"=aa (.str "0123456789" jW)
 D1:Df K mg "is_thing" (top 16) ["number","n"]
 D2:Df K mg "refuse_strangers" (top 19) ["n","a","b"]
 D3:Df K mg "put_under" (top 18) ["order","a","b"]
 D4:Df K mg "order_of" (top 17) ["n","ties"]
 D5:Df K mg "is_figure" (top 23) ["text"]
 D6:Df K mg "is_tie_word" (top 24) ["word"]
 D7:Df K mg "read_order" (top 22) ["text"]
 D8:Df K mg "_law_cell" (top 26) ["_law_script","_law_k"]
 D9:Df K mg "_law_mixed" (top 27) ["_law_cell_here","_law_k","_law_salt"]
 D10:Df K mg "_law_draws" (top 28) ["_law_cell_here","_law_many","_law_salt"]
 D11:Df K mg "_law_same" (top 29) ["_law_found","_law_due_here"]
 D12:Df K mg "_law_order" (top 30) ["_law_draws_here","_law_n","_law_thick"]
 D13:Df K mg "_law_drawn" (top 31) ["_law_script","_law_k","_law_most","_law_salt"]
 D14:Df K mg "_law_ties" (top 32) ["_law_order_here"]
 D15:Df K mg "_law_asked" (top 33) ["_law_text_here"]
 D16:Df K mg "_law_refused" (top 34) ["_law_word"]
 D17:Df K mg "_law_closed" (top 35) ["_law_n","_law_ties_here"]
 D18:Df K mg "_law_read" (top 36) ["_law_text_here"]
 D19:Df K mg "_law_due" (top 37) ["_law_text_here"]
 D20:Df K mg "_law_sign" (top 38) ["_law_draws_here"]
 D21:Df K mg "_law_spoilt" (top 39) ["_law_text_here","_law_draws_here"]
 D22:Df K mg "_law_text" (top 40) ["_law_script","_law_k","_law_salt"]
 D23:Df K mg "law" (top 41) ["_law_script"]
 fZ:mg "tuple"=ae
 BO:mg "enumerate"=ae
 pH:mg "sorted"=ae
 Lr:mg "set"=ae
 eM:mg "len"=ae
 wW:mg "int"=ae
 VU:mg "all"=ae
 fA:mg "range"=ae
 bK:mg "isinstance"=ae
 uE:mg "str"=ae
 EU:mg "bool"=ae
 Z2:mg "list"=ae
 kK:mg "ValueError"=ae
 VV:mg "any"=ae
section
variable{P:bb}{w:az}{ω:a_}{K:aq}{mg:Q0d}{jW:f_}{e9 c9 eK gA gB dY d9 i8 eL eA dA dZ cK d4:ah}(p:Ph P w ω)(Z:Zs K mg jW e9 c9 eK gA gB dY d9 i8 eL eA dA dZ cK d4)
include p Z
def o1:=zA p 3 LL.iB rfl ["number","n"] Z.D1 λa nd=>(aP (dJ (Y2 Ql U0 Np Oa i4 xv xv)))
def o2:=fq5 p 4 LL.aH rfl ["n","a","b"] Z.D2 λd nd=>(aP (gM (BU.pt (yJ (qR (p4 (bS (o1 p Z).up d (aC xv y1)))) (DU (qR (p4 (bS (o1 p Z).up d (aC xv y1)))))))
   (aP (EC rfl rfl Z.fT Z.qB (aC s4 bD)))
   iK))
def o3:=fq5 p 5 LL.bQ rfl ["order","a","b","lower","rows","thing","row","reached"] Z.D3 λd nd=>(aZ (OL (A8 (o2 p Z).up d (aC (oV Z.eM y1) (aC xv y1))) (tX rfl (o2 p Z).up d (aC (oV Z.eM y1) (aC xv y1))))
  (aZ (gM (BU.pt (yJ (SS xv xv) (DU (x_ xv (lJ xv xv)))))
   (aP (EC rfl rfl Z.iM Z.uC (aC s4 bD)))
   iK)
  (aZ (cU nd (cR (lJ xv xv) (oU y1)))
  (aZ (yP nd (kI bD))
  (aZ (Mr (rB rfl jg (DX Z.BO y1) (vW rfl nd)
   (aZ (cU nd (or4 (eq4 xv xv) (AX (in4 xv xv))))
   (aP (oX (A3 (i:=4) (A2 (if4 (p4 xv) (lK Z.fZ (aC (lI.pe (EM rfl Z.pH Z.Lr (aC (cR xv xv) bD))) bD)) xv))))))))
  (aP (dJ (lK Z.fZ y1))))))))
def o4:=fq5 p 6 bA rfl ["n","ties","a","b","order"] Z.D4 λd nd=>(aZ (rB rfl Uq (mJ xv) (vW rfl nd)
   (aP (OL (A8 (o2 p Z).up d (aC xv (aC xv y1))) (tX rfl (o2 p Z).up d (aC xv (aC xv y1))))))
  (aZ (cU nd (Mn (oU (aC (oU bD) bD)) xv))
  (aZ (rB rfl Uq (mJ xv) (vW rfl nd)
   (aP (My nd (A8 (o3 p Z).up d (aC xv (aC xv y1))) (tX rfl (o3 p Z).up d (aC xv (aC xv y1))))))
  (aP (dJ xv)))))
def o5:=zA p 3 c7 rfl ["text"] Z.D5 λa nd=>(aP (dJ (yK (eq4 (wQ Z.eM y1) i4) (AX (Ds xv (Dk Z.qE))))))
def o6:=zA p 4 dG rfl ["word"] Z.D6 λa nd=>(aP (dJ (yK (eq4 (wQ Z.eM y1) i4) (yK (bS (o5 p Z).up a (aC (pD xv i4) bD)) (yK (eq4 (pD xv i4) s4) (AX (bS (o5 p Z).up a (aC (pD xv i4) bD))))))))
def o7:=fq5 p 7 dB rfl ["text","words","tie_words","ties"] Z.D7 λa nd=>(aZ (cU nd (lI.pe (ED xv s4)))
  (aZ (cU nd (GJ xv (tQ i4) yN))
  (aZ (gM (BU.pt (yJ (qR (p4 (bS (o5 p Z).up a (aC (lJ xv i4) bD)))) (DU (qR (p4 (xr rfl Z.VU (aC (ZU (mJ xv) (bS (o6 p Z).up a y1)) bD)))))))
   (aP (EC rfl rfl Z.fS Z.qA (aC s4 bD)))
   iK)
  (aZ (cU nd (lK Z.fZ (aC (ZU (mJ xv) (oU (aC (TQ rfl Z.wW (aC (pD xv i4) bD)) (aC (TQ rfl Z.wW (aC (pD xv i4) bD)) bD)))) bD)))
  (aP (VO (A8 (o4 p Z).up a (aC (TQ rfl Z.wW (aC (lJ xv i4) bD)) y1)) (tX rfl (o4 p Z).up a (aC (TQ rfl Z.wW (aC (lJ xv i4) bD)) y1))))))))
def o8:=zA p 3 LL.jI rfl ["_law_script","_law_k"] Z.D8 λa nd=>(aZ (gM (SS (oV Z.eM y1) i4)
   (aP (dJ i4))
   iK)
  (aP (dJ (lJ xv (jF xv (oV Z.eM y1))))))
def o9:=zA p 3 LL.gP rfl ["_law_cell_here","_law_k","_law_salt","_law_one","_law_two"] Z.D9 λa nd=>(aZ (cU nd (jF (yI (cR (cR (cR xv (yI (yI i4 xv) xv)) (yI i4 xv)) xv) i4) i4))
  (aZ (cU nd (jF (cR (cR (yI xv (cR (Y0 xv i4) i4)) (yI i4 xv)) xv) i4))
  (aP (dJ (jF (yI xv i4) i4)))))
def uc:=zA p 4 LL.gQ rfl ["_law_cell_here","_law_many","_law_salt","_law_found","_law_left","_law_k"] Z.D10 λa nd=>(aZ (yP nd (kI bD))
  (aZ (cU nd i4)
  (aZ (gM (Fi xv (Fl i4 i4))
   (aP (cU nd xv))
   iK)
  (aZ (rB rfl jg (gK Z.fA xv) (tT nd)
   (aP (gM (SR xv i4)
    (aZ (oX (A3 (i:=3) (A2 (jF xv i4))))
    (aP (cU nd (Y0 xv i4))))
    (aP (oX (A3 (i:=3) (A2 (bS (o9 p Z).up a (aC xv (aC xv y1))))))))))
  (aP (dJ xv))))))
def ub:=rc4 p 3 LL.cN Z.D11 (λn d=>zA p (3+n) _ rfl ["_law_found","_law_due_here"] Z.D11 λa nd=>(aZ (gM (p4 (A1 DO.t Z.bK Z.fZ Az xv))
   (aZ (gM (BU.pt (yJ (qR (p4 (A1 DO.t Z.bK Z.fZ Az xv))) (DU (SU (oV Z.eM y1) (oV Z.eM y1)))))
    (aP (dJ b4))
    iK)
   (aP (dJ (xr rfl Z.VU (aC (ZU (gK Z.fA (oV Z.eM y1)) (bS d a (aC (lJ xv xv) (aC (lJ xv xv) bD)))) bD)))))
   iK)
  (aZ (gM (Y1 xv n4)
   (aP (dJ (is4 xv n4)))
   iK)
  (aZ (gM (p4 (A1 DO.b Z.bK Z.EU Bd xv))
   (aP (dJ (yK (A1 DO.b Z.bK Z.EU Bd xv) (AX (eq4 xv xv)))))
   iK)
  (aZ (gM (p4 (A1 DO.i Z.bK Z.wW Bc xv))
   (aP (dJ (yK (A1 DO.i Z.bK Z.wW Bc xv) (yK (Fc (A1 DO.b Z.bK Z.EU Bd xv)) (AX (eq4 xv xv))))))
   iK)
  (aP (dJ (yK (A1 DO.s Z.bK Z.uE Wo xv) (AX (eq4 xv xv)))))))))) rfl 6
def Cy:=zA p 3 LL.lU rfl ["_law_draws_here","_law_n","_law_thick","_law_rest","_law_word","_law_k","_law_low","_law_at","_law_j","_law_under","_law_i"] Z.D12 λa nd=>(aZ (yP nd (DW rfl Z.Z2 Z.fA y1))
  (aZ (yP nd (kI bD))
  (aZ (rB rfl jg (gK Z.fA xv) (tT nd)
   (aP (oX (A3 (i:=4) (Dy (i:=3) (px4 (jF (lJ xv xv) (oV Z.eM y1))))))))
  (aZ (N6 (i:=6) nd)
  (aZ (cU nd xv)
  (aZ (rB rfl jg (gK Z.fA xv) (tT nd)
   (aZ (cU nd (lI.pe (kI bD)))
   (aZ (rB rfl jg (gK Z.fA xv) (tT nd)
    (aZ (gM (Fj (jF (lJ xv xv) i4) xv)
     (aP (Ni (i:=9) nd (Oe xv (Dq (mJ (cR (xx (u1 a) xv (lJ xv xv)) (lI.pe (kI (aC (lJ xv xv) bD))))) (VI xv xv) xv))))
     iK)
    (aP (cU nd (cR xv i4)))))
   (aP (Nh (i:=6) (u1 a) (A2 xv) (lJ xv xv))))))
  (aP (dJ (lK Z.fZ (aC (ZU (gK Z.fA xv) (lK Z.fZ (aC (lI.pe (GG Z.pH (aC (xx (u1 a) xv xv) bD))) bD))) bD))))))))))
def Cw:=zA p 5 LL.lV rfl ["_law_script","_law_k","_law_most","_law_salt","_law_head","_law_n","_law_draws_here"] Z.D13 λa nd=>(aZ (cU nd (bS (uc p Z).up a (aC (bS (o8 p Z).up a (aC xv y1)) (aC i4 y1))))
  (aZ (cU nd (jF (lJ xv i4) (cR xv i4)))
  (aZ (cU nd (bS (uc p Z).up a (aC (bS (o8 p Z).up a (aC xv (aC (cR xv i4) bD))) (aC (cR xv (Y0 (yI xv (Gh xv i4)) i4)) (aC (cR xv i4) bD)))))
  (aP (dJ (bS (Cy p Z).up a (aC xv (aC xv (aC (lJ (lI.pe (kI (aC i4 (aC i4 (aC i4 (aC i4 (aC i4 (aC i4 (aC i4 (aC i4 bD)))))))))) (jF (lJ xv i4) i4)) bD)))))))))
def Cv:=zA p 3 LL.iC rfl ["_law_order_here","_law_found","_law_b"] Z.D14 λa nd=>(aZ (cU nd (lI.pe (kI bD)))
  (aZ (rB rfl jg (gK Z.fA (oV Z.eM y1)) (tT nd)
   (aP (cU nd (cR xv (ZU (mJ (lJ xv xv)) (oU (aC xv y1)))))))
  (aP (dJ (lI.pe (OJ Z.pH y1))))))
def ua:=zA p 8 gZ rfl ["_law_text_here","e"] Z.D15 λa nd=>(aP (Dv (i:=1) rfl rfl Z.lR nd (λpn xe=>(aP (VO (oU (aC s4 (aC (A8 (o7 p Z).up a y1) bD))) (Nr (ZI s4 (ZJ (tX rfl (o7 p Z).up a y1) bD)))))) (λc d h=>by
   repeat' split at h
   .cases h;subst_vars;show ud (i:=1) Z.fT Z.qD Z.rr Z.bK Z.kK rfl (ma rfl) rfl ⋯ (λz=>?_);show aP (dJ (oU ?_));show aC s4 ?_;show aC (S3 z.g z.q z.i Z.fT tZ) ?_;show aC (dP z Z.iM) ?_;show aC (dP z Z.fS) ?_;show aC (dP z Z.iN) ?_;show aC (dP z Z.iP) ?_;show aC (dP z Z.jX) ?_;show aC (dP z Z.pG) ?_;show aC (dP z Z.gC) ?_;show aC (dP z Z.iO) ?_;show aC (dP z Z.gD) ?_;show aC (dP z Z.jY) ?_;show aC (dP z Z.lQ) ?_;show aC (dP z Z.lP) ?_;show aC (OQ z.g z.q z.i z.w PyProof.Rows.Boot.«ValueError» (yX (by decide+kernel) z.v)) ?_;show bD
   .cases h;subst_vars;show ud (i:=1) Z.iM Z.uD Z.rr Z.bK Z.kK rfl (ma rfl) rfl ⋯ (λz=>?_);show aP (dJ (oU ?_));show aC s4 ?_;show aC (dP z Z.fT) ?_;show aC (S3 z.g z.q z.i Z.iM tZ) ?_;show aC (dP z Z.fS) ?_;show aC (dP z Z.iN) ?_;show aC (dP z Z.iP) ?_;show aC (dP z Z.jX) ?_;show aC (dP z Z.pG) ?_;show aC (dP z Z.gC) ?_;show aC (dP z Z.iO) ?_;show aC (dP z Z.gD) ?_;show aC (dP z Z.jY) ?_;show aC (dP z Z.lQ) ?_;show aC (dP z Z.lP) ?_;show aC (OQ z.g z.q z.i z.w PyProof.Rows.Boot.«ValueError» (yX (by decide+kernel) z.v)) ?_;show bD
   .cases h;subst_vars;show ud (i:=1) Z.fS Z.qC Z.rr Z.bK Z.kK rfl (ma rfl) rfl ⋯ (λz=>?_);show aP (dJ (oU ?_));show aC s4 ?_;show aC (dP z Z.fT) ?_;show aC (dP z Z.iM) ?_;show aC (S3 z.g z.q z.i Z.fS tZ) ?_;show aC (dP z Z.iN) ?_;show aC (dP z Z.iP) ?_;show aC (dP z Z.jX) ?_;show aC (dP z Z.pG) ?_;show aC (dP z Z.gC) ?_;show aC (dP z Z.iO) ?_;show aC (dP z Z.gD) ?_;show aC (dP z Z.jY) ?_;show aC (dP z Z.lQ) ?_;show aC (dP z Z.lP) ?_;show aC (OQ z.g z.q z.i z.w PyProof.Rows.Boot.«ValueError» (yX (by decide+kernel) z.v)) ?_;show bD
   .cases h)))
def t_:=zA p 3 c8 rfl ["_law_word","_law_known"] Z.D16 λa nd=>(aZ (cU nd s4)
  (aZ (cU nd (f9 xv s4))
  (aP (dJ (cR (cR (oU (aC s4 bD)) (lK Z.fZ (aC (ZU (mJ (lI.pe (ED xv s4))) (eq4 xv xv)) bD))) (oU (aC b4 bD)))))))
def Cu:=zA p 3 LL.eF rfl ["_law_n","_law_ties_here","_law_found","_law_b","_law_under","_law_fresh","_law_c","_law_a","_law_d"] Z.D17 λa nd=>(aZ (yP nd (kI bD))
  (aZ (rB rfl jg (gK Z.fA xv) (tT nd)
   (aZ (yP nd (kI bD))
   (aZ (yP nd (kI y1))
   (aZ (ZA jg (SR (oV Z.eM y1) i4)
    (aZ (VM (i:=6) nd (Nk (i:=5)))
    (aP (rB rfl jg (mJ xv) (vW rfl nd)
     (aP (gM (BU.pt (Nm (SS xv xv) (Nn (VI xv xv))))
      (aZ (oX (A3 (i:=4) (A2 xv)))
      (aP (oX (A3 (i:=5) (A2 xv)))))
      iK))))))
   (aZ (gM (x_ xv xv)
    (aP (dJ n4))
    iK)
   (aP (oX (A3 (i:=2) (px4 (lK Z.fZ (aC (lI.pe (GG Z.pH y1)) bD)))))))))))
  (aP (dJ (lK Z.fZ y1)))))
def Ct:=zA p 3 k9 rfl ["_law_text_here","_law_figures","_law_ties_here","_law_at"] Z.D18 λa nd=>(aZ (cU nd s4)
  (aZ (gM (BU.pt (yJ (SU (jF (wQ Z.eM y1) i4) i4) (DU (ET (pD xv i4) xv))))
   (aP (dJ n4))
   iK)
  (aZ (yP nd (kI bD))
  (aZ (rB rfl jg (PK Z.fA i4 (wQ Z.eM y1) i4) (tT nd)
   (aZ (gM (BU.pt (yJ (SU (pD xv xv) s4) (yJ (ET (pD xv (cR xv i4)) xv) (yJ (SU (pD xv (cR xv i4)) s4) (DU (ET (pD xv (cR xv i4)) xv))))))
    (aP (dJ n4))
    iK)
   (aP (oX (A3 (i:=2) (A2 (oU (aC (y6 xv (pD xv (cR xv i4))) (aC (y6 xv (pD xv (cR xv i4))) bD)))))))))
  (aP (dJ (oU (aC (y6 xv (pD xv i4)) y1))))))))
def xk:=zA p 4 oB rfl ["_law_text_here","_law_found","_law_n","_law_ties_here","_law_order_here"] Z.D19 λa nd=>(aZ (cU nd (bS (Ct p Z).up a y1))
  (aZ (gM (Y1 xv n4)
   (aP (dJ (bS (t_ p Z).up a (aC s4 bD))))
   iK)
  (aZ (Mt (A2 xv) (vW rfl nd))
  (aZ (gM (p4 (xt rfl Z.VV (aC (cp4 (mJ xv) (or4 (ge4 xv xv) (AX (ge4 xv xv)))) bD)))
   (aP (dJ (bS (t_ p Z).up a (aC s4 bD))))
   iK)
  (aZ (cU nd (bS (Cu p Z).up a (aC xv y1)))
  (aZ (gM (Y1 xv n4)
   (aP (dJ (bS (t_ p Z).up a (aC s4 bD))))
   iK)
  (aP (dJ (oU (aC s4 y1))))))))))
def Cs:=zA p 3 oC rfl ["_law_draws_here","_law_small","_law_signs"] Z.D20 λa nd=>(aZ (cU nd s4)
  (aZ (cU nd (f9 (f9 (f9 (f9 s4 (up4 xv)) s4) xv) s4))
  (aP (dJ (pD xv (jF (cR (yI i4 (lJ xv i4)) (lJ xv i4)) (wQ Z.eM y1)))))))
def xj:=zA p 4 eG rfl ["_law_text_here","_law_draws_here","_law_at","_law_sign_here","_law_words","_law_word","_law_tie","_law_ways","_law_parted"] Z.D21 λa nd=>(L_ (pE (VT (i:=2) nd (Mf (g4 (lJ xv i4)) (PF (g4 (wQ Z.eM y1)) C_)))
  (pE (ZZ (cU nd (bS (Cs p Z).up a (aC (GJ xv (tQ i4) yN) bD))))
  (pE (ZZ (cU nd (lI.pe (ED xv s4))))
  (pE (ZZ (cU nd (jF (lJ xv i4) (oV Z.eM y1))))
  (pE (ZZ (cU nd (f9 (f9 (wR rfl Z.uE (aC (jF (lJ xv i4) i4) bD)) s4) (wR rfl Z.uE (aC (jF (lJ xv i4) i4) bD)))))
  (pE (ZZ (cU nd (lI.pe (kI (aC (f9 (f9 (ER xv yN (tQ xv)) xv) (ER xv (tQ xv) yN)) (aC (f9 (ER xv yN (tQ xv)) (ER xv (tQ (cR xv i4)) yN)) (aC (f9 (f9 (ER xv yN (tQ xv)) xv) (ER xv (tQ (cR xv i4)) yN)) bD)))))))
  (pE (ZZ (cU nd (cR xv (lI.pe (kI (aC (wV s4 (cR (GJ xv yN (tQ xv)) (GJ xv (tQ (cR xv i4)) yN))) (aC (wV s4 (cR (cR (GJ xv yN (tQ xv)) (GJ (GJ xv (tQ xv) yN) yN (tQ i4))) (GJ xv (tQ xv) yN))) bD)))))))
  (pE (ZZ (cU nd (cR xv (lI.pe (kI (aC (wV s4 (lI.pe (Mv xv (Ez i4)))) (aC (wV s4 (cR (cR (GJ xv yN (tQ (cR xv i4))) (lI.pe (kI y1))) (GJ xv (tQ (cR xv i4)) yN))) (aC (f9 s4 xv) bD))))))))
  (pE (VT (i:=8) nd (PF (PF (g4 (GJ xv yN (tQ xv))) (Me (ZY (lJ xv xv)))) (g4 (GJ xv (tQ (cR xv i4)) yN))))
  (Di (aP (dJ (lJ (cR xv (lI.pe (kI (aC (f9 xv s4) (aC (f9 (wR rfl Z.uE (aC (jF (lJ xv i4) i4) bD)) (ER xv (tQ i4) yN)) (aC (wV s4 xv) bD)))))) (jF (lJ xv i4) i4)))))))))))))))
def xi:=Ef p 6 lA rfl ["_law_script","_law_k","_law_salt","_law_short","_law_head","_law_order_here","_law_ties_here","_law_a","_law_b","_law_text_here"] Z.D22 λa nd=>(Eg (Eh nd (Ei Ls))
  (.mk (aZ (cU nd (bS (uc p Z).up a (aC (bS (o8 p Z).up a (aC xv y1)) (aC i4 y1))))
  (aZ (gM (SS (jF (lJ xv i4) i4) i4)
   (aP (dJ (lJ xv (jF (lJ xv i4) i4))))
   iK)
  (aZ (cU nd (bS (Cw p Z).up a (aC xv (aC (cR xv i4) (aC i4 (aC (cR xv i4) bD))))))
  (aZ (yP nd (kI bD))
  (aZ (rB rfl jg (mJ (bS (Cv p Z).up a y1)) (vW rfl nd)
   (aP (gM (qR (p4 (xt rfl Z.VV (aC (ZU (gK Z.fA (oV Z.eM y1)) (yK (in4 xv (lJ xv xv)) (AX (in4 xv (lJ xv xv))))) bD))))
    (aP (oX (Du (i:=6) (jF (lJ xv i4) (cR (oV Z.eM y1) i4)) (f9 (f9 (wR rfl Z.uE y1) s4) (wR rfl Z.uE y1)))))
    iK)))
  (aZ (VM (i:=9) nd (px4 (wV s4 (cR (lI.pe (kI (aC (wR rfl Z.uE (aC (oV Z.eM y1) bD)) bD))) xv))))
  (aZ (gM (SR (jF (lJ xv i4) i4) i4)
   (aP (cU nd (bS (xj p Z).up a (aC xv (aC (GJ xv (tQ i4) (tQ i4)) bD)))))
   iK)
  (aZ (gM (SR (jF (lJ xv i4) i4) i4)
   (aP (cU nd (bS (xj p Z).up a (aC xv (aC (GJ xv (tQ i4) (tQ i4)) bD)))))
   iK)
  (aP (dJ xv))))))))))))
def Z3{f:ah}{fd:ft}(F:U8 K "law" "law" (top 41) f fd):kN P w K mg ω rK 10 f fd ["_law_script"] (GH K u9):=by
 have S:eD ["_law_script","_law_one","_law_other","_law_due_here"] ["_law_script"] (aO (top 41)):=⟨rfl,rfl,rfl,by decide+kernel,rfl,by decide+kernel,by decide+kernel⟩;have nd:=S.nd;show xu F S rfl rfl (λ_ _ _ _ _ _ a=>(aZ (cU nd (bS (xi p Z).up a (aC xv (aC i4 (aC i4 bD)))))
  (aZ (cU nd (bS (xi p Z).up a (aC xv (aC i4 (aC i4 bD)))))
  (aZ (cU nd (bS (xk p Z).up a y1))
  (aZ (gM (BU.pt (yJ (qR (p4 (bS (ub p Z).up a (aC (bS (ua p Z).up a y1) y1)))) (DU (qR (p4 (bS (ub p Z).up a (aC (bS (ua p Z).up a y1) (aC (bS (xk p Z).up a y1) bD))))))))
   (aP (dJ b4))
   iK)
  (aP (dJ (bS (ub p Z).up a (aC (bS (ua p Z).up a y1) y1)))))))))
end
theorem all_mk{l:oy}{w:az}{K:aq}{mg:Q0d}{d:ah}(a:mg "law"=aa (.ref d)){h:f_}{y U q o n A J j p x I z O L:ah}(Z:Zs K mg h y U q o n A J j p x I z O L):
  ∃fd:ft,(∀(s:ak) (v:aj),pk s fd ⟨[v],[]⟩ [("_law_script",v)]) /\∀ω:a_,K.In ω->ω.Ns gw mg->kN l.prog w K mg ω rK 10 d fd ["_law_script"] (GH K u9):=by
 obtain @⟨_,fd,_,F,m,_⟩:=Z.D23;cases a.symm.trans m;show⟨fd,λs v=>?_,λω _ _=>Z3 .mk Z F⟩;obtain⟨_,_,_,_,_,_,_,_,_,e,_⟩:=F.ex;rw[e];show .of_eq rfl
def Z4{K:aq}{H:Hp}{a:ah}{ns:Q0e}(o:Only H)(h:eJ K H a (ns.map V.int)):VA K H a ns:=by
 rcases h with h|h
 .rcases h with h|⟨b,h⟩
  .rcases o a with z|⟨_,_,z⟩|⟨_,z⟩<;>rw[z] at h<;>cases h
  .exact .inl ⟨b,h⟩
 .exact .inr (.inr h)
theorem walk{l:oy}{q:bb}{loose:Q0g}{U:(ai->Option aj)->a_->Prop}{YP:az->a_->Prop}{d:DefRec}{K:Params->aq}(A:l.most=aa 63)(m:d.params.defaults=[])
  (L:∀(w:az) (h:a_),YP w h->(K w.params).In h) (y:∀w:az,TabsOk (K w.params) q) (j:∀w:az,noTabs (K w.params)=af)
  (F:∀(w:az) (mg:Q0d) (p:ah) (h:a_),(K w.params).In h->h.Ns gw mg->mg d.name=aa (.ref p) ->
   ∃fd:ft,(∀(s:ak) (u:aj),pk s fd ⟨[u],[]⟩ [("_law_script",u)]) /\∀ω:a_,(K w.params).In ω->ω.Ns gw mg->kN l.prog w (K w.params) mg ω rK 10 p fd ["_law_script"] (GH (K w.params) u9)):
  Af q loose U YP l.row.toRowW d [] (λf vs=>zx f vs) :=
 L2.RP (n:=63) (k:=10) (x:="_law_script") (CX:=λ_=>rK) (sp:=λw=>GH (K w.params) u9) A ⋯ m ⟨rfl,⋯,⋯⟩ L y j F
  (λ_ H a ns I o O=>⟨λa=>H a=ae,[.i9 ns],λd=>d=.bl af,λ_ h=>h,⟨_,_,rfl,⟨a,rfl,Z4 o O⟩,rfl⟩,⟨_,LR ns I,rfl⟩,λv H' d _ J e=>by subst e;show J⟩) λ_ _ _ _ _ z=>z
end K07
open PySem.W PyProof.Rows
structure PySem.W.Fast:Prop where(tw4057169418300388666 tw14624048053652472583 tw16844696866512477399 tw5331645481483745154 tw17229313407110225274 tw1039359493543612340 tw753232416342778158 tw8043266960748169847 tw12941986965273623456 tw10035462003745563351 tw1128642371385637629 tw16667189004578639049 tw972775427663114417 tw343101230891417132 tw15498468432750244867 tw2507542968023961041 tw4783277529380478509 tw12140574949107186914 tw14709019070308333638 tw15198952048332970059 tw10091016174709727973 tw9794434443969944571 tw5794936595463062118 tw17403324257843128834 tw9629171174756358743 tw14374135844634905030 tw11156463154887707616 tw2303111890825200541 tw402779323620523189 tw10574086046021392291 tw8147359517502910424 tw7833120813426561190 tw8950475460636799912 tw4412085167247834473 tw632333590081764942 tw5714890789309772780 tw1782017660976946543 tw11363783044766976885 tw5646934995167576719 tw13517192752156196205 tw3331730125869632510 tw5521770697263940254 tw14083464512099083801 tw7414387125673216428 tw17725049125610723949 tw14800597100628200038 tw12076897484059912762 tw5907523075732229574 tw1381451630183167216 tw15935653156569797729 tw14642814812301458252 tw17860808395178662136 tw17943514144209117765 tw9079774579802893473 tw14981252819862494912 tw1135374577945885484 tw9120088543947251892 tw14656084372941112584 tw1297056477566185293 tw11980049032150315266 tw16400097387454953501 tw1280315435334437607 tw14420974639452014262 tw9994328959869724453 tw3439698260575287148 tw469853897405375050 tw10312273958940939993 tw9411078775084733784 tw7406490760222221551 tw15937067921570183835 tw13171663932947251712 tw8998963612159161694 tw12882663033708080330 tw1988307534252369457 tw15957621544316137681 tw4786203329676482383 tw10209914261829633050 tw1023630771290258353 tw13276313184117072288 tw14990417765832903885 tw18236658259217934602 tw1650280333527022598 tw317807131084895127 tw9870546257616916614 tw14667941657353849712 tw9393657012151123553 tw8273304793011137302 tw11637500953236472198 tw8379857248753891073 tw8711360440993744561 tw11619376262992165233 tw10223418358223115497 tw1858243513442467111 tw16050541379641632873 tw8363139443830839763 tw10838174096701201179 tw1480079984865640080 tw15223807368152721720 tw6474799392521695417 tw15452149611254933389 tw4767255988605179431 tw1760763279116592990 tw2752196966719712873 tw16369812343503533207 tw18347546682592582006 tw10377650401398251624 tw3460245586930249821 tw2397241900315965073 tw14373416087980669616 tw12306629658715752611 tw16367358486525450152 tw14953210654569475597 tw13534761854553726108 tw3719372095419591672 tw8541099793068617622 tw17504277471918107971 tw9116821735010286788 tw6002493842774267625 tw1510527923395948395 tw15270328806247047980 tw13894792957576374681 tw1387988385518489144 tw10747951097621250022 tw17614983452309423896 tw17639375976588704246 tw12802517681531603960 tw4661053412751590170 tw8253034930428118141 tw4851508634723338227 tw4037750045100117485 tw7850661780166812967 tw3958147395417934983 tw18399712133888888389 tw9192047848832165482 tw15025614577847203634 tw8313974131608097984 tw15738976425460167238 tw7440231429644255051 tw7384146116334500690 tw14277886984086880769 tw415110436956006726 tw4144618412686194231 tw3165438577019035129 tw9962263094478032663 tw17796847809898151062 tw17545550833669191769 tw4853430813220588294 tw9088961138312664599 tw3017185503545534834 tw12283835784389925172 tw9431077839154129736 tw11698029499456470614 tw11253016771068568423 tw16228653758744879776 tw11911619976491324416 tw16524028496641117702 tw11350316613059551627 tw12935532258029749611 tw7473972925358207897 tw6163711226189462204 tw6951196066123470271 tw7236565614441483575 tw4948095018642966143 tw11141347319055931197 tw4877025840261475640 tw173301198912396266 tw10847638527351128422 tw15901060032021196642 tw9365394048080621599 tw5359282248353019038 tw857103318976038812 tw6748248539415818933 tw7131706603872829375 tw14064666102559728656 tw15158221161862126678 tw6513534145833184221 tw6331176186749921813 tw10748993646372570251 tw6356952064240631210 tw2650404401231842577 tw8138248758502897979 tw14596669137032735489 tw6809511121933801822 tw449006951569177002 tw274563398457135033 tw4189888483031178941 tw12809762840162958906 tw11754672959871569324 tw3237948444602367606 tw16165163307429740572 tw642022945694939571 tw5457608463320374656 tw5243460949713224134 tw16606867618916263764 tw9472202257660949795 tw12736857793993190819 tw11766699666425495122 tw14713503700305960685 tw8557443221498442567 tw5393793690936174433 tw436514016294654376 tw183734261012530296 tw9655392009338464334 tw3968590696851891680 tw5904610999373800177 tw17926466649045508555 tw10978462966154176538 tw10837019618433751851 tw15151195939625075352 tw17198118906876704611 tw10942339544073687865 tw10250279427711953965 tw3203675805993717099 tw8391330876163336767 tw15861936554020812440 tw6583239494437115134 tw8582124833465298430 tw3266273715718678665 tw871360939223905048 tw3925474741598477831 tw1301990372951367054 tw14090977172701726 tw2561077771140278488 tw9947737974982739227 tw5119540105783360686 tw9939357501561809140 tw3208201200494336890 tw4241243767932369950 tw1825957116666847917 tw16150684356029689287 tw12213110540194094332 tw4923406906310022776 tw18332301283890723105 tw12270921765584254986 tw10389723661888535194 tw18262061323791346352 tw491972386359915446 tw13746094628486144044 tw6143268759757772527 tw290903770675160672 tw12682685832902436293 tw5462494462611938819 tw11688782598275063107 tw11311393183041771749 tw8141396904228247340 tw7800903245015286644 tw1901071477255067468 tw317661009409828146 tw12409372841401209589 tw16336992589469861535 tw12435387134497818030 tw11272467141205898619 tw12982171290145435883 tw2650402543780890549 tw8712918607992009675 tw345432436481905856 tw11097439387119507279 tw16530121616002682250 tw2836482412067840914 tw13652109681793233001 tw11788273889387245695 tw15745541782132008626 tw13252350312341870448 tw14741700252010637951 tw17397822569297351992 tw7582187489178613989 tw13665458031640349033 tw18333401122967980690 tw12062714568052091276 tw3431732157679741117 tw9835172911363834795 tw5043876573890538110 tw1106994208987051121 tw3452195037369531372 tw1671618720418858258 tw414283091480549025 tw4794712192042699806 tw4912414114176943039 tw16240941795300578352 tw5712954217331966979 tw3483057255083812171 tw16772329925153794435 tw18199228616306216898 tw9002812545172756909 tw92032234914173806 tw5734789468165910449 tw14748397415696717049 tw302679755616268929 tw14977585824512377798 tw10769121371979009269 tw850417936906687661 tw12276770961149201984 tw15243089566724146632 tw2827381207509846062 tw13078236115363257621 tw11769762180670811143 tw4076648425348993804 tw4440927086687265128 tw8641058959081618840 tw17827400129665813316 tw7402731229849913976 tw11389915438588178332 tw16510650905779605349 tw3731806293497212249 tw2248772435009463082 tw3489806333747303748 tw18273003101305833435 tw873905929987544624 tw3230176188177720162 tw9808033384983621510 tw14991759002779482301 tw13156530660364089423 tw3863195274652966890 tw1857698148595271910 tw3361906016021004918 tw4677388383206444036 tw13253833609360075286 tw8054734924043447302 tw14350381485214107297 tw16940045255538421434 tw17665550028129470771 tw16664563674169082530 tw8782853392954099722 tw6028191224953336140 tw2150145984788678371 tw13524070936557160242 tw15442820004549145626 tw3008985403514305492 tw3411825448998752975 tw14982222375328481033 tw2727650671628154707 tw373406382969724425 tw9834430568667422220 tw16014207981372282296 tw7562991522349793697 tw603615131505490566 tw8341190301786868755 tw14889224116115802747 tw3390687062846434896 tw14663841948835664005 tw2149496223971405624 tw15371777722263515681 tw6315070662214030347 tw572944148907299745 tw11916996925572848454 tw14583669310538427569 tw10488209538293097289 tw15706379421529738720 tw14948871066899601652 tw17296890945970921173 tw17353282837809939085:True)
set_option maxRecDepth 100000 in
set_option maxHeartbeats 0 in
theorem PySem.Challenge.cw_risecount_k07_texts_refused_holds : PySem.Challenge.rw_risecount_k07_texts_refused.Holds := by
 w_on; o_law; k_head; (case hw=>w_witness2)
 k_fill
 show K07.walk (l := PySem.Challenge.rw_risecount_k07_texts_refused) rfl rfl (fun w h Y => PySem.W.kIn_of Y) ?hTbs ?hNtb ?F
 case hTbs =>
  intro w
  refine' L4.tabs_ok (L4.JS ?t1 ?t2 ?t3 ?t4 ?t5) ?nd ?rc
  (case t1=>(refine' L4.lO ?p1; (case p1=>k_is)))
  (case t2=>(refine' L4.lO ?p1; (case p1=>k_is)))
  (case t3=>(refine' L4.lO ?p1; (case p1=>k_is)))
  (case t4=>(refine' L4.lO ?p1; (case p1=>k_is)))
  (case t5=>(refine' L4.lO ?p1; (case p1=>k_is)))
  (case nd=>decide)
  (case rc=>(intro t n; cases n))
 case hNtb =>
  intro w
  kernel_rfl
 case F =>
  intro w mg o h KX G m
  refine' K07.all_mk m ⟨?iM,?gC,?jX,?lP,?lQ,?iN,?fS,?pG,?jY,?fT,?gD,?iO,?lR,?iP,?uC,?qA,?qB,?rr,?uD,?qC,?qD,?qE,?_,?_,?_,?_,?_,?_,?_,?_,?_,?_,?_,?_,?_,?_,?_,?_,?_,?_,?_,?_,?_,?_,?_,?_,?_,?_,?_,?_,?_,?_,?_,?_,?_,?_,?_,?_,?_⟩
  (case' iM | gC | jX | lP | lQ | iN | fS | pG | jY | fT | gD | iO | lR | iP | qE=>show PySem.W.mg_of KX G (by k_is))
  (case' uC | qA | qB=>show L5.S4 (by k_exc))
  (case rr=>show ⟨by k_is,by k_is,by k_is⟩)
  (case' uD | qC | qD=>show ⟨⟨by k_is,by k_is,by k_is,by k_is,by k_is,by k_is,by k_is,by k_is⟩,by k_is,by k_is,?_⟩; (repeat refine' And.intro ⟨by rfl,by k_is,by k_is,by k_is⟩ ?_); trivial)
  all_goals first | show PySem.W.mg_none_of KX G (by k_is) | (refine' L4.Za KX G ?b ?a ?l ?c ?k; (case a=>k_is); (case l=>k_is); (case c=>k_is); (case k=>k_is); (case b=>(intro d j; first | (obtain ⟨_,rfl⟩:=L4.TB d j; rfl) | (obtain ⟨_,_,rfl⟩:=L4.TH d j; rfl) | (obtain ⟨_,_,_,rfl⟩:=L4.TJ d j; rfl) | (obtain ⟨_,_,_,_,rfl⟩:=L4.TK d j; rfl))))
end
