import PyProof.Rows.All
import PySem.Str
import PySem.Sem
import PyProof.StrBlockL
import PyProof.Rows.Walk
import Wide.All
import OpenK.AllK
import Wide.FinOn
import Lean
import PyProof.EqAt
import PyProof.EqKinds
import PyProof.TupleCall
import PyProof.SeqRoads2
import PyProof.ExcArgs
import KE.KIsAll
import PyProof.DictIter
import PyProof.Rows.CountFlat
import PyProof.NeKinds
import KE.KSortKey
import KE.KMinKey
import KE.KIntText
import PyProof.Rows.FStr
import PyProof.Rows.StrJoin2
import PyProof.DictItems
import PySem.Challenge.RW_risecount_k33_looker_wrong
set_option Elab.async false
set_option linter.all false
set_option maxRecDepth 100000
set_option maxHeartbeats 3999999
open PySem.W (CodeHd OpenLaw codeIn excIn fnOf hideAll instObj keepIn kitOne lookIn methodObj noTabs tabObj)
open And renaming intro->ze
open Array renaming forIn_toList->a2J,getD->uy,getD_eq_getD_getElem?->E_,getElem?_eq_getElem->jr,getElem?_eq_none->zd,getElem?_eq_some_iff->a2I,getElem?_toList->ux,getElem_toList->a2H,length_toList->zb,toList->a2G,toList_push->a2F
open BEq renaming beq->a2E
open Bool renaming and_assoc->Ez,and_eq_false_iff->a2D,and_eq_true->cm,eq_false_iff->za,eq_iff_iff->jh,false->ag,false_and->uw,false_eq_true->y_,false_ne_true->b_,false_or->nj,not_eq_false'->yz,not_eq_true->a2C,not_eq_true'->jg,not_not->Ey,or_eq_false_iff->a2B,or_eq_true->yy,true->ae,true_and->de
open Classical renaming byContradiction->rj,epsilon->a2A,epsilon_spec->a2z
open Decidable renaming decide->Zv
open False renaming elim->jl
open ForInStep renaming done->a2y,yield->l_
open Function renaming comp->Ex
open Int renaming add_zero->a2x,emod_lt_of_pos->gz,emod_nonneg->gn,eq_ofNat_of_zero_le->Ew,fdiv_eq_ediv_of_nonneg->a2w,le_refl->Eu,le_trans->Et,mul_one->a2v,toNat_natCast->gf,zero_add->ko
open List renaming all_cons->lz,all_eq_true->ib,all_map->rh,any_cons->j_,any_eq_false->a2t,any_eq_true->rf,any_map->Er,any_toArray->a2s,append_assoc->lr,append_inj'->yu,append_nil->jk,append_of_mem->pd,concat_eq_append->Ep,cons_append->q_,contains_iff_mem->lq,drop_eq_getElem_cons->yt,drop_eq_nil_of_le->a2r,drop_length->a2q,drop_zero->uv,eq_nil_or_concat->uu,eraseIdxIfInBounds_toArray->a2p,eraseIdx_cons_succ->Eo,ext_getElem?->En,filterMap_cons->yr,filter_cons_of_neg->a2o,filter_cons_of_pos->a2n,filter_eq_nil_iff->a2m,find?_cons->gx,findIdx?_eq_some_iff_getElem->a2l,flatMap_append->yq,flatMap_cons->yp,flatMap_nil->a2k,foldl_cons->ll,forIn_cons->o_,forIn_nil->yo,getD_eq_getElem?_getD->ur,getElem?_append_left->iu,getElem?_append_right->ir,getElem?_cons_succ->Em,getElem?_cons_zero->El,getElem?_drop->a2j,getElem?_eq_getElem->bo,getElem?_eq_none->qz,getElem?_eq_some_iff->cg,getElem?_map->dg,getElem?_range->a2i,getElem?_replicate->nh,getElem?_set_ne->jq,getElem?_set_self->nc,getElem?_take_of_lt->Ek,getElem?_zipIdx->ym,getElem?_zip_eq_some->a2h,getElem_drop->a2g,getElem_inj->a2f,getElem_map->a2e,getElem_mem->jz,getElem_of_mem->oz,length->qy,length_append->bq,length_cons->cf,length_drop->m_,length_eq_zero_iff->my,length_eraseIdx_of_lt->a2d,length_filter_le->qx,length_map->a_,length_nil->cy,length_pos_iff->lh,length_range->yl,length_replicate->mx,length_set->dm,length_take->jo,length_zip->a2c,lookup_append->Ej,lookup_cons->qw,map_append->cc,map_congr_left->jf,map_cons->bp,map_drop->a2b,map_map->gd,map_nil->qv,map_set->a2a,map_take->a19,mem_append->di,mem_append_left->iq,mem_append_right->gu,mem_cons->cb,mem_cons_of_mem->fg,mem_cons_self->cq,mem_filter->gc,mem_filterMap->uq,mem_flatMap->yj,mem_iff_getElem?->km,mem_map->fq,mem_map_of_mem->Ei,mem_of_getElem?->ia,mem_range->uo,mem_singleton->bt,mem_zipIdx_iff_getElem?->yi,nil_append->um,nodup_append->jn,nodup_cons->ig,nodup_nil->mw,nodup_range->a18,not_mem_nil->uk,of_mem_zip->Eh,pairwise_cons->gw,pairwise_iff_getElem->lg,pairwise_lt_range->a17,perm_ext_iff_of_nodup->a16,range->gk,range_succ_eq_map->yh,replicate->jy,set_cons_succ->a15,set_cons_zero->a14,size_toArray->cu,sum_append->Eg,sum_cons->ip,take_of_length_le->oy,take_sublist->Ef,take_succ->Ee,zip_cons_cons->yg,zip_map_left->a13
open List.Nodup renaming sublist->a35
open List.Pairwise renaming and->a34,filter->pf,map->yx,nil->yw
open List.Perm renaming append_left->a33,nil->a32,refl->Es,swap->a2u
open List.cons renaming inj->a31,injEq->pb
open Nat renaming add_assoc->a12,add_mul->Ed,add_zero->Ec,eq_of_testBit_eq->Eb,le_of_eq->kl,le_of_lt->kj,le_refl->bh,le_succ->qu,le_trans->gi,lt_asymm->a1Z,lt_irrefl->il,lt_log2_self->a1Y,lt_of_le_of_lt->a1X,lt_of_lt_of_le->gg,lt_of_succ_lt->yf,lt_succ_of_lt->qt,lt_succ_self->uj,lt_trans->a1W,min_le_right->a1V,mod_lt->a1U,mod_two_eq_zero_or_one->a1T,mul_le_mul->ye,mul_le_mul_right->a1S,ne_of_gt->ox,ne_of_lt->f_,one_pos->a1R,pow_le_pow_right->a1Q,shiftLeft_eq->a1P,shiftRight_eq_div_pow->a1O,strongRecOn->ui,sub_self->ou,sub_zero->yd,succ_ne_self->Ea,testBit_and->D_,testBit_or->a1N,testBit_two_pow->Dz,testBit_two_pow_sub_one->a1M,two_pow_pos->a1L,zero_add->Dy,zero_le->jx
open Ne renaming symm->d_
open Option renaming bind_some->cz,getD_none->a1K,isSome_iff_exists->Dx,isSome_map->uh,join_some->a1J,map_eq_some_iff->k_,map_none->a1I,map_some->ug,none->af,some->aa
open Option.some renaming inj->ft
open Or renaming inl->cx,inr->bu
open Prod renaming ext->yc
open Prod.mk renaming inj->a1H
open PyProof.Rows renaming AllBare->ki,IntsAre->i_,IsTup->kh,Subscript_->Du,args_tuple_getitem->a1F,assignInOrder_cons->Dt,assignInOrder_nil->a1E,boot_all->a30,boot_bool->a3Z,boot_int->a3Y,boot_isinstance->a3X,boot_list->a1D,boot_max->a1C,boot_min->a3W,boot_range->Ds,boot_sorted->a1B,boot_sum->a3V,boot_tuple->a1A,callWith_builtin1->a3U,callWith_type1->uf,entry_tuple_getitem->a1z,intBits_le->Dr,listUpdate_at->a1y,pow_int->a3T,slicePart_none->a1x,slot_tuple_getitem->oq,subscriptTail_builtinR->a1w,truthy_tuple->a1v,tupleItemsOf_->a1u
open PyProof.Rows.F renaming entry_set_update_loop->a1G,plain_set_update_loop->Dw
open PyProof.Rows.IntsAre renaming length->Dv
open PyProof.Rows.IsTup renaming new->yb
open PySem renaming Addr->ah,Around->br,BindsTo->qr,CmpOp->ue,DictEntry->qp,Env->dq,Expr->au,FuncData->h_,Heap->bb,IntMulOk->uc,IsEnum->ub,IsPart->kg,IsRange->Cz,IsRangeIter->a0Z,Keyword->g_,NameKind->je,Obj->az,Paired->ij,PassesOwn->qk,Pos->bc,Program->bg,Scope->gj,Shared->ao,Stmt->c_,Str->ak,Value->ai,Walks->tq,Within->a0B,World->ba,assignEach->cp,backTo->dj,builtinLookup_eq_fast->a0A,cLine->bx,call->Cq,callType_new->a0z,call_list_seq->a0y,call_meets->xh,call_meetsIn->a0x,call_range_1->a0w,codeAny->ju,codeAny_builtin->kz,codeAny_call_builtin->a0v,codeAny_mono->tj,concat_meets->Cp,entryFor_alias->a0u,eqIsQuiet_byValue->a0t,evalPart_none->a0s,find?_eq_fast->xg,fits_of_scanBound->xf,intBits_le_64->a0r,intItems_at->a0q,intKind_is->Co,isSubtype_stop->Cn,isSubtype_tuple_tuple->a0p,isSubtype_type->a0o,keywordEach->ku,mainGlobals->jb,mem_of_lookup->kc,model->ay,name_of_addr->a0n,noFill_tuple_add->Ck,nums_intItems->a0m,pairTrees_length->Cj,plainId_quiet->qh,pushCells_keeps->a0l,rangeSize_one->Cg,seqIndex_neg->Cf,seqIndex_of->Ce,seq_tuple_add->Cd,sizeLine->bf,sizeLine_eq->ie,slot_list_getitem->a0k,small_one->Cc,starEach->av,sub_set_self->a0j,swapsWith->df,tupleKind_room_in1->a0i,typeLookup_type->a0h,wpAny->aw,wpAny_Assign_Subscript->a0g,wpAny_Call_Name_kw->Ca,wpAny_Dict_empty->a0f,wpAny_Name->B_,wpAny_alloc->Bz,wpAny_askSetting->By,wpAny_assign_Name->a0e,wpAny_attempt->qg,wpAny_bind->aq,wpAny_bindName->a0d,wpAny_callSpecial?_slot->kb,wpAny_call_entry->ik,wpAny_execs_cons->a0c,wpAny_execs_nil->xb,wpAny_field->oh,wpAny_getItem_heap->a0b,wpAny_getItem_of->a0a,wpAny_handled->xa,wpAny_holding->iz,wpAny_isInstance->qe,wpAny_isTrue_Compare1->Zm,wpAny_load->s_,wpAny_mono->ka,wpAny_newObj_type->og,wpAny_passesOwn->n_,wpAny_pure->ax,wpAny_pyIter_enum->w_,wpAny_pyIter_list->Bx,wpAny_pyIter_slot->Bw,wpAny_pyIter_tuple->sx,wpAny_rule->kr,wpAny_runValue->Bv,wpAny_seqItems->Bu,wpAny_sequenceKey->Zl,wpAny_setEntries_of->su,wpAny_setField->me,wpAny_setItem_heap->Zk,wpAny_setItem_pairs->Zj,wpAny_setState_of->qd,wpAny_specialOf->wz,wpAny_standAt->sk,wpAny_storeSet_of->Zi,wpAny_throw->wy,wpAny_truthy_bool->jt,wpAny_truthy_list->Zh,wpAny_tupleItemsOf->Zg,wpAny_typeOf->qc
open PySem.Around renaming under_plainId->mq
open PySem.AutoSeq1 renaming list_extend_list_list_0->a3S
open PySem.Builtin renaming bitNot->Dj,bitOr->a1n
open PySem.Builtin.Dict_items renaming ownsTuple->a1t
open PySem.Builtin.Frozenset renaming newClass->a3R,sizeOf->a3Q,slot0->a3P,updateFrom->a3O
open PySem.Builtin.List renaming listExtendWith->Dq,listLengthHint->Dp,listSameRef->a1s,listTooLong->Dm,listTouch->a3N
open PySem.Builtin.Range renaming rangeSize->qq,small->Dl
open PySem.Builtin.Slice renaming sliceAdjust->Dk,sliceApplied->a1r,sliceFields->a3M,slicePartIndex->a3L,slicePlaces->ya
open PySem.Builtin.SmallTypes renaming nextOf->a1q
open PySem.Builtin.Tuple renaming tupleExact->x_,tupleHashOf->a1p,tupleIsExact->a3K,tupleItemsOf->a1o
open PySem.Calls renaming Name_function_global->a1m,callWith_builtin->Di,evalArgs_plain->Dh,spliced_cons->Dg,spliced_nil->a1l
open PySem.DictEntry renaming refKey->a3J
open PySem.EqMixed renaming eq_bool_str->a3I,eq_int_str->a3H,eq_str_bool->a3G,eq_str_int->a3F,ne_bool_str->a3E,ne_int_str->a3D,ne_str_bool->a3C,ne_str_int->a3B
open PySem.EqNone renaming eq_bool_none->a3A,eq_int_none->a3z,eq_none_bool->a3y,eq_none_int->a3x,eq_none_none->a3w,eq_none_str->a3v,eq_str_none->a3u,ne_bool_none->a3t,ne_int_none->a3s,ne_none_bool->a3r,ne_none_int->a3q,ne_none_none->a3p,ne_none_str->a3o,ne_str_none->a3n
open PySem.F renaming args_dict_get_3->a1k,args_dict_keyiterator_next_1->a1j,args_object_init_2->a1i,args_tuple_add_2->De,args_tuple_iterator_next_1->a1h,called_set->mj,entry_all_loop->a1g,entry_dict_get->a1f,entry_dict_keyiterator_next->a1e,entry_list_iadd->a1d,entry_list_pop->a1c,entry_proto_collect->a1b,entry_tuple_add->Dd,entry_tuple_iterator_next->a1a,plainAttrs_list->a09,plain_all_loop->xy,plain_list_iadd->xx,plain_proto_collect->a08,slot_dict_get->Dc,slot_dict_getitem->a07,slot_dict_iter->a06,slot_dict_keyiterator_next->ud,slot_list_append->a05,slot_list_extend->a04,slot_list_pop->xw,slot_set_iter->a03,slot_tuple_add->C_,slot_tuple_eq->a02,slot_tuple_iterator_next->xu,type_list_pop->a01
open PySem.Flow renaming next->a00
open PySem.Heap renaming ExtBut->xt,SameBut->jw,get?_push_of_some->ck,get?_push_size->dh,get?_update_other->qo,get?_update_self->mi,lt_size->bz,size_push->oo
open PySem.Heap.DictOf renaming new->a3m
open PySem.Heap.IsSliceOf renaming new->a3l
open PySem.Heap.SameBut renaming refl->a3k,update->jj
open PySem.IsL renaming update->a3j
open PySem.Manifest renaming find?->xr
open PySem.MeetsSeq renaming list_pop_at->a3h,list_pop_last->a3g
open PySem.MeetsSeq.EqGives renaming int->a3i
open PySem.NameKind renaming cell->jv,free->jm
open PySem.Obj renaming cls_mapFields->ua,data_mapFields->jd,isFreed_of_fields->qm,mapFields->t_,mapSeq->om,putSet->xq
open PySem.Paired renaming length->ql,snoc->xp
open PySem.PassesOwn renaming never->gq
open PySem.Pv renaming boot_set->a3f
open PySem.SeqAt renaming EqAt->mh,in_listAt->a0W,in_tupleAt->a0V,notIn_listAt->a0U,notIn_tupleAt->a0T
open PySem.SeqAt.EqAt renaming bool_bool->a3e,bool_int->a3d,bool_none->a3c,bool_str->a3b,int_bool->a3a,int_int->a29,int_none->a28,int_str->a0Y,int_tuple->a27,none_bool->a26,none_int->a25,none_str->a24,same->xo,str_bool->a23,str_int->a0X,str_none->a22,str_str->a21,str_tuple->a20,tuple_int->a2Z,tuple_str->a2Y
open PySem.SeqRoads2.EqGives renaming str->a2X
open PySem.SetTable renaming Probe->a2W,advance->a2V,below->e_,fill->a2U,fits->a0S,freeSlot->a2T,fresh->a2S,grown->qj,has->xm,insertAt->xl,laid->a2R,layClean->a2Q,orStandIn->a2P,probe->a2O,put->a2N,relaid->a2M,sizeAbove->a2L,slot->a0R,standIn->a2K
open PySem.SetTable.below renaming go->xn
open PySem.SetTable.probe renaming go->Cy
open PySem.Shared renaming TypeIs->a0Q
open PySem.Slot renaming of->a0P
open PySem.Str renaming ofString->oj
open PySem.Value renaming bool->tw,float->a0O,int->mf,isInt->a0N,isStrOf->a0M,none->xk,ref->fm,str->xj,type->tu
open PySem.W renaming Frag->ar,OpenLaw->qi,WalkO->Cw,cellsFrom_some->a0J,findIn->a0I,hideAll_get->Cv,hideAll_none->Cu,kia_one->ji,kitx_dict->a0H,kitx_list->Ct,kitx_tuple->a0G,nsIn->Cs,of_hideAll->a0F,plainGet->a0E,subIn->xi,tabIn->Cr,tail_of_in->a0D
open PySem.W.WData renaming int->a0L
open PySem.W.WShape renaming has->a0K
open PySem.Walks renaming list->a0C
open PySem.pickOrder renaming go->Ci
open Sum renaming inl->cn,inr->iy
open Sum.inl renaming inj->sj,injEq->Zf
open Sum.inr renaming inj->si
open True renaming intro->iw
open PySem
set_option genSizeOf false
set_option compiler.extract_closed false
set_option bootstrap.genMatcherCode false
noncomputable section
local macro_rules|`(tactic|lia)=>`(tactic|first|cutsat|omega)
local macro_rules|`(∅)=>`(by omega)
local macro_rules|`(tactic|show $t)=>`(tactic|first|refine $t|fail)
set_option hygiene false
local macro_rules|`(tactic|symm$[$l:location]?)=>`(tactic|simp only[Dn]$[$l]?)
set_option hygiene true
local macro_rules|`(tactic|walk_at "0")=>`(tactic|first|show .inl rfl|show .inr rfl)
local macro_rules|`(tactic|walk_at "1")=>`(tactic|first|show cx rfl|show bu (cx rfl)|show bu (bu rfl))
local macro_rules|`(tactic|walk_at "2")=>`(tactic|first|show .inr rfl|show .inl rfl)
theorem Zq0(h:True:=by rfl):True:=h
theorem Zq1(h:True:=by decide):True:=h
theorem Zq2(h:True:=by walk_at "0"):True:=h
theorem Zq3(h:True:=by walk_at "1"):True:=h
theorem Zq4(h:True:=by intro _;rfl):True:=h
theorem Zq5(h:True:=by with_unfolding_all rfl):True:=h
theorem Zq6(h:True:=by walk_at "2"):True:=h
theorem Zq7(h:True:=by intro _ _;rfl):True:=h
theorem Zq8(h:True:=by first|show .inl rfl|show .inr rfl|assumption):True:=h
theorem Zq9(h:True:=by show⟨rfl,rfl,rfl,by decide+kernel,rfl,by decide+kernel,by decide+kernel⟩):True:=h
local macro_rules|`($t<|>0)=>`(autoParam $t Zq0._auto_1)|`($t<|>1)=>`(autoParam $t Zq1._auto_1)|`($t<|>2)=>`(autoParam $t Zq2._auto_1)|`($t<|>3)=>`(autoParam $t Zq3._auto_1)|`($t<|>4)=>`(autoParam $t Zq4._auto_1)|`($t<|>5)=>`(autoParam $t Zq5._auto_1)|`($t<|>6)=>`(autoParam $t Zq6._auto_1)|`($t<|>7)=>`(autoParam $t Zq7._auto_1)|`($t<|>8)=>`(autoParam $t Zq8._auto_1)|`($t<|>9)=>`(autoParam $t Zq9._auto_1)
abbrev Q0a:=List (List Int)
abbrev Q0b:=List (ah×az)
abbrev Q0c:=ai->ao->Prop
abbrev Q0d:=ak->Option ai
abbrev Q0e:=List Int
abbrev Q0f:=List ai
abbrev Q0g:=List ak
abbrev Z_.{u}:=@if_pos.{u}
abbrev Zz.{u}:=@if_neg.{u}
abbrev Zy:=@decide_eq_false
abbrev Zx:=@decide_eq_true
abbrev Zw.{u}:=@absurd.{u}

namespace L3
inductive D where
 |non
 |bl (b:Bool)
 |int (i:Int)
 |str (x:ak)
 |tup (xs:List D)
 |lst (xs:List D)
 |gK (ns:Q0e)
 |jD (ks:List (Sum Int ak)) (xs:List D)
 |dG (q:Nat->az->Prop) (ks:List (Sum (Sum Int ak) (List (Sum (Sum Int ak) (List (Sum Int ak)))))) (xs:List D)
 |exc (c:ak) (a:Nat)
 |rws (xs:Q0a)
mutual
noncomputable def D.qW:D->Bool
 |.non=>ae
 |.bl _=>ae
 |.int _=>ae
 |.str _=>ae
 |.tup ds=>jT ds
 |.lst _=>ag
 |.gK _=>ae
 |.jD _ _=>ag
 |.dG _ _ _=>ag
 |.exc _ _=>ae
 |.rws _=>ag
noncomputable def jT:List D->Bool
 |[]=>ae
 |d::ds=>d.qW&&jT ds
end
abbrev b7:=List (Option D)
inductive Sv where
 |no
 |ro (d:D)
 |ow (d:D)
abbrev bK:=List Sv
noncomputable def Sv.all:Sv->Option D
 |.no=>af
 |.ro d=>aa d
 |.ow d=>aa d
abbrev Sv.ri(n:Int):Sv:=.ro (.int n)
noncomputable def Sv.rd:Sv->Option D
 |.ro d=>aa d
 |_=>af
def bB(ρ:bK):b7:=ρ.map Sv.all
def gO(ρ:bK):b7:=ρ.map Sv.rd
end L3
namespace L4
open L3
inductive M (α:Type) where
 |no
 |ex (c:ak)
 |ok (a:α)
inductive Out where
 |no
 |nx (ρ:bK)
 |rt (d:D)
 |ex (c:ak)
abbrev EF:=b7->Option D
abbrev TF:=b7->Option Bool
abbrev AF:=b7->Option (List D)
abbrev XF:=bK->Option (bK×D)
abbrev SF:=bK->Out
abbrev jV:=List D->M D
def tK:Nat:=16777216
def aF(i:Nat):EF:=λρ=>(ρ[i]?).join
def eC(d:D):EF:=λ_=>aa d
abbrev eI(n:Int):EF:=eC (.int n)
abbrev cZ:EF:=aF 0
abbrev cD:EF:=aF 1
abbrev dJ:EF:=aF 2
abbrev d9:EF:=aF 3
abbrev fR:EF:=aF 4
abbrev gJ:EF:=aF 5
abbrev gC:EF:=aF 6
abbrev nN:EF:=aF 7
abbrev qX:EF:=aF 8
abbrev BY:EF:=aF 9
abbrev l7:EF:=aF 10
abbrev TQ:EF:=aF 11
abbrev Ov:EF:=aF 12
def aB(g:D->D->Option D)(a b:EF):EF:=λρ=>(a ρ).bind λx=>(b ρ).bind λy=>g x y
noncomputable def mD:D->Option Bool
 |.bl b=>aa b
 |.lst ds=>aa (!ds.isEmpty)
 |.tup ds=>aa (!ds.isEmpty)
 |_=>af
def tV(f:EF):TF:=λρ=>(f ρ).bind mD
def iR(t:TF):TF:=λρ=>(t ρ).map (!·)
def fD(t u:TF):TF:=λρ=>(t ρ).bind λb=>if b=ae then u ρ else aa ag
def jS(t u:TF):TF:=λρ=>(t ρ).bind λb=>if b=ae then aa ae else u ρ
noncomputable def B3:D->Option Bool
 |.bl b=>aa b
 |_=>af
def oN(a b:EF):EF:=λρ=>(a ρ).bind λx=>(B3 x).bind λc=>if c=ae then b ρ else aa (.bl ag)
def ny(a b:EF):EF:=λρ=>(a ρ).bind λx=>(B3 x).bind λc=>if c=ae then aa (.bl ae) else b ρ
def Ou(a:EF):EF:=λρ=>(a ρ).bind λx=>(B3 x).map λc=>.bl (!c)
def nz(t:TF)(a b:EF):EF:=λρ=>(t ρ).bind λc=>if c=ae then a ρ else b ρ
noncomputable def Bt:D->Option D
 |.int i=>aa (.int (-i))
 |_=>af
def fP(a:EF):EF:=λρ=>(a ρ).bind Bt
def fE(f g:D->D->Option D)(a b c:EF):EF:=λρ=>(a ρ).bind λx=>(b ρ).bind λy=>(f x y).bind λz=>(B3 z).bind λk=>if k=ae then(c ρ).bind λw=>g y w else aa (.bl ag)
noncomputable def E2(g:Int->Int->D):D->D->Option D
 |.int i,.int j=>aa (g i j)
 |_,_=>af
noncomputable def gR(c:Int->Int->Bool)(g:Int->Int->D):D->D->Option D
 |.int i,.int j=>if c i j=ae then aa (g i j) else af
 |_,_=>af
noncomputable def bS:D->D->Option D
 |.int i,.int j=>aa (.int (i+j))
 |.lst a,.lst b=>if a.length+b.length<=tK then aa (.lst (a++b)) else af
 |.tup a,.tup b=>if a.length+b.length<=tK then aa (.tup (a++b)) else af
 |.str a,.str b=>if a.length+b.length<=tK then aa (.str (a++b)) else af
 |_,_=>af
def fJ:D->D->Option D:=E2 λi j=>.int (i-j)
def B4(i j:Int):Bool:=Zv (i.natAbs<18446744073709551616)||Zv (j.natAbs<18446744073709551616)||Zv (i.natAbs.log2+j.natAbs.log2<=134217700)
def mulM:D->D->Option D:=gR B4 λi j=>.int (i*j)
def bU:D->D->Option D:=gR (λ_ j=>Zv (0<j)) λi j=>.int (i%j)
def jJ:D->D->Option D:=gR (λ_ j=>Zv (0<j)&&Zv (j.natAbs<1073741824)) λi j=>.int (i/j)
def qZ:D->D->Option D:=gR (λi j=>Zv (0<=j)&&Zv (j.natAbs<=1000000)&&Zv (i.natAbs<18446744073709551616)) λi j=>.int (i^j.toNat)
def tL:D->D->Option D:=E2 λi j=>.bl (Zv (i<j))
def KI:D->D->Option D:=E2 λi j=>.bl (Zv (i<=j))
def jW:D->D->Option D:=E2 λi j=>.bl (Zv (j<i))
def xF:D->D->Option D:=E2 λi j=>.bl (Zv (j<=i))
noncomputable def XY:D->D->Option Bool
 |.int i,.int j=>aa (Zv (i=j))
 |.bl i,.bl j=>aa (Zv (i=j))
 |.str i,.str j=>aa (Zv (i=j))
 |.non,.non=>aa ae
 |_,_=>af
def fK:D->D->Option D:=λx y=>(XY x y).map .bl
def TR:D->D->Option D:=λx y=>(XY x y).map λb=>.bl (!b)
noncomputable def HN:D->Bool
 |.non=>ae
 |_=>ag
def isM:D->D->Option D:=λx y=>if HN y=ae then aa (.bl (HN x)) else af
noncomputable def intsOf:List D->Option (List Int)
 |[]=>aa []
 |.int i::ds=>(intsOf ds).map (i :: ·)
 |_::_=>af
def lC(neg:Bool):D->D->Option D
 |.int i,.tup ds=>(intsOf ds).map λns=>.bl (if neg then !ns.contains i else ns.contains i)
 |.int i,.lst ds=>(intsOf ds).map λns=>.bl (if neg then !ns.contains i else ns.contains i)
 |_,_=>af
def E3(n:Nat)(i:Int):Option Nat:=if 0<=i then(if i<n then aa i.toNat else af) else if -(n:Int)<=i then aa (i+n).toNat else af
def qY{a:Type}(xs:List a)(i:Int):Option a:=(E3 xs.length i).bind λj=>xs[j]?
noncomputable def aO:D->D->Option D
 |.lst a,.int i=>qY a i
 |.tup a,.int i=>qY a i
 |.gK a,.int i=>(qY a i).map D.int
 |_,_=>af
noncomputable def uL:D->Option (Sum Int ak)
 |.int i=>aa (.inl i)
 |.str x=>aa (.inr x)
 |_=>af
def jX(ks:List (Sum Int ak))(ds:List D)(k:Sum Int ak):Option D:=((ks.zip ds).find? λa=>Zv (a.1=k)).map (·.2)
def tM:D->D->Option D
 |.jD ks ds,d=>(uL d).bind λk=>jX ks ds k
 |_,_=>af
def aH:AF:=λ_=>aa []
def aA(a:EF)(t:AF):AF:=λρ=>(a ρ).bind λd=>(t ρ).bind λds=>aa (d::ds)
abbrev aR(i:Nat):AF:=aA (aF i) aH
def bN(t:AF):EF:=λρ=>(t ρ).bind λds=>if ds.length<=tK then aa (.tup ds) else af
def dB(t:AF):EF:=λρ=>(t ρ).bind λds=>if ds.length<=tK then aa (.lst ds) else af
def bH(g:List D->Option D)(t:AF):EF:=λρ=>(t ρ).bind g
noncomputable def KJ:M D->Option D
 |.ok d=>aa d
 |_=>af
def aM(R:jV)(t:AF):EF:=λρ=>(t ρ).bind λds=>KJ (R ds)
noncomputable def aP:List D->Option D
 |[.lst a]=>aa (.int a.length)
 |[.tup a]=>aa (.int a.length)
 |[.gK a]=>aa (.int a.length)
 |_=>af
noncomputable def eP:List D->Option D
 |[.lst a]=>aa (.tup a)
 |[.tup a]=>aa (.tup a)
 |_=>af
noncomputable def sL:List D->Option D
 |[.lst a]=>aa (.lst a)
 |[.tup a]=>aa (.lst a)
 |_=>af
noncomputable def insI(a:Int):List Int->List Int
 |[]=>[a]
 |b::l=>if a<=b then a::b::l else b::insI a l
def sortI:List Int->List Int
 |[]=>[]
 |a::l=>insI a (sortI l)
def iN:List D->Option D
 |[.lst a]=>(intsOf a).bind λns=>if ns.length<64 then aa (.lst ((sortI ns).map D.int)) else af
 |_=>af
def B5:List D->Option D
 |[.lst a]=>(intsOf a).map λns=>.int ns.sum
 |_=>af
def rA:List D->Option (List Bool)
 |[]=>aa []
 |d::ds=>(mD d).bind λb=>(rA ds).map (b :: ·)
def allM:List D->Option D
 |[.lst a]=>(rA a).map λbs=>.bl (bs.all id)
 |_=>af
noncomputable def tyM:D->String
 |.non => "NoneType"
 |.bl _ => "bool"
 |.int _ => "int"
 |.str _ => "str"
 |.tup _ => "tuple"
 |.lst _ => "list"
 |.gK _ => "list"
 |.jD _ _ => "dict"
 |.dG _ _ _ => "dict"
 |.exc _ _ => "NoneType"
 |.rws _ => "NoneType"
def ZM(T:String)(d:D):Bool:=tyM d == T||(T == "int"&&tyM d == "bool")
noncomputable def ZN:D->Bool
 |.exc _ _=>ag
 |.dG _ _ _=>ag
 |.rws _=>ag
 |_=>ae
def N3(T:String)(a:EF):EF:=λρ=>(a ρ).bind λd=>if ZN d=ae then aa (.bl (ZM T d)) else af
def aS(lo:Int)(n:Nat):List Int:=(gk n).map λk:Nat=>lo+(k:Int)
def Ot(hi:Int)(n:Nat):List Int:=(gk n).map λk:Nat=>hi-(k:Int)
noncomputable def E4(t:AF):EF:=λρ=>(t ρ).bind λds=>match ds with
 |[.int j]=>if j.natAbs<=16777216 then aa (.lst ((aS 0 j.toNat).map D.int)) else af
 |_=>af
noncomputable def uM(t:AF):EF:=λρ=>(t ρ).bind λds=>match ds with
 |[.int j]=>if j.natAbs<=16777216 then aa (.tup ((aS 0 j.toNat).map D.int)) else af
 |[.int i,.int j]=>if i.natAbs<=8388608/\j.natAbs<=8388608 then aa (.tup ((aS i (j-i).toNat).map D.int)) else af
 |_=>af
noncomputable def uN:List D->Option D
 |[.int i]=>aa (.int i)
 |[.bl b]=>aa (.int (if b=ae then 1 else 0))
 |_=>af
noncomputable def pQ:List D->Option D
 |[.int i,.int j]=>aa (.int (if j>i then j else i))
 |_=>af
noncomputable def xZ:List D->Option D
 |[.int i,.int j]=>aa (.int (if j<i then j else i))
 |_=>af
noncomputable def B6:D->D->Option D
 |.lst a,.lst b=>if a.length+b.length<=tK then aa (.lst (a++b)) else af
 |_,_=>af
noncomputable def B7:D->Option (List D)
 |.lst ds=>aa ds
 |.tup ds=>aa ds
 |_=>af
def eE(f:EF):AF:=λρ=>(f ρ).bind B7
noncomputable def E5:List D->Option (List D)
 |[.int j]=>if j.natAbs<4611686018427387904 then aa ((aS 0 j.toNat).map D.int) else af
 |[.int i,.int j]=>if i.natAbs<4611686018427387904/\j.natAbs<4611686018427387904 then aa ((aS i (j-i).toNat).map D.int) else af
 |[.int i,.int j,.int k]=>if k=-1/\i.natAbs<1000000/\j.natAbs<1000000 then aa ((Ot i (i-j).toNat).map D.int) else af
 |_=>af
def bC(t:AF):AF:=λρ=>(t ρ).bind E5
noncomputable def HP:List D->Option (List D)
 |[.lst ds]=>aa (ds.zipIdx.map λp=>.tup [.int (p.2:Int),p.1])
 |[.tup ds]=>aa (ds.zipIdx.map λp=>.tup [.int (p.2:Int),p.1])
 |_=>af
def sM(t:AF):AF:=λρ=>(t ρ).bind HP
def Oq:List D->Option (List D)
 |[a,b]=>(B7 a).bind λxs=>(B7 b).map λys=>(xs.zip ys).map λp=>.tup [p.1,p.2]
 |_=>af
def Oo(t:AF):AF:=λρ=>(t ρ).bind Oq
noncomputable def ZO:List D->Option (List D)
 |[.lst ds]=>aa ds.reverse
 |[.tup ds]=>aa ds.reverse
 |_=>af
def Om(t:AF):AF:=λρ=>(t ρ).bind ZO
abbrev TU:=D->b7->Option b7
def g1(i:Nat):TU:=λd ρ=>aa (ρ.set i (aa d))
noncomputable def HQ:D->Option (D×D)
 |.tup [x,y]=>aa (x,y)
 |_=>af
def g2(i j:Nat):TU:=λd ρ=>(HQ d).map λp=>(ρ.set i (aa p.1)).set j (aa p.2)
def eO:TF:=λ_=>aa ae
def benv(nl:Nat)(fr:List Nat)(ρ:b7):b7:=jy nl af++fr.map λj=>(ρ[j]?).join
noncomputable def jK(g:TU)(t:TF)(e:EF)(ρ:b7):List D->Option (List D)
 |[]=>aa []
 |d::ds=>(g d ρ).bind λa=>(t a).bind λb=>if b=ae then(e a).bind λy=>(jK g t e ρ ds).map (y :: ·) else jK g t e ρ ds
def cB(nl:Nat)(fr:List Nat)(it:AF)(g:TU)(t:TF)(e:EF):EF:=λρ=>(it ρ).bind λds=>if ds.length<=tK then(jK g t e (benv nl fr ρ) ds).map D.lst else af
abbrev OF:=b7->Option (Option Int)
def xB:OF:=λ_=>aa af
noncomputable def asInt:D->Option Int
 |.int i=>aa i
 |_=>af
def oE(f:EF):OF:=λρ=>(f ρ).bind λd=>(asInt d).map aa
noncomputable def xG(n d:Nat):Option Int->Nat
 |none=>d
 |some i=>if i<0 then(i+n).toNat else min i.toNat n
def mE(xs:List D)(lo hi:Option Int):List D:=(xs.drop (xG xs.length 0 lo)).take (xG xs.length xs.length hi-xG xs.length 0 lo)
def XZ(d:D)(lo hi:Option Int):Option D:=match d with
 |.lst ds=>aa (.lst (mE ds lo hi))
 |.tup ds=>aa (.tup (mE ds lo hi))
 |_=>af
def t7(f:EF)(lo hi:OF):EF:=λρ=>(f ρ).bind λd=>(lo ρ).bind λl=>(hi ρ).bind λh=>XZ d l h
def fB(f:EF):XF:=λρ=>(f (bB ρ)).bind λd=>if d.qW=ae then aa (ρ,d) else af
def aT(f:EF):XF:=λρ=>(f (gO ρ)).bind λd=>aa (ρ,d)
noncomputable def kJ:Option Sv->Option (List D)
 |some (.ow (.lst ds))=>aa ds
 |_=>af
def kK(i:Nat)(m:List D->D->Option (List D×D))(x:XF):XF:=λρ=>(kJ ρ[i]?).bind λ_=>(x ρ).bind λp=>(kJ p.1[i]?).bind λds=>(m ds p.2).map λq=>(p.1.set i (.ow (.lst q.1)),q.2)
def fF:List D->D->Option (List D×D):=λds d=>if ds.length<tK then aa (ds++[d],.non) else af
noncomputable def TV:List D->D->Option (List D×D)
 |ds,.int k=>if k.natAbs<9223372036854775808 then(E3 ds.length k).bind λj=>(ds[j]?).map λd=>(ds.eraseIdx j,d) else af
 |_,_=>af
noncomputable def N4:List D->D->Option (List D×D)
 |ds,.lst es=>if ds.length+es.length<=tK then aa (ds++es,.non) else af
 |_,_=>af
def B8(i:Nat):XF:=λρ=>(kJ ρ[i]?).bind λds=>(ds[ds.length-1]?).map λd=>(ρ.set i (.ow (.lst ds.dropLast)),d)
def cH:SF:=λρ=>.nx ρ
noncomputable def aJ(f g:SF):SF:=λρ=>match f ρ with
 |.nx ρ'=>g ρ'
 |o=>o
def bY(f:EF):SF:=λρ=>match f (bB ρ) with
 |some d=>.rt d
 |none=>.no
def dS(t:TF)(a b:SF):SF:=λρ=>match t (bB ρ) with
 |some ae=>a ρ
 |some ag=>b ρ
 |none=>.no
def bA(i:Nat)(f:EF):SF:=λρ=>match f (gO ρ) with
 |some d=>.nx (ρ.set i (.ro d))
 |none=>.no
noncomputable def uO(i:Nat)(x:XF):SF:=λρ=>match x ρ with
 |some p=>.nx (p.1.set i (.ro p.2))
 |none=>.no
def i0(i:Nat)(f:EF):SF:=λρ=>match f (gO ρ) with
 |some d=>.nx (ρ.set i (.ow d))
 |none=>.no
def mF:D->Bool
 |.lst ds=>jT ds
 |_=>ag
def B9(i:Nat)(f:EF):SF:=λρ=>match f (bB ρ) with
 |some d=>if mF d=ae then .nx (ρ.set i (.ow d)) else .no
 |none=>.no
def kL(i:Nat)(f:EF):SF:=λρ=>match f (bB ρ) with
 |some d=>if mF d=ae then .nx (ρ.set i (.ro d)) else .no
 |none=>.no
def N5(i:Nat):SF:=λρ=>.nx (ρ.set i (.ow (.jD [] [])))
noncomputable def sX(x:XF):SF:=λρ=>match x ρ with
 |some p=>.nx p.1
 |none=>.no
def rB(i:Nat)(x:XF)(k:EF):SF:=λρ=>match ((x ρ).bind λp=>(kJ p.1[i]?).bind λds=>(k (bB p.1)).bind λkd=>(asInt kd).bind λa=>(E3 ds.length a).map λj=>p.1.set i (.ow (.lst (ds.set j p.2)))) with
 |some ρ'=>.nx ρ'
 |none=>.no
noncomputable def uP:Option Sv->Option (List (Sum Int ak)×List D)
 |some (.ow (.jD ks ds))=>aa (ks,ds)
 |_=>af
def HR(i:Nat)(x:XF)(k:EF):SF:=λρ=>match ((x ρ).bind λp=>(uP p.1[i]?).bind λkd=>(k (bB p.1)).bind λd=>(uL d).bind λa =>
  if(jX kd.1 kd.2 a).isNone=ae/\kd.2.length<tK then aa (p.1.set i (.ow (.jD (kd.1++[a]) (kd.2++[p.2])))) else af) with
 |some ρ'=>.nx ρ'
 |none=>.no
abbrev TX:=D->bK->Option bK
def lA(i:Nat):TX:=λd ρ=>aa (ρ.set i (.ro d))
def BZ(i j:Nat):TX:=λd ρ=>(HQ d).map λp=>(ρ.set i (.ro p.1)).set j (.ro p.2)
noncomputable def gD(g:TX)(b:SF):List D->bK->Out
 |[],ρ=>.nx ρ
 |d::ds,ρ=>match g d ρ with
  |none=>.no
  |some ρ1=>match b ρ1 with
   |.nx ρ2=>gD g b ds ρ2
   |o=>o
def dM(it:AF)(g:TX)(b:SF):SF:=λρ=>match it (gO ρ) with
 |some ds=>gD g b ds ρ
 |none=>.no
def eQ(t:TF)(b:SF):Nat->bK->Out
 |0,_=>.no
 |n+1,ρ=>match t (bB ρ) with
  |none=>.no
  |some ag=>.nx ρ
  |some ae=>match b ρ with
   |.nx ρ'=>eQ t b n ρ'
   |o=>o
def N6(n:Nat)(t:TF)(b:SF):SF:=eQ t b n
def eG(n:Nat)(ds:List D):bK:=ds.map Sv.ro++jy (n-ds.length) Sv.no
noncomputable def cM(n a:Nat)(b:SF):jV:=λds=>if ds.length=a then(match b (eG n ds) with
 |.rt d=>.ok d
 |.nx _=>.ok .non
 |.ex c=>.ex c
 |.no=>.no) else .no
noncomputable def Bs:List Int->List Int->Bool
 |[],[]=>ag
 |[],_::_=>ae
 |_::_,[]=>ag
 |a::as,b::bs=>if a=b then Bs as bs else Zv (a<b)
def Br(t:Q0e):List (List Int)->List (List Int)
 |[]=>[t]
 |u::us=>if Bs u t=ae then u::Br t us else t::u::us
def X0:List (List Int)->List (List Int)
 |[]=>[]
 |t::ts=>Br t (X0 ts)
noncomputable def tN(f:D->D->Option Bool):List D->List D->Option Bool
 |d::ds,e::es=>(f d e).bind λx=>(tN f ds es).map (x && ·)
 |_,_=>aa ae
def eqP:Nat->D->D->Option Bool
 |_,.int i,.int j=>aa (Zv (i=j))
 |_,.bl i,.bl j=>if i=j then aa ae else af
 |_,.str i,.str j=>if i=j then aa ae else af
 |n+1,.tup a,.tup b=>(tN (eqP n) a b).map λr=>r&&Zv (a.length=b.length)
 |_,_,_=>af
def oO:D->D->Option D:=λx y=>(eqP 8 x y).map D.bl
def j7:D->D->Option D:=λx y=>(eqP 8 x y).map λb=>.bl (!b)
def rC:D->List D->Option Bool
 |_,[]=>aa ag
 |x,d::ds=>(eqP 8 d x).bind λb=>(rC x ds).map (b || ·)
def E6(neg:Bool):D->D->Option D
 |x,.lst ds=>(rC x ds).map λb=>.bl (if neg then !b else b)
 |x,.tup ds=>(rC x ds).map λb=>.bl (if neg then !b else b)
 |_,_=>af
theorem iE:∀{a b:List D} {r:Bool},tN f a b=aa r ->∃e:Nat->Bool,(∀(j:Nat) (x y:D),a[j]?=aa x->b[j]?=aa y->f x y=aa (e j))/\r=(gk (min a.length b.length)).all e
 |[],b,r,h=>by cases h;show⟨λ_=>ae,λj x y l=>by simp at l,by simp⟩
 |d::ds,[],r,h=>by cases h;show⟨λ_=>ae,λj x y _ h2=>by simp at h2,by simp⟩
 |d::ds,c::cs,r,h=>by
  unfold tN at h
  cases q:f d c with
  |none=>rw[q] at h;cases h
  |some x =>
   rw[q] at h
   cases q2:tN f ds cs with
   |none=>simp[q2] at h
   |some y =>
    simp[q2] at h;obtain⟨e,l,h2⟩:=iE q2;show⟨λj=>match j with|0=>x|j+1=>e j,λj u v m e2=>?_,?_⟩
    .cases j with
     |zero=>cases m;cases e2;show q
     |succ j=>show l j u v (by simpa using m) (by simpa using e2)
    .rw [<- h,h2,cf,cf,show min (ds.length+1) (cs.length+1)=min ds.length cs.length+1 by lia,yh,lz,rh];rfl
noncomputable def Ol(ρ:bK)(i:Nat):bK:=match ρ[i]? with
 |some (.ow d)=>ρ.set i (.ro d)
 |_=>ρ
def ZP(i:Nat)(f:SF):SF:=λρ=>f (Ol ρ i)
abbrev RF:=b7->Option ak
noncomputable def Bq:M D->Option ak
 |.ex c=>aa c
 |_=>af
def uQ(R:jV)(t:AF):RF:=λρ=>(t ρ).bind λds=>Bq (R ds)
def uR(r:RF)(f:SF):SF:=λρ=>match r (bB ρ) with
 |some c=>.ex c
 |none=>f ρ
def pR(t:AF)(c:ak):SF:=λρ=>match t (bB ρ) with
 |some ds=>if ds.length<=10 then .ex c else .no
 |none=>.no
def mG:D->D->Option D:=gR (λi j=>Zv (0<=j)&&Zv (j<=100)&&Zv (i.natAbs<2^1000)) λi j=>.int (i^j.toNat)
noncomputable def oP(x:XF)(g:TX):SF:=λρ=>match (x ρ).bind λp=>g p.2 p.1 with
 |some ρ'=>.nx ρ'
 |none=>.no
noncomputable def zV:List Int->Int
 |[]=>0
 |a::l=>l.foldl (λm b=>if m<b then b else m) a
noncomputable def TY(f:SF):SF:=λρ=>match f ρ with
 |.ex _=>.no
 |o=>o
def putN(ns:Q0e)(k:Int):List Int:=if k∈ns then ns else ns++[k]
def zW(ns:Q0e):List Int:=ns.foldl putN []
def f7:List D->Option D
 |[.tup ds]=>(intsOf ds).bind λns=>if ns.length<64 then aa (.lst ((sortI (zW ns)).map D.int)) else af
 |_=>af
def KL(i j:Nat)(t:AF):SF:=λρ=>match t (gO ρ) with
 |some [x,y]=>.nx ((ρ.set i (.ro x)).set j (.ro y))
 |_=>.no
abbrev tO:Nat->az->Prop:=λ_ _=>True
def adr(q:Nat->az->Prop):Nat->az->Prop:=λa _=>∃o,q a o
abbrev xH:=Sum Int ak
abbrev PN1:=List (Sum xH (List xH))
abbrev KN:=Sum xH PN1
def x5:List D->Option (List xH)
 |[]=>aa []
 |d::ds=>(uL d).bind λk=>(x5 ds).map (k :: ·)
def X1:D->Option (Sum xH (List xH))
 |.tup ds=>(x5 ds).map .inr
 |d=>(uL d).map .inl
def rD:List D->Option PN1
 |[]=>aa []
 |d::ds=>(X1 d).bind λk=>(rD ds).map (k :: ·)
def n8:D->Option KN
 |.tup ds=>(rD ds).map .inr
 |d=>(uL d).map .inl
noncomputable def dK:xH->D
 |.inl i=>.int i
 |.inr x=>.str x
def N7:Sum xH (List xH)->D
 |.inl k=>dK k
 |.inr ks=>.tup (ks.map dK)
def ZQ:KN->D
 |.inl k=>dK k
 |.inr ks=>.tup (ks.map N7)
def eX(ks:List KN)(ds:List D)(k:KN):Option D:=((ks.zip ds).find? λp=>Zv (p.1=k)).map (·.2)
def kindB(ks:List KN)(k:KN):Bool:=ks.all λq=>q.isLeft == k.isLeft
def oQ:D->D->Option D
 |.dG _ ks ds,d=>(n8 d).bind λk=>if kindB ks k=ae then eX ks ds k else af
 |_,_=>af
def zX(neg:Bool):D->D->Option D
 |d,.dG _ ks ds=>(n8 d).bind λk=>if kindB ks k=ae then aa (.bl (if neg then !(eX ks ds k).isSome else(eX ks ds k).isSome)) else af
 |_,_=>af
def N8:D->D->D->Option D
 |.dG _ ks ds,d,z=>(n8 d).bind λk=>if kindB ks k=ae then aa ((eX ks ds k).getD z) else af
 |_,_,_=>af
def HS(a b c:EF):EF:=λρ=>(a ρ).bind λx=>(b ρ).bind λy=>(c ρ).bind λz=>N8 x y z
def iS(ks:List KN)(ds:List D)(k:KN)(v:D):List KN×List D :=
 if ks.any (λq=>Zv (q=k))=ae then(ks,(ks.zip ds).map λp=>if p.1=k then v else p.2) else(ks++[k],ds++[v])
def N9:D->Option (List D)
 |.dG _ ks _=>aa (ks.map ZQ)
 |_=>af
def E7(f:EF):AF:=λρ=>(f ρ).bind N9
noncomputable def KO:Option Sv->Option ((Nat->az->Prop)×List KN×List D)
 |some (.ow (.dG q ks ds))=>aa (q,ks,ds)
 |_=>af
def HU(i:Nat):SF:=λρ=>.nx (ρ.set i (.ow (.dG tO [] [])))
def zY(i:Nat)(k v:EF):SF:=λρ=>match (k (gO ρ)).bind λkd=>(v (gO ρ)).bind λd=>(n8 kd).map λa=>(a,d) with
 |some p=>.nx (ρ.set i (.ow (.dG tO [p.1] [p.2])))
 |none=>.no
def l3(i:Nat)(x:XF)(k:EF):SF:=λρ=>match ((x ρ).bind λp=>(KO p.1[i]?).bind λkd=>(k (bB p.1)).bind λd=>(n8 d).bind λa =>
  if kindB kd.2.1 a=ae/\kd.2.2.length<tK then aa (p.1.set i (.ow (.dG (adr kd.1) (iS kd.2.1 kd.2.2 a p.2).1 (iS kd.2.1 kd.2.2 a p.2).2))) else af) with
 |some ρ'=>.nx ρ'
 |none=>.no
noncomputable def HV(i j:Nat):SF:=λρ=>match ρ[j]? with
 |some (.ow d)=>if i=j then .no else .nx ((ρ.set j .no).set i (.ow d))
 |_=>.no
abbrev KD:=List KN×List D
def nnC(i j:Int):Bool:=Zv (0<=i)&&Zv (0<=j)
def uS:D->D->Option D:=gR (λi j=>Zv (0<=j)&&Zv (j.natAbs<=1000000)&&Zv (i.natAbs<18446744073709551616)) λi j=>.int (i*2^j.toNat)
def E8:D->D->Option D:=gR (λ_ j=>Zv (0<=j)) λi j=>.int (i/2^j.toNat)
def mH:D->D->Option D:=gR nnC λi j=>.int ((i.toNat &&& j.toNat:Nat):Int)
def E9:D->D->Option D:=gR nnC λi j=>.int ((i.toNat ||| j.toNat:Nat):Int)
def HW:List D->Option D
 |[.lst ds]=>(intsOf ds).bind λns=>if ns=[] then af else aa (.int (zV ns))
 |_=>af
def aFm:D->Option (List Int)
 |.lst ys=>intsOf ys
 |_=>af
def Bp(d:D)(lo hi:Option Int):Option D:=match d with
 |.lst ds=>aa (.lst (mE ds lo hi))
 |_=>af
def ZR(f:EF)(lo hi:OF):EF:=λρ=>(f ρ).bind λd=>(lo ρ).bind λl=>(hi ρ).bind λh=>Bp d l h
noncomputable def OA:D->Option (D×D×D×D)
 |.tup [a,b,c,d]=>aa (a,b,c,d)
 |_=>af
def sf(i j k l:Nat):TX:=λd ρ=>(OA d).map λp=>(((ρ.set i (.ro p.1)).set j (.ro p.2.1)).set k (.ro p.2.2.1)).set l (.ro p.2.2.2)
def CA(i:Nat)(ks:Q0e)(a:AF):SF:=λρ=>match a (gO ρ) with
 |some ds=>.nx (ρ.set i (.ow (.jD (ks.map .inl) ds)))
 |none=>.no
end L4
namespace Ord
structure Rows (rows:Q0a):Prop where
 up:∀(b:Nat) (r:Q0e),rows[b]?=aa r->r.Pairwise (·<·)
 rng:∀(b:Nat) (r:Q0e),rows[b]?=aa r ->∀a∈r,0<=a/\a<(rows.length:Int)
 tr:∀(b a:Nat) (r v:Q0e),rows[b]?=aa r->(a:Int)∈r->rows[a]?=aa v ->∀c∈v,c∈r
 irr:∀(b:Nat) (r:Q0e),rows[b]?=aa r->(b:Int)∉r
theorem uT{d:Type}:∀(l:List d) (j:Nat) (x:d),l[j]?=aa x->(x::l.eraseIdx j).Perm l
 |[],j,x,h=>by simp at h
 |a::l,0,x,h=>by simp at h;subst h;simp
 |a::l,j+1,x,h=>by have m:=uT l j x (by simpa using h);rw[Eo];show(a2u a x _).trans (m.cons a)
def zZ{l:Q0e}(p:Int->Bool)(h:l.Nodup):(l.filter p).Nodup:=pf p h
def Under(d:Q0e)(h:Q0a)(t:Nat)(u:Q0e):Prop :=
 u.Nodup /\∀a∈u,∃(s:Nat) (v:Q0e),s<t/\d[s]?=aa a/\h[s]?=aa v /\∀c∈v,c∈u
def Good(d:Q0e)(a:Q0a):Prop:=∀(t:Nat) (u:Q0e),a[t]?=aa u->Under d a t u
def Under.mono(h:Under Ξ us t u)(m:t<=t'):Under Ξ us t' u :=
 ⟨h.1,λa d=>by obtain⟨s,v,n,h2,l,j⟩:=h.2 a d;show⟨s,v,by lia,h2,l,j⟩⟩
def uU{d:Q0e}(h:d.Nodup){i j:Nat}{a:Int}(hi:d[i]?=aa a)(l:d[j]?=aa a):i=j:=by obtain⟨n,m⟩:=cg.mp hi;obtain⟨h2,e2⟩:=cg.mp l;show(a2f h).mp (m.trans e2.symm)
theorem Under.step{j:Q0e}{n:Q0a}{i:Nat}{u v:Q0e}{x:Int}(hw:j.Nodup)(g:Good j n)(h:Under j n i u)(F:j[i]?=aa x)(I:n[i]?=aa v):
  Under j n (i+1) (u++(v++[x]).filter λa=>!u.contains a):=by
 have p:=g i v I;have mem:∀c,c∈v++[x]->c∈u++(v++[x]).filter λa=>!u.contains a:=λc d=>by
  by_cases J:c∈u
  .exact iq _ J
  .exact gu _ (gc.mpr ⟨d,by simpa using J⟩)
 have K:(v++[x]).Nodup:=by show jn.mpr ⟨p.1,by simp,λa m b l e=>?_⟩;have l:=bt.mp l;subst l;subst e;obtain⟨s,_,o,h2,_⟩:=p.2 a m;have:=uU hw h2 F;lia
 show⟨jn.mpr ⟨h.1,zZ _ K,λa m b l e=>?_⟩,λa m=>?_⟩
 .subst e;have:=(gc.mp l).2;simp at this;show this m
 .rcases di.mp m with o|o
  .obtain ⟨s,z,L,A,y,q⟩:=h.2 a o;show⟨s,z,by lia,A,y,λc d=>iq _ (q c d)⟩
  .rcases di.mp (gc.mp o).1 with h2|h2
   .obtain ⟨s,z,L,A,y,q⟩:=p.2 a h2;show⟨s,z,by lia,A,y,λc d=>mem c (iq _ (q c d))⟩
   .have e:=bt.mp h2;subst e;show⟨i,v,by lia,F,I,λc d=>mem c (iq _ d)⟩
def Good.snoc(g:Good Ξ us)(h:Under Ξ us us.length u):Good Ξ (us++[u]):=λt z e=>by
 have old:∀{s:Nat} {v:Q0e},us[s]?=aa v->(us++[u])[s]?=aa v:=λ{s v} e=>by rw[iu (cg.mp e).1];show e
 have up:∀{t:Nat} {z:Q0e},Under Ξ us t z->Under Ξ (us++[u]) t z:=λ{t z} q=>⟨q.1,λa j=>by obtain⟨s,v,p,o,n,m⟩:=q.2 a j;show⟨s,v,p,o,old n,m⟩⟩;by_cases d:t<us.length
 .rw [iu d] at e;show up (g t z e)
 .have l:t=us.length:=by have:=(cg.mp e).1;simp at this;lia
  subst l;rw[ir (bh _),ou] at e;have e:u=z:=by simpa using e
  subst e;show up h
theorem Good.rows{d:Q0e}{m rows:Q0a}{n:Nat}(g:Good d m)(Z:m.length=n)(hw:d.Perm ((gk n).map λk:Nat=>(k:Int)))(hr:rows.length=n)
  (h:∀(b t:Nat) (r u:Q0e),rows[b]?=aa r->d[t]?=aa (b:Int)->m[t]?=aa u->r.Perm u/\r.Pairwise (· <= ·)):Rows rows:=by
 have nd:d.Nodup:=hw.nodup_iff.mpr (by
  show yx _ (λa b A=>?_) a18;intro e;show A ∅)
 have find:∀(b:Nat),b<n ->∃t u,d[t]?=aa (b:Int)/\m[t]?=aa u:=λb p=>by
  have y:(b:Int)∈d:=hw.mem_iff.mpr (fq.mpr ⟨b,uo.mpr p,rfl⟩);obtain⟨t,I⟩:=km.mp y;have hl:d.length=n:=by rw[hw.length_eq,a_,yl]
  have:=(cg.mp I).1;show⟨t,m[t]'∅,I,bo ∅⟩
 have row:∀(b:Nat) (r:Q0e),rows[b]?=aa r ->∃t u,d[t]?=aa (b:Int)/\m[t]?=aa u/\r.Perm u/\r.Pairwise (· <= ·):=λb r e=>by have p:=(cg.mp e).1;obtain⟨t,u,l,h2⟩:=find b ∅;show⟨t,u,l,h2,h b t r u e l h2⟩
 show⟨λb r e=>?_,λb r e a F=>?_,λb a r v e F ev c O=>?_,λb r e p=>?_⟩
 .obtain ⟨t,u,l,h2,j,x⟩:=row b r e;have K:r.Nodup:=j.nodup_iff.mpr (g t u h2).1;show(List.pairwise_and_iff.mpr ⟨x,K⟩).imp λq=>by have:=q.1;have:=q.2;lia
 .obtain ⟨t,u,l,h2,j,x⟩:=row b r e;obtain⟨s,z,_,o,_⟩:=(g t u h2).2 a (j.mem_iff.mp F);have y:=hw.mem_iff.mp (ia o);obtain⟨k,L,rfl⟩:=fq.mp y;have:=uo.mp L;lia
 .obtain ⟨t,u,l,h2,j,x⟩:=row b r e;obtain⟨t2,u2,k1,k2,k3,Y⟩:=row a v ev;obtain⟨s,z,_,o,J,X⟩:=(g t u h2).2 _ (j.mem_iff.mp F);have U:=uU nd o k1;subst U;rw[k2] at J;cases J;show j.mem_iff.mpr (X c (k3.mem_iff.mp O))
 .obtain ⟨t,u,l,h2,j,x⟩:=row b r e;obtain⟨s,z,a1,o,_⟩:=(g t u h2).2 _ (j.mem_iff.mp p);have:=uU nd o l;lia
noncomputable def tri:Nat->Nat
 |0=>0
 |j+1=>tri j+j
theorem ZS(h:i<=j):tri i<=tri j:=by
 induction h with
 |refl=>show bh _
 |step _ ih=>show gi ih (Nat.le_add_right _ _)
def ZT(a:j<n)(hi:i<j):tri j+i<tri n:=by have:=ZS (show j+1<=n by lia);show tri j+i<tri n;have e:tri (j+1)=tri j+j:=rfl;lia
theorem eA:∀(l m:Q0e),l.Nodup->(∀a∈l,a∈m)->l.length<=m.length
 |[],m,_,_=>jx _
 |a::l,m,h,hs=>by
  obtain⟨o,h2⟩:=ig.mp h;have j:=hs a cq;have n:=eA l (m.erase a) h2 λb d=>by have:b≠a:=λe=>o (e▸d);show(List.mem_erase_of_ne this).mpr (hs b (fg _ d))
  rw[List.length_erase_of_mem j] at n;have:0<m.length:=List.length_pos_of_mem j;rw[cf];lia
end Ord
namespace LL
open L3 L4
def eJ:jV:=cM 2 2
  (aJ (dS (tV (aB fK (bH aP (aR 0)) (eI 0)))
   (bY (eI 0))
   cH)
  (bY (aB aO cZ (aB bU cD (bH aP (aR 0))))))
def jE:jV:=cM 5 3
  (aJ (bA 3 (aB bU (aB mulM (aB bS (aB bS (aB bS cZ (aB mulM (aB mulM (eI 11) cD) cD)) (aB mulM (eI 17) cD)) dJ) (eI 48271)) (eI 2147483647)))
  (aJ (bA 4 (aB bU (aB bS (aB bS (aB mulM d9 (aB bS (aB jJ d9 (eI 4096)) (eI 5))) (aB mulM (eI 29) cD)) dJ) (eI 2147483629)))
  (bY (aB bU (aB mulM fR (eI 39373)) (eI 1000000007)))))
def dI:jV:=cM 6 3
  (aJ (i0 3 (dB aH))
  (aJ (bA 4 (eI 0))
  (aJ (dS (tV (aB xF cZ (aB qZ (eI 10) (eI 18))))
   (bA 4 cZ)
   cH)
  (aJ (dM (bC (aR 1)) (lA 5)
   (dS (tV (aB jW fR (eI 0)))
    (aJ (sX (kK 3 fF (aT (aB bU fR (eI 64)))))
    (bA 4 (aB jJ fR (eI 64))))
    (sX (kK 3 fF (aT (aM LL.jE (aA cZ (aA gJ (aR 2)))))))))
  (bY d9)))))
def fA:jV:=cM 11 3
  (aJ (i0 3 (E4 (aR 1)))
  (aJ (i0 4 (dB aH))
  (aJ (dM (bC (aR 1)) (lA 5)
   (sX (kK 4 fF (kK 3 TV (fB (aB bU (aB aO cZ gJ) (bH aP (aR 3))))))))
  (aJ (N5 6)
  (aJ (bA 7 cD)
  (aJ (dM (bC (aR 1)) (lA 8)
   (aJ (bA 9 (dB aH))
   (aJ (dM (bC (aR 8)) (lA 10)
    (aJ (dS (tV (aB tL (aB bU (aB aO cZ nN) (eI 4)) dJ))
     (kL 9 (aB B6 BY (cB 1 [9] (eE (aB bS (aB tM gC (aB aO fR l7)) (dB (aA (aB aO fR l7) aH)))) (g1 0) (tV (aB (lC ae) cZ cD)) cZ)))
     cH)
    (bA 7 (aB bS nN (eI 1)))))
   (HR 6 (aT BY) (aB aO fR qX)))))
  (bY (bH eP (aA (cB 1 [6] (bC (aR 1)) (g1 0) eO (bH eP (aA (bH iN (aA (aB tM cD cZ) aH)) aH))) aH)))))))))
def τ(xs:Q0e):D:=.tup (xs.map D.int)
def aI(xs:Q0e):D:=.lst (xs.map D.int)
def aE(rows:Q0a):D:=.tup (rows.map τ)
def dN:bS (.int i) (.int j)=aa (.int (i+j)):=rfl
def eK:fJ (.int i) (.int j)=aa (.int (i-j)):=rfl
def bG(h:0<j):bU (.int i) (.int j)=aa (.int (i%j)):=by simp[bU,gR,h]
def iT(h:0<j)(h2:j<1073741824):jJ (.int i) (.int j)=aa (.int (i/j)):=by simp[jJ,gR,h,show j.natAbs<1073741824 by lia]
def pS:tL (.int i) (.int j)=aa (.bl (Zv (i<j))):=rfl
def t8:KI (.int i) (.int j)=aa (.bl (Zv (i<=j))):=rfl
def dZ:jW (.int i) (.int j)=aa (.bl (Zv (j<i))):=rfl
def jY:xF (.int i) (.int j)=aa (.bl (Zv (j<=i))):=rfl
def cN:fK (.int i) (.int j)=aa (.bl (Zv (i=j))):=rfl
def z0:TR (.int i) (.int j)=aa (.bl (!Zv (i=j))):=rfl
def OB:fK (.bl i) (.bl j)=aa (.bl (Zv (i=j))):=rfl
def TZ:fK (.str i) (.str j)=aa (.bl (Zv (i=j))):=rfl
def T4:isM d .non=aa (.bl (HN d)):=rfl
def pT:aO (.lst a) (.int i)=qY a i:=rfl
def HX:aO (.tup a) (.int i)=qY a i:=rfl
def T5:aO (.gK a) (.int i)=(qY a i).map D.int:=rfl
def OC:aP [.lst a]=aa (.int a.length):=rfl
def uV:aP [.tup a]=aa (.int a.length):=rfl
def OD:aP [.gK a]=aa (.int a.length):=rfl
def FA:eP [.lst a]=aa (.tup a):=rfl
def FC:eP [.tup a]=aa (.tup a):=rfl
def KP:sL [.lst a]=aa (.lst a):=rfl
def KQ:sL [.tup a]=aa (.lst a):=rfl
def KR:B7 (.lst a)=aa a:=rfl
def KS:B7 (.tup a)=aa a:=rfl
def KU:mD (.bl b)=aa b:=rfl
def FD:mD (.lst b)=aa (!b.isEmpty):=rfl
def oR:mD (.tup b)=aa (!b.isEmpty):=rfl
def pU:B3 (.bl b)=aa b:=rfl
def nO(h:ds.length<16777216):fF ds d=aa (ds++[d],.non):=Z_ h
def T6(h:ds.length+es.length<=16777216):N4 ds (.lst es)=aa (ds++es,.non):=Z_ h
def x6:HP [.tup ds]=aa (ds.zipIdx.map λp=>.tup [.int (p.2:Int),p.1]):=rfl
def KW:HP [.lst ds]=aa (ds.zipIdx.map λp=>.tup [.int (p.2:Int),p.1]):=rfl
def OE:ZO [.tup ds]=aa ds.reverse:=rfl
def OG:ZO [.lst ds]=aa ds.reverse:=rfl
def z5(h:t ρ=aa ds)(a:ds.length<=16777216):bN t ρ=aa (.tup ds):=by unfold bN;rw[h];show Z_ a
def iU(a:ds.length=np)(h:b (eG n ds)=.rt d):cM n np b ds=.ok d:=by unfold cM;rw[Z_ a,h]
def cL(a:bK)(d:f ρ=.nx a)(h2:g a=o):aJ f g ρ=o:=by unfold aJ;rw[d];show h2
def l8(a:f ρ=.rt d):aJ f g ρ=.rt d:=by unfold aJ;rw[a]
def d6(h:f (bB ρ)=aa d):bY f ρ=.rt d:=by unfold bY;rw[h]
def dY(d:D)(h:f (gO ρ)=aa d)(a:ρ.set i (.ro d)=ρ'):bA i f ρ=.nx ρ':=by unfold bA;rw[h,<- a]
def sN(h:t (bB ρ)=aa ae)(h2:a ρ=o):dS t a b ρ=o:=by unfold dS;rw[h];show h2
def rE(h:t (bB ρ)=aa ag)(h2:b ρ=o):dS t a b ρ=o:=by unfold dS;rw[h];show h2
def z6(ds:List D)(h:it (gO ρ)=aa ds)(h2:gD g b ds ρ=o):dM it g b ρ=o:=by unfold dM;rw[h];show h2
def i7(ds:List D)(h:it ρ=aa ds)(a:ds.length<=16777216)(h2:jK g t e (benv nl fr ρ) ds=aa ys):cB nl fr it g t e ρ=aa (.lst ys):=by unfold cB;rw[h];show(if ds.length<=tK then _ else _)=_;rw[Z_ (show ds.length<=tK from a),h2];rfl
def d7(h:a.length+b.length<=16777216):bS (.lst a) (.lst b)=aa (.lst (a++b)):=Z_ h
def uW(h:a.length+b.length<=16777216):bS (.tup a) (.tup b)=aa (.tup (a++b)):=Z_ h
def CB(h:a.length+b.length<=16777216):B6 (.lst a) (.lst b)=aa (.lst (a++b)):=Z_ h
def oS(h:i.natAbs<18446744073709551616):mulM (.int i) (.int j)=aa (.int (i*j)):=by simp[mulM,gR,B4,h]
def FE(h:j.natAbs<18446744073709551616):mulM (.int i) (.int j)=aa (.int (i*j)):=by simp[mulM,gR,B4,h]
def CC(h:j.natAbs<4611686018427387904):E5 [.int j]=aa ((aS 0 j.toNat).map D.int):=Z_ h
def uX{n:Nat}(h:n<4611686018427387904):E5 [.int (n:Int)]=aa ((aS 0 n).map D.int):=by rw[CC ∅];rfl
theorem eB:∀ns:Q0e,intsOf (ns.map D.int)=aa ns
 |[]=>rfl
 |n::ns=>by simp[intsOf,eB ns]
def nP{neg:Bool}{i:Int}{ns:Q0e}:lC neg (.int i) (.tup (ns.map D.int))=aa (.bl (if neg then !ns.contains i else ns.contains i)):=by simp[lC,eB]
def HY{neg:Bool}{i:Int}{ns:Q0e}:lC neg (.int i) (.lst (ns.map D.int))=aa (.bl (if neg then !ns.contains i else ns.contains i)):=by simp[lC,eB]
def sorted_ints(h:ns.length<64):iN [.lst (ns.map D.int)]=aa (.lst ((sortI ns).map D.int)):=by simp[iN,eB,h]
def sum_ints{ns:Q0e}:B5 [.lst (ns.map D.int)]=aa (.int ns.sum):=by simp[B5,eB]
theorem x8:∀bs:List Bool,rA (bs.map D.bl)=aa bs
 |[]=>rfl
 |b::bs=>by simp[rA,mD,x8 bs]
def z7{bs:List Bool}:allM [.lst (bs.map D.bl)]=aa (.bl (bs.all id)):=by simp[allM,x8]
def rF{n:Nat}{i:Int}(d:0<=i)(a:i<n):E3 n i=aa i.toNat:=by unfold E3;rw[Z_ d,Z_ a]
def T7(h:k<n):E3 n (k:Int)=aa k:=by rw[rF ∅ ∅];rfl
def T8{a:Type}{xs:List a}{k:Nat}(h:k<xs.length):qY xs (k:Int)=xs[k]?:=by unfold qY;rw[T7 h];rfl
def rG{d:Type}{xs:List d}{i:Int}(j:0<=i)(h:i<xs.length):∃x∈xs,qY xs i=aa x/\xs[i.toNat]?=aa x:=by
 have a:i.toNat<xs.length:=by lia
 show⟨xs[i.toNat],jz a,?_,by simp[a]⟩;unfold qY;rw[rF j h];simp[a]
theorem lD{a d:Type}(f:a->d)(xs:List a)(i:Int):qY (xs.map f) i=(qY xs i).map f:=by
 unfold qY;rw[a_]
 cases E3 xs.length i with
 |none=>rfl
 |some j=>simp
def pV{a:Type}{xs:List a}{k:Nat}{x:a}(h:xs[k]?=aa x):qY xs (k:Int)=aa x:=by rw[T8 (cg.mp h).1,h]
def aN(lo:Int)(n:Nat):(aS lo n).length=n:=by simp[aS]
def kM(h:i<n):(aS lo n)[i]?=aa (lo+(i:Int)):=by simp[aS,h]
def iF(lo:Int)(n:Nat):aS lo (n+1)=aS lo n++[lo+(n:Int)]:=by simp[aS,List.range_succ]
def bD:x∈aS lo n↔lo<=x/\x<lo+n:=by
 unfold aS;rw[fq];simp only[uo]
 constructor
 .rintro ⟨k,a,rfl⟩;lia
 .rintro ⟨d,h2⟩;show⟨(x-lo).toNat,by lia,by lia⟩
theorem CD(P:Nat->bK->Prop)(ds:List D)(F:P 0 ρ)(step:∀(i:Nat) (d:D) (ρ:bK),ds[i]?=aa d->P i ρ ->∃m j,g d ρ=aa m/\b m=.nx j/\P (i+1) j):
  ∃a,gD g b ds ρ=.nx a/\P ds.length a:=by
 suffices H:∀(l:List D) (k:Nat) (ρ:bK),ds.drop k=l->k<=ds.length->P k ρ ->∃a,gD g b l ρ=.nx a/\P ds.length a from H ds 0 ρ (by simp) (jx _) F
 intro l
 induction l with
 |nil =>
  intro k ρ n z q;have:ds.length<=k:=by simpa using n
  show⟨ρ,rfl,by rwa [show ds.length=k by lia]⟩
 |cons d l ih =>
  intro k ρ n z q;have o:k<ds.length:=by apply rj;intro h;rw[a2r ∅] at n;cases n
  have A:ds[k]?=aa d:=by have:=congrArg (λx=>x[0]?) n;simpa using this
  obtain⟨m,j,I,e2,y⟩:=step k d ρ A q;have p:ds.drop (k+1)=l:=by rw[yt o] at n;show(a31 n).2
  obtain⟨a,e3,v⟩:=ih (k+1) j p o y;show⟨a,by simp only[gD,I,e2,e3],v⟩
theorem OH(P:Nat->bK->Prop)(lo:Int)(n:Nat)(o:P 0 ρ)(step:∀(i:Nat) (ρ:bK),i<n->P i ρ ->∃h a,g (.int (lo+(i:Int))) ρ=aa h/\b h=.nx a/\P (i+1) a):
  ∃j,gD g b ((aS lo n).map D.int) ρ=.nx j/\P n j:=by
 have:=CD (g:=g) (b:=b) P ((aS lo n).map D.int) o λi d ρ l m=>by
  have hi:i<n:=by have:=(cg.mp l).1;simpa[aN] using this
  rw[dg,kM hi] at l;cases l;show step i ρ hi m
 simpa[aN] using this
theorem KY{j:Type}(mk:j->D)(f:j->D)(l:List j)(h:∀a∈l,(g (mk a) ρ).bind e=aa (f a)):jK g eO e ρ (l.map mk)=aa (l.map f):=by
 induction l with
 |nil=>rfl
 |cons a l ih =>
  have d:=h a (by simp);have h2:=ih λx n=>h x (by simp[n])
  cases hg:g (mk a) ρ with
  |none=>rw[hg] at d;cases d
  |some ρ1 =>
   rw[hg] at d;have m:e ρ1=aa (f a):=d;simp only[bp,jK,hg,cz,eO,if_true,m,h2,ug]
def fL{j:Type}(mk:j->D)(f:j->D)(l:List j)(h:∀a∈l,∃d,g (mk a) ρ=aa d/\e d=aa (f a)):jK g eO e ρ (l.map mk)=aa (l.map f) :=
 KY mk f l λa m=>by obtain⟨d,n,h2⟩:=h a m;rw[n];show h2
theorem gE{j:Type}(mk:j->D)(p:j->Bool)(f:j->D)(l:List j)(h:∀a∈l,∃d,g (mk a) ρ=aa d/\t d=aa (p a)/\(p a=ae->e d=aa (f a))):
  jK g t e ρ (l.map mk)=aa ((l.filter p).map f):=by
 induction l with
 |nil=>rfl
 |cons a l m =>
  obtain⟨d,n,h2,q⟩:=h a (by simp);have m:=m λx o=>h x (by simp[o])
  cases hp:p a with
  |false=>simp[jK,n,h2,hp,m]
  |true=>simp[jK,n,h2,hp,q hp,m]
theorem OJ{n m:Type}(mk:n->D)(out:m->D)(R:n->m->Prop)(l:List n)(h:∀a∈l,∃d b,g (mk a) ρ=aa d/\e d=aa (out b)/\R a b):
  ∃bs:List m,bs.length=l.length/\(∀(i:Nat) (a:n) (b:m),l[i]?=aa a->bs[i]?=aa b->R a b)/\jK g eO e ρ (l.map mk)=aa (bs.map out):=by
 induction l with
 |nil=>show⟨[],rfl,λi a b h=>by simp at h,rfl⟩
 |cons a l ih =>
  obtain⟨d,b,A,h2,z⟩:=h a (by simp);obtain⟨bs,q,p,v⟩:=ih λx j=>h x (by simp[j]);show⟨b::bs,by simp[q],λi x y j o=>?_,by simp[jK,A,h2,v,eO]⟩
  cases i with
  |zero=>simp at j o;subst j o;show z
  |succ i=>show p i x y (by simpa using j) (by simpa using o)
def Rt(o:Out)(Q:D->Prop):Prop:=∃d,o=.rt d/\Q d
def Nx(o:Out)(Q:bK->Prop):Prop:=∃ρ,o=.nx ρ/\Q ρ
def fG(M:bK->Prop)(d:Nx (f ρ) M)(h2:∀a,M a->Rt (g a) Q):Rt (aJ f g ρ) Q:=by obtain⟨a,e,m⟩:=d;unfold aJ;rw[e];show h2 a m
def oU(M:bK->Prop)(d:Nx (f ρ) M)(h2:∀a,M a->Nx (g a) Q):Nx (aJ f g ρ) Q:=by obtain⟨a,e,m⟩:=d;unfold aJ;rw[e];show h2 a m
def bF(a:bK)(d:f ρ=.nx a)(h2:Rt (g a) Q):Rt (aJ f g ρ) Q:=by unfold aJ;rw[d];show h2
def dU(a:bK)(d:f ρ=.nx a)(h2:Nx (g a) Q):Nx (aJ f g ρ) Q:=by unfold aJ;rw[d];show h2
def HZ(a:Rt (f ρ) Q):Rt (aJ f g ρ) Q:=by obtain⟨d,e,m⟩:=a;unfold aJ;rw[e];show⟨d,rfl,m⟩
def X2(c:Bool)(h:t (bB ρ)=aa c)(d:c=ae->Rt (a ρ) Q)(h2:c=ag->Rt (b ρ) Q):Rt (dS t a b ρ) Q:=by unfold dS;rw[h];cases c;show h2 rfl;show d rfl
def cR(c:Bool)(h:t (bB ρ)=aa c)(d:c=ae->Nx (a ρ) Q)(h2:c=ag->Nx (b ρ) Q):Nx (dS t a b ρ) Q:=by unfold dS;rw[h];cases c;show h2 rfl;show d rfl
def gS(d:D)(h:f (bB ρ)=aa d)(q:Q d):Rt (bY f ρ) Q:=⟨d,d6 h,q⟩
def eT(d:D)(h:f (gO ρ)=aa d)(q:Q (ρ.set i (.ro d))):Nx (bA i f ρ) Q:=⟨_,dY d h rfl,q⟩
def fH(q:Q ρ):Nx (cH ρ) Q:=⟨ρ,rfl,q⟩
theorem uY(ds:List D)(P:Nat->bK->Prop)(h:it (gO ρ)=aa ds)(q:P 0 ρ)(step:∀(i:Nat) (d:D) (ρ:bK),ds[i]?=aa d->P i ρ ->∃j,g d ρ=aa j/\Nx (b j) (P (i+1)))
  (fin:∀a,P ds.length a->Q a):Nx (dM it g b ρ) Q:=by
 obtain⟨a,e,p⟩:=CD (g:=g) (b:=b) P ds q λi d ρ o n=>by obtain⟨j,v,l,e2,m⟩:=step i d ρ o n;show⟨j,l,v,e2,m⟩
 show⟨a,z6 ds h e,fin a p⟩
theorem lE{t:AF}{g:TX}{b:SF}{ρ:bK}{Q:bK->Prop}(n:Nat)(P:Nat->bK->Prop)(h:t (gO ρ)=aa [.int (n:Int)])(o:n<4611686018427387904)(v:P 0 ρ)(step:∀(i:Nat) (ρ:bK),i<n->P i ρ ->∃a,g (.int (i:Int)) ρ=aa a/\Nx (b a) (P (i+1)))
  (fin:∀j,P n j->Q j):Nx (dM (bC t) g b ρ) Q:=by
 show uY ((aS 0 n).map D.int) P (by unfold bC;rw[h,cz,uX o]) v (λi d ρ l m=>?_) (λj p=>fin j (by simpa[aN] using p));have hi:i<n:=by have:=(cg.mp l).1;simpa[aN] using this
 rw[dg,kM hi] at l;have l:D.int (0+(i:Int))=d:=by simpa using l
 subst l;obtain⟨a,e,q⟩:=step i ρ hi m;show⟨a,by rw[ko];show e,q⟩
def i5(a:ds.length=np)(h:Rt (b (eG n ds)) Q):∃d,cM n np b ds=.ok d/\Q d:=by obtain⟨d,e,q⟩:=h;show⟨d,iU a e,q⟩
theorem x9:∀(l:Q0e) (j:Nat),(l.map D.int).eraseIdx j=(l.eraseIdx j).map D.int
 |[],j=>by simp
 |a::l,0=>by simp
 |a::l,j+1=>by simp[x9 l j]
def aL(j:a ρ=aa x)(d:b ρ=aa y)(h:g x y=z):aB g a b ρ=z:=by unfold aB;rw[j,d];show h
def binI{g:D->D->Option D}{d a:EF}{ρ:b7}{x y:Int}{z:Option D}(j:d ρ=aa (.int x))(h2:a ρ=aa (.int y))(h:g (.int x) (.int y)=z):aB g d a ρ=z:=aL j h2 h
def bP(d:a ρ=aa x)(h:g [x]=z):bH g (aA a aH) ρ=z:=by unfold bH aA aH;rw[d];show h
def ZU(j:a ρ=aa x)(d:b ρ=aa y)(h:g [x,y]=z):bH g (aA a (aA b aH)) ρ=z:=by unfold bH aA aH;rw[j,d];show h
def jL(j:a ρ=aa x)(h:f [x]=.ok d):aM f (aA a aH) ρ=aa d:=by unfold aM;(try unfold aR);unfold aA aH;rw[j];show KJ (f [x])=_;rw[h];rfl
def c6(l:a ρ=aa x)(j:b ρ=aa y)(h:f [x,y]=.ok d):aM f (aA a (aA b aH)) ρ=aa d:=by unfold aM;(try unfold aR);unfold aA aH;rw[l,j];show KJ (f [x,y])=_;rw[h];rfl
def dC(m:a ρ=aa x)(l:b ρ=aa y)(j:c ρ=aa z)(h:f [x,y,z]=.ok d):aM f (aA a (aA b (aA c aH))) ρ=aa d:=by unfold aM;(try unfold aR);unfold aA aH;rw[m,l,j];show KJ (f [x,y,z])=_;rw[h];rfl
def args1(d:a ρ=aa x):aA a aH ρ=aa [x]:=by unfold aA aH;rw[d];rfl
def args2(h:a ρ=aa x)(d:b ρ=aa y):aA a (aA b aH) ρ=aa [x,y]:=by unfold aA aH;rw[h,d];rfl
def sO{a:EF}{ρ:b7}{n:Nat}(h:a ρ=aa (.int (n:Int)))(d:n<4611686018427387904):bC (aA a aH) ρ=aa ((aS 0 n).map D.int):=by unfold bC;rw[args1 h,cz,uX d]
def X3(l:a ρ=aa (.int i))(h:b ρ=aa (.int j))(hi:i.natAbs<4611686018427387904)(d:j.natAbs<4611686018427387904):bC (aA a (aA b aH)) ρ=aa ((aS i (j-i).toNat).map D.int):=by unfold bC;rw[args2 l h,cz];show Z_ ⟨hi,d⟩
def eW(h:f ρ=aa d)(a:mD d=aa b):tV f ρ=aa b:=by unfold tV;rw[h];show a
def TH(h:t ρ=aa b)(a:(!b)=c):iR t ρ=aa c:=by unfold iR;rw[h,<- a];rfl
def oD(h:t ρ=aa b)(h2:b=ae->u ρ=aa c)(a:b=ag->c=ag):fD t u ρ=aa c:=by
 unfold fD;rw[h];cases b
 .rw [a rfl];rfl
 .exact h2 rfl
def kP(h:t ρ=aa b)(h2:b=ag->u ρ=aa c)(a:b=ae->c=ae):jS t u ρ=aa c:=by
 unfold jS;rw[h];cases b
 .exact h2 rfl
 .rw [a rfl];rfl
def T9{l:Q0e}{i:Int}{y:Int}(h:0<=i)(d:i<l.length)(h2:l.length<=16777216)(a:l[i.toNat]?=aa y):TV (l.map D.int) (.int i)=aa ((l.eraseIdx i.toNat).map D.int,.int y):=by show(if i.natAbs<9223372036854775808 then _ else _)=_;rw[Z_ ∅,a_,rF h d,cz,dg,a,x9];rfl
def iO{a:Q0e}{j:Nat}{x:Int}(h:a[j]?=aa x):qY (a.map D.int) (j:Int)=aa (.int x):=by rw[lD,pV h];rfl
def OK{d:Type}{l:List d}{i j:Nat}{x:d}(h:l[i]?=aa x)(a:i<j):(l.take j)[i]?=aa x:=by rw[Ek a];show h
theorem kQ:∀ns:Q0e,jT (ns.map D.int)=ae
 |[]=>rfl
 |n::ns=>by rw[bp,jT,kQ ns];rfl
def oV:jX (q::ks) (d::ds) k=if q=k then aa d else jX ks ds k:=by
 by_cases e:q=k
 .simp [jX,e]
 .simp [jX,e]
theorem rH:∀{j:Q0e} {a:Q0a} {i:Nat} {x:Int} {v:Q0e},j.Nodup->j[i]?=aa x->a[i]?=aa v->jX (j.map cn) (a.map aI) (cn x)=aa (aI v)
 |[],a,i,x,v,_,h,_=>by simp at h
 |w::ws,[],i,x,v,_,_,h=>by simp at h
 |w::ws,u::a,0,x,v,_,h1,h2=>by simp at h1 h2;subst h1 h2;rw[bp,bp,oV,Z_ rfl]
 |w::ws,u::a,i+1,x,v,hn,h1,h2=>by
  obtain⟨n,m⟩:=ig.mp hn;have d:ws[i]?=aa x:=by simpa using h1
  have l:(cn w:Sum Int ak)≠cn x:=λe=>n (by cases e;show ia d);rw[bp,bp,oV,Zz l];show rH m d (by simpa using h2)
theorem yA:∀{d:Q0e} {a:Q0a} {x:Int},x∉d->jX (d.map cn) (a.map aI) (cn x)=af
 |[],a,x,_=>by simp[jX]
 |w::ws,[],x,_=>by simp[jX]
 |w::ws,u::a,x,h=>by have j:(cn w:Sum Int ak)≠cn x:=λe=>h (by cases e;show cq);rw[bp,bp,oV,Zz j];show yA λz=>h (fg _ z)
theorem insI_perm(a:Int):∀l:Q0e,(insI a l).Perm (a::l)
 |[]=>.refl _
 |b::l=>by
  unfold insI;split
  .exact .refl _
  .exact ((insI_perm a l).cons b).trans (.swap a b l)
theorem sortI_perm:∀l:Q0e,(sortI l).Perm l
 |[]=>.refl _
 |a::l=>(insI_perm a (sortI l)).trans ((sortI_perm l).cons a)
theorem sP(a:Int):∀l:Q0e,l.Pairwise (· <= ·)->(insI a l).Pairwise (· <= ·)
 |[],_=>by simp[insI]
 |b::l,h=>by
  unfold insI;split
  .rename_i hab;show gw.mpr ⟨λc d=>?_,h⟩;rcases cb.mp d with e|e
   .subst e;show hab
   .exact Et hab ((gw.mp h).1 c e)
  .rename_i hab;show gw.mpr ⟨λc d=>?_,sP a l (gw.mp h).2⟩;rcases cb.mp ((insI_perm a l).mem_iff.mp d) with e|e
   .subst e;lia
   .exact (gw.mp h).1 c e
theorem jA:∀l:Q0e,(sortI l).Pairwise (· <= ·)
 |[]=>yw
 |a::l=>sP a _ (jA l)
theorem yB:∀{l m:Q0e},l.Perm m->l.Pairwise (· <= ·)->m.Pairwise (· <= ·)->l=m
 |[],m,p,_,_=>by rw[p.nil_eq]
 |a::l,[],p,_,_=>by have:=p.length_eq;simp at this
 |a::l,b::m,p,h1,h2=>by
  have e:a=b:=by
   have m1:=p.mem_iff.mp (cq (a:=a) (l:=l));have d:=p.mem_iff.mpr (cq (a:=b) (l:=m));rcases cb.mp m1 with e|e
   .exact e
   .rcases cb.mp d with e2|e2
    .exact e2.symm
    .have:=(gw.mp h2).1 a e;have:=(gw.mp h1).1 b e2;lia
  subst e;rw[yB p.cons_inv (gw.mp h1).2 (gw.mp h2).2]
def CF(p:m.Perm l)(h:m.Pairwise (· <= ·)):sortI l=m:=yB ((sortI_perm l).trans p.symm) (jA l) h
local macro_rules | `(tactic| walk_at "ev") => `(tactic| simp only[eG,aJ,dS,bY,bA,uO,i0,B9,kL,N5,sX,dM,cH,aF,eC,aB,tV,iR,fD,jS,oN,ny,Ou,nz,fP,fE,aH,aA,bH,aM,KJ,N3,eE,bC,sM,Oo,Om,g1,g2,lA,BZ,HQ,eO,benv,t7,xB,oE,asInt,aT,kK,kJ,bB,gO,Sv.all,Sv.rd,bp,qv,El,Em,List.getElem?_nil,a1J,Option.join_none,cz,Option.bind_none,ug,a1I,a14,a15,List.set_nil,cf,cy,a_,q_,um,List.replicate_succ,List.replicate_zero,Nat.reduceSub,Nat.reduceAdd,Nat.reduceEqDiff,KU,FD,oR,pU,Bt,dN,eK,pS,t8,dZ,jY,cN,z0,OB,TZ,T4,HN,pT,HX,T5,OC,uV,OD,FA,FC,KP,KQ,KR,KS,x6,KW,OE,OG,if_true,if_false,ite_true,ite_false,reduceIte,decide_true,decide_false,decide_eq_true_eq,y_,Bool.not_true,Bool.not_false,nP,HY])
def nQ(ns:Q0e)(k:Int):∃c,eJ [.gK ns,.int k]=.ok (.int c):=by
 unfold eJ;by_cases h:(ns.length:Int)=0
 .exact ⟨0,iU rfl (l8 (sN (by walk_at "ev";rw[Zx h]) rfl))⟩
 .obtain ⟨x,_,e,_⟩:=rG (xs:=ns) (i:=k%(ns.length:Int)) (gn _ ∅) (gz _ ∅);show⟨x,iU rfl (cL _ (rE (by walk_at "ev";rw[Zy h]) rfl) (d6 ?_))⟩
  walk_at "ev"
  rw[bG ∅]
  walk_at "ev"
  rw[e];rfl
def OL(c k s:Int):Int:=(c+11*k*k+17*k+s)*48271%2147483647
def Bo(c k s:Int):Int:=(OL c k s*(OL c k s/4096+5)+29*k+s)%2147483629
def OM(c k s:Int)(l:0<=k)(h:k<1000000):∃r,0<=r/\jE [.int c,.int k,.int s]=.ok (.int r):=by
 unfold jE;have d:0<=OL c k s:=gn ((c+11*k*k+17*k+s)*48271) (b:=2147483647) (by decide);have a:OL c k s<2147483647:=gz ((c+11*k*k+17*k+s)*48271) (b:=2147483647) (by decide);show⟨Bo c k s*39373%1000000007,gn _ (b:=1000000007) (by decide),iU rfl (cL _ (dY (.int (OL c k s)) ?_ rfl) (cL _ (dY (.int (Bo c k s)) ?_ rfl) (d6 ?_)))⟩
 .walk_at "ev"
  rw[oS (by decide)]
  walk_at "ev"
  rw[FE ∅,oS (i:=17) (by decide)]
  walk_at "ev"
  rw[FE (j:=48271) (by decide)]
  walk_at "ev"
  rw[bG (by decide)];rfl
 .walk_at "ev"
  rw[iT (by decide) (by decide)]
  walk_at "ev"
  rw[oS ∅,oS (i:=29) (by decide)]
  walk_at "ev"
  rw[bG (by decide)];rfl
 .walk_at "ev"
  rw[FE (j:=39373) (by decide)]
  walk_at "ev"
  rw[bG (by decide)]
def yC(xs:Q0e)(x:Int):D.lst (xs.map D.int++[.int x])=aI (xs++[x]):=by simp[aI]
def kR(c many s:Int)(F:0<=many)(A:many<1000000):∃xs:Q0e,xs.length=many.toNat/\(∀x∈xs,0<=x)/\dI [.int c,.int many,.int s]=.ok (aI xs):=by
 unfold dI;have key:∀left:Int,∃d,gD (lA 5) (dS (tV (aB jW (aF 4) (eC (.int 0))))
    (aJ (sX (kK 3 fF (aT (aB bU (aF 4) (eC (.int 64))))))
    (bA 4 (aB jJ (aF 4) (eC (.int 64)))))
    (sX (kK 3 fF (aT (aM LL.jE (aA (aF 0) (aA (aF 5) (aA (aF 2) aH))))))))
    ((aS 0 many.toNat).map D.int) [Sv.ro (.int c),Sv.ro (.int many),Sv.ro (.int s),Sv.ow (.lst []),Sv.ro (.int left),Sv.no]=.nx d /\
    ∃(xs:Q0e) (l:Int) (v:Sv),xs.length=many.toNat/\(∀x∈xs,0<=x)/\d=[Sv.ro (.int c),Sv.ro (.int many),Sv.ro (.int s),Sv.ow (aI xs),Sv.ro (.int l),v]:=by
  intro left;show OH (λi d=>∃(xs:Q0e) (l:Int) (v:Sv),xs.length=i/\(∀x∈xs,0<=x)/\d=[Sv.ro (.int c),Sv.ro (.int many),Sv.ro (.int s),Sv.ow (aI xs),Sv.ro (.int l),v]) 0 _ ⟨[],left,_,rfl,by simp,rfl⟩ ?_;rintro i _ hi ⟨xs,l,v,j,p,rfl⟩;have hlen:(xs.map D.int).length<16777216:=by rw[a_];lia
  by_cases q:0<l
  .refine ⟨_,_,rfl,sN (by walk_at "ev";rw[Zx q]) (cL [Sv.ro (.int c),Sv.ro (.int many),Sv.ro (.int s),Sv.ow (aI (xs++[l%64])),Sv.ro (.int l),Sv.ro (.int (0+(i:Int)))] ?_ (dY (.int (l/64)) ?_ rfl)),xs++[l%64],l/64,_,by simp[j],?_,rfl⟩
   .walk_at "ev"
    rw[bG (by decide)]
    walk_at "ev"
    simp only[aI,kJ]
    walk_at "ev"
    rw[nO hlen]
    walk_at "ev"
    rw[yC];rfl
   .walk_at "ev"
    rw[iT (by decide) (by decide)]
   .intro x j;rcases di.mp j with h|h
    .exact p x h
    .rw [bt.mp h];show gn _ (by decide)
  .obtain ⟨r,z,e⟩:=OM c (0+(i:Int)) s ∅ ∅;show⟨_,[Sv.ro (.int c),Sv.ro (.int many),Sv.ro (.int s),Sv.ow (aI (xs++[r])),Sv.ro (.int l),Sv.ro (.int (0+(i:Int)))],rfl,rE (by walk_at "ev";rw[Zy q]) ?_,xs++[r],l,_,by simp[j],?_,rfl⟩
   .walk_at "ev"
    rw[e];simp only[aI,kJ]
    walk_at "ev"
    rw[nO hlen]
    walk_at "ev"
    rw[yC];rfl
   .intro x j;rcases di.mp j with h|h
    .exact p x h
    .rw [bt.mp h];show z
 have o:qZ (.int 10) (.int 18)=aa (.int 1000000000000000000):=rfl;have fin:∀left:Int,(0=0) ->∃xs:Q0e,xs.length=many.toNat/\(∀x∈xs,0<=x)/\aJ (dM (bC (aA (aF 1) aH)) (lA 5) (dS (tV (aB jW (aF 4) (eC (.int 0))))
    (aJ (sX (kK 3 fF (aT (aB bU (aF 4) (eC (.int 64))))))
    (bA 4 (aB jJ (aF 4) (eC (.int 64)))))
    (sX (kK 3 fF (aT (aM LL.jE (aA (aF 0) (aA (aF 5) (aA (aF 2) aH))))))))) (bY (aF 3)) [Sv.ro (.int c),Sv.ro (.int many),Sv.ro (.int s),Sv.ow (.lst []),Sv.ro (.int left),Sv.no]=.rt (aI xs):=by
  intro left _;obtain⟨d,e,xs,l,v,n,m,rfl⟩:=key left;show⟨xs,n,m,cL _ (z6 _ ?_ e) (d6 rfl)⟩
  walk_at "ev"
  show CC ∅
 by_cases y:1000000000000000000<=c
 .obtain ⟨xs,a,b,e⟩:=fin c rfl;show⟨xs,a,b,iU rfl (cL _ rfl (cL _ rfl (cL _ (sN ?_ rfl) e)))⟩
  walk_at "ev"
  rw[o]
  walk_at "ev"
  rw[Zx y]
 .obtain ⟨xs,a,b,e⟩:=fin 0 rfl;show⟨xs,a,b,iU rfl (cL _ rfl (cL _ rfl (cL _ (rE ?_ rfl) e)))⟩
  walk_at "ev"
  rw[o]
  walk_at "ev"
  rw[Zy y]
theorem pW(dr:Q0e)(n:Nat)(o:Int)(hn:n<=9)(hl:n+Ord.tri n<=dr.length):
  ∃d,fA [aI dr,.int n,.int o]=.ok d /\∃rows:Q0a,rows.length=n/\Ord.Rows rows/\d=aE rows:=by
 unfold fA;show i5 rfl ?_;rw[show eG 11 [aI dr,.int n,.int o]=[Sv.ro (aI dr),Sv.ro (.int n),Sv.ro (.int o),Sv.no,Sv.no,Sv.no,Sv.no,Sv.no,Sv.no,Sv.no,Sv.no] from rfl];show bF [Sv.ro (aI dr),Sv.ro (.int n),Sv.ro (.int o),Sv.ow (.lst ((aS 0 n).map D.int)),Sv.no,Sv.no,Sv.no,Sv.no,Sv.no,Sv.no,Sv.no] ?_ ?_
 .walk_at "ev"
  simp only[E4]
  walk_at "ev"
  rw[Z_ ∅];rfl
 show bF [Sv.ro (aI dr),Sv.ro (.int n),Sv.ro (.int o),Sv.ow (.lst ((aS 0 n).map D.int)),Sv.ow (.lst []),Sv.no,Sv.no,Sv.no,Sv.no,Sv.no,Sv.no] rfl ?_;show fG (λρ=>∃(l:Q0e) (p z:Sv),l.Perm (aS 0 n)/\ρ=[Sv.ro (aI dr),Sv.ro (.int n),Sv.ro (.int o),z,Sv.ow (aI l),p,Sv.no,Sv.no,Sv.no,Sv.no,Sv.no]) ?_ ?_
 .refine lE n (λi ρ=>∃(q l:Q0e) (p:Sv),l.length=i/\(l++q).Perm (aS 0 n)/\ρ=[Sv.ro (aI dr),Sv.ro (.int n),Sv.ro (.int o),Sv.ow (aI q),Sv.ow (aI l),p,Sv.no,Sv.no,Sv.no,Sv.no,Sv.no])
   rfl ∅ ⟨aS 0 n,[],Sv.no,rfl,.refl _,rfl⟩ ?_ ?_
  .rintro i _ hi ⟨q,l,p,hw,O,rfl⟩;have hlr:l.length+q.length=n:=by have:=O.length_eq;rw[bq,aN] at this;show this
   obtain⟨x,I⟩:∃x,dr[i]?=aa x:=⟨_,bo ∅⟩;have hr0:(0:Int)<q.length:=by lia
   have h0:=gn x (show(q.length:Int)≠0 by lia);have h1:=gz x hr0;obtain⟨y,hy⟩:∃y,q[(x%(q.length:Int)).toNat]?=aa y:=⟨_,bo ∅⟩;show⟨_,rfl,[Sv.ro (aI dr),Sv.ro (.int n),Sv.ro (.int o),Sv.ow (aI (q.eraseIdx (x%(q.length:Int)).toNat)),Sv.ow (aI (l++[y])),Sv.ro (.int i),Sv.no,Sv.no,Sv.no,Sv.no,Sv.no],?_,q.eraseIdx (x%(q.length:Int)).toNat,l++[y],Sv.ro (.int i),by simp[hw],?_,rfl⟩
   .have X:=T9 h0 h1 ∅ hy;simp only[aI]
    walk_at "ev"
    simp only[fB]
    walk_at "ev"
    rw[iO I]
    walk_at "ev"
    rw[bG hr0]
    walk_at "ev"
    simp only[D.qW,ite_true,cz]
    walk_at "ev"
    rw[X]
    walk_at "ev"
    rw[nO (by rw[a_];lia)]
    walk_at "ev"
    rw[cc];rfl
   .rw [lr];show((Ord.uT q _ y hy).append_left l).trans O
  .rintro _ ⟨q,l,p,hw,O,rfl⟩;have hlr:l.length+q.length=n:=by have:=O.length_eq;rw[bq,aN] at this;show this
   have e:q=[]:=my.mp ∅;subst e;rw[jk] at O;show⟨l,p,_,O,rfl⟩
 rintro _ ⟨l,p,z,O,rfl⟩;have J:l.Perm ((gk n).map λk:Nat=>(k:Int)):=by
  have e:aS 0 n=(gk n).map λk:Nat=>(k:Int):=jf λk _=>by show 0+(k:Int)=k;lia
  rw[<- e];show O
 have hlw:l.length=n:=by rw[J.length_eq,a_,yl]
 have F:l.Nodup:=J.nodup_iff.mpr (yx _ (λa b hab e=>hab ∅) a18);have ZV:∀{m:Q0a} (t:Nat) (u:Q0e),Ord.Under l m t u->u.length<=n:=λ{m} t u h=>by rw[<- hlw];show Ord.eA u l h.1 λa ha=>by obtain⟨s,_,_,h2,_⟩:=h.2 a ha;show ia h2
 show bF [Sv.ro (aI dr),Sv.ro (.int n),Sv.ro (.int o),z,Sv.ow (aI l),p,Sv.ow (.jD [] []),Sv.no,Sv.no,Sv.no,Sv.no] rfl ?_;show bF [Sv.ro (aI dr),Sv.ro (.int n),Sv.ro (.int o),z,Sv.ow (aI l),p,Sv.ow (.jD [] []),Sv.ro (.int n),Sv.no,Sv.no,Sv.no] rfl ?_;show fG (λρ=>∃(m:Q0a) (v7 L K v10:Sv),m.length=n/\Ord.Good l m/\ρ=[Sv.ro (aI dr),Sv.ro (.int n),Sv.ro (.int o),z,Sv.ow (aI l),p,Sv.ow (.jD (l.map cn) (m.map aI)),v7,L,K,v10]) ?_ ?_
 .refine lE n (λj ρ=>∃(m:Q0a) (L K v10:Sv),m.length=j/\Ord.Good l m/\ρ=[Sv.ro (aI dr),Sv.ro (.int n),Sv.ro (.int o),z,Sv.ow (aI l),p,Sv.ow (.jD ((l.take j).map cn) (m.map aI)),Sv.ro (.int ((n+Ord.tri j:Nat):Int)),L,K,v10])
   rfl ∅ ⟨[],Sv.no,Sv.no,Sv.no,rfl,(λt u e=>by simp at e),rfl⟩ ?_ ?_
  .rintro j _ hj ⟨m,L,K,v10,A,U,rfl⟩;show⟨_,rfl,?_⟩;show dU [Sv.ro (aI dr),Sv.ro (.int n),Sv.ro (.int o),z,Sv.ow (aI l),p,Sv.ow (.jD ((l.take j).map cn) (m.map aI)),Sv.ro (.int ((n+Ord.tri j:Nat):Int)),Sv.ro (.int j),Sv.ro (.lst []),v10] rfl ?_;show oU (λρ=>∃(u:Q0e) (v10:Sv),Ord.Under l m j u/\ρ=[Sv.ro (aI dr),Sv.ro (.int n),Sv.ro (.int o),z,Sv.ow (aI l),p,Sv.ow (.jD ((l.take j).map cn) (m.map aI)),Sv.ro (.int ((n+Ord.tri (j+1):Nat):Int)),Sv.ro (.int j),Sv.ro (aI u),v10]) ?_ ?_
   .refine lE j (λi ρ=>∃(u:Q0e) (v10:Sv),Ord.Under l m i u/\ρ=[Sv.ro (aI dr),Sv.ro (.int n),Sv.ro (.int o),z,Sv.ow (aI l),p,Sv.ow (.jD ((l.take j).map cn) (m.map aI)),Sv.ro (.int ((n+Ord.tri j+i:Nat):Int)),Sv.ro (.int j),Sv.ro (aI u),v10])
     rfl ∅ ⟨[],_,⟨mw,λa ha=>(nomatch ha)⟩,rfl⟩ ?_ ?_
    .rintro i _ hi ⟨u,v10,hU,rfl⟩;have tl:=Ord.ZT hj hi;obtain⟨y,hy⟩:∃y,dr[n+Ord.tri j+i]?=aa y:=⟨_,bo ∅⟩;obtain⟨x,I⟩:∃x,l[i]?=aa x:=⟨_,bo ∅⟩;obtain⟨v,hv⟩:∃v,m[i]?=aa v:=⟨_,bo ∅⟩;have lv:=ZV _ _ (U i v hv);have lu:=ZV _ _ hU;show⟨_,rfl,?_⟩;show oU (λρ=>∃u':Q0e,Ord.Under l m (i+1) u'/\ρ=[Sv.ro (aI dr),Sv.ro (.int n),Sv.ro (.int o),z,Sv.ow (aI l),p,Sv.ow (.jD ((l.take j).map cn) (m.map aI)),Sv.ro (.int ((n+Ord.tri j+i:Nat):Int)),Sv.ro (.int j),Sv.ro (aI u'),Sv.ro (.int i)]) ?_ ?_
     .refine cR (Zv (y%4<o)) ?_ (λ_=>?_) (λ_=>fH ⟨u,hU.mono ∅,rfl⟩)
      .simp only[aI]
       walk_at "ev"
       rw[iO hy]
       walk_at "ev"
       rw[bG (by decide)]
       walk_at "ev"
      .refine ⟨_,?_,_,hU.step F U I hv,rfl⟩;have hf:=qx (λa=>!u.contains a) (v++[x]);have X:jK (g1 0) (tV (aB (lC ae) cZ cD)) cZ [af,aa (.lst (u.map D.int))] ((v++[x]).map D.int)=aa (((v++[x]).filter λa=>!u.contains a).map D.int) :=
        gE D.int _ D.int (v++[x]) λa _=>⟨_,rfl,by walk_at "ev",λ_=>rfl⟩
       have e2:aB bS (aB tM gC (aB aO fR l7)) (dB (aA (aB aO fR l7) aH)) [aa (aI dr),aa (.int n),aa (.int o),z.all,aa (aI l),p.all,aa (.jD ((l.take j).map cn) (m.map aI)),aa (.int ((n+Ord.tri j+i:Nat):Int)),aa (.int j),aa (aI u),aa (.int i)]=aa (.lst ((v++[x]).map D.int)):=by
        simp only[aI]
        walk_at "ev"
        rw[iO I]
        walk_at "ev"
        simp only[tM,uL,cz];have:=rH (a35 (Ef j l) F) (OK I hi) hv;simp only[aI] at this;rw[this];simp only[dB]
        walk_at "ev"
        rw[iO I]
        walk_at "ev"
        rw[Z_ (by decide),cz,d7 (by simp;lia)];simp
       have e3:cB 1 [9] (eE (aB bS (aB tM gC (aB aO fR l7)) (dB (aA (aB aO fR l7) aH)))) (g1 0) (tV (aB (lC ae) cZ cD)) cZ [aa (aI dr),aa (.int n),aa (.int o),z.all,aa (aI l),p.all,aa (.jD ((l.take j).map cn) (m.map aI)),aa (.int ((n+Ord.tri j+i:Nat):Int)),aa (.int j),aa (aI u),aa (.int i)]=aa (.lst (((v++[x]).filter λa=>!u.contains a).map D.int)) :=
        i7 ((v++[x]).map D.int) (by unfold eE;rw[e2];rfl) (by simp;lia) X
       unfold kL;have e4:aB B6 BY (cB 1 [9] (eE (aB bS (aB tM gC (aB aO fR l7)) (dB (aA (aB aO fR l7) aH)))) (g1 0) (tV (aB (lC ae) cZ cD)) cZ) [aa (aI dr),aa (.int n),aa (.int o),z.all,aa (aI l),p.all,aa (.jD ((l.take j).map cn) (m.map aI)),aa (.int ((n+Ord.tri j+i:Nat):Int)),aa (.int j),aa (aI u),aa (.int i)]=aa (aI (u++(v++[x]).filter λa=>!u.contains a)):=by show aL (x:=aI u) rfl e3 ?_;show B6 (.lst (u.map D.int)) _=_;rw[CB (by simp only[a_,bq,cf,cy] at hf ⊢;lia),<- cc];rfl
       rw[show bB _=[aa (aI dr),aa (.int n),aa (.int o),z.all,aa (aI l),p.all,aa (.jD ((l.take j).map cn) (m.map aI)),aa (.int ((n+Ord.tri j+i:Nat):Int)),aa (.int j),aa (aI u),aa (.int i)] from rfl,e4];show(if mF (aI _)=ae then _ else _)=_;rw[Z_ (show mF (aI _)=ae from kQ _)];rfl
     rintro _ ⟨u',hU',rfl⟩;show⟨_,rfl,u',_,hU',rfl⟩
    .rintro _ ⟨u,v10,hU,rfl⟩;show⟨u,v10,hU,by rw[a12];rfl⟩
   rintro _ ⟨u,v10,hU,rfl⟩;obtain⟨x,I⟩:∃x,l[j]?=aa x:=⟨_,bo ∅⟩;show⟨[Sv.ro (aI dr),Sv.ro (.int n),Sv.ro (.int o),z,Sv.ow (aI l),p,Sv.ow (.jD ((l.take (j+1)).map cn) ((m++[u]).map aI)),Sv.ro (.int ((n+Ord.tri (j+1):Nat):Int)),Sv.ro (.int j),Sv.ro (aI u),v10],?_,m++[u],Sv.ro (.int j),Sv.ro (aI u),v10,by simp[A],U.snoc (by rw[A];show hU),rfl⟩;have hno:jX ((l.take j).map cn) (m.map aI) (cn x)=af:=yA λhm=>by
    obtain⟨t,Z⟩:=km.mp hm;have htl:t<j:=by have:=(cg.mp Z).1;rw[jo] at this;lia
    rw[Ek htl] at Z;have:=Ord.uU F Z I;lia
   unfold HR
   walk_at "ev"
   simp only[uP,cz];have e5:aO (aI l) (.int (j:Int))=aa (.int x):=iO I;rw[e5];simp only[cz,uL,hno,Option.isNone_none,true_and];rw[Z_ (by rw[a_];show m.length<16777216;lia),Ee,I,cc,cc];rfl
  .rintro _ ⟨m,L,K,v10,A,U,rfl⟩;show⟨m,Sv.ro (.int ((n+Ord.tri n:Nat):Int)),L,K,v10,A,U,?_⟩;rw[oy ∅]
 rintro _ ⟨m,v7,L,K,v10,A,U,rfl⟩;have ec:∃rows:Q0a,rows.length=(gk n).length/\(∀(i:Nat) (b:Nat) (r:Q0e),(gk n)[i]?=aa b->rows[i]?=aa r ->∀(t:Nat) (u:Q0e),l[t]?=aa (b:Int)->m[t]?=aa u->r.Perm u/\r.Pairwise (· <= ·)) /\
   jK (g1 0) eO (bH eP (aA (bH iN (aA (aB tM cD cZ) aH)) aH)) [af,aa (.jD (l.map cn) (m.map aI))] ((gk n).map λb:Nat=>D.int (b:Int))=aa (rows.map τ):=by
  show OJ (λb:Nat=>D.int (b:Int)) τ _ (gk n) λb hb=>?_;have hb2:=uo.mp hb;have hm:(b:Int)∈l:=J.mem_iff.mpr (fq.mpr ⟨b,hb,rfl⟩);obtain⟨t,Z⟩:=km.mp hm;obtain⟨u,Y⟩:∃u,m[t]?=aa u:=⟨_,bo (by have:=(cg.mp Z).1;lia)⟩;have lu:=ZV _ _ (U t u Y);show⟨_,sortI u,rfl,?_,λt' u' X e2=>?_⟩
  .walk_at "ev"
   simp only[tM,uL,cz];rw[rH F Z Y];simp only[aI]
   walk_at "ev"
   rw[sorted_ints ∅];rfl
  .have e:=Ord.uU F X Z;subst e;rw[Y] at e2;cases e2;show⟨sortI_perm u,jA u⟩
 obtain⟨rows,hr1,hr2,ec⟩:=ec;rw[yl] at hr1;show gS (aE rows) ?_ ⟨rows,hr1,U.rows A J hr1 λb t r u X e2 e3=>hr2 b b r (by rw[a2i (by have:=(cg.mp X).1;lia)]) X t u e2 e3,rfl⟩;have e6:(aS 0 n).map D.int=(gk n).map λb:Nat=>D.int (b:Int):=by unfold aS;rw[gd];show jf λb _=>by show D.int (0+(b:Int))=_;rw[ko]
 have e7:=i7 (nl:=1) (fr:=[6]) (it:=bC (aR 1)) (g:=g1 0) (t:=eO) (e:=bH eP (aA (bH iN (aA (aB tM cD cZ) aH)) aH)) (ρ:=bB [Sv.ro (aI dr),Sv.ro (.int n),Sv.ro (.int o),z,Sv.ow (aI l),p,Sv.ow (.jD (l.map cn) (m.map aI)),v7,L,K,v10]) ((aS 0 n).map D.int)
  (by walk_at "ev";show uX ∅) (by rw[a_,aN];lia) (by rw[e6];show ec)
 show bP e7 rfl
theorem IA(n:Nat):2*Ord.tri n+n=n*n:=by
 induction n with
 |zero=>rfl
 |succ n ih =>
  show 2*(Ord.tri n+n)+(n+1)=(n+1)*(n+1);have:(n+1)*(n+1)=n*n+2*n+1:=by rw[Ed,Nat.mul_add];lia
  lia
def eD:jV:=cM 2 2
  (bY (fE KI tL (eI 0) cZ cD))
def jZ:jV:=cM 4 2
  (aJ (dM (sM (aR 0)) (BZ 2 3)
   (aJ (dS (iR (tV (aM LL.eD (aA d9 (aR 1)))))
    (bY (eC (.bl ag)))
    cH)
   (dS (fD (tV (aB jW dJ (eI 0))) (tV (aB xF (aB aO cZ (aB fJ dJ (eI 1))) d9)))
    (bY (eC (.bl ag)))
    cH)))
  (bY (eC (.bl ae))))
def d8:jV:=cM 3 3
  (bY (oN (aB TR cD dJ) (oN (aB (lC ae) cD (aB aO cZ dJ)) (aB (lC ae) dJ (aB aO cZ cD)))))
def fS:jV:=cM 3 1
  (aJ (i0 1 (dB aH))
  (aJ (dM (bC (aA (bH aP (aR 0)) aH)) (lA 2)
   (sX (kK 1 N4 (aT (cB 1 [2,0] (bC (aA (aB bS dJ (eI 1)) (aA (bH aP (aR 0)) aH))) (g1 0) (tV (aM LL.d8 (aA dJ (aA cD (aR 0))))) (bN (aA cD (aR 0))))))))
  (bY (bH eP (aR 1)))))
def gU:jV:=cM 7 3
  (aJ (bA 3 (aB bS (bH sL (aA (aB aO (aF 0) (aF 1)) aH)) (dB (aA (aF 1) aH))))
  (aJ (i0 4 (dB aH))
  (aJ (dM (bC (aA (bH aP (aA (aF 0) aH)) aH)) (lA 5)
   (aJ (bA 6 (bH sL (aA (aB aO (aF 0) (aF 5)) aH)))
   (aJ (dS (jS (tV (aB fK (aF 5) (aF 2))) (tV (aB (lC ag) (aF 2) (aB aO (aF 0) (aF 5)))))
    (bA 6 (aB bS (aF 6) (cB 1 [6] (eE (aF 3)) (g1 0) (tV (aB (lC ae) (aF 0) (aF 1))) (aF 0))))
    cH)
   (sX (kK 4 fF (aT (bH eP (aA (bH iN (aA (aF 6) aH)) aH))))))))
  (bY (bH eP (aA (aF 4) aH))))))
def isi(h:f ρ=aa d)(a:ZN d=ae<|>0):N3 T f ρ=aa (.bl (ZM T d)):=by unfold N3;rw[h];show Z_ a
theorem nR{m:Type}(P:bK->Prop)(mk:m->D)(ok:m->Bool):∀(l:List m) (ρ:bK),P ρ->(∀a∈l,∀ρ,P ρ ->∃d,g (mk a) ρ=aa d/\(ok a=ae->Nx (b d) P)/\(ok a=ag->b d=.rt z)) ->
  (l.all ok=ae->Nx (gD g b (l.map mk) ρ) P)/\(l.all ok=ag->gD g b (l.map mk) ρ=.rt z)
 |[],ρ,h,_=>⟨λ_=>⟨ρ,rfl,h⟩,λe=>by cases e⟩
 |a::l,ρ,h,step=>by
  obtain⟨d,o,v,h2⟩:=step a (by simp) ρ h
  cases hd:ok a with
  |true =>
   obtain⟨j,e2,p⟩:=v hd;have q:=nR P mk ok l j p λd' n=>step d' (by simp[n]);simp only[bp,gD,o,e2,lz,hd,de];show q
  |false =>
   have e2:=h2 hd;simp only[bp,gD,o,e2,lz,hd,uw];show⟨λe=>(by cases e),λ_=>trivial⟩
def row(rows:Q0a)(b:Int):List Int:=(rows[b.toNat]?).getD []
def gW(h:0<=i)(d:i<rows.length):aO (aE rows) (.int i)=aa (τ (row rows i)):=by
 have a:i.toNat<rows.length:=by lia
 rw[show aE rows=.tup (rows.map τ) from rfl,HX,lD];unfold qY row;rw[rF h d];simp[a]
def FF:lC ag (.int i) (τ xs)=aa (.bl (xs.contains i)):=by unfold τ;rw[nP];rfl
def t9:lC ae (.int i) (τ xs)=aa (.bl (!xs.contains i)):=by unfold τ;rw[nP];rfl
def bZ:aP [aE rows]=aa (.int rows.length):=by unfold aE;rw[uV,a_]
def kT:aP [τ xs]=aa (.int xs.length):=by unfold τ;rw[uV,a_]
theorem zipIdx_map{d h:Type}(f:d->h)(l:List d)(m:Nat):(l.map f).zipIdx m=(l.zipIdx m).map λp=>(f p.1,p.2):=by
 induction l generalizing m with
 |nil=>rfl
 |cons a l ih=>simp[List.zipIdx_cons,ih]
def iV(a n:Int):eD [.int a,.int n]=.ok (.bl (Zv (0<=a)&&Zv (a<n))):=by
 unfold eD;show iU rfl (d6 ?_);show fE KI tL (eC (.int 0)) (aF 0) (aF 1) [aa (.int a),aa (.int n)]=_;unfold fE;simp only[eC,aF,El,Em,a1J,cz,t8,pS,pU];by_cases h:0<=a
 .simp [h]
 .simp [h]
def eL(rows:Q0a)(a b:Int):Bool:=!Zv (a=b)&&(!(row rows b).contains a && !(row rows a).contains b)
def lF(h:0<=a/\a<(rows.length:Int))(d:0<=b/\b<(rows.length:Int)):d8 [aE rows,.int a,.int b]=.ok (.bl (eL rows a b)):=by unfold d8;show iU rfl (d6 ?_);show oN (aB TR cD dJ) _ _=_;unfold oN;rw[binI (x:=a) (y:=b) rfl rfl z0,aL (x:=.int a) (y:=τ (row rows b)) rfl (aL rfl rfl (gW d.1 d.2)) t9,aL (x:=.int b) (y:=τ (row rows a)) rfl (aL rfl rfl (gW h.1 h.2)) t9];simp only[cz,pU,eL];cases Zv (a=b)<;>cases (row rows b).contains a<;>rfl
def pairD(p:Int×Int):D:=.tup [.int p.1,.int p.2]
def cP(rows:Q0a)(a:Int):List (Int×Int):=((aS (a+1) (rows.length-(a+1)).toNat).filter λb=>eL rows a b).map λb=>(a,b)
def loose(rows:Q0a):List (Int×Int):=(aS 0 rows.length).flatMap (cP rows)
def mI(rows:Q0a)(d:0<=a):(cP rows a).length<=rows.length:=by unfold cP;rw[a_];show gi (qx _ _) ?_;rw[aN];lia
def uZ(l:rows.length<=1000):fS [aE rows]=.ok (.tup ((loose rows).map pairD)):=by
 unfold fS;have hlen:∀k,k<=rows.length->((aS 0 k).flatMap (cP rows)).length<=k*rows.length:=by
  intro k
  induction k with
  |zero=>intro _;simp[aS]
  |succ k ih =>
   intro n;rw[iF,yq,bq];have:=ih ∅;have h2:=mI rows (a:=0+(k:Int)) ∅;simp only[yp,a2k,jk];rw[Ed];lia
 obtain⟨j,e,d,rfl⟩:Nx (dM (bC (aA (bH aP (aR 0)) aH)) (lA 2)
   (sX (kK 1 N4 (aT (cB 1 [2,0] (bC (aA (aB bS dJ (eI 1)) (aA (bH aP (aR 0)) aH))) (g1 0) (tV (aM LL.d8 (aA dJ (aA cD (aR 0))))) (bN (aA cD (aR 0)))))))
   [Sv.ro (aE rows),Sv.ow (.lst []),Sv.no]) (λρ=>∃d,ρ=[Sv.ro (aE rows),Sv.ow (.lst ((loose rows).map pairD)),d]):=by
  show lE rows.length (λi ρ=>∃d,ρ=[Sv.ro (aE rows),Sv.ow (.lst (((aS 0 i).flatMap (cP rows)).map pairD)),d]) ?_ ∅ ⟨_,rfl⟩ ?_ ?_
  .exact args1 (bP rfl bZ)
  .rintro i _ hi ⟨d,rfl⟩;show⟨_,rfl,[Sv.ro (aE rows),Sv.ow (.lst (((aS 0 (i+1)).flatMap (cP rows)).map pairD)),Sv.ro (.int i)],?_,_,rfl⟩;have m:=i7 (nl:=1) (fr:=[2,0]) (it:=bC (aA (aB bS dJ (eI 1)) (aA (bH aP (aR 0)) aH))) (g:=g1 0) (t:=tV (aM LL.d8 (aA dJ (aA cD (aR 0))))) (e:=bN (aA cD (aR 0)))
    (ρ:=[aa (aE rows),af,aa (.int (i:Int))]) ((aS ((i:Int)+1) (rows.length-((i:Int)+1)).toNat).map D.int) (ys:=(cP rows (i:Int)).map pairD)
    (X3 (binI (x:=i) (y:=1) rfl rfl dN) (bP rfl bZ) ∅ ∅)
    (by rw[a_,aN];lia)
    (by
     unfold cP;rw[gd];show gE D.int (λb=>eL rows (i:Int) b) _ _ λb h=>⟨_,rfl,?_,λ_=>rfl⟩;have h:=bD.mp h;show(aM _ _ _).bind mD=_;rw[dC (x:=aE rows) (y:=.int i) (z:=.int b) rfl rfl rfl (lF ⟨by lia,by lia⟩ ⟨by lia,by lia⟩)];rfl)
   have ex:aT (cB 1 [2,0] (bC (aA (aB bS dJ (eI 1)) (aA (bH aP (aR 0)) aH))) (g1 0) (tV (aM LL.d8 (aA dJ (aA cD (aR 0))))) (bN (aA cD (aR 0)))) [Sv.ro (aE rows),Sv.ow (.lst (((aS 0 i).flatMap (cP rows)).map pairD)),Sv.ro (.int i)]=aa ([Sv.ro (aE rows),Sv.ow (.lst (((aS 0 i).flatMap (cP rows)).map pairD)),Sv.ro (.int i)],.lst ((cP rows (i:Int)).map pairD)):=by unfold aT;rw[show gO _=[aa (aE rows),af,aa (.int (i:Int))] from rfl,m];rfl
   unfold sX kK;show(match ((kJ (aa (Sv.ow (.lst _)))).bind _:Option (bK×D)) with|some p=>_|none=>_)=_;simp only[kJ,cz];rw[show[Sv.ro (aE rows),Sv.ow (.lst (((aS 0 i).flatMap (cP rows)).map pairD)),d].set 2 (Sv.ro (.int (i:Int)))=[Sv.ro (aE rows),Sv.ow (.lst (((aS 0 i).flatMap (cP rows)).map pairD)),Sv.ro (.int i)] from rfl,ex];simp only[cz,Em,El,kJ];rw[T6 (by
    have q:=hlen i ∅;have h2:=mI rows (a:=(i:Int)) ∅;have o:i*rows.length<=1000*1000:=ye ∅ l;rw[a_,a_];lia)]
   simp only[ug,a15,a14];rw[iF,yq,cc];simp
  .rintro _ ⟨d,rfl⟩;show⟨d,rfl⟩
 show iU rfl (cL _ rfl (cL _ e (d6 rfl)))
end LL
namespace Ord
def rel(rows:Q0a)(a b:Nat):Bool:=(rows.getD b []).contains (a:Int)
def IB(h:x[b]?=aa r):rel x a b=ae↔(a:Int)∈r:=by unfold rel;rw[ur,h];simp
def ON(h:Rows y)(d:y[b]?=aa v):z∈v ↔ ∃a:Nat,z=(a:Int)/\a<y.length/\rel y a b=ae:=by
 constructor
 .intro j;obtain⟨q1,q2⟩:=h.rng _ _ d _ j;show⟨z.toNat,by lia,by lia,?_⟩;rw[IB d,show((z.toNat:Nat):Int)=z by lia];show j
 .rintro ⟨a,rfl,l,h2⟩
  rwa [IB d] at h2
def Rows.short(h:Rows x)(j:r∈x):r.length<=x.length:=by
 obtain⟨b,d⟩:=km.mp j;have nd:r.Nodup:=(h.up b r d).imp λq=>by lia
 have:=eA r (L4.aS 0 x.length) nd λa l=>LL.bD.mpr (by have:=h.rng b r d a l;lia)
 rwa [LL.aN] at this
end Ord
namespace ZW
open L3 L4 LL
def pr(p:Int×Int):List Int:=[p.1,p.2]
def Vl(x:Q0a)(k:Nat):List (Int×Int):=(aS 0 k).flatMap λb=>(row x b).map λa=>(a,b)
def jB{x:Q0a}{b:Int}(d:0<=b)(a:b<(x.length:Int)):x[b.toNat]?=aa (row x b):=by
 have:b.toNat<x.length:=by lia
 unfold row;rw[bo this];rfl
def un(t:Q0e):Int×Int:=(t.getD 0 0,t.getD 1 0)
def srt(l:List (Int×Int)):List (Int×Int):=(X0 (l.map pr)).map un
end ZW
namespace K03
open L3 L4 LL ZW
theorem Oj(l:kJ ρ[i]?=aa ds0)(a:x ρ=aa (ρ1,d))(j:kJ ρ1[i]?=aa ds)(h:m ds d=aa q):
  kK i m x ρ=aa (ρ1.set i (.ow (.lst q.1)),q.2):=by
 unfold kK;rw[l,cz,a,cz,j,cz,h];rfl
section
variable{x:Q0a}(hx:Ord.Rows x)
include hx
def CG(j:0<=c)(d:c<(x.length:Int))(h:a∈row x c):0<=a/\a<(x.length:Int):=hx.rng _ _ (jB j d) a h
def UA(j:0<=c)(h:c<(x.length:Int))(d:b∈row x c)(l:a∈row x b):a∈row x c:=by obtain⟨n,m⟩:=CG hx j h d;show hx.tr c.toNat b.toNat _ _ (jB j h) (by rw[show((b.toNat:Nat):Int)=b by lia];show d) (jB n m) a l
def Vk(d:0<=c)(a:c<(x.length:Int)):c∉row x c:=λh=>hx.irr c.toNat _ (jB d a) (by rw[show((c.toNat:Nat):Int)=c by lia];show h)
end
def ZX(x:Q0a)(p:Int×Int):Bool:=!(row x p.2).any λc=>(row x c).contains p.1
structure Cl (x:Q0a) (P:List (Int×Int)) (b:Int) (u f:Q0e):Prop where
 nd:u.Nodup
 sub:∀a∈u,a∈row x b
 fr:∀a∈f,a=b\/a∈u
 cl:∀c,(c=b\/c∈u)->c∉f ->∀a,(a,c)∈P->a∈u
abbrev T(x:Q0a):List (Int×Int):=srt (Vl x x.length)
abbrev B(x:Q0a):List (Int×Int):=(T x).filter (ZX x)
end K03
namespace LL
open L3 L4
def runN(a:ds.length=np)(h:b (eG n ds)=.nx ρ):cM n np b ds=.ok .non:=by unfold cM;rw[Z_ a,h]
def Pb(h:r (bB ρ)=af)(h2:f ρ=o):uR r f ρ=o:=by unfold uR;rw[h];show h2
def Pa(d:a ρ=aa x):bN (aA a aH) ρ=aa (.tup [x]):=z5 (args1 d) (by simp)
def rJ(h:a ρ=aa x)(d:b ρ=aa y):bN (aA a (aA b aH)) ρ=aa (.tup [x,y]):=z5 (args2 h d) (by simp)
def η(fl:Q0e)(a:Int):Int:=(fl[a.toNat]?).getD 0
def AA(h:0<=a)(d:a<(fl.length:Int)):aO (τ fl) (.int a)=aa (.int (η fl a)):=by obtain⟨x,_,e,e2⟩:=rG h d;show qY (fl.map D.int) a=_;rw[lD,e];unfold η;rw[e2];rfl
def lG(h:0<=a)(d:a<(fl.length:Int)):aO (aI fl) (.int a)=aa (.int (η fl a)):=AA h d
def bV:jV:=cM 3 3
  (dS (jS (iR (tV (aM LL.eD (aA cD (aR 0))))) (iR (tV (aM LL.eD (aA dJ (aR 0))))))
   (pR (aA (eC (.str "a number that is no thing of the order")) aH) "NoThing")
   cH)
def gF:jV:=cM 8 3
  (aJ (uR (uQ LL.bV (aA (bH aP (aR 0)) (aA cD (aR 2)))) (sX (aT (aM LL.bV (aA (bH aP (aR 0)) (aA cD (aR 2)))))))
  (aJ (dS (jS (tV (aB fK cD dJ)) (tV (aB (lC ag) dJ (aB aO cZ cD))))
   (pR (aA (eC (.str "a thing would lie under itself")) aH) "Looped")
   cH)
  (aJ (bA 3 (aB bS (aB aO cZ cD) (bN (aR 1))))
  (aJ (i0 4 (dB aH))
  (aJ (TY (dM (sM (aR 0)) (BZ 5 6)
   (aJ (bA 7 (ny (aB fK gJ dJ) (aB (lC ag) dJ gC)))
   (sX (kK 4 fF (aT (nz (tV nN) (bH eP (aA (bH f7 (aA (aB bS gC d9) aH)) aH)) gC)))))))
  (bY (bH eP (aR 4))))))))
def OO:a∈putN ns k↔a∈ns\/a=k:=by
 unfold putN;split
 .rename_i h;show⟨.inl,λq=>q.elim id λz=>z▸h⟩
 .rw [di,bt]
def FG(h:ns.Nodup):(putN ns k).Nodup:=by
 unfold putN;split
 .exact h
 .rename_i z;show jn.mpr ⟨h,by simp,λa j b d=>by rw[bt] at d;intro e;subst e;subst d;show z j⟩
theorem yD:∀(ks ns:Q0e),ns.Nodup->(ks.foldl putN ns).Nodup /\∀a,a∈ks.foldl putN ns↔a∈ns\/a∈ks
 |[],ns,h=>⟨h,λa=>by simp⟩
 |k::ks,ns,h=>by obtain⟨d,h2⟩:=yD ks (putN ns k) (FG h);show⟨d,λa=>?_⟩;rw[ll,h2,OO,cb,or_assoc]
def OP(ns:Q0e):(zW ns).Nodup /\∀a,a∈zW ns↔a∈ns:=by obtain⟨d,h2⟩:=yD ns [] (by simp);show⟨d,λa=>by unfold zW;rw[h2];simp⟩
def both(r l:Q0e):List Int:=sortI (zW (r++l))
def AB(r l:Q0e):(both r l).Pairwise (·<·):=by have a:=jA (zW (r++l));have h2:(both r l).Nodup:=(sortI_perm (zW (r++l))).nodup_iff.mpr (OP _).1;show(a34 a h2).imp λq=>by lia
def CH:a∈both r l↔a∈r\/a∈l:=by unfold both;rw[(sortI_perm _).mem_iff,(OP _).2,di]
def UB(h:r.length+l.length<64):f7 [.tup (r.map D.int++l.map D.int)]=aa (.lst ((both r l).map D.int)):=by unfold f7;rw[<- cc];dsimp only;rw[eB];show(if(r++l).length<64 then _ else _)=_;rw[Z_ (by rw[bq];show h)];rfl
def rc3(l:a ρ=aa x)(j:b ρ=aa y)(d:c ρ=aa z)(h:Bq (R [x,y,z])=o):uQ R (aA a (aA b (aA c aH))) ρ=o:=by unfold uQ aA aH;rw[l,j,d];show h
def thing(n a:Int):Bool:=Zv (0<=a)&&Zv (a<n)
def yE(h:thing n a=ae)(d:thing n b=ae):bV [.int n,.int a,.int b]=.ok .non:=by unfold bV;show runN (ρ:=[Sv.ro (.int n),Sv.ro (.int a),Sv.ro (.int b)]) rfl (rE ?_ rfl);show kP (b:=ag) (TH (eW (c6 rfl rfl (iV a n)) rfl) (by rw[show(Zv (0<=a)&&Zv (a<n))=ae from h];rfl)) (λ_=>?_) (λz=>by cases z);show TH (eW (c6 rfl rfl (iV b n)) rfl) (by rw[show(Zv (0<=b)&&Zv (b<n))=ae from d];rfl)
def dA:thing n a=ae↔0<=a/\a<n:=by simp[thing]
theorem Bn(j:ρ=Sv.ro (aE x)::Sv.ro (.int a)::Sv.ro (.int b)::r)(h:thing x.length a=ae)(d:thing x.length b=ae):
  uR (uQ LL.bV (aA (bH aP (aR 0)) (aA cD (aR 2)))) (sX (aT (aM LL.bV (aA (bH aP (aR 0)) (aA cD (aR 2)))))) ρ=.nx ρ:=by
 subst j;show Pb (rc3 (bP rfl bZ) rfl rfl (by rw[yE h d];rfl)) ?_;unfold sX aT;rw[dC (bP rfl bZ) rfl rfl (yE h d)];rfl
def tP(b:Int)(lower:Q0e)(p:List Int×Nat):List Int:=if Zv ((p.2:Int)=b)||p.1.contains b then both p.1 lower else p.1
def put(x:Q0a)(a b:Int):List (List Int):=x.zipIdx.map (tP b (row x a++[a]))
def l4(x:Q0a)(a b:Int):Bool:=Zv (a=b)||(row x a).contains b
def KZ(d:thing x.length a=ae):(jS (tV (aB fK cD dJ)) (tV (aB (lC ag) dJ (aB aO cZ cD)))) (bB (Sv.ro (aE x)::Sv.ro (.int a)::Sv.ro (.int b)::r))=aa (l4 x a b):=by obtain⟨j,h⟩:=dA.mp d;show kP (b:=Zv (a=b)) (eW (binI (x:=a) (y:=b) rfl rfl cN) rfl) (λz=>?_) (λz=>by unfold l4;rw[z];rfl);unfold l4;rw[z,nj];show eW (aL (x:=.int b) (y:=τ (row x a)) rfl (aL (x:=aE x) (y:=.int a) rfl rfl (gW j h)) FF) rfl
def OQ(hn:x.length<=1000)(I:∀r∈x,r.length<=9)(F:thing x.length a=ae)(U:thing x.length b=ae)(h:l4 x a b=ag):gF [aE x,.int a,.int b]=.ok (aE (put x a b)):=by
 obtain⟨Y,X⟩:=dA.mp F;have hw:(row x a).length<=9:=by unfold row;rw[bo ∅];show I _ (jz _)
 unfold gF;show iU rfl (cL _ (Bn rfl F U) (cL _ (rE ((KZ F).trans (congrArg aa h)) rfl) (cL _ (dY (τ (row x a++[a])) (aL (x:=τ (row x a)) (y:=.tup [.int a]) (aL (x:=aE x) (y:=.int a) rfl rfl (gW Y X)) (Pa rfl) ?_) rfl) (cL [Sv.ro (aE x),Sv.ro (.int a),Sv.ro (.int b),Sv.ro (τ (row x a++[a])),Sv.ow (.lst []),Sv.no,Sv.no,Sv.no] rfl ?_))))
 .unfold τ;rw[uW (by simp;lia),cc];rfl
 .have L:Nx (dM (sM (aR 0)) (BZ 5 6)
    (aJ (bA 7 (ny (aB fK gJ dJ) (aB (lC ag) dJ gC)))
    (sX (kK 4 fF (aT (nz (tV nN) (bH eP (aA (bH f7 (aA (aB bS gC d9) aH)) aH)) gC))))) [Sv.ro (aE x),Sv.ro (.int a),Sv.ro (.int b),Sv.ro (τ (row x a++[a])),Sv.ow (.lst []),Sv.no,Sv.no,Sv.no])
    λρ=>∃q n l,ρ=[Sv.ro (aE x),Sv.ro (.int a),Sv.ro (.int b),Sv.ro (τ (row x a++[a])),Sv.ow (.lst ((put x a b).map τ)),q,n,l]:=by
   show uY ((x.map τ).zipIdx.map λp=>D.tup [.int (p.2:Int),p.1]) (λi ρ=>∃q n l,ρ=[Sv.ro (aE x),Sv.ro (.int a),Sv.ro (.int b),Sv.ro (τ (row x a++[a])),Sv.ow (.lst (((put x a b).take i).map τ)),q,n,l]) rfl ⟨_,_,_,rfl⟩ ?_ ?_
   .rintro i d _ J ⟨q,n,l,rfl⟩;rw[zipIdx_map,gd,dg] at J;obtain⟨⟨r,j⟩,z,rfl⟩:=k_.mp J;have O:j=i/\x[i]?=aa r:=by rw[ym] at z;obtain⟨r',e1,e2⟩:=k_.mp z;cases e2;show⟨by lia,e1⟩
    obtain⟨rfl,K⟩:=O;have rl:r.length<=9:=I r (ia K);show⟨[Sv.ro (aE x),Sv.ro (.int a),Sv.ro (.int b),Sv.ro (τ (row x a++[a])),Sv.ow (.lst (((put x a b).take j).map τ)),Sv.ro (.int j),Sv.ro (τ r),l],rfl,?_⟩;have A:(put x a b)[j]?=aa (tP b (row x a++[a]) (r,j)):=by unfold put;rw[dg,z];rfl
    have tk:(put x a b).take (j+1)=(put x a b).take j++[tP b (row x a++[a]) (r,j)]:=by rw[List.take_add_one,A];rfl
    have Z:(ny (aB fK gJ dJ) (aB (lC ag) dJ gC)) (gO [Sv.ro (aE x),Sv.ro (.int a),Sv.ro (.int b),Sv.ro (τ (row x a++[a])),Sv.ow (.lst (((put x a b).take j).map τ)),Sv.ro (.int j),Sv.ro (τ r),l])=aa (.bl (Zv ((j:Int)=b)||r.contains b)):=by unfold ny;rw[binI (x:=j) (y:=b) rfl rfl cN,aL (x:=.int b) (y:=τ r) rfl rfl FF];simp only[cz,pU];cases Zv ((j:Int)=b)<;>rfl
    show⟨_,cL _ (dY _ Z rfl) ?_,Sv.ro (.int j),Sv.ro (τ r),Sv.ro (.bl (Zv ((j:Int)=b)||r.contains b)),rfl⟩;rw[tk];unfold sX;have ev:(aT (nz (tV nN) (bH eP (aA (bH f7 (aA (aB bS gC d9) aH)) aH)) gC)) [Sv.ro (aE x),Sv.ro (.int a),Sv.ro (.int b),Sv.ro (τ (row x a++[a])),Sv.ow (.lst (((put x a b).take j).map τ)),Sv.ro (.int j),Sv.ro (τ r),Sv.ro (.bl (Zv ((j:Int)=b)||r.contains b))]
      = aa ([Sv.ro (aE x),Sv.ro (.int a),Sv.ro (.int b),Sv.ro (τ (row x a++[a])),Sv.ow (.lst (((put x a b).take j).map τ)),Sv.ro (.int j),Sv.ro (τ r),Sv.ro (.bl (Zv ((j:Int)=b)||r.contains b))],τ (tP b (row x a++[a]) (r,j))):=by
     unfold aT nz;rw[eW (b:=Zv ((j:Int)=b)||r.contains b) rfl rfl];unfold tP
     cases Zv ((j:Int)=b)||r.contains b with
     |false=>rfl
     |true =>
      simp only[cz,if_true];rw[bP (x:=.lst ((both r (row x a++[a])).map D.int)) (bP (x:=.tup (r.map D.int++(row x a++[a]).map D.int)) (aL (x:=τ r) (y:=τ (row x a++[a])) rfl rfl (uW (by simp;lia))) (UB (by simp;lia))) rfl];rfl
    have pl:((put x a b).take j).length<1000+1:=by
     rw[jo];have:(put x a b).length=x.length:=by simp[put]
     lia
    have ex:=K03.Oj (i:=4) (m:=fF) rfl ev rfl (nO (d:=τ (tP b (row x a++[a]) (r,j))) (ds:=((put x a b).take j).map τ) (by rw[a_];lia));show(congrArg (λo:Option (bK×D)=>match o with|some p=>Out.nx p.1|none=>Out.no) ex).trans ?_;rw[cc];rfl
   .rintro v ⟨q,n,l,rfl⟩;show⟨q,n,l,?_⟩;rw[oy (by simp[put])]
  obtain⟨v,e,q,n,l,rfl⟩:=L;show cL _ (by unfold TY;rw[e]) (d6 ?_);show bP rfl rfl
open K03 ZW
theorem UC(up:∀d:Int,0<=d->d<(y.length:Int)->(row y d).Pairwise (·<·))(rng:∀c d:Int,0<=d->d<(y.length:Int)->c∈row y d->0<=c/\c<(y.length:Int))
  (tr:∀c v d:Int,0<=d->d<(y.length:Int)->v∈row y d->c∈row y v->c∈row y d) (n:∀d:Int,0<=d->d<(y.length:Int)->d∉row y d):Ord.Rows y:=by
 have j:∀(b:Nat) (r:Q0e),y[b]?=aa r->row y (b:Int)=r/\(b:Int)<(y.length:Int):=λb r h=>by unfold row;rw[gf,h];have:=(cg.1 h).1;show⟨rfl,by lia⟩
 show⟨λb r h=>?_,λb r h a m=>?_,λb a r v h m p c o=>?_,λb r h=>?_⟩
 .obtain ⟨e,l⟩:=j b r h;rw[<- e];show up b ∅ l
 .obtain ⟨e,l⟩:=j b r h;rw[<- e] at m;show rng a b ∅ l m
 .obtain ⟨e,l⟩:=j b r h;obtain⟨e2,q⟩:=j a v p;rw[<- e] at m ⊢;rw[<- e2] at o;show tr c a b ∅ l m o
 .obtain ⟨e,l⟩:=j b r h;rw[<- e];show n b ∅ l
def dO(x:Q0a)(a b:Int):(put x a b).length=x.length:=by simp[put]
def AD(l:0<=d)(j:d<(x.length:Int)):row (put x a b) d=tP b (row x a++[a]) (row x d,d.toNat):=by
 have h:d.toNat<x.length:=by lia
 unfold row put;rw[dg,ym,bo h];simp[row]
def j3(l:0<=d)(j:d<(x.length:Int)):c∈row (put x a b) d↔c∈row x d\/((d=b\/b∈row x d)/\(c=a\/c∈row x a)):=by
 rw[AD l j];unfold tP;have e:((d.toNat:Nat):Int)=d:=by lia
 rw[e];by_cases h:(Zv (d=b)||(row x d).contains b)=ae
 .rw [Z_ h,CH,di,bt];have h':d=b\/b∈row x d:=by simpa using h
  constructor
  .rintro (z|z|z)
   .exact .inl z
   .exact .inr ⟨h',.inr z⟩
   .exact .inr ⟨h',.inl z⟩
  .rintro (z|⟨_,z|z⟩)
   .exact .inl z
   .exact .inr (.inr z)
   .exact .inr (.inl z)
 .rw [Zz h];have h':¬ (d=b\/b∈row x d):=by simpa using h
  show⟨.inl,λz=>z.elim id λq=>Zw q.1 h'⟩
def OR(h:l4 x a b=ag):a≠b/\b∉row x a:=by unfold l4 at h;simpa using h
def CI(n:Ord.Rows x)(U:thing x.length a=ae)(O:thing x.length b=ae)(h:l4 x a b=ag):Ord.Rows (put x a b):=by
 obtain⟨A,q⟩:=dA.mp U;obtain⟨Y,X⟩:=dA.mp O;obtain⟨F,o⟩:=OR h;show UC (λd m j=>?_) (λc d m j I=>?_) (λc v d m j K I=>?_) λd m j L=>?_
 .rw [dO] at j;rw[AD m j];unfold tP;split
  .exact AB _ _
  .exact n.up _ _ (jB m j)
 .rw [dO] at j ⊢;rcases(j3 m j).1 I with z|⟨_,z|z⟩
  .exact CG n m j z
  .omega
  .exact CG n A q z
 .rw [dO] at j;have p:=(j3 m j).1 K;have J:0<=v/\v<(x.length:Int):=by
   rcases p with z|⟨_,z|z⟩
   .exact CG n m j z
   .omega
   .exact CG n A q z
  show(j3 m j).2 ?_;rcases(j3 J.1 J.2).1 I with z|⟨u,l⟩
  .rcases p with y|⟨u,l⟩
   .exact .inl (UA n m j y z)
   .refine .inr ⟨u,.inr ?_⟩;rcases l with e|l
    .rw [e] at z;show z
    .exact UA n A q l z
  .refine .inr ⟨?_,l⟩;rcases p with y|⟨u2,_⟩
   .rcases u with e|u
    .rw [e] at y;show .inr y
    .exact .inr (UA n m j y u)
   .exact u2
 .rw [dO] at j;rcases(j3 m j).1 L with z|⟨u,l⟩
  .exact Vk n m j z
  .rcases u with e|u
   .rcases l with e2|l
    .exact F (e2.symm.trans e)
    .rw [e] at l;show o l
   .rcases l with e2|l
    .rw [e2] at u;show o u
    .exact o (UA n A q l u)
def bO(x:Q0a)(a:Q0e):List Int:=((aS 0 x.length).filter λt=>!a.contains t).filter λt=>(row x t).all λl=>a.contains l
def cU(a:Q0e)(t:Int):List Int:=sortI (a++[t])
def K0(x:Q0a)(a:Q0e):Prop:=a.Nodup /\∀t∈a,0<=t/\t<(x.length:Int)
def iG(h:t∈bO x a):(0<=t/\t<(x.length:Int))/\t∉a:=by unfold bO at h;have d:=(gc.mp h).1;have h2:=gc.mp d;have:=bD.mp h2.1;show⟨by lia,by simpa using h2.2⟩
def AE(n:Nat):(aS 0 n).Nodup:=by show lg.mpr λi j hi d h=>?_;have a:=kM (lo:=0) (n:=n) (i:=i) (by simpa[aN] using hi);have e2:=kM (lo:=0) (n:=n) (i:=j) (by simpa[aN] using d);rw[bo hi] at a;rw[bo d] at e2;have a:=ft a;have e2:=ft e2;lia
def K1(h:K0 x a):(bO x a).length+a.length<=x.length:=by
 have nd:(bO x a++a).Nodup:=by show jn.mpr ⟨?_,h.1,λu j v d e=>(iG j).2 (e▸d)⟩;unfold bO;show pf _ (pf _ (AE x.length))
 have:=Ord.eA _ (aS 0 x.length) nd λt l=>bD.mpr (by
  rcases di.1 l with z|z
  .have:=(iG z).1;lia
  .have:=h.2 t z;lia)
 rwa [bq,aN] at this
def UD:K0 x []:=⟨mw,λt a=>by cases a⟩
end LL
namespace K24
noncomputable def fact:Nat->Int
 |0=>1
 |k+1=>fact k*(k+1)
noncomputable def ff(x:Int):Nat->Int
 |0=>1
 |k+1=>ff x k*(x-k)
--CUT
def C(x:Int)(m:Nat):Int:=ff x m/fact m
noncomputable def diffs:List Int->List Int
 |a::b::l=>(b-a)::diffs (b::l)
 |_=>[]
theorem pX:∀l:Q0e,(diffs l).length=l.length-1
 |[]=>rfl
 |[_]=>rfl
 |a::b::l=>by rw[diffs,cf,pX (b::l)];simp
def fd(l:Q0e):List Int:=match l with
 |[]=>[]
 |a::r=>a::fd (diffs (a::r))
termination_by l.length
decreasing_by rw[pX];simp
noncomputable def vals(f:Int->Int):Nat->Int->List Int
 |0,_=>[]
 |n+1,x=>f x::vals f n (x+1)
def DV(n:Nat)(d:Int):List Int->Int->Int
 |[],_=>0
 |w::l,k=>w*C (k+n-1-d) n+DV n (d+1) l k
end K24
namespace LL
open L3 L4
def kU:jV:=cM 1 1
  (bY (cB 1 [] (eE cZ) (g1 0) eO (bH B5 (aA (cB 1 [] (eE cZ) (g1 0) eO (aB uS (eI 1) cZ)) aH))))
theorem yF:∀a:Q0e,x5 (a.map D.int)=aa (a.map cn)
 |[]=>rfl
 |x::a=>by rw[bp,x5,yF a];rfl
theorem IC:∀{a b:Q0e},a.map (cn:Int->xH)=b.map cn->a=b
 |[],[],_=>rfl
 |[],_::_,h=>by simp at h
 |_::_,[],h=>by simp at h
 |x::a,y::b,h=>by simp only[bp,pb,Zf] at h;rw[h.1,IC h.2]
def xI(a b:Q0e):List Int:=(a.zip b).map λp=>p.1+p.2
def u3(l:Q0e):List Int:=0::l.dropLast
def OS(n:Nat):List Int:=1::jy (max n 1-1) 0
def OT(n:Nat):List Int:=jy (max n 1) 0
section
variable(x:Q0a)
def Sh:Nat->List Int->Int->List Int
 |0,_,_=>OS x.length
 |m+1,a,l=>(bO x a).foldl (λd t=>xI d (if t<l then u3 (Sh m (cU a t) t) else Sh m (cU a t) t)) (OT x.length)
end
def sQ(h:a.length=b.length):(xI a b).length=a.length:=by unfold xI;simp[h]
def sS(h:1<=a.length):(u3 a).length=a.length:=by unfold u3;simp;lia
def u4(n:Nat):(OT n).length=max n 1:=by simp[OT]
def CJ(n:Nat):(OS n).length=max n 1:=by simp[OS];lia
theorem yG(x:Q0a):∀(m:Nat) (a:Q0e) (l:Int),(Sh x m a l).length=max x.length 1
 |0,a,l=>CJ _
 |m+1,a,l=>by
  unfold Sh;have go:∀(j:Q0e) (d:Q0e),d.length=max x.length 1->(j.foldl (λd t=>xI d (if t<l then u3 (Sh x m (cU a t) t) else Sh x m (cU a t) t)) d).length=max x.length 1:=by
   intro j
   induction j with
   |nil=>intro d h;show h
   |cons t j ih =>
    intro d h;rw[ll];show ih _ ?_;rw[sQ]
    .exact h
    .rw [h];have:=yG x m (cU a t) t;split
     .rw [sS ∅];show this.symm
     .exact this.symm
  show go _ _ (u4 _)
def yH(x:Q0a)(m:Nat)(a:Q0e)(l:Int)(d:Q0e)(t:Int):List Int:=xI d (if t<l then u3 (Sh x m (cU a t) t) else Sh x m (cU a t) t)
def shares(x:Q0a):List Int:=Sh x x.length [] 0
open K24
theorem CK(h:f (gO ρ)=aa d)(h2:ρ[i]?=aa (.ow (.lst ds)))(a:ds.length<16777216):sX (kK i fF (aT f)) ρ=.nx (ρ.set i (.ow (.lst (ds++[d])))):=by
 have e:kK i fF (aT f) ρ=aa (ρ.set i (.ow (.lst (ds++[d]))),.non):=by unfold kK aT;rw[h2,h];show((kJ ρ[i]?).bind λds=>(fF ds d).map _)=_;rw[h2];show((fF ds d).map _)=_;rw[nO a];rfl
 unfold sX;rw[e]
noncomputable def ev(k:Int):List Int->Int
 |[]=>0
 |a::l=>a+k*ev k l
def ZY(s:Int)(l:Q0e):List Int:=((l++[0]).zip (0::l)).map λp:Int×Int=>s*p.1+p.2
noncomputable def X4(s t:Int):Nat->List Int
 |0=>[s]
 |n+1=>ZY (t-n) (X4 s t n)
def X5(n:Nat):List Int->Nat->List Int->List Int
 |[],_,ψ=>ψ
 |s::w,d,ψ=>X5 n w (d+1) (xI ψ (X4 s ((n:Int)-1-d) n))
def ZZ(x:Q0a):List Int:=fd (vals (DV x.length 0 (shares x)) (x.length+1) 0)
def Zr(w:Q0e)(m:Nat):Prop:=∀(d:Nat) (y:Int),w[d]?=aa y->m<d->y=0
def Zr.mono(h:Zr w m)(a:m<=k):Zr w k:=λd y e j=>h d y e ∅
def Zr.add{a b:Q0e}{m:Nat}(l:Zr a m)(j:Zr b m):Zr (xI a b) m:=λd y e h=>by unfold xI at e;rw[dg] at e;obtain⟨p,n,rfl⟩:=k_.1 e;obtain⟨o,e2⟩:=a2h.1 n;rw[l d _ o h,j d _ e2 h];rfl
theorem Zr.shl(h:Zr w m):Zr (u3 w) (m+1):=λd y e a=>by
 cases d with
 |zero=>lia
 |succ d =>
  have e:w.dropLast[d]?=aa y:=e;rw[List.getElem?_dropLast] at e;split at e
  .exact h d y e ∅
  .cases e
def Zr.OT(n m:Nat):Zr (OT n) m:=λd y e _=>by
 unfold LL.OT at e;rw[nh] at e;split at e
 .cases e;rfl
 .cases e
theorem Zr.fold(h:∀t,Zr (if t<l then u3 (Sh x m (cU a t) t) else Sh x m (cU a t) t) k):∀(j d:Q0e),Zr d k->Zr (j.foldl (yH x m a l) d) k
 |[],d,hz=>hz
 |t::j,d,hz=>Zr.fold h j _ (hz.add (h t))
def uA(x:Q0a)(m:Nat)(a:Q0e)(l:Int):Sh x (m+1) a l=(bO x a).foldl (yH x m a l) (OT x.length):=rfl
theorem OU(x:Q0a):∀(m:Nat) (a:Q0e) (l:Int),Zr (Sh x m a l) m
 |0,a,l=>λd y e h=>by
  cases d with
  |zero=>lia
  |succ d =>
   have e:(jy (max x.length 1-1) (0:Int))[d]?=aa y:=e;rw[nh] at e;split at e
   .cases e;rfl
   .cases e
 |m+1,a,l=>by
  rw[uA];show Zr.fold (λt=>?_) _ _ (Zr.OT _ _);split
  .exact (OU x m _ _).shl
  .exact (OU x m _ _).mono ∅
def CL{x:Q0a}{a:Q0e}{t:Int}(h:t∈bO x a):0<=t:=(iG h).1.1
theorem fold_congr{d a:Type}{f g:a->d->a}:∀(l:List d) (b:a),(∀b,∀t∈l,f b t=g b t)->l.foldl f b=l.foldl g b
 |[],b,_=>rfl
 |t::l,b,h=>by rw[ll,ll,h b t cq];show fold_congr l _ λb u j=>h b u (fg _ j)
theorem OV(x:Q0a)(m:Nat)(a:Q0e){l l':Int}(h:l<=0)(h':l'<=0):Sh x m a l=Sh x m a l':=by
 cases m with
 |zero=>rfl
 |succ m =>
  rw[uA,uA];show fold_congr _ _ λj t d=>?_;have:=CL d;unfold yH;rw[Zz ∅,Zz ∅]
def kW:u∈cU a t↔u∈a\/u=t:=by unfold cU;rw[(sortI_perm (a++[t])).mem_iff];simp
def u7(a:Q0e)(t:Int):(cU a t).length=a.length+1:=by unfold cU;rw[(sortI_perm (a++[t])).length_eq];simp
theorem FH:∀a b:Nat,a+b=(a ||| b)+(a &&& b):=by
 intro a
 induction a using ui with
 |ind a ih =>
  intro b;by_cases h:a=0
  .subst h;simp
  .have e:=ih (a/2) ∅ (b/2);have l:(a ||| b)/2=(a/2 ||| b/2):=Nat.or_div_two ..;have j:(a &&& b)/2=(a/2 &&& b/2):=Nat.and_div_two ..;have m1:(a ||| b)%2=(a%2 ||| b%2):=Nat.or_mod_two_pow (n:=1);have d:(a &&& b)%2=(a%2 &&& b%2):=Nat.and_mod_two_pow (n:=1);have c:a%2+b%2=(a%2 ||| b%2)+(a%2 &&& b%2):=by rcases a1T a with p|p<;>rcases a1T b with q|q<;>rw[p,q]<;>decide
   lia
def UE(h:S.testBit b=ag):2^b+S=(2^b ||| S):=by
 have e:(2^b &&& S)=0:=by
  apply Eb;intro i;rw[D_,Dz,Nat.zero_testBit];by_cases hi:b=i
  .subst hi;simp[h]
  .simp [hi]
 rw[FH,e,Ec]
def Z0(S b i:Nat):(S ||| 2^b).testBit i=(S.testBit i||Zv (b=i)):=by rw[a1N,Dz]
def UG{M S:Nat}:(M &&& S=M) ↔ ∀i,M.testBit i=ae->S.testBit i=ae:=by
 constructor
 .intro h i hi;have:=congrArg (λz=>z.testBit i) h;simp only[D_,hi,de] at this;show this
 .intro h;apply Eb;intro i;rw[D_]
  cases e:M.testBit i with
  |false=>rfl
  |true=>rw[h i e];rfl
theorem Vj(h:S<2^n)(a:b<n):(S ||| 2^b)<2^n:=Nat.or_lt_two_pow h (Nat.pow_lt_pow_right (by decide) a)
noncomputable def K2:List Int->Nat
 |[]=>0
 |a::r=>2^a.toNat ||| K2 r
theorem AG:∀{r:Q0e},(∀a∈r,0<=a)->((K2 r).testBit i=ae↔(i:Int)∈r)
 |[],_=>by simp[K2]
 |a::r,h=>by
  have d:=AG (i:=i) (r:=r) λb j=>h b (fg _ j);have l:=h a cq;rw[K2,a1N,Dz,yy,d,cb,decide_eq_true_eq]
  constructor
  .rintro (e|e)
   .exact .inl ∅
   .exact .inr e
  .rintro (e|e)
   .exact .inl ∅
   .exact .inr e
theorem ID:∀{r:Q0e},(∀a∈r,0<=a)->r.Nodup->(r.map λa=>(2:Int)^a.toNat).sum=(K2 r:Int)
 |[],_,_=>rfl
 |a::r,h,nd=>by
  have h':∀b∈r,0<=b:=λb d=>h b (fg _ d);have j:=ID h' (ig.1 nd).2;have l:=h a cq;have d:(K2 r).testBit a.toNat=ag:=by
   cases e:(K2 r).testBit a.toNat with
   |false=>rfl
   |true =>
    have:=(AG h').1 e;rw[show((a.toNat:Nat):Int)=a by lia] at this;show Zw this (ig.1 nd).1
  rw[bp,ip,j,K2,<- UE d]
  push_cast
  rfl
section
variable(x:Q0a)
def things(S:Nat):List Int:=(aS 0 x.length).filter λt=>S.testBit t.toNat
def Mk(b:Nat):Nat:=K2 (row x b)
def IE(b S:Nat):Bool:=!S.testBit b&&Zv (Mk x b &&& S=Mk x b)
end
section
variable{x:Q0a}
def f9{S:Nat}{t:Int}:t∈things x S↔(0<=t/\t<(x.length:Int))/\S.testBit t.toNat=ae:=by
 unfold things;rw[gc,bD]
 constructor
 .rintro ⟨a,h2⟩;show⟨by lia,h2⟩
 .rintro ⟨a,h2⟩;show⟨by lia,h2⟩
def CM(h:∀t,t∈a↔t∈b):bO x a=bO x b:=by
 have d:∀t,a.contains t=b.contains t:=λt=>by rw[jh];simp[h t]
 unfold bO;simp only[d]
def OW(j:Ord.Rows x)(d:b<x.length):(Mk x b).testBit i=ae↔(i:Int)∈row x b:=by
 show AG λa h=>?_;have e:row x b=x[b]:=by unfold row;simp[d]
 rw[e] at h;obtain⟨c,rfl,_⟩:=(Ord.ON j (bo d)).1 h;lia
def Z1(j:Ord.Rows x)(d:b<x.length)(h:a∈row x b):0<=a/\a<(x.length:Int):=by
 have e:row x b=x[b]:=by unfold row;simp[d]
 rw[e] at h;show j.rng b _ (bo d) a h
def iH:t∈bO x a↔(0<=t/\t<(x.length:Int))/\t∉a /\∀l∈row x t,l∈a:=by
 unfold bO;rw[gc,gc,bD,ib];simp only[jg,List.contains_eq_mem,decide_eq_false_iff_not,decide_eq_true_eq]
 constructor
 .rintro ⟨⟨h,h2⟩,d⟩;show⟨by lia,h2,d⟩
 .rintro ⟨h,h2,d⟩;show⟨⟨by lia,h2⟩,d⟩
def UH(d:Ord.Rows x){b S:Nat}(j:b<x.length):IE x b S=ae↔(b:Int)∈bO x (things x S):=by
 unfold IE;rw[cm,decide_eq_true_eq,UG,iH]
 constructor
 .rintro ⟨a,h2⟩;show⟨by lia,λh=>?_,λl m=>?_⟩
  .have:=(f9.1 h).2;rw[gf] at this;rw[this] at a;cases a
  .have r:=Z1 d j m;show f9.2 ⟨r,h2 _ ((OW d j).2 ?_)⟩;rw[show((l.toNat:Nat):Int)=l by lia];show m
 .rintro ⟨_,a,h2⟩;show⟨?_,λi hi=>?_⟩
  .cases e:S.testBit b with
   |false=>rfl
   |true=>show Zw (f9.2 ⟨by lia,by rw[gf];show e⟩) a
  .have:=(f9.1 (h2 i ((OW d j).1 hi))).2
   rwa [gf] at this
def yI(S:Nat):(things x S).Nodup:=pf _ (AE x.length)
def len_eq{a b:Q0e}(l:a.Nodup)(j:b.Nodup)(h:∀t,t∈a↔t∈b):a.length=b.length :=
 Nat.le_antisymm (Ord.eA a b l λt d=>(h t).1 d) (Ord.eA b a j λt d=>(h t).2 d)
def yJ{S b:Nat}(d:b<x.length)(t:Int):t∈things x (S ||| 2^b)↔t∈cU (things x S) b:=by
 rw[kW,f9,f9,Z0,yy,decide_eq_true_eq]
 constructor
 .rintro ⟨a,h2|h2⟩
  .exact .inl ⟨a,h2⟩
  .exact .inr ∅
 .rintro (⟨a,h2⟩|h)
  .exact ⟨a,.inl h2⟩
  .subst h;show⟨by lia,.inr ∅⟩
def FI(S:Nat):(things x S).length<=x.length:=by
 have:=qx (λt:Int=>S.testBit t.toNat) (aS 0 x.length)
 rwa [aN] at this
def mJ{S b:Nat}(j:b<x.length)(h:S.testBit b=ag):(things x (S ||| 2^b)).length=(things x S).length+1:=by rw[<- u7 (things x S) b];show len_eq (yI _) ?_ (yJ j);unfold cU;show(sortI_perm _).nodup_iff.2 (jn.2 ⟨yI S,by simp,λu d v a e=>?_⟩);rw[bt] at a;subst a;subst e;have:=(f9.1 d).2;rw[gf,h] at this;cases this
def OX(a:Q0e):(bO x a).Nodup:=pf _ (pf _ (AE x.length))
end
abbrev Tab:=List (Nat×Int)
def jU(A:Tab)(h:Nat):Option Int:=(A.find? λq=>Zv (q.1=h)).map (·.2)
def mK(A:Tab)(h:Nat)(v:Int):Tab:=if A.any (λq=>Zv (q.1=h))=ae then A.map λq=>if q.1=h then(q.1,v) else q else A++[(h,v)]
def kN(h:Nat):KN:=.inl (.inl (h:Int))
def kdT(A:Tab):KD:=(A.map λq=>kN q.1,A.map λq=>D.int q.2)
def AH:kN a=kN b↔a=b:=by
 unfold kN
 constructor
 .intro h;simp only[Zf] at h;lia
 .intro h;rw[h]
theorem OY(A:Tab)(h:Nat):eX (kdT A).1 (kdT A).2 (kN h)=(jU A h).map D.int:=by
 unfold kdT eX jU
 induction A with
 |nil=>rfl
 |cons q A ih =>
  simp only[bp,yg,gx];by_cases e:q.1=h
  .simp [e]
  .have a:¬ kN q.1=kN h:=λz=>e (AH.1 z);simp only[Zy e,Zy a];show ih
def Vi(A:Tab)(h:Nat)(v:Int):iS (kdT A).1 (kdT A).2 (kN h) (.int v)=kdT (mK A h v):=by
 have e:(kdT A).1.any (λq=>Zv (q=kN h))=A.any λq=>Zv (q.1=h):=by
  unfold kdT;rw[Er];congr 1
  funext q
  show decide_eq_decide.2 AH
 unfold iS mK;rw[e];split
 .unfold kdT;show yc ?_ ?_
  .simp only[gd];show jf λq _=>?_;simp only[Ex];split<;>rfl
  .simp only[gd];have:((A.map λq=>kN q.1).zip (A.map λq=>D.int q.2))=A.map λq=>(kN q.1,D.int q.2):=by rw[List.zip_map']
   rw[this,gd];show jf λq _=>?_;simp only[Ex];by_cases z:q.1=h
   .rw [Z_ (AH.2 z),Z_ z]
   .rw [Zz (λy=>z (AH.1 y)),Zz z]
 .unfold kdT;simp
def FJ(A:Tab)(h:Nat):kindB (kdT A).1 (kN h)=ae:=by unfold kindB kdT;rw[rh,ib];intro q _;rfl
def tot(A:Tab)(V:Nat->Int):Int:=(A.map λq=>q.2*V q.1).sum
structure IF (n:Nat) (A:Tab):Prop where
 nd:(A.map (·.1)).Nodup
 lt:∀q∈A,q.1<2^n
def get_none(e:A.any (λq=>Zv (q.1=h))=ag):jU A h=af:=by unfold jU;rw[List.find?_eq_none.2,a1I];intro q a;have:=a2t.1 e q a;simpa using this
def IF.put(o:IF n A)(m:h<2^n)(v:Int):IF n (mK A h v):=by
 unfold mK;split
 .refine ⟨?_,λq d=>?_⟩
  .rw [gd];have:(A.map ((λq:Nat×Int=>q.1)∘λq=>if q.1=h then(q.1,v) else q))=A.map (·.1):=jf λq _=>by simp only[Ex];split<;>rfl
   rw[this];show o.nd
  .obtain ⟨p,j,rfl⟩:=fq.1 d;split
   .exact o.lt p j
   .exact o.lt p j
 .rename_i hc;show⟨?_,λq d=>?_⟩
  .rw [cc,jn];show⟨o.nd,by simp,λa x b l e=>?_⟩;obtain⟨q,d,rfl⟩:=fq.1 x;simp only[qv,bp,bt] at l;show hc (rf.2 ⟨q,d,by simp[e,l]⟩)
  .rcases di.1 d with z|z
   .exact o.lt q z
   .rw [bt.1 z];show m
def UI(V:Nat->Int)(h:Nat)(w:Int)(nd:(A.map (·.1)).Nodup):tot (mK A h ((jU A h).getD 0+w)) V=tot A V+w*V h:=by
 unfold mK;split
 .rename_i a;have go:∀(A:Tab),(A.map (·.1)).Nodup->A.any (λq=>Zv (q.1=h))=ae ->∀u,u=(jU A h).getD 0+w->tot (A.map λq=>if q.1=h then(q.1,u) else q) V=tot A V+w*V h:=by
   intro A
   induction A with
   |nil=>intro _ a;cases a
   |cons q A ih =>
    intro nd a u d;rw[bp,ig] at nd;unfold tot;rw[bp,bp,ip,bp,ip];by_cases e:q.1=h
    .have e2:A.map (λq=>if q.1=h then(q.1,u) else q)=A:=by
      conv=>rhs;rw[<- List.map_id A]
      show jf λp l=>?_;rw[Zz]
      .rfl
      .intro z;show nd.1 (fq.2 ⟨p,l,by rw[z,e]⟩)
     have e3:jU (q::A) h=aa q.2:=by unfold jU;simp[e]
     rw[e3] at d;rw[e2,Z_ e,d,e];simp only[Option.getD_some];rw[Int.add_mul];lia
    .have e3:jU (q::A) h=jU A h:=by unfold jU;simp[e]
     rw[e3] at d;have j:A.any (λq=>Zv (q.1=h))=ae:=by simpa[j_,e] using a
     have:=ih nd.2 j u d;unfold tot at this;rw[Zz e,this];lia
  show go A nd a _ rfl
 .rename_i a;have a:A.any (λq=>Zv (q.1=h))=ag:=za.2 a;rw[get_none a];unfold tot;rw[cc,Eg];simp
def UJ(o:IF n A):A.length<=2^n:=by
 have h:=Ord.eA (A.map λq=>(q.1:Int)) (aS 0 (2^n)) ?_ ?_
 .rwa [a_,aN] at h
 .have e:A.map (λq=>(q.1:Int))=(A.map (·.1)).map λa:Nat=>(a:Int):=by rw[gd];rfl
  rw[e];show yx _ (λa b d z=>d ∅) o.nd
 .intro t j;obtain⟨q,l,rfl⟩:=fq.1 j;have:=o.lt q l;show bD.2 ⟨by lia,?_⟩;rw[ko];show Int.ofNat_lt.2 this
section
variable{x:Q0a}
def CN(d:S<2^x.length):(things x S).length=x.length↔S=2^x.length-1:=by
 constructor
 .intro h;apply Eb;intro i;rw[a1M];by_cases hi:i<x.length
  .rw [Zx hi]
   cases e:S.testBit i with
   |true=>rfl
   |false =>
    have:=mJ hi e;have:=FI (x:=x) (S ||| 2^i);lia
  .rw [Zy hi];show Nat.testBit_lt_two_pow (gg d (a1Q (by decide) ∅))
 .intro h;subst h;have e:things x (2^x.length-1)=aS 0 x.length:=by unfold things;rw[List.filter_eq_self];intro t a;have:=bD.1 a;rw[a1M,Zx ∅]
  rw[e,aN]
def sU:things x 0=[]:=by unfold things;rw[a2m];intro t _;simp
end
def mL(h:c i j=ae):gR c g (.int i) (.int j)=aa (g i j):=Z_ h
def IG(a b:Nat):nnC (a:Int) (b:Int)=ae:=by unfold nnC;rw[Zx ∅,Zx ∅];rfl
def CO(a b:Nat):mH (.int a) (.int b)=aa (.int ((a &&& b:Nat):Int)):=by show(mL (IG a b)).trans ?_;rw[gf,gf]
def UK(a b:Nat):E9 (.int a) (.int b)=aa (.int ((a ||| b:Nat):Int)):=by show(mL (IG a b)).trans ?_;rw[gf,gf]
def UL(a b:Nat):E8 (.int a) (.int b)=aa (.int ((a >>> b:Nat):Int)):=by show(mL (Zx (show(0:Int)<=(b:Int) by lia))).trans ?_;rw[gf,a1O];congr 2
def IH{a b:Nat}(h:a<18446744073709551616)(d:b<=1000000):uS (.int a) (.int b)=aa (.int ((a <<< b:Nat):Int)):=by
 show(mL (by
  show(Zv (0<=(b:Int))&&Zv ((b:Int).natAbs<=1000000)&&Zv ((a:Int).natAbs<18446744073709551616))=ae;rw[Zx ∅,Zx ∅,Zx ∅];rfl)).trans ?_
 rw[gf,a1P];congr 2
def II(b:Nat):(1 <<< b:Nat)=2^b:=by rw[a1P,Nat.one_mul]
def UM(a b:Nat):(a >>> b &&& 1)=if a.testBit b=ae then 1 else 0:=by
 rw[Nat.and_one_is_mod,a1O,Nat.testBit_eq_decide_div_mod_eq];by_cases h:a/2^b%2=1
 .rw [Zx h,Z_ rfl];show h
 .rw [Zy h,Zz (by decide)];lia
def O_{f g:EF}{ρ:b7}{h b:Nat}(d:f ρ=aa (.int h))(a:g ρ=aa (.int b)):aB mH (aB E8 f g) (eI 1) ρ=aa (.int (if h.testBit b=ae then 1 else 0)):=by show binI (x:=((h >>> b:Nat):Int)) (y:=((1:Nat):Int)) (aL d a (UL h b)) rfl ?_;rw[CO,UM];split<;>rfl
section
variable{x:Q0a}
def K3(x:Q0a):List Int:=x.map λr=>(K2 r:Int)
def OZ(j:Ord.Rows x)(A:x.length<=9):kU [aE x]=.ok (aI (K3 x)):=by
 unfold kU K3;have z:aI (x.map λr=>(K2 r:Int))=.lst (x.map λr=>D.int (K2 r:Int)):=by unfold aI;rw[gd];rfl
 rw[z];show iU rfl (d6 (i7 (x.map τ) rfl (by rw[a_];lia) (fL τ (λr=>.int (K2 r:Int)) x λr o=>⟨[aa (τ r)],rfl,?_⟩)));obtain⟨b,p,rfl⟩:=oz o;have d:∀a∈x[b],0<=a/\a<(x.length:Int):=j.rng b _ (bo p);have l:=j.up b _ (bo p);have m:(x[b]).Nodup:=l.imp λh=>by lia
 have q:=Ord.Rows.short j o;rw[<- ID (λa n=>(d a n).1) m];show bP (x:=aI ((x[b]).map λa:Int=>(2:Int)^a.toNat)) ?_ sum_ints;have v:aI ((x[b]).map λa=>(2:Int)^a.toNat)=.lst ((x[b]).map λa=>D.int ((2:Int)^a.toNat)):=by unfold aI;rw[gd];rfl
 rw[v];show i7 ((x[b]).map D.int) rfl (by rw[a_];lia) (fL D.int (λa=>.int ((2:Int)^a.toNat)) _ λa n=>⟨[aa (.int a)],rfl,?_⟩);have r:=d a n;show binI (x:=1) (y:=a) rfl rfl ?_;show(mL (by
  show(Zv (0<=a)&&Zv (a.natAbs<=1000000)&&Zv ((1:Int).natAbs<18446744073709551616))=ae;rw[Zx r.1,Zx ∅];rfl)).trans ?_
 rw[Int.one_mul]
def Z2(a:b<x.length):aO (aI (K3 x)) (.int b)=aa (.int (Mk x b:Int)):=by
 unfold aI;rw[pT];show iO ?_;unfold K3;rw[dg,bo a];have e:row x b=x[b]:=by unfold row;simp[a]
 unfold Mk;rw[e];rfl
def Z3(h:Nat):n8 (.int (h:Int))=aa (kN h):=rfl
def Vh(A:Tab)(q:Nat->az->Prop)(h:Nat):N8 (.dG q (kdT A).1 (kdT A).2) (.int (h:Int)) (.int 0)=aa (.int ((jU A h).getD 0)):=by show((n8 (.int (h:Int))).bind λk=>if kindB (kdT A).1 k=ae then aa ((eX (kdT A).1 (kdT A).2 k).getD (.int 0)) else af)=_;rw[Z3,cz,Z_ (FJ A h),OY];cases jU A h<;>rfl
def Bm(e:jU A h=aa v):oQ (.dG q (kdT A).1 (kdT A).2) (.int (h:Int))=aa (.int v):=by show((n8 (.int (h:Int))).bind λk=>if kindB (kdT A).1 k=ae then eX (kdT A).1 (kdT A).2 k else af)=_;rw[Z3,cz,Z_ (FJ A h),OY,e];rfl
def dT(q:Nat->az->Prop)(A:Tab):D:=.dG q (kdT A).1 (kdT A).2
def Z4(A:Tab)(q:Nat->az->Prop):N9 (dT q A)=aa (A.map λp=>D.int (p.1:Int)):=by show aa (((A.map λq=>kN q.1)).map ZQ)=_;rw[gd];rfl
theorem get_mem(nd:(A.map (·.1)).Nodup)(a:p∈A):jU A p.1=aa p.2:=by
 induction A with
 |nil=>cases a
 |cons q A ih =>
  rw[bp,ig] at nd;unfold jU;rw[gx];by_cases e:q.1=p.1
  .rcases cb.1 a with z|z
   .subst z;simp
   .exact Zw (fq.2 ⟨p,z,e.symm⟩) nd.1
  .rcases cb.1 a with z|z
   .exact Zw (by rw[z]) e
   .rw [Zy e];show ih nd.2 z
end
end LL
namespace K25
open L3 L4 K24 LL
section
variable{x:Q0a}
def Vg(x:Q0a):List Int:=X5 x.length (shares x) 0 (jy (x.length+1) 0)
end
abbrev st(ns:Q0e)(x:Q0a)(j:Int)(h d a:Sv):bK:=[.ro (.gK ns),.ro (aE x),.ri x.length,.ro (τ (shares x)),.ro (τ (ZZ x)),.ro (τ (Vg x)),.ri j,h,d,a]
end K25
namespace LL
open L3 L4 K24
section
variable(x:Q0a)
def cnt:Nat->List Int->Int
 |0,_=>1
 |m+1,a=>((bO x a).map λt=>cnt m (cU a t)).sum
def gls:Nat->List (List Int)
 |0=>[[]]
 |i+1=>(gls i).flatMap λw=>(bO x w).map λt=>w++[t]
end
section
variable{x:Q0a}
theorem CP:∀{a b:Q0e},a.length=b.length->(xI a b).sum=a.sum+b.sum
 |[],[],_=>rfl
 |[],_::_,h=>by simp at h
 |_::_,[],h=>by simp at h
 |y::a,z::b,h=>by have d:=CP (a:=a) (b:=b) (by simpa using h);show y+z+(xI a b).sum=_;rw[d,ip,ip];lia
def UN(h:w.getLast?=aa 0):(u3 w).sum=w.sum:=by obtain⟨l,a⟩:=List.getLast?_eq_some_iff.1 h;subst a;unfold u3;simp
theorem FK:∀(m:Nat) (a:Q0e) (l:Int),a.length+m=x.length->(l=-1\/l∈a)->(Sh x m a l).sum=cnt x m a
 |0,a,l,_,_=>by
  show(OS x.length).sum=1;unfold OS;rw[ip];have:(jy (max x.length 1-1) (0:Int)).sum=0:=by simp
  rw[this];rfl
 |m+1,a,l,hl,hm=>by
  rw[uA];have go:∀(j d:Q0e),(∀t∈j,t∈bO x a)->d.length=max x.length 1->(j.foldl (yH x m a l) d).sum=d.sum+(j.map λt=>cnt x m (cU a t)).sum:=by
   intro j
   induction j with
   |nil=>intro d _ _;simp
   |cons t j ih =>
    intro d p h;have o:=yG x m (cU a t) t;have tr:=p t cq;have F:=CL tr;have tn:=(iG tr).2;have hlen:d.length=(if t<l then u3 (Sh x m (cU a t) t) else Sh x m (cU a t) t).length:=by
     rw[h];split
     .rw [sS ∅];show o.symm
     .exact o.symm
    have z:(if t<l then u3 (Sh x m (cU a t) t) else Sh x m (cU a t) t).sum=cnt x m (cU a t):=by
     rw[<- FK m (cU a t) t (by rw[u7];lia) (.inr (kW.2 (.inr rfl)))];split
     .rename_i h1;show UN ?_;have q:l∈a:=hm.resolve_left ∅
      have I:1<=a.length:=by cases a with
       |nil=>cases q
       |cons _ _=>simp
      have v:=OU x m (cU a t) t;rw[List.getLast?_eq_getElem?,o];have n:max x.length 1-1<(Sh x m (cU a t) t).length:=by lia
      rw[bo n];congr 1;show v _ _ (bo n) ∅
     .rfl
    rw[ll,ih _ (λu y=>p u (fg _ y)) (by unfold yH;rw[sQ hlen,h]),bp,ip];unfold yH;rw[CP hlen,z];lia
  have:=go (bO x a) (OT x.length) (λt h=>h) (u4 _);rw[this];have A:(OT x.length).sum=0:=by unfold OT;simp
  rw[A,ko];rfl
theorem rK:∀(m:Nat) {a b:Q0e},(∀t,t∈a↔t∈b)->cnt x m a=cnt x m b
 |0,a,b,_=>rfl
 |m+1,a,b,h=>by show((bO x a).map λt=>cnt x m (cU a t)).sum=((bO x b).map λt=>cnt x m (cU b t)).sum;rw[CM h];congr 1;show jf λt _=>rK m λu=>?_;rw[kW,kW,h u]
theorem IJ:∀(i r:Nat),((gls x i).map (cnt x r)).sum=cnt x (i+r) []
 |0,r=>by simp[gls]
 |i+1,r=>by
  have a:=IJ i (r+1);rw[show i+1+r=i+(r+1) by lia,<- a];have go:∀L:Q0a,((L.flatMap λw=>(bO x w).map λt=>w++[t]).map (cnt x r)).sum=(L.map (cnt x (r+1))).sum:=by
   intro L
   induction L with
   |nil=>rfl
   |cons w L ihL =>
    rw[yp,cc,Eg,ihL,bp,ip,gd];congr 1;show _=((bO x w).map λt=>cnt x r (cU w t)).sum;congr 1;show jf λt _=>rK r λu=>?_;rw[kW];simp
  show go _
def IK:((gls x x.length).length:Int)=(shares x).sum:=by
 have h:=IJ (x:=x) x.length 0;have e:((gls x x.length).map (cnt x 0)).sum=((gls x x.length).length:Int):=by
  have:∀L:Q0a,(L.map (cnt x 0)).sum=(L.length:Int):=by
   intro L
   induction L with
   |nil=>rfl
   |cons w L ih =>
    rw[bp,ip,ih,cf];show(1:Int)+_=_;lia
  show this _
 rw[<- e,h,Ec,<- FK x.length [] (-1) (by simp) (.inl rfl)];unfold shares;rw[OV x x.length [] (l:=-1) (l':=0) (by decide) (by decide)]
end
theorem yK{d:Type}(c:Int)(f:d->Int):∀L:List d,(L.map λa=>c*f a).sum=c*(L.map f).sum
 |[]=>by simp
 |a::L=>by have h:=yK c f L;simp only[bp,ip,h,Int.mul_add]
theorem CQ{d:Type}(p:d->Bool)(f:d->Int):∀L:List d,((L.filter p).map f).sum=(L.map λa=>if p a=ae then f a else 0).sum
 |[]=>rfl
 |a::L=>by
  have j:=CQ p f L;by_cases h:p a=ae
  .rw [a2n h,bp,ip,bp,ip,j,Z_ h]
  .rw [a2o h,bp,ip,j,Zz h,ko]
section
variable{x:Q0a}
theorem jF:∀{i:Nat} {w:Q0e},w∈gls x i->w.length=i /\∀u t v,w=u++t::v->t∈bO x u
 |0,w,h=>by
  have:w=[]:=by simpa[gls] using h
  subst this;show⟨rfl,λu t v e=>by simp at e⟩
 |i+1,w,h=>by
  obtain⟨l,d,n⟩:=yj.1 (show w∈(gls x i).flatMap λw=>(bO x w).map λt=>w++[t] from h);obtain⟨t,m,rfl⟩:=fq.1 n;have j:=jF d;show⟨by rw[bq,j.1];rfl,λu s v e=>?_⟩;rcases uu v with rfl|⟨v',b,rfl⟩
  .have a:=yu e rfl;have:t=s:=by simpa using a.2
   rw[<- this,<- a.1];show m
  .have e2:l++[t]=(u++s::v')++[b]:=by rw[e];simp
   have a:=yu e2 rfl;show j.2 u s v' a.1
theorem rL:∀{i:Nat} {w:Q0e},w.length=i->(∀u t v,w=u++t::v->t∈bO x u)->w∈gls x i
 |0,w,h,_=>by have:w=[]:=my.1 h;subst this;show bt.2 rfl
 |i+1,w,h,hp=>by
  rcases uu w with rfl|⟨a,b,rfl⟩
  .cases h
  .refine yj.2 ⟨a,rL (by simpa using h) λu t v e=>hp u t (v++[b]) (by rw[e];simp),fq.2 ⟨b,hp a b [] (by simp),by simp⟩⟩
end
section
variable{x y:Q0a}
theorem AI:∀i:Nat,(gls x i).Nodup
 |0=>by simp[gls]
 |i+1=>by
  show((gls x i).flatMap λw=>(bO x w).map λt=>w++[t]).Nodup;unfold List.Nodup;rw[List.pairwise_flatMap];show⟨λw _=>?_,(AI i).imp λ{a b} d u j v h e=>?_⟩
  .exact List.pairwise_map.2 ((OX w).imp λ{a b} d e=>d (by have:=(yu e rfl).2;simpa using this))
  .obtain ⟨t,_,rfl⟩:=fq.1 j;obtain⟨s,_,rfl⟩:=fq.1 h;show d (yu e rfl).1
def pZ{w:Q0e}(h:∀u t v,w=u++t::v->t∈bO x u):w.Nodup /\∀t∈w,0<=t/\t<(x.length:Int):=by
 have key:∀(r u:Q0e),(∀p t v,u++r=p++t::v->t∈bO x p)->u.Nodup->(u++r).Nodup:=by
  intro r
  induction r with
  |nil=>intro u _ d;rw[jk];show d
  |cons t r ih =>
   intro u l d;have j:=(iG (l u t r rfl)).2;have e:u++t::r=(u++[t])++r:=by simp
   rw[e];show ih (u++[t]) (λp s v e2=>l p s v (by rw[e,e2])) ?_;rw[jn];show⟨d,by simp,λa n b m e=>j (by rw[bt] at m;rw[<- m,<- e];show n)⟩
 show⟨key w [] h mw,λt j=>?_⟩;obtain⟨u,v,rfl⟩:=pd j;show(iG (h u t v rfl)).1
def rM(m:w.length=x.length)(h:∀u t v,w=u++t::v->t∈bO x u)(l:0<=b)(n:b<(x.length:Int)):b∈w:=by
 obtain⟨nd,d⟩:=pZ h;show rj λj=>?_;have:=Ord.eA (b::w) (aS 0 x.length) (ig.2 ⟨j,nd⟩) λt a=>by
  rcases cb.1 a with z|z
  .rw [z];show bD.2 ⟨l,by lia⟩
  .have:=d t z;show bD.2 ⟨this.1,by lia⟩
 rw[cf,aN] at this;lia
def Turned(x y:Q0a):Prop:=y.length=x.length /\∀a b:Int,0<=b->b<(x.length:Int)->(a∈row y ((x.length:Int)-1-b)↔(x.length:Int)-1-a∈row x b)
def Turned.symm(h:Turned x y):Turned y x:=by show⟨h.1.symm,λa b j d=>?_⟩;rw[h.1] at d ⊢;have e:=h.2 ((x.length:Int)-1-a) ((x.length:Int)-1-b) ∅ ∅;rw[show(x.length:Int)-1-((x.length:Int)-1-b)=b by lia,show(x.length:Int)-1-((x.length:Int)-1-a)=a by lia] at e;show e.symm
def FL(x z:Q0a):Prop:=z.length=x.length /\∀a b:Int,0<=a->a<(x.length:Int)->0<=b->b<(x.length:Int)->(a∈row x b↔b∈row z a)
def FL.symm(h:FL x y):FL y x:=⟨h.1.symm,λa b l j h2 d=>by rw[h.1] at j d;show(h.2 b a h2 d l j).symm⟩
end
section
variable{x:Q0a}
theorem nU:∀{u a v v':Q0e},(u++b::v).Nodup->u++b::v=a++b::v'->u=a
 |[],[],_,_,_,_=>rfl
 |[],c::a,v,v',nd,e=>by simp only[um,q_,pb] at e;rw[um,ig] at nd;show Zw (by rw[e.2];show gu _ cq) nd.1
 |c::u,[],v,v',nd,e=>by simp only[um,q_,pb] at e;rw[q_,ig] at nd;show Zw (by rw[e.1];show gu _ cq) nd.1
 |c::u,d::a,v,v',nd,e=>by simp only[q_,pb] at e;rw[q_,ig] at nd;rw[e.1,nU nd.2 e.2]
def Bef(a b:Int)(w:Q0e):Prop:=∃u v,w=u++b::v/\a∈u
def O0(O:0<=a/\a<(x.length:Int))(L:0<=b/\b<(x.length:Int))(hw:w∈gls x x.length)(h:Bef a b w):w∈gls (put x a b) x.length:=by
 have n:=jF hw;have nd:=(pZ n.2).1;obtain⟨u,v,e,K⟩:=h;show rL n.1 λp t q o=>?_;have d:=iH.1 (n.2 p t q o);have tail:∀l,(l=a\/l∈row x a)->a∈p->l∈p:=λl F j=>by
  rcases F with z|z
  .rw [z];show j
  .obtain ⟨A,y,m⟩:=pd j;have:=(iH.1 (n.2 A a (y++t::q) (by rw[o,m];simp))).2.2 l z;rw[m];show iq _ this
 show iH.2 ⟨by rw[dO];show d.1,d.2.1,λl F=>?_⟩;rcases(j3 d.1.1 d.1.2).1 F with z|⟨z|z,J⟩
 .exact d.2.2 l z
 .subst z;show tail l J ?_;have:u=p:=nU (by rw[<- e];show nd) (by rw[<- e,o]);rw[<- this];show K
 .refine tail l J ?_;have I:=d.2.2 b z;obtain⟨A,y,m⟩:=pd I;have:u=A:=nU (b:=b) (v':=y++t::q) (by rw[<- e];show nd) (by rw[<- e,o,m];simp);rw[m,<- this];show iq _ K
def uB(m:0<=b/\b<(x.length:Int))(hw:w∈gls (put x a b) x.length):w∈gls x x.length/\Bef a b w:=by
 have j:=jF hw;have d:=dO x a b;show⟨rL j.1 λp t q y=>?_,?_⟩
 .have h:=iH.1 (j.2 p t q y);rw[d] at h;show iH.2 ⟨h.1,h.2.1,λl o=>h.2.2 l ((j3 h.1.1 h.1.2).2 (.inl o))⟩
 .have n:b∈w:=rM (x:=put x a b) (by rw[j.1,d]) j.2 m.1 (by rw[d];show m.2);obtain⟨u,v,e⟩:=pd n;show⟨u,v,e,(iH.1 (j.2 u b v e)).2.2 a ((j3 m.1 m.2).2 (.inr ⟨.inl rfl,.inl rfl⟩))⟩
def UO(nd:w.Nodup)(y:Bef a b w)(h2:Bef b a w):False:=by
 obtain⟨u,v,e,o⟩:=y;obtain⟨l,v',j,d⟩:=h2;obtain⟨n,m,h⟩:=pd o;have q:l=n:=nU (b:=a) (v':=m++b::v) (by rw[<- j];show nd) (by rw[<- j,e,h];simp);have p:b∈u:=by rw[h,<- q];show iq _ d
 rw[e] at nd;show(jn.1 nd).2.2 b p b cq rfl
def Z5(h:a≠b)(l:0<=a/\a<(x.length:Int))(j:0<=b/\b<(x.length:Int))(hw:w∈gls x x.length):Bef a b w\/Bef b a w:=by
 have d:=jF hw;have m:=rM d.1 d.2 l.1 l.2;obtain⟨u,v,e⟩:=pd (rM d.1 d.2 j.1 j.2);rw[e] at m;rcases di.1 m with z|z
 .exact .inl ⟨u,v,e,z⟩
 .rcases cb.1 z with z|z
  .exact Zw z h
  .obtain ⟨o,n,ev⟩:=pd z;show .inr ⟨u++b::o,n,by rw[e,ev];simp,gu _ cq⟩
end
section
variable{x y z:Q0a}
structure Sd (x y z:Q0a):Prop where
 len:z.length=x.length+y.length
 lo:∀t:Int,0<=t->t<(x.length:Int) ->∀a,a∈row z t↔a∈row x t
 hi:∀t:Int,0<=t->t<(y.length:Int) ->∀a,a∈row z (t+x.length)↔a-x.length∈row y t
 rx:∀t:Int,0<=t->t<(x.length:Int) ->∀a∈row x t,0<=a/\a<(x.length:Int)
 ry:∀t:Int,0<=t->t<(y.length:Int) ->∀a∈row y t,0<=a/\a<(y.length:Int)
structure Cb (x y:Q0a) (a b c:Q0e):Prop where
 lo:∀t:Int,0<=t->t<(x.length:Int)->(t∈c↔t∈a)
 hi:∀t:Int,0<=t->t<(y.length:Int)->(t+x.length∈c↔t∈b)
def UP{a:Q0e}{t:Int}(h:K0 x a)(j:t∈bO x a):K0 x (cU a t):=by
 obtain⟨r,n⟩:=iG j;show⟨?_,λs l=>?_⟩
 .unfold cU;show((sortI_perm (a++[t])).nodup_iff).2 ?_;rw[jn];show⟨h.1,by simp,λp m q d e=>n (by rw[bt] at d;rw[<- d,<- e];show m)⟩
 .rcases kW.1 l with q|q
  .exact h.2 s q
  .rw [q];show r
structure Av (x y z:Q0a) (s t:Int):Prop where
 len:z.length=x.length+y.length
 lo:∀a:Int,0<=a->a<(x.length:Int) ->∀b,b∈row z (a+s)↔b-s∈row x a
 hi:∀a:Int,0<=a->a<(y.length:Int) ->∀b,b∈row z (a+t)↔(s<=b/\b<s+x.length)\/b-t∈row y a
 rx:∀a:Int,0<=a->a<(x.length:Int) ->∀b∈row x a,0<=b/\b<(x.length:Int)
 ry:∀a:Int,0<=a->a<(y.length:Int) ->∀b∈row y a,0<=b/\b<(y.length:Int)
 st:(s=0/\t=x.length)\/(s=y.length/\t=0)
def yL:t∈bO x a↔0<=t/\t<(x.length:Int)/\t∉a /\∀l∈row x t,l∈a:=by
 unfold bO;rw[gc,gc,bD,ib]
 constructor
 .intro ⟨⟨⟨j,m⟩,h2⟩,h⟩;show⟨j,by lia,by simpa using h2,λl d=>by simpa using h l d⟩
 .intro ⟨j,m,h2,h⟩;show⟨⟨⟨j,by lia⟩,by simpa using h2⟩,λl d=>by simpa using h l d⟩
end
def Oz(h:f (gO ρ)=aa d):i0 i f ρ=.nx (ρ.set i (.ow d)):=by unfold i0;rw[h]
def AJ(f:Int->Int)(n:Nat):((aS 0 (n+1)).map f).sum=((aS 0 n).map f).sum+f n:=by rw[iF,cc,Eg];show _+(f (0+(n:Int))+0)=_;rw[ko];lia
def UQ(d:0<=i)(a:i<(l.length:Int)):η l i∈l:=by unfold η;rw[bo ∅];show jz _
def jM:jV:=cM 7 1
  (aJ (bA 1 (aM LL.kU (aR 0)))
  (aJ (zY 2 (eI 0) (eI 1))
  (aJ (dM (bC (aA (bH aP (aR 0)) aH)) (lA 3)
   (aJ (HU 4)
   (aJ (ZP 2 (dM (E7 dJ) (lA 5)
    (dM (bC (aA (bH aP (aR 0)) aH)) (lA 6)
     (dS (fD (tV (aB fK (aB mH (aB E8 gJ gC) (eI 1)) (eI 0))) (tV (aB fK (aB mH (aB aO cD gC) gJ) (aB aO cD gC))))
      (l3 4 (fB (aB bS (HS fR (aB E9 gJ (aB uS (eI 1) gC)) (eI 0)) (aB oQ dJ gJ))) (aB E9 gJ (aB uS (eI 1) gC)))
      cH))))
   (HV 2 4))))
  (bY (aB oQ dJ (aB fJ (aB uS (eI 1) (bH aP (aR 0))) (eI 1)))))))
section
variable{x:Q0a}
def iW(d:0<=t)(a:t<(x.length:Int)):x[t.toNat]?=aa (row x t):=by unfold row;rw[bo ∅];rfl
def CS(h:Ord.Rows x)(n:0<=t)(m:t<(x.length:Int))(j:l∈row x t):(0<=l/\l<(x.length:Int))/\(row x l).length<(row x t).length:=by
 have d:=h.rng _ _ (iW n m) l j;show⟨d,?_⟩;have e:((l.toNat:Nat):Int)=l:=by lia
 have sub:∀c∈l::row x l,c∈row x t:=λc o=>by
  rcases cb.1 o with q|q
  .rw [q];show j
  .exact h.tr t.toNat l.toNat _ _ (iW n m) (by rw[e];show j) (iW d.1 d.2) c q
 have nd:(l::row x l).Nodup:=ig.2 ⟨by have:=h.irr l.toNat _ (iW d.1 d.2);rwa [e] at this,(h.up _ _ (iW d.1 d.2)).imp λ{a b} (q:a<b)=>by lia⟩;have:=Ord.eA _ _ nd sub;rw[cf] at this;lia
def O1(v:Ord.Rows x){a:Q0e}(F:K0 x a)(A:a.length<x.length):∃t,t∈bO x a:=by
 have go:∀(n:Nat) (t:Int),(row x t).length<=n->0<=t->t<(x.length:Int)->t∉a ->∃t,t∈bO x a:=by
  intro n
  induction n with
  |zero =>
   intro t z m j d;show⟨t,yL.2 ⟨m,j,d,λl h=>?_⟩⟩;have:=(CS v m j h).2;lia
  |succ n ih =>
   intro t z m j d;by_cases c:∃l∈row x t,l∉a
   .obtain ⟨l,h,p⟩:=c;have:=CS v m j h;show ih l ∅ this.1.1 this.1.2 p
   .exact ⟨t,yL.2 ⟨m,j,d,λl h=>rj λq=>c ⟨l,h,q⟩⟩⟩
 have:∃t∈aS 0 x.length,t∉a:=by show rj λq=>?_;have:=Ord.eA (aS 0 x.length) a (AE _) λt d=>rj λc=>q ⟨t,d,c⟩;rw[aN] at this;lia
 obtain⟨t,d,o⟩:=this;have y:=bD.1 d;show go _ t (bh _) y.1 ∅ o
theorem O2{d:Type}{f:d->Int}:∀{l:List d} {a:d},(∀b∈l,0<=f b)->a∈l->f a<=(l.map f).sum
 |b::l,a,h,ha=>by
  have m:∀{l:List d},(∀b∈l,0<=f b)->0<=(l.map f).sum:=λ{l} h=>by
   induction l with
   |nil=>show Eu 0
   |cons c l ih =>
    rw[bp,ip];have:=h c cq;have:=ih λb n=>h b (fg _ n);lia
  rw[bp,ip];rcases cb.1 ha with q|q
  .rw [q];have:=m λc j=>h c (fg _ j);lia
  .have:=h b cq;have:=O2 (λc j=>h c (fg _ j)) q;lia
theorem O5:∀(m:Nat) (a:Q0e),0<=cnt x m a
 |0,a=>by show(0:Int)<=1;decide
 |m+1,a=>by
  show 0<=((bO x a).map λt=>cnt x m (cU a t)).sum;have d:∀{l:Q0e},0<=(l.map λt=>cnt x m (cU a t)).sum:=λ{l}=>by
   induction l with
   |nil=>show Eu 0
   |cons c l ih =>
    rw[bp,ip];have:=O5 m (cU a c);lia
  show d
theorem IL(d:Ord.Rows x):∀(m:Nat) (a:Q0e),K0 x a->a.length+m=x.length->1<=cnt x m a
 |0,a,_,_=>by show(1:Int)<=1;decide
 |m+1,a,ha,hl=>by obtain⟨t,h⟩:=O1 d ha ∅;have j:=IL d m (cU a t) (UP ha h) (by rw[u7];lia);have h2:=O2 (f:=λt=>cnt x m (cU a t)) (λb _=>O5 m _) h;show 1<=((bO x a).map λt=>cnt x m (cU a t)).sum;lia
def IM:cnt x x.length []=(shares x).sum:=by rw[<- FK x.length [] (-1) (by simp) (.inl rfl),OV x x.length [] (l:=-1) (l':=0) (by decide) (by decide)];rfl
def oW(a:Ord.Rows x):1<=(shares x).sum:=by rw[<- IM];show IL a _ [] UD (by simp)
def K4(m:Ord.Rows x)(S:Nat)(f:Int->Int):((bO x (things x S)).map f).sum=((aS 0 x.length).map λt=>if IE x t.toNat S=ae then f t else 0).sum:=by
 unfold bO;rw[List.filter_filter,CQ];congr 1;show jf λt d=>?_;have n:=bD.1 d;have hi:=UH m (b:=t.toNat) (S:=S) ∅;rw[show((t.toNat:Nat):Int)=t by lia] at hi;have j:t∈bO x (things x S)↔((LL.row x t).all λl=>(things x S).contains l)=ae/\(!(things x S).contains t)=ae:=by unfold bO;rw[gc,gc];show⟨λh=>⟨h.2,h.1.2⟩,λh=>⟨⟨d,h.2⟩,h.1⟩⟩
 by_cases a:IE x t.toNat S=ae
 .rw [Z_ a,Z_ (by have:=j.1 (hi.1 a);rw[cm];show this)]
 .rw [Zz a,Zz];intro h;rw[cm] at h;show a (hi.2 (j.2 h))
def Cm(x:Q0a)(S:Nat):Int:=cnt x (x.length-(things x S).length) (things x S)
theorem UR(d:Ord.Rows x)(o:(things x S).length<x.length):Cm x S=((aS 0 x.length).map λt=>if IE x t.toNat S=ae then Cm x (S ||| 2^t.toNat) else 0).sum:=by
 obtain⟨m,l⟩:∃m,x.length-(things x S).length=m+1:=⟨x.length-(things x S).length-1,by lia⟩;unfold Cm;rw[l];show((bO x (things x S)).map λt=>cnt x m (cU (things x S) t)).sum=_;rw[K4 d];congr 1;show jf λt j=>?_;have n:=bD.1 j;by_cases c:IE x t.toNat S=ae
 .rw [Z_ c,Z_ c];have a:S.testBit t.toNat=ag:=by unfold IE at c;rw[cm] at c;simpa using c.1
  rw[mJ ∅ a,show x.length-((things x S).length+1)=m by lia];show rK m λu=>?_;have h:=yJ (x:=x) (S:=S) (b:=t.toNat) ∅ u;rw[show((t.toNat:Nat):Int)=t by lia] at h;show h.symm
 .rw [Zz c,Zz c]
def stM(x:Q0a)(F:Tab)(S:Nat)(v:Int)(b:Nat):Tab:=if IE x b S=ae then mK F (S ||| 2^b) ((jU F (S ||| 2^b)).getD 0+v) else F
def stN(x:Q0a)(F:Tab)(S:Nat)(v:Int):Nat->Tab
 |0=>F
 |b+1=>stM x (stN x F S v b) S v b
def Kl(x:Q0a)(i:Nat)(F:Tab):Prop:=∀q∈F,(things x q.1).length=i
def O6(a:q∈mK A h v):q∈A\/q.1=h:=by
 unfold mK at a;split at a
 .obtain ⟨p,d,e⟩:=fq.1 a;by_cases c:p.1=h
  .rw [Z_ c] at e;show .inr (by rw[<- e];show c)
  .rw [Zz c] at e;show .inl (by rw[<- e];show d)
 .rcases di.1 a with z|z
  .exact .inl z
  .rw [bt] at z;show .inr (by rw[z])
theorem FN(o:IF x.length F)(k:Kl x (i+1) F)(a:S<2^x.length)(hi:(things x S).length=i):∀b,b<=x.length->IF x.length (stN x F S v b)/\Kl x (i+1) (stN x F S v b)/\tot (stN x F S v b) (Cm x)=tot F (Cm x)+((aS 0 b).map λt=>if IE x t.toNat S=ae then v*Cm x (S ||| 2^t.toNat) else 0).sum
 |0,_=>⟨o,k,(a2x _).symm⟩
 |b+1,hb=>by
  obtain⟨o1,k1,t1⟩:=FN (v:=v) o k a hi b ∅;rw[AJ];show IF x.length (stM x (stN x F S v b) S v b)/\Kl x (i+1) (stM x (stN x F S v b) S v b)/\tot (stM x (stN x F S v b) S v b) (Cm x)=_;unfold stM;rw[gf];by_cases c:IE x b S=ae
  .rw [Z_ c,Z_ c,UI _ _ _ o1.nd,t1];have d:S.testBit b=ag:=by unfold IE at c;rw[cm] at c;simpa using c.1
   show⟨o1.put (Vj a ∅) _,λq h=>?_,by lia⟩;rcases O6 h with z|z
   .exact k1 q z
   .rw [z,mJ ∅ d,hi]
  .rw [Zz c,Zz c,t1];show⟨o1,k1,by lia⟩
def K5(x:Q0a)(F:Tab)(q:Nat×Int):Tab:=stN x F q.1 q.2 x.length
def Bl(x:Q0a)(A:Tab):Tab:=A.foldl (K5 x) []
def dP(x:Q0a):Nat->Tab
 |0=>[(0,1)]
 |i+1=>Bl x (dP x i)
def X6(a:Ord.Rows x)(o:IF x.length F)(k:Kl x (i+1) F)(h:q.1<2^x.length)(hi:(things x q.1).length=i)(d:i<x.length):IF x.length (K5 x F q)/\Kl x (i+1) (K5 x F q)/\tot (K5 x F q) (Cm x)=tot F (Cm x)+q.2*Cm x q.1:=by
 obtain⟨o1,k1,t1⟩:=FN (v:=q.2) o k h hi x.length (bh _);show⟨o1,k1,?_⟩;unfold K5;rw[t1,UR a ∅,<- yK];congr 2;show jf λt _=>?_;split
 .rfl
 .rw [Int.mul_zero]
theorem O7(h:Ord.Rows x)(a:i<x.length):∀(A F:Tab),(∀q∈A,q.1<2^x.length)->Kl x i A->IF x.length F->Kl x (i+1) F->IF x.length (A.foldl (K5 x) F)/\Kl x (i+1) (A.foldl (K5 x) F)/\tot (A.foldl (K5 x) F) (Cm x)=tot F (Cm x)+tot A (Cm x)
 |[],F,_,_,o,k=>⟨o,k,(a2x _).symm⟩
 |q::A,F,hA,kA,o,k=>by obtain⟨o1,k1,t1⟩:=X6 h o k (hA q cq) (kA q cq) a;obtain⟨o2,k2,t2⟩:=O7 h a A (K5 x F q) (λr d=>hA r (fg _ d)) (λr d=>kA r (fg _ d)) o1 k1;rw[ll];show⟨o2,k2,?_⟩;rw[t2,t1];show _=_+(q.2*Cm x q.1+tot A (Cm x));lia
theorem AK(d:Ord.Rows x):∀i:Nat,i<=x.length->IF x.length (dP x i)/\Kl x i (dP x i)/\tot (dP x i) (Cm x)=(shares x).sum
 |0,_=>by
  show⟨⟨by simp[dP],λq a=>?_⟩,λq a=>?_,?_⟩
  .rw [show dP x 0=[(0,1)] from rfl,bt] at a;rw[a];show a1L _
  .rw [show dP x 0=[(0,1)] from rfl,bt] at a;rw[a,sU];rfl
  .show 1*Cm x 0+0=_;unfold Cm;rw[sU,<- IM];show 1*cnt x (x.length-0) []+0=_;rw[yd];lia
 |i+1,h=>by
  obtain⟨o,k,t⟩:=AK d i ∅;obtain⟨o1,k1,t1⟩:=O7 d (i:=i) ∅ (dP x i) [] o.lt k ⟨mw,λ_ h=>by cases h⟩ λ_ h=>by cases h
  show⟨o1,k1,?_⟩;show tot ((dP x i).foldl (K5 x) []) (Cm x)=_;rw[t1,t];show 0+_=_;lia
theorem Z6(a:Ord.Rows x):jU (dP x x.length) (2^x.length-1)=aa (shares x).sum:=by
 obtain⟨o,k,t⟩:=AK a x.length (bh _);have full:∀q∈dP x x.length,q.1=2^x.length-1:=λq d=>(CN (o.lt q d)).1 (k q d);have one:∀{S:Nat},(things x S).length=x.length->Cm x S=1:=λ{S} h=>by unfold Cm;rw[h,ou];rfl
 have l:=oW a;generalize dP x x.length=A at o k t full
 match A,o,k,t,full with
 |[],_,_,t,_ =>
  have:(0:Int)=(shares x).sum:=t;lia
 |[q],o,k,t,full =>
  have j:=full q cq;have t2:q.2*Cm x q.1+0=(shares x).sum:=t;rw[one (k q cq)] at t2;unfold jU;rw[gx,Zx j];show aa q.2=_;congr 1;lia
 |q::r::A,o,_,_,full =>
  have nd:=o.nd;rw[bp,bp,ig] at nd;show Zw (by rw[full q cq,full r (fg _ cq)];show cq) nd.1
abbrev SM(x:Q0a)(h s3 s4 d a:Sv):bK:=[.ro (aE x),.ro (aI (K3 x)),h,s3,s4,d,a]
abbrev Z7:L4.SF:=dS (fD (tV (aB fK (aB mH (aB E8 gJ gC) (eI 1)) (eI 0))) (tV (aB fK (aB mH (aB aO cD gC) gJ) (aB aO cD gC))))
      (l3 4 (fB (aB bS (HS fR (aB E9 gJ (aB uS (eI 1) gC)) (eI 0)) (aB oQ dJ gJ))) (aB E9 gJ (aB uS (eI 1) gC)))
      cH
def Vf(d:f (bB ρ)=aa (.int v))(h2:ρ[i]?=aa (.ow (dT q F)))(a:k (bB ρ)=aa (.int (h:Int)))(j:F.length<16000000):l3 i (fB f) k ρ=.nx (ρ.set i (.ow (dT (adr q) (mK F h v)))):=by unfold l3 fB;rw[d];simp only[cz,D.qW,if_true];rw[h2];simp only[KO,dT,cz];rw[a];simp only[cz];rw[Z3];simp only[cz];rw[Z_ ⟨FJ F h,by unfold kdT tK;rw[a_];lia⟩,Vi]
theorem Z8(J:Ord.Rows x)(p:x.length<=9)(n:jU A S=aa v)(o:IF x.length F)(z:b<x.length):
  Nx (Z7 (SM x (.ro (dT qa A)) s3 (.ow (dT qf F)) (.ro (.int (S:Int))) (.ro (.int (b:Int))))) λρ=>∃m,ρ=SM x (.ro (dT qa A)) s3 (.ow (dT m (stM x F S v b))) (.ro (.int (S:Int))) (.ro (.int (b:Int))):=by
 have a:(fD (tV (aB fK (aB mH (aB E8 gJ gC) (eI 1)) (eI 0))) (tV (aB fK (aB mH (aB aO cD gC) gJ) (aB aO cD gC)))) (bB (SM x (.ro (dT qa A)) s3 (.ow (dT qf F)) (.ro (.int (S:Int))) (.ro (.int (b:Int)))))=aa (IE x b S):=by
  have I:tV (aB fK (aB mH (aB E8 gJ gC) (eI 1)) (eI 0)) (bB (SM x (.ro (dT qa A)) s3 (.ow (dT qf F)) (.ro (.int (S:Int))) (.ro (.int (b:Int)))))=aa (!S.testBit b):=by show eW (binI (x:=(if S.testBit b=ae then 1 else 0)) (y:=0) (O_ rfl rfl) rfl cN) ?_;show aa (Zv ((if S.testBit b=ae then(1:Int) else 0)=0))=_;cases S.testBit b<;>rfl
  have e2:tV (aB fK (aB mH (aB aO cD gC) gJ) (aB aO cD gC)) (bB (SM x (.ro (dT qa A)) s3 (.ow (dT qf F)) (.ro (.int (S:Int))) (.ro (.int (b:Int)))))=aa (Zv (Mk x b &&& S=Mk x b)):=by have l:aB aO cD gC (bB (SM x (.ro (dT qa A)) s3 (.ow (dT qf F)) (.ro (.int (S:Int))) (.ro (.int (b:Int)))))=aa (.int (Mk x b:Int)):=aL (x:=aI (K3 x)) (y:=.int (b:Int)) rfl rfl (Z2 z);show eW (binI (x:=((Mk x b &&& S:Nat):Int)) (y:=(Mk x b:Int)) (aL l rfl (CO _ _)) l cN) ?_;show aa (Zv (((Mk x b &&& S:Nat):Int)=(Mk x b:Int)))=_;congr 1;rw[decide_eq_decide];lia
  show oD I (λ_=>?_) λh=>?_
  .rw [e2];unfold IE;rw[‹(!S.testBit b)=ae›,de]
  .unfold IE;rw[h,uw]
 show cR _ a (λd=>?_) λd=>?_
 .have j:aB E9 gJ (aB uS (eI 1) gC) (bB (SM x (.ro (dT qa A)) s3 (.ow (dT qf F)) (.ro (.int (S:Int))) (.ro (.int (b:Int)))))=aa (.int ((S ||| 2^b:Nat):Int)):=by show binI (x:=(S:Int)) (y:=((2^b:Nat):Int)) rfl (binI (x:=((1:Nat):Int)) (y:=(b:Int)) rfl rfl (by rw[IH (by decide) ∅,II])) (UK _ _)
  have K:=UJ o;have h2:(2:Nat)^x.length<=2^9:=a1Q (by decide) p;show⟨_,Vf (q:=qf) (F:=F) (h:=S ||| 2^b) (v:=(jU F (S ||| 2^b)).getD 0+v) ?_ rfl j ∅,adr qf,?_⟩
  .refine binI (x:=((jU F (S ||| 2^b)).getD 0)) (y:=v) ?_ (aL (x:=dT qa A) (y:=.int (S:Int)) rfl rfl (Bm n)) dN;unfold HS;rw[j];show N8 (dT qf F) (.int ((S ||| 2^b:Nat):Int)) (.int 0)=_;show Vh F qf _
  .unfold stM;rw[Z_ d];rfl
 .refine fH ⟨qf,?_⟩;unfold stM;rw[Zz (by rw[d];decide)]
def CT(O:Ord.Rows x)(hn:x.length<=9):jM [aE x]=.ok (.int (shares x).sum):=by
 unfold jM;have main:Rt ((aJ (bA 1 (aM LL.kU (aR 0)))
  (aJ (zY 2 (eI 0) (eI 1))
  (aJ (dM (bC (aA (bH aP (aR 0)) aH)) (lA 3)
   (aJ (HU 4)
   (aJ (ZP 2 (dM (E7 dJ) (lA 5)
    (dM (bC (aA (bH aP (aR 0)) aH)) (lA 6) Z7)))
   (HV 2 4))))
  (bY (aB oQ dJ (aB fJ (aB uS (eI 1) (bH aP (aR 0))) (eI 1))))))) (eG 7 [aE x])) λd=>d=.int (shares x).sum:=by
  show bF (SM x .no .no .no .no .no) (dY _ (jL rfl (OZ O hn)) rfl) ?_;show bF (SM x (.ow (dT tO [(0,1)])) .no .no .no .no) rfl ?_;show fG (λρ=>∃q J I m l,ρ=SM x (.ow (dT q (dP x x.length))) J I m l) ?_ λρ ⟨q,J,I,m,l,e⟩=>?_
  .refine lE x.length (λi ρ=>∃q J I m l,ρ=SM x (.ow (dT q (dP x i))) J I m l) (args1 (bP rfl bZ)) ∅ ⟨_,_,_,_,_,rfl⟩ (λi ρ hi ⟨q,J,I,m,l,e⟩=>?_) λρ h=>h;subst e;obtain⟨Z,kA,tA⟩:=AK O i ∅;show⟨_,rfl,dU (SM x (.ow (dT q (dP x i))) (.ro (.int i)) (.ow (dT tO [])) m l) rfl ?_⟩;show oU (λρ=>∃a n j,ρ=SM x (.ro (dT q (dP x i))) (.ro (.int i)) (.ow (dT a (Bl x (dP x i)))) n j) ?_ λρ ⟨a,n,j,e⟩=>?_
   .have hgo:∀(B F:Tab) (qf:Nat->az->Prop) (L z:Sv),IF x.length F->Kl x (i+1) F->(∀p∈B,p∈dP x i) ->∃a n j,gD (lA 5) (dM (bC (aA (bH aP (aR 0)) aH)) (lA 6) Z7) (B.map λp=>D.int (p.1:Int)) (SM x (.ro (dT q (dP x i))) (.ro (.int i)) (.ow (dT qf F)) L z)=.nx (SM x (.ro (dT q (dP x i))) (.ro (.int i)) (.ow (dT a (B.foldl (K5 x) F))) n j):=by
     intro B
     induction B with
     |nil=>intro F qf L z _ _ _;show⟨qf,L,z,rfl⟩
     |cons p B ih =>
      intro F qf L z o k hB;have U:=hB p cq;have hv:=get_mem Z.nd U;have inner:Nx (dM (bC (aA (bH aP (aR 0)) aH)) (lA 6) Z7 (SM x (.ro (dT q (dP x i))) (.ro (.int i)) (.ow (dT qf F)) (.ro (.int (p.1:Int))) z)) λρ=>∃a j,ρ=SM x (.ro (dT q (dP x i))) (.ro (.int i)) (.ow (dT a (K5 x F p))) (.ro (.int (p.1:Int))) j:=by show lE x.length (λb ρ=>∃a j,ρ=SM x (.ro (dT q (dP x i))) (.ro (.int i)) (.ow (dT a (stN x F p.1 p.2 b))) (.ro (.int (p.1:Int))) j) (args1 (bP rfl bZ)) ∅ ⟨_,_,rfl⟩ (λb ρ hb ⟨a,j,e⟩=>?_) λρ h=>h;subst e;obtain⟨o1,k1,t1⟩:=FN (v:=p.2) o k (Z.lt p U) (kA p U) b ∅;obtain⟨K,X,q1,e2⟩:=Z8 O hn (A:=dP x i) (F:=stN x F p.1 p.2 b) (qa:=q) (qf:=a) (S:=p.1) (b:=b) (v:=p.2) (s3:=.ro (.int i)) hv o1 hb;show⟨_,rfl,K,X,q1,.ri b,e2⟩
      obtain⟨K,X,q1,j,e2⟩:=inner;subst e2;obtain⟨o1,k1,t1⟩:=X6 O o k (Z.lt p U) (kA p U) hi;obtain⟨a,n,Y,e3⟩:=ih (K5 x F p) q1 (.ro (.int (p.1:Int))) j o1 k1 λr hr=>hB r (fg _ hr);show⟨a,n,Y,?_⟩
      have e4:gD (lA 5) (dM (bC (aA (bH aP (aR 0)) aH)) (lA 6) Z7) ((p::B).map λp=>D.int (p.1:Int)) (SM x (.ro (dT q (dP x i))) (.ro (.int i)) (.ow (dT qf F)) L z)=(match dM (bC (aA (bH aP (aR 0)) aH)) (lA 6) Z7 (SM x (.ro (dT q (dP x i))) (.ro (.int i)) (.ow (dT qf F)) (.ro (.int (p.1:Int))) z) with
       |.nx ρ2=>gD (lA 5) (dM (bC (aA (bH aP (aR 0)) aH)) (lA 6) Z7) (B.map λp=>D.int (p.1:Int)) ρ2
       |o=>o):=rfl
      rw[e4,X];show e3
    obtain⟨a,n,j,e⟩:=hgo (dP x i) [] tO m l ⟨mw,λ_ h=>by cases h⟩ (λ_ h=>by cases h) λ_ h=>h;show⟨_,?_,a,n,j,rfl⟩;show dM _ _ _ (SM x (.ro (dT q (dP x i))) (.ro (.int i)) (.ow (dT tO [])) m l)=_;show z6 _ (Z4 (dP x i) q) e
   .subst e;show⟨_,rfl,a,_,_,_,_,rfl⟩
  .subst e;show gS _ ?_ rfl;have X:aB fJ (aB uS (eI 1) (bH aP (aR 0))) (eI 1) (bB (SM x (.ow (dT q (dP x x.length))) J I m l))=aa (.int ((2^x.length-1:Nat):Int)):=by show binI (x:=((2^x.length:Nat):Int)) (y:=1) (binI (x:=((1:Nat):Int)) (y:=(x.length:Int)) rfl (bP rfl bZ) (by rw[IH (by decide) ∅,II])) rfl ?_;rw[eK];have:=a1L x.length;congr 2;lia
   show aL (x:=dT q (dP x x.length)) rfl X (Bm (Z6 O))
 obtain⟨d,e,rfl⟩:=i5 rfl main;show e
end
def vA(a:Ord.Rows x)(h:x.length<=9):∀r∈x,r.length<=9:=λr d=>gi (Ord.Rows.short a d) h
def O8(h:f (gO ρ)=aa (.tup [p,q])):oP (aT f) (BZ i j) ρ=.nx ((ρ.set i (.ro p)).set j (.ro q)):=by unfold oP aT;rw[h];rfl
def US(d:r.Nodup)(j:l.Nodup):sortI (r++l.filter λt=>!r.contains t)=both r l:=by
 show CF ?_ ((AB r l).imp λh=>by lia);show(a16 ((AB r l).imp λh=>by lia) ?_).2 λt=>?_
 .rw [jn];show⟨d,pf _ j,λa n b m e=>?_⟩;have:=(gc.1 m).2;rw[<- e] at this;simp[n] at this
 .rw [CH,di,gc];by_cases h:t∈r
  .simp [h]
  .simp [h]
def p4(v:Ord.Rows x)(L:x.length<=9)(m:0<=a/\a<(x.length:Int))(Y:0<=b/\b<(x.length:Int)):gU [aE x,.int a,.int b]=.ok (aE (put x a b)):=by
 unfold gU;have K:=vA v L;have F:∀c:Int,0<=c->c<(x.length:Int)->(row x c).Nodup/\(row x c).length<=9:=λc U z=>by have e:=ZW.jB U z;show⟨(v.up _ _ e).imp λq=>by lia,K _ (ia e)⟩
 have J:=F a m.1 m.2;have p:(row x a++[a]).Nodup:=by rw[jn];show⟨J.1,by simp,λs z t h2 e=>?_⟩;rw[bt] at h2;have:=v.irr a.toNat (row x a) (ZW.jB m.1 m.2);rw[show((a.toNat:Nat):Int)=a by lia] at this;show this (by rw[e,h2] at z;show z)
 have o:=dO x a b;have main:Rt ((aJ (bA 3 (aB bS (bH sL (aA (aB aO cZ cD) aH)) (dB (aR 1))))
  (aJ (i0 4 (dB aH))
  (aJ (dM (bC (aA (bH aP (aR 0)) aH)) (lA 5)
   (aJ (bA 6 (bH sL (aA (aB aO cZ gJ) aH)))
   (aJ (dS (jS (tV (aB fK gJ dJ)) (tV (aB (lC ag) dJ (aB aO cZ gJ))))
    (bA 6 (aB bS gC (cB 1 [6] (eE d9) (g1 0) (tV (aB (lC ae) cZ cD)) cZ)))
    cH)
   (sX (kK 4 fF (aT (bH eP (aA (bH iN (aR 6)) aH))))))))
  (bY (bH eP (aR 4)))))) (eG 7 [aE x,.int a,.int b])) λd=>d=aE (put x a b):=by
  show bF [.ro (aE x),.ri a,.ri b,.ro (aI (row x a++[a])),.no,.no,.no] (dY (aI (row x a++[a])) (aL (x:=aI (row x a)) (y:=aI [a]) (bP (x:=τ (row x a)) (aL (x:=aE x) (y:=.int a) rfl rfl (gW m.1 m.2)) rfl) rfl (by unfold aI;rw[d7 (by simp;lia),cc])) rfl) ?_;show bF [.ro (aE x),.ri a,.ri b,.ro (aI (row x a++[a])),.ow (.lst []),.no,.no] rfl ?_;show fG (λρ=>∃n l,ρ=[.ro (aE x),.ri a,.ri b,.ro (aI (row x a++[a])),.ow (.lst (((put x a b).take x.length).map τ)),n,l]) ?_ λρ ⟨n,l,e⟩=>?_
  .refine lE x.length (λi ρ=>∃n l,ρ=[.ro (aE x),.ri a,.ri b,.ro (aI (row x a++[a])),.ow (.lst (((put x a b).take i).map τ)),n,l]) (args1 (bP rfl bZ)) ∅ ⟨_,_,rfl⟩ (λi ρ hi ⟨n,l,e⟩=>?_) λρ h=>h;subst e;have ri:=F i ∅ ∅;have j:row (put x a b) (i:Int)=tP b (row x a++[a]) (row x i,i):=by have:=AD (x:=x) (a:=a) (b:=b) (d:=(i:Int)) ∅ ∅;rw[gf] at this;show this
   show⟨[.ro (aE x),.ri a,.ri b,.ro (aI (row x a++[a])),.ow (.lst (((put x a b).take i).map τ)),.ri i,l],rfl,?_⟩;show dU [.ro (aE x),.ri a,.ri b,.ro (aI (row x a++[a])),.ow (.lst (((put x a b).take i).map τ)),.ri i,.ro (aI (row x i))] (dY (aI (row x i)) (bP (x:=τ (row x i)) (aL (x:=aE x) (y:=.int i) rfl rfl (gW ∅ ∅)) rfl) rfl) ?_;show oU (λρ=>∃r:Q0e,(r.length<64/\sortI r=row (put x a b) (i:Int))/\ρ=[.ro (aE x),.ri a,.ri b,.ro (aI (row x a++[a])),.ow (.lst (((put x a b).take i).map τ)),.ri i,.ro (aI r)]) ?_ λρ ⟨r,I,e⟩=>?_
   .refine cR (Zv ((i:Int)=b)||(row x i).contains b) ?_ (λA=>?_) λA=>fH ⟨row x i,⟨by lia,?_⟩,rfl⟩
    .refine kP (b:=Zv ((i:Int)=b)) (eW (aL rfl rfl cN) rfl) (λh=>?_) λh=>by rw[h];rfl
     rw[h,nj];show eW (aL (x:=.int b) (y:=τ (row x i)) rfl (aL (x:=aE x) (y:=.int i) rfl rfl (gW ∅ ∅)) nP) rfl
    .have O:((row x a++[a]).filter λt=>!(row x i).contains t).length<=10:=gi (qx _ _) (by rw[bq];simp;lia);show eT (aI (row x i++(row x a++[a]).filter λt=>!(row x i).contains t)) (aL (x:=aI (row x i)) (y:=aI ((row x a++[a]).filter λt=>!(row x i).contains t)) rfl ?_ ?_) ⟨_,⟨by rw[bq];lia,?_⟩,rfl⟩
     .refine i7 ((row x a++[a]).map D.int) rfl (by rw[a_,bq];simp;lia) ?_;show gE D.int (λt=>!(row x i).contains t) D.int _ λt _=>⟨[aa (.int t),aa (aI (row x i))],rfl,eW (aL rfl rfl HY) rfl,λ_=>rfl⟩
     .unfold aI;rw[d7 (by rw[a_,a_];lia),cc]
     .rw [US ri.1 p,j];unfold tP;rw[Z_ A]
    .rw [j];unfold tP;rw[Zz (by rw[A];decide)];have e:=ZW.jB (x:=x) (b:=(i:Int)) ∅ ∅;show CF (Es _) ((v.up _ _ e).imp λq=>by lia)
   .subst e;show⟨_,CK (d:=τ (row (put x a b) i)) (ds:=((put x a b).take i).map τ) (bP (x:=aI (row (put x a b) i)) (bP (x:=aI r) rfl (by rw[<- I.2];show sorted_ints I.1)) rfl) rfl (by rw[a_,jo];lia),.ri i,.ro (aI r),?_⟩;have X:(put x a b).take (i+1)=(put x a b).take i++[row (put x a b) i]:=by rw[Ee];have:=ZW.jB (x:=put x a b) (b:=(i:Int)) ∅ (by rw[o];lia);rw[gf] at this;rw[this];rfl
    rw[X,cc];rfl
  .subst e;rw[oy (by rw[o];show bh _)];show gS _ rfl rfl
 obtain⟨d,e,rfl⟩:=i5 rfl main;show e
def gX:jV:=cM 1 1
  (bY (aB jW cZ (eI 9)))
def fZ:jV:=cM 3 2
  (aJ (dM (eE cD) (lA 2)
   (dS (iR (tV (bH allM (aA (cB 1 [1] (eE (aB aO cZ dJ)) (g1 0) eO (aB (lC ag) cZ cD)) aH))))
    (bY (eC (.bl ag)))
    cH))
  (bY (eC (.bl ae))))
def p5:jV:=cM 3 2
  (aJ (bA 2 (aB aO cZ cD))
  (bY (oN (aM LL.jZ (aA dJ (aA (bH aP (aR 0)) aH))) (oN (aB (lC ae) cD dJ) (aM LL.fZ (aA cZ (aR 2)))))))
def lH:jV:=cM 1 1
  (aJ (dS (tV (aM LL.gX (aA (bH aP (aR 0)) aH)))
   (bY (eC (.bl ag)))
   cH)
  (bY (bH allM (aA (cB 1 [0] (bC (aA (bH aP (aR 0)) aH)) (g1 0) eO (aM LL.p5 (aA cD (aR 0)))) aH))))
def IP:jV:=cM 3 3
  (aJ (uR (uQ LL.bV (aA (bH aP (aR 0)) (aA cD (aR 2)))) (sX (aT (aM LL.bV (aA (bH aP (aR 0)) (aA cD (aR 2)))))))
  (aJ (dS (iR (tV (aM LL.d8 (aA cZ (aA cD (aR 2))))))
   (pR (aA (eC (.str "two things that are not loose")) aH) "NotLoose")
   cH)
  (uR (uQ LL.gF (aA cZ (aA cD (aR 2)))) (bY (bN (aA (aM LL.gF (aA cZ (aA cD (aR 2)))) (aA (aM LL.gF (aA cZ (aA dJ (aR 1)))) aH)))))))
def iP:jV:=cM 2 2
  (bY (oN (aB fK (bH aP (aR 0)) cD) (aM LL.lH (aR 0))))
def dQ:jV:=cM 3 3
  (bY (oN (aM LL.eD (aA cD (aA (bH aP (aR 0)) aH))) (oN (aM LL.eD (aA dJ (aA (bH aP (aR 0)) aH))) (aM LL.d8 (aA cZ (aA cD (aR 2)))))))
def j4:jV:=cM 4 2
  (aJ (bA 2 (aB aO (aB aO cZ cD) (eI 0)))
  (aJ (bA 3 (aB aO (aB aO cZ cD) (eI 1)))
  (aJ (dS (iR (tV (aM LL.fS (aR 2))))
   (bY (aB oO d9 (bN aH)))
   cH)
  (aJ (dS (jS (tV (aB TR (bH aP (aR 3)) (eI 4))) (iR (tV (aM LL.dQ (aA dJ (aA (aB aO d9 (eI 0)) (aA (aB aO d9 (eI 1)) aH)))))))
   (bY (eC (.bl ag)))
   cH)
  (aJ (dS (iR (fD (tV (fE KI tL (eI 0) (aB aO d9 (eI 2)) cD)) (tV (fE KI tL (eI 0) (aB aO d9 (eI 3)) cD))))
   (bY (eC (.bl ag)))
   cH)
  (bY (aB oO (aM LL.IP (aA dJ (aA (aB aO d9 (eI 0)) (aA (aB aO d9 (eI 1)) aH)))) (bN (aA (aB aO (aB aO cZ (aB aO d9 (eI 2))) (eI 0)) (aA (aB aO (aB aO cZ (aB aO d9 (eI 3))) (eI 0)) aH))))))))))
def jC:jV:=cM 2 2
  (aJ (dS (jS (iR (tV cD)) (tV (aB j7 (aB aO (aB aO cD (fP (eI 1))) (eI 0)) cZ)))
   (bY (eC (.bl ag)))
   cH)
  (bY (bH allM (aA (cB 2 [1,0] (sM (aR 1)) (g2 0 1) eO (oN (aM LL.iP (aA (aB aO cD (eI 0)) (aA (bH aP (aR 3)) aH))) (aM LL.j4 (aA dJ (aR 0))))) aH))))
def iI:jV:=cM 4 1
  (aJ (i0 1 (dB aH))
  (aJ (dM (bC (aA (bH aP (aR 0)) aH)) (lA 2)
   (dM (bC (aA (aB bS dJ (eI 1)) (aA (bH aP (aR 0)) aH))) (lA 3)
    (dS (fD (tV (aB (lC ae) dJ (aB aO cZ d9))) (tV (aB (lC ae) d9 (aB aO cZ dJ))))
     (sX (kK 1 fF (aT (bN (aA dJ (aR 3))))))
     cH)))
  (bY cD)))
def gG:jV:=cM 12 2
  (aJ (i0 2 (dB aH))
  (aJ (HU 3)
  (aJ (i0 4 (dB (aR 0)))
  (aJ (N6 3000000 (tV (aB jW (bH aP (aR 4)) (eI 0)))
   (aJ (uO 5 (fB (aB aO fR (fP (eI 1)))))
   (aJ (bA 6 (aM LL.iI (aR 5)))
   (dS (tV (aB (zX ag) gJ d9))
    (sX (B8 4))
    (dS (tV (aB fK (bH aP (aR 6)) (eI 0)))
     (aJ (l3 3 (fB (bH aP (aR 2))) gJ)
     (sX (kK 2 fF (aT (bN (aA gJ (aA (bN aH) aH)))))))
     (aJ (bA 7 (aB aO cD (aB bU (bH B5 (aA (cB 1 [] (eE gJ) (g1 0) eO (bH aP (aR 0))) aH)) (bH aP (aR 1)))))
     (aJ (oP (aT (aB aO gC (aB bU nN (bH aP (aR 6))))) (BZ 8 9))
     (aJ (dS (tV (aB fK (aB bU (aB jJ nN (eI 7)) (eI 2)) (eI 1)))
      (KL 8 9 (aA BY (aR 8)))
      cH)
     (aJ (bA 10 (dB (aA (aM LL.gU (aA gJ (aA qX (aR 9)))) (aA (aM LL.gU (aA gJ (aA BY (aR 8)))) aH))))
     (aJ (kL 11 (cB 1 [3] (eE l7) (g1 0) (tV (aB (zX ae) cZ cD)) cZ))
     (dS (tV (aB jW (bH aP (aR 11)) (eI 0)))
      (sX (kK 4 fF (aT (aB aO TQ (aB bU (aB jJ nN (eI 16)) (bH aP (aR 11)))))))
      (aJ (l3 3 (fB (bH aP (aR 2))) gJ)
      (sX (kK 2 fF (fB (bN (aA gJ (aA (bN (aA qX (aA BY (aA (aB oQ d9 (aB aO l7 (eI 0))) (aA (aB oQ d9 (aB aO l7 (eI 1))) aH))))) aH))))))))))))))))))
  (bY dJ)))))
def kX:jV:=cM 8 3
  (aJ (bA 3 (aM LL.dI (aA (aM LL.eJ (aA cZ (aR 1))) (aA (eI 3) (aR 2)))))
  (aJ (bA 4 (aB aO (dB (aA (eI 5) (aA (eI 4) (aA (eI 3) (aA (eI 5) (aA (eI 4) (aA (eI 2) (aA (eI 1) (aA (eI 0) aH))))))))) (aB bU (aB aO d9 (eI 0)) (eI 8))))
  (aJ (bA 5 (aB aO (dB (aA (eI 1) (aA (eI 1) (aA (eI 2) (aA (eI 2) (aA (eI 3) (aA (eI 1) (aA (eI 0) (aA (eI 2) aH))))))))) (aB bU (aB aO d9 (eI 1)) (eI 8))))
  (aJ (dS (tV (aB fK (aB bU (aB aO d9 (eI 2)) (eI 8)) (eI 3)))
   (aJ (bA 4 (aB bS (eI 6) (aB bU (aB aO d9 (eI 0)) (eI 4))))
   (bA 5 (eI 3)))
   cH)
  (aJ (bA 6 (aM LL.dI (aA (aM LL.eJ (aA cZ (aA (aB bS cD (eI 1)) aH))) (aA (aB bS fR (aB jJ (aB mulM fR (aB fJ fR (eI 1))) (eI 2))) (aA (aB bS dJ (eI 10007)) aH)))))
  (aJ (bA 7 (aM LL.fA (aA gC (aA fR (aR 5)))))
  (aJ (dS (fD (tV (aB jW fR (eI 5))) (tV (aB jW (aM LL.jM (aR 7)) (eI 60))))
   (bA 7 (aM LL.fA (aA gC (aA fR (aA (eI 4) aH)))))
   cH)
  (bY nN))))))))
def jG:jV:=cM 5 2
  (aJ (i0 2 (dB aH))
  (aJ (dM (eE cZ) (BZ 3 4)
   (aJ (dS (tV (aB jW (bH aP (aR 4)) (eI 0)))
    (bA 4 (bN (aA (aB aO fR (eI 0)) (aA (aB aO fR (eI 1)) (aA (aB bS (aB aO fR (eI 2)) cD) (aA (aB bS (aB aO fR (eI 3)) cD) aH))))))
    cH)
   (sX (kK 2 fF (aT (bN (aA d9 (aR 4))))))))
  (bY dJ)))
def c7:jV:=cM 2 2
  (bY (bH HW (aA (cB 1 [0,1] (bC (aA (aB fJ (bH aP (aR 0)) (eI 1)) aH)) (g1 0) (tV (aB oO (aB aO (aB aO cD cZ) (eI 0)) (aB aO (aB aO cD dJ) (eI 0)))) cZ) aH)))
def lI:jV:=cM 9 1
  (aJ (bA 1 (aM LL.kX (aA cZ (aA (eI 0) (aA (eI 100003) aH)))))
  (aJ (bA 2 (aM LL.dI (aA (aM LL.eJ (aA cZ (aA (eI 2) aH))) (aA (eI 45) (aA (eI 200017) aH)))))
  (aJ (bA 3 (aM LL.dI (aA (aM LL.eJ (aA cZ (aA (eI 3) aH))) (aA (eI 7) (aA (eI 300007) aH)))))
  (aJ (bA 4 (aM LL.gG (aA cD (aR 2))))
  (aJ (dS (tV (aB fK (aB bU (aB aO d9 (eI 0)) (eI 3)) (eI 1)))
   (aJ (bA 5 (aM LL.fA (aA (aB bS (t7 d9 (oE (eI 1)) (oE (eI 5))) dJ) (aA (bH aP (aR 1)) (aA (eI 3) aH)))))
   (dS (tV (aB KI (aB bS (aB mulM (eI 2) (aM LL.jM (aR 5))) (bH aP (aR 4))) (eI 280)))
    (aJ (bA 6 (aM LL.gG (aA gJ (aR 2))))
    (bA 4 (aB bS gC (aM LL.jG (aA fR (aA (bH aP (aR 6)) aH))))))
    cH))
   cH)
  (aJ (i0 7 (cB 1 [4,3] (bC (aA (aB bU (aB aO d9 (eI 3)) (eI 4)) aH)) (g1 0) eO (aB aO cD (aB bU (aB bS (aB aO dJ (eI 1)) (aB mulM cZ (aB aO dJ (eI 2)))) (bH aP (aR 1))))))
  (aJ (bA 8 (aB aO (aB aO fR (fP (eI 1))) (eI 1)))
  (aJ (dS (fD (tV (aB jW (bH aP (aR 8)) (eI 0))) (tV (aB fK (aB bU (aB aO d9 (eI 5)) (eI 2)) (eI 1))))
   (sX (kK 7 fF (aT (aB aO fR (aB aO qX (aB bS (eI 2) (aB bU (aB aO d9 (eI 6)) (eI 2))))))))
   cH)
  (aJ (kL 4 (aB B6 (aB bS (t7 fR xB (oE (fP (eI 1)))) nN) (t7 fR (oE (fP (eI 1))) xB)))
  (aJ (dS (fD (tV (aB jW (bH aP (aR 8)) (eI 0))) (tV (aB fK (aB bU (aB jJ (aB aO d9 (eI 5)) (eI 2)) (eI 2)) (eI 1))))
   (bA 8 (bN (aA (aB aO qX (eI 0)) (aA (aB aO qX (eI 1)) (aA (aM LL.c7 (aA fR (aA (aB aO qX (eI 2)) aH))) (aA (aM LL.c7 (aA fR (aA (aB aO qX (eI 3)) aH))) aH))))))
   cH)
  (bY (bN (aA cD (aA (aB bS (t7 fR xB (oE (fP (eI 1)))) (dB (aA (bN (aA (aB aO (aB aO fR (fP (eI 1))) (eI 0)) (aR 8))) aH))) aH))))))))))))))
def O9(h:p∈loose x):(0<=p.1/\p.1<(x.length:Int))/\(0<=p.2/\p.2<(x.length:Int))/\eL x p.1 p.2=ae:=by unfold loose at h;obtain⟨a,l,d⟩:=yj.1 h;unfold cP at d;obtain⟨b,j,rfl⟩:=fq.1 d;have n:=bD.1 l;have h2:=gc.1 j;have m:=bD.1 h2.1;show⟨by dsimp only;lia,by dsimp only;lia,h2.2⟩
theorem rN(x:Q0a):∀k,k<=x.length->((aS 0 k).flatMap (cP x)).length<=k*x.length
 |0,_=>by simp[aS]
 |k+1,h=>by have d:=rN x k ∅;have h2:=mI x (a:=0+(k:Int)) ∅;rw[iF,yq,bq,Nat.succ_mul];simp only[yp,a2k,jk];lia
def vB(J:x.length<=9):iI [aE x]=.ok (.lst ((loose x).map pairD)):=by
 unfold iI;have main:Rt ((aJ (i0 1 (dB aH))
  (aJ (dM (bC (aA (bH aP (aR 0)) aH)) (lA 2)
   (dM (bC (aA (aB bS dJ (eI 1)) (aA (bH aP (aR 0)) aH))) (lA 3)
    (dS (fD (tV (aB (lC ae) dJ (aB aO cZ d9))) (tV (aB (lC ae) d9 (aB aO cZ dJ))))
     (sX (kK 1 fF (aT (bN (aA dJ (aR 3))))))
     cH)))
  (bY cD))) (eG 4 [aE x])) λd=>d=.lst ((loose x).map pairD):=by
  show bF [.ro (aE x),.ow (.lst []),.no,.no] rfl ?_;show fG (λρ=>∃n l,ρ=[.ro (aE x),.ow (.lst ((loose x).map pairD)),n,l]) ?_ λρ ⟨n,l,e⟩=>by subst e;show gS _ rfl rfl
  show lE x.length (λi ρ=>∃n l,ρ=[.ro (aE x),.ow (.lst (((aS 0 i).flatMap (cP x)).map pairD)),n,l]) (args1 (bP rfl bZ)) ∅ ⟨_,_,rfl⟩ (λi ρ hi ⟨n,l,e⟩=>?_) λρ h=>h;subst e;show⟨[.ro (aE x),.ow (.lst (((aS 0 i).flatMap (cP x)).map pairD)),.ri i,l],rfl,?_⟩;have p:=rN x i ∅;have K:i*x.length<=9*9:=ye ∅ J;generalize O:(aS 0 i).flatMap (cP x)=A at p;have m:(aS 0 (i+1)).flatMap (cP x)=A++cP x i:=by rw[iF,yq,O,ko];simp
  rw[m];have F:((x.length:Int)-((i:Int)+1)).toNat=x.length-(i+1):=by lia
  let R:Nat->List (Int×Int):=λj=>((aS ((i:Int)+1) j).filter λb=>eL x i b).map λb=>((i:Int),b)
  show uY ((aS ((i:Int)+1) (x.length-(i+1))).map D.int) (λj ρ=>∃l,ρ=[.ro (aE x),.ow (.lst ((A++R j).map pairD)),.ri i,l]) ?_ ⟨l,by simp[R,aS]⟩ (λj d ρ q ⟨l,e⟩=>?_) λρ ⟨l,e⟩=>⟨.ro (.int i),l,?_⟩
  .have:=X3 (a:=aB bS dJ (eI 1)) (b:=bH aP (aR 0)) (ρ:=gO [.ro (aE x),.ow (.lst (A.map pairD)),.ri i,l]) (i:=(i:Int)+1) (j:=(x.length:Int)) rfl (bP rfl bZ) ∅ ∅;rw[this,F]
  .subst e;have L:j<x.length-(i+1):=by have:=(cg.1 q).1;simpa[aN] using this
   rw[dg,kM L] at q;cases q;obtain⟨b,I⟩:∃b:Int,(i:Int)+1+(j:Int)=b:=⟨_,rfl⟩;rw[I];have o:eL x i b=(!(row x b).contains (i:Int) && !(row x i).contains b):=by unfold eL;rw[Zy ∅];skip;rfl
   have z:R (j+1)=R j++(if eL x i b=ae then[((i:Int),b)] else[]):=by
    show((aS ((i:Int)+1) (j+1)).filter λb=>eL x i b).map _=_;rw[iF,I,List.filter_append,cc];congr 1;by_cases h:eL x i b=ae
    .rw [Z_ h,a2n h];rfl
    .rw [Zz h,a2o h];rfl
   have U:(R j).length<=9:=by show(((aS ((i:Int)+1) j).filter _).map _).length<=9;rw[a_];show gi (qx _ _) ?_;rw[aN];lia
   show⟨[.ro (aE x),.ow (.lst ((A++R j).map pairD)),.ri i,.ri b],rfl,?_⟩;show cR (eL x i b) ?_ (λv=>?_) λv=>fH ⟨.ro (.int b),?_⟩
   .rw [o];show oD (b:=!(row x b).contains (i:Int)) (eW (aL (x:=.int i) (y:=τ (row x b)) rfl (aL (x:=aE x) (y:=.int b) rfl rfl (gW ∅ ∅)) nP) rfl) (λh=>?_) λh=>by rw[h];rfl
    rw[h,de];show eW (aL (x:=.int b) (y:=τ (row x i)) rfl (aL (x:=aE x) (y:=.int i) rfl rfl (gW ∅ ∅)) nP) rfl
   .refine ⟨_,CK (d:=pairD ((i:Int),b)) (ds:=(A++R j).map pairD) rfl rfl (by rw[a_,bq];lia),.ri b,?_⟩;rw[z,Z_ v,<- lr,cc (l₁:=A++R j)];rfl
   .rw [z,Zz (by rw[v];decide),jk]
  .rw [e,a_,aN];show[Sv.ro (aE x),Sv.ow (.lst ((A++R (x.length-(i+1))).map pairD)),Sv.ro (.int i),l]=_;unfold cP;rw[F]
 obtain⟨d,e,rfl⟩:=i5 rfl main;show e
def Z9(l:Ord.Rows x)(m:x.length<=9)(j:thing x.length a=ae)(d:thing x.length b=ae)(h:eL x a b=ae)(n:l4 x a b=ag/\l4 x b a=ag):IP [aE x,.int a,.int b]=.ok (.tup [aE (put x a b),aE (put x b a)]):=by unfold IP;have p:=OQ ∅ (vA l m) j d n.1;have e2:=OQ ∅ (vA l m) d j n.2;show iU rfl (cL _ (Bn rfl j d) (cL _ (rE (TH (b:=ae) (eW (dC rfl rfl rfl (lF (dA.mp j) (dA.mp d))) (by rw[h];rfl)) rfl) rfl) ?_));unfold uR;rw[rc3 (o:=af) rfl rfl rfl (by rw[p];rfl)];show d6 ?_;unfold bN;rw[args2 (dC rfl rfl rfl p) (dC rfl rfl rfl e2)];rfl
def gH(h:eL x a b=ae):eL x b a=ae/\(a≠b)/\l4 x a b=ag/\l4 x b a=ag:=by unfold eL at h ⊢;unfold l4;simp only[cm,jg,decide_eq_false_iff_not] at h ⊢;obtain⟨d,h2,j⟩:=h;rw[h2,j];simp only[Bool.or_false,decide_eq_false_iff_not];show⟨⟨d_ d,trivial,trivial⟩,d,d,d_ d⟩
abbrev PR:=List (List Int)×List Int
def aG(r:PR):D:=.tup [aE r.1,τ r.2]
def kO(x:Q0a):KN:=.inr (x.map λr=>iy (r.map cn))
theorem IQ:∀x:Q0a,rD (x.map τ)=aa (x.map λr=>iy (r.map cn))
 |[]=>rfl
 |r::x=>by have a:=IQ x;show((x5 (r.map D.int)).map iy).bind (λk=>(rD (x.map τ)).map (k :: ·))=_;rw[yF,a];rfl
def PB(x:Q0a):n8 (aE x)=aa (kO x):=by show(rD (x.map τ)).map iy=_;rw[IQ];rfl
theorem map_inj{d n:Type}{f:d->n}(j:∀a b,f a=f b->a=b):∀{l m:List d},l.map f=m.map f->l=m
 |[],[],_=>rfl
 |[],_::_,h=>by simp at h
 |_::_,[],h=>by simp at h
 |a::l,b::m,h=>by rw[bp,bp,pb] at h;rw[j a b h.1,map_inj j h.2]
def PF{x y:Q0a}(h:kO x=kO y):x=y:=by show map_inj (λa b e=>?_) (si h);show IC (si e)
theorem PH:∀x:Q0a,jT (x.map τ)=ae
 |[]=>rfl
 |r::x=>by rw[bp,jT,PH x,τ,D.qW,kQ];rfl
def vC(x:Q0a):(aE x).qW=ae:=PH x
theorem PJ:∀W:List (List (List Int)),jT (W.map aE)=ae
 |[]=>rfl
 |x::W=>by rw[bp,jT,PJ W,vC];rfl
def CU(r:PR):(aG r).qW=ae:=by show(jT [aE r.1,τ r.2])=ae;simp only[jT,vC,τ,D.qW,kQ];rfl
def lB(R:List PR):KD:=(R.map λr=>kO r.1,(aS 0 R.length).map D.int)
def FO(R:List PR)(y:Q0a):Option Nat:=R.findIdx? λr=>Zv (r.1=y)
theorem IS(y:Q0a):∀(R:List PR) (lo:Int),eX (R.map λr=>kO r.1) ((aS lo R.length).map D.int) (kO y)=(R.findIdx? λr=>Zv (r.1=y)).map λi:Nat=>D.int (lo+(i:Int))
 |[],lo=>rfl
 |r::R,lo=>by
  have a:=IS y R (lo+1);have e:aS lo (r::R).length=lo::aS (lo+1) R.length:=by
   unfold aS;rw[cf,yh,bp,gd];congr 1
   .simp
   .refine jf λk _=>?_;show lo+((k+1:Nat):Int)=lo+1+(k:Int);lia
  rw[e,bp,bp];unfold eX at a ⊢;rw[yg,gx,List.findIdx?_cons];by_cases h:r.1=y
  .rw [show Zv ((kO r.1,D.int lo).1=kO y)=ae from Zx (by show kO r.1=kO y;rw[h]),Zx h];show aa (D.int lo)=aa (D.int (lo+((0:Nat):Int)));congr 2;lia
  .rw [show Zv ((kO r.1,D.int lo).1=kO y)=ag from Zy λq=>h (PF q),Zy h];dsimp only;rw[a]
   cases R.findIdx? λr=>Zv (r.1=y) with
   |none=>rfl
   |some i =>
    show aa (D.int (lo+1+(i:Int)))=aa (D.int (lo+((i+1:Nat):Int)));congr 2;lia
def PK(R:List PR)(y:Q0a):eX (lB R).1 (lB R).2 (kO y)=(FO R y).map λi:Nat=>D.int (i:Int):=by
 have:=IS y R 0;unfold lB FO;rw[this];congr 1
 funext i
 rw[ko]
def FP(R:List PR)(y:Q0a):kindB (lB R).1 (kO y)=ae:=by unfold kindB lB;rw[ib];intro q a;obtain⟨r,_,rfl⟩:=fq.1 a;rfl
def dE(R:List PR)(y:Q0a):Bool:=R.any λr=>Zv (r.1=y)
def fT:dE R y=ae ↔ ∃r∈R,r.1=y:=by unfold dE;rw[rf];show⟨λ⟨r,h,e⟩=>⟨r,h,by simpa using e⟩,λ⟨r,h,e⟩=>⟨r,h,by simpa using e⟩⟩
def mM:(FO R y).isSome=dE R y:=by unfold FO dE;rw[List.findIdx?_isSome]
def AL(h:FO R y=aa i):∃r,R[i]?=aa r/\r.1=y:=by unfold FO at h;obtain⟨hi,a,_⟩:=a2l.1 h;show⟨R[i],bo hi,by simpa using a⟩
def PM(h:FO R y=aa i):i<R.length:=by obtain⟨r,a,_⟩:=AL h;show(cg.1 a).1
def IT(h:FO R y=aa i):FO (R++S) y=aa i:=by unfold FO at h ⊢;rw[List.findIdx?_append,h];rfl
def Ve(w:Q0e)(h:dE R y=ag):iS (lB R).1 (lB R).2 (kO y) (.int R.length)=lB (R++[(y,w)]):=by
 unfold iS;rw[Zz]
 .unfold lB;rw[cc,bq,cf,cy,Dy,iF,cc];show(_,_++[D.int R.length])=(_,_++[D.int (0+(R.length:Int))]);rw[ko];rfl
 .intro q;rw[rf] at q;obtain⟨k,d,e⟩:=q;obtain⟨r,a,rfl⟩:=fq.1 (show k∈R.map λr=>kO r.1 from d);have:dE R y=ae:=fT.2 ⟨r,a,PF (by simpa using e)⟩;rw[this] at h;cases h
structure oF (n:Nat) (R:List PR) (i:Nat) (r:PR):Prop where
 rows:Ord.Rows r.1
 len:r.1.length=n
 why:(loose r.1=[]/\r.2=[]) \/∃(a b:Int) (p q:Nat) (u v:PR),loose r.1≠[]/\r.2=[a,b,(p:Int),(q:Int)]/\(0<=a/\a<(n:Int))/\(0<=b/\b<(n:Int))/\eL r.1 a b=ae/\p<i/\q<i/\R[p]?=aa u/\u.1=put r.1 a b/\R[q]?=aa v/\v.1=put r.1 b a
def GoodR(n:Nat)(R:List PR):Prop:=∀(i:Nat) (r:PR),R[i]?=aa r->oF n R i r
def uC{R S:List PR}{i:Nat}{r:PR}(h:R[i]?=aa r):(R++S)[i]?=aa r:=by rw[iu (cg.1 h).1];show h
def oF.app{n:Nat}{R S:List PR}{i j:Nat}{r:PR}(h:oF n R i r)(l:i<=j):oF n (R++S) j r:=by
 show⟨h.rows,h.len,?_⟩;rcases h.why with z|⟨a,b,p,q,u,v,I,F,h2,A,y,K,J,x,o,m,d⟩
 .exact .inl z
 .exact .inr ⟨a,b,p,q,u,v,I,F,h2,A,y,by lia,by lia,uC x,o,uC m,d⟩
def GoodR.snoc(g:GoodR n R)(h:oF n R R.length r):GoodR n (R++[r]):=λi s a=>by
 by_cases hi:i<R.length
 .rw [iu hi] at a;show(g i s a).app (bh _)
 .have:=(cg.1 a).1;rw[bq,cf,cy] at this;have e:i=R.length:=by lia
  subst e;rw[ir (bh _),ou] at a;cases a;show h.app (bh _)
def gl(x:Q0a):Nat:=(gls x x.length).length
def vD(a:Ord.Rows x):1<=gl x:=by have d:=oW a;have h2:=IK (x:=x);unfold gl;lia
theorem Yx(l:a≠b)(j:0<=a/\a<(x.length:Int))(d:0<=b/\b<(x.length:Int)):gl x=gl (put x a b)+gl (put x b a):=by
 have m:(gls x x.length).Perm (gls (put x a b) x.length++gls (put x b a) x.length):=by
  show(a16 (AI _) ?_).2 λw=>?_
  .rw [jn];show⟨AI _,AI _,λw n o h2 e=>?_⟩;subst e;have o1:=uB d n;have o2:=uB j h2;show UO (pZ (jF o1.1).2).1 o1.2 o2.2
  .rw [di];show⟨λh=>?_,λh=>?_⟩
   .rcases Z5 l j d h with z|z
    .exact .inl (O0 j d h z)
    .exact .inr (O0 d j h z)
   .rcases h with z|z
    .exact (uB d z).1
    .exact (uB j z).1
 unfold gl;rw[m.length_eq,bq,dO,dO]
noncomputable def wq:Nat->Nat->Nat
 |_,0=>1
 |n,i+1=>wq n i*(n-i)
theorem IU:∀i:Nat,(gls x i).length<=wq x.length i
 |0=>bh 1
 |i+1=>by
  have d:=IU (x:=x) i;have go:∀L:Q0a,(∀w∈L,w∈gls x i)->(L.flatMap λw=>(bO x w).map λt=>w++[t]).length<=L.length*(x.length-i):=by
   intro L
   induction L with
   |nil=>intro _;simp
   |cons w L ihL =>
    intro h;have hw:=jF (h w cq);have nd:=pZ hw.2;have m:=K1 (x:=x) (a:=w) ⟨nd.1,nd.2⟩;have:=ihL λu j=>h u (fg _ j);rw[yp,bq,a_,cf,Ed];lia
  have l:=go (gls x i) λw h=>h;show gi l (a1S _ d)
def IV(a:x.length<=9):gl x<=362880:=by
 have d:=IU (x:=x) x.length;have h2:∀n:Nat,n<=9->wq n n<=362880:=by
  intro n a;have:n=0\/n=1\/n=2\/n=3\/n=4\/n=5\/n=6\/n=7\/n=8\/n=9:=by lia
  rcases this with z|z|z|z|z|z|z|z|z|z<;>subst z<;>decide
 show gi d (h2 _ a)
def eU(dr:Q0e)(y:Q0a):Int:=η dr ((y.map λr=>(r.length:Int)).sum%(dr.length:Int))
def cC(dr:Q0e)(y:Q0a):Int×Int :=
 let p:=((loose y)[(eU dr y%((loose y).length:Int)).toNat]?).getD (0,0)
 if eU dr y/7%2=1 then(p.2,p.1) else p
def X7(h:loose y≠[]):(0<=(cC dr y).1/\(cC dr y).1<(y.length:Int))/\(0<=(cC dr y).2/\(cC dr y).2<(y.length:Int))/\eL y (cC dr y).1 (cC dr y).2=ae:=by
 have l:0<(loose y).length:=lh.2 h;have n:=gn (eU dr y) (show((loose y).length:Int)≠0 by lia);have m:=gz (eU dr y) (show(0:Int)<((loose y).length:Int) by lia);have j:((loose y)[(eU dr y%((loose y).length:Int)).toNat]?).getD (0,0)∈loose y:=by rw[bo ∅];show jz _
 obtain⟨d,a,i3⟩:=O9 j;unfold cC;dsimp only;split
 .exact ⟨a,d,(gH i3).1⟩
 .exact ⟨d,a,i3⟩
def uD:aO (.lst (ds++[d])) (.int (-1))=aa d:=by show qY (ds++[d]) (-1)=_;unfold qY E3;rw[Zz (by decide),Z_ (by rw[bq,cf,cy];lia)];show(ds++[d])[(-1+((ds++[d]).length:Int)).toNat]?=_;rw[show(-1+((ds++[d]).length:Int)).toNat=ds.length by rw[bq,cf,cy];lia,ir (bh _),ou];rfl
def Vd(d:D)(h:f (bB ρ)=aa d)(hi:d.qW=ae)(a:ρ.set i (.ro d)=ρ'):uO i (fB f) ρ=.nx ρ':=by unfold uO fB;rw[h,cz,Z_ hi];show Out.nx (ρ.set i (.ro d))=_;rw[a]
def X8(ds:List D)(h:f (bB ρ)=aa (.lst ds))(hi:jT ds=ae)(a:ρ.set i (.ro (.lst ds))=ρ'):kL i f ρ=.nx ρ':=by unfold kL;rw[h];show(if jT ds=ae then _ else _)=_;rw[Z_ hi,a]
def Oy(h:f (bB ρ)=aa d)(hi:d.qW=ae)(h2:ρ[i]?=aa (.ow (.lst ds)))(a:ds.length<16777216):sX (kK i fF (fB f)) ρ=.nx (ρ.set i (.ow (.lst (ds++[d])))):=by unfold sX kK fB;rw[h2];simp only[kJ,cz];rw[h];simp only[cz,hi,if_true];rw[h2];simp only[kJ,cz];rw[nO a];rfl
def Ox(h2:ρ[i]?=aa (.ow (.lst (ds++[d])))):sX (B8 i) ρ=.nx (ρ.set i (.ow (.lst ds))):=by unfold sX B8;rw[h2];simp only[kJ,cz];rw[show(ds++[d]).length-1=ds.length by rw[bq,cf,cy];lia,ir (bh _),ou];show Out.nx (ρ.set i (.ow (.lst (ds++[d]).dropLast)))=_;rw[List.dropLast_concat]
def X9(w:Q0e)(h:dE R y=ag)(d:f (bB ρ)=aa (.int R.length))(h2:ρ[i]?=aa (.ow (.dG q (lB R).1 (lB R).2)))(a:k (bB ρ)=aa (aE y))(j:R.length<16000000):l3 i (fB f) k ρ=.nx (ρ.set i (.ow (.dG (adr q) (lB (R++[(y,w)])).1 (lB (R++[(y,w)])).2))):=by unfold l3 fB;rw[d];simp only[cz,D.qW,if_true];rw[h2];simp only[KO,cz];rw[a];simp only[cz];rw[PB];simp only[cz];rw[Z_ ⟨FP R y,by unfold lB tK;rw[a_,aN];lia⟩,Ve w h]
def Bk(neg:Bool):zX neg (aE y) (.dG q (lB R).1 (lB R).2)=aa (.bl (if neg then !dE R y else dE R y)):=by show((n8 (aE y)).bind λk=>if kindB (lB R).1 k=ae then aa (D.bl (if neg then !(eX (lB R).1 (lB R).2 k).isSome else(eX (lB R).1 (lB R).2 k).isSome)) else af)=_;rw[PB];simp only[cz];rw[Z_ (FP R y),PK,uh,mM]
def Bj(h:FO R y=aa i):oQ (.dG q (lB R).1 (lB R).2) (aE y)=aa (.int (i:Int)):=by show((n8 (aE y)).bind λk=>if kindB (lB R).1 k=ae then eX (lB R).1 (lB R).2 k else af)=_;rw[PB];simp only[cz];rw[Z_ (FP R y),PK,h];rfl
theorem Ow(h:t (gO ρ)=aa [x,y]):KL i j t ρ=.nx ((ρ.set i (.ro x)).set j (.ro y)):=by unfold KL;rw[h]
abbrev mO:L4.SF:=(aJ (uO 5 (fB (aB aO fR (fP (eI 1)))))
   (aJ (bA 6 (aM LL.iI (aR 5)))
   (dS (tV (aB (zX ag) gJ d9))
    (sX (B8 4))
    (dS (tV (aB fK (bH aP (aR 6)) (eI 0)))
     (aJ (l3 3 (fB (bH aP (aR 2))) gJ)
     (sX (kK 2 fF (aT (bN (aA gJ (aA (bN aH) aH)))))))
     (aJ (bA 7 (aB aO cD (aB bU (bH B5 (aA (cB 1 [] (eE gJ) (g1 0) eO (bH aP (aR 0))) aH)) (bH aP (aR 1)))))
     (aJ (oP (aT (aB aO gC (aB bU nN (bH aP (aR 6))))) (BZ 8 9))
     (aJ (dS (tV (aB fK (aB bU (aB jJ nN (eI 7)) (eI 2)) (eI 1)))
      (KL 8 9 (aA BY (aR 8)))
      cH)
     (aJ (bA 10 (dB (aA (aM LL.gU (aA gJ (aA qX (aR 9)))) (aA (aM LL.gU (aA gJ (aA BY (aR 8)))) aH))))
     (aJ (kL 11 (cB 1 [3] (eE l7) (g1 0) (tV (aB (zX ae) cZ cD)) cZ))
     (dS (tV (aB jW (bH aP (aR 11)) (eI 0)))
      (sX (kK 4 fF (aT (aB aO TQ (aB bU (aB jJ nN (eI 16)) (bH aP (aR 11)))))))
      (aJ (l3 3 (fB (bH aP (aR 2))) gJ)
      (sX (kK 2 fF (fB (bN (aA gJ (aA (bN (aA qX (aA BY (aA (aB oQ d9 (aB aO l7 (eI 0))) (aA (aB oQ d9 (aB aO l7 (eI 1))) aH))))) aH)))))))))))))))))
abbrev SP(x0:D)(dr:Q0e)(q:Nat->az->Prop)(R:List PR)(W:List (List (List Int)))(l j h d a v10 v11:Sv):bK:=[.ro x0,.ro (aI dr),.ow (.lst (R.map aG)),.ow (.dG q (lB R).1 (lB R).2),.ow (.lst (W.map aE)),l,j,h,d,a,v10,v11]
def rO(x0:D)(dr:Q0e)(R:List PR)(W:List (List (List Int)))(ρ:bK):Prop:=∃q l j h d a v10 v11,ρ=SP x0 dr q R W l j h d a v10 v11
inductive lJ (dr:Q0e) (R:List PR) (W:List (List (List Int))) (y:Q0a):List PR->List (List (List Int))->Prop
 |pop:dE R y=ae->lJ dr R W y R W
 |bare:dE R y=ag->loose y=[]->lJ dr R W y (R++[(y,[])]) (W++[y])
 |push (p:Q0a):dE R y=ag->loose y≠[]->(p=put y (cC dr y).1 (cC dr y).2\/p=put y (cC dr y).2 (cC dr y).1)->dE R p=ag->lJ dr R W y R (W++[y]++[p])
 |done (i j:Nat):dE R y=ag->loose y≠[]->FO R (put y (cC dr y).1 (cC dr y).2)=aa i->FO R (put y (cC dr y).2 (cC dr y).1)=aa j->lJ dr R W y (R++[(y,[(cC dr y).1,(cC dr y).2,(i:Int),(j:Int)])]) (W++[y])
theorem FQ(hy:Ord.Rows y)(X:y.length<=9)(hd:0<dr.length)(hR:R.length<15000000)(hW:W.length<15000000)(h:rO x0 dr R (W++[y]) ρ):
  Nx (mO ρ) λρ'=>∃R' W',lJ dr R W y R' W'/\rO x0 dr R' W' ρ':=by
 obtain⟨q,v5,v6,Z,U,O,v10,v11,rfl⟩:=h;have hll:(loose y).length<=81:=by have:=rN y y.length (bh _);have e:(aS 0 y.length).flatMap (cP y)=loose y:=rfl;rw[e] at this;show gi this (gi (ye X X) (by decide))
 show dU (SP x0 dr q R (W++[y]) (.ro (aE y)) v6 Z U O v10 v11) (Vd (aE y) (aL (x:=.lst ((W++[y]).map aE)) (y:=.int (-1)) rfl rfl (by rw[cc];show uD)) (vC y) rfl) ?_;show dU (SP x0 dr q R (W++[y]) (.ro (aE y)) (.ro (.lst ((loose y).map pairD))) Z U O v10 v11) (dY _ (jL rfl (vB X)) rfl) ?_;show cR (dE R y) (eW (d:=.bl (dE R y)) (aL (x:=aE y) (y:=.dG q (lB R).1 (lB R).2) rfl rfl (Bk ag)) rfl) (λo=>?_) λo=>?_
 .refine ⟨_,Ox (ds:=W.map aE) (d:=aE y) (by show aa (Sv.ow (.lst ((W++[y]).map aE)))=_;rw[cc];rfl),R,W,.pop o,q,_,_,_,_,_,_,_,rfl⟩
 show cR (Zv (((loose y).length:Int)=0)) (eW (aL (x:=.int (loose y).length) (y:=.int 0) (bP (x:=.lst ((loose y).map pairD)) rfl (by show aa (D.int ((loose y).map pairD).length)=_;rw[a_])) rfl cN) rfl) (λl=>?_) λl=>?_
 .have l:=of_decide_eq_true l;have I:loose y=[]:=my.1 ∅;show dU (SP x0 dr q R (W++[y]) (.ro (aE y)) (.ro (.lst ((loose y).map pairD))) Z U O v10 v11 |>.set 3 (.ow (.dG (adr q) (lB (R++[(y,[])])).1 (lB (R++[(y,[])])).2))) (X9 [] o (bP (x:=.lst (R.map aG)) rfl (by show aa (D.int (R.map aG).length)=_;rw[a_])) rfl rfl ∅) ?_;show⟨_,CK (d:=aG (y,[])) (ds:=R.map aG) ?_ rfl (by rw[a_];lia),R++[(y,[])],W++[y],.bare o I,adr q,.ro (aE y),.ro (.lst ((loose y).map pairD)),Z,U,O,v10,v11,?_⟩
  .exact rJ rfl rfl
  .rw [SP,SP,cc (f:=aG)];rfl
 .have l:=of_decide_eq_false l;have I:loose y≠[]:=λe=>l (by rw[e];rfl);obtain⟨F,A,v⟩:=X7 (dr:=dr) I;obtain⟨s1,s2,s3,s4⟩:=gH v;generalize L:(cC dr y).1=a at F v s1 s2 s3 s4;generalize K:(cC dr y).2=b at A v s1 s2 s3 s4;have Vc:0<=(y.map λr:List Int=>(r.length:Int)).sum%(dr.length:Int):=gn _ ∅;have Vb:(y.map λr:List Int=>(r.length:Int)).sum%(dr.length:Int)<dr.length:=gz _ ∅;have hlen:aP [aI dr]=aa (.int dr.length):=by show aa (D.int ((dr.map D.int).length:Nat))=_;rw[a_]
  have hlp:aP [.lst ((loose y).map pairD)]=aa (.int (loose y).length):=by show aa (D.int (((loose y).map pairD).length:Nat))=_;rw[a_]
  show dU (SP x0 dr q R (W++[y]) (.ro (aE y)) (.ro (.lst ((loose y).map pairD))) (.ro (.int (eU dr y))) U O v10 v11) (dY (.int (eU dr y)) (aL (x:=aI dr) (y:=.int ((y.map λr:List Int=>(r.length:Int)).sum%(dr.length:Int))) rfl (aL (x:=.int (y.map λr:List Int=>(r.length:Int)).sum) (y:=.int dr.length) (bP (x:=aI (y.map λr:List Int=>(r.length:Int))) ?_ sum_ints) (bP rfl hlen) (bG ∅)) ?_) rfl) ?_
  .have e5:aI (y.map λr:List Int=>(r.length:Int))=.lst (y.map λr=>D.int (r.length:Int)):=by unfold aI;rw[gd];rfl
   rw[e5];show i7 (y.map τ) rfl (by rw[a_];lia) (fL τ (λr=>D.int (r.length:Int)) y λr _=>⟨_,rfl,bP rfl kT⟩)
  .unfold eU;show lG Vc Vb
  have hl0:0<(loose y).length:=lh.2 I;have h0:=gn (eU dr y) (show((loose y).length:Int)≠0 by lia);have h1:=gz (eU dr y) (show(0:Int)<((loose y).length:Int) by lia);obtain⟨p,hp⟩:∃p,(loose y)[(eU dr y%((loose y).length:Int)).toNat]?=aa p:=⟨_,bo ∅⟩;show dU (SP x0 dr q R (W++[y]) (.ro (aE y)) (.ro (.lst ((loose y).map pairD))) (.ro (.int (eU dr y))) (.ro (.int p.1)) (.ro (.int p.2)) v10 v11) (O8 (p:=.int p.1) (q:=.int p.2) (aL (x:=.lst ((loose y).map pairD)) (y:=.int (eU dr y%((loose y).length:Int))) rfl (aL (x:=.int (eU dr y)) (y:=.int (loose y).length) rfl (bP rfl hlp) (bG ∅)) ?_)) ?_
  .show qY ((loose y).map pairD) (eU dr y%((loose y).length:Int))=_;have:=pV (xs:=(loose y).map pairD) (k:=(eU dr y%((loose y).length:Int)).toNat) (x:=pairD p) (by rw[dg,hp];rfl);rw[show(((eU dr y%((loose y).length:Int)).toNat:Nat):Int)=eU dr y%((loose y).length:Int) by lia] at this;rw[this];rfl
  have m:cC dr y=if eU dr y/7%2=1 then(p.2,p.1) else p:=by unfold cC;rw[hp];rfl
  show oU (λρ=>ρ=SP x0 dr q R (W++[y]) (.ro (aE y)) (.ro (.lst ((loose y).map pairD))) (.ro (.int (eU dr y))) (.ro (.int a)) (.ro (.int b)) v10 v11) ?_ λρ e=>?_
  .refine cR (Zv (eU dr y/7%2=1)) (eW (aL (x:=.int (eU dr y/7%2)) (y:=.int 1) (aL (x:=.int (eU dr y/7)) (y:=.int 2) (aL (x:=.int (eU dr y)) (y:=.int 7) rfl rfl (iT (by decide) (by decide))) rfl (bG (by decide))) rfl cN) rfl) (λl=>?_) λl=>?_
   .rw [Z_ (of_decide_eq_true l)] at m;show⟨_,Ow (args2 rfl rfl),?_⟩;rw[<- L,<- K,m];rfl
   .rw [Zz (of_decide_eq_false l)] at m;show fH ?_;rw[<- L,<- K,m]
  subst e;have u1:=p4 hy X F A;have u2:=p4 hy X A F;show dU (SP x0 dr q R (W++[y]) (.ro (aE y)) (.ro (.lst ((loose y).map pairD))) (.ro (.int (eU dr y))) (.ro (.int a)) (.ro (.int b)) (.ro (.lst ([put y a b,put y b a].map aE))) v11) (dY _ ?_ rfl) ?_
  .unfold dB;rw[args2 (dC rfl rfl rfl u1) (dC rfl rfl rfl u2)];rfl
  generalize J:([put y a b,put y b a].filter λz=>!dE R z)=M;have hMl:M.length<=2:=by rw[<- J];show qx _ _
  show dU (SP x0 dr q R (W++[y]) (.ro (aE y)) (.ro (.lst ((loose y).map pairD))) (.ro (.int (eU dr y))) (.ro (.int a)) (.ro (.int b)) (.ro (.lst ([put y a b,put y b a].map aE))) (.ro (.lst (M.map aE)))) (X8 (M.map aE) ?_ (PJ M) rfl) ?_
  .rw [<- J];show i7 ([put y a b,put y b a].map aE) rfl (by simp) (gE aE (λz=>!dE R z) aE _ λz _=>⟨_,rfl,eW (d:=.bl (!dE R z)) (aL (x:=aE z) (y:=.dG q (lB R).1 (lB R).2) rfl rfl (Bk ae)) rfl,λ_=>rfl⟩)
  have Y:aP [.lst (M.map aE)]=aa (.int M.length):=by show aa (D.int ((M.map aE).length:Nat))=_;rw[a_]
  show cR (Zv ((0:Int)<M.length)) (eW (aL (x:=.int M.length) (y:=.int 0) (bP rfl Y) rfl dZ) rfl) (λl=>?_) λl=>?_
  .have l:=of_decide_eq_true l;have g0:=gn (eU dr y/16) (show(M.length:Int)≠0 by lia);have g1:=gz (eU dr y/16) l;obtain⟨z,hz⟩:∃z,M[(eU dr y/16%(M.length:Int)).toNat]?=aa z:=⟨_,bo ∅⟩;have n:z∈M:=ia hz;rw[<- J,gc] at n;show⟨_,CK (d:=aE z) (ds:=(W++[y]).map aE) (aL (x:=.lst (M.map aE)) (y:=.int (eU dr y/16%(M.length:Int))) rfl (aL (x:=.int (eU dr y/16)) (y:=.int M.length) (aL (x:=.int (eU dr y)) (y:=.int 16) rfl rfl (iT (by decide) (by decide))) (bP rfl Y) (bG l)) ?_) rfl (by rw[a_,bq,cf,cy];lia),R,W++[y]++[z],.push z o I ?_ (by simpa using n.2),q,.ro (aE y),.ro (.lst ((loose y).map pairD)),.ro (.int (eU dr y)),.ro (.int a),.ro (.int b),.ro (.lst ([put y a b,put y b a].map aE)),.ro (.lst (M.map aE)),?_⟩
   .show qY (M.map aE) (eU dr y/16%(M.length:Int))=_;have:=pV (xs:=M.map aE) (k:=(eU dr y/16%(M.length:Int)).toNat) (x:=aE z) (by rw[dg,hz];rfl);rw[show(((eU dr y/16%(M.length:Int)).toNat:Nat):Int)=eU dr y/16%(M.length:Int) by lia] at this;show this
   .rw [L,K];have:=n.1;simpa using this
   .rw [SP,SP,cc (l₁:=W++[y])];rfl
  .have l:=of_decide_eq_false l;have Gp:M=[]:=my.1 ∅;rw[Gp,a2m] at J;have k1:dE R (put y a b)=ae:=by simpa using J (put y a b) (by simp)
   have k2:dE R (put y b a)=ae:=by simpa using J (put y b a) (by simp)
   obtain⟨i,hi⟩:∃i,FO R (put y a b)=aa i:=Dx.1 (by rw[mM];show k1);obtain⟨j,hj⟩:∃j,FO R (put y b a)=aa j:=Dx.1 (by rw[mM];show k2);show dU ((SP x0 dr q R (W++[y]) (.ro (aE y)) (.ro (.lst ((loose y).map pairD))) (.ro (.int (eU dr y))) (.ro (.int a)) (.ro (.int b)) (.ro (.lst ([put y a b,put y b a].map aE))) (.ro (.lst (M.map aE)))).set 3 (.ow (.dG (adr q) (lB (R++[(y,[a,b,(i:Int),(j:Int)])])).1 (lB (R++[(y,[a,b,(i:Int),(j:Int)])])).2))) (X9 [a,b,(i:Int),(j:Int)] o (bP (x:=.lst (R.map aG)) rfl (by show aa (D.int (R.map aG).length)=_;rw[a_])) rfl rfl ∅) ?_;show⟨_,Oy (d:=aG (y,[a,b,(i:Int),(j:Int)])) (ds:=R.map aG) ?_ (CU _) rfl (by rw[a_];lia),R++[(y,[a,b,(i:Int),(j:Int)])],W++[y],?_,adr q,.ro (aE y),.ro (.lst ((loose y).map pairD)),.ro (.int (eU dr y)),.ro (.int a),.ro (.int b),.ro (.lst ([put y a b,put y b a].map aE)),.ro (.lst (M.map aE)),?_⟩
   .refine rJ (x:=aE y) (y:=τ [a,b,(i:Int),(j:Int)]) rfl ?_;have f1:∀ρ:b7,ρ[3]?=aa (aa (.dG (adr q) (lB (R++[(y,[a,b,(i:Int),(j:Int)])])).1 (lB (R++[(y,[a,b,(i:Int),(j:Int)])])).2))->ρ[10]?=aa (aa (.lst ([put y a b,put y b a].map aE)))->ρ[8]?=aa (aa (.int a))->ρ[9]?=aa (aa (.int b))->bN (aA (aF 8) (aA (aF 9) (aA (aB oQ (aF 3) (aB aO (aF 10) (eC (.int 0)))) (aA (aB oQ (aF 3) (aB aO (aF 10) (eC (.int 1)))) aH)))) ρ=aa (τ [a,b,(i:Int),(j:Int)]):=λρ h3 md h8 h9=>by
     have e3:aF 3 ρ=aa (.dG (adr q) (lB (R++[(y,[a,b,(i:Int),(j:Int)])])).1 (lB (R++[(y,[a,b,(i:Int),(j:Int)])])).2):=by unfold aF;rw[h3];rfl
     have sg:aF 10 ρ=aa (.lst ([put y a b,put y b a].map aE)):=by unfold aF;rw[md];rfl
     have e8:aF 8 ρ=aa (.int a):=by unfold aF;rw[h8];rfl
     have e9:aF 9 ρ=aa (.int b):=by unfold aF;rw[h9];rfl
     have g1:aB oQ (aF 3) (aB aO (aF 10) (eC (.int 0))) ρ=aa (.int i):=aL e3 (y:=aE (put y a b)) (aL sg (y:=.int 0) rfl rfl) (Bj (IT hi));have g2:aB oQ (aF 3) (aB aO (aF 10) (eC (.int 1))) ρ=aa (.int j):=aL e3 (y:=aE (put y b a)) (aL sg (y:=.int 1) rfl rfl) (Bj (IT hj));unfold bN aA aH;rw[e8,e9,g1,g2];rfl
    show f1 _ rfl rfl rfl rfl
   .have:=lJ.done (dr:=dr) (W:=W) i j o I (by rw[L,K];show hi) (by rw[L,K];show hj);rw[L,K] at this;show this
   .rw [SP,SP,cc (f:=aG)];rfl
abbrev mP:TF:=tV (aB jW (bH aP (aR 4)) (eI 0))
def Steps(m:Nat)(ρ a:bK):Prop:=∀f:Nat,eQ mP mO (f+m) ρ=eQ mP mO f a
def Steps.trans(d:Steps m a b)(h2:Steps k b c):Steps (m+k) a c:=λf=>by rw[show f+(m+k)=(f+k)+m by lia,d,h2]
def IW(h:rO x0 dr R W ρ):mP (bB ρ)=aa (Zv (0<W.length)):=by obtain⟨q,n,m,l,j,a,v10,v11,rfl⟩:=h;show eW (d:=.bl (Zv ((0:Int)<W.length))) (binI (x:=W.length) (y:=0) (bP (x:=.lst (W.map aE)) rfl (by show aa (D.int (W.map aE).length)=_;rw[a_])) rfl dZ) ?_;show aa (Zv ((0:Int)<W.length))=_;congr 1;rw[decide_eq_decide];lia
theorem p6(l:Ord.Rows y)(m:y.length<=9)(n:0<dr.length)(q:R.length<15000000)(p:W.length<15000000)(h:rO x0 dr R (W++[y]) ρ):
  ∃j d a,lJ dr R W y j d/\rO x0 dr j d a/\Steps 1 ρ a:=by
 obtain⟨a,e,j,d,t,s⟩:=FQ l m n q p h;show⟨j,d,a,t,s,λf=>?_⟩
 show(match mP (bB ρ) with
  |none=>Out.no
  |some ag=>.nx ρ
  |some ae=>match mO ρ with
   |.nx a=>eQ mP mO f a
   |o=>o)=_
 rw[IW h,Zx (by rw[bq,cf];lia)];dsimp only;rw[e]
structure Ran (n:Nat) (dr:Q0e) (R:List PR) (y:Q0a) (m:Nat) (R':List PR):Prop where
 steps:m+4<=6*gl y
 more:∃S,R'=R++S /\∀r∈S,gl r.1<=gl y
 few:R'.length+1<=R.length+2*gl y
 good:GoodR n R'
 has:dE R' y=ae
 last:dE R y=ag ->∃S w,R'=S++[(y,w)]
def UT(h:dE R y=ae):dE (R++S) y=ae:=by obtain⟨r,a,e⟩:=fT.1 h;show fT.2 ⟨r,iq _ a,e⟩
theorem UU(h:dE R y=ag)(a:∀r∈S,r.1≠y):dE (R++S) y=ag:=by
 cases e:dE (R++S) y with
 |false=>rfl
 |true =>
  obtain⟨r,d,e2⟩:=fT.1 e;rcases di.1 d with z|z
  .rw [fT.2 ⟨r,z,e2⟩] at h;cases h
  .exact Zw e2 (a r z)
theorem yM(hn:n<=9)(hd:0<dr.length):∀(k:Nat) (y:Q0a) (R:List PR) (W:List (List (List Int))) (ρ:bK),gl y<=k->Ord.Rows y->y.length=n->GoodR n R->R.length+2*gl y<=14000000->W.length+gl y<=14000000->rO x0 dr R (W++[y]) ρ ->
  ∃m R' d,Ran n dr R y m R'/\rO x0 dr R' W d/\Steps m ρ d
 |0,y,R,W,ρ,hk,hy,_,_,_,_,_=>by have:=vD hy;lia
 |k+1,y,R,W,ρ,hk,hy,hl,hg,hR,hW,hst=>by
  have gp:=vD hy
  -- an order that has a row is taken off
  have L:∀(l:List PR) (o:bK),dE l y=ae->l.length<15000000->rO x0 dr l (W++[y]) o ->∃d,rO x0 dr l W d/\Steps 1 o d:=λl o O hl1 h1=>by
   obtain⟨R',W',d,t,s,e⟩:=p6 hy ∅ hd hl1 ∅ h1
   cases t with
   |pop _=>show⟨d,s,e⟩
   |bare h _=>rw[O] at h;cases h
   |push p h=>rw[O] at h;cases h
   |done i j h=>rw[O] at h;cases h
  cases O:dE R y with
  |true =>
   obtain⟨d,s,e⟩:=L R ρ O ∅ hst;show⟨1,R,d,⟨by lia,⟨[],by simp,λr J=>by cases J⟩,by lia,hg,O,λh=>by rw[O] at h;cases h⟩,s,e⟩
  |false =>
   by_cases A:loose y=[]
   .obtain ⟨R',W',o,t,s,e⟩:=p6 hy ∅ hd ∅ ∅ hst
    cases t with
    |pop h=>rw[O] at h;cases h
    |push p h h2=>show Zw A h2
    |done i j h h2=>show Zw A h2
    |bare h h2 =>
     have F:dE (R++[(y,[])]) y=ae:=fT.2 ⟨(y,[]),by simp,rfl⟩;obtain⟨d,s',X⟩:=L _ o F (by rw[bq,cf,cy];lia) s;show⟨1+1,_,d,⟨by lia,⟨[(y,[])],rfl,λr J=>by rw[bt] at J;rw[J];show bh _⟩,by rw[bq,cf,cy];lia,hg.snoc ⟨hy,hl,.inl ⟨A,rfl⟩⟩,F,λ_=>⟨R,[],rfl⟩⟩,s',e.trans X⟩
   .obtain ⟨ab1,ab2,ab3⟩:=X7 (dr:=dr) A;obtain⟨s1,s2,s3,s4⟩:=gH ab3;have hsum:=Yx s2 ab1 ab2;have th1:thing y.length (cC dr y).1=ae:=dA.2 ab1;have th2:thing y.length (cC dr y).2=ae:=dA.2 ab2;have rP:=CI hy th1 th2 s3;have rQ:=CI hy th2 th1 s4;have gP:=vD rP;have gQ:=vD rQ;have lP:=dO y (cC dr y).1 (cC dr y).2;have lQ:=dO y (cC dr y).2 (cC dr y).1
    -- both parts have rows
    have fin:∀(l:List PR) (o:bK),dE l y=ag->dE l (put y (cC dr y).1 (cC dr y).2)=ae->dE l (put y (cC dr y).2 (cC dr y).1)=ae->l.length<14500000->GoodR n l->rO x0 dr l (W++[y]) o ->∃w d,GoodR n (l++[(y,w)])/\rO x0 dr (l++[(y,w)]) W d/\Steps 2 o d:=λl o U k1 k2 hl1 g1 h1=>by
     obtain⟨R',W',x,t,s,e⟩:=p6 hy ∅ hd ∅ ∅ h1
     cases t with
     |pop h=>rw[U] at h;cases h
     |bare h h2=>show Zw h2 A
     |push p h h2 h3 h4 =>
      rcases h3 with z|z
      .rw [z,k1] at h4;cases h4
      .rw [z,k2] at h4;cases h4
     |done i j h h2 h3 h4 =>
      have F:dE (l++[(y,[(cC dr y).1,(cC dr y).2,(i:Int),(j:Int)])]) y=ae:=fT.2 ⟨_,gu _ (bt.2 rfl),rfl⟩;obtain⟨d,s',X⟩:=L _ x F (by rw[bq,cf,cy];lia) s;obtain⟨u,u1,u2⟩:=AL h3;obtain⟨v,v1,v2⟩:=AL h4;show⟨_,d,g1.snoc ⟨hy,hl,.inr ⟨_,_,i,j,u,v,A,rfl,by rw[<- hl];show ab1,by rw[<- hl];show ab2,ab3,PM h3,PM h4,u1,u2,v1,v2⟩⟩,s',e.trans X⟩
    have all2:∀{p q:Q0a},(p=put y (cC dr y).1 (cC dr y).2\/p=put y (cC dr y).2 (cC dr y).1)->(q=put y (cC dr y).1 (cC dr y).2\/q=put y (cC dr y).2 (cC dr y).1)->p≠q->gl p+gl q=gl y:=λ{p q} Y hq hpq=>by
     rcases Y with z|z<;>rcases hq with K|K
     .exact Zw (z.trans K.symm) hpq
     .rw [z,K];lia
     .rw [z,K];lia
     .exact Zw (z.trans K.symm) hpq
    -- one part is run through
    have one:∀(l:List PR) (o:bK),dE l y=ag->¬ (dE l (put y (cC dr y).1 (cC dr y).2)=ae/\dE l (put y (cC dr y).2 (cC dr y).1)=ae)->l.length<14500000->(∀p,(p=put y (cC dr y).1 (cC dr y).2\/p=put y (cC dr y).2 (cC dr y).1)->dE l p=ag->l.length+2*gl p<=14000000)->GoodR n l->rO x0 dr l (W++[y]) o ->
      ∃p m R2 x,(p=put y (cC dr y).1 (cC dr y).2\/p=put y (cC dr y).2 (cC dr y).1)/\dE l p=ag/\gl p+1<=gl y/\Ran n dr l p m R2/\dE R2 y=ag/\rO x0 dr R2 (W++[y]) x/\Steps (1+m) o x:=λl o U hm hl1 hb g1 h1=>by
     obtain⟨R',W',x,t,s,e⟩:=p6 hy ∅ hd ∅ ∅ h1
     cases t with
     |pop h=>rw[U] at h;cases h
     |bare h h2=>show Zw h2 A
     |done i j h h2 h3 h4 =>
      show Zw ⟨by rw[<- mM,h3];rfl,by rw[<- mM,h4];rfl⟩ hm
     |push p h h2 h3 h4 =>
      have fct:Ord.Rows p/\p.length=n/\gl p+1<=gl y:=by
       rcases h3 with z|z
       .rw [z];show⟨rP,by lia,by lia⟩
       .rw [z];show⟨rQ,by lia,by lia⟩
      obtain⟨m,R2,ρ3,rn,s3,e3⟩:=yM hn hd k p l (W++[y]) x ∅ fct.1 fct.2.1 g1 (hb p h3 h4) (by rw[bq,cf,cy];lia) s;show⟨p,m,R2,ρ3,h3,h4,fct.2.2,rn,?_,s3,e.trans e3⟩;obtain⟨S,eS,hS⟩:=rn.more;rw[eS];show UU U λr J e=>by have:=hS r J;rw[e] at this;lia
    have keep:∀{l R2:List PR} {p z:Q0a} {m:Nat},Ran n dr l p m R2->dE l z=ae->dE R2 z=ae:=λ{l R2 p z m} rn h=>by obtain⟨S,eS,_⟩:=rn.more;rw[eS];show UT h
    by_cases b0:dE R (put y (cC dr y).1 (cC dr y).2)=ae/\dE R (put y (cC dr y).2 (cC dr y).1)=ae
    .obtain ⟨w,d,g',s',X⟩:=fin R ρ O b0.1 b0.2 ∅ hg hst;show⟨2,_,d,⟨by lia,⟨[(y,w)],rfl,λr J=>by rw[bt] at J;rw[J];show bh _⟩,by rw[bq,cf,cy];lia,g',fT.2 ⟨_,gu _ (bt.2 rfl),rfl⟩,λ_=>⟨R,w,rfl⟩⟩,s',X⟩
    .obtain ⟨p,m1,l,o,Y,hp0,hpg,Z,hy1,st1,e1⟩:=one R ρ O b0 ∅ (λp Y _=>by
      rcases Y with z|z
      .rw [z];lia
      .rw [z];lia) hg hst
     obtain⟨S1,z_,zw⟩:=Z.more;have f1:=Z.few;have t1:=Z.steps;have pg:1<=gl p:=by
      rcases Y with z|z
      .rw [z];show gP
      .rw [z];show gQ
     by_cases b1:dE l (put y (cC dr y).1 (cC dr y).2)=ae/\dE l (put y (cC dr y).2 (cC dr y).1)=ae
     .obtain ⟨w,d,g',s',X⟩:=fin l o hy1 b1.1 b1.2 ∅ Z.good st1;show⟨1+m1+2,_,d,⟨by lia,⟨S1++[(y,w)],by rw[z_,lr],λr J=>?_⟩,by rw[bq,cf,cy];lia,g',fT.2 ⟨_,gu _ (bt.2 rfl),rfl⟩,λ_=>⟨l,w,rfl⟩⟩,s',e1.trans X⟩;rcases di.1 J with z|z
      .have:=zw r z;lia
      .rw [bt] at z;rw[z];show bh _
     .obtain ⟨p2,m2,R2,x,hp2,Bi,aL1,I,hy2,st2,e2⟩:=one l o hy1 b1 ∅ (λp' hp' h'=>by
       have ne:p≠p':=λe=>by rw[<- e,Z.has] at h';cases h'
       have:=all2 Y hp' ne;lia) Z.good st1
      have ne:p≠p2:=λe=>by rw[<- e,Z.has] at Bi;cases Bi
      have tot:=all2 Y hp2 ne;obtain⟨S2,Gr,ve⟩:=I.more;have f2:=I.few;have t2:=I.steps;have UW:dE R2 p=ae:=keep I Z.has;have both:dE R2 (put y (cC dr y).1 (cC dr y).2)=ae/\dE R2 (put y (cC dr y).2 (cC dr y).1)=ae:=by
       have h2:=I.has;rcases Y with z|z<;>rcases hp2 with K|K
       .exact Zw (z.trans K.symm) ne
       .rw [z] at UW;rw[K] at h2;show⟨UW,h2⟩
       .rw [z] at UW;rw[K] at h2;show⟨h2,UW⟩
       .exact Zw (z.trans K.symm) ne
      obtain⟨w,d,g',s',X⟩:=fin R2 x hy2 both.1 both.2 ∅ I.good st2;show⟨1+m1+(1+m2+2),_,d,⟨by lia,⟨S1++S2++[(y,w)],by rw[Gr,z_,lr,lr,lr],λr J=>?_⟩,by rw[bq,cf,cy];lia,g',fT.2 ⟨_,gu _ (bt.2 rfl),rfl⟩,λ_=>⟨R2,w,rfl⟩⟩,s',e1.trans (e2.trans X)⟩;rcases di.1 J with z|z
      .rcases di.1 z with z|z
       .have:=zw r z;lia
       .have:=ve r z;lia
      .rw [bt] at z;rw[z];show bh _
def vE(l:Ord.Rows x)(n:x.length<=9)(v:0<dr.length):∃(R:List PR) (w:Q0e),GoodR x.length (R++[(x,w)])/\(R++[(x,w)]).length<=2*gl x/\gG [aE x,aI dr]=.ok (.lst ((R++[(x,w)]).map aG)):=by
 have O:=IV n;have L:=vD l;obtain⟨m,U,a,d,st,e⟩:=yM (x0:=aE x) n v (gl x) x [] [] (SP (aE x) dr tO [] [x] .no .no .no .no .no .no .no) (bh _) l rfl (λi r h=>by simp at h) (by simp;lia) (by simp;lia) ⟨_,_,_,_,_,_,_,_,rfl⟩;obtain⟨S,w,j⟩:=d.last rfl;have K:=d.steps;have y:=d.few;show⟨S,w,by rw[<- j];show d.good,by rw[<- j];simp only[cy] at y;lia,?_⟩;have run:eQ mP mO 3000000 (SP (aE x) dr tO [] [x] .no .no .no .no .no .no .no)=.nx a:=by
  obtain⟨f,p⟩:∃f,3000000=(f+1)+m:=⟨3000000-1-m,by lia⟩;rw[p,e]
  show(match mP (bB a) with
   |none=>Out.no
   |some ag=>.nx a
   |some ae=>match mO a with
    |.nx a=>eQ mP mO f a
    |o=>o)=_
  rw[IW st];rfl
 unfold gG;show iU rfl (cL [.ro (aE x),.ro (aI dr),.ow (.lst []),.no,.no,.no,.no,.no,.no,.no,.no,.no] rfl (cL [.ro (aE x),.ro (aI dr),.ow (.lst []),.ow (.dG tO [] []),.no,.no,.no,.no,.no,.no,.no,.no] rfl (cL (SP (aE x) dr tO [] [x] .no .no .no .no .no .no .no) rfl (cL a run (d6 ?_)))));obtain⟨q,J,I,F,A,z,v10,v11,rfl⟩:=st;rw[<- j];rfl
theorem uE{j:Type}[DecidableEq j]{f:D->D->Option Bool}{mk:j->D}(h:∀a b,f (mk a) (mk b)=aa (Zv (a=b))):∀l m:List j,(tN f (l.map mk) (m.map mk)).map (λr=>r&&Zv ((l.map mk).length=(m.map mk).length))=aa (Zv (l=m))
 |[],[]=>rfl
 |[],b::m=>by show aa (ae&&Zv (0=(m.map mk).length+1))=_;rw[Zy ∅,Zy (by simp)];rfl
 |a::l,[]=>by show aa (ae&&Zv ((l.map mk).length+1=0))=_;rw[Zy ∅,Zy (by simp)];rfl
 |a::l,b::m=>by
  have d:=uE h l m;rw[bp,bp,tN,h a b]
  cases e:tN f (l.map mk) (m.map mk) with
  |none=>rw[e] at d;cases d
  |some r =>
   rw[e] at d;have n:(r&&Zv ((l.map mk).length=(m.map mk).length))=Zv (l=m):=ft d;show aa ((Zv (a=b)&&r)&&Zv ((l.map mk).length+1=(m.map mk).length+1))=_;rw[Ez,show Zv ((l.map mk).length+1=(m.map mk).length+1)=Zv ((l.map mk).length=(m.map mk).length) from decide_eq_decide.2 ∅,n];congr 1;rw[jh,cm,decide_eq_true_eq,decide_eq_true_eq,decide_eq_true_eq,pb]
def AM(n:Nat)(a b:Q0e):eqP (n+1) (τ a) (τ b)=aa (Zv (a=b)):=uE (λa b=>by cases n<;>rfl) a b
def AN(n:Nat)(x y:Q0a):eqP (n+2) (aE x) (aE y)=aa (Zv (x=y)):=uE (λa b=>AM n a b) x y
def PN(x y:Q0a):oO (aE x) (aE y)=aa (.bl (Zv (x=y))):=by unfold oO;rw[AN 6];rfl
def p7(x y:Q0a):j7 (aE x) (aE y)=aa (.bl (!Zv (x=y))):=by unfold j7;rw[AN 6];rfl
theorem FR(j:a ρ=aa (.bl p))(d:p=ae->b ρ=aa (.bl q))(h:p=ag->q=ag):oN a b ρ=aa (.bl q):=by
 unfold oN;rw[j];show(if p=ae then b ρ else aa (.bl ag))=_
 cases p with
 |true=>show d rfl
 |false=>rw[h rfl];rfl
theorem IX{R:List PR}{i:Nat}{r:PR}(h:R[i]?=aa r):aO (.tup (R.map aG)) (.int (i:Int))=aa (aG r):=by show qY (R.map aG) (i:Int)=_;show pV (by rw[dg,h];rfl)
noncomputable def l9(m:Nat)(r:PR):PR:=match r.2 with
 |[a,b,p,q]=>(r.1,[a,b,p+m,q+m])
 |_=>(r.1,r.2)
def sV(m:Nat)(r:PR):(l9 m r).1=r.1:=by unfold l9;split<;>rfl
theorem CV:∀R:List PR,jT (R.map aG)=ae
 |[]=>rfl
 |r::R=>by rw[bp,jT,CV R,CU];rfl
def CW{n m:Nat}{R:List PR}(g:GoodR n R)(I:R.length<15000000):jG [.lst (R.map aG),.int m]=.ok (.lst ((R.map (l9 m)).map aG)):=by
 unfold jG;have main:Rt ((aJ (i0 2 (dB aH))
  (aJ (dM (eE cZ) (BZ 3 4)
   (aJ (dS (tV (aB jW (bH aP (aR 4)) (eI 0)))
    (bA 4 (bN (aA (aB aO fR (eI 0)) (aA (aB aO fR (eI 1)) (aA (aB bS (aB aO fR (eI 2)) cD) (aA (aB bS (aB aO fR (eI 3)) cD) aH))))))
    cH)
   (sX (kK 2 fF (aT (bN (aA d9 (aR 4))))))))
  (bY dJ))) (eG 5 [.lst (R.map aG),.int m])) λd=>d=.lst ((R.map (l9 m)).map aG):=by
  show bF [.ro (.lst (R.map aG)),.ri m,.ow (.lst []),.no,.no] rfl ?_;show fG (λρ=>∃o l,ρ=[.ro (.lst (R.map aG)),.ri m,.ow (.lst ((R.map (l9 m)).map aG)),o,l]) ?_ λρ ⟨o,l,e⟩=>by subst e;show gS _ rfl rfl
  show uY (R.map aG) (λi ρ=>∃o l,ρ=[.ro (.lst (R.map aG)),.ri m,.ow (.lst (((R.take i).map (l9 m)).map aG)),o,l]) rfl ⟨_,_,rfl⟩ (λi d ρ z ⟨o,l,e⟩=>?_) λρ h=>by rw[a_,List.take_length] at h;show h
  subst e;rw[dg] at z;obtain⟨r,x,rfl⟩:=k_.1 z;have F:=(cg.1 x).1;have ok:=g i r x;have tk:(R.take (i+1)).map (l9 m)=(R.take i).map (l9 m)++[l9 m r]:=by rw[Ee,x,cc];rfl
  show⟨[.ro (.lst (R.map aG)),.ri m,.ow (.lst (((R.take i).map (l9 m)).map aG)),.ro (aE r.1),.ro (τ r.2)],rfl,?_⟩;show oU (λρ=>ρ=[.ro (.lst (R.map aG)),.ri m,.ow (.lst (((R.take i).map (l9 m)).map aG)),.ro (aE r.1),.ro (τ (l9 m r).2)]) ?_ λρ e=>?_
  .rcases ok.why with⟨A,j⟩|⟨a,b,p,q,u,v,A,j,_⟩
   .have y:(l9 m r).2=r.2:=by unfold l9;rw[j]
    rw[y,j];show cR ag rfl (λh=>by cases h) λ_=>fH rfl
   .have y:(l9 m r).2=[a,b,(p:Int)+m,(q:Int)+m]:=by unfold l9;rw[j]
    rw[y,j];show cR ae rfl (λ_=>eT (τ [a,b,(p:Int)+m,(q:Int)+m]) rfl rfl) λh=>by cases h
  .subst e;show⟨_,CK (d:=aG (l9 m r)) (ds:=((R.take i).map (l9 m)).map aG) (by unfold aG;rw[sV];show rJ rfl rfl) rfl (by rw[a_,a_,jo];lia),.ro (aE r.1),.ro (τ (l9 m r).2),?_⟩;rw[tk,cc (f:=aG)];rfl
 obtain⟨d,e,rfl⟩:=i5 rfl main;show e
def GoodR.moved(J:GoodR n A)(I:GoodR n R):GoodR n (A++R.map (l9 A.length)):=λi r hi=>by
 by_cases h:i<A.length
 .rw [iu h] at hi;show(J i r hi).app (bh _)
 .rw [ir ∅,dg] at hi;obtain⟨s,x,rfl⟩:=k_.1 hi;have ok:=I _ s x;show⟨by rw[sV];show ok.rows,by rw[sV];show ok.len,?_⟩;rw[sV];rcases ok.why with⟨j,d⟩|⟨a,b,p,q,u,v,j,d,F,y,l,U,O,up,L,m,K⟩
  .refine .inl ⟨j,?_⟩;unfold l9;rw[d]
  .have at2:∀{c:Nat} {z:PR},R[c]?=aa z->(A++R.map (l9 A.length))[c+A.length]?=aa (l9 A.length z):=λ{c z} o=>by rw[ir ∅,dg,show c+A.length-A.length=c by lia,o];rfl
   show .inr ⟨a,b,p+A.length,q+A.length,l9 A.length u,l9 A.length v,j,?_,F,y,l,by lia,by lia,at2 up,by rw[sV];show L,at2 m,by rw[sV];show K⟩;unfold l9;rw[d];rfl
def GoodR.twice(g:GoodR n (R++[l]))(Y:∀t∈T,t∈R++[l]):GoodR n (R++T)/\oF n (R++T) (R++T).length l:=by
 have low:∀{i:Nat} {r:PR} {j:Nat},(R++[l])[i]?=aa r->R.length<=j->oF n (R++T) j r:=λ{i r j} hi X=>by
  have ok:=g i r hi;have A:=(cg.1 hi).1;rw[bq,cf,cy] at A;show⟨ok.rows,ok.len,?_⟩;rcases ok.why with z|⟨a,b,p,q,u,v,y,o,J,I,d,U,O,up,L,x,K⟩
  .exact .inl z
  .have cut:∀{c:Nat} {z:PR},c<R.length->(R++[l])[c]?=aa z->(R++T)[c]?=aa z:=λ{c z} F m=>by rw[iu F] at m ⊢;show m
   show .inr ⟨a,b,p,q,u,v,y,o,J,I,d,by lia,by lia,cut ∅ up,L,cut ∅ x,K⟩
 show⟨λi r hi=>?_,low (i:=R.length) (by rw[ir (bh _),ou];rfl) (by rw[bq];lia)⟩;by_cases h:i<R.length
 .rw [iu h] at hi;have h2:(R++[l])[i]?=aa r:=by rw[iu h];show hi
  have ok:=g i r h2;show⟨ok.rows,ok.len,?_⟩;rcases ok.why with z|⟨a,b,p,q,u,v,y,o,J,I,d,U,O,up,L,x,K⟩
  .exact .inl z
  .have cut:∀{c:Nat} {z:PR},c<R.length->(R++[l])[c]?=aa z->(R++T)[c]?=aa z:=λ{c z} F m=>by rw[iu F] at m ⊢;show m
   show .inr ⟨a,b,p,q,u,v,y,o,J,I,d,U,O,cut ∅ up,L,cut ∅ x,K⟩
 .rw [ir ∅] at hi;obtain⟨j,X⟩:=km.1 (Y r (ia hi));show low X ∅
theorem PQ(h:ns≠[]):zV ns∈ns:=by
 cases ns with
 |nil=>show Zw rfl h
 |cons a l =>
  have go:∀(l:Q0e) (a:Int),l.foldl (λm b=>if m<b then b else m) a=a\/l.foldl (λm b=>if m<b then b else m) a∈l:=by
   intro l
   induction l with
   |nil=>intro a;show .inl rfl
   |cons b l ih =>
    intro a;rw[ll];rcases ih (if a<b then b else a) with z|z
    .rw [z];split
     .exact .inr cq
     .exact .inl rfl
    .exact .inr (fg _ z)
  show l.foldl (λm b=>if m<b then b else m) a∈a::l;rcases go l a with z|z
  .rw [z];show cq
  .exact fg _ z
def nV{R:List PR}{i:Nat}{r:PR}(h:R[i]?=aa r):aO (.lst (R.map aG)) (.int (i:Int))=aa (aG r):=IX h
def yN{R:List PR}{l u:PR}{p:Nat}(j:R[p]?=aa u)(L:R.length<15000000):∃(c:Nat) (v:PR),R[c]?=aa v/\v.1=u.1/\c7 [.lst ((R++[l]).map aG),.int p]=.ok (.int c):=by
 have A:=(cg.1 j).1
 let F:List Int:=(aS 0 R.length).filter λi=>Zv (((R[i.toNat]?).getD ([],[])).1=u.1)
 have q:F≠[]:=by have:(p:Int)∈F:=gc.2 ⟨bD.2 ⟨by lia,by lia⟩,by rw[gf,j];show Zx rfl⟩;intro e;rw[e] at this;cases this
 have I:=PQ q;obtain⟨m1,n⟩:=gc.1 I;have z:=bD.1 m1;obtain⟨c,o⟩:∃c:Nat,zV F=(c:Int):=⟨(zV F).toNat,by lia⟩;rw[o] at n z;have h:c<R.length:=by lia
 show⟨c,R[c],bo h,?_,?_⟩
 .have:=of_decide_eq_true n;rw[gf,bo h] at this;show this
 .unfold c7;show iU rfl (d6 (bP (x:=aI F) (i7 ((aS 0 R.length).map D.int) ?_ (by rw[a_,aN];lia) (gE D.int (λi=>Zv (((R[i.toNat]?).getD ([],[])).1=u.1)) D.int _ λi hi=>?_)) ?_))
  .refine sO (binI (x:=((R.length:Int)+1)) (y:=1) (bP (x:=.lst ((R++[l]).map aG)) rfl ?_) rfl ?_) ∅
   .show aa (D.int ((R++[l]).map aG).length)=_;rw[a_,bq];rfl
   .rw [eK];congr 2;lia
  .have K:=bD.1 hi;have a:i.toNat<R.length:=by lia
   have J:(R++[l])[i.toNat]?=aa R[i.toNat]:=uC (bo a);have e2:(R++[l])[p]?=aa u:=uC j;have m:=nV J;rw[show((i.toNat:Nat):Int)=i by lia] at m;show⟨[aa (.int i),aa (.lst ((R++[l]).map aG)),aa (.int p)],rfl,eW (d:=.bl (Zv (R[i.toNat].1=u.1))) (aL (x:=aE R[i.toNat].1) (y:=aE u.1) (aL (x:=aG R[i.toNat]) (y:=.int 0) (aL (x:=.lst ((R++[l]).map aG)) (y:=.int i) rfl rfl m) rfl rfl) (aL (x:=aG u) (y:=.int 0) (aL (x:=.lst ((R++[l]).map aG)) (y:=.int p) rfl rfl (nV e2)) rfl rfl) (PN _ _)) ?_,λ_=>rfl⟩;rw[bo a];rfl
  .show (intsOf (F.map D.int)).bind _=_;rw[eB];show(if F=[] then af else aa (D.int (zV F)))=_;rw[Zz q,o]
theorem PU(ns:Q0e)(k s:Int):∃x:Q0a,x.length<=9/\Ord.Rows x/\kX [.gK ns,.int k,.int s]=.ok (aE x):=by
 obtain⟨c1,Z⟩:=nQ ns k;obtain⟨hs,I,j,U⟩:=kR c1 3 s (by decide) (by decide);obtain⟨c2,Y⟩:=nQ ns (k+1)
 match hs,I,j,U with
 |[p,q,r],_,j,U =>
  have p0:=gn p (b:=8) (by decide);have p1:=gz p (b:=8) (by decide);have q0:=gn q (b:=8) (by decide);have q1:=gz q (b:=8) (by decide);have p2:=gn p (b:=4) (by decide);have p3:=gz p (b:=4) (by decide);have m:∀(l:Q0e) (z:Int),l.length=8->0<=z->z<8 ->∃v∈l,aO (aI l) (.int z)=aa (.int v):=λl z hl h0 h1=>⟨η l z,UQ h0 ∅,lG h0 ∅⟩;obtain⟨a,J,O⟩:=m [5,4,3,5,4,2,1,0] (p%8) rfl p0 p1;obtain⟨F,ht0,L⟩:=m [1,1,2,2,3,1,0,2] (q%8) rfl q0 q1;have hn5:0<=a/\a<=5:=by simp at J;lia
  have fin:Rt ((λb=>b (eG 8 [.gK ns,.int k,.int s])) (aJ (bA 3 (aM LL.dI (aA (aM LL.eJ (aA cZ (aR 1))) (aA (eI 3) (aR 2)))))
  (aJ (bA 4 (aB aO (dB (aA (eI 5) (aA (eI 4) (aA (eI 3) (aA (eI 5) (aA (eI 4) (aA (eI 2) (aA (eI 1) (aA (eI 0) aH))))))))) (aB bU (aB aO d9 (eI 0)) (eI 8))))
  (aJ (bA 5 (aB aO (dB (aA (eI 1) (aA (eI 1) (aA (eI 2) (aA (eI 2) (aA (eI 3) (aA (eI 1) (aA (eI 0) (aA (eI 2) aH))))))))) (aB bU (aB aO d9 (eI 1)) (eI 8))))
  (aJ (dS (tV (aB fK (aB bU (aB aO d9 (eI 2)) (eI 8)) (eI 3)))
   (aJ (bA 4 (aB bS (eI 6) (aB bU (aB aO d9 (eI 0)) (eI 4))))
   (bA 5 (eI 3)))
   cH)
  (aJ (bA 6 (aM LL.dI (aA (aM LL.eJ (aA cZ (aA (aB bS cD (eI 1)) aH))) (aA (aB bS fR (aB jJ (aB mulM fR (aB fJ fR (eI 1))) (eI 2))) (aA (aB bS dJ (eI 10007)) aH)))))
  (aJ (bA 7 (aM LL.fA (aA gC (aA fR (aR 5)))))
  (aJ (dS (fD (tV (aB jW fR (eI 5))) (tV (aB jW (aM LL.jM (aR 7)) (eI 60))))
   (bA 7 (aM LL.fA (aA gC (aA fR (aA (eI 4) aH)))))
   cH)
  (bY nN))))))))) λd=>∃x:Q0a,x.length<=9/\Ord.Rows x/\d=aE x:=by
   show bF [.ro (.gK ns),.ri k,.ri s,.ro (aI [p,q,r]),.no,.no,.no,.no] (dY _ (dC (c6 rfl rfl Z) rfl rfl U) rfl) ?_;show bF [.ro (.gK ns),.ri k,.ri s,.ro (aI [p,q,r]),.ri a,.no,.no,.no] (dY _ (aL (x:=aI [5,4,3,5,4,2,1,0]) (y:=.int (p%8)) rfl (binI (x:=p) (y:=8) rfl rfl (bG (by decide))) O) rfl) ?_;show bF [.ro (.gK ns),.ri k,.ri s,.ro (aI [p,q,r]),.ri a,.ri F,.no,.no] (dY _ (aL (x:=aI [1,1,2,2,3,1,0,2]) (y:=.int (q%8)) rfl (binI (x:=q) (y:=8) rfl rfl (bG (by decide))) L) rfl) ?_;show fG (λρ=>∃(n:Nat) (t:Int),n<=9/\ρ=[.ro (.gK ns),.ri k,.ri s,.ro (aI [p,q,r]),.ri n,.ri t,.no,.no]) ?_ λρ ⟨n,t,A,e⟩=>?_
   .refine cR (Zv (r%8=3)) (eW (binI (x:=(r%8)) (y:=3) (binI (x:=r) (y:=8) rfl rfl (bG (by decide))) rfl cN) rfl) (λ_=>?_) λ_=>fH ⟨a.toNat,F,by lia,by rw[show((a.toNat:Nat):Int)=a by lia]⟩;show dU [.ro (.gK ns),.ri k,.ri s,.ro (aI [p,q,r]),.ro (.int (6+p%4)),.ri F,.no,.no] (dY (.int (6+p%4)) (binI (x:=6) (y:=(p%4)) rfl (binI (x:=p) (y:=4) rfl rfl (bG (by decide))) dN) rfl) ?_;show eT (.int 3) rfl ⟨(6+p%4).toNat,3,by lia,by rw[show(((6+p%4).toNat:Nat):Int)=6+p%4 by lia];rfl⟩
   subst e;have aL6:=IA n;have K:((n:Int)*((n:Int)-1)/2)=(Ord.tri n:Int):=by
    have:(n:Int)*((n:Int)-1)=2*(Ord.tri n:Int):=by
     rw[Int.mul_sub,a2v];have:((n*n:Nat):Int)=(n:Int)*n:=by rw[Int.natCast_mul]
     lia
    rw[this];lia
   have tl:Ord.tri n<=81:=by have:n*n<=9*9:=ye A A;lia
   obtain⟨dr,drl,drp,X⟩:=kR c2 ((n:Int)+(Ord.tri n:Int)) (s+10007) ∅ ∅;have hdl:dr.length=n+Ord.tri n:=by lia
   show bF [.ro (.gK ns),.ri k,.ri s,.ro (aI [p,q,r]),.ri n,.ri t,.ro (aI dr),.no] (dY _ (dC (x:=.int c2) (y:=.int ((n:Int)+(Ord.tri n:Int))) (z:=.int (s+10007)) (c6 (x:=.gK ns) (y:=.int (k+1)) rfl rfl Y) (binI (x:=n) (y:=(Ord.tri n)) rfl (binI (x:=((n:Int)*((n:Int)-1))) (y:=2) (binI (x:=n) (y:=((n:Int)-1)) rfl rfl (oS ∅)) rfl (by rw[iT (by decide) (by decide),K])) dN) rfl X) rfl) ?_;obtain⟨d1,o1,o,l1,r1,rfl⟩:=pW dr n t A ∅;obtain⟨d2,o2,x2,l2,r2,rfl⟩:=pW dr n 4 A ∅;show bF [.ro (.gK ns),.ri k,.ri s,.ro (aI [p,q,r]),.ri n,.ri t,.ro (aI dr),.ro (aE o)] (dY _ (dC rfl rfl rfl o1) rfl) ?_;show fG (λρ=>∃x:Q0a,(x.length<=9/\Ord.Rows x)/\ρ=[.ro (.gK ns),.ri k,.ri s,.ro (aI [p,q,r]),.ri n,.ri t,.ro (aI dr),.ro (aE x)]) ?_ λρ ⟨x,hx,e⟩=>by subst e;show gS _ rfl ⟨x,hx.1,hx.2,rfl⟩
   show cR (Zv ((5:Int)<n)&&Zv ((60:Int)<(shares o).sum)) (oD (b:=Zv ((5:Int)<n)) (eW (binI (x:=n) (y:=5) rfl rfl dZ) rfl) (λh=>?_) λh=>by rw[h];rfl) (λ_=>eT (aE x2) (dC rfl rfl rfl o2) ⟨x2,⟨by lia,r2⟩,rfl⟩) λ_=>fH ⟨o,⟨by lia,r1⟩,rfl⟩;rw[h,de];show eW (aL (x:=.int (shares o).sum) (y:=.int 60) (jL rfl (CT r1 ∅)) rfl dZ) rfl
  unfold kX;obtain⟨d,e,x,h1,h2,rfl⟩:=i5 rfl fin;show⟨x,h1,h2,e⟩
def uF:XZ (.lst (ds++[d])) af (aa (-1))=aa (.lst ds):=by show aa (D.lst (mE (ds++[d]) af (aa (-1))))=_;unfold mE xG;dsimp only;rw[Z_ (by decide),show(-1+((ds++[d]).length:Int)).toNat=ds.length by rw[bq,cf,cy];lia,uv,yd,List.take_left]
def IY:XZ (.lst (ds++[d])) (aa (-1)) af=aa (.lst [d]):=by show aa (D.lst (mE (ds++[d]) (aa (-1)) af))=_;unfold mE xG;dsimp only;rw[Z_ (by decide),show(-1+((ds++[d]).length:Int)).toNat=ds.length by rw[bq,cf,cy];lia,List.drop_left,show(ds++[d]).length-ds.length=1 by rw[bq,cf,cy];lia];rfl
def YD(m:f ρ=aa d)(a:lo ρ=aa l)(j:hi ρ=aa h)(e:XZ d l h=z):t7 f lo hi ρ=z:=by unfold t7;rw[m,a,j];show e
def UX(l:Q0e)(lo hi:Option Int):∃m:Q0e,XZ (aI l) lo hi=aa (aI m):=by show⟨(l.drop (xG (l.map D.int).length 0 lo)).take (xG (l.map D.int).length (l.map D.int).length hi-xG (l.map D.int).length 0 lo),?_⟩;show aa (D.lst (mE (l.map D.int) lo hi))=aa (D.lst _);unfold mE;rw[a19,a2b]
def Oi(ok:oF n R i r):r.2=[] \/∃(a b:Int) (p q:Nat),r.2=[a,b,(p:Int),(q:Int)]:=by
 rcases ok.why with z|⟨a,b,p,q,u,v,h,d,_⟩
 .exact .inl z.2
 .exact .inr ⟨a,b,p,q,d⟩
def K6(ns:Q0e):∃(x:Q0a) (R:List PR) (w:Q0e),x.length<=9/\Ord.Rows x/\GoodR x.length (R++[(x,w)])/\R.length<=3000000/\lI [.gK ns]=.ok (.tup [aE x,.lst ((R++[(x,w)]).map aG)]):=by
 obtain⟨x,hn,hx,ex⟩:=PU ns 0 100003;obtain⟨L,ec2⟩:=nQ ns 2;obtain⟨dr,drl,drp,edr⟩:=kR L 45 200017 (by decide) (by decide);obtain⟨c3,ec3⟩:=nQ ns 3;obtain⟨sz,szl,szp,esz⟩:=kR c3 7 300007 (by decide) (by decide);have hd:dr.length=45:=drl;have hz:sz.length=7:=szl;obtain⟨F,n,g0,l0,e0⟩:=vE (dr:=dr) hx hn ∅;have g9:=IV hn;have PV:∀{ρ:b7} {j:Int},ρ[3]?=aa (aa (aI sz))->0<=j->j<7->aB aO (aF 3) (eC (.int j)) ρ=aa (.int (η sz j)):=λ{ρ j} h h0 Z=>aL (x:=aI sz) (y:=.int j) (by unfold aF;rw[h];rfl) rfl (lG h0 ∅);unfold lI;have fin:Rt ((λb=>b (eG 9 [.gK ns])) (aJ (bA 1 (aM LL.kX (aA (aF 0) (aA (eC (.int 0)) (aA (eC (.int 100003)) aH)))))
  (aJ (bA 2 (aM LL.dI (aA (aM LL.eJ (aA (aF 0) (aA (eC (.int 2)) aH))) (aA (eC (.int 45)) (aA (eC (.int 200017)) aH)))))
  (aJ (bA 3 (aM LL.dI (aA (aM LL.eJ (aA (aF 0) (aA (eC (.int 3)) aH))) (aA (eC (.int 7)) (aA (eC (.int 300007)) aH)))))
  (aJ (bA 4 (aM LL.gG (aA (aF 1) (aA (aF 2) aH))))
  (aJ (dS (tV (aB fK (aB bU (aB aO (aF 3) (eC (.int 0))) (eC (.int 3))) (eC (.int 1))))
   (aJ (bA 5 (aM LL.fA (aA (aB bS (t7 (aF 3) (oE (eC (.int 1))) (oE (eC (.int 5)))) (aF 2)) (aA (bH aP (aA (aF 1) aH)) (aA (eC (.int 3)) aH)))))
   (dS (tV (aB KI (aB bS (aB mulM (eC (.int 2)) (aM LL.jM (aA (aF 5) aH))) (bH aP (aA (aF 4) aH))) (eC (.int 280))))
    (aJ (bA 6 (aM LL.gG (aA (aF 5) (aA (aF 2) aH))))
    (bA 4 (aB bS (aF 6) (aM LL.jG (aA (aF 4) (aA (bH aP (aA (aF 6) aH)) aH))))))
    cH))
   cH)
  (aJ (i0 7 (cB 1 [4,3] (bC (aA (aB bU (aB aO (aF 3) (eC (.int 3))) (eC (.int 4))) aH)) (g1 0) eO (aB aO (aF 1) (aB bU (aB bS (aB aO (aF 2) (eC (.int 1))) (aB mulM (aF 0) (aB aO (aF 2) (eC (.int 2))))) (bH aP (aA (aF 1) aH))))))
  (aJ (bA 8 (aB aO (aB aO (aF 4) (fP (eC (.int 1)))) (eC (.int 1))))
  (aJ (dS (fD (tV (aB jW (bH aP (aA (aF 8) aH)) (eC (.int 0)))) (tV (aB fK (aB bU (aB aO (aF 3) (eC (.int 5))) (eC (.int 2))) (eC (.int 1)))))
   (sX (kK 7 fF (aT (aB aO (aF 4) (aB aO (aF 8) (aB bS (eC (.int 2)) (aB bU (aB aO (aF 3) (eC (.int 6))) (eC (.int 2)))))))))
   cH)
  (aJ (kL 4 (aB B6 (aB bS (t7 (aF 4) xB (oE (fP (eC (.int 1))))) (aF 7)) (t7 (aF 4) (oE (fP (eC (.int 1)))) xB)))
  (aJ (dS (fD (tV (aB jW (bH aP (aA (aF 8) aH)) (eC (.int 0)))) (tV (aB fK (aB bU (aB jJ (aB aO (aF 3) (eC (.int 5))) (eC (.int 2))) (eC (.int 2))) (eC (.int 1)))))
   (bA 8 (bN (aA (aB aO (aF 8) (eC (.int 0))) (aA (aB aO (aF 8) (eC (.int 1))) (aA (aM LL.c7 (aA (aF 4) (aA (aB aO (aF 8) (eC (.int 2))) aH))) (aA (aM LL.c7 (aA (aF 4) (aA (aB aO (aF 8) (eC (.int 3))) aH))) aH))))))
   cH)
  (bY (bN (aA (aF 1) (aA (aB bS (t7 (aF 4) xB (oE (fP (eC (.int 1))))) (dB (aA (bN (aA (aB aO (aB aO (aF 4) (fP (eC (.int 1)))) (eC (.int 0))) (aA (aF 8) aH))) aH))) aH))))))))))))))) λd=>∃(R:List PR) (w:Q0e),GoodR x.length (R++[(x,w)])/\R.length<=3000000/\d=.tup [aE x,.lst ((R++[(x,w)]).map aG)]:=by
  show bF [.ro (.gK ns),.ro (aE x),.no,.no,.no,.no,.no,.no,.no] (dY _ (dC rfl rfl rfl ex) rfl) ?_;show bF [.ro (.gK ns),.ro (aE x),.ro (aI dr),.no,.no,.no,.no,.no,.no] (dY _ (dC (c6 rfl rfl ec2) rfl rfl edr) rfl) ?_;show bF [.ro (.gK ns),.ro (aE x),.ro (aI dr),.ro (aI sz),.no,.no,.no,.no,.no] (dY _ (dC (c6 rfl rfl ec3) rfl rfl esz) rfl) ?_;show bF [.ro (.gK ns),.ro (aE x),.ro (aI dr),.ro (aI sz),.ro (.lst ((F++[(x,n)]).map aG)),.no,.no,.no,.no] (dY _ (c6 rfl rfl e0) rfl) ?_;have len0:∀A:List PR,aP [.lst (A.map aG)]=aa (.int A.length):=λA=>by show aa (D.int (A.map aG).length)=_;rw[a_]
  show fG (λρ=>∃(R:List PR) (w:Q0e) (X U:Sv),(GoodR x.length (R++[(x,w)])/\R.length<=2000000)/\ρ=[.ro (.gK ns),.ro (aE x),.ro (aI dr),.ro (aI sz),.ro (.lst ((R++[(x,w)]).map aG)),X,U,.no,.no]) ?_ λρ ⟨R,w,X,U,⟨g,Gm⟩,e⟩=>?_
  .rw [bq,cf,cy] at l0;show cR (Zv (η sz 0%3=1)) (eW (aL (x:=.int (η sz 0%3)) (y:=.int 1) (aL (x:=.int (η sz 0)) (y:=.int 3) (PV rfl (by decide) (by decide)) rfl (bG (by decide))) rfl cN) rfl) (λ_=>?_) λ_=>fH ⟨F,n,.no,.no,⟨g0,by lia⟩,rfl⟩;obtain⟨s4,es4⟩:=UX sz (aa 1) (aa 5);have s4l:s4.length<=7:=by
    have:XZ (aI sz) (aa 1) (aa 5)=aa (.lst (mE (sz.map D.int) (aa 1) (aa 5))):=rfl;rw[es4] at this;have h2:=congrArg (λo=>match o with|some (D.lst l)=>l.length|_=>0) this
    change (s4.map D.int).length=(mE (sz.map D.int) (aa 1) (aa 5)).length at h2
    rw[a_] at h2;rw[h2];unfold mE;show gi (List.length_take_le' _ _) (gi (by rw[m_];show Nat.sub_le _ _) (by rw[a_];lia))
   have aLa:x.length+Ord.tri x.length<=45:=by have t1:=IA x.length;have t2:x.length*x.length<=9*x.length:=a1S _ hn;lia
   obtain⟨d1,o1,y,ly,ry,rfl⟩:=pW (s4++dr) x.length 3 hn (by rw[bq];lia);show dU [.ro (.gK ns),.ro (aE x),.ro (aI dr),.ro (aI sz),.ro (.lst ((F++[(x,n)]).map aG)),.ro (aE y),.no,.no,.no] (dY _ (dC (x:=aI (s4++dr)) (y:=.int x.length) (z:=.int 3) (aL (x:=aI s4) (y:=aI dr) (YD (d:=aI sz) rfl rfl rfl es4) rfl ?_) (bP rfl bZ) rfl o1) rfl) ?_
   .unfold aI;rw[d7 (by rw[a_,a_];lia),cc]
   have gy:=IV (x:=y) ∅;have mb:=oW ry;have ml:=IK (x:=y);have mg:(shares y).sum=(gl y:Int):=by rw[<- ml];rfl
   show cR (Zv (2*(shares y).sum+((F++[(x,n)]).length:Int)<=280)) (eW (aL (x:=.int (2*(shares y).sum+((F++[(x,n)]).length:Int))) (y:=.int 280) (aL (x:=.int (2*(shares y).sum)) (y:=.int (F++[(x,n)]).length) (aL (x:=.int 2) (y:=.int (shares y).sum) rfl (jL rfl (CT ry ∅)) (oS (by decide))) (bP rfl (len0 _)) dN) rfl t8) rfl) (λ_=>?_) λ_=>fH ⟨F,n,.ro (aE y),.no,⟨g0,by lia⟩,rfl⟩;obtain⟨R1,w1,g1,l1,e1⟩:=vE (dr:=dr) ry ∅ ∅;rw[ly] at g1;show dU [.ro (.gK ns),.ro (aE x),.ro (aI dr),.ro (aI sz),.ro (.lst ((F++[(x,n)]).map aG)),.ro (aE y),.ro (.lst ((R1++[(y,w1)]).map aG)),.no,.no] (dY _ (c6 rfl rfl e1) rfl) ?_;have gm:=g1.moved g0;have mv:=CW (m:=(R1++[(y,w1)]).length) g0 (by rw[bq,cf,cy];lia);generalize R1++[(y,w1)]=A at *;have spl:A++(F++[(x,n)]).map (l9 A.length)=(A++F.map (l9 A.length))++[(x,(l9 A.length (x,n)).2)]:=by rw[cc,<- lr];congr 1;show[l9 A.length (x,n)]=_;congr 1;show yc (sV _ _) rfl
   rw[spl] at gm;show eT (.lst (((A++F.map (l9 A.length))++[(x,(l9 A.length (x,n)).2)]).map aG)) (aL (x:=.lst (A.map aG)) (y:=.lst (((F++[(x,n)]).map (l9 A.length)).map aG)) rfl (c6 (x:=.lst ((F++[(x,n)]).map aG)) (y:=.int A.length) rfl (bP rfl (len0 _)) mv) ?_) ⟨A++F.map (l9 A.length),(l9 A.length (x,n)).2,.ro (aE y),.ro (.lst (A.map aG)),⟨gm,by rw[bq,a_];lia⟩,rfl⟩;rw[d7 (by rw[a_,a_,a_,bq,cf,cy];lia),<- cc,spl]
  subst e;have hA:(R++[(x,w)]).length=R.length+1:=by rw[bq,cf,cy]
  -- rows told twice
  have m30:=gn (η sz 3) (b:=4) (by decide);have m31:=gz (η sz 3) (b:=4) (by decide)
  let pick:Int->PR:=λk=>((R++[(x,w)])[((η sz 1+k*η sz 2)%((R++[(x,w)]).length:Int)).toNat]?).getD (x,w)
  have AO:∀k:Int,(R++[(x,w)])[((η sz 1+k*η sz 2)%((R++[(x,w)]).length:Int)).toNat]?=aa (pick k)/\0<=(η sz 1+k*η sz 2)%((R++[(x,w)]).length:Int):=λk=>by have h0:=gn (η sz 1+k*η sz 2) (show((R++[(x,w)]).length:Int)≠0 by lia);have Z:=gz (η sz 1+k*η sz 2) (show(0:Int)<((R++[(x,w)]).length:Int) by lia);show⟨?_,h0⟩;show _=aa (((R++[(x,w)])[((η sz 1+k*η sz 2)%((R++[(x,w)]).length:Int)).toNat]?).getD (x,w));rw[bo ∅];rfl
  let K:List PR:=(aS 0 (η sz 3%4).toNat).map pick
  have T0l:K.length<=4:=by show((aS 0 (η sz 3%4).toNat).map pick).length<=4;rw[a_,aN];lia
  have T0m:∀t∈K,t∈R++[(x,w)]:=λt ht=>by obtain⟨k,_,rfl⟩:=fq.1 ht;show ia (AO k).1
  show bF [.ro (.gK ns),.ro (aE x),.ro (aI dr),.ro (aI sz),.ro (.lst ((R++[(x,w)]).map aG)),X,U,.ow (.lst (K.map aG)),.no] (Oz ?_) ?_
  .have e5:K.map aG=(aS 0 (η sz 3%4).toNat).map λk=>aG (pick k):=by show((aS 0 (η sz 3%4).toNat).map pick).map aG=_;rw[gd];rfl
   rw[e5];show i7 ((aS 0 (η sz 3%4).toNat).map D.int) ?_ (by rw[a_,aN];lia) (fL D.int (λk=>aG (pick k)) _ λk hk=>?_)
   .refine sO ?_ ∅;rw[show(((η sz 3%4).toNat:Nat):Int)=η sz 3%4 by lia];show aL (x:=.int (η sz 3)) (y:=.int 4) (PV rfl (by decide) (by decide)) rfl (bG (by decide))
   .have hr:=bD.1 hk;show⟨[aa (.int k),aa (.lst ((R++[(x,w)]).map aG)),aa (aI sz)],rfl,?_⟩;have i1:aO (aI sz) (.int 1)=aa (.int (η sz 1)):=lG (by decide) ∅;have i2:aO (aI sz) (.int 2)=aa (.int (η sz 2)):=lG (by decide) ∅;show aL (x:=.lst ((R++[(x,w)]).map aG)) (y:=.int ((η sz 1+k*η sz 2)%((R++[(x,w)]).length:Int))) rfl (aL (x:=.int (η sz 1+k*η sz 2)) (y:=.int (R++[(x,w)]).length) (aL (x:=.int (η sz 1)) (y:=.int (k*η sz 2)) (aL (x:=aI sz) (y:=.int 1) rfl rfl i1) (aL (x:=.int k) (y:=.int (η sz 2)) rfl (aL (x:=aI sz) (y:=.int 2) rfl rfl i2) (oS ∅)) dN) (bP rfl (len0 _)) (bG ∅)) ?_;have:=nV (AO k).1;rw[show((((η sz 1+k*η sz 2)%((R++[(x,w)]).length:Int)).toNat:Nat):Int)=(η sz 1+k*η sz 2)%((R++[(x,w)]).length:Int) by have:=(AO k).2;lia] at this;show this
  have okL:oF x.length (R++[(x,w)]) R.length (x,w):=g R.length (x,w) (by rw[ir (bh _),ou];rfl);have Va:aO (.lst ((R++[(x,w)]).map aG)) (.int (-1))=aa (aG (x,w)):=by rw[cc];show uD
  show bF [.ro (.gK ns),.ro (aE x),.ro (aI dr),.ro (aI sz),.ro (.lst ((R++[(x,w)]).map aG)),X,U,.ow (.lst (K.map aG)),.ro (τ w)] (dY (τ w) (aL (x:=aG (x,w)) (y:=.int 1) (aL (x:=.lst ((R++[(x,w)]).map aG)) (y:=.int (-1)) rfl rfl Va) rfl rfl) rfl) ?_;have Bh:aP [τ w]=aa (.int w.length):=kT;show fG (λρ=>∃T:List PR,(T.length<=5 /\∀t∈T,t∈R++[(x,w)])/\ρ=[.ro (.gK ns),.ro (aE x),.ro (aI dr),.ro (aI sz),.ro (.lst ((R++[(x,w)]).map aG)),X,U,.ow (.lst (T.map aG)),.ro (τ w)]) ?_ λρ ⟨T,⟨Tl,Tm⟩,e⟩=>?_
  .refine cR (Zv ((0:Int)<w.length)&&Zv (η sz 5%2=1)) (oD (b:=Zv ((0:Int)<w.length)) (eW (aL (x:=.int w.length) (y:=.int 0) (bP rfl Bh) rfl dZ) rfl) (λh=>?_) λh=>by rw[h];rfl) (λY=>?_) λ_=>fH ⟨K,⟨by lia,T0m⟩,rfl⟩
   .rw [h,de];show eW (aL (x:=.int (η sz 5%2)) (y:=.int 1) (aL (x:=.int (η sz 5)) (y:=.int 2) (PV rfl (by decide) (by decide)) rfl (bG (by decide))) rfl cN) rfl
   .rw [cm,decide_eq_true_eq] at Y;rcases okL.why with z|⟨a,b,p,q,u,v,lo,I,ha,hb,hlo,hp,hq,up,YB,vq,YC⟩
    .have:w=[]:=z.2;rw[this] at Y;simp at Y
    .have I:w=[a,b,(p:Int),(q:Int)]:=I;have s0:=gn (η sz 6) (b:=2) (by decide);have s1:=gz (η sz 6) (b:=2) (by decide);obtain⟨c,t,hct,ec⟩:∃(c:Nat) (t:PR),(R++[(x,w)])[c]?=aa t/\aO (τ w) (.int (2+η sz 6%2))=aa (.int c):=by
      rcases(show η sz 6%2=0\/η sz 6%2=1 by lia) with z|z
      .exact ⟨p,u,up,by rw[z,I];rfl⟩
      .exact ⟨q,v,vq,by rw[z,I];rfl⟩
     show⟨_,CK (d:=aG t) (ds:=K.map aG) (aL (x:=.lst ((R++[(x,w)]).map aG)) (y:=.int c) rfl (aL (x:=τ w) (y:=.int (2+η sz 6%2)) rfl (aL (x:=.int 2) (y:=.int (η sz 6%2)) rfl (aL (x:=.int (η sz 6)) (y:=.int 2) (PV rfl (by decide) (by decide)) rfl (bG (by decide))) dN) ec) (nV hct)) rfl (by rw[a_];lia),K++[t],⟨by rw[bq,cf,cy];lia,λs hs=>?_⟩,?_⟩
     .rcases di.1 hs with z|z
      .exact T0m s z
      .rw [bt] at z;rw[z];show ia hct
     .rw [cc (f:=aG) (l₁:=K)];rfl
  subst e;obtain⟨gT,J⟩:=g.twice Tm;have hRT:(R++T).length<=2000005:=by rw[bq];lia
  show bF [.ro (.gK ns),.ro (aE x),.ro (aI dr),.ro (aI sz),.ro (.lst ((R++T++[(x,w)]).map aG)),X,U,.ow (.lst (T.map aG)),.ro (τ w)] (X8 ((R++T++[(x,w)]).map aG) ?_ (CV _) rfl) ?_
  .refine aL (x:=.lst ((R++T).map aG)) (y:=.lst [aG (x,w)]) (aL (x:=.lst (R.map aG)) (y:=.lst (T.map aG)) (YD (d:=.lst ((R++[(x,w)]).map aG)) rfl rfl rfl (by rw[cc];show uF)) rfl ?_) (YD (d:=.lst ((R++[(x,w)]).map aG)) rfl rfl rfl (by rw[cc];show IY)) ?_
   .rw [d7 (by rw[a_,a_];lia),<- cc]
   .rw [CB (by rw[a_];simp only[cf,cy];lia),cc (l₁:=R++T)];rfl
  -- the later ones named
  show fG (λρ=>∃O:Q0e,oF x.length (R++T) (R++T).length (x,O)/\ρ=[.ro (.gK ns),.ro (aE x),.ro (aI dr),.ro (aI sz),.ro (.lst ((R++T++[(x,w)]).map aG)),X,U,.ow (.lst (T.map aG)),.ro (τ O)]) ?_ λρ ⟨O,okW,e⟩=>?_
  .refine cR (Zv ((0:Int)<w.length)&&Zv (η sz 5/2%2=1)) (oD (b:=Zv ((0:Int)<w.length)) (eW (aL (x:=.int w.length) (y:=.int 0) (bP rfl Bh) rfl dZ) rfl) (λh=>?_) λh=>by rw[h];rfl) (λY=>?_) λ_=>fH ⟨w,J,rfl⟩
   .rw [h,de];show eW (aL (x:=.int (η sz 5/2%2)) (y:=.int 1) (aL (x:=.int (η sz 5/2)) (y:=.int 2) (aL (x:=.int (η sz 5)) (y:=.int 2) (PV rfl (by decide) (by decide)) rfl (iT (by decide) (by decide))) rfl (bG (by decide))) rfl cN) rfl
   .rw [cm,decide_eq_true_eq] at Y;rcases J.why with z|⟨a,b,p,q,u,v,lo,I,ha,hb,hlo,hp,hq,up,YB,vq,YC⟩
    .have:w=[]:=z.2;rw[this] at Y;simp at Y
    .have I:w=[a,b,(p:Int),(q:Int)]:=I;obtain⟨c1,v1,Z,h2,h3⟩:=yN (l:=(x,w)) up ∅;obtain⟨L,v2,k1,k2,k3⟩:=yN (l:=(x,w)) vq ∅;show eT (τ [a,b,(c1:Int),(L:Int)]) ?_ ⟨[a,b,(c1:Int),(L:Int)],⟨J.rows,J.len,.inr ⟨a,b,c1,L,v1,v2,lo,rfl,ha,hb,hlo,(cg.1 Z).1,(cg.1 k1).1,Z,by rw[h2];show YB,k1,by rw[k2];show YC⟩⟩,rfl⟩;have q0:∀{ρ:b7},ρ[8]?=aa (aa (τ w))->ρ[4]?=aa (aa (.lst ((R++T++[(x,w)]).map aG)))->bN (aA (aB aO (aF 8) (eC (.int 0))) (aA (aB aO (aF 8) (eC (.int 1))) (aA (aM LL.c7 (aA (aF 4) (aA (aB aO (aF 8) (eC (.int 2))) aH))) (aA (aM LL.c7 (aA (aF 4) (aA (aB aO (aF 8) (eC (.int 3))) aH))) aH)))) ρ=aa (τ [a,b,(c1:Int),(L:Int)]):=λ{ρ} h8 h4=>by
      have e8:aF 8 ρ=aa (τ w):=by unfold aF;rw[h8];rfl
      have e4:aF 4 ρ=aa (.lst ((R++T++[(x,w)]).map aG)):=by unfold aF;rw[h4];rfl
      have f0:aB aO (aF 8) (eC (.int 0)) ρ=aa (.int a):=aL e8 (y:=.int 0) rfl (by rw[I];rfl);have f1:aB aO (aF 8) (eC (.int 1)) ρ=aa (.int b):=aL e8 (y:=.int 1) rfl (by rw[I];rfl);have f2:aB aO (aF 8) (eC (.int 2)) ρ=aa (.int (p:Int)):=aL e8 (y:=.int 2) rfl (by rw[I];rfl);have f3:aB aO (aF 8) (eC (.int 3)) ρ=aa (.int (q:Int)):=aL e8 (y:=.int 3) rfl (by rw[I];rfl);unfold bN;rw[show aA (aB aO (aF 8) (eC (.int 0))) (aA (aB aO (aF 8) (eC (.int 1))) (aA (aM LL.c7 (aA (aF 4) (aA (aB aO (aF 8) (eC (.int 2))) aH))) (aA (aM LL.c7 (aA (aF 4) (aA (aB aO (aF 8) (eC (.int 3))) aH))) aH))) ρ=aa [.int a,.int b,.int c1,.int L] by unfold aA aH;have g2:aM LL.c7 (aA (aF 4) (aA (aB aO (aF 8) (eC (.int 2))) aH)) ρ=aa (.int c1):=c6 e4 f2 h3;have g3:aM LL.c7 (aA (aF 4) (aA (aB aO (aF 8) (eC (.int 3))) aH)) ρ=aa (.int L):=c6 e4 f3 k3;unfold aA aH at g2 g3;rw[f0,f1,g2,g3];rfl]
      rfl
     show q0 rfl rfl
  subst e;show gS _ ?_ ⟨R++T,O,gT.snoc okW,by lia,rfl⟩;have Yw:aO (.lst ((R++T++[(x,w)]).map aG)) (.int (-1))=aa (aG (x,w)):=by rw[cc (l₁:=R++T)];show uD
  show rJ (x:=aE x) rfl (aL (x:=.lst ((R++T).map aG)) (y:=.lst [aG (x,O)]) (YD (d:=.lst ((R++T++[(x,w)]).map aG)) rfl rfl rfl (by rw[cc (l₁:=R++T)];show uF)) ?_ ?_)
  .unfold dB;rw[args1 (x:=aG (x,O)) (rJ (x:=aE x) (y:=τ O) (aL (x:=aG (x,w)) (y:=.int 0) (aL (x:=.lst ((R++T++[(x,w)]).map aG)) (y:=.int (-1)) rfl rfl Yw) rfl rfl) rfl)];rfl
  .rw [d7 (by rw[a_];simp only[cf,cy];lia),cc (l₁:=R++T)];rfl
 obtain⟨d,e,R,w,Z,h2,rfl⟩:=i5 rfl fin;show⟨x,R,w,hn,hx,Z,h2,e⟩
end LL
namespace YE
open L3 L4 LL
def AQ{l:Q0e}{j:Nat}{a:Int}(h:l[j]?=aa a):η l (j:Int)=a:=by unfold η;rw[gf,h];rfl
def okR(n:Int)(xs:Q0e)(p:Int×Nat):Bool:=(Zv (0<=p.1)&&Zv (p.1<n)) && !(Zv (0<(p.2:Int))&&Zv (p.1<=η xs ((p.2:Int)-1)))
def ris(n:Int)(xs:Q0e):Bool:=xs.zipIdx.all (okR n xs)
theorem xJ{xs:Q0e}{n:Int}:jZ [τ xs,.int n]=.ok (.bl (ris n xs)):=by
 unfold jZ;have L:=nR (g:=BZ 2 3) (b:=aJ (dS (iR (tV (aM LL.eD (aA d9 (aR 1)))))
    (bY (eC (.bl ag)))
    cH)
   (dS (fD (tV (aB jW dJ (eI 0))) (tV (aB xF (aB aO cZ (aB fJ dJ (eI 1))) d9)))
    (bY (eC (.bl ag)))
    cH)) (z:=.bl ag) (λρ=>∃d a,ρ=[Sv.ro (τ xs),Sv.ro (.int n),d,a]) (λp:Int×Nat=>D.tup [.int (p.2:Int),.int p.1]) (okR n xs) xs.zipIdx
   [Sv.ro (τ xs),Sv.ro (.int n),Sv.no,Sv.no] ⟨_,_,rfl⟩ (by
  rintro⟨x,j⟩ v _ ⟨d,a,rfl⟩;have q:xs[j]?=aa x:=yi.mp v;have A:=(cg.mp q).1;show⟨[Sv.ro (τ xs),Sv.ro (.int n),Sv.ro (.int j),Sv.ro (.int x)],rfl,?_⟩;have l:iR (tV (aM LL.eD (aA d9 (aR 1)))) (bB [Sv.ro (τ xs),Sv.ro (.int n),Sv.ro (.int j),Sv.ro (.int x)])=aa (!(Zv (0<=x)&&Zv (x<n))):=TH (eW (c6 (x:=.int x) (y:=.int n) rfl rfl (iV x n)) rfl) rfl;have m:fD (tV (aB jW dJ (eI 0))) (tV (aB xF (aB aO cZ (aB fJ dJ (eI 1))) d9)) (bB [Sv.ro (τ xs),Sv.ro (.int n),Sv.ro (.int j),Sv.ro (.int x)])=aa (Zv (0<(j:Int))&&Zv (x<=η xs ((j:Int)-1))):=by
   show oD (b:=Zv (0<(j:Int))) (eW (binI (x:=j) (y:=0) rfl rfl dZ) rfl) (λh=>?_) (λh=>by rw[h];rfl);have F:0<(j:Int):=by simpa using h
   rw[h,de];show eW (aL (aL (x:=τ xs) (y:=.int ((j:Int)-1)) rfl (binI (x:=j) (y:=1) rfl rfl eK) (AA ∅ ∅)) rfl jY) rfl
  constructor
  .intro h;unfold okR at h;rw[cm,jg] at h;show⟨_,cL _ (rE (by rw[l,h.1];rfl) rfl) (rE (by rw[m];show congrArg aa h.2) rfl),_,_,rfl⟩
  .intro h;unfold okR at h
   cases h1:(Zv (0<=x)&&Zv (x<n)) with
   |false=>show l8 (sN (by rw[l,h1];rfl) (d6 rfl))
   |true =>
    simp only[h1,de,yz] at h;show cL _ (rE (by rw[l,h1];rfl) rfl) (sN (by rw[m];show congrArg aa h) (d6 rfl)))
 have it:sM (aR 0) (gO [Sv.ro (τ xs),Sv.ro (.int n),Sv.no,Sv.no])=aa (xs.zipIdx.map λp:Int×Nat=>D.tup [.int (p.2:Int),.int p.1]):=by show aa ((xs.map D.int).zipIdx.map λp=>D.tup [.int (p.2:Int),p.1])=_;rw[zipIdx_map,gd];rfl
 show iU rfl ?_
 cases h:ris n xs with
 |true =>
  obtain⟨o,e,d,a,rfl⟩:=L.1 h;show cL _ (z6 _ it e) (d6 rfl)
 |false=>show l8 (z6 _ it (L.2 h))
def AR{n:Int}{xs:Q0e}:ris n xs=ae↔xs.Pairwise (·<·) /\∀x∈xs,0<=x/\x<n:=by
 unfold ris;rw[ib];have m:∀(x:Int) (j:Nat),(x,j)∈xs.zipIdx↔xs[j]?=aa x:=λx j=>yi
 constructor
 .intro h;have nx:∀(j:Nat) (l:j+1<xs.length),xs[j]<xs[j+1]:=λj l=>by
   have:=h (xs[j+1],j+1) ((m _ _).mpr (bo l));unfold okR at this;have e:η xs (((j+1:Nat):Int)-1)=xs[j]:=by rw[show((j+1:Nat):Int)-1=(j:Int) by lia];show AQ (bo ∅)
   simp only[e,cm,jg,a2D,decide_eq_false_iff_not] at this;rcases this.2 with z|z
   .omega
   .omega
  have q:∀(d i:Nat) (p:i+d+1<xs.length),xs[i]<xs[i+d+1]:=by
   intro d
   induction d with
   |zero=>intro i p;show nx i p
   |succ d ih =>
    intro i p;have a:=ih i ∅;have b:=nx (i+d+1) ∅;show Int.lt_trans a b
  show⟨lg.mpr λi j hi l F=>?_,λx o=>?_⟩
  .have:=q (j-i-1) i ∅;have e:i+(j-i-1)+1=j:=by lia
   simpa only[e] using this
  .obtain ⟨j,l,rfl⟩:=oz o;have:=h (xs[j],j) ((m _ _).mpr (bo l));unfold okR at this;simp only[cm,decide_eq_true_eq] at this;show this.1
 .rintro ⟨v,y⟩ ⟨x,j⟩ A;have o:=(m _ _).mp A;obtain⟨l,rfl⟩:=cg.mp o;have r:=y xs[j] (jz l);unfold okR;simp only[r.1,r.2,decide_true,de,jg,a2D,decide_eq_false_iff_not];by_cases I:j=0
  .left;lia
  .right
   have e:η xs ((j:Int)-1)=xs[j-1]'∅:=by rw[show(j:Int)-1=((j-1:Nat):Int) by lia];show AQ (bo ∅)
   rw[e];have:=lg.mp v (j-1) j ∅ l ∅;lia
end YE
namespace K01
open L3 L4 LL
def below(x:Q0a)(r:Q0e):Bool:=r.all λt=>(row x t).all λc=>r.contains c
def vF(x:Q0a)(b:Int):Bool:=YE.ris x.length (row x b)&&(!(row x b).contains b&&below x (row x b))
def tells(x:Q0a):Bool:=Zv (x.length<=9)&&(aS 0 x.length).all λb=>vF x b
section
variable{x:Q0a}
theorem vG(sh:∀r∈x,r.length<=1000){r:Q0e}(m:∀t∈r,0<=t/\t<(x.length:Int)):fZ [aE x,τ r]=.ok (.bl (below x r)):=by
 unfold fZ;have key:=nR (g:=lA 2) (b:=(dS (iR (tV (bH allM (aA (cB 1 [1] (eE (aB aO (aF 0) (aF 2))) (g1 0) eO (aB (lC ag) (aF 0) (aF 1))) aH))))
    (bY (eC (.bl ag)))
    cH)) (z:=.bl ag) (λρ=>∃v,ρ=[Sv.ro (aE x),Sv.ro (τ r),v]) D.int (λt=>(row x t).all λc=>r.contains c) r [Sv.ro (aE x),Sv.ro (τ r),Sv.no] ⟨_,rfl⟩ λt l ρ n=>by
  obtain⟨v,rfl⟩:=n;have rt:=m t l;show⟨[Sv.ro (aE x),Sv.ro (τ r),Sv.ro (.int t)],rfl,?_⟩;have j:iR (tV (bH allM (aA (cB 1 [1] (eE (aB aO (aF 0) (aF 2))) (g1 0) eO (aB (lC ag) (aF 0) (aF 1))) aH))) (bB [Sv.ro (aE x),Sv.ro (τ r),Sv.ro (.int t)])=aa (!((row x t).all λc=>r.contains c)):=by
   show TH (eW (d:=.bl ((row x t).all λc=>r.contains c)) (bP (x:=.lst ((row x t).map λc=>D.bl (r.contains c))) (i7 ((row x t).map D.int) ?_ ?_ (fL D.int (λc=>D.bl (r.contains c)) _ λc o=>⟨_,rfl,aL (x:=.int c) (y:=τ r) rfl rfl FF⟩)) ?_) rfl) rfl
   .unfold eE;rw[aL (g:=aO) (a:=aF 0) (b:=aF 2) (x:=aE x) (y:=.int t) rfl rfl (gW rt.1 rt.2)];rfl
   .have:=sh _ (ia (iW rt.1 rt.2));rw[a_];lia
   .have e:((row x t).map λc=>D.bl (r.contains c))=((row x t).map λc=>r.contains c).map D.bl:=by rw[gd];rfl
    rw[e,z7,rh];rfl
  show⟨λh=>cR ag (by rw[j,h];rfl) (λz=>by cases z) λ_=>⟨_,rfl,_,rfl⟩,λh=>sN (by rw[j,h];rfl) (d6 rfl)⟩
 show iU rfl ?_
 cases h:below x r with
 |true =>
  obtain⟨ρ,e,v,rfl⟩:=key.1 h;show cL _ (z6 (r.map D.int) rfl e) (d6 rfl)
 |false=>show l8 (z6 (r.map D.int) rfl (key.2 h))
def FT(sh:∀r∈x,r.length<=1000){b:Int}(j:0<=b)(d:b<(x.length:Int)):p5 [aE x,.int b]=.ok (.bl (vF x b)):=by
 unfold p5;show iU rfl (cL [.ro (aE x),.ri b,.ro (τ (row x b))] (dY _ (aL (x:=aE x) (y:=.int b) rfl rfl (gW j d)) rfl) (d6 ?_));show FR (p:=YE.ris x.length (row x b)) (c6 (x:=τ (row x b)) (y:=.int x.length) rfl (bP rfl bZ) YE.xJ) (λa=>?_) λa=>by unfold vF;rw[a];rfl
 unfold vF;rw[a,de];show FR (p:=!(row x b).contains b) (aL (x:=.int b) (y:=τ (row x b)) rfl rfl t9) (λ_=>?_) λh=>by rw[h];rfl
 rw[show(!(row x b).contains b)=ae by assumption,de];show c6 (x:=aE x) (y:=τ (row x b)) rfl rfl (vG sh (YE.AR.1 a).2)
def AS(sh:∀r∈x,r.length<=1000)(m:x.length<=1000):lH [aE x]=.ok (.bl (tells x)):=by
 unfold lH;have a:gX [.int x.length]=.ok (.bl (!Zv (x.length<=9))):=by
  unfold gX;show iU rfl (d6 (binI (x:=x.length) (y:=9) rfl rfl ?_));rw[dZ];congr 2;by_cases h:x.length<=9
  .rw [Zx h,Zy ∅];rfl
  .rw [Zy h,Zx ∅];rfl
 show iU rfl ?_;unfold tells;by_cases d:x.length<=9
 .rw [Zx d] at a ⊢;show cL _ (rE (eW (jL (x:=.int x.length) (bP rfl bZ) a) rfl) rfl) (d6 ?_);show bP (x:=.lst ((aS 0 x.length).map λb=>D.bl (vF x b))) (i7 ((aS 0 x.length).map D.int) (sO (bP rfl bZ) ∅) (by rw[a_,aN];lia) (fL D.int (λb=>D.bl (vF x b)) _ λb j=>?_)) ?_
  .have l:=bD.1 j;show⟨_,rfl,c6 rfl rfl (FT sh ∅ ∅)⟩
  .have e:((aS 0 x.length).map λb=>D.bl (vF x b))=((aS 0 x.length).map λb=>vF x b).map D.bl:=by rw[gd];rfl
   rw[e,z7,rh,de];rfl
 .rw [Zy d] at a ⊢;show l8 (sN (eW (jL (x:=.int x.length) (bP rfl bZ) a) rfl) (d6 rfl))
end
def Sm(m:Nat)(y:Q0a):Prop:=y.length<=m /\∀r∈y,r.length<=m
def oX{m:Nat}{x:Q0a}{b:Nat}{r:Q0e}(h:Sm m x)(d:r.length<=m):Sm m (x.set b r):=⟨by rw[dm];show h.1,λq a=>by
 rcases List.mem_or_eq_of_mem_set a with a|rfl
 .exact h.2 q a
 .exact d⟩
end K01
namespace K33
open L3 L4
def fM:jV:=cM 5 1
  (aJ (dS (tV (aB jW (bH aP (aR 0)) (eI 9)))
   (bY (eC (.bl ag)))
   cH)
  (aJ (dM (bC (aA (bH aP (aR 0)) aH)) (lA 1)
   (dM (bC (aA (bH aP (aA (aB aO cZ cD) aH)) aH)) (lA 2)
    (aJ (bA 3 (aB aO (aB aO cZ cD) dJ))
    (aJ (dS (jS (tV (aB tL d9 (eI 0))) (jS (tV (aB xF d9 (bH aP (aR 0)))) (jS (tV (aB fK d9 cD)) (fD (tV (aB jW dJ (eI 0))) (tV (aB xF (aB aO (aB aO cZ cD) (aB fJ dJ (eI 1))) d9))))))
     (bY (eC (.bl ag)))
     cH)
    (dM (eE (aB aO cZ d9)) (lA 4)
     (dS (tV (aB (lC ae) fR (aB aO cZ cD)))
      (bY (eC (.bl ag)))
      cH))))))
  (bY (eC (.bl ae)))))
def lK:jV:=cM 10 2
  (aJ (dS (jS (tV (aB fK (bH aP (aR 1)) (eI 0))) (tV (aB j7 (aB aO (aB aO cD (fP (eI 1))) (eI 0)) cZ)))
   (bY (eC (.bl ag)))
   cH)
  (aJ (dM (bC (aA (bH aP (aR 1)) aH)) (lA 2)
   (aJ (oP (aT (aB aO cD dJ)) (BZ 3 4))
   (aJ (dS (jS (tV (aB j7 (bH aP (aR 3)) (bH aP (aR 0)))) (iR (tV (aM fM (aR 3)))))
    (bY (eC (.bl ag)))
    cH)
   (aJ (bA 5 (aM LL.iI (aR 3)))
   (dS (jS (tV (aB fK (bH aP (aR 5)) (eI 0))) (tV (aB j7 (bH aP (aR 4)) (eI 4))))
    (dS (jS (tV (aB jW (bH aP (aR 5)) (eI 0))) (tV (aB jW (bH aP (aR 4)) (eI 0))))
     (bY (eC (.bl ag)))
     cH)
    (aJ (oP (aT fR) (sf 6 7 8 9))
    (aJ (dS (jS (tV (aB (E6 ae) (bN (aA (bH xZ (aA gC (aR 7))) (aA (bH pQ (aA gC (aR 7))) aH))) gJ)) (jS (tV (aB tL qX (eI 0))) (jS (tV (aB xF qX dJ)) (jS (tV (aB tL BY (eI 0))) (tV (aB xF BY dJ))))))
     (bY (eC (.bl ag)))
     cH)
    (dS (jS (tV (aB j7 (aB aO (aB aO cD qX) (eI 0)) (aM LL.gU (aA d9 (aA gC (aR 7)))))) (tV (aB j7 (aB aO (aB aO cD BY) (eI 0)) (aM LL.gU (aA d9 (aA nN (aR 6)))))))
     (bY (eC (.bl ag)))
     cH))))))))
  (bY (eC (.bl ae)))))
def uG:jV:=cM 3 2
  (aJ (i0 2 (cB 1 [] (bC (aR 0)) (g1 0) eO (uM (aR 0))))
  (aJ (dS (fD (tV (aB jW cZ (eI 0))) (tV (aB fK (aB bU cD (eI 8)) (eI 0))))
   (rB 2 (aT (uM (aR 0))) (aB fJ cZ (eI 1)))
   (dS (fD (tV (aB jW cZ (eI 2))) (tV (aB fK (aB bU cD (eI 8)) (eI 1))))
    (aJ (rB 2 (aT (bN (aA (eI 2) aH))) (eI 0))
    (rB 2 (aT (bN (aA (eI 1) aH))) (eI 2)))
    (dS (fD (tV (aB jW cZ (eI 2))) (tV (aB fK (aB bU cD (eI 8)) (eI 2))))
     (rB 2 (aT (bN (aA (eI 1) (aA (eI 0) aH)))) (eI 2))
     (dS (fD (tV (aB jW cZ (eI 1))) (tV (aB fK (aB bU cD (eI 8)) (eI 3))))
      (rB 2 (aT (bN (aA (eI 0) (aA (eI 0) aH)))) (eI 1))
      (dS (fD (tV (aB jW cZ (eI 0))) (tV (aB fK (aB bU cD (eI 8)) (eI 4))))
       (rB 2 (aT (bN (aA (aB aO (dB (aA (fP (eI 1)) (aA (aB fJ (eI 1) (aB mG (aB qZ (eI 10) (eI 60)) (eI 10))) aH))) (aB bU (aB jJ cD (eI 8)) (eI 2))) aH))) (eI 0))
       (dS (fD (tV (aB jW cZ (eI 0))) (tV (aB fK (aB bU cD (eI 8)) (eI 5))))
        (rB 2 (fB (aB bS (aB aO dJ (aB fJ cZ (eI 1))) (bN (aA (aB aO (dB (aA cZ (aA (aB fJ (aB mG (aB qZ (eI 10) (eI 60)) (eI 10)) (eI 1)) aH))) (aB bU (aB jJ cD (eI 8)) (eI 2))) aH)))) (aB fJ cZ (eI 1)))
        (dS (fD (tV (aB jW cZ (eI 0))) (tV (aB fK (aB bU cD (eI 8)) (eI 6))))
         (B9 2 (ZR dJ xB (oE (fP (eI 1)))))
         (sX (kK 2 fF (aT (uM (aR 0))))))))))))
  (bY (bH eP (aR 2)))))
def p8:jV:=cM 15 6
  (aJ (oP (aT cD) (sf 6 7 8 9))
  (aJ (bA 10 (aB fJ (aB mG (aB qZ (eI 10) (eI 60)) (eI 10)) (eI 1)))
  (aJ (bA 11 (dB (aA (bN (aA gC (aR 6))) aH)))
  (aJ (dM (bC (aA (bH aP (aR 0)) aH)) (lA 12)
   (bA 11 (aB bS TQ (cB 1 [12] (eE (aB aO cZ Ov)) (g1 0) eO (bN (aA cZ (aR 1)))))))
  (aJ (bA 13 (aB aO TQ (aB bU (aB aO d9 (eI 2)) (bH aP (aR 11)))))
  (aJ (CA 14 [3,5,6,7,8,9,10,11,12,13] (aA (bN aH) (aA (bN (aA nN (aA gC (aA qX (aR 9))))) (aA (bN (aA gC (aA gC (aA qX (aR 9))))) (aA (bN (aA (aB aO (aF 13) (eI 0)) (aA (aB aO (aF 13) (eI 1)) (aA qX (aR 9))))) (aA (bN (aA (aB aO (dB (aA (bH aP (aR 0)) (aA (fP (eI 1)) (aA l7 (aA (fP l7) aH))))) (aB bU (aB aO d9 (eI 2)) (eI 4))) (aA nN (aA qX (aR 9))))) (aA (aB aO (dB (aA (bN (aA gC (aA nN (aA (aB fJ qX gJ) (aR 9))))) (aA (bN (aA gC (aA nN (aA qX (aA (aB fJ BY gJ) aH))))) aH))) (aB bU (aB aO d9 (eI 2)) (eI 2))) (aA (aB aO (dB (aA (bN (aA gC (aA nN (aA fR (aR 9))))) (aA (bN (aA gC (aA nN (aA qX (aR 4))))) aH))) (aB bU (aB aO d9 (eI 2)) (eI 2))) (aA (aB aO (dB (aA (bN (aA gC (aA nN (aA qX (aA (aB bU (aB jJ (aB aO d9 (eI 2)) (eI 4)) (bH pQ (aA (eI 1) (aR 4)))) aH))))) (aA (bN (aA gC (aA nN (aA qX (aR 10))))) (aA (bN (aA gC (aA nN (aA (fP l7) (aR 9))))) (aA (bN (aA gC (aA nN (aA l7 (aR 9))))) aH))))) (aB bU (aB aO d9 (eI 2)) (eI 4))) (aA (aB aO (dB (aA (bN (aA gC (aA nN (aR 8)))) (aA (bN (aA gC (aA nN (aA qX (aA BY (aR 9)))))) aH))) (aB bU (aB aO d9 (eI 2)) (eI 2))) (aA (bN (aA gC (aA nN (aA BY (aR 8))))) aH)))))))))))
  (bY (aB tM (aF 14) dJ))))))))
def gY:jV:=cM 7 3
  (aJ (bA 3 (cB 1 [0] (bC (aA (bH aP (aR 0)) aH)) (g1 0) (tV (aB jW (bH aP (aA (aB aO (aB aO cD cZ) (eI 1)) aH)) (eI 0))) cZ))
  (aJ (dS (tV (aB fK cD (eI 4)))
   (bA 3 (cB 1 [0] (bC (aA (bH aP (aR 0)) aH)) (g1 0) (tV (aB fK (bH aP (aA (aB aO (aB aO cD cZ) (eI 1)) aH)) (eI 0))) cZ))
   cH)
  (aJ (dS (tV (aB fK (bH aP (aR 3)) (eI 0)))
   (bY cZ)
   cH)
  (aJ (bA 4 (aB aO d9 (aB bU (aB aO dJ (eI 1)) (bH aP (aR 3)))))
  (aJ (oP (aT (aB aO cZ fR)) (BZ 5 6))
  (aJ (dS (tV (aB fK cD (eI 4)))
   (bA 6 (aB aO (dB (aA (bN (aA (eI 0) (aA (eI 1) (aA (eI 0) (aA (eI 0) aH))))) (aA (bN (aA (eI 0) aH)) aH))) (aB bU (aB aO dJ (eI 2)) (eI 2))))
   (bA 6 (aM p8 (aA gJ (aA gC (aA cD (aA dJ (aA fR (aA (bH aP (aR 0)) aH)))))))))
  (bY (aB bS (aB bS (t7 cZ xB (oE fR)) (dB (aA (bN (aA gJ (aR 6))) aH))) (t7 cZ (oE (aB bS fR (eI 1))) xB)))))))))
def lM:jV:=cM 6 3
  (aJ (i0 3 (dB aH))
  (aJ (dM (eE cZ) (BZ 4 5)
   (aJ (dS (tV (aB jW (bH aP (aR 5)) (eI 0)))
    (bA 5 (bN (aA (aB aO gJ (eI 0)) (aA (aB aO gJ (eI 1)) (aA (aB bS (aB aO gJ (eI 2)) (bH uN (aA (aB xF (aB aO gJ (eI 2)) cD) aH))) (aA (aB bS (aB aO gJ (eI 3)) (bH uN (aA (aB xF (aB aO gJ (eI 3)) cD) aH))) aH))))))
    cH)
   (sX (kK 3 fF (aT (bN (aA fR (aR 5))))))))
  (bY (aB bS (aB bS (t7 d9 xB (oE cD)) (dB (aR 2))) (t7 d9 (oE cD) xB)))))
def lN:jV:=cM 8 2
  (aJ (bA 2 (cB 1 [0] (bC (aA (aB fJ (bH aP (aR 0)) (eI 1)) aH)) (g1 0) (tV (aB jW (bH aP (aA (aB aO (aB aO cD cZ) (eI 1)) aH)) (eI 0))) cZ))
  (aJ (dS (tV (aB fK (bH aP (aR 2)) (eI 0)))
   (bY cZ)
   cH)
  (aJ (bA 3 (aB aO dJ (aB bU (aB aO cD (eI 1)) (bH aP (aR 2)))))
  (aJ (oP (aT (aB aO cZ d9)) (BZ 4 5))
  (aJ (bA 6 (aB aO cZ (aB aO gJ (eI 2))))
  (aJ (bA 5 (bN (aA (aB aO gJ (eI 0)) (aA (aB aO gJ (eI 1)) (aA (aB fJ (bH aP (aR 0)) (eI 1)) (aA (aB aO gJ (eI 3)) aH))))))
  (aJ (dS (tV (aB fK (aB bU (aB aO cD (eI 2)) (eI 2)) (eI 1)))
   (aJ (bA 6 (aB aO cZ (aB aO (aB aO (aB aO cZ d9) (eI 1)) (eI 3))))
   (bA 5 (bN (aA (aB aO gJ (eI 0)) (aA (aB aO gJ (eI 1)) (aA (aB aO (aB aO (aB aO cZ d9) (eI 1)) (eI 2)) (aA (aB fJ (bH aP (aR 0)) (eI 1)) aH)))))))
   cH)
  (aJ (bA 7 (aB bS (aB bS (t7 cZ xB (oE d9)) (dB (aA (bN (aA fR (aR 5))) aH))) (t7 cZ (oE (aB bS d9 (eI 1))) xB)))
  (bY (aB bS (aB bS (t7 nN xB (oE (fP (eI 1)))) (dB (aR 6))) (t7 nN (oE (fP (eI 1))) xB)))))))))))
def yO:jV:=cM 9 1
  (aJ (oP (aT (aM LL.lI (aR 0))) (BZ 1 2))
  (aJ (bA 3 (aM LL.dI (aA (aM LL.eJ (aA cZ (aA (eI 4) aH))) (aA (eI 5) (aA (eI 500009) aH)))))
  (aJ (bA 4 (aB bU (aB aO d9 (eI 0)) (eI 18)))
  (aJ (bA 5 cD)
  (aJ (dS (tV (aB fK fR (eI 1)))
   (bA 5 (aB aO (aB aO dJ (aB bU (aB aO d9 (eI 1)) (bH aP (aR 2)))) (eI 0)))
   (dS (tV (aB fK fR (eI 2)))
    (bA 2 (aM lM (aA dJ (aA (aB bU (aB aO d9 (eI 2)) (aB bS (bH aP (aR 2)) (eI 1))) (aA (bN (aA (aM uG (aA (bH aP (aR 1)) (aA (aB aO d9 (eI 1)) aH))) (aA (bN aH) aH))) aH)))))
    (dS (fD (tV (aB fK fR (eI 17))) (tV (fE tL tL (eI 0) (bH aP (aR 1)) (eI 6))))
     (aJ (bA 6 (aM LL.gG (aA (aM LL.fA (aA (aB bS d9 (aM LL.dI (aA (aM LL.eJ (aA cZ (aA (eI 5) aH))) (aA (eI 10) (aA (eI 600011) aH))))) (aA (aB fJ (bH aP (aR 1)) (eI 1)) (aA (eI 2) aH)))) (aR 3))))
     (dS (tV (aB KI (aB bS (bH aP (aR 6)) (bH aP (aR 2))) (eI 300)))
      (bA 2 (aB bS gC (aM LL.jG (aA dJ (aA (bH aP (aR 6)) aH)))))
      cH))
     (dS (tV (aB fK fR (eI 14)))
      (bA 2 (aM lN (aA dJ (aR 3))))
      (dS (tV (aB fK fR (eI 15)))
       (aJ (bA 7 (aB bU (aB aO d9 (eI 1)) (bH aP (aR 2))))
       (bA 2 (aB bS (aB bS (t7 dJ xB (oE nN)) (dB (aA (bN (aA (aB aO (aB aO dJ (aB bU (aB aO d9 (eI 2)) (bH aP (aR 2)))) (eI 0)) (aA (aB aO (aB aO dJ nN) (eI 1)) aH))) aH))) (t7 dJ (oE (aB bS nN (eI 1))) xB))))
       (dS (tV (aB fK fR (eI 16)))
        (bA 2 (dB aH))
        (dS (tV (fE tL tL (eI 2) fR (eI 14)))
         (bA 2 (aM gY (aA dJ (aA fR (aR 3)))))
         cH)))))))
  (aJ (bA 8 (aM LL.jC (aA gJ (aA (bH eP (aR 2)) aH))))
  (bY (oN (N3 "bool" qX) (aB fK qX (aM lK (aA gJ (aR 2))))))))))))
open LL K01
theorem uH{m:Type}{it:AF}{g:TX}{b:L4.SF}{z:D}{ρ:bK}(P:bK->Prop)(mk:m->D)(ok:m->Bool)(l:List m)(h:it (gO ρ)=aa (l.map mk))(o:P ρ)(step:∀a∈l,∀ρ,P ρ ->∃d,g (mk a) ρ=aa d/\(ok a=ae->Nx (b d) P)/\(ok a=ag->b d=.rt z)):
  (l.all ok=ae->Nx (dM it g b ρ) P)/\(l.all ok=ag->dM it g b ρ=.rt z):=by
 have L:=nR (g:=g) (b:=b) (z:=z) P mk ok l ρ o step;show⟨λe=>?_,λe=>z6 _ h (L.2 e)⟩;obtain⟨j,p,n⟩:=L.1 e;show⟨j,z6 _ h p,n⟩
theorem IZ{f k:L4.SF}{ρ:bK}{b:Bool}{P:bK->Prop}{z y:D}(h:(b=ae->Nx (f ρ) P)/\(b=ag->f ρ=.rt z))(j:b=ae ->∀a,P a->k a=.rt y)(h2:b=ag->z=y):aJ f k ρ=.rt y:=by
 cases hb:b with
 |true =>
  obtain⟨a,e,d⟩:=h.1 hb;show cL a e (j hb a d)
 |false=>show l8 (by rw[h.2 hb,h2 hb])
section
variable{x:Q0a}
def K0(x:Q0a)(b:Int)(k:Int):Bool:=!(Zv (η (row x b) k<0)||(Zv ((x.length:Int)<=η (row x b) k)||(Zv (η (row x b) k=b)||(Zv (0<k)&&Zv (η (row x b) k<=η (row x b) (k-1))))))
def okA(x:Q0a)(b:Int)(k:Int):Bool:=K0 x b k&&(row x (η (row x b) k)).all λc=>(row x b).contains c
def UY{b:Int}:((aS 0 (row x b).length).all λk=>okA x b k)=vF x b:=by
 rw[jh];unfold vF;rw[ib,cm,cm,YE.AR];generalize F:row x b=r;have key:∀k,okA x b k=ae↔((0<=η r k/\η r k<(x.length:Int))/\η r k≠b/\(0<k->η r (k-1)<η r k)) /\∀c∈row x (η r k),c∈r:=λk=>by
  unfold okA K0;rw[F,cm,ib];show and_congr ?_ ?_
  .simp only[jg,a2B,Bool.and_eq_false_imp,decide_eq_false_iff_not,decide_eq_true_eq]
   constructor
   .rintro ⟨o,h2,n,l⟩;show⟨⟨by lia,by lia⟩,n,λh=>by have:=l h;lia⟩
   .rintro ⟨⟨o,h2⟩,n,l⟩;show⟨by lia,by lia,n,λh=>by have:=l h;lia⟩
  .simp
 have d:∀{j:Nat} {a:Int},r[j]?=aa a->η r (j:Int)=a:=λh=>YE.AQ h
 constructor
 .intro h;have h':∀(j:Nat) (a:Int),r[j]?=aa a->((0<=a/\a<(x.length:Int))/\a≠b/\(0<(j:Int)->η r ((j:Int)-1)<a)) /\∀c∈row x a,c∈r:=λj a e=>by have m:=(cg.1 e).1;have:=(key j).1 (h j (bD.2 ⟨by lia,by lia⟩));rw[d e] at this;show this
  show⟨⟨?_,λa y=>?_⟩,?_,?_⟩
  .rw [lg];intro i j hi m J
   induction j with
   |zero=>lia
   |succ j ih =>
    have o:=(h' (j+1) _ (bo m)).1.2.2 ∅;rw[show((j+1:Nat):Int)-1=(j:Int) by lia,d (bo (show j<r.length by lia))] at o;by_cases e:i=j
    .subst e;show o
    .have:=ih ∅ ∅;lia
  .obtain ⟨j,e⟩:=km.1 y;show(h' j a e).1.1
  .rw [jg,za,Ne,lq];intro K;obtain⟨j,e⟩:=km.1 K;show(h' j b e).1.2.1 rfl
  .unfold below;rw[ib];intro a y;rw[ib];intro c v;obtain⟨j,e⟩:=km.1 y;show lq.2 ((h' j a e).2 c v)
 .rintro ⟨⟨o,h2⟩,n,l⟩ k I;have A:=bD.1 I;obtain⟨j,rfl⟩:=Ew A.1;have m:j<r.length:=by lia
  have e:=d (bo m);rw[key];have q:r[j]∈r:=jz m;rw[e];show⟨⟨h2 _ q,λz=>?_,λL=>?_⟩,λc v=>?_⟩
  .rw [jg,za,Ne,lq] at n;show n (z▸q)
  .have p:j-1<r.length:=by lia
   rw[show(j:Int)-1=((j-1:Nat):Int) by lia,d (bo p)];show(lg.1 o) (j-1) j p m ∅
  .unfold below at l;rw[ib] at l;have:=l _ q;rw[ib] at this;show lq.1 (this c v)
def vH(h:tells x=ae):Ord.Rows x/\x.length<=9:=by
 unfold tells at h;rw[cm,ib] at h;have p:x.length<=9:=of_decide_eq_true h.1;have d:∀(b:Nat) (r:Q0e),x[b]?=aa r->(r.Pairwise (·<·) /\∀a∈r,0<=a/\a<(x.length:Int))/\(b:Int)∉r/\below x r=ae:=λb r e=>by
  have y:=(cg.1 e).1;have:=h.2 (b:Int) (bD.2 ⟨by lia,by lia⟩);have q:row x (b:Int)=r:=by unfold row;rw[gf,e];rfl
  unfold vF at this;rw[q,cm,cm,YE.AR] at this;show⟨this.1,?_,this.2.2⟩;have m:=this.2.1;rw[jg,za,Ne,lq] at m;show m
 show⟨⟨λb r e=>(d b r e).1.1,λb r e=>(d b r e).1.2,λb a r v e o ev c n=>?_,λb r e=>(d b r e).2.1⟩,p⟩;have j:=(d b r e).2.2;unfold below at j;rw[ib] at j;have:=j _ o;rw[ib] at this;have l:row x (a:Int)=v:=by unfold row;rw[gf,ev];rfl
 rw[l] at this;show lq.1 (this c n)
def vI(sh:∀r∈x,r.length<=1000)(hl:x.length<=1000):fM [aE x]=.ok (.bl (tells x)):=by
 unfold fM;show iU rfl ?_;by_cases U:x.length<=9
 rotate_left
 .refine l8 (sN (eW (binI (x:=x.length) (y:=9) (bP rfl bZ) rfl dZ) ?_) (d6 ?_))
  .rw [Zx ∅];rfl
  .unfold tells;rw[Zy U];rfl
 show cL _ (rE (eW (binI (x:=x.length) (y:=9) (bP rfl bZ) rfl dZ) (by rw[Zy ∅];rfl)) rfl) ?_;have ht:tells x=(aS 0 x.length).all λb=>(aS 0 (row x b).length).all λk=>okA x b k:=by
  unfold tells;rw[Zx U,de];congr 1
  funext b
  show UY.symm
 rw[ht];show IZ (z:=.bl ag) (uH (λρ=>∃O m l d,ρ=[Sv.ro (aE x),O,m,l,d]) D.int (λb=>(aS 0 (row x b).length).all λk=>okA x b k) (aS 0 x.length) (sO (bP rfl bZ) ∅) ⟨_,_,_,_,rfl⟩ λb hb ρ n=>?_) (λh o n=>?_) λh=>by rw[h]
 rotate_left
 .rw [h];show d6 rfl
 obtain⟨O,m,l,d,rfl⟩:=n;have rb:=bD.1 hb;have j:=gW (rows:=x) (i:=b) ∅ ∅;have mb:=ia (iW (x:=x) (t:=b) ∅ ∅);show⟨_,rfl,?_⟩;have L:=uH (it:=bC (aA (bH aP (aA (aB aO (aF 0) (aF 1)) aH)) aH)) (g:=lA 2) (b:=(aJ (bA 3 (aB aO (aB aO (aF 0) (aF 1)) (aF 2)))
    (aJ (dS (jS (tV (aB tL (aF 3) (eI 0))) (jS (tV (aB xF (aF 3) (bH aP (aR 0)))) (jS (tV (aB fK (aF 3) (aF 1))) (fD (tV (aB jW (aF 2) (eI 0))) (tV (aB xF (aB aO (aB aO (aF 0) (aF 1)) (aB fJ (aF 2) (eI 1))) (aF 3)))))))
     (bY (eC (.bl ag)))
     cH)
    (dM (eE (aB aO (aF 0) (aF 3))) (lA 4)
     (dS (tV (aB (lC ae) (aF 4) (aB aO (aF 0) (aF 1))))
      (bY (eC (.bl ag)))
      cH))))) (z:=.bl ag) (ρ:=[Sv.ro (aE x),Sv.ro (.int b),m,l,d]) (λρ=>∃m l d,ρ=[Sv.ro (aE x),Sv.ro (.int b),m,l,d]) D.int (okA x b) (aS 0 (row x b).length)
   (sO (bP (aL (x:=aE x) (y:=.int b) rfl rfl j) kT) (by have:=sh _ mb;lia)) ⟨_,_,_,rfl⟩ λk hk ρ n=>by
  obtain⟨m,l,d,rfl⟩:=n;have rk:=bD.1 hk;have A:0<=k:=rk.1;have v:k<((row x b).length:Int):=by lia
  have K:=AA (fl:=row x b) A v;show⟨[Sv.ro (aE x),Sv.ro (.int b),.ri k,l,d],rfl,?_⟩;have J:bA 3 (aB aO (aB aO (aF 0) (aF 1)) (aF 2)) [Sv.ro (aE x),Sv.ro (.int b),.ri k,l,d]=.nx [Sv.ro (aE x),Sv.ro (.int b),.ri k,.ro (.int (η (row x b) k)),d] :=
   dY _ (aL (x:=τ (row x b)) (y:=.int k) (aL (x:=aE x) (y:=.int b) rfl rfl j) rfl K) rfl
  have Y:(jS (tV (aB tL (aF 3) (eI 0))) (jS (tV (aB xF (aF 3) (bH aP (aR 0)))) (jS (tV (aB fK (aF 3) (aF 1))) (fD (tV (aB jW (aF 2) (eI 0))) (tV (aB xF (aB aO (aB aO (aF 0) (aF 1)) (aB fJ (aF 2) (eI 1))) (aF 3))))))) (bB [Sv.ro (aE x),Sv.ro (.int b),.ri k,.ro (.int (η (row x b) k)),d])=aa (!K0 x b k):=by
   unfold K0;rw[Ey];show kP (b:=Zv (η (row x b) k<0)) (eW (binI (x:=(η (row x b) k)) (y:=0) rfl rfl pS) rfl) (λI=>?_) λI=>by rw[I];rfl
   rw[I,nj];show kP (b:=Zv ((x.length:Int)<=η (row x b) k)) (eW (binI (x:=(η (row x b) k)) (y:=x.length) rfl (bP rfl bZ) jY) rfl) (λh2=>?_) λh2=>by rw[h2];rfl
   rw[h2,nj];show kP (b:=Zv (η (row x b) k=b)) (eW (binI (x:=(η (row x b) k)) (y:=b) rfl rfl cN) rfl) (λF=>?_) λF=>by rw[F];rfl
   rw[F,nj];show oD (b:=Zv (0<k)) (eW (binI (x:=k) (y:=0) rfl rfl dZ) rfl) (λq=>?_) λq=>by rw[q];rfl
   rw[q,de];have:=of_decide_eq_true q;show eW (binI (x:=(η (row x b) (k-1))) (y:=(η (row x b) k)) (aL (x:=τ (row x b)) (y:=.int (k-1)) (aL (x:=aE x) (y:=.int b) rfl rfl j) (binI (x:=k) (y:=1) rfl rfl eK) (AA ∅ ∅)) rfl jY) rfl
  unfold okA
  cases hI:K0 x b k with
  |false =>
   show⟨λz=>(by cases z),λ_=>cL _ J (l8 (sN (by rw[Y,hI];rfl) (d6 rfl)))⟩
  |true =>
   rw[de];have p:0<=η (row x b) k/\η (row x b) k<(x.length:Int):=by unfold K0 at hI;simp only[jg,a2B,decide_eq_false_iff_not] at hI;show⟨by lia,by lia⟩
   have e2:dS (jS (tV (aB tL (aF 3) (eI 0))) (jS (tV (aB xF (aF 3) (bH aP (aR 0)))) (jS (tV (aB fK (aF 3) (aF 1))) (fD (tV (aB jW (aF 2) (eI 0))) (tV (aB xF (aB aO (aB aO (aF 0) (aF 1)) (aB fJ (aF 2) (eI 1))) (aF 3))))))) (bY (eC (.bl ag))) cH [Sv.ro (aE x),Sv.ro (.int b),.ri k,.ro (.int (η (row x b) k)),d]=.nx [Sv.ro (aE x),Sv.ro (.int b),.ri k,.ro (.int (η (row x b) k)),d]:=rE (by rw[Y,hI];rfl) rfl;have M:=uH (it:=eE (aB aO (aF 0) (aF 3))) (g:=lA 4) (b:=(dS (tV (aB (lC ae) (aF 4) (aB aO (aF 0) (aF 1))))
      (bY (eC (.bl ag)))
      cH)) (z:=.bl ag) (ρ:=[Sv.ro (aE x),Sv.ro (.int b),.ri k,.ro (.int (η (row x b) k)),d]) (λρ=>∃d,ρ=[Sv.ro (aE x),Sv.ro (.int b),.ri k,.ro (.int (η (row x b) k)),d]) D.int (λc=>(row x b).contains c) (row x (η (row x b) k)) (by
     unfold eE;rw[aL (g:=aO) (a:=aF 0) (b:=aF 3) (x:=aE x) (y:=.int (η (row x b) k)) rfl rfl (gW p.1 p.2)];rfl) ⟨_,rfl⟩ λc hc ρ n=>by
    obtain⟨d,rfl⟩:=n;show⟨[Sv.ro (aE x),Sv.ro (.int b),.ri k,.ro (.int (η (row x b) k)),.ri c],rfl,?_⟩;have X:tV (aB (lC ae) (aF 4) (aB aO (aF 0) (aF 1))) (bB [Sv.ro (aE x),Sv.ro (.int b),.ri k,.ro (.int (η (row x b) k)),.ri c])=aa (!(row x b).contains c):=eW (aL (x:=.int c) (y:=τ (row x b)) rfl (aL (x:=aE x) (y:=.int b) rfl rfl j) t9) rfl;show⟨λh=>cR ag (by rw[X,h];rfl) (λz=>by cases z) λ_=>⟨_,rfl,_,rfl⟩,λh=>sN (by rw[X,h];rfl) (d6 rfl)⟩
   show⟨λh=>?_,λh=>cL _ J (cL _ e2 (M.2 h))⟩;obtain⟨o,e3,Z,rfl⟩:=M.1 h;show⟨_,cL _ J (cL _ e2 e3),_,_,_,rfl⟩
 show⟨λh=>?_,λh=>L.2 h⟩;obtain⟨o,e,w2,w3,w4,rfl⟩:=L.1 h;show⟨_,e,_,_,_,_,rfl⟩
end
def ats(R:List PR)(p:Int):List (List Int):=((R[p.toNat]?).getD ([],[])).1
def CY(x:Q0a)(a b:Int):Bool:=thing x.length a&&(thing x.length b&&eL x a b)
def inB(i:Nat)(p q:Int):Bool:=(Zv (0<=p)&&Zv (p<(i:Int)))&&(Zv (0<=q)&&Zv (q<(i:Int)))
def PY(R:List PR)(i:Nat)(x:Q0a):List Int->Bool
 |[a,b,p,q]=>CY x a b&&(inB i p q&&(Zv (put x a b=ats R p)&&Zv (put x b a=ats R q)))
 |_=>ag
def UZ(R:List PR)(i:Nat)(x:Q0a)(w:Q0e):Bool:=if(loose x).isEmpty=ae then Zv (w=[]) else PY R i x w
def jN(n:Nat)(R:List PR)(p:PR×Nat):Bool:=(Zv (p.1.1.length=n)&&tells p.1.1)&&UZ R p.2 p.1.1 p.1.2
def sW(h:Q0a)(R:List PR):Bool:=(R.getLast?).any (λr=>Zv (r.1=h))&&R.zipIdx.all (jN h.length R)
def PZ(a b:Q0e):oO (τ a) (τ b)=aa (.bl (Zv (a=b))):=by unfold oO;rw[AM 7];rfl
def K7(x y u v:Q0a):oO (.tup [aE x,aE y]) (.tup [aE u,aE v])=aa (.bl (Zv (x=u)&&Zv (y=v))):=by have:=uE (f:=eqP 7) (mk:=aE) (λa b=>AN 5 a b) [x,y] [u,v];unfold oO;have e:eqP 8 (.tup [aE x,aE y]) (.tup [aE u,aE v])=aa (Zv ([x,y]=[u,v])):=this;rw[e];show aa (D.bl _)=_;congr 2;rw[jh];simp
theorem four{w:Q0e}(h:w.length=4):∃a b p q,w=[a,b,p,q]:=by
 match w,h with
 |[a,b,p,q],_=>show⟨a,b,p,q,rfl⟩
def CZ{R:List PR}{i:Nat}{x:Q0a}{w:Q0e}(h:w.length≠4):PY R i x w=ag:=by
 unfold PY;split
 .exact Zw rfl h
 .rfl
def K8{x:Q0a}{a b:Int}:(a,b)∈loose x↔0<=a/\a<b/\b<(x.length:Int)/\eL x a b=ae:=by
 unfold loose cP;simp only[yj,fq,gc,bD]
 constructor
 .rintro ⟨c,m,d,⟨l,h⟩,e⟩;cases e;show⟨by lia,by lia,by lia,h⟩
 .rintro ⟨o,n,h2,j⟩;show⟨a,⟨by lia,by lia⟩,b,⟨⟨by lia,by lia⟩,j⟩,rfl⟩
def mn(a b:Int):(if b<a then b else a)=min a b/\(if b>a then b else a)=max a b:=by
 constructor
 .split<;>lia
 .split<;>lia
def Yv{x:Q0a}{a b:Int}:(loose x).contains (min a b,max a b)=CY x a b:=by
 rw[jh,lq,K8];unfold CY;rw[cm,cm,dA,dA];by_cases h:a<=b
 .rw [Int.min_eq_left h,Int.max_eq_right h];show⟨λ⟨j,h2,l,d⟩=>⟨⟨j,by lia⟩,⟨by lia,l⟩,d⟩,λ⟨j,h2,d⟩=>⟨j.1,?_,h2.2,d⟩⟩;have:=(gH d).2.1;lia
 .have h':b<=a:=by lia
  rw[Int.min_eq_right h',Int.max_eq_left h'];show⟨λ⟨j,h2,l,d⟩=>⟨⟨by lia,l⟩,⟨j,by lia⟩,(gH d).1⟩,λ⟨j,h2,d⟩=>⟨h2.1,by lia,j.2,(gH d).1⟩⟩
theorem YF(p:Int×Int):∀L:List (Int×Int),rC (pairD p) (L.map pairD)=aa (L.contains p)
 |[]=>rfl
 |q::L=>by
  rw[bp,rC,YF p L];have e:eqP 8 (pairD q) (pairD p)=aa (Zv (q=p)):=by
   have:=AM 7 [q.1,q.2] [p.1,p.2];have e:eqP 8 (pairD q) (pairD p)=aa (Zv ([q.1,q.2]=[p.1,p.2])):=this;rw[e];congr 1;rw[jh,decide_eq_true_eq,decide_eq_true_eq]
   constructor
   .intro h;simp only[pb,and_true] at h;show yc h.1 h.2
   .rintro rfl;rfl
  rw[e];show aa (Zv (q=p)||L.contains p)=_;congr 1;rw[jh,yy,decide_eq_true_eq,lq,lq,cb];show⟨λh=>h.elim (λz=>.inl z.symm) .inr,λh=>h.elim (λz=>.inl z.symm) .inr⟩
def looseE{x:Q0a}:((loose x).map pairD).isEmpty=(loose x).isEmpty:=by cases loose x<;>rfl
def rowAt{R:List PR}{p:Int}{i:Nat}(d:0<=p)(h:p<(i:Int))(hi:i<=R.length):qY (R.map aG) p=aa (aG (ats R p,((R[p.toNat]?).getD ([],[])).2)):=by
 obtain⟨k,rfl⟩:=Ew d;have a:k<R.length:=by lia
 have e:ats R (k:Int)=(R[k]).1/\((R[(k:Int).toNat]?).getD ([],[])).2=(R[k]).2:=by unfold ats;rw[gf,bo a];show⟨rfl,rfl⟩
 rw[e.1,e.2];show pV (by rw[dg,bo a];rfl)
def K9{x:Q0a}{a b:Int}:dQ [aE x,.int a,.int b]=.ok (.bl (CY x a b)):=by
 unfold dQ CY;show iU rfl (d6 (FR (p:=thing x.length a) (c6 (x:=.int a) (y:=.int x.length) rfl (bP rfl bZ) (iV a _)) (λd=>?_) λh=>by rw[h];rfl));rw[d,de];show FR (p:=thing x.length b) (c6 (x:=.int b) (y:=.int x.length) rfl (bP rfl bZ) (iV b _)) (λh2=>?_) λh=>by rw[h];rfl
 rw[h2,de];show dC rfl rfl rfl (lF (dA.1 d) (dA.1 h2))
def P0{f g h:EF}{ρ:b7}{i j k:Int}(l:f ρ=aa (.int i))(d:g ρ=aa (.int j))(a:h ρ=aa (.int k)):fE KI tL f g h ρ=aa (.bl (Zv (i<=j)&&Zv (j<k))):=by unfold fE;rw[l,d,a];show(if Zv (i<=j)=ae then aa (D.bl (Zv (j<k))) else aa (.bl ag))=_;cases Zv (i<=j)<;>rfl
theorem LA{R:List PR}{i:Nat}{r:PR}(hi:R[i]?=aa r)(K:tells r.1=ae):j4 [.tup (R.map aG),.int i]=.ok (.bl (UZ R i r.1 r.2)):=by
 obtain⟨J,O⟩:=vH K;have L:i<R.length:=(cg.1 hi).1;unfold j4;have d:=IX hi;have F:=uZ (rows:=r.1) ∅;generalize l:r.1=x at *;generalize j:r.2=w;have d:aO (.tup (R.map aG)) (.int i)=aa (.tup [aE x,τ w]):=by rw[d,<- l,<- j];rfl
 show iU rfl (cL [.ro (.tup (R.map aG)),.ri i,.ro (aE x),.no] (dY (aE x) (aL (x:=.tup [aE x,τ w]) (y:=.int 0) (aL (x:=.tup (R.map aG)) (y:=.int i) rfl rfl d) rfl rfl) rfl) (cL [.ro (.tup (R.map aG)),.ri i,.ro (aE x),.ro (τ w)] (dY (τ w) (aL (x:=.tup [aE x,τ w]) (y:=.int 1) (aL (x:=.tup (R.map aG)) (y:=.int i) rfl rfl d) rfl rfl) rfl) ?_));have n:iR (tV (aM LL.fS (aR 2))) (bB [.ro (.tup (R.map aG)),.ri i,.ro (aE x),.ro (τ w)])=aa (loose x).isEmpty:=TH (b:=!(loose x).isEmpty) (eW (jL rfl F) (by rw[oR,looseE])) (Ey _);unfold UZ
 cases hE:(loose x).isEmpty with
 |true =>
  rw[Z_ rfl];show l8 (sN (by rw[n,hE]) (d6 (aL (x:=τ w) (y:=τ []) rfl rfl (PZ w []))))
 |false =>
  rw[Zz (by simp)];show cL _ (rE (by rw[n,hE]) rfl) ?_;by_cases o:w.length=4
  rotate_left
  .rw [CZ o];show l8 (sN (kP (b:=ae) (eW (binI (x:=w.length) (y:=4) (bP rfl kT) rfl z0) ?_) (λh=>by cases h) λ_=>rfl) (d6 rfl));rw[Zy ∅];rfl
  obtain⟨a,b,p,q,rfl⟩:=four o;have e3:∀{m:Nat} {z:Int},[a,b,p,q][m]?=aa z->aB aO d9 (eC (.int (m:Int))) (bB [.ro (.tup (R.map aG)),.ri i,.ro (aE x),.ro (τ [a,b,p,q])])=aa (.int z):=λ{m z} I=>aL (x:=τ [a,b,p,q]) (y:=.int m) rfl rfl (iO I);have t1:jS (tV (aB TR (bH aP (aR 3)) (eI 4))) (iR (tV (aM LL.dQ (aA dJ (aA (aB aO d9 (eI 0)) (aA (aB aO d9 (eI 1)) aH)))))) (bB [.ro (.tup (R.map aG)),.ri i,.ro (aE x),.ro (τ [a,b,p,q])])=aa (!CY x a b) :=
   kP (b:=ag) rfl (λ_=>TH (b:=CY x a b) (eW (dC (x:=aE x) (y:=.int a) (z:=.int b) rfl (e3 (m:=0) rfl) (e3 (m:=1) rfl) K9) rfl) rfl) λh=>by cases h
  show _=Out.rt (.bl (CY x a b&&(inB i p q&&(Zv (put x a b=ats R p)&&Zv (put x b a=ats R q)))))
  cases hP:CY x a b with
  |false=>show l8 (sN (by rw[t1,hP];rfl) (d6 rfl))
  |true =>
   show cL _ (rE (by rw[t1,hP];rfl) rfl) ?_;have t2:iR (fD (tV (fE KI tL (eI 0) (aB aO d9 (eI 2)) cD)) (tV (fE KI tL (eI 0) (aB aO d9 (eI 3)) cD))) (bB [.ro (.tup (R.map aG)),.ri i,.ro (aE x),.ro (τ [a,b,p,q])])=aa (!inB i p q):=by show TH (b:=inB i p q) (oD (b:=Zv (0<=p)&&Zv (p<(i:Int))) (eW (P0 rfl (e3 (m:=2) rfl) rfl) rfl) (λh=>?_) λh=>by unfold inB;rw[h];rfl) rfl;unfold inB;rw[h,de];show eW (P0 rfl (e3 (m:=3) rfl) rfl) rfl
   rw[de]
   cases hI:inB i p q with
   |false=>show l8 (sN (by rw[t2,hI];rfl) (d6 rfl))
   |true =>
    show cL _ (rE (by rw[t2,hI];rfl) rfl) ?_;rw[de];unfold inB at hI;simp only[cm,decide_eq_true_eq] at hI;obtain⟨⟨A,p1⟩,v,q1⟩:=hI;unfold CY at hP;rw[cm,cm] at hP;have ct:=Z9 J O hP.1 hP.2.1 hP.2.2 ⟨(gH hP.2.2).2.2.1,(gH hP.2.2).2.2.2⟩;show d6 (aL (x:=.tup [aE (put x a b),aE (put x b a)]) (y:=.tup [aE (ats R p),aE (ats R q)]) (dC rfl (e3 (m:=0) rfl) (e3 (m:=1) rfl) ct) (rJ (aL (x:=aG (ats R p,((R[p.toNat]?).getD ([],[])).2)) (y:=.int 0) (aL (x:=.tup (R.map aG)) (y:=.int p) rfl (e3 (m:=2) rfl) (rowAt A p1 ∅)) rfl rfl) (aL (x:=aG (ats R q,((R[q.toNat]?).getD ([],[])).2)) (y:=.int 0) (aL (x:=.tup (R.map aG)) (y:=.int q) rfl (e3 (m:=3) rfl) (rowAt v q1 ∅)) rfl rfl)) (K7 _ _ _ _))
def Sh(R:List PR):Prop:=∀r∈R,r.1.length<=1000 /\∀w∈r.1,w.length<=1000
def AU{x:Q0a}{n:Nat}(h:x.length<=1000 /\∀w∈x,w.length<=1000):iP [aE x,.int n]=.ok (.bl (Zv (x.length=n)&&tells x)):=by
 unfold iP;show iU rfl (d6 (FR (p:=Zv (x.length=n)) (binI (x:=x.length) (y:=n) (bP rfl bZ) rfl ?_) (λe=>?_) λe=>by rw[e];rfl))
 .rw [cN];congr 2;rw[decide_eq_decide];lia
 .rw [e,de];show jL rfl (AS h.2 h.1)
def I0{R:List PR}(h:R≠[]):∃r,R.getLast?=aa r/\qY (R.map aG) (-1)=aa (aG r):=by
 obtain⟨S,r,rfl⟩:∃S r,R=S++[r]:=by
  rcases uu R with e|⟨S,r,e⟩
  .exact Zw e h
  .exact ⟨S,r,by rw[e,Ep]⟩
 show⟨r,by simp,?_⟩;rw[cc];show uD (ds:=S.map aG) (d:=aG r)
theorem LB{h:Q0a}{R:List PR}(sh:Sh R)(q:R.length<=15000000):jC [aE h,.tup (R.map aG)]=.ok (.bl (sW h R)):=by
 unfold jC;show iU rfl ?_;by_cases j:R=[]
 .subst j;show l8 (sN (kP (b:=ae) rfl (λz=>by cases z) λ_=>rfl) (d6 rfl))
 obtain⟨r,n,o⟩:=I0 j;have l:jS (iR (tV cD)) (tV (aB j7 (aB aO (aB aO cD (fP (eI 1))) (eI 0)) cZ)) (bB [.ro (aE h),.ro (.tup (R.map aG))])=aa (!Zv (r.1=h)):=by
  show kP (b:=ag) (TH (b:=ae) (eW (d:=.tup (R.map aG)) rfl ?_) rfl) (λ_=>eW (aL (x:=aE r.1) (y:=aE h) (aL (x:=aG r) (y:=.int 0) (aL (x:=.tup (R.map aG)) (y:=.int (-1)) rfl rfl o) rfl rfl) rfl (p7 r.1 h)) rfl) λz=>by cases z
  rw[oR]
  cases R with
  |nil=>show Zw rfl j
  |cons _ _=>rfl
 unfold sW;rw[n];show _=Out.rt (.bl (Zv (r.1=h)&&_))
 cases hh:Zv (r.1=h) with
 |false=>show l8 (sN (l.trans (by rw[hh];rfl)) (d6 rfl))
 |true =>
  show cL _ (rE (l.trans (by rw[hh];rfl)) rfl) (d6 ?_);rw[de];show bP (x:=.lst (R.zipIdx.map λp=>D.bl (jN h.length R p))) (i7 (R.zipIdx.map λp=>D.tup [.int (p.2:Int),aG p.1]) ?_ (by rw[a_,List.length_zipIdx];lia) (fL (λp:PR×Nat=>D.tup [.int (p.2:Int),aG p.1]) (λp=>D.bl (jN h.length R p)) _ λp m=>?_)) ?_
  .show HP [.tup (R.map aG)]=_;rw[x6,zipIdx_map,gd];rfl
  .have a:R[p.2]?=aa p.1:=yi.1 m;show⟨[aa (.int (p.2:Int)),aa (aG p.1),aa (.tup (R.map aG)),aa (aE h)],rfl,?_⟩;show FR (p:=Zv (p.1.1.length=h.length)&&tells p.1.1) (c6 (x:=aE p.1.1) (y:=.int h.length) (aL (x:=aG p.1) (y:=.int 0) rfl rfl rfl) (bP rfl bZ) (AU (sh _ (ia a)))) (λe=>?_) λe=>by unfold jN;rw[e];rfl
   unfold jN;rw[e,de];rw[cm] at e;show c6 rfl rfl (LA a e.2)
  .have e:(R.zipIdx.map λp=>D.bl (jN h.length R p))=(R.zipIdx.map λp=>jN h.length R p).map D.bl:=by rw[gd];rfl
   rw[e,z7,rh];rfl
def JA(a b:Int):j7 (.int a) (.int b)=aa (.bl (!Zv (a=b))):=rfl
def U0(R:List PR):(aS 0 R.length).map D.int=R.zipIdx.map λp=>D.int (p.2:Int):=by
 apply En;intro i;rw[dg,dg,ym];by_cases h:i<R.length
 .rw [kM h,bo h];show aa (D.int _)=aa (D.int _);rw[Dy,ko]
 .rw [qz (by rw[aN];lia),qz ∅];rfl
def max2(a b:Int):pQ [.int a,.int b]=aa (.int (max a b)):=by show aa (D.int _)=_;rw[(mn a b).2]
def min2(a b:Int):xZ [.int a,.int b]=aa (.int (min a b)):=by show aa (D.int _)=_;rw[(mn a b).1]
def rR{L:List (Int×Int)}:aP [.lst (L.map pairD)]=aa (.int L.length):=by show aa (D.int ((L.map pairD).length:Nat))=_;rw[a_]
theorem FU{h:Q0a}{R:List PR}(sh:Sh R)(hl:R.length<=15000000):lK [aE h,.lst (R.map aG)]=.ok (.bl (sW h R)):=by
 unfold lK;show iU rfl ?_;by_cases hR:R=[]
 .subst hR;show l8 (sN (kP (b:=ae) rfl (λz=>by cases z) λ_=>rfl) (d6 rfl))
 obtain⟨r,er,ea⟩:=I0 hR;have hlen:aP [.lst (R.map aG)]=aa (.int R.length):=by show aa (D.int ((R.map aG).length:Nat))=_;rw[a_]
 have hpos:0<R.length:=lh.2 hR;have t0:jS (tV (aB fK (bH aP (aR 1)) (eI 0))) (tV (aB j7 (aB aO (aB aO cD (fP (eI 1))) (eI 0)) cZ)) (bB [.ro (aE h),.ro (.lst (R.map aG)),.no,.no,.no,.no,.no,.no,.no,.no])=aa (!Zv (r.1=h)):=by show kP (b:=ag) (eW (binI (x:=R.length) (y:=0) (bP rfl hlen) rfl cN) (by rw[Zy ∅];rfl)) (λ_=>eW (aL (x:=aE r.1) (y:=aE h) (aL (x:=aG r) (y:=.int 0) (aL (x:=.lst (R.map aG)) (y:=.int (-1)) rfl rfl ea) rfl rfl) rfl (p7 r.1 h)) rfl) λz=>by cases z
 unfold sW;rw[er];show _=Out.rt (.bl (Zv (r.1=h)&&_))
 cases hh:Zv (r.1=h) with
 |false=>show l8 (sN (t0.trans (by rw[hh];rfl)) (d6 rfl))
 |true =>
 show cL _ (rE (t0.trans (by rw[hh];rfl)) rfl) ?_;rw[de];show IZ (z:=.bl ag) (uH (λρ=>∃Z L K I A v m j,ρ=[.ro (aE h),.ro (.lst (R.map aG)),Z,L,K,I,A,v,m,j]) (λp:PR×Nat=>D.int (p.2:Int)) (jN h.length R) R.zipIdx ?_ ⟨_,_,_,_,_,_,_,_,rfl⟩ λp hp ρ J=>?_) (λe ρ' _=>by rw[e];show d6 rfl) λe=>by rw[e]
 .rw [sO (n:=R.length) (bP rfl hlen) ∅,U0]
 obtain⟨Z,L,K,I,A,v,m,j,rfl⟩:=J;obtain⟨⟨x,w⟩,i⟩:=p;have hi:R[i]?=aa (x,w):=yi.1 hp;have hil:i<R.length:=(cg.1 hi).1;have hs:=sh _ (ia hi);show⟨[.ro (aE h),.ro (.lst (R.map aG)),.ri i,L,K,I,A,v,m,j],rfl,?_⟩;have X:oP (aT (aB aO cD dJ)) (BZ 3 4) [.ro (aE h),.ro (.lst (R.map aG)),.ri i,L,K,I,A,v,m,j]=.nx [.ro (aE h),.ro (.lst (R.map aG)),.ri i,.ro (aE x),.ro (τ w),I,A,v,m,j]:=O8 (aL (x:=.lst (R.map aG)) (y:=.int i) rfl rfl (nV hi));have t1:jS (tV (aB j7 (bH aP (aR 3)) (bH aP (aR 0)))) (iR (tV (aM fM (aR 3)))) (bB [.ro (aE h),.ro (.lst (R.map aG)),.ri i,.ro (aE x),.ro (τ w),I,A,v,m,j])=aa (!(Zv (x.length=h.length)&&tells x)):=by
  show kP (b:=!Zv (x.length=h.length)) (eW (binI (x:=x.length) (y:=h.length) (bP rfl bZ) (bP rfl bZ) (JA _ _)) ?_) (λe=>?_) λe=>?_
  .show aa _=aa _;congr 2;rw[decide_eq_decide];lia
  .rw [yz] at e;rw[e,de];show TH (eW (jL rfl (vI hs.2 hs.1)) rfl) rfl
  .rw [jg] at e;rw[e];rfl
 show(jN h.length R ((x,w),i)=ae->_)/\(jN h.length R ((x,w),i)=ag->_);unfold jN;dsimp only
 cases hA:(Zv (x.length=h.length)&&tells x) with
 |false=>show⟨λz=>(by cases z),λ_=>cL _ X (l8 (sN (t1.trans (by rw[hA];rfl)) (d6 rfl)))⟩
 |true =>
 rw[de];rw[cm] at hA;obtain⟨hy,h9⟩:=vH hA.2;have e2:∀(k:L4.SF),aJ (oP (aT (aB aO cD dJ)) (BZ 3 4)) (aJ (dS (jS (tV (aB j7 (bH aP (aR 3)) (bH aP (aR 0)))) (iR (tV (aM fM (aR 3))))) (bY (eC (.bl ag))) cH) (aJ (bA 5 (aM LL.iI (aR 3))) k)) [.ro (aE h),.ro (.lst (R.map aG)),.ri i,L,K,I,A,v,m,j]=k [.ro (aE h),.ro (.lst (R.map aG)),.ri i,.ro (aE x),.ro (τ w),.ro (.lst ((loose x).map pairD)),A,v,m,j]:=λk =>
  cL _ X (cL _ (rE (t1.trans (by rw[hA.1,hA.2];rfl)) rfl) (cL _ (dY _ (jL rfl (vB h9)) rfl) rfl))
 rw[e2];have lw:aP [τ w]=aa (.int w.length):=kT;have F:jS (tV (aB fK (bH aP (aR 5)) (eI 0))) (tV (aB j7 (bH aP (aR 4)) (eI 4))) (bB [.ro (aE h),.ro (.lst (R.map aG)),.ri i,.ro (aE x),.ro (τ w),.ro (.lst ((loose x).map pairD)),A,v,m,j])=aa ((loose x).isEmpty || !Zv (w.length=4)):=by
  show kP (b:=(loose x).isEmpty) (eW (aL (x:=.int (loose x).length) (y:=.int 0) (bP rfl rR) rfl cN) ?_) (λe=>?_) λe=>by rw[e];rfl
  .cases loose x with
   |nil=>rfl
   |cons a l=>show aa (Zv ((((l.length+1:Nat)):Int)=0))=aa ag;rw[Zy ∅]
  .rw [e,nj];show eW (binI (x:=w.length) (y:=4) (bP rfl lw) rfl (JA _ _)) ?_;show aa _=aa _;congr 2;rw[decide_eq_decide];lia
 have U:jS (tV (aB jW (bH aP (aR 5)) (eI 0))) (tV (aB jW (bH aP (aR 4)) (eI 0))) (bB [.ro (aE h),.ro (.lst (R.map aG)),.ri i,.ro (aE x),.ro (τ w),.ro (.lst ((loose x).map pairD)),A,v,m,j])=aa (!(loose x).isEmpty || !Zv (w=[])):=by
  show kP (b:=!(loose x).isEmpty) (eW (aL (x:=.int (loose x).length) (y:=.int 0) (bP rfl rR) rfl dZ) ?_) (λe=>?_) λe=>by rw[e];rfl
  .cases loose x with
   |nil=>rfl
   |cons a l=>show aa (Zv ((0:Int)<(((l.length+1:Nat)):Int)))=aa ae;rw[Zx ∅]
  .rw [e,nj];show eW (binI (x:=w.length) (y:=0) (bP rfl lw) rfl dZ) ?_
   cases w with
   |nil=>rfl
   |cons a l=>show aa (Zv ((0:Int)<(((l.length+1:Nat)):Int)))=aa ae;rw[Zx ∅]
 have Y:∀{o:Out} {ρ:bK},(∃A v m j,ρ=[.ro (aE h),.ro (.lst (R.map aG)),.ri i,.ro (aE x),.ro (τ w),.ro (.lst ((loose x).map pairD)),A,v,m,j])->o=.nx ρ->Nx o (λρ=>∃Z L K I A v m j,ρ=[.ro (aE h),.ro (.lst (R.map aG)),Z,L,K,I,A,v,m,j]):=λ⟨a,b,c,d,e⟩ eo=>⟨_,eo,_,_,_,_,_,_,_,_,e⟩;unfold UZ
 cases hE:(loose x).isEmpty with
 |true =>
  rw[Z_ rfl];rw[hE] at F U
  cases hw:Zv (w=[]) with
  |true =>
   rw[hw] at U;show⟨λ_=>Y ⟨_,_,_,_,rfl⟩ (sN F (rE U rfl)),λz=>by cases z⟩
  |false =>
   rw[hw] at U;show⟨λz=>(by cases z),λ_=>sN F (sN U (d6 rfl))⟩
 |false =>
 rw[Zz (by simp)];rw[hE] at F U;by_cases h4:w.length=4
 rotate_left
 .rw [CZ h4];rw[Zy h4] at F;show⟨λz=>(by cases z),λ_=>sN F (sN U (d6 rfl))⟩
 rw[Zx h4] at F;obtain⟨a,b,p,q,rfl⟩:=four h4;show((CY x a b&&(inB i p q&&(Zv (put x a b=ats R p)&&Zv (put x b a=ats R q))))=ae->_)/\((CY x a b&&(inB i p q&&(Zv (put x a b=ats R p)&&Zv (put x b a=ats R q))))=ag->_);have e3:oP (aT fR) (sf 6 7 8 9) [.ro (aE h),.ro (.lst (R.map aG)),.ri i,.ro (aE x),.ro (τ [a,b,p,q]),.ro (.lst ((loose x).map pairD)),A,v,m,j]=.nx [.ro (aE h),.ro (.lst (R.map aG)),.ri i,.ro (aE x),.ro (τ [a,b,p,q]),.ro (.lst ((loose x).map pairD)),.ri a,.ri b,.ri p,.ri q]:=rfl;generalize O:([.ro (aE h),.ro (.lst (R.map aG)),.ri i,.ro (aE x),.ro (τ [a,b,p,q]),.ro (.lst ((loose x).map pairD)),.ri a,.ri b,.ri p,.ri q]:bK)=ρ at e3;have k1:jS (tV (aB (E6 ae) (bN (aA (bH xZ (aA gC (aR 7))) (aA (bH pQ (aA gC (aR 7))) aH))) gJ)) (jS (tV (aB tL qX (eI 0))) (jS (tV (aB xF qX dJ)) (jS (tV (aB tL BY (eI 0))) (tV (aB xF BY dJ))))) (bB ρ)=aa (!(CY x a b&&inB i p q)):=by
  subst O;show kP (b:=!CY x a b) (eW (d:=.bl (!CY x a b)) (aL (x:=pairD (min a b,max a b)) (y:=.lst ((loose x).map pairD)) (rJ (ZU rfl rfl (min2 a b)) (ZU rfl rfl (max2 a b))) rfl ?_) rfl) (λe=>?_) λe=>?_
  .show (rC (pairD (min a b,max a b)) ((loose x).map pairD)).map _=_;rw[YF,Yv];rfl
  .rw [yz] at e;rw[e,de];unfold inB;show kP (b:=Zv (p<0)) (eW (binI (x:=p) (y:=0) rfl rfl pS) rfl) (λX=>?_) λX=>?_
   .rw [decide_eq_false_iff_not] at X;rw[Zx (show(0:Int)<=p by lia),de];show kP (b:=Zv ((i:Int)<=p)) (eW (binI (x:=p) (y:=i) rfl rfl jY) rfl) (λe2=>?_) λe2=>?_
    .rw [decide_eq_false_iff_not] at e2;rw[Zx (show p<(i:Int) by lia),de];show kP (b:=Zv (q<0)) (eW (binI (x:=q) (y:=0) rfl rfl pS) rfl) (λe3=>?_) λe3=>?_
     .rw [decide_eq_false_iff_not] at e3;rw[Zx (show(0:Int)<=q by lia),de];show eW (binI (x:=q) (y:=i) rfl rfl jY) ?_;show aa _=aa _;congr 1;by_cases e4:q<(i:Int)
      .rw [Zx e4,Zy ∅];rfl
      .rw [Zy e4,Zx ∅];rfl
     .rw [decide_eq_true_eq] at e3;rw[Zy (show ¬ (0:Int)<=q by lia)];rfl
    .rw [decide_eq_true_eq] at e2;rw[Zy (show ¬ p<(i:Int) by lia)];rfl
   .rw [decide_eq_true_eq] at X;rw[Zy (show ¬ (0:Int)<=p by lia)];rfl
  .rw [jg] at e;rw[e];rfl
 cases hB:(CY x a b&&inB i p q) with
 |false =>
  rw[hB] at k1;rw[<- Ez,hB];show⟨λz=>(by cases z),λ_=>rE F (cL _ e3 (l8 (sN k1 (d6 rfl))))⟩
 |true =>
 rw[hB] at k1;rw[<- Ez,hB,de];rw[cm] at hB;obtain⟨J,hI⟩:=hB;unfold inB at hI;simp only[cm,decide_eq_true_eq] at hI;obtain⟨⟨p0,p1⟩,q0,q1⟩:=hI;unfold CY at J;rw[cm,cm,dA,dA] at J;have pe1:=p4 hy h9 J.1 J.2.1;have pe2:=p4 hy h9 J.2.1 J.1;have k2:jS (tV (aB j7 (aB aO (aB aO cD qX) (eI 0)) (aM LL.gU (aA d9 (aA gC (aR 7)))))) (tV (aB j7 (aB aO (aB aO cD BY) (eI 0)) (aM LL.gU (aA d9 (aA nN (aR 6)))))) (bB ρ)=aa (!(Zv (put x a b=ats R p)&&Zv (put x b a=ats R q))):=by
  subst O;show kP (b:=!Zv (put x a b=ats R p)) (eW (aL (x:=aE (ats R p)) (y:=aE (put x a b)) (aL (x:=aG (ats R p,((R[p.toNat]?).getD ([],[])).2)) (y:=.int 0) (aL (x:=.lst (R.map aG)) (y:=.int p) rfl rfl (rowAt p0 p1 ∅)) rfl rfl) (dC rfl rfl rfl pe1) (p7 _ _)) ?_) (λe=>?_) λe=>?_
  .show aa _=aa _;congr 2;rw[decide_eq_decide];show eq_comm
  .rw [yz] at e;rw[e,de];show eW (aL (x:=aE (ats R q)) (y:=aE (put x b a)) (aL (x:=aG (ats R q,((R[q.toNat]?).getD ([],[])).2)) (y:=.int 0) (aL (x:=.lst (R.map aG)) (y:=.int q) rfl rfl (rowAt q0 q1 ∅)) rfl rfl) (dC rfl rfl rfl pe2) (p7 _ _)) ?_;show aa _=aa _;congr 2;rw[decide_eq_decide];show eq_comm
  .rw [jg] at e;rw[e];rfl
 cases hC:(Zv (put x a b=ats R p)&&Zv (put x b a=ats R q)) with
 |false =>
  rw[hC] at k2;show⟨λz=>(by cases z),λ_=>rE F (cL _ e3 (cL _ (rE k1 rfl) (sN k2 (d6 rfl))))⟩
 |true =>
  rw[hC] at k2;show⟨λ_=>Y ⟨_,_,_,_,O.symm⟩ (rE F (cL _ e3 (cL _ (rE k1 rfl) (rE k2 rfl)))),λz=>by cases z⟩
def U1{l:List D}{k:Int}(d:0<=k)(a:k<=(l.length:Int)):XZ (.lst l) af (aa k)=aa (.lst (l.take k.toNat)):=by show aa (D.lst (mE l af (aa k)))=_;unfold mE xG;dsimp only;rw[Zz ∅,uv,yd];congr 3;lia
def U2{l:List D}{k:Int}(d:0<=k)(a:k<=(l.length:Int)):XZ (.lst l) (aa k) af=aa (.lst (l.drop k.toNat)):=by show aa (D.lst (mE l (aa k) af))=_;unfold mE xG;dsimp only;rw[Zz ∅,show min k.toNat l.length=k.toNat by lia,oy (by rw[m_];lia)]
def zl{f:EF}{ρ:b7}{k:Int}(h:f ρ=aa (.int k)):oE f ρ=aa (aa k):=by unfold oE;rw[h];rfl
theorem JB{e i j n:EF}{ρ:b7}{R:List PR}{k k':Int}{r:PR}(a:e ρ=aa (.lst (R.map aG)))(hi:i ρ=aa (.int k))(l:j ρ=aa (.int k'))(h:n ρ=aa (aG r))(k0:0<=k)(k1:k<=(R.length:Int))(d:0<=k')(o:k'<=(R.length:Int))(p:R.length<8000000):
  aB bS (aB bS (t7 e xB (oE i)) (dB (aA n aH))) (t7 e (oE j) xB) ρ=aa (.lst ((R.take k.toNat++[r]++R.drop k'.toNat).map aG)):=by
 have m:(R.map aG).length=R.length:=a_ ..;show aL (x:=.lst ((R.take k.toNat++[r]).map aG)) (y:=.lst ((R.drop k'.toNat).map aG)) (aL (x:=.lst ((R.take k.toNat).map aG)) (y:=.lst [aG r]) (LL.YD a rfl (zl hi) (by rw[U1 k0 ∅,a19])) ?_ ?_) (LL.YD a (zl l) rfl (by rw[U2 d ∅,a2b])) ?_
 .unfold dB;rw[args1 h];rfl
 .rw [d7 (by simp only[a_,jo,cf,cy];lia),cc (f:=aG)];rfl
 .rw [d7 (by simp only[a_,bq,jo,m_,cf,cy];lia),cc (f:=aG) (l₁:=R.take k.toNat++[r])]
def Sh.repl{R:List PR}{k j:Nat}{r:PR}(h:Sh R)(d:r.1.length<=1000 /\∀w∈r.1,w.length<=1000):Sh (R.take k++[r]++R.drop j):=λs a=>by
 rcases di.1 a with a|a
 .rcases di.1 a with a|a
  .exact h s (List.mem_of_mem_take a)
  .rw [bt.1 a];show d
 .exact h s (List.mem_of_mem_drop a)
def p9{R:List PR}{k j:Nat}{r:PR}:(R.take k++[r]++R.drop j).length<=2*R.length+1:=by simp only[bq,jo,m_,cf,cy];lia
def GoodR.sh{n:Nat}{R:List PR}(d:n<=9)(g:GoodR n R):Sh R:=λr a=>by obtain⟨i,hi⟩:=km.1 a;have ok:=g i r hi;have h:=ok.len;show⟨by lia,λw hw=>by have:=vA ok.rows ∅ w hw;lia⟩
def sY{d:Type}{a:AF}{i:EF}{ρ:b7}(mk:d->D)(l:List d){k:Int}(j:a ρ=aa (l.map mk))(hi:i ρ=aa (.int k))(k0:0<=k)(k1:k<(l.length:Int))(m:l.length<=100):∃x∈l,aB aO (dB a) i ρ=aa (mk x):=by
 obtain⟨x,h,e,_⟩:=rG (xs:=l) k0 k1;show⟨x,h,aL (x:=.lst (l.map mk)) (y:=.int k) ?_ hi ?_⟩
 .unfold dB;rw[j];show Z_ (by rw[a_];show l.length<=16777216;lia)
 .rw [pT,lD,e];rfl
def Yu{ρ:b7}:aB fJ (aB mG (aB qZ (eI 10) (eI 60)) (eI 10)) (eI 1) ρ=aa (.int (((10:Int)^60)^10-1)):=by
 have most:aB mG (aB qZ (eI 10) (eI 60)) (eI 10) ρ=aa (.int (((10:Int)^60)^10)):=by
  show binI (x:=((10:Int)^60)) (y:=10) (binI (x:=10) (y:=60) rfl rfl ?_) rfl ?_
  .unfold qZ gR;show Z_ (by decide)
  .unfold mG gR;show Z_ (by decide+kernel)
 show aL most rfl eK
def aV{f:EF}{a:AF}{ρ:b7}{d:D}{ds:List D}(h:f ρ=aa d)(h2:a ρ=aa ds):aA f a ρ=aa (d::ds):=by unfold aA;rw[h,h2];rfl
def C0{a:AF}{ρ:b7}{ds:List D}(h:a ρ=aa ds)(d:ds.length<=16777216):bN a ρ=aa (.tup ds):=z5 h d
def Yt{j:Type}{mk:j->D}{n a:Nat}{b:L4.SF}{ds:List D}(l:ds.length=a)(h:Rt (b (eG n ds)) λd=>∃w,d=mk w):∃w,cM n a b ds=.ok (mk w):=by obtain⟨d,e,w,rfl⟩:=i5 l h;show⟨w,e⟩
def U_{i:Nat}{ks:Q0e}{a:AF}{ρ:bK}{ds:List D}(h:a (gO ρ)=aa ds):CA i ks a ρ=.nx (ρ.set i (.ow (.jD (ks.map .inl) ds))):=by unfold CA;rw[h]
section
variable{x:Q0a}{pk:Q0e}
def Ys(hx:Ord.Rows x)(hn:x.length<=9){a b p q at' many kd:Int}(hp:pk.length=5)(hp0:∀i:Int,0<=η pk i)(hk:kd=3\/(5<=kd/\kd<=13)):∃w,p8 [aE x,τ [a,b,p,q],.int kd,aI pk,.int at',.int many]=.ok (τ w):=by
 unfold p8;show Yt rfl ?_;show bF [.ro (aE x),.ro (τ [a,b,p,q]),.ri kd,.ro (aI pk),.ri at',.ri many,.ri a,.ri b,.ri p,.ri q,.no,.no,.no,.no,.no] rfl ?_;show bF [.ro (aE x),.ro (τ [a,b,p,q]),.ri kd,.ro (aI pk),.ri at',.ri many,.ri a,.ri b,.ri p,.ri q,.ro (.int (((10:Int)^60)^10-1)),.no,.no,.no,.no] (dY _ Yu rfl) ?_;generalize ((10:Int)^60)^10-1=far;show bF [.ro (aE x),.ro (τ [a,b,p,q]),.ri kd,.ro (aI pk),.ri at',.ri many,.ri a,.ri b,.ri p,.ri q,.ri far,.ro (.lst ([(a,a)].map pairD)),.no,.no,.no] rfl ?_;show fG (λρ=>∃(L:List (Int×Int)) (K:Sv),0<L.length/\ρ=[.ro (aE x),.ro (τ [a,b,p,q]),.ri kd,.ro (aI pk),.ri at',.ri many,.ri a,.ri b,.ri p,.ri q,.ri far,.ro (.lst (L.map pairD)),K,.no,.no]) ?_ λρ l=>?_
 .refine lE x.length (λi ρ=>∃(L:List (Int×Int)) (K:Sv),(0<L.length/\L.length<=1+9*i)/\ρ=[.ro (aE x),.ro (τ [a,b,p,q]),.ri kd,.ro (aI pk),.ri at',.ri many,.ri a,.ri b,.ri p,.ri q,.ri far,.ro (.lst (L.map pairD)),K,.no,.no]) (args1 (bP rfl bZ)) ∅ ⟨[(a,a)],_,⟨by simp,by simp⟩,rfl⟩ (λi ρ hi Y=>?_) λρ Y=>?_
  .obtain ⟨L,K,Z,rfl⟩:=Y;show⟨_,rfl,?_⟩;have r9:=vA hx hn _ (ia (iW (x:=x) (t:=(i:Int)) ∅ ∅));show eT (.lst ((L++(row x i).map λc=>(c,(i:Int))).map pairD)) (aL (x:=.lst (L.map pairD)) (y:=.lst ((row x i).map λc=>pairD (c,(i:Int)))) rfl (i7 ((row x i).map D.int) ?_ (by rw[a_];lia) (fL D.int (λc=>pairD (c,(i:Int))) _ λc _=>⟨_,rfl,rJ rfl rfl⟩)) ?_) ⟨_,_,⟨?_,?_⟩,rfl⟩
   .unfold eE;rw[aL (g:=aO) (a:=aF 0) (b:=aF 12) (x:=aE x) (y:=.int i) rfl rfl (gW ∅ ∅)];rfl
   .rw [d7 (by rw[a_,a_];lia),cc,gd];rfl
   .rw [bq];lia
   .rw [bq,a_];lia
  .obtain ⟨L,K,Z,e⟩:=Y;show⟨L,K,Z.1,e⟩
 obtain⟨L,K,Z,rfl⟩:=l;have k0:=gn (η pk 2) (show(L.length:Int)≠0 by lia);have k1:=gz (η pk 2) (show(0:Int)<(L.length:Int) by lia);obtain⟨o,_,eo,_⟩:=rG (xs:=L) k0 k1;have at2:∀{ρ:b7},aF 3 ρ=aa (aI pk)->aB aO (aF 3) (eI 2) ρ=aa (.int (η pk 2)):=λh=>aL (x:=aI pk) (y:=.int 2) h rfl (lG (by decide) ∅);have I:∀{ρ:b7} {m:Int},aF 3 ρ=aa (aI pk)->0<m->aB bU (aB aO (aF 3) (eI 2)) (eI m) ρ=aa (.int (η pk 2%m)):=λh hm=>aL (at2 h) rfl (bG hm);show bF [.ro (aE x),.ro (τ [a,b,p,q]),.ri kd,.ro (aI pk),.ri at',.ri many,.ri a,.ri b,.ri p,.ri q,.ri far,.ro (.lst (L.map pairD)),K,.ro (pairD o),.no] (dY _ (aL (x:=.lst (L.map pairD)) (y:=.int (η pk 2%(L.length:Int))) rfl (aL (at2 rfl) (bP (x:=.lst (L.map pairD)) rfl rR) (bG ∅)) (by rw[pT,lD,eo];rfl)) rfl) ?_;generalize l:gO ([.ro (aE x),.ro (τ [a,b,p,q]),.ri kd,.ro (aI pk),.ri at',.ri many,.ri a,.ri b,.ri p,.ri q,.ri far,.ro (.lst (L.map pairD)),K,.ro (pairD o),.no]:bK)=ρ;have O:aF 3 ρ=aa (aI pk):=by rw[<- l];rfl
 have U:aF 4 ρ=aa (.int at'):=by rw[<- l];rfl
 have v5:aF 5 ρ=aa (.int many):=by rw[<- l];rfl
 have n:aF 6 ρ=aa (.int a):=by rw[<- l];rfl
 have v:aF 7 ρ=aa (.int b):=by rw[<- l];rfl
 have F:aF 8 ρ=aa (.int p):=by rw[<- l];rfl
 have A:aF 9 ρ=aa (.int q):=by rw[<- l];rfl
 have v10:aF 10 ρ=aa (.int far):=by rw[<- l];rfl
 have t4:∀{e1 e2 e3 e4:EF} {z1 z2 z3 z4:Int},e1 ρ=aa (.int z1)->e2 ρ=aa (.int z2)->e3 ρ=aa (.int z3)->e4 ρ=aa (.int z4)->bN (aA e1 (aA e2 (aA e3 (aA e4 aH)))) ρ=aa (τ [z1,z2,z3,z4]):=λh1 h2 h3 h4=>C0 (aV h1 (aV h2 (aV h3 (aV h4 rfl)))) (by simp);have J:∀{m:Int},0<m->0<=η pk 2%m/\η pk 2%m<m:=λh=>⟨gn _ ∅,gz _ h⟩;have e7:∀{j:Nat} {z:Int},[o.1,o.2][j]?=aa z->aB aO (aF 13) (eC (.int (j:Int))) ρ=aa (.int z):=λ{j z} hz=>aL (x:=τ [o.1,o.2]) (y:=.int j) (by rw[<- l];rfl) rfl (iO hz);obtain⟨z8,_,e8⟩:=sY (a:=aA (bH aP (aR 0)) (aA (fP (eI 1)) (aA (aF 10) (aA (fP (aF 10)) aH)))) (i:=aB bU (aB aO (aF 3) (eI 2)) (eI 4)) (ρ:=ρ) D.int [(x.length:Int),-1,far,-far] (aV (bP (x:=aE x) (by rw[<- l];rfl) bZ) (aV rfl (aV v10 (aV (by unfold fP;rw[v10];rfl) rfl)))) (I O (by decide)) (J (m:=4) (by decide)).1 (J (m:=4) (by decide)).2 (by simp);obtain⟨z9,_,e9⟩:=sY (a:=aA (bN (aA (aF 6) (aA (aF 7) (aA (aB fJ (aF 8) (aF 5)) (aR 9))))) (aA (bN (aA (aF 6) (aA (aF 7) (aA (aF 8) (aA (aB fJ (aF 9) (aF 5)) aH))))) aH)) (i:=aB bU (aB aO (aF 3) (eI 2)) (eI 2)) (ρ:=ρ) τ [[a,b,p-many,q],[a,b,p,q-many]] (aV (t4 n v (aL F v5 eK) A) (aV (t4 n v F (aL A v5 eK)) rfl)) (I O (by decide)) (J (m:=2) (by decide)).1 (J (m:=2) (by decide)).2 (by simp);obtain⟨zh,_,sg⟩:=sY (a:=aA (bN (aA (aF 6) (aA (aF 7) (aA (aF 4) (aR 9))))) (aA (bN (aA (aF 6) (aA (aF 7) (aA (aF 8) (aR 4))))) aH)) (i:=aB bU (aB aO (aF 3) (eI 2)) (eI 2)) (ρ:=ρ) τ [[a,b,at',q],[a,b,p,at']] (aV (t4 n v U A) (aV (t4 n v F U) rfl)) (I O (by decide)) (J (m:=2) (by decide)).1 (J (m:=2) (by decide)).2 (by simp);have em:aB bU (aB jJ (aB aO (aF 3) (eI 2)) (eI 4)) (bH pQ (aA (eI 1) (aR 4))) ρ=aa (.int (η pk 2/4%(max 1 at'))):=binI (x:=(η pk 2/4)) (y:=(max 1 at')) (aL (at2 O) rfl (iT (by decide) (by decide))) (ZU rfl U (max2 1 at')) (bG ∅);have ng:fP (aF 10) ρ=aa (.int (-far)):=by unfold fP;rw[v10];rfl
 obtain⟨zg,_,Gs⟩:=sY (a:=aA (bN (aA (aF 6) (aA (aF 7) (aA (aF 8) (aA (aB bU (aB jJ (aB aO (aF 3) (eI 2)) (eI 4)) (bH pQ (aA (eI 1) (aR 4)))) aH))))) (aA (bN (aA (aF 6) (aA (aF 7) (aA (aF 8) (aR 10))))) (aA (bN (aA (aF 6) (aA (aF 7) (aA (fP (aF 10)) (aR 9))))) (aA (bN (aA (aF 6) (aA (aF 7) (aA (aF 10) (aR 9))))) aH)))) (i:=aB bU (aB aO (aF 3) (eI 2)) (eI 4)) (ρ:=ρ) τ [[a,b,p,η pk 2/4%(max 1 at')],[a,b,p,far],[a,b,-far,q],[a,b,far,q]] (aV (t4 n v F em) (aV (t4 n v F v10) (aV (t4 n v ng A) (aV (t4 n v v10 A) rfl)))) (I O (by decide)) (J (m:=4) (by decide)).1 (J (m:=4) (by decide)).2 (by simp);obtain⟨zf,_,vi⟩:=sY (a:=aA (bN (aA (aF 6) (aA (aF 7) (aR 8)))) (aA (bN (aA (aF 6) (aA (aF 7) (aA (aF 8) (aA (aF 9) (aR 9)))))) aH)) (i:=aB bU (aB aO (aF 3) (eI 2)) (eI 2)) (ρ:=ρ) τ [[a,b,p],[a,b,p,q,q]] (aV (C0 (aV n (aV v (aV F rfl))) (by simp)) (aV (C0 (aV n (aV v (aV F (aV A (aV A rfl))))) (by simp)) rfl)) (I O (by decide)) (J (m:=2) (by decide)).1 (J (m:=2) (by decide)).2 (by simp);show bF ([.ro (aE x),.ro (τ [a,b,p,q]),.ri kd,.ro (aI pk),.ri at',.ri many,.ri a,.ri b,.ri p,.ri q,.ri far,.ro (.lst (L.map pairD)),K,.ro (pairD o),.ow (.jD ([3,5,6,7,8,9,10,11,12,13].map .inl) ([[],[b,a,p,q],[a,a,p,q],[o.1,o.2,p,q],[z8,b,p,q],z9,zh,zg,zf,[a,b,q,p]].map τ))]) ?_ ?_
 .refine U_ (ds:=[[],[b,a,p,q],[a,a,p,q],[o.1,o.2,p,q],[z8,b,p,q],z9,zh,zg,zf,[a,b,q,p]].map τ) ?_;rw[l];show aV (d:=τ []) rfl (aV (t4 v n F A) (aV (t4 n n F A) (aV (t4 (e7 (j:=0) rfl) (e7 (j:=1) rfl) F A) (aV (t4 e8 v F A) (aV e9 (aV sg (aV Gs (aV vi (aV (t4 n v A F) rfl)))))))))
 .have X:kd=3\/kd=5\/kd=6\/kd=7\/kd=8\/kd=9\/kd=10\/kd=11\/kd=12\/kd=13:=by lia
  rcases X with rfl|rfl|rfl|rfl|rfl|rfl|rfl|rfl|rfl|rfl<;>show gS _ rfl ⟨_,rfl⟩
end
def Res(m:Nat)(d:D):Prop:=∃R,(Sh R/\R.length<=m)/\d=.lst (R.map aG)
def qA(A:List PR)(k:Int):List Int:=((A[k.toNat]?).getD ([],[])).2
section
variable{A:List PR}{n:Nat}{pk:Q0e}
def gZ:aP [.lst (A.map aG)]=aa (.int A.length):=by show aa (D.int ((A.map aG).length:Nat))=_;rw[a_]
def nW{k:Int}(d:0<=k)(h:k<(A.length:Int)):∃r,A[k.toNat]?=aa r/\qA A k=r.2/\aO (.lst (A.map aG)) (.int k)=aa (aG r):=by
 obtain⟨j,rfl⟩:=Ew d;have a:j<A.length:=by lia
 show⟨A[j],by rw[gf];show bo a,?_,nV (bo a)⟩;unfold qA;rw[gf,bo a];rfl
def AV{ρ:b7}{k:Int}(d:0<=k)(a:k<(A.length:Int))(l:aF 0 ρ=aa (.int k))(j:aF 1 ρ=aa (.lst (A.map aG))):bH aP (aA (aB aO (aB aO cD cZ) (eI 1)) aH) ρ=aa (.int (qA A k).length):=by obtain⟨r,_,e,h⟩:=nW d a;rw[e];show bP (x:=τ r.2) (aL (x:=aG r) (y:=.int 1) (aL j l h) rfl rfl) kT
def rS{t:TF}{m:EF}{c:Nat}{ρ:b7}(a:(ρ[0]?).join=aa (.lst (A.map aG)))(h:m ρ=aa (.int c))(o:c<=A.length)(l:A.length<8000000)(pr:Int->Bool)(d:∀k:Int,0<=k->k<(A.length:Int)->t [aa (.int k),aa (.lst (A.map aG))]=aa (pr k)):cB 1 [0] (bC (aA m aH)) (g1 0) t cZ ρ=aa (aI ((aS 0 c).filter pr)):=by
 show i7 ((aS 0 c).map D.int) (sO h ∅) (by rw[a_,aN];lia) (gE D.int pr D.int _ λk j=>⟨[aa (.int k),aa (.lst (A.map aG))],?_,?_,λ_=>rfl⟩)
 .show aa [aa (D.int k),(ρ[0]?).join]=_;rw[a]
 .have:=bD.1 j;show d k ∅ ∅
def AW{P:Q0e}:aP [aI P]=aa (.int P.length):=by show aa (D.int ((P.map D.int).length:Nat))=_;rw[a_]
def C4{P:Q0e}{c:Int}(d:P≠[]):∃k∈P,aO (aI P) (.int (c%(P.length:Int)))=aa (.int k):=by have h:0<P.length:=lh.2 d;obtain⟨k,a,e,_⟩:=rG (xs:=P) (gn c (show(P.length:Int)≠0 by lia)) (gz c (show(0:Int)<(P.length:Int) by lia));show⟨k,a,by show qY (P.map D.int) _=_;rw[lD,e];rfl⟩
def row_shape(a:n<=9)(g:GoodR n A){k:Nat}{r:PR}(h:A[k]?=aa r):r.1.length<=1000 /\∀w∈r.1,w.length<=1000:=GoodR.sh a g r (ia h)
def YG(g:GoodR n A){k:Nat}{r:PR}(h:A[k]?=aa r)(j:r.2≠[]):∃(a b:Int) (p q:Nat),r.2=[a,b,(p:Int),(q:Int)]/\p<A.length/\q<A.length:=by
 rcases(g k r h).why with z|⟨a,b,p,q,u,v,l,d,_,_,_,o,m,_⟩
 .exact Zw z.2 j
 .have:=(cg.1 h).1;show⟨a,b,p,q,d,by lia,by lia⟩
def LC(O:n<=9)(g:GoodR n A)(hl:A.length<4000000){kd:Int}(hp:pk.length=5)(L:∀i:Int,0<=η pk i)(l:2<kd/\kd<14):∃d,gY [.lst (A.map aG),.int kd,aI pk]=.ok d/\Res (2*A.length+1) d:=by
 unfold gY;show i5 rfl ?_;have same:Res (2*A.length+1) (.lst (A.map aG)):=⟨A,⟨GoodR.sh O g,by lia⟩,rfl⟩;have F:∀{ρ:b7} {j:Int},aF 2 ρ=aa (aI pk)->0<=j->j<5->aB aO dJ (eI j) ρ=aa (.int (η pk j)):=λh v I=>aL (x:=aI pk) h rfl (lG v ∅);have c4:∀{ρ:bK},aF 1 (bB ρ)=aa (.int kd)->tV (aB fK cD (eI 4)) (bB ρ)=aa (Zv (kd=4)):=λh=>eW (binI (x:=kd) (y:=4) h rfl cN) rfl;show bF [.ro (.lst (A.map aG)),.ri kd,.ro (aI pk),.ro (aI ((aS 0 A.length).filter λk=>Zv (0<((qA A k).length:Int)))),.no,.no,.no] (dY _ (rS rfl (bP rfl gZ) (bh _) ∅ _ λk v I=>eW (aL (y:=.int 0) (AV v I rfl rfl) rfl dZ) rfl) rfl) ?_;generalize hP:((aS 0 A.length).filter λk=>Zv (0<((qA A k).length:Int)))=P1;show fG (λρ=>∃P:Q0e,(∀k∈P,0<=k/\k<(A.length:Int)/\(kd≠4->qA A k≠[]))/\ρ=[.ro (.lst (A.map aG)),.ri kd,.ro (aI pk),.ro (aI P),.no,.no,.no]) ?_ λρ m=>?_
 .refine cR (Zv (kd=4)) (c4 rfl) (λo=>?_) λo=>?_
  .refine eT _ (rS (pr:=λk=>Zv (((qA A k).length:Int)=0)) rfl (bP rfl gZ) (bh _) ∅ λk v I=>eW (aL (y:=.int 0) (AV v I rfl rfl) rfl cN) rfl) ⟨_,λk l=>?_,rfl⟩;have:=bD.1 (gc.1 l).1;show⟨by lia,by lia,λz=>Zw (of_decide_eq_true o) z⟩
  .refine fH ⟨P1,λk l=>?_,rfl⟩;rw[<- hP] at l;have:=bD.1 (gc.1 l).1;show⟨by lia,by lia,λ_ z=>?_⟩;have h2:=(gc.1 l).2;rw[z] at h2;cases h2
 obtain⟨P,Gn,rfl⟩:=m;have X:tV (aB fK (bH aP (aR 3)) (eI 0)) (bB [.ro (.lst (A.map aG)),.ri kd,.ro (aI pk),.ro (aI P),.no,.no,.no])=aa (Zv ((P.length:Int)=0)):=eW (binI (x:=P.length) (y:=0) (bP rfl AW) rfl cN) rfl;by_cases U:P=[]
 .subst U;show HZ (X2 ae X (λ_=>gS _ rfl same) λz=>by cases z)
 have hpl:0<P.length:=lh.2 U;obtain⟨k,l,ek⟩:=C4 (P:=P) (c:=η pk 1) U;obtain⟨k0,k1,k2⟩:=Gn k l;obtain⟨r,K,er,ea⟩:=nW k0 k1;show bF _ (rE (X.trans (by rw[Zy ∅])) rfl) ?_;show bF [.ro (.lst (A.map aG)),.ri kd,.ro (aI pk),.ro (aI P),.ri k,.no,.no] (dY _ (aL (x:=aI P) (y:=.int (η pk 1%(P.length:Int))) rfl (aL (F rfl (by decide) (by decide)) (bP rfl AW) (bG ∅)) ek) rfl) ?_;show bF [.ro (.lst (A.map aG)),.ri kd,.ro (aI pk),.ro (aI P),.ri k,.ro (aE r.1),.ro (τ r.2)] (O8 (aL (x:=.lst (A.map aG)) (y:=.int k) rfl rfl ea)) ?_;show fG (λρ=>∃w:Q0e,ρ=[.ro (.lst (A.map aG)),.ri kd,.ro (aI pk),.ro (aI P),.ri k,.ro (aE r.1),.ro (τ w)]) ?_ λρ m=>?_
 .refine cR (Zv (kd=4)) (c4 rfl) (λo=>?_) λo=>?_
  .obtain ⟨w,_,J⟩:=sY (a:=aA (bN (aA (eI 0) (aA (eI 1) (aA (eI 0) (aA (eI 0) aH))))) (aA (bN (aA (eI 0) aH)) aH)) (i:=aB bU (aB aO dJ (eI 2)) (eI 2)) (ρ:=gO [.ro (.lst (A.map aG)),.ri kd,.ro (aI pk),.ro (aI P),.ri k,.ro (aE r.1),.ro (τ r.2)]) τ [[0,1,0,0],[0]] rfl (aL (F rfl (by decide) (by decide)) rfl (bG (by decide))) (gn _ (by decide)) (gz _ (by decide)) (by simp);show eT _ J ⟨w,rfl⟩
  .have o:=of_decide_eq_false o;have hw:r.2≠[]:=by rw[<- er];show k2 o
   obtain⟨a,b,p,q,Y,_,_⟩:=YG g K hw;have ok:=g _ _ K;have hlen:=ok.len;obtain⟨w,J⟩:=Ys (x:=r.1) ok.rows ∅ (a:=a) (b:=b) (p:=p) (q:=q) (at':=k) (many:=A.length) (kd:=kd) hp L ∅;rw[<- Y] at J;show eT _ ?_ ⟨w,rfl⟩;unfold aM;rw[aV (d:=aE r.1) rfl (aV (d:=τ r.2) rfl (aV (d:=.int kd) rfl (aV (d:=aI pk) rfl (aV (d:=.int k) rfl (aV (bP (x:=.lst (A.map aG)) rfl gZ) rfl)))))];show KJ (p8 _)=_;rw[J];rfl
 obtain⟨w,rfl⟩:=m;have Z:=row_shape O g K;show gS _ (JB (R:=A) (k:=k) (k':=k+1) (r:=(r.1,w)) rfl rfl (binI (x:=k) (y:=1) rfl rfl dN) (rJ rfl rfl) k0 ∅ ∅ ∅ ∅) ⟨_,⟨Sh.repl (r:=(r.1,w)) (GoodR.sh O g) Z,p9⟩,rfl⟩
def LD(I:n<=9)(g:GoodR n A)(hA:A≠[])(hl:A.length<4000000)(hp:pk.length=5):∃d,lN [.lst (A.map aG),aI pk]=.ok d/\Res (4*A.length+3) d:=by
 unfold lN;show i5 rfl ?_;have hpos:0<A.length:=lh.2 hA;have same:Res (4*A.length+3) (.lst (A.map aG)):=⟨A,⟨GoodR.sh I g,by lia⟩,rfl⟩;have K:∀{ρ:b7} {j:Int},aF 1 ρ=aa (aI pk)->0<=j->j<5->aB aO cD (eI j) ρ=aa (.int (η pk j)):=λh J h1=>aL (x:=aI pk) h rfl (lG J ∅);have O:∀{ρ:b7},aF 0 ρ=aa (.lst (A.map aG))->aB fJ (bH aP (aR 0)) (eI 1) ρ=aa (.int ((A.length-1:Nat):Int)):=λh=>(binI (x:=A.length) (y:=1) (bP h gZ) rfl eK).trans (by rw[show(A.length:Int)-1=((A.length-1:Nat):Int) by lia]);show bF [.ro (.lst (A.map aG)),.ro (aI pk),.ro (aI ((aS 0 (A.length-1)).filter λk=>Zv (0<((qA A k).length:Int)))),.no,.no,.no,.no,.no] (dY _ (rS rfl (O rfl) ∅ ∅ _ λk J h1=>eW (aL (y:=.int 0) (AV J h1 rfl rfl) rfl dZ) rfl) rfl) ?_;generalize hP:((aS 0 (A.length-1)).filter λk=>Zv (0<((qA A k).length:Int)))=P;have t0:tV (aB fK (bH aP (aR 2)) (eI 0)) (bB [.ro (.lst (A.map aG)),.ro (aI pk),.ro (aI P),.no,.no,.no,.no,.no])=aa (Zv ((P.length:Int)=0)):=eW (binI (x:=P.length) (y:=0) (bP rfl AW) rfl cN) rfl;by_cases hE:P=[]
 .subst hE;show HZ (X2 ae t0 (λ_=>gS _ rfl same) λz=>by cases z)
 have hpl:0<P.length:=lh.2 hE;obtain⟨k,Z,ek⟩:=C4 (P:=P) (c:=η pk 1) hE;rw[<- hP] at Z;have hk1:=bD.1 (gc.1 Z).1;have k0:0<=k:=by lia
 have k1:k<(A.length:Int):=by lia
 obtain⟨r,hr,er,ea⟩:=nW k0 k1;have hw:r.2≠[]:=λz=>by have h2:=(gc.1 Z).2;rw[er,z] at h2;cases h2
 obtain⟨a,b,p,q,w0,hp1,hq1⟩:=YG g hr hw;obtain⟨u,hu,_,eu⟩:=nW (A:=A) (k:=(p:Int)) ∅ ∅;obtain⟨v,hv,_,ev⟩:=nW (A:=A) (k:=(q:Int)) ∅ ∅;have Y:aG r=.tup [aE r.1,τ [a,b,(p:Int),(q:Int)]]:=by unfold aG;rw[w0]
 rw[Y] at ea;show bF _ (rE (t0.trans (by rw[Zy ∅])) rfl) ?_;show bF [.ro (.lst (A.map aG)),.ro (aI pk),.ro (aI P),.ri k,.no,.no,.no,.no] (dY _ (aL (x:=aI P) (y:=.int (η pk 1%(P.length:Int))) rfl (aL (K rfl (by decide) (by decide)) (bP rfl AW) (bG ∅)) ek) rfl) ?_;show bF [.ro (.lst (A.map aG)),.ro (aI pk),.ro (aI P),.ri k,.ro (aE r.1),.ro (τ [a,b,(p:Int),(q:Int)]),.no,.no] (O8 (aL (x:=.lst (A.map aG)) (y:=.int k) rfl rfl ea)) ?_;have F:∀{ρ:b7} {m:Nat} {z:Int} {w:Q0e},aF 5 ρ=aa (τ w)->w[m]?=aa z->aB aO gJ (eC (.int (m:Int))) ρ=aa (.int z):=λh X=>aL h rfl (iO X);show bF [.ro (.lst (A.map aG)),.ro (aI pk),.ro (aI P),.ri k,.ro (aE r.1),.ro (τ [a,b,(p:Int),(q:Int)]),.ro (aG u),.no] (dY _ (aL (x:=.lst (A.map aG)) (y:=.int p) rfl (F (m:=2) (w:=[a,b,(p:Int),(q:Int)]) rfl rfl) eu) rfl) ?_;show bF [.ro (.lst (A.map aG)),.ro (aI pk),.ro (aI P),.ri k,.ro (aE r.1),.ro (τ [a,b,((A.length-1:Nat):Int),(q:Int)]),.ro (aG u),.no] (dY _ (C0 (aV (F (m:=0) (w:=[a,b,(p:Int),(q:Int)]) rfl rfl) (aV (F (m:=1) (w:=[a,b,(p:Int),(q:Int)]) rfl rfl) (aV (O rfl) (aV (F (m:=3) (w:=[a,b,(p:Int),(q:Int)]) rfl rfl) rfl)))) (by simp)) rfl) ?_;show fG (λρ=>∃(w:Q0e) (t:PR),(t.1.length<=1000 /\∀w∈t.1,w.length<=1000)/\ρ=[.ro (.lst (A.map aG)),.ro (aI pk),.ro (aI P),.ri k,.ro (aE r.1),.ro (τ w),.ro (aG t),.no]) ?_ λρ U=>?_
 .refine cR (Zv (η pk 2%2=1)) (eW (binI (x:=(η pk 2%2)) (y:=1) (aL (K rfl (by decide) (by decide)) rfl (bG (by decide))) rfl cN) rfl) (λ_=>?_) λ_=>fH ⟨_,_,row_shape I g hu,rfl⟩;have Aa:∀{ρ:b7} {m:Nat} {z:Int},aF 0 ρ=aa (.lst (A.map aG))->aF 3 ρ=aa (.int k)->[a,b,(p:Int),(q:Int)][m]?=aa z->aB aO (aB aO (aB aO cZ d9) (eI 1)) (eC (.int (m:Int))) ρ=aa (.int z):=λJ h3 X=>aL (x:=τ [a,b,(p:Int),(q:Int)]) (aL (x:=.tup [aE r.1,τ [a,b,(p:Int),(q:Int)]]) (y:=.int 1) (aL J h3 ea) rfl rfl) rfl (iO X);show dU [.ro (.lst (A.map aG)),.ro (aI pk),.ro (aI P),.ri k,.ro (aE r.1),.ro (τ [a,b,((A.length-1:Nat):Int),(q:Int)]),.ro (aG v),.no] (dY _ (aL (x:=.lst (A.map aG)) (y:=.int q) rfl (Aa (m:=3) rfl rfl rfl) ev) rfl) ?_;show eT _ (C0 (aV (F (m:=0) (w:=[a,b,((A.length-1:Nat):Int),(q:Int)]) rfl rfl) (aV (F (m:=1) (w:=[a,b,((A.length-1:Nat):Int),(q:Int)]) rfl rfl) (aV (Aa (m:=2) rfl rfl rfl) (aV (O rfl) rfl)))) (by simp)) ⟨[a,b,p,((A.length-1:Nat):Int)],v,row_shape I g hv,rfl⟩
 obtain⟨w,t,ht,rfl⟩:=U;have L1:=JB (e:=aF 0) (i:=aF 3) (j:=aB bS d9 (eI 1)) (n:=bN (aA fR (aR 5))) (ρ:=gO [.ro (.lst (A.map aG)),.ro (aI pk),.ro (aI P),.ri k,.ro (aE r.1),.ro (τ w),.ro (aG t),.no]) (R:=A) (k:=k) (k':=k+1) (r:=(r.1,w)) rfl rfl (binI (x:=k) (y:=1) rfl rfl dN) (rJ rfl rfl) k0 ∅ ∅ ∅ ∅;have sr:=row_shape I g hr;have hB:=Sh.repl (k:=k.toNat) (j:=(k+1).toNat) (r:=(r.1,w)) (GoodR.sh I g) sr;have zz:=p9 (R:=A) (k:=k.toNat) (j:=(k+1).toNat) (r:=(r.1,w));have L:0<(A.take k.toNat++[(r.1,w)]++A.drop (k+1).toNat).length:=by simp only[bq,cf];lia
 generalize A.take k.toNat++[(r.1,w)]++A.drop (k+1).toNat=B at L1 hB zz L;show bF [.ro (.lst (A.map aG)),.ro (aI pk),.ro (aI P),.ri k,.ro (aE r.1),.ro (τ w),.ro (aG t),.ro (.lst (B.map aG))] (dY _ L1 rfl) ?_;obtain⟨C,l,rfl⟩:∃C l,B=C++[l]:=by
  rcases uu B with e|⟨C,l,e⟩
  .rw [e] at L;cases L
  .exact ⟨C,l,by rw[e,Ep]⟩
 rw[bq,cf,cy] at zz;show gS (.lst ((C++[t]++[l]).map aG)) (aL (x:=.lst ((C++[t]).map aG)) (y:=.lst [aG l]) (aL (x:=.lst (C.map aG)) (y:=.lst [aG t]) (LL.YD (d:=.lst ((C++[l]).map aG)) rfl rfl rfl ?_) rfl ?_) (LL.YD (d:=.lst ((C++[l]).map aG)) rfl rfl rfl ?_) ?_) ⟨C++[t]++[l],⟨λs o=>?_,?_⟩,rfl⟩
 .rw [cc];show uF
 .rw [d7 (by rw[a_];show C.length+1<=16777216;lia),cc (f:=aG)];rfl
 .rw [cc];show IY
 .rw [d7 (by rw[a_,bq];show C.length+1+1<=16777216;lia),cc (f:=aG) (l₁:=C++[t])];rfl
 .rcases di.1 o with o|o
  .rcases di.1 o with o|o
   .exact hB s (iq _ o)
   .rw [bt.1 o];show ht
  .exact hB s (gu _ o)
 .rw [bq,bq,cf,cy];show C.length+1+1<=_;lia
variable{c:Int}
abbrev SB(n:Nat)(c:Int)(y:Q0a):bK:=[.ri n,.ri c,.ow (.lst (y.map τ))]
def mK{f k:EF}{y:Q0a}{r:Q0e}{a:Int}(l:f (gO (SB n c y))=aa (τ r))(h:k (bB (SB n c y))=aa (.int a))(o:0<=a)(m:a<(y.length:Int)):rB 2 (aT f) k (SB n c y)=.nx (SB n c (y.set a.toNat r)):=by unfold rB aT;rw[l];show(match ((k (bB (SB n c y))).bind λkd=>(asInt kd).bind λa=>(E3 (y.map τ).length a).map λj=>(SB n c y).set 2 (.ow (.lst ((y.map τ).set j (τ r))))) with|some d=>Out.nx d | none=>Out.no)=_;rw[h];show(match (E3 (y.map τ).length a).map λj=>(SB n c y).set 2 (.ow (.lst ((y.map τ).set j (τ r)))) with|some d=>Out.nx d | none=>Out.no)=_;rw[rF o (by rw[a_];show m)];show Out.nx ((SB n c y).set 2 (.ow (.lst ((y.map τ).set a.toNat (τ r)))))=_;rw[<- a2a];rfl
def Oh{f k:EF}{y:Q0a}{r:Q0e}{d:Int}(l:f (bB (SB n c y))=aa (τ r))(h:k (bB (SB n c y))=aa (.int d))(o:0<=d)(m:d<(y.length:Int)):rB 2 (fB f) k (SB n c y)=.nx (SB n c (y.set d.toNat r)):=by unfold rB fB;rw[l];show(match ((if(τ r).qW=ae then aa (SB n c y,τ r) else af).bind λp=>(kJ p.1[2]?).bind λds=>(k (bB p.1)).bind λkd=>(asInt kd).bind λd=>(E3 ds.length d).map λj=>p.1.set 2 (.ow (.lst (ds.set j p.2)))) with|some a=>Out.nx a | none=>Out.no)=_;rw[Z_ (show(τ r).qW=ae from LL.kQ r)];show(match ((k (bB (SB n c y))).bind λkd=>(asInt kd).bind λd=>(E3 (y.map τ).length d).map λj=>(SB n c y).set 2 (.ow (.lst ((y.map τ).set j (τ r))))) with|some a=>Out.nx a | none=>Out.no)=_;rw[h];show(match (E3 (y.map τ).length d).map λj=>(SB n c y).set 2 (.ow (.lst ((y.map τ).set j (τ r)))) with|some a=>Out.nx a | none=>Out.no)=_;rw[rF o (by rw[a_];show m)];show Out.nx ((SB n c y).set 2 (.ow (.lst ((y.map τ).set d.toNat (τ r)))))=_;rw[<- a2a];rfl
def Yr(hn:n<=9):∃y,Sm 20 y/\uG [.int n,.int c]=.ok (aE y):=by
 unfold uG
 suffices h:∃d,cM 3 2 _ [.int (n:Int),.int c]=.ok d /\∃y,Sm 20 y/\d=aE y by obtain⟨d,e,y,J,rfl⟩:=h;show⟨y,J,e⟩
 show i5 rfl ?_;have Z:∀{m:Int},0<=m->m<=20->(aS 0 m.toNat).length<=20:=λh0 h1=>by rw[aN];lia
 have o:Sm 20 ((aS 0 n).map λb=>aS 0 b.toNat):=⟨by rw[a_,aN];lia,λr p=>by obtain⟨b,F,rfl⟩:=fq.1 p;have:=bD.1 F;show Z ∅ ∅⟩
 have O:∀r∈(aS 0 n).map (λb=>aS 0 b.toNat),r.length<=9:=λr p=>by obtain⟨b,F,rfl⟩:=fq.1 p;have:=bD.1 F;rw[aN];lia
 have q:((aS 0 n).map λb=>aS 0 b.toNat).length=n:=by rw[a_,aN]
 have tr:∀{ρ:b7} {e:EF} {m:Int},e ρ=aa (.int m)->m.natAbs<=16777216->uM (aA e aH) ρ=aa (τ (aS 0 m.toNat)):=λh hm=>by unfold uM;rw[args1 h];show Z_ hm
 show bF (SB n c ((aS 0 n).map λb=>aS 0 b.toNat)) ?_ ?_
 .have e:cB 1 [] (bC (aR 0)) (g1 0) eO (uM (aR 0)) (gO (eG 3 [.int (n:Int),.int c]))=aa (.lst (((aS 0 n).map λb=>aS 0 b.toNat).map τ)):=by rw[gd];show i7 ((aS 0 n).map D.int) (sO rfl ∅) (by rw[a_,aN];lia) (fL D.int (τ∘λb=>aS 0 b.toNat) _ λb F=>⟨_,rfl,tr rfl (by have:=bD.1 F;lia)⟩)
  unfold i0;rw[e];rfl
 generalize (aS 0 n).map (λb=>aS 0 b.toNat)=y at o q O;have cE:∀k j:Int,fD (tV (aB jW (aF 0) (eI k))) (tV (aB fK (aB bU (aF 1) (eI 8)) (eI j))) (bB (SB n c y))=aa (Zv (k<(n:Int))&&Zv (c%8=j)):=λk j =>
  oD (eW (binI (x:=n) (y:=k) rfl rfl dZ) rfl) (λh=>by rw[h,de];show eW (binI (x:=(c%8)) (y:=j) (binI (x:=c) (y:=8) rfl rfl (bG (by decide))) rfl cN) rfl) λh=>by rw[h];rfl
 have v:∀{k j:Int},(Zv (k<(n:Int))&&Zv (c%8=j))=ae->k<(n:Int):=λh=>by rw[cm] at h;show of_decide_eq_true h.1
 have Y:=gn (c/8) (show(2:Int)≠0 by decide);have X:=gz (c/8) (show(0:Int)<2 by decide);have U:∀{ρ:b7},aF 1 ρ=aa (.int c)->aB bU (aB jJ (aF 1) (eI 8)) (eI 2) ρ=aa (.int (c/8%2)):=λh=>binI (x:=(c/8)) (y:=2) (aL h rfl (iT (by decide) (by decide))) rfl (bG (by decide));have m1:∀{ρ:b7},aF 0 ρ=aa (.int n)->aB fJ (aF 0) (eI 1) ρ=aa (.int ((n:Int)-1)):=λh=>binI (x:=n) (y:=1) h rfl eK;have L:∀{ρ:b7},aB mG (aB qZ (eI 10) (eI 60)) (eI 10) ρ=aa (.int (((10:Int)^60)^10)):=λ{ρ}=>by
  show binI (x:=((10:Int)^60)) (y:=10) (binI (x:=10) (y:=60) rfl rfl ?_) rfl ?_
  .unfold qZ gR;show Z_ (by decide)
  .unfold mG gR;show Z_ (by decide+kernel)
 show fG (λρ=>∃y,Sm 20 y/\ρ=SB n c y) ?_ λρ I=>?_
 rotate_left
 .obtain ⟨y,J,rfl⟩:=I;show gS (aE y) (bP (x:=.lst (y.map τ)) rfl rfl) ⟨y,J,rfl⟩
 show cR _ (cE 0 0) (λh=>⟨_,mK (tr (m:=(n:Int)) rfl ∅) (m1 rfl) (by have:=v h;lia) ∅,_,oX o (by rw[aN];lia),rfl⟩) λ_=>?_;show cR _ (cE 2 1) (λh=>?_) λ_=>?_
 .have:=v h;show dU _ (mK (r:=[2]) rfl rfl (by decide) ∅) ⟨_,mK (r:=[1]) rfl rfl (by decide) (by rw[dm];lia),_,oX (oX o (by simp)) (by simp),rfl⟩
 show cR _ (cE 2 2) (λh=>⟨_,mK (r:=[1,0]) rfl rfl (by decide) (by have:=v h;lia),_,oX o (by simp),rfl⟩) λ_=>?_;show cR _ (cE 1 3) (λh=>⟨_,mK (r:=[0,0]) rfl rfl (by decide) (by have:=v h;lia),_,oX o (by simp),rfl⟩) λ_=>?_;show cR _ (cE 0 4) (λh=>?_) λ_=>?_
 .obtain ⟨z,_,K⟩:=sY (a:=aA (fP (eI 1)) (aA (aB fJ (eI 1) (aB mG (aB qZ (eI 10) (eI 60)) (eI 10))) aH)) (i:=aB bU (aB jJ (aF 1) (eI 8)) (eI 2)) (ρ:=gO (SB n c y)) D.int [-1,1-((10:Int)^60)^10] (aV rfl (aV (aL rfl L eK) rfl)) (U rfl) Y X (by simp);show⟨_,mK (r:=[z]) (C0 (aV K rfl) (by simp)) rfl (by decide) (by have:=v h;lia),_,oX o (by simp),rfl⟩
 show cR _ (cE 0 5) (λh=>?_) λ_=>?_
 .have hg:=v h;obtain⟨z,_,K⟩:=sY (a:=aA (aF 0) (aA (aB fJ (aB mG (aB qZ (eI 10) (eI 60)) (eI 10)) (eI 1)) aH)) (i:=aB bU (aB jJ (aF 1) (eI 8)) (eI 2)) (ρ:=bB (SB n c y)) D.int [(n:Int),((10:Int)^60)^10-1] (aV rfl (aV (aL L rfl eK) rfl)) (U rfl) Y X (by simp);obtain⟨r,p,er,_⟩:=rG (xs:=y) (i:=(n:Int)-1) ∅ ∅;have hrl:=O r p;show⟨_,Oh (r:=r++[z]) (aL (x:=τ r) (y:=τ [z]) (aL (x:=.lst (y.map τ)) (y:=.int ((n:Int)-1)) rfl (m1 rfl) (by rw[pT,lD,er];rfl)) (C0 (aV K rfl) (by simp)) (by unfold τ;rw[uW (by simp;lia),cc])) (m1 rfl) ∅ ∅,_,oX o (by rw[bq,cf,cy];lia),rfl⟩
 show cR _ (cE 0 6) (λh=>?_) λ_=>?_
 .have hg:=v h;obtain⟨z,l,rfl⟩:∃z l,y=z++[l]:=by
   rcases uu y with e|⟨z,l,e⟩
   .rw [e] at q;have:(0:Nat)=n:=q;lia
   .exact ⟨z,l,by rw[e,Ep]⟩
  show⟨SB n c z,?_,z,⟨?_,λr p=>o.2 r (iq _ p)⟩,rfl⟩
  .unfold B9;rw[show ZR (aF 2) xB (oE (fP (eI 1))) (bB (SB n c (z++[l])))=aa (.lst (z.map τ)) from ?_]
   .show (if jT (z.map τ)=ae then _ else _)=_;rw[Z_ (PH z)];rfl
   .show Bp (.lst ((z++[l]).map τ)) af (aa (-1))=_;rw[cc];show uF
  .have:=o.1;rw[bq] at this;lia
 .refine ⟨_,CK (d:=τ (aS 0 n)) (ds:=y.map τ) (tr (m:=(n:Int)) rfl ∅) rfl (by rw[a_];lia),y++[aS 0 n],⟨?_,λr p=>?_⟩,?_⟩
  .rw [bq,cf,cy];lia
  .rcases di.1 p with p|p
   .exact o.2 r p
   .rw [bt.1 p,aN];lia
  .show [Sv.ro (D.int n),Sv.ro (D.int c),Sv.ow (.lst (y.map τ++[τ (aS 0 n)]))]=[Sv.ro (D.int n),Sv.ro (D.int c),Sv.ow (.lst ((y++[aS 0 n]).map τ))];rw[cc];rfl
def LF(hn:n<=9)(g:GoodR n A)(hl:A.length<4000000){sp:Int}{t:PR}(Z:0<=sp)(h1:sp<=(A.length:Int))(ht:t.1.length<=1000 /\∀w∈t.1,w.length<=1000):∃d,lM [.lst (A.map aG),.int sp,aG t]=.ok d/\Res (2*A.length+1) d:=by
 unfold lM;show i5 rfl ?_;show bF [.ro (.lst (A.map aG)),.ri sp,.ro (aG t),.ow (.lst []),.no,.no] rfl ?_;show fG (λρ=>∃(F:List PR) (o m:Sv),(F.length=A.length/\Sh F)/\ρ=[.ro (.lst (A.map aG)),.ri sp,.ro (aG t),.ow (.lst (F.map aG)),o,m]) ?_ λρ l=>?_
 .refine uY (A.map aG) (λi ρ=>∃(F:List PR) (o m:Sv),(F.length=i/\Sh F)/\ρ=[.ro (.lst (A.map aG)),.ri sp,.ro (aG t),.ow (.lst (F.map aG)),o,m]) rfl ⟨[],_,_,⟨rfl,λr I=>by cases I⟩,rfl⟩ (λi d ρ Y J=>?_) λρ J=>by rw[a_] at J;show J
  obtain⟨F,o,m,⟨hF,U⟩,rfl⟩:=J;rw[dg] at Y;obtain⟨r,I,rfl⟩:=k_.1 Y;have hil:=(cg.1 I).1;show⟨[.ro (.lst (A.map aG)),.ri sp,.ro (aG t),.ow (.lst (F.map aG)),.ro (aE r.1),.ro (τ r.2)],rfl,?_⟩;show oU (λρ=>∃w,ρ=[.ro (.lst (A.map aG)),.ri sp,.ro (aG t),.ow (.lst (F.map aG)),.ro (aE r.1),.ro (τ w)]) ?_ λρ l=>?_
  .rcases Oi (g i r I) with O|⟨a,b,p,q,O⟩
   .rw [O];show cR ag rfl (λh=>by cases h) λ_=>fH ⟨_,rfl⟩
   .rw [O];show cR ae rfl (λ_=>?_) λh=>by cases h
    have X:∀b:Bool,∃z:Int,uN [.bl b]=aa (.int z):=λb=>⟨_,rfl⟩;obtain⟨L,e1⟩:=X (Zv (sp<=(p:Int)));obtain⟨K,e2⟩:=X (Zv (sp<=(q:Int)));show eT (τ [a,b,(p:Int)+L,(q:Int)+K]) (C0 (aV (d:=.int a) rfl (aV (d:=.int b) rfl (aV (d:=.int ((p:Int)+L)) (binI (x:=p) (y:=L) rfl (bP (x:=.bl (Zv (sp<=(p:Int)))) (binI (x:=p) (y:=sp) rfl rfl jY) e1) dN) (aV (d:=.int ((q:Int)+K)) (binI (x:=q) (y:=K) rfl (bP (x:=.bl (Zv (sp<=(q:Int)))) (binI (x:=q) (y:=sp) rfl rfl jY) e2) dN) rfl)))) (by simp)) ⟨_,rfl⟩
  .obtain ⟨w,rfl⟩:=l;show⟨_,CK (d:=aG (r.1,w)) (ds:=F.map aG) (rJ rfl rfl) rfl (by rw[a_];lia),F++[(r.1,w)],.ro (aE r.1),.ro (τ w),⟨?_,λs v=>?_⟩,?_⟩
   .rw [bq,cf,cy];lia
   .rcases di.1 v with v|v
    .exact U s v
    .have sr:=row_shape hn g I;rw[bt.1 v];show sr
   .rw [cc (f:=aG)];rfl
 obtain⟨F,o,m,⟨hF,U⟩,rfl⟩:=l;show gS _ (JB (R:=F) (k:=sp) (k':=sp) (r:=t) rfl rfl rfl rfl Z ∅ Z ∅ ∅) ⟨_,⟨Sh.repl U ht,?_⟩,rfl⟩;have:=p9 (R:=F) (k:=sp.toNat) (j:=sp.toNat) (r:=t);lia
def P4{f g h:EF}{ρ:b7}{i j k:Int}(l:f ρ=aa (.int i))(d:g ρ=aa (.int j))(a:h ρ=aa (.int k)):fE tL tL f g h ρ=aa (.bl (Zv (i<j)&&Zv (j<k))):=by unfold fE;rw[l,d,a];show(if Zv (i<j)=ae then aa (D.bl (Zv (j<k))) else aa (.bl ag))=_;cases Zv (i<j)<;>rfl
def Sh.app{R S:List PR}(d:Sh R)(h2:Sh S):Sh (R++S):=λr a=>(di.1 a).elim (d r) (h2 r)
def Yq{f k:L4.SF}{ρ:bK}{o:Out}{Q:bK->Prop}(h:Nx (f ρ) Q)(h2:∀a,Q a->k a=o):aJ f k ρ=o:=by obtain⟨a,e,q⟩:=h;show cL a e (h2 a q)
def P5(ns:Q0e)(hns:ns.length<=63):yO [.gK ns]=.ok (.bl ae):=by
 obtain⟨x,R0,w,L,hx,g,hl,e⟩:=K6 ns;obtain⟨c4,ec4⟩:=nQ ns 4;obtain⟨pk,pkl,pkp,epk⟩:=kR c4 5 500009 (by decide) (by decide);have hp:pk.length=5:=pkl;have hp0:∀i:Int,0<=η pk i:=λi=>by
  unfold η
  cases h:pk[i.toNat]? with
  |none=>show Eu _
  |some a=>show pkp a (ia h)
 have hA:R0++[(x,w)]≠[]:=by simp
 have Gq:(R0++[(x,w)]).length<=3000001:=by rw[bq,cf,cy];lia
 generalize R0++[(x,w)]=A at g e hA Gq;have hpos:0<A.length:=lh.2 hA;have l:Sh A:=GoodR.sh L g;have pick:∀j:Int,∃r,A[(η pk j%(A.length:Int)).toNat]?=aa r/\aO (.lst (A.map aG)) (.int (η pk j%(A.length:Int)))=aa (aG r)/\(r.1.length<=1000 /\∀w∈r.1,w.length<=1000):=λj=>by obtain⟨r,K,_,U⟩:=nW (A:=A) (k:=η pk j%(A.length:Int)) (gn _ ∅) (gz _ ∅);show⟨r,K,U,row_shape L g K⟩
 have o:∀{ρ:b7} {j:Int},aF 3 ρ=aa (aI pk)->0<=j->j<5->aB aO d9 (eI j) ρ=aa (.int (η pk j)):=λh h0 Z=>aL (x:=aI pk) h rfl (lG h0 ∅);have F:∀{ρ:b7} {j:Int},aF 3 ρ=aa (aI pk)->aF 2 ρ=aa (.lst (A.map aG))->0<=j->j<5->aB bU (aB aO d9 (eI j)) (bH aP (aR 2)) ρ=aa (.int (η pk j%(A.length:Int))):=λh h2 h0 Z=>aL (o h h0 Z) (bP h2 gZ) (bG ∅);unfold yO;show iU rfl ?_;show cL [.ro (.gK ns),.ro (aE x),.ro (.lst (A.map aG)),.no,.no,.no,.no,.no,.no] (O8 (jL rfl e)) ?_;show cL [.ro (.gK ns),.ro (aE x),.ro (.lst (A.map aG)),.ro (aI pk),.no,.no,.no,.no,.no] (dY _ (dC (c6 rfl rfl ec4) rfl rfl epk) rfl) ?_;show cL [.ro (.gK ns),.ro (aE x),.ro (.lst (A.map aG)),.ro (aI pk),.ro (.int (η pk 0%18)),.no,.no,.no,.no] (dY _ (aL (o rfl (by decide) (by decide)) rfl (bG (by decide))) rfl) ?_;generalize η pk 0%18=kd;show cL [.ro (.gK ns),.ro (aE x),.ro (.lst (A.map aG)),.ro (aI pk),.ri kd,.ro (aE x),.no,.no,.no] rfl ?_;have same:∃(h:Q0a) (R:List PR) (v q:Sv),(Sh R/\R.length<=15000000)/\([.ro (.gK ns),.ro (aE x),.ro (.lst (A.map aG)),.ro (aI pk),.ri kd,.ro (aE x),.no,.no,.no]:bK)=[.ro (.gK ns),.ro (aE x),.ro (.lst (R.map aG)),.ro (aI pk),.ri kd,.ro (aE h),v,q,.no]:=⟨x,A,_,_,⟨l,by lia⟩,rfl⟩;have J:∀{ρ:bK} {j:Int},aF 4 (bB ρ)=aa (.int kd)->tV (aB fK fR (eI j)) (bB ρ)=aa (Zv (kd=j)):=λh=>eW (aL h rfl cN) rfl;have fin:∀{d:D} {m:Nat},Res m d->m<=15000000 ->∃(h:Q0a) (R:List PR) (v q:Sv),(Sh R/\R.length<=15000000)/\([.ro (.gK ns),.ro (aE x),.ro d,.ro (aI pk),.ri kd,.ro (aE x),.no,.no,.no]:bK)=[.ro (.gK ns),.ro (aE x),.ro (.lst (R.map aG)),.ro (aI pk),.ri kd,.ro (aE h),v,q,.no]:=λ{d m} ⟨R,⟨Z,h2⟩,e⟩ hm=>⟨x,R,.no,.no,⟨Z,by lia⟩,by rw[e]⟩;show Yq (Q:=(λρ=>∃(h:Q0a) (R:List PR) (v q:Sv),(Sh R/\R.length<=15000000)/\ρ=[.ro (.gK ns),.ro (aE x),.ro (.lst (R.map aG)),.ro (aI pk),.ri kd,.ro (aE h),v,q,.no])) ?_ λρ hρ=>?_
 rotate_left
 .obtain ⟨h,R,v,q,⟨sR,lR⟩,rfl⟩:=hρ;show(cL [.ro (.gK ns),.ro (aE x),.ro (.lst (R.map aG)),.ro (aI pk),.ri kd,.ro (aE h),v,q,.ro (.bl (sW h R))] (dY _ (c6 (x:=aE h) (y:=.tup (R.map aG)) rfl (bP rfl rfl) (LB sR lR)) rfl) (d6 (FR (p:=ae) (isi (d:=.bl (sW h R)) rfl) (λ_=>?_) λz=>by cases z)));show aL (x:=.bl (sW h R)) (y:=.bl (sW h R)) rfl (c6 rfl rfl (FU sR lR)) ?_;rw[OB,Zx rfl]
 show cR (ρ:=[.ro (.gK ns),.ro (aE x),.ro (.lst (A.map aG)),.ro (aI pk),.ri kd,.ro (aE x),.no,.no,.no]) (Zv (kd=1)) (J rfl) (λ_=>?k1) λ_=>cR (Zv (kd=2)) (J rfl) (λ_=>?k2) λ_=>cR (Zv (kd=17)&&(Zv (0<(x.length:Int))&&Zv ((x.length:Int)<6))) (oD (J rfl) (λh=>by rw[h,de];show eW (P4 rfl (bP rfl bZ) rfl) rfl) λh=>by rw[h];rfl) (λO=>?k17) λ_=>cR (Zv (kd=14)) (J rfl) (λ_=>?k14) λ_=>cR (Zv (kd=15)) (J rfl) (λ_=>?k15) λ_=>cR (Zv (kd=16)) (J rfl) (λ_=>?k16) λ_=>cR (Zv (2<kd)&&Zv (kd<14)) (eW (P4 rfl rfl rfl) rfl) (λO=>?k3) λ_=>fH same
 case k1 =>
  obtain⟨r,_,U,_⟩:=pick 1;show eT (aE r.1) (aL (x:=aG r) (y:=.int 0) (aL (x:=.lst (A.map aG)) rfl (F rfl rfl (by decide) (by decide)) U) rfl rfl) ⟨r.1,A,_,_,⟨l,by lia⟩,rfl⟩
 case k2 =>
  obtain⟨y,sy,ey⟩:=Yr (n:=x.length) (c:=η pk 1) L;have Y:∀w∈y,w.length<=1000:=λw hw=>by have:=sy.2 w hw;lia
  have s0:=sy.1;obtain⟨d,I,rd⟩:=LF L g ∅ (sp:=η pk 2%((A.length:Int)+1)) (t:=(y,[])) (gn _ ∅) (by have:=gz (η pk 2) (show(0:Int)<(A.length:Int)+1 by lia);lia) ⟨by show y.length<=1000;lia,Y⟩;show eT d (dC (x:=.lst (A.map aG)) (y:=.int (η pk 2%((A.length:Int)+1))) (z:=aG (y,[])) rfl (aL (o rfl (by decide) (by decide)) (binI (x:=A.length) (y:=1) (bP rfl gZ) rfl dN) (bG ∅)) (rJ (c6 (x:=.int x.length) (y:=.int (η pk 1)) (bP rfl bZ) (o rfl (by decide) (by decide)) ey) rfl) I) (fin rd ∅)
 case k17 =>
  simp only[cm,decide_eq_true_eq] at O;obtain⟨_,hx0,hx6⟩:=O;obtain⟨c5,ec5⟩:=nQ ns 5;obtain⟨ds,X,_,eds⟩:=kR c5 10 600011 (by decide) (by decide);have X:ds.length=10:=X;obtain⟨m,hm⟩:∃m,x.length=m+1:=⟨x.length-1,by lia⟩;have h5:m<=4:=by lia
  obtain⟨d,I,y,ly,ry,rfl⟩:=pW (pk++ds) m 2 ∅ (by
   rw[bq];have:m+Ord.tri m<=15:=by
    match m,h5 with
    |0,_=>decide
    |1,_=>decide
    |2,_=>decide
    |3,_=>decide
    |4,_=>decide
   lia)
  obtain⟨R1,w1,g1,l1,e1⟩:=vE (dr:=pk) ry ∅ ∅;have gy:=IV (x:=y) ∅;have Y:Sh (R1++[(y,w1)]):=GoodR.sh ∅ g1;generalize R1++[(y,w1)]=B at l1 e1 Y;have mv:=CW (m:=B.length) g ∅;show dU [.ro (.gK ns),.ro (aE x),.ro (.lst (A.map aG)),.ro (aI pk),.ri kd,.ro (aE x),.ro (.lst (B.map aG)),.no,.no] (dY _ (c6 (dC (x:=aI (pk++ds)) (y:=.int m) (z:=.int 2) (aL (x:=aI pk) (y:=aI ds) rfl (dC (c6 rfl rfl ec5) rfl rfl eds) ?_) ?_ rfl I) rfl e1) rfl) ?_
  .unfold aI;rw[d7 (by rw[a_,a_];lia),cc]
  .refine (binI (x:=x.length) (y:=1) (bP rfl bZ) rfl eK).trans ?_;rw[hm,show((m+1:Nat):Int)-1=(m:Int) by lia]
  show cR (Zv ((B.length:Int)+(A.length:Int)<=300)) (eW (binI (x:=((B.length:Int)+(A.length:Int))) (y:=300) (binI (x:=B.length) (y:=A.length) (bP rfl gZ) (bP rfl gZ) dN) rfl t8) rfl) (λ_=>?_) λ_=>fH ⟨x,A,_,_,⟨l,by lia⟩,rfl⟩;show eT (.lst ((B++A.map (l9 B.length)).map aG)) (aL (x:=.lst (B.map aG)) (y:=.lst ((A.map (l9 B.length)).map aG)) rfl (c6 rfl (bP rfl gZ) mv) ?_) ⟨x,_,_,_,⟨Sh.app Y λr K=>?_,?_⟩,rfl⟩
  .rw [d7 (by rw[a_,a_,a_];lia),cc (f:=aG)]
  .obtain ⟨s,hs,rfl⟩:=fq.1 K;rw[sV];show l s hs
  .rw [bq,a_];lia
 case k14 =>
  obtain⟨d,I,rd⟩:=LD L g hA ∅ hp;show eT d (c6 rfl rfl I) (fin rd ∅)
 case k15 =>
  obtain⟨r,_,U,sr⟩:=pick 2;obtain⟨t,_,et,_⟩:=pick 1;have k0:=gn (η pk 1) (show(A.length:Int)≠0 by lia);have k1:=gz (η pk 1) (show(0:Int)<(A.length:Int) by lia);show dU [.ro (.gK ns),.ro (aE x),.ro (.lst (A.map aG)),.ro (aI pk),.ri kd,.ro (aE x),.no,.ro (.int (η pk 1%(A.length:Int))),.no] (dY _ (F rfl rfl (by decide) (by decide)) rfl) ?_;generalize η pk 1%(A.length:Int)=k at k0 k1 et;show eT _ (JB (R:=A) (k:=k) (k':=k+1) (r:=(r.1,t.2)) rfl rfl (binI (x:=k) (y:=1) rfl rfl dN) (rJ (aL (x:=aG r) (y:=.int 0) (aL (x:=.lst (A.map aG)) rfl (F rfl rfl (by decide) (by decide)) U) rfl rfl) (aL (x:=aG t) (y:=.int 1) (aL (x:=.lst (A.map aG)) (y:=.int k) rfl rfl et) rfl rfl)) k0 ∅ ∅ ∅ ∅) ⟨x,_,_,_,⟨Sh.repl (r:=(r.1,t.2)) l sr,by have:=p9 (R:=A) (k:=k.toNat) (j:=(k+1).toNat) (r:=(r.1,t.2));lia⟩,rfl⟩
 case k16=>show eT (.lst (([]:List PR).map aG)) rfl ⟨x,[],_,_,⟨λr K=>(by cases K),by simp⟩,rfl⟩
 case k3 =>
  rw[cm,decide_eq_true_eq,decide_eq_true_eq] at O;obtain⟨d,I,rd⟩:=LC L g ∅ hp hp0 O;show eT d (dC rfl rfl rfl I) (fin rd ∅)
end
end K33
section
-- CHANGE: your row's module here,as the last of these rows
namespace L2
open PySem.Spec PyProof.Rows
abbrev Key:=Sum Int ak
noncomputable def yP:Key->ai->Bool
 |.inl k,v=>a0N k v
 |.inr x,v=>a0M x v
noncomputable def Og(w:ba):Key->Int
 |.inl k=>hashInt k
 |.inr x=>hashStr w x
theorem cV:∀{k:Key} {v:ai},yP k v=ae->(∃i t,k=cn i/\v=mf i t)\/(∃x t,k=iy x/\v=xj x t)
 |.inl i,v,h=>by obtain⟨t,e⟩:=Value.isInt_shape (k:=i) (v:=v) h;show .inl ⟨i,t,rfl,e⟩
 |.inr x,v,h=>by obtain⟨t,e⟩:=Value.isStrOf_shape (x:=x) (v:=v) h;show .inr ⟨x,t,rfl,e⟩
def LG(i:Int)(t:Tok):yP (.inl i) (.int i t)=ae:=by simp[yP,a0N]
def LH(x:ak)(t:Tok):yP (.inr x) (.str x t)=ae:=by simp[yP,a0M]
def Yp(a b:Int):Zv ((cn a:Key)=cn b)=(a == b):=by
 by_cases e:a=b
 .subst e;simp
 .have h:¬ (cn a:Key)=cn b:=λq=>e (sj q);rw[Zy h];show(beq_eq_false_iff_ne.mpr e).symm
def Yo(a b:ak):Zv ((iy a:Key)=iy b)=Zv (a=b):=by
 by_cases e:a=b
 .subst e;simp
 .have h:¬ (iy a:Key)=iy b:=λq=>e (si q);rw[Zy h,Zy e]
def Yn(a:Int)(b:ak):Zv ((cn a:Key)=iy b)=ag:=Zy (λq=>nomatch q)
def Ym(a:ak)(b:Int):Zv ((iy a:Key)=cn b)=ag:=Zy (λq=>nomatch q)
def bE(Ω:bg)(w:ba):PySem.KeyKind Ω w Key where
 is:=yP
 hash:=Og w
 inj:=λv a b o m=>by
  rcases cV o with⟨i,t,rfl,rfl⟩|⟨x,t,rfl,rfl⟩
  .rcases cV m with⟨j,u,rfl,e⟩|⟨y,u,rfl,e⟩
   .injection e with d _;rw[d]
   .exact nomatch e
  .rcases cV m with⟨j,u,rfl,e⟩|⟨y,u,rfl,e⟩
   .exact nomatch e
   .injection e with d _;rw[d]
 byValue:=λk v h=>by rcases cV h with⟨i,t,rfl,rfl⟩|⟨x,t,rfl,rfl⟩<;>rfl
 pyHash:=λl h=>by
  rcases cV l with⟨i,t,rfl,rfl⟩|⟨x,t,rfl,rfl⟩
  .exact wpAny_pyHash_int h
  .exact wpAny_pyHash_str h
 eqBool:=λn l h=>by
  rcases cV n with⟨i,t,rfl,rfl⟩|⟨x,t,rfl,rfl⟩
  .rcases cV l with⟨j,u,rfl,rfl⟩|⟨y,u,rfl,rfl⟩
   .rw [Yp] at h;show wpAny_eqBool_int h
   .rw [Yn] at h;show a0Y i t y u _ _ _ _ h
  .rcases cV l with⟨j,u,rfl,rfl⟩|⟨y,u,rfl,rfl⟩
   .rw [Ym] at h;show a0X x t j u _ _ _ _ h
   .rw [Yo] at h;show wpAny_eqBool_str h
 «strs»:=λk x t v h=>by
  rcases cV h with⟨i,u,rfl,e⟩|⟨y,u,rfl,e⟩
  .exact nomatch e
  .injection e with d _;subst d;cases v<;>rfl
def C5(Ω:bg)(w:ba)(i:Int)(t:Tok):(bE Ω w).is (.inl i) (.int i t)=ae:=LG i t
def C6(Ω:bg)(w:ba)(x:ak)(t:Tok):(bE Ω w).is (.inr x) (.str x t)=ae:=LH x t
abbrev N1:=List (Sum Key (List Key))
abbrev KX:=Sum Key N1
section
variable{Ω:bg}{w:ba}{K:Type}[dK:DecidableEq K](knd:KeyKind Ω w K)
noncomputable def oY(h:bb):Sum K (List K)->ai->Prop
 |.inl k,v=>knd.is k v=ae
 |.inr ks,v=>∃b,v=.ref b/\IsTupleKey knd h ks b
inductive g7 (h:bb):List (Sum K (List K))->List ai->Prop
 |nil:g7 h [] []
 |cons {k:Sum K (List K)} {v:ai} {ks:List (Sum K (List K))} {vs:Q0f}:oY knd h k v->g7 h ks vs->g7 h (k::ks) (v::vs)
def iJ(h:bb)(ks:List (Sum K (List K)))(a:ah):Prop:=∃o items n,h.get? a=aa o/\o.cls=.type "tuple" /\o.data=.seq items n/\g7 knd h ks items.toList
variable{knd}
theorem oY.inj{h:bb}{v:ai}:∀{x y:Sum K (List K)},oY knd h x v->oY knd h y v->x=y
 |.inl a,.inl b,hx,hy=>by rw[knd.inj _ _ _ hx hy]
 |.inl a,.inr b,hx,⟨q,e,_⟩=>by subst e;show Zw (knd.byValue _ _ hx) (by simp[carriedByValue])
 |.inr a,.inl b,⟨q,e,_⟩,hy=>by subst e;show Zw (knd.byValue _ _ hy) (by simp[carriedByValue])
 |.inr a,.inr b,⟨q,e,hx⟩,⟨r,f,hy⟩=>by subst e;injection f with f;subst f;rw[hx.inj hy]
theorem g7.inj{h:bb}{x:List (Sum K (List K))}{d:Q0f}(j:g7 knd h x d):∀{y},g7 knd h y d->x=y:=by
 induction j with
 |nil=>intro y a;cases a;rfl
 |cons h1 _ ih =>
  intro y a
  cases a with
  |cons h2 t2=>rw[h1.inj h2,ih t2]
def iJ.typeIs{s:ao}{ks:List (Sum K (List K))}{a:ah}(x:iJ knd s.heap ks a):s.TypeIs (.ref a) "tuple":=let ⟨o,_,_,ho,hc,_⟩:=x;⟨o,ho,hc⟩
def iJ.inj{h:bb}{a:ah}{x y:List (Sum K (List K))}(p:iJ knd h x a)(m:iJ knd h y a):x=y:=by obtain⟨o,v,n,ho,_,q,hi⟩:=p;obtain⟨z,its',A,d,_,j,l⟩:=m;rw[ho] at d;cases d;rw[q] at j;cases j;show hi.inj l
theorem iJ.keeps{es ep}(x:iJ knd h ks a)(ho:h.get? d=aa o)(m:o.data=.dict es ep)(p:jw d h h'):iJ knd h' ks a:=by
 obtain⟨q,items,n,y,F,hi,l⟩:=x;have A:a≠d:=λz=>by subst z;rw[y] at ho;cases ho;rw[hi] at m;cases m
 show⟨q,items,n,(p.2 a A).trans y,F,hi,?_⟩;have go:∀{ks:List (Sum K (List K))} {j:Q0f},g7 knd h ks j->g7 knd h' ks j:=by
  intro ks j t
  induction t with
  |nil=>show .nil
  | @cons k v ks j h1 _ ih =>
   show .cons ?_ ih
   cases k with
   |inl k=>show h1
   |inr k=>obtain⟨b,e,I⟩:=h1;show⟨b,e,I.keeps ho m p⟩
 show go l
noncomputable def qB(knd:KeyKind Ω w K):Sum K (List K)->Int
 |.inl k=>knd.hash k
 |.inr ks=>tupleKeyHash knd ks
noncomputable def kZ:Sum K (List K)->Nat
 |.inl _=>1
 |.inr ks=>ks.length+1
def vJ(knd:KeyKind Ω w K)(ks:List (Sum K (List K))):Int:=reduceHash (a1p (ks.map (qB knd)))
def nX(ks:List (Sum K (List K))):Nat:=(ks.map kZ).sum+1
variable{s:ao}{A:br}{E:Q0c}
theorem LI(d:A.units<bx)(a:oY knd s.heap k v)(h:Q (qB knd k) {s with toks:=s.toks+kZ k}):aw (ay Ω w) A (pyHash v) Q E s:=by
 cases k with
 |inl k=>show knd.pyHash a h
 |inr k =>
  obtain⟨b,e,j⟩:=a;subst e;show wpAny_pyHash_tuple d j h
def vK(x:IsTupleKey knd h ks b):∃items,h.IsTuple b items:=by obtain⟨o,items,n,ho,d,a,_⟩:=x;show⟨items,o,ho,d,n,a⟩
end
section
variable{P:bg}{w:ba}{A:br}{E:Q0c}{s:ao}
theorem U3(j:A.units<bx)(n:oY (bE P w) s.heap x u)(m:oY (bE P w) s.heap y v)(h:Q (Zv (x=y)) s):aw (ay P w) A (eqBool u v) Q E s:=by
 cases x with
 |inl x =>
  cases y with
  |inl y =>
   show(bE P w).eqBool n m ?_;rw[show Zv (x=y)=Zv ((cn x:Sum Key (List Key))=cn y) by simp];show h
  |inr y =>
   obtain⟨b,e,d⟩:=m;subst e;obtain⟨o,d⟩:=vK d;rw[show Zv ((cn x:Sum Key (List Key))=iy y)=ag by simp] at h;rcases cV n with⟨i,t,rfl,rfl⟩|⟨i,t,rfl,rfl⟩
   .exact a27 i t d j P w E Q h
   .exact a20 i t d j P w E Q h
 |inr x =>
  obtain⟨a,e,l⟩:=n;subst e
  cases y with
  |inl y =>
   obtain⟨o,l⟩:=vK l;rw[show Zv ((iy x:Sum Key (List Key))=cn y)=ag by simp] at h;rcases cV m with⟨i,t,rfl,rfl⟩|⟨i,t,rfl,rfl⟩
   .exact a2Z i t l j P w E Q h
   .exact a2Y i t l j P w E Q h
  |inr y =>
   obtain⟨b,e,d⟩:=m;subst e;show wpAny_eqBool_tuple j l d ?_;rw[show Zv (x=y)=Zv ((iy x:Sum Key (List Key))=iy y) by simp];show h
theorem yQ:∀(a:Q0f) (left:List (Sum Key (List Key))) (b:Array Int) (s:ao) (R:Array Int->ao->Prop),A.units<bx->g7 (bE P w) s.heap left a ->
  (∀d:Array Int,d.toList=b.toList++left.map (qB (bE P w))->R d {s with toks:=s.toks+(left.map kZ).sum}) ->
  aw (ay P w) A (forIn a b λx r=>do
   let r' <- pyHash x
   pure (l_ (r.push r'))) R E s
 |[],left,b,s,R,hu,t,k=>by cases t;show ax (k b (by simp))
 |v::a,left,b,s,R,hu,t,k=>by
  cases t with
  | @cons kk _ ks _ h1 h2 =>
   rw[o_];show aq (aq (LI hu h1 (ax ?_)));show yQ a ks _ _ _ hu h2 λd e=>?_;have:=k d (by rw[e];simp);simpa[a12] using this
def LJ{ks:List (Sum Key (List Key))}{a:ah}{Q:Int->ao->Prop}(q:A.units+1<bx)(m:iJ (bE P w) s.heap ks a)(h:Q (vJ (bE P w) ks) {s with toks:=s.toks+nX ks}):aw (ay P w) A (pyHash (.ref a)) Q E s:=by
 have j:=m.typeIs;obtain⟨o,p,n,ho,_,v,hi⟩:=m;have d:=F.slot_tuple_hash;unfold pyHash pyHashByItsType
 wp_walk using wpAny_cRoomFor_or (.inr ∅),wz j d.lookup,(wpAny_callSpecialIfBoundUnlessNone?_slot j d (ik d j F.entry_tuple_hash ?_ (F.args_tuple_hash_1 _)))
 rw[v];show ax (ax (aq ?_));rw[<- a2J];show yQ p.toList ks #[] s _ q hi λb x=>?_;dsimp only;rw[x,um];unfold vJ reduceHash at h;show wpAny_ret_mkInt ?_;have e2:s.toks+(ks.map kZ).sum+1=s.toks+nX ks:=by unfold nX;lia
 show aw (ay P w) A (pyHashByItsType.reduced _) Q E {s with toks:=s.toks+(ks.map kZ).sum+1};rw[e2];unfold pyHashByItsType.reduced;generalize a1p (ks.map (qB (bE P w)))=z at h ⊢;by_cases l:(Zv (-(2^63:Int)<=z)&&Zv (z<2^63))=ae
 .rw [Z_ l] at h ⊢;show ax h
 .rw [Zz l] at h ⊢;show aq (kr ?_);show ax h
theorem eq_loop:∀(x y:List (Sum Key (List Key))) (xs ys:Q0f) (R:Option Fin×Unit->ao->Prop),A.units<bx->g7 (bE P w) s.heap x xs->g7 (bE P w) s.heap y ys ->
  (x≠y->R (aa (.done (.ret (.bool ag))),()) s)->((x=y↔xs.length=ys.length)->R (af,()) s) ->
  aw (ay P w) A (forIn (xs.zip ys) ((af,()):Option Fin×Unit) λp _=>do
   let c <- eqBool p.1 p.2
   if(!c)=ae then do
    let q <- ret (tw ag)
    pure (a2y (aa q,()))
   else pure (l_ (af,()))) R E s
 |[],y,xs,ys,R,hu,hx,hy,k1,k2=>by cases hx;show ax (k2 ?_);cases hy<;>simp
 |kx::x,[],xs,ys,R,hu,hx,hy,k1,k2=>by cases hx;cases hy;show ax (k2 (by simp))
 |kx::x,ky::y,xs,ys,R,hu,hx,hy,k1,k2=>by
  cases hx with
  | @cons _ u _ xs hx1 hx2 =>
   cases hy with
   | @cons _ v _ ys hy1 hy2 =>
    rw[yg,o_];show aq (aq (U3 hu hx1 hy1 ?_));by_cases a:kx=ky
    .subst a;rw[Zx rfl,Zz (by decide)];show ax (eq_loop x y xs ys R hu hx2 hy2 (λn=>k1 (by simpa using n)) λe=>k2 ?_);simpa using e
    .rw [Zy a,Z_ (by decide)];show aq (ax (ax (ax (k1 (by simp[a])))))
def U4{x y:List (Sum Key (List Key))}{a b:ah}{Q:Bool->ao->Prop}(U:A.units+1<bx)(l:iJ (bE P w) s.heap x a)(j:iJ (bE P w) s.heap y b)(h:Q (Zv (x=y)) s):aw (ay P w) A (eqBool (.ref a) (.ref b)) Q E s:=by
 have L:=l.typeIs;have ty:=j.typeIs;have O:=a02;by_cases d:a=b
 .subst d;rw[l.inj j,Zx rfl] at h;show xo _ P w E Q h
 .obtain ⟨Y,xs,na,p,_,K,I⟩:=l;obtain⟨X,ys,Z,o,_,J,v⟩:=j;unfold eqBool;rw[Zz (by simpa using d)];have m:A.units<bx:=by lia
  apply iz;apply aq;show(wpAny_richCompare_same_room (op:=.Eq) L ty O (ik O L F.entry_tuple_eq ?_ (F.args_tuple_eq_2 _ _)) m);unfold Builtin.«tuple.__eq__»
  wp_walk using qe ty a0p,Zg p K,Zg o J
  show eq_loop x y xs.toList ys.toList _ U I v (λn=>?_) λe=>?_
  .rw [Zy n] at h;show ax ⟨_,rfl,(λz=>nomatch z),jt h⟩
  .refine ax ⟨_,rfl,(λz=>nomatch z),?_⟩;have e2:(xs.size == ys.size)=Zv (x=y):=by
    by_cases q:x=y
    .rw [Zx q];simpa using e.1 q
    .rw [Zy q];simpa using λz=>q (e.2 z)
   show aw (ay P w) A (truthOfDropped (.bool (xs.size == ys.size))) Q E s;rw[e2];show jt h
theorem vL:∀(a:Q0f) (R:Option Bool×Unit->ao->Prop),(∀v∈a,∀Q:Bool->ao->Prop,Q ae s->aw (ay P w) A (eqIsQuiet d v) Q E s)->R (af,()) s ->
  aw (ay P w) A (forIn a ((af,()):Option Bool×Unit) λy _=>do
   let c <- eqIsQuiet d y
   if(!c)=ae then pure (a2y (aa ag,()))
   else pure (l_ (af,()))) R E s
 |[],R,hq,k=>ax k
 |v::a,R,hq,k=>by rw[o_];show aq (aq (hq v cq _ ?_));rw[Zz (by decide)];show ax (vL a R (λu h=>hq u (fg _ h)) k)
theorem yR(j:s.TypeIs (fm a) "tuple")(ho:s.heap.get? a=aa o)(p:o.data=.seq xs n)(m:∀v∈xs.toList,∀Q:Bool->ao->Prop,Q ae s->aw (ay P w) A (eqIsQuiet d v) Q E s)(h:Q ae s):
  aw (ay P w) A (eqIsQuiet (d+1) (.ref a)) Q E s:=by
 have l:=a02;unfold eqIsQuiet;show aq (wz j l.lookup ?_);show aw (ay P w) A (isInstance (.ref a) (.type "tuple") >>= _) _ _ s;show aq (qe j a0p ?_);rw[Zz (by decide)];dsimp only;show aq (Bu ho p (aq ?_));show aw _ _ (forIn xs _ _) _ _ s;rw[<- a2J];show vL xs.toList _ m (ax h)
def FV{x:List (Sum Key (List Key))}{a:ah}{Q:Bool->ao->Prop}(z:iJ (bE P w) s.heap x a)(h:Q ae s):aw (ay P w) A (eqIsQuiet 8 (.ref a)) Q E s:=by
 have J:=z.typeIs;obtain⟨o,xs,n,ho,_,O,hi⟩:=z;show yR (d:=7) J ho O ?_ h;have go:∀{ks:List (Sum Key (List Key))} {j:Q0f},g7 (bE P w) s.heap ks j ->∀v∈j,∀Q:Bool->ao->Prop,Q ae s->aw (ay P w) A (eqIsQuiet 7 v) Q E s:=by
  intro ks j t
  induction t with
  |nil=>intro v L;cases L
  | @cons k v ks j h1 _ ih =>
   intro u m Q k0;rcases cb.1 m with e|m
   .subst e
    cases k with
    |inl k =>
     rw[a0t _ ((bE P w).byValue _ _ h1)];show ax k0
    |inr k =>
     obtain⟨b,e,F⟩:=h1;subst e;have K:=F.typeIs;obtain⟨U,I,X,p,_,y,q⟩:=F;show yR (d:=6) K p y (λv' l Q' k'=>?_) k0;rw[a0t _ (q.byValue v' l)];show ax k'
   .exact ih u m Q k0
 show go hi
def g8(P:bg)(w:ba):HeapKind P w (List (Sum Key (List Key))) where
 is:=iJ (bE P w)
 hash:=vJ (bE P w)
 draws:=nX
 room:=λA=>A.units+1<bx
 inj:=λd a=>d.inj a
 keeps:=λx ho n m=>x.keeps ho n m
 pyHash:=λj l h=>LJ j l h
 eqBool:=λj d a h=>U4 j d a h
 quiet:=λl h=>FV l h
def nest_room(a:A.units+2<bx):(g8 P w).room A.in1:=a
end
inductive V where
 |non|bl (b:Bool)|int (i:Int)|str (x:ak)|FW (b:Array UInt8)|flt (b:UInt64)|ref (a:ah)|ty (n:String)
 deriving DecidableEq
noncomputable def Ψ:V->ai->Prop
 |.non,u=>u=xk
 |.bl b,u=>u=tw b
 |.int i,u=>∃t,u=mf i t
 |.str x,u=>∃t,u=xj x t
 |.FW b,u=>∃t,u=Value.bytes b t
 |.flt b,u=>∃t,u=a0O b t
 |.ref a,u=>u=fm a
 |.ty n,u=>u=tu n
abbrev θ:List V->List ai->Prop:=ij Ψ
def θ.length{xs:List V}{a:Q0f}(r:θ xs a):xs.length=a.length:=ql r
theorem θ.get:∀{xs:List V} {a:Q0f} {i:Nat} {x:V},θ xs a->xs[i]?=aa x ->∃u,a[i]?=aa u/\Ψ x u
 |_,_,_,_,.nil,e=>by simp at e
 |_,_,0,_,.cons r _,e=>by simp at e;subst e;show⟨_,rfl,r⟩
 |_,_,i+1,x,.cons _ t,e=>by obtain⟨u,d,h2⟩:=θ.get (i:=i) (x:=x) t (by simpa using e);show⟨u,by simpa using d,h2⟩
theorem θ.set{x:V}{u:ai}(r:Ψ x u):∀{xs:List V} {a:Q0f} (i:Nat),θ xs a->θ (xs.set i x) (a.set i u)
 |_,_,_,.nil=>.nil
 |_,_,0,.cons _ t=>.cons r t
 |_,_,i+1,.cons q t=>.cons q (θ.set r i t)
theorem θ.append:∀{xs ys:List V} {d a:Q0f},θ xs d->θ ys a->θ (xs++ys) (d++a)
 |_,_,_,_,.nil,s=>s
 |_,_,_,_,.cons r t,s=>.cons r (θ.append t s)
theorem θ.take:∀{xs:List V} {a:Q0f} (n:Nat),θ xs a->θ (xs.take n) (a.take n)
 |_,_,0,_=>.nil
 |_,_,_+1,.nil=>.nil
 |_,_,n+1,.cons r t=>.cons r (θ.take n t)
theorem θ.drop:∀{xs:List V} {a:Q0f} (n:Nat),θ xs a->θ (xs.drop n) (a.drop n)
 |_,_,0,r=>r
 |_,_,_+1,.nil=>.nil
 |_,_,n+1,.cons _ t=>θ.drop n t
def mQ:Option V->Option ai->Prop
 |some v,aa u=>Ψ v u
 |none,af=>True
 |_,_=>False
def KV{a:Type}:List (a×V)->List (a×ai)->Prop:=ij λ(p:a×V) (q:a×ai)=>p.1=q.1/\Ψ p.2 q.2
noncomputable def kV:Key->V
 |.inl i=>.int i
 |.inr x=>.str x
inductive HO where
 |lst (xs:List V)
 |tup (xs:List V)
 |dK (χ:List (Key×V))|dT (χ:List (List Key×V))
 |dX (o:az) (χ:List (KX×V×V))
 |set (S:Int->Bool) (n:Nat)
 |ins (C dx:ah) (fs:List (ak×V))
 |own (x:ah)
 |xd (fs:List (ak×V))
 |met (f x:ah)
 |rng (lo hi:Int)
 |xC (o:az) (u:HO)
 |LK (q:ak)
 |ext (φ:bb->Prop)
abbrev Hp:=ah->Option HO
def upd(H:Hp)(a:ah)(o:HO):Hp:=λb=>if b=a then aa o else H b
def aW{H:Hp}{a:ah}{o:HO}:upd H a o a=aa o:=by unfold upd;rw[Z_ rfl]
def bQ{H:Hp}{a b:ah}{o:HO}(h:b≠a):upd H a o b=H b:=by unfold upd;rw[Zz h]
def YH{H:Hp}{a b:ah}{o u:HO}(h:H a=aa o)(h':H b=aa u)(d:o≠u):a≠b:=by intro e;subst e;rw[h] at h';show d (ft h')
theorem bT{H:Hp}{a b:ah}{o:HO}(h:H a=aa o)(h':H b=af):a≠b:=by intro e;subst e;rw[h] at h';cases h'
def vM(H:Hp):Sum Key (List Key)->V->Prop
 |.inl k,v=>v=kV k
 |.inr ks,v=>∃b,v=.ref b/\H b=aa (.tup (ks.map kV))
def mR(H:Hp)(ks:N1)(a:ah):Prop:=∃d,H a=aa (.tup d)/\ij (vM H) ks d
def xK(P:bg)(w:ba)(H:Hp)(o:az)(χ:List (KX×V×V)):Prop:=o.ExactDict /\∃a h,o.data=.dict a h /\
 ((∃d:List (Key×ai),ij (λ(p:KX×V×V) (q:Key×ai)=>p.1=.inl q.1/\p.2.1=kV q.1/\Ψ p.2.2 q.2) χ d/\KeysOf (bE P w) a/\Pairs (bE P w) a.toList d/\(d.map (·.1)).Nodup) \/
  ∃xs:List (N1×ah×ai),ij (λ(p:KX×V×V) (q:N1×ah×ai)=>p.1=.inr q.1/\p.2.1=.ref q.2.1/\mR H q.1 q.2.1/\Ψ p.2.2 q.2.2) χ xs/\a.toList=xs.map (entryOfKey (g8 P w))/\(xs.map (·.1)).Nodup)
theorem Paired.wo{j h:Type}{F G:j->h->Prop}:∀{l₁:List j} {d:List h},ij F l₁ d->(∀a b,F a b->G a b)->ij G l₁ d
 |_,_,.nil,_=>.nil
 |_,_,.cons r t,f=>.cons (f _ _ r) (Paired.wo t f)
theorem mR.stay{H H':Hp}{ks:N1}{a:ah}(h:mR H ks a)(d:∀b xs,H b=aa (.tup xs)->H' b=aa (.tup xs)):mR H' ks a:=by
 obtain⟨j,e,r⟩:=h;show⟨j,d _ _ e,Paired.wo r λk v q=>?_⟩
 cases k with
 |inl k=>show q
 |inr k=>obtain⟨b,e,q⟩:=q;show⟨b,e,d _ _ q⟩
def xK.stay{P:bg}{w:ba}{H H':Hp}{o:az}{χ:List (KX×V×V)}(h:xK P w H o χ)(a:∀b xs,H b=aa (.tup xs)->H' b=aa (.tup xs)):xK P w H' o χ:=by
 obtain⟨x,j,l,e,h⟩:=h;show⟨x,j,l,e,?_⟩;rcases h with h|⟨xs,r,d,h2⟩
 .exact .inl h
 .exact .inr ⟨xs,Paired.wo r λp q z=>⟨z.1,z.2.1,z.2.2.1.stay a,z.2.2.2⟩,d,h2⟩
def C7(h:bb)(a:ah):Prop:=∀o,h.get? a=aa o->o.dict=af
def C7.at{h h':bb}{a:ah}{o:az}(n:C7 h a)(e:h.get? a=aa o)(d:h'.get? a=aa o):C7 h' a:=λu q=>by rw[d] at q;cases q;show n _ e
def C7.new(h:bb)(a:Array ai){n:Nat}:C7 (h.push {cls:=.type "tuple",data:=.seq a n}) h.objs.size:=λu q=>by rw[dh h rfl] at q;cases q;rfl
def C7.is(e:h.get? a=aa o)(d:o.dict=af):C7 h a:=λu q=>by rw[e] at q;cases q;show d
abbrev Yl(a:az):HO:=.xC a (.ext λ_=>True)
def JC(H:Hp)(q:ak)(d:Array ai):Prop:=TriplesOk d.toList /\
 ∀l j,codeAmong l d.toList=aa j ->∃c h a t,j=.ref c/\H c=aa (Yl h)/\h.data=.fields a/\a[1]?=aa (.str q t)
theorem JC.stay{H H':Hp}{q:ak}{a:Array ai}(h:JC H q a)(j:∀b o u,H b=aa (.xC o u)->H' b=aa (.xC o u)):JC H' q a :=
 ⟨h.1,λd l e=>let ⟨c,oc,vs,t,e1,e2,e3⟩:=h.2 d l e;⟨c,oc,vs,t,e1,j _ _ _ e2,e3⟩⟩
section
variable(P:bg)(w:ba)
def dR(H:Hp)(h:bb)(a:ah):HO->Prop
 |.lst xs=>xs.length<=bf /\∃(j:Q0f) (n:Nat),θ xs j/\h.get? a=aa {cls:=.type "list",data:=.seq j.toArray n}
 |.tup xs=>xs.length<=bf /\∃j:Q0f,θ xs j/\kh h a j.toArray/\C7 h a
 |.dK χ=>χ.length<=bf/\(a == sysModules)=ag /\∃l,KV χ l/\h.DictOf (bE P w) a l
 |.dT χ=>χ.length<=bf/\(a == sysModules)=ag /\∃xs:List (List Key×ah×ai),
   ij (λ(p:List Key×V) (q:List Key×ah×ai)=>p.1=q.1/\H q.2.1=aa (.tup (p.1.map kV))/\Ψ p.2 q.2.2) χ xs /\
   ∃o z A,h.get? a=aa o/\o.ExactDict/\o.data=.dict z A/\z.toList=xs.map (entryOfKey (tupleKind (bE P w)))/\(xs.map (·.1)).Nodup
 |.dX o χ=>χ.length<=bf/\(a == sysModules)=ag/\h.get? a=aa o/\xK P w H o χ
 |.set S n=>h.SetOf (intKind P w) a S n
 |.ins C dx fs=>H dx=aa (.own a)/\fs.length<=1000/\dx≠a/\h.get? a=aa (instObj C dx) /\
   ∃d,h.Ns1 dx d/\(∀f,mQ (fs.lookup f) (d f))/\a0B d (fs.map (·.1))
 |.own _=>∃o,h.get? a=aa o
 |.xd fs=>∃d,h.Ns1 a d /\∀f,mQ (fs.lookup f) (d f)
 |.rng lo hi=>∃t u v,h.get? a=aa {cls:=.type "range",data:=.fields #[.int lo t,.int hi u,.int 1 v]}
 |.xC o u=>h.get? a=aa o/\dR H h a u
 |.LK q=>∃m:Array ai,h.get? a=aa {cls:=.none,data:=.fields m}/\JC H q m
 |.met f x=>h.get? a=aa (methodObj (.ref f) (.ref x))
 |.ext φ=>φ h/\(∃o,h.get? a=aa o) /\∀y h2:bb,φ y->(∀o,y.get? a=aa o->h2.get? a=aa o)->φ h2
def n9(H:Hp)(h:bb):Prop:=∀a o,H a=aa o->dR P w H h a o
end
section
variable{P:bg}{w:ba}{H H':Hp}{h h':bb}{a:ah}{o:HO}
theorem dR.lt(x:dR P w H h a o):a<h.objs.size:=by
 cases o with
 |lst xs=>obtain⟨_,_,_,_,e⟩:=x;show bz e
 |tup xs=>obtain⟨_,_,_,p,_⟩:=x;show p.lt
 |dK χ=>obtain⟨_,_,_,_,o,_,_,e,_⟩:=x;show bz e
 |dT χ=>obtain⟨_,_,_,_,o,_,_,e,_⟩:=x;show bz e
 |dX ob χ=>obtain⟨_,_,e,_⟩:=x;show bz e
 |set S n=>obtain⟨o,_,_,_,e,_⟩:=x;show bz e
 |ins C dx fs=>obtain⟨_,_,_,e,_⟩:=x;show bz e
 |own y=>obtain⟨_,e⟩:=x;show bz e
 |xd fs=>obtain⟨_,⟨_,_,_,e,_⟩,_⟩:=x;show bz e
 |rng lo hi=>obtain⟨_,_,_,e⟩:=x;show bz e
 |xC ob u=>obtain⟨e,_⟩:=x;show bz e
 |LK q=>obtain⟨d,e,_⟩:=x;show bz e
 |met f y=>show bz (show h.get? a=aa _ from x)
 |ext φ=>obtain⟨_,⟨_,e⟩,_⟩:=x;show bz e
theorem Paired.wm{l j:Type}{F G:l->j->Prop}:∀{l₁:List l} {d:List j},ij F l₁ d->(∀a b,F a b->G a b)->ij G l₁ d
 |_,_,.nil,_=>.nil
 |_,_,.cons r t,f=>.cons (f _ _ r) (Paired.wm t f)
theorem dR.stay(x:dR P w H h a o)(k:∀b u,(b=a\/H b=aa (.own a))->h.get? b=aa u->h'.get? b=aa u)
  (ho:∀b,H b=aa (.own a)->H' b=aa (.own a)) (J:∀b xs,H b=aa (.tup xs)->H' b=aa (.tup xs)) (U:∀b o u,H b=aa (.xC o u)->H' b=aa (.xC o u):=by show λ_ _ _ q=>q):dR P w H' h' a o:=by
 induction o with
 |lst xs=>obtain⟨z,A,n,r,e⟩:=x;show⟨z,A,n,r,k _ _ (.inl rfl) e⟩
 |tup xs=>obtain⟨z,A,r,⟨j,e,c⟩,nd⟩:=x;show⟨z,A,r,⟨j,k _ _ (.inl rfl) e,c⟩,nd.at e (k _ _ (.inl rfl) e)⟩
 |dK χ=>obtain⟨z,y,K,r,j,l,m,e,c⟩:=x;show⟨z,y,K,r,j,l,m,k _ _ (.inl rfl) e,c⟩
 |dT χ =>
  obtain⟨z,y,xs,r,j,l,m,e,c⟩:=x;show⟨z,y,xs,Paired.wm r λp q z=>⟨z.1,J _ _ z.2.1,z.2.2⟩,j,l,m,k _ _ (.inl rfl) e,c⟩
 |dX j χ=>obtain⟨z,y,e,c⟩:=x;show⟨z,y,k _ _ (.inl rfl) e,c.stay J⟩
 |set S n=>obtain⟨j,l,m,t,e,c⟩:=x;show⟨j,l,m,t,k _ _ (.inl rfl) e,c⟩
 |ins C dx fs =>
  obtain⟨d,z,O,e,I,⟨F,l,m,e2,c⟩,r⟩:=x;show⟨ho _ d,z,O,k _ _ (.inl rfl) e,I,⟨F,l,m,k _ _ (.inr d) e2,c⟩,r⟩
 |own y=>obtain⟨j,e⟩:=x;show⟨j,k _ _ (.inl rfl) e⟩
 |xd fs=>obtain⟨I,⟨F,l,m,e,c⟩,r⟩:=x;show⟨I,⟨F,l,m,k _ _ (.inl rfl) e,c⟩,r⟩
 |rng lo hi=>obtain⟨t,u,v,e⟩:=x;show⟨t,u,v,k _ _ (.inl rfl) e⟩
 |xC j u ih=>obtain⟨e,q⟩:=x;show⟨k _ _ (.inl rfl) e,ih q⟩
 |LK q=>obtain⟨L,e,r⟩:=x;show⟨L,k a _ (.inl rfl) e,r.stay U⟩
 |met f y =>
  have e:h.get? a=aa (methodObj (.ref f) (.ref y)):=x;show h'.get? a=aa (methodObj (.ref f) (.ref y));show k a _ (.inl rfl) e
 |ext φ=>obtain⟨p,⟨o,e⟩,st⟩:=x;show⟨st _ _ p λo q=>k _ _ (.inl rfl) q,⟨o,k _ _ (.inl rfl) e⟩,st⟩
def n9.lt(x:n9 P w H h)(e:H a=aa o):a<h.objs.size:=(x a o e).lt
theorem n9.fresh(x:n9 P w H h)(e:h.objs.size<=a):H a=af:=by
 cases q:H a with
 |none=>rfl
 |some u=>show Zw (gg (x.lt q) e) (il _)
def n9.kept(x:n9 P w H h)(k:∀b u,h.get? b=aa u->h'.get? b=aa u):n9 P w H h':=λa o e =>
 (x a o e).stay (λb u _ q=>k b u q) (λ_ q=>q) λ_ _ q=>q
def n9.laid(x:n9 P w H h)(k:∀b u,h.get? b=aa u->h'.get? b=aa u)(l:h.objs.size<=a)(new:dR P w (upd H a o) h' a o):n9 P w (upd H a o) h':=λb u e=>by
 have d:=x.fresh l;by_cases j:b=a
 .subst j;rw[aW] at e;cases e;show new
 .rw [bQ j] at e;show(x b u e).stay (λc v _ q=>k c v q) (λc q=>by rw[bQ (bT q d)];show q) (λc xs q=>by rw[bQ (bT q d)];show q) λc o u q=>by rw[bQ (bT q d)];show q
end
def Rd(H:Hp)(a:ah)(u:HO):Prop:=H a=aa u \/∃o,H a=aa (.xC o u)
theorem Rd.ok{P:bg}{w:ba}{H:Hp}{h:bb}{a:ah}{u:HO}(r:Rd H a u)(x:n9 P w H h):dR P w H h a u:=by
 rcases r with r|⟨o,r⟩
 .exact x a u r
 .obtain ⟨_,q⟩:=x a _ r;show q
def Mut:Option HO->Prop
 |some (.lst _)=>True
 |some (.dK _)=>True
 |some (.dT _)=>True
 |some (.dX _ _)=>True
 |some (.set _ _)=>True
 |some (.ins _ _ _)=>True
 |some (.ext _)=>True
 |_=>False
section
variable{P:bg}{w:ba}{H:Hp}{h h':bb}{x e:ah}{o':HO}
theorem n9.write(ok:n9 P w H h)(d:Mut (H x))(p:e=x\/H e=aa (.own x))(k:∀b u,b≠e->h.get? b=aa u->h'.get? b=aa u)(m:∃u,h'.get? e=aa u)
  (new:dR P w (upd H x o') h' x o'):n9 P w (upd H x o') h':=λb u q=>by
 have A:∀c y,H c=aa (.own y)->c≠x:=λc y r z=>by subst z;rw[r] at d;show d
 have I:∀c xs,H c=aa (.tup xs)->c≠x:=λc xs r z=>by subst z;rw[r] at d;show d
 by_cases l:b=x
 .subst l;rw[aW] at q;cases q;show new
 .rw [bQ l] at q;by_cases a:b=e
  .have n:H b=aa (.own x):=by
    rcases p with z|z
    .exact Zw (a.trans z) l
    .rw [a];show z
   rw[q] at n;cases n;obtain⟨v,F⟩:=m;show⟨v,by rw[a];show F⟩
  .refine (ok b u q).stay (λc v j r=>k c v ?_ r) (λc r=>by rw[bQ (A c b r)];show r) (λc xs r=>by rw[bQ (I c xs r)];show r) λc o u r=>by rw[bQ λz=>by subst z;rw[r] at d;show d];show r
   rcases j with rfl|j
   .exact a
   .rintro rfl;rcases p with z|z
    .exact A c b j z
    .rw [j] at z;cases z;show l rfl
end
structure Un (fs ex:List ah) (H H':Hp) (h h':bb):Prop where
 keep:∀b o,h.get? b=aa o->H b=af->b∉fs->b∉ex->h'.get? b=aa o
 slot:∀b o,h.get? b=aa o->H b=af->b∈fs->b∉ex ->∃sl,h'.get? b=aa {o with slots:=sl}
 free:∀b o,h.get? b=aa o->H b=af->b∉ex->H' b=af
 there:∀b o,h.get? b=aa o->b∉ex ->∃o',h'.get? b=aa o'
 tups:∀b xs,H b=aa (.tup xs)->H' b=aa (.tup xs)
 vN:∀b o u,H b=aa (.xC o u)->H' b=aa (.xC o u)
 tQ:∀b q,H b=aa (.LK q)->H' b=aa (.LK q)
section
variable{fs fs' ex ex':List ah}{H H1 H2:Hp}{h h1 h2 h':bb}{a x e:ah}{o:HO}
def Un.any(u:Un fs ex H H1 h h1){b:ah}{d:az}(q:h.get? b=aa d)(n:H b=af)(j:b∉ex):∃m,h1.get? b=aa {d with slots:=m}:=by
 by_cases l:b∈fs
 .exact u.slot b d q n l j
 .exact ⟨d.slots,u.keep b d q n l j⟩
def Un.kept(k:∀b u,h.get? b=aa u->h'.get? b=aa u):Un fs ex H H h h' :=
 ⟨λb d q _ _ _=>k b d q,λb d q _ _ _=>⟨d.slots,k b d q⟩,λ_ _ _ n _=>n,λb d q _=>⟨d,k b d q⟩,λ_ _ q=>q,λ_ _ _ q=>q,λ_ j q=>q⟩
def Un.refl:Un fs ex H H h h:=Un.kept λ_ _ q=>q
theorem Un.laid(k:∀b u,h.get? b=aa u->h'.get? b=aa u)(j:h.objs.size<=a)(d:H a=af):Un fs ex H (upd H a o) h h' where
 keep:=λb u q _ _ _=>k b u q
 slot:=λb u q _ _ _=>⟨u.slots,k b u q⟩
 free:=λb u q n _=>by rw[bQ (f_ (gg (bz q) j))];show n
 there:=λb u q _=>⟨u,k b u q⟩
 tups:=λb xs q=>by rw[bQ (bT q d)];show q
 vN:=λb u xs q=>by rw[bQ (bT q d)];show q
 tQ:=λb l q=>by rw[bQ (bT q d),q]
def Un.write(j:Mut (H x))(y:e=x\/H e=aa (.own x))(k:∀b u,b≠e->h.get? b=aa u->h'.get? b=aa u)(m:∃u,h'.get? e=aa u):Un fs ex H (upd H x o) h h':=by
 have p:∀b,H b=af->b≠x:=λb n z=>by subst z;rw[n] at j;show j
 have v:∀b,H b=af->b≠e:=λb n z=>by
  subst z;rcases y with r|r
  .exact p b n r
  .rw [n] at r;cases r
 have l:∀b u,H b=aa u->¬ Mut (aa u)->b≠x:=λb u q nm z=>by subst z;rw[q] at j;show nm j
 show⟨λb u q n _ _=>k b u (v b n) q,λb u q n _ _=>⟨u.slots,k b u (v b n) q⟩,λb u q n _=>by rw[bQ (p b n)];show n,λb u q _=>?_,
  λb xs q=>by rw[bQ (l b _ q λz=>z)];show q,λb u xs q=>by rw[bQ (l b _ q λz=>z)];show q,λb A q=>by rw[bQ (l b _ q λz=>z),q]⟩
 by_cases d:b=e
 .subst d;show m
 .exact ⟨u,k b u d q⟩
end
def trk(h:bb)(H:Hp):List ah:=(gk h.objs.size).filter λa=>(H a).isSome
def xM(h:bb)(H:Hp):bb:=hideAll h (trk h H)
def LM(h:bb)(H:Hp):(xM h H).objs.size=h.objs.size:=PySem.W.hideAll_size _ _
def P6(e:h.get? b=aa o)(n:H b=af):(xM h H).get? b=aa o :=
 Cv _ e λa=>by have q:(H b).isSome=ae:=(gc.mp a).2;rw[n] at q;simp at q
theorem U5(e:(xM h H).get? b=aa o):h.get? b=aa o/\H b=af:=by
 have a:h.get? b=aa o:=a0F (trk h H) e;show⟨a,?_⟩
 cases q:H b with
 |none=>rfl
 |some x =>
  have d:b∈trk h H:=gc.mpr ⟨uo.mpr (bz a),by simp[q]⟩;have z:(xM h H).get? b=af:=Cu (trk h H) d;rw[z] at e;cases e
structure Mod (K:ar) (mg:Q0d) (ω:bb):Prop where
 kin:K.In ω
 glob:ω.Ns jb mg
 blt:∃mb,ω.Ns builtinsNs mb /\∀x:ak,x ≠ "__name__"->mb x=bootBuiltins x
 nolimit:ω.NoLimit
 bm:∃bm ob,mg "__builtins__"=aa (.ref bm)/\bm≠builtinsNs/\ω.get? bm=aa ob/\ob.cls=.type "module" /\ob.dict=aa builtinsNs/\ob.data=.plain
def P7:List ak:=["going_of","count_of_chain","cut_paper","downsets","strictest_chains"]
def U6(x:ak):ak:=x++".<locals>.<lambda>"
def fC(K:ar):List (ak×ah×ah):=P7.filterMap λx=>(Cr K x).map λp=>(x,p.1,p.2)
def U7(K:ar)(ω:bb)(H:Hp):Prop:=∀t∈fC K,CodeHd ω t.2.1 t.2.2/\H t.2.2=aa (.LK (U6 t.1))
structure Cx where
 Ω:bg
 w:ba
 K:ar
 mg:ak->Option ai
 ω:bb
 A:br
 N:List ak
 s₀:ao
 H₀:Hp
 env:dq
 outer:List dq
 stack:List dq
 ex:List ah
 fn:ak->Bool
 calm:Bool
 pn:List (ah×az)
 xe:ai->ao->Prop
abbrev Zu(x:ak):Prop:=(x == ("__debug__":ak))=ag
abbrev Zt(x:ak):Prop:=(x == ("__classdict__":ak))=ag
abbrev Zq(X:Cx)(e:au)(l:List au):Prop:=av (e::l) X.env=(ag,eval e X.env)::av l X.env
abbrev Zp(X:Cx)(x:ak):Prop:=X.fn x=ae\/X.env.scope.names.lookup x=aa .local
abbrev Zo(X:Cx)(a:bc)(e:au):Prop:=((dj a (av [e] X.env)).all (λx=>!x.1)&&(backToKw a (ku [] X.env)).all (λx=>x.1.isSome) && Zv ([e].length+([]:List g_).length+(if([]:List g_).isEmpty then 0 else 1)<30))=ae
abbrev Zn(X:Cx)(i:au):Prop:=∀x,foldedSetIterable i X.env x=pure x
abbrev Rv(X:Cx)(e:au)(x:ak)(p q:bc):Prop:=df e (aa (.Name x p)) q.line X.env=pure ag
abbrev gV(X:Cx)(elt h iter:au)(ifs:List au)(sc:gj)(d:bc)(x:ak)(pos' a:bc):Prop:=df (.ListComp elt [⟨h,iter,ifs,0⟩] sc d) (aa (.Name x pos')) a.line X.env=pure ae
abbrev Q0h(X:Cx)(x y:ak)(d a:bc):Prop:=(cp [.Name x d,.Name y a] X.env).map (·.2)=assign (.Name x d) X.env::(cp [.Name y a] X.env).map (·.2)
abbrev Q0i(X:Cx)(y:ak)(a:bc):Prop:=(cp [.Name y a] X.env).map (·.2)=assign (.Name y a) X.env::(cp [] X.env).map (·.2)
abbrev Q0j(X:Cx)(x y:ak)(d a:bc):Prop:=(cp [.Name x d,.Name y a] X.env).findIdx? (·.1)=af
abbrev Q0k(X:Cx)(x y:ak)(d a:bc):Prop:=(cp [.Name x d,.Name y a] X.env).length=2
abbrev Q0l(p q:bc):Prop:=(p.endLine == q.line)=ae
abbrev Q0m(X:Cx)(p:bc)(l:List au):Prop:=(dj p (av l X.env)).any (·.1)=ag
def frs(l:List dq):List ah:=l.filterMap (·.frame)
abbrev Cx.fs(X:Cx):List ah:=frs X.outer
def xD(sc:gj)(x:ak):Prop:=sc.names.lookup x=aa .local\/sc.names.lookup x=aa .cell\/sc.names.lookup x=aa .free
def Loc(sc:gj)(x:ak):Prop:=sc.names.lookup x=aa .local\/sc.names.lookup x=aa .cell
def Look(env:dq)(h:bb)(m:Q0d)(x:ak)(u:ai):Prop :=
 (env.kindOf x=aa .local/\m x=aa u)\/((env.kindOf x=aa .cell\/env.kindOf x=aa .free) /\∃c,env.cells.lookup x=aa c/\h.IsCell c (aa u))
structure Cx.Ok (X:Cx):Prop where
 mod:Mod X.K X.mg X.ω
 kind:X.env.scope.kind=.function
 glob:X.env.globals=jb
 blt:X.env.builtins=builtinsNs
 above:X.s₀.heap.objs.size<=X.env.locals
 inj:∀x y c,X.env.cells.lookup x=aa c->X.env.cells.lookup y=aa c->x=y
 has:∀x,(X.env.kindOf x=aa .cell\/X.env.kindOf x=aa .free) ->∃c,X.env.cells.lookup x=aa c
 cab:∀x c,X.fn x=ae->X.env.cells.lookup x=aa c->X.s₀.heap.objs.size<=c
 hd:X.calm=ae->X.A.handled=af
 frames:X.A.frames=aa X.stack
 stk:X.stack=X.outer\/(X.stack=X.env::X.outer/\X.env.frame=aa X.env.locals)
 exf:∀b∈X.ex,b≠X.env.locals /\∀x c,X.env.cells.lookup x=aa c->c≠b
 bs:∀b o,X.ω.get? b=aa o->X.s₀.heap.get? b=aa o/\X.H₀ b=af
 U8:X.ω.objs.size<=X.s₀.heap.objs.size
 P8:∀b o,X.ω.get? b=aa o->b∉X.ex
 U9:∀b∈X.ex,b∉X.fs
 tT:X.s₀.heap.FunFrames X.ω X.outer
 frf:∀b∈X.fs,X.H₀ b=af
 tab:U7 X.K X.ω X.H₀
structure Φ (X:Cx) (π:Q0b) (σ:List (Option V)) (H:Hp) (s:ao):Prop where
 ok:X.Ok
 os:s.os=X.s₀.os
 bare:ki s.gens
 ω:Un X.fs X.ex X.H₀ H X.s₀.heap s.heap
 loc:∃m,s.heap.Ns X.env.locals m /\∀(i:Nat) (x:ak) (v:V),X.N[i]?=aa x->σ[i]?=aa (aa v)->xD X.env.scope x ->∃u,Ψ v u/\Look X.env s.heap m x u
 cell:∀x c,X.env.cells.lookup x=aa c ->∃v,s.heap.IsCell c v
 free:H X.env.locals=af
 k6:∀x c,X.env.cells.lookup x=aa c->H c=af
 pin:∀p∈X.pn++π,s.heap.get? p.1=aa p.2/\H p.1=af/\p.1≠X.env.locals/\p.1∉X.fs /\∀v,p.2.data≠.cell v
 hok:n9 X.Ω X.w H s.heap
 len:σ.length=X.N.length
section
variable{X:Cx}{π:Q0b}{σ:List (Option V)}{H H':Hp}{s:ao}{h':bb}
def Cx.Ok.Oe(ok:X.Ok)(e:X.ω.get? b=aa o):b∉X.fs:=λa=>by have:=(ok.tT.mem a).1;rw[e] at this;cases this
def Φ.bs(I:Φ X π σ H s):∀b o,X.ω.get? b=aa o->s.heap.get? b=aa o/\H b=af:=λb o e =>
 ⟨I.ω.keep b o (I.ok.bs b o e).1 (I.ok.bs b o e).2 (I.ok.Oe e) (I.ok.P8 b o e),I.ω.free b o (I.ok.bs b o e).1 (I.ok.bs b o e).2 (I.ok.P8 b o e)⟩
def Φ.bk(I:Φ X π σ H s):∀b o,X.ω.get? b=aa o->s.heap.get? b=aa o:=λb o e=>(I.bs b o e).1
def Φ.mod(I:Φ X π σ H s):Mod X.K X.mg X.ω:=I.ok.mod
def Φ.tab(I:Φ X π σ H s):U7 X.K X.ω H:=λt a=>⟨(I.ok.tab t a).1,I.ω.tQ _ _ (I.ok.tab t a).2⟩
def Φ.xE(I:Φ X π σ H s):X.K.In s.heap:=I.ok.mod.kin.keeps I.bk
def Φ.fr(I:Φ X π σ H s):∃m,Fr X.ω X.env.locals s.heap m :=
 let ⟨m,hn,_⟩:=I.loc
 ⟨m,hn,I.bk,gi I.ok.U8 I.ok.above⟩
def Φ.lt(I:Φ X π σ H s):X.env.locals<s.heap.objs.size:=let ⟨_,hn,_⟩:=I.loc;hn.lt
def Φ.sz(I:Φ X π σ H s):X.s₀.heap.objs.size<=s.heap.objs.size:=gi I.ok.above (kj I.lt)
def Φ.Od(I:Φ X π σ H s)(h:s.heap.objs.size<=a):a∉X.fs:=λd=>by obtain⟨_,o,ho,_⟩:=I.ok.tT.mem d;show Zw (gg (bz ho) (gi I.sz h)) (il _)
def Φ.cne(I:Φ X π σ H s):∀x c,X.env.cells.lookup x=aa c->c≠X.env.locals:=λx c e z=>by obtain⟨v,o,ho,h⟩:=I.cell x c e;obtain⟨m,⟨j,l,n,a,d,_⟩,_⟩:=I.loc;rw[z,a] at ho;cases ho;rw[d] at h;cases h
def Φ.tT(I:Φ X π σ H s):s.heap.FunFrames X.ω X.outer:=by
 have all:∀(l:List dq),(∀b∈frs l,b∈X.fs)->X.s₀.heap.FunFrames X.ω l->s.heap.FunFrames X.ω l:=by
  intro l
  induction l with
  |nil=>intro _ _;trivial
  |cons env r ih =>
   intro j p;obtain⟨q,⟨L,o,a,n,ho,v⟩,m⟩:=p;have h:L∈X.fs:=j L (by unfold frs;rw[yr,a];show cq);obtain⟨x,e⟩:=I.ω.slot L o ho (I.ok.frf L h) h λz=>I.ok.U9 L z h;show⟨q,⟨L,_,a,n,e,v⟩,ih (λb d=>j b (by unfold frs;rw[yr,a];show fg _ d)) m⟩
 show all X.outer (λ_ d=>d) I.ok.tT
def Φ.stack(I:Φ X π σ H s):s.heap.FunFrames X.ω X.stack:=by
 rcases I.ok.stk with e|⟨e,d⟩
 .rw [e];show I.tT
 .rw [e];obtain⟨m,a,_⟩:=I.loc;show .cons (by rw[I.ok.kind];decide) d a ?_ I.tT;show Heap.get?_none_of_le (gi I.ok.U8 I.ok.above)
def Φ.oZ(I:Φ X π σ H s):∀b∈frs X.stack,b∈X.env.locals::X.fs:=λb a=>by
 rcases I.ok.stk with e|⟨e,d⟩
 .rw [e] at a;show fg _ a
 .rw [e] at a;unfold frs at a;rw[yr,d] at a;show a
def Φ.AX(I:Φ X π σ H s):∀b∈frs X.stack,H b=af:=λb a=>by
 rcases cb.mp (I.oZ b a) with e|a
 .rw [e];show I.free
 .obtain ⟨_,o,ho,_⟩:=I.ok.tT.mem a;show I.ω.free b o ho (I.ok.frf b a) λz=>I.ok.U9 b z a
theorem Φ.step{g':Array GenState}{t':Nat}{d':Drawn}{ch:List ah}(I:Φ X π σ H s)
  (j:∀b∈ch,(b∈X.ex\/X.s₀.heap.objs.size<=b)/\b≠X.env.locals/\(∀x c,X.env.cells.lookup x=aa c->c≠b) /\∀p∈X.pn++π,p.1≠b)
  (keep:∀b o,b≠X.env.locals->b∉X.fs->b∉ch->s.heap.get? b=aa o->H b=af->h'.get? b=aa o)
  (slot:∀b o,b≠X.env.locals->b∈X.fs->b∉ch->s.heap.get? b=aa o->H b=af ->∃O,h'.get? b=aa {o with slots:=O}) (free:∀b o,b∉ch->s.heap.get? b=aa o->H b=af->H' b=af)
  (there:∀b o,b∉ch->s.heap.get? b=aa o ->∃J,h'.get? b=aa J)
  (tups:∀b xs,H b=aa (.tup xs)->H' b=aa (.tup xs)) (vN:∀b o u,H b=aa (.xC o u)->H' b=aa (.xC o u)) (tQ:∀b q,H b=aa (.LK q)->H' b=aa (.LK q))
  (ns:∀m,s.heap.Ns X.env.locals m->h'.Ns X.env.locals m) (Y:n9 X.Ω X.w H' h') (hg:ki g'):
  Φ X π σ H' {s with heap:=h',gens:=g',drawn:=d',toks:=t' }:=by
 have K:∀b o,X.s₀.heap.get? b=aa o->b≠X.env.locals:=λb o e=>f_ (gg (bz e) I.ok.above);have y:∀b o,X.s₀.heap.get? b=aa o->b∉X.ex->b∉ch:=λb o e a A=>by
  rcases(j b A).1 with z|z
  .exact a z
  .exact Zw (gg (bz e) z) (il _)
 have cellK:∀x c,X.env.cells.lookup x=aa c ->∀v,s.heap.IsCell c v->h'.IsCell c v:=λx c e v U=>by
  obtain⟨o,ho,Z⟩:=U;have h:c∉ch:=λz=>(j c z).2.2.1 x c e rfl;by_cases hc:c∈X.fs
  .obtain ⟨O,q⟩:=slot c o (I.cne x c e) hc h ho (I.k6 x c e);show⟨_,q,Z⟩
  .exact ⟨o,keep c o (I.cne x c e) hc h ho (I.k6 x c e),Z⟩
 show⟨I.ok,I.os,hg,⟨λb o e n A a=>?_,λb o e n A a=>?_,λb o e n a=>?_,λb o e a=>?_,λb xs e=>tups b xs (I.ω.tups b xs e),λb o xs e=>vN b o xs (I.ω.vN b o xs e),λb ps e=>tQ b ps (I.ω.tQ b ps e)⟩,?_,λx c e=>?_,?_,λx c e=>?_,λp hp=>?_,Y,I.len⟩
 .exact keep b o (K b o e) A (y b o e a) (I.ω.keep b o e n A a) (I.ω.free b o e n a)
 .obtain ⟨O,F⟩:=I.ω.slot b o e n A a;obtain⟨L,e2⟩:=slot b _ (K b o e) A (y b o e a) F (I.ω.free b o e n a);show⟨L,e2⟩
 .obtain ⟨J,F⟩:=I.ω.there b o e a;show free b J (y b o e a) F (I.ω.free b o e n a)
 .obtain ⟨J,F⟩:=I.ω.there b o e a;show there b J (y b o e a) F
 .obtain ⟨m,hn,hl⟩:=I.loc;show⟨m,ns m hn,λi x v F e2 e3=>?_⟩;obtain⟨u,r,l⟩:=hl i x v F e2 e3;show⟨u,r,?_⟩;rcases l with l|⟨k,c,e,z⟩
  .exact .inl l
  .exact .inr ⟨k,c,e,cellK x c e _ z⟩
 .obtain ⟨v,z⟩:=I.cell x c e;show⟨v,cellK x c e v z⟩
 .obtain ⟨m,⟨o,_,_,ho,_⟩,_⟩:=I.loc;show free _ o (λz=>(j _ z).2.1 rfl) ho I.free
 .obtain ⟨v,o,ho,Z⟩:=I.cell x c e;show free c o (λz=>(j c z).2.2.1 x c e rfl) ho (I.k6 x c e)
 .obtain ⟨e,n,ne,nf,d⟩:=I.pin p hp;have h:p.1∉ch:=λz=>(j p.1 z).2.2.2 p hp rfl;show⟨keep p.1 p.2 ne nf h e n,free p.1 p.2 h e n,ne,nf,d⟩
def Φ.un{t':Nat}(I:Φ X π σ H s)(u:Un X.fs [] H H' s.heap h')(d:n9 X.Ω X.w H' h'):Φ X π σ H' {s with heap:=h',toks:=t' }:=by
 obtain⟨m,⟨o,A,F,ho,r⟩,_⟩:=id I.loc;obtain⟨v,q⟩:=u.any ho I.free (by simp);show I.step (g':=s.gens) (d':=s.drawn) (ch:=[]) (λ_ z=>nomatch z) (λb o _ h _ e n=>u.keep b o e n h (by simp)) (λb o _ h _ e n=>u.slot b o e n h (by simp)) (λb o _ e n=>u.free b o e n (by simp)) (λb o _ e=>u.there b o e (by simp)) u.tups u.vN u.tQ (λy p=>by obtain⟨x,es',j,a,l⟩:=p;rw[ho] at a;cases a;show⟨_,es',j,q,l⟩) d I.bare
theorem Φ.call{g':Array GenState}{t':Nat}{d':Drawn}{ch:List ah}(I:Φ X π σ H s)(u:Un (frs X.stack) ch H H' s.heap h')(j:n9 X.Ω X.w H' h')(A:ki g')
  (h:∀b∈ch,(b∈X.ex\/X.s₀.heap.objs.size<=b)/\b≠X.env.locals/\(∀x c,X.env.cells.lookup x=aa c->c≠b) /\∀p∈X.pn++π,p.1≠b):
  Φ X π σ H' {s with heap:=h',gens:=g',drawn:=d',toks:=t' }:=by
 obtain⟨m,⟨o,O,U,ho,r⟩,_⟩:=id I.loc;obtain⟨J,l⟩:=u.any ho I.free λz=>(h _ z).2.1 rfl;show I.step (ch:=ch) h (λb o l F a e n=>u.keep b o e n (λz=>(cb.mp (I.oZ b z)).elim l F) a) (λb o _ _ a e n=>u.any e n a) (λb o a e n=>u.free b o e n a) (λb o a e=>u.there b o e a) u.tups u.vN u.tQ (λL y=>by obtain⟨K,es',q,d,v⟩:=y;rw[ho] at d;cases d;show⟨_,es',q,l,v⟩) j A
theorem Φ.turned{t':Nat}{it:ah}(I:Φ X π σ H s)(k:∀b o,b≠it->s.heap.get? b=aa o->h'.get? b=aa o)(j:H it=af)(h:it≠X.env.locals)
  (F:it∈X.ex\/X.s₀.heap.objs.size<=it) (h2:∀x c,X.env.cells.lookup x=aa c->c≠it) (A:∀p∈X.pn++π,p.1≠it):Φ X π σ H {s with heap:=h',toks:=t' }:=by
 have d:∀b u,H b=aa u->b≠it:=λb u e z=>by rw[z,j] at e;cases e
 show I.step (g':=s.gens) (d':=s.drawn) (ch:=[it]) (λb y=>?_) (λb o _ _ a e _=>k b o (λz=>a (by simp[z])) e) (λb o _ _ a e _=>⟨o.slots,k b o (λz=>a (by simp[z])) e⟩) (λ_ _ _ _ n=>n)
  (λb o a e=>⟨o,k b o (λz=>a (by simp[z])) e⟩) (λ_ _ e=>e) (λ_ _ _ e=>e) (λb L e=>e) (λm l=>?_) (λb u e=>?_) I.bare
 .have e:b=it:=by simpa using y
  subst e;show⟨F,h,h2,A⟩
 .obtain ⟨o,J,K,ho,r⟩:=l;show⟨o,J,K,k _ o (d_ h) ho,r⟩
 .refine (I.hok b u e).stay (λc v a q=>k c v ?_ q) (λ_ q=>q) λ_ _ q=>q;rcases a with z|z
  .rw [z];show d b u e
  .exact d c _ z
def Φ.tok(I:Φ X π σ H s)(t:Nat):Φ X π σ H {s with toks:=t}:=I.un (h':=s.heap) (t':=t) Un.refl I.hok
def Φ.kept(I:Φ X π σ H s)(k:∀b u,s.heap.get? b=aa u->h'.get? b=aa u):Φ X π σ H {s with heap:=h',toks:=t' }:=I.un (Un.kept k) (I.hok.kept k)
theorem Φ.laid{a:ah}{o:HO}{t':Nat}(I:Φ X π σ H s)(k:∀b u,s.heap.get? b=aa u->h'.get? b=aa u)(d:s.heap.objs.size<=a)(new:dR X.Ω X.w (upd H a o) h' a o):
  Φ X π σ (upd H a o) {s with heap:=h',toks:=t' }:=I.un (Un.laid k d (I.hok.fresh d)) (I.hok.laid k d new)
theorem Φ.write(I:Φ X π σ H s)(d:Mut (H x))(h:e=x\/H e=aa (.own x))(k:∀b u,b≠e->s.heap.get? b=aa u->h'.get? b=aa u)(a:∃u,h'.get? e=aa u)
  (new:dR X.Ω X.w (upd H x o) h' x o):Φ X π σ (upd H x o) {s with heap:=h',toks:=t' }:=I.un (Un.write d h k a) (I.hok.write d h k a new)
def Φ.weak(I:Φ X π σ H s)(a:σ'.length=σ.length)(w:∀(i:Nat) v,σ'[i]?=aa (aa v)->σ[i]?=aa (aa v)):Φ X π σ' H s :=
 ⟨I.ok,I.os,I.bare,I.ω,let ⟨m,hn,hl'⟩:=I.loc;⟨m,hn,λi x v d e2 e3=>hl' i x v d (w i v e2) e3⟩,I.cell,I.free,I.k6,I.pin,I.hok,a.trans I.len⟩
def Φ.JD(I:Φ X π σ H s)(h:∀p∈P9,s.heap.get? p.1=aa p.2/\H p.1=af/\p.1≠X.env.locals/\p.1∉X.fs /\∀v,p.2.data≠.cell v):Φ X P9 σ H s :=
 ⟨I.ok,I.os,I.bare,I.ω,I.loc,I.cell,I.free,I.k6,λp a=>(di.mp a).elim (λz=>I.pin p (iq _ z)) (h p),I.hok,I.len⟩
def C8{N:Q0g}(hN:N.Nodup){i j:Nat}{x:ak}(a:N[i]?=aa x)(b:N[j]?=aa x):i=j:=by obtain⟨h,d⟩:=cg.mp a;obtain⟨h2,e2⟩:=cg.mp b;show(a2f hN).mp (d.trans e2.symm)
theorem yS{M:Model}{A:br}{E:Q0c}{i:Nat}{x:ak}{v:V}{u:ai}{Q:Unit->ao->Prop}(I:Φ X π σ H s)(hN:X.N.Nodup)(hi:X.N[i]?=aa x)(K:Loc X.env.scope x)(r:Ψ v u)
  (h:∀s',Φ X π (σ.set i (aa v)) H s'->(∃a,jw a s.heap s'.heap/\(a=X.env.locals\/X.env.cells.lookup x=aa a))->Q () s') (hf:Zp X x<|>8):aw M A (storeName X.env x u) Q E s:=by
 obtain⟨m,hn,hl⟩:=id I.loc;have hcls:(X.env.scope.kind == .class||(X.env.scope.kind == .module&&X.env.locals !=X.env.globals))=ag:=by rw[I.ok.kind];rfl
 have U:i<σ.length:=by rw[I.len];show(cg.mp hi).1
 have cne:=I.cne;have tracked:∀{a:ah} {h':bb},(∃o,s.heap.get? a=aa o/\H a=af)->jw a s.heap h'->n9 X.Ω X.w H h':=λ{a h'} ha l b ob e=>by
  obtain⟨_,_,L⟩:=ha;show(I.hok b ob e).stay (λc w' J q=>(l.2 c ?_).trans q) (λ_ q=>q) λ_ _ q=>q;rintro rfl;rcases J with rfl|J
  .rw [L] at e;cases e
  .rw [L] at J;cases J
 rcases K with O|O
 .refine wpAny_storeName_local O hn (λh' hn' l=>?_) hcls;obtain⟨oL,_,_,hoL,_⟩:=id hn;show h _ ⟨I.ok,I.os,I.bare,⟨λb o e n hb K=>?_,λb o e n hb K=>?_,I.ω.free,λb o e K=>?_,I.ω.tups,I.ω.vN,I.ω.tQ⟩,⟨_,hn',λj y v' F e2 e3=>?_⟩,λy c e=>?_,I.free,I.k6,λp hp=>?_,tracked ⟨oL,hoL,I.free⟩ l,by simpa using I.len⟩ ⟨_,l,.inl rfl⟩
  .exact (l.2 b (f_ (gg (bz e) I.ok.above))).trans (I.ω.keep b o e n hb K)
  .obtain ⟨sl,F⟩:=I.ω.slot b o e n hb K;show⟨sl,(l.2 b (f_ (gg (bz e) I.ok.above))).trans F⟩
  .obtain ⟨o',F⟩:=I.ω.there b o e K;show⟨o',(l.2 b (f_ (gg (bz e) I.ok.above))).trans F⟩
  .by_cases Y:j=i
   .subst Y;rw[hi] at F;cases F;rw[nc U] at e2;cases e2;show⟨u,r,.inl ⟨O,by simp⟩⟩
   .rw [jq (d_ Y)] at e2;obtain⟨u',r',q⟩:=hl j y v' F e2 e3;show⟨u',r',?_⟩;rcases q with⟨k,e⟩|⟨k,c,e,z⟩
    .refine .inl ⟨k,?_⟩;have:y≠x:=λe=>Y (C8 hN F (e▸hi));simp[this,e]
    .exact .inr ⟨k,c,e,z.sameBut l (cne y c e)⟩
  .obtain ⟨w',z⟩:=I.cell y c e;show⟨w',z.sameBut l (cne y c e)⟩
  .obtain ⟨e,n,ne,nf,d⟩:=I.pin p hp;show⟨(l.2 p.1 ne).trans e,n,ne,nf,d⟩
 .have Z:X.fn x=ae:=by
   rcases hf with z|z
   .exact z
   .rw [z] at O;cases O
  obtain⟨c,J⟩:=I.ok.has x (.inl O);obtain⟨w',z⟩:=I.cell x c J;show wpAny_storeName_cell I.ok.kind O J z (λh' hc' l=>?_);obtain⟨oc,hoc,Oc⟩:=id z;show h {s with heap:=h' } ⟨I.ok,I.os,I.bare,⟨λb o e n hb K=>?_,λb o e n hb K=>?_,I.ω.free,λb o e K=>?_,I.ω.tups,I.ω.vN,I.ω.tQ⟩,⟨m,hn.sameBut l (d_ (cne x c J)),λj y v' F e2 e3=>?_⟩,λy c' e=>?_,I.free,I.k6,λp hp=>?_,tracked ⟨oc,hoc,I.k6 x c J⟩ l,by simpa using I.len⟩ ⟨c,l,.inr J⟩
  .exact (l.2 b (f_ (gg (bz e) (I.ok.cab x c Z J)))).trans (I.ω.keep b o e n hb K)
  .obtain ⟨sl,F⟩:=I.ω.slot b o e n hb K;show⟨sl,(l.2 b (f_ (gg (bz e) (I.ok.cab x c Z J)))).trans F⟩
  .obtain ⟨o',F⟩:=I.ω.there b o e K;show⟨o',(l.2 b (f_ (gg (bz e) (I.ok.cab x c Z J)))).trans F⟩
  .by_cases Y:j=i
   .subst Y;rw[hi] at F;cases F;rw[nc U] at e2;cases e2;show⟨u,r,.inr ⟨.inl O,c,J,hc'⟩⟩
   .rw [jq (d_ Y)] at e2;obtain⟨u',r',q⟩:=hl j y v' F e2 e3;show⟨u',r',?_⟩;rcases q with q|⟨k,c',e,z'⟩
    .exact .inl q
    .refine .inr ⟨k,c',e,z'.sameBut l ?_⟩;rintro rfl;show Y (C8 hN F (I.ok.inj _ _ _ e J▸hi))
  .by_cases hcc:c'=c
   .subst hcc;show⟨_,hc'⟩
   .obtain ⟨w2,z2⟩:=I.cell y c' e;show⟨w2,z2.sameBut l hcc⟩
  .obtain ⟨e,n,ne,nf,d⟩:=I.pin p hp;show⟨(l.2 p.1 ?_).trans e,n,ne,nf,d⟩;intro q;rw[q,hoc] at e;have q':oc=p.2:=ft e;show d w' (by rw[<- q'];show Oc)
theorem qC(I:Φ X π σ H s)(hN:X.N.Nodup)(hi:X.N[i]?=aa x)(a:Loc X.env.scope x)(r:Ψ v u)
  (h:∀s',Φ X π (σ.set i (aa v)) H s'->Q () s') (d:Zp X x<|>8):aw M A (storeName X.env x u) Q E s :=
 yS I hN hi a r (λs' j _=>h s' j) d
theorem Φ.call'(I:Φ X π σ H s)(ho:s'.os=s.os)(u:Un (frs X.stack) ch H H' s.heap s'.heap)(a:n9 X.Ω X.w H' s'.heap)(j:ki s'.gens)
  (d:∀b∈ch,(b∈X.ex\/X.s₀.heap.objs.size<=b)/\b≠X.env.locals/\(∀x c,X.env.cells.lookup x=aa c->c≠b) /\∀p∈X.pn++π,p.1≠b):Φ X π σ H' s':=by
 obtain⟨h',g',d',t',h⟩:=s';have e:h=s.os:=ho;subst e;show I.call (g':=g') (t':=t') (d':=d') u a j d
end
abbrev XK:=ai->Option ah->Hp->Prop
abbrev St:=List (Option V)
abbrev VK:=V->Hp->Prop
abbrev TE:=St->Hp->VK->Prop
abbrev TT:=St->Hp->(Bool->Hp->Prop)->Prop
abbrev TA:=St->Hp->(List V->Hp->Prop)->Prop
structure Ends where
 nx:St->Hp->Prop
 rt:VK
 bk:St->Hp->Prop:=λ_ _=>False
 ct:St->Hp->Prop:=λ_ _=>False
abbrev TS:=Ends->St->Hp->Prop
def EP(X:Cx)(π:Q0b)(σ:St)(Q:VK)(u:ai)(s':ao):Prop:=∃v H',Φ X π σ H' s'/\Ψ v u/\Q v H'
def TP(X:Cx)(π:Q0b)(σ:St)(Q:Bool->Hp->Prop)(b:Bool)(s':ao):Prop:=∃H',Φ X π σ H' s'/\Q b H'
def AP(X:Cx)(π:Q0b)(σ:St)(Q:List V->Hp->Prop)(d:Q0f)(s':ao):Prop:=∃a H',Φ X π σ H' s'/\θ a d/\Q a H'
def SP(X:Cx)(π:Q0b)(D:Ends)(f:Flow)(s':ao):Prop :=
 match f with
 |.next=>∃a H',Φ X π a H' s'/\D.nx a H'
 |.brk=>∃a H',Φ X π a H' s'/\D.bk a H'
 |.cont=>∃a H',Φ X π a H' s'/\D.ct a H'
 |.ret u=>∃v a H',Φ X π a H' s'/\Ψ v u/\D.rt v H'
def PE(X:Cx)(e:au)(t:TE):Prop :=
 ∀(π:Q0b) (s:ao) (σ:St) (H:Hp) (Q:VK),Φ X π σ H s->t σ H Q->aw (ay X.Ω X.w) X.A (eval e X.env) (EP X π σ Q) X.xe s
def PT(X:Cx)(e:au)(t:TT):Prop :=
 ∀(π:Q0b) (s:ao) (σ:St) (H:Hp) (Q:Bool->Hp->Prop),Φ X π σ H s->t σ H Q->aw (ay X.Ω X.w) X.A (isTrue e X.env (eval e X.env)) (TP X π σ Q) X.xe s
def PW(X:Cx)(e:au)(t:TT):Prop :=
 ∀(whole:Sem ai) (π:Q0b) (s:ao) (σ:St) (H:Hp) (Q:Bool->Hp->Prop),Φ X π σ H s->t σ H Q->aw (ay X.Ω X.w) X.A (isTrue e X.env whole) (TP X π σ Q) X.xe s
def PW.pt(h:PW X e t):PT X e t:=h _
def PA(X:Cx)(d:List au)(t:TA):Prop :=
 ∀(a:bc) (π:Q0b) (s:ao) (σ:St) (H:Hp) (Q:List V->Hp->Prop),Φ X π σ H s->t σ H Q->aw (ay X.Ω X.w) X.A (spliced (dj a (av d X.env))) (AP X π σ Q) X.xe s
def PS(X:Cx)(st:c_)(t:TS):Prop :=
 ∀(π:Q0b) (s:ao) (σ:St) (H:Hp) (D:Ends),Φ X π σ H s->t D σ H->aw (ay X.Ω X.w) X.A (exec st X.env) (SP X π D) X.xe s
def EX(X:Cx)(st:List c_)(t:TS):Prop :=
 ∀(π:Q0b) (s:ao) (σ:St) (H:Hp) (D:Ends),Φ X π σ H s->t D σ H->aw (ay X.Ω X.w) X.A (execs st X.env) (SP X π D) X.xe s
def dF{d:Type}{t:Sem d}{Q Q':d->ao->Prop}{M:Model}{A:br}{E:Q0c}{s:ao}(h:aw M A t Q E s)(j:∀a s,Q a s->Q' a s):aw M A t Q' E s:=ka h j λ_ _ x=>x
section
variable{X:Cx}
def wj(i:Nat):TE:=λσ H Q=>∃v,σ[i]?=aa (aa v)/\Q v H
def tC(v:V):TE:=λ_ H Q=>Q v H
def pA(hN:X.N[i]?=aa x)(p:xD X.env.scope x)(j:Zu x<|>1)(n:Zt x<|>1):PE X (.Name x ν) (wj i):=by
 intro π s σ H Q I h;obtain⟨v,e,h⟩:=h;obtain⟨m,q,z⟩:=I.loc;obtain⟨u,r,l⟩:=z i x v hN e p;have fin:EP X π σ Q u s:=⟨v,H,I,r,h⟩;rcases l with⟨d,y⟩|⟨d,c,o,a⟩
 .exact B_ (wpAny_loadName_local I.ok.kind d q y fin) j
 .rcases d with d|d
  .exact B_ (wpAny_loadName_cell I.ok.kind d o a fin) j
  .exact B_ (wpAny_loadName_free I.ok.kind d o a fin n) j
def Yk{i j ν}:PE X (.Constant (.int i) j ν) (tC (.int i)):=λ_ _ _ H _ I h=>wpAny_Constant_int ⟨.int i,H,I.tok _,⟨_,rfl⟩,h⟩
def Uz{b j ν}:PE X (.Constant (.bool b) j ν) (tC (.bl b)):=λ_ _ _ H _ I h=>Constant_bool ⟨.bl b,H,I,rfl,h⟩
def Yj{x j ν}:PE X (.Constant (.str x) j ν) (tC (.str x)):=λ_ _ _ H _ I h=>Calls.Constant_str ⟨.str x,H,I.tok _,⟨_,rfl⟩,h⟩
def Gl(X:Cx)(x:ak):Prop:=X.env.kindOf x=aa .globalImplicit
theorem AZ(I:Φ X π σ H s)(d:Gl X x)(a:X.mg x=aa u)(h:Q u s)
  (j:Zu x<|>1):aw (ay X.Ω X.w) X.A (eval (.Name x ν) X.env) Q E s :=
 a1m I.ok.kind d (Calls.loadGlobal_global (by rw[I.ok.glob];show I.mod.glob.keeps I.bk) a h) j
theorem pB(I:Φ X π σ H s)(l:Gl X x)(j:X.mg x=af)(a:bootBuiltins x=aa u)(h:Q u s)
  (d:x ≠ "__name__"<|>1) (m:Zu x<|>1):aw (ay X.Ω X.w) X.A (eval (.Name x ν) X.env) Q E s:=by
 obtain⟨mb,n,h2⟩:=I.mod.blt;show a1m I.ok.kind l (Calls.loadGlobal_builtin (by rw[I.ok.glob];show I.mod.glob.keeps I.bk) j (by rw[I.ok.blt];show n.keeps I.bk) ((h2 x d).trans a) h) m
def VA(d:Gl X x)(a:X.mg x=aa u)(r:Ψ v u)(j:Zu x<|>1):PE X (.Name x ν) (tC v) :=
 λ_ _ _ H _ I h=>AZ I d a ⟨v,H,I,r,h⟩ j
def VB(l:Gl X x)(j:X.mg x=af)(a:bootBuiltins x=aa u)(r:Ψ v u)(d:x ≠ "__name__"<|>1)(m:Zu x<|>1):PE X (.Name x ν) (tC v) :=
 λ_ _ _ H _ I h=>pB I l j a ⟨v,H,I,r,h⟩ d m
variable{a b:au}{ta tb:TE}{ν:bc}
def PC(X:Cx)(op:ue)(a b:au)(t:TE):Prop :=
 ∀(π:Q0b) (s:ao) (σ:St) (H:Hp) (Q:VK),Φ X π σ H s->t σ H Q ->
  aw (ay X.Ω X.w) X.A (eval a X.env) (λv h=>aw (ay X.Ω X.w) X.A (eval b X.env) (λu d=>aw (ay X.Ω X.w) X.A (compareOp op v u) (EP X π σ Q) X.xe d) X.xe h) X.xe s
def tB(t:TE):TT:=λσ H Q=>t σ H λx d=>∃c,x=.bl c/\Q c d
def QA{op:ue}{t:TE}(h:PC X op a b t)(j:behindInMarks op b=ag:=by first|show aDA _ (by decide) (by decide)|rfl):PT X (.Compare a [op] [b] ν) (tB t):=by intro π s σ H Q I hw;show Zm (dF (h π s σ H _ I hw) λv p j=>dF j λu o h2=>dF h2 λc s3 ⟨x,n,m,l,q1⟩=>?_) j;obtain⟨d,rfl,q⟩:=q1;cases l;show jt ⟨n,m,q⟩
variable{tA tB':TT}{Θ:List au}
def fD(t u:TT):TT:=λσ H Q=>t σ H λc d=>if c=ae then u σ d Q else Q ag d
def jS(t u:TT):TT:=λσ H Q=>t σ H λc d=>if c=ae then Q ae d else u σ d Q
def iR(t:TT):TT:=λσ H Q=>t σ H λc d=>Q (!c) d
theorem VC(d:PT X a tA):PW X (.BoolOp .And [a] ν) tA:=by
 intro j π s σ H Q I h;show isTrue_and (dF (d π s σ H Q I h) λc l e=>?_)
 cases c with
 |true=>show isTrue_and_nil e
 |false=>show e
theorem Yi(d:PT X a tA):PW X (.BoolOp .Or [a] ν) tA:=by
 intro j π s σ H Q I h;show isTrue_or (dF (d π s σ H Q I h) λc l e=>?_)
 cases c with
 |false=>show isTrue_or_nil e
 |true=>show e
theorem Yh(o:PT X a tA)(n:PW X (.BoolOp .And (b::Θ) ν) tB'):PW X (.BoolOp .And (a::b::Θ) ν) (fD tA tB'):=by
 intro l π s σ H Q I h;show isTrue_and (dF (o π s σ H _ I h) λc m ⟨j,d,q1⟩=>?_)
 cases c with
 |true=>show n l π m σ j Q d q1
 |false=>show⟨j,d,q1⟩
theorem Ur(o:PT X a tA)(n:PW X (.BoolOp .Or (b::Θ) ν) tB'):PW X (.BoolOp .Or (a::b::Θ) ν) (jS tA tB'):=by
 intro l π s σ H Q I h;show isTrue_or (dF (o π s σ H _ I h) λc m ⟨j,d,q1⟩=>?_)
 cases c with
 |true=>show⟨j,d,q1⟩
 |false=>show n l π m σ j Q d q1
def Zd(d:PT X a tA):PT X (.UnaryOp .Not a ν) (iR tA):=by intro π s σ H Q I h;show isTrue_not (d π s σ H (λc j=>Q (!c) j) I h)
def Uq(ta tb:TE):TE:=λσ H Q=>ta σ H λx d=>∃c,x=.bl c/\if c=ae then tb σ d Q else Q (.bl ag) d
def Ob(ta tb:TE):TE:=λσ H Q=>ta σ H λx d=>∃c,x=.bl c/\if c=ae then Q (.bl ae) d else tb σ d Q
def Zc{op}(h:PE X a t):PE X (.BoolOp op [a] ν) t:=λπ s σ H Q I hw=>BoolOp_one (h π s σ H Q I hw)
theorem Zb(o:PE X a ta)(n:PE X (.BoolOp .And (b::Θ) ν) tb):PE X (.BoolOp .And (a::b::Θ) ν) (Uq ta tb):=by
 intro π s σ H Q I h;show BoolOp_and (dF (o π s σ H _ I h) λv l ⟨x,j,d,m,q1⟩=>?_);obtain⟨c,rfl,q1⟩:=q1;cases m;show jt ?_
 cases c with
 |true=>show n π l σ j Q d q1
 |false=>show⟨.bl ag,j,d,rfl,q1⟩
theorem Uo(o:PE X a ta)(n:PE X (.BoolOp .Or (b::Θ) ν) tb):PE X (.BoolOp .Or (a::b::Θ) ν) (Ob ta tb):=by
 intro π s σ H Q I h;show BoolOp_or (dF (o π s σ H _ I h) λv l ⟨x,j,d,m,q1⟩=>?_);obtain⟨c,rfl,q1⟩:=q1;cases m;show jt ?_
 cases c with
 |false=>show n π l σ j Q d q1
 |true=>show⟨.bl ae,j,d,rfl,q1⟩
def Fh(t:TT)(ta tb:TE):TE:=λσ H Q=>t σ H λc d=>if c=ae then ta σ d Q else tb σ d Q
theorem QB{c:au}(n:PT X c tA)(p:PE X a ta)(o:PE X b tb):PE X (.IfExp c a b ν) (Fh tA ta tb):=by
 intro π s σ H Q I h;show wpAny_IfExp (dF (n π s σ H _ I h) λd j ⟨m,l,q1⟩=>?_)
 cases d with
 |true=>show p π j σ m Q l q1
 |false=>show o π j σ m Q l q1
end
def fU(K:ar)(H:Hp)(a:ah)(xs:List V):Prop :=
 Rd H a (.lst xs) \/
  ∃(o:az) (d:Array ai) (n:Nat),K.lookup a=aa o/\o.cls=.type "list" /\o.dict=af/\o.data=.seq d n/\d.size<=bf/\θ xs d.toList
def fI(K:ar)(H:Hp)(a:ah)(xs:List V):Prop :=
 Rd H a (.tup xs) \/
  ∃(o:az) (d:Array ai) (n:Nat),K.lookup a=aa o/\o.cls=.type "tuple" /\o.data=.seq d n/\d.size<=bf/\θ xs d.toList
noncomputable def Oa:ai->Option V
 |.none=>aa .non
 |.bool b=>aa (.bl b)
 |.int i _=>aa (.int i)
 |.str x _=>aa (.str x)
 |.bytes b _=>aa (.FW b)
 |.float b _=>aa (.flt b)
 |.ref a=>aa (.ref a)
 |.type n=>aa (.ty n)
 |_=>af
theorem Ψ.abs(r:Ψ x u):Oa u=aa x:=by
 cases x with
 |non=>cases r;rfl
 |bl _=>cases r;rfl
 |int _=>obtain⟨t,rfl⟩:=r;rfl
 |str _=>obtain⟨t,rfl⟩:=r;rfl
 |FW _=>obtain⟨t,rfl⟩:=r;rfl
 |flt _=>obtain⟨t,rfl⟩:=r;rfl
 |ref _=>cases r;rfl
 |ty _=>cases r;rfl
def Ψ.inj{x y:V}{u:ai}(r:Ψ x u)(q:Ψ y u):x=y:=ft (r.abs.symm.trans q.abs)
theorem θ.inj:∀{xs ys:List V} {a:Q0f},θ xs a->θ ys a->xs=ys
 |_,_,_,.nil,.nil=>rfl
 |_,_,_,.cons r t,.cons r' t'=>by rw[r.inj r',θ.inj t t']
section
variable{X:Cx}{π:Q0b}{σ:St}{H:Hp}{s:ao}{a:ah}{xs ys:List V}
def fU.of{K:ar}(h:H a=aa (.lst xs)):fU K H a xs:=.inl (.inl h)
def fI.of{K:ar}(h:H a=aa (.tup xs)):fI K H a xs:=.inl (.inl h)
def Φ.list(I:Φ X π σ H s)(h:fU X.K H a xs):∃d:Q0f,θ xs d/\PlainL s.heap a d.toArray/\xs.length<=bf:=by
 rcases h with h|⟨o,d,n,l,p,m,j,q,r⟩
 .obtain ⟨z,d,n,r,e⟩:=h.ok I.hok;show⟨d,r,⟨_,n,e,rfl,rfl,rfl⟩,z⟩
 .refine ⟨d.toList,r,⟨o,n,I.xE a o l,p,m,by simpa using j⟩,?_⟩;have e:=r.length;simp only[zb] at e;lia
def Φ.tuple(I:Φ X π σ H s)(h:fI X.K H a xs):∃d:Q0f,θ xs d/\kh s.heap a d.toArray/\xs.length<=bf:=by
 rcases h with h|⟨o,d,n,l,m,j,q,r⟩
 .obtain ⟨z,d,r,p,_⟩:=h.ok I.hok;show⟨d,r,p,z⟩
 .refine ⟨d.toList,r,⟨o,I.xE a o l,m,n,by simpa using j⟩,?_⟩;have e:=r.length;simp only[zb] at e;lia
def Φ.qD(I:Φ X π σ H s)(h:fU X.K H a xs)(h':fU X.K H a ys):xs=ys:=by
 obtain⟨l,r,⟨o,n,e,_,_,d⟩,_⟩:=I.list h;obtain⟨its',m,⟨q,v,j,_,_,d'⟩,_⟩:=I.list h';rw[e] at j;cases j;rw[d] at d';injection d' with p _;have:l=its':=by simpa using congrArg a2G p
 subst this;show r.inj m
def Φ.jH(I:Φ X π σ H s)(h:fI X.K H a xs)(h':fI X.K H a ys):xs=ys:=by
 obtain⟨l,r,⟨o,e,_,n,d⟩,_⟩:=I.tuple h;obtain⟨its',m,⟨q,j,_,v,d'⟩,_⟩:=I.tuple h';rw[e] at j;cases j;rw[d] at d';injection d' with p _;have:l=its':=by simpa using congrArg a2G p
 subst this;show r.inj m
end
abbrev Cx.wish(X:Cx)(E:Q0c):Cx:={X with xe:=E}
abbrev Cx.TK(X:Cx):Cx:=X.wish λ_ _=>False
def Cx.Ok.wish{X:Cx}(ok:X.Ok)(E:Q0c):(X.wish E).Ok :=
 ⟨ok.mod,ok.kind,ok.glob,ok.blt,ok.above,ok.inj,ok.has,ok.cab,ok.hd,ok.frames,ok.stk,ok.exf,ok.bs,ok.U8,ok.P8,ok.U9,ok.tT,ok.frf,ok.tab⟩
def Cx.Ok.lO{X:Cx}{E:Q0c}(ok:(X.wish E).Ok):X.Ok :=
 ⟨ok.mod,ok.kind,ok.glob,ok.blt,ok.above,ok.inj,ok.has,ok.cab,ok.hd,ok.frames,ok.stk,ok.exf,ok.bs,ok.U8,ok.P8,ok.U9,ok.tT,ok.frf,ok.tab⟩
section
variable{X:Cx}{π:Q0b}{σ:St}{H:Hp}{s:ao}{E:Q0c}
def Φ.wish(I:Φ X π σ H s)(E:Q0c):Φ (X.wish E) π σ H s:=⟨I.ok.wish E,I.os,I.bare,I.ω,I.loc,I.cell,I.free,I.k6,I.pin,I.hok,I.len⟩
def Φ.lO(I:Φ (X.wish E) π σ H s):Φ X π σ H s:=⟨I.ok.lO,I.os,I.bare,I.ω,I.loc,I.cell,I.free,I.k6,I.pin,I.hok,I.len⟩
theorem SP.lO{D:Ends}{f:Flow}{s':ao}(h:SP (X.wish E) π D f s'):SP X π D f s':=by
 cases f with
 |next=>obtain⟨a,H',I,q⟩:=h;show⟨a,H',I.lO,q⟩
 |brk=>obtain⟨a,H',I,q⟩:=h;show⟨a,H',I.lO,q⟩
 |cont=>obtain⟨a,H',I,q⟩:=h;show⟨a,H',I.lO,q⟩
 |ret u=>obtain⟨v,a,H',I,r,q⟩:=h;show⟨v,a,H',I.lO,r,q⟩
def EX.TK{st:List c_}{t:TS}(h:EX X.TK st t):EX X st t:=λπ s σ H D I hw =>
 ka (h π s σ H D (I.wish _) hw) (λ_ _ q=>q.lO) λ_ _ z=>jl z
variable{st:c_}{Θ:List c_}{t u:TS}{e:au}{te:TE}{ν:bc}
def Um:TS:=λD σ H=>D.nx σ H
def N_(t u:TS):TS:=λD σ H=>t {D with nx:=u D} σ H
def VD:EX X [] Um:=λ_ _ σ H _ I h=>xb ⟨σ,H,I,h⟩
theorem QC(j:PS X st t)(h2:EX X Θ u):EX X (st::Θ) (N_ t u):=by
 intro π s σ H D I h;show a0c (dF (j π s σ H {D with nx:=u D} I h) λf d q=>?_)
 cases f with
 |next =>
  obtain⟨a,H',l,q⟩:=q;show h2 π d a H' D l q
 |ret v=>show q
 |brk=>show q
 |cont=>show q
theorem VE(a:PS X st t):EX X [st] t:=by
 intro π s σ H D I h;show a0c (dF (a π s σ H D I h) λf d q=>?_)
 cases f with
 |next=>show xb q
 |ret v=>show q
 |brk=>show q
 |cont=>show q
def Φ.quiet(I:Φ X π σ H s):interactive X.env=ag:=by simp[interactive,I.ok.kind]
def Ul(te:TE):TS:=λD σ H=>te σ H λ_ a=>D.nx σ a
def JE(d:PE X e te)(a:df e af ν.line X.env=pure ag<|>0):PS X (.Expr e ν) (Ul te):=by intro π s σ H D I h;show wpAny_Expr_any (dF (d π s σ H _ I h) λv m ⟨x,l,j,n,q1⟩=>⟨σ,l,j,q1⟩) I.quiet a
def Nz(te:TE):TS:=λD σ H=>te σ H D.rt
def QD(d:PE X e te):PS X (.Return (aa e) ν) (Nz te):=by intro π s σ H D I h;show wpAny_Return_some (dF (d π s σ H _ I h) λv m ⟨x,l,j,a,q1⟩=>⟨x,σ,l,j,a,q1⟩)
def Ny(c:TT)(t u:TS):TS:=λD σ H=>c σ H λb a=>if b=ae then t D σ a else u D σ a
theorem Uk(n:PT X c tc)(p:EX X a t)(o:EX X b u):PS X (.If c a b ν) (Ny tc t u):=by
 intro π s σ H D I h;show wpAny_If (dF (n π s σ H _ I h) λd j ⟨m,l,q1⟩=>?_)
 cases d with
 |true=>show p π j σ m D l q1
 |false=>show o π j σ m D l q1
end
abbrev TG:=V->St->Hp->(St->Hp->Prop)->Prop
abbrev TGs:=List V->St->Hp->(St->Hp->Prop)->Prop
def PG(X:Cx)(target:au)(t:TG):Prop :=
 ∀(π:Q0b) (s:ao) (σ:St) (H:Hp) (v:V) (u:ai) (Q:St->Hp->Prop),Φ X π σ H s->Ψ v u->t v σ H Q ->
  aw (ay X.Ω X.w) X.A (assign target X.env u) (λ_ s'=>∃a H',Φ X π a H' s'/\Q a H') X.xe s
def PGs(X:Cx)(j:List au)(t:TGs):Prop :=
 ∀(π:Q0b) (s:ao) (σ:St) (H:Hp) (d:List V) (h:Q0f) (Q:St->Hp->Prop),Φ X π σ H s->θ d h->t d σ H Q ->
  aw (ay X.Ω X.w) X.A (assignInOrder ((cp j X.env).map (·.2)) h) (λ_ s'=>∃a H',Φ X π a H' s'/\Q a H') X.xe s
abbrev Bc:=V->V->V->Hp->(Hp->Prop)->Prop
def Bb(X:Cx)(t:Bc):Prop :=
 ∀(π:Q0b) (s:ao) (σ:St) (H:Hp) (o i v:V) (a d u:ai) (Q:Hp->Prop),Φ X π σ H s->Ψ o a->Ψ i d->Ψ v u->t o i v H Q ->
  aw (ay X.Ω X.w) X.A (setItem a d u) (λ_ s'=>∃H',Φ X π σ H' s'/\Q H') X.xe s
section
variable{X:Cx}{ν:bc}
def QE(i:Nat):TG:=λv σ H Q=>Q (σ.set i (aa v)) H
def iQ(hN:X.N.Nodup)(hi:X.N[i]?=aa x)(a:Loc X.env.scope x)(d:Zp X x<|>8):PG X (.Name x ν) (QE i):=by intro π s σ H v u Q I r h;show a0e (qC I hN hi a r (λs' j=>⟨_,H,j,h⟩) d)
def Nw:TGs:=λa σ H Q=>a=[]/\Q σ H
def Uj(t:TG)(u:TGs):TGs:=λd σ H Q=>∃v r,d=v::r/\t v σ H λa H'=>u r a H' Q
def A1:PGs X [] Nw:=by intro π s σ H a d Q I r h;obtain⟨e,h⟩:=h;subst e;cases r;show a1E ⟨σ,H,I,h⟩
theorem iX(l:PG X e t)(h2:PGs X es u)
  (j:((cp (e::es) X.env).map (·.2)=assign e X.env::(cp es X.env).map (·.2))<|>0):PGs X (e::es) (Uj t u):=by
 intro π s σ H p x Q I r h;obtain⟨v,q,m,h⟩:=h;subst m
 cases r with
 |cons r rr =>
  rw[j];show Dt (dF (l π s σ H _ _ _ I r h) λ_ d ⟨a,o,n,q1⟩=>?_);show h2 π d a o _ _ Q n rr q1
def Nv(K:ar)(n:Nat)(t:TGs):TG:=λv σ H Q=>∃a xs,v=.ref a/\fI K H a xs/\xs.length=n/\t xs σ H Q
theorem FX(y:X.calm=ae)(h:PGs X es t)
  (q:(cp es X.env).length=n<|>0) (d:(cp es X.env).findIdx? (·.1)=af<|>0):PG X (.Tuple es k ν) (Nv X.K n t):=by
 intro π s σ H v u Q I r hw;obtain⟨a,xs,z,p,x,hw⟩:=hw;subst z;cases r;obtain⟨F,j,m,J⟩:=I.tuple p;show assign_Tuple_tuple (I.ok.hd y) m (by simp[q,<- x,j.length]) d λh' l=>?_;have A:Φ X π σ H {s with heap:=h' }:=I.kept (t':=s.toks) λb o e=>l b o (f_ (bz e)) e;show h π _ σ H xs _ Q A (by simpa using j) hw
def Nu(a d:TE)(t:Bc):TG:=λv σ H Q=>a σ H λo l=>d σ l λi j=>t o i v j λh=>Q σ h
theorem Za(ho:PE X o to)(hi:PE X i ti)(q:Bb X t)
  (z:∀v,assign (.Subscript o i ν) X.env v=(do
   let a <- holding [v] (eval o X.env)
   let d <- holding [v,a] (eval i X.env)
   standAt ν
   holding [v,a,d] (setItem a d v)
   release [v,a,d] []):=by intro _;rfl):PG X (.Subscript o i ν) (Nu to ti t):=by
 intro π s σ H v u Q I r h;rw[z];show aq (iz (dF (ho π s σ H _ I h) λa l ⟨x,O,J,n,q1⟩=>?_));show aq (iz (dF (hi π l σ O _ J q1) λd j ⟨y,L,F,m,q2⟩=>?_));show aq (sk (aq (iz (dF (q π j σ L x y v a d u _ F n m r q2) λ_ s3 ⟨K,A,p⟩=>?_))));show wpAny_release ⟨σ,K,A,p⟩
def wx(te:TE)(g:TG):TS:=λD σ H=>te σ H λx a=>g x σ a D.nx
def QF(m:PE X e te)(l:PG X tg g)(j:swapsWithSole [tg] e ν.line X.env=pure ag<|>0)(hw:swappedStores [tg] e X.env=pure af<|>0)
  (n:(cp [tg] X.env).map (·.2)=[assign tg X.env]<|>0):PS X (.Assign [tg] e ν) (wx te g):=by
 intro π s σ H D I h;show wpAny_Assign_stores (dF (m π s σ H _ I h) λv a ⟨x,p,o,d,q1⟩=>?_) j hw;rw[n];show dF (l π a σ p x v _ o d q1) λ_ y q=>q
def j8(hN:X.N.Nodup)(hi:X.N[i]?=aa x)(d:Loc X.env.scope x)(m:PE X e te)(j:Rv X e x pos' ν<|>0)(l:Zp X x<|>8):
  PS X (.Assign [.Name x pos'] e ν) (wx te (QE i)):=by
 intro π s σ H D I h;show wpAny_Assign_Name (dF (m π s σ H _ I h) λv z ⟨y,p,o,a,q1⟩=>?_) j;show qC o hN hi d a (λq n=>⟨_,p,n,q1⟩) l
def Nt(i j:Nat)(d:TA):TS:=λD σ H=>d σ H λa h=>∃v w,a=[v,w]/\D.nx ((σ.set i (aa v)).set j (aa w)) h
theorem Y_{kt k2 LN}(hc:X.calm=ae)(hN:X.N.Nodup)(hi:X.N[i]?=aa x)(Z:X.N[j]?=aa y)(m:i≠j)
  (z:X.env.scope.names.lookup x=aa .local) (n:X.env.scope.names.lookup y=aa .local) (ha:PA X [a,b] ta)
  (hw:swappedStores [.Tuple [.Name x px,.Name y py] kt pt] (.Tuple [a,b] k2 LN) X.env=pure (aa [x,y]))
  (Y:swapsWithSole [.Tuple [.Name x px,.Name y py] kt pt] (.Tuple [a,b] k2 LN) ν.line X.env=pure ag<|>0):
  PS X (.Assign [.Tuple [.Name x px,.Name y py] kt pt] (.Tuple [a,b] k2 LN) ν) (Nt i j ta):=by
 intro π s σ H D I h;rw[exec_Assign_arm];show aq (sk ?_);rw[Y];show aq (ax ?_);rw[Zz (by decide)];show aq (Tuple_ (dF (ha _ π s σ H _ I h) λK d ⟨vs,J,I1,U,q1⟩=>?_));obtain⟨v,w,e1,q1⟩:=q1;subst e1;obtain⟨u1,u2,rfl,O,L⟩:∃u1 u2,K=[u1,u2]/\Ψ v u1/\Ψ w u2:=by
  cases U with
  |cons p q =>
   cases q with
   |cons p' q' =>
    cases q';show⟨_,_,rfl,p,p'⟩
 show og ?_ (by show 2<=bf;decide);have I2:Φ X π σ J {d with heap:=d.heap.push {cls:=.type "tuple",data:=.seq [u1,u2].toArray} }:=I1.kept (t':=d.toks) λb o e=>ck _ e;rw[hw];show aq (ax ?_);show aw (ay X.Ω X.w) X.A (do rule "assign.swapped-stores";let items <- unpackItems (.ref d.heap.objs.size) 2 af;assignInOrder [λv=>bindName X.env y v,λv=>bindName X.env x v] items.reverse;pure a00) _ _ _;show aq (kr (aq (unpackItems_tuple (items:=#[u1,u2]) (I.ok.hd hc) (yb d.heap _) λh' l=>?_)));have I3:=I2.kept (h':=h') (t':=d.toks) λb o e=>l b o (f_ (bz e)) e;show aw _ _ (assignInOrder [λv=>bindName X.env y v,λv=>bindName X.env x v] [u2,u1] >>= λ_=>pure a00) _ _ _;show aq (Dt (a0d (qC I3 hN Z (.inl n) L (λs2 I4=>?_) (.inr n))));show Dt (a0d (qC I4 hN hi (.inl z) O (λs3 F=>a1E (ax ?_)) (.inr z)));rw[List.set_comm _ _ (d_ m)] at F;show⟨_,J,F,q1⟩
def Yz(c:TT)(j:TS):TS:=λD σ H=>∃W:Nat->St->Hp->Prop,(∃m,W m σ H) /\∀m σ H,W m σ H ->
 c σ H λb h=>if b=ae then ∃N:St->Hp->Prop,(∀a H',N a H' ->∃d,d<m/\W d a H')/\j {D with nx:=N,ct:=N,bk:=D.nx} σ h else D.nx σ h
theorem QG(z:qk (ay X.Ω X.w) X.A X.env X.xe)(hc:PT X c tc)(hb:EX X body tb):PS X (.While c body [] ν) (Yz tc tb):=by
 intro π s σ H D I h;obtain⟨W,⟨Z,O⟩,turn⟩:=h;show wpAny_While (codeAny_whileLoop (λn s'=>∃j H',Φ X π j H' s'/\W n j H') ?_ Z ⟨σ,H,I,O⟩);rintro n Y ⟨d,K,I1,L⟩;show n_ z (dF (hc π Y d K _ I1 (turn n d K L)) λb U ⟨J,F,q2⟩=>?_)
 cases b with
 |true =>
  obtain⟨N,hN,q2⟩:=q2;rw[Z_ rfl];show n_ z (dF (hb π U d J _ F q2) λf s3 m=>?_)
  cases f with
  |next =>
   obtain⟨a,l,y,p⟩:=m;obtain⟨q,x,o⟩:=hN a l p;show⟨q,x,a,l,y,o⟩
  |cont =>
   obtain⟨a,l,y,p⟩:=m;obtain⟨q,x,o⟩:=hN a l p;show⟨q,x,a,l,y,o⟩
  |brk=>show m
  |ret v=>show m
 |false =>
  rw[Zz b_];show xb ⟨d,J,F,q2⟩
end
structure It where
 go:Nat->Hp->Prop
 yld:Nat->Hp->V->Hp->Prop
 stop:Nat->Hp->Prop
def pC(X:Cx)(π:Q0b)(H:Hp)(b:ah):Prop :=
 H b=af/\b≠X.env.locals/\b∉X.fs/\(b∈X.ex\/X.s₀.heap.objs.size<=b)/\(∀x c,X.env.cells.lookup x=aa c->c≠b) /\∀p∈X.pn++π,p.1≠b
def Φ.FY(I:Φ X π σ H s)(a:s.heap.objs.size<=b)(h:H' b=af):pC X π H' b:=by
 show⟨h,ox (gg I.lt a),I.Od a,.inr (gi I.sz a),λx c e z=>?_,λp d z=>?_⟩
 .obtain ⟨v,q⟩:=I.cell x c e;show Zw (gg q.lt (by rw[z];show a)) (il _)
 .exact Zw (gg (bz (I.pin p d).1) (by rw[z];show a)) (il _)
structure Turn (P:bg) (w:ba) (K:ar) (tg:au) (J:It) (fp:List ah) (it:ah) (tn:Nat->bb->Prop):Prop where
 mem:it∈fp
 obj:∀i h,tn i h ->∀b∈fp,∃o,h.get? b=aa o /\∀v,o.data≠.cell v
 keep:∀i h h',tn i h->(∀b∈fp,∀o,h.get? b=aa o->h'.get? b=aa o)->tn i h'
 item:∀(X:Cx),X.Ω=P->X.w=w->X.K=K->X.calm=ae ->∀(i:Nat) (π:Q0b) (s:ao) (σ:St) (H:Hp) (E:Q0c),Φ X π σ H s->(∀b∈fp,pC X π H b)->tn i s.heap->J.go i H ->
  aw (ay P w) X.A (pyNext (.ref it)) (λr s1=>∃u,r=aa u /\
   aw (ay P w) X.A (letOwnedTupleGo tg (.ref it) u) (λ_ s2=>∃x H',Φ X π σ H' s2/\Ψ x u/\J.yld i H x H'/\tn (i+1) s2.heap /\∀b∈fp,H' b=af) E s1) E s
 done:∀(X:Cx),X.Ω=P->X.w=w->X.K=K->X.calm=ae ->∀(i:Nat) (π:Q0b) (s:ao) (σ:St) (H:Hp) (E:Q0c),Φ X π σ H s->(∀b∈fp,pC X π H b)->tn i s.heap->J.stop i H ->
  aw (ay P w) X.A (pyNext (.ref it)) (λr s1=>r=af/\Φ X π σ H s1) E s
 self:∀(A:br) (i:Nat) (s:ao) (Q:Q0c) (E:Q0c),tn i s.heap->Q (.ref it) s->aw (ay P w) A (pyIter (.ref it)) Q E s
abbrev TI:=St->Hp->(It->Hp->Prop)->Prop
def PIE(X:Cx)(π:Q0b)(σ:St)(j:au)(R:It->Hp->Prop)(a:ai)(d:ao):Prop :=
 ∃(it:ah) (h:List ah) (tn:Nat->bb->Prop) (J:It) (H':Hp),a=.ref it/\Φ X π σ H' d/\Turn X.Ω X.w X.K j J h it tn/\tn 0 d.heap/\(∀b∈h,pC X π H' b)/\R J H'
def PI(X:Cx)(a iter:au)(wi:TI):Prop :=
 ∀(π:Q0b) (s:ao) (σ:St) (H:Hp) (R:It->Hp->Prop),Φ X π σ H s->wi σ H R ->
  aw (ay X.Ω X.w) X.A (eval iter X.env) (λv d=>aw (ay X.Ω X.w) X.A (pyIter v) (PIE X π σ a R) X.xe d) X.xe s
theorem JF(ho:s.heap.get? it=aa o)(l:o.cls=.type n)(j:o.data=.fields vs)
  (d:["enumerate","zip","dict_itemiterator","dict_reverseitemiterator","odict_iterator","itertools.zip_longest","itertools.pairwise"].contains n=ag) (a:Q () s):aw M A (letOwnedTupleGo tg (.ref it) u) Q E s:=by
 unfold letOwnedTupleGo;cases tg<;>first
  |show ax a
  | (cases u<;>first
    |show ax a
    | (show aq (s_ ho ?_)
       rw[l,j];show aw M A (if(["enumerate","zip","dict_itemiterator","dict_reverseitemiterator","odict_iterator","itertools.zip_longest","itertools.pairwise"].contains n&&vs[0]? == aa (rawInt _))=ae then _ else _) Q E s;rw[Zz (by intro h;rw[d,uw] at h;cases h)];show ax a))
def Itl(K:ar)(a:ah):It :=
 ⟨λi H=>∃xs x,fU K H a xs/\xs[i]?=aa x,λi H x H'=>H'=H /\∀xs,fU K H a xs->xs[i]?=aa x,λi H=>∃xs,fU K H a xs/\xs.length<=i⟩
def Itt(K:ar)(a:ah):It :=
 ⟨λi H=>∃xs x,fI K H a xs/\xs[i]?=aa x,λi H x H'=>H'=H /\∀xs,fI K H a xs->xs[i]?=aa x,λi H=>∃xs,fI K H a xs/\xs.length<=i⟩
def Itr(lo:Int)(n:Nat):It:=⟨λi _=>i<n,λi H x H'=>H'=H/\x=.int (lo+i),λi _=>n<=i⟩
theorem LO{P:bg}{w:ba}{K:ar}{tg:au}(a it:ah):Turn P w K tg (Itl K a) [it] it (λi h=>h.IsListIter it a i) where
 mem:=by simp
 obj:=λi h st b j=>by
  have e:b=it:=by simpa using j
  subst e;obtain⟨o,e,c,d⟩:=st;show⟨o,e,λv z=>by rw[d] at z;cases z⟩
 keep:=λi h h' st k=>st.at λo e=>k it (by simp) o e
 item:=by intro X F hw J hc i π s σ H E I n st A;subst F hw J;obtain⟨xs,x,m,y⟩:=A;obtain⟨ι,q,p,hz⟩:=I.list m;obtain⟨u,hu,ru⟩:=q.get y;obtain⟨Z,Y,f2,U,O,L⟩:=n it (by simp);show wpAny_pyNext_list_item st p.isList (x:=u) (by simpa using hu) λh' l sb=>?_;have I1:Φ X π σ H {s with heap:=h' }:=I.turned (t':=s.toks) (λb o j e=>(sb.2 b j).trans e) Z Y U O L;obtain⟨o,e,c,d⟩:=id l;show⟨u,rfl,JF (s:={s with heap:=h' }) e c d (by decide) ⟨x,H,I1,ru,⟨rfl,λys hy=>by rw[I.qD hy m];show y⟩,l,λb j=>(n b j).1⟩⟩
 done:=by intro X F hw J hc i π s σ H E I n st A;subst F hw J;obtain⟨xs,m,y⟩:=A;obtain⟨ι,q,p,hz⟩:=I.list m;obtain⟨Z,Y,f2,U,O,L⟩:=n it (by simp);have hl:=q.length;show wpAny_pyNext_list_end (I.ok.hd hc) st p.isList (by simp;lia) λh' eb=>⟨rfl,I.turned (t':=s.toks) (λb o j e=>eb b o j e) Z Y U O L⟩
 self:=λ_ _ _ _ _ st h=>wpAny_pyIter_listiter st h
theorem FZ{P:bg}{w:ba}{K:ar}{tg:au}(a it:ah):Turn P w K tg (Itt K a) [it] it (λi h=>h.IsTupleIter it a i) where
 mem:=by simp
 obj:=λi h st b j=>by
  have e:b=it:=by simpa using j
  subst e;obtain⟨o,e,c,d⟩:=st;show⟨o,e,λv z=>by rw[d] at z;cases z⟩
 keep:=λi h h' st k=>st.at λo e=>k it (by simp) o e
 item:=by intro X J hw L hc i π s σ H E I n st F;subst J hw L;obtain⟨xs,x,m,A⟩:=F;obtain⟨q,y,p,hz⟩:=I.tuple m;obtain⟨u,hu,ru⟩:=y.get A;obtain⟨f0,Z,f2,Y,U,O⟩:=n it (by simp);show wpAny_pyNext_tuple_item st (show s.heap.IsTuple a q.toArray from p) (x:=u) (by simpa using hu) λh' l sb=>?_;have I1:Φ X π σ H {s with heap:=h' }:=I.turned (t':=s.toks) (λb o j e=>(sb.2 b j).trans e) f0 Z Y U O;obtain⟨o,e,c,d⟩:=id l;show⟨u,rfl,JF (s:={s with heap:=h' }) e c d (by decide) ⟨x,H,I1,ru,⟨rfl,λys hy=>by rw[I.jH hy m];show A⟩,l,λb j=>(n b j).1⟩⟩
 done:=by intro X J hw L hc i π s σ H E I n st F;subst J hw L;obtain⟨xs,m,A⟩:=F;obtain⟨q,y,p,hz⟩:=I.tuple m;obtain⟨f0,Z,f2,Y,U,O⟩:=n it (by simp);have hl:=y.length;show wpAny_pyNext_tuple_end (I.ok.hd hc) st (show s.heap.IsTuple a q.toArray from p) (by simp;lia) λh' eb=>⟨rfl,I.turned (t':=s.toks) (λb o j e=>eb b o j e) f0 Z Y U O⟩
 self:=λ_ _ _ _ _ st h=>wpAny_pyIter_tupleiter st h
theorem F4{P:bg}{w:ba}{K:ar}{O:au}(it:ah)(lo:Int)(n:Nat):Turn P w K O (Itr lo n) [it] it (λi h=>a0Z h it (lo+(i:Nat)*1) ((n:Int)-(i:Nat)) 1) where
 mem:=by simp
 obj:=λi h st b a=>by
  have e:b=it:=by simpa using a
  subst e;show⟨_,st,λv z=>by have L:Data.fields _=Data.cell v:=z;cases L⟩
 keep:=λi h h' st k=>k it (by simp) _ st
 item:=by intro X p hw q m i π s σ H E I j st l;subst p hw q;obtain⟨J,F,Z,A,y,x⟩:=j it (by simp);have W:=Walks.range (prog:=X.Ω) (w:=X.w) (I.ok.hd m) it lo 1 n;show W.item i s _ _ l st λv h' tk Y d U=>?_;obtain⟨t,rfl⟩:=Y;have I1:Φ X π σ H {s with heap:=h',toks:=tk}:=I.turned (λb o a e=>U b o (by simpa using a) e) J F A y x;show⟨_,rfl,JF (s:={s with heap:=h',toks:=tk}) (n:="range_iterator") d rfl rfl (by decide) ⟨.int (lo+i),H,I1,⟨t,?_⟩,⟨rfl,rfl⟩,d,λb a=>(j b a).1⟩⟩;rw[a2v]
 done:=by intro X p hw q m i π s σ H E I j st l;subst p hw q;obtain⟨J,F,Z,A,y,x⟩:=j it (by simp);show wpAny_pyNext_range_end (I.ok.hd m) st (by have:n<=i:=l;lia) λh' eb=>⟨rfl,I.turned (t':=s.toks) (λb o a e=>eb b o a e) J F A y x⟩
 self:=λ_ _ _ _ _ st h=>wpAny_pyIter_rangeiter st h
section
variable{X:Cx}{tg:au}
theorem C9{π:Q0b}{σ:St}{H:Hp}{s:ao}{R:It->Hp->Prop}{E:Q0c}{lo hi:Int}{t u v:Tok}{tk:Nat}(I:Φ X π σ H s)(l:-(2^62)<=lo)(h2:lo<2^62)(j:-(2^62)<=hi)(h:hi<2^62)
  (q:R (Itr lo (hi-lo).toNat) H):aw (ay X.Ω X.w) X.A (pyIter (.ref s.heap.objs.size)) (PIE X π σ tg R) E {s with heap:=s.heap.push {cls:=.type "range",data:=.fields #[.int lo t,.int hi u,.int 1 v]},toks:=tk}:=by
 show wpAny_pyIter_range (IsRange.new ..) (Cc l h2 j h) ?_;have a:Φ X π σ H {s with heap:=s.heap.push {cls:=.type "range",data:=.fields #[.int lo t,.int hi u,.int 1 v]},toks:=tk}:=I.kept λb o e=>ck _ e;show⟨(s.heap.push {cls:=.type "range",data:=.fields #[.int lo t,.int hi u,.int 1 v]}).objs.size,[(s.heap.push {cls:=.type "range",data:=.fields #[.int lo t,.int hi u,.int 1 v]}).objs.size],_,_,H,rfl,
  a.kept (t':=tk) λb o e=>ck _ e,F4 _ lo (hi-lo).toNat,?_,λb d=>?_,q⟩
 .have m:lo+((0:Nat):Int)*1=lo:=by simp
  have e2:(((hi-lo).toNat:Nat):Int)-((0:Nat):Int)=qq lo hi 1:=by rw[Cg];split<;>lia
  show a0Z _ _ (lo+((0:Nat):Int)*1) ((((hi-lo).toNat:Nat):Int)-((0:Nat):Int)) 1;rw[m,e2];show dh _ rfl
 .have e:b=(s.heap.push {cls:=.type "range",data:=.fields #[.int lo t,.int hi u,.int 1 v]}).objs.size:=by simpa using d
  subst e;show a.FY (bh _) (a.hok.fresh (bh _))
def Ui(d:TA):TI:=λσ H R=>d σ H λa h=>∃j:Int,a=[.int j] /\ -(2^62)<=j/\j<2^62/\R (Itr 0 j.toNat) h
def Uh(d:TA):TI:=λσ H R=>d σ H λa h=>∃i j:Int,a=[.int i,.int j]/\(-(2^62)<=i/\i<2^62 /\ -(2^62)<=j/\j<2^62)/\R (Itr i (j-i).toNat) h
theorem LP{a:au}{l:TA}{p d:bc}(v:Gl X "range")(o:X.mg "range"=af)(x:PA X [a] l)(n:av [a] X.env=[(ag,eval a X.env)]<|>0):PI X tg (.Call (.Name "range" p) [a] [] d) (Ui l):=by
 intro π s σ H R I h;show Call_ (pB I v o Ds (uf (dF (x d π s σ H _ I h) λA F ⟨z,J,y,m,q1⟩=>?_) n rfl));obtain⟨j,e,q1,q2,q⟩:=q1;subst e
 cases m with
 |cons r rr =>
  cases rr;obtain⟨t,rfl⟩:=r;show a0w (C9 y ∅ ∅ q1 q2 (by simpa using q))
theorem LQ(x:Gl X "range")(v:X.mg "range"=af)(y:PA X [a,b] ta)(o:av [a,b] X.env=[(ag,eval a X.env),(ag,eval b X.env)]<|>0)(d:av [b] X.env=[(ag,eval b X.env)]<|>0):
  PI X tg (.Call (.Name "range" p) [a,b] [] ν) (Uh ta):=by
 intro π s σ H R I h;show Call_ (pB I x v Ds (uf (dF (y ν π s σ H _ I h) λF J ⟨A,K,z,l,q1⟩=>?_) (by rw[o,d]) (by rw[d];rfl)));obtain⟨i,j,e,⟨q1,q2,n,m⟩,q⟩:=q1;subst e
 cases l with
 |cons r rr =>
  cases rr with
  |cons r' rr =>
   cases rr;obtain⟨t,rfl⟩:=r;obtain⟨t',rfl⟩:=r';show call_range_2 (C9 z q1 q2 n m q)
def Nr(wi:TI)(g:TG)(j:TS):TS:=λD σ H=>wi σ H λJ n=>∃W:Nat->Nat->St->Hp->Prop,(∃m,W 0 m σ n) /\∀i m σ H,W i m σ H ->
 (J.stop i H/\D.nx σ H)\/(J.go i H /\∃N:St->Hp->Prop,(∀a H',N a H' ->∃h,h<m/\W (i+1) h a H') /\∀x H',J.yld i H x H'->g x σ H' λd l=>j {D with nx:=N,ct:=N,bk:=D.nx} d l)
def vO(a:List ah)(h:bb):List (ah×az):=a.filterMap λb=>(h.get? b).map λo=>(b,o)
def lT(a:b∈fp)(e:h.get? b=aa o):(b,o)∈vO fp h:=uq.mpr ⟨b,a,by rw[e];rfl⟩
theorem LR(a:p∈vO fp h):p.1∈fp/\h.get? p.1=aa p.2:=by
 obtain⟨b,d,e⟩:=uq.mp a
 cases q:h.get? b with
 |none=>rw[q] at e;cases e
 |some o =>
  rw[q] at e;have j:(b,o)=p:=ft e;subst j;show⟨d,q⟩
def Φ.pinned(I:Φ X π σ H s)(l:∀b∈fp,pC X π H b)(ho:∀b∈fp,∃o,s.heap.get? b=aa o /\∀v,o.data≠.cell v):Φ X (π++vO fp s.heap) σ H s :=
 I.JD λp j=>(di.mp j).elim (λz=>I.pin p (gu _ z)) λz=>by obtain⟨a,e⟩:=LR z;obtain⟨q,n,m,_⟩:=l p.1 a;obtain⟨o,h,d⟩:=ho p.1 a;rw[e] at h;cases h;show⟨e,q,n,m,d⟩
def Φ.qE(I:Φ X (π++pl) σ H s):Φ X π σ H s:=I.JD λp a=>I.pin p (gu _ (iq _ a))
theorem Yy(U:qk (ay X.Ω X.w) X.A X.env X.xe)(hc:X.calm=ae)(hi:PI X tg iter wi)(hg:PG X tg g)(q:EX X body tb)
  (hs:Zn X iter<|>4):PS X (.For tg iter body [] ν) (Nr wi g tb):=by
 intro π s σ H D I h;show wpAny_For (dF (hi π s σ H _ I h) λv s1 h1=>dF h1 λitv s2 h2=>?_) hs;obtain⟨it,Z,tn,J,H2,e,I2,T,st2,f2,W,⟨m0,w0⟩,turn⟩:=h2;subst e
 -- what stays ae of the iterator's objects through the loop
 have p:∀{H':Hp},(∀b∈Z,H' b=af) ->∀b∈Z,pC X π H' b:=λhn b q=>⟨hn b q,(f2 b q).2⟩;show codeAny_forLoop_any (λn s'=>∃i l H',Φ X π l H' s'/\tn i s'.heap/\(∀b∈Z,H' b=af)/\W i n l H') ?_ m0 ⟨0,σ,H2,I2,st2,λb q=>(f2 b q).1,w0⟩;rintro n s3 ⟨i,j,H3,I3,L,Y,w3⟩;rcases turn i n j H3 w3 with⟨stop,qn⟩|⟨go,N,hN,step⟩
 .refine n_ U (dF (T.done X rfl rfl rfl hc i π s3 j H3 X.xe I3 (p Y) L stop) λr s4 ⟨hr,I4⟩=>?_);subst hr;show xb ⟨j,H3,I4,qn⟩
 .refine n_ U (dF (T.item X rfl rfl rfl hc i π s3 j H3 X.xe I3 (p Y) L go) λr s4 ⟨u,hr,h4⟩=>?_);subst hr;show n_ U (dF h4 λ_ s5 ⟨x,H5,I5,r5,y5,K,fr5⟩=>?_);have I5':=I5.pinned (p fr5) (T.obj _ _ K);show n_ U (dF (hg _ s5 j H5 x u _ I5' r5 (step x H5 y5)) λ_ s6 ⟨σ6,H6,I6,q6⟩=>?_);show n_ U (dF (q _ s6 σ6 H6 _ I6 q6) λf s7 F=>?_);have again:∀{a:St} {z:Hp},Φ X (π++vO Z s5.heap) a z s7->N a z ->∃m,m<n /\∃i l H',Φ X π l H' s7/\tn i s7.heap/\(∀b∈Z,H' b=af)/\W i m l H':=λ{a z} y O=>by obtain⟨m',hm,w7⟩:=hN a z O;show⟨m',hm,i+1,a,z,y.qE,T.keep _ _ _ K λb q o e=>(y.pin (b,o) (gu _ (gu _ (lT q e)))).1,λb q=>?_,w7⟩;obtain⟨o,e,d⟩:=T.obj _ _ K b q;show(y.pin (b,o) (gu _ (gu _ (lT q e)))).2.1
  cases f with
  |next=>obtain⟨a,z,y,O⟩:=F;show again y O
  |cont=>obtain⟨a,z,y,O⟩:=F;show again y O
  |brk=>obtain⟨a,z,y,F⟩:=F;show⟨a,z,y.qE,F⟩
  |ret v=>obtain⟨x7,a,z,y,r7,F⟩:=F;show⟨x7,a,z,y.qE,r7,F⟩
end
abbrev R2:=V->V->Hp->VK->Prop
def iC(X:Cx)(f:ai->ai->Sem ai)(r:R2):Prop :=
 ∀(π:Q0b) (s:ao) (σ:St) (H:Hp) (x y:V) (v u:ai) (Q:VK),Φ X π σ H s->Ψ x v->Ψ y u->r x y H Q ->
  aw (ay X.Ω X.w) X.A (f v u) (EP X π σ Q) X.xe s
def UnR(X:Cx)(f:ai->Sem ai)(r:V->Hp->VK->Prop):Prop :=
 ∀(π:Q0b) (s:ao) (σ:St) (H:Hp) (x:V) (v:ai) (Q:VK),Φ X π σ H s->Ψ x v->r x H Q ->
  aw (ay X.Ω X.w) X.A (f v) (EP X π σ Q) X.xe s
def fV(X:Cx)(f:ai)(r:List V->Hp->VK->Prop):Prop :=
 ∀(π:Q0b) (s:ao) (σ:St) (H:Hp) (xs:List V) (a:Q0f) (Q:VK),Φ X π σ H s->θ xs a->r xs H Q ->
  aw (ay X.Ω X.w) X.A (call f a) (EP X π σ Q) X.xe s
def Nf(X:Cx)(r:V->Hp->(Bool->Hp->Prop)->Prop):Prop :=
 ∀(π:Q0b) (s:ao) (σ:St) (H:Hp) (x:V) (v:ai) (Q:Bool->Hp->Prop),Φ X π σ H s->Ψ x v->r x H Q ->
  aw (ay X.Ω X.w) X.A (truthy v) (TP X π σ Q) X.xe s
def pj(r:R2)(d a:TE):TE:=λσ H Q=>d σ H λx j=>a σ j λy h=>r x y h Q
def Ff(r:V->Hp->VK->Prop)(a:TE):TE:=λσ H Q=>a σ H λx d=>r x d Q
def rI(C:Int->Int->Prop)(g:Int->Int->V):R2:=λx y H Q=>∃i j,x=.int i/\y=.int j/\C i j/\Q (g i j) H
def LS(g:Int->Int->V):R2:=λx y H Q=>∃i j,x=.int i/\y=.int j/\Q (g i j) H
def rU(g:Int->V):V->Hp->VK->Prop:=λx H Q=>∃i,x=.int i/\Q (g i) H
section
variable{X:Cx}{a b c:au}{ta tb tc:TE}{ν:bc}
theorem wu(L:PE X a ta)(K:PE X b tb){π:Q0b}{s:ao}{σ:St}{H:Hp}{R:V->V->Hp->Prop}(I:Φ X π σ H s)
  (h:ta σ H λx p=>tb σ p λy d=>R x y d) {Q:Q0c} {f:ai->ai->Sem ai}
  (J:∀v u m x y d,Φ X π σ d m->Ψ x v->Ψ y u->R x y d->aw (ay X.Ω X.w) X.A (f v u) Q X.xe m):
  aw (ay X.Ω X.w) X.A (eval a X.env) (λv l=>aw (ay X.Ω X.w) X.A (eval b X.env) (λu j=>aw (ay X.Ω X.w) X.A (f v u) Q X.xe j) X.xe l) X.xe s:=by
 show dF (L π s σ H _ I h) λv q o=>?_;obtain⟨x,p,U,F,q1⟩:=o;show dF (K π q σ p _ U q1) λu m n=>?_;obtain⟨y,d,O,z,q2⟩:=n;show J v u m x y d O F z q2
def YI{op:Operator}{r:R2}(ho:iC X (binaryOp op) r)(n:PE X a ta)(m:PE X b tb):PE X (.BinOp a op b ν) (pj r ta tb):=by intro π s σ H Q I h;show wpAny_BinOp (wu n m I h λv u d x y p o l j q=>ho π d σ p x y v u Q o l j q)
def Ug(ho:UnR X (unaryOp op) r)(l:PE X a ta):PE X (.UnaryOp op a ν) (Ff r ta):=by intro π s σ H Q I h;show UnaryOp_ (dF (l π s σ H _ I h) λv d ⟨x,n,m,j,q1⟩=>ho π d σ n x v Q m j q1)
theorem VF{f:ai->ai->Sem ai}{C:Int->Int->Prop}{g:Int->Int->Int}
  (rule:∀(i j:Int) (t u:Tok) (s:ao) (Q:Q0c) (E:Q0c),C i j->Q (.int (g i j) s.toks) {s with toks:=s.toks+1}->aw (ay X.Ω X.w) X.A (f (.int i t) (.int j u)) Q E s):
  iC X f (rI C λi j=>.int (g i j)):=by
 intro π s σ H x y v u Q I l d h;obtain⟨i,j,rfl,rfl,m,q⟩:=h;obtain⟨t,rfl⟩:=l;obtain⟨t',rfl⟩:=d;show rule i j t t' s _ _ m ⟨.int (g i j),H,I.tok _,⟨_,rfl⟩,q⟩
theorem Ba{f:ai->ai->Sem ai}{g:Int->Int->Int}
  (rule:∀(i j:Int) (t u:Tok) (s:ao) (Q:Q0c) (E:Q0c),Q (.int (g i j) s.toks) {s with toks:=s.toks+1}->aw (ay X.Ω X.w) X.A (f (.int i t) (.int j u)) Q E s):
  iC X f (LS λi j=>.int (g i j)):=by
 intro π s σ H x y v u Q I l d h;obtain⟨i,j,rfl,rfl,q⟩:=h;obtain⟨t,rfl⟩:=l;obtain⟨t',rfl⟩:=d;show rule i j t t' s _ _ ⟨.int (g i j),H,I.tok _,⟨_,rfl⟩,q⟩
theorem VG{f:ai->ai->Sem ai}{g:Int->Int->Bool}
  (rule:∀(i j:Int) (t u:Tok) (s:ao) (Q:Q0c) (E:Q0c),Q (.bool (g i j)) s->aw (ay X.Ω X.w) X.A (f (.int i t) (.int j u)) Q E s):
  iC X f (LS λi j=>.bl (g i j)):=by
 intro π s σ H x y v u Q I l d h;obtain⟨i,j,rfl,rfl,q⟩:=h;obtain⟨t,rfl⟩:=l;obtain⟨t',rfl⟩:=d;show rule i j t t' s _ _ ⟨.bl (g i j),H,I,rfl,q⟩
def A_(i j:Int):Prop:=0<j/\j<1073741824
def wt(i j:Int):Prop:=0<=j/\j<=1000000/\i.natAbs<2^64
def VH(i j:Int):Prop:=(-(2^64)<i/\i<2^64)\/(-(2^64)<j/\j<2^64)
def VH.ok{i j:Int}(h:VH i j):uc i j:=by
 rcases h with⟨d,h2⟩|⟨d,h2⟩
 .exact .of_left (a0r d h2)
 .exact .of_right (a0r d h2)
def F5(k:Nat):(0:Int)<=2^k:=by rw[two_pow_cast];show Int.natCast_nonneg _
def Yg:iC X (binaryOp .Add) (LS λi j=>.int (i+j)):=Ba λ_ _ _ _ _ _ _ q=>add_int q
def Yf:iC X (binaryOp .Sub) (LS λi j=>.int (i-j)):=Ba λ_ _ _ _ _ _ _ q=>sub_int q
def VI:iC X (binaryOp .FloorDiv) (rI A_ λi j=>.int (i/j)):=VF λi j _ _ _ _ _ d q=>by have h:(0:Int)<j:=d.1;have h2:j<1073741824:=d.2;show floordiv_int ∅ (by rw[a2w i ∅];show q) (.inl (PyProof.noPylong_small ∅))
def Ye:iC X (binaryOp .Mod) (rI (λ_ j=>0<j) λi j=>.int (i%j)):=VF λi j _ _ _ _ _ d q=>by have h:(0:Int)<j:=d;show mod_int' ∅ (by rw[Int.fmod_eq_emod_of_nonneg i ∅];show q)
def Yd:iC X (binaryOp .Pow) (rI wt λi j=>.int (i^j.toNat)):=VF λ_ _ _ _ _ _ _ d q=>pow_int_small d.1 d.2.1 d.2.2 q
def Yc:iC X (binaryOp .LShift) (rI wt λi j=>.int (i*2^j.toNat)):=VF λ_ _ _ _ _ _ _ d q=>lshift_int_small d.1 d.2.1 d.2.2 q
def Yb:iC X (binaryOp .RShift) (rI (λ_ j=>0<=j) λi j=>.int (i/2^j.toNat)):=VF λi j _ _ _ _ _ d q =>
 rshift_int d (by rw[a2w i (F5 _)];show q)
theorem unI{f:ai->Sem ai}{g:Int->Int}
  (rule:∀(i:Int) (t:Tok) (s:ao) (Q:Q0c) (E:Q0c),Q (.int (g i) s.toks) {s with toks:=s.toks+1}->aw (ay X.Ω X.w) X.A (f (.int i t)) Q E s):
  UnR X f (rU λi=>.int (g i)):=by
 intro π s σ H x v Q I d h;obtain⟨i,rfl,q⟩:=h;obtain⟨t,rfl⟩:=d;show rule i t s _ _ ⟨.int (g i),H,I.tok _,⟨_,rfl⟩,q⟩
def Ya:UnR X (unaryOp .USub) (rU λi=>.int (-i)):=unI λ_ _ _ _ _ q=>neg_int q
end
noncomputable def wg:V->V->Bool
 |.non,.non=>ae | .non,.int _=>ae | .int _,.non=>ae | .non,.bl _=>ae | .bl _,.non=>ae | .non,.str _=>ae | .str _,.non=>ae
 |.int _,.int _=>ae | .bl _,.bl _=>ae | .str _,.str _=>ae | .FW _,.FW _=>ae
 |.int _,.str _=>ae | .str _,.int _=>ae | .bl _,.str _=>ae | .str _,.bl _=>ae
 |_,_=>ag
def rq:R2:=λx y H Q=>wg x y=ae/\Q (.bl (Zv (x=y))) H
def rp:R2:=λx y H Q=>wg x y=ae/\Q (.bl (!Zv (x=y))) H
def A2:Zv (V.int i=V.int j)=(i == j):=by rw[jh];simp
def F6:Zv (V.bl i=V.bl j)=(i == j):=by rw[jh];simp
def A3:Zv (V.str i=V.str j)=(i == j):=by rw[jh];simp
def JG:Zv (V.FW i=V.FW j)=(i.toList == j.toList):=by rw[jh];cases i;cases j;simp
section
variable{X:Cx}{a b c:au}{ta tb tc:TE}{ν:bc}
def cJ(I:Φ X π σ H s)(q:Q (.bl k) H)(e:k=k'):EP X π σ Q (.bool k') s:=by subst e;show⟨.bl k,H,I,rfl,q⟩
theorem QH:iC X (compareOp .Eq) rq:=by
 intro π s σ H x y v u Q I m d h;obtain⟨l,q⟩:=h
 cases x with
 |non =>
  cases m
  cases y with
  |non=>cases d;show a3w (cJ I q (by simp))
  |bl j=>cases d;show a3y (cJ I q (by simp))
  |int j=>obtain⟨t',rfl⟩:=d;show a3x (cJ I q (by simp))
  |str j=>obtain⟨t',rfl⟩:=d;show a3v (cJ I q (by simp))
  |_=>show Zw (show ag=ae from l) b_
 |bl i =>
  cases m
  cases y with
  |non=>cases d;show a3A (cJ I q (by simp))
  |bl j=>cases d;show eq_bool (cJ I q F6)
  |str j=>obtain⟨t',rfl⟩:=d;show a3I (cJ I q (by simp))
  |_=>show Zw (show ag=ae from l) b_
 |int i =>
  obtain⟨t,rfl⟩:=m
  cases y with
  |non=>cases d;show a3z (cJ I q (by simp))
  |int j=>obtain⟨t',rfl⟩:=d;show eq_int (cJ I q A2)
  |str j=>obtain⟨t',rfl⟩:=d;show a3H (cJ I q (by simp))
  |_=>show Zw (show ag=ae from l) b_
 |str i =>
  obtain⟨t,rfl⟩:=m
  cases y with
  |non=>cases d;show a3u (cJ I q (by simp))
  |bl j=>cases d;show a3G (cJ I q (by simp))
  |int j=>obtain⟨t',rfl⟩:=d;show a3F (cJ I q (by simp))
  |str j=>obtain⟨t',rfl⟩:=d;show eq_str (cJ I q A3)
  |_=>show Zw (show ag=ae from l) b_
 |FW i =>
  obtain⟨t,rfl⟩:=m
  cases y with
  |FW j=>obtain⟨t',rfl⟩:=d;show PySem.W.eq_bytes (cJ I q JG)
  |_=>show Zw (show ag=ae from l) b_
 |_=>cases y<;>show Zw (show ag=ae from l) b_
theorem QI:iC X (compareOp .NotEq) rp:=by
 intro π s σ H x y v u Q I m d h;obtain⟨l,q⟩:=h
 cases x with
 |non =>
  cases m
  cases y with
  |non=>cases d;show a3p (cJ I q (by simp))
  |bl j=>cases d;show a3r (cJ I q (by simp))
  |int j=>obtain⟨t',rfl⟩:=d;show a3q (cJ I q (by simp))
  |str j=>obtain⟨t',rfl⟩:=d;show a3o (cJ I q (by simp))
  |_=>show Zw (show ag=ae from l) b_
 |bl i =>
  cases m
  cases y with
  |non=>cases d;show a3t (cJ I q (by simp))
  |bl j=>cases d;show ne_bool (cJ I q (congrArg not F6))
  |str j=>obtain⟨t',rfl⟩:=d;show a3E (cJ I q (by simp))
  |_=>show Zw (show ag=ae from l) b_
 |int i =>
  obtain⟨t,rfl⟩:=m
  cases y with
  |non=>cases d;show a3s (cJ I q (by simp))
  |int j=>obtain⟨t',rfl⟩:=d;show ne_int (cJ I q (congrArg not A2))
  |str j=>obtain⟨t',rfl⟩:=d;show a3D (cJ I q (by simp))
  |_=>show Zw (show ag=ae from l) b_
 |str i =>
  obtain⟨t,rfl⟩:=m
  cases y with
  |non=>cases d;show a3n (cJ I q (by simp))
  |bl j=>cases d;show a3C (cJ I q (by simp))
  |int j=>obtain⟨t',rfl⟩:=d;show a3B (cJ I q (by simp))
  |str j=>obtain⟨t',rfl⟩:=d;show ne_str (cJ I q (congrArg not A3))
  |_=>show Zw (show ag=ae from l) b_
 |FW i =>
  obtain⟨t,rfl⟩:=m
  cases y with
  |FW j=>obtain⟨t',rfl⟩:=d;show PySem.W.ne_bytes (cJ I q (congrArg not JG))
  |_=>show Zw (show ag=ae from l) b_
 |_=>cases y<;>show Zw (show ag=ae from l) b_
def sZ:iC X (compareOp .Lt) (LS λi j=>.bl (Zv (i<j))):=VG λ_ _ _ _ _ _ _ q=>lt_int q
def JH:iC X (compareOp .LtE) (LS λi j=>.bl (Zv (i<=j))):=VG λ_ _ _ _ _ _ _ q=>le_int q
def YJ:iC X (compareOp .Gt) (LS λi j=>.bl (Zv (j<i))):=VG λ_ _ _ _ _ _ _ q=>gt_int q
def YK:iC X (compareOp .GtE) (LS λi j=>.bl (Zv (j<=i))):=VG λ_ _ _ _ _ _ _ q=>ge_int q
def iC.or(h:iC X f r)(h':iC X f r'):iC X f (λx y H Q=>r x y H Q\/r' x y H Q):=by
 intro π s σ H x y v u Q I j d q;rcases q with q|q
 .exact h π s σ H x y v u Q I j d q
 .exact h' π s σ H x y v u Q I j d q
def iK(b:au)(h:op≠.In<|>1)(h2:op≠.NotIn<|>1):behindInMarks op b=ag:=by
 have d:(op == CmpOp.In)=ag:=by cases op<;>first|rfl|show Zw rfl h
 have e2:(op == CmpOp.NotIn)=ag:=by cases op<;>first|rfl|show Zw rfl h2
 cases b<;>simp[behindInMarks,d,e2]
def VJ{op:ue}{r:R2}(ho:iC X (compareOp op) r)(o:PE X a ta)(n:PE X b tb)(m:behindInMarks op b=ag):PE X (.Compare a [op] [b] ν) (pj r ta tb):=by intro π s σ H Q I h;show wpAny_Compare1 (wu o n I h λv u d x y z p l j q=>ho π d σ z x y v u Q p l j q) m
def DA(t:TE):TT:=λσ H Q=>t σ H λx H'=>∃k,x=.bl k/\Q k H'
def VL(ho:iC X (compareOp op) r)(A:PE X a ta)(q:PE X b tb)(p:behindInMarks op b=ag):PT X (.Compare a [op] [b] ν) (DA (pj r ta tb)):=by
 intro π s σ H Q I h;show Zm (dF (A π s σ H _ I h) λv j ⟨x,U,K,n,q1⟩=>dF (q π j σ U _ K q1) λu d ⟨y,O,J,m,q2⟩ =>
  dF (ho π d σ O x y v u _ J n m q2) λc s3 ⟨z,L,F,l,k,e,o⟩=>?_) p
 subst e;cases l;show jt ⟨L,F,o⟩
def F7(r j:R2)(ta tb tc:TE):TE:=λσ H Q=>ta σ H λx n=>tb σ n λy m=>r x y m λz d=>∃k,z=.bl k /\
 (if k=ae then tc σ d λh l=>j y h l Q else Q (.bl ag) d)
theorem QJ(ho:iC X (compareOp op) r)(j:iC X (compareOp op') r')(ha:PE X a ta)(Z:PE X b tb)(Y:PE X c tc)
  (U:lastMarks [op,op'] [b,c]=ag<|>5):PE X (.Compare a [op,op'] [b,c] ν) (F7 r r' ta tb tc):=by
 intro π s σ H Q I h;show Compare_chain (dF (ha π s σ H _ I h) λv F ⟨x,H1,I1,L,q1⟩=>chain_link (dF (Z π F σ H1 _ I1 q1) λu A ⟨y,H2,I2,l,q2⟩ =>
  dF (ho π A σ H2 x y v u _ I2 L l q2) λd s3 ⟨z,o,n,K,k,e,m⟩=>?_)) U
 subst e;cases K;show jt ?_
 cases k with
 |false=>show ite_ff ⟨.bl ag,o,n,rfl,m⟩
 |true=>show ite_tt (chain_last (dF (Y π s3 σ o _ n m) λq s4 ⟨p,H4,I4,J,O⟩=>j π s4 σ H4 y p u q Q I4 l J O))
theorem QK(ho:iC X (compareOp op) r)(j:iC X (compareOp op') r')(ha:PE X a ta)(hb:PE X b tb)(hc:PE X c tc)
  (hm:lastMarks [op,op'] [b,c]=ag<|>5):PT X (.Compare a [op,op'] [b,c] ν) (DA (F7 r r' ta tb tc)):=by
 intro π s σ H Q I h;show isTrue_chain (dF (ha π s σ H _ I h) λv F ⟨x,H1,I1,O,q1⟩=>test_link (dF (hb π F σ H1 _ I1 q1) λu A ⟨y,H2,I2,l,q2⟩ =>
  dF (ho π A σ H2 x y v u _ I2 O l q2) λd s3 ⟨z,o,n,L,k,e,m⟩=>?_)) hm
 subst e;cases L;show jt ?_
 cases k with
 |false =>
  obtain⟨k',e',Z⟩:=m;cases e';show ite_ff ⟨o,n,Z⟩
 |true =>
  show ite_tt (test_last (dF (hc π s3 σ o _ n m) λq s4 ⟨p,H4,I4,K,Y⟩=>dF (j π s4 σ H4 y p u q _ I4 l K Y) λd' s5 ⟨z2,H5,I5,J,k2,e2,U⟩=>?_));subst e2;cases J;show jt ⟨H5,I5,U⟩
def Az(K:ar)(x:V)(H:Hp)(k:Bool):Prop :=
 match x with
 |.non=>k=ag
 |.bl b=>k=b
 |.int i=>k=(i !=0)
 |.str y=>y.length<=bf/\k=((y.length:Int) !=0)
 |.FW y=>y.size<=bf/\k=((y.size:Int) !=0)
 |.ref p=>(∃xs,fU K H p xs/\k=!xs.isEmpty)\/(∃xs,fI K H p xs/\k=!xs.isEmpty) \/∃χ,H p=aa (.dK χ)/\k=!χ.isEmpty
 |_=>False
def F8{d:Type}{χ:List (d×V)}{h:List (d×ai)}(r:KV χ h):(!h.isEmpty)=!χ.isEmpty:=by cases r<;>rfl
def lU{xs:List V}{d:Q0f}(r:θ xs d):(!d.toArray.isEmpty)=!xs.isEmpty:=by cases r<;>simp
def vP:(bf:Nat)<2^63:=by rw[ie];decide
theorem X_:Nf X (λx H Q=>∃k,Az X.K x H k/\Q k H):=by
 intro π s σ H x v Q I j h;obtain⟨k,e,q⟩:=h;have O:=vP;have L:bf=16777216:=ie
 cases x with
 |non =>
  cases j;have d:k=ag:=e;subst d;show truthy_none ⟨H,I,q⟩
 |bl b =>
  cases j;have d:k=b:=e;subst d;show jt ⟨H,I,q⟩
 |int i =>
  obtain⟨t,rfl⟩:=j;have d:k=(i !=0):=e;subst d;show PySem.P.truthy_int ⟨H,I,q⟩
 |str y =>
  obtain⟨t,rfl⟩:=j;obtain⟨F,d⟩:y.length<=bf/\k=((y.length:Int) !=0):=e;subst d;show PySem.P.truthy_str ∅ ⟨H,I.tok _,q⟩
 |FW y =>
  obtain⟨t,rfl⟩:=j;obtain⟨F,d⟩:y.size<=bf/\k=((y.size:Int) !=0):=e;subst d;show PySem.W.truthy_bytes ∅ ⟨H,I.tok _,q⟩
 |ref p =>
  cases j;have d:(∃xs,fU X.K H p xs/\k=!xs.isEmpty)\/(∃xs,fI X.K H p xs/\k=!xs.isEmpty) \/∃χ,H p=aa (.dK χ)/\k=!χ.isEmpty:=e;rcases d with⟨xs,l,d⟩|⟨xs,l,d⟩|⟨χ,l,d⟩
  .subst d;obtain⟨A,r,o,z⟩:=I.list l;have hlen:=r.length;show Zh o.isList (by simp only[cu];lia) ⟨H,I.tok _,by rw[lU r];show q⟩
  .subst d;obtain⟨A,r,o,z⟩:=I.tuple l;have hlen:=r.length;show a1v o (by simp only[cu];lia) ⟨H,I.tok _,by rw[lU r];show q⟩
  .subst d;obtain⟨z,J,n,r,m⟩:χ.length<=bf/\(p == sysModules)=ag /\∃n,KV χ n/\s.heap.DictOf (bE X.Ω X.w) p n:=I.hok p _ l;have hlen:χ.length=n.length:=ql r;show wpAny_truthy_dict J m ∅ ⟨H,I.tok _,by rw[F8 r];show q⟩
 |_=>show(show False from e).elim
theorem QL(m:PE X a ta)(l:∀whole,isTrue a X.env whole=(do let v <- whole;standAt a.pos;holding [v] (truthy v))):
  PT X a (λσ H Q=>ta σ H λx H'=>∃k,Az X.K x H' k/\Q k H'):=by
 intro π s σ H Q I h;show isTrue_plain (dF (m π s σ H _ I h) λv d ⟨x,o,n,j,q1⟩=>X_ π d σ o x v Q n j q1) (l _)
def F9:iC X (binaryOp .Add) (λx y H Q=>∃i j,x=.str i/\y=.str j/\i.length+j.length<=bf/\Q (.str (i++j)) H):=by intro π s σ H x y v u Q I l d h;obtain⟨i,j,rfl,rfl,m,q⟩:=h;obtain⟨t,rfl⟩:=l;obtain⟨t',rfl⟩:=d;show add_str (λt' tk=>⟨.str (i++j),H,I.tok _,⟨_,rfl⟩,q⟩) m
theorem vals1(r:θ [x] us):∃u,us=[u]/\Ψ x u:=by
 cases r with
 |cons r1 r2=>cases r2;show⟨_,rfl,r1⟩
theorem vals2(r:θ [x,y] us):∃u d,us=[u,d]/\Ψ x u/\Ψ y d:=by
 cases r with
 |cons r1 r2 =>
  cases r2 with
  |cons r3 r4=>cases r4;show⟨_,_,rfl,r1,r3⟩
def LU:fV X (.type "int") (λxs H Q=>(∃i,xs=[.int i]/\Q (.int i) H) \/∃k,xs=[.bl k]/\Q (.int (if k then 1 else 0)) H):=by
 intro π s σ H xs j Q I r h;rcases h with⟨i,rfl,q⟩|⟨k,rfl,q⟩
 .obtain ⟨u,rfl,t,rfl⟩:=vals1 r;show call_int_int ⟨.int i,H,I,⟨_,rfl⟩,q⟩
 .obtain ⟨u,rfl,d⟩:=vals1 r;cases d;show call_int_bool ⟨.int (if k then 1 else 0),H,I.tok _,⟨_,rfl⟩,q⟩
end
structure we (h:bb) (x dx C:ah) (mA:Q0d):Prop where
 obj:h.get? x=aa (instObj C dx)
 ns:h.Ns1 dx mA
 ne:dx≠x
def LV{h:bb}{p:ah}{l:Q0d}(n:h.Ns1 p l):∃j,h.get? p=aa j /\∀name,lookIn name j=aa (l name):=by
 obtain⟨o,m,J,ho,F,A,_,x⟩:=n;show⟨o,ho,λname=>?_⟩;have e:=x name;unfold nsFind findBy at e;rw[<- Array.find?_toList] at e;unfold lookIn;rw[F];dsimp only;split
 .rename_i y q;rw[q] at e;show congrArg aa e
 .rename_i q;rw[q] at e;have a:m.toList.any (·.refKey)=ag:=by rw[a2t];intro y v;obtain⟨z,t,d⟩:=A y (Array.mem_toList_iff.mp v);simp[a3J,d]
  have I:¬ m.toList.any (·.refKey)=ae:=by rw[a];show b_
  rw[Zz I];show congrArg aa e
def we.look(I:we h x dx C mA):∃a,PySem.W.InstAt h x (instObj C dx) C (aa a) /\∀name,lookIn name a=aa (mA name) :=
 let ⟨a,ho,hl⟩:=LV I.ns
 ⟨a,⟨I.obj,rfl,rfl,ho⟩,hl⟩
theorem mQ.some_of(r:mQ (aa v) o):∃u,o=aa u/\Ψ v u:=by
 cases o with
 |none=>show(show False from r).elim
 |some u=>show⟨u,rfl,r⟩
section
variable{P:bg}{w:ba}{H H':Hp}{h h':bb}{a C dx:ah}{fs fs':List (ak×V)}
def VM(l:n9 P w H h)(e:H a=aa (.ins C dx fs)):∃j,we h a dx C j/\(∀f,mQ (fs.lookup f) (j f))/\a0B j (fs.map (·.1))/\fs.length<=1000/\H dx=aa (.own a):=by obtain⟨d,z,o,m,j,n,r,q⟩:=(show dR P w H h a (.ins C dx fs) from l a _ e);show⟨j,⟨m,n,o⟩,r,q,z,d⟩
end
structure Cls (K:ar) (C:ah):Prop where
 pg:a0E K C Str.empty=ae
 hd:PySem.W.hasDictIn K C=ae
 po:PySem.W.plainOver K C=ae
 sa:a0I K (.ref C) "__setattr__"=aa (aa (.builtin "object.__setattr__"))
def Cls.get{K:ar}{C:ah}(c:Cls K C)(f:ak):a0E K C f=ae:=c.pg
section
variable{X:Cx}{π:Q0b}{σ:St}{H:Hp}{s:ao}{A:br}{E:Q0c}{Q:Q0c}{c:ai}{b:Bool}
inductive qF (K:ar) (H:Hp):V->ai->Prop where
 |non:qF K H .non (.type "NoneType")
 |bl (x:Bool):qF K H (.bl x) (.type "bool")
 |int (i:Int):qF K H (.int i) (.type "int")
 |str (x:ak):qF K H (.str x) (.type "str")
 |flt (x:UInt64):qF K H (.flt x) (.type "float")
 |lst {a:ah} {xs:List V} (e:H a=aa (.lst xs)):qF K H (.ref a) (.type "list")
 |xC {a:ah} {o:az} {xs:List V} (e:H a=aa (.xC o (.lst xs))):qF K H (.ref a) (.type "list")
 |tup {a:ah} {xs:List V} (e:H a=aa (.tup xs)):qF K H (.ref a) (.type "tuple")
 |dK {a:ah} {χ:List (Key×V)} (e:H a=aa (.dK χ)):qF K H (.ref a) (.type "dict")
 |dT {a:ah} {χ:List (List Key×V)} (e:H a=aa (.dT χ)):qF K H (.ref a) (.type "dict")
 |ins {a C dx:ah} {fs:List (ak×V)} (e:H a=aa (.ins C dx fs)) (cl:Cls K C) (ha:a0I K (.ref C) "__class__"=aa (aa (.builtin "object.__class__")))
   (hn:PySem.W.specialIn K (.builtin "object.__class__") "__get__"=aa (aa (.builtin "getset_descriptor.__get__"))) (htk:PySem.W.takesIn K (.builtin "object.__class__")=aa ae)
   (hm:PySem.W.mroIn K C (.type "object")=aa ae):qF K H (.ref a) (.ref C)
theorem LW(I:Φ X π σ H s)(d:Ψ x u)(ty:qF X.K H x t)(e:kitOne X.K t c=aa b)(h:∀tk,Q (.bool b) {s with toks:=tk}):
  aw (ay X.Ω X.w) A (call (.builtin "isinstance") [u,c]) Q E s:=by
 cases ty with
 |non=>cases (show u=xk from d);show ji PySem.W.kitx_none I.xE iw e (λz=>nomatch z) h
 |bl y=>cases (show u=tw y from d);show ji PySem.W.kitx_bool I.xE iw e (λz=>nomatch z) h
 |int i=>obtain⟨t,q⟩:=(show ∃t,u=mf i t from d);cases q;show ji PySem.W.kitx_int I.xE iw e (λz=>nomatch z) h
 |str y=>obtain⟨t,q⟩:=(show ∃t,u=xj y t from d);cases q;show ji PySem.W.kitx_str I.xE iw e (λz=>nomatch z) h
 |flt y=>obtain⟨t,q⟩:=(show ∃t,u=a0O y t from d);cases q;show ji PySem.W.kitx_float I.xE iw e (λz=>nomatch z) h
 | @lst a xs ea =>
  cases (show u=fm a from d);obtain⟨_,_,n,_,j⟩:=(show dR X.Ω X.w H s.heap a (.lst xs) from I.hok a _ ea);show ji Ct I.xE ⟨_,j,rfl⟩ e (λz=>nomatch z) h
 | @xC a ob xs ea =>
  cases (show u=fm a from d);obtain⟨_,_,_,n,_,j⟩:=(show dR X.Ω X.w H s.heap a (.xC ob (.lst xs)) from I.hok a _ ea);show ji Ct I.xE ⟨_,j,rfl⟩ e (λz=>nomatch z) h
 | @tup a xs ea =>
  cases (show u=fm a from d);obtain⟨_,_,_,p,_⟩:=(show dR X.Ω X.w H s.heap a (.tup xs) from I.hok a _ ea);obtain⟨o,j,h2,_⟩:=p;show ji a0G I.xE ⟨o,j,h2⟩ e (λz=>nomatch z) h
 | @dK a χ ea =>
  cases (show u=fm a from d);obtain⟨_,_,v,_,p⟩:=(show dR X.Ω X.w H s.heap a (.dK χ) from I.hok a _ ea);obtain⟨o,l,m,j,h2,_⟩:=p;show ji a0H I.xE ⟨o,j,h2.1⟩ e (λz=>nomatch z) h
 | @dT a χ ea =>
  cases (show u=fm a from d);obtain⟨_,_,xs,_,o,l,m,j,h2,_⟩:=(show dR X.Ω X.w H s.heap a (.dT χ) from I.hok a _ ea);show ji a0H I.xE ⟨o,j,h2.1⟩ e (λz=>nomatch z) h
 | @ins a C dx fs ea cl ha hn htk hm =>
  cases (show u=fm a from d);obtain⟨L,O,_⟩:=VM I.hok ea;obtain⟨F,J,_⟩:=O.look;show ji (PySem.W.kitx_own (cl.get _) cl.hd ha hn htk hm) I.xE J e (λz=>nomatch z) h
end
structure gA (k:Nat) (A:br):Prop where
 hd:A.handled=af
 dp:A.depth+3*k+5<recursionLimit
 un:A.units+16*k+200<bx
def gA.mono(r:gA k A)(h:j<=k):gA j A:=⟨r.hd,by have:=r.dp;lia,by have:=r.un;lia⟩
def gA.deeper(r:gA (k+1) A)(env:dq):gA k (A.deeper env) :=
 ⟨r.hd,by have:=r.dp;show A.depth+1+3*k+5<_;lia,by have:=r.un;show A.units+3+16*k+200<_;lia⟩
def gA.depth(r:gA k A):A.depth<recursionLimit:=by have:=r.dp;lia
def gA.units(r:gA k A):A.units+64<bx:=by have:=r.un;lia
def Ay:TA:=λ_ H Q=>Q [] H
def YL(a:TE)(tr:TA):TA:=λσ H Q=>a σ H λx h=>tr σ h λxs d=>Q (x::xs) d
section
variable{X:Cx}{e:au}{es:List au}{te:TE}{t:TA}{ν:bc}
def rT:PA X [] Ay:=λ_ _ _ _ H Q I h=>a1l ⟨[],H,I,.nil,h⟩
def j5(o:PE X e te)(n:PA X es t)(m:Zq X e es<|>0):PA X (e::es) (YL te t):=by intro ν π s σ H Q I h;rw[m];show aw _ _ (spliced ((ag,eval e X.env)::dj ν (av es X.env))) _ _ s;show Dg (dF (o π s σ H _ I h) λu d ⟨x,y,q,l,q1⟩=>?_);show dF (n ν π d σ y _ q q1) λz A a=>by obtain⟨xs,v,p,j,q2⟩:=a;show⟨x::xs,v,p,.cons l j,q2⟩
def Nd(t:TA):TE:=λσ H Q=>t σ H λxs a=>xs.length<=bf /\∀p,a p=af->Q (.ref p) (upd a p (.tup xs))
def Nc(t:TA):TE:=λσ H Q=>t σ H λxs a=>xs.length<=bf /\∀p,a p=af->Q (.ref p) (upd a p (.lst xs))
def QM{x1}(h:PA X es t):PE X (.Tuple es x1 ν) (Nd t):=by intro π s σ H Q I m;show wpAny_Tuple_spliced (dF (h ν π s σ H _ I m) λl a ⟨xs,j,d,r,z,q⟩=>⟨by rw[<- r.length];show z,?_⟩);have n:j a.heap.objs.size=af:=d.hok.fresh (bh _);show⟨.ref a.heap.objs.size,upd j a.heap.objs.size (.tup xs),d.laid (t':=a.toks) (λb u e=>ck _ e) (bh _) ?_,rfl,q _ n⟩;show⟨z,l,r,⟨_,dh _ rfl,rfl,_,rfl⟩,C7.new _ _⟩
def Xz(h:PA X es t):PE X (.List es ν) (Nc t):=by intro π s σ H Q I m;show wpAny_List_spliced (dF (h ν π s σ H _ I m) λl a ⟨xs,j,d,r,z,q⟩=>⟨by rw[<- r.length];show z,?_⟩);have n:j a.heap.objs.size=af:=d.hok.fresh (bh _);show⟨.ref a.heap.objs.size,upd j a.heap.objs.size (.lst xs),d.laid (t':=a.toks) (λb u e=>ck _ e) (bh _) ?_,rfl,q _ n⟩;show⟨z,l,0,r,dh _ rfl⟩
end
abbrev Sp:=List V->Hp->VK->XK->Prop
abbrev GA:=List dq->Hp->ao->XK->ai->ao->Prop
structure VN (P:bg) (w:ba) (K:ar) (mg:Q0d) (ω:bb) (A:br) (outer:List dq) (s:ao) (H:Hp):Prop where
 frames:A.frames=aa outer
 mod:Mod K mg ω
 bs:∀b o,ω.get? b=aa o->s.heap.get? b=aa o/\H b=af
 U8:ω.objs.size<=s.heap.objs.size
 tT:s.heap.FunFrames ω outer
 frf:∀b∈frs outer,H b=af
 hok:n9 P w H s.heap
 bare:ki s.gens
 tab:U7 K ω H
def CE(outer:List dq)(P:bg)(w:ba)(H:Hp)(s:ao)(Q:VK)(u:ai)(s':ao):Prop :=
 ∃v H',s'.os=s.os/\ki s'.gens/\Un (frs outer) [] H H' s.heap s'.heap/\n9 P w H' s'.heap/\Ψ v u/\Q v H'
def CR(CX:GA)(outer:List dq)(P:bg)(w:ba)(H:Hp)(s:ao)(Q:VK)(E:XK)(r:Result)(s':ao):Prop :=
 match r with
 |.ok (.ret u)=>CE outer P w H s Q u s'
 |.ok _=>False
 |.error e=>CX outer H s E e s'
structure mS (P:bg) (w:ba) (K:ar) (mg:Q0d) (ω:bb) (CX:GA) (k:Nat) (f:ah) (fd:h_) (ps:Q0g) (sp:Sp):Prop where
 len:∀vs H Q E,sp vs H Q E->vs.length=ps.length
 run:∀(A:br) (outer:List dq) (s:ao) (H:Hp) (args:Args) (us:Q0f) (vs:List V) (Q:VK) (E:XK),gA k A->VN P w K mg ω A outer s H->qr s fd args (ps.zip us)->θ vs us->sp vs H Q E ->
  ju (ay P w) A (.call (.ref f) args) (CR CX outer P w H s Q E) s
theorem mS.mono{P:bg}{w:ba}{K:ar}{mg:Q0d}{ω:bb}{CX:GA}{j k:Nat}{f:ah}{fd:h_}{a:Q0g}{sp:Sp}(F:mS P w K mg ω CX j f fd a sp)(h:j<=k):
  mS P w K mg ω CX k f fd a sp:=⟨F.len,λA outer s H args l d Q E m=>F.run A outer s H args l d Q E (m.mono h)⟩
section
variable{X:Cx}{π:Q0b}{σ:St}{H:Hp}{s s':ao}
def Φ.env0(I:Φ X π σ H s):VN X.Ω X.w X.K X.mg X.ω X.A X.stack s H :=
 ⟨I.ok.frames,I.ok.mod,I.bs,gi I.ok.U8 I.sz,I.stack,I.AX,I.hok,I.bare,I.tab⟩
def Φ.after(I:Φ X π σ H s)(h:CE X.stack X.Ω X.w H s Q u s'):EP X π σ Q u s':=by obtain⟨v,H',l,bare,un,j,r,q⟩:=h;obtain⟨m,g,d,t,a⟩:=s';obtain rfl:a=s.os:=l;show⟨v,H',I.call (h':=m) (g':=g) (d':=d) (t':=t) (ch:=[]) un j bare (λb z=>Zw z (by simp)),r,q⟩
end
def Ue(sp:Sp)(d:List V)(E:XK)(t:TA):TE:=λσ H Q=>t σ H λa h=>sp (a++d) h Q E
def Binds(K:ar)(fd:h_)(d:Q0g)(ds:Q0f):Prop :=
 ∀(s:ao) (a:Q0f),K.In s.heap->(a++ds).length=d.length->qr s fd ⟨a,[]⟩ (d.zip (a++ds))
def Binds.all{K:ar}{fd:h_}{d:Q0g}(h:∀a:Q0f,a.length=d.length->bindArgs fd ⟨a,[]⟩=pure (d.zip a)):Binds K fd d []:=λs a _ j=>by rw[jk] at j ⊢;show .of_eq (h a j)
def Passes(CX:GA)(X:Cx)(E:XK):Prop:=∀(π:Q0b) (σ:St) (H:Hp) (s:ao) (e:ai) (s':ao),Φ X π σ H s->CX X.stack H s E e s'->X.xe e s'
section
variable{X:Cx}{CX:GA}{k:Nat}{f C:ah}{fd:h_}{ps:Q0g}{sp:Sp}{YM:List V}{ds:Q0f}{E:XK}{x m:ak}{p ν apos:bc}{e o:au}{es:List au}{ta:TE}{t:TA}
theorem Xy(F:mS X.Ω X.w X.K X.mg X.ω CX k f fd ps sp)(l:gA k X.A)(v:Binds X.K fd ps ds)(q:θ YM ds)(j:Passes CX X E)
  (I:Φ X π σ H s) (r:θ vs us) (h:sp (vs++YM) H Q E):aw (ay X.Ω X.w) X.A (call (.ref f) us) (EP X π σ Q) X.xe s:=by
 have d:θ (vs++YM) (us++ds):=r.append q;have n:(us++ds).length=ps.length:=by rw[<- d.length];show F.len _ _ _ _ h
 show wpAny_call (tj (F.run X.A X.stack s H ⟨us,[]⟩ (us++ds) (vs++YM) Q E l I.env0 (v s us I.xE n) d h) λr s' a=>?_)
 cases r with
 |error e=>show j π σ H s e s' I a
 |ok fl =>
  cases fl with
  |ret u=>show I.after a
  |next=>show jl a
  |brk=>show jl a
  |cont=>show jl a
theorem A4(F:mS X.Ω X.w X.K X.mg X.ω CX k f fd ps sp)(n:gA k X.A)(z:Gl X x)(v:X.mg x=aa (.ref f))(y:keepIn X.K (.ref f)=ae)(O:Binds X.K fd ps ds)(L:θ YM ds)(l:Passes CX X E)
  (U:PA X (e::es) t) (d:Zu x<|>1) (J:Zq X e es<|>0) (a:Q0m X ν es<|>0):
  PE X (.Call (.Name x p) (e::es) [] ν) (Ue sp YM E t):=by
 intro π s σ H Q I h;show Ca (AZ I z v ?_ d);show PySem.W.callWith_K (h₀:=X.ω) I.ok.mod.kin y (dF (U ν π s σ H _ I h) λZ s1 ⟨Y,H1,j,r,q⟩=>⟨j.xE,?_⟩) J a;show Xy F n O L l j r q
end
structure hJ (N P:Q0g) (sc:gj):Prop where
 kind:sc.kind=.function
 co:sc.isCoroutine=ag
 gen:sc.isGenerator=ag
 nd:N.Nodup
 pre:N.take P.length=P
 par:∀x∈P,sc.names.lookup x=aa .local\/sc.names.lookup x=aa .cell
 Xx:∀y∈sc.names,y.2≠.free
theorem yT{kindOf:ak->Option je}{x:ak}:∀{binds:List (ak×ai)} {m:Q0d},(∀v,(x,v)∉binds)->bindL kindOf binds m x=m x
 |[],_,_=>rfl
 | (n,v)::r,m,h=>by
  unfold bindL;rw[yT λw hw=>h w (fg _ hw)];split
  .have:x≠n:=by rintro rfl;show h v cq
   simp[this]
  .rfl
theorem yU{kindOf:ak->Option je}{x:ak}:∀{binds:List (ak×ai)} {m:Q0d},(∀v,(x,v)∉binds)->bindC kindOf binds m x=m x
 |[],_,_=>rfl
 | (n,v)::r,m,h=>by
  unfold bindC;rw[yU λw hw=>h w (fg _ hw)];split
  .rfl
  .have:x≠n:=by rintro rfl;show h v cq
   simp[this]
theorem yV{kindOf:ak->Option je}{x:ak}{v:ai}:∀{P:Q0g} {a:Q0f} {i:Nat} {m:Q0d},P.Nodup->P[i]?=aa x->a[i]?=aa v->kindOf x=aa .local ->
  bindL kindOf (P.zip a) m x=aa v
 |[],_,_,_,_,h,_,_=>by simp at h
 |_::_,[],_,_,_,_,h,_=>by simp at h
 |p::P,w::a,0,m,nd,h1,h2,hk=>by simp at h1 h2;subst h1;subst h2;show bindL kindOf ((p,w)::P.zip a) m p=_;unfold bindL;rw[yT λv d=>(ig.mp nd).1 (Eh d).1,Z_ hk];simp
 |p::P,w::a,i+1,m,nd,h1,h2,hk=>by show bindL kindOf ((p,w)::P.zip a) m x=_;unfold bindL;show yV (i:=i) (ig.mp nd).2 (by simpa using h1) (by simpa using h2) hk
theorem yW{kindOf:ak->Option je}{x:ak}{v:ai}:∀{P:Q0g} {a:Q0f} {i:Nat} {m:Q0d},P.Nodup->P[i]?=aa x->a[i]?=aa v->kindOf x≠aa .local ->
  bindC kindOf (P.zip a) m x=aa v
 |[],_,_,_,_,h,_,_=>by simp at h
 |_::_,[],_,_,_,_,h,_=>by simp at h
 |p::P,w::a,0,m,nd,h1,h2,hk=>by simp at h1 h2;subst h1;subst h2;show bindC kindOf ((p,w)::P.zip a) m p=_;unfold bindC;rw[yU λv d=>(ig.mp nd).1 (Eh d).1,Zz hk];simp
 |p::P,w::a,i+1,m,nd,h1,h2,hk=>by show bindC kindOf ((p,w)::P.zip a) m x=_;unfold bindC;show yW (i:=i) (ig.mp nd).2 (by simpa using h1) (by simpa using h2) hk
def start(N:Q0g)(a:List V):St:=a.map aa++jy (N.length-a.length) af
def mT(CX:GA)(P:bg)(w:ba)(K:ar)(mg:Q0d)(ω:bb)(N:Q0g)(qual:ak)(scope:gj)(f:ah)(d:ai)(A:br)(outer:List dq)(s:ao)(H:Hp)(E:XK):Cx where
 Ω:=P
 w:=w
 K:=K
 mg:=mg
 ω:=ω
 A:=A.deeper (envOfC qual scope s.heap.objs.size f d)
 N:=N
 s₀:=s
 H₀:=H
 env:=envOfC qual scope s.heap.objs.size f d
 outer:=outer
 stack:=envOfC qual scope s.heap.objs.size f d::outer
 ex:=[]
 calm:=ae
 fn:=λ_=>ae
 pn:=[]
 xe:=λe s'=>aw (ay P w) (A.deeper (envOfC qual scope s.heap.objs.size f d)) (leaving (envOfC qual scope s.heap.objs.size f d) e) (λ_ a=>CX outer H s E e a) (λh a=>CX outer H s E h a) s'
def DB{sc:gj}{n:Nat}{x:ak}(h:sc.names.lookup x=aa .cell):∃c,(cellsFrom n sc.names []).lookup x=aa c:=by have q:=a0J sc.names n [] (.inl h);show Dx.mp q
theorem LX{CX:GA}{P:bg}{w:ba}{K:ar}{mg:Q0d}{ω:bb}{N l:Q0g}{qual:ak}{scope:gj}{f:ah}{L:ai}{A:br}{outer:List dq}{s U:ao}{H:Hp}{E:XK}{O:Q0f}{j:List V}
  (S:hJ N l scope) (hd:A.handled=af) (d:VN P w K mg ω A outer s H) (hl:j.length=l.length) (r:θ j O)
  (x:InCallC s s.heap.objs.size (bindL (envOfC qual scope s.heap.objs.size f L).kindOf (l.zip O) λ_=>af) (cellsFrom (s.heap.objs.size+1) scope.names []) (bindC (envOfC qual scope s.heap.objs.size f L).kindOf (l.zip O) λ_=>af) U):
  Φ (mT CX P w K mg ω N qual scope f L A outer s H E) [] (start N j) H U:=by
 have hpl:l.length<=N.length:=by have:=congrArg qy S.pre;rw[jo] at this;lia
 obtain⟨J,tk,rfl,Y⟩:=x.done;have m:∀b:ah,b∉(mT CX P w K mg ω N qual scope f L A outer s H E).ex:=λb z=>Zw (show b∈([]:List ah) from z) (by simp);show⟨⟨d.mod,S.kind,rfl,rfl,bh _,λy z c J h2=>?_,λy o=>?_,λy c _ h=>?_,λ_=>hd,Around.frames_deeper d.frames,.inr ⟨rfl,rfl⟩,λb z=>Zw z (m b),d.bs,d.U8,λb _ _=>m b,λb z=>Zw z (m b),d.tT,d.frf,d.tab⟩,
  rfl,d.bare,Un.kept Y,⟨_,x.toInCall.ns,λi y v J h2 h3=>?_⟩,λy c h=>⟨_,x.cell y c h⟩,d.hok.fresh (bh _),λy c h=>?_,λp I=>Zw (show p∈([]:Q0b) from I) (by simp),d.hok.kept Y,?_⟩
 .exact a0n x.apart (kc J) (kc h2)
 .have o:scope.names.lookup y=aa .cell\/scope.names.lookup y=aa .free:=o;rcases o with o|o
  .exact DB o
  .exact Zw rfl (S.Xx _ (kc o))
 .exact kj (x.above y c (kc h))
 .have hi:i<j.length:=by
   unfold start at h2;by_cases hi:i<j.length
   .exact hi
   .rw [ir (by simpa using hi)] at h2;rw[nh] at h2;split at h2<;>cases h2
  have ha:j[i]?=aa v:=by
   unfold start at h2;rw[iu (by simpa using hi),dg] at h2
   cases e:j[i]? with
   |none=>rw[e] at h2;cases h2
   |some a=>rw[e] at h2;cases h2;rfl
  obtain⟨u,X,Z⟩:=r.get ha;have I:l[i]?=aa y:=by rw[<- S.pre,Ek ∅];show J
  have F:l.Nodup:=by rw[<- S.pre];show S.nd.sublist (Ef _ _)
  show⟨u,Z,?_⟩;rcases S.par y (ia I) with k|k
  .exact .inl ⟨k,yV F I X k⟩
  .obtain ⟨c,e⟩:=DB (n:=s.heap.objs.size+1) k;show .inr ⟨.inl k,c,e,?_⟩;have q:=x.cell y c e;rw[yW F I X (by show scope.names.lookup y≠_;rw[k];decide)] at q;show q
 .exact d.hok.fresh (kj (x.above y c (kc h)))
 .unfold start;show _=N.length;rw[bq,a_,mx];lia
theorem YN{CX:GA}{P:bg}{w:ba}{K:ar}{mg:Q0d}{ω:bb}{k:Nat}{f:ah}{name qual:ak}{params:Arguments}{body:List c_}{scope:gj}{dV kV doc Z a ct oc:ai}{an od:Option ah}
  {O:Array (Option ai)} {N F:Q0g} {sp:Sp} (lk:K.lookup f=aa ⟨oc,od,.func (fnOf name qual params body scope dV kV doc Z an a ct),O⟩) (X:codeIn K a qual=ae) (S:hJ N F scope)
  (len:∀h H Q E,sp h H Q E->h.length=F.length)
  (l:∀(A:br) (outer:List dq) (s:ao) (H:Hp) (h:List V) (Q:VK) (E:XK),gA k (A.deeper (envOfC qual scope s.heap.objs.size f a))->sp h H Q E ->
   ∃t,EX (mT CX P w K mg ω N qual scope f a A outer s H E) body t/\t {nx:=λ_ H'=>Q .non H',rt:=Q} (start N h) H):
  mS P w K mg ω CX (k+1) f (fnOf name qual params body scope dV kV doc Z an a ct) F sp:=by
 show⟨len,λA outer s H args us h Q E U z hb r p=>?_⟩;have hl:=len _ _ _ _ p;have KX:K.In s.heap:=z.mod.kin.keeps λb o e=>(z.bs b o e).1;have lim:s.heap.NoLimit:=z.mod.nolimit.keeps λb o e=>(z.bs b o e).1;have j:∀y∈F.zip us,scope.names.lookup y.1=aa .local\/(scope.names.lookup y.1=aa .cell/\((cellsFrom (s.heap.objs.size+1) scope.names []).lookup y.1).isSome=ae):=λ⟨n,v⟩ hy=>by
  rcases S.par n (Eh hy).1 with q|q
  .exact .inl q
  .exact .inr ⟨q,a0J _ _ _ (.inl q)⟩
 show codeAny_call_function U.depth (KX _ _ lk) rfl S.co S.gen rfl (PySem.W.codeRec_of KX X) (hb _ _ _ _ ?_);show wpAny_newFunctionEnv_cells S.kind j λenv he Y x=>?_;subst he;show⟨lim.keeps x.toInCall.keep,codeAny_func ?_⟩;obtain⟨t,ht,hq⟩:=l A outer s H h Q E (U.deeper _) p;have I:Φ (mT CX P w K mg ω N qual scope f a A outer s H E) [] (start N h) H Y:=LX S U.hd z hl r x;show ka (ht [] Y (start N h) H _ I hq) (λfl s' m=>?_) λe s' m=>m;have fin:∀{d:St} {H':Hp} {v:V} {u:ai},Φ (mT CX P w K mg ω N qual scope f a A outer s H E) [] d H' s'->Ψ v u->Q v H'->CE outer P w H s Q u s' :=
  λ{d H' v u} J L q=>⟨v,H',J.os,J.bare,J.ω,J.hok,L,q⟩
 cases fl with
 |ret u =>
  obtain⟨v,d,H',J,L,q⟩:=m;show fin J L q
 |next =>
  obtain⟨d,H',J,q⟩:=m;show fin (v:=V.non) (u:=xk) J rfl q
 |brk =>
  obtain⟨_,_,_,q⟩:=m;show jl q
 |cont =>
  obtain⟨_,_,_,q⟩:=m;show jl q
section
variable{X:Cx}{x:ak}{p ν:bc}{e:au}{es:List au}{t:TA}{id T:String}{r:List V->Hp->VK->Prop}
def rm(r:List V->Hp->VK->Prop)(t:TA):TE:=λσ H Q=>t σ H λa d=>r a d Q
def qG(A:fV X (.builtin id) r)(y:Gl X x)(v:X.mg x=af)(o:bootBuiltins x=aa (.builtin id))(F:PA X (e::es) t)(q:x ≠ "__name__"<|>1)(d:Zu x<|>1)
  (z:Zq X e es<|>0) (a:Q0m X ν es<|>0):PE X (.Call (.Name x p) (e::es) [] ν) (rm r t):=by
 intro π s σ H Q I h;show Ca (pB I y v o ?_ q d);show a3U (dF (F ν π s σ H _ I h) λl m ⟨j,K,J,n,q1⟩=>A π m σ K j l Q J n q1) z a
def k7(A:fV X (.type T) r)(y:Gl X x)(v:X.mg x=af)(o:bootBuiltins x=aa (.type T))(F:PA X (e::es) t)(q:x ≠ "__name__"<|>1)(d:Zu x<|>1)
  (z:Zq X e es<|>0) (a:Q0m X ν es<|>0):PE X (.Call (.Name x p) (e::es) [] ν) (rm r t):=by
 intro π s σ H Q I h;show Ca (pB I y v o ?_ q d);show uf (dF (F ν π s σ H _ I h) λl m ⟨j,K,J,n,q1⟩=>A π m σ K j l Q J n q1) z a
end
end L2
namespace HT
open PyProof.Rows
section
open PySem.SeqAt

open PySem.MeetsSeq PySem.MeetsSeq2 PySem.MeetsSeq3
end
section
variable{Ω:bg}{w:ba}{A:br}{E:Q0c}{s:ao}
theorem VO(x:kh s.heap t vs.toArray)(y:kh s.heap b ws.toArray)(o:vs≠[])
  (z:ws=[]->Q (.ref t) s) (h2:ws≠[]->Q (.ref s.heap.objs.size) {s with heap:=s.heap.push {cls:=.type "tuple",data:=.seq (vs++ws).toArray} })
  (hsz:vs.length+ws.length<=bf):aw (ay Ω w) A (binaryOp .Add (.ref t) (.ref b)) Q E s:=by
 obtain⟨⟨cls,dd,data,l⟩,ho,q,n,p⟩:=id x;obtain⟨⟨v,j,data2,d⟩,a,h,m,hd2⟩:=id y;simp only at q p h hd2;subst q p h hd2;have e:vs.toArray++ws.toArray=(vs++ws).toArray:=by simp
 by_cases hw:ws=[]
 .exact Cp ⟨_,ho,rfl⟩ ⟨_,a,rfl⟩ Ck Cd C_ Dd (De _ _)
   (tuple_addW1 t b vs.toArray ws.toArray n m dd j l d (by simpa using o) (by simp[hw])) ⟨ho,a,z hw⟩
 .refine Cp ⟨_,ho,rfl⟩ ⟨_,a,rfl⟩ Ck Cd C_ Dd (De _ _)
   (tuple_addW2 t b vs.toArray ws.toArray n m dd j l d (by simpa using o) (by simpa using hw) (by rw[cu,cu];show hsz)) ⟨ho,a,?_⟩
  rw[e];show h2 hw
noncomputable def gM(n d:Nat):Option Int->Nat
 |none=>d
 |some v=>if v<0 then(v+(n:Int)).toNat else min v.toNat n
theorem Xw(n d:Nat)(h:d<=n)(o:Option Int):gM n d o<=n:=by
 cases o with
 |none=>show h
 |some v =>
  show(if v<0 then(v+(n:Int)).toNat else min v.toNat n)<=n;by_cases a:v<0
  .rw [Z_ a];lia
  .rw [Zz a];show a1V _ _
def JI(v:Int)(n d:Nat):(if v<0 then max (v+(n:Int)) 0 else min v (n:Int))=((gM n d (aa v):Nat):Int):=by
 show(if v<0 then max (v+(n:Int)) 0 else min v (n:Int))=(((if v<0 then(v+(n:Int)).toNat else min v.toNat n):Nat):Int);by_cases a:v<0
 .simp only[Z_ a];lia
 .simp only[Zz a];lia
def GB(lo hi:Option Int)(n:Nat):Dk lo hi 1 (n:Int)=(((gM n 0 lo:Nat):Int),((gM n n hi:Nat):Int)):=by
 have a:¬ ((1:Int)<0):=by lia
 unfold Dk;simp only[a,if_false];show yc ?_ ?_
 .cases lo with
  |none=>rfl
  |some v=>show JI v n 0
 .cases hi with
  |none=>rfl
  |some v=>show JI v n n
def GC(i j:Nat):ya (i:Int) (j:Int) 1=j-i:=by
 unfold ya;have a:(1:Int)>0:=by lia
 simp only[a,if_true,Int.ediv_one];split<;>lia
theorem vQ(p:kg v o)(h:Q o s):aw (ay Ω w) A (a3L v) Q E s:=by
 cases p with
 |none=>show a1x h
 |int i t=>show slicePart_int h
theorem k8{m:ah}{l j:ai}{lo hi:Option Int}{n:Nat}{Q:Int×Int×Nat->ao->Prop}(q:s.heap.IsSliceOf m l j .none)(p:kg l lo)(o:kg j hi)
  (h:Q (((gM n 0 lo:Nat):Int),1,gM n n hi-gM n 0 lo) s):aw (ay Ω w) A (a1r (.ref m) (pure (n:Int))) Q E s:=by
 obtain⟨y,a,v,d⟩:=id q;unfold a1r a3M;show aq (aq (oh a d (x:=l) rfl (aq (oh a d (x:=j) rfl (aq (oh a d (x:=.none) rfl (ax ?_)))))));show aq (a1x ?_);show aw _ _ (if((1:Int) == 0)=ae then _ else _) _ _ s;rw[Zz (by decide)];show aq (vQ p (aq (vQ o (aq (ax ?_)))));show aw _ _ (match Dk lo hi 1 (n:Int) with|(lo,hi)=>pure (lo,(1:Int),ya lo hi 1)) _ _ s;rw[GB lo hi n];show aw _ _ (pure (((gM n 0 lo:Nat):Int),(1:Int),ya ((gM n 0 lo:Nat):Int) ((gM n n hi:Nat):Int) 1)) _ _ s;rw[GC];show ax h
def QN(xs:Array ai)(i k:Nat):((gk k).filterMap λ(m:Nat)=>xs[((i:Int)+(m:Int)*1).toNat]?).toArray=((xs.toList.drop i).take k).toArray:=by
 have e:(λ(m:Nat)=>xs[((i:Int)+(m:Int)*1).toNat]?)=λm=>xs[i+m]?:=by
  funext m
  have:((i:Int)+(m:Int)*1).toNat=i+m:=by lia
  rw[this]
 rw[e];have:=pick_run xs i k;rw[List.filterMap_map] at this;have e2:((λx=>xs[x]?)∘λx=>i+x)=λm=>xs[i+m]?:=rfl;rw[e2] at this;rw[this]
theorem qH{t j:ah}{items:Array ai}{v p:ai}{lo hi:Option Int}{Q:Q0c}(a:kh s.heap t items)(x:s.heap.IsSliceOf j v p .none)(z:kg v lo)(y:kg p hi)
  (hw:¬ (gM items.size 0 lo=0/\gM items.size items.size hi=items.size))
  (h:Q (.ref s.heap.objs.size) {s with heap:=s.heap.push {cls:=.type "tuple",data:=.seq ((items.toList.drop (gM items.size 0 lo)).take (gM items.size items.size hi-gM items.size 0 lo)).toArray} })
  (hsz:items.size<=bf):aw (ay Ω w) A (getItem (.ref t) (.ref j)) Q E s:=by
 have d:sizeOk (.seq ((items.toList.drop (gM items.size 0 lo)).take (gM items.size items.size hi-gM items.size 0 lo)).toArray):=by show((items.toList.drop (gM items.size 0 lo)).take (gM items.size items.size hi-gM items.size 0 lo)).toArray.size<=bf;rw[cu,jo,m_,zb];lia
 have K:gM items.size items.size hi<=items.size:=Xw _ _ (bh _) hi;obtain⟨F,l,o,I⟩:=id x;have J:s.TypeIs (.ref j) "slice":=⟨F,l,o⟩;unfold getItem
 try with_reducible show iz ?_
 first|show aq (ax ?_)|skip
 show aq (Zl a.typeIs (by decide) ?_);show aq (kb (name:=oj "__getitem__") a.typeIs oq
  (ik oq a.typeIs a1z ?_ (a1F _ _)))
 show aw _ _ (a1o (.ref t) >>= _) _ _ s;show aq (a1u a ?_);show aq (qc J ?_);rw[Z_ (by decide)];show aq (k8 x z y ?_);have n:¬ ((((gM items.size 0 lo:Nat):Int) == 0&&(1:Int) == 1&&(gM items.size items.size hi-gM items.size 0 lo) == items.size)=ae):=by intro q;rw[cm,cm] at q;have q1:((gM items.size 0 lo:Nat):Int)=0:=eq_of_beq q.1.1;have q2:gM items.size items.size hi-gM items.size 0 lo=items.size:=eq_of_beq q.2;show hw ⟨by lia,by lia⟩
 show aw _ _ (if(((gM items.size 0 lo:Nat):Int) == 0&&(1:Int) == 1&&(gM items.size items.size hi-gM items.size 0 lo) == items.size)=ae then _ else _) _ _ s;rw[Zz n,QN]
 first
  |show aq (m:=x_ _) (og (ax ⟨_,rfl,ax h⟩) d)
  |show aq (m:=x_ _) (og (aq (ax (ax ⟨_,rfl,ax h⟩))) d)
  |show aq (aq (m:=x_ _) (og (ax (ax ⟨_,rfl,ax h⟩)) d))
  |show aq (aq (m:=x_ _) (og (ax ⟨_,rfl,ax h⟩) d))
end
end HT
namespace L2
open PySem.Spec PyProof.Rows
abbrev TO:=St->Hp->(Option Int->Hp->Prop)->Prop
def PO(X:Cx)(e:Option au)(t:TO):Prop :=
 ∀(π:Q0b) (s:ao) (σ:St) (H:Hp) (Q:Option Int->Hp->Prop),Φ X π σ H s->t σ H Q ->
  aw (ay X.Ω X.w) X.A (evalPart e X.env) (λu s'=>∃o H',Φ X π σ H' s'/\kg u o/\Q o H') X.xe s
def VP:TO:=λ_ H Q=>Q af H
def Ud(t:TE):TO:=λσ H Q=>t σ H λx a=>∃i,x=.int i/\Q (aa i) a
theorem intsAre_of:∀{a:Q0f},θ (ns.map V.int) a->i_ a ns:=by
 induction ns with
 |nil=>intro a r;rw[qv] at r;cases r;show .nil
 |cons n ns ih =>
  intro a r;rw[bp] at r
  cases r with
  |cons r1 r2 =>
   obtain⟨t,e⟩:=r1;subst e;show .cons n t (ih r2)
section
variable{X:Cx}{e:au}{te:TE}{lo hi:Option au}{tl th:TO}{ν p2:bc}
def VQ:PO X af VP:=by intro π s σ H Q I h;rw[a0s];show ax ⟨af,H,I,.none,h⟩
def VR(h:PE X e te):PO X (aa e) (Ud te):=by intro π s σ H Q I hw;rw[evalPart_some];show dF (h π s σ H _ I hw) λu m a=>?_;obtain⟨x,l,j,d,q1⟩:=a;obtain⟨i,rfl,q⟩:=q1;obtain⟨t,rfl⟩:=d;show⟨aa i,l,j,.int i t,q⟩
def YO(X:Cx)(r:V->Option Int->Option Int->Hp->VK->Prop):Prop :=
 ∀(π:Q0b) (s:ao) (σ:St) (H:Hp) (x:V) (v d a:ai) (lo hi:Option Int) (h:ah) (Q:VK),Φ X π σ H s->Ψ x v->s.heap.IsSliceOf h d a .none->kg d lo->kg a hi->r x lo hi H Q ->
  ∃T id,typeLookup (.type T) "__getitem__"=pure (aa (.builtin id))/\s.TypeIs v T/\aw (ay X.Ω X.w) X.A (getItem v (.ref h)) (EP X π σ Q) X.xe s
def YO.or(h:YO X r)(h':YO X r'):YO X (λx lo hi H Q=>r x lo hi H Q\/r' x lo hi H Q):=by
 intro π s σ H x v d a lo hi j Q I l o n m q;rcases q with q|q
 .exact h π s σ H x v d a lo hi j Q I l o n m q
 .exact h' π s σ H x v d a lo hi j Q I l o n m q
def Fg(r:V->Option Int->Option Int->Hp->VK->Prop)(te:TE)(tl th:TO):TE:=λσ H Q=>te σ H λx h=>tl σ h λl d=>th σ d λu a=>r x l u a Q
def DC(K:YO X r)(U:PE X e te)(L:PO X lo tl)(F:PO X hi th):PE X (.Subscript e (.Slice lo hi af p2) ν) (Fg r te tl th):=by intro π s σ H Q I h;show Du (dF (U π s σ H _ I h) λv n ⟨x,H1,I1,o,q1⟩=>?_);show wpAny_Slice (dF (L π n σ H1 _ I1 q1) λd m ⟨l,H2,I2,z,q2⟩=>dF (F π m σ H2 _ I2 q2) λa s3 ⟨u,j,I3,y,p⟩=>?_);rw[a0s];show ax ?_;have Z:Φ X π σ j {s3 with heap:=s3.heap.push {cls:=.type "slice",data:=.fields #[d,a,.none]} }:=I3.kept (t':=s3.toks) λb ob q=>ck _ q;obtain⟨T,id,Y,J,O⟩:=K π {s3 with heap:=s3.heap.push {cls:=.type "slice",data:=.fields #[d,a,.none]} } σ j x v d a l u s3.heap.objs.size Q Z o (a3l ..) z y p;show aw (ay X.Ω X.w) X.A (subscriptTail e (.Slice lo hi af p2) v (.ref s3.heap.objs.size)) (EP X π σ Q) X.xe {s3 with heap:=s3.heap.push {cls:=.type "slice",data:=.fields #[d,a,.none]} };show tail_any (ops:=[.ref s3.heap.objs.size,v]) J Y O (by with_unfolding_all rfl)
def DD(xs:List V)(lo hi:Option Int):List V:=(xs.drop (HT.gM xs.length 0 lo)).take (HT.gM xs.length xs.length hi-HT.gM xs.length 0 lo)
def tE(xs:List V)(lo hi:Option Int):(DD xs lo hi).length<=xs.length:=by unfold DD;rw[jo,m_];lia
def Nb(K:ar):V->Option Int->Option Int->Hp->VK->Prop:=λx lo hi H Q=>∃a xs,x=.ref a/\fI K H a xs /\
 ¬ (HT.gM xs.length 0 lo=0/\HT.gM xs.length xs.length hi=xs.length) /\∀p,H p=af->Q (.ref p) (upd H p (.tup (DD xs lo hi)))
def Xv:YO X (Nb X.K):=by
 intro π s σ H x v F A lo hi J Q I m z p n h;obtain⟨a,xs,rfl,y,hw,q⟩:=h;cases m;obtain⟨l,r,j,d⟩:=I.tuple y;have hlen:l.toArray.size=xs.length:=by rw[cu];show r.length.symm
 show⟨"tuple",_,oq.lookup,j.typeIs,?_⟩;show HT.qH j z p n (by rw[hlen];show hw) ?_ (by rw[hlen];show d);rw[hlen];show⟨.ref s.heap.objs.size,_,I.laid (t':=s.toks) (o:=.tup (DD xs lo hi)) (λb L q=>ck _ q) (bh _) ?_,rfl,q _ (I.hok.fresh (bh _))⟩;show⟨gi (tE xs lo hi) d,_,(r.drop (HT.gM xs.length 0 lo)).take (HT.gM xs.length xs.length hi-HT.gM xs.length 0 lo),yb _ _,C7.new _ _⟩
def Uc(K:ar):R2:=λx y H Q=>∃a b xs ys,x=.ref a/\y=.ref b/\fI K H a xs/\fI K H b ys/\xs≠[]/\xs.length+ys.length<=bf /\
 (ys=[]->Q (.ref a) H)/\(ys≠[] ->∀p,H p=af->Q (.ref p) (upd H p (.tup (xs++ys))))
theorem θ.A5(r:θ xs us):us=[]↔xs=[]:=by
 cases r with
 |nil=>simp
 |cons _ _=>simp
def VS:iC X (binaryOp .Add) (Uc X.K):=by intro π s σ H x y v u Q I p n h;obtain⟨a,b,xs,ys,rfl,rfl,J,F,A,m,q1,q2⟩:=h;cases p;cases n;obtain⟨L,j,p1,_⟩:=I.tuple J;obtain⟨l,d,p2,_⟩:=I.tuple F;show HT.VO p1 p2 (λz=>A (j.A5.mp z)) (λz=>⟨.ref a,H,I,rfl,q1 (d.A5.mp z)⟩) (λz=>?_) (by rw[<- j.length,<- d.length];show m);show⟨.ref s.heap.objs.size,_,I.laid (t':=s.toks) (o:=.tup (xs++ys)) (λb O q=>ck _ q) (bh _) ?_,rfl,q2 (λw=>z (d.A5.mpr w)) _ (I.hok.fresh (bh _))⟩;show⟨by rw[bq];show m,_,j.append d,yb _ _,C7.new _ _⟩
end
def LY(n:Nat)(i:Int):Option Nat:=if 0<=i then(if i<n then aa i.toNat else af) else if -(n:Int)<=i then aa (i+n).toNat else af
def tU{a:Type}(xs:List a)(i:Int):Option a:=(LY xs.length i).bind λj=>xs[j]?
def A6(h:LY n i=aa j):seqIndex? i n=aa j/\j<n /\ -(n:Int)<=i/\i<n:=by
 unfold LY at h;by_cases d:0<=i
 .rw [Z_ d] at h;by_cases a:i<n
  .rw [Z_ a] at h;have e:i.toNat=j:=ft h;show⟨by rw[Ce d a,e],by lia,by lia,a⟩
  .rw [Zz a] at h;cases h
 .rw [Zz d] at h;by_cases a:-(n:Int)<=i
  .rw [Z_ a] at h;have e:(i+n).toNat=j:=ft h;show⟨by rw[Cf ∅ a,e],by lia,a,by lia⟩
  .rw [Zz a] at h;cases h
theorem JK{a:Type}{xs:List a}{i:Int}{v:a}(h:tU xs i=aa v):∃j,seqIndex? i xs.length=aa j/\xs[j]?=aa v/\j<xs.length /\ -(xs.length:Int)<=i/\i<xs.length:=by
 unfold tU at h
 cases e:LY xs.length i with
 |none=>rw[e] at h;cases h
 |some j =>
  rw[e] at h;obtain⟨m,h2,l,d⟩:=A6 e;show⟨j,m,h,h2,l,d⟩
def A7(b:au):Prop:=∀o i,subscripted b ag o i=operate [o,i] (getItem o i)
def IxR(X:Cx)(r:R2):Prop :=
 ∀(value slice:au) (π:Q0b) (s:ao) (σ:St) (H:Hp) (x y:V) (v u:ai) (Q:VK),Φ X π σ H s->Ψ x v->Ψ y u->r x y H Q ->
  subscripted slice ag v u=operate [v,u] (getItem v u)->aw (ay X.Ω X.w) X.A (subscriptTail value slice v u) (EP X π σ Q) X.xe s
def MtR(X:Cx)(id:String)(r:V->List V->Hp->VK->Prop):Prop :=
 ∀(π:Q0b) (s:ao) (σ:St) (H:Hp) (x:V) (xs:List V) (v:ai) (a:Q0f) (Q:VK),Φ X π σ H s->Ψ x v->θ xs a->r x xs H Q ->
  aw (ay X.Ω X.w) X.A (call (.builtin id) (v::a)) (EP X π σ Q) X.xe s
section
variable{X:Cx}{a b:au}{ta tb:TE}{ν:bc}
def IxR.or(h:IxR X r)(h':IxR X r'):IxR X (λx y H Q=>r x y H Q\/r' x y H Q):=by
 intro value slice π s σ H x y v u Q I j d q l;rcases q with q|q
 .exact h value slice π s σ H x y v u Q I j d q l
 .exact h' value slice π s σ H x y v u Q I j d q l
def Ub(n:IxR X r)(p:PE X a ta)(o:PE X b tb)(m:A7 b):PE X (.Subscript a b ν) (pj r ta tb):=by intro π s σ H Q I h;show Du (wu p o I h λv u d x y A z l j q=>n a b π d σ A x y v u Q z l j q (m _ _))
def Ax(K:ar):R2:=λx y H Q=>∃p xs i v,x=.ref p/\y=.int i/\fU K H p xs/\tU xs i=aa v/\Q v H
def Bf(K:ar):R2:=λx y H Q=>∃p xs i v,x=.ref p/\y=.int i/\fI K H p xs/\tU xs i=aa v/\Q v H
def VT:IxR X (Ax X.K):=by
 intro value slice π s σ H x y v u Q I O L h n;obtain⟨p,xs,i,z,rfl,rfl,U,Z,q⟩:=h;cases O;obtain⟨t,rfl⟩:=L;obtain⟨F,r,l,hz⟩:=I.list U;obtain⟨j,d,h2,h3,h4,h5⟩:=JK Z;obtain⟨w,A,J⟩:=r.get h2;have Y:=r.length;have hn:=vP;have fin:EP X π σ Q w s:=⟨z,H,I,J,q⟩;by_cases o:0<=i
 .have m:i.toNat=j:=by rw[Ce o h5] at d;show ft d
  show item_listR l.isList o ∅ (by rw[m];simpa using A) fin n
 .have m:(i+(F.toArray.size:Int)).toNat=j:=by rw[Cf ∅ h4] at d;rw[cu,<- Y];show ft d
  show a1w (x:=w) l.isList.typeIs a0k.lookup
   (wpAny_getItem_list_neg (Q:=λr s'=>r=w/\EP X π σ Q r s') l.isList ∅ (by rw[cu]<;>lia) ∅ (by rw[m];simpa using A) ⟨rfl,fin⟩) n
def Xu:IxR X (Bf X.K):=by
 intro value slice π s σ H x y v u Q I n m h o;obtain⟨p,xs,i,z,rfl,rfl,A,J,q⟩:=h;cases n;obtain⟨t,rfl⟩:=m;obtain⟨U,r,d,Y⟩:=I.tuple A;obtain⟨j,L,h2,h3,h4,h5⟩:=JK J;obtain⟨w,O,l⟩:=r.get h2;have F:=r.length;have Z:=vP;have fin:EP X π σ Q w s:=⟨z,H,I,l,q⟩;show a1w (x:=w) d.typeIs oq.lookup
  (getItem_tuple (j:=j) (Q:=λr s'=>r=w/\EP X π σ Q r s') d ∅ ∅ (by rw[cu,<- F];show L) (by simpa using O) ⟨rfl,fin⟩) o
def GD(d:Q0f)(n j:Nat)(u:ai):om (·.setIfInBounds j u) {cls:=.type "list",data:=.seq d.toArray n}={cls:=.type "list",data:=.seq (d.set j u).toArray n}:=by simp[om]
theorem Φ.lst{π:Q0b}{σ:St}{H:Hp}{s:ao}{p:ah}{xs:List V}(I:Φ X π σ H s)(h:H p=aa (.lst xs)):
  ∃(d:Q0f) (n:Nat),θ xs d/\s.heap.get? p=aa {cls:=.type "list",data:=.seq d.toArray n}/\xs.length<=bf:=by
 obtain⟨z,d,n,r,e⟩:=I.hok p _ h;show⟨d,n,r,e,z⟩
theorem Φ.Xt{π:Q0b}{σ:St}{H:Hp}{s:ao}{p:ah}{xs ys:List V}{j its':Q0f}{n d:Nat}{f:az->az}(I:Φ X π σ H s)(h:H p=aa (.lst xs))
  (ho:s.heap.get? p=aa {cls:=.type "list",data:=.seq j.toArray n}) (l:f {cls:=.type "list",data:=.seq j.toArray n}={cls:=.type "list",data:=.seq its'.toArray d }) (r:θ ys its') (m:ys.length<=bf) (t:Nat):
  Φ X π σ (upd H p (.lst ys)) {s with heap:=s.heap.update p f,toks:=t}:=by
 have e:(s.heap.update p f).get? p=aa {cls:=.type "list",data:=.seq its'.toArray d }:=by rw[mi f ho (by rw[l]<;>rfl),l]
 show I.write (x:=p) (e:=p) (by rw[h];trivial) (.inl rfl) (λb u o q=>(qo _ _ (d_ o)).trans q) ⟨_,e⟩ ?_;show⟨m,its',d,r,e⟩
def Uy:V->V->V->Hp->(Hp->Prop)->Prop:=λo i v H Q=>∃p xs k j,o=.ref p/\i=.int k/\H p=aa (.lst xs)/\LY xs.length k=aa j/\Q (upd H p (.lst (xs.set j v)))
def set_list:Bb X Uy:=by
 intro π s σ H o i v U Y u Q I ro ri K h;obtain⟨p,xs,k,j,rfl,rfl,y,O,q⟩:=h;cases ro;obtain⟨t,rfl⟩:=ri;obtain⟨x,n,r,ho,L⟩:=I.lst y;obtain⟨d,h2,A,z⟩:=A6 O;have l:=r.length;have Z:=vP;have J:Φ X π σ (upd H p (.lst (xs.set j v))) {s with heap:=s.heap.update p (om (·.setIfInBounds j u))} :=
  I.Xt y ho (GD x n j u) (r.set K j) (by rw[dm];show L) s.toks
 by_cases F:0<=k
 .have m:k.toNat=j:=by rw[Ce F z] at d;show ft d
  show PySem.W.ki_setAt ho F ∅ (by rw[cu,<- l];show z) (by rw[m];show⟨_,J,q⟩)
 .have m:(k+(x.toArray.size:Int)).toNat=j:=by rw[Cf ∅ A] at d;rw[cu,<- l];show ft d
  show PySem.W.ki_setBack ho ∅ (by rw[cu,<- l];show A) ∅ (by rw[m];show⟨_,J,q⟩)
def A8(lo hi:Option Int)(n:Nat):(sliceBounds lo hi af n).1=((HT.gM n 0 lo:Nat):Int)/\(sliceBounds lo hi af n).2.1=((HT.gM n n hi:Nat):Int)/\(sliceBounds lo hi af n).2.2=1:=by
 show⟨?_,?_,rfl⟩
 .cases lo with
  |none=>simp[sliceBounds,HT.gM]
  |some i =>
   simp only[sliceBounds,HT.gM,a1K,show(1:Int)>0 by decide,if_true];by_cases h:i<0
   .simp only[h,if_true]<;>lia
   .simp only[h,if_false]<;>lia
 .cases hi with
  |none=>simp[sliceBounds,HT.gM]
  |some i =>
   simp only[sliceBounds,HT.gM,a1K,show(1:Int)>0 by decide,if_true];by_cases h:i<0
   .simp only[h,if_true]<;>lia
   .simp only[h,if_false]<;>lia
def xN(d:Q0f)(lo hi:Option Int):slicePick d.toArray lo hi af=((d.drop (HT.gM d.length 0 lo)).take (HT.gM d.length d.length hi-HT.gM d.length 0 lo)).toArray:=by obtain⟨j,h2,h⟩:=A8 lo hi d.toArray.size;unfold slicePick;rw[j,h2,h];simp only[sliceRange_one,pick_run,cu]<;>rfl
def Na(K:ar):V->Option Int->Option Int->Hp->VK->Prop:=λx lo hi H Q=>∃a xs,x=.ref a/\fU K H a xs /\∀p,H p=af->Q (.ref p) (upd H p (.lst (DD xs lo hi)))
theorem JL:YO X (Na X.K):=by intro π s σ H x v F A lo hi J Q I j y m l h;obtain⟨a,xs,rfl,p,q⟩:=h;cases j;obtain⟨z,r,d,n⟩:=I.list p;have hlen:=r.length;show⟨"list",_,a0k.lookup,d.isList.typeIs,?_⟩;show wpAny_getItem_list_slice d.isList y m l .none (by simp) ?_ (by rw[cu]<;>lia);rw[xN,<- hlen];show⟨.ref s.heap.objs.size,_,I.laid (t':=s.toks) (o:=.lst (DD xs lo hi)) (λb L q=>ck _ q) (bh _) ?_,rfl,q _ (I.hok.fresh (bh _))⟩;show⟨gi (tE xs lo hi) n,_,0,(r.drop (HT.gM xs.length 0 lo)).take (HT.gM xs.length xs.length hi-HT.gM xs.length 0 lo),dh _ rfl⟩
noncomputable def qI:V->Bool
 |.non=>ae
 |.bl _=>ae
 |.int _=>ae
 |.str _=>ae
 |_=>ag
noncomputable def YQ:V->V->Bool
 |.non,.non=>ae
 |.bl a,.bl b=>a == b
 |.bl a,.int b=>(if a then 1 else 0) == b
 |.int a,.bl b=>a == (if b then 1 else 0)
 |.int a,.int b=>a == b
 |.str a,.str b=>a == b
 |_,_=>ag
theorem Xs(h:Ψ y u)(d:Ψ x v)(l:qI y=ae)(j:qI x=ae):mh A s u v (YQ y x):=by
 cases y with
 |non =>
  cases h
  cases x with
  |non=>cases d;show xo _
  |bl b=>cases d;show a26 b
  |int b=>obtain⟨t,rfl⟩:=d;show a25 b t
  |str b=>obtain⟨t,rfl⟩:=d;show a24 b t
  |_=>show Zw (show ag=ae from j) b_
 |bl a =>
  cases h
  cases x with
  |non=>cases d;show a3c a
  |bl b=>cases d;show a3e a b
  |int b=>obtain⟨t,rfl⟩:=d;show a3d a b t
  |str b=>obtain⟨t,rfl⟩:=d;show a3b a b t
  |_=>show Zw (show ag=ae from j) b_
 |int a =>
  obtain⟨t',rfl⟩:=h
  cases x with
  |non=>cases d;show a28 a t'
  |bl b=>cases d;show a3a a t' b
  |int b=>obtain⟨t,rfl⟩:=d;show a29 a t' b t
  |str b=>obtain⟨t,rfl⟩:=d;show a0Y a t' b t
  |_=>show Zw (show ag=ae from j) b_
 |str a =>
  obtain⟨t',rfl⟩:=h
  cases x with
  |non=>cases d;show a22 a t'
  |bl b=>cases d;show a23 a t' b
  |int b=>obtain⟨t,rfl⟩:=d;show a0X a t' b t
  |str b=>obtain⟨t,rfl⟩:=d;show a21 a t' b t
  |_=>show Zw (show ag=ae from j) b_
 |_=>show Zw (show ag=ae from l) b_
def GF(x:V)(u:ai):Bool:=match u with
 |.none=>YQ .non x
 |.bool b=>YQ (.bl b) x
 |.int i _=>YQ (.int i) x
 |.str z _=>YQ (.str z) x
 |_=>ag
theorem QO(r:Ψ y u)(f:qI y=ae):GF x u=YQ y x:=by
 cases y with
 |non=>cases r;rfl
 |bl b=>cases r;rfl
 |int i=>obtain⟨t,rfl⟩:=r;rfl
 |str z=>obtain⟨t,rfl⟩:=r;rfl
 |_=>show Zw (show ag=ae from f) b_
theorem qJ:∀{xs:List V} {d:Q0f},θ xs d->xs.all qI=ae->d.any (GF x)=xs.any λy=>YQ y x
 |_,_,.nil,_=>rfl
 |y::xs,u::d,.cons r t,f=>by rw[lz,cm] at f;rw[j_,j_,QO r f.1,qJ t f.2]
theorem mU(j:Ψ x v)(l:qI x=ae):∀{xs:List V} {h:Q0f},θ xs h->xs.all qI=ae ->∀u∈h,mh A s u v (GF x u)
 |_,_,.nil,_=>λu d=>by cases d
 |y::xs,u::h,.cons r t,f=>λm d=>by
  rw[lz,cm] at f;rcases cb.mp d with rfl|d
  .rw [QO r f.1];show Xs r j f.1 l
  .exact mU j l t f.2 m d
def inV(x:V)(xs:List V):Bool:=xs.any λy=>YQ y x
def u_(K:ar)(neg:Bool):R2:=λx y H Q=>∃p xs,y=.ref p/\(fU K H p xs\/fI K H p xs)/\qI x=ae/\xs.all qI=ae/\Q (.bl (if neg then !inV x xs else inV x xs)) H
def yX:iC X (compareOp .In) (u_ X.K ag):=by
 intro π s σ H x y v u Q I m o h;obtain⟨p,xs,rfl,j,n,fs,q⟩:=h;cases o;rcases j with j|j
 .obtain ⟨d,r,l,z⟩:=I.list j;show a0W (GF x) l.isList (λw hw=>mU m n r fs w (by simpa using hw)) ⟨.bl _,H,I,rfl,?_⟩;rw[show d.toArray.any (GF x)=d.any (GF x) by simp,qJ r fs];show q
 .obtain ⟨d,r,l,z⟩:=I.tuple j;show a0V (GF x) l (λw hw=>mU m n r fs w (by simpa using hw)) ⟨.bl _,H,I,rfl,?_⟩;rw[show d.toArray.any (GF x)=d.any (GF x) by simp,qJ r fs];show q
def qK:iC X (compareOp .NotIn) (u_ X.K ae):=by
 intro π s σ H x y v u Q I m o h;obtain⟨p,xs,rfl,j,n,fs,q⟩:=h;cases o;rcases j with j|j
 .obtain ⟨d,r,l,z⟩:=I.list j;show a0U (GF x) l.isList (λw hw=>mU m n r fs w (by simpa using hw)) ⟨.bl _,H,I,rfl,?_⟩;rw[show d.toArray.any (GF x)=d.any (GF x) by simp,qJ r fs];show q
 .obtain ⟨d,r,l,z⟩:=I.tuple j;show a0T (GF x) l (λw hw=>mU m n r fs w (by simpa using hw)) ⟨.bl _,H,I,rfl,?_⟩;rw[show d.toArray.any (GF x)=d.any (GF x) by simp,qJ r fs];show q
def A9:fV X (.builtin "len") (λxs H Q=>∃p ys,xs=[.ref p]/\(fU X.K H p ys\/fI X.K H p ys)/\Q (.int ys.length) H):=by
 intro π s σ H xs v Q I r h;obtain⟨p,ys,rfl,d,q⟩:=h;obtain⟨u,rfl,n⟩:=vals1 r;cases n;have x:=vP;rcases d with d|d
 .obtain ⟨m,j,l,o⟩:=I.list d;have hlen:=j.length;show Calls.call_len_list l.isList (by simp only[cu]<;>lia) ⟨.int ys.length,H,I.tok _,⟨s.toks+1,by rw[cu,hlen]⟩,q⟩
 .obtain ⟨m,j,l,o⟩:=I.tuple d;have hlen:=j.length;show len_tuple l (by simp only[cu]<;>lia) ⟨.int ys.length,H,I.tok _,⟨s.toks+1,by rw[cu,hlen]⟩,q⟩
def BA:fV X (.type "list") (λxs H Q=>∃p ys,xs=[.ref p]/\(fU X.K H p ys\/fI X.K H p ys) /\∀l,H l=af->Q (.ref l) (upd H l (.lst ys))):=by
 intro π s σ H xs O Q I r h;obtain⟨p,ys,rfl,y,q⟩:=h;obtain⟨u,rfl,L⟩:=vals1 r;cases L;have fin:∀(d:Q0f),θ ys d->ys.length<=bf ->∀(h':bb) (m:Nat),(∀b J,s.heap.get? b=aa J->h'.get? b=aa J) ->
   h'.get? s.heap.objs.size=aa {cls:=.type "list",dict:=af,data:=.seq d.toArray m,slots:=#[]}->EP X π σ Q (.ref s.heap.objs.size) {s with heap:=h' }:=λd j x h' m v e =>
  ⟨.ref s.heap.objs.size,_,I.laid (t':=s.toks) v (bh _) (show dR X.Ω X.w _ h' _ (.lst ys) from⟨x,d,m,j,e⟩),rfl,q _ (I.hok.fresh (bh _))⟩
 rcases y with y|y
 .obtain ⟨d,j,z,x⟩:=I.list y;have hlen:=j.length;obtain⟨o,ho,F,n,A⟩:=z.isList;show a0y p (.inl rfl) ho F A (λh' m v e=>fin d j x h' m v e) (by simp only[cu]<;>lia)
 .obtain ⟨d,j,z,x⟩:=I.tuple y;have hlen:=j.length;obtain⟨o,ho,F,n,A⟩:=z;show a0y p (.inr rfl) ho F A (λh' m v e=>fin d j x h' m v e) (by simp only[cu]<;>lia)
theorem xO:fV X (.type "tuple") (λxs H Q=>∃p ys,xs=[.ref p]/\((fU X.K H p ys /\∀l,H l=af->Q (.ref l) (upd H l (.tup ys)))\/(fI X.K H p ys/\Q (.ref p) H))):=by
 intro π s σ H xs F Q I r h;obtain⟨p,ys,rfl,h⟩:=h;obtain⟨u,rfl,y⟩:=vals1 r;cases y;rcases h with⟨n,q⟩|⟨n,q⟩
 .obtain ⟨d,j,m,v⟩:=I.list n;have hlen:=j.length;show call_tuple_list m.isList (λh' z=>?_) (by simp only[cu]<;>lia);have x:Φ X π σ H {s with heap:=h' }:=I.kept (t':=s.toks) z;have A:Φ X π σ (upd H h'.objs.size (.tup ys)) {s with heap:=h'.push {cls:=.type "tuple",data:=.seq d.toArray} } :=
   x.laid (t':=s.toks) (λb o e=>ck _ e) (bh _) (show dR X.Ω X.w _ _ _ (.tup ys) from⟨v,d,j,yb _ _,C7.new _ _⟩)
  show⟨.ref h'.objs.size,_,A,rfl,q _ (x.hok.fresh (bh _))⟩
 .obtain ⟨d,j,m,v⟩:=I.tuple n;show call_tuple_same m ⟨.ref p,H,I,rfl,q⟩
def tyV(K:ar)(T:String)(x:V)(H:Hp):Prop:=match x with
 |.str _=>T="str"
 |.int _=>T="int"
 |.ref p=>(T="list" /\∃xs,fU K H p xs)\/(T="tuple" /\∃o,K.lookup p=aa o/\o.cls=.type "tuple" /\o.dict=af) \/
   (T="dict" /\((∃χ,H p=aa (.dK χ)) \/∃χ,H p=aa (.dT χ)))\/(T="set" /\∃S n,H p=aa (.set S n))\/(T="tuple" /\∃xs,H p=aa (.tup xs))
 |_=>False
theorem QP(I:Φ X π σ H s)(r:Ψ x v)(ty:tyV X.K T x H):
  s.TypeIs v T /\∀a,v=.ref a ->∃l,s.heap.get? a=aa l/\l.dict=af:=by
 cases x with
 |str z =>
  obtain⟨t,rfl⟩:=r;cases (show T="str" from ty);show⟨typeIs_str s z t,λ_ e=>nomatch e⟩
 |int i =>
  obtain⟨t,rfl⟩:=r;cases (show T="int" from ty);show⟨typeIs_int s i t,λ_ e=>nomatch e⟩
 |ref p =>
  cases r;rcases ty with⟨rfl,xs,m⟩|⟨rfl,o,d,q,h⟩|⟨rfl,d⟩|⟨rfl,S,n,d⟩|⟨rfl,xs,d⟩
  .obtain ⟨y,_,j,_⟩:=I.list m;show⟨j.isList.typeIs,λa e=>?_⟩;cases e;obtain⟨o,n,e,c,h,_⟩:=j;show⟨o,e,h⟩
  .refine ⟨⟨o,I.xE p o d,q⟩,λa e=>?_⟩;cases e;show⟨o,I.xE _ o d,h⟩
  .have z:∃o,s.heap.get? p=aa o/\o.ExactDict:=by
    rcases d with⟨χ,d⟩|⟨χ,d⟩
    .obtain ⟨_,_,_,_,o,_,_,e,ex,_⟩:=I.hok p _ d;show⟨o,e,ex⟩
    .obtain ⟨_,_,_,_,o,_,_,e,ex,_⟩:=I.hok p _ d;show⟨o,e,ex⟩
   obtain⟨o,e,ex⟩:=z;show⟨⟨o,e,ex.1⟩,λa e2=>?_⟩;cases e2;show⟨o,e,ex.2.1⟩
  .obtain ⟨o,_,_,_,e,ex,_⟩:=I.hok p _ d;show⟨⟨o,e,ex.1⟩,λa e2=>?_⟩;cases e2;show⟨o,e,ex.2.1⟩
  .obtain ⟨_,_,_,⟨o,e,c,_⟩,nd⟩:=I.hok p _ d;show⟨⟨o,e,c⟩,λa e2=>?_⟩;cases e2;show⟨o,e,nd _ e⟩
 |_=>show jl ty
def M_(K:ar)(T:String)(r:V->List V->Hp->VK->Prop)(h:TE):TE:=λσ H Q=>h σ H λx d=>tyV K T x d/\r x [] d Q
def zi(K:ar)(T:String)(r:V->List V->Hp->VK->Prop)(h:TE)(t:TA):TE:=λσ H Q=>h σ H λx d=>tyV K T x d/\t σ d λxs j=>r x xs j Q
variable{o e:au}{es:List au}{to:TE}{t:TA}{name:ak}{apos cpos:bc}{T id:String}{r:V->List V->Hp->VK->Prop}
theorem Xr(q:PlainAttrs T)(slot:Slot T name id)(l:typeOf (.builtin id)=pure (.type "method_descriptor"))(y:MtR X id r)(ho:PE X o to)
  (j:attributeBase o name X.env (eval o X.env)=eval o X.env<|>0) (d:Q0l apos cpos<|>0):PE X (.Call (.Attribute o name apos) [] [] cpos) (M_ X.K T r to):=by
 intro π s σ H Q I h;show wpAny_Call_method0_late j d (dF (ho π s σ H _ I h) λv p ⟨x,A,n,m,ty,q1⟩=>?_);obtain⟨z,h2⟩:=QP n m ty;show⟨T,id,q,slot,l,z,h2,Di rfl (PySem.evalArgs_none (y π p σ A x [] v [] Q n m .nil q1))⟩
theorem Ux(U:PlainAttrs T)(slot:Slot T name id)(n:typeOf (.builtin id)=pure (.type "method_descriptor"))(Z:MtR X id r)(ho:PE X o to)(ha:PA X (e::es) t)
  (l:attributeBase o name X.env (eval o X.env)=eval o X.env<|>0)
  (m:((dj cpos (av (e::es) X.env)).all (λx=>!x.1)&&(backToKw cpos (ku [] X.env)).all (λx=>x.1.isSome)
   && Zv ((e::es).length+([]:List g_).length+(if([]:List g_).isEmpty then 0 else 1)<30))=ae:=by rfl)
  (j:Q0l apos cpos<|>0) (Y:Zq X e es<|>0) (d:Q0m X cpos es<|>0):
  PE X (.Call (.Attribute o name apos) (e::es) [] cpos) (zi X.K T r to t):=by
 intro π s σ H Q I h;show wpAny_Call_method_late l m j rfl (dF (ho π s σ H _ I h) λv L ⟨x,H1,z,q,ty,q1⟩=>?_);obtain⟨h1,h2⟩:=QP z q ty;show⟨T,id,U,slot,n,h1,h2,?_⟩;have y:=ha cpos π L σ H1 _ z q1;rw[Y] at y ⊢;show Di (by show(ag||(dj cpos (av es X.env)).any (·.1))=ag;rw[d]<;>rfl) (Dh ?_);show dF y λF J p=>by obtain⟨A,H2,I2,O,q2⟩:=p;show Z π J σ H2 x A v F Q I2 q O q2
end
def MtM(X:Cx)(id:String)(r:V->List V->Hp->VK->Prop):Prop :=
 ∀(π:Q0b) (s:ao) (σ:St) (H:Hp) (x:V) (xs:List V) (v:ai) (a:Q0f) (Q:VK),Φ X π σ H s->Ψ x v->θ xs a->r x xs H Q ->
  aw (ay X.Ω X.w) X.A (call (.builtin id) (v::a)) (EP X π σ Q) X.xe s
theorem θ.one:∀{x:V} {a:Q0f},θ [x] a ->∃u,a=[u]/\Ψ x u
 |_,_,.cons r .nil=>⟨_,rfl,r⟩
theorem θ.zero:∀{a:Q0f},θ [] a->a=[]
 |_,.nil=>rfl
theorem θ.dropLast{xs:List V}{a:Q0f}(h:θ xs a):θ xs.dropLast a.dropLast:=by
 induction h with
 |nil=>show .nil
 |cons r t ih =>
  cases t with
  |nil=>show .nil
  |cons q t'=>show .cons r ih
theorem θ.eraseIdx:∀{xs:List V} {a:Q0f} (i:Nat),θ xs a->θ (xs.eraseIdx i) (a.eraseIdx i)
 |_,_,_,.nil=>.nil
 |_,_,0,.cons _ t=>t
 |_,_,i+1,.cons r t=>.cons r (θ.eraseIdx i t)
theorem pD{d:Type}(l:List d):l.eraseIdx (l.length-1)=l.dropLast:=by
 induction l with
 |nil=>rfl
 |cons a r ih =>
  cases r with
  |nil=>rfl
  |cons b r =>
   have e:(a::b::r).length-1=((b::r).length-1)+1:=by have h:(a::b::r).length=r.length+2:=rfl;have h2:(b::r).length=r.length+1:=rfl;lia
   rw[e,Eo,ih]
   all_goals rfl
theorem yY{a:Type}:∀(l:List a) (i:Nat),(l.eraseIdx i).length<=l.length
 |[],_=>bh _
 |_::_,0=>qu _
 |_::r,i+1=>Nat.succ_le_succ (yY r i)
section
variable{X:Cx}{π:Q0b}{σ:St}{H:Hp}{s:ao}{l b:ah}{xs ys zs:List V}
theorem Φ.VU{a its':Q0f}{n:Nat}{f:Array ai->Array ai}{t':Nat}(I:Φ X π σ H s)(p:H l=aa (.lst xs))
  (e:s.heap.get? l=aa {cls:=.type "list",data:=.seq a.toArray n}) (m:f a.toArray=its'.toArray) (h:θ ys its') (d:ys.length<=bf):
  Φ X π σ (upd H l (.lst ys)) {s with heap:=s.heap.update l (om f),toks:=t' }:=by
 have q:=a3j e f;rw[m] at q;show I.write (x:=l) (e:=l) (by rw[p];show trivial) (.inl rfl) (λv u o j=>(qo s.heap (om f) (d_ o)).trans j) ⟨_,q⟩ ?_;show⟨d,its',_,h,q⟩
theorem Φ.Mz(I:Φ X π σ H s)(d:θ ys ι)(a:ys.length<=bf):
  Φ X π σ (upd H s.heap.objs.size (.lst ys)) {s with heap:=s.heap.push {cls:=.type "list",data:=.seq ι.toArray},toks:=t' } :=
 I.laid (λ_ _ q=>ck _ q) (bh _) ⟨a,ι,0,d,dh _ rfl⟩
def Φ.fresh(I:Φ X π σ H s):H s.heap.objs.size=af:=I.hok.fresh (bh _)
def Φ.GG(I:Φ X π σ H s)(d:H l=aa (.lst xs)):xs.length<=bf /\∃(a:Q0f) (n:Nat),θ xs a/\xs.length=a.length/\s.heap.get? l=aa {cls:=.type "list",data:=.seq a.toArray n}:=by obtain⟨z,a,n,r,e⟩:=I.hok l _ d;show⟨z,a,n,r,r.length,e⟩
def QQ{n:Nat}(h:n<=bf):Dm n=ag:=by unfold Dm;show Zy ∅
def JM:V->List V->Hp->VK->Prop:=λx a H Q=>∃l xs y,x=.ref l/\a=[y]/\H l=aa (.lst xs)/\xs.length<bf/\Q .non (upd H l (.lst (xs++[y])))
def yZ:MtM X "list.append" JM:=by intro π s σ H x p v A Q I j m h;obtain⟨l,xs,y,rfl,rfl,d,J,q⟩:=h;cases j;obtain⟨u,rfl,o⟩:=m.one;obtain⟨z,a,n,r,K,e⟩:=I.GG d;show xh a05 ⟨_,e,rfl⟩ F.entry_list_append (F.args_list_append_2 _ _) (PySem.list_append l a.toArray n u (by rw[cu];lia)) ⟨e,?_⟩;show⟨.non,_,I.VU (its':=a++[u]) d e (by simp) (r.append (.cons o .nil)) ?_,rfl,q⟩;rw[bq,List.length_singleton];lia
def JN:V->List V->Hp->VK->Prop:=λx a H Q=>∃l b xs zs,x=.ref l/\a=[.ref b]/\H l=aa (.lst xs)/\H b=aa (.lst zs)/\xs.length+zs.length<=bf/\Q .non (upd H l (.lst (xs++zs)))
def LZ:MtM X "list.extend" JN:=by
 intro π s σ H x U v Y Q I m o h;obtain⟨l,b,xs,zs,rfl,rfl,j,K,Z,q⟩:=h;cases m;obtain⟨u,rfl,p⟩:=o.one;cases p;obtain⟨z,d,n,r,hl,e⟩:=I.GG j;obtain⟨O,a,A,y,J,e2⟩:=I.GG K;have hsz:d.toArray.size+a.toArray.size<=bf:=by rw[cu,cu];lia
 have L:¬ (!d.toArray.isEmpty&&Dm (d.toArray.size+a.toArray.size))=ae:=by rw[QQ hsz,Bool.and_false];show b_
 show xh a04 ⟨_,e,rfl⟩ F.entry_list_extend (F.args_list_extend_2 _ _)
  (a3S l d.toArray n b a.toArray A L (by rw[cu];lia) ∅) ⟨e,e2,?_⟩
 show⟨.non,_,I.VU (its':=d++a) j e (by simp) (r.append y) ?_,rfl,q⟩;rw[bq];lia
def My:V->List V->Hp->VK->Prop:=λx a H Q=>∃l xs y,x=.ref l/\a=[]/\H l=aa (.lst xs)/\xs[xs.length-1]?=aa y/\Q y (upd H l (.lst xs.dropLast))
def Xq:MtM X "list.pop" My:=by
 intro π s σ H x O v U Q I o p h;obtain⟨l,xs,y,rfl,rfl,m,J,q⟩:=h;cases o;have j:=p.zero;subst j;obtain⟨z,a,n,r,L,e⟩:=I.GG m;obtain⟨u,K,A⟩:=r.get J;have d:a.toArray[a.toArray.size-1]?=aa u:=by show a.toArray[a.length-1]?=aa u;rw[<- ux,<- L];show K
 show xh xw ⟨_,e,rfl⟩ a1c (F.args_list_pop_1 _) (a3g l a.toArray n u d (by rw[cu];lia)) ⟨e,?_⟩;show⟨y,_,I.VU (its':=a.dropLast) m e ?_ r.dropLast ?_,A,q⟩
 .show a.toArray.eraseIdxIfInBounds (a.toArray.size-1)=a.dropLast.toArray;rw[cu,a2p,pD]
 .rw [List.length_dropLast];lia
def QR:V->List V->Hp->VK->Prop:=λx a H Q=>∃l xs i k y,x=.ref l/\a=[.int i]/\H l=aa (.lst xs) /\ -(2^63)<=i/\i<2^63/\seqIndex? i xs.length=aa k/\xs[k]?=aa y/\Q y (upd H l (.lst (xs.eraseIdx k)))
def QS:MtM X "list.pop" QR:=by
 intro π s σ H x O v U Q I m o h;obtain⟨l,xs,i,k,y,rfl,rfl,d,L,h2,K,A,q⟩:=h;cases m;obtain⟨u,rfl,p⟩:=o.one;obtain⟨t,rfl⟩:=p;obtain⟨z,a,n,r,J,e⟩:=I.GG d;obtain⟨w,hw,j⟩:=r.get A;show xh xw ⟨_,e,rfl⟩ a1c (F.args_list_pop_2 _ _)
  (a3h l a.toArray n i t k w (fitsIndex_both L h2) (by rw[cu,<- J];show K) (by rw[<- ux];show hw) (by rw[cu];lia)) ⟨e,?_⟩
 show⟨y,_,I.VU (its':=a.eraseIdx k) d e ?_ (r.eraseIdx k) ?_,j,q⟩
 .show a.toArray.eraseIdxIfInBounds k=(a.eraseIdx k).toArray;rw[a2p]
 .have:=yY xs k;lia
def Be:R2:=λx y H Q=>∃l b xs zs,x=.ref l/\y=.ref b/\H l=aa (.lst xs)/\H b=aa (.lst zs)/\xs.length+zs.length<=bf /\∀p,H p=af->Q (.ref p) (upd H p (.lst (xs++zs)))
def QT:iC X (binaryOp .Add) Be:=by
 intro π s σ H x y v u Q I m j h;obtain⟨l,b,xs,zs,rfl,rfl,A,F,O,q⟩:=h;cases m;cases j;obtain⟨z,d,n,r,U,e⟩:=I.GG A;obtain⟨K,a,L,o,p,e2⟩:=I.GG F;show PySem.P.add_list e e2 ?_ (by rw[cu,cu];lia);have J:d.toArray++a.toArray=(d++a).toArray:=by simp
 rw[J];show⟨.ref _,_,I.Mz (t':=s.toks) (r.append o) (by rw[bq];lia),rfl,q _ I.fresh⟩
end
section
variable{Ω:bg}{w:ba}{A:br}{E:Q0c}{s:ao}
set_option maxRecDepth 100000 in
end
end L2
namespace TL
open PySem.W PySem.Calls PyProof.Rows
theorem tW:∀(ns:Q0e) (d:Q0f),WellAll P h d (ns.map a0L)->i_ d ns:=by
 intro ns
 induction ns with
 |nil =>
  intro d w;rw[qv] at w;cases w;show .nil
 |cons n ns ih =>
  intro d w;rw[bp] at w
  cases w with
  |cons a b =>
   cases a;show .cons _ _ (ih _ b)
theorem MA{l:qi}{n:Nat}(A:l.most=aa n){P:Params}{h:bb}{args:List WData}{vals:Q0f}
  (j:l.row.toRowW.claim.pre args=ae) (p:WellAll P h vals args):
  ∃a x ns,vals=[fm a]/\args=[WData.list (ns.map a0L)]/\h.get? a=aa {cls:=.type "list",data:=.seq x.toArray}/\i_ x ns/\ns.length<=n:=by
 have v:WShape.hasAll [] args [.list .int]=ae:=(pre_splitW j).1;have y:l.pre.holds [] {args:=args}=ae:=(pre_splitW j).2;obtain⟨d,r,rfl,I,h2⟩:=hasAllW_cons v;obtain rfl:=hasAllW_nil h2;obtain⟨xs,rfl,F⟩:=hasW_list I;obtain⟨ns,rfl⟩:=items_int F;have hlen:ns.length<=n:=by
  unfold OpenLaw.pre at y;have o:(WTm.not (.lt (.lit (.int (n:Int))) (.len (.arg 0)))).holds [] {args:=[.list (ns.map .int)]}=ae:=by have o:=(holds_andW y).1;rw[A] at o;show o
  have m:=condW_of o (w_not (w_lt w_lit (w_len_list (w_arg rfl))));rw[a_] at m;show Nat.le_of_not_lt λq=>?_;have z:(n:Int)<((ns.length:Nat):Int):=by lia
  first
   | (rw[Zx z] at m;show Zw m (by decide))
   | (simp at m;lia)
 cases p with
 |cons w1 w2 =>
  cases w2
  cases w1 with
  |list ho hall=>show⟨_,_,ns,rfl,rfl,ho,tW ns _ hall,hlen⟩
def MB(l:qi)(args:List WData):l.row.toRowW.claim.post args (.bool ae) args=ae :=
 postW_of (r:=l.row.toRowW) (X:=(ae == ae))
  (show a0K [] (.bool ae) .bool=ae by first|rfl|decide|simp[a0K,WShape.arms,WShape.armsAll])
  (show(WTm.eq .res (.lit (.bool ae))).value [] {args:=args,res:=aa (.bool ae),after:=args}=aa (.bool (ae == ae)) from w_eq_bool (w_res rfl) w_lit) rfl
theorem DF{l:qi}{n:Nat}{q:bg}{loose:Q0g}{L:(ak->Option ai)->bb->Prop}{YP:ba->bb->Prop}{d:DefRec}
  (X:l.most=aa n) (F:d.params.defaults=[])
  (call:∀(w:ba) (s₀ h:ao) (mg mb:Q0d) (v:ah) (o:az) (y x doc:ai) (a:ah) (j:Q0f) (ns:Q0e),
   Ground q loose [] L w s₀ mg mb h.heap->YP w h.heap ->
   h.heap.get? v=aa o->o.data=.func (docDef d.name d.params d.body d.scope y x doc)->h.heap.CodeRec x d.name->mg d.name=aa (.ref v) ->
   h.heap.get? a=aa {cls:=.type "list",data:=.seq j.toArray}->i_ j ns->ns.length<=n->h.gens=#[] ->
   ju (ay l.prog w) callerA (.call (.ref v) ⟨[.ref a],[]⟩) (λr s'=>r=.ok (.ret (.bool ae))/\OldK h.heap s'.heap/\s'.os=h.os/\ki s'.gens) h):
  Cw q loose L YP l.row.toRowW d [] (λf j=>Cq f j):=by
 intro w s₀ h mg mb G Y v o y x doc dV kV ho hd I K A hg args vals as m J O z hlo;obtain rfl:dV=.none:=Dflts.none K F;obtain rfl:kV=.none:=Dflts.noKw K;obtain⟨a,j,ns,rfl,rfl,p,hints,hlen⟩:=MA X m z;show enter_call (tj (call w s₀ h mg mb v o y x doc a j ns G Y ho (fd_plain hd) I A p hints hlen hg) λr s' U=>?_);obtain⟨rfl,h2,h3,h4⟩:=U;show⟨.inl ⟨.bool ae,.bool ae,[],rfl,λ_=>rfl,.bool ae,MB l _,λ_=>⟨yw,λ_ Z=>(nomatch Z)⟩⟩,h2,h3,h4⟩
end TL
namespace L2
open PySem.Spec PyProof.Rows
theorem nY:∀{a:Q0f} {ns:Q0e},i_ a ns->θ (ns.map V.int) a
 |_,_,.nil=>.nil
 |_,_,.cons n t h=>.cons ⟨t,rfl⟩ (nY h)
def Only(H:Hp):Prop:=∀b,H b=af\/(∃o xs,H b=aa (.xC o (.lst xs))) \/∃q,H b=aa (.LK q)
structure TabsOk (K:ar) (q:bg):Prop where
 nd:((fC K).map (·.2.2)).Nodup
 rc:∀t∈fC K,∃e,(recsOf q).find? (λe=>e.name == t.1)=aa e
theorem GH{K:ar}{t:ak×ah×ah}(h:t∈fC K):Cr K t.1=aa (t.2.1,t.2.2):=by
 obtain⟨x,_,e⟩:=uq.mp h
 cases q:Cr K x with
 |none=>rw[q] at e;cases e
 |some p=>rw[q] at e;cases e;show q
def GI(K:ar)(a:ah)(u:Option HO):Hp:=λb=>if b=a then u else((fC K).find? λt=>t.2.2 == b).map λt=>.LK (U6 t.1)
theorem MC{l:List (ak×ah×ah)}(nd:(l.map (·.2.2)).Nodup){t:ak×ah×ah}(h:t∈l):l.find? (λu=>u.2.2 == t.2.2)=aa t:=by
 induction l with
 |nil=>cases h
 |cons u l ih =>
  rw[bp,ig] at nd;rw[gx];by_cases e:(u.2.2 == t.2.2)=ae
  .rw [e];rcases cb.1 h with z|z
   .rw [z]
   .exact Zw (fq.2 ⟨t,z,(eq_of_beq e).symm⟩) nd.1
  .rw [a2C] at e;rw[e];rcases cb.1 h with z|z
   .rw [z,beq_self_eq_true] at e;cases e
   .exact ih nd.2 z
theorem QU{P:bg}{w:ba}{K:ar}{mg mb:Q0d}{CX:GA}{k:Nat}{fa a:ah}{fd:h_}{x:ak}{sp:Sp}{j:ao}{Y:Q0f}{ns:Q0e}
  (KX:K.In j.heap) (hns:j.heap.Ns jb mg) (U:j.heap.Ns builtinsNs mb) (hbb:∀x:ak,x ≠ "__name__"->mb x=bootBuiltins x) (hlim:j.heap.NoLimit)
  (hbm:∃bm L,mg "__builtins__"=aa (.ref bm)/\bm≠builtinsNs/\j.heap.get? bm=aa L/\L.cls=.type "module" /\L.dict=aa builtinsNs/\L.data=.plain)
  (J:∀t∈fC K,CodeHd j.heap t.2.1 t.2.2/\j.heap.get? t.2.2=aa (tabObj #[])) (hnd:((fC K).map (·.2.2)).Nodup) (hnt:noTabs K=ae) (hg:j.gens=#[])
  (ha:j.heap.get? a=aa {cls:=.type "list",data:=.seq Y.toArray}) (hi:i_ Y ns) (hl:ns.length<=bf) (hr:gA k callerA)
  (F:∀ω:bb,K.In ω->ω.Ns jb mg->mS P w K mg ω CX k fa fd [x] sp) (X:∀(s:ao) (u:ai),qr s fd ⟨[u],[]⟩ [(x,u)])
  (hsp:∀H:Hp,Only H->fU K H a (ns.map V.int)->sp [.ref a] H (λv _=>v=.bl ae) λ_ _ _=>False)
  (vf:∀H e s',CX [] H j (λ_ _ _=>False) e s'->False):
  ju (ay P w) callerA (.call (.ref fa) ⟨[.ref a],[]⟩) (λr s'=>r=.ok (.ret (.bool ae))/\OldK j.heap s'.heap/\s'.os=j.os/\ki s'.gens) j:=by
 have rv:=nY hi;have lenV:=hi.length;have neA:∀t∈fC K,t.2.2≠a:=λt l z=>by have e:=(J t l).2;rw[z,ha] at e;cases e
 -- a tracked address: the script or a table
 have core:∀u:Option HO,(u=af \/∃o xs,u=aa (.xC o (.lst xs)))->fU K (GI K a u) a (ns.map V.int)->(∀v,u=aa v->dR P w (GI K a u) j.heap a v)->(u≠af->K.lookup a=af) ->
   ju (ay P w) callerA (.call (.ref fa) ⟨[.ref a],[]⟩) (λr s'=>r=.ok (.ret (.bool ae))/\OldK j.heap s'.heap/\s'.os=j.os/\ki s'.gens) j:=by
  intro u hu hS Bd hK;obtain⟨H,eH⟩:∃H,GI K a u=H:=⟨_,rfl⟩;have qY:∀t∈fC K,H t.2.2=aa (.LK (U6 t.1)):=λt l=>by rw[<- eH];unfold GI;rw[Zz (neA t l),MC hnd l];rfl
  have Z:∀b,H b=af\/(b=a/\H b=u/\u≠af) \/∃t∈fC K,t.2.2=b/\H b=aa (.LK (U6 t.1)):=λb=>by
   by_cases U:b=a
   .cases hu2:u with
    |none=>left;rw[<- eH];unfold GI;rw[Z_ U,hu2]
    |some v=>right;left;show⟨U,?_,by simp⟩;rw[<- eH];unfold GI;rw[Z_ U,hu2]
   .cases q:(fC K).find? λt=>t.2.2 == b with
    |none=>left;rw[<- eH];unfold GI;rw[Zz U,q];rfl
    |some t =>
     have A:t.2.2=b:=eq_of_beq (List.find?_some (p:=λt:ak×ah×ah=>t.2.2 == b) q);have e2:=List.mem_of_find?_eq_some q;show .inr (.inr ⟨t,e2,A,by rw[<- A];show qY t e2⟩)
  rw[eH] at hS Bd;have hO:Only H:=λb=>by
   rcases Z b with z|⟨_,z,_⟩|⟨t,_,_,z⟩
   .exact .inl z
   .rcases hu with y|⟨o,xs,y⟩
    .exact .inl (z.trans y)
    .exact .inr (.inl ⟨o,xs,z.trans y⟩)
   .exact .inr (.inr ⟨_,z⟩)
  have hok:n9 P w H j.heap:=λb v e=>by
   rcases Z b with z|⟨rfl,z,_⟩|⟨t,l,rfl,z⟩
   .rw [z] at e;cases e
   .exact Bd v (by rw[<- z];show e)
   .rw [z] at e;cases e;show⟨#[],(J t l).2,trivial,λν cv e=>by cases e⟩
  -- an object that is neither the script nor a table is not tracked
  have QV:∀{b:ah} {o:az},j.heap.get? b=aa o->o.cls≠.none->(∀ys n,o.data≠.seq ys n)->H b=af:=λ{b o} e hc hs=>by
   rcases Z b with z|⟨rfl,_,_⟩|⟨t,l,rfl,z⟩
   .exact z
   .rw [ha] at e;cases e;show Zw rfl (hs _ _)
   .rw [(J t l).2] at e;cases e;show Zw rfl hc
  have nsN:∀{b:ah} {o:az} {es:Array qp} {ep:Nat},j.heap.get? b=aa o->o.data=.dict es ep->H b=af:=λ{b o es ep} e d=>by
   rcases Z b with z|⟨rfl,_,_⟩|⟨t,l,rfl,z⟩
   .exact z
   .rw [ha] at e;cases e;cases d
   .rw [(J t l).2] at e;cases e;cases d
  have uI:∀{b:ah} {o:az},j.heap.get? b=aa o->H b=af->(xM j.heap H).get? b=aa o:=λe n=>P6 e n;have I:∀{b:ah} {m:Q0d},j.heap.Ns b m->(xM j.heap H).Ns b m:=λ{b m} ⟨o,es,ep,e,d,r⟩=>⟨o,es,ep,uI e (nsN e d),d,r⟩;have zy:K.In (xM j.heap H):=λb o e=>uI (KX b o e) (by
   rcases Z b with z|⟨rfl,_,z⟩|⟨t,l,rfl,z⟩
   .exact z
   .rw [hK z] at e;cases e
   .have e2:=KX _ o e;rw[(J t l).2] at e2;cases e2;have h2:=ib.mp hnt (t.2.2,tabObj #[]) (PySem.W.mem_of_lookupK e);show Zw (show ag=ae from h2) b_)
  have hM:Mod K mg (xM j.heap H):=⟨zy,I hns,⟨mb,I U,hbb⟩,let ⟨mc,h1,h2⟩:=hlim;⟨mc,I h1,h2⟩,
   let ⟨bm,L,b1,b2,b3,b4,b5,b6⟩:=hbm;⟨bm,L,b1,b2,uI b3 (QV b3 (by rw[b4];nofun) λys n z=>by rw[b6] at z;cases z),b4,b5,b6⟩⟩
  have Mx:U7 K (xM j.heap H) H:=λt l=>by obtain⟨o,vs',file,tf,flags,tg,inF,text,tt,A,r1,r2,r3⟩:=(J t l).1;show⟨⟨o,vs',file,tf,flags,tg,inF,text,tt,uI A (QV A (by rw[r1];nofun) λys n z=>by rw[r2] at z;cases z),r1,r2,r3⟩,qY t l⟩
  have e0:VN P w K mg (xM j.heap H) callerA [] j H:=⟨rfl,hM,λb o e=>U5 e,kl (LM _ _),trivial,λb U=>Zw (show b∈([]:List ah) from U) (by simp),hok,.of_eq hg,Mx⟩;show tj ((F _ zy (I hns)).run callerA [] j H ⟨[.ref a],[]⟩ [.ref a] [.ref a] _ _ hr e0 (X j (.ref a)) (.cons rfl .nil) (hsp H hO hS)) λr s' h=>?_
  cases r with
  |error e=>show(vf H e s' h).elim
  |ok fl =>
   cases fl with
   |next=>show jl h
   |brk=>show jl h
   |cont=>show jl h
   |ret v =>
    obtain⟨y,H',os,bare,un,O,r',q⟩:=h;have q':y=.bl ae:=q;subst q';obtain rfl:v=tw ae:=r';have old:∀b o,j.heap.get? b=aa o->asItWas j.heap s'.heap b o /\∃o',s'.heap.get? b=aa o':=λb o e=>by
     rcases Z b with z|⟨rfl,z,hne⟩|⟨t,l,rfl,z⟩
     .have k:=un.keep b o e z (by intro z;show Zw (show b∈([]:List ah) from z) (by simp)) (by simp);show⟨.inl k,o,k⟩
     .rcases hu with y|⟨L,xs,y⟩
      .exact Zw y hne
      .have z1:=z.trans y;have z2:=un.vN b L _ z1;obtain⟨A,_⟩:=hok b _ z1;obtain⟨e2,_⟩:=O b _ z2;rw[e] at A;cases A;show⟨.inl e2,o,e2⟩
     .obtain ⟨ps,e2,_⟩:=O _ _ (un.tQ _ _ z);have A:=(J t l).2;rw[e] at A;cases A;show⟨.inr (.inl ⟨((J t l).1.tab (J t l).2).isCodeTable,rfl,#[],ps,rfl,by rw[e2,Array.empty_append]⟩),_,e2⟩
    show⟨rfl,⟨λb o e=>(old b o e).1,λb o e=>(old b o e).2⟩,os,bare⟩
 cases hk:K.lookup a with
 |some o =>
  -- the script is one of the module's own objects
  have e:=KX a o hk;rw[ha] at e;cases e;show core af (.inl rfl) (.inr ⟨_,Y.toArray,_,hk,rfl,rfl,rfl,by rw[cu,lenV];show hl,by simpa using rv⟩) (λv z=>by cases z) λz=>Zw rfl z
 |none =>
  show core (aa (.xC {cls:=.type "list",data:=.seq Y.toArray} (.lst (ns.map V.int)))) (.inr ⟨_,_,rfl⟩) (.inl (.inr ⟨{cls:=.type "list",data:=.seq Y.toArray},Z_ rfl⟩)) (λv z=>?_) λ_=>hk;cases z;show⟨ha,by rw[a_];show hl,Y,_,rv,ha⟩
abbrev KOf{K:ar}{h:bb}(_:K.In h):ar:=K
theorem VW{l:qi}{n k:Nat}{q:bg}{loose:Q0g}{XP:(ak->Option ai)->bb->Prop}{YP:ba->bb->Prop}{d:DefRec}{K:Params->ar}{CX:ba->GA}{sp:ba->Sp}{x:ak}
  (hn:l.most=aa n) (A:n<=bf) (J:d.params.defaults=[]) (Z:gA k callerA)
  (hY:∀(w:ba) (h:bb),YP w h->(K w.params).In h)
  (O:∀w:ba,TabsOk (K w.params) q) (z:∀w:ba,noTabs (K w.params)=ae)
  (F:∀(w:ba) (mg:Q0d) (p:ah) (h:bb),(K w.params).In h->h.Ns jb mg->mg d.name=aa (.ref p) ->
   ∃fd:h_,(∀(s:ao) (u:ai),qr s fd ⟨[u],[]⟩ [(x,u)]) /\
    ∀ω:bb,(K w.params).In ω->ω.Ns jb mg->mS l.prog w (K w.params) mg ω (CX w) k p fd [x] (sp w))
  (y:∀(w:ba) (H:Hp) (a:ah) (ns:Q0e),ns.length<=n->Only H->fU (K w.params) H a (ns.map V.int)->sp w [.ref a] H (λv _=>v=.bl ae) λ_ _ _=>False)
  (X:∀(w:ba) (H:Hp) (s:ao) (e:ai) (s':ao),CX w [] H s (λ_ _ _=>False) e s'->False):
  Cw q loose XP YP l.row.toRowW d [] (λf L=>Cq f L):=by
 show TL.DF hn J λw s₀ j mg mb p o pm cd doc a L ns G Y ho hd hcd I m hints hlen hg=>?_;have KX:=hY w _ Y;obtain⟨fd,hb,hF⟩:=F w mg p _ KX G.T.g I;have hT:∀t∈fC (K w.params),CodeHd j.heap t.2.1 t.2.2/\j.heap.get? t.2.2=aa (tabObj #[]):=λt U=>by obtain⟨e,he⟩:=(O w).rc t U;show PySem.W.tab_of G.T KX he (GH U)
 show QU KX G.T.g G.T.b G.T.builtins G.T.nolimit G.T.bmain hT (O w).nd (z w) hg m hints (gi hlen A) Z hF hb (λH hO hS=>y w H a ns hlen hO hS) λH e s'=>X w H j e s'
noncomputable def qL(s:c_):Arguments:=match s with
 |.FunctionDef _ a _ _ _ _ _ _ _ _=>a
 |_=>{posonlyargs:=[],args:=[],vararg:=af,kwonlyargs:=[],kw_defaults:=[],kwarg:=af,defaults:=[]}
noncomputable def fN(s:c_):List c_:=match s with
 |.FunctionDef _ _ b _ _ _ _ _ _ _=>b
 |_=>[]
noncomputable def bJ(s:c_):gj:=match s with
 |.FunctionDef _ _ _ _ _ _ sc _ _ _=>sc
 |_=>{kind:=.function,names:=[],isGenerator:=ag,isCoroutine:=ag}
abbrev DG:GA:=λ_ _ _ _ _ _=>False
abbrev E0:XK:=λ_ _ _=>False
def Uv:Passes DG X E0:=λ_ _ _ _ _ _ _ h=>h.elim
structure YR (K:ar) (x qual:ak) (st:c_) (f:ah) (fd:h_):Prop where
 ex:∃(oc:ai) (od:Option ah) (kV doc pm:ai) (an:Option ah) (cdv ct:ai) (osl:Array (Option ai)),
  fd=fnOf x qual (qL st) (fN st) (bJ st) .none kV doc pm an cdv ct/\K.lookup f=aa ⟨oc,od,.func fd,osl⟩/\codeIn K cdv qual=ae
 kp:keepIn K (.ref f)=ae
section
variable{P:bg}{w:ba}{K:ar}{mg:Q0d}{ω:bb}
theorem YR.ok{x qual:ak}{st:c_}{f:ah}{fd:h_}{N l:Q0g}{k:Nat}{sp:Sp}(F:YR K x qual st f fd)(S:hJ N l (bJ st))(len:∀d H Q E,sp d H Q E->d.length=l.length)
  (j:∀(a:ai) (A:br) (outer:List dq) (s:ao) (H:Hp) (d:List V) (Q:VK) (E:XK),gA k (A.deeper (envOfC qual (bJ st) s.heap.objs.size f a))->sp d H Q E ->
   ∃t,EX (mT DG P w K mg ω N qual (bJ st) f a A outer s H E).TK (fN st) t/\t {nx:=λ_ H'=>Q .non H',rt:=Q} (start N d) H):mS P w K mg ω DG (k+1) f fd l sp:=by
 obtain⟨I,z,kV,doc,y,J,a,ct,o,rfl,p,n⟩:=F.ex;show YN p n S len λA outer s H d Q E v m=>?_;obtain⟨t,h,q⟩:=j a A outer s H d Q E v m;show⟨t,h.TK,q⟩
theorem Xp{x qual:ak}{st:c_}{f:ah}{n:ai}{m j:Option ah}{d:Array (Option ai)}{kV doc h a ct:ai}(l:K.lookup f=aa ⟨n,m,.func (fnOf x qual (qL st) (fN st) (bJ st) .none kV doc h j a ct),d⟩)
  (c:codeIn K a qual=ae) (k:keepIn K (.ref f)=ae):YR K x qual st f (fnOf x qual (qL st) (fN st) (bJ st) .none kV doc h j a ct):=⟨⟨n,m,kV,doc,h,j,a,ct,d,rfl,l,c⟩,k⟩
end
def ξ(H H':Hp):Prop:=∀b o,H b=aa o->H' b=aa o
def ξ.refl(H:Hp):ξ H H:=λ_ _ h=>h
def ξ.trans{H j d:Hp}(a:ξ H j)(b:ξ j d):ξ H d:=λc o h=>b c o (a c o h)
theorem ξ.free{H H':Hp}(e:ξ H H'){l:ah}(h:H' l=af):H l=af:=by
 cases q:H l with
 |none=>rfl
 |some o =>
  rw[e l o q] at h;cases h
section
variable{κ:Type}[DecidableEq κ]
def mB(χ:List (κ×V))(k:κ):Option V:=(χ.find? λa=>Zv (a.1=k)).map (·.2)
def putK(χ:List (κ×V))(k:κ)(v:V):List (κ×V) :=
 if(χ.any λa=>Zv (a.1=k))=ae then χ.map (λa=>if a.1=k then(a.1,v) else a) else χ++[(k,v)]
def vR{p:κ×V}{r:List (κ×V)}{k:κ}(e:p.1=k):mB (p::r) k=aa p.2:=by simp[mB,gx,e]
def vS{p:κ×V}{r:List (κ×V)}{k:κ}(e:¬ p.1=k):mB (p::r) k=mB r k:=by simp[mB,gx,e]
theorem vT(k:κ):∀χ:List (κ×V),(χ.any λa=>Zv (a.1=k))=(mB χ k).isSome
 |[]=>rfl
 |p::r=>by
  rw[j_];by_cases e:p.1=k
  .simp only[vR e,Zx e,Bool.true_or,Option.isSome_some]
  .rw [vS e,Zy e,nj];show vT k r
def mV(χ:List (κ×V))(k:κ)(v:V):(putK χ k v).length<=χ.length+1:=by
 unfold putK;split
 .rw [a_];lia
 .rw [bq,cf,cy];lia
def QW{χ:List (κ×V)}{k:κ}(v:V)(h:mB χ k=af):putK χ k v=χ++[(k,v)]:=by unfold putK;rw[vT,h];show Zz (by decide)
theorem mQ.nZ(r:mQ o u):o.isSome=u.isSome:=by
 cases o with
 |none=>cases u with
  |none=>rfl
  |some _=>show(show False from r).elim
 |some _=>cases u with
  |none=>show(show False from r).elim
  |some _=>rfl
theorem mQ.getD{o:Option V}{u:Option ai}{d:V}{d':ai}(r:mQ o u)(rd:Ψ d d'):Ψ (o.getD d) (u.getD d'):=by
 cases o with
 |none=>cases u with
  |none=>show rd
  |some _=>show(show False from r).elim
 |some _=>cases u with
  |none=>show(show False from r).elim
  |some _=>show r
theorem KV.val{χ:List (κ×V)}{d:List (κ×ai)}(r:KV χ d)(k:κ):mQ (mB χ k) (valueAt d k):=by
 unfold KV at r
 induction r with
 |nil=>show iw
 | @cons p q ps qs h t ih =>
  obtain⟨j,h2⟩:=h;by_cases e:p.1=k
  .have a:q.1=k:=j.symm.trans e;have b:valueAt (q::qs) k=aa q.2:=by simp[valueAt,gx,a]
   rw[vR e,b];show h2
  .have a:¬ q.1=k:=λz=>e (j.trans z);have b:valueAt (q::qs) k=valueAt qs k:=by simp[valueAt,gx,a]
   rw[vS e,b];show ih
theorem KV.any{χ:List (κ×V)}{d:List (κ×ai)}(r:KV χ d)(k:κ):(χ.any λa=>Zv (a.1=k))=d.any λa=>Zv (a.1=k):=by
 unfold KV at r
 induction r with
 |nil=>rfl
 |cons h t ih=>rw[j_,j_,ih,h.1]
theorem KV.repl(r:KV χ vs)(k:κ)(j:Ψ y u):
  KV (χ.map λa=>if a.1=k then(a.1,y) else a) (vs.map λa=>if a.1=k then(a.1,u) else a):=by
 unfold KV at r ⊢
 induction r with
 |nil=>show .nil
 | @cons p q ps qs h t ih =>
  rw[bp,bp];show .cons ?_ ih;obtain⟨d,h2⟩:=h;by_cases e:p.1=k
  .rw [Z_ e,Z_ (d.symm.trans e)];show⟨d,j⟩
  .rw [Zz e,Zz (λz=>e (d.trans z))];show⟨d,h2⟩
def KV.put(r:KV χ vs)(k:κ)(a:Ψ y u):KV (putK χ k y) (stored vs k u):=by
 unfold putK stored;rw[r.any k];by_cases e:(vs.any λd=>Zv (d.1=k))=ae
 .rw [Z_ e,Z_ e];show r.repl k a
 .rw [Zz e,Zz e];show xp r ⟨rfl,a⟩
def KV.length{χ:List (κ×V)}{a:List (κ×ai)}(r:KV χ a):χ.length=a.length:=ql r
end
theorem mW(r:Ψ (kV k) u):(bE P w).is k u=ae:=by
 cases k with
 |inl i=>obtain⟨t,e⟩:=(show ∃t,u=mf i t from r);subst e;show C5 P w i t
 |inr x=>obtain⟨t,e⟩:=(show ∃t,u=xj x t from r);subst e;show C6 P w x t
theorem y6:∀{ks:List Key} {a:Q0f},θ (ks.map kV) a->ItemsAre (bE P w) ks a
 |[],_,r=>by rw[qv] at r;cases r;show .nil
 |k::ks,_,r=>by
  rw[bp] at r
  cases r with
  |cons h t=>show .cons (mW h) (y6 t)
abbrev KT(H:Hp):List (List Key×V)->List (List Key×ah×ai)->Prop:=ij λp q=>p.1=q.1/\H q.2.1=aa (.tup (p.1.map kV))/\Ψ p.2 q.2.2
theorem KT.val{H:Hp}{χ:List (List Key×V)}{xs:List (List Key×ah×ai)}(r:KT H χ xs)(k:List Key):mQ (mB χ k) ((atKey xs k).map (·.2)):=by
 induction r with
 |nil=>show iw
 | @cons p q ps qs h t ih =>
  obtain⟨d,_,h2⟩:=h;by_cases e:p.1=k
  .have a:q.1=k:=d.symm.trans e;have b:atKey (q::qs) k=aa q.2:=by simp[atKey,gx,a]
   rw[vR e,b];show h2
  .have a:¬ q.1=k:=λz=>e (d.trans z);have b:atKey (q::qs) k=atKey qs k:=by simp[atKey,gx,a]
   rw[vS e,b];show ih
theorem KT.repl(r:KT H χ xs)(k:List Key)(j:Ψ y u):
  KT H (χ.map λd=>if d.1=k then(d.1,y) else d) (xs.map (putAt k u)):=by
 induction r with
 |nil=>show .nil
 | @cons p q ps qs h t ih =>
  rw[bp,bp];show .cons ?_ ih;obtain⟨a,h2,l⟩:=h;unfold putAt;by_cases e:p.1=k
  .rw [Z_ e,Z_ (a.symm.trans e)];show⟨a,h2,j⟩
  .rw [Zz e,Zz (λz=>e (a.trans z))];show⟨a,h2,l⟩
theorem KT.put(r:KT H χ xs)(k:List Key)(h:H b=aa (.tup (k.map kV)))(a:Ψ y u):
  KT H (putK χ k y) (storedH xs k b u):=by
 have e:(χ.any λd=>Zv (d.1=k))=(atKey xs k).isSome:=by rw[vT,(r.val k).nZ,uh]
 unfold putK storedH;rw[e];by_cases q:(atKey xs k).isSome=ae
 .rw [Z_ q,Z_ q];show r.repl k a
 .rw [Zz q,Zz q];show xp r ⟨rfl,h,a⟩
def KT.keeps(r:KT H χ xs)(a:∀b ys,H b=aa (.tup ys)->H' b=aa (.tup ys)):KT H' χ xs :=
 Paired.wm r λ_ _ z=>⟨z.1,a _ _ z.2.1,z.2.2⟩
section
variable{P:bg}{w:ba}{H:Hp}{h:bb}{a:ah}
def YS(ok:n9 P w H h)(e:Rd H a u):dR P w H h a u:=e.ok ok
def QX(ok:n9 P w H h)(e:Rd H a (.dK χ)):χ.length<=bf/\(a == sysModules)=ag /\∃d,KV χ d/\h.DictOf (bE P w) a d :=
 show dR P w H h a (.dK χ) from YS ok e
def YT(ok:n9 P w H h)(e:H a=aa (.dK χ)):χ.length<=bf/\(a == sysModules)=ag /\∃d,KV χ d/\h.DictOf (bE P w) a d:=QX ok (.inl e)
def BB(ok:n9 P w H h)(e:H a=aa (.tup (ks.map kV))):(tupleKind (bE P w)).is h ks a:=by obtain⟨_,d,r,⟨o,l,h2,n,j⟩,_⟩:=(show dR P w H h a (.tup (ks.map kV)) from ok a _ e);show⟨o,d.toArray,n,l,h2,j,by simpa using y6 r⟩
theorem QY(ok:n9 P w H h)(e:Rd H a (.dT χ)):χ.length<=bf/\(a == sysModules)=ag /\
  ∃xs,KT H χ xs/\h.DictOfH (tupleKind (bE P w)) a xs:=by
 obtain⟨z,y,xs,r,o,F,I,A,h2,v,n,j⟩:=(show dR P w H h a (.dT χ) from YS ok e);show⟨z,y,xs,r,o,F,I,A,h2,v,n,λx d=>?_,j⟩;have all:∀{l:List (List Key×V)} {m:List (List Key×ah×ai)},KT H l m ->∀x∈m,(tupleKind (bE P w)).is h x.1 x.2.1:=by
  intro l m q
  induction q with
  |nil=>intro x d;show nomatch d
  | @cons p q ps qs hq t ih =>
   intro x d;rcases cb.mp d with e|d
   .subst e;show BB ok (by rw[<- hq.1];show hq.2.1)
   .exact ih x d
 show all r x d
theorem Uu(ok:n9 P w H h)(e:H a=aa (.dT χ)):χ.length<=bf/\(a == sysModules)=ag /\
  ∃xs,KT H χ xs/\h.DictOfH (tupleKind (bE P w)) a xs:=QY ok (.inl e)
end
def MD(H:Hp)(a:ah)(y:V)(r:Option V):Prop :=
 (∃χ k,Rd H a (.dK χ)/\y=kV k/\r=mB χ k) \/∃χ k b,Rd H a (.dT χ)/\y=.ref b/\H b=aa (.tup (k.map kV))/\r=mB χ k
def QZ(H:Hp)(a:ah)(y v:V)(H':Hp):Prop :=
 (∃χ k,H a=aa (.dK χ)/\y=kV k/\χ.length<bf/\H'=upd H a (.dK (putK χ k v))) \/
 ∃χ k b,H a=aa (.dT χ)/\y=.ref b/\H b=aa (.tup (k.map kV))/\χ.length<bf/\H'=upd H a (.dT (putK χ k v))
def MD.k{H:Hp}{a:ah}{χ:List (Key×V)}{k:Key}(e:H a=aa (.dK χ)):MD H a (kV k) (mB χ k):=.inl ⟨χ,k,.inl e,rfl,rfl⟩
def QZ.k{H:Hp}{a:ah}{χ:List (Key×V)}{k:Key}{v:V}(e:H a=aa (.dK χ))(d:χ.length<bf):QZ H a (kV k) v (upd H a (.dK (putK χ k v))):=.inl ⟨χ,k,e,rfl,d,rfl⟩
section
variable{X:Cx}{π:Q0b}{σ:St}{H:Hp}{s:ao}{a:ah}{y v:V}{u r:ai}{o:Option V}{A:br}{E:Q0c}
def Φ.big(I:Φ X π σ H s):sysModules<s.heap.objs.size:=by have h:jb<s.heap.objs.size:=(I.mod.glob.keeps I.bk).lt;show a1W (by decide) h
theorem ME(F:A.units+1<bx)(I:Φ X π σ H s)(g:MD H a y (aa v))(q:Ψ y u)(h:∀d s',Φ X π σ H s'->Ψ v d->Q d s'):
  aw (ay X.Ω X.w) A (getItem (.ref a) u) Q E s:=by
 rcases g with⟨χ,k,e,n,l⟩|⟨χ,k,b,e,n,L,l⟩
 .subst n;obtain⟨z,K,x,rel,dd⟩:=QX I.hok e;obtain⟨d,hw,j⟩:=mQ.some_of (v:=v) (o:=valueAt x k) (by rw[l];show rel.val k);show a0a (mW q) dd.mapOf hw (h d _ (I.tok _) j)
 .subst n;cases (show u=fm b from q);obtain⟨z,K,xs,rel,dd⟩:=QY I.hok e;obtain⟨d,hw,j⟩:=mQ.some_of (v:=v) (o:=(atKey xs k).map (·.2)) (by rw[l];show rel.val k);obtain⟨p,J,m⟩:=k_.mp hw;show a0b (a0i F) (BB I.hok L) dd J ?_;rw[m];show h d _ (I.tok _) j
theorem lV(I:Φ X π σ H s)(d:Mut (H a))(h:jw a s.heap h')(j:∃q,h'.get? a=aa q)(new:dR X.Ω X.w (upd H a ob) h' a ob):
  Φ X π σ (upd H a ob) {s with heap:=h',toks:=t' } :=
 I.write (x:=a) (e:=a) d (.inl rfl) (λb q l z=>(h.2 b l).trans z) j new
theorem Q0(z:χ.length<=bf)(d:(a == sysModules)=ag)(rel:KV χ vs)(dd:h'.DictOf (bE P w) a vs):
  dR P w H' h' a (.dK χ):=⟨z,d,vs,rel,dd⟩
theorem MF(Z:A.units+1<bx)(I:Φ X π σ H s)(g:QZ H a y v H')(K:Ψ y u)(L:Ψ v r)(h:∀s',Φ X π σ H' s'->Q () s'):
  aw (ay X.Ω X.w) A (setItem (.ref a) u r) Q E s:=by
 rcases g with⟨χ,k,e,F,l,J⟩|⟨χ,k,b,e,F,U,l,J⟩
 .subst F J;obtain⟨z,x,Y,rel,dd⟩:=YT I.hok e;have m:Y.length<=bf:=by rw[<- rel.length];show z
  have p:(putK χ k v).length<=bf:=by have:=mV χ k v;lia
  show Zj (hsz:=m) (mW K) dd λh' j n=>h _ ?_;have he:∃q,h'.get? a=aa q:=let ⟨q,_,_,d,_⟩:=j;⟨q,d⟩;show lV I (by rw[e];show iw) n he (Q0 p x (rel.put k L) j)
 .subst F J;cases (show u=fm b from K);obtain⟨z,x,xs,rel,dd⟩:=Uu I.hok e;have m:xs.length<=bf:=by rw[<- ql rel];show z
  have p:(putK χ k v).length<=bf:=by have:=mV χ k v;lia
  show Zk (hsz:=m) (a0i Z) (BB I.hok U) dd λh' j n=>h _ ?_;obtain⟨q,es,ep,d,h2,h3,h4,_,h5⟩:=j;show lV I (by rw[e];show iw) n ⟨q,d⟩ ⟨p,x,_,(rel.put k U L).keeps λc ys O=>?_,q,es,ep,d,h2,h3,h4,h5⟩;rw[bQ (YH O e (λz=>nomatch z))];show O
end
def MG(i:au):Prop:=∀a d,subscripted i ag a d=operate [a,d] (getItem a d)
theorem JO{Ω:bg}{w:ba}{A:br}{E:Q0c}{s:ao}{env:dq}{value slice:au}{q:bc}{T id:String}{Q:Q0c}
  (y:typeLookup (.type T) "__getitem__"=pure (aa (.builtin id))) (v:MG slice)
  (h:aw (ay Ω w) A (eval value env) (λo l=>aw (ay Ω w) A (eval slice env) (λi a=>a.TypeIs o T/\aw (ay Ω w) A (getItem o i) Q E a) E l) E s):
  aw (ay Ω w) A (eval (.Subscript value slice q) env) Q E s:=by
 show Du (ka h (λo l n=>ka n (λi a d=>?_) λ_ _ x=>x) λ_ _ x=>x);obtain⟨p,d⟩:=d;unfold subscriptTail;show aq ?_;rw[getitemInPython_of_ne p.not_modules];show aq (wz p y ?_);have fin:aw (ay Ω w) A (subscripted slice ag o i) (λr j=>aw (ay Ω w) A (letTemporaryGo value o r >>= λ_=>pure r) Q E j) E a:=by rw[v o i];show wpAny_operating (ka d (λr j m=>aq (wpAny_letTemporaryGo (ax m))) λ_ _ x=>x)
 first
  |show ax (aq fin)
  |show aq (ax (aq fin))
  |show aq fin
def DH(I:Φ X π σ H s)(g:MD H a y o):s.TypeIs (.ref a) "dict":=by
 rcases g with⟨χ,k,e,_,_⟩|⟨χ,k,b,e,_,_,_⟩
 .obtain ⟨_,_,d,_,dd⟩:=QX I.hok e;show dd.typeIs
 .obtain ⟨_,_,xs,_,dd⟩:=QY I.hok e;show dd.typeIs
def Ut(h ty:TE):TE:=λσ H Q=>h σ H λx j=>ty σ j λy d=>∃a v,x=.ref a/\MD d a y (aa v)/\Q v d
def Us(j ty h:TE):TS:=λD σ H=>h σ H λv n=>j σ n λx m=>ty σ m λy l=>∃a d,x=.ref a/\QZ l a y v d/\D.nx σ d
section
variable{X:Cx}{o i e value:au}{ν pos' tpos:bc}{td ty tv:TE}
def VX(p:X.A.units+1<bx)(ho:PE X o td)(hi:PE X i ty)(q:MG i):PE X (.Subscript o i ν) (Ut td ty):=by intro π s σ H Q I h;show JO a07.lookup q (dF (ho π s σ H _ I h) λu l ⟨x,K,F,n,q1⟩=>dF (hi π l σ K _ F q1) λU O ⟨y,J,d,m,a,v,ex,g,q2⟩=>?_);subst ex;obtain rfl:u=fm a:=n;show⟨DH d g,ME p d g m λL s3 z j=>⟨v,J,z,j,q2⟩⟩
theorem VY(z:X.A.units+1<bx)(ho:PE X o td)(hi:PE X i ty)(q:PE X value tv)(F:df value (aa (.Subscript o i pos')) ν.line X.env=pure ag):
  PS X (.Assign [.Subscript o i pos'] value ν) (Us td ty tv):=by
 intro π s σ H D I h;show a0g (dF (q π s σ H _ I h) λr j ⟨v,Z,O,n,q1⟩=>dF (ho π j σ Z _ O q1) λu d ⟨x,Y,L,m,q2⟩=>dF (hi π d σ Y _ L q2) λiv s3 ⟨y,H3,K,l,a,U,ex,g,p⟩=>?_) F;subst ex;obtain rfl:u=fm a:=m;show MF z K g l n λs4 J=>⟨σ,U,J,p⟩
end
def DI(h:bb)(a:sysModules<h.objs.size):dR P w H (h.push {cls:=.type "dict",data:=.dict #[]}) h.objs.size (.dK []) :=
 ⟨jx _,beq_eq_false_iff_ne.mpr (d_ (f_ a)),[],.nil,a3m h⟩
def Xo:TE:=λ_ H Q=>∀p,H p=af->Q (.ref p) (upd H p (.dK []))
section
variable{X:Cx}{ν:bc}
def Q2:PE X (.Dict [] [] ν) Xo:=λπ s σ H Q I h =>
 a0f ⟨.ref s.heap.objs.size,_,I.laid (a:=s.heap.objs.size) (o:=.dK []) (t':=s.toks) (λ_ _ q=>ck _ q) (bh _) (DI s.heap I.big),rfl,h _ (I.hok.fresh (bh _))⟩
end
noncomputable def BC:List (TE×TE)->St->Hp->(List (V×V)->Hp->Prop)->Prop
 |[],_,H,Q=>Q [] H
 | (tk,tv)::r,σ,H,Q=>tk σ H λx j=>tv σ j λy h=>BC r σ h λa d=>Q ((x,y)::a) d
abbrev VV:List (V×V)->List (ai×ai)->Prop:=ij λp q=>Ψ p.1 q.1/\Ψ p.2 q.2
def PPs(X:Cx)(d:bc)(keys:List (Option au))(values:List au)(j:List (TE×TE)):Prop :=
 ∀(π:Q0b) (s:ao) (σ:St) (H:Hp) (Q:List (V×V)->Hp->Prop),Φ X π σ H s->BC j σ H Q ->
  aw (ay X.Ω X.w) X.A (evalPairs (pairTrees keys values X.env d)) (λh s'=>∃a H',Φ X π σ H' s'/\VV a h/\Q a H') X.xe s
def JP:PPs X ν [] [] []:=λπ s σ H Q I h=>pairTrees_nil_walk ⟨[],H,I,.nil,h⟩
theorem DJ(q:PE X k tk)(o:PE X v tv)(p:PPs X ν ks vs MH):
  PPs X ν (aa k::ks) (v::vs) ((tk,tv)::MH):=λπ s σ H Q I h =>
 pairTrees_cons_walk (dF (q π s σ H _ I h) λu d ⟨x,L,F,l,q1⟩=>dF (o π d σ L _ F q1) λU a ⟨y,K,A,j,q2⟩ =>
  dF (p π a σ K _ A q2) λO s3 ⟨n,J,z,rel,m⟩=>⟨(x,y)::n,J,z,.cons ⟨l,j⟩ rel,m⟩)
def mX(χ more:List (Key×V)):List (Key×V):=more.foldl (λd a=>putK d a.1 a.2) χ
theorem KV.merge:∀{more:List (Key×V)} {d:List (Key×ai)} {χ:List (Key×V)} {a:List (Key×ai)},KV more d->KV χ a->KV (mX χ more) (merged a d):=by
 intro more d χ a r;unfold KV at r
 induction r generalizing χ a with
 |nil=>intro q;show q
 | @cons p q ps qs h t ih =>
  intro j;have e:KV (putK χ p.1 p.2) (stored a q.1 q.2):=by have:=j.put p.1 h.2;rw[<- h.1];show this
  show ih e
theorem oG:∀(more χ:List (Key×V)),(mX χ more).length<=χ.length+more.length
 |[],χ=>by show χ.length<=χ.length+0;lia
 |p::r,χ=>by have a:=oG r (putK χ p.1 p.2);have h2:=mV χ p.1 p.2;show(mX (putK χ p.1 p.2) r).length<=_;rw[cf];lia
theorem vU:∀{χ:List (Key×V)} {j:List (ai×ai)},VV (χ.map λl=>(kV l.1,l.2)) j ->∃d,Carries (bE P w) j d/\KV χ d
 |[],_,r=>by rw[qv] at r;cases r;show⟨[],iw,.nil⟩
 |p::χ,_,r=>by
  rw[bp] at r
  cases r with
  | @cons a b as bs h t =>
   obtain⟨d,c,q⟩:=vU (P:=P) (w:=w) t;obtain⟨n,m⟩:=b;show⟨(p.1,m)::d,⟨mW h.1,rfl,c⟩,.cons ⟨rfl,h.2⟩ q⟩
def Ua(j:List (TE×TE)):TE:=λσ H Q=>∀p,H p=af->BC j σ (upd H p (.dK [])) λh d=>d p=aa (.dK []) /\∃χ:List (Key×V),h=χ.map (λa=>(kV a.1,a.2))/\χ.length<=15/\Q (.ref p) (upd d p (.dK (mX [] χ)))
theorem VZ(h:PPs X ν keys values MH)(d:keys.all (·.isSome)=ae)(J:keys.length=values.length)(U:keys≠[])
  (n:keys.length<=15):PE X (.Dict keys values ν) (Ua MH):=by
 intro π s σ H Q I q;have F:=I.hok.fresh (bh s.heap.objs.size);have Z:=I.laid (a:=s.heap.objs.size) (o:=.dK []) (h':=s.heap.push {cls:=.type "dict",data:=.dict #[]}) (t':=s.toks) (λ_ _ q=>ck _ q) (bh _) (DI s.heap I.big);show wpAny_Dict_walk (knd:=bE X.Ω X.w) d J U n (dF (h π _ σ _ _ Z (q _ F)) λws s2 ⟨ps,H2,j,rel,e,χ,Y,lk,q2⟩=>?_);subst Y;obtain⟨p,c,v⟩:=vU (P:=X.Ω) (w:=X.w) rel;obtain⟨z,L,m,x,dd⟩:=YT j.hok e;cases x;show⟨p,c,dd,λh' l A=>⟨.ref s.heap.objs.size,_,?_,rfl,q2⟩⟩;have y:(mX [] χ).length<=bf:=by have O:=oG χ [];rw[cy] at O;rw[ie];lia
 have K:∃q,h'.get? s.heap.objs.size=aa q:=let ⟨q,_,_,hq,_⟩:=l;⟨q,hq⟩;show lV j (by rw[e];show iw) A K (Q0 y L (v.merge .nil) l)
structure M2 (X:Cx) (o:au) (m:ak) (apos:bc) (e f:au) (cpos:bc):Prop where
 ω:attributeBase o m X.env (eval o X.env)=eval o X.env
 few:((dj cpos (av [e,f] X.env)).all (λx=>!x.1)&&(backToKw cpos (ku [] X.env)).all (λx=>x.1.isSome)
  && Zv (([e,f]:List au).length+([]:List g_).length+(if([]:List g_).isEmpty then 0 else 1)<30))=ae
 line:(apos.endLine == cpos.line)=ae
 trees:dj cpos (av [e,f] X.env)=[(ag,eval e X.env),(ag,eval f X.env)]
end L2
end
namespace L3
open L2
def YU(K:ar)(H:Hp)(a:ah)(ns:Q0e):Prop:=(∃o,H a=aa (.xC o (.lst (ns.map V.int))))\/fU K (λ_=>af) a (ns.map V.int)
def Rw(S:ah->Prop)(H:Hp)(xs:Q0a)(p:ah):Prop:=∃d:List ah,H p=aa (.lst (d.map V.ref))/\d.Nodup/\(∀a∈d,S a)/\d.map H=xs.map λx=>aa (.lst (x.map V.int))
mutual
noncomputable def Dn(K:ar)(S:ah->Prop)(H:Hp):D->V->Prop
 |.non,v=>v=.non
 |.bl b,v=>v=.bl b
 |.int i,v=>v=.int i
 |.str x,v=>v=.str x
 |.tup ds,v=>∃a xs,v=.ref a/\H a=aa (.tup xs)/\aZ K S H ds xs
 |.lst ds,v=>∃a xs,v=.ref a/\H a=aa (.lst xs)/\S a/\aZ K S H ds xs
 |.gK ns,v=>∃a,v=.ref a/\YU K H a ns
 |.jD ks ds,v=>∃a xs,v=.ref a/\H a=aa (.dK (ks.zip xs))/\S a/\ks.length=xs.length/\aZ K S H ds xs
 |.dG q ks ds,v=>∃a o χ,v=.ref a/\H a=aa (.dX o χ)/\S a/\(χ.map (·.1)=ks/\q a o)/\aZ K S H ds (χ.map (·.2.2))
 |.exc _ a,v=>v=.ref a
 |.rws xs,v=>∃a,v=.ref a/\S a/\Rw S H xs a
noncomputable def aZ(K:ar)(S:ah->Prop)(H:Hp):List D->List V->Prop
 |[],xs=>xs=[]
 |d::ds,xs=>∃v r,xs=v::r/\Dn K S H d v/\aZ K S H ds r
end
structure Fits (K:ar) (S S':ah->Prop) (H H':Hp):Prop where
 t:∀a xs,H a=aa (.tup xs)->H' a=aa (.tup xs)
 s:∀a ns,YU K H a ns->YU K H' a ns
 l:∀a xs,H a=aa (.lst xs)->S a->H' a=aa (.lst xs)/\S' a
 d:∀a xs,H a=aa (.dK xs)->S a->H' a=aa (.dK xs)/\S' a
 e:∀a o xs,H a=aa (.dX o xs)->S a->H' a=aa (.dX o xs)/\S' a
section
variable{K:ar}{S S':ah->Prop}{H H':Hp}
def Rw.fits(f:Fits K S S' H H')(v:∀ys,H p=aa (.lst ys)->H' p=aa (.lst ys))(h:Rw S H xs p):Rw S' H' xs p:=by
 obtain⟨j,y,h2,q,o⟩:=h;have m:j.length=xs.length:=by have:=congrArg qy o;simpa using this
 have d:∀i (hi:i<j.length),H j[i]=aa (.lst ((xs[i]'(m▸hi)).map V.int)):=λi hi=>by have:=congrArg (λl=>l[i]?) o;simpa[hi,m▸hi] using this
 show⟨j,v _ y,h2,λa n=>?_,List.ext_getElem (by simpa using m) λi hi x=>?_⟩
 .obtain ⟨i,hi,rfl⟩:=oz n;show(f.l _ _ (d i hi) (q _ n)).2
 .rw [a_] at hi;rw[a2e,a2e];show(f.l _ _ (d i hi) (q _ (jz hi))).1
mutual
theorem Dn.fits(f:Fits K S S' H H'):∀(d:D) (v:V),Dn K S H d v->Dn K S' H' d v
 |.non,v,h=>by simpa only[Dn] using h
 |.bl b,v,h=>by simpa only[Dn] using h
 |.int i,v,h=>by simpa only[Dn] using h
 |.str x,v,h=>by simpa only[Dn] using h
 |.tup ds,v,h=>by symm at h ⊢;obtain⟨a,xs,e,q,r⟩:=h;show⟨a,xs,e,f.t a xs q,aZ.fits f ds xs r⟩
 |.lst ds,v,h=>by symm at h ⊢;obtain⟨a,xs,e,q,s,r⟩:=h;obtain⟨j,s'⟩:=f.l a xs q s;show⟨a,xs,e,j,s',aZ.fits f ds xs r⟩
 |.gK ns,v,h=>by symm at h ⊢;obtain⟨a,e,q⟩:=h;show⟨a,e,f.s a ns q⟩
 |.jD ks ds,v,h=>by symm at h ⊢;obtain⟨a,xs,e,q,s,l,r⟩:=h;obtain⟨j,s'⟩:=f.d a _ q s;show⟨a,xs,e,j,s',l,aZ.fits f ds xs r⟩
 |.dG _ ks ds,v,h=>by symm at h ⊢;obtain⟨a,o,χ,e,q,s,l,r⟩:=h;obtain⟨j,s'⟩:=f.e a _ _ q s;show⟨a,o,χ,e,j,s',l,aZ.fits f ds _ r⟩
 |.exc _ _,v,h=>by simpa only[Dn] using h
 |.rws xs,v,h=>by symm at h ⊢;obtain⟨a,e,s,r⟩:=h;obtain⟨p,m,h2⟩:=r;show⟨a,e,(f.l a _ m s).2,Rw.fits f (λys n=>(f.l a ys n s).1) ⟨p,m,h2⟩⟩
theorem aZ.fits(f:Fits K S S' H H'):∀(ds:List D) (xs:List V),aZ K S H ds xs->aZ K S' H' ds xs
 |[],xs,h=>by simpa only[aZ] using h
 |d::ds,xs,h=>by simp only[aZ] at h ⊢;obtain⟨v,r,e,a,h2⟩:=h;show⟨v,r,e,Dn.fits f d v a,aZ.fits f ds r h2⟩
end
mutual
theorem Dn.MI:∀(d:D) (v:V),d.qW=ae->Dn K S H d v->Dn K S' H d v
 |.non,v,_,h=>by simpa only[Dn] using h
 |.bl b,v,_,h=>by simpa only[Dn] using h
 |.int i,v,_,h=>by simpa only[Dn] using h
 |.str x,v,_,h=>by simpa only[Dn] using h
 |.tup ds,v,hi,h=>by symm at h ⊢;obtain⟨a,xs,e,q,r⟩:=h;show⟨a,xs,e,q,aZ.MI ds xs (by simpa only[D.qW] using hi) r⟩
 |.lst _,v,hi,h=>by simp only[D.qW] at hi;cases hi
 |.gK ns,v,_,h=>by simpa only[Dn] using h
 |.jD _ _,v,hi,h=>by simp only[D.qW] at hi;cases hi
 |.dG _ _ _,v,hi,h=>by simp only[D.qW] at hi;cases hi
 |.exc _ _,v,_,h=>by simpa only[Dn] using h
 |.rws _,v,hi,h=>by simp only[D.qW] at hi;cases hi
theorem aZ.MI:∀(ds:List D) (xs:List V),jT ds=ae->aZ K S H ds xs->aZ K S' H ds xs
 |[],xs,_,h=>by simpa only[aZ] using h
 |d::ds,xs,hi,h=>by simp only[jT,cm] at hi;simp only[aZ] at h ⊢;obtain⟨v,r,e,a,h2⟩:=h;show⟨v,r,e,Dn.MI d v hi.1 a,aZ.MI ds r hi.2 h2⟩
end
def Dn.qW(hi:d.qW=ae)(h:Dn K S H d v):Dn K S' H d v:=Dn.MI d v hi h
def aZ.qW(hi:jT ds=ae)(h:aZ K S H ds xs):aZ K S' H ds xs:=aZ.MI ds xs hi h
def fU.some(h:fU K (λ_=>af) a xs):fU K H a xs:=by
 rcases h with(h|⟨o,h⟩)|h
 .cases h
 .cases h
 .exact .inr h
def YU.sq(h:YU K H a ns):fU K H a (ns.map V.int):=by
 rcases h with⟨o,h⟩|h
 .exact .inl (.inr ⟨o,h⟩)
 .exact fU.some h
def Wr(H:Hp)(p:ah):Prop:=(∃xs,H p=aa (.lst xs))\/(∃xs,H p=aa (.dK xs)) \/∃o xs,H p=aa (.dX o xs)
def Wr.tup(w:Wr H p)(h:H a=aa (.tup xs)):upd H p o a=aa (.tup xs):=by
 rw[bQ]
 .exact h
 .intro e;subst e;rcases w with⟨ys,w⟩|⟨ys,w⟩|⟨_,ys,w⟩<;>rw[h] at w<;>cases w
def Wr.gK(w:Wr H p)(h:YU K H a ns):YU K (upd H p o) a ns:=by
 rcases h with⟨d,h⟩|h
 .refine .inl ⟨d,?_⟩;rw[bQ]
  .exact h
  .intro e;subst e;rcases w with⟨ys,w⟩|⟨ys,w⟩|⟨_,ys,w⟩<;>rw[h] at w<;>cases w
 .exact .inr h
def Fits.same(e:ξ H H'):Fits K S S H H' :=
 ⟨λa xs h=>e _ _ h,λa ns h=>h.elim (λ⟨o,h⟩=>.inl ⟨o,e _ _ h⟩) .inr,λa xs h s=>⟨e _ _ h,s⟩,λa xs h s=>⟨e _ _ h,s⟩,λa _ xs h s=>⟨e _ _ h,s⟩⟩
def Fits.mono(m:∀a,S a->S' a):Fits K S S' H H :=
 ⟨λ_ _ h=>h,λ_ _ h=>h,λa _ h s=>⟨h,m a s⟩,λa _ h s=>⟨h,m a s⟩,λa _ _ h s=>⟨h,m a s⟩⟩
def Fits.fresh(d:H p=af):Fits K S (λa=>S a/\a≠p) H H :=
 ⟨λ_ _ h=>h,λ_ _ h=>h,λa _ h s=>⟨h,s,bT h d⟩,λa _ h s=>⟨h,s,bT h d⟩,λa _ _ h s=>⟨h,s,bT h d⟩⟩
def Fits.upd(w:Wr H p)(j:¬ S p):Fits K S S H (upd H p o):=by have d:∀a,S a->a≠p:=λa s e=>j (e▸s);show⟨λa xs h=>w.tup h,λa ns h=>w.gK h,λa xs h s=>⟨by rw[bQ (d a s)];show h,s⟩,λa xs h s=>⟨by rw[bQ (d a s)];show h,s⟩,λa _ xs h s=>⟨by rw[bQ (d a s)];show h,s⟩⟩
def Fits.trans(a:Fits K S S' H H')(b:Fits K S' S'' H' H''):Fits K S S'' H H'' :=
 ⟨λx xs h=>b.t x xs (a.t x xs h),λx ns h=>b.s x ns (a.s x ns h),λx xs h s=>let ⟨h1,s1⟩:=a.l x xs h s;b.l x xs h1 s1,λx xs h s=>let ⟨h1,s1⟩:=a.d x xs h s;b.d x xs h1 s1,λx o xs h s=>let ⟨h1,s1⟩:=a.e x o xs h s;b.e x o xs h1 s1⟩
def aU(a:H p=af):ξ H (upd H p o):=λb u h=>by rw[bQ (bT h a)];show h
theorem aZ.len:∀{ds:List D} {xs:List V},aZ K S H ds xs->ds.length=xs.length
 |[],xs,h=>by simp only[aZ] at h;subst h;rfl
 |d::ds,xs,h=>by simp only[aZ] at h;obtain⟨v,r,e,_,h2⟩:=h;subst e;simp[aZ.len h2]
theorem aZ.get:∀{ds:List D} {xs:List V} {i:Nat} {d:D},aZ K S H ds xs->ds[i]?=aa d ->∃v,xs[i]?=aa v/\Dn K S H d v
 |[],xs,i,d,h,e=>by simp at e
 |d::ds,xs,i,d',h,e=>by
  simp only[aZ] at h;obtain⟨v,r,j,a,h2⟩:=h;subst j
  cases i with
  |zero=>simp at e;subst e;show⟨v,by simp,a⟩
  |succ i =>
   obtain⟨u,e2,q⟩:=aZ.get (i:=i) (d:=d') h2 (by simpa using e);show⟨u,by simpa using e2,q⟩
def aZ.nil:aZ K S H [] []:=by simp only[aZ]
def aZ.cons(h:Dn K S H d v)(t:aZ K S H ds xs):aZ K S H (d::ds) (v::xs):=by simp only[aZ];show⟨v,xs,rfl,h,t⟩
def aZ.bL(h:aZ K S H (d::ds) xs):∃v r,xs=v::r/\Dn K S H d v/\aZ K S H ds r:=by simpa only[aZ] using h
theorem aZ.append:∀{ds a:List D} {xs ys:List V},aZ K S H ds xs->aZ K S H a ys->aZ K S H (ds++a) (xs++ys)
 |[],a,xs,ys,h,g=>by simp only[aZ] at h;subst h;show g
 |d::ds,a,xs,ys,h,g=>by obtain⟨v,r,e,j,h2⟩:=h.bL;subst e;show aZ.cons j (aZ.append h2 g)
def aZ.one(h:Dn K S H d v):aZ K S H [d] [v]:=aZ.cons h aZ.nil
theorem aZ.take:∀{ds:List D} {xs:List V} (n:Nat),aZ K S H ds xs->aZ K S H (ds.take n) (xs.take n)
 |_,_,0,_=>by simp[aZ.nil]
 |[],xs,n+1,h=>by simp only[aZ] at h;subst h;simp[aZ.nil]
 |d::ds,xs,n+1,h=>by obtain⟨v,r,e,a,h2⟩:=h.bL;subst e;simpa using aZ.cons a (aZ.take n h2)
theorem aZ.drop:∀{ds:List D} {xs:List V} (n:Nat),aZ K S H ds xs->aZ K S H (ds.drop n) (xs.drop n)
 |_,_,0,h=>by simpa using h
 |[],xs,n+1,h=>by simp only[aZ] at h;subst h;simp[aZ.nil]
 |d::ds,xs,n+1,h=>by obtain⟨v,r,e,a,h2⟩:=h.bL;subst e;simpa using aZ.drop n h2
theorem aZ.set:∀{ds:List D} {xs:List V} {d:D} {v:V} (n:Nat),Dn K S H d v->aZ K S H ds xs->aZ K S H (ds.set n d) (xs.set n v)
 |[],xs,d,v,n,h,g=>by simp only[aZ] at g;subst g;simp[aZ.nil]
 |d::ds,xs,d',v',n,h,g=>by
  obtain⟨v,r,e,a,h2⟩:=g.bL;subst e
  cases n with
  |zero=>show aZ.cons h h2
  |succ n=>show aZ.cons a (aZ.set n h h2)
theorem aZ.erase:∀{ds:List D} {xs:List V} (n:Nat),aZ K S H ds xs->aZ K S H (ds.eraseIdx n) (xs.eraseIdx n)
 |[],xs,n,g=>by simp only[aZ] at g;subst g;simp[aZ.nil]
 |d::ds,xs,n,g=>by
  obtain⟨v,r,e,a,h2⟩:=g.bL;subst e
  cases n with
  |zero=>show h2
  |succ n=>show aZ.cons a (aZ.erase n h2)
theorem aZ.ints:∀{ns:Q0e} {xs:List V},aZ K S H (ns.map D.int) xs↔xs=ns.map V.int
 |[],xs=>by simp[aZ]
 |n::ns,xs=>by
  rw[bp,bp]
  constructor
  .intro h;obtain⟨v,r,e,a,h2⟩:=h.bL;symm at a;rw[e,a,aZ.ints.mp h2]
  .intro e;rw[e];show aZ.cons (by symm) (aZ.ints.mpr rfl)
end
def Sl(K:ar)(S:ah->Prop)(H:Hp)(ρ:b7)(σ:St):Prop:=∀(i:Nat) (d:D),ρ[i]?=aa (aa d) ->∃v,σ[i]?=aa (aa v)/\Dn K S H d v
theorem Sl.fits{K:ar}{S S':ah->Prop}{H H':Hp}{ρ:b7}{σ:St}(f:Fits K S S' H H')(h:Sl K S H ρ σ):Sl K S' H' ρ σ:=λi d e =>
 let ⟨v,e1,q⟩:=h i d e;⟨v,e1,Dn.fits f d v q⟩
def xP(K:ar)(S:ah->Prop)(H:Hp)(d:D)(p:ah):Prop :=
 match d with
 |.lst ds=>∃xs,H p=aa (.lst xs)/\aZ K S H ds xs
 |.jD ks ds=>∃xs,H p=aa (.dK (ks.zip xs))/\ks.length=xs.length/\aZ K S H ds xs
 |.dG q ks ds=>∃o χ,H p=aa (.dX o χ)/\(χ.map (·.1)=ks/\q p o)/\aZ K S H ds (χ.map (·.2.2))
 |.rws xs=>Rw S H xs p
 |_=>False
def SO(S:ah->Prop)(w:Nat->ah)(ρ:bK):ah->Prop:=λa=>S a /\∀(i:Nat) (d:D),ρ[i]?=aa (Sv.ow d)->a≠w i
structure ST (K:ar) (H₀:Hp) (S:ah->Prop) (w:Nat->ah) (σ:St) (H:Hp) (ρ:bK) (G:List (D×V)):Prop where
 fc:∀a,H₀ a=af->S a
 sm:ξ H₀ H
 own:∀(i:Nat) (d:D),ρ[i]?=aa (Sv.ow d)->σ[i]?=aa (aa (.ref (w i)))/\H₀ (w i)=af/\xP K (SO S w ρ) H d (w i)
 inj:∀(i j:Nat) (d e:D),ρ[i]?=aa (Sv.ow d)->ρ[j]?=aa (Sv.ow e)->w i=w j->i=j
 ro:∀(i:Nat) (d:D),ρ[i]?=aa (Sv.ro d) ->∃v,σ[i]?=aa (aa v)/\Dn K (SO S w ρ) H d v
 gh:∀g∈G,Dn K (SO S w ρ) H g.1 g.2
 rw:∀(i:Nat) (xs:Q0a),ρ[i]?=aa (Sv.ow (.rws xs)) ->∀ys,H (w i)=aa (.lst ys) ->∀a,V.ref a∈ys->H₀ a=af
section
variable{K:ar}{H₀ H H':Hp}{S S':ah->Prop}{w:Nat->ah}{σ:St}{ρ:bK}{G:List (D×V)}
theorem xP.wr(h:xP K S H d p):Wr H p:=by
 cases d with
 |lst ds=>obtain⟨xs,e,_⟩:=h;show .inl ⟨_,e⟩
 |jD ks ds=>obtain⟨xs,e,_⟩:=h;show .inr (.inl ⟨_,e⟩)
 |dG q0 ks ds=>obtain⟨o,χ,e,_⟩:=h;show .inr (.inr ⟨_,_,e⟩)
 |rws xs=>obtain⟨_,e,_⟩:=h;show .inl ⟨_,e⟩
 |_=>show jl h
theorem xP.dn{d:D}{p:ah}(h:xP K S H d p)(j:S' p)(m:∀a,S a->S' a):Dn K S' H d (.ref p):=by
 cases d with
 |lst ds=>obtain⟨xs,e,q⟩:=h;symm;show⟨p,xs,rfl,e,j,aZ.fits (.mono m) ds xs q⟩
 |jD ks ds=>obtain⟨xs,e,l,q⟩:=h;symm;show⟨p,xs,rfl,e,j,l,aZ.fits (.mono m) ds xs q⟩
 |dG q0 ks ds=>obtain⟨o,χ,e,l,q⟩:=h;symm;show⟨p,o,χ,rfl,e,j,l,aZ.fits (.mono m) ds _ q⟩
 |rws xs=>symm;show⟨p,rfl,j,Rw.fits (.mono (K:=K) m) (λ_ e=>e) h⟩
 |_=>show jl h
theorem xP.fits{d:D}{p:ah}(f:Fits K S S' H H')(a:∀o,H p=aa o->H' p=aa o)(h:xP K S H d p):xP K S' H' d p:=by
 cases d with
 |lst ds=>obtain⟨xs,e,q⟩:=h;show⟨xs,a _ e,aZ.fits f ds xs q⟩
 |jD ks ds=>obtain⟨xs,e,l,q⟩:=h;show⟨xs,a _ e,l,aZ.fits f ds xs q⟩
 |dG q0 ks ds=>obtain⟨o,χ,e,l,q⟩:=h;show⟨o,χ,a _ e,l,aZ.fits f ds _ q⟩
 |rws xs=>show Rw.fits f (λ_ e=>a _ e) h
 |_=>show jl h
def ST.rwN(h:ST K H₀ S w σ H ρ G)(q:ρ[i]?=aa (Sv.ow (.rws xs)))(j:∀o,H (w i)=aa o->H' (w i)=aa o):∀ys,H' (w i)=aa (.lst ys) ->∀a,V.ref a∈ys->H₀ a=af:=λys d=>by obtain⟨l,e,_⟩:=(h.own i _ q).2.2;rw[j _ e] at d;cases d;show h.rw i xs q _ e
def ST.GK(h:ST K H₀ S w σ H ρ G):∀a,H a=af->S a:=λa e=>h.fc a (h.sm.free e)
def ST.JQ(h:ST K H₀ S w σ H ρ G):∀a,H a=af->SO S w ρ a:=λa e=>⟨h.GK a e,λi d q z=>by have wr:=(h.own i d q).2.2.wr;subst z;rcases wr with⟨xs,k⟩|⟨xs,k⟩|⟨_,xs,k⟩<;>rw[e] at k<;>cases k⟩
theorem xQ{i:Nat}{d:D}(h:(bB ρ)[i]?=aa (aa d)):ρ[i]?=aa (Sv.ro d)\/ρ[i]?=aa (Sv.ow d):=by
 unfold bB at h;rw[dg] at h
 cases e:ρ[i]? with
 |none=>rw[e] at h;cases h
 |some s =>
  rw[e] at h
  cases s with
  |no=>cases h
  |ro d'=>cases h;show .inl rfl
  |ow d'=>cases h;show .inr rfl
theorem BD{i:Nat}{d:D}(h:(gO ρ)[i]?=aa (aa d)):ρ[i]?=aa (Sv.ro d):=by
 unfold gO at h;rw[dg] at h
 cases e:ρ[i]? with
 |none=>rw[e] at h;cases h
 |some s =>
  rw[e] at h
  cases s with
  |no=>cases h
  |ro d'=>cases h;rfl
  |ow d'=>cases h
def ST.all(h:ST K H₀ S w σ H ρ G):Sl K S H (bB ρ) σ:=λi d e=>by
 rcases xQ e with e|e
 .obtain ⟨v,a,q⟩:=h.ro i d e;show⟨v,a,Dn.fits (.mono λ_ z=>z.1) d v q⟩
 .obtain ⟨a,e2,q⟩:=h.own i d e;show⟨_,a,q.dn (h.fc _ e2) λ_ z=>z.1⟩
def ST.rd(h:ST K H₀ S w σ H ρ G):Sl K (SO S w ρ) H (gO ρ) σ:=λi d e=>h.ro i d (BD e)
def ST.same(h:ST K H₀ S w σ H ρ G)(e:ξ H H'):ST K H₀ S w σ H' ρ G :=
 ⟨h.fc,h.sm.trans e,λi d q=>let ⟨a,b,c⟩:=h.own i d q;⟨a,b,c.fits (.same e) λo z=>e _ o z⟩,h.inj,λi d q=>let ⟨v,a,b⟩:=h.ro i d q;⟨v,a,Dn.fits (.same e) d v b⟩,λg j=>Dn.fits (.same e) _ _ (h.gh g j),λi xs q=>h.rwN q λo z=>e _ o z⟩
def SO.mono{h:bK}(hw:∀(i:Nat) (d:D),h[i]?=aa (Sv.ow d) ->∃e,ρ[i]?=aa (Sv.ow e)):∀a,SO S w ρ a->SO S w h a:=λa j=>by obtain⟨s,n⟩:=j;show⟨s,λi d e=>let ⟨d',e'⟩:=hw i d e;n i d' e'⟩
def get_set{a:Type}{l:List a}{i j:Nat}{x y:a}(h:(l.set i x)[j]?=aa y):(j=i/\y=x/\i<l.length)\/(j≠i/\l[j]?=aa y):=by
 by_cases e:j=i
 .subst e;by_cases d:j<l.length
  .rw [nc d] at h;show .inl ⟨rfl,(ft h).symm,d⟩
  .rw [qz (by simp;lia)] at h;cases h
 .rw [jq (d_ e)] at h;show .inr ⟨e,h⟩
theorem ST.hZ{i:Nat}{d:D}{v:V}(h:ST K H₀ S w σ H ρ G)(hi:i<σ.length)(q:Dn K (SO S w ρ) H d v):ST K H₀ S w (σ.set i (aa v)) H (ρ.set i (.ro d)) G:=by
 have hw:∀(j:Nat) (e:D),(ρ.set i (.ro d))[j]?=aa (Sv.ow e)->j≠i/\ρ[j]?=aa (Sv.ow e):=λj e l=>by
  rcases get_set l with⟨_,z,_⟩|z
  .cases z
  .exact z
 have m:∀a,SO S w ρ a->SO S w (ρ.set i (.ro d)) a:=SO.mono λj e l=>⟨e,(hw j e l).2⟩;show⟨h.fc,h.sm,λj e l=>?_,λj k d' p A h2=>h.inj j k d' p (hw j d' A).2 (hw k p h2).2,λj e l=>?_,λg y=>Dn.fits (.mono m) _ _ (h.gh g y),λj xs x=>h.rw j xs (hw j _ x).2⟩
 .obtain ⟨n,o⟩:=hw j e l;obtain⟨a,b,c⟩:=h.own j e o;show⟨by rw[jq (d_ n)];show a,b,c.fits (.mono m) λ_ z=>z⟩
 .rcases get_set l with⟨n,z,_⟩|⟨n,z⟩
  .cases z;subst n;show⟨v,nc hi,Dn.fits (.mono m) d v q⟩
  .obtain ⟨u,a,b⟩:=h.ro j e z;show⟨u,by rw[jq (d_ n)];show a,Dn.fits (.mono m) e u b⟩
noncomputable def freeze(ρ:bK)(i:Nat):bK:=match ρ[i]? with
 |some (.ow d)=>ρ.set i (.ro d)
 |_=>ρ
theorem ST.frozen{i:Nat}(h:ST K H₀ S w σ H ρ G):ST K H₀ S w σ H (freeze ρ i) G:=by
 unfold freeze
 cases e:ρ[i]? with
 |none=>show h
 |some s =>
  cases s with
  |no=>show h
  |ro d=>show h
  |ow d =>
   dsimp only;obtain⟨a,b,c⟩:=h.own i d e;have hi:i<σ.length:=(cg.mp a).1;have hw:∀(j:Nat) (e:D),(ρ.set i (.ro d))[j]?=aa (Sv.ow e)->j≠i/\ρ[j]?=aa (Sv.ow e):=λj e p=>by
    rcases get_set p with⟨_,z,_⟩|z
    .cases z
    .exact z
   have m:∀a,SO S w ρ a->SO S w (ρ.set i (.ro d)) a:=SO.mono λj e p=>⟨e,(hw j e p).2⟩;show⟨h.fc,h.sm,λj f o=>?_,λj k d' v F h2=>h.inj j k d' v (hw j d' F).2 (hw k v h2).2,λj f o=>?_,λg A=>Dn.fits (.mono m) _ _ (h.gh g A),λj xs x=>h.rw j xs (hw j _ x).2⟩
   .obtain ⟨a,b,c⟩:=h.own j f (hw j f o).2;show⟨a,b,c.fits (.mono m) λ_ z=>z⟩
   .rcases get_set o with⟨q,z,_⟩|⟨q,z⟩
    .cases z;subst q;show⟨_,a,c.dn ⟨h.fc _ b,λk I y z=>?_⟩ m⟩;obtain⟨n,l⟩:=hw k I y;show n (h.inj _ _ _ _ e l z).symm
    .obtain ⟨u,a,b⟩:=h.ro j f z;show⟨u,a,Dn.fits (.mono m) f u b⟩
theorem ST.pE{i:Nat}{d:D}{p:ah}(h:ST K H₀ S w σ H ρ G)(hi:i<σ.length)(e:ξ H H')(A:H p=af)(q:xP K (λa=>SO S w ρ a/\a≠p) H' d p)
  (U:∀xs,d=.rws xs ->∀ys,H' p=aa (.lst ys) ->∀a,V.ref a∈ys->H₀ a=af:=by intro _ z;cases z):
  ST K H₀ S (λj=>if j=i then p else w j) (σ.set i (aa (.ref p))) H' (ρ.set i (.ow d)) G:=by
 have Z:H₀ p=af:=h.sm.free A;have hw:∀(j:Nat) (e:D),j≠i->(ρ.set i (.ow d))[j]?=aa (Sv.ow e)->ρ[j]?=aa (Sv.ow e):=λj e l Y=>by
  rcases get_set Y with⟨z,_,_⟩|⟨_,z⟩
  .exact Zw z l
  .exact z
 have m:∀a,(SO S w ρ a/\a≠p)->SO S (λj=>if j=i then p else w j) (ρ.set i (.ow d)) a:=λa ⟨⟨s,n⟩,O⟩=>⟨s,λj f v=>by
  show a≠(if j=i then p else w j);by_cases l:j=i
  .rw [Z_ l];show O
  .rw [Zz l];show n j f (hw j f l v)⟩
 have F:Fits K (SO S w ρ) (SO S (λj=>if j=i then p else w j) (ρ.set i (.ow d))) H H':=((Fits.fresh A).trans (.mono m)).trans (.same e);have I:∀(j:Nat) (f:D),ρ[j]?=aa (Sv.ow f)->w j≠p:=λj f v z=>by have wr:=(h.own j f v).2.2.wr;rw[z] at wr;rcases wr with⟨xs,k⟩|⟨xs,k⟩|⟨_,xs,k⟩<;>rw[A] at k<;>cases k
 show⟨h.fc,h.sm.trans e,λj f v=>?_,λj k d' y L h2 z=>?_,λj f v=>?_,λg X=>Dn.fits F _ _ (h.gh g X),λj xs J=>?_⟩
 rotate_right
 .show ∀ys,H' (if j=i then p else w j)=aa (.lst ys)->_;by_cases l:j=i
  .subst l;rw[Z_ rfl];rcases get_set J with⟨_,z,_⟩|⟨z,_⟩
   .exact U xs (Sv.ow.inj z).symm
   .exact Zw rfl z
  .rw [Zz l];show h.rwN (hw j _ l J) λo z=>e _ o z
 .by_cases l:j=i
  .subst l;rcases get_set v with⟨_,z,_⟩|⟨z,_⟩
   .cases z;rw[Z_ rfl];show⟨nc hi,Z,q.fits (.mono m) λ_ z=>z⟩
   .exact Zw rfl z
  .rw [Zz l];obtain⟨a,b,c⟩:=h.own j f (hw j f l v);show⟨by rw[jq (d_ l)];show a,b,c.fits F λo z=>e _ o z⟩
 .have z:(if j=i then p else w j)=(if k=i then p else w k):=z;by_cases l:j=i
  .by_cases x:k=i
   .rw [l,x]
   .rw [Z_ l,Zz x] at z;show Zw z.symm (I k y (hw k y x h2))
  .by_cases x:k=i
   .rw [Zz l,Z_ x] at z;show Zw z (I j d' (hw j d' l L))
   .rw [Zz l,Zz x] at z;show h.inj j k d' y (hw j d' l L) (hw k y x h2) z
 .rcases get_set v with⟨_,z,_⟩|⟨l,z⟩
  .cases z
  .obtain ⟨u,a,b⟩:=h.ro j f z;show⟨u,by rw[jq (d_ l)];show a,Dn.fits F f u b⟩
def ST.write{i:Nat}{d d':D}{o:HO}(h:ST K H₀ S w σ H ρ G)(e:ρ[i]?=aa (Sv.ow d))(q:xP K (SO S w ρ) (upd H (w i) o) d' (w i))(U:∀xs,d'≠.rws xs:=by intro _ z;cases z):ST K H₀ S w σ (upd H (w i) o) (ρ.set i (.ow d')) G:=by
 obtain⟨a0,I,Z⟩:=h.own i d e;have v:SO S w (ρ.set i (.ow d'))=SO S w ρ:=by
  funext a
  show propext ⟨λ⟨s,n⟩=>⟨s,λj f m=>?_⟩,λ⟨s,n⟩=>⟨s,λj f m=>?_⟩⟩
  .by_cases l:j=i
   .subst l;show n j d' (by rw[nc (cg.mp e).1])
   .exact n j f (by rw[jq (d_ l)];show m)
  .by_cases l:j=i
   .subst l;show n j d e
   .exact n j f (by rw[jq (d_ l)] at m;show m)
 have L:¬ SO S w ρ (w i):=λ⟨_,n⟩=>n i d e rfl;have F:Fits K (SO S w ρ) (SO S w ρ) H (upd H (w i) o):=.upd Z.wr L;show⟨h.fc,λb u A=>?_,λj f m=>?_,λj k d1 e1 Y h2 z=>?_,λj f m=>?_,λg X=>by rw[v];show Dn.fits F _ _ (h.gh g X),λj xs O=>?_⟩
 rotate_right
 .rcases get_set O with⟨_,z,_⟩|⟨l,z⟩
  .exact Zw (Sv.ow.inj z).symm (U xs)
  .exact h.rwN z λJ p=>by rw[bQ λy=>l (h.inj _ _ _ _ z e y)];show p
 .rw [bQ (bT A I)];show h.sm b u A
 .rw [v];rcases get_set m with⟨l,z,_⟩|⟨l,z⟩
  .cases z;subst l;show⟨a0,I,q⟩
  .obtain ⟨a,b,c⟩:=h.own j f z;show⟨a,b,c.fits F λJ p=>by rw[bQ λy=>l (h.inj _ _ _ _ z e y)];show p⟩
 .have g1:∃x,ρ[j]?=aa (Sv.ow x):=by
   rcases get_set Y with⟨l,_,_⟩|⟨_,z⟩
   .subst l;show⟨d,e⟩
   .exact ⟨_,z⟩
  have g2:∃x,ρ[k]?=aa (Sv.ow x):=by
   rcases get_set h2 with⟨l,_,_⟩|⟨_,z⟩
   .subst l;show⟨d,e⟩
   .exact ⟨_,z⟩
  obtain⟨_,g1⟩:=g1;obtain⟨_,g2⟩:=g2;show h.inj j k _ _ g1 g2 z
 .rw [v];rcases get_set m with⟨_,z,_⟩|⟨l,z⟩
  .cases z
  .obtain ⟨u,a,b⟩:=h.ro j f z;show⟨u,a,Dn.fits F f u b⟩
def ST.ghost(h:ST K H₀ S w σ H ρ G)(a:∀g∈G',Dn K (SO S w ρ) H g.1 g.2):ST K H₀ S w σ H ρ G':=⟨h.fc,h.sm,h.own,h.inj,h.ro,a,h.rw⟩
end
open PySem.Spec PyProof.Rows
abbrev WE:=b7->(D->Prop)->Prop
abbrev WT:=b7->(Bool->Prop)->Prop
abbrev WA:=b7->(List D->Prop)->Prop
def lift(K:ar)(t:WE):TE:=λσ H Q=>∃(S:ah->Prop) (ρ:b7) (Q3:D->Prop),(∀a,H a=af->S a)/\Sl K S H ρ σ/\t ρ Q3 /\∀v H' d,ξ H H'->Dn K S H' d v->Q3 d->Q v H'
def liftT(K:ar)(t:WT):TT:=λσ H Q=>∃(S:ah->Prop) (ρ:b7) (Q3:Bool->Prop),(∀a,H a=af->S a)/\Sl K S H ρ σ/\t ρ Q3 /\∀b H',ξ H H'->Q3 b->Q b H'
def Q4(K:ar)(t:WA):TA:=λσ H Q=>∃(S:ah->Prop) (ρ:b7) (Q3:List D->Prop),(∀a,H a=af->S a)/\Sl K S H ρ σ/\t ρ Q3 /\∀d H' ds,ξ H H'->aZ K S H' ds d->Q3 ds->Q d H'
def Q5(K:ar)(t:WE):TE:=λσ H Q=>∃(S:ah->Prop) (ρ:b7) (Q3:D->Prop),(∀a,H a=af->S a)/\Sl K S H ρ σ/\t ρ Q3 /\
 ∀p xs H' ds,H p=af->H' p=aa (.lst xs)->ξ H H'->aZ K (λa=>S a/\a≠p) H' ds xs->Q3 (.lst ds)->Q (.ref p) H'
def cK(X:Cx)(e:au)(t:WE):Prop:=PE X e (lift X.K t)
def DK(X:Cx)(e:au)(t:WE):Prop:=PE X e (Q5 X.K t)
def uJ(X:Cx)(e:au)(t:WT):Prop:=PT X e (liftT X.K t)
def vV(X:Cx)(a:List au)(t:WA):Prop:=PA X a (Q4 X.K t)
section
variable{X:Cx}
def imp(h:PE X e t)(f:∀σ H Q,t' σ H Q->t σ H Q):PE X e t':=λπ s σ H Q I q=>h π s σ H Q I (f σ H Q q)
def GL(h:PT X e t)(f:∀σ H Q,t' σ H Q->t σ H Q):PT X e t':=λπ s σ H Q I q=>h π s σ H Q I (f σ H Q q)
def Q6(h:PA X e t)(f:∀σ H Q,t' σ H Q->t σ H Q):PA X e t':=λa π s σ H Q I q=>h a π s σ H Q I (f σ H Q q)
def bI{H H':Hp}{S:ah->Prop}(d:∀a,H a=af->S a)(s:ξ H H'):∀a,H' a=af->S a:=λa e=>d a (s.free e)
theorem DK.pe(h:DK X e t):cK X e t:=imp h λσ H Q a=>by obtain⟨S,ρ,Q3,j,l,m,k⟩:=a;show⟨S,ρ,Q3,j,l,m,λp xs H' ds n d s dn q=>k _ H' _ s (by symm;show⟨p,xs,rfl,d,j p n,aZ.fits (.mono λ_ z=>z.1) ds xs dn⟩) q⟩
noncomputable def V0(i:Nat):WE:=λρ Q=>match ρ[i]? with
 |some (aa d)=>Q d
 |_=>False
def wC(d:D):WE:=λ_ Q=>Q d
def Q7{K:ar}{i:Nat}{σ:L2.St}{H:Hp}{Q:VK}(h:lift K (V0 i) σ H Q):wj i σ H Q:=by
 obtain⟨S,ρ,Q3,m,j,a,k⟩:=h;unfold V0 at a;split at a
 .rename_i d e;obtain⟨v,l,q⟩:=j i d e;show⟨v,l,k v H d (ξ.refl H) q a⟩
 .exact a.elim
def x3(i:Nat)(hN:X.N[i]?=aa x<|>0)(d:xD X.env.scope x<|>3)(h:Zu x<|>1)
  (a:Zt x<|>1):cK X (.Name x ν) (V0 i):=imp (pA hN d h a) λ_ _ _=>Q7
def BE{K:ar}{d:D}{v:V}{σ:L2.St}{H:Hp}{Q:VK}(j:∀S H,Dn K S H d v)(h:lift K (wC d) σ H Q):tC v σ H Q:=by obtain⟨S,ρ,Q3,m,l,a,k⟩:=h;show k v H d (ξ.refl H) (j S H) a
def i3{j ν}:cK X (.Constant (.int i) j ν) (wC (.int i)):=imp Yk λ_ _ _=>BE (λ_ _=>by symm)
def b3{j ν}:cK X (.Constant (.bool b) j ν) (wC (.bl b)):=imp Uz λ_ _ _=>BE (λ_ _=>by symm)
def s3{j ν}:cK X (.Constant (.str x) j ν) (wC (.str x)):=imp Yj λ_ _ _=>BE (λ_ _=>by symm)
def g3(d:Gl X x)(a:X.mg x=aa (.int i t))(h:Zu x<|>1):cK X (.Name x ν) (wC (.int i)) :=
 imp (VA d a (v:=.int i) ⟨t,rfl⟩ h) λ_ _ _=>BE (λ_ _=>by symm)
abbrev F2:=D->D->(D->Prop)->Prop
def iA(f:F2)(d a:WE):WE:=λρ Q=>d ρ λx=>a ρ λy=>f x y Q
def O3(K:ar)(r:R2)(f:F2):Prop:=∀(S:ah->Prop) (H:Hp) (x y:V) (j h:D) (Q3:D->Prop) (Q:VK),(∀a,H a=af->S a)->Dn K S H j x->Dn K S H h y->f j h Q3 ->
 (∀v H' d,ξ H H'->Dn K S H' d v->Q3 d->Q v H')->r x y H Q
def qM{K:ar}{r:R2}{f:F2}{p o:WE}{σ:L2.St}{H:Hp}{Q:VK}(z:O3 K r f)(h:lift K (iA f p o) σ H Q):pj r (lift K p) (lift K o) σ H Q:=by obtain⟨S,ρ,Q3,l,q,y,k⟩:=h;show⟨S,ρ,_,l,q,y,λv J d a F q1=>?_⟩;show⟨S,ρ,_,bI l a,Sl.fits (.same a) q,q1,λu I A j n q2=>?_⟩;show z S I v u d A Q3 Q (bI l (a.trans j)) (Dn.fits (.same j) _ _ F) n q2 λv' H' d' s' m x=>k v' H' d' ((a.trans j).trans s') m x
theorem Q8(ho:iC X (binaryOp op) r)(j:O3 X.K r f)(h:cK X a ta)(d:cK X b tb):cK X (.BinOp a op b ν) (iA f ta tb) :=
 imp (YI ho h d) λ_ _ _=>qM j
def BF(C:Int->Int->Prop)(g:Int->Int->D):F2
 |.int i,.int j,Q=>C i j/\Q (g i j)
 |_,_,_=>False
theorem lW{K:ar}{C:Int->Int->Prop}{g:Int->Int->Int}:O3 K (rI C λi j=>.int (g i j)) (BF C λi j=>.int (g i j)):=by
 intro S H x y m l Q3 Q n h d a k;cases m<;>cases l<;>try show a.elim
 symm at h d;show⟨_,_,h,d,a.1,k _ H _ (ξ.refl H) (by symm) a.2⟩
noncomputable def tF(g:Int->Int->D):F2
 |.int i,.int j,Q=>Q (g i j)
 |_,_,_=>False
def V1{K:ar}{g:Int->Int->Int}:O3 K (LS λi j=>.int (g i j)) (tF λi j=>.int (g i j)):=by
 intro S H x y m l Q3 Q n d a h k;cases m<;>cases l<;>try show h.elim
 symm at d a;show⟨_,_,d,a,k _ H _ (ξ.refl H) (by symm) h⟩
def Mw:F2:=tF λi j=>.int (i-j)
def Mv:F2:=BF (λ_ j=>0<j) λi j=>.int (i%j)
def Mu:F2:=BF A_ λi j=>.int (i/j)
def Mt:F2:=BF wt λi j=>.int (i^j.toNat)
section
variable{a b:au}{ν:bc}{ta tb:WE}
def Ms(h:cK X a ta)(d:cK X b tb):cK X (.BinOp a .Sub b ν) (iA Mw ta tb):=Q8 Yf V1 h d
def Mr(h:cK X a ta)(d:cK X b tb):cK X (.BinOp a .Mod b ν) (iA Mv ta tb):=Q8 Ye lW h d
def Mq(h:cK X a ta)(d:cK X b tb):cK X (.BinOp a .FloorDiv b ν) (iA Mu ta tb):=Q8 VI lW h d
def Mp(h:cK X a ta)(d:cK X b tb):cK X (.BinOp a .Pow b ν) (iA Mt ta tb):=Q8 Yd lW h d
end
def YV(K:ar):R2:=λx y H Q=>∃a b xs ys,x=.ref a/\y=.ref b/\fI K H a xs/\fI K H b ys/\xs.length+ys.length<=bf /\
 (xs=[]->Q (.ref b) H)/\(xs≠[]->ys=[]->Q (.ref a) H)/\(xs≠[]->ys≠[] ->∀p,H p=af->Q (.ref p) (upd H p (.tup (xs++ys))))
theorem Q9{Ω:bg}{w:ba}{A:br}{E:Q0c}{s:ao}{t b:ah}{l:Q0f}{Q:Q0c}(x:kh s.heap t #[])(y:kh s.heap b l.toArray)
  (z:Q (.ref b) s):aw (ay Ω w) A (binaryOp .Add (.ref t) (.ref b)) Q E s:=by
 obtain⟨⟨cls,dd,data,q⟩,ho,o,n,m⟩:=id x;obtain⟨⟨p,j,data2,h⟩,a,d,v,hd2⟩:=id y;simp only at o m d hd2;subst o m d hd2;show Cp ⟨_,ho,rfl⟩ ⟨_,a,rfl⟩ Ck Cd C_ Dd (De _ _)
   (tuple_addW0 t b #[] l.toArray n v dd j q h (by simp)) ⟨ho,a,z⟩
theorem RA:iC X (binaryOp .Add) (YV X.K):=by
 intro π s σ H x y v u Q I l j h;obtain⟨a,b,xs,ys,rfl,rfl,o,n,A,q,q1,q2⟩:=h;by_cases d:xs=[]
 .cases l;cases j;subst d;obtain⟨F,p,p1,_⟩:=I.tuple o;obtain⟨m,J,z,_⟩:=I.tuple n;cases p;show Q9 p1 z ⟨.ref b,H,I,rfl,q rfl⟩
 .exact VS π s σ H _ _ v u Q I l j ⟨a,b,xs,ys,rfl,rfl,o,n,d,A,q1 d,q2 d⟩
noncomputable def wc:F2
 |.int i,.int j,Q=>Q (.int (i+j))
 |.lst a,.lst b,Q=>a.length+b.length<=bf/\Q (.lst (a++b))
 |.tup a,.tup b,Q=>a.length+b.length<=bf/\Q (.tup (a++b))
 |.str a,.str b,Q=>a.length+b.length<=bf/\Q (.str (a++b))
 |_,_,_=>False
def Aw(K:ar):R2:=λx y H Q=>(LS λi j=>.int (i+j)) x y H Q\/(Be x y H Q\/(YV K x y H Q \/∃i j,x=.str i/\y=.str j/\i.length+j.length<=bf/\Q (.str (i++j)) H))
theorem Xn{K:ar}:O3 K (Aw K) wc:=by
 intro S H x y I v Q3 Q F l h d k
 cases I with
 |int i =>
  cases v with
  |int j=>symm at l h;show .inl ⟨_,_,l,h,k _ H _ (ξ.refl H) (by symm) d⟩
  |_=>show d.elim
 |str i =>
  cases v with
  |str j=>symm at l h;show .inr (.inr (.inr ⟨_,_,l,h,d.1,k _ H _ (ξ.refl H) (by symm) d.2⟩))
  |_=>show d.elim
 |lst ds =>
  cases v with
  |lst es =>
   symm at l h;obtain⟨a,xs,rfl,A,L,n⟩:=l;obtain⟨b,ys,rfl,z,J,m⟩:=h;show .inr (.inl ⟨a,b,xs,ys,rfl,rfl,A,z,by rw[<- n.len,<- m.len];show d.1,λp o=>k _ _ _ (aU o) ?_ d.2⟩);symm;show⟨p,_,rfl,aW,F p o,aZ.fits (.same (aU o)) _ _ (n.append m)⟩
  |_=>show d.elim
 |tup ds =>
  cases v with
  |tup es =>
   symm at l h;obtain⟨a,xs,rfl,A,n⟩:=l;obtain⟨b,ys,rfl,z,m⟩:=h;show .inr (.inr (.inl ⟨a,b,xs,ys,rfl,rfl,fI.of A,fI.of z,by rw[<- n.len,<- m.len];show d.1,λe=>?_,λ_ e=>?_,λ_ _ p o=>?_⟩))
   .subst e;have e2:ds=[]:=my.mp n.len;subst e2;show k _ H _ (ξ.refl H) (by symm;show⟨b,ys,rfl,z,m⟩) d.2
   .subst e;have e2:es=[]:=my.mp m.len;subst e2;have q:=d.2;rw[jk] at q;show k _ H _ (ξ.refl H) (by symm;show⟨a,xs,rfl,A,n⟩) q
   .refine k _ _ _ (aU o) ?_ d.2;symm;show⟨p,_,rfl,aW,aZ.fits (.same (aU o)) _ _ (n.append m)⟩
  |_=>show d.elim
 |_=>cases v<;>show d.elim
def V2:iC X (binaryOp .Add) (Aw X.K):=iC.or Yg (iC.or QT (iC.or RA F9))
theorem Nq(h:cK X a ta)(d:cK X b tb):cK X (.BinOp a .Add b ν) (iA wc ta tb):=Q8 V2 Xn h d
noncomputable def Au:F2
 |.lst a,.lst b,Q=>a.length+b.length<=bf/\Q (.lst (a++b))
 |_,_,_=>False
def T_{a b:au}{L:bc}{z y:WE}(q:cK X a z)(o:cK X b y):DK X (.BinOp a .Add b L) (iA Au z y):=imp (YI QT q o) λσ H Q h=>by
 obtain⟨S,ρ,Q3,F,A,O,k⟩:=h;show⟨S,ρ,_,F,A,O,λv H1 d m K q1=>?_⟩;show⟨S,ρ,_,bI F m,Sl.fits (.same m) A,q1,λu H2 U l j q2=>?_⟩;cases d<;>cases U<;>try show q2.elim
 symm at K j;obtain⟨a,xs,rfl,q,Z,J⟩:=K;obtain⟨b,ys,rfl,o,Y,I⟩:=j;have x:=aZ.fits (.same l) _ _ J;show⟨a,b,xs,ys,rfl,rfl,l _ _ q,o,by rw[<- J.len,<- I.len];show q2.1,λp n=>k p _ _ _ ((m.trans l).free n) aW ((m.trans l).trans (aU n)) ?_ q2.2⟩;show aZ.fits ((Fits.fresh n).trans (.same (aU n))) _ _ (x.append I)
def Np:WA:=λ_ Q=>Q []
def TM(a:WE)(t:WA):WA:=λρ Q=>a ρ λd=>t ρ λds=>Q (d::ds)
def Nn:vV X [] Np:=Q6 rT λσ H Q a=>by obtain⟨S,ρ,Q3,j,h,d,k⟩:=a;show k [] H [] (ξ.refl H) aZ.nil d
def Tz{e:au}{j:List au}{te:WE}{t:WA}(x:cK X e te)(q:vV X j t)(p:Zq X e j<|>0):vV X (e::j) (TM te t) :=
 Q6 (j5 x q p) λσ H Q h=>by obtain⟨S,ρ,Q3,n,l,o,k⟩:=h;show⟨S,ρ,_,n,l,o,λv I d a z q1=>?_⟩;show⟨S,ρ,_,bI n a,Sl.fits (.same a) l,q1,λF A ds m y q2=>?_⟩;show k _ A _ (a.trans m) (aZ.cons (Dn.fits (.same m) _ _ z) y) q2
def Nm(t:WA):WE:=λρ Q=>t ρ λds=>ds.length<=bf/\Q (.tup ds)
def Nl(t:WA):WE:=λρ Q=>t ρ λds=>ds.length<=bf/\Q (.lst ds)
def Nk{x1}(h:vV X es t):cK X (.Tuple es x1 ν) (Nm t):=imp (QM h) λσ H Q o=>by obtain⟨S,ρ,Q3,n,j,m,k⟩:=o;show⟨S,ρ,_,n,j,m,λq v ds l d q1=>⟨by rw[<- d.len];show q1.1,λp a=>k _ _ _ (l.trans (aU a)) ?_ q1.2⟩⟩;symm;show⟨p,_,rfl,aW,aZ.fits (.same (aU a)) _ _ d⟩
def Ni(h:vV X es t):DK X (.List es ν) (Nl t):=imp (Xz h) λσ H Q q=>by obtain⟨S,ρ,Q3,o,m,n,k⟩:=q;show⟨S,ρ,_,o,m,n,λl v ds d j q1=>⟨by rw[<- j.len];show q1.1,λp a=>k p l _ ds (d.free a) aW (d.trans (aU a)) ?_ q1.2⟩⟩;show aZ.fits ((Fits.fresh a).trans (.same (aU a))) _ _ j
end
section
variable{X:Cx}
noncomputable def l5(t:WE):WT:=λρ Q=>t ρ λd=>match d with
 |.bl b=>Q b
 |_=>False
theorem y7{K:ar}{t:WE}{σ:L2.St}{H:Hp}{Q:Bool->Hp->Prop}(h:liftT K (l5 t) σ H Q):DA (lift K t) σ H Q:=by
 obtain⟨S,ρ,Q3,n,j,m,k⟩:=h;show⟨S,ρ,_,n,j,m,λv o d l a q1=>?_⟩
 cases d with
 |bl b=>symm at a;show⟨b,a,k b o l q1⟩
 |_=>show q1.elim
def vW(f:∀σ H Q,t' σ H Q->t σ H Q)(h:DA t' σ H Q):DA t σ H Q:=f σ H _ h
def GN(ho:iC X (compareOp op) r)(l:O3 X.K r f)(j:cK X a ta)(h:cK X b tb)(d:behindInMarks op b=ag):cK X (.Compare a [op] [b] ν) (iA f ta tb) :=
 imp (VJ ho j h d) λ_ _ _=>qM l
def mY(ho:iC X (compareOp op) r)(m:O3 X.K r f)(l:cK X a ta)(j:cK X b tb)(d:behindInMarks op b=ag):uJ X (.Compare a [op] [b] ν) (l5 (iA f ta tb)) :=
 GL (VL ho l j d) λ_ _ _ h=>vW (λ_ _ _=>qM m) (y7 h)
theorem mZ{K:ar}{g:Int->Int->Bool}:O3 K (LS λi j=>.bl (g i j)) (tF λi j=>.bl (g i j)):=by
 intro S H x y m l Q3 Q n d a h k;cases m<;>cases l<;>try show h.elim
 symm at d a;show⟨_,_,d,a,k _ H _ (ξ.refl H) (by symm) h⟩
noncomputable def RB:D->D->Bool
 |.non,.non=>ae | .non,.int _=>ae | .int _,.non=>ae | .non,.bl _=>ae | .bl _,.non=>ae | .non,.str _=>ae | .str _,.non=>ae
 |.int _,.int _=>ae | .bl _,.bl _=>ae | .str _,.str _=>ae | .int _,.str _=>ae | .str _,.int _=>ae | .bl _,.str _=>ae | .str _,.bl _=>ae
 |_,_=>ag
noncomputable def eqS:D->D->Bool
 |.non,.non=>ae
 |.int i,.int j=>Zv (i=j)
 |.bl i,.bl j=>Zv (i=j)
 |.str i,.str j=>Zv (i=j)
 |_,_=>ag
def V3:F2:=λx y Q=>RB x y=ae/\Q (.bl (eqS x y))
def V4:F2:=λx y Q=>RB x y=ae/\Q (.bl (!eqS x y))
def JR{K:ar}{S:ah->Prop}{H:Hp}{x y:V}{d a:D}(l:Dn K S H d x)(j:Dn K S H a y)(h:RB d a=ae):wg x y=ae/\Zv (x=y)=eqS d a:=by
 cases d<;>first
  | (show Zw (show ag=ae from h) b_)
  |skip
 all_goals (cases a<;>first
  | (show Zw (show ag=ae from h) b_)
  | (symm at l j;subst l;subst j;show⟨rfl,by first|show A2|show F6|show A3|show Zy (λh=>by cases h)|show Zx rfl⟩))
def vX{K:ar}:O3 K rq V3:=by intro S H x y n m Q3 Q l h d a k;obtain⟨j,h2⟩:=JR h d a.1;show⟨j,k _ H _ (ξ.refl H) (by symm;rw[h2]) a.2⟩
theorem vY{K:ar}:O3 K rp V4:=by intro S H x y n m Q3 Q l h d a k;obtain⟨j,h2⟩:=JR h d a.1;show⟨j,k _ H _ (ξ.refl H) (by symm;rw[h2]) a.2⟩
noncomputable def allI:List D->Bool
 |[]=>ae
 |.int _::r=>allI r
 |_::_=>ag
noncomputable def xR(i:Int):List D->Bool
 |[]=>ag
 |.int j::r=>j == i||xR i r
 |_::r=>xR i r
theorem y9:∀ns:Q0e,allI (ns.map D.int)=ae
 |[]=>rfl
 |n::ns=>by rw[bp];show y9 ns
theorem zA(i:Int):∀ns:Q0e,xR i (ns.map D.int)=ns.contains i
 |[]=>rfl
 |n::ns=>by rw[bp,xR,zA i ns,List.contains_cons];congr 1;show Bool.beq_comm
theorem BG:∀{ds:List D},allI ds=ae ->∃ns:Q0e,ds=ns.map D.int
 |[],_=>⟨[],rfl⟩
 |.int n::r,h=>by obtain⟨ns,e⟩:=BG (ds:=r) h;show⟨n::ns,by rw[e];rfl⟩
 |.non::r,h=>Zw (show ag=ae from h) b_
 |.bl _::r,h=>Zw (show ag=ae from h) b_
 |.str _::r,h=>Zw (show ag=ae from h) b_
 |.tup _::r,h=>Zw (show ag=ae from h) b_
 |.lst _::r,h=>Zw (show ag=ae from h) b_
 |.gK _::r,h=>Zw (show ag=ae from h) b_
 |.jD _ _::r,h=>Zw (show ag=ae from h) b_
 |.dG _ _ _::r,h=>Zw (show ag=ae from h) b_
def inF(neg:Bool):F2
 |.int i,.tup ds,Q=>allI ds=ae/\Q (.bl (if neg then !xR i ds else xR i ds))
 |.int i,.lst ds,Q=>allI ds=ae/\Q (.bl (if neg then !xR i ds else xR i ds))
 |_,_,_=>False
theorem vZ(i:Int):∀ns:Q0e,inV (.int i) (ns.map V.int)=xR i (ns.map D.int)
 |[]=>rfl
 |n::ns=>by have e:=vZ i ns;unfold inV at e ⊢;rw[bp,bp,j_,xR,e];rfl
theorem rW:∀ns:Q0e,(ns.map V.int).all qI=ae
 |[]=>rfl
 |n::ns=>by rw[bp,lz,rW ns];rfl
theorem JS{K:ar}{neg:Bool}:O3 K (u_ K neg) (inF neg):=by
 intro S H x y p o Q3 Q q n d h k
 cases p with
 |int i =>
  symm at n;subst n
  cases o with
  |tup ds =>
   symm at d;obtain⟨a,xs,rfl,j,m⟩:=d;obtain⟨l,h2⟩:=h;obtain⟨ns,rfl⟩:=BG l;have e:=aZ.ints.mp m;subst e;show⟨a,_,rfl,.inr (fI.of j),rfl,rW ns,k _ H _ (ξ.refl H) ?_ h2⟩;symm;rw[vZ]
  |lst ds =>
   symm at d;obtain⟨a,xs,rfl,j,_,m⟩:=d;obtain⟨l,h2⟩:=h;obtain⟨ns,rfl⟩:=BG l;have e:=aZ.ints.mp m;subst e;show⟨a,_,rfl,.inl (fU.of j),rfl,rW ns,k _ H _ (ξ.refl H) ?_ h2⟩;symm;rw[vZ]
  |_=>show h.elim
 |_=>cases o<;>show h.elim
section
variable{a b:au}{ν:bc}{ta tb:WE}
def ltF:F2:=tF λi j=>.bl (Zv (i<j))
def leF:F2:=tF λi j=>.bl (Zv (i<=j))
def gtF:F2:=tF λi j=>.bl (Zv (i>j))
def geF:F2:=tF λi j=>.bl (Zv (i >= j))
def gt3(h:cK X a ta)(d:cK X b tb):cK X (.Compare a [.Gt] [b] ν) (iA gtF ta tb):=GN YJ mZ h d (iK _)
def ge3(h:cK X a ta)(d:cK X b tb):cK X (.Compare a [.GtE] [b] ν) (iA geF ta tb):=GN YK mZ h d (iK _)
def Ng(h:cK X a ta)(d:cK X b tb):cK X (.Compare a [.Eq] [b] ν) (iA V3 ta tb):=GN QH vX h d (iK _)
def Mo(h:cK X a ta)(d:cK X b tb):cK X (.Compare a [.NotEq] [b] ν) (iA V4 ta tb):=GN QI vY h d (iK _)
def in3(j:cK X a ta)(h:cK X b tb)(d:behindInMarks .In b=ag<|>5):cK X (.Compare a [.In] [b] ν) (iA (inF ag) ta tb):=GN yX JS j h d
def Mn(j:cK X a ta)(h:cK X b tb)(d:behindInMarks .NotIn b=ag<|>5):cK X (.Compare a [.NotIn] [b] ν) (iA (inF ae) ta tb):=GN qK JS j h d
def Mm(h:cK X a ta)(d:cK X b tb):uJ X (.Compare a [.Lt] [b] ν) (l5 (iA ltF ta tb)):=mY sZ mZ h d (iK _)
def Ml(h:cK X a ta)(d:cK X b tb):uJ X (.Compare a [.LtE] [b] ν) (l5 (iA leF ta tb)):=mY JH mZ h d (iK _)
def Mj(h:cK X a ta)(d:cK X b tb):uJ X (.Compare a [.Gt] [b] ν) (l5 (iA gtF ta tb)):=mY YJ mZ h d (iK _)
def Mi(h:cK X a ta)(d:cK X b tb):uJ X (.Compare a [.GtE] [b] ν) (l5 (iA geF ta tb)):=mY YK mZ h d (iK _)
def Tx(h:cK X a ta)(d:cK X b tb):uJ X (.Compare a [.Eq] [b] ν) (l5 (iA V3 ta tb)):=mY QH vX h d (iK _)
def Tw(h:cK X a ta)(d:cK X b tb):uJ X (.Compare a [.NotEq] [b] ν) (l5 (iA V4 ta tb)):=mY QI vY h d (iK _)
def Mh(j:cK X a ta)(h:cK X b tb)(d:behindInMarks .In b=ag<|>5):uJ X (.Compare a [.In] [b] ν) (l5 (iA (inF ag) ta tb)):=mY yX JS j h d
def Tv(j:cK X a ta)(h:cK X b tb)(d:behindInMarks .NotIn b=ag<|>5):uJ X (.Compare a [.NotIn] [b] ν) (l5 (iA (inF ae) ta tb)):=mY qK JS j h d
end
def Tu(t:WT):WT:=λρ Q=>t ρ λb=>Q (!b)
def Tt(t u:WT):WT:=λρ Q=>t ρ λb=>if b=ae then u ρ Q else Q ag
def Mg(t u:WT):WT:=λρ Q=>t ρ λb=>if b=ae then Q ae else u ρ Q
def NY(X:Cx)(e:au)(t:WT):Prop:=PW X e (liftT X.K t)
def vz(h:PW X e t)(f:∀σ H Q,t' σ H Q->t σ H Q):PW X e t':=λa π s σ H Q I q=>h a π s σ H Q I (f σ H Q q)
section
variable{a b:au}{Θ:List au}{ν:bc}{ta tb:WT}
def NY.pt(h:NY X e t):uJ X e t:=PW.pt h
def Ts(l:uJ X a ta):uJ X (.UnaryOp .Not a ν) (Tu ta):=GL (Zd l) λσ H Q n=>by obtain⟨S,ρ,Q3,m,d,j,k⟩:=n;show⟨S,ρ,_,m,d,j,λb o h q1=>k (!b) o h q1⟩
def Me(d:uJ X a ta):NY X (.BoolOp .And [a] ν) ta:=VC d
def or1(d:uJ X a ta):NY X (.BoolOp .Or [a] ν) ta:=Yi d
theorem Tr(o:uJ X a ta)(n:NY X (.BoolOp .And (b::Θ) ν) tb):NY X (.BoolOp .And (a::b::Θ) ν) (Tt ta tb):=vz (Yh o n) λσ H Q q=>by
 obtain⟨S,ρ,Q3,j,h,m,k⟩:=q;show⟨S,ρ,_,j,h,m,λc x d q1=>?_⟩
 cases c with
 |true=>rw[Z_ rfl] at q1 ⊢;show⟨S,ρ,Q3,bI j d,Sl.fits (.same d) h,q1,λp v l q2=>k p v (d.trans l) q2⟩
 |false=>rw[Zz b_] at q1 ⊢;show k ag x d q1
theorem Mc(o:uJ X a ta)(n:NY X (.BoolOp .Or (b::Θ) ν) tb):NY X (.BoolOp .Or (a::b::Θ) ν) (Mg ta tb):=vz (Ur o n) λσ H Q q=>by
 obtain⟨S,ρ,Q3,j,h,m,k⟩:=q;show⟨S,ρ,_,j,h,m,λc x d q1=>?_⟩
 cases c with
 |false=>rw[Zz b_] at q1 ⊢;show⟨S,ρ,Q3,bI j d,Sl.fits (.same d) h,q1,λp v l q2=>k p v (d.trans l) q2⟩
 |true=>rw[Z_ rfl] at q1 ⊢;show k ae x d q1
end
noncomputable def Ma(d a:WE):WE:=λρ Q=>d ρ λx=>match x with
 |.bl ae=>a ρ Q
 |.bl ag=>Q (.bl ag)
 |_=>False
noncomputable def Fc(d a:WE):WE:=λρ Q=>d ρ λx=>match x with
 |.bl ae=>Q (.bl ae)
 |.bl ag=>a ρ Q
 |_=>False
def Fd(t:WT)(d a:WE):WE:=λρ Q=>t ρ λb=>if b=ae then d ρ Q else a ρ Q
section
variable{a b c:au}{Θ:List au}{ν:bc}{ta tb:WE}{tc:WT}
def L_{op}(d:cK X a ta):cK X (.BoolOp op [a] ν) ta:=Zc d
theorem Lz(q:cK X a ta)(p:cK X (.BoolOp .And (b::Θ) ν) tb):cK X (.BoolOp .And (a::b::Θ) ν) (Ma ta tb):=imp (Zb q p) λσ H Q y=>by
 obtain⟨S,ρ,Q3,l,j,o,k⟩:=y;show⟨S,ρ,_,l,j,o,λv A d h m q1=>?_⟩
 cases d with
 |bl c =>
  symm at m;show⟨c,m,?_⟩
  cases c with
  |true=>rw[Z_ rfl];show⟨S,ρ,Q3,bI l h,Sl.fits (.same h) j,q1,λv' z d' n x q2=>k v' z d' (h.trans n) x q2⟩
  |false=>rw[Zz b_];show k _ A (.bl ag) h (by symm) q1
 |_=>show q1.elim
theorem or3(q:cK X a ta)(p:cK X (.BoolOp .Or (b::Θ) ν) tb):cK X (.BoolOp .Or (a::b::Θ) ν) (Fc ta tb):=imp (Uo q p) λσ H Q y=>by
 obtain⟨S,ρ,Q3,l,j,o,k⟩:=y;show⟨S,ρ,_,l,j,o,λv A d h m q1=>?_⟩
 cases d with
 |bl c =>
  symm at m;show⟨c,m,?_⟩
  cases c with
  |false=>rw[Zz b_];show⟨S,ρ,Q3,bI l h,Sl.fits (.same h) j,q1,λv' z d' n x q2=>k v' z d' (h.trans n) x q2⟩
  |true=>rw[Z_ rfl];show k _ A (.bl ae) h (by symm) q1
 |_=>show q1.elim
theorem if3(p:uJ X c tc)(v:cK X a ta)(q:cK X b tb):cK X (.IfExp c a b ν) (Fd tc ta tb):=imp (QB p v q) λσ H Q x=>by
 obtain⟨S,ρ,Q3,l,h,o,k⟩:=x;show⟨S,ρ,_,l,h,o,λc y d q1=>?_⟩
 cases c with
 |true=>rw[Z_ rfl] at q1 ⊢;show⟨S,ρ,Q3,bI l d,Sl.fits (.same d) h,q1,λv' n d' j m q2=>k v' n d' (d.trans j) m q2⟩
 |false=>rw[Zz b_] at q1 ⊢;show⟨S,ρ,Q3,bI l d,Sl.fits (.same d) h,q1,λv' n d' j m q2=>k v' n d' (d.trans j) m q2⟩
noncomputable def Lv(ta:WE):WE:=λρ Q=>ta ρ λx=>match x with
 |.int i=>Q (.int (-i))
 |_=>False
theorem Lu(n:cK X a ta):cK X (.UnaryOp .USub a ν) (Lv ta):=imp (Ug Ya n) λσ H Q p=>by
 obtain⟨S,ρ,Q3,o,j,m,k⟩:=p;show⟨S,ρ,_,o,j,m,λv q d l h q1=>?_⟩
 cases d with
 |int i=>symm at h;show⟨i,h,k _ q (.int (-i)) l (by symm) q1⟩
 |_=>show q1.elim
end
noncomputable def BH(f g:F2)(h d a:WE):WE:=λρ Q=>h ρ λx=>d ρ λy=>f x y λz=>match z with
 |.bl ae=>a ρ λu=>g y u Q
 |.bl ag=>Q (.bl ag)
 |_=>False
theorem wB{K:ar}{r A:R2}{f g:F2}{y x q:WE}{σ:L2.St}{H:Hp}{Q:VK}(Y:O3 K r f)(h2:O3 K A g)(h:lift K (BH f g y x q) σ H Q):F7 r A (lift K y) (lift K x) (lift K q) σ H Q:=by
 obtain⟨S,ρ,Q3,l,n,U,k⟩:=h;show⟨S,ρ,_,l,n,U,λv H1 d a d1 q1=>?_⟩;show⟨S,ρ,_,bI l a,Sl.fits (.same a) n,q1,λu H2 e j F q2=>?_⟩;show Y S H2 v u d e _ _ (bI l (a.trans j)) (Dn.fits (.same j) _ _ d1) F q2 λz H3 Z s3 m o=>?_
 cases Z with
 |bl c =>
  symm at m;show⟨c,m,?_⟩
  cases c with
  |false=>rw[Zz b_];show k _ H3 (.bl ag) ((a.trans j).trans s3) (by symm) o
  |true =>
   rw[Z_ rfl];show⟨S,ρ,_,bI l ((a.trans j).trans s3),Sl.fits (.same ((a.trans j).trans s3)) n,o,λI H4 dw s4 p O=>?_⟩;show h2 S H4 u I e dw Q3 Q (bI l (((a.trans j).trans s3).trans s4)) (Dn.fits (.same (s3.trans s4)) _ _ F) p O λv' H5 d' J d5 L=>k v' H5 d' ((((a.trans j).trans s3).trans s4).trans J) d5 L
 |_=>show o.elim
theorem Xg(ho:iC X (compareOp op) r)(d:iC X (compareOp op') r')(n:O3 X.K r f)(h2:O3 X.K r' g)(m:cK X a ta)(l:cK X b tb)(j:cK X c tc)
  (h:lastMarks [op,op'] [b,c]=ag<|>5):cK X (.Compare a [op,op'] [b,c] ν) (BH f g ta tb tc):=imp (QJ ho d m l j h) λ_ _ _=>wB n h2
theorem V5(ho:iC X (compareOp op) r)(d:iC X (compareOp op') r')(o:O3 X.K r f)(h2:O3 X.K r' g)(n:cK X a ta)(m:cK X b tb)(l:cK X c tc)
  (j:lastMarks [op,op'] [b,c]=ag<|>5):uJ X (.Compare a [op,op'] [b,c] ν) (l5 (BH f g ta tb tc)):=GL (QK ho d n m l j) λ_ _ _ h=>vW (λ_ _ _=>wB o h2) (y7 h)
noncomputable def ixF:F2
 |.lst ds,.int i,Q=>(match tU ds i with|some d=>Q d|none=>False)
 |.tup ds,.int i,Q=>(match tU ds i with|some d=>Q d|none=>False)
 |.gK ns,.int i,Q=>(match tU ns i with|some n=>Q (.int n)|none=>False)
 |_,_,_=>False
theorem aZ.at{K:ar}{S:ah->Prop}{H:Hp}{ds:List D}{xs:List V}{i:Int}{d:D}(h:aZ K S H ds xs)(e:tU ds i=aa d):∃v,tU xs i=aa v/\Dn K S H d v:=by
 unfold tU at e ⊢;rw[<- h.len]
 cases q:LY ds.length i with
 |none=>rw[q] at e;cases e
 |some j =>
  rw[q] at e;obtain⟨v,a,dn⟩:=h.get (i:=j) (d:=d) e;show⟨v,a,dn⟩
theorem V6{a d:Type}(f:a->d)(xs:List a)(i:Int):tU (xs.map f) i=(tU xs i).map f:=by
 unfold tU;rw[a_]
 cases LY xs.length i with
 |none=>rfl
 |some j=>simp
theorem Tq{K:ar}:O3 K (λx y H Q=>Ax K x y H Q\/Bf K x y H Q) ixF:=by
 intro S H x y A o Q3 Q I l j h k
 cases A with
 |lst ds =>
  cases o with
  |int i =>
   symm at l j;obtain⟨a,xs,rfl,m,F,z⟩:=l;have h:(match tU ds i with|some d=>Q3 d|none=>False):=h
   cases e:tU ds i with
   |none=>rw[e] at h;show h.elim
   |some d =>
    rw[e] at h;obtain⟨v,p,q⟩:=z.at e;show .inl ⟨a,xs,i,v,rfl,j,fU.of m,p,k v H d (ξ.refl H) q h⟩
  |_=>show h.elim
 |tup ds =>
  cases o with
  |int i =>
   symm at l j;obtain⟨a,xs,rfl,m,z⟩:=l;have h:(match tU ds i with|some d=>Q3 d|none=>False):=h
   cases e:tU ds i with
   |none=>rw[e] at h;show h.elim
   |some d =>
    rw[e] at h;obtain⟨v,p,q⟩:=z.at e;show .inr ⟨a,xs,i,v,rfl,j,(fI.of m),p,k v H d (ξ.refl H) q h⟩
  |_=>show h.elim
 |gK ns =>
  cases o with
  |int i =>
   symm at l j;obtain⟨a,rfl,m⟩:=l;have h:(match tU ns i with|some n=>Q3 (.int n)|none=>False):=h
   cases e:tU ns i with
   |none=>rw[e] at h;show h.elim
   |some n =>
    rw[e] at h;show .inl ⟨a,_,i,.int n,rfl,j,m.sq,by rw[V6,e];rfl,k _ H (.int n) (ξ.refl H) (by symm) h⟩
  |_=>show h.elim
 |_=>cases o<;>show h.elim
def ix3(j:cK X a ta)(h:cK X b tb)(d:A7 b<|>7):cK X (.Subscript a b ν) (iA ixF ta tb) :=
 imp (Ub (VT.or Xu) j h d) λ_ _ _=>qM Tq
abbrev F1:=List D->(D->Prop)->Prop
def MJ(f:F1)(t:WA):WE:=λρ Q=>t ρ λds=>f ds Q
def C3(K:ar)(r:List V->Hp->VK->Prop)(f:F1):Prop:=∀(S:ah->Prop) (H:Hp) (xs:List V) (ds:List D) (Q3:D->Prop) (Q:VK),(∀a,H a=af->S a)->aZ K S H ds xs->f ds Q3 ->
 (∀v H' d,ξ H H'->Dn K S H' d v->Q3 d->Q v H')->r xs H Q
def C3F(K:ar)(r:List V->Hp->VK->Prop)(f:F1):Prop:=∀(S:ah->Prop) (H:Hp) (xs:List V) (ds:List D) (Q3:D->Prop) (Q:VK),(∀a,H a=af->S a)->aZ K S H ds xs->f ds Q3 ->
 (∀p ys H' d,H p=af->H' p=aa (.lst ys)->ξ H H'->aZ K (λa=>S a/\a≠p) H' d ys->Q3 (.lst d)->Q (.ref p) H')->r xs H Q
def JT{K:ar}{r:List V->Hp->VK->Prop}{f:F1}{t:WA}{σ:L2.St}{H:Hp}{Q:VK}(p:C3 K r f)(h:lift K (MJ f t) σ H Q):rm r (Q4 K t) σ H Q:=by obtain⟨S,ρ,Q3,j,m,o,k⟩:=h;show⟨S,ρ,_,j,m,o,λl x ds a q q1=>?_⟩;show p S x l ds Q3 Q (bI j a) q q1 λv H' d s' d' n=>k v H' d (a.trans s') d' n
def DL{K:ar}{r:List V->Hp->VK->Prop}{f:F1}{t:WA}{σ:L2.St}{H:Hp}{Q:VK}(v:C3F K r f)(h:Q5 K (MJ f t) σ H Q):rm r (Q4 K t) σ H Q:=by obtain⟨S,ρ,Q3,j,m,o,k⟩:=h;show⟨S,ρ,_,j,m,o,λl z ds a y q1=>?_⟩;show v S z l ds Q3 Q (bI j a) y q1 λp ys H' x q d s' d' n=>k p ys H' x (a.free q) d (a.trans s') d' n
def rX{x:ak}{p j:bc}{e:au}{a:List au}{t:WA}{id:String}{r:List V->Hp->VK->Prop}{f:F1}(v:fV X (.builtin id) r)(z:C3 X.K r f)(l:bootBuiltins x=aa (.builtin id))(o:Gl X x)(n:X.mg x=af)(y:vV X (e::a) t)(m:x ≠ "__name__"<|>1)(h:Zu x<|>1)
  (q:Zq X e a<|>0) (d:Q0m X j a<|>0):cK X (.Call (.Name x p) (e::a) [] j) (MJ f t) :=
 imp (qG v o n l y m h q d) λ_ _ _=>JT z
def V7{x:ak}{p j:bc}{e:au}{a:List au}{t:WA}{id:String}{r:List V->Hp->VK->Prop}{f:F1}(v:fV X (.builtin id) r)(z:C3F X.K r f)(l:bootBuiltins x=aa (.builtin id))(o:Gl X x)(n:X.mg x=af)(y:vV X (e::a) t)(m:x ≠ "__name__"<|>1)(h:Zu x<|>1)
  (q:Zq X e a<|>0) (d:Q0m X j a<|>0):DK X (.Call (.Name x p) (e::a) [] j) (MJ f t) :=
 imp (qG v o n l y m h q d) λ_ _ _=>DL z
def JU(o:fV X (.type T) r)(v:C3 X.K r f)(h:bootBuiltins x=aa (.type T))(m:Gl X x)(l:X.mg x=af)(q:vV X (e::es) t)(j:x ≠ "__name__"<|>1)(d:Zu x<|>1)
  (n:Zq X e es<|>0) (a:Q0m X ν es<|>0):cK X (.Call (.Name x p) (e::es) [] ν) (MJ f t) :=
 imp (k7 o m l h q j d n a) λ_ _ _=>JT v
theorem RC(o:fV X (.type T) r)(v:C3F X.K r f)(h:bootBuiltins x=aa (.type T))(m:Gl X x)(l:X.mg x=af)(q:vV X (e::es) t)(j:x ≠ "__name__"<|>1)(d:Zu x<|>1)
  (n:Zq X e es<|>0) (a:Q0m X ν es<|>0):DK X (.Call (.Name x p) (e::es) [] ν) (MJ f t) :=
 imp (k7 o m l h q j d n a) λ_ _ _=>DL v
noncomputable def BI:F1
 |[.lst ds],Q=>Q (.int ds.length)
 |[.tup ds],Q=>Q (.int ds.length)
 |[.gK ns],Q=>Q (.int ns.length)
 |_,_=>False
theorem Xf{K:ar}:C3 K (λxs H Q=>∃p ys,xs=[.ref p]/\(fU K H p ys\/fI K H p ys)/\Q (.int ys.length) H) BI:=by
 intro S H xs ds Q3 Q o l h k
 match ds,h with
 |[.lst es],h =>
  obtain⟨v,r,rfl,d,h2⟩:=l.bL;simp only[aZ] at h2;subst h2;symm at d;obtain⟨a,ys,rfl,j,n,m⟩:=d;show⟨a,ys,rfl,.inl (fU.of j),k _ H _ (ξ.refl H) (by symm;rw[m.len]) h⟩
 |[.tup es],h =>
  obtain⟨v,r,rfl,d,h2⟩:=l.bL;simp only[aZ] at h2;subst h2;symm at d;obtain⟨a,ys,rfl,j,m⟩:=d;show⟨a,ys,rfl,.inr (fI.of j),k _ H _ (ξ.refl H) (by symm;rw[m.len]) h⟩
 |[.gK ns],h =>
  obtain⟨v,r,rfl,d,h2⟩:=l.bL;simp only[aZ] at h2;subst h2;symm at d;obtain⟨a,rfl,j⟩:=d;show⟨a,_,rfl,.inl j.sq,k _ H _ (ξ.refl H) (by symm;rw[a_]) h⟩
theorem Lr(a:X.mg "len"=af)(j:vV X [e] t)(d:Gl X "len"<|>0)
  (h:Zq X e []<|>0):cK X (.Call (.Name "len" p) [e] [] ν) (MJ BI t):=rX A9 Xf PySem.boot_len d a j (by decide) (by decide) h (by rfl)
noncomputable def GO:F1
 |[.lst ds],Q=>Q (.tup ds)
 |[.tup ds],Q=>Q (.tup ds)
 |_,_=>False
theorem RD{K:ar}:C3 K (λxs H Q=>∃p ys,xs=[.ref p]/\((fU K H p ys /\∀l,H l=af->Q (.ref l) (upd H l (.tup ys)))\/(fI K H p ys/\Q (.ref p) H))) GO:=by
 intro S H xs ds Q3 Q y o h k
 match ds,h with
 |[.lst es],h =>
  obtain⟨v,r,rfl,d,h2⟩:=o.bL;simp only[aZ] at h2;subst h2;symm at d;obtain⟨a,ys,rfl,j,x,q⟩:=d;show⟨a,ys,rfl,.inl ⟨fU.of j,λl n=>k _ _ _ (aU n) ?_ h⟩⟩;symm;show⟨l,ys,rfl,aW,aZ.fits (.same (aU n)) _ _ q⟩
 |[.tup es],h =>
  obtain⟨v,r,rfl,d,h2⟩:=o.bL;simp only[aZ] at h2;subst h2;have m:=d;symm at d;obtain⟨a,ys,rfl,j,q⟩:=d;show⟨a,ys,rfl,.inr ⟨(fI.of j),k _ H _ (ξ.refl H) m h⟩⟩
theorem Xe(d:X.mg "tuple"=af)(a:bootBuiltins "tuple"=aa (.type "tuple"))(l:vV X [e] t)(h:Gl X "tuple"<|>0)
  (j:Zq X e []<|>0):cK X (.Call (.Name "tuple" p) [e] [] ν) (MJ GO t):=JU xO RD a h d l (by decide) (by decide) j (by rfl)
noncomputable def RE:F1
 |[.lst ds],Q=>Q (.lst ds)
 |[.tup ds],Q=>Q (.lst ds)
 |_,_=>False
theorem V8{K:ar}:C3F K (λxs H Q=>∃p ys,xs=[.ref p]/\(fU K H p ys\/fI K H p ys) /\∀l,H l=af->Q (.ref l) (upd H l (.lst ys))) RE:=by
 intro S H xs ds Q3 Q x o h k
 match ds,h with
 |[.lst es],h =>
  obtain⟨v,r,rfl,j,h2⟩:=o.bL;simp only[aZ] at h2;subst h2;symm at j;obtain⟨a,ys,rfl,m,q,n⟩:=j;show⟨a,ys,rfl,.inl (fU.of m),λl d=>k l ys _ es d aW (aU d) (aZ.fits ((Fits.fresh d).trans (.same (aU d))) _ _ n) h⟩
 |[.tup es],h =>
  obtain⟨v,r,rfl,j,h2⟩:=o.bL;simp only[aZ] at h2;subst h2;symm at j;obtain⟨a,ys,rfl,m,n⟩:=j;show⟨a,ys,rfl,.inr (fI.of m),λl d=>k l ys _ es d aW (aU d) (aZ.fits ((Fits.fresh d).trans (.same (aU d))) _ _ n) h⟩
def Tp(d:X.mg "list"=af)(a:bootBuiltins "list"=aa (.type "list"))(l:vV X [e] t)(h:Gl X "list"<|>0)
  (j:Zq X e []<|>0):DK X (.Call (.Name "list" p) [e] [] ν) (MJ RE t):=RC BA V8 a h d l (by decide) (by decide) j (by rfl)
abbrev Spec:=List D->(D->Prop)->Prop
def sp3(K:ar)(R:Spec):Sp:=λh H Q _=>∃(S:ah->Prop) (ds:List D) (Q3:D->Prop),(∀a,H a=af->S a)/\aZ K S H ds h/\R ds Q3 /\∀v H' d,ξ H H'->Dn K S H' d v->Q3 d->Q v H'
theorem To(F:mS X.Ω X.w X.K X.mg X.ω DG k f fd ps (sp3 X.K R))(y:gA k X.A)(z:X.mg x=aa (.ref f))(I:keepIn X.K (.ref f)=ae)(O:Binds X.K fd ps [])
  (U:vV X (e::es) t) (J:Gl X x<|>0) (h:Zu x<|>1) (L:Zq X e es<|>0) (a:Q0m X ν es<|>0):
  cK X (.Call (.Name x p) (e::es) [] ν) (MJ R t):=imp (A4 F y J z I O .nil Uv U h L a) λσ H Q Z=>by
 obtain⟨S,ρ,Q3,l,n,q,k⟩:=Z;show⟨S,ρ,_,l,n,q,λm H1 ds j Y q1=>?_⟩;show sp3 X.K R (m++[]) H1 Q E0;rw[jk];show⟨S,ds,Q3,bI l j,Y,q1,λv H' d s' d' o=>k v H' d (j.trans s') d' o⟩
end
structure DE where
 nx:bK->Prop
 rt:D->Prop
 bk:bK->Prop:=λ_=>False
 ct:bK->Prop:=λ_=>False
 ex:ak->Prop:=λ_=>False
abbrev WS:=DE->bK->Prop
structure BJ (X:Cx) (π:Q0b) (H:Hp) (s:ao) (e:ah) (cls a0:ai) (P:List ah):Prop where
 mem:e∈P
 free:∀q∈P,H q=af
 new:∀q∈P,X.s₀.heap.get? q=af
 fld:∀q∈P,∃o vs,s.heap.get? q=aa o/\o.data=.fields vs
 pin:∀q∈P,∀p∈X.pn++π,p.1≠q
 tr:(∃oe vs,s.heap.get? e=aa oe/\oe.cls=cls/\oe.data=.fields vs/\vs[1]?=aa .none/\vs[0]?=aa a0) \/
  (∃oe vs T oT ts,s.heap.get? e=aa oe/\(oe.cls=cls/\vs[0]?=aa a0)/\oe.data=.fields vs/\vs[1]?=aa (.ref T)/\T∈P/\T≠e/\s.heap.get? T=aa oT/\oT.data=.fields ts/\ts[3]?=aa .none)
def XC(X:Cx)(c:ak)(H:Hp):Prop:=∃C:ah,X.mg c=aa (.ref C) /\∀(π:Q0b) (σ:L2.St) (s:ao) (e:ah) (a:ai) (P:List ah),Φ X π σ H s->BJ X π H s e (.ref C) a P->X.xe (.ref e) s
structure Xd (K:ar) (xc:ak->Hp->Prop) (n:Nat) (H₀:Hp) (S:ah->Prop) (G:List (D×V)) (E:DE) (B:Ends):Prop where
 nx:∀w σ H ρ,σ.length=n->ST K H₀ S w σ H ρ G->E.nx ρ->B.nx σ H
 rt:∀v H d,ξ H₀ H->Dn K S H d v->E.rt d->B.rt v H
 bk:∀w σ H ρ,σ.length=n->ST K H₀ S w σ H ρ G->E.bk ρ->B.bk σ H
 ct:∀w σ H ρ,σ.length=n->ST K H₀ S w σ H ρ G->E.ct ρ->B.ct σ H
 ex:∀c H,ξ H₀ H->E.ex c->xc c H
def YW(K:ar)(xc:ak->Hp->Prop)(n:Nat)(t:WS):TS:=λB σ H=>∃(H₀:Hp) (S:ah->Prop) (w:Nat->ah) (ρ:bK) (G:List (D×V)) (E:DE),σ.length=n/\ST K H₀ S w σ H ρ G/\t E ρ/\Xd K xc n H₀ S G E B
def xS(X:Cx)(st:c_)(t:WS):Prop:=PS X st (YW X.K (XC X) X.N.length t)
def tX(X:Cx)(st:List c_)(t:WS):Prop:=EX X st (YW X.K (XC X) X.N.length t)
section
variable{X:Cx}
def iD{e:c_}{t t':TS}(h:PS X e t)(f:∀B σ H,t' B σ H->t B σ H):PS X e t':=λπ s σ H B I q=>h π s σ H B I (f B σ H q)
def JV(h:EX X e t)(f:∀B σ H,t' B σ H->t B σ H):EX X e t':=λπ s σ H B I q=>h π s σ H B I (f B σ H q)
def Tn:WS:=λE ρ=>E.nx ρ
def vy(t u:WS):WS:=λE ρ=>t {E with nx:=u E} ρ
def Lp:tX X [] Tn:=JV VD λB σ H h=>by obtain⟨H₀,S,w,ρ,G,E,d,st,a,ok⟩:=h;show ok.nx w σ H ρ d st a
def Lf{st:c_}{j:List c_}{t u:WS}(v:xS X st t)(h2:tX X j u):tX X (st::j) (vy t u):=JV (QC v h2) λB σ H x=>by obtain⟨H₀,S,w,ρ,G,E,p,n,o,ok⟩:=x;show⟨H₀,S,w,ρ,G,{E with nx:=u E},p,n,o,⟨λm l H' a h d q=>⟨H₀,S,m,a,G,E,h,d,q,ok⟩,ok.rt,ok.bk,ok.ct,ok.ex⟩⟩
def Tj{st:c_}{t:WS}(a:xS X st t):tX X [st] t:=JV (VE a) λ_ _ _ h=>h
def Ld(t:WE):WS:=λE ρ=>t (bB ρ) E.rt
def Lc(h:cK X e t):xS X (.Return (aa e) ν) (Ld t):=iD (QD h) λB σ H l=>by obtain⟨H₀,S,w,ρ,G,E,m,st,j,ok⟩:=l;show⟨S,bB ρ,E.rt,st.GK,st.all,j,λv H' d s' d' a=>ok.rt v H' d (st.sm.trans s') d' a⟩
def La(c:WT)(t u:WS):WS:=λE ρ=>c (bB ρ) λb=>if b=ae then t E ρ else u E ρ
theorem K_(m:uJ X c tc)(o:tX X a t)(n:tX X b u):xS X (.If c a b ν) (La tc t u):=iD (Uk m o n) λB σ H p=>by
 obtain⟨H₀,S,w,ρ,G,E,j,st,l,ok⟩:=p;show⟨S,bB ρ,_,st.GK,st.all,l,λd q h q1=>?_⟩
 cases d with
 |true=>rw[Z_ rfl] at q1 ⊢;show⟨H₀,S,w,ρ,G,E,j,st.same h,q1,ok⟩
 |false=>rw[Zz b_] at q1 ⊢;show⟨H₀,S,w,ρ,G,E,j,st.same h,q1,ok⟩
def vx(i:Nat)(t:WE):WS:=λE ρ=>t (gO ρ) λd=>E.nx (ρ.set i (.ro d))
def vw(i:Nat)(t:WE):WS:=λE ρ=>t (gO ρ) λd=>E.nx (ρ.set i (.ow d))
def Ti(i:Nat)(t:WE):WS:=λE ρ=>t (bB ρ) λd=>(match d with | .lst ds=>jT ds=ae|_=>False)/\E.nx (ρ.set i (.ow d))
section
variable{i:Nat}{x:ak}{e:au}{t:WE}{ν pos':bc}
def eZ{N:Q0g}{i:Nat}{x:ak}(h:N[i]?=aa x):i<N.length:=(cg.mp h).1
def Ky(hN:X.N.Nodup)(o:cK X e t)(hi:X.N[i]?=aa x<|>0)(j:Loc X.env.scope x<|>2)(m:Rv X e x pos' ν<|>0)(n:Zp X x<|>2):
  xS X (.Assign [.Name x pos'] e ν) (vx i t):=iD (j8 hN hi j o m n) λB σ H p=>by
 obtain⟨H₀,S,w,ρ,G,E,a,st,l,ok⟩:=p;show⟨_,gO ρ,_,st.JQ,st.rd,l,λv H' d s' d' h=>ok.nx w _ H' _ (by rw[dm];show a) ((st.same s').hZ (by rw[a];show eZ hi) d') h⟩
def Kw(hN:X.N.Nodup)(v:DK X e t)(hi:X.N[i]?=aa x<|>0)(l:Loc X.env.scope x<|>2)(n:Rv X e x pos' ν<|>0)(q:Zp X x<|>2):
  xS X (.Assign [.Name x pos'] e ν) (vw i t):=iD (j8 hN hi l v n q) λB σ H y=>by
 obtain⟨H₀,S,w,ρ,G,E,h,st,m,ok⟩:=y;show⟨_,gO ρ,_,st.JQ,st.rd,m,λp xs H' ds o a s' d' j=>ok.nx _ _ H' _ (by rw[dm];show h) (st.pE (d:=.lst ds) (by rw[h];show eZ hi) s' o ⟨xs,a,d'⟩) j⟩
def Th(hN:X.N.Nodup)(v:DK X e t)(hi:X.N[i]?=aa x<|>0)(l:Loc X.env.scope x<|>2)(n:Rv X e x pos' ν<|>0)(q:Zp X x<|>2):
  xS X (.Assign [.Name x pos'] e ν) (Ti i t):=iD (j8 hN hi l v n q) λB σ H y=>by
 obtain⟨H₀,S,w,ρ,G,E,j,st,m,ok⟩:=y;show⟨_,bB ρ,_,st.GK,st.all,m,λp xs H' ds o a s' d' h=>ok.nx _ _ H' _ (by rw[dm];show j) (st.pE (d:=.lst ds) (by rw[j];show eZ hi) s' o ⟨xs,a,aZ.qW h.1 d'⟩) h.2⟩
end
def j9(N:Q0g)(ds:List D):bK:=ds.map Sv.ro++jy (N.length-ds.length) Sv.no
def DM{K:ar}{H:Hp}{S:ah->Prop}{N:Q0g}{ds:List D}{l:List V}(y:∀a,H a=af->S a)(h:aZ K S H ds l):ST K H S (λ_=>0) (L2.start N l) H (j9 N ds) []:=by
 have no:∀(i:Nat) (d:D),(j9 N ds)[i]?≠aa (Sv.ow d):=λi d e=>by
  unfold j9 at e;by_cases hi:i<ds.length
  .rw [iu (by simpa using hi),dg] at e
   cases q:ds[i]? with
   |none=>rw[q] at e;cases e
   |some a=>rw[q] at e;cases e
  .rw [ir (by simpa using hi),nh] at e;split at e<;>cases e
 have n:∀a,S a->SO S (λ_=>0) (j9 N ds) a:=λa s=>⟨s,λi d e=>Zw e (no i d)⟩;show⟨y,ξ.refl H,λi d e=>Zw e (no i d),λi j d e x=>Zw x (no i d),λi d e=>?_,λg p=>(nomatch p),λi _ e=>Zw e (no i _)⟩;unfold j9 at e;by_cases hi:i<ds.length
 .rw [iu (by simpa using hi),dg] at e
  cases q:ds[i]? with
  |none=>rw[q] at e;cases e
  |some a =>
   rw[q] at e;cases e;obtain⟨v,m,z⟩:=h.get q;show⟨v,?_,Dn.fits (.mono n) _ _ z⟩;unfold L2.start;have o:i<l.length:=(cg.mp m).1;rw[iu (by simpa using o),dg,m];rfl
 .rw [ir (by simpa using hi),nh] at e;split at e<;>cases e
theorem Kt{P:bg}{w:ba}{K:ar}{mg:Q0d}{ω:bb}{x qual:ak}{st:c_}{f:ah}{fd:h_}{N l:Q0g}{k:Nat}{R:Spec}(F:YR K x qual st f fd)(S:hJ N l (bJ st))(len:∀ds Q,R ds Q->ds.length=l.length)
  (j:∀(a:ai) (A:br) (outer:List dq) (s:ao) (H:Hp) (E:XK),gA k (A.deeper (envOfC qual (bJ st) s.heap.objs.size f a)) ->
   ∃t:WS,tX (mT DG P w K mg ω N qual (bJ st) f a A outer s H E).TK (fN st) t /\∀ds Q,R ds Q->t {nx:=λ_=>Q .non,rt:=Q} (j9 N ds)):mS P w K mg ω DG (k+1) f fd l (sp3 K R):=by
 show F.ok S (λz H Q E h=>?_) λa A outer s H z Q E J h=>?_
 .obtain ⟨S',ds,Q3,o,dn,r,_⟩:=h;rw[<- dn.len];show len ds Q3 r
 .obtain ⟨t,I,L⟩:=j a A outer s H E J;obtain⟨S',ds,Q3,o,dn,r,n⟩:=h;show⟨_,I,H,S',λ_=>0,j9 N ds,[],{nx:=λ_=>Q3 .non,rt:=Q3},?_,DM o dn,L ds Q3 r,⟨λU p H' y _ m q=>?_,λv H' d s' d' q=>n v H' d s' d' q,λ_ _ _ _ _ _ q=>q,λ_ _ _ _ _ _ q=>q,λ_ _ _ q=>q.elim⟩⟩
  .have Z:=len ds Q3 r;have O:=dn.len;have Y:l.length<=N.length:=by have:=congrArg qy S.pre;rw[jo] at this;lia
   unfold L2.start;show _=N.length;rw[bq,a_,mx];lia
  .exact n .non H' .non m.sm (by symm) q
end
abbrev WX:=bK->(bK->D->Prop)->Prop
def RG(K:ar)(n:Nat)(t:WX):TE:=λσ H Q=>∃(H₀:Hp) (S:ah->Prop) (w:Nat->ah) (ρ:bK) (G:List (D×V)) (Q3:bK->D->Prop),σ.length=n/\ST K H₀ S w σ H ρ G/\t ρ Q3 /\
 ∀h v H' a d,ST K H₀ S h σ H' a G->Dn K (SO S h a) H' d v->Q3 a d->Q v H'
def B0(X:Cx)(e:au)(t:WX):Prop:=PE X e (RG X.K X.N.length t)
def Tg(t:WE):WX:=λρ Q=>t (bB ρ) λd=>d.qW=ae/\Q ρ d
def Xc(t:WE):WX:=λρ Q=>t (gO ρ) λd=>Q ρ d
section
variable{X:Cx}
def px3(h:cK X e t):B0 X e (Tg t):=imp h λσ H Q l=>by obtain⟨H₀,S,w,ρ,G,Q3,m,st,j,k⟩:=l;show⟨S,bB ρ,_,st.GK,st.all,j,λv H' d s' d' a=>k w v H' ρ d (st.same s') (Dn.qW a.1 d') a.2⟩
def Kr(h:cK X e t):B0 X e (Xc t):=imp h λσ H Q l=>by obtain⟨H₀,S,w,ρ,G,Q3,m,st,j,k⟩:=l;show⟨_,gO ρ,_,st.JQ,st.rd,j,λv H' d s' d' a=>k w v H' ρ d (st.same s') d' a⟩
def Tf(i:Nat)(t:WX):WS:=λE ρ=>t ρ λa d=>E.nx (a.set i (.ro d))
def Te(hN:X.N.Nodup)(y:B0 X e t)(hi:X.N[i]?=aa x<|>0)(n:Loc X.env.scope x<|>2)(p:Rv X e x pos' ν<|>0)(q:Zp X x<|>2):
  xS X (.Assign [.Name x pos'] e ν) (Tf i t):=iD (j8 hN hi n y p q) λB σ H z=>by
 obtain⟨H₀,S,w,ρ,G,E,h,st,o,ok⟩:=z;show⟨H₀,S,w,ρ,G,_,h,st,o,λl v H' j d a d' m=>ok.nx l _ H' _ (by rw[dm];show h) (a.hZ (by rw[h];show eZ hi) d') m⟩
def Td(t:WX):WS:=λE ρ=>t ρ λa _=>E.nx a
theorem Tc(p:B0 X e t)(o:df e af ν.line X.env=pure ag<|>0):xS X (.Expr e ν) (Td t):=iD (JE p o) λB σ H q=>by obtain⟨H₀,S,w,ρ,G,E,h,st,n,ok⟩:=q;show⟨H₀,S,w,ρ,G,_,h,st,n,λl v H' j d a d' m=>ok.nx l _ H' _ h a m⟩
noncomputable def nk(i:Nat)(f:List D->D->(List D->D->Prop)->Prop)(t:WX):WX:=λρ Q=>(match ρ[i]? with|some (.ow (.lst _))=>True|_=>False)/\t ρ λa d=>match a[i]? with
 |some (.ow (.lst ds))=>f ds d λh r=>Q (a.set i (.ow (.lst h))) r
 |_=>False
def M3(K:ar)(r:V->List V->Hp->VK->Prop)(f:List D->D->(List D->D->Prop)->Prop):Prop:=∀(S:ah->Prop) (H:Hp) (p:ah) (xs:List V) (ds:List D) (y:V) (d:D) (Q3:List D->D->Prop) (Q:VK),
 H p=aa (.lst xs)->aZ K S H ds xs->Dn K S H d y->f ds d Q3->(∀ys a v d',aZ K S H a ys->Dn K S H d' v->Q3 a d'->Q v (upd H p (.lst ys)))->r (.ref p) [y] H Q
theorem V9{K:ar}{n i:Nat}{r:V->List V->Hp->VK->Prop}{f:List D->D->(List D->D->Prop)->Prop}{t:WX}{σ:L2.St}{H:Hp}{Q:VK}(h3:M3 K r f)(h:RG K n (nk i f t) σ H Q):
  zi K "list" r (wj i) (YL (RG K n t) Ay) σ H Q:=by
 obtain⟨H₀,S,w,ρ,G,Q3,hl,st,⟨J,Z⟩,k⟩:=h;split at J
 .rename_i ds e;obtain⟨a,b,c⟩:=st.own i _ e;obtain⟨xs,hp,dn⟩:=c;show⟨_,a,.inl ⟨rfl,xs,fU.of hp⟩,H₀,S,w,ρ,G,_,hl,st,Z,λm v H' l d o d' y=>?_⟩;split at y
  .rename_i ds' e';obtain⟨a',b',c'⟩:=o.own i _ e';obtain⟨x,p,I⟩:=c';have ew:w i=m i:=by have z:=a.symm.trans a';have L:=ft (ft z);injection L
   rw[ew];show h3 _ H' (m i) x ds' v d _ Q p I d' y λys q O d2 NZ A q2=>?_;have Y:¬ SO S m l (m i):=λ⟨_,z⟩=>z i _ e' rfl;have F:Fits K (SO S m l) (SO S m l) H' (upd H' (m i) (.lst ys)):=.upd (.inl ⟨_,p⟩) Y;have U:∀a,SO S m l a->SO S m (l.set i (.ow (.lst q))) a:=SO.mono λj f hf=>by
    rcases get_set hf with⟨hj,_,_⟩|⟨_,z⟩
    .subst hj;show⟨_,e'⟩
    .exact ⟨_,z⟩
   show k m O _ _ d2 (o.write (d':=.lst q) e' ⟨ys,aW,aZ.fits F _ _ NZ⟩) (Dn.fits (F.trans (.mono U)) _ _ A) q2
  .exact y.elim
 .exact J.elim
theorem m1{i:Nat}{x:ak}{id:String}{name:ak}{e:au}{p apos a:bc}{r:V->List V->Hp->VK->Prop}{f:List D->D->(List D->D->Prop)->Prop}{t:WX}(slot:Slot "list" name id)(m:typeOf (.builtin id)=pure (.type "method_descriptor"))(v:MtR X id r)(A:M3 X.K r f)(y:B0 X e t)
  (hN:X.N[i]?=aa x<|>0) (q:xD X.env.scope x<|>3) (z:Zu x<|>1) (n:Zt x<|>1)
  (j:attributeBase (.Name x p) name X.env (eval (.Name x p) X.env)=eval (.Name x p) X.env<|>0)
  (l:Zo X a e<|>0)
  (d:Q0l apos a<|>0) (o:Zq X e []<|>0):
  B0 X (.Call (.Attribute (.Name x p) name apos) [e] [] a) (nk i f t) :=
 imp (Ux a09 slot m v (pA hN q z n) (j5 y rT o) j l d o (by rfl)) λ_ _ _ h=>V9 A h
def vv:List D->D->(List D->D->Prop)->Prop:=λds d Q=>ds.length<bf/\Q (ds++[d]) .non
theorem Xb{K:ar}:M3 K JM vv:=by intro S H p xs ds y d Q3 Q h dn j a k;show⟨p,xs,y,rfl,rfl,h,by rw[<- dn.len];show a.1,k _ _ _ _ (dn.append (aZ.one j)) (by symm) a.2⟩
noncomputable def vt:List D->D->(List D->D->Prop)->Prop
 |ds,.int k,Q=>(-(2^63)<=k/\k<2^63)/\(match LY ds.length k with|some j=>(match ds[j]? with|some d=>Q (ds.eraseIdx j) d|none=>False)|none=>False)
 |_,_,_=>False
theorem Xa{K:ar}:M3 K QR vt:=by
 intro S H p xs ds y d Q3 Q l dn h a k
 cases d with
 |int i =>
  symm at h;subst h;obtain⟨⟨m,h2⟩,a⟩:=a;split at a
  .rename_i j ej;split at a
   .rename_i dd ed;obtain⟨v,ev,n⟩:=dn.get ed;obtain⟨g1,_⟩:=A6 ej;show⟨p,xs,i,j,v,rfl,rfl,l,m,h2,by rw[<- dn.len];show g1,ev,k _ _ _ _ (dn.erase j) n a⟩
   .exact a.elim
  .exact a.elim
 |_=>show a.elim
section
variable{i:Nat}{x:ak}{e:au}{p apos cpos:bc}{t:WX}
def Kn(n:B0 X e t)(hN:X.N[i]?=aa x<|>0)(l:xD X.env.scope x<|>3)(o:Zu x<|>1)(j:Zt x<|>1)
  (d:attributeBase (.Name x p) "append" X.env (eval (.Name x p) X.env)=eval (.Name x p) X.env<|>0)
  (h:Zo X cpos e<|>0)
  (a:Q0l apos cpos<|>0) (m:Zq X e []<|>0):
  B0 X (.Call (.Attribute (.Name x p) "append" apos) [e] [] cpos) (nk i vv t):=m1 a05 PySem.F.type_list_append yZ Xb n hN l o j d h a m
def Km(n:B0 X e t)(hN:X.N[i]?=aa x<|>0)(l:xD X.env.scope x<|>3)(o:Zu x<|>1)(j:Zt x<|>1)
  (d:attributeBase (.Name x p) "pop" X.env (eval (.Name x p) X.env)=eval (.Name x p) X.env<|>0)
  (h:Zo X cpos e<|>0)
  (a:Q0l apos cpos<|>0) (m:Zq X e []<|>0):
  B0 X (.Call (.Attribute (.Name x p) "pop" apos) [e] [] cpos) (nk i vt t):=m1 xw a01 QS Xa n hN l o j d h a m
end
def vp(ρ:bK)(i:Nat):Prop:=match ρ[i]? with
 |some (.ow (.lst _))=>True
 |_=>False
def Kk(i:Nat)(t:WX)(tk:WE):WS:=λE ρ=>t ρ λa d=>vp a i/\tk (bB a) λk=>match a[i]?,k with
 |some (.ow (.lst ds)),.int k=>(match LY ds.length k with|some j=>E.nx (a.set i (.ow (.lst (ds.set j d))))|none=>False)
 |_,_=>False
theorem put3(he:B0 X e t)(hk:cK X k tk)
  (hN:X.N[i]?=aa x<|>0) (Y:xD X.env.scope x<|>3) (hd:Zu x<|>1) (A:Zt x<|>1)
  (ha:∀v,assign (.Subscript (.Name x p) k pos') X.env v=(do
   let ov <- holding [v] (eval (.Name x p) X.env)
   let iv <- holding [v,ov] (eval k X.env)
   standAt pos'
   holding [v,ov,iv] (setItem ov iv v)
   release [v,ov,iv] []):=by intro _;rfl)
  (hs:swapsWithSole [.Subscript (.Name x p) k pos'] e ν.line X.env=pure ag<|>0) (hw:swappedStores [.Subscript (.Name x p) k pos'] e X.env=pure af<|>0)
  (h1:(cp [.Subscript (.Name x p) k pos'] X.env).map (·.2)=[assign (.Subscript (.Name x p) k pos') X.env]<|>0):
  xS X (.Assign [.Subscript (.Name x p) k pos'] e ν) (Kk i t tk):=iD (QF he (Za (pA hN Y hd A) hk set_list ha) hs hw h1) λB σ H Kj=>by
 obtain⟨H₀,S,w,ρ,G,E,L,st,Z,ok⟩:=Kj;show⟨H₀,S,w,ρ,G,_,L,st,Z,λm v H' h d l d' y=>?_⟩;obtain⟨q,y⟩:=y;unfold vp at q;split at q
 .rename_i ds0 e0;obtain⟨a0,_,_⟩:=l.own i _ e0;show⟨_,a0,S,bB h,_,l.GK,l.all,y,λkv O dk I o q2=>?_⟩;split at q2
  .rename_i ds k' e1;symm at o;split at q2
   .rename_i j ej;have n:=l.same I;obtain⟨a,b,c⟩:=n.own i _ e1;obtain⟨xs,J,dn⟩:=c;have U:¬ SO S m h (m i):=λ⟨_,z⟩=>z i _ e1 rfl;have F:Fits X.K (SO S m h) (SO S m h) O (upd O (m i) (.lst (xs.set j v))):=.upd (.inl ⟨_,J⟩) U;show⟨m i,xs,k',j,rfl,o,J,by rw[<- dn.len];show ej,ok.nx m σ _ _ L (n.write (d':=.lst (ds.set j d)) e1 ⟨_,aW,aZ.fits F _ _ (dn.set j (Dn.fits (.same I) _ _ d'))⟩) q2⟩
   .exact q2.elim
  .exact q2.elim
 .exact q.elim
end
structure Wlk (K:ar) (J:It) (ds:List D) (G:List (D×V)):Prop where
 go:∀(S:ah->Prop) (H:Hp),(∀a,H a=af->S a)->(∀g∈G,Dn K S H g.1 g.2) ->∀(i:Nat) (d:D),ds[i]?=aa d->J.go i H /\∀x H',J.yld i H x H'->ξ H H'/\Dn K S H' d x
 stop:∀(S:ah->Prop) (H:Hp),(∀g∈G,Dn K S H g.1 g.2) ->∀i:Nat,ds.length=i->J.stop i H
abbrev WI:=b7->(List D->Prop)->Prop
def YX(K:ar)(t:WI):TI:=λσ H R=>∃(S:ah->Prop) (ρ:b7) (Q3:List D->Prop),(∀a,H a=af->S a)/\Sl K S H ρ σ/\t ρ Q3 /\
 ∀J H' ds G,ξ H H'->(∀g∈G,Dn K S H' g.1 g.2)->Wlk K J ds G->Q3 ds->R J H'
def N0(X:Cx)(a iter:au)(t:WI):Prop:=PI X a iter (YX X.K t)
section
variable{X:Cx}{tg:au}
theorem MK(h:PI X tg e t)(f:∀σ H R,t' σ H R->t σ H R):PI X tg e t':=λπ s σ H R I q=>h π s σ H R I (f σ H R q)
noncomputable def Sx(t:WE):WI:=λρ Q=>t ρ λd=>match d with
 |.lst ds=>Q ds
 |.tup ds=>Q ds
 |_=>False
theorem RH{K:ar}{a:ah}{ds:List D}:Wlk K (Itl K a) ds [(.lst ds,.ref a)] where
 go:=λS H q m i d e=>by have h:=m _ (bt.mpr rfl);symm at h;obtain⟨b,xs,j,l,n,dn⟩:=h;injection j with j;subst j;obtain⟨v,ev,p⟩:=dn.get e;show⟨⟨xs,v,fU.of l,ev⟩,λx H' y=>?_⟩;obtain⟨o,y⟩:=y;subst o;have ex:=y xs (fU.of l);rw[ev] at ex;cases ex;show⟨ξ.refl _,p⟩
 stop:=λS H m i hi=>by have h:=m _ (bt.mpr rfl);symm at h;obtain⟨b,xs,j,l,n,dn⟩:=h;injection j with j;subst j;show⟨xs,fU.of l,by rw[<- dn.len];show kl hi⟩
theorem WB{K:ar}{a:ah}{ds:List D}:Wlk K (Itt K a) ds [(.tup ds,.ref a)] where
 go:=λS H p m i d e=>by have h:=m _ (bt.mpr rfl);symm at h;obtain⟨b,xs,j,l,dn⟩:=h;injection j with j;subst j;obtain⟨v,ev,o⟩:=dn.get e;show⟨⟨xs,v,(fI.of l),ev⟩,λx H' y=>?_⟩;obtain⟨n,y⟩:=y;subst n;have ex:=y xs (fI.of l);rw[ev] at ex;cases ex;show⟨ξ.refl _,o⟩
 stop:=λS H m i hi=>by have h:=m _ (bt.mpr rfl);symm at h;obtain⟨b,xs,j,l,dn⟩:=h;injection j with j;subst j;show⟨xs,(fI.of l),by rw[<- dn.len];show kl hi⟩
def W_(L:PE X l tl):PI X tg l (λσ H R=>tl σ H λx m=>∃a,x=.ref a/\(((∃xs,fU X.K m a xs)/\R (Itl X.K a) m)\/((∃xs,fI X.K m a xs)/\R (Itt X.K a) m))):=by
 intro π s σ H R I h;show dF (L π s σ H _ I h) λv d O=>?_;obtain⟨x,m,j,F,q1⟩:=O;obtain⟨a,e,q⟩:=q1;subst e;cases F;rcases q with⟨⟨xs,n⟩,q⟩|⟨⟨xs,n⟩,q⟩
 .obtain ⟨z,A,p,J⟩:=j.list n;show Bx p.isList ?_;show⟨d.heap.objs.size,[d.heap.objs.size],_,_,m,rfl,j.kept (t':=d.toks) λb o e=>ck _ e,LO a _,⟨_,dh _ rfl,rfl,rfl⟩,λb y=>?_,q⟩;have e:b=d.heap.objs.size:=by simpa using y
  subst e;show j.FY (bh _) (j.hok.fresh (bh _))
 .obtain ⟨z,A,p,J⟩:=j.tuple n;show sx (show d.heap.IsTuple a z.toArray from p) ?_;show⟨d.heap.objs.size,[d.heap.objs.size],_,_,m,rfl,j.kept (t':=d.toks) λb o e=>ck _ e,FZ a _,⟨_,dh _ rfl,rfl,rfl⟩,λb y=>?_,q⟩;have e:b=d.heap.objs.size:=by simpa using y
  subst e;show j.FY (bh _) (j.hok.fresh (bh _))
theorem Sw(h:cK X l t):N0 X tg l (Sx t):=MK (W_ h) λσ H R F=>by
 obtain⟨S,ρ,Q3,z,x,y,k⟩:=F;show⟨S,ρ,_,z,x,y,λv q d p m q1=>?_⟩
 cases d with
 |lst ds =>
  have j:=m;symm at m;obtain⟨a,xs,rfl,o,I,A⟩:=m;show⟨a,rfl,.inl ⟨⟨xs,fU.of o⟩,k _ q ds [(.lst ds,.ref a)] p (λg n=>by cases bt.mp n;show j) RH q1⟩⟩
 |tup ds =>
  have j:=m;symm at m;obtain⟨a,xs,rfl,o,A⟩:=m;show⟨a,rfl,.inr ⟨⟨xs,(fI.of o)⟩,k _ q ds [(.tup ds,.ref a)] p (λg n=>by cases bt.mp n;show j) WB q1⟩⟩
 |_=>show q1.elim
def m9(lo:Int)(n:Nat):List Int:=(gk n).map λk:Nat=>lo+(k:Int)
def nA(lo:Int)(n:Nat):(m9 lo n).length=n:=by simp[m9]
def RI{lo:Int}{n i:Nat}:(m9 lo n)[i]?=if i<n then aa (lo+(i:Int)) else af:=by
 unfold m9;rw[dg];by_cases h:i<n
 .rw [Z_ h,a2i h];rfl
 .rw [Zz h,qz (by simpa using h)];rfl
theorem zB{K:ar}{lo:Int}{n:Nat}:Wlk K (Itr lo n) ((m9 lo n).map D.int) [] where
 go:=λS H l a i d e=>by
  rw[dg,RI] at e;by_cases h:i<n
  .rw [Z_ h] at e;cases e;show⟨h,λx H' y=>?_⟩;obtain⟨j,e2⟩:=y;subst j;show⟨ξ.refl _,by symm;show e2⟩
  .rw [Zz h] at e;cases e
 stop:=λS H a i hi=>by rw[a_,nA] at hi;show kl hi
noncomputable def Wz(t:WA):WI:=λρ Q=>t ρ λds=>match ds with
 |[.int j]=>(-(2^62)<=j/\j<2^62)/\Q ((m9 0 j.toNat).map D.int)
 |_=>False
noncomputable def WC(t:WA):WI:=λρ Q=>t ρ λds=>match ds with
 |[.int i,.int j]=>(-(2^62)<=i/\i<2^62 /\ -(2^62)<=j/\j<2^62)/\Q ((m9 i (j-i).toNat).map D.int)
 |_=>False
def Wy(q:X.mg "range"=af)(x:vV X [a] t)(d:Gl X "range"<|>0)(o:av [a] X.env=[(ag,eval a X.env)]<|>0):N0 X tg (.Call (.Name "range" p) [a] [] ν) (Wz t) :=
 MK (LP d q x o) λσ H R A=>by
  obtain⟨S,ρ,Q3,y,l,n,k⟩:=A;show⟨S,ρ,_,y,l,n,λI F ds m z q1=>?_⟩;split at q1
  .rename_i j;obtain⟨v,r,rfl,h,h2⟩:=z.bL;simp only[aZ] at h2;subst h2;symm at h;subst h;show⟨j,rfl,q1.1.1,q1.1.2,k _ F _ [] m (λg d=>nomatch d) zB q1.2⟩
  .exact q1.elim
def WD(z:X.mg "range"=af)(A:vV X [a,b] t)(h:Gl X "range"<|>0)(y:av [a,b] X.env=[(ag,eval a X.env),(ag,eval b X.env)]<|>0)(d:av [b] X.env=[(ag,eval b X.env)]<|>0):N0 X tg (.Call (.Name "range" p) [a,b] [] ν) (WC t) :=
 MK (LQ h z A y d) λσ H R J=>by
  obtain⟨S,ρ,Q3,F,o,x,k⟩:=J;show⟨S,ρ,_,F,o,x,λL K ds q I q1=>?_⟩;split at q1
  .rename_i i j;obtain⟨v,r,rfl,n,h2⟩:=I.bL;obtain⟨O,U,rfl,m,l⟩:=h2.bL;simp only[aZ] at l;subst l;symm at n m;subst n m;show⟨i,j,rfl,q1.1,k _ K _ [] q (λg h=>nomatch h) zB q1.2⟩
  .exact q1.elim
abbrev WG:=D->bK->(bK->Prop)->Prop
def Su(K:ar)(n:Nat)(g:WG):TG:=λv σ H Q=>∃(H₀:Hp) (S:ah->Prop) (w:Nat->ah) (ρ:bK) (G:List (D×V)) (d:D) (Q3:bK->Prop),σ.length=n/\ST K H₀ S w σ H ρ G/\Dn K (SO S w ρ) H d v/\g d ρ Q3 /\
 ∀a H' h,a.length=n->ST K H₀ S w a H' h G->Q3 h->Q a H'
def TN(X:Cx)(tg:au)(g:WG):Prop:=PG X tg (Su X.K X.N.length g)
def GP(h:PG X e t)(f:∀v σ H Q,t' v σ H Q->t v σ H Q):PG X e t':=λπ s σ H v u Q I r q=>h π s σ H v u Q I r (f v σ H Q q)
def gN(i:Nat):WG:=λd ρ Q=>Q (ρ.set i (.ro d))
theorem Ss(hN:X.N.Nodup)(hi:X.N[i]?=aa x<|>0)(h:Loc X.env.scope x<|>2)(l:Zp X x<|>2):TN X (.Name x ν) (gN i) :=
 GP (iQ hN hi h l) λv σ H Q m=>by obtain⟨H₀,S,w,ρ,G,d,Q3,a,st,dn,j,k⟩:=m;show k _ H _ (by rw[dm];show a) (st.hZ (by rw[a];show eZ hi) dn) j
noncomputable def g2(i j:Nat):WG:=λd ρ Q=>match d with
 |.tup [d1,d2]=>Q ((ρ.set i (.ro d1)).set j (.ro d2))
 |_=>False
def Sr(hc:X.calm=ae)(hN:X.N.Nodup)(hi:X.N[i]?=aa x<|>0)(L:X.N[j]?=aa y<|>0)(Z:Loc X.env.scope x<|>2)(Y:Loc X.env.scope y<|>2)
  (K:Zp X x<|>2) (J:Zp X y<|>2)
  (hn:Q0k X x y px py<|>0) (q:Q0j X x y px py<|>0)
  (F:Q0h X x y px py<|>0) (A:Q0i X y py<|>0):
  TN X (.Tuple [.Name x px,.Name y py] k ν) (g2 i j) :=
 GP (FX (n:=2) hc (iX (iQ hN hi Z K) (iX (iQ hN L Y J) A1 A) F) hn q) λv σ H Q Ll=>by
  obtain⟨H₀,S,w,ρ,G,d,Q3,I,st,dn,h,k⟩:=Ll;unfold g2 at h;split at h
  .rename_i d1 d2;symm at dn;obtain⟨a,xs,rfl,ha,da⟩:=dn;obtain⟨U,r1,rfl,h1,h2⟩:=da.bL;obtain⟨l,r2,rfl,h3,O⟩:=h2.bL;simp only[aZ] at O;subst O;show⟨a,_,rfl,(fI.of ha),rfl,U,[l],rfl,l,[],rfl,rfl,?_⟩;have p:=st.hZ (i:=i) (by rw[I];show eZ hi) h1;have m:∀a,SO S w ρ a->SO S w (ρ.set i (.ro d1)) a:=SO.mono λn f K=>by
    rcases get_set K with⟨_,z,_⟩|⟨_,z⟩
    .cases z
    .exact ⟨_,z⟩
   have o:=p.hZ (i:=j) (d:=d2) (v:=l) (by rw[dm,I];show eZ L) (Dn.fits (.mono m) _ _ h3);show k _ H _ (by rw[dm,dm];show I) o h
  .exact h.elim
def Lk(j:WI)(g:WG)(l:WS):WS:=λE ρ=>j (gO ρ) λds=>∃Φ:Nat->bK->Prop,Φ 0 ρ /\
 (∀(i:Nat) (d:D) (a:bK),ds[i]?=aa d->Φ i a->g d a λh=>l {E with nx:=Φ (i+1),ct:=Φ (i+1),bk:=E.nx} h) /\∀a,Φ ds.length a->E.nx a
theorem Lj(hc:X.calm=ae)(hp:qk (ay X.Ω X.w) X.A X.env X.xe)(hi:N0 X tg iter ti)(p:TN X tg g)(hb:tX X body tb)
  (hs:Zn X iter<|>4):xS X (.For tg iter body [] ν) (Lk ti g tb):=iD (Yy hp hc hi p hb hs) λB σ H Li=>by
 obtain⟨H₀,S,w,ρ,G,E,hl,st,ht,ok⟩:=Li;show⟨_,gO ρ,_,st.JQ,st.rd,ht,λJ H1 ds U s1 hg1 wk q1=>?_⟩;obtain⟨Iv,h0,turn,fin⟩:=q1;have L:∀{w σ H ρ},ST X.K H₀ S w σ H ρ (U++G)->ST X.K H₀ S w σ H ρ G:=λst=>st.ghost λg p=>st.gh g (gu _ p);show⟨λi m σ H=>m=ds.length-i/\i<=ds.length/\σ.length=X.N.length /\∃w ρ,ST X.K H₀ S w σ H ρ (U++G)/\Iv i ρ,
  ⟨_,rfl,jx _,hl,w,ρ,(st.same s1).ghost λg p=>(di.mp p).elim (λz=>hg1 g z) λz=>(st.same s1).gh g z,h0⟩,?_⟩
 rintro i m Y H2 ⟨rfl,hi2,O,w2,o,n,iv⟩;by_cases I:i<ds.length
 .refine .inr ?_;obtain⟨g1,g2⟩:=wk.go _ H2 n.JQ (λg p=>n.gh g (iq _ p)) i ds[i] (by simp[I]);show⟨g1,λa H'=>a.length=X.N.length /\∃w ρ,ST X.K H₀ S w a H' ρ (U++G)/\Iv (i+1) ρ,λa H' ⟨l,F,h,j,iv'⟩=>⟨ds.length-(i+1),by lia,rfl,I,l,F,h,j,iv'⟩,λx H' y=>?_⟩;obtain⟨s3,dx⟩:=g2 x H' y;show⟨H₀,S,w2,o,U++G,ds[i],_,O,n.same s3,dx,turn i ds[i] o (by simp[I]) iv,λσ4 H4 Z hl4 st4 q4=>?_⟩;show⟨H₀,S,w2,Z,U++G,_,hl4,st4,q4,⟨λF a H' h l j q=>⟨l,F,h,j,q⟩,λv H' d s' d' q=>ok.rt v H' d s' d' q,λF a H' h l j q=>ok.nx F a H' h l (L j) q,λF a H' h l j q=>⟨l,F,h,j,q⟩,ok.ex⟩⟩
 .have e:i=ds.length:=by lia
  subst e;show .inl ⟨wk.stop _ H2 (λg p=>n.gh g (iq _ p)) _ rfl,ok.nx w2 Y H2 o O (L n) (fin o iv)⟩
end
theorem GQ(h:∀x∈scope.names,x.2=.free ->∃c,env.cells.lookup x.1=aa c):
  ∃d,closureFor scope env=pure d/\(∀x∈scope.names,x.2=.free->d.lookup x.1=env.cells.lookup x.1) /\∀x c,d.lookup x=aa c->env.cells.lookup x=aa c:=by
 have go:∀(l:List (ak×je)) (j:List (ak×ah)),(∀x∈l,x.2=.free ->∃c,env.cells.lookup x.1=aa c)->(∀x c,j.lookup x=aa c->env.cells.lookup x=aa c) ->
   ∃d,(forIn l j λ(x:ak×je) (L:List (ak×ah))=>(match x with|(name,kind)=>if(kind == jm)=ae then(do let c <- cellOf env name;pure (l_ ((name,c)::L))) else pure (l_ L):Sem (ForInStep (List (ak×ah)))))=pure d /\
    (∀x c,j.lookup x=aa c->d.lookup x=aa c)/\(∀x∈l,x.2=.free->d.lookup x.1=env.cells.lookup x.1) /\∀x c,d.lookup x=aa c->env.cells.lookup x=aa c:=by
  intro l
  induction l with
  |nil=>intro j _ p;show⟨j,by rw[yo],λ_ _ z=>z,λx a=>(nomatch a),p⟩
  |cons y l ih =>
   intro j J p;by_cases F:y.2=.free
   .obtain ⟨c,I⟩:=J y cq F;have K:∀x n,((y.1,c)::j).lookup x=aa n->env.cells.lookup x=aa n:=λx n a=>by
     rw[qw] at a;split at a
     .rename_i e;cases a;rw[eq_of_beq e];show I
     .exact p x n a
    obtain⟨d,e,v,h2,q⟩:=ih ((y.1,c)::j) (λx a=>J x (fg _ a)) K;show⟨d,?_,λx n a=>?_,λx a m=>?_,q⟩
    .rw [o_,<- e];have A:(y.2 == jm)=ae:=by rw[F];rfl
     have e2:cellOf env y.1=pure c:=by unfold cellOf;rw[I]
     obtain⟨O,U⟩:=y;dsimp only at A e2 ⊢;rw[Z_ A,e2];rfl
    .by_cases o:x=y.1
     .subst o;have e3:((y.1,c)::j).lookup y.1=aa c:=by simp
      have e4:=p _ _ a;rw[I] at e4;cases e4;show v _ _ e3
     .refine v x n ?_;rw[qw];have:(x == y.1)=ag:=by simpa using o
      rw[this];show a
    .rcases cb.mp a with rfl|a
     .rw [I];show v _ _ (by simp)
     .exact h2 x a m
   .obtain ⟨d,e,v,h2,q⟩:=ih j (λx a=>J x (fg _ a)) p;show⟨d,?_,v,λx a m=>?_,q⟩
    .rw [o_,<- e];have A:¬ (y.2 == jm)=ae:=by simpa using F
     obtain⟨O,U⟩:=y;dsimp only at A ⊢;rw[Zz A];rfl
    .rcases cb.mp a with rfl|a
     .exact Zw m F
     .exact h2 x a m
 obtain⟨d,e,_,h2,q⟩:=go scope.names [] h (λx c z=>by simp at z);show⟨d,?_,h2,q⟩;have X:=congrArg (λt=>t >>= λr=>(pure r:Sem (List (ak×ah)))) e;show X
theorem iL:∀(l:List (ak×je)) (n:Nat) (own a:List (ak×ah)),cellsFrom n l (own++a)=cellsFrom n l own++a
 |[],_,_,_=>rfl
 | (x,k)::r,n,own,a=>by
  unfold cellsFrom;split
  .exact iL r (n+1) ((x,n)::own) a
  .exact iL r n own a
theorem jO:∀(l:List (ak×je)) (n:Nat) (own:List (ak×ah)) (p:ak×ah),p∈cellsFrom n l own->p∈own\/(p.1,jv)∈l
 |[],_,_,_,h=>.inl h
 | (x,k)::r,n,own,p,h=>by
  unfold cellsFrom at h;split at h
  .rename_i hk;rcases jO r _ _ p h with h|h
   .rcases cb.1 h with rfl|h
    .exact .inr (by rw[<- eq_of_beq hk];show cq)
    .exact .inl h
   .exact .inr (fg _ h)
  .rcases jO r _ _ p h with h|h
   .exact .inl h
   .exact .inr (fg _ h)
theorem kB:∀(l:List (ak×je)) (n:Nat) (own:List (ak×ah)) (x:ak),((∃c,own.lookup x=aa c)\/(x,jv)∈l) ->∃c,(cellsFrom n l own).lookup x=aa c
 |[],_,_,_,h=>h.elim id λz=>(nomatch z)
 | (y,k)::r,n,own,x,h=>by
  unfold cellsFrom;split
  .refine kB r _ _ x ?_;by_cases e:x=y
   .exact .inl ⟨n,by rw[e,qw,beq_self_eq_true]⟩
   .rcases h with⟨c,h⟩|h
    .exact .inl ⟨c,by rw[qw,beq_eq_false_iff_ne.mpr e];show h⟩
    .rcases cb.mp h with z|z
     .exact Zw (a1H z).1 e
     .exact .inr z
  .rename_i hk;show kB r _ _ x (h.imp_right λz=>?_);rcases cb.mp z with z|z
   .rw [<- (a1H z).2] at hk;show Zw rfl hk
   .exact z
theorem ML{M:Model}{A:br}{E:Q0c}{s:ao}{sc:gj}{g:ah}{j:List (ak×ah)}{q:ak}{f:Option ah}{code:ai}{env:dq}{bl:ah}{Q:dq->ao->Prop}
  (h:∀a:bb,a.Ns s.heap.objs.size (λ_=>af)->(∀b o,s.heap.get? b=aa o->a.get? b=aa o)->CellsOk a (s.heap.objs.size+1) (cellsFrom (s.heap.objs.size+1) sc.names []) ->
   Q (newEnv sc s.heap.objs.size g (cellsFrom (s.heap.objs.size+1) sc.names j) q f code (aa env) bl) {s with heap:=a}):
  aw M A (newFunctionEnv sc g j [] q f code (aa env) bl) Q E s:=by
 unfold newFunctionEnv;show aq (Bz (aq (wpAny_layCells _ (λx k c=>by cases e:k == jv<;>simp[e]) _ _ _ _ ?_)));have d:∀o:az,(s.heap.push o).objs.size=s.heap.objs.size+1:=λo=>oo ..;have ok:=λo=>cellsFrom_ok sc.names (s.heap.push o) (s.heap.objs.size+1) [] ⟨λ_ _ z=>(nomatch z),.nil⟩ (by rw[d];show bh _);simp only[d] at ok ⊢;rw[yo];show aq (ax (ax (h _ ((Heap.Ns.new s.heap _).keeps (a0l _ _)) (λb o e=>a0l _ _ b o (ck _ e)) (ok _))))
def blk(X:Cx)(N:Q0g)(sc:gj)(a:List (ak×ah))(C:ah)(pn:Q0b)(ex:List ah)(s₀:ao)(H₀:Hp):Cx :=
 {X with N:=N,s₀:=s₀,H₀:=H₀,env:=compEnvC sc a C X.env,outer:=X.stack,stack:=X.stack,ex:=ex,fn:=λx=>sc.names.lookup x == aa jv,pn:=pn,xe:=λ_ _=>False}
def DN(nl:Nat)(fr:List Nat)(σ:L2.St):L2.St:=jy nl af++fr.map λj=>(σ[j]?).join
structure DO (X:Cx) (ls fs:Q0g) (fr:List Nat) (sc:gj):Prop where
 kind:sc.kind=.function
 nd:(ls++fs).Nodup
 uniq:∀x∈sc.names,sc.names.lookup x.1=aa x.2
 free:∀x∈sc.names,x.2=.free->X.env.kindOf x.1=aa .cell\/X.env.kindOf x.1=aa .free
 slot:∀(k:Nat) (x:ak),fs[k]?=aa x ->∃j,fr[k]?=aa j/\X.N[j]?=aa x/\(x,jm)∈sc.names/\sc.names.lookup x=aa .free
 BI:fr.length=fs.length
section
variable{X:Cx}
theorem tG(t:ak->je->je)(x:ak):∀l:List (ak×je),(l.map λp=>(p.1,t p.1 p.2)).lookup x=(l.lookup x).map (t x)
 |[]=>rfl
 | (n,k)::r=>by
  rw[bp,qw,qw];by_cases a:(x == n)=ae
  .rw [a,eq_of_beq a];rfl
  .rw [a2C] at a;rw[a];show tG t x r
theorem wD{sc:gj}{env:dq}{x:ak}{l:List (ak×je)}:(l.map λ(n,k)=>if(k == jm&&env.scope.kind == .function&&env.kindOf n == aa .cell) then(n,jv) else(n,k)).lookup x =
  (l.lookup x).map λk=>if(k == jm&&env.scope.kind == .function&&env.kindOf x == aa .cell) then jv else k:=by
 rw[<- tG (λy k=>if(k == jm&&env.scope.kind == .function&&env.kindOf y == aa .cell) then jv else k) x l];show congrArg (List.lookup x) (jf λp _=>?_);dsimp only;split<;>rfl
def ne_size{b c:ah}{h:bb}{o:az}(e:h.get? b=aa o)(a:c=h.objs.size):b≠c:=λz=>il _ (by have q:=bz e;rw[z,a] at q;show q)
def DP{b c:ah}{n:Nat}(h:b<n)(a:n<=c):b≠c:=λz=>il c (gg (z▸h) a)
theorem WH{ls fs:Q0g}{fr:List Nat}{sc:gj}{h:List (ak×ah)}{C:ah}{π:Q0b}{ex:List ah}{σ:L2.St}{H:Hp}{s s4:ao}(B:DO X ls fs fr sc)(I:Φ X π σ H s)
  (hcl:∀x∈sc.names,x.2=.free->h.lookup x.1=X.env.cells.lookup x.1) (BK:∀x c,h.lookup x=aa c->X.env.cells.lookup x=aa c\/(C<c/\s4.heap.IsCell c af)) (Ap:∀x∈sc.names,x.2=.cell ->∃c,h.lookup x.1=aa c/\C<c)
  (hinj:∀x y c,h.lookup x=aa c->h.lookup y=aa c->x=y) (hex:∀b∈ex,pC X π H b/\b<s.heap.objs.size)
  (O:C=s.heap.objs.size) {m:Q0d} (hn:s4.heap.Ns C m) (hk:∀b o,s.heap.get? b=aa o->s4.heap.get? b=aa o) (ho:s4.os=s.os) (hg:s4.gens=s.gens):
  Φ (blk X (ls++fs) sc h C (X.pn++π) ex s H) [] (DN ls.length fr σ) H s4:=by
 have Y:∀{b:ah} {o:az},s.heap.get? b=aa o->b≠C:=λe=>ne_size e O;have aKl:∀x c,h.lookup x=aa c->c≠C:=λx c e=>by
  rcases BK x c e with e|⟨e,_⟩
  .obtain ⟨v,o,ho,_⟩:=I.cell x c e;show Y ho
  .exact ox e
 have zu:∀x,(compEnvC sc h C X.env).kindOf x=(sc.names.lookup x).map λk=>if(k == jm&&X.env.scope.kind == .function&&X.env.kindOf x == aa .cell) then jv else k:=λx=>wD (sc:=sc)
 have okX:(blk X (ls++fs) sc h C (X.pn++π) ex s H).Ok:=by
  show⟨I.ok.mod,B.kind,I.ok.glob,I.ok.blt,(by show s.heap.objs.size<=C;rw[O];show bh _),hinj,λx A=>?_,λx c hf hl=>?_,I.ok.hd,I.ok.frames,.inl rfl,λb L=>?_,λb o e=>I.bs b o e,gi I.ok.U8 I.sz,λb o e L=>?_,λb L=>?_,I.stack,I.AX,I.tab⟩
  ·-- a cell or free name of the block
   have hx':∃k,sc.names.lookup x=aa k/\((if(k == jm&&X.env.scope.kind == .function&&X.env.kindOf x == aa .cell) then jv else k)=.cell\/(if(k == jm&&X.env.scope.kind == .function&&X.env.kindOf x == aa .cell) then jv else k)=.free):=by
    have A:(compEnvC sc h C X.env).kindOf x=aa .cell\/(compEnvC sc h C X.env).kindOf x=aa .free:=A;rw[zu] at A
    cases e:sc.names.lookup x with
    |none=>rw[e] at A;rcases A with A|A<;>cases A
    |some k=>rw[e] at A;show⟨k,rfl,A.imp (λz=>ft z) λz=>ft z⟩
   obtain⟨k,e,K⟩:=hx';have U:=kc e;by_cases kf:k=.free
   .subst kf;have q:=hcl _ U rfl;obtain⟨c,hc⟩:=I.ok.has x (B.free _ U rfl);show⟨c,q.trans hc⟩
   .have e2:(k == jm)=ag:=by simpa using kf
    rw[e2] at K;simp only[uw,y_,if_false] at K;rcases K with z|z
    .obtain ⟨c,hc,_⟩:=Ap _ U z;show⟨c,hc⟩
    .exact Zw z kf
  ·-- an own cell is new
   obtain⟨c',F,Z⟩:=Ap _ (kc (eq_of_beq hf)) rfl;have F:h.lookup x=aa c':=F;have hl:h.lookup x=aa c:=hl;rw[hl] at F;cases F;rw[O] at Z;show kj Z
  .refine ⟨DP (hex b L).2 (kl O.symm),λx c e=>?_⟩;rcases BK x c e with e|⟨e,_⟩
   .exact (hex b L).1.2.2.2.2.1 x c e
   .exact d_ (DP (hex b L).2 (by rw[<- O];show kj e))
  .obtain ⟨⟨_,_,_,f3,_,_⟩,_⟩:=hex b L;rcases f3 with f3|f3
   .exact I.ok.P8 b o e f3
   .exact Zw (gg (bz e) (gi I.ok.U8 f3)) (il _)
  .intro z;obtain⟨⟨_,f1,f2,_,_,_⟩,_⟩:=hex b L;rcases cb.mp (I.oZ b z) with z|z
   .exact f1 z
   .exact f2 z
 show⟨okX,ho,by rw[hg];show I.bare,Un.kept hk,⟨m,hn,λi x v h1 h2 h3=>?_⟩,λx c e=>?_,?_,λx c e=>?_,λp hp=>?_,I.hok.kept hk,?_⟩
 ·-- a name with a value is one from around
  have hi:¬ i<ls.length:=λhi=>by unfold DN at h2;rw[iu (by simpa using hi),nh,Z_ hi] at h2;cases h2
  have e1:fs[i-ls.length]?=aa x:=by have h1:(ls++fs)[i]?=aa x:=h1;rw[ir ∅] at h1;show h1
  obtain⟨j,ej,eN,U,hlk⟩:=B.slot _ _ e1;have e2:(σ[j]?).join=aa v:=by unfold DN at h2;rw[ir (by simpa using hi),dg,mx,ej] at h2;show ft h2
  have e3:σ[j]?=aa (aa v):=by
   cases q:σ[j]? with
   |none=>rw[q] at e2;cases e2
   |some o=>rw[q] at e2;rw[show o=aa v from e2]
  have hfr:=B.free _ U rfl;have vis:xD X.env.scope x:=.inr hfr;obtain⟨mm,hnm,hl⟩:=I.loc;obtain⟨u,r,l⟩:=hl j x v eN e3 vis;show⟨u,r,?_⟩;rcases l with⟨k1,_⟩|⟨k1,c,ec,zc⟩
  .have k1:X.env.kindOf x=aa .local:=k1;rcases hfr with z|z<;>rw[k1] at z<;>cases z
  .refine .inr ⟨?_,c,(hcl _ U rfl).trans ec,?_⟩
   .show (compEnvC sc h C X.env).kindOf x=aa .cell\/(compEnvC sc h C X.env).kindOf x=aa .free;rw[zu,hlk];dsimp only[Option.map];split
    .exact .inl rfl
    .exact .inr rfl
   .obtain ⟨oc,J,hd⟩:=zc;show⟨oc,hk _ _ J,hd⟩
 .rcases BK x c e with e|⟨_,e⟩
  .obtain ⟨v,oc,J,hd⟩:=I.cell x c e;show⟨v,oc,hk _ _ J,hd⟩
  .exact ⟨af,e⟩
 .show H C=af;rw[O];show I.hok.fresh (bh _)
 .rcases BK x c e with e|⟨e,_⟩
  .exact I.k6 x c e
  .exact I.hok.fresh (by rw[<- O];show kj e)
 .have hp:p∈(X.pn++π)++[]:=hp;rw[jk] at hp;obtain⟨e,n,ne,nf,d⟩:=I.pin p hp;show⟨hk _ _ e,n,Y e,λz=>?_,d⟩;rcases cb.mp (I.oZ _ z) with z|z
  .exact ne z
  .exact nf z
 .show (DN ls.length fr σ).length=(ls++fs).length;unfold DN;rw[bq,bq,mx,a_,B.BI]
theorem RJ{ls fs:Q0g}{sc:gj}{O:List (ak×ah)}{C:ah}{π U:Q0b}{ex:List ah}{σ m:L2.St}{H H':Hp}{s s':ao}{h':bb}(I:Φ X π σ H s)
  (J:Φ (blk X (ls++fs) sc O C (X.pn++π) ex s H) U m H' s') (hex:∀b∈ex,pC X π H b) (y:C=s.heap.objs.size) (l:jw C s'.heap h'):Φ X π σ H' {s' with heap:=h' }:=by
 have a:∀{b:ah} {o:az},s.heap.get? b=aa o->b≠C:=λe=>ne_size e y;have fr:H' C=af:=J.free;have un:Un (frs X.stack) ex H H' s.heap s'.heap:=J.ω;show I.call' (s':={s' with heap:=h' }) (ch:=ex) J.os ⟨λb o e n j h=>(l.2 b (a e)).trans (un.keep b o e n j h),λb o e n j h=>?_,un.free,λb o e h=>?_,un.tups,un.vN,un.tQ⟩ ?_ J.bare λb j=>?_
 .obtain ⟨p,q⟩:=un.slot b o e n j h;show⟨p,(l.2 b (a e)).trans q⟩
 .obtain ⟨x,q⟩:=un.there b o e h;show⟨x,(l.2 b (a e)).trans q⟩
 .intro b v e;show(J.hok b v e).stay (λc u d q=>(l.2 c ?_).trans q) (λ_ q=>q) λ_ _ q=>q;intro z;rcases d with d|d
  .rw [z] at d;rw[<- d,fr] at e;cases e
  .rw [z,fr] at d;cases d
 .obtain ⟨_,L,_,K,F,A⟩:=hex b j;show⟨K,L,F,A⟩
abbrev Wx(ifs:List au)(env:dq):Sem Bool:=forIn ifs ae λc r=>if r=ae then(do let b <- isTrue c env (eval c env);pure (l_ b)) else pure (l_ r)
abbrev Calm(Ω:bg)(w:ba)(A:br){a:Type}(t:Sem a)(Q:a->ao->Prop)(s:ao):Prop:=aw (ay Ω w) A t Q (λ_ _=>False) s
theorem nB(l:Nat->ao->Prop)
  (turn:∀n s,l n s->Calm Ω w A (pyNext it) (λgot o=>match got with
   |none=>R (.ok .next) o
   |some v=>Calm Ω w A (letOwnedTupleGo tg it v) (λ_ F=>Calm Ω w A (assign tg env v) (λ_ s3=>Calm Ω w A (Wx ifs env) (λok s4 =>
     if ok=ae then Calm Ω w A (eval el env) (λx y=>Calm Ω w A (call (.builtin "list.append") [ψ,x]) (λ_ q=>∃m,m<n/\l m q) y) s4 else ∃m,m<n/\l m s4) s3) F) o) s)
  (n:Nat) (h:l n s):ju (ay Ω w) A (.compLoop (.ListComp el [⟨tg,src,ifs,0⟩] bs at_) 0 it ψ env) R s:=by
 have no:∀{p:Type} {E:Q0c} {t:Sem p} {Q Q':p->ao->Prop} {s:ao},Calm Ω w A t Q s->(∀a s,Q a s->Q' a s)->aw (ay Ω w) A t Q' E s:=λh f=>ka h f λ_ _ z=>z.elim;show codeAny_loop rfl l (λn s I=>?_) n h;show wpAny_noted (m:=compTurn (.ListComp el [⟨tg,src,ifs,0⟩] bs at_) 0 it ψ env) ?_;rw[compTurn_list];show aq (sk (aq (no (turn n s I) λgot o j=>?_)))
 match got,j with
 |none,j=>show ax j
 |some v,j =>
  show aq (no j λ_ _ h2=>aq (no h2 λ_ _ L=>aq (no L λok s4 d=>?_)))
  match ok,d with
  |false,d=>show ax (ze rfl d)
  |true,d=>show aq (aq (no d λ_ _ K=>aq (no K λ_ _ J=>ax (ax (ze rfl J)))))
abbrev TFk:=L2.St->Hp->(Bool->Hp->Prop)->Prop
def PIf(X:Cx)(ifs:List au)(t:TFk):Prop :=
 ∀(π:Q0b) (s:ao) (σ:L2.St) (H:Hp) (Q:Bool->Hp->Prop),Φ X π σ H s->t σ H Q ->
  aw (ay X.Ω X.w) X.A (forIn ifs ae λc r=>if r=ae then do let ok <- isTrue c X.env (eval c X.env);pure (l_ ok) else pure (l_ r)) (TP X π σ Q) X.xe s
def WJ:PIf X [] (λ_ H Q=>Q ae H):=λπ s σ H Q I h=>by rw[yo];show ax ⟨H,I,h⟩
def Ww(h:PT X c t):PIf X [c] t:=λπ s σ H Q I hw=>by rw[o_];show aq ?_;rw[Z_ rfl];show aq (dF (h π s σ H Q I hw) λb a q=>ax ?_);dsimp only;rw[yo];show ax q
def JW(nl:Nat)(fr:List Nat)(wi:TI)(g:TG)(tf:TFk)(te:TE):TE:=λσ H Q=>wi σ H λJ o=>∀d,o d=af ->∃W:Nat->Nat->Hp->List V->Prop,(∃m,W 0 m (upd o d (.lst [])) []) /\
 ∀i m H ys,W i m H ys->H d=aa (.lst ys)/\((J.stop i H/\Q (.ref d) H)\/(J.go i H /\∀x H',J.yld i H x H'->g x (DN nl fr σ) H' λa p=>(a.drop nl=fr.map λj=>(σ[j]?).join)/\tf a p λb n =>
  if b=ae then te a n λy l=>l d=aa (.lst ys)/\ys.length<bf /\∃h,h<m/\W (i+1) h (upd l d (.lst (ys++[y]))) (ys++[y]) else ∃h,h<m/\W (i+1) h n ys))
theorem DQ{ls fs:Q0g}{fr:List Nat}{sc:gj}{tg iter elt:au}{ifs:List au}{ν p2:bc}{wi:TI}{g:TG}{tf:TFk}{te:TE}{π:Q0b}{σ:L2.St}{H:Hp}{s:ao}{Qe:VK}{use:Option (ai->Sem Unit)}{Qv:Q0c}
  (hc:X.calm=ae) (B:DO X ls fs fr sc) (hi:PI X tg iter wi) (hg:∀F C pn ex s H,PG (blk X (ls++fs) sc F C pn ex s H) tg g) (hf:∀F C pn ex s H,PIf (blk X (ls++fs) sc F C pn ex s H) ifs tf) (he:∀F C pn ex s H,PE (blk X (ls++fs) sc F C pn ex s H) elt te)
  (hs:Zn X iter) (I:Φ X π σ H s) (h:JW ls.length fr wi g tf te σ H Qe)
  (fin:∀j C s' H',Φ X π σ H' s'->(∃m,s'.heap.Ns C m)->pC X π H' C->Qe (.ref j) H'->compPost (ay X.Ω X.w) X.A X.xe use Qv (.ref j) C (.ok .next) s'):
  aw (ay X.Ω X.w) X.A (comprehension (.ListComp elt [⟨tg,iter,ifs,0⟩] sc ν) sc X.env p2 (newList []) ag (eval iter X.env) use) Qv X.xe s:=by
 obtain⟨F,ecl,hcl,BK⟩:=GQ (scope:=sc) (env:=X.env) λx hx hf=>I.ok.has x.1 (B.free x hx hf);show wpAny_comprehension_free (g:=⟨tg,iter,ifs,0⟩) (gs:=[]) rfl hs ecl B.kind (λx hx e=>(B.uniq x hx).trans (congrArg aa e)) ?_;show dF (hi π s σ H _ I h) λv s1 h1=>dF h1 λitv U h2=>?_;obtain⟨it,l,tn,J,H2,e,I2,T,st2,f2,h2⟩:=h2;subst e;show og ?_ (by show([]:Q0f).toArray.size<=bf;simp);have hacc:H2 U.heap.objs.size=af:=I2.hok.fresh (bh _);have I3:Φ X π σ (upd H2 U.heap.objs.size (.lst [])) {U with heap:=U.heap.push {cls:=.type "list",data:=.seq ([]:Q0f).toArray} } :=
  I2.laid (t':=U.toks) (λb o e=>ck _ e) (bh _) ⟨by simp,[],0,.nil,dh _ rfl⟩
 have hfp:∀b∈l,b<U.heap.objs.size:=λb a=>by obtain⟨o,e,_⟩:=T.obj _ _ st2 b a;show bz e
 obtain⟨W,⟨m0,w0⟩,turn⟩:=h2 _ hacc;generalize DR:U.heap.objs.size=j at hacc I3 w0 turn ⊢;have Lh:∀b∈l,b≠j:=λb a=>DP (hfp b a) (kl DR);have f3:∀b∈l,pC X π (upd H2 j (.lst [])) b:=λb a=>⟨by rw[bQ (Lh b a)];show(f2 b a).1,(f2 b a).2⟩;generalize hs3:({U with heap:=U.heap.push {cls:=.type "list",data:=.seq ([]:Q0f).toArray} }:ao)=s3 at I3;have O:s3.heap.objs.size=j+1:=by rw[<- hs3];show(U.heap.push _).objs.size=_;rw[oo,DR]
 have st3:tn 0 s3.heap:=T.keep _ _ _ st2 λb a o e=>by rw[<- hs3];show ck _ e
 show ML λh4 hn4 hk4 co=>?_;generalize hC:s3.heap.objs.size=C at hn4 co ⊢;have eC:cellsFrom (C+1) sc.names F=cellsFrom (C+1) sc.names []++F:=iL sc.names (C+1) [] F;generalize hcs:cellsFrom (C+1) sc.names []=cs at co eC;have own:∀x c,cs.lookup x=aa c->(x,jv)∈sc.names/\C<c/\h4.IsCell c af:=λx c e=>by
  have m:=kc e;show⟨?_,(co.empty x c m).2,(co.empty x c m).1⟩;rw[<- hcs] at m;rcases jO _ _ _ _ m with z|z
  .cases z
  .exact z
 generalize hdl:cellsFrom (C+1) sc.names F=dl at eC ⊢;have two:∀x c,dl.lookup x=aa c->cs.lookup x=aa c\/(cs.lookup x=af/\F.lookup x=aa c):=λx c e=>by
  rw[eC,Ej] at e
  cases q:cs.lookup x with
  |none=>rw[q] at e;show .inr ⟨rfl,e⟩
  |some d=>rw[q] at e;show .inl e
 have Kg:∀x∈sc.names,x.2=.free->dl.lookup x.1=X.env.cells.lookup x.1:=λx hx e=>by
  rw[<- hcl x hx e,eC,Ej]
  cases q:cs.lookup x.1 with
  |none=>rfl
  |some d =>
   have z:=B.uniq _ (own _ _ q).1;rw[B.uniq x hx,e] at z;cases z
 have Ao:∀x c,dl.lookup x=aa c->X.env.cells.lookup x=aa c\/(C<c/\h4.IsCell c af):=λx c e=>by
  rcases two x c e with e|⟨_,e⟩
  .exact .inr (own x c e).2
  .exact .inl (BK x c e)
 have Kf:∀x∈sc.names,x.2=.cell ->∃c,dl.lookup x.1=aa c/\C<c:=λx hx e=>by obtain⟨c,hc⟩:=kB sc.names (C+1) [] x.1 (.inr (by rw[<- e];show hx));rw[hcs] at hc;show⟨c,by rw[eC,Ej,hc];rfl,(own _ _ hc).2.1⟩
 have low:∀x c,F.lookup x=aa c->c<C:=λx c e=>by obtain⟨v,o,ho,_⟩:=I3.cell x c (BK x c e);rw[<- hC];show bz ho
 have Ke:∀x y c,dl.lookup x=aa c->dl.lookup y=aa c->x=y:=λx y c e e'=>by
  rcases two x c e with e|⟨_,e⟩<;>rcases two y c e' with e' | ⟨_,e'⟩
  .exact a0n co.apart (kc e) (kc e')
  .exact Zw (own _ _ e).2.1 (a1Z (low _ _ e'))
  .exact Zw (own _ _ e').2.1 (a1Z (low _ _ e))
  .exact I3.ok.inj x y c (BK x c e) (BK y c e')
 have I4:Φ (blk X (ls++fs) sc dl C (X.pn++π) l s3 (upd H2 j (.lst []))) [] (DN ls.length fr σ) (upd H2 j (.lst [])) {s3 with heap:=h4} :=
  WH B I3 Kg Ao Kf Ke (λb a=>⟨f3 b a,by rw[O,<- DR];show qt (hfp b a)⟩) hC.symm hn4 hk4 rfl rfl
 generalize Z:blk X (ls++fs) sc dl C (X.pn++π) l s3 (upd H2 j (.lst []))=Y at I4;have pY:Y.Ω=X.Ω:=by rw[<- Z];rfl
 have wY:Y.w=X.w:=by rw[<- Z];rfl
 have kY:Y.K=X.K:=by rw[<- Z];rfl
 have AY:Y.A=X.A:=by rw[<- Z];rfl
 have cY:Y.calm=ae:=by rw[<- Z];show hc
 have eY:Y.env=compEnvC sc dl C X.env:=by rw[<- Z];rfl
 have xY:Y.xe=λ_ _=>False:=by rw[<- Z];rfl
 have RK:∀{H':Hp},(∀b∈l,H' b=af) ->∀b∈l,pC Y [] H' b:=λhn b a=>by
  rw[<- Z];obtain⟨_,f1,f2',_,f4,f5⟩:=f3 b a;show⟨hn b a,λz=>?_,λz=>?_,.inl a,λx c e=>?_,λp hp=>f5 p ?_⟩
  .exact Zw z (DP (hfp b a) (by rw[<- hC,O,DR];show qu _))
  .rcases cb.mp (I3.oZ b z) with z|z
   .exact f1 z
   .exact f2' z
  .rcases Ao x c e with e|⟨e,_⟩
   .exact f4 x c e
   .exact d_ (DP (hfp b a) (by rw[DR];show kj (a1W (by rw[<- hC,O];show uj _) e)))
  .have hp:p∈(X.pn++π)++[]:=hp;rw[jk] at hp;show hp
 have st4:tn 0 h4:=T.keep _ _ _ st3 λb a o e=>hk4 b o e;have loop:∀s5:ao,(∃i H',Φ Y [] (DN ls.length fr σ) H' s5/\tn i s5.heap/\(∀b∈l,H' b=af) /\∃m ys,W i m H' ys)->ju (ay X.Ω X.w) X.A (.compLoop (.ListComp elt [⟨tg,iter,ifs,0⟩] sc ν) 0 (.ref it) (.ref j) (compEnvC sc dl C X.env)) (compPost (ay X.Ω X.w) X.A X.xe use Qv (.ref j) C) s5:=by
  rintro s5 ⟨i,H',I5,st5,fr5,m,ys,w5⟩;show nB (λn s'=>∃i H' ys,Φ Y [] (DN ls.length fr σ) H' s'/\tn i s'.heap/\(∀b∈l,H' b=af)/\W i n H' ys) ?_ m ⟨i,H',ys,I5,st5,fr5,w5⟩;rintro n s6 ⟨i,H6,ys,I6,st6,fr6,w6⟩;obtain⟨ha6,alt⟩:=turn i n H6 ys w6;rcases alt with⟨stop,qn⟩|⟨go,step⟩
  .have q:=T.done Y pY wY kY cY i [] s6 _ H6 (λ_ _=>False) I6 (RK fr6) st6 stop;rw[AY] at q;show dF q λr s7 Kd=>?_;obtain⟨hr,I7⟩:=Kd;subst hr;have fr7:H6 C=af:=by have:=I7.free;rw[eY] at this;show this
   show fin j C s7 H6 ?_ ?_ (I3.FY (kl hC) fr7) qn
   .rw [<- Z] at I7;show RJ I3 I7 (λb a=>f3 b a) hC.symm (.refl ..)
   .obtain ⟨m,hm,_⟩:=I7.loc;rw[eY] at hm;show⟨m,hm⟩
  .have q:=T.item Y pY wY kY cY i [] s6 _ H6 (λ_ _=>False) I6 (RK fr6) st6 go;rw[AY] at q;show dF q λr s7 Kc=>?_;obtain⟨u,hr,h7⟩:=Kc;subst hr;show dF h7 λ_ s8 Kb=>?_;obtain⟨x,H8,I8,r8,y8,st8,fr8⟩:=Kb;have I8':=I8.pinned (RK fr8) (T.obj _ _ st8);have hgY:=hg dl C (X.pn++π) l s3 (upd H2 j (.lst []));have hfY:=hf dl C (X.pn++π) l s3 (upd H2 j (.lst []));have heY:=he dl C (X.pn++π) l s3 (upd H2 j (.lst []));rw[Z] at hgY hfY heY;have q8:=hgY _ s8 _ H8 x u _ I8' r8 (step x H8 y8);rw[pY,wY,AY,eY,xY] at q8;show dF q8 λ_ s9 Ka=>?_;obtain⟨L,H9,I9,hσ9,q9⟩:=Ka;have ma:=hfY _ s9 L H9 _ I9 q9;rw[pY,wY,AY,eY,xY] at ma;show dF ma λok Fj J_=>?_;obtain⟨H10,I10,ma⟩:=J_;have bl:∀{H7:Hp} {s7:ao},Φ Y ([]++vO l s8.heap) L H7 s7->(∃m',m'<n /\∃ys',W (i+1) m' H7 ys') ->∃m,m<n /\∃i H' ys,Φ Y [] (DN ls.length fr σ) H' s7/\tn i s7.heap/\(∀b∈l,H' b=af)/\W i m H' ys:=λ{H7 s7} I7 ⟨m',hm,ys',w7⟩=>by
    show⟨m',hm,i+1,H7,ys',?_,T.keep _ _ _ st8 λb a o e=>(I7.pin (b,o) (gu _ (gu _ (lT a e)))).1,λb a=>?_,w7⟩
    .refine I7.qE.weak ?_ λk v e=>?_
     .rw [I7.len,<- I6.len]
     .by_cases hk:k<ls.length
      .unfold DN at e;rw[iu (by simpa using hk),nh,Z_ hk] at e;cases e
      .have e2:(L.drop ls.length)[k-ls.length]?=aa (aa v):=by rw[hσ9];unfold DN at e;rw[ir (by simpa using hk),mx] at e;show e
       rw[a2j] at e2;rw[show ls.length+(k-ls.length)=k by lia] at e2;show e2
    .obtain ⟨o,e,d⟩:=T.obj _ _ st8 b a;show(I7.pin (b,o) (gu _ (gu _ (lT a e)))).2.1
   cases ok with
   |false =>
    rw[Zz b_] at ma ⊢;obtain⟨m',hm,w'⟩:=ma;show bl I10 ⟨m',hm,ys,w'⟩
   |true =>
    rw[Z_ rfl] at ma ⊢;have zk:=heY _ Fj L H10 _ I10 ma;rw[pY,wY,AY,eY,xY] at zk;show dF zk λyv Fi Jz=>?_;obtain⟨y,H11,I11,Fl,Wv,Jy,m',hm,w'⟩:=Jz;have zj:=(yZ (X:=Y)) _ Fi L H11 (.ref j) [y] (.ref j) [yv] (λ_ H'=>H'=upd H11 j (.lst (ys++[y]))) I11 rfl (.cons Fl .nil) ⟨j,ys,y,rfl,rfl,Wv,Jy,rfl⟩;rw[pY,wY,AY,xY] at zj;show dF zj λ_ s12 Jx=>?_;obtain⟨_,H12,I12,_,vi⟩:=Jx;subst vi;show bl I12 ⟨m',hm,_,w'⟩
 have L0:=loop _ ⟨0,_,I4,st4,λb a=>(f3 b a).1,m0,[],w0⟩;show codeAny_compStart_list L0 (T.self _ 0 _ _ _ st4 L0)
theorem WK
  (y:X.calm=ae) (B:DO X ls fs fr sc) (hi:PI X tg iter wi) (p:∀a C pn ex s H,PG (blk X (ls++fs) sc a C pn ex s H) tg g) (v:∀a C pn ex s H,PIf (blk X (ls++fs) sc a C pn ex s H) ifs tf) (x:∀a C pn ex s H,PE (blk X (ls++fs) sc a C pn ex s H) elt te)
  (n:Zn X iter<|>4):PE X (.ListComp elt [⟨tg,iter,ifs,0⟩] sc ν) (JW ls.length fr wi g tf te):=by
 intro π s σ H Q I h;rw[eval_ListComp];show DQ (use:=af) y B hi p v x n I h λl C s' H' U j A q=>?_;obtain⟨m,j⟩:=j;obtain⟨O,L,_,K,J,F⟩:=A;show⟨m,j,λh' d=>⟨.ref l,H',U.turned (t':=s'.toks) (λb o z e=>(d.2 b z).trans e) O L K J F,rfl,q⟩⟩
theorem pF(hN:X.N.Nodup)(n:X.N[i]?=aa x)(L:X.env.scope.names.lookup x=aa .local)
  (hc:X.calm=ae) (B:DO X ls fs fr sc) (hi:PI X tg iter wi) (hg:∀j C pn ex s H,PG (blk X (ls++fs) sc j C pn ex s H) tg g) (hf:∀j C pn ex s H,PIf (blk X (ls++fs) sc j C pn ex s H) ifs tf) (he:∀j C pn ex s H,PE (blk X (ls++fs) sc j C pn ex s H) elt te)
  (p:gV X elt tg iter ifs sc ν x pos' spos)
  (Z:Zn X iter<|>4):PS X (.Assign [.Name x pos'] (.ListComp elt [⟨tg,iter,ifs,0⟩] sc ν) spos) (wx (JW ls.length fr wi g tf te) (QE i)):=by
 intro π s σ H D I h;rw[exec_Assign_Name_used _ _ _ _ p];show aq (sk (aq ?_));show aw _ X.A (do let _ <- comprehension (.ListComp elt [⟨tg,iter,ifs,0⟩] sc ν) sc X.env _ (newList []) ag (eval iter X.env) (aa (assign (.Name x pos') X.env))) _ _ s;show aq (ka (DQ (use:=aa (assign (.Name x pos') X.env)) (Qv:=λ_ s'=>SP X π D .next s') hc B hi hg hf he Z I h λY C s' H' I' z fp q=>?_) (λ_ s' hq=>ax (ax hq)) λ_ _ e=>e);obtain⟨m,z⟩:=z;obtain⟨f0,U,_,f3,O,f5⟩:=fp;show a0e (yS I' hN n (.inl L) (v:=.ref Y) rfl (λl K d=>?_) (.inr L));obtain⟨a,d,J⟩:=d;have F:a≠C:=by
  rcases J with rfl|J
  .exact d_ U
  .exact O x a J
 show⟨m,z.sameBut d (d_ F),λh' y=>⟨_,H',K.turned (t':=l.toks) (λb o hb e=>(y.2 b hb).trans e) f0 U f3 O f5,q⟩⟩
end
def MM(outer:List (ak×je))(sc:gj)(N ls fs:Q0g)(fr:List Nat):Bool :=
 (sc.kind == .function)&&Zv (ls++fs).Nodup&&sc.names.all (λx=>Zv (sc.names.lookup x.1=aa x.2)) &&
 sc.names.all (λx=>Zv (x.2=.free->(outer.lookup x.1=aa .cell\/outer.lookup x.1=aa .free)))&&Zv (fr.length=fs.length) &&
 (fs.zip fr).all (λx=>Zv (N[x.2]?=aa x.1)&&sc.names.contains (x.1,jm)&&Zv (sc.names.lookup x.1=aa .free))
def i6(h:MM X.env.scope.names sc X.N ls fs fr=ae):DO X ls fs fr sc:=by
 unfold MM at h;simp only[cm,ib,decide_eq_true_eq] at h;obtain⟨⟨⟨⟨⟨o,h2⟩,n⟩,m⟩,l⟩,j⟩:=h;show⟨eq_of_beq o,h2,n,m,λk x e=>?_,l⟩;have p:k<fs.length:=(cg.mp e).1;have d:(x,fr[k]'∅)∈fs.zip fr:=by
  have:(fs.zip fr)[k]?=aa (x,fr[k]'∅):=by rw[a2h];show⟨e,by simp⟩
  show ia this
 obtain⟨⟨a,b⟩,c⟩:=j _ d;show⟨fr[k]'∅,by simp,a,by simpa using b,c⟩
abbrev GE:=D->b7->(b7->Prop)->Prop
def rY(K:ar)(nl n:Nat)(g:GE):TG:=λv σ H Q=>∃(S:ah->Prop) (ρ:b7) (d:D) (Q3:b7->Prop),σ.length=n/\(∀a,H a=af->S a)/\Sl K S H ρ σ/\Dn K S H d v/\g d ρ Q3 /\
 ∀h j,Sl K S H j h->h.drop nl=σ.drop nl->Q3 j->Q h H
def WL(X:Cx)(nl:Nat)(a:au)(g:GE):Prop:=PG X a (rY X.K nl X.N.length g)
theorem Sl.set{K:ar}{S:ah->Prop}{H:Hp}{ρ:b7}{σ:L2.St}{i:Nat}{d:D}{v:V}(h:Sl K S H ρ σ)(hi:i<σ.length)(q:Dn K S H d v):Sl K S H (ρ.set i (aa d)) (σ.set i (aa v)):=λj e m=>by
 rcases get_set m with⟨l,z,_⟩|⟨l,z⟩
 .cases z;subst l;show⟨v,nc hi,q⟩
 .obtain ⟨u,a,b⟩:=h j e z;show⟨u,by rw[jq (d_ l)];show a,b⟩
def hN(i:Nat):GE:=λd ρ Q=>Q (ρ.set i (aa d))
noncomputable def h2(i j:Nat):GE:=λd ρ Q=>match d with
 |.tup [d1,d2]=>Q ((ρ.set i (aa d1)).set j (aa d2))
 |_=>False
def drop_set{a:Type}{l:List a}{i n:Nat}{x:a}(h:i<n):(l.set i x).drop n=l.drop n:=by rw[List.drop_set,Z_ h]
section
variable{X:Cx}
def Sq{nl i:Nat}{x:ak}{j:bc}(nd:X.N.Nodup)(a:i<nl)(hi:X.N[i]?=aa x<|>0)(m:Loc X.env.scope x<|>2)(h:Zp X x<|>6):WL X nl (.Name x j) (hN i) :=
 GP (iQ nd hi m h) λv σ H Q p=>by obtain⟨S,ρ,d,Q3,n,q,l,dn,o,k⟩:=p;show k _ _ (l.set (by rw[n];show eZ hi) dn) (drop_set a) o
def So{nl i j:Nat}{x y:ak}{kk:Nat}{U l h:bc}(hc:X.calm=ae)(nd:X.N.Nodup)(A:i<nl)(z:j<nl)(hi:X.N[i]?=aa x<|>0)(L:X.N[j]?=aa y<|>0)(hx:Loc X.env.scope x<|>2)(I:Zp X x<|>6)(hy:Loc X.env.scope y<|>2)(F:Zp X y<|>6)
  (hn:Q0k X x y l h<|>0) (o:Q0j X x y l h<|>0)
  (q:Q0h X x y l h<|>0) (p:Q0i X y h<|>0):
  WL X nl (.Tuple [.Name x l,.Name y h] kk U) (h2 i j) :=
 GP (FX (n:=2) hc (iX (iQ nd hi hx I) (iX (iQ nd L hy F) A1 p) q) hn o) λv σ H Q Jv=>by
  obtain⟨S,ρ,d,Q3,K,fc,Z,dn,m,k⟩:=Jv;unfold h2 at m;split at m
  .rename_i d1 d2;symm at dn;obtain⟨a,xs,rfl,ha,da⟩:=dn;obtain⟨Y,r1,rfl,h1,h2⟩:=da.bL;obtain⟨J,r2,rfl,h3,O⟩:=h2.bL;simp only[aZ] at O;subst O;show⟨a,_,rfl,(fI.of ha),rfl,Y,[J],rfl,J,[],rfl,rfl,?_⟩;show k _ _ ((Z.set (by rw[K];show eZ hi) h1).set (by rw[dm,K];show eZ L) h3) (by rw[drop_set z,drop_set A]) m
  .exact m.elim
def GR(X:Cx)(ifs:List au)(t:WT):Prop:=PIf X ifs (liftT X.K t)
def Sn:WT:=λ_ Q=>Q ae
def Ju:GR X [] Sn:=λπ s σ H Q I d=>by obtain⟨S,ρ,Q3,j,h,a,k⟩:=d;show WJ π s σ H Q I (k ae H (ξ.refl H) a)
theorem Sk(h:uJ X c t):GR X [c] t:=Ww h
noncomputable def qN(g:GE)(tf:WT)(te:WE)(ρ:b7):List D->List D->(D->Prop)->Prop
 |[],ψ,Q=>Q (.lst ψ)
 |d::r,ψ,Q=>g d ρ λa=>tf a λb=>if b=ae then te a λy=>ψ.length<bf/\qN g tf te ρ r (ψ++[y]) Q else qN g tf te ρ r ψ Q
def benv(nl:Nat)(fr:List Nat)(ρ:b7):b7:=jy nl af++fr.map λj=>(ρ[j]?).join
def zC(nl:Nat)(fr:List Nat)(a:WI)(g:GE)(tf:WT)(te:WE):WE:=λρ Q=>a ρ λds=>qN g tf te (benv nl fr ρ) ds [] Q
def WM{K:ar}{S:ah->Prop}{H:Hp}{ρ:b7}{σ:L2.St}{nl:Nat}{fr:List Nat}(h:Sl K S H ρ σ):Sl K S H (benv nl fr ρ) (DN nl fr σ):=λi d e=>by
 unfold benv at e;unfold DN;by_cases hi:i<nl
 .rw [iu (by simpa using hi),nh,Z_ hi] at e;cases e
 .rw [ir (by simpa using hi),dg,mx] at e ⊢
  cases q:fr[i-nl]? with
  |none=>rw[q] at e;cases e
  |some j =>
   rw[q] at e;have a:(ρ[j]?).join=aa d:=ft e;have e2:ρ[j]?=aa (aa d):=by
    cases z:ρ[j]? with
    |none=>rw[z] at a;cases a
    |some o=>rw[z] at a;rw[show o=aa d from a]
   obtain⟨v,ev,l⟩:=h j d e2;show⟨v,by show aa ((σ[j]?).join)=_;rw[ev];rfl,l⟩
def n4{K:ar}{nl n:Nat}{fr:List Nat}{ti:WI}{g:GE}{tf:WT}{te:WE}{σ:L2.St}{H:Hp}{Q:VK}(hn:nl+fr.length=n)(h:Q5 K (zC nl fr ti g tf te) σ H Q):JW nl fr (YX K ti) (rY K nl n g) (liftT K tf) (lift K te) σ H Q:=by
 obtain⟨S,ρ,Q3,fc,sl,ht,k⟩:=h;show⟨S,ρ,_,fc,sl,ht,λJ H1 ds G s1 hG wk q1=>?_⟩;intro j l;have h0:H j=af:=s1.free l;have fc1:=bI fc s1;have ok:∀{o:Hp},ξ H1 o->(∃ys,o j=aa (.lst ys))->(∀a,o a=af->S a/\a≠j)/\Sl K (λa=>S a/\a≠j) o (benv nl fr ρ) (DN nl fr σ) /\∀g∈G,Dn K (λa=>S a/\a≠j) o g.1 g.2:=λ{o} I p=>by
  show⟨λa e=>⟨bI fc1 I a e,λz=>?_⟩,?_,λg hg=>Dn.fits ((Fits.fresh l).trans (.same I)) _ _ (hG g hg)⟩
  .subst z;obtain⟨ys,p⟩:=p;rw[e] at p;cases p
  .exact WM (Sl.fits ((Fits.fresh h0).trans (.same (s1.trans I))) sl)
 show⟨λi m o ys=>m=ds.length-i/\i<=ds.length/\ξ H1 o/\o j=aa (.lst ys) /\∃L,aZ K (λa=>S a/\a≠j) o L ys/\qN g tf te (benv nl fr ρ) (ds.drop i) L Q3,
  ⟨_,rfl,jx _,aU l,aW,[],aZ.nil,q1⟩,?_⟩
 rintro i m o ys ⟨rfl,hi,I,p,L,dn,cw⟩;obtain⟨A,sl2,Z⟩:=ok I ⟨ys,p⟩;show⟨p,?_⟩;by_cases q:i<ds.length
 .refine .inr ?_;obtain⟨g1,g2⟩:=wk.go _ o A Z i ds[i] (by simp[q]);show⟨g1,λx H' y=>?_⟩;obtain⟨s3,dx⟩:=g2 x H' y;rw[yt q,qN] at cw;show⟨λa=>S a/\a≠j,benv nl fr ρ,ds[i],_,?_,bI A s3,Sl.fits (.same s3) sl2,dx,cw,λσ' O U hd q'=>?_⟩
  .unfold DN;rw[bq,mx,a_];show hn
  .refine ⟨by rw[hd];unfold DN;rw[List.drop_append_of_le_length (by simp),List.drop_replicate];simp,λa=>S a/\a≠j,O,_,bI A s3,U,q',λb H3 s4 q4=>?_⟩
   cases b with
   |false =>
    rw[Zz b_] at q4 ⊢;show⟨_,by lia,rfl,q,(I.trans s3).trans s4,(s3.trans s4) _ _ p,L,aZ.fits (.same (s3.trans s4)) _ _ dn,q4⟩
   |true =>
    rw[Z_ rfl] at q4 ⊢;show⟨λa=>S a/\a≠j,O,_,bI A (s3.trans s4),Sl.fits (.same s4) U,q4,λv H4 d s5 d5 q5=>?_⟩;have Y:H4 j=aa (.lst ys):=((s3.trans s4).trans s5) _ _ p;have F:Fits K (λa=>S a/\a≠j) (λa=>S a/\a≠j) H4 (upd H4 j (.lst (ys++[v]))):=.upd (.inl ⟨_,Y⟩) λz=>z.2 rfl;show⟨Y,by rw[<- dn.len];show q5.1,_,by lia,rfl,q,λb u hb=>?_,aW,L++[d],aZ.fits F _ _ ((aZ.fits (.same ((s3.trans s4).trans s5)) _ _ dn).append (aZ.one d5)),q5.2⟩;rw[bQ (bT hb l)];show(((I.trans s3).trans s4).trans s5) _ _ hb
 .have e:i=ds.length:=by lia
  subst e;rw[a2q,qN] at cw;show .inl ⟨wk.stop _ o Z _ rfl,k j ys o L h0 p (s1.trans I) dn cw⟩
theorem Sj{ls fs:Q0g}{fr:List Nat}{sc:gj}{d iter elt:au}{ifs:List au}{l:bc}{j:WI}{g:GE}{tf:WT}{te:WE}(v:X.calm=ae)(hi:N0 X d iter j)
  (o:∀a C pn ex s H,(blk X (ls++fs) sc a C pn ex s H).N.Nodup->WL (blk X (ls++fs) sc a C pn ex s H) ls.length d g) (p:∀a C pn ex s H,GR (blk X (ls++fs) sc a C pn ex s H) ifs tf) (q:∀a C pn ex s H,cK (blk X (ls++fs) sc a C pn ex s H) elt te)
  (B:MM X.env.scope.names sc X.N ls fs fr=ae<|>0) (m:Zn X iter<|>4):DK X (.ListComp elt [⟨d,iter,ifs,0⟩] sc l) (zC ls.length fr j g tf te) :=
 imp (WK (g:=rY X.K ls.length (ls++fs).length g) (tf:=liftT X.K tf) (te:=lift X.K te) v (i6 B) hi (λa C pn ex s H=>o a C pn ex s H (i6 B).nd) p q m) λσ H Q h=>n4 (n:=(ls++fs).length) (by rw[bq,(i6 B).BI]) h
theorem RL(nd:X.N.Nodup)(J:X.calm=ae)(hi:N0 X tg iter ti)
  (A:∀a C pn ex s H,(blk X (ls++fs) sc a C pn ex s H).N.Nodup->WL (blk X (ls++fs) sc a C pn ex s H) ls.length tg g) (F:∀a C pn ex s H,GR (blk X (ls++fs) sc a C pn ex s H) ifs tf) (I:∀a C pn ex s H,cK (blk X (ls++fs) sc a C pn ex s H) elt te)
  (h:X.N[i]?=aa x<|>0) (q:X.env.scope.names.lookup x=aa .local<|>0) (j:gV X elt tg iter ifs sc ν x pos' spos<|>0)
  (B:MM X.env.scope.names sc X.N ls fs fr=ae<|>0) (y:Zn X iter<|>4):xS X (.Assign [.Name x pos'] (.ListComp elt [⟨tg,iter,ifs,0⟩] sc ν) spos) (vw i (zC ls.length fr ti g tf te)) :=
 iD (pF (g:=rY X.K ls.length (ls++fs).length g) (tf:=liftT X.K tf) (te:=lift X.K te) nd h q J (i6 B) hi (λa C pn ex s H=>A a C pn ex s H (i6 B).nd) F I j y) λO σ H L=>by
 obtain⟨H₀,S,w,ρ,G,E,m,st,v,ok⟩:=L;show n4 (n:=(ls++fs).length) (by rw[bq,(i6 B).BI]) ⟨_,gO ρ,_,st.JQ,st.rd,v,λp xs H' ds z l s' d' o=>ok.nx _ _ H' _ (by rw[dm];show m) (st.pE (d:=.lst ds) (by rw[m];show eZ h) s' z ⟨xs,l,d'⟩) o⟩
theorem MN{i:Nat}{x:ak}{ls fs:Q0g}{fr:List Nat}{sc:gj}{l iter elt:au}{ifs:List au}{q a pos':bc}{v:WI}{g:GE}{tf:WT}{te:WE}(nd:X.N.Nodup)(Z:X.calm=ae)(hi:N0 X l iter v)
  (O:∀h C pn ex s H,(blk X (ls++fs) sc h C pn ex s H).N.Nodup->WL (blk X (ls++fs) sc h C pn ex s H) ls.length l g) (U:∀h C pn ex s H,GR (blk X (ls++fs) sc h C pn ex s H) ifs tf) (Y:∀h C pn ex s H,cK (blk X (ls++fs) sc h C pn ex s H) elt te)
  (j:X.N[i]?=aa x<|>0) (F:X.env.scope.names.lookup x=aa .local<|>0) (m:gV X elt l iter ifs sc q x pos' a<|>0)
  (B:MM X.env.scope.names sc X.N ls fs fr=ae<|>0) (J:Zn X iter<|>4):xS X (.Assign [.Name x pos'] (.ListComp elt [⟨l,iter,ifs,0⟩] sc q) a) (vx i (zC ls.length fr v g tf te)) :=
 iD (pF (g:=rY X.K ls.length (ls++fs).length g) (tf:=liftT X.K tf) (te:=lift X.K te) nd j F Z (i6 B) hi (λh C pn ex s H=>O h C pn ex s H (i6 B).nd) U Y m J) λBd σ H Jr=>by
 obtain⟨H₀,S,w,ρ,G,E,y,st,I,ok⟩:=Jr;show n4 (n:=(ls++fs).length) (by rw[bq,(i6 B).BI]) ⟨_,gO ρ,_,st.JQ,st.rd,I,λp xs H' ds L o s' d' A=>ok.nx w _ H' _ (by rw[dm];show y) ((st.same s').hZ (d:=.lst ds) (by rw[y];show eZ j) (by symm;show⟨p,xs,rfl,o,st.JQ p L,aZ.fits (.mono λ_ z=>z.1) _ _ d'⟩)) A⟩
noncomputable def tyD:D->String
 |.non => "NoneType"
 |.bl _ => "bool"
 |.int _ => "int"
 |.str _ => "str"
 |.tup _ => "tuple"
 |.lst _ => "list"
 |.gK _ => "list"
 |.jD _ _ => "dict"
 |.dG _ _ _ => "dict"
 |.exc _ _ => "NoneType"
 |.rws _ => "NoneType"
inductive YY:String->Prop
 |t:YY "tuple"
 |b:YY "bool"
 |i:YY "int"
 |s:YY "str"
def isT(T:String)(d:D):Bool:=tyD d == T||(T == "int"&&tyD d == "bool")
def Jq(K:ar)(T:String):List V->Hp->VK->Prop:=λxs H Q=>∃x t b,xs=[x,.ty T]/\(qF K H x t\/(t=.type "tuple" /\∃a ys,x=.ref a/\fI K H a ys)\/(t=.type "list" /\∃a ys,x=.ref a/\fU K H a ys))/\kitOne K t (.type T)=aa b/\Q (.bl b) H
theorem RM:fV X (.builtin "isinstance") (Jq X.K T):=by
 intro π s σ H xs A Q I r h;obtain⟨x,t,b,rfl,ty,e,q⟩:=h;obtain⟨u,v,rfl,d,y⟩:=vals2 r;obtain rfl:v=tu T:=y;rcases ty with ty|⟨rfl,a,ys,rfl,j⟩|⟨rfl,a,ys,rfl,j⟩
 .exact LW I d ty e λtk=>⟨.bl b,H,I.tok tk,rfl,q⟩
 .cases d;obtain⟨m,_,p,_⟩:=I.tuple j;obtain⟨o,l,h2,_⟩:=p;show ji a0G I.xE ⟨o,l,h2⟩ e (λz=>nomatch z) λtk=>⟨.bl b,H,I.tok tk,rfl,q⟩
 .cases d;obtain⟨m,_,p,_⟩:=I.list j;obtain⟨o,n,l,h2,_⟩:=p;show ji Ct I.xE ⟨o,l,h2⟩ e (λz=>nomatch z) λtk=>⟨.bl b,H,I.tok tk,rfl,q⟩
noncomputable def YZ:D->Prop
 |.exc _ _=>False
 |.dG _ _ _=>False
 |.rws _=>False
 |_=>True
def Jp(T:String)(t:WE):WE:=λρ Q=>t ρ λd=>YZ d/\Q (.bl (isT T d))
def Jo{K:ar}{T:String}(h:YY T)(d:D):kitOne K (.type (tyD d)) (.type T)=aa (isT T d):=by cases h<;>cases d<;>with_unfolding_all rfl
def Sg{K:ar}{S:ah->Prop}{H:Hp}{d:D}{v:V}(l:YZ d)(h:Dn K S H d v):∃t,t=tu (tyD d)/\(qF K H v t\/(t=.type "tuple" /\∃a ys,v=.ref a/\fI K H a ys)\/(t=.type "list" /\∃a ys,v=.ref a/\fU K H a ys)):=by
 show⟨_,rfl,?_⟩;cases d<;>symm at h
 .subst h;show .inl .non
 .subst h;show .inl (.bl _)
 .subst h;show .inl (.int _)
 .subst h;show .inl (.str _)
 .obtain ⟨a,xs,rfl,j,_⟩:=h;show .inr (.inl ⟨rfl,a,xs,rfl,(fI.of j)⟩)
 .obtain ⟨a,xs,rfl,j,_⟩:=h;show .inl (.lst j)
 .obtain ⟨a,rfl,j⟩:=h;show .inr (.inr ⟨rfl,a,_,rfl,j.sq⟩)
 .obtain ⟨a,xs,rfl,j,_⟩:=h;show .inl (.dK j)
 .exact l.elim
 .exact l.elim
 .exact l.elim
theorem Jn{T:String}{x:ak}{e:au}{t:WE}{p a o:bc}(U:YY T)(K:X.mg "isinstance"=af)(l:X.mg x=af)(F:bootBuiltins x=aa (.type T))(O:cK X e t)(L:Gl X "isinstance"<|>0)(m:Gl X x<|>0)(J:x ≠ "__name__"<|>1)(n:Zu x<|>1)
  (q:(av [e,.Name x a] X.env=(ag,eval e X.env)::av [.Name x a] X.env)<|>0) (h:(av [.Name x a] X.env=(ag,eval (.Name x a) X.env)::av [] X.env)<|>0) (j:(dj o (av [.Name x a] X.env)).any (·.1)=ag<|>0):
  cK X (.Call (.Name "isinstance" p) [e,.Name x a] [] o) (Jp T t) :=
 imp (qG (RM (T:=T)) L K a3X (j5 O (j5 (VB (v:=.ty T) m l F rfl J n) rT h) q) (by decide) (by decide) q j) λσ H Q Jc=>by obtain⟨S,ρ,Q3,Y,z,I,k⟩:=Jc;show⟨S,ρ,_,Y,z,I,λv H1 d A d1 q1=>?_⟩;obtain⟨y,Z,e2⟩:=Sg q1.1 d1;show⟨v,y,isT T d,rfl,e2,?_,k _ H1 (.bl _) A (by symm) q1.2⟩;rw[Z];show Jo U d
noncomputable def Y0:List D->Option (List Bool)
 |[]=>aa []
 |.bl b::r=>(Y0 r).map (b :: ·)
 |_::_=>af
theorem range_all(bs:List Bool):(gk bs.length).all (λi=>bs.getD i ae)=bs.all id:=by
 induction bs with
 |nil=>rfl
 |cons b bs ih=>rw[cf,yh,lz,rh,lz,<- ih];rfl
def blF(f:List Bool->Bool):F1
 |[.lst ds],Q=>(match Y0 ds with|some bs=>Q (.bl (f bs))|none=>False)
 |_,_=>False
def Y1:List V->Hp->VK->Prop:=λxs H Q=>∃a ns,xs=[.ref a]/\H a=aa (.lst (ns.map V.int))/\ns.length<64 /\∀d:Q0e,d.Perm ns->d.Pairwise (· <= ·) ->∀p,H p=af->Q (.ref p) (upd H p (.lst (d.map V.int)))
theorem BL:fV X (.builtin "sorted") Y1:=by
 intro π s σ H xs L Q I r h;obtain⟨a,ns,rfl,z,O,q⟩:=h;obtain⟨u,rfl,y⟩:=vals1 r;cases y;obtain⟨j,v,p,U⟩:=I.list (fU.of z);have hi:=intsAre_of v;have hlen:j.length=ns.length:=by have:=v.length;rw[a_] at this;show this.symm
 show sorted_ints p.isList hi ∅ λout d J x F=>?_;have m:H (s.heap.objs.size+1)=af:=I.hok.fresh (qu _);obtain⟨A,n⟩:=sortedAll_at s.heap j out;have l:d.length<=bf:=by rw[x.length_eq,ie];lia
 have K:Φ X π σ (upd H (s.heap.objs.size+1) (.lst (d.map V.int))) {s with heap:=sortedAll s.heap j out} :=
  I.laid (t':=s.toks) (λb o e=>sortedAll_old e) (qu _) ⟨by rw[a_];show l,out.toList,A,nY J,by simpa[seqObj] using n⟩
 show⟨.ref _,_,K,rfl,q d x F _ m⟩
def intsOf:List D->Option (List Int)
 |[]=>aa []
 |.int b::r=>(intsOf r).map (b :: ·)
 |_::_=>af
theorem eB:∀bs:Q0e,intsOf (bs.map D.int)=aa bs
 |[]=>rfl
 |b::bs=>by rw[bp,intsOf,eB bs];rfl
theorem rZ:∀{ds:List D} {bs:Q0e},intsOf ds=aa bs->ds=bs.map D.int
 |[],bs,h=>by cases h;rfl
 |.int b::r,bs,h=>by
  rw[intsOf] at h
  cases q:intsOf r with
  |none=>rw[q] at h;cases h
  |some cs=>rw[q] at h;cases h;rw[bp,rZ q]
 |.non::r,bs,h=>by cases h
 |.bl _::r,bs,h=>by cases h
 |.str _::r,bs,h=>by cases h
 |.tup _::r,bs,h=>by cases h
 |.lst _::r,bs,h=>by cases h
 |.gK _::r,bs,h=>by cases h
 |.jD _ _::r,bs,h=>by cases h
 |.dG _ _ _::r,bs,h=>by cases h
def RN:F1
 |[.lst ds],Q=>(match intsOf ds with|some ns=>ns.length<64 /\∀a:Q0e,a.Perm ns->a.Pairwise (· <= ·)->Q (.lst (a.map D.int))|none=>False)
 |_,_=>False
theorem WN{K:ar}:C3F K Y1 RN:=by
 intro S H xs ds Q3 Q z n j k
 match ds,j with
 |[.lst es],j =>
  obtain⟨v,r,rfl,l,h2⟩:=n.bL;simp only[aZ] at h2;subst h2;symm at l;obtain⟨a,ys,rfl,o,y,x⟩:=l;have h:(match intsOf es with|some ns=>ns.length<64 /\∀d:Q0e,d.Perm ns->d.Pairwise (· <= ·)->Q3 (.lst (d.map D.int))|none=>False):=j
  clear j
  cases q:intsOf es with
  |none=>rw[q] at h;show h.elim
  |some ns =>
   rw[q] at h;have e:=rZ q;subst e;have e2:=aZ.ints.mp x;subst e2;show⟨a,ns,rfl,o,h.1,λd l h2 p m=>k p _ _ _ m aW (aU m) (aZ.ints.mpr rfl) (h.2 d l h2)⟩
def WQ(a:X.mg "sorted"=af)(j:vV X [e] t)(d:Gl X "sorted"<|>0)
  (h:Zq X e []<|>0):DK X (.Call (.Name "sorted" p) [e] [] ν) (MJ RN t):=V7 BL WN a1B d a j (by decide) (by decide) h (by rfl)
end
section
variable{X:Cx}
def zD(A:Gl X "range")(z:X.mg "range"=af)(F:PA X [a] ta)(y:av [a] X.env=[(ag,eval a X.env)]<|>0):
  PE X (.Call (.Name "range" p) [a] [] ν) (λσ H Q=>ta σ H λl d=>∃j:Int,l=[.int j] /\∀p,d p=af->Q (.ref p) (upd d p (.rng 0 j))):=by
 intro π s σ H Q I h;show Call_ (pB I A z Ds (uf (dF (F ν π s σ H _ I h) λJ n ⟨l,d,m,x,q1⟩=>?_) y rfl));obtain⟨j,e,q⟩:=q1;subst e;obtain⟨u,rfl,v⟩:=vals1 x;obtain⟨t,rfl⟩:=v;show a0w ?_;show⟨.ref n.heap.objs.size,_,m.laid (o:=.rng 0 j) (λb o e=>ck _ e) (bh _) ⟨_,_,_,dh _ rfl⟩,rfl,q _ (m.hok.fresh (bh _))⟩
def DS{lo:Int}{n:Nat}{a:Array ai}(h:ItemsOf (λi v=>∃t,v=.int (lo+(i:Nat)*1) t) a n):θ ((m9 lo n).map V.int) a.toList:=by
 obtain⟨p,q⟩:=h;have key:∀(l:Q0f) (k:Nat) (m:Nat),l.length=m->(∀(j:Nat) (v:ai),l[j]?=aa v ->∃t,v=mf (lo+((k+j:Nat):Int)) t)->θ (((List.range' k m).map λi:Nat=>lo+(i:Int)).map V.int) l:=by
  intro l
  induction l with
  |nil=>intro k m d _;subst d;show .nil
  |cons v l ih =>
   intro k m d o;subst d;rw[cf,List.range'_succ,bp,bp];show .cons ?_ (ih (k+1) l.length rfl λj w e=>?_)
   .obtain ⟨t,e⟩:=o 0 v (by simp);show⟨t,by simpa using e⟩
   .obtain ⟨t,e2⟩:=o (j+1) w (by simpa using e);show⟨t,by rw[e2];congr 1;congr 1;congr 1;lia⟩
 have:=key a.toList 0 n (by simpa using p) λj v e=>by obtain⟨t,e2⟩:=q j v (by simpa using e);show⟨t,by rw[e2];simp⟩
 unfold m9;rw[List.range_eq_range'];show this
theorem xT(J:X.calm=ae):fV X (.type "list") (λxs H Q=>∃p j,xs=[.ref p]/\H p=aa (.rng 0 j) /\ -(2^62)<=j/\j<=16777216 /\∀l,H l=af->Q (.ref l) (upd H l (.lst ((m9 0 j.toNat).map V.int)))):=by
 intro π s σ H xs L Q I r h;obtain⟨p,j,rfl,A,U,O,q⟩:=h;obtain⟨u,rfl,x⟩:=vals1 r;cases x;obtain⟨t,u,v,e⟩:=I.hok p _ A;have hsz:qq 0 j 1=(j.toNat:Int):=by rw[Cg];split<;>lia
 show call_list_range (a:=0) (b:=j) (c:=1) (n:=j.toNat) (I.ok.hd J) e (Cc ∅ ∅ ∅ ∅) hsz ∅ λh' tk d K y F hit=>?_;have m:H s.heap.objs.size=af:=I.hok.fresh (bh _);have z:θ ((m9 0 j.toNat).map V.int) d.toList:=DS hit;show⟨.ref s.heap.objs.size,_,I.laid (o:=.lst ((m9 0 j.toNat).map V.int)) y (bh _) ⟨?_,d.toList,K,z,by simpa using F⟩,rfl,q _ m⟩;rw[a_,nA,ie];lia
noncomputable def Wu(t:WA):WE:=λρ Q=>t ρ λds=>match ds with
 |[.int j]=>(-(2^62)<=j/\j<=16777216)/\Q (.lst ((m9 0 j.toNat).map D.int))
 |_=>False
def GS(K:X.calm=ae)(I:X.mg "list"=af)(d:X.mg "range"=af)(L:vV X [a] t)(J:Gl X "list"<|>0)(m:Gl X "range"<|>0)(F:av [a] X.env=[(ag,eval a X.env)]<|>0)
  (x:(av [.Call (.Name "range" p2) [a] [] pos2] X.env=(ag,eval (.Call (.Name "range" p2) [a] [] pos2) X.env)::av [] X.env)<|>0):
  DK X (.Call (.Name "list" p) [.Call (.Name "range" p2) [a] [] pos2] [] ν) (Wu t) :=
 imp (k7 (xT K) J I a1D (j5 (zD m d L F) rT x) (by decide) (by decide) x (by rfl)) λσ H Q Y=>by
  obtain⟨S,ρ,Q3,O,z,A,k⟩:=Y;show⟨S,ρ,_,O,z,A,λvs Z ds n U q1=>?_⟩;split at q1
  .rename_i j;obtain⟨v,r,rfl,y,h2⟩:=U.bL;simp only[aZ] at h2;subst h2;symm at y;subst y;show⟨j,rfl,λp o=>⟨p,j,rfl,aW,q1.1.1,q1.1.2,λl q=>?_⟩⟩;have h:Z l=af:=(aU o).free q;show k l _ _ _ (n.free h) aW ((n.trans (aU o)).trans (aU q)) (aZ.ints.mpr rfl) q1.2
  .exact q1.elim
def j6(ks:List Key)(ds:List D)(k:Key):Option D:=((ks.zip ds).find? λa=>Zv (a.1=k)).map (·.2)
theorem wF{K:ar}{S:ah->Prop}{H:Hp}{k:Key}:∀{ks:List Key} {ds:List D} {xs:List V},ks.length=xs.length->aZ K S H ds xs ->
  (∀d,j6 ks ds k=aa d ->∃v,mB (ks.zip xs) k=aa v/\Dn K S H d v)/\(j6 ks ds k=af->mB (ks.zip xs) k=af)
 |[],ds,xs,_,_=>by
  show⟨λd e=>?_,λ_=>?_⟩
  .simp [j6] at e
  .simp [mB]
 |q::ks,ds,xs,hl,dn=>by
  cases ds with
  |nil=>simp only[aZ] at dn;subst dn;simp at hl
  |cons d0 ds =>
   obtain⟨v,r,rfl,l,h2⟩:=dn.bL;have j:=wF (k:=k) (ks:=ks) (ds:=ds) (xs:=r) (by simpa using hl) h2;by_cases e:q=k
   .refine ⟨λd a=>?_,λa=>?_⟩
    .simp only[j6,yg,gx,e,decide_true,ug] at a;cases a;show⟨v,by simp[mB,e],l⟩
    .simp [j6,e] at a
   .refine ⟨λd a=>?_,λa=>?_⟩
    .have h:j6 ks ds k=aa d:=by simpa[j6,e] using a
     obtain⟨u,m,n⟩:=j.1 d h;show⟨u,by simpa[mB,e] using m,n⟩
    .have h:j6 ks ds k=af:=by simpa[j6,e] using a
     simpa[mB,e] using j.2 h
theorem RP(hN:X.N.Nodup)(hi:X.N[i]?=aa x<|>0)(j:Loc X.env.scope x<|>2)(m:df (.Dict [] [] p) (aa (.Name x pos')) ν.line X.env=pure ag<|>0)(n:Zp X x<|>2):
  xS X (.Assign [.Name x pos'] (.Dict [] [] p) ν) (λE ρ=>E.nx (ρ.set i (.ow (.jD [] [])))):=iD (j8 hN hi j Q2 m n) λB σ H ⟨H₀,S,w,ρ,G,E,h,st,l,ok⟩=>λp a =>
 ok.nx _ _ _ _ (by rw[dm];show h) (st.pE (d:=.jD [] []) (by rw[h];show eZ hi) (aU a) a ⟨[],aW,rfl,aZ.nil⟩) l
noncomputable def DT:D->Option Key
 |.int i=>aa (.inl i)
 |.str x=>aa (.inr x)
 |_=>af
theorem RQ{K:ar}{S:ah->Prop}{H:Hp}{d:D}{v:V}{k:Key}(h:Dn K S H d v)(e:DT d=aa k):v=kV k:=by cases d<;>simp only[DT] at e<;>cases e<;>symm at h<;>show h
def vn:F2:=λx y Q=>match x,DT y with
 |.jD ks ds,aa k=>(match j6 ks ds k with|some d=>Q d|none=>False)
 |_,_=>False
theorem Ja{o i:au}{y:bc}{m n:WE}(z:X.A.units+1<bx)(ho:cK X o m)(hi:cK X i n)(I:MG i<|>7):cK X (.Subscript o i y) (iA vn m n):=imp (VX z ho hi I) λσ H Q I_=>by
 obtain⟨S,ρ,Q3,x,p,F,k⟩:=I_;show⟨S,ρ,_,x,p,F,λv H1 d j Y q1=>?_⟩;show⟨S,ρ,_,bI x j,Sl.fits (.same j) p,q1,λu H2 d2 q Z q2=>?_⟩;unfold vn at q2;split at q2
 .rename_i ks ds kk ek;have h:=Dn.fits (.same q) _ _ Y;symm at h;obtain⟨a,xs,rfl,K,sa,J,U⟩:=h;split at q2
  .rename_i d3 e3;obtain⟨l,ev,O⟩:=(wF J U).1 d3 e3;have L:=RQ Z ek;subst L;show⟨a,l,rfl,?_,k l H2 d3 (j.trans q) O q2⟩;have g:=MD.k (k:=kk) K;rw[ev] at g;show g
  .exact q2.elim
 .exact q2.elim
def Sf(i:Nat)(t:WX)(tk:WE):WS:=λE ρ=>t ρ λa d=>(match a[i]? with|some (.ow (.jD _ _))=>True|_=>False)/\tk (bB a) λkd=>match a[i]?,DT kd with
 |some (.ow (.jD ks ds)),aa k=>(j6 ks ds k=af/\ds.length<bf)/\E.nx (a.set i (.ow (.jD (ks++[k]) (ds++[d]))))
 |_,_=>False
theorem Se{i:Nat}{x:ak}{e k:au}{t:WX}{tk:WE}{I pos' p:bc}(hu:X.A.units+1<bx)(he:B0 X e t)(hk:cK X k tk)
  (hN:X.N[i]?=aa x<|>0) (hv:xD X.env.scope x<|>3) (hd:Zu x<|>1) (q:Zt x<|>1)
  (hs:df e (aa (.Subscript (.Name x p) k pos')) I.line X.env=pure ag<|>0):
  xS X (.Assign [.Subscript (.Name x p) k pos'] e I) (Sf i t tk):=iD (VY hu (pA hN hv hd q) hk he hs) λB σ H Iz=>by
 obtain⟨H₀,S,w,ρ,G,E,U,st,ht,ok⟩:=Iz;show⟨H₀,S,w,ρ,G,_,U,st,ht,λl v H' h d j d' n=>?_⟩;obtain⟨L,n⟩:=n;split at L
 .rename_i ks0 ds0 e0;obtain⟨a0,_,_⟩:=j.own i _ e0;show⟨_,a0,S,bB h,_,j.GK,j.all,n,λkv Y dk J y q2=>?_⟩;split at q2
  .rename_i ks ds kk e1 ek;have m:=j.same J;obtain⟨a,b,c⟩:=m.own i _ e1;obtain⟨xs,O,hlen,dn⟩:=c;have eu:=RQ y ek;subst eu;have o:=(wF (k:=kk) hlen dn).2 q2.1.1;have Z:¬ SO S l h (l i):=λ⟨_,z⟩=>z i _ e1 rfl;have hz:(ks.zip xs).length<bf:=by rw[a2c,hlen,Nat.min_self,<- dn.len];show q2.1.2
   have Iy:putK (ks.zip xs) kk v=(ks++[kk]).zip (xs++[v]):=by rw[QW v o,List.zip_append hlen];rfl
   have F:Fits X.K (SO S l h) (SO S l h) Y (upd Y (l i) (.dK (putK (ks.zip xs) kk v))):=.upd (.inr (.inl ⟨_,O⟩)) Z;show⟨l i,_,rfl,QZ.k O hz,ok.nx l σ _ _ U (m.write (d':=.jD (ks++[kk]) (ds++[d])) e1 ⟨xs++[v],?_,by simp[hlen],aZ.fits F _ _ (dn.append (aZ.one (Dn.fits (.same J) _ _ d')))⟩) q2.2⟩;rw[aW,Iy]
  .exact q2.elim
 .exact L.elim
def Y2(i:Nat)(t:WE):WS:=λE ρ=>t (bB ρ) λd=>(match d with | .lst ds=>jT ds=ae|_=>False)/\E.nx (ρ.set i (.ro d))
def Sb(hN:X.N.Nodup)(v:DK X e t)(hi:X.N[i]?=aa x<|>0)(l:Loc X.env.scope x<|>2)(n:Rv X e x pos' ν<|>0)(q:Zp X x<|>2):
  xS X (.Assign [.Name x pos'] e ν) (Y2 i t):=iD (j8 hN hi l v n q) λB σ H y=>by
 obtain⟨H₀,S,w,ρ,G,E,j,st,m,ok⟩:=y;show⟨_,bB ρ,_,st.GK,st.all,m,λp xs H' ds o a s' d' h=>ok.nx w _ H' _ (by rw[dm];show j) ((st.same s').hZ (d:=.lst ds) (by rw[j];show eZ hi) (by symm;show⟨p,xs,rfl,a,st.JQ p o,aZ.qW h.1 d'⟩)) h.2⟩
def Wt(c:WT)(j:WS):WS:=λE ρ=>∃(Φ:bK->Prop) (h:bK->Nat),Φ ρ /\∀a,Φ a->c (bB a) λb=>if b=ae then j {E with nx:=λd=>Φ d/\h d<h a,ct:=λd=>Φ d/\h d<h a,bk:=E.nx} a else E.nx a
theorem Ws(U:qk (ay X.Ω X.w) X.A X.env X.xe)(hc:uJ X c tc)(hb:tX X body tb):xS X (.While c body [] ν) (Wt tc tb):=iD (QG U hc hb) λB σ H Iu=>by
 obtain⟨H₀,S,w,ρ,G,E,Z,st,⟨L,F,h0,turn⟩,ok⟩:=Iu;show⟨λm σ H=>∃w ρ,σ.length=X.N.length/\ST X.K H₀ S w σ H ρ G/\L ρ/\m=F ρ,⟨_,w,ρ,Z,st,h0,rfl⟩,?_⟩;rintro m z H2 ⟨J,n,x,o,O,rfl⟩;show⟨S,bB n,_,o.GK,o.all,turn n O,λb H3 s3 y=>?_⟩
 cases b with
 |false=>rw[Zz b_] at y ⊢;show ok.nx J z H3 n x (o.same s3) y
 |true =>
  rw[Z_ rfl] at y ⊢;show⟨λa H'=>∃w ρ,a.length=X.N.length/\ST X.K H₀ S w a H' ρ G/\L ρ/\F ρ<F n,λa H' ⟨p,h,l,j,I,Y⟩=>⟨_,Y,p,h,l,j,I,rfl⟩,?_⟩;show⟨H₀,S,J,n,G,_,x,o.same s3,y,⟨λp a H' h l j q=>⟨p,h,l,j,q.1,q.2⟩,λv H' d s' d' q=>ok.rt v H' d s' d' q,λp a H' h l j q=>ok.nx p a H' h l j q,λp a H' h l j q=>⟨p,h,l,j,q.1,q.2⟩,ok.ex⟩⟩
noncomputable def wb:List D->D->(List D->D->Prop)->Prop
 |ds,.lst es,Q=>ds.length+es.length<=bf/\Q (ds++es) .non
 |_,_,_=>False
theorem Xm{K:ar}:M3 K JN wb:=by
 intro S H p xs ds y d Q3 Q m dn h a k
 cases d with
 |lst es =>
  symm at h;obtain⟨b,l,rfl,n,o,j⟩:=h;show⟨p,b,xs,l,rfl,rfl,m,n,by rw[<- dn.len,<- j.len];show a.1,k _ _ _ _ (dn.append j) (by symm) a.2⟩
 |_=>show a.elim
section
variable{i:Nat}{x:ak}{e:au}{p apos cpos:bc}{t:WX}
theorem WR(n:B0 X e t)(hN:X.N[i]?=aa x<|>0)(l:xD X.env.scope x<|>3)(o:Zu x<|>1)(j:Zt x<|>1)
  (d:attributeBase (.Name x p) "extend" X.env (eval (.Name x p) X.env)=eval (.Name x p) X.env<|>0)
  (h:Zo X cpos e<|>0)
  (a:Q0l apos cpos<|>0) (m:Zq X e []<|>0):
  B0 X (.Call (.Attribute (.Name x p) "extend" apos) [e] [] cpos) (nk i wb t):=m1 a04 PySem.F.type_list_extend LZ Xm n hN l o j d h a m
noncomputable def Y3(i:Nat):WX:=λρ Q=>match ρ[i]? with
 |some (.ow (.lst ds))=>(match ds[ds.length-1]? with|some d=>Q (ρ.set i (.ow (.lst ds.dropLast))) d|none=>False)
 |_=>False
def aZ.dropLast{K:ar}{S:ah->Prop}{H:Hp}{ds:List D}{xs:List V}(h:aZ K S H ds xs):aZ K S H ds.dropLast xs.dropLast:=by rw[<- pD,<- pD,<- h.len];show h.erase _
def Sa(hN:X.N[i]?=aa x<|>0)(A:xD X.env.scope x<|>3)(L:Zu x<|>1)(o:Zt x<|>1)
  (l:attributeBase (.Name x p) "pop" X.env (eval (.Name x p) X.env)=eval (.Name x p) X.env<|>0) (h:Q0l apos cpos<|>0):
  B0 X (.Call (.Attribute (.Name x p) "pop" apos) [] [] cpos) (Y3 i) :=
 imp (Xr a09 xw a01 Xq (pA hN A L o) l h) λσ H Q U=>by
  obtain⟨H₀,S,w,ρ,G,Q3,Y,st,m,k⟩:=U;unfold Y3 at m;split at m
  .rename_i ds e;split at m
   .rename_i d ed;obtain⟨a,b,c⟩:=st.own i _ e;obtain⟨xs,n,dn⟩:=c;obtain⟨v,ev,O⟩:=dn.get ed;have y:¬ SO S w ρ (w i):=λ⟨_,z⟩=>z i _ e rfl;have F:Fits X.K (SO S w ρ) (SO S w ρ) H (upd H (w i) (.lst xs.dropLast)):=.upd (.inl ⟨_,n⟩) y;have q:∀a,SO S w ρ a->SO S w (ρ.set i (.ow (.lst ds.dropLast))) a:=SO.mono λj f J=>by
     rcases get_set J with⟨I,_,_⟩|⟨_,z⟩
     .subst I;show⟨_,e⟩
     .exact ⟨_,z⟩
    show⟨_,a,.inl ⟨rfl,xs,fU.of n⟩,w i,xs,v,rfl,rfl,n,by rw[<- dn.len];show ev,?_⟩;show k w v _ _ d (st.write (d':=.lst ds.dropLast) e ⟨_,aW,aZ.fits F _ _ dn.dropLast⟩) (Dn.fits (F.trans (.mono q)) _ _ O) m
   .exact m.elim
  .exact m.elim
end
end
section
variable{X:Cx}{π:Q0b}{σ:L2.St}{H:Hp}{s:ao}{h':bb}
theorem turnT{t':Nat}{ch:List ah}{T:ah}{xs:List V}{h:Q0f}(I:Φ X π σ H s)(k:∀b o,b∉ch->s.heap.get? b=aa o->h'.get? b=aa o)(l:∀b∈ch,pC X π H b)
  (m:s.heap.objs.size<=T) (y:θ xs h) (x:xs.length<=bf) (A:kh h' T h.toArray) (nd:C7 h' T):Φ X π σ (upd H T (.tup xs)) {s with heap:=h',toks:=t' }:=by
 have fr:H T=af:=I.hok.fresh m;have p:∀{b:ah} {o:az},s.heap.get? b=aa o->b≠T:=λ{b} {o} e z=>il _ (gg (bz e) (z▸m));have live:∀{b:ah} {u:HO},H b=aa u->b∉ch:=λ{b} {u} e z=>by rw[(l _ z).1] at e;cases e
 show I.call' (s':={s with heap:=h',toks:=t' }) (ch:=ch) rfl ⟨λb o e _ _ a=>k b o a e,λb o e _ _ a=>⟨o.slots,k b o a e⟩,λb o e n _=>by rw[bQ (p e)];show n,λb o e a=>⟨o,k b o a e⟩,
  λb ys e=>by rw[bQ (bT e fr)];show e,λb o u e=>by rw[bQ (bT e fr)];show e,λb O e=>by rw[bQ (bT e fr),e]⟩ ?_ I.bare λb d=>?_
 .intro b u e;by_cases d:b=T
  .subst d;rw[aW] at e;cases e;show⟨x,h,y,A,nd⟩
  .rw [bQ d] at e;show(I.hok b u e).stay (λc v j q=>k c v ?_ q) (λc q=>by rw[bQ (bT q fr)];show q) (λc ys q=>by rw[bQ (bT q fr)];show q) λc o u q=>by rw[bQ (bT q fr)];show q
   rcases j with rfl|j
   .exact live e
   .exact live j
 .obtain ⟨_,L,_,K,J,F⟩:=l b d;show⟨K,L,J,F⟩
def RR{t':Nat}{ch:List ah}(I:Φ X π σ H s)(k:∀b o,b∉ch->s.heap.get? b=aa o->h'.get? b=aa o)(h:∀b∈ch,pC X π H b):Φ X π σ H {s with heap:=h',toks:=t' }:=by
 have live:∀{b:ah} {u:HO},H b=aa u->b∉ch:=λ{b} {u} e z=>by rw[(h _ z).1] at e;cases e
 show I.call' (s':={s with heap:=h',toks:=t' }) (ch:=ch) rfl ⟨λb o e _ _ a=>k b o a e,λb o e _ _ a=>⟨o.slots,k b o a e⟩,λb o e n _=>n,λb o e a=>⟨o,k b o a e⟩,
  λb ys e=>e,λb o u e=>e,λb y e=>e⟩ ?_ I.bare λb j=>?_
 .intro b u e;show(I.hok b u e).stay (λc v d q=>k c v ?_ q) (λc q=>q) λc ys q=>q;rcases d with rfl|d
  .exact live e
  .exact live d
 .obtain ⟨_,x,_,p,m,l⟩:=h b j;show⟨p,x,m,l⟩
end
def Itp(go:Nat->Hp->Prop)(Y:Nat->Hp->List V->Prop)(stop:Nat->Hp->Prop):It:=⟨go,λi H x H'=>∃T a,x=.ref T/\H T=af/\H'=upd H T (.tup a)/\Y i H a,stop⟩
def RS(P:bg)(w:ba)(A:br)(it:ah)(wr:List ah)(n:Nat)(a:Nat->Array ai->Prop)(St:Nat->bb->Prop)(Mid:Nat->ah->bb->Prop):Prop :=
 ∀i (s:ao) (Q:Option ai->ao->Prop) (E:Q0c),i<n->St i s.heap ->
  (∀T vals h' tk,a i vals->s.heap.objs.size<=T->h'.IsTuple T vals->C7 h' T->Mid i T h'->(∀b o,b∉wr->s.heap.get? b=aa o->h'.get? b=aa o)->Q (aa (.ref T)) {s with heap:=h',toks:=tk}) ->
  aw (ay P w) A (pyNext (.ref it)) Q E s
theorem wH{P:bg}{w:ba}{K:ar}{es:List au}{kk:Nat}{tp:bc}{go:Nat->Hp->Prop}{Y:Nat->Hp->List V->Prop}{stop:Nat->Hp->Prop}{p:List ah}{it:ah}{tn:Nat->bb->Prop}(mem:it∈p)
  (obj:∀i h,tn i h ->∀b∈p,∃o,h.get? b=aa o /\∀v,o.data≠.cell v) (keep:∀i h h',tn i h->(∀b∈p,∀o,h.get? b=aa o->h'.get? b=aa o)->tn i h')
  (wk:∀(X:Cx),X.Ω=P->X.w=w->X.K=K->X.calm=ae ->∀(i:Nat) (π:Q0b) (s:ao) (σ:L2.St) (H:Hp),Φ X π σ H s->tn i s.heap->go i H\/stop i H ->
   ∃l wr n q St Mid,(WalksT P w X.A it l wr n q St Mid/\RS P w X.A it wr n q St Mid)/\St i s.heap/\(∀b∈wr,b∈p)/\(∀h,St (i+1) h->tn (i+1) h) /\
    (go i H->i<n /\∀vals,q i vals ->∃j,j.length<=bf/\θ j vals.toList/\Y i H j)/\(stop i H->i=n))
  (self:∀(A:br) (i:Nat) (s:ao) (Q:Q0c) (E:Q0c),tn i s.heap->Q (.ref it) s->aw (ay P w) A (pyIter (.ref it)) Q E s):
  Turn P w K (.Tuple es kk tp) (Itp go Y stop) p it tn where
 mem:=mem
 obj:=obj
 keep:=keep
 self:=self
 item:=by intro X U hw Z L i π s σ H E I x st m;obtain⟨l,wr,n,q,St,Mid,⟨W,J2⟩,F,sub,nx,ok,_⟩:=wk X U hw Z L i π s σ H I st (.inl m);obtain⟨hi,ok⟩:=ok m;show J2 i s _ _ hi F λT vals h1 tk hp O ht nd J k1=>⟨.ref T,rfl,W.go es kk tp i T _ _ _ J λh2 s2 k2=>?_⟩;obtain⟨j,hz,hv,hy⟩:=ok vals hp;obtain⟨o,eo,c,d⟩:=ht;have y:kh h2 T vals.toList.toArray:=⟨o,k2 T o (W.apart i T _ J) eo,c,by simpa using d⟩;have I2:Φ X π σ (upd H T (.tup j)) {s with heap:=h2,toks:=tk}:=turnT (t':=tk) (ch:=wr) I (λb o a e=>k2 b o a (k1 b o a e)) (λb a=>x b (sub b a)) O hv hz y (nd.at eo (k2 T o (W.apart i T _ J) eo));show⟨.ref T,upd H T (.tup j),I2,rfl,⟨T,j,rfl,I.hok.fresh O,rfl,hy⟩,nx h2 s2,λb a=>?_⟩;obtain⟨ob,eb,_⟩:=obj _ _ st b a;have nb:b≠T:=λz=>il _ (gg (bz eb) (z▸O));rw[bQ nb];show(x b a).1
 done:=by intro X U hw Z L i π s σ H E I x st m;obtain⟨l,wr,n,q,St,Mid,⟨W,_⟩,F,sub,nx,_,ok⟩:=wk X U hw Z L i π s σ H I st (.inr m);obtain rfl:=ok m;show W.done s _ _ F λh2 tk k2=>⟨rfl,RR (t':=tk) (ch:=wr) I k2 λb a=>x b (sub b a)⟩
def Iel(K:ar)(l:ah):It:=Itp (λi H=>∃xs v,fU K H l xs/\xs[i]?=aa v) (λi H a=>∃v,a=[.int i,v] /\∀xs,fU K H l xs->xs[i]?=aa v) (λi H=>∃xs,fU K H l xs/\xs.length=i)
def Iet(K:ar)(l:ah):It:=Itp (λi H=>∃xs v,fI K H l xs/\xs[i]?=aa v) (λi H a=>∃v,a=[.int i,v] /\∀xs,fI K H l xs->xs[i]?=aa v) (λi H=>∃xs,fI K H l xs/\xs.length=i)
def DU:[V.int 0,V.int 0].length<=bf:=by rw[ie];decide
theorem DW(e it l:ah)(d:e≠it)(hle:l≠e)(a:l≠it)(items:Array ai):RS Ω w A e [e,it] items.size (λi vals=>∃t x,items[i]?=aa x/\vals=#[.int i t,x])
  (λi h=>(∃old,ub h e it i old)/\h.IsListIter it l i/\h.IsList l items) (λi T h=>(∃x,IsEnumOut h e it ((i:Int)+1) x T)/\h.IsListIter it l (i+1)/\h.IsList l items/\T≠e/\T≠it):=by
 intro i s Q E hi ⟨⟨old,z⟩,v,p⟩ q;have n:items[i]?=aa items[i]:=jr hi;show wpAny_pyNext_enum_item z v p n d λg K J b3 _ m=>?_;have I:e<s.heap.objs.size:=bz z;have F:it<s.heap.objs.size:=by obtain⟨_,y,_⟩:=v;show bz y
 show q s.heap.objs.size #[.int i s.toks,items[i]] g (s.toks+1) ⟨_,_,n,rfl⟩ (bh _) ⟨_,b3,rfl,_,rfl⟩ (C7.is b3 rfl) ⟨⟨_,K⟩,J,p.at λo y=>m l o hle a y,ox I,ox F⟩ λb o j y=>?_;simp only[cb,uk,or_false,not_or] at j;show m b o j.1 j.2 y
theorem DX{Ω:bg}{w:ba}{A:br}{it:ah}{l:List ah}{n:Nat}{P:Nat->ai->Prop}{St:Nat->bb->Prop}(D:Draws Ω w A.in1 it l n P St)(e:ah)(a:e≠it)(d:e∉l):
  RS Ω w A e [e,it] n (λi vals=>∃t x,P i x/\vals=#[.int i t,x]) (λi h=>(∃old,ub h e it i old)/\St i h) (λi T h=>(∃x,IsEnumOut h e it ((i:Int)+1) x T)/\St (i+1) h/\T≠e/\T≠it):=by
 intro i s Q E hi ⟨⟨old,p⟩,m⟩ q;show wpAny_pyNext_enum_itemD D p m hi a d λx g tk v K J b3 _ I=>?_;have F:e<s.heap.objs.size:=bz p;have z:it<s.heap.objs.size:=by obtain⟨_,y⟩:=D.live _ _ m;show bz y
 show q s.heap.objs.size #[.int i tk,x] g (tk+1) ⟨_,_,v,rfl⟩ (bh _) ⟨_,b3,rfl,_,rfl⟩ (C7.is b3 rfl) ⟨⟨_,K⟩,J,ox F,ox z⟩ λb o j y=>?_;simp only[cb,uk,or_false,not_or] at j;show I b o j.1 j.2 y
theorem GU{P:bg}{w:ba}{K:ar}{es:List au}{kk:Nat}{Z:bc}{e it l:ah}(m:e≠it)(hle:l≠e)(j:l≠it):
  Turn P w K (.Tuple es kk Z) (Iel K l) [e,it] e (λi h=>(∃old,ub h e it i old)/\h.IsListIter it l i):=by
 show wH (by simp) (λi h st b O=>?_) (λi h h2 st k=>?_) (λX hP hw hK hc i π s σ H I st hg=>?_) (λA i s Q E st q=>?_)
 .obtain ⟨⟨old,a⟩,o,c,d1,d2⟩:=st;rcases cb.mp O with rfl|d
  .exact ⟨_,a,λv z=>by cases z⟩
  .rw [bt.mp d];show⟨o,c,λv z=>by rw[d2] at z;cases z⟩
 .obtain ⟨⟨old,a⟩,b⟩:=st;show⟨⟨old,k e (by simp) _ a⟩,b.at λo q=>k it (by simp) o q⟩
 .subst hP hw hK;have d:∃xs,fU X.K H l xs:=by rcases hg with⟨xs,_,a,_⟩|⟨xs,a,_⟩<;>show⟨xs,a⟩
  obtain⟨xs,d⟩:=d;obtain⟨n,U,p,hz⟩:=I.list d;have Y:=U.length;show⟨_,_,_,_,_,_,⟨WalksT.enumerate (I.ok.hd hc) e it l m hle j n.toArray,DW e it l m hle j n.toArray⟩,⟨st.1,st.2,p.isList⟩,λb O=>O,λh q=>⟨q.1,q.2.1⟩,λg=>?_,λg=>?_⟩
  .obtain ⟨ys,v,F,J⟩:=g;obtain rfl:=I.qD F d;obtain⟨u,hu,ru⟩:=U.get J;have L:i<ys.length:=(cg.mp J).1;show⟨by rw[cu,<- Y];show L,λvals q=>?_⟩;obtain⟨t,x,hx,rfl⟩:=q;have ex:x=u:=by
    have:n[i]?=aa x:=by simpa using hx
    rw[hu] at this;show(ft this).symm
   subst ex;show⟨[.int i,v],DU,.cons ⟨t,rfl⟩ (.cons ru .nil),v,rfl,λzs y=>by rw[I.qD y d];show J⟩
  .obtain ⟨ys,F,e2⟩:=g;obtain rfl:=I.qD F d;rw[cu,<- Y,e2]
 .obtain ⟨⟨old,a⟩,b⟩:=st;show w_ a q
section
variable{Ω:bg}{w:ba}{A:br}{E:Q0c}{s:ao}
theorem RT(hit:s.heap.IsTupleIter it t i)(l:s.heap.IsTuple t items)(j:items[i]?=aa x)
  (p:∀h',h'.IsTupleIter it t (i+1)->jw it s.heap h'->Q x {s with heap:=h' }):aw (ay Ω w) A (a1q (.ref it)) Q E s:=by
 obtain⟨⟨q,d,_,nl,h⟩,o,ho,n,a⟩:=ze l hit;show aq (m:=callSpecial? _ _) (kb hit.typeIs xu (ik xu hit.typeIs a1a ?_ (a1h _)));show aq (m:=field _ 0) (oh ho a (x:=.ref t) rfl ?_);show aw _ _ (if ag=ae then _ else _) _ _ s;rw[Zz b_];show aq (m:=field _ 1) (oh ho a (x:=.int i 0) rfl (aq (m:=seqItems? _) (Bu d h ?_)));simp only[j,gf];show aq (me ho a (by simp) (ax ⟨x,rfl,ax (p _ ⟨_,mi _ ho (qm (jd a _)),(ua ..).trans n,?_⟩ (jj ..))⟩));rw[jd a];simp[rawInt]
theorem MO(p:A.handled=af)(hit:s.heap.IsTupleIter it t i)(n:s.heap.IsTuple t items)(l:items[i]?=af)
  (q:∀h' e,xt it s.heap h'->(∃o,h'.get? e=aa o/\o.cls=.type "StopIteration")->E (.ref e) {s with heap:=h' }):aw (ay Ω w) A (a1q (.ref it)) Q E s:=by
 obtain⟨⟨v,a,_,nl,h⟩,o,ho,y,j⟩:=ze n hit;show aq (m:=callSpecial? _ _) (kb hit.typeIs xu (ik xu hit.typeIs a1a ?_ (a1h _)));show aq (m:=field _ 0) (oh ho j (x:=.ref t) rfl ?_);show aw _ _ (if ag=ae then _ else _) _ _ s;rw[Zz b_];show aq (m:=field _ 1) (oh ho j (x:=.int i 0) rfl (aq (m:=seqItems? _) (Bu a h ?_)));simp only[l,gf];show aq (kr (aq (m:=setField _ _ _) (me ho j (by simp) ?_)));have d:A.in1.handled=af:=p
 wp_walk
 unfold raiseNew;apply aq;apply xa;rw[d];show aq (ax (wy (q _ _ (((jj ..).extBut.push _).push _) ⟨_,dh _ rfl,rfl⟩)))
theorem Xl(m:A.handled=af)(it t:ah)(j:t≠it)(items:Array ai):Draws Ω w A it [it,t] items.size (λi v=>items[i]?=aa v) (λi h=>h.IsTupleIter it t i/\h.IsTuple t items) where
 live:=λi h st=>by obtain⟨⟨o,ho,_⟩,_⟩:=st;show⟨o,ho⟩
 frame:=λi h h' st k=>by obtain⟨⟨o,ho,r⟩,o2,d,l⟩:=st;show⟨⟨o,k it (by simp) o ho,r⟩,o2,k t (by simp) o2 d,l⟩
 item:=λi s Q E hi st q=>RT st.1 st.2 (x:=items[i]) (jr hi) λh' a b=>q _ h' s.toks (jr hi) ⟨a,st.2.extBut b.extBut j⟩ b
 done:=λs Q E st q=>MO m st.1 st.2 (zd (bh _)) q
theorem MP(l:ah)(items:Array ai):Meets (Builtin.«enumerate.__new__» ⟨[.type "enumerate",.ref l],[]⟩) (λ_ R s=>s.heap.IsTuple l items /\
  R (.ok (.ret (.ref (s.heap.push {cls:=.type "tuple_iterator",data:=.fields #[.ref l,.int 0 0]}).objs.size))) {s with heap:=(s.heap.push {cls:=.type "tuple_iterator",data:=.fields #[.ref l,.int 0 0]}).push {cls:=.type "enumerate",data:=.fields #[.none,.bool ag,.ref s.heap.objs.size,rawInt 0,.none,.none]} }):=by
 show .of_wp λo n x v s h=>?_;obtain⟨a,h⟩:=h;obtain⟨m,q,d,tk,p⟩:=s;have j:=sub_enumerate
 wp_walk using sx a
 show wpAny_stack_any λ_=>ax ?_;split<;>first
  | (rename_i c _ _ _ _ _;cases (c == tu "enumerate")<;>(wp_walk using sx a;show⟨_,rfl,h⟩))
  | (wp_walk using sx a;show⟨_,rfl,h⟩)
theorem GV(j:s.heap.IsTuple l items)
  (h:∀h',ub h' (s.heap.objs.size+1) s.heap.objs.size 0 .none->h'.IsTupleIter s.heap.objs.size l 0->(∀b o,s.heap.get? b=aa o->h'.get? b=aa o)->Q (.ref (s.heap.objs.size+1)) {s with heap:=h' }):aw (ay Ω w) A (call (.type "enumerate") [.ref l]) Q E s:=by
 show a0z F.called_enumerate (by decide) (F.typeCall_enumerate_1 _) (F.newCall_enumerate_1 _) (λobj=>a1i obj _) F.entry_enumerate_new (MP l items) ⟨j,?_⟩;generalize a:s.heap.push {cls:=.type "tuple_iterator",data:=.fields #[.ref l,.int 0 0]}=h1;have m:h1.objs.size=s.heap.objs.size+1:=by rw[<- a,oo]
 have g1:h1.get? s.heap.objs.size=aa {cls:=.type "tuple_iterator",data:=.fields #[.ref l,.int 0 0]}:=by rw[<- a];show dh _ rfl
 have k1:∀b o,s.heap.get? b=aa o->h1.get? b=aa o:=λb o e=>by rw[<- a];show ck _ e
 generalize d:h1.push {cls:=.type "enumerate",data:=.fields #[.none,.bool ag,.ref s.heap.objs.size,rawInt 0,.none,.none]}=h2;have g2:h2.get? h1.objs.size=aa {cls:=.type "enumerate",data:=.fields #[.none,.bool ag,.ref s.heap.objs.size,rawInt 0,.none,.none]}:=by rw[<- d];show dh _ rfl
 have k2:∀b o,h1.get? b=aa o->h2.get? b=aa o:=λb o e=>by rw[<- d];show ck _ e
 show⟨⟨_,g2,rfl⟩,?_⟩;rw[m] at g2 ⊢;show h h2 g2 ⟨_,k2 _ _ g1,rfl,rfl⟩ λb o e=>k2 b o (k1 b o e)
end
theorem GW{P:bg}{w:ba}{K:ar}{es:List au}{kk:Nat}{tp:bc}{e it l:ah}(j:e≠it)(hle:l≠e)(U:l≠it):
  Turn P w K (.Tuple es kk tp) (Iet K l) [e,it] e (λi h=>(∃old,ub h e it i old)/\h.IsTupleIter it l i):=by
 show wH (by simp) (λi h st b Y=>?_) (λi h h2 st k=>?_) (λX hP hw hK hc i π s σ H I st hg=>?_) (λA i s Q E st q=>?_)
 .obtain ⟨⟨old,a⟩,o,c,d1,d2⟩:=st;rcases cb.mp Y with rfl|d
  .exact ⟨_,a,λv z=>by cases z⟩
  .rw [bt.mp d];show⟨o,c,λv z=>by rw[d2] at z;cases z⟩
 .obtain ⟨⟨old,a⟩,o,b,r⟩:=st;show⟨⟨old,k e (by simp) _ a⟩,o,k it (by simp) o b,r⟩
 .subst hP hw hK;have d:∃xs,fI X.K H l xs:=by rcases hg with⟨xs,_,a,_⟩|⟨xs,a,_⟩<;>show⟨xs,a⟩
  obtain⟨xs,d⟩:=d;obtain⟨m,Z,p,hz⟩:=I.tuple d;have hl:=Z.length;have D:Draws X.Ω X.w X.A.in1 it [it,l] m.toArray.size (λi v=>m.toArray[i]?=aa v) (λi h=>h.IsTupleIter it l i/\h.IsTuple l m.toArray):=Xl (show X.A.in1.handled=af from I.ok.hd hc) it l U m.toArray;have n:e∉[it,l]:=λz=>by
   rcases cb.mp z with y|y
   .exact j y
   .exact hle (bt.mp y).symm
  show⟨_,_,_,_,_,_,⟨WalksT.enumerateD D e j n (by simp),DX D e j n⟩,⟨st.1,st.2,p⟩,λb Y=>Y,λh q=>⟨q.1,q.2.1⟩,λg=>?_,λg=>?_⟩
  .obtain ⟨ys,v,J,L⟩:=g;obtain rfl:=I.jH J d;obtain⟨u,hu,ru⟩:=Z.get L;have O:i<ys.length:=(cg.mp L).1;show⟨by rw[cu,<- hl];show O,λvals q=>?_⟩;obtain⟨t,x,hx,rfl⟩:=q;have ex:x=u:=by
    have:m[i]?=aa x:=by simpa using hx
    rw[hu] at this;show(ft this).symm
   subst ex;show⟨[.int i,v],DU,.cons ⟨t,rfl⟩ (.cons ru .nil),v,rfl,λzs F=>by rw[I.jH F d];show L⟩
  .obtain ⟨ys,J,e2⟩:=g;obtain rfl:=I.jH J d;rw[cu,<- hl,e2]
 .obtain ⟨⟨old,a⟩,b⟩:=st;show w_ a q
section
variable{X:Cx}{es:List au}{kk:Nat}{tp:bc}
def WU{a:au}{O:TA}{p F:bc}(hg:Gl X "enumerate")(hm:X.mg "enumerate"=af)(ha:PA X [a] O)(hs:av [a] X.env=[(ag,eval a X.env)]<|>0):
  PI X (.Tuple es kk tp) (.Call (.Name "enumerate" p) [a] [] F) (λσ H R=>O σ H λL m=>∃l,L=[.ref l]/\(((∃xs,fU X.K m l xs)/\R (Iel X.K l) m)\/((∃xs,fI X.K m l xs)/\R (Iet X.K l) m))):=by
 intro π s σ H R I h;show Call_ (pB I hg hm boot_enumerate (uf (dF (ha F π s σ H _ I h) λus j ⟨L,m,v,r1,q1⟩=>?_) hs rfl));obtain⟨l,e,q⟩:=q1;subst e;obtain⟨u,rfl,ru⟩:=vals1 r1;cases ru;have Y:∀b∈[j.heap.objs.size+1,j.heap.objs.size],pC X π m b:=λb U=>by
  have hle:j.heap.objs.size<=b:=by
   simp only[cb,or_false,uk] at U;rcases U with rfl|rfl
   .exact qu _
   .exact bh _
  show v.FY hle (v.hok.fresh hle)
 rcases q with⟨⟨xs,z⟩,q⟩|⟨⟨xs,z⟩,q⟩
 .obtain ⟨J,Z,x,hz⟩:=v.list z;have d:l<j.heap.objs.size:=by obtain⟨o,n,e,_⟩:=x;show bz e
  show call_enumerate_list x.isList λh' y hi hsz A=>w_ y ?_;show⟨j.heap.objs.size+1,_,_,_,m,rfl,v.kept (t':=j.toks) A,GU (Ea _) (f_ (qt d)) (f_ d),⟨⟨_,y⟩,hi⟩,Y,q⟩
 .obtain ⟨J,Z,x,hz⟩:=v.tuple z;have d:l<j.heap.objs.size:=x.lt;show GV (items:=J.toArray) x λh' y hi A=>w_ y ?_;show⟨j.heap.objs.size+1,_,_,_,m,rfl,v.kept (t':=j.toks) A,GW (Ea _) (f_ (qt d)) (f_ d),⟨⟨_,y⟩,hi⟩,Y,q⟩
def tH(ds:List D):List D:=ds.zipIdx.map λp=>.tup [.int (p.2:Int),p.1]
theorem zE{ds:List D}{i:Nat}{d:D}(h:(tH ds)[i]?=aa d):∃a,ds[i]?=aa a/\d=.tup [.int (i:Int),a]:=by
 unfold tH at h;rw[dg,ym] at h
 cases q:ds[i]? with
 |none=>rw[q] at h;cases h
 |some a =>
  rw[q] at h;simp at h;show⟨a,rfl,h.symm⟩
def JX{K:ar}{S:ah->Prop}{H:Hp}{T:ah}{x y:V}{d a:D}(fr:H T=af)(j:Dn K S H d x)(h:Dn K S H a y):Dn K S (upd H T (.tup [x,y])) (.tup [d,a]) (.ref T):=by symm;show⟨T,[x,y],rfl,aW,aZ.fits (.same (aU fr)) _ _ (aZ.cons j (aZ.one h))⟩
theorem MQ{K:ar}{a:ah}{ds:List D}:Wlk K (Iel K a) (tH ds) [(.lst ds,.ref a)] where
 go:=λS H A m i d e=>by have h:=m _ (bt.mpr rfl);symm at h;obtain⟨b,xs,j,l,n,dn⟩:=h;injection j with j;subst j;obtain⟨F,p,rfl⟩:=zE e;obtain⟨v,ev,q⟩:=dn.get p;show⟨⟨xs,v,fU.of l,ev⟩,λx H' y=>?_⟩;obtain⟨T,z,rfl,fr,rfl,v',rfl,o⟩:=y;have ex:=o xs (fU.of l);rw[ev] at ex;cases ex;show⟨aU fr,JX fr (by symm) q⟩
 stop:=λS H m i hi=>by have h:=m _ (bt.mpr rfl);symm at h;obtain⟨b,xs,j,l,n,dn⟩:=h;injection j with j;subst j;show⟨xs,fU.of l,by rw[<- dn.len,<- hi];simp[tH]⟩
theorem MR{K:ar}{a:ah}{ds:List D}:Wlk K (Iet K a) (tH ds) [(.tup ds,.ref a)] where
 go:=λS H z m i d e=>by have h:=m _ (bt.mpr rfl);symm at h;obtain⟨b,xs,j,l,dn⟩:=h;injection j with j;subst j;obtain⟨A,o,rfl⟩:=zE e;obtain⟨v,ev,p⟩:=dn.get o;show⟨⟨xs,v,(fI.of l),ev⟩,λx H' y=>?_⟩;obtain⟨T,q,rfl,fr,rfl,v',rfl,n⟩:=y;have ex:=n xs (fI.of l);rw[ev] at ex;cases ex;show⟨aU fr,JX fr (by symm) p⟩
 stop:=λS H m i hi=>by have h:=m _ (bt.mpr rfl);symm at h;obtain⟨b,xs,j,l,dn⟩:=h;injection j with j;subst j;show⟨xs,(fI.of l),by rw[<- dn.len,<- hi];simp[tH]⟩
noncomputable def R_(t:WA):WI:=λρ Q=>t ρ λds=>match ds with
 |[.lst es]=>Q (tH es)
 |[.tup es]=>Q (tH es)
 |_=>False
def GX(F:X.mg "enumerate"=af)(I:vV X [a] t)(j:Gl X "enumerate"<|>0)(A:av [a] X.env=[(ag,eval a X.env)]<|>0):N0 X (.Tuple es kk tp) (.Call (.Name "enumerate" p) [a] [] ν) (R_ t) :=
 MK (WU j F I A) λσ H R L=>by
  obtain⟨S,ρ,Q3,J,y,z,k⟩:=L;show⟨S,ρ,_,J,y,z,λO q ds n o q1=>?_⟩;split at q1
  .obtain ⟨v,r,rfl,h,h2⟩:=o.bL;simp only[aZ] at h2;subst h2;have d:=h;symm at h;obtain⟨l,xs,rfl,m,x,K⟩:=h;show⟨l,rfl,.inl ⟨⟨xs,fU.of m⟩,k _ q _ [(_,.ref l)] n (λg j=>by cases bt.mp j;show d) MQ q1⟩⟩
  .obtain ⟨v,r,rfl,h,h2⟩:=o.bL;simp only[aZ] at h2;subst h2;have d:=h;symm at h;obtain⟨l,xs,rfl,m,K⟩:=h;show⟨l,rfl,.inr ⟨⟨xs,(fI.of m)⟩,k _ q _ [(_,.ref l)] n (λg j=>by cases bt.mp j;show d) MR q1⟩⟩
  .exact q1.elim
variable{a b:au}{ν:bc}{ta tb:WE}
def WV:iC X (binaryOp .Mult) (rI uc λi j=>.int (i*j)):=VF λ_ _ _ _ _ _ _ d q=>mul_int q d
def Rz:F2:=BF uc λi j=>.int (i*j)
def Ry(h:cK X a ta)(d:cK X b tb):cK X (.BinOp a .Mult b ν) (iA Rz ta tb):=Q8 WV lW h d
end
theorem WW(hi:i.natAbs<2^m)(a:j.natAbs<2^n)(h:m+n<=134217728):uc i j:=by show mulOk_of_bits (Dr hi) (Dr a) h
section
variable{X:Cx}
noncomputable def aLA(t:WE):WT:=λρ Q=>t ρ λd=>match d with
 |.lst ds=>Q (!ds.isEmpty)
 |.tup ds=>Q (!ds.isEmpty)
 |_=>False
def aZ.empty{K:ar}{S:ah->Prop}{H:Hp}{ds:List D}{xs:List V}(h:aZ K S H ds xs):ds.isEmpty=xs.isEmpty:=by have:=h.len;cases ds<;>cases xs<;>simp at this ⊢
def An:List V->Hp->VK->Prop:=λxs H Q=>∃(a:ah) (ns:Q0e),xs=[.ref a]/\H a=aa (.lst (ns.map V.int))/\Q (.int ns.sum) H
theorem MS(o:X.calm=ae):fV X (.builtin "sum") An:=by
 intro π s σ H xs z Q I r h;obtain⟨a,ns,rfl,v,q⟩:=h;obtain⟨u,rfl,m⟩:=vals1 r;cases m;obtain⟨y,l,p,A⟩:=I.list (fU.of v);have hi:=intsAre_of l;obtain⟨d,j⟩:=hi.allInts.items;have x:d.toList.map (·.1)=ns:=by rw[<- a0m,<- j];show hi.numsOf
 have ev:preSum (numAt d) d.size=ns.sum:=by rw[preSum_eq,oy (by simp),x]
 show sum_intListG (I.ok.hd o) (j▸p.isList) λh' tk t' n=>⟨.int ns.sum,H,I.kept n,⟨t',by rw[ev]⟩,q⟩
def sumF:F1
 |[.lst ds],Q=>(match intsOf ds with|some ns=>Q (.int ns.sum)|none=>False)
 |_,_=>False
def MT{ns:Q0e}{Q:D->Prop}:sumF [.lst (ns.map D.int)] Q=Q (.int ns.sum):=by show(match intsOf (ns.map D.int) with|some ns=>Q (.int ns.sum)|none=>False)=_;rw[eB]
theorem Xk{K:ar}:C3 K An sumF:=by
 intro S H xs ds Q3 Q p l h k
 match ds,h with
 |[.lst es],h =>
  obtain⟨v,r,rfl,j,h2⟩:=l.bL;simp only[aZ] at h2;subst h2;symm at j;obtain⟨a,ys,rfl,m,o,n⟩:=j;have d:(match intsOf es with|some ns=>Q3 (.int ns.sum)|none=>False):=h
  clear h
  cases q:intsOf es with
  |none=>rw[q] at d;show d.elim
  |some ns =>
   rw[q] at d;have e:=rZ q;subst e;have e2:=aZ.ints.mp n;subst e2;show⟨a,ns,rfl,m,k _ H _ (ξ.refl H) (by symm) d⟩
theorem Ip(j:X.calm=ae)(a:X.mg "sum"=af)(l:vV X [e] t)(d:Gl X "sum"<|>0)
  (h:Zq X e []<|>0):cK X (.Call (.Name "sum" p) [e] [] ν) (MJ sumF t):=rX (MS j) Xk a3V d a l (by decide) (by decide) h (by rfl)
abbrev WO:=b7->(Option Int->Prop)->Prop
def Rx(K:ar)(t:WO):TO:=λσ H Q=>∃(S:ah->Prop) (ρ:b7) (Q3:Option Int->Prop),(∀a,H a=af->S a)/\Sl K S H ρ σ/\t ρ Q3 /\∀o H',ξ H H'->Q3 o->Q o H'
def PO3(X:Cx)(e:Option au)(t:WO):Prop:=PO X e (Rx X.K t)
def WY:WO:=λ_ Q=>Q af
noncomputable def Ru(t:WE):WO:=λρ Q=>t ρ λd=>match d with
 |.int i=>Q (aa i)
 |_=>False
def Io:PO3 X af WY:=λπ s σ H Q I d=>by obtain⟨S,ρ,Q3,j,h,a,k⟩:=d;show VQ π s σ H Q I (k af H (ξ.refl H) a)
theorem po3(h:cK X e t):PO3 X (aa e) (Ru t):=λπ s σ H Q I o=>by
 obtain⟨S,ρ,Q3,n,j,m,k⟩:=o;show VR h π s σ H Q I ⟨S,ρ,_,n,j,m,λv p d l a q1=>?_⟩
 cases d with
 |int i=>symm at a;show⟨i,a,k _ p l q1⟩
 |_=>show q1.elim
def cutD(xs:List D)(lo hi:Option Int):List D:=(xs.drop (HT.gM xs.length 0 lo)).take (HT.gM xs.length xs.length hi-HT.gM xs.length 0 lo)
def aZ.cut{K:ar}{S:ah->Prop}{H:Hp}{ds:List D}{xs:List V}{lo hi:Option Int}(h:aZ K S H ds xs):aZ K S H (cutD ds lo hi) (DD xs lo hi):=by unfold cutD DD;rw[h.len];show(h.drop _).take _
theorem RU{Ω:bg}{w:ba}{A:br}{E:Q0c}{s:ao}{t j:ah}{items:Array ai}{p l:ai}{lo hi:Option Int}{Q:Q0c}(d:kh s.heap t items)(q:s.heap.IsSliceOf j p l .none)(x:kg p lo)(v:kg l hi)
  (F:HT.gM items.size 0 lo=0) (z:HT.gM items.size items.size hi=items.size) (h:Q (.ref t) s):aw (ay Ω w) A (getItem (.ref t) (.ref j)) Q E s:=by
 have y:s.TypeIs (.ref j) "slice":=by obtain⟨o,a,b,_⟩:=q;show⟨o,a,b⟩
 unfold getItem
 try with_reducible show iz ?_
 first|show aq (ax ?_)|skip
 apply aq;show Zl d.typeIs (by decide) (aq (kb d.typeIs oq (ik oq d.typeIs a1z ?_ (a1F _ _))));show aq (m:=a1o _) (a1u d (aq (qc y ?_)));rw[Z_ (by decide)];show aq (HT.k8 (n:=items.size) q x v ?_);rw[F,z];show aw _ _ (if((((0:Nat):Int) == 0)&&((1:Int) == 1)&&((items.size-0) == items.size))=ae then _ else _) _ _ s;rw[Z_ (by simp)];show aq (m:=a3K _) (aq (qc d.typeIs (ax ?_)));show aw _ _ (if ae=ae then _ else _) _ _ s;rw[Z_ rfl];show aq (kr (ax ⟨_,rfl,ax h⟩))
def Ik(K:ar):V->Option Int->Option Int->Hp->VK->Prop:=λx lo hi H Q=>∃a xs,x=.ref a/\fI K H a xs/\(HT.gM xs.length 0 lo=0/\HT.gM xs.length xs.length hi=xs.length)/\Q (.ref a) H
theorem WZ:YO X (Ik X.K):=by
 intro π s σ H x v z y lo hi A Q I l p n m h;obtain⟨a,xs,rfl,o,hw,q⟩:=h;cases l;obtain⟨j,r,d,F⟩:=I.tuple o;have hlen:j.toArray.size=xs.length:=by rw[cu];show r.length.symm
 show⟨"tuple",_,oq.lookup,d.typeIs,RU d p n m (by rw[hlen];show hw.1) (by rw[hlen];show hw.2) ⟨.ref a,H,I,rfl,q⟩⟩
def Fb(te:WE)(a h:WO):WE:=λρ Q=>te ρ λd=>a ρ λlo=>h ρ λhi=>match d with
 |.lst ds=>Q (.lst (cutD ds lo hi))
 |.tup ds=>Q (.tup (cutD ds lo hi))
 |_=>False
def sl3{e:au}{lo hi:Option au}{O K:bc}{te:WE}{I J:WO}(Z:cK X e te)(y:PO3 X lo I)(Y:PO3 X hi J):cK X (.Subscript e (.Slice lo hi af O) K) (Fb te I J) :=
 imp (DC (JL.or (Xv.or WZ)) Z y Y) λσ H Q Ij=>by
  obtain⟨S,ρ,Q3,z,F,U,k⟩:=Ij;show⟨S,ρ,_,z,F,U,λv H1 d j d1 q1=>?_⟩;show⟨S,ρ,_,bI z j,Sl.fits (.same j) F,q1,λo H2 q q2=>?_⟩;show⟨S,ρ,_,bI z (j.trans q),Sl.fits (.same (j.trans q)) F,q2,λo2 H3 s3 x=>?_⟩;have A:=Dn.fits (.same (q.trans s3)) _ _ d1;have n:=(j.trans q).trans s3
  cases d with
  |lst ds =>
   symm at A;obtain⟨a,xs,rfl,l,L,m⟩:=A;show .inl ⟨a,xs,rfl,fU.of l,λp h=>k _ _ _ (n.trans (aU h)) ?_ x⟩;symm;show⟨p,_,rfl,aW,bI z n p h,aZ.fits (.same (aU h)) _ _ m.cut⟩
  |tup ds =>
   symm at A;obtain⟨a,xs,rfl,l,m⟩:=A;have y:=m.len;by_cases hw:HT.gM xs.length 0 o=0/\HT.gM xs.length xs.length o2=xs.length
   .refine .inr (.inr ⟨a,xs,rfl,(fI.of l),hw,k _ _ _ n ?_ x⟩);have e:cutD ds o o2=ds:=by unfold cutD;rw[y,hw.1,hw.2,uv,yd,oy (kl y)]
    rw[e];symm;show⟨a,xs,rfl,l,m⟩
   .refine .inr (.inl ⟨a,xs,rfl,(fI.of l),hw,λp h=>k _ _ _ (n.trans (aU h)) ?_ x⟩);symm;show⟨p,_,rfl,aW,aZ.fits (.same (aU h)) _ _ m.cut⟩
  |_=>show x.elim
end
end L3
namespace L4
open PySem.Spec PyProof.Rows L2 L3
def wE(f:EF):WE:=λρ Q=>∃d,f ρ=aa d/\Q d
def wT(f:TF):WT:=λρ Q=>∃d,f ρ=aa d/\Q d
def wA(f:AF):WA:=λρ Q=>∃d,f ρ=aa d/\Q d
def wI(f:AF):WI:=λρ Q=>∃d,f ρ=aa d/\Q d
def wO(f:OF):WO:=λρ Q=>∃d,f ρ=aa d/\Q d
def wX(f:XF):WX:=λρ Q=>∃p,f ρ=aa p/\Q p.1 p.2
noncomputable def wS(f:SF):WS:=λE ρ=>match f ρ with
 |.nx ρ'=>E.nx ρ'
 |.rt d=>E.rt d
 |.ex c=>E.ex c
 |.no=>False
def wG(g:TX):WG:=λd ρ Q=>∃a,g d ρ=aa a/\Q a
def uz(g:TU):GE:=λd ρ Q=>∃a,g d ρ=aa a/\Q a
abbrev bR(X:Cx)(e:au)(f:EF):Prop:=cK X e (wE f)
abbrev kC(X:Cx)(e:au)(f:EF):Prop:=DK X e (wE f)
abbrev sA(X:Cx)(e:au)(f:TF):Prop:=uJ X e (wT f)
abbrev mC(X:Cx)(e:au)(f:TF):Prop:=NY X e (wT f)
abbrev tY(X:Cx)(a:List au)(f:AF):Prop:=vV X a (wA f)
abbrev MU(X:Cx)(a e:au)(f:AF):Prop:=N0 X a e (wI f)
abbrev PO4(X:Cx)(e:Option au)(f:OF):Prop:=PO3 X e (wO f)
abbrev GY(X:Cx)(e:au)(f:XF):Prop:=B0 X e (wX f)
abbrev oH(X:Cx)(st:c_)(f:SF):Prop:=xS X st (wS f)
abbrev qO(X:Cx)(st:List c_)(f:SF):Prop:=tX X st (wS f)
section
variable{X:Cx}
def cE{e:au}{t t':WE}(h:cK X e t)(c:∀ρ Q,t' ρ Q->t ρ Q):cK X e t':=imp h λ_ _ _ l=>by obtain⟨S,ρ,Q3,j,a,d,k⟩:=l;show⟨S,ρ,Q3,j,a,c ρ Q3 d,k⟩
def cF(h:DK X e t)(c:∀ρ Q,t' ρ Q->t ρ Q):DK X e t':=imp h λ_ _ _ l=>by obtain⟨S,ρ,Q3,j,a,d,k⟩:=l;show⟨S,ρ,Q3,j,a,c ρ Q3 d,k⟩
def cT{e:au}{t t':WT}(h:uJ X e t)(c:∀ρ Q,t' ρ Q->t ρ Q):uJ X e t':=GL h λ_ _ _ l=>by obtain⟨S,ρ,Q3,j,a,d,k⟩:=l;show⟨S,ρ,Q3,j,a,c ρ Q3 d,k⟩
def cW{e:au}{t t':WT}(h:NY X e t)(c:∀ρ Q,t' ρ Q->t ρ Q):NY X e t':=vz h λ_ _ _ l=>by obtain⟨S,ρ,Q3,j,a,d,k⟩:=l;show⟨S,ρ,Q3,j,a,c ρ Q3 d,k⟩
def cA(h:vV X e t)(c:∀ρ Q,t' ρ Q->t ρ Q):vV X e t':=Q6 h λ_ _ _ l=>by obtain⟨S,ρ,Q3,j,a,d,k⟩:=l;show⟨S,ρ,Q3,j,a,c ρ Q3 d,k⟩
def cI(h:N0 X tg e t)(c:∀ρ Q,t' ρ Q->t ρ Q):N0 X tg e t':=MK h λ_ _ _ l=>by obtain⟨S,ρ,Q3,j,a,d,k⟩:=l;show⟨S,ρ,Q3,j,a,c ρ Q3 d,k⟩
def cX(h:B0 X e t)(c:∀ρ Q,t' ρ Q->t ρ Q):B0 X e t':=imp h λ_ _ _ j=>by obtain⟨H₀,S,w,ρ,G,Q3,d,st,a,k⟩:=j;show⟨H₀,S,w,ρ,G,Q3,d,st,c ρ Q3 a,k⟩
def cS(h:xS X e t)(c:∀E ρ,t' E ρ->t E ρ):xS X e t':=iD h λ_ _ _ j=>by obtain⟨H₀,S,w,ρ,G,E,d,st,a,ok⟩:=j;show⟨H₀,S,w,ρ,G,E,d,st,c E ρ a,ok⟩
def Ab(h:tX X e t)(c:∀E ρ,t' E ρ->t E ρ):tX X e t':=JV h λ_ _ _ j=>by obtain⟨H₀,S,w,ρ,G,E,d,st,a,ok⟩:=j;show⟨H₀,S,w,ρ,G,E,d,st,c E ρ a,ok⟩
def mC.pt(h:mC X e f):sA X e f:=NY.pt h
def kC.pe(h:kC X e f):bR X e f:=DK.pe h
theorem bnd{j d:Type}{o:Option j}{f:j->Option d}{b:d}(h:o.bind f=aa b):∃a,o=aa a/\f a=aa b:=by
 cases o with
 |none=>cases h
 |some a=>show⟨a,rfl,h⟩
theorem oB{j d:Type}{o:Option j}{f:j->d}{b:d}(h:o.map f=aa b):∃a,o=aa a/\f a=b:=by
 cases o with
 |none=>cases h
 |some a=>show⟨a,rfl,ft h⟩
theorem x4(i:Nat)(hN:X.N[i]?=aa x<|>0)(j:xD X.env.scope x<|>3)(l:Zu x<|>1)
  (a:Zt x<|>1):bR X (.Name x ν) (aF i):=cE (x3 i hN j l a) λρ Q m=>by
 obtain⟨d,e,q⟩:=m;unfold aF at e;unfold V0
 cases h:ρ[i]? with
 |none=>rw[h] at e;cases e
 |some o =>
  rw[h] at e
  cases o with
  |none=>cases e
  |some d'=>cases e;show q
def i4{j ν}:bR X (.Constant (.int i) j ν) (eI i):=cE i3 λ_ _ a=>by obtain⟨_,e,q⟩:=a;cases e;show q
def b4{j ν}:bR X (.Constant (.bool b) j ν) (eC (.bl b)):=cE b3 λ_ _ a=>by obtain⟨_,e,q⟩:=a;cases e;show q
def s4{j ν}:bR X (.Constant (.str x) j ν) (eC (.str x)):=cE s3 λ_ _ a=>by obtain⟨_,e,q⟩:=a;cases e;show q
def c4(a:X.mg x=aa (.int i t))(d:Gl X x<|>0)(h:Zu x<|>1):bR X (.Name x ν) (eI i):=cE (g3 d a h) λ_ _ j=>by obtain⟨_,e,q⟩:=j;cases e;show q
def Tells(f:F2)(g:D->D->Option D):Prop:=∀(x y d:D) (Q:D->Prop),g x y=aa d->Q d->f x y Q
def fW{f:F2}{g:D->D->Option D}(h:Tells f g){j a:EF}(ρ:b7)(Q:D->Prop)(w:wE (aB g j a) ρ Q):iA f (wE j) (wE a) ρ Q:=by obtain⟨d,e,q⟩:=w;obtain⟨x,ex,e⟩:=bnd e;obtain⟨y,l,e⟩:=bnd e;show⟨x,ex,y,l,h x y d Q e q⟩
def fO:Tells (tF g) (E2 g):=λx y d Q e q=>by
 cases x<;>first|(cases e;done)|skip
 all_goals (cases y<;>first|(cases e;done)|skip)
 cases e;show q
def eV(h:∀i j,c i j=ae->C i j):Tells (BF C g) (gR c g):=λx y d Q e q=>by
 cases x<;>first|(cases e;done)|skip
 all_goals (cases y<;>first|(cases e;done)|skip)
 rename_i i j;have e:(if c i j=ae then aa (g i j) else af)=aa d:=e;by_cases a:c i j=ae
 .rw [Z_ a] at e;cases e;show⟨h i j a,q⟩
 .rw [Zz a] at e;cases e
def szl{n:Nat}{a:Type}{x d:a}{Q:a->Prop}(e:(if n<=tK then aa x else af)=aa d)(q:Q d):n<=bf/\Q x:=by
 by_cases h:n<=tK
 .rw [Z_ h] at e;cases e;show⟨by rw[ie];show h,q⟩
 .rw [Zz h] at e;cases e
def MV:Tells wc bS:=λx y d Q e q=>by
 cases x<;>first|(cases e;done)|skip
 all_goals (cases y<;>first|(cases e;done)|skip)
 .cases e;show q
 .exact szl (x:=D.str _) e q
 .exact szl (x:=D.tup _) e q
 .exact szl (x:=D.lst _) e q
def MW:Tells Au B6:=λx y d Q e q=>by
 cases x<;>first|(cases e;done)|skip
 all_goals (cases y<;>first|(cases e;done)|skip)
 show szl (x:=D.lst _) e q
def Xj(h:B4 i j=ae):uc i j:=by
 unfold B4 at h;simp only[yy,decide_eq_true_eq] at h;rcases h with(h|h)|h
 .exact VH.ok (.inl ⟨by lia,by lia⟩)
 .exact VH.ok (.inr ⟨by lia,by lia⟩)
 .refine WW (m:=i.natAbs.log2+1) (n:=j.natAbs.log2+1) ?_ ?_ ∅
  .exact a1Y
  .exact a1Y
section
variable{a b:au}{ν:bc}{fa fb:EF}
def dH(h:bR X a fa)(d:bR X b fb):bR X (.BinOp a .Add b ν) (aB bS fa fb):=cE (Nq h d) (fW MV)
def nC(h:bR X a fa)(d:bR X b fb):bR X (.BinOp a .Sub b ν) (aB fJ fa fb):=cE (Ms h d) (fW fO)
def xU(j:bR X a fa)(d:bR X b fb):bR X (.BinOp a .Mult b ν) (aB mulM fa fb):=cE (Ry j d) (fW (eV λ_ _ h=>Xj h))
def dW(j:bR X a fa)(d:bR X b fb):bR X (.BinOp a .Mod b ν) (aB bU fa fb):=cE (Mr j d) (fW (eV λ_ _ h=>by simpa using h))
def BM(l:bR X a fa)(d:bR X b fb):bR X (.BinOp a .FloorDiv b ν) (aB jJ fa fb):=cE (Mq l d) (fW (eV λi j h=>by simp only[cm,decide_eq_true_eq] at h;show⟨h.1,by lia⟩))
def W0(l:bR X a fa)(d:bR X b fb):bR X (.BinOp a .Pow b ν) (aB qZ fa fb):=cE (Mp l d) (fW (eV λi j h=>by simp only[cm,decide_eq_true_eq] at h;show⟨h.1.1,by lia,h.2⟩))
def Y4(h:bR X a fa)(d:bR X b fb):kC X (.BinOp a .Add b ν) (aB B6 fa fb):=cF (T_ h d) (fW MW)
def tells_eq:Tells V3 fK:=λx y d Q e q=>by
 cases x<;>first|(cases e;done)|skip
 all_goals (cases y<;>first|(cases e;done)|skip)
 all_goals (cases e;show⟨rfl,q⟩)
def DY:Tells V4 TR:=λx y d Q e q=>by
 cases x<;>first|(cases e;done)|skip
 all_goals (cases y<;>first|(cases e;done)|skip)
 all_goals (cases e;show⟨rfl,q⟩)
theorem ints_of:∀{ds:List D} {ns:Q0e},intsOf ds=aa ns->ds=ns.map D.int
 |[],ns,h=>by cases h;rfl
 |d::ds,ns,h=>by
  cases d<;>first|cases h;done|skip
  obtain⟨m,e,rfl⟩:=oB h;rw[ints_of e];rfl
def qP{neg:Bool}:Tells (inF neg) (lC neg):=λx y d Q e q=>by
 cases x<;>first|(cases e;done)|skip
 all_goals (cases y<;>first|(cases e;done)|skip)
 all_goals
  obtain⟨ns,h,rfl⟩:=oB e;have:=ints_of h;subst this;show⟨y9 ns,by rw[zA];show q⟩
def gt4(h:bR X a fa)(d:bR X b fb):bR X (.Compare a [.Gt] [b] ν) (aB jW fa fb):=cE (gt3 h d) (fW fO)
def ge4(h:bR X a fa)(d:bR X b fb):bR X (.Compare a [.GtE] [b] ν) (aB xF fa fb):=cE (ge3 h d) (fW fO)
def eq4(h:bR X a fa)(d:bR X b fb):bR X (.Compare a [.Eq] [b] ν) (aB fK fa fb):=cE (Ng h d) (fW tells_eq)
def ne4(h:bR X a fa)(d:bR X b fb):bR X (.Compare a [.NotEq] [b] ν) (aB TR fa fb):=cE (Mo h d) (fW DY)
def in4(j:bR X a fa)(h:bR X b fb)(d:behindInMarks .In b=ag<|>5):bR X (.Compare a [.In] [b] ν) (aB (lC ag) fa fb):=cE (in3 j h d) (fW qP)
def wa(j:bR X a fa)(h:bR X b fb)(d:behindInMarks .NotIn b=ag<|>5):bR X (.Compare a [.NotIn] [b] ν) (aB (lC ae) fa fb):=cE (Mn j h d) (fW qP)
def nD{f:F2}{g:D->D->Option D}(h:Tells f g)(l:∀x y d,g x y=aa d ->∃b,d=.bl b){fa fb:EF}(ρ:b7)(Q:Bool->Prop)(w:wT (tV (aB g fa fb)) ρ Q):l5 (iA f (wE fa) (wE fb)) ρ Q:=by obtain⟨b,e,q⟩:=w;obtain⟨d,j,e2⟩:=bnd e;obtain⟨x,ex,j⟩:=bnd j;obtain⟨y,m,j⟩:=bnd j;obtain⟨c,rfl⟩:=l x y d j;cases e2;show⟨x,ex,y,m,h x y _ _ j q⟩
def sC{g:Int->Int->Bool}(x y d:D)(e:E2 (λi j=>.bl (g i j)) x y=aa d):∃b,d=.bl b:=by
 cases x<;>first|(cases e;done)|skip
 all_goals (cases y<;>first|(cases e;done)|skip)
 cases e;show⟨_,rfl⟩
def Rr(x y d:D)(e:fK x y=aa d):∃b,d=.bl b:=by obtain⟨b,_,rfl⟩:=oB e;show⟨_,rfl⟩
def Tb(x y d:D)(e:TR x y=aa d):∃b,d=.bl b:=by obtain⟨b,_,rfl⟩:=oB e;show⟨_,rfl⟩
def Y5{neg:Bool}(x y d:D)(e:lC neg x y=aa d):∃b,d=.bl b:=by
 cases x<;>first|(cases e;done)|skip
 all_goals (cases y<;>first|(cases e;done)|skip)
 all_goals (obtain⟨b,_,rfl⟩:=oB e;show⟨_,rfl⟩)
def W2(h:bR X a fa)(d:bR X b fb):sA X (.Compare a [.Lt] [b] ν) (tV (aB tL fa fb)):=cT (Mm h d) (nD fO sC)
def As(h:bR X a fa)(d:bR X b fb):sA X (.Compare a [.LtE] [b] ν) (tV (aB KI fa fb)):=cT (Ml h d) (nD fO sC)
def jP(h:bR X a fa)(d:bR X b fb):sA X (.Compare a [.Gt] [b] ν) (tV (aB jW fa fb)):=cT (Mj h d) (nD fO sC)
def MX(h:bR X a fa)(d:bR X b fb):sA X (.Compare a [.GtE] [b] ν) (tV (aB xF fa fb)):=cT (Mi h d) (nD fO sC)
def fQ(h:bR X a fa)(d:bR X b fb):sA X (.Compare a [.Eq] [b] ν) (tV (aB fK fa fb)):=cT (Tx h d) (nD tells_eq Rr)
def Ic(h:bR X a fa)(d:bR X b fb):sA X (.Compare a [.NotEq] [b] ν) (tV (aB TR fa fb)):=cT (Tw h d) (nD DY Tb)
def Ar(j:bR X a fa)(h:bR X b fb)(d:behindInMarks .In b=ag<|>5):sA X (.Compare a [.In] [b] ν) (tV (aB (lC ag) fa fb)):=cT (Mh j h d) (nD qP Y5)
def DZ(j:bR X a fa)(h:bR X b fb)(d:behindInMarks .NotIn b=ag<|>5):sA X (.Compare a [.NotIn] [b] ν) (tV (aB (lC ae) fa fb)):=cT (Tv j h d) (nD qP Y5)
end
def O4(K:ar)(r:R2)(g:D->D->Option D):Prop:=∃f,O3 K r f/\Tells f g /\∀x y d,g x y=aa d ->∃b,d=.bl b
def wJ{K:ar}:O4 K (LS λi j=>.bl (Zv (i<j))) tL:=⟨_,mZ,fO,sC⟩
def RV{K:ar}:O4 K (LS λi j=>.bl (Zv (i<=j))) KI:=⟨_,mZ,fO,sC⟩
theorem JY{f g:F2}{p q:D->D->Option D}(o:Tells f p)(n:Tells g q){l j h:EF}(ρ:b7)(Q:D->Prop)(w:wE (fE p q l j h) ρ Q):BH f g (wE l) (wE j) (wE h) ρ Q:=by
 obtain⟨d,e,k⟩:=w;obtain⟨x,ex,e⟩:=bnd e;obtain⟨y,A,e⟩:=bnd e;obtain⟨z,v,e⟩:=bnd e;obtain⟨b,m,a⟩:=bnd e;show⟨x,ex,y,A,o x y z _ v ?_⟩
 clear e
 cases z<;>first|cases m;done|skip
 cases m
 cases b with
 |true =>
  rw[Z_ rfl] at a;obtain⟨u,F,e⟩:=bnd a;show⟨u,F,n y u d Q e k⟩
 |false =>
  rw[Zz b_] at a;cases a;show k
theorem Xi(ho:iC X (compareOp op) r)(d:iC X (compareOp op') r')(n:O4 X.K r p)(h2:O4 X.K r' q)(m:bR X a fa)(l:bR X b fb)(j:bR X c fc)
  (h:lastMarks [op,op'] [b,c]=ag<|>5):bR X (.Compare a [op,op'] [b,c] ν) (fE p q fa fb fc):=by
 obtain⟨f,o1,t1,_⟩:=n;obtain⟨g,o2,t2,_⟩:=h2;show cE (Xg ho d o1 o2 m l j h) (JY t1 t2)
theorem uK{a b c:au}{op j:ue}{A:bc}{r m:R2}{p q:D->D->Option D}{v o n:EF}(ho:iC X (compareOp op) r)(l:iC X (compareOp j) m)(U:O4 X.K r p)(h2:O4 X.K m q)(O:bR X a v)(L:bR X b o)(J:bR X c n)
  (F:lastMarks [op,j] [b,c]=ag<|>5):sA X (.Compare a [op,j] [b,c] A) (tV (fE p q v o n)):=by
 obtain⟨f,o1,t1,_⟩:=U;obtain⟨g,o2,t2,Y⟩:=h2;show cT (V5 ho l o1 o2 O L J F) λρ Q w=>?_;obtain⟨b,e,q⟩:=w;obtain⟨d,h,e2⟩:=bnd e;show JY t1 t2 ρ _ ⟨d,h,?_⟩;have I:∃c,d=.bl c:=by
  obtain⟨x,ex,h⟩:=bnd h;obtain⟨y,ey,h⟩:=bnd h;obtain⟨z,Z,h⟩:=bnd h;obtain⟨k,ek,h⟩:=bnd h
  cases k with
  |true =>
   rw[Z_ rfl] at h;obtain⟨u,eu,h⟩:=bnd h;show Y _ _ _ h
  |false =>
   rw[Zz b_] at h;cases h;show⟨_,rfl⟩
 obtain⟨c,rfl⟩:=I;cases e2;show q
section
variable{a b c:au}{Θ:List au}{ν:bc}{fa fb:EF}{ta tb tc:TF}
def oI(d:sA X a ta):sA X (.UnaryOp .Not a ν) (iR ta):=cT (Ts d) λρ Q j=>by obtain⟨b,e,q⟩:=j;obtain⟨c,h,rfl⟩:=oB e;show⟨c,h,q⟩
def i8(d:sA X a ta):mC X (.BoolOp .And [a] ν) ta:=Me d
def tZ(d:sA X a ta):mC X (.BoolOp .Or [a] ν) ta:=or1 d
theorem i9(j:sA X a ta)(h:mC X (.BoolOp .And (b::Θ) ν) tb):mC X (.BoolOp .And (a::b::Θ) ν) (fD ta tb):=cW (Tr j h) λρ Q m=>by
 obtain⟨d,e,q⟩:=m;obtain⟨c,l,e⟩:=bnd e;show⟨c,l,?_⟩
 cases c with
 |true=>rw[Z_ rfl] at e ⊢;show⟨d,e,q⟩
 |false=>rw[Zz b_] at e ⊢;cases e;show q
theorem nE(j:sA X a ta)(h:mC X (.BoolOp .Or (b::Θ) ν) tb):mC X (.BoolOp .Or (a::b::Θ) ν) (jS ta tb):=cW (Mc j h) λρ Q m=>by
 obtain⟨d,e,q⟩:=m;obtain⟨c,l,e⟩:=bnd e;show⟨c,l,?_⟩
 cases c with
 |true=>rw[Z_ rfl] at e ⊢;cases e;show q
 |false=>rw[Zz b_] at e ⊢;show⟨d,e,q⟩
def GZ{op}(d:bR X a fa):bR X (.BoolOp op [a] ν) fa:=L_ d
theorem BN(m:bR X a fa)(l:bR X (.BoolOp .And (b::Θ) ν) fb):bR X (.BoolOp .And (a::b::Θ) ν) (oN fa fb):=cE (Lz m l) λρ Q n=>by
 obtain⟨d,e,q⟩:=n;obtain⟨x,ex,j⟩:=bnd e;obtain⟨c,h,e⟩:=bnd j
 clear j
 show⟨x,ex,?_⟩;cases x<;>first|cases h;done|skip
 cases h
 cases c with
 |true=>rw[Z_ rfl] at e;show⟨d,e,q⟩
 |false=>rw[Zz b_] at e;cases e;show q
theorem or4(m:bR X a fa)(l:bR X (.BoolOp .Or (b::Θ) ν) fb):bR X (.BoolOp .Or (a::b::Θ) ν) (ny fa fb):=cE (or3 m l) λρ Q n=>by
 obtain⟨d,e,q⟩:=n;obtain⟨x,ex,j⟩:=bnd e;obtain⟨c,h,e⟩:=bnd j
 clear j
 show⟨x,ex,?_⟩;cases x<;>first|cases h;done|skip
 cases h
 cases c with
 |true=>rw[Z_ rfl] at e;cases e;show q
 |false=>rw[Zz b_] at e;show⟨d,e,q⟩
theorem if4(h:sA X c tc)(l:bR X a fa)(j:bR X b fb):bR X (.IfExp c a b ν) (nz tc fa fb):=cE (if3 h l j) λρ Q n=>by
 obtain⟨d,e,q⟩:=n;obtain⟨c,m,e⟩:=bnd e;show⟨c,m,?_⟩
 cases c with
 |true=>rw[Z_ rfl] at e ⊢;show⟨d,e,q⟩
 |false=>rw[Zz b_] at e ⊢;show⟨d,e,q⟩
def pG(h:bR X a fa):bR X (.UnaryOp .USub a ν) (fP fa):=cE (Lu h) λρ Q j=>by
 obtain⟨d,e,q⟩:=j;obtain⟨x,ex,e⟩:=bnd e;show⟨x,ex,?_⟩;cases x<;>first|cases e;done|skip
 cases e;show q
def t6{e:au}{f:EF}(h:bR X e f)(z:(∀whole,isTrue e X.env whole=(do let v <- whole;standAt e.pos;holding [v] (truthy v)))<|>4):sA X e (tV f) :=
 GL (QL h z) λσ H Q J=>by
  obtain⟨S,ρ,Q3,F,y,⟨b,A,n⟩,k⟩:=J;obtain⟨x,I,l⟩:=bnd A;show⟨S,ρ,λd=>d=x,F,y,⟨x,I,rfl⟩,λv q d m j q1=>?_⟩;subst q1
  cases d with
  |bl c=>cases l;symm at j;subst j;show⟨_,rfl,k _ q m n⟩
  |lst ds =>
   cases l;symm at j;obtain⟨a,xs,rfl,o,K,p⟩:=j;show⟨_,.inl ⟨xs,fU.of o,by rw[<- p.empty]⟩,k _ q m n⟩
  |tup ds =>
   cases l;symm at j;obtain⟨a,xs,rfl,o,p⟩:=j;show⟨_,.inr (.inl ⟨xs,(fI.of o),by rw[<- p.empty]⟩),k _ q m n⟩
  |_=>cases l
end
end
section
variable{X:Cx}
def aY:tY X [] aH:=cA Nn λ_ _ a=>by obtain⟨_,e,q⟩:=a;cases e;show q
def aC(j:bR X e fe)(h:tY X es t)(a:Zq X e es<|>0):tY X (e::es) (aA fe t):=cA (Tz j h a) λρ Q n=>by obtain⟨ds,e,q⟩:=n;obtain⟨d,m,e⟩:=bnd e;obtain⟨r,l,e⟩:=bnd e;cases e;show⟨d,m,r,l,q⟩
def dD{x1}(h:tY X es t):bR X (.Tuple es x1 ν) (bN t):=cE (Nk h) λρ Q j=>by obtain⟨d,e,q⟩:=j;obtain⟨ds,a,e⟩:=bnd e;show⟨ds,a,szl (x:=D.tup ds) e q⟩
def fX(h:tY X es t):kC X (.List es ν) (dB t):=cF (Ni h) λρ Q j=>by obtain⟨d,e,q⟩:=j;obtain⟨ds,a,e⟩:=bnd e;show⟨ds,a,szl (x:=D.lst ds) e q⟩
def RW:Tells ixF aO:=λx y d Q e q=>by
 cases x<;>first|(cases e;done)|skip
 all_goals (cases y<;>first|(cases e;done)|skip)
 .have e:tU _ _=aa d:=e;show(match tU _ _ with|some d=>Q d|none=>False);rw[e];show q
 .have e:tU _ _=aa d:=e;show(match tU _ _ with|some d=>Q d|none=>False);rw[e];show q
 .obtain ⟨n,a,rfl⟩:=oB e;have a:tU _ _=aa n:=a;show(match tU _ _ with|some n=>Q (.int n)|none=>False);rw[a];show q
def bX(j:bR X a fa)(h:bR X b fb)(d:A7 b<|>7):bR X (.Subscript a b ν) (aB aO fa fb):=cE (ix3 j h d) (fW RW)
def MY:Tells vn tM:=λx y d Q e q=>by
 cases x<;>first|cases e;done|skip
 rename_i ks ds;obtain⟨k,a,e⟩:=bnd e;have a:DT y=aa k:=by cases y<;>first|show a|cases a
 have e:j6 ks ds k=aa d:=e
 show(match D.jD ks ds,DT y with
  |.jD ks ds,aa k=>(match j6 ks ds k with|some d=>Q d|none=>False)
  |_,_=>False)
 rw[a];dsimp only;rw[e];show q
def v_(a:X.A.units+1<bx)(ho:bR X o fo)(hi:bR X i fi)(d:MG i<|>7):bR X (.Subscript o i ν) (aB tM fo fi):=cE (Ja a ho hi d) (fW MY)
def kD(f:F1)(g:List D->Option D):Prop:=∀(ds:List D) (d:D) (Q:D->Prop),g ds=aa d->Q d->f ds Q
def xV(h:kD f g)(ρ:b7)(Q:D->Prop)(w:wE (bH g t) ρ Q):MJ f (wA t) ρ Q:=by obtain⟨d,e,q⟩:=w;obtain⟨ds,a,e⟩:=bnd e;show⟨ds,a,h ds d Q e q⟩
theorem MZ:kD BI aP:=λds d Q e q=>by
 cases ds with
 |nil=>cases e
 |cons a ds =>
  cases a<;>first|(cases e;done)|skip
  all_goals (cases ds<;>first|(cases e;show q)|(cases e;done))
theorem D0:kD GO eP:=λds d Q e q=>by
 cases ds with
 |nil=>cases e
 |cons a ds =>
  cases a<;>first|(cases e;done)|skip
  all_goals (cases ds<;>first|(cases e;show q)|(cases e;done))
theorem G0:kD RE sL:=λds d Q e q=>by
 cases ds with
 |nil=>cases e
 |cons a ds =>
  cases a<;>first|(cases e;done)|skip
  all_goals (cases ds<;>first|(cases e;show q)|(cases e;done))
def bW(a:X.mg "len"=af)(j:tY X [e] t)(d:Gl X "len"<|>0)(h:Zq X e []<|>0):bR X (.Call (.Name "len" p) [e] [] ν) (bH aP t):=cE (Lr a j d h) (xV MZ)
def lX(a:X.mg "tuple"=af)(j:tY X [e] t)(d:Gl X "tuple"<|>0)(h:Zq X e []<|>0):bR X (.Call (.Name "tuple" p) [e] [] ν) (bH eP t):=cE (Xe a a1A j d h) (xV D0)
def Y6(a:X.mg "list"=af)(j:tY X [e] t)(d:Gl X "list"<|>0)(h:Zq X e []<|>0):kC X (.Call (.Name "list" p) [e] [] ν) (bH sL t):=cF (Tp a a1D j d h) (xV G0)
theorem zF:∀ds:List D,L3.intsOf ds=L4.intsOf ds
 |[]=>rfl
 |d::ds=>by
  cases d<;>first|rfl|skip
  show(L3.intsOf ds).map _=(L4.intsOf ds).map _;rw[zF ds]
theorem pH(a:Int):∀l:Q0e,(insI a l).Perm (a::l)
 |[]=>.refl _
 |b::l=>by
  unfold insI;split
  .exact .refl _
  .exact ((pH a l).cons b).trans (.swap a b l)
theorem nF:∀l:Q0e,(sortI l).Perm l
 |[]=>.refl _
 |a::l=>(pH a (sortI l)).trans ((nF l).cons a)
theorem qQ(a:Int):∀l:Q0e,l.Pairwise (· <= ·)->(insI a l).Pairwise (· <= ·)
 |[],_=>by simp[insI]
 |b::l,h=>by
  unfold insI;split
  .rename_i hab;show gw.mpr ⟨λc d=>?_,h⟩;rcases cb.mp d with e|e
   .subst e;show hab
   .exact Et hab ((gw.mp h).1 c e)
  .rename_i hab;show gw.mpr ⟨λc d=>?_,qQ a l (gw.mp h).2⟩;rcases cb.mp ((pH a l).mem_iff.mp d) with e|e
   .subst e;lia
   .exact (gw.mp h).1 c e
theorem kE:∀l:Q0e,(sortI l).Pairwise (· <= ·)
 |[]=>yw
 |a::l=>qQ a _ (kE l)
theorem pI:∀{l m:Q0e},l.Perm m->l.Pairwise (· <= ·)->m.Pairwise (· <= ·)->l=m
 |[],m,p,_,_=>by rw[p.nil_eq]
 |a::l,[],p,_,_=>by have:=p.length_eq;simp at this
 |a::l,b::m,p,h1,h2=>by
  have e:a=b:=by
   have m1:=p.mem_iff.mp (cq (a:=a) (l:=l));have d:=p.mem_iff.mpr (cq (a:=b) (l:=m));rcases cb.mp m1 with e|e
   .exact e
   .rcases cb.mp d with e2|e2
    .exact e2.symm
    .have:=(gw.mp h2).1 a e;have:=(gw.mp h1).1 b e2;lia
  subst e;rw[pI p.cons_inv (gw.mp h1).2 (gw.mp h2).2]
def BO:kD RN iN:=λds d Q e q=>by
 unfold iN at e;split at e
 .rename_i a;obtain⟨ns,l,e⟩:=bnd e;by_cases j:ns.length<64
  .rw [Z_ j] at e;cases e;show(match L3.intsOf a with|some ns=>ns.length<64 /\∀h:Q0e,h.Perm ns->h.Pairwise (· <= ·)->Q (.lst (h.map D.int))|none=>False);rw[zF,l];show⟨j,λh p s=>?_⟩;rw[pI (p.trans (nF ns).symm) s (kE ns)];show q
  .rw [Zz j] at e;cases e
 .cases e
def JZ(a:X.mg "sorted"=af)(j:tY X [e] t)(d:Gl X "sorted"<|>0)(h:Zq X e []<|>0):kC X (.Call (.Name "sorted" p) [e] [] ν) (bH iN t):=cF (WQ a j d h) (xV BO)
def M0:kD sumF B5:=λds d Q e q=>by
 unfold B5 at e;split at e
 .rename_i a;obtain⟨ns,h,rfl⟩:=oB e;have:=ints_of h;subst this;rw[MT];show q
 .cases e
def Aq(j:X.calm=ae)(a:X.mg "sum"=af)(l:tY X [e] t)(d:Gl X "sum"<|>0)(h:Zq X e []<|>0):bR X (.Call (.Name "sum" p) [e] [] ν) (bH B5 t):=cE (Ip j a l d h) (xV M0)
def Xh(T:String)(d:D):ZM T d=isT T d:=by cases d<;>rfl
theorem Hq(I:YY T)(z:X.mg "isinstance"=af)(l:X.mg x=af)(o:bootBuiltins x=aa (.type T))(F:bR X e f)(A:Gl X "isinstance"<|>0)(m:Gl X x<|>0)(y:x ≠ "__name__"<|>1)(n:Zu x<|>1)
  (v:(av [e,.Name x p2] X.env=(ag,eval e X.env)::av [.Name x p2] X.env)<|>0) (h:(av [.Name x p2] X.env=(ag,eval (.Name x p2) X.env)::av [] X.env)<|>0) (j:(dj ν (av [.Name x p2] X.env)).any (·.1)=ag<|>0):
  bR X (.Call (.Name "isinstance" p) [e,.Name x p2] [] ν) (N3 T f):=cE (Jn I z l o F A m y n v h j) λρ Q J=>by
 obtain⟨d,e,q⟩:=J;obtain⟨x,ex,e⟩:=bnd e;by_cases a:ZN x=ae
 .rw [Z_ a] at e;cases e;show⟨x,ex,(by cases x<;>first|trivial|cases a),by show Q (.bl (isT T x));rw[<- Xh];show q⟩
 .rw [Zz a] at e;cases e
def Y7(K:ar)(R:jV):Sp:=sp3 K λds Q=>∃d,R ds=.ok d/\Q d
inductive Cl (P:bg) (w:ba) (K:ar) (mg:Q0d) (ω:bb) (CX:GA) (k:Nat) (x:ak) (ps:Q0g) (sp:Sp):Prop
 |mk {f:ah} {fd:h_} (F:mS P w K mg ω CX k f fd ps sp) (m:mg x=aa (.ref f)) (kp:keepIn K (.ref f)=ae) (b:Binds K fd ps []):Cl P w K mg ω CX k x ps sp
theorem Cl.up{P:bg}{w:ba}{K:ar}{mg:Q0d}{ω:bb}{CX:GA}{j k:Nat}{x:ak}{a:Q0g}{sp:Sp}(c:Cl P w K mg ω CX j x a sp)(h:j<=k<|>1):Cl P w K mg ω CX k x a sp:=by obtain⟨F,m,q,b⟩:=c;show⟨F.mono h,m,q,b⟩
inductive Df (K:ar) (mg:Q0d) (x:ak) (st:c_) (ps:Q0g):Prop
 |mk {f:ah} {fd:h_} (a:Cs K jb x=aa (aa (.ref f))) (F:YR K x x st f fd) (m:mg x=aa (.ref f)) (b:Binds K fd ps []):Df K mg x st ps
theorem aE4{K:ar}{mg:Q0d}{h:bb}{x:ak}{st:c_}{m:Q0g}{f:ah}{v:ai}{q p:Option ah}{n:Array (Option ai)}{kV doc o d ct:ai}(X:K.In h)(G:h.Ns jb mg)
  (b:∀j:Q0f,j.length=m.length->bindArgs (fnOf x x (qL st) (fN st) (bJ st) .none kV doc o p d ct) ⟨j,[]⟩=pure (m.zip j)) (a:Cs K jb x=aa (aa (.ref f)))
  (l:K.lookup f=aa ⟨v,q,.func (fnOf x x (qL st) (fN st) (bJ st) .none kV doc o p d ct),n⟩) (c:codeIn K d x=ae) (k:keepIn K (.ref f)=ae):Df K mg x st m:=⟨a,Xp l c k,PySem.W.mg_of X G a,.all b⟩
def u1(r:gA k A):A.units+1<bx:=by have:=r.units;lia
def u2(r:gA k A):A.units+2<bx:=by have:=r.units;lia
def u9(r:gA k A):A.units+9<bx:=by have:=r.units;lia
theorem bM(C:Cl X.Ω X.w X.K X.mg X.ω DG k x ps (Y7 X.K R))(l:gA k X.A)
  (z:tY X (e::es) t) (o:Gl X x<|>0) (j:Zu x<|>1) (v:Zq X e es<|>0) (a:Q0m X ν es<|>0):
  bR X (.Call (.Name x p) (e::es) [] ν) (aM R t):=by
 obtain⟨F,m,n,y⟩:=C;show cE (To F l m n y z o j v a) λρ Q J=>?_;obtain⟨d,e,q⟩:=J;obtain⟨ds,I,e⟩:=bnd e;show⟨ds,I,d,?_,q⟩
 cases h:R ds with
 |ok d'=>rw[h] at e;cases e;rfl
 |no=>rw[h] at e;cases e
 |ex c=>rw[h] at e;cases e
def G2(y:X.calm=ae)(o:X.mg "list"=af)(l:X.mg "range"=af)(z:tY X [a] t)(v:Gl X "list"<|>0)(m:Gl X "range"<|>0)(n:av [a] X.env=[(ag,eval a X.env)]<|>0)
  (x:(av [.Call (.Name "range" p2) [a] [] pos2] X.env=(ag,eval (.Call (.Name "range" p2) [a] [] pos2) X.env)::av [] X.env)<|>0):
  kC X (.Call (.Name "list" p) [.Call (.Name "range" p2) [a] [] pos2] [] ν) (E4 t):=cF (GS y o l z v m n x) λρ Q F=>by
 obtain⟨d,e,q⟩:=F;obtain⟨ds,A,e⟩:=bnd e;show⟨ds,A,?_⟩;split at e
 .rename_i j;by_cases h:j.natAbs<=16777216
  .rw [Z_ h] at e;cases e;show⟨⟨by lia,by lia⟩,q⟩
  .rw [Zz h] at e;cases e
 .cases e
section
variable{tg:au}
def l6(h:bR X l f):MU X tg l (eE f):=cI (Sw h) λρ Q j=>by
 obtain⟨ds,e,q⟩:=j;obtain⟨d,a,e⟩:=bnd e;show⟨d,a,?_⟩;cases d<;>first|cases e;done|skip
 all_goals (cases e;show q)
def G3(h:aA fa aH ρ=aa as):∃a,fa ρ=aa a/\as=[a]:=by obtain⟨a,d,e⟩:=bnd h;cases e;show⟨a,d,rfl⟩
def Wq(h:aA fa (aA fb aH) ρ=aa as):∃a b,fa ρ=aa a/\fb ρ=aa b/\as=[a,b]:=by obtain⟨a,l,e⟩:=bnd h;obtain⟨r,d,e⟩:=bnd e;obtain⟨b,j,rfl⟩:=G3 d;cases e;show⟨a,b,l,j,rfl⟩
def c8(n:X.mg "range"=af)(v:bR X a fa)(o:Gl X "range"<|>0)(m:av [a] X.env=[(ag,eval a X.env)]<|>0):MU X tg (.Call (.Name "range" p) [a] [] ν) (bC (aA fa aH)):=cI (Wy n (aC v aY m) o m) λρ Q y=>by
 obtain⟨ds,e,q⟩:=y;obtain⟨x,l,e⟩:=bnd e;show⟨x,l,?_⟩;obtain⟨a,d,rfl⟩:=G3 l
 clear l d
 cases a<;>first|cases e;done|skip
 rename_i j;by_cases h:j.natAbs<4611686018427387904
 .have e:(if j.natAbs<4611686018427387904 then aa ((aS 0 j.toNat).map D.int) else af)=aa ds:=e;rw[Z_ h] at e;cases e;show⟨⟨by lia,by lia⟩,q⟩
 .have e:(if j.natAbs<4611686018427387904 then aa ((aS 0 j.toNat).map D.int) else af)=aa ds:=e;rw[Zz h] at e;cases e
def J0(v:X.mg "range"=af)(z:bR X a fa)(y:bR X b fb)(x:Gl X "range"<|>0)(o:av [a,b] X.env=[(ag,eval a X.env),(ag,eval b X.env)]<|>0)(d:av [b] X.env=[(ag,eval b X.env)]<|>0):
  MU X tg (.Call (.Name "range" p) [a,b] [] ν) (bC (aA fa (aA fb aH))):=cI (WD v (aC z (aC y aY d) (o.trans (by rw[d]))) x o d) λρ Q F=>by
 obtain⟨ds,e,q⟩:=F;obtain⟨A,n,e⟩:=bnd e;show⟨A,n,?_⟩;obtain⟨a,b,m,l,rfl⟩:=Wq n
 clear n m l
 cases a<;>first|(cases e;done)|skip
 all_goals (cases b<;>first|(cases e;done)|skip)
 rename_i i j;by_cases h:i.natAbs<4611686018427387904/\j.natAbs<4611686018427387904
 .have e:(if i.natAbs<4611686018427387904/\j.natAbs<4611686018427387904 then aa ((aS i (j-i).toNat).map D.int) else af)=aa ds:=e;rw[Z_ h] at e;cases e;show⟨⟨by lia,by lia,by lia,by lia⟩,q⟩
 .have e:(if i.natAbs<4611686018427387904/\j.natAbs<4611686018427387904 then aa ((aS i (j-i).toNat).map D.int) else af)=aa ds:=e;rw[Zz h] at e;cases e
end
def pJ(h:X.mg "enumerate"=af)(l:tY X [a] t)(j:Gl X "enumerate"<|>0)(d:av [a] X.env=[(ag,eval a X.env)]<|>0):MU X (.Tuple es kk tp) (.Call (.Name "enumerate" p) [a] [] ν) (sM t):=cI (GX h l j d) λρ Q o=>by obtain⟨ds,e,q⟩:=o;obtain⟨n,m,e⟩:=bnd e;show⟨n,m,?_⟩;unfold HP at e;split at e<;>first|(cases e;show q)|cases e
theorem wK:∀(ds a ys:List D) (Q:D->Prop),jK g t e ρ ds=aa ys->a.length+ds.length<=bf->Q (.lst (a++ys))->qN (uz g) (wT t) (wE e) ρ ds a Q
 |[],a,ys,Q,h,_,q=>by cases h;rw[qN];simpa using q
 |d::ds,a,ys,Q,h,hl,q=>by
  rw[qN];obtain⟨j,m,h⟩:=bnd h;obtain⟨b,e2,h⟩:=bnd h;simp only[cf] at hl;show⟨j,m,b,e2,?_⟩
  cases b with
  |true =>
   rw[Z_ rfl] at h ⊢;obtain⟨y,e3,h⟩:=bnd h;obtain⟨l,e4,rfl⟩:=oB h;show⟨y,e3,by lia,wK ds (a++[y]) l Q e4 (by simp;lia) (by simpa using q)⟩
  |false =>
   rw[Zz b_] at h ⊢;show wK ds a ys Q h ∅ q
def BP(ρ:b7)(Q:D->Prop)(w:wE (cB nl fr it g t e) ρ Q):zC nl fr (wI it) (uz g) (wT t) (wE e) ρ Q:=by
 obtain⟨d,h,q⟩:=w;obtain⟨ds,j,h⟩:=bnd h;show⟨ds,j,?_⟩;by_cases a:ds.length<=tK
 .rw [Z_ a] at h;obtain⟨ys,e2,rfl⟩:=oB h;show wK ds [] ys Q e2 (by rw[ie,cy,Dy];show a) (by simpa using q)
 .rw [Zz a] at h;cases h
abbrev G4(X:Cx)(nl:Nat)(a:au)(g:TU):Prop:=WL X nl a (uz g)
abbrev M1(X:Cx)(ifs:List au)(t:TF):Prop:=GR X ifs (wT t)
def cG(h:WL X nl tg g)(c:∀d ρ Q,g' d ρ Q->g d ρ Q):WL X nl tg g':=GP h λ_ _ _ _ n=>by obtain⟨S,ρ,d,Q3,j,m,a,dn,l,k⟩:=n;show⟨S,ρ,d,Q3,j,m,a,dn,c d ρ Q3 l,k⟩
def nG(nd:X.N.Nodup)(a:i<nl)(hi:X.N[i]?=aa x<|>0)(l:Loc X.env.scope x<|>2)(h:Zp X x<|>6):G4 X nl (.Name x ν) (g1 i):=cG (Sq nd a hi l h) λd ρ Q m=>by obtain⟨j,e,q⟩:=m;cases e;show q
theorem J1(h:HQ d=aa p):d=.tup [p.1,p.2]:=by
 cases d<;>first|(cases h;done)|skip
 rename_i l
 cases l with
 |nil=>cases h
 |cons a l =>
  cases l with
  |nil=>cases h
  |cons b l =>
   cases l with
   |nil=>cases h;rfl
   |cons c l=>cases h
def Wo(K:X.calm=ae)(nd:X.N.Nodup)(n:i<nl)(m:j<nl)(hi:X.N[i]?=aa x<|>0)(J:X.N[j]?=aa y<|>0)(F:Loc X.env.scope x<|>2)(v:Zp X x<|>6)(A:Loc X.env.scope y<|>2)(o:Zp X y<|>6)
  (I:Q0k X x y px py<|>0) (a:Q0j X x y px py<|>0)
  (l:Q0h X x y px py<|>0) (h:Q0i X y py<|>0):
  G4 X nl (.Tuple [.Name x px,.Name y py] kk ν) (g2 i j):=cG (So K nd n m hi J F v A o I a l h) λd ρ Q O=>by
 obtain⟨z,e,q⟩:=O;obtain⟨p,L,rfl⟩:=oB e;rw[J1 L];show q
def J3:M1 X [] eO:=λπ s σ H Q I h=>by obtain⟨S,ρ,Q3,d,a,⟨_,e,q⟩,k⟩:=h;cases e;show Ju π s σ H Q I ⟨S,ρ,Q3,d,a,q,k⟩
def wL(h:sA X c t):M1 X [c] t:=Sk h
section
variable{ls fs:Q0g}{fr:List Nat}{sc:gj}{tg iter elt:au}{ifs:List au}{ν:bc}{it:AF}{g:TU}{t:TF}{e:EF}
theorem RX(m:X.calm=ae)(hi:MU X tg iter it)
  (h:∀a C pn ex s H,(blk X (ls++fs) sc a C pn ex s H).N.Nodup->G4 (blk X (ls++fs) sc a C pn ex s H) ls.length tg g) (j:∀a C pn ex s H,M1 (blk X (ls++fs) sc a C pn ex s H) ifs t) (l:∀a C pn ex s H,bR (blk X (ls++fs) sc a C pn ex s H) elt e)
  (B:MM X.env.scope.names sc X.N ls fs fr=ae<|>0) (d:Zn X iter<|>4):kC X (.ListComp elt [⟨tg,iter,ifs,0⟩] sc ν) (cB ls.length fr it g t e):=cF (Sj m hi h j l B d) BP
variable{i:Nat}{x:ak}{spos pos':bc}
theorem EA(nd:X.N.Nodup)(v:X.calm=ae)(hi:MU X tg iter it)
  (o:∀a C pn ex s H,(blk X (ls++fs) sc a C pn ex s H).N.Nodup->G4 (blk X (ls++fs) sc a C pn ex s H) ls.length tg g) (p:∀a C pn ex s H,M1 (blk X (ls++fs) sc a C pn ex s H) ifs t) (q:∀a C pn ex s H,bR (blk X (ls++fs) sc a C pn ex s H) elt e)
  (j:X.N[i]?=aa x<|>0) (m:X.env.scope.names.lookup x=aa .local<|>0) (l:gV X elt tg iter ifs sc ν x pos' spos<|>0)
  (B:MM X.env.scope.names sc X.N ls fs fr=ae<|>0) (n:Zn X iter<|>4):oH X (.Assign [.Name x pos'] (.ListComp elt [⟨tg,iter,ifs,0⟩] sc ν) spos) (i0 i (cB ls.length fr it g t e)) :=
 cS (RL nd v hi o p q j m l B n) λE ρ w=>by
  unfold wS i0 at w;unfold vw
  cases h:cB ls.length fr it g t e (gO ρ) with
  |none=>rw[h] at w;show w.elim
  |some d=>rw[h] at w;show BP _ _ ⟨d,h,w⟩
theorem sD(nd:X.N.Nodup)(v:X.calm=ae)(hi:MU X tg iter it)
  (o:∀a C pn ex s H,(blk X (ls++fs) sc a C pn ex s H).N.Nodup->G4 (blk X (ls++fs) sc a C pn ex s H) ls.length tg g) (p:∀a C pn ex s H,M1 (blk X (ls++fs) sc a C pn ex s H) ifs t) (q:∀a C pn ex s H,bR (blk X (ls++fs) sc a C pn ex s H) elt e)
  (j:X.N[i]?=aa x<|>0) (m:X.env.scope.names.lookup x=aa .local<|>0) (l:gV X elt tg iter ifs sc ν x pos' spos<|>0)
  (B:MM X.env.scope.names sc X.N ls fs fr=ae<|>0) (n:Zn X iter<|>4):oH X (.Assign [.Name x pos'] (.ListComp elt [⟨tg,iter,ifs,0⟩] sc ν) spos) (bA i (cB ls.length fr it g t e)) :=
 cS (MN nd v hi o p q j m l B n) λE ρ w=>by
  unfold wS bA at w;unfold vx
  cases h:cB ls.length fr it g t e (gO ρ) with
  |none=>rw[h] at w;show w.elim
  |some d=>rw[h] at w;show BP _ _ ⟨d,h,w⟩
end
end
section
variable{X:Cx}
def cO(h:PO3 X e t)(c:∀ρ Q,t' ρ Q->t ρ Q):PO3 X e t':=λπ s σ H Q I l=>by obtain⟨S,ρ,Q3,j,a,d,k⟩:=l;show h π s σ H Q I ⟨S,ρ,Q3,j,a,c ρ Q3 d,k⟩
def J4:PO4 X af xB:=cO Io λ_ _ a=>by obtain⟨_,e,q⟩:=a;cases e;show q
def EY(h:bR X e f):PO4 X (aa e) (oE f):=cO (po3 h) λρ Q l=>by
 obtain⟨o,e,q⟩:=l;obtain⟨d,j,e⟩:=bnd e;obtain⟨i,a,rfl⟩:=oB e;show⟨d,j,?_⟩;cases d<;>first|cases a;done|skip
 cases a;show q
def J5{e:au}{lo hi:Option au}{m j:bc}{f:EF}{fl a:OF}(p:bR X e f)(n:PO4 X lo fl)(o:PO4 X hi a):bR X (.Subscript e (.Slice lo hi af m) j) (t7 f fl a):=cE (sl3 p n o) λρ Q z=>by
 obtain⟨r,e,q⟩:=z;obtain⟨d,y,e⟩:=bnd e;obtain⟨l,v,e⟩:=bnd e;obtain⟨h,x,e⟩:=bnd e;show⟨d,y,l,v,h,x,?_⟩;cases d<;>first|cases e;done|skip
 all_goals (cases e;show q)
def px4(h:bR X e f):GY X e (fB f):=cX (px3 h) λρ Q j=>by
 obtain⟨p,e,q⟩:=j;obtain⟨d,a,e⟩:=bnd e;show⟨d,a,?_⟩;by_cases hi:d.qW=ae
 .rw [Z_ hi] at e;cases e;show⟨hi,q⟩
 .rw [Zz hi] at e;cases e
def iY(h:bR X e f):GY X e (aT f):=cX (Kr h) λρ Q j=>by obtain⟨p,e,q⟩:=j;obtain⟨d,a,e⟩:=bnd e;cases e;show⟨d,a,q⟩
def BQ(h:kJ o=aa ds):o=aa (.ow (.lst ds)):=by
 unfold kJ at h;split at h
 .cases h;rfl
 .cases h
def BR(f:List D->D->(List D->D->Prop)->Prop)(m:List D->D->Option (List D×D)):Prop:=∀ds d q (Q:List D->D->Prop),m ds d=aa q->Q q.1 q.2->f ds d Q
def vm(h:BR f m)(ρ:bK)(Q:bK->D->Prop)(w:wX (kK i m x) ρ Q):nk i f (wX x) ρ Q:=by obtain⟨r,e,q⟩:=w;obtain⟨v,o,e⟩:=bnd e;obtain⟨p,l,e⟩:=bnd e;obtain⟨ds,n,e⟩:=bnd e;obtain⟨z,j,rfl⟩:=oB e;have d:=BQ o;have o1:=BQ n;show⟨by rw[d];trivial,p,l,?_⟩;show(match p.1[i]? with|some (.ow (.lst ds))=>f ds p.2 λa r=>Q (p.1.set i (.ow (.lst a))) r|_=>False);rw[o1];show h ds p.2 z _ j q
def M4:BR vv fF:=λds d q Q e k=>by
 unfold fF at e;by_cases h:ds.length<tK
 .rw [Z_ h] at e;cases e;show⟨by rw[ie];show h,k⟩
 .rw [Zz h] at e;cases e
def M5:BR vt TV:=λds d q Q e k=>by
 cases d<;>first|cases e;done|skip
 rename_i i;have e:(if i.natAbs<9223372036854775808 then(E3 ds.length i).bind λj=>(ds[j]?).map λd=>(ds.eraseIdx j,d) else af)=aa q:=e;by_cases h:i.natAbs<9223372036854775808
 .rw [Z_ h] at e;obtain⟨j,a,e⟩:=bnd e;obtain⟨d,l,rfl⟩:=oB e;have a:LY ds.length i=aa j:=a;show⟨⟨by lia,by lia⟩,?_⟩;show(match LY ds.length i with|some j=>(match ds[j]? with|some d=>Q (ds.eraseIdx j) d|none=>False)|none=>False);rw[a];dsimp only;rw[l];show k
 .rw [Zz h] at e;cases e
def M6:BR wb N4:=λds d q Q e k=>by
 cases d<;>first|cases e;done|skip
 rename_i es;have e:(if ds.length+es.length<=tK then aa (ds++es,D.non) else af)=aa q:=e;by_cases h:ds.length+es.length<=tK
 .rw [Z_ h] at e;cases e;show⟨by rw[ie];show h,k⟩
 .rw [Zz h] at e;cases e
section
variable{i:Nat}{x:ak}{e:au}{p apos cpos:bc}{f:XF}
def sE(n:GY X e f)(hN:X.N[i]?=aa x<|>0)(l:xD X.env.scope x<|>3)(o:Zu x<|>1)(j:Zt x<|>1)
  (d:attributeBase (.Name x p) "append" X.env (eval (.Name x p) X.env)=eval (.Name x p) X.env<|>0)
  (h:Zo X cpos e<|>0)
  (a:Q0l apos cpos<|>0) (m:Zq X e []<|>0):
  GY X (.Call (.Attribute (.Name x p) "append" apos) [e] [] cpos) (kK i fF f):=cX (Kn n hN l o j d h a m) (vm M4)
def Hc(n:GY X e f)(hN:X.N[i]?=aa x<|>0)(l:xD X.env.scope x<|>3)(o:Zu x<|>1)(j:Zt x<|>1)
  (d:attributeBase (.Name x p) "pop" X.env (eval (.Name x p) X.env)=eval (.Name x p) X.env<|>0)
  (h:Zo X cpos e<|>0)
  (a:Q0l apos cpos<|>0) (m:Zq X e []<|>0):
  GY X (.Call (.Attribute (.Name x p) "pop" apos) [e] [] cpos) (kK i TV f):=cX (Km n hN l o j d h a m) (vm M5)
def W3(n:GY X e f)(hN:X.N[i]?=aa x<|>0)(l:xD X.env.scope x<|>3)(o:Zu x<|>1)(j:Zt x<|>1)
  (d:attributeBase (.Name x p) "extend" X.env (eval (.Name x p) X.env)=eval (.Name x p) X.env<|>0)
  (h:Zo X cpos e<|>0)
  (a:Q0l apos cpos<|>0) (m:Zq X e []<|>0):
  GY X (.Call (.Attribute (.Name x p) "extend" apos) [e] [] cpos) (kK i N4 f):=cX (WR n hN l o j d h a m) (vm M6)
def Rq(hN:X.N[i]?=aa x<|>0)(l:xD X.env.scope x<|>3)(m:Zu x<|>1)(j:Zt x<|>1)
  (h:attributeBase (.Name x p) "pop" X.env (eval (.Name x p) X.env)=eval (.Name x p) X.env<|>0) (a:Q0l apos cpos<|>0):
  GY X (.Call (.Attribute (.Name x p) "pop" apos) [] [] cpos) (B8 i):=cX (Sa hN l m j h a) λρ Q y=>by
 obtain⟨r,e,q⟩:=y;obtain⟨ds,n,e⟩:=bnd e;obtain⟨d,v,rfl⟩:=oB e;have o:=BQ n;show(match ρ[i]? with|some (.ow (.lst ds))=>(match ds[ds.length-1]? with|some d=>Q (ρ.set i (.ow (.lst ds.dropLast))) d|none=>False)|_=>False);rw[o];dsimp only;rw[v];show q
end
def eM:qO X [] cH:=Ab Lp λ_ _ w=>w
theorem Ro(E:DE)(ρ:bK)(w:wS (aJ f g) E ρ):vy (wS f) (wS g) E ρ:=by
 unfold wS aJ at w;unfold vy wS
 cases h:f ρ with
 |nx ρ'=>rw[h] at w;show w
 |rt d=>rw[h] at w;show w
 |no=>rw[h] at w;show w
 |ex c=>rw[h] at w;show w
def aQ{st:c_}{a:List c_}{f g:SF}(d:oH X st f)(h2:qO X a g):qO X (st::a) (aJ f g):=Ab (Lf d h2) Ro
def aK{st:c_}{f:SF}(a:oH X st f):qO X [st] f:=Tj a
theorem c9(h:bR X e f):oH X (.Return (aa e) ν) (bY f):=cS (Lc h) λE ρ w=>by
 unfold wS bY at w
 cases h:f (bB ρ) with
 |none=>rw[h] at w;show w.elim
 |some d=>rw[h] at w;show⟨d,h,w⟩
theorem cQ(d:sA X c t)(l:qO X a f)(j:qO X b g):oH X (.If c a b ν) (dS t f g):=cS (K_ d l j) λE ρ w=>by
 unfold wS dS at w
 cases h:t (bB ρ) with
 |none=>rw[h] at w;show w.elim
 |some c =>
  rw[h] at w;show⟨c,h,?_⟩
  cases c with
  |true=>rw[Z_ rfl];show w
  |false=>rw[Zz b_];show w
section
variable{i:Nat}{x:ak}{e:au}{f:EF}{ν pos':bc}
theorem b9(hN:X.N.Nodup)(m:bR X e f)(hi:X.N[i]?=aa x<|>0)(a:Loc X.env.scope x<|>2)(j:Rv X e x pos' ν<|>0)(l:Zp X x<|>2):
  oH X (.Assign [.Name x pos'] e ν) (bA i f):=cS (Ky hN m hi a j l) λE ρ w=>by
 unfold wS bA at w
 cases h:f (gO ρ) with
 |none=>rw[h] at w;show w.elim
 |some d=>rw[h] at w;show⟨d,h,w⟩
theorem wM(hN:X.N.Nodup)(m:kC X e f)(hi:X.N[i]?=aa x<|>0)(a:Loc X.env.scope x<|>2)(j:Rv X e x pos' ν<|>0)(l:Zp X x<|>2):
  oH X (.Assign [.Name x pos'] e ν) (i0 i f):=cS (Kw hN m hi a j l) λE ρ w=>by
 unfold wS i0 at w
 cases h:f (gO ρ) with
 |none=>rw[h] at w;show w.elim
 |some d=>rw[h] at w;show⟨d,h,w⟩
theorem Rn(hN:X.N.Nodup)(n:kC X e f)(hi:X.N[i]?=aa x<|>0)(j:Loc X.env.scope x<|>2)(l:Rv X e x pos' ν<|>0)(m:Zp X x<|>2):
  oH X (.Assign [.Name x pos'] e ν) (B9 i f):=cS (Th hN n hi j l m) λE ρ w=>by
 unfold wS B9 at w
 cases h:f (bB ρ) with
 |none=>rw[h] at w;show w.elim
 |some d =>
  rw[h] at w;dsimp only at w;by_cases a:mF d=ae
  .rw [Z_ a] at w;show⟨d,h,?_,w⟩;cases d<;>first|show a|cases a
  .rw [Zz a] at w;show w.elim
theorem Y8(hN:X.N.Nodup)(n:kC X e f)(hi:X.N[i]?=aa x<|>0)(j:Loc X.env.scope x<|>2)(l:Rv X e x pos' ν<|>0)(m:Zp X x<|>2):
  oH X (.Assign [.Name x pos'] e ν) (kL i f):=cS (Sb hN n hi j l m) λE ρ w=>by
 unfold wS kL at w
 cases h:f (bB ρ) with
 |none=>rw[h] at w;show w.elim
 |some d =>
  rw[h] at w;dsimp only at w;by_cases a:mF d=ae
  .rw [Z_ a] at w;show⟨d,h,?_,w⟩;cases d<;>first|show a|cases a
  .rw [Zz a] at w;show w.elim
theorem Rm{f:XF}(hN:X.N.Nodup)(m:GY X e f)(hi:X.N[i]?=aa x<|>0)(a:Loc X.env.scope x<|>2)(j:Rv X e x pos' ν<|>0)(l:Zp X x<|>2):
  oH X (.Assign [.Name x pos'] e ν) (uO i f):=cS (Te hN m hi a j l) λE ρ w=>by
 unfold wS uO at w
 cases h:f ρ with
 |none=>rw[h] at w;show w.elim
 |some d=>rw[h] at w;show⟨d,h,w⟩
def RY(hN:X.N.Nodup)(hi:X.N[i]?=aa x<|>0)(a:Loc X.env.scope x<|>2)(d:df (.Dict [] [] p) (aa (.Name x pos')) ν.line X.env=pure ag<|>0)(h:Zp X x<|>2):
  oH X (.Assign [.Name x pos'] (.Dict [] [] p) ν) (N5 i):=cS (RP hN hi a d h) λE ρ w=>w
end
theorem jQ(j:GY X e f)(a:df e af ν.line X.env=pure ag<|>0):oH X (.Expr e ν) (sX f):=cS (Tc j a) λE ρ w=>by
 unfold wS sX at w
 cases h:f ρ with
 |none=>rw[h] at w;show w.elim
 |some d=>rw[h] at w;show⟨d,h,w⟩
theorem G5(z:GY X e f)(y:bR X k fk)
  (hN:X.N[i]?=aa x<|>0) (m:xD X.env.scope x<|>3) (A:Zu x<|>1) (d:Zt x<|>1)
  (F:∀v,assign (.Subscript (.Name x p) k pos') X.env v=(do
   let ov <- holding [v] (eval (.Name x p) X.env)
   let iv <- holding [v,ov] (eval k X.env)
   standAt pos'
   holding [v,ov,iv] (setItem ov iv v)
   release [v,ov,iv] []):=by intro _;rfl)
  (n:swapsWithSole [.Subscript (.Name x p) k pos'] e ν.line X.env=pure ag<|>0) (hw:swappedStores [.Subscript (.Name x p) k pos'] e X.env=pure af<|>0)
  (I:(cp [.Subscript (.Name x p) k pos'] X.env).map (·.2)=[assign (.Subscript (.Name x p) k pos') X.env]<|>0):
  oH X (.Assign [.Subscript (.Name x p) k pos'] e ν) (rB i f fk):=cS (put3 z y hN m A d F n hw I) λE ρ w=>by
 unfold wS rB at w
 cases h:((f ρ).bind λp=>(kJ p.1[i]?).bind λds=>(fk (bB p.1)).bind λkd=>(asInt kd).bind λa=>(E3 ds.length a).map λj=>p.1.set i (.ow (.lst (ds.set j p.2)))) with
 |none=>rw[h] at w;show w.elim
 |some ρ' =>
  rw[h] at w;obtain⟨q,J,h⟩:=bnd h;obtain⟨ds,L,h⟩:=bnd h;obtain⟨kd,K,h⟩:=bnd h;obtain⟨a,e2,h⟩:=bnd h;obtain⟨j,l,rfl⟩:=oB h;have o:=BQ L;show⟨q,J,by unfold vp;rw[o];trivial,kd,K,?_⟩;cases kd<;>first|cases e2;done|skip
  cases e2;have l:LY ds.length a=aa j:=l
  show(match q.1[i]?,D.int a with
   |some (.ow (.lst ds)),.int k=>(match LY ds.length k with|some j=>E.nx (q.1.set i (.ow (.lst (ds.set j q.2))))|none=>False)
   |_,_=>False)
  rw[o];dsimp only;rw[l];show w
def M7(h:uP o=aa p):o=aa (.ow (.jD p.1 p.2)):=by
 unfold uP at h;split at h
 .cases h;rfl
 .cases h
theorem Rl(v:X.A.units+1<bx)(F:GY X e f)(z:bR X k fk)
  (hN:X.N[i]?=aa x<|>0) (n:xD X.env.scope x<|>3) (I:Zu x<|>1) (m:Zt x<|>1)
  (y:df e (aa (.Subscript (.Name x p) k pos')) ν.line X.env=pure ag<|>0):
  oH X (.Assign [.Subscript (.Name x p) k pos'] e ν) (HR i f fk):=cS (Se v F z hN n I m y) λE ρ w=>by
 unfold wS HR at w;cases h:((f ρ).bind λp=>(uP p.1[i]?).bind λkd=>(fk (bB p.1)).bind λa=>(uL a).bind λj =>
  if(jX kd.1 kd.2 j).isNone=ae/\kd.2.length<tK then aa (p.1.set i (.ow (.jD (kd.1++[j]) (kd.2++[p.2])))) else af) with
 |none=>rw[h] at w;show w.elim
 |some ρ' =>
  rw[h] at w;obtain⟨q,J,h⟩:=bnd h;obtain⟨kd,L,h⟩:=bnd h;obtain⟨a,K,h⟩:=bnd h;obtain⟨j,e2,h⟩:=bnd h;have o:=M7 L;by_cases l:(jX kd.1 kd.2 j).isNone=ae/\kd.2.length<tK
  .rw [Z_ l] at h;cases h;show⟨q,J,by rw[o];trivial,a,K,?_⟩;have e3:DT a=aa j:=by cases a<;>first|show e2|cases e2
   show(match q.1[i]?,DT a with
    |some (.ow (.jD ks ds)),aa k=>(j6 ks ds k=af/\ds.length<bf)/\E.nx (q.1.set i (.ow (.jD (ks++[k]) (ds++[q.2]))))
    |_,_=>False)
   rw[o,e3];show⟨⟨?_,by rw[ie];show l.2⟩,w⟩;have:=l.1
   cases hl:jX kd.1 kd.2 j with
   |none=>show hl
   |some d=>rw[hl] at this;cases this
  .rw [Zz l] at h;cases h
def Ac(h:TN X tg g)(c:∀d ρ Q,g' d ρ Q->g d ρ Q):TN X tg g':=GP h λ_ _ _ _ l=>by obtain⟨H₀,S,w,ρ,G,d,Q3,a,st,dn,j,k⟩:=l;show⟨H₀,S,w,ρ,G,d,Q3,a,st,dn,c d ρ Q3 j,k⟩
def iZ(hN:X.N.Nodup)(hi:X.N[i]?=aa x<|>0)(h:Loc X.env.scope x<|>2)(j:Zp X x<|>2):TN X (.Name x ν) (wG (lA i)) :=
 Ac (Ss hN hi h j) λd ρ Q l=>by obtain⟨a,e,q⟩:=l;cases e;show q
def qR(I:X.calm=ae)(hN:X.N.Nodup)(hi:X.N[i]?=aa x<|>0)(A:X.N[j]?=aa y<|>0)(v:Loc X.env.scope x<|>2)(o:Loc X.env.scope y<|>2)
  (F:Zp X x<|>2) (m:Zp X y<|>2)
  (z:Q0k X x y px py<|>0) (a:Q0j X x y px py<|>0)
  (l:Q0h X x y px py<|>0) (h:Q0i X y py<|>0):
  TN X (.Tuple [.Name x px,.Name y py] k ν) (wG (BZ i j)):=Ac (Sr I hN hi A v o F m z a l h) λd ρ Q K=>by
 obtain⟨n,e,q⟩:=K;obtain⟨p,J,rfl⟩:=oB e;rw[J1 J];show q
theorem kF(q:X.calm=ae)(p:qk (ay X.Ω X.w) X.A X.env X.xe)(hi:MU X tg iter it)(m:TN X tg (wG g))(l:qO X body b)
  (o:Zn X iter<|>4):oH X (.For tg iter body [] ν) (dM it g b):=cS (Lj q p hi m l o) λE ρ w=>by
 unfold wS dM at w
 cases h:it (gO ρ) with
 |none=>rw[h] at w;show w.elim
 |some ds =>
  rw[h] at w;show⟨ds,h,λi j=>wS (gD g b (ds.drop i)) E j,(by show wS (gD g b (ds.drop 0)) E ρ;rw[uv];show w),λi d j n a=>?_,λj a=>?_⟩
  .have hi:i<ds.length:=(cg.mp n).1;have v:ds[i]=d:=(cg.mp n).2;have a:wS (gD g b (ds.drop i)) E j:=a;rw[yt hi,v] at a;unfold wS gD at a
   cases m:g d j with
   |none=>rw[m] at a;show a.elim
   |some ρ1 =>
    rw[m] at a;dsimp only at a;show⟨ρ1,m,?_⟩;unfold wS
    cases l:b ρ1 with
    |nx ρ2=>rw[l] at a;dsimp only;rw[l];show a
    |rt d=>rw[l] at a;dsimp only;rw[l];show a
    |no=>rw[l] at a;dsimp only;rw[l];show a
    |ex c=>rw[l] at a;dsimp only;rw[l];show a
  .have a:wS (gD g b (ds.drop ds.length)) E j:=a;rw[a2q] at a;show a
theorem Wn(I:qk (ay X.Ω X.w) X.A X.env X.xe)(L:sA X c t)(l:qO X body b):oH X (.While c body [] ν) (N6 n t b):=cS (Ws I L l) λE ρ w=>by
 have least:∀{p:Nat->Prop},(∃n,p n) ->∃n,p n /\∀m,p m->n<=m:=λ{p} ⟨n,J⟩=>by
  induction n using ui with
  |ind n ih =>
   by_cases h:∃m,m<n/\p m
   .obtain ⟨m,o,q⟩:=h;show ih m o q
   .exact ⟨n,J,λm q=>by apply rj;intro z;show h ⟨m,by lia,q⟩⟩
 show⟨λa=>∃m,wS (eQ t b m) E a,λa=>(a2A λm=>wS (eQ t b m) E a /\∀k,wS (eQ t b k) E a->m<=k),⟨n,w⟩,λa F=>?_⟩;obtain⟨y,v⟩:=least F;have o:=a2z (p:=λm=>wS (eQ t b m) E a /\∀k,wS (eQ t b k) E a->m<=k) ⟨y,v⟩;dsimp only;generalize (a2A λm=>wS (eQ t b m) E a /\∀k,wS (eQ t b k) E a->m<=k)=m at o ⊢
 cases m with
 |zero=>show o.1.elim
 |succ m =>
  have j:=o.1;unfold wS eQ at j
  cases ht:t (bB a) with
  |none=>rw[ht] at j;show j.elim
  |some c =>
   rw[ht] at j;show⟨c,ht,?_⟩
   cases c with
   |false=>rw[Zz b_];show j
   |true =>
    rw[Z_ rfl];dsimp only at j;unfold wS
    cases l:b a with
    |nx ρ2 =>
     rw[l] at j;have h2:wS (eQ t b m) E ρ2:=j;show⟨⟨m,h2⟩,?_⟩;obtain⟨k0,x⟩:=least (p:=λm=>wS (eQ t b m) E ρ2) ⟨m,h2⟩;have K:=a2z (p:=λm=>wS (eQ t b m) E ρ2 /\∀k,wS (eQ t b k) E ρ2->m<=k) ⟨k0,x⟩;show Nat.lt_succ_of_le (K.2 m h2)
    |rt d=>rw[l] at j;show j
    |no=>rw[l] at j;show j
    |ex c=>rw[l] at j;show j
end
theorem Am{P:bg}{w:ba}{K:ar}{mg:Q0d}{ω:bb}{x qual:ak}{st:c_}{f:ah}{fd:h_}{N l:Q0g}{k n m:Nat}{b:SF}(F:YR K x qual st f fd)(S:hJ N l (bJ st))(v:N.length=n)(p:l.length=m)
  (j:∀(a:ai) (A:br) (outer:List dq) (s:ao) (H:Hp) (E:XK),gA k (A.deeper (envOfC qual (bJ st) s.heap.objs.size f a)) ->
   qO (mT DG P w K mg ω N qual (bJ st) f a A outer s H E).TK (fN st) b):mS P w K mg ω DG (k+1) f fd l (Y7 K (cM n m b)):=by
 subst v p;show Kt F S (λds Q ⟨d,e,q⟩=>?_) λa A outer s H E o=>⟨_,j a A outer s H E o,λds Q ⟨d,e,q⟩=>?_⟩
 .unfold cM at e;by_cases h:ds.length=l.length
  .exact h
  .rw [Zz h] at e;cases e
 .unfold cM at e;by_cases h:ds.length=l.length
  .rw [Z_ h] at e;have e2:j9 N ds=eG N.length ds:=rfl;unfold wS;rw[e2]
   cases hb:b (eG N.length ds) with
   |rt d'=>rw[hb] at e;cases e;show q
   |nx ρ=>rw[hb] at e;cases e;show q
   |no=>rw[hb] at e;cases e
   |ex c=>rw[hb] at e;cases e
  .rw [Zz h] at e;cases e
theorem fd4{P:bg}{w:ba}{K:ar}{mg:Q0d}{ω:bb}{x:ak}{st:c_}{N d:Q0g}{k n j:Nat}{b:SF}(D:Df K mg x st d)
  (h:∀{f:ah} {a:ai} {A:br} {outer:List dq} {s:ao} {H:Hp} {E:XK},gA k (A.deeper (envOfC x (bJ st) s.heap.objs.size f a))->N.Nodup->qO (mT DG P w K mg ω N x (bJ st) f a A outer s H E).TK (fN st) b)
  (S:hJ N d (bJ st)<|>9) (p:N.length=n<|>0) (o:d.length=j<|>0):Cl P w K mg ω DG (k+1) x d (Y7 K (cM n j b)):=by
 obtain⟨_,F,m,q⟩:=D;show⟨Am F S p o λ_ _ _ _ _ _ l=>h l S.nd,m,F.kp,q⟩
section
variable{X:Cx}{π:Q0b}{σ:L2.St}{H:Hp}
theorem EB(I:Φ X π σ H s)(h:Ψ x v)(e:x=.bl k\/(∃p xs,x=.ref p/\(fU X.K H p xs\/fI X.K H p xs)/\k=!xs.isEmpty))
  (q:∀tk,Q k {s with toks:=tk}):aw (ay X.Ω X.w) A (truthy v) Q E s:=by
 have m:bf=16777216:=ie;rcases e with rfl|⟨p,xs,rfl,a,rfl⟩
 .cases h;show jt (q s.toks)
 .cases h;rcases a with a|a
  .obtain ⟨j,r,d,l⟩:=I.list a;have hlen:=r.length;show Zh d.isList (by simp only[cu];lia) (by rw[lU r];show q _)
  .obtain ⟨j,r,d,l⟩:=I.tuple a;have hlen:=r.length;show a1v d (by simp only[cu];lia) (by rw[lU r];show q _)
def TrV(K:ar)(H:Hp)(x:V)(k:Bool):Prop:=x=.bl k\/(∃p xs,x=.ref p/\(fU K H p xs\/fI K H p xs)/\k=!xs.isEmpty)
def M8(h:j<n):(gk n).drop j=j::(gk n).drop (j+1):=by
 have a:j<(gk n).length:=by rw[yl];show h
 rw[yt a,List.getElem_range]
section
variable{it:ah}{fp wr:List ah}{n:Nat}{P:Nat->ai->Prop}{St:Nat->bb->Prop}{R:Result->ao->Prop}{tr:Nat->Bool}
theorem zG(W:tq X.Ω X.w X.A.in1 it fp wr n P St)(l:∀b∈wr,pC X π H b)(o:∀j v,P j v ->∃x,Ψ x v/\TrV X.K H x (tr j)):
  ∀(m j:Nat) (st:ao),m+j=n->Φ X π σ H st->St j st.heap->(∀a,Φ X π σ H a->R (.ok (.ret (.bool (((gk n).drop j).all tr)))) a)->ju (ay X.Ω X.w) X.A (.builtin "all.loop" ⟨[.ref it],[]⟩) R st
 |0,j,st,hj,I,hS,k=>by
  obtain rfl:j=n:=by lia
  show kz (a1g) ?_;rw[mq xy];show aq (W.done st _ _ hS λh2 t2 h=>aq (kr (ax ?_)));have:=k _ (RR (t':=t2) I h l)
  rwa [a2r (by simp)] at this
 |m+1,j,st,hj,I,hS,k=>by
  have d:j<n:=by lia
  show kz (a1g) ?_;rw[mq xy];show aq (W.item j st _ _ d hS λv h2 t2 F y h=>?_);have q:Φ X π σ H {st with heap:=h2,toks:=t2}:=RR (t':=t2) I h l;obtain⟨x,z,J⟩:=o j v F;rw[M8 d,lz] at k;show aq (iz (EB q z J λt3=>aq (wpAny_letGo ?_)));have p:Φ X π σ H {st with heap:=h2,toks:=t3}:=q.tok t3
  cases hb:tr j with
  |true =>
   rw[hb,de] at k;rw[Z_ rfl];show ax ⟨qh xy _,zG W l o m (j+1) _ ∅ p y k⟩
  |false =>
   rw[hb,uw] at k;rw[Zz b_];show aq (kr (ax (k _ p)))
end
def Al(f:List Bool->Bool)(K:ar):List V->Hp->VK->Prop:=λxs H Q=>∃a ys bs,xs=[.ref a]/\H a=aa (.lst ys)/\bs.length=ys.length/\(∀(j:Nat) (y:V) (b:Bool),ys[j]?=aa y->bs[j]?=aa b->TrV K H y b)/\Q (.bl (f bs)) H
def M9(hc:X.calm=ae):fV X (.builtin "all") (Al (λbs=>bs.all id) X.K):=by
 intro π s σ H xs us Q I r h;obtain⟨a,ys,bs,rfl,ha,hl,Z,q⟩:=h;obtain⟨u,rfl,l⟩:=vals1 r;cases l;obtain⟨d,L,p,hz⟩:=I.list (fU.of ha);have z:a<s.heap.objs.size:=by obtain⟨o,n,e,_⟩:=p;show bz e
 have hn:d.length=ys.length:=L.length.symm;have y:∀j v,d.toArray[j]?=aa v ->∃x,Ψ x v/\TrV X.K H x (bs.getD j ae):=λj v e=>by
  have U:d[j]?=aa v:=by simpa using e
  have O:j<ys.length:=by have:=(cg.mp U).1;lia
  obtain⟨u,e2,l⟩:=L.get (bo O);rw[U] at e2;cases e2;show⟨_,l,Z j _ _ (bo O) ?_⟩;rw[ur,bo ∅];rfl
 show call_function_tree (F.kind_all) F.plain_all F.entry_all (F.args_all1 _) ?_;unfold Builtin.«all»;show aq (m:=oneArg "all" _) (ax (aq (Bx p.isList (ax ⟨qh xy _,?_⟩))));have J:H s.heap.objs.size=af:=I.hok.fresh (bh _);have I1:Φ X π σ H {s with heap:=s.heap.push {cls:=.type "list_iterator",data:=.fields #[.ref a,rawInt 0]} }:=I.kept (t':=s.toks) λb o e=>ck _ e;show zG (X:=X) (π:=π) (σ:=σ) (H:=H) (tr:=λj=>bs.getD j ae) (a0C (A:=X.A.in1) (show X.A.in1.handled=af from I.ok.hd hc) s.heap.objs.size a (f_ z) d.toArray) (λb hb=>?_) y d.toArray.size 0 _ rfl I1
  ⟨⟨_,dh _ rfl,rfl,rfl⟩,p.isList.at λo e=>ck _ e⟩ λY I'=>?_
 .cases bt.mp hb;show I.FY (bh _) J
 .refine ⟨.bl _,H,I',rfl,?_⟩;rw[uv,show d.toArray.size=bs.length by simp[hn,hl],range_all];show q
theorem Y9{K:ar}{S:ah->Prop}{H:Hp}:∀{p:List D} {ys:List V} {bs:List Bool},aZ K S H p ys->rA p=aa bs->bs.length=ys.length /\∀(j:Nat) (y:V) (b:Bool),ys[j]?=aa y->bs[j]?=aa b->TrV K H y b
 |[],ys,bs,dn,h=>by simp only[aZ] at dn;subst dn;cases h;show⟨rfl,λj y b e=>by simp at e⟩
 |d::p,ys,bs,dn,h=>by
  obtain⟨v,r,rfl,l,h2⟩:=dn.bL;obtain⟨b,m,h⟩:=bnd h;obtain⟨F,e2,rfl⟩:=oB h;obtain⟨A,z⟩:=Y9 h2 e2;show⟨by simp[A],λj y c o q=>?_⟩
  cases j with
  |zero =>
   simp at o q;subst o q;cases d<;>first|cases m;done|skip
   .cases m;symm at l;show .inl l
   .cases m;symm at l;obtain⟨a,xs,rfl,n,x⟩:=l;show .inr ⟨a,xs,rfl,.inr (fI.of n),by rw[<- x.empty]⟩
   .cases m;symm at l;obtain⟨a,xs,rfl,n,_,x⟩:=l;show .inr ⟨a,xs,rfl,.inl (fU.of n),by rw[<- x.empty]⟩
  |succ j=>show z j y c (by simpa using o) (by simpa using q)
def trF(f:List Bool->Bool):F1
 |[.lst es],Q=>∃bs,rA es=aa bs/\Q (.bl (f bs))
 |_,_=>False
theorem Wm{K:ar}{f:List Bool->Bool}:C3 K (Al f K) (trF f):=by
 intro S H xs ds Q3 Q x m l k
 match ds,l with
 |[.lst es],⟨bs,eb,q⟩ =>
  obtain⟨v,r,rfl,d,h2⟩:=m.bL;simp only[aZ] at h2;subst h2;symm at d;obtain⟨a,ys,rfl,n,p,o⟩:=d;obtain⟨j,h⟩:=Y9 o eb;show⟨a,ys,bs,rfl,n,j,h,k _ H _ (ξ.refl H) (by symm) q⟩
def vk{p a:bc}{e:au}{t:AF}(m:X.calm=ae)(h:X.mg "all"=af)(n:tY X [e] t)(j:Gl X "all"<|>0)(l:Zq X e []<|>0):bR X (.Call (.Name "all" p) [e] [] a) (bH allM t) :=
 cE (rX (M9 m) Wm a30 j h n (by decide) (by decide) l (by rfl)) (xV λds d Q e q=>by
  unfold allM at e;split at e
  .obtain ⟨bs,o,rfl⟩:=oB e;show⟨bs,o,q⟩
  .cases e)
end
end L4
namespace L3
open PySem.Spec PyProof.Rows L2
noncomputable def aMg(t:WA):WI:=λρ Q=>t ρ λds=>match ds with
 |[.lst ds]=>Q ds.reverse
 |[.tup ds]=>Q ds.reverse
 |_=>False
section
variable{Ω:bg}{w:ba}{A:br}{E:Q0c}{s:ao}
theorem EC{Q:List ai->ao->Prop}{r:ah}{a b c:Int}{t u v:Tok}{n:Nat}(y:A.handled=af)(p:Cz s.heap r a b c t u v)(d:Dl a b c=ae)(q:qq a b c=n)
  (hlen:n<=2^24) (z:∀h' tk m,s.heap.objs.size<=h'.objs.size->(∀b o,s.heap.get? b=aa o->h'.get? b=aa o)->ItemsOf (λi v=>∃t,v=.int (a+i*c) t) m n->Q m.toList {s with heap:=h',toks:=tk}):aw (ay Ω w) A (collect (.ref r)) Q E s:=by
 unfold collect;apply aq;apply Bv;show kz a1b ?_;rw[mq a08]
 wp_walk
 show⟨qh xx _,kz a1d ?_⟩;rw[mq xx];show wpAny_extend_range (R:=wants _ _) (s:={s with heap:=s.heap.push {cls:=.type "list",data:=.seq #[]} }) y (ck _ p) d q hlen s.heap.objs.size (.ref s.heap.objs.size) _ (dh _ rfl) λh' tk l F x j h=>?_;apply aq;apply s_ j;show ax (z h' tk l (kj (bz j)) (λb o e=>x b o (f_ (bz e)) (ck _ e)) h)
theorem ED{r:ah}{a b c:Int}{t u v:Tok}{n:Nat}(d:Dl a b c=ae)(p:qq a b c=n)(hlen:n<=2^24):Meets (Builtin.«tuple.__new__» ⟨[.type "tuple",.ref r],[]⟩)
   (λA R s=>A.handled=af/\Cz s.heap r a b c t u v /\∀(h':bb) (tk:Nat) (l:Array ai),s.heap.objs.size<=h'.objs.size->(∀b o,s.heap.get? b=aa o->h'.get? b=aa o)->ItemsOf (λi v=>∃t,v=.int (a+i*c) t) l n ->
    R (.ok (.ret (.ref h'.objs.size))) {s with heap:=h'.push {cls:=.type "tuple",data:=.seq l},toks:=tk}) :=
 .of_wp λΩ w A R s h=>by
  obtain⟨x,m,h⟩:=h;have z:=sub_tuple_self;have h2:=init_tuple_lookup;have y:=madeHere_tuple
  wp_walk using qc (T:="range") (v:=.ref r) ⟨_,m,rfl⟩,EC (A:=A.in1) x m d p hlen
  intro h' tk l hsz q j;have fits:l.size<=bf:=by rw[j.1,ie];lia
  wp_walk
  simpa using h h' tk l hsz q j
theorem BS{Q:Q0c}{r:ah}{a b c:Int}{t u v:Tok}{n:Nat}(x:A.handled=af)(m:Cz s.heap r a b c t u v)(d:Dl a b c=ae)(p:qq a b c=n)(hlen:n<=2^24)
  (h:∀(h':bb) (tk:Nat) (l:Array ai),s.heap.objs.size<=h'.objs.size->(∀b o,s.heap.get? b=aa o->h'.get? b=aa o)->ItemsOf (λi v=>∃t,v=.int (a+i*c) t) l n->Q (.ref h'.objs.size) {s with heap:=h'.push {cls:=.type "tuple",data:=.seq l},toks:=tk}):
  aw (ay Ω w) A (call (.type "tuple") [.ref r]) Q E s :=
 a0z F.called_tuple (by decide) (F.typeCall_tuple_1 _) (F.newCall_tuple_1 _) (λobj=>a1i obj _) F.entry_tuple_new
  (ED d p hlen) ⟨x,m,λh' tk l hsz q j=>⟨⟨_,dh _ rfl,rfl⟩,h h' tk l hsz q j⟩⟩
variable{X:Cx}
def xW(J:X.calm=ae):fV X (.type "tuple") (λxs H Q=>∃p i j,xs=[.ref p]/\H p=aa (.rng i j) /\ -16777216<=i/\i<=16777216 /\ -16777216<=j/\j<=16777216/\j-i<=16777216 /\∀l,H l=af->Q (.ref l) (upd H l (.tup ((m9 i (j-i).toNat).map V.int)))):=by
 intro π s σ H xs K Q I r h;obtain⟨p,i,j,rfl,F,Y,U,h2,O,L,q⟩:=h;obtain⟨u,rfl,x⟩:=vals1 r;cases x;obtain⟨t,u,v,e⟩:=I.hok p _ F;have hsz:qq i j 1=((j-i).toNat:Int):=by rw[Cg];split<;>lia
 show BS (a:=i) (b:=j) (c:=1) (n:=(j-i).toNat) (I.ok.hd J) e (Cc ∅ ∅ ∅ ∅) hsz ∅ λh' tk d hle y hit=>?_;have z:θ ((m9 i (j-i).toNat).map V.int) d.toList:=DS hit;have m:H h'.objs.size=af:=I.hok.fresh hle;show⟨.ref h'.objs.size,_,I.laid (t':=tk) (o:=.tup ((m9 i (j-i).toNat).map V.int)) (λb o e=>ck _ (y b o e)) hle ⟨?_,d.toList,z,⟨_,dh _ rfl,rfl,_,rfl⟩,C7.new _ _⟩,rfl,q _ m⟩;rw[a_,nA,ie];lia
def NA(L:X.calm=ae)(I:X.mg "tuple"=af)(d:X.mg "range"=af)(O:vV X [a] t)(K:Gl X "tuple"<|>0)(h:Gl X "range"<|>0)(F:av [a] X.env=[(ag,eval a X.env)]<|>0)
  (o:(av [.Call (.Name "range" p2) [a] [] pos2] X.env=(ag,eval (.Call (.Name "range" p2) [a] [] pos2) X.env)::av [] X.env)<|>0):
  cK X (.Call (.Name "tuple" p) [.Call (.Name "range" p2) [a] [] pos2] [] ν) (λρ Q=>(t ρ λds=>match ds with|[.int j]=>(-16777216<=j/\j<=16777216)/\Q (.tup ((m9 0 j.toNat).map D.int))|_=>False)) :=
 imp (k7 (xW L) K I a1A (j5 (zD h d O F) rT o) (by decide) (by decide) o (by rfl)) λσ H Q Z=>by
  obtain⟨S,ρ,Q3,U,x,z,k⟩:=Z;show⟨S,ρ,_,U,x,z,λvs H1 ds y Y q1=>?_⟩;split at q1
  .rename_i j;obtain⟨v,r,rfl,q,h2⟩:=Y.bL;simp only[aZ] at h2;subst h2;symm at q;subst q;show⟨j,rfl,λp m=>⟨p,0,j,rfl,aW,by lia,by lia,q1.1.1,q1.1.2,by have:=q1.1.2;lia,λl n=>?_⟩⟩;have J:H1 l=af:=(aU m).free n;rw[Int.sub_zero];show k _ _ _ ((y.trans (aU m)).trans (aU n)) ?_ q1.2;symm;show⟨l,_,rfl,aW,aZ.ints.mpr rfl⟩
  .exact q1.elim
end
end L3
namespace L4
open PySem.Spec PyProof.Rows L2 L3
section
variable{X:Cx}{tg:au}
theorem nH(z:X.calm=ae)(v:X.mg "tuple"=af)(l:X.mg "range"=af)(F:bR X a fa)(x:Gl X "tuple"<|>0)(m:Gl X "range"<|>0)(n:av [a] X.env=[(ag,eval a X.env)]<|>0)
  (y:(av [.Call (.Name "range" p2) [a] [] pos2] X.env=(ag,eval (.Call (.Name "range" p2) [a] [] pos2) X.env)::av [] X.env)<|>0):
  bR X (.Call (.Name "tuple" p) [.Call (.Name "range" p2) [a] [] pos2] [] ν) (uM (aA fa aH)):=cE (NA z v l (aC F aY n) x m n y) λρ Q I=>by
 obtain⟨d,e,q⟩:=I;obtain⟨ds,o,e⟩:=bnd e;show⟨ds,o,?_⟩;obtain⟨a,A,rfl⟩:=G3 o;split at e
 .rename_i j hj;cases hj;by_cases h:j.natAbs<=16777216
  .rw [Z_ h] at e;cases e;show⟨⟨by lia,by lia⟩,q⟩
  .rw [Zz h] at e;cases e
 .rename_i hj;cases hj
 .cases e
noncomputable def BF:F1
 |[.int i],Q=>Q (.int i)
 |[.bl b],Q=>Q (.int (if b=ae then 1 else 0))
 |_,_=>False
theorem Wl{K:ar}:C3 K (λxs H Q=>(∃i,xs=[.int i]/\Q (.int i) H) \/∃k,xs=[.bl k]/\Q (.int (if k then 1 else 0)) H) BF:=by
 intro S H xs ds Q3 Q j h a k
 match ds,a with
 |[.int i],a =>
  obtain⟨v,r,rfl,d,h2⟩:=h.bL;simp only[aZ] at h2;subst h2;symm at d;subst d;show .inl ⟨i,rfl,k _ H _ (ξ.refl H) (by symm) a⟩
 |[.bl b],a =>
  obtain⟨v,r,rfl,d,h2⟩:=h.bL;simp only[aZ] at h2;subst h2;symm at d;subst d;show .inr ⟨b,rfl,k _ H _ (ξ.refl H) (by symm) a⟩
theorem EE:kD BF uN:=λds d Q e q=>by
 cases ds with
 |nil=>cases e
 |cons a ds =>
  cases a<;>first|(cases e;done)|skip
  all_goals (cases ds<;>first|(cases e;show q)|(cases e;done))
def Ak(l:X.calm=ae)(a:X.mg "int"=af)(j:tY X [e] t)(d:Gl X "int"<|>0)(h:Zq X e []<|>0):bR X (.Call (.Name "int" p) [e] [] ν) (bH uN t):=cE (JU LU Wl a3Y d a j (by decide) (by decide) h (by rfl)) (xV EE)
end
open PySem.W
open TL
open PySem.SeqAt
section
variable{X:Cx}{π:Q0b}{σ:L2.St}{H:Hp}{s:ao}{S:ah->Prop}
def EqI(n:Nat)(d e:D)(b:Bool):Prop:=(∃i j,d=.int i/\e=.int j/\b=Zv (i=j))\/(∃i,d=.bl i/\e=.bl i/\b=ae)\/(∃i,d=.str i/\e=.str i/\b=ae) \/∃m a c r,n=m+1/\d=.tup a/\e=.tup c/\tN (eqP m) a c=aa r/\b=(r&&Zv (a.length=c.length))
theorem n5:∀{n:Nat} {d e:D} {b:Bool},eqP n d e=aa b->EqI n d e b:=by
 intro n d e b h;have one:∀{p:Prop} [Decidable p],(if p then aa ae else af)=aa b->p/\b=ae:=λ{p} _ h=>by
  by_cases j:p
  .rw [Z_ j] at h;cases h;show⟨j,rfl⟩
  .rw [Zz j] at h;show nomatch h
 cases n with
 |zero =>
  cases d<;>first|(cases h;done)|skip
  all_goals (cases e<;>first|(cases h;done)|skip)
  .obtain ⟨rfl,a⟩:=one h;show .inr (.inl ⟨_,rfl,rfl,a⟩)
  .cases h;show .inl ⟨_,_,rfl,rfl,rfl⟩
  .obtain ⟨rfl,a⟩:=one h;show .inr (.inr (.inl ⟨_,rfl,rfl,a⟩))
 |succ m =>
  cases d<;>first|(cases h;done)|skip
  all_goals (cases e<;>first|(cases h;done)|skip)
  .obtain ⟨rfl,a⟩:=one h;show .inr (.inl ⟨_,rfl,rfl,a⟩)
  .cases h;show .inl ⟨_,_,rfl,rfl,rfl⟩
  .obtain ⟨rfl,a⟩:=one h;show .inr (.inr (.inl ⟨_,rfl,rfl,a⟩))
  .obtain ⟨r,l,rfl⟩:=oB (show(tN (eqP m) _ _).map _=aa b from h);show .inr (.inr (.inr ⟨m,_,_,r,rfl,rfl,rfl,l,rfl⟩))
theorem RZ(I:L2.Φ X π σ H s):∀(n:Nat) (d e:D) (x:V) (b:Bool),eqP n d e=aa b->Dn X.K S H d x->Dn X.K S H e x->b=ae:=by
 intro n
 induction n using ui with
 |ind n ih =>
  intro d e x b h z o;rcases n5 h with⟨i,j,rfl,rfl,rfl⟩|⟨i,rfl,rfl,A⟩|⟨i,rfl,rfl,A⟩|⟨m,a,c,r,rfl,rfl,rfl,e1,rfl⟩
  .symm at z o;rw[z] at o;cases o;show Zx rfl
  .exact A
  .exact A
  .symm at z o;obtain⟨p,xs,rfl,hp,U⟩:=z;obtain⟨q,ys,eq,Z,O⟩:=o;cases eq;have:=I.jH (fI.of hp) (fI.of Z);subst this;obtain⟨f,h1,h2⟩:=iE e1;have hl:a.length=c.length:=by rw[U.len,O.len]
   rw[Zx hl,Bool.and_true,h2,ib];intro j y;have y:j<min a.length c.length:=by simpa using y
   have L:j<a.length:=gg y (Nat.min_le_left ..);have J:j<c.length:=gg y (a1V ..);obtain⟨v,Y,dv⟩:=U.get (bo L);obtain⟨v2,l,F⟩:=O.get (bo J);rw[Y] at l;cases l;show ih m (uj m) _ _ v _ (h1 j _ _ (bo L) (bo J)) dv F
theorem G6(I:L2.Φ X π σ H s):∀(n:Nat) (A:br) (d e:D) (x y:V) (u v:ai) (b:Bool),A.units+n<bx->eqP n d e=aa b->Dn X.K S H d x->Dn X.K S H e y->L2.Ψ x u->L2.Ψ y v->mh A s u v b:=by
 have onI:∀(A:br) (i j:Int) (x y:V) (u v:ai),Dn X.K S H (.int i) x->Dn X.K S H (.int j) y->L2.Ψ x u->L2.Ψ y v->mh A s u v (Zv (i=j)):=by
  intro A i j x y u v o l J F;symm at o l;subst o l;obtain⟨t,rfl⟩:=J;obtain⟨t2,rfl⟩:=F;have:=(a3i i j t t2).at A s
  rwa [show(i == j)=Zv (i=j) from by simp[a2E]] at this
 have onB:∀(A:br) (i j b:Bool) (x y:V) (u v:ai),(if i=j then aa ae else af)=aa b->Dn X.K S H (.bl i) x->Dn X.K S H (.bl j) y->L2.Ψ x u->L2.Ψ y v->mh A s u v b:=by
  intro A i j b x y u v h o l J F;symm at o l;subst o l;split at h
  .rename_i e;cases h;subst e;cases J;cases F;show xo _
  .cases h
 have onS:∀(A:br) (i j:ak) (b:Bool) (x y:V) (u v:ai),(if i=j then aa ae else af)=aa b->Dn X.K S H (.str i) x->Dn X.K S H (.str j) y->L2.Ψ x u->L2.Ψ y v->mh A s u v b:=by
  intro A i j b x y u v h o l J F;symm at o l;subst o l;split at h
  .rename_i e;cases h;subst e;obtain⟨t,rfl⟩:=J;obtain⟨t2,rfl⟩:=F;have:=(a2X i i t t2).at A s
   rwa [show(i.cps.toList == i.cps.toList)=ae from by simp] at this
  .cases h
 intro n
 induction n using ui with
 |ind n ih =>
  intro A d e x y u v b hu h o l J F;rcases n5 h with⟨i,j,rfl,rfl,rfl⟩|⟨i,rfl,rfl,rfl⟩|⟨i,rfl,rfl,rfl⟩|⟨m,a,c,r,rfl,rfl,rfl,e1,rfl⟩
  .exact onI A _ _ x y u v o l J F
  .exact onB A i i ae x y u v (Z_ rfl) o l J F
  .exact onS A i i ae x y u v (Z_ rfl) o l J F
  .have hd0:=o;have he0:=l;symm at o l;obtain⟨p,xs,rfl,hp,da⟩:=o;obtain⟨q,ys,rfl,hq,dc⟩:=l;cases J;cases F;by_cases L:p=q
   .subst L;rw[RZ I (m+1) _ _ _ _ h hd0 he0];show xo _
   .obtain ⟨f,h1,h2⟩:=iE e1;obtain⟨Y,rx,pt,_⟩:=I.tuple (fI.of hp);obtain⟨z,ry,LN,_⟩:=I.tuple (fI.of hq);have l1:Y.length=a.length:=by rw[<- rx.length,da.len]
    have l2:z.length=c.length:=by rw[<- ry.length,dc.len]
    have key:=RcAt.tuples (A:=A) (s:=s) (e:=f) (show s.heap.IsTuple p Y.toArray from pt) (show s.heap.IsTuple q z.toArray from LN) ∅ λj U O=>by
     have U:j<a.length:=by simpa[l1] using U
     have O:j<c.length:=by simpa[l2] using O
     obtain⟨w,hw,dw⟩:=da.get (bo U);obtain⟨w2,hw2,dw2⟩:=dc.get (bo O);obtain⟨g,hg,rg⟩:=rx.get hw;obtain⟨g2,hg2,Z⟩:=ry.get hw2;have e3:Y.toArray[j]'(by simp;lia)=g:=by have:=(cg.mp hg).2;simpa using this
     have e4:z.toArray[j]'(by simp;lia)=g2:=by have:=(cg.mp hg2).2;simpa using this
     rw[e3,e4];show ih m (uj m) A.in1 _ _ w w2 g g2 _ (by show A.units+1+m<bx;lia) (h1 j _ _ (bo U) (bo O)) dw dw2 rg Z
    show EqAt.of_refs L ?_;rw[h2];simpa[l1,l2,a2E] using key
def zH(K:ar)(g:Bool->Bool):R2:=λx y H Q=>∃(S:ah->Prop) (a c:List D) (b:Bool),Dn K S H (.tup a) x/\Dn K S H (.tup c) y/\eqP 8 (.tup a) (.tup c)=aa b/\Q (.bl (g b)) H
def NB(hu:X.A.units+8<bx):iC X (compareOp .Eq) (zH X.K id):=by
 intro π s σ H x y v u Q I m l h;obtain⟨S,a,c,b,U,O,hb,q⟩:=h;have hd0:=U;have he0:=O;symm at U O;obtain⟨p,xs,rfl,hp,da⟩:=U;obtain⟨p2,ys,rfl,hq,dc⟩:=O;cases m;cases l;obtain⟨r,e1,rfl⟩:=oB (show(tN (eqP 7) a c).map _=aa b from hb);obtain⟨f,h1,h2⟩:=iE e1;obtain⟨z,m,pt,_⟩:=I.tuple (fI.of hp);obtain⟨d,l,LN,_⟩:=I.tuple (fI.of hq);have l1:z.length=a.length:=by rw[<- m.length,da.len]
 have Z:d.length=c.length:=by rw[<- l.length,dc.len]
 show eq_tupleAt (e:=f) (show s.heap.IsTuple p z.toArray from pt) (show s.heap.IsTuple p2 d.toArray from LN) ∅ (λj o n=>?_) ⟨_,H,I,?_,q⟩
 .have o:j<a.length:=by simpa[l1] using o
  have n:j<c.length:=by simpa[Z] using n
  obtain⟨w,hw,dw⟩:=da.get (bo o);obtain⟨w2,J,Y⟩:=dc.get (bo n);obtain⟨g,hg,rg⟩:=m.get hw;obtain⟨g2,L,F⟩:=l.get J;have e3:z.toArray[j]'(by simp;lia)=g:=by simpa using (cg.mp hg).2
  have e4:d.toArray[j]'(by simp;lia)=g2:=by simpa using (cg.mp L).2
  rw[e3,e4];show G6 I 7 X.A.in1 _ _ w w2 g g2 _ (by show X.A.units+1+7<bx;lia) (h1 j _ _ (bo o) (bo n)) dw Y rg F
 .show L2.Ψ (.bl _) (.bool _);simp only[L2.Ψ,cu,l1,Z,h2,id];congr 1
def R3(j:X.A.units+8<bx):iC X (compareOp .Eq) (λx y H Q=>rq x y H Q\/zH X.K id x y H Q):=by
 intro π s σ H x y v u Q I d a h;rcases h with h|h
 .exact QH π s σ H x y v u Q I d a h
 .exact NB j π s σ H x y v u Q I d a h
def Aj:F2:=λx y Q=>∃b,eqP 8 x y=aa b/\Q (.bl b)
def R4{K:ar}:O3 K (λx y H Q=>rq x y H Q\/zH K id x y H Q) Aj:=by
 intro S H x y v p Q3 Q l h d n k;obtain⟨b,e,q⟩:=n;rcases n5 e with⟨i,j,rfl,rfl,rfl⟩|⟨i,rfl,rfl,rfl⟩|⟨i,rfl,rfl,rfl⟩|⟨m,a,c,r,_,rfl,rfl,o,rfl⟩
 .exact .inl (vX S H x y (.int i) (.int j) Q3 Q l h d ⟨rfl,q⟩ k)
 .exact .inl (vX S H x y (.bl i) (.bl i) Q3 Q l h d ⟨rfl,by rw[show eqS (.bl i) (.bl i)=ae from Zx rfl];show q⟩ k)
 .exact .inl (vX S H x y (.str i) (.str i) Q3 Q l h d ⟨rfl,by rw[show eqS (.str i) (.str i)=ae from Zx rfl];show q⟩ k)
 .exact .inr ⟨S,_,_,_,h,d,e,k _ H _ (ξ.refl H) (by symm;rfl) q⟩
def zJ:Tells Aj oO:=λx y d Q e q=>by unfold oO at e;obtain⟨b,a,rfl⟩:=oB e;show⟨b,a,q⟩
def Ai(d:X.A.units+9<bx)(j:bR X a fa)(h:bR X b fb):bR X (.Compare a [.Eq] [b] ν) (aB oO fa fb):=cE (GN (R3 (yf d)) R4 j h (iK _)) (fW zJ)
def NC(hu:X.A.units+8<bx):iC X (compareOp .NotEq) (zH X.K not):=by
 intro π s σ H x y v u Q I m l h;obtain⟨S,a,c,b,U,O,hb,q⟩:=h;have hd0:=U;have he0:=O;symm at U O;obtain⟨p,xs,rfl,hp,da⟩:=U;obtain⟨p2,ys,rfl,hq,dc⟩:=O;cases m;cases l;obtain⟨r,e1,rfl⟩:=oB (show(tN (eqP 7) a c).map _=aa b from hb);obtain⟨f,h1,h2⟩:=iE e1;obtain⟨z,m,pt,_⟩:=I.tuple (fI.of hp);obtain⟨d,l,LN,_⟩:=I.tuple (fI.of hq);have l1:z.length=a.length:=by rw[<- m.length,da.len]
 have Z:d.length=c.length:=by rw[<- l.length,dc.len]
 show RcNeAt.tuples (e:=f) (show s.heap.IsTuple p z.toArray from pt) (show s.heap.IsTuple p2 d.toArray from LN) ∅ (λj o n=>?_) X.Ω X.w _ _ ⟨_,H,I,?_,q⟩
 .have o:j<a.length:=by simpa[l1] using o
  have n:j<c.length:=by simpa[Z] using n
  obtain⟨w,hw,dw⟩:=da.get (bo o);obtain⟨w2,J,Y⟩:=dc.get (bo n);obtain⟨g,hg,rg⟩:=m.get hw;obtain⟨g2,L,F⟩:=l.get J;have e3:z.toArray[j]'(by simp;lia)=g:=by simpa using (cg.mp hg).2
  have e4:d.toArray[j]'(by simp;lia)=g2:=by simpa using (cg.mp L).2
  rw[e3,e4];show G6 I 7 X.A.in1 _ _ w w2 g g2 _ (by show X.A.units+1+7<bx;lia) (h1 j _ _ (bo o) (bo n)) dw Y rg F
 .show L2.Ψ (.bl _) (.bool _);simp only[L2.Ψ,cu,l1,Z,h2];congr 1
def Wk(j:X.A.units+8<bx):iC X (compareOp .NotEq) (λx y H Q=>rp x y H Q\/zH X.K not x y H Q):=by
 intro π s σ H x y v u Q I d a h;rcases h with h|h
 .exact QI π s σ H x y v u Q I d a h
 .exact NC j π s σ H x y v u Q I d a h
def Ah:F2:=λx y Q=>∃b,eqP 8 x y=aa b/\Q (.bl (!b))
def Wj{K:ar}:O3 K (λx y H Q=>rp x y H Q\/zH K not x y H Q) Ah:=by
 intro S H x y v p Q3 Q l h d n k;obtain⟨b,e,q⟩:=n;rcases n5 e with⟨i,j,rfl,rfl,rfl⟩|⟨i,rfl,rfl,rfl⟩|⟨i,rfl,rfl,rfl⟩|⟨m,a,c,r,_,rfl,rfl,o,rfl⟩
 .exact .inl (vY S H x y (.int i) (.int j) Q3 Q l h d ⟨rfl,q⟩ k)
 .exact .inl (vY S H x y (.bl i) (.bl i) Q3 Q l h d ⟨rfl,by rw[show eqS (.bl i) (.bl i)=ae from Zx rfl];show q⟩ k)
 .exact .inl (vY S H x y (.str i) (.str i) Q3 Q l h d ⟨rfl,by rw[show eqS (.str i) (.str i)=ae from Zx rfl];show q⟩ k)
 .exact .inr ⟨S,_,_,_,h,d,e,k _ H _ (ξ.refl H) (by symm) q⟩
def ND:Tells Ah j7:=λx y d Q e q=>by unfold j7 at e;obtain⟨b,a,rfl⟩:=oB e;show⟨b,a,q⟩
theorem R5(I:L2.Φ X π σ H s):∀(n:Nat) (d z e:D) (x:V) (b A:Bool),eqP n d e=aa b->eqP n z e=aa A->Dn X.K S H d x->Dn X.K S H z x->b=A:=by
 intro n
 induction n using ui with
 |ind n ih =>
  intro d z e x b A h h2 q hd2;rcases n5 h with⟨i,j,rfl,rfl,rfl⟩|⟨i,rfl,rfl,rfl⟩|⟨i,rfl,rfl,rfl⟩|⟨m,a,c,r,rfl,rfl,rfl,e1,rfl⟩<;>rcases n5 h2 with⟨J,j2,rfl,e2,rfl⟩|⟨J,rfl,e2,rfl⟩|⟨J,rfl,e2,rfl⟩|⟨m2,F,c2,r2,em,rfl,O,e2,rfl⟩<;>first|(cases e2;done)|(cases O;done)|skip
  .cases e2;symm at q hd2;rw[q] at hd2;cases hd2;rfl
  .rfl
  .rfl
  .cases em;cases O;symm at q hd2;obtain⟨p,xs,rfl,hp,U⟩:=q;obtain⟨p2,ys,ep,Z,o⟩:=hd2;cases ep;have:=I.jH (fI.of hp) (fI.of Z);subst this;obtain⟨f,f1,rfl⟩:=iE e1;obtain⟨g,g1,rfl⟩:=iE e2;have hl:a.length=F.length:=by rw[U.len,o.len]
   rw[hl];congr 1;rw[jh];simp only[ib];show forall_congr' λj=>forall_congr' λL=>?_;have L:j<min F.length c.length:=by simpa using L
   obtain⟨v,Y,dv⟩:=U.get (bo (show j<a.length by lia));obtain⟨v2,l,y⟩:=o.get (bo (show j<F.length by lia));rw[Y] at l;cases l;rw[ih m (uj m) _ _ _ v _ _ (f1 j _ _ (bo ∅) (bo (show j<c.length by lia))) (g1 j _ _ (bo ∅) (bo ∅)) dv y]
noncomputable def Fe:ai->V
 |.none=>.non
 |.bool b=>.bl b
 |.int i _=>.int i
 |.str x _=>.str x
 |.bytes b _=>.FW b
 |.float b _=>.flt b
 |.ref a=>.ref a
 |.type n=>.ty n
 |_=>.non
theorem J6(h:L2.Ψ x u):Fe u=x:=by
 cases x with
 |non=>cases (show u=xk from h);rfl
 |bl b=>cases (show u=tw b from h);rfl
 |int i=>obtain⟨t,rfl⟩:=h;rfl
 |str z=>obtain⟨t,rfl⟩:=h;rfl
 |FW b=>obtain⟨t,rfl⟩:=h;rfl
 |flt b=>obtain⟨t,rfl⟩:=h;rfl
 |ref a=>cases (show u=fm a from h);rfl
 |ty n=>cases (show u=tu n from h);rfl
def R6(h:L2.Ψ x u)(h2:L2.Ψ x2 u):x=x2:=(J6 h).symm.trans (J6 h2)
theorem zK:∀{ds:List D} {b:Bool},rC dx ds=aa b ->∃e:Nat->Bool,(∀(j:Nat) (d:D),ds[j]?=aa d->eqP 8 d dx=aa (e j))/\b=(gk ds.length).any e
 |[],b,h=>by cases h;show⟨λ_=>ag,λj d e=>by simp at e,by simp⟩
 |d::ds,b,h=>by
  unfold rC at h;obtain⟨c,m,h⟩:=bnd h;obtain⟨r,e2,rfl⟩:=oB h;obtain⟨e,l,rfl⟩:=zK e2;show⟨λj=>match j with|0=>c|j+1=>e j,λj x a=>?_,?_⟩
  .cases j with
   |zero=>cases a;show m
   |succ j=>show l j x (by simpa using a)
  .rw [cf,yh,j_,Er];rfl
open Classical in
theorem J7(I:L2.Φ X π σ H s)(Y:A.units+8<bx)(U:Dn X.K S H dx x)(F:L2.Ψ x v)(h:rC dx ds=aa b)(z:aZ X.K S H ds xs)(q:θ xs us):
  ∃e:ai->Bool,(∀y∈us,mh A s y v (e y))/\us.any e=b:=by
 obtain⟨f,h1,rfl⟩:=zK h;have hl:us.length=ds.length:=by rw[<- q.length,z.len]
 have at_:∀(j:Nat) (u:ai),us[j]?=aa u ->∃(d:D) (w:V),ds[j]?=aa d/\eqP 8 d dx=aa (f j)/\Dn X.K S H d w/\L2.Ψ w u:=λj u a=>by
  have lt:j<ds.length:=by have:=(cg.mp a).1;lia
  obtain⟨w,hw,dw⟩:=z.get (bo lt);obtain⟨g,Z,J⟩:=q.get hw;rw[Z] at a;cases a;show⟨_,w,bo lt,h1 j _ (bo lt),dw,J⟩
 have one:∀(i j:Nat) (u:ai),us[i]?=aa u->us[j]?=aa u->f i=f j:=λi j u hi a=>by obtain⟨d,w,_,n,p,m⟩:=at_ i u hi;obtain⟨d2,w2,_,e2,o,L⟩:=at_ j u a;have:=R6 m L;subst this;show R5 I 8 d d2 dx w _ _ n e2 p o
 show⟨λy=>Zv (∃j,us[j]?=aa y/\f j=ae),λy O=>?_,?_⟩
 .obtain ⟨j,a⟩:=km.mp O;obtain⟨d,w,_,n,p,m⟩:=at_ j y a;have:Zv (∃j,us[j]?=aa y/\f j=ae)=f j:=by rw[jh,decide_eq_true_iff];show⟨λ⟨i,hi,fi⟩=>by rw[one j i y a hi];show fi,λl=>⟨j,a,l⟩⟩
  show mh A s y v (Zv (∃j,us[j]?=aa y/\f j=ae));rw[this];show G6 I 8 A d dx w x y v _ Y n p U m F
 .rw [jh,rf,rf]
  constructor
  .rintro ⟨y,_,h⟩;obtain⟨j,a,l⟩:=of_decide_eq_true h;show⟨j,by have:=(cg.mp a).1;simp;lia,l⟩
  .rintro ⟨j,a,l⟩;have lt:j<us.length:=by simp at a;lia
   show⟨us[j],jz lt,Zx ⟨j,bo lt,l⟩⟩
def J8(K:ar)(neg:Bool):R2:=λx y H Q=>∃(S:ah->Prop) (d a:D) (ds:List D) (b:Bool),Dn K S H d x/\Dn K S H a y/\(a=.lst ds\/a=.tup ds)/\rC d ds=aa b/\Q (.bl (if neg then !b else b)) H
noncomputable def Hb:Bool->ue
 |true=>.NotIn
 |false=>.In
def NF(U:X.A.units+9<bx):iC X (compareOp (Hb neg)) (J8 X.K neg):=by
 intro π s σ H x y v u Q I F z h;obtain⟨S,Z,Y,ds,b,J,m,O,L,q⟩:=h;rcases O with rfl|rfl
 .symm at m;obtain⟨p,ys,rfl,n,_,o⟩:=m;cases z;obtain⟨a,ri,d,_⟩:=I.list (fU.of n);obtain⟨e,l,e2⟩:=J7 I (A:=X.A.in1) (by show X.A.units+1+8<bx;lia) J F L o ri;have j:a.toArray.any e=b:=by rw[a2s];show e2
  cases neg with
  |false=>show a0W e d.isList (λw hw=>l w (by simpa using hw)) ⟨_,H,I,by rw[j];rfl,q⟩
  |true=>show a0U e d.isList (λw hw=>l w (by simpa using hw)) ⟨_,H,I,by rw[j];rfl,q⟩
 .symm at m;obtain⟨p,ys,rfl,n,o⟩:=m;cases z;obtain⟨a,ri,d,_⟩:=I.tuple (fI.of n);obtain⟨e,l,e2⟩:=J7 I (A:=X.A.in1) (by show X.A.units+1+8<bx;lia) J F L o ri;have j:a.toArray.any e=b:=by rw[a2s];show e2
  cases neg with
  |false=>show a0V e (show s.heap.IsTuple p a.toArray from d) (λw hw=>l w (by simpa using hw)) ⟨_,H,I,by rw[j];rfl,q⟩
  |true=>show a0T e (show s.heap.IsTuple p a.toArray from d) (λw hw=>l w (by simpa using hw)) ⟨_,H,I,by rw[j];rfl,q⟩
def Ag(neg:Bool):F2:=λx y Q=>∃ds b,(y=.lst ds\/y=.tup ds)/\rC x ds=aa b/\Q (.bl (if neg then !b else b))
def Wi{K:ar}{neg:Bool}:O3 K (J8 K neg) (Ag neg):=by intro S H x y l j Q3 Q m d a h k;obtain⟨ds,b,e,e2,q⟩:=h;show⟨S,l,j,ds,b,d,a,e,e2,k _ H _ (ξ.refl H) (by symm) q⟩
def NG:Tells (Ag neg) (E6 neg):=λx y d Q e q=>by
 unfold E6 at e;split at e
 .obtain ⟨b,a,rfl⟩:=oB e;show⟨_,b,.inl rfl,a,q⟩
 .obtain ⟨b,a,rfl⟩:=oB e;show⟨_,b,.inr rfl,a,q⟩
 .cases e
theorem Wh(x y d:D)(e:oO x y=aa d):∃b,d=.bl b:=by
 unfold oO at e
 cases q:eqP 8 x y with
 |none=>rw[q] at e;cases e
 |some b=>rw[q] at e;cases e;show⟨_,rfl⟩
theorem Wg(x y d:D)(e:j7 x y=aa d):∃b,d=.bl b:=by
 unfold j7 at e
 cases q:eqP 8 x y with
 |none=>rw[q] at e;cases e
 |some b=>rw[q] at e;cases e;show⟨_,rfl⟩
def Wf(x y d:D)(e:E6 neg x y=aa d):∃b,d=.bl b:=by
 unfold E6 at e;split at e
 .rename_i ds
  cases q:rC x ds with
  |none=>rw[q] at e;cases e
  |some b=>rw[q] at e;cases e;show⟨_,rfl⟩
 .rename_i ds
  cases q:rC x ds with
  |none=>rw[q] at e;cases e
  |some b=>rw[q] at e;cases e;show⟨_,rfl⟩
 .cases e
def Rf(d:X.A.units+9<bx)(j:bR X a fa)(h:bR X b fb):sA X (.Compare a [.Eq] [b] ν) (tV (aB oO fa fb)):=cT (mY (R3 (yf d)) R4 j h (iK _)) (nD zJ Wh)
def zL(d:X.A.units+9<bx)(j:bR X a fa)(h:bR X b fb):sA X (.Compare a [.NotEq] [b] ν) (tV (aB j7 fa fb)):=cT (mY (Wk (yf d)) Wj j h (iK _)) (nD ND Wg)
def We(d:X.A.units+9<bx)(l:bR X a fa)(j:bR X b fb)(h:behindInMarks .NotIn b=ag<|>5):sA X (.Compare a [.NotIn] [b] ν) (tV (aB (E6 ae) fa fb)):=cT (mY (op:=.NotIn) (NF (neg:=ae) d) Wi l j h) (nD NG Wf)
end
section
variable{X:Cx}
def Rc(i:Nat){st:c_}{f:SF}(h:oH X st f):oH X st (ZP i f) :=
 iD h λB σ H j=>by obtain⟨H₀,S,w,ρ,G,E,d,st,a,ok⟩:=j;show⟨H₀,S,w,freeze ρ i,G,E,d,st.frozen,a,ok⟩
end
end L4
namespace L5
open PySem.Spec PyProof.Rows L2 L3 L4
theorem zM(x:dR P w H h a o):∃u,h.get? a=aa u:=by
 cases o with
 |lst xs=>obtain⟨_,_,_,_,e⟩:=x;show⟨_,e⟩
 |tup xs=>obtain⟨_,_,_,⟨u,e,_⟩,_⟩:=x;show⟨_,e⟩
 |dK χ=>obtain⟨_,_,_,_,o,_,_,e,_⟩:=x;show⟨_,e⟩
 |dT χ=>obtain⟨_,_,_,_,o,_,_,e,_⟩:=x;show⟨_,e⟩
 |dX ob χ=>obtain⟨_,_,e,_⟩:=x;show⟨_,e⟩
 |set S n=>obtain⟨o,_,_,_,e,_⟩:=x;show⟨_,e⟩
 |ins C dx fs=>obtain⟨_,_,_,e,_⟩:=x;show⟨_,e⟩
 |own y=>obtain⟨_,e⟩:=x;show⟨_,e⟩
 |xd fs=>obtain⟨_,⟨_,_,_,e,_⟩,_⟩:=x;show⟨_,e⟩
 |rng lo hi=>obtain⟨_,_,_,e⟩:=x;show⟨_,e⟩
 |xC ob u=>obtain⟨e,_⟩:=x;show⟨_,e⟩
 |LK q=>obtain⟨_,e,_⟩:=x;show⟨_,e⟩
 |met f y=>show⟨_,(show h.get? a=aa _ from x)⟩
 |ext φ=>obtain⟨_,⟨_,e⟩,_⟩:=x;show⟨_,e⟩
section
variable{X:Cx}{π:Q0b}{σ:L2.St}{H:Hp}{s:ao}{h':bb}{e:ah}{cls a0:ai}{P:List ah}
def flown(I:Φ X π σ H s)(T:BJ X π H s e cls a0 P)(J:∀b o,b∉P->b∉frs X.stack->s.heap.get? b=aa o->h'.get? b=aa o)(F:s.heap.UpToSlots h'):Φ X π σ H {s with heap:=h' }:=by
 have frame:∀b∈frs X.stack,∃o,s.heap.get? b=aa o /\∀Y,o.data≠.fields Y:=λb h=>(I.stack.mem h).2;have old:∀b o,X.s₀.heap.get? b=aa o->b∉P:=λb o q h=>by rw[T.new b h] at q;cases q
 have Ha:∀b o,X.s₀.heap.get? b=aa o->b≠X.env.locals:=λb o q=>f_ (gg (bz q) I.ok.above);have cellK:∀c v,s.heap.IsCell c v->h'.IsCell c v:=λc v Ra=>by
  obtain⟨o,ho,hd⟩:=Ra;obtain⟨L,q⟩:=F c o ho λY z=>by rw[hd] at z;cases z
  show⟨_,q,hd⟩
 obtain⟨m,hn,hl⟩:=id I.loc;show⟨I.ok,I.os,I.bare,⟨λb o a n h A=>?_,λb o a n h A=>?_,I.ω.free,λb o a A=>?_,I.ω.tups,I.ω.vN,I.ω.tQ⟩,⟨m,F.ns hn,λi x v h1 h2 h3=>?_⟩,λx c U=>?_,I.free,I.k6,λp hp=>?_,λb ob a=>?_,I.len⟩
 .exact J b o (old b o a) (λz=>(cb.mp (I.oZ b z)).elim (Ha b o a) h) (I.ω.keep b o a n h A)
 .obtain ⟨L,q⟩:=I.ω.slot b o a n h A;obtain⟨_,o2,e2,y⟩:=I.ok.tT.mem h;rw[a] at e2;obtain rfl:=ft e2;obtain⟨K,q2⟩:=F b {o with slots:=L} q y;show⟨K,q2⟩
 .obtain ⟨Z,q⟩:=I.ω.there b o a A;by_cases hf:b∈frs X.stack
  .obtain ⟨o2,e2,y⟩:=frame b hf;obtain⟨L,q2⟩:=F b o2 e2 y;show⟨_,q2⟩
  .exact ⟨Z,J b Z (old b o a) hf q⟩
 .obtain ⟨u,r,l⟩:=hl i x v h1 h2 h3;show⟨u,r,l.imp id λ⟨k,c,U,O⟩=>⟨k,c,U,cellK _ _ O⟩⟩
 .obtain ⟨v,O⟩:=I.cell x c U;show⟨v,cellK _ _ O⟩
 .obtain ⟨q,n,ne,y,d⟩:=I.pin p hp;show⟨J _ _ (λz=>T.pin _ z p hp rfl) (λz=>(cb.mp (I.oZ _ z)).elim ne y) q,n,ne,y,d⟩
 .refine (I.hok b ob a).stay (λc u j q=>J c u (λz=>?_) (λz=>?_) q) (λ_ q=>q) λ_ _ q=>q
  .have fr:=T.free c z;rcases j with rfl|j
   .rw [fr] at a;cases a
   .rw [fr] at j;cases j
  .have fr:=I.AX c z;rcases j with rfl|j
   .rw [fr] at a;cases a
   .rw [fr] at j;cases j
end
def EZ(P:bg)(w:ba):GA:=λouter H s E e s'=>∃(a T:ah) (cls m:ai) (H':Hp) (h l:az) (d j:Array ai),e=.ref a/\s'.os=s.os/\ki s'.gens/\Un (frs outer) [] H H' s.heap s'.heap/\n9 P w H' s'.heap /\
 H' a=af/\H' T=af/\s.heap.get? a=af/\s.heap.get? T=af/\T≠a/\s'.heap.get? a=aa h/\(h.cls=cls/\d[0]?=aa m)/\h.data=.fields d/\d[1]?=aa (.ref T)/\s'.heap.get? T=aa l/\l.data=.fields j/\j[3]?=aa .none/\E cls af H'
section
variable{P:bg}{w:ba}{K:ar}{mg:Q0d}{ω:bb}{N:Q0g}{qual:ak}{scope:gj}{f:ah}{cd:ai}{A:br}{outer:List dq}{s0:ao}{H0:Hp}{E:XK}
theorem R7(I:Φ (mT (EZ P w) P w K mg ω N qual scope f cd A outer s0 H0 E) π σ H s)
  (T:BJ (mT (EZ P w) P w K mg ω N qual scope f cd A outer s0 H0 E) π H s e cls a0 Q) (hE:E cls af H):(mT (EZ P w) P w K mg ω N qual scope f cd A outer s0 H0 E).xe (.ref e) s:=by
 generalize j:mT (EZ P w) P w K mg ω N qual scope f cd A outer s0 H0 E=X at I T;have st:X.stack=X.env::outer:=by rw[<- j];rfl
 have hin:∀env∈X.stack,∀b,env.frame=aa b->b∈Q++frs X.stack:=λenv n b hb=>gu _ (uq.mpr ⟨env,n,hb⟩);have stay:(hideAll s.heap (Q++frs X.stack)).StaysIn s.heap:=λb o q=>a0F _ q;have fns:s.heap.FunFrames (hideAll s.heap (Q++frs X.stack)) X.stack:=PySem.W.funFrames_hide I.stack hin;have m:(hideAll s.heap (Q++frs X.stack)).get? e=af:=Cu _ (iq _ T.mem);have fin:∀h',Heap.LeftW (hideAll s.heap (Q++frs X.stack)) X.stack e cls a0 s.heap h'->EZ P w outer H0 s0 E (.ref e) {s with heap:=h' }:=λh' Q_=>by
  obtain⟨k1,k2,k3,k4⟩:=Q_;have J:=flown I T (λb o n1 n2 q=>k1 b o (Cv _ q λz=>(di.mp z).elim n1 n2)) k4;obtain⟨O,y,a,Z,F,n,v,p,x,hnT,Y,U,h,h3⟩:=k3;have d:a∉frs X.stack:=λz=>by obtain⟨_,o,ho,nf⟩:=I.stack.mem z;obtain⟨sl,q⟩:=k4 a o ho nf;rw[U] at q;cases q;show nf F h
  have zv:a∈Q\/s.heap.get? a=af:=by
   by_cases hq:a∈Q
   .exact .inl hq
   .right
    cases q:s.heap.get? a with
    |none=>rfl
    |some o =>
     have:=Cv (Q++frs X.stack) q λz=>(di.mp z).elim hq d;rw[hnT] at this;cases this
  have e1:X.fs=frs outer:=by rw[<- j];rfl
  have e2:X.ex=[]:=by rw[<- j];rfl
  have e3:X.H₀=H0:=by rw[<- j];rfl
  have e4:X.s₀=s0:=by rw[<- j];rfl
  have e5:X.Ω=P:=by rw[<- j];rfl
  have e6:X.w=w:=by rw[<- j];rfl
  have b0:=J.ω;have b1:=J.hok;have b2:=J.os;rw[e1,e2,e3,e4] at b0;rw[e5,e6] at b1;rw[e4] at b2;show⟨e,a,cls,a0,H,O,Z,y,F,rfl,b2,J.bare,b0,b1,T.free e T.mem,?_,?_,?_,Y,n,v,p,x,U,h,h3,hE⟩
  .rcases zv with z|z
   .exact T.free _ z
   .cases q:H a with
    |none=>rfl
    |some o =>
     obtain⟨u,eu⟩:=zM (I.hok _ _ q);rw[z] at eu;cases eu
  .rw [<- e4];show T.new e T.mem
  .rcases zv with z|z
   .rw [<- e4];show T.new _ z
   .cases q:s0.heap.get? a with
    |none=>rfl
    |some o =>
     have tb:=I.ω.there a o (by rw[e4];show q) (by rw[e2];simp);obtain⟨o',eo⟩:=tb;rw[z] at eo;cases eo
 have go:aw (ay P w) X.A (leaving X.env (.ref e)) (λ_ l=>EZ P w outer H0 s0 E (.ref e) l) (λe' l=>EZ P w outer H0 s0 E e' l) s:=by
  have d:=I.ok.frames;have hf:X.env.frame=aa X.env.locals:=by rw[<- j];rfl
  rw[st] at d;rw[st] at fns fin m stay;rcases T.tr with⟨O,y,n,v,p,x,h0⟩|⟨O,y,a,Z,F,n,v,p,x,hm,Y,U,h,h3⟩
  .subst v;show wpAny_leaving_firstW d fns hf n stay m p x h0 λh' L=>fin h' L
  .refine wpAny_leaving_nextW d fns hf ⟨O,y,a,Z,F,n,v,p,x,Cu _ (iq _ hm),Y,U,h,h3⟩ stay m λh' L=>fin h' L
 rw[<- j] at go ⊢;show go
end
theorem EG(Z:X.ex=[])(I:Φ X π σ H s)(c:EZ X.Ω X.w X.stack H s E e s'):
  ∃d cls l H' Q,e=.ref d/\Φ X π σ H' s'/\BJ X π H' s' d cls l Q/\E cls af H':=by
 obtain⟨d,T,cls,l,H',v,x,m,n,rfl,O,bare,un,j,Y,U,g1,g2,L,y,hc,A,h1,F,h,h3,hE⟩:=c;have J:Φ X π σ H' s':=I.call' (ch:=[]) O un j bare λb z=>Zw z (by simp);have no:∀q,q∈[d,T]->s.heap.get? q=af:=λq a=>by
  rcases cb.1 a with rfl|a
  .exact g1
  .rw [bt.mp a];show g2
 show⟨d,cls,l,H',[d,T],rfl,J,⟨cq,λq a=>?_,λq a=>?_,λq a=>?_,λq a p hp z=>?_,.inr ⟨v,m,T,x,n,y,hc,A,h1,by simp,L,F,h,h3⟩⟩,hE⟩
 .rcases cb.1 a with rfl|a
  .exact Y
  .rw [bt.mp a];show U
 .cases k:X.s₀.heap.get? q with
  |none=>rfl
  |some o =>
   obtain⟨o',K⟩:=I.ω.there q o k (by rw[Z];simp);rw[no q a] at K;cases K
 .rcases cb.1 a with rfl|a
  .exact ⟨v,m,y,A⟩
  .rw [bt.mp a];show⟨x,n,F,h⟩
 .have:=(I.pin p hp).1;rw[z,no q a] at this;cases this
def sp5(K:ar)(mg:Q0d)(R:jV):Sp:=λh H Q E=>∃(S:ah->Prop) (ds:List D),(∀a,H a=af->S a)/\aZ K S H ds h/\match R ds with
 |.ok d=>∀v H',ξ H H'->Dn K S H' d v->Q v H'
 |.ex c=>∃C:ah,mg c=aa (.ref C) /\∀H',ξ H H'->E (.ref C) af H'
 |.no=>False
theorem G_{P:bg}{w:ba}{K:ar}{mg:Q0d}{ω:bb}{x qual:ak}{st:c_}{f:ah}{fd:h_}{N j:Q0g}{k n y:Nat}{b:SF}(F:YR K x qual st f fd)(S:hJ N j (bJ st))(hn:N.length=n)(J:j.length=y)
  (m:∀(l:ai) (A:br) (outer:List dq) (s:ao) (H:Hp) (E:XK),gA k (A.deeper (envOfC qual (bJ st) s.heap.objs.size f l)) ->
   qO (mT (EZ P w) P w K mg ω N qual (bJ st) f l A outer s H E) (fN st) b):mS P w K mg ω (EZ P w) (k+1) f fd j (sp5 K mg (cM n y b)):=by
 subst hn J;obtain⟨oc,od,kV,doc,pm,an,l,ct,Y,rfl,Z,p⟩:=F.ex;have hlen:∀ds:List D,cM N.length j.length b ds≠.no->ds.length=j.length:=λds h=>by
  by_cases e:ds.length=j.length
  .exact e
  .exact Zw (show cM N.length j.length b ds=.no by unfold cM;rw[Zz e]) h
 show YN Z p S (λU H Q E h=>?_) λA outer s H U Q E hr h=>?_
 .obtain ⟨S',ds,_,dn,a⟩:=h;rw[<- dn.len];show hlen ds λz=>by rw[z] at a;show a
 .obtain ⟨S',ds,fc,dn,a⟩:=h;have hl:ds.length=j.length:=hlen ds λz=>by rw[z] at a;show a
  have hdn:=dn.len;show⟨_,m l A outer s H E hr,H,S',λ_=>0,j9 N ds,[],{nx:=λ_=>cM N.length j.length b ds=.ok .non,rt:=λd=>cM N.length j.length b ds=.ok d,ex:=λc=>cM N.length j.length b ds=.ex c},?_,DM fc dn,?_,⟨λw' L H' O _ o q=>?_,λv H' d s' d' q=>?_,λ_ _ _ _ _ _ q=>q,λ_ _ _ _ _ _ q=>q,λc H' X q=>?_⟩⟩
  .have J:j.length<=N.length:=by have:=congrArg qy S.pre;rw[jo] at this;lia
   unfold L2.start;show _=N.length;rw[bq,a_,mx];lia
  .have e2:j9 N ds=eG N.length ds:=rfl;have e3:cM N.length j.length b ds=(match b (eG N.length ds) with | .rt d=>.ok d | .nx _=>.ok .non | .ex c=>.ex c | .no=>.no):=by unfold cM;rw[Z_ hl]<;>cases b (eG N.length ds)<;>rfl
   rw[e3] at a;unfold wS;rw[e2]
   cases hb:b (eG N.length ds) with
   |rt d'=>rw[hb] at e3;show e3
   |nx ρ=>rw[hb] at e3;show e3
   |ex c=>rw[hb] at e3;show e3
   |no=>rw[hb] at a;show a
  .rw [q] at a;show a .non H' o.sm (by symm)
  .rw [q] at a;show a v H' s' d'
  .rw [q] at a;obtain⟨C,hm,hE⟩:=a;show⟨C,hm,λπ σ s' e a0 P I T=>R7 I T (hE H' X)⟩
theorem fd5{P:bg}{w:ba}{K:ar}{mg:Q0d}{ω:bb}{x:ak}{st:c_}{N d:Q0g}{k n j:Nat}{b:SF}(D:Df K mg x st d)
  (h:∀{f:ah} {a:ai} {A:br} {outer:List dq} {s:ao} {H:Hp} {E:XK},gA k (A.deeper (envOfC x (bJ st) s.heap.objs.size f a))->N.Nodup->qO (mT (EZ P w) P w K mg ω N x (bJ st) f a A outer s H E) (fN st) b)
  (S:hJ N d (bJ st)<|>9) (p:N.length=n<|>0) (o:d.length=j<|>0):Cl P w K mg ω (EZ P w) (k+1) x d (sp5 K mg (cM n j b)):=by
 obtain⟨_,F,m,q⟩:=D;show⟨G_ F S p o λ_ _ _ _ _ _ l=>h l S.nd,m,F.kp,q⟩
section
variable{X:Cx}{k:Nat}{f:ah}{fd:h_}{ps:Q0g}{R:jV}{x:ak}{p ν:bc}{e:au}{es:List au}{t:AF}
theorem zN(C:Cl X.Ω X.w X.K X.mg X.ω (EZ X.Ω X.w) k x ps (sp5 X.K X.mg R))(J:gA k X.A)
  (ha:tY X (e::es) t) (U:Gl X x<|>0) (m:Zu x<|>1) (Y:Zq X e es<|>0) (l:Q0m X ν es<|>0):
  bR X (.Call (.Name x p) (e::es) [] ν) (aM R t):=by
 obtain⟨F,L,O,Z⟩:=C;show imp (A4 (E:=E0) F J U L O Z .nil (λπ σ H s e s' _ c=>by obtain⟨_,_,_,_,_,_,_,_,_,_,_,_,_,_,_,_,_,_,_,_,_,_,_,_,_,_,hE⟩:=c;show hE.elim) ha m Y l) λσ H Q Qo=>?_;obtain⟨S,ρ,Q3,o,y,⟨d,a,I⟩,k⟩:=Qo;obtain⟨ds,et,a⟩:=bnd a;show⟨S,ρ,λz=>z=ds,o,y,⟨ds,et,rfl⟩,λq H1 j n d1 q1=>?_⟩;subst q1;show sp5 X.K X.mg R (q++[]) H1 Q E0;rw[jk];show⟨S,j,bI o n,d1,?_⟩
 cases h:R j with
 |ok d'=>rw[h] at a;cases a;show λv H' s' d'=>k v H' _ (n.trans s') d' I
 |no=>rw[h] at a;cases a
 |ex c=>rw[h] at a;cases a
def tR(X:Cx)(r:RF):TE:=λσ H _=>∃(S:ah->Prop) (ρ:b7) (c:ak),(∀a,H a=af->S a)/\Sl X.K S H ρ σ/\r ρ=aa c /\∀H',ξ H H'->XC X c H'
def PR(X:Cx)(e:au)(r:RF):Prop:=PE X e (tR X r)
theorem G7(U:X.ex=[])(C:Cl X.Ω X.w X.K X.mg X.ω (EZ X.Ω X.w) k x ps (sp5 X.K X.mg R))(Y:gA k X.A)
  (ha:tY X (e::es) t) (hg:Gl X x<|>0) (v:Zu x<|>1) (he:Zq X e es<|>0) (o:Q0m X ν es<|>0):
  PR X (.Call (.Name x p) (e::es) [] ν) (uQ R t):=by
 obtain⟨F,Z,hk,hb⟩:=C;show imp (A4 (E:=λcls _ H'=>∃c C,cls=.ref C/\X.mg c=aa (.ref C)/\XC X c H') F Y hg Z hk hb .nil (λπ σ H s e s' I c=>by obtain⟨ea,cls,a0,H',Q,rfl,J,T,c,C,rfl,q,C2,l,xc⟩:=EG U I c;rw[q] at l;cases l;show xc π σ s' ea a0 Q J T) ha v he o) λσ H Q hV=>?_
 obtain⟨S,ρ,c,y,O,ec,k⟩:=hV;obtain⟨ds,et,a⟩:=bnd ec;show⟨S,ρ,λz=>z=ds,y,O,⟨ds,et,rfl⟩,λvs H1 m n d1 q1=>?_⟩;subst q1;rw[jk];show⟨S,m,bI y n,d1,?_⟩
 cases h:R m with
 |ex c' =>
  rw[h] at a;cases a;obtain⟨C,j,_⟩:=k H1 n;show⟨C,j,λH' L=>⟨c,C,rfl,j,k H' (n.trans L)⟩⟩
 |ok d=>rw[h] at a;cases a
 |no=>rw[h] at a;cases a
def R8{e:au}{t u:TE}(a:PE X e t)(h2:PE X e u):PE X e (λσ H Q=>t σ H Q\/u σ H Q):=λπ s σ H Q I h=>h.elim (a π s σ H Q I) (h2 π s σ H Q I)
theorem Qn{e:au}{f:EF}{r:RF}{ν:bc}(h:bR X e f)(m:PR X e r):oH X (.Return (aa e) ν) (uR r (bY f)):=iD (QD (R8 m h)) λB σ H n=>by
 obtain⟨H₀,S,w,ρ,G,E,o,st,a,ok⟩:=n;unfold wS uR at a
 cases hc:r (bB ρ) with
 |some c =>
  rw[hc] at a;show .inl ⟨S,bB ρ,c,st.GK,st.all,hc,λH' j=>ok.ex c H' (st.sm.trans j) a⟩
 |none =>
  rw[hc] at a;dsimp only at a;unfold bY at a
  cases hf:f (bB ρ) with
  |none=>rw[hf] at a;show a.elim
  |some d =>
   rw[hf] at a;show .inr ⟨S,bB ρ,_,st.GK,st.all,⟨d,hf,a⟩,λv H' d s' d' l=>ok.rt v H' d (st.sm.trans s') d' l⟩
theorem R9{e:au}{f:EF}{r:RF}{ν:bc}(h:bR X e f)(n:PR X e r)(m:df e af ν.line X.env=pure ag<|>0):oH X (.Expr e ν) (uR r (sX (aT f))):=iD (JE (R8 n h) m) λB σ H q=>by
 obtain⟨H₀,S,w,ρ,G,E,o,st,a,ok⟩:=q;unfold wS uR at a
 cases hc:r (bB ρ) with
 |some c =>
  rw[hc] at a;show .inl ⟨S,bB ρ,c,st.GK,st.all,hc,λH' j=>ok.ex c H' (st.sm.trans j) a⟩
 |none =>
  rw[hc] at a;dsimp only at a;unfold sX aT at a
  cases hf:f (gO ρ) with
  |none=>rw[hf] at a;show a.elim
  |some d =>
   rw[hf] at a;show .inr ⟨_,gO ρ,_,st.JQ,st.rd,⟨d,hf,a⟩,λv H' d s' d' l=>ok.nx w σ H' ρ o (st.same s') l⟩
end
abbrev bmV:List ai:=[.type "ValueError",.type "Exception",.type "BaseException",.type "object"]
structure SA (K:ar) (C:ah):Prop where
 ex:∃nm q N bs bm hdct sn sub ab col dd k0 k1 k2 k3 k5,K.lookup C=aa (excClassObj nm q C N bs bm hdct sn sub ab col dd k0 k1 k2 k3 k5 "ValueError.__new__")/\PySem.W.tailIn K bmV bm=ae/\PySem.W.nsOkIn K N=ae/\Cs K N "__init__"=aa af
section
variable{X:Cx}
theorem G8(hx:X.ex=[])(h:X.calm=ae)(O:X.mg c=aa (.ref C))(hC:SA X.K C)(ha:tY X (e::es) t)(hg:Gl X c<|>0)(hd:Zu c<|>1)
  (U:Zq X e es<|>0) (A:Q0m X cpos es<|>0):
  oH X (.Raise (aa (.Call (.Name c np) (e::es) [] cpos)) af ν) (pR t c):=by
 intro π s σ H B I ⟨H₀,S,w,ρ,G,E,hl,st,a,ok⟩;unfold wS pR at a
 cases et:t (bB ρ) with
 |none=>rw[et] at a;show a.elim
 |some ds =>
  rw[et] at a;dsimp only at a;by_cases y:ds.length<=10
  .rw [Z_ y] at a;obtain⟨nm,q,N,bs,bm,hdct,sn,sub,ab,col,dd,k0,k1,k2,k3,k5,lk,J,no,ni⟩:=hC.ex;show wpAny_Raise_call_subT (C:=C) (nm:=nm) (q:=q) (N:=N) (bs:=bs) (bm:=bm) (hdct:=hdct) (sn:=sn) (sub:=sub) (ab:=ab) (col:=col) (dd:=dd) (k0:=k0) (k1:=k1) (k2:=k2) (k3:=k3) (k5:=k5) (mN:=X.ω.nsMap N)
    PySem.F.excBase_ValueError ((a0D I.xE J).hasType rfl) (I.ok.hd h) (by rw[U];show(ag||(dj cpos (av es X.env)).any (·.1))=ag;rw[A];rfl) (PySem.W.nsMap_none_of_in I.ok.mod.kin no ni) (AZ I hg O ⟨rfl,?_⟩ hd)
   have hN:X.ω.Ns N (X.ω.nsMap N):=.of_isNs (PySem.W.isNs_of_in I.ok.mod.kin no);have args:=ha cpos π s σ H (λx l=>x.length=ds.length/\ξ H l) I ⟨S,bB ρ,λz=>z=ds,st.GK,st.all,⟨ds,et,rfl⟩,λx l ds' v d1 q1=>⟨by rw[<- d1.len,q1],v⟩⟩;rw[U] at args ⊢;show Dh (ka args (λus v ⟨x,l,j,r,hlen,sm⟩=>?_) λ_ _ z=>z);show⟨rfl,?_,j.xE _ _ lk,hN.keeps j.bk,a0D j.xE J,λh' n mk=>?_⟩
   .show us.length<=bf;rw[<- r.length,hlen];show gi y (by decide)
   .obtain ⟨C',m,xc⟩:=ok.ex c l (st.sm.trans sm) a;rw[O] at m;cases m;obtain⟨tt,L,_,_⟩:=mk.there;have I2:Φ X π σ l {v with heap:=h' }:=j.kept (t':=v.toks) mk.keeps;show xc π σ _ n (.ref tt) [n] I2 ⟨cq,λq d=>?_,λq d=>?_,λq d=>?_,λq d p hp z=>?_,.inl ⟨_,_,L,rfl,rfl,rfl,rfl⟩⟩
    .rw [bt.1 d]
     cases k:l n with
     |none=>rfl
     |some o =>
      obtain⟨u,Y⟩:=zM (j.hok _ _ k);rw[mk.new] at Y;cases Y
    .rw [bt.1 d]
     cases k:X.s₀.heap.get? n with
     |none=>rfl
     |some o =>
      obtain⟨o',Z⟩:=j.ω.there n o k (by rw[hx];simp);rw[mk.new] at Z;cases Z
    .rw [bt.1 d];show⟨_,_,L,rfl⟩
    .have:=(j.pin p hp).1;rw[z,bt.mp d,mk.new] at this;cases this
  .rw [Zz y] at a;show a.elim
end
open PySem.W Builtin.ObjectAttr Builtin.Getset_descriptor
structure Af (K:ar) (C:ah):Prop where
 hc:isClsIn K C=ae
 hm:mroIn K C (.type "object")=aa ae
 hs:subIn K (.ref C) (.type "BaseException")=aa ae
 hga:findIn K (.ref C) "__getattribute__"=aa (aa (.builtin "BaseException.__getattribute__"))
 hgg:findIn K (.ref C) "__getattr__"=aa af
 ha:findIn K (.ref C) "__class__"=aa (aa (.builtin "object.__class__"))
 hn:specialIn K (.builtin "object.__class__") "__get__"=aa (aa (.builtin "getset_descriptor.__get__"))
 ht:takesIn K (.builtin "object.__class__")=aa ae
section
variable{X:Cx}
def Wd(X:Cx)(e C:ah):Prop:=∃a:az,(e,a)∈X.pn/\a.cls=.ref C
end
def hcx(X:Cx)(a:Option ai)(pn:Q0b):Cx:={X with A:=X.A.mark a,calm:=ag,pn:=pn,xe:=λ_ _=>False}
section
variable{X:Cx}
def NH(j:X.calm=ae):fV X (.builtin "min") (λxs H Q=>∃a b,xs=[.int a,.int b]/\Q (.int (if b<a then b else a)) H):=by
 intro π s σ H xs l Q I r h;obtain⟨a,b,rfl,q⟩:=h;obtain⟨u1,u2,rfl,⟨t1,rfl⟩,⟨t2,rfl⟩⟩:=vals2 r;show min_two_ints (I.ok.hd j) λh' tk d=>⟨_,H,I.kept d,?_,q⟩;by_cases z:b<a
 .rw [Z_ z,Z_ z];show⟨_,rfl⟩
 .rw [Zz z,Zz z];show⟨_,rfl⟩
theorem NI(j:X.calm=ae):fV X (.builtin "max") (λxs H Q=>∃a b,xs=[.int a,.int b]/\Q (.int (if b>a then b else a)) H):=by
 intro π s σ H xs l Q I r h;obtain⟨a,b,rfl,q⟩:=h;obtain⟨u1,u2,rfl,⟨t1,rfl⟩,⟨t2,rfl⟩⟩:=vals2 r;show max_two_ints (I.ok.hd j) λh' tk d=>⟨_,H,I.kept d,?_,q⟩;by_cases z:b>a
 .rw [Z_ z,Z_ z];show⟨_,rfl⟩
 .rw [Zz z,Zz z];show⟨_,rfl⟩
def SD(g:Int->Int->Int):F1
 |[.int a,.int b],Q=>Q (.int (g a b))
 |_,_=>False
theorem J9{K:ar}{g:Int->Int->Int}:C3 K (λxs H Q=>∃a b,xs=[.int a,.int b]/\Q (.int (g a b)) H) (SD g):=by
 intro S H xs ds Q3 Q p m d k
 match ds,d with
 |[.int a,.int b],d =>
  obtain⟨v,r,rfl,l,h2⟩:=m.bL;obtain⟨n,o,rfl,j,h⟩:=h2.bL;simp only[aZ] at h;subst h;symm at l j;subst l j;show⟨a,b,rfl,k _ H _ (ξ.refl H) (by symm) d⟩
def G9:kD (SD λa b=>if b<a then b else a) xZ:=λds d Q e q=>by
 unfold xZ at e;split at e
 .cases e;show q
 .cases e
def HA:kD (SD λa b=>if b>a then b else a) pQ:=λds d Q e q=>by
 unfold pQ at e;split at e
 .cases e;show q
 .cases e
def Qk(m:X.calm=ae)(h:X.mg "min"=af)(n:tY X [a,b] t)(j:Gl X "min"<|>0)(l:(av [a,b] X.env=(ag,eval a X.env)::av [b] X.env)<|>0)(d:(dj ν (av [b] X.env)).any (·.1)=ag<|>0):bR X (.Call (.Name "min" p) [a,b] [] ν) (bH xZ t) :=
 cE (rX (NH m) J9 a3W j h n (by decide) (by decide) l d) (xV G9)
def ZA(m:X.calm=ae)(h:X.mg "max"=af)(n:tY X [a,b] t)(j:Gl X "max"<|>0)(l:(av [a,b] X.env=(ag,eval a X.env)::av [b] X.env)<|>0)(d:(dj ν (av [b] X.env)).any (·.1)=ag<|>0):bR X (.Call (.Name "max" p) [a,b] [] ν) (bH pQ t) :=
 cE (rX (NI m) J9 a1C j h n (by decide) (by decide) l d) (xV HA)
def CPB(i j:Int):Prop:=0<=j/\j<=100/\i.natAbs<2^1000
def W4:iC X (binaryOp .Pow) (rI CPB λi j=>.int (i^j.toNat)):=VF λ_ _ _ _ _ _ _ d q=>by obtain⟨a,l,h⟩:=d;show a3T a (Et (Int.mul_le_mul_of_nonneg_right (?_:_<=(1000:Int)) a) ∅) q;have:=Dr h;lia
def SE(l:bR X a fa)(d:bR X b fb):bR X (.BinOp a .Pow b ν) (aB mG fa fb):=cE (Q8 W4 lW l d) (fW (eV λi j h=>by simp only[cm,decide_eq_true_eq] at h;show⟨h.1.1,h.1.2,h.2⟩))
def nI{p:Prop}(h:ag=ae):p:=nomatch h
def ExI(mro:Q0f)(l:List (Option ai))(P:ah->List ai->String->Bool):Prop:=∃C1 bm j y1 h d n a,mro=.ref C1::bm/\l=[j,y1,h,d,aa (.builtin n),a]/\P C1 bm n=ae
theorem NJ(h:excIn.match_1 (λ_ _=>Bool) mro sl (λC1 bm _ _ _ _ n _=>P C1 bm n) (λ_ _=>ag)=ae):
  ExI mro sl P:=by
 cases mro with
 |nil=>show nI h
 |cons v bm =>
 cases v with
 |ref C1 =>
  cases sl with
  |nil=>show nI h
  |cons y0 sl =>
  cases sl with
  |nil=>show nI h
  |cons y1 sl =>
  cases sl with
  |nil=>show nI h
  |cons y2 sl =>
  cases sl with
  |nil=>show nI h
  |cons y3 sl =>
  cases sl with
  |nil=>show nI h
  |cons y4 sl =>
  cases y4 with
  |none=>show nI h
  |some w =>
  cases w with
  |builtin n =>
   cases sl with
   |nil=>show nI h
   |cons y5 sl =>
   cases sl with
   |cons z sl=>show nI h
   |nil=>show⟨C1,bm,y0,y1,y2,y3,n,y5,rfl,rfl,h⟩
  |_=>show nI h
 |_=>show nI h
def W5{K:ar}{C:ah}(h:excIn K C bmV "ValueError.__new__"=ae):SA K C:=by
 unfold excIn at h;split at h
 .rename_i dd cd a lk;obtain⟨C1,bm,o,y1,m,l,n,j,d,e2,h⟩:=NJ h;obtain⟨O,J,Y,I,F,A,z,y,x,U,L⟩:=cd;obtain⟨a⟩:=a;dsimp only at d e2 h;subst d e2;simp only[cm,beq_iff_eq,jg] at h;obtain⟨⟨⟨⟨⟨g1,g2⟩,g3⟩,v⟩,q⟩,p⟩:=h;subst g1 g2 g3;show⟨⟨O,F,I,J,bm,A,z,y,x,U,dd,o,y1,m,l,j,lk,v,q,p⟩⟩
 .cases h
end
variable{K:ar}{C D:ah}
structure Wc (K:ar) (C D:ah):Prop where
 ne:(fm C == fm D)=ag
 c:isClsIn K D=ae
 t:typeIn K (.ref D)=aa (.type "type")
 s:subIn K (.ref C) (.ref D)=aa ag
end L5
namespace L5
open PySem.Spec PyProof.Rows L2 L3 L4
section
variable{X:Cx}
def PRs(X:Cx)(a:List au)(r:RF):Prop:=PA X a (λσ H _=>tR X r σ H λ_ _=>True)
def Q6(h:PA X es t)(f:∀σ H Q,t' σ H Q->t σ H Q):PA X es t':=λa π s σ H Q I q=>h a π s σ H Q I (f σ H Q q)
def Wb(d:PR X e r)(j:tY X es t)(a:Zq X e es<|>0):PRs X (e::es) r :=
 Q6 (j5 d j a) λσ H Q h=>h
def Qj{x1}(h:PRs X es r):PR X (.Tuple es x1 ν) r:=imp (QM h) λσ H Q h=>h
end
open TL
section
variable{X:Cx}
def wN(I:GY X e f)(F:TN X tg (wG g))(A:swapsWithSole [tg] e ν.line X.env=pure ag<|>0)(hw:swappedStores [tg] e X.env=pure af<|>0)
  (J:(cp [tg] X.env).map (·.2)=[assign tg X.env]<|>0):oH X (.Assign [tg] e ν) (oP f g) :=
 iD (QF I F A hw J) λB σ H O=>by
  obtain⟨H₀,S,w,ρ,G,E,q,st,d,ok⟩:=O;unfold wS oP at d
  cases e1:(f ρ).bind λp=>g p.2 p.1 with
  |none=>rw[e1] at d;show d.elim
  |some ρ' =>
   rw[e1] at d;obtain⟨p,L,K⟩:=bnd e1;show⟨H₀,S,w,ρ,G,λa x=>a=p.1/\x=p.2,q,st,⟨p,L,rfl,rfl⟩,λo v H' a x m d' z=>?_⟩;obtain⟨rfl,rfl⟩:=z;show⟨H₀,S,o,p.1,G,p.2,_,q,m,d',⟨ρ',K,d⟩,λh U j n l y=>ok.nx o h U j n l y⟩
end
section
variable{X:Cx}
section
variable{ls fs:Q0g}{fr:List Nat}{sc:gj}{tg iter elt:au}{ifs:List au}{ν:bc}{i:Nat}{x:ak}{spos pos':bc}
theorem HB{m:WI}{g:GE}{tf:WT}{te:WE}(nd:X.N.Nodup)(L:X.calm=ae)(hi:N0 X tg iter m)
  (F:∀a C pn ex s H,(blk X (ls++fs) sc a C pn ex s H).N.Nodup->WL (blk X (ls++fs) sc a C pn ex s H) ls.length tg g) (I:∀a C pn ex s H,GR (blk X (ls++fs) sc a C pn ex s H) ifs tf) (J:∀a C pn ex s H,cK (blk X (ls++fs) sc a C pn ex s H) elt te)
  (h:X.N[i]?=aa x<|>0) (v:X.env.scope.names.lookup x=aa .local<|>0) (j:gV X elt tg iter ifs sc ν x pos' spos<|>0)
  (B:MM X.env.scope.names sc X.N ls fs fr=ae<|>0) (z:Zn X iter<|>4):xS X (.Assign [.Name x pos'] (.ListComp elt [⟨tg,iter,ifs,0⟩] sc ν) spos) (Y2 i (zC ls.length fr m g tf te)) :=
 iD (pF (g:=rY X.K ls.length (ls++fs).length g) (tf:=liftT X.K tf) (te:=lift X.K te) nd h v L (i6 B) hi (λa C pn ex s H=>F a C pn ex s H (i6 B).nd) I J j z) λU σ H O=>by
 obtain⟨H₀,S,w,ρ,G,E,q,st,y,ok⟩:=O;show n4 (n:=(ls++fs).length) (by rw[bq,(i6 B).BI]) ⟨_,bB ρ,_,st.GK,st.all,y,λp xs H' ds A l s' d' o=>ok.nx w _ H' _ (by rw[dm];show q) ((st.same s').hZ (d:=.lst ds) (by rw[q];show eZ h) (by symm;show⟨p,xs,rfl,l,st.JQ p A,aZ.qW o.1 d'⟩)) o.2⟩
variable{it:AF}{g:TU}{t:TF}{e:EF}
def Qg{f:EF}{ρ:b7}{Q:D->Prop}{o:Out}{d:D}(h:f ρ=aa d)(a:mF d=ae)(q:Q d):wE f ρ λd=>(match d with | .lst ds=>jT ds=ae|_=>False)/\Q d:=by show⟨d,h,?_,q⟩;cases d<;>first|show a|cases a
theorem HC(nd:X.N.Nodup)(z:X.calm=ae)(hi:MU X tg iter it)
  (q:∀a C pn ex s H,(blk X (ls++fs) sc a C pn ex s H).N.Nodup->G4 (blk X (ls++fs) sc a C pn ex s H) ls.length tg g) (v:∀a C pn ex s H,M1 (blk X (ls++fs) sc a C pn ex s H) ifs t) (y:∀a C pn ex s H,bR (blk X (ls++fs) sc a C pn ex s H) elt e)
  (j:X.N[i]?=aa x<|>0) (n:X.env.scope.names.lookup x=aa .local<|>0) (l:gV X elt tg iter ifs sc ν x pos' spos<|>0)
  (B:MM X.env.scope.names sc X.N ls fs fr=ae<|>0) (p:Zn X iter<|>4):oH X (.Assign [.Name x pos'] (.ListComp elt [⟨tg,iter,ifs,0⟩] sc ν) spos) (kL i (cB ls.length fr it g t e)) :=
 cS (HB nd z hi q v y j n l B p) λE ρ w=>by
  unfold wS kL at w
  cases h:cB ls.length fr it g t e (bB ρ) with
  |none=>rw[h] at w;show w.elim
  |some d =>
   rw[h] at w;dsimp only at w;by_cases m:mF d=ae
   .rw [Z_ m] at w;show BP _ _ (Qg (o:=.no) (Q:=λd=>E.nx (ρ.set i (.ro d))) h m w)
   .rw [Zz m] at w;show w.elim
end
theorem BU:∀(l:Q0e) (a M:Int),(M=a\/M∈l)->a<=M->(∀b∈l,b<=M)->l.foldl (λm b=>if m<b then b else m) a=M
 |[],a,M,h,_,_=>by
  rcases h with h|h
  .exact h.symm
  .cases h
 |b::l,a,M,h,ha,hb=>by
  have n:=hb b (by simp);rw[ll];by_cases d:a<b
  .rw [Z_ d];show BU l b M ?_ n λc j=>hb c (by simp[j]);rcases h with h|h
   .omega
   .rcases cb.mp h with h|h
    .exact .inl h
    .exact .inr h
  .rw [Zz d];show BU l a M ?_ ha λc j=>hb c (by simp[j]);rcases h with h|h
   .exact .inl h
   .rcases cb.mp h with h|h
    .exact .inl ∅
    .exact .inr h
end
section
variable{X:Cx}
def Wa{st:c_}{t:TS}(h:PS X.TK st t):PS X st t:=λπ s σ H D I hw=>ka (h π s σ H D (I.wish λ_ _=>False) hw) (λ_ _ q=>SP.lO q) λ_ _ z=>z.elim
theorem Qf{st:c_}{f:SF}(h:oH X.TK st f):oH X st (TY f):=iD (Wa h) λB σ H l=>by
 obtain⟨H₀,S,w,ρ,G,E,m,j,a,ok⟩:=l;show⟨H₀,S,w,ρ,G,{E with ex:=λ_=>False},m,j,?_,⟨ok.nx,ok.rt,ok.bk,ok.ct,λ_ _ _ q=>q.elim⟩⟩;unfold wS TY at a;unfold wS
 cases hf:f ρ with
 |nx ρ1=>rw[hf] at a;show a
 |rt d=>rw[hf] at a;show a
 |no=>rw[hf] at a;show a
 |ex c=>rw[hf] at a;show a.elim
end
end L5
namespace L6
open PySem.Spec PyProof.Rows
def Up(l:List Nat):Prop:=l.Pairwise (·<·)
theorem vG(xs:Array Nat)(j:Nat)(up:Up xs.toList):∀f lo hi,hi-lo<=f->lo<=hi->hi<=xs.size->(∀i,i<lo->xs.getD i j<j)->(∀i,hi<=i->i<xs.size->j<=xs.getD i j) ->
  xn xs j f lo hi<=xs.size/\(∀i,i<xn xs j f lo hi->xs.getD i j<j) /\∀i,xn xs j f lo hi<=i->i<xs.size->j<=xs.getD i j:=by
 have mono:∀i k,i<=k->k<xs.size->xs.getD i j<=xs.getD k j:=λi k v p=>by
  by_cases e:i=k
  .subst e;show bh _
  .have n:i<xs.size:=by lia
   have:=lg.mp up i k (by simpa using n) (by simpa using p) ∅;simp only[uy,n,p,dif_pos];simpa using kj this
 intro f
 induction f with
 |zero =>
  intro lo hi n h2 m l h;have:lo=hi:=by lia
  subst this;show⟨m,l,h⟩
 |succ f ih =>
  intro lo hi n h2 m l h;unfold xn;by_cases o:lo<hi
  .rw [Z_ o];dsimp only;by_cases d:xs.getD ((lo+hi)/2) j<j
   .rw [Z_ d];show ih _ _ ∅ ∅ m (λi a=>?_) h;show a1X (mono i ((lo+hi)/2) ∅ ∅) d
   .rw [Zz d];show ih _ _ ∅ ∅ ∅ l λi a q=>?_;show gi (Nat.not_lt.mp d) (mono _ i a q)
  .rw [Zz o];have:lo=hi:=by lia
   subst this;show⟨m,l,h⟩
def below_at(up:Up xs.toList)(j:Nat):e_ xs j<=xs.size/\(∀i,i<e_ xs j->xs.getD i j<j) /\∀i,e_ xs j<=i->i<xs.size->j<=xs.getD i j :=
 vG xs j up _ _ _ ∅ ∅ (bh _) (λi h=>by lia) λi a h2=>by lia
def HD(up:Up xs.toList)(j:xs[k]?=aa p):e_ xs (p+1)=k+1:=by
 obtain⟨q,h2,n⟩:=below_at up (p+1);have l:k<xs.size:=(a2I.mp j).1;have v:xs.getD k (p+1)=p:=by rw[E_,j];rfl
 have a:¬ e_ xs (p+1)<=k:=λh=>by have:=n k h l;lia
 by_cases m:k+1<e_ xs (p+1)
 .have o:=h2 (k+1) m;have d:k+1<xs.size:=by lia
  have:=lg.mp up k (k+1) (by simpa using l) (by simpa using d) ∅;have e2:xs.getD (k+1) (p+1)=xs[k+1]:=by simp[uy,d]
  have e3:xs[k]=p:=by have:=a2I.mp j;show this.2
  simp only[a2H] at this;lia
 .omega
def EH(up:Up xs.toList):e_ xs 0=0:=by
 obtain⟨d,h2,a⟩:=below_at up 0;by_cases h:e_ xs 0=0
 .exact h
 .have:=h2 0 ∅;lia
def xX{a:Type}(xs:Array a)(p:Nat)(x:a):(xl xs p x).toList=xs.toList.take p++x::xs.toList.drop p:=by unfold xl;simp[Array.toList_extract,List.extract_eq_take_drop];show oy ?_;simp
def V_(up:Up xs.toList)(z:xs[e_ xs j]?≠aa j):Up (xl xs (e_ xs j) j).toList:=by
 obtain⟨K,h2,v⟩:=below_at up j;rw[xX];unfold Up at *;rw[List.pairwise_append];show⟨up.sublist (Ef ..),?_,λa A b l=>?_⟩
 .rw [gw];show⟨λb l=>?_,up.sublist (List.drop_sublist ..)⟩;obtain⟨i,hi,I⟩:=oz l;have e:=I;rw[a2g] at e;have h:e_ xs j+i<xs.size:=by simp at hi;lia
  have p:=v (e_ xs j+i) ∅ h;have e2:xs.getD (e_ xs j+i) j=b:=by simp only[uy,h,dif_pos];simpa using e
  rw[e2] at p;by_cases e3:b=j
  .exfalso;subst e3;by_cases o:i=0
   .subst o;apply z;rw[jr (by simpa using h)];simpa using e
   .have d:e_ xs b<xs.size:=by lia
    have q:=lg.mp up (e_ xs b) (e_ xs b+i) (by simpa using d) (by simpa using h) ∅;have J:=v (e_ xs b) (bh _) d;have e4:xs.getD (e_ xs b) b=xs[e_ xs b]:=by simp[uy,d]
    rw[e] at q;simp only[a2H] at q;lia
  .omega
 .obtain ⟨i,hi,e⟩:=oz A;have n:i<e_ xs j:=by simp at hi;lia
  have h:i<xs.size:=by lia
  have p:=h2 i n;have e2:xs.getD i j=a:=by simp only[uy,h,dif_pos];rw[<- e];simp
  rw[e2] at p;rcases cb.1 l with l|l
  .omega
  .obtain ⟨k,y,x⟩:=oz l;rw[a2g] at x;have m:e_ xs j+k<xs.size:=by simp at y;lia
   have q:=lg.mp up i (e_ xs j+k) (by simpa using h) (by simpa using m) ∅;rw[x] at q;have F:xs.toList[i]=a:=by rw[<- e];simp
   rw[F] at q;show q
def SG(n:Nat):Up (Array.range n).toList:=by unfold Up;rw[Array.toList_range];show a17
structure N2 (led:Bool) (t:SetTable) (n:Nat):Prop where
 fit:t.fits n=ae
 led:t.led=led
 no:t.dummies=#[]
 up:Up t.place.toList
def lY{led:Bool}{t:SetTable}(n:Nat)(h:t.led=led):N2 led (t.standIn n) n:=by show⟨?_,h,rfl,SG n⟩;unfold a0S a2K a2U;simp;lia
theorem EI(m:t.dummies=#[]):∀(k:Nat) (p:a2W) {j:Nat} {d:Option Nat},p.dummy=af->Cy t f h k p=aa (.empty j d)->d=af/\t.place[e_ t.place j]?≠aa j:=by
 intro k
 induction k with
 |zero=>intro p j d _ e;unfold Cy at e;cases e
 |succ k ih =>
  intro p j d l e;unfold Cy at e;have a:(t.advance p).dummy=af:=by unfold a2V;split<;>show l
  cases q:t.slot p.j with
  |empty =>
   rw[q] at e;injection e with e;injection e with n e2;subst n;show⟨by rw[<- e2];show l,λz=>?_⟩;unfold a0R at q;dsimp only at q;rw[z] at q;simp at q
  |dummy =>
   exfalso;unfold a0R at q;dsimp only at q;split at q
   .cases q
   .have:xm t.dummies p.j=ag:=by rw[m];unfold xm;simp
    rw[this] at q;cases q
  |live i =>
   rw[q] at e;dsimp only at e;split at e
   .cases e
   .exact ih _ a e
theorem N2.layNew{led:Bool}{t:SetTable}{a:Array (Int×ai)}(h:N2 led t a.size)(k:Int)(x:ai):N2 led (layNew t a k x).2.1 (layNew t a k x).1.size:=by
 unfold PySem.layNew
 cases q:t.freeSlot k with
 |none =>
  dsimp only;rw[Array.size_push];show lY _ h.led
 |some r =>
  obtain⟨slot,p⟩:=r;dsimp only;unfold a2T at q;have l:t.place[e_ t.place slot]?≠aa slot:=by
   unfold a2O at q;split at q
   .rename_i j d e;obtain⟨o,e2⟩:=EI h.no _ _ rfl e;subst o;cases q;show e2
   .cases q
  have m:xm t.dummies slot=ag:=by rw[h.no];simp[xm]
  have n:t.put slot=({t with place:=xl t.place (e_ t.place slot) slot},e_ t.place slot):=by unfold a2N;rw[m];rfl
  rw[n];dsimp only;unfold a2P;split
  .rename_i hf;show⟨hf,h.led,h.no,V_ h.up l⟩
  .exact lY _ h.led
theorem qS{m:Type}(f:Nat->Option m):∀l:List Nat,Up l->Up ((l.filterMap λj=>(f j).map (j,·)).map (·.1))
 |[],_=>by simp[Up]
 |a::l,h=>by
  have h':=gw.1 h;have d:=qS f l h'.2;rw[yr]
  cases q:f a with
  |none=>show d
  |some b =>
   dsimp only[ug];rw[bp];show gw.mpr ⟨λc v=>?_,d⟩;obtain⟨p,n,e⟩:=fq.mp v;obtain⟨j,o,e2⟩:=uq.mp n
   cases q2:f j with
   |none=>rw[q2] at e2;cases e2
   |some b2 =>
    rw[q2] at e2;cases e2;rw[<- e];show h'.1 j o
theorem N2.Qd{led:Bool}{t:SetTable}{a:Array (Int×ai)}(h:N2 led t a.size)(wanted:Nat):N2 led (relayAll t a wanted).2.1 (relayAll t a wanted).1.size:=by
 unfold relayAll
 cases q:t.relaid (a.map (·.1)) wanted with
 |none=>show lY _ h.led
 |some r =>
  obtain⟨t',order⟩:=r;dsimp only;split
  .rename_i hc;rw[cm] at hc;unfold a2M a2R at q
   cases q2:a2Q (a2L wanted-1) (a.map (·.1)) with
   |none=>rw[q2] at q;cases q
   |some owner =>
    rw[q2] at q;cases q;show⟨hc.2,h.led,rfl,?_⟩;dsimp only;show qS _ _ a17
  .exact lY _ h.led
theorem SH(led:Bool):N2 led (a2S 0 0 led) 0:=⟨by rfl,rfl,rfl,yw⟩
noncomputable def pK(e:Int×ai):Int:=match e.2 with
 |.int m _=>m
 |_=>0
def EJ(e:Int×ai):Prop:=∃m t,e=(hashInt m,mf m t)
def oC(led:Bool)(o:az)(ns:Q0e):Prop:=∃a d t,o.ExactSet/\o.data=.set a d t/\(∀e∈a.toList,EJ e)/\(a.toList.map pK).Perm ns/\N2 led t a.size/\a.size<scanBound
def HE(ns:Q0e)(k:Int):List Int:=if k∈ns then ns else ns++[k]
def SI(Ω:bg)(w:ba)(h:∀e∈l,EJ e):ElemsOf (intKind Ω w) l:=λe a=>by obtain⟨m,t,rfl⟩:=h e a;show⟨⟨m,Co Ω w m t,rfl⟩,rfl⟩
def SJ(Ω:bg)(w:ba)(h:EJ e)(k:Int):(intKind Ω w).is k e.2=Zv (k=pK e):=by obtain⟨m,t,rfl⟩:=h;show KeyKind.is_eq_decide (Co Ω w m t) k
section
variable{Ω:bg}{w:ba}{A:br}{E:Q0c}{s:ao}
theorem stored(ho:s.heap.get? a=aa o)(d:o.data=.set es ep t):
  (s.heap.update a (xq es' t')).get? a=aa {o with data:=.set es' (ep+1) t' }:=by
 have q:=mi (xq es' t') ho (by rw[putSet_of es' t' d];rfl)
 rwa [putSet_of es' t' d] at q
theorem add_int(ho:s.heap.get? a=aa o)(hi:oC led o ns)(hb:ns.length+1<scanBound)
  (h:∀h' m b,jw a s.heap h'->h'.get? a=aa m->oC led m (HE ns k)->Q b {s with heap:=h',toks:=s.toks+1}):aw (ay Ω w) A (setAdd a (.int k tk)) Q E s:=by
 obtain⟨O,ep,t,Z,y,F,J,K,hs⟩:=hi;have v:=SI Ω w F;have calm:∀(b:Bool) (U:ao) (Q1:Unit->ao->Prop),Q1 () U->aw (ay Ω w) A (match b with|true=>rule "set.scan.the-table-gave-way" | false=>pure ()) Q1 E U:=λb U Q1 q=>by
  cases b
  .exact ax q
  .exact kr q
 have hk:=Co Ω w k tk;unfold setAdd;show iz (aq ((intKind Ω w).pyHash hk ?_));unfold setAddHashed setAddHashedIn setAddByScan;show iz (aq (qd (s:={s with toks:=s.toks+1}) ho y K.fit ?_));dsimp only;rw[Z_ (byScan_of (x:=.int k tk) rfl hs v)];show aq (aq (kr (aq (wpAny_setScan_of (s:={s with toks:=s.toks+1}) hk ho y K.fit v ?_))))
 cases hf:O.toList.findIdx? (λe=>(intKind Ω w).is k e.2) with
 |some j =>
  obtain⟨hj,e,_⟩:=a2l.1 hf;have hm:=jz hj;rw[SJ Ω w (F _ hm),decide_eq_true_eq] at e;have Y:k∈ns:=J.mem_iff.1 (e▸Ei hm);apply ax;apply ax;show h s.heap o ag (a3k ..) ho ?_;rw[HE,Z_ Y];show⟨O,ep,t,Z,y,F,J,K,hs⟩
 |none =>
  have Y:k∉ns:=λz=>by obtain⟨e,n,ee⟩:=fq.1 (J.mem_iff.2 z);have q:=List.findIdx?_eq_none_iff.1 hf e n;rw[SJ Ω w (F e n),ee] at q;simp at q
  dsimp only;have p1:=layNew_perm t O (hashInt k) (.int k tk);have t1:=K.layNew (hashInt k) (.int k tk);show aw _ _ _ _ _ _;have eh:(intKind Ω w).hash k=hashInt k:=rfl;rw[eh];generalize layNew t O (hashInt k) (.int k tk)=L at p1 t1 ⊢;obtain⟨d,tb,wd,gv⟩:=L;rw[a2F] at p1;dsimp only at p1 t1 ⊢;have e1:∀e∈d.toList,EJ e:=λe n=>by
   rcases di.1 (p1.mem_iff.1 n) with z|z
   .exact F e z
   .exact ⟨k,tk,bt.1 z⟩
  have X:(d.toList.map pK).Perm (ns++[k]):=(p1.map pK).trans (by rw[cc];show J.append_right _);have l1:d.size=ns.length+1:=by have q:=X.length_eq;simpa using q
  have z1:d.size<scanBound:=by lia
  have fin:∀h' m,jw a s.heap h'->h'.get? a=aa m->oC led m (ns++[k])->Q ae {s with heap:=h',toks:=s.toks+1}:=λh' m q1 q2 q3=>h h' m ae q1 q2 (by rw[HE,Zz Y];show q3);have tail:∀l:SetTable,N2 led l d.size->aw (ay Ω w) A (do
    storeSet a d l
    if(!wd&&l.tooFull)=ae then do
      (match (relayAll l d (qj d.size)).2.2 with|true=>rule "set.scan.the-table-gave-way" | false=>pure ())
      storeSet a (relayAll l d (qj d.size)).1 (relayAll l d (qj d.size)).2.1
      pure (aa ae)
     else pure (aa ae)) (λr s'=>aw (ay Ω w) A (match r with|some added=>pure added|none=>setAddHashedIn a (.int k tk) (hashInt k) 99999) Q E s') E {s with toks:=s.toks+1}:=λl t2=>by
   show aq (Zi (s:={s with toks:=s.toks+1}) ho y ?_ (xf z1));have g1:=stored (es':=d) (t':=l) ho y;have i1:oC led {o with data:=.set d (ep+1) l} (ns++[k]):=⟨d,ep+1,l,Z,rfl,e1,X,t2,z1⟩;split
   .have p:=relayAll_perm l d (qj d.size);have t3:=t2.Qd (qj d.size);generalize relayAll l d (qj d.size)=L at p t3 ⊢;obtain⟨I,tc,gv2⟩:=L;dsimp only at p t3 ⊢;have l2:I.size=d.size:=by have q:=p.length_eq;simpa using q
    show aq (calm gv2 _ _ (aq (Zi (s:={s with heap:=s.heap.update a (xq d l),toks:=s.toks+1}) g1 rfl (ax (ax ?_)) (xf ∅))));show fin _ _ ((jj ..).trans (jj ..)) (stored (s:={s with heap:=s.heap.update a (xq d l)}) g1 rfl) ⟨I,_,tc,Z,rfl,λe n=>e1 e (p.mem_iff.1 n),(p.map pK).trans X,t3,by lia⟩
   .exact ax (ax (fin _ _ (jj ..) g1 i1))
  show aq (calm gv _ _ ?_);split
  .apply aq;apply ax;show tail _ t1
  .apply aq;apply ax;show tail _ t1
end
noncomputable def iB:List Int->List Int->List Int
 |ns,[]=>ns
 |ns,k::r=>iB (HE ns k) r
def eF(w:ba):Bool:=!(w.params.followText "set-order")
def jR(led:Bool):az:={cls:=.type "set",dict:=af,data:=.set #[] 0 (.fresh 0 0 led)}
def NK(led:Bool):oC led (jR led) []:=⟨#[],0,.fresh 0 0 led,⟨rfl,rfl,rfl⟩,rfl,λe a=>by simp at a,a32,SH led,by decide⟩
def EK(ns:Q0e)(k:Int):(HE ns k).length<=ns.length+1:=by
 unfold HE;split
 .omega
 .simp
section
variable{Ω:bg}{w:ba}{A:br}{E:Q0c}{s:ao}
theorem SK(Y:A.handled=af)(hi:i_ items.toList ns)(Z:t≠I)(h:S≠I)(L:S≠t)(hb:ns.length+1<scanBound):
  ∀(r:Q0e) (i:Nat) (s:ao) (a:Q0e) (o:az),r=ns.drop i->i<=ns.length->s.heap.IsTupleIter I t i->s.heap.IsTuple t items->s.heap.get? S=aa o->oC led o a->a.length<=i ->
   (∀h' tk z,(∀b u,b≠S->b≠I->s.heap.get? b=aa u->h'.get? b=aa u)->h'.get? S=aa z->oC led z (iB a r)->R (.ok (.ret .none)) {s with heap:=h',toks:=tk})->ju (ay Ω w) A (.builtin "set.update.loop" ⟨[.ref S,.ref I],[]⟩) R s:=by
 have W:=Walks.tuple (prog:=Ω) (w:=w) (A:=A.in1) Y I t Z items;have hn:items.size=ns.length:=by have q:=Dv hi;simpa using q
 intro r
 induction r with
 |nil =>
  intro i s a o d x it l ho y _ fin;have e:i=items.size:=by have q:=congrArg qy d;rw[m_,cy] at q;lia
  subst e;apply kz a1G;rw[mq Dw];unfold Builtin.«set.update.loop»;show aq (W.done s _ _ ⟨it,l⟩ λh' tk keep=>ax ?_);show fin h' tk o (λb u K h2 e=>keep b u (by simpa using h2) e) (keep S o (by simpa using h) ho) y
 |cons k r ih =>
  intro i s a o d x it l ho y hm fin;have X:i<ns.length:=by have q:=congrArg qy d;rw[m_,cf] at q;lia
  have ek:ns[i]?=aa k:=by
   have q:(ns.drop i)[0]?=aa k:=by rw[<- d];rfl
   rwa [a2j,Ec] at q
  apply kz a1G;rw[mq Dw];unfold Builtin.«set.update.loop»;show aq (W.item i s _ _ ∅ ⟨it,l⟩ λv K tk U st keep=>?_);obtain⟨t1,rfl⟩:=IntsAre.int_at hi i v (by rw[ux];show U);have e2:ns.getD i 0=k:=by rw[ur,ek];rfl
  rw[e2];show aq (iz (add_int (s:={s with heap:=K,toks:=tk}) (keep S o (by simpa using h) ho) y ∅ λh2 o2 _ n g2 O=>ax ⟨qh Dw _,?_⟩));have p:h2.IsTupleIter I t (i+1):=st.1.at λo e=>by rw[n.2 I (d_ h)];show e
  have j:h2.IsTuple t items:=st.2.at λo e=>by rw[n.2 t (d_ L)];show e
  show ih (i+1) {s with heap:=h2,toks:=tk+1} _ o2 ?_ ∅ p j g2 O (gi (EK a k) ∅) λh3 m o3 k3 g3 i3=>fin h3 m o3 (λb u J F e=>k3 b u J F ?_) g3 i3
  .have q:=congrArg List.tail d;rw[List.tail_drop] at q;show q
  .show h2.get? b=aa u;rw[n.2 b J];show keep b u (by simpa using F) e
def W6(x:ai):MeetsIn Ω w (Builtin.«set.__new__» ⟨[.type "set",x],[]⟩) (λ_ R s=>R (.ok (.ret (.ref s.heap.objs.size))) {s with heap:=s.heap.push (jR (eF w))}):=by
 show .of_wp λA R s h=>?_;have a:=a0j;unfold Builtin.«set.__new__» a3R newSet setsByText
 wp_walk
 apply By;apply ax;dsimp only;simp only[newObj];show aq (Bz (ax (ax ⟨_,rfl,h⟩)))
theorem SN(hi:i_ items.toList ns)(n:S≠t)(y:ns.length+1<scanBound):
  MeetsIn Ω w (Builtin.«set.__init__» ⟨[.ref S,.ref t],[]⟩) (λA R s=>A.handled=af/\s.heap.IsTuple t items/\s.heap.get? S=aa (jR led) /\
   ∀h' tk d,(∀b u,b≠S->b<s.heap.objs.size->s.heap.get? b=aa u->h'.get? b=aa u)->h'.get? S=aa d->oC led d (iB [] ns)->R (.ok (.ret .none)) {s with heap:=h',toks:=tk}):=by
 show .of_wp λA R s h=>?_;obtain⟨q,a,m,h⟩:=h;have T1:s.TypeIs (.ref S) "set":=⟨_,m,rfl⟩;have O:=a.typeIs;have J:=F.sub_tuple_set;have I:=F.sub_tuple_frozenset;obtain⟨K,j,x,L,v⟩:=id a;unfold Builtin.«set.__init__»;unfold noKeywords a3O;generalize z:pyIter=P
 wp_walk
 subst z;have p:S<s.heap.objs.size:=bz m;have lt:t<s.heap.objs.size:=bz j;show sx a (aq (Bv ?_));show SK (A:=A.in1) (t:=t) (S:=S) q hi (f_ lt) (f_ p) n y ns 0 _ [] (jR led) rfl (jx _) ⟨_,dh _ rfl,rfl,rfl⟩ (a.push _) (ck _ m) (NK led) (bh _) λh' tk d keep g i=>?_;show ax (ax ⟨_,rfl,h h' tk d (λb u o l e=>keep b u o (f_ l) (ck _ e)) g i⟩)
theorem SQ(o:A.handled=af)(hi:i_ items.toList ns)(n:s.heap.IsTuple t items)(p:ns.length+1<scanBound)
  (h:∀h' tk a,(∀b u,s.heap.get? b=aa u->h'.get? b=aa u)->h'.get? s.heap.objs.size=aa a->oC (eF w) a (iB [] ns)->Q (.ref s.heap.objs.size) {s with heap:=h',toks:=tk}):
  aw (ay Ω w) A (call (.type "set") [.ref t]) Q E s:=by
 obtain⟨c,x,m1⟩:=mj.mro;have U:=mj.made;have O:=mj.sub;have L:=mj.notType;have K:=mj.canCreate;have J:=F.typeCall_set_1 (.ref t);obtain⟨y,m,_⟩:=id n;have lt:t<s.heap.objs.size:=bz m;show wpAny_call (codeAny_of_tree (ax ⟨Code.quiet_builtin _ (by decide+kernel),kz F.entry_type_call ?_⟩));rw[Around.under_plain (weight_type_call_type ..) (units_type_call_type ..)]
 wp_walk
 have v:ju (ay Ω w) A.in1 (.call (.builtin "set.__new__") ⟨[.type "set",.ref t],[]⟩) (λr j=>r=.ok (.ret (.ref s.heap.objs.size))/\j={s with heap:=s.heap.push (jR (eF w))}) s :=
  a0v F.plain_set_new F.entry_set_new (wpAny_of_eq (F.newCall_set_1 _) (W6 (.ref t) A.in1 (λr j=>r=.ok (.ret (.ref s.heap.objs.size))/\j={s with heap:=s.heap.push (jR (eF w))}) s ⟨rfl,rfl⟩))
 show tj v λr j l=>?_;obtain⟨rfl,rfl⟩:=l;dsimp only;have g1:(s.heap.push (jR (eF w))).get? s.heap.objs.size=aa (jR (eF w)):=dh _ rfl;have T1:a0Q {s with heap:=s.heap.push (jR (eF w))} (.ref s.heap.objs.size) "set":=⟨_,g1,rfl⟩;have I:=mj.init.lookup;have z:=mj.init.bind (.ref s.heap.objs.size)
 wp_walk
 have q:ju (ay Ω w) A.in1 (.call (.builtin "set.__init__") ⟨[.ref s.heap.objs.size,.ref t],[]⟩) (λr d=>∃h' tk a,r=.ok (.ret .none)/\d={s with heap:=h',toks:=tk} /\
   (∀b u,s.heap.get? b=aa u->h'.get? b=aa u)/\h'.get? s.heap.objs.size=aa a/\oC (eF w) a (iB [] ns)) {s with heap:=s.heap.push (jR (eF w))} :=
  a0v mj.init.plain F.entry_set_init (check_set_init_1 T1 (SN (led:=eF w) hi (ox lt) p A.in1 (λr d=>∃h' tk a,r=.ok (.ret .none)/\d={s with heap:=h',toks:=tk} /\
   (∀b u,s.heap.get? b=aa u->h'.get? b=aa u)/\h'.get? s.heap.objs.size=aa a/\oC (eF w) a (iB [] ns)) {s with heap:=s.heap.push (jR (eF w))} ⟨o,n.push _,g1,λh' tk a keep g i =>
    ⟨h',tk,a,rfl,rfl,λb u e=>keep b u (f_ (bz e)) (by rw[oo];show qt (bz e)) (ck _ e),g,i⟩⟩))
 show tj q λr d l=>?_;obtain⟨h',tk,a,rfl,rfl,keep,g,i⟩:=l;show ax ?_;dsimp only;rw[Zz (by decide)];show ax (h h' tk a keep g i)
end
namespace Si
def slot_next:Slot "set_iterator" "__next__" "set_iterator.__next__":=a0P (owner:="set_iterator") (n:="__next__") (by rw[a0h,a0A];kernel_rfl) (by decide+kernel) (by decide+kernel) (by decide+kernel) (cx (by decide+kernel)) (by rw[a0o];kernel_rfl)
def zP:Slot "set_iterator" "__iter__" "set_iterator.__iter__":=a0P (owner:="set_iterator") (n:="__iter__") (by rw[a0h,a0A];kernel_rfl) (by decide+kernel) (by decide+kernel) (by decide+kernel) (cx (by decide+kernel)) (by rw[a0o];kernel_rfl)
def entry_next:entryFor table "set_iterator.__next__"=aa Builtin.«set_iterator.__next__»:=entryFor_of_tree (by kernel_rfl)
def args_next(a:ai):argsOk "set_iterator.__next__" ⟨[a],[]⟩:=by unfold argsOk;kernel_rfl
def NL(a:ai):argsOk "set_iterator.__iter__" ⟨[a],[]⟩:=by unfold argsOk;kernel_rfl
def HF:entryFor table "set_iterator.__iter__"=aa Builtin.«dict_keyiterator.__iter__» :=
 a0u (id':="dict_keyiterator.__iter__") (by kernel_rfl) (by decide+kernel) (by decide+kernel) (by kernel_rfl)
def wQ:entryFor table "set.__iter__"=aa Builtin.«frozenset.__iter__» :=
 a0u (id':="frozenset.__iter__") (by kernel_rfl) (by decide+kernel) (by decide+kernel) (by kernel_rfl)
end Si
def pL(h:bb)(I S:ah)(f:ai)(i n a:Nat):Prop:=∃o,h.get? I=aa o/\o.cls=.type "set_iterator" /\o.data=.fields #[f,rawInt i,.ref S,rawInt n,rawInt a]
section
variable{Ω:bg}{w:ba}{A:br}{E:Q0c}{s:ao}
def pL.typeIs(x:pL s.heap I S f i n ep):s.TypeIs (.ref I) "set_iterator":=let ⟨o,ho,hc,_⟩:=x;⟨o,ho,hc⟩
def n6(a:w.params.followText "set-order"=b)(h:Q b s):aw (ay Ω w) A setsByText Q E s:=by unfold setsByText;show aq (By (ax ?_));rw[<- a] at h;show h
theorem oJ(hw:eF w=ae)(ho:s.heap.get? S=aa o)(m:o.data=.set es ep t)(a:N2 ae t es.size)
  (l:¬ (!t.plain&&es.size>1)=ae) (d:e_ t.place q=i) (h:Q (match es[i]?,t.place[i]? with|some (_,x),aa j=>aa (x,j+1)|_,_=>af) s) (k:Nat):aw (ay Ω w) A (setNext S q k ep) Q E s:=by
 have n:w.params.followText "set-order"=ag:=by unfold eF at hw;simpa using hw
 unfold setNext;show aq (qd ho m a.fit ?_);dsimp only;show aq (n6 n ?_);rw[Zz (by decide)];split
 .rename_i z;show Zw z l
 show aq ?_;show aw _ _ (if(!t.led && !es.isEmpty)=ae then unsupported "set:maker-not-led" else pure ()) _ _ _;rw[a.led,Zz (by simp)];show ax ?_;rw[d];show ax h
theorem EL{I S:ah}{o:az}{h:Array (Int×ai)}{j i q:Nat}{t:SetTable}{v:ai}{p:Nat}{Q:Option ai->ao->Prop}(ho:s.heap.get? S=aa o)(n:o.data=.set h j t)(m:t.fits h.size=ae)(it:pL s.heap I S (rawInt q) i h.size j)
  (hN:∀(l:Option (ai×Nat)->ao->Prop) (z:Q0c),l (aa (v,p)) s->aw (ay Ω w) A.in1 (setNext S q i j) l z s)
  (x:∀h',pL h' I S (rawInt p) (i+1) h.size j->jw I s.heap h'->Q (aa v) {s with heap:=h' }):aw (ay Ω w) A (pyNext (.ref I)) Q E s:=by
 have tn:=it.typeIs;obtain⟨F,d,y,a⟩:=it;unfold pyNext;show aq (qg (kb (name:=oj "__next__") tn Si.slot_next (ik Si.slot_next tn Si.entry_next ?_ (Si.args_next _))));unfold Builtin.«set_iterator.__next__»
 wp_walk
 rw[a];show ax ?_;dsimp only[rawInt];show aq (su ho n m ?_);rw[Zz (by simp)];show aq (hN _ _ ?_);dsimp only;show aq (me d a (by simp) ?_);have g1:=mi (t_ (·.setIfInBounds 0 (mf (p:Int) 0))) d (qm (jd a _));show aq (me (s:={s with heap:=s.heap.update I (t_ (·.setIfInBounds 0 (mf (p:Int) 0)))}) g1 (jd a _) (by simp) (ax ⟨_,rfl,ax (x _ ⟨_,mi _ g1 (qm (jd (jd a _) _)),?_,?_⟩ ((jj ..).trans (jj ..)))⟩))
 .exact (ua ..).trans ((ua ..).trans y)
 .rw [jd (jd a _)];simp[rawInt]
theorem zQ{I S:ah}{o:az}{h:Array (Int×ai)}{j i q:Nat}{t:SetTable}{Q:Option ai->ao->Prop}(m:A.handled=af)(ho:s.heap.get? S=aa o)(p:o.data=.set h j t)(n:t.fits h.size=ae)(it:pL s.heap I S (rawInt q) i h.size j)
  (hN:∀(l:Option (ai×Nat)->ao->Prop) (y:Q0c),l af s->aw (ay Ω w) A.in1 (setNext S q i j) l y s)
  (v:∀h',xt I s.heap h'->Q af {s with heap:=h' }):aw (ay Ω w) A (pyNext (.ref I)) Q E s:=by
 have tn:=it.typeIs;have x:A.in1.handled=af:=m;obtain⟨z,d,F,a⟩:=it;unfold pyNext;show aq (qg (kb (name:=oj "__next__") tn Si.slot_next (ik Si.slot_next tn Si.entry_next ?_ (Si.args_next _))));unfold Builtin.«set_iterator.__next__»
 wp_walk
 rw[a];show ax ?_;dsimp only[rawInt];show aq (su ho p n ?_);rw[Zz (by simp)];show aq (hN _ _ ?_);dsimp only
 wp_walk using me d a (by simp)
 unfold raiseNew;apply aq;apply xa;rw[x];show aq (ax (wy (aq ?_)));show qe (b:=ae) (T:="StopIteration") ?_ Cn ?_
 .exact ⟨_,dh _ rfl,rfl⟩
 apply ax;apply v;show((jj ..).extBut.push _).push _
theorem SR{I S T:ah}{o:az}{d:Array (Int×ai)}{p i j:Nat}{t:SetTable}{v:ai}{q:Int}{l:Array ai}{Q:Option ai->ao->Prop}(ho:s.heap.get? S=aa o)(y:o.data=.set d p t)(x:t.fits d.size=ae)(it:pL s.heap I S (.ref T) i d.size p)
  (z:s.heap.IsTuple T l) (F:l[i]?=aa (rawInt j)) (J:d[j]?=aa (q,v))
  (K:∀h',pL h' I S (.ref T) (i+1) d.size p->jw I s.heap h'->Q (aa v) {s with heap:=h' }):aw (ay Ω w) A (pyNext (.ref I)) Q E s:=by
 have tn:=it.typeIs;obtain⟨U,h,O,a⟩:=it;obtain⟨X,m,_,Y,n⟩:=z;unfold pyNext;show aq (qg (kb (name:=oj "__next__") tn Si.slot_next (ik Si.slot_next tn Si.entry_next ?_ (Si.args_next _))));unfold Builtin.«set_iterator.__next__»
 wp_walk
 rw[a];show ax ?_;dsimp only[rawInt];show aq (su ho y x ?_);rw[Zz (by simp)];unfold seqItems?;show aq (aq (s_ m ?_));rw[n];show ax ?_;have L:l[((i:Nat):Int).toNat]?=aa (.int (j:Int) 0):=F;dsimp only;rw[L];dsimp only;unfold setNextDrawn;show aq (aq (qd ho y x ?_));dsimp only;rw[Zz (by simp)];have e2:d[((j:Nat):Int).toNat]?=aa (q,v):=J;rw[e2];show ax ?_;show aq (me h a (by simp) (ax ⟨_,rfl,ax (K _ ⟨_,mi _ h (qm (jd a _)),?_,?_⟩ (jj ..))⟩))
 .exact (ua ..).trans O
 .rw [jd a];simp[rawInt]
theorem NM(n:A.handled=af)(ho:s.heap.get? S=aa o)(q:o.data=.set es ep t)(p:t.fits es.size=ae)(it:pL s.heap I S (.ref T) i es.size ep)
  (l:s.heap.IsTuple T ps) (m:ps[i]?=af) (v:∀h',xt I s.heap h'->Q af {s with heap:=h' }):aw (ay Ω w) A (pyNext (.ref I)) Q E s:=by
 have tn:=it.typeIs;have x:A.in1.handled=af:=n;obtain⟨z,d,K,a⟩:=it;obtain⟨F,h,_,J,j⟩:=l;unfold pyNext;show aq (qg (kb (name:=oj "__next__") tn Si.slot_next (ik Si.slot_next tn Si.entry_next ?_ (Si.args_next _))));unfold Builtin.«set_iterator.__next__»
 wp_walk
 rw[a];show ax ?_;dsimp only[rawInt];show aq (su ho q p ?_);rw[Zz (by simp)];unfold seqItems?;show aq (aq (s_ h ?_));rw[j];show ax ?_;have y:ps[((i:Nat):Int).toNat]?=af:=m;dsimp only;rw[y];dsimp only
 wp_walk using me d a (by simp),me (mi _ d (qm (jd a _))) (jd a _) (by simp)
 unfold raiseNew;apply aq;apply xa;rw[x];show aq (ax (wy (aq ?_)));show qe (b:=ae) (T:="StopIteration") ?_ Cn ?_
 .exact ⟨_,dh _ rfl,rfl⟩
 apply ax;apply v;show(((jj ..).trans (jj ..)).extBut.push _).push _
end
def NN(a:n≠0)(h:∀i d,i<n->Q i {s with drawn:=d}):aw M A (choose src n) Q E s:=λl p j=>by unfold choose;show⟨a,h _ _ (a1U _ (Nat.pos_of_ne_zero a))⟩
theorem pM{d:Type}:∀(l:List d) (i:Nat) (x:d),l[i]?=aa x->l.Perm (x::l.eraseIdx i)
 |[],i,x,h=>by simp at h
 |a::l,0,x,h=>by simp at h;subst h;show Es _
 |a::l,i+1,x,h=>by have q:=pM l i x (by simpa using h);rw[Eo];show(q.cons a).trans (a2u ..)
theorem KA{j:Type}:∀(n:Nat) (l:List j) (s:ao) {Q:List j->ao->Prop},l.length=n->(∀l' d,l'.Perm l->Q l' {s with drawn:=d})->aw M A (drawOrder n l) Q E s
 |0,l,s,Q,hl,h=>by have:l=[]:=my.mp hl;subst this;unfold drawOrder;show ax (h [] s.drawn (Es _))
 |n+1,[],s,Q,hl,h=>by simp at hl
 |n+1,a::l,s,Q,hl,h=>by unfold drawOrder;show aq (NN (by simp) λi d hi=>?_);have e:(a::l)[i]?=aa ((a::l)[i]):=bo hi;rw[e];show aq (KA n _ _ (by rw[a2d hi];simp at hl ⊢;lia) λl' d' m=>ax ?_);show h _ d' ((m.cons _).trans (pM _ _ _ e).symm)
theorem KC{d:Type}(f:Nat->Nat):∀(n k:Nat) (l:List d) (out:Array d),l.length<=n->(Ci f n k l out).toList.Perm (out.toList++l)
 |0,k,l,out,h=>by have:l=[]:=my.mp (Nat.le_zero.mp h);subst this;unfold Ci;rw[jk]
 |n+1,k,l,out,h=>by
  unfold Ci
  cases l with
  |nil=>simp
  |cons a l =>
   have hi:f k%(a::l).length<(a::l).length:=a1U _ (by simp);have e:(a::l)[f k%(a::l).length]?=aa ((a::l)[f k%(a::l).length]):=bo hi;rw[e];show(KC f n (k+1) _ _ (by rw[a2d hi];simp at h ⊢;lia)).trans ?_;rw[a2F,lr];show a33 _ (pM _ _ _ e).symm
def sG{a:Type}(f:Nat->Nat)(xs:Array a):(pickOrder f xs).toList.Perm xs.toList:=by have q:=KC f xs.size 0 xs.toList #[] (by simp);simpa[pickOrder] using q
section
variable{Ω:bg}{w:ba}{A:br}{E:Q0c}{s:ao}
theorem qT(hw:eF w=ag)(ho:s.heap.get? S=aa o)(d:o.data=.set es ep t)(a:t.fits es.size=ae)(q i:Nat)
  (h:Q (((pickOrder (w.params.setOrder S ep) es)[i]?).map λe=>(e.2,q)) s):aw (ay Ω w) A (setNext S q i ep) Q E s:=by
 have j:w.params.followText "set-order"=ae:=by unfold eF at hw;simpa using hw
 unfold setNext;apply aq;show qd ho d a ?_;dsimp only;show aq (n6 j ?_);rw[Z_ rfl,Zz (by simp)];show aq ?_;unfold setWalk;apply aq;show qd ho d a ?_;dsimp only;show aq (n6 j ?_);rw[Z_ rfl];show aq (By (ax (ax h)))
def wR(x:pL h I S f i n ep)(k:∀o,h.get? I=aa o->h'.get? I=aa o):pL h' I S f i n ep:=let ⟨o,a,b⟩:=x;⟨o,k o a,b⟩
theorem BV(it:pL s.heap I S f i n ep)(h:Q (.ref I) s):aw (ay Ω w) A (pyIter (.ref I)) Q E s :=
 Bw it.typeIs Si.zP (ik Si.zP it.typeIs Si.HF (ax ⟨_,rfl,_,_,it.typeIs,Si.slot_next.lookup,h⟩) (Si.NL _))
noncomputable def slotAt(t:SetTable):Nat->Nat
 |0=>0
 |i+1=>t.place.getD i 0+1
theorem wU(up:Up t.place.toList)(hi:i<=t.place.size):e_ t.place (slotAt t i)=i:=by
 cases i with
 |zero=>show EH up
 |succ i =>
  have e:t.place[i]?=aa (t.place.getD i 0):=by rw[E_,jr ∅];rfl
  show HD up e
def wV{t:SetTable}{n:Nat}(h:t.fits n=ae):t.place.size=n:=by unfold a0S at h;simp at h;show h.1
theorem EM{I S:ah}{o:az}{a:Array (Int×ai)}{F:Nat}{t:SetTable}(K:A.handled=af)(hw:eF w=ae)(J:S≠I)(l:o.data=.set a F t)(d:N2 ae t a.size)(y:¬ (!t.plain&&a.size>1)=ae):
  tq Ω w A I [I,S] [I] a.size (λi v=>(a.toList.map (·.2))[i]?=aa v) (λi h=>h.get? S=aa o/\i<=a.size/\pL h I S (rawInt (slotAt t i)) i a.size F) where
 sub:=λc z=>by simp at z;simp[z]
 frame:=λi h h' st k=>⟨k S (by simp) o st.1,st.2.1,wR st.2.2 λo e=>k I (by simp) o e⟩
 item:=λi s R E hi st j=>by
  obtain⟨ho,hle,it⟩:=st;have L:a[i]?=aa (a[i].1,a[i].2):=jr hi;have sz:=wV d.fit;have e2:t.place[i]?=aa (t.place.getD i 0):=by rw[E_,jr ∅];rfl
  show EL (v:=a[i].2) (p:=slotAt t (i+1)) ho l d.fit it (λO U q=>oJ hw ho l d y (wU d.up ∅) (by rw[L,e2];show q) i) λh' m x=>?_;show j _ h' s.toks (by simp[hi]) ⟨by rw[x.2 S J];show ho,hi,m⟩ λb u n e=>by rw[x.2 b (by simpa using n)];show e
 done:=λs Q E st j=>by obtain⟨ho,hle,it⟩:=st;have sz:=wV d.fit;show zQ K ho l d.fit it (λO U q=>oJ hw ho l d y (wU d.up ∅) (by rw[zd ∅];show q) a.size) λh' ex=>?_;show j h' s.toks λb u n e=>ex b u (by simpa using n) e
 self:=λi s Q E st j=>BV st.2.2 j
theorem HG(F:A.handled=af)(hw:eF w=ag)(z:S≠I)(j:o.data=.set es ep t)(d:t.fits es.size=ae):
  tq Ω w A I [I,S] [I] es.size (λi v=>((pickOrder (w.params.setOrder S ep) es).toList.map (·.2))[i]?=aa v) (λi h=>h.get? S=aa o/\i<=es.size/\pL h I S (rawInt (0:Nat)) i es.size ep) where
 sub:=λc y=>by simp at y;simp[y]
 frame:=λi h h' st k=>⟨k S (by simp) o st.1,st.2.1,wR st.2.2 λo e=>k I (by simp) o e⟩
 item:=λi s R E hi st a=>by
  obtain⟨ho,hle,it⟩:=st;have sz:(pickOrder (w.params.setOrder S ep) es).size=es.size:=by have q:=(sG (w.params.setOrder S ep) es).length_eq;simpa using q
  generalize J:pickOrder (w.params.setOrder S ep) es=P at sz a;have K:P[i]?=aa P[i]:=jr ∅;show EL (v:=P[i].2) (p:=0) ho j d it (λL O q=>qT hw ho j d 0 i (by rw[J,K];show q)) λh' l x=>?_;have m:i<P.size:=by lia
  show a _ h' s.toks (by simp[m]) ⟨by rw[x.2 S z];show ho,hi,l⟩ λb u n e=>by rw[x.2 b (by simpa using n)];show e
 done:=λs Q E st a=>by
  obtain⟨ho,hle,it⟩:=st;have sz:(pickOrder (w.params.setOrder S ep) es).size=es.size:=by have q:=(sG (w.params.setOrder S ep) es).length_eq;simpa using q
  show zQ F ho j d it (λL O q=>qT hw ho j d 0 es.size (by rw[zd ∅];show q)) λh' ex=>?_;show a h' s.toks λb u n e=>ex b u (by simpa using n) e
 self:=λi s Q E st a=>BV st.2.2 a
theorem EN{I S T:ah}{o:az}{a:Array (Int×ai)}{U:Nat}{t:SetTable}{d:List Nat}(Y:A.handled=af)(X:S≠I)(Gk:T≠I)(L:o.data=.set a U t)(K:t.fits a.size=ae)(z:d.Perm (gk a.size)):
  tq Ω w A I [I,S,T] [I] a.size (λi v=>((d.map λj=>(a.toList.map (·.2)).getD j .none))[i]?=aa v)
   (λi h=>h.get? S=aa o/\h.IsTuple T ((d.map λj:Nat=>rawInt (j:Int)).toArray)/\pL h I S (.ref T) i a.size U) where
 sub:=λc O=>by simp at O;simp[O]
 frame:=λi h h' st k=>⟨k S (by simp) o st.1,st.2.1.at λo e=>k T (by simp) o e,wR st.2.2 λo e=>k I (by simp) o e⟩
 item:=λi s R E hi st n=>by
  obtain⟨ho,p,it⟩:=st;have J:d.length=a.size:=by have q:=z.length_eq;simpa using q
  have l:i<d.length:=by lia
  have m:d[i]<a.size:=by have q:=z.mem_iff.1 (jz l);simpa using q
  have Z:a[d[i]]?=aa (a[d[i]].1,a[d[i]].2):=jr m;show SR (j:=d[i]) (v:=a[d[i]].2) ho L K it p (by simp[l]) Z λh' y x=>?_;show n _ h' s.toks (by simp[l,m]) ⟨by rw[x.2 S X];show ho,p.at λo e=>by rw[x.2 T Gk];show e,y⟩ λb u F e=>by rw[x.2 b (by simpa using F)];show e
 done:=λs Q E st n=>by
  obtain⟨ho,p,it⟩:=st;have J:d.length=a.size:=by have q:=z.length_eq;simpa using q
  show NM Y ho L K it p (by simp[J]) λh' ex=>?_;show n h' s.toks λb u F e=>ex b u (by simpa using F) e
 self:=λi s Q E st n=>BV st.2.2 n
def Gives(Ω:bg)(w:ba)(I:ah)(d:List ah)(a:Q0f)(h:bb):Prop :=
 ∃(n:Nat) (P:Nat->ai->Prop) (St:Nat->bb->Prop),n=a.length/\(∀i v,P i v->a[i]?=aa v)/\St 0 h /\∀A:br,A.handled=af->tq Ω w A I d [I] n P St
theorem SS(ho:s.heap.get? S=aa o)(d:o.data=.set es ep t)(a:t.fits es.size=ae)
  (h:Q (eF w&&(!t.plain&&es.size>1)) s):aw (ay Ω w) A (setDrawn S) Q E s:=by
 unfold setDrawn;apply aq;show qd ho d a ?_;dsimp only;show aq (n6 (b:=!eF w) (by unfold eF;simp) (ax ?_));rw[Ey];show h
theorem SU(ho:s.heap.get? S=aa o)(hi:oC (eF w) o ns)
  (h:∀h' d I fp vs ms,(∀b u,s.heap.get? b=aa u->h'.get? b=aa u)->(∀b∈fp,b=S\/s.heap.objs.size<=b)->s.heap.objs.size<=I->i_ vs ms->ms.Perm ns->Gives Ω w I fp vs h'->Q (.ref I) {s with heap:=h',drawn:=d}):
  aw (ay Ω w) A (pyIter (.ref S)) Q E s:=by
 obtain⟨a,L,t,O,p,hE,hp,y,hs⟩:=hi;have tS:s.TypeIs (.ref S) "set":=⟨o,ho,O.1⟩;have lS:=bz ho;have ZD:∀l:List (Int×ai),(∀e∈l,EJ e)->i_ (l.map (·.2)) (l.map pK):=by
  intro l
  induction l with
  |nil=>intro _;show .nil
  |cons e l ih =>
   intro he;obtain⟨m,tk,rfl⟩:=he e cq;show .cons m tk (ih λx O=>he x (fg _ O))
 show Bw tS a03 (ik a03 tS Si.wQ ?_ (F.args_set_iter_1 _));unfold Builtin.«frozenset.__iter__» a3P a3Q;have step:∀(f:ai) (J:bb) (d:Drawn),(∀b u,s.heap.get? b=aa u->J.get? b=aa u)->(∀I:ah,I=J.objs.size->Q (.ref I) {s with heap:=J.push {cls:=.type "set_iterator",data:=.fields #[f,rawInt (0:Nat),.ref S,rawInt a.size,rawInt L]},drawn:=d}) ->
   aw (ay Ω w) A.in1 (do ret (<- newFields "set_iterator" [f,rawInt 0,.ref S,rawInt a.size,rawInt (<- setEpoch S)])) (λfin s'=>∃v,fin=.done (.ret v) /\∃T' r,s'.TypeIs v T'/\typeLookup (.type T') "__next__"=pure (aa r)/\Q v s') E {s with heap:=J,drawn:=d}:=λf J d keep q=>by
  show aq (wpAny_setEpoch_of (s:={s with heap:=J,drawn:=d}) (keep S o ho) p y.fit ?_);show aq (og (ax ⟨_,rfl,_,_,⟨_,dh _ rfl,rfl⟩,Si.slot_next.lookup,q _ rfl⟩))
 wp_walk using su ho p y.fit,SS ho p y.fit
 by_cases n:(eF w&&(!t.plain&&Zv (a.size>1)))=ae
 .rw [Z_ n];rw[cm] at n;show aq (KA a.size (gk a.size) s (by simp) λjs d hj=>?_);have lj:js.length=a.size:=by have q:=hj.length_eq;simpa using q
  show aq (wpAny_newTuple ?_ (by rw[a_,lj];show xf hs));show step (.ref s.heap.objs.size) _ d (λb u e=>ck _ e) λI eI=>?_;have zI:@Eq Nat I (s.heap.objs.size+1):=by rw[eI,oo]
  have sd:S≠I:=λz=>by rw[z,zI] at lS;show Zw (yf lS) (il _)
  have Ge:s.heap.objs.size≠I:=λz=>by rw[zI] at z;show Ea _ z.symm
  have K:s.heap.objs.size<=I:=by rw[zI];show qu _
  show h _ d I [I,S,s.heap.objs.size] (js.map λj=>(a.toList.map (·.2)).getD j .none) (js.map λj=>(a.toList.map pK).getD j 0) (λb u e=>ck _ (ck _ e)) (λb X=>?_) K ?_ ?_ ⟨a.size,_,_,by simp[lj],λi v q=>q,?_,λA' Y=>EN Y (t:=t) sd Ge p y.fit hj⟩
  .simp only[uk,cb,or_false] at X;rcases X with z|z|z
   .exact .inr (z▸K)
   .exact .inl z
   .exact .inr (kl z.symm)
  .have all:∀l:List Nat,(∀j∈l,j<a.size)->i_ (l.map λj=>(a.toList.map (·.2)).getD j .none) (l.map λj=>(a.toList.map pK).getD j 0):=by
    intro l
    induction l with
    |nil=>intro _;show .nil
    |cons j l ih =>
     intro hl;have U:=hl j cq;obtain⟨m,tk,e⟩:=hE a[j] (by simp[Array.getElem_mem]);have e1:(a.toList.map (·.2)).getD j .none=.int m tk:=by simp[U,e]
     have e2:(a.toList.map pK).getD j 0=m:=by simp[U,e,pK]
     rw[bp,bp,e1,e2];show .cons m tk (ih λx O=>hl x (fg _ O))
   show all js λj hm=>by have q:=hj.mem_iff.1 hm;simpa using q
  .refine ((hj.map _).trans ?_).trans hp;have e:(gk a.size).map (λj=>(a.toList.map pK).getD j 0)=a.toList.map pK:=by
    show En λi=>?_;by_cases hi:i<a.size
    .simp [hi]
    .simp [hi]
   rw[e]
  .refine ⟨ck _ (ck _ ho),⟨_,ck _ (dh _ rfl),rfl,_,rfl⟩,⟨_,by rw[eI];show dh _ rfl,rfl,rfl⟩⟩
 .rw [Zz n];show aq (ax (step (rawInt 0) s.heap s.drawn (λb u e=>e) λI eI=>?_));have K:s.heap.objs.size<=I:=kl eI.symm;have sd:S≠I:=λz=>by rw[z,eI] at lS;show Zw lS (il _)
  have η:∀f,pL (s.heap.push {cls:=.type "set_iterator",data:=.fields #[f,rawInt (0:Nat),.ref S,rawInt a.size,rawInt L]}) I S f 0 a.size L:=λf=>⟨_,by rw[eI];show dh _ rfl,rfl,rfl⟩;have Z:∀b∈[I,S],b=S\/s.heap.objs.size<=b:=λb X=>by
   simp only[uk,cb,or_false] at X;rcases X with z|z
   .exact .inr (z▸K)
   .exact .inl z
  cases hw:eF w with
  |true =>
   have hpl:¬ (!t.plain&&a.size>1)=ae:=λz=>n (by rw[hw,z];rfl);show h _ s.drawn I [I,S] (a.toList.map (·.2)) (a.toList.map pK) (λb u e=>ck _ e) Z K (ZD _ hE) hp
    ⟨a.size,_,_,by simp,λi v q=>q,⟨ck _ ho,jx _,η _⟩,λA' Y=>EM Y hw sd p (hw▸y) hpl⟩
  |false =>
   have pp:=sG (w.params.setOrder S L) a;show h _ s.drawn I [I,S] ((pickOrder (w.params.setOrder S L) a).toList.map (·.2)) ((pickOrder (w.params.setOrder S L) a).toList.map pK) (λb u e=>ck _ e) Z K (ZD _ λe he=>hE e (pp.mem_iff.1 he)) ((pp.map pK).trans hp)
    ⟨a.size,_,_,by have q:=pp.length_eq;simp at q ⊢;lia,λi v q=>q,⟨ck _ ho,jx _,η _⟩,λA' Y=>HG Y hw sd p y.fit⟩
def SV(ho:s.heap.get? S=aa o)(d:o.cls=.type "set")(h:Q ag s):aw (ay Ω w) A (Dp (.ref S)) Q E s:=by
 have a:s.TypeIs (.ref S) "set":=⟨o,ho,d⟩;have e:splitId "set.__len__"=aa ("set","__len__"):=by kernel_rfl
 show aw _ _ (Dp _) _ _ _;unfold Dp;show aq (wz a F.slot_set_len.lookup ?_);dsimp only;rw[e];dsimp only;show aq (qe a a0j ?_);rw[Zz (by decide),Z_ (by kernel_rfl)];show aq (qc a (ax h))
def HH(hh:A.handled=af)(ho:s.heap.get? S=aa o)(hi:oC (eF w) o ns)(y:s.heap.get? L=aa {cls:=.type "list",data:=.seq #[] c0})
  (hR:∀h' d tk h a x,(∀b u,b≠L->s.heap.get? b=aa u->h'.get? b=aa u)->h'.get? L=aa {cls:=.type "list",data:=.seq h a }->i_ h.toList x->x.Perm ns->R (.ok (.ret res)) {s with heap:=h',drawn:=d,toks:=tk}):
  aw (ay Ω w) A.in1 (Dq (.ref L) (.ref S) res) (λfin s'=>match fin with | .done f=>R (.ok f) s' | .again a=>a.quiet=ae/\ju (ay Ω w) A a R s') (λe s'=>R (.error e) s') s:=by
 have m:o.ExactSet:=by obtain⟨_,_,_,m,_⟩:=hi;show m
 have U:ns.length<scanBound:=by obtain⟨es,_,_,_,_,_,hp,_,hs⟩:=hi;rw[<- hp.length_eq];simpa using hs
 have Z:L≠S:=λz=>by rw[z,ho] at y;cases y;have q:=m.1;simp at q
 have O:=bz y;show aw _ _ (Dq _ _ _) _ _ _;unfold Dq;show aq (qc (T:="set") ⟨o,ho,m.1⟩ ?_);have J:a1s (.ref L) (.ref S)=ag:=by simp[a1s,Z]
 rw[Zz (by rw[J];decide)];show aq (SU (A:=A.in1) ho hi λp d I fp vs x keep X gI hv hm gv=>?_);show aq (iz (SV (s:={s with heap:=p,drawn:=d}) (keep S o ho) m.1 ?_));rw[Z_ (by kernel_rfl)];unfold a3N;have g1:=keep L _ y;have gb:∀(f:Array ai->Array ai) (g:bb) (c:Nat) (xs:Array ai),g.get? L=aa {cls:=.type "list",data:=.seq xs c} ->∃a,(g.update L (om f)).get? L=aa {cls:=.type "list",data:=.seq (f xs) a }:=λf g c xs e=>⟨_,get?_update_seq e f⟩;show aq (kr (aq (aq (a1y (s:={s with heap:=p,drawn:=d}) g1 rfl ?_ (jx _) (by simp)))));obtain⟨c2,g2⟩:=gb (·.push .none) p _ _ g1;show a1y (s:={s with heap:=p.update L (om (·.push .none)),drawn:=d}) g2 rfl ?_ (by simp;rw[ie];lia) (by simp);obtain⟨c3,g3⟩:=gb (·.pop) _ _ _ g2;obtain⟨n,P,St,en,hP,K,W⟩:=gv;have nLI:L≠I:=λz=>by rw[z] at O;show Zw (gg O gI) (il _)
 have zr:L∉fp:=λz=>by
  rcases X L z with q|q
  .exact Z q
  .exact Zw (gg O q) (il _)
 have W1:=(W A.in1 hh).toS;have nn:n<=bf:=by rw[en,Dv hv,hm.length_eq];show xf U
 show ax ⟨qh F.plain_extend_loop _,codeAny_extend_loopS W1 nn L zr res n 0 _ #[] _ rfl (jx _) (W1.frame 0 {s with heap:=p,drawn:=d} _ s.toks K (bh _) λb hb u e=>?_) g3 (ItemsOf.nil _) λs' h a v Y it=>?_⟩
 .have l:L≠b:=λz=>zr (z▸hb);show(qo _ _ l).trans ((qo _ _ l).trans e)
 .have es':s' = {s with heap:=s'.heap,drawn:=d,toks:=s'.toks}:=by obtain⟨h',g',d',t',o'⟩:=s';have q1:=v.gens;have q2:=v.drawn;have q3:=v.os;dsimp only at q1 q2 q3;subst q1;subst q2;subst q3;rfl
  have ev:h.toList=vs:=by
   show En λj=>?_;by_cases hj:j<n
   .have J:h[j]?=aa (h[j]'(by rw[it.1];show hj)):=jr _;rw[ux,J];show(hP j _ (it.2 j _ J)).symm
   .rw [qz (by simp[it.1];lia),qz ∅]
  rw[es'];show hR _ d _ h a x (λb u l e=>v.heap b u (λz=>?_) ?_) Y (ev▸hv) hm
  .rcases cb.1 z with q|q
   .exact l q
   .rw [bt] at q;rw[q] at e;show Zw (gg (bz e) gI) (il _)
  .exact (qo _ _ (d_ l)).trans ((qo _ _ (d_ l)).trans (keep b u e))
theorem EO(q:A.handled=af)(ho:s.heap.get? S=aa o)(hi:oC (eF w) o ns)
  (h:∀h' d tk j a,s.heap.objs.size<=h'.objs.size->(∀b u,s.heap.get? b=aa u->h'.get? b=aa u)->i_ j a->a.Perm ns->Q j {s with heap:=h',drawn:=d,toks:=tk}):aw (ay Ω w) A (collect (.ref S)) Q E s:=by
 unfold collect;apply aq;apply Bv;show kz a1b ?_;rw[mq a08]
 wp_walk
 show⟨qh xx _,kz a1d ?_⟩;rw[mq xx];show HH (R:=wants _ _) (s:={s with heap:=s.heap.push {cls:=.type "list",data:=.seq #[]} }) q (ck _ ho) hi (dh _ rfl) λh' d tk m v a keep l n p=>?_;apply aq;apply s_ l;show ax (h h' d tk m.toList a (kj (bz l)) (λb u e=>keep b u (f_ (bz e)) (ck _ e)) n p)
theorem HI(I:A.handled=af)(ho:s.heap.get? S=aa o)(hi:oC (eF w) o ns)(y:ns.length<64)
  (h:∀h' d tk l out a e,(∀b u,s.heap.get? b=aa u->h'.get? b=aa u)->s.heap.objs.size<=l->i_ out a->a.Perm ns->a.Pairwise (· <= ·)->h'.get? l=aa (seqObj "list" out.toArray e)->Q (.ref l) {s with heap:=h',drawn:=d,toks:=tk}):
  aw (ay Ω w) A (call (.builtin "sorted") [.ref S]) Q E s:=by
 apply Calls.call_function_entry kind_sorted plain_sorted entry_sorted (args_sorted1 _);unfold Builtin.«sorted»;show aq (m:=checkCount "sorted" 1 1 _) (ax (aq (EO (A:=A.in1) I ho hi λx d tk j O F keep p v=>?_)));have z:j.length<64:=by rw[Dv p,v.length_eq];show y
 apply aq;show wpAny_newList ?_ (by rw[ie];lia);have g1:(x.push (seqObj "list" j.toArray 0)).get? x.objs.size=aa (seqObj "list" j.toArray 0):=dh _ rfl;show aq (iz (ik slot_list_sort ⟨_,g1,rfl⟩ entry_list_sort (list_sort_tree g1 p z λout a L K J=>⟨_,rfl,?_⟩) (args_list_sort _)));obtain⟨e,g2⟩:=sortedHeap_at (out:=out) g1;show ax ⟨_,rfl,h _ d tk _ out.toList a e (λb u q=>?_) F L (K.trans v) J (by simpa using g2)⟩;have n:=bz (keep b u q);rw[sortedHeap_old (f_ n) (by rw[oo];show qt n)];show ck _ (keep b u q)
end
open L2 L3 L4
theorem tJ:∀(ks ns:Q0e),iB ns ks=ks.foldl putN ns
 |[],ns=>rfl
 |k::ks,ns=>by rw[iB,tJ ks,ll];rfl
theorem wW:∀(ks ns:Q0e),(iB ns ks).length<=ns.length+ks.length
 |[],ns=>bh _
 |k::ks,ns=>by have a:=wW ks (HE ns k);have b:=EK ns k;rw[iB,cf];lia
def vj(w:ba)(a:ah)(ns:Q0e):HO:=.ext λh=>∃o,h.get? a=aa o/\oC (eF w) o ns
section
variable{X:Cx}
def NO(I:Φ X π σ H s):Φ X π σ H {s with drawn:=d}:=⟨I.ok,I.os,I.bare,I.ω,I.loc,I.cell,I.free,I.k6,I.pin,I.hok,I.len⟩
def Gz(w:ba)(K:ar):List V->Hp->VK->Prop:=λxs H Q=>∃(a:ah) (ns:Q0e),xs=[.ref a]/\fI K H a (ns.map V.int)/\ns.length<64 /\∀p,H p=af->Q (.ref p) (upd H p (vj w p (iB [] ns)))
def NP(A:X.calm=ae):fV X (.type "set") (Gz X.w X.K):=by intro π s σ H xs J Q I r h;obtain⟨a,ns,rfl,F,L,q⟩:=h;obtain⟨u,rfl,n⟩:=vals1 r;cases n;obtain⟨l,m,d,Y⟩:=I.tuple F;have hi:=intsAre_of m;obtain⟨O,v,y,U,x⟩:=id d;show SQ (items:=l.toArray) (ns:=ns) (I.ok.hd A) (by simpa using hi) d (by unfold scanBound;lia) λh' tk j keep g i=>?_;show⟨.ref s.heap.objs.size,_,I.laid (t':=tk) (o:=vj X.w s.heap.objs.size (iB [] ns)) keep (bh _) ⟨⟨j,g,i⟩,⟨j,g⟩,λZ h2 z k=>?_⟩,rfl,q _ (I.hok.fresh (bh _))⟩;obtain⟨o2,e2,p⟩:=z;show⟨o2,k o2 e2,p⟩
def Vz(w:ba):List V->Hp->VK->Prop:=λxs H Q=>∃(a:ah) (ns:Q0e),xs=[.ref a]/\H a=aa (vj w a ns)/\ns.length<64 /\∀d:Q0e,d.Perm ns->d.Pairwise (· <= ·) ->∀p,H p=af->Q (.ref p) (upd H p (.lst (d.map V.int)))
def HJ(y:X.calm=ae):fV X (.builtin "sorted") (Vz X.w):=by
 intro π s σ H xs K Q I r h;obtain⟨a,ns,rfl,z,x,q⟩:=h;obtain⟨u,rfl,v⟩:=vals1 r;cases v;obtain⟨⟨o,ho,hi⟩,_⟩:=I.hok a _ z;show HI (I.ok.hd y) ho hi x λh' d tk l out j e keep n F p A g=>?_;have m:j.length<=bf:=by rw[p.length_eq,ie];lia
 have J:=I.laid (t':=tk) (a:=l) (o:=.lst (j.map V.int)) keep n ⟨by rw[a_];show m,out,e,nY F,by simpa[seqObj] using g⟩;show⟨.ref l,_,NO (d:=d) J,rfl,q j p A l (I.hok.fresh n)⟩
def HK(J:X.calm=ae)(hm:X.mg "sorted"=af)(o:X.mg "set"=af)(ha:tY X [e] t)(hg:Gl X "sorted"<|>0)(q:Gl X "set"<|>0)
  (hs:Zq X e []<|>0) (I:(av [.Call (.Name "set" p2) [e] [] pos2] X.env=(ag,eval (.Call (.Name "set" p2) [e] [] pos2) X.env)::av [] X.env)<|>0):
  kC X (.Call (.Name "sorted" p) [.Call (.Name "set" p2) [e] [] pos2] [] ν) (bH f7 t) :=
 imp (qG (HJ J) hg hm a1B (j5 (k7 (NP J) q o a3f ha (by decide) (by decide) hs (by rfl)) rT I) (by decide) (by decide) I (by rfl)) λσ H Q Qc=>by
  obtain⟨S,ρ,Q3,fc,Y,⟨d,h,Z⟩,k⟩:=Qc;obtain⟨ds,x,h⟩:=bnd h;show⟨S,ρ,λL=>L=ds,fc,Y,⟨_,x,rfl⟩,λvs H1 L y O q1=>?_⟩;subst q1;unfold f7 at h;split at h
  .rename_i a;obtain⟨ns,e1,h⟩:=bnd h;by_cases m:ns.length<64
   .rw [Z_ m] at h;cases h;rw[ints_of e1] at O;obtain⟨v,r,rfl,K,h2⟩:=O.bL;simp only[aZ] at h2;subst h2;symm at K;obtain⟨t1,xs,rfl,A,dt⟩:=K;rw[aZ.ints.mp dt] at A;show⟨t1,ns,rfl,(fI.of A),m,λp F=>⟨p,iB [] ns,rfl,aW,a1X (wW ns []) (by simpa using m),λn z U l j=>?_⟩⟩;have e3:n=sortI (zW ns):=by have e4:iB [] ns=zW ns:=tJ ns [];rw[e4] at z;show pI (z.trans (nF _).symm) U (kE _)
    subst e3;have l1:H1 l=af:=(aU F).free j;show k l _ _ _ (y.free l1) aW ((y.trans (aU F)).trans (aU j)) (aZ.ints.mpr rfl) Z
   .rw [Zz m] at h;cases h
  .cases h
def Gy{kt k2 LN}(Z:X.calm=ae)(hN:X.N.Nodup)(ha:tY X [a,b] t)(hi:X.N[i]?=aa x<|>0)(q:X.N[j]?=aa y<|>0)(o:i≠j<|>1)
  (O:X.env.scope.names.lookup x=aa .local<|>0) (L:X.env.scope.names.lookup y=aa .local<|>0)
  (hw:swappedStores [.Tuple [.Name x px,.Name y py] kt pt] (.Tuple [a,b] k2 LN) X.env=pure (aa [x,y])<|>0)
  (U:swapsWithSole [.Tuple [.Name x px,.Name y py] kt pt] (.Tuple [a,b] k2 LN) ν.line X.env=pure ag<|>0):
  oH X (.Assign [.Tuple [.Name x px,.Name y py] kt pt] (.Tuple [a,b] k2 LN) ν) (KL i j t) :=
 iD (Y_ Z hN hi q o O L ha hw U) λB σ H Qb=>by
  obtain⟨H₀,S,w,ρ,G,E,n,st,d,ok⟩:=Qb;unfold wS KL at d
  cases et:t (gO ρ) with
  |none=>rw[et] at d;show d.elim
  |some ds =>
   rw[et] at d
   match ds,et,d with
   |[d1,d2],et,d =>
    show⟨_,gO ρ,λv=>v=[d1,d2],st.JQ,st.rd,⟨_,et,rfl⟩,λvs H1 v I q1 e=>?_⟩;subst e;obtain⟨F,r,rfl,q2,K⟩:=q1.bL;obtain⟨A,r2,rfl,J,p⟩:=K.bL;simp only[aZ] at p;subst p;show⟨F,A,rfl,?_⟩;have l:=(st.same I).hZ (by rw[n];show eZ hi) q2;have m:∀a,SO S w ρ a->SO S w (ρ.set i (.ro d1)) a:=SO.mono λk e Y=>by
     rcases get_set Y with⟨_,z,_⟩|z
     .cases z
     .exact ⟨e,z.2⟩
    have h:=l.hZ (i:=j) (by rw[dm,n];show eZ q) (Dn.fits (.mono m) _ _ J);show ok.nx w _ H1 _ (by rw[dm,dm];show n) h d
   |[],et,d=>show d.elim
   |[_],et,d=>show d.elim
   |_::_::_::_,et,d=>show d.elim
end
end L6
namespace L7
open PySem.Spec PyProof.Rows L2 L3 L4 LL
def kI(ns:Q0e):List Key:=ns.map cn
def Qa(ns:Q0e):(kI ns).map kV=ns.map V.int:=by unfold kI;rw[gd];rfl
section
variable(rd:List Int->List (List Int))
abbrev All:ah->Prop:=λ_=>True
end
def At(K:ar)(x:Q0a)(a:Q0e)(p:ah)(σ:L2.St)(H:Hp):Prop :=
 ∃d h,σ[0]?=aa (aa d)/\Dn K All H (aE x) d/\σ[1]?=aa (aa h)/\Dn K All H (τ a) h/\σ[2]?=aa (aa (.ref p))
def At.key{K:ar}{x:Q0a}{a:Q0e}{p:ah}{σ:L2.St}{H:Hp}(h:At K x a p σ H):∃b,σ[1]?=aa (aa (.ref b))/\H b=aa (.tup ((kI a).map kV)):=by obtain⟨n,o,v,h2,l,d,q⟩:=h;unfold τ at d;symm at d;obtain⟨b,ys,rfl,j,m⟩:=d;rw[aZ.ints.mp m] at j;show⟨b,l,by rw[Qa];show j⟩
section
variable{K:ar}{rd:List Int->List (List Int)}{x:Q0a}{Ok:List Int->Prop}{a:Q0e}{p:ah}{σ:L2.St}{H:Hp}{χ:List (List Key×V)}
structure Parts (K:ar) (rd:List Int->List (List Int)) (x:Q0a) (a:Q0e) (C1:TT) (T1:TE) (T3:TS):Prop where
 c1:∀p σ H Q,At K x a p σ H->(∀H',ξ H H'->Q (Zv (a.length=x.length)) H')->C1 σ H Q
 t1:∀σ H (Q:VK),(∀H',ξ H H'->Q (.int 1) H')->T1 σ H Q
 t3:∀p (D:Ends) σ H,σ.length=4->At K x a p σ H->a.length<x.length->(∀(σ':L2.St) (H':Hp) (l:ah) (ps:List ah),ξ H H'->At K x a p σ' H'->σ'[3]?=aa (aa (.ref l))->H' l=aa (.lst (ps.map V.ref))->ps.length=(rd a).length ->
  (∀(i:Nat) (q:ah) (b:Q0e),ps[i]?=aa q->(rd a)[i]?=aa b->H' q=aa (.tup (b.map V.int)))->D.nx σ' H')->T3 D σ H
def wst(x:Q0a)(a:Q0e)(p:ah):bK:=[.ro (aE x),.ro (τ a),.ro (.exc "" p),.no]
theorem At.st(h:At K x a p σ H):ST K H All (λ_=>0) σ H (wst x a p) []:=by
 have no:∀(i:Nat) (d:D),(wst x a p)[i]?≠aa (Sv.ow d):=λi d e=>by
  match i,e with
  |0,e=>cases e
  |1,e=>cases e
  |2,e=>cases e
  |3,e=>cases e
  |n+4,e=>simp[wst] at e
 obtain⟨l,o,A,h2,z,y,v⟩:=h;show⟨λ_ _=>trivial,ξ.refl H,λi d e=>Zw e (no i d),λi j d e h=>Zw h (no i d),λi d e=>?_,λg q=>(by cases q),λi _ e=>Zw e (no i _)⟩;have m:∀b,All b->SO All (λ_=>0) (wst x a p) b:=λb _=>⟨trivial,λi d e=>Zw e (no i d)⟩
 match i,e with
 |0,e=>cases e;show⟨l,A,Dn.fits (.mono m) _ _ h2⟩
 |1,e=>cases e;show⟨o,z,Dn.fits (.mono m) _ _ y⟩
 |2,e=>cases e;show⟨_,v,by simp only[Dn]⟩
 |3,e=>cases e
 |n+4,e=>simp[wst] at e
variable{Ω:bg}{w:ba}{A:br}{E:Q0c}{s:ao}{d it:ah}{o:az}{es:Array qp}{ep i:Nat}
theorem NQ(n:(d == sysModules)=ag)(ho:s.heap.get? d=aa o)(l:o.ExactDict)(m:o.data=.dict es ep)
  (h:Q (.ref s.heap.objs.size) {s with heap:=s.heap.push {cls:=.type "dict_keyiterator",data:=.fields #[.ref d,.int 0 0,.int es.size 0,.int ep 0]} }):aw (ay Ω w) A (pyIter (.ref d)) Q E s:=by
 have j:s.TypeIs (.ref d) "dict":=⟨o,ho,l.1⟩;show Bw j a06 (ik a06 j F.entry_dict_iter ?_ (F.args_dict_iter_1 _))
 (unfold Builtin.«dict.__iter__»;wp_walk)
 rw[l.1,Zz (by decide)]
 wp_walk
 rw[m];show ax ?_
 wp_walk
 rw[m];show ax ?_
 wp_walk
 show⟨.ref s.heap.objs.size,rfl,"dict_keyiterator",_,⟨_,dh _ rfl,rfl⟩,ud.lookup,h⟩
theorem NR(hi:s.heap.IsKeyIter it d i es.size ep)(ho:s.heap.get? d=aa o)(q:o.data=.dict es ep)(v:i<es.size)
  (h:∀h',h'.IsKeyIter it d (i+1) es.size ep->jw it s.heap h'->Q (aa es[i].key) {s with heap:=h' }):aw (ay Ω w) A (pyNext (.ref it)) Q E s:=by
 have n:=hi.typeIs;obtain⟨I,l,F,j⟩:=id hi;unfold pyNext;show aq (qg (kb (name:=oj "__next__") n ud (ik ud n a1e ?_ (a1j _))));unfold Builtin.«dict_keyiterator.__next__»
 wp_walk
 rw[j,show((xr "dict_keyiterator").elim "dict_keyiterator" λx=>x.tpName)="dict_keyiterator" by rw[xg];kernel_rfl,Zz (by decide)]
 wp_walk
 rw[q];show ax ?_;rw[Zz (by simp)]
 wp_walk
 rw[q];show ax ?_;rw[Zz (by simp)];show ax ?_;dsimp only;rw[Zz ∅,gf,jr v];dsimp only
 wp_walk
 rw[j];dsimp only;simp only[show((xr "dict_keyiterator").elim "dict_keyiterator" λx=>x.tpName)="dict_keyiterator" by rw[xg];kernel_rfl,show a1t "dict_keyiterator"=ag from by decide,y_,if_false];generalize y:List.any _ _=bw;have z:bw=ag:=by rw[<- y];decide
 subst z;rw[Z_ (by simp),Zz (by decide)];have g1:=mi (t_ λx=>x.setIfInBounds (0+1) (rawInt ((i:Int)+1))) l (qm (jd j _));have m:(s.heap.update it (t_ λx=>x.setIfInBounds (0+1) (rawInt ((i:Int)+1)))).IsKeyIter it d (i+1) es.size ep:=⟨_,g1,(ua ..).trans F,by rw[jd j];simp[rawInt]⟩;have fin:=h _ m (jj ..);show wpAny_update l ?_;have t1:a0Q {s with heap:=s.heap.update it (t_ λx=>x.setIfInBounds (0+1) (rawInt ((i:Int)+1)))} (.ref it) "dict_keyiterator":=m.typeIs;show aq (iz (aq (wpAny_isOneOf_keyiter t1 ?_)));rw[Z_ (by decide)];show ax (ax ⟨_,rfl,ax fin⟩)
theorem SW(v:A.handled=af)(hi:s.heap.IsKeyIter it d i es.size ep)(ho:s.heap.get? d=aa o)(m:o.data=.dict es ep)(q:es.size<=i)
  (h:∀h',xt it s.heap h'->Q af {s with heap:=h' }):aw (ay Ω w) A (pyNext (.ref it)) Q E s:=by
 have l:=hi.typeIs;obtain⟨z,n,F,j⟩:=id hi;unfold pyNext;show aq (qg (kb (name:=oj "__next__") l ud (ik ud l a1e ?_ (a1j _))));unfold Builtin.«dict_keyiterator.__next__»
 wp_walk
 rw[j,show((xr "dict_keyiterator").elim "dict_keyiterator" λx=>x.tpName)="dict_keyiterator" by rw[xg];kernel_rfl,Zz (by decide)]
 wp_walk
 rw[m];show ax ?_;rw[Zz (by simp)]
 wp_walk
 rw[m];show ax ?_;rw[Zz (by simp)];show ax ?_;dsimp only;rw[Zz ∅,gf,zd q];dsimp only
 wp_walk
 rw[j];dsimp only;simp only[show((xr "dict_keyiterator").elim "dict_keyiterator" λx=>x.tpName)="dict_keyiterator" by rw[xg];kernel_rfl,show a1t "dict_keyiterator"=ag from by decide,y_,if_false];rw[Z_ (by simp)]
 wp_walk
 have y:A.in1.handled=af:=v;unfold raiseNew;apply aq;apply xa;rw[y];show aq (ax (wy (aq ?_)));show qe (b:=ae) (T:="StopIteration") ?_ Cn ?_
 .exact ⟨_,dh _ rfl,rfl⟩
 apply ax;apply h;show((jj ..).extBut.push _).push _
end
end L7
namespace L8
open PySem.Spec PyProof.Rows L2
def gB(χ:List (KX×V×V))(k:KX):Option V:=(χ.find? λp=>Zv (p.1=k)).map (·.2.2)
def iS(χ:List (KX×V×V))(k:KX)(y v:V):List (KX×V×V):=if χ.any (λp=>Zv (p.1=k))=ae then χ.map (λp=>if p.1=k then(p.1,p.2.1,v) else p) else χ++[(k,y,v)]
def B1(H:Hp):KX->V->Prop
 |.inl k,y=>y=kV k
 |.inr ks,y=>∃b,y=.ref b/\mR H ks b
def nJ(χ:List (KX×V×V))(k:KX):Prop:=∀p∈χ,p.1.isLeft=k.isLeft
def ER(χ:List (KX×V×V))(k:KX)(y v:V):(iS χ k y v).length<=χ.length+1:=by
 unfold iS;split
 .rw [a_];lia
 .simp
abbrev PL:List (KX×V×V)->List (Key×ai)->Prop:=ij λp q=>p.1=.inl q.1/\p.2.1=kV q.1/\Ψ p.2.2 q.2
abbrev PT(H:Hp):List (KX×V×V)->List (N1×ah×ai)->Prop:=ij λp q=>p.1=.inr q.1/\p.2.1=.ref q.2.1/\mR H q.1 q.2.1/\Ψ p.2.2 q.2.2
theorem PL.val(r:PL χ vs)(k:Key):mQ (gB χ (.inl k)) (valueAt vs k):=by
 induction r with
 |nil=>show iw
 | @cons p q ps qs h t ih =>
  by_cases e:q.1=k
  .have d:p.1=.inl k:=by rw[h.1,e]
   have a:gB (p::ps) (.inl k)=aa p.2.2:=by unfold gB;rw[gx,Zx d];rfl
   have b:valueAt (q::qs) k=aa q.2:=by unfold valueAt;rw[gx];simp[e]
   rw[a,b];show h.2.2
  .have d:¬ p.1=.inl k:=λz=>e (by rw[h.1] at z;show sj z);have a:gB (p::ps) (.inl k)=gB ps (.inl k):=by unfold gB;rw[gx,Zy d]
   have b:valueAt (q::qs) k=valueAt qs k:=by unfold valueAt;rw[gx];simp[e]
   rw[a,b];show ih
theorem PT.val(r:PT H χ xs)(k:N1):mQ (gB χ (.inr k)) ((atKey xs k).map (·.2)):=by
 induction r with
 |nil=>show iw
 | @cons p q ps qs h t ih =>
  by_cases e:q.1=k
  .have d:p.1=.inr k:=by rw[h.1,e]
   have a:gB (p::ps) (.inr k)=aa p.2.2:=by unfold gB;rw[gx,Zx d];rfl
   have b:atKey (q::qs) k=aa q.2:=by unfold atKey;rw[gx];simp[e]
   rw[a,b];show h.2.2.2
  .have d:¬ p.1=.inr k:=λz=>e (by rw[h.1] at z;show si z);have a:gB (p::ps) (.inr k)=gB ps (.inr k):=by unfold gB;rw[gx,Zy d]
   have b:atKey (q::qs) k=atKey qs k:=by unfold atKey;rw[gx];simp[e]
   rw[a,b];show ih
theorem SX(χ:List (KX×V×V))(k:KX):χ.any (λp=>Zv (p.1=k))=(gB χ k).isSome:=by
 unfold gB;rw[uh]
 induction χ with
 |nil=>rfl
 |cons p ps ih =>
  rw[j_,gx,ih];cases Zv (p.1=k)<;>rfl
def PL.put(r:PL χ vs)(k:Key)(a:Ψ v u):PL (iS χ (.inl k) (kV k) v) (stored vs k u):=by
 have e:χ.any (λp=>Zv (p.1=.inl k))=vs.any (λd=>d.1=k):=by
  induction r with
  |nil=>rfl
  | @cons p q ps qs h t ih =>
   rw[j_,j_,ih,h.1];congr 1;show decide_eq_decide.2 ⟨λz=>sj z,λz=>by rw[z]⟩
 unfold iS stored;rw[e];split
 .rename_i hc
  clear hc e
  induction r with
  |nil=>show .nil
  | @cons p q ps qs h t ih =>
   rw[bp,bp];show .cons ?_ ih;by_cases z:q.1=k
   .rw [Z_ z,Z_ (by rw[h.1,z])];show⟨h.1,h.2.1,a⟩
   .rw [Zz z,Zz (λy=>z (by rw[h.1] at y;show sj y))];show h
 .exact xp r ⟨rfl,rfl,a⟩
def PT.put(r:PT H χ xs)(k:N1)(d:mR H k b)(a:Ψ v u):PT H (iS χ (.inr k) (.ref b) v) (storedH xs k b u):=by
 have e:χ.any (λp=>Zv (p.1=.inr k))=(atKey xs k).isSome:=by rw[SX];have:=(PT.val r k).nZ;rw[uh] at this;show this
 unfold iS storedH;rw[e];split
 .rename_i hc
  clear hc e
  induction r with
  |nil=>show .nil
  | @cons p q ps qs h t ih =>
   rw[bp,bp];show .cons ?_ ih;unfold putAt;by_cases z:q.1=k
   .rw [Z_ z,Z_ (by rw[h.1,z])];show⟨h.1,h.2.1,h.2.2.1,a⟩
   .rw [Zz z,Zz (λy=>z (by rw[h.1] at y;show si y))];show h
 .exact xp r ⟨rfl,rfl,d,a⟩
section
variable{P:bg}{w:ba}{H:Hp}{h:bb}{a:ah}{o:az}{χ:List (KX×V×V)}
def lZ(ok:n9 P w H h)(n:mR H ks b):(g8 P w).is h ks b:=by
 obtain⟨d,e,r⟩:=n;obtain⟨_,x,l,⟨q,A,h2,m,z⟩,_⟩:=(show dR P w H h b (.tup d) from ok b _ e);have go:∀{ks:N1} {d:List V} {j:Q0f},ij (vM H) ks d->θ d j->g7 (bE P w) h ks j:=by
  intro ks d j r
  induction r generalizing j with
  |nil=>intro l;cases l;show .nil
  | @cons k v ks d i _ ih =>
   intro l
   cases l with
   | @cons _ u _ j p rt =>
    show .cons ?_ (ih rt)
    cases k with
    |inl k =>
     have i:v=kV k:=i;subst i;show mW p
    |inr k =>
     obtain⟨c,rfl,y⟩:=i;have p:u=.ref c:=p;show⟨c,p,BB ok y⟩
 show⟨q,x.toArray,m,A,h2,z,by simpa using go r l⟩
def nK(x:xK P w H o χ)(ho:h.get? a=aa o)(y:∀p∈χ,p.1.isLeft=ae):∃d,PL χ d/\h.DictOf (bE P w) a d:=by
 obtain⟨ex,l,m,n,v⟩:=x;rcases v with⟨d,r,j,h2,A⟩|⟨xs,r,j,h2⟩
 .exact ⟨d,r,o,l,m,ho,ex,n,j,h2,A⟩
 .cases r with
  |nil =>
   have I:l.toList=[]:=j;have F:l=#[]:=by simpa using I
   subst F;show⟨[],.nil,o,#[],m,ho,ex,n,(λ_ z=>by simp at z),.nil,mw⟩
  | @cons p q ps qs hq t =>
   have:=y p cq;rw[hq.1] at this;cases this
def qU(ok:n9 P w H h)(x:xK P w H o χ)(ho:h.get? a=aa o)(v:∀p∈χ,p.1.isLeft=ag):∃xs,PT H χ xs/\h.DictOfH (g8 P w) a xs:=by
 obtain⟨ex,j,m,n,d⟩:=x;rcases d with⟨A,r,l,h2,F⟩|⟨xs,r,l,h2⟩
 .cases r with
  |nil =>
   have z:j.toList=[]:=List.eq_nil_of_length_eq_zero (by rw[h2.length];rfl);show⟨[],.nil,o,j,m,ho,ex,n,z,(λ_ y=>by simp at y),mw⟩
  | @cons p q ps qs hq t =>
   have:=v p cq;rw[hq.1] at this;cases this
 .refine ⟨xs,r,o,j,m,ho,ex,n,l,?_,h2⟩;have go:∀{χ:List (KX×V×V)} {xs:List (N1×ah×ai)},PT H χ xs ->∀x∈xs,(g8 P w).is h x.1 x.2.1:=by
   intro χ xs r
   induction r with
   |nil=>intro x d;cases d
   |cons hq _ ih =>
    intro x d;rcases cb.1 d with e|d
    .subst e;show lZ ok hq.2.2.1
    .exact ih x d
  show go r
variable{X:Cx}{π:Q0b}{σ:L2.St}{s:ao}{y v z:V}{u r:ai}{A:br}{E:Q0c}{k:KX}
def oK(I:Φ X π σ H s)(e:H a=aa (.dX o χ)):χ.length<=bf/\(a == sysModules)=ag/\s.heap.get? a=aa o/\xK X.Ω X.w H o χ:=I.hok a _ e
def W7{k:Key}(kd:nJ χ (.inl k)):∀p∈χ,p.1.isLeft=ae:=kd
def W8{k:N1}(kd:nJ χ (.inr k)):∀p∈χ,p.1.isLeft=ag:=kd
theorem NS(J:A.units+2<bx)(I:Φ X π σ H s)(e:H a=aa (.dX o χ))(j:B1 H k y)(kd:nJ χ k)(x:gB χ k=aa v)(n:Ψ y u)(h:∀d s',Φ X π σ H s'->Ψ v d->Q d s'):
  aw (ay X.Ω X.w) A (getItem (.ref a) u) Q E s:=by
 obtain⟨z,O,ho,q⟩:=oK I e
 cases k with
 |inl k =>
  have j:y=kV k:=j;subst j;obtain⟨F,rel,dd⟩:=nK q ho (W7 kd);obtain⟨d,hw,l⟩:=mQ.some_of (v:=v) (o:=valueAt F k) (by rw[<- x];show PL.val rel k);show a0a (mW n) dd.mapOf hw (h d _ (I.tok _) l)
 |inr k =>
  obtain⟨b,rfl,L⟩:=j;obtain rfl:u=fm b:=n;obtain⟨xs,rel,dd⟩:=qU I.hok q ho (W8 kd);obtain⟨d,hw,l⟩:=mQ.some_of (v:=v) (o:=(atKey xs k).map (·.2)) (by rw[<- x];show PT.val rel k);obtain⟨p,K,m⟩:=k_.mp hw;show a0b (nest_room J) (lZ I.hok L) dd K ?_;rw[m];show h d _ (I.tok _) l
theorem Ae(neg:Bool)(n:A.units+2<bx)(I:Φ X π σ H s)(e:H a=aa (.dX o χ))(j:B1 H k y)(kd:nJ χ k)(l:Ψ y u)(h:∀s',Φ X π σ H s'->Q (.bool (if neg then !(gB χ k).isSome else(gB χ k).isSome)) s'):
  aw (ay X.Ω X.w) A (compareOp (if neg then .NotIn else .In) u (.ref a)) Q E s:=by
 obtain⟨z,d,ho,m⟩:=oK I e
 cases k with
 |inl k =>
  have j:y=kV k:=j;subst j;obtain⟨q,rel,dd⟩:=nK m ho (W7 kd);have ev:(gB χ (.inl k)).isSome=(valueAt q k).isSome:=(PL.val rel k).nZ;rw[ev] at h
  cases neg with
  |false=>show wpAny_in_of (mW l) d dd.mapOf (h _ (I.tok _))
  |true=>show wpAny_notIn_of (mW l) d dd.mapOf (h _ (I.tok _))
 |inr k =>
  obtain⟨b,rfl,p⟩:=j;obtain rfl:u=fm b:=l;obtain⟨xs,rel,dd⟩:=qU I.hok m ho (W8 kd);have ev:=(PT.val rel k).nZ;rw[uh] at ev;rw[ev] at h
  cases neg with
  |false=>show wpAny_in_heap (nest_room n) (lZ I.hok p) d dd (h _ (I.tok _))
  |true=>show wpAny_notIn_heap (nest_room n) (lZ I.hok p) d dd (h _ (I.tok _))
def wZ(I:Φ X π σ H s)(e:H a=aa (.dX o χ)):s.TypeIs (.ref a) "dict":=by obtain⟨z,j,ho,d⟩:=oK I e;show⟨o,ho,d.1.1⟩
theorem Vy(x:A.units+2<bx)(I:Φ X π σ H s)(e:H a=aa (.dX o χ))(d:B1 H k y)(kd:nJ χ k)(n:Ψ y u)(m:Ψ z r)(h:∀j s',Φ X π σ H s'->Ψ ((gB χ k).getD z) j->Q j s'):
  aw (ay X.Ω X.w) A (call (.builtin "dict.get") [.ref a,u,r]) Q E s:=by
 obtain⟨_,q,ho,p⟩:=oK I e;have l:=wZ I e
 cases k with
 |inl k =>
  have d:y=kV k:=d;subst d;obtain⟨J,rel,dd⟩:=nK p ho (W7 kd);show a0x Dc l a1f (a1k _ _ _) (meets_dict_get_default (bE X.Ω X.w) a (mW n) q r) ⟨_,dd.mapOf,h _ _ (I.tok _) ((PL.val rel k).getD m)⟩
 |inr k =>
  obtain⟨b,rfl,F⟩:=d;obtain rfl:u=fm b:=n;obtain⟨xs,rel,dd⟩:=qU I.hok p ho (W8 kd);show a0x Dc l a1f (a1k _ _ _) (meetsH_dict_get_default (g8 X.Ω X.w) a b q r) ⟨nest_room x,k,xs,lZ I.hok F,dd,h _ _ (I.tok _) ((PT.val rel k).getD m)⟩
def ES{P:bg}{w:ba}{h':bb}{H':Hp}{χ:List (KX×V×V)}{j:List (Key×ai)}(rel:PL χ j)(dd:h'.DictOf (bE P w) a j):∃d,h'.get? a=aa d/\xK P w H' d χ:=by obtain⟨d,x,F,q,h2,p,n,m,l⟩:=dd;show⟨d,q,h2,x,F,p,.inl ⟨j,rel,n,m,l⟩⟩
def KG{P:bg}{w:ba}{h':bb}{H':Hp}{χ:List (KX×V×V)}{xs:List (N1×ah×ai)}(rel:PT H' χ xs)(dd:h'.DictOfH (g8 P w) a xs):∃d,h'.get? a=aa d/\xK P w H' d χ:=by obtain⟨d,p,q,n,h2,m,l,_,j⟩:=dd;show⟨d,n,h2,p,q,m,.inr ⟨xs,rel,l,j⟩⟩
def KH{H:Hp}{a:ah}{o:az}{χ:List (KX×V×V)}{u:HO}(e:H a=aa (.dX o χ)):∀b ys,H b=aa (.tup ys)->upd H a u b=aa (.tup ys):=λb ys d=>by rw[bQ (YH d e (λz=>nomatch z))];show d
theorem NT(Y:A.units+2<bx)(I:Φ X π σ H s)(e:H a=aa (.dX o χ))(l:B1 H k y)(kd:nJ χ k)(Z:χ.length<bf)(x:Ψ y u)(F:Ψ v r)(h:∀d s',Φ X π σ (upd H a (.dX d (iS χ k y v))) s'->Q () s'):
  aw (ay X.Ω X.w) A (setItem (.ref a) u r) Q E s:=by
 obtain⟨z,O,ho,L⟩:=oK I e;have K:(iS χ k y v).length<=bf:=by have:=ER χ k y v;lia
 have J:Mut (H a):=by rw[e];show iw
 cases k with
 |inl k =>
  have l:y=kV k:=l;subst l;obtain⟨U,rel,dd⟩:=nK L ho (W7 kd);have p:U.length<=bf:=by rw[<- ql rel];show z
  show Zj (hsz:=p) (mW x) dd λh' q n=>?_;obtain⟨d,g1,g2⟩:=ES (H':=upd H a (.dX o (iS χ (.inl k) (kV k) v))) (PL.put rel k F) q;show h d _ (lV I J n ⟨d,g1⟩ ⟨K,O,g1,g2.stay λb ys m=>by
   by_cases j:b=a
   .subst j;rw[aW] at m;cases m
   .rw [bQ j] at m ⊢;show m⟩)
 |inr k =>
  obtain⟨b,rfl,j⟩:=l;obtain rfl:u=fm b:=x;obtain⟨xs,rel,dd⟩:=qU I.hok L ho (W8 kd);have p:xs.length<=bf:=by rw[<- ql rel];show z
  show Zk (hsz:=p) (nest_room Y) (lZ I.hok j) dd λh' q n=>?_;obtain⟨d,g1,g2⟩:=KG (PT.put rel k j F) q;show h d _ (lV I J n ⟨d,g1⟩ ⟨K,O,g1,g2.stay (KH e)⟩)
end
open L7
def P_(h ty:TE):TE:=λσ H Q=>h σ H λx j=>ty σ j λy d=>∃a o χ k v,x=.ref a/\d a=aa (.dX o χ)/\B1 d k y/\nJ χ k/\gB χ k=aa v/\Q v d
def W9(neg:Bool)(ty h:TE):TE:=λσ H Q=>ty σ H λy j=>h σ j λx d=>∃a o χ k,x=.ref a/\d a=aa (.dX o χ)/\B1 d k y/\nJ χ k/\Q (.bl (if neg then !(gB χ k).isSome else(gB χ k).isSome)) d
def Vx(l ty j:TE):TE:=λσ H Q=>l σ H λx h=>∃a,x=.ref a/\(∃o χ,h a=aa (.dX o χ))/\ty σ h λy m=>j σ m λz d=>∃o χ k,d a=aa (.dX o χ)/\B1 d k y/\nJ χ k/\Q ((gB χ k).getD z) d
def Pz(j ty h:TE):TS:=λD σ H=>h σ H λv n=>j σ n λx m=>ty σ m λy d=>∃a o χ k,x=.ref a/\d a=aa (.dX o χ)/\B1 d k y/\nJ χ k/\χ.length<bf /\∀l,D.nx σ (upd d a (.dX l (iS χ k y v)))
def Py:TE:=λ_ H Q=>∀p o,H p=af->Q (.ref p) (upd H p (.dX o []))
def Px(tk d:TE):TE:=λσ H Q=>∀p o,H p=af->tk σ (upd H p (.dX o [])) λy j=>d σ j λz a=>∃k,B1 a k y/\a p=aa (.dX o []) /\∀h,Q (.ref p) (upd a p (.dX h [(k,y,z)]))
section
variable{X:Cx}{o i e f value:au}{ν pos':bc}{td ty tv tz:TE}
def XA(q:X.A.units+2<bx)(ho:PE X o td)(hi:PE X i ty)(z:MG i):PE X (.Subscript o i ν) (P_ td ty):=by intro π s σ H Q I h;show JO a07.lookup z (dF (ho π s σ H _ I h) λu j ⟨x,U,L,m,q1⟩=>?_);show dF (hi π j σ U _ L q1) λiv Z J=>?_;obtain⟨y,O,d,l,a,ob,χ,k,v,ex,e,F,kd,p,q2⟩:=J;subst ex;obtain rfl:u=fm a:=m;show⟨wZ d e,NS q d e F kd p l λY s3 K n=>⟨v,O,K,n,q2⟩⟩
def Vw(m:X.A.units+2<bx)(hi:PE X i ty)(ho:PE X o td):PC X .In i o (W9 ag ty td):=by intro π s σ H Q I h;show dF (hi π s σ H _ I h) λU d p=>?_;obtain⟨y,K,F,j,q1⟩:=p;show dF (ho π d σ K _ F q1) λu L q=>?_;obtain⟨x,J,z,l,a,O,χ,k,ex,e,n,kd,q2⟩:=q;subst ex;obtain rfl:u=fm a:=l;show Ae ag m z e n kd j λs3 v=>⟨.bl _,J,v,rfl,q2⟩
def NU(m:X.A.units+2<bx)(hi:PE X i ty)(ho:PE X o td):PC X .NotIn i o (W9 ae ty td):=by intro π s σ H Q I h;show dF (hi π s σ H _ I h) λU d p=>?_;obtain⟨y,K,F,j,q1⟩:=p;show dF (ho π d σ K _ F q1) λu L q=>?_;obtain⟨x,J,z,l,a,O,χ,k,ex,e,n,kd,q2⟩:=q;subst ex;obtain rfl:u=fm a:=l;show Ae ae m z e n kd j λs3 v=>⟨.bl _,J,v,rfl,q2⟩
def XB(F:X.A.units+2<bx)(ho:PE X o td)(hi:PE X i ty)(z:PE X value tv)(J:df value (aa (.Subscript o i pos')) ν.line X.env=pure ag):PS X (.Assign [.Subscript o i pos'] value ν) (Pz td ty tv):=by intro π s σ H D I h;show a0g (dF (z π s σ H _ I h) λr j ⟨v,H1,I1,n,q1⟩=>?_) J;show dF (ho π j σ H1 _ I1 q1) λu d O=>?_;obtain⟨x,H2,I2,m,q2⟩:=O;show dF (hi π d σ H2 _ I2 q2) λiv s3 U=>?_;obtain⟨y,H3,Z,l,a,ob,χ,k,ex,e,L,kd,K,p⟩:=U;subst ex;obtain rfl:u=fm a:=m;show NT F Z e L kd K l n λq s4 Y=>⟨σ,_,Y,p q⟩
def SY(U:X.A.units+2<bx)(ho:PE X o td)(he:PE X e ty)(Z:PE X f tz)(m:M2 X o "get" apos e f cpos):PE X (.Call (.Attribute o "get" apos) [e,f] [] cpos) (Vx td ty tz):=by
 intro π s σ H Q I h;show wpAny_Call_method m.ω m.few m.line F.plainAttrs_dict Dc F.type_dict_get (dF (ho π s σ H _ I h) λu n ⟨x,H1,d,J,a,ex,⟨O,χ,j⟩,q1⟩=>?_);subst ex;obtain rfl:u=fm a:=J;show⟨wZ d j,λb q=>?_,?_⟩
 .cases q;obtain⟨_,_,h3,h4⟩:=oK d j;show⟨O,h3,h4.1.2.1⟩
 rw[m.trees];show Di rfl (Dh (Dg (dF (he π n σ H1 _ d q1) λiv l ⟨y,H2,I2,v,q2⟩=>?_)));show Dg (dF (Z π l σ H2 _ I2 q2) λfv s3 ⟨z,H3,I3,p,o3,aMw,k,e3,Y,kd,L⟩=>a1l ?_);show Vy U I3 e3 Y kd v p λw' s4 I4 K=>⟨_,H3,I4,K,L⟩
def ET(h:bb)(d:sysModules<h.objs.size):dR P w H (h.push {cls:=.type "dict",data:=.dict #[]}) h.objs.size (.dX {cls:=.type "dict",data:=.dict #[]} []) :=
 ⟨jx _,beq_eq_false_iff_ne.mpr (d_ (f_ d)),dh _ rfl,⟨rfl,rfl,rfl⟩,#[],0,rfl,.inl ⟨[],.nil,(λ_ a=>by simp at a),.nil,mw⟩⟩
def XD:PE X (.Dict [] [] ν) Py:=λπ s σ H Q I h =>
 a0f ⟨.ref s.heap.objs.size,_,I.laid (t':=s.toks) (λ_ _ q=>ck _ q) (bh _) (ET s.heap I.big),rfl,h _ _ (I.hok.fresh (bh _))⟩
theorem NV(U:A.units+1<bx)(I:Φ X π σ H s)(e:H a=aa (.dX ob []))(l:B1 H k y)(F:Ψ y u)(J:Ψ v r)(h:∀d s',Φ X π σ (upd H a (.dX d [(k,y,v)])) s'->Q () s'):
  aw (ay X.Ω X.w) A (dictSet a u r) Q E s:=by
 obtain⟨z,O,ho,L⟩:=oK I e;have K:Mut (H a):=by rw[e];show iw
 cases k with
 |inl k =>
  have l:y=kV k:=l;subst l;obtain⟨Y,rel,dd⟩:=nK (a:=a) L ho (λp q=>by cases q);cases rel;show wpAny_dictSet_pairs (hsz:=by decide) (mW F) dd λh' x n=>?_;obtain⟨d,g1,g2⟩:=ES (H':=upd H a (.dX ob [(.inl k,kV k,v)])) (PL.put .nil k J) x;show h d _ (lV I K n ⟨d,g1⟩ ⟨by show 1<=bf;decide,O,g1,g2.stay λb ys m=>by
   by_cases j:b=a
   .subst j;rw[aW] at m;cases m
   .rw [bQ j] at m ⊢;show m⟩)
 |inr k =>
  obtain⟨b,rfl,j⟩:=l;obtain rfl:u=fm b:=F;obtain⟨xs,rel,dd⟩:=qU (a:=a) I.hok L ho (λp q=>by cases q);cases rel;show wpAny_dictSet_heap (hsz:=by decide) (show(g8 X.Ω X.w).room A from U) (lZ I.hok j) dd λh' x n=>?_;obtain⟨d,g1,g2⟩:=KG (PT.put (H:=H) .nil k j J) x;show h d _ (lV I K n ⟨d,g1⟩ ⟨by show 1<=bf;decide,O,g1,g2.stay (KH e)⟩)
def EU(Q:VK)(p:ah)(o:az):List (V×V)->Hp->Prop
 |[(y,z)],H2=>∃k,B1 H2 k y/\H2 p=aa (.dX o []) /\∀a,Q (.ref p) (upd H2 p (.dX a [(k,y,z)]))
 |_,_=>False
theorem EV{Q:VK}{p:ah}{o:az}{d:List (V×V)}{a:Hp}(h:EU Q p o d a):∃y z k,d=[(y,z)]/\B1 a k y/\a p=aa (.dX o []) /\∀j,Q (.ref p) (upd a p (.dX j [(k,y,z)])):=by
 match d,h with
 |[(y,z)],⟨k,h1,h2,h3⟩=>show⟨y,z,k,rfl,h1,h2,h3⟩
def XE(v:X.A.units+1<bx)(J:PE X i ty)(p:PE X value tv):PE X (.Dict [aa i] [value] ν) (Px ty tv):=by
 intro π s σ H Q I q;have F:=I.hok.fresh (bh s.heap.objs.size);have O:=I.laid (t':=s.toks) (λ_ _ z=>ck _ z) (bh _) (ET (P:=X.Ω) (w:=X.w) s.heap I.big);have l:pairTrees [aa i] [value] X.env ν≠[]:=λz=>by have:=Cj [aa i] [value] X.env ν rfl rfl;rw[z] at this;cases this
 rw[arm_eval_Dict,zip_pairTrees [aa i] [value] X.env ν rfl rfl,dictDisplay_pairs _ l (by rw[Cj _ _ _ _ rfl rfl];show 1<17;decide)];apply aq;show sk (aq ?_);unfold subDict;show aq (Bz (aq (iz ?_)));rw[Z_ (by rw[Cj _ _ _ _ rfl rfl];show 1<=15;decide)];show aq (dF (DJ J p JP π _ σ _ (EU Q s.heap.objs.size _) O (q _ _ F)) λd U ⟨Y,Z,L,rel,q2⟩=>?_);obtain⟨y,z,k,rfl,a,x,h⟩:=EV q2;obtain⟨u,r,rfl,n,m⟩:∃u r,d=[(u,r)]/\Ψ y u/\Ψ z r:=by
  cases rel with
  |cons h1 t=>cases t;show⟨_,_,rfl,h1.1,h1.2⟩
 show iz ?_;rw[o_];show aq (aq (aq (NV v L x a n m λj s3 K=>ax ?_)));show aw _ _ (pure PUnit.unit) _ _ _;show ax (ax (ax (ax ⟨.ref s.heap.objs.size,_,K,rfl,h j⟩)))
end
def Itx(a:ah)(o:az)(d:List V):It :=
 ⟨λi H=>(∃χ,H a=aa (.dX o χ))/\i<d.length,λi H x H'=>H'=H/\d[i]?=aa x,λi H=>(∃χ,H a=aa (.dX o χ))/\d.length<=i⟩
def Vv{P:bg}{w:ba}{K:ar}{tg:au}{a it:ah}{o:az}{m:List V}{l:Array qp}{ep:Nat}(hd:o.data=.dict l ep)(hs:θ m (l.toList.map (·.key))):Turn P w K tg (Itx a o m) [it] it (λi h=>h.IsKeyIter it a i l.size ep):=by
 have hz:l.size=m.length:=by have:=hs.length;simp at this;lia
 show⟨bt.mpr rfl,λi h st b F=>?_,λi h h' st k=>st.at λj e=>k it (bt.mpr rfl) j e,?_,?_,λA i s Q E st h=>wpAny_pyIter_keyiter st h⟩
 .cases bt.1 F;obtain⟨j,e,_,d⟩:=st;show⟨j,e,λv z=>by rw[d] at z;cases z⟩
 .intro X L hw hK hc i π s σ H E I p st y;cases L;cases hw;obtain⟨f0,Z,_,Y,U,O⟩:=p it (bt.mpr rfl);obtain⟨⟨χ,J⟩,hi⟩:=y;obtain⟨_,_,ho,_⟩:=oK I J;have hl:i<l.size:=by rw[hz];show hi
  show NR st ho hd hl λh' n sb=>⟨_,rfl,?_⟩;have I1:Φ X π σ H {s with heap:=h' }:=I.turned (t':=s.toks) (λb j q e=>(sb.2 b q).trans e) f0 Z Y U O;obtain⟨u,hu,ru⟩:=hs.get (i:=i) (x:=m[i]) (bo hi);have hk:u=l[i].key:=by rw[dg,ux,jr hl] at hu;show(ft hu).symm
  subst hk;obtain⟨j,e,c,d⟩:=id n;show JF (s:={s with heap:=h' }) e c d (by decide) ⟨m[i],H,I1,ru,⟨rfl,bo hi⟩,n,λb F=>(p b F).1⟩
 .intro X L hw hK hc i π s σ H E I p st y;cases L;cases hw;obtain⟨f0,Z,_,Y,U,O⟩:=p it (bt.mpr rfl);obtain⟨⟨χ,J⟩,hi⟩:=y;obtain⟨_,_,ho,_⟩:=oK I J;show SW (I.ok.hd hc) st ho hd (by rw[hz];show hi) λh' eb=>⟨rfl,I.turned (t':=s.toks) (λb j q e=>eb b j q e) f0 Z Y U O⟩
def Vu(h:TE):TI:=λσ H R=>h σ H λx d=>∃a o χ,x=.ref a/\d a=aa (.dX o χ)/\((∀p∈χ,B1 d p.1 p.2.1)->R (Itx a o (χ.map (·.2.1))) d)
def Qx(h:(bE P w).is k u=ae):Ψ (kV k) u:=by
 rcases cV h with⟨i,t,rfl,rfl⟩|⟨i,t,rfl,rfl⟩
 .exact ⟨t,rfl⟩
 .exact ⟨t,rfl⟩
def S3(x:xK P w H o χ):∃h y,o.data=.dict h y/\θ (χ.map (·.2.1)) (h.toList.map (·.key)) /\∀p∈χ,B1 H p.1 p.2.1:=by
 obtain⟨_,h,y,F,z⟩:=x;show⟨h,y,F,?_⟩;rcases z with⟨d,r,_,h2,_⟩|⟨xs,r,A,_⟩
 .have go:∀{χ:List (KX×V×V)} {d:List (Key×ai)} {l:List qp},PL χ d->Pairs (bE P w) l d->θ (χ.map (·.2.1)) (l.map (·.key)) /\∀p∈χ,B1 H p.1 p.2.1:=by
   intro χ d l r
   induction r generalizing l with
   |nil=>intro h2;cases h2;show⟨.nil,λp v=>by cases v⟩
   | @cons p q ps qs hq t ih =>
    intro h2
    cases h2 with
    |cons k1 k2 k3 =>
     obtain⟨n,m⟩:=ih k3;show⟨.cons ?_ n,λj a=>?_⟩
     .dsimp only;rw[hq.2.1];show Qx k1
     .rcases cb.1 a with e|a
      .subst e;rw[hq.1,hq.2.1];rfl
      .exact m j a
  show go r h2
 .have go:∀{χ:List (KX×V×V)} {xs:List (N1×ah×ai)},PT H χ xs->θ (χ.map (·.2.1)) ((xs.map (entryOfKey (g8 P w))).map (·.key)) /\∀p∈χ,B1 H p.1 p.2.1:=by
   intro χ xs r
   induction r with
   |nil=>show⟨.nil,λp v=>by cases v⟩
   | @cons p q ps qs hq t ih =>
    obtain⟨n,m⟩:=ih;show⟨.cons ?_ n,λj a=>?_⟩
    .dsimp only;rw[hq.2.1];rfl
    .rcases cb.1 a with e|a
     .subst e;rw[hq.1,hq.2.1];show⟨_,rfl,hq.2.2.1⟩
     .exact m j a
  rw[A];show go r
def S4{X:Cx}{y l:au}{m:TE}(F:PE X l m):PI X y l (Vu m):=by intro π s σ H R I h;show dF (F π s σ H _ I h) λv j O=>?_;obtain⟨x,H1,d,z,a,o,χ,ex,L,q⟩:=O;subst ex;obtain rfl:v=fm a:=z;obtain⟨_,A,ho,n⟩:=oK d L;obtain⟨Y,Z,p,ks,J⟩:=S3 n;show NQ A ho n.1 p ⟨j.heap.objs.size,[j.heap.objs.size],_,_,_,rfl,d.kept (t':=j.toks) λb U e=>ck _ e,Vv p ks,⟨_,dh _ rfl,rfl,by simp⟩,λb K=>?_,q J⟩;rw[bt.1 K];show d.FY (bh _) (d.hok.fresh (bh _))
open L3 L4
section
variable{K:ar}{S:ah->Prop}{H:Hp}
def XG(h:Dn K S H d v)(e:uL d=aa k):v=kV k:=by cases d<;>simp only[uL] at e<;>cases e<;>symm at h<;>show h
theorem EW:∀{ds:List D} {xs:List V} {ks:List Key},aZ K S H ds xs->x5 ds=aa ks->xs=ks.map kV
 |[],xs,ks,h,e=>by simp only[aZ] at h;cases e;show h
 |d::ds,xs,ks,h,e=>by obtain⟨v,r,rfl,j,h2⟩:=h.bL;obtain⟨k,l,e⟩:=bnd e;obtain⟨a,e2,rfl⟩:=oB e;rw[XG j l,EW h2 e2];rfl
theorem S5(h:Dn K S H d v)(e:X1 d=aa k):vM H k v:=by
 cases d with
 |tup ds =>
  obtain⟨ks,e2,rfl⟩:=oB e;symm at h;obtain⟨a,xs,rfl,j,dn⟩:=h;rw[EW dn e2] at j;show⟨a,rfl,j⟩
 |int i=>cases e;symm at h;show h
 |str i=>cases e;symm at h;show h
 |_=>cases e
theorem zR:∀{ds:List D} {xs:List V} {ks:N1},aZ K S H ds xs->rD ds=aa ks->ij (vM H) ks xs
 |[],xs,ks,h,e=>by simp only[aZ] at h;cases e;subst h;show .nil
 |d::ds,xs,ks,h,e=>by obtain⟨v,r,rfl,j,h2⟩:=h.bL;obtain⟨k,l,e⟩:=bnd e;obtain⟨a,e2,rfl⟩:=oB e;show .cons (S5 j l) (zR h2 e2)
theorem qV(h:Dn K S H d v)(e:n8 d=aa k):B1 H k v:=by
 cases d with
 |tup ds =>
  obtain⟨ks,e2,rfl⟩:=oB e;symm at h;obtain⟨a,xs,rfl,j,dn⟩:=h;show⟨a,rfl,xs,j,zR dn e2⟩
 |int i=>cases e;symm at h;show h
 |str i=>cases e;symm at h;show h
 |_=>cases e
def S6(k:Key):Dn K S H (dK k) (kV k):=by cases k<;>simp only[dK,Dn]<;>rfl
theorem S7:∀ks:List Key,aZ K S H (ks.map dK) (ks.map kV)
 |[]=>aZ.nil
 |k::ks=>aZ.cons (S6 k) (S7 ks)
theorem zS:∀{ks:N1} {a:List V},ij (vM H) ks a->aZ K S H (ks.map N7) a
 |_,_,.nil=>aZ.nil
 |k::ks,v::a,.cons h t=>by
  show aZ.cons ?_ (zS t)
  cases k with
  |inl k =>
   have h:v=kV k:=h;subst h;show S6 k
  |inr k =>
   obtain⟨b,rfl,d⟩:=h;simp only[N7,Dn];show⟨b,_,rfl,d,S7 k⟩
theorem Vt(h:B1 H k v):Dn K S H (ZQ k) v:=by
 cases k with
 |inl k =>
  have h:v=kV k:=h;subst h;show S6 k
 |inr k =>
  obtain⟨b,rfl,a,d,r⟩:=h;simp only[ZQ,Dn];show⟨b,a,rfl,d,zS r⟩
theorem sH:∀{χ:List (KX×V×V)} {ds:List D},aZ K S H ds (χ.map (·.2.2))->(∀d,eX (χ.map (·.1)) ds k=aa d ->∃v,gB χ k=aa v/\Dn K S H d v)/\(eX (χ.map (·.1)) ds k=af->gB χ k=af)
 |[],ds,h=>⟨λd e=>by simp[eX] at e,λ_=>rfl⟩
 |p::χ,ds,h=>by
  cases ds with
  |nil=>show Zw h.len (by simp)
  |cons j ds =>
   obtain⟨v,r,l,n,h2⟩:=h.bL;rw[bp] at l;cases l;have m:=sH (k:=k) (χ:=χ) (ds:=ds) h2;by_cases e:p.1=k
   .have a:eX ((p::χ).map (·.1)) (j::ds) k=aa j:=by simp[eX,e]
    have b:gB (p::χ) k=aa p.2.2:=by simp[gB,e]
    rw[a,b];show⟨λd o=>by cases o;show⟨_,rfl,n⟩,λz=>nomatch z⟩
   .have a:eX ((p::χ).map (·.1)) (j::ds) k=eX (χ.map (·.1)) ds k:=by simp[eX,e]
    have b:gB (p::χ) k=gB χ k:=by simp[gB,e]
    rw[a,b];show m
def BW(h:kindB (χ.map (·.1)) k=ae):nJ χ k:=λp a=>by unfold kindB at h;rw[ib] at h;simpa using h p.1 (Ei a)
theorem Qu(j:Dn K S H d v):∀{χ:List (KX×V×V)} {ds:List D},aZ K S H ds (χ.map (·.2.2)) ->
  (L8.iS χ k y v).map (·.1)=(L4.iS (χ.map (·.1)) ds k d).1/\aZ K S H (L4.iS (χ.map (·.1)) ds k d).2 ((L8.iS χ k y v).map (·.2.2)):=by
 intro χ ds h;have e:(χ.map (·.1)).any (λq=>Zv (q=k))=χ.any (λp=>Zv (p.1=k)):=by rw[Er];rfl
 unfold L8.iS L4.iS;rw[e];split
 .refine ⟨?_,?_⟩
  .simp only[gd];show jf λp _=>?_;show(if p.1=k then(p.1,p.2.1,v) else p).1=p.1;split<;>rfl
  .dsimp only;have go:∀{χ:List (KX×V×V)} {ds:List D},aZ K S H ds (χ.map (·.2.2))->aZ K S H (((χ.map (·.1)).zip ds).map λp=>if p.1=k then d else p.2) ((χ.map λp=>if p.1=k then(p.1,p.2.1,v) else p).map (·.2.2)):=by
    intro χ
    induction χ with
    |nil=>intro ds h;cases ds with
     |nil=>show aZ.nil
     |cons d0 ds=>show Zw h.len (by simp)
    |cons p χ ih =>
     intro ds h
     cases ds with
     |nil=>show Zw h.len (by simp)
     |cons d0 ds =>
      obtain⟨u,r,a,l,h2⟩:=h.bL;rw[bp] at a;cases a;show aZ.cons ?_ (ih h2);by_cases z:p.1=k
      .simpa [z] using j
      .simpa [z] using l
   show go h
 .refine ⟨by simp,?_⟩;rw[cc];show h.append (aZ.one j)
end
section
variable{X:Cx}
theorem XH(I:X.A.units+2<bx)(ho:bR X o fo)(hi:bR X i fi)(J:MG i<|>7):bR X (.Subscript o i ν) (aB oQ fo fi):=imp (XA I ho hi J) λσ H Q Qt=>by
 obtain⟨S,ρ,Q3,F,n,⟨d,e,q⟩,k⟩:=Qt;obtain⟨x,ex,e⟩:=bnd e;obtain⟨y,L,e⟩:=bnd e;show⟨S,ρ,λd=>d=x,F,n,⟨x,ex,rfl⟩,λv H1 d1 j h U=>?_⟩;subst U;show⟨S,ρ,λd=>d=y,bI F j,Sl.fits (.same j) n,⟨y,L,rfl⟩,λu H2 d2 p NZ e2=>?_⟩;subst e2;have h:=Dn.fits (.same p) _ _ h
 cases d1 with
 |dG q0 ks ds =>
  obtain⟨z,O,e⟩:=bnd e;symm at h;obtain⟨a,o,χ,rfl,K,sa,⟨rfl,_⟩,Z⟩:=h;by_cases l:kindB (χ.map (·.1)) z=ae
  .rw [Z_ l] at e;obtain⟨m,ev,Y⟩:=(sH Z).1 d e;show⟨a,o,χ,z,m,rfl,K,qV NZ O,BW l,ev,k m H2 d (j.trans p) Y q⟩
  .rw [Zz l] at e;cases e
 |_=>cases e
theorem S8(h:lift X.K (wE (aB (zX neg) fi fo)) σ H Q):W9 neg (lift X.K (wE fi)) (lift X.K (wE fo)) σ H Q:=by
 obtain⟨S,ρ,Q3,A,p,⟨d,e,q⟩,k⟩:=h;obtain⟨x,ex,e⟩:=bnd e;obtain⟨y,L,e⟩:=bnd e;show⟨S,ρ,λd=>d=x,A,p,⟨x,ex,rfl⟩,λv H1 Z l n U=>?_⟩;subst U;show⟨S,ρ,λd=>d=y,bI A l,Sl.fits (.same l) p,⟨y,L,rfl⟩,λu H2 Y z I e2=>?_⟩;subst e2;have n:=Dn.fits (.same z) _ _ n
 cases Y with
 |dG q0 ks ds =>
  obtain⟨j,O,e⟩:=bnd (o:=n8 Z) e;symm at I;obtain⟨a,o,χ,rfl,J,sa,⟨rfl,_⟩,F⟩:=I;by_cases m:kindB (χ.map (·.1)) j=ae
  .rw [Z_ m] at e;cases e;have ev:(gB χ j).isSome=(eX (χ.map (·.1)) ds j).isSome:=by
    cases hl:eX (χ.map (·.1)) ds j with
    |none=>rw[(sH F).2 hl];rfl
    |some d3=>obtain⟨v3,e3,_⟩:=(sH F).1 d3 hl;rw[e3];rfl
   show⟨a,o,χ,j,rfl,J,qV n O,BW m,?_⟩;rw[ev];show k _ H2 _ (l.trans z) (by symm) q
  .rw [Zz m] at e;cases e
 |_=>cases e
section
variable{o i:au}{ν:bc}{fo fi:EF}
def zT(h:liftT X.K (wT (tV (aB (zX neg) fi fo))) σ H Q):tB (W9 neg (lift X.K (wE fi)) (lift X.K (wE fo))) σ H Q:=by
 obtain⟨S,ρ,Q3,p,l,⟨b,e,q⟩,k⟩:=h;obtain⟨d,j,e2⟩:=bnd e;have z:d=.bl b:=by
  obtain⟨x,ex,e⟩:=bnd j;obtain⟨y,F,e⟩:=bnd e
  cases y with
  |dG q0 ks ds =>
   obtain⟨n,I,e⟩:=bnd (o:=n8 x) e;by_cases a:kindB ks n=ae
   .rw [Z_ a] at e;cases e;cases e2;rfl
   .rw [Zz a] at e;cases e
  |_=>cases e
 subst z;show S8 ⟨S,ρ,λd=>d=.bl b,p,l,⟨_,j,rfl⟩,λv A d m dn e3=>?_⟩;subst e3;symm at dn;show⟨b,dn,k b A m q⟩
def Qs(a:X.A.units+2<bx)(hi:bR X i fi)(ho:bR X o fo)(d:behindInMarks .In o=ag<|>5):sA X (.Compare i [.In] [o] ν) (tV (aB (zX ag) fi fo)):=GL (QA (Vw a hi ho) d) λ_ _ _=>zT
def Vs(a:X.A.units+2<bx)(hi:bR X i fi)(ho:bR X o fo)(d:behindInMarks .NotIn o=ag<|>5):sA X (.Compare i [.NotIn] [o] ν) (tV (aB (zX ae) fi fo)):=GL (QA (NU a hi ho) d) λ_ _ _=>zT
end
theorem Qr(hu:X.A.units+2<bx)(ho:bR X o fo)(he:bR X e fe)(hf:bR X f ff)(m:M2 X o "get" apos e f cpos):bR X (.Call (.Attribute o "get" apos) [e,f] [] cpos) (HS fo fe ff):=imp (SY hu ho he hf m) λσ H Q Qq=>by
 obtain⟨S,ρ,Q3,K,p,⟨d,e,q⟩,k⟩:=Qq;obtain⟨x,ex,e⟩:=bnd e;obtain⟨y,ey,e⟩:=bnd e;obtain⟨z,ez,e⟩:=bnd e
 cases x with
 |dG q0 ks ds =>
  obtain⟨F,ek,n⟩:=bnd e
  clear e
  show⟨S,ρ,λd=>d=.dG q0 ks ds,K,p,⟨_,ex,rfl⟩,λv H1 d1 h j e1=>?_⟩;subst e1;have Gx:=j;symm at j;obtain⟨a,o,χ,rfl,J,Z,_,O⟩:=j;show⟨a,rfl,⟨o,χ,J⟩,S,ρ,λd=>d=y,bI K h,Sl.fits (.same h) p,⟨y,ey,rfl⟩,λu H2 d2 l U e2=>?_⟩;subst e2;show⟨S,ρ,λd=>d=z,bI K (h.trans l),Sl.fits (.same (h.trans l)) p,⟨z,ez,rfl⟩,λt Y d3 s3 L e3=>?_⟩;subst e3;have j:=Dn.fits (.same (l.trans s3)) _ _ Gx;have U:=Dn.fits (.same s3) _ _ U;symm at j;obtain⟨a',o,χ,ea,J,Z,⟨rfl,_⟩,O⟩:=j;cases ea;by_cases I:kindB (χ.map (·.1)) F=ae
  .rw [Z_ I] at n;cases n;show⟨o,χ,F,J,qV U ek,BW I,?_⟩
   cases hl:eX (χ.map (·.1)) ds F with
   |none =>
    rw[hl] at q;rw[(sH O).2 hl];show k _ Y _ ((h.trans l).trans s3) L q
   |some d4 =>
    rw[hl] at q;obtain⟨v4,e4,dv⟩:=(sH O).1 d4 hl;rw[e4];show k _ Y _ ((h.trans l).trans s3) dv q
  .rw [Zz I] at n;cases n
 |_=>cases e
theorem Qp{K:ar}{a:ah}{o:az}{χ:List (KX×V×V)}{ds:List D}:Wlk K (Itx a o (χ.map (·.2.1))) ((χ.map (·.1)).map ZQ) ((.dG (λ_ u=>u=o) (χ.map (·.1)) ds,.ref a)::χ.map λp=>(ZQ p.1,p.2.1)) where
 go:=λS H J m i d e=>by have h:=m _ cq;symm at h;obtain⟨b,n,j,z,q,A,⟨_,l⟩,dn⟩:=h;cases z;have l:n=o:=l;subst l;rw[gd,dg] at e;obtain⟨p,v,F⟩:=k_.1 e;have hi:i<χ.length:=(cg.1 v).1;show⟨⟨⟨j,q⟩,by simpa using hi⟩,λx H' y=>?_⟩;obtain⟨I,y⟩:=y;subst I;rw[dg,v] at y;cases y;cases F;show⟨ξ.refl _,m (ZQ p.1,p.2.1) (fg _ (Ei (ia v)))⟩
 stop:=λS H m i hi=>by have h:=m _ cq;symm at h;obtain⟨b,n,j,z,q,A,⟨_,l⟩,dn⟩:=h;cases z;have l:n=o:=l;subst l;show⟨⟨j,q⟩,by simp at hi ⊢;lia⟩
theorem Vr{y l:au}{f:EF}(h:bR X l f):MU X y l (E7 f):=MK (S4 h) λσ H R Y=>by
 obtain⟨S,ρ,Q3,K,z,⟨es,e,q⟩,k⟩:=Y;obtain⟨x,ex,e⟩:=bnd e;show⟨S,ρ,λd=>d=x,K,z,⟨x,ex,rfl⟩,λv Z U F n L=>?_⟩;subst L
 cases U with
 |dG q0 ks ds =>
  cases e;symm at n;obtain⟨a,o,χ,rfl,m,A,⟨rfl,_⟩,O⟩:=n;show⟨a,o,χ,rfl,m,λJ=>k _ Z _ _ F (λg j=>?_) (Qp (ds:=ds)) q⟩;rcases cb.1 j with e|j
  .subst e;symm;show⟨a,o,χ,rfl,m,A,⟨rfl,rfl⟩,O⟩
  .obtain ⟨p,I,rfl⟩:=fq.1 j;show Vt (J p I)
 |_=>cases e
end
section
variable{X:Cx}
def ZE(hN:X.N.Nodup)(hi:X.N[i]?=aa x<|>0)(j:Loc X.env.scope x<|>2)(m:df (.Dict [] [] p) (aa (.Name x pos')) ν.line X.env=pure ag<|>0)(n:Zp X x<|>2):
  oH X (.Assign [.Name x pos'] (.Dict [] [] p) ν) (HU i):=iD (j8 hN hi j XD m n) λB σ H ⟨H₀,S,w,ρ,G,E,h,st,l,ok⟩=>λp o a =>
 ok.nx _ _ _ _ (by rw[dm];show h) (st.pE (d:=.dG tO [] []) (by rw[h];show eZ hi) (aU a) a ⟨o,[],aW,⟨rfl,trivial⟩,aZ.nil⟩) l
theorem Vq(hu:X.A.units+1<bx)(hN:X.N.Nodup)(hk:bR X k fk)(hv:bR X v fv)(hi:X.N[i]?=aa x<|>0)(hx:Loc X.env.scope x<|>2)(hs:df (.Dict [aa k] [v] p) (aa (.Name x pos')) ν.line X.env=pure ag<|>0)(hf:Zp X x<|>2):
  oH X (.Assign [.Name x pos'] (.Dict [aa k] [v] p) ν) (zY i fk fv):=iD (j8 hN hi hx (XE hu hk hv) hs hf) λB σ H ⟨H₀,S,w,ρ,G,E,hl,st,m,ok⟩=>λp o I=>by
 unfold wS zY at m
 cases h:((fk (gO ρ)).bind λkd=>(fv (gO ρ)).bind λd=>(n8 kd).map λj=>(j,d)) with
 |none=>rw[h] at m;show m.elim
 |some q =>
  rw[h] at m;obtain⟨kd,ek,h⟩:=bnd h;obtain⟨d,ed,h⟩:=bnd h;obtain⟨j,e2,rfl⟩:=oB h;have U:ξ H (upd H p (.dX o [])):=aU I;have L:=st.same U
  -- p is not among what was there
  have n:∀a,upd H p (.dX o []) a=af->(SO S w ρ a/\a≠p):=λa Z=>⟨L.JQ a Z,λz=>by rw[z,aW] at Z;cases Z⟩;have F0:Fits X.K (SO S w ρ) (λa=>SO S w ρ a/\a≠p) H (upd H p (.dX o [])):=(Fits.fresh I).trans (.same U);have l:Sl X.K (λa=>SO S w ρ a/\a≠p) (upd H p (.dX o [])) (gO ρ) σ:=Sl.fits F0 st.rd;show⟨_,gO ρ,λy=>y=kd,n,l,⟨kd,ek,rfl⟩,λy H1 y' F dy ey=>?_⟩;subst ey;show⟨_,gO ρ,λy=>y=d,bI n F,Sl.fits (.same F) l,⟨d,ed,rfl⟩,λz J z' O dz ez=>?_⟩;subst ez;have dy:=Dn.fits (.same O) _ _ dy;have e3:J p=aa (.dX o []):=O _ _ (F _ _ aW);show⟨j,qV dy e2,e3,λY=>?_⟩;have s3:ξ H (upd J p (.dX Y [(j,y,z)])):=λb u hb=>by rw[bQ (bT hb I)];show O _ _ (F _ _ (U _ _ hb))
  have F3:Fits X.K (λa=>SO S w ρ a/\a≠p) (λa=>SO S w ρ a/\a≠p) J (upd J p (.dX Y [(j,y,z)])):=.upd (.inr (.inr ⟨_,_,e3⟩)) (λh=>h.2 rfl);show ok.nx _ _ _ _ (by rw[dm];show hl) (st.pE (d:=.dG tO [j] [z']) (by rw[hl];show eZ hi) s3 I ⟨Y,_,aW,⟨rfl,trivial⟩,aZ.one (Dn.fits F3 _ _ dz)⟩) m
def XI(h:KO o=aa p):o=aa (.ow (.dG p.1 p.2.1 p.2.2)):=by
 unfold KO at h;split at h
 .cases h;rfl
 .cases h
theorem S9(hu:X.A.units+2<bx)(he:GY X e f)(hk:bR X k fk)
  (hN:X.N[i]?=aa x<|>0) (hv:xD X.env.scope x<|>3) (hd:Zu x<|>1) (Y:Zt x<|>1)
  (hs:df e (aa (.Subscript (.Name x p) k pos')) ν.line X.env=pure ag<|>0):
  oH X (.Assign [.Subscript (.Name x p) k pos'] e ν) (l3 i f fk):=iD (XB hu (pA hN hv hd Y) hk he hs) λB σ H Pn=>by
 obtain⟨H₀,S,w,ρ,G,E,hl,st,I,ok⟩:=Pn;unfold wS l3 at I;cases h:((f ρ).bind λp=>(KO p.1[i]?).bind λkd=>(fk (bB p.1)).bind λL=>(n8 L).bind λm =>
  if kindB kd.2.1 m=ae/\kd.2.2.length<tK then aa (p.1.set i (.ow (.dG (adr kd.1) (L4.iS kd.2.1 kd.2.2 m p.2).1 (L4.iS kd.2.1 kd.2.2 m p.2).2))) else af) with
 |none=>rw[h] at I;show I.elim
 |some ρ2 =>
  rw[h] at I;obtain⟨⟨U,d1⟩,eq,h⟩:=bnd h;obtain⟨⟨q0,ks,ds⟩,ed,h⟩:=bnd h;obtain⟨L,ek,h⟩:=bnd h;obtain⟨m,e2,h⟩:=bnd h;have J:=XI ed;by_cases O:kindB ks m=ae/\ds.length<tK
  .rw [Z_ O] at h;cases h;show⟨H₀,S,w,ρ,G,λj d=>j=U/\d=d1,hl,st,⟨_,eq,rfl,rfl⟩,λn v H' j d l dv q'=>?_⟩;obtain⟨rfl,rfl⟩:=q';obtain⟨a0,_,_⟩:=l.own i _ J;show⟨_,a0,S,bB j,λy=>y=L,l.GK,l.all,⟨L,ek,rfl⟩,λy H2 y' Z dy ey=>?_⟩;subst ey;have q:=l.same Z;obtain⟨a,b,c⟩:=q.own i _ J;obtain⟨o,χ,hp,⟨e5,hq⟩,dn⟩:=c;subst e5;have nS:¬ SO S n j (n i):=λ⟨_,z⟩=>z i _ J rfl;show⟨n i,o,χ,m,rfl,hp,qV dy e2,BW O.1,?_,λo'=>?_⟩
   .have:=dn.len;rw[a_] at this;rw[ie,<- this];show O.2
   .have F:Fits X.K (SO S n j) (SO S n j) H2 (upd H2 (n i) (.dX o' (L8.iS χ m y v))):=.upd (.inr (.inr ⟨_,_,hp⟩)) nS;obtain⟨p1,p2⟩:=Qu (k:=m) (y:=y) (Dn.fits (.same Z) _ _ dv) dn;show ok.nx n σ _ _ hl (q.write (d':=.dG (adr q0) _ _) J ⟨o',_,aW,⟨p1,o,hq⟩,aZ.fits F _ _ p2⟩) I
  .rw [Zz O] at h;cases h
theorem XJ{K:ar}{H₀ H:Hp}{S:ah->Prop}{w:Nat->ah}{σ:L2.St}{ρ:bK}{G:List (D×V)}{i j:Nat}{d:D}(h:ST K H₀ S w σ H ρ G)(L:i≠j)(hi:i<σ.length)(q:ρ[j]?=aa (.ow d)):
  ST K H₀ S (λn=>if n=i then w j else w n) (σ.set i (aa (.ref (w j)))) H ((ρ.set j .no).set i (.ow d)) G:=by
 obtain⟨Z,Y,U⟩:=h.own j d q;have hw:∀(n:Nat) (e:D),n≠i->((ρ.set j .no).set i (.ow d))[n]?=aa (Sv.ow e)->n≠j/\ρ[n]?=aa (Sv.ow e):=λn e l p=>by
  rcases get_set p with⟨z,_,_⟩|⟨_,z⟩
  .exact Zw z l
  .rcases get_set z with⟨_,z,_⟩|z
   .cases z
   .exact z
 have x:∀a,SO S w ρ a->SO S (λn=>if n=i then w j else w n) ((ρ.set j .no).set i (.ow d)) a:=λa ⟨s,n⟩=>⟨s,λm e p=>by
  show a≠(if m=i then w j else w m);by_cases o:m=i
  .rw [Z_ o];show n j d q
  .rw [Zz o];show n m e (hw m e o p).2⟩
 show⟨h.fc,h.sm,λn e p=>?_,λm n F A J h2 z=>?_,λn e p=>?_,λg O=>Dn.fits (.mono x) _ _ (h.gh g O),λn xs I=>?_⟩
 rotate_right
 .show ∀ys,H (if n=i then w j else w n)=aa (.lst ys)->_;by_cases l:n=i
  .subst l;rw[Z_ rfl];rcases get_set I with⟨_,z,_⟩|⟨z,_⟩
   .cases z;show h.rw j xs q
   .exact Zw rfl z
  .rw [Zz l];show h.rw n xs (hw n _ l I).2
 .by_cases l:n=i
  .subst l;rcases get_set p with⟨_,z,_⟩|⟨z,_⟩
   .cases z;rw[Z_ rfl];show⟨nc hi,Y,U.fits (.mono x) λ_ z=>z⟩
   .exact Zw rfl z
  .rw [Zz l];obtain⟨_,y⟩:=hw n e l p;obtain⟨a,b,c⟩:=h.own n e y;show⟨by rw[jq (d_ l)];show a,b,c.fits (.mono x) λ_ z=>z⟩
 .have z:(if m=i then w j else w m)=(if n=i then w j else w n):=z;by_cases o:m=i
  .by_cases l:n=i
   .rw [o,l]
   .rw [Z_ o,Zz l] at z;obtain⟨q1,q2⟩:=hw n A l h2;show Zw (h.inj _ _ _ _ q q2 z).symm q1
  .by_cases l:n=i
   .rw [Zz o,Z_ l] at z;obtain⟨q1,q2⟩:=hw m F o J;show Zw (h.inj _ _ _ _ q2 q z) q1
   .rw [Zz o,Zz l] at z;show h.inj m n F A (hw m F o J).2 (hw n A l h2).2 z
 .rcases get_set p with⟨_,z,_⟩|⟨l,z⟩
  .cases z
  .rcases get_set z with⟨_,z,_⟩|⟨_,z⟩
   .cases z
   .obtain ⟨v,a,b⟩:=h.ro n e z;show⟨v,by rw[jq (d_ l)];show a,Dn.fits (.mono x) e v b⟩
theorem Pm{i j:Nat}{x y:ak}{n pos' p:bc}(hN:X.N.Nodup)(hi:X.N[i]?=aa x<|>0)(A:X.N[j]?=aa y<|>0)(q:Loc X.env.scope x<|>2)(v:xD X.env.scope y<|>3)(I:Zu y<|>1)(m:Zt y<|>1)
  (z:df (.Name y p) (aa (.Name x pos')) n.line X.env=pure ag<|>0) (F:Zp X x<|>2):
  oH X (.Assign [.Name x pos'] (.Name y p) n) (HV i j):=iD (j8 hN hi q (pA A v I m) z F) λB σ H J=>by
 obtain⟨H₀,S,w,ρ,G,E,o,st,a,ok⟩:=J;unfold wS HV at a
 cases h:ρ[j]? with
 |none=>rw[h] at a;show a.elim
 |some sv =>
  rw[h] at a
  cases sv with
  |no=>show a.elim
  |ro d=>show a.elim
  |ow d =>
   dsimp only at a;by_cases l:i=j
   .rw [Z_ l] at a;show a.elim
   .rw [Zz l] at a;show⟨_,(st.own j d h).1,ok.nx _ _ H _ (by rw[dm];show o) (XJ st l (by rw[o];show eZ hi) h) a⟩
end
open L5
def Pk(d:0<=x)(a:0<=y):a1n x y=((x.toNat ||| y.toNat:Nat):Int):=by unfold a1n;rw[bitAnd_nn (by unfold Dj;lia) (by unfold Dj;lia)];unfold Dj;rw[show(-(-x-1)-1:Int)=x by lia,show(-(-y-1)-1:Int)=y by lia];lia
section
variable{X:Cx}
def CNN(i j:Int):Prop:=0<=i/\0<=j
def ZF(h:nnC i j=ae):CNN i j:=by unfold nnC at h;rw[cm] at h;show⟨of_decide_eq_true h.1,of_decide_eq_true h.2⟩
def XM:iC X (binaryOp .BitAnd) (rI CNN λi j=>.int ((i.toNat &&& j.toNat:Nat):Int)):=VF λi j _ _ _ _ _ a q=>and_int (by rw[bitAnd_pp a.1 a.2];show q)
def Vp:iC X (binaryOp .BitOr) (rI CNN λi j=>.int ((i.toNat ||| j.toNat:Nat):Int)):=VF λi j _ _ _ _ _ a q=>or_int (by rw[Pk a.1 a.2];show q)
section
variable{a b:au}{fa fb:EF}{ν:bc}
def ZG(l:bR X a fa)(d:bR X b fb):bR X (.BinOp a .BitAnd b ν) (aB mH fa fb):=cE (Q8 XM lW l d) (fW (eV λi j h=>ZF h))
def Ad(l:bR X a fa)(d:bR X b fb):bR X (.BinOp a .BitOr b ν) (aB E9 fa fb):=cE (Q8 Vp lW l d) (fW (eV λi j h=>ZF h))
def Gw(l:bR X a fa)(d:bR X b fb):bR X (.BinOp a .RShift b ν) (aB E8 fa fb):=cE (Q8 Yb lW l d) (fW (eV λi j h=>by simpa using h))
def XN(l:bR X a fa)(d:bR X b fb):bR X (.BinOp a .LShift b ν) (aB uS fa fb):=cE (Q8 Yc lW l d) (fW (eV λi j h=>by
 simp only[cm,decide_eq_true_eq] at h;show⟨h.1.1,by lia,?_⟩;have:(2:Nat)^64=18446744073709551616:=by decide
 rw[this];show h.2))
end
end
end L8
namespace L9
open PySem.Spec PyProof.Rows L2 L3 L4 L5
section
variable{X:Cx}
def ZH(K:ar):List V->Hp->VK->Prop:=λxs H Q=>∃(a:ah) (ns:Q0e),xs=[.ref a]/\fU K H a (ns.map V.int)/\ns≠[]/\Q (.int (zV ns)) H
theorem NW(hc:X.calm=ae):fV X (.builtin "max") (ZH X.K):=by
 intro π s σ H xs us Q I r h;obtain⟨a,ns,rfl,ha,x,q⟩:=h;obtain⟨u,rfl,ru⟩:=vals1 r;cases ru;obtain⟨ι,rv,p,hz⟩:=I.list ha;have hi:=intsAre_of rv;obtain⟨d,U⟩:=hi.allInts.items;have Y:d.toList.map (·.1)=ns:=by rw[<- a0m,<- U];show hi.numsOf
 have sz:d.size=ns.length:=by rw[<- Y,a_,zb]
 have n:0<d.size:=by rw[sz];show lh.2 x
 have pl:s.heap.IsList a ι.toArray:=p.isList;have pt:s.heap.IsList a (intItems d):=U▸pl;have y:a<s.heap.objs.size:=by obtain⟨_,_,e,_⟩:=p;show bz e
 show call_max_walk (Bx pt ?_);show⟨_,_,_,_,_,_,_,rfl,a0C (A:=X.A.in1) (I.ok.hd hc) _ a (f_ y) (intItems d),⟨⟨_,dh _ rfl,rfl,rfl⟩,pt.push _⟩,?_,by simpa[intItems] using n,CmpOf.ints_gt (numAt d) (λ_ _=>a0q),λv h' tk O hk=>?_⟩
 .intro b m;show Nat.lt_of_lt_of_eq ?_ (oo _ _).symm;have two:b=s.heap.objs.size\/b=a:=by simpa using m
  rcases two with z|z
  .rw [z];show uj _
  .rw [z];show qt y
 .have O:(intItems d)[argBest (λi j=>Zv (numAt d i>numAt d j)) (d.size-1)]?=aa v:=by simpa[intItems] using O
  obtain⟨t,rfl⟩:=a0q O;obtain⟨b1,Z⟩:=argBest_gt (numAt d) (d.size-1);generalize argBest (λi j=>Zv (numAt d i>numAt d j)) (d.size-1)=J at b1 Z;have F:∀j,j<ns.length->numAt d j=ns.getD j 0:=λj L=>by rw[numAt_eq,Y]
  have mem:numAt d J∈ns:=by rw[F J ∅,ur,bo ∅];show jz _
  have top:∀b∈ns,b<=numAt d J:=λb m=>by obtain⟨j,L,ej⟩:=oz m;subst ej;have:=Z j ∅;rw[F j L,ur,bo L] at this;show this
  have key:zV ns=numAt d J:=by
   cases ns with
   |nil=>show Zw rfl x
   |cons c l=>show BU l c _ (cb.1 mem) (top c (by simp)) λb m=>top b (by simp[m])
  show⟨.int (zV ns),H,I.kept λb o e=>hk b o (λm=>?_) (ck _ e),⟨t,by rw[key]⟩,q⟩;have:b=s.heap.objs.size:=by simpa using m
  show il _ (this▸bz e)
def ZI:F1
 |[.lst ds],Q=>∃ns:Q0e,ds=ns.map D.int/\ns≠[]/\Q (.int (zV ns))
 |_,_=>False
theorem XQ{K:ar}:C3 K (ZH K) ZI:=by
 intro S H xs ds Q3 Q n j h k
 match ds,h with
 |[.lst es],⟨ns,e,ne,q⟩ =>
  subst e;obtain⟨v,r,rfl,d,h2⟩:=j.bL;simp only[aZ] at h2;subst h2;symm at d;obtain⟨a,ys,rfl,l,_,m⟩:=d;have e2:=aZ.ints.1 m;subst e2;show⟨a,ns,rfl,(fU.of l),ne,k _ H _ (ξ.refl H) (by symm) q⟩
def HL:kD ZI HW:=λds d Q e q=>by
 unfold HW at e;split at e
 .obtain ⟨ns,h,e⟩:=bnd e;by_cases a:ns=[]
  .rw [Z_ a] at e;cases e
  .rw [Zz a] at e;cases e;have:=ints_of h;subst this;show⟨ns,rfl,a,q⟩
 .cases e
def Pj(j:X.calm=ae)(a:X.mg "max"=af)(l:tY X [e] t)(d:Gl X "max"<|>0)(h:Zq X e []<|>0):bR X (.Call (.Name "max" p) [e] [] ν) (bH HW t) :=
 cE (rX (NW j) XQ a1C d a l (by decide) (by decide) h (by rfl)) (xV HL)
end
open PySem.SeqAt
end L9
namespace L4
open PySem.Spec PyProof.Rows L2 L3 PySem.W TL
section
variable{X:Cx}{π:Q0b}{σ:L2.St}{H:Hp}{s:ao}{P:Q0b}{f:ai}{t:V->Hp->VK->Prop}{xs:List V}{us:Q0f}{a kS:ah}{e1:Nat}{E:Q0c}
 {W:Nat->List V->Hp->Prop}
end
theorem XR:∀(d:Q0f),d.length=1 ->∃a,d=[a]
 |[a],_=>⟨a,rfl⟩
theorem XS:∀(h:Q0f),h.length=2 ->∃d a,h=[d,a]
 |[d,a],_=>⟨d,a,rfl⟩
theorem XT:∀(j:Q0f),j.length=3 ->∃h d a,j=[h,d,a]
 |[h,d,a],_=>⟨h,d,a,rfl⟩
theorem XU:∀(n:Q0f),n.length=6 ->∃m l j h d a,n=[m,l,j,h,d,a]
 |[m,l,j,h,d,a],_=>⟨m,l,j,h,d,a,rfl⟩
def nL{K:ar}{x:ak}(h:nsIn K jb x=aa af):tabIn K x=af:=by unfold tabIn;rw[h]
theorem NX{K:ar}{l j h d a:Option (ah×ah)}(q:tabIn K "going_of"=l)(h2:tabIn K "count_of_chain"=j)(o:tabIn K "cut_paper"=h)(n:tabIn K "downsets"=d)(m:tabIn K "strictest_chains"=a):
  fC K=([("going_of",l),("count_of_chain",j),("cut_paper",h),("downsets",d),("strictest_chains",a)]:List (ak×Option (ah×ah))).filterMap λp=>p.2.map λt=>(p.1,t.1,t.2):=by
 subst q h2 o n m;rfl
def tabs_ok{K:ar}{q:bg}{L:List (ak×ah×ah)}(h:fC K=L)(nd:(L.map (·.2.2)).Nodup)(rc:∀t∈L,∃e,(recsOf q).find? (λe=>e.name == t.1)=aa e):TabsOk K q:=⟨by rw[h];show nd,by rw[h];show rc⟩
section
variable{Ω:bg}{w:ba}{A:br}{E:Q0c}{s:ao}{z TI TO i1 i2:ah}{f1 f2:List ah}{n1 n2 k:Nat}{P1 P2:Nat->ai->Prop}{S1 S2:Nat->bb->Prop}{a b:ai}
structure Zap (z TI TO i1 i2:ah) (f1 f2:List ah):Prop where
 zO:z≠TO
 zI:z≠TI
 OI:TO≠TI
 m1:i1∈f1
 m2:i2∈f2
 z1:z∉f1
 z2:z∉f2
 o1:TO∉f1
 o2:TO∉f2
 c1:i1∉f2
 c2:i2∉f1
 I1:TI≠i1
 I2:TI≠i2
def Zap.q1(p:Zap z TI TO i1 i2 f1 f2):z≠i1:=λe=>p.z1 (e▸p.m1)
def Zap.q2(p:Zap z TI TO i1 i2 f1 f2):z≠i2:=λe=>p.z2 (e▸p.m2)
end
open PySem.SeqAt
end L4
namespace L4
open PySem.Spec PyProof.Rows L2 L3 L5
section
variable{X:Cx}
def Gv{e:au}{lo hi:Option au}{L J:bc}{f:EF}{fl I:OF}(Y:bR X e f)(O:PO4 X lo fl)(U:PO4 X hi I):kC X (.Subscript e (.Slice lo hi af L) J) (ZR f fl I) :=
 imp (DC JL Y O U) λσ H Q Pg=>by
  obtain⟨S,ρ,Q3,F,A,⟨r,j,q⟩,k⟩:=Pg;obtain⟨d,ed,j⟩:=bnd j;obtain⟨l,el,j⟩:=bnd j;obtain⟨h,eh,j⟩:=bnd j;obtain⟨ds,rfl⟩:∃ds,d=.lst ds:=by cases d<;>first|show⟨_,rfl⟩|cases j
  obtain rfl:D.lst (mE ds l h)=r:=ft j;show⟨S,ρ,λy=>y=.lst ds,F,A,⟨_,ed,rfl⟩,λv H1 d1 n x q1=>?_⟩;subst q1;show⟨S,ρ,λy=>y=l,bI F n,Sl.fits (.same n) A,⟨_,el,rfl⟩,λo H2 m q2=>?_⟩;subst q2;show⟨S,ρ,λy=>y=h,bI F (n.trans m),Sl.fits (.same (n.trans m)) A,⟨_,eh,rfl⟩,λo2 H3 s3 K=>?_⟩;subst K;symm at x;obtain⟨a,xs,rfl,Z,sa,da⟩:=x;have dc:=aZ.fits (.same (m.trans s3)) _ _ (aZ.cut (lo:=o) (hi:=o2) da);show⟨a,xs,rfl,fU.of ((m.trans s3) _ _ Z),λp z=>k p _ _ _ (((n.trans m).trans s3).free z) aW (((n.trans m).trans s3).trans (aU z)) (aZ.fits ((Fits.fresh z).trans (.same (aU z))) _ _ dc) q⟩
end
end L4
namespace L9
open PySem.Spec PyProof.Rows L2 L3 L4 L5 L8
def NSs(K:ar)(C:ah):List ah->Prop
 |[]=>True
 |D::ds=>Wc K C D/\NSs K C ds
structure RO (K:ar) (R:ah):Prop where
 a:xi K (.ref R) (.type "BaseException")=aa ae
 b:PySem.W.isClsIn K R=ae
 c:PySem.W.typeIn K (.ref R)=aa (.type "type")
structure XO (K:ar) (R C:ah) (ds:List ah):Prop where
 q:Af K C
 v:xi K (.ref C) (.type "ValueError")=aa ae
 r:xi K (.ref C) (.ref R)=aa ae
 d:NSs K C ds
structure HO6 (X:Cx) (e C:ah) (ds:List ah):Prop where
 g:Wd X e C
 q:Af X.K C
 v:xi X.K (.ref C) (.type "ValueError")=aa ae
 d:NSs X.K C ds
 i:X.mg "isinstance"=af
 w:X.mg "ValueError"=af
def XO.ho(z:XO X.K R C ds)(h:oe.cls=.ref C)(i:X.mg "isinstance"=af)(w:X.mg "ValueError"=af):HO6 (hcx X (aa (.ref e)) (pn++[(e,oe)])) e C ds :=
 ⟨⟨oe,gu _ cq,h⟩,z.q,z.v,z.d,i,w⟩
inductive Ph (P:bg) (w:ba) (ω:bb):Prop
 |mk:Ph P w ω
section
variable{P:bg}{w:ba}{K:ar}{mg:Q0d}{ω:bb}{x:ak}{st:c_}{ps:Q0g}{n np:Nat}{b:SF}{key:EF}
theorem oM(l:Ph P w ω)(k:Nat)(F:jV)(e:F=cM n np b)(N:Q0g)(D:Df K mg x st ps)
  (h:∀{f:ah} {a:ai} {A:br} {outer:List dq} {s:ao} {H:Hp} {E:XK},gA k (A.deeper (envOfC x (bJ st) s.heap.objs.size f a))->N.Nodup->qO (mT DG P w K mg ω N x (bJ st) f a A outer s H E).TK (fN st) b)
  (S:hJ N ps (bJ st)<|>9) (j:N.length=n<|>0) (d:ps.length=np<|>0):Cl P w K mg ω DG (k+1) x ps (Y7 K F):=e▸fd4 D h S j d
theorem fq5(l:Ph P w ω)(k:Nat)(F:jV)(e:F=cM n np b)(N:Q0g)(D:Df K mg x st ps)
  (h:∀{f:ah} {a:ai} {A:br} {outer:List dq} {s:ao} {H:Hp} {E:XK},gA k (A.deeper (envOfC x (bJ st) s.heap.objs.size f a))->N.Nodup->qO (mT (EZ P w) P w K mg ω N x (bJ st) f a A outer s H E) (fN st) b)
  (S:hJ N ps (bJ st)<|>9) (j:N.length=n<|>0) (d:ps.length=np<|>0):Cl P w K mg ω (EZ P w) (k+1) x ps (sp5 K mg F):=e▸fd5 D h S j d
variable{X:Cx}{i:Nat}{ν:bc}
def xv(hN:X.N[i]?=aa x<|>0)(d:xD X.env.scope x<|>3)(h:Zu x<|>1)
  (a:Zt x<|>1):bR X (.Name x ν) (aF i):=x4 i hN d h a
def y1(hN:X.N[i]?=aa x<|>0)(d:xD X.env.scope x<|>3)(h:Zu x<|>1)
  (a:Zt x<|>1):tY X [.Name x ν] (aR i):=aC (x4 i hN d h a) aY
end
section
variable{X:Cx}{l m:ak}{fr:List Nat}{sc:gj}{iter elt c:au}{ν pt p1 p2:bc}{kk:Nat}{it:AF}{t:TF}{e:EF}
abbrev pN(X:Cx)(fr:List Nat):List ak:=fr.map λi=>X.N.getD i ""
def cm4(hi:MU X (.Name l pt) iter it)(j:∀{cl C pn ex s H},bR (blk X ([l]++pN X fr) sc cl C pn ex s H) elt e)(n:X.calm=ae<|>0)
  (d:(∀{cl C pn ex s H},Loc (blk X ([l]++pN X fr) sc cl C pn ex s H).env.scope l)<|>2) (a:(∀{cl C pn ex s H},(blk X ([l]++pN X fr) sc cl C pn ex s H).fn l=ae\/(blk X ([l]++pN X fr) sc cl C pn ex s H).env.scope.names.lookup l=aa .local)<|>6)
  (B:MM X.env.scope.names sc X.N [l] (pN X fr) fr=ae<|>0) (h:Zn X iter<|>4):bR X (.ListComp elt [⟨.Name l pt,iter,[],0⟩] sc ν) (cB 1 fr it (g1 0) eO e) :=
 kC.pe (RX (ls:=[l]) n hi (λ_ _ _ _ _ _ nd=>nG (i:=0) nd a1R rfl d a) (λ_ _ _ _ _ _=>J3) (λ_ _ _ _ _ _=>j) B h)
def XW(hi:MU X (.Name l pt) iter it)(j:∀{cl C pn ex s H},sA (blk X ([l]++pN X fr) sc cl C pn ex s H) c t)(n:∀{cl C pn ex s H},bR (blk X ([l]++pN X fr) sc cl C pn ex s H) elt e)(o:X.calm=ae<|>0)
  (d:(∀{cl C pn ex s H},Loc (blk X ([l]++pN X fr) sc cl C pn ex s H).env.scope l)<|>2) (a:(∀{cl C pn ex s H},(blk X ([l]++pN X fr) sc cl C pn ex s H).fn l=ae\/(blk X ([l]++pN X fr) sc cl C pn ex s H).env.scope.names.lookup l=aa .local)<|>6)
  (B:MM X.env.scope.names sc X.N [l] (pN X fr) fr=ae<|>0) (h:Zn X iter<|>4):bR X (.ListComp elt [⟨.Name l pt,iter,[c],0⟩] sc ν) (cB 1 fr it (g1 0) t e) :=
 kC.pe (RX (ls:=[l]) o hi (λ_ _ _ _ _ _ nd=>nG (i:=0) nd a1R rfl d a) (λ_ _ _ _ _ _=>wL j) (λ_ _ _ _ _ _=>n) B h)
def cp4(hi:MU X (.Tuple [.Name l p1,.Name m p2] kk pt) iter it)(h:∀{cl C pn ex s H},bR (blk X ([l,m]++pN X fr) sc cl C pn ex s H) elt e)(n:X.calm=ae<|>0)
  (d:∀{cl C pn ex s H},(blk X ([l,m]++pN X fr) sc cl C pn ex s H).N.Nodup->G4 (blk X ([l,m]++pN X fr) sc cl C pn ex s H) 2 (.Tuple [.Name l p1,.Name m p2] kk pt) (g2 0 1):=by show λnd=>Wo (i:=0) (j:=1) rfl nd (by decide) (by decide))
  (B:MM X.env.scope.names sc X.N [l,m] (pN X fr) fr=ae<|>0) (a:Zn X iter<|>4):bR X (.ListComp elt [⟨.Tuple [.Name l p1,.Name m p2] kk pt,iter,[],0⟩] sc ν) (cB 2 fr it (g2 0 1) eO e) :=
 kC.pe (RX (ls:=[l,m]) n hi (λ_ _ _ _ _ _ nd=>d nd) (λ_ _ _ _ _ _=>J3) (λ_ _ _ _ _ _=>h) B a)
end
end L9
namespace L8
open PySem.Spec PyProof.Rows L2 L3 L4
section
variable{X:Cx}
def XX{d:D}{p:D×D×D×D}(h:OA d=aa p):d=.tup [p.1,p.2.1,p.2.2.1,p.2.2.2]:=by
 unfold OA at h;split at h
 .cases h;rfl
 .cases h
def ZJ{i j k l:Nat}{x y z u:ak}{kk:Nat}{ν J I F h:bc}(hc:X.calm=ae)(hN:X.N.Nodup)(hi:X.N[i]?=aa x<|>0)(hj:X.N[j]?=aa y<|>0)(hk:X.N[k]?=aa z<|>0)(Z:X.N[l]?=aa u<|>0)
  (hx:Loc X.env.scope x<|>2) (hy:Loc X.env.scope y<|>2) (hz:Loc X.env.scope z<|>2) (hu:Loc X.env.scope u<|>2)
  (fx:Zp X x<|>2) (fy:Zp X y<|>2) (fz:Zp X z<|>2) (fu:Zp X u<|>2)
  (hn:(cp [.Name x J,.Name y I,.Name z F,.Name u h] X.env).length=4<|>0) (K:(cp [.Name x J,.Name y I,.Name z F,.Name u h] X.env).findIdx? (·.1)=af<|>0)
  (s1:((cp [.Name x J,.Name y I,.Name z F,.Name u h] X.env).map (·.2)=assign (.Name x J) X.env::(cp [.Name y I,.Name z F,.Name u h] X.env).map (·.2))<|>0) (s2:((cp [.Name y I,.Name z F,.Name u h] X.env).map (·.2)=assign (.Name y I) X.env::(cp [.Name z F,.Name u h] X.env).map (·.2))<|>0)
  (s3:((cp [.Name z F,.Name u h] X.env).map (·.2)=assign (.Name z F) X.env::(cp [.Name u h] X.env).map (·.2))<|>0) (s4:((cp [.Name u h] X.env).map (·.2)=assign (.Name u h) X.env::(cp [] X.env).map (·.2))<|>0):
  TN X (.Tuple [.Name x J,.Name y I,.Name z F,.Name u h] kk ν) (wG (sf i j k l)) :=
 GP (FX (n:=4) hc (iX (iQ hN hi hx fx) (iX (iQ hN hj hy fy) (iX (iQ hN hk hz fz) (iX (iQ hN Z hu fu) A1 s4) s3) s2) s1) hn K) λv σ H Q Pf=>by
  obtain⟨H₀,S,w,ρ,G,d,Q3,o,st,dn,⟨ρ',eg,q⟩,kq⟩:=Pf;obtain⟨p,ep,rfl⟩:=oB eg;have e:=XX ep;obtain⟨L,d2,d3,d4⟩:=p;subst e;symm at dn;obtain⟨a,xs,rfl,ha,A⟩:=dn;obtain⟨v1,r1,rfl,h1,A⟩:=A.bL;obtain⟨Y,r2,rfl,h2,A⟩:=A.bL;obtain⟨U,r3,rfl,h3,A⟩:=A.bL;obtain⟨O,r4,rfl,h4,A⟩:=A.bL;simp only[aZ] at A;subst A;show⟨a,_,rfl,(fI.of ha),rfl,v1,_,rfl,Y,_,rfl,U,_,rfl,O,_,rfl,rfl,?_⟩;have m:∀(ρ:bK) (i:Nat) (L:D) a,SO S w ρ a->SO S w (ρ.set i (.ro L)) a:=λρ i L=>SO.mono λn f hf=>by
   rcases get_set hf with⟨_,z,_⟩|⟨_,z⟩
   .cases z
   .exact ⟨_,z⟩
  have t1:=st.hZ (i:=i) (by rw[o];show eZ hi) h1;have t2:=t1.hZ (i:=j) (d:=d2) (v:=Y) (by rw[dm,o];show eZ hj) (Dn.fits (.mono (m _ _ _)) _ _ h2);have t3:=t2.hZ (i:=k) (d:=d3) (v:=U) (by rw[dm,dm,o];show eZ hk) (Dn.fits (.mono λa z=>m _ _ _ _ (m _ _ _ _ z)) _ _ h3);have t4:=t3.hZ (i:=l) (d:=d4) (v:=O) (by rw[dm,dm,dm,o];show eZ Z) (Dn.fits (.mono λa z=>m _ _ _ _ (m _ _ _ _ (m _ _ _ _ z))) _ _ h4);show kq _ H _ (by simp only[dm];show o) t4 q
structure PD (X:Cx) (ν:bc) (keys:List (Option au)) (values:List au) (ks:Q0e) (t:AF):Prop where
 go:∃MH,PPs X ν keys values MH/\keys.all (·.isSome)=ae/\keys.length=values.length/\keys.length=ks.length /\∀(σ:L2.St) (H:Hp) (S:ah->Prop) (ρ:b7) (ds:List D) (Q:List (V×V)->Hp->Prop),(∀a,H a=af->S a)->Sl X.K S H ρ σ->t ρ=aa ds ->
  (∀H' xs,ξ H H'->ks.length=xs.length->aZ X.K S H' ds xs->Q ((ks.map V.int).zip xs) H')->BC MH σ H Q
def Pe{a:bc}:PD X a [] [] [] aH:=⟨[],JP,rfl,rfl,rfl,λσ H S ρ ds Q h d e k=>by cases e;show k H [] (λ_ _ z=>z) rfl .nil⟩
def kG{x:bc}{k v:au}{keys:List (Option au)}{values:List au}{n:Int}{ks:Q0e}{f:EF}{t:AF}(U:bR X k (eI n))(J:bR X v f)(h:PD X x keys values ks t):PD X x (aa k::keys) (v::values) (n::ks) (aA f t):=by obtain⟨MH,L,Y,O,o,go⟩:=h;show⟨_::MH,DJ U J L,by simp[Y],by simp[O],by simp[o],λσ H S ρ ds Q p l e I=>?_⟩;obtain⟨d,ed,e⟩:=bnd e;obtain⟨q,es,e⟩:=bnd e;cases e;show⟨S,ρ,λy=>y=.int n,p,l,⟨_,rfl,rfl⟩,λy H1 y' j A ey=>?_⟩;subst ey;symm at A;subst A;show⟨S,ρ,λy=>y=d,bI p j,Sl.fits (.same j) l,⟨d,ed,rfl⟩,λz H2 z' m dz Z=>?_⟩;subst Z;show go σ H2 S ρ q _ (bI (bI p j) m) (Sl.fits (.same m) (Sl.fits (.same j) l)) es λH3 xs s3 F dx=>?_;show I H3 (z::xs) (λa u K=>s3 _ _ (m _ _ (j _ _ K))) (by simp[F]) (.cons (Dn.fits (.same s3) _ _ dz) dx)
theorem zU:∀(more χ:List (Key×V)),(∀p∈χ,∀q∈more,p.1≠q.1)->(more.map (·.1)).Nodup->mX χ more=χ++more
 |[],χ,_,_=>by show χ=χ++[];simp
 |q::more,χ,h,nd=>by
  rw[bp,ig] at nd;show mX (putK χ q.1 q.2) more=_;have e:putK χ q.1 q.2=χ++[q]:=by unfold putK;rw[Zz];intro z;obtain⟨p,a,e⟩:=rf.1 z;show h p a q (by simp) (of_decide_eq_true e)
  rw[e,zU more _ (λp a r d=>?_) nd.2,lr]
  .rfl
  rcases di.1 a with a|a
  .exact h p a r (by simp[d])
  .rw [bt.1 a];intro z;show nd.1 (fq.2 ⟨r,d,z.symm⟩)
theorem Gu{i:Nat}{x:ak}{keys:List (Option au)}{values:List au}{ks:Q0e}{t:AF}{A pos' p:bc}(hN:X.N.Nodup)(h:PD X p keys values ks t)(h0:keys≠[]:=by simp)(J:keys.length<=15<|>1)(nd:ks.Nodup<|>1)
  (hi:X.N[i]?=aa x<|>0) (O:Loc X.env.scope x<|>2) (U:df (.Dict keys values p) (aa (.Name x pos')) A.line X.env=pure ag<|>0) (hf:Zp X x<|>2):
  oH X (.Assign [.Name x pos'] (.Dict keys values p) A) (CA i ks t):=by
 obtain⟨MH,j,ha,Z,Y,go⟩:=h;show iD (j8 hN hi O (VZ j ha Z h0 J) U hf) λB σ H ⟨H₀,S,w,ρ,G,E,l,st,m,ok⟩=>λp j=>?_;unfold wS CA at m
 cases e:t (gO ρ) with
 |none=>rw[e] at m;show m.elim
 |some ds =>
  rw[e] at m;have q:ξ H (upd H p (.dK [])):=aU j;have o:=st.same q;have v:∀a,upd H p (.dK []) a=af->(SO S w ρ a/\a≠p):=λa y=>⟨o.JQ a y,λz=>by rw[z,aW] at y;cases y⟩;have F0:Fits X.K (SO S w ρ) (λa=>SO S w ρ a/\a≠p) H (upd H p (.dK [])):=(Fits.fresh j).trans (.same q);show go σ _ _ (gO ρ) ds _ v (Sl.fits F0 st.rd) e λn xs F L dx=>?_;have e3:n p=aa (.dK []):=F _ _ aW;show⟨e3,(ks.map cn).zip xs,?_,by rw[a2c,a_];lia,?_⟩
  .rw [a13,a13,gd];rfl
  have em:mX [] ((ks.map (cn:Int->Key)).zip xs)=(ks.map cn).zip xs:=zU _ [] (λp j=>by cases j) (by
   rw[List.map_fst_zip (by rw[a_];lia)];show yx _ (λa b h z=>h (sj z)) nd)
  rw[em];have s3:ξ H (upd n p (.dK ((ks.map cn).zip xs))):=λb u I=>by rw[bQ (bT I j)];show F _ _ (q _ _ I)
  have F3:Fits X.K (λa=>SO S w ρ a/\a≠p) (λa=>SO S w ρ a/\a≠p) n (upd n p (.dK ((ks.map cn).zip xs))):=.upd (.inr (.inl ⟨_,e3⟩)) (λh=>h.2 rfl);show ok.nx _ _ _ _ (by rw[dm];show l) (st.pE (d:=.jD (ks.map .inl) ds) (by rw[l];show eZ hi) s3 j ⟨xs,aW,by rw[a_];show L,aZ.fits F3 _ _ dx⟩) m
end
end L8
namespace K33
open L2 L3 L4 L6 L7 L8 L9 L5
def top(i : Nat):c_:=PySem.Challenge.pw_risecount_k33_looker_wrong.main.body.getD i (.Pass ⟨0,0,0,0⟩)
structure Zs (K:ar) (mg:Q0d) (fY:Tok) (k9 jI iM:ah):Prop where
 w8:mg "Looped"=aa (.ref k9)
 sI:mg "NoThing"=aa (.ref jI)
 pO:mg "NotLoose"=aa (.ref iM)
 w9:SA K k9
 sJ:SA K jI
 pP:SA K iM
 kH:mg "MOST_THINGS"=aa (.int 9 fY)
 D1:Df K mg "are_too_many" (top 7) ["n"]
 D2:Df K mg "is_thing" (top 10) ["number","n"]
 D3:Df K mg "is_rising" (top 11) ["things","n"]
 D4:Df K mg "has_all_below" (top 12) ["rows","row"]
 D5:Df K mg "is_row" (top 9) ["rows","b"]
 D6:Df K mg "is_order" (top 8) ["rows"]
 D7:Df K mg "refuse_strangers" (top 14) ["n","a","b"]
 D8:Df K mg "put_under" (top 13) ["order","a","b"]
 D9:Df K mg "are_loose" (top 17) ["order","a","b"]
 D10:Df K mg "loose_pairs" (top 16) ["order"]
 D11:Df K mg "cut" (top 18) ["order","a","b"]
 D12:Df K mg "is_order_of" (top 21) ["rows","n"]
 D13:Df K mg "are_loose_things" (top 23) ["order","a","b"]
 D14:Df K mg "row_holds" (top 22) ["rows","number"]
 D15:Df K mg "shows_cuts" (top 20) ["order","rows"]
 D16:Df K mg "_law_cell" (top 25) ["_law_script","_law_k"]
 D17:Df K mg "_law_mixed" (top 26) ["_law_cell_here","_law_k","_law_salt"]
 D18:Df K mg "_law_draws" (top 27) ["_law_cell_here","_law_many_here","_law_salt"]
 D19:Df K mg "_law_order" (top 28) ["_law_draws_here","_law_n","_law_thick"]
 D20:Df K mg "_law_loose" (top 29) ["_law_order_here"]
 D21:Df K mg "_law_put" (top 30) ["_law_order_here","_law_a","_law_b"]
 D22:Df K mg "_law_paper" (top 31) ["_law_order_here","_law_draws_here"]
 D23:Df K mg "_law_masks" (top 32) ["_law_order_here"]
 D24:Df K mg "_law_many" (top 33) ["_law_order_here"]
 D25:Df K mg "_law_small" (top 34) ["_law_script","_law_k","_law_salt"]
 D26:Df K mg "_law_moved" (top 35) ["_law_rows","_law_more"]
 D27:Df K mg "_law_latest" (top 36) ["_law_rows","_law_number"]
 D28:Df K mg "_law_papers" (top 37) ["_law_script"]
 D29:Df K mg "_law_is_order" (top 38) ["_law_rows"]
 D30:Df K mg "_law_looked" (top 39) ["_law_order_here","_law_rows"]
 D31:Df K mg "_law_bad" (top 40) ["_law_n","_law_pick"]
 D32:Df K mg "_law_why" (top 41) ["_law_order_here","_law_why_here","_law_kind","_law_picks","_law_at","_law_many_here"]
 D33:Df K mg "_law_spoilt_row" (top 42) ["_law_rows","_law_kind","_law_picks"]
 D34:Df K mg "_law_opened" (top 43) ["_law_rows","_law_spot","_law_row"]
 D35:Df K mg "_law_behind" (top 44) ["_law_rows","_law_picks"]
 D36:Df K mg "law" (top 45) ["_law_script"]
 nM:mg "enumerate"=af
 TB:mg "all"=af
 aX:mg "len"=af
 b8:mg "range"=af
 f6:mg "tuple"=af
 xA:mg "sorted"=af
 Pd:mg "set"=af
 HM:mg "list"=af
 ZK:mg "sum"=af
 TC:mg "max"=af
 Pc:mg "min"=af
 ZL:mg "int"=af
 BX:mg "isinstance"=af
 Vo:mg "bool"=af
section
variable{P:bg}{w:ba}{ω:bb}{K:ar}{mg:Q0d}{fY:Tok}{k9 jI iM:ah}(p:Ph P w ω)(Z:Zs K mg fY k9 jI iM)
include p Z
def o1:=oM p 3 LL.gX rfl ["n"] Z.D1 λa nd=>(aK (c9 (gt4 xv (c4 Z.kH))))
def o2:=oM p 3 LL.eD rfl ["number","n"] Z.D2 λa nd=>(aK (c9 (Xi JH sZ RV wJ i4 xv xv)))
def o3:=oM p 4 LL.jZ rfl ["things","n","place","thing"] Z.D3 λa nd=>(aQ (kF rfl gq (pJ Z.nM y1) (qR rfl nd)
   (aQ (cQ (oI (t6 (bM (o2 p Z).up a (aC xv y1))))
    (aK (c9 b4))
    eM)
   (aK (cQ (mC.pt (i9 (jP xv i4) (i8 (MX (bX xv (nC xv i4)) xv))))
    (aK (c9 b4))
    eM))))
  (aK (c9 b4)))
def o4:=oM p 3 LL.fZ rfl ["rows","row","thing"] Z.D4 λa nd=>(aQ (kF rfl gq (l6 xv) (iZ nd)
   (aK (cQ (oI (t6 (vk rfl Z.TB (aC (cm4 (l6 (bX xv xv)) (in4 xv xv)) aY))))
    (aK (c9 b4))
    eM)))
  (aK (c9 b4)))
def o5:=oM p 5 LL.p5 rfl ["rows","b","row"] Z.D5 λa nd=>(aQ (b9 nd (bX xv xv))
  (aK (c9 (BN (bM (o3 p Z).up a (aC xv (aC (bW Z.aX y1) aY))) (BN (wa xv xv) (GZ (bM (o4 p Z).up a (aC xv y1))))))))
def o6:=oM p 6 LL.lH rfl ["rows"] Z.D6 λa nd=>(aQ (cQ (t6 (bM (o1 p Z).up a (aC (bW Z.aX y1) aY)))
   (aK (c9 b4))
   eM)
  (aK (c9 (vk rfl Z.TB (aC (cm4 (c8 Z.b8 (bW Z.aX y1)) (bM (o5 p Z).up a (aC xv y1))) aY)))))
def o7:=fq5 p 4 LL.bV rfl ["n","a","b"] Z.D7 λd nd=>(aK (cQ (mC.pt (nE (oI (t6 (bM (o2 p Z).up d (aC xv y1)))) (tZ (oI (t6 (bM (o2 p Z).up d (aC xv y1)))))))
   (aK (G8 rfl rfl Z.sI Z.sJ (aC s4 aY)))
   eM))
def o8:=fq5 p 5 LL.gF rfl ["order","a","b","lower","rows","thing","row","reached"] Z.D8 λd nd=>(aQ (R9 (zN (o7 p Z).up d (aC (bW Z.aX y1) (aC xv y1))) (G7 rfl (o7 p Z).up d (aC (bW Z.aX y1) (aC xv y1))))
  (aQ (cQ (mC.pt (nE (fQ xv xv) (tZ (Ar xv (bX xv xv)))))
   (aK (G8 rfl rfl Z.w8 Z.w9 (aC s4 aY)))
   eM)
  (aQ (b9 nd (dH (bX xv xv) (dD y1)))
  (aQ (wM nd (fX aY))
  (aQ (Qf (kF rfl gq (pJ Z.nM y1) (qR rfl nd)
   (aQ (b9 nd (or4 (eq4 xv xv) (GZ (in4 xv xv))))
   (aK (jQ (sE (i:=4) (iY (if4 (t6 xv) (lX Z.f6 (aC (kC.pe (HK rfl Z.xA Z.Pd (aC (dH xv xv) aY))) aY)) xv))))))))
  (aK (c9 (lX Z.f6 y1))))))))
def o9:=oM p 3 LL.d8 rfl ["order","a","b"] Z.D9 λd nd=>(aK (c9 (BN (ne4 xv xv) (BN (wa xv (bX xv xv)) (GZ (wa xv (bX xv xv)))))))
def Gd:=oM p 4 LL.fS rfl ["order","pairs","a"] Z.D10 λd nd=>(aQ (wM nd (fX aY))
  (aQ (kF rfl gq (c8 Z.b8 (bW Z.aX y1)) (iZ nd)
   (aK (jQ (W3 (iY (XW (J0 Z.b8 (dH xv i4) (bW Z.aX y1)) (t6 (bM (o9 p Z).up d (aC xv (aC xv y1)))) (dD (aC xv y1))))))))
  (aK (c9 (lX Z.f6 y1)))))
def Gb:=fq5 p 6 LL.IP rfl ["order","a","b"] Z.D11 λd nd=>(aQ (R9 (zN (o7 p Z).up d (aC (bW Z.aX y1) (aC xv y1))) (G7 rfl (o7 p Z).up d (aC (bW Z.aX y1) (aC xv y1))))
  (aQ (cQ (oI (t6 (bM (o9 p Z).up d (aC xv (aC xv y1)))))
   (aK (G8 rfl rfl Z.pO Z.pP (aC s4 aY)))
   eM)
  (aK (Qn (dD (aC (zN (o8 p Z).up d (aC xv (aC xv y1))) (aC (zN (o8 p Z).up d (aC xv (aC xv y1))) aY))) (Qj (Wb (G7 rfl (o8 p Z).up d (aC xv (aC xv y1))) (aC (zN (o8 p Z).up d (aC (x4  0) (aC (x4  2) (aC (x4  1) aY)))) aY)))))))
def Ga:=oM p 7 LL.iP rfl ["rows","n"] Z.D12 λa nd=>(aK (c9 (BN (eq4 (bW Z.aX y1) xv) (GZ (bM (o6 p Z).up a y1)))))
def F_:=oM p 4 LL.dQ rfl ["order","a","b"] Z.D13 λd nd=>(aK (c9 (BN (bM (o2 p Z).up d (aC xv (aC (bW Z.aX y1) aY))) (BN (bM (o2 p Z).up d (aC xv (aC (bW Z.aX y1) aY))) (GZ (bM (o9 p Z).up d (aC xv (aC xv y1))))))))
def Fz:=oM p 7 LL.j4 rfl ["rows","number","order","why"] Z.D14 λa nd=>(aQ (b9 nd (bX (bX xv xv) i4))
  (aQ (b9 nd (bX (bX xv xv) i4))
  (aQ (cQ (oI (t6 (bM (Gd p Z).up a y1)))
   (aK (c9 (Ai (u9 a) xv (dD aY))))
   eM)
  (aQ (cQ (mC.pt (nE (Ic (bW Z.aX y1) i4) (tZ (oI (t6 (bM (F_ p Z).up a (aC xv (aC (bX xv i4) (aC (bX xv i4) aY)))))))))
   (aK (c9 b4))
   eM)
  (aQ (cQ (oI (mC.pt (i9 (uK JH sZ RV wJ i4 (bX xv i4) xv) (i8 (uK JH sZ RV wJ i4 (bX xv i4) xv)))))
   (aK (c9 b4))
   eM)
  (aK (c9 (Ai (u9 a) (zN (Gb p Z).up a (aC xv (aC (bX xv i4) (aC (bX xv i4) aY)))) (dD (aC (bX (bX xv (bX xv i4)) i4) (aC (bX (bX xv (bX xv i4)) i4) aY)))))))))))
def Fy:=oM p 8 LL.jC rfl ["order","rows"] Z.D15 λa nd=>(aQ (cQ (mC.pt (nE (oI (t6 xv)) (tZ (zL (u9 a) (bX (bX xv (pG i4)) i4) xv))))
   (aK (c9 b4))
   eM)
  (aK (c9 (vk rfl Z.TB (aC (cp4 (pJ Z.nM y1) (BN (bM (Ga p Z).up a (aC (bX xv i4) (aC (bW Z.aX y1) aY))) (GZ (bM (Fz p Z).up a (aC xv y1))))) aY)))))
def nu:=oM p 3 LL.eJ rfl ["_law_script","_law_k"] Z.D16 λa nd=>(aQ (cQ (fQ (bW Z.aX y1) i4)
   (aK (c9 i4))
   eM)
  (aK (c9 (bX xv (dW xv (bW Z.aX y1))))))
def Fx:=oM p 3 LL.jE rfl ["_law_cell_here","_law_k","_law_salt","_law_one","_law_two"] Z.D17 λa nd=>(aQ (b9 nd (dW (xU (dH (dH (dH xv (xU (xU i4 xv) xv)) (xU i4 xv)) xv) i4) i4))
  (aQ (b9 nd (dW (dH (dH (xU xv (dH (BM xv i4) i4)) (xU i4 xv)) xv) i4))
  (aK (c9 (dW (xU xv i4) i4)))))
def nq:=oM p 4 LL.dI rfl ["_law_cell_here","_law_many_here","_law_salt","_law_found","_law_left","_law_k"] Z.D18 λa nd=>(aQ (wM nd (fX aY))
  (aQ (b9 nd i4)
  (aQ (cQ (MX xv (W0 i4 i4))
   (aK (b9 nd xv))
   eM)
  (aQ (kF rfl gq (c8 Z.b8 xv) (iZ nd)
   (aK (cQ (jP xv i4)
    (aQ (jQ (sE (i:=3) (iY (dW xv i4))))
    (aK (b9 nd (BM xv i4))))
    (aK (jQ (sE (i:=3) (iY (bM (Fx p Z).up a (aC xv (aC xv y1))))))))))
  (aK (c9 xv))))))
def r_:=oM p 3 LL.fA rfl ["_law_draws_here","_law_n","_law_thick","_law_rest","_law_word","_law_k","_law_low","_law_at","_law_j","_law_under","_law_i"] Z.D19 λa nd=>(aQ (wM nd (G2 rfl Z.HM Z.b8 y1))
  (aQ (wM nd (fX aY))
  (aQ (kF rfl gq (c8 Z.b8 xv) (iZ nd)
   (aK (jQ (sE (i:=4) (Hc (i:=3) (px4 (dW (bX xv xv) (bW Z.aX y1))))))))
  (aQ (RY (i:=6) nd)
  (aQ (b9 nd xv)
  (aQ (kF rfl gq (c8 Z.b8 xv) (iZ nd)
   (aQ (b9 nd (kC.pe (fX aY)))
   (aQ (kF rfl gq (c8 Z.b8 xv) (iZ nd)
    (aQ (cQ (W2 (dW (bX xv xv) i4) xv)
     (aK (Y8 (i:=9) nd (Y4 xv (XW (l6 (dH (v_ (u1 a) xv (bX xv xv)) (kC.pe (fX (aC (bX xv xv) aY))))) (DZ xv xv) xv))))
     eM)
    (aK (b9 nd (dH xv i4)))))
   (aK (Rl (i:=6) (u1 a) (iY xv) (bX xv xv))))))
  (aK (c9 (lX Z.f6 (aC (cm4 (c8 Z.b8 xv) (lX Z.f6 (aC (kC.pe (JZ Z.xA (aC (v_ (u1 a) xv xv) aY))) aY))) aY))))))))))
def zq:=oM p 3 LL.iI rfl ["_law_order_here","_law_found","_law_a","_law_b"] Z.D20 λa nd=>(aQ (wM nd (fX aY))
  (aQ (kF rfl gq (c8 Z.b8 (bW Z.aX y1)) (iZ nd)
   (aK (kF rfl gq (J0 Z.b8 (dH xv i4) (bW Z.aX y1)) (iZ nd)
    (aK (cQ (mC.pt (i9 (DZ xv (bX xv xv)) (i8 (DZ xv (bX xv xv)))))
     (aK (jQ (sE (i:=1) (iY (dD (aC xv y1))))))
     eM)))))
  (aK (c9 xv))))
def r6:=oM p 3 LL.gU rfl ["_law_order_here","_law_a","_law_b","_law_low","_law_found","_law_c","_law_under"] Z.D21 λa nd=>(aQ (b9 nd (dH (kC.pe (Y6 Z.HM (aC (bX xv xv) aY))) (kC.pe (fX y1))))
  (aQ (wM nd (fX aY))
  (aQ (kF rfl gq (c8 Z.b8 (bW Z.aX y1)) (iZ nd)
   (aQ (b9 nd (kC.pe (Y6 Z.HM (aC (bX xv xv) aY))))
   (aQ (cQ (mC.pt (nE (fQ xv xv) (tZ (Ar xv (bX xv xv)))))
    (aK (b9 nd (dH xv (XW (l6 xv) (DZ xv xv) xv))))
    eM)
   (aK (jQ (sE (i:=4) (iY (lX Z.f6 (aC (kC.pe (JZ Z.xA y1)) aY)))))))))
  (aK (c9 (lX Z.f6 y1))))))
def vb:=oM p 4 LL.gG rfl ["_law_order_here","_law_draws_here","_law_rows","_law_numbers","_law_waiting","_law_one","_law_pairs","_law_pick","_law_a","_law_b","_law_parts","_law_missing"] Z.D22 λa nd=>(aQ (wM nd (fX aY))
  (aQ (ZE nd)
  (aQ (wM nd (fX y1))
  (aQ (Wn gq (jP (bW Z.aX y1) i4)
   (aQ (Rm (i:=5) nd (px4 (bX xv (pG i4))))
   (aQ (b9 nd (bM (zq p Z).up a y1))
   (aK (cQ (Qs (u2 a) xv xv)
    (aK (jQ (Rq (i:=4))))
    (aK (cQ (fQ (bW Z.aX y1) i4)
     (aQ (S9 (i:=3) (u2 a) (px4 (bW Z.aX y1)) xv)
     (aK (jQ (sE (i:=2) (iY (dD (aC xv (aC (dD aY) aY))))))))
     (aQ (b9 nd (bX xv (dW (Aq rfl Z.ZK (aC (cm4 (l6 xv) (bW Z.aX y1)) aY)) (bW Z.aX y1))))
     (aQ (wN (iY (bX xv (dW xv (bW Z.aX y1)))) (qR rfl nd))
     (aQ (cQ (fQ (dW (BM xv i4) i4) i4)
      (aK (Gy rfl nd (aC xv y1)))
      eM)
     (aQ (b9 nd (kC.pe (fX (aC (bM (r6 p Z).up a (aC xv (aC xv y1))) (aC (bM (r6 p Z).up a (aC xv (aC xv y1))) aY)))))
     (aQ (HC (ls:=["_law_part"]) (fs:=["_law_numbers"]) (fr:=[3]) nd rfl (l6 xv) (λ_ _ _ _ _ _ nd=>nG (i:=0) nd (by decide)) (λ_ _ _ _ _ _=>wL (Vs (u2 a) xv xv)) (λ_ _ _ _ _ _=>xv))
     (aK (cQ (jP (bW Z.aX y1) i4)
      (aK (jQ (sE (i:=4) (iY (bX xv (dW (BM xv i4) (bW Z.aX y1)))))))
      (aQ (S9 (i:=3) (u2 a) (px4 (bW Z.aX y1)) xv)
      (aK (jQ (sE (i:=2) (px4 (dD (aC xv (aC (dD (aC xv (aC xv (aC (XH (u2 a) xv (bX xv i4)) (aC (XH (u2 a) xv (bX xv i4)) aY))))) aY))))))))))))))))))))))
  (aK (c9 xv))))))
def Fw:=oM p 3 LL.kU rfl ["_law_order_here"] Z.D23 λa nd=>(aK (c9 (cm4 (l6 xv) (Aq rfl Z.ZK (aC (cm4 (l6 xv) (XN i4 xv)) aY)))))
def zp:=oM p 4 LL.jM rfl ["_law_order_here","_law_masks_here","_law_ways","_law_step","_law_fresh","_law_mask","_law_b"] Z.D24 λa nd=>(aQ (b9 nd (bM (Fw p Z).up a y1))
  (aQ (Vq (i:=2) (u1 a) nd i4 i4)
  (aQ (kF rfl gq (c8 Z.b8 (bW Z.aX y1)) (iZ nd)
   (aQ (ZE nd)
   (aQ (Rc 2 (kF rfl gq (Vr xv) (iZ nd)
    (aK (kF rfl gq (c8 Z.b8 (bW Z.aX y1)) (iZ nd)
     (aK (cQ (mC.pt (i9 (fQ (ZG (Gw xv xv) i4) i4) (i8 (fQ (ZG (bX xv xv) xv) (bX xv xv)))))
      (aK (S9 (i:=4) (u2 a) (px4 (dH (Qr (u2 a) xv (Ad xv (XN i4 xv)) i4 ⟨rfl,rfl,rfl,rfl⟩) (XH (u2 a) xv xv))) (Ad xv (XN i4 xv))))
      eM))))))
   (aK (Pm (i:=2) (j:=4) nd)))))
  (aK (c9 (XH (u2 a) xv (nC (XN i4 (bW Z.aX y1)) i4)))))))
def Fv:=oM p 5 LL.kX rfl ["_law_script","_law_k","_law_salt","_law_head","_law_n","_law_thick","_law_draws_here","_law_order_here"] Z.D25 λa nd=>(aQ (b9 nd (bM (nq p Z).up a (aC (bM (nu p Z).up a (aC xv y1)) (aC i4 y1))))
  (aQ (b9 nd (bX (kC.pe (fX (aC i4 (aC i4 (aC i4 (aC i4 (aC i4 (aC i4 (aC i4 (aC i4 aY)))))))))) (dW (bX xv i4) i4)))
  (aQ (b9 nd (bX (kC.pe (fX (aC i4 (aC i4 (aC i4 (aC i4 (aC i4 (aC i4 (aC i4 (aC i4 aY)))))))))) (dW (bX xv i4) i4)))
  (aQ (cQ (fQ (dW (bX xv i4) i4) i4)
   (aQ (b9 nd (dH i4 (dW (bX xv i4) i4)))
   (aK (b9 nd i4)))
   eM)
  (aQ (b9 nd (bM (nq p Z).up a (aC (bM (nu p Z).up a (aC xv (aC (dH xv i4) aY))) (aC (dH xv (BM (xU xv (nC xv i4)) i4)) (aC (dH xv i4) aY)))))
  (aQ (b9 nd (bM (r_ p Z).up a (aC xv (aC xv y1))))
  (aQ (cQ (mC.pt (i9 (jP xv i4) (i8 (jP (bM (zp p Z).up a y1) i4))))
   (aK (b9 nd (bM (r_ p Z).up a (aC xv (aC xv (aC i4 aY))))))
   eM)
  (aK (c9 xv)))))))))
def zo:=oM p 3 LL.jG rfl ["_law_rows","_law_more","_law_found","_law_order_here","_law_why_here"] Z.D26 λa nd=>(aQ (wM nd (fX aY))
  (aQ (kF rfl gq (l6 xv) (qR rfl nd)
   (aQ (cQ (jP (bW Z.aX y1) i4)
    (aK (b9 nd (dD (aC (bX xv i4) (aC (bX xv i4) (aC (dH (bX xv i4) xv) (aC (dH (bX xv i4) xv) aY)))))))
    eM)
   (aK (jQ (sE (i:=2) (iY (dD (aC xv y1))))))))
  (aK (c9 xv))))
def zm:=oM p 3 LL.c7 rfl ["_law_rows","_law_number"] Z.D27 λa nd=>(aK (c9 (Pj rfl Z.TC (aC (XW (c8 Z.b8 (nC (bW Z.aX y1) i4)) (Rf (u9 a) (bX (bX xv xv) i4) (bX (bX xv xv) i4)) xv) aY))))
def Fu:=oM p 6 LL.lI rfl ["_law_script","_law_order_here","_law_draws_here","_law_size","_law_rows","_law_other","_law_ahead","_law_twice","_law_why_here"] Z.D28 λa nd=>(aQ (b9 nd (bM (Fv p Z).up a (aC xv (aC i4 (aC i4 aY)))))
  (aQ (b9 nd (bM (nq p Z).up a (aC (bM (nu p Z).up a (aC xv (aC i4 aY))) (aC i4 (aC i4 aY)))))
  (aQ (b9 nd (bM (nq p Z).up a (aC (bM (nu p Z).up a (aC xv (aC i4 aY))) (aC i4 (aC i4 aY)))))
  (aQ (b9 nd (bM (vb p Z).up a (aC xv y1)))
  (aQ (cQ (fQ (dW (bX xv i4) i4) i4)
   (aQ (b9 nd (bM (r_ p Z).up a (aC (dH (J5 xv (EY i4) (EY i4)) xv) (aC (bW Z.aX y1) (aC i4 aY)))))
   (aK (cQ (As (dH (xU i4 (bM (zp p Z).up a y1)) (bW Z.aX y1)) i4)
    (aQ (b9 nd (bM (vb p Z).up a (aC xv y1)))
    (aK (b9 nd (dH xv (bM (zo p Z).up a (aC xv (aC (bW Z.aX y1) aY)))))))
    eM)))
   eM)
  (aQ (EA (i:=7) (ls:=["_law_k"]) (fs:=["_law_rows","_law_size"]) (fr:=[4,3]) nd rfl (c8 Z.b8 (dW (bX xv i4) i4)) (λ_ _ _ _ _ _ nd=>nG (i:=0) nd (by decide)) (λ_ _ _ _ _ _=>J3) (λ_ _ _ _ _ _=>(bX xv (dW (dH (bX xv i4) (xU xv (bX xv i4))) (bW Z.aX y1)))))
  (aQ (b9 nd (bX (bX xv (pG i4)) i4))
  (aQ (cQ (mC.pt (i9 (jP (bW Z.aX y1) i4) (i8 (fQ (dW (bX xv i4) i4) i4))))
   (aK (jQ (sE (i:=7) (iY (bX xv (bX xv (dH i4 (dW (bX xv i4) i4))))))))
   eM)
  (aQ (Y8 (i:=4) nd (Y4 (dH (J5 xv J4 (EY (pG i4))) xv) (J5 xv (EY (pG i4)) J4)))
  (aQ (cQ (mC.pt (i9 (jP (bW Z.aX y1) i4) (i8 (fQ (dW (BM (bX xv i4) i4) i4) i4))))
   (aK (b9 nd (dD (aC (bX xv i4) (aC (bX xv i4) (aC (bM (zm p Z).up a (aC xv (aC (bX xv i4) aY))) (aC (bM (zm p Z).up a (aC xv (aC (bX xv i4) aY))) aY)))))))
   eM)
  (aK (c9 (dD (aC xv (aC (dH (J5 xv J4 (EY (pG i4))) (kC.pe (fX (aC (dD (aC (bX (bX xv (pG i4)) i4) y1)) aY)))) aY)))))))))))))))
def Ft:=oM p 3 fM rfl ["_law_rows","_law_b","_law_k","_law_a","_law_x"] Z.D29 λa nd=>(aQ (cQ (jP (bW Z.aX y1) i4)
   (aK (c9 b4))
   eM)
  (aQ (kF rfl gq (c8 Z.b8 (bW Z.aX y1)) (iZ nd)
   (aK (kF rfl gq (c8 Z.b8 (bW Z.aX (aC (bX xv xv) aY))) (iZ nd)
    (aQ (b9 nd (bX (bX xv xv) xv))
    (aQ (cQ (mC.pt (nE (W2 xv i4) (nE (MX xv (bW Z.aX y1)) (nE (fQ xv xv) (tZ (mC.pt (i9 (jP xv i4) (i8 (MX (bX (bX xv xv) (nC xv i4)) xv)))))))))
     (aK (c9 b4))
     eM)
    (aK (kF rfl gq (l6 (bX xv xv)) (iZ nd)
     (aK (cQ (DZ xv (bX xv xv))
      (aK (c9 b4))
      eM)))))))))
  (aK (c9 b4))))
def Fs:=oM p 4 lK rfl ["_law_order_here","_law_rows","_law_at","_law_one","_law_why_here","_law_pairs","_law_a","_law_b","_law_i","_law_j"] Z.D30 λa nd=>(aQ (cQ (mC.pt (nE (fQ (bW Z.aX y1) i4) (tZ (zL (u9 a) (bX (bX xv (pG i4)) i4) xv))))
   (aK (c9 b4))
   eM)
  (aQ (kF rfl gq (c8 Z.b8 (bW Z.aX y1)) (iZ nd)
   (aQ (wN (iY (bX xv xv)) (qR rfl nd))
   (aQ (cQ (mC.pt (nE (zL (u9 a) (bW Z.aX y1) (bW Z.aX y1)) (tZ (oI (t6 (bM (Ft p Z).up a y1))))))
    (aK (c9 b4))
    eM)
   (aQ (b9 nd (bM (zq p Z).up a y1))
   (aK (cQ (mC.pt (nE (fQ (bW Z.aX y1) i4) (tZ (zL (u9 a) (bW Z.aX y1) i4))))
    (aK (cQ (mC.pt (nE (jP (bW Z.aX y1) i4) (tZ (jP (bW Z.aX y1) i4))))
     (aK (c9 b4))
     eM))
    (aQ (wN (iY xv) (ZJ (i:=6) (j:=7) (k:=8) (l:=9) rfl nd))
    (aQ (cQ (mC.pt (nE (We (u9 a) (dD (aC (Qk rfl Z.Pc (aC xv y1)) (aC (ZA rfl Z.TC (aC xv y1)) aY))) xv) (nE (W2 xv i4) (nE (MX xv xv) (nE (W2 xv i4) (tZ (MX xv xv)))))))
     (aK (c9 b4))
     eM)
    (aK (cQ (mC.pt (nE (zL (u9 a) (bX (bX xv xv) i4) (bM (r6 p Z).up a (aC xv (aC xv y1)))) (tZ (zL (u9 a) (bX (bX xv xv) i4) (bM (r6 p Z).up a (aC xv (aC xv y1)))))))
     (aK (c9 b4))
     eM))))))))))
  (aK (c9 b4))))
def Fq:=oM p 3 uG rfl ["_law_n","_law_pick","_law_rows"] Z.D31 λa nd=>(aQ (EA (i:=2) (ls:=["_law_b"]) (fs:=[]) (fr:=[]) nd rfl (c8 Z.b8 xv) (λ_ _ _ _ _ _ nd=>nG (i:=0) nd (by decide)) (λ_ _ _ _ _ _=>J3) (λ_ _ _ _ _ _=>(nH rfl Z.f6 Z.b8 xv)))
  (aQ (cQ (mC.pt (i9 (jP xv i4) (i8 (fQ (dW xv i4) i4))))
   (aK (G5 (iY (nH rfl Z.f6 Z.b8 xv)) (nC xv i4)))
   (aK (cQ (mC.pt (i9 (jP xv i4) (i8 (fQ (dW xv i4) i4))))
    (aQ (G5 (iY (dD (aC i4 aY))) i4)
    (aK (G5 (iY (dD (aC i4 aY))) i4)))
    (aK (cQ (mC.pt (i9 (jP xv i4) (i8 (fQ (dW xv i4) i4))))
     (aK (G5 (iY (dD (aC i4 (aC i4 aY)))) i4))
     (aK (cQ (mC.pt (i9 (jP xv i4) (i8 (fQ (dW xv i4) i4))))
      (aK (G5 (iY (dD (aC i4 (aC i4 aY)))) i4))
      (aK (cQ (mC.pt (i9 (jP xv i4) (i8 (fQ (dW xv i4) i4))))
       (aK (G5 (iY (dD (aC (bX (kC.pe (fX (aC (pG i4) (aC (nC i4 (SE (W0 i4 i4) i4)) aY)))) (dW (BM xv i4) i4)) aY))) i4))
       (aK (cQ (mC.pt (i9 (jP xv i4) (i8 (fQ (dW xv i4) i4))))
        (aK (G5 (px4 (dH (bX xv (nC xv i4)) (dD (aC (bX (kC.pe (fX (aC xv (aC (nC (SE (W0 i4 i4) i4) i4) aY)))) (dW (BM xv i4) i4)) aY)))) (nC xv i4)))
        (aK (cQ (mC.pt (i9 (jP xv i4) (i8 (fQ (dW xv i4) i4))))
         (aK (Rn (i:=2) nd (Gv xv J4 (EY (pG i4)))))
         (aK (jQ (sE (i:=2) (iY (nH rfl Z.f6 Z.b8 xv))))))))))))))))))
  (aK (c9 (lX Z.f6 y1)))))
def Fp:=oM p 3 p8 rfl ["_law_order_here","_law_why_here","_law_kind","_law_picks","_law_at","_law_many_here","_law_a","_law_b","_law_i","_law_j","_law_far","_law_tied","_law_y","_law_other","_law_changed"] Z.D32 λa nd=>(aQ (wN (iY xv) (ZJ (i:=6) (j:=7) (k:=8) (l:=9) rfl nd))
  (aQ (b9 nd (nC (SE (W0 i4 i4) i4) i4))
  (aQ (b9 nd (kC.pe (fX (aC (dD (aC xv y1)) aY))))
  (aQ (kF rfl gq (c8 Z.b8 (bW Z.aX y1)) (iZ nd)
   (aK (b9 nd (dH xv (cm4 (l6 (bX xv xv)) (dD (aC xv y1)))))))
  (aQ (b9 nd (bX xv (dW (bX xv i4) (bW Z.aX y1))))
  (aQ (by show Gu (i:=14) nd ?_;show kG i4 ?_ ?_;show(dD aY);show kG i4 ?_ ?_;show(dD (aC xv (aC xv (aC xv y1))));show kG i4 ?_ ?_;show(dD (aC xv (aC xv (aC xv y1))));show kG i4 ?_ ?_;show(dD (aC (bX xv i4) (aC (bX xv i4) (aC xv y1))));show kG i4 ?_ ?_;show(dD (aC (bX (kC.pe (fX (aC (bW Z.aX y1) (aC (pG i4) (aC xv (aC (pG xv) aY)))))) (dW (bX xv i4) i4)) (aC xv (aC xv y1))));show kG i4 ?_ ?_;show(bX (kC.pe (fX (aC (dD (aC xv (aC xv (aC (nC xv xv) y1)))) (aC (dD (aC xv (aC xv (aC xv (aC (nC xv xv) aY))))) aY)))) (dW (bX xv i4) i4));show kG i4 ?_ ?_;show(bX (kC.pe (fX (aC (dD (aC xv (aC xv (aC xv y1)))) (aC (dD (aC xv (aC xv (aC xv y1)))) aY)))) (dW (bX xv i4) i4));show kG i4 ?_ ?_;show(bX (kC.pe (fX (aC (dD (aC xv (aC xv (aC xv (aC (dW (BM (bX xv i4) i4) (ZA rfl Z.TC (aC i4 y1))) aY))))) (aC (dD (aC xv (aC xv (aC xv y1)))) (aC (dD (aC xv (aC xv (aC (pG xv) y1)))) (aC (dD (aC xv (aC xv (aC xv y1)))) aY)))))) (dW (bX xv i4) i4));show kG i4 ?_ ?_;show(bX (kC.pe (fX (aC (dD (aC xv (aC xv y1))) (aC (dD (aC xv (aC xv (aC xv (aC xv y1))))) aY)))) (dW (bX xv i4) i4));show kG i4 ?_ ?_;show(dD (aC xv (aC xv (aC xv y1))));show Pe)
  (aK (c9 (v_ (u1 a) xv xv)))))))))
def Fo:=oM p 4 gY rfl ["_law_rows","_law_kind","_law_picks","_law_places","_law_at","_law_order_here","_law_why_here"] Z.D33 λa nd=>(aQ (sD (ls:=["_law_at"]) (fs:=["_law_rows"]) (fr:=[0]) nd rfl (c8 Z.b8 (bW Z.aX y1)) (λ_ _ _ _ _ _ nd=>nG (i:=0) nd (by decide)) (λ_ _ _ _ _ _=>wL (jP (bW Z.aX (aC (bX (bX xv xv) i4) aY)) i4)) (λ_ _ _ _ _ _=>xv))
  (aQ (cQ (fQ xv i4)
   (aK (sD (ls:=["_law_at"]) (fs:=["_law_rows"]) (fr:=[0]) nd rfl (c8 Z.b8 (bW Z.aX y1)) (λ_ _ _ _ _ _ nd=>nG (i:=0) nd (by decide)) (λ_ _ _ _ _ _=>wL (fQ (bW Z.aX (aC (bX (bX xv xv) i4) aY)) i4)) (λ_ _ _ _ _ _=>xv)))
   eM)
  (aQ (cQ (fQ (bW Z.aX y1) i4)
   (aK (c9 xv))
   eM)
  (aQ (b9 nd (bX xv (dW (bX xv i4) (bW Z.aX y1))))
  (aQ (wN (iY (bX xv xv)) (qR rfl nd))
  (aQ (cQ (fQ xv i4)
   (aK (b9 nd (bX (kC.pe (fX (aC (dD (aC i4 (aC i4 (aC i4 (aC i4 aY))))) (aC (dD (aC i4 aY)) aY)))) (dW (bX xv i4) i4))))
   (aK (b9 nd (bM (Fp p Z).up a (aC xv (aC xv (aC xv (aC xv (aC xv (aC (bW Z.aX y1) aY))))))))))
  (aK (c9 (dH (dH (J5 xv J4 (EY xv)) (kC.pe (fX (aC (dD (aC xv y1)) aY)))) (J5 xv (EY (dH xv i4)) J4))))))))))
def Fn:=oM p 3 lM rfl ["_law_rows","_law_spot","_law_row","_law_found","_law_order_here","_law_why_here"] Z.D34 λa nd=>(aQ (wM nd (fX aY))
  (aQ (kF rfl gq (l6 xv) (qR rfl nd)
   (aQ (cQ (jP (bW Z.aX y1) i4)
    (aK (b9 nd (dD (aC (bX xv i4) (aC (bX xv i4) (aC (dH (bX xv i4) (Ak rfl Z.ZL (aC (ge4 (bX xv i4) xv) aY))) (aC (dH (bX xv i4) (Ak rfl Z.ZL (aC (ge4 (bX xv i4) xv) aY))) aY)))))))
    eM)
   (aK (jQ (sE (i:=3) (iY (dD (aC xv y1))))))))
  (aK (c9 (dH (dH (J5 xv J4 (EY xv)) (kC.pe (fX y1))) (J5 xv (EY xv) J4))))))
def Fm:=oM p 3 lN rfl ["_law_rows","_law_picks","_law_places","_law_at","_law_order_here","_law_why_here","_law_twin","_law_found"] Z.D35 λa nd=>(aQ (sD (ls:=["_law_at"]) (fs:=["_law_rows"]) (fr:=[0]) nd rfl (c8 Z.b8 (nC (bW Z.aX y1) i4)) (λ_ _ _ _ _ _ nd=>nG (i:=0) nd (by decide)) (λ_ _ _ _ _ _=>wL (jP (bW Z.aX (aC (bX (bX xv xv) i4) aY)) i4)) (λ_ _ _ _ _ _=>xv))
  (aQ (cQ (fQ (bW Z.aX y1) i4)
   (aK (c9 xv))
   eM)
  (aQ (b9 nd (bX xv (dW (bX xv i4) (bW Z.aX y1))))
  (aQ (wN (iY (bX xv xv)) (qR rfl nd))
  (aQ (b9 nd (bX xv (bX xv i4)))
  (aQ (b9 nd (dD (aC (bX xv i4) (aC (bX xv i4) (aC (nC (bW Z.aX y1) i4) (aC (bX xv i4) aY))))))
  (aQ (cQ (fQ (dW (bX xv i4) i4) i4)
   (aQ (b9 nd (bX xv (bX (bX (bX xv xv) i4) i4)))
   (aK (b9 nd (dD (aC (bX xv i4) (aC (bX xv i4) (aC (bX (bX (bX xv xv) i4) i4) (aC (nC (bW Z.aX y1) i4) aY))))))))
   eM)
  (aQ (b9 nd (dH (dH (J5 xv J4 (EY xv)) (kC.pe (fX (aC (dD (aC xv y1)) aY)))) (J5 xv (EY (dH xv i4)) J4)))
  (aK (c9 (dH (dH (J5 xv J4 (EY (pG i4))) (kC.pe (fX y1))) (J5 xv (EY (pG i4)) J4))))))))))))
def Vn{f:ah}{fd:h_}(F:YR K "law" "law" (top 45) f fd):mS P w K mg ω DG 10 f fd ["_law_script"] (Y7 K yO):=by
 have S:hJ ["_law_script","_law_order_here","_law_rows","_law_picks","_law_kind","_law_handed","_law_ahead","_law_at","_law_found"] ["_law_script"] (bJ (top 45)):=⟨rfl,rfl,rfl,by decide+kernel,rfl,by decide+kernel,by decide+kernel⟩;have nd:=S.nd;show Am F S rfl rfl (λ_ _ _ _ _ _ a=>(aQ (wN (iY (bM (Fu p Z).up a y1)) (qR rfl nd))
  (aQ (b9 nd (bM (nq p Z).up a (aC (bM (nu p Z).up a (aC xv (aC i4 aY))) (aC i4 (aC i4 aY)))))
  (aQ (b9 nd (dW (bX xv i4) i4))
  (aQ (b9 nd xv)
  (aQ (cQ (fQ xv i4)
   (aK (b9 nd (bX (bX xv (dW (bX xv i4) (bW Z.aX y1))) i4)))
   (aK (cQ (fQ xv i4)
    (aK (b9 nd (bM (Fn p Z).up a (aC xv (aC (dW (bX xv i4) (dH (bW Z.aX y1) i4)) (aC (dD (aC (bM (Fq p Z).up a (aC (bW Z.aX y1) (aC (bX xv i4) aY))) (aC (dD aY) aY))) aY))))))
    (aK (cQ (mC.pt (i9 (fQ xv i4) (i8 (uK sZ sZ wJ wJ i4 (bW Z.aX y1) i4))))
     (aQ (b9 nd (bM (vb p Z).up a (aC (bM (r_ p Z).up a (aC (dH xv (bM (nq p Z).up a (aC (bM (nu p Z).up a (aC xv (aC i4 aY))) (aC i4 (aC i4 aY))))) (aC (nC (bW Z.aX y1) i4) (aC i4 aY)))) y1)))
     (aK (cQ (As (dH (bW Z.aX y1) (bW Z.aX y1)) i4)
      (aK (b9 nd (dH xv (bM (zo p Z).up a (aC xv (aC (bW Z.aX y1) aY))))))
      eM)))
     (aK (cQ (fQ xv i4)
      (aK (b9 nd (bM (Fm p Z).up a (aC xv y1))))
      (aK (cQ (fQ xv i4)
       (aQ (b9 nd (dW (bX xv i4) (bW Z.aX y1)))
       (aK (b9 nd (dH (dH (J5 xv J4 (EY xv)) (kC.pe (fX (aC (dD (aC (bX (bX xv (dW (bX xv i4) (bW Z.aX y1))) i4) (aC (bX (bX xv xv) i4) aY))) aY)))) (J5 xv (EY (dH xv i4)) J4)))))
       (aK (cQ (fQ xv i4)
        (aK (b9 nd (kC.pe (fX aY))))
        (aK (cQ (uK sZ sZ wJ wJ i4 xv i4)
         (aK (b9 nd (bM (Fo p Z).up a (aC xv (aC xv y1)))))
         eM)))))))))))))
  (aQ (b9 nd (bM (Fy p Z).up a (aC xv (aC (lX Z.f6 y1) aY))))
  (aK (c9 (BN (Hq YY.b Z.BX Z.Vo a3Z xv) (GZ (eq4 xv (bM (Fs p Z).up a (aC xv y1))))))))))))))
end
theorem all_mk{l:qi}{w:ba}{K:ar}{mg:Q0d}{d:ah}(a:mg "law"=aa (.ref d)){o:Tok}{h j n:ah}(Z:Zs K mg o h j n):
  ∃fd:h_,(∀(s:ao) (v:ai),qr s fd ⟨[v],[]⟩ [("_law_script",v)]) /\∀ω:bb,K.In ω->ω.Ns jb mg->mS l.prog w K mg ω DG 10 d fd ["_law_script"] (Y7 K yO):=by
 obtain @⟨_,fd,_,F,m,_⟩:=Z.D36;cases a.symm.trans m;show⟨fd,λs v=>?_,λω _ _=>Vn .mk Z F⟩;obtain⟨_,_,_,_,_,_,_,_,_,e,_⟩:=F.ex;rw[e];show .of_eq rfl
def Vm{K:ar}{H:Hp}{a:ah}{ns:Q0e}(o:Only H)(h:fU K H a (ns.map V.int)):YU K H a ns:=by
 rcases h with h|h
 .rcases h with h|⟨b,h⟩
  .rcases o a with z|⟨_,_,z⟩|⟨_,z⟩<;>rw[z] at h<;>cases h
  .exact .inl ⟨b,h⟩
 .exact .inr (.inr h)
theorem walk{l:qi}{q:bg}{loose:Q0g}{X:(ak->Option ai)->bb->Prop}{YP:ba->bb->Prop}{d:DefRec}{K:Params->ar}(I:l.most=aa 63)(m:d.params.defaults=[])
  (O:∀(w:ba) (h:bb),YP w h->(K w.params).In h) (A:∀w:ba,TabsOk (K w.params) q) (j:∀w:ba,noTabs (K w.params)=ae)
  (F:∀(w:ba) (mg:Q0d) (p:ah) (h:bb),(K w.params).In h->h.Ns jb mg->mg d.name=aa (.ref p) ->
   ∃fd:h_,(∀(s:ao) (u:ai),qr s fd ⟨[u],[]⟩ [("_law_script",u)]) /\∀ω:bb,(K w.params).In ω->ω.Ns jb mg->mS l.prog w (K w.params) mg ω DG 10 p fd ["_law_script"] (Y7 (K w.params) yO)):
  Cw q loose X YP l.row.toRowW d [] (λf y=>Cq f y) :=
 L2.VW (n:=63) (k:=10) (x:="_law_script") (CX:=λ_=>DG) (sp:=λw=>Y7 (K w.params) yO) I (by decide) m ⟨rfl,by decide,by decide⟩ O A j F
  (λ_ H a ns J o U=>⟨λa=>H a=af,[.gK ns],λd=>d=.bl ae,λ_ h=>h,⟨_,_,rfl,⟨a,rfl,Vm o U⟩,rfl⟩,⟨_,P5 ns J,rfl⟩,λv H' d _ L e=>by subst e;show L⟩) λ_ _ _ _ _ z=>z
end K33
open PySem.W PyProof.Rows
structure PySem.W.Fast:Prop where(tw6041645010670915138 tw745852808767999283 tw17312605175447491227 tw9605089512008494626 tw9137107376504570693 tw1909981626161114578 tw6358872578755818850 tw18039195192263607416 tw2354880269333113059 tw15737629681764025659 tw6379869460540488018 tw14799559173858655866 tw13619654356888710391 tw3957480995651946073 tw13133485781603026339 tw8173583334836301348 tw7165346580126366304 tw12767703258549293499 tw14225800767557148346 tw15480315433677275230 tw17680133118150193274 tw4547972172812828566 tw2432224651634528029 tw13498261587620941452 tw18052177124441048931 tw10039199556286369644 tw7786143521331459379 tw13861654420846361454 tw16067894647442716541 tw17090098824133069480 tw13586466932371258191 tw10662978005628808660 tw2538229952343252551 tw17887496584944248436 tw13824060451741847798 tw15020554810894774793 tw7137036208428074766 tw2553315081529299275 tw16937637731671827365 tw16649394773976056935 tw5926728031014376881 tw13388775954396752762 tw11124037086376323811 tw6730845333528864509 tw11926737899078749415 tw2910152829062658505 tw16067878286538551751 tw7098002339114756585 tw2866009974396078787 tw15055766447240351709 tw8966432957509508150 tw6596613810942609656 tw6201665797479582199 tw9549529909715291321 tw872466021701255738 tw16621063839227947004 tw2475489924830631519 tw537040985626763364 tw13197350199107559770 tw11110844482778127808 tw6728374239813312883 tw16347966116491976845 tw15636347816115378842 tw12523276396362201576 tw12196415574844537867 tw10372772832844864823 tw10151764882357599612 tw10790716219929835008 tw6300221714877801452 tw1592633826332399680 tw6564127191795755056 tw13324143028613973361 tw3756440433440621267 tw175493855064017732 tw604274739505269396 tw14358794625421417639 tw6321431140104993003 tw83585893440380485 tw16791381551854337142 tw5813764409201400704 tw13466852407419409541 tw3848584680705346689 tw16278435774074473243 tw12351117532082569545 tw7897014267612021119 tw15016482910180218219 tw17195325593150108688 tw3147183452113450842 tw8169452234853777400 tw5146664351469115566 tw3670171555900317007 tw12084258860618537785 tw15912012650851990996 tw6168216410964424741 tw2957957162374569957 tw13082982635239743717 tw15684615988308779469 tw3902664184396903920 tw13036036042428925842 tw5306840020462545308 tw8411815310203143262 tw16634020147514979006 tw6779213345467548538 tw2846517692073297408 tw5462306654653573949 tw17141873345437939766 tw17138342699872868032 tw10446497771771271123 tw5317403629647615115 tw3786923400912200496 tw55825613203964150 tw3901630495668106611 tw9656122240747411306 tw3528957545195627319 tw9067328915953330256 tw5191887880284789303 tw15437909155713341107 tw15042347551213538511 tw12514863227612234579 tw727399355455302809 tw5217174473067824252 tw12618333820844796498 tw7662108241190400244 tw4002439832219184247 tw9835965724446278354 tw15190087406749761762 tw11980125385145128192 tw15435081692786921784 tw7250808726400595783 tw14643583604757384815 tw10466259588353037537 tw13927354674782834012 tw3656683714161216229 tw5656302485722499726 tw16636766646024059228 tw1876386002375764247 tw15359722272367317894 tw7358956531772183404 tw1844950425547165125 tw5215999879990260464 tw10006473651117420571 tw3001039297770302970 tw6445242794047313594 tw4116542875131997105 tw4376048277545822696 tw12716775831423482116 tw12746657076564173910 tw912149739106609006 tw1934136250968063061 tw7449640133459196787 tw8716763067792944964 tw1048142156616784845 tw5162855804533421681 tw8896511924900050350 tw16455509063853317920 tw7272614037626557383 tw1166765360581606006 tw11752625893152056991 tw13783791200479850047 tw13268071667809607525 tw16912403235180448556 tw11126616827407315245 tw4981916840373287955 tw14584559015973152768 tw2731950247465870611 tw4954852887855159292 tw12082263869329921991 tw17311368709754833165 tw18361570711345406130 tw7736762397465645739 tw13859536241454600808 tw5861733025940853398 tw16886441999360365214 tw12396272147347201239 tw5860339534506662883 tw5428909522905541229 tw12159591114230498224 tw15071517127481813526 tw9463012216320041891 tw17664864065184851950 tw9550151654745520565 tw7329827386177679336 tw795228249008956878 tw2162332563389426211 tw647953346452466501 tw18359460900835085478 tw10110469538113397550 tw11306208147568475823 tw13719097238043804777 tw2509029849389577953 tw10161746800651788011 tw5142329371544807279 tw4357977297967768757 tw6903579742179208510 tw3440086923245554817 tw2065259022918638456 tw12569484563999369671 tw14545077029986779909 tw12344825737769821222 tw7847341926023798152 tw764679492248174864 tw13442095560551302131 tw9710979312865922444 tw15741778333768669029 tw7754569391107626833 tw9657245955290368008 tw13518419196847517553 tw13722582507884630567 tw7521628805267613728 tw3577246218926479929 tw5816219755340597167 tw2339671399935832168 tw8482428897482131260 tw15788275252822122883 tw6833669027350785984 tw4162462921551223276 tw13328997692038990139 tw3066180272337429307 tw16909282164869469841 tw9661405511562141998 tw16032614835661516302 tw15978460733486388126 tw12964320093591506565 tw3962731249048160774 tw8486834062929869326 tw7503829645689380114 tw13296516253304331311 tw16346459005549713905 tw8064473351290422808 tw13633439105170454702 tw15763016600522968112 tw14193678777705210147 tw12111985370344552902 tw16903791250842653964 tw17695328515302321537 tw1769384222567617806 tw16220117951045087496 tw753142946685795877 tw16310734991837216533 tw3962199980890076538 tw1846266600815514399 tw16877496641624259007 tw4709396934061640604 tw7609448800574364266 tw13168866520243819366 tw3390374682170138990 tw12615814323130876785 tw5556310584528867942 tw4996892436786646441 tw5810926921237260411 tw16683880931282914578 tw4236899350007005412 tw13472232847986199508 tw463155036544395680 tw16075338075396820255 tw3867587069703481498 tw2366980488293995587 tw421949356728062604 tw12082343486658623354 tw3155705958545573660 tw6180409026047762502 tw7748262095635666197 tw16717238656796892814 tw8142041944680356224 tw6992679950738180631 tw16498525474093213517 tw11690946091210520879 tw5122445475558498115:True)
set_option maxRecDepth 100000 in
set_option maxHeartbeats 0 in
theorem PySem.Challenge.cw_risecount_k33_looker_wrong_holds : PySem.Challenge.rw_risecount_k33_looker_wrong.Holds := by
 w_on; o_law; k_head; (case hw=>w_witness2)
 k_fill
 show K33.walk (l := PySem.Challenge.rw_risecount_k33_looker_wrong) rfl rfl (fun w h Y => PySem.W.kIn_of Y) ?hTbs ?hNtb ?F
 case hTbs =>
  intro w
  refine' L4.tabs_ok (L4.NX ?t1 ?t2 ?t3 ?t4 ?t5) ?nd ?rc
  (case t1=>(refine' L4.nL ?p1; (case p1=>k_is)))
  (case t2=>(refine' L4.nL ?p1; (case p1=>k_is)))
  (case t3=>(refine' L4.nL ?p1; (case p1=>k_is)))
  (case t4=>(refine' L4.nL ?p1; (case p1=>k_is)))
  (case t5=>(refine' L4.nL ?p1; (case p1=>k_is)))
  (case nd=>decide)
  (case rc=>(intro t n; cases n))
 case hNtb =>
  intro w
  kernel_rfl
 case F =>
  intro w mg o h KX G m
  refine' K33.all_mk m ⟨?w8,?sI,?pO,?w9,?sJ,?pP,?kH,?_,?_,?_,?_,?_,?_,?_,?_,?_,?_,?_,?_,?_,?_,?_,?_,?_,?_,?_,?_,?_,?_,?_,?_,?_,?_,?_,?_,?_,?_,?_,?_,?_,?_,?_,?_,?_,?_,?_,?_,?_,?_,?_,?_,?_,?_,?_,?_,?_,?_⟩
  (case' w8 | sI | pO | kH=>show PySem.W.mg_of KX G (by k_is))
  (case' w9 | sJ | pP=>show L5.W5 (by k_exc))
  all_goals first | show PySem.W.mg_none_of KX G (by k_is) | (refine' L4.aE4 KX G ?b ?a ?l ?c ?k; (case a=>k_is); (case l=>k_is); (case c=>k_is); (case k=>k_is); (case b=>(intro d j; first | (obtain ⟨_,rfl⟩:=L4.XR d j; rfl) | (obtain ⟨_,_,rfl⟩:=L4.XS d j; rfl) | (obtain ⟨_,_,_,rfl⟩:=L4.XT d j; rfl) | (obtain ⟨_,_,_,_,rfl⟩:=L4.aGP d j; rfl) | (obtain ⟨_,_,_,_,_,rfl⟩:=L4.aGQ d j; rfl) | (obtain ⟨_,_,_,_,_,_,rfl⟩:=L4.XU d j; rfl))))
end
