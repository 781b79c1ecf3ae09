import PyProof.Rows.All
import Wide.All
import OpenK.AllK
import PySem.Challenge.RW_hushduel_k15_what_is_not_sound
set_option compiler.extract_closed false
set_option compiler.extract_closed false
set_option genSizeOf false
set_option bootstrap.genMatcherCode false
local macro_rules|`(tactic|simp_wf)=>`(tactic|first|exact Or.inl rfl|exact Or.inr (Or.inl rfl)|exact Or.inr (Or.inr rfl))
local macro_rules|`(tactic|clean_wf)=>`(tactic|first|exact .inl rfl|exact .inr rfl|assumption)
noncomputable section
open PySem renaming wpAny_bind->ae,starEach->ag,wpAny_pure->av,sizeLine->aw,Value->aI,Shared->a7,Program->b9,wpAny->cb,bootBuiltins->cx,model->cK,mainGlobals->dQ,World->eI,Around->eJ,swapsWith->eM,wpAny_newObj_type->fw,wpAny_loadPart_at->fA,wpAny_mono->gN,wpAny_Call_Name_kw->hJ,attributeBase->ib,backTo->ij,foldedSetIterable->ip,compareOp->iq,FuncData->iA,wpAny_call_entry->iN,wpAny_field->iS,wpAny_holding->i7,assignEach->ja,wpAny_typeNameOfWhole_valiter->js,wpAny_callSpecial?_slot->ka,sysModules->kc,binaryOp->ko,Paired->kL,wpAny_truthy_bool->kM,wpAny_passesOwn->kP,wpAny_typeNameOf_valiter->kU,swapsWithSole->lh,swappedStores->lj,mem_of_lookup->lI,wpAny_setField->l8,wpAny_specialOf->mf,wpAny_execs_nil->mh,sliceBounds->ml,wpAny_isOneOf_valiter->mw,wpAny_standAt->mM,wpAny_pyIter_list->mP,codeAny_call_builtin->nz,wpAny_isInstance->nN,NameKind->nS,keywordEach->og,Keyword->om,behindInMarks->pd,wpAny_pyNext_list_item->pV,holding->qq,wpAny_dictEntries->qB,plainObj_wpAny_Assign_Attribute->rj,GenState->rV,wpAny_pyIter_listiter->r6,codeAny_mono->r9,assign->sF,cLine->tj,sizeLine_eq->tw,PyData->tF,wpAny_newFunctionEnv_cells->uu,wpAny_seqItems->wq,Scope->wx,wpAny_fieldsOf->xa,firstArgMember->xb,wpAny_rule->xo,slot_list_getitem->xy,typeIs_str->xA,wpAny_getItem_list_slice->xB,wpAny_comprehension_free->xC,backToKw->yk,wpAny_attempt->yT,wpAny_execs_cons->y7,noFill_tuple_add->ze,PassesOwn->zI,letOwnedTupleGo->zS,rawInt->Ap,concat_meets->As,getItem->Au,ExcBaseFacts->AD,wpAny_dictEpoch->AL,wpAny_call->AQ,typeLookup->AR,recursionLimit->AY,wpAny_loadPart->AZ,dictSetDefault->A2,isSubtype_stop->A3,IsRangeIter->A6,codeAny->A7,subscripted->A8,excClassObj->Bi,assignInOrder->BG,pyNext->BH,cellsFrom->BM,seq_tuple_add->BO,evalPart_none->BQ,isInstance->B5,BindsTo->B6,call_meets->B9,callerA->Cc,Builtin->Cn,valueAt->Co,IsPart->CF,atKey->CS,bindName->CU,standAt->C1,setItem->C2,call->DB,JoinOk->DD,bindL->DJ,bindC->DL
open List renaming mem_cons_of_mem->af,mem_cons_self->ai,map_cons->ar,getElem?_eq_getElem->ay,length_map->aE,getElem?_map->aT,mem_cons->a9,size_toArray->bo,length_append->bq,getElem?_set_self->br,mem_append->bE,map_append->bP,getElem?_set_ne->bX,length_cons->cm,getD_eq_getElem?_getD->cp,mem_singleton->cS,append_nil->c9,range->dc,getElem?_eq_some_iff->dn,getElem?_append_left->dr,mem_of_getElem?->dy,replicate->dA,getElem?_append_right->dE,mem_map->d4,mem_append_right->eD,length_singleton->eS,map_map->fg,mem_of_mem_take->fq,append_assoc->gu,length_replicate->gL,getElem?_replicate->gS,mem_of_mem_drop->hG,mem_filter->ix,take_of_length_le->iP,sum_cons->i8,range_eq_range'->jI,map_congr_left->ki,length_take->kq,length_drop->kr,mem_filterMap->kB,any_cons->kC,length_filter_le->kG,mem_range->kH,reverse_cons->kS,find?_cons->kT,lookup->l4,lookup_cons->l6,range'_succ->l7,getElem?_eq_none->mo,all_cons->mE,length_range->nt,drop_eq_getElem_cons->nK,getElem_mem->nV,filterMap_cons->nX,zipIdx_map_fst->oo,mem_map_of_mem->oq,sum_append_nat->oy,any_map->oC,nodup_cons->pf,length_set->pw,foldl_cons->pS,any_eq_false->qr,length->qA,flatMap_cons->qS,range'->qV,map_id->rf,pairwise_map->rg,map_set->sx,flatMap_nil->sC,mem_append_left->sD,map_take->sQ,map_drop->sR,nil_append->tf,of_mem_zip->tz,getElem?_range->tP,reverse_append->ua,map_nil->vF,getElem?_drop->v3,pairwise_iff_getElem->xi,getElem?_take_of_lt->xw,map_reverse->zk,range_succ_eq_map->zo,length_nil->AE,forIn_cons->AF,dropLast_eq_take->AH,take_append_drop->AO,flatMap_append->Bz,map->DI
open PySem.Heap renaming get?_push_of_some->ah,lt_size->aS,get?_push_size->bp,get?_update_other->c4,get?_update_self->eP,get?_update_ne->kl,SameBut->kA,get?_push_ne->rh,MadeExcOf->w8,get?_none_of_le->AU,size_push->A1,ExtBut->C6
open Bool renaming false_ne_true->a8,and_eq_true->ia,false_eq_true->i9,or_eq_true->pE,eq_iff_iff->tq,false_or->yy,not_eq_true->zh
open Nat renaming le_refl->bb,ne_of_lt->b0,lt_of_lt_of_le->cf,le_trans->dS,zero_le->eK,lt_irrefl->fS,succ_le_succ->ic,pow_le_pow_right->jv,lt_succ_of_lt->kX,ne_of_gt->rX,strongRecOn->ub,zero_add->vv,lt_of_le_of_lt->wm,add_assoc->ya,le_succ->yA,lt_succ_self->zi,le_of_lt->zC,le_of_dvd->B0,le_of_eq->CH,gcd_comm->CL,pow_succ->CM,Coprime->C7
open PySem.W renaming Frag->bg,findIn->d5,kitOne->h9,kia_one->kg,hideAll_get->la,mg_of->l5,looks_findIn->l9,keepIn->mS,nsIn->so,callWith_K->vE,exmOne->vS,looks_subIn->yn,looks_clsIn->y6,cellsFrom_some->y8,fnOf->y9,of_hideAll->zw,any_some->AS,kitOne->A5,hideAll->BF,codeIn->BN,clsIn->Cf,isNs_of_in->CI,kitAny->CY,excIn->DF
open PySem.Value renaming ref->cq,none->fN,builtin->jS,bool->qk,int->BA,str->BB
open Rat renaming divInt->cw,num_divInt_den->iL,divInt_eq_div->nh,divInt_eq_divInt_iff->oP,divInt_add_divInt->AN,add_assoc->B2,div_def->C8,neg_num->Dx,neg_den->DA
open Option.some renaming inj->cE
open PySem.Str renaming ofString->dP,ofString_eq_toList->zv,empty->C5
open Or renaming inl->eB,inr->eC
open Classical renaming choose_spec->eT,choose->ku,em->sg
open Ne renaming symm->eW
open PyProof.Rows renaming callWith_type1->fy,slot_tuple_getitem->kQ,envOfC->sL,assignInOrder_cons->vx,kindOf->xt,AllBare->yb,subscriptTail->yi,Subscript_->B7
open PySem.F renaming slot_dict_valueiterator_next->fF,plainAttrs_list->iF,slot_tuple_hash->k9,args_dict_valueiterator_next_1->nc,excAttr_ValueError->nB,entry_dict_valueiterator_next->nE,args_tuple_add_2->oz,entry_tuple_add->pj,slot_tuple_iterator_next->pT,slot_tuple_add->p9,typeOf_object_class->sf,slot_dict_values_iter->sA,slot_dict_setdefault->sP,excBase_ValueError->ve,slot_list_append->xD,type_list_append->xE,slot_dict_values->x6,slot_list_insert->x9,plainAttrs_dict->yB,slot_list_pop->AI,type_list_pop->AJ,slot_int_mul->AX,slot_gs_get->BU
open True renaming intro->fR
open False renaming elim->fT
open PySem.PyData renaming eqv->gi,strOk->gE,eqvAll->kF,canLay0->nL,str->rL,depth->sj,canLayAll0->x8,depthAll->AM,int->DE
open PySem.SeqAt renaming shaped->gv
open Option renaming bind_eq_some_iff->gT,map_some->iE,map_eq_some_iff->qh,isSome_map->Ct
open Array renaming getElem?_eq_some_iff->gX,append_assoc->oQ,length_toList->tm,getElem?_eq_getElem->w9,toList->zD,forIn_toList->BE,find?_toList->BI
open Int renaming emod_lt_of_pos->hU,emod_nonneg->hZ,fdiv_eq_ediv_of_nonneg->iO,natAbs_dvd_natAbs->kD,mul_comm->mB,toNat_natCast->mT,mul_assoc->ng,toNat_of_nonneg->ui,eq_of_mul_eq_mul_right->vi,gcd->xh,eq_ofNat_of_zero_le->yY,natAbs_mul->A4,ediv_one->CD,le_trans->CO,mul_one->C4,mul_pos->C9
open PySem.Builtin.Tuple renaming tupleHashOf->hV,tupleExact->kR,tupleItemsOf->uj
open PySem.Heap.SameBut renaming update->iX
open PySem.Builtin.Slice renaming slicePlaces->kK,sliceAdjust->nI,sliceApplied->uS
open PySem.PassesOwn renaming leaving->k8
open PySem.Builtin.Range renaming rangeSize->ly
open PySem.Builtin.Int renaming intBits->lP,intTooBig->AA
open PySem.Obj renaming mapFields->lT,data_mapFields->pz,mapSeq->sT,isFreed_of_fields->AB,data_mapDictKeys->AW
open PySem.Builtin.Dict_items renaming ownsTuple->me
open PySem.Builtin.List renaming listExtendWith->mr,listTooLong->oB,listFitsIndex->vj,listSameRef->xI,listItems->zt
open PySem.Paired renaming length->mI
open PySem.Builtin.Str renaming occurrences->oT,tooLong->Bn
open PySem.Calls renaming spliced_cons->pe,callWith_builtin->qc,evalArgs_plain->sM,Name_function_global->uk,spliced_nil->xp
open Char renaming toNat->qE
open Exists renaming imp->rS
open PySem.W.Looks renaming here->sv
open PySem.NameKind renaming free->sN
open ForInStep renaming yield->tJ
open PySem.Code renaming quiet_builtin->vT,isFrame->CC
open PySem.Txt renaming slice->AG,join->BY,mul->DH
open PySem.Builtin.Dict renaming showsAll->AK
open PySem.Around renaming frames_deeper->AV,under->CB
open PySem.EntryCells renaming newEntry->A9
open PySem.SeqAt.EqAt renaming int_str->BC,str_int->BD,same->C0
open PySem.Heap.IsSliceOf renaming new->BS
open Prod renaming fst->B1
open Sum renaming inl->B3,inr->B4
open PySem.StrLaws renaming sliceText->CA
open PySem.Data renaming fields->C3
theorem YV(a:True:=by clean_wf):True:=a
def iv:=YV._auto_1
theorem YY(a:True:=by decide):True:=a
def YI:=YY._auto_1
theorem Y1(a:True:=by intro _;rfl):True:=a
def YN:=Y1._auto_1
theorem Y2(a:True:=by rfl):True:=a
def YO:=Y2._auto_1
theorem Y3(a:True:=by simp_wf):True:=a
def YR:=Y3._auto_1
theorem ZA(a:True:=by first|exact .inl rfl|exact .inr rfl):True:=a
def YU:=ZA._auto_1
abbrev hD:=PySem.Addr->Prop
abbrev eR:=PySem.Str->Option PySem.Value
abbrev Zp:=List<|PySem.Addr×PySem.Obj
abbrev Zs:=PySem.Value->PySem.Shared->Prop
theorem ZI{P0 P1 P2:Prop}{Z:Prop}(h:P0/\P1/\P2)(f:P0->P1->P2->Z):Z:=by
 obtain⟨p0,p1,p2⟩:=h;exact f p0 p1 p2
theorem ZN{P0 P1 P2 P3:Prop}{Z:Prop}(h:P0/\P1/\P2/\P3)(f:P0->P1->P2->P3->Z):Z:=by
 obtain⟨p0,p1,p2,p3⟩:=h;exact f p0 p1 p2 p3
theorem Z_05{P0 P1 P2 P3 P4:Prop}{Z:Prop}(h:P0/\P1/\P2/\P3/\P4)(f:P0->P1->P2->P3->P4->Z):Z:=by
 obtain⟨p0,p1,p2,p3,p4⟩:=h;exact f p0 p1 p2 p3 p4
theorem Z_06{P0 P1 P2 P3 P4 P5:Prop}{Z:Prop}(h:P0/\P1/\P2/\P3/\P4/\P5)(f:P0->P1->P2->P3->P4->P5->Z):Z:=by
 obtain⟨p0,p1,p2,p3,p4,p5⟩:=h;exact f p0 p1 p2 p3 p4 p5
theorem oj{A0:Sort _}{P0 P1:A0->Prop}{Z:Prop}(h:∃x0,P0 x0/\P1 x0)(f:∀x0,P0 x0->P1 x0->Z):Z:=by
 obtain⟨x0,p0,p1⟩:=h;exact f x0 p0 p1
theorem o5{A0:Sort _}{P0 P1 P2:A0->Prop}{Z:Prop}(h:∃x0,P0 x0/\P1 x0/\P2 x0)(f:∀x0,P0 x0->P1 x0->P2 x0->Z):Z:=by
 obtain⟨x0,p0,p1,p2⟩:=h;exact f x0 p0 p1 p2
theorem ZB{A0:Sort _}{P0 P1 P2 P3:A0->Prop}{Z:Prop}(h:∃x0,P0 x0/\P1 x0/\P2 x0/\P3 x0)(f:∀x0,P0 x0->P1 x0->P2 x0->P3 x0->Z):Z:=by
 obtain⟨x0,p0,p1,p2,p3⟩:=h;exact f x0 p0 p1 p2 p3
theorem Z_15{A0:Sort _}{P0 P1 P2 P3 P4:A0->Prop}{Z:Prop}(h:∃x0,P0 x0/\P1 x0/\P2 x0/\P3 x0/\P4 x0)(f:∀x0,P0 x0->P1 x0->P2 x0->P3 x0->P4 x0->Z):Z:=by
 obtain⟨x0,p0,p1,p2,p3,p4⟩:=h;exact f x0 p0 p1 p2 p3 p4
theorem ZU{A0 A1:Sort _}{P0:A0->A1->Prop}{Z:Prop}(h:∃x0 x1,P0 x0 x1)(f:∀x0 x1,P0 x0 x1->Z):Z:=by
 obtain⟨x0,x1,p0⟩:=h;exact f x0 x1 p0
theorem Y'{A0 A1:Sort _}{P0 P1:A0->A1->Prop}{Z:Prop}(h:∃x0 x1,P0 x0 x1/\P1 x0 x1)(f:∀x0 x1,P0 x0 x1->P1 x0 x1->Z):Z:=by
 obtain⟨x0,x1,p0,p1⟩:=h;exact f x0 x1 p0 p1
theorem Y_{A0 A1:Sort _}{P0 P1 P2:A0->A1->Prop}{Z:Prop}(h:∃x0 x1,P0 x0 x1/\P1 x0 x1/\P2 x0 x1)(f:∀x0 x1,P0 x0 x1->P1 x0 x1->P2 x0 x1->Z):Z:=by
 obtain⟨x0,x1,p0,p1,p2⟩:=h;exact f x0 x1 p0 p1 p2
theorem ZE{A0 A1:Sort _}{P0 P1 P2 P3:A0->A1->Prop}{Z:Prop}(h:∃x0 x1,P0 x0 x1/\P1 x0 x1/\P2 x0 x1/\P3 x0 x1)(f:∀x0 x1,P0 x0 x1->P1 x0 x1->P2 x0 x1->P3 x0 x1->Z):Z:=by
 obtain⟨x0,x1,p0,p1,p2,p3⟩:=h;exact f x0 x1 p0 p1 p2 p3
theorem Z'{A0 A1:Sort _}{P0 P1 P2 P3 P4:A0->A1->Prop}{Z:Prop}(h:∃x0 x1,P0 x0 x1/\P1 x0 x1/\P2 x0 x1/\P3 x0 x1/\P4 x0 x1)(f:∀x0 x1,P0 x0 x1->P1 x0 x1->P2 x0 x1->P3 x0 x1->P4 x0 x1->Z):Z:=by
 obtain⟨x0,x1,p0,p1,p2,p3,p4⟩:=h;exact f x0 x1 p0 p1 p2 p3 p4
theorem Z_26{A0 A1:Sort _}{P0 P1 P2 P3 P4 P5:A0->A1->Prop}{Z:Prop}(h:∃x0 x1,P0 x0 x1/\P1 x0 x1/\P2 x0 x1/\P3 x0 x1/\P4 x0 x1/\P5 x0 x1)(f:∀x0 x1,P0 x0 x1->P1 x0 x1->P2 x0 x1->P3 x0 x1->P4 x0 x1->P5 x0 x1->Z):Z:=by
 obtain⟨x0,x1,p0,p1,p2,p3,p4,p5⟩:=h;exact f x0 x1 p0 p1 p2 p3 p4 p5
theorem Z_31{A0 A1 A2:Sort _}{P0:A0->A1->A2->Prop}{Z:Prop}(h:∃x0 x1 x2,P0 x0 x1 x2)(f:∀x0 x1 x2,P0 x0 x1 x2->Z):Z:=by
 obtain⟨x0,x1,x2,p0⟩:=h;exact f x0 x1 x2 p0
theorem Z_32{A0 A1 A2:Sort _}{P0 P1:A0->A1->A2->Prop}{Z:Prop}(h:∃x0 x1 x2,P0 x0 x1 x2/\P1 x0 x1 x2)(f:∀x0 x1 x2,P0 x0 x1 x2->P1 x0 x1 x2->Z):Z:=by
 obtain⟨x0,x1,x2,p0,p1⟩:=h;exact f x0 x1 x2 p0 p1
theorem Z_{A0 A1 A2:Sort _}{P0 P1 P2:A0->A1->A2->Prop}{Z:Prop}(h:∃x0 x1 x2,P0 x0 x1 x2/\P1 x0 x1 x2/\P2 x0 x1 x2)(f:∀x0 x1 x2,P0 x0 x1 x2->P1 x0 x1 x2->P2 x0 x1 x2->Z):Z:=by
 obtain⟨x0,x1,x2,p0,p1,p2⟩:=h;exact f x0 x1 x2 p0 p1 p2
theorem ZO{A0 A1 A2:Sort _}{P0 P1 P2 P3:A0->A1->A2->Prop}{Z:Prop}(h:∃x0 x1 x2,P0 x0 x1 x2/\P1 x0 x1 x2/\P2 x0 x1 x2/\P3 x0 x1 x2)(f:∀x0 x1 x2,P0 x0 x1 x2->P1 x0 x1 x2->P2 x0 x1 x2->P3 x0 x1 x2->Z):Z:=by
 obtain⟨x0,x1,x2,p0,p1,p2,p3⟩:=h;exact f x0 x1 x2 p0 p1 p2 p3
theorem ZY{A0 A1 A2:Sort _}{P0 P1 P2 P3 P4:A0->A1->A2->Prop}{Z:Prop}(h:∃x0 x1 x2,P0 x0 x1 x2/\P1 x0 x1 x2/\P2 x0 x1 x2/\P3 x0 x1 x2/\P4 x0 x1 x2)(f:∀x0 x1 x2,P0 x0 x1 x2->P1 x0 x1 x2->P2 x0 x1 x2->P3 x0 x1 x2->P4 x0 x1 x2->Z):Z:=by
 obtain⟨x0,x1,x2,p0,p1,p2,p3,p4⟩:=h;exact f x0 x1 x2 p0 p1 p2 p3 p4
theorem Z_36{A0 A1 A2:Sort _}{P0 P1 P2 P3 P4 P5:A0->A1->A2->Prop}{Z:Prop}(h:∃x0 x1 x2,P0 x0 x1 x2/\P1 x0 x1 x2/\P2 x0 x1 x2/\P3 x0 x1 x2/\P4 x0 x1 x2/\P5 x0 x1 x2)(f:∀x0 x1 x2,P0 x0 x1 x2->P1 x0 x1 x2->P2 x0 x1 x2->P3 x0 x1 x2->P4 x0 x1 x2->P5 x0 x1 x2->Z):Z:=by
 obtain⟨x0,x1,x2,p0,p1,p2,p3,p4,p5⟩:=h;exact f x0 x1 x2 p0 p1 p2 p3 p4 p5
theorem Z_37{A0 A1 A2:Sort _}{P0 P1 P2 P3 P4 P5 P6:A0->A1->A2->Prop}{Z:Prop}(h:∃x0 x1 x2,P0 x0 x1 x2/\P1 x0 x1 x2/\P2 x0 x1 x2/\P3 x0 x1 x2/\P4 x0 x1 x2/\P5 x0 x1 x2/\P6 x0 x1 x2)(f:∀x0 x1 x2,P0 x0 x1 x2->P1 x0 x1 x2->P2 x0 x1 x2->P3 x0 x1 x2->P4 x0 x1 x2->P5 x0 x1 x2->P6 x0 x1 x2->Z):Z:=by
 obtain⟨x0,x1,x2,p0,p1,p2,p3,p4,p5,p6⟩:=h;exact f x0 x1 x2 p0 p1 p2 p3 p4 p5 p6
theorem Z_41{A0 A1 A2 A3:Sort _}{P0:A0->A1->A2->A3->Prop}{Z:Prop}(h:∃x0 x1 x2 x3,P0 x0 x1 x2 x3)(f:∀x0 x1 x2 x3,P0 x0 x1 x2 x3->Z):Z:=by
 obtain⟨x0,x1,x2,x3,p0⟩:=h;exact f x0 x1 x2 x3 p0
theorem Z_42{A0 A1 A2 A3:Sort _}{P0 P1:A0->A1->A2->A3->Prop}{Z:Prop}(h:∃x0 x1 x2 x3,P0 x0 x1 x2 x3/\P1 x0 x1 x2 x3)(f:∀x0 x1 x2 x3,P0 x0 x1 x2 x3->P1 x0 x1 x2 x3->Z):Z:=by
 obtain⟨x0,x1,x2,x3,p0,p1⟩:=h;exact f x0 x1 x2 x3 p0 p1
theorem Z_43{A0 A1 A2 A3:Sort _}{P0 P1 P2:A0->A1->A2->A3->Prop}{Z:Prop}(h:∃x0 x1 x2 x3,P0 x0 x1 x2 x3/\P1 x0 x1 x2 x3/\P2 x0 x1 x2 x3)(f:∀x0 x1 x2 x3,P0 x0 x1 x2 x3->P1 x0 x1 x2 x3->P2 x0 x1 x2 x3->Z):Z:=by
 obtain⟨x0,x1,x2,x3,p0,p1,p2⟩:=h;exact f x0 x1 x2 x3 p0 p1 p2
theorem Z_44{A0 A1 A2 A3:Sort _}{P0 P1 P2 P3:A0->A1->A2->A3->Prop}{Z:Prop}(h:∃x0 x1 x2 x3,P0 x0 x1 x2 x3/\P1 x0 x1 x2 x3/\P2 x0 x1 x2 x3/\P3 x0 x1 x2 x3)(f:∀x0 x1 x2 x3,P0 x0 x1 x2 x3->P1 x0 x1 x2 x3->P2 x0 x1 x2 x3->P3 x0 x1 x2 x3->Z):Z:=by
 obtain⟨x0,x1,x2,x3,p0,p1,p2,p3⟩:=h;exact f x0 x1 x2 x3 p0 p1 p2 p3
theorem ZH{A0 A1 A2 A3:Sort _}{P0 P1 P2 P3 P4:A0->A1->A2->A3->Prop}{Z:Prop}(h:∃x0 x1 x2 x3,P0 x0 x1 x2 x3/\P1 x0 x1 x2 x3/\P2 x0 x1 x2 x3/\P3 x0 x1 x2 x3/\P4 x0 x1 x2 x3)(f:∀x0 x1 x2 x3,P0 x0 x1 x2 x3->P1 x0 x1 x2 x3->P2 x0 x1 x2 x3->P3 x0 x1 x2 x3->P4 x0 x1 x2 x3->Z):Z:=by
 obtain⟨x0,x1,x2,x3,p0,p1,p2,p3,p4⟩:=h;exact f x0 x1 x2 x3 p0 p1 p2 p3 p4
theorem Z_46{A0 A1 A2 A3:Sort _}{P0 P1 P2 P3 P4 P5:A0->A1->A2->A3->Prop}{Z:Prop}(h:∃x0 x1 x2 x3,P0 x0 x1 x2 x3/\P1 x0 x1 x2 x3/\P2 x0 x1 x2 x3/\P3 x0 x1 x2 x3/\P4 x0 x1 x2 x3/\P5 x0 x1 x2 x3)(f:∀x0 x1 x2 x3,P0 x0 x1 x2 x3->P1 x0 x1 x2 x3->P2 x0 x1 x2 x3->P3 x0 x1 x2 x3->P4 x0 x1 x2 x3->P5 x0 x1 x2 x3->Z):Z:=by
 obtain⟨x0,x1,x2,x3,p0,p1,p2,p3,p4,p5⟩:=h;exact f x0 x1 x2 x3 p0 p1 p2 p3 p4 p5
theorem Z_48{A0 A1 A2 A3:Sort _}{P0 P1 P2 P3 P4 P5 P6 P7:A0->A1->A2->A3->Prop}{Z:Prop}(h:∃x0 x1 x2 x3,P0 x0 x1 x2 x3/\P1 x0 x1 x2 x3/\P2 x0 x1 x2 x3/\P3 x0 x1 x2 x3/\P4 x0 x1 x2 x3/\P5 x0 x1 x2 x3/\P6 x0 x1 x2 x3/\P7 x0 x1 x2 x3)(f:∀x0 x1 x2 x3,P0 x0 x1 x2 x3->P1 x0 x1 x2 x3->P2 x0 x1 x2 x3->P3 x0 x1 x2 x3->P4 x0 x1 x2 x3->P5 x0 x1 x2 x3->P6 x0 x1 x2 x3->P7 x0 x1 x2 x3->Z):Z:=by
 obtain⟨x0,x1,x2,x3,p0,p1,p2,p3,p4,p5,p6,p7⟩:=h;exact f x0 x1 x2 x3 p0 p1 p2 p3 p4 p5 p6 p7
theorem ZT{A0 A1 A2 A3 A4:Sort _}{P0 P1:A0->A1->A2->A3->A4->Prop}{Z:Prop}(h:∃x0 x1 x2 x3 x4,P0 x0 x1 x2 x3 x4/\P1 x0 x1 x2 x3 x4)(f:∀x0 x1 x2 x3 x4,P0 x0 x1 x2 x3 x4->P1 x0 x1 x2 x3 x4->Z):Z:=by
 obtain⟨x0,x1,x2,x3,x4,p0,p1⟩:=h;exact f x0 x1 x2 x3 x4 p0 p1
theorem Z_53{A0 A1 A2 A3 A4:Sort _}{P0 P1 P2:A0->A1->A2->A3->A4->Prop}{Z:Prop}(h:∃x0 x1 x2 x3 x4,P0 x0 x1 x2 x3 x4/\P1 x0 x1 x2 x3 x4/\P2 x0 x1 x2 x3 x4)(f:∀x0 x1 x2 x3 x4,P0 x0 x1 x2 x3 x4->P1 x0 x1 x2 x3 x4->P2 x0 x1 x2 x3 x4->Z):Z:=by
 obtain⟨x0,x1,x2,x3,x4,p0,p1,p2⟩:=h;exact f x0 x1 x2 x3 x4 p0 p1 p2
theorem Z_55{A0 A1 A2 A3 A4:Sort _}{P0 P1 P2 P3 P4:A0->A1->A2->A3->A4->Prop}{Z:Prop}(h:∃x0 x1 x2 x3 x4,P0 x0 x1 x2 x3 x4/\P1 x0 x1 x2 x3 x4/\P2 x0 x1 x2 x3 x4/\P3 x0 x1 x2 x3 x4/\P4 x0 x1 x2 x3 x4)(f:∀x0 x1 x2 x3 x4,P0 x0 x1 x2 x3 x4->P1 x0 x1 x2 x3 x4->P2 x0 x1 x2 x3 x4->P3 x0 x1 x2 x3 x4->P4 x0 x1 x2 x3 x4->Z):Z:=by
 obtain⟨x0,x1,x2,x3,x4,p0,p1,p2,p3,p4⟩:=h;exact f x0 x1 x2 x3 x4 p0 p1 p2 p3 p4
theorem Z_56{A0 A1 A2 A3 A4:Sort _}{P0 P1 P2 P3 P4 P5:A0->A1->A2->A3->A4->Prop}{Z:Prop}(h:∃x0 x1 x2 x3 x4,P0 x0 x1 x2 x3 x4/\P1 x0 x1 x2 x3 x4/\P2 x0 x1 x2 x3 x4/\P3 x0 x1 x2 x3 x4/\P4 x0 x1 x2 x3 x4/\P5 x0 x1 x2 x3 x4)(f:∀x0 x1 x2 x3 x4,P0 x0 x1 x2 x3 x4->P1 x0 x1 x2 x3 x4->P2 x0 x1 x2 x3 x4->P3 x0 x1 x2 x3 x4->P4 x0 x1 x2 x3 x4->P5 x0 x1 x2 x3 x4->Z):Z:=by
 obtain⟨x0,x1,x2,x3,x4,p0,p1,p2,p3,p4,p5⟩:=h;exact f x0 x1 x2 x3 x4 p0 p1 p2 p3 p4 p5
theorem Z_57{A0 A1 A2 A3 A4:Sort _}{P0 P1 P2 P3 P4 P5 P6:A0->A1->A2->A3->A4->Prop}{Z:Prop}(h:∃x0 x1 x2 x3 x4,P0 x0 x1 x2 x3 x4/\P1 x0 x1 x2 x3 x4/\P2 x0 x1 x2 x3 x4/\P3 x0 x1 x2 x3 x4/\P4 x0 x1 x2 x3 x4/\P5 x0 x1 x2 x3 x4/\P6 x0 x1 x2 x3 x4)(f:∀x0 x1 x2 x3 x4,P0 x0 x1 x2 x3 x4->P1 x0 x1 x2 x3 x4->P2 x0 x1 x2 x3 x4->P3 x0 x1 x2 x3 x4->P4 x0 x1 x2 x3 x4->P5 x0 x1 x2 x3 x4->P6 x0 x1 x2 x3 x4->Z):Z:=by
 obtain⟨x0,x1,x2,x3,x4,p0,p1,p2,p3,p4,p5,p6⟩:=h;exact f x0 x1 x2 x3 x4 p0 p1 p2 p3 p4 p5 p6
theorem Z_74{A0 A1 A2 A3 A4 A5 A6:Sort _}{P0 P1 P2 P3:A0->A1->A2->A3->A4->A5->A6->Prop}{Z:Prop}(h:∃x0 x1 x2 x3 x4 x5 x6,P0 x0 x1 x2 x3 x4 x5 x6/\P1 x0 x1 x2 x3 x4 x5 x6/\P2 x0 x1 x2 x3 x4 x5 x6/\P3 x0 x1 x2 x3 x4 x5 x6)(f:∀x0 x1 x2 x3 x4 x5 x6,P0 x0 x1 x2 x3 x4 x5 x6->P1 x0 x1 x2 x3 x4 x5 x6->P2 x0 x1 x2 x3 x4 x5 x6->P3 x0 x1 x2 x3 x4 x5 x6->Z):Z:=by
 obtain⟨x0,x1,x2,x3,x4,x5,x6,p0,p1,p2,p3⟩:=h;exact f x0 x1 x2 x3 x4 x5 x6 p0 p1 p2 p3
theorem Z_81{A0 A1 A2 A3 A4 A5 A6 A7:Sort _}{P0:A0->A1->A2->A3->A4->A5->A6->A7->Prop}{Z:Prop}(h:∃x0 x1 x2 x3 x4 x5 x6 x7,P0 x0 x1 x2 x3 x4 x5 x6 x7)(f:∀x0 x1 x2 x3 x4 x5 x6 x7,P0 x0 x1 x2 x3 x4 x5 x6 x7->Z):Z:=by
 obtain⟨x0,x1,x2,x3,x4,x5,x6,x7,p0⟩:=h;exact f x0 x1 x2 x3 x4 x5 x6 x7 p0
theorem Z_93{A0 A1 A2 A3 A4 A5 A6 A7 A8:Sort _}{P0 P1 P2:A0->A1->A2->A3->A4->A5->A6->A7->A8->Prop}{Z:Prop}(h:∃x0 x1 x2 x3 x4 x5 x6 x7 x8,P0 x0 x1 x2 x3 x4 x5 x6 x7 x8/\P1 x0 x1 x2 x3 x4 x5 x6 x7 x8/\P2 x0 x1 x2 x3 x4 x5 x6 x7 x8)(f:∀x0 x1 x2 x3 x4 x5 x6 x7 x8,P0 x0 x1 x2 x3 x4 x5 x6 x7 x8->P1 x0 x1 x2 x3 x4 x5 x6 x7 x8->P2 x0 x1 x2 x3 x4 x5 x6 x7 x8->Z):Z:=by
 obtain⟨x0,x1,x2,x3,x4,x5,x6,x7,x8,p0,p1,p2⟩:=h;exact f x0 x1 x2 x3 x4 x5 x6 x7 x8 p0 p1 p2
theorem Z_63{A0 A1 A2 A3 A4 A5:Sort _}{P0 P1 P2:A0->A1->A2->A3->A4->A5->Prop}{Z:Prop}(h:∃x0 x1 x2 x3 x4 x5,P0 x0 x1 x2 x3 x4 x5/\P1 x0 x1 x2 x3 x4 x5/\P2 x0 x1 x2 x3 x4 x5)(f:∀x0 x1 x2 x3 x4 x5,P0 x0 x1 x2 x3 x4 x5->P1 x0 x1 x2 x3 x4 x5->P2 x0 x1 x2 x3 x4 x5->Z):Z:=by
 obtain⟨x0,x1,x2,x3,x4,x5,p0,p1,p2⟩:=h;exact f x0 x1 x2 x3 x4 x5 p0 p1 p2
theorem cC{R Q:A->B->C->D->E->Prop}{P:Prop}(h:∃a b c d e,R a b c d e/\Q a b c d e)(k:∀a b c d e,R a b c d e->Q a b c d e->P):P:=by
 refine ZT h λa b c d e r q=>?_;exact k a b c d e r q
theorem BT{R Q S T:A->B->C->D->E->F->G->Prop}{P:Prop}(h:∃a b c d e f g,R a b c d e f g/\Q a b c d e f g/\S a b c d e f g/\T a b c d e f g)(k:∀a b c d e f g,R a b c d e f g->Q a b c d e f g->S a b c d e f g->T a b c d e f g->P):P:=by
 refine Z_74 h λa b c d e f g r q s t=>?_;exact k a b c d e f g r q s t
theorem f3{R Q S:A->B->Prop}{P:Prop}(h:∃a b,R a b/\Q a b/\S a b)(k:∀a b,R a b->Q a b->S a b->P):P:=by
 refine Y_ h λa b r q s=>?_;exact k a b r q s
set_option Elab.async false
set_option linter.all false
set_option maxRecDepth 100000
theorem Jk{Z:Prop}(h:o/\P1/\P2/\P3/\P4)(z:o->P1->P2->P3->P4->Z):Z:=by
 refine Z_05 h λe d b a c=>?_;exact z e d b a c
theorem tL{Z:Prop}(h:o/\P1/\P2/\P3/\P4/\P5)(z:o->P1->P2->P3->P4->P5->Z):Z:=by
 refine Z_06 h λc b e d f a=>?_;exact z c b e d f a
theorem Eb{o P1 P2 P3:C->Prop}{Z:Prop}(h:∃a,o a/\P1 a/\P2 a/\P3 a)(z:∀a,o a->P1 a->P2 a->P3 a->Z):Z:=by
 refine ZB h λa c b e d=>?_;exact z a c b e d
theorem E1{o P1 P2 P3 P4:C->Prop}{Z:Prop}(h:∃a,o a/\P1 a/\P2 a/\P3 a/\P4 a)(z:∀a,o a->P1 a->P2 a->P3 a->P4 a->Z):Z:=by
 refine Z_15 h λa f e c b d=>?_;exact z a f e c b d
theorem Ek{o P1 P2:C->Tb->Prop}{Z:Prop}(h:∃a b,o a b/\P1 a b/\P2 a b)(z:∀a,∀b,o a b->P1 a b->P2 a b->Z):Z:=by
 refine Y_ h λa b e d c=>?_;exact z a b e d c
theorem DR{o P1 P2 P3:C->Tb->Prop}{Z:Prop}(h:∃a b,o a b/\P1 a b/\P2 a b/\P3 a b)(z:∀a,∀b,o a b->P1 a b->P2 a b->P3 a b->Z):Z:=by
 refine ZE h λa b f e d c=>?_;exact z a b f e d c
theorem yZ{o P1 P2 P3 P4:C->Tb->Prop}{Z:Prop}(h:∃a b,o a b/\P1 a b/\P2 a b/\P3 a b/\P4 a b)(z:∀a,∀b,o a b->P1 a b->P2 a b->P3 a b->P4 a b->Z):Z:=by
 refine Z' h λa b d c f e g=>?_;exact z a b d c f e g
theorem Qh{o P1 P2 P3 P4 P5:C->Tb->Prop}{Z:Prop}(h:∃a b,o a b/\P1 a b/\P2 a b/\P3 a b/\P4 a b/\P5 a b)(z:∀a,∀b,o a b->P1 a b->P2 a b->P3 a b->P4 a b->P5 a b->Z):Z:=by
 refine Z_26 h λa b g f e i d c=>?_;exact z a b g f e i d c
theorem Vq{o P1:I->Tb->C->Prop}{Z:Prop}(h:∃a b c,o a b c/\P1 a b c)(z:∀a,∀b,∀c,o a b c->P1 a b c->Z):Z:=by
 refine Z_32 h λa b c e d=>?_;exact z a b c e d
theorem Uy{o P1 P2:I->Tb->C->Prop}{Z:Prop}(h:∃a b c,o a b c/\P1 a b c/\P2 a b c)(z:∀a,∀b,∀c,o a b c->P1 a b c->P2 a b c->Z):Z:=by
 refine Z_ h λa b c f e d=>?_;exact z a b c f e d
theorem Va{o P1 P2 P3:I->Tb->C->Prop}{Z:Prop}(h:∃a b c,o a b c/\P1 a b c/\P2 a b c/\P3 a b c)(z:∀a,∀b,∀c,o a b c->P1 a b c->P2 a b c->P3 a b c->Z):Z:=by
 refine ZO h λa b c e d g f=>?_;exact z a b c e d g f
theorem Yw{o P1 P2 P3 P4:I->Tb->C->Prop}{Z:Prop}(h:∃a b c,o a b c/\P1 a b c/\P2 a b c/\P3 a b c/\P4 a b c)(z:∀a,∀b,∀c,o a b c->P1 a b c->P2 a b c->P3 a b c->P4 a b c->Z):Z:=by
 refine ZY h λa b c g f e i d=>?_;exact z a b c g f e i d
theorem Hh{o P1 P2 P3 P4 P5:I->Tb->C->Prop}{Z:Prop}(h:∃a b c,o a b c/\P1 a b c/\P2 a b c/\P3 a b c/\P4 a b c/\P5 a b c)(z:∀a,∀b,∀c,o a b c->P1 a b c->P2 a b c->P3 a b c->P4 a b c->P5 a b c->Z):Z:=by
 refine Z_36 h λa b c i g f j e d=>?_;exact z a b c i g f j e d
theorem IC{o P1:J->Tb->C->I->Prop}{Z:Prop}(h:∃a b c d,o a b c d/\P1 a b c d)(z:∀a,∀b,∀c,∀d,o a b c d->P1 a b c d->Z):Z:=by
 refine Z_42 h λa b c d f e=>?_;exact z a b c d f e
theorem P8{o P1 P2:J->Tb->C->I->Prop}{Z:Prop}(h:∃a b c d,o a b c d/\P1 a b c d/\P2 a b c d)(z:∀a,∀b,∀c,∀d,o a b c d->P1 a b c d->P2 a b c d->Z):Z:=by
 refine Z_43 h λa b c d f e g=>?_;exact z a b c d f e g
theorem xx{o P1 P2 P3 P4:J->Tb->C->I->Prop}{Z:Prop}(h:∃a b c d,o a b c d/\P1 a b c d/\P2 a b c d/\P3 a b c d/\P4 a b c d)(z:∀a,∀b,∀c,∀d,o a b c d->P1 a b c d->P2 a b c d->P3 a b c d->P4 a b c d->Z):Z:=by
 refine ZH h λa b c d i g f j e=>?_;exact z a b c d i g f j e
theorem Ph{o P1:U->Tb->I->J->C->Prop}{Z:Prop}(h:∃a b c d e,o a b c d e/\P1 a b c d e)(z:∀a,∀b,∀c,∀d,∀e,o a b c d e->P1 a b c d e->Z):Z:=by
 refine ZT h λa b c d e g f=>?_;exact z a b c d e g f
theorem O4{o P1 P2 P3 P4 P5 P6:J->Tb->C->I->U->Prop}{Z:Prop}(h:∃a b c d e,o a b c d e/\P1 a b c d e/\P2 a b c d e/\P3 a b c d e/\P4 a b c d e/\P5 a b c d e/\P6 a b c d e)(z:∀a,∀b,∀c,∀d,∀e,o a b c d e->P1 a b c d e->P2 a b c d e->P3 a b c d e->P4 a b c d e->P5 a b c d e->P6 a b c d e->Z):Z:=by
 refine Z_57 h λa b c d e k j i m g f l=>?_;exact z a b c d e k j i m g f l
namespace L2
open PySem PySem.Spec PyProof.Rows
abbrev er:=Sum Int Str
noncomputable def Eo:er->aI->Bool
 | .inl k,v=>Value.isInt k v
 | .inr x,v=>Value.isStrOf x v
noncomputable def F7(w:eI):er->Int
 | .inl k=>hashInt k
 | .inr x=>hashStr w x
theorem bT:∀{k:er} {v:aI},Eo k v=true->(∃i t,k=B3 i/\v=BA i t)\/(∃x t,k=B4 x/\v=BB x t)
 | .inl i,v,h=>by
  obtain⟨t,e⟩:=Value.isInt_shape h;exact .inl ⟨i,t,rfl,e⟩
 | .inr x,v,h=>by
  obtain⟨t,e⟩:=Value.isStrOf_shape h;exact .inr ⟨x,t,rfl,e⟩
theorem Wo i t:Eo (.inl i) (.int i t)=true:=by simp[Eo,Value.isInt]
theorem W4 x t:Eo (.inr x) (.str x t)=true:=by simp[Eo,Value.isStrOf]
theorem Pm a b:decide ((B3 a:er)=B3 b)=(a==b):=by
 by_cases e:a=b
 .subst e;simp
 have h:¬(B3 a:er)=B3 b:=λq=>e<|Sum.inl.inj q;rw[decide_eq_false h];exact(beq_eq_false_iff_ne.mpr e).symm
theorem Sn a b:decide ((B4 a:er)=B4 b)=decide (a=b):=by
 by_cases e:a=b
 .simp
 have h:¬(B4 a:er)=B4 b:=λq=>e<|Sum.inr.inj q;rw[decide_eq_false h,decide_eq_false e]
theorem Sm a b:decide ((B3 a:er)=B4 b)=false:=decide_eq_false λq=>nomatch q
theorem RF a b:decide ((B4 a:er)=B3 b)=false:=decide_eq_false λq=>nomatch q
def mj(prog:b9)(w:eI):PySem.KeyKind prog w er where
 is:=Eo
 hash:=F7 w
 inj:=λv a b g f=>by
  rcases bT g with⟨i,t,rfl,rfl⟩|⟨x,t,rfl,rfl⟩
  .rcases bT f with⟨j,u,rfl,e⟩|⟨y,u,rfl,e⟩
   .injection e with c _;rw[c]
   exact nomatch e
  rcases bT f with⟨j,u,rfl,e⟩|⟨y,u,rfl,e⟩
  .exact nomatch e
  injection e with c _;rw[c]
 byValue:=λk v h=>by
  rcases bT h with⟨i,t,rfl,rfl⟩|⟨x,t,rfl,rfl⟩<;>rfl
 pyHash:=λd h=>by
  rcases bT d with⟨i,t,rfl,rfl⟩|⟨x,t,rfl,rfl⟩
  .exact wpAny_pyHash_int h
  exact wpAny_pyHash_str h
 eqBool:=λl d h=>by
  rcases bT l with⟨i,t,rfl,rfl⟩|⟨x,t,rfl,rfl⟩
  .rcases bT d with⟨j,u,rfl,rfl⟩|⟨y,u,rfl,rfl⟩
   .rw[Pm] at h;exact wpAny_eqBool_int h
   rw[Sm] at h;exact BC i t y u _ _ _ _ h
  rcases bT d with⟨j,u,rfl,rfl⟩|⟨y,u,rfl,rfl⟩
  .rw[RF] at h;exact BD x t j u _ _ _ _ h
  rw[Sn] at h;exact wpAny_eqBool_str h
 «strs»:=λk x t v h=>by
  rcases bT h with⟨i,u,rfl,e⟩|⟨y,u,rfl,e⟩
  .exact nomatch e
  injection e with c _
  subst c;cases v<;>rfl
inductive Kt where
 |k (x:er)|t (xs:List Kt)
mutual
def Kt.d:(a b:Kt)->Decidable (a=b)
 | .k x,.k y=>if h:x=y then .isTrue (by rw[h]) else .isFalse λe=>h<|by injection e
 | .t xs,.t ys=>match Kt.c xs ys with
  | .isTrue h=>.isTrue<|by rw[h]
  | .isFalse h=>.isFalse λe=>h<|by injection e
 | .k _,.t _=>.isFalse λe=>nomatch e
 | .t _,.k _=>.isFalse λe=>nomatch e
def Kt.c:(a b:List Kt)->Decidable (a=b)
 |[],[]=>.isTrue rfl
 |[],_::_=>.isFalse λe=>nomatch e
 |_::_,[]=>.isFalse λe=>nomatch e
 |x::xs,y::ys=>match Kt.d x y,Kt.c xs ys with
  | .isTrue h,.isTrue g=>.isTrue<|by rw[h,g]
  | .isFalse h,_=>.isFalse λe=>h<|by injection e
  |_,.isFalse g=>.isFalse λe=>g<|by injection e
end
instance:DecidableEq Kt:=Kt.d
mutual
def zA(w:eI):Kt->Int
 | .k x=>F7 w x
 | .t xs=>reduceHash<|hV<|qY w xs
def qY(w:eI):List Kt->List Int
 |[]=>[]
 |x::xs=>zA w x::qY w xs
end
mutual
def ye:Kt->Nat
 | .k _=>1
 | .t xs=>iw xs+1
def iw:List Kt->Nat
 |[]=>0
 |x::xs=>ye x+iw xs
end
def pR(h:Heap):Nat->Kt->aI->Prop
 |_,.k x,v=>Eo x v=true
 |0,.t _,_=>False
 |n+1,.t xs,v=>∃a o items m,v=.ref a/\h.get? a=some o/\o.cls=.type "tuple"/\o.data=.seq items m/\kL (pR h n) xs items.toList
theorem o9:pR h (n+1) (.t xs) v↔∃a o items m,v=.ref a/\h.get? a=some o/\o.cls=.type "tuple"/\o.data=.seq items m/\kL (pR h n) xs items.toList:=by rw[pR]
theorem ur:pR h n (.k x) v↔Eo x v=true:=by cases n<;>rw[pR]
theorem Ij{G:o->C->Prop}(f:∀a b,F a b->G a b):∀{l:List o} {m:List C},kL F l m->kL G l m:=by
 intro l m h;induction h with
 |nil=>exact .nil
 |cons r t ih=>exact .cons (f _ _ r) ih
theorem Ir{F:o->I->Prop}(f:∀x y b,F x b->F y b->x=y):∀{l C:List o} {m:List I},kL F l m->kL F C m->l=C:=by
 intro l C m h;induction h generalizing C with
 |nil=>intro k;cases k;rfl
 |cons r t ih=>intro k;cases k with|cons r' t'=>rw[f _ _ _ r r',ih t']
theorem GP:∀(n) (x y) (v),pR h n x v->pR h n y v->x=y
 |n,.k x,.k y,v,hx,hy=>by
  rw[ur] at hx hy;rcases bT hx with⟨i,t,rfl,rfl⟩|⟨z,t,rfl,rfl⟩
  .rcases bT hy with⟨j,u,rfl,e⟩|⟨y,u,rfl,e⟩
   .injection e with c _;rw[c]
   exact nomatch e
  rcases bT hy with⟨j,u,rfl,e⟩|⟨y,u,rfl,e⟩
  .exact nomatch e
  injection e with c _;rw[c]
 |0,.t _,_,_,hx,_=>by exact hx.elim
 |0,.k _,.t _,_,_,hy=>by exact hy.elim
 |n+1,.k x,.t ys,v,hx,hy=>by
  refine IC (o9.mp hy) λa _ _ _ e _=>?_;subst e;rcases bT hx with⟨_,_,_,e⟩|⟨_,_,_,e⟩<;>exact nomatch e
 |n+1,.t xs,.k y,v,hx,hy=>by
  refine IC (o9.mp hx) λa _ _ _ e _=>?_;subst e;rcases bT hy with⟨_,_,_,e⟩|⟨_,_,_,e⟩<;>exact nomatch e
 |n+1,.t xs,.t ys,v,hx,hy=>by
  refine xx (o9.mp hx) λa o A m e g _ d p=>?_;refine xx (o9.mp hy) λB s q w f l _ b r=>?_;subst e;injection f with f
  subst f;cases g.symm.trans l;rw[d] at b;injection b with b _
  subst b;rw[Ir (GP n) p r]
theorem Hv(I:h.get? d=some o)(hd:o.data=.dict es ep)(C:kA d h h'):∀(n) (x) (v),pR h n x v->pR h' n x v
 |n,.k x,v,hx=>by rw[ur] at hx ⊢;exact hx
 |0,.t _,_,hx=>by exact hx.elim
 |n+1,.t xs,v,hx=>by
  refine xx (o9.mp hx) λa f j m e g c b p=>?_;have i:a≠d:=by
   rintro rfl;cases g.symm.trans I;rw[hd] at b;cases b
  exact o9.mpr ⟨a,f,j,m,e,(C.2 a i).trans g,c,b,Ij (Hv I hd C n) p⟩
theorem DK w:∀xs,qY w xs=xs.map (zA w)
 |[]=>by rw[qY];rfl
 |x::xs=>by rw[qY,DK w xs];rfl
theorem Az:∀xs ys,iw (xs++ys)=iw xs+iw ys
 |[],ys=>by rw[tf,iw,vv]
 |x::xs,ys=>by rw[List.cons_append,iw,iw,Az xs ys,ya]
theorem Kw x:iw [x]=ye x:=by rw[iw,iw,Nat.add_zero]
theorem Ka:∀(n) {A:eJ} {s:a7} {x:Kt} {v:aI} {Q:Int->a7->Prop},A.units+n<tj->pR s.heap n x v->Q (zA wo x) { s with toks:=s.toks+ye x}->cb (cK pr wo) A (pyHash v) Q E s
 |n,A,s,.k x,v,Q,hu,hx,q=>by
  rw[ur] at hx;rw[zA,ye] at q;exact(mj pr wo).pyHash hx q
 |0,_,_,.t _,_,_,_,hx,_=>by rw[pR] at hx;exact hx.elim
 |n+1,A,s,.t xs,v,Q,hu,hx,h=>by
  refine xx (o9.mp hx) λa o i m e p r hd u=>?_;subst e;have f:s.TypeIs (.ref a) _:=⟨o,p,r⟩;rw[zA,ye] at h;unfold pyHash
  first|unfold pyHashByItsType|skip
  first|refine ae (wpAny_cRoomFor_or (.inr<|by lia) ?_)|skip
  refine ae<|mf f k9.lookup ?_;show cb _ _ _ Q E s;rw[if_neg (by rw[beq_builtin_none];exact a8)];refine ae<|mf f k9.lookup ?_;show cb _ _ _ Q E s;refine ae<|wpAny_callSpecialIfBoundUnlessNone?_slot f k9<|iN k9 f PySem.F.entry_tuple_hash ?_<|PySem.F.args_tuple_hash_1 _;show cb _ _ (uj (.ref a) >>= _) _ _ s;refine ae<|wpAny_tupleItemsOf p hd ?_;refine ae ?_;rw[<-BE];refine wpAny_forIn_list _
   (λc (b:Array _) l=>∃done left,xs=done++left/\kL _ left c/\b.toList=done.map (zA wo)/\l={ s with toks:=s.toks+iw done})
   _ ?_ ?_ _ _ ⟨[],xs,rfl,u,rfl,by rw[iw];rfl⟩
  .intro x c b l zr4;refine ZE zr4 λdone left zq2 j g zq5=>?_;subst zq2;subst zq5;cases j with
   | @cons k _ ks' _ h1 hl'=>
    refine ae<|Ka n (A:=A.in1) (show A.units+1+n<tj by lia) (s:={ s with toks:=s.toks+iw done}) h1 ?_;refine av ⟨done++[k],ks',by simp,hl',by simp[g],?_⟩;rw[Az,Kw,ya]
  intro b l zr2;refine ZE zr2 λdone left zq2 j g zq5=>?_;subst zq2;subst zq5;cases j;rw[c9] at h;show cb _ _ (retInt<|hV b.toList) _ _ _;rw[g,<-DK];refine wpAny_ret_mkInt ?_;show cb _ _ (if(decide (-(2:Int)^63<=hV (qY wo done))&&decide (hV (qY wo done)<2^63))=true then _ else _) Q E _;unfold reduceHash at h;by_cases d:(decide (-(2:Int)^63<=hV (qY wo done))&&decide (hV (qY wo done)<2^63))=true
  .rw[if_pos d];rw[if_pos d] at h;exact av<|by simpa[ya] using h
  rw[if_neg d];rw[if_neg d] at h;exact ae<|xo<|av<|by simpa[ya] using h
noncomputable def xg(xs ys:List Kt)(j:Nat):Bool:=match xs[j]?,ys[j]? with
 |some x,some y=>decide<|x=y
 |_,_=>true
theorem G4:∀xs ys,((dc<|min xs.length ys.length).all (xg xs ys)&&xs.length==ys.length)=decide (xs=ys)
 |[],[]=>by simp
 |[],_::_=>by simp
 |_::_,[]=>by simp
 |x::xs,y::ys=>by
  have c:=G4 xs ys;rw[cm,cm,Nat.succ_min_succ,zo,mE,List.all_map];have e:(xg (x::xs) (y::ys)∘Nat.succ)=xg xs ys:=by funext j;simp[xg]
  rw[e];have f:xg (x::xs) (y::ys) 0=decide (x=y):=by simp[xg]
  rw[f,Bool.and_assoc];have d:((xs.length+1==ys.length+1))=(xs.length==ys.length):=by simp
  rw[d,c];by_cases a:x=y<;>by_cases b:xs=ys<;>simp[a,b]
theorem Ds:∀{l:List α} {m:List β} (j) (h:j<m.length),kL F l m->∃a,l[j]? = some a/\F a m[j]
 |_,_,j,h,.nil=>absurd h<|Nat.not_lt_zero _
 |_,_,0,_,.cons r _=>⟨_,rfl,r⟩
 |_,_,j+1,h,.cons _ t=>by
  refine oj (Ds j (by simpa using h) t) λa b c=>?_;exact⟨a,b,c⟩
theorem UW:∀(n) (A) (s) (x y) (v u),A.units+n<tj->pR s.heap n x v->pR s.heap n y u->SeqAt.EqAt A s v u (decide<|x=y)
 |n,A,s,.k x,.k y,v,u,hu,hx,hy=>by
  rw[ur] at hx hy;intro P W E Q q;refine(mj P W).eqBool hx hy ?_;have e:decide (Kt.k x=Kt.k y)=decide _:=decide_eq_decide.mpr ⟨λe=>by injection e,λe=>by rw[e]⟩;rw[<-e];exact q
 |0,_,_,.t _,_,_,_,_,hx,_=>by rw[pR] at hx;exact hx.elim
 |0,_,_,.k _,.t _,_,_,_,_,hy=>by rw[pR] at hy;exact hy.elim
 |n+1,A,s,.k x,.t ys,v,u,hu,hx,hy=>by
  rw[ur] at hx;refine xx (o9.mp hy) λa o h m e g c d _=>?_;subst e;have f:s.heap.IsTuple a h:=⟨o,g,c,m,d⟩;rw[show decide _=false from decide_eq_false λe=>nomatch e];rcases bT hx with⟨i,t,rfl,rfl⟩|⟨z,t,rfl,rfl⟩
  .exact SeqAt.EqAt.int_tuple i t f<|by lia
  exact SeqAt.EqAt.str_tuple z t f<|by lia
 |n+1,A,s,.t xs,.k y,v,u,hu,hx,hy=>by
  rw[ur] at hy;refine xx (o9.mp hx) λa o h m e g c d _=>?_;subst e;have f:s.heap.IsTuple a h:=⟨o,g,c,m,d⟩;rw[show decide (Kt.t xs=Kt.k y)=false from decide_eq_false λe=>nomatch e];rcases bT hy with⟨i,t,rfl,rfl⟩|⟨z,t,rfl,rfl⟩
  .exact SeqAt.EqAt.tuple_int i t f<|by lia
  exact SeqAt.EqAt.tuple_str z t f<|by lia
 |n+1,A,s,.t xs,.t ys,v,u,hu,hx,hy=>by
  have w:=hx;have r:=hy;refine xx (o9.mp hx) λa o h m e g c d p=>?_;refine xx (o9.mp hy) λH V l X I N R Z G=>?_;subst e I;by_cases D:a=H
  .subst D;rw[GP _ _ _ _ w r,decide_eq_true rfl];exact C0 _
  have f:s.heap.IsTuple a h:=⟨o,g,c,m,d⟩;have B:s.heap.IsTuple H l:=⟨V,N,R,X,Z⟩;have Y:h.size=xs.length:=by have:=mI p;exact this.symm
  have J:l.size=ys.length:=by have:=mI G;exact this.symm
  have M:decide (Kt.t xs=Kt.t ys)=decide (xs=ys):=decide_eq_decide.mpr ⟨λe=>by injection e,λe=>by rw[e]⟩;rw[M,<-G4 xs ys,<-Y,<-J];refine SeqAt.EqAt.of_refs D<|SeqAt.RcAt.tuples f B (by lia) λj L S=>?_;refine oj (Ds j (L) p) λb O K=>?_;refine oj (Ds j (S) G) λF T C=>?_
  have:xg xs ys j=decide (b=F):=by unfold xg;rw[O,T]
  rw[this];exact UW n A.in1 s b F _ _ (show A.units+1+n<tj by lia) (K) (by simpa using C)
theorem Uc:∀(n) {A:eJ} {s:a7} {x:Kt} {v:aI} {Q:Bool->a7->Prop},pR s.heap n x v->Q true s->cb (cK pr wo) A (eqIsQuiet n v) Q E s
 |n,A,s,.k x,v,Q,hx,q=>by
  rw[ur] at hx;rw[eqIsQuiet_byValue _<|(mj pr wo).byValue _ _ hx];exact av q
 |0,_,_,.t _,_,_,hx,_=>by exact hx.elim
 |n+1,A,s,.t xs,v,Q,hx,h=>by
  refine xx (o9.mp hx) λa o c m e g p hd u=>?_;subst e;have j:s.TypeIs (.ref a) _:=⟨o,g,p⟩;unfold eqIsQuiet;refine ae<|mf j PySem.F.slot_tuple_eq.lookup ?_;refine ae<|nN j isSubtype_tuple_tuple ?_;refine ae<|wq g hd<|ae ?_;rw[<-BE];refine wpAny_forIn_list _ (λb r f=>r.1=none/\f=s/\∃i,kL _ i b) _ ?_ ?_ _ _ ⟨rfl,rfl,xs,u⟩
  .intro v b r f zr4;obtain⟨d,rfl,i,l⟩:=zr4;cases l with
   |cons h1 al'=>
    refine ae<|Uc n h1 ?_;exact av ⟨rfl,rfl,_,al'⟩
  intro zr0 f zr2;obtain⟨w,y⟩:=zr0;obtain⟨d,rfl,_⟩:=zr2;subst d;exact av h
def oG(C:b9)(o:eI):HeapKind C o (List Kt) where
 is:=λh ks a=>pR h 8 (.t ks)<|.ref a
 hash:=λks=>zA o<|.t ks
 draws:=λks=>ye<|.t ks
 room:=λA=>A.units+8<tj
 inj:=λa b=>by have:=GP _ _ _ _ a b;injection this
 keeps:=λx a b c=>Hv a b c _ _ _ x
 pyHash:=λa b c=>Ka 8 a b c
 eqBool:=λ{A E s x y a b Q} d g f i=>by
  refine UW 8 A s _ _ _ _ d g f _ _ _ _ ?_;rw[show decide (Kt.t x=Kt.t y)=decide (x=y) from decide_eq_decide.mpr ⟨λe=>by injection e,λe=>by rw[e]⟩];exact i
 quiet:=λa b=>Uc 8 a b
inductive V where
 |E|B (b:Bool)|l (i:Int)|p (x:Str)|c (b:Array UInt8)|f (b:UInt64)|r (a:Addr)|t (n:String)
 deriving DecidableEq
def bn:V->aI->Prop
 | .E,u=>u=fN
 | .B b,u=>u=qk b
 | .l i,u=>∃t,u=BA i t
 | .p x,u=>∃t,u=BB x t
 | .c b,u=>∃t,u=Value.bytes b t
 | .f b,u=>∃t,u=Value.float b t
 | .r a,u=>u=cq a
 | .t n,u=>u=Value.type n
abbrev a_:List V->List aI->Prop:=kL bn
theorem a_.l(r:a_ xs us):xs.length=us.length:=mI r
theorem a_.d:∀{xs:List V} {us:List aI} {i:Nat} {x:V},a_ xs us->xs[i]? = some x->∃u,us[i]? = some u/\bn x u
 |_,_,_,_,.nil,e=>by simp at e
 |_,_,0,_,.cons r _,e=>by simp at e;subst e;exact⟨_,rfl,r⟩
 |_,_,i+1,x,.cons _ t,e=>by
  refine oj (a_.d t (e)) λu a b=>?_;exact⟨u,a,b⟩
theorem a_.Y(r:bn x u):∀{xs:List V} {us:List aI} (i),a_ xs us->a_ (xs.set i x) (us.set i u)
 |_,_,_,.nil=>.nil
 |_,_,0,.cons _ t=>.cons r t
 |_,_,i+1,.cons q t=>.cons q<|a_.Y r i t
theorem a_.c:∀{xs ys:List V} {us o:List aI},a_ xs us->a_ ys o->a_ (xs++ys) (us++o):=by
 intro xs ys us o h s;induction h with
 |nil=>exact s
 |cons r t ih=>exact .cons r ih
theorem a_.j:∀{xs:List V} {us:List aI} (n),a_ xs us->a_ (xs.take n) (us.take n)
 |_,_,0,_=>.nil
 |_,_,_+1,.nil=>.nil
 |_,_,n+1,.cons r t=>.cons r<|a_.j n t
theorem a_.m:∀{xs:List V} {us:List aI} (n),a_ xs us->a_ (xs.drop n) (us.drop n)
 |_,_,0,r=>r
 |_,_,_+1,.nil=>.nil
 |_,_,n+1,.cons _ t=>a_.m n t
def yw:Option V->Option aI->Prop
 |some v,some u=>bn v u
 |none,none=>True
 |_,_=>False
def KV{o:Type}:List (o×V)->List (o×aI)->Prop:=kL λ(p:o×V) (q:o×aI)=>p.1=q.1/\bn p.2 q.2
def kV:er->V
 | .inl i=>.l i
 | .inr x=>.p x
inductive HO where
  |P (xs:List V)
  |w (xs:List V)
  |c (ι:List (er×V))|d (T:Addr->List V->Prop) (ι:List (List Kt×V))
  |Y (S:Int->Bool) (n:Nat)
  |M (C dx:Addr) (fs:List (Str×V))
  |we (x:Addr)
  |a (fs:List (Str×V))
  |m (f x:Addr)
  |r (lo hi:Int)
  |b (o:Obj) (u:HO)
  |h (ps:Array aI)
  |e (φ:Heap->Prop)
abbrev Hp:=Addr->Option HO
noncomputable def upd(H:Hp)(a:Addr)(o:HO):Hp:=λb=>if b=a then some o else H b
theorem aP:upd H a o a=some o:=by unfold upd;rw[if_pos rfl]
theorem bf(h:b≠a):upd H a o b=H b:=by unfold upd;rw[if_neg h]
theorem U9:upd (upd H a o) a u=upd H a u:=by
 funext b;unfold upd;split<;>rfl
theorem Yt{H:Hp}(h:H a=some o)(h':H b=some u)(d:o≠u):a≠b:=by
 intro e;subst e;rw[h] at h';exact d<|cE h'
theorem oV{H:Hp}(h:H a=some o)(h':H b=none):a≠b:=by
 intro e;subst e;rw[h] at h';cases h'
mutual
inductive Ez(T:Addr->List V->Prop)(H:Hp):Nat->V->Kt->Prop where
 |k {n:Nat} {x:er}:Ez T H n (kV x) (.k x)
 |t {n:Nat} {b:Addr} {vs:List V} {ks:List Kt}:(H b=some (.w vs)\/T b vs)->wC T H n vs ks->Ez T H (n+1) (.r b) (.t ks)
inductive wC(T:Addr->List V->Prop)(H:Hp):Nat->List V->List Kt->Prop where
 |f {n:Nat}:wC T H n [] []
 |e {n:Nat} {v:V} {vs:List V} {k:Kt} {ks:List Kt}:Ez T H n v k->wC T H n vs ks->wC T H n (v::vs) (k::ks)
end
def nk(T:Addr->List V->Prop)(H:Hp)(b:Addr)(ks:List Kt):Prop:=∃a,(H b=some (.w a)\/T b a)/\wC T H 7 a ks
mutual
theorem Ez.u(o:∀b xs,H b=some (.w xs)->H' b=some (.w xs)):∀{n:Nat} {v:V} {k:Kt},Ez T H n v k->Ez T H' n v k
 |_,_,_,.k=>.k
 |_,_,_,.t h hs=>.t (h.imp (o _ _) id)<|wC.u o hs
theorem wC.u(o:∀b xs,H b=some (.w xs)->H' b=some (.w xs)):∀{n:Nat} {C:List V} {ks:List Kt},wC T H n C ks->wC T H' n C ks
 |_,_,_,.f=>.f
 |_,_,_,.e h hs=>.e (Ez.u o h)<|wC.u o hs
end
theorem nk.u(h:nk T H b ks)(o:∀b xs,H b=some (.w xs)->H' b=some (.w xs)):nk T H' b ks:=
 (by refine oj h λvs h1 h2=>?_;exact ⟨vs,h1.imp (o _ _) id,h2.u o⟩)
section
variable (P:b9)(w:eI)
def N8(h:Heap)(a:Addr)(C:Array aI):Prop:=∃o,h.get? a=some o/\o.cls=.type "tuple"/\∃n,o.data=.seq C n/\o.dict=none
theorem N8.L(x:N8 h a C):IsTup h a C:=by obtain ⟨o,e,c,n,d,_⟩:=x;exact ⟨o,e,c,n,d⟩
theorem N8.O(h:Heap) o :N8 (h.push { cls:=.type "tuple",data:=.seq o }) h.objs.size o:=⟨_,bp _ rfl,rfl,_,rfl,rfl⟩
def bZ(H:Hp)(h:Heap)(a:Addr):HO->Prop
 | .P xs=>xs.length<=aw/\∃(c:List aI) (n:Nat),a_ xs c/\h.get? a=some { cls:=.type "list",data:=.seq c.toArray n }
 | .w xs=>xs.length<=aw/\∃c:List aI,a_ xs c/\N8 h a c.toArray
 | .c ι=>ι.length<=aw/\(a==kc)=false/\∃g,KV ι g/\h.DictOf (mj P w) a g
 | .d T ι=>ι.length<=aw/\(a==kc)=false/\∃xs:List (List Kt×Addr×aI),
   kL (λ(p:List Kt×V) (q:List Kt×Addr×aI)=>p.1=q.1/\nk T H q.2.1 p.1/\bn p.2 q.2.2) ι xs/\
   ∃o es ep,h.get? a=some o/\o.ExactDict/\o.data=.dict es ep/\es.toList=xs.map (entryOfKey<|oG P w)/\(xs.map (·.1)).Nodup
 | .Y S n=>h.SetOf (intKind P w) a S n
 | .M C dx fs=>H dx=some (.we a)/\fs.length<=1000/\dx≠a/\h.get? a=some (W.instObj C dx)/\
   ∃b,h.Ns1 dx b/\(∀f,yw (fs.lookup f)<|b f)/\PySem.Within b (fs.map (·.1))
 | .we _=>∃o,h.get? a=some o
 | .a fs=>∃b,h.Ns1 a b/\∀f,yw (fs.lookup f)<|b f
 | .r lo hi=>∃t u v,h.get? a=some { cls:=.type "range",data:=.fields #[.int lo t,.int hi u,.int 1 v] }
 | .b o u=>h.get? a=some o/\bZ H h a u
 | .h ps=>h.get? a=some { cls:=.none,data:=.fields ps}
 | .m f x=>h.get? a=some (W.methodObj (.ref f)<|.ref x)
 | .e φ=>φ h/\(∃o,h.get? a=some o)/\∀e d:Heap,φ e->(∀o,e.get? a=some o->d.get? a=some o)->φ d
def hM(H:Hp)(h:Heap):Prop:=∀a o,H a=some o->bZ P w H h a o
end
section
variable {a:Addr}
theorem bZ.lt(x:bZ P w H h a o):a<h.objs.size:=by
 cases o with
 |P xs=>obtain⟨_,_,_,_,e⟩:=x;exact aS e
 |w xs=>obtain⟨_,_,_,p⟩:=x;exact p.L.lt
 |c ι=>obtain⟨_,_,_,_,o,_,_,e,_⟩:=x;exact aS e
 |d T ι=>obtain⟨_,_,_,_,o,_,_,e,_⟩:=x;exact aS e
 |Y S n=>refine Z_42 x λo _ _ _ e _=>?_;exact aS e
 |M C dx fs=>refine Z_05 x λ_ _ _ e _=>?_;exact aS e
 |we y=>obtain⟨_,e⟩:=x;exact aS e
 |a fs=>refine oj x λ_ zq1 _=>?_;obtain⟨_,_,_,e,_⟩:=zq1;exact aS e
 |r lo hi=>refine Z_31 x λ_ _ _ e=>?_;exact aS e
 |b ob u=>obtain⟨e,_⟩:=x;exact aS e
 |h ps=>exact aS (x)
 |m f y=>exact aS (x)
 |e φ=>refine ZI x λ_ zq1 _=>?_;obtain⟨_,e⟩:=zq1;exact aS e
theorem kL.c:∀{I:List α} {C:List β},kL F I C->(∀a b,F a b->G a b)->kL G I C:=by
 intro I C h f;induction h with
 |nil=>exact .nil
 |cons r t ih=>exact .cons (f _ _ r) ih
theorem bZ.F(x:bZ P w H h a o)(k:∀b u,(b=a\/H b=some (.we a))->h.get? b=some u->h'.get? b=some u)
  (J:∀b,H b=some (.we a)->H' b=some (.we a)) (I:∀b xs,H b=some (.w xs)->H' b=some (.w xs)):bZ P w H' h' a o:=by
 induction o with
 |P xs=>obtain⟨z,m,n,r,e⟩:=x;exact⟨z,m,n,r,k _ _ (.inl rfl) e⟩
 |w xs=>obtain⟨z,m,r,g,e,c⟩:=x;exact⟨z,m,r,g,k _ _ (.inl rfl) e,c⟩
 |c ι=>obtain⟨z,y,D,r,g,i,j,e,c⟩:=x;exact⟨z,y,D,r,g,i,j,k _ _ (.inl rfl) e,c⟩
 |d T ι=>
  obtain⟨z,y,xs,r,g,i,j,e,c⟩:=x;exact⟨z,y,xs,kL.c r λp q z=>⟨z.1,z.2.1.u I,z.2.2⟩,g,i,j,k _ _ (.inl rfl) e,c⟩
 |Y S n=>refine Z_42 x λg i j t e c=>?_;exact⟨g,i,j,t,k _ _ (.inl rfl) e,c⟩
 |M C dx fs=>
  obtain⟨d,z,B,e,s,⟨l,i,j,E,c⟩,r⟩:=x;exact⟨J _ d,z,B,k _ _ (.inl rfl) e,s,⟨l,i,j,k _ _ (.inr d) E,c⟩,r⟩
 |we y=>obtain⟨g,e⟩:=x;exact⟨g,k _ _ (.inl rfl) e⟩
 |a fs=>refine oj x λs zq1 r=>?_;obtain⟨l,i,j,e,c⟩:=zq1;exact⟨s,⟨l,i,j,k _ _ (.inl rfl) e,c⟩,r⟩
 |r lo hi=>refine Z_31 x λt u v e=>?_;exact⟨t,u,v,k _ _ (.inl rfl) e⟩
 |b g u ih=>obtain⟨e,q⟩:=x;exact⟨k _ _ (.inl rfl) e,ih q⟩
 |h ps=>
  have e:h.get? a=some { cls:=.none,data:=.fields ps}:=x;show h'.get? a=some { cls:=.none,data:=.fields ps};exact k a _ (.inl rfl) e
 |m f y=>
  have e:h.get? a=some (W.methodObj (.ref f)<|.ref y):=x;show h'.get? a=some (W.methodObj (.ref f)<|.ref y);exact k a _ (.inl rfl) e
 |e φ=>refine ZI x λp zq1 A=>?_;obtain⟨o,e⟩:=zq1;exact⟨A _ _ p λo q=>k _ _ (.inl rfl) q,⟨o,k _ _ (.inl rfl) e⟩,A⟩
theorem hM.lt(x:hM P w H h)(e:H a=some o):a<h.objs.size:=(x a o e).lt
theorem hM.n(x:hM P w H h)(e:h.objs.size<=a):H a=none:=by
 cases q:H a with
 |none=>rfl
 |some u=>exact absurd (cf (x.lt q) e) (fS _)
theorem hM.we(x:hM P w H h)(k:∀b u,h.get? b=some u->h'.get? b=some u):hM P w H h':=λa o e=>
 (x a o e).F (λb u _ q=>k b u q) (λ_ q=>q) λ_ _ q=>q
theorem hM.laid(x:hM P w H h)(k:∀b u,h.get? b=some u->h'.get? b=some u)(C:h.objs.size<=a)(new:bZ P w (upd H a o) h' a o):hM P w (upd H a o) h':=λb u e=>by
 have f:=x.n C;by_cases d:b=a
 .subst d;rw[aP] at e;cases e;exact new
 rw[bf d] at e;exact(x b u e).F (λc v _ q=>k c v q) (λc q=>by rw[bf<|oV q f];exact q) λc g q=>by rw[bf<|oV q f];exact q
end
def Rd(H:Hp)(a:Addr)(u:HO):Prop:=H a=some u\/∃o,H a=some (.b o u)
theorem Rd.R(r:Rd H a u)(x:hM P w H h):bZ P w H h a u:=by
 rcases r with r|⟨o,r⟩
 .exact x a u r
 obtain⟨_,q⟩:=x a _ r;exact q
def zl:Option HO->Prop
 |some (.P _)=>True
 |some (.c _)=>True
 |some (.d _ _)=>True
 |some (.Y _ _)=>True
 |some (.M _ _ _)=>True
 |some (.e _)=>True
 |_=>False
theorem hM.write(ok:hM P w H h)(o:zl (H x))(I:e=x\/H e=some (.we x))(k:∀b u,b≠e->h.get? b=some u->h'.get? b=some u)(C:∃u,h'.get? e=some u)
  (new:bZ P w (upd H x o') h' x o'):hM P w (upd H x o') h':=λb u q=>by
 have d:∀c y,H c=some (.we y)->c≠x:=λc y r z=>by subst z;rw[r] at o;exact o
 have f:∀c g,H c=some (.w g)->c≠x:=λc g r z=>by subst z;rw[r] at o;exact o
 by_cases j:b=x
 .subst j;rw[aP] at q;cases q;exact new
 rw[bf j] at q;by_cases a:b=e
 .have l:H b=some (.we x):=by
   rcases I with z|z
   .exact absurd (a.trans z) j
   rw[a];exact z
  rw[q] at l;cases l;obtain⟨v,m⟩:=C;exact⟨v,by rw[a];exact m⟩
 refine(ok b u q).F (λc v i r=>k c v ?_ r) (λc r=>by rw[bf<|d c b r];exact r) λc g r=>by rw[bf<|f c g r];exact r
 rcases i with rfl|i
 .exact a
 rintro rfl;rcases I with z|z
 .exact d c b i z
 rw[i] at z;cases z;exact j rfl
structure Un(fs ex:List Addr)(H H':Hp)(h h':Heap):Prop where
 Z:∀b o,h.get? b=some o->H b=none->b∉fs->b∉ex->h'.get? b=some o
 S:∀b o,h.get? b=some o->H b=none->b∈fs->b∉ex->∃sl,h'.get? b=some { o with slots:=sl}
 Y:∀b o,h.get? b=some o->H b=none->b∉ex->H' b=none
 K:∀b o,h.get? b=some o->b∉ex->∃o',h'.get? b=some o'
 M:∀b xs,H b=some (.w xs)->H' b=some (.w xs)
 L:∀b o u,H b=some (.b o u)->H' b=some (.b o u)
 N:∀b ps,H b=some (.h ps)->∃more,H' b=some (.h (ps++more))
section
variable {h:Heap}{a:Addr}
theorem Un.w(u:Un fs ex H H1 h h1)(q:h.get? b=some ob)(n:H b=none)(C:b∉ex):∃I,h1.get? b=some { ob with slots:=I}:=by
 by_cases a:b∈fs
 .exact u.S b ob q n a C
 exact⟨ _,u.Z b ob q n a C⟩
theorem Un.t(a:Un fs ex H H1 h h1)(b:Un fs ex H1 H2 h1 h2):Un fs ex H H2 h h2 where
 Z:=λc d q n g e=>b.Z c d (a.Z c d q n g e) (a.Y c d q n e) g e
 S:=λc d q n g e=>by
  obtain⟨r,f⟩:=a.S c d q n g e;obtain⟨k,l⟩:=b.S c _ f (a.Y c d q n e) g e;exact⟨k,l⟩
 Y:=λc d q n e=>by
  obtain⟨j,f⟩:=a.K c d q e;exact b.Y c j f (a.Y c d q n e) e
 K:=λc d q e=>by
  obtain⟨j,f⟩:=a.K c d q e;exact b.K c j f e
 M:=λc i q=>b.M c i<|a.M c i q
 L:=λc d i q=>b.L c d i<|a.L c d i q
 N:=λc m q=>by
  obtain⟨p,f⟩:=a.N c m q;obtain⟨o,l⟩:=b.N c _ f;exact⟨p++o,by rw[l,oQ]⟩
theorem Un.we(k:∀b u,h.get? b=some u->h'.get? b=some u):Un fs ex H H h h':=
 ⟨λb a q _ _ _=>k b a q,λb a q _ _ _=>⟨ _,k b a q⟩,λ_ _ _ n _=>n,λb a q _=>⟨a,k b a q⟩,λ_ _ q=>q,λ_ _ _ q=>q,λ_ c q=>⟨#[],by rw[q];simp⟩⟩
theorem Un.s:Un fs ex H H h h:=Un.we λ_ _ q=>q
theorem Un.laid(k:∀b u,h.get? b=some u->h'.get? b=some u)(I:h.objs.size<=a)(C:H a=none):Un fs ex H (upd H a o) h h' where
 Z:=λb u q _ _ _=>k b u q
 S:=λb u q _ _ _=>⟨ _,k b u q⟩
 Y:=λb u q n _=>by rw[bf<|b0<|cf (aS q) I];exact n
 K:=λb u q _=>⟨u,k b u q⟩
 M:=λb c q=>by rw[bf<|oV q C];exact q
 L:=λb u c q=>by rw[bf<|oV q C];exact q
 N:=λb d q=>⟨#[],by rw[bf<|oV q C,q];simp⟩
theorem Un.write(C:zl (H x))(J:e=x\/H e=some (.we x))(k:∀b u,b≠e->h.get? b=some u->h'.get? b=some u)(I:∃u,h'.get? e=some u):Un fs ex H (upd H x o) h h':=by
 have f:∀b,H b=none->b≠x:=λb n z=>by subst z;rw[n] at C;exact C
 have d:∀b,H b=none->b≠e:=λb n z=>by
  subst z;rcases J with r|r
  .exact f b n r
  rw[n] at r;cases r
 have c:∀b u,H b=some u->¬zl (some u)->b≠x:=λb u q i z=>by subst z;rw[q] at C;exact i C
 refine⟨λb u q n _ _=>k b u (d b n) q,λb u q n _ _=>⟨ _,k b u (d b n) q⟩,λb u q n _=>by rw[bf<|f b n];exact n,λb u q _=>?_,
  λb g q=>by rw[bf<|c b _ q λz=>z];exact q,λb u g q=>by rw[bf<|c b _ q λz=>z];exact q,λb j q=>⟨#[],by rw[bf<|c b _ q λz=>z,q];simp⟩⟩
 by_cases a:b=e
 .subst a;exact I
 exact⟨u,k b u a q⟩
end
noncomputable def C_(h:Heap)(H:Hp):List Addr:=(dc h.objs.size).filter λa=>(H a).isSome
def MP(h:Heap)(H:Hp):Heap:=BF h<|C_ h H
theorem Xz(e:h.get? b=some o)(n:H b=none):(MP h H).get? b=some o:=
 la _ e λa=>by
  have q:=(ix.mp a).2;rw[n] at q;simp at q
theorem VZ(e:(MP h H).get? b=some o):h.get? b=some o/\H b=none:=by
 have a:=zw _ e;refine⟨a,?_⟩;cases q:H b with
 |none=>rfl
 |some x=>
  have c:b∈C_ h H:=ix.mpr ⟨kH.mpr<|aS a,by simp[q]⟩;have z:(MP h H).get? b=none:=W.hideAll_none _ c;rw[z] at e;cases e
structure Mod(K:bg)(mg:eR)(base:Heap):Prop where
 k:K.In base
 h:base.Ns dQ mg
 m:∃mb,base.Ns builtinsNs mb/\∀x:Str,x≠"__name__"->mb x=cx x
 n:base.NoLimit
structure Cx where
 p:b9
 w:eI
 K:bg
 m:eR
 T:Heap
 A:eJ
 N:List Str
 s₀:a7
 H₀:Hp
 d:Env
 h:List Env
 Z:List Env
 l:List Addr
 i:Str->Bool
 f:Bool
 n:Zp
 g:Zs
def eh(l:List Env):List Addr:=l.filterMap (·.frame)
abbrev Cx.k(X:Cx):List Addr:=eh X.h
def i'(o:wx)(x:Str):Prop:=o.names.lookup x=some .local\/o.names.lookup x=some .cell\/o.names.lookup x=some .free
def k6(o:wx)(x:Str):Prop:=o.names.lookup x=some .local\/o.names.lookup x=some .cell
def AT(env:Env)(h:Heap)(m:eR)(x:Str)(u:aI):Prop:=
 (env.kindOf x=some .local/\m x=some u)\/((env.kindOf x=some .cell\/env.kindOf x=some .free)/\∃c,env.cells.lookup x=some c/\h.IsCell c (some u))
structure Cx.O(X:Cx):Prop where
 mod:Mod X.K X.m X.T
 k:X.d.scope.kind=.function
 h:X.d.globals=dQ
 m:X.d.builtins=builtinsNs
 d:X.s₀.heap.objs.size<=X.d.locals
 inj:∀x y c,X.d.cells.lookup x=some c->X.d.cells.lookup y=some c->x=y
 q:∀x,(X.d.kindOf x=some .cell\/X.d.kindOf x=some .free)->∃c,X.d.cells.lookup x=some c
 p:∀x c,X.i x=true->X.d.cells.lookup x=some c->X.s₀.heap.objs.size<=c
 g:X.f=true->X.A.handled=none
 f:X.A.frames=some X.Z
 s:X.Z=X.h\/(X.Z=X.d::X.h/\X.d.frame=some X.d.locals)
 r:∀b∈X.l,b≠X.d.locals/\∀x c,X.d.cells.lookup x=some c->c≠b
 bs:∀b o,X.T.get? b=some o->X.s₀.heap.get? b=some o/\X.H₀ b=none
 j:X.T.objs.size<=X.s₀.heap.objs.size
 n:∀b o,X.T.get? b=some o->b∉X.l
 l:∀b∈X.l,b∉X.k
 uX:X.s₀.heap.FunFrames X.T X.h
 i:∀b∈X.k,X.H₀ b=none
structure am(X:Cx)(π:Zp)(σ:List (Option V))(H:Hp)(s:a7):Prop where
 R:X.O
 os:s.os=X.s₀.os
 LE:yb s.gens
 T:Un X.k X.l X.H₀ H X.s₀.heap s.heap
 loc:∃m,s.heap.Ns X.d.locals m/\∀(i:Nat) (x:Str) (v:V),X.N[i]? = some x->σ[i]? = some (some v)->i' X.d.scope x->∃u,bn v u/\AT X.d s.heap m x u
 cell:∀x c,X.d.cells.lookup x=some c->∃v,s.heap.IsCell c v
 Y:H X.d.locals=none
 freeC:∀x c,X.d.cells.lookup x=some c->H c=none
 pin:∀p∈X.n++π,s.heap.get? p.1=some p.2/\H p.1=none/\p.1≠X.d.locals/\p.1∉X.k/\∀v,p.2.data≠.cell v
 W:hM X.p X.w H s.heap
 mt:σ.length=X.N.length
section
variable {X:Cx}
theorem Cx.O.t(ok:X.O)(e:X.T.get? b=some o):b∉X.k:=λa=>by
 have:=(ok.uX.mem a).1
 rw[e] at this;cases this
theorem am.bs(I:am X π σ H s):∀b o,X.T.get? b=some o->s.heap.get? b=some o/\H b=none:=λb o e=>
 ⟨I.T.Z b o (I.R.bs b o e).1 (I.R.bs b o e).2 (I.R.t e)<|I.R.n b o e,I.T.Y b o (I.R.bs b o e).1 (I.R.bs b o e).2<|I.R.n b o e⟩
theorem am.bk(I:am X π σ H s):∀b o,X.T.get? b=some o->s.heap.get? b=some o:=λb o e=>(I.bs b o e).1
theorem am.mod(I:am X π σ H s):Mod X.K X.m X.T:=I.R.mod
theorem am.kIn(I:am X π σ H s):X.K.In s.heap:=I.R.mod.k.keeps I.bk
theorem am.lt(I:am X π σ H s):X.d.locals<s.heap.objs.size:=by refine oj I.loc λ_ hn _=>?_;exact hn.lt
theorem am.sz(I:am X π σ H s):X.s₀.heap.objs.size<=s.heap.objs.size:=dS I.R.d<|zC I.lt
theorem am.aic(I:am X π σ H s){a:Addr}(h:s.heap.objs.size<=a):a∉X.k:=λb=>by
 obtain⟨_,o,c,_⟩:=I.R.uX.mem b;exact absurd (cf (aS c)<|dS I.sz h)<|fS _
theorem am.cne(I:am X π σ H s):∀x c,X.d.cells.lookup x=some c->c≠X.d.locals:=λx c e z=>by
 refine Y' (I.cell x c e) λv o d hd=>?_;refine oj I.loc λm zq1 _=>?_;obtain⟨f,h,g,a,b,_⟩:=zq1;rw[z,a] at d;cases d;rw[b] at hd;cases hd
theorem am.uX(I:am X π σ H s):s.heap.FunFrames X.T X.h:=by
 have all:∀(l:List Env),(∀b∈eh l,b∈X.k)->X.s₀.heap.FunFrames X.T l->s.heap.FunFrames X.T l:=by
  intro l;induction l with
  |nil=>intro _ _;trivial
  |cons env r ih=>
   intro f j;refine ZI j λg zq1 i=>?_;obtain⟨L,o,c,k,h,hd⟩:=zq1;have d:L∈X.k:=f L (by unfold eh;rw[nX,c];exact ai);obtain⟨m,e⟩:=I.T.S L o h (I.R.i L d) d λz=>I.R.l L z d;exact⟨g,⟨L,_,c,k,e,hd⟩,ih (λb a=>f b (by unfold eh;rw[nX,c];exact af _ a)) i⟩
 exact all X.h (λ_ a=>a) I.R.uX
theorem am.Z(I:am X π σ H s):s.heap.FunFrames X.T X.Z:=by
 rcases I.R.s with e|⟨e,a⟩
 .rw[e];exact I.uX
 rw[e];refine oj I.loc λm b _=>?_;refine .cons (by rw[I.R.k];decide) a b ?_ I.uX;exact AU<|dS I.R.j I.R.d
theorem am.LC(I:am X π σ H s):∀b∈eh X.Z,b∈X.d.locals::X.k:=λb a=>by
 rcases I.R.s with e|⟨e,c⟩
 .rw[e] at a;exact af _ a
 rw[e] at a;unfold eh at a;rw[nX,c] at a;exact a
theorem am.Af(I:am X π σ H s):∀b∈eh X.Z,H b=none:=λb a=>by
 rcases a9.mp (I.LC b a) with e|a
 .rw[e];exact I.Y
 obtain⟨_,o,c,_⟩:=I.R.uX.mem a;exact I.T.Y b o c (I.R.i b a) λz=>I.R.l b z a
theorem am.step{ch:List Addr}(I:am X π σ H s)
  (C:∀b∈ch,(b∈X.l\/X.s₀.heap.objs.size<=b)/\b≠X.d.locals/\(∀x c,X.d.cells.lookup x=some c->c≠b)/\∀p∈X.n++π,p.1≠b)
  (J:∀b o,b≠X.d.locals->b∉X.k->b∉ch->s.heap.get? b=some o->H b=none->h'.get? b=some o)
  (U:∀b o,b≠X.d.locals->b∈X.k->b∉ch->s.heap.get? b=some o->H b=none->∃sl,h'.get? b=some { o with slots:=sl}) (free:∀b o,b∉ch->s.heap.get? b=some o->H b=none->H' b=none)
  (there:∀b o,b∉ch->s.heap.get? b=some o->∃o',h'.get? b=some o')
  (tups:∀b xs,H b=some (.w xs)->H' b=some (.w xs)) (frzs:∀b o u,H b=some (.b o u)->H' b=some (.b o u)) (tbls:∀b ps,H b=some (.h ps)->∃more,H' b=some (.h<|ps++more))
  (ns:∀m,s.heap.Ns X.d.locals m->h'.Ns X.d.locals m) (hok:hM X.p X.w H' h') (hg:yb g'):
  am X π σ H' { s with heap:=h',gens:=g',drawn:=d',toks:=t'}:=by
 have A:∀b o,X.s₀.heap.get? b=some o->b≠X.d.locals:=λb o e=>b0<|cf (aS e) I.R.d;have h:∀b o,X.s₀.heap.get? b=some o->b∉X.l->b∉ch:=λb o e a t=>by
  rcases(C b t).1 with z|z
  .exact a z
  exact absurd (cf (aS e) z)<|fS _
 have g:∀x c,X.d.cells.lookup x=some c->∀v,s.heap.IsCell c v->h'.IsCell c v:=λx c e v ⟨o,y,hd⟩=>by
  have f:=λz=>(C c z).2.2.1 x c e rfl;by_cases G:c∈X.k
  .obtain⟨sl,q⟩:=U c o (I.cne x c e) G f y<|I.freeC x c e;exact⟨_,q,hd⟩
  exact⟨o,J c o (I.cne x c e) G f y<|I.freeC x c e,hd⟩
 refine⟨I.R,I.os,hg,⟨λb o e n t a=>?_,λb o e n t a=>?_,λb o e n a=>?_,λb o e a=>?_,λb xs e=>tups b xs<|I.T.M b xs e,λb o xs e=>frzs b o xs<|I.T.L b o xs e,λb ps e=>?_⟩,?_,λx c e=>?_,?_,λx c e=>?_,λp F=>?_,hok,I.mt⟩
 .exact J b o (A b o e) t (h b o e a) (I.T.Z b o e n t a)<|I.T.Y b o e n a
 .obtain⟨sl,j⟩:=I.T.S b o e n t a;obtain⟨D,B⟩:=U b _ (A b o e) t (h b o e a) j<|I.T.Y b o e n a;exact⟨D,B⟩
 .obtain⟨o',j⟩:=I.T.K b o e a;exact free b o' (h b o e a) j<|I.T.Y b o e n a
 .obtain⟨o',j⟩:=I.T.K b o e a;exact there b o' (h b o e a) j
 .obtain⟨K,j⟩:=I.T.N b ps e;obtain⟨M,B⟩:=tbls b _ j;exact⟨ _,by rw[B,oQ]⟩
 .refine oj I.loc λm O L=>?_;refine⟨m,ns m O,λi x v j B N=>?_⟩;refine oj (L i x v j B N) λu r l=>?_;refine⟨u,r,?_⟩;rcases l with l|⟨k,c,e,z⟩
  .exact .inl l
  exact .inr ⟨k,c,e,g x c e _ z⟩
 .obtain⟨v,z⟩:=I.cell x c e;exact⟨v,g x c e v z⟩
 .refine oj I.loc λm zq1 _=>?_;obtain⟨o,_,_,y,_⟩:=zq1;exact free _ o (λz=>(C _ z).2.1 rfl) y I.Y
 .refine Y' (I.cell x c e) λv o y hd=>?_;exact free c o (λz=>(C c z).2.2.1 x c e rfl) y<|I.freeC x c e
 refine Jk (I.pin p F) λe n E nf d=>?_;have f:=λz=>(C _ z).2.2.2 p F rfl;exact⟨J _ _ E nf f e n,free _ _ f e n,E,nf,d⟩
theorem am.S(I:am X π σ H s)(u:Un X.k [] H H' s.heap h')(C:hM X.p X.w H' h'):am X π σ H' { s with heap:=h',toks:=t'}:=by
 refine oj (id I.loc) λm zq1 _=>?_;obtain⟨o,l,t,g,r⟩:=zq1;obtain⟨k,j⟩:=u.w g I.Y (by simp);exact I.step (ch:=[]) (λ_ z=>nomatch z) (λb o _ d _ e n=>u.Z b o e n d<|by simp) (λb o _ d _ e n=>u.S b o e n d<|by simp) (λb o _ e n=>u.Y b o e n<|by simp) (λb o _ e=>u.K b o e<|by simp) u.M u.L u.N (λp h=>by
  refine Vq h λq c f a i=>?_;rw[g] at a;cases a;exact⟨_,c,f,j,i⟩) C I.LE
theorem am.call(I:am X π σ H s)(u:Un (eh X.Z) ch H H' s.heap h')(J:hM X.p X.w H' h')(U:yb g')
  (C:∀b∈ch,(b∈X.l\/X.s₀.heap.objs.size<=b)/\b≠X.d.locals/\(∀x c,X.d.cells.lookup x=some c->c≠b)/\∀p∈X.n++π,p.1≠b):
  am X π σ H' { s with heap:=h',gens:=g',drawn:=d',toks:=t'}:=by
 refine oj (id I.loc) λm zq1 _=>?_;obtain⟨o,t,A,i,r⟩:=zq1;obtain⟨q,h⟩:=u.w i I.Y λz=>(C _ z).2.1 rfl;exact I.step C (λb o h l a e n=>u.Z b o e n (λz=>(a9.mp<|I.LC b z).elim h l) a) (λb o _ _ a e n=>u.w e n a) (λb o a e n=>u.Y b o e n a) (λb o a e=>u.K b o e a) u.M u.L u.N (λv j=>by
  refine Vq j λy f g d k=>?_;rw[i] at d;cases d;exact⟨_,f,g,h,k⟩) J U
theorem am.turned(I:am X π σ H s)(k:∀b o,b≠C->s.heap.get? b=some o->h'.get? b=some o)(hn:H C=none)(J:C≠X.d.locals)
  (h1:C∈X.l\/X.s₀.heap.objs.size<=C) (U:∀x c,X.d.cells.lookup x=some c->c≠C) (h3:∀p∈X.n++π,p.1≠C):am X π σ H { s with heap:=h',toks:=t'}:=by
 have d:∀b u,H b=some u->b≠C:=λb u e z=>by rw[z,hn] at e;cases e
 refine I.step (ch:=[C]) (λb i=>?_) (λb o _ _ a e _=>k b o (λz=>a<|by simp[z]) e) (λb o _ _ a e _=>⟨ _,k b o (λz=>a<|by simp[z]) e⟩) (λ_ _ _ _ n=>n)
  (λb o a e=>⟨o,k b o (λz=>a<|by simp[z]) e⟩) (λ_ _ e=>e) (λ_ _ _ e=>e) (λb l e=>⟨#[],by rw[e];simp⟩) (λm f=>?_) (λb u e=>?_) I.LE
 .have e:b=C:=by simpa using i
  subst e;exact⟨h1,J,U,h3⟩
 .refine Vq f λo g j h r=>?_;exact⟨o,g,j,k _ o (eW J) h,r⟩
 refine(I.W b u e).F (λc v a q=>k c v ?_ q) (λ_ q=>q) λ_ _ q=>q;rcases a with z|z
 .rw[z];exact d b u e
 exact d c _ z
theorem am.tok(I:am X π σ H s) t :am X π σ H { s with toks:=t}:=I.S (h':=s.heap) (t':=t) Un.s I.W
theorem am.we(I:am X π σ H s)(k:∀b u,s.heap.get? b=some u->h'.get? b=some u):am X π σ H { s with heap:=h',toks:=t'}:=I.S (Un.we k)<|I.W.we k
theorem am.laid(I:am X π σ H s)(k:∀b u,s.heap.get? b=some u->h'.get? b=some u)(C:s.heap.objs.size<=a)(new:bZ X.p X.w (upd H a o) h' a o):
  am X π σ (upd H a o) { s with heap:=h',toks:=t'}:=I.S (Un.laid k C<|I.W.n C)<|I.W.laid k C new
theorem am.write(I:am X π σ H s)(U:zl (H x))(J:e=x\/H e=some (.we x))(k:∀b u,b≠e->s.heap.get? b=some u->h'.get? b=some u)(C:∃u,h'.get? e=some u)
  (new:bZ X.p X.w (upd H x o) h' x o):am X π σ (upd H x o) { s with heap:=h',toks:=t'}:=I.S (Un.write U J k C)<|I.W.write U J k C new
theorem am.weak(I:am X π σ H s)(o:σ'.length=σ.length)(w:∀(i:Nat) v,σ'[i]? = some (some v)->σ[i]? = some (some v)):am X π σ' H s:=
 ⟨I.R,I.os,I.LE,I.T,(by refine oj I.loc λm hn hl'=>?_;exact ⟨m,hn,λi x v a c b=>hl' i x v a (w i v c) b⟩),I.cell,I.Y,I.freeC,I.pin,I.W,o.trans I.mt⟩
theorem am.Sg(I:am X π σ H s)(h:∀p∈pins',s.heap.get? p.1=some p.2/\H p.1=none/\p.1≠X.d.locals/\p.1∉X.k/\∀v,p.2.data≠.cell v):am X pins' σ H s:=
 ⟨I.R,I.os,I.LE,I.T,I.loc,I.cell,I.Y,I.freeC,λp a=>(bE.mp a).elim (λz=>I.pin p<|sD _ z)<|h p,I.W,I.mt⟩
theorem Hn{N:List Str}(o:N.Nodup){j:Nat}(a:N[i]? = some x)(b:N[j]? = some x):i=j:=by
 obtain⟨f,c⟩:=dn.mp a;obtain⟨e,d⟩:=dn.mp b;exact(List.getElem_inj o).mp (c.trans d.symm)
theorem Jr(I:am X π σ H s)(hN:X.N.Nodup)(J:X.N[i]? = some x)(C:k6 X.d.scope x)(r:bn v u)
  (h:∀s',am X π (σ.set i<|some v) H s'->(∃a,kA a s.heap s'.heap/\(a=X.d.locals\/X.d.cells.lookup x=some a))->Q () s') (hf:autoParam (X.i x=true\/X.d.scope.names.lookup x=some .local) iv):cb M A (storeName X.d x u) Q E s:=by
 refine oj (id I.loc) λm hn hl=>?_;have P:(X.d.scope.kind==.class||(X.d.scope.kind==.module&&X.d.locals != X.d.globals))=false:=by rw[I.R.k];rfl
 have G:i<σ.length:=by rw[I.mt];exact(dn.mp J).1
 have cne:=I.cne;have l:∀{a:Addr} {h':Heap},(∃o,s.heap.get? a=some o/\H a=none)->kA a _ h'->hM _ _ H h':=λ{a h'} ha f b ob e=>by
  refine oj ha λ_ _ B=>?_;refine(I.W b ob e).F (λc Z t q=>(f.2 c ?_).trans q) (λ_ q=>q) λ_ _ q=>q;rintro rfl;rcases t with rfl|t
  .rw[B] at e;cases e
  rw[B] at t;cases t
 rcases C with F|F
 .refine wpAny_storeName_local F hn (λh' hn' f=>?_) P;refine Vq (id hn) λoL _ _ hoL _=>?_;refine h _ ⟨I.R,I.os,I.LE,⟨λb o e n O C=>?_,λb o e n O C=>?_,I.T.Y,λb o e C=>?_,I.T.M,I.T.L,I.T.N⟩,⟨_,hn',λj y v' g D e3=>?_⟩,λy c e=>?_,I.Y,I.freeC,λp hp=>?_,l ⟨oL,hoL,I.Y⟩ f,by simpa using I.mt⟩ ⟨_,f,.inl rfl⟩
  .exact(f.2 b<|b0<|cf (aS e) I.R.d).trans (I.T.Z b o e n O C)
  .obtain⟨U,g⟩:=I.T.S b o e n O C;exact⟨U,(f.2 b<|b0<|cf (aS e) I.R.d).trans g⟩
  .obtain⟨o',g⟩:=I.T.K b o e C;exact⟨o',(f.2 b<|b0<|cf (aS e) I.R.d).trans g⟩
  .by_cases L:j=i
   .subst L;rw[J] at g;cases g;rw[br G] at D;cases D;exact⟨u,r,.inl ⟨F,by simp⟩⟩
   rw[bX<|eW L] at D;refine oj (hl j y v' g D e3) λu' r' q=>?_;refine⟨u',r',?_⟩;rcases q with⟨k,e⟩|⟨k,c,e,z⟩
   .refine .inl ⟨k,?_⟩
    have:y≠x:=λe=>L<|Hn hN g<|e▸J
    simp[this,e]
   exact .inr ⟨k,c,e,z.sameBut f<|cne y c e⟩
  .obtain⟨Z,z⟩:=I.cell y c e;exact⟨Z,z.sameBut f<|cne y c e⟩
  refine Jk (I.pin p hp) λe n W nf d=>?_;exact⟨(f.2 _ W).trans e,n,W,nf,d⟩
 have K:X.i x=true:=by
  rcases hf with z|z
  .exact z
  rw[z] at F;cases F
 obtain⟨c,t⟩:=I.R.q x<|.inl F;obtain⟨Z,z⟩:=I.cell x c t;refine wpAny_storeName_cell I.R.k F t z λh' R f=>?_;refine oj (id z) λoc S V=>?_;refine h _ ⟨I.R,I.os,I.LE,⟨λb o e n O C=>?_,λb o e n O C=>?_,I.T.Y,λb o e C=>?_,I.T.M,I.T.L,I.T.N⟩,⟨m,hn.sameBut f<|eW<|cne x c t,λj y v' g D e3=>?_⟩,λy Y e=>?_,I.Y,I.freeC,λp hp=>?_,l ⟨oc,S,I.freeC x c t⟩ f,by simpa using I.mt⟩ ⟨c,f,.inr t⟩
 .exact(f.2 b<|b0<|cf (aS e)<|I.R.p x c K t).trans (I.T.Z b o e n O C)
 .obtain⟨U,g⟩:=I.T.S b o e n O C;exact⟨U,(f.2 b<|b0<|cf (aS e)<|I.R.p x c K t).trans g⟩
 .obtain⟨o',g⟩:=I.T.K b o e C;exact⟨o',(f.2 b<|b0<|cf (aS e)<|I.R.p x c K t).trans g⟩
 .by_cases L:j=i
  .subst L;rw[J] at g;cases g;rw[br G] at D;cases D;exact⟨u,r,.inr ⟨.inl F,c,t,R⟩⟩
  rw[bX<|eW L] at D;refine oj (hl j y v' g D e3) λu' r' q=>?_;refine⟨u',r',?_⟩;rcases q with q|⟨k,Y,e,z'⟩
  .exact .inl q
  refine .inr ⟨k,Y,e,z'.sameBut f ?_⟩;rintro rfl;exact L<|Hn hN g<|I.R.inj _ _ _ e t▸J
 .by_cases T:Y=c
  .subst T;exact⟨_,R⟩
  obtain⟨w2,z2⟩:=I.cell y Y e;exact⟨w2,z2.sameBut f T⟩
 refine Jk (I.pin p hp) λe n W nf d=>?_;refine⟨(f.2 _ ?_).trans e,n,W,nf,d⟩;intro q;rw[q,S] at e;have q':=cE e;exact d Z (by rw[<-q'];exact V)
theorem vo(I:am X π σ H s)(o:X.N.Nodup)(U:X.N[i]? = some x)(C:k6 X.d.scope x)(r:bn v u)
  (h:∀s',am X π (σ.set i<|some v) H s'->Q () s') (J:autoParam (X.i x=true\/X.d.scope.names.lookup x=some .local) iv):cb M A (storeName X.d x u) Q E s:=
 Jr I o U C r (λs' a _=>h s' a) J
theorem am.call'(I:am X π σ H s)(U:s'.os=s.os)(u:Un (eh X.Z) ch H H' s.heap s'.heap)(o:hM X.p X.w H' s'.heap)(J:yb s'.gens)
  (C:∀b∈ch,(b∈X.l\/X.s₀.heap.objs.size<=b)/\b≠X.d.locals/\(∀x c,X.d.cells.lookup x=some c->c≠b)/\∀p∈X.n++π,p.1≠b):am X π σ H' s':=by
 obtain⟨h',d,a,f,g⟩:=s';have e:=U;subst e;exact I.call u o J C
end
abbrev XK:=aI->Option Addr->Hp->Prop
abbrev St:=List<|Option V
abbrev VK:=V->Hp->Prop
abbrev TE:=St->Hp->VK->Prop
abbrev TT:=St->Hp->(Bool->Hp->Prop)->Prop
abbrev TA:=St->Hp->(List V->Hp->Prop)->Prop
structure hR where
 n:St->Hp->Prop
 r:VK
 bk:St->Hp->Prop:=λ_ _=>False
 c:St->Hp->Prop:=λ_ _=>False
abbrev TS:=hR->St->Hp->Prop
def EP(X:Cx)(C:Zp)(o:St)(Q:VK)(u:aI)(s':a7):Prop:=∃v H',am X C o H' s'/\bn v u/\Q v H'
def TP(X:Cx)(C:Zp)(o:St)(Q:Bool->Hp->Prop)(b:Bool)(s':a7):Prop:=∃H',am X C o H' s'/\Q b H'
def AP(X:Cx)(C:Zp)(o:St)(Q:List V->Hp->Prop)(us:List aI)(s':a7):Prop:=∃a H',am X C o H' s'/\a_ a us/\Q a H'
def SP(X:Cx)(o:Zp)(D:hR)(f:Flow)(s':a7):Prop:=
 match f with
 | .next=>∃a H',am X o a H' s'/\D.n a H'
 | .brk=>∃a H',am X o a H' s'/\D.bk a H'
 | .cont=>∃a H',am X o a H' s'/\D.c a H'
 | .ret u=>∃v a H',am X o a H' s'/\bn v u/\D.r v H'
def PE(X:Cx)(e:Expr)(t:TE):Prop:=
 ∀(b:Zp) (s:a7) (a:St) (H:Hp) (Q:VK),am X b a H s->t a H Q->cb (cK X.p X.w) X.A (eval e X.d) (EP X b a Q) X.g s
def PT(X:Cx)(e:Expr)(t:TT):Prop:=
 ∀(b:Zp) (s:a7) (a:St) (H:Hp) (Q:Bool->Hp->Prop),am X b a H s->t a H Q->cb (cK X.p X.w) X.A (isTrue e X.d<|eval e X.d) (TP X b a Q) X.g s
def PW(X:Cx)(e:Expr)(t:TT):Prop:=
 ∀(a:Sem aI) (c:Zp) (s:a7) (b:St) (H:Hp) (Q:Bool->Hp->Prop),am X c b H s->t b H Q->cb (cK X.p X.w) X.A (isTrue e X.d a) (TP X c b Q) X.g s
theorem PW.pt(h:PW X e t):PT X e t:=h _
def PA(X:Cx)(es:List Expr)(t:TA):Prop:=
 ∀(b:Pos) (c:Zp) (s:a7) (a:St) (H:Hp) (Q:List V->Hp->Prop),am X c a H s->t a H Q->cb (cK X.p X.w) X.A (spliced<|ij b<|ag es X.d) (AP X c a Q) X.g s
def PS(X:Cx)(st:Stmt)(t:TS):Prop:=
 ∀(b:Zp) (s:a7) (a:St) (H:Hp) (D:hR),am X b a H s->t D a H->cb (cK X.p X.w) X.A (exec st X.d) (SP X b D) X.g s
def lS(X:Cx)(st:List Stmt)(t:TS):Prop:=
 ∀(b:Zp) (s:a7) (a:St) (H:Hp) (D:hR),am X b a H s->t D a H->cb (cK X.p X.w) X.A (execs st X.d) (SP X b D) X.g s
theorem ce(h:cb M A t Q E s)(o:∀a s,Q a s->Q' a s):cb M A t Q' E s:=gN h o λ_ _ x=>x
section
variable {X:Cx}
def LS(i:Nat):TE:=λa H Q=>∃v,a[i]? = some (some v)/\Q v H
def tC(v:V):TE:=λ_ H Q=>Q v H
theorem iG(C:X.N[i]? = some x)(J:i' X.d.scope x)(hd:autoParam ((x==("__debug__":Str))=false) YI)(o:autoParam ((x==("__classdict__":Str))=false) YI):PE X (.Name x pos) (LS i):=by
 intro f s j H Q I h;refine oj h λv e h=>?_;refine oj I.loc λm n k=>?_;refine oj (k i x v C e J) λu r l=>?_;have fin:EP X f j Q u s:=⟨v,H,I,r,h⟩;rcases l with⟨b,g⟩|⟨b,c,d,a⟩
 .exact wpAny_Name (wpAny_loadName_local I.R.k b n g fin) hd
 rcases b with b|b
 .exact wpAny_Name (wpAny_loadName_cell I.R.k b d a fin) hd
 exact wpAny_Name (wpAny_loadName_free I.R.k b d a fin o) hd
def Gl(X:Cx)(x:Str):Prop:=X.d.kindOf x=some .globalImplicit
theorem sY(I:am X π σ H s)(o:Gl X x)(C:X.m x=some u)(h:Q u s)
  (hd:autoParam ((x==("__debug__":Str))=false) YI):cb (cK X.p X.w) X.A (eval (.Name x pos) X.d) Q E s:=
 uk I.R.k o (Calls.loadGlobal_global (by rw[I.R.h];exact I.mod.h.keeps I.bk) C h) hd
theorem vB(I:am X π σ H s)(J:Gl X x)(o:X.m x=none)(C:cx x=some u)(h:Q u s)
  (U:autoParam (x≠"__name__") YI) (hd:autoParam ((x==("__debug__":Str))=false) YI):cb (cK X.p X.w) X.A (eval (.Name x pos) X.d) Q E s:=by
 refine oj I.mod.m λmb b a=>?_;exact uk I.R.k J (Calls.loadGlobal_builtin (by rw[I.R.h];exact I.mod.h.keeps I.bk) o (by rw[I.R.m];exact b.keeps I.bk) ((a x U).trans C) h) hd
theorem Mr(o:Gl X x)(C:X.m x=some u)(r:bn v u)(hd:autoParam ((x==("__debug__":Str))=false) YI):PE X (.Name x pos) (tC v):=
 λ_ _ _ H _ I h=>sY I o C ⟨v,H,I,r,h⟩ hd
theorem TY(J:Gl X x)(o:X.m x=none)(C:cx x=some u)(r:bn v u)(U:autoParam (x≠"__name__") YI)(hd:autoParam ((x==("__debug__":Str))=false) YI):PE X (.Name x pos) (tC v):=
 λ_ _ _ H _ I h=>vB I J o C ⟨v,H,I,r,h⟩ U hd
variable {a:Expr}{ta tb:TE}
def tB(t:TE):TT:=λa H Q=>t a H λx H1=>∃c,x=.B c/\Q c H1
theorem Sa(h:PE X e t)(C:autoParam (∀o,isTrue e X.d o=(do let v<-o;C1 e.pos;qq [v] (truthy v))) YN):PT X e (tB t):=by
 intro a s g H Q I i;refine isTrue_plain (ce (h a s g H _ I i) λv k c=>f3 c λx H1 j f b=>?_)<|C _;obtain⟨d,rfl,q⟩:=b;subst f;exact kM ⟨H1,j,q⟩
def LB(t u:TT):TT:=λa H Q=>t a H λc H1=>if c=true then u a H1 Q else Q false H1
def Kk(t u:TT):TT:=λa H Q=>t a H λc H1=>if c=true then Q true H1 else u a H1 Q
def LH(t:TT):TT:=λa H Q=>t a H λc H1=>Q (!c) H1
theorem TK(o:PT X a tA):PW X (.BoolOp .And [a] pos) tA:=by
 intro wh d s b H Q I h;refine isTrue_and<|ce (o d s b H Q I h) λc f e=>?_;cases c with
 |true=>exact isTrue_and_nil e
 |false=>exact e
theorem QU(o:PT X a tA):PW X (.BoolOp .Or [a] pos) tA:=by
 intro wh d s b H Q I h;refine isTrue_or<|ce (o d s b H Q I h) λc f e=>?_;cases c with
 |false=>exact isTrue_or_nil e
 |true=>exact e
theorem QI(C:PT X a tA)(o:PW X (.BoolOp .And (b::rest) pos) tB'):PW X (.BoolOp .And (a::b::rest) pos) (LB tA tB'):=by
 intro wh e s d H Q I h;refine isTrue_and<|ce (C e s d H _ I h) λc i zz0=>?_;refine oj zz0 λH1 f g=>?_;cases c with
 |true=>exact o wh e i d H1 Q f g
 |false=>exact⟨H1,f,g⟩
theorem ME(C:PT X a tA)(o:PW X (.BoolOp .Or (b::rest) pos) tB'):PW X (.BoolOp .Or (a::b::rest) pos) (Kk tA tB'):=by
 intro wh e s d H Q I h;refine isTrue_or<|ce (C e s d H _ I h) λc i zz0=>?_;refine oj zz0 λH1 f g=>?_;cases c with
 |true=>exact⟨H1,f,g⟩
 |false=>exact o wh e i d H1 Q f g
theorem P9(o:PT X a tA):PT X (.UnaryOp .Not a pos) (LH tA):=by
 intro d s b H Q I h;exact isTrue_not<|o d s b H (λc H1=>Q _ H1) I h
def OG(ta tb:TE):TE:=λa H Q=>ta a H λx H1=>∃c,x=.B c/\if c=true then tb a H1 Q else Q (.B false) H1
def LP(ta tb:TE):TE:=λa H Q=>ta a H λx H1=>∃c,x=.B c/\if c=true then Q (.B true) H1 else tb a H1 Q
theorem Si(o:PE X a ta)(C:PE X (.BoolOp .And (b::rest) pos) tb):PE X (.BoolOp .And (a::b::rest) pos) (OG ta tb):=by
 intro e s f H Q I h;refine BoolOp_and<|ce (o e s f H _ I h) λv k i=>f3 i λx H1 g j d=>?_;obtain⟨c,rfl,d⟩:=d;subst j;refine kM ?_;cases c with
 |true=>exact C e k f H1 Q g d
 |false=>exact⟨.B _,H1,g,rfl,d⟩
theorem NX(o:PE X a ta)(C:PE X (.BoolOp .Or (b::rest) pos) tb):PE X (.BoolOp .Or (a::b::rest) pos) (LP ta tb):=by
 intro e s f H Q I h;refine BoolOp_or<|ce (o e s f H _ I h) λv k i=>f3 i λx H1 g j d=>?_;obtain⟨c,rfl,d⟩:=d;subst j;refine kM ?_;cases c with
 |false=>exact C e k f H1 Q g d
 |true=>exact⟨.B true,H1,g,rfl,d⟩
end
def eO(K:bg)(H:Hp)(a:Addr)(xs:List V):Prop:=
 Rd H a (.P xs) ∨
  ∃(o:Obj) (b:Array aI) (n:Nat),K.lookup a=some o/\o.cls=.type "list"/\o.dict=none/\o.data=.seq b n/\b.size<=aw/\a_ xs b.toList
def h_(K:bg)(H:Hp)(a:Addr)(xs:List V):Prop:=
 Rd H a (.w xs) ∨
  ∃(o:Obj) (b:Array aI) (n:Nat),K.lookup a=some o/\o.cls=.type "tuple"/\(o.data=.seq b n/\o.dict=none)/\b.size<=aw/\a_ xs b.toList
abbrev ew(K:bg)(a:Addr)(xs:List V):Prop:=
  ∃(o:Obj) (b:Array aI) (n:Nat),K.lookup a=some o/\o.cls=.type "tuple"/\(o.data=.seq b n/\o.dict=none)/\b.size<=aw/\a_ xs b.toList
def lz(K:bg)(H:Hp)(a:Addr)(xs:List V):Prop:=H a=some (.w xs)\/ew K a xs
theorem lz.s{K:bg}(h:lz K H a xs):h_ K H a xs:=h.elim (λe=>.inl<|.inl e) .inr
theorem lz.c{K:bg}(h:H a=some (.w xs)):lz K H a xs:=.inl h
noncomputable def L1:aI->Option V
 | .none=>some .E
 | .bool b=>some<|.B b
 | .int i _=>some<|.l i
 | .str x _=>some<|.p x
 | .bytes b _=>some<|.c b
 | .float b _=>some<|.f b
 | .ref a=>some<|.r a
 | .type n=>some<|.t n
 |_=>none
theorem bn.a(r:bn x u):L1 u=some x:=by
 cases x with
 |E=>subst r;rfl
 |B _=>subst r;rfl
 |l _=>obtain⟨t,rfl⟩:=r;rfl
 |p _=>obtain⟨t,rfl⟩:=r;rfl
 |c _=>obtain⟨t,rfl⟩:=r;rfl
 |f _=>obtain⟨t,rfl⟩:=r;rfl
 |r _=>subst r;rfl
 |t _=>subst r;rfl
theorem bn.inj(r:bn x u)(q:bn y u):x=y:=cE<|r.a.symm.trans q.a
theorem a_.inj:∀{xs ys:List V} {us:List aI},a_ xs us->a_ ys us->xs=ys:=by
 intro xs ys us h;induction h generalizing ys with
 |nil=>intro k;cases k;rfl
 |cons r t ih=>intro k;cases k with|cons r' t'=>rw[r.inj r',ih t']
section
variable {σ:St}
theorem eO.c{K:bg}(h:H a=some (.P xs)):eO K H a xs:=.inl<|.inl h
theorem am.IO(I:am X π σ H s)(h:eO X.K H a xs):∃C,a_ xs C/\PlainL s.heap a C.toArray/\xs.length<=aw:=by
 rcases h with h|⟨o,C,n,c,b,hd,d,f,r⟩
 .obtain⟨z,C,n,r,e⟩:=h.R I.W;exact⟨C,r,⟨_,n,e,rfl,rfl,rfl⟩,z⟩
 refine⟨ _,r,⟨o,n,I.kIn a o c,b,hd,d⟩,?_⟩;have e:=r.l;simp only[tm] at e
 lia
theorem am.Id(I:am X π σ H s)(h:h_ X.K H a xs):∃C,a_ xs C/\IsTup s.heap a C.toArray/\xs.length<=aw:=by
 rcases h with h|⟨o,C,n,c,b,d,f,r⟩
 .obtain⟨z,C,r,p⟩:=h.R I.W;exact⟨C,r,p.L,z⟩
 refine⟨C.toList,r,⟨o,I.kIn a o c,b,n,d.1⟩,?_⟩;have e:=r.l;simp only[tm] at e
 lia
theorem am.Hl(I:am X π σ H s)(h:eO X.K H a xs)(h':eO X.K H a ys):xs=ys:=by
 refine o5 (I.IO h) λj r zq2 _=>?_;obtain⟨o,n,e,_,_,d⟩:=zq2;refine o5 (I.IO h') λb i zq2 _=>?_;obtain⟨k,l,c,_,_,f⟩:=zq2;rw[e] at c;cases c;rw[d] at f;injection f with g _
 have:j=b:=by simpa using congrArg zD g
 subst this;exact r.inj i
theorem am.Jz(I:am X π σ H s)(h:h_ X.K H a xs)(h':h_ X.K H a ys):xs=ys:=by
 refine o5 (I.Id h) λj r zq2 _=>?_;obtain⟨o,e,_,n,d⟩:=zq2;refine o5 (I.Id h') λb i zq2 _=>?_;obtain⟨k,c,_,l,f⟩:=zq2;rw[e] at c;cases c;rw[d] at f;injection f with g _
 have:j=b:=by simpa using congrArg zD g
 subst this;exact r.inj i
end
abbrev Cx.wish(X:Cx)(E:Zs):Cx:={ X with g:=E}
abbrev Cx.q(X:Cx):Cx:=X.wish λ_ _=>False
theorem Cx.O.wish{X:Cx}(ok:X.O) E :(X.wish E).O:=
 ⟨ok.mod,ok.k,ok.h,ok.m,ok.d,ok.inj,ok.q,ok.p,ok.g,ok.f,ok.s,ok.r,ok.bs,ok.j,ok.n,ok.l,ok.uX,ok.i⟩
theorem Cx.O.Mt{X:Cx}(ok:(X.wish E).O):X.O:=
 ⟨ok.mod,ok.k,ok.h,ok.m,ok.d,ok.inj,ok.q,ok.p,ok.g,ok.f,ok.s,ok.r,ok.bs,ok.j,ok.n,ok.l,ok.uX,ok.i⟩
section
variable {σ:St}
theorem am.wish(I:am X π σ H s) E :am (X.wish E) π σ H s:=⟨I.R.wish E,I.os,I.LE,I.T,I.loc,I.cell,I.Y,I.freeC,I.pin,I.W,I.mt⟩
theorem am.Mt(I:am (X.wish E) π σ H s):am X π σ H s:=⟨I.R.Mt,I.os,I.LE,I.T,I.loc,I.cell,I.Y,I.freeC,I.pin,I.W,I.mt⟩
end
section
variable {st:Stmt}{t u:TS}{te:TE}
def OL(t u:TS):TS:=λD a H=>t { D with n:=u D} a H
theorem Ho(o:PS X st t)(C:lS X rest u):lS X (st::rest) (OL t u):=by
 intro b s c H D I h;refine y7<|ce (o b s c H _ I h) λf e q=>?_;cases f with
 |next=>
  refine Y' q λa H' d q=>?_;exact C b e a H' D d q
 |ret v=>exact q
 |brk=>exact q
 |cont=>exact q
theorem Fb(o:PS X st t):lS X [st] t:=by
 intro b s a H D I h;refine y7<|ce (o b s a H D I h) λf c q=>?_;cases f with
 |next=>exact mh q
 |ret v=>exact q
 |brk=>exact q
 |cont=>exact q
theorem am.quiet(I:am X π σ H s):interactive X.d=false:=by simp[interactive,I.R.k]
def NV(te:TE):TS:=λD a H=>te a H λ_ H1=>D.n a H1
theorem yq(C:PE X e te)(o:autoParam (eM e none pos.line X.d=pure false) YO):PS X (.Expr e pos) (NV te):=by
 intro c s a H D I h;exact wpAny_Expr_any (ce (C c s a H _ I h) λv g f=>f3 f λx H1 b i d=>⟨a,H1,b,d⟩) I.quiet o
def Lo(te:TE):TS:=λD a H=>te a H D.r
theorem Ko(o:PE X e te):PS X (.Return (some e) pos) (Lo te):=by
 intro c s a H D I h;exact wpAny_Return_some<|ce (o c s a H _ I h) λv i f=>f3 f λx H1 b g d=>⟨x,a,H1,b,g,d⟩
def Lv(c:TT)(t u:TS):TS:=λD a H=>c a H λb H1=>if b=true then t D a H1 else u D a H1
theorem OP(o:PT X c tc)(J:lS X a t)(C:lS X b u):PS X (.If c a b pos) (Lv tc t u):=by
 intro f s e H D I h;refine wpAny_If<|ce (o f s e H _ I h) λd j zz0=>?_;refine oj zz0 λH1 g i=>?_;cases d with
 |true=>exact J f j e H1 D g i
 |false=>exact C f j e H1 D g i
end
abbrev TG:=V->St->Hp->(St->Hp->Prop)->Prop
abbrev wP:=List V->St->Hp->(St->Hp->Prop)->Prop
def PG(X:Cx)(o:Expr)(t:TG):Prop:=
 ∀(c:Zp) (s:a7) (b:St) (H:Hp) (v:V) (u:aI) (Q:St->Hp->Prop),am X c b H s->bn v u->t v b H Q->
  cb (cK X.p X.w) X.A (sF o X.d u) (λ_ s'=>∃a H',am X c a H' s'/\Q a H') X.g s
def wc(X:Cx)(ts:List Expr)(t:wP):Prop:=
 ∀(c:Zp) (s:a7) (b:St) (H:Hp) (d:List V) (us:List aI) (Q:St->Hp->Prop),am X c b H s->a_ d us->t d b H Q->
  cb (cK X.p X.w) X.A (BG ((ja ts X.d).map (·.2)) us) (λ_ s'=>∃a H',am X c a H' s'/\Q a H') X.g s
abbrev Gg:=V->V->V->Hp->(Hp->Prop)->Prop
def F2(X:Cx)(t:Gg):Prop:=
 ∀(d:Zp) (s:a7) (a:St) (H:Hp) (o i v:V) (c b u:aI) (Q:Hp->Prop),am X d a H s->bn o c->bn i b->bn v u->t o i v H Q->
  cb (cK X.p X.w) X.A (C2 c b u) (λ_ s'=>∃H',am X d a H' s'/\Q H') X.g s
def HX(i:Nat):TG:=λv a H Q=>Q (a.set i<|some v) H
theorem UY(o:X.N.Nodup)(U:X.N[i]? = some x)(C:k6 X.d.scope x)(J:autoParam (X.i x=true\/X.d.scope.names.lookup x=some .local) iv):PG X (.Name x pos) (HX i):=by
 intro c s b H v u Q I r h;exact wpAny_assign_Name<|vo I o U C r (λd a=>⟨_,H,a,h⟩) J
def LV:wP:=λa b H Q=>a=[]/\Q b H
def MV(t:TG)(u:wP):wP:=λc b H Q=>∃v r,c=v::r/\t v b H λa H'=>u r a H' Q
theorem UE:wc X [] LV:=by
 intro b s a H d c Q I r h;obtain⟨e,h⟩:=h;subst e;exact assignInOrder_nil ⟨a,H,I,h⟩
theorem XU(J:PG X e t)(o:wc X es u)
  (C:autoParam ((ja (e::es) X.d).map (·.2)=sF e X.d::(ja es X.d).map (·.2)) YO):wc X (e::es) (MV t u):=by
 intro b s g H m l Q I r h;obtain⟨v,k,c,h⟩:=h;subst c;cases r with
 |cons r rr=>
  rw[C];refine vx<|ce (J b s g H _ _ _ I r h) λ_ i f=>?_;refine Y' f λa H1 j d=>?_;exact o b i a H1 _ _ Q j rr d
def Nc(K:bg)(n:Nat)(t:wP):TG:=λv b H Q=>∃a xs,v=.r a/\h_ K H a xs/\xs.length=n/\t xs b H Q
theorem Pv(J:X.f=true)(h:wc X es t)
  (U:autoParam ((ja es X.d).length=n) YO) (C:autoParam ((ja es X.d).findIdx? (·.1)=none) YO):PG X (.Tuple es k pos) (Nc X.K n t):=by
 intro d s f H v u Q I r c;obtain⟨a,i,l,p,w,c⟩:=c;subst l;subst r;refine o5 (I.Id p) λz g q y=>?_;refine assign_Tuple_tuple (I.R.g J) q (by simp[U,<-w,g.l]) C λm j=>?_;have x:am X d f H { s with heap:=m}:=I.we (t':=s.toks) λb o e=>j b o (b0<|aS e) e;exact h d _ f H i _ Q x (g) c
noncomputable def eE(I C:TE)(t:Gg):TG:=λv a H Q=>I a H λo H1=>C a H1 λi c=>t o i v c λb=>Q a b
theorem Zn(ho:PE X o to)(hi:PE X i ti)(hs:F2 X t)
  (U:∀v,sF (.Subscript o i pos) X.d v=(do
   let C<-qq [v] (eval o X.d)
   let J<-qq [v,C] (eval i X.d)
   C1 pos
   qq [v,C,J] (C2 C J v)
   release [v,C,J] []):=by intro _;rfl):PG X (.Subscript o i pos) (eE to ti t):=by
 intro b s a H v u Q I r h;refine ae<|i7<|ce (ho b s a H _ I h) λC l c=>f3 c λx H1 w k g=>?_;refine ae<|i7<|ce (hi b l a H1 _ w g) λJ f c=>f3 c λy j p q d=>?_;refine ae<|mM<|ae<|i7<|ce (hs b f a j x y v C J u _ p k q r d) λ_ z zz0=>?_;refine oj zz0 λe m n=>?_;exact wpAny_release ⟨a,e,m,n⟩
def ZZ(o:TE)(g:TG):TS:=λD a H=>o a H λx H1=>g x a H1 D.n
theorem KN(J:PE X e te)(U:PG X tg g)(C:autoParam (lh [tg] e pos.line X.d=pure false) YO)(o:autoParam (lj [tg] e X.d=pure none) YO)
  (h1:autoParam ((ja [tg] X.d).map (·.2)=[sF tg X.d]) YO):PS X (.Assign [tg] e pos) (ZZ te g):=by
 intro b s a H D I h;refine wpAny_Assign_stores (ce (J b s a H _ I h) λv c f=>f3 f λx H1 i j d=>?_) C o;rw[h1];exact ce (U b c a H1 x v _ i j d) λ_ k q=>q
theorem Dp(o:X.N.Nodup)(U:X.N[i]? = some x)(C:k6 X.d.scope x)(he:PE X e te)(hs:autoParam (eM e (some<|.Name x pos') pos.line X.d=pure false) YO)(J:autoParam (X.i x=true\/X.d.scope.names.lookup x=some .local) iv):
  PS X (.Assign [.Name x pos'] e pos) (ZZ te<|HX i):=by
 intro b s a H D I h;refine wpAny_Assign_Name (ce (he b s a H _ I h) λv k f=>f3 f λy H1 g j d=>?_) hs;exact vo g o U C j (λl c=>⟨_,H1,c,d⟩) J
def LW(i j:Nat)(o:TA):TS:=λD a H=>o a H λb H1=>∃v w,b=[v,w]/\D.n ((a.set i<|some v).set j<|some w) H1
theorem PF(hc:X.f=true)(J:X.N.Nodup)(hi:X.N[i]? = some x)(hj:X.N[j]? = some y)(C:i≠j)
  (U:X.d.scope.names.lookup x=some .local) (hy:X.d.scope.names.lookup y=some .local) (ha:PA X [a,b] ta)
  (hw:lj [.Tuple [.Name x px,.Name y py] kt pt] (.Tuple [a,b] k2 pt2) X.d=pure (some [x,y]))
  (hs:autoParam (lh [.Tuple [.Name x px,.Name y py] kt pt] (.Tuple [a,b] k2 pt2) pos.line X.d=pure false) YO):
  PS X (.Assign [.Tuple [.Name x px,.Name y py] kt pt] (.Tuple [a,b] k2 pt2) pos) (LW i j ta):=by
 intro m s t H D I h;rw[exec_Assign_arm];refine ae<|mM ?_;rw[hs];refine ae<|av ?_;rw[if_neg<|by decide];refine ae<|Tuple_<|ce (ha _ m s t H _ I h) λz s1 B=>f3 B λP H1 L E k=>?_;obtain⟨v,w,u,k⟩:=k;subst u;obtain⟨d,f,rfl,M,g⟩:∃d f,z=[d,f]/\bn v d/\bn w f:=by
  cases E with
  |cons p q=>
   cases q with
   |cons p' q'=>
    cases q';exact⟨_,_,rfl,p,p'⟩
 refine fw ?_ (by show 2<=aw;decide);have K:am X m t H1 { s1 with heap:=s1.heap.push { cls:=.type "tuple",data:=.seq [d,f].toArray } }:=L.we λb o e=>ah _ e;rw[hw];refine ae<|av ?_;show cb _ _ _ _ _ _;refine ae<|xo<|ae<|unpackItems_tuple (items:=#[d,f]) (I.R.g hc) (IsTup.new s1.heap _) λn l=>?_;have G:=K.we (h':=n) (t':=s1.toks) λb o e=>l b o (b0<|aS e) e;show cb _ _ (BG [λv=>CU X.d y v,λv=>CU X.d x v] [f,d] >>= λ_=>pure Flow.next) _ _ _;refine ae<|vx<|wpAny_bindName<|vo G J hj (.inl hy) g (λO F=>?_)<|.inr hy;refine vx<|wpAny_bindName<|vo F J hi (.inl U) M (λQ r=>assignInOrder_nil<|av ?_)<|.inr U;rw[List.set_comm _ _<|eW C] at r;exact⟨_,H1,r,k⟩
def P_(c:TT)(tb:TS):TS:=λD a H=>∃W:Nat->St->Hp->Prop,(∃m,W m a H)/\∀m a H,W m a H->
 c a H λb H1=>if b=true then ∃N:St->Hp->Prop,(∀d H',N d H'->∃m',m'<m/\W m' d H')/\tb { D with n:=N,c:=N,bk:=D.n} a H1 else D.n a H1
theorem YW(o:zI (cK X.p X.w) X.A X.d X.g)(C:PT X c tc)(J:lS X body tb):PS X (.While c body [] pos) (P_ tc tb):=by
 intro l s E H D I h;refine oj h λW zq1 g=>?_;obtain⟨K,B⟩:=zq1;refine wpAny_While<|codeAny_whileLoop (λn L=>∃i H',am X l i H' L/\W n i H') ?_ K ⟨E,H,I,B⟩;intro n G zr2;refine Y' zr2 λd H1 M F=>?_;refine kP o<|ce (C l G d H1 _ M<|g n d H1 F) λb z zz0=>?_;refine oj zz0 λx y j=>?_;cases b with
 |true=>
  refine oj j λN u j=>?_;refine kP o<|ce (J l z d x _ y j) λf O k=>?_;cases f with
  |next=>
   refine Y' k λa e r t=>?_;refine oj (u a e t) λq m p=>?_;exact⟨q,m,a,e,r,p⟩
  |cont=>
   refine Y' k λa e r t=>?_;refine oj (u a e t) λq m p=>?_;exact⟨q,m,a,e,r,p⟩
  |brk=>exact k
  |ret v=>exact k
 |false=>
  exact mh ⟨d,x,y,j⟩
structure It where
 Y:Nat->Hp->Prop
 y:Nat->Hp->V->Hp->Prop
 s:Nat->Hp->Prop
def CG(X:Cx)(o:Zp)(H:Hp)(b:Addr):Prop:=
 H b=none/\b≠X.d.locals/\b∉X.k/\(b∈X.l\/X.s₀.heap.objs.size<=b)/\(∀x c,X.d.cells.lookup x=some c->c≠b)/\∀p∈X.n++o,p.1≠b
theorem am.QM(I:am X π σ H s)(o:s.heap.objs.size<=b)(C:H' b=none):CG X π H' b:=by
 refine⟨C,rX<|cf I.lt o,I.aic o,.inr<|dS I.sz o,λx c e z=>?_,λp a z=>?_⟩
 .obtain⟨v,q⟩:=I.cell x c e;exact absurd (cf q.lt (by rw[z];exact o))<|fS _
 exact absurd (cf (aS (I.pin p a).1) (by rw[z];exact o))<|fS _
abbrev fE(X:Cx):Prop:=X.f=true
structure mn(Cm:Cx->Prop)(P:b9)(w:eI)(K:bg)(tg:Expr)(J:It)(fp:List Addr)(it:Addr)(tn:Nat->Heap->Prop):Prop where
 m:it∈fp
 c:∀i h,tn i h->∀b∈fp,∃o,h.get? b=some o/\∀v,o.data≠.cell v
 Z:∀i h h',tn i h->(∀b∈fp,∀o,h.get? b=some o->h'.get? b=some o)->tn i h'
 a:∀(X:Cx),X.p=P->X.w=w->X.K=K->Cm X->∀(i:Nat) (π:Zp) (s:a7) (σ:St) (H:Hp) (E:Zs),am X π σ H s->(∀b∈fp,CG X π H b)->tn i s.heap->J.Y i H->
  cb (cK P w) X.A (BH (.ref it)) (λr s1=>∃u,r=some u/\
   cb (cK P w) X.A (zS tg (.ref it) u) (λ_ s2=>∃x H',am X π σ H' s2/\bn x u/\J.y i H x H'/\tn (i+1) s2.heap/\∀b∈fp,H' b=none) E s1) E s
 d:∀(X:Cx),X.p=P->X.w=w->X.K=K->Cm X->∀(i:Nat) (π:Zp) (s:a7) (σ:St) (H:Hp) (E:Zs),am X π σ H s->(∀b∈fp,CG X π H b)->tn i s.heap->J.s i H->
  cb (cK P w) X.A (BH (.ref it)) (λr s1=>r=none/\am X π σ H s1) E s
 e:∀(A:eJ) (i:Nat) (s:a7) (Q:Zs) (E:Zs),tn i s.heap->Q (.ref it) s->cb (cK P w) A (pyIter (.ref it)) Q E s
abbrev TI:=St->Hp->(It->Hp->Prop)->Prop
def E6(Cm:Cx->Prop)(X:Cx)(C:Zp)(I:St)(U:Expr)(R:It->Hp->Prop)(o:aI)(s2:a7):Prop:=
 ∃(a:Addr) (c:List Addr) (tn:Nat->Heap->Prop) (J:It) (H':Hp),o=.ref a/\am X C I H' s2/\mn Cm X.p X.w X.K U J c a tn/\tn 0 s2.heap/\(∀b∈c,CG X C H' b)/\R J H'
def PI(Cm:Cx->Prop)(X:Cx)(C o:Expr)(wi:TI):Prop:=
 ∀(b:Zp) (s:a7) (a:St) (H:Hp) (R:It->Hp->Prop),am X b a H s->wi a H R->
  cb (cK X.p X.w) X.A (eval o X.d) (λv s1=>cb (cK X.p X.w) X.A (pyIter v) (E6 Cm X b a C R) X.g s1) X.g s
theorem JW(J : s.heap.get? it = some o) (I : o.cls = .type n) (hd : o.data = .fields vs)
    (U : ["enumerate", "zip", "dict_itemiterator", "dict_reverseitemiterator", "odict_iterator", "itertools.zip_longest", "itertools.pairwise"].contains n = false) (C : Q () s) : cb M A (zS tg (.ref it) u) Q E s := by
  cases tg<;>first
    | exact av C
    | (cases u<;>first
        | exact av C
        | (refine ae (wpAny_load J ?_)
           rw [I, hd];show cb M A (if (["enumerate", "zip", "dict_itemiterator", "dict_reverseitemiterator", "odict_iterator", "itertools.zip_longest", "itertools.pairwise"].contains n && vs[0]? == some _) = true then _ else _) Q E s;rw [if_neg (by intro h;rw [U, Bool.false_and] at h;cases h)];exact av C))
def z_(K:bg)(a:Addr):It:=
 ⟨λi H=>∃xs x,eO K H a xs/\xs[i]? = some x,λi H x H'=>H'=H/\∀xs,eO K H a xs->xs[i]? = some x,λi H=>∃xs,eO K H a xs/\xs.length<=i⟩
def D_(K:bg)(a:Addr):It:=
 ⟨λi H=>∃xs x,h_ K H a xs/\xs[i]? = some x,λi H x H'=>H'=H/\∀xs,h_ K H a xs->xs[i]? = some x,λi H=>∃xs,h_ K H a xs/\xs.length<=i⟩
def z7(lo:Int)(n:Nat):It:=⟨λi _=>i<n,λi H x H'=>H'=H/\x=.l (lo+i),λi _=>n<=i⟩
theorem Wm{K:bg} a C :mn fE P w K J (z_ K a) [C] C (λi h=>h.IsListIter C a i) where
 m:=by simp
 c:=λi h f b g=>by
  have e:b=C:=by simpa using g
  subst e;refine o5 f λo e c d=>?_;exact⟨o,e,λv z=>by rw[d] at z;cases z⟩
 Z:=λi h l f k=>f.at λo e=>k C (by simp) o e
 a:=by
  intro X y F M O i N s Q H E I n f G;subst y F M;refine Y' G λR x m q=>?_;refine o5 (I.IO m) λW t p S=>?_;refine oj (t.d q) λu V ru=>?_;refine tL (n C<|by simp) λD B T r A L=>?_;refine pV f p.isList (x:=u) (by simpa using V) λl j sb=>?_;have U:am X N Q H { s with heap:=l}:=I.turned (t':=s.toks) (λb o g e=>(sb.2 b g).trans e) D B r A L;refine o5 (id j) λo e c d=>?_;exact⟨u,rfl,JW (s:={ s with heap:=l}) e c d (by decide) ⟨x,H,U,ru,⟨rfl,λys Z=>by rw[I.Hl Z m];exact q⟩,j,λb g=>(n b g).1⟩⟩
 d:=by
  intro X y F M O i N s Q H E I n f G;subst y F M;refine oj G λR m q=>?_;refine o5 (I.IO m) λW t p S=>?_;refine tL (n C<|by simp) λD B T r A L=>?_;have hl:=t.l;exact wpAny_pyNext_list_end (I.R.g O) f p.isList (by simp;lia) λl Y=>⟨rfl,I.turned (t':=s.toks) (λb o g e=>Y b o g e) D B r A L⟩
 e:=λ_ _ _ _ _ f h=>r6 f h
theorem RG{K:bg} a C :mn fE P w K J (D_ K a) [C] C (λi h=>h.IsTupleIter C a i) where
 m:=by simp
 c:=λi h f b g=>by
  have e:b=C:=by simpa using g
  subst e;refine o5 f λo e c d=>?_;exact⟨o,e,λv z=>by rw[d] at z;cases z⟩
 Z:=λi h l f k=>f.at λo e=>k C (by simp) o e
 a:=by
  intro X A G N Q i O s R H E I n f L;subst A G N;refine Y' L λS x m q=>?_;refine o5 (I.Id m) λr y p T=>?_;refine oj (y.d q) λu W ru=>?_;refine tL (n C<|by simp) λF D V t B M=>?_;refine wpAny_pyNext_tuple_item f (p) (by simpa using W) λl j sb=>?_;have U:=I.turned (t':=s.toks) (λb o g e=>(sb.2 b g).trans e) F D t B M;refine o5 (id j) λo e c d=>?_;exact⟨u,rfl,JW e c d (by decide) ⟨x,H,U,ru,⟨rfl,λys Z=>by rw[I.Jz Z m];exact q⟩,j,λb g=>(n b g).1⟩⟩
 d:=by
  intro X A G N Q i O s R H E I n f L;subst A G N;refine oj L λS m q=>?_;refine o5 (I.Id m) λr y p T=>?_;refine tL (n C<|by simp) λF D V t B M=>?_;have hl:=y.l;exact wpAny_pyNext_tuple_end (I.R.g Q) f (p) (by simp;lia) λl Y=>⟨rfl,I.turned (λb o g e=>Y b o g e) F D t B M⟩
 e:=λ_ _ _ _ _ f h=>wpAny_pyIter_tupleiter f h
theorem RX{K:PySem.W.Frag} C lo n :mn fE P w K J (z7 lo n) [C] C (λi h=>A6 h C (lo+(i:Nat)*1) ((n:Int)-(i:Nat)) 1) where
 m:=by simp
 c:=λi h a b c=>by
  have e:b=C:=by simpa using c
  subst e;exact⟨_,a,λv z=>by
   have F:=z;cases F⟩
 Z:=λi h f a k=>k C (by simp) _ a
 a:=by
  intro X l u A p i B s D H E I g a x;subst l u A;refine tL (g C<|by simp) λr q G j m y=>?_;have W:=Walks.range (prog:=X.p) (w:=X.w) (I.R.g p) C lo 1 n;refine W.item i s _ _ x a λv f tk M d N=>?_;obtain⟨t,rfl⟩:=M;have O:am X B D H { s with heap:=f,toks:=tk }:=I.turned (λb o c e=>N b o (by simpa using c) e) r q j m y;refine⟨_,rfl,JW d rfl rfl (by decide) ⟨.l<|lo+i,H,O,⟨t,?_⟩,⟨rfl,rfl⟩,d,λb c=>(g b c).1⟩⟩;rw[C4]
 d:=by
  intro X l u A p i B s D H E I g a x;subst l u A;refine tL (g C<|by simp) λr q G j m y=>?_;exact wpAny_pyNext_range_end (I.R.g p) a (by have:n<=i:=x;lia) λf L=>⟨rfl,I.turned (λb o c e=>L b o c e) r q j m y⟩
 e:=λ_ _ _ _ _ a h=>wpAny_pyIter_rangeiter a h
section
variable {tg:Expr}
def HZ(K:bg)(o:TE):TI:=λb H R=>o b H λx H1=>∃a,x=.r a/\(∃xs,eO K H1 a xs)/\R (z_ K a) H1
def F9(K:bg)(o:TE):TI:=λb H R=>o b H λx H1=>∃a,x=.r a/\(∃xs,h_ K H1 a xs)/\R (D_ K a) H1
theorem VH(J:PE X l C):PI fE X tg l (HZ X.K C):=by
 intro f s k H R I h;refine ce (J f s k H _ I h) λv c i=>f3 i λx H1 d j g=>?_;refine o5 g λa e zq2 q=>?_;obtain⟨r,m⟩:=zq2;subst e;subst j;refine o5 (d.IO m) λu w p t=>?_;refine mP p.isList ?_;refine⟨ _,_,_,_,H1,rfl,d.we λb o e=>ah _ e,Wm a _,⟨_,bp _ rfl,rfl,rfl⟩,λb n=>?_,q⟩;have e:b=c.heap.objs.size:=by simpa using n
 subst e;exact d.QM (bb _)<|d.W.n<|bb _
theorem Pf(J:PE X l C):PI fE X tg l (F9 X.K C):=by
 intro f s k H R I h;refine ce (J f s k H _ I h) λv c i=>f3 i λx H1 d j g=>?_;refine o5 g λa e zq2 q=>?_;obtain⟨t,m⟩:=zq2;subst e;subst j;refine o5 (d.Id m) λr w p u=>?_;refine wpAny_pyIter_tuple (p) ?_;refine⟨ _,_,_,_,H1,rfl,d.we λb o e=>ah _ e,RG a _,⟨_,bp _ rfl,rfl,rfl⟩,λb n=>?_,q⟩;have e:b=c.heap.objs.size:=by simpa using n
 subst e;exact d.QM (bb _)<|d.W.n<|bb _
theorem Ql{U:St}{E:Zs}{lo:Int}(I:am X J U H s)(h1:-(2^62)<=lo)(h2:lo<2^62)(h3:-(2^62)<=C)(h4:C<2^62)
  (q:R (z7 lo (C-lo).toNat) H):cb (cK X.p X.w) X.A (pyIter<|.ref s.heap.objs.size) (E6 fE X J U tg R) E { s with heap:=s.heap.push { cls:=.type "range",data:=.fields #[.int lo t,.int C u,.int 1 v] },toks:=tk }:=by
 refine wpAny_pyIter_range (IsRange.new ..) (small_one h1 h2 h3 h4) ?_;have a:am X J U H { s with heap:=s.heap.push { cls:=.type "range",data:=.fields #[.int lo t,.int C u,.int 1 v] },toks:=tk }:=I.we λb o e=>ah _ e;refine⟨ _,_,_,_,H,rfl,
  a.we λb o e=>ah _ e,RX _ lo _,?_,λb f=>?_,q⟩
 .have c:lo+((0:Nat))*1=lo:=by simp
  have d:(((C-lo).toNat:Nat):Int)-((0:Nat):Int)=ly lo C 1:=by rw[rangeSize_one];split<;>lia
  show A6 _ _ _ _ 1;rw[c,d];exact bp _ rfl
 have e:b=(s.heap.push { cls:=.type "range",data:=.fields #[.int lo t,.int C u,.int 1 v] }).objs.size:=by simpa using f
 subst e;exact a.QM (bb _)<|a.W.n<|bb _
def MU(o:TA):TI:=λa H R=>o a H λb H1=>∃j:Int,b=[.l j]/\-(2^62)<=j/\j<2^62/\R (z7 0 j.toNat) H1
def N3(o:TA):TI:=λa H R=>o a H λb H1=>∃i j:Int,b=[.l i,.l j]/\(-(2^62)<=i/\i<2^62/\-(2^62)<=j/\j<2^62)/\R (z7 i (j-i).toNat) H1
theorem Wq(U:Gl X "range")(o:X.m "range" = none)(C:PA X [a] ta)(J:autoParam (ag [a] X.d=[(false,eval a X.d)]) YO):PI fE X tg (.Call (.Name "range" p) [a] [] pos) (MU ta):=by
 intro d s i H R I h;refine Call_<|vB I U o boot_range<|fy (ce (C _ d s i H _ I h) λl m f=>f3 f λn H1 k g b=>?_) J rfl;obtain⟨j,e,b,c,q⟩:=b;subst e;cases g with
 |cons r rr=>
  cases rr;obtain⟨t,rfl⟩:=r;exact call_range_1<|Ql k (by lia) (by lia) b c<|by simpa using q
theorem Wi(hg:Gl X "range")(C:X.m "range" = none)(J:PA X [a,b] ta)(U:autoParam (ag [a,b] X.d=[(false,eval a X.d),(false,eval b X.d)]) YO)(o:autoParam (ag [b] X.d=[(false,eval b X.d)]) YO):
  PI fE X tg (.Call (.Name "range" p) [a,b] [] pos) (N3 ta):=by
 intro g s f H R I h;refine Call_<|vB I hg C boot_range<|fy (ce (J _ g s f H _ I h) λy v m=>f3 m λw H1 n u c=>?_) (by rw[U,o]) (by rw[o];rfl);obtain⟨i,j,e,⟨c,d,k,l⟩,q⟩:=c;subst e;cases u with
 |cons r rr=>
  cases rr with
  |cons r' rr=>
   cases rr;obtain⟨t,rfl⟩:=r;obtain⟨x,rfl⟩:=r';exact call_range_2<|Ql n c d k l q
def Lm(wi:TI)(g:TG)(tb:TS):TS:=λD a H=>wi a H λJ H1=>∃W:Nat->Nat->St->Hp->Prop,(∃m,W 0 m a H1)/\∀i m a H,W i m a H->
 (J.s i H/\D.n a H)\/(J.Y i H/\∃N:St->Hp->Prop,(∀b H',N b H'->∃m',m'<m/\W (i+1) m' b H')/\∀x H',J.y i H x H'->g x a H' λc d=>tb { D with n:=N,c:=N,bk:=D.n} c d)
noncomputable def zN(C:List Addr)(h:Heap):Zp:=C.filterMap λb=>(h.get? b).map λo=>(b,o)
theorem wj(C:b∈fp)(e:h.get? b=some o):(b,o)∈zN fp h:=kB.mpr ⟨b,C,by rw[e];rfl⟩
theorem WM(C:p∈zN fp h):p.1∈fp/\h.get? p.1=some p.2:=by
 refine oj (kB.mp C) λb a e=>?_;cases q:h.get? b with
 |none=>rw[q] at e;cases e
 |some o=>
  rw[q] at e;have c:=cE e;subst c;exact⟨a,q⟩
theorem am.pinned(I:am X π σ H s)(J:∀b∈fp,CG X π H b)(C:∀b∈fp,∃o,s.heap.get? b=some o/\∀v,o.data≠.cell v):am X (π++zN fp s.heap) σ H s:=
 I.Sg λp i=>(bE.mp i).elim (λz=>I.pin p<|eD _ z) λz=>by
  obtain⟨a,e⟩:=WM z;refine ZN (J _ a) λg f h _=>?_;refine oj (C _ a) λo c d=>?_;rw[e] at c;cases c;exact⟨e,g,f,h,d⟩
theorem am.Bo(I:am X (π++pl) σ H s):am X π σ H s:=I.Sg λp a=>I.pin p<|eD _<|sD _ a
theorem PH(U:zI (cK X.p X.w) X.A X.d X.g)(hc:Cm X)(hi:PI Cm X tg iter wi)(hg:PG X tg g)(C:lS X body tb)
  (hs:autoParam (∀x,ip iter X.d x=pure x) YN):PS X (.For tg iter body [] pos) (Lm wi g tb):=by
 intro y s σ H D I h;refine wpAny_For (ce (hi y s σ H _ I h) λv s1 h1=>ce h1 λitv s2 h2=>?_) hs;obtain⟨it,G,tn,J,H2,e,I2,T,O,f2,W,⟨m0,w0⟩,F⟩:=h2;subst e;have c:∀{H':Hp},(∀b∈G,H' b=none)->∀b∈G,CG X y H' b:=λhn b C=>⟨hn b C,(f2 b C).2⟩;refine codeAny_forLoop_any (λn s'=>∃i q H',am X y q H' s'/\tn i s'.heap/\(∀b∈G,H' b=none)/\W i n q H') ?_ m0 ⟨0,σ,H2,I2,O,λb C=>(f2 b C).1,w0⟩;intro n s3 zr2;refine ZO zr2 λi k M I3 B L w3=>?_;rcases F i n k M w3 with⟨E,qn⟩|⟨go,N,hN,step⟩
 .refine kP U<|ce (T.d X rfl rfl rfl hc i y s3 k M _ I3 (c L) B E) λr s4 zz0=>?_;obtain⟨V,I4⟩:=zz0;subst V;exact mh ⟨k,M,I4,qn⟩
 refine kP U<|ce (T.a X rfl rfl rfl hc i y s3 k M _ I3 (c L) B go) λr s4 zz0=>?_;refine oj zz0 λu V h4=>?_;subst V;refine kP U<|ce h4 λ_ s5 R=>?_;refine yZ R λx Z I5 r5 y5 z Y=>?_;have S:=I5.pinned (c Y)<|T.c _ _ z;refine kP U<|ce (hg _ s5 k Z x u _ S r5<|step x Z y5) λ_ s6 R=>?_;refine Y' R λP H6 I6 q6=>?_;refine kP U<|ce (C _ s6 P H6 _ I6 q6) λf Q t=>?_;have j:∀{a:St} {l:Hp},am X _ a l Q->N a l->∃m,m<n/\∃i q H',am X y q H' Q/\tn i _/\(∀b∈G,H' b=none)/\W i m q H':=λ{a l} p K=>by
  refine oj (hN a l K) λm' hm w7=>?_;refine⟨m',hm,_,a,l,p.Bo,T.Z _ _ _ z λb C o e=>(p.pin _<|eD _<|eD _<|wj C e).1,λb C=>?_,w7⟩;refine oj (T.c _ _ z b C) λo e d=>?_;exact(p.pin _<|eD _<|eD _<|wj C e).2.1
 cases f with
 |next=>refine Y' t λa l p K=>?_;exact j p K
 |cont=>refine Y' t λa l p K=>?_;exact j p K
 |brk=>refine Y' t λa l p t=>?_;exact⟨a,l,p.Bo,t⟩
 |ret v=>refine Z_ t λx7 a l p r7 t=>?_;exact⟨x7,a,l,p.Bo,r7,t⟩
end
abbrev R2:=V->V->Hp->VK->Prop
def gc(X:Cx)(f:aI->aI->Sem aI)(r:R2):Prop:=
 ∀(b:Zp) (s:a7) (a:St) (H:Hp) (x y:V) (v u:aI) (Q:VK),am X b a H s->bn x v->bn y u->r x y H Q->
  cb (cK X.p X.w) X.A (f v u) (EP X b a Q) X.g s
def D8(X:Cx)(f:aI->Sem aI)(r:V->Hp->VK->Prop):Prop:=
 ∀(b:Zp) (s:a7) (a:St) (H:Hp) (x:V) (v:aI) (Q:VK),am X b a H s->bn x v->r x H Q->
  cb (cK X.p X.w) X.A (f v) (EP X b a Q) X.g s
def jf(X:Cx)(f:aI)(r:List V->Hp->VK->Prop):Prop:=
 ∀(b:Zp) (s:a7) (a:St) (H:Hp) (xs:List V) (us:List aI) (Q:VK),am X b a H s->a_ xs us->r xs H Q->
  cb (cK X.p X.w) X.A (call f us) (EP X b a Q) X.g s
def EE(r:R2)(o tb:TE):TE:=λa H Q=>o a H λx H1=>tb a H1 λy b=>r x y b Q
def Kb(r:V->Hp->VK->Prop)(o:TE):TE:=λa H Q=>o a H λx H1=>r x H1 Q
def rI(C:Int->Int->Prop)(g:Int->Int->V):R2:=λx y H Q=>∃i j,x=.l i/\y=.l j/\C i j/\Q (g i j) H
def FA(g:Int->Int->V):R2:=λx y H Q=>∃i j,x=.l i/\y=.l j/\Q (g i j) H
def rU(g:Int->V):V->Hp->VK->Prop:=λx H Q=>∃i,x=.l i/\Q (g i) H
theorem EN(ha:PE X a ta)(hb:PE X b tb){o:St}{R:V->V->Hp->Prop}(I:am X π o H s)
  (h:ta o H λx H1=>tb o H1 λy C=>R x y C) {Q:Zs} {f:aI->aI->Sem aI}
  (hf:∀v u s2 x y C,am X π o C s2->bn x v->bn y u->R x y C->cb (cK X.p X.w) X.A (f v u) Q X.g s2):
  cb (cK X.p X.w) X.A (eval a X.d) (λv J=>cb (cK X.p X.w) X.A (eval b X.d) (λu U=>cb (cK X.p X.w) X.A (f v u) Q X.g U) X.g J) X.g s:=by
 refine ce (ha π s o H _ I h) λv i c=>f3 c λx H1 l g e=>?_;refine ce (hb π i o H1 _ l e) λu s2 c=>f3 c λy C j k d=>?_;exact hf v u s2 x y C j g k d
theorem HM(C:gc X (ko op) r)(o:PE X a ta)(J:PE X b tb):PE X (.BinOp a op b pos) (EE r ta tb):=by
 intro c s f H Q I h;exact wpAny_BinOp<|EN o J I h λv u e x y j i d g q=>C c e f j x y v u Q i d g q
theorem MS(o:D8 X (unaryOp op) r)(C:PE X a ta):PE X (.UnaryOp op a pos) (Kb r ta):=by
 intro c s b H Q I h;exact UnaryOp_<|ce (C c s b H _ I h) λv g f=>f3 f λx H1 d i e=>o c g b H1 x v Q d i e
theorem yp{g:Int->Int->Int}
  (o:∀(i j:Int) (t u:Tok) (s:a7) (Q:Zs) (E:Zs),C i j->Q (.int (g i j) s.toks) { s with toks:=s.toks+1}->cb (cK X.p X.w) X.A (f (.int i t)<|.int j u) Q E s):
  gc X f (rI C λi j=>.l<|g i j):=by
 intro e s k H x y v u Q I a d h;refine ZE h λi j zq2 zq3 c q=>?_;subst zq2;subst zq3;obtain⟨t,rfl⟩:=a;obtain⟨b,rfl⟩:=d;exact o i j t b s _ _ c ⟨.l<|g i j,H,I.tok _,⟨_,rfl⟩,q⟩
theorem Gc{g:Int->Int->Int}
  (o:∀(i j:Int) (t u:Tok) (s:a7) (Q:Zs) (E:Zs),Q (.int (g i j) s.toks) { s with toks:=s.toks+1}->cb (cK X.p X.w) X.A (f (.int i t)<|.int j u) Q E s):
  gc X f (FA λi j=>.l<|g i j):=by
 intro d s e H x y v u Q I a c h;refine Y_ h λi j zq2 zq3 q=>?_;subst zq2;subst zq3;obtain⟨t,rfl⟩:=a;obtain⟨b,rfl⟩:=c;exact o i j t b s _ _ ⟨.l<|g i j,H,I.tok _,⟨_,rfl⟩,q⟩
theorem D2{g:Int->Int->Bool}
  (o:∀(i j:Int) (t u:Tok) (s:a7) (Q:Zs) (E:Zs),Q (.bool<|g i j) s->cb (cK X.p X.w) X.A (f (.int i t)<|.int j u) Q E s):
  gc X f (FA λi j=>.B<|g i j):=by
 intro d s e H x y v u Q I a c h;refine Y_ h λi j zq2 zq3 q=>?_;subst zq2;subst zq3;obtain⟨t,rfl⟩:=a;obtain⟨b,rfl⟩:=c;exact o i j t b s _ _ ⟨.B<|g i j,H,I,rfl,q⟩
def LN(i j:Int):Prop:=0<=j/\j<=1000000/\i.natAbs<2^64
theorem PL:gc X (ko .Pow) (rI LN λi j=>.l<|i^j.toNat):=yp λ_ _ _ _ _ _ _ a q=>pow_int_small a.1 a.2.1 a.2.2 q
theorem J_{g:Int->Int}
  (o:∀(i:Int) (t:Tok) (s:a7) (Q:Zs) (E:Zs),Q (.int (g i) s.toks) { s with toks:=s.toks+1}->cb (cK X.p X.w) X.A (f<|.int i t) Q E s):
  D8 X f (rU λi=>.l<|g i):=by
 intro c s b H x v Q I a h;refine oj h λi zq1 q=>?_;subst zq1;obtain⟨t,rfl⟩:=a;exact o i t s _ _ ⟨.l<|g i,H,I.tok _,⟨_,rfl⟩,q⟩
noncomputable def FY:V->V->Bool
 | .E,.E=>true|.E,.l _=>true|.l _,.E=>true|.E,.B _=>true|.B _,.E=>true|.E,.p _=>true|.p _,.E=>true
 | .l _,.l _=>true|.B _,.B _=>true|.p _,.p _=>true|.c _,.c _=>true
 | .l _,.p _=>true|.p _,.l _=>true|.B _,.p _=>true|.p _,.B _=>true
 |_,_=>false
def KO:R2:=λx y H Q=>FY x y=true/\Q (.B<|decide<|x=y) H
def KL:R2:=λx y H Q=>FY x y=true/\Q (.B<|!decide (x=y)) H
theorem Ub:decide (V.l i=V.l j)=(i==j):=by
 rw[tq]
 simp
theorem YK:decide (V.B i=V.B j)=(i==j):=by
 rw[tq]
 simp
theorem VG:decide (V.p i=V.p j)=(i==j):=by
 rw[tq]
 simp
theorem VB:decide (V.c i=V.c j)=(i.toList==j.toList):=by
 rw[tq];cases i;cases j
 simp
theorem cA(I:am X π σ H s)(q:Q (.B k) H)(e:k=k'):EP X π σ Q (.bool k') s:=by
 subst e;exact⟨.B k,H,I,rfl,q⟩
theorem Vt:gc X (iq .Eq) KO:=by
 intro f s e H x y v u Q I d a h;obtain⟨c,q⟩:=h;cases x with
 |E=>
  cases d;cases y with
  |E=>subst a;exact PySem.EqNone.eq_none_none<|cA I q<|by simp
  |B j=>subst a;exact PySem.EqNone.eq_none_bool<|cA I q<|by simp
  |l j=>obtain⟨b,rfl⟩:=a;exact PySem.EqNone.eq_none_int<|cA I q<|by simp
  |p j=>obtain⟨b,rfl⟩:=a;exact PySem.EqNone.eq_none_str<|cA I q<|by simp
  |_=>exact absurd (show false=true from c) a8
 |B i=>
  subst d;cases y with
  |E=>subst a;exact PySem.EqNone.eq_bool_none<|cA I q<|by simp
  |B j=>subst a;exact eq_bool<|cA I q YK
  |p j=>obtain⟨b,rfl⟩:=a;exact PySem.EqMixed.eq_bool_str<|cA I q<|by simp
  |_=>exact absurd (show false=true from c) a8
 |l i=>
  obtain⟨t,rfl⟩:=d;cases y with
  |E=>subst a;exact PySem.EqNone.eq_int_none<|cA I q<|by simp
  |l j=>obtain⟨b,rfl⟩:=a;exact eq_int<|cA I q Ub
  |p j=>obtain⟨b,rfl⟩:=a;exact PySem.EqMixed.eq_int_str<|cA I q<|by simp
  |_=>exact absurd (show false=true from c) a8
 |p i=>
  obtain⟨t,rfl⟩:=d;cases y with
  |E=>subst a;exact PySem.EqNone.eq_str_none<|cA I q<|by simp
  |B j=>subst a;exact PySem.EqMixed.eq_str_bool<|cA I q<|by simp
  |l j=>obtain⟨b,rfl⟩:=a;exact PySem.EqMixed.eq_str_int<|cA I q<|by simp
  |p j=>obtain⟨b,rfl⟩:=a;exact eq_str<|cA I q VG
  |_=>exact absurd (show false=true from c) a8
 |c i=>
  obtain⟨t,rfl⟩:=d;cases y with
  |c j=>obtain⟨b,rfl⟩:=a;exact W.eq_bytes<|cA I q VB
  |_=>exact absurd (show false=true from c) a8
 |_=>cases y<;>exact absurd (show false=true from c) a8
theorem TV:gc X (iq .NotEq) KL:=by
 intro f s e H x y v u Q I d a h;obtain⟨c,q⟩:=h;cases x with
 |E=>
  cases d;cases y with
  |E=>subst a;exact PySem.EqNone.ne_none_none<|cA I q<|by simp
  |B j=>subst a;exact PySem.EqNone.ne_none_bool<|cA I q<|by simp
  |l j=>obtain⟨b,rfl⟩:=a;exact PySem.EqNone.ne_none_int<|cA I q<|by simp
  |p j=>obtain⟨b,rfl⟩:=a;exact PySem.EqNone.ne_none_str<|cA I q<|by simp
  |_=>exact absurd (show false=true from c) a8
 |B i=>
  subst d;cases y with
  |E=>subst a;exact PySem.EqNone.ne_bool_none<|cA I q<|by simp
  |B j=>subst a;exact ne_bool<|cA I q<|congrArg not YK
  |p j=>obtain⟨b,rfl⟩:=a;exact PySem.EqMixed.ne_bool_str<|cA I q<|by simp
  |_=>exact absurd (show false=true from c) a8
 |l i=>
  obtain⟨t,rfl⟩:=d;cases y with
  |E=>subst a;exact PySem.EqNone.ne_int_none<|cA I q<|by simp
  |l j=>obtain⟨b,rfl⟩:=a;exact ne_int<|cA I q<|congrArg not Ub
  |p j=>obtain⟨b,rfl⟩:=a;exact PySem.EqMixed.ne_int_str<|cA I q<|by simp
  |_=>exact absurd (show false=true from c) a8
 |p i=>
  obtain⟨t,rfl⟩:=d;cases y with
  |E=>subst a;exact PySem.EqNone.ne_str_none<|cA I q<|by simp
  |B j=>subst a;exact PySem.EqMixed.ne_str_bool<|cA I q<|by simp
  |l j=>obtain⟨b,rfl⟩:=a;exact PySem.EqMixed.ne_str_int<|cA I q<|by simp
  |p j=>obtain⟨b,rfl⟩:=a;exact ne_str<|cA I q<|congrArg not VG
  |_=>exact absurd (show false=true from c) a8
 |c i=>
  obtain⟨t,rfl⟩:=d;cases y with
  |c j=>obtain⟨b,rfl⟩:=a;exact W.ne_bytes<|cA I q<|congrArg not VB
  |_=>exact absurd (show false=true from c) a8
 |_=>cases y<;>exact absurd (show false=true from c) a8
theorem Xo:gc X (iq .In) (λx y H Q=>∃i j,x=.p i/\y=.p j/\Q (.B<|!(oT j i 0 j.length 1).isEmpty) H):=by
 intro c s e H x y v u Q I a b h;refine Y_ h λi j zq2 zq3 q=>?_;subst zq2;subst zq3;obtain⟨t,rfl⟩:=a;obtain⟨d,rfl⟩:=b;exact in_str<|cA I q rfl
theorem Kr:gc X (iq .NotIn) (λx y H Q=>∃i j,x=.p i/\y=.p j/\Q (.B<|!(!(oT j i 0 j.length 1).isEmpty)) H):=by
 intro c s e H x y v u Q I a b h;refine Y_ h λi j zq2 zq3 q=>?_;subst zq2;subst zq3;obtain⟨t,rfl⟩:=a;obtain⟨d,rfl⟩:=b;exact notIn_str<|cA I q rfl
theorem cF b(h:autoParam (o≠.In) YI)(C:autoParam (o≠.NotIn) YI):pd o b=false:=by
 have a:(o==CmpOp.In)=false:=by cases o<;>first|rfl|exact absurd rfl h
 have c:(o==CmpOp.NotIn)=false:=by cases o<;>first|rfl|exact absurd rfl C
 cases b<;>simp[pd,a,c]
def N4(t:TE):TT:=λa H Q=>t a H λx H'=>∃k,x=.B k/\Q k H'
theorem SF(J:gc X (iq op) r)(C:PE X a ta)(U:PE X b tb)(o:pd op b=false):PT X (.Compare a [op] [b] pos) (N4<|EE r ta tb):=by
 intro d s g H Q I h;refine wpAny_isTrue_Compare1 (ce (C d s g H _ I h) λv t f=>f3 f λx H1 E q m=>ce (U d t g H1 _ E m) λu l f=>f3 f λy p B D i=>
  ce (J d l g p x y v u _ B q D i) λc F zz0=>?_) o
 obtain⟨z,j,w,n,k,e,A⟩:=zz0;subst e;subst n;exact kM ⟨j,w,A⟩
theorem CW:(aw:Nat)<2^63:=by rw[tw];decide
theorem Rq:gc X (ko .Add) (λx y H Q=>∃i j,x=.p i/\y=.p j/\i.length+j.length<=aw/\Q (.p<|i++j) H):=by
 intro e s f H x y v u Q I a d h;refine ZE h λi j zq2 zq3 b q=>?_;subst zq2;subst zq3;obtain⟨t,rfl⟩:=a;obtain⟨c,rfl⟩:=d;exact add_str (λc tk=>⟨.p<|i++j,H,I.tok _,⟨_,rfl⟩,q⟩) b
theorem e_(r:a_ [x] us):∃u,us=[u]/\bn x u:=by
 cases r with
 |cons r1 r2=>cases r2;exact⟨_,rfl,r1⟩
theorem ms(r:a_ [x,y] us):∃u w',us=[u,w']/\bn x u/\bn y w':=by
 cases r with
 |cons r1 r2=>
  cases r2 with
  |cons r3 r4=>cases r4;exact⟨_,_,rfl,r1,r3⟩
theorem Zu:jf X (.builtin "abs") (λxs H Q=>∃i,xs=[.l i]/\Q (.l<|if i<0 then -i else i) H):=by
 intro b s a H xs c Q I r h;refine oj h λi zq1 q=>?_;subst zq1;obtain⟨u,rfl,t,rfl⟩:=e_ r;exact call_abs_int λu tk=>⟨.l<|if i<0 then -i else i,H,I.tok _,⟨_,rfl⟩,q⟩
structure EO(h:Heap)(x dx C:Addr)(mA:eR):Prop where
 c:h.get? x=some (W.instObj C dx)
 ns:h.Ns1 dx mA
 ne:dx≠x
theorem W5{h:Heap}(n:h.Ns1 dx mA):∃od,h.get? dx=some od/\∀name,W.lookIn name od=some (mA name):=by
 refine Yw n λo c k g hd f _ d=>?_;refine⟨o,g,λname=>?_⟩;have e:=d name;unfold nsFind findBy at e;rw[<-BI] at e;unfold W.lookIn;rw[hd];dsimp only;split
 .rename_i y q;rw[q] at e;exact congrArg _ e
 rename_i q;rw[q] at e;have a:c.toList.any (·.refKey)=false:=by
  rw[qr];intro y i;refine ZU (f y<|Array.mem_toList_iff.mp i) λz t b=>?_;simp[DictEntry.refKey,b]
 have j:¬c.toList.any (·.refKey)=true:=by rw[a];exact a8
 rw[if_neg j];exact congrArg _ e
theorem EO.l(I:EO h x dx C mA):∃od,W.InstAt h x (W.instObj C dx) C (some od)/\∀name,W.lookIn name od=some (mA name):=
 (by refine oj (W5 I.ns) λod ho hl=>?_;exact ⟨od,⟨I.c,rfl,rfl,ho⟩,hl⟩)
theorem yw.s(r:yw (some v) o):∃u,o=some u/\bn v u:=by
 cases o with
 |none=>exact(r).elim
 |some u=>exact⟨u,rfl,r⟩
theorem T2(I:hM P w H h)(e:H a=some (.M C dx fs)):∃o,EO h a dx C o/\(∀f,yw (fs.lookup f)<|o f)/\PySem.Within o (fs.map (·.1))/\fs.length<=1000/\H dx=some (.we a):=by
 obtain⟨d,z,c,b,o,n,r,q⟩:=(show bZ P w H h a (.M C dx fs) from I a _ e);exact⟨o,⟨b,n,c⟩,r,q,z,d⟩
structure E'(K:bg)(C:Addr):Prop where
 pg:W.plainGet K C C5=true
 g:W.hasDictIn K C=true
 po:W.plainOver K C=true
 s:d5 K (.ref C) "__setattr__" = some (some (.builtin "object.__setattr__"))
theorem E'.d{K:bg}(c:E' K C) f :W.plainGet K C f=true:=c.pg
inductive CT(K:bg)(H:Hp):V->aI->Prop where
 |E:CT K H .E (.type "NoneType")
 |B (x:Bool):CT K H (.B x) (.type "bool")
 |l (i:Int):CT K H (.l i) (.type "int")
 |p (x:Str):CT K H (.p x) (.type "str")
 |f (x:UInt64):CT K H (.f x) (.type "float")
 |P {a:Addr} {xs:List V} (e:H a=some (.P xs)):CT K H (.r a) (.type "list")
 |b {a:Addr} {o:Obj} {xs:List V} (e:H a=some (.b o (.P xs))):CT K H (.r a) (.type "list")
 |w {a:Addr} {xs:List V} (e:H a=some (.w xs)):CT K H (.r a) (.type "tuple")
 |c {a:Addr} {ι:List (er×V)} (e:Rd H a (.c ι)):CT K H (.r a) (.type "dict")
 |d {a:Addr} {T:Addr->List V->Prop} {ι:List (List Kt×V)} (e:H a=some (.d T ι)):CT K H (.r a) (.type "dict")
 |M {a C dx:Addr} {fs:List (Str×V)} (e:H a=some (.M C dx fs)) (cl:E' K C) (ha:d5 K (.ref C) "__class__" = some (some (.builtin "object.__class__")))
   (hn:W.specialIn K (.builtin "object.__class__") "__get__" = some (some (.builtin "getset_descriptor.__get__"))) (htk:W.takesIn K (.builtin "object.__class__")=some true)
   (hm:W.mroIn K C (.type "object")=some true):CT K H (.r a) (.ref C)
theorem W0(I:am X π σ H s)(U:bn x u)(ty:CT X.K H x t)(e:h9 X.K t c=some b)(h:∀tk,Q (.bool b) { s with toks:=tk}):
  cb (cK X.p X.w) A (call (.builtin "isinstance") [u,c]) Q E s:=by
 cases ty with
 |E=>cases(U);exact kg W.kitx_none I.kIn fR e (λz=>nomatch z) h
 |B y=>cases(U);exact kg W.kitx_bool I.kIn fR e (λz=>nomatch z) h
 |l i=>obtain⟨t,q⟩:=(U);subst q;exact kg W.kitx_int I.kIn fR e (λz=>nomatch z) h
 |p y=>obtain⟨t,q⟩:=(U);subst q;exact kg W.kitx_str I.kIn fR e (λz=>nomatch z) h
 |f y=>obtain⟨t,q⟩:=(U);subst q;exact kg W.kitx_float I.kIn fR e (λz=>nomatch z) h
 | @P a f ea=>
  cases(U);obtain⟨_,_,n,_,d⟩:=(I.W a _ ea);exact kg W.kitx_list I.kIn ⟨_,d,rfl⟩ e (λz=>nomatch z) h
 | @b a ob f ea=>
  cases(U);obtain⟨_,_,_,n,_,d⟩:=(I.W a _ ea);exact kg W.kitx_list I.kIn ⟨_,d,rfl⟩ e (λz=>nomatch z) h
 | @w a f ea=>
  cases(U);obtain⟨_,_,_,p⟩:=(I.W a _ ea);refine o5 p λo d g _=>?_;exact kg W.kitx_tuple I.kIn ⟨o,d,g⟩ e (λz=>nomatch z) h
 | @c a ι ea=>
  cases(U);obtain⟨_,_,m,_,p⟩:=(ea.R I.W);refine Uy p λo j k d g _=>?_;exact kg W.kitx_dict I.kIn ⟨o,d,g.1⟩ e (λz=>nomatch z) h
 | @d a T ι ea=>
  cases(U);obtain⟨_,_,f,_,o,j,k,d,g,_⟩:=(I.W a _ ea);exact kg W.kitx_dict I.kIn ⟨o,d,g.1⟩ e (λz=>nomatch z) h
 | @M a C dx fs ea cl ha hn htk hm=>
  cases(U);refine oj (T2 I.W ea) λr O _=>?_;refine oj O.l λl J _=>?_;exact kg (W.kitx_own (cl.d _) cl.g ha hn htk hm) I.kIn J e (λz=>nomatch z) h
structure eV(k:Nat)(A:eJ):Prop where
 g:A.handled=none
 b:A.depth+3*k+5<AY
 S:A.units+16*k+200<tj
 c:A.guards=some []
theorem eV.T(r:eV k A)(h:j<=k):eV j A:=⟨r.g,by have:=r.b;lia,by have:=r.S;lia,r.c⟩
theorem eV.d(r:eV (k+1) A) env :eV k (A.deeper env):=
 ⟨r.g,by have:=r.b;show A.depth+1+3*k+5<_;lia,by have:=r.S;show A.units+3+16*k+200<_;lia,r.c⟩
theorem Qy{A:eJ}:(A.under<|.builtin "type.__call__" ⟨.ref C::us,kw⟩).depth=A.depth+1:=by
 first|rfl|simp[CB,Code.weight,Code.isCreation,Code.isGuard,Code.isCaller,Code.frames,CC,guardIds]
theorem Qw{A:eJ}:(A.under<|.builtin "type.__call__" ⟨.ref C::us,kw⟩).units=A.units+1:=by
 first|rfl|simp[CB,Code.cUnits,Code.frames,CC]
theorem eV.m(r:eV (k+1) A) C  us  kw :eV k (A.under<|.builtin "type.__call__" ⟨.ref C::us,kw⟩):=
 ⟨r.g,by have:=r.b;rw[Qy];lia,by have:=r.S;rw[Qw];lia,r.c⟩
theorem eV.a(r:eV k A):A.depth<AY:=by have:=r.b;lia
theorem eV.u(r:eV k A):A.units+64<tj:=by have:=r.S;lia
def F4:TA:=λ_ H Q=>Q [] H
def Ye(o:TE)(C:TA):TA:=λa H Q=>o a H λx H1=>C a H1 λxs b=>Q (x::xs) b
theorem nM:PA X [] F4:=λ_ _ _ _ H Q I h=>xp ⟨[],H,I,.nil,h⟩
theorem eG(o:PE X e te)(J:PA X es t)(C:autoParam (ag (e::es) X.d=(false,eval e X.d)::ag es X.d) YO):PA X (e::es) (Ye te t):=by
 intro a c s d H Q I h;rw[C];show cb _ _ (spliced ((false,eval e X.d)::ij a (ag es X.d))) _ _ s;refine pe<|ce (o c s d H _ I h) λu l b=>f3 b λx H1 p k i=>?_;exact ce (J a c l d H1 _ p i) λr q b=>f3 b λg j m n f=>⟨x::g,j,m,.cons k n,f⟩
def MH(t:TA):TE:=λa H Q=>t a H λxs H1=>xs.length<=aw/\∀p,H1 p=none->Q (.r p) (upd H1 p<|.w xs)
def ML(t:TA):TE:=λa H Q=>t a H λxs H1=>xs.length<=aw/\∀p,H1 p=none->Q (.r p) (upd H1 p<|.P xs)
theorem Yi(h:PA X es t):PE X (.Tuple es x1 pos) (MH t):=by
 intro f s i H Q I j;refine wpAny_Tuple_spliced<|ce (h _ f s i H _ I j) λg a ⟨d,H1,c,r,z,q⟩=>⟨by rw[<-r.l];exact z,?_⟩;have k:=c.W.n<|bb _;refine⟨.r _,_,c.laid (λb u e=>ah _ e) (bb _) ?_,rfl,q _ k⟩;exact⟨z,g,r,⟨_,bp _ rfl,rfl,_,rfl,rfl⟩⟩
theorem P'(h:PA X es t):PE X (.List es pos) (ML t):=by
 intro f s i H Q I j;refine wpAny_List_spliced<|ce (h _ f s i H _ I j) λg a ⟨d,H1,c,r,z,q⟩=>⟨by rw[<-r.l];exact z,?_⟩;have k:=c.W.n<|bb _;refine⟨.r _,_,c.laid (λb u e=>ah _ e) (bb _) ?_,rfl,q _ k⟩;exact⟨z,g,0,r,bp _ rfl⟩
abbrev Sp:=List V->Hp->VK->XK->Prop
abbrev vt:=List Env->Hp->a7->XK->Zs
structure IV(P:b9)(w:eI)(K:bg)(mg:eR)(base:Heap)(A:eJ)(outer:List Env)(s:a7)(H:Hp):Prop where
 f:A.frames=some outer
 mod:Mod K mg base
 bs:∀b o,base.get? b=some o->s.heap.get? b=some o/\H b=none
 j:base.objs.size<=s.heap.objs.size
 uX:s.heap.FunFrames base outer
 i:∀b∈eh outer,H b=none
 W:hM P w H s.heap
 LE:yb s.gens
def CE(o:List Env)(P:b9)(w:eI)(H:Hp)(s:a7)(Q:VK)(u:aI)(s':a7):Prop:=
 ∃v H',s'.os=s.os/\yb s'.gens/\Un (eh o) [] H H' s.heap s'.heap/\hM P w H' s'.heap/\bn v u/\Q v H'
def CR(CX:vt)(o:List Env)(P:b9)(w:eI)(H:Hp)(s:a7)(Q:VK)(E:XK)(r:Result)(s':a7):Prop:=
 match r with
 | .ok (.ret u)=>CE o P w H s Q u s'
 | .ok _=>False
 | .error e=>CX o H s E e s'
structure oY(P:b9)(w:eI)(K:bg)(mg:eR)(base:Heap)(CX:vt)(k:Nat)(f:Addr)(fd:iA)(ps:List Str)(sp:Sp):Prop where
 mt:∀vs H Q E,sp vs H Q E->vs.length=ps.length
 r:∀(A:eJ) (outer:List Env) (s:a7) (H:Hp) (args:Args) (us:List aI) (vs:List V) (Q:VK) (E:XK),eV k A->IV P w K mg base A outer s H->B6 s fd args (ps.zip us)->a_ vs us->sp vs H Q E->
  A7 (cK P w) A (.call (.ref f) args) (CR CX outer P w H s Q E) s
theorem oY.u{K:bg}(F:oY P w K mg o CX k f J U sp)
  (h:∀C H Q E,I C H Q E->sp C H Q E):oY P w K mg o CX k f J U I:=
 ⟨λC H Q E q=>F.mt C H Q E<|h _ _ _ _ q,λA a s H b e C Q E g j i c d=>F.r A a s H b e C Q E g j i c<|h _ _ _ _ d⟩
theorem IV.m{K:bg}(e:IV P w K mg I A o s H) C us kw :
  IV P w K mg I (A.under<|.builtin "type.__call__" ⟨.ref C::us,kw⟩) o s H:=⟨by first|exact e.f|(simpa[CB,Code.envs,CC,pushEnvs] using e.frames),e.mod,e.bs,e.j,e.uX,e.i,e.W,e.LE⟩
theorem am.env0(I:am X π σ H s):IV X.p X.w X.K X.m X.T X.A X.Z s H:=
 ⟨I.R.f,I.R.mod,I.bs,dS I.R.j I.sz,I.Z,I.Af,I.W,I.LE⟩
theorem am.after(I:am X π σ H s)(h:CE X.Z X.p X.w H s Q u s'):EP X π σ Q u s':=by
 refine Qh h λv H' i a un c r q=>?_;obtain⟨f,g,d,t,e⟩:=s';obtain rfl:e=s.os:=i;exact⟨v,H',I.call un c a λb z=>absurd z (by simp),r,q⟩
def Iy(sp:Sp)(o:List V)(E:XK)(t:TA):TE:=λa H Q=>t a H λb H1=>sp (b++o) H1 Q E
def eH(K:bg)(C:iA)(o:List Str)(ds:List aI):Prop:=
 ∀(s:a7) (us:List aI),K.In s.heap->(us++ds).length=o.length->B6 s C ⟨us,[]⟩ (o.zip<|us++ds)
theorem eH.b{K:bg}(h:∀us:List aI,us.length=o.length->bindArgs C ⟨us,[]⟩=pure (o.zip us)):eH K C o []:=λs us _ a=>by
 rw[c9] at a ⊢;exact .of_eq<|h us a
def et(CX:vt)(X:Cx)(E:XK):Prop:=∀(b:Zp) (a:St) (H:Hp) (s:a7) (e:aI) (s':a7),am X b a H s->CX X.Z H s E e s'->X.g e s'
section
variable {p pos:Pos}
theorem Sf(F:oY X.p X.w X.K X.m X.T CX k f fd ps sp)(hr:eV k X.A)(J:eH X.K fd ps ds)(hd:a_ dvs ds)(U:et CX X E)
  (I:am X π σ H s) (r:a_ vs us) (h:sp (vs++dvs) H Q E):cb (cK X.p X.w) X.A (call (.ref f) us) (EP X π σ Q) X.g s:=by
 have b:=r.c hd;have c:(us++ds).length=ps.length:=by rw[<-b.l];exact F.mt _ _ _ _ h
 refine AQ<|r9 (F.r _ _ s H _ _ _ Q E hr I.env0 (J s us I.kIn c) b h) λr d a=>?_;cases r with
 |error e=>exact U π σ H s e d I a
 |ok fl=>
  cases fl with
  |ret u=>exact I.after a
  |next=>exact fT a
  |brk=>exact fT a
  |cont=>exact fT a
theorem MF(F:oY X.p X.w X.K X.m X.T CX k f fd ps sp)(hr:eV k X.A)(hg:Gl X x)(hm:X.m x=some (.ref f))(hk:mS X.K (.ref f)=true)(hb:eH X.K fd ps ds)(hd:a_ dvs ds)(U:et CX X E)
  (ha:PA X (e::es) t) (J:autoParam ((x==("__debug__":Str))=false) YI) (he:autoParam (ag (e::es) X.d=(false,eval e X.d)::ag es X.d) YO) (μ:autoParam ((ij pos<|ag es X.d).any (·.1)=false) YO):
  PE X (.Call (.Name x p) (e::es) [] pos) (Iy sp dvs E t):=by
 intro b s d H Q I h;refine hJ<|sY I hg hm ?_ J;refine vE I.R.mod.k hk (ce (ha _ b s d H _ I h) λg i c=>f3 c λj H1 a r q=>⟨a.kIn,?_⟩) he μ;exact Sf F hr hb hd U a r q
end
structure aN(N P:List Str)(sc:wx):Prop where
 k:sc.kind=.function
 c:sc.isCoroutine=false
 g:sc.isGenerator=false
 n:N.Nodup
 p:N.take P.length=P
 b:∀x∈P,sc.names.lookup x=some .local\/sc.names.lookup x=some .cell
 a:∀y∈sc.names,y.2≠.free
theorem JT{xt:Str->Option nS}:∀{binds:List (Str×aI)} {m:eR},(∀v,(x,v)∉binds)->DJ xt binds m x=m x
 |[],_,_=>rfl
 |(n,v)::r,m,h=>by
  unfold DJ;rw[JT λw a=>h w<|af _ a];split
  .have:x≠n:=by rintro rfl;exact h v ai
   simp[this]
  rfl
theorem J3{xt:Str->Option nS}:∀{binds:List (Str×aI)} {m:eR},(∀v,(x,v)∉binds)->DL xt binds m x=m x
 |[],_,_=>rfl
 |(n,v)::r,m,h=>by
  unfold DL;rw[J3 λw a=>h w<|af _ a];split
  .rfl
  have:x≠n:=by rintro rfl;exact h v ai
  simp[this]
theorem JN{xt:Str->Option nS}:∀{P:List Str} {o:List aI} {i:Nat} {m:eR},P.Nodup->P[i]? = some x->o[i]? = some v->xt x=some .local->
  DJ xt (P.zip o) m x=some v
 |[],_,_,_,_,h,_,_=>by simp at h
 |_::_,[],_,_,_,_,h,_=>by simp at h
 |p::P,w::o,0,m,nd,h1,h2,hk=>by
  simp at h1 h2;subst h1;subst h2;show DJ xt ((p,w)::P.zip o) m p=_;unfold DJ;rw[JT λv a=>(pf.mp nd).1 (tz a).1,if_pos hk]
  simp
 |p::P,w::o,i+1,m,nd,h1,h2,hk=>by
  unfold DJ;exact JN (pf.mp nd).2 (h1) (h2) hk
theorem Jd{xt:Str->Option nS}:∀{P:List Str} {o:List aI} {i:Nat} {m:eR},P.Nodup->P[i]? = some x->o[i]? = some v->xt x≠some .local->
  DL xt (P.zip o) m x=some v
 |[],_,_,_,_,h,_,_=>by simp at h
 |_::_,[],_,_,_,_,h,_=>by simp at h
 |p::P,w::o,0,m,nd,h1,h2,hk=>by
  simp at h1 h2;subst h1;subst h2;show DL xt ((p,w)::P.zip o) m p=_;unfold DL;rw[J3 λv a=>(pf.mp nd).1 (tz a).1,if_neg hk]
  simp
 |p::P,w::o,i+1,m,nd,h1,h2,hk=>by
  show DL xt ((p,w)::P.zip o) m x=_;unfold DL;exact Jd (i:=i) (pf.mp nd).2 (h1) (h2) hk
noncomputable def b_(N:List Str)(o:List V):St:=o.map some++dA (N.length-o.length) none
noncomputable def mO(CX:vt)(P:b9)(w:eI)(K:bg)(mg:eR)(C:Heap)(N:List Str)(qual:Str)(scope:wx)(f:Addr)(cd:aI)(A:eJ)(o:List Env)(s:a7)(H:Hp)(E:XK):Cx where
 p:=P
 w:=w
 K:=K
 m:=mg
 T:=C
 A:=A.deeper<|sL qual scope s.heap.objs.size f cd
 N:=N
 s₀:=s
 H₀:=H
 d:=sL qual scope s.heap.objs.size f cd
 h:=o
 Z:=sL qual scope s.heap.objs.size f cd::o
 l:=[]
 f:=true
 i:=λ_=>true
 n:=[]
 g:=λe s'=>cb (cK P w) (A.deeper<|sL qual scope s.heap.objs.size f cd) (leaving (sL qual scope s.heap.objs.size f cd) e) (λ_ a=>CX o H s E e a) (λb a=>CX o H s E b a) s'
theorem NQ{o:wx}(h:o.names.lookup x=some .cell):∃c,(BM n o.names []).lookup x=some c:=by
 have q:=y8 _ n []<|.inl h;exact Option.isSome_iff_exists.mp q
theorem JM{K:bg}
  (S:aN N J scope) (hd:A.handled=none) (I:IV P w K mg C A o s H) (hl:U.length=J.length) (r:a_ U us)
  (x:InCallC s s.heap.objs.size (DJ (sL qual scope s.heap.objs.size f cd).kindOf (J.zip us) λ_=>none) (BM (s.heap.objs.size+1) scope.names []) (DL (sL qual scope s.heap.objs.size f cd).kindOf (J.zip us) λ_=>none) s1):
  am (mO CX P w K mg C N qual scope f cd A o s H E) [] (b_ N U) H s1:=by
 have M:J.length<=N.length:=by have:=congrArg qA S.p;rw[kq] at this;lia
 refine Y' x.done λt tk zq2 D=>?_;subst zq2;have j:∀b,b∉(mO CX P w K mg C N qual scope f cd A o s H E).l:=λb z=>absurd (show b∈([]) from z) (by simp);refine⟨⟨I.mod,S.k,rfl,rfl,bb _,λy z c t d=>?_,λy g=>?_,λy c _ h=>?_,λ_=>hd,AV I.f,.inr ⟨rfl,rfl⟩,λb z=>absurd z<|j b,I.bs,I.j,λb _ _=>j b,λb z=>absurd z<|j b,I.uX,I.i⟩,
  rfl,I.LE,Un.we D,⟨_,x.toInCall.ns,λi y v t d O=>?_⟩,λy c h=>⟨_,x.cell y c h⟩,I.W.n<|bb _,λy c h=>?_,λp m=>absurd (show p∈([]) from m) (by simp),I.W.we D,?_⟩
 .exact name_of_addr x.apart (lI t)<|lI d
 .have g:=g;rcases g with g|g
  .exact NQ g
  exact absurd rfl<|S.a _<|lI g
 .exact zC<|x.above y c<|lI h
 .have B:i<U.length:=by
   unfold b_ at d;by_cases B:i<U.length
   .exact B
   rw[dE<|by simpa using B] at d;rw[gS] at d;split at d<;>cases d
  have L:U[i]? = some v:=by
   unfold b_ at d;rw[dr (by simpa using B),aT] at d;cases e:U[i]? with
   |none=>rw[e] at d;cases d
   |some a=>rw[e] at d;cases d;rfl
  refine oj (r.d L) λu F G=>?_;have m:J[i]? = some y:=by
   rw[<-S.p,xw<|by lia];exact t
  have l:J.Nodup:=by rw[<-S.p];exact S.n.sublist<|List.take_sublist _ _
  refine⟨u,G,?_⟩;rcases S.b y (dy m) with k|k
  .exact .inl ⟨k,JN l m F k⟩
  obtain⟨c,e⟩:=NQ k;refine .inr ⟨.inl k,c,e,?_⟩;have q:=x.cell y c e;rw[Jd l m F (by show scope.names.lookup y≠_;rw[k];decide)] at q;exact q
 .exact I.W.n<|zC<|x.above y c<|lI h
 unfold b_;show _=N.length;rw[bq,aE,gL]
 lia
theorem OE{K:bg}{kV:aI}
     (lk:K.lookup f=some ⟨oc,od,.func<|y9 name qual params body scope dV kV doc pm an U ct,osl⟩) (hcd:BN K U qual=true) (S:aN N ps scope)
  (len:∀vs H Q E,sp vs H Q E->vs.length=ps.length)
  (hbody:∀(A:eJ) (C:List Env) (s:a7) (H:Hp) (vs:List V) (Q:VK) (E:XK),eV k (A.deeper<|sL qual scope s.heap.objs.size f U)->sp vs H Q E->
   ∃t,lS (mO CX P w K mg base N qual scope f U A C s H E) body t/\t { n:=λ_ H'=>Q .E H',r:=Q} (b_ N vs) H):
  oY P w K mg base CX (k+1) f (y9 name qual params body scope dV kV doc pm an U ct) ps sp:=by
 refine⟨len,λA C s H p G vs Q E m h B r g=>?_⟩;have F:=len _ _ _ _ g;have KX:K.In _:=h.mod.k.keeps λb o e=>(h.bs b o e).1;have i:s.heap.NoLimit:=h.mod.n.keeps λb o e=>(h.bs b o e).1;have c:∀y∈ps.zip G,scope.names.lookup y.1=some _\/(scope.names.lookup y.1=some _/\((BM (s.heap.objs.size+1) scope.names []).lookup y.1).isSome=true):=λ⟨n,v⟩ R=>by
  rcases S.b n (tz R).1 with q|q
  .exact .inl q
  exact .inr ⟨q,y8 _ _ _<|.inl q⟩
 refine codeAny_call_function m.a (KX _ _ lk) rfl S.c S.g rfl (W.codeRec_of KX hcd)<|B _ _ _ _ ?_;refine uu S.k c λO D z x=>?_;subst D;refine⟨i.keeps x.toInCall.keep,codeAny_func ?_⟩;refine oj (hbody A C s H vs Q E (m.d _) g) λt T L=>?_;have I:am (mO CX P w K mg base N qual scope f U A C s H E) [] (b_ N vs) H z:=JM S m.g h F r x;refine gN (T [] z (b_ N vs) H _ I L) (λM l d=>?_) λe l d=>d;have fin:∀{a:St} {H':Hp} {v:V} {u:aI},am (mO CX P w K mg base N qual scope f U A C s H E) [] a H' l->bn v u->Q v H'->CE C P w H s Q u l:=
  λ{a H' v u} J j q=>⟨v,H',J.os,J.LE,J.T,J.W,j,q⟩
 cases M with
 |ret u=>
  refine Uy d λv a H' J j q=>?_;exact fin J j q
 |next=>
  refine Y' d λa H' J q=>?_;exact fin (v:=V.E) (u:=fN) J rfl q
 |brk=>
  refine Y' d λ_ _ _ q=>?_;exact fT q
 |cont=>
  refine Y' d λ_ _ _ q=>?_;exact fT q
section
variable {p pos:Pos}{t:TA}{id:String}{r:List V->Hp->VK->Prop}
def x_(r:List V->Hp->VK->Prop)(t:TA):TE:=λa H Q=>t a H λb H1=>r b H1 Q
theorem xq(hc:jf X (.builtin id) r)(hg:Gl X x)(C:X.m x=none)(U:cx x=some (.builtin id))(J:PA X (e::es) t)(hn:autoParam (x≠"__name__") YI)(o:autoParam ((x==("__debug__":Str))=false) YI)
  (he:autoParam (ag (e::es) X.d=(false,eval e X.d)::ag es X.d) YO) (μ:autoParam ((ij pos<|ag es X.d).any (·.1)=false) YO):PE X (.Call (.Name x p) (e::es) [] pos) (x_ r t):=by
 intro a s b H Q I h;refine hJ<|vB I hg C U ?_ hn o;exact PyProof.Rows.callWith_builtin1 (ce (J _ a s b H _ I h) λc i f=>f3 f λj H1 k g d=>hc a i b H1 j c Q k g d) he μ
theorem Ce(hc:jf X (.type T) r)(hg:Gl X x)(C:X.m x=none)(U:cx x=some (.type T))(J:PA X (e::es) t)(hn:autoParam (x≠"__name__") YI)(o:autoParam ((x==("__debug__":Str))=false) YI)
  (he:autoParam (ag (e::es) X.d=(false,eval e X.d)::ag es X.d) YO) (μ:autoParam ((ij pos<|ag es X.d).any (·.1)=false) YO):PE X (.Call (.Name x p) (e::es) [] pos) (x_ r t):=by
 intro a s b H Q I h;refine hJ<|vB I hg C U ?_ hn o;exact fy (ce (J _ a s b H _ I h) λc i f=>f3 f λj H1 k g d=>hc a i b H1 j c Q k g d) he μ
end
end L2
namespace HT
open PySem PyProof.Rows
section
variable {E:Zs}
theorem UC(ht:IsTup s.heap t vs.toArray)(J:IsTup s.heap b ws.toArray)(I:vs≠[])
  (h1:ws=[]->Q (.ref t) s) (U:ws≠[]->Q (.ref s.heap.objs.size) { s with heap:=s.heap.push { cls:=.type "tuple",data:=.seq (vs++ws).toArray } })
  (hsz:vs.length+ws.length<=aw):cb (cK prog w) A (ko .Add (.ref t)<|.ref b) Q E s:=by
 obtain⟨⟨C,m,o,l⟩,i,k,n,hd⟩:=id ht;obtain⟨⟨p,c,j,f⟩,a,d,q,g⟩:=id J;subst k hd d g;have e:vs.toArray++ws.toArray=(vs++ws).toArray:=by simp
 by_cases h:ws=[]
 .exact As ⟨_,i,rfl⟩ ⟨_,a,rfl⟩ ze BO p9 pj (oz _ _)
   (tuple_addW1 t b _ _ n q m c l f (by simpa using I) (by simp[h])) ⟨i,a,h1 h⟩
 refine As ⟨_,i,rfl⟩ ⟨_,a,rfl⟩ ze BO p9 pj (oz _ _)
  (tuple_addW2 t b _ _ n q m c l f (by simpa using I) (by simpa using h) (by exact hsz)) ⟨i,a,?_⟩
 rw[e];exact U h
noncomputable def c_(n d:Nat):Option Int->Nat
 |none=>d
 |some v=>if v<0 then(v+(n:Int)).toNat else min v.toNat n
theorem Mw(n d k:Nat):c_ n d (some (k:Int))=min k n:=by
 show(if(k)<0 then((k)+(n:Int)).toNat else min _ n)=min k n;rw[if_neg (by lia),mT]
theorem OS n d(hd:d<=n) o :c_ n d o<=n:=by
 cases o with
 |none=>exact hd
 |some v=>
  show(if v<0 then(v+(n:Int)).toNat else min v.toNat n)<=n;by_cases a:v<0
  .rw[if_pos a];lia
  rw[if_neg a];exact Nat.min_le_right _ _
theorem Vf v(n d:Nat):(if v<0 then max (v+(n:Int)) 0 else min v (n:Int))=((c_ n d (some v):Nat):Int):=by
 show(if v<0 then max _ 0 else min v _)=(((if v<0 then(v+(n)).toNat else min _ n)));by_cases a:v<0
 .simp only[if_pos a];lia
 simp only[if_neg a];lia
theorem Rp lo o(n:Nat):nI lo o 1 (n:Int)=(((c_ n 0 lo:Nat):Int),((c_ n n o:Nat):Int)):=by
 have a:¬((1)<0):=by lia
 unfold nI;refine Prod.ext ?_ ?_
 .cases lo with
  |none=>rfl
  |some v=>exact Vf v n 0
 cases o with
 |none=>rfl
 |some v=>exact Vf v n n
theorem Qu(i j:Nat):kK (i:Int) (j:Int) 1=j-i:=by
 unfold kK;have a:(1:Int)>0:=by lia
 simp only[a,if_true,CD];split<;>lia
theorem Gq(p:CF v o)(h:Q o s):cb (cK prog w) A (Builtin.Slice.slicePartIndex v) Q E s:=by
 cases p with
 |none=>exact slicePart_none h
 |int i t=>exact slicePart_int h
theorem Cd{lo:Option Int}{Q:Int×Int×Nat->a7->Prop}(U:s.heap.IsSliceOf J C I .none)(pl:CF C lo)(pu:CF I o)
  (h:Q (((c_ n 0 lo:Nat):Int),1,c_ n n o-c_ n 0 lo) s):cb (cK prog w) A (uS (.ref J)<|pure (n:Int)) Q E s:=by
 refine o5 (id U) λd a c b=>?_;refine ae<|ae<|iS a b rfl<|ae<|iS a b rfl<|ae<|iS a b rfl<|av ?_;refine ae<|slicePart_none ?_;refine ae<|Gq pl<|ae<|Gq pu<|ae<|av ?_;show cb _ _ (match nI lo o 1 _ with|(lo,o)=>pure (lo,(1:Int),kK lo o 1)) _ _ s;rw[Rp lo o n];show cb _ _ (pure _) _ _ s;rw[Qu];exact av h
theorem Zr(xs:Array aI)(i k:Nat):((dc k).filterMap λ(m:Nat)=>xs[((i:Int)+(m:Int)*1).toNat]?).toArray=((xs.toList.drop i).take k).toArray:=by
 have e:(λ(m:Nat)=>xs[((i)+(m:Int)*1).toNat]?)=λm=>xs[i+m]?:=by
  funext m
  have:((i)+(m:Int)*1).toNat=i+m:=by lia
  rw[this]
 rw[e]
 have:=pick_run xs i k
 rw[List.filterMap_map] at this;have a:((λx=>xs[x]?)∘λx=>i+x)=λm=>xs[i+m]?:=rfl;rw[a] at this;rw[this]
theorem Bu{lo:Option Int}{Q:Zs}(C:IsTup s.heap t items)(J:s.heap.IsSliceOf I vl U .none)(pl:CF vl lo)(pu:CF U o)
  (hw:¬(c_ items.size 0 lo=0/\c_ items.size items.size o=items.size))
  (h:Q (.ref s.heap.objs.size) { s with heap:=s.heap.push { cls:=.type "tuple",data:=.seq ((items.toList.drop<|c_ items.size 0 lo).take<|c_ items.size items.size o-c_ items.size 0 lo).toArray } })
  (hsz:items.size<=aw):cb (cK prog w) A (Au (.ref t)<|.ref I) Q E s:=by
 have a:sizeOk (.seq ((items.toList.drop<|c_ items.size 0 lo).take<|c_ items.size items.size o-c_ items.size 0 lo).toArray):=by
  show((items.toList.drop<|c_ _ 0 lo).take<|c_ _ _ o-c_ _ 0 lo).toArray.size<=aw;rw[bo,kq,kr,tm]
  omega
 have j:c_ _ _ o<=items.size:=OS _ _ (bb _) o;refine o5 (id J) λf d e g=>?_;have c:s.TypeIs (.ref I) _:=⟨f,d,e⟩;unfold Au
 try with_reducible refine i7 ?_
 first|refine ae (av ?_)|skip
 refine ae<|wpAny_sequenceKey C.typeIs (by decide) ?_;refine ae (ka C.typeIs kQ
  (iN kQ C.typeIs entry_tuple_getitem ?_<|args_tuple_getitem _ _))
 show cb _ _ (uj (.ref t) >>= _) _ _ s;refine ae<|tupleItemsOf_ C ?_;refine ae<|wpAny_typeOf c ?_;rw[if_pos<|by decide];refine ae<|Cd J pl pu ?_;have b:¬((((c_ items.size 0 lo:Nat):Int)==0&&(1:Int)==1&&(c_ items.size items.size o-c_ items.size 0 lo)==items.size)=true):=by
  intro q;rw[ia,ia] at q;have k:((c_ items.size 0 lo:Nat):Int)=0:=eq_of_beq q.1.1;have i:c_ items.size items.size o-c_ items.size 0 lo=items.size:=eq_of_beq q.2;exact hw ⟨by lia,by lia⟩
 show cb _ _ (if(((c_ items.size 0 lo:Nat):Int)==0&&(1:Int)==1&&(c_ items.size items.size o-c_ items.size 0 lo)==items.size)=true then _ else _) _ _ s;rw[if_neg b,Zr]
 first
  |exact ae (m:=kR _) (fw (av ⟨_,rfl,av h⟩) a)
  |exact ae (m:=kR _) (fw (ae<|av<|av ⟨_,rfl,av h⟩) a)
  |exact ae (ae (m:=kR _)<|fw (av<|av ⟨_,rfl,av h⟩) a)
  |exact ae (ae (m:=kR _)<|fw (av ⟨_,rfl,av h⟩) a)
end
end HT
namespace L2
open PySem PySem.Spec PyProof.Rows
abbrev TO:=St->Hp->(Option Int->Hp->Prop)->Prop
def PO(X:Cx)(e:Option Expr)(t:TO):Prop:=
 ∀(b:Zp) (s:a7) (a:St) (H:Hp) (Q:Option Int->Hp->Prop),am X b a H s->t a H Q->
  cb (cK X.p X.w) X.A (evalPart e X.d) (λu s'=>∃o H',am X b a H' s'/\CF u o/\Q o H') X.g s
def NL(t:TE):TO:=λa H Q=>t a H λx H1=>∃i,x=.l i/\Q (some i) H1
section
variable {X:Cx}{e:Expr}{te:TE}{lo hi:Option Expr}{tl th:TO}
theorem Wp(h:PE X e te):PO X (some e) (NL te):=by
 intro a s f H Q I g;rw[evalPart_some];refine ce (h a s f H _ I g) λu k c=>f3 c λx H1 j d b=>?_;obtain⟨i,rfl,q⟩:=b;obtain⟨t,rfl⟩:=d;exact⟨some i,H1,j,.int i t,q⟩
def zd(X:Cx)(r:V->Option Int->Option Int->Hp->VK->Prop):Prop:=
 ∀(c:Zp) (s:a7) (a:St) (H:Hp) (x:V) (v d e:aI) (lo hi:Option Int) (b:Addr) (Q:VK),am X c a H s->bn x v->s.heap.IsSliceOf b d e .none->CF d lo->CF e hi->r x lo hi H Q->
  ∃T id,AR (.type T) "__getitem__" = pure (some<|.builtin id)/\s.TypeIs v T/\cb (cK X.p X.w) X.A (Au v<|.ref b) (EP X c a Q) X.g s
def Kj(r:V->Option Int->Option Int->Hp->VK->Prop)(te:TE)(tl th:TO):TE:=λa H Q=>te a H λx H1=>tl a H1 λl b=>th a b λu c=>r x l u c Q
theorem Yn(o:zd X r)(C:PE X e te)(U:PO X lo tl)(J:PO X hi th):PE X (.Subscript e (.Slice lo hi none p2) pos) (Kj r te tl th):=by
 intro a s c H Q I h;refine B7<|ce (C a s c H _ I h) λv y g=>f3 g λx H1 K p m=>?_;refine wpAny_Slice<|ce (U a y c H1 _ K m) λf k ⟨l,n,E,pl,j⟩=>ce (J a k c n _ E j) λd s3 g=>?_;refine Ek g λu i z pu B=>?_;refine av ?_;have t:am X a c i { s3 with heap:=s3.heap.push { cls:=.type "slice",data:=.fields #[f,d,.none] } }:=z.we λb L q=>ah _ q;refine Ek (o a _ c i x v f d l u _ Q t p (BS ..) pl pu B) λT id G D F=>?_;exact tail_any D G F<|by with_unfolding_all rfl
def Ov(xs:List V)(lo hi:Option Int):List V:=(xs.drop<|HT.c_ xs.length 0 lo).take<|HT.c_ xs.length xs.length hi-HT.c_ xs.length 0 lo
theorem Dy xs lo hi:(Ov xs lo hi).length<=xs.length:=by
 unfold Ov;rw[kq,kr]
 lia
def MI(K:bg):V->Option Int->Option Int->Hp->VK->Prop:=λx lo hi H Q=>∃a xs,x=.r a/\h_ K H a xs/\
 ¬(HT.c_ xs.length 0 lo=0/\HT.c_ xs.length xs.length hi=xs.length)/\∀p,H p=none->Q (.r p) (upd H p<|.w<|Ov xs lo hi)
theorem OZ:zd X (MI X.K):=by
 intro n s t H x v w u lo hi m Q I j i pl pu h;refine ZE h λa c zq2 g k q=>?_;subst zq2;subst j;refine o5 (I.Id g) λl r f e=>?_;have d:l.toArray.size=c.length:=by exact r.l.symm
 refine⟨ _,_,kQ.lookup,f.typeIs,?_⟩;refine HT.Bu f i pl pu (by rw[d];exact k) ?_ (by rw[d];exact e);rw[d];refine⟨.r _,_,I.laid (λb p q=>ah _ q) (bb _) ?_,rfl,q _<|I.W.n<|bb _⟩;exact⟨dS (Dy c lo hi) e,_,(r.m<|HT.c_ _ 0 lo).j<|HT.c_ _ _ hi-HT.c_ _ 0 lo,N8.O _ _⟩
def Mk(K:bg):R2:=λx y H Q=>∃a b xs ys,x=.r a/\y=.r b/\h_ K H a xs/\h_ K H b ys/\xs≠[]/\xs.length+ys.length<=aw/\
 (ys=[]->Q (.r a) H)/\(ys≠[]->∀p,H p=none->Q (.r p) (upd H p<|.w<|xs++ys))
theorem a_.L(r:a_ xs us):us=[]↔xs=[]:=by
 cases r with
 |nil=>simp
 |cons _ _=>simp
theorem SR:gc X (ko .Add) (Mk X.K):=by
 intro A s D H x y v u Q I m r h;refine Z_48 h λa b i p zq4 zq5 l t j e n g=>?_;subst zq4;subst zq5;subst m;subst r;refine o5 (I.Id l) λE d k _=>?_;refine o5 (I.Id t) λf c p2 _=>?_;refine HT.UC k p2 (λz=>j<|d.L.mp z) (λz=>⟨.r a,H,I,rfl,n<|c.L.mp z⟩) (λz=>?_) (by rw[<-d.l,<-c.l];exact e);refine⟨.r _,_,I.laid (λb B q=>ah _ q) (bb _) ?_,rfl,g (λw=>z<|c.L.mpr w) _<|I.W.n<|bb _⟩;exact⟨by rw[bq];exact e,_,d.c c,N8.O _ _⟩
end
noncomputable def hQ(n:Nat)(i:Int):Option Nat:=if 0<=i then(if i<n then some i.toNat else none) else if -(n:Int)<=i then some (i+n).toNat else none
def bS{o:Type}(xs:List o)(i:Int):Option o:=(hQ xs.length i).bind λj=>xs[j]?
theorem SJ(h:hQ n i=some j):seqIndex? i n=some j/\j<n/\-(n:Int)<=i/\i<n:=by
 unfold hQ at h;by_cases b:0<=i
 .rw[if_pos b] at h;by_cases a:i<n
  .rw[if_pos a] at h;have e:=cE h;exact⟨by rw[seqIndex_of b a,e],by lia,by lia,a⟩
  rw[if_neg a] at h;cases h
 rw[if_neg b] at h;by_cases a:-(n)<=i
 .rw[if_pos a] at h;have e:=cE h;exact⟨by rw[seqIndex_neg (by lia) a,e],by lia,a,by lia⟩
 rw[if_neg a] at h;cases h
theorem K7(h:bS xs i=some v):∃j,seqIndex? i xs.length=some j/\xs[j]? = some v/\j<xs.length/\-(xs.length:Int)<=i/\i<xs.length:=by
 unfold bS at h;cases e:hQ _ i with
 |none=>rw[e] at h;cases h
 |some j=>
  rw[e] at h;refine ZN (SJ e) λa d c b=>?_;exact⟨j,a,h,d,c,b⟩
theorem v8{j:Nat}{v:o}(h:xs[j]? = some v):bS xs (j:Int)=some v:=by
 have a:j<xs.length:=(dn.mp h).1;have e:hQ xs.length (j:Int)=some j:=by
  unfold hQ;rw[if_pos (by lia),if_pos<|by lia];simp
 unfold bS;rw[e];exact h
theorem Yc xs(v:α):bS (xs++[v]) (-1)=some v:=by
 have a:(xs++[v]).length=xs.length+1:=by simp
 have e:hQ (xs++[v]).length (-1)=some xs.length:=by
  unfold hQ;rw[a,if_neg (by decide),if_pos<|by lia];congr 1
  lia
 unfold bS;rw[e];simp
def Fw(b:Expr):Prop:=∀o i,A8 b false o i=operate [o,i] (Au o i)
def wT(X:Cx)(r:R2):Prop:=
 ∀(b a:Expr) (d:Zp) (s:a7) (c:St) (H:Hp) (x y:V) (v u:aI) (Q:VK),am X d c H s->bn x v->bn y u->r x y H Q->
  A8 a false v u=operate [v,u] (Au v u)->cb (cK X.p X.w) X.A (yi b a v u) (EP X d c Q) X.g s
def z3(X:Cx)(id:String)(r:V->List V->Hp->VK->Prop):Prop:=
 ∀(b:Zp) (s:a7) (a:St) (H:Hp) (x:V) (xs:List V) (v:aI) (us:List aI) (Q:VK),am X b a H s->bn x v->a_ xs us->r x xs H Q->
  cb (cK X.p X.w) X.A (call (.builtin id) (v::us)) (EP X b a Q) X.g s
section
variable {a b:Expr}
def MQ(K:bg):R2:=λx y H Q=>∃p xs i v,x=.r p/\y=.l i/\eO K H p xs/\bS xs i=some v/\Q v H
def Nl(K:bg):R2:=λx y H Q=>∃p xs i v,x=.r p/\y=.l i/\h_ K H p xs/\bS xs i=some v/\Q v H
def No:R2:=λx y H Q=>∃z i c,x=.p z/\y=.l i/\z.length<=aw/\bS z.cps.toList i=some c/\Q (.p ⟨#[c]⟩) H
theorem To:wT X (MQ X.K):=by
 intro b e g s m H x y v u Q I D E h k;refine ZH h λp O i z zq4 zq5 F G q=>?_;subst zq4;subst zq5;subst D;obtain⟨t,rfl⟩:=E;refine o5 (I.IO F) λL r pl P=>?_;refine E1 (K7 G) λj a B R A n=>?_;refine oj (r.d B) λw f c=>?_;have M:=r.l;have S:=CW;have fin:EP X g m Q w s:=⟨z,H,I,c,q⟩;by_cases l:0<=i
 .have d:i.toNat=j:=by
   rw[seqIndex_of l n] at a;exact cE a
  exact item_listR pl.isList l (by lia) (by rw[d];simpa using f) fin k
 have d:(i+(L.toArray.size)).toNat=j:=by
  rw[seqIndex_neg (by lia) A] at a;rw[bo,<-M];exact cE a
 exact subscriptTail_builtinR pl.isList.typeIs xy.lookup
  (wpAny_getItem_list_neg pl.isList (by lia) (by rw[bo]<;>lia) (by lia) (by rw[d];simpa using f) ⟨rfl,fin⟩) k
theorem Pi:wT X (Nl X.K):=by
 intro a c d s e H x y v u Q I l n h k;refine ZH h λp G i z zq4 zq5 A B q=>?_;subst zq4;subst zq5;subst l;obtain⟨t,rfl⟩:=n;refine o5 (I.Id A) λO r pl M=>?_;refine E1 (K7 B) λj m g N L F=>?_;refine oj (r.d g) λw f b=>?_;have D:=r.l;have P:=CW;have fin:EP X d e Q w s:=⟨z,H,I,b,q⟩;exact subscriptTail_builtinR pl.typeIs slot_tuple_getitem.lookup
  (getItem_tuple pl (by lia) (by lia) (by rw[bo,<-D];exact m) (by simpa using f) ⟨rfl,fin⟩) k
theorem OY:wT X No:=by
 intro a b A s E H x y v u Q I m p h l;refine ZY h λz i c zq3 zq4 B r q=>?_;subst zq3;subst zq4;obtain⟨t,rfl⟩:=m;obtain⟨D,rfl⟩:=p;refine E1 (K7 r) λj d k F g e=>?_;have w:z.cps.toList.length=z.length:=by simp[Str.length]
 rw[w] at d g e;have G:=CW;exact tail_any (xA s z t) slot_str_getitem.lookup (getItem_str (by
  have f:decide (i < -(2^63:Int))=false:=decide_eq_false (by lia);have n:decide (i≥2^63)=false:=decide_eq_false (by lia);rw[f,n,Bool.or_false]) (by rw[d];simpa using k) ⟨.p ⟨#[c]⟩,H,I.tok _,⟨_,rfl⟩,q⟩) l
theorem Rv(o:List aI) n j  u :sT (·.setIfInBounds j u) { cls:=.type "list",data:=.seq o.toArray n }={ cls:=.type "list",data:=.seq (o.set j u).toArray n }:=by
 simp[sT]
theorem am.P(I:am X π σ H s)(h:H p=some (.P xs)):
  ∃(o:List aI) (n:Nat),a_ xs o/\s.heap.get? p=some { cls:=.type "list",data:=.seq o.toArray n }/\xs.length<=aw:=by
 obtain⟨z,o,n,r,e⟩:=I.W p _ h;exact⟨o,n,r,e,z⟩
theorem am.ae6{C:List aI}(I:am X π σ H s)(h:H p=some (.P xs))
  (J:s.heap.get? p=some { cls:=.type "list",data:=.seq C.toArray n }) (o:f { cls:=.type "list",data:=.seq C.toArray n }={ cls:=.type "list",data:=.seq its'.toArray n' }) (r:a_ ys its') (hz:ys.length<=aw)  t :
  am X π σ (upd H p<|.P ys) { s with heap:=s.heap.update p f,toks:=t}:=by
 have e:(s.heap.update p f).get? p=some { cls:=.type "list",data:=.seq its'.toArray n' }:=by
  rw[eP f J (by rw[o]<;>rfl),o]
 refine I.write (by rw[h];trivial) (.inl rfl) (λb u a q=>(c4 _ _<|eW a).trans q) ⟨_,e⟩ ?_;exact⟨hz,_,n',r,e⟩
def NU:V->V->V->Hp->(Hp->Prop)->Prop:=λo i v H Q=>∃p xs k j,o=.r p/\i=.l k/\H p=some (.P xs)/\hQ xs.length k=some j/\Q (upd H p<|.P<|xs.set j v)
theorem mv:F2 X NU:=by
 intro y s E H o i v G L u Q I D z F h;refine ZH h λp x k j zq4 zq5 f A q=>?_;subst zq4;subst zq5;subst D;obtain⟨t,rfl⟩:=z;refine Ek (I.P f) λm n r c B=>?_;refine ZN (SJ A) λa K l e=>?_;have d:=r.l;have M:=CW;have w:am X y E (upd H p<|.P<|x.set j v) { s with heap:=s.heap.update p (sT (·.setIfInBounds j u))}:=
  I.ae6 f c (Rv m n j u) (r.Y F j) (by rw[pw];exact B) s.toks
 by_cases g:0<=k
 .have b:k.toNat=j:=by
   rw[seqIndex_of g e] at a;exact cE a
  exact W.ki_setAt c g (by lia) (by rw[bo,<-d];exact e) (by rw[b];exact⟨_,w,q⟩)
 have b:(k+(m.toArray.size:Int)).toNat=j:=by
  rw[seqIndex_neg (by lia) l] at a;rw[bo,<-d];exact cE a
 exact W.ki_setBack c (by lia) (by rw[bo,<-d];exact l) (by lia) (by rw[b];exact⟨_,w,q⟩)
theorem Mp lo o n:(ml lo o none n).1=((HT.c_ n 0 lo:Nat):Int)/\(ml lo o none n).2.1=((HT.c_ n n o:Nat):Int)/\(ml lo o none n).2.2=1:=by
 refine⟨?_,?_,rfl⟩
 .cases lo with
  |none=>simp[ml,HT.c_]
  |some i=>
   simp only[ml,HT.c_,Option.getD_none,show(1)>0 by decide,if_true];by_cases h:i<0
   .simp only[h,if_true]<;>lia
   simp only[h,if_false]<;>lia
 cases o with
 |none=>simp[ml,HT.c_]
 |some i=>
  simp only[ml,HT.c_,Option.getD_none,show(1)>0 by decide,if_true];by_cases h:i<0
  .simp only[h,if_true]<;>lia
  simp only[h,if_false]<;>lia
theorem Iu(o:List aI) lo C :slicePick o.toArray lo C none=((o.drop<|HT.c_ o.length 0 lo).take<|HT.c_ o.length o.length C-HT.c_ o.length 0 lo).toArray:=by
 obtain⟨a,c,b⟩:=Mp lo C _;unfold slicePick;rw[a,c,b];simp only[sliceRange_one,pick_run,bo]<;>rfl
def NA(K:bg):V->Option Int->Option Int->Hp->VK->Prop:=λx lo b H Q=>∃a xs,x=.r a/\eO K H a xs/\∀p,H p=none->Q (.r p) (upd H p<|.P<|Ov xs lo b)
theorem WA:zd X (NA X.K):=by
 intro n s t H x v y u d e m Q I j i pl pu h;refine Y_ h λa c zq2 g q=>?_;subst zq2;subst j;refine o5 (I.IO g) λw r f k=>?_;have l:=r.l;refine⟨ _,_,xy.lookup,f.isList.typeIs,?_⟩;refine xB f.isList i pl pu .none (by simp) ?_ (by rw[bo]<;>lia);rw[Iu,<-l];refine⟨.r _,_,I.laid (λb p q=>ah _ q) (bb _) ?_,rfl,q _<|I.W.n<|bb _⟩;exact⟨dS (Dy c d e) k,_,0,(r.m<|HT.c_ _ 0 d).j<|HT.c_ _ _ e-HT.c_ _ 0 d,bp _ rfl⟩
noncomputable def zj:V->Bool
 | .E=>true
 | .B _=>true
 | .l _=>true
 | .p _=>true
 |_=>false
noncomputable def wb:V->V->Bool
 | .E,.E=>true
 | .B a,.B b=>a==b
 | .B a,.l b=>(if a then 1 else 0)==b
 | .l a,.B b=>a==(if b then 1 else 0)
 | .l a,.l b=>a==b
 | .p a,.p b=>a==b
 |_,_=>false
def nl(x:V)(u:aI):Bool:=match u with
 | .none=>wb .E x
 | .bool b=>wb (.B b) x
 | .int i _=>wb (.l i) x
 | .str z _=>wb (.p z) x
 |_=>false
theorem Zi(r:bn y u)(f:zj y=true):nl x u=wb y x:=by
 cases y with
 |E=>subst r;rfl
 |B b=>subst r;rfl
 |l i=>obtain⟨t,rfl⟩:=r;rfl
 |p z=>obtain⟨t,rfl⟩:=r;rfl
 |_=>exact absurd (f) a8
theorem Aa:∀{xs:List V} {us:List aI},a_ xs us->xs.all zj=true->us.any (nl x)=xs.any λy=>wb y x
 |_,_,.nil,_=>rfl
 |y::xs,u::us,.cons r t,f=>by
  rw[mE,ia] at f;rw[kC,kC,Zi r f.1,Aa t f.2]
theorem wZ(o:bn x v)(C:zj x=true):∀{xs:List V} {us:List aI},a_ xs us->xs.all zj=true->∀u∈us,SeqAt.EqAt A s u v (nl x u)
 |_,_,.nil,_=>λu d=>by cases d
 |y::xs,u::us,.cons r t,f=>λe d=>by
  rw[mE,ia] at f;rcases a9.mp d with rfl|d
  .exact(by
    cases y with
    |E=>
     cases r;cases x with
     |E=>subst o;exact C0 _
     |B b=>subst o;exact SeqAt.EqAt.none_bool b
     |l b=>obtain⟨t,rfl⟩:=o;exact SeqAt.EqAt.none_int b t
     |p b=>obtain⟨t,rfl⟩:=o;exact SeqAt.EqAt.none_str b t
     |_=>exact absurd (C) a8
    |B a=>
     subst r;cases x with
     |E=>subst o;exact SeqAt.EqAt.bool_none a
     |B b=>subst o;exact SeqAt.EqAt.bool_bool a b
     |l b=>obtain⟨t,rfl⟩:=o;exact SeqAt.EqAt.bool_int a b t
     |p b=>obtain⟨t,rfl⟩:=o;exact SeqAt.EqAt.bool_str a b t
     |_=>exact absurd (C) a8
    |l a=>
     obtain⟨c,rfl⟩:=r;cases x with
     |E=>subst o;exact SeqAt.EqAt.int_none a c
     |B b=>subst o;exact SeqAt.EqAt.int_bool a c b
     |l b=>obtain⟨t,rfl⟩:=o;exact SeqAt.EqAt.int_int a c b t
     |p b=>obtain⟨t,rfl⟩:=o;exact BC a c b t
     |_=>exact absurd (C) a8
    |p a=>
     obtain⟨c,rfl⟩:=r;cases x with
     |E=>subst o;exact SeqAt.EqAt.str_none a c
     |B b=>subst o;exact SeqAt.EqAt.str_bool a c b
     |l b=>obtain⟨t,rfl⟩:=o;exact BD a c b t
     |p b=>obtain⟨t,rfl⟩:=o;exact SeqAt.EqAt.str_str a c b t
     |_=>exact absurd (C) a8
    |_=>exact absurd (f.1) a8)
  exact wZ o C t f.2 e d
def DS(x:V)(xs:List V):Bool:=xs.any λy=>wb y x
def EG(K:bg)(neg:Bool):R2:=λx y H Q=>∃p xs,y=.r p/\(eO K H p xs\/h_ K H p xs)/\zj x=true/\xs.all zj=true/\Q (.B<|if neg then !DS x xs else DS x xs) H
theorem Kf:gc X (iq .In) (EG X.K false):=by
 intro j s k H x y v u Q I e g h;refine Z' h λp i zq2 a d fs q=>?_;subst zq2;subst g;rcases a with a|a
 .refine o5 (I.IO a) λb r pl f=>?_;refine SeqAt.in_listAt _ pl.isList (λw c=>wZ e d r fs w<|by simpa using c) ⟨.B _,H,I,rfl,?_⟩;rw[show b.toArray.any _=b.any (nl x) by simp,Aa r fs];exact q
 refine o5 (I.Id a) λb r pl f=>?_;refine SeqAt.in_tupleAt _ pl (λw c=>wZ e d r fs w<|by simpa using c) ⟨.B _,H,I,rfl,?_⟩;rw[show b.toArray.any _=b.any (nl x) by simp,Aa r fs];exact q
theorem Ak:gc X (iq .NotIn) (EG X.K true):=by
 intro j s k H x y v u Q I e g h;refine Z' h λp i zq2 a d fs q=>?_;subst zq2;subst g;rcases a with a|a
 .refine o5 (I.IO a) λb r pl f=>?_;refine SeqAt.notIn_listAt (nl x) pl.isList (λw c=>wZ e d r fs w<|by simpa using c) ⟨.B _,H,I,rfl,?_⟩;rw[show b.toArray.any (nl x)=b.any (nl x) by simp,Aa r fs];exact q
 refine o5 (I.Id a) λb r pl f=>?_;refine SeqAt.notIn_tupleAt (nl x) pl (λw c=>wZ e d r fs w<|by simpa using c) ⟨.B _,H,I,rfl,?_⟩;rw[show b.toArray.any (nl x)=b.any (nl x) by simp,Aa r fs];exact q
theorem Av:jf X (.builtin "len") (λxs H Q=>∃p ys,xs=[.r p]/\(eO X.K H p ys\/h_ X.K H p ys)/\Q (.l ys.length) H):=by
 intro g s j H xs i Q I r h;refine Y_ h λp ys zq2 a q=>?_;subst zq2;refine oj (e_ r) λu zq1 d=>?_;subst zq1;subst d;have k:=CW;rcases a with a|a
 .refine o5 (I.IO a) λf b pl e=>?_;have c:=b.l;exact Calls.call_len_list pl.isList (by simp only[bo]<;>lia) ⟨.l _,H,I.tok _,⟨ _,by rw[bo,c]⟩,q⟩
 refine o5 (I.Id a) λf b pl e=>?_;have c:=b.l;exact len_tuple pl (by simp only[bo]<;>lia) ⟨.l _,H,I.tok _,⟨ _,by rw[bo,c]⟩,q⟩
theorem Kl:jf X (.builtin "len") (λxs H Q=>∃z,xs=[.p z]/\z.length<=aw/\Q (.l z.length) H):=by
 intro b s a H xs c Q I r h;refine o5 h λz zq1 e q=>?_;subst zq1;obtain⟨u,rfl,t,rfl⟩:=e_ r;have d:=CW;exact len_str (by lia) ⟨.l _,H,I.tok _,⟨_,rfl⟩,q⟩
theorem Mf:jf X (.type "list") (λxs H Q=>∃p ys,xs=[.r p]/\(eO X.K H p ys\/h_ X.K H p ys)/\∀l,H l=none->Q (.r l) (upd H l<|.P ys)):=by
 intro t s x H xs z Q I r h;refine Y_ h λp ys zq2 i q=>?_;subst zq2;refine oj (e_ r) λu zq1 v=>?_;subst zq1;subst v;have fin:∀(c),a_ ys c->ys.length<=aw->∀(a:Heap) (d:Nat),(∀b m,s.heap.get? b=some m->a.get? b=some m)->
   a.get? _=some _->EP X t x Q _ _:=λc f g a d kp e=>
  ⟨.r _,_,I.laid (t':=s.toks) kp (bb _)<|show bZ _ _ _ a _ (.P ys) from⟨g,c,d,f,e⟩,rfl,q _<|I.W.n<|bb _⟩
 rcases i with i|i
 .refine o5 (I.IO i) λc f pl g=>?_;have y:=f.l;obtain⟨o,j,k,n,hd⟩:=pl.isList;exact call_list_seq p (.inl rfl) j k hd (λa d kp e=>fin c f g a d kp e) (by simp only[bo]<;>lia)
 refine o5 (I.Id i) λc f pl g=>?_;have y:=f.l;obtain⟨o,j,k,n,hd⟩:=pl;exact call_list_seq p (.inr rfl) j k hd (λa d kp e=>fin c f g a d kp e) (by simp only[bo]<;>lia)
theorem yR:jf X (.type "tuple") (λxs H Q=>∃p ys,xs=[.r p]/\((eO X.K H p ys/\∀l,H l=none->Q (.r l) (upd H l<|.w ys))\/(h_ X.K H p ys/\Q (.r p) H))):=by
 intro g s j H xs t Q I r h;obtain⟨p,ys,rfl,h⟩:=h;obtain⟨u,rfl,m⟩:=e_ r;subst m;rcases h with⟨d,q⟩|⟨d,q⟩
 .refine o5 (I.IO d) λf c pl i=>?_;have v:=c.l;refine call_tuple_list pl.isList (λa kp=>?_) (by simp only[bo]<;>lia);have k:=I.we (t':=s.toks) kp;have n:=
   k.laid (t':=s.toks) (λb o e=>ah _ e) (bb _) (show bZ _ _ _ _ _ (.w ys) from⟨i,f,c,N8.O _ _⟩)
  exact⟨.r _,_,n,rfl,q _<|k.W.n<|bb _⟩
 refine o5 (I.Id d) λf c pl i=>?_;exact call_tuple_same pl ⟨.r p,H,I,rfl,q⟩
def ED(K:bg)(T:String)(x:V)(H:Hp):Prop:=match x with
 | .p _=>T = "str"
 | .l _=>T = "int"
 | .r p=>(T = "list"/\∃xs,eO K H p xs)\/(T = "tuple"/\∃o,K.lookup p=some o/\o.cls=.type "tuple"/\o.dict=none) ∨
   (T = "dict"/\((∃ι,Rd H p<|.c ι)\/∃T ι,Rd H p<|.d T ι))\/(T = "set"/\∃S n,H p=some (.Y S n))
 |_=>False
theorem XJ(I:am X π σ H s)(r:bn x v)(ty:ED X.K T x H):
  s.TypeIs v T/\∀a,v=.ref a->∃ob,s.heap.get? a=some ob/\ob.dict=none:=by
 cases x with
 |p z=>
  obtain⟨t,rfl⟩:=r;cases(ty);exact⟨xA s z t,λ_ e=>nomatch e⟩
 |l i=>
  obtain⟨t,rfl⟩:=r;cases(ty);exact⟨typeIs_int s i t,λ_ e=>nomatch e⟩
 |r p=>
  subst r;rcases ty with⟨rfl,k,j⟩|⟨rfl,o,b,h,hd⟩|⟨rfl,b⟩|⟨rfl,S,n,b⟩
  .refine o5 (I.IO j) λl _ pl _=>?_;refine⟨pl.isList.typeIs,λa e=>?_⟩;cases e;refine DR pl λo n e c hd _=>?_;exact⟨o,e,hd⟩
  .refine⟨⟨o,I.kIn p o b,h⟩,λa e=>?_⟩;cases e;exact⟨o,I.kIn _ o b,hd⟩
  .have z:∃o,s.heap.get? p=some o/\o.ExactDict:=by
    rcases b with⟨g,b⟩|⟨_,g,b⟩
    .obtain⟨_,_,_,_,o,_,_,e,d,_⟩:=(b.R I.W);exact⟨o,e,d⟩
    obtain⟨_,_,_,_,o,_,_,e,d,_⟩:=(b.R I.W);exact⟨o,e,d⟩
   refine oj z λo e d=>?_;refine⟨⟨o,e,d.1⟩,λa f=>?_⟩;cases f;exact⟨o,e,d.2.1⟩
  refine P8 (I.W p _ b) λo _ _ _ e d _=>?_;refine⟨⟨o,e,d.1⟩,λa f=>?_⟩;cases f;exact⟨o,e,d.2.1⟩
 |_=>exact fT ty
def LG(K:bg)(T:String)(r:V->List V->Hp->VK->Prop)(o:TE):TE:=λa H Q=>o a H λx H1=>ED K T x H1/\r x [] H1 Q
def KA(K:bg)(T:String)(r:V->List V->Hp->VK->Prop)(o:TE)(t:TA):TE:=λa H Q=>o a H λx H1=>ED K T x H1/\t a H1 λxs b=>r x xs b Q
variable {apos η:Pos}{id:String}
theorem Rr(U:PlainAttrs T)(C:Slot T name id)(J:typeOf (.builtin id)=pure (.type "method_descriptor"))(hm:z3 X id r)(ho:PE X o to)
  (ξ:autoParam (ib o name X.d (eval o X.d)=eval o X.d) YO) (θ:autoParam ((apos.endLine==η.line)=true) YO):PE X (.Call (.Attribute o name apos) [] [] η) (LG X.K T r to):=by
 intro b s a H Q I h;refine wpAny_Call_method0_late ξ θ<|ce (ho b s a H _ I h) λv e j=>?_;refine DR j λx H1 c d ty g=>?_;obtain⟨i,f⟩:=XJ c d ty;exact⟨T,id,U,C,J,i,f,qc rfl<|PySem.evalArgs_none<|hm b e a H1 x [] v [] Q c d .nil g⟩
theorem PQ(pa:PlainAttrs T)(J:Slot T name id)(U:typeOf (.builtin id)=pure (.type "method_descriptor"))(hm:z3 X id r)(ho:PE X o to)(ha:PA X (e::es) t)
  (ξ:autoParam (ib o name X.d (eval o X.d)=eval o X.d) YO)
  (υ:((ij η<|ag (e::es) X.d).all (λx=>!x.1)&&(yk η<|og [] X.d).all (λx=>x.1.isSome)
   && decide ((e::es).length+([]:List om).length+(if([]:List om).isEmpty then 0 else 1)<30))=true:=by rfl)
  (θ:autoParam ((apos.endLine==η.line)=true) YO) (hs:autoParam (ag (e::es) X.d=(false,eval e X.d)::ag es X.d) YO) (C:autoParam ((ij η<|ag es X.d).any (·.1)=false) YO):
  PE X (.Call (.Attribute o name apos) (e::es) [] η) (KA X.K T r to t):=by
 intro a s c H Q I h;refine wpAny_Call_method_late ξ υ θ rfl<|ce (ho a s c H _ I h) λv q b=>?_;refine DR b λx H1 g d ty l=>?_;obtain⟨m,j⟩:=XJ g d ty;refine⟨T,id,pa,J,U,m,j,?_⟩;have f:=ha η a q c H1 _ g l;rw[hs] at f ⊢;refine qc (by show(false||(ij η<|ag es _).any _)=false;rw[C]<;>rfl)<|sM ?_;exact ce f λn k b=>f3 b λu p w y i=>hm a k c p x u v n Q w d y i
end
def z5(X:Cx)(id:String)(r:V->List V->Hp->VK->Prop):Prop:=
 ∀(b:Zp) (s:a7) (a:St) (H:Hp) (x:V) (xs:List V) (v:aI) (us:List aI) (Q:VK),am X b a H s->bn x v->a_ xs us->r x xs H Q->
  cb (cK X.p X.w) X.A (call (.builtin id) (v::us)) (EP X b a Q) X.g s
theorem a_.p:∀{x:V} {us:List aI},a_ [x] us->∃u,us=[u]/\bn x u:=by
 intro x us h;cases h with|cons r t=>cases t;exact⟨_,rfl,r⟩
theorem a_.z:∀{us:List aI},a_ [] us->us=[]
 |_,.nil=>rfl
theorem a_.g(h:a_ xs us):a_ xs.dropLast us.dropLast:=by
 induction h with
 |nil=>exact .nil
 |cons r t ih=>
  cases t with
  |nil=>exact .nil
  |cons q t'=>exact .cons r ih
theorem a_.f(h:a_ xs us):a_ xs.reverse us.reverse:=by
 induction h with
 |nil=>exact .nil
 |cons r t ih=>rw[kS,kS];exact a_.c ih<|.cons r .nil
theorem Q5(l:List α):l.eraseIdx (l.length-1)=l.dropLast:=by
 induction l with
 |nil=>rfl
 |cons a r ih=>
  cases r with
  |nil=>rfl
  |cons b r=>
   have e:(a::b::r).length-1=((b::r).length-1)+1:=by
    have d:(a::b::r).length=r.length+2:=rfl;have c:(b::r).length=r.length+1:=rfl
    lia
   rw[e,List.eraseIdx_cons_succ,ih]
   all_goals rfl
section
variable {σ:St}
theorem am.ab8{o:List aI}(I:am X π σ H s)(C:H l=some (.P xs))
  (e:s.heap.get? l=some { cls:=.type "list",data:=.seq o.toArray n }) (J:f o.toArray=its'.toArray) (U:a_ ys its') (hz:ys.length<=aw):
  am X π σ (upd H l<|.P ys) { s with heap:=s.heap.update l<|sT f,toks:=t'}:=by
 have q:=PySem.IsL.update e f;rw[J] at q;refine I.write (by rw[C];exact trivial) (.inl rfl) (λc u a b=>(c4 _ _<|eW a).trans b) ⟨_,q⟩ ?_;exact⟨hz,_,_,U,q⟩
theorem am.YB(I:am X π σ H s)(C:H l=some (.P xs)):xs.length<=aw/\∃(o:List aI) (n:Nat),a_ xs o/\xs.length=o.length/\s.heap.get? l=some { cls:=.type "list",data:=.seq o.toArray n }:=by
 obtain⟨z,o,n,r,e⟩:=I.W l _ C;exact⟨z,o,n,r,r.l,e⟩
theorem Yz(h:n<=aw):oB n=false:=by
 exact decide_eq_false<|by lia
end
def UU:V->List V->Hp->VK->Prop:=λx a H Q=>∃l xs y,x=.r l/\a=[y]/\H l=some (.P xs)/\xs.length<aw/\Q .E (upd H l<|.P<|xs++[y])
theorem Cq:z5 X "list.append" UU:=by
 intro g s k H x m v i Q I c d h;refine ZY h λl f y zq3 zq4 a j q=>?_;subst zq3;subst zq4;subst c;refine oj d.p λu zq1 ru=>?_;subst zq1;obtain⟨z,b,n,r,p,e⟩:=I.YB a;refine B9 F.slot_list_append ⟨_,e,rfl⟩ F.entry_list_append (F.args_list_append_2 _ _) (PySem.list_append l b.toArray n u (by rw[bo];lia)) ⟨e,?_⟩;refine⟨.E,_,I.ab8 (its':=b++[u]) a e (by simp) (r.c<|.cons ru .nil) ?_,rfl,q⟩;rw[bq,eS]
 lia
def Th:V->List V->Hp->VK->Prop:=λx a H Q=>∃l b xs zs,x=.r l/\a=[.r b]/\H l=some (.P xs)/\H b=some (.P zs)/\xs.length+zs.length<=aw/\Q .E (upd H l<|.P<|xs++zs)
theorem V7:z5 X "list.extend" Th:=by
 intro A s K H x L v E Q I j t h;refine Z_46 h λl b y B zq4 zq5 g m G q=>?_;subst zq4;subst zq5;subst j;refine oj t.p λu zq1 ru=>?_;subst zq1;subst ru;obtain⟨z,d,n,r,M,e⟩:=I.YB g;obtain⟨D,a,w,p,i,k⟩:=I.YB m;have f:d.toArray.size+a.toArray.size<=aw:=by rw[bo,bo];lia
 have c:¬(!d.toArray.isEmpty&&oB (d.toArray.size+a.toArray.size))=true:=by
  rw[Yz f,Bool.and_false];exact a8
 refine B9 F.slot_list_extend ⟨_,e,rfl⟩ F.entry_list_extend (F.args_list_extend_2 _ _)
  (AutoSeq1.list_extend_list_list_0 l _ n b _ w c (by lia)<|by lia) ⟨e,k,?_⟩
 refine⟨.E,_,I.ab8 g e (by simp) (r.c p) ?_,rfl,q⟩;rw[bq]
 omega
def L3:V->List V->Hp->VK->Prop:=λx a H Q=>∃l xs y,x=.r l/\a=[]/\H l=some (.P xs)/\xs[xs.length-1]? = some y/\Q y (upd H l<|.P xs.dropLast)
theorem Yq:z5 X "list.pop" L3:=by
 intro p s w H x A v t Q I f j h;refine ZY h λl m y zq3 zq4 d i q=>?_;subst zq3;subst zq4;subst f;have c:=j.z;subst c;obtain⟨z,a,n,r,k,e⟩:=I.YB d;refine oj (r.d i) λu g ru=>?_;have b:a.toArray[a.toArray.size-1]? = some u:=by
  show a.toArray[a.length-1]? = some u;rw[<-Array.getElem?_toList,<-k];exact g
 refine B9 F.slot_list_pop ⟨_,e,rfl⟩ F.entry_list_pop (F.args_list_pop_1 _) (MeetsSeq.list_pop_last l _ n u b (by rw[bo];lia)) ⟨e,?_⟩;refine⟨y,_,I.ab8 d e ?_ r.g ?_,ru,q⟩
 .rw[bo,List.eraseIdxIfInBounds_toArray,Q5]
 rw[List.length_dropLast]
 lia
end L2
namespace Att
open PySem PySem.W PySem.Calls PyProof.Rows
theorem Eu:∀(ns) (o),WellAll P h o (ns.map WData.int)->IntsAre o ns:=by
 intro ns;induction ns with
 |nil=>
  intro o w;cases w;exact .nil
 |cons n ns ih=>
  intro o w;cases w with
  |cons a b=>
   cases a;exact .cons _ _<|ih _ b
theorem We{l:OpenLaw}(hn:l.most=some n)
  (C:l.row.toRowW.claim.pre o=true) (J:WellAll P h I o):
  ∃a U ns,I=[cq a]/\o=[WData.list<|ns.map WData.int]/\h.get? a=some { cls:=.type "list",data:=.seq U.toArray }/\IntsAre U ns/\ns.length<=n:=by
 have e:=(pre_splitW C).1;have f:l.pre.holds [] _=true:=(pre_splitW C).2;refine Y_ (hasAllW_cons e) λd r zq2 m i=>?_;subst zq2;obtain rfl:=hasAllW_nil i;refine oj (hasW_list m) λp zq1 j=>?_;subst zq1;obtain⟨ns,rfl⟩:=items_int j;have k:ns.length<=n:=by
  have c:(WTm.not<|.lt (.lit<|.int (n))<|.len<|.arg 0).holds [] { args:=[.list<|ns.map .int]}=true:=by
   have c:=(holds_andW f).1;rw[hn] at c;exact c
  have b:=condW_of c<|w_not<|w_lt w_lit<|w_len_list<|w_arg rfl;refine Nat.le_of_not_lt λq=>?_;first
   |(exact absurd b<|by decide)
   |(simp at b;lia)
 cases J with
 |cons w1 w2=>
  cases w2;cases w1 with
  |list ho hall=>exact⟨_,_,ns,rfl,rfl,ho,Eu ns _ hall,k⟩
theorem WT(l:OpenLaw) o :l.row.toRowW.claim.post o (.bool true) o=true:=
 postW_of
  (by first|rfl|decide|simp[WShape.q,WShape.arms,WShape.armsAll])
  (w_eq_bool (w_res rfl) w_lit) rfl
theorem N7{l:OpenLaw}
  (hn:l.most=some n) (hdf:d.params.defaults=[])
  (call:∀(w:eI) (I C:a7) (mg mb:eR) (fa:Addr) (o:Obj) (pm cd J:aI) (a:Addr) (U:List aI) (ns:List Int),
   Ground q loose [] XP w I mg mb C.heap->YP w C.heap->
   C.heap.get? fa=some o->o.data=.func (docDef d.name d.params d.body d.scope pm cd J)->C.heap.CodeRec cd d.name->mg d.name=some (.ref fa)->
   C.heap.get? a=some { cls:=.type "list",data:=.seq U.toArray }->IntsAre U ns->ns.length<=n->C.gens=#[]->
   A7 (cK l.prog w) Cc (.call (.ref fa) ⟨[.ref a],[]⟩) (λr s'=>r=.ok (.ret<|.bool true)/\OldK C.heap s'.heap/\s'.os=C.os/\yb s'.gens) C):
  WalkO q loose XP YP l.row.toRowW d [] (λf U=>DB f U):=by
 intro w I C mg mb G Y fa o pm cd J y kV A hd i p h D j m as c k z g E;obtain rfl:y=.none:=Dflts.none p hdf;obtain rfl:kV=.none:=Dflts.noKw p;refine ZY (We hn c g) λa U ns zq3 zq4 e b x=>?_;subst zq3;subst zq4;refine enter_call<|r9 (call w I C mg mb fa o pm cd J a U ns G Y A (fd_plain hd) i h e b x D) λr s' B=>?_;refine ZN B λzq0 u v t=>?_;subst zq0;exact⟨.inl ⟨ _,_,[],rfl,λ_=>rfl,.bool _,WT l _,λ_=>⟨List.Pairwise.nil,λ_ s=>(nomatch s)⟩⟩,u,v,t⟩
end Att
namespace L2
open PySem PySem.Spec PyProof.Rows
theorem JV:∀{o:List aI} {ns:List Int},IntsAre o ns->a_ (ns.map V.l) o
 |_,_,.nil=>.nil
 |_,_,.cons n t h=>.cons ⟨t,rfl⟩<|JV h
def wn(H:Hp):Prop:=∀b,H b=none\/∃o xs,H b=some (.b o<|.P xs)
theorem WF{K:bg}
  (KX:K.In C.heap) (hns:C.heap.Ns dQ mg) (I:C.heap.Ns builtinsNs mb) (hbb:∀x:Str,x≠"__name__"->mb x=cx x) (hlim:C.heap.NoLimit) (hg:C.gens=#[])
  (ha:C.heap.get? a=some { cls:=.type "list",data:=.seq U.toArray }) (hi:IntsAre U ns) (hl:ns.length<=aw) (hr:eV k Cc)
  (F:∀J:Heap,K.In J->J.Ns dQ mg->oY P w K mg J CX k fa fd [x] sp) (hbind:∀(s:a7) (u:aI),B6 s fd ⟨[u],[]⟩ [(x,u)])
  (hsp:∀H:Hp,wn H->eO K H a (ns.map V.l)->sp [.r a] H (λv _=>v=.B true) λ_ _ _=>False)
  (hCX:∀H e s',CX [] H C (λ_ _ _=>False) e s'->False):
  A7 (cK P w) Cc (.call (.ref fa) ⟨[.ref a],[]⟩) (λr s'=>r=.ok (.ret<|.bool true)/\OldK C.heap s'.heap/\s'.os=C.os/\yb s'.gens) C:=by
 have L:=JV hi;have j:=hi.length;have g:∀H:Hp,wn H->eO K H a (ns.map V.l)->hM P w H C.heap->(∀b,H b≠none->b=a)->(H a≠none->K.lookup a=none)->
   A7 (cK P w) Cc (.call (.ref fa) ⟨[.ref a],[]⟩) (λr s'=>r=.ok (.ret<|.bool true)/\OldK C.heap s'.heap/\s'.os=C.os/\yb s'.gens) C:=by
  intro H E N l G hK;have c:∀{b:Addr} {o:Obj},C.heap.get? b=some o->H b=none->(MP C.heap H).get? b=some o:=λe n=>Xz e n;have D:∀{b:Addr} {o:Obj} {es:Array DictEntry} {ep:Nat},C.heap.get? b=some o->o.data=.dict es ep->H b=none:=λ{b o es ep} e d=>by
   cases q:H b with
   |none=>rfl
   |some u=>
    have B:b=a:=G b (by rw[q];simp);subst B;rw[ha] at e;cases e;have S:Data.seq U.toArray _=Data.dict es ep:=d;cases S
  have f:∀{b:Addr} {m:eR},C.heap.Ns b m->(MP C.heap H).Ns b m:=λ{b m} ⟨o,es,ep,e,d,r⟩=>⟨o,es,ep,c e<|D e d,d,r⟩;have t:K.In (MP C.heap H):=λb o e=>c (KX b o e) (by
   cases q:H b with
   |none=>rfl
   |some u=>
    have B:b=a:=G b (by rw[q];simp);subst B;rw[hK (by rw[q];simp)] at e;cases e)
  have O:Mod K mg (MP C.heap H):=⟨t,f hns,⟨mb,f I,hbb⟩,(by obtain ⟨mc,h1,h2⟩:=hlim;exact ⟨mc,f h1,h2⟩)⟩;have Z:IV P w K mg (MP C.heap H) Cc [] C H:=⟨rfl,O,λb o e=>VZ e,CH<|(W.hideAll_size _ _),trivial,λb I=>absurd (show b∈([]:List Addr) from I) (by simp),l,.of_eq hg⟩;refine r9 ((F _ t<|f hns).r Cc [] C H ⟨[.ref a],[]⟩ [.ref a] [.r a] _ _ hr Z (hbind C<|.ref a) (.cons rfl .nil)<|hsp H E N) λr s' h=>?_;cases r with
  |error e=>exact(hCX H e s' h).elim
  |ok fl=>
   cases fl with
   |next=>exact fT h
   |brk=>exact fT h
   |cont=>exact fT h
   |ret u=>
    refine Qh h λv H' os p un y Q q=>?_;have R:v=.B true:=q;subst R;obtain rfl:u=qk true:=Q;refine⟨rfl,OldK.of_keep λb o e=>?_,os,p⟩;cases q:H b with
    |none=>exact un.Z b o e q (by intro z;exact absurd (show b∈([]:List Addr) from z) (by simp)) (by simp)
    |some u=>
     rcases E b with z|⟨Y,xs,z⟩
     .rw[q] at z;cases z
     have T:=un.L b Y _ z;obtain⟨M,_⟩:=l b _ z;obtain⟨X,_⟩:=y b _ T;rw[e] at M;cases M;exact X
 cases A:K.lookup a with
 |some o=>
  have e:=KX a o A;rw[ha] at e;cases e;refine g (λ_=>none) (λ_=>.inl rfl) (.inr ⟨_,U.toArray,_,A,rfl,rfl,rfl,by rw[bo,j];exact hl,L⟩) (λb u z=>by have i:(none:Option HO)=some u:=z;cases i) (λb z=>absurd rfl z) λz=>absurd rfl z
 |none=>
  refine g (λb=>if b=a then some (.b { cls:=.type "list",data:=.seq U.toArray }<|.P<|ns.map V.l) else none) (λb=>?_) (.inl<|.inr ⟨{ cls:=.type "list",data:=.seq U.toArray },if_pos rfl⟩) (λb u z=>?_) (λb z=>?_) λ_=>A
  .by_cases I:b=a
   .exact .inr ⟨_,_,if_pos I⟩
   exact .inl<|if_neg I
  .by_cases I:b=a
   .have i:=(if_pos I).symm.trans z;cases i;subst I;exact⟨ha,by rw[aE];exact hl,U,_,L,ha⟩
   have i:=(if_neg I).symm.trans z;cases i
  by_cases I:b=a
  .exact I
  exact absurd (if_neg I) z
theorem UK{l:W.OpenLaw}{XP:(eR)->Heap->Prop}{K:Params->bg}{CX:eI->vt}{sp:eI->Sp}
  (hn:l.most=some n) (hn2:n<=aw) (U:d.params.defaults=[]) (hr:eV k Cc)
  (hY:∀(w:eI) (h:Heap),YP w h->(K w.params).In h)
  (F:∀(w:eI) (mg:eR) (J:Addr) (h:Heap),(K w.params).In h->h.Ns dQ mg->mg d.name=some (.ref J)->
   ∃fd:iA,(∀(s:a7) (u:aI),B6 s fd ⟨[u],[]⟩ [(x,u)])/\
    ∀C:Heap,(K w.params).In C->C.Ns dQ mg->oY l.prog w (K w.params) mg C (CX w) k J fd [x] (sp w))
  (hsp:∀(w:eI) (H:Hp) (a:Addr) (ns:List Int),ns.length<=n->wn H->eO (K w.params) H a (ns.map V.l)->sp w [.r a] H (λv _=>v=.B true) λ_ _ _=>False)
  (hCX:∀(w:eI) (H:Hp) (s:a7) (e:aI) (s':a7),CX w [] H s (λ_ _ _=>False) e s'->False):
  W.WalkO q I XP YP l.row.toRowW d [] (λf vs=>DB f vs):=by
 refine Att.N7 hn U λw p j mg mb J o M N z a vs ns G Y L hd E m i c r D=>?_;have KX:=hY w _ Y;refine oj (F w mg J _ KX G.T.g m) λfd B A=>?_;exact WF KX G.T.g G.T.b G.T.builtins G.T.nolimit D i c (dS r hn2) hr A B (λH t y=>hsp w H a ns r t y) λH e s'=>hCX w H j e s'
noncomputable def qU(s:Stmt):Arguments:=match s with
 | .FunctionDef _ a _ _ _ _ _ _ _ _=>a
 |_=>{ posonlyargs:=[],args:=[],vararg:=none,kwonlyargs:=[],kw_defaults:=[],kwarg:=none,defaults:=[]}
def ig(s:Stmt):List Stmt:=match s with
 | .FunctionDef _ _ b _ _ _ _ _ _ _=>b
 |_=>[]
noncomputable def az(s:Stmt):wx:=match s with
 | .FunctionDef _ _ _ _ _ _ sc _ _ _=>sc
 |_=>{ kind:=.function,names:=[],isGenerator:=false,isCoroutine:=false}
abbrev E0:XK:=λ_ _ _=>False
structure mi(K:bg)(x qual:Str)(st:Stmt)(f:Addr)(fd:iA):Prop where
 l:∃(oc:aI) (od:Option Addr) (kV doc pm:aI) (an:Option Addr) (cdv ct:aI) (osl:Array (Option aI)),
  fd=y9 x qual (qU st) (ig st) (az st) .none kV doc pm an cdv ct/\K.lookup f=some ⟨oc,od,.func fd,osl⟩/\BN K cdv qual=true
 R:mS K (.ref f)=true
section
variable {K:bg}
theorem mi.g{st:Stmt}(F:mi K x qual st f fd)
  (h:∀(kV o I:aI) (U:Option Addr) (C ct:aI) (us:List aI),us.length=J.length->bindArgs (y9 x qual (qU st) (ig st) (az st) .none kV o I U C ct) ⟨us,[]⟩=pure (J.zip us)):eH K fd J []:=by
 refine Z_93 F.l λe c kV o I U C ct a zq9 d b=>?_;subst zq9;exact .b<|h kV o I U C ct
theorem I0{st:Stmt}{kV:aI}(l:K.lookup f=some ⟨oc,od,.func<|y9 x qual (qU st) (ig st) (az st) .none kV C J U o ct,I⟩)
  (c:BN K o qual=true) (k:mS K (.ref f)=true):mi K x qual st f (y9 x qual (qU st) (ig st) (az st) .none kV C J U o ct):=⟨⟨oc,od,kV,C,J,U,o,ct,I,rfl,l,c⟩,k⟩
end
def aD(H H':Hp):Prop:=∀b o,H b=some o->H' b=some o
theorem aD.s H:aD H H:=λ_ _ h=>h
theorem aD.t(a:aD H H1)(b:aD H1 H2):aD H H2:=λc o h=>b c o<|a c o h
theorem aD.Y(e:aD H H')(h:H' l=Option.none):H l=Option.none:=by
 cases q:H l with
 |none=>rfl
 |some o=>
  rw[e l o q] at h;cases h
end L2
set_option maxHeartbeats 4000000
namespace Hd
open PySem PySem.Spec PyProof.Rows L2
abbrev St:=L2.St
theorem Rg(h:n<2^k)(hk:0<k):n.log2<k:=by
 by_cases z:n=0
 .rw[z];exact hk
 exact(Nat.log2_lt z).mpr h
@[irreducible] def ww:Nat:=2^60000
@[irreducible] def DO:Nat:=2^8900
theorem XR:ww=2^60000:=by unfold ww;rfl
theorem QW:DO=2^8900:=by unfold DO;rfl
theorem ol(h:i.natAbs<ww):lP i<=60000:=by
 unfold lP;split
 .exact eK _
 rw[XR] at h;exact Rg h<|by decide
def Mn(_ j:Int):Prop:=j≠0/\j.natAbs<DO
def ZV(i j:Int):Prop:=i.natAbs<ww/\j.natAbs<ww
theorem ZV.R(h:ZV i j):IntMulOk i j:=by
 have b:=ol h.1;have c:=ol h.2;have a:bitsLine=134217728:=rfl;have z:AA (lP i+lP j)=false:=by
  refine decide_eq_false ?_
  lia
 unfold IntMulOk;rw[z]
 simp
theorem U2:gc X (ko .Mult) (rI (λ_ j=>j.natAbs<2^62) λi j=>.l<|i*j):=yp λ_ _ _ _ _ _ _ a q=>mul_int q (IntMulOk.of_right ((by
 unfold lP;split
 .exact eK _
 have:=Rg a (by decide)
 lia)))
theorem WO:gc X (ko .FloorDiv) (rI Mn λi j=>.l<|i.fdiv j):=
 yp λ_ _ _ _ _ _ _ a q=>floordiv_int a.1 q<|.inl<|PyProof.noPylong_of_log2<|cf (Rg (k:=8900) (QW▸a.2)<|by decide)<|by decide
theorem TH:gc X (ko .Mult) (rI ZV λi j=>.l<|i*j):=yp λ_ _ _ _ _ _ _ a q=>mul_int q a.R
mutual
inductive DV(K:bg)(H:Hp):V->tF->Prop where
 |E:DV K H .E .none
 |B (b:Bool):DV K H (.B b) (.bool b)
 |l (i:Int):DV K H (.l i) (.int i)
 |p (x:Str):DV K H (.p x) (.str x)
 |w {a:Addr} {xs:List V} {ds:List tF}:h_ K H a xs->bi K H xs ds->DV K H (.r a) (.tuple ds)
 |P {a:Addr} {xs:List V} {ds:List tF}:eO K H a xs->bi K H xs ds->DV K H (.r a) (.list ds)
inductive bi(K:bg)(H:Hp):List V->List tF->Prop where
 |f:bi K H [] []
 |e {v:V} {vs:List V} {d:tF} {ds:List tF}:DV K H v d->bi K H vs ds->bi K H (v::vs) (d::ds)
end
mutual
theorem DV.S(I:am X π σ H s):∀{v:V} {d:tF} {u:aI},DV X.K H v d->bn v u->∃as,Reads s.heap u d as
 |_,_,u,.E,r=>by cases(show u=fN from r);exact⟨_,.none⟩
 |_,_,u,.B b,r=>by cases(show u=qk b from r);exact⟨_,.bool b⟩
 |_,_,u,.l i,r=>by obtain⟨t,e⟩:=(show ∃t,u=BA i t from r);subst e;exact⟨_,.int i t⟩
 |_,_,u,.p x,r=>by obtain⟨t,e⟩:=(show ∃t,u=BB x t from r);subst e;exact⟨_,.str x t⟩
 |_,_,u,.w (a:=a) h hs,r=>by
  cases(show u=cq a from r);obtain⟨k,g,⟨o,j,c,n,hd⟩,_⟩:=I.Id h;obtain⟨as,f⟩:=bi.S I hs g;exact⟨as,.tuple j c hd<|by simpa using f⟩
 |_,_,u,.P (a:=a) h hs,r=>by
  cases(show u=cq a from r);obtain⟨k,g,⟨o,n,j,c,_,hd⟩,_⟩:=I.IO h;obtain⟨as,f⟩:=bi.S I hs g;exact⟨a::as,.list j c hd<|by simpa using f⟩
theorem bi.S(I:am X π σ H s):∀{o:List V} {ds:List tF} {us:List aI},bi X.K H o ds->a_ o us->∃as,ReadsAll s.heap us ds as
 |_,_,_,.f,.nil=>⟨[],.nil⟩
 |_,_,_,.e h hs,.cons r rs=>by
  obtain⟨as,a⟩:=DV.S I h r;obtain⟨bs,b⟩:=bi.S I hs rs;exact⟨as++bs,.cons a b⟩
end
def LL(K:bg):R2:=λx y H Q=>∃d e,DV K H x d/\DV K H y e/\gv d=true/\gv e=true/\Q (.B<|gi d e) H
def Nn(K:bg):R2:=λx y H Q=>∃d e,DV K H x d/\DV K H y e/\gv d=true/\gv e=true/\Q (.B<|!PyData.eqv d e) H
theorem R0(o:X.A.units+64<tj):gc X (iq .Eq) (LL X.K):=by
 intro k s l H x y v u Q I a b h;refine yZ h λd e hd c j i q=>?_;obtain⟨as,f⟩:=hd.S I a;obtain⟨bs,g⟩:=c.S I b;exact eq_dataH f g j i o<|cA I q rfl
theorem So(o:X.A.units+64<tj):gc X (iq .NotEq) (Nn X.K):=by
 intro k s l H x y v u Q I a b h;refine yZ h λd e hd c j i q=>?_;obtain⟨as,f⟩:=hd.S I a;obtain⟨bs,g⟩:=c.S I b;exact ne_dataH f g j i o<|cA I q rfl
noncomputable def D6:V->Option aI
 | .t n=>some<|.type n
 | .r a=>some<|.ref a
 |_=>none
theorem Oj(e:D6 c=some cv)(r:bn c u):u=cv:=by
 cases c with
 |t n=>cases e;exact r
 |r a=>cases e;exact r
 |_=>cases e
def Tr(B:Heap)(e:Addr)(o:Obj)(us:Array aI)(C:aI)(h:Heap):Prop:=
 1<us.size/\∃T q ts,h.get? e=some { o with data:=.fields (us.setIfInBounds 1<|.ref T)}/\B.get? T=none/\T≠e/\h.get? T=some q/\q.data=.fields ts/\ts[3]? = some C
def Fy(B:Heap)(l:List Env)(e:Addr)(o:Obj)(us:Array aI)(C:aI)(h:Heap):Prop:=B.StaysIn h/\B.get? e=none/\h.FunFrames B l/\Tr B e o us C h
section
variable {E:Zs}{s:a7}{L:Addr}{us:Array aI}
theorem Zb(hA:A.frames=some (env::l))(hf:env.frame=some L)(J:s.heap.FunFrames B (env::l))(I:s.heap.get? e=some { o with data:=.fields us})(hz:1<us.size)(kb:B.StaysIn s.heap)(U:B.get? e=none)
  (q:∀h',Fy B (env::l) e o us (Ap L) h'->s.heap.UpToSlots h'->Q () { s with heap:=h'}):
  cb M A (do let a<-frameOf env;let pl<-entryPlaceOf L nx;let b<-A9 C a .none (Ap L) .none pl;setField (.ref e) 1 b) Q E s:=by
 have n:e∉(env::l).filterMap _:=λz=>by
  obtain⟨_,x,i,nf⟩:=J.mem z;rw[I] at i;cases i;exact nf us rfl
 refine ae<|wpAny_frameOf_fun hA J hf λd f=>ae<|wpAny_entryPlaceOf λpl j=>?_;refine ae<|fw ?_<|j.sizeOk5 _ _ _ _ _;have g:=(f.2.1 e n).trans I;have k:B.StaysIn d:=λb x c=>(f.2.1 b λz=>by rw[(J.mem z).1] at c;cases c).trans (kb b x c);refine l8 (ah _ g) rfl hz<|q _ ?_ ?_
 all_goals
  have m:=rX<|aS g
 .refine⟨λb x c=>?_,U,J.of_keeps λb x c nf=>?_,hz,_,_,_,eP _ (ah _ g) rfl,k.fresh,m,(c4 _ _ m.symm).trans<|bp d rfl,rfl,?_⟩
  .exact(c4 _ _ λz=>by rw[z,c] at U;cases U).trans (ah _<|k b x c)
  .obtain⟨h,z⟩:=f.2.2 b x c;exact⟨_,(c4 _ _ λw=>by rw[<-w,I] at c;cases c;exact nf us rfl).trans (ah _ z),rfl⟩
  rcases j with rfl|⟨_,_,_,_,_,_,_,rfl⟩<;>simp
 intro b x c nf;obtain⟨h,z⟩:=f.2.2 b x c;exact⟨h,(c4 _ _ λw=>by rw[<-w,I] at c;cases c;exact nf us rfl).trans (ah _ z)⟩
theorem MG:(us.setIfInBounds 1 a).setIfInBounds 1 b=us.setIfInBounds 1 b:=by simp
theorem YQ(g:Fy B l e o us fl s.heap):∀T q ts,s.heap.get? T=some q->q.data=.fields ts->ts[3]? = some fl->B.get? T=none->T≠e->s.heap.get? e=some { o with data:=.fields (us.setIfInBounds 1<|.ref T)}->
  Fy B l e o us x (s.heap.update T<|lT (·.setIfInBounds 3 x))/\s.heap.UpToSlots (s.heap.update T<|lT (·.setIfInBounds 3 x)):=by
 intro T q ts h hd k f d m;have a:∀b,b≠T->(s.heap.update T<|lT (·.setIfInBounds 3 x)).get? b=s.heap.get? b:=λb z=>c4 _ _ z.symm;have c:∀b y,s.heap.get? b=some y->(∀vs,y.data≠.fields vs)->b≠T:=λb y z nf w=>by rw[w,h] at z;cases z;exact nf ts hd
 refine Z_05 g λj n i p _=>?_;refine⟨⟨λb y z=>(a b λw=>by rw[w,f] at z;cases z).trans (j b y z),n,i.of_keeps λb y z nf=>⟨y,(a b<|c b y z nf).trans z,rfl⟩,p,T,_,_,(a e d.symm).trans m,f,d,eP _ h<|AB<|pz hd _,pz hd _,?_⟩,λb y z nf=>⟨ _,(a b<|c b y z nf).trans z⟩⟩
 have:=(gX.mp k).1
 simp[this]
theorem Ga(g:Fy B l e o us fl s.heap)(q:∀h',Fy B l e o us .none h'->s.heap.UpToSlots h'->Q () { s with heap:=h'}):cb M A (setFlight (.ref e) none) Q E s:=by
 obtain⟨_,_,_,z,T,y,ts,c,d,f,a,hd,b⟩:=id g;refine ae<|iS c rfl (x:=.ref T) (by simp[z]) ?_;have:=YQ (x:=.none) g T y ts a hd b d f c
 exact l8 a hd (gX.mp b).1<|q _ this.1 this.2
theorem SX(I:A.frames=some (env::l))(C:env.frame=some L)(g:Fy B (env::l) e o us .none s.heap)(q:∀h',Fy B (env::l) e o us (Ap L) h'->s.heap.UpToSlots h'->Q () { s with heap:=h'}):cb M A (noteFrame (.ref e) env) Q E s:=by
 obtain⟨_,_,_,z,T,y,ts,h,m,j,i,hd,f⟩:=id g;unfold noteFrame;simp only[C];refine ae<|iS h rfl (x:=.ref T) (by simp[z]) ?_;refine ae<|iS i hd f ?_;obtain⟨k,n⟩:=YQ g T y ts i hd f m j h;refine ae<|l8 i hd (gX.mp f).1 ?_;have d:=(c4 _ (lT (·.setIfInBounds 3 fN)) j).trans h;refine Zb I C k.2.2.1 d (by simpa using z) k.1 g.2.1 λp t u=>q p ?_<|n.trans u;obtain⟨a,b,c,w,v,r⟩:=t;rw[MG] at r;exact⟨a,b,c,z,v,r⟩
theorem Fy.t(g:Fy B (env::l) e o us fl h):Fy B l e o us fl h:=by refine ZN g λa b zq2 d=>?_;obtain⟨_,_,c⟩:=zq2;exact ⟨a,b,c,d⟩
theorem PK(C:A.frames=some (env::l))(I:env.frame=some L)(g:Fy B (env::l) e o us .none s.heap)(q:∀h',Fy B l e o us .none h'->s.heap.UpToSlots h'->Q () { s with heap:=h'}):cb M A (leaving env<|.ref e) Q E s:=by
 unfold leaving;exact ae<|SX C I g λh f c=>Ga f λa b d=>q a b.t<|c.trans d
theorem Qk(hA:A.frames=some (env::l))(I:env.frame=some L)(hl:s.heap.FunFrames B (env::l))(J:s.heap.get? e=some { o with data:=.fields us})(C:us[1]? = some .none)(U:B.StaysIn s.heap)(hn:B.get? e=none)
  (q:∀h',Fy B l e o us .none h'->s.heap.UpToSlots h'->Q () { s with heap:=h'}):cb M A (leaving env<|.ref e) Q E s:=by
 unfold leaving noteFrame;simp only[I];refine ae<|ae<|iS J rfl C ?_;exact Zb hA I hl J (gX.mp C).1 U hn λg a b=>Ga a λd c f=>q d c.t<|b.trans f
end
theorem bZ.G(x:bZ P w H h a o):∃u,h.get? a=some u:=by
 cases o with
 |P xs=>obtain⟨_,_,_,_,e⟩:=x;exact⟨_,e⟩
 |w xs=>obtain⟨_,_,_,o,e,_⟩:=x;exact⟨_,e⟩
 |c ι=>obtain⟨_,_,_,_,o,_,_,e,_⟩:=x;exact⟨_,e⟩
 |d ι=>obtain⟨_,_,_,_,o,_,_,e,_⟩:=x;exact⟨_,e⟩
 |Y S n=>refine Z_42 x λo _ _ _ e _=>?_;exact⟨_,e⟩
 |M C dx fs=>refine Z_05 x λ_ _ _ e _=>?_;exact⟨_,e⟩
 |we y=>exact x
 |a fs=>refine oj x λ_ zq1 _=>?_;obtain⟨_,_,_,e,_⟩:=zq1;exact⟨_,e⟩
 |r lo hi=>refine Z_31 x λ_ _ _ e=>?_;exact⟨_,e⟩
 |b ob u=>obtain⟨e,_⟩:=x;exact⟨_,e⟩
 |h ps=>exact⟨_,(x)⟩
 |m f y=>exact⟨_,(x)⟩
 |e φ=>refine ZI x λ_ e _=>?_;exact e
structure Ar(P:b9)(w:eI)(outer:List Env)(H:Hp)(s:a7)(e:aI)(s':a7)(ea:Addr)(ob:Obj)(us:Array aI)(B:Heap)(H':Hp):Prop where
 T:e=.ref ea
 os:s'.os=s.os
 LE:yb s'.gens
 R:Fy B outer ea ob us .none s'.heap
 Q:us[2]? = some .none
 Z:∀b o,s.heap.get? b=some o->H b=none->b∉eh outer->B.get? b=some o
 S:∀b o,s.heap.get? b=some o->b∈eh outer->∃sl,s'.heap.get? b=some { o with slots:=sl}
 Y:∀b o,s.heap.get? b=some o->H b=none->H' b=none
 K:∀b o,s.heap.get? b=some o->b∉eh outer->∃o',B.get? b=some o'
 M:∀b xs,H b=some (.w xs)->H' b=some (.w xs)
 L:∀b o u,H b=some (.b o u)->H' b=some (.b o u)
 N:∀b ps,H b=some (.h ps)->∃more,H' b=some (.h (ps++more))
 W:hM P w H' B
 O:s.heap.get? ea=none
 J:H' ea=none
def db(P:b9)(w:eI):vt:=λa H s E e s'=>∃b ob us B H',Ar P w a H s e s' b ob us B H'/\E ob.cls ob.dict H'
theorem z8(o:env.frame=some L)(h:b∈eh (env::l)):b=L\/b∈eh l:=by
 unfold eh at h;rw[nX,o] at h;rcases a9.mp h with z|z
 .exact .inl z
 exact .inr z
theorem N6(h:b∈eh l):b∈eh (env::l):=by
 obtain⟨e,c,a⟩:=kB.mp h;exact kB.mpr ⟨e,af _ c,a⟩
section
variable {K:bg}
theorem Wl{σ:St}{ob:Obj}
  (I:am (mO (db P w) P w K mg base N qual scope f cd A outer s H E) U σ H1 s1) (kp:∀b o,s1.heap.get? b=some o->h'.get? b=some o) (new:s1.heap.get? C=none) (J:h'.get? C=some { ob with data:=.fields us}) (u1:us[1]? = some .none) (u2:us[2]? = some .none) (hw:E ob.cls ob.dict H1):
  (mO (db P w) P w K mg base N qual scope f cd A outer s H E).g (.ref C) { s1 with heap:=h'}:=by
 have p:∀h∈(mO _ P w K mg _ N _ _ f cd A _ s H E).Z,∀b,h.frame=some b->b∈(mO (db P w) P w K mg base N qual scope f cd A outer s H E).Z.filterMap _:=
  λh J b g=>kB.mpr ⟨h,J,g⟩
 have k:∀b o,s.heap.get? b=some o->b∉eh outer->b∉(mO (db P w) P w K mg base N qual scope f cd A outer s H E).Z.filterMap (·.frame):=λb o q d g=>by
  rcases z8 (L:=s.heap.objs.size) rfl g with z|z
  .exact absurd (aS q) (by rw[z];exact fS _)
  exact d z
 have nx:∀b:Addr,b∉(mO (db P w) P w K mg base N qual scope f cd A outer s H E).l:=λb z=>absurd (show b∈([]:List Addr) from z) (by simp);have d:(BF s1.heap<|eh (mO (db P w) P w K mg base N qual scope f cd A outer s H E).Z).get? C=none:=by
  cases q:(BF s1.heap<|eh (mO (db P w) P w K mg base N qual scope f cd A outer s H E).Z).get? C with
  |none=>rfl
  |some o=>have:=zw _ q;rw[new] at this;cases this
 refine Qk (B:=BF s1.heap<|eh (mO (db P w) P w K mg base N qual scope f cd A outer s H E).Z) (L:=s.heap.objs.size) (l:=outer) I.R.f rfl ((W.funFrames_hide I.Z p).of_keeps λb o q _=>⟨o,kp b o q,rfl⟩) J u1 (λb o q=>kp b o<|zw _ q) d λO x G=>?_;refine⟨C,ob,us,_,H1,⟨rfl,I.os,I.LE,x,u2,λb o q n d=>?_,λb o q g=>?_,λb o q n=>I.T.Y b o q n<|nx b,λb o q d=>?_,I.T.M,I.T.L,I.T.N,λb u e=>?_,?_,?_⟩,hw⟩
 .exact la _ (I.T.Z b o q n d<|nx b)<|k b o q d
 .obtain⟨M,a⟩:=I.T.S b o q (I.R.i b g) g<|nx b;obtain⟨_,i,m,r⟩:=I.R.uX.mem g;have F:o=i:=cE<|q.symm.trans m;obtain⟨t,D⟩:=G b _ (kp _ _ a) λv z=>r v (by rw[<-F];exact z);exact⟨t,D⟩
 .obtain⟨i,a⟩:=I.T.K b o q<|nx b;exact⟨i,la _ a<|k b o q d⟩
 .refine(I.W b u e).F (λc v j q=>la _ q λy=>?_) (λ_ q=>q) λ_ _ q=>q;have z:=I.Af c y;rcases j with j|j
  .rw[j,e] at z;cases z
  rw[j] at z;cases z
 .cases q:s.heap.get? C with
  |none=>rfl
  |some o=>
   obtain⟨i,a⟩:=I.T.K C o q<|nx C;rw[new] at a;cases a
 cases q:H1 C with
 |none=>rfl
 |some o=>
  obtain⟨i,a⟩:=bZ.G<|I.W C o q;rw[new] at a;cases a
theorem w5{U:St}
  (I:am (mO (db P w) P w K mg base N qual scope f cd A outer s H E) π U H1 s1) (C:w8 s1.heap h' J o vs) (hw:E o none H1):
  (mO (db P w) P w K mg base N qual scope f cd A outer s H E).g (.ref J) { s1 with heap:=h'}:=by
 refine oj C.there λt a _=>?_;exact Wl (ob:={ cls:=o}) I C.keeps C.new a rfl rfl hw
theorem fY:et (db P w) (mO (db P w) P w K mg base N qual scope f cd A outer s H E) E:=by
 intro W Y H1 Z e C I h;refine ZT h λj Q G B H' F R=>?_;obtain rfl:=F.T;have i:∀b o,s.heap.get? b=some o->b∉eh _->b∉eh (mO (db P w) P w K mg base N qual scope f cd A outer s H E).Z:=λb o q c g=>by
  rcases z8 rfl g with z|z
  .exact absurd (aS q) (by rw[z];exact fS _)
  exact c z
 have nx:∀b,b∉(mO (db P w) P w K mg base N qual scope f cd A outer s H E).l:=λb z=>absurd (show b∈([]) from z) (by simp);refine PK I.R.f rfl F.R λX x D=>?_;refine⟨j,Q,G,B,H',⟨rfl,F.os.trans I.os,F.LE,x,F.Q,λb o q n c=>?_,λb o q g=>?_,λb o q n=>?_,λb o q c=>?_,λb t q=>F.M b t<|I.T.M b t q,λb o u q=>F.L b o u<|I.T.L b o u q,λb T q=>?_,F.W,?_,F.J⟩,R⟩
 .exact F.Z b o (I.T.Z b o q n c<|nx b) (I.T.Y b o q n<|nx b)<|i b o q c
 .obtain⟨V,a⟩:=I.T.S b o q (I.R.i b g) g<|nx b;obtain⟨_,d,k,p⟩:=I.R.uX.mem g;have O:=cE<|q.symm.trans k;obtain⟨EF,m⟩:=F.S b _ a<|N6 g;obtain⟨r,S⟩:=D b _ m λv z=>p v (by rw[<-O];exact z);exact⟨r,S⟩
 .obtain⟨d,a⟩:=I.T.K b o q<|nx b;exact F.Y b d a<|I.T.Y b o q n<|nx b
 .obtain⟨d,a⟩:=I.T.K b o q<|nx b;exact F.K b d a<|i b o q c
 .obtain⟨y,a⟩:=I.T.N b T q;obtain⟨M,m⟩:=F.N b _ a;exact⟨ _,by rw[m,oQ]⟩
 cases q:s.heap.get? j with
 |none=>rfl
 |some o=>
  obtain⟨d,a⟩:=I.T.K j o q<|nx j;rw[F.O] at a;cases a
end
theorem Vg:et (db P w) X E0:=by intro _ _ _ _ _ _ _ zr7;refine ZT zr7 λ_ _ _ _ _ _ z=>?_;exact z.elim
def vm(I:Addr)(C:aI)(h:Heap):Prop:=∃o,h.get? I=some o/\o.cls=C/\∃a,o.data=.fields a
section
variable {X:Cx}{σ:St}{H:Hp}{ea:Addr}
theorem Ar.V(F:Ar X.p X.w X.Z H s e s' ea ob us B H')(I:am X π σ H s)(k1:B.StaysIn C)(k2:s'.heap.UpToSlots C):am X π σ H' { s' with heap:=C,toks:=tk}:=by
 have nf:∀b∈eh _,∀o,s.heap.get? b=some o->∀k,o.data≠.fields k:=λb a o q=>by
  obtain⟨_,f,h,g⟩:=I.Z.mem a;have l:=cE<|q.symm.trans h;rw[l];exact g
 refine I.call' (ch:=[]) F.os ⟨λb o q n a _=>k1 b o<|F.Z b o q n a,λb o q n a _=>?_,λb o q n _=>F.Y b o q n,λb o q _=>?_,F.M,F.L,F.N⟩ (F.W.we k1) F.LE (λb z=>nomatch z)
 .obtain⟨j,c⟩:=F.S b o q a;obtain⟨d,i⟩:=k2 b _ c<|nf b a o q;exact⟨d,i⟩
 by_cases a:b∈eh X.Z
 .obtain⟨j,c⟩:=F.S b o q a;obtain⟨d,i⟩:=k2 b _ c<|nf b a o q;exact⟨_,i⟩
 obtain⟨f,c⟩:=F.K b o q a;exact⟨f,k1 b f c⟩
theorem Ar.mt(F:Ar X.p X.w X.Z H s e s' ea ob us B H')(I:am X π σ H s)(k1:B.StaysIn U)(k2:s'.heap.UpToSlots U)(kx:U.get? ea=some C)(kf:∃vs,C.data=.fields vs):
  am X π σ (upd H' ea<|.b C<|.e<|vm ea C.cls) { s' with heap:=U,toks:=tk}:=by
 have nf:∀b∈eh _,∀o,s.heap.get? b=some o->∀vs,o.data≠.fields vs:=λb a o q=>by
  obtain⟨_,h,i,l⟩:=I.Z.mem a;have y:=cE<|q.symm.trans i;rw[y];exact l
 have x:∀b o,s.heap.get? b=some o->b≠ea:=λb o q z=>by rw[z,F.O] at q;cases q
 have d:∀b u,H' b=some u->b≠ea:=λb u q z=>by rw[z,F.J] at q;cases q
 refine I.call' (ch:=[]) F.os ⟨λb o q n a _=>k1 b o<|F.Z b o q n a,λb o q n a _=>?_,λb o q n _=>?_,λb o q _=>?_,λb r q=>?_,λb o u q=>?_,λb D q=>?_⟩ (λb u q=>?_) F.LE (λb z=>nomatch z)
 .obtain⟨v,f⟩:=F.S b o q a;obtain⟨g,j⟩:=k2 b _ f<|nf b a o q;exact⟨g,j⟩
 .rw[bf<|x b o q];exact F.Y b o q n
 .by_cases a:b∈eh X.Z
  .obtain⟨v,f⟩:=F.S b o q a;obtain⟨g,j⟩:=k2 b _ f<|nf b a o q;exact⟨_,j⟩
  obtain⟨h,f⟩:=F.K b o q a;exact⟨h,k1 b h f⟩
 .have z:=F.M b r q;rw[bf<|d b _ z];exact z
 .have z:=F.L b o u q;rw[bf<|d b _ z];exact z
 .obtain⟨m,z⟩:=F.N b D q;exact⟨m,by rw[bf<|d b _ z];exact z⟩
 by_cases a:b=ea
 .subst a;rw[aP] at q;cases q;exact⟨kx,⟨C,kx,rfl,kf⟩,⟨C,kx⟩,(by intro E G zr2 k;refine oj zr2 λt p A=>?_;exact ⟨t,k t p,A⟩)⟩
 rw[bf a] at q;refine(F.W.we k1 b u q).F (λ_ _ _ z=>z) (λc z=>?_) λc r z=>?_
 .rw[bf<|d c _ z];exact z
 rw[bf<|d c _ z];exact z
theorem Qt(I:am X π σ H s)(hN:X.N.Nodup)(U:X.N[i]? = some n)
  (hl:∀(j:Nat) (y:Str) (v:V),X.N[j]? = some y->σ[j]? = some (some v)->i' X.d.scope y->∃u,bn v u/\AT X.d s.heap m y u)
  (hn:J.Ns X.d.locals (λy=>if y=n then v else m y)) (C:kA X.d.locals s.heap J):am X π (σ.set i none) H { s with heap:=J,toks:=tk}:=by
 have t:i<σ.length:=by rw[I.mt];exact(dn.mp U).1
 have d:∀b o,X.s₀.heap.get? b=some o->b≠X.d.locals:=λb o q=>b0<|cf (aS q) I.R.d;have e:∀b u,H b=some u->b≠X.d.locals:=λb u q z=>by rw[z,I.Y] at q;cases q
 refine⟨I.R,I.os,I.LE,⟨λb o q E B f=>?_,λb o q E B f=>?_,I.T.Y,λb o q f=>?_,I.T.M,I.T.L,I.T.N⟩,⟨_,hn,λj y x a w Q=>?_⟩,λy c q=>?_,I.Y,I.freeC,λp K=>?_,λb u q=>?_,by simpa using I.mt⟩
 .exact(C.2 b<|d b o q).trans (I.T.Z b o q E B f)
 .obtain⟨F,a⟩:=I.T.S b o q E B f;exact⟨F,(C.2 b<|d b o q).trans a⟩
 .obtain⟨M,a⟩:=I.T.K b o q f;exact⟨M,(C.2 b<|d b o q).trans a⟩
 .by_cases A:j=i
  .subst A;rw[br t] at w;cases w
  rw[bX<|eW A] at w;refine oj (hl j y x a w Q) λu r l=>?_;refine⟨u,r,?_⟩;rcases l with⟨k,z⟩|⟨k,c,z,G⟩
  .refine .inl ⟨k,?_⟩;have L:y≠n:=λq=>A<|Hn hN a<|q▸U;show(if y=n then v else m y)=some u;rw[if_neg L];exact z
  exact .inr ⟨k,c,z,G.sameBut C<|I.cne y c z⟩
 .obtain⟨x,z⟩:=I.cell y c q;exact⟨x,z.sameBut C<|I.cne y c q⟩
 .refine Z_05 (I.pin p K) λa O g D P=>?_;exact⟨(C.2 _ g).trans a,O,g,D,P⟩
 refine(I.W b u q).F (λc x h z=>(C.2 c ?_).trans z) (λ_ z=>z) λ_ _ z=>z;rcases h with h|h
 .rw[h];exact e b u q
 exact e c _ h
def O2(A:eJ)(H:Hp):Prop:=∃x o u a,A.handled=some (.ref x)/\H x=some (.b o u)/\o.data=.fields a/\a[2]? = some .none
noncomputable def pb(X:Cx)(ea:Addr):Cx:={ X with A:=X.A.mark<|some<|.ref ea,f:=false,g:=λ_ _=>False}
theorem U3(I:am X π σ H s) ea :am (pb X ea) π σ H s:=⟨(⟨I.R.mod,I.R.k,I.R.h,I.R.m,I.R.d,I.R.inj,I.R.q,I.R.p,λz=>(by cases(z)),I.R.f,I.R.s,I.R.r,I.R.bs,I.R.j,I.R.n,I.R.l,I.R.uX,I.R.i⟩),I.os,I.LE,I.T,I.loc,I.cell,I.Y,I.freeC,I.pin,I.W,I.mt⟩
theorem Xv(I:am (pb X ea) π σ H s)(ok:X.O):am X π σ H s:=⟨ok,I.os,I.LE,I.T,I.loc,I.cell,I.Y,I.freeC,I.pin,I.W,I.mt⟩
end
def E7(X:Cx)(e:Expr)(t:St->Hp->VK->XK->Prop):Prop:=
 ∀(b:Zp) (s:a7) (a:St) (H:Hp) (Q:VK) (E:XK),am X b a H s->t a H Q E->
  cb (cK X.p X.w) X.A (eval e X.d) (EP X b a Q) (λx s'=>∃H1 s1,am X b a H1 s1/\db X.p X.w X.Z H1 s1 E x s') s
def wS(X:Cx)(o:List Stmt)(t:hR->(St->XK)->St->Hp->Prop):Prop:=
 ∀(b:Zp) (s:a7) (c:St) (H:Hp) (D:hR) (E:St->XK),am X b c H s->t D E c H->
  cb (cK X.p X.w) X.A (execs o X.d) (SP X b D) (λx s'=>∃a H1 s1,am X b a H1 s1/\db X.p X.w X.Z H1 s1 (E a) x s') s
section
variable {p pos:Pos}
theorem SV(F:oY X.p X.w X.K X.m X.T (db X.p X.w) k f fd ps sp)(hr:eV k X.A)(hg:Gl X x)(hm:X.m x=some (.ref f))(hk:mS X.K (.ref f)=true)(hb:eH X.K fd ps [])
  (U:PA X.q (e::es) t) (J:autoParam ((x==("__debug__":Str))=false) YI) (he:autoParam (ag (e::es) X.d=(false,eval e X.d)::ag es X.d) YO) (μ:autoParam ((ij pos<|ag es X.d).any (·.1)=false) YO):
  E7 X (.Call (.Name x p) (e::es) [] pos) (λo H Q E=>t o H λC H1=>sp C H1 Q E):=by
 intro j s o H Q E I h;refine hJ<|sY I hg hm ?_ J;refine vE I.R.mod.k hk (gN (U _ j s o H _ (I.wish _) h) (λc g l=>f3 l λC H1 i r q=>⟨i.Mt.kIn,?_⟩) λ_ _ z=>fT z) he μ;have d:=i.Mt;have m:(c++[]).length=ps.length:=by rw[c9,<-r.l];exact F.mt _ _ _ _ q
 have a:=hb g c d.kIn m;rw[c9] at a;refine AQ<|r9 (F.r _ _ g H1 _ c C Q E hr d.env0 a r q) λr n b=>?_;cases r with
 |error e=>exact⟨H1,g,d,b⟩
 |ok fl=>
  cases fl with
  |ret u=>exact d.after b
  |next=>exact fT b
  |brk=>exact fT b
  |cont=>exact fT b
theorem RU{st:Stmt}{t:hR->(St->XK)->St->Hp->Prop}
  (h:∀(o:Zp) (s:a7) (J:St) (H:Hp) (D:hR) (E:St->XK),am X o J H s->t D E J H->
   cb (cK X.p X.w) X.A (exec st X.d) (SP X o D) (λx s'=>∃C H1 s1,am X o C H1 s1/\db X.p X.w X.Z H1 s1 (E C) x s') s):wS X [st] t:=by
 intro o s J H D E I a;refine y7<|ce (h o s J H D E I a) λb s1 q=>?_;cases b with
 |next=>exact mh q
 |ret v=>exact q
 |brk=>exact q
 |cont=>exact q
theorem Pe(U:X.N.Nodup)(hi:X.N[i]? = some y)(hx:k6 X.d.scope y)(he:E7 X e C)(hs:autoParam (eM e (some<|.Name y pos') pos.line X.d=pure false) YO)
  (hf:autoParam (X.i y=true\/X.d.scope.names.lookup y=some .local) iv):
  wS X [.Assign [.Name y pos'] e pos] (λD E o H=>C o H (λv H1=>D.n (o.set i<|some v) H1)<|E o):=
 RU λa s o H D E I h=>
  wpAny_Assign_Name (gN (he a s o H _ _ I h) (by intro _ _ zr2;refine Y_ zr2 λ_ H1 j d b=>?_;exact vo j U hi hx d (λ_ g=>⟨_,H1,g,b⟩) hf) (by intro _ _ zr2;refine Y' zr2 λH1 f J c=>?_;exact ⟨o,H1,f,J,c⟩)) hs
end
def GV(i:Nat)(D:hR):hR:={ n:=λa H=>D.n (a.set i none) H,r:=D.r,bk:=λa H=>D.bk (a.set i none) H,c:=λa H=>D.c (a.set i none) H}
def LA(K:bg)(o:Addr)(i:Nat)(tb:hR->(St->XK)->St->Hp->Prop)(ts:Addr->TS):TS:=λD f H=>
 tb D (λd a od H'=>vS K a (.ref o)=some true/\∀b c,H' b=none->c.cls=a->c.dict=od->(∃e,c.data=.fields e/\e[2]? = some .none)->ts b (GV i D) (d.set i<|some<|.r b) (upd H' b<|.b c<|.e<|vm b a)) f H
theorem P0
  (hst:X.Z=X.d::X.h) (hfr:X.d.frame=some X.d.locals) (hb:wS X body tb) (hN:X.N.Nodup) (hi:X.N[i]? = some n) (hn:X.d.scope.names.lookup n=some .local)
  (hg:Gl X x) (hm:X.m x=some (.ref DC)) (hs:∀C,lS (pb X C) (b₀::U)<|ts C) (hd:autoParam ((x==("__debug__":Str))=false) YI):
  PS X (.Try body [.ExceptHandler (some<|.Name x np) (some n) (b₀::U) hpos] [] [] pos) (LA X.K DC i tb ts):=by
 intro g s σ H D I h;refine wpAny_Try_except<|gN (hb g s σ H D _ I h) (λl s1 q=>?_) λx' R ⟨ _,H1,s1,J,c⟩=>?_
 .cases l with
  |next=>exact mh q
  |ret v=>exact q
  |brk=>exact q
  |cont=>exact q
 refine Z_53 c λC G Y B H' F hx hw=>?_;obtain rfl:=F.T;have j:(X.d.scope.kind==.class||(X.d.scope.kind==.module&&X.d.locals != X.d.globals))=false:=by rw[J.R.k];rfl
 have f:=F.R;rw[hst] at f;have Q:=J.R.f;rw[hst] at Q;refine SX Q hfr f λh4 g4 Z=>?_;refine Ga g4 λh5 L T=>?_;have V:=F.V J (tk:=R.toks) L.1<|Z.trans T;have E:=U3 V C;have x5:∀{O:Heap},Fy B (X.d::X.h) C G Y .none O->∃o,O.get? C=some o/\o.cls=G.cls:=λ⟨_,_,_,_,_,_,_,q,_⟩=>⟨_,q,rfl⟩;refine wpAny_handleBy_cons (codeAny_handlers_test<|sY E hg hm ?_ hd) (by intro q;cases q);refine oj (x5 L) λo5 e5 c5=>?_;have LT:W.Looks (cK X.p X.w) h5 (typeOf<|.ref C) G.cls:=c5▸(W.Looks.ld e5).andThen .now;refine(W.exm_one (M:=cK X.p X.w) V.kIn LT hx).here ?_;refine codeAny_handlers_suite_as ?_;refine Ga L λh6 S u6=>?_;obtain⟨_,_,_,z6,T6,_,_,e6,_⟩:=id S;have c6:(Y.setIfInBounds 1<|.ref T6)[2]? = some fN:=by rw[Array.getElem?_setIfInBounds_ne<|by decide];exact F.Q
 have J6:=F.mt J (tk:=R.toks) S.1 ((Z.trans T).trans u6) e6 ⟨_,rfl⟩;refine vo (X:=pb X C) (U3 J6 C) hN hi (.inl hn) (show bn (.r C) (.ref C) from rfl) (λs7 J7=>?_) (.inr hn);refine gN (hs C g s7 _ _ (GV i D) J7<|hw C _ F.J rfl rfl ⟨_,rfl,c6⟩) (λl P q=>?_) λ_ _ z=>fT z;have go:∀{a:St} {d:Hp},am (pb X C) g a d P->(∀{s9:a7},am X g (a.set i none) d s9->SP X g D l s9)->
   cb (cK X.p X.w) X.A (do CU X.d n .none;unbindBehindTheSuite X.d n hpos) (λ_ s9=>SP X g D l s9) X.g P:=λe k=>by
  have b:=Xv e J.R;refine oj b.loc λm p hl=>?_;exact wpAny_nameGoes_keeps (m:=m) hn p j λh9 v t y=>k<|Qt b hN hi hl t y
 cases l with
 |next=>refine Y' q λa d e q=>?_;exact go e λb=>⟨_,d,b,q⟩
 |brk=>refine Y' q λa d e q=>?_;exact go e λb=>⟨_,d,b,q⟩
 |cont=>refine Y' q λa d e q=>?_;exact go e λb=>⟨_,d,b,q⟩
 |ret u=>refine Z_ q λv a d e r q=>?_;exact go e λb=>⟨v,_,d,b,r,q⟩
theorem V4{K:bg}(X:K.In h)(q:DF K C bmB newId=true):
  ∃bm N nm o bs hdct sn sub ab col dd k0 k1 k2 k3 k5 I,h.get? C=some (Bi nm o C N bs bm hdct sn sub ab col dd k0 k1 k2 k3 k5 newId)/\h.Ns N I/\I "__init__" = none/\OwnTail h bmB bm:=by
 unfold DF at q;split at q
 case h_2=>cases q
 case h_1 dd cd sl ho=>
  split at q
  case h_2=>cases q
  case h_1 C' bm k0 k1 k2 k3 n k5 hm hs=>
   simp only[beq_iff_eq,ia,Bool.not_eq_true'] at q;obtain⟨⟨⟨⟨⟨k,j⟩,b⟩,p⟩,c⟩,i⟩:=q;subst k;subst j;obtain⟨nm,bs,f,m,o,hd,sn,sub,ab,col,d⟩:=cd;have e:=hm;have a:=b;subst e;subst a;obtain⟨l⟩:=sl;have g:=hs;subst g;exact⟨bm,m,nm,o,bs,hd,sn,_,ab,_,dd,k0,k1,k2,k3,k5,_,X _ _ ho,.of_isNs<|CI X c,W.nsMap_none_of_in X c i,W.tail_of_in X p⟩
section
variable {np η pos:Pos}
theorem YT{W:XK}(FB:AD B newId initId bmB)(hq:PySem.W.excIn X.K C bmB newId=true)(hg:Gl X x)(hm:X.m x=some (.ref C))(hh:X.A.handled=none)(he:PE X e₀ te)
  (hx:∀(J:Zp) (o:St) (H:Hp) (s:a7) (h':Heap) (U:Addr) (vs:List aI),am X J o H s->w8 s.heap h' U (.ref C) vs->W (.ref C) none H->X.g (.ref U) { s with heap:=h'})
  (hd:autoParam ((x==("__debug__":Str))=false) YI) (hs:autoParam (ag [e₀] X.d=(false,eval e₀ X.d)::ag [] X.d) YO):
  PS X (.Raise (some<|.Call (.Name x np) [e₀] [] η) none pos) (λ_ o H=>te o H λv H1=>[v].length=1/\W (.ref C) none H1):=by
 intro J s o H D I h;obtain⟨bm,N,i,z,bs,a,m,sub,k,b,l,j,g,n,p,e,G,t,y,d,T⟩:=V4 I.R.mod.k hq;refine wpAny_Raise_call_subT (N:=N) (nm:=i) (q:=z) (bs:=bs) (hdct:=a) (sn:=m) (sub:=sub) (ab:=k) (col:=b) (dd:=l) (k0:=j) (k1:=g) (k2:=n) (k3:=p) (k5:=e) FB (T.hasType FB.hasBase) hh (by rw[hs];rfl) d<|sY I hg hm ⟨rfl,?_⟩ hd;have f:=eG he nM hs η J s o H (λvs H1=>vs.length=1/\W (.ref C) none H1) I h;rw[hs] at f ⊢;refine sM<|ce f λE u F=>f3 F λvs w c r q=>⟨rfl,?_,c.bk _ _ t,y.keeps c.bk,T.keeps c.bk,λh' U mk=>hx J o w u h' U E c mk q.2⟩;rw[<-r.l,q.1];decide
end
structure Fn(P:b9)(w:eI)(K:bg)(mg:eR)(base:Heap)(k:Nat)(x:Str)(ps:List Str)(sp:Sp):Prop where
 l:∃f fd,oY P w K mg base (db P w) k f fd ps sp/\eH K fd ps []/\mS K (.ref f)=true/\mg x=some (.ref f)
theorem On(F:Fn X.p X.w X.K X.m X.T k x ps sp)(J:eV j X.A)(C:PA X.q (e::es) t)(hk:autoParam (k<=j) YI)(hg:autoParam (Gl X x) YO)
  (o:autoParam ((x==("__debug__":Str))=false) YI) (he:autoParam (ag (e::es) X.d=(false,eval e X.d)::ag es X.d) YO) (I:autoParam ((ij pos<|ag es X.d).any (·.1)=false) YO):
  E7 X (.Call (.Name x p) (e::es) [] pos) (λU H Q E=>t U H λvs H1=>sp vs H1 Q E):=by
 refine DR F.l λf a G b kp m=>?_;exact SV G (J.T hk) hg m kp b C o he I
section
variable {K:bg}
theorem Gf{st:Stmt}(F:mi K x qual st f fd)(S:aN N U (az st))(len:∀J H Q E,sp J H Q E->J.length=U.length)
  (I:∀(C:aI) (A:eJ) (o:List Env) (s:a7) (H:Hp) (J:List V) (Q:VK) (E:XK),eV k (A.deeper<|sL qual (az st) s.heap.objs.size f C)->sp J H Q E->
   ∃t,lS (mO (db P w) P w K mg base N qual (az st) f C A o s H E) (ig st) t/\t { n:=λ_ H'=>Q .E H',r:=Q} (b_ N J) H):oY P w K mg base (db P w) (k+1) f fd U sp:=by
 refine Z_93 F.l λl i kV c j m C ct e zq9 g b=>?_;subst zq9;refine OE g b S len λA o s H J Q E d a=>?_;refine oj (I C A o s H J Q E d a) λt h q=>?_;exact⟨t,h,q⟩
end
structure Df(K:bg)(mg:eR)(x:Str)(st:Stmt)(ps:List Str):Prop where
 l:∃f fd,mi K x x st f fd/\eH K fd ps []/\mg x=some (.ref f)
theorem Df.i{K:bg}{st:Stmt}(D:Df K mg x st I)
  (h:∀f C,mi K x x st f C->oY P w K mg o (db P w) k f C I sp):Fn P w K mg o k x I sp:=by
 refine Ek D.l λf C F b m=>?_;exact⟨f,C,h f C F,b,F.R,m⟩
structure XC(K:bg)(C:Addr):Prop where
 g:d5 K (.ref C) "__getattribute__" = some (some (.builtin "BaseException.__getattribute__"))
 n:d5 K (.ref C) "__getattr__" = some none
 cl:d5 K (.ref C) "__class__" = some (some (.builtin "object.__class__"))
 bs:W.subIn K (.ref C) (.type "BaseException")=some true
 o:W.subIn K (.ref C) (.type "object")=some true
 T:(Cf K C).isSome=true
section
variable {E:Zs}{h:Heap}{os:OsState}{a C:Addr}{o:Obj}{K:bg}
theorem WV(X:K.In h)(Z:XC K C)(J:h.get? a=some o)(I:o.cls=.ref C)(U:Q (.done<|.ret<|.ref C) ⟨h,g,d,t,os⟩):
  cb (cK prog w) A (Cn.«object.__getattribute__» ⟨[.ref a,.str "__class__" tk],[]⟩) Q E ⟨h,g,d,t,os⟩:=by
 have b:(⟨h,g,d,t,os⟩:a7).TypeIs (.builtin "object.__class__") _:=sf;have j:=sf;have i:=BU.lookup;have f:=F.slot_gs_set.lookup;have e:=l9 (M:=cK prog w) X Z.cl
 repeat (any_goals (first|assumption|(with_reducible refine fA J ?_;rw[I])|with_reducible refine e.at ?_|wp_step))
 refine(by
  have b:(⟨h,g,d,t,os⟩:a7).TypeIs (.builtin "object.__class__") _:=sf;have c:W.Looks (cK prog w) h (isSubtype (.ref C)<|.type<|".".intercalate ("object.__class__".cutAt '.').dropLast) true:=by
   rw[F.owner_object_class];exact yn X Z.o
  refine nz BU.plain F.entry_gs_get<|BU.check _ _ _ _ _ _ _ _ b (F.args_gs_get _ _ _) ?_
  repeat (any_goals (first|assumption|(with_reducible refine fA J ?_;rw[I])|with_reducible refine c.at ?_|wp_step))
  refine⟨vT _ (by decide +kernel),codeAny_builtin F.entry_object_class ?_⟩
  repeat (any_goals (first|assumption|(with_reducible refine fA J ?_;rw[I])|wp_step)))
 repeat (any_goals (first|assumption|wp_step))
theorem Qa(X:K.In h)(Z:XC K C)(hx:h.get? a=some o)(J:o.cls=.ref C)(U:Q () ⟨h,g,d,t,os⟩):
  cb (cK prog w) A (checkBuiltinCall "BaseException.__getattribute__" ⟨[.ref a,I],[]⟩) Q E ⟨h,g,d,t,os⟩:=by
 have c:builtinKind "BaseException.__getattribute__" = some .slot:=by decide +kernel
 have b:splitId "BaseException.__getattribute__" = some ("BaseException", "__getattribute__"):=by decide +kernel
 have f:=F.args_bexc_ga (.ref a) I;have e:=yn (M:=cK prog w) X Z.bs;simp only[checkBuiltinCall,c,b];refine ae ?_;unfold B5
 repeat (first|(with_reducible refine fA hx ?_;rw[J])|with_reducible refine e.at ?_|wp_step)
 exact U
theorem OQ{Q:Zs}(X:K.In h)(Z:XC K C)(J:h.get? a=some o)(I:o.cls=.ref C)(U:Q (.ref C) ⟨h,g,d,t,os⟩):
  cb (cK prog w) A (getAttrBy (.ref a) (.str "__class__" tk) false) Q E ⟨h,g,d,t,os⟩:=by
 have f:=nB.ga.bind<|.ref a;have b:=l9 (M:=cK prog w) X Z.g;have e:=l9 (M:=cK prog w) X Z.n;have c:(jS "BaseException.__getattribute__"==jS "object.__getattribute__")=false:=by decide +kernel
 repeat (any_goals (first|assumption|(with_reducible refine fA J ?_;rw[I])|with_reducible refine b.at ?_|with_reducible refine e.at ?_|wp_step))
 refine nz nB.ga.plain F.entry_bexc_ga<|Qa X Z J I<|WV X Z J I ?_
 repeat (any_goals (first|assumption|wp_step))
def XY(a C:Addr)(h:Heap):Prop:=∃o,h.get? a=some o/\o.cls=.ref C
theorem GD(Z:XC K C):W.KitX K (.ref a) (.ref C) (XY a C) where
 ty:=by intro _ _ _ zr3;refine oj zr3 λ_ b i=>?_;exact i▸(W.Looks.ld b).andThen .now
 it:=λ_ _ X _=>by
  have z:=Z.T;unfold Cf at z;split at z
  .rename_i f;intro m Q' u v k q;exact ae<|AZ (k _ _<|X _ _ f)<|av q
  cases z
 ne:=λh l p r n o X c=>by
  have z:=Z.T;refine Bool.eq_false_iff.mpr λq=>?_;have e:=Value.ref.inj<|beq_iff_eq.mp q;subst e;unfold Cf at z;split at z
  .rename_i f;have j:=(X _ _ f).symm.trans c;cases j
  cases z
 ca:=λ{_ _ _ _ _ s} X ⟨_,b,i⟩ k=>by
  obtain⟨h,g,d,t,os⟩:=s;exact(by
   unfold getAttr? getAttrBy?
   repeat (any_goals (first|assumption|with_reducible apply OQ X Z b i|wp_step)))
end
def SW(K:bg):List V->Hp->VK->Prop:=λxs H Q=>∃a C c cv b,xs=[.r a,c]/\D6 c=some cv/\(∃d,H a=some (.b d<|.e<|vm a<|.ref C))/\XC K C/\h9 K (.ref C) cv=some b/\Q (.B b) H
end Hd
namespace L2
open PySem PySem.Spec PyProof.Rows
section
variable {κ:Type}[DecidableEq κ]
def uD(ι:List (κ×V))(k:κ):Option V:=(ι.find? λa=>decide<|a.1=k).map (·.2)
def ek(ι:List (κ×V))(k:κ)(v:V):List (κ×V):=
 if(ι.any λa=>decide<|a.1=k)=true then ι.map (λa=>if a.1=k then(a.1,v) else a) else ι++[(k,v)]
theorem xR{p:κ×V}(e:p.1=k):uD (p::r) k=some p.2:=by simp[uD,e]
theorem xQ{p:κ×V}(e:¬p.1=k):uD (p::r) k=uD r k:=by simp[uD,e]
theorem Gu k:∀ι:List (κ×V),(ι.any λo=>decide<|o.1=k)=(uD ι k).isSome
 |[]=>rfl
 |p::r=>by
  rw[kC];by_cases e:p.1=k
  .simp only[xR e,decide_eq_true e,Bool.true_or,Option.isSome_some]
  rw[xQ e,decide_eq_false e,yy];exact Gu k r
theorem wV ι(k:κ) v :(ek ι k v).length<=ι.length+1:=by grind[aE,bq,cm,AE,ek]
theorem Yb{k:κ} v (h:uD ι k=none):ek ι k v=ι++[(k,v)]:=by simp_all[Gu,ek]
theorem yw.D(r:yw o u):o.isSome=u.isSome:=by
 cases o with
 |none=>cases u with
  |none=>rfl
  |some _=>exact(show False from r).elim
 |some _=>cases u with
  |none=>exact(show False from r).elim
  |some _=>rfl
theorem KV.v(r:KV ι vs)(k:κ):yw (uD ι k) (Co vs k):=by
 induction r with
 |nil=>exact fR
 | @cons p q ps qs h t ih=>
  obtain⟨c,d⟩:=h;by_cases e:p.1=k
  .have a:=c.symm.trans e;have b:Co (q::qs) k=some q.2:=by simp[Co,a]
   rw[xR e,b];exact d
  have a:¬q.1=k:=λz=>e<|c.trans z;have b:Co (q::qs) k=Co qs k:=by simp[Co,a]
  rw[xQ e,b];exact ih
theorem KV.w(r:KV ι vs)(k:κ):(ι.any λo=>decide<|o.1=k)=vs.any λo=>decide (o.1=k):=by
 induction r with
 |nil=>rfl
 |cons h t ih=>rw[kC,kC,ih,h.1]
theorem KV.g(r:KV ι vs)(k:κ)(C:bn y u):
  KV (ι.map λo=>if o.1=k then(o.1,y) else o) (vs.map λo=>if o.1=k then(o.1,u) else o):=by
 induction r with
 |nil=>exact .nil
 | @cons p q ps qs h t ih=>
  rw[ar,ar];refine .cons ?_ ih;obtain⟨a,b⟩:=h;by_cases e:p.1=k
  .rw[if_pos e,if_pos<|a.symm.trans e];exact⟨a,C⟩
  rw[if_neg e,if_neg λz=>e<|a.trans z];exact⟨a,b⟩
theorem KV.Id(r:KV ι vs)(k:κ)(o:bn y u):KV (ek ι k y) (stored vs k u):=by
 unfold ek stored;rw[r.w k];by_cases e:(vs.any λa=>decide<|a.1=k)=true
 .rw[if_pos e,if_pos e];exact r.g k o
 rw[if_neg e,if_neg e];exact Paired.snoc r ⟨rfl,o⟩
theorem KV.l(r:KV ι vs):ι.length=vs.length:=mI r
end
theorem Qm(r:bn (kV k) u):(mj P w).is k u=true:=by
 cases k with
 |inl i=>obtain⟨t,e⟩:=(r);subst e;exact(Wo i t)
 |inr x=>obtain⟨t,e⟩:=(r);subst e;exact(W4 x t)
abbrev KT(T:Addr->List V->Prop)(H:Hp):List (List Kt×V)->List (List Kt×Addr×aI)->Prop:=kL λp q=>p.1=q.1/\nk T H q.2.1 p.1/\bn p.2 q.2.2
theorem KT.v(r:KT T H ι xs) k :yw (uD ι k) ((CS xs k).map (·.2)):=by
 induction r with
 |nil=>exact fR
 | @cons p q ps qs h t ih=>
  refine ZI h λc _ d=>?_;by_cases e:p.1=k
  .have a:=c.symm.trans e;have b:CS (q::qs) k=some q.2:=by simp[CS,a]
   rw[xR e,b];exact d
  have a:¬q.1=k:=λz=>e<|c.trans z;have b:CS (q::qs) k=CS qs k:=by simp[CS,a]
  rw[xQ e,b];exact ih
theorem KT.g(r:KT T H ι xs) k (C:bn y u):
  KT T H (ι.map λo=>if o.1=k then(o.1,y) else o) (xs.map<|putAt k u):=by
 induction r with
 |nil=>exact .nil
 | @cons p q ps qs h t ih=>
  rw[ar,ar];refine .cons ?_ ih;refine ZI h λa b c=>?_;unfold putAt;by_cases e:p.1=k
  .rw[if_pos e,if_pos<|a.symm.trans e];exact⟨a,b,C⟩
  rw[if_neg e,if_neg λz=>e<|a.trans z];exact⟨a,b,c⟩
theorem KT.Id(r:KT T H ι xs) k (C:nk T H b k)(o:bn y u):
  KT T H (ek ι k y) (storedH xs k b u):=by
 have e:(ι.any λa=>decide<|a.1=k)=(CS xs k).isSome:=by
  rw[Gu,(r.v k).D,Ct]
 unfold ek storedH;rw[e];by_cases q:(CS xs k).isSome=true
 .rw[if_pos q,if_pos q];exact r.g k o
 rw[if_neg q,if_neg q];exact Paired.snoc r ⟨rfl,C,o⟩
theorem KT.f(r:KT T H ι xs)(o:∀b ys,H b=some (.w ys)->H' b=some (.w ys)):KT T H' ι xs:=
 kL.c r λ_ _ z=>⟨z.1,z.2.1.u o,z.2.2⟩
theorem HP(ok:hM P w H h)(e:Rd H a u):bZ P w H h a u:=e.R ok
theorem Jh(ok:hM P w H h)(e:Rd H a (.c ι)):ι.length<=aw/\(a==kc)=false/\∃o,KV ι o/\h.DictOf (mj P w) a o:=
 HP ok e
theorem GI(ok:hM P w H h)(e:H a=some (.c ι)):ι.length<=aw/\(a==kc)=false/\∃o,KV ι o/\h.DictOf (mj P w) a o:=Jh ok<|.inl e
theorem O3(C:∀b ks,nk T H b ks->(oG P w).is h ks b)(ok:hM P w H h)(e:Rd H a (.d T ι)):ι.length<=aw/\(a==kc)=false/\
  ∃xs,KT T H ι xs/\h.DictOfH (oG P w) a xs:=by
 obtain⟨z,y,xs,r,o,i,k,n,g,f,j,d⟩:=(HP ok e);refine⟨z,y,xs,r,o,i,k,n,g,f,j,λx c=>?_,d⟩;have all:∀{l:List _} {m:List _},KT T H l m->∀x∈m,(oG P w).is h x.1 x.2.1:=by
  intro l m q;induction q with
  |nil=>intro x c;exact nomatch c
  | @cons p q ps qs hq t ih=>
   intro x c;rcases a9.mp c with e|c
   .subst e;rw[<-hq.1];exact C _ _ hq.2.1
   exact ih x c
 exact all r x c
theorem Yl(o:∀b ks,nk T H b ks->(oG P w).is h ks b)(ok:hM P w H h)(e:H a=some (.d T ι)):ι.length<=aw/\(a==kc)=false/\
  ∃xs,KT T H ι xs/\h.DictOfH (oG P w) a xs:=O3 o ok<|.inl e
def QL(K:bg)(H:Hp)(a:Addr)(y:V)(r:Option V):Prop:=
 (∃ι k,Rd H a (.c ι)/\y=kV k/\r=uD ι k)\/∃ι k b,Rd H a (.d (ew K) ι)/\y=.r b/\nk (ew K) H b k/\r=uD ι k
def Lg(K:bg)(H:Hp)(a:Addr)(y v:V)(H':Hp):Prop:=
 (∃ι k,H a=some (.c ι)/\y=kV k/\ι.length<aw/\H'=upd H a (.c<|ek ι k v)) ∨
 ∃ι k b,H a=some (.d (ew K) ι)/\y=.r b/\nk (ew K) H b k/\ι.length<aw/\H'=upd H a (.d (ew K)<|ek ι k v)
theorem Lg.k{K:bg}{k:er}(e:H a=some (.c ι))(o:ι.length<aw):Lg K H a (kV k) v (upd H a<|.c<|ek ι k v):=.inl ⟨ι,k,e,rfl,o,rfl⟩
theorem Lg.t{K:bg}{k:List Kt}(e:H a=some (.d (ew K) ι))(o:nk (ew K) H b k)(C:ι.length<aw):
  Lg K H a (.r b) v (upd H a<|.d (ew K)<|ek ι k v):=.inr ⟨ι,k,b,e,rfl,o,C,rfl⟩
section
variable {X:Cx}{π:Zp}{σ:St}{H:Hp}{s:a7}{a:Addr}{v:V}{u r:aI}{o:Option V}{A:eJ}{E:Zs}
theorem am.big(I:am X π σ H s):kc<s.heap.objs.size:=by
 have h:=(I.mod.h.keeps I.bk).lt;exact Nat.lt_trans (by decide) h
mutual
theorem U7(I:am X π σ H s):∀{n:Nat} {v:V} {k:Kt} {u:aI},Ez (ew X.K) H n v k->bn v u->pR s.heap n k u
 |n,_,_,u,.k (x:=x),r=>by rw[ur];exact Qm (P:=X.p) (w:=X.w) r
 |_,_,_,u,.t (b:=b) h hs,r=>by
  cases(show u=cq b from r);obtain⟨e,d,⟨o,c,a,m,hd⟩,_⟩:=I.Id<|lz.s h;exact o9.mpr ⟨b,o,e.toArray,m,rfl,c,a,hd,by simpa using Oc I hs d⟩
theorem Oc(I:am X π σ H s):∀{n:Nat} {C:List V} {ks:List Kt} {us:List aI},wC (ew X.K) H n C ks->a_ C us->kL (pR s.heap n) ks us
 |_,_,_,_,.f,.nil=>.nil
 |_,_,_,_,.e h hs,.cons r rs=>.cons (U7 I h r)<|Oc I hs rs
end
theorem Cy(I:am X π σ H s)(e:nk (ew X.K) H b ks):(oG X.p X.w).is s.heap ks b:=by
 refine oj e λc h a=>?_;exact U7 I (.t h a) rfl
theorem HR(I:am X π σ H s):∀b ks,nk (ew X.K) H b ks->(oG X.p X.w).is s.heap ks b:=λb ks e=>Cy I e
theorem yh(C:A.units+16<tj):(oG X.p X.w).room A.in1:=by
 show A.units+1+8<tj
 lia
theorem Xj(J:A.units+16<tj)(I:am X π σ H s)(g:QL X.K H a y (some v))(C:bn y u)(h:∀w' s',am X π σ H s'->bn v w'->Q w' s'):
  cb (cK X.p X.w) A (Au (.ref a) u) Q E s:=by
 rcases g with⟨t,k,e,f,l⟩|⟨t,k,b,e,f,x,l⟩
 .subst f;obtain⟨z,hd,q,d,i⟩:=Jh I.W e;refine oj (yw.s (by rw[l];exact d.v k)) λw' j c=>?_;exact wpAny_getItem_of (Qm C) i.mapOf j<|h w' _ (I.tok _) c
 subst f;cases(C);obtain⟨z,hd,n,d,i⟩:=O3 (HR I) I.W e;refine oj (yw.s (by rw[l];exact d.v k)) λw' j c=>?_;refine oj (qh.mp j) λp r m=>?_;refine wpAny_getItem_heap (yh J) (Cy I x) i r ?_;rw[m];exact h w' _ (I.tok _) c
theorem UB(J:A.units+16<tj)(I:am X π σ H s)(g:QL X.K H a y o)(C:bn y u)(h:∀s',am X π σ H s'->Q (.bool<|!o.isSome) s'):
  cb (cK X.p X.w) A (iq .NotIn u<|.ref a) Q E s:=by
 rcases g with⟨i,k,e,d,l⟩|⟨i,k,b,e,d,j,l⟩
 .subst d;obtain⟨z,hd,n,c,f⟩:=Jh I.W e;refine wpAny_notIn_of (Qm C) hd f.mapOf ?_;rw[<-(c.v k).D,<-l];exact h _<|I.tok _
 subst d;cases(C);obtain⟨z,hd,m,c,f⟩:=O3 (HR I) I.W e;refine wpAny_notIn_heap (yh J) (Cy I j) hd f ?_;have q:=(c.v k).D;rw[Ct] at q;rw[<-q,<-l];exact h _<|I.tok _
theorem Bj(I:am X π σ H s)(U:zl (H a))(C:kA a s.heap h')(J:∃q,h'.get? a=some q)(new:bZ X.p X.w (upd H a ob) h' a ob):
  am X π σ (upd H a ob) { s with heap:=h',toks:=t'}:=
 I.write (x:=a) (e:=a) U (.inl rfl) (λb q c z=>(C.2 b c).trans z) J new
theorem Za(z:ι.length<=aw)(hd:(a==kc)=false)(C:KV ι vs)(dd:h'.DictOf (mj P w) a vs):
  bZ P w H' h' a (.c ι):=⟨z,hd,vs,C,dd⟩
theorem Wy(U:A.units+16<tj)(I:am X π σ H s)(g:Lg X.K H a y v H')(C:bn y u)(J:bn v r)(h:∀s',am X π σ H' s'->Q () s'):
  cb (cK X.p X.w) A (C2 (.ref a) u r) Q E s:=by
 rcases g with⟨i,k,e,p,l,x⟩|⟨i,k,b,e,p,D,l,x⟩
 .subst p x;obtain⟨z,hd,T,d,t⟩:=GI I.W e;have n:T.length<=aw:=by rw[<-d.l];exact z
  have o:(ek i k v).length<=aw:=by have:=wV i k v;lia
  refine wpAny_setItem_pairs (Qm C) t λB f m=>h _ ?_;have P:∃q,B.get? a=some q:=by refine Z_32 f λq _ _ j _=>?_;exact ⟨q,j⟩
  exact Bj I (by rw[e];exact fR) m P<|Za o hd (d.Id k J) f
 subst p x;cases(C);obtain⟨z,hd,L,d,t⟩:=Yl (HR I) I.W e;have n:L.length<=aw:=by rw[<-mI d];exact z
 have o:(ek i k v).length<=aw:=by have:=wV i k v;lia
 refine wpAny_setItem_heap (yh U) (Cy I D) t λB f m=>h _ ?_;refine Hh f λq S R j N O M _ G=>?_;refine Bj I (by rw[e];exact fR) m ⟨q,j⟩ ⟨o,hd,_,(d.Id k D J).f λc V F=>?_,q,S,R,j,N,O,M,G⟩;rw[bf<|Yt F e λz=>nomatch z];exact F
end
theorem M1(I:am X π σ H s)(e:Rd H a (.c ι))(h:∀t s',am X π σ H s'->Q (.int ι.length t) s'):cb (cK X.p X.w) A (call (.builtin "len") [.ref a]) Q E s:=by
 obtain⟨z,hd,d,b,c⟩:=Jh I.W e;refine call_len_dict hd c (by rw[<-b.l];rw[tw] at z;lia) ?_;rw[<-b.l];exact h _ _<|I.tok _
def D3(i:Expr):Prop:=∀b a,A8 i false b a=operate [b,a] (Au b a)
theorem S3{E:Zs}{id:String}{Q:Zs}
  (hl:AR (.type T) "__getitem__" = pure (some<|.builtin id)) (hs:D3 C)
  (h:cb (cK prog w) A (eval I env) (λo U=>cb (cK prog w) A (eval C env) (λi J=>J.TypeIs o T/\cb (cK prog w) A (Au o i) Q E J) E U) E s):
  cb (cK prog w) A (eval (.Subscript I C pos) env) Q E s:=by
 refine B7<|gN h (λo U c=>gN c (λi J a=>?_) λ_ _ x=>x) λ_ _ x=>x;obtain⟨e,a⟩:=a;refine ae ?_;refine ae<|mf e hl ?_;have fin:cb (cK prog w) A (A8 C false o i) (λr b=>cb (cK prog w) A (letTemporaryGo I o r >>= λ_=>pure r) Q E b) E J:=by
  rw[hs o i];exact wpAny_operating<|gN a (λr b d=>ae<|wpAny_letTemporaryGo<|av d) λ_ _ x=>x
 first
  |exact av (ae fin)
  |exact ae _
  |exact ae _
def Md(K:bg)(o ty:TE):TE:=λb H Q=>o b H λx H1=>ty b H1 λy c=>∃a v,x=.r a/\QL K c a y (some v)/\Q v c
def NI(K:bg)(C ty o:TE):TS:=λD b H=>o b H λv H1=>C b H1 λx e=>ty b e λy d=>∃a c,x=.r a/\Lg K d a y v c/\D.n b c
theorem Vz(hu:X.A.units+16<tj)(J:PE X o td)(U:PE X i ty)(C:D3 i):PE X (.Subscript o i pos) (Md X.K td ty):=by
 intro j s l H Q I h;refine S3 PySem.F.slot_dict_getitem.lookup C<|ce (J j s l H _ I h) λu z ⟨x,H1,E,n,p⟩=>ce (U j z l H1 _ E p) λL M q=>?_;obtain⟨y,r,c,t,a,v,w,g,m⟩:=q;subst w;obtain rfl:u=cq a:=n;exact⟨(by
  rcases g with⟨D,k,e,_,_⟩|⟨D,k,b,e,_,_,_⟩
  .obtain⟨_,_,N,_,f⟩:=Jh c.W e;exact f.typeIs
  obtain⟨_,_,G,_,f⟩:=O3 (HR c) c.W e;exact f.typeIs),Xj hu c g t λP O B d=>⟨v,r,B,d,m⟩⟩
theorem KY(J:X.A.units+16<tj)(ho:PE X o td)(hi:PE X i ty)(U:PE X value tv)(C:eM value (some<|.Subscript o i pos') pos.line X.d=pure false):
  PS X (.Assign [.Subscript o i pos'] value pos) (NI X.K td ty tv):=by
 intro c s b H D I h;refine wpAny_Assign_Subscript (ce (U c s b H _ I h) λr l ⟨v,H1,E,n,f⟩=>ce (ho c l b H1 _ E f) λu e ⟨x,q,B,t,d⟩=>ce (hi c e b q _ B d) λL G zz0=>?_) C;obtain⟨y,F,z,j,a,p,w,g,m⟩:=zz0;subst w;obtain rfl:u=cq a:=t;exact Wy J z g j n λM k=>⟨b,p,k,m⟩
theorem Pq(h:Heap)(o:kc<h.objs.size):bZ P w H (h.push { cls:=.type "dict",data:=.dict #[] }) h.objs.size (.d T []):=
 ⟨eK _,beq_eq_false_iff_ne.mpr<|eW<|b0 o,[],.nil,_,_,0,bp _ rfl,⟨rfl,rfl,rfl⟩,rfl,rfl,List.nodup_nil⟩
def Pw(K:bg):TE:=λ_ H Q=>∀p,H p=none->Q (.r p) (upd H p<|.d (ew K) [])
theorem XM:PE X (.Dict [] [] pos) (Pw X.K):=λc s b H Q I h=>
 wpAny_Dict_empty ⟨.r s.heap.objs.size,_,I.laid (a:=s.heap.objs.size) (o:=.d (ew X.K) []) (t':=s.toks) (λ_ _ q=>ah _ q) (bb _)<|Pq s.heap I.big,rfl,h _<|I.W.n<|bb _⟩
def Hq:List (TE×TE)->St->Hp->(List (V×V)->Hp->Prop)->Prop
 |[],_,H,Q=>Q [] H
 |(tk,tv)::r,σ,H,Q=>tk σ H λx H1=>tv σ H1 λy b=>Hq r σ b λc a=>Q ((x,y)::c) a
abbrev VV:List (V×V)->List (aI×aI)->Prop:=kL λp q=>bn p.1 q.1/\bn p.2 q.2
def D9(X:Cx)(J:Pos)(C:List (Option Expr))(o:List Expr)(I:List (TE×TE)):Prop:=
 ∀(b:Zp) (s:a7) (a:St) (H:Hp) (Q:List (V×V)->Hp->Prop),am X b a H s->Hq I a H Q->
  cb (cK X.p X.w) X.A (evalPairs<|pairTrees C o X.d J) (λd s'=>∃c H',am X b a H' s'/\VV c d/\Q c H') X.g s
theorem wW(hk:PE X k tk)(o:PE X v tv)(C:D9 X pos ks vs trs):
  D9 X pos (some k::ks) (v::vs) ((tk,tv)::trs):=λa s d H Q I h=>
 pairTrees_cons_walk (ce (hk a s d H _ I h) λu n ⟨x,H1,t,g,j⟩=>ce (o a n d H1 _ t j) λz i c=>f3 c λy l r m e=>
  ce (C a i d l _ r e) λA B c=>by refine Y_ c λw f p b q=>?_;exact⟨ _,f,p,.cons ⟨g,m⟩ b,q⟩)
def qy(ι more:List (er×V)):List (er×V):=more.foldl (λacc a=>ek acc a.1 a.2) ι
theorem KV.m:∀{more:List (er×V)} {C:List (er×aI)} {ι:List (er×V)} {o:List (er×aI)},KV more C->KV ι o->KV (qy ι more) (merged o C):=by
 intro more C ι o r;induction r generalizing ι o with
 |nil=>intro q;exact q
 | @cons p q ps qs h t ih=>
  intro a;have e:KV (ek ι p.1 p.2) (stored o q.1 q.2):=by
   have:=a.Id p.1 h.2
   rw[<-h.1];exact this
  exact ih e
theorem yW:∀more ι,(qy ι more).length<=ι.length+more.length
 |[],ι=>by show ι.length<=ι.length+0;lia
 |p::r,ι=>by
  have b:=yW r<|ek ι p.1 p.2;have a:=wV ι p.1 p.2;show(qy _ r).length<=_;rw[cm];lia
theorem GR:∀{ι:List (er×V)} {I:List (aI×aI)},VV (ι.map λC=>(kV C.1,C.2)) I->∃o,Carries (mj P w) I o/\KV ι o
 |[],_,r=>by cases r;exact⟨[],fR,.nil⟩
 |p::ι,_,r=>by
  cases r with
  | @cons a b as bs h t=>
   obtain⟨o,c,q⟩:=GR t;obtain⟨e,d⟩:=b;exact⟨(p.1,d)::o,⟨Qm h.1,rfl,c⟩,.cons ⟨rfl,h.2⟩ q⟩
def Mb(o:List (TE×TE)):TE:=λc H Q=>∀p,H p=none->Hq o c (upd H p<|.c []) λd b=>b p=some (.c [])/\∃ι:List (er×V),d=ι.map (λa=>(kV a.1,a.2))/\ι.length<=15/\Q (.r p) (upd b p<|.c<|qy [] ι)
theorem SI(h:D9 X pos keys values trs)(C:keys.all (·.isSome)=true)(U:keys.length=values.length)(h0:keys≠[])
  (J:keys.length<=15):PE X (.Dict keys values pos) (Mb trs):=by
 intro k s x H Q I q;have E:=I.W.n<|bb _;have D:=I.laid (o:=.c []) (t':=s.toks) (λ_ _ q=>ah _ q) (bb _)<|(⟨eK _,beq_eq_false_iff_ne.mpr<|eW<|b0 I.big,[],.nil,Heap.DictOf.new _ ⟩);refine wpAny_Dict_walk (knd:=mj _ _) C U h0 J<|ce (h k _ x _ _ D<|q _ E) λF G v=>?_;obtain⟨M,L,g,d,e,i,p,K,j⟩:=v;subst p;obtain⟨u,c,B⟩:=GR d;obtain⟨z,hd,t,A,y⟩:=GI g.W e;cases A;refine⟨u,c,y,λf b l=>⟨.r _,_,?_,rfl,j⟩⟩;have n:(qy [] i).length<=aw:=by
  have m:=yW i [];rw[AE] at m;rw[tw];lia
 have r:∃q,f.get? _=some q:=let⟨q,_,_,hq,_⟩:=b;⟨q,hq⟩
 exact Bj g (by rw[e];exact fR) l r<|Za n hd (B.m .nil) b
structure M2(X:Cx)(o:Expr)(m:Str)(apos:Pos)(e f:Expr)(η:Pos):Prop where
 T:ib o m X.d (eval o X.d)=eval o X.d
 a:((ij η (ag [e,f] X.d)).all (λx=>!x.1)&&(yk η (og [] X.d)).all (λx=>x.1.isSome)
  && decide (([e,f]:List Expr).length+([]:List om).length+(if([]:List om).isEmpty then 0 else 1)<30))=true
 l:(apos.endLine==η.line)=true
 t:ij η (ag [e,f] X.d)=[(false,eval e X.d),(false,eval f X.d)]
def JU(K:bg)(H:Hp)(a:Addr):Prop:=(∃ι,Rd H a<|.c ι)\/∃ι,Rd H a<|.d (ew K) ι
theorem QO(I:am X π σ H s)(d:JU X.K H a):
  s.TypeIs (.ref a) "dict"/\(∀b,cq a=.ref b->∃ob,s.heap.get? b=some ob/\ob.dict=none)/\(a==kc)=false:=by
 rcases d with⟨h,e⟩|⟨h,e⟩
 .obtain⟨_,hd,j,_,c⟩:=Jh I.W e;refine⟨c.typeIs,λb q=>?_,hd⟩;cases q;refine Uy c λob _ _ f g _=>?_;exact⟨ob,f,g.2.1⟩
 obtain⟨_,hd,i,_,c⟩:=O3 (HR I) I.W e;refine⟨c.typeIs,λb q=>?_,hd⟩;cases q;refine Uy c λob _ _ f g _=>?_;exact⟨ob,f,g.2.1⟩
end L2
namespace Hd
open PySem PySem.Spec PyProof.Rows L2
theorem bH(h:H p=none) o :aD H (upd H p o):=λb u q=>by
 rw[bf<|oV q h];exact q
theorem bA(h:PE X e T)(k:∀o H Q,T' o H Q->T o H Q):PE X e T':=λa s o H Q I q=>h a s o H Q I<|k o H Q q
def KW(t:TA):TA:=λa H Q=>∃R,t a H R/\∀xs H1,R xs H1->Q xs H1
theorem G_(h:PA X es t):PA X es (KW t):=by intro a c s b H Q I zr7;refine oj zr7 λR f k=>?_;exact ce (h a c s b H R I f) λ_ _ e=>f3 e λd H1 g r q=>⟨d,H1,g,r,k _ _ q⟩
def NJ(t:TA):TE:=λa H Q=>t a H λxs H1=>xs.length<=aw/\∀p H',aD H1 H'->H' p=some (.w xs)->Q (.r p) H'
theorem Tu(h:PA X es t):PE X (.Tuple es x1 pos) (NJ t):=
 bA (Yi<|G_ h) λ_ _ _ q=>⟨_,q,(by rintro _ _ ⟨z,k⟩;exact ⟨z,λp a=>k p _ (bH a _) aP⟩)⟩
abbrev dh(X:Cx)(o:List Str)(scope:wx)(cl:List (Str×Addr))(C:Addr)(I:a7)(J:Hp)(fp:List Addr)(U:Zp):Cx:=
 { X with N:=o,s₀:=I,H₀:=J,d:=compEnvC scope cl C X.d,h:=X.Z,l:=fp,i:=λ_=>false,n:=X.n++U,g:=λ_ _=>False}
structure vu(sc scope:wx)(c:List Str):Prop where
 k:scope.kind=.function
 n:∀y∈scope.names,y.2≠.cell
 loc:∀y∈scope.names,y.2=.local->scope.names.lookup y.1=some .local
 Y:∀y∈scope.names,y.2=.free->sc.names.lookup y.1=some .cell\/sc.names.lookup y.1=some .free
 c:∀x∈c,scope.names.lookup x=some .free/\(sc.names.lookup x=some .cell\/sc.names.lookup x=some .free)
theorem ee:∀{l:List (Str×β)} {x:Str} {k:β},l.lookup x=some k->(x,k)∈l
 |[],_,_,h=>by simp at h
 |(n,k')::r,x,k,h=>by
  rw[l6] at h;split at h
  .rename_i e;have a:x=n:=by simpa using e
   cases h;rw[a];exact ai
  exact af _<|ee h
theorem Di{c:Str->nS->Bool}{a:nS}{x:Str}:∀{l:List (Str×nS)},(l.map λ(n,k)=>if c n k then(n,a) else(n,k)).lookup x=(l.lookup x).map λk=>if c x k then a else k
 |[]=>rfl
 |(n,k)::r=>by
  have:=@Di c a x r
  by_cases h:x=n
  .subst h;by_cases q:c x k=true<;>simp[q]
  have e:(x==n)=false:=by simpa using h
  by_cases q:c n k=true<;>simp[q,e,l6,this]
abbrev Db(env:Env)(o:List (Str×nS)):List (Str×nS):=o.map λ(n,k)=>if(k==sN&&env.scope.kind==.function&&env.kindOf n==some .cell) then(n,NameKind.cell) else(n,k)
theorem M9(h:o.lookup x=some .free):
  (Db env o).lookup x=some .cell ∨
  (Db env o).lookup x=some .free:=by
 rw[Di (c:=λn k=>k==sN&&env.scope.kind==.function&&env.kindOf n==some _),h,iE];split
 .exact .inl rfl
 exact .inr rfl
theorem QJ(C:∀y∈o,y.2≠.cell)(h:
  (Db env o).lookup x=some .cell ∨
  (Db env o).lookup x=some .free):o.lookup x=some .free:=by
 rw[Di (c:=λn k=>k==sN&&env.scope.kind==.function&&env.kindOf n==some _)] at h;cases e:o.lookup x with
 |none=>simp[e] at h
 |some k=>
  have:=C _<|ee e
  rw[e,iE] at h;split at h<;>simp_all
theorem zM:∀(o:List (Str×nS)) (acc),(∀y∈o,y.2=.free->∃c,env.cells.lookup y.1=some c)->
  ∃C,(forIn o acc λ(y:Str×nS) (cs:List (Str×Addr))=>(if y.2==.free then do let c<-cellOf env y.1;pure (tJ ((y.1,c)::cs)) else pure (tJ cs):Sem (ForInStep<|List<|Str×Addr)))=pure C/\
   (∀x c,C.lookup x=some c->acc.lookup x=some c\/env.cells.lookup x=some c)/\(∀x c,acc.lookup x=some c->∃I,C.lookup x=some I)/\∀y∈o,y.2=.free->∃c,C.lookup y.1=some c
 |[],acc,_=>⟨ _,rfl,λ_ _ e=>.inl e,λ_ c e=>⟨c,e⟩,λ_ z=>nomatch z⟩
 |(n,k)::r,acc,h=>by
  have m:=λy f=>h y<|af _ f;by_cases g:(k==sN)=true
  .obtain⟨c,p⟩:=h _ ai (by simpa using g);refine Eb (zM r ((n,c)::acc) m) λC e i b l=>?_;refine⟨C,?_,λx d q=>?_,λx d q=>?_,λy f q=>?_⟩
   .have s:cellOf env n=pure c:=by unfold cellOf;rw[p]
    rw[AF];simp only[g,if_true,s,pure_bind];exact e
   .rcases i x d q with z|z
    .rw[l6] at z;split at z
     .rename_i a;have j:x=n:=by simpa using a
      cases z;rw[j];exact .inr p
     exact .inl z
    exact .inr z
   .by_cases a:(x==n)=true
    .exact b x c<|by rw[l6,a]
    exact b x d (by rw[l6];simp only[zh] at a;rw[a];exact q)
   rcases a9.mp f with z|z
   .subst z;exact b n c (by rw[l6];simp)
   exact l y z q
  refine Eb (zM r acc m) λC e i b l=>?_;refine⟨C,?_,i,b,λy f q=>?_⟩
  .rw[AF];simp only[g,if_false,pure_bind,i9];exact e
  rcases a9.mp f with z|z
  .subst z;exact absurd (by simpa using q) g
  exact l y z q
theorem Ec(h:∀y∈scope.names,y.2=.free->∃c,env.cells.lookup y.1=some c):
  ∃o,closureFor scope env=pure o/\(∀x c,o.lookup x=some c->env.cells.lookup x=some c)/\∀y∈scope.names,y.2=.free->∃c,o.lookup y.1=some c:=by
 refine Eb (zM scope.names [] h) λo e a _ b=>?_;refine⟨o,?_,λx c q=>(a x c q).elim (λz=>by simp at z) id,b⟩;unfold closureFor;simp only[bind_pure];refine Eq.trans ?_ e;rfl
section
variable {σ:St}
theorem SL(I:am X π σ HE sE)(S:vu sc scope caps)(C:∀b∈fp,CG X π HE b/\b<sE.heap.objs.size)
  (J:∀x c,cl.lookup x=some c->X.d.cells.lookup x=some c) (U:∀y∈scope.names,y.2=.free->∃c,cl.lookup y.1=some c):
  (dh X N' scope cl sE.heap.objs.size sE HE fp π).O where
 mod:=I.R.mod
 k:=S.k
 h:=I.R.h
 m:=I.R.m
 d:=bb _
 inj:=λx y c f d=>I.R.inj x y c (J x c f)<|J y c d
 q:=λx h=>U _ (ee<|QJ S.n h) rfl
 p:=λx c h=>nomatch h
 g:=I.R.g
 f:=I.R.f
 s:=.inl rfl
 r:=λb a=>⟨b0 (C b a).2,λx c h=>(C b a).1.2.2.2.2.1 x c<|J x c h⟩
 bs:=I.bs
 j:=dS I.R.j I.sz
 n:=λb o e a=>by
  rcases(C b a).1.2.2.2.1 with z|z
  .exact I.R.n b o e z
  exact absurd (cf (aS e)<|dS I.R.j z)<|fS _
 l:=λb a g=>by
  rcases a9.mp (I.LC b g) with z|z
  .exact(C b a).1.2.1 z
  exact(C b a).1.2.2.1 z
 uX:=I.Z
 i:=I.Af
theorem WE{cap:List Nat}(I:am X π σ HE sE)(S:vu sc scope caps)(hsc:X.d.scope=sc)(hfp:∀b∈fp,CG X π HE b/\b<sE.heap.objs.size)
  (C:∀x c,cl.lookup x=some c->X.d.cells.lookup x=some c) (U:∀y∈scope.names,y.2=.free->∃c,cl.lookup y.1=some c)
  (hN:N'.drop k=caps) (hk:k<=N'.length) (J:kL (λj x=>X.N[j]? = some x) cap caps) {m:eR}
  (kp:∀b o,sE.heap.get? b=some o->h'.get? b=some o) (hns:h'.Ns sE.heap.objs.size m) tk :
  am (dh X N' scope cl sE.heap.objs.size sE HE fp π) [] (dA k none++cap.map λj=>(σ[j]?).join) HE { sE with heap:=h',toks:=tk} where
 R:=SL I S hfp C U
 os:=rfl
 LE:=I.LE
 T:=Un.we kp
 loc:=by
  refine⟨m,hns,λi x v P f W=>?_⟩;have M:k<=i:=by
   by_cases z:k<=i
   .exact z
   rw[dr (by simp;lia),gS] at f;rw[if_pos<|by lia] at f;cases f
  obtain⟨A,rfl⟩:∃A,i=k+A:=⟨i-k,by lia⟩;rw[dE (by simp),gL,Nat.add_sub_cancel_left,aT] at f;have F:caps[A]? = some x:=by rw[<-hN,v3];exact P
  have:∀{l:List Nat} {B:List _} {i:Nat},kL (λj x=>X.N[j]? = some x) l B->B[i]? = some x->∃j,l[i]? = some j/\X.N[j]? = some x:=by
   intro l B i p;induction p generalizing i with
   |nil=>intro z;simp at z
   |cons a _ ih=>
    intro z;cases i with
    |zero=>simp at z;subst z;exact⟨_,rfl,a⟩
    |succ i=>exact ih (z)
  refine oj (this J F) λj R E=>?_;rw[R] at f;have w:σ[j]? = some (some v):=by
   cases q:σ[j]? with
   |none=>rw[iE,q] at f;cases f
   |some o=>
    rw[iE,q] at f
    have:o=some v:=cE f
    rw[this]
  obtain⟨s,h⟩:=S.c x<|dy F;rw[<-hsc] at h;refine oj I.loc λV _ O=>?_;refine oj (O j x v E w<|h.elim (λz=>.inr<|.inl z) λz=>.inr<|.inr z) λu r L=>?_;refine⟨u,r,.inr ⟨M9 s,?_⟩⟩;rcases L with⟨z,_⟩|⟨_,c,T,g⟩
  .have H:X.d.scope.names.lookup x=some _:=z;rcases h with q|q<;>rw[H] at q<;>cases q
  obtain⟨K,t⟩:=U _ (ee s) rfl;have e:=C x K t;rw[T] at e;cases e;refine oj g λo D hd=>?_;exact⟨c,t,o,kp c o D,hd⟩
 cell:=λx c e=>by
  refine Y' (I.cell x c<|C x c e) λv o D hd=>?_;exact⟨v,o,kp c o D,hd⟩
 Y:=I.W.n<|bb _
 freeC:=λx c e=>I.freeC x c<|C x c e
 pin:=λp G=>by
  rw[c9] at G;refine Jk (I.pin p G) λe n Q nf d=>?_;refine⟨kp _ _ e,n,b0<|aS e,λz=>?_,d⟩;rcases a9.mp (I.LC _ z) with q|q
  .exact Q q
  exact nf q
 W:=I.W.we kp
 mt:=by
  show(dA k _++cap.map λj=>(σ[j]?).join).length=N'.length
  have:=J.length
  rw[<-hN,kr] at this
  simp
  lia
end
theorem Qd(I:am X π σ HE sE)(C:am X π σ' H' s')(U:H' sE.heap.objs.size=none)
  (J:kA sE.heap.objs.size s'.heap h'):am X π σ' H' { s' with heap:=h'}:=by
 refine C.turned (λb o a e=>(J.2 b a).trans e) U (rX I.lt) (.inr I.sz) (λx c e z=>?_) λp d z=>?_
 .obtain⟨v,q⟩:=I.cell x c e;exact absurd q.lt (by rw[z];exact fS _)
 exact absurd (aS (I.pin p d).1) (by rw[z];exact fS _)
def WX(X:Cx)(o:List Expr)(t:TT):Prop:=
 ∀(b:Zp) (s:a7) (a:St) (H:Hp) (Q:Bool->Hp->Prop),am X b a H s->t a H Q->
  cb (cK X.p X.w) X.A (forIn o true λc r=>if r=true then do let ok<-isTrue c X.d (eval c X.d);pure (tJ ok) else pure (tJ r)) (TP X b a Q) X.g s
def LY:TT:=λ_ H Q=>Q true H
theorem VA:WX X [] LY:=λ_ _ _ H _ I q=>wpAny_tests_nil ⟨H,I,q⟩
noncomputable def sh(k:Nat)(cap:List Nat)(o:St):St:=dA k none++cap.map λj=>(o[j]?).join
def MA(J:It)(k:Nat)(cap:List Nat)(g:TG)(tt:TT)(C:TE)(o:St)(H1:Hp)(l:Addr)(Q:VK):Prop:=
 ∃W:Nat->Nat->List V->Hp->Prop,(∃m,W 0 m []<|upd H1 l<|.P [])/\∀i m ys H,W i m ys H->
  (J.s i H/\Q (.r l) H)\/(J.Y i H/\∀x H',J.y i H x H'->g x (sh k cap o) H' λa e=>a.drop k=(sh k cap o).drop k/\tt a e λb d=>
   if b=true then C a d λy c=>c l=some (.P ys)/\ys.length<aw/\∃m',m'<m/\W (i+1) m' (ys++[y]) (upd c l<|.P<|ys++[y])
   else ∃m',m'<m/\W (i+1) m' ys d)
def Vo(k:Nat)(cap:List Nat)(wi:TI)(g:TG)(tt:TT)(o:TE):TE:=λa H Q=>wi a H λJ H1=>∀l,H1 l=none->MA J k cap g tt o a H1 l Q
theorem Oq(hcalm:X.f=true)(S:vu sc scope caps)(hsc:X.d.scope=sc)(hN:N'.drop k=caps)(hk:k<=N'.length)(hcap:kL (λj x=>X.N[j]? = some x) cap caps)
  (hi:PI fE X tg iter wi) (hg:∀cl C U HE fp π,PG (dh X N' scope cl C U HE fp π) tg g) (ht:∀cl C U HE fp π,WX (dh X N' scope cl C U HE fp π) ifs tt) (he:∀cl C U HE fp π,PE (dh X N' scope cl C U HE fp π) elt te)
  (I:am X π σ H s) (h:Vo k cap wi g tt te σ H Q) (hc1:∀x c,cl.lookup x=some c->X.d.cells.lookup x=some c) (hc2:∀y∈scope.names,y.2=.free->∃c,cl.lookup y.1=some c)
  {RR:aI->Addr->Result->a7->Prop}
  (hRR:∀l U HE H' s' m,am X π σ HE U->am X π σ H' s'->H' U.heap.objs.size=none->s'.heap.Ns U.heap.objs.size m->Q (.r l) H'->RR (.ref l) U.heap.objs.size (.ok .next) s'):
  cb (cK X.p X.w) X.A (eval iter X.d) (λxv s₁=>cb (cK X.p X.w) X.A (pyIter xv) (λit s₂=>cb (cK X.p X.w) X.A (newList []) (λacc s₃=>
   cb (cK X.p X.w) X.A (newFunctionEnv scope X.d.globals cl [] X.d.qual none .none<|some X.d) (λcenv s₄=>
    A7 (cK X.p X.w) X.A (.compStart (.ListComp elt [⟨tg,iter,ifs,0⟩] scope pos) 0 it acc { cenv with scope:=relabel scope X.d}) (RR acc cenv.locals) s₄) X.g s₃) X.g s₂) X.g s₁) X.g s:=by
 refine ce (hi π s σ H _ I h) λv s1 h1=>ce h1 λitv s2 h2=>?_;refine Z_56 h2 λit fp tn J H1 e I1 T st1 f1 q1=>?_;subst e;refine wpAny_newList ?_;have L:=I1.W.n<|bb _;have fpl:∀b∈fp,b<s2.heap.objs.size:=λb a=>by
  refine oj (T.c _ _ st1 b a) λo e _=>?_;exact aS e
 generalize hE:({ s2 with heap:=s2.heap.push _ }:a7)=U;have k2:∀b o,s2.heap.get? b=some o->U.heap.get? b=some o:=λb o e=>by rw[<-hE];exact ah _ e
 have szE:s2.heap.objs.size<U.heap.objs.size:=by rw[<-hE];show _<(s2.heap.push _).objs.size;rw[A1];exact zi _
 have IE:am X π σ (upd H1 s2.heap.objs.size<|.P []) U:=by
  rw[<-hE];refine I1.laid (λb o e=>ah _ e) (bb _) ?_;exact⟨eK _,[],0,.nil,bp _ rfl⟩
 have K:∀b∈fp,CG X π (upd H1 s2.heap.objs.size<|.P []) b/\b<U.heap.objs.size:=λb a=>
  ⟨⟨by rw[bf<|b0<|fpl b a];exact(f1 b a).1,(f1 b a).2⟩,Nat.lt_trans (fpl b a) szE⟩
 refine oj (q1 _ L) λW zq1 turn=>?_;obtain⟨m0,w0⟩:=zq1;generalize hl:s2.heap.objs.size=l at *;clear hl;generalize hHE:upd H1 l _=HE at *;refine wpAny_newFunctionEnv S.n (by intro y hy;simp at hy) (λG B D=>?_) S.k;have kE:∀b o,U.heap.get? b=some o->G.get? b=some o:=λb o e=>(D.2 b<|b0<|aS e).trans<|ah _ e;have Z:=WE IE S hsc K hc1 hc2 hN hk hcap kE B<|U.toks+([]:List (Str×aI)).length;have st0:=T.Z _ _ _ st1 λb a o e=>kE b o<|k2 b o e;have hX:∀{H':Hp},(∀b∈fp,H' b=none)->∀b∈fp,CG _ [] H' b:=λhn b a=>
  ⟨hn b a,(Z.R.r b a).1,Z.R.l b a,.inl a,(Z.R.r b a).2,λp hp=>by
   rw[c9] at hp;exact(K b a).1.2.2.2.2.2 p hp⟩
 have F:∀s₃:a7,s₃={ U with heap:=G,toks:=U.toks+([]:List (Str×aI)).length}->
   A7 (cK X.p X.w) X.A (.compLoop (.ListComp elt [⟨tg,iter,ifs,0⟩] scope pos) 0 (.ref it) (.ref l)<|compEnvC scope cl U.heap.objs.size X.d) (RR (.ref l) U.heap.objs.size) s₃:=by
  rintro s₃ rfl;refine codeAny_loop rfl (λn s'=>∃i M H',am (dh X N' scope cl U.heap.objs.size U HE fp π) [] (sh k cap σ) H' s'/\tn i s'.heap/\(∀b∈fp,H' b=none)/\W i n M H') (λn s3 hI=>?_) m0
   ⟨0,[],HE,Z,st0,λb a=>(K b a).1.1,w0⟩
  refine Va hI λi M H3 I3 R fr3 w3=>?_;show cb _ X.A ((compTurn (.ListComp elt [⟨tg,iter,ifs,0⟩] scope pos) 0 (.ref it) (.ref l)<|compEnvC scope cl U.heap.objs.size X.d).onRaise (λx=>do noteFrame x (compEnvC scope cl U.heap.objs.size X.d);theTreesLotGoes x)) _ _ s3;refine wpAny_noted ?_;rw[compTurn_list];refine ae<|mM<|ae ?_;rcases turn i n M H3 w3 with⟨Y,qn⟩|⟨go,step⟩
  .refine gN (T.d (dh X N' scope cl U.heap.objs.size U HE fp π) rfl rfl rfl hcalm i [] s3 _ H3 (λ_ _=>False) I3 (hX fr3) R Y) (λr s4 zz0=>?_) λ_ _ z=>z.elim;obtain⟨hr,P⟩:=zz0;subst hr;refine oj P.loc λm4 hn4 _=>?_;exact av<|hRR l U HE H3 s4 m4 IE ((IE.call' P.os P.T P.W P.LE λb a=>⟨(K b a).1.2.2.2.1,(K b a).1.2.1,(K b a).1.2.2.2.2.1,(K b a).1.2.2.2.2.2⟩)) P.Y hn4 qn
  refine gN (T.a (dh X N' scope cl U.heap.objs.size U HE fp π) rfl rfl rfl hcalm i [] s3 _ H3 (λ_ _=>False) I3 (hX fr3) R go) (λr s4 zz0=>?_) λ_ _ z=>z.elim;refine oj zz0 λu hr h4=>?_;subst hr;refine ae<|gN h4 (λ_ s5 zz0=>?_) λ_ _ z=>z.elim;refine Z' zz0 λx H5 I5 r5 y5 O fr5=>?_;have I5':=I5.pinned (hX fr5)<|T.c _ _ O;refine ae<|gN (hg _ _ _ _ _ _ _ s5 _ H5 x u _ I5' r5<|step x H5 y5) (λ_ s6 zz0=>?_) λ_ _ z=>z.elim;refine Y' zz0 λq H6 I6 q6=>?_;obtain⟨d6,q6⟩:=q6;have weak:∀{t s7},am (dh X N' scope cl U.heap.objs.size U HE fp π) ([]++zN fp s5.heap) q t s7->am (dh X N' scope cl U.heap.objs.size U HE fp π) ([]++zN fp s5.heap) (sh k cap σ) t s7:=λ{t s7} E=>by
   refine E.weak (Z.mt.trans E.mt.symm) λj v e=>?_;by_cases z:k<=j
   .obtain⟨j',rfl⟩:∃j',j=k+j':=⟨j-k,by omega⟩;rw[<-v3] at e ⊢;rw[d6];exact e
   unfold sh at e;rw[dr (by simp;lia),gS,if_pos<|by lia] at e;cases e
  have f:∀{t:Hp} {s7:a7} {zs:List V},am (dh X N' scope cl U.heap.objs.size U HE fp π) ([]++zN fp s5.heap) q t s7->(∃m',m'<n/\W (i+1) m' zs t)->
    ∃m,m<n/\∃i M H',am (dh X N' scope cl U.heap.objs.size U HE fp π) [] (sh k cap σ) H' s7/\tn i s7.heap/\(∀b∈fp,H' b=none)/\W i m M H':=λ{t s7 zs} E ⟨m',hm,w7⟩=>by
   refine⟨m',hm,i+1,zs,t,(weak E).Bo,T.Z _ _ _ O λb a o e=>(E.pin (b,o)<|eD _<|eD _<|wj a e).1,λb a=>?_,w7⟩;refine oj (T.c _ _ O b a) λo e d=>?_;exact(E.pin (b,o)<|eD _<|eD _<|wj a e).2.1
  refine ae<|gN (ht _ _ _ _ _ _ _ s6 q H6 _ I6 q6) (λb s7 zz0=>?_) λ_ _ z=>z.elim;refine oj zz0 λt E q7=>?_;cases b with
  |false=>
   rw[if_neg a8] at q7;exact av ⟨rfl,f E q7⟩
  |true=>
   rw[if_pos rfl] at q7;refine ae<|ae<|gN (he _ _ _ _ _ _ _ s7 q t _ E q7) (λyv s8 zz0=>?_) λ_ _ z=>z.elim;refine Z' zz0 λy H8 I8 r8 hl8 hz8 q8=>?_;refine ae (gN (Cq (X:=dh X N' scope cl U.heap.objs.size U HE fp π) _ s8 q H8 (.r l) [y] (.ref l) [yv] (λ_ H9=>H9=upd H8 l (.P<|M++[y])) I8 rfl (.cons r8 .nil) ⟨l,M,y,rfl,rfl,hl8,hz8,rfl⟩)
    (λ_ s9 zz0=>?_) λ_ _ z=>z.elim)
   refine Y_ zz0 λ_ H9 I9 _ e9=>?_;subst e9;exact av<|av ⟨rfl,f I9 q8⟩
 exact codeAny_compStart_list (F _ rfl)<|T.e _ 0 _ _ _ st0<|F _ rfl
theorem S1 sc N' o k cap(J:X.f=true)(S:vu sc scope o)(hcap:kL (λj x=>X.N[j]? = some x) cap o)
  (hi:PI fE X tg iter wi) (hg:∀cl C sE HE fp U,PG (dh X N' scope cl C sE HE fp U) tg g) (ht:∀cl C sE HE fp U,WX (dh X N' scope cl C sE HE fp U) ifs tt) (he:∀cl C sE HE fp U,PE (dh X N' scope cl C sE HE fp U) elt te)
  (hsc:autoParam (X.d.scope=sc) YO) (hN:autoParam (N'.drop k=o) YO) (hk:autoParam (k<=N'.length) YI) (hs:autoParam (∀x,ip iter X.d x=pure x) YN):
  PE X (.ListComp elt [⟨tg,iter,ifs,0⟩] scope pos) (Vo k cap wi g tt te):=by
 intro U s v H Q I h;refine o5 (Ec λy n e=>I.R.q _ (by
  have z:=S.Y y n e;rw[<-hsc] at z;exact z)) λcl b d c=>?_
 refine xC rfl hs b S.k S.loc<|Oq J S hsc hN hk hcap hi hg ht he I h d c ?_;intro l sE HE H' u m p i r a q;exact⟨m,a,λt f=>⟨.r l,H',Qd p i r f,rfl,q⟩⟩
theorem Hu sc N' o k cap(hnd:X.N.Nodup)(hi':X.N[i]? = some y)(hy:k6 X.d.scope y)(U:X.f=true)(S:vu sc scope o)(hcap:kL (λj x=>X.N[j]? = some x) cap o)
  (hi:PI fE X tg iter wi) (hg:∀cl C sE HE fp J,PG (dh X N' scope cl C sE HE fp J) tg g) (ht:∀cl C sE HE fp J,WX (dh X N' scope cl C sE HE fp J) ifs tt) (he:∀cl C sE HE fp J,PE (dh X N' scope cl C sE HE fp J) elt te)
  (δ:autoParam (eM (.ListComp elt [⟨tg,iter,ifs,0⟩] scope pos) (some<|.Name y py) spos.line X.d=pure true) YO)
  (hsc:autoParam (X.d.scope=sc) YO) (hN:autoParam (N'.drop k=o) YO) (hk:autoParam (k<=N'.length) YI) (hs:autoParam (∀x,ip iter X.d x=pure x) YN)
  (hf:autoParam (X.i y=true\/X.d.scope.names.lookup y=some .local) iv):
  PS X (.Assign [.Name y py] (.ListComp elt [⟨tg,iter,ifs,0⟩] scope pos) spos) (ZZ (Vo k cap wi g tt te)<|HX i):=by
 intro J s R H D I h;refine o5 (Ec λy hy e=>I.R.q _ (by
  have z:=S.Y y hy e;rw[<-hsc] at z;exact z)) λcl n r t=>?_
 rw[exec_Assign_Name_used _ _ _ _ δ];refine ae<|mM<|ae ?_;refine ae (gN (xC rfl hs n S.k S.loc
  (Oq U S hsc hN hk hcap hi hg ht he I h r t ?_)) (λ_ b F=>av<|av F) λ_ _ e=>e)
 intro l sE HE H' b m B L M d q;show cb _ _ _ _ _ _;refine wpAny_assign_Name<|Jr L hnd hi' hy (v:=.r l) rfl (λP K G=>?_) hf;refine oj G λa f E=>?_;have c:sE.heap.objs.size≠a:=λz=>by
  rcases E with e|e
  .exact absurd B.lt (by rw[<-e,<-z];exact fS _)
  obtain⟨v,q⟩:=B.cell y a e;exact absurd q.lt (by rw[z];exact fS _)
 exact⟨m,d.sameBut f c,λO u=>⟨_,H',Qd B K M u,q⟩⟩
inductive za(K:bg)(H:Hp):V->aI->Prop where
 |c {v:V} {t:aI}:CT K H v t->za K H v t
 |w {a:Addr} {xs:List V}:h_ K H a xs->za K H (.r a) (.type "tuple")
 |P {a:Addr} {xs:List V}:eO K H a xs->za K H (.r a) (.type "list")
def MX(K:bg):List V->Hp->VK->Prop:=λxs H Q=>∃x c t cv b,xs=[x,c]/\D6 c=some cv/\za K H x t/\h9 K t cv=some b/\Q (.B b) H
theorem V3:jf X (.builtin "isinstance") (MX X.K):=by
 intro l s v H i p Q I r h;refine Z_55 h λx c t m b zq5 j ty e q=>?_;subst zq5;refine Y_ (ms r) λu w zq2 ru d=>?_;subst zq2;have z:=Oj j d;subst z;cases ty with
 |c ty=>exact W0 I ru ty e λtk=>⟨.B b,H,I.tok _,rfl,q⟩
 | @w a i hs=>
  cases(show u=cq a from ru);refine o5 (I.Id hs) λk _ zq2 _=>?_;obtain⟨o,g,f,_⟩:=zq2;exact kg W.kitx_tuple I.kIn ⟨o,g,f⟩ e (λz=>nomatch z) λtk=>⟨.B b,H,I.tok _,rfl,q⟩
 | @P a i hs=>
  cases(show u=cq a from ru);refine o5 (I.IO hs) λk _ zq2 _=>?_;obtain⟨o,n,g,f,_⟩:=zq2;exact kg W.kitx_list I.kIn ⟨o,g,f⟩ e (λz=>nomatch z) λtk=>⟨.B b,H,I.tok _,rfl,q⟩
theorem Rd.T(h:Rd H a u)(g:aD H H'):Rd H' a u:=h.elim (λe=>.inl<|g _ _ e) (by rintro ⟨o,e⟩;exact .inr ⟨o,g _ _ e⟩)
theorem Qg{K:bg}(h:eO K H a xs)(g:aD H H'):eO K H' a xs:=h.elim (λe=>.inl<|Rd.T e g) .inr
def g3(l:Addr)(H H':Hp):Prop:=∀b u,b≠l->H b=some u->H' b=some u
theorem ND(g:aD H H'):g3 l H H':=λb u _ e=>g b u e
theorem g3.t(a:g3 l H H1)(b:g3 l H1 H2):g3 l H H2:=λc u n e=>b c u n<|a c u n e
theorem VI(g:g3 l H H')(n:H l=none):aD H H':=λb u e=>g b u (λz=>by rw[z,n] at e;cases e) e
def A'(K:bg):V->List V->Hp->VK->Prop:=λx a H Q=>∃z l zs,x=.p z/\a=[.r l]/\eO K H l (zs.map V.p)/\DD z zs=true/\Q (.p<|BY z zs) H
theorem Nt:∀{zs:List Str} {us:List aI},a_ (zs.map V.p) us->∃l,us=strValues l/\l.map (·.1)=zs
 |[],_,.nil=>⟨[],rfl,rfl⟩
 |z::zs,_,.cons r t=>by
  obtain⟨tk,rfl⟩:=r;refine oj (Nt t) λl zq1 e=>?_;subst zq1;exact⟨(z,tk)::l,rfl,by rw[ar,e]⟩
theorem VW  K (o:autoParam (X.K=K) YO):z5 X "str.join" (A' K):=by
 subst o;intro g s m H x p v j Q I a f h;refine ZY h λz l i zq3 zq4 d ok q=>?_;subst zq3;subst zq4;obtain⟨t,rfl⟩:=a;refine oj f.p λu zq1 ru=>?_;subst zq1;subst ru;refine o5 (I.IO d) λw r b _=>?_;refine oj (Nt r) λn zq1 e=>?_;subst zq1;exact SC.join b.isList e ok λc k=>⟨.p _,H,I.tok _,⟨c,rfl⟩,q⟩
end Hd
namespace F
open PySem PySem.Spec PyProof.Rows L2 Hd
inductive D where
 |E|B (b:Bool)|l (i:Int)|p (x:Str)|A (c:Str) (ns:List Str) (ds:List D)
 |w (xs:List D)|P (xs:List D)
 |L (ks:List er) (vs:List D)|F (ks:List (List Kt)) (vs:List D)
  |Q (ks:List (List Kt)) (vs:List D)
  |J (a:Addr)
  |M (c:Str) (ns:List Str) (vs:List D)
theorem i2_{f:Int->Int->Option α}{d e:D}{r:α}(h:(match d,e with|.l i,.l j=>f i j|_,_=>none)=some r):∃i j,d=.l i/\e=.l j/\f i j=some r:=by
 split at h
 .exact⟨_,_,rfl,rfl,h⟩
 cases h
theorem i1_{f:List D->Option α}{g:List D}{r:α}(h:(match g with|[.P k]=>f k|_=>none)=some r):∃k,g=[.P k]/\f k=some r:=by
 split at h
 .exact⟨_,rfl,h⟩
 cases h
abbrev Xn:=Str×List Str×List D
inductive bd(α:Type) where
 |R (a:α)|A (c:Xn)|b
def bd.s{C o:Type}(r:bd C)(f:C->bd o):bd o:=match r with
 | .R a=>f a
 | .A c=>.A c
 | .b=>.b
@[simp] theorem bd.y a(f:α->bd β):(bd.R a).s f=f a:=rfl
@[simp] theorem bd.ago c(f:α->bd β):(bd.A c:bd α).s f=.A c:=rfl
@[simp] theorem bd.afd(f:α->bd β):(bd.b:bd α).s f=.b:=rfl
def b6{o:Type}:Option o->bd o
 |some a=>.R a
 |none=>.b
@[simp] theorem vy(a:α):b6 (some a)=.R a:=rfl
@[simp] theorem X_:b6 (none:Option α)=.b:=rfl
structure Gx where
 K:bg
 m:eR
abbrev gx(X:Cx):Gx:=⟨X.K,X.m⟩
def MO(K:bg)(a:Addr)(xs:List V):Prop:=
 ∃(o:Obj) (b:Array aI) (n:Nat),K.lookup a=some o/\o.cls=.type "list"/\o.dict=none/\o.data=.seq b n/\b.size<=aw/\a_ xs b.toList
def kv(K:bg)(O:hD)(H:Hp)(a:Addr)(xs:List V):Prop:=(¬O a/\Rd H a (.P xs))\/MO K a xs
def XO(H:Hp)(od:Option Addr)(fs:List (Str×V)):Prop:=(fs=[]/\od=none)\/∃a q,od=some a/\H a=some (.b q<|.a fs)
mutual
inductive DV(G:Gx)(O:hD)(H:Hp):V->D->Prop where
 |E:DV G O H .E .E
 |B (b:Bool):DV G O H (.B b) (.B b)
 |l (i:Int):DV G O H (.l i) (.l i)
 |p (x:Str):DV G O H (.p x) (.p x)
 |J (a:Addr):DV G O H (.r a) (.J a)
 |M {a C dx:Addr} {c:Str} {ι:List (Str×V)} {ns:List Str} {vs:List V} {ds:List D}:¬O a->G.m c=some (.ref C)->H a=some (.M C dx ι)->ι.map (·.1)=ns->ι.map (·.2)=vs->bi G O H vs ds->DV G O H (.r a) (.M c ns ds)
 |A {a C:Addr} {c:Str} {ox:Obj} {fs:List (Str×V)} {ns:List Str} {vs:List V} {ds:List D}:G.m c=some (.ref C)->H a=some (.b ox (.e (vm a (.ref C))))->XO H ox.dict fs->fs.map (·.1)=ns->fs.map (·.2)=vs->bi G O H vs ds->DV G O H (.r a) (.A c ns ds)
 |w {a:Addr} {xs:List V} {ds:List D}:lz G.K H a xs->bi G O H xs ds->DV G O H (.r a) (.w ds)
 |P {a:Addr} {xs:List V} {ds:List D}:kv G.K O H a xs->bi G O H xs ds->DV G O H (.r a) (.P ds)
 |L {a:Addr} {ι:List (er×V)} {ks:List er} {vs:List V} {ds:List D}:¬O a->Rd H a (.c ι)->ι.map (·.1)=ks->ι.map (·.2)=vs->bi G O H vs ds->DV G O H (.r a) (.L ks ds)
 |F {a:Addr} {ι:List (List Kt×V)} {ks:List (List Kt)} {vs:List V} {ds:List D}:¬O a->H a=some (.d (ew G.K) ι)->ι.map (·.1)=ks->ι.map (·.2)=vs->bi G O H vs ds->DV G O H (.r a) (.F ks ds)
 |Q {a:Addr} {o:Obj} {ι:List (List Kt×V)} {ks:List (List Kt)} {vs:List V} {ds:List D}:H a=some (.b o (.d (ew G.K) ι))->ι.map (·.1)=ks->ι.map (·.2)=vs->bi G O H vs ds->DV G O H (.r a) (.Q ks ds)
inductive bi(G:Gx)(O:hD)(H:Hp):List V->List D->Prop where
 |f:bi G O H [] []
 |e {v:V} {vs:List V} {d:D} {ds:List D}:DV G O H v d->bi G O H vs ds->bi G O H (v::vs) (d::ds)
end
def XP(G:Gx)(H:Hp)(c:Xn)(C:Addr×Option Addr):Prop:=G.m c.1=some (.ref C.1)/\∃fs a,XO H C.2 fs/\fs.map (·.1)=c.2.1/\fs.map (·.2)=a/\∀O,bi G O H a c.2.2
def OV(G:Gx)(O:hD)(H:Hp)(a:Addr):D->Prop
 | .P ds=>∃xs,H a=some (.P xs)/\bi G O H xs ds
 | .L ks ds=>∃ι b,H a=some (.c ι)/\ι.map (·.1)=ks/\ι.map (·.2)=b/\bi G O H b ds
 | .F ks ds=>∃ι b,H a=some (.d (ew G.K) ι)/\ι.map (·.1)=ks/\ι.map (·.2)=b/\bi G O H b ds
 | .M c ns ds=>∃C d ι b,G.m c=some (.ref C)/\H a=some (.M C d ι)/\ι.map (·.1)=ns/\ι.map (·.2)=b/\bi G O H b ds
 |_=>False
def DW(G:Gx)(O:hD)(H:Hp)(v:V)(d:D):Prop:=DV G O H v d\/∃a,v=.r a/\O a/\OV G O H a d
inductive vr(G:Gx)(O:hD)(H:Hp):List V->List D->Prop where
 |f:vr G O H [] []
 |e {v:V} {vs:List V} {d:D} {ds:List D}:DW G O H v d->vr G O H vs ds->vr G O H (v::vs) (d::ds)
def jc(o:Option HO):Prop:=(∃xs,o=some (.P xs))\/(∃k,o=some (.c k))\/(∃k:(Addr->List V->Prop)×List (List Kt×V),o=some (.d k.1 k.2))\/∃k:Addr×Addr×List (Str×V),o=some (.M k.1 k.2.1 k.2.2)
def Kp(O:hD)(H H':Hp):Prop:=∀b o,H b=some o->¬O b->H' b=some o
theorem GH(g:Kp O H H')(n:¬O a)(e:Rd H a u):Rd H' a u:=e.imp (λe=>g _ _ e n) (by rintro ⟨o,e⟩;exact ⟨o,g _ _ e n⟩)
theorem MD(g:aD H H')(e:Rd H a u):Rd H' a u:=e.imp (g _ _) (by rintro ⟨o,e⟩;exact ⟨o,g _ _ e⟩)
theorem GU(e:Rd H a u)(z:H a=none):False:=by rcases e with e|⟨_,e⟩<;>(rw[z] at e;cases e)
theorem Kp.c(g:aD H H'):Kp O H H':=λb o e _=>g b o e
theorem qQ{O:hD}{H:Hp}(m:∀b,O b->jc (H b))(e:H a=some o)(n:¬jc (some o)):¬O a:=λz=>n<|e▸m a z
theorem Uo:¬jc (some<|.w xs):=by rintro(⟨_,e⟩|⟨_,e⟩|⟨_,e⟩|⟨_,e⟩)<;>cases e
theorem vA:¬jc (some<|.b o u):=by rintro(⟨_,e⟩|⟨_,e⟩|⟨_,e⟩|⟨_,e⟩)<;>cases e
theorem Pd{K:bg}(m:∀b,O b->jc (H b))(g:Kp O H H')(h:h_ K H a xs):h_ K H' a xs:=by
 rcases h with(e|⟨o,e⟩)|h
 .exact .inl<|.inl<|g a _ e<|qQ m e Uo
 .exact .inl<|.inr ⟨o,g a _ e<|qQ m e vA⟩
 exact .inr h
theorem II{K:bg}(m:∀b,O b->jc (H b))(g:Kp O H H')(h:lz K H a xs):lz K H' a xs:=by
 rcases h with e|h
 .exact .inl<|g a _ e<|qQ m e Uo
 exact .inr h
theorem ZF{K:bg}(h:lz K H a xs)(g:aD H H'):lz K H' a xs:=h.imp (g _ _) id
theorem Bv{K:bg}(g:Kp O H H')(h:kv K O H a xs):kv K O H' a xs:=by
 rcases h with⟨n,e|⟨o,e⟩⟩|h
 .exact .inl ⟨n,.inl<|g a _ e n⟩
 .exact .inl ⟨n,.inr ⟨o,g a _ e n⟩⟩
 exact .inr h
theorem kv.s{K:bg}(h:kv K O H a xs):eO K H a xs:=h.elim (λz=>.inl z.2) .inr
section
variable {G:Gx}{O O':hD}{H H':Hp}
mutual
theorem DV.R(m:∀b,O b->jc (H b))(g:Kp O H H'):∀{v:V} {d:D},DV G O H v d->DV G O H' v d
 |_,_,.E=>.E
 |_,_,.B b=>.B b
 |_,_,.l i=>.l i
 |_,_,.p x=>.p x
 |_,_,.J a=>.J a
 |_,_,.A h e x a b hs=>.A h (g _ _ e<|qQ m e vA) (x.imp id λ⟨d,q,z,y⟩=>⟨d,q,z,g _ _ y<|qQ m y vA⟩) a b<|bi.R m g hs
 |_,_,.w h hs=>.w (II m g h)<|bi.R m g hs
 |_,_,.P h hs=>.P (Bv g h)<|bi.R m g hs
 |_,_,.L n e a b hs=>.L n (GH g n e) a b<|bi.R m g hs
 |_,_,.F n e a b hs=>.F n (g _ _ e n) a b<|bi.R m g hs
 |_,_,.Q e a b hs=>.Q (g _ _ e<|qQ m e vA) a b<|bi.R m g hs
 |_,_,.M n c e a b hs=>.M n c (g _ _ e n) a b<|bi.R m g hs
theorem bi.R(m:∀b,O b->jc (H b))(g:Kp O H H'):∀{o:List V} {ds:List D},bi G O H o ds->bi G O H' o ds
 |_,_,.f=>.f
 |_,_,.e h hs=>.e (DV.R m g h)<|bi.R m g hs
end
mutual
theorem DV.T(g:aD H H'):∀{v:V} {d:D},DV G O H v d->DV G O H' v d
 |_,_,.E=>.E
 |_,_,.B b=>.B b
 |_,_,.l i=>.l i
 |_,_,.p x=>.p x
 |_,_,.J a=>.J a
 |_,_,.A h e x a b hs=>.A h (g _ _ e) (x.imp id λ⟨d,q,z,y⟩=>⟨d,q,z,g _ _ y⟩) a b<|bi.T g hs
 |_,_,.w h hs=>.w (ZF h g)<|bi.T g hs
 |_,_,.P h hs=>.P (Bv (.c g) h)<|bi.T g hs
 |_,_,.L n e a b hs=>.L n (MD g e) a b<|bi.T g hs
 |_,_,.F n e a b hs=>.F n (g _ _ e) a b<|bi.T g hs
 |_,_,.Q e a b hs=>.Q (g _ _ e) a b<|bi.T g hs
 |_,_,.M n c e a b hs=>.M n c (g _ _ e) a b<|bi.T g hs
theorem bi.T(g:aD H H'):∀{o:List V} {ds:List D},bi G O H o ds->bi G O H' o ds
 |_,_,.f=>.f
 |_,_,.e h hs=>.e (DV.T g h)<|bi.T g hs
end
mutual
theorem DV.N(s:∀b,O' b->O b\/H b=none):∀{v:V} {d:D},DV G O H v d->DV G O' H v d
 |_,_,.E=>.E
 |_,_,.B b=>.B b
 |_,_,.l i=>.l i
 |_,_,.p x=>.p x
 |_,_,.J a=>.J a
 |_,_,.A h e x a b hs=>.A h e x a b<|bi.N s hs
 |_,_,.w h hs=>.w h<|bi.N s hs
 |_,_,.P h hs=>.P (h.elim (λz=>.inl ⟨λo=>(s _ o).elim z.1 λn=>by rcases z.2 with e|⟨_,e⟩<;>(rw[n] at e;cases e),z.2⟩) .inr) (bi.N s hs)
 |_,_,.L n e a b hs=>.L (λo=>(s _ o).elim n λz=>GU e z) e a b<|bi.N s hs
 |_,_,.F n e a b hs=>.F (λo=>(s _ o).elim n λz=>by rw[z] at e;cases e) e a b (bi.N s hs)
 |_,_,.Q e a b hs=>.Q e a b<|bi.N s hs
 |_,_,.M n c e a b hs=>.M (λo=>(s _ o).elim n λz=>by rw[z] at e;cases e) c e a b (bi.N s hs)
theorem bi.N(s:∀b,O' b->O b\/H b=none):∀{o:List V} {ds:List D},bi G O H o ds->bi G O' H o ds
 |_,_,.f=>.f
 |_,_,.e h hs=>.e (DV.N s h)<|bi.N s hs
end
def Ev(O:hD)(H:Hp)(O':hD)(H':Hp):Prop:=(∀b,O' b->O b\/H b=none)/\Kp O H H'
mutual
theorem DV.Y(m:∀b,O b->jc (H b))(g:Ev O H O' H'):∀{v:V} {d:D},DV G O H v d->DV G O' H' v d
 |_,_,.E=>.E
 |_,_,.B b=>.B b
 |_,_,.l i=>.l i
 |_,_,.p x=>.p x
 |_,_,.J a=>.J a
 |_,_,.A h e x a b hs=>.A h (g.2 _ _ e<|qQ m e vA) (x.imp id λ⟨d,q,z,y⟩=>⟨d,q,z,g.2 _ _ y<|qQ m y vA⟩) a b<|bi.Y m g hs
 |_,_,.w h hs=>.w (II m g.2 h)<|bi.Y m g hs
 |_,_,.P h hs=>.P (h.elim (λz=>.inl ⟨λo=>(g.1 _ o).elim z.1 λn=>by rcases z.2 with e|⟨_,e⟩<;>(rw[n] at e;cases e),(Bv g.2 (.inl z):kv G.K O H' _ _).elim (λy=>y.2) λy=>z.2.elim (λe=>.inl<|g.2 _ _ e z.1) λ⟨o,e⟩=>.inr ⟨o,g.2 _ _ e z.1⟩⟩) .inr) (bi.Y m g hs)
 |_,_,.L n e a b hs=>.L (λo=>(g.1 _ o).elim n λz=>GU e z) (GH g.2 n e) a b<|bi.Y m g hs
 |_,_,.F n e a b hs=>.F (λo=>(g.1 _ o).elim n λz=>by rw[z] at e;cases e) (g.2 _ _ e n) a b (bi.Y m g hs)
 |_,_,.Q e a b hs=>.Q (g.2 _ _ e<|qQ m e vA) a b<|bi.Y m g hs
 |_,_,.M n c e a b hs=>.M (λo=>(g.1 _ o).elim n λz=>by rw[z] at e;cases e) c (g.2 _ _ e n) a b (bi.Y m g hs)
theorem bi.Y(m:∀b,O b->jc (H b))(g:Ev O H O' H'):∀{o:List V} {ds:List D},bi G O H o ds->bi G O' H' o ds
 |_,_,.f=>.f
 |_,_,.e h hs=>.e (DV.Y m g h)<|bi.Y m g hs
end
theorem OV.N(s:∀b,O' b->O b\/H b=none)(h:OV G O H a d):OV G O' H a d:=by
 cases d with
 |P ds=>refine oj h λl e f=>?_;exact⟨l,e,f.N s⟩
 |L ks ds=>refine ZE h λk v e g i f=>?_;exact⟨k,v,e,g,i,f.N s⟩
 |F ks ds=>refine ZE h λk v e g i f=>?_;exact⟨k,v,e,g,i,f.N s⟩
 |M c ns ds=>refine ZH h λC j k v m e g i f=>?_;exact⟨C,j,k,v,m,e,g,i,f.N s⟩
 |_=>exact h.elim
theorem OV.T(g:aD H H')(h:OV G O H a d):OV G O H' a d:=by
 cases d with
 |P ds=>refine oj h λj e b=>?_;exact⟨j,g _ _ e,b.T g⟩
 |L ks ds=>refine ZE h λk v e i f b=>?_;exact⟨k,v,g _ _ e,i,f,b.T g⟩
 |F ks ds=>refine ZE h λk v e i f b=>?_;exact⟨k,v,g _ _ e,i,f,b.T g⟩
 |M c ns ds=>refine ZH h λC l k v m e i f b=>?_;exact⟨C,l,k,v,m,g _ _ e,i,f,b.T g⟩
 |_=>exact h.elim
theorem OV.R(m:∀b,O b->jc (H b))(g:Kp O H H')(o:H' a=H a)(h:OV G O H a d):OV G O H' a d:=by
 cases d with
 |P ds=>refine oj h λn e f=>?_;exact⟨n,o.trans e,f.R m g⟩
 |L ks ds=>refine ZE h λk v e i j f=>?_;exact⟨k,v,o.trans e,i,j,f.R m g⟩
 |F ks ds=>refine ZE h λk v e i j f=>?_;exact⟨k,v,o.trans e,i,j,f.R m g⟩
 |M c ns ds=>refine ZH h λC l k v p e i j f=>?_;exact⟨C,l,k,v,p,o.trans e,i,j,f.R m g⟩
 |_=>exact h.elim
theorem OV.q(h:OV G O H a d):jc (H a):=by
 cases d with
 |P ds=>refine oj h λb e g=>?_;exact .inl ⟨b,e⟩
 |L ks ds=>refine Y' h λk v e _=>?_;exact .inr<|.inl ⟨k,e⟩
 |F ks ds=>refine Y' h λk v e _=>?_;exact .inr<|.inr<|.inl ⟨(_,k),e⟩
 |M c ns ds=>refine Z_43 h λC f k v _ e _=>?_;exact .inr<|.inr<|.inr ⟨(C,f,k),e⟩
 |_=>exact h.elim
theorem OV.r(n:¬O a)(h:OV G O H a d):DV G O H (.r a) d:=by
 cases d with
 |P ds=>refine oj h λj e b=>?_;exact .P (.inl ⟨n,.inl e⟩) b
 |L ks ds=>refine ZE h λk v e g f b=>?_;exact .L n (.inl e) g f b
 |F ks ds=>refine ZE h λk v e g f b=>?_;exact .F n e g f b
 |M c ns ds=>refine ZH h λC l k v i e g f b=>?_;exact .M n i e g f b
 |_=>exact h.elim
theorem DW.T(g:aD H H')(h:DW G O H v d):DW G O H' v d:=h.elim (λz=>.inl<|z.T g) (by intro zr0;refine o5 zr0 λa e o z=>?_;exact .inr ⟨a,e,o,z.T g⟩)
theorem DW.w(h:DW G O H v d):DV G (λ_=>False) H v d:=by
 rcases h with h|⟨a,e,_,h⟩
 .exact h.N λ_ z=>z.elim
 subst e;exact(h.N λ_ z=>z.elim).r id
end
theorem zK(h:DW G O H v .E):v=.E:=by
 rcases h with h|⟨_,_,_,h⟩
 .cases h;rfl
 exact h.elim
theorem Ot(h:DW G O H v (.B b)):v=.B b:=by
 rcases h with h|⟨_,_,_,h⟩
 .cases h;rfl
 exact h.elim
theorem bM(h:DW G O H v (.l i)):v=.l i:=by
 rcases h with h|⟨_,_,_,h⟩
 .cases h;rfl
 exact h.elim
theorem jG(h:DW G O H v (.p x)):v=.p x:=by
 rcases h with h|⟨_,_,_,h⟩
 .cases h;rfl
 exact h.elim
theorem Rt(h:DW G O H v (.A c ns es)):∃a C,v=.r a/\G.m c=some (.ref C)/\∃o,H a=some (.b o<|.e<|vm a<|.ref C):=by
 rcases h with h|⟨_,_,_,h⟩
 .cases h with
  |A h e=>exact⟨_,_,rfl,h,_,e⟩
 exact h.elim
theorem zu(h:DW G O H v (.w ds)):∃a xs,v=.r a/\h_ G.K H a xs/\bi G O H xs ds:=by
 rcases h with h|⟨_,_,_,h⟩
 .cases h with
  |w h hs=>exact⟨_,_,rfl,h.s,hs⟩
 exact h.elim
theorem Fq(h:DW G O H v (.w ds)):∃a xs,v=.r a/\lz G.K H a xs/\bi G O H xs ds:=by
 rcases h with h|⟨_,_,_,h⟩
 .cases h with
  |w h hs=>exact⟨_,_,rfl,h,hs⟩
 exact h.elim
theorem iV(h:DW G O H v (.P ds)):∃a xs,v=.r a/\eO G.K H a xs/\bi G O H xs ds:=by
 rcases h with h|⟨a,e,_,h⟩
 .cases h with
  |P h b=>exact⟨_,_,rfl,h.s,b⟩
 refine oj h λxs c b=>?_;exact⟨a,xs,e,.inl<|.inl c,b⟩
theorem SA{K:bg}(e:Rd H a (.c ι)):QL K H a (kV k) (uD ι k):=.inl ⟨ι,k,e,rfl,rfl⟩
theorem QC(h:DW G O H v (.L ks ds)):∃a ι o,v=.r a/\Rd H a (.c ι)/\ι.map (·.1)=ks/\ι.map (·.2)=o/\bi G O H o ds:=by
 rcases h with h|⟨a,e,_,h⟩
 .cases h with
  |L n e a b c=>exact⟨_,_,_,rfl,e,a,b,c⟩
 refine ZE h λk w f g d c=>?_;exact⟨a,k,w,e,.inl f,g,d,c⟩
theorem Zv(h:DW G O H v (.F ks ds)):∃a ι o,v=.r a/\H a=some (.d (ew G.K) ι)/\ι.map (·.1)=ks/\ι.map (·.2)=o/\bi G O H o ds:=by
 rcases h with h|⟨a,e,_,h⟩
 .cases h with
  |F n e a b c=>exact⟨_,_,_,rfl,e,a,b,c⟩
 refine ZE h λk w f g d c=>?_;exact⟨a,k,w,e,f,g,d,c⟩
theorem bK:∀{o:List V} {ds:List D},bi G O H o ds->o.length=ds.length
 |_,_,.f=>rfl
 |_,_,.e _ hs=>by rw[cm,cm,bK hs]
theorem lu:∀{o us:List V} {ds es:List D},bi G O H o ds->bi G O H us es->bi G O H (o++us) (ds++es)
 |_,_,_,_,.f,h=>h
 |_,_,_,_,.e a t,h=>.e a<|lu t h
theorem Bw:∀{o:List V} {ds:List D} {i:Nat} {x:V},bi G O H o ds->o[i]? = some x->∃d,ds[i]? = some d/\DV G O H x d
 |_,_,_,_,.f,e=>by simp at e
 |_,_,0,_,.e a _,e=>by simp at e;subst e;exact⟨_,rfl,a⟩
 |_,_,i+1,x,.e _ t,e=>by
  refine oj (Bw t (e)) λd b c=>?_;exact⟨d,b,c⟩
theorem zU:∀{o:List V} {ds:List D} {i:Nat} {d:D},bi G O H o ds->ds[i]? = some d->∃x,o[i]? = some x/\DV G O H x d
 |_,_,_,_,.f,e=>by simp at e
 |_,_,0,_,.e a _,e=>by simp at e;subst e;exact⟨_,rfl,a⟩
 |_,_,i+1,d,.e _ t,e=>by
  refine oj (zU t (e)) λx b c=>?_;exact⟨x,b,c⟩
theorem BW:∀{o:List V} {ds:List D} (n),bi G O H o ds->bi G O H (o.take n) (ds.take n)
 |_,_,0,_=>by exact .f
 |_,_,_+1,.f=>.f
 |_,_,n+1,.e a t=>.e a<|BW n t
theorem Hw:∀{o:List V} {ds:List D} (n),bi G O H o ds->bi G O H (o.drop n) (ds.drop n)
 |_,_,0,h=>h
 |_,_,_+1,.f=>.f
 |_,_,n+1,.e _ t=>Hw n t
theorem MK:∀{o:List V} {ds:List D},bi G O H o ds->bi G O H o.reverse ds.reverse
 |_,_,.f=>.f
 |_,_,.e a t=>by rw[kS,kS];exact lu (MK t)<|.e a .f
noncomputable def flat:D->Bool
 | .E|.B _|.l _|.p _=>true
 |_=>false
theorem DV.U(f:flat d=true)(h:DV G O H v d):DV G O' H' v d:=by
 cases h with
 |E=>exact .E
 |B b=>exact .B b
 |l i=>exact .l i
 |p x=>exact .p x
 |_=>cases f
inductive Sl where
  |S|f (d:D)|o (d:D)|i (d:D)|b (d:D)
  |g (w:Bool) (a:Addr) (d:D)
abbrev Me:=List Sl
abbrev Os:=Nat->Option Addr
def Ow(O0:hD)(ow:Os):hD:=λb=>O0 b\/∃i,ow i=some b
def Op(O:hD)(p:Addr):hD:=λb=>O b\/b=p
noncomputable def k_(ow:Os)(i:Nat)(x:Option Addr):Os:=λj=>if j=i then x else ow j
theorem fZ:k_ ow i x i=x:=by unfold k_;rw[if_pos rfl]
theorem fB(h:j≠i):k_ ow i x j=ow j:=by unfold k_;rw[if_neg h]
def Od(G:Gx)(O M0:hD)(H0:Hp)(o:Option Addr)(v:Option (Option V))(H:Hp):Sl->Prop
 | .S=>o=none
 | .f d=>o=none/\∃x,v=some (some x)/\DV G O H x d
 | .o d=>∃a,o=some a/\H0 a=none/\v=some (some<|.r a)/\OV G O H a d
 | .i d=>∃a,o=some a/\M0 a/\v=some (some<|.r a)/\OV G O H a d
 | .b d=>o=none/\∃x,v=some (some x)/\DW G O H x d
 | .g w a d=>o=some a/\(w=true->H0 a=none)/\(w=false->M0 a)/\OV G O H a d
structure fc(G:Gx)(O0 M0:hD)(H0:Hp)(ow:Os)(σ:L2.St)(H:Hp)(m:Me):Prop where
 mt:σ.length=m.length
 Z:Kp M0 H0 H
 m0:∀b,M0 b->H b≠none
 W:∀b,Ow O0 ow b->jc (H b)
 IO:∀i a,ow i=some a->¬O0 a
 inj:∀i j a,ow i=some a->ow j=some a->i=j
 X:∀i,m.length<=i->ow i=none
 S:∀i s,m[i]? = some s->Od G (Ow O0 ow) M0 H0 (ow i) (σ[i]?) H s
structure dg(G:Gx)(O0 M0:hD)(H0:Hp)(ow:Os)(σ:L2.St)(H:Hp)(m:Me):Prop extends fc G O0 M0 H0 ow σ H m where
 nb:∀(j:Nat) (d:D),m[j]?≠some (Sl.b d)
structure Go(O0:hD)(ow:Os)(H:Hp)(ow':Os)(H':Hp):Prop where
 Z:Kp (Ow O0 ow) H H'
 O:∀i a,ow' i=some a->Ow O0 ow a\/H a=none
 f:∀b,H b≠none->H' b≠none
theorem Go.s(g:aD H H'):Go O0 ow H ow H':=
 ⟨.c g,λi a e=>.inl<|.inr ⟨i,e⟩,λb n z=>by
  cases q:H b with
  |none=>exact n q
  |some o=>rw[g b o q] at z;cases z⟩
theorem Go.t(a:Go O0 ow H C H1)(b:Go O0 C H1 I J):Go O0 ow H I J where
 Z:=λc o e n=>b.Z c o (a.Z c o e n) λz=>by
  rcases z with z|⟨i,z⟩
  .exact n<|.inl z
  rcases a.O i c z with y|y
  .exact n y
  rw[y] at e;cases e
 O:=λi c e=>by
  rcases b.O i c e with(z|⟨j,z⟩)|z
  .exact .inl<|.inl z
  .exact a.O j c z
  refine .inr ?_;cases q:H c with
  |none=>rfl
  |some o=>exact absurd z (a.f c (by rw[q];simp))
 f:=λc n=>b.f c<|a.f c n
theorem Go.k(g:Go O0 ow H o H'):Ev (Ow O0 ow) H (Ow O0 o) H':=
 ⟨λb z=>z.elim (λz=>.inl<|.inl z) (by rintro ⟨i,e⟩;exact g.O i b e),g.Z⟩
theorem BX O:Ow O (λ_=>none)=O:=by
 funext b;exact propext ⟨λz=>z.elim id (by rintro ⟨_,e⟩;exact (by cases e)),eB⟩
section
variable {ow:Os}{m:Me}
theorem Od.T(g:aD H H')(h:Od G O M0 H0 o v H s):Od G O M0 H0 o v H' s:=by
 cases s with
 |S=>exact h
 |f d=>obtain⟨a,x,e,q⟩:=h;exact⟨a,x,e,q.T g⟩
 |o d=>refine ZB h λa x e f q=>?_;exact⟨a,x,e,f,q.T g⟩
 |i d=>refine ZB h λa x e f q=>?_;exact⟨a,x,e,f,q.T g⟩
 |b d=>obtain⟨a,x,e,q⟩:=h;exact⟨a,x,e,q.T g⟩
 |g w a d=>refine ZN h λx e f q=>?_;exact⟨x,e,f,q.T g⟩
theorem Cr(g:aD H H')(h:jc (H b)):jc (H' b):=by
 rcases h with⟨x,e⟩|⟨x,e⟩|⟨x,e⟩|⟨x,e⟩
 .exact .inl ⟨x,g _ _ e⟩
 .exact .inr<|.inl ⟨x,g _ _ e⟩
 .exact .inr<|.inr<|.inl ⟨x,g _ _ e⟩
 exact .inr<|.inr<|.inr ⟨x,g _ _ e⟩
theorem fc.T(R:fc G O0 M0 H0 ow σ H m)(g:aD H H'):fc G O0 M0 H0 ow σ H' m:=
 ⟨R.mt,λb o e n=>g b o<|R.Z b o e n,λb z q=>R.m0 b z<|aD.Y g q,λb z=>Cr g<|R.W b z,R.IO,R.inj,R.X,λi s e=>(R.S i s e).T g⟩
theorem Od.N(sub:∀b,O' b->O b\/H b=none)(h:Od G O M0 H0 C v H s)(I:∀d,s=.b d->∀b,O b->O' b\/¬O' b):Od G O' M0 H0 C v H s:=by
 cases s with
 |S=>exact h
 |f d=>obtain⟨a,x,e,q⟩:=h;exact⟨a,x,e,q.N sub⟩
 |o d=>refine ZB h λa x e f q=>?_;exact⟨a,x,e,f,q.N sub⟩
 |i d=>refine ZB h λa x e f q=>?_;exact⟨a,x,e,f,q.N sub⟩
 |b d=>
  obtain⟨a,x,e,q⟩:=h;refine⟨a,x,e,?_⟩;rcases q with q|⟨b,c,o,q⟩
  .exact .inl<|q.N sub
  rcases I d rfl b o with w|w
  .exact .inr ⟨b,c,w,q.N sub⟩
  subst c;exact .inl<|(q.N sub).r w
 |g w a d=>refine ZN h λx e f q=>?_;exact⟨x,e,f,q.N sub⟩
theorem Ow.s(z:Ow O0 (k_ ow i none) b):Ow O0 ow b:=by
 rcases z with z|⟨j,e⟩
 .exact .inl z
 by_cases q:j=i
 .subst q;rw[fZ] at e;cases e
 rw[fB q] at e;exact .inr ⟨j,e⟩
theorem vU{o:Type}{l:List o}{x:o}(e:l[i]? = some x):i<l.length:=(dn.mp e).1
theorem fc.Y(R:fc G O0 M0 H0 ow σ H m)(h:DV G (Ow O0 ow) H v d):
  fc G O0 M0 H0 (k_ ow i none) (σ.set i<|some v) H (m.set i<|.f d):=by
 have sub:∀b,Ow O0 (k_ ow i _) b->Ow O0 ow b\/H b=none:=λb z=>.inl z.s;refine⟨by simp[R.mt],R.Z,R.m0,λb z=>R.W b z.s,λj a e=>?_,λj k a c f=>?_,λj g=>?_,λj s e=>?_⟩
 .by_cases q:j=i
  .subst q;rw[fZ] at e;cases e
  rw[fB q] at e;exact R.IO j a e
 .by_cases q:j=i
  .subst q;rw[fZ] at c;cases c
  by_cases l:k=i
  .subst l;rw[fZ] at f;cases f
  rw[fB q] at c;rw[fB l] at f;exact R.inj j k a c f
 .by_cases q:j=i
  .subst q;exact fZ
  rw[fB q];exact R.X j<|by simpa using g
 by_cases q:j=i
 .subst q;have g:j<m.length:=by simpa using vU e
  rw[br g] at e;cases e;rw[fZ,br (by rw[R.mt];exact g)];exact⟨rfl,v,rfl,h.N sub⟩
 rw[bX<|eW q] at e;rw[fB q,bX<|eW q];exact(R.S j s e).N sub λ_ _ b _=>sg _
theorem Go.Y:Go O0 ow H (k_ ow i none) H:=
 ⟨λ_ _ e _=>e,λj a e=>.inl (by
  by_cases q:j=i
  .subst q;rw[fZ] at e;cases e
  rw[fB q] at e;exact .inr ⟨j,e⟩),λ_ n=>n⟩
theorem fc.Ob(R:fc G O0 M0 H0 ow σ H m)(n:H p=none):H0 p=none:=by
 cases q:H0 p with
 |none=>rfl
 |some o=>
  by_cases z:M0 p
  .exact absurd n<|R.m0 p z
  rw[R.Z p o q z] at n;cases n
theorem fc.Nr(R:fc G O0 M0 H0 ow σ H m)(n:H p=none):¬Ow O0 ow p:=λz=>by
 have:=R.W p z
 rw[n] at this;rcases this with⟨_,e⟩|⟨_,e⟩|⟨_,e⟩|⟨_,e⟩<;>cases e
theorem Ow.O(z:Ow O0 (k_ ow i<|some p) b):Ow O0 ow b\/b=p:=by
 rcases z with z|⟨j,e⟩
 .exact .inl<|.inl z
 by_cases q:j=i
 .subst q;rw[fZ] at e;cases e;exact .inr rfl
 rw[fB q] at e;exact .inl<|.inr ⟨j,e⟩
theorem fc.we(R:fc G O0 M0 H0 ow σ H m)(g:aD H H')(n:H p=none)(C:H0 p=none)(h:OV G (Op (Ow O0 ow) p) H' p d)(o:i<m.length):
  fc G O0 M0 H0 (k_ ow i<|some p) (σ.set i<|some<|.r p) H' (m.set i<|.o d):=by
 have t:=R.Nr n;have sub:∀b,Ow O0 (k_ ow i<|some p) b->Ow O0 ow b\/H b=none:=λb z=>z.O.elim .inl λe=>.inr (by rw[e];exact n);refine⟨by simp[R.mt],(R.T g).Z,(R.T g).m0,λb z=>?_,λj a e=>?_,λj k a f c=>?_,λj u=>?_,λj s e=>?_⟩
 .rcases z.O with z|z
  .exact(R.T g).W b z
  rw[z];exact h.q
 .by_cases q:j=i
  .subst q;rw[fZ] at e;cases e;exact λz=>t<|.inl z
  rw[fB q] at e;exact R.IO j a e
 .by_cases q:j=i
  .subst q;rw[fZ] at f;cases f;by_cases l:k=j
   .exact l.symm
   rw[fB l] at c;exact absurd (.inr ⟨k,c⟩) t
  rw[fB q] at f;by_cases l:k=i
  .subst l;rw[fZ] at c;cases c;exact absurd (.inr ⟨j,f⟩) t
  rw[fB l] at c;exact R.inj j k a f c
 .have r:m.length<=j:=by simpa using u
  rw[fB<|by omega];exact R.X j r
 by_cases q:j=i
 .subst q;rw[br o] at e;cases e;rw[fZ,br (by rw[R.mt];exact o)];exact⟨p,rfl,C,rfl,h.N λb z=>.inl<|z.O.elim .inl .inr⟩
 rw[bX<|eW q] at e;rw[fB q,bX<|eW q];exact((R.S j s e).N sub λ_ _ b _=>sg _).T g
theorem Go.we(g:aD H H')(n:H p=none):Go O0 ow H (k_ ow i<|some p) H':=
 ⟨.c g,λj a e=>by
  by_cases q:j=i
  .subst q;rw[fZ] at e;cases e;exact .inr n
  rw[fB q] at e;exact .inl<|.inr ⟨j,e⟩,(Go.s (O0:=O0) (ow:=ow) g).f⟩
theorem CN(o:∀(j:Nat) (d:D),m[j]?≠some (Sl.b d))(C:∀d,s≠.b d):∀(j:Nat) (d),(m.set i s)[j]?≠some (Sl.b d):=λj d e=>by
 by_cases q:j=i
 .subst q;have a:j<m.length:=by simpa using vU e
  rw[br a] at e;exact C d<|cE e
 rw[bX<|eW q] at e;exact o j d e
theorem dg.T(R:dg G O0 M0 H0 ow σ H m)(g:aD H H'):dg G O0 M0 H0 ow σ H' m:=⟨R.tofc.T g,R.nb⟩
theorem dg.Y(R:dg G O0 M0 H0 ow σ H m)(h:DV G (Ow O0 ow) H v d):dg G O0 M0 H0 (k_ ow i none) (σ.set i<|some v) H (m.set i<|.f d):=
 ⟨R.tofc.Y h,CN R.nb λ_ z=>by cases z⟩
theorem dg.we(R:dg G O0 M0 H0 ow σ H m)(g:aD H H')(n:H p=none)(C:H0 p=none)(h:OV G (Op (Ow O0 ow) p) H' p d)(o:i<m.length):
  dg G O0 M0 H0 (k_ ow i<|some p) (σ.set i<|some<|.r p) H' (m.set i<|.o d):=⟨R.tofc.we g n C h o,CN R.nb λ_ z=>by cases z⟩
noncomputable def Sl.V:Sl->Sl
 | .o d=>.f d
 |s=>s
noncomputable def Me.V(m:Me):Me:=m.map Sl.V
theorem dg.V(R:dg G O0 M0 H0 ow σ H m):∃C,dg G O0 M0 H0 C σ H m.V/\Go O0 ow H C H:=by
 let C:Os:=λi=>match m[i]? with
  |some (.i _)=>ow i
  |some (.g _ _ _)=>ow i
  |_=>none
 have f:∀i a,C i=some a->ow i=some a/\∀d,m[i]?≠some (.o d):=λi a e=>by
  simp only[C] at e;split at e
  .rename_i d q;exact⟨e,λd z=>by rw[q] at z;cases z⟩
  .rename_i w b d q;exact⟨e,λd z=>by rw[q] at z;cases z⟩
  cases e
 have sub:∀b,Ow O0 C b->Ow O0 ow b\/H b=none:=λb z=>.inl<|z.elim .inl (by rintro ⟨i,e⟩;exact .inr ⟨i,(f i b e).1⟩);refine⟨C,⟨⟨by simp[Me.V,R.mt],R.Z,R.m0,λb z=>?_,λi a e=>R.IO i a (f i a e).1,λi j a c g=>R.inj i j a (f i a c).1 (f j a g).1,λi t=>?_,λi s e=>?_⟩,λj d e=>?_⟩,λb o e n=>e,λi a e=>.inl<|.inr ⟨i,(f i a e).1⟩,λ_ n=>n⟩
 .exact R.W b<|z.elim .inl (by rintro ⟨i,e⟩;exact .inr ⟨i,(f i b e).1⟩)
 .have l:m.length<=i:=by simpa[Me.V] using t
  simp only[C];rw[mo l]
 .unfold Me.V at e;rw[aT] at e;cases q:m[i]? with
  |none=>rw[q] at e;cases e
  |some s0=>
   rw[q] at e;cases e;have z:=R.S i s0 q;cases s0 with
   |S=>exact(show C i=none by simp only[C,q])
   |f d=>obtain⟨_,x,e,h⟩:=z;exact⟨(by simp only[C,q]),x,e,h.N sub⟩
   |o d=>
    refine ZB z λa c g k h=>?_;refine⟨(by simp only[C,q]),_,k,(h.N sub).r λw=>?_⟩;rcases w with w|⟨j,w⟩
    .exact R.IO i a c w
    obtain⟨r,p⟩:=f j a w
    have:=R.inj i j a c r
    subst this;exact p d q
   |i d=>
    refine ZB z λa c g k h=>?_;exact⟨a,(by simp only[C,q];exact c),g,k,h.N sub⟩
   |b d=>exact(R.nb i d q).elim
   |g w a d=>
    refine ZN z λc g k h=>?_;exact⟨(by simp only[C,q];exact c),g,k,h.N sub⟩
 unfold Me.V at e;rw[aT] at e;cases q:m[j]? with
 |none=>rw[q] at e;cases e
 |some s0=>
  rw[q] at e;cases s0 with
  |b d'=>exact R.nb j d' q
  |_=>cases e
end
def Pu(G:Gx)(E:XK){o:Type}(r:bd o)(H:Hp)(k:o->Prop):Prop:=match r with
 | .R a=>k a
 | .A c=>∀C H',XP G H' c C->aD H H'->E (.ref C.1) C.2 H'
 | .b=>False
theorem Pu.s{f:o->bd C}(h:Pu G E (r.s f) H k):Pu G E r H λa=>Pu G E (f a) H k:=by
 cases r with
 |R a=>exact h
 |A c=>exact h
 |b=>exact h
theorem Pu.u{k':o->Prop}(h:Pu G E r H k)(g:aD H H')(hk:∀a,k a->k' a):Pu G E r H' k':=by
 cases r with
 |R a=>exact hk a h
 |A c=>exact λC H1 e b=>h C H1 e<|g.t b
 |b=>exact h
theorem Pu.l(h:Pu G E (b6 r) H k):∃a,r=some a/\k a:=by
 cases r with
 |some a=>exact⟨a,rfl,h⟩
 |none=>exact h.elim
noncomputable def tE(G:Gx)(E:XK)(f:Me->bd D):TE:=λa H Q=>∃O0 M0 H0 ow m,fc G O0 M0 H0 ow a H m/\Pu G E (f m) H λd=>∀v H',aD H H'->DV G (Ow O0 ow) H' v d->Q v H'
def tB(G:Gx)(E:XK)(f:Me->bd D):TE:=λa H Q=>∃O0 M0 H0 ow m,fc G O0 M0 H0 ow a H m/\Pu G E (f m) H λd=>∀v H',aD H H'->DW G (Ow O0 ow) H' v d->Q v H'
def tN(G:Gx)(E:XK)(f:Me->bd D):TE:=λa H Q=>∃O0 M0 H0 ow m,fc G O0 M0 H0 ow a H m/\Pu G E (f m) H λd=>∀p H',aD H H'->H p=none->OV G (Op (Ow O0 ow) p) H' p d->Q (.r p) H'
def tT(G:Gx)(E:XK)(f:Me->bd Bool):TT:=λa H Q=>∃O0 M0 H0 ow m,fc G O0 M0 H0 ow a H m/\Pu G E (f m) H λb=>∀H',aD H H'->Q b H'
def KE(G:Gx)(E:XK)(f:Me->bd (List D)):TA:=λb H Q=>∃O0 M0 H0 ow m,fc G O0 M0 H0 ow b H m/\Pu G E (f m) H λds=>∀a H',aD H H'->bi G (Ow O0 ow) H' a ds->Q a H'
def Fs(G:Gx)(E:XK)(f:Me->bd (List D)):TA:=λb H Q=>∃O0 M0 H0 ow m,fc G O0 M0 H0 ow b H m/\Pu G E (f m) H λds=>∀a H',aD H H'->vr G (Ow O0 ow) H' a ds->Q a H'
abbrev FE(X:Cx)(E:XK)(e:Expr)(f:Me->bd D):Prop:=PE X e<|tE (gx X) E f
abbrev FB(X:Cx)(E:XK)(e:Expr)(f:Me->bd D):Prop:=PE X e<|tB (gx X) E f
abbrev FN(X:Cx)(E:XK)(e:Expr)(f:Me->bd D):Prop:=PE X e<|tN (gx X) E f
abbrev FT(X:Cx)(E:XK)(e:Expr)(f:Me->bd Bool):Prop:=PT X e<|tT (gx X) E f
abbrev FW(X:Cx)(E:XK)(e:Expr)(f:Me->bd Bool):Prop:=PW X e<|tT (gx X) E f
abbrev ln(X:Cx)(E:XK)(es:List Expr)(f:Me->bd (List D)):Prop:=PA X es<|KE (gx X) E f
abbrev mm(X:Cx)(E:XK)(es:List Expr)(f:Me->bd (List D)):Prop:=PA X es<|Fs (gx X) E f
theorem LR(h:PT X e T)(k:∀o H Q,C o H Q->T o H Q):PT X e C:=λa s o H Q I q=>h a s o H Q I<|k o H Q q
theorem Sq(h:PW X e T)(k:∀o H Q,C o H Q->T o H Q):PW X e C:=λwh a s o H Q I q=>h wh a s o H Q I<|k o H Q q
theorem tu(h:PA X es T)(k:∀o H Q,C o H Q->T o H Q):PA X es C:=λa b s o H Q I q=>h a b s o H Q I<|k o H Q q
section
variable {X:Cx}{E:XK}{e b c:Expr}{fa fb:Me->bd D}{fs:Me->bd (List D)}{ft fu:Me->bd Bool}{pos:Pos}
theorem aO(h:FE X E e f):FB X E e f:=bA h λ_ _ _ b=>cC b λa M0 H0 ow m R q=>⟨a,M0,H0,ow,m,R,q.u (aD.s _) λ_ k v H' g d=>k v H' g<|.inl d⟩
theorem j0(h:FN X E e f):FE X E e f:=bA h λ_ _ _ c=>cC c λa M0 H0 ow m R q=>⟨a,M0,H0,ow,m,R,q.u (aD.s _) λ_ k p H' g n o=>
 k _ H' g ((o.N λb z=>.inl<|.inl z).r<|R.Nr n)⟩
noncomputable def au(i:Nat):Me->bd D:=λm=>match m[i]? with
 |some (.f d)=>.R d
 |_=>.b
noncomputable def aa(i:Nat):Me->bd D:=λm=>match m[i]? with
 |some (.f d)=>.R d
 |some (.o d)=>.R d
 |some (.i d)=>.R d
 |some (.b d)=>.R d
 |_=>.b
theorem bu  i (C:autoParam (X.N[i]? = some x) YO)(I:autoParam (i' X.d.scope x) YR)(hd:autoParam ((x==("__debug__":Str))=false) YI)
  (o:autoParam ((x==("__classdict__":Str))=false) YI):FE X E (.Name x pos) (au i):=bA (iG C I hd o) λf H Q c=>cC c λg M0 H0 ow m R q=>by
 unfold au at q;cases e:m[i]? with
 |none=>rw[e] at q;exact q.elim
 |some s=>
  rw[e] at q;cases s with
  |f d=>
   obtain⟨_,x,b,a⟩:=R.S i _ e;exact⟨x,b,q x H (aD.s _) a⟩
  |_=>exact q.elim
theorem aC  i (C:autoParam (X.N[i]? = some x) YO)(I:autoParam (i' X.d.scope x) YR)(hd:autoParam ((x==("__debug__":Str))=false) YI)
  (o:autoParam ((x==("__classdict__":Str))=false) YI):FB X E (.Name x pos) (aa i):=bA (iG C I hd o) λj H Q h=>cC h λk M0 H0 ow m R q=>by
 unfold aa at q;cases e:m[i]? with
 |none=>rw[e] at q;exact q.elim
 |some s=>
  rw[e] at q;cases s with
  |f d=>
   obtain⟨_,x,b,c⟩:=R.S i _ e;exact⟨x,b,q x H (aD.s _)<|.inl c⟩
  |b d=>
   obtain⟨_,x,b,c⟩:=R.S i _ e;exact⟨x,b,q x H (aD.s _) c⟩
  |o d=>
   refine ZB (R.S i _ e) λa b c g f=>?_;exact⟨_,g,q _ H (aD.s _)<|.inr ⟨a,rfl,.inr ⟨i,b⟩,f⟩⟩
  |i d=>
   refine ZB (R.S i _ e) λa b c g f=>?_;exact⟨_,g,q _ H (aD.s _)<|.inr ⟨a,rfl,.inr ⟨i,b⟩,f⟩⟩
  |S=>exact q.elim
  |g _ _ _=>exact q.elim
def fC(d:D):Me->bd D:=λ_=>.R d
theorem Y6(h:PE X e (tC v))(hd:∀O H,DV (gx X) O H v d):FE X E e (fC d):=bA h λb H Q a=>cC a λc M0 H0 ow m R q=>q v H (aD.s _)<|hd _ _
theorem aJ:FE X E (.Constant (.int i) j pos) (fC<|.l i):=Y6 (λ_ _ _ H _ I h=>wpAny_Constant_int ⟨.l i,H,I.tok _,⟨_,rfl⟩,h⟩) λ_ _=>.l i
theorem oN{b:Bool}:FE X E (.Constant (.bool b) j pos) (fC<|.B b):=Y6 (λ_ _ _ H _ I h=>Constant_bool ⟨.B b,H,I,rfl,h⟩) λ_ _=>.B b
theorem Ps:FE X E (.Constant .none j pos) (fC .E):=Y6 (λ_ _ _ H _ I h=>Constant_none ⟨.E,H,I,rfl,h⟩) λ_ _=>.E
theorem dI:FE X E (.Constant (.str x) j pos) (fC<|.p x):=Y6 (λ_ _ _ H _ I h=>Calls.Constant_str ⟨.p x,H,I.tok _,⟨_,rfl⟩,h⟩) λ_ _=>.p x
theorem Vw(I:Gl X x)(C:X.m x=some u)(r:bn v u)(hd:∀O H,DV (gx X) O H v d)(o:autoParam ((x==("__debug__":Str))=false) YI):FE X E (.Name x pos) (fC d):=Y6 (Mr I C r o) hd
def rG(G:Gx)(g:D->D->Option D):R2:=λx y H Q=>∃O d e r,(∀b,O b->jc (H b))/\DW G O H x d/\DW G O H y e/\g d e=some r/\∀v H',aD H H'->DV G O H' v r->Q v H'
def qf(G:Gx)(g:D->D->Option Bool):R2:=λx y H Q=>∃O d e r,(∀b,O b->jc (H b))/\DW G O H x d/\DW G O H y e/\g d e=some r/\Q (.B r) H
def FD(G:Gx)(g:D->Option D):V->Hp->VK->Prop:=λx H Q=>∃O d r,(∀b,O b->jc (H b))/\DW G O H x d/\g d=some r/\∀v H',aD H H'->DV G O H' v r->Q v H'
def o_(G:Gx)(g:List D->Option D):List V->Hp->VK->Prop:=λxs H Q=>∃O ds r,(∀b,O b->jc (H b))/\vr G O H xs ds/\g ds=some r/\∀v H',aD H H'->DV G O H' v r->Q v H'
def GG(G:Gx)(g:List D->Option D):List V->Hp->VK->Prop:=λxs H Q=>∃O ds r,(∀b,O b->jc (H b))/\vr G O H xs ds/\g ds=some r/\∀p H',aD H H'->H p=none->OV G (Op O p) H' p r->Q (.r p) H'
def FC(G:Gx)(g:D->List D->Option D):V->List V->Hp->VK->Prop:=λx xs H Q=>∃O d ds r,(∀b,O b->jc (H b))/\DW G O H x d/\vr G O H xs ds/\g d ds=some r/\∀v H',aD H H'->DV G O H' v r->Q v H'
noncomputable def ak(g:D->D->Option D)(fa fb:Me->bd D):Me->bd D:=λm=>(fa m).s λx=>(fb m).s λy=>b6<|g x y
noncomputable def qj(g:D->D->Option Bool)(fa fb:Me->bd D):Me->bd D:=λm=>(fa m).s λx=>(fb m).s λy=>b6<|(g x y).map D.B
noncomputable def aA(g:D->D->Option Bool)(fa fb:Me->bd D):Me->bd Bool:=λm=>(fa m).s λx=>(fb m).s λy=>b6<|g x y
noncomputable def lm(g:D->Option D)(fa:Me->bd D):Me->bd D:=λm=>(fa m).s λx=>b6<|g x
theorem v0{g:D->D->bd C}{K:C->Hp->Prop}(R:fc G O0 M0 H0 ow o H m)(h:Pu G E ((fa m).s λx=>(fb m).s λy=>g x y) H λz=>K z H)
  (I:∀z H',K z H->aD H H'->K z H')
  (k:∀x y d e H',aD H H'->DW G (Ow O0 ow) H' x d->DW G (Ow O0 ow) H' y e->Pu G E (g d e) H' (λz=>K z H')->fc G O0 M0 H0 ow o H' m->r x y H' Q):EE r (tB G E fa) (tB G E fb) o H Q:=by
 refine⟨O0,M0,H0,ow,m,R,h.s.u (aD.s _) λd q x H1 a i=>⟨O0,M0,H0,ow,m,R.T a,q.s.u a λe c y l b j=>?_⟩⟩;exact k x y d e l (a.t b) (i.T b) j (c.u (a.t b) λz f=>I z _ f<|a.t b)<|R.T<|a.t b
theorem bW(J:gc X (ko o) (rG (gx X) g))(I:FB X E a fa)(C:FB X E b fb):FE X E (.BinOp a o b pos) (ak g fa fb):=
 bA (HM J I C) λs H Q l=>cC l λi M0 H0 ow m R q=>v0 R (K:=λz H=>∀v H',aD H H'->DV _ _ H' v z->Q v H') q (λ_ _ k g v H' j d=>k v H' (g.t j) d) λx y d e H' g c h f n=>by
  refine oj f.l λr p k=>?_;exact⟨_,d,e,r,n.W,c,h,p,k⟩
theorem GL(U:wT X (rG (gx X) g))(J:FB X E a fa)(C:FB X E b fb)(o:Fw b):FE X E (.Subscript a b pos) (ak g fa fb):=
 bA ((by intro f s c H Q I h;exact B7<|EN J C I h λv u j x y p G t l q=>U a b f j c p x y v u Q G t l q<|o _ _)) λc H Q A=>cC A λL M0 H0 ow m R q=>v0 R (K:=λz H=>∀v H',aD H H'->DV _ _ H' v z->Q v H') q (λ_ _ k g v H' w d=>k v H' (g.t w) d) λx y d e H' g i F n M=>by
  refine oj n.l λr B k=>?_;exact⟨_,d,e,r,M.W,i,F,B,k⟩
theorem fx{C I:Type}{o:Option C}{f:C->I}{r:I}(h:o.map f=some r):∃a,o=some a/\f a=r:=by
 cases o with
 |none=>cases h
 |some a=>exact⟨a,rfl,cE h⟩
theorem vL(ho:gc X (iq o) (qf (gx X) g))(U:FB X E a fa)(J:FB X E b fb)(C:pd o b=false):FE X E (.Compare a [o] [b] pos) (qj g fa fb):=
 bA ((by intro i s f H Q I h;exact wpAny_Compare1 (EN U J I h λv u l x y t M w n q=>ho i l f t x y v u Q M w n q) C)) λf H Q B=>cC B λN M0 H0 ow m R q=>v0 R (K:=λz H=>∀v H',aD H H'->DV _ _ H' v z->Q v H') q (λ_ _ k g v H' A d=>k v H' (g.t A) d) λx y d e H' g j L p O=>by
  refine oj p.l λr F k=>?_;refine oj (fx F) λc G zq2=>?_;subst zq2;exact⟨_,d,e,c,O.W,j,L,G,k _ _ (aD.s _)<|.B c⟩
theorem iZ(U:gc X (iq o) (qf (gx X) g))(J:FB X E a fa)(C:FB X E b fb)(I:pd o b=false):FT X E (.Compare a [o] [b] pos) (aA g fa fb):=
 LR (SF U J C I) λr H Q n=>cC n λs M0 H0 ow m R q=>v0 R (K:=λz H=>∀H',aD H H'->Q z H') q (λ_ _ k g H' l=>k H'<|g.t l) λx y d e H' g h j i p=>by
  refine oj i.l λc f k=>?_;exact⟨_,d,e,c,p.W,h,j,f,c,rfl,k _<|aD.s _⟩
theorem HK(I:D8 X (unaryOp o) (FD (gx X) g))(C:FB X E a fa):FE X E (.UnaryOp o a pos) (lm g fa):=
 bA (MS I C) λi H Q e=>cC e λh M0 H0 ow m R q=>⟨h,M0,H0,ow,m,R,q.s.u (aD.s _) λd q x H1 b c=>by
  refine oj q.l λr f k=>?_;exact⟨_,d,r,(R.T b).W,c,f,λv H' g d=>k v H' (b.t g) d⟩⟩
noncomputable def dt(fa:Me->bd D):Me->bd Bool:=λm=>(fa m).s λx=>match x with
 | .B b=>.R b
 |_=>.b
theorem gj(h:FE X E e f)(C:autoParam (∀o,isTrue e X.d o=(do let v<-o;C1 e.pos;qq [v] (truthy v))) YN):FT X E e (dt f):=
 LR (Sa h C) λj H Q c=>cC c λi M0 H0 ow m R q=>⟨i,M0,H0,ow,m,R,q.s.u (aD.s _) λd q v H' g a=>by
  cases d with
  |B b=>cases a;exact⟨b,rfl,q H' g⟩
  |_=>exact q.elim⟩
noncomputable def gq(ft:Me->bd Bool):Me->bd Bool:=λm=>(ft m).s λc=>.R<|!c
noncomputable def cz(ft fu:Me->bd Bool):Me->bd Bool:=λm=>(ft m).s λc=>if c then fu m else .R false
noncomputable def iI(ft fu:Me->bd Bool):Me->bd Bool:=λm=>(ft m).s λc=>if c then .R true else fu m
theorem qu(h:FT X E a ft):FT X E (.UnaryOp .Not a pos) (gq ft):=LR (P9 h) λe H Q d=>cC d λc M0 H0 ow m R q=>⟨c,M0,H0,ow,m,R,q.s.u (aD.s _) λb q H' g=>q H' g⟩
theorem qN(h:FT X E a ft):FW X E (.BoolOp .And [a] pos) ft:=TK h
theorem uE(h:FT X E a ft):FW X E (.BoolOp .Or [a] pos) ft:=QU h
theorem vN(o:FT X E a ft)(C:FW X E (.BoolOp .And (b::es) pos) fu):FW X E (.BoolOp .And (a::b::es) pos) (cz ft fu):=
 Sq (QI o C) λf H Q e=>cC e λc M0 H0 ow m R q=>⟨c,M0,H0,ow,m,R,q.s.u (aD.s _) λb q H' g=>by
  cases b with
  |true=>exact⟨c,M0,H0,ow,m,R.T g,q.u g λ_ k H1 d=>k H1<|g.t d⟩
  |false=>exact q H' g⟩
theorem pW(o:FT X E a ft)(C:FW X E (.BoolOp .Or (b::es) pos) fu):FW X E (.BoolOp .Or (a::b::es) pos) (iI ft fu):=
 Sq (ME o C) λf H Q e=>cC e λc M0 H0 ow m R q=>⟨c,M0,H0,ow,m,R,q.s.u (aD.s _) λb q H' g=>by
  cases b with
  |false=>exact⟨c,M0,H0,ow,m,R.T g,q.u g λ_ k H1 d=>k H1<|g.t d⟩
  |true=>exact q H' g⟩
theorem wu(h:FW X E e ft):FT X E e ft:=L2.PW.pt h
def ZS(fa fb:Me->bd D):Me->bd D:=λm=>(dt fa m).s λc=>if c then fb m else .R (.B false)
def DT(fa fb:Me->bd D):Me->bd D:=λm=>(dt fa m).s λc=>if c then .R (.B true) else fb m
theorem IF{O:hD}(h:Pu G E (dt fa m) H k):Pu G E (fa m) H λd=>∃b,d=.B b/\k b:=by
 refine h.s.u (aD.s _) λd q=>?_;cases d with
 |B b=>exact⟨b,rfl,q⟩
 |_=>exact q.elim
theorem Q3(h:FE X E a fa):FE X E (.BoolOp op [a] pos) fa:=(λc s b H Q I d=>BoolOp_one<|h c s b H Q I d)
theorem Zt(o:FE X E a fa)(C:FE X E (.BoolOp .And (b::es) pos) fb):FE X E (.BoolOp .And (a::b::es) pos) (ZS fa fb):=
 bA (Si o C) λj H Q i=>cC i λc M0 H0 ow m R q=>⟨c,M0,H0,ow,m,R,(IF (O:=c) q.s).u (aD.s _) λd ⟨b,e,q⟩ v H' g f=>by
  subst e;cases f;refine⟨b,rfl,?_⟩;cases b with
  |true=>exact⟨c,M0,H0,ow,m,R.T g,q.u g λ_ k v H1 h=>k v H1<|g.t h⟩
  |false=>exact q _ H' g<|.B _ ⟩
theorem NG(o:FE X E a fa)(C:FE X E (.BoolOp .Or (b::es) pos) fb):FE X E (.BoolOp .Or (a::b::es) pos) (DT fa fb):=
 bA (NX o C) λj H Q i=>cC i λc M0 H0 ow m R q=>⟨c,M0,H0,ow,m,R,(IF (O:=c) q.s).u (aD.s _) λd ⟨b,e,q⟩ v H' g f=>by
  subst e;cases f;refine⟨b,rfl,?_⟩;cases b with
  |false=>exact⟨c,M0,H0,ow,m,R.T g,q.u g λ_ k v H1 h=>k v H1<|g.t h⟩
  |true=>exact q _ H' g<|.B _ ⟩
def ao:Me->bd (List D):=λ_=>.R []
noncomputable def aj(fa:Me->bd D)(fs:Me->bd (List D)):Me->bd (List D):=λm=>(fa m).s λx=>(fs m).s λxs=>.R (x::xs)
theorem aQ:ln X E [] ao:=tu nM λb H Q a=>cC a λc M0 H0 ow m R q=>q [] H (aD.s _) .f
theorem cI:mm X E [] ao:=tu nM λb H Q a=>cC a λc M0 H0 ow m R q=>q [] H (aD.s _) .f
theorem aG(o:FE X E e fa)(I:ln X E es fs)(C:autoParam (ag (e::es) X.d=(false,eval e X.d)::ag es X.d) YO):ln X E (e::es) (aj fa fs):=
 tu (eG o I C) λk H Q h=>cC h λf M0 H0 ow m R q=>⟨f,M0,H0,ow,m,R,q.s.u (aD.s _) λd q v H1 a g=>⟨f,M0,H0,ow,m,R.T a,q.s.u a λj q l i c b=>q _ i (a.t c)<|.e (g.T c) b⟩⟩
theorem cB(o:FB X E e fa)(I:mm X E es fs)(C:autoParam (ag (e::es) X.d=(false,eval e X.d)::ag es X.d) YO):mm X E (e::es) (aj fa fs):=
 tu (eG o I C) λk H Q h=>cC h λf M0 H0 ow m R q=>⟨f,M0,H0,ow,m,R,q.s.u (aD.s _) λd q v H1 a g=>⟨f,M0,H0,ow,m,R.T a,q.s.u a λj q l i c b=>q _ i (a.t c)<|.e (g.T c) b⟩⟩
noncomputable def aK(fs:Me->bd (List D)):Me->bd D:=λm=>(fs m).s λds=>if ds.length<=aw then .R (.w ds) else .b
noncomputable def f9(fs:Me->bd (List D)):Me->bd D:=λm=>(fs m).s λds=>if ds.length<=aw then .R (.P ds) else .b
theorem Jx{c:Prop}[Decidable c]{k:o->Prop}(h:Pu G E (if c then .R r else .b) H k):c/\k r:=by
 by_cases z:c
 .rw[if_pos z] at h;exact⟨z,h⟩
 rw[if_neg z] at h;exact h.elim
theorem gk(h:ln X E es fs):FE X E (.Tuple es x1 pos) (aK fs):=bA (Tu h) λj H Q c=>cC c λf M0 H0 ow m R q=>⟨f,M0,H0,ow,m,R,q.s.u (aD.s _) λi q l H1 b a=>by
 obtain⟨d,k⟩:=Jx q;exact⟨by rw[bK a];exact d,λp H' g e=>k _ H' (b.t g)<|.w (lz.c e)<|a.T g⟩⟩
theorem Dg(h:ln X E es fs):FN X E (.List es pos) (f9 fs):=bA (P'<|G_ h) λn H Q j=>cC j λi M0 H0 ow m R q=>⟨λg H1=>aD H H1/\∃a,bi _ _ H1 g a/\a.length<=aw/\∀p H',aD H H'->H p=none->OV _ _ H' p _->Q _ H',⟨i,M0,H0,ow,m,R,q.s.u (aD.s _) λa q g H1 f c=>⟨f,a,c,Jx q⟩⟩,(by intro g H1 zr2;obtain⟨f,a,c,l,k⟩:=zr2;exact ⟨by rw[bK c];exact l,λp d=>k p _ (f.t<|bH d _) (f.Y d) ⟨g,aP,(c.N λb z=>z.elim .inl λe=>.inr (by rw[e];exact d)).T<|bH d _⟩⟩)⟩
noncomputable def aF(g:List D->Option D)(fs:Me->bd (List D)):Me->bd D:=λm=>(fs m).s λds=>b6<|g ds
theorem VD(h:tE (gx X) E (aF g fs) o H Q):x_ (o_ (gx X) g) (Fs (gx X) E fs) o H Q:=by
 refine ZT h λc M0 H0 ow m R q=>?_;refine⟨c,M0,H0,ow,m,R,q.s.u (aD.s _) λe q i H1 a b=>?_⟩;refine oj q.l λr f k=>?_;exact⟨_,e,r,(R.T a).W,b,f,λv H' g d=>k v H' (a.t g) d⟩
section
variable {p:Pos}{id:String}
theorem dZ(I:jf X (.builtin id) (o_ (gx X) g))(C:Gl X x)(U:X.m x=none)(hv:cx x=some (.builtin id))(ha:mm X E (e::es) fs)(hn:autoParam (x≠"__name__") YI)(o:autoParam ((x==("__debug__":Str))=false) YI)
  (he:autoParam (ag (e::es) X.d=(false,eval e X.d)::ag es X.d) YO) (J:autoParam ((ij pos<|ag es X.d).any (·.1)=false) YO):FE X E (.Call (.Name x p) (e::es) [] pos) (aF g fs):=
 bA (xq I C U hv ha hn o he J) λ_ _ _ h=>VD h
theorem yt(I:jf X (.type T) (o_ (gx X) g))(C:Gl X x)(U:X.m x=none)(hv:cx x=some (.type T))(ha:mm X E (e::es) fs)(hn:autoParam (x≠"__name__") YI)(o:autoParam ((x==("__debug__":Str))=false) YI)
  (he:autoParam (ag (e::es) X.d=(false,eval e X.d)::ag es X.d) YO) (J:autoParam ((ij pos<|ag es X.d).any (·.1)=false) YO):FE X E (.Call (.Name x p) (e::es) [] pos) (aF g fs):=
 bA (Ce I C U hv ha hn o he J) λ_ _ _ h=>VD h
theorem uZ(hc:jf X (.type T) (GG (gx X) g))(hg:Gl X x)(I:X.m x=none)(o:cx x=some (.type T))(J:mm X E (e::es) fs)(hn:autoParam (x≠"__name__") YI)(C:autoParam ((x==("__debug__":Str))=false) YI)
  (he:autoParam (ag (e::es) X.d=(false,eval e X.d)::ag es X.d) YO) (U:autoParam ((ij pos<|ag es X.d).any (·.1)=false) YO):FN X E (.Call (.Name x p) (e::es) [] pos) (aF g fs):=
 bA (Ce hc hg I o J hn C he U) λ_ _ _ h=>(by refine ZT h λf M0 H0 ow m R q=>?_;refine⟨f,M0,H0,ow,m,R,q.s.u (aD.s _) λb q i H1 a o=>?_⟩;refine oj q.l λr c k=>?_;exact⟨_,b,r,(R.T a).W,o,c,λp H' g n d=>k p H' (a.t g) (a.Y n) d⟩)
end
noncomputable def Cl:String->D->Bool
 | "str",.p _=>true
 | "list",.P _=>true
 | "dict",.L _ _=>true
 | "dict",.F _ _=>true
 |_,_=>false
def Ur(T:String)(g:D->List D->Option D)(o:Me->bd D)(fs:Me->bd (List D)):Me->bd D:=λm=>(o m).s λd=>if Cl T d=true then(fs m).s λds=>b6 (g d ds) else .b
theorem Cv{c:Prop}[Decidable c]{k:o->Prop}(h:Pu G E (if c then r else .b) H k):c/\Pu G E r H k:=by
 by_cases z:c
 .rw[if_pos z] at h;exact⟨z,h⟩
 rw[if_neg z] at h;exact h.elim
section
variable {apos η:Pos}{id:String}
theorem Om(pa:PlainAttrs T)(I:Slot T name id)(J:typeOf (.builtin id)=pure (.type "method_descriptor"))(hm:z3 X id (FC (gx X) g))(ho:FB X E o fa)(ha:mm X E (e::es) fs)
  (ξ:autoParam (ib o name X.d (eval o X.d)=eval o X.d) YO)
  (υ:((ij η<|ag (e::es) X.d).all (λx=>!x.1)&&(yk η<|og [] X.d).all (λx=>x.1.isSome)
   && decide ((e::es).length+([]:List om).length+(if([]:List om).isEmpty then 0 else 1)<30))=true:=by rfl)
  (U:autoParam ((apos.endLine==η.line)=true) YO) (hs:autoParam (ag (e::es) X.d=(false,eval e X.d)::ag es X.d) YO) (C:autoParam ((ij η<|ag es X.d).any (·.1)=false) YO):
  FE X E (.Call (.Attribute o name apos) (e::es) [] η) (Ur T g fa fs):=
 bA (PQ pa I J hm ho ha ξ υ U hs C) λy H Q u=>cC u λn M0 H0 ow m R q=>⟨n,M0,H0,ow,m,R,q.s.u (aD.s _) λd q v H1 f c=>by
  obtain⟨t,q⟩:=Cv q;refine⟨(by
   unfold Cl at t;split at t
   .cases jG c;rfl
   .refine Y_ (iV c) λa p zq2 b _=>?_;subst zq2;exact .inl ⟨rfl,p,b⟩
   .refine Z_ (QC c) λa i l zq3 b _=>?_;subst zq3;exact .inr<|.inr<|.inl ⟨rfl,.inl ⟨i,b⟩⟩
   .refine Z_ (Zv c) λa i l zq3 b _=>?_;subst zq3;exact .inr<|.inr<|.inl ⟨rfl,.inr ⟨_,i,.inl b⟩⟩
   cases t),n,M0,H0,ow,m,R.T f,q.s.u f λs q l z h j=>?_⟩;refine oj q.l λr w k=>?_;exact⟨_,d,s,r,(R.T<|f.t h).W,c.T h,j,w,λv H' g d=>k v H' ((f.t h).t g) d⟩⟩
end
end
inductive Fl where
 |n|bk|c|r (fr:Bool) (d:D)
abbrev pv:=D->Me->Option Me
abbrev oa:=Me->bd Bool
abbrev bv:=Me->bd D
abbrev g7:=Me->bd (List D)
abbrev b8:=List D->bd (Bool×D)
abbrev ap:=Me->bd (Fl×Me)
mutual
def G3:D->Bool
 | .E|.B _|.l _|.p _=>true
 | .w ds=>QG ds
 |_=>false
def QG:List D->Bool
 |[]=>true
 |d::ds=>G3 d&&QG ds
end
inductive Xq(G:Gx)(H0 H':Hp):List Addr->List V->List D->Prop where
 |f:Xq G H0 H' [] [] []
 |U {v:V} {d:D} {vs:List V} {ds:List D} {qs:List Addr}:DV G (λ_=>False) H' v d->G3 d=true->Xq G H0 H' qs vs ds->Xq G H0 H' qs (v::vs) (d::ds)
 |O {q:Addr} {xs:List V} {es:List D} {vs:List V} {ds:List D} {qs:List Addr}:H0 q=none->H' q=some (.P xs)->bi G (λ_=>False) H' xs es->QG es=true->q∉qs->Xq G H0 H' qs vs ds->Xq G H0 H' (q::qs) (.r q::vs) (.P es::ds)
def Fr(G:Gx)(O:hD)(H0:Hp)(v:V)(H':Hp)(d:D):Prop:=(∃p,v=.r p/\H0 p=none/\OV G (Op O p) H' p d)\/∃p xs ds a,d=.w ds/\v=.r p/\lz G.K H' p xs/\Xq G H0 H' a xs ds
noncomputable def ra:D->Bool
 | .w _=>true
 |_=>false
theorem Fr.P(h:Fr G O H0 v H' d)(o:ra d=false):∃p,v=.r p/\H0 p=none/\OV G (Op O p) H' p d:=by
 rcases h with h|⟨p,a,c,b,e,_⟩
 .exact h
 rw[e] at o;cases o
def Ss(G:Gx)(E:XK)(O0 M0:hD)(H0:Hp)(ow:Os)(H:Hp)(W:hR)(r:bd (Fl×Me)):Prop:=match r with
 | .R (.n,m')=>∀a b H',dg G O0 M0 H0 a b H' m'->Go O0 ow H a H'->W.n b H'
 | .R (.bk,m')=>∀a b H',dg G O0 M0 H0 a b H' m'->Go O0 ow H a H'->W.bk b H'
 | .R (.c,m')=>∀a b H',dg G O0 M0 H0 a b H' m'->Go O0 ow H a H'->W.c b H'
 | .R (.r fr d,m')=>∀v a b H',dg G O0 M0 H0 a b H' m'->Go O0 ow H a H'->DV G (Ow O0 a) H' v d->(fr=true->Fr G (Ow O0 a) H0 v H' d)->W.r v H'
 | .A c=>∀C H',XP G H' c C->Kp M0 H0 H'->E (.ref C.1) C.2 H'
 | .b=>False
def tS(G:Gx)(E:XK)(g:ap):TS:=λW a H=>∃O0 M0 H0 ow m,dg G O0 M0 H0 ow a H m/\Ss G E O0 M0 H0 ow H W (g m)
abbrev FS(X:Cx)(E:XK)(st:Stmt)(g:ap):Prop:=PS X st<|tS (gx X) E g
abbrev ii(X:Cx)(E:XK)(st:List Stmt)(g:ap):Prop:=lS X st<|tS (gx X) E g
theorem bN{st:Stmt}(h:PS X st T)(k:∀W o H,C W o H->T W o H):PS X st C:=λa s o H W I q=>h a s o H W I<|k W o H q
theorem Bk{st:List Stmt}(h:lS X st T)(k:∀W o H,C W o H->T W o H):lS X st C:=λa s o H W I q=>h a s o H W I<|k W o H q
section
variable {G:Gx}{E:XK}{O0 M0:hD}{H0 H:Hp}{ow:Os}{σ:L2.St}{m:Me}
theorem Ss.t(R:fc G O0 M0 H0 ow σ H m)(h:Ss G E O0 M0 H0 ow H W (x.s k)):Pu G E x H λa=>Ss G E O0 M0 H0 ow H W (k a):=by
 cases x with
 |R a=>exact h
 |A c=>exact λC H' e g=>h C H' e λb o e n=>g b o<|R.Z b o e n
 |b=>exact h
theorem Ss.Y(h:Ss G E O0 M0 H0 ow H W r)(g:Go O0 ow H ow' H'):Ss G E O0 M0 H0 ow' H' W r:=by
 cases r with
 |R a=>
  obtain⟨f,j⟩:=a;cases f with
  |n=>exact λb e H1 R i=>h b e H1 R<|g.t i
  |bk=>exact λb e H1 R i=>h b e H1 R<|g.t i
  |c=>exact λb e H1 R i=>h b e H1 R<|g.t i
  |r fr d=>exact λv b e H1 R i=>h v b e H1 R<|g.t i
 |A c=>exact h
 |b=>exact h
theorem Ss.l(h:Ss G E O0 M0 H0 ow H W ((b6 x).s k)):∃a,x=some a/\Ss G E O0 M0 H0 ow H W (k a):=by
 cases x with
 |some a=>exact⟨a,rfl,h⟩
 |none=>exact h.elim
end
def ba:ap:=λm=>.R (.n,m)
noncomputable def aB(g k:ap):ap:=λm=>match g m with
 | .R (.n,m')=>k m'
 |r=>r
noncomputable def aW(i:Nat)(f:bv):ap:=λm=>(f m).s λd=>.R (.n,m.set i<|.f d)
noncomputable def dW(i:Nat)(f:bv):ap:=λm=>(f m).s λd=>if i<m.length then .R (.n,m.set i<|.o d) else .b
noncomputable def qv(f:bv):ap:=λm=>(f m).s λ_=>.R (.n,m)
def aU(f:bv):ap:=λm=>(f m.V).s λd=>.R (.r false d,m.V)
def jT(f:bv):ap:=λm=>(f m.V).s λd=>.R (.r true d,m.V)
def uU(i:Nat):ap:=λm=>match m[i]? with
 |some (.o d)=>.R (.r true d,m.V)
 |some (.f d)=>.R (.r false d,m.V)
 |_=>.b
noncomputable def ax(t:oa)(g k:ap):ap:=λm=>(t m).s λc=>if c then g m else k m
noncomputable def Z3(i:Nat)(k:ap):ap:=λm=>match m[i]? with
 |some (.o d)=>k<|m.set i<|.f d
 |_=>k m
section
variable {X:Cx}{E:XK}{c:Expr}{st:Stmt}{f:bv}{ft:oa}{pos pos':Pos}
theorem aY:ii X E [] ba:=Bk (λ_ _ a H _ I h=>mh ⟨a,H,I,h⟩) λW a H b=>cC b λc M0 H0 ow m R q=>q ow a H R<|Go.s<|aD.s _
theorem aq(C:FS X E st g)(o:ii X E rest k):ii X E (st::rest) (aB g k):=Bk (Ho C o) λW p H h=>(by
 refine ZT h λe M0 H0 ow m R q=>?_;refine⟨e,M0,H0,ow,m,R,?_⟩;unfold aB at q;cases z:g m with
 |R a=>
  obtain⟨f,j⟩:=a;rw[z] at q;cases f with
  |n=>exact λb l H' n i=>⟨e,M0,H0,b,j,n,Ss.Y q i⟩
  |bk=>exact q
  |c=>exact q
  |r fr d=>exact q
 |A c=>rw[z] at q;exact q
 |b=>rw[z] at q;exact q)
theorem aH(o:FS X E st g):ii X E [st] g:=Fb o
theorem SS i(h:ii X E rest k):ii X E rest (Z3 i k):=Bk h λW u H t=>cC t λc M0 H0 ow m R q=>by
 unfold Z3 at q;cases z:m[i]? with
 |none=>rw[z] at q;exact⟨c,M0,H0,ow,m,R,q⟩
 |some s=>
  rw[z] at q;cases s with
  |o d=>
   refine ZB (R.S i _ z) λa l A x p=>?_;have y:¬Ow c (k_ ow i none) a:=λw=>by
    rcases w with w|⟨j,w⟩
    .exact R.IO i a l w
    by_cases e:j=i
    .subst e;rw[fZ] at w;cases w
    rw[fB e] at w;exact e<|R.inj j i a w l
   have sub:∀b,Ow c (k_ ow i _) b->Ow c ow b\/H b=none:=λb z=>.inl z.s;have v:=vU z;have R2:dg (gx X) c M0 H0 (k_ ow i none) u H (m.set i<|.f d):=by
    refine⟨⟨by simp[R.mt],R.Z,R.m0,λb z=>R.W b z.s,λj b e=>?_,λj k b f g=>?_,λj r=>?_,λj s e=>?_⟩,CN R.nb λ_ z=>by cases z⟩
    .by_cases q:j=i
     .subst q;rw[fZ] at e;cases e
     rw[fB q] at e;exact R.IO j b e
    .by_cases q:j=i
     .subst q;rw[fZ] at f;cases f
     by_cases n:k=i
     .subst n;rw[fZ] at g;cases g
     rw[fB q] at f;rw[fB n] at g;exact R.inj j k b f g
    .by_cases q:j=i
     .subst q;exact fZ
     rw[fB q];exact R.X j<|by simpa using r
    by_cases q:j=i
    .subst q;rw[br v] at e;cases e;rw[fZ];exact⟨rfl,_,x,(p.N sub).r y⟩
    rw[bX<|eW q] at e;rw[fB q];exact(R.S j s e).N sub λ_ _ b _=>sg _
   exact⟨c,M0,H0,_,_,R2,Ss.Y q Go.Y⟩
  |_=>exact⟨c,M0,H0,ow,m,R,q⟩
theorem Q8(h:tS G E (aW i f) W o H):ZZ (tE G E f) (HX i) W o H:=by
 refine ZT h λc M0 H0 ow m R q=>?_;refine⟨c,M0,H0,ow,m,R.tofc,(Ss.t R.tofc q).u (aD.s _) λd q v H' a b=>?_⟩;exact q _ _ _ ((R.T a).Y b)<|(Go.s a).t Go.Y
theorem Yr(h:tS G E (dW i f) W o H):ZZ (tN G E f) (HX i) W o H:=by
 refine ZT h λe M0 H0 ow m R q=>?_;refine⟨e,M0,H0,ow,m,R.tofc,(Ss.t R.tofc q).u (aD.s _) λd q p H' b n c=>?_⟩;by_cases a:i<m.length
 .rw[if_pos a] at q;exact q _ _ _ (R.we b n (R.tofc.Ob n) c a)<|Go.we b n
 rw[if_neg a] at q;exact q.elim
theorem I7(o:X.N.Nodup)(I:X.N[i]? = some x)(J:k6 X.d.scope x)(he:FE X E e f)(U:autoParam (eM e (some<|.Name x pos') pos.line X.d=pure false) YO)
  (C:autoParam (X.i x=true\/X.d.scope.names.lookup x=some .local) iv):FS X E (.Assign [.Name x pos'] e pos) (aW i f):=bN (Dp o I J he U C) λ_ _ _ h=>Q8 h
theorem Yk(o:X.N.Nodup)(I:X.N[i]? = some x)(J:k6 X.d.scope x)(he:FN X E e f)(U:autoParam (eM e (some<|.Name x pos') pos.line X.d=pure false) YO)
  (C:autoParam (X.i x=true\/X.d.scope.names.lookup x=some .local) iv):FS X E (.Assign [.Name x pos'] e pos) (dW i f):=bN (Dp o I J he U C) λ_ _ _ h=>Yr h
theorem yl(C:FE X E e f)(o:autoParam (eM e none pos.line X.d=pure false) YO):FS X E (.Expr e pos) (qv f):=bN (yq C o) λW g H c=>cC c λb M0 H0 ow m R q=>
 ⟨b,M0,H0,ow,m,R.tofc,(Ss.t R.tofc q).u (aD.s _) λd q v H' a h=>q _ _ _ (R.T a)<|Go.s a⟩
theorem cP(o:FE X E e f):FS X E (.Return (some e) pos) (aU f):=bN (Ko o) λW j H i=>cC i λk M0 H0 ow m R q=>by
 refine oj R.V λa b h=>?_;exact⟨k,M0,H0,a,m.V,b.tofc,(Ss.t b.tofc<|Ss.Y q h).u (aD.s _) λd q v H' c g=>q v a j H' (b.T c) (Go.s c) g λz=>by cases z⟩
theorem qM(o:FN X E e f):FS X E (.Return (some e) pos) (jT f):=bN (Ko o) λW k H j=>cC j λl M0 H0 ow m R q=>by
 refine oj R.V λa c i=>?_;exact⟨l,M0,H0,a,m.V,c.tofc,(Ss.t c.tofc<|Ss.Y q i).u (aD.s _) λd q p H' h n g=>
  q _ a k H' (c.T h) (Go.s h) ((g.N λb z=>.inl<|.inl z).r<|c.tofc.Nr n) λ_=>.inl ⟨p,rfl,c.tofc.Ob n,g⟩⟩
theorem xZ  i (I:autoParam (X.N[i]? = some x) YO)(o:autoParam (i' X.d.scope x) YR)(hd:autoParam ((x==("__debug__":Str))=false) YI)
  (C:autoParam ((x==("__classdict__":Str))=false) YI):FS X E (.Return (some<|.Name x pos') pos) (uU i):=bN (Ko<|iG I o hd C) λW k H u=>cC u λy M0 H0 ow m R q=>by
 refine oj R.V λc f g=>?_;unfold uU at q;cases z:m[i]? with
 |none=>rw[z] at q;exact q.elim
 |some s=>
  rw[z] at q;have n:m.V[i]? = some s.V:=by unfold Me.V;rw[aT,z];rfl
  cases s with
  |f d=>
   obtain⟨_,v,e,o⟩:=f.S i _ n;exact⟨v,e,q v c k H f g o λz=>by cases z⟩
  |o d=>
   obtain⟨_,v,e,o⟩:=f.S i _ n;refine ZB (R.S i _ z) λa t r l p=>?_;rw[l] at e;cases e;refine⟨_,l,q _ c k H f g o λ_=>.inl ⟨a,rfl,r,p.N λb w=>.inl ?_⟩⟩;rcases w with w|w
   .rcases w with w|⟨j,w⟩
    .exact .inl w
    rcases g.O j b w with h|h
    .exact h
    have:=f.W b (.inr ⟨j,w⟩)
    rw[h] at this;rcases this with⟨_,e⟩|⟨_,e⟩|⟨_,e⟩|⟨_,e⟩<;>cases e
   rw[w];exact .inr ⟨i,t⟩
  |_=>exact q.elim
theorem dm(o:FT X E c ft)(I:ii X E sa ga)(C:ii X E sb gb):FS X E (.If c sa sb pos) (ax ft ga gb):=bN (OP o I C) λW f H e=>cC e λd M0 H0 ow m R q=>
 ⟨d,M0,H0,ow,m,R.tofc,(Ss.t R.tofc q).u (aD.s _) λb q H' a=>by
  cases b with
  |true=>rw[if_pos rfl] at q ⊢;exact⟨d,M0,H0,ow,m,R.T a,Ss.Y q<|Go.s a⟩
  |false=>rw[if_neg a8] at q ⊢;exact⟨d,M0,H0,ow,m,R.T a,Ss.Y q<|Go.s a⟩⟩
noncomputable def wh(t:oa)(b:ap):Nat->Me->Option (bd<|Fl×Me)
 |0,_=>none
 |n+1,m=>match t m with
  | .R true=>match b m with
   | .R (.n,m')=>wh t b n m'
   | .R (.c,m')=>wh t b n m'
   | .R (.bk,m')=>some<|.R (.n,m')
   | .R (.r fr d,m')=>some<|.R (.r fr d,m')
   | .A c=>some<|.A c
   | .b=>some .b
  | .R false=>some<|.R (.n,m)
  | .A c=>some<|.A c
  | .b=>some .b
theorem VF:∀{n:Nat} {m:Me} {r:bd (Fl×Me)},wh t b n m=some r->wh t b (n+1) m=some r
 |0,_,_,h=>by cases h
 |n+1,m,r,h=>by
  have g:=@VF t b n;unfold wh at h ⊢;split
  .rename_i e;rw[e] at h;split
   .rename_i f a;rw[a] at h;exact g h
   .rename_i f a;rw[a] at h;exact g h
   .rename_i f a;rw[a] at h;exact h
   .rename_i i d f a;rw[a] at h;exact h
   .rename_i c a;rw[a] at h;exact h
   rename_i a;rw[a] at h;exact h
  .rename_i e;rw[e] at h;exact h
  .rename_i e;rw[e] at h;exact h
  rename_i e;rw[e] at h;exact h
theorem RL(h:wh t b n m=some r):∀k,wh t b (n+k) m=some r
 |0=>h
 |k+1=>VF<|RL h k
open Classical in
def qw(t:oa)(b:ap):ap:=λm=>
 if h:∃n r,wh t b n m=some r then ku (eT h) else .b
theorem WY(h:qw t b m≠.b):∃n,wh t b n m=some (qw t b m):=by
 unfold qw at h ⊢;split at h
 .rename_i q;rw[dif_pos q];exact⟨_,eT<|eT q⟩
 exact absurd rfl h
theorem yr n(h:wh t b n m=some r):qw t b m=r:=by
 unfold qw;have q:∃n r,wh t b n m=some r:=⟨n,r,h⟩;rw[dif_pos q];have z:=eT<|eT q;have a:=RL z n;have c:=RL h<|ku q;rw[Nat.add_comm] at c;rw[a] at c;exact cE c
theorem Ao(J:zI (cK X.p X.w) X.A X.d X.g)(U:FT X E c ft)(hb:ii X E I g):FS X E (.While c I [] pos) (qw ft g):=bN (YW J U hb) λW O H K=>cC K λp M0 H0 ow m R q=>by
 obtain⟨n,N⟩:=WY (t:=ft) (b:=g) (m:=m) (λz=>by rw[z] at q;exact q);generalize qw ft g m=r at *;refine⟨λn h H'=>∃f j,dg (gx X) p M0 H0 f h H' j/\Go p ow H f H'/\wh ft g n j=some r,⟨n,ow,m,R,Go.s<|aD.s _,N⟩,?_⟩;intro n M H1 zr3;obtain⟨u,s,B,G,i⟩:=zr3;cases n with
 |zero=>cases i
 |succ n=>
  refine⟨p,M0,H0,u,s,B.tofc,?_⟩;unfold wh at i;cases e:ft s with
  |A c=>
   rw[e] at i;cases i;exact λC H' e k=>q C H' e λb o e n=>k b o<|B.Z b o e n
  |b=>rw[e] at i;cases i;exact q.elim
  |R t=>
   rw[e] at i;intro P F;have R2:=B.T F;have x:=G.t<|Go.s F;cases t with
   |false=>
    cases i;rw[if_neg a8];exact q _ _ _ R2 x
   |true=>
    rw[if_pos rfl];have i:(match g s with
     | .R (.n,j)=>wh ft g n j
     | .R (.c,j)=>wh ft g n j
     | .R (.bk,j)=>some<|.R (.n,j)
     | .R (.r fr d,j)=>some<|.R (.r fr d,j)
     | .A c=>some<|.A c
     | .b=>some .b)=some r:=i
    refine⟨λh H'=>∃f j,dg (gx X) p M0 H0 f h H' j/\Go p ow H f H'/\wh ft g n j=some r,λh H' z=>⟨n,zi _,z⟩,p,M0,H0,u,s,R2,?_⟩;cases y:g s with
    |A c=>rw[y] at i;cases i;exact q
    |b=>rw[y] at i;cases i;exact q
    |R a=>
     obtain⟨L,D⟩:=a;rw[y] at i;cases L with
     |n=>exact λf h H' l k=>⟨f,D,l,x.t k,i⟩
     |c=>exact λf h H' l k=>⟨f,D,l,x.t k,i⟩
     |bk=>cases i;exact λf h H' l k=>q f h H' l<|x.t k
     |r fr d=>cases i;exact λv f h H' l k=>q v f h H' l<|x.t k
end
def JO(m m':Me):Prop:=(∀(j:Nat) (d:D),m[j]?≠some (Sl.b d))->∀(j:Nat) (d:D),m'[j]?≠some (Sl.b d)
def tG(G:Gx)(k:Nat)(h:pv):TG:=λv c H Q=>∃O0 M0 H0 ow m d m',fc G O0 M0 H0 ow c H m/\DV G (Ow O0 ow) H v d/\h d m=some m'/\
 ∀b a,fc G O0 M0 H0 b a H m'->Go O0 ow H b H->JO m m'->a.drop k=c.drop k->Q a H
def Kn(G:Gx)(k:Nat)(h:List D->Me->Option Me):wP:=λd c H Q=>∃O0 M0 H0 ow m ds m',fc G O0 M0 H0 ow c H m/\bi G (Ow O0 ow) H d ds/\h ds m=some m'/\
 ∀b a,fc G O0 M0 H0 b a H m'->Go O0 ow H b H->JO m m'->a.drop k=c.drop k->Q a H
abbrev FG(X:Cx)(k:Nat)(o:Expr)(h:pv):Prop:=PG X o<|tG (gx X) k h
abbrev w_(X:Cx)(k:Nat)(o:List Expr)(h:List D->Me->Option Me):Prop:=wc X o<|Kn (gx X) k h
theorem T8(h:PG X e T)(k:∀v o H Q,C v o H Q->T v o H Q):PG X e C:=λa s o H v u Q I r q=>h a s o H v u Q I r<|k v o H Q q
theorem Qj(h:wc X es T)(k:∀v o H Q,C v o H Q->T v o H Q):wc X es C:=λa s o H v u Q I r q=>h a s o H v u Q I r<|k v o H Q q
noncomputable def ad(i:Nat):pv:=λd m=>some<|m.set i<|.f d
noncomputable def dU:List D->Me->Option Me
 |[],m=>some m
 |_,_=>none
noncomputable def aL(h:pv)(o:List D->Me->Option Me):List D->Me->Option Me
 |d::ds,m=>(h d m).bind λm'=>o ds m'
 |_,_=>none
noncomputable def dO(n:Nat)(o:List D->Me->Option Me):pv
 | .w ds,m=>if ds.length=n then o ds m else none
 |_,_=>none
section
variable {X:Cx}{pos:Pos}
theorem Tj(o:X.N.Nodup)(J:X.N[i]? = some x)(C:k6 X.d.scope x)(hk:autoParam (i<k) YI)(I:autoParam (X.i x=true\/X.d.scope.names.lookup x=some .local) iv):FG X k (.Name x pos) (ad i):=
 T8 (UY o J C I) λv g H Q c=>BT c λh M0 H0 ow m d f R b e q=>by
  cases e;refine q _ _ (R.Y b) Go.Y (λa=>CN a λ_ z=>by cases z) ?_;rw[List.drop_set,if_pos<|by omega]
theorem Lf:w_ X k [] dU:=Qj UE λi f H Q b=>BT b λg M0 H0 ow m h d R c e q=>by
 cases c with
 |f=>cases e;exact⟨rfl,q _ _ R (Go.s<|aD.s _) id rfl⟩
 |e a t=>cases e
theorem xX(I:FG X k e h)(C:w_ X k es hs)(o:autoParam ((ja (e::es) X.d).map (·.2)=sF e X.d::(ja es X.d).map (·.2)) YO):w_ X k (e::es) (aL h hs):=
 Qj (XU I C o) λE D H Q w=>BT w λr M0 H0 ow m B b R u e q=>by
  cases u with
  |f=>cases e
  | @e v vs' d ds' a t=>
   have c:(h d m).bind (λb=>hs _ b)=some b:=e;cases g:h d m with
   |none=>rw[g] at c;cases c
   |some m1=>
    rw[g] at c;exact⟨v,_,rfl,r,M0,H0,ow,m,d,m1,R,a,g,λf y A p s hd=>⟨r,M0,H0,f,m1,_,b,A,t.Y R.W p.k,c,λn l R2 x i j=>q n l R2 (p.t x) (λz=>i<|s z)<|j.trans hd⟩⟩
theorem Ro{j:Nat}(C:X.f=true)(h:w_ X k es hs)(I:autoParam ((ja es X.d).length=n) YO)(o:autoParam ((ja es X.d).findIdx? (·.1)=none) YO):FG X k (.Tuple es j pos) (dO n hs):=
 T8 (Pv C h I o) λv r H Q p=>BT p λl M0 H0 ow m d c R i e q=>by
  cases d with
  |w ds=>
   refine Y_ (zu<|.inl i) λa f zq2 g hd=>?_;subst zq2;have b:(if ds.length=n then hs ds m else none)=some c:=e;by_cases z:ds.length=n
   .rw[if_pos z] at b;exact⟨a,f,rfl,g,by rw[bK hd];exact z,l,M0,H0,ow,m,ds,c,R,hd,b,q⟩
   rw[if_neg z] at b;cases b
  |_=>cases e
end
noncomputable def Wj(f:bv)(h:pv):ap:=λm=>(f m).s λd=>(b6<|h d m).s λm'=>.R (.n,m')
theorem Rb{f:bv}{C:Pos}(he:FE X E e f)(hg:FG X k o h)(I:autoParam (lh [o] e C.line X.d=pure false) YO)(U:autoParam (lj [o] e X.d=pure none) YO)
  (J:autoParam ((ja [o] X.d).map (·.2)=[sF o X.d]) YO):FS X E (.Assign [o] e C) (Wj f h):=bN (KN he hg I U J) λW s H j=>cC j λb M0 H0 ow m R q=>
 ⟨b,M0,H0,ow,m,R.tofc,(Ss.t R.tofc q).u (aD.s _) λd q v H' a i=>by
  refine oj (Ss.l q) λl e q=>?_;exact⟨b,M0,H0,ow,m,d,l,(R.T a).tofc,i,e,λc p r n g _=>q _ _ _ ⟨r,g R.nb⟩<|(Go.s a).t n⟩⟩
def Hc(G:Gx)(J:It)(ds:List D)(P:(hD)->Hp->Prop):Prop:=∀O H,P O H->
 (∀i,i<ds.length->J.Y i H)/\(∀i x H',i<ds.length->J.y i H x H'->aD H H'/\∃d,ds[i]? = some d/\DV G O H' x d)/\J.s ds.length H
def tI(G:Gx)(E:XK)(f:g7):TI:=λa H R=>∃O0 M0 H0 ow m,fc G O0 M0 H0 ow a H m/\Pu G E (f m) H λds=>∀J H',aD H H'->Hc G J ds (λO b=>Ev (Ow O0 ow) H' O b)->R J H'
def Fm(G:Gx)(E:XK)(f:g7):TI:=λa H R=>∃O0 M0 H0 ow m,fc G O0 M0 H0 ow a H m/\Pu G E (f m) H λds=>∀J H',aD H H'->Hc G J ds (λO c=>(∀b,O b->Ow O0 ow b\/H' b=none)/\aD H' c)->R J H'
abbrev FI(X:Cx)(E:XK)(o e:Expr)(f:g7):Prop:=PI fE X o e<|tI (gx X) E f
abbrev vp(X:Cx)(E:XK)(o e:Expr)(f:g7):Prop:=PI fE X o e<|Fm (gx X) E f
theorem sZ(h:PI fE X C e T)(k:∀o H R,J o H R->T o H R):PI fE X C e J:=λa s o H R I q=>h a s o H R I<|k o H R q
noncomputable def cT(f:bv):g7:=λm=>(f m).s λd=>match d with
 | .P ds=>.R ds
 |_=>.b
noncomputable def lC(f:bv):g7:=λm=>(f m).s λd=>match d with
 | .w ds=>.R ds
 |_=>.b
noncomputable def yH(f:g7):g7:=λm=>(f m).s λd=>match d with
 |[.l j]=>if -(2^62)<=j/\j<2^62 then .R ((dc j.toNat).map λ(i:Nat)=>D.l i) else .b
 |_=>.b
noncomputable def Ug(f:g7):g7:=λm=>(f m).s λd=>match d with
 |[.l i,.l j]=>if -(2^62)<=i/\i<2^62/\-(2^62)<=j/\j<2^62 then .R ((dc (j-i).toNat).map λ(k:Nat)=>D.l<|i+k) else .b
 |_=>.b
theorem Su(m:∀b,O b->jc (H b))(C:kv G.K O H a xs)(hd:bi G O H xs ds):Hc G (z_ G.K a) ds (λO' o=>Ev O H O' o):=by
 intro O' o ev;have f:=(Bv ev.2 C).s;have c:=hd.Y m ev;have k:=bK hd;refine⟨λi j=>⟨xs,xs[i]'(by omega),f,by simp⟩,λi x H' j y=>?_,xs,f,by omega⟩;obtain⟨e,y⟩:=y;subst e;refine oj (Bw c<|y xs f) λd h g=>?_;exact⟨aD.s _,d,h,g⟩
theorem Y5(m:∀b,O b->jc (H b))(C:eO G.K H a xs)(hd:bi G O H xs ds):Hc G (z_ G.K a) ds (λO' o=>(∀b,O' b->O b\/H b=none)/\aD H o):=by
 intro O' o ⟨sub,g⟩;have f:=Qg C g;have c:=hd.Y m ⟨sub,.c g⟩;have l:=bK hd;refine⟨λi k=>⟨xs,xs[i]'(by omega),f,by simp⟩,λi x H' k y=>?_,xs,f,by omega⟩;obtain⟨e,y⟩:=y;subst e;obtain⟨d,j,h⟩:=Bw c<|y xs f;exact⟨aD.s _,d,j,h⟩
theorem IP(m:∀b,O b->jc (H b))(C:h_ G.K H a xs)(hd:bi G O H xs ds):Hc G (D_ G.K a) ds (λO' o=>Ev O H O' o):=by
 intro O' o ev;have f:=Pd m ev.2 C;have c:=hd.Y m ev;have k:=bK hd;refine⟨λi j=>⟨xs,xs[i]'(by omega),f,by simp⟩,λi x H' j y=>?_,xs,f,by omega⟩;obtain⟨e,y⟩:=y;subst e;refine oj (Bw c<|y xs f) λd h g=>?_;exact⟨aD.s _,d,h,g⟩
theorem Hc.weak(h:Hc G J ds (λO' o=>Ev O H O' o)):Hc G J ds (λO' o=>(∀b,O' b->O b\/H b=none)/\aD H o):=
 (by rintro O' o ⟨s,g⟩;exact h O' o ⟨s,.c g⟩)
theorem Oh{lo:Int}:Hc G (z7 lo n) ((dc n).map λ(k:Nat)=>D.l<|lo+k) P:=by
 intro O H _;refine⟨λi b=>(show i<n by simpa using b),λi x H' b y=>?_,by show n<=_;simp⟩;obtain⟨e,y⟩:=y;subst e y;have a:i<n:=by simpa using b
 exact⟨aD.s _,_,by simp[aT,tP a],.l _⟩
section
variable {tg:Expr}{f:bv}{fs:g7}{p pos:Pos}
theorem Fv(h:FE X E e f):FI X E tg e (cT f):=sZ (VH h) λj H R c=>cC c λb M0 H0 ow m a q=>⟨b,M0,H0,ow,m,a,q.s.u (aD.s _) λd q v H' g i=>by
 cases d with
 |P ds=>
  cases i with
  |P hl hd=>exact⟨_,rfl,⟨_,hl.s⟩,q _ H' g<|Su (a.T g).W hl hd⟩
 |_=>exact q.elim⟩
theorem ZJ(h:FE X E e f):FI X E tg e (lC f):=sZ (Pf h) λj H R c=>cC c λb M0 H0 ow m a q=>⟨b,M0,H0,ow,m,a,q.s.u (aD.s _) λd q v H' g i=>by
 cases d with
 |w ds=>
  cases i with
  |w hl hd=>exact⟨_,rfl,⟨_,hl.s⟩,q _ H' g<|IP (a.T g).W hl.s hd⟩
 |_=>exact q.elim⟩
theorem oJ(h:FB X E e f):vp X E tg e (cT f):=sZ (VH h) λn H R j=>cC j λk M0 H0 ow m b q=>⟨k,M0,H0,ow,m,b,q.s.u (aD.s _) λd q v H' g i=>by
 cases d with
 |P ds=>
  refine Y_ (iV i) λa l zq2 c hd=>?_;subst zq2;exact⟨a,rfl,⟨_,c⟩,q _ H' g<|Y5 (b.T g).W c hd⟩
 |_=>exact q.elim⟩
theorem Yu(h:FI X E tg e o):vp X E tg e o:=sZ h λf H R c=>cC c λa M0 H0 ow m b q=>⟨a,M0,H0,ow,m,b,q.u (aD.s _) λi q J H' g d=>q J H' g d.weak⟩
theorem Kc(J:Gl X "range")(o:X.m "range" = none)(C:mm X E [a] fs)(I:autoParam (ag [a] X.d=[(false,eval a X.d)]) YO):FI X E tg (.Call (.Name "range" p) [a] [] pos) (yH fs):=
 sZ (Wq J o C I) λt H R i=>cC i λb M0 H0 ow m r q=>⟨b,M0,H0,ow,m,r,q.s.u (aD.s _) λf q l H' g e=>by
  cases e with
  |f=>exact q.elim
  | @e v l d f h1 h2=>
   cases h2 with
   |e _ _=>cases d<;>exact q.elim
   |f=>
    cases d with
    |l j=>
     cases bM h1;obtain⟨⟨h,c⟩,k⟩:=Jx q;refine⟨j,rfl,h,c,k _ H' g ?_⟩
     have:=Oh (G:=gx X) (lo:=0) (n:=j.toNat) (P:=λO s=>Ev (Ow b ow) H' O s)
     simpa using this
    |_=>exact q.elim⟩
theorem Xi(U:Gl X "range")(C:X.m "range" = none)(I:mm X E [a,b] fs)(J:autoParam (ag [a,b] X.d=[(false,eval a X.d),(false,eval b X.d)]) YO)(o:autoParam (ag [b] X.d=[(false,eval b X.d)]) YO):FI X E tg (.Call (.Name "range" p) [a,b] [] pos) (Ug fs):=
 sZ (Wi U C I J o) λn H R l=>cC l λh M0 H0 ow m i q=>⟨h,M0,H0,ow,m,i,q.s.u (aD.s _) λs q r H' g f=>by
  split at q
  .cases f with
   |e h1 t=>cases t with
    |e h2 t=>
     cases t;cases bM h1;cases bM h2;obtain⟨⟨j,d,c,e⟩,k⟩:=Jx q;exact⟨_,_,rfl,⟨j,d,c,e⟩,k _ H' g Oh⟩
  exact q.elim⟩
end
noncomputable def bF(h:pv)(g:ap):List D->ap
 |[],m=>.R (.n,m)
 |d::ds,m=>match h d m with
  |none=>.b
  |some m1=>match g m1 with
   | .R (.n,m2)=>bF h g ds m2
   | .R (.c,m2)=>bF h g ds m2
   | .R (.bk,m2)=>.R (.n,m2)
   | .R (.r fr v,m2)=>.R (.r fr v,m2)
   | .A c=>.A c
   | .b=>.b
def eY(o:g7)(h:pv)(g:ap):ap:=λm=>(o m).s λds=>bF h g ds m
theorem Mu(hp:zI (cK X.p X.w) X.A X.d X.g)(hc:Cm X)(hi:PI Cm X I o (tI (gx X) E fi))(hg:FG X k I h)(hb:ii X E C g)
  (hs:autoParam (∀x,ip o X.d x=pure x) YN):FS X E (.For I o C [] U) (eY fi h g):=bN (PH hp hc hi hg hb hs) λW σ H hE=>cC hE λD M0 H0 ow m R q=>
 ⟨D,M0,H0,ow,m,R.tofc,(Ss.t R.tofc q).u (aD.s _) λt q J H1 V it=>by
  have R1:=R.T V;have F:=Ss.Y q<|Go.s V;generalize hr:bF h g t m=r at *;refine⟨λi n s H'=>∃b u,dg (gx X) D M0 H0 b s H' u/\Go D ow H1 b H'/\n=t.length-i/\i<=t.length/\bF h g (t.drop i) u=r,⟨_,ow,m,R1,Go.s<|aD.s _,rfl,eK _,hr⟩,?_⟩;intro i n O Z zr4;refine Z' zr4 λK T R2 Q zq4 hi f=>?_;subst zq4;refine ZI (it _ Z Q.k) λi1 i2 i3=>?_;by_cases p:i<t.length
  .refine .inr ⟨i1 i p,λs H'=>∃b u,dg (gx X) D M0 H0 b s H' u/\Go D ow H1 b H'/\bF h g (t.drop<|i+1) u=r,(by intro s H' zr2;refine Y_ zr2 λb u S P e'=>?_;exact ⟨t.length-(i+1),by omega,b,u,S,P,rfl,p,e'⟩),λx H3 y=>?_⟩;obtain⟨Y,d,hd,dv⟩:=i2 i x H3 p y;have ed:t.drop i=d::t.drop (i+1):=by
    rw[nK p];rw[ay p] at hd;cases hd;rfl
   rw[ed] at f;unfold bF at f;cases M:h d T with
   |none=>rw[M] at f;subst f;exact F.elim
   |some m3=>
    rw[M] at f;refine⟨D,M0,H0,K,T,d,m3,(R2.T Y).tofc,dv,M,λb s S P nb _=>?_⟩;have L:=(Q.t<|Go.s Y).t P;refine⟨D,M0,H0,b,m3,⟨S,nb R2.nb⟩,?_⟩;cases N:g m3 with
    |A c=>simp only[N] at f;subst f;exact F
    |b=>simp only[N] at f;subst f;exact F
    |R a=>
     obtain⟨f4,m4⟩:=a;simp only[N] at f;cases f4 with
     |n=>exact λj l G z B=>⟨j,m4,z,L.t B,f⟩
     |c=>exact λj l G z B=>⟨j,m4,z,L.t B,f⟩
     |bk=>subst f;exact λj l G z B=>F j l G z<|L.t B
     |r fr v=>subst f;exact λv j l G z B=>F v j l G z<|L.t B
  have e:i=t.length:=by omega
  subst e;rw[List.drop_length] at f;unfold bF at f;subst f;exact .inl ⟨i3,F K O Z R2 Q⟩⟩
theorem Sc(hp:zI (cK X.p X.w) X.A X.d X.g)(hc:X.f=true)(hi:FI X E I o U)(hg:FG X k I h)(hb:ii X E C g)
  (hs:autoParam (∀x,ip o X.d x=pure x) YN):FS X E (.For I o C [] J) (eY U h g):=Mu hp hc hi hg hb hs
def Sl.c:Sl->Sl
 | .o d=>.b d
 | .i d=>.b d
 | .g _ _ _=>.S
 |s=>s
def hH(k:Nat)(cap:List Nat)(m:Me):Me:=dA k .S++cap.map λj=>(m.getD j .S).c
noncomputable def eZ(h:pv)(ft:oa)(fe:bv)(m0:Me):List D->bd (List D)
 |[]=>.R []
 |d::ds=>match h d m0 with
  |none=>.b
  |some m1=>match ft m1 with
   | .R true=>match fe m1 with
    | .R y=>match eZ h ft fe m0 ds with
     | .R ys=>.R (y::ys)
     |_=>.b
    |_=>.b
   | .R false=>eZ h ft fe m0 ds
   |_=>.b
def bU(k:Nat)(cap:List Nat)(o:g7)(h:pv)(ft:oa)(fe:bv):bv:=λm=>(o m).s λds=>
 if ds.length<=aw then match eZ h ft fe (hH k cap m) ds with
  | .R ys=>.R<|.P ys
  |_=>.b
 else .b
abbrev V8(X:Cx)(E:XK)(o:List Expr)(f:oa):Prop:=WX X o<|tT (gx X) E f
def jn:oa:=λ_=>.R true
theorem cW:V8 X E [] jn:=λb s a H Q I c=>cC c λd M0 H0 ow m R q=>VA b s a H Q I<|q H<|aD.s _
theorem Bl(h:FT X E c f):V8 X E [c] f:=(λb s a H Q I q=>wpAny_tests_one<|h b s a H Q I q)
theorem XQ(R:fc G O0 M0 H0 ow σ H m)(g:aD H H2)(C:H l=none)(hz:H2 l=some (.P zs)):
  fc G (Op (Ow O0 ow) l) (λ_=>False) (λ_=>none) (λ_=>none) (sh k cap σ) H2 (hH k cap m):=by
 have sub:∀b,Ow (Op (Ow O0 ow) l) (λ_=>none) b->Ow O0 ow b\/H b=none:=λb z=>by
  rw[BX] at z;exact z.elim .inl λe=>.inr (by rw[e];exact C)
 have f:∀b,Ow O0 ow b->Ow (Op (Ow O0 ow) l) (λ_=>none) b:=λb z=>.inl<|.inl z;refine⟨by simp[sh,hH],λb o e _=>(by cases e),λb z=>z.elim,λb z=>?_,λi a e=>(by cases e),λi j a e=>(by cases e),λ_ _=>rfl,λi s e=>?_⟩
 .rw[BX] at z;rcases z with z|z
  .exact Cr g<|R.W b z
  rw[z,hz];exact .inl ⟨zs,rfl⟩
 unfold hH at e;by_cases v:i<k
 .rw[dr (by simpa using v),gS,if_pos v] at e;cases e;rfl
 rw[dE (by simp;lia),gL,aT] at e;have h:(sh k cap σ)[i]? = (cap[i-k]?).map λj=>(σ[j]?).join:=by
  unfold sh;rw[dE (by simp;lia),gL,aT]
 cases u:cap[i-k]? with
 |none=>rw[u] at e;cases e
 |some j=>
  rw[u] at e h;rw[h];cases q:m[j]? with
  |none=>
   have:m.getD j .S=.S:=by simp[List.getD,q]
   rw[iE,this] at e;cases e;rfl
  |some s0=>
   have:m.getD j .S=s0:=by simp[List.getD,q]
   rw[iE,this] at e;cases e;have z:=R.S j s0 q;cases s0 with
   |S=>rfl
   |f d=>
    obtain⟨_,x,n,c⟩:=z;exact⟨rfl,x,by rw[iE,n];rfl,(c.N sub).T g⟩
   |o d=>
    refine Eb z λa r y t p=>?_;exact⟨rfl,_,by rw[iE,t];rfl,.inr ⟨a,rfl,f a<|.inr ⟨j,r⟩,(p.N sub).T g⟩⟩
   |i d=>
    refine Eb z λa r y t p=>?_;exact⟨rfl,_,by rw[iE,t];rfl,.inr ⟨a,rfl,f a<|.inr ⟨j,r⟩,(p.N sub).T g⟩⟩
   |b d=>
    obtain⟨_,x,n,c⟩:=z;refine⟨rfl,x,by rw[iE,n];rfl,?_⟩;rcases c with c|⟨a,A,o,c⟩
    .exact .inl<|(c.N sub).T g
    exact .inr ⟨a,A,f a o,(c.N sub).T g⟩
   |g w a d=>rfl
theorem Lp(hq:tN (gx X) E (bU k cap fi h ft fe) σ H Q):Vo k cap (Fm (gx X) E fi) (tG (gx X) k h) (tT (gx X) E0 ft) (tE (gx X) E0 fe) σ H Q:=by
 refine Ph hq λw M0 H0 ow m R q=>?_;refine⟨w,M0,H0,ow,m,R,q.s.u (aD.s _) λj q J H1 S it l W=>?_⟩;obtain⟨hz,q⟩:=Cv q;cases T:eZ h ft fe _ j with
 |A c=>rw[T] at q;exact q.elim
 |b=>rw[T] at q;exact q.elim
 |R ys=>
  rw[T] at q;have O:H l=none:=S.Y W;have C:∀b,Op _ l b->Ow w ow b\/H1 b=none:=λb z=>z.elim .inl λe=>.inr (by rw[e];exact W);refine⟨λi n p H'=>n=j.length-i/\i<=j.length/\p.length<=i/\aD H1 H'/\H' l=some (.P p)/\∃F f,bi (gx X) (Op (Ow w ow) l) H' p F/\eZ h ft fe _ (j.drop i)=.R f/\F++f=ys,
   ⟨j.length,by simp,eK _,bb _,bH W _,aP,[],ys,.f,T,rfl⟩,?_⟩
  intro i n p H' zr4;obtain⟨rfl,hi,hzi,B,G,F,f,s,a,r⟩:=zr4;refine ZI (it _ H' ⟨C,B⟩) λi1 i2 i3=>?_;by_cases g:i<j.length
  .refine .inr ⟨i1 i g,λx H2 y=>?_⟩;obtain⟨A,d,hd,dv⟩:=i2 i x H2 g y;have ed:j.drop i=d::j.drop (i+1):=by
    rw[nK g];rw[ay g] at hd;cases hd;rfl
   rw[ed] at a;unfold eZ at a;cases Y:h d _ with
   |none=>rw[Y] at a;cases a
   |some m1=>
    rw[Y] at a;have G2:aD H H2:=(S.t B).t A;have R2:=XQ (k:=k) (cap:=cap) (l:=l) (zs:=p) R G2 O<|A _ _ G;refine⟨_,_,_,_,_,d,m1,R2,by rw[BX];exact dv,Y,λD σ' R' g' nb I=>⟨I,_,_,_,D,m1,R',?_⟩⟩;simp only[] at a;cases U:ft m1 with
    |A c=>rw[U] at a;cases a
    |b=>rw[U] at a;cases a
    |R t=>
     rw[U] at a;intro H3 L;cases t with
     |false=>
      rw[if_neg a8];exact⟨j.length-(i+1),by lia,rfl,g,by lia,(B.t A).t L,L _ _<|A _ _ G,F,f,s.T<|A.t L,a,r⟩
     |true=>
      rw[if_pos rfl];refine⟨_,_,_,D,m1,R'.T L,?_⟩;simp only[] at a;cases Z:fe m1 with
      |A c=>rw[Z] at a;cases a
      |b=>rw[Z] at a;cases a
      |R y'=>
       rw[Z] at a;intro v P g5 hv;simp only[] at a;cases V:eZ h ft fe (hH k cap m) (j.drop<|i+1) with
       |A c=>rw[V] at a;cases a
       |b=>rw[V] at a;cases a
       |R rest'=>
        rw[V] at a;cases a;have N:aD H' P:=(A.t L).t g5;have M:∀b,Op (Ow w ow) l b->jc (P b):=λb z=>by
         rcases z with z|z
         .exact Cr (((S.t B).t N))<|R.W b z
         rw[z,N _ _ G];exact .inl ⟨p,rfl⟩
        have K:Kp (Op (Ow w ow) l) P (upd P l<|.P<|p++[v]):=λb o e n=>by
         rw[bf<|show b≠l from λz=>n<|.inr z];exact e
        refine⟨N _ _ G,by lia,j.length-(i+1),by lia,rfl,g,by rw[bq,eS];lia,?_,aP,F++[y'],rest',?_,V,by rw[gu];exact r⟩
        .exact VI ((ND<|B.t N).t (λb u n e=>by rw[bf n];exact e)) W
        exact lu ((s.T N).R M K)<|.e ((hv.N λb z=>.inl<|.inl z).R M K) .f
  have e:i=j.length:=by lia
  subst e;rw[List.drop_length] at a;cases a;rw[c9] at r;subst r;exact .inl ⟨i3,q l H' (S.t B) O ⟨p,G,s⟩⟩
theorem ie sc J o k cap(I:X.f=true)(S:vu sc scope o)(hcap:kL (λj x=>X.N[j]? = some x) cap o)
  (hi:vp X E tg iter fi) (hg:∀cl C sE HE fp U,FG (dh X J scope cl C sE HE fp U) k tg h) (ht:∀cl C sE HE fp U,V8 (dh X J scope cl C sE HE fp U) E0 ifs ft) (he:∀cl C sE HE fp U,FE (dh X J scope cl C sE HE fp U) E0 elt fe)
  (hsc:autoParam (X.d.scope=sc) YO) (hN:autoParam (J.drop k=o) YO) (hk:autoParam (k<=J.length) YI) (hs:autoParam (∀x,ip iter X.d x=pure x) YN):
  FN X E (.ListComp elt [⟨tg,iter,ifs,0⟩] scope pos) (bU k cap fi h ft fe):=bA (S1 sc J o k _ I S hcap hi hg ht he hsc hN hk hs) λ_ _ _ q=>Lp q
theorem rQ sc U I k cap(hnd:X.N.Nodup)(hi':X.N[i]? = some y)(hy:k6 X.d.scope y)(J:X.f=true)(S:vu sc scope I)(hcap:kL (λj x=>X.N[j]? = some x) cap I)
  (hi:vp X E tg iter fi) (hg:∀cl C sE HE fp π,FG (dh X U scope cl C sE HE fp π) k tg h) (ht:∀cl C sE HE fp π,V8 (dh X U scope cl C sE HE fp π) E0 ifs ft) (he:∀cl C sE HE fp π,FE (dh X U scope cl C sE HE fp π) E0 elt fe)
  (δ:autoParam (eM (.ListComp elt [⟨tg,iter,ifs,0⟩] scope pos) (some<|.Name y py) spos.line X.d=pure true) YO)
  (hsc:autoParam (X.d.scope=sc) YO) (hN:autoParam (U.drop k=I) YO) (hk:autoParam (k<=U.length) YI) (hs:autoParam (∀x,ip iter X.d x=pure x) YN)
  (hf:autoParam (X.i y=true\/X.d.scope.names.lookup y=some .local) iv):
  FS X E (.Assign [.Name y py] (.ListComp elt [⟨tg,iter,ifs,0⟩] scope pos) spos) (aW i<|bU k cap fi h ft fe):=
 bN (Hu sc U I k _ hnd hi' hy J S hcap hi hg ht he δ hsc hN hk hs hf) λW a H q=>by
  refine Lp (h:=h) (ft:=ft) (fe:=fe) ?_;refine Ph (Q8 q) λc M0 H0 ow m R q=>?_;exact⟨c,M0,H0,ow,m,R,q.u (aD.s _) λ_ k p H' g n o=>k _ H' g<|(o.N λb z=>.inl<|.inl z).r<|R.Nr n⟩
theorem Rj sc J o k cap(hnd:X.N.Nodup)(hi':X.N[i]? = some y)(hy:k6 X.d.scope y)(I:X.f=true)(S:vu sc scope o)(hcap:kL (λj x=>X.N[j]? = some x) cap o)
  (hi:vp X E tg iter fi) (hg:∀cl C sE HE fp U,FG (dh X J scope cl C sE HE fp U) k tg h) (ht:∀cl C sE HE fp U,V8 (dh X J scope cl C sE HE fp U) E0 ifs ft) (he:∀cl C sE HE fp U,FE (dh X J scope cl C sE HE fp U) E0 elt fe)
  (δ:autoParam (eM (.ListComp elt [⟨tg,iter,ifs,0⟩] scope pos) (some<|.Name y py) spos.line X.d=pure true) YO)
  (hsc:autoParam (X.d.scope=sc) YO) (hN:autoParam (J.drop k=o) YO) (hk:autoParam (k<=J.length) YI) (hs:autoParam (∀x,ip iter X.d x=pure x) YN)
  (hf:autoParam (X.i y=true\/X.d.scope.names.lookup y=some .local) iv):
  FS X E (.Assign [.Name y py] (.ListComp elt [⟨tg,iter,ifs,0⟩] scope pos) spos) (dW i<|bU k cap fi h ft fe):=
 bN (Hu sc J o k _ hnd hi' hy I S hcap hi hg ht he δ hsc hN hk hs hf) λW a H q=>Lp<|Yr q
def sw(G:Gx)(Φ:b8):Sp:=λa H Q E=>∃O ds,(∀b,O b->jc (H b))/\bi G O H a ds/\Pu G E (Φ ds) H λr=>∀v H',aD H H'->DV G O H' v r.2->(r.1=true->Fr G O H v H' r.2)->Q v H'
noncomputable def aV(N n:Nat)(g:ap):b8:=λds=>if ds.length=n then match g (ds.map Sl.f++dA (N-n) Sl.S) with
  | .R (.r fr d,_)=>.R (fr,d)
  | .R (.n,_)=>.R (false,.E)
  | .A c=>.A c
  |_=>.b
 else .b
abbrev FF(P:b9)(w:eI)(K:bg)(mg:eR)(o:Heap)(k:Nat)(x:Str)(C:List Str)(Φ:b8):Prop:=Hd.Fn P w K mg o k x C<|sw ⟨K,mg⟩ Φ
theorem JR(C:∀b,O b->jc (H b))(hd:bi G O H vs ds)(I:ds.length=n):
  dg G O (λ_=>False) H (λ_=>none) (L2.b_ N vs) H (ds.map Sl.f++dA (N.length-n) Sl.S):=by
 have g:=bK hd;refine⟨⟨by simp[L2.b_,g,I],λb o e _=>e,λb z=>z.elim,λb z=>by rw[BX] at z;exact C b z,λi a e=>(by cases e),λi j a e=>(by cases e),λ_ _=>rfl,λi s e=>?_⟩,λj d e=>?_⟩
 .by_cases f:i<ds.length
  .rw[dr (by simpa using f),aT] at e;cases c:ds[i]? with
   |none=>rw[c] at e;cases e
   |some d=>
    rw[c] at e;cases e;refine oj (zU hd c) λx k h=>?_;refine⟨rfl,x,?_,by rw[BX];exact h⟩;unfold L2.b_;rw[dr (by simpa[g] using f),aT,k];rfl
  rw[dE (by simp;lia),gS] at e;split at e
  .cases e;rfl
  cases e
 by_cases f:j<ds.length
 .rw[dr (by simpa using f),aT] at e;cases c:ds[j]? with
  |none=>rw[c] at e;cases e
  |some d=>rw[c] at e;cases e
 rw[dE (by simp;lia),gS] at e;split at e<;>cases e
section
variable {K:bg}
theorem bJ{st:Stmt}(Fu:mi K x qual st f fd)(S:aN N ps (az st))
  (U:∀(J:aI) (A:eJ) (I:List Env) (s:a7) (H:Hp) (E:XK),eV k (A.deeper<|sL qual (az st) s.heap.objs.size f J)->
   ii (mO (db P w) P w K mg base N qual (az st) f J A I s H E) E (ig st) g):oY P w K mg base (db P w) (k+1) f fd ps (sw ⟨K,mg⟩<|aV N.length ps.length g):=by
 refine Gf Fu S (λL H Q E h=>?_) λJ A I s H L Q E D h=>?_
 .refine Ek h λO m _ hd q=>?_;rw[bK hd];exact(Cv q).1
 refine Ek h λO m n hd q=>?_;obtain⟨T,q⟩:=Cv q;refine⟨_,U J A I s H E D,O,λ_=>False,H,λ_=>none,_,JR n hd T,?_⟩;have sm:∀{i j H' m'},dg (⟨K,mg⟩) O (λ_=>False) H i j H' m'->aD H H':=λR b o e=>R.Z b o e id;cases z:g _ with
 |A c=>rw[z] at q;exact λC H' e kp=>q C H' e λb o e=>kp b o e id
 |b=>rw[z] at q;exact q.elim
 |R a=>
  obtain⟨F,m'⟩:=a;rw[z] at q;cases F with
  |bk=>exact q.elim
  |c=>exact q.elim
  |n=>exact λi j H' l _=>q _ H' (sm l) .E λz=>by cases z
  |r fr d=>
   intro v i j H' l _ u G;refine q v H' (sm l) (u.N λb z=>.inl<|.inl z) λz=>?_;rcases G z with⟨p,r,B,M⟩|t
   .exact .inl ⟨p,r,B,M.N λb z=>.inl<|z.elim (λy=>.inl<|.inl y) .inr⟩
   exact .inr t
end
noncomputable def a0(Φ:b8)(fs:g7):bv:=λm=>(fs m).s λds=>(Φ ds).s λr=>.R r.2
def EM(Φ:b8)(fs:g7):bv:=λm=>(fs m).s λds=>(Φ ds).s λr=>if(r.1&&!ra r.2)=true then .R r.2 else .b
theorem uL(Fh:FF X.p X.w X.K X.m X.T k x ps Φ)(U:eV j X.A)(C:et (db X.p X.w) X E)(I:ln X E (e::es) fs)(hk:autoParam (k<=j) YI)(hg:autoParam (Gl X x) YO)
  (o:autoParam ((x==("__debug__":Str))=false) YI) (he:autoParam (ag (e::es) X.d=(false,eval e X.d)::ag es X.d) YO) (J:autoParam ((ij pos<|ag es X.d).any (·.1)=false) YO):
  FE X E (.Call (.Name x p) (e::es) [] pos) (a0 Φ fs):=by
 refine DR Fh.l λf t G b kp m=>?_;refine bA (MF G (U.T hk) hg m kp b .nil C I o he J) λs H Q h=>cC h λn M0 H0 ow m R q=>⟨n,M0,H0,ow,m,R,q.s.u (aD.s _) λg q i H1 c d=>?_⟩;show sw _ _ (i++[]) _ _ _;rw[c9];exact⟨_,g,(R.T c).W,d,q.s.u c λr q v H' l a _=>q v H' (c.t l) a⟩
theorem OC(Fh:FF X.p X.w X.K X.m X.T k x ps Φ)(hr:eV j X.A)(I:et (db X.p X.w) X E)(J:ln X E (e::es) fs)(hk:autoParam (k<=j) YI)(hg:autoParam (Gl X x) YO)
  (C:autoParam ((x==("__debug__":Str))=false) YI) (he:autoParam (ag (e::es) X.d=(false,eval e X.d)::ag es X.d) YO) (U:autoParam ((ij pos<|ag es X.d).any (·.1)=false) YO):
  FN X E (.Call (.Name x p) (e::es) [] pos) (EM Φ fs):=by
 refine DR Fh.l λf D G b kp m=>?_;refine bA (MF G (hr.T hk) hg m kp b .nil I J C he U) λB H Q l=>cC l λz M0 H0 ow m R q=>⟨z,M0,H0,ow,m,R,q.s.u (aD.s _) λi q u H1 a g=>?_⟩;show sw _ _ _ _ _ _;rw[c9];refine⟨_,i,(R.T a).W,g,q.s.u a λr q v H' y h s=>?_⟩;obtain⟨t,q⟩:=Jx q;obtain⟨d,c⟩:=Bool.and_eq_true_iff.mp t;refine o5 ((s d).P (by simpa using c)) λp zq1 n o=>?_;subst zq1;exact q p H' (a.t y) (a.Y n) o
def Bg(i:Int):Prop:=i.natAbs<ww
instance (i:Int):Decidable (Bg i):=inferInstanceAs<|Decidable<|_<_
def Bq(i:Int):Prop:=i.natAbs<DO
instance (i:Int):Decidable (Bq i):=inferInstanceAs<|Decidable<|_<_
theorem XS(h:i.natAbs<2^60000):Bg i:=by unfold Bg;rw[XR];exact h
theorem Pb(h:i.natAbs<2^8900):Bq i:=by unfold Bq;rw[QW];exact h
@[simp] theorem X9(h:Bq i):Bg i:=by
 unfold Bq at h;rw[QW] at h;exact XS<|cf h<|jv (by decide)<|by decide
def i_(i j:Int):Int:=if 0<j then i/j else i.fdiv j
noncomputable def hC(i j:Int):Int:=if 0<j then i%j else i.fmod j
noncomputable def bD:D->D->Option D
 | .l i,.l j=>some<|.l<|i+j
 | .p a,.p b=>if a.length+b.length<=aw then some (.p<|a++b) else none
 | .P a,.P b=>if a.length+b.length<=aw then some (.P<|a++b) else none
 | .w a,.w b=>if a.length+b.length<=aw then some (.w<|a++b) else none
 |_,_=>none
noncomputable def eE:D->D->Option D
 | .l i,.l j=>some<|.l<|i-j
 |_,_=>none
noncomputable def iJ:D->D->Option D
 | .l i,.l j=>if Bg i/\Bg j\/j.natAbs<2^62 then some (.l<|i*j) else none
 |_,_=>none
noncomputable def bV:D->D->Option D
 | .l i,.l j=>if j≠0/\Bq j then some (.l<|i_ i j) else none
 |_,_=>none
def aR:D->D->Option D
 | .l i,.l j=>if j≠0 then some (.l<|hC i j) else none
 |_,_=>none
noncomputable def GE:D->D->Option D
 | .l i,.l j=>if 0<=j/\j<=1000000/\i.natAbs<2^64 then some (.l<|i^j.toNat) else none
 |_,_=>none
noncomputable def vV:D->Option D
 | .l i=>some<|.l (-i)
 |_=>none
theorem nw[Decidable c]{o:Type}{a r:o}(h:(if c then some a else none)=some r):c/\a=r:=by
 by_cases z:c
 .rw[if_pos z] at h;exact⟨z,cE h⟩
 rw[if_neg z] at h;cases h
theorem Ut{o:L2.St}(I:am X C o H s)(q:∀v H',aD H H'->DV (gx X) O H' v (.p i)->Q v H'):EP X C o Q (.str i t) { s with toks:=tk}:=
 ⟨.p i,H,I.tok _,⟨t,rfl⟩,q _ _ (aD.s _)<|.p i⟩
theorem S0{U:L2.St}(I:am X J U H s)(m:∀b,O b->jc (H b))(hd:bi (gx X) O H xs ds)(r:a_ xs C)(hz:xs.length<=aw)
  (kp:∀b o,s.heap.get? b=some o->h'.get? b=some o) (e:∃n,h'.get? s.heap.objs.size=some { cls:=.type "list",data:=.seq C.toArray n }) (q:∀p H',aD H H'->H p=none->OV (gx X) (Op O p) H' p (.P ds)->Q (.r p) H'):EP X J U Q (.ref s.heap.objs.size) { s with heap:=h',toks:=tk }:=by
 have a:=I.W.n<|bb _;obtain⟨n,e⟩:=e;refine⟨.r _,upd H _<|.P xs,I.laid kp (bb _) ⟨hz,C,n,r,e⟩,rfl,q _ _ (bH a _) a ⟨xs,aP,?_⟩⟩;exact(hd.N λb z=>z.elim .inl λe=>.inr (by rw[e];exact a)).T (bH a _)
theorem Yj{Q:VK}(m:∀b,O b->jc (H b))(q:∀v H',aD H H'->DV G O H' v r->Q v H'):∀p H',aD H H'->H p=none->OV G (Op O p) H' p r->Q (.r p) H':=λp H' g n o=>
 q _ H' g ((o.N λb z=>.inl<|.inl z).r λz=>by
  have:=m p z
  rw[n] at this;rcases this with⟨_,e⟩|⟨_,e⟩|⟨_,e⟩|⟨_,e⟩<;>cases e)
def Oy(G:Gx):R2:=λx y H Q=>∃O ds es,(∀b,O b->jc (H b))/\DW G O H x (.P ds)/\DW G O H y (.P es)/\ds.length+es.length<=aw/\∀p H',aD H H'->H p=none->OV G (Op O p) H' p (.P<|ds++es)->Q (.r p) H'
theorem Vx:gc X (ko .Add) (Oy<|gx X):=by
 intro Z s σ H x y v u Q I N P h;refine ZY h λO U J m G T hz q=>?_;refine Y_ (iV G) λa Y zq2 L hd=>?_;subst zq2;refine Y_ (iV T) λb ys zq2 R B=>?_;subst zq2;subst N;subst P;refine o5 (I.IO L) λk z K _=>?_;refine o5 (I.IO R) λc D V _=>?_;have l1:=bK hd;have C:=bK B;have k1:=z.l;have k2:=D.l;obtain⟨⟨M,S,r,E⟩,w,A,n,i⟩:=id K.isList;obtain⟨⟨t,j,l,p⟩,f,g,W,d⟩:=id V.isList;subst A i g d;refine As ⟨_,w,rfl⟩ ⟨_,f,rfl⟩ noFill_list_add seq_list_add PySem.F.slot_list_add PySem.F.entry_list_add (PySem.F.args_list_add_2 _ _) (list_addW a b _ _ n W S j E p (by simp;lia)) ⟨w,f,?_⟩;rw[show k.toArray++c.toArray=(k++c).toArray by simp];exact S0 I m (lu hd B) (z.c D) (by rw[bq];lia) (λb o e=>ah _ e) ⟨0,bp _ rfl⟩ q
theorem Zz:gc X (ko .Add) (λx y H Q=>∃O ds es,DW (gx X) O H x (.w ds)/\DW (gx X) O H y (.w es)/\ds.length+es.length<=aw/\∀v H',aD H H'->DV (gx X) O H' v (.w<|ds++es)->Q v H'):=by
 intro M s V H x y v u Q I A K h;refine ZO h λO ds es N Y J q=>?_;refine Y_ (Fq N) λa w zq2 k hd=>?_;subst zq2;refine Y_ (Fq Y) λb S zq2 l j=>?_;subst zq2;have U:=bK hd;have C:=bK j;by_cases c:w=[]
 .subst c;cases hd;subst A;subst K;refine o5 (I.Id k.s) λχ T P _=>?_;refine o5 (I.Id l.s) λf r2 Z _=>?_;cases T;obtain⟨⟨R,W,B,L⟩,F,G,n,i⟩:=id P;obtain⟨⟨E,m,r,t⟩,e,g,o,d⟩:=id Z;subst G i g d;exact As ⟨_,F,rfl⟩ ⟨_,e,rfl⟩ ze BO p9 pj (oz _ _)
   (tuple_addW0 a b _ _ n o W m L t<|by rfl) ⟨F,e,⟨.r b,H,I,rfl,q _ _ (aD.s _)<|.w l j⟩⟩
 refine SR M s V H _ _ v u Q I A K ⟨a,b,w,S,rfl,rfl,k.s,l.s,c,by lia,λz=>?_,λz p D=>?_⟩
 .subst z;cases j;exact q _ _ (aD.s _) (by rw[c9];exact .w k hd)
 exact q _ _ (bH D _)<|.w (lz.c aP)<|(lu hd j).T<|bH D _
theorem iu:gc X (ko .Add) (rG (gx X) bD):=by
 intro b s g H x y v u Q I f k h;refine ZH h λO d e r m c l a q=>?_
 match d,e,a with
 | .l i,.l j,a=>
  cases a;exact(Gc λ_ _ _ _ _ _ _ q=>add_int q) b s g H x y v u Q I f k ⟨i,j,bM c,bM l,q _ _ (aD.s _)<|.l _⟩
 | .p i,.p j,a=>
  obtain⟨z,rfl⟩:=nw a;exact Rq b s g H x y v u Q I f k ⟨i,j,jG c,jG l,z,q _ _ (aD.s _)<|.p _⟩
 | .P ds,.P es,a=>
  obtain⟨z,rfl⟩:=nw a;exact Vx b s g H x y v u Q I f k ⟨O,ds,es,m,c,l,z,Yj m q⟩
 | .w ds,.w es,a=>
  obtain⟨z,rfl⟩:=nw a;exact Zz b s g H x y v u Q I f k ⟨O,ds,es,c,l,z,q⟩
theorem BK:gc X (ko .Sub) (rG (gx X) eE):=by
 intro b s g H x y v u Q I f k h;refine ZH h λO d e r m c l a q=>?_
 refine Y_ (i2_ a) λi j zq2 zq3 a=>?_;subst zq2;subst zq3
 cases a;exact(Gc λ_ _ _ _ _ _ _ q=>sub_int q) b s g H x y v u Q I f k ⟨i,j,bM c,bM l,q _ _ (aD.s _)<|.l _⟩
theorem Bc:gc X (ko .Mult) (rG (gx X) iJ):=by
 intro b s g H x y v u Q I f k h;refine ZH h λO d e r m c l a q=>?_
 refine Y_ (i2_ a) λi j zq2 zq3 a=>?_;subst zq2;subst zq3
 obtain⟨z,rfl⟩:=nw a;rcases z with z|z
 .exact TH b s g H x y v u Q I f k ⟨i,j,bM c,bM l,z,q _ _ (aD.s _)<|.l _⟩
 exact U2 b s g H x y v u Q I f k ⟨i,j,bM c,bM l,z,q _ _ (aD.s _)<|.l _⟩
theorem my:gc X (ko .FloorDiv) (rG (gx X) bV):=by
 intro b s g H x y v u Q I f k h;refine ZH h λO d e r m c l a q=>?_
 refine Y_ (i2_ a) λi j zq2 zq3 a=>?_;subst zq2;subst zq3
 obtain⟨z,rfl⟩:=nw a;refine WO b s g H x y v u Q I f k ⟨i,j,bM c,bM l,z,?_⟩;have e:i.fdiv j=i_ i j:=by
  unfold i_;split
  .rw[iO i<|by lia]
  rfl
 show Q (.l<|i.fdiv j) H;rw[e];exact q _ _ (aD.s _)<|.l _
theorem dM:gc X (ko .Mod) (rG (gx X) aR):=by
 intro b s k H x y v u Q I f l h;refine ZH h λO d e r m c n a q=>?_
 refine Y_ (i2_ a) λi j zq2 zq3 a=>?_;subst zq2;subst zq3
 obtain⟨z,rfl⟩:=nw a;refine(yp λ_ _ _ _ _ _ _ g q=>mod_int' g q) b s k H x y v u Q I f l ⟨i,j,bM c,bM n,z,?_⟩;have e:i.fmod j=hC i j:=by
  unfold hC;split
  .rw[Int.fmod_eq_emod_of_nonneg i<|by lia]
  rfl
 show Q (.l<|i.fmod j) H;rw[e];exact q _ _ (aD.s _)<|.l _
theorem SN:D8 X (unaryOp .USub) (FD (gx X) vV):=by
 intro c s b H x v Q I f h;refine ZO h λO d r m e a q=>?_
 match d,a with
 | .l i,a=>
  cases a;exact(J_ λ_ _ _ _ _ q=>neg_int q) c s b H x v Q I f ⟨i,bM e,q _ _ (aD.s _)<|.l _⟩
mutual
def cy:D->Option tF
 | .E=>some .none
 | .B b=>some<|.bool b
 | .l i=>some<|.int i
 | .p x=>some<|.str x
 | .w xs=>(m9 xs).map .tuple
 | .P xs=>(m9 xs).map .list
 | .A _ _ _=>none
 | .L _ _=>none
 | .F _ _=>none
 | .J _=>none
 | .M _ _ _=>none
 | .Q _ _=>none
def m9:List D->Option (List tF)
 |[]=>some []
 |d::ds=>(cy d).bind λp=>(m9 ds).map λa=>p::a
end
mutual
theorem T9{G:Gx}{O:hD}{H:Hp}:∀{v:V} {d:D} {p:tF},DV G O H v d->cy d=some p->Hd.DV G.K H v p
 |_,_,_,.E,e=>by cases e;exact .E
 |_,_,_,.B b,e=>by cases e;exact .B b
 |_,_,_,.l i,e=>by cases e;exact .l i
 |_,_,_,.p x,e=>by cases e;exact .p x
 |_,_,_,.A ..,e=>by cases e
 |_,_,_,.w h hs,e=>by
  obtain⟨c,a,rfl⟩:=fx (by simpa[cy] using e);exact .w h.s<|Io hs a
 |_,_,_,.P h hs,e=>by
  obtain⟨c,a,rfl⟩:=fx (by simpa[cy] using e);exact .P h.s<|Io hs a
 |_,_,_,.L _ _ _ _ _,e=>by cases e
 |_,_,_,.F _ _ _ _ _,e=>by cases e
 |_,_,_,.J _,e=>by cases e
 |_,_,_,.M _ _ _ _ _ _,e=>by cases e
 |_,_,_,.Q _ _ _ _,e=>by cases e
theorem Io{G:Gx}{O:hD}{H:Hp}:∀{C:List V} {ds:List D} {o:List tF},bi G O H C ds->m9 ds=some o->Hd.bi G.K H C o
 |_,_,_,.f,e=>by cases e;exact .f
 |_,_,_,.e (d:=d) (ds:=ds) h hs,e=>by
  unfold m9 at e;cases a:cy d with
  |none=>rw[a] at e;cases e
  |some p=>
   rw[a] at e;obtain⟨o,b,rfl⟩:=fx e;exact .e (T9 h a)<|Io hs b
end
theorem Fx(h:DW G O H v d)(e:cy d=some p):Hd.DV G.K H v p:=T9 h.w e
noncomputable def mR(d e:D):Option Bool:=match cy d,cy e with
 |some p,some q=>if gv p=true/\gv q=true then some (gi p q) else none
 |_,_=>none
def cr:D->D->Option Bool
 | .l i,.l j=>some<|decide<|i=j
 | .p i,.p j=>some<|decide<|i=j
 | .B i,.B j=>some<|decide<|i=j
 | .E,.E=>some true
 |d,e=>mR d e
def gz(d e:D):Option Bool:=(cr d e).map (!·)
theorem Je(h:mR d e=some b):∃p q,cy d=some p/\cy e=some q/\gv p=true/\gv q=true/\gi p q=b:=by
 unfold mR at h;cases a:cy d with
 |none=>rw[a] at h;cases h
 |some p=>
  cases c:cy e with
  |none=>rw[a,c] at h;cases h
  |some q=>
   rw[a,c] at h;obtain⟨⟨f,g⟩,rfl⟩:=nw h;exact⟨p,q,rfl,rfl,f,g,rfl⟩
theorem Jy(h:cr d e=some b):(∃i j,d=.l i/\e=.l j/\b=decide (i=j))\/(∃i j,d=.p i/\e=.p j/\b=decide (i=j))\/(∃i j,d=.B i/\e=.B j/\b=decide (i=j))\/(d=.E/\e=.E/\b=true)\/mR d e=some b:=by
 unfold cr at h;split at h
 .cases h;exact .inl ⟨_,_,rfl,rfl,rfl⟩
 .cases h;exact .inr<|.inl ⟨_,_,rfl,rfl,rfl⟩
 .cases h;exact .inr<|.inr<|.inl ⟨_,_,rfl,rfl,rfl⟩
 .cases h;exact .inr<|.inr<|.inr<|.inl ⟨rfl,rfl,rfl⟩
 exact .inr<|.inr<|.inr<|.inr h
theorem sI(o:X.A.units+64<tj):gc X (iq .Eq) (qf (gx X) cr):=by
 intro a s f H x y v u Q I c g h;refine ZH h λO d e r m b k z q=>?_;rcases Jy z with⟨i,j,rfl,rfl,rfl⟩|⟨i,j,rfl,rfl,rfl⟩|⟨i,j,rfl,rfl,rfl⟩|⟨rfl,rfl,rfl⟩|h
 .cases bM b;cases bM k;exact Vt a s f H _ _ v u Q I c g ⟨rfl,by simpa using q⟩
 .cases jG b;cases jG k;exact Vt a s f H _ _ v u Q I c g ⟨rfl,by simpa using q⟩
 .cases Ot b;cases Ot k;exact Vt a s f H _ _ v u Q I c g ⟨rfl,by simpa using q⟩
 .cases zK b;cases zK k;exact Vt a s f H _ _ v u Q I c g ⟨rfl,q⟩
 refine Z' (Je h) λp B l t w n zq6=>?_;subst zq6;exact R0 o a s f H x y v u Q I c g ⟨p,B,Fx b l,Fx k t,w,n,q⟩
theorem RW(o:X.A.units+64<tj):gc X (iq .NotEq) (qf (gx X) gz):=by
 intro a s g H x y v u Q I f k h;refine ZH h λO d e r m b l B q=>?_;refine oj (fx B) λc D zq2=>?_;subst zq2;rcases Jy D with⟨i,j,rfl,rfl,rfl⟩|⟨i,j,rfl,rfl,rfl⟩|⟨i,j,rfl,rfl,rfl⟩|⟨rfl,rfl,rfl⟩|h
 .cases bM b;cases bM l;exact TV a s g H _ _ v u Q I f k ⟨rfl,by simpa using q⟩
 .cases jG b;cases jG l;exact TV a s g H _ _ v u Q I f k ⟨rfl,by simpa using q⟩
 .cases Ot b;cases Ot l;exact TV a s g H _ _ v u Q I f k ⟨rfl,by simpa using q⟩
 .cases zK b;cases zK l;exact TV a s g H _ _ v u Q I f k ⟨rfl,q⟩
 refine Z' (Je h) λp E n w z t zq6=>?_;subst zq6;exact So o a s g H x y v u Q I f k ⟨p,E,Fx b n,Fx l w,z,t,q⟩
noncomputable def Ba:List D->Option (List Int)
 |[]=>some []
 | .l i::ds=>(Ba ds).map (i::·)
 |_::_=>none
theorem MN:∀{o:List V} {ds:List D} {ns:List Int},bi G O H o ds->Ba ds=some ns->o=ns.map V.l
 |_,_,_,.f,e=>by cases e;rfl
 |_,_,_,.e (d:=d) h hs,e=>by
  cases d with
  |l i=>
   refine oj (fx (by simpa[Ba] using e)) λns a zq2=>?_;subst zq2;cases h;rw[MN hs a];rfl
  |_=>cases e
noncomputable def lw:D->D->Option Bool
 | .l i,.l j=>some<|decide<|i<j
 |_,_=>none
noncomputable def wE:D->D->Option Bool
 | .l i,.l j=>some<|decide<|i<=j
 |_,_=>none
noncomputable def d3:D->D->Option Bool
 | .l i,.l j=>some<|decide<|j<i
 |_,_=>none
noncomputable def lx:D->D->Option Bool
 | .l i,.l j=>some<|decide<|j<=i
 |_,_=>none
theorem Zf(o:X.A.units+64<tj):gc X (iq .Lt) (qf (gx X) lw):=by
 intro b s g H x y v u Q I f k h;refine ZH h λO d e r m c l a q=>?_;unfold lw at a;split at a
 .rename_i i j;cases a;exact(D2 λ_ _ _ _ _ _ _ q=>lt_int q) b s g H x y v u Q I f k ⟨i,j,bM c,bM l,q⟩
 cases a
theorem ZC:gc X (iq .LtE) (qf (gx X) wE):=by
 intro b s g H x y v u Q I f k h;refine ZH h λO d e r m c l a q=>?_
 refine Y_ (i2_ a) λi j zq2 zq3 a=>?_;subst zq2;subst zq3;cases a;exact(D2 λ_ _ _ _ _ _ _ q=>le_int q) b s g H x y v u Q I f k ⟨i,j,bM c,bM l,q⟩
theorem qt:gc X (iq .Gt) (qf (gx X) d3):=by
 intro b s g H x y v u Q I f k h;refine ZH h λO d e r m c l a q=>?_
 refine Y_ (i2_ a) λi j zq2 zq3 a=>?_;subst zq2;subst zq3;cases a;exact(D2 λ_ _ _ _ _ _ _ q=>gt_int q) b s g H x y v u Q I f k ⟨i,j,bM c,bM l,q⟩
theorem Qv:gc X (iq .GtE) (qf (gx X) lx):=by
 intro b s g H x y v u Q I f k h;refine ZH h λO d e r m c l a q=>?_
 refine Y_ (i2_ a) λi j zq2 zq3 a=>?_;subst zq2;subst zq3;cases a;exact(D2 λ_ _ _ _ _ _ _ q=>ge_int q) b s g H x y v u Q I f k ⟨i,j,bM c,bM l,q⟩
section
variable {X:Cx}{E:XK}{e a b:Expr}{f fa:bv}{pos p:Pos}
noncomputable def al:D->D->Option D
 | .P ds,.l i=>bS ds i
 | .w ds,.l i=>bS ds i
 | .p z,.l i=>if z.length<=aw then(bS z.cps.toList i).map λc=>.p ⟨#[c]⟩ else none
 |_,_=>none
theorem Tp(h:bi G O H xs ds)(e:bS ds i=some d):∃x,bS xs i=some x/\DV G O H x d:=by
 unfold bS at e ⊢;rw[bK h];cases q:hQ _ i with
 |none=>rw[q] at e;cases e
 |some j=>rw[q] at e;exact zU h e
theorem Bm:wT X (rG (gx X) al):=by
 intro a b l s B H x y v u Q I w E h t;refine ZH h λO d e r m n G j q=>?_
 match d,e,j with
 | .P ds,.l i,j=>
  cases bM G;refine Y_ (iV n) λp k zq2 A hd=>?_;subst zq2;refine oj (Tp hd j) λz g F=>?_;exact To a b l s B H _ _ v u Q I w E ⟨p,k,i,z,rfl,rfl,A,g,q _ _ (aD.s _) F⟩ t
 | .w ds,.l i,j=>
  cases bM G;refine Y_ (zu n) λp k zq2 A hd=>?_;subst zq2;refine oj (Tp hd j) λz g F=>?_;exact Pi a b l s B H _ _ v u Q I w E ⟨p,k,i,z,rfl,rfl,A,g,q _ _ (aD.s _) F⟩ t
 | .p z,.l i,j=>
  cases bM G;cases jG n;have f:(if z.length<=aw then(bS _ i).map λc=>D.p _ else none)=some r:=j;by_cases g:z.length<=aw
  .rw[if_pos g] at f;refine oj (fx f) λc K zq2=>?_;subst zq2;exact OY a b l s B H _ _ v u Q I w E ⟨z,i,c,rfl,rfl,g,K,q _ _ (aD.s _)<|.p _⟩ t
  rw[if_neg g] at f;cases f
def tO(G:Gx)(E:XK)(f:Me->bd (Option Int)):TO:=λa H Q=>∃O0 M0 H0 ow m,fc G O0 M0 H0 ow a H m/\Pu G E (f m) H λo=>∀H',aD H H'->Q o H'
abbrev FO(X:Cx)(E:XK)(e:Option Expr)(f:Me->bd (Option Int)):Prop:=PO X e<|tO (gx X) E f
theorem Vu{X:Cx}{e:Option Expr}{T C:TO}(h:PO X e T)(k:∀o H Q,C o H Q->T o H Q):PO X e C:=λa s o H Q I q=>h a s o H Q I<|k o H Q q
def gp:Me->bd (Option Int):=λ_=>.R none
noncomputable def f5(f:bv):Me->bd (Option Int):=λm=>(f m).s λd=>match d with
 | .l i=>.R<|some i
 |_=>.b
theorem jQ:FO X E none gp:=Vu (by intro d s a H Q I h;rw[BQ];exact av ⟨none,H,I,.none,h⟩) λa H Q b=>cC b λc M0 H0 ow m R q=>q H<|aD.s _
theorem gZ(h:FB X E e f):FO X E (some e) (f5 f):=Vu (Wp h) λj H Q b=>cC b λa M0 H0 ow m R q=>⟨a,M0,H0,ow,m,R,q.s.u (aD.s _) λd q v H' g c=>by
 cases d with
 |l i=>cases bM c;exact⟨i,rfl,q H' g⟩
 |_=>exact q.elim⟩
def h7{o:Type}(xs:List o)(lo C:Option Int):List o:=(xs.drop<|HT.c_ xs.length 0 lo).take<|HT.c_ xs.length xs.length C-HT.c_ xs.length 0 lo
def v_:D->Option Int->Option Int->Option D
 | .P ds,lo,hi=>some<|.P<|h7 ds lo hi
 | .w ds,lo,hi=>if HT.c_ ds.length 0 lo=0/\HT.c_ ds.length ds.length hi=ds.length then none else some (.w<|h7 ds lo hi)
 | .p z,lo,hi=>if z.length<=aw then some (.p<|AG z lo hi) else none
 |_,_,_=>none
def KK(G:Gx):V->Option Int->Option Int->Hp->VK->Prop:=λx lo a H Q=>∃O d r,(∀b,O b->jc (H b))/\DW G O H x d/\v_ d lo a=some r/\∀v H',aD H H'->DV G O H' v r->Q v H'
noncomputable def NC:D->Option Int->Option Int->Option D
 | .P ds,lo,hi=>some<|.P<|h7 ds lo hi
 |_,_,_=>none
def Lu(G:Gx):V->Option Int->Option Int->Hp->VK->Prop:=λx lo a H Q=>∃O d r,(∀b,O b->jc (H b))/\DW G O H x d/\NC d lo a=some r/\∀p H',aD H H'->H p=none->OV G (Op O p) H' p r->Q (.r p) H'
theorem U0{lo:Option Int}(h:bi G O H xs ds):bi G O H (Ov xs lo o) (h7 ds lo o):=by
 unfold Ov h7;rw[bK h];exact BW _<|Hw _ h
theorem OA:zd X (Lu<|gx X):=by
 intro i s u H x v A y t w f Q I l k pl pu h;refine ZO h λO d r m j c q=>?_
 match d,c with
 | .P ds,c=>
  cases c;refine Y_ (iV j) λp g zq2 n hd=>?_;subst zq2;exact WA i s u H _ v A y t w f Q I l k pl pu ⟨p,g,rfl,n,λp a=>q p _ (bH a _) a ⟨_,aP,((U0 hd).N λb z=>z.elim .inl λe=>.inr (by rw[e];exact a)).T<|bH a _⟩⟩
theorem XN(h:CF u o):∃l,u=partValue l/\l.map (·.1)=o:=by
 cases h with
 |none=>exact⟨none,rfl,rfl⟩
 |int i t=>exact⟨some (i,t),rfl,rfl⟩
theorem LM:zd X (KK<|gx X):=by
 intro w s y H x v B A c f n Q I j i pl pu h;refine ZO h λO d r m g b q=>?_
 match d,b with
 | .P ds,b=>exact OA w s y H x v B A c f n Q I j i pl pu ⟨O,_,r,m,g,b,Yj m q⟩
 | .w ds,b=>
  refine Y_ (zu g) λp E zq2 G hd=>?_;subst zq2;have a:(if HT.c_ _ 0 c=0/\HT.c_ _ _ f=ds.length then none else some _)=some r:=b;by_cases z:HT.c_ ds.length 0 c=0/\HT.c_ ds.length ds.length f=ds.length
  .rw[if_pos z] at a;cases a
  rw[if_neg z] at a;cases a;exact OZ w s y H _ v B A c f n Q I j i pl pu ⟨p,E,rfl,G,by rw[bK hd];exact z,λp e=>q _ _ (bH e _)<|.w (lz.c aP)<|(U0 hd).T<|bH e _⟩
 | .p z,b=>
  cases jG g;obtain⟨t,rfl⟩:=j;obtain⟨K,rfl⟩:=nw b;refine oj (XN pl) λl zq1 zq2=>?_;subst zq1;subst zq2;refine oj (XN pu) λu zq1 zq2=>?_;subst zq1;subst zq2;refine⟨"str",_,PySem.F.slot_str_getitem.lookup,xA _ _ _,wpAny_getItem_str_slice (l:=l) (u:=u) (st:=none) i rfl<|post_val_or_str ⟨dS (Txt.slice_le z _ _) K,λL k=>Ut (tk:=k) I q⟩⟩
def gl(f:bv)(lo o:Me->bd (Option Int)):bv:=λm=>(f m).s λd=>(lo m).s λl=>(o m).s λu=>b6<|v_ d l u
variable {lo:Option Expr}
theorem gQ(o:FB X E e f)(I:FO X E lo fl)(C:FO X E hi fh):FE X E (.Subscript e (.Slice lo hi none p2) pos) (gl f fl fh):=
 bA (Yn LM o I C) λs H Q j=>cC j λh M0 H0 ow m R q=>⟨h,M0,H0,ow,m,R,q.s.u (aD.s _) λd q v H1 a i=>⟨h,M0,H0,ow,m,R.T a,q.s.u a λl q t b=>⟨h,M0,H0,ow,m,R.T<|a.t b,q.s.u (a.t b) λu q p c=>by
  refine oj q.l λr n k=>?_;exact⟨_,d,r,(R.T<|(a.t b).t c).W,i.T<|b.t c,n,λv H' g d=>k v H' (((a.t b).t c).t g) d⟩⟩⟩⟩
noncomputable def Jt:D->D->Option D
 | .P a,.P b=>if a.length+b.length<=aw then some (.P<|a++b) else none
 |_,_=>none
noncomputable def bQ:List D->Option D
 |[.P ds]=>some<|.l ds.length
 |[.w ds]=>some<|.l ds.length
 |[.p z]=>if z.length<=aw then some (.l z.length) else none
 |[.L ks _]=>some<|.l ks.length
 |_=>none
theorem yF(h:vr G O H o [d]):∃v,o=[v]/\DW G O H v d:=by
 cases h with
 |e a t=>cases t;exact⟨_,rfl,a⟩
theorem V0:jf X (.builtin "len") (λxs H Q=>∃a ι,xs=[V.r a]/\Rd H a (.c ι)/\Q (.l ι.length) H):=by
 intro d s g H xs f Q I r h;refine Y_ h λa ι zq2 e q=>?_;subst zq2;refine oj (e_ r) λu zq1 b=>?_;subst zq1;subst b;exact M1 I e λt i c=>⟨.l _,H,c,⟨t,rfl⟩,q⟩
theorem m7:jf X (.builtin "len") (o_ (gx X) bQ):=by
 intro f s j H e i Q I r h;refine ZO h λO k d m g a q=>?_
 match k,a with
 |[.P k],a=>
  cases a;refine oj (yF g) λv zq1 b=>?_;subst zq1;refine Y_ (iV b) λp e zq2 c hd=>?_;subst zq2;exact Av f s j H _ i Q I r ⟨p,e,rfl,.inl c,by rw[bK hd];exact q _ _ (aD.s _)<|.l _⟩
 |[.w k],a=>
  cases a;refine oj (yF g) λv zq1 b=>?_;subst zq1;refine Y_ (zu b) λp e zq2 c hd=>?_;subst zq2;exact Av f s j H _ i Q I r ⟨p,e,rfl,.inr c,by rw[bK hd];exact q _ _ (aD.s _)<|.l _⟩
 |[.p z],a=>
  obtain⟨t,rfl⟩:=nw a;refine oj (yF g) λv zq1 b=>?_;subst zq1;cases jG b;exact Kl f s j H _ i Q I r ⟨z,rfl,t,q _ _ (aD.s _)<|.l _⟩
 |[.L ks vs],a=>
  cases a;refine oj (yF g) λv zq1 b=>?_;subst zq1;refine ZY (QC b) λp l u zq3 c n w hd=>?_;subst zq3;exact V0 f s j H _ i Q I r ⟨p,l,rfl,c,by rw[show l.length=ks.length by rw[<-n,aE]];exact q _ _ (aD.s _)<|.l _⟩
noncomputable def BZ:List D->Option D
 |[.l i]=>some<|.l<|if i<0 then -i else i
 |_=>none
theorem V2:jf X (.builtin "abs") (o_ (gx X) BZ):=by
 intro b s j H k f Q I r h;refine ZO h λO g d m c a q=>?_
 match g,a with
 |[.l i],a=>
  cases a;refine oj (yF c) λv zq1 e=>?_;subst zq1;cases bM e;exact Zu b s j H _ f Q I r ⟨i,rfl,q _ _ (aD.s _)<|.l _⟩
noncomputable def dR:List D->Option D
 |[.P ds]=>some<|.w ds
 |[.w ds]=>some<|.w ds
 |_=>none
theorem jd:jf X (.type "tuple") (o_ (gx X) dR):=by
 intro g s k H b j Q I r h;refine ZO h λO f d m i a q=>?_
 match f,a with
 |[.P f],a=>
  cases a;refine oj (yF i) λv zq1 e=>?_;subst zq1;refine Y_ (iV e) λp b zq2 c hd=>?_;subst zq2;exact yR g s k H _ j Q I r ⟨p,b,rfl,.inl ⟨c,λl n=>q _ _ (bH n _)<|.w (lz.c aP)<|hd.T<|bH n _⟩⟩
 |[.w f],a=>
  cases a;refine oj (yF i) λv zq1 e=>?_;subst zq1;refine Y_ (Fq e) λp b zq2 c hd=>?_;subst zq2;exact yR g s k H _ j Q I r ⟨p,b,rfl,.inr ⟨c.s,q _ _ (aD.s _)<|.w c hd⟩⟩
noncomputable def yU:List D->Option D
 |[.P ds]=>some<|.P ds
 |[.w ds]=>some<|.P ds
 |_=>none
theorem rK:jf X (.type "list") (GG (gx X) yU):=by
 intro k s t H j i Q I r h;refine ZO h λO ds d m n c q=>?_;have go:∀{p:Addr} {ys:List V} {ds:List D},(eO _ H p ys\/h_ _ H p ys)->bi _ O H ys ds->(∀p H',aD H H'->H p=none->OV (gx X) (Op O p) H' p (.P ds)->Q _ H')->a_ _ i->cb _ _ _ _ _ s:=
  λa hd q r=>Mf k s t H _ i Q I r ⟨_,_,rfl,a,λl f=>q _ _ (bH f _) f ⟨_,aP,(hd.N λb z=>z.elim .inl λe=>.inr (by rw[e];exact f)).T<|bH f _⟩⟩
 match ds,c with
 |[.P ds],c=>
  cases c;refine oj (yF n) λv zq1 g=>?_;subst zq1;refine Y_ (iV g) λp j zq2 a hd=>?_;subst zq2;exact go (.inl a) hd q r
 |[.w ds],c=>
  cases c;refine oj (yF n) λv zq1 g=>?_;subst zq1;refine Y_ (zu g) λp j zq2 a hd=>?_;subst zq2;exact go (.inr a) hd q r
noncomputable def oO:D->String
 | .E=>"NoneType"
 | .B _=>"bool"
 | .l _=>"int"
 | .p _=>"str"
 | .w _=>"tuple"
 | .P _=>"list"
 | .L _ _=>"dict"
 | .F _ _=>"dict"
 | .A _ _ _=>""
 | .Q _ _=>""
 | .J _=>""
 | .M _ _ _=>""
noncomputable def Xe(t T:String):Bool:=t==T||(t=="bool" && T=="int")
noncomputable def f_:List String:=["NoneType", "bool", "int", "str", "tuple", "list", "dict"]
theorem TC{K:bg}:h9 K (.type t) (.type t)=some true:=by unfold h9;rw[if_pos<|by simp]
theorem TL{K:bg}:∀t∈f_,∀T∈f_,h9 K (.type t) (.type T)=some (Xe t T):=by
 intro t a T b;simp only[f_,a9,List.not_mem_nil,or_false] at a b;rcases a with rfl|rfl|rfl|rfl|rfl|rfl|rfl<;>rcases b with rfl|rfl|rfl|rfl|rfl|rfl|rfl<;>first|exact TC|kernel_rfl
theorem W_(h:DW G O H v d)(n:oO d≠""):oO d∈f_/\za G.K H v (.type<|oO d):=by
 have z:=h.w;cases z with
 |E=>exact⟨by simp[oO,f_],.c .E⟩
 |B b=>exact⟨by simp[oO,f_],.c<|.B b⟩
 |l b=>exact⟨by simp[oO,f_],.c<|.l b⟩
 |p b=>exact⟨by simp[oO,f_],.c<|.p b⟩
 |A _ _=>exact absurd rfl n
 |Q _ _ _ _=>exact absurd rfl n
 |J _=>exact absurd rfl n
 |M _ _ _ _ _ _=>exact absurd rfl n
 |w hq _=>exact⟨by simp[oO,f_],.w hq.s⟩
 |P hq _=>exact⟨by simp[oO,f_],.P hq.s⟩
 |L _ e _ _ _=>exact⟨by simp[oO,f_],.c<|.c e⟩
 |F _ e _ _ _=>exact⟨by simp[oO,f_],.c<|.d e⟩
def xP(T:String)(f:bv):bv:=λm=>(f m).s λd=>if oO d = "" then .b else .R (.B<|Xe (oO d) T)
theorem rR{x:Str}{o:Pos}(ha:FB X E a fa)(hg:Gl X "isinstance")(hm:X.m "isinstance" = none)(I:cx "isinstance" = some (.builtin "isinstance"))(U:Gl X y)(hmy:X.m y=none)(hvy:cx y=some (.type T))(hT:autoParam (T∈f_) YI)
  (J:autoParam (y≠"__name__") YI) (hdy:autoParam ((y==("__debug__":Str))=false) YI)
  (he:autoParam (ag [a,.Name y o] X.d=(false,eval a X.d)::ag [.Name y o] X.d) YO) (C:autoParam (ag [.Name y o] X.d=(false,eval (.Name y o) X.d)::ag [] X.d) YO) (μ:autoParam ((ij pos<|ag [.Name y o] X.d).any (·.1)=false) YO):
  FE X E (.Call (.Name "isinstance" p) [a,.Name y o] [] pos) (xP T fa):=
 bA (xq V3 hg hm I (eG ha (eG (TY (v:=.t T) U hmy hvy rfl J hdy) nM C) he) (by decide) (by decide) he μ) λh H Q b=>cC b λc M0 H0 ow m R q=>⟨c,M0,H0,ow,m,R,q.s.u (aD.s _) λd q v H' g I=>by
  by_cases n:oO d = ""
  .rw[if_pos n] at q;exact q.elim
  rw[if_neg n] at q;obtain⟨e,f⟩:=W_ I n;exact⟨v,_,_,_,_,rfl,rfl,f,TL _ e T hT,q _ _ g<|.B _⟩⟩
end
theorem dg.chg(R:dg G O0 M0 H0 ow σ H m)(C:ow i=some a)(g:Kp (· = a) H H')(h:OV G (Ow O0 ow) H' a d')
  (I:(m[i]? = some (.o d)/\s'=.o d')\/(m[i]? = some (.i d)/\s'=.i d')):dg G O0 M0 H0 ow σ H' (m.set i s'):=by
 have B:Ow O0 ow a:=.inr ⟨i,C⟩;have kp:Kp _ H H':=λb u e n=>g b u e λz=>n<|z▸B;have E:i<m.length:=by rcases I with⟨e,_⟩|⟨e,_⟩<;>exact vU e
 have r:∀b o,H b=some o->b≠a->H' b=H b:=λb o e n=>by rw[e];exact g b o e n
 refine⟨⟨by simp[R.mt],λb u e n=>?_,λb z=>?_,λb z=>?_,R.IO,R.inj,λj F=>R.X j (by simpa using F),λj s e=>?_⟩,CN R.nb λ_ z=>by rcases I with⟨_,w⟩|⟨_,w⟩<;>(rw[w] at z;cases z)⟩
 .refine g b u (R.Z b u e n) λz=>?_;subst z;rcases I with⟨q,_⟩|⟨q,_⟩
  .refine o5 (R.S i _ q) λv k l _=>?_;rw[C] at k;cases k;rw[l] at e;cases e
  refine o5 (R.S i _ q) λv k l _=>?_;rw[C] at k;cases k;exact n l
 .by_cases q:b=a
  .rw[q]
   have:=h.q
   intro w;rw[w] at this;rcases this with⟨_,e⟩|⟨_,e⟩|⟨_,e⟩|⟨_,e⟩<;>cases e
  cases w:H b with
  |none=>exact absurd w (R.m0 b z)
  |some o=>rw[g b o w q];simp
 .by_cases q:b=a
  .rw[q];exact h.q
  have:=R.W b z
  rcases this with⟨_,e⟩|⟨_,e⟩|⟨_,e⟩|⟨_,e⟩
  .rw[r b _ e q];exact .inl ⟨_,e⟩
  .rw[r b _ e q];exact .inr<|.inl ⟨_,e⟩
  .rw[r b _ e q];exact .inr<|.inr<|.inl ⟨_,e⟩
  rw[r b _ e q];exact .inr<|.inr<|.inr ⟨_,e⟩
 by_cases q:j=i
 .subst q;rw[br E] at e;cases e;rcases I with⟨q,rfl⟩|⟨q,rfl⟩
  .refine Eb (R.S j _ q) λv k l t _=>?_;rw[C] at k;cases k;exact⟨a,C,l,t,h⟩
  refine Eb (R.S j _ q) λv k l t _=>?_;rw[C] at k;cases k;exact⟨a,C,l,t,h⟩
 rw[bX<|eW q] at e;have z:=R.S j s e;have c:∀{b:Addr} {d:D},ow j=some b->OV G _ H b d->OV G _ H' b d:=λ{b d} k y=>by
  have A:b≠a:=λw=>q<|R.inj j i b k<|w▸C;rcases y.q with⟨_,e⟩|⟨_,e⟩|⟨_,e⟩|⟨_,e⟩<;>exact y.R R.W kp (r b _ e A)
 cases s with
 |S=>exact z
 |f d=>obtain⟨b,x,e,q⟩:=z;exact⟨b,x,e,q.R R.W kp⟩
 |o d=>refine ZB z λb x e f p=>?_;exact⟨b,x,e,f,c x p⟩
 |i d=>refine ZB z λb x e f p=>?_;exact⟨b,x,e,f,c x p⟩
 |b d=>exact(R.nb j d e).elim
 |g w b d=>refine ZN z λx e f p=>?_;exact⟨x,e,f,c x p⟩
theorem Go.chg(C:ow i=some a)(g:Kp (· = a) H H')(h:OV G (Ow O0 ow) H' a d):Go O0 ow H ow H':=
 ⟨λb u e n=>g b u e λz=>n<|z▸.inr ⟨i,C⟩,λj b e=>.inl<|.inr ⟨j,e⟩,λb n=>by
  by_cases q:b=a
  .rw[q]
   have:=h.q
   intro w;rw[w] at this;rcases this with⟨_,e⟩|⟨_,e⟩|⟨_,e⟩|⟨_,e⟩<;>cases e
  cases w:H b with
  |none=>exact absurd w n
  |some o=>rw[g b o w q];simp⟩
theorem rB:Kp (· = a) H (L2.upd H a o):=λb u e n=>by rw[L2.bf n];exact e
noncomputable def oA(m:Me)(i:Nat):Option (Bool×List D):=match m[i]? with
 |some (.o<|.P ds)=>some (true,ds)
 |some (.i<|.P ds)=>some (false,ds)
 |_=>none
noncomputable def dk(m:Me)(i:Nat)(k:Bool)(ds:List D):Me:=m.set i<|if k then .o (.P ds) else .i (.P ds)
theorem sX(R:fc G O0 M0 H0 ow σ H m)(e:oA m i=some (k,ds)):∃a xs,ow i=some a/\σ[i]? = some (some<|.r a)/\H a=some (.P xs)/\bi G (Ow O0 ow) H xs ds/\((m[i]? = some (.o<|.P ds)/\k=true)\/(m[i]? = some (.i<|.P ds)/\k=false)):=by
 unfold oA at e;split at e
 .rename_i q;cases e;obtain⟨a,b,g,d,xs,c,f⟩:=R.S i _ q;exact⟨a,xs,b,d,c,f,.inl ⟨q,rfl⟩⟩
 .rename_i q;cases e;obtain⟨a,b,g,d,xs,c,f⟩:=R.S i _ q;exact⟨a,xs,b,d,c,f,.inr ⟨q,rfl⟩⟩
 cases e
theorem dg.Id(R:dg G O0 M0 H0 ow σ H m)(o:ow i=some a)(C:(m[i]? = some (.o<|.P ds)/\k=true)\/(m[i]? = some (.i<|.P ds)/\k=false))(hd:bi G (Ow O0 ow) H ys es):
  dg G O0 M0 H0 ow σ (L2.upd H a<|.P ys) (dk m i k es)/\Go O0 ow H ow (L2.upd H a<|.P ys):=by
 have f:Ow O0 ow a:=.inr ⟨i,o⟩;have kp:Kp _ H (L2.upd H a<|.P ys):=λb u e n=>rB b u e λz=>n<|z▸f;have c:OV G _ _ a (.P es):=⟨ys,L2.aP,hd.R R.W kp⟩;refine⟨R.chg (d:=.P ds) o rB c ?_,Go.chg o rB c⟩;rcases C with⟨e,rfl⟩|⟨e,rfl⟩
 .exact .inl ⟨e,rfl⟩
 exact .inr ⟨e,rfl⟩
def cR(i:Nat)(f:bv):ap:=λm=>(b6<|oA m i).s λo=>(f m).s λd=>if o.2.length<aw then .R (.n,dk m i o.1<|o.2++[d]) else .b
theorem Dw  i (he:FE X E e f)(hN:autoParam (X.N[i]? = some x) YO)(I:autoParam (i' X.d.scope x) YR)(hd:autoParam ((x==("__debug__":Str))=false) YI)(J:autoParam ((x==("__classdict__":Str))=false) YI)
  (ξ:autoParam (ib (.Name x np) "append" X.d (eval (.Name x np) X.d)=eval (.Name x np) X.d) YO)
  (υ:autoParam (((ij η<|ag [e] X.d).all (λx=>!x.1)&&(yk η<|og [] X.d).all (λx=>x.1.isSome)&&decide ([e].length+([]:List om).length+(if([]:List om).isEmpty then 0 else 1)<30))=true) YO)
  (θ:autoParam ((apos.endLine==η.line)=true) YO) (U:autoParam (ag [e] X.d=(false,eval e X.d)::ag [] X.d) YO) (C:autoParam ((ij η<|ag [] X.d).any (·.1)=false) YO)
  (δ:autoParam (eM (.Call (.Attribute (.Name x np) "append" apos) [e] [] η) none pos.line X.d=pure false) YO):
  FS X E (.Expr (.Call (.Attribute (.Name x np) "append" apos) [e] [] η) pos) (cR i f):=
 bN (yq (PQ iF xD xE Cq (iG hN I hd J) (eG he nM U) ξ υ θ U C) δ) λW z H t=>cC t λw M0 H0 ow m R q=>by
  refine oj (Ss.l q) λo s q=>?_;obtain⟨k,j⟩:=o;refine yZ (sX R.tofc s) λa c p r l h n=>?_;refine⟨_,r,.inl ⟨rfl,c,eO.c l⟩,w,M0,H0,ow,m,R.tofc,(Ss.t R.tofc q).u (aD.s _) λd q v H1 b I=>?_⟩;have u:=R.T b;by_cases g:j.length<aw
  .rw[if_pos g] at q;obtain⟨R2,y⟩:=u.Id (es:=j++[d]) (ys:=c++[v]) p n<|lu (h.T b)<|.e I .f;exact⟨a,c,v,rfl,rfl,b _ _ l,by rw[bK h];exact g,q _ _ _ R2<|(Go.s b).t y⟩
  rw[if_neg g] at q;exact q.elim
def Ln(i:Nat)(f:bv):ap:=λm=>(b6<|oA m i).s λo=>(f m).s λd=>match d with
 | .P es=>if o.2.length+es.length<=aw then .R (.n,dk m i o.1<|o.2++es) else .b
 |_=>.b
theorem Xr  i (he:FN X E e f)(hN:autoParam (X.N[i]? = some x) YO)(I:autoParam (i' X.d.scope x) YR)(hd:autoParam ((x==("__debug__":Str))=false) YI)(J:autoParam ((x==("__classdict__":Str))=false) YI)
  (ξ:autoParam (ib (.Name x np) "extend" X.d (eval (.Name x np) X.d)=eval (.Name x np) X.d) YO)
  (υ:autoParam (((ij η<|ag [e] X.d).all (λx=>!x.1)&&(yk η<|og [] X.d).all (λx=>x.1.isSome)&&decide ([e].length+([]:List om).length+(if([]:List om).isEmpty then 0 else 1)<30))=true) YO)
  (θ:autoParam ((apos.endLine==η.line)=true) YO) (U:autoParam (ag [e] X.d=(false,eval e X.d)::ag [] X.d) YO) (C:autoParam ((ij η<|ag [] X.d).any (·.1)=false) YO)
  (δ:autoParam (eM (.Call (.Attribute (.Name x np) "extend" apos) [e] [] η) none pos.line X.d=pure false) YO):
  FS X E (.Expr (.Call (.Attribute (.Name x np) "extend" apos) [e] [] η) pos) (Ln i f):=
 bN (yq (PQ iF PySem.F.slot_list_extend PySem.F.type_list_extend V7 (iG hN I hd J) (eG he nM U) ξ υ θ U C) δ) λW M H G=>cC G λs M0 H0 ow m R q=>by
  refine oj (Ss.l q) λo D q=>?_;obtain⟨k,g⟩:=o;refine yZ (sX R.tofc D) λa h A B v u y=>?_;refine⟨_,B,.inl ⟨rfl,h,eO.c v⟩,s,M0,H0,ow,m,R.tofc,(Ss.t R.tofc q).u (aD.s _) λd q p H1 c n I=>?_⟩;have K:=R.T c;cases d with
  |P es=>
   have q:Ss (gx X) E s M0 H0 ow H W (if g.length+es.length<=aw then .R (.n,dk m i k<|g++es) else .b):=q;refine oj I λl w t=>?_;by_cases j:g.length+es.length<=aw
   .rw[if_pos j] at q;have r:bi (gx X) (Ow s ow) H1 l es:=t.N λb z=>.inl<|.inl z;obtain⟨R2,L⟩:=K.Id (es:=g++es) (ys:=h++l) A y<|lu (u.T c) r;exact⟨a,p,h,l,rfl,rfl,c _ _ v,w,by rw[bK u,bK t];exact j,q _ _ _ R2<|(Go.s c).t L⟩
   rw[if_neg j] at q;exact q.elim
  |_=>exact q.elim
def Ms(j i:Nat):ap:=λm=>(b6<|oA m i).s λo=>(b6<|o.2[o.2.length-1]?).s λd=>.R (.n,(dk m i o.1 o.2.dropLast).set j<|.f d)
theorem Aj(h:bi G O H xs ds):bi G O H xs.dropLast ds.dropLast:=by
 rw[AH,AH,bK h];exact BW _ h
theorem W8  j i (I:X.N.Nodup)(hj:X.N[j]? = some y)(hy:k6 X.d.scope y)(hN:autoParam (X.N[i]? = some x) YO)(C:autoParam (i' X.d.scope x) YR)(hd:autoParam ((x==("__debug__":Str))=false) YI)(J:autoParam ((x==("__classdict__":Str))=false) YI)
  (ξ:autoParam (ib (.Name x np) "pop" X.d (eval (.Name x np) X.d)=eval (.Name x np) X.d) YO) (θ:autoParam ((apos.endLine==η.line)=true) YO) {U:Pos}
  (δ:autoParam (eM (.Call (.Attribute (.Name x np) "pop" apos) [] [] η) (some<|.Name y U) pos.line X.d=pure false) YO) (hf:autoParam (X.i y=true\/X.d.scope.names.lookup y=some .local) iv):
  FS X E (.Assign [.Name y U] (.Call (.Attribute (.Name x np) "pop" apos) [] [] η) pos) (Ms j i):=
 bN (Dp I hj hy (Rr iF AI AJ Yq (iG hN C hd J) ξ θ) δ hf) λW u H s=>cC s λw M0 H0 ow m R q=>by
  refine oj (Ss.l q) λo r q=>?_;obtain⟨k,p⟩:=o;refine oj (Ss.l q) λd e q=>?_;refine yZ (sX R.tofc r) λa b l n h f t=>?_;refine oj (zU f e) λv C dv=>?_;obtain⟨R2,g⟩:=R.Id (es:=p.dropLast) (ys:=b.dropLast) l t<|Aj f;have c:=dv.Y R.W g.k;exact⟨_,n,.inl ⟨rfl,b,eO.c h⟩,a,b,v,rfl,rfl,h,by rw[bK f];exact C,q _ _ _ (R2.Y c)<|g.t Go.Y⟩
def eX(i:Nat)(fk fv:bv):ap:=λm=>(fv m).s λd=>(b6<|oA m i).s λo=>(fk m).s λk=>match k with
 | .l n=>(b6<|hQ o.2.length n).s λj=>.R (.n,dk m i o.1<|o.2.set j d)
 |_=>.b
def Xs(G:Gx)(E:XK){o:Type}(O0 M0:hD)(H0:Hp)(ow:Os)(I:L2.St)(H:Hp)(r:bd (o×Me))(k:o->Hp->Prop):Prop:=match r with
 | .R (a,m')=>∀H',dg G O0 M0 H0 ow I H' m'->Go O0 ow H ow H'->k a H'
 | .A c=>∀C H',XP G H' c C->Kp M0 H0 H'->E (.ref C.1) C.2 H'
 | .b=>False
def tX(G:Gx)(E:XK)(f:Me->bd (D×Me)):TE:=λa H Q=>∃O0 M0 H0 ow m,dg G O0 M0 H0 ow a H m/\Xs G E O0 M0 H0 ow a H (f m) λd H'=>∀v,DV G (Ow O0 ow) H' v d->Q v H'
def J'(G:Gx)(E:XK)(f:Me->bd (List D×Me)):TA:=λa H Q=>∃O0 M0 H0 ow m,dg G O0 M0 H0 ow a H m/\Xs G E O0 M0 H0 ow a H (f m) λds H'=>∀b,bi G (Ow O0 ow) H' b ds->Q b H'
abbrev FX(X:Cx)(E:XK)(e:Expr)(f:Me->bd (D×Me)):Prop:=PE X e<|tX (gx X) E f
abbrev Ee(X:Cx)(E:XK)(es:List Expr)(f:Me->bd (List D×Me)):Prop:=PA X es<|J' (gx X) E f
section
variable {G:Gx}{E:XK}{O0 M0:hD}{H0 H H1:Hp}{ow:Os}
theorem Xs.u(h:Xs G E O0 M0 H0 ow σ H r k)(g:Go O0 ow H ow H1)(hk:∀a H' m',dg G O0 M0 H0 ow σ H' m'->Go O0 ow H1 ow H'->r=.R (a,m')->k a H'->k' a H'):Xs G E O0 M0 H0 ow σ H1 r k':=by
 cases r with
 |R a=>obtain⟨a,m'⟩:=a;exact λH' R b=>hk a H' m' R b rfl<|h H' R<|g.t b
 |A c=>exact h
 |b=>exact h
theorem Xs.s{f:o->Me->bd (C×Me)}(h:Xs G E O0 M0 H0 ow σ H (r.s λp=>f p.1 p.2) k):
  Xs G E O0 M0 H0 ow σ H r λa H'=>∀m',r=.R (a,m')->dg G O0 M0 H0 ow σ H' m'->Xs G E O0 M0 H0 ow σ H' (f a m') k:=by
 cases r with
 |R a=>
  obtain⟨a,d⟩:=a;intro H' R g m' e l;cases e;have h:Xs G E O0 M0 H0 ow σ H (f a d) k:=h;cases z:f a d with
  |R b=>obtain⟨b,m⟩:=b;rw[z] at h;exact λj R2 i=>h j R2<|g.t i
  |A c=>rw[z] at h;exact h
  |b=>rw[z] at h;exact h
 |A c=>exact h
 |b=>exact h
theorem Xs.t{f:I->bd (J×Me)}(R:fc G O0 M0 H0 ow σ H m)(h:Xs G E O0 M0 H0 ow σ H (r.s f) k):Pu G E r H λa=>Xs G E O0 M0 H0 ow σ H (f a) k:=by
 cases r with
 |R a=>exact h
 |A c=>exact λC H' e g=>h C H' e λb o e n=>g b o<|R.Z b o e n
 |b=>exact h
end
noncomputable def fX(f:bv):Me->bd (D×Me):=λm=>(f m).s λd=>.R (d,m)
def Jq:Me->bd (List D×Me):=λm=>.R ([],m)
noncomputable def xN(o:Me->bd (D×Me))(fs:Me->bd (List D×Me)):Me->bd (List D×Me):=λm=>(o m).s λp=>(fs p.2).s λq=>.R (p.1::q.1,q.2)
noncomputable def JS(fs:Me->bd (List D×Me)):Me->bd (D×Me):=λm=>(fs m).s λq=>if q.1.length<=aw then .R (.w q.1,q.2) else .b
section
variable {f:bv}{pos:Pos}{i:Nat}
theorem GT(h:FE X E e f):FX X E e (fX f):=bA h λi H Q b=>cC b λa M0 H0 ow m R q=>⟨a,M0,H0,ow,m,R.tofc,(Xs.t R.tofc q).u (aD.s _) λd q v H' g c=>q H' (R.T g) (Go.s g) v c⟩
theorem Ui:Ee X E [] Jq:=tu nM λb H Q a=>cC a λc M0 H0 ow m R q=>q H R (Go.s<|aD.s _) [] .f
theorem Al(o:FX X E e fa)(I:Ee X E es fs)(C:autoParam (ag (e::es) X.d=(false,eval e X.d)::ag es X.d) YO):Ee X E (e::es) (xN fa fs):=
 tu (eG o I C) λu H Q n=>cC n λi M0 H0 ow m R q=>⟨i,M0,H0,ow,m,R,(Xs.s (f:=λd a=>(fs a).s λq=>.R (d::q.1,q.2)) q).u (Go.s<|aD.s _) λd H1 a c t j q v k=>⟨i,M0,H0,ow,a,c,?_⟩⟩
where finally
 refine(Xs.s (f:=λh b=>.R (d::h,b))<|q a j c).u (Go.s<|aD.s _) λh s b R2 r l q p g=>?_;exact q b l R2 s R2 (Go.s<|aD.s _) _<|.e (k.Y c.W r.k) g
theorem ZD(h:Ee X E es fs):FX X E (.Tuple es x1 pos) (JS fs):=bA (Tu h) λs H Q k=>cC k λn M0 H0 ow m R q=>by
 refine⟨n,M0,H0,ow,m,R,(Xs.s (f:=λa l=>if a.length<=aw then .R (D.w a,l) else .b) q).u (Go.s<|aD.s _) λa H1 j d r i q t c=>?_⟩;have q:=q j i d;by_cases b:a.length<=aw
 .rw[if_pos b] at q;exact⟨by rw[bK c];exact b,λp H' g e=>q H' (d.T g) (Go.s g) _<|.w (lz.c e)<|c.T g⟩
 rw[if_neg b] at q;exact q.elim
noncomputable def wF(i:Nat)(f:Me->bd (D×Me)):ap:=λm=>(f m).s λp=>.R (.n,p.2.set i<|.f p.1)
theorem Xs.v{k:D->ap}(h:Ss G E O0 M0 H0 ow H W (r.s λp=>k p.1 p.2)):
  Xs G E O0 M0 H0 ow o H r λd H'=>∀m',r=.R (d,m')->dg G O0 M0 H0 ow o H' m'->Ss G E O0 M0 H0 ow H' W (k d m'):=by
 cases r with
 |R a=>
  obtain⟨d,b⟩:=a;intro H' R g m' e f;cases e;exact Ss.Y h g
 |A c=>exact h
 |b=>exact h
theorem Ma(C:X.N.Nodup)(U:X.N[i]? = some x)(I:k6 X.d.scope x)(he:FX X E e fa)(hs:autoParam (eM e (some<|.Name x o) pos.line X.d=pure false) YO)
  (J:autoParam (X.i x=true\/X.d.scope.names.lookup x=some .local) iv):FS X E (.Assign [.Name x o] e pos) (wF i fa):=bN (Dp C U I he hs J) λW l H j=>cC j λh M0 H0 ow m R q=>by
 refine⟨h,M0,H0,ow,m,R,(Xs.v (k:=λd b=>.R (.n,b.set i<|.f d)) q).u (Go.s<|aD.s _) λd H1 g a n c q v f=>?_⟩;exact q g c a _ _ _ (a.Y f) Go.Y
end
theorem E5(z:Ow (Op O0 l) ow b):Ow O0 ow b\/b=l:=z.elim (λy=>y.elim (λw=>.inl<|.inl w) .inr) λy=>.inl<|.inr y
def tM(G:Gx)(E:XK)(f:Me->bd Unit):TE:=λa H Q=>∃O0 M0 H0 ow m,fc G O0 M0 H0 ow a H m/\Pu G E (f m) H λ_=>∀v H',aD H H'->Q v H'
abbrev FM(X:Cx)(E:XK)(e:Expr)(f:Me->bd Unit):Prop:=PE X e<|tM (gx X) E f
noncomputable def fM(f:bv):Me->bd Unit:=λm=>(f m).s λ_=>.R ()
noncomputable def nG(c:Str)(f:Me->bd Unit):ap:=λm=>(f m).s λ_=>.A (c,[],[])
section
variable {f:bv}{np η pos:Pos}
theorem Oi(h:FE X E e f):FM X E e (fM f):=bA h λc H Q b=>cC b λa M0 H0 ow m R q=>⟨a,M0,H0,ow,m,R,q.s.u (aD.s _) λd k v H' g _=>k v H' g⟩
theorem Xt(FB:AD B newId initId bmB)(hq:PySem.W.excIn X.K C bmB newId=true)(hg:Gl X x)(J:X.m x=some (.ref C))(hh:X.A.handled=none)(he:FM X E e fu)
  (hx:∀(π:Zp) (I:L2.St) (H:Hp) (s:a7) (h':Heap) (U:Addr) (vs:List aI),am X π I H s->w8 s.heap h' U (.ref C) vs->E (.ref C) none H->X.g (.ref U) { s with heap:=h'})
  (hd:autoParam ((x==("__debug__":Str))=false) YI) (hs:autoParam (ag [e] X.d=(false,eval e X.d)::ag [] X.d) YO):
  FS X E (.Raise (some<|.Call (.Name x np) [e] [] η) none pos) (nG x fu):=bN (YT (W:=E) FB hq hg J hh he hx hd hs) λW I H c=>cC c λa M0 H0 ow m R q=>
 ⟨a,M0,H0,ow,m,R.tofc,(Ss.t R.tofc q).u (aD.s _) λ_ q v H' g=>⟨rfl,q (C,none) H' ⟨J,[],[],.inl ⟨rfl,rfl⟩,rfl,rfl,λ_=>.f⟩ λb o e n=>g b o<|R.Z b o e n⟩⟩
end
def Ki(G:Gx)(g:ap):hR->(L2.St->XK)->L2.St->Hp->Prop:=λW Ex a H=>∃O0 M0 H0 ow m,dg G O0 M0 H0 ow a H m/\match g m with
 | .A c=>∀C H',XP G H' c C->aD H H'->Ex a (.ref C.1) C.2 H'
 |r=>Ss G E0 O0 M0 H0 ow H W r
abbrev E_(X:Cx)(st:List Stmt)(g:ap):Prop:=wS X st<|Ki (gx X) g
noncomputable def Wx(i:Nat)(sub:Str->Bool)(b h:ap):ap:=λm=>match b m with
 | .A c=>if sub c.1=true then match h (m.set i<|.f<|.A c.1 c.2.1 c.2.2) with
   | .R (fl,m')=>.R (fl,m'.set i .S)
   |_=>.b
  else .b
 |r=>r
theorem X4{st:List Stmt}{T C:hR->(L2.St->XK)->L2.St->Hp->Prop}(h:wS X st T)(k:∀W E o H,C W E o H->T W E o H):wS X st C:=λa s o H W E I q=>h a s o H W E I<|k W E o H q
section
variable {X:Cx}{Φ:b8}{p pos η pos':Pos}{fs:g7}{i:Nat}
noncomputable def Qc(i:Nat)(Φ:b8)(fs:g7):ap:=λm=>match fs m with
 | .R ds=>(Φ ds).s λr=>.R (.n,m.set i<|.f r.2)
 |_=>.b
theorem VE(Fh:FF X.p X.w X.K X.m X.T k x ps Φ)(hr:eV j X.A)(I:X.N.Nodup)(hi:X.N[i]? = some y)(hy:k6 X.d.scope y)(J:ln X.q E0 (e::es) fs)(hk:autoParam (k<=j) YI)(hg:autoParam (Gl X x) YO)(o:autoParam ((x==("__debug__":Str))=false) YI)
  (he:autoParam (ag (e::es) X.d=(false,eval e X.d)::ag es X.d) YO) (μ:autoParam ((ij η<|ag es X.d).any (·.1)=false) YO) (U:autoParam (eM (.Call (.Name x p) (e::es) [] η) (some<|.Name y pos') pos.line X.d=pure false) YO)
  (hf:autoParam (X.i y=true\/X.d.scope.names.lookup y=some .local) iv):
  E_ X [.Assign [.Name y pos'] (.Call (.Name x p) (e::es) [] η) pos] (Qc i Φ fs):=X4 (Pe I hi hy (On Fh hr J hk hg o he μ) U hf) λW Ex l H h=>cC h λd M0 H0 ow m R q=>by
 refine⟨d,M0,H0,ow,m,R.tofc,?_⟩;unfold Qc at q;cases z:fs m with
 |A c=>rw[z] at q;exact q.elim
 |b=>rw[z] at q;exact q.elim
 |R ds=>
  rw[z] at q;intro n H1 a f;refine⟨Ow d ow,ds,(R.T a).W,f,?_⟩;cases w:Φ ds with
  |A c=>simp only[w] at q;exact λC H' e g=>q C H' e<|a.t g
  |b=>simp only[w] at q;exact q.elim
  |R r=>simp only[w] at q;exact λv H' g b _=>q _ _ H' ((R.T<|a.t g).Y b)<|(Go.s<|a.t g).t Go.Y
theorem dg.LE i(R:dg G O0 M0 H0 ow o H m):dg G O0 M0 H0 (k_ ow i none) (o.set i none) H (m.set i .S):=by
 have sub:∀b,Ow O0 (k_ ow i _) b->Ow O0 ow b\/H b=none:=λb z=>.inl z.s;refine⟨⟨by simp[R.mt],R.Z,R.m0,λb z=>R.W b z.s,λj a e=>?_,λj k a c d=>?_,λj f=>?_,λj s e=>?_⟩,CN R.nb λ_ z=>by cases z⟩
 .by_cases q:j=i
  .subst q;rw[fZ] at e;cases e
  rw[fB q] at e;exact R.IO j a e
 .by_cases q:j=i
  .subst q;rw[fZ] at c;cases c
  by_cases g:k=i
  .subst g;rw[fZ] at d;cases d
  rw[fB q] at c;rw[fB g] at d;exact R.inj j k a c d
 .by_cases q:j=i
  .subst q;exact fZ
  rw[fB q];exact R.X j<|by simpa using f
 by_cases q:j=i
 .subst q;have f:j<m.length:=by simpa using vU e
  rw[br f] at e;cases e;exact fZ
 rw[bX<|eW q] at e;rw[fB q,bX<|eW q];exact(R.S j s e).N sub λ_ _ b _=>sg _
def Da(X:Cx)(g:ap):TS:=λW a H=>O2 X.A H/\tS (gx X) E0 g W a H
theorem Q1 sub
  (hst:X.Z=X.d::X.h) (hfr:X.d.frame=some X.d.locals) (hb:E_ X J gb) (hN:X.N.Nodup) (hi:X.N[i]? = some n) (hn:X.d.scope.names.lookup n=some .local)
  (hg:Gl X x) (hm:X.m x=some (.ref DC)) (hsub:∀c C,sub c=true->X.m c=some (.ref C)->vS X.K (.ref C) (.ref DC)=some true) (hs:∀o,lS (pb X o) (U::I)<|Da (pb X o) gh) (hd:autoParam ((x==("__debug__":Str))=false) YI):
  FS X E (.Try J [.ExceptHandler (some<|.Name x np) (some n) (U::I) hpos] [] [] pos) (Wx i sub gb gh):=bN (P0 hst hfr hb hN hi hn hg hm (λo=>hs o) hd) λW σ H hE=>cC hE λG M0 H0 ow m R q=>by
 refine⟨G,M0,H0,ow,m,R,?_⟩;unfold Wx at q;cases z:gb m with
 |R a=>
  obtain⟨F,O⟩:=a;rw[z] at q;cases F<;>exact q
 |b=>rw[z] at q;exact q.elim
 |A c=>
  rw[z] at q;intro C H' s g;by_cases h:sub c.1=true
  case neg=>simp only[if_neg h] at q;exact q.elim
  simp only[if_pos h] at q;obtain⟨s,fs,vs,T,M,Q,P⟩:=s;refine⟨hsub _ _ h s,λo A D o1 V B=>?_⟩;have R':=R.T g;have u:aD H' (upd H' o<|.b A<|.e<|vm o<|.ref C.1):=bH D _;have R2:=(R'.T u).Y (i:=i) (v:=.r o) (d:=.A c.1 c.2.1 c.2.2)<|.A s aP (V▸T.imp id (by intro zr0;refine Y' zr0 λd q z y=>?_;exact ⟨d,q,z,u _ _ y⟩)) M Q<|(P _).T u;refine oj B λL B S=>?_;refine⟨⟨o,A,_,L,rfl,aP,B,S⟩,G,M0,H0,_,_,R2,?_⟩;have r:Go G ow H (k_ ow i none) (upd H' o<|.b A<|.e<|vm o<|.ref C.1):=(Go.s<|g.t u).t Go.Y;cases w:gh (m.set i<|.f<|.A c.1 c.2.1 c.2.2) with
  |A c'=>rw[w] at q;exact q.elim
  |b=>rw[w] at q;exact q.elim
  |R a=>
   obtain⟨F,O⟩:=a;rw[w] at q;cases F with
   |n=>exact λf l e k j=>q _ _ e (k.LE i)<|(r.t j).t Go.Y
   |bk=>exact λf l e k j=>q _ _ e (k.LE i)<|(r.t j).t Go.Y
   |c=>exact λf l e k j=>q _ _ e (k.LE i)<|(r.t j).t Go.Y
   |r fr d=>
    intro v f l e k j Z hf;refine q v _ _ e (k.LE i) ((r.t j).t Go.Y) (Z.N λb z=>.inl z.s) λz=>?_;rcases hf z with⟨p,Y,e2,e3⟩|t
    .exact .inl ⟨p,Y,e2,e3.N λb z=>.inl<|z.elim (λy=>.inl y.s) .inr⟩
    exact .inr t
end
theorem fc.more(R:fc G O0 M0 H0 ow o H m)(g:aD H H1)(C:H l=none)(I:jc (H1 l)):fc G (Op O0 l) M0 H0 ow o H1 m:=by
 have f:=R.Nr C;have c:∀b,Ow (Op O0 l) ow b->Ow O0 ow b\/H b=none:=λb z=>(E5 z).elim .inl λe=>.inr (by rw[e];exact C);have d:=R.T g;refine⟨R.mt,d.Z,d.m0,λb z=>?_,λi a e z=>?_,R.inj,R.X,λi s e=>?_⟩
 .rcases E5 z with z|z
  .exact d.W b z
  rw[z];exact I
 .rcases z with z|z
  .exact R.IO i a e z
  exact f<|z▸.inr ⟨i,e⟩
 exact((R.S i s e).N c λ_ _ b _=>sg _).T g
noncomputable def M8:List D->Option (List Str)
 |[]=>some []
 | .p x::ds=>(M8 ds).map (x::·)
 |_::_=>none
theorem TX:∀{o:List V} {ds:List D} {zs:List Str},bi G O H o ds->M8 ds=some zs->o=zs.map V.p
 |_,_,_,.f,e=>by cases e;rfl
 |_,_,_,.e (d:=d) h hs,e=>by
  cases d with
  |p i=>
   refine oj (fx (by simpa[M8] using e)) λb a zq2=>?_;subst zq2;cases h;rw[TX hs a];rfl
  |_=>cases e
def Jf:D->List D->Option D
 | .p z,[.P es]=>match M8 es with
  |some zs=>if DD z zs=true then some (.p<|BY z zs) else none
  |none=>none
 |_,_=>none
theorem XL:z3 X "str.join" (FC (gx X) Jf):=by
 intro f s l H x A v k Q I i t h;refine xx h λO d w r m g n a q=>?_;unfold Jf at a;split at a
 .rename_i z e;cases jG g;refine oj (yF n) λy zq1 c=>?_;subst zq1;refine Y_ (iV c) λp u zq2 j hd=>?_;subst zq2;cases b:M8 e with
  |none=>rw[b] at a;cases a
  |some zs=>
   rw[b] at a;obtain⟨ok,rfl⟩:=nw a
   have:=TX hd b
   subst this;exact VW _ rfl f s l H _ _ v k Q I i t ⟨z,p,zs,rfl,rfl,j,ok,q _ _ (aD.s _)<|.p _⟩
 cases a
def Tq(K:bg):Sp:=λb H Q _=>∃(a:Addr) (ns:List Int),b=[.r a]/\eO K H a (ns.map V.l)/\ns.length<=63/\∀H',Q (.B true) H'
theorem Nj:∀ns:List Int,bi G O H (ns.map V.l) (ns.map D.l)
 |[]=>.f
 |n::ns=>.e (.l n)<|Nj ns
section
variable {f fa:bv}{np η pos p py:Pos}
theorem uP(Ex:∃C,X.m x=some (.ref C)/\DF X.K C [.type "ValueError",.type "Exception",.type "BaseException",.type "object"] "ValueError.__new__" = true)(hg:Gl X x)(hh:X.A.handled=none)(he:FM X E e fu)
  (U:∀(C:Addr) (J:Zp) (I:L2.St) (H:Hp) (s:a7) (h':Heap) (o:Addr) (vs:List aI),am X J I H s->w8 s.heap h' o (.ref C) vs->E (.ref C) none H->X.g (.ref o) { s with heap:=h'})
  (hd:autoParam ((x==("__debug__":Str))=false) YI) (hs:autoParam (ag [e] X.d=(false,eval e X.d)::ag [] X.d) YO):
  FS X E (.Raise (some<|.Call (.Name x np) [e] [] η) none pos) (nG x fu):=by
 refine oj Ex λC b a=>?_;exact Xt ve a hg b hh he (U C) hd hs
theorem Te sub
  (hst:X.Z=X.d::X.h) (hfr:X.d.frame=some X.d.locals) (hb:E_ X J gb) (hN:X.N.Nodup) (hi:X.N[i]? = some n) (hn:X.d.scope.names.lookup n=some .local)
  (hg:Gl X x) (Xc:∃C,X.m x=some (.ref C)/\∀c D,sub c=true->X.m c=some (.ref D)->vS X.K (.ref D) (.ref C)=some true) (hs:∀ea,lS (pb X ea) (I::o)<|Da (pb X ea) gh) (hd:autoParam ((x==("__debug__":Str))=false) YI):
  FS X E (.Try J [.ExceptHandler (some<|.Name x np) (some n) (I::o) U] [] [] pos) (Wx i sub gb gh):=by
 refine oj Xc λC a b=>?_;exact Q1 _ hst hfr hb hN hi hn hg a b hs hd
noncomputable def Jc(tab:Str->Option Bool)(f:bv):bv:=λm=>(f m).s λd=>match d with
 | .A c _ _=>b6<|(tab c).map D.B
 |_=>.b
theorem Tf(I:D6 c=some cv)(J:∀c D b,tab c=some b->X.m c=some (.ref D)->XC X.K D/\h9 X.K (.ref D) cv=some b)
  (h:tE (gx X) E (Jc tab fa) o H Q):x_ (SW X.K) (Ye (tB (gx X) E fa)<|Ye (tC c) F4) o H Q:=by
 refine ZT h λn M0 H0 ow m R q=>?_;refine⟨n,M0,H0,ow,m,R,q.s.u (aD.s _) λd q v H' g j=>?_⟩;cases d with
 |A k _ _=>
  refine oj q.l λr t l=>?_;refine oj (fx t) λb f zq2=>?_;subst zq2;refine Y_ (Rt j) λp C zq2 e a=>?_;subst zq2;obtain⟨s,i⟩:=J k C b f e;exact⟨p,C,c,cv,b,rfl,I,a,s,i,l _ _ g<|.B _⟩
 |_=>exact q.elim
theorem VY(ha:FB X E a fa)(hg:Gl X "isinstance")(hm:X.m "isinstance" = none)(hv:cx "isinstance" = some (.builtin "isinstance"))(hgy:Gl X y)(ht:X.m y=none/\∀c D b,tab c=some b->X.m c=some (.ref D)->XC X.K D/\h9 X.K (.ref D) (.type T)=some b)(hvy:cx y=some (.type T))
  (hny:autoParam (y≠"__name__") YI) (hdy:autoParam ((y==("__debug__":Str))=false) YI) (J:autoParam (ag [a,.Name y py] X.d=(false,eval a X.d)::ag [.Name y py] X.d) YO) (U:autoParam (ag [.Name y py] X.d=(false,eval (.Name y py) X.d)::ag [] X.d) YO) (μ:autoParam ((ij pos<|ag [.Name y py] X.d).any (·.1)=false) YO):
  FE X E (.Call (.Name "isinstance" p) [a,.Name y py] [] pos) (Jc tab fa):=
 bA (xq (by intro n s x H m t Q I r h;refine Z_56 h λd C c g b zq5 k zq7 Z e q=>?_;subst zq5;obtain⟨i,J⟩:=zq7;refine Y_ (ms r) λu A zq2 ru f=>?_;subst zq2;have z:=Oj k f;subst z;cases(ru);refine ZI (I.W d _ J) λ_ zq1 _=>?_;obtain⟨o,j,l,_⟩:=zq1;exact kg (GD Z) I.kIn ⟨o,j,l⟩ e (λz=>nomatch z) λtk=>⟨.B b,H,I.tok _,rfl,q⟩) hg hm hv (eG ha (eG (TY (v:=.t T) hgy ht.1 hvy rfl hny hdy) nM U) J) (by decide) (by decide) J μ) λ_ _ _ h=>Tf rfl ht.2 h
end
noncomputable def wv:D->V
 | .B b=>.B b
 | .l i=>.l i
 | .p x=>.p x
 |_=>.E
theorem Yg(f:flat d=true)(h:DW G O H v d):v=wv d:=by
 cases d with
 |E=>exact zK h
 |B b=>exact Ot h
 |l i=>exact bM h
 |p x=>exact jG h
 |_=>cases f
theorem O7(f:flat d=true):zj (wv d)=true:=by cases d<;>first|rfl|subst f
theorem S6:∀{o:List V} {ds:List D},bi G O H o ds->ds.all flat=true->o=ds.map wv
 |_,_,.f,_=>rfl
 |_,_,.e (d:=d) (ds:=ds) h hs,f=>by
  have a:flat d=true/\ds.all flat=true:=by simpa using f
  rw[Yg a.1<|.inl h,S6 hs a.2];rfl
def tr(x:D)(ds:List D):Option Bool:=if flat x=true/\ds.all flat=true then some (DS (wv x)<|ds.map wv) else none
def qo:D->D->Option Bool
 | .p i,.p j=>some<|!(oT j i 0 j.length 1).isEmpty
 |x,.P ds=>tr x ds
 |x,.w ds=>tr x ds
 |_,_=>none
def Ww(d e:D):Option Bool:=(qo d e).map (!·)
theorem XG(ds:List D):ds.all flat=true->(ds.map wv).all zj=true:=by
 induction ds with
 |nil=>intro;rfl
 |cons d ds ih=>
  intro h;have a:flat d=true/\ds.all flat=true:=by simpa using h
  rw[ar,mE,O7 a.1,ih a.2];rfl
theorem M5(o:DW (gx X) O H x d)(C:(∃p xs,y=.r p/\(eO X.K H p xs\/h_ X.K H p xs)/\bi (gx X) O H xs ds))(h:tr d ds=some b)(q:Q (.B<|if neg then !b else b) H):EG X.K neg x y H Q:=by
 refine Y_ C λp xs zq2 e hd=>?_;subst zq2;obtain⟨⟨a,c⟩,rfl⟩:=nw h;rw[Yg a o]
 have:=S6 hd c
 subst this;exact⟨p,_,rfl,e,O7 a,XG _ c,q⟩
theorem IH:gc X (iq .In) (qf (gx X) qo):=by
 intro c s j H x y v u Q I g k h;refine ZH h λO d e r m f l a q=>?_;unfold qo at a;split at a
 .cases a;exact Xo c s j H x y v u Q I g k ⟨_,_,jG f,jG l,q⟩
 .refine Y_ (iV l) λp b zq2 i hd=>?_;subst zq2;exact Kf c s j H x _ v u Q I g k<|M5 f ⟨p,b,rfl,.inl i,hd⟩ a q
 .refine Y_ (zu l) λp b zq2 i hd=>?_;subst zq2;exact Kf c s j H x _ v u Q I g k<|M5 f ⟨p,b,rfl,.inr i,hd⟩ a q
 cases a
noncomputable def tK:List D->Option (List Bool)
 |[]=>some []
 | .B b::ds=>(tK ds).map (b::·)
 |_::_=>none
theorem Ab:∀{o:List V} {ds:List D} {bs:List Bool},bi G O H o ds->tK ds=some bs->o=bs.map V.B
 |_,_,_,.f,e=>by cases e;rfl
 |_,_,_,.e (d:=d) h hs,e=>by
  cases d with
  |B b=>
   refine oj (fx (by simpa[tK] using e)) λbs a zq2=>?_;subst zq2;cases h;rw[Ab hs a];rfl
  |_=>cases e
def Wg:List D->Option D
 |[.P ds]=>(tK ds).map λbs=>.B<|bs.all id
 |_=>none
def ZL:List D->Option D
 |[.P ds]=>(tK ds).map λbs=>.B<|bs.any id
 |_=>none
theorem GJ:∀{bs:List Bool} {us:List aI},a_ (bs.map V.B) us->LSm.BoolsAre us bs
 |[],_,.nil=>.nil
 |b::bs,_,.cons r t=>by subst r;exact .cons b<|GJ t
theorem JQ(o:X.f=true):jf X (.builtin "all") (o_ (gx X) Wg):=by
 intro E s M H l K Q I r h;refine Va h λO z d m n a q=>?_;unfold Wg at a;split at a
 .rename_i z;refine oj (fx a) λbs t zq2=>?_;subst zq2;refine oj (yF n) λv zq1 w=>?_;subst zq1;refine Y_ (iV w) λp l zq2 y hd=>?_;subst zq2
  have:=Ab hd t
  subst this;refine oj (e_ r) λu zq1 x=>?_;subst zq1;subst x;refine o5 (I.IO y) λg B pl L=>?_;have j:=GJ B;have c:=pl.isList;have f:p<s.heap.objs.size:=by refine oj c λ_ e _=>?_;exact aS e
  refine call_all_walk<|mP c ?_;refine⟨s.heap.objs.size,[s.heap.objs.size,p],[s.heap.objs.size],g.toArray.size,_,_,λi=>(bs[i]?).getD true,rfl,Walks.list (A:=X.A.in1) (I.R.g o) _ p (b0 f) g.toArray,
   ⟨⟨_,bp _ rfl,rfl,rfl⟩,c.push _⟩,λi v N F En D k=>?_,λG tk kp=>?_⟩
  .refine oj (j.get i v (by simpa using D)) λb e zq2=>?_;subst zq2;simp only[e,Option.getD_some] at k;exact kM k
  have e:((dc g.toArray.size).all λi=>(bs[i]?).getD true)=bs.all id:=by
   rw[bo,j.length];exact LSm.range_all bs
  rw[e];exact⟨.B _,H,I.we<|LSm.kept_iter kp,rfl,q _ _ (aD.s _)<|.B _⟩
 cases a
theorem JB(o:X.f=true):jf X (.builtin "any") (o_ (gx X) ZL):=by
 intro E s M H l K Q I r h;refine Va h λO z d m n a q=>?_;unfold ZL at a;split at a
 .rename_i z;refine oj (fx a) λbs t zq2=>?_;subst zq2;refine oj (yF n) λv zq1 w=>?_;subst zq1;refine Y_ (iV w) λp l zq2 y hd=>?_;subst zq2
  have:=Ab hd t
  subst this;refine oj (e_ r) λu zq1 x=>?_;subst zq1;subst x;refine o5 (I.IO y) λg B pl L=>?_;have j:=GJ B;have c:=pl.isList;have f:p<s.heap.objs.size:=by refine oj c λ_ e _=>?_;exact aS e
  refine call_any_walk<|mP c ?_;refine⟨ _,_,_,_,_,_,λi=>(bs[i]?).getD false,rfl,Walks.list (A:=X.A.in1) (I.R.g o) _ p (b0 f) _,
   ⟨⟨_,bp _ rfl,rfl,rfl⟩,c.push _⟩,λi v N F En D k=>?_,λG tk kp=>?_⟩
  .refine oj (j.get i v (by simpa using D)) λb e zq2=>?_;subst zq2;simp only[e,Option.getD_some] at k;exact kM k
  have e:((dc g.toArray.size).any λi=>(bs[i]?).getD false)=bs.any id:=by
   rw[bo,j.length];exact LSm.range_any bs
  rw[e];exact⟨.B _,H,I.we<|LSm.kept_iter kp,rfl,q _ _ (aD.s _)<|.B _⟩
 cases a
def E9(K:bg)(a:Addr):It:=
 ⟨λi H=>∃xs x,eO K H a xs/\xs[i]? = some x,λi H x H'=>∃y l,(∀xs,eO K H a xs->xs[i]? = some y)/\x=.r l/\H l=none/\H'=upd H l (.w [.l i,y]),λi H=>∃xs,eO K H a xs/\xs.length<=i⟩
theorem RN{σ:L2.St}{h':Heap}(I:am X J σ H s)(fe:CG X J H e)(fi:CG X J H C)(hne:e≠C)
  (he:∃o,s.heap.get? e=some o) (hi:∃o,s.heap.get? C=some o) (he':h'.get? e=some U) (hi':h'.get? C=some oi) (de:U.isFreed=false) (di:oi.isFreed=false)
  (k:∀b o,b≠e->b≠C->s.heap.get? b=some o->h'.get? b=some o):∃h1,am X J σ H { s with heap:=h1}/\h1.objs.size=s.heap.objs.size/\∀b u,h1.get? b=some u->h'.get? b=some u:=by
 obtain⟨w,he⟩:=he;obtain⟨t,hi⟩:=hi;refine tL fe λl j r f i p=>?_;refine tL fi λg c v h d n=>?_;have q:am X J σ H { s with heap:=s.heap.update e λ_=>U}:=I.turned (λb o a x=>(c4 _ _<|eW a).trans x) l j f i p;have m:am X J σ H { s with heap:=(s.heap.update e λ_=>U).update C λ_=>oi}:=q.turned (λb o a x=>(c4 _ _<|eW a).trans x) g c h d n;refine⟨_,m,?_,λb u x=>?_⟩
 .rw[(iX _ _ _).1,(iX _ _ _).1]
 by_cases z:b=C
 .subst z;rw[eP (λ_=>oi) ((c4 _ _ hne).trans hi) di] at x;cases x;exact hi'
 rw[c4 _ _<|eW z] at x;by_cases y:b=e
 .subst y;rw[eP (λ_=>U) he de] at x;cases x;exact he'
 rw[c4 _ _<|eW y] at x;exact k b u y z x
theorem WU{o:Obj}(d:o.data=.fields C):o.isFreed=false:=by
 obtain⟨c,e,a,b⟩:=o;cases(d);rfl
theorem Wa{K:bg} a e J (U:e≠J):
  mn fE P w K (.Tuple elts x1 pos) (E9 K a) [e,J] e (λi h=>(∃C,IsEnum h e J i C)/\h.IsListIter J a i) where
 m:=by simp
 c:=λi h j b l=>by
  obtain⟨⟨C,f⟩,g⟩:=j;have m:b=e\/b=J:=by simpa using l
  rcases m with rfl|rfl
  .exact⟨_,f,λv z=>by cases(show C3 _=Data.cell v from z)⟩
  refine o5 g λo e' c d=>?_;exact⟨o,e',λv z=>by rw[d] at z;cases z⟩
 Z:=λi h A j k=>by
  obtain⟨⟨C,f⟩,g⟩:=j;exact⟨⟨C,k e (by simp) _ f⟩,g.at λo x=>k J (by simp) o x⟩
 a:=by
  intro X N G L Y i V s Z H E I t j R;subst N G L;refine Y' R λxs x q M=>?_;obtain⟨⟨C,f⟩,g⟩:=j;refine o5 (I.IO q) λχ D p hz=>?_;refine oj (D.d M) λu hu ru=>?_;have fe:=t e (by simp);have fi:=t J (by simp);refine wpAny_pyNext_enum_item f g p.isList (by simpa using hu) U λA eo il ht hsz k=>?_;refine o5 (id il) λoi ei ci di=>?_;refine o5 (id g) λoj W cj dj=>?_;refine o5 (RN I fe fi U ⟨_,f⟩ ⟨_,W⟩ eo ei rfl (WU di) k) λh1 I1 z1 k1=>?_;have I2:am X V Z _ _:=
   I1.laid (t':=s.toks+1) k1 (CH z1) (show bZ _ _ _ _ _ (.w [.l i,x]) from⟨(show 2<=aw by decide),[.int i s.toks,u],.cons ⟨s.toks,rfl⟩<|.cons ru .nil,⟨_,ht,rfl,_,rfl,rfl⟩⟩)
  have fr:H s.heap.objs.size=none:=I.W.n<|bb _;have n:e≠s.heap.objs.size:=b0<|aS f;have O:J≠s.heap.objs.size:=b0<|aS W;have S:∀b,b≠s.heap.objs.size->H b=none->upd H s.heap.objs.size (.w [.l i,x]) b=none:=λb z y=>by rw[bf z];exact y
  refine⟨_,rfl,wpAny_letOwnedTupleGo_enum eo λh2 e2 sb=>?_⟩;refine tL fe λr F f2 B Q T=>?_;refine⟨.r s.heap.objs.size,_,I2.turned (t':=s.toks+1) (λb o l y=>(sb.2 b l).trans y) (S e n r) F B Q T,rfl,⟨x,_,λys hy=>by rw[I.Hl hy q];exact M,rfl,fr,rfl⟩,⟨⟨_,e2⟩,il.at λo y=>(sb.2 J<|eW U).trans y⟩,λb l=>?_⟩;have m:b=e\/b=J:=by simpa using l
  rcases m with rfl|rfl
  .exact S _ n r
  exact S _ O fi.1
 d:=by
  intro X N G L Y i V s Z H E I t j R;subst N G L;refine oj R λxs q M=>?_;obtain⟨⟨C,f⟩,g⟩:=j;refine o5 (I.IO q) λχ D p hz=>?_;refine tL (t J<|by simp) λr F f2 B Q T=>?_;have hl:=D.l;exact wpAny_pyNext_enum_end (I.R.g Y) f g p.isList (by simp;lia) λA m=>⟨rfl,I.turned (t':=s.toks) (λb o l y=>m b o l y) r F B Q T⟩
 e:=λ_ _ _ _ _ j h=>by
  obtain⟨⟨C,f⟩,g⟩:=j;exact wpAny_pyIter_enum f h
def MZ(K:bg)(o:TA):TI:=λa H R=>o a H λb H1=>∃p,b=[.r p]/\(∃xs,eO K H1 p xs)/\R (E9 K p) H1
theorem TN(hg:Gl X "enumerate")(U:X.m "enumerate" = none)(ha:PA X [a] J)(hs:autoParam (ag [a] X.d=[(false,eval a X.d)]) YO):PI fE X (.Tuple C x1 pt) (.Call (.Name "enumerate" p) [a] [] o) (MZ X.K J):=by
 intro f s j H R I h;refine Call_<|vB I hg U boot_enumerate<|fy (ce (ha o f s j H _ I h) λD s1 t=>f3 t λF H1 d v r=>?_) hs rfl;refine o5 r λl e zq2 q=>?_;obtain⟨B,w⟩:=zq2;subst e;refine oj (e_ v) λu zq1 m=>?_;subst zq1;subst m;refine o5 (d.IO w) λG L pl E=>?_;refine call_enumerate_list pl.isList λi g n sz k=>?_;have y:=d.we (t':=s1.toks) k;refine wpAny_pyIter_enum g ?_;refine⟨_,_,_,_,H1,rfl,y,Wa l _ _<|Nat.succ_ne_self _,⟨⟨_,g⟩,n⟩,λb x=>?_,q⟩;have A:b=s1.heap.objs.size+1\/b=s1.heap.objs.size:=by simpa using x
 have c:=A.elim (λz=>by rw[z];exact yA _) λz=>CH z.symm;exact d.QM c<|d.W.n c
noncomputable def Hk(ds:List D):List D:=ds.mapIdx λi d=>.w [.l i,d]
theorem Kd ds:(Hk ds).length=ds.length:=by simp[Hk]
theorem Tg{H:Hp}(h:∀O' o,P O' o->∃xs,eO G.K o a xs/\bi G O' o xs ds):Hc G (E9 G.K a) (Hk ds) P:=by
 intro O' o ev;refine oj (h O' o ev) λxs b hd=>?_;have k:=bK hd;refine⟨λi c=>⟨xs,xs[i]'(by rw[Kd] at c;lia),b,by simp⟩,λi x H' c y=>?_,xs,b,by rw[Kd];lia⟩;refine ZE y λy l j zq3 e zq5=>?_;subst zq3;subst zq5;refine oj (Bw hd<|j xs b) λd f g=>?_;exact⟨bH e _,_,by simp[Hk,List.getElem?_mapIdx,f],.w (lz.c aP)<|.e (.l _)<|.e (g.T<|bH e _) .f⟩
def ET(f:g7):g7:=λm=>(f m).s λd=>match d with
 |[.P ds]=>.R<|Hk ds
 |_=>.b
theorem XD{fs:g7}(hg:Gl X "enumerate")(I:X.m "enumerate" = none)(J:mm X E [a] fs)(U:autoParam (ag [a] X.d=[(false,eval a X.d)]) YO):vp X E (.Tuple o x1 pt) (.Call (.Name "enumerate" p) [a] [] C) (ET fs):=
 sZ (TN hg I J U) λn H R j=>cC j λk M0 H0 ow m f q=>⟨k,M0,H0,ow,m,f,q.s.u (aD.s _) λb q r H' g i=>by
  have z:∃c,b=[.P c]:=by
   cases b with
   |nil=>exact q.elim
   |cons d b=>cases d with
    |P c=>cases b with
     |nil=>exact⟨c,rfl⟩
     |cons _ _=>exact q.elim
    |_=>exact q.elim
  obtain⟨b,rfl⟩:=z;cases i with
  |e h1 h2=>
   cases h2;refine Y_ (iV h1) λl c zq2 h hd=>?_;subst zq2;exact⟨_,rfl,⟨_,h⟩,q _ H' g<|Tg (H:=H') (by rintro O' s ⟨sub,e⟩;exact ⟨_,Qg h e,hd.Y (f.T g).W ⟨sub,.c e⟩⟩)⟩⟩
theorem Zd:AR (.type "list_reverseiterator") "__len__" = pure none:=by rfl
theorem TU:AR (.type "list_reverseiterator") "__length_hint__" = pure (some<|.builtin "list_reverseiterator.__length_hint__"):=by rfl
section
variable {St:Nat->a7->Prop}
theorem TD(W:WalksS pr wo A.in1 I fp wr G n P St)(ty:∀i s,St i s->s.TypeIs (.ref I) "list_reverseiterator") S  o  c (st:St 0 s)(nf:S∉fp)(U:I∈fp)
  (oS:s.heap.get? S=some { cls:=.type "list",data:=.seq #[] c })
  (fin:∀s' J C,Moved (S::wr) G s s'->s'.heap.get? S=some { cls:=.type "list",dict:=none,data:=.seq J C,slots:=#[] }->ItemsOf P J n->R (.ok<|.ret o) s') (hn:n<=aw):
  cb (cK pr wo) A.in1 (mr (.ref S) (.ref I) o)
   (λf t=>match f with|.done f=>R (.ok f) t|.again C=>C.quiet=true/\A7 (cK pr wo) A C R t) (λe t=>R (.error e) t) s:=by
 have d:S≠I:=λe=>nf<|e▸U;have g:xI (.ref S) (.ref I)=false:=by simp[xI,d]
 refine ae<|wpAny_typeOf (ty 0 _ st) ?_;rw[if_neg (by rw[g];decide)];refine ae<|W.self 0 _ _ _ st<|ae<|i7 ?_;unfold Builtin.List.listLengthHint;refine ae<|mf (ty 0 _ st) Zd ?_;show cb _ _ _ _ _ _;refine ae<|mf (ty 0 _ st) TU ?_;generalize a:("list_reverseiterator.__length_hint__")=id0
 wp_delta
 rw[show splitId _=some ("list_reverseiterator", "__length_hint__") from by subst a;decide +kernel];subst a;refine ae<|nN (b:=true) (ty 0 _ st) (by rw[isSubtype_type];kernel_rfl)<|av ?_;rw[if_neg<|by decide];exact av ⟨plainId_quiet F.plain_extend_loop _,codeAny_extend_loopS W hn _ nf _ n 0 _ _ _ rfl (eK _) st oS (ItemsOf.nil P) fin⟩
end
theorem Xh{items:Array aI}(h:ItemsOf (λi v=>items[items.size-1-i]? = some v) ac items.size):ac=items.reverse:=by
 obtain⟨z,h⟩:=h;refine Array.ext (by simp[z]) λi a b=>?_
 have:=h i ac[i]<|by simp
 rw[Array.getElem_reverse];obtain⟨_,e⟩:=gX.mp this;exact e.symm
theorem IK(hh:A.handled=none)(J:s.heap.IsList l items)(C:s.heap.IsRevIter I l ((items.size:Int)-1))(U:l≠I)(hn:items.size<=aw)
  (fin:∀t tk c,(∀b o,b≠I->s.heap.get? b=some o->t.get? b=some o)->t.get? s.heap.objs.size=some { cls:=.type "list",dict:=none,data:=.seq items.reverse c,slots:=#[] }->Q (.ref s.heap.objs.size) { s with heap:=t,toks:=tk }):
  cb (cK pr wo) A (call (.type "list") [.ref I]) Q E s:=by
 refine o5 (id C) λK v ci D=>?_;refine oj (id J) λH r G=>?_;have g:I<s.heap.objs.size:=aS v;have f:l<s.heap.objs.size:=aS r;have nf:s.heap.objs.size∉[I,l]:=λd=>by
  rcases a9.mp d with z|z
  .exact rX g z
  exact rX f<|cS.mp z
 have W:=(Walks.listRev (prog:=pr) (w:=wo) (A:=A.in1.in1) hh I l U items).toS;refine callType_codes (Q₁:=λo t=>o=.ref s.heap.objs.size/\t={ s with heap:=s.heap.push { cls:=.type "list",data:=.seq #[] } }) F.called_list (F.typeCall_list_1 _) F.entry_list_init (code_list_new _ ⟨rfl,rfl⟩) λo t y=>?_;obtain⟨rfl,rfl⟩:=y;have j:(s.heap.push _).get? _=some { cls:=.type "list",data:=.seq #[] }:=bp _ rfl;refine⟨⟨_,j,rfl⟩,F.args_list_init_2 _ _,?_⟩;show cb _ A.in1.in1 (do let k<-zt (.ref s.heap.objs.size);Builtin.List.listUpdate (.ref s.heap.objs.size) (λ_=>#[]);letGo k.toList.reverse;mr (.ref s.heap.objs.size) (.ref I) .none) _ _ _;refine ae ?_;unfold zt;refine ae<|wq j rfl<|av ?_;refine ae (m:=updateSeq s.heap.objs.size λ_=>#[])<|wpAny_updateSeq j rfl ?_;have p:=eP (sT λ_=>(#[]:Array aI)) j rfl;refine ae<|wpAny_letGo ?_;have kp:∀b o,b≠s.heap.objs.size->s.heap.get? b=some o->((s.heap.push { cls:=.type "list",data:=.seq #[] }).update s.heap.objs.size<|sT λ_=>(#[]:Array aI)).get? b=some o:=
  λb o n e=>(c4 _ _<|eW n).trans<|ah _ e
 have a:(0:Nat)<=items.size/\s.heap.IsRevIter I l ((items.size:Int)-1-((0:Nat):Int))/\s.heap.IsList l items:=⟨eK _,by simpa using C,J⟩;refine TD W (λi t x=>x.2.1.typeIs) _ .none _ ⟨a.1,a.2.1.at λo e=>kp I o (b0 g) e,a.2.2.at λo e=>kp l o (b0 f) e⟩ nf (by simp) p (λt B c q h u=>?_) hn;refine⟨rfl,?_⟩;rw[Moved.eq_with q];rw[Xh u] at h;exact fin _ _ c (λb o n e=>q.heap b o (λd=>by
  rcases a9.mp d with z|d
  .exact fS _<|z▸aS e
  exact n<|cS.mp d) (kp b o (b0<|aS e) e)) h
theorem qK:cx "list" = some (.type "list"):=by decide +kernel
theorem P7:cx "reversed" = some (.type "reversed"):=by decide +kernel
def L4(K:bg):List V->Hp->VK->Prop:=λxs H Q=>∃p ys,xs=[.r p]/\eO K H p ys/\∀l,H l=none->Q (.r l) (upd H l<|.P ys.reverse)
theorem SG(hc:X.f=true)(hg:Gl X "list")(hm:X.m "list" = none)(J:Gl X "reversed")(U:X.m "reversed" = none)(ha:PA X [e] ta)
  (hs:autoParam (ag [e] X.d=[(false,eval e X.d)]) YO) (C:autoParam (ag [.Call (.Name "reversed" p') [e] [] pos'] X.d=[(false,eval (.Call (.Name "reversed" p') [e] [] pos') X.d)]) YO):
  PE X (.Call (.Name "list" p) [.Call (.Name "reversed" p') [e] [] pos'] [] pos) (x_ (L4 X.K) ta):=by
 intro g s x H Q I h;refine hJ<|vB I hg hm qK<|fy ?_ C rfl;rw[C];refine pe<|hJ<|vB I J U P7<|fy (ce (ha pos' g s x H _ I h) λB s1 m=>f3 m λD H1 a v j=>?_) hs rfl;refine Y_ j λl r zq2 y q=>?_;subst zq2;refine oj (e_ v) λu zq1 k=>?_;subst zq1;subst k;refine o5 (a.IO y) λd f pl z=>?_;have A:=f.l;refine call_reversed_list pl.isList<|xp ?_;have i:l<s1.heap.objs.size:=by refine oj pl.isList λ_ e _=>?_;exact aS e
 refine IK (s:={ s1 with heap:=s1.heap.push (revObj l<|(d.toArray.size:Int)-1)}) (a.R.g hc) (pl.isList.push _) ⟨_,bp _ rfl,rfl,rfl⟩ (b0 i) (by simp only[bo]<;>lia) λt tk c kp n=>?_;have sz:s1.heap.objs.size<=(s1.heap.push<|revObj l<|(d.toArray.size:Int)-1).objs.size:=by rw[A1];exact yA _
 refine⟨.r _,_,a.laid (t':=tk) (λb o e=>kp b o (b0<|aS e)<|ah _ e) sz<|show bZ X.p X.w _ t _ (.P r.reverse) from⟨by simp;omega,d.reverse,c,f.f,by simpa using n⟩,rfl,q _<|a.W.n sz⟩
noncomputable def EU:List D->Option D
 |[.P ds]=>some<|.P ds.reverse
 |_=>none
theorem Ty(hc:X.f=true)(hg:Gl X "list")(J:X.m "list" = none)(o:Gl X "reversed")(C:X.m "reversed" = none)(ha:mm X E [e] fs)
  (U:autoParam (ag [e] X.d=[(false,eval e X.d)]) YO) (I:autoParam (ag [.Call (.Name "reversed" p') [e] [] pos'] X.d=[(false,eval (.Call (.Name "reversed" p') [e] [] pos') X.d)]) YO):
  FN X E (.Call (.Name "list" p) [.Call (.Name "reversed" p') [e] [] pos'] [] pos) (aF EU fs):=
 bA (SG hc hg J o C ha U I) λu H Q h=>by
  refine Ph h λt M0 H0 ow m R q=>?_;refine⟨t,M0,H0,ow,m,R,q.s.u (aD.s _) λg q w H1 f j=>?_⟩;refine oj q.l λr d k=>?_
  refine oj (i1_ d) λg zq1 d=>?_;subst zq1
  cases d;refine oj (yF j) λv zq1 s=>?_;subst zq1;refine Y_ (iV s) λl i zq2 n hd=>?_;subst zq2;exact⟨l,i,rfl,n,λb a=>k b _ (f.t<|bH a _) (f.Y a) ⟨_,aP,((MK hd).N λc z=>z.elim .inl λe=>.inr (by rw[e];exact a)).T<|bH a _⟩⟩
theorem lp:∀{ns:List Int} {us:List aI},a_ (ns.map V.l) us->∃xs,us.toArray=intItems xs/\xs.toList.map (·.1)=ns
 |[],_,.nil=>⟨#[],by simp[intItems],rfl⟩
 |n::ns,_,.cons r t=>by
  refine oj (lp t) λxs b c=>?_;obtain⟨k,rfl⟩:=r;refine⟨#[(n,k)]++xs,?_,by simp[c]⟩;have a:=congrArg zD b;apply Array.toList_inj.mp;simp[intItems] at a ⊢;exact a
def K3:List D->Option D
 |[.P ds]=>(Ba ds).map λns=>.l ns.sum
 |_=>none
theorem JG(o:X.f=true):jf X (.builtin "sum") (o_ (gx X) K3):=by
 intro z s E H c B Q I r h;refine Va h λO l d m e a q=>?_;unfold K3 at a;split at a
 .rename_i l;refine oj (fx a) λn f zq2=>?_;subst zq2;refine oj (yF e) λv zq1 g=>?_;subst zq1;refine Y_ (iV g) λp c zq2 j hd=>?_;subst zq2
  have:=MN hd f
  subst this;refine oj (e_ r) λu zq1 i=>?_;subst zq1;subst i;refine o5 (I.IO j) λF w pl D=>?_;refine oj (lp w) λb k y=>?_;refine sum_intListG (I.R.g o) (k▸pl.isList) λA tk t kp=>?_;have x:preSum (numAt b) b.size=n.sum:=by rw[preSum_eq,iP (by simp),y]
  rw[x];exact⟨.l _,H,I.we kp,⟨t,rfl⟩,q _ _ (aD.s _)<|.l _⟩
 cases a
theorem Ca(h:DV G O H v d):∀{o:List V} {ds:List D} (j),bi G O H o ds->bi G O H (o.set j v) (ds.set j d)
 |_,_,_,.f=>.f
 |_,_,0,.e _ t=>.e h t
 |_,_,j+1,.e a t=>.e a<|Ca h j t
theorem BR  i (he:FE X E e f)(hk:FE X E ke fk)(hN:autoParam (X.N[i]? = some x) YO)(I:autoParam (i' X.d.scope x) YR)(hd:autoParam ((x==("__debug__":Str))=false) YI)(U:autoParam ((x==("__classdict__":Str))=false) YI)
  (ha:∀v,sF (.Subscript (.Name x np) ke spos) X.d v=(do
   let C<-qq [v] (eval (.Name x np) X.d)
   let J<-qq [v,C] (eval ke X.d)
   C1 spos
   qq [v,C,J] (C2 C J v)
   release [v,C,J] []):=by intro _;rfl)
  (hs:autoParam (lh [.Subscript (.Name x np) ke spos] e pos.line X.d=pure false) YO) (hw:autoParam (lj [.Subscript (.Name x np) ke spos] e X.d=pure none) YO)
  (h1:autoParam ((ja [.Subscript (.Name x np) ke spos] X.d).map (·.2)=[sF (.Subscript (.Name x np) ke spos) X.d]) YO):FS X E (.Assign [.Subscript (.Name x np) ke spos] e pos) (eX i fk f):=
 bN (KN he (Zn (iG hN I hd U) hk mv ha) hs hw h1) λW L H D=>cC D λr M0 H0 ow m R q=>
  ⟨r,M0,H0,ow,m,R.tofc,(Ss.t R.tofc q).u (aD.s _) λd q v H1 l I=>by
   refine oj (Ss.l q) λo B q=>?_;obtain⟨k,A⟩:=o;have c:=R.T l;refine yZ (sX c.tofc B) λa h u y G p s=>?_;refine⟨_,y,r,M0,H0,ow,m,c.tofc,(Ss.t c.tofc<|q.Y<|Go.s l).u (aD.s _) λt q M K b g=>?_⟩;cases t with
   |l n=>
    cases g;refine oj (Ss.l q) λj z q=>?_;have R2:=c.T b;obtain⟨F,w⟩:=R2.Id (es:=A.set j d) (ys:=h.set j v) u s<|Ca (I.T b) j<|p.T b;exact⟨a,h,n,j,rfl,rfl,b _ _ G,by rw[bK p];exact z,q _ _ _ F<|(Go.s b).t w⟩
   |_=>exact q.elim⟩
noncomputable def Mm:D->Option er
 | .l i=>some<|.inl i
 | .p z=>some<|.inr z
 |_=>none
noncomputable def V5:List er->List D->er->Option D
 |k'::ks,d::ds,k=>if k'=k then some d else V5 ks ds k
 |_,_,_=>none
noncomputable def Jm:List er->List D->er->D->List D
 |k'::ks,d'::ds,k,d=>(if k'=k then d else d')::Jm ks ds k d
 |_,_,_,_=>[]
def kd(ks:List er)(ds:List D)(k:er)(d:D):List er×List D:=if ks.any (λx=>decide<|x=k)=true then(ks,Jm ks ds k d) else(ks++[k],ds++[d])
theorem Qx(h:DW G O H v d)(e:Mm d=some k):v=kV k:=by
 cases d with
 |l i=>cases e;cases bM h;rfl
 |p z=>cases e;cases jG h;rfl
 |_=>cases e
theorem VP:∀{ι:List (er×V)} {ds:List D},bi G O H (ι.map (·.2)) ds->
  (∃v d,uD ι k=some v/\V5 (ι.map (·.1)) ds k=some d/\DV G O H v d)\/(uD ι k=none/\V5 (ι.map (·.1)) ds k=none)
 |[],_,.f=>.inr ⟨rfl,rfl⟩
 |(k',v)::ι,_,.e (d:=d) h hs=>by
  by_cases q:k'=k
  .exact .inl ⟨v,d,xR q,by simp[V5,q],h⟩
  rw[xQ q];simp only[ar,V5,if_neg q];exact VP hs
def fV:D->D->Option D
 | .L ks ds,k=>(Mm k).bind<|V5 ks ds
 |_,_=>none
theorem nQ(r:eV j A):A.units+16<tj:=by have:=r.S;lia
theorem SZ(o:eV j X.A)(C:FB X E a fa)(J:FB X E b fb)(I:D3 b):FE X E (.Subscript a b pos) (ak fV fa fb):=
 bA (Vz (nQ o) C J I) λF H Q s=>cC s λw M0 H0 ow m R q=>v0 (r:=λx y H Q=>∃a v,x=.r a/\QL _ H a y (some v)/\Q v H) R (K:=λz H=>∀v H',aD H H'->DV _ _ H' v z->Q v H') q (λ_ _ k g v H' n d=>k v H' (g.t n) d) λx y d e H' g h u t L=>by
  refine oj t.l λr o k=>?_
  match d,o with
  | .L ks ds,o=>
   refine ZY (QC h) λp G D zq3 i zq5 zq6 hd=>?_;subst zq3;subst zq5;subst zq6;refine oj (gT.mp o) λB l f=>?_;cases Qx u l;rcases VP hd with⟨v,d,a,b,c⟩|⟨a,b⟩
   .rw[b] at f;cases f;exact⟨p,v,rfl,a▸SA i,k _ _ (aD.s _) c⟩
   rw[b] at f;cases f
theorem JX k v:∀ι:List (er×V),(ι.map λo=>if o.1=k then(o.1,v) else o).map (·.1)=ι.map (·.1)
 |[]=>rfl
 |p::ι=>by
  rw[ar,ar,ar,JX k v ι];split<;>rfl
theorem Dh(h:DV G O H v d):∀{ι:List (er×V)} {ds:List D},bi G O H (ι.map (·.2)) ds->bi G O H ((ι.map λo=>if o.1=k then(o.1,v) else o).map (·.2)) (Jm (ι.map (·.1)) ds k d)
 |[],_,.f=>.f
 |(k',v')::ι,_,.e h1 hs=>by
  simp only[ar,Jm];split
  .exact .e h<|Dh h hs
  exact .e h1<|Dh h hs
theorem UG(h:DV G O H v d)(o:bi G O H (ι.map (·.2)) ds):
  (ek ι k v).map (·.1)=(kd (ι.map (·.1)) ds k d).1/\bi G O H ((ek ι k v).map (·.2)) (kd (ι.map (·.1)) ds k d).2:=by
 have e:(ι.any λa=>decide<|a.1=k)=(ι.map (·.1)).any λx=>decide (x=k):=by rw[oC];rfl
 unfold ek kd;rw[e];split
 .exact⟨JX k v ι,Dh h o⟩
 exact⟨by simp,by rw[bP];exact lu o<|.e h .f⟩
noncomputable def KR(m:Me)(i:Nat):Option (Bool×List er×List D):=match m[i]? with
 |some (.o<|.L ks ds)=>some (true,ks,ds)
 |some (.i<|.L ks ds)=>some (false,ks,ds)
 |_=>none
noncomputable def Oz(m:Me)(i:Nat)(k:Bool)(ks:List er)(ds:List D):Me:=m.set i<|if k then .o (.L ks ds) else .i (.L ks ds)
theorem SO(R:fc G O0 M0 H0 ow σ H m)(e:KR m i=some (k,ks,ds)):∃a ι,ow i=some a/\σ[i]? = some (some<|.r a)/\H a=some (.c ι)/\ι.map (·.1)=ks/\bi G (Ow O0 ow) H (ι.map (·.2)) ds/\((m[i]? = some (.o<|.L ks ds)/\k=true)\/(m[i]? = some (.i<|.L ks ds)/\k=false)):=by
 unfold KR at e;split at e
 .rename_i q;cases e;obtain⟨a,b,j,f,ι,h,d,g,rfl,c⟩:=R.S i _ q;exact⟨a,ι,b,f,d,g,c,.inl ⟨q,rfl⟩⟩
 .rename_i q;cases e;obtain⟨a,b,j,f,ι,h,d,g,rfl,c⟩:=R.S i _ q;exact⟨a,ι,b,f,d,g,c,.inr ⟨q,rfl⟩⟩
 cases e
theorem dg.Oz(R:dg G O0 M0 H0 ow σ H m)(o:ow i=some a)(C:(m[i]? = some (.o<|.L ks ds)/\k=true)\/(m[i]? = some (.i<|.L ks ds)/\k=false))
  (hk:ι.map (·.1)=ls) (hd:bi G (Ow O0 ow) H (ι.map (·.2)) es):dg G O0 M0 H0 ow σ (L2.upd H a<|.c ι) (F.Oz m i k ls es)/\Go O0 ow H ow (L2.upd H a<|.c ι):=by
 have f:Ow O0 ow a:=.inr ⟨i,o⟩;have kp:Kp _ H (L2.upd H a<|.c ι):=λb u e n=>rB b u e λz=>n<|z▸f;have c:OV G _ _ a (.L ls es):=⟨ι,_,L2.aP,hk,rfl,hd.R R.W kp⟩;refine⟨R.chg (d:=.L ks ds) o rB c ?_,Go.chg o rB c⟩;rcases C with⟨e,rfl⟩|⟨e,rfl⟩
 .exact .inl ⟨e,rfl⟩
 exact .inr ⟨e,rfl⟩
def oH(i:Nat)(fk fv:bv):ap:=λm=>(fv m).s λd=>(b6<|KR m i).s λo=>(fk m).s λk=>(b6<|Mm k).s λk=>
 if o.2.1.length<aw then .R (.n,Oz m i o.1 (kd o.2.1 o.2.2 k d).1 (kd o.2.1 o.2.2 k d).2) else .b
theorem Ae  i (hr:eV jj X.A)(he:FE X E e f)(hk:FE X E ke fk)(J:autoParam (X.N[i]? = some x) YO)(C:autoParam (i' X.d.scope x) YR)(hd:autoParam ((x==("__debug__":Str))=false) YI)(I:autoParam ((x==("__classdict__":Str))=false) YI)
  (U:autoParam (eM e (some<|.Subscript (.Name x np) ke spos) pos.line X.d=pure false) YO):FS X E (.Assign [.Subscript (.Name x np) ke spos] e pos) (oH i fk f):=
 bN (KY (nQ hr) (iG J C hd I) hk he U) λW O H B=>cC B λn M0 H0 ow m R q=>
  ⟨n,M0,H0,ow,m,R.tofc,(Ss.t R.tofc q).u (aD.s _) λd q v H1 l C=>by
   refine oj (Ss.l q) λo z q=>?_;obtain⟨k,G,M⟩:=o;have c:=R.T l;refine Qh (SO c.tofc z) λa S s w K p D t=>?_;refine⟨_,w,n,M0,H0,ow,m,c.tofc,(Ss.t c.tofc<|q.Y<|Go.s l).u (aD.s _) λQ q P T b h=>?_⟩;refine oj (Ss.l q) λL y q=>?_;cases Qx (.inl h) y;by_cases g:G.length<aw
   .rw[if_pos g] at q;have R2:=c.T b;obtain⟨j,r⟩:=UG (k:=L) (C.T b)<|D.T b;rw[p] at j r;obtain⟨F,u⟩:=R2.Oz s t j r;exact⟨a,_,rfl,Lg.k (b _ _ K) (by rw[<-aE (f:=(·.1)),p];exact g),q _ _ _ F<|(Go.s b).t u⟩
   rw[if_neg g] at q;exact q.elim⟩
noncomputable def pM(f:D->Option Kt):List D->Option (List Kt)
 |[]=>some []
 |d::ds=>(f d).bind λk=>(pM f ds).map λks=>k::ks
def hP:Nat->D->Option Kt
 |_,.l i=>some<|.k<|.inl i
 |_,.p x=>some<|.k<|.inr x
 |n+1,.w ds=>(pM (hP n) ds).map .t
 |_,_=>none
def wL:D->Option (List Kt)
 | .w ds=>pM (hP 7) ds
 |_=>none
noncomputable def cG:List (List Kt)->List D->List Kt->Option D
 |k'::ks,d::ds,k=>if k'=k then some d else cG ks ds k
 |_,_,_=>none
noncomputable def yJ:List (List Kt)->List D->List Kt->D->List D
 |k'::ks,d'::ds,k,d=>(if k'=k then d else d')::yJ ks ds k d
 |_,_,_,_=>[]
def mY(ks:List (List Kt))(ds:List D)(k:List Kt)(d:D):List (List Kt)×List D:=if ks.any (λx=>decide<|x=k)=true then(ks,yJ ks ds k d) else(ks++[k],ds++[d])
theorem K8(o:∀{v d k},DV G O H v d->f d=some k->Ez (ew G.K) H n v k):∀{C:List V} {ds:List D} {ks:List Kt},bi G O H C ds->pM f ds=some ks->wC (ew G.K) H n C ks
 |_,_,_,.f,e=>by cases e;exact .f
 |_,_,_,.e (d:=d) (ds:=ds) h hs,e=>by
  have e:(f d).bind (λk=>(pM f ds).map λks=>k::ks)=some _:=e;refine oj (gT.mp e) λk a b=>?_;refine oj (fx b) λks c zq2=>?_;subst zq2;exact .e (o h a)<|K8 o hs c
theorem GY:∀(n) {v:V} {d:D} {k:Kt},DV G O H v d->hP n d=some k->Ez (ew G.K) H n v k
 |n,_,_,k,.l i,e=>by
  have:k=.k (.inl i):=by cases n<;>(exact(cE e).symm)
  subst this;exact Ez.k (x:=.inl i)
 |n,_,_,k,.p x,e=>by
  have:k=.k (.inr x):=by cases n<;>(exact(cE e).symm)
  subst this;exact Ez.k (x:=.inr x)
 |n+1,_,_,k,.w h hs,e=>by
  refine oj (fx e) λb a zq2=>?_;subst zq2;exact .t h<|K8 (λh e=>GY n h e) hs a
 |0,_,_,k,.w h hs,e=>by simp[hP] at e
 |n,_,_,k,.E,e=>by cases n<;>simp[hP] at e
 |n,_,_,k,.B _,e=>by cases n<;>simp[hP] at e
 |n,_,_,k,.J _,e=>by cases n<;>simp[hP] at e
 |n,_,_,k,.M _ _ _ _ _ _,e=>by cases n<;>simp[hP] at e
 |n,_,_,k,.A ..,e=>by cases n<;>simp[hP] at e
 |n,_,_,k,.P _ _,e=>by cases n<;>simp[hP] at e
 |n,_,_,k,.L _ _ _ _ _,e=>by cases n<;>simp[hP] at e
 |n,_,_,k,.F _ _ _ _ _,e=>by cases n<;>simp[hP] at e
 |n,_,_,k,.Q _ _ _ _,e=>by cases n<;>simp[hP] at e
theorem vI(h:DW G O H v d)(e:wL d=some k):∃b,v=.r b/\nk (ew G.K) H b k:=by
 cases d with
 |w ds=>
  refine Y_ (Fq h) λb a zq2 c hd=>?_;subst zq2;exact⟨b,rfl,a,c,K8 (λh e=>GY 7 h e) hd e⟩
 |_=>cases e
theorem Gj:∀{ι:List (List Kt×V)} {ds:List D},bi G O H (ι.map (·.2)) ds->
  (∃v d,uD ι k=some v/\cG (ι.map (·.1)) ds k=some d/\DV G O H v d)\/(uD ι k=none/\cG (ι.map (·.1)) ds k=none)
 |[],_,.f=>.inr ⟨rfl,rfl⟩
 |(k',v)::ι,_,.e (d:=d) h hs=>by
  by_cases q:k'=k
  .exact .inl ⟨v,d,xR q,by simp[cG,q],h⟩
  rw[xQ q];simp only[ar,cG,if_neg q];exact Gj hs
noncomputable def r_:D->Option (List (List Kt)×List D)
 | .F ks ds=>some (ks,ds)
 | .Q ks ds=>some (ks,ds)
 |_=>none
theorem IR(h:DW G O H v d)(e:r_ d=some (ks,ds)):∃a ι,v=.r a/\Rd H a (.d (ew G.K) ι)/\ι.map (·.1)=ks/\bi G O H (ι.map (·.2)) ds:=by
 cases d with
 |F ks' ds'=>
  cases e;refine ZY (Zv h) λp ι f zq3 c b zq6 hd=>?_;subst zq3;subst zq6;exact⟨p,ι,rfl,.inl c,b,hd⟩
 |Q ks' ds'=>
  cases e;rcases h with h|⟨_,_,_,h⟩
  .cases h with
   |Q b e2 e3 hs=>subst e3;exact⟨_,_,rfl,.inr ⟨_,b⟩,e2,hs⟩
  exact h.elim
 |_=>cases e
section
def Aw(d k:D):Option D:=(r_ d).bind λc=>(wL k).bind<|cG c.1 c.2
def Xk(k d:D):Option Bool:=(r_ d).bind λc=>(wL k).map λk=>(cG c.1 c.2 k).isSome
def Ep(d e:D):Option Bool:=(Xk d e).map (!·)
theorem Sy(hd:bi G O H (ι.map (·.2)) ds):(uD ι k).isSome=(cG (ι.map (·.1)) ds k).isSome:=by
 rcases Gj (k:=k) hd with⟨_,_,a,b,_⟩|⟨a,b⟩<;>simp[a,b]
theorem UL(o:eV j X.A):gc X (iq .NotIn) (qf (gx X) Ep):=by
 intro G s L H x y v u Q I i t h;refine ZH h λO d e r m a B f q=>?_;refine oj (fx f) λc z zq2=>?_;subst zq2;refine oj (gT.mp z) λzq0 g F=>?_;obtain⟨M,K⟩:=zq0;refine oj (fx F) λk l zq2=>?_;subst zq2;refine ZE (IR B g) λp D zq2 n zq4 hd=>?_;subst zq2;subst zq4;refine oj (vI a l) λb zq1 w=>?_;subst zq1;subst t;refine UB (nQ o) I (.inr ⟨D,k,b,n,rfl,w,rfl⟩) i λN E=>⟨.B _,H,E,rfl,?_⟩;rw[Sy hd];exact q
variable {fa fb:bv}
theorem Ff(o:eV j X.A)(J:FB X E a fa)(C:FB X E b fb)(I:D3 b):FE X E (.Subscript a b pos) (ak Aw fa fb):=
 bA (Vz (nQ o) J C I) λM H Q D=>cC D λG M0 H0 ow m R q=>v0 (r:=λx y H Q=>∃a v,x=.r a/\QL _ H a y (some v)/\Q v H) R (K:=λz H=>∀v H',aD H H'->DV _ _ H' v z->Q v H') q (λ_ _ k g v H' B d=>k v H' (g.t B) d) λx y d e H' g n F s N=>by
  refine oj s.l λr o k=>?_;refine oj (gT.mp o) λzq0 t o=>?_;obtain⟨L,l⟩:=zq0;refine oj (gT.mp o) λh u f=>?_;refine ZE (IR n t) λp i zq2 w zq4 hd=>?_;subst zq2;subst zq4;refine oj (vI F u) λb zq1 C=>?_;subst zq1;rcases Gj hd with⟨v,d,a,c,dv⟩|⟨a,c⟩
  .rw[c] at f;cases f;exact⟨p,v,rfl,.inr ⟨i,h,b,w,rfl,C,a.symm⟩,k _ _ (aD.s _) dv⟩
  rw[c] at f;cases f
noncomputable def vh:bv:=λ_=>.R<|.F [] []
theorem ym:FN X E (.Dict [] [] pos) vh:=bA XM (by intro b H Q zr3 p a;refine ZT zr3 λc M0 H0 ow m R q=>?_;exact q p _ (bH a _) a ⟨[],[],aP,rfl,rfl,.f⟩)
end
theorem G9 k v:∀ι:List (List Kt×V),(ι.map λo=>if o.1=k then(o.1,v) else o).map (·.1)=ι.map (·.1)
 |[]=>rfl
 |p::ι=>by
  rw[ar,ar,ar,G9 k v ι];split<;>rfl
theorem zq(h:DV G O H v d):∀{ι:List (List Kt×V)} {ds:List D},bi G O H (ι.map (·.2)) ds->bi G O H ((ι.map λo=>if o.1=k then(o.1,v) else o).map (·.2)) (yJ (ι.map (·.1)) ds k d)
 |[],_,.f=>.f
 |(k',v')::ι,_,.e h1 hs=>by
  simp only[ar,yJ];split
  .exact .e h<|zq h hs
  exact .e h1<|zq h hs
theorem S9(h:DV G O H v d)(o:bi G O H (ι.map (·.2)) ds):
  (ek ι k v).map (·.1)=(mY (ι.map (·.1)) ds k d).1/\bi G O H ((ek ι k v).map (·.2)) (mY (ι.map (·.1)) ds k d).2:=by
 have e:(ι.any λa=>decide<|a.1=k)=(ι.map (·.1)).any λx=>decide (x=k):=by rw[oC];rfl
 unfold ek mY;rw[e];split
 .exact⟨G9 k v ι,zq h o⟩
 exact⟨by simp,by rw[bP];exact lu o<|.e h .f⟩
noncomputable def yC(m:Me)(i:Nat):Option (Bool×List (List Kt)×List D):=match m[i]? with
 |some (.o<|.F ks ds)=>some (true,ks,ds)
 |some (.i<|.F ks ds)=>some (false,ks,ds)
 |_=>none
noncomputable def rC(m:Me)(i:Nat)(k:Bool)(ks:List (List Kt))(ds:List D):Me:=m.set i<|if k then .o (.F ks ds) else .i (.F ks ds)
theorem Ng(R:fc G O0 M0 H0 ow σ H m)(e:yC m i=some (k,ks,ds)):∃a ι,ow i=some a/\σ[i]? = some (some<|.r a)/\H a=some (.d (ew G.K) ι)/\ι.map (·.1)=ks/\bi G (Ow O0 ow) H (ι.map (·.2)) ds/\((m[i]? = some (.o<|.F ks ds)/\k=true)\/(m[i]? = some (.i<|.F ks ds)/\k=false)):=by
 unfold yC at e;split at e
 .rename_i q;cases e;obtain⟨a,b,j,f,ι,h,d,g,rfl,c⟩:=R.S i _ q;exact⟨a,ι,b,f,d,g,c,.inl ⟨q,rfl⟩⟩
 .rename_i q;cases e;obtain⟨a,b,j,f,ι,h,d,g,rfl,c⟩:=R.S i _ q;exact⟨a,ι,b,f,d,g,c,.inr ⟨q,rfl⟩⟩
 cases e
theorem dg.rC(R:dg G O0 M0 H0 ow σ H m)(o:ow i=some a)(C:(m[i]? = some (.o<|.F ks ds)/\k=true)\/(m[i]? = some (.i<|.F ks ds)/\k=false))
  (hk:ι.map (·.1)=ls) (hd:bi G (Ow O0 ow) H (ι.map (·.2)) es):dg G O0 M0 H0 ow σ (L2.upd H a<|.d (ew G.K) ι) (F.rC m i k ls es)/\Go O0 ow H ow (L2.upd H a<|.d (ew G.K) ι):=by
 have f:Ow O0 ow a:=.inr ⟨i,o⟩;have kp:Kp _ H (L2.upd H a<|.d (ew G.K) ι):=λb u e n=>rB b u e λz=>n<|z▸f;have c:OV G _ _ a (.F ls es):=⟨ι,_,L2.aP,hk,rfl,hd.R R.W kp⟩;refine⟨R.chg (d:=.F ks ds) o rB c ?_,Go.chg o rB c⟩;rcases C with⟨e,rfl⟩|⟨e,rfl⟩
 .exact .inl ⟨e,rfl⟩
 exact .inr ⟨e,rfl⟩
def JK(i:Nat)(fk fv:bv):ap:=λm=>(fv m).s λd=>(b6<|yC m i).s λo=>(fk m).s λk=>(b6<|wL k).s λk=>
 if o.2.1.length<aw then .R (.n,rC m i o.1 (mY o.2.1 o.2.2 k d).1 (mY o.2.1 o.2.2 k d).2) else .b
section
variable {f fk:bv}{pos spos np:Pos}
theorem UT  i (hr:eV jj X.A)(he:FE X E e f)(hk:FE X E ke fk)(J:autoParam (X.N[i]? = some x) YO)(C:autoParam (i' X.d.scope x) YR)(hd:autoParam ((x==("__debug__":Str))=false) YI)(I:autoParam ((x==("__classdict__":Str))=false) YI)
  (U:autoParam (eM e (some<|.Subscript (.Name x np) ke spos) pos.line X.d=pure false) YO):FS X E (.Assign [.Subscript (.Name x np) ke spos] e pos) (JK i fk f):=
 bN (KY (nQ hr) (iG J C hd I) hk he U) λW S H F=>cC F λp M0 H0 ow m R q=>
  ⟨p,M0,H0,ow,m,R.tofc,(Ss.t R.tofc q).u (aD.s _) λd q v H1 n C=>by
   refine oj (Ss.l q) λo D q=>?_;obtain⟨k,M,Q⟩:=o;have g:=R.T n;refine Z_26 (Ng g.tofc D) λa Y u z O r G w=>?_;refine⟨_,z,p,M0,H0,ow,m,g.tofc,(Ss.t g.tofc<|q.Y<|Go.s n).u (aD.s _) λV q T Z c j=>?_⟩;refine oj (Ss.l q) λP B q=>?_;refine oj (vI (.inl j) B) λb zq1 K=>?_;subst zq1;by_cases h:M.length<aw
   .rw[if_pos h] at q;have R2:=g.T c;obtain⟨l,s⟩:=S9 (k:=P) (C.T c)<|G.T c;rw[r] at l s;obtain⟨L,y⟩:=R2.rC u w l s;exact⟨a,_,rfl,Lg.t (c _ _ O) K (by rw[<-aE (f:=(·.1)),r];exact h),q _ _ _ L<|(Go.s c).t y⟩
   rw[if_neg h] at q;exact q.elim⟩
end
structure Wr(p:Prop):Prop where
 X:p
section
variable {st:Stmt}{f fa fb fk:bv}{fs:g7}{ft:oa}{pos apos η np spos p:Pos}
theorem d8(C:Wr (FS X E st gg))(o:Wr (ii X E rest k)):Wr (ii X E (st::rest)<|aB gg k):=⟨aq C.X o.X⟩
theorem pP(o:Wr (FS X E st gg)):Wr (ii X E [st] gg):=⟨aH o.X⟩
theorem Et(C:Wr (FT X E c ft))(I:Wr (ii X E sa ga))(o:Wr (ii X E sb gb)):Wr (FS X E (.If c sa sb pos)<|ax ft ga gb):=⟨dm C.X I.X o.X⟩
theorem Tw(o:X.N.Nodup)(I:X.N[i]? = some x)(J:k6 X.d.scope x)(he:Wr (FE X E e f))(U:autoParam (eM e (some<|.Name x pos') pos.line X.d=pure false) YO)
  (C:autoParam (X.i x=true\/X.d.scope.names.lookup x=some .local) iv):Wr (FS X E (.Assign [.Name x pos'] e pos)<|aW i f):=⟨I7 o I J he.X U C⟩
theorem NZ(o:X.N.Nodup)(I:X.N[i]? = some x)(J:k6 X.d.scope x)(he:Wr (FN X E e f))(U:autoParam (eM e (some<|.Name x pos') pos.line X.d=pure false) YO)
  (C:autoParam (X.i x=true\/X.d.scope.names.lookup x=some .local) iv):Wr (FS X E (.Assign [.Name x pos'] e pos)<|dW i f):=⟨Yk o I J he.X U C⟩
theorem G7(o:Wr (FE X E e f)):Wr (FS X E (.Return (some e) pos)<|aU f):=⟨cP o.X⟩
theorem M_  i (he:Wr (FE X E e f))(I:autoParam (X.N[i]? = some x) YO)(hv:autoParam (i' X.d.scope x) YR)(hd:autoParam ((x==("__debug__":Str))=false) YI)(C:autoParam ((x==("__classdict__":Str))=false) YI)
  (ξ:autoParam (ib (.Name x np) "append" X.d (eval (.Name x np) X.d)=eval (.Name x np) X.d) YO)
  (υ:autoParam (((ij η<|ag [e] X.d).all (λx=>!x.1)&&(yk η<|og [] X.d).all (λx=>x.1.isSome)&&decide ([e].length+([]:List om).length+(if([]:List om).isEmpty then 0 else 1)<30))=true) YO)
  (U:autoParam ((apos.endLine==η.line)=true) YO) (hs:autoParam (ag [e] X.d=(false,eval e X.d)::ag [] X.d) YO) (o:autoParam ((ij η<|ag [] X.d).any (·.1)=false) YO)
  (J:autoParam (eM (.Call (.Attribute (.Name x np) "append" apos) [e] [] η) none pos.line X.d=pure false) YO):
  Wr (FS X E (.Expr (.Call (.Attribute (.Name x np) "append" apos) [e] [] η) pos)<|cR i f):=⟨Dw i he.X I hv hd C ξ υ U hs o J⟩
theorem Ip  i (he:Wr (FE X E e f))(hk:Wr (FE X E ke fk))(J:autoParam (X.N[i]? = some x) YO)(hv:autoParam (i' X.d.scope x) YR)(hd:autoParam ((x==("__debug__":Str))=false) YI)(I:autoParam ((x==("__classdict__":Str))=false) YI)
  (U:∀v,sF (.Subscript (.Name x np) ke spos) X.d v=(do
   let o<-qq [v] (eval (.Name x np) X.d)
   let C<-qq [v,o] (eval ke X.d)
   C1 spos
   qq [v,o,C] (C2 o C v)
   release [v,o,C] []):=by intro _;rfl)
  (hs:autoParam (lh [.Subscript (.Name x np) ke spos] e pos.line X.d=pure false) YO) (hw:autoParam (lj [.Subscript (.Name x np) ke spos] e X.d=pure none) YO)
  (h1:autoParam ((ja [.Subscript (.Name x np) ke spos] X.d).map (·.2)=[sF (.Subscript (.Name x np) ke spos) X.d]) YO):Wr (FS X E (.Assign [.Subscript (.Name x np) ke spos] e pos)<|eX i fk f):=⟨BR i he.X hk.X J hv hd I U hs hw h1⟩
theorem dN(C:Wr (FE X E e fa))(I:Wr (ln X E es fs))(o:autoParam (ag (e::es) X.d=(false,eval e X.d)::ag es X.d) YO):Wr (ln X E (e::es)<|aj fa fs):=⟨aG C.X I.X o⟩
theorem Pj(C:Wr (FB X E e fa))(I:Wr (mm X E es fs))(o:autoParam (ag (e::es) X.d=(false,eval e X.d)::ag es X.d) YO):Wr (mm X E (e::es)<|aj fa fs):=⟨cB C.X I.X o⟩
theorem nJ(h:Wr (ln X E es fs)):Wr (FE X E (.Tuple es x1 pos)<|aK fs):=⟨gk h.X⟩
theorem NE(h:Wr (ln X E es fs)):Wr (FN X E (.List es pos)<|f9 fs):=⟨Dg h.X⟩
theorem NY(o:Wr (FB X E a fa))(C:Wr (FB X E b fb)):Wr (FN X E (.BinOp a .Add b pos)<|ak Jt fa fb):=⟨(bA (HM Vx o.X C.X) λu H Q i=>cC i λs M0 H0 ow m R q=>v0 R (K:=λz H1=>aD H H1/\∀p H',aD H1 H'->H1 p=none->OV _ (Op _ p) H' p z->Q (.r p) H') (q.u (aD.s _) λ_ k=>⟨aD.s _,k⟩) (λ_ _ k g=>⟨k.1.t g,λp H' h n d=>k.2 p H' (g.t h) (g.Y n) d⟩) λx y d e H' g f l j t=>by
  refine oj j.l λr c k=>?_
  match d,e,c with
  | .P ds,.P es,c=>
   obtain⟨z,rfl⟩:=nw c;exact⟨_,ds,es,t.W,f,l,z,k.2⟩)⟩
theorem bR(h:Wr (FE X E e f)):Wr (FB X E e f):=⟨aO h.X⟩
theorem iH(C:gc X (ko op) (rG (gx X) g))(I:Wr (FB X E a fa))(o:Wr (FB X E b fb)):Wr (FE X E (.BinOp a op b pos)<|ak g fa fb):=⟨bW C I.X o.X⟩
theorem Cu(I:wT X (rG (gx X) g))(J:Wr (FB X E a fa))(o:Wr (FB X E b fb))(C:Fw b):Wr (FE X E (.Subscript a b pos)<|ak g fa fb):=⟨GL I J.X o.X C⟩
theorem yX(I:gc X (iq op) (qf (gx X) g))(J:Wr (FB X E a fa))(o:Wr (FB X E b fb))(C:pd op b=false):Wr (FT X E (.Compare a [op] [b] pos)<|aA g fa fb):=⟨iZ I J.X o.X C⟩
theorem Ni(I:jf X (.type T) (o_ (gx X) g))(C:Gl X x)(U:X.m x=none)(hv:cx x=some (.type T))(ha:Wr (mm X E (e::es) fs))(hn:autoParam (x≠"__name__") YI)(o:autoParam ((x==("__debug__":Str))=false) YI)
  (he:autoParam (ag (e::es) X.d=(false,eval e X.d)::ag es X.d) YO) (J:autoParam ((ij pos<|ag es X.d).any (·.1)=false) YO):Wr (FE X E (.Call (.Name x p) (e::es) [] pos)<|aF g fs):=⟨yt I C U hv ha.X hn o he J⟩
end
section
variable {E:Zs}[DecidableEq κ]{kn:HeapKind pr wo κ}
theorem UF(I:kn.room A)(hk:kn.is s.heap k a)(J:s.heap.DictOfH kn d xs)(hz:xs.length<=aw)
  (C:∀p,CS xs k=some p->Q p.2 { s with toks:=s.toks+kn.draws k})
  (new:CS xs k=none->∀h',h'.DictOfH kn d (xs++[(k,a,v)])->kA d s.heap h'->Q v { s with heap:=h',toks:=s.toks+kn.draws k}):
  cb (cK pr wo) A (A2 d (.ref a) v) Q E s:=by
 refine Hh (id J) λo w q b m hd c i h=>?_;unfold A2;refine i7<|ae<|kn.pyHash I hk<|ae<|wpAny_dictFind_heap (s:={ s with toks:=s.toks+kn.draws k}) I hk b hd c i h (λno=>?_) λj p l=>?_
 .have t:=atKey_none_of_get no;have u:=not_mem_keys_of_get no;have n:=size_of_entries c;refine ae (xo<|ae<|wpAny_updateDictKeys (hz:=by lia) (s:={ s with toks:=s.toks+kn.draws k}) b hd (av<|new t _ ⟨_,_,q+1,eP _ b<|Obj.isFreed_of_dict<|AW hd _,m.mapDictKeys _,AW hd _,?_,λy f=>?_,?_⟩<|iX ..))
  .simp[c,entryOfKey]
  .rcases bE.mp f with z|z
   .exact kn.keeps (i y z) b hd<|iX ..
   rw[cS.mp z];exact kn.keeps hk b hd<|iX ..
  rw[bP,List.nodup_append];refine⟨h,by simp,λy f z g e=>u ?_⟩;have r:z=k:=cS.mp g;rw[<-r,<-e];exact f
 refine ae<|qB (s:={ s with toks:=s.toks+kn.draws k}) b hd ?_;rw[entry_at c j,l];exact ae<|xo<|av<|C p<|atKey_of_get h l
theorem Y7(I:kn.room A.in1)(hk:kn.is s.heap k a)(o:s.heap.DictOfH kn d xs)(hz:xs.length<=aw)(hd:(d==kc)=false)
  (C:∀p,CS xs k=some p->Q p.2 { s with toks:=s.toks+kn.draws k})
  (new:CS xs k=none->∀h',h'.DictOfH kn d (xs++[(k,a,v)])->kA d s.heap h'->Q v { s with heap:=h',toks:=s.toks+kn.draws k}):
  cb (cK pr wo) A (call (.builtin "dict.setdefault") [.ref d,.ref a,v]) Q E s:=by
 refine iN sP o.typeIs PySem.F.entry_dict_setdefault ?_<|PySem.F.args_dict_setdefault_3 _ _ _;refine ae ?_;refine ae<|wpAny_notOrdered_dict o.typeIs ?_;refine av ?_;show cb _ _ (if(d==kc)=true then _ else(A2 d _ v >>= _)) _ _ s;rw[if_neg (by rw[hd];exact a8)];exact ae<|UF I hk o hz (λp e=>av ⟨ _,rfl,C p e⟩) λe h' x y=>av ⟨v,rfl,new e h' x y⟩
end
def LZ(K:bg)(o ty tx:TE):TE:=λd H Q=>o d H λx H1=>∃a,x=.r a/\JU K H1 a/\ty d H1 λy e=>tx d e λz c=>∃ι k b,c a=some (.d (ew K) ι)/\y=.r b/\nk (ew K) c b k/\ι.length<aw/\
 (∀v,uD ι k=some v->Q v c)/\(uD ι k=none->Q z (upd c a<|.d (ew K)<|ι++[(k,z)]))
theorem IL(hu:X.A.units+16<tj)(ho:PE X o td)(he:PE X e ty)(hf:PE X f tx)(m:M2 X o "setdefault" apos e f η):PE X (.Call (.Attribute o "setdefault" apos) [e,f] [] η) (LZ X.K td ty tx):=by
 intro r s t H Q I h;refine wpAny_Call_method m.T m.a m.l yB sP PySem.F.type_dict_setdefault<|ce (ho r s t H _ I h) λu s1 j=>?_;obtain⟨x,H1,P,rx,a,ex,d,J⟩:=j;subst ex;cases(rx);refine ZI (QO P d) λt1 t2 _=>?_;refine⟨t1,t2,?_⟩;rw[m.t];refine qc rfl (sM (pe (ce (he r s1 t H1 _ P J) λiv C j=>f3 j λy H2 I2 ry S=>
  pe (ce (hf r C t H2 _ I2 S) λfv s3 j=>xp ?_))))
 obtain⟨z,E,n,G,B,k,b,D,ey,L,l,q3,q4⟩:=j;subst ey;cases(ry);obtain⟨sz,hd,V,i,dd⟩:=Yl (HR n) n.W D;have U:V.length<=aw:=by rw[<-mI i];exact sz
 have g:=i.v k;refine Y7 (yh hu) (Cy n L) dd U hd (λp hp=>?_) λR h' w Z=>?_
 .rw[hp] at g;cases ev:uD B k with
  |none=>rw[ev] at g;cases g
  |some v=>
   rw[ev] at g;exact⟨v,E,n.tok _,g,q3 v ev⟩
 rw[R] at g;cases ev:uD B k with
 |some v=>rw[ev] at g;cases g
 |none=>
  have O:=i.Id k L G;rw[Yb _ ev,storedH_new R] at O;refine Hh w λq es ep N Y h3 W _ T=>?_;refine⟨z,upd E a<|.d _<|B++[(k,z)],Bj n (by rw[D];exact fR) Z ⟨q,N⟩ ⟨by rw[bq,eS];lia,hd,_,O.f λc ys M=>?_,q,es,ep,N,Y,h3,W,T⟩,G,q4 ev⟩;rw[bf<|Yt M D λz=>nomatch z];exact M
def D4(i:Nat)(fk fv:bv):ap:=λm=>(b6<|yC m i).s λo=>(fk m).s λk=>(fv m).s λd=>(b6<|wL k).s λk=>
 if o.2.1.length<aw then .R (.n,if(cG o.2.1 o.2.2 k).isSome then m else rC m i o.1 (o.2.1++[k]) (o.2.2++[d])) else .b
theorem QY  i (hr:eV jj X.A)(hk:FE X E ke fk)(he:FE X E e f)(hm:M2 X (.Name x np) "setdefault" apos ke e η)(J:autoParam (X.N[i]? = some x) YO)(C:autoParam (i' X.d.scope x) YR)(hd:autoParam ((x==("__debug__":Str))=false) YI)(I:autoParam ((x==("__classdict__":Str))=false) YI)
  (U:autoParam (eM (.Call (.Attribute (.Name x np) "setdefault" apos) [ke,e] [] η) none pos.line X.d=pure false) YO):FS X E (.Expr (.Call (.Attribute (.Name x np) "setdefault" apos) [ke,e] [] η) pos) (D4 i fk f):=
 bN (yq (IL (nQ hr) (iG J C hd I) hk he hm) U) λW T H O=>cC O λy M0 H0 ow m R q=>by
  refine oj (Ss.l q) λo M q=>?_;obtain⟨k,w,L⟩:=o;refine Qh (Ng R.tofc M) λa l B G z u P D=>?_;refine⟨_,G,a,rfl,.inr ⟨l,.inl z⟩,y,M0,H0,ow,m,R.tofc,(Ss.t R.tofc q).u (aD.s _) λZ q V H1 j t=>?_⟩;have s:=R.T j;refine⟨y,M0,H0,ow,m,s.tofc,(Ss.t s.tofc<|q.Y<|Go.s j).u (aD.s _) λd q v H2 c C=>?_⟩;refine oj (Ss.l q) λn K q=>?_;refine oj (vI (.inl<|t.T c) K) λb zq1 Q=>?_;subst zq1;have R2:=s.T c;have p:=c _ _<|j _ _ z;have g:=(P.T j).T c;have h:=Sy (k:=n) g;rw[u] at h;by_cases r:w.length<aw
  .rw[if_pos r] at q;refine⟨l,n,b,p,rfl,Q,by rw[<-aE (f:=(·.1)),u];exact r,λY ev=>?_,λev=>?_⟩
   .rw[ev] at h;rw[<-h] at q;exact q _ _ _ R2<|Go.s c
   rw[ev] at h;rw[<-h] at q;obtain⟨S,F⟩:=R2.rC (ls:=w++[n]) (es:=L++[d]) (ι:=l++[(n,v)]) B D (by simp[u]) (by rw[bP];exact lu g<|.e C .f);exact q _ _ _ S<|(Go.s c).t F
  rw[if_neg r] at q;exact q.elim
def Ey(h:Heap)(d:Addr)(es:Array DictEntry)(ep:Nat):Prop:=∃o,h.get? d=some o/\o.ExactDict/\o.data=.dict es ep
section
variable {E:Zs}{s:a7}
theorem Ey.t(x:Ey s.heap d es ep):s.TypeIs (.ref d) "dict":=by refine o5 x λo h c _=>?_;exact ⟨o,h,c.1⟩
theorem Ey.u(x:Ey h d es ep)(k:∀o,h.get? d=some o->h'.get? d=some o):Ey h' d es ep:=by refine oj x λo e r=>?_;exact ⟨o,k o e,r⟩
theorem UX(o:(d==kc)=false)(x:Ey s.heap d es ep)
  (k:Q (.ref s.heap.objs.size) { s with heap:=s.heap.push { cls:=.type "dict_values",data:=.fields #[.ref d] } }):cb (cK prog w) A (call (.builtin "dict.values") [.ref d]) Q E s:=by
 refine iN x6 x.t PySem.F.entry_dict_values ?_<|PySem.F.args_dict_values_1 _;refine ae ?_;refine ae<|wpAny_notOrdered_dict x.t<|av ?_;unfold AK;rw[if_neg (λz=>by rw[o] at z;cases z)];exact ae<|av<|ae<|fw<|av ⟨_,rfl,k⟩
theorem OR(C:s.heap.IsValuesView v d)(x:Ey s.heap d es ep)
  (k:Q (.ref s.heap.objs.size) { s with heap:=s.heap.push { cls:=.type "dict_valueiterator",data:=.fields #[.ref d,.int 0 0,.int es.size 0,.int ep 0] } }):cb (cK prog w) A (pyIter<|.ref v) Q E s:=by
 refine o5 (id C) λq c f e=>?_;refine o5 (id x) λo b g a=>?_;have no:me "dict_valueiterator" = false:=by decide
 refine wpAny_pyIter_slot C.typeIs sA<|iN sA C.typeIs PySem.F.entry_dict_values_iter ?_<|PySem.F.args_dict_values_iter_1 _;unfold Cn.«dict_values.__iter__»;refine ae<|av<|ae ?_;unfold Builtin.Dict_items.dictOf;refine ae<|iS c e (x:=.ref d) rfl<|av<|ae ?_;unfold Builtin.Dict_items.newIterator;refine ae<|qB b a<|ae<|AL b a ?_;simp only[no,i9,if_false];exact fw<|av ⟨_,rfl, "dict_valueiterator",_,⟨_,bp _ rfl,rfl⟩,fF.lookup,by simpa[Ap] using k⟩
theorem MY(C:s.heap.IsValIter it d i es.size ep)(x:Ey s.heap d es ep)
   lt (go:∀h',h'.IsValIter it d (i+1) es.size ep->kA it s.heap h'->Q (some es[i].val) { s with heap:=h'}):cb (cK prog w) A (BH<|.ref it) Q E s:=by
 refine o5 (id C) λq b g a=>?_;refine o5 (id x) λo c h e=>?_;have ty:=C.typeIs;have f:es[i]? = some _:=w9 lt;have no:me "dict_valueiterator" = false:=by decide
 have turned:(s.heap.update it<|lT (·.setIfInBounds 1 (Ap<|(i:Int)+1))).IsValIter it d (i+1) es.size ep:=
  ⟨_,eP _ b<|AB<|pz a _,(Obj.cls_mapFields ..).trans g,by rw[pz a];simp[Ap]⟩
 have fin:=go _ turned<|iX ..;unfold BH;refine ae<|yT<|ka ty fF<|iN fF ty nE ?_<|nc _;refine ae<|av<|ae<|ae ?_
 first
 |refine ae (js ty<|av<|ae<|xa b a ?_)
 |refine ae _
 simp only[no,i9,if_false];show cb _ _ (if(cq d==fN)=true then _ else _) _ _ s;rw[if_neg λz=>by cases(show false=true from z)];refine ae<|av<|ae<|qB c e ?_;rw[if_neg<|by simp];refine ae<|av<|ae<|AL c e ?_;rw[if_neg<|by simp];refine av ?_;simp only[show ¬((i:Int)<0) by lia,if_false,mT,f];refine ae ?_
 first
 |refine ae (js ty<|av<|ae<|mw ty ?_)
 |refine ae _
 show cb _ _ (setField (.ref it) 1 (Ap<|(i:Int)+1) >>= _) _ _ s;refine ae<|l8 b a (by simp)<|ae<|i7 ?_;refine ae<|mw (s:={ s with heap:=s.heap.update it (lT (·.setIfInBounds 1 (Ap<|(i:Int)+1)))}) turned.typeIs ?_;refine ae<|mw (s:={ s with heap:=s.heap.update it (lT (·.setIfInBounds 1 (Ap<|(i:Int)+1)))}) turned.typeIs ?_;exact(show cb _ _ (pure es[i].val) _ _ _ from av (av ⟨_,rfl,av fin⟩))
theorem WQ(I:A.handled=none)(C:s.heap.IsValIter it d es.size es.size ep)(x:Ey s.heap d es ep)
  (go:∀h',C6 it s.heap h'->Q none { s with heap:=h'}):cb (cK prog w) A (BH<|.ref it) Q E s:=by
 refine o5 (id C) λq c i e=>?_;refine o5 (id x) λo g j f=>?_;have ty:=C.typeIs;have h:es[es.size]? = none:=Array.getElem?_eq_none<|bb _;have no:me "dict_valueiterator" = false:=by decide
 unfold BH;refine ae<|yT<|ka ty fF<|iN fF ty nE ?_<|nc _;refine ae<|av<|ae<|ae ?_
 first
 |refine ae (js ty<|av<|ae<|xa c e ?_)
 |refine ae _
 simp only[no,i9,if_false];show cb _ _ (if(cq d==fN)=true then _ else _) _ _ s;rw[if_neg λz=>by cases(show false=true from z)];refine ae<|av<|ae<|qB g f ?_;rw[if_neg<|by simp];refine ae<|av<|ae<|AL g f ?_;rw[if_neg<|by simp];refine av ?_;simp only[show ¬((es.size:Int)<0) by lia,if_false,mT,h];refine ae ?_
 first
 |refine ae (js ty<|av ?_)
 |refine ae _
 show cb _ _ (setField (.ref it) 0 .none >>= _) _ _ s;refine ae<|l8 c e (by simp)<|show cb _ _ _ _ _ _ from ae ?_;simp only[newExc,newTuple];refine ae<|fw (ae<|wpAny_of_eq (a:=fN) (by first|rfl|(simp only[xb];rfl))<|fw ?_<|by size_fits) (by size_fits);simp only[raiseNew];refine ae<|wpAny_handled ?_;rw[show A.in1.handled=none from I];refine ae<|av<|wpAny_throw<|ae ?_;refine nN (T:="StopIteration") (b:=true) ⟨_,bp _ rfl,rfl⟩ A3<|av ?_;exact go _<|((iX ..).extBut.push _).push _
theorem Mo(I:A.handled=none)(C:d≠it):Walks prog w A it [it,d] [it] es.size (λi v=>∃e,es[i]? = some e/\v=e.val) (λi h=>h.IsValIter it d i es.size ep/\Ey h d es ep) where
 sub:=λb m=>by simp at m;simp[m]
 frame:=λ_ _ _ f l=>⟨ (by refine oj f.1 λo e r=>?_;exact ⟨o,l it (by simp) o e,r⟩),f.2.u λo e=>l d (by simp) o e⟩
 item:=λi s Q E n f go=>MY f.1 f.2 n λg a b=>go _ g _ ⟨_,w9 n,rfl⟩ ⟨a,f.2.u λo e=>(b.2 d C).trans e⟩ λc o j e=>(b.2 c λz=>j<|by simp[z]).trans e
 done:=λs Q E f go=>WQ I f.1 f.2 λg a=>go g _ λc o j e=>a c o (λz=>j<|by simp[z]) e
 self:=λ_ _ _ _ f k=>wpAny_pyIter_valiter f.1 k
end
section
variable {X:Cx}
def Lr(p a:Addr)(h:Heap):Prop:=h.IsValuesView p a
theorem IN(I:am X π σ H s)(e:H a=some (.d T ι)):
  ι.length<=aw/\(a==kc)=false/\∃es ep,Ey s.heap a es ep/\es.size=ι.length/\a_ (ι.map (·.2)) (es.toList.map (·.val)):=by
 obtain⟨d,hd,k,b,o,es,ep,j,g,f,c,i⟩:=I.W a _ e;refine⟨d,hd,es,ep,⟨o,j,g,f⟩,?_,?_⟩
 .rw[size_of_entries c,mI b]
 rw[c,fg];clear c d hd i e;induction b with
 |nil=>exact .nil
 |cons h _ ih=>exact .cons h.2.2 ih
def L5(X:Cx):V->List V->Hp->VK->Prop:=λx b H Q=>∃a ι,x=.r a/\b=[]/\H a=some (.d (ew X.K) ι)/\∀p,H p=none->Q (.r p) (upd H p<|.e<|Lr p a)
theorem Ti:z3 X "dict.values" (L5 X):=by
 intro g s p H x t v l Q I d f h;refine ZE h λa y zq2 zq3 e q=>?_;subst zq2;subst zq3;subst d;have c:=f.z;subst c;obtain⟨n,hd,j,u,x,_⟩:=IN I e;refine UX hd x ?_;refine⟨.r _,_,I.laid (λb o e=>ah _ e) (bb _)<|show bZ _ _ _ _ _ (.e<|Lr _ a) from⟨⟨_,bp _ rfl,rfl,rfl⟩,⟨_,bp _ rfl⟩,(by intro m i zr2 k;refine oj zr2 λo e r=>?_;exact ⟨o,k o e,r⟩)⟩,rfl,q _<|I.W.n<|bb _⟩
theorem Nw:W.KdlSrc X.p X.w "dict_values" r d es.size (λi v=>∃e,es[i]? = some e/\v=e.val) (λh=>h.IsValuesView r d/\Ey h d es ep) where
 type:=λ_ m=>m.1.typeIs
 there:=λ_ m=>⟨ (by refine oj m.1 λ_ e _=>?_;exact aS e),(by refine oj m.2 λ_ e _=>?_;exact aS e)⟩
 keep:=λ_ _ m k=>⟨ (by refine oj m.1 λo e x=>?_;exact ⟨o,k r (.inl rfl) o e,x⟩),m.2.u λo e=>k d (.inr rfl) o e⟩
 notList:=by decide
 notTuple:=by decide
 hint:=λ_ _ _ _ m q=>W.kdl_hint_values m.1.typeIs q
 iter:=λ_ _ a m=>⟨_,_,(λ_ _ q=>OR m.1 m.2 q),Mo a (by refine oj m.2 λ_ e _=>?_;exact b0 (aS e)),⟨⟨_,bp _ rfl,rfl,rfl⟩,m.2.u λo e=>ah _ e⟩⟩
def KM(X:Cx):List V->Hp->VK->Prop:=λxs H Q=>∃p a ι,xs=[.r p]/\H p=some (.e<|Lr p a)/\H a=some (.d (ew X.K) ι)/\∀l,H l=none->Q (.r l) (upd H l<|.P<|ι.map (·.2))
theorem QB(o:X.f=true):jf X (.type "list") (KM X):=by
 intro G s M H F L Q I r h;refine ZO h λp a E zq3 m e q=>?_;subst zq3;refine oj (e_ r) λu zq1 l=>?_;subst zq1;subst l;obtain⟨A,hd,g,k,x,sz,f⟩:=IN I e;obtain⟨B,_⟩:=I.W p _ m;refine W.kdl_call (Nw) (I.R.g o) ⟨B,x⟩ (by lia) λn tk b c kp v D=>?_;have t:b.toList=g.toList.map (·.val):=by
  obtain⟨z,h⟩:=D;refine List.ext_getElem (by simp[z]) λi j K=>?_;refine oj (h i b[i] (by simp[j])) λy d ev=>?_;obtain⟨lt,d⟩:=gX.mp d;simp only[Array.getElem_toList,List.getElem_map];rw[ev,d]
 refine⟨.r _,_,I.laid kp (bb _)<|show bZ _ _ _ n _ (.P<|E.map _) from⟨by rw[aE];exact A,_,c,f,?_⟩,rfl,q _<|I.W.n<|bb _⟩;rw[<-t];exact v
end
noncomputable def QR(o:bv):bv:=λm=>(o m).s λd=>match d with
 | .F _ ds=>.R<|.P ds
 |_=>.b
theorem WI(hc:X.f=true)(hg:Gl X "list")(I:X.m "list" = none)(ho:FB X E o fo)(J:autoParam (ib o "values" X.d (eval o X.d)=eval o X.d) YO)(U:autoParam ((apos.endLine==η.line)=true) YO)
  (C:autoParam (ag [.Call (.Attribute o "values" apos) [] [] η] X.d=(false,eval (.Call (.Attribute o "values" apos) [] [] η) X.d)::ag [] X.d) YO):
  FN X E (.Call (.Name "list" p) [.Call (.Attribute o "values" apos) [] [] η] [] pos) (QR fo):=
 bA (Ce (QB hc) hg I qK (eG (Rr yB x6 PySem.F.type_dict_values Ti ho J U) nM C) (by decide) (by decide) C rfl) λB H Q h=>by
  refine Ph h λt M0 H0 ow m R q=>?_;refine⟨t,M0,H0,ow,m,R,q.s.u (aD.s _) λd q v H1 r i=>?_⟩;cases d with
  |F ks ds=>
   obtain⟨a,f,rfl,e,A,hd⟩:∃a f,v=.r a/\H1 a=some (.d (ew X.K) f)/\f.map (·.1)=ks/\bi (gx X) (Ow t ow) H1 (f.map (·.2)) ds:=by
    rcases i with i|⟨a,rfl,_,i⟩
    .cases i with
     |F n e a b C=>subst b;exact⟨_,_,rfl,e,a,C⟩
    refine DR i λf D e y x C=>?_;subst x;exact⟨a,f,rfl,e,y,C⟩
   refine⟨.inr<|.inr<|.inl ⟨rfl,.inr ⟨_,f,.inl e⟩⟩,a,f,rfl,rfl,e,λb s=>?_⟩;have w:a≠b:=λz=>by rw[z,s] at e;cases e
   refine⟨b,a,f,rfl,aP,by rw[bf w];exact e,λl g=>?_⟩;have u:l≠b:=λz=>by rw[z,aP] at g;cases g
   have j:H1 l=none:=by rw[bf u] at g;exact g
   have k:aD H1 (upd (upd H1 b<|.e<|Lr b a) l<|.P<|f.map (·.2)):=(bH s _).t<|bH g _;exact q l _ (r.t k) (r.Y j) ⟨_,aP,(hd.N λc z=>z.elim .inl λe=>.inr (by rw[e];exact j)).T k⟩
  |_=>exact q.elim
def Q6(K:bg)(tk o:TE):TE:=λc H Q=>∀p,H p=none->tk c (upd H p<|.d (ew K) []) λx H1=>o c H1 λy a=>
 a p=some (.d (ew K) [])/\∃ks b,x=.r b/\nk (ew K) a b ks/\Q (.r p) (upd a p<|.d (ew K) [(ks,y)])
theorem ZM(hu:X.A.units+16<tj)(hk:PE X k tk)(C:PE X v tv):PE X (.Dict [some k] [v] pos) (Q6 X.K tk tv):=by
 intro h s l H Q I q;have U:=I.W.n<|bb _;have J:=I.laid (o:=.d (ew X.K) []) (t':=s.toks) (λ_ _ q=>ah _ q) (bb _)<|Pq _ I.big;have pl:(pairTrees _ _ _ _).length=1:=pairTrees_length [some k] [v] X.d pos rfl rfl;rw[arm_eval_Dict,zip_pairTrees _ _ _ _ rfl rfl,dictDisplay_pairs _ (λz=>by rw[z] at pl;cases pl) (by rw[pl];decide)];refine ae<|mM<|ae ?_;unfold subDict;refine ae<|wpAny_alloc<|ae<|i7 ?_;rw[if_pos (by rw[pl];decide)];refine ae<|pairTrees_cons_walk<|ce (hk h _ l _ _ J<|q _ U) λu V ⟨x,H1,Z,F,N⟩=>ce (C h V l H1 _ Z N) λr M O=>pairTrees_nil_walk<|i7 ?_;obtain⟨y,j,d,P,e,T,b,R,p,t⟩:=O;subst R;cases(show u=cq b from F);obtain⟨z,hd,xs,f,S⟩:=Yl (HR d) d.W e;cases f;rw[AF];refine ae<|ae ?_;show cb _ _ _ _ _ M;refine(ae<|wpAny_dictSet_heap (show X.A.units+8<tj by lia) (Cy d p) S λL g E=>av ?_);dsimp only;rw[List.forIn_nil];refine av<|av<|av<|av ?_;refine Hh g λn G Y m D W B _ w=>?_;refine⟨.r s.heap.objs.size,upd j s.heap.objs.size<|.d (ew X.K) [(T,y)],Bj d (by rw[e];exact fR) E ⟨n,m⟩ ⟨by show 1<=_;decide,hd,_,?_,n,G,Y,m,D,W,B,w⟩,rfl,t⟩;refine KT.f (H:=j) (Paired.cons ⟨rfl,p,P⟩ .nil) λc ys i=>?_;rw[bf<|Yt i e λz=>nomatch z];exact i
def Ry(fk fv:bv):bv:=λm=>(fk m).s λk=>(fv m).s λd=>(b6<|wL k).s λks=>.R<|.F [ks] [d]
theorem XW(I:eV j X.A)(hk:FE X E k fk)(C:FE X E v fv):FN X E (.Dict [some k] [v] pos) (Ry fk fv):=
 bA (ZM (nQ I) hk C) λG H Q B p f=>by
  refine Ph B λl M0 H0 ow m R q=>?_;have h:aD H (upd H p<|.d (ew X.K) []):=bH f _;have i:=R.more h f (by rw[aP];exact .inr<|.inr<|.inl ⟨(ew X.K,[]),rfl⟩);refine⟨ _,M0,H0,ow,m,i,q.s.u h λL q x H1 a t=>⟨ _,M0,H0,ow,m,i.T a,q.s.u (h.t a) λd q y r g F=>?_⟩⟩;refine oj q.s.l λs w q=>?_;refine oj (vI (.inl<|t.T g) w) λb zq1 D=>?_;subst zq1;have u:r p=some _:=g _ _<|a _ _ aP;have R2:=(i.T a).T g;have kp:Kp (Ow (Op l p) ow) r (upd r p<|.d (ew X.K) [(s,y)]):=λc o e n=>by rw[bf λz=>n<|.inl<|.inr z];exact e
  refine⟨u,s,b,rfl,D,q p _ (λc o e=>?_) f ⟨_,_,aP,rfl,rfl,.e ((F.R R2.W kp).N λc z=>.inl ?_) .f⟩⟩
  .rw[bf (λz=>by rw[z,f] at e;cases e)];exact g _ _<|a _ _<|h _ _ e
  rcases z with(z|z)|z
  .exact .inl<|.inl z
  .exact .inr z
  exact .inl<|.inr z
noncomputable def M4:List ((bv)×(bv))->Me->bd (List<|D×D)
 |[],_=>.R []
 |f::r,m=>(f.1 m).s λk=>(f.2 m).s λd=>(M4 r m).s λl=>.R ((k,d)::l)
inductive k7(G:Gx)(O:hD)(H:Hp):List (V×V)->List (D×D)->Prop where
 |f:k7 G O H [] []
 |e {x y:V} {k d:D} {ps:List (V×V)} {l:List (D×D)}:DV G O H x k->DV G O H y d->k7 G O H ps l->k7 G O H ((x,y)::ps) ((k,d)::l)
theorem k7.T(g:aD H H'):∀{o:List (V×V)} {l:List (D×D)},k7 G O H o l->k7 G O H' o l:=by
 intro o l h;induction h with
 |f=>exact .f
 |e a b _ ih=>exact .e (a.T g) (b.T g) ih
def Qe:List er->List D->List (D×D)->Option (List er×List D)
 |ks,ds,[]=>some (ks,ds)
 |ks,ds,p::r=>(Mm p.1).bind λk=>Qe (kd ks ds k p.2).1 (kd ks ds k p.2).2 r
abbrev E3(X:Cx)(E:XK)(fs:List ((bv)×(bv))):List (TE×TE):=fs.map λf=>(tE (gx X) E f.1,tE (gx X) E f.2)
theorem Z7:∀{l:List (D×D)} {J:List (V×V)} {ks o:List er} {ds C:List D} {acc:List (er×V)},k7 G O H J l->Qe ks ds l=some (o,C)->acc.map (·.1)=ks->bi G O H (acc.map (·.2)) ds->
  ∃ι,J=ι.map (λI=>(kV I.1,I.2))/\(qy acc ι).map (·.1)=o/\bi G O H ((qy acc ι).map (·.2)) C
 |_,_,ks,o,ds,C,acc,.f,e,e1,e2=>by cases e;exact⟨[],rfl,e1,e2⟩
 |_,_,ks,o,ds,C,acc,.e (y:=y) a b r,e,e1,e2=>by
  refine oj (gT.mp e) λk h e=>?_;have i:=Qx (.inl a) h;obtain⟨c,d⟩:=UG b e2;rw[e1] at c d;refine o5 (Z7 r e c d) λι j g f=>?_;exact⟨(k,y)::ι,by rw[ar,<-j,i],g,f⟩
theorem k7.N(s:∀b,O' b->O b\/H b=none):∀{o:List (V×V)} {l:List (D×D)},k7 G O H o l->k7 G O' H o l:=by
 intro o l h;induction h with
 |f=>exact .f
 |e a b _ ih=>exact .e (a.N s) (b.N s) ih
theorem k7.mt:∀{o:List (V×V)} {l:List (D×D)},k7 G O H o l->o.length=l.length:=by
 intro o l h;induction h with
 |f=>rfl
 |e _ _ _ ih=>rw[cm,cm,ih]
noncomputable def Mz(m:Me)(i:Nat):Option (Bool×D):=match m[i]? with
 |some (.o d)=>some (true,d)
 |some (.i d)=>some (false,d)
 |_=>none
noncomputable def Ha(m:Me)(i:Nat)(k:Bool)(d:D):Me:=m.set i<|if k then .o d else .i d
theorem TW(R:fc G O0 M0 H0 ow σ H m)(e:Mz m i=some (k,d)):∃a,ow i=some a/\σ[i]? = some (some<|.r a)/\OV G (Ow O0 ow) H a d/\((m[i]? = some (.o d)/\k=true)\/(m[i]? = some (.i d)/\k=false)):=by
 unfold Mz at e;split at e
 .rename_i q;cases e;refine ZB (R.S i _ q) λa b g f c=>?_;exact⟨a,b,f,c,.inl ⟨q,rfl⟩⟩
 .rename_i q;cases e;refine ZB (R.S i _ q) λa b g f c=>?_;exact⟨a,b,f,c,.inr ⟨q,rfl⟩⟩
 cases e
def oZ{o:Type}(p:Nat)(x:o)(l:List o):List o:=l.take p++x::l.drop p
theorem Gy{l:List o}:(oZ p x l).length=l.length+1:=by
 simp[oZ];omega
theorem VN{l:List o}(h:p<=l.length):(oZ p x l)[p]? = some x:=by
 unfold oZ;simp[Nat.min_eq_left h]
theorem Vd{l:List o}(h:i<p)(C:p<=l.length):(oZ p x l)[i]? = l[i]?:=by
 unfold oZ;rw[dr (by simp;omega),xw h]
theorem Uw{l:List o}(h:p<=i)(C:p<=l.length):(oZ p x l)[i+1]? = l[i]?:=by
 unfold oZ;rw[dE (by simp;omega)]
 have:i+1-(l.take p).length=(i-p)+1:=by simp[Nat.min_eq_left C];omega
 rw[this,List.getElem?_cons_succ,v3];congr 1;omega
noncomputable def wG(m:Me)(p:Nat):Option D:=match m[p]? with
 |some (.i d)=>some d
 |_=>none
def KB(G:Gx)(E:XK)(i p:Nat)(f:g7):TA:=λb H Q=>∃O0 M0 H0 ow m a,fc G O0 M0 H0 ow b H m/\b[i]? = some (some<|.r a)/\Pu G E (f m) H λds=>p<=ds.length/\∀us H',aD H H'->bi G (Ow O0 ow) H' us ds->Q (oZ p (.r a) us) H'
abbrev EB(X:Cx)(E:XK)(es:List Expr)(i p:Nat)(f:g7):Prop:=PA X es<|KB (gx X) E i p f
section
variable {fa:bv}{fs:g7}{np:Pos}
theorem xH(J:ln X E es fs)(I:autoParam (X.N[i]? = some y) YO)(o:autoParam (i' X.d.scope y) YR)(hd:autoParam ((y==("__debug__":Str))=false) YI)(C:autoParam ((y==("__classdict__":Str))=false) YI)
  (U:autoParam (ag (.Name y np::es) X.d=(false,eval (.Name y np) X.d)::ag es X.d) YO):EB X E (.Name y np::es) i 0 fs:=
 tu (eG (iG I o hd C) J U) (by intro e H Q zr3;refine Z_63 zr3 λd M0 H0 ow m a R c q=>?_;exact ⟨_,c,d,M0,H0,ow,m,R,q.u (aD.s _) λf q b H' g o=>q.2 b H' g o⟩)
theorem Be(o:FE X E e fa)(C:EB X E es i p fs)(I:autoParam (ag (e::es) X.d=(false,eval e X.d)::ag es X.d) YO):EB X E (e::es) i (p+1) (aj fa fs):=
 tu (eG o C I) (by intro r H Q zr3;refine Z_63 zr3 λf M0 H0 ow m a R j q=>?_;exact ⟨f,M0,H0,ow,m,R,q.s.u (aD.s _) λd q v H1 b h=>
  ⟨f,M0,H0,ow,m,a,R.T b,j,q.s.u b λn q=>⟨by have:=q.1;simpa using this,λl k g c=>q.2 _ k (b.t g)<|.e (h.T g) c⟩⟩⟩)
end
theorem Xs.w{k:C->Hp->Prop}(h:Xs G E O0 M0 H0 ow o H r k)(g:aD H H1):Xs G E O0 M0 H0 ow o H1 r k:=h.u (Go.s g) λ_ _ _ _ _ _ q=>q
noncomputable def ER(i j:Nat)(fs:g7):ap:=λm=>(fs m).s λds=>match ds with
 |[d,e]=>.R (.n,(m.set i<|.f d).set j<|.f e)
 |_=>.b
theorem PM(hc:X.f=true)(C:X.N.Nodup)(hi:X.N[i]? = some x)(hj:X.N[j]? = some y)(o:i≠j)
  (I:X.d.scope.names.lookup x=some .local) (hy:X.d.scope.names.lookup y=some .local) (J:ln X E [a,b] fs)
  (hw:autoParam (lj [.Tuple [.Name x px,.Name y py] kt pt] (.Tuple [a,b] k2 pt2) X.d=pure (some [x,y])) YO)
  (U:autoParam (lh [.Tuple [.Name x px,.Name y py] kt pt] (.Tuple [a,b] k2 pt2) pos.line X.d=pure false) YO):
  FS X E (.Assign [.Tuple [.Name x px,.Name y py] kt pt] (.Tuple [a,b] k2 pt2) pos) (ER i j fs):=
 bN (PF hc C hi hj o I hy J hw U) λW n H h=>cC h λl M0 H0 ow m R q=>⟨l,M0,H0,ow,m,R.tofc,(Ss.t R.tofc q).u (aD.s _) λc q p H' g f=>by
  have z:∃d e,c=[d,e]:=by
   cases c with
   |nil=>exact q.elim
   |cons d c=>cases c with
    |nil=>exact q.elim
    |cons e c=>cases c with
     |nil=>exact⟨d,e,rfl⟩
     |cons _ _=>exact q.elim
  obtain⟨d,e,rfl⟩:=z;cases f with
  |e h1 h3=>cases h3 with
  |e h2 h4=>
   cases h4;refine⟨_,_,rfl,?_⟩;have k:=(R.T g).Y (i:=i) h1;have R2:=k.Y (i:=j)<|h2.N λb z=>.inl z.s;exact q _ _ _ R2<|((Go.s g).t Go.Y).t Go.Y⟩
theorem dg.many{ch:Nat->Prop}(R:dg G O0 M0 H0 ow σ H m)(J:m'.length=m.length)(C:∀i,¬ch i->m'[i]? = m[i]?)(g:Kp (λb=>∃i,ch i/\ow i=some b) H H')
  (new:∀i s,ch i->m'[i]? = some s->Od G (Ow O0 ow) M0 H0 (ow i) (σ[i]?) H' s/\∀d,s≠.b d) (I:∀i b,ch i->ow i=some b->jc (H' b)/\(H0 b=none\/M0 b)):dg G O0 M0 H0 ow σ H' m'/\Go O0 ow H ow H':=by
 have t:∀b,jc (H' b)->H' b≠none:=λb z w=>by rw[w] at z;rcases z with⟨_,e⟩|⟨_,e⟩|⟨_,e⟩|⟨_,e⟩<;>cases e
 have kp:Kp (Ow O0 ow) H H':=λb u e n=>g b u e λ⟨i,_,z⟩=>n<|.inr ⟨i,z⟩;have h:∀b,H b≠none->H' b≠none:=λb n=>by
  by_cases q:∃i,ch i/\ow i=some b
  .refine oj q λi c e=>?_;exact t b (I i b c e).1
  cases w:H b with
  |none=>exact absurd w n
  |some o=>rw[g b o w q];simp
 refine⟨⟨⟨by rw[J];exact R.mt,λb u e n=>?_,λb z=>h b<|R.m0 b z,λb z=>?_,R.IO,R.inj,λj y=>R.X j (by omega),λj s e=>?_⟩,λj d e=>?_⟩,kp,λj b e=>.inl<|.inr ⟨j,e⟩,h⟩
 .refine g b u (R.Z b u e n) λ⟨i,c,z⟩=>?_;rcases(I i b c z).2 with w|w
  .rw[w] at e;cases e
  exact n w
 .by_cases q:∃i,ch i/\ow i=some b
  .refine oj q λi c e=>?_;exact(I i b c e).1
  have:=R.W b z
  rcases this with⟨_,e⟩|⟨_,e⟩|⟨_,e⟩|⟨_,e⟩
  .exact .inl ⟨_,g b _ e q⟩
  .exact .inr<|.inl ⟨_,g b _ e q⟩
  .exact .inr<|.inr<|.inl ⟨_,g b _ e q⟩
  exact .inr<|.inr<|.inr ⟨_,g b _ e q⟩
 .by_cases c:ch j
  .exact(new j s c e).1
  rw[C j c] at e;have z:=R.S j s e;have a:∀{b:Addr} {d:D},ow j=some b->OV G (Ow O0 ow) H b d->OV G (Ow O0 ow) H' b d:=λ{b d} r l=>by
   have p:¬ ∃i,ch i/\ow i=some b:=λ⟨i,ci,v⟩=>c<|R.inj j i b r v▸ci;rcases l.q with⟨_,e⟩|⟨_,e⟩|⟨_,e⟩|⟨_,e⟩<;>exact l.R R.W kp (by rw[e];exact g b _ e p)
  cases s with
  |S=>exact z
  |f d=>obtain⟨b,x,e,q⟩:=z;exact⟨b,x,e,q.R R.W kp⟩
  |o d=>refine ZB z λb x e f k=>?_;exact⟨b,x,e,f,a x k⟩
  |i d=>refine ZB z λb x e f k=>?_;exact⟨b,x,e,f,a x k⟩
  |b d=>exact(R.nb j d e).elim
  |g w b d=>refine ZN z λx e f k=>?_;exact⟨x,e,f,a x k⟩
 by_cases c:ch j
 .exact(new j _ c e).2 d rfl
 rw[C j c] at e;exact R.nb j d e
noncomputable def Sd(j:Nat)(f:bv):bv:=λm=>(f m).s λd=>match d,m[j]? with
 | .J a,some (.g _ b d')=>if a=b then .R d' else .b
 |_,_=>.b
section
variable {f fb fk:bv}{pos:Pos}
theorem O_{m:Me}{j:Nat}{d:D}(h:(match d,m[j]? with|.J a,some (.g _ b d')=>if a=b then bd.R d' else .b|_,_=>.b)=.R r):∃w a,d=.J a/\m[j]? = some (.g w a r):=by
 cases d with
 |J a=>
  cases q:m[j]? with
  |none=>rw[q] at h;cases h
  |some s=>
   cases s with
   |g w b d'=>
    rw[q] at h;by_cases z:a=b
    .have h:(if a=b then bd.R d' else .b)=.R r:=h;rw[if_pos z] at h;cases h;exact⟨w,a,rfl,by rw[z]⟩
    have h:(if a=b then bd.R d' else .b)=.R r:=h;rw[if_neg z] at h;cases h
   |_=>rw[q] at h;cases h
 |_=>cases h
theorem Wt{m:Me}{j:Nat}{d:D}:(match d,m[j]? with|.J a,some (.g _ b d')=>if a=b then bd.R d' else .b|_,_=>.b)≠.A c:=λh=>by
 cases d with
 |J a=>
  cases q:m[j]? with
  |none=>rw[q] at h;cases h
  |some s=>
   cases s with
   |g w b d'=>
    rw[q] at h;have h:(if a=b then bd.R d' else .b)=.A c:=h;split at h<;>cases h
   |_=>rw[q] at h;cases h
 |_=>cases h
theorem Mv j(h:FE X E e f):FB X E e (Sd j f):=bA h λt H Q l=>cC l λp M0 H0 ow m R q=>⟨p,M0,H0,ow,m,R,q.s.u (aD.s _) λd q v H' g k=>by
 cases z:(match d,m[j]? with|.J a,some (.g _ b d')=>if a=b then bd.R d' else .b|_,_=>.b) with
 |R r=>
  rw[z] at q;refine Y' (O_ z) λw a zq2 e=>?_;subst zq2;cases k;refine ZN ((R.T g).S j _ e) λi s u n=>?_;exact q _ H' g<|.inr ⟨a,rfl,.inr ⟨j,i⟩,n⟩
 |A c=>exact(Wt z).elim
 |b=>rw[z] at q;exact q.elim⟩
noncomputable def CK(m:Me)(j:Nat):Option (Bool×Addr×D):=match m[j]? with
 |some (.g w a d)=>some (w,a,d)
 |_=>none
theorem Gi(h:CK m j=some (w,a,d)):m[j]? = some (.g w a d):=by
 unfold CK at h;split at h
 .rename_i q;cases h;exact q
 cases h
theorem dg.agt(R:dg G O0 M0 H0 ow C H m)(e:m[j]? = some (.g w a d))(I:jc (some o))
  (h:Kp (Ow O0 ow) H (L2.upd H a o)->OV G (Ow O0 ow) (L2.upd H a o) a d'):dg G O0 M0 H0 ow C (L2.upd H a o) (m.set j<|.g w a d')/\Go O0 ow H ow (L2.upd H a o):=by
 refine ZN (R.S j _ e) λg l p q=>?_;have kp:Kp (Ow O0 ow) H (L2.upd H a o):=λb u f n=>rB b u f λz=>n<|z▸.inr ⟨j,g⟩;refine R.many (by simp) (λi n=>bX<|eW n) (λb u f n=>rB b u f λz=>n ⟨j,rfl,by rw[g,z]⟩) (λi s c k=>?_) λi b c f=>?_
 .subst c;rw[br<|vU e] at k;cases k;exact⟨⟨g,l,p,h kp⟩,λd z=>by cases z⟩
 subst c;rw[g] at f;cases f;refine⟨by rw[L2.aP];exact I,?_⟩;cases w with
 |true=>exact .inl (l rfl)
 |false=>exact .inr (p rfl)
def HY(j:Nat)(fb fk fv:bv):ap:=λm=>(fv m).s λd=>(fb m).s λc=>(b6<|CK m j).s λo=>(fk m).s λk=>(b6<|wL k).s λk=>match c,o.2.2 with
 | .J a,.F ks ds=>if a=o.2.1/\ks.length<aw then .R (.n,m.set j<|.g o.1 a<|.F (mY ks ds k d).1 (mY ks ds k d).2) else .b
 |_,_=>.b
theorem Rn j(hr:eV J X.A)(U:FE X E e f)(C:FE X E b fb)(hk:FE X E ke fk)
  (I:autoParam (eM e (some<|.Subscript b ke spos) pos.line X.d=pure false) YO):FS X E (.Assign [.Subscript b ke spos] e pos) (HY j fb fk f):=
 bN (KY (nQ hr) C hk U I) λW σ H Q=>cC Q λi M0 H0 ow m R q=>
  ⟨i,M0,H0,ow,m,R.tofc,(Ss.t R.tofc q).u (aD.s _) λd q v H1 y P=>by
   have r:=R.T y;refine⟨i,M0,H0,ow,m,r.tofc,(Ss.t r.tofc<|q.Y<|Go.s y).u (aD.s _) λc q vc F u S=>?_⟩;have R2:=r.T u;refine oj (Ss.l q) λo l q=>?_;obtain⟨w,a,T⟩:=o;have l:=Gi l;refine⟨i,M0,H0,ow,m,R2.tofc,(Ss.t R2.tofc<|q.Y<|Go.s u).u (aD.s _) λdk q vk Y n s=>?_⟩;refine oj (Ss.l q) λg G q=>?_;refine oj (vI (.inl s) G) λb zq1 C=>?_;subst zq1;have p:=R2.T n;cases c with
   |J a'=>
    cases S;cases T with
    |F ks ds=>
     by_cases h:a'=a/\ks.length<aw
     .have B:Ss (gx X) E i M0 H0 ow F W (if a'=a/\ks.length<aw then .R (.n,m.set j<|.g w a'<|.F (mY ks ds g d).1 (mY ks ds g d).2) else .b):=q;rw[if_pos h] at B;clear q;obtain⟨rfl,h⟩:=h;obtain⟨x1,Z,x3,V,vs,N,z,rfl,O⟩:=p.S j _ l;obtain⟨x,D⟩:=S9 (k:=g) (P.T<|u.t n) O;rw[z] at x D;obtain⟨L,M⟩:=p.agt (o:=.d (ew X.K)<|ek V g v) (d':=.F (mY ks ds g d).1 (mY ks ds g d).2) l (.inr<|.inr<|.inl ⟨(_,_),rfl⟩) λkp=>⟨_,_,L2.aP,x,rfl,D.R p.W kp⟩;exact⟨a',_,rfl,Lg.t N C (by rw[<-aE (f:=(·.1)),z];exact h),B _ _ _ L<|(Go.s n).t M⟩
     have q:Ss (gx X) E i M0 H0 ow F W (if a'=a/\ks.length<aw then .R (.n,m.set j<|.g w a'<|.F (mY ks ds g d).1 (mY ks ds g d).2) else .b):=q;rw[if_neg h] at q;exact q.elim
    |_=>exact q.elim
   |_=>exact q.elim⟩
def CJ(j:Nat)(fb fk fv:bv):ap:=λm=>(fv m).s λd=>(fb m).s λc=>(b6<|CK m j).s λo=>(fk m).s λk=>match c,o.2.2,k with
 | .J a,.P ds,.l n=>if a=o.2.1 then(b6<|hQ ds.length n).s λi=>.R (.n,m.set j<|.g o.1 a<|.P<|ds.set i d) else .b
 |_,_,_=>.b
theorem NB j(he:FE X E e f)(hb:FE X E b fb)(hk:FE X E ke fk)
  (ha:∀v,sF (.Subscript b ke spos) X.d v=(do
   let C<-qq [v] (eval b X.d)
   let I<-qq [v,C] (eval ke X.d)
   C1 spos
   qq [v,C,I] (C2 C I v)
   release [v,C,I] []):=by intro _;rfl)
  (J:autoParam (lh [.Subscript b ke spos] e pos.line X.d=pure false) YO) (hw:autoParam (lj [.Subscript b ke spos] e X.d=pure none) YO)
  (U:autoParam ((ja [.Subscript b ke spos] X.d).map (·.2)=[sF (.Subscript b ke spos) X.d]) YO):FS X E (.Assign [.Subscript b ke spos] e pos) (CJ j fb fk f):=
 bN (KN he (Zn hb hk mv ha) J hw U) λW V H L=>cC L λk M0 H0 ow m R q=>
  ⟨k,M0,H0,ow,m,R.tofc,(Ss.t R.tofc q).u (aD.s _) λd q v H1 y K=>by
   have s:=R.T y;refine⟨k,M0,H0,ow,m,s.tofc,(Ss.t s.tofc<|q.Y<|Go.s y).u (aD.s _) λc q Z G u M=>?_⟩;have R2:=s.T u;refine oj (Ss.l q) λo h q=>?_;obtain⟨w,a,N⟩:=o;have h:=Gi h;refine⟨k,M0,H0,ow,m,R2.tofc,(Ss.t R2.tofc<|q.Y<|Go.s u).u (aD.s _) λD q Y P p t=>?_⟩;have r:=R2.T p;cases c with
   |J a'=>
    cases M;cases N with
    |P ds=>
     cases D with
     |l n=>
      cases t;have g:Ss (gx X) E k M0 H0 ow G W (if a'=a then(b6<|hQ ds.length n).s λi=>.R (.n,m.set j<|.g w a'<|.P<|ds.set i d) else .b):=q;by_cases l:a'=a
      .rw[if_pos l] at g;clear q;subst l;refine oj (Ss.l g) λi O q=>?_;obtain⟨T,Q,S,x,F,z⟩:=r.S j _ h;obtain⟨A,B⟩:=r.agt (o:=.P<|x.set i v) (d':=.P<|ds.set i d) h (.inl ⟨_,rfl⟩) λkp=>⟨_,L2.aP,(Ca (K.T<|u.t p) i z).R r.W kp⟩;exact⟨a',x,n,i,rfl,rfl,F,by rw[bK z];exact O,q _ _ _ A<|(Go.s p).t B⟩
      rw[if_neg l] at g;exact g.elim
     |_=>exact q.elim
    |_=>exact q.elim
   |_=>exact q.elim⟩
end
def y_(G:Gx)(p:Nat)(Φ:List D->D->Addr×D->Addr×D->bd (D×D×D×D)):Sp:=λg H Q E=>∃O a us ds d x y,g=oZ p (.r a) us/\p<=ds.length/\(∀b,O b->jc (H b))/\(O a/\OV G O H a d)/\(O x.1/\OV G O H x.1 x.2)/\(O y.1/\OV G O H y.1 y.2)/\(a≠x.1/\a≠y.1/\x.1≠y.1)/\bi G O H us ds/\match Φ ds d x y with
 | .R (r,d',e,f)=>∀v H',Kp (λb=>b=a\/b=x.1\/b=y.1) H H'->OV G O H' a d'->OV G O H' x.1 e->OV G O H' y.1 f->DV G O H' v r->Q v H'
 | .A c=>∀C H',XP G H' c C->Kp (λb=>b=a\/b=x.1\/b=y.1) H H'->E (.ref C.1) C.2 H'
 | .b=>False
noncomputable def oK(m:Me)(j:Nat)(a:Addr):Option D:=match m[j]? with
 |some (.g false b d)=>if a=b then some d else none
 |_=>none
theorem SQ(h:oK m j a=some d):m[j]? = some (.g false a d):=by
 unfold oK at h;split at h
 .rename_i b c q;split at h
  .rename_i z;cases h;rw[z];exact q
  cases h
 cases h
def eA(p N n:Nat)(g:ap):List D->D->Addr×D->Addr×D->bd (D×D×D×D):=λds d x y=>if ds.length+1=n then match g (oZ p (.i d) (ds.map Sl.f)++(dA (N-n-2) Sl.S++[.g false x.1 x.2,.g false y.1 y.2])) with
  | .R (.r _ r,m')=>(b6<|wG m' p).s λd'=>(b6<|oK m' (N-2) x.1).s λe=>(b6<|oK m' (N-1) y.1).s λf=>.R (r,d',e,f)
  | .R (.n,m')=>(b6<|wG m' p).s λd'=>(b6<|oK m' (N-2) x.1).s λe=>(b6<|oK m' (N-1) y.1).s λf=>.R (.E,d',e,f)
  | .A c=>.A c
  |_=>.b
 else .b
abbrev t_(P:b9)(w:eI)(K:bg)(mg:eR)(o:Heap)(k:Nat)(x:Str)(C:List Str)(p:Nat)(Φ:List D->D->Addr×D->Addr×D->bd (D×D×D×D)):Prop:=Hd.Fn P w K mg o k x C<|y_ ⟨K,mg⟩ p Φ
noncomputable def na(i j1 j2:Nat)(a C o:Addr):Os:=λk=>if k=i then some a else if k=j1 then some C else if k=j2 then some o else none
theorem PX(h:O a)(J:O o)(I:O C)(U:i≠j1)(n2:i≠j2)(n3:j1≠j2):Ow (λb=>O b/\b≠a/\b≠o/\b≠C) (na i j1 j2 a o C)=O:=by
 funext b;refine propext ⟨λz=>?_,λz=>?_⟩
 .rcases z with z|⟨k,e⟩
  .exact z.1
  unfold na at e;split at e
  .cases e;exact h
  split at e
  .cases e;exact J
  split at e
  .cases e;exact I
  cases e
 by_cases q:b=a
 .exact .inr ⟨i,by unfold na;rw[if_pos rfl,q]⟩
 by_cases d:b=o
 .exact .inr ⟨j1,by unfold na;rw[if_neg<|eW U,if_pos rfl,d]⟩
 by_cases c:b=C
 .exact .inr ⟨j2,by unfold na;rw[if_neg<|eW n2,if_neg<|eW n3,if_pos rfl,c]⟩
 exact .inl ⟨z,q,d,c⟩
theorem ZG{x y:Addr×D}(I:p<=ds.length)(hm:∀b,O b->jc (H b))(J:O a/\OV G O H a d)(C:O x.1/\OV G O H x.1 x.2)(U:O y.1/\OV G O H y.1 y.2)(nd:a≠x.1/\a≠y.1/\x.1≠y.1)(hd:bi G O H us ds)(hn:ds.length+1=n)(hN:n+2<=N.length):
  dg G (λb=>O b/\b≠a/\b≠x.1/\b≠y.1) (λb=>b=a\/b=x.1\/b=y.1) H (na p (N.length-2) (N.length-1) a x.1 y.1) (L2.b_ N<|oZ p (.r a) us) H (oZ p (.i d) (ds.map Sl.f)++(dA (N.length-n-2) Sl.S++[.g false x.1 x.2,.g false y.1 y.2])):=by
 have hl:=bK hd;have R:p≠N.length-2:=by lia
 have T:p≠N.length-1:=by lia
 have S:N.length-2≠N.length-1:=by lia
 have P:=PX J.1 C.1 U.1 R T S;have Z:(oZ p (V.r a) us).length=n:=by rw[Gy,hl];exact hn
 have u:∀i v,(oZ p _ us)[i]? = some v->(L2.b_ N<|oZ p _ us)[i]? = some _:=λi v e=>by
  have h:i<(oZ p (V.r a) us).length:=(dn.mp e).1;unfold L2.b_;rw[dr (by simpa using h),aT,e];rfl
 have c:(oZ p (Sl.i d)<|ds.map Sl.f).length=n:=by rw[Gy,aE];exact hn
 have op:na p (N.length-2) (N.length-1) a x.1 y.1 p=some a:=if_pos rfl;have o1:na p (N.length-2) (N.length-1) a x.1 y.1 (N.length-2)=some x.1:=by unfold na;rw[if_neg<|eW R,if_pos rfl]
 have o2:na p (N.length-2) (N.length-1) a x.1 y.1 (N.length-1)=some y.1:=by unfold na;rw[if_neg<|eW T,if_neg<|eW S,if_pos rfl]
 have L:∀i,i≠p->i≠N.length-2->i≠N.length-1->na p (N.length-2) (N.length-1) a x.1 y.1 i=none:=λi X W Y=>by unfold na;rw[if_neg X,if_neg W,if_neg Y]
 have t:∀(i:Nat) (s:Sl),(oZ p (Sl.i d) (ds.map Sl.f)++(dA (N.length-n-2) Sl.S++[.g false x.1 x.2,.g false y.1 y.2]))[i]? = some s->
   (i=p/\s=.i d)\/(i≠p/\i<n/\∃f v,s=.f f/\DV G O H v f/\(oZ p (V.r a) us)[i]? = some v)\/(n<=i/\i<N.length-2/\s=.S)\/(i=N.length-2/\s=.g false x.1 x.2)\/(i=N.length-1/\s=.g false y.1 y.2):=λi s e=>by
  by_cases h:i<n
  .rw[dr (by rw[c];exact h)] at e;by_cases q:i=p
   .subst q;rw[VN<|by simpa using I] at e;cases e;exact .inl ⟨rfl,rfl⟩
   refine .inr<|.inl ⟨q,h,?_⟩;by_cases lt:i<p
   .rw[Vd lt (by simpa using I),aT] at e;cases m:ds[i]? with
    |none=>rw[m] at e;cases e
    |some f=>
     rw[m] at e;cases e;refine oj (zU hd m) λv E B=>?_;exact⟨f,v,rfl,B,by rw[Vd lt<|by lia];exact E⟩
   obtain⟨j,rfl⟩:∃j,i=j+1:=⟨i-1,by lia⟩;rw[Uw (by lia) (by simpa using I),aT] at e;cases m:ds[j]? with
   |none=>rw[m] at e;cases e
   |some f=>
    rw[m] at e;cases e;refine oj (zU hd m) λv E B=>?_;exact⟨f,v,rfl,B,by rw[Uw (by lia)<|by lia];exact E⟩
  rw[dE (by rw[c];lia),c] at e;by_cases r:i-n<N.length-n-2
  .rw[dr (by simpa using r),gS,if_pos r] at e;cases e;exact .inr<|.inr<|.inl ⟨by lia,by lia,rfl⟩
  rw[dE (by simpa using r),gL] at e;rcases(show i-n-(N.length-n-2)=0\/i-n-(N.length-n-2)=1\/2<=i-n-(N.length-n-2) by lia) with z|z|z
  .rw[z] at e;cases e;exact .inr<|.inr<|.inr<|.inl ⟨by lia,rfl⟩
  .rw[z] at e;cases e;exact .inr<|.inr<|.inr<|.inr ⟨by lia,rfl⟩
  rw[mo<|by simpa using z] at e;cases e
 refine⟨⟨?_,λb o e _=>e,λb z=>?_,λb z=>by rw[P] at z;exact hm b z,λi b e=>?_,λi j b e1 e2=>?_,λi h=>?_,λi s e=>?_⟩,λj d' e=>?_⟩
 .rw[bq,c,bq,gL];unfold L2.b_;rw[bq,aE,Z,gL]
  simp
  lia
 .have K:∀b,jc (H b)->H b≠none:=λb z w=>by rw[w] at z;rcases z with⟨_,e⟩|⟨_,e⟩|⟨_,e⟩|⟨_,e⟩<;>cases e
  rcases z with z|z|z
  .rw[z];exact K _ J.2.q
  .rw[z];exact K _ C.2.q
  rw[z];exact K _ U.2.q
 .intro z;unfold na at e;split at e
  .cases e;exact z.2.1 rfl
  split at e
  .cases e;exact z.2.2.1 rfl
  split at e
  .cases e;exact z.2.2.2 rfl
  cases e
 .have inv:∀k b,na p (N.length-2) (N.length-1) a x.1 y.1 k=some b->(k=p/\b=a)\/(k=N.length-2/\b=x.1)\/(k=N.length-1/\b=y.1):=λk b e=>by
   unfold na at e;split at e
   .rename_i q;cases e;exact .inl ⟨q,rfl⟩
   split at e
   .rename_i q;cases e;exact .inr<|.inl ⟨q,rfl⟩
   split at e
   .rename_i q;cases e;exact .inr<|.inr ⟨q,rfl⟩
   cases e
  refine ZI nd λf Q M=>?_;rcases inv i b e1 with⟨F,l⟩|⟨F,l⟩|⟨F,l⟩<;>rcases inv j b e2 with⟨A,g⟩|⟨A,g⟩|⟨A,g⟩
  .rw[F,A]
  .exact absurd (l.symm.trans g) f
  .exact absurd (l.symm.trans g) Q
  .exact absurd (g.symm.trans l) f
  .rw[F,A]
  .exact absurd (l.symm.trans g) M
  .exact absurd (g.symm.trans l) Q
  .exact absurd (g.symm.trans l) M
  rw[F,A]
 .rw[bq,c,bq,gL] at h;simp at h;exact L i (by lia) (by lia)<|by lia
 .rw[P];rcases t i s e with⟨rfl,rfl⟩|⟨q,h,f,v,rfl,B,E⟩|⟨q1,q2,rfl⟩|⟨rfl,rfl⟩|⟨rfl,rfl⟩
  .exact⟨a,op,.inl rfl,u _ _<|VN (by lia),J.2⟩
  .exact⟨L i q (by lia) (by lia),v,u _ _ E,B⟩
  .exact L i (by lia) (by lia)<|by lia
  .exact⟨o1,(λz=>by cases z),λ_=>.inr<|.inl rfl,C.2⟩
  exact⟨o2,(λz=>by cases z),λ_=>.inr<|.inr rfl,U.2⟩
 rcases t j _ e with⟨_,z⟩|⟨_,_,_,_,z,_⟩|⟨_,_,z⟩|⟨_,z⟩|⟨_,z⟩<;>cases z
section
variable {K:bg}
theorem Hf{st:Stmt} p (Fu:mi K x qual st f fd)(S:aN N J (az st))(hN:J.length+2<=N.length)
  (U:∀(I:aI) (A:eJ) (o:List Env) (s:a7) (H:Hp) (E:XK),eV k (A.deeper<|sL qual (az st) s.heap.objs.size f I)->
   ii (mO (db P w) P w K mg base N qual (az st) f I A o s H E) E (ig st) g):oY P w K mg base (db P w) (k+1) f fd J (y_ ⟨K,mg⟩ p<|eA p N.length J.length g):=by
 have cond:∀{ds:List D} {d:D} {u v:Addr×D},eA p N.length _ g ds d u v≠.b->ds.length+1=J.length:=λ{ds d u v} h=>by
  by_cases z:ds.length+1=J.length
  .exact z
  unfold eA at h;rw[if_neg z] at h;exact absurd rfl h
 refine Gf Fu S (λvs H Q E h=>?_) λI A o s H vs Q E hr h=>?_
 .obtain⟨O,a,us,ds,d,u,v,rfl,_,_,_,_,_,_,hd,q⟩:=h;rw[Gy,bK hd];exact cond λz=>by rw[z] at q;exact q
 obtain⟨O,a,us,ds,d,u,v,rfl,hp,hm,ho,hu,hv,nd,hd,q⟩:=h;have Z:=cond λz=>by rw[z] at q;exact q
 unfold eA at q;rw[if_pos Z] at q;refine⟨_,U I A o s H E hr,_,_,H,_,_,ZG hp hm ho hu hv nd hd Z hN,?_⟩;have fin:∀{j n H' m' d' y G},dg _ (λb=>O b/\b≠a/\b≠u.1/\b≠v.1) (λb=>b=a\/b=u.1\/b=v.1) H j n H' m'->wG m' p=some d'->oK m' (N.length-2) u.1=some y->oK m' (N.length-1) v.1=some G->
   Kp (λb=>b=a\/b=u.1\/b=v.1) H H'/\OV _ O H' a d'/\OV _ O H' u.1 y/\OV ⟨K,mg⟩ O H' v.1 G/\∀z r,DV (⟨K,mg⟩:Gx) (Ow (λb=>O b/\b≠a/\b≠u.1/\b≠v.1) j) H' z r->DV ⟨K,mg⟩ O H' z r:=λ{j n H' m' d' y G} R i l m=>by
  obtain⟨V,t,B,L,F⟩:=R.S p _ ((by
   unfold wG at i;split at i
   .rename_i q;cases i;exact q
   .cases i));refine ZN (R.S _ _<|SQ l) λX x2 x3 x4=>?_;refine ZN (R.S _ _<|SQ m) λY y2 y3 y4=>?_;have ea:V=a:=by
   rcases B with z|z|z
   .exact z
   .have:=R.inj p _ _ t<|z▸X;lia
   have:=R.inj p _ _ t<|z▸Y;lia
  subst ea;have sub:∀b,O b->Ow (λb=>O b/\b≠V/\b≠u.1/\b≠v.1) j b\/H' b=none:=λb z=>by
   by_cases q:b=V
   .exact .inl<|.inr ⟨p,by rw[q];exact t⟩
   by_cases W:b=u.1
   .exact .inl<|.inr ⟨_,by rw[W];exact X⟩
   by_cases q2:b=v.1
   .exact .inl<|.inr ⟨_,by rw[q2];exact Y⟩
   exact .inl<|.inl ⟨z,q,W,q2⟩
  exact⟨R.Z,F.N sub,x4.N sub,y4.N sub,λz r h=>h.N sub⟩
 cases z:g (oZ p (.i d) (ds.map Sl.f)++(dA (N.length-J.length-2) Sl.S++[.g false u.1 u.2,.g false v.1 v.2])) with
 |A c=>rw[z] at q;exact λC H' e kp=>q C H' e kp
 |b=>rw[z] at q;exact q.elim
 |R b=>
  obtain⟨fl,m'⟩:=b;rw[z] at q;cases fl with
  |bk=>exact q.elim
  |c=>exact q.elim
  |n=>
   intro j n H' T _;cases i:wG m' p with
   |none=>simp only[i] at q;exact q.elim
   |some d'=>
    cases l:oK m' (N.length-2) u.1 with
    |none=>simp only[i,l,vy,bd.y] at q;exact q.elim
    |some y=>
     cases m:oK m' (N.length-1) v.1 with
     |none=>simp only[i,l,m,vy,bd.y] at q;exact q.elim
     |some G=>
      simp only[i,l,m] at q;refine Z_05 (fin T i l m) λt B L F k5=>?_;exact q _ H' t B L F .E
  |r fr r=>
   intro v' j n H' T _ M _;cases i:wG m' p with
   |none=>simp only[i] at q;exact q.elim
   |some d'=>
    cases l:oK m' (N.length-2) u.1 with
    |none=>simp only[i,l,vy,bd.y] at q;exact q.elim
    |some y=>
     cases m:oK m' (N.length-1) v.1 with
     |none=>simp only[i,l,m,vy,bd.y] at q;exact q.elim
     |some G=>
      simp only[i,l,m] at q;refine Z_05 (fin T i l m) λt B L F k5=>?_;exact q v' H' t B L F<|k5 _ _ M
theorem N9:oY P w K mg base (db P w) k f o C (y_ ⟨K,mg⟩ p λ_ _ _ _=>.b):=
 have n:∀{a H Q E},¬y_ _ p (λ_ _ _ _=>.b) a H Q E:=λh=>by
  obtain⟨_,_,_,_,_,_,_,_,_,_,_,_,_,_,_,q⟩:=h;exact q
 ⟨λ_ _ _ _ h=>(n h).elim,λ_ _ _ _ _ _ _ _ _ _ _ _ _ h=>(n h).elim⟩
end
def zJ(Φ:List D->D->Addr×D->Addr×D->bd (D×D×D×D))(i p j1 j2:Nat)(fs:g7):Me->bd (D×Me):=λm=>(b6<|Mz m i).s λo=>(b6<|CK m j1).s λb=>(b6<|CK m j2).s λa=>(fs m).s λds=>if p<=ds.length then(Φ ds o.2 b.2 a.2).s λr=>.R (r.1,((Ha m i o.1 r.2.1).set j1<|.g b.1 b.2.1 r.2.2.1).set j2<|.g a.1 a.2.1 r.2.2.2) else .b
theorem Pn{I pp:Pos} i j1 j2 (Fh:t_ X.p X.w X.K X.m X.T k x ps p Φ)(hr:eV j X.A)(hx:et (db X.p X.w) X E)(ha:EB X E (e0::es) i p fs)(hk:autoParam (k<=j) YI)(hg:autoParam (Gl X x) YO)
  (hj:autoParam (j1≠j2) YI) (hdb:autoParam ((x==("__debug__":Str))=false) YI) (he:autoParam (ag (e0::es) X.d=(false,eval e0 X.d)::ag es X.d) YO) (μ:autoParam ((ij I<|ag es X.d).any (·.1)=false) YO):
  FX X E (.Call (.Name x pp) (e0::es) [] I) (zJ Φ i p j1 j2 fs):=by
 refine ZE Fh.l λf fd G b kp m=>?_;refine bA (MF G (hr.T hk) hg m kp b .nil hx ha hdb he μ) λσ H Q hE=>cC hE λO0 M0 H0 ow m R q=>?_;refine oj ((Xs.t R.tofc q).l) λo ho q=>?_;refine oj ((Xs.t R.tofc q).l) λh1 hh1 q=>?_;refine oj ((Xs.t R.tofc q).l) λh2 hh2 q=>?_;obtain⟨kk,d0⟩:=o;obtain⟨U,t,d1⟩:=h1;obtain⟨w2,u,d2⟩:=h2;refine ZB (TW R.tofc ho) λa l e2 e4 N=>?_;have g1:=Gi hh1;have g2:=Gi hh2;refine ZN (R.S j1 _ g1) λL x2 x3 x4=>?_;refine ZN (R.S j2 _ g2) λM y2 y3 y4=>?_;have Z:i≠j1:=λz=>by subst z;rcases N with⟨s,_⟩|⟨s,_⟩<;>(rw[g1] at s;cases s)
 have J:i≠j2:=λz=>by subst z;rcases N with⟨s,_⟩|⟨s,_⟩<;>(rw[g2] at s;cases s)
 have na1:a≠t:=λz=>Z<|R.inj i j1 a l<|z▸L;have na2:a≠u:=λz=>J<|R.inj i j2 a l<|z▸M;have na3:t≠u:=λz=>hj<|R.inj j1 j2 t L<|z▸M;refine⟨O0,M0,H0,ow,m,a,R.tofc,e2,(Xs.t R.tofc q).u (aD.s _) λds q=>?_⟩;by_cases hp:p<=ds.length
 case neg=>rw[if_neg hp] at q;exact q.elim
 rw[if_pos hp] at q;refine⟨hp,λus H1 T hus=>?_⟩;have R1:=R.T T;have q:=q.w T;show y_ _ _ _ (oZ p (V.r a) us++[]) _ _ _;rw[c9];refine⟨Ow O0 ow,a,us,ds,d0,(t,d1),(u,d2),rfl,hp,R1.W,⟨.inr ⟨i,l⟩,e4.T T⟩,⟨.inr ⟨j1,L⟩,x4.T T⟩,⟨.inr ⟨j2,M⟩,y4.T T⟩,⟨na1,na2,na3⟩,hus,?_⟩;have S:H0 a=none\/M0 a:=by
  rcases N with⟨s,_⟩|⟨s,_⟩
  .refine o5 (R.S i _ s) λa' h B _=>?_;rw[l] at h;cases h;exact .inl B
  refine o5 (R.S i _ s) λa' h B _=>?_;rw[l] at h;cases h;exact .inr B
 have W:H0 t=none\/M0 t:=by cases U with
  |true=>exact .inl (x2 rfl)
  |false=>exact .inr (x3 rfl)
 have O:H0 u=none\/M0 u:=by cases w2 with
  |true=>exact .inl (y2 rfl)
  |false=>exact .inr (y3 rfl)
 cases z:Φ ds d0 (t,d1) (u,d2) with
 |b=>rw[z] at q;exact q.elim
 |A c=>
  rw[z] at q;refine λC H' e g=>q C H' e λb o e n=>?_;refine g b o (R1.Z b o e n) λw=>?_;rcases w with rfl|rfl|rfl
  .rcases S with w|w
   .rw[w] at e;cases e
   exact n w
  .rcases W with w|w
   .rw[w] at e;cases e
   exact n w
  rcases O with w|w
  .rw[w] at e;cases e
  exact n w
 |R r=>
  obtain⟨rr,d',e',f'⟩:=r;rw[z] at q;intro v H' g F P Y hv;have hi:i<m.length:=by rcases N with⟨s,_⟩|⟨s,_⟩<;>exact vU s
  have ex:∀c,(((Ha m i kk d').set j1<|.g U t e').set j2<|.g w2 u f')[c]? = if c=j2 then some (.g w2 u f') else if c=j1 then some (.g U t e') else if c=i then some (if kk then .o d' else .i d') else m[c]?:=λc=>by
   have l1:=vU g1;have l2:=vU g2;unfold Ha;by_cases c2:c=j2
   .subst c2;rw[if_pos rfl,br<|by simpa using l2]
   rw[if_neg c2,bX<|eW c2];by_cases c1:c=j1
   .subst c1;rw[if_pos rfl,br<|by simpa using l1]
   rw[if_neg c1,bX<|eW c1];by_cases c0:c=i
   .subst c0;rw[if_pos rfl,br hi]
   rw[if_neg c0,bX<|eW c0]
  obtain⟨R2,G2⟩:=R1.many (m':=((Ha m i kk d').set j1<|.g U t e').set j2<|.g w2 u f') (ch:=λc=>c=i\/c=j1\/c=j2) (by simp[Ha]) (λc n=>by
    rw[ex,if_neg λz=>n<|.inr<|.inr z,if_neg λz=>n<|.inr<|.inl z,if_neg λz=>n<|.inl z]) (λb o y n=>g b o y λw=>n (by
    rcases w with rfl|rfl|rfl
    .exact⟨i,.inl rfl,l⟩
    .exact⟨j1,.inr<|.inl rfl,L⟩
    .exact⟨j2,.inr<|.inr rfl,M⟩)) (λc s cc es=>by
    rw[ex] at es;rcases cc with rfl|rfl|rfl
    .rw[if_neg J,if_neg Z,if_pos rfl] at es;cases es;rcases N with⟨s,rfl⟩|⟨s,rfl⟩
     .refine ZB (R.S c _ s) λa' h B s3 _=>?_;rw[l] at h;cases h;exact⟨⟨a,l,B,s3,F⟩,λd z=>by cases z⟩
     refine ZB (R.S c _ s) λa' h B s3 _=>?_;rw[l] at h;cases h;exact⟨⟨a,l,B,s3,F⟩,λd z=>by cases z⟩
    .rw[if_neg hj,if_pos rfl] at es;cases es;exact⟨⟨L,x2,x3,P⟩,λd z=>by cases z⟩
    .rw[if_pos rfl] at es;cases es;exact⟨⟨M,y2,y3,Y⟩,λd z=>by cases z⟩) (λc b cc y=>by
    rcases cc with rfl|rfl|rfl
    .rw[l] at y;cases y;exact⟨F.q,S⟩
    .rw[L] at y;cases y;exact⟨P.q,W⟩
    rw[M] at y;cases y;exact⟨Y.q,O⟩)
  exact q H' R2 G2 v hv
open Classical in
def D1(h:Addr->Addr->bd (Fl×Me))(m:Me):bd (Fl×Me):=
 if H:∃p:Bool×D,∀b a:Addr,b≠a->∃m',h b a=.R (.r p.1 p.2,m')/\m'.length=m.length then .R (.r (ku H).1 (ku H).2,m.map λ_=>.S) else .b
theorem VX(H:∀C o:Addr,C≠o->∃m',h C o=.R (.r fr d,m')/\m'.length=m.length):D1 h m=.R (.r fr d,m.map λ_=>.S):=by
 have b:∃p:Bool×D,∀C o,C≠o->∃m',h C o=.R (.r p.1 p.2,m')/\m'.length=m.length:=⟨(fr,d),H⟩;have e:=eT b;refine oj (e 0 1 (by decide)) λj f _=>?_;refine oj (H 0 1 (by decide)) λi a _=>?_;rw[f] at a;unfold D1;rw[dif_pos b];injection a with a
 injection a with a _
 injection a with g c
 rw[g,c]
theorem dg.forget(R:dg G O0 M0 H0 ow σ H m){m':Me}(C:m'.length=m.length):dg G O0 M0 H0 (λ_=>none) σ H (m'.map λ_=>Sl.S)/\Go O0 ow H (λ_=>none) H:=by
 refine⟨⟨⟨by rw[aE,C];exact R.mt,R.Z,R.m0,λb z=>R.W b (z.elim .inl (by rintro ⟨_,e⟩;cases e)),λi a e=>(by cases e),λi j a e _=>(by cases e),λi _=>rfl,λi s e=>?_⟩,λj d e=>?_⟩,λb o e _=>e,λi a e=>(by cases e),λ_ n=>n⟩
 .rw[aT] at e;cases q:m'[i]? with
  |none=>rw[q] at e;cases e
  |some s0=>rw[q] at e;cases e;rfl
 rw[aT] at e;cases q:m'[j]? with
 |none=>rw[q] at e;cases e
 |some s0=>rw[q] at e;cases e
noncomputable def Cg(ow:Os)(i j1 j2:Nat)(a C o:Addr):Os:=λk=>if k=i then some a else if k=j1 then some C else if k=j2 then some o else ow k
theorem dg.ah6(R:dg G O0 M0 H0 ow σ H m)(g:aD H H')(n:H p=none)(U:H p1=none)(n2:H p2=none)(I:p≠p1)(C:p≠p2)(J:p1≠p2)(hi:i<m.length)(h1:j1<m.length)(h2:j2<m.length)(ij1:i≠j1)(ij2:i≠j2)(jj:j1≠j2)
  (o:OV G (λb=>Ow O0 ow b\/b=p\/b=p1\/b=p2) H' p d) (o1:OV G (λb=>Ow O0 ow b\/b=p\/b=p1\/b=p2) H' p1 d1) (o2:OV G (λb=>Ow O0 ow b\/b=p\/b=p1\/b=p2) H' p2 d2):
  dg G O0 M0 H0 (Cg ow i j1 j2 p p1 p2) (σ.set i<|some<|.r p) H' (((m.set i<|.o d).set j1<|.g true p1 d1).set j2<|.g true p2 d2)/\Go O0 ow H (Cg ow i j1 j2 p p1 p2) H':=by
 have B:=R.tofc.Nr n;have x:=R.tofc.Nr U;have t:=R.tofc.Nr n2;have inv:∀k b,Cg ow i j1 j2 p p1 p2 k=some b->(k=i/\b=p)\/(k=j1/\b=p1)\/(k=j2/\b=p2)\/(k≠i/\k≠j1/\k≠j2/\ow k=some b):=λk b e=>by
  unfold Cg at e;split at e
  .rename_i q;cases e;exact .inl ⟨q,rfl⟩
  split at e
  .rename_i q;cases e;exact .inr<|.inl ⟨q,rfl⟩
  split at e
  .rename_i q;cases e;exact .inr<|.inr<|.inl ⟨q,rfl⟩
  rename_i a b c;exact .inr<|.inr<|.inr ⟨a,b,c,e⟩
 have f:∀b,Ow O0 (Cg ow i j1 j2 p p1 p2) b->Ow O0 ow b\/b=p\/b=p1\/b=p2:=λb z=>by
  rcases z with z|⟨k,e⟩
  .exact .inl<|.inl z
  rcases inv k b e with⟨_,z⟩|⟨_,z⟩|⟨_,z⟩|⟨_,_,_,z⟩
  .exact .inr<|.inl z
  .exact .inr<|.inr<|.inl z
  .exact .inr<|.inr<|.inr z
  exact .inl<|.inr ⟨k,z⟩
 have sub:∀b,Ow O0 (Cg ow i j1 j2 p p1 p2) b->Ow O0 ow b\/H b=none:=λb z=>by
  rcases f b z with z|z|z|z
  .exact .inl z
  .rw[z];exact .inr n
  .rw[z];exact .inr U
  rw[z];exact .inr n2
 have D:=R.T g;have P:Cg ow i j1 j2 p p1 p2 i=some p:=if_pos rfl;have K:Cg ow i j1 j2 p p1 p2 j1=some p1:=by unfold Cg;rw[if_neg<|eW ij1,if_pos rfl]
 have M:Cg ow i j1 j2 p p1 p2 j2=some p2:=by unfold Cg;rw[if_neg<|eW ij2,if_neg<|eW jj,if_pos rfl]
 have E:∀k,k≠i->k≠j1->k≠j2->Cg ow i j1 j2 p p1 p2 k=ow k:=λk a b c=>by unfold Cg;rw[if_neg a,if_neg b,if_neg c]
 have F:∀c,(((m.set i<|.o d).set j1<|.g true p1 d1).set j2<|.g true p2 d2)[c]? = if c=j2 then some (.g true p2 d2) else if c=j1 then some (.g true p1 d1) else if c=i then some (.o d) else m[c]?:=λc=>by
  by_cases r:c=j2
  .subst r;rw[if_pos rfl,br<|by simpa using h2]
  rw[if_neg r,bX<|eW r];by_cases j:c=j1
  .subst j;rw[if_pos rfl,br<|by simpa using h1]
  rw[if_neg j,bX<|eW j];by_cases h:c=i
  .subst h;rw[if_pos rfl,br hi]
  rw[if_neg h,bX<|eW h]
 refine⟨⟨⟨by simp[R.mt],D.Z,D.m0,λb z=>?_,λk a e=>?_,λk l a N Q=>?_,λk L=>?_,λk s e=>?_⟩,λk O e=>?_⟩,.c g,λk a e=>?_,(Go.s (O0:=O0) (ow:=ow) g).f⟩
 .rcases f b z with z|z|z|z
  .exact D.W b z
  .rw[z];exact o.q
  .rw[z];exact o1.q
  rw[z];exact o2.q
 .rcases inv k a e with⟨_,z⟩|⟨_,z⟩|⟨_,z⟩|⟨_,_,_,z⟩
  .rw[z];exact λw=>B<|.inl w
  .rw[z];exact λw=>x<|.inl w
  .rw[z];exact λw=>t<|.inl w
  exact R.IO k a z
 .rcases inv k a N with⟨u,z⟩|⟨u,z⟩|⟨u,z⟩|⟨_,_,_,z⟩<;>rcases inv l a Q with⟨v,y⟩|⟨v,y⟩|⟨v,y⟩|⟨_,_,_,y⟩
  .rw[u,v]
  .exact absurd (z.symm.trans y) I
  .exact absurd (z.symm.trans y) C
  .exact absurd (.inr ⟨l,z▸y⟩) B
  .exact absurd (y.symm.trans z) I
  .rw[u,v]
  .exact absurd (z.symm.trans y) J
  .exact absurd (.inr ⟨l,z▸y⟩) x
  .exact absurd (y.symm.trans z) C
  .exact absurd (y.symm.trans z) J
  .rw[u,v]
  .exact absurd (.inr ⟨l,z▸y⟩) t
  .exact absurd (.inr ⟨k,y▸z⟩) B
  .exact absurd (.inr ⟨k,y▸z⟩) x
  .exact absurd (.inr ⟨k,y▸z⟩) t
  exact R.inj k l a z y
 .have A:m.length<=k:=by simpa using L
  rw[E k (by lia) (by lia)<|by lia];exact R.X k A
 .rw[F] at e;by_cases r:k=j2
  .rw[if_pos r] at e;cases e;rw[r];exact⟨M,λ_=>R.tofc.Ob n2,(λz=>by cases z),o2.N λb z=>.inl<|f b z⟩
  rw[if_neg r] at e;by_cases j:k=j1
  .rw[if_pos j] at e;cases e;rw[j];exact⟨K,λ_=>R.tofc.Ob U,(λz=>by cases z),o1.N λb z=>.inl<|f b z⟩
  rw[if_neg j] at e;by_cases h:k=i
  .rw[if_pos h] at e;cases e;rw[h];exact⟨p,P,R.tofc.Ob n,by rw[br (by rw[R.mt];exact hi)],o.N λb z=>.inl<|f b z⟩
  rw[if_neg h] at e;rw[E k h j r,bX<|eW h];exact((R.S k s e).N sub λ_ _ b _=>sg _).T g
 .rw[F] at e;split at e
  .cases e
  split at e
  .cases e
  split at e
  .cases e
  exact R.nb k O e
 rcases inv k a e with⟨_,z⟩|⟨_,z⟩|⟨_,z⟩|⟨_,_,_,z⟩
 .rw[z];exact .inr n
 .rw[z];exact .inr U
 .rw[z];exact .inr n2
 exact .inl<|.inr ⟨k,z⟩
def ID(i j1 j2:Nat)(C:List ((bv)×(bv)))(k1 I k2 J:bv)(o:List ((bv)×(bv)))(k:ap):ap:=λm=>
 (M4 C m).s λc=>(k1 m).s λe=>(I m).s λg=>(k2 m).s λc2=>(J m).s λf=>(M4 o m).s λa=>
  if c.length+2+a.length<=15/\i<m.length/\j1<m.length/\j2<m.length then
   D1 (λb d=>(b6<|Qe [] [] (c++(e,.J b)::(c2,.J d)::a)).s λr=>k<|((m.set i<|.o<|.L r.1 r.2).set j1<|.g true b g).set j2<|.g true d f) m
  else .b
theorem k7.c:∀{C o:List (V×V)} {l r:List (D×D)},k7 G O H C l->k7 G O H o r->k7 G O H (C++o) (l++r):=by
 intro C o l r h k;induction h with
 |f=>exact k
 |e a b t ih=>exact .e a b ih
theorem Hg o:∀(fs) {H:Hp} {K:List (D×D)->Prop} {Q:List (V×V)->Hp->Prop},aD Hb H->fc (gx X) O0 M0 H0 ow σ H m->Pu (gx X) E (M4 fs m) Hb K->
  (∀l C H',K l->aD H H'->k7 (gx X) (Ow O0 ow) H' C l->Hq o σ H' λJ I=>Q (C++J) I)->Hq (E3 X E fs++o) σ H Q
 |[],H,K,Q,_,R,q,f=>f [] [] H q (aD.s _) .f
 |g::r,H,K,Q,gb,R,q,f=>by
  refine⟨O0,M0,H0,ow,m,R,q.s.u gb λn q x H1 a e=>⟨O0,M0,H0,ow,m,R.T a,q.s.u (gb.t a) λd q y I b h=>?_⟩⟩;refine Hg o r ((gb.t a).t b) ((R.T a).T b) q.s λl C j k c i=>?_;exact f _ _ _ k ((a.t b).t c)<|.e ((e.T b).T c) (h.T c) i
theorem XB{j1 j2:Nat}{py pos:Pos}{k1 f1 k2 f2:bv}
  (hN:X.N.Nodup) (hi:X.N[i]? = some y) (hy:k6 X.d.scope y)
  (h:D9 X J I C (E3 X E fs1++(tE (gx X) E k1,tN (gx X) E f1)::(tE (gx X) E k2,tN (gx X) E f2)::(E3 X E fs2++[]))) (hr:ii X E U k)
  (hall:autoParam (I.all (·.isSome)=true) YO) (hl:autoParam (I.length=C.length) YO) (h0:I≠[]:=by exact(λz=>nomatch z)) (h15:autoParam (I.length<=15) YI) (ij1:autoParam (i≠j1) YI) (ij2:autoParam (i≠j2) YI) (jj:autoParam (j1≠j2) YI)
  (hs:autoParam (eM (.Dict I C J) (some<|.Name y py) pos.line X.d=pure false) YO)
  (hf:autoParam (X.i y=true\/X.d.scope.names.lookup y=some .local) iv):
  ii X E (.Assign [.Name y py] (.Dict I C J) pos::U) (ID i j1 j2 fs1 k1 f1 k2 f2 fs2 k):=by
 refine Bk (Ho (Dp hN hi hy (SI h hall hl h0 h15) hs hf) hr) λW σ H hE=>cC hE λO0 M0 H0 ow m R q=>?_;intro p hp;have x:aD H (upd H p<|.c []):=bH hp _;have R1:=R.tofc.more x hp (by rw[aP];exact .inr<|.inl ⟨[],rfl⟩);have ow_of:∀{O1:hD} {b:Addr} {l:Addr},Ow (Op O1 l) ow b->Ow O1 ow b\/b=l:=λz=>E5 z;refine Hg _ fs1 x R1 (Ss.t R.tofc q) λS P H2 q u hl1=>?_;have R2:=R1.T u;have A:=Ss.t R.tofc q;refine⟨_,_,_,_,_,R2,A.u (x.t u) λc1 q x1 H3 d hx1=>?_⟩;have R3:=R2.T d;have A:=Ss.t R.tofc q;refine⟨_,_,_,_,_,R3,A.u ((x.t u).t d) λd1 q a H4 s Z M=>?_⟩;have R4:=R3.more s Z M.q;have A:=Ss.t R.tofc q;refine⟨_,_,_,_,_,R4,A.u (((x.t u).t d).t s) λc2 q x2 H5 j hx2=>?_⟩;have R5:=R4.T j;have A:=Ss.t R.tofc q;refine⟨_,_,_,_,_,R5,A.u ((((x.t u).t d).t s).t j) λd2 q g H6 B G ov2=>?_⟩;have R6:=R5.more B G ov2.q;have A:=Ss.t R.tofc q;refine Hg [] fs2 (((((x.t u).t d).t s).t j).t B) R6 A λT Q f q F hl2=>?_;have R7:=R6.T F;by_cases hc:S.length+2+T.length<=15/\i<m.length/\j1<m.length/\j2<m.length
 case neg=>rw[if_neg hc] at q;exact q.elim
 rw[if_pos hc] at q;refine ZN hc λν li lj1 lj2=>?_;unfold D1 at q;split at q
 case isFalse=>exact q.elim
 rename_i HU;have sp:=eT HU;generalize hfd:ku HU=fd at sp q;obtain⟨fr,dd⟩:=fd;have gA:aD H f:=((((((x.t u).t d).t s).t j).t B).t F);have np1:p≠a:=λz=>by
  have:H3 p=some (.c []):=d _ _<|u _ _ aP
  rw[z,Z] at this;cases this
 have V:p≠g:=λz=>by
  have:H5 p=some (.c []):=j _ _<|s _ _<|d _ _<|u _ _ aP
  rw[z,G] at this;cases this
 have np3:a≠g:=λz=>by
  have m1:=M.q
  have:H5 a≠none:=λw=>by
   have w4:H4 a=none:=j.Y w;rw[w4] at m1;rcases m1 with⟨_,e⟩|⟨_,e⟩|⟨_,e⟩|⟨_,e⟩<;>cases e
  exact this<|z▸G
 have hp1:H a=none:=(x.t<|u.t d).Y Z;have hp2:H g=none:=(x.t<|u.t<|d.t<|s.t j).Y G;refine oj (sp a g np3) λm' O hlm=>?_;have O:((b6<|Qe [] [] (S++(c1,.J a)::(c2,.J g)::T)).s λr=>k<|((m.set i<|.o<|.L r.1 r.2).set j1<|.g true a d1).set j2<|.g true g d2)=.R (.r fr dd,m'):=O;cases em:Qe [] [] (S++(c1,.J a)::(c2,.J g)::T) with
 |none=>rw[em] at O;cases O
 |some r=>
  rw[em] at O;simp only[vy,bd.y] at O
  let OO:hD:=λb=>Ow O0 ow b\/b=p\/b=a\/b=g
  have D:∀b,OO b->Ow (Op (Op (Op O0 p) a) g) ow b:=λb z=>by
   rcases z with(z|z)|z|z|z
   .exact .inl<|.inl<|.inl<|.inl z
   .exact .inr z
   .exact .inl<|.inl<|.inl<|.inr z
   .exact .inl<|.inl<|.inr z
   exact .inl<|.inr z
  have fromOO:∀b,Ow (Op (Op (Op O0 p) a) g) ow b->OO b:=λb z=>by
   rcases z with(((z|z)|z)|z)|z
   .exact .inl<|.inl z
   .exact .inr<|.inl z
   .exact .inr<|.inr<|.inl z
   .exact .inr<|.inr<|.inr z
   exact .inl<|.inr z
  have a1:k7 (gx X) OO f P S:=(hl1.N (O':=OO) (λb z=>by
   rcases z with z|z|z|z
   .exact .inl<|z.elim (λw=>.inl<|.inl w) .inr
   .exact .inl<|.inl<|.inr z
   .exact .inr (by rw[z];exact d.Y Z)
   exact .inr (by rw[z];exact(d.t<|s.t j).Y G))).T (d.t<|s.t<|j.t<|B.t F)
  have a2:DV (gx X) OO f x1 c1:=(hx1.N (O':=OO) (λb z=>by
   rcases z with z|z|z|z
   .exact .inl<|z.elim (λw=>.inl<|.inl w) .inr
   .exact .inl<|.inl<|.inr z
   .exact .inr (by rw[z];exact Z)
   exact .inr (by rw[z];exact(s.t j).Y G))).T (s.t<|j.t<|B.t F)
  have a3:DV (gx X) OO f x2 c2:=(hx2.N (O':=OO) (λb z=>by
   rcases z with z|z|z|z
   .exact .inl<|z.elim (λw=>.inl<|.inl<|.inl w) .inr
   .exact .inl<|.inl<|.inl<|.inr z
   .exact .inl<|.inl<|.inr z
   exact .inr (by rw[z];exact G))).T (B.t F)
  have a4:k7 (gx X) OO f Q T:=hl2.N λb z=>.inl<|D b z;have dps:k7 (gx X) OO f (P++(x1,.r a)::(x2,.r g)::Q) (S++(c1,.J a)::(c2,.J g)::T):=a1.c<|.e a2 (.J a)<|.e a3 (.J g) a4;refine o5 (Z7 (acc:=[]) dps em rfl .f) λL e1 e2 e3=>?_;have len:=dps.mt;rw[e1,aE] at len;have Y:L.length<=15:=by simp at len;lia
  have e7:f p=some (.c []):=F _ _<|B _ _<|j _ _<|s _ _<|d _ _<|u _ _ aP;refine⟨e7,L,by rw[c9] at *;exact e1,Y,?_⟩;have K:∀b,OO b->jc (f b):=λb z=>R7.W b<|D b z;have kp:Kp OO f (upd f p<|.c<|qy [] L):=λc o e n=>by rw[bf λz=>n<|.inr<|.inl z];exact e
  have gB:aD H (upd f p<|.c<|qy [] L):=λc o e=>by
   rw[bf (λz=>by rw[z,hp] at e;cases e)];exact gA _ _ e
  have b1:OV (gx X) OO (upd f p<|.c<|qy [] L) p (.L r.1 r.2):=⟨_,_,aP,e2,rfl,e3.R K kp⟩;have b2:OV (gx X) OO (upd f p<|.c<|qy [] L) a d1:=by
   refine OV.R K kp (bf<|eW np1) ?_;refine(M.N (O':=OO) λb z=>?_).T (j.t<|B.t F);rcases z with z|z|z|z
   .exact .inl<|.inl<|z.elim (λw=>.inl<|.inl w) .inr
   .exact .inl<|.inl<|.inl<|.inr z
   .exact .inl<|.inr z
   exact .inr (by rw[z];exact j.Y G)
  have b3:OV (gx X) OO (upd f p<|.c<|qy [] L) g d2:=by
   refine OV.R K kp (bf<|eW V) ?_;refine(ov2.T F).N (O':=OO) λb z=>.inl ?_;rcases z with z|z|z|z
   .exact .inl<|z.elim (λw=>.inl<|.inl<|.inl w) .inr
   .exact .inl<|.inl<|.inl<|.inr z
   .exact .inl<|.inl<|.inr z
   exact .inr z
  obtain⟨R8,g8⟩:=R.ah6 gB hp hp1 hp2 np1 V np3 li lj1 lj2 ij1 ij2 jj b1 b2 b3;refine⟨O0,M0,H0,_,_,R8,?_⟩;rw[O];intro v ow' σ' H' R9 g9 hv hfr;obtain⟨R10,g10⟩:=R9.forget (m':=m) hlm.symm;refine q v _ σ' H' R10 ((g8.t g9).t g10) (hv.N λb z=>.inl<|z.elim .inl (by rintro ⟨_,e⟩;cases e)) λz=>?_;rcases hfr z with⟨p0,u1,u2,u3⟩|t
  .exact .inl ⟨p0,u1,u2,u3.N λb z=>.inl<|z.elim (λw=>.inl<|w.elim .inl (by rintro ⟨_,e⟩;cases e)) .inr⟩
  exact .inr t
def vg(i:Nat)(f:Me->bd (D×Me)):ap:=λm=>(b6<|oA m i).s λ_=>(f m).s λp=>(b6<|oA p.2 i).s λo=>if o.2.length<aw then .R (.n,dk p.2 i o.1<|o.2++[p.1]) else .b
theorem Hi  i (he:FX X E e fa)(hN:autoParam (X.N[i]? = some x) YO)(I:autoParam (i' X.d.scope x) YR)(hd:autoParam ((x==("__debug__":Str))=false) YI)(J:autoParam ((x==("__classdict__":Str))=false) YI)
  (ξ:autoParam (ib (.Name x np) "append" X.d (eval (.Name x np) X.d)=eval (.Name x np) X.d) YO)
  (υ:autoParam (((ij η<|ag [e] X.d).all (λx=>!x.1)&&(yk η<|og [] X.d).all (λx=>x.1.isSome)&&decide ([e].length+([]:List om).length+(if([]:List om).isEmpty then 0 else 1)<30))=true) YO)
  (θ:autoParam ((apos.endLine==η.line)=true) YO) (U:autoParam (ag [e] X.d=(false,eval e X.d)::ag [] X.d) YO) (C:autoParam ((ij η<|ag [] X.d).any (·.1)=false) YO)
  (δ:autoParam (eM (.Call (.Attribute (.Name x np) "append" apos) [e] [] η) none pos.line X.d=pure false) YO):
  FS X E (.Expr (.Call (.Attribute (.Name x np) "append" apos) [e] [] η) pos) (vg i fa):=
 bN (yq (PQ iF xD xE Cq (iG hN I hd J) (eG he nM U) ξ υ θ U C) δ) λW M H y=>cC y λl M0 H0 ow m R q=>by
  refine oj (Ss.l q) λo h q=>?_;obtain⟨k,L⟩:=o;refine yZ (sX R.tofc h) λa t p w A K F=>?_;refine⟨_,w,.inl ⟨rfl,t,eO.c A⟩,l,M0,H0,ow,m,R,(Xs.v (k:=λd n=>(b6<|oA n i).s λo=>if o.2.length<aw then .R (.n,dk n i o.1<|o.2++[d]) else .b) q).u (Go.s<|aD.s _) λd H1 f j D em q v I=>?_⟩;have q:=q f em j;refine oj (Ss.l q) λo h q=>?_;obtain⟨k',b⟩:=o;refine yZ (sX j.tofc h) λO c s G u r B=>?_;rw[p] at s;cases s;by_cases g:b.length<aw
  .have q:Ss (gx X) E l M0 H0 ow H1 W (if b.length<aw then .R (.n,dk f i k'<|b++[d]) else .b):=q;rw[if_pos g] at q;obtain⟨R2,z⟩:=j.Id (es:=b++[d]) (ys:=c++[v]) p B<|lu r<|.e I .f;exact⟨a,c,v,rfl,rfl,u,by rw[bK r];exact g,q _ _ _ R2 z⟩
  have q:Ss (gx X) E l M0 H0 ow H1 W (if b.length<aw then .R (.n,dk f i k'<|b++[d]) else .b):=q;rw[if_neg g] at q;exact q.elim
noncomputable def zH(f:Me->bd (D×Me)):ap:=λm=>(f m).s λp=>.R (.r false p.1,p.2)
theorem Ou(o:FX X E e fa):FS X E (.Return (some e) pos) (zH fa):=bN (Ko o) λW i H g=>cC g λj M0 H0 ow m R q=>by
 refine⟨j,M0,H0,ow,m,R,(Xs.v (k:=λd h=>.R (.r _ d,h)) q).u (Go.s<|aD.s _) λd H1 f a l b q v c=>?_⟩;exact q f b a v ow i H1 a (Go.s<|aD.s _) c λz=>by cases z
end F
namespace L2
open PySem PySem.Spec PyProof.Rows
def D'(o:Int)(n:Nat):It:=⟨λi _=>i<n,λi H x H'=>H'=H/\x=.l (o-i),λi _=>n<=i⟩
theorem Wu{K:PySem.W.Frag} C J n :mn fE P w K U (D' J n) [C] C (λi h=>A6 h C (J+(i:Nat)*(-1)) ((n:Int)-(i:Nat)) (-1)) where
 m:=by simp
 c:=λi h a b c=>by
  have e:b=C:=by simpa using c
  subst e;exact⟨_,a,λv z=>by
   have F:C3 _=Data.cell v:=z;cases F⟩
 Z:=λi h f a k=>k C (by simp) _ a
 a:=by
  intro X l u A p i B s D H E I g a x;subst l u A;refine tL (g C<|by simp) λr q G j m y=>?_;have W:=Walks.range (prog:=X.p) (w:=X.w) (I.R.g p) C J (-1) n;refine W.item i s _ _ x a λv f tk M d N=>?_;obtain⟨t,rfl⟩:=M;have O:am X B D H { s with heap:=f,toks:=tk }:=I.turned (λb o c e=>N b o (by simpa using c) e) r q j m y;refine⟨_,rfl,JW d rfl rfl (by decide) ⟨.l<|J-i,H,O,⟨t,?_⟩,⟨rfl,rfl⟩,d,λb c=>(g b c).1⟩⟩;rw[show J+(i:Int)*(-1)=J-i by lia]
 d:=by
  intro X l u A p i B s D H E I g a x;subst l u A;refine tL (g C<|by simp) λr q G j m y=>?_;exact wpAny_pyNext_range_end (I.R.g p) a (by have:n<=i:=x;lia) λf L=>⟨rfl,I.turned (t':=s.toks) (λb o c e=>L b o c e) r q j m y⟩
 e:=λ_ _ _ _ _ a h=>wpAny_pyIter_rangeiter a h
theorem Js a b:ly a b (-1)=((a-b).toNat:Int):=by
 unfold ly;rw[if_neg<|by decide];split
 .rw[show -(-1)=1 by decide,CD];lia
 lia
section
variable {tg:Expr}
theorem YX{U:St}{E:Zs}{lo:Int}(I:am X J U H s)(h1:-1000000000<=C)(h2:C<=1000000000)(h3:-1000000000<=lo)(h4:lo<=1000000000)
  (q:R (D' C (C-lo).toNat) H):cb (cK X.p X.w) X.A (pyIter<|.ref s.heap.objs.size) (E6 fE X J U tg R) E { s with heap:=s.heap.push { cls:=.type "range",data:=.fields #[.int C t,.int lo u,.int (-1) v] },toks:=tk }:=by
 refine wpAny_pyIter_range (IsRange.new ..) ((by
  unfold Builtin.Range.small;rw[Js];simp only[Builtin.Range.rangeFitsLong,ia,pE,decide_eq_true_eq,beq_iff_eq,show ¬(-1:Int)>0 by decide,if_false]
  lia)) ?_;have a:am X J U H { s with heap:=s.heap.push { cls:=.type "range",data:=.fields #[.int C t,.int lo u,.int (-1) v] },toks:=tk }:=I.we λb o e=>ah _ e;refine⟨(s.heap.push { cls:=.type "range",data:=.fields #[.int C t,.int lo u,.int (-1) v] }).objs.size,[(s.heap.push { cls:=.type "range",data:=.fields #[.int C t,.int lo u,.int (-1) v] }).objs.size],_,_,H,rfl,
  a.we (t':=tk) λb o e=>ah _ e,Wu _ C (C-lo).toNat,?_,λb f=>?_,q⟩
 .have c:C+((0:Nat):Int)*(-1)=C:=by simp
  have d:(((C-lo).toNat:Nat):Int)-((0:Nat):Int)=ly C lo (-1):=by rw[Js];lia
  show A6 _ _ (C+((0:Nat):Int)*(-1)) ((((C-lo).toNat:Nat):Int)-((0:Nat):Int)) (-1);rw[c,d];exact bp _ rfl
 have e:b=(s.heap.push { cls:=.type "range",data:=.fields #[.int C t,.int lo u,.int (-1) v] }).objs.size:=by simpa using f
 subst e;exact a.QM (bb _)<|a.W.n<|bb _
def OI(o:TA):TI:=λa H R=>o a H λb H1=>∃i j:Int,b=[.l i,.l j,.l (-1)]/\(-1000000000<=i/\i<=1000000000/\-1000000000<=j/\j<=1000000000)/\R (D' i (i-j).toNat) H1
theorem Wn(hg:Gl X "range")(C:X.m "range" = none)(J:PA X [a,b,c] ta)(U:autoParam (ag [a,b,c] X.d=[(false,eval a X.d),(false,eval b X.d),(false,eval c X.d)]) YO)(o:autoParam (ag [b,c] X.d=[(false,eval b X.d),(false,eval c X.d)]) YO):
  PI fE X tg (.Call (.Name "range" p) [a,b,c] [] pos) (OI ta):=by
 intro k s g H R I h;refine Call_<|vB I hg C boot_range<|fy (ce (J _ k s g H _ I h) λA x n=>f3 n λy H1 u w d=>?_) (by rw[U,o]) (by rw[o];rfl);obtain⟨i,j,e,⟨d,f,l,m⟩,q⟩:=d;subst e;cases w with
 |cons r rr=>
  cases rr with
  |cons r' rr=>
   cases rr with
   |cons r'' rr=>
    cases rr;obtain⟨t,rfl⟩:=r;obtain⟨z,rfl⟩:=r';obtain⟨v,rfl⟩:=r'';exact call_range_3 (by decide) (YX u d f l m q)<|eB<|PyProof.noPylong_small<|by lia
end
end L2
namespace F
open PySem PySem.Spec PyProof.Rows L2 Hd
noncomputable def D5(f:g7):g7:=λm=>(f m).s λd=>match d with
 |[.l i,.l j,.l (-1)]=>if -1000000000<=i/\i<=1000000000/\-1000000000<=j/\j<=1000000000 then .R ((dc (i-j).toNat).map λ(k:Nat)=>D.l<|i-k) else .b
 |_=>.b
theorem VU:Hc G (D' o n) ((dc n).map λ(k:Nat)=>D.l<|o-k) P:=by
 intro O H _;refine⟨λi o=>(show i<n by simpa using o),λi x H' o y=>?_,by show n<=_;simp⟩;obtain⟨e,y⟩:=y;subst e y;have a:i<n:=by simpa using o
 exact⟨aD.s _,_,by simp[aT,tP a],.l _⟩
section
variable {X:Cx}{E:XK}{tg:Expr}{f:bv}{fs:g7}{p pos:Pos}
theorem SK(U:Gl X "range")(C:X.m "range" = none)(I:mm X E [a,b,c] fs)(J:autoParam (ag [a,b,c] X.d=[(false,eval a X.d),(false,eval b X.d),(false,eval c X.d)]) YO)(o:autoParam (ag [b,c] X.d=[(false,eval b X.d),(false,eval c X.d)]) YO):FI X E tg (.Call (.Name "range" p) [a,b,c] [] pos) (D5 fs):=
 sZ (Wn U C I J o) λr H R n=>cC n λi M0 H0 ow m j q=>⟨i,M0,H0,ow,m,j,q.s.u (aD.s _) λu q s H' g h=>by
  split at q
  .cases h with
   |e h1 t=>cases t with
    |e h2 t=>cases t with
     |e h3 t=>
      cases t;cases bM h1;cases bM h2;cases bM h3;obtain⟨⟨l,e,d,f⟩,k⟩:=Jx q;exact⟨_,_,rfl,⟨l,e,d,f⟩,k _ H' g VU⟩
  exact q.elim⟩
noncomputable def Og(f:Me->bd (D×Me))(h:pv):ap:=λm=>(f m).s λp=>(b6<|h p.1 p.2).s λm'=>.R (.n,m')
theorem UZ(I:FX X E e fa)(J:FG X k tg h)(C:autoParam (lh [tg] e pos.line X.d=pure false) YO)(o:autoParam (lj [tg] e X.d=pure none) YO)
  (U:autoParam ((ja [tg] X.d).map (·.2)=[sF tg X.d]) YO):FS X E (.Assign [tg] e pos) (Og fa h):=bN (KN I J C o U) λW t H r=>cC r λf M0 H0 ow m R q=>by
 refine⟨f,M0,H0,ow,m,R,(Xs.v (k:=λd a=>(b6<|h d a).s λa=>.R (.n,a)) q).u (Go.s<|aD.s _) λd H1 c b u j q v l=>?_⟩;refine oj (Ss.l<|q c j b) λa e q=>?_;exact⟨f,M0,H0,ow,c,d,a,b.tofc,l,e,λg p s n i _=>q _ _ _ ⟨s,i b.nb⟩ n⟩
def PJ(i:Nat):Me->bd (D×Me):=λm=>(b6<|oA m i).s λo=>(b6<|o.2[o.2.length-1]?).s λd=>.R (d,dk m i o.1 o.2.dropLast)
theorem PY  i (J:autoParam (X.N[i]? = some x) YO)(C:autoParam (i' X.d.scope x) YR)(hd:autoParam ((x==("__debug__":Str))=false) YI)(I:autoParam ((x==("__classdict__":Str))=false) YI)
  (ξ:autoParam (ib (.Name x np) "pop" X.d (eval (.Name x np) X.d)=eval (.Name x np) X.d) YO) (U:autoParam ((apos.endLine==η.line)=true) YO):
  FX X E (.Call (.Attribute (.Name x np) "pop" apos) [] [] η) (PJ i):=
 bA (Rr iF AI AJ Yq (iG J C hd I) ξ U) λs H Q p=>cC p λt M0 H0 ow m R q=>by
  refine oj ((Xs.t R.tofc q).l) λo n q=>?_;obtain⟨k,u⟩:=o;refine oj ((Xs.t R.tofc q).l) λd e q=>?_;refine yZ (sX R.tofc n) λa f j l h c r=>?_;refine oj (zU c e) λv C dv=>?_;obtain⟨R2,g⟩:=R.Id j r<|Aj c;have b:=dv.Y R.W g.k;exact⟨_,l,.inl ⟨rfl,f,eO.c h⟩,a,f,v,rfl,rfl,h,by rw[bK c];exact C,q _ R2 g _ b⟩
end
def Bs(i:Nat)(fk fv:bv):Me->bd (D×Me):=λm=>(b6<|yC m i).s λo=>(fk m).s λk=>(fv m).s λd=>(b6<|wL k).s λk=>
 if o.2.1.length<aw then .R (match cG o.2.1 o.2.2 k with|some d'=>(d',m)|none=>(d,rC m i o.1 (o.2.1++[k])<|o.2.2++[d])) else .b
theorem I_  i (hr:eV jj X.A)(hk:FE X E ke fk)(he:FE X E e f)(U:M2 X (.Name x np) "setdefault" apos ke e η)(J:autoParam (X.N[i]? = some x) YO)(C:autoParam (i' X.d.scope x) YR)(hd:autoParam ((x==("__debug__":Str))=false) YI)(I:autoParam ((x==("__classdict__":Str))=false) YI):
  FX X E (.Call (.Attribute (.Name x np) "setdefault" apos) [ke,e] [] η) (Bs i fk f):=
 bA (IL (nQ hr) (iG J C hd I) hk he U) λZ H Q V=>cC V λG M0 H0 ow m R q=>by
  refine oj ((Xs.t R.tofc q).l) λo T q=>?_;obtain⟨k,F,S⟩:=o;refine Qh (Ng R.tofc T) λa r L O K p W M=>?_;refine⟨_,O,a,rfl,.inr ⟨r,.inl K⟩,G,M0,H0,ow,m,R.tofc,(Xs.t R.tofc q).u (aD.s _) λdk q vk H1 c y=>?_⟩;have D:=R.T c;refine⟨G,M0,H0,ow,m,D.tofc,(Xs.t R.tofc q).u c λd q v H2 g C=>?_⟩;have R2:=D.T g;refine oj ((Xs.t R.tofc q).l) λu P q=>?_;refine oj (vI (.inl<|y.T g) P) λb zq1 B=>?_;subst zq1;have h:=g _ _<|c _ _ K;have j:=(W.T c).T g;by_cases s:F.length<aw
  .rw[if_pos s] at q;rcases Gj j with⟨v',d',t,l,dv⟩|⟨t,l⟩
   .rw[p] at l;have n:=q;rw[l] at n;refine⟨r,u,b,h,rfl,B,by rw[<-aE,p];exact s,λw ev=>?_,λev=>?_⟩
    .rw[t] at ev;cases ev;exact n _ R2 (Go.s<|c.t g) _ dv
    rw[t] at ev;cases ev
   rw[p] at l;have n:=q;rw[l] at n;refine⟨r,u,b,h,rfl,B,by rw[<-aE,p];exact s,λw ev=>?_,λev=>?_⟩
   .rw[t] at ev;cases ev
   obtain⟨Y,z⟩:=R2.rC (ls:=F++[u]) (es:=S++[d]) (ι:=r++[(u,v)]) L M (by simp[p]) (by rw[bP];exact lu j<|.e C .f);exact n _ Y ((Go.s<|c.t g).t z) _<|C.Y R2.W z.k
  rw[if_neg s] at q;exact q.elim
theorem Xp(o:MulOk x n)(h:∀t' k,Q (.str (DH x n) t') { s with toks:=k}):
  cb (cK prog w) A (ko .Mult (.int n u)<|.str x t) Q E s:=by
 have a:(if n<1 then Made.str C5 else if(n==1||x.length==0)=true then Made.val (.str x t) else Made.str ⟨(dA n.toNat x.cps).foldl (· ++ ·) #[]⟩).post Q s:=by
  unfold DH at h;by_cases b:n<1
  .rw[if_pos b];have c:=h s.toks<|s.toks+1;rw[if_pos b] at c;exact⟨by decide,c⟩
  rw[if_neg b];refine post_val_or_made (λd=>fits_reps<|o.2.2 b<|by simpa using d) λt' k=>?_;have c:=h t' k;rw[if_neg b] at c;exact c
 exact lm_binaryOp_repeat_right (by decide) (λe=>typeIs_int e n u) (xA s x t) PySem.F.fills_int_mul noFill_str_mul AX (by rfl) repeat_str PySem.F.slot_int_index.lookup<|call_gives AX (typeIs_int s n u) PySem.F.entry_int_mul (PySem.F.args_int_mul_2 _ _) (AutoIntG3.int___mul___int_str_0 n u x t) ⟨rfl,xA _ x t,call_gives PySem.F.slot_str_mul (xA s x t) PySem.F.entry_str_mul (PySem.F.args_str_mul_2 _ _) (gives_str_mul x n t u o.1 o.2.1 o.2.2) a⟩
noncomputable def VL:D->D->Option D
 | .l n,.p z=>if 0<=n/\n<=1000/\z.length<=1000 then some (.p<|DH z n) else none
 |_,_=>none
theorem WH:gc X (ko .Mult) (rG (gx X) VL):=by
 intro j s B H x y v u Q I c g h;refine xx h λO d e r m b i a q=>?_;unfold VL at a;split at a
 .rename_i n z;obtain⟨⟨w,l,f⟩,rfl⟩:=nw a;cases bM b;cases jG i;obtain⟨t,rfl⟩:=c;obtain⟨D,rfl⟩:=g;exact Xp ((by
   refine⟨by simp;lia,λp _=>?_,λp _=>?_⟩
   .have:(1000:Int)<=(2^63-1)/n:=by
     rw[Int.le_ediv_iff_mul_le<|by omega]
     lia
    lia
   have:z.length*n.toNat<=1000*1000:=Nat.mul_le_mul f (by lia)
   have e:aw=16777216:=by decide
   simp[Bn,e]
   lia)) λA k=>Ut I q
 cases a
end F
namespace L2
open PySem PySem.Spec PyProof.Rows
theorem Wz(o:List aI):slicePick o.toArray none none (some (-1))=o.reverse.toArray:=by
 unfold slicePick;have h:ml none none (some (-1)) o.toArray.size=((o.length:Int)-1,-1,-1):=by simp[ml]
 rw[h];congr 1;have m:sliceRange ((o.length:Int)-1) (-1) (-1)=(dc o.length).map λ(k:Nat)=>o.length-1-k:=by
  unfold sliceRange;rw[if_neg<|by decide];have d:(if(o.length:Int)-1 > -1 then((o.length:Int)-1 - -1 - -1-1)/(- -1) else 0).toNat=o.length:=by
   rw[show(- -1:Int)=1 by decide,CD];split<;>lia
  show(dc _).map _=_;rw[d];refine ki λk _=>?_
  lia
 show List.filterMap _ _=_;rw[m,List.filterMap_map];apply List.ext_getElem?;intro i;have e:∀l:List _,(∀k∈l,k<o.length)->l.filterMap ((λk=>o.toArray[k]?)∘λ(k:Nat)=>o.length-1-k)=l.map λk=>o.getD (o.length-1-k) .none:=by
  intro l b;induction l with
  |nil=>rfl
  |cons k l ih=>
   have a:=b k<|ai ..;have g:((λk=>o.toArray[k]?)∘λ(k:Nat)=>o.length-1-k) k=some (o.getD (o.length-1-k) .none):=by
    simp[cp,ay<|show o.length-1-k<o.length by lia]
   rw[List.filterMap_cons_some g,ar,ih λj f=>b j<|af _ f]
 rw[e _ (λk a=>by simpa using a),aT];by_cases c:i<o.length
 .rw[tP c,List.getElem?_reverse c];simp[cp,ay<|show o.length-1-i<o.length by lia]
 rw[mo (by simp;lia),mo (by simp;lia)];rfl
section
variable {st:Expr}{te:TE}{eu:TO}
def Kx(K:bg)(te:TE)(eu:TO):TE:=λc H Q=>te c H λx H1=>eu c H1 λk b=>k=some (-1)/\∃a xs,x=.r a/\eO K b a xs/\∀p,b p=none->Q (.r p) (upd b p<|.P xs.reverse)
theorem NH(J:PE X e te)(C:PO X (some st) eu):PE X (.Subscript e (.Slice none none (some st) p2) pos) (Kx X.K te eu):=by
 intro c s d H Q I h;refine B7<|ce (J c s d H _ I h) λv B f=>f3 f λx H1 G y t=>?_;refine wpAny_Slice ?_;refine av ?_;refine av ?_;refine ce (C c B d H1 _ G t) λg s3 f=>?_;refine Ek f λk p D n E=>?_;obtain⟨rfl,a,l,rfl,m,q⟩:=E;subst y;have i:am X c d p { s3 with heap:=s3.heap.push { cls:=.type "slice",data:=.fields #[.none,.none,g] } }:=D.we λb z q=>ah _ q;refine o5 (i.IO m) λL r j u=>?_;have M:=r.l;have F:cb (cK X.p X.w) X.A (Au (.ref a)<|.ref s3.heap.objs.size) (EP X c d Q) X.g { s3 with heap:=s3.heap.push { cls:=.type "slice",data:=.fields #[.none,.none,g] } }:=by
  refine xB j.isList (BS ..) .none .none n (by decide) ?_ (by rw[bo]<;>lia);rw[Wz];refine⟨.r _,_,i.laid (λb z q=>ah _ q) (bb _) ?_,rfl,q _<|i.W.n<|bb _⟩;exact⟨by rw[List.length_reverse];exact u,_,0,r.f,bp _ rfl⟩
 show cb _ _ _ _ _ _;exact tail_any j.isList.typeIs xy.lookup F<|by with_unfolding_all rfl
end
end L2
namespace F
open PySem PySem.Spec PyProof.Rows L2 Hd
section
variable {f:bv}{fk:Me->bd (Option Int)}
noncomputable def Gr(f:bv)(fk:Me->bd (Option Int)):bv:=λm=>(f m).s λd=>(fk m).s λk=>match d,k with
 | .P ds,some (-1)=>.R<|.P ds.reverse
 |_,_=>.b
end
end F
namespace Pk
open PySem L2 Hd F
def jq:oa:=
 (aA gz (aa 3)<|fC<|.l 0)
def jh:ap:=
 (aB (aW 4<|ak aR (aa 2)<|aa 3)
 (aB (aW 2<|au 3)
 (aW 3<|au 4)))
def mQ:ap:=
 (qw jq jh)
def o7(o:ap):ap:=
 (aB (aW 2<|aF BZ<|aj (aa 0) ao)
 (aB (aW 3<|aF BZ<|aj (aa 1) ao)
 (aB o
 (aU<|au 2))))
def oX:ap:=
 (o7 mQ)
def lg:b8:=aV 5 2 oX
def BL(o:b8):ap:=
 (aB (aW 2<|a0 o<|aj (au 0)<|aj (au 1) ao)
 (aB (ax (aA lw (aa 1)<|fC<|.l 0) (aW 2<|lm vV<|aa 2) ba)
 (aU<|aK<|aj (ak bV (aa 0)<|aa 2)<|aj (ak bV (aa 1)<|aa 2) ao)))
def An:ap:=
 (BL lg)
def vz:b8:=aV 3 2 An
def QK(o:b8):ap:=
 (aU<|a0 o<|aj (ak bD (ak iJ (ak al (aa 0)<|fC<|.l 0)<|ak al (aa 1)<|fC<|.l 1)<|ak iJ (ak al (aa 1)<|fC<|.l 0)<|ak al (aa 0)<|fC<|.l 1)<|aj (ak iJ (ak al (aa 0)<|fC<|.l 1)<|ak al (aa 1)<|fC<|.l 1) ao)
def Rw:ap:=
 (QK vz)
def Mh:b8:=aV 2 2 Rw
def LK:ap:=
 (aU<|qj lw (ak iJ (ak al (aa 0)<|fC<|.l 0)<|ak al (aa 1)<|fC<|.l 1)<|ak iJ (ak al (aa 1)<|fC<|.l 0)<|ak al (aa 0)<|fC<|.l 1)
def Le:ap:=
 LK
def FP:b8:=aV 2 2 Le
def yf:ap:=
 (aW 1<|a0 Mh<|aj (au 1)<|aj (au 2) ao)
def Dm:ap:=
 (eY (cT<|au 0) (ad 2) yf)
def Kz(o:ap):ap:=
 (aB (aW 1<|fC<|.w [(.l 0),(.l 1)])
 (aB o
 (aU<|au 1)))
def Kq:ap:=
 (Kz Dm)
def Gk:b8:=aV 3 1 Kq
def mG:bv:=
 (bU 2 [] (lC<|ak al (aa 0)<|lm vV<|fC<|.l 1) (dO 2<|aL (ad 0)<|aL (ad 1) dU) jn<|au 1)
def jD(o:bv):ap:=
 (aB (ax (aA cr (ak al (aa 0)<|fC<|.l 0)<|fC<|.p "end") (jT<|f9 ao) ba)
 (jT o))
def zf:ap:=
 (jD mG)
def lL:b8:=aV 1 1 zf
def pL:bv:=
 (aK<|aj (ak bD (ak al (aa 2)<|fC<|.l 0)<|aK<|aj (au 0) ao)<|aj (au 1) ao)
def lW:bv:=
 (bU 2 [3] (ET<|aj (a0 lL<|aj (ak al (aa 3)<|fC<|.l 1) ao) ao) (dO 2<|aL (ad 0)<|aL (ad 1) dU) jn pL)
def lO:oa:=
 (aA d3 (aF bQ<|aj (aa 2) ao)<|fC<|.l 0)
def lM:ap:=
 (aB (Ms 3 2)
 (aB (cR 1<|au 3)
 (aB (aW 4 lW)
 (Ln 2<|aF EU<|aj (aa 4) ao))))
def yN:ap:=
 (qw lO lM)
def tH(o:ap):ap:=
 (aB (dW 1<|f9 ao)
 (aB (dW 2<|f9<|aj (aK<|aj (aK ao)<|aj (au 0) ao) ao)
 (aB o
 (uU 1))))
def El:ap:=
 (tH yN)
def kh:b8:=aV 5 1 El
def qW:bv:=
 (bU 2 [] (lC<|ak al (aa 0)<|fC<|.l 3) (dO 2<|aL (ad 0)<|aL (ad 1) dU) jn<|au 0)
def zL(o:bv):ap:=
 (aU<|aF dR<|aj o ao)
def zV:ap:=
 (zL qW)
def vQ:b8:=aV 1 1 zV
def iQ:ap:=
 (aB (ax (aA gz (ak al (aa 0)<|fC<|.l 0)<|fC<|.p "move") (aU<|au 1) ba)
 (aB (aW 3<|aK<|aj (ak al (aa 0)<|fC<|.l 2)<|aj (ak al (ak al (ak al (aa 0)<|fC<|.l 3)<|aa 2)<|fC<|.l 0) ao)
 (aB (ax (aA cr (ak al (aa 0)<|fC<|.l 1)<|fC<|.l 1) (aU<|aK<|aj (ak bD (ak al (aa 1)<|fC<|.l 0)<|aK<|aj (au 3) ao)<|aj (ak al (aa 1)<|fC<|.l 1) ao) ba)
 (aU<|aK<|aj (ak al (aa 1)<|fC<|.l 0)<|aj (ak bD (ak al (aa 1)<|fC<|.l 1)<|aK<|aj (au 3) ao) ao))))
def iY:ap:=
 iQ
def gG:b8:=aV 4 3 iY
def cX:ap:=
 (JK 1 (ak bD (aa 3)<|aK<|aj (au 5) ao)<|a0 gG<|aj (au 4)<|aj (ak Aw (aa 1)<|aa 3)<|aj (au 5) ao)
def iR:ap:=
 (eY (yH<|aj (aF bQ<|aj (a0 lL<|aj (au 4) ao) ao) ao) (ad 5) cX)
def bj:ap:=
 (aB (cR 2<|aK<|aj (au 3)<|aj (au 4)<|aj (ak Aw (aa 1)<|aa 3) ao)
 iR)
def ni:ap:=
 (eY (cT<|a0 kh<|aj (au 0) ao) (dO 2<|aL (ad 3)<|aL (ad 4) dU) bj)
def gU(o:ap):ap:=
 (aB (dW 1<|Ry (aK ao)<|aK<|aj (aK ao)<|aj (aK ao) ao)
 (aB (dW 2<|f9 ao)
 (aB o
 (uU 2))))
def oR:ap:=
 (gU ni)
def cL:b8:=aV 6 1 oR
def Bb(o:b8):ap:=
 (aU<|aK<|aj (ak al (aa 0)<|fC<|.l 1)<|aj (ak al (aa 0)<|fC<|.l 2)<|aj (a0 o<|aj (au 0) ao)<|aj (ak al (aa 1)<|ak eE (ak al (aa 0)<|fC<|.l 1)<|fC<|.l 1) ao)
def BV:ap:=
 (Bb vQ)
def uT:b8:=aV 2 2 BV
def ir:ap:=
 (ax (aA cr (ak al (aa 3)<|fC<|.l 0)<|fC<|.p "move") (D4 1 (aK<|aj (ak al (aa 3)<|fC<|.l 1)<|aj (ak al (aa 3)<|fC<|.l 2) ao)<|a0 uT<|aj (au 3)<|aj (au 4) ao) ba)
def wA:ap:=
 (eY (cT<|a0 cL<|aj (au 0) ao) (dO 3<|aL (ad 2)<|aL (ad 3)<|aL (ad 4) dU) ir)
def vC(o:ap):ap:=
 (aB (dW 1 vh)
 (aB o
 (jT<|QR<|aa 1)))
def Il:ap:=
 (vC wA)
def vW:b8:=aV 5 1 Il
def tW:bv:=
 (bU 1 [1] (cT<|a0 vW<|aj (au 0) ao) (ad 0) (aA cr (ak al (aa 0)<|fC<|.l 0)<|aa 1)<|au 0)
def De(o:bv):ap:=
 (jT o)
def Dr:ap:=
 (De tW)
def yo:b8:=aV 2 2 Dr
def mq:bv:=
 (aF bQ<|aj (ak al (aa 0)<|fC<|.l 2) ao)
def lZ:bv:=
 (bU 1 [] (cT<|aa 0) (ad 0) jn mq)
def uB(o:bv):ap:=
 (aU<|aF K3<|aj o ao)
def uo:ap:=
 (uB lZ)
def pK:b8:=aV 1 1 uo
def kW:bv:=
 (bU 2 [] (lC<|ak al (aa 0)<|fC<|.l 2) (dO 2<|aL (ad 0)<|aL (ad 1) dU) jn<|au 0)
def rN(o:bv):ap:=
 (aB (ax (aA cr (ak al (aa 0)<|fC<|.l 0)<|fC<|.p "end") (jT<|f9<|aj (ak al (aa 0)<|fC<|.l 1) ao) ba)
 (aB (ax (aA cr (ak al (aa 0)<|fC<|.l 0)<|fC<|.p "deal") (jT o) ba)
 (jT<|f9 ao)))
def rM:ap:=
 (rN kW)
def du:b8:=aV 1 1 rM
def vM:ap:=
 (aU<|DT (qj d3 (aF BZ<|aj (ak al (aa 0)<|fC<|.l 0) ao)<|fC<|.l 999999999999)<|qj d3 (ak al (aa 0)<|fC<|.l 1)<|fC<|.l 999)
def wg:ap:=
 vM
def sG:b8:=aV 1 1 wg
def nZ:bv:=
 (a0 FP<|aj (fC<|.w [(.l 0),(.l 1)])<|aj (au 0) ao)
def oh:bv:=
 (bU 1 [] (cT<|aa 0) (ad 0) jn nZ)
def vX(o:b8)(C:bv):ap:=
 (aU<|ZS (aF Wg<|aj C ao)<|qj cr (a0 o<|aj (au 0) ao)<|fC<|.w [(.l 1),(.l 1)])
def vK:ap:=
 (vX Gk oh)
def qT:b8:=aV 1 1 vK
end Pk
namespace Lw
open PySem L2 Hd F Pk
def nu:ap:=
 (aB (ax (aA lw (aa 1)<|aF bQ<|aj (aa 0) ao) (aU<|ak al (aa 0)<|aa 1) ba)
 (aU<|fC<|.l 0))
def nA:ap:=
 nu
def dw:b8:=aV 2 2 nA
def lX:oa:=
 (aA gz (aa 3)<|fC<|.l 0)
def mL:ap:=
 (ER 2 3<|aj (au 3)<|aj (ak aR (aa 2)<|aa 3) ao)
def ql:ap:=
 (qw lX mL)
def uv(o:ap):ap:=
 (aB (aW 2<|aF BZ<|aj (aa 0) ao)
 (aB (aW 3<|au 1)
 (aB o
 (aU<|aK<|aj (ak bV (aa 0)<|aa 2)<|aj (ak bV (aa 1)<|aa 2) ao))))
def uz:ap:=
 (uv ql)
def cO:b8:=aV 4 2 uz
def jC:ap:=
 (aB (cR 4<|ak aR (aa 0)<|fC<|.l 36)
 (aW 0<|ak bV (aa 0)<|fC<|.l 36))
def pH:ap:=
 (eY (yH<|aj (aa 3) ao) (ad 5) jC)
def pI:bv:=
 (ak al (aa 1)<|aa 0)
def pA:bv:=
 (bU 1 [2] (cT<|aa 4) (ad 0) jn pI)
def lK:bv:=
 (gl (ak VL (fC<|.l 8)<|aa 1) gp<|f5<|aa 0)
def pB:bv:=
 (bU 1 [6] (Ug<|aj (fC<|.l 1)<|aj (fC<|.l 9) ao) (ad 0) jn lK)
def jF:ap:=
 (aB (aW 9<|ak al (aa 2)<|ak aR (ak bD (ak al (aa 4)<|aa 7)<|ak iJ (fC<|.l 4)<|aa 5)<|fC<|.l 36)
 (cR 8<|ak bD (ak bD (gl (aa 6) gp<|f5<|aa 7)<|aa 9)<|gl (aa 6) (f5<|ak bD (aa 7)<|fC<|.l 1) gp))
def uq:ap:=
 (eY (yH<|aj (fC<|.l 8) ao) (ad 5) jF)
def m6(o:ap)(J:bv)(I:bv)(C:ap):ap:=
 (aB (aW 2<|fC<|.p "abcdefghijklmnopqrstuvwxyz0123456789")
 (aB (aW 3<|ak bD (fC<|.l 1)<|ak aR (aa 0)<|fC<|.l 8)
 (aB (aW 0<|ak bV (aa 0)<|fC<|.l 8)
 (aB (dW 4<|f9 ao)
 (aB o
 (aB (aW 6<|Ur "str" Jf (fC<|.p "") (aj J ao))
 (aB (ax (aA cr (ak aR (ak bV (aa 1)<|fC<|.l 8)<|fC<|.l 3)<|fC<|.l 1) (jT I) ba)
 (aB (aW 7<|ak aR (aa 1)<|aa 3)
 (aB (dW 8<|f9 ao)
 (aB C
 (uU 8)))))))))))
def Eg:ap:=
 (m6 pH pA pB uq)
def tU:b8:=aV 10 2 Eg
def qP(o:b8):ap:=
 (aB (ax (aA cr (ak aR (aa 0)<|fC<|.l 8)<|fC<|.l 3) (aU<|a0 o<|aj (ak eE (ak aR (ak iJ (aa 0)<|fC<|.l 48271)<|fC<|.l 1999999999999)<|fC<|.l 999999999999)<|aj (ak bD (fC<|.l 1)<|ak aR (ak bV (aa 0)<|fC<|.l 8)<|fC<|.l 999) ao) ba)
 (aU<|a0 o<|aj (ak eE (ak aR (ak bV (aa 0)<|fC<|.l 8)<|fC<|.l 13)<|fC<|.l 6)<|aj (ak bD (fC<|.l 1)<|ak aR (ak bV (aa 0)<|fC<|.l 104)<|fC<|.l 3) ao))
def qR:ap:=
 (qP cO)
def bY:b8:=aV 1 1 qR
def fJ:ap:=
 (aB (cR 2<|ak bD (ak bD (fC<|.l 1)<|ak aR (aa 0)<|fC<|.l 4)<|ak iJ (ak bV (ak aR (ak bV (aa 0)<|fC<|.l 4)<|fC<|.l 8)<|fC<|.l 7)<|ak aR (ak bV (aa 0)<|fC<|.l 32)<|fC<|.l 200)
 (aW 0<|ak aR (ak iJ (aa 0)<|fC<|.l 48271)<|fC<|.l 2147483647))
def jB:ap:=
 (eY (yH<|aj (aa 1) ao) (ad 3) fJ)
def mJ:bv:=
 (a0 cO<|aj (au 0)<|aj (aF K3<|aj (aa 1) ao) ao)
def mz:bv:=
 (bU 1 [2] (cT<|aa 2) (ad 0) jn mJ)
def pN(o:ap)(C:bv):ap:=
 (aB (dW 2<|f9 ao)
 (aB o
 (jT C)))
def yS:ap:=
 (pN jB mz)
def pF:b8:=aV 4 2 yS
def zE:ap:=
 (aU<|ak aR (ak iJ (ak bD (ak aR (aa 0)<|fC<|.l 2147483647)<|fC<|.l 1)<|ak bD (fC<|.l 48271)<|ak iJ (fC<|.l 7)<|aa 1)<|fC<|.l 2147483647)
def zy:ap:=
 zE
def dC:b8:=aV 2 2 zy
def jo:ap:=
 (aB (aW 5<|aK<|aj (au 1)<|aj (au 2)<|aj (au 3)<|aj (au 4) ao)
 (aB (ax (aA Ep (aa 5)<|Sd 6<|ak fV (aa 0)<|fC<|.p "names") (aB (HY 6 (ak fV (aa 0)<|fC<|.p "names") (au 5)<|ak al (Sd 7<|ak fV (aa 0)<|fC<|.p "many")<|ak eE (aa 1)<|fC<|.l 1)
 (CJ 7 (ak fV (aa 0)<|fC<|.p "many") (ak eE (aa 1)<|fC<|.l 1)<|ak bD (ak al (Sd 7<|ak fV (aa 0)<|fC<|.p "many")<|ak eE (aa 1)<|fC<|.l 1)<|fC<|.l 1)) ba)
 (aU<|ak Aw (Sd 6<|ak fV (aa 0)<|fC<|.p "names")<|aa 5)))
def jl:ap:=
 jo
def d7:List D->D->Addr×D->Addr×D->bd (D×D×D×D):=eA 0 8 5 jl
def iz(o:List D->D->Addr×D->Addr×D->bd (D×D×D×D)):ap:=
 (aB (aW 12<|ak al (aa 8)<|ak aR (ak bD (ak bD (ak iJ (fC<|.l 3)<|aa 7)<|aa 11)<|ak bV (ak fV (aa 1)<|fC<|.p "turn")<|fC<|.l 8)<|fC<|.l 8)
 (aB (dW 13<|aF yU<|aj (aa 3) ao)
 (aB (eX 13 (ak eE (aa 5)<|fC<|.l 1)<|ak bD (ak al (aa 13)<|ak eE (aa 5)<|fC<|.l 1)<|aK<|aj (aK<|aj (au 9)<|aj (au 12) ao) ao)
 (Z3 13<|vg 10<|JS<|xN (fX<|au 12)<|xN (zJ o 1 1 14 15<|aj (au 0)<|aj (ak eE (aa 2)<|fC<|.l 1)<|aj (au 13) ao) Jq))))
def lQ(o:List D->D->Addr×D->Addr×D->bd (D×D×D×D)):ap:=
 (eY (yH<|aj (aa 6) ao) (ad 11)<|iz o)
def nj(C:b8)(o:List D->D->Addr×D->Addr×D->bd (D×D×D×D))(I:ap):ap:=
 (aB (aW 5<|ak bD (fC<|.l 1)<|ak aR (aa 4)<|fC<|.l 2)
 (aB (aW 6<|ak bD (fC<|.l 1)<|ak aR (ak bV (aa 4)<|fC<|.l 16)<|fC<|.l 3)
 (aB (wF 7<|zJ o 1 0 14 15<|aj (au 5)<|aj (ak al (aa 3)<|ak eE (aa 5)<|fC<|.l 1)<|aj (au 6)<|aj (ak aR (ak bV (aa 4)<|fC<|.l 48)<|fC<|.l 2) ao)
 (aB (ax (aA lx (aa 7)<|fC<|.l 8) (aU<|aK<|aj (fC<|.p "end")<|aj (a0 C<|aj (au 4) ao) ao) ba)
 (aB (oH 1 (fC<|.p "room")<|ak eE (ak fV (aa 1)<|fC<|.p "room")<|aa 6)
 (aB (aW 8<|ak fV (aa 1)<|fC<|.p "pool")
 (aB (aW 9<|ak al (aa 8)<|ak aR (ak bD (aa 7)<|ak fV (aa 1)<|fC<|.p "turn")<|fC<|.l 8)
 (aB (dW 10<|f9 ao)
 (aB I
 (aU<|aK<|aj (fC<|.p "move")<|aj (au 5)<|aj (au 9)<|aj (aF dR<|aj (aa 10) ao) ao))))))))))
def pY(o:List D->D->Addr×D->Addr×D->bd (D×D×D×D)):List D->D->Addr×D->Addr×D->bd (D×D×D×D):=eA 1 16 5<|(nj bY d7<|lQ o)
def j8(Φ:List D->D->Addr×D->Addr×D->bd (D×D×D×D)):ap:=
 (vg 8<|JS<|xN (fX<|au 9)<|xN (zJ Φ 1 1 10 11<|aj (au 0)<|aj (ak eE (aa 2)<|fC<|.l 1)<|aj (au 3) ao) Jq)
def gM(Φ:List D->D->Addr×D->Addr×D->bd (D×D×D×D)):ap:=
 (eY (cT<|a0 pF<|aj (au 5)<|aj (au 7) ao) (ad 9)<|j8 Φ)
def fW(C:b8)(o:b8)(I:List D->D->Addr×D->Addr×D->bd (D×D×D×D))(J:ap):ap:=
 (aB (aW 4<|ak fV (aa 1)<|fC<|.p "at")
 (aB (oH 1 (fC<|.p "at")<|ak bD (aa 4)<|fC<|.l 1)
 (aB (ax (aA lx (aa 4)<|aF bQ<|aj (aa 0) ao) (aU<|aK<|aj (fC<|.p "end")<|aj (a0 C<|aj (a0 o<|aj (ak bD (ak al (aa 0)<|lm vV<|fC<|.l 1)<|ak iJ (aa 4)<|aa 4)<|aj (au 4) ao) ao) ao) ba)
 (aB (aW 5<|a0 o<|aj (ak al (aa 0)<|aa 4)<|aj (au 4) ao)
 (aB (aW 6<|au 5)
 (aB (ax (dt<|ak fV (aa 1)<|fC<|.p "level") (aW 6<|ak bD (ak eE (aa 5)<|ak aR (aa 5)<|fC<|.l 48)<|ak aR (a0 o<|aj (ak al (aa 0)<|ak aR (aa 2)<|aF bQ<|aj (aa 0) ao)<|aj (au 2) ao)<|fC<|.l 48) ba)
 (aB (ax (iI (aA cr (aa 2)<|fC<|.l 0)<|iI (aA lw (ak fV (aa 1)<|fC<|.p "room")<|fC<|.l 3)<|cz (aA cr (ak aR (aa 6)<|fC<|.l 8)<|fC<|.l 0)<|aA d3 (aa 4)<|fC<|.l 0) (aU<|aK<|aj (fC<|.p "end")<|aj (a0 C<|aj (au 5) ao) ao) ba)
 (aB (ax (aA d3 (ak aR (aa 6)<|fC<|.l 8)<|fC<|.l 2) (zH<|zJ (pY I) 1 1 10 11<|aj (au 0)<|aj (au 2)<|aj (au 3)<|aj (au 6) ao) ba)
 (aB (aW 7<|ak bD (fC<|.l 1)<|ak aR (ak bV (aa 6)<|fC<|.l 16)<|fC<|.l 3)
 (aB (oH 1 (fC<|.p "room")<|ak eE (ak fV (aa 1)<|fC<|.p "room")<|aa 7)
 (aB (dW 8<|f9 ao)
 (aB J
 (aU<|aK<|aj (fC<|.p "deal")<|aj (ak al (ak fV (aa 1)<|fC<|.p "pool")<|ak aR (ak bV (aa 5)<|fC<|.l 48)<|fC<|.l 8)<|aj (aF dR<|aj (aa 8) ao) ao)))))))))))))
def bz:Nat->List D->D->Addr×D->Addr×D->bd (D×D×D×D)
 |0=>λ_ _ _ _=>.b
 |n+1=>eA 1 12 4
   (fW bY dC (bz n)<|gM<|bz n)
def ug(o:List D->D->Addr×D->Addr×D->bd (D×D×D×D)):ap:=
 (ID 5 6 7 [((fC<|.p "at"),(fC<|.l 0)),((fC<|.p "room"),(au 3))] (fC<|.p "names") vh (fC<|.p "many") (f9<|aj (fC<|.l 0)<|aj (fC<|.l 0) ao) [((fC<|.p "pool"),(au 4))]
 (aB (oH 5 (fC<|.p "turn")<|ak aR (aa 1)<|fC<|.l 64)
 (aB (oH 5 (fC<|.p "level")<|qj cr (ak aR (ak bV (aa 1)<|fC<|.l 64)<|fC<|.l 2)<|fC<|.l 1)
 (zH<|zJ o 5 1 6 7<|aj (au 0)<|aj (au 2)<|aj (f9<|aj (aK ao)<|aj (aK ao) ao) ao))))
def Ei:ap:=
 (ug<|bz 13)
def tY:b8:=aV 8 5 Ei
def mH:bv:=
 (aK<|aj (au 1)<|aj (au 2) ao)
def mC:bv:=
 (bU 2 [5] (lC<|ak al (aa 4)<|fC<|.l 2) (dO 2<|aL (ad 0)<|aL (ad 1) dU) jn mH)
def gV:ap:=
 (aB (dW 9<|aF yU<|aj (aa 5) ao)
 (aB (eX 9 (ak eE (ak al (aa 4)<|fC<|.l 1)<|fC<|.l 1)<|ak bD (ak al (aa 9)<|ak eE (ak al (aa 4)<|fC<|.l 1)<|fC<|.l 1)<|aK<|aj (aK<|aj (ak al (aa 4)<|fC<|.l 2)<|aj (au 7) ao) ao)
 (cR 6<|aK<|aj (au 8)<|aj (aF dR<|aj (aa 9) ao) ao)))
def mF:ap:=
 (eY (lC<|ak al (aa 4)<|fC<|.l 3) (dO 2<|aL (ad 7)<|aL (ad 8) dU) gV)
def jA:ap:=
 (cR 2<|aK<|aj (ak bD (aa 3)<|aK<|aj (au 10) ao)<|aj (ak al (ak al (aa 6)<|aa 10)<|fC<|.l 0)<|aj (ak al (ak al (aa 6)<|aa 10)<|fC<|.l 1) ao)
def lY:ap:=
 (eY (D5<|aj (ak eE (aF bQ<|aj (aa 6) ao)<|fC<|.l 1)<|aj (lm vV<|fC<|.l 1)<|aj (lm vV<|fC<|.l 1) ao) (ad 10) jA)
def jz:oa:=
 (aA d3 (aF bQ<|aj (aa 2) ao)<|fC<|.l 0)
def fO:ap:=
 (aB (Og (PJ 2)<|dO 3<|aL (ad 3)<|aL (ad 4)<|aL (ad 5) dU)
 (aB (cR 1<|aK<|aj (au 3)<|aj (au 4)<|aj (au 5) ao)
 (aB (dW 6<|f9 ao)
 (aB (ax (aA cr (ak al (aa 4)<|fC<|.l 0)<|fC<|.p "deal") (dW 6 mC) ba)
 (aB (ax (aA cr (ak al (aa 4)<|fC<|.l 0)<|fC<|.p "move") mF ba)
 lY)))))
def wJ:ap:=
 (qw jz fO)
def pG(o:ap):ap:=
 (aB (dW 1<|f9 ao)
 (aB (dW 2<|f9<|aj (aK<|aj (aK ao)<|aj (au 0)<|aj (aK<|aj (aK ao)<|aj (aK ao) ao) ao) ao)
 (aB o
 (uU 1))))
def zg:ap:=
 (pG wJ)
def gC:b8:=aV 11 1 zg
def nP:bv:=
 (bU 2 [] (lC<|ak al (aa 4)<|fC<|.l 3) (dO 2<|aL (ad 0)<|aL (ad 1) dU) jn<|au 0)
def dH:ap:=
 (ax (cz (aA cr (ak al (aa 4)<|fC<|.l 0)<|fC<|.p "move")<|aA Ep (aK<|aj (ak al (aa 4)<|fC<|.l 1)<|aj (ak al (aa 4)<|fC<|.l 2) ao)<|aa 2) (aB (JK 2 (aK<|aj (ak al (aa 4)<|fC<|.l 1)<|aj (ak al (aa 4)<|fC<|.l 2) ao)<|fC<|.B true)
 (aB (aW 6<|aF dR<|aj nP ao)
 (cR 1<|aK<|aj (ak al (aa 4)<|fC<|.l 1)<|aj (ak al (aa 4)<|fC<|.l 2)<|aj (au 6)<|aj (ak al (aa 5)<|ak eE (ak al (aa 4)<|fC<|.l 1)<|fC<|.l 1) ao))) ba)
def nF:ap:=
 (eY (cT<|a0 gC<|aj (au 0) ao) (dO 3<|aL (ad 3)<|aL (ad 4)<|aL (ad 5) dU) dH)
def vR(o:ap):ap:=
 (aB (dW 1<|f9 ao)
 (aB (dW 2 vh)
 (aB o
 (uU 1))))
def vP:ap:=
 (vR nF)
def oF:b8:=aV 7 1 vP
def w6:ap:=
 (aU<|xP "str" (aa 0))
def xO:ap:=
 w6
def iU:b8:=aV 1 1 xO
def jx:ap:=
 (ax (iI (gq<|dt<|xP "tuple" (aa 1))<|iI (aA gz (aF bQ<|aj (aa 1) ao)<|fC<|.l 2)<|iI (gq<|dt<|a0 iU<|aj (ak al (aa 1)<|fC<|.l 0) ao)<|gq<|dt<|a0 iU<|aj (ak al (aa 1)<|fC<|.l 1) ao) (aU<|fC<|.B false) ba)
def mW:ap:=
 (eY (lC<|au 0) (ad 1) jx)
def o8(o:ap):ap:=
 (aB (ax (gq<|dt<|xP "tuple" (aa 0)) (aU<|fC<|.B false) ba)
 (aB o
 (aU<|fC<|.B true)))
def pq:ap:=
 (o8 mW)
def kO:b8:=aV 2 1 pq
def jL:bv:=
 (a0 iU<|aj (au 0) ao)
def jJ:bv:=
 (bU 1 [] (lC<|ak al (aa 1)<|fC<|.l 2) (ad 0) jn jL)
def jM:ap:=
 (aB (ax (iI (gq<|dt<|xP "tuple" (aa 1))<|iI (aA gz (aF bQ<|aj (aa 1) ao)<|fC<|.l 4)<|iI (gq<|dt<|xP "int" (ak al (aa 1)<|fC<|.l 0))<|dt<|xP "bool" (ak al (aa 1)<|fC<|.l 0)) (aU<|fC<|.B false) ba)
 (aB (ax (iI (gq<|dt<|a0 iU<|aj (ak al (aa 1)<|fC<|.l 1) ao)<|iI (gq<|dt<|xP "tuple" (ak al (aa 1)<|fC<|.l 2))<|gq<|dt<|a0 kO<|aj (ak al (aa 1)<|fC<|.l 3) ao) (aU<|fC<|.B false) ba)
 (ax (gq<|dt<|aF Wg<|aj jJ ao) (aU<|fC<|.B false) ba)))
def nU:ap:=
 (eY (cT<|au 0) (ad 1) jM)
def qF(o:ap):ap:=
 (aB (ax (gq<|dt<|xP "list" (aa 0)) (aU<|fC<|.B false) ba)
 (aB o
 (aU<|fC<|.B true)))
def qp:ap:=
 (qF nU)
def mK:b8:=aV 2 1 qp
end Lw
namespace Hd
noncomputable def gI(a b:Int):Int:=(xh a b:Nat)
theorem VM(C:0<=a)(o:0<b):gI b (a%b)=gI a b:=by
 unfold gI xh;have e:(a%b).natAbs=a.natAbs%b.natAbs:=by
  obtain⟨n,rfl⟩:=yY C;obtain⟨m,rfl⟩:=yY<|Int.le_of_lt o;rfl
 rw[e,CL _ b.natAbs,Nat.gcd_rec _ a.natAbs,CL]
theorem TQ(o:0<=a):gI a 0=a:=by
 unfold gI;rw[Int.gcd_zero_right]
 lia
theorem Z5 a b:gI (if a<0 then -a else a) (if b<0 then -b else b)=gI a b:=by
 unfold gI xh;have h:∀x,(if x<0 then -x else x).natAbs=x.natAbs:=λx=>by split<;>lia
 rw[h,h]
theorem L6 a b:0<=gI a b:=Int.natCast_nonneg _
theorem Nb(o:b≠0):0<gI a b:=by
 have:0<xh a b:=Nat.pos_of_ne_zero λh=>o (Int.gcd_eq_zero_iff.mp h).2
 unfold gI;omega
theorem T3 a b:gI a b ∣ a:=Int.gcd_dvd_left a b
theorem Hr a b:gI a b ∣ b:=Int.gcd_dvd_right a b
theorem Ic(o:b≠0):(gI a b).natAbs<=b.natAbs:=by
 have h:=kD.mpr<|Hr a b;exact B0 (by lia) h
def dv(t b:Int):Int:=if b<0 then -gI t b else gI t b
theorem Uh(o:b≠0):dv t b≠0:=by
 have:=Nb (a:=t) o
 unfold dv;split<;>lia
theorem Zk t b:(dv t b).natAbs=(gI t b).natAbs:=by unfold dv;split<;>lia
def lt(t b:Int):Int:=t.fdiv<|dv t b
def lb(t b:Int):Int:=b.fdiv<|dv t b
theorem Hs{q:Int}(hd:d≠0)(h:a=d*q):a.fdiv d=q:=by simp_all
theorem T0 t b:dv t b ∣ t:=by
 unfold dv;split
 .exact Int.neg_dvd.mpr<|T3 t b
 exact T3 t b
theorem XA t b:dv t b ∣ b:=by
 unfold dv;split
 .exact Int.neg_dvd.mpr<|Hr t b
 exact Hr t b
theorem nr(o:b≠0):dv t b*lt t b=t:=by
 obtain⟨q,a⟩:=T0 t b;have e:lt t b=q:=Hs (Uh o) a;rw[e];exact a.symm
theorem KQ(o:b≠0):dv t b*lb t b=b:=by
 obtain⟨q,a⟩:=XA t b;have e:lb t b=q:=Hs (Uh o) a;rw[e];exact a.symm
theorem Q4(o:b≠0):1<=lb t b:=by
 have e:=KQ (t:=t) o;have g:=Nb (a:=t) o;by_cases h:lb t b<=0
 .exfalso;unfold dv at e;split at e
  .have:0<=-gI t b*lb t b:=Int.mul_nonneg_of_nonpos_of_nonpos (by lia) h
   lia
  have:gI t b*lb t b<=0:=Int.mul_nonpos_of_nonneg_of_nonpos (by lia) h
  lia
 lia
theorem TM(o:b≠0):gI (lt t b) (lb t b)=1:=by
 have d:=nr (t:=t) o;have e:=KQ (t:=t) o;have g:=Nb (a:=t) o;have q:gI t b=(dv t b).natAbs*gI (lt t b) (lb t b):=by
  have:xh _ _=(dv t b).natAbs*xh (lt t b) (lb t b):=Int.gcd_mul_left ..
  rw[d,e] at this;unfold gI;rw[this];push_cast;rfl
 have c:((dv t b).natAbs)=gI t b:=by rw[Zk];have:=L6 t b;lia
 rw[c] at q;have h:gI t b*gI (lt t b) (lb t b)=gI t b*1:=by rw[C4];exact q.symm
 exact Int.eq_of_mul_eq_mul_left (by lia) h
theorem WN(o:b≠0):lt t b*b=t*lb t b:=by
 have c:=nr (t:=t) o;have a:=KQ (t:=t) o
 calc lt t b*b=lt t b*(dv t b*lb t b):=by rw[a]
  _=(dv t b*lt t b)*lb t b:=by rw[<-ng,mB _<|dv t b]
  _=t*lb t b:=by rw[c]
theorem Is(o:b≠0):(lt t b).natAbs<=t.natAbs:=by
 have e:=nr (t:=t) o;have h:(lt t b).natAbs ∣ t.natAbs:=kD.mpr ⟨ _,by rw[mB];exact e.symm⟩;by_cases z:t=0
 .have:lt t b=0:=by
   have a:=e.trans z;rcases Int.mul_eq_zero.mp a with h|h
   .exact absurd h<|Uh o
   exact h
  rw[this];exact eK _
 exact B0 (by lia) h
theorem G5(o:b≠0):(lb t b).natAbs<=b.natAbs:=by
 have e:=KQ (t:=t) o;have h:(lb t b).natAbs ∣ b.natAbs:=kD.mpr ⟨ _,by rw[mB];exact e.symm⟩;exact B0 (by lia) h
theorem wI(c:xh p q=1)(h:q ∣ p*s):q ∣ s:=by
 have a:q.natAbs ∣ p.natAbs*s.natAbs:=by rw[<-A4];exact kD.mpr h
 have b:C7 q.natAbs p.natAbs:=by unfold C7;rw[CL];exact c
 exact kD.mp<|Nat.Coprime.dvd_of_dvd_mul_left b a
theorem Ra(I:1<=q)(J:1<=s)(C:gI p q=1)(o:gI r s=1)(h:p*s=r*q):p=r/\q=s:=by
 have c:xh p q=1:=by unfold gI at C;lia
 have d:xh r s=1:=by unfold gI at o;lia
 have b:q ∣ s:=by
  have:q ∣ p*s:=⟨r,by rw[h,mB]⟩
  exact wI c this
 have a:s ∣ q:=by
  have:s ∣ r*q:=⟨p,by rw[<-h,mB]⟩
  exact wI d this
 have e:q=s:=Int.dvd_antisymm (by lia) (by lia) b a;subst e;exact⟨vi (by lia) h,rfl⟩
theorem Lq{b:Int}(C:a.natAbs<2^m)(o:b.natAbs<2^n):(a*b).natAbs<2^(m+n):=by
 rw[A4,Nat.pow_add];exact Nat.mul_lt_mul'' C o
theorem jy(h:n<2^m)(hk:m<=k):n<2^k:=cf h<|jv (by decide) hk
theorem SD(o:u≠0)(C:1<=q)(g:gI p q=1)(h:t*q=p*u):lt t u=p/\lb t u=q:=by
 refine Ra (Q4 o) C (TM o) g ?_;have e:=WN (t:=t) o;have a:lt t u*q*u=p*lb t u*u:=by
  calc lt t u*q*u=lt t u*u*q:=by rw[ng,mB q u,<-ng]
   _=t*lb t u*q:=by rw[e]
   _=t*q*lb t u:=by rw[ng,mB _ q,<-ng]
   _=p*u*lb t u:=by rw[h]
   _=p*lb t u*u:=by rw[ng,mB u,<-ng]
 exact vi o a
abbrev Q2:=Int×Int
end Hd
namespace F
open PySem L2 Hd
@[simp] theorem XZ:aw=16777216:=by decide
theorem yL:∀{a b:List Char},a.map qE=b.map qE->a=b
 |[],[],_=>rfl
 |[],_::_,h=>by simp at h
 |_::_,[],h=>by simp at h
 |x::a,y::b,h=>by
  have c:x.toNat=y.toNat/\a.map qE=b.map qE:=by simpa using h
  rw[Char.toNat_inj.mp c.1,yL c.2]
@[simp] theorem YE:(dP a=dP b)↔a=b:=by
 constructor
 .intro h;rw[zv,zv] at h;have h2:=congrArg Str.cps h;have h3:a.toList.map qE=b.toList.map qE:=by simpa using congrArg zD h2
  exact String.toList_inj.mp<|yL h3
 intro h;rw[h]
mutual
def ef:D->Bool
 | .E|.B _|.l _=>true
 | .p x=>gE x
 | .w xs=>lG xs
 | .P xs=>lG xs
 | .A _ _ _|.L _ _|.F _ _|.Q _ _|.J _|.M _ _ _=>false
def lG:List D->Bool
 |[]=>true
 |x::xs=>ef x&&lG xs
end
mutual
def gJ:D->Nat
 | .E|.B _|.l _|.p _=>0
 | .w xs=>gY xs+1
 | .P xs=>gY xs+1
 | .A _ _ _|.L _ _|.F _ _|.Q _ _|.J _|.M _ _ _=>0
def gY:List D->Nat
 |[]=>0
 |x::xs=>max (gJ x)<|gY xs
end
mutual
theorem yd:∀d:D,ef d=true->∃p,cy d=some p/\p.canLay0=true/\p.depth=gJ d/\gi p p=true
 | .E,_=>⟨.none,by simp[cy],by simp[nL],by simp[sj,gJ],by simp[gi]⟩
 | .B b,_=>⟨.bool b,by simp[cy],by simp[nL],by simp[sj,gJ],by simp[gi]⟩
 | .l b,_=>⟨.int b,by simp[cy],by simp[nL],by simp[sj,gJ],by simp[gi]⟩
 | .p b,h=>⟨.str b,by simp[cy],by simpa[nL,ef] using h,by simp[sj,gJ],by simp[gi]⟩
 | .w xs,h=>by
  obtain⟨g,a,e,c,f⟩:=HF xs (by simpa[ef] using h);exact⟨.tuple g,by simp[cy,a],by simpa[nL] using e,by simp[sj,gJ,c],by simpa[gi] using f⟩
 | .P xs,h=>by
  obtain⟨g,a,e,c,f⟩:=HF xs (by simpa[ef] using h);exact⟨.list g,by simp[cy,a],by simpa[nL] using e,by simp[sj,gJ,c],by simpa[gi] using f⟩
 | .A _ _ _,h=>by simp[ef] at h
 | .L _ _,h=>by simp[ef] at h
 | .F _ _,h=>by simp[ef] at h
 | .J _,h=>by simp[ef] at h
 | .M _ _ _,h=>by simp[ef] at h
 | .Q _ _,h=>by simp[ef] at h
theorem HF:∀ds:List D,lG ds=true->∃o,m9 ds=some o/\x8 o=true/\AM o=gY ds/\kF o o=true
 |[],_=>⟨[],by simp[m9],by simp[x8],by simp[AM,gY],by simp[kF]⟩
 |d::ds,h=>by
  have a:ef d=true/\lG ds=true:=by simpa[lG] using h
  obtain⟨p,b,j,i,k⟩:=yd d a.1;obtain⟨o,c,e,g,f⟩:=HF ds a.2;exact⟨p::o,by simp[m9,b,c],by simp[x8,j,e],by simp[AM,gY,i,g],by simp[kF,k,f]⟩
end
theorem Er(h:ef d=true)(hd:gJ d<=64):mR d d=some true:=by
 refine ZB (yd d h) λp a b e c=>?_;unfold mR;rw[a]
 have:gv p=true:=by unfold gv;rw[b,decide_eq_true<|by omega];rfl
 simp[this,c]
theorem Ai(h:ef d=true)(hd:gJ d<=64):cr d d=some true:=by
 cases d with
 |E=>rfl
 |B b=>simp[cr]
 |l b=>simp[cr]
 |p b=>simp[cr]
 |w xs=>exact Er h hd
 |P xs=>exact Er h hd
 |A c _ _=>simp[ef] at h
 |L _ _=>simp[ef] at h
 |F _ _=>simp[ef] at h
 |J _=>simp[ef] at h
 |M _ _ _=>simp[ef] at h
 |Q _ _=>simp[ef] at h
@[simp] theorem YA i j:cr (.l i) (.l j)=some (decide<|i=j):=rfl
@[simp] theorem Yf i j:cr (.p i) (.p j)=some (decide<|i=j):=rfl
@[simp] theorem X1 i j:cr (.B i) (.B j)=some (decide<|i=j):=rfl
@[simp] theorem Ya i j:gz (.l i) (.l j)=some (!decide (i=j)):=rfl
@[simp] theorem X' i j:gz (.p i) (.p j)=some (!decide (i=j)):=rfl
@[simp] theorem X0 i j:gz (.B i) (.B j)=some (!decide (i=j)):=rfl
noncomputable def qD(d:Q2):D:=.w [.l d.1,.l d.2]
mutual
inductive Gm where
 |i (d:Q2)
 |f (n:Str) (ws:Ws)
 |m (s:Int) (n:Str) (ws:Ws)
inductive Ws where
 |f
 |e (l:D) (g:Gm) (r:Ws)
end
mutual
def dG:Gm->D
 | .i d=>.w [.p "end",qD d]
 | .f n ws=>.w [.p "deal",.p n,.w<|f6 ws]
 | .m s n ws=>.w [.p "move",.l s,.p n,.w<|f6 ws]
def f6:Ws->List D
 | .f=>[]
 | .e l g r=>.w [l,dG g]::f6 r
end
mutual
def dp:Gm->Nat
 | .i _=>0
 | .f _ ws=>j_ ws+1
 | .m _ _ ws=>j_ ws+1
def j_:Ws->Nat
 | .f=>0
 | .e _ g r=>max (dp g)<|j_ r
end
noncomputable def lV:Ws->Nat
 | .f=>0
 | .e _ _ r=>lV r+1
theorem pO:∀o,(f6 o).length=lV o
 | .f=>rfl
 | .e l g r=>by show(f6 r).length+1=_;rw[pO r];rfl
def Nm(n:Str):Prop:=gE n=true
mutual
def gP:Gm->Prop
 | .i _=>True
 | .f _ ws=>lV ws<=100/\Ac ws
 | .m _ _ ws=>lV ws<=100/\Ac ws
def Ac:Ws->Prop
 | .f=>True
 | .e _ g r=>gP g/\Ac r
end
def Es(zs:List Str):List Nat:=zs.flatMap λz=>z.cps.toList
theorem Xm:(dP "").cps=#[]:=by decide +kernel
theorem Sw:∀(zs) (acc),(zs.foldl (λacc p=>acc++(dP "").cps++p.cps) acc).toList=acc.toList++Es zs
 |[],acc=>by simp[Es]
 |z::zs,acc=>by
  rw[pS,Sw zs,Xm];simp[Es]
theorem XT  zs :(BY (dP "") zs).cps.toList=Es zs:=by
 show((zs.drop 1).foldl (λa p=>a++(dP "").cps++p.cps) _).toList=_;rw[Sw];cases zs with
 |nil=>simp[Es,C5]
 |cons z zs=>simp[Es]
theorem Ji:∀(zs) (n),zs.foldl (λn z=>n+z.length+(dP "").length) n=n+(Es zs).length
 |[],n=>by simp[Es]
 |z::zs,n=>by
  rw[pS,Ji zs]
  have:(dP "").length=0:=by decide +kernel
  rw[this];simp[Es,Str.length]
  lia
theorem o3(h:(Es zs).length<=16777216):DD (dP "") zs=true:=by
 unfold DD;rw[List.foldl_toArray,Ji];simp[Bn]
 omega
theorem WL cs:Es (cs.map λc=>(⟨#[c]⟩:Str))=cs:=by
 induction cs with
 |nil=>rfl
 |cons c cs ih=>simp[Es] at ih ⊢;exact ih
theorem Nx{cs:List Nat}(h:∀c∈cs,c<128):gE ⟨cs.toArray⟩=true:=by
 unfold gE;simp only[List.all_toArray,List.all_eq_true,decide_eq_true_eq];intro c a
 have:=h c a
 lia
theorem V9(h:f m=.R [.l j])(C:-1000000000<=j)(o:j<=1000000000):yH f m=.R ((dc j.toNat).map λ(i:Nat)=>D.l i):=by
 unfold yH;rw[h];show(if -(2^62)<=j/\j<2^62 then _ else _)=_;rw[if_pos ⟨by lia,by lia⟩]
theorem LJ(h:f m=.R [.l i,.l j])(J:-1000000000<=i)(I:i<=1000000000)(C:-1000000000<=j)(o:j<=1000000000):Ug f m=.R ((dc (j-i).toNat).map λ(k:Nat)=>D.l<|i+k):=by
 unfold Ug;rw[h];show(if -(2^62)<=i/\i<2^62/\-(2^62)<=j/\j<2^62 then _ else _)=_;rw[if_pos ⟨by lia,by lia,by lia,by lia⟩]
open PySem PySem.NumText
def tx(l:List Nat):Str:=⟨l.toArray⟩
theorem FQ l:(tx l).cps.toList=l:=rfl
theorem zF l:(tx l).length=l.length:=by rfl
theorem SM(h:x.cps.toList=l):x=tx l:=by
 cases x with
 |mk a=>subst h;unfold tx;simp
theorem RE a b:tx a++tx b=tx (a++b):=SM (by show(a.toArray++b.toArray).toList=_;simp)
theorem JA:tx a=tx b↔a=b:=⟨λh=>by have:=congrArg (λz:Str=>z.cps.toList) h;exact this,λh=>by rw[h]⟩
end F
namespace Pk
open PySem L2 Hd F
noncomputable def lR:Ws->List Gm
 | .f=>[]
 | .e _ g r=>g::lR r
def ec:Gm->List Gm
 | .i _=>[]
 | .f _ ws=>lR ws
 | .m _ _ ws=>lR ws
mutual
def b4:Gm->Nat
 | .i _=>1
 | .f _ ws=>gr ws+1
 | .m _ _ ws=>gr ws+1
def gr:Ws->Nat
 | .f=>0
 | .e _ g r=>b4 g+gr r
end
theorem vH g:1<=b4 g:=by cases g<;>simp[b4]
mutual
def gt:List Int->Gm->List (List Int×Gm)
 |w,.i d=>[(w,.i d)]
 |w,.f n ws=>(w,.f n ws)::i6 w 0 ws
 |w,.m s n ws=>(w,.m s n ws)::i6 w 0 ws
def i6:List Int->Nat->Ws->List (List Int×Gm)
 |_,_,.f=>[]
 |w,i,.e _ g r=>gt (w++[(i:Int)]) g++i6 w (i+1) r
end
def pD(p:List Int×Gm):D:=.w [.w<|p.1.map .l,dG p.2]
def bh(w:List Int)(g:Gm):List (List Int×Gm):=(ec g).zipIdx.map λp=>(w++[(p.2:Int)],p.1)
theorem Rm w:∀(i) (o),i6 w i o=(((lR o).zipIdx i).map λp=>(w++[(p.2:Int)],p.1)).flatMap λp=>gt p.1 p.2
 |i,.f=>rfl
 |i,.e l g r=>by
  show gt _ g++i6 w _ r=_;rw[Rm w _ r];rfl
theorem Qr w g:gt w g=(w,g)::(bh w g).flatMap λp=>gt p.1 p.2:=by
 cases g with
 |i d=>rfl
 |f n ws=>show(w,Gm.f n ws)::i6 w 0 ws=_;rw[Rm];rfl
 |m s n ws=>show(w,Gm.m s n ws)::i6 w 0 ws=_;rw[Rm];rfl
theorem Du:∀o,gr o=((lR o).map b4).sum
 | .f=>rfl
 | .e l g r=>by show b4 g+gr r=_;rw[Du r];rfl
theorem Zo g:b4 g=((ec g).map b4).sum+1:=by
 cases g with
 |i d=>rfl
 |f n ws=>show gr ws+1=_;rw[Du];rfl
 |m s n ws=>show gr ws+1=_;rw[Du];rfl
theorem jE:∀o,(lR o).length=lV o
 | .f=>rfl
 | .e l g r=>by show(lR r).length+1=_;rw[jE r];rfl
theorem zR:∀{o:Ws} {g:Gm},Ac o->g∈lR o->gP g
 | .e l k r,g,h,hg=>by
  rcases a9.mp hg with w|w
  .rw[w];exact h.1
  exact zR h.2 w
theorem Jj(h:gP g)(hk:k∈ec g):gP k/\(ec g).length<=100:=by
 cases g with
 |i d=>cases hk
 |f n ws=>exact⟨zR h.2 hk,by show(lR ws).length<=100;rw[jE];exact h.1⟩
 |m s n ws=>exact⟨zR h.2 hk,by show(lR ws).length<=100;rw[jE];exact h.1⟩
theorem Ad(h:gP g):(ec g).length<=100:=by
 cases g with
 |i d=>exact eK _
 |f n ws=>show(lR ws).length<=100;rw[jE];exact h.1
 |m s n ws=>show(lR ws).length<=100;rw[jE];exact h.1
theorem Dq:∀o,eZ (dO 2<|aL (ad 0)<|aL (ad 1) dU) jn (au 1) [.S,.S] (f6 o)=.R ((lR o).map dG)
 | .f=>rfl
 | .e l g r=>by
  have a:=Dq r;have e:au 1 [.f l,.f<|dG g]=.R _:=rfl;unfold f6 eZ;simp[dO,aL,ad,dU,jn,e,a,lR]
theorem MJ(q:Q [.f<|dG g]=.R (.P<|(ec g).map dG)\/ec g=[]/\∃d,g=.i d):aV 1 1 (jD Q) [dG g]=.R (true,.P<|(ec g).map dG):=by
 have i:∀a b:D,bS [a,b] 0=some a:=λ_ _=>rfl;have h:∀a b c:D,bS [a,b,c] 0=some a:=λ_ _ _=>rfl;have j:∀a b c d:D,bS [a,b,c,d] 0=some a:=λ_ _ _ _=>rfl;cases g with
 |i d=>simp[aV,jD,aB,ax,aA,ak,aa,fC,al,dG,i,jT,Me.V,Sl.V,f9,ao,ec]
 |f n ws=>
  rcases q with q|⟨_,d,e⟩
  .have f:=q;simp only[dG] at f;simp[aV,jD,aB,ax,aA,ak,aa,fC,al,dG,h,jT,Me.V,Sl.V,f,ba]
  cases e
 |m s n ws=>
  rcases q with q|⟨_,d,e⟩
  .have f:=q;simp only[dG] at f;simp[aV,jD,aB,ax,aA,ak,aa,fC,al,dG,j,jT,Me.V,Sl.V,f,ba]
  cases e
theorem Ef(h:gP g):lL [dG g]=.R (true,.P<|(ec g).map dG):=by
 have f:∀a b c:D,bS [a,b,c] (-1)=some c:=λ_ _ _=>rfl;have i:∀a b c d:D,bS [a,b,c,d] (-1)=some d:=λ_ _ _ _=>rfl;refine MJ ?_;cases g with
 |i d=>exact .inr ⟨rfl,d,rfl⟩
 |f n ws=>
  have e:(f6 ws).length<=16777216:=by rw[pO];have:=h.1;lia
  left;simp[mG,bU,lC,ak,aa,lm,vV,fC,al,dG,f,hH,e,Dq,ec]
 |m s n ws=>
  have e:(f6 ws).length<=16777216:=by rw[pO];have:=h.1;lia
  left;simp[mG,bU,lC,ak,aa,lm,vV,fC,al,dG,i,hH,e,Dq,ec]
theorem V1(ks:List Gm):Hk (ks.map dG)=ks.zipIdx.map λp=>D.w [.l (p.2:Int),dG p.1]:=by
 unfold Hk;rw[List.mapIdx_eq_zipIdx_map,List.zipIdx_map,fg];rfl
theorem gW:∀l:List α,(∀c∈l,∃m1,h (g c) m0=some m1/\ft m1=.R true/\fe m1=.R (f c))->eZ h ft fe m0 (l.map g)=.R (l.map f)
 |[],_=>rfl
 |d::ds,H=>by
  refine o5 (H d ai) λm1 b i e=>?_;have a:=gW ds λd hd=>H d<|af _ hd;unfold eZ;simp only[b,i,e,a,ar]
noncomputable def ot(st:List (List Int×Gm)):Nat:=(st.map λp=>b4 p.2).sum
theorem RA w g:ot (bh w g)+1=b4 g:=by
 rw[Zo];unfold ot bh;rw[fg];congr 2
 have:((λp:List _ ×Gm=>b4 p.2)∘λp:Gm×Nat=>(w++[(p.2:Int)],p.1))=b4∘B1:=rfl
 rw[this,<-fg,oo]
theorem S7:∀st,st.length<=ot st
 |[]=>eK _
 |p::st=>by
  have:=S7 st
  have:=vH p.2
  show st.length+1<=b4 _+ot st
  lia
theorem Vm a b:ot (a++b)=ot a+ot b:=by unfold ot;rw[bP,List.sum_append]
theorem Fe(I:t m=.R true)(C:b m=.R (.n,m'))(o:wh t b n m'=some r):wh t b (n+1) m=some r:=by
 unfold wh;rw[I,C];exact o
theorem Gh(o:t m=.R false):wh t b 1 m=some (.R (.n,m)):=by
 unfold wh;rw[o]
theorem K9(h:gP g)(o:w.length<=1000)(hz:done.length+st.length<=10000000):
  lM [a,.o<|.P<|done.map pD,.o<|.P<|(((w,g)::st).map pD).reverse,s3,s4]=.R (.n,[a,.o<|.P<|(done++[(w,g)]).map pD,.o<|.P<|((bh w g++st).map pD).reverse,.f<|pD (w,g),.f<|.P<|(bh w g).map pD]):=by
 have x:=Ad h;have c:(bh w g).length=(ec g).length:=by unfold bh;simp
 have q:∀j i s4,lW [a,j,i,.f<|pD (w,g),s4]=.R (.P<|(bh w g).map pD):=λj i s4=>(by
  have c:=Ef h;have x:=Ad h;have u:∀a b:D,bS [a,b] 0=some a:=λ_ _=>rfl;have k:∀a b:D,bS [a,b] 1=some b:=λ_ _=>rfl;have e:eZ (dO 2<|aL (ad 0)<|aL (ad 1) dU) jn pL [.S,.S,.f<|pD (w,g)] ((ec g).zipIdx.map λp=>D.w [.l (p.2:Int),dG p.1])=.R ((ec g).zipIdx.map λp=>pD (w++[(p.2:Int)],p.1)):=gW _ λp y=>by
   refine⟨ _,rfl,rfl,?_⟩;have hz:(w.map D.l).length+1<=16777216:=by rw[aE];lia
   have d:w.length+1<=16777216:=by lia
   simp[pL,aK,aj,ao,ak,aa,au,fC,al,pD,u,bD,d]
  have hz:(ec g).length<=16777216:=by lia
  have v:((bh w g).map pD)=(ec g).zipIdx.map λp=>pD (w++[(p.2:Int)],p.1):=by unfold bh;rw[fg];rfl
  rw[v];simp only[pD] at e ⊢;simp[lW,bU,ET,aj,ao,a0,ak,aa,fC,al,k,c,V1,hH,Sl.c,hz,e]);have t:((st.map pD).reverse++[pD (w,g)]).length-1=(st.map pD).reverse.length:=by simp
 have z:((st.map pD).reverse++[pD (w,g)])[((st.map pD).reverse++[pD (w,g)]).length-1]? = some (pD (w,g)):=by rw[t];simp
 have A:((st.map pD).reverse++[pD (w,g)]).dropLast=(st.map pD).reverse:=List.dropLast_concat;have r:done.length<16777216:=by lia
 have l:st.length+(bh w g).length<=16777216:=by rw[c];lia
 rw[ar,kS];generalize f:(st.map pD).reverse=S at *;have m:S.length=st.length:=by rw[<-f];simp
 have n:((bh w g++st).map pD).reverse=S++((bh w g).map pD).reverse:=by rw[bP,ua,f]
 rw[n];have s:(S++[pD (w,g)])[S.length]? = some (pD (w,g)):=by simp
 simp[lM,aB,Ms,oA,dk,cR,au,aW,q,Ln,aF,aj,ao,aa,EU,r,m,l]
theorem Uf(h:gP g):∀p∈bh w g,gP p.2/\p.1.length=w.length+1:=λp a=>by
 refine oj (d4.mp a) λq b zq2=>?_;subst zq2
 have:q.1∈ec g:=by have:=oq (f:=B1) b;rwa [oo] at this
 exact⟨(Jj h this).1,by simp⟩
theorem Ve(hk:k∈ec g):dp k<dp g:=by
 have b:∀{a:Ws},k∈lR a->dp k<=j_ a:=by
  intro a;refine Ws.rec (motive_1:=λ_=>True) (motive_2:=λa=>k∈lR a->dp k<=j_ a) (λ_=>trivial) (λ_ _ _=>trivial) (λ_ _ _ _=>trivial) ?_ ?_ a
  .intro h;cases h
  intro l g r _ ih h;rcases a9.mp h with w|w
  .rw[w];exact Nat.le_max_left _ _
  exact dS (ih w)<|Nat.le_max_right _ _
 cases g with
 |i d=>cases hk
 |f n a=>exact Nat.lt_succ_of_le (b hk)
 |m s n a=>exact Nat.lt_succ_of_le (b hk)
theorem L7:∀p∈bh w g,dp p.2<dp g:=λp a=>by
 refine oj (d4.mp a) λq b zq2=>?_;subst zq2
 have:q.1∈ec g:=by have:=oq (f:=B1) b;rwa [oo] at this
 exact Ve this
theorem Gn a:∀(N) (done st) (s3 s4),ot st=N->(∀p∈st,gP p.2/\p.1.length+dp p.2<=100)->done.length+ot st<=10000000->
  ∃k C o,wh lO lM k [a,.o<|.P<|done.map pD,.o<|.P<|(st.map pD).reverse,s3,s4]=some (.R (.n,[a,.o<|.P<|(done++st.flatMap λp=>gt p.1 p.2).map pD,.o<|.P [],C,o])):=by
 intro N;induction N using ub with
 |_ N ih=>
  intro done st s3 s4 m b n;cases st with
  |nil=>
   refine⟨1,s3,s4,?_⟩;simp only[vF,List.reverse_nil,sC,c9];exact Gh<|by simp[lO,aA,aF,bQ,aj,ao,aa,fC,d3]
  |cons p st=>
   obtain⟨w,g⟩:=p;have c:gP g/\w.length+dp g<=100:=b (w,g) (by simp);have sb:=RA w g;have d:ot ((w,g)::st)=b4 g+ot st:=rfl;have r:=S7 st;have q:=vH g;obtain⟨k,h,j,e⟩:=ih _ (by rw[Vm];lia) (done++[(w,g)]) (bh w g++st) _ (.f<|.P<|(bh w g).map pD) rfl (λp f=>by
    rcases bE.mp f with v|v
    .have i:=Uf c.1 p v;have s:=L7 p v;exact⟨i.1,by lia⟩
    exact b p<|by simp[v]) (by rw[Vm,bq];simp;lia)
   refine⟨k+1,h,j,?_⟩;have l:done++((w,g)::st).flatMap (λp=>gt p.1 p.2)=done++[(w,g)]++(bh w g++st).flatMap λp=>gt p.1 p.2:=by
    rw[qS,Bz,Qr]
    simp
   rw[l];refine Fe ?_ (K9 c.1 (by lia)<|by lia) e;simp[lO,aA,aF,bQ,aj,ao,aa,fC,d3]
theorem QT(e:L [.f d,.o<|.P [],.o<|.P [.w [.w [],d]],.S,.S]=.R (.n,[.f d,.o<|.P ps,.o<|.P [],s3,s4])):aV 5 1 (tH L) [d]=.R (true,.P ps):=by
 simp[aV,tH,aB,dW,f9,aj,ao,aK,au,e,uU]
theorem h8(h:gP g)(hd:dp g<=50)(hz:b4 g<=10000000):kh [dG g]=.R (true,.P<|(gt [] g).map pD):=by
 obtain⟨k,c,b,e⟩:=Gn _ _ [] [([],g)] _ _ rfl (λp d=>by rw[cS.mp d];exact⟨h,by simp;lia⟩) (by show 0+(b4 g+0)<=_;lia);have a:=yr k e;simp only[tf,qS,sC,c9] at a;exact QT a
noncomputable def kw(w:List Int):List Kt:=w.map λi=>.k<|.inl i
theorem Ld:∀{v w:List Int},kw v=kw w->v=w
 |[],[],_=>rfl
 |[],_::_,h=>by cases h
 |_::_,[],h=>by cases h
 |a::v,b::w,h=>by
  have h:(Kt.k (.inl a):Kt)::kw v=Kt.k (.inl b)::kw w:=h;injection h with c d
  injection c with c
  injection c with c
  rw[c,Ld d]
theorem GB:∀w,pM (hP 7) (w.map D.l)=some (kw w)
 |[]=>rfl
 |a::w=>by
  show((hP 7<|.l a).bind λk=>(pM _<|w.map _).map λb=>k::b)=_;rw[GB w];rfl
theorem EV w:wL (.w<|w.map D.l)=some (kw w):=GB w
theorem Qi:∀{ks:List (List Kt)} {ds:List D},ks.length=ds.length->k∈ks->cG ks (yJ ks ds k d) k'=if k=k' then some d else cG ks ds k'
 |[],_,_,h=>by cases h
 |a::ks,[],h,_=>by simp at h
 |a::ks,x::ds,h,hk=>by
  have g:ks.length=ds.length:=by simpa using h
  unfold yJ cG;by_cases f:a=k'
  .rw[if_pos f,if_pos f];by_cases c:a=k
   .rw[if_pos c,if_pos<|c▸f]
   rw[if_neg c,if_neg λe=>c<|by rw[f,e]]
  rw[if_neg f,if_neg f];by_cases c:k∈ks
  .exact Qi g c
  have j:a=k:=by
   rcases a9.mp hk with e|e
   .exact e.symm
   exact absurd e c
  have l:k≠k':=λe=>f (by rw[j,e]);rw[if_neg l];have e:∀{ks:List _} {ds:List D},k∉ks->ks.length=ds.length->yJ ks ds k d=ds:=by
   intro ks;induction ks with
   |nil=>intro ds _ g;cases ds with
    |nil=>rfl
    |cons _ _=>simp at g
   |cons b ks ih=>intro ds i g;cases ds with
    |nil=>simp at g
    |cons y ds=>
     unfold yJ;rw[if_neg λ(e:b=k)=>i<|e▸ai,ih (λe=>i<|af _ e)<|by simpa using g]
  rw[e c g]
theorem Ua:∀{ks:List (List Kt)} {ds:List D},ks.length=ds.length->k∉ks->cG (ks++[k]) (ds++[d]) k'=if k=k' then some d else cG ks ds k'
 |[],[],_,_=>by simp[cG]
 |[],_::_,h,_=>by simp at h
 |a::ks,[],h,_=>by simp at h
 |a::ks,x::ds,h,hk=>by
  have c:=Ua (k':=k') (d:=d) (by simpa using h) λe=>hk<|af _ e;have f:a≠k:=λe=>hk<|e▸ai;show cG (a::(ks++[k])) (x::(ds++[d])) k'=_;unfold cG;rw[c];by_cases b:a=k'
  .rw[if_pos b,if_neg λe=>f (by rw[b,e]),if_pos b]
  rw[if_neg b,if_neg b]
theorem KJ{ks:List (List Kt)}:ks.any (λx=>decide<|x=k)=true↔k∈ks:=by simp_all
theorem Nk:∀{ks:List (List Kt)} {ds:List D},ks.length=ds.length->(yJ ks ds k d).length=ks.length
 |[],[],_=>rfl
 |[],_::_,h=>by simp at h
 |a::ks,[],h=>by simp at h
 |a::ks,x::ds,h=>by
  have:=Nk (k:=k) (d:=d)<|by simpa using h
  simp[yJ,this]
theorem By(o:ks.length=ds.length):cG (mY ks ds k d).1 (mY ks ds k d).2 k'=if k=k' then some d else cG ks ds k':=by
 unfold mY;by_cases h:ks.any (λx=>decide<|x=k)=true
 .rw[if_pos h];exact Qi o<|KJ.mp h
 rw[if_neg h];exact Ua o λz=>h<|KJ.mpr z
theorem Lh(o:ks.length=ds.length):(mY ks ds k d).1.length=(mY ks ds k d).2.length/\(mY ks ds k d).1.length<=ks.length+1:=by
 unfold mY;by_cases h:ks.any (λx=>decide<|x=k)=true
 .rw[if_pos h];exact⟨(Nk o).symm,by simp⟩
 rw[if_neg h];exact⟨by simp[o],by simp⟩
theorem bC(C:h d m=some m1)(o:g m1=.R (.n,m2)):bF h g (d::ds) m=bF h g ds m2:=by
 rw[bF,C];simp only[o]
abbrev Rc:=List D×List D
noncomputable def cN(r:Rc):D:=.w [.w r.1,.w r.2]
noncomputable def f8(s:Int)(n:Str)(r:Rc)(l:D):Rc:=if s=1 then(r.1++[.w [.p n,l]],r.2) else(r.1,r.2++[.w [.p n,l]])
noncomputable def eU:Ws->List D
 | .f=>[]
 | .e l _ r=>l::eU r
def kz:Gm->Rc->D->Rc
 | .m s n _,r,l=>f8 s n r l
 |_,r,_=>r
noncomputable def Cw:Gm->Ws
 | .i _=>.f
 | .f _ ws=>ws
 | .m _ _ ws=>ws
mutual
def dL:List Int->Rc->Gm->List (List Int×Gm×Rc)
 |w,r,.i d=>[(w,.i d,r)]
 |w,r,.f n ws=>(w,.f n ws,r)::g6 w (λ_=>r) 0 ws
 |w,r,.m s n ws=>(w,.m s n ws,r)::g6 w (f8 s n r) 0 ws
def g6:List Int->(D->Rc)->Nat->Ws->List (List Int×Gm×Rc)
 |_,_,_,.f=>[]
 |w,f,i,.e l g r=>dL (w++[(i:Int)]) (f l) g++g6 w f (i+1) r
end
mutual
theorem Ib:∀(w:List Int) (r:Rc) (g:Gm),(dL w r g).map (λp=>(p.1,p.2.1))=gt w g
 |w,r,.i d=>rfl
 |w,r,.f n ws=>by
  show(w,Gm.f n ws)::(g6 w (λ_=>r) 0 ws).map _=(w,Gm.f n ws)::i6 w 0 ws;rw[RZ w _ 0 ws]
 |w,r,.m s n ws=>by
  show(w,Gm.m s n ws)::(g6 w (f8 s n r) 0 ws).map _=(w,Gm.m s n ws)::i6 w 0 ws;rw[RZ w _ 0 ws]
theorem RZ:∀(w:List Int) (f:D->Rc) (i:Nat) (o:Ws),(g6 w f i o).map (λp=>(p.1,p.2.1))=i6 w i o
 |w,f,i,.f=>rfl
 |w,f,i,.e l g r=>by
  show(dL (w++[(i:Int)]) (f l) g++g6 w f (i+1) r).map _=gt (w++[(i:Int)]) g++i6 w (i+1) r;rw[bP,Ib _ _ g,RZ w f (i+1) r]
end
def c8(p:List Int×Gm×Rc):D:=.w [.w<|p.1.map D.l,dG p.2.1,cN p.2.2]
theorem T4:∀(o) (k:Nat) (l),(eU o)[k]? = some l->∃g,(f6 o)[k]? = some (.w [l,g])
 | .f,k,l,h=>by simp[eU] at h
 | .e a g r,0,l,h=>by
  have:a=l:=by simpa[eU] using h
  exact⟨dG g,by simp[f6,this]⟩
 | .e a g r,k+1,l,h=>by
  obtain⟨x,e⟩:=T4 r k l (by simpa[eU] using h);exact⟨x,by simpa[f6] using e⟩
theorem oE:∀o,(eU o).length=lV o
 | .f=>rfl
 | .e _ _ r=>by simp[eU,lV,oE r]
theorem Na{k:Nat}(C:(eU<|Cw g)[k]? = some l)(J:gP g)(U:r.1.length<=1000/\r.2.length<=1000)(I:∀s n o,g=.m s n o->s=1\/s=2):
  gG [dG g,cN r,.l (k:Int)]=.R (false,cN<|kz g r l):=by
 have p:∀a b c:D,bS [a,b,c] 0=some a:=λ_ _ _=>rfl;have h:∀a b c d:D,bS [a,b,c,d] 0=some a:=λ_ _ _ _=>rfl;have f:∀a b c d:D,bS [a,b,c,d] 1=some b:=λ_ _ _ _=>rfl;have i:∀a b c d:D,bS [a,b,c,d] 2=some c:=λ_ _ _ _=>rfl;have m:∀a b c d:D,bS [a,b,c,d] 3=some d:=λ_ _ _ _=>rfl;have e:∀a b:D,bS [a,b] 0=some a:=λ_ _=>rfl;have j:∀a b:D,bS [a,b] 1=some b:=λ_ _=>rfl;cases g with
 |i d=>simp[Cw,eU] at C
 |f n o=>simp[gG,iY,iQ,aV,aB,ax,aA,ak,aa,fC,al,dG,p,aU,au,Me.V,Sl.V,kz]
 |m s n o=>
  obtain⟨y,t⟩:=T4 o k l C;have q:=v8 t;have v:r.1.length+1<=16777216:=by lia
  have u:r.2.length+1<=16777216:=by lia
  rcases I s n o rfl with rfl|rfl
  .simp[gG,iY,iQ,aV,aB,ax,aA,ak,aa,fC,al,dG,h,f,i,m,aU,au,Me.V,Sl.V,kz,ba,aW,aK,aj,ao,q,e,j,cN,bD,v,f8]
  simp[gG,iY,iQ,aV,aB,ax,aA,ak,aa,fC,al,dG,h,f,i,m,aU,au,Me.V,Sl.V,kz,ba,aW,aK,aj,ao,q,e,j,cN,bD,u,f8]
theorem ON w j:kw (w++[j])≠kw w:=λh=>by
 have:=Ld h
 simp at this
theorem OT(h:i≠j):kw (w++[i])≠kw (w++[j]):=λe=>h<|by simpa using Ld e
theorem W'{s5:Sl}{k:Nat}(o:cG ks ds (kw w)=some (cN r))(hk:(eU<|Cw g)[k]? = some l)(J:gP g)(U:r.1.length<=1000/\r.2.length<=1000)
  (C:∀s n I,g=.m s n I->s=1\/s=2) (hz:ks.length<=10000000) (hw:w.length<=1000):
  cX [g0,.o<|.F ks ds,s2,.f<|.w<|w.map D.l,.f<|dG g,.f<|.l (k:Int)]=.R (.n,[g0,.o<|.F (mY ks ds (kw<|w++[(k:Int)])<|cN<|kz g r l).1 (mY ks ds (kw<|w++[(k:Int)])<|cN<|kz g r l).2,s2,.f<|.w<|w.map D.l,.f<|dG g,.f<|.l (k:Int)]):=by
 have e:=Na hk J U C;have d:ks.length<16777216:=by lia
 have b:w.length+1<=16777216:=by lia
 have c:wL (.w<|w.map D.l++[.l (k)])=some (kw<|w++[(k:Int)]):=by
  rw[<-EV];simp
 have a:wL _=some _:=EV w;simp[cX,JK,a0,aj,ao,au,ak,aa,Aw,r_,a,o,e,yC,aK,bD,b,c,d,rC]
theorem NT(hg:gP g)(J:r.1.length<=1000/\r.2.length<=1000)(I:∀s n ws,g=.m s n ws->s=1\/s=2)(U:w.length<=1000):
  ∀(c i) (ks) (ds) (s5),i+c=(eU<|Cw g).length->ks.length=ds.length->cG ks ds (kw w)=some (cN r)->ks.length+c<=1000000->
   ∃o C s5',bF (ad 5) cX ((qV i c).map λ(k:Nat)=>D.l k) [g0,.o<|.F ks ds,s2,.f<|.w<|w.map D.l,.f<|dG g,s5]=.R (.n,[g0,.o<|.F o C,s2,.f<|.w<|w.map D.l,.f<|dG g,s5'])/\o.length=C.length/\o.length<=ks.length+c/\
    (∀j l,i<=j->(eU<|Cw g)[j]? = some l->cG o C (kw<|w++[(j:Int)])=some (cN<|kz g r l))/\(∀k',(∀j,i<=j->k'≠kw (w++[(j:Int)]))->cG o C k'=cG ks ds k')
 |0,i,ks,ds,s5,hc,hl,hv,hz=>⟨ks,ds,s5,rfl,hl,by lia,λj l p a=>by
   have:=(dn.mp a).1
   lia,λ_ _=>rfl⟩
 |c+1,i,ks,ds,s5,hc,hl,hv,hz=>by
  have z:i<(eU<|Cw g).length:=by lia
  obtain⟨l,f⟩:∃l,(eU<|Cw g)[i]? = some l:=⟨_,ay z⟩;have A:=W' (g0:=g0) (s2:=s2) (s5:=s5) hv f hg J I (by lia) U;have b:cG (mY ks ds (kw<|w++[(i:Int)])<|cN<|kz g r l).1 (mY ks ds (kw<|w++[(i:Int)])<|cN<|kz g r l).2 (kw w)=some (cN r):=by rw[By hl,if_neg<|ON w i];exact hv
  obtain⟨y,B⟩:=Lh (k:=kw<|w++[(i:Int)]) (d:=cN<|kz g r l) hl;refine Yw (NT (g0:=g0) (s2:=s2) (w:=w) (g:=g) (r:=r) hg J I U c (i+1) _ _ (.f<|.l (i:Int)) (by lia) y b<|by lia) λo C s5' e x E t m=>?_;refine⟨o,C,s5',?_,x,by lia,λj u p a=>?_,λk' h=>?_⟩
  .rw[l7,ar];rw[bC (m1:=[g0,.o<|.F ks ds,s2,.f<|.w<|w.map D.l,.f<|dG g,.f<|.l (i:Int)]) rfl A];exact e
  .by_cases q:i=j
   .subst q;rw[m _ λj v=>OT (by lia),By hl,if_pos rfl];rw[f] at a;cases a;rfl
   exact t j u (by lia) a
  rw[m k' λj v=>h j (by lia),By hl,if_neg λq=>h i (bb _) q.symm]
mutual
def lf:Gm->Prop
 | .i _=>True
 | .f _ ws=>sB ws
 | .m s _ ws=>(s=1\/s=2)/\sB ws
def sB:Ws->Prop
 | .f=>True
 | .e _ g r=>lf g/\sB r
end
abbrev u_:pv:=dO 2<|aL (ad 3)<|aL (ad 4) dU
theorem FJ g:ec g=lR (Cw g):=by cases g<;>rfl
theorem G8(hl:ks.length=ds.length)(J:cG ks ds (kw w)=some (cN r))(I:gP g)(hr:r.1.length<=1000/\r.2.length<=1000)
  (U:∀s n ws,g=.m s n ws->s=1\/s=2) (hz:ks.length<=100000) (hf:found.length<=100000) (hw:w.length<=1000):
  ∃o C s5',(u_ (pD (w,g)) [g0,.o<|.F ks ds,.o<|.P found,s3,s4,s5]=some [g0,.o<|.F ks ds,.o<|.P found,.f<|.w<|w.map D.l,.f<|dG g,s5])/\
   bj [g0,.o<|.F ks ds,.o<|.P found,.f<|.w<|w.map D.l,.f<|dG g,s5]=.R (.n,[g0,.o<|.F o C,.o<|.P<|found++[c8 (w,g,r)],.f<|.w<|w.map D.l,.f<|dG g,s5'])/\o.length=C.length/\o.length<=ks.length+lV (Cw g)/\
    (∀(j:Nat) (l),(eU<|Cw g)[j]? = some l->cG o C (kw<|w++[(j:Int)])=some (cN<|kz g r l))/\(∀k',(∀j:Nat,k'≠kw (w++[(j:Int)]))->cG o C k'=cG ks ds k'):=by
 have m:=Ef I;have x:=Ad I;have u:(ec g).length=(eU<|Cw g).length:=by rw[FJ,jE,oE]
 refine Yw (NT (g0:=g0) (s2:=.o<|.P<|found++[c8 (w,g,r)]) I hr U hw (ec g).length 0 ks ds s5 (by lia) hl J<|by lia) λo C s5' e p q i t=>?_;refine⟨o,C,s5',rfl,?_,p,by rw[<-oE,<-u];exact q,λj l h=>i j l (eK _) h,λk' h=>t k' λj _=>h j⟩;have f:found.length<16777216:=by lia
 have v:((ec g).length:Int)<4611686018427387904:=by lia
 have a:wL _=some (kw w):=EV w;have b:iR [g0,.o<|.F ks ds,.o<|.P<|found++[c8 (w,g,r)],.f<|.w<|w.map D.l,.f<|dG g,s5]=.R (.n,[g0,.o<|.F o C,.o<|.P<|found++[c8 (w,g,r)],.f<|.w<|w.map D.l,.f<|dG g,s5']):=by
  have c:(aj (aF bQ<|aj (a0 lL<|aj (au 4) ao) ao) ao) [g0,.o<|.F ks ds,.o<|.P<|found++[c8 (w,g,r)],.f<|.w<|w.map D.l,.f<|dG g,s5]=.R [.l ((ec g).length:Int)]:=by
   simp[aF,bQ,a0,aj,ao,au,m]
  have d:=V9 c (by lia) (by lia);unfold iR eY;rw[d];show bF (ad 5) cX ((dc (ec g).length).map λ(k:Nat)=>D.l k) _=_;rw[jI];exact e
 simp only[c8] at b ⊢;simp[bj,aB,cR,aK,aj,ao,au,ak,aa,Aw,r_,a,J,oA,dk,f,b]
theorem Mi o:(lR o).length<=((lR o).map b4).sum:=by
 induction lR o with
 |nil=>exact eK _
 |cons g l ih=>have:=vH g;simp;lia
mutual
theorem FZ:∀(w:List Int) (g:Gm),(gt w g).length=b4 g
 |w,.i d=>rfl
 |w,.f n ws=>by show(i6 w 0 ws).length+1=gr ws+1;rw[Kh w 0 ws]
 |w,.m s n ws=>by show(i6 w 0 ws).length+1=gr ws+1;rw[Kh w 0 ws]
theorem Kh:∀(w:List Int) (i:Nat) (o:Ws),(i6 w i o).length=gr o
 |w,i,.f=>rfl
 |w,i,.e l g r=>by show(gt (w++[(i:Int)]) g++i6 w (i+1) r).length=b4 g+gr r;rw[bq,FZ _ g,Kh w (i+1) r]
end
mutual
theorem IT(g0:Sl):∀(g:Gm) (w:List Int) (r:Rc) (ks:List (List Kt)) (ds found:List D) (s3 s4 s5:Sl) (o:List D),ks.length=ds.length->cG ks ds (kw w)=some (cN r)->gP g->lf g->r.1.length+dp g<=1000->r.2.length+dp g<=1000->w.length+dp g<=1000->
  ks.length+b4 g<=100001->found.length+b4 g<=100000->
  ∃C I U J s5',bF u_ bj ((gt w g).map pD++o) [g0,.o<|.F ks ds,.o<|.P found,s3,s4,s5]=bF u_ bj o [g0,.o<|.F C I,.o<|.P<|found++(dL w r g).map c8,U,J,s5']/\C.length=I.length/\C.length+1<=ks.length+b4 g/\
   (∀k',(∀u:List Int,u≠[]->k'≠kw (w++u))->cG C I k'=cG ks ds k')
 | .i d,w,r,ks,ds,found,s3,s4,s5,o,hl,hv,hg,hs,r1,r2,hw,hz,hf=>by
  have f:b4 (.i d)=1:=rfl;refine Hh (G8 (g0:=g0) (s3:=s3) (s4:=s4) (s5:=s5) (found:=found) (g:=.i d) hl hv hg ⟨by lia,by lia⟩ (λ_ _ _ z=>by cases z) (by lia) (by lia) (by lia)) λC I s5' b c i a m k=>?_;refine⟨C,I,.f<|.w<|w.map D.l,.f<|dG<|.i d,s5',?_,i,by simpa[Cw,lV,b4] using a,λk' h=>k k' λj=>h [(j:Int)]<|by simp⟩;show bF u_ bj (pD (w,.i d)::o) _=_;rw[bC b c];rfl
 | .f n ws,w,r,ks,ds,found,s3,s4,s5,o,hl,hv,hg,hs,r1,r2,hw,hz,hf=>by
  have f:b4 (.f n ws)=gr ws+1:=rfl;have q:dp (.f n ws)=j_ ws+1:=rfl;have p:lV ws<=gr ws:=by rw[<-jE,Du];exact Mi ws
  refine Hh (G8 (g0:=g0) (s3:=s3) (s4:=s4) (s5:=s5) (found:=found) (g:=.f n ws) hl hv hg ⟨by lia,by lia⟩ (λ_ _ _ z=>by cases z) (by lia) (by lia) (by lia)) λC I s5' b c i a m k=>?_;have a:C.length<=ks.length+lV ws:=a;obtain⟨A,E,x,y,v,e,t,G,B⟩:=Rz g0 ws w (λ_=>r) 0 C I (found++[c8 (w,.f n ws,r)]) (.f<|.w<|w.map D.l) (.f<|dG<|.f n ws) s5' o i (λj l h=>by rw[vv];exact m j l h) hg.2 hs (λl=>by lia) (λl=>by lia) (by lia) (by lia) (by rw[bq,eS];lia);refine⟨A,E,x,y,v,?_,t,by lia,λk' h=>?_⟩
  .show bF u_ bj (pD (w,.f n ws)::((i6 w 0 ws).map pD++o)) _=_;rw[bC b c,e];show bF _ _ _ [_,_,.o<|.P<|found++[c8 (w,.f n ws,r)]++(g6 w (λ_=>r) 0 ws).map c8,_,_,_]=bF _ _ _ [_,_,.o<|.P<|found++(c8 (w,.f n ws,r)::(g6 w (λ_=>r) 0 ws).map c8),_,_,_];rw[gu];rfl
  rw[B k' λj u H=>h _ (by simp),k k' λj=>h [(j:Int)]<|by simp]
 | .m s n ws,w,r,ks,ds,found,s3,s4,s5,o,hl,hv,hg,hs,r1,r2,hw,hz,hf=>by
  have f:b4 (.m s n ws)=gr ws+1:=rfl;have q:dp (.m s n ws)=j_ ws+1:=rfl;have p:lV ws<=gr ws:=by rw[<-jE,Du];exact Mi ws
  obtain⟨C,I,s5',b,c,i,a,m,k⟩:=G8 (g0:=g0) (s3:=s3) (s4:=s4) (s5:=s5) (found:=found) (g:=.m s n ws) hl hv hg ⟨by lia,by lia⟩ (λ_ _ _ z=>by cases z;exact hs.1) (by lia) (by lia) (by lia);have a:C.length<=ks.length+lV ws:=a;have F:∀l,(f8 s n r l).1.length<=r.1.length+1/\(f8 s n r l).2.length<=r.2.length+1:=λl=>by
   unfold f8;split<;>simp
  obtain⟨A,E,x,y,v,e,t,G,B⟩:=Rz g0 ws w (f8 s n r) 0 C I (found++[c8 (w,.m s n ws,r)]) (.f<|.w<|w.map D.l) (.f<|dG<|.m s n ws) s5' o i (λj l h=>by rw[vv];exact m j l h) hg.2 hs.2 (λl=>by have:=(F l).1;lia) (λl=>by have:=(F l).2;lia) (by lia) (by lia) (by rw[bq,eS];lia);refine⟨A,E,x,y,v,?_,t,by lia,λk' h=>?_⟩
  .show bF u_ bj (pD (w,.m s n ws)::((i6 w 0 ws).map pD++o)) _=_;rw[bC b c,e];show bF _ _ _ [_,_,.o<|.P<|found++[c8 (w,.m s n ws,r)]++(g6 w (f8 s n r) 0 ws).map c8,_,_,_]=bF _ _ _ [_,_,.o<|.P<|found++(c8 (w,.m s n ws,r)::(g6 w (f8 s n r) 0 ws).map c8),_,_,_];rw[gu];rfl
  rw[B k' λj u H=>h _ (by simp),k k' λj=>h [(j:Int)]<|by simp]
theorem Rz(g0:Sl):∀(C:Ws) (w:List Int) (f:D->Rc) (i:Nat) (ks:List (List Kt)) (ds found:List D) (s3 s4 s5:Sl) (o:List D),ks.length=ds.length->(∀(j:Nat) (l:D),(eU C)[j]? = some l->cG ks ds (kw<|w++[((i+j:Nat):Int)])=some (cN<|f l))->Ac C->sB C->
  (∀l,(f l).1.length+j_ C<=1000)->(∀l,(f l).2.length+j_ C<=1000)->w.length+1+j_ C<=1000->ks.length+gr C<=100000+lV C->found.length+gr C<=100000->
  ∃I J s3' U s5',bF u_ bj ((i6 w i C).map pD++o) [g0,.o<|.F ks ds,.o<|.P found,s3,s4,s5]=bF u_ bj o [g0,.o<|.F I J,.o<|.P<|found++(g6 w f i C).map c8,s3',U,s5']/\I.length=J.length/\I.length+lV C<=ks.length+gr C/\
   (∀k',(∀(j:Nat) (u:List Int),u≠[]->k'≠kw (w++((i+j:Nat):Int)::u))->cG I J k'=cG ks ds k')
 | .f,w,f,i,ks,ds,found,s3,s4,s5,o,hl,hv,hg,hs,r1,r2,hw,hz,hf=>⟨ks,ds,s3,s4,s5,by simp[i6,g6],hl,by simp[lV,gr],λ_ _=>rfl⟩
 | .e l g r,w,f,i,ks,ds,found,s3,s4,s5,o,hl,hv,hg,hs,r1,r2,hw,hz,hf=>by
  have s:gr (.e l g r)=b4 g+gr r:=rfl;have m:j_ (.e l g r)=max (dp g) (j_ r):=rfl;have c:lV (.e l g r)=lV r+1:=rfl;have k:lV r<=gr r:=by rw[<-jE,Du];exact Mi r
  have M:=vH g;have N:=r1 l;have K:=r2 l;obtain⟨I,J,t,y,q,e,v,O,b⟩:=IT g0 g (w++[(i:Int)]) (f l) ks ds found s3 s4 s5 ((i6 w (i+1) r).map pD++o) hl (hv 0 l rfl) hg.1 hs.1 (by lia) (by lia) (by rw[bq,eS];lia) (by lia) (by lia);have pl:(dL (w++[(i:Int)]) (f l) g).length=b4 g:=by rw[<-aE (f:=λp=>(p.1,p.2.1)),Ib];exact FZ _ g
  obtain⟨A,G,H,F,d,B,n,L,E⟩:=Rz g0 r w f (i+1) I J (found++(dL (w++[(i:Int)]) (f l) g).map c8) t y q o v (λj x h=>by
   rw[b _ λu a z=>?_,<-hv (j+1) x (by simpa[eU] using h),show i+(j+1)=i+1+j by lia]
   have:=Ld z
   simp at this
   lia) hg.2 hs.2 (λl=>by have:=r1 l;lia) (λl=>by have:=r2 l;lia) (by lia) (by lia) (by rw[bq,aE,pl];lia)
  refine⟨A,G,H,F,d,?_,n,by lia,λk' h=>?_⟩
  .show bF _ _ ((gt (w++[(i:Int)]) g++i6 w (i+1) r).map pD++o) _=_;rw[bP,gu,e,B];show _=bF _ _ _ [_,_,.o<|.P<|found++(dL (w++[(i:Int)]) (f l) g++g6 w f (i+1) r).map c8,_,_,_];rw[bP,gu]
  rw[E k' λj u a=>by have:=h (j+1) u a;rw[show i+(j+1)=i+1+j by lia] at this;exact this];refine b k' λu a=>?_
  have:=h 0 u a
  simpa using this
end
theorem US(e:L [.f d,.o<|.F [[]] [cN ([],[])],.o<|.P [],.S,.S,.S]=.R (.n,[.f d,a,.o<|.P ps,s3,s4,s5])):aV 6 1 (gU L) [d]=.R (true,.P ps):=by
 have b:wL (.w [])=some []:=rfl;simp only[cN] at e;simp[aV,gU,aB,dW,Ry,aK,ao,aj,b,f9,e,uU]
theorem YZ(h:gP g)(o:lf g)(hd:dp g<=50)(hz:b4 g<=10000):cL [dG g]=.R (true,.P<|(dL [] ([],[]) g).map c8):=by
 have e:=h8 h hd (by lia);obtain⟨i,d,c,f,b,j,_⟩:=IT _ g [] ([],[]) [[]] [cN ([],[])] [] _ _ _ [] rfl (by simp[cG,kw]) h o (by simp;lia) (by simp;lia) (by simp;lia) (by simp;lia) (by simp;lia);refine US (a:=.o<|.F i d) (s3:=c) (s4:=f) (s5:=b) ?_;have k:cT (a0 kh<|aj (au 0) ao) [.f<|dG g,.o<|.F [[]] [cN ([],[])],.o<|.P [],.S,.S,.S]=.R ((gt [] g).map pD):=by
  simp[cT,a0,aj,ao,au,e]
 unfold ni eY;rw[k];rw[c9] at j;exact j
noncomputable def qJ(r:Rc)(s:Int):List D:=if s=1 then r.1 else r.2
def lN(s:Int)(n:Str)(o:Ws)(r:Rc):D:=.w [.l s,.p n,.w<|eU o,.w<|qJ r s]
theorem rn:∀o,eZ (dO 2<|aL (ad 0)<|aL (ad 1) dU) jn (au 0) [.S,.S] (f6 o)=.R (eU o)
 | .f=>rfl
 | .e l g r=>by
  have a:=rn r;have e:au 0 [.f l,.f<|dG g]=.R l:=rfl;unfold f6 eZ;simp[dO,aL,ad,dU,jn,e,a,eU]
theorem XI(h:lV ws<=100):vQ [dG<|.m s n ws]=.R (false,.w<|eU ws):=by
 have i:∀a b c d:D,bS [a,b,c,d] 3=some d:=λ_ _ _ _=>rfl;have f:(f6 ws).length<=16777216:=by rw[pO];lia
 have e:qW [.f<|dG<|.m s n ws]=.R (.P<|eU ws):=by
  simp[qW,bU,lC,ak,aa,fC,al,dG,i,hH,rn,f]
 simp[vQ,zV,zL,aV,aU,aF,aj,ao,Me.V,Sl.V,e,dR]
theorem X7(h:lV ws<=100)(o:s=1\/s=2):uT [dG<|.m s n ws,cN r]=.R (false,lN s n ws r):=by
 have e:=XI (s:=s) (n:=n) h;have f:∀a b c d:D,bS [a,b,c,d] 1=some b:=λ_ _ _ _=>rfl;have i:∀a b c d:D,bS [a,b,c,d] 2=some c:=λ_ _ _ _=>rfl;have g:∀a b:D,bS [a,b] 0=some a:=λ_ _=>rfl;have j:∀a b:D,bS [a,b] 1=some b:=λ_ _=>rfl;simp only[dG] at e;rcases o with rfl|rfl
 .simp[uT,BV,Bb,aV,aU,Me.V,Sl.V,aK,aj,ao,ak,aa,fC,al,dG,f,i,a0,au,e,cN,F.eE,g,j,lN,qJ]
 simp[uT,BV,Bb,aV,aU,Me.V,Sl.V,aK,aj,ao,ak,aa,fC,al,dG,f,i,a0,au,e,cN,F.eE,g,j,lN,qJ]
abbrev Tb:=List (List Kt)×List D
noncomputable def kn(s:Int)(n:Str):List Kt:=[.k<|.inl s,.k<|.inr n]
def eu(T:Tb)(p:List Int×Gm×Rc):Tb:=match p.2.1 with
 | .m s n ws=>if(cG T.1 T.2<|kn s n).isSome then T else(T.1++[kn s n],T.2++[lN s n ws p.2.2])
 |_=>T
def h6(l:List (List Int×Gm×Rc)):Tb:=l.foldl eu ([],[])
theorem Tz T p:(eu T p).1.length<=T.1.length+1:=by grind[eu]
def v6(p:List Int×Gm×Rc):Prop:=match p.2.1 with
 | .m s _ ws=>(s=1\/s=2)/\lV ws<=100
 |_=>True
theorem Zq(o:v6 p)(hz:T.1.length<=100000):∃m1,dO 3 (aL (ad 2)<|aL (ad 3)<|aL (ad 4) dU) (c8 p) [g0,.o<|.F T.1 T.2,s2,s3,s4]=some m1/\
  ir m1=.R (.n,[g0,.o<|.F (eu T p).1 (eu T p).2,.f<|.w<|p.1.map D.l,.f<|dG p.2.1,.f<|cN p.2.2]):=by
 refine⟨ _,rfl,?_⟩;obtain⟨w,g,r⟩:=p;have k:∀a b:D,bS [a,b] 0=some a:=λ_ _=>rfl;have j:∀a b c:D,bS [a,b,c] 0=some a:=λ_ _ _=>rfl;have f:∀a b c d:D,bS [a,b,c,d] 0=some a:=λ_ _ _ _=>rfl;have i:∀a b c d:D,bS [a,b,c,d] 1=some b:=λ_ _ _ _=>rfl;have h:∀a b c d:D,bS [a,b,c,d] 2=some c:=λ_ _ _ _=>rfl;cases g with
 |i d=>simp[ir,ax,aA,ak,aa,fC,al,dG,k,ba,eu]
 |f n ws=>simp[ir,ax,aA,ak,aa,fC,al,dG,j,ba,eu]
 |m s n ws=>
  have o:=o;have e:=X7 (n:=n) (r:=r) o.2 o.1;simp only[dG] at e;have l:wL (.w [.l s,.p n])=some (kn s n):=rfl;have m:T.1.length<16777216:=by lia
  by_cases q:(cG T.1 T.2<|kn s n).isSome=true
  .simp[ir,ax,aA,ak,aa,fC,al,dG,f,i,h,D4,yC,aK,aj,ao,a0,au,e,l,m,eu,q,rC]
  simp[ir,ax,aA,ak,aa,fC,al,dG,f,i,h,D4,yC,aK,aj,ao,a0,au,e,l,m,eu,q,rC]
theorem Nq:∀(l:List (List Int×Gm×Rc)) (T) (s2 s3 s4),(∀p∈l,v6 p)->T.1.length+l.length<=100000->∃C I o,bF (dO 3<|aL (ad 2)<|aL (ad 3)<|aL (ad 4) dU) ir (l.map c8) [g0,.o<|.F T.1 T.2,s2,s3,s4]=.R (.n,[g0,.o<|.F (l.foldl eu T).1 (l.foldl eu T).2,C,I,o])
 |[],T,s2,s3,s4,_,_=>⟨s2,s3,s4,rfl⟩
 |p::l,T,s2,s3,s4,hp,hz=>by
  have h:T.1.length+(l.length+1)<=100000:=hz;obtain⟨i,d,f⟩:=Zq (T:=T) (hp p ai)<|by lia
  have:=Tz T p
  obtain⟨a,b,c,e⟩:=Nq l (eu T p) _ _ _ (λq g=>hp q<|af _ g) (by lia);exact⟨a,b,c,by rw[ar,bC d f,e];rfl⟩
theorem uf(e:L [.f d,.o<|.F [] [],.S,.S,.S]=.R (.n,[.f d,.o<|.F ks ds,s2,s3,s4])):aV 5 1 (vC L) [d]=.R (true,.P ds):=by
 simp[aV,vC,aB,dW,vh,e,jT,Me.V,Sl.V,QR,aa]
mutual
theorem Qp:∀(w:List Int) (r:Rc) (g:Gm),gP g->lf g->∀p∈dL w r g,v6 p
 |w,r,.i d,_,_,p,hp=>by
  have:p=(w,.i d,r):=by simpa[dL] using hp
  rw[this];exact fR
 |w,r,.f n ws,h,hs,p,hp=>by
  rcases a9.mp (show p∈(w,Gm.f n ws,r)::g6 w (λ_=>r) 0 ws from hp) with e|e
  .rw[e];exact fR
  exact RJ w _ 0 ws h.2 hs p e
 |w,r,.m s n ws,h,hs,p,hp=>by
  rcases a9.mp (show p∈(w,Gm.m s n ws,r)::g6 w (f8 s n r) 0 ws from hp) with e|e
  .rw[e];exact⟨hs.1,h.1⟩
  exact RJ w _ 0 ws h.2 hs.2 p e
theorem RJ:∀(w:List Int) (f:D->Rc) (i:Nat) (o:Ws),Ac o->sB o->∀p∈g6 w f i o,v6 p
 |w,f,i,.f,_,_,p,hp=>by cases hp
 |w,f,i,.e l g r,h,hs,p,hp=>by
  rcases bE.mp (show p∈dL (w++[(i:Int)]) (f l) g++g6 w f (i+1) r from hp) with e|e
  .exact Qp _ _ g h.1 hs.1 p e
  exact RJ w f (i+1) r h.2 hs.2 p e
end
theorem uH w r g:(dL w r g).length=b4 g:=by rw[<-aE,Ib];exact FZ _ g
theorem mu(h:gP g)(o:lf g)(hd:dp g<=50)(hz:b4 g<=10000):vW [dG g]=.R (true,.P (h6<|dL [] ([],[]) g).2):=by
 have e:=YZ h o hd hz;obtain⟨a,b,c,f⟩:=Nq (dL [] ([],[]) g) ([],[]) _ _ _ (Qp _ _ g h o) (by rw[uH];simp;lia);refine uf (ks:=(h6<|dL [] ([],[]) g).1) (s2:=a) (s3:=b) (s4:=c) ?_;have d:cT (a0 cL<|aj (au 0) ao) [.f<|dG g,.o<|.F [] [],.S,.S,.S]=.R ((dL [] ([],[]) g).map c8):=by
  simp[cT,a0,aj,ao,au,e]
 unfold wA eY;rw[d];exact f
end Pk
namespace F
open PySem L2 Hd
noncomputable def rq(r:Rat):Q2:=(r.num,(r.den:Int))
def rD(r:Rat):D:=qD<|rq r
theorem Ys r:rD r=.w [.l r.num,.l r.den]:=rfl
theorem wB(r:Rat):1<=(r.den:Int):=by have:=r.den_pos;lia
theorem PP(r:Rat):gI r.num r.den=1:=by
 have:=r.reduced
 show((xh _ _):Int)=1;unfold xh;simp[this]
theorem Ml(o:b≠0):(lt t b,lb t b)=rq (cw t b):=by
 have h:=iL<|cw t b;have hd:((cw t b).den:Int)≠0:=by have:=wB<|cw t b;lia
 have d:=(oP hd o).mp h;obtain⟨a,c⟩:=SD o (wB<|cw t b) (PP<|cw t b) d.symm;exact Prod.ext a c
theorem IG r:cw r.num r.den=r:=iL r
theorem He a b:cw (a.num*b.den+b.num*a.den) (a.den*b.den)=a+b:=by
 have d:=wB a;have c:=wB b;rw[<-AN _ _ (by lia) (by lia),IG,IG]
def Sz(k:Nat)(r:Rat):Prop:=r.num.natAbs<2^k/\r.den<2^k
theorem Ky(o:b≠0)(C:t.natAbs<2^k)(I:b.natAbs<2^k):Sz k (cw t b):=by
 have e:=Ml (t:=t) o;have a:=congrArg B1 e;have c:=congrArg Prod.snd e;have a:lt t b=(cw t b).num:=a;have c:lb t b=((cw t b).den):=c;have d:=Is (t:=t) o;have f:=G5 (t:=t) o;rw[a] at d;rw[c] at f;exact⟨by lia,by lia⟩
theorem Po(C:Sz k a)(o:Sz l b):Sz (k+l+1) (a+b):=by
 rw[<-He];have d:=wB a;have f:=wB b;have e:(a.num*b.den).natAbs<2^(k+l):=Lq C.1 (o.2);have g:(b.num*a.den).natAbs<2^(k+l):=by rw[Nat.add_comm];exact Lq o.1<|C.2
 have c:((a.den:Int)*b.den).natAbs<2^(k+l):=Lq (C.2) (o.2);refine Ky ?_ ((by
  rw[CM]
  omega))<|jy c (by lia);exact Int.mul_ne_zero (by lia) (by lia)
theorem U6:Sz 1 0:=⟨by decide,by decide⟩
theorem JF(h:Sz k r)(hk:k<=4000):Bq r.num/\Bq (r.den:Int):=⟨Pb<|jy h.1 (by lia),Pb<|jy (by simpa using h.2) (by lia)⟩
theorem Yy(a b:Rat):(a.den:Int)*b.den≠0:=Int.mul_ne_zero (by have:=wB a;lia) (by have:=wB b;lia)
end F
namespace Pk
open PySem L2 Hd F
theorem UA x y:∀(n) (a b) (z),b.toNat=n->0<=a->0<=b->∃k o,wh jq jh k [x,y,.f<|.l a,.f<|.l b,z] =
  some (.R (.n,[x,y,.f<|.l<|gI a b,.f<|.l 0,o])):=by
 intro n;induction n using ub with
 |_ n ih=>
  intro a b z j g h;by_cases d:b=0
  .subst d;refine⟨1,z,?_⟩;rw[TQ g];exact Gh rfl
  have c:0<b:=by lia
  have i:=hU a c;have f:=hZ a d;obtain⟨k,o,e⟩:=ih _ (by lia) b _ _ rfl h f;rw[VM g c] at e;refine⟨ _,o,Fe (m':=[x,y,.f<|.l b,.f<|.l<|a%b,.f<|.l<|a%b]) ?_ ?_ e⟩
  .simp[jq,aA,aa,fC,d]
  simp[jh,aB,aW,ak,aa,au,aR,hC,d,c]
theorem qG a b:lg [.l a,.l b]=.R (false,.l<|gI a b):=by
 refine ZU (UA (.f<|.l a) (.f<|.l b) _ (if a<0 then -a else a) (if b<0 then -b else b) .S rfl (by split<;>lia) (by split<;>lia)) λk d e=>?_;rw[Z5] at e;have c:=yr k e;simp[lg,aV,oX,o7,mQ,aB,aW,aF,aj,ao,aa,BZ,c,aU,Me.V,Sl.V,au]
theorem OK(h:i.natAbs<2^k)(hk:autoParam (k<=4000) YI):Bq i:=Pb<|jy h<|by lia
theorem Ny(o:b≠0)(C:Bq b):vz [.l t,.l b]=.R (false,.w [.l<|lt t b,.l<|lb t b]):=by
 have hd:=Uh (t:=t) o;have c:Bq (dv t b):=by
  have i:=Ic (a:=t) o;have j:=Zk t b;unfold Bq at C ⊢
  lia
 have d:i_ t (dv t b)=lt t b:=by
  unfold i_ lt;split
  .rw[iO t<|by lia]
  rfl
 have f:i_ b (dv t b)=lb t b:=by
  unfold i_ lb;split
  .rw[iO b<|by lia]
  rfl
 by_cases h:b<0
 .have e:dv t b=-gI t b:=if_pos h;rw[e] at d f hd c;have g:gI t b≠0:=by lia
  simp[g,vz,aV,An,BL,aB,aW,a0,aj,ao,au,aa,qG,ax,aA,fC,lw,h,lm,vV,aU,Me.V,Sl.V,aK,ak,bV,c,d,f]
 have e:dv t b=gI t b:=if_neg h;rw[e] at d f hd c;have g:gI t b≠0:=by omega
 simp[g,vz,aV,An,BL,aB,aW,a0,aj,ao,au,aa,qG,ax,aA,fC,lw,h,ba,aU,Me.V,Sl.V,aK,ak,bV,c,d,f]
theorem y1:bS [a,b] 0=some a:=rfl
theorem FU:bS [a,b] 1=some b:=rfl
theorem RT(o:b≠0)(C:Bq b):vz [.l t,.l b]=.R (false,rD<|cw t b):=by
 rw[Ny o C];have e:=Ml (t:=t) o;show _=bd.R (false,qD<|rq<|cw t b);rw[<-e];rfl
theorem YC(C:Sz k a)(o:Sz l b)(hk:k+l<=4000):Mh [rD a,rD b]=.R (false,rD<|a+b):=by
 obtain⟨g,f⟩:=JF C (by lia);obtain⟨c,d⟩:=JF o (by lia);have e:=RT (t:=a.num*b.den+b.num*a.den) (Yy a b)<|(Pb<|jy (Lq (by simpa using C.2) (by simpa using o.2)) (by lia));rw[He] at e;simp[Mh,aV,Rw,QK,aU,Me.V,Sl.V,a0,aj,ao,ak,aa,fC,al,Ys,y1,FU,iJ,bD,g,f,c,d];rw[e];simp[Ys]
theorem WD(C:Sz k a)(o:Sz l b)(hk:k+l<=4000):FP [rD a,rD b]=.R (false,.B<|decide<|a.num*b.den<b.num*a.den):=by
 obtain⟨f,e⟩:=JF C (by lia);obtain⟨c,d⟩:=JF o (by lia);simp[FP,aV,Le,LK,aU,Me.V,Sl.V,qj,ak,aa,fC,al,Ys,y1,FU,iJ,f,e,c,d,lw]
theorem NP k:∀(l:List Rat) (q) (j) (s2),Sz j q->(∀x∈l,Sz k x)->j+l.length*(k+1)<=2000->k<=2000->
  ∃o,bF (ad 2) yf (l.map rD) [a,.f<|rD q,s2]=.R (.n,[a,.f<|rD<|q+l.sum,o])
 |[],q,j,s2,_,_,_,_=>⟨s2,by simp[bF,Rat.add_zero]⟩
 |x::l,q,j,s2,hq,hl,hj,hk=>by
  have c:=hl x ai;have b:j+(l.length+1)*(k+1)<=2000:=hj;have e:=YC hq c (by lia);obtain⟨o,f⟩:=NP k l _ _ _ (Po hq c) (λy d=>hl y<|af _ d) (by lia) hk;refine⟨o,?_⟩;rw[ar,bC (m2:=[a,.f<|rD<|q+x,.f<|rD x]) rfl (by simp[yf,aW,a0,aj,ao,au,e]),f,i8,B2]
theorem Wv{l:List Rat}(o:∀x∈l,Sz k x)(C:1+l.length*(k+1)<=2000)(hk:k<=2000):Gk [.P<|l.map rD]=.R (false,rD l.sum):=by
 obtain⟨c,e⟩:=NP (a:=.f<|.P<|l.map rD) k l 0 1 .S U6 o C hk;have b:rD 0=.w [.l 0,.l 1]:=rfl;rw[Rat.zero_add,b] at e;simp[Gk,aV,Kq,Kz,Dm,aB,aW,fC,eY,cT,au,e,aU,Me.V,Sl.V]
mutual
theorem YG:∀(w:List Int) (g:Gm),∀p∈gt w g,p.1.length<=w.length+dp g
 |w,.i d,p,hp=>by
  have:p=(w,.i d):=by simpa[gt] using hp
  rw[this];simp
 |w,.f n ws,p,hp=>by
  rcases a9.mp (show p∈(w,Gm.f n ws)::i6 w 0 ws from hp) with e|e
  .rw[e];simp
  have:=Mx w 0 ws p e
  show p.1.length<=w.length+(j_ ws+1)
  lia
 |w,.m s n ws,p,hp=>by
  rcases a9.mp (show p∈(w,Gm.m s n ws)::i6 w 0 ws from hp) with e|e
  .rw[e];simp
  have:=Mx w 0 ws p e
  show p.1.length<=w.length+(j_ ws+1)
  lia
theorem Mx:∀(w:List Int) (i:Nat) (o:Ws),∀p∈i6 w i o,p.1.length<=w.length+1+j_ o
 |w,i,.f,p,hp=>by cases hp
 |w,i,.e l g r,p,hp=>by
  have hd:j_ (.e l g r)=max (dp g) (j_ r):=rfl;rcases bE.mp (show p∈gt (w++[(i:Int)]) g++i6 w (i+1) r from hp) with e|e
  .have:=YG _ g p e
   rw[bq,eS] at this
   lia
  have:=Mx w (i+1) r p e
  lia
end
theorem yg{o:Type}{f:o->D}{b:o->Bool}:∀l:List o,(∀x∈l,f x=.B (b x))->tK (l.map f)=some (l.map b)
 |[],_=>rfl
 |x::l,h=>by
  have c:=yg l λy a=>h y<|af _ a;simp[tK,h x ai,c]
noncomputable def im:D->Int
 | .w [.l s,_,_,_]=>s
 |_=>0
noncomputable def j3:D->Nat
 | .w [_,_,.w ws,_]=>ws.length
 |_=>0
def EW(d:D):Prop:=∃s n a r,d=lN s n a r
theorem DY P:∀ds,(∀d∈ds,∃m1,h d m0=some m1/\ft m1=.R (P d)/\fe m1=.R d)->eZ h ft fe m0 ds=.R (ds.filter P)
 |[],_=>rfl
 |d::ds,H=>by
  refine o5 (H d ai) λm1 a b f=>?_;have c:=DY P ds λd hd=>H d<|af _ hd;unfold eZ;rw[List.filter_cons];by_cases q:P d=true
  .simp only[a,b,q,f,c,if_pos]
  have e:P d=false:=by simpa using q
  simp only[a,b,e,c]
  simp
theorem Fz:∀(l:List (List Int×Gm×Rc)) (T) (d),d∈(l.foldl eu T).2->d∈T.2\/∃p∈l,∃s n o,p.2.1=.m s n o/\d=lN s n o p.2.2
 |[],T,d,h=>.inl h
 |p::l,T,d,h=>by
  rcases Fz l _ d h with e|⟨q,a,e⟩
  .unfold eu at e;split at e
   .rename_i s n o b;split at e
    .exact .inl e
    rcases bE.mp e with e|e
    .exact .inl e
    exact .inr ⟨p,ai,s,n,o,b,by simpa using e⟩
   exact .inl e
  exact .inr ⟨q,af _ a,e⟩
theorem Mq(h:d∈(h6 l).2):EW d:=by
 rcases Fz l ([],[]) d h with e|⟨p,_,s,n,a,_,e⟩
 .cases e
 exact⟨s,n,a,p.2.2,e⟩
theorem V'(h:gP g)(o:lf g)(hd:dp g<=50)(hz:b4 g<=10000):yo [dG g,.l s]=.R (true,.P<|(h6<|dL [] ([],[]) g).2.filter λd=>decide<|im d=s):=by
 have e:=mu h o hd hz;have i:eZ (ad 0) (aA cr (ak al (aa 0)<|fC<|.l 0)<|aa 1) (au 0) [.S,.f<|.l s] (h6<|dL [] ([],[]) g).2=.R ((h6<|dL [] ([],[]) g).2.filter λd=>decide<|im d=s):=DY _ _ λd hd=>by
  refine Z_41 (Mq hd) λa n j r zq4=>?_;subst zq4;refine⟨[.f<|lN a n j r,.f<|.l s],rfl,?_,rfl⟩;have f:∀a b c d:D,bS [a,b,c,d] 0=some a:=λ_ _ _ _=>rfl;simp[aA,ak,aa,fC,al,lN,f,im];exact decide_eq_decide.mpr Iff.rfl
 have k:(h6<|dL [] ([],[]) g).2.length<=16777216:=by
  have:∀(l:List (List Int×Gm×Rc)) (T:Tb),(l.foldl eu T).2.length<=T.2.length+l.length:=by
   intro l;induction l with
   |nil=>intro T;simp
   |cons p l ih=>
    intro T
    have:=ih<|eu T p
    have q:(eu T p).2.length<=T.2.length+1:=by
     unfold eu;split
     .split<;>simp
     lia
    simp only[pS,cm]
    lia
  have:=this (dL [] ([],[]) g) ([],[])
  rw[uH] at this;simp at this;have e:h6 (dL [] ([],[]) g)=(dL [] ([],[]) g).foldl eu ([],[]):=rfl;rw[e]
  lia
 have m:tW [.f<|dG g,.f<|.l s]=.R (.P<|(h6<|dL [] ([],[]) g).2.filter λd=>decide<|im d=s):=by
  simp[tW,bU,cT,a0,aj,ao,au,e,hH,Sl.c,i,k]
 simp[yo,Dr,De,aV,jT,Me.V,Sl.V,m]
theorem Hz:∀l:List D,Ba (l.map λd=>D.l (j3 d:Int))=some (l.map λd=>(j3 d:Int))
 |[]=>rfl
 |d::l=>by simp[Ba,Hz l]
theorem rk(h:∀d∈l,EW d)(hz:l.length<=10000):pK [.P l]=.R (false,.l (l.map λd=>(j3 d:Int)).sum):=by
 have e:eZ (ad 0) jn mq [.S] (l.map id)=.R (l.map λd=>D.l (j3 d:Int)):=gW l λd hd=>by
  refine Z_41 (h d hd) λa n i r zq4=>?_;subst zq4;refine⟨ _,rfl,rfl,?_⟩;have f:∀a b c d:D,bS [a,b,c,d] 2=some c:=λ_ _ _ _=>rfl;simp[mq,aF,bQ,aj,ao,ak,aa,fC,al,lN,f,j3]
 rw[rf] at e;have g:l.length<=16777216:=by lia
 have j:lZ [.f<|.P l]=.R (.P<|l.map λd=>D.l (j3 d:Int)):=by
  simp[lZ,bU,cT,aa,hH,e,g]
 have k:K3 [.P<|l.map λd=>D.l (j3 d:Int)]=some (.l (l.map λd=>(j3 d:Int)).sum):=by
  show(Ba _).map _=_;rw[Hz];rfl
 simp[pK,uo,uB,aV,aU,Me.V,Sl.V,aF,aj,ao,j,k]
def DM(l:List D)(s:Int):Prop:=(l.filter λd=>decide<|im d=s).length<=8/\((l.filter λd=>decide<|im d=s).map λd=>(j3 d:Int)).sum<=24
def o4(d:Q2):Prop:=d.1.natAbs<=999999999999/\d.2<=999
def D0(o:Ws):Prop:=∃l:List Rat,eU o=l.map rD/\(∀x∈l,Sz 20 x/\o4 (rq x)/\0<x.num)/\l.length<=3/\l.sum=1
def FL(g:Gm):Prop:=match g with
 | .i d=>o4 d
 | .f _ ws=>D0 ws
 |_=>True
theorem U5(h:lV ws<=100):du [dG<|.f n ws]=.R (true,.P<|eU ws):=by
 have g:∀a b c:D,bS [a,b,c] 0=some a:=λ_ _ _=>rfl;have f:∀a b c:D,bS [a,b,c] 2=some c:=λ_ _ _=>rfl;have d:(f6 ws).length<=16777216:=by rw[pO];lia
 have e:kW [.f<|dG<|.f n ws]=.R (.P<|eU ws):=by
  simp[kW,bU,lC,ak,aa,fC,al,dG,f,hH,rn,d]
 simp only[dG] at e;simp[du,rM,rN,aV,aB,ax,aA,ak,aa,fC,al,dG,g,jT,Me.V,Sl.V,ba,e]
theorem UM{o:Type}{f:o->D}{l:List o}(h:∀x∈l,f x=.B true):Wg [.P<|l.map f]=some (.B true):=by
 have:=yg l h
 show(tK<|l.map f).map (λbs=>D.B<|bs.all id)=_;rw[this]
 simp
def FK(d:D):Prop:=ef d=true/\gJ d<=20
def F3(o:Int->Str->D)(p:List Int×Gm×Rc):Prop:=∀s n a,p.2.1=.m s n a->lN s n a p.2.2=o s n/\FK (o s n)
structure Gd(g:Gm):Prop where
 mt:gP g
 s:lf g
 d:dp g<=12
 sz:b4 g<=64
 r:∃ρ,∀p∈dL [] ([],[]) g,F3 ρ p
 f:∀p∈dL [] ([],[]) g,FL p.2.1/\gP p.2.1
 t:DM (h6 (dL [] ([],[]) g)).2 1
 a:DM (h6 (dL [] ([],[]) g)).2 2
end Pk
namespace Lw
open PySem L2 Hd F Pk
theorem KS(h:f m=.R [.l i,.l j,.l (-1)])(J:-1000000000<=i)(I:i<=1000000000)(C:-1000000000<=j)(o:j<=1000000000):D5 f m=.R ((dc (i-j).toNat).map λ(k:Nat)=>D.l<|i-k):=by simp_all[D5]
noncomputable def lv(f:D->Rc):Ws->List (Gm×Rc)
 | .f=>[]
 | .e l g r=>(g,f l)::lv f r
def oD(g:Gm)(r:Rc):List (Gm×Rc):=lv (kz g r)<|Cw g
def lF(p:Gm×Rc):D:=.w [dG p.1,cN p.2]
noncomputable def ch(w:List Int)(L:List (Gm×Rc))(i:Nat):List (List Int×Gm×Rc):=(L.zipIdx i).map λp=>(w++[(p.2:Int)],p.1.1,p.1.2)
theorem Rx w f:∀(i) (o),g6 w f i o=(ch w (lv f o) i).flatMap λp=>dL p.1 p.2.2 p.2.1
 |i,.f=>rfl
 |i,.e l g r=>by
  show dL _ _ g++g6 w f _ r=_;rw[Rx w f _ r];rfl
theorem PZ w r g:dL w r g=(w,g,r)::(ch w (oD g r) 0).flatMap λp=>dL p.1 p.2.2 p.2.1:=by
 cases g with
 |i d=>rfl
 |f n ws=>show(w,Gm.f n ws,r)::g6 w (λ_=>r) 0 ws=_;rw[Rx];rfl
 |m s n ws=>show(w,Gm.m s n ws,r)::g6 w (f8 s n r) 0 ws=_;rw[Rx];rfl
theorem Ux f:∀o,(lv f o).length=lV o
 | .f=>rfl
 | .e l g r=>by show(lv f r).length+1=_;rw[Ux f r];rfl
theorem M3 f:∀o,(lv f o).map (·.1)=lR o
 | .f=>rfl
 | .e l g r=>by show g::(lv f r).map _=_;rw[M3 f r];rfl
theorem G6{n:Str}:∀o,eZ (dO 2<|aL (ad 0)<|aL (ad 1) dU) jn mH [.S,.S,.f<|cN r] (f6 o)=.R ((lv (λ_=>r) o).map lF)
 | .f=>rfl
 | .e l g rr=>by
  have a:=G6 (n:=n) (r:=r) rr;have e:mH [.f l,.f<|dG g,.f<|cN r]=.R (lF (g,r)):=rfl;unfold f6 eZ;simp[dO,aL,ad,dU,jn,e,a,lv]
theorem Im(J:s=1\/s=2)(U:r.1.length<=1000/\r.2.length<=1000):∀(o) (P) (s7 s8 s9),P.length+lV o<=1000->
  ∃C I s9',bF (dO 2<|aL (ad 7)<|aL (ad 8) dU) gV (f6 o) [g0,s1,s2,s3,.f<|.w [.p "move",.l s,.p n,W],.f<|cN r,.o<|.P P,s7,s8,s9,s10]=.R (.n,[g0,s1,s2,s3,.f<|.w [.p "move",.l s,.p n,W],.f<|cN r,.o<|.P<|P++(lv (f8 s n r) o).map lF,C,I,s9',s10])
 | .f,P,s7,s8,s9,_=>⟨s7,s8,s9,by simp[f6,bF,lv]⟩
 | .e l g rr,P,s7,s8,s9,hz=>by
  have u:P.length+(lV rr+1)<=1000:=hz;obtain⟨a,b,c,e⟩:=Im (r:=r) J U rr (P++[lF (g,f8 s n r l)]) (.f l) (.f<|dG g) (.o<|.P [.w (f8 s n r l).1,.w (f8 s n r l).2]) (by rw[bq,eS];lia);refine⟨a,b,c,?_⟩;have j:∀a b c d:D,bS [a,b,c,d] 1=some b:=λ_ _ _ _=>rfl;have h:∀a b c d:D,bS [a,b,c,d] 2=some c:=λ_ _ _ _=>rfl;have i:∀a b:D,bS [a,b] 0=some a:=λ_ _=>rfl;have f:∀a b:D,bS [a,b] 1=some b:=λ_ _=>rfl;have t:hQ 2 0=some 0:=rfl;have q:hQ 2 1=some 1:=rfl;have p:r.1.length+1<=16777216:=by lia
  have m:r.2.length+1<=16777216:=by lia
  have k:P.length<16777216:=by lia
  have v:gV [g0,s1,s2,s3,.f<|.w [.p "move",.l s,.p n,W],.f<|cN r,.o<|.P P,.f l,.f<|dG g,s9,s10]=.R (.n,[g0,s1,s2,s3,.f<|.w [.p "move",.l s,.p n,W],.f<|cN r,.o<|.P<|P++[lF (g,f8 s n r l)],.f l,.f<|dG g,.o<|.P [.w (f8 s n r l).1,.w (f8 s n r l).2],s10]):=by
   rcases J with rfl|rfl
   .simp[gV,aB,dW,aF,yU,aj,ao,aa,cN,eX,ak,al,j,h,fC,F.eE,i,oA,dk,aK,au,bD,p,t,cR,dR,k,lF,f8]
   simp[gV,aB,dW,aF,yU,aj,ao,aa,cN,eX,ak,al,j,h,fC,F.eE,f,oA,dk,aK,au,bD,m,q,cR,dR,k,lF,f8]
  show bF _ _ (.w [l,dG g]::f6 rr) _=_;rw[bC (m1:=[g0,s1,s2,s3,.f<|.w [.p "move",.l s,.p n,W],.f<|cN r,.o<|.P P,.f l,.f<|dG g,s9,s10]) rfl v,e];rw[gu];rfl
theorem Gp(C:w.length<=1000):∀(c) (S) (s10),c<=L.length->S.length+c<=100000->
  ∃o,bF (ad 10) jA ((dc c).map λ(k:Nat)=>D.l<|(c:Int)-1-k) [g0,s1,.o<|.P S,.f<|.w<|w.map D.l,s4,s5,.o<|.P<|L.map lF,s7,s8,s9,s10]=.R (.n,[g0,s1,.o<|.P<|S++(((ch w L 0).take c).map c8).reverse,.f<|.w<|w.map D.l,s4,s5,.o<|.P<|L.map lF,s7,s8,s9,o])
 |0,S,s10,_,_=>⟨s10,by simp[bF]⟩
 |c+1,S,s10,hc,hz=>by
  have g:c<L.length:=by lia
  obtain⟨a,e⟩:=Gp (s7:=s7) (s8:=s8) (s9:=s9) (L:=L) C c (S++[c8 (w++[(c:Int)],L[c].1,L[c].2)]) (.f<|.l (c:Int)) (by lia) (by rw[bq,eS];lia);refine⟨a,?_⟩;have h:(L.map lF)[c]? = some (lF L[c]):=by rw[aT,ay g];rfl
  have j:=v8 h;have f:∀a b:D,bS [a,b] 0=some a:=λ_ _=>rfl;have d:∀a b:D,bS [a,b] 1=some b:=λ_ _=>rfl;have l:w.length+1<=16777216:=by lia
  have i:S.length<16777216:=by lia
  have n:jA [g0,s1,.o<|.P S,.f<|.w<|w.map D.l,s4,s5,.o<|.P<|L.map lF,s7,s8,s9,.f<|.l (c:Int)]=.R (.n,[g0,s1,.o<|.P<|S++[c8 (w++[(c:Int)],L[c].1,L[c].2)],.f<|.w<|w.map D.l,s4,s5,.o<|.P<|L.map lF,s7,s8,s9,.f<|.l (c:Int)]):=by
   simp[jA,cR,oA,dk,aK,aj,ao,ak,aa,au,bD,l,al,j,lF,f,d,fC,i,c8]
  have p:(dc<|c+1).map (λ(k:Nat)=>D.l<|((c+1:Nat):Int)-1-k)=D.l (c:Int)::(dc c).map λ(k:Nat)=>D.l ((c:Int)-1-k):=by
   rw[zo,ar,fg];congr 1
   .congr 1;lia
   refine ki λk _=>?_;show D.l _=D.l _;congr 1;simp only[Nat.succ_eq_add_one]
   lia
  rw[p,bC (m1:=[g0,s1,.o<|.P S,.f<|.w<|w.map D.l,s4,s5,.o<|.P<|L.map lF,s7,s8,s9,.f<|.l (c:Int)]) rfl n,e];have m:(ch w L 0).take (c+1)=(ch w L 0).take c++[(w++[(c:Int)],L[c].1,L[c].2)]:=by
   have q:c<(ch w L 0).length:=by unfold ch;simp;exact g
   rw[List.take_succ_eq_append_getElem q];congr 1;simp[ch]
  rw[m,bP,ua]
  simp
theorem TB(h:gP g)(J:∀s n o,g=.m s n o->s=1\/s=2)(hr:r.1.length<=1000/\r.2.length<=1000)(hw:w.length<=1000)(hf:F0.length<=100000)(hS:S.length<=90000):
  ∃t3 t4 t5 U t7 t8 I C,fO [g0,.o<|.P F0,.o<|.P<|S++[c8 (w,g,r)],s3,s4,s5,s6,s7,s8,s9,s10]=.R (.n,[g0,.o<|.P<|F0++[c8 (w,g,r)],.o<|.P<|S++((ch w (oD g r) 0).map c8).reverse,t3,t4,t5,U,t7,t8,I,C]):=by
 have v:∀a b:D,bS [a,b] 0=some a:=λ_ _=>rfl;have t:∀a b c:D,bS [a,b,c] 0=some a:=λ_ _ _=>rfl;have q:∀a b c:D,bS [a,b,c] 2=some c:=λ_ _ _=>rfl;have p:∀a b c d:D,bS [a,b,c,d] 0=some a:=λ_ _ _ _=>rfl;have x:∀a b c d:D,bS [a,b,c,d] 3=some d:=λ_ _ _ _=>rfl;have u:F0.length<16777216:=by lia
 have f:∀(P:List _) (j i k:Sl),P=oD g r->P.length<=100->∃C,lY _ =
   .R (.n,[g0,.o<|.P<|F0++[c8 (w,g,r)],.o<|.P<|S++((ch w (oD g r) 0).map c8).reverse,.f<|.w<|w.map D.l,.f<|dG g,.f<|cN r,.o<|.P<|P.map lF,j,i,k,C]):=λP j i k A N=>by
  obtain⟨C,e⟩:=Gp (s1:=.o<|.P<|F0++[c8 (w,g,r)]) (s4:=.f<|dG g) (s5:=.f<|cN r) (s7:=j) (s8:=i) (s9:=k) (w:=w) (L:=P) hw P.length S s10 (bb _) (by lia);refine⟨C,?_⟩;have B:(aj (ak eE (aF bQ<|aj (aa 6) ao)<|fC<|.l 1)<|aj (lm vV<|fC<|.l 1)<|aj (lm vV<|fC<|.l 1) ao) [g0,.o<|.P<|F0++[c8 (w,g,r)],.o<|.P S,.f<|.w<|w.map D.l,.f<|dG g,.f<|cN r,.o<|.P<|P.map lF,j,i,k,s10]=.R [.l<|(P.length:Int)-1,.l (-1),.l (-1)]:=by
   simp[aj,ao,ak,aF,bQ,aa,fC,F.eE,lm,vV]
  have G:=KS B (by lia) (by lia) (by lia) (by lia);unfold lY eY;rw[G];have M:((P.length:Int)-1 - -1).toNat=P.length:=by lia
  rw[M];have K:(ch w P 0).take P.length=ch w P 0:=iP (by unfold ch;simp);rw[K,A] at e;rw[A];exact e
 have m:(oD g r).length<=100:=by
  unfold oD;rw[Ux,<-jE,<-FJ];exact Ad h
 cases g with
 |i d=>
  obtain⟨C,e⟩:=f [] s7 s8 s9 rfl (by simp);refine⟨.f<|.w<|w.map D.l,.f<|dG<|.i d,.f<|cN r,.o<|.P [],s7,s8,s9,C,?_⟩;simp only[c8,dG,vF] at e ⊢;simp[fO,aB,Og,PJ,oA,dk,dO,aL,ad,dU,cR,aK,aj,ao,au,u,dW,f9,ax,aA,ak,aa,fC,al,v,ba,e]
 |f n o=>
  obtain⟨C,e⟩:=f (lv (λ_=>r) o) s7 s8 s9 rfl m;have E:=G6 (n:=n) (r:=r) o;have l:(f6 o).length<=16777216:=by rw[pO];have:=h.1;lia
  have y:∀a b c,mC [g0,a,b,c,.f<|dG<|.f n o,.f<|cN r,.o<|.P [],s7,s8,s9,s10]=.R (.P<|(lv (λ_=>r) o).map lF):=λa b c=>by
   simp[mC,bU,lC,ak,aa,fC,al,dG,q,hH,Sl.c,E,l]
  refine⟨.f<|.w<|w.map D.l,.f<|dG<|.f n o,.f<|cN r,.o<|.P<|(lv (λ_=>r) o).map lF,s7,s8,s9,C,?_⟩;simp only[c8,dG] at e y ⊢;simp[fO,aB,Og,PJ,oA,dk,dO,aL,ad,dU,cR,aK,aj,ao,au,u,dW,f9,ax,aA,ak,aa,fC,al,t,ba,y,e]
 |m s n o=>
  refine Z_31 (Im (g0:=g0) (s1:=.o<|.P<|F0++[c8 (w,.m s n o,r)]) (s2:=.o<|.P S) (s3:=.f<|.w<|w.map D.l) (s10:=s10) (n:=n) (W:=.w<|f6 o) (J s n o rfl) hr o [] s7 s8 s9 (by have:=h.1;simp;lia)) λj i k em=>?_;obtain⟨C,e⟩:=f (lv (f8 s n r) o) j i k rfl m;have l:(f6 o).length<=16777216:=by rw[pO];have:=h.1;lia
  have z:mF [g0,.o<|.P<|F0++[c8 (w,.m s n o,r)],.o<|.P S,.f<|.w<|w.map D.l,.f<|dG<|.m s n o,.f<|cN r,.o<|.P [],s7,s8,s9,s10]=.R (.n,[g0,.o<|.P<|F0++[c8 (w,.m s n o,r)],.o<|.P S,.f<|.w<|w.map D.l,.f<|dG<|.m s n o,.f<|cN r,.o<|.P<|(lv (f8 s n r) o).map lF,j,i,k,s10]):=by
   have H:lC (ak al (aa 4)<|fC<|.l 3) [g0,.o<|.P<|F0++[c8 (w,.m s n o,r)],.o<|.P S,.f<|.w<|w.map D.l,.f<|dG<|.m s n o,.f<|cN r,.o<|.P [],s7,s8,s9,s10]=.R (f6 o):=by
    simp[lC,ak,aa,fC,al,dG,x]
   unfold mF eY;rw[H];rw[tf] at em;exact em
  refine⟨.f<|.w<|w.map D.l,.f<|dG<|.m s n o,.f<|cN r,.o<|.P<|(lv (f8 s n r) o).map lF,j,i,k,C,?_⟩;simp only[c8,dG] at e z ⊢;simp[fO,aB,Og,PJ,oA,dk,dO,aL,ad,dU,cR,aK,aj,ao,au,u,dW,f9,ax,aA,ak,aa,fC,al,p,ba,z,e]
abbrev Tr:=List Int×Gm×Rc
noncomputable def on(st:List Tr):Nat:=(st.map λp=>b4 p.2.1).sum
theorem Sj w g r:on (ch w (oD g r) 0)+1=b4 g:=by
 have e:∀(i:Nat) (L:List (Gm×Rc)),(ch w L i).map (λp=>b4 p.2.1)=L.map λp=>b4 p.1:=by
  intro i L;induction L generalizing i with
  |nil=>rfl
  |cons x L ih=>
   show b4 x.1::((ch w L<|i+1).map λp=>b4 p.2.1)=_;rw[ih];rfl
 unfold on;rw[e,Zo,FJ,<-M3 (kz g r),fg];rfl
theorem Uv:∀st,st.length<=on st
 |[]=>eK _
 |p::st=>by
  have:=Uv st
  have:=vH p.2.1
  show st.length+1<=b4 p.2.1+on st
  lia
theorem U4 a b:on (a++b)=on a+on b:=by unfold on;rw[bP,List.sum_append]
def wt(p:Tr):Prop:=gP p.2.1/\lf p.2.1/\p.1.length+dp p.2.1<=100/\p.2.2.1.length+dp p.2.1<=100/\p.2.2.2.length+dp p.2.1<=100
theorem HJ:∀{o:Ws} {k:Gm},sB o->k∈lR o->lf k
 | .e l g r,k,h,hk=>by
  rcases a9.mp hk with e|e
  .rw[e];exact h.1
  exact HJ h.2 e
theorem Ul f:∀{o:Ws} {p:Gm×Rc},p∈lv f o->∃l,p.2=f l
 | .e l g r,p,h=>by
  rcases a9.mp h with e|e
  .exact⟨l,by rw[e]⟩
  exact Ul f e
theorem Tm g r l:(kz g r l).1.length<=r.1.length+1/\(kz g r l).2.length<=r.2.length+1:=by
 cases g with
 |i d=>exact⟨by simp[kz],by simp[kz]⟩
 |f n ws=>exact⟨by simp[kz],by simp[kz]⟩
 |m s n ws=>by_cases a:s=1<;>simp[kz,f8,a]
theorem NS(h:wt (w,g,r)):∀p∈ch w (oD g r) 0,wt p:=λp m=>by
 unfold ch at m;refine oj (d4.mp m) λq t zq2=>?_;subst zq2;have j:q.1∈oD g r:=by have:=oq (f:=B1) t;rwa [oo] at this
 have i:q.1.1∈ec g:=by
  rw[FJ,<-M3 (kz g r)];exact oq j
 obtain⟨l,k⟩:=Ul _ j;have hd:=Ve i;refine Jk h λa b c d e=>?_;have u:=Tm g r l;simp only at a b c d e;refine⟨(Jj a i).1,(by
  cases g with
  |i d=>cases i
  |f n ws=>exact HJ b i
  |m s n ws=>exact HJ b.2 i),?_,?_,?_⟩
 .show(w++[_]).length+dp q.1.1<=100;rw[bq,eS]
  lia
 .show q.1.2.1.length+dp q.1.1<=100;rw[k]
  lia
 show q.1.2.2.length+dp q.1.1<=100;rw[k]
 lia
theorem U1 a:∀(N) (done st:List Tr) (s3 s4 s5 s6 s7 s8 s9 s10),on st=N->(∀p∈st,wt p)->done.length+on st<=50000->
  ∃k m',wh jz fO k [a,.o<|.P<|done.map c8,.o<|.P<|(st.map c8).reverse,s3,s4,s5,s6,s7,s8,s9,s10]=some (.R (.n,a::.o (.P<|(done++st.flatMap λp=>dL p.1 p.2.2 p.2.1).map c8)::m')):=by
 intro N;induction N using ub with
 |_ N ih=>
  intro done st s3 s4 s5 s6 s7 s8 s9 s10 F h H;cases st with
  |nil=>
   refine⟨1,[.o<|.P [],s3,s4,s5,s6,s7,s8,s9,s10],?_⟩;simp only[vF,List.reverse_nil,sC,c9];exact Gh<|by simp[jz,aA,aF,bQ,aj,ao,aa,fC,d3]
  |cons p st=>
   obtain⟨w,g,r⟩:=p;have D:wt (w,g,r):=h _ (by simp);have sb:=Sj w g r;have z:on ((w,g,r)::st)=b4 g+on st:=rfl;have L:=Uv st;have K:=vH g;refine Jk D λd c q x t=>?_;simp only at d c q x t;obtain⟨l,u,j,i,y,m,f,b,A⟩:=TB (F0:=done.map c8) (S:=(st.map c8).reverse) (w:=w) (g:=g) (r:=r) d (λs n G e=>by rw[e] at c;exact c.1) ⟨by lia,by lia⟩ (by lia) (by simp;lia) (by simp;lia);refine ZU (ih (on<|ch w (oD g r) 0++st) (by rw[U4];lia) (done++[(w,g,r)]) (ch w (oD g r) 0++st) l u j i y m f b rfl (λp B=>by
    rcases bE.mp B with v|v
    .exact NS ⟨d,c,q,x,t⟩ p v
    exact h p<|by simp[v]) (by rw[U4,bq];simp;lia)) λk m' e=>?_
   refine⟨k+1,m',?_⟩;have E:done++((w,g,r)::st).flatMap (λp=>dL p.1 p.2.2 p.2.1)=done++[(w,g,r)]++(ch w (oD g r) 0++st).flatMap λp=>dL p.1 p.2.2 p.2.1:=by
    rw[qS,Bz,PZ]
    simp
   rw[E];refine Fe (m':=[a,.o<|.P<|(done++[(w,g,r)]).map c8,.o<|.P<|((ch w (oD g r) 0++st).map c8).reverse,l,u,j,i,y,m,f,b]) ?_ ?_ e
   .simp[jz,aA,aF,bQ,aj,ao,aa,fC,d3]
   rw[ar,kS,A,bP,bP,ua];rfl
theorem PB(e:L [.f d,.o<|.P [],.o<|.P [.w [.w [],d,.w [.w [],.w []]]],.S,.S,.S,.S,.S,.S,.S,.S]=.R (.n,.f d::.o (.P ps)::m')):aV 11 1 (pG L) [d]=.R (true,.P ps):=by
 simp[aV,pG,aB,dW,f9,aj,ao,aK,au,e,uU]
theorem vZ(h:gP g)(o:lf g)(hd:dp g<=50)(hz:b4 g<=10000):gC [dG g]=.R (true,.P<|(dL [] ([],[]) g).map c8):=by
 refine ZU (U1 (.f<|dG g) _ [] [([],g,([],[]))] .S .S .S .S .S .S .S .S rfl (λp b=>by rw[cS.mp b];exact⟨h,o,by simp;lia,by simp;lia,by simp;lia⟩) (by show 0+(b4 g+0)<=_;lia)) λk c e=>?_;have a:=yr k e;simp only[tf,qS,sC,c9] at a;exact PB a
noncomputable def qa(ks:List (List Kt)):List D:=ks.map λ_=>.B true
theorem S8:∀{ks:List (List Kt)} {ds:List D},ks.length=ds.length->(cG ks (qa ks) k).isSome=(cG ks ds k).isSome
 |[],[],_=>rfl
 |[],_::_,h=>by simp at h
 |_::_,[],h=>by simp at h
 |a::ks,d::ds,h=>by
  show(cG _ (.B _::qa ks) k).isSome=_;unfold cG;split
  .rfl
  exact S8<|by simpa using h
theorem VS(h:(cG ks (qa ks) k).isSome=false):mY ks (qa ks) k (.B true)=(ks++[k],qa<|ks++[k]):=by
 have c:k∉ks:=λb=>by
  have:∀{ks:List _},k∈ks->(cG ks (qa ks) k).isSome=true:=by
   intro ks;induction ks with
   |nil=>intro h;cases h
   |cons a ks ih=>
    intro h;show(cG _ (.B _::qa ks) k).isSome=true;unfold cG;split
    .rfl
    rename_i q;rcases a9.mp h with e|e
    .exact absurd e.symm q
    exact ih e
  rw[this b] at h;cases h
 unfold mY;rw[if_neg λz=>c<|KJ.mp z];simp[qa]
theorem VO(C:v6 p)(o:T.1.length=T.2.length)(hz:T.1.length<=100000):∃m1 I,dO 3 (aL (ad 3)<|aL (ad 4)<|aL (ad 5) dU) (c8 p) [g0,.o<|.P T.2,.o<|.F T.1<|qa T.1,s3,s4,s5,s6]=some m1/\
  dH m1=.R (.n,[g0,.o<|.P (eu T p).2,.o<|.F (eu T p).1<|qa (eu T p).1,.f<|.w<|p.1.map D.l,.f<|dG p.2.1,.f<|cN p.2.2,I])/\(eu T p).1.length=(eu T p).2.length:=by
 obtain⟨w,g,r⟩:=p;have i:∀a b:D,bS [a,b] 0=some a:=λ_ _=>rfl;have m:∀a b:D,bS [a,b] 1=some b:=λ_ _=>rfl;have u:∀a b c:D,bS [a,b,c] 0=some a:=λ_ _ _=>rfl;have e:∀a b c d:D,bS [a,b,c,d] 0=some a:=λ_ _ _ _=>rfl;have j:∀a b c d:D,bS [a,b,c,d] 1=some b:=λ_ _ _ _=>rfl;have f:∀a b c d:D,bS [a,b,c,d] 2=some c:=λ_ _ _ _=>rfl;have y:∀a b c d:D,bS [a,b,c,d] 3=some d:=λ_ _ _ _=>rfl;cases g with
 |i d=>exact⟨_,s6,rfl,by simp[dH,ax,cz,aA,ak,aa,fC,al,dG,i,ba,eu],by simpa[eu] using o⟩
 |f n ws=>exact⟨_,s6,rfl,by simp[dH,ax,cz,aA,ak,aa,fC,al,dG,u,ba,eu],by simpa[eu] using o⟩
 |m s n ws=>
  have C:(s=1\/s=2)/\lV ws<=100:=C;have v:wL (.w [.l s,.p n])=some (kn s n):=rfl;have B:T.1.length<16777216:=by lia
  have A:T.2.length<16777216:=by lia
  have h:(eU ws).length<=16777216:=by rw[oE];lia
  have x:(f6 ws).length<=16777216:=by rw[pO];lia
  have l:=S8 (k:=kn s n) o;have z:∀a b c,nP [g0,a,b,c,.f<|dG<|.m s n ws,.f<|cN r,s6]=.R (.P<|eU ws):=λa b c=>by
   simp[nP,bU,lC,ak,aa,fC,al,dG,y,hH,rn,x]
  simp only[dG,cN] at z;by_cases q:(cG T.1 T.2<|kn s n).isSome=true
  .rw[q] at l;refine⟨_,s6,rfl,?_,by simp[eu,q,o]⟩;simp[dH,ax,cz,aA,ak,aa,fC,al,dG,e,j,f,ba,eu,q,Ep,Xk,r_,aK,aj,ao,v,l]
  have t:(cG T.1 T.2<|kn s n).isSome=false:=by simpa using q
  rw[t] at l;have pt:=VS l;refine⟨_,.f<|.w<|eU ws,rfl,?_,by simp[eu,t,o]⟩;rcases C.1 with rfl|rfl
  .simp[dH,ax,cz,aA,ak,aa,fC,al,dG,e,j,f,aB,JK,yC,rC,eu,t,Ep,Xk,r_,aK,aj,ao,v,l,B,pt,aW,aF,dR,z,cR,oA,dk,A,au,cN,F.eE,i,lN,qJ]
  simp[dH,ax,cz,aA,ak,aa,fC,al,dG,e,j,f,aB,JK,yC,rC,eu,t,Ep,Xk,r_,aK,aj,ao,v,l,B,pt,aW,aF,dR,z,cR,oA,dk,A,au,cN,F.eE,m,lN,qJ]
theorem Us:∀(l:List Tr) (T) (s3 s4 s5 s6),(∀p∈l,v6 p)->T.1.length=T.2.length->T.1.length+l.length<=100000->∃m',bF (dO 3<|aL (ad 3)<|aL (ad 4)<|aL (ad 5) dU) dH (l.map c8) [g0,.o<|.P T.2,.o<|.F T.1<|qa T.1,s3,s4,s5,s6]=.R (.n,g0::.o (.P (l.foldl eu T).2)::m')
 |[],T,s3,s4,s5,s6,_,_,_=>⟨_,rfl⟩
 |p::l,T,s3,s4,s5,s6,hp,hl,hz=>by
  have b:T.1.length+(l.length+1)<=100000:=hz;refine Ek (VO (g0:=g0) (s3:=s3) (s4:=s4) (s5:=s5) (s6:=s6) (hp p ai) hl<|by lia) λh a d g f=>?_
  have:=Tz T p
  obtain⟨m',e⟩:=Us l _ _ _ _ a (λq c=>hp q<|af _ c) f (by lia);exact⟨m',by rw[ar,bC d g,e];rfl⟩
theorem JP(h:gP g)(o:lf g)(hd:dp g<=50)(hz:b4 g<=10000):oF [dG g]=.R (true,.P (h6<|dL [] ([],[]) g).2):=by
 have e:=vZ h o hd hz;obtain⟨b,d⟩:=Us (dL [] ([],[]) g) ([],[]) _ _ _ _ (Qp _ _ g h o) rfl (by rw[uH];simp;lia);have a:nF [.f<|dG g,.o<|.P [],.o<|.F [] [],.S,.S,.S,.S]=.R (.n,.f (dG g)::.o (.P (h6<|dL [] ([],[]) g).2)::b):=by
  have c:cT (a0 gC<|aj (au 0) ao) [.f<|dG g,.o<|.P [],.o<|.F [] [],.S,.S,.S,.S]=.R ((dL [] ([],[]) g).map c8):=by
   simp[cT,a0,aj,ao,au,e]
  unfold nF eY;rw[c];exact d
 simp[oF,vP,vR,aV,aB,dW,f9,ao,vh,a,uU]
def Do(d:D):Prop:=∃a b:Str,d=.w [.p a,.p b]
def J9(d:D):Prop:=∃a:Str,d=.p a
theorem Mg a:iU [.p a]=.R (false,.B true):=rfl
theorem Pz:∀(l) (s1),(∀d∈l,Do d)->∃o,bF (ad 1) jx l [f0,s1]=.R (.n,[f0,o])
 |[],s1,_=>⟨s1,rfl⟩
 |d::l,s1,h=>by
  refine ZU (h d ai) λa b zq2=>?_;subst zq2;obtain⟨i,e⟩:=Pz l _ λx g=>h x<|af _ g;refine⟨i,?_⟩;have c:∀a b:D,bS [a,b] 0=some a:=λ_ _=>rfl;have f:∀a b:D,bS [a,b] 1=some b:=λ_ _=>rfl;rw[bC (m2:=[f0,.f<|.w [.p a,.p b]]) rfl ?_,e];simp[jx,ax,iI,gq,dt,xP,aa,aA,aF,bQ,aj,ao,fC,a0,ak,al,c,f,Mg,ba,oO,Xe]
theorem R_(h:∀d∈l,Do d):kO [.w l]=.R (false,.B true):=by
 obtain⟨a,e⟩:=Pz (f0:=.f<|.w l) l .S h;have b:mW [.f<|.w l,.S]=.R (.n,[.f<|.w l,a]):=e;simp[kO,pq,o8,aV,aB,ax,gq,dt,xP,aa,ba,b,aU,Me.V,Sl.V,fC,oO,Xe]
def QV(d:D):Prop:=∃s n a rc,d=.w [.l s,.p n,.w a,.w rc]/\(∀x∈a,J9 x)/\a.length<=1000/\∀x∈rc,Do x
theorem Nh:∀(l) (s1),(∀d∈l,QV d)->∃o,bF (ad 1) jM l [f0,s1]=.R (.n,[f0,o])
 |[],s1,_=>⟨s1,rfl⟩
 |d::l,s1,h=>by
  refine Z_44 (h d ai) λs n g i zq4 r B v=>?_;subst zq4;obtain⟨z,e⟩:=Nh l _ λx j=>h x<|af _ j;refine⟨z,?_⟩;have u:∀a b c d:D,bS [a,b,c,d] 0=some a:=λ_ _ _ _=>rfl;have p:∀a b c d:D,bS [a,b,c,d] 1=some b:=λ_ _ _ _=>rfl;have m:∀a b c d:D,bS [a,b,c,d] 2=some c:=λ_ _ _ _=>rfl;have w:∀a b c d:D,bS [a,b,c,d] 3=some d:=λ_ _ _ _=>rfl;have y:=R_ v;have k:eZ (ad 0) jn jL [.S] (g.map id)=.R (g.map λ_=>.B true):=gW g λx j=>by
   obtain⟨a,rfl⟩:=r x j;exact⟨ _,rfl,rfl,by simp[jL,a0,aj,ao,au,Mg]⟩
  rw[rf] at k;have t:g.length<=16777216:=by lia
  have A:jJ [f0,.f<|.w [.l s,.p n,.w g,.w i]]=.R (.P<|g.map λ_=>.B true):=by
   simp[jJ,bU,lC,ak,aa,fC,al,m,hH,k,t]
  have q:=UM (l:=g) λ_ _=>rfl;rw[bC (m1:=[f0,.f<|.w [.l s,.p n,.w g,.w i]]) (m2:=[f0,.f<|.w [.l s,.p n,.w g,.w i]]) rfl ?_,e];simp[jM,aB,ax,iI,gq,dt,xP,aa,aA,aF,bQ,aj,ao,fC,a0,ak,al,u,p,m,w,Mg,ba,oO,Xe,y,A,q]
theorem Zc(h:∀d∈l,QV d):mK [.P l]=.R (false,.B true):=by
 obtain⟨a,e⟩:=Nh l _ h;have b:nU [.f<|.P l,.S]=.R _:=e;simp[mK,qp,qF,aV,aB,ax,gq,dt,xP,aa,ba,b,aU,Me.V,Sl.V,fC,oO,Xe]
theorem WC x y:∀(n) (a b),b.toNat=n->0<=a->0<=b->∃k,wh lX mL k [x,y,.f<|.l a,.f<|.l b] =
  some (.R (.n,[x,y,.f<|.l<|gI a b,.f<|.l 0])):=by
 intro n;induction n using ub with
 |_ n ih=>
  intro a b j g h;by_cases d:b=0
  .subst d;refine⟨1,?_⟩;rw[TQ g];exact Gh rfl
  have c:0<b:=by lia
  have i:=hU a c;have f:=hZ a d;obtain⟨k,e⟩:=ih _ (by lia) b _ rfl h f;rw[VM g c] at e;refine⟨ _,Fe ?_ ?_ e⟩
  .simp[lX,aA,aa,fC,d]
  simp[mL,ER,aj,ao,ak,aa,au,aR,hC,d,c]
theorem CV(C:0<b)(o:Bq b):cO [.l t,.l b]=.R (false,rD<|cw t b):=by
 obtain⟨k,e⟩:=WC (.f<|.l t) (.f<|.l b) _ (if t<0 then -t else t) b rfl (by split<;>lia) (by lia);have m:(if b<0 then -b else b)=b:=if_neg (by lia);have h:=Z5 t b;rw[m] at h;rw[h] at e;have p:=yr k e;have g:=Nb (a:=t) (show b≠0 by lia);have c:dv t b=gI t b:=if_neg (by lia);have d:Bq (gI t b):=by
  have q:=Ic (a:=t) (show b≠0 by lia);unfold Bq at o ⊢
  lia
 have n:i_ t (gI t b)=lt t b:=by
  unfold i_ lt;rw[if_pos g,c,iO t<|by lia]
 have i:i_ b (gI t b)=lb t b:=by
  unfold i_ lb;rw[if_pos g,c,iO b<|by lia]
 have j:=Ml (t:=t) (show b≠0 by lia);have l:rD (cw t b)=.w [.l<|lt t b,.l<|lb t b]:=by
  show qD (rq<|cw t b)=_;rw[<-j];rfl
 have f:gI t b≠0:=by lia
 rw[l];simp[cO,uz,uv,aV,ql,aB,aW,aF,BZ,aj,ao,aa,au,p,aU,Me.V,Sl.V,aK,ak,bV,f,d,n,i]
theorem Dc(o:0<b)(C:t.natAbs<=999999999999)(I:b<=999):o4 (rq<|cw t b):=by
 have e:=Ml (t:=t) (show b≠0 by lia);have a:lt t b=(cw t b).num:=congrArg B1 e;have f:lb t b=((cw t b).den):=congrArg Prod.snd e;have c:=Is (t:=t) (show b≠0 by lia);have d:=G5 (t:=t) (show b≠0 by lia);rw[a] at c;rw[f] at d;exact⟨by show(cw t b).num.natAbs<=_;lia,by show((cw t b).den:Int)<=_;lia⟩
theorem f7(h:i.natAbs<=10000000000000):Bq i:=by
 refine OK (k:=50) ?_
 lia
def sm(x:Int):Prop:=0<=x/\x<2147483647
theorem Gw(h:0<=x/\x<=9000000000):∃q,bY [.l x]=.R (false,rD q)/\o4 (rq q):=by
 obtain⟨j,i⟩:=h;have d:Bq x:=f7 (by lia);have f:Bq 48271:=f7 (by decide);have c:Bq 8:=f7 (by decide);have g:Bq 104:=f7 (by decide);by_cases q:x%8=3
 .have b:0<1+x/8%999:=by lia
  have a:1+x/8%999<=999:=by lia
  have e:=CV (t:=x*48271%1999999999999-999999999999) b<|f7 (by omega);refine⟨_,?_,Dc b (t:=x*48271%1999999999999-999999999999) (by omega) a⟩;simp[bY,qR,qP,aV,aB,ax,aA,ak,aa,fC,aR,hC,q,aU,Me.V,Sl.V,a0,aj,ao,iJ,d,f,F.eE,bD,bV,i_,c,e]
 have b:0<1+x/104%3:=by lia
 have a:1+x/104%3<=999:=by lia
 have e:=CV (t:=x/8%13-6) b<|f7 (by lia);refine⟨_,?_,Dc b (t:=x/8%13-6) (by lia) a⟩;simp[bY,qR,qP,aV,aB,ax,aA,ak,aa,fC,aR,hC,q,ba,aU,Me.V,Sl.V,a0,aj,ao,F.eE,bD,bV,i_,c,g,e]
theorem My c k(hk:0<=k/\k<=1000):∃x,dC [.l c,.l k]=.R (false,.l x)/\sm x:=by
 have a:Bq (c%2147483647+1):=f7 (by lia);have b:Bq (48271+7*k):=f7 (by omega);have d:Bq 7:=f7 (by decide);have e:Bq k:=f7 (by lia);refine⟨(c%2147483647+1)*(48271+7*k)%2147483647,?_,by constructor<;>omega⟩;simp[dC,zy,zE,aV,aU,Me.V,Sl.V,ak,aa,fC,aR,hC,iJ,bD,a,b,d,e]
noncomputable def pt(x:Int):Int:=1+x%4+x/4%8/7*(x/32%200)
theorem UP(h:sm x)(o:P.length<=100):fJ [.f<|.l x,s1,.o<|.P P,s3]=.R (.n,[.f<|.l<|x*48271%2147483647,s1,.o<|.P<|P++[.l<|pt x],s3]):=by
 obtain⟨k,j⟩:=h;have a:Bq x:=f7 (by lia);have b:Bq 48271:=f7 (by decide);have e:Bq 4:=f7 (by decide);have i:Bq 7:=f7 (by decide);have g:Bq 32:=f7 (by decide);have c:Bq (x/4%8/7):=f7 (by lia);have d:Bq (x/32%200):=f7 (by lia);have f:P.length<16777216:=by lia
 simp[fJ,aB,cR,oA,dk,ak,aa,fC,bD,aR,hC,iJ,bV,i_,a,b,e,i,g,c,d,f,aW,pt]
theorem Uq:∀(c i) (x) (P:List Int) (s3),sm x->P.length+c<=100->(∀p∈P,1<=p/\p<=203)->∃(o C:Sl) (Q:List Int),bF (ad 3) fJ ((qV i c).map λ(k:Nat)=>D.l k) [.f<|.l x,s1,.o<|.P<|P.map D.l,s3]=.R (.n,[o,s1,.o<|.P<|Q.map D.l,C])/\Q.length=P.length+c/\∀p∈Q,1<=p/\p<=203
 |0,i,x,P,s3,_,_,hp=>⟨_,s3,P,rfl,rfl,hp⟩
 |c+1,i,x,P,s3,hx,hz,hp=>by
  have b:=UP (s1:=s1) (s3:=.f<|.l (i:Int)) (P:=P.map D.l) hx (by simp;lia);obtain⟨o,f,Q,e,l,h⟩:=Uq c _ (x*48271%2147483647) (P++[pt x]) _ (by constructor<;>lia) (by simp;lia) λp a=>by
   rcases bE.mp a with e|e
   .exact hp p e
   rw[cS.mp e];exact(by
    unfold pt;have d:x/4%8/7=0\/x/4%8/7=1:=by lia
    rcases d with h|h<;>rw[h]<;>lia)
  refine⟨o,f,Q,?_,by rw[l];simp;lia,h⟩;rw[l7,ar,bC rfl b];rw[bP] at e;exact e
theorem Up S:∀Q:List Int,(Q.map λp=>cw p S).sum=cw Q.sum S
 |[]=>by simp
 |p::Q=>by
  rw[ar,i8,i8,Up S Q,nh,nh,nh,C8,C8,C8,<-Rat.add_mul,Rat.intCast_add]
theorem m_(h:0<S):cw S S=1:=by
 rw[Rat.divInt_self'<|by lia]
theorem ut(o:0<p)(h:0<S):0<(cw p S).num:=by
 have hd:0<((cw p S).den:Int):=by have:=wB<|cw p S;lia
 have b:=(oP (by lia)<|by lia).mp<|iL<|cw p S;have a:=C9 o hd;rw[<-b] at a;exact Int.pos_of_mul_pos_left a h
theorem IY:∀Q:List Int,(∀p∈Q,1<=p/\p<=203)->(Q.length:Int)<=Q.sum/\Q.sum<=203*Q.length
 |[],_=>by simp
 |p::Q,h=>by
  have:=IY Q λx a=>h x<|af _ a
  have:=h p ai
  simp only[i8,cm]
  lia
theorem Ii:∀Q,Ba (Q.map D.l)=some Q
 |[]=>rfl
 |p::Q=>by simp[Ba,Ii Q]
theorem Tx(Q:List Int):K3 [.P<|Q.map D.l]=some (.l Q.sum):=by
 show(Ba _).map _=_;rw[Ii];rfl
theorem RP(o:L [.f x,.f c,.o<|.P [],.S]=.R (.n,[x',.f c,.o l,s']))(C:∀u v:Sl,QQ [u,.f c,.f l,v]=.R r):aV 4 2 (pN L QQ) [x,c]=.R (true,r):=by
 simp[aV,pN,aB,dW,f9,ao,o,jT,Me.V,Sl.V,C]
theorem RO{Q:List Int}(o:0<Q.sum)(C:Q.sum<=609)(J:Q.length<=1000)(I:jB [.f<|.l x,.f<|.l (c:Int),.o<|.P [],.S]=.R (.n,[x',.f<|.l (c:Int),.o<|.P<|Q.map D.l,s'])):
  pF [.l x,.l (c:Int)]=.R (true,.P<|Q.map λp=>rD<|cw p Q.sum):=
 RP I λu v=>(by
  have d:Bq Q.sum:=f7 (by lia);have a:eZ (ad 0) jn mJ [.S,.f<|.P<|Q.map _] _=.R (Q.map λp=>rD<|cw p Q.sum):=gW Q λp f=>by
   refine⟨[.f<|.l p,.f<|.P<|Q.map D.l],rfl,rfl,?_⟩;have b:=CV (t:=p) o d;simp[mJ,a0,aj,ao,au,aF,aa,Tx Q,b]
  have e:Q.length<=16777216:=by lia
  simp[mz,bU,cT,aa,hH,Sl.c,a,e])
theorem Q9{c:Nat}(h:sm x)(o:1<=c/\c<=3):∃l:List Rat,pF [.l x,.l (c:Int)]=.R (true,.P<|l.map rD)/\(∀q∈l,Sz 20 q/\o4 (rq q)/\0<q.num)/\l.length=c/\l.sum=1:=by
 obtain⟨s,t,Q,e,f,g⟩:=Uq c 0 x [] _ h (by simp;lia) (λ_ z=>by cases z);have f:Q.length=c:=by simpa using f
 have sb:=IY Q g;have b:0<Q.sum:=by lia
 have d:Q.sum<=609:=by lia
 refine⟨Q.map λp=>cw p _,?_,λq n=>?_,by simp[f],by rw[Up,m_ b]⟩
 .rw[fg];exact RO b d (by lia) ((by
   have i:(aj (aa 1) ao) [.f<|.l x,.f<|.l (c:Int),.o<|.P [],.S]=.R [.l (c:Int)]:=by simp[aj,aa,ao]
   have j:=V9 i (by lia) (by lia);unfold jB eY;rw[j];show bF (ad 3) fJ ((dc c).map λ(k:Nat)=>D.l k) _=_;rw[jI];exact e))
 refine oj (d4.mp n) λp m zq2=>?_;subst zq2;have r:=g p m;have a:(1000:Nat)<2^20:=by decide
 exact⟨Ky (by omega) (wm (show p.natAbs<=1000 by lia) a) (wm (show Q.sum.natAbs<=1000 by omega) a),Dc b (by lia) (by lia),ut (by lia) b⟩
structure En where
 c:List Int
 p:List Str
 t:Int
 l:Bool
noncomputable def sk(x:String):er:=.inr<|dP x
def Xl:List er:=[sk "at",sk "room",sk "names",sk "many",sk "pool",sk "turn",sk "level"]
def dz(e:En)(A:Addr×Addr)(C o:Int):D:=.L Xl [.l C,.l o,.J A.1,.J A.2,.P<|e.p.map D.p,.l e.t,.B e.l]
theorem Lz  e  A  a r :fV (dz e A a r) (.p "room")=some (.l r):=by rfl
theorem Qo  e  A  a r :fV (dz e A a r) (.p "names")=some (.J A.1):=by rfl
theorem Vp  e  A  a r :fV (dz e A a r) (.p "many")=some (.J A.2):=by rfl
theorem Vy  e  A  a r :fV (dz e A a r) (.p "pool")=some (.P<|e.p.map D.p):=by rfl
theorem Uu  e  A  a r :fV (dz e A a r) (.p "turn")=some (.l e.t):=by rfl
theorem Z9  e  A  a r :fV (dz e A a r) (.p "level")=some (.B e.l):=by rfl
theorem Oa(h:m[i]? = some (.i<|dz e A a r))(hk:fk m=.R (.p "room"))(o:fv m=.R (.l r')):oH i fk fv m=.R (.n,m.set i<|.i<|dz e A a r'):=by
 have b:KR m i=some (false,Xl,[.l a,.l r,.J A.1,.J A.2,.P<|e.p.map D.p,.l e.t,.B e.l]):=by
  unfold KR;rw[h];rfl
 unfold oH;rw[o,b];simp[hk,Mm,Oz,kd,Xl,sk,Jm,dz]
noncomputable def kp:D->Kt
 | .w [.p a,.p b]=>.t [.k<|.inr a,.k<|.inr b]
 |_=>.t []
def kN(s:Int)(rc:List D)(c b:Int):List Kt:=[.k<|.inl s,.t<|rc.map kp,.k<|.inl c,.k<|.inl b]
abbrev Pr(rc:List D):Prop:=∀d∈rc,Do d
theorem GS:∀{rc:List D},Pr rc->pM (hP<|n+1) rc=some (rc.map kp)
 |[],_=>rfl
 |d::rc,h=>by
  refine ZU (h d ai) λa b zq2=>?_;subst zq2;have f:=GS (n:=n) λx c=>h x<|af _ c;have e:hP (n+1) (.w [.p a,.p b])=some (.t [.k<|.inr a,.k<|.inr b]):=by
   cases n<;>rfl
  show((hP _<|.w _).bind λk=>(pM _ rc).map λg=>k::g)=_;rw[e,f];rfl
theorem NW(h:Pr rc):wL (.w [.l s,.w rc,.l c,.l b])=some (kN s rc c b):=by
 have e:hP 7 (.w rc)=some (.t<|rc.map kp):=by
  show(pM _ rc).map _=_;rw[GS h];rfl
 show((hP 7<|.l s).bind λk=>((hP 7<|.w rc).bind λk=>((hP 7<|.l c).bind λk=>((hP 7<|.l b).bind λk=>(some []).map λa=>k::a).map λa=>k::a).map λa=>k::a).map λa=>k::a)=_;rw[e];rfl
theorem IX:∀{r r':List D},Pr r->Pr r'->r.map kp=r'.map kp->r=r'
 |[],[],_,_,_=>rfl
 |[],_::_,_,_,h=>by cases h
 |_::_,[],_,_,h=>by cases h
 |d::r,d'::r',h1,h2,h=>by
  refine ZU (h1 d ai) λa b zq2=>?_;subst zq2;refine ZU (h2 d' ai) λl j zq2=>?_;subst zq2;injection h with g i
  injection g with g
  injection g with e c
  injection e with e
  injection e with e
  injection c with c _
  injection c with c
  injection c with c
  rw[e,c,IX (λx f=>h1 x<|af _ f) (λx f=>h2 x<|af _ f) i]
theorem K1(o:Pr r)(C:Pr r')(h:kN s r c b=kN s' r' c' b'):s=s'/\r=r'/\c=c'/\b=b':=by
 injection h with d h
 injection h with f h
 injection h with e h
 injection h with a _
 injection d with d
 injection d with d
 injection f with f
 injection e with e
 injection e with e
 injection a with a
 injection a with a
 exact⟨d,IX o C f,e,a⟩
abbrev Nd:=List (List Kt)×List D
noncomputable def jp(m:Int×Int)(s:Int):Int:=if s=1 then m.1 else m.2
structure uV(N:Nd)(m:Int×Int):Prop where
 mt:N.1.length=N.2.length
 sz:N.1.length<=1000
 e:0<=m.1/\0<=m.2
 a:∀s rc c b d,(s=1\/s=2)->Pr rc->cG N.1 N.2 (kN s rc c b)=some d->∃n:Int,d=.l n/\0<=n/\n<jp m s
 inj:∀s rc c b rc' c' b' d,(s=1\/s=2)->Pr rc->Pr rc'->cG N.1 N.2 (kN s rc c b)=some d->cG N.1 N.2 (kN s rc' c' b')=some d->rc=rc'/\c=c'
def Sub(N o:Nd):Prop:=∀k d,cG N.1 N.2 k=some d->cG o.1 o.2 k=some d
noncomputable def rl(m:Int×Int)(s:Int):Int×Int:=if s=1 then(m.1+1,m.2) else(m.1,m.2+1)
theorem Sb(I:uV N m)(J:s=1\/s=2)(o:Pr rc)(hz:N.1.length<1000)(C:cG N.1 N.2 (kN s rc c b)=none):
  uV (mY N.1 N.2 (kN s rc c b)<|.l<|jp m s) (rl m s)/\Sub N (mY N.1 N.2 (kN s rc c b)<|.l<|jp m s):=by
 have y:=λk'=>By (k:=kN s rc c b) (k':=k') (d:=.l<|jp m s) I.mt;obtain⟨K,L⟩:=Lh I.mt;have M:=I.e;have G:0<=jp m s:=by unfold jp;split<;>lia
 have B:∀t,jp m t<=jp (rl m s) t:=λt=>by
  unfold jp rl;by_cases q:s=1<;>by_cases a:t=1<;>simp[q,a]<;>lia
 have D:jp m s<jp (rl m s) s:=by
  unfold jp rl;by_cases q:s=1<;>simp[q]<;>lia
 refine⟨⟨K,by lia,?_,?_,?_⟩,?_⟩
 .unfold rl;split<;>simp<;>lia
 .intro t r F E d l j h;rw[y] at h;by_cases q:kN s rc c b=kN t r F E
  .rw[if_pos q] at h;cases h;obtain⟨rfl,_⟩:=K1 o j q;exact⟨_,rfl,G,D⟩
  rw[if_neg q] at h;refine o5 (I.a t r F E d l j h) λn e H i=>?_;exact⟨n,e,H,Int.lt_of_lt_of_le i<|B t⟩
 .intro t r A z v w p d l i u g f;rw[y] at g f;by_cases x:kN s rc c b=kN t r A z
  .rw[if_pos x] at g;cases g;refine ZN (K1 o i x) λzq0 zq1 zq2 zq3=>?_;subst zq0;subst zq1;subst zq2;subst zq3;by_cases a:kN s rc c b=kN s v w p
   .refine ZN (K1 o u a) λ_ zq1 zq2 _=>?_;subst zq1;subst zq2;exact⟨rfl,rfl⟩
   rw[if_neg a] at f;refine o5 (I.a s v w p _ l u f) λn e _ h=>?_;cases e
   lia
  rw[if_neg x] at g;by_cases a:kN s rc c b=kN t v w p
  .rw[if_pos a] at f;cases f;refine ZN (K1 o u a) λzq0 zq1 zq2 zq3=>?_;subst zq0;subst zq1;subst zq2;subst zq3;refine o5 (I.a s r A z _ l i g) λn e _ h=>?_;cases e
   lia
  rw[if_neg a] at f;exact I.inj t r A z v w p d l i u g f
 intro k d h;rw[y,if_neg λq=>by rw[<-q,C] at h;cases h];exact h
theorem W7(I:uV N m)(C:s=1\/s=2)(J:Pr rc)(hz:N.1.length<1000):
  ∃(n:Int) (o:Nd) (m':Int×Int),(∀A,d7 [.l s,.w rc,.l c,.l b] (dz e A a r) (A.1,.F N.1 N.2) (A.2,.P [.l m.1,.l m.2])=.R (.l n,dz e A a r,.F o.1 o.2,.P [.l m'.1,.l m'.2]))/\
   0<=n/\cG o.1 o.2 (kN s rc c b)=some (.l n)/\uV o m'/\Sub N o/\o.1.length<=N.1.length+1:=by
 have l:=NW (s:=s) (c:=c) (b:=b) J;have u:N.1.length<16777216:=by lia
 have K:∀a b:D,bS [a,b] 0=some a:=λ_ _=>rfl;have E:∀a b:D,bS [a,b] 1=some b:=λ_ _=>rfl;have L:hQ 2 0=some 0:=rfl;have H:hQ 2 1=some 1:=rfl;cases q:cG N.1 N.2 (kN s rc c b) with
 |some d=>
  obtain⟨n,rfl,v,G⟩:=I.a s rc c b d C J q;refine⟨n,N,m,λA=>?_,v,q,I,λ_ _ h=>h,by lia⟩;have g:=Qo e A a r;have i:=Vp e A a r;generalize f:dz e A a r=ST at *;simp[d7,jl,jo,F.eA,oZ,aB,aW,aK,aj,ao,au,ax,aA,aa,Sd,ak,fC,g,i,Ep,Xk,Aw,r_,l,q,ba,aU,Me.V,Sl.V,wG,oK]
 |none=>
  obtain⟨y,t⟩:=Sb I C J hz q;have p:=(Lh (ks:=N.1) (ds:=N.2) (k:=kN s rc c b) (d:=.l<|jp m s) I.mt).2;have j:cG (mY N.1 N.2 (kN s rc c b)<|.l<|jp m s).1 (mY N.1 N.2 (kN s rc c b)<|.l<|jp m s).2 (kN s rc c b)=some (.l<|jp m s):=by rw[By I.mt,if_pos rfl]
  have w:0<=jp m s:=by have:=I.e;unfold jp;split<;>lia
  refine⟨jp m s,mY N.1 N.2 (kN s rc c b)<|.l<|jp m s,rl m s,λA=>?_,w,j,y,t,p⟩;have g:=Qo e A a r;have i:=Vp e A a r;generalize f:dz e A a r=ST at *;obtain⟨k,x,z,B⟩:∃k,hQ 2 (s-1)=some k/\bS [.l m.1,.l m.2] (s-1)=some (D.l<|jp m s)/\[D.l m.1,.l m.2].set k (.l<|jp m s+1)=[.l (rl m s).1,.l (rl m s).2]:=by
   rcases C with rfl|rfl
   .exact⟨0,rfl,rfl,rfl⟩
   exact⟨1,rfl,rfl,rfl⟩
  generalize jp m s=M at *;generalize rl m s=U at *;simp[d7,jl,jo,F.eA,oZ,aB,aW,aK,aj,ao,au,ax,aA,aa,Sd,ak,fC,g,i,Ep,Xk,Aw,r_,l,q,aU,Me.V,Sl.V,wG,oK,HY,CJ,CK,al,F.eE,x,z,B,u,bD,j]
noncomputable def b7(e:En)(n:Int):Str:=e.p.getD ((n+e.t)%8).toNat ⟨#[]⟩
noncomputable def da(e:En)(n k:Int):Str:=e.p.getD ((3*n+k+e.t/8)%8).toNat ⟨#[]⟩
structure rW(e:En):Prop where
 s:1<=e.c.length
 c2:e.c.length<=100
 a:e.p.length=8
 t:0<=e.t/\e.t<64
 p:∀x∈e.p,gE x=true
theorem Kv(E:rW e)(h:0<=i/\i<8):bS (e.p.map D.p) i=some (.p<|e.p.getD i.toNat ⟨#[]⟩):=by
 have a:i.toNat<e.p.length:=by rw[E.a];lia
 have b:(e.p.map D.p)[i.toNat]? = some (.p<|e.p.getD i.toNat ⟨#[]⟩):=by
  rw[aT,ay a,cp,ay a];rfl
 have:=v8 b
 rwa [show((i.toNat))=i by lia] at this
theorem zX(E:rW e) i (h:i<8):gE (e.p.getD i ⟨#[]⟩)=true:=by
 have a:i<e.p.length:=by rw[E.a];exact h
 rw[cp,ay a];exact E.p _<|nV a
def md(e:En)(N:Nd)(s:Int)(nm:Str)(d:D):Prop:=∃(rc:List D) (c:Nat) (b n:Int),Pr rc/\lG rc=true/\cG N.1 N.2 (kN s rc (c:Int) b)=some (.l n)/\0<=n/\n<8/\(1<=c/\c<=3)/\nm=b7 e n/\d=.w [.l s,.p nm,.w<|(dc c).map λ(k:Nat)=>.p<|da e n k,.w rc]
theorem md.T(h:md e N s nm d)(S:Sub N N'):md e N' s nm d:=by
 refine Z_44 h λf c b n a j i g=>?_;exact⟨f,c,b,n,a,j,S _ _ i,g⟩
def Xu(e:En)(N:Nd)(p:Tr):Prop:=match p.2.1 with
 | .i d=>o4 d/\∃q:Rat,d=rq q
 | .f n ws=>D0 ws/\n∈e.p
 | .m s n ws=>md e N s n<|lN s n ws p.2.2
theorem Xu.T(h:Xu e N p)(S:Sub N N'):Xu e N' p:=by
 obtain⟨w,g,r⟩:=p;cases g with
 |i d=>exact h
 |f n ws=>exact h
 |m s n ws=>exact md.T h S
structure l0(e:En)(N:Nd)(rc:Rc)(g:Gm)(d:Nat):Prop where
 mt:gP g
 s:lf g
 d:dp g<=d
 f:∀w,∀p∈dL w rc g,Xu e N p
theorem l0.T{dep:Nat}(h:l0 e N rc g dep)(S:Sub N o):l0 e o rc g dep:=⟨h.mt,h.s,h.d,λw p a=>(h.f w p a).T S⟩
abbrev Bf:=List D->D->Addr×D->Addr×D->bd (D×D×D×D)
def OJ(rc:Rc)(dep:Nat):Prop:=Pr rc.1/\Pr rc.2/\lG rc.1=true/\lG rc.2=true/\rc.1.length+dep<=12/\rc.2.length+dep<=12
noncomputable def cD(e:En):D:=.P<|e.c.map D.l
noncomputable def j6(rc:Rc):D:=.P [.w rc.1,.w rc.2]
noncomputable def nD(N:Nd):D:=.F N.1 N.2
noncomputable def mD(m:Int×Int):D:=.P [.l m.1,.l m.2]
def vw(e:En)(R:Addr×Addr->bd (D×D×D×D))(a r:Nat)(N:Nd)(rc:Rc)(dep:Nat):Prop:=∃(g:Gm) (c r':Nat) (b:Nd) (m':Int×Int),(∀A,R A=.R (dG g,dz e A c r',nD b,mD m'))/\uV b m'/\Sub N b/\b.1.length<=c/\r'+b4 g=r+1/\c+r'=a+r+1/\l0 e b rc g dep
def vn(e:En)(Φ:Bf)(dep:Nat):Prop:=∀(a r:Nat) (N:Nd) (m:Int×Int) (rc:Rc),uV N m->N.1.length<=a->a+r<=63->OJ rc dep->vw e (λA=>Φ [cD e,.l (dep:Int),j6 rc] (dz e A a r) (A.1,nD N) (A.2,mD m)) a r N rc dep
noncomputable def d_:List (D×Gm)->Ws
 |[]=>.f
 |p::l=>.e p.1 p.2<|d_ l
theorem Cp:∀l,f6 (d_ l)=l.map λp=>.w [p.1,dG p.2]
 |[]=>rfl
 |p::l=>by show _::f6 _=_;rw[Cp l];rfl
theorem Ah:∀l,eU (d_ l)=l.map (·.1)
 |[]=>rfl
 |p::l=>by show _::eU _=_;rw[Ah l];rfl
def lc(e:En)(A:Addr×Addr)(a r:Int)(N:Nd)(m:Int×Int)(rc:Rc)(dep draw s c n:Int)(seen:Str)(C:List D)(o s12 s13:Sl):Me:=
 [.f<|cD e,.i<|dz e A a r,.f<|.l dep,.f<|j6 rc,.f<|.l draw,.f<|.l s,.f<|.l c,.f<|.l n,.f<|.P<|e.p.map D.p,.f<|.p seen,.o<|.P C,o,s12,s13,.g false A.1<|nD N,.g false A.2<|mD m]
theorem PD(h:OJ rc (dep+1))(C:gE n=true)(o:gE x=true):OJ (f8 s n rc<|.p x) dep:=by
 refine tL h λb g f c i j=>?_;have app:∀l:List D,lG l=true->lG (l++[.w [.p n,.p x]])=true:=by
  intro l;induction l with
  |nil=>intro _;simp[lG,ef,C,o]
  |cons d l ih=>intro h;simp[lG] at h ⊢;exact⟨h.1,ih h.2⟩
 have a:∀l:List D,Pr l->Pr (l++[.w [.p n,.p x]]):=λl h d hd=>by
  rcases bE.mp hd with e|e
  .exact h d e
  exact⟨n,x,cS.mp e⟩
 unfold f8;split
 .exact⟨a _ b,g,app _ f,c,by simp;lia,by simp;lia⟩
 exact⟨b,a _ g,f,app _ c,by simp;lia,by simp;lia⟩
theorem U'(E:rW e)(hΦ:vn e Φ dep){draw:Int}(I:uV N m)(hN:N.1.length<=a)(har:a+r<=63)(hr:OJ rc (dep+1))(hs:s=1\/s=2)(hn:0<=n/\n<8)(hk:0<=k/\k<3)(hse:gE seen=true)(hw:U.length<=100):
  ∃(g:Gm) (J r':Nat) (o:Nd) (m':Int×Int) (t12 t13:Sl),(∀A,iz Φ (lc e A a r N m rc (dep+1:Nat) draw s c n seen U (.f<|.l k) s12 s13)=.R (.n,lc e A J r' o m' rc (dep+1:Nat) draw s c n seen (U++[.w [.p<|da e n k,dG g]]) (.f<|.l k) t12 t13))/\
   uV o m'/\Sub N o/\o.1.length<=J/\r'+b4 g=r+1/\J+r'=a+r+1/\l0 e o (f8 s seen rc<|.p<|da e n k) g dep:=by
 have T:=E.t;have j:gE (da e n k)=true:=zX E _ (by lia);refine O4 (hΦ a r N m _ I hN har<|PD (s:=s) hr hse j) λg J r' o m' f Q L P K S M=>?_;refine⟨g,J,r',o,m',.f<|.p<|da e n k,.f<|j6<|f8 s seen rc<|.p<|da e n k,λA=>?_,Q,L,P,K,S,M⟩;have f:Φ _ _ _ _=.R _:=f A;have l:=Kv E (i:=(3*n+k+e.t/8)%8) (by lia);have v:Bq 3:=f7 (by decide);have B:Bq n:=f7 (by lia);have y:Bq 8:=f7 (by decide);have G:=Uu e A a r;have t:∀a b:D,bS [a,b] 0=some a:=λ_ _=>rfl;have w:∀a b:D,bS [a,b] 1=some b:=λ_ _=>rfl;have u:hQ 2 0=some 0:=rfl;have H:hQ 2 1=some 1:=rfl;have z:rc.1.length+1<=16777216:=by have:=hr.2.2.2.2.1;lia
 have x:rc.2.length+1<=16777216:=by have:=hr.2.2.2.2.2;lia
 have q:U.length<16777216:=by lia
 have p:((dep+1:Nat):Int)-1=(dep:Int):=by lia
 have R:da e n k=e.p.getD _ _:=rfl;rw[<-R] at l;simp only[lc];generalize da e n k=X at *;generalize h:dz e A a r=ST at *;generalize d:dz e A _ _=ST' at *;generalize cD e=C at *;generalize nD N=NN at *;generalize nD o=NN' at *;generalize mD m=MM at *;generalize mD m'=MM' at *;generalize O:((dep+1:Nat):Int)=DP at *;rcases hs with rfl|rfl
 .simp only[f8,j6,if_pos] at f;simp[iz,aB,aW,ak,aa,al,aR,hC,bD,iJ,fC,G,bV,i_,v,B,y,l,dW,aF,yU,aj,ao,j6,eX,F.eE,t,oA,dk,u,aK,au,z,Z3,vg,JS,xN,fX,zJ,Mz,CK,p,f,Ha,Jq,q,f8]
 simp only[f8,j6,show((2:Int)=1)=False by simp,if_false] at f;simp[iz,aB,aW,ak,aa,al,aR,hC,bD,iJ,fC,G,bV,i_,v,B,y,l,dW,aF,yU,aj,ao,j6,eX,F.eE,w,oA,dk,H,aK,au,x,Z3,vg,JS,xN,fX,zJ,Mz,CK,p,f,Ha,Jq,q,f8]
noncomputable def l_(L:List (D×Gm)):Nat:=(L.map λp=>b4 p.2).sum
def bB(p:D×Gm):D:=.w [p.1,dG p.2]
theorem Sub.s N:Sub N N:=λ_ _ h=>h
theorem Sub.t(h:Sub A B)(k:Sub B C):Sub A C:=λx d z=>k x d<|h x d z
theorem Vj(E:rW e)(hΦ:vn e Φ dep){draw:Int}(hr:OJ rc (dep+1))(hs:s=1\/s=2)(hn:0<=n/\n<8)(hse:gE seen=true):
  ∀(c i a r) (N) (m) (C) (o s12 s13),uV N m->N.1.length<=a->a+r+c<=64->i+c<=3->C.length+c<=100->
  ∃(L:List (D×Gm)) (a' r':Nat) (N':Nd) (m':Int×Int) (t11 J U:Sl),(∀A,bF (ad 11) (iz Φ) ((qV i c).map λ(k:Nat)=>D.l k) (lc e A a r N m rc (dep+1:Nat) draw s cc n seen C o s12 s13)=.R (.n,lc e A a' r' N' m' rc (dep+1:Nat) draw s cc n seen (C++L.map bB) t11 J U))/\
   uV N' m'/\Sub N N'/\N'.1.length<=a'/\r'+l_ L=r+c/\a'+r'=a+r+c/\L.map (·.1)=(qV i c).map (λ(k:Nat)=>D.p<|da e n k)/\∀p∈L,l0 e N' (f8 s seen rc p.1) p.2 dep
 |0,i,a,r,N,m,C,o,s12,s13,I,hN,har,hi,hw=>⟨[],a,r,N,m,o,s12,s13,λA=>by simp[bF],I,Sub.s N,hN,by simp[l_],by lia,rfl,λ_ z=>by cases z⟩
 |c+1,i,a,r,N,m,C,o,s12,s13,I,hN,har,hi,hw=>by
  obtain⟨g,G,B,y,h,J,U,t,K,v,H,P,S,u⟩:=(U' E hΦ (a:=a) (r:=r) (draw:=draw) (c:=cc) (s12:=s12) (s13:=s13) (k:=(i:Int)) I hN (by lia) hr hs hn (by lia) hse (by lia:C.length<=100));obtain⟨L,a',r',N',m',f,b,d,w,l,j,O,Q,R,M,F⟩:=Vj E hΦ (draw:=draw) (cc:=cc) (n:=n) (seen:=seen) hr hs hn hse c (i+1) G B y h (C++[.w [.p<|da e n i,dG g]]) (.f<|.l (i:Int)) J U K H (by lia) (by lia) (by simp;lia);refine⟨(.p<|da e n i,g)::L,a',r',N',m',f,b,d,λA=>?_,l,v.t j,O,?_,by lia,?_,λp x=>?_⟩
  .rw[l7,ar,bC (m1:=lc e A a r N m rc (dep+1:Nat) draw s cc n seen C (.f<|.l (i:Int)) s12 s13) rfl<|t A,w A,gu];rfl
  .show r'+(b4 g+l_ L)=r+(c+1)
   lia
  .rw[l7,ar,ar,M]
  rcases a9.mp x with q|q
  .rw[q];exact u.T j
  exact F p q
theorem Dj:∀L,gr (d_ L)=l_ L
 |[]=>rfl
 |p::L=>by show b4 _+gr _=b4 _+l_ L;rw[Dj L]
theorem Bd:∀L,lV (d_ L)=L.length
 |[]=>rfl
 |p::L=>by show lV _+1=_;rw[Bd L];rfl
theorem xV:∀L,(∀p∈L,gP p.2)->Ac (d_ L)
 |[],_=>trivial
 |p::L,h=>⟨h p ai,xV L λq a=>h q<|af _ a⟩
theorem Gs:∀L,(∀p∈L,lf p.2)->sB (d_ L)
 |[],_=>trivial
 |p::L,h=>⟨h p ai,Gs L λq a=>h q<|af _ a⟩
theorem Gz:∀L,(∀p∈L,dp p.2<=k)->j_ (d_ L)<=k
 |[],_=>eK _
 |p::L,h=>Nat.max_le.mpr ⟨h p ai,Gz L λq a=>h q<|af _ a⟩
theorem RK:∀(L) (i) (p:Tr),p∈g6 w f i (d_ L)->∃q∈L,∃w',p∈dL w' (f q.1) q.2
 |[],i,p,h=>by cases h
 |q::L,i,p,h=>by
  rcases bE.mp (h) with z|z
  .exact⟨q,ai,_,z⟩
  refine oj (RK L _ p z) λb a c=>?_;exact⟨b,af _ a,c⟩
theorem Xx(C:s=1\/s=2)(I:L.length<=3)(h:∀p∈L,l0 e N (f8 s nm rc p.1) p.2 dep)(o:md e N s nm (lN s nm (d_ L) rc)):l0 e N rc (.m s nm<|d_ L) (dep+1) where
 mt:=⟨by rw[Bd];lia,xV L λp a=>(h p a).mt⟩
 s:=⟨C,Gs L λp a=>(h p a).s⟩
 d:=ic<|Gz L λp a=>(h p a).d
 f:=λw p a=>by
  rcases a9.mp (a) with z|z
  .rw[z];exact o
  obtain⟨q,b,d,c⟩:=RK L 0 p z;exact(h q b).f d p c
theorem Z2(I:L.length<=3)(h:∀p∈L,l0 e N rc p.2 dep)(C:D0 (d_ L))(o:nm∈e.p):l0 e N rc (.f nm<|d_ L) (dep+1) where
 mt:=⟨by rw[Bd];lia,xV L λp a=>(h p a).mt⟩
 s:=Gs L λp a=>(h p a).s
 d:=ic<|Gz L λp a=>(h p a).d
 f:=λw p a=>by
  rcases a9.mp (a) with z|z
  .rw[z];exact⟨C,o⟩
  obtain⟨q,b,d,c⟩:=RK L 0 p z;exact(h q b).f d p c
theorem VJ(h:o4 (rq q)):l0 e N rc (.i<|rq q) dep where
 mt:=trivial
 s:=trivial
 d:=eK _
 f:=λw p a=>by
  have:p=(w,.i<|rq q,rc):=by simpa[dL] using a
  rw[this];exact⟨h,q,rfl⟩
theorem gs(h:g m=.R (.n,m1)):aB g k m=k m1:=by unfold aB;rw[h]
theorem T5(h:g m=.R (.r f d,m1)):aB g k m=.R (.r f d,m1):=by unfold aB;rw[h]
theorem HQ(o:ds.length+1=n)(h0:oZ p (.i d) (ds.map Sl.f)++(dA (N-n-2) Sl.S++[.g false x.1 x.2,.g false y.1 y.2])=m0)(C:g m0=.R (.r fr r,m'))(U:wG m' p=some d')(J:oK m' (N-2) x.1=some e)(I:oK m' (N-1) y.1=some f):
  F.eA p N n g ds d x y=.R (r,d',e,f):=by simp_all[if_pos,F.eA]
def mx(e:En)(A:Addr×Addr)(a r:Int)(N:Nd)(m:Int×Int)(rc:Rc)(dep draw:Int)(s5 s6 s7 s8 s9 s10 o s12 s13:Sl):Me:=
 [.f<|cD e,.i<|dz e A a r,.f<|.l dep,.f<|j6 rc,.f<|.l draw,s5,s6,s7,s8,s9,s10,o,s12,s13,.g false A.1<|nD N,.g false A.2<|mD m]
theorem YD{φn:Bf}{a r:Nat}{draw:Int}(E:rW e)
  (hs:s=1+draw%2) (hc:c=1+draw/16%3) (hb:b=draw/48%2) (en:φn [.l s,.w<|qJ rc s,.l c,.l b] (dz e A a r) (A.1,nD N) (A.2,mD m)=.R (.l n,dz e A a r,nD o,mD m1)):
  (8<=n->∀q,φs [.l draw]=.R (false,q)->F.eA 1 16 5 (nj φs φn L) [cD e,.l DP,j6 rc,.l draw] (dz e A a r) (A.1,nD N) (A.2,mD m)=.R (.w [.p "end",q],dz e A a r,nD o,mD m1))/\
  (0<=n->n<8->∀(a' r':Nat) (N') (m') (U) (I C J),U.length<=100->L (lc e A a ((r:Int)-c) o m1 rc DP draw s c n (b7 e n) [] .S .S .S)=.R (.n,lc e A a' r' N' m' rc DP draw s c n (b7 e n) U I C J)->
   F.eA 1 16 5 (nj φs φn L) [cD e,.l DP,j6 rc,.l draw] (dz e A a r) (A.1,nD N) (A.2,mD m)=.R (.w [.p "move",.l s,.p<|b7 e n,.w U],dz e A a' r',nD N',mD m')):=by
 have h:Bq 16:=f7 (by decide);have g:Bq 48:=f7 (by decide);have z:∀a b:D,bS [a,b] 0=some a:=λ_ _=>rfl;have B:∀a b:D,bS [a,b] 1=some b:=λ_ _=>rfl;have d:s=1\/s=2:=by lia
 have P:al (j6 rc) (.l<|s-1)=some (.w<|qJ rc s):=by
  rcases d with q|q
  .rw[q];exact z _ _
  rw[q];exact B _ _
 have p:∀k,aB (aW 5<|ak bD (fC<|.l 1)<|ak aR (aa 4)<|fC<|.l 2) k (mx e A a r N m rc DP draw .S .S .S .S .S .S .S .S .S)=k (mx e A a r N m rc DP draw (.f<|.l s) .S .S .S .S .S .S .S .S):=λk=>gs (by
  simp[mx,aW,ak,fC,aa,aR,hC,bD,hs])
 have t:∀k,aB (aW 6<|ak bD (fC<|.l 1)<|ak aR (ak bV (aa 4)<|fC<|.l 16)<|fC<|.l 3) k (mx e A a r N m rc DP draw (.f<|.l s) .S .S .S .S .S .S .S .S)=k (mx e A a r N m rc DP draw (.f<|.l s) (.f<|.l c) .S .S .S .S .S .S .S):=λk=>gs (by
  simp[mx,aW,ak,fC,aa,aR,hC,bD,bV,i_,h,hc])
 have u:∀k,aB (wF 7<|zJ φn 1 0 14 15<|aj (au 5)<|aj (ak al (aa 3)<|ak eE (aa 5)<|fC<|.l 1)<|aj (au 6)<|aj (ak aR (ak bV (aa 4)<|fC<|.l 48)<|fC<|.l 2) ao) k (mx e A a r N m rc DP draw (.f<|.l s) (.f<|.l c) .S .S .S .S .S .S .S)=k (mx e A a r o m1 rc DP draw (.f<|.l s) (.f<|.l c) (.f<|.l n) .S .S .S .S .S .S):=λk=>gs (by
  rw[hb] at en;simp[mx,wF,zJ,Mz,CK,aj,ao,au,ak,aa,fC,F.eE,P,aR,hC,bV,i_,g,en,Ha])
 have b_:oZ 1 (.i<|dz e A a r) ([cD e,.l DP,j6 rc,.l draw].map Sl.f)++(dA (16-5-2) Sl.S++[.g false A.1<|nD N,.g false A.2<|mD m])=mx e A a r N m rc DP draw .S .S .S .S .S .S .S .S .S:=rfl;constructor
 .intro l q R;have f:∀k,aB (ax (aA lx (aa 7)<|fC<|.l 8) (aU<|aK<|aj (fC<|.p "end")<|aj (a0 φs<|aj (au 4) ao) ao) ba) k (mx e A a r o m1 rc DP draw (.f<|.l s) (.f<|.l c) (.f<|.l n) .S .S .S .S .S .S)=.R (.r false<|.w [.p "end",q],mx e A a r o m1 rc DP draw (.f<|.l s) (.f<|.l c) (.f<|.l n) .S .S .S .S .S .S):=λk=>T5 (by
   have:n≥8:=l
   simp[mx,ax,aA,aa,fC,lx,this,aU,Me.V,Sl.V,aK,aj,ao,a0,au,R])
  refine HQ (m0:=mx e A a r N m rc DP draw .S .S .S .S .S .S .S .S .S) (m':=mx e A a r o m1 rc DP draw (.f<|.l s) (.f<|.l c) (.f<|.l n) .S .S .S .S .S .S) (fr:=false) rfl b_ ?_ rfl (by simp[mx,oK]) (by simp[mx,oK]);unfold nj;rw[p,t,u,f]
 intro V l a' r' N' m' U I C J W x;have T:=E.t;have j:=Kv E (i:=(n+e.t)%8) (by lia);have Q:b7 e n=e.p.getD ((n+e.t)%8).toNat ⟨#[]⟩:=rfl;rw[<-Q] at j;have O:=Uu e A a<|(r:Int)-c;have y:=Vy e A a<|(r:Int)-c;have H:=Lz e A a r;have f:∀k,aB (ax (aA lx (aa 7)<|fC<|.l 8) (aU<|aK<|aj (fC<|.p "end")<|aj (a0 φs<|aj (au 4) ao) ao) ba) k (mx e A a r o m1 rc DP draw (.f<|.l s) (.f<|.l c) (.f<|.l n) .S .S .S .S .S .S)=k (mx e A a r o m1 rc DP draw (.f<|.l s) (.f<|.l c) (.f<|.l n) .S .S .S .S .S .S):=λk=>gs (by
  have:¬n≥8:=by lia
  simp[mx,ax,aA,aa,fC,lx,this,ba])
 have w:∀k,aB (oH 1 (fC<|.p "room")<|ak eE (ak fV (aa 1)<|fC<|.p "room")<|aa 6) k (mx e A a r o m1 rc DP draw (.f<|.l s) (.f<|.l c) (.f<|.l n) .S .S .S .S .S .S)=k (mx e A a ((r:Int)-c) o m1 rc DP draw (.f<|.l s) (.f<|.l c) (.f<|.l n) .S .S .S .S .S .S):=λk=>gs (Oa (e:=e) (A:=A) (a:=a) (r:=r) rfl rfl (by
  simp[mx,ak,aa,fC,H,F.eE]))
 have G:∀k,aB (aW 8<|ak fV (aa 1)<|fC<|.p "pool") k (mx e A a ((r:Int)-c) o m1 rc DP draw (.f<|.l s) (.f<|.l c) (.f<|.l n) .S .S .S .S .S .S)=k (mx e A a ((r:Int)-c) o m1 rc DP draw (.f<|.l s) (.f<|.l c) (.f<|.l n) (.f<|.P<|e.p.map D.p) .S .S .S .S .S):=λk=>gs (by
  simp[mx,aW,ak,aa,fC,y])
 have v:∀k,aB (aW 9<|ak al (aa 8)<|ak aR (ak bD (aa 7)<|ak fV (aa 1)<|fC<|.p "turn")<|fC<|.l 8) k (mx e A a ((r:Int)-c) o m1 rc DP draw (.f<|.l s) (.f<|.l c) (.f<|.l n) (.f<|.P<|e.p.map D.p) .S .S .S .S .S)=k (mx e A a ((r:Int)-c) o m1 rc DP draw (.f<|.l s) (.f<|.l c) (.f<|.l n) (.f<|.P<|e.p.map D.p) (.f<|.p<|b7 e n) .S .S .S .S):=λk=>gs (by
  simp[mx,aW,ak,aa,fC,O,al,aR,hC,bD,j])
 have K:∀k,aB (dW 10<|f9 ao) k (mx e A a ((r:Int)-c) o m1 rc DP draw (.f<|.l s) (.f<|.l c) (.f<|.l n) (.f<|.P<|e.p.map D.p) (.f<|.p<|b7 e n) .S .S .S .S)=k (lc e A a ((r:Int)-c) o m1 rc DP draw s c n (b7 e n) [] .S .S .S):=λk=>gs (by
  simp[mx,lc,dW,f9,ao])
 have S:∀k,aB L k (lc e A a ((r:Int)-c) o m1 rc DP draw s c n (b7 e n) [] .S .S .S)=k (lc e A a' r' N' m' rc DP draw s c n (b7 e n) U I C J):=λk=>gs x;have M:U.length<=16777216:=by lia
 refine HQ (m0:=mx e A a r N m rc DP draw .S .S .S .S .S .S .S .S .S) (m':=Me.V<|lc e A a' r' N' m' rc DP draw s c n (b7 e n) U I C J) (fr:=false) rfl b_ ?_ rfl (by simp[lc,oK,Me.V,Sl.V]) (by simp[lc,oK,Me.V,Sl.V]);unfold nj;rw[p,t,u,f,w,G,v,K,S];simp[lc,aU,Me.V,Sl.V,aK,aj,ao,fC,au,aF,aa,dR]
theorem Tl(E:rW e)(U:vn e Φ dep){draw:Int}(I:uV N m)(hN:N.1.length+1<=a)(har:a+r<=64)(h3:3<=r)(J:OJ rc (dep+1))(hd:0<=draw/\draw<=9000000000):
  ∃(g:Gm) (C r':Nat) (o:Nd) (m':Int×Int),(∀A,pY Φ [cD e,.l ((dep+1:Nat):Int),j6 rc,.l draw] (dz e A a r) (A.1,nD N) (A.2,mD m)=.R (dG g,dz e A C r',nD o,mD m'))/\uV o m'/\Sub N o/\o.1.length<=C/\r'+b4 g=r+1/\C+r'=a+r/\l0 e o rc g (dep+1):=by
 obtain⟨d,w⟩:∃d:Nat,(d:Int)=1+draw/16%3:=⟨(1+draw/16%3).toNat,by lia⟩;have u:1+draw%2=1\/1+draw%2=2:=by lia
 have h:Pr (qJ rc<|1+draw%2)/\lG (qJ rc<|1+draw%2)=true:=by
  unfold qJ;split
  .exact⟨J.1,J.2.2.1⟩
  exact⟨J.2.1,J.2.2.2.1⟩
 have v:N.1.length<1000:=by lia
 refine Hh (W7 (e:=e) (a:=a) (r:=r) (c:=(d:Int)) (b:=draw/48%2) I u h.1 v) λn t s R z P H B l1=>?_;have W:=λA:Addr×Addr=>YD (φs:=bY) (L:=lQ Φ) (DP:=((dep+1:Nat):Int)) E rfl w rfl<|R A;by_cases Z:8<=n
 .obtain⟨q,Y,S⟩:=Gw hd;exact⟨.i<|rq q,a,r,t,s,λA=>(W A).1 Z _ Y,H,B,by lia,rfl,rfl,VJ S⟩
 have f:n<8:=by lia
 have p:(r:Int)-(d:Int)=((r-d:Nat):Int):=by lia
 have t0:=E.t;obtain⟨L,C,r',o,m',j,i,l,Q,K,F,X,j4,j5,G,T⟩:=Vj E U (rc:=rc) (draw:=draw) (cc:=(d:Int)) (seen:=b7 e n) J u ⟨z,f⟩ (zX E _<|by lia) d 0 a (r-d) t s [] .S .S .S H (by lia) (by lia) (by lia) (by simp;lia);have hL:L.length=d:=by
  have:=congrArg qA G
  simpa using this
 have y:∀A:Addr×Addr,lQ Φ (lc e A a ((r:Int)-(d:Int)) t s rc ((dep+1:Nat):Int) draw (1+draw%2) (d:Int) n (b7 e n) [] .S .S .S)=.R (.n,lc e A C r' o m' rc ((dep+1:Nat):Int) draw (1+draw%2) (d:Int) n (b7 e n) (L.map bB) j i l):=λA=>by
  have M:(aj (aa 6) ao) (lc e A a ((r:Int)-(d:Int)) t s rc ((dep+1:Nat):Int) draw (1+draw%2) (d:Int) n (b7 e n) [] .S .S .S)=.R [.l (d:Int)]:=by simp[lc,aj,ao,aa]
  have O:=V9 M (by lia) (by lia);unfold lQ eY;rw[O];show bF (ad 11) (iz Φ) ((dc d).map λ(k:Nat)=>D.l k) _=_;rw[jI,p];exact Q A
 have V:=λA:Addr×Addr=>(W A).2 z f C r' o m' (L.map bB) j i l (by simp;lia)<|y A;refine⟨.m (1+draw%2) (b7 e n)<|d_ L,C,r',o,m',λA=>?_,K,B.t F,X,?_,by lia,Xx u (by lia) T ?_⟩
 .have:dG (.m (1+draw%2) (b7 e n)<|d_ L)=.w [.p "move",.l<|1+draw%2,.p<|b7 e n,.w<|L.map bB]:=by
   show D.w [_,_,_,.w<|f6<|d_ L]=_;rw[Cp];rfl
  rw[this];exact V A
 .show r'+(gr (d_ L)+1)=r+1;rw[Dj];lia
 refine⟨qJ rc<|1+draw%2,d,draw/48%2,n,h.1,h.2,F _ _ P,z,f,by lia,rfl,?_⟩;show D.w [_,_,.w<|eU<|d_ L,_]=_;rw[Ah,G,jI]
def bm(e:En)(A:Addr×Addr)(a r:Int)(N:Nd)(m:Int×Int)(rc:Rc)(dep:Int)(s4 s5 s6 s7 s8 s9:Sl):Me:=
 [.f<|cD e,.i<|dz e A a r,.f<|.l dep,.f<|j6 rc,s4,s5,s6,s7,s8,s9,.g false A.1<|nD N,.g false A.2<|mD m]
theorem ul(hΦ:vn e Φ dep)(I:uV N m)(hN:N.1.length<=a)(har:a+r<=63)(hr:OJ rc (dep+1))(hw:U.length<=100):
  ∃(g:Gm) (J r':Nat) (o:Nd) (m':Int×Int),(∀A,j8 Φ (bm e A a r N m rc (dep+1:Nat) s4 s5 s6 s7 (.o<|.P U)<|.f l)=.R (.n,bm e A J r' o m' rc (dep+1:Nat) s4 s5 s6 s7 (.o<|.P<|U++[.w [l,dG g]])<|.f l))/\
   uV o m'/\Sub N o/\o.1.length<=J/\r'+b4 g=r+1/\J+r'=a+r+1/\l0 e o rc g dep:=by
 refine tL hr λs p t n x y=>?_;refine O4 (hΦ a r N m rc I hN har ⟨s,p,t,n,by lia,by lia⟩) λg J r' o m' b v k u h w j=>?_;refine⟨g,J,r',o,m',λA=>?_,v,k,u,h,w,j⟩;have b:Φ _ _ _ _=.R _:=b A;have f:U.length<16777216:=by lia
 have d:((dep+1:Nat))-1=(dep:Int):=by lia
 simp only[bm];generalize q:dz e A a r=ST at *;generalize c:dz e A _ _=ST' at *;generalize cD e=C at *;generalize nD N=NN at *;generalize nD o=NN' at *;generalize mD m=MM at *;generalize mD m'=MM' at *;generalize j6 rc=RC at *;generalize i:((dep+1:Nat):Int)=DP at *;simp[j8,vg,oA,dk,JS,xN,fX,au,zJ,Mz,CK,aj,ao,ak,aa,fC,F.eE,d,b,Ha,Jq,f]
theorem Tt(J:vn e Φ dep)(hr:OJ rc (dep+1)):
  ∀(ls) (a r) (N) (m) (o) (s9),uV N m->N.1.length<=a->a+r+ls.length<=64->o.length+ls.length<=100->
  ∃(L:List (D×Gm)) (U r':Nat) (C:Nd) (m':Int×Int) (t9:Sl),(∀A,bF (ad 9) (j8 Φ) ls (bm e A a r N m rc (dep+1:Nat) s4 s5 s6 s7 (.o<|.P o) s9)=.R (.n,bm e A U r' C m' rc (dep+1:Nat) s4 s5 s6 s7 (.o<|.P<|o++L.map bB) t9))/\
   uV C m'/\Sub N C/\C.1.length<=U/\r'+l_ L=r+ls.length/\U+r'=a+r+ls.length/\L.map (·.1)=ls/\∀p∈L,l0 e C rc p.2 dep
 |[],a,r,N,m,o,s9,I,hN,har,hw=>⟨[],a,r,N,m,s9,λA=>by simp[bF],I,Sub.s N,hN,by simp[l_],by simp,rfl,λ_ z=>by cases z⟩
 |l::ls,a,r,N,m,o,s9,I,hN,har,hw=>by
  have d:a+r+(ls.length+1)<=64:=har;have i:o.length+(ls.length+1)<=100:=hw;refine O4 (ul J (r:=r) (s4:=s4) (s5:=s5) (s6:=s6) (s7:=s7) (l:=l) I hN (by lia) hr (by lia:o.length<=100)) λg x v j b s B h y G M f=>?_;obtain⟨L,U,r',C,m',E,t,n,c,F,H,K,k,w⟩:=Tt J (s4:=s4) (s5:=s5) (s6:=s6) (s7:=s7) hr ls x v j b (o++[.w [l,dG g]]) (.f l) B y (by lia) (by simp;lia);refine⟨(l,g)::L,U,r',C,m',E,λA=>?_,n,h.t c,F,?_,by simp;lia,by rw[ar,k],λp u=>?_⟩
  .rw[bC (m1:=bm e A a r N m rc (dep+1:Nat) s4 s5 s6 s7 (.o<|.P o)<|.f l) rfl<|s A,t A,gu];rfl
  .show r'+(b4 g+l_ L)=r+(ls.length+1)
   lia
  rcases a9.mp u with q|q
  .rw[q];exact f.T c
  exact w p q
theorem Xa(E:rW e):∃v,bS (e.c.map D.l) (-1)=some (.l v):=by
 have h:=E.s;have a:e.c≠[]:=λz=>by rw[z] at h;simp at h
 refine⟨e.c.getLast a,?_⟩
 have:=Yc (e.c.dropLast.map D.l)<|D.l<|e.c.getLast a
 rwa [<-List.map_singleton,<-bP,List.dropLast_concat_getLast a] at this
theorem Qf{e:En}(h:i<e.c.length):∃v,bS (e.c.map D.l) (i:Int)=some (.l v):=by
 refine⟨e.c[i],v8 ?_⟩;rw[aT,ay h];rfl
theorem Z1{e:En}{i:Int}(o:0<=i)(h:i<e.c.length):∃v,bS (e.c.map D.l) i=some (.l v):=by
 obtain⟨v,a⟩:=Qf (e:=e) (i:=i.toNat) (by lia);exact⟨v,by rwa [show((i.toNat))=i by lia] at a⟩
section
variable {a r dep:Nat}
theorem DZ  k :aB (aW 4<|ak fV (aa 1)<|fC<|.p "at") k (bm e A a r N m rc dep .S .S .S .S .S .S)=k (bm e A a r N m rc dep (.f<|.l a) .S .S .S .S .S):=by rfl
theorem DU  k :aB (oH 1 (fC<|.p "at")<|ak bD (aa 4)<|fC<|.l 1) k (bm e A a r N m rc dep (.f<|.l a) .S .S .S .S .S)=k (bm e A (a+1:Nat) r N m rc dep (.f<|.l a) .S .S .S .S .S):=by rfl
theorem Ll(E:rW e)(o:a<=64)(h:e.c.length<=a):∃q,o4 (rq q)/\∀(A) k,aB (ax (aA lx (aa 4)<|aF bQ<|aj (aa 0) ao) (aU<|aK<|aj (fC<|.p "end")<|aj (a0 bY<|aj (a0 dC<|aj (ak bD (ak al (aa 0)<|lm vV<|fC<|.l 1)<|ak iJ (aa 4)<|aa 4)<|aj (au 4) ao) ao) ao) ba) k (bm e A (a+1:Nat) r N m rc dep (.f<|.l a) .S .S .S .S .S)=.R (.r false<|dG<|.i<|rq q,bm e A (a+1:Nat) r N m rc dep (.f<|.l a) .S .S .S .S .S):=by
 obtain⟨v,i⟩:=Xa E;refine oj (My (v+(a:Int)*a) a (by lia)) λx f c=>?_;refine oj (Gw ⟨c.1,by have:=c.2;lia⟩) λq j d=>?_;refine⟨q,d,λA k=>T5 ?_⟩;have g:Bq (a:Int):=f7 (by omega);have b:(a:Int)≥(e.c.length:Int):=by lia
 have l:-(1:Int)=-1:=rfl;show _=bd.R (Fl.r false<|.w [.p "end",rD q],_);simp only[bm];generalize dz e A ((a+1:Nat):Int) (r:Int)=ST;generalize bY=FS at *;generalize dC=FM at *;simp[cD,ax,aA,aa,aF,bQ,aj,ao,lx,b,aU,Me.V,Sl.V,aK,fC,a0,ak,lm,vV,al,i,iJ,g,bD,au,f,j]
theorem ES k(h:a<e.c.length):aB (ax (aA lx (aa 4)<|aF bQ<|aj (aa 0) ao) X ba) k (bm e A (a+1:Nat) r N m rc dep (.f<|.l a) .S .S .S .S .S)=k (bm e A (a+1:Nat) r N m rc dep (.f<|.l a) .S .S .S .S .S):=gs (by
 have b:¬(a)≥(e.c.length):=by lia
 simp only[bm];generalize dz e A _ _=ST;simp[cD,ax,aA,aa,aF,bQ,aj,ao,lx,b,ba])
theorem Lc(h:a<e.c.length)(o:a<=64):∃x,sm x/\∀(A) k,aB (aW 5<|a0 dC<|aj (ak al (aa 0)<|aa 4)<|aj (au 4) ao) k (bm e A (a+1:Nat) r N m rc dep (.f<|.l a) .S .S .S .S .S)=k (bm e A (a+1:Nat) r N m rc dep (.f<|.l a) (.f<|.l x) .S .S .S .S):=by
 obtain⟨v,d⟩:=Qf h;refine oj (My v a (by lia)) λx c b=>?_;refine⟨x,b,λA k=>gs ?_⟩;simp only[bm];generalize dz e A _ _=ST;generalize dC=FM at *;simp[cD,aW,a0,aj,ao,ak,al,aa,au,d,c]
theorem EI k:aB (aW 6<|au 5) k (bm e A (a+1:Nat) r N m rc dep (.f<|.l a) (.f<|.l x) .S .S .S .S)=k (bm e A (a+1:Nat) r N m rc dep (.f<|.l a) (.f<|.l x) (.f<|.l x) .S .S .S):=gs rfl
theorem K'(E:rW e)(hd:dep<=12)(o:sm x):∃y,(0<=y/\y<=9000000000)/\∀(A) k,aB (ax (dt<|ak fV (aa 1)<|fC<|.p "level") (aW 6<|ak bD (ak eE (aa 5)<|ak aR (aa 5)<|fC<|.l 48)<|ak aR (a0 dC<|aj (ak al (aa 0)<|ak aR (aa 2)<|aF bQ<|aj (aa 0) ao)<|aj (au 2) ao)<|fC<|.l 48) ba) k (bm e A (a+1:Nat) r N m rc dep (.f<|.l a) (.f<|.l x) (.f<|.l x) .S .S .S)=k (bm e A (a+1:Nat) r N m rc dep (.f<|.l a) (.f<|.l x) (.f<|.l y) .S .S .S):=by
 have b:=λA:Addr×Addr=>Z9 e A ((a+1:Nat):Int) r;cases l:e.l with
 |false=>
  rw[l] at b;refine⟨x,⟨o.1,by have:=o.2;lia⟩,λA k=>gs ?_⟩
  replace b:=b A
  simp only[bm];generalize dz e A _ _=ST at *;simp[ax,dt,ak,aa,fC,b,ba]
 |true=>
  rw[l] at b;have j:=E.s;have c:(0:Int)<(e.c.length:Int):=by lia
  obtain⟨v,p⟩:=Z1 (i:=(dep:Int)%(e.c.length:Int)) (hZ _<|by lia)<|hU _ c;refine oj (My v dep (by lia)) λy n q=>?_;have g:(e.c.length:Int)≠0:=by lia
  have f:e.c.length≠0:=by lia
  have d:e.c≠[]:=λz=>by rw[z] at j;simp at j
  have h:0<e.c.length:=by lia
  refine⟨x-x%48+y%48,⟨by have:=o.1;lia,by have:=o.2;lia⟩,λA k=>gs ?_⟩
  replace b:=b A
  simp only[bm];generalize dz e A ((a+1:Nat):Int) (r:Int)=ST at *;generalize dC=FM at *;simp[cD,ax,dt,ak,aa,fC,b,aW,aR,hC,bD,F.eE,a0,aj,ao,al,aF,bQ,f,h,p,au,n]
abbrev DN:oa:=(iI (aA cr (aa 2)<|fC<|.l 0)<|iI (aA lw (ak fV (aa 1)<|fC<|.p "room")<|fC<|.l 3)<|cz (aA cr (ak aR (aa 6)<|fC<|.l 8)<|fC<|.l 0)<|aA d3 (aa 4)<|fC<|.l 0)
theorem c7:DN (bm e A (a+1:Nat) r N m rc dep (.f<|.l a) (.f<|.l x) (.f<|.l y) .S .S .S)=.R (decide<|dep=0\/r<3\/(y%8=0/\0<a)):=by
 have i:=Lz e A ((a+1:Nat)) r;simp only[bm];generalize dz e A _ _=ST at *;by_cases f:dep=0
 .simp[DN,iI,aA,aa,fC,f]
 have c:¬(dep:Int)=0:=by lia
 by_cases g:r<3
 .have b:(r:Int)<3:=by lia
  simp[DN,iI,aA,aa,fC,f,ak,i,lw,g,b]
 have b:¬(r:Int)<3:=by lia
 by_cases h:y%8=0
 .have k:y.emod 8=0:=h;by_cases j:0<a
  .have d:(a:Int)>0:=by lia
   simp[DN,iI,cz,aA,aa,fC,f,ak,i,lw,g,b,aR,hC,h,d3,j]
  have d:¬(a:Int)>0:=by lia
  simp[DN,iI,cz,aA,aa,fC,f,ak,i,lw,g,b,aR,hC,h,d3,j]
 simp[DN,iI,cz,aA,aa,fC,f,ak,i,lw,g,b,aR,hC,h]
theorem K_(o:sm x)(h:dep=0\/r<3\/(y%8=0/\0<a)):∃q,o4 (rq q)/\∀(A) k,aB (ax DN (aU<|aK<|aj (fC<|.p "end")<|aj (a0 bY<|aj (au 5) ao) ao) ba) k (bm e A (a+1:Nat) r N m rc dep (.f<|.l a) (.f<|.l x) (.f<|.l y) .S .S .S)=.R (.r false<|dG<|.i<|rq q,bm e A (a+1:Nat) r N m rc dep (.f<|.l a) (.f<|.l x) (.f<|.l y) .S .S .S):=by
 refine oj (Gw (x:=x) ⟨o.1,by have:=o.2;lia⟩) λq d b=>?_;refine⟨q,b,λA k=>T5 ?_⟩;have c:=c7 (e:=e) (A:=A) (a:=a) (r:=r) (dep:=dep) (N:=N) (m:=m) (rc:=rc) (x:=x) (y:=y);rw[decide_eq_true h] at c;unfold ax;rw[c];show aU _ _=bd.R (Fl.r false<|.w [.p "end",rD q],_);simp only[bm];generalize dz e A ((a+1:Nat):Int) (r:Int)=ST;generalize bY=FS at *;simp[aU,Me.V,Sl.V,aK,aj,ao,fC,a0,au,d]
theorem F_ k(h:¬(dep=0\/r<3\/(y%8=0/\0<a))):aB (ax DN X ba) k (bm e A (a+1:Nat) r N m rc dep (.f<|.l a) (.f<|.l x) (.f<|.l y) .S .S .S)=k (bm e A (a+1:Nat) r N m rc dep (.f<|.l a) (.f<|.l x) (.f<|.l y) .S .S .S):=gs (by
 have c:=c7 (e:=e) (A:=A) (a:=a) (r:=r) (dep:=dep) (N:=N) (m:=m) (rc:=rc) (x:=x) (y:=y);rw[decide_eq_false h] at c;unfold ax;rw[c];rfl)
theorem K2(h:y%8>2){U:Bf}{J r':Nat}(I:U [cD e,.l (dep:Int),j6 rc,.l y] (dz e A (a+1:Nat) r) (A.1,nD N) (A.2,mD m)=.R (d,dz e A J r',nD o,mD m')) k :
  aB (ax (aA d3 (ak aR (aa 6)<|fC<|.l 8)<|fC<|.l 2) (zH<|zJ U 1 1 10 11<|aj (au 0)<|aj (au 2)<|aj (au 3)<|aj (au 6) ao) ba) k (bm e A (a+1:Nat) r N m rc dep (.f<|.l a) (.f<|.l x) (.f<|.l y) .S .S .S)=.R (.r false d,bm e A J r' o m' rc dep (.f<|.l a) (.f<|.l x) (.f<|.l y) .S .S .S):=T5 (by
 simp only[bm];generalize dz e A _ _=ST at *;generalize dz e A _ _=ST' at *;generalize cD e=C at *;generalize nD N=NN at *;generalize nD o=NN' at *;generalize mD m=MM at *;generalize mD m'=MM' at *;generalize j6 rc=RC at *;simp[ax,aA,ak,aa,fC,aR,hC,d3,h,zH,zJ,Mz,CK,aj,ao,au,I,Ha])
theorem L0(h:¬y%8>2) k :
  aB (ax (aA d3 (ak aR (aa 6)<|fC<|.l 8)<|fC<|.l 2) X ba) k (bm e A (a+1:Nat) r N m rc dep (.f<|.l a) (.f<|.l x) (.f<|.l y) .S .S .S)=k (bm e A (a+1:Nat) r N m rc dep (.f<|.l a) (.f<|.l x) (.f<|.l y) .S .S .S):=gs (by
 simp only[bm];generalize dz e A _ _=ST at *;simp[ax,aA,ak,aa,fC,aR,hC,d3,h,ba])
theorem K0(o:c=1+y/16%3) k :aB (aW 7<|ak bD (fC<|.l 1)<|ak aR (ak bV (aa 6)<|fC<|.l 16)<|fC<|.l 3) k (bm e A (a+1:Nat) r N m rc dep (.f<|.l a) (.f<|.l x) (.f<|.l y) .S .S .S)=k (bm e A (a+1:Nat) r N m rc dep (.f<|.l a) (.f<|.l x) (.f<|.l y) (.f<|.l c) .S .S):=gs (by
 have b:Bq 16:=f7 (by decide);simp only[bm];generalize dz e A _ _=ST at *;simp[aW,ak,aa,fC,aR,hC,bD,bV,i_,b,o])
theorem LD{r1:Nat}(o:(r:Int)-c=r1) k :aB (oH 1 (fC<|.p "room")<|ak eE (ak fV (aa 1)<|fC<|.p "room")<|aa 7) k (bm e A (a+1:Nat) r N m rc dep (.f<|.l a) (.f<|.l x) (.f<|.l y) (.f<|.l c) .S .S)=k (bm e A (a+1:Nat) r1 N m rc dep (.f<|.l a) (.f<|.l x) (.f<|.l y) (.f<|.l c) .S .S):=gs (by
 have b:=Lz e A ((a+1:Nat):Int) r
 have:=Oa (r':=(r1:Int)) (fk:=fC<|.p _) (fv:=ak eE (ak fV (aa 1)<|fC<|.p "room")<|aa 7) (i:=1) (m:=bm e A (a+1:Nat) r N m rc dep (.f<|.l a) (.f<|.l x) (.f<|.l y) (.f<|.l c) .S .S) rfl rfl (by simp only[bm];generalize dz e A _ _=ST at *;simp[ak,aa,fC,b,F.eE,o])
 exact this)
theorem LO k:aB (dW 8<|f9 ao) k (bm e A (a+1:Nat) r N m rc dep (.f<|.l a) (.f<|.l x) (.f<|.l y) (.f<|.l c) .S .S)=k (bm e A (a+1:Nat) r N m rc dep (.f<|.l a) (.f<|.l x) (.f<|.l y) (.f<|.l c) (.o<|.P []) .S):=gs rfl
theorem MR(E:rW e)(C:o.length<=100):aU (aK<|aj (fC<|.p "deal")<|aj (ak al (ak fV (aa 1)<|fC<|.p "pool")<|ak aR (ak bV (aa 5)<|fC<|.l 48)<|fC<|.l 8)<|aj (aF dR<|aj (aa 8) ao) ao) (bm e A a r N m rc dep s4 (.f<|.l y) s6 s7 (.o<|.P o) s9)=.R (.r false<|.w [.p "deal",.p<|e.p.getD (y/48%8).toNat ⟨#[]⟩,.w o],Me.V<|bm e A a r N m rc dep s4 (.f<|.l y) s6 s7 (.o<|.P o) s9):=by
 have f:=Vy e A a r;have c:=Kv E (i:=y/48%8) (by lia);have b:Bq 48:=f7 (by decide);have d:o.length<=16777216:=by lia
 generalize e.p.getD _ _=Z at *;simp only[bm];generalize dz e A _ _=ST at *;simp[aU,Me.V,Sl.V,aK,aj,ao,fC,ak,aa,f,al,aR,hC,bV,i_,b,c,aF,dR]
end
theorem CP:wG (bm e A a r N m rc dep s4 s5 s6 s7 s8 s9) 1=some (dz e A a r)/\oK (bm e A a r N m rc dep s4 s5 s6 s7 s8 s9) (12-2) A.1=some (nD N)/\oK (bm e A a r N m rc dep s4 s5 s6 s7 s8 s9) (12-1) A.2=some (mD m):=⟨rfl,by simp[bm,oK],by simp[bm,oK]⟩
theorem K5:wG (Me.V<|bm e A a r N m rc dep s4 s5 s6 s7 s8 s9) 1=some (dz e A a r)/\oK (Me.V<|bm e A a r N m rc dep s4 s5 s6 s7 s8 s9) (12-2) A.1=some (nD N)/\oK (Me.V<|bm e A a r N m rc dep s4 s5 s6 s7 s8 s9) (12-1) A.2=some (mD m):=⟨rfl,by simp[bm,oK,Me.V,Sl.V],by simp[bm,oK,Me.V,Sl.V]⟩
theorem VT{FS:b8}(h:FS [x,c]=.R (true,.P ls))(k:bF (ad 9) B ls (bm e A a r N m rc dep s4 (.f x) s6 (.f c) s8 s9)=R):
  eY (cT<|a0 FS<|aj (au 5)<|aj (au 7) ao) (ad 9) B (bm e A a r N m rc dep s4 (.f x) s6 (.f c) s8 s9)=R:=by
 have b:cT (a0 FS<|aj (au 5)<|aj (au 7) ao) (bm e A a r N m rc dep s4 (.f x) s6 (.f c) s8 s9)=.R ls:=by
  simp only[bm];generalize dz e A a r=ST;simp[cT,a0,aj,ao,au,h]
 unfold eY;rw[b];exact k
theorem Qz n:bz (n+1)=F.eA 1 12 4 (fW bY dC (bz n)<|gM<|bz n):=by rw[bz]
theorem QZ(E:rW e)(hd:dep<=12)(ih:∀d,d+1=dep->vn e (bz n) d):vn e (bz<|n+1) dep:=by
 rw[Qz];intro a r N m b I hN har J;have b_:∀A:Addr×Addr,oZ 1 _ ([cD e,.l (dep:Int),j6 b].map Sl.f)++(dA (12-4-2) _++[.g false (A.1,nD N).1 (A.1,nD N).2,.g false (A.2,mD m).1 (A.2,mD m).2])=bm e A a r N m b _ .S .S .S .S .S .S:=λ_=>rfl;have fin:∀(q:Rat) (V O X Q o s9:Sl),o4 (rq q)->(∀A:Addr×Addr,(fW bY dC (bz n)<|gM<|bz n) (bm e A a r N m b dep .S .S .S .S .S .S)=.R (.r false<|dG<|.i<|rq q,bm e A (a+1:Nat) r N m b dep V O X Q o s9))->vw e (λA=>F.eA 1 12 4 (fW bY dC (bz n)<|gM<|bz n) [cD e,.l (dep:Int),j6 b] (dz e A a r) (A.1,nD N) (A.2,mD m)) a r N b dep:=λq V O X Q o s9 u v=>
  ⟨.i<|rq q,a+1,r,N,m,λA=>HQ rfl (b_ A) (v A) CP.1 CP.2.1 CP.2.2,I,Sub.s N,by lia,rfl,by lia,VJ u⟩
 by_cases j:e.c.length<=a
 .refine oj (Ll (r:=r) (N:=N) (m:=m) (rc:=b) (dep:=dep) E (by lia) j) λq u v=>?_;refine fin q (.f<|.l a) .S .S .S .S .S u λA=>?_;unfold fW;rw[DZ,DU,v]
 have j:a<e.c.length:=by lia
 refine oj (Lc (r:=r) (N:=N) (m:=m) (rc:=b) (dep:=dep) j (by lia)) λx B P=>?_;refine oj (K' (a:=a) (r:=r) (N:=N) (m:=m) (rc:=b) E hd B) λy hy S=>?_;by_cases H:dep=0\/r<3\/(y%8=0/\0<a)
 .refine oj (K_ (e:=e) (N:=N) (m:=m) (rc:=b) B H) λq u v=>?_;refine fin q (.f<|.l a) (.f<|.l x) (.f<|.l y) .S .S .S u λA=>?_;unfold fW;rw[DZ,DU,ES _ j,P,EI,S,v]
 obtain⟨dep,rfl⟩:∃d,dep=d+1:=⟨dep-1,by lia⟩;have w:=ih dep rfl;by_cases C:y%8>2
 .refine O4 (Tl E w (a:=a+1) (r:=r) (draw:=y) I (by lia) (by lia) (by lia) J hy) λg p i k h em R T W M U z=>?_;refine⟨g,p,i,k,h,λA=>HQ (fr:=false) (m':=bm e A p i k h b ((dep+1:Nat):Int) (.f<|.l a) (.f<|.l x) (.f<|.l y) .S .S .S) rfl (b_ A) ?_ CP.1 CP.2.1 CP.2.2,R,T,W,M,by lia,z⟩;unfold fW;rw[DZ,DU,ES _ j,P,EI,S,F_ _ H,K2 C<|em A]
 obtain⟨f,G⟩:∃f:Nat,(f:Int)=1+y/16%3:=⟨(1+y/16%3).toNat,by lia⟩;refine Eb (Q9 (x:=x) (c:=f) B<|by lia) λl el hl s Y=>?_;obtain⟨L,p,i,k,h,Z,eL,R,T,W,M,U,z,j7⟩:=Tt w (rc:=b) (s4:=.f<|.l a) (s5:=.f<|.l x) (s6:=.f<|.l y) (s7:=.f<|.l (f:Int)) J (l.map rD) (a+1) (r-f) N m [] .S I (by lia) (by simp;lia) (by simp;lia);rw[aE,s] at M U;have hL:L.length=f:=by
  have:=congrArg qA z
  simpa[s] using this
 have K:∀A:Addr×Addr,gM (bz n) (bm e A (a+1:Nat) (r-f:Nat) N m b ((dep+1:Nat):Int) (.f<|.l a) (.f<|.l x) (.f<|.l y) (.f<|.l (f:Int)) (.o<|.P []) .S)=.R (.n,bm e A p i k h b ((dep+1:Nat):Int) (.f<|.l a) (.f<|.l x) (.f<|.l y) (.f<|.l (f:Int)) (.o<|.P<|L.map bB) Z):=λA=>by
  unfold gM;exact VT el<|eL A
 refine⟨.f (e.p.getD (x/48%8).toNat ⟨#[]⟩)<|d_ L,p,i,k,h,λA=>HQ (fr:=false) (m':=Me.V<|bm e A p i k h b ((dep+1:Nat):Int) (.f<|.l a) (.f<|.l x) (.f<|.l y) (.f<|.l (f:Int)) (.o<|.P<|L.map bB) Z) rfl (b_ A) ?_ K5.1 K5.2.1 K5.2.2,R,T,W,?_,by lia,Z2 (by lia) j7 ?_ ?_⟩
 .unfold fW;rw[DZ,DU,ES _ j,P,EI,S,F_ _ H,L0 C,K0 G,LD (r1:=r-f) (by lia),LO,gs<|K A,MR E (by simp;lia)];show _=bd.R (Fl.r false<|D.w [_,_,.w<|f6<|d_ L],_);rw[Cp];rfl
 .show i+(gr (d_ L)+1)=r+1;rw[Dj];lia
 .exact⟨l,by rw[Ah,z],hl,by lia,Y⟩
 have t:(x/48%8).toNat<e.p.length:=by rw[E.a];lia
 rw[cp,ay t];exact nV t
theorem O8(E:rW e):∀n dep,dep+1<=n->dep<=12->vn e (bz n) dep
 |0,dep,h,_=>by lia
 |n+1,dep,h,hd=>QZ E hd λd a=>O8 E n d (by lia)<|by lia
theorem ri{l:List Str}(I:l.Nodup)(o:i<l.length)(C:j<l.length)(h:l.getD i d=l.getD j d):i=j:=by
 rw[cp,cp,ay o,ay C] at h;have h:=h;rcases Nat.lt_trichotomy i j with q|q|q
 .exact absurd h<|(xi.mp I) i j o C q
 .exact q
 exact absurd h.symm<|(xi.mp I) j i C o q
theorem Wb(E:rW e)(C:e.p.Nodup)(I:uV N m)(o:s=1\/s=2)(h:md e N s nm d)(h':md e N s nm d'):d=d':=by
 refine Z_48 h λt c b n p F v B z G u zq11=>?_;subst zq11;refine Z_48 h' λa i r j w M x H K A l zq11=>?_;subst zq11;have y:b7 e n=b7 e j:=by rw[<-u,<-l]
 have g:=E.a
 have:=ri C (by lia) (by lia) y
 have k:n=j:=by lia
 subst k;obtain⟨q,f⟩:=I.inj s t c b a i r _ o p w v x;have f:c=i:=by lia
 subst q f;rfl
theorem Ig(E:rW e) n :∀l:List Nat,lG (l.map λ(k:Nat)=>D.p<|da e n k)=true/\gY (l.map λ(k:Nat)=>D.p<|da e n k)=0
 |[]=>⟨rfl,rfl⟩
 |k::l=>by
  obtain⟨a,c⟩:=Ig E n l;have b:gE (da e n k)=true:=zX E _ (by have:=E.t;lia);exact⟨by simp[lG,ef,b,a],by simp[gY,gJ,c]⟩
theorem YS:∀{rc:List D},Pr rc->gY rc<=1
 |[],_=>eK _
 |d::rc,h=>by
  refine ZU (h d ai) λa b zq2=>?_;subst zq2
  have:=YS λx c=>h x<|af _ c
  simp[gY,gJ]
  lia
theorem Ue(E:rW e) n :gE (b7 e n)=true:=zX E _ (by lia)
theorem Ik(E:rW e)(h:md e N s nm d):FK d:=by
 refine Z_48 h λr c b n i f m l k q zq10 zq11=>?_;subst zq10;subst zq11;obtain⟨a,g⟩:=Ig E n<|dc c;have p:=YS i;have j:=Ue E n;refine⟨by simp[ef,lG,j,a,f],?_⟩;simp only[gJ,gY,g]
 lia
mutual
theorem Sx:∀(w:List Int) (r:Rc) (g:Gm),gP g->∀p∈dL w r g,gP p.2.1
 |w,r,.i d,h,p,hp=>by
  have:p=(w,.i d,r):=by simpa[dL] using hp
  rw[this];exact h
 |w,r,.f n ws,h,p,hp=>by
  rcases a9.mp (show p∈(w,Gm.f n ws,r)::g6 w (λ_=>r) 0 ws from hp) with e|e
  .rw[e];exact h
  exact KC w _ 0 ws h.2 p e
 |w,r,.m s n ws,h,p,hp=>by
  rcases a9.mp (show p∈(w,Gm.m s n ws,r)::g6 w (f8 s n r) 0 ws from hp) with e|e
  .rw[e];exact h
  exact KC w _ 0 ws h.2 p e
theorem KC:∀(w:List Int) (f:D->Rc) (i:Nat) (o:Ws),Ac o->∀p∈g6 w f i o,gP p.2.1
 |w,f,i,.f,_,p,hp=>by cases hp
 |w,f,i,.e l g r,h,p,hp=>by
  rcases bE.mp (show p∈dL (w++[(i:Int)]) (f l) g++g6 w f (i+1) r from hp) with e|e
  .exact Sx _ _ g h.1 p e
  exact KC w f (i+1) r h.2 p e
end
noncomputable def EH:D->Str
 | .w [_,.p n,_,_]=>n
 |_=>⟨#[]⟩
def y0(d:D):List Kt:=kn (im d)<|EH d
def TI(T:Tb):Prop:=T.1=T.2.map y0/\T.1.Nodup
theorem Vn:∀(l:List Tr) (T),TI T->TI (l.foldl eu T)
 |[],T,h=>h
 |p::l,T,h=>Vn l _ ((by
  unfold eu;split
  .rename_i s n i m;split
   .exact h
   rename_i q;have c:T.1.length=T.2.length:=by rw[h.1];simp
   have k:=λg=>by
    have:∀{ks:List _} {ds:List D},ks.length=ds.length->kn s n∈ks->(cG ks ds<|kn s n).isSome=true:=by
     intro ks;induction ks with
     |nil=>intro ds _ h;cases h
     |cons a ks ih=>
      intro ds c h;cases ds with
      |nil=>simp at c
      |cons x ds=>
       unfold cG;by_cases d:a=kn s n
       .rw[if_pos d];rfl
       rw[if_neg d];rcases a9.mp h with e|e
       .exact absurd e.symm d
       exact ih (by simpa using c) e
    exact q<|this c g
   refine⟨?_,?_⟩
   .rw[bP,<-h.1];rfl
   rw[List.nodup_append];exact⟨h.2,by simp,λa f b j=>by rw[cS.mp j];exact λz=>k<|z▸f⟩
  exact h))
theorem oe:∀{l p:List Str},l.Nodup->(∀x∈l,x∈p)->l.length<=p.length
 |[],p,_,_=>eK _
 |a::l,p,nd,h=>by
  have d:=h a ai;have b:=pf.mp nd
  have:=oe b.2 λx c=>(List.mem_erase_of_ne λ(z:x=a)=>b.1 (by rw[<-z];exact c)).mpr<|h x<|af _ c
  rw[List.length_erase_of_mem d] at this
  have:=List.length_pos_of_mem d
  simp only[cm]
  lia
theorem re(E:rW e) n :b7 e n∈e.p:=by grind[E.a,cp,ay,b7]
theorem W6(G:l0 e N rc g dep)(h:d∈(h6<|dL [] rc g).2):∃s n,(s=1\/s=2)/\md e N s n d:=by
 rcases Fz _ _ d h with z|⟨p,b,s,n,f,a,rfl⟩
 .cases z
 have c:=G.f [] p b;have i:=Qp [] rc g G.mt G.s p b;obtain⟨w,q,r⟩:=p;subst a;exact⟨s,n,i.1,c⟩
theorem QE(h:md e N s n d):j3 d<=3:=by
 refine Z_48 h λa c b k _ _ _ _ _ f _ zq11=>?_;subst zq11;simpa[j3] using f.2
theorem Zg(E:rW e)(G:l0 e N rc g dep) s :DM (h6<|dL [] rc g).2 s:=by
 have T:=Vn (dL [] rc g) ([],[]) ⟨rfl,List.nodup_nil⟩;generalize r:(h6<|dL [] rc g).2=R at *;have f:∀d∈R,∃s n,(s=1\/s=2)/\md e N s n d:=λd hd=>W6 G (by rw[r];exact hd);have A:((dL [] rc g).foldl eu _).2=R:=r;obtain⟨q,p⟩:=T;rw[A] at q;rw[q] at p;have y:(R.filter λd=>decide<|im d=s).Pairwise λa b=>y0 a≠y0 b:=by
  have:=(rg.mp p)
  exact this.sublist List.filter_sublist
 have j:((R.filter λd=>decide<|im d=s).map EH).Nodup:=by
  refine rg.mpr<|y.imp_of_mem λ{a b} B w h z=>h ?_;have v:im a=s:=by simpa using(ix.mp B).2
  have t:im b=s:=by simpa using(ix.mp w).2
  unfold y0;rw[v,t,z]
 have sub:∀x∈(R.filter λd=>decide<|im d=s).map EH,x∈e.p:=λx i=>by
  refine oj (d4.mp i) λd hd zq2=>?_;subst zq2;obtain⟨_,n,_,u,c,b,k,_,_,_,_,_,_,rfl,rfl⟩:=f d (ix.mp hd).1;exact re E k
 have m:=oe j sub;rw[aE,E.a] at m;have H:∀l:List D,(∀d∈l,∃s n,(s=1\/s=2)/\md e N s n d)->(l.map λd=>(j3 d:Int)).sum<=3*l.length:=by
  intro l;induction l with
  |nil=>intro _;simp
  |cons d l ih=>
   intro h
   have:=ih λx i=>h x<|af _ i
   refine Y' (h d ai) λ_ n _ F=>?_;have K:=QE F;simp only[ar,i8,cm]
   lia
 exact⟨m,CO (H _ λd hd=>f d (ix.mp hd).1)<|by lia⟩
theorem Mc(E:rW e)(o:e.p.Nodup)(I:uV N m)(hd:dep<=12)(G:l0 e N ([],[]) g dep)(hz:b4 g<=64):Gd g where
 mt:=G.mt
 s:=G.s
 d:=dS G.d hd
 sz:=hz
 r:=by
  classical
  refine⟨λs n=>if h:∃d,md e N s n d then ku h else .E,λp c s n f i=>?_⟩;have a:=G.f [] p c;have k:=Qp [] _ g G.mt G.s p c;obtain⟨w,q,r⟩:=p;subst i;have b:∃d,md e N s n d:=⟨_,a⟩;have j:=Wb E o I k.1 a<|eT b;simp only[dif_pos b];exact⟨j,Ik E<|eT b⟩
 f:=λp c=>by
  have a:=G.f [] p c;refine⟨?_,Sx [] _ g G.mt p c⟩;obtain⟨w,q,r⟩:=p;cases q with
  |i d=>exact a.1
  |f n f=>exact a.1
  |m s n f=>trivial
 t:=Zg E G 1
 a:=Zg E G 2
def n_(e:En)(turn:Int)(rm dep:Nat)(s5 s6 s7:Sl):Me:=[.f<|cD e,.f<|.l turn,.f<|.l (dep:Int),.f<|.l (rm:Int),.f<|.P<|e.p.map D.p,s5,s6,s7]
theorem Rs(e:En)(rm:Nat) o C :Qe [] [] [(.p "at",.l 0),(.p "room",.l (rm:Int)),(.p "names",.J o),(.p "many",.J C),(.p "pool",.P<|e.p.map D.p)]=some ([sk "at",sk "room",sk "names",sk "many",sk "pool"],[.l 0,.l (rm:Int),.J o,.J C,.P<|e.p.map D.p]):=by
 simp[Qe,Mm,kd,sk]
theorem Zj{Φ : Bf} {rm dep : Nat} (o : e.t = turn % 64) (C : e.l = decide (turn / 64 % 2 = 1))
    (h : ∀ A : Addr × Addr, ∃ s n m, Φ [cD e, .l (dep : Int), j6 ([], [])] (dz e A 0 (rm : Int)) (A.1, nD ([], [])) (A.2, mD (0, 0)) = .R (d, s, n, m)) :
    aV 8 5 (ug Φ) [cD e, .l turn, .l (dep : Int), .l (rm : Int), .P (e.p.map D.p)] = .R (false, d) := by
  have f : Bq 64 := f7 (by decide);have H : ∀ a b : Addr, a ≠ b → ∃ i, ((b6 (Qe [] [] [(.p "at", .l 0), (.p "room", .l (rm : Int)), (.p "names", .J a), (.p "many", .J b), (.p "pool", .P (e.p.map D.p))])).s λr => (aB (oH 5 (fC (.p "turn")) (ak aR (aa 1) (fC (.l 64))))
 (aB (oH 5 (fC (.p "level")) (qj cr (ak aR (ak bV (aa 1) (fC (.l 64))) (fC (.l 2))) (fC (.l 1))))
 (zH (zJ Φ 5 1 6 7 (aj (au 0) (aj (au 2) (aj (f9 (aj (aK ao) (aj (aK ao) ao))) ao))))))) (((n_ e turn rm dep .S .S .S).set 5 (.o (.L r.1 r.2))).set 6 (.g true a (nD ([], []))) |>.set 7 (.g true b (mD (0, 0))))) = .R (.r false d, i) ∧ i.length = (n_ e turn rm dep .S .S .S).length := by
    intro a b l;obtain ⟨s, n, m, c⟩ := h (a, b);refine ⟨n_ e turn rm dep (.o s) (.g true a n) (.g true b m), ?_, rfl⟩;rw [Rs];simp only [vy, bd.y];have j : ∀ k, aB (oH 5 (fC (.p "turn")) (ak aR (aa 1) (fC (.l 64)))) k (n_ e turn rm dep (.o (.L [sk "at", sk "room", sk "names", sk "many", sk "pool"] [.l 0, .l (rm : Int), .J a, .J b, .P (e.p.map D.p)])) (.g true a (nD ([], []))) (.g true b (mD (0, 0)))) = k (n_ e turn rm dep (.o (.L [sk "at", sk "room", sk "names", sk "many", sk "pool", sk "turn"] [.l 0, .l (rm : Int), .J a, .J b, .P (e.p.map D.p), .l e.t])) (.g true a (nD ([], []))) (.g true b (mD (0, 0)))) := λk => gs (by
      simp [n_, oH, ak, aa, fC, aR, hC, KR, Mm, Oz, kd, sk, o])
    have q : ∀ k, aB (oH 5 (fC (.p "level")) (qj cr (ak aR (ak bV (aa 1) (fC (.l 64))) (fC (.l 2))) (fC (.l 1)))) k (n_ e turn rm dep (.o (.L [sk "at", sk "room", sk "names", sk "many", sk "pool", sk "turn"] [.l 0, .l (rm : Int), .J a, .J b, .P (e.p.map D.p), .l e.t])) (.g true a (nD ([], []))) (.g true b (mD (0, 0)))) = k (n_ e turn rm dep (.o (dz e (a, b) 0 (rm : Int))) (.g true a (nD ([], []))) (.g true b (mD (0, 0)))) := λk => gs (by
      simp [n_, oH, qj, ak, aa, fC, aR, hC, bV, i_, f, KR, Mm, Oz, kd, sk, dz, Xl, C])
    show aB _ _ (n_ e turn rm dep (.o (.L [sk "at", sk "room", sk "names", sk "many", sk "pool"] [.l 0, .l (rm : Int), .J a, .J b, .P (e.p.map D.p)])) (.g true a (nD ([], []))) (.g true b (mD (0, 0)))) = _;rw [j, q];simp only [n_, j6] at c ⊢;generalize dz e (a, b) 0 (rm : Int) = ST at *;generalize nD ([], []) = NN at *;generalize mD (0, 0) = MM at *;simp [zH, zJ, Mz, CK, aj, ao, au, f9, aK, c, Ha]
  have g := VX H;have b_ : [cD e, .l turn, .l (dep : Int), .l (rm : Int), .P (e.p.map D.p)].map Sl.f ++ dA (8 - 5) Sl.S = n_ e turn rm dep .S .S .S := rfl;have p : ug Φ (n_ e turn rm dep .S .S .S) = .R (.r false d, (n_ e turn rm dep .S .S .S).map λ_ => .S) := by
    rw [<-g];rfl
  have t : [cD e, .l turn, .l (dep : Int), .l (rm : Int), .P (e.p.map D.p)].length = 5 := rfl;unfold aV;rw [if_pos t, b_, p]
theorem V_(E:rW e){rm dep:Nat}(hd:dep<=12)(o:rm<=63)(C:e.t=turn%64)(J:e.l=decide (turn/64%2=1)):
  ∃(g:Gm) (N:Nd) (m:Int×Int),tY [cD e,.l turn,.l (dep:Int),.l (rm:Int),.P<|e.p.map D.p]=.R (false,dG g)/\uV N m/\b4 g<=rm+1/\l0 e N ([],[]) g dep:=by
 refine O4 (O8 E 13 _ (by lia) hd 0 rm ([],[]) (0,0) ([],[]) (⟨rfl,by simp,by simp,λ_ _ _ _ _ _ _ h=>by simp[cG] at h,λ_ _ _ _ _ _ _ _ _ _ _ h=>by simp[cG] at h⟩) (by simp) (by lia) ⟨(λ_ z=>nomatch z),(λ_ z=>nomatch z),rfl,rfl,by simpa using hd,by simpa using hd⟩) λg d b N m a I _ _ c _ G=>?_;exact⟨g,N,m,Zj C J λA=>⟨_,_,_,a A⟩,I,by lia,G⟩
theorem hW(ns:List Int)(k:Nat)(hz:ns.length<=1000):∃v,dw [.P<|ns.map D.l,.l (k:Int)]=.R (false,.l v):=by
 by_cases h:k<ns.length
 .have b:bS (ns.map D.l) _=some (.l ns[k]):=v8 (by rw[aT,ay h];rfl);have a:(k:Int)<(ns.length:Int):=by lia
  exact⟨ns[k],by simp[dw,nA,nu,aV,aB,ax,aA,aa,aF,bQ,aj,ao,lw,a,aU,Me.V,Sl.V,ak,al,b]⟩
 have a:¬(k:Int)<(ns.length:Int):=by lia
 exact⟨0,by simp[dw,nA,nu,aV,aB,ax,aA,aa,aF,bQ,aj,ao,lw,a,aU,Me.V,Sl.V,ba,fC]⟩
noncomputable def ss:List Nat:=[97,98,99,100,101,102,103,104,105,106,107,108,109,110,111,112,113,114,115,116,117,118,119,120,121,122,48,49,50,51,52,53,54,55,56,57]
theorem Qb:dP "abcdefghijklmnopqrstuvwxyz0123456789" = tx ss:=by decide +kernel
theorem Iq:∀c∈ss,c<128:=by decide
def g_(i:Int):Nat:=ss.getD i.toNat 0
theorem Fj(h:0<=i/\i<36):g_ i∈ss:=by
 have a:i.toNat<ss.length:=by show i.toNat<36;lia
 unfold g_;rw[cp,ay a];exact nV a
theorem S'(h:0<=i/\i<36)(h':0<=j/\j<36)(e:g_ i=g_ j):i=j:=by
 have b:i.toNat<ss.length:=by show i.toNat<36;lia
 have a:j.toNat<ss.length:=by show j.toNat<36;lia
 unfold g_ at e;rw[cp,ay b,cp,ay a] at e
 have:=(List.getElem_inj<|by decide).mp e
 lia
theorem Hx(h:0<=i/\i<36):al (.p "abcdefghijklmnopqrstuvwxyz0123456789") (.l i)=some (.p<|tx [g_ i]):=by
 rw[Qb];have a:i.toNat<ss.length:=by show i.toNat<36;lia
 have e:bS ss i=some (g_ i):=by
  have:=v8<|ay a
  rw[show((i.toNat))=i by lia] at this;rw[this];unfold g_;rw[cp,ay a];rfl
 show(if(tx ss).length<=aw then(bS _ i).map λc=>D.p _ else none)=_;rw[if_pos (by decide),FQ,e];rfl
theorem EK:aw=16777216:=rfl
theorem YF(h:a.length+b.length<=1000):bD (.p<|tx a) (.p<|tx b)=some (.p<|tx<|a++b):=by
 show(if(tx a).length+(tx b).length<=aw then some _ else none)=_;rw[if_pos (by rw[zF,zF,EK];lia),RE]
theorem H7(C:0<=i)(o:i<=w.length)(I:w.length<=1000):v_ (.p<|tx w) none (some i)=some (.p<|tx<|w.take i.toNat):=by
 show(if(tx w).length<=aw then some _ else none)=_;rw[if_pos (by rw[zF,EK];lia)]
 have:=StrLaws.sliceText_to ⟨C,by rw[FQ];exact o⟩
 rw[show AG _ _ _=CA _ _ _ from rfl,this];simp[tx]
theorem Ym(C:0<=i)(o:i<=w.length):AG (tx w) (some i) none=tx (w.drop i.toNat):=by
 have:=StrLaws.sliceText_from ⟨C,by rw[FQ];exact o⟩
 rw[show AG _ _ _=CA _ _ _ from rfl,this];refine SM ?_;rw[FQ];exact iP (by rw[kr];omega)
theorem Ts(C:0<=i)(o:i<=w.length)(I:w.length<=1000):v_ (.p<|tx w) (some i) none=some (.p<|tx<|w.drop i.toNat):=by
 show(if(tx w).length<=aw then some (D.p<|AG (tx w) (some i) none) else none)=_;rw[if_pos (by rw[zF,EK];lia),Ym C o]
noncomputable def CQ(w:List Nat):List Nat:=w++w++w++w++w++w++w++w
theorem LU(h:1<=w.length)(o:w.length<=100):VL (.l 8) (.p<|tx w)=some (.p<|tx<|CQ w):=by
 show(if(0)<=8/\(8)<=1000/\(tx w).length<=1000 then some _ else none)=_;rw[if_pos ⟨by decide,by decide,by rw[zF];lia⟩];congr 2;unfold DH;rw[if_neg (by decide),if_neg (by rw[zF];simp;intro z;rw[z] at h;simp at h)];refine SM ?_;show(List.foldl _ #[] (dA 8 w.toArray)).toList=_;simp[dA,CQ,gu]
theorem K9(o:P.length<=100):jC [.f<|.l x,s1,s2,s3,.o<|.P P,s5,s6,s7,s8,s9]=.R (.n,[.f<|.l<|x/36,s1,s2,s3,.o<|.P<|P++[.l<|x%36],s5,s6,s7,s8,s9]):=by
 have b:Bq 36:=f7 (by decide);have a:P.length<16777216:=by lia
 simp[jC,aB,cR,oA,dk,ak,aa,fC,aR,hC,bV,i_,b,a,aW]
theorem Gn:∀(c i) (x) (P:List Int) (s5),P.length+c<=100->(∀p∈P,0<=p/\p<36)->∃(o s5':Sl) (Q:List Int),bF (ad 5) jC ((qV i c).map λ(k:Nat)=>D.l k) [.f<|.l x,s1,s2,s3,.o<|.P<|P.map D.l,s5,s6,s7,s8,s9]=.R (.n,[o,s1,s2,s3,.o<|.P<|Q.map D.l,s5',s6,s7,s8,s9])/\Q.length=P.length+c/\∀p∈Q,0<=p/\p<36
 |0,i,x,P,s5,_,hp=>⟨_,s5,P,rfl,rfl,hp⟩
 |c+1,i,x,P,s5,hz,hp=>by
  have b:=K9 (s1:=s1) (s2:=s2) (s3:=s3) (s5:=.f<|.l (i:Int)) (s6:=s6) (s7:=s7) (s8:=s8) (s9:=s9) (x:=x) (P:=P.map D.l) (by simp;lia);refine Z_ (Gn (s1:=s1) (s2:=s2) (s3:=s3) (s6:=s6) (s7:=s7) (s8:=s8) (s9:=s9) c (i+1) (x/36) (P++[x%36]) (.f<|.l (i:Int)) (by simp;lia) λp a=>by
   rcases bE.mp a with e|e
   .exact hp p e
   rw[cS.mp e];lia) λo d Q e l h=>?_
  refine⟨o,d,Q,?_,by rw[l];simp;lia,h⟩;rw[l7,ar,bC (m1:=[.f<|.l x,s1,s2,s3,.o<|.P<|P.map D.l,.f<|.l (i:Int),s6,s7,s8,s9]) rfl b];rw[bP] at e;exact e
theorem Ke:∀o:List Int,M8 (o.map λp=>D.p<|tx [g_ p])=some ((o.map g_).map λc=>tx [c])
 |[]=>rfl
 |p::o=>by simp[M8,Ke o]
theorem SH(o:List Int)(C:o.length<=1000):Jf (.p "") [.P<|o.map λp=>D.p<|tx [g_ p]]=some (.p<|tx<|o.map g_):=by
 have e:((o.map g_).map λc=>tx _)=(o.map g_).map λc=>(⟨#[c]⟩):=rfl;have a:=WL<|o.map g_;show(match M8 _ with
  |some zs=>if DD _ zs=true then some _ else none
  |none=>none)=_
 rw[Ke,e];show(if DD _ _=true then some _ else none)=_;rw[if_pos<|o3 (by rw[a];simp;lia)];congr 2;exact SM<|by rw[XT,a]
theorem OF{o:List Int}(I:o.length<=1000)(C:∀p∈o,0<=p/\p<36):pA [u0,u1,.f<|.p "abcdefghijklmnopqrstuvwxyz0123456789",u3,.o<|.P<|o.map D.l,u5,u6,u7,u8,u9]=.R (.P<|o.map λp=>D.p<|tx [g_ p]):=by
 have c:eZ (ad 0) jn pI [.S,.f<|.p _] _=.R (o.map λp=>D.p<|tx [g_ p]):=gW o λp a=>by
  refine⟨[.f<|.l p,.f<|.p _],rfl,rfl,?_⟩;have e:=Hx<|C p a;generalize D.p _ = Z at *;simp[pI,ak,aa,e]
 have b:o.length<=16777216:=by lia
 generalize D.p _ = Z at *;simp[pA,bU,cT,aa,hH,Sl.c,c,b]
theorem NM(o:1<=w.length)(C:w.length<=100):pB [u0,u1,u2,u3,u4,u5,.f<|.p<|tx w,u7,u8,u9]=.R (.P<|(dc 8).map λ(k:Nat)=>D.p<|tx<|(CQ w).take<|k+1):=by
 have f:(CQ w).length=8*w.length:=by simp[CQ];lia
 have em:=LU o C;have d:(aj (fC<|.l 1)<|aj (fC<|.l 9) ao) [u0,u1,u2,u3,u4,u5,.f<|.p<|tx w,u7,u8,u9]=.R [.l 1,.l 9]:=by simp[aj,fC,ao]
 have c:=LJ d (by lia) (by lia) (by lia) (by lia);have e:eZ (ad 0) jn lK [.S,.f<|.p<|tx w] _=.R ((dc 8).map λ(k:Nat)=>D.p<|tx<|(CQ w).take<|k+1):=gW _ λk a=>by
  have a:=kH.mp a;refine⟨[.f<|.l<|1+k,.f<|.p<|tx w],rfl,rfl,?_⟩;have b:=H7 (w:=CQ w) (i:=1+(k:Int)) (by lia) (by lia) (by lia);rw[show(1+(k:Int)).toNat=k+1 by lia] at b;generalize D.p (tx w)=W at *;simp[lK,gl,ak,fC,aa,em,gp,f5,b]
 unfold pB bU;rw[c];show(if((dc 8).map λ(k:Nat)=>D.l<|1+k).length<=aw then match eZ (ad 0) jn lK [.S,.f<|.p<|tx w] ((dc 8).map λ(k:Nat)=>D.l<|1+k) with
  | .R ys=>bd.R<|D.P ys
  |_=>.b
 else .b)=_
 rw[e,if_pos<|by decide]
def Np(w:List Nat)(a:Nat)(p:Int)(k:Nat):Str:=tx<|w.take a++[g_<|(p+4*k)%36]++w.drop (a+1)
theorem UH{FF:List D}{a k:Nat}(C:bS o (a:Int)=some (.l p))(I:a<w.length)(U:w.length<=100)(hk:k<=100)(J:FF.length<=100):
  jF [s0,s1,.f<|.p "abcdefghijklmnopqrstuvwxyz0123456789",s3,.o<|.P o,.f<|.l (k:Int),.f<|.p<|tx w,.f<|.l (a:Int),.o<|.P FF,s9]=.R (.n,[s0,s1,.f<|.p "abcdefghijklmnopqrstuvwxyz0123456789",s3,.o<|.P o,.f<|.l (k:Int),.f<|.p<|tx w,.f<|.l (a:Int),.o<|.P<|FF++[.p<|Np w a p k],.f<|.p<|tx [g_<|(p+4*k)%36]]):=by
 have l:Bq 4:=f7 (by decide);have f:Bq (k:Int):=f7 (by omega);have n:FF.length<16777216:=by omega
 have g:=Hx (i:=(p+4*(k:Int))%36) (by omega);have d:=H7 (w:=w) (i:=(a:Int)) (by omega) (by omega) (by omega);have e:=Ts (w:=w) (i:=(a:Int)+1) (by omega) (by omega) (by omega);rw[show((a:Int)).toNat=a by omega] at d;rw[show((a:Int)+1).toNat=a+1 by omega] at e;have r:=YF (a:=w.take a) (b:=[g_<|(p+4*k)%36]) (by simp;omega);have q:=YF (a:=w.take a++[g_<|(p+4*k)%36]) (b:=w.drop<|a+1) (by simp;omega);unfold Np;generalize D.p "abcdefghijklmnopqrstuvwxyz0123456789" = Z at *;generalize D.p (tx<|w.take a++[g_<|(p+4*k)%36]++w.drop (a+1))=R at *;generalize D.p (tx<|w.take a++[g_<|(p+4*k)%36])=R1 at *;generalize D.p (tx w)=W at *;generalize D.p (tx<|w.take a)=W1 at *;generalize D.p (tx<|w.drop<|a+1)=W2 at *;generalize D.p (tx [g_<|(p+4*k)%36])=W3 at *;have h:al (.P o) (.l (a:Int))=some (.l p):=C;have j:F.bD (.l p) (.l<|4*(k:Int))=some (.l<|p+4*k):=rfl;have m:F.bD (.l (a:Int)) (.l 1)=some (.l<|(a:Int)+1):=rfl;have s:F.iJ (.l 4) (.l (k:Int))=some (.l<|4*(k:Int)):=by simp[iJ,l,f]
 have c:F.aR (.l<|p+4*k) (.l 36)=some (.l<|(p+4*(k:Int))%36):=by simp[aR,hC]
 simp only[jF];simp[aB,aW,ak,aa,fC,h,j,m,s,c,g,cR,oA,dk,gl,gp,f5,d,e,r,q,n]
theorem Vs{a:Nat}(I:bS o (a:Int)=some (.l p))(C:a<w.length)(J:w.length<=100):∀(c i) (FF) (s5 s9),FF.length+c<=100->i+c<=100->∃s5' s9',
  bF (ad 5) jF ((qV i c).map λ(k:Nat)=>D.l k) [s0,s1,.f<|.p "abcdefghijklmnopqrstuvwxyz0123456789",s3,.o<|.P o,s5,.f<|.p<|tx w,.f<|.l (a:Int),.o<|.P FF,s9] =
   .R (.n,[s0,s1,.f<|.p "abcdefghijklmnopqrstuvwxyz0123456789",s3,.o<|.P o,s5',.f<|.p<|tx w,.f<|.l (a:Int),.o<|.P<|FF++(qV i c).map λ(k:Nat)=>.p<|Np w a p k,s9'])
 |0,i,FF,s5,s9,_,_=>⟨s5,s9,by simp[bF]⟩
 |c+1,i,FF,s5,s9,hz,hi=>by
  have b:=UH (s0:=s0) (s1:=s1) (s3:=s3) (s9:=s9) (FF:=FF) (k:=i) I C J (by omega) (by omega);refine ZU (Vs (s0:=s0) (s1:=s1) (s3:=s3) I C J c (i+1) (FF++[.p<|Np w a p i]) (.f<|.l (i:Int)) (.f<|.p<|tx [g_<|(p+4*i)%36]) (by simp;omega) (by omega)) λs5' s9' e=>?_;refine⟨s5',s9',?_⟩;rw[l7,ar,bC (m1:=[s0,s1,.f<|.p "abcdefghijklmnopqrstuvwxyz0123456789",s3,.o<|.P o,.f<|.l (i:Int),.f<|.p<|tx w,.f<|.l (a:Int),.o<|.P FF,s9]) rfl b,e]
  simp
structure QP(p:List Str):Prop where
 a:p.length=8
 n:p.Nodup
 R:∀x∈p,gE x=true
 M:∀x∈p,∀c∈x.cps.toList,c∈ss
 mt:∀x∈p,x.length<=20
theorem Wc(h:tt/8%3=1)
  (eL:C [.f<|.l<|c/8,.f<|.l tt,.f<|.p "abcdefghijklmnopqrstuvwxyz0123456789",.f<|.l<|1+c%8,.o<|.P [],.S,.S,.S,.S,.S]=.R (.n,[J,.f<|.l tt,.f<|.p "abcdefghijklmnopqrstuvwxyz0123456789",.f<|.l<|1+c%8,.o P,s5,.S,.S,.S,.S]))
  (e4:o [J,.f<|.l tt,.f<|.p "abcdefghijklmnopqrstuvwxyz0123456789",.f<|.l<|1+c%8,.o P,s5,.S,.S,.S,.S]=.R r) (ej:Jf (.p "") [r]=some W)
   (U:∀u0 u1 u2 u3 u4 u5 u7 u8 u9:Sl,I [u0,u1,u2,u3,u4,u5,.f W,u7,u8,u9]=.R R):aV 10 2 (m6 C o I L8) [.l c,.l tt]=.R (true,R):=by
 unfold aV m6;have a:Bq 8:=f7 (by decide);have ty:Cl "str" (.p "")=true:=rfl;generalize D.p _ = Z at *;generalize D.p "" = Z0 at *;simp[aB,aW,fC,ak,aa,bD,aR,hC,bV,i_,a,dW,f9,ao,eL,Ur,ty,aj,e4,ej,ax,aA,h,jT,Me.V,Sl.V,U]
theorem W9(h:¬tt/8%3=1)
  (eL:C [.f<|.l<|c/8,.f<|.l tt,.f<|.p "abcdefghijklmnopqrstuvwxyz0123456789",.f<|.l<|1+c%8,.o<|.P [],.S,.S,.S,.S,.S]=.R (.n,[o,.f<|.l tt,.f<|.p "abcdefghijklmnopqrstuvwxyz0123456789",.f<|.l<|1+c%8,.o P,s5,.S,.S,.S,.S]))
  (e4:I [o,.f<|.l tt,.f<|.p "abcdefghijklmnopqrstuvwxyz0123456789",.f<|.l<|1+c%8,.o P,s5,.S,.S,.S,.S]=.R r) (ej:Jf (.p "") [r]=some W)
   (e8:J [o,.f<|.l tt,.f<|.p "abcdefghijklmnopqrstuvwxyz0123456789",.f<|.l<|1+c%8,.o P,s5,.f W,.f<|.l<|tt%(1+c%8),.o<|.P [],.S]=.R (.n,[o,.f<|.l tt,.f<|.p "abcdefghijklmnopqrstuvwxyz0123456789",.f<|.l<|1+c%8,.o P,s5',.f W,.f<|.l<|tt%(1+c%8),.o R,s9'])):aV 10 2 (m6 C I U J) [.l c,.l tt]=.R (true,R):=by
 unfold aV m6;have d:Bq 8:=f7 (by decide);have ty:Cl "str" (.p "")=true:=rfl;have b:0<1+c%8:=by omega
 have e:¬1+c%8=0:=by omega
 have em:hC tt _=tt%(1+c%8):=if_pos b;generalize a:1+c%8=S at *;generalize D.p _ = Z at *;generalize D.p "" = Z0 at *;simp[aB,aW,fC,ak,aa,bD,aR,bV,i_,d,dW,f9,ao,show hC c 8=c%8 from if_pos (by decide),a,eL,Ur,ty,aj,e4,ej,ax,aA,show hC _ 3=tt/8%3 from if_pos (by decide),h,ba,e,em,e8,uU,Me.V,Sl.V]
theorem SY:∃(o s5:Sl) (C:List Int),pH [.f<|.l<|c/8,.f<|.l tt,.f<|.p "abcdefghijklmnopqrstuvwxyz0123456789",.f<|.l<|1+c%8,.o<|.P [],.S,.S,.S,.S,.S]=.R (.n,[o,.f<|.l tt,.f<|.p "abcdefghijklmnopqrstuvwxyz0123456789",.f<|.l<|1+c%8,.o<|.P<|C.map D.l,s5,.S,.S,.S,.S])/\(C.length:Int)=1+c%8/\∀p∈C,0<=p/\p<36:=by
 have g:0<=1+c%8/\1+c%8<=8:=by omega
 generalize 1+c%8=S at *;obtain⟨o,s5,Q,e,f,b⟩:=Gn S.toNat 0 _ [] _ (by simp;omega) λ_ z=>nomatch z;refine⟨o,s5,Q,?_,by simp at f;omega,b⟩;have d:(aj (aa 3) ao) [.f<|.l<|c/8,.f<|.l tt,.f<|.p "abcdefghijklmnopqrstuvwxyz0123456789",.f<|.l S,.o<|.P [],.S,.S,.S,.S,.S]=.R [.l S]:=by
  generalize D.p _ = Z;simp[aj,aa,ao]
 have a:=V9 d (by omega) (by omega);unfold pH eY;rw[a];rw[jI];exact e
theorem Yp(hk:k<8)(o:j<8)(h:Np w a p k=Np w a p j):k=j:=by
 have h:=JA.mp h;rw[gu,gu] at h;have h:=List.append_cancel_left h;injection h with h _
 have:=S' (by omega) (by omega) h
 omega
theorem S5(h:c∈CQ w):c∈w:=by
 simpa[CQ] using h
theorem S2 c t:∃p,tU [.l c,.l t]=.R (true,.P<|p.map D.p)/\QP p:=by
 obtain⟨E,y,e,G,U,u⟩:=SY;have O:1<=e.length/\e.length<=8:=by omega
 have K:=OF (u0:=E) (u1:=.f<|.l t) (u3:=.f<|.l<|1+c%8) (u5:=y) (u6:=.S) (u7:=.S) (u8:=.S) (u9:=.S) (by omega) u;have F:=SH e (by omega);have A:∀k∈e.map g_,k<128:=λk l=>by
  obtain⟨p,h,rfl⟩:=d4.mp l;exact Iq _<|Fj<|u p h
 have s:∀k∈e.map g_,k∈ss:=λk l=>by
  obtain⟨p,h,rfl⟩:=d4.mp l;exact Fj<|u p h
 have wl:(e.map g_).length=e.length:=by simp
 generalize o:e.map g_=w at *;by_cases h:t/8%3=1
 .refine⟨(dc 8).map λk=>tx<|(CQ w).take<|k+1,?_,by simp,?_,λx f=>?_,λx f c d=>?_,λx f=>?_⟩
  .rw[fg];exact Wc h G K F λV R I Z J L W M Y=>NM (by omega)<|by omega
  .refine rg.mpr<|(List.nodup_range (n:=8)).imp_of_mem λ{a b} r H g z=>g ?_;have r:=kH.mp r;have H:=kH.mp H;have C:(CQ w).length=8*w.length:=by simp[CQ];omega
   have:=congrArg qA<|JA.mp z
   rw[kq,kq] at this;omega
  .obtain⟨k,_,rfl⟩:=d4.mp f;exact Nx λc d=>A c<|S5<|fq d
  .obtain⟨k,_,rfl⟩:=d4.mp f;exact s c<|S5<|fq d
  obtain⟨k,l,rfl⟩:=d4.mp f
  have:=kH.mp l
  show((CQ w).take<|k+1).toArray.size<=20
  simp
  omega
 obtain⟨a,r⟩:∃a:Nat,(a:Int)=t%(1+c%8):=⟨(t%(1+c%8)).toNat,by have:=hZ t (show 1+c%8≠0 by omega);omega⟩;have B:a<w.length:=by have:=hU t (show 0<1+c%8 by omega);omega
 have v:a<e.length:=by omega
 have P:bS (e.map D.l) (a:Int)=some (.l e[a]):=v8 (by rw[aT,ay v];rfl);refine ZU (Vs (s0:=E) (s1:=.f<|.l t) (s3:=.f<|.l<|1+c%8) P B (by omega) 8 0 [] y .S (by simp) (by omega)) λq m S=>?_;refine⟨(dc 8).map λk=>Np w a e[a] k,?_,by simp,?_,λx f=>?_,λx f c d=>?_,λx f=>?_⟩
 .refine W9 (s5':=q) (s9':=m) h G K F ?_;rw[<-r];rw[fg];have N:(aj (fC<|.l 8) ao) [E,.f<|.l t,.f<|.p "abcdefghijklmnopqrstuvwxyz0123456789",.f<|.l<|1+c%8,.o<|.P<|e.map D.l,y,.f<|.p<|tx w,.f<|.l (a:Int),.o<|.P [],.S]=.R [.l 8]:=by
   simp[aj,fC,ao]
  have Q:=V9 N (by omega) (by omega);unfold uq eY;rw[Q];show bF (ad 5) jF ((dc 8).map λ(k:Nat)=>D.l k) _=_;rw[jI];exact S
 .refine rg.mpr<|(List.nodup_range (n:=8)).imp_of_mem λ{i j} X T g z=>g ?_;exact Yp (kH.mp X) (kH.mp T) z
 .obtain⟨k,_,rfl⟩:=d4.mp f;exact(by
   refine Nx λc d=>?_;rcases bE.mp d with d|d
   .rcases bE.mp d with d|d
    .exact A c<|fq d
    rw[cS.mp d];exact Iq _<|Fj<|by omega
   exact A c<|hG d)
 .refine oj (d4.mp f) λk _ zq2=>?_;subst zq2;rcases bE.mp (show c∈w.take a++[g_<|(e[a]+4*k)%36]++w.drop (a+1) from d) with d|d
  .rcases bE.mp d with d|d
   .exact s c<|fq d
   rw[cS.mp d];exact Fj<|by omega
  exact s c<|hG d
 obtain⟨k,_,rfl⟩:=d4.mp f;show(w.take a++[g_<|(e[a]+4*k)%36]++w.drop (a+1)).toArray.size<=20
 simp
 omega
end Lw
namespace F
open PySem L2 Hd
open PySem PySem.Spec PyProof.Rows L2 Hd
theorem ms(r:a_ [a,b] us):∃u v,us=[u,v]/\bn a u/\bn b v:=by
 cases r with
 |cons r1 r2=>
  cases r2 with
  |cons r2 r3=>cases r3;exact⟨_,_,rfl,r1,r2⟩
def KX(K:bg)(H:Hp)(x:V)(t:aI):Prop:=(x=.E/\t=.type "NoneType")\/∃a C,x=.r a/\t=.ref C/\(∃b,H a=some (.b b<|.e<|vm a<|.ref C))/\XC K C
def LI(K:bg):List V->Hp->VK->Prop:=λxs H Q=>∃x t C b,xs=[x,.r C]/\KX K H x t/\h9 K t (.ref C)=some b/\Q (.B b) H
def LF(K:bg):List V->Hp->VK->Prop:=λxs H Q=>∃x t l,∃a:List Addr,∃b,xs=[x,.r l]/\H l=some (.w<|a.map V.r)/\KX K H x t/\CY K t (a.map cq)=some b/\Q (.B b) H
theorem Jw:∀{o:List Addr} {us:List aI},a_ (o.map V.r) us->us=o.map cq
 |[],_,.nil=>rfl
 |_::_,_,.cons r t=>by rw[Jw t];subst r;rfl
theorem ZR:jf X (.builtin "isinstance") (LI X.K):=by
 intro m s p H l n Q I r h;refine Z_44 h λx t C b zq4 d e q=>?_;subst zq4;refine Y_ (ms r) λu k zq2 ru c=>?_;subst zq2;cases(c);rcases d with⟨rfl,rfl⟩|⟨a,D,rfl,rfl,⟨g,j⟩,Z⟩
 .cases(ru);exact kg W.kitx_none I.kIn trivial e (λz=>nomatch z) λtk=>⟨.B b,H,I.tok _,rfl,q⟩
 cases(ru);refine ZI (I.W a _ j) λ_ zq1 _=>?_;obtain⟨o,f,i,_⟩:=zq1;exact kg (GD Z) I.kIn ⟨o,f,i⟩ e (λz=>nomatch z) λtk=>⟨.B b,H,I.tok _,rfl,q⟩
theorem WP:jf X (.builtin "isinstance") (LF X.K):=by
 intro L s N H F M Q I r h;refine Z_55 h λx t l k b zq5 E m e q=>?_;subst zq5;refine Y_ (ms r) λu B zq2 ru f=>?_;subst zq2;cases(f);obtain⟨_,P,p,⟨⟨d,O,a,G⟩,j,y,n,hd,_⟩⟩:=(I.W l _ E);cases(y);cases(hd);cases Jw p;rcases m with⟨rfl,rfl⟩|⟨c,D,rfl,rfl,⟨v,A⟩,Z⟩
 .cases(ru);exact W.kia_tup W.kitx_none I.kIn trivial j e (λz=>nomatch z) λtk=>⟨.B b,H,I.tok _,rfl,q⟩
 cases(ru);refine ZI (I.W c _ A) λ_ zq1 _=>?_;obtain⟨o,g,i,_⟩:=zq1;exact W.kia_tup (GD Z) I.kIn ⟨o,g,i⟩ j e (λz=>nomatch z) λtk=>⟨.B b,H,I.tok _,rfl,q⟩
def t6(K:bg)(mg:eR)(y:Str)(tab:Str->Option Bool):Prop:=∃C,mg y=some (.ref C)/\(∀c D b,tab c=some b->mg c=some (.ref D)->XC K D/\h9 K (.ref D) (.ref C)=some b)/\h9 K (.type "NoneType") (.ref C)=some false
noncomputable def Iw:List (Str->Option Bool)->Str->Option Bool
 |[],_=>some false
 |t::r,c=>match t c with
  |some true=>some true
  |some false=>Iw r c
  |none=>none
noncomputable def Ie(tab:Str->Option Bool)(f:bv):bv:=λm=>(f m).s λd=>match d with
 | .A c _ _=>b6<|(tab c).map D.B
 | .E=>.R<|.B false
 |_=>.b
inductive q_(X:Cx):List Expr->List (Str->Option Bool)->List Addr->Prop
 |f:q_ X [] [] []
 |e {y:Str} {py:Pos} {tab:Str->Option Bool} {es:List Expr} {ts:List (Str->Option Bool)} {C:Addr} {Cs:List Addr}:Gl X y->(y==("__debug__":Str))=false->X.m y=some (.ref C)->
   (∀c D b,tab c=some b->X.m c=some (.ref D)->XC X.K D/\h9 X.K (.ref D) (.ref C)=some b)->h9 X.K (.type "NoneType") (.ref C)=some false->
   ag (.Name y py::es) X.d=(false,eval (.Name y py) X.d)::ag es X.d->q_ X es ts Cs->q_ X (.Name y py::es) (tab::ts) (C::Cs)
section
variable {fa:bv}{pos p py:Pos}
def N1(o:List Addr):TA:=λ_ H Q=>Q (o.map V.r) H
theorem Uz:∀{es:List Expr} {ts:List (Str->Option Bool)} {o:List Addr},q_ X es ts o->PA X es (N1 o):=by
 intro es ts o h;induction h with
 |f=>exact λpos b s a H Q I h=>nM _ b s a H Q I h
 |e hg hd hm _ _ hs _ ih=>exact λpos b s a H Q I h=>eG (Mr (v:=.r _) hg hm rfl hd) ih hs _ b s a H Q I h
theorem Tv:∀{es:List Expr} {ts:List (Str->Option Bool)} {o:List Addr},q_ X es ts o->o.length=es.length
 |_,_,_,.f=>rfl
 |_,_,_,.e _ _ _ _ _ _ t=>congrArg _<|Tv t
theorem T7:∀{es:List Expr} {ts:List (Str->Option Bool)} {o:List Addr},q_ X es ts o->CY X.K (.type "NoneType") (o.map cq)=some false
 |_,_,_,.f=>rfl
 |_,_,_,.e _ _ _ _ hn _ t=>by rw[ar,CY,hn];exact T7 t
theorem ZK{D:Addr}(C:X.m c=some (.ref D)):∀{es:List Expr} {ts:List (Str->Option Bool)} {o:List Addr} {b:Bool},q_ X es ts o->Iw ts c=some b->CY X.K (.ref D) (o.map cq)=some b
 |_,_,_,_,.f,e=>e
 |_,_,_,b,.e (tab:=tab) _ _ _ hx _ _ t,e=>by
  unfold Iw at e;rw[ar,CY];cases q:tab c with
  |none=>rw[q] at e;cases e
  |some z=>
   rw[q] at e;obtain⟨_,a⟩:=hx c D z q C;rw[a];cases z with
   |true=>exact e
   |false=>exact ZK C t e
theorem MT(ha:FB X E a fa)(hg:Gl X "isinstance")(hm:X.m "isinstance" = none)(o:cx "isinstance" = some (.builtin "isinstance"))(J:Gl X y)(U:t6 X.K X.m y tab)
  (hdy:autoParam ((y==("__debug__":Str))=false) YI) (he:autoParam (ag [a,.Name y py] X.d=(false,eval a X.d)::ag [.Name y py] X.d) YO) (I:autoParam (ag [.Name y py] X.d=(false,eval (.Name y py) X.d)::ag [] X.d) YO) (μ:autoParam ((ij pos<|ag [.Name y py] X.d).any (·.1)=false) YO):
  FE X E (.Call (.Name "isinstance" p) [a,.Name y py] [] pos) (Ie tab fa):=by
 refine o5 U λC c U w=>?_;refine bA (xq ZR hg hm o (eG ha (eG (Mr (v:=.r C) J c rfl hdy) nM I) he) (by decide) (by decide) he μ) λx H Q h=>?_;refine ZT h λu M0 H0 ow m R q=>?_;refine⟨u,M0,H0,ow,m,R,q.s.u (aD.s _) λd q v H' g o=>?_⟩;cases d with
 |A k=>
  refine oj q.l λr n i=>?_;refine oj (fx n) λb t zq2=>?_;subst zq2;refine Y_ (Rt o) λj D zq2 f s=>?_;subst zq2;obtain⟨l,e⟩:=U k D b t f;exact⟨_,_,C,b,rfl,.inr ⟨j,D,rfl,rfl,s,l⟩,e,i _ _ g<|.B _⟩
 |E=>
  cases zK o;exact⟨_,_,C,false,rfl,.inl ⟨rfl,rfl⟩,w,q _ _ g<|.B _⟩
 |_=>exact q.elim
theorem Pl{x1}(ha:FB X E a fa)(hg:Gl X "isinstance")(hm:X.m "isinstance" = none)(C:cx "isinstance" = some (.builtin "isinstance"))(o:q_ X es (U::ts) J)(hz:autoParam (es.length<=aw) YI)
  (he:autoParam (ag [a,.Tuple es x1 py] X.d=(false,eval a X.d)::ag [.Tuple es x1 py] X.d) YO) (I:autoParam (ag [.Tuple es x1 py] X.d=(false,eval (.Tuple es x1 py) X.d)::ag [] X.d) YO) (μ:autoParam ((ij pos<|ag [.Tuple es x1 py] X.d).any (·.1)=false) YO):
  FE X E (.Call (.Name "isinstance" p) [a,.Tuple es x1 py] [] pos) (Ie (Iw (U::ts)) fa):=by
 refine bA (xq WP hg hm C (eG ha (eG (Yi<|Uz o) nM I) he) (by decide) (by decide) he μ) λy H Q h=>?_;refine ZT h λx M0 H0 ow m R q=>?_;refine⟨x,M0,H0,ow,m,R,q.s.u (aD.s _) λd q v H' g C=>?_⟩;have j:=Tv o;cases d with
 |A k=>
  refine oj q.l λr w n=>?_;refine oj (fx w) λb f zq2=>?_;subst zq2;refine Y_ (Rt C) λs D zq2 i e=>?_;subst zq2;have t:XC X.K D:=by
   cases o with
   |e _ _ _ hx _ _ _=>
    unfold Iw at f;cases q:U k with
    |none=>rw[q] at f;cases f
    |some z=>exact(hx k D z q i).1
  refine⟨by simpa[j] using hz,λl c=>⟨_,_,l,J,b,rfl,aP,.inr ⟨s,D,rfl,rfl,?_,t⟩,ZK i o f,n _ _ (g.t<|bH c _)<|.B _⟩⟩;obtain⟨u,e⟩:=e;exact⟨u,by rw[bf (λz=>by rw[z,c] at e;cases e)];exact e⟩
 |E=>
  cases zK C;exact⟨by simpa[j] using hz,λl c=>⟨_,_,l,J,_,rfl,aP,.inl ⟨rfl,rfl⟩,T7 o,q _ _ (g.t<|bH c _)<|.B _⟩⟩
 |_=>exact q.elim
theorem GC(h:t6 X.K X.m y tab)(t:∃o,q_ X es ts o)(C:autoParam (Gl X y) YO)(hd:autoParam ((y==("__debug__":Str))=false) YI)
  (I:autoParam (ag (.Name y py::es) X.d=(false,eval (.Name y py) X.d)::ag es X.d) YO):∃o,q_ X (.Name y py::es) (tab::ts) o:=by refine o5 h λ_ a b c=>?_;exact (by obtain ⟨_,t⟩:=t;exact ⟨_,.e C hd a b c I t⟩)
theorem Tc{x1}(ha:FB X E a fa)(hg:Gl X "isinstance")(U:X.m "isinstance" = none)(hv:cx "isinstance" = some (.builtin "isinstance"))(o:∃J,q_ X es (I::ts) J)(hz:autoParam (es.length<=aw) YI)
  (he:autoParam (ag [a,.Tuple es x1 py] X.d=(false,eval a X.d)::ag [.Tuple es x1 py] X.d) YO) (C:autoParam (ag [.Tuple es x1 py] X.d=(false,eval (.Tuple es x1 py) X.d)::ag [] X.d) YO) (μ:autoParam ((ij pos<|ag [.Tuple es x1 py] X.d).any (·.1)=false) YO):
  FE X E (.Call (.Name "isinstance" p) [a,.Tuple es x1 py] [] pos) (Ie (Iw (I::ts)) fa):=by obtain ⟨_,o⟩:=o;exact Pl ha hg U hv o hz he C μ
end
end F
namespace F
open PySem PySem.Spec PyProof.Rows L2 Hd
section
variable {A:eJ}{E:Zs}{s:a7}
def sr(A:eJ)(h:Heap):Prop:=∃x o a,A.handled=some (.ref x)/\h.get? x=some o/\o.data=.fields a/\a[2]? = some .none
theorem Pa(I:s.heap.get? a=some o)(hd:o.data=.fields C)(J:C[2]? = some .none)(k:Q (.done<|.ret .none) s):
  cb (cK prog w) A (Cn.«proto.unchain» ⟨[v,.ref a,x,.bool false],[]⟩) Q E s:=by
 refine ae<|iS I hd J ?_;exact av k
theorem SE(hh:A.handled=some (.ref x))(ne:x≠e)(ho:s.heap.get? x=some o)(hd:o.data=.fields vs)(h2:vs[2]? = some .none)
  (he:s.heap.get? e=some J) (I:J.data=.fields C) (hz:2<C.size) (k:E (.ref e) { s with heap:=s.heap.update e (lT (·.setIfInBounds 2 (.ref x)))}):cb (cK prog w) A (raiseNew (.ref e):Sem U) Q E s:=by
 refine ae<|wpAny_handled ?_;rw[hh];have a:(cq x != cq e)=true:=by simp[bne,ne]
 simp only[a,if_true];refine ae<|i7<|runValue_entry (entryFor_of_tree<|by kernel_rfl)<|Pa ho hd h2 ⟨_,rfl,?_⟩;refine ae<|ae<|wpAny_load he ?_;rw[I];simp only[hz,if_true];exact wpAny_update he<|wpAny_throw k
theorem Y8(H:sr A s.heap)
  (k:∀h' e,(∀b o,s.heap.get? b=some o->h'.get? b=some o)->(∃o,h'.get? e=some o/\o.cls=.type "StopIteration")->E (.ref e) { s with heap:=h' }):
  cb (cK prog w) A (do let e<-newExc (.type "StopIteration") [];raiseNew e:Sem C) Q E s:=by
 refine ZO H λx o j h f hd i=>?_;refine ae ?_;simp only[newExc,newTuple];refine ae<|fw ?_ (by size_fits);refine ae (m:=xb _ _)<|wpAny_of_eq (a:=fN) (by first|rfl|(simp only[xb];rfl)) ?_;refine fw ?_ (by size_fits);have d:x<s.heap.objs.size:=aS f;have c:(s.heap.push { cls:=.type "tuple",data:=.seq [].toArray }).objs.size=s.heap.objs.size+1:=by simp[Heap.push]
 refine SE h (by rw[c];exact b0<|kX d) ((rh _ _ _ (by rw[c];exact b0<|kX d)).trans<|(rh _ _ _<|b0 d).trans f) hd i (bp _ rfl) rfl (by simp[ownMembersOf])<|k _ _ (λb q g=>?_) ?_
 .have bl:b<s.heap.objs.size:=aS g;rw[kl _ _ _ _ (by rw[c];exact b0<|kX bl),rh _ _ _ (by rw[c];exact b0<|kX bl),rh _ _ _<|b0 bl];exact g
 exact⟨_,eP _ (bp _ rfl) rfl,rfl⟩
theorem sr.u(H:sr A s.heap)(J:s.heap.get? C=some I)(hd:I.data=.fields us)(hz:us[2]? = none):sr A (s.heap.update C f):=by
 refine ZO H λx o e d c b a=>?_;refine⟨x,o,e,d,(kl _ _ _ _ λz=>?_).trans c,b,a⟩;subst z;cases J.symm.trans c;cases hd.symm.trans b;rw[hz] at a;cases a
theorem Jg(H:sr A s.heap)(C:s.heap.IsListIter I l i)(hl:s.heap.IsList l items)(U:items[i]? = none)
  (J:∀h',C6 I s.heap h'->Q none { s with heap:=h'}):cb (cK prog w) A (BH<|.ref I) Q E s:=by
 refine o5 (id C) λo a n hd=>?_;obtain⟨m,d,_,p,c⟩:=hl;unfold BH;refine ae<|yT<|ka (name:=dP "__next__") C.typeIs slot_listiter_next<|iN slot_listiter_next C.typeIs entry_listiter_next ?_<|args_listiter_next _;show cb _ _ (field (.ref I) 0 >>= _) _ _ s;refine ae<|iS a hd (x:=.ref l) rfl ?_;show cb _ _ (if(cq l==fN)=true then _ else _) _ _ s;rw[if_neg λz=>by cases(show false=true from z)];show cb _ _ (field (.ref I) 1 >>= _) _ _ s;refine ae<|iS a hd (x:=.int i 0) rfl<|show cb _ _ (seqItems? (.ref l) >>= _) _ _ s from ae (wq d c ?_);simp only[mT,U];refine ae<|xo<|ae<|l8 a hd (by simp) ?_;refine Y8 (A:=A.in1) (s:={ s with heap:=_ }) (sr.u (A:=A.in1) H a hd rfl) λh' e kp zz0=>?_;refine oj zz0 λg k j=>?_;refine ae<|nN (T:="StopIteration") (b:=true) ⟨g,k,j⟩ A3 ?_;exact av<|J _ λb q f h=>kp b q<|(kl _ _ _ _ f).trans h
theorem QH(H:sr A s.heap)(C:s.heap.IsTupleIter I l i)(hl:s.heap.IsTuple l items)(U:items[i]? = none)
  (J:∀h',C6 I s.heap h'->Q none { s with heap:=h'}):cb (cK prog w) A (BH<|.ref I) Q E s:=by
 refine o5 (id C) λo a n hd=>?_;obtain⟨m,d,_,p,c⟩:=hl;refine ae<|yT<|ka C.typeIs pT<|iN pT C.typeIs PySem.F.entry_tuple_iterator_next ?_<|PySem.F.args_tuple_iterator_next_1 _;show cb _ _ (field _ 0 >>= _) _ _ s;refine ae<|iS a hd rfl ?_;show cb _ _ _ _ _ s;rw[if_neg λz=>by cases(z)];show cb _ _ _ _ _ s;refine ae<|iS a hd rfl<|ae (wq d c ?_);simp only[mT,U];refine ae<|xo<|ae<|l8 a hd (by simp) ?_;refine Y8 (sr.u H a hd rfl) λh' e kp zz0=>?_;refine oj zz0 λg k j=>?_;refine ae<|nN ⟨g,k,j⟩ A3 ?_;exact av<|J _ λb q f h=>kp b q<|(kl _ _ _ _ f).trans h
end
def HS(X:Cx):Prop:=∃x o u a,X.A.handled=some (.ref x)/\X.H₀ x=some (.b o u)/\o.data=.fields a/\a[2]? = some .none
theorem Rk{C:L2.St}(h:HS X)(I:am X J C H s):sr X.A s.heap:=by
 refine Z_44 h λx o u c e d b a=>?_;exact⟨x,o,c,e,(I.W x _<|I.T.L x o u d).1,b,a⟩
theorem Rf{K:bg} a C :mn HS P w K J (z_ K a) [C] C (λi h=>h.IsListIter C a i) where
 m:=by simp
 c:=λi h f b g=>by
  have e:b=C:=by simpa using g
  subst e;refine o5 f λo e c d=>?_;exact⟨o,e,λv z=>by rw[d] at z;cases z⟩
 Z:=λi h l f k=>f.at λo e=>k C (by simp) o e
 a:=by
  intro X y F M O i N s Q H E I n f G;subst y F M;refine Y' G λR x m q=>?_;refine o5 (I.IO m) λW t p S=>?_;refine oj (t.d q) λu V ru=>?_;refine Z_06 (n C (by simp)) λD B T r A L=>?_;refine pV f p.isList (by simpa using V) λl j sb=>?_;have U:=I.turned (t':=s.toks) (λb o g e=>(sb.2 b g).trans e) D B r A L;refine o5 (id j) λo e c d=>?_;exact⟨u,rfl,JW e c d (by decide) ⟨x,H,U,ru,⟨rfl,λys Z=>by rw[I.Hl Z m];exact q⟩,j,λb g=>(n b g).1⟩⟩
 d:=by
  intro X y F M O i N s Q H E I n f G;subst y F M;refine oj G λR m q=>?_;refine o5 (I.IO m) λW t p S=>?_;refine Z_06 (n C (by simp)) λD B T r A L=>?_;have hl:=t.l;exact Jg (Rk O I) f p.isList (by simp;omega) λl Y=>⟨rfl,I.turned (λb o g e=>Y b o g e) D B r A L⟩
 e:=λ_ _ _ _ _ f h=>r6 f h
theorem NK{K:bg} a C :mn HS P w K J (D_ K a) [C] C (λi h=>h.IsTupleIter C a i) where
 m:=by simp
 c:=λi h f b g=>by
  have e:b=C:=by simpa using g
  subst e;refine o5 f λo e c d=>?_;exact⟨o,e,λv z=>by rw[d] at z;cases z⟩
 Z:=λi h l f k=>f.at λo e=>k C (by simp) o e
 a:=by
  intro X A G N Q i O s R H E I n f L;subst A G N;refine Y' L λS x m q=>?_;refine o5 (I.Id m) λr y p T=>?_;refine oj (y.d q) λu W ru=>?_;refine Z_06 (n C (by simp)) λF D V t B M=>?_;refine wpAny_pyNext_tuple_item f (p) (by simpa using W) λl j sb=>?_;have U:=I.turned (t':=s.toks) (λb o g e=>(sb.2 b g).trans e) F D t B M;refine o5 (id j) λo e c d=>?_;exact⟨u,rfl,JW e c d (by decide) ⟨x,H,U,ru,⟨rfl,λys Z=>by rw[I.Jz Z m];exact q⟩,j,λb g=>(n b g).1⟩⟩
 d:=by
  intro X A G N Q i O s R H E I n f L;subst A G N;refine oj L λS m q=>?_;refine o5 (I.Id m) λr y p T=>?_;refine Z_06 (n C (by simp)) λF D V t B M=>?_;have hl:=y.l;exact QH (Rk Q I) f (p) (by simp;omega) λl Y=>⟨rfl,I.turned (λb o g e=>Y b o g e) F D t B M⟩
 e:=λ_ _ _ _ _ f h=>wpAny_pyIter_tupleiter f h
theorem YH(J:PE X l C):PI HS X tg l (HZ X.K C):=by
 intro f s k H R I h;refine ce (J f s k H _ I h) λv c i=>f3 i λx H1 d j g=>?_;refine o5 g λa e zq2 q=>?_;obtain⟨r,m⟩:=zq2;subst e;subst j;refine o5 (d.IO m) λu w p t=>?_;refine mP p.isList ?_;refine⟨ _,_,_,_,H1,rfl,d.we λb o e=>ah _ e,Rf a _,⟨_,bp _ rfl,rfl,rfl⟩,λb n=>?_,q⟩;have e:b=c.heap.objs.size:=by simpa using n
 subst e;exact d.QM (bb _)<|d.W.n<|bb _
theorem S4(J:PE X l C):PI HS X tg l (F9 X.K C):=by
 intro f s k H R I h;refine ce (J f s k H _ I h) λv c i=>f3 i λx H1 d j g=>?_;refine o5 g λa e zq2 q=>?_;obtain⟨t,m⟩:=zq2;subst e;subst j;refine o5 (d.Id m) λr w p u=>?_;refine wpAny_pyIter_tuple (p) ?_;refine⟨ _,_,_,_,H1,rfl,d.we λb o e=>ah _ e,NK a _,⟨_,bp _ rfl,rfl,rfl⟩,λb n=>?_,q⟩;have e:b=c.heap.objs.size:=by simpa using n
 subst e;exact d.QM (bb _)<|d.W.n<|bb _
theorem Oe(h:PI Cm X tg e T)(k:∀o H R,C o H R->T o H R):PI Cm X tg e C:=λa s o H R I q=>h a s o H R I<|k o H R q
noncomputable def A0(A:eJ):eJ:={ A with handled:=none}
def lH(k:Nat)(A:eJ):Prop:=eV k<|A0 A
theorem lH.a(r:lH k A):A.depth<AY:=(eV.a (A:=A0 A) r)
theorem lH.d(r:lH (k+1) A) env :lH k (A.deeper env):=(eV.d r _)
theorem lH.T(r:lH k A)(h:j<=k):lH j A:=eV.T r h
def pk(CX:vt)(P:b9)(w:eI)(K:bg)(mg:eR)(C:Heap)(N:List Str)(qual:Str)(scope:wx)(f:Addr)(cd:aI)(A:eJ)(o:List Env)(s:a7)(H:Hp)(E:XK):Cx:=
 { mO CX P w K mg C N qual scope f cd A o s H E with f:=false}
theorem HS.w{C:L2.St}(h:HS X)(I:am X J C H s):O2 X.A H:=by
 refine Z_44 h λx o u c e d b a=>?_;exact⟨x,o,u,c,e,I.T.L x o u d,b,a⟩
structure DQ(P:b9)(w:eI)(K:bg)(mg:eR)(base:Heap)(CX:vt)(k:Nat)(f:Addr)(fd:iA)(ps:List Str)(sp:Sp):Prop where
 mt:∀vs H Q E,sp vs H Q E->vs.length=ps.length
 r:∀(A:eJ) (outer:List Env) (s:a7) (H:Hp) (args:Args) (us:List aI) (vs:List V) (Q:VK) (E:XK),lH k A->O2 A H->IV P w K mg base A outer s H->B6 s fd args (ps.zip us)->a_ vs us->sp vs H Q E->
  A7 (cK P w) A (.call (.ref f) args) (CR CX outer P w H s Q E) s
theorem Q7{K:bg}
  (S:aN N U scope) (J:IV P w K mg C A o s H) (hl:vs.length=U.length) (r:a_ vs us)
  (x:InCallC s s.heap.objs.size (DJ (sL qual scope s.heap.objs.size f cd).kindOf (U.zip us) λ_=>none) (BM (s.heap.objs.size+1) scope.names []) (DL (sL qual scope s.heap.objs.size f cd).kindOf (U.zip us) λ_=>none) s1):
  am (pk CX P w K mg C N qual scope f cd A o s H E) [] (L2.b_ N vs) H s1:=by
 have a:IV P w K mg C (A0 A) o s H:=⟨J.f,J.mod,J.bs,J.j,J.uX,J.i,J.W,J.LE⟩;have I:=JM (CX:=CX) (E:=E) S rfl a hl r x;have ok:=I.R;exact⟨⟨ok.mod,ok.k,ok.h,ok.m,ok.d,ok.inj,ok.q,ok.p,λz=>(by cases(z)),AV J.f,ok.s,ok.r,ok.bs,ok.j,ok.n,ok.l,ok.uX,ok.i⟩,I.os,I.LE,I.T,I.loc,I.cell,I.Y,I.freeC,I.pin,I.W,I.mt⟩
theorem SB{K:bg}{kV:aI}
     (lk:K.lookup f=some ⟨oc,od,.func<|y9 name qual params body scope dV kV doc pm an cdv ct,osl⟩) (hcd:BN K cdv qual=true) (S:aN N ps scope)
  (len:∀vs H Q E,sp vs H Q E->vs.length=ps.length)
  (hbody:∀(A:eJ) (C:List Env) (s:a7) (H:Hp) (vs:List V) (Q:VK) (E:XK),lH k (A.deeper<|sL qual scope s.heap.objs.size f cdv)->HS (pk CX P w K mg U N qual scope f cdv A C s H E)->sp vs H Q E->
   ∃t,lS (pk CX P w K mg U N qual scope f cdv A C s H E) body t/\t { n:=λ_ H'=>Q .E H',r:=Q} (b_ N vs) H):
  DQ P w K mg U CX (k+1) f (y9 name qual params body scope dV kV doc pm an cdv ct) ps sp:=by
 refine⟨len,λA C s H m G vs Q E z X h B r g=>?_⟩;have F:=len _ _ _ _ g;have KX:K.In _:=h.mod.k.keeps λb o e=>(h.bs b o e).1;have i:s.heap.NoLimit:=h.mod.n.keeps λb o e=>(h.bs b o e).1;have c:∀y∈ps.zip G,scope.names.lookup y.1=some _\/(scope.names.lookup y.1=some _/\((BM (s.heap.objs.size+1) scope.names []).lookup y.1).isSome=true):=λ⟨n,v⟩ R=>by
  rcases S.b n (tz R).1 with q|q
  .exact .inl q
  exact .inr ⟨q,y8 _ _ _<|.inl q⟩
 refine codeAny_call_function (lH.a z) (KX _ _ lk) rfl S.c S.g rfl (W.codeRec_of KX hcd)<|B _ _ _ _ ?_;refine uu S.k c λO D p x=>?_;subst D;refine⟨i.keeps x.toInCall.keep,codeAny_func ?_⟩;refine oj (hbody A C s H vs Q E (lH.d z _) X g) λt T L=>?_;have I:am (pk CX P w K mg U N qual scope f cdv A C s H E) [] (b_ N vs) H p:=Q7 S h F r x;refine gN (T [] p (b_ N vs) H _ I L) (λM l d=>?_) λe l d=>d;have fin:∀{a:L2.St} {H':Hp} {v:V} {u:aI},am (pk CX P w K mg U N qual scope f cdv A C s H E) [] a H' l->bn v u->Q v H'->CE C P w H s Q u l:=
  λ{a H' v u} J j q=>⟨v,H',J.os,J.LE,J.T,J.W,j,q⟩
 cases M with
 |ret u=>
  refine Z_ d λv a H' J j q=>?_;exact fin J j q
 |next=>
  refine Y' d λa H' J q=>?_;exact fin (v:=V.E) (u:=fN) J rfl q
 |brk=>
  refine Y' d λ_ _ _ q=>?_;exact fT q
 |cont=>
  refine Y' d λ_ _ _ q=>?_;exact fT q
section
variable {K:bg}
theorem Zh{st:Stmt}(F:mi K x qual st f fd)(S:aN N U (az st))(len:∀J H Q E,sp J H Q E->J.length=U.length)
  (I:∀(C:aI) (A:eJ) (o:List Env) (s:a7) (H:Hp) (J:List V) (Q:VK) (E:XK),lH k (A.deeper<|sL qual (az st) s.heap.objs.size f C)->HS (pk (db P w) P w K mg base N qual (az st) f C A o s H E)->sp J H Q E->
   ∃t,lS (pk (db P w) P w K mg base N qual (az st) f C A o s H E) (ig st) t/\t { n:=λ_ H'=>Q .E H',r:=Q} (L2.b_ N J) H):DQ P w K mg base (db P w) (k+1) f fd U sp:=by
 refine Z_93 F.l λm j kV c l n C ct e zq9 g b=>?_;subst zq9;refine SB g b S len λA o s H J Q E d i a=>?_;refine oj (I C A o s H J Q E d i a) λt h q=>?_;exact⟨t,h,q⟩
theorem O5{st:Stmt}(Fu:mi K x qual st f fd)(S:aN N ps (az st))
  (U:∀(J:aI) (A:eJ) (I:List Env) (s:a7) (H:Hp) (E:XK),lH k (A.deeper<|sL qual (az st) s.heap.objs.size f J)->HS (pk (db P w) P w K mg base N qual (az st) f J A I s H E)->
   ii (pk (db P w) P w K mg base N qual (az st) f J A I s H E) E (ig st) g):DQ P w K mg base (db P w) (k+1) f fd ps (sw ⟨K,mg⟩<|aV N.length ps.length g):=by
 refine Zh Fu S (λM H Q E h=>?_) λJ A I s H M Q E F r h=>?_
 .refine Y_ h λO m _ hd q=>?_;rw[bK hd];exact(Cv q).1
 refine Y_ h λO m n hd q=>?_;obtain⟨V,q⟩:=Cv q;refine⟨_,U J A I s H E F r,O,λ_=>False,H,λ_=>none,_,JR n hd V,?_⟩;have sm:∀{i j H' m'},dg (⟨K,mg⟩) O (λ_=>False) H i j H' m'->aD H H':=λR b o e=>R.Z b o e id;cases z:g _ with
 |A c=>rw[z] at q;exact λC H' e kp=>q C H' e λb o e=>kp b o e id
 |b=>rw[z] at q;exact q.elim
 |R a=>
  obtain⟨G,m'⟩:=a;rw[z] at q;cases G with
  |bk=>exact q.elim
  |c=>exact q.elim
  |n=>exact λi j H' l _=>q _ H' (sm l) .E λz=>by cases z
  |r fr d=>
   intro v i j H' l _ B L;refine q v H' (sm l) (B.N λb z=>.inl<|.inl z) λz=>?_;rcases L z with⟨p,u,D,T⟩|t
   .exact .inl ⟨p,u,D,T.N λb z=>.inl<|z.elim (λy=>.inl<|.inl y) .inr⟩
   exact .inr t
end
structure JY(P:b9)(w:eI)(K:bg)(mg:eR)(base:Heap)(k:Nat)(x:Str)(ps:List Str)(sp:Sp):Prop where
 l:∃f fd,DQ P w K mg base (db P w) k f fd ps sp/\eH K fd ps []/\mS K (.ref f)=true/\mg x=some (.ref f)
abbrev EA(P:b9)(w:eI)(K:bg)(mg:eR)(o:Heap)(k:Nat)(x:Str)(C:List Str)(Φ:b8):Prop:=JY P w K mg o k x C<|sw ⟨K,mg⟩ Φ
theorem J5{K:bg}{st:Stmt}(D:Df K mg x st I)
  (h:∀f C,mi K x x st f C->DQ P w K mg o (db P w) k f C I sp):JY P w K mg o k x I sp:=by
 refine Y_ D.l λf C F b m=>?_;exact⟨f,C,h f C F,b,F.R,m⟩
section
variable {p pos:Pos}{fs:g7}
theorem Vk{J:L2.St}(F:DQ X.p X.w X.K X.m X.T CX k f fd ps sp)(hr:lH k X.A)(hh:O2 X.A H)(hb:eH X.K fd ps ds)(hd:a_ dvs ds)(U:et CX X E)
  (I:am X C J H s) (r:a_ o us) (h:sp (o++dvs) H Q E):cb (cK X.p X.w) X.A (call (.ref f) us) (EP X C J Q) X.g s:=by
 have b:=r.c hd;have c:(us++ds).length=ps.length:=by rw[<-b.l];exact F.mt _ _ _ _ h
 refine AQ<|r9 (F.r _ _ s H _ _ _ Q E hr hh I.env0 (hb s us I.kIn c) b h) λr d a=>?_;cases r with
 |error e=>exact U C J H s e d I a
 |ok fl=>
  cases fl with
  |ret u=>exact I.after a
  |next=>exact fT a
  |brk=>exact fT a
  |cont=>exact fT a
theorem Yv(Fo:DQ X.p X.w X.K X.m X.T CX k f fd ps sp)(hr:lH k X.A)(hh:HS X)(hg:Gl X x)(J:X.m x=some (.ref f))(hk:mS X.K (.ref f)=true)(hb:eH X.K fd ps ds)(hd:a_ dvs ds)(C:et CX X E)
  (U:PA X (e::es) t) (o:autoParam ((x==("__debug__":Str))=false) YI) (he:autoParam (ag (e::es) X.d=(false,eval e X.d)::ag es X.d) YO) (μ:autoParam ((ij pos<|ag es X.d).any (·.1)=false) YO):
  PE X (.Call (.Name x p) (e::es) [] pos) (Iy sp dvs E t):=by
 intro b s d H Q I h;refine hJ<|sY I hg J ?_ o;refine vE I.R.mod.k hk (ce (U _ b s d H _ I h) λg i c=>f3 c λj H1 a r q=>⟨a.kIn,?_⟩) he μ;exact Vk Fo hr (hh.w a) hb hd C a r q
theorem Ru(Fh:EA X.p X.w X.K X.m X.T k x ps Φ)(U:lH j X.A)(hh:HS X)(C:et (db X.p X.w) X E)(I:ln X E (e::es) fs)(hk:autoParam (k<=j) YI)(hg:autoParam (Gl X x) YO)
  (o:autoParam ((x==("__debug__":Str))=false) YI) (he:autoParam (ag (e::es) X.d=(false,eval e X.d)::ag es X.d) YO) (J:autoParam ((ij pos<|ag es X.d).any (·.1)=false) YO):
  FE X E (.Call (.Name x p) (e::es) [] pos) (a0 Φ fs):=by
 refine ZE Fh.l λf fd G b kp m=>?_;refine bA (Yv G (U.T hk) hh hg m kp b .nil C I o he J) λn H Q g=>cC g λl M0 H0 ow m R q=>⟨l,M0,H0,ow,m,R,q.s.u (aD.s _) λds q h H1 c d=>?_⟩;show sw _ _ _ _ _ _;rw[c9];exact⟨_,ds,(R.T c).W,d,q.s.u c λr q v H' i a _=>q v H' (c.t i) a⟩
end
section
variable {K:bg}
theorem HD:et (db P w) (pk (db P w) P w K mg base N qual scope f cd A outer s H E) E:=by
 intro W Y H1 Z e C I h;refine ZT h λj Q G B H' F R=>?_;obtain rfl:=F.T;have i:∀b o,s.heap.get? b=some o->b∉eh _->b∉eh (pk (db P w) P w K mg base N qual scope f cd A outer s H E).Z:=λb o q c g=>by
  rcases z8 rfl g with z|z
  .exact absurd (aS q) (by rw[z];exact fS _)
  exact c z
 have nx:∀b,b∉(pk (db P w) P w K mg base N qual scope f cd A outer s H E).l:=λb z=>absurd (show b∈([]) from z) (by simp);refine PK I.R.f rfl F.R λX x D=>?_;refine⟨j,Q,G,B,H',⟨rfl,F.os.trans I.os,F.LE,x,F.Q,λb o q n c=>?_,λb o q g=>?_,λb o q n=>?_,λb o q c=>?_,λb t q=>F.M b t<|I.T.M b t q,λb o u q=>F.L b o u<|I.T.L b o u q,λb T q=>?_,F.W,?_,F.J⟩,R⟩
 .exact F.Z b o (I.T.Z b o q n c<|nx b) (I.T.Y b o q n<|nx b)<|i b o q c
 .obtain⟨V,a⟩:=I.T.S b o q (I.R.i b g) g<|nx b;obtain⟨_,d,k,p⟩:=I.R.uX.mem g;have O:=cE<|q.symm.trans k;obtain⟨EF,m⟩:=F.S b _ a<|N6 g;obtain⟨r,S⟩:=D b _ m λv z=>p v (by rw[<-O];exact z);exact⟨r,S⟩
 .obtain⟨d,a⟩:=I.T.K b o q<|nx b;exact F.Y b d a<|I.T.Y b o q n<|nx b
 .obtain⟨d,a⟩:=I.T.K b o q<|nx b;exact F.K b d a<|i b o q c
 .obtain⟨y,a⟩:=I.T.N b T q;obtain⟨M,m⟩:=F.N b _ a;exact⟨ _,by rw[m,oQ]⟩
 cases q:s.heap.get? j with
 |none=>rfl
 |some o=>
  obtain⟨d,a⟩:=I.T.K j o q<|nx j;rw[F.O] at a;cases a
end
section
variable {p pos pos' η:Pos}{fs:g7}
theorem X5(Fo:DQ X.p X.w X.K X.m X.T CX k f fd ps sp)(hr:lH k X.A)(hg:Gl X x)(hm:X.m x=some (.ref f))(hk:mS X.K (.ref f)=true)(hb:eH X.K fd ps ds)(hd:a_ dvs ds)(U:et CX X E)
  (ha:PA X (e::es) t) (C:autoParam ((x==("__debug__":Str))=false) YI) (he:autoParam (ag (e::es) X.d=(false,eval e X.d)::ag es X.d) YO) (μ:autoParam ((ij pos<|ag es X.d).any (·.1)=false) YO):
  PE X (.Call (.Name x p) (e::es) [] pos) (λo H Q=>t o H λJ H1=>O2 X.A H1/\sp (J++dvs) H1 Q E):=by
 intro b s o H Q I h;refine hJ<|sY I hg hm ?_ C;refine vE I.R.mod.k hk (ce (ha _ b s o H _ I h) λd g c=>f3 c λJ H1 a r q=>⟨a.kIn,?_⟩) he μ;exact Vk Fo hr q.1 hb hd U a r q.2
theorem UI(Fh:EA X.p X.w X.K X.m X.T k x ps Φ)(hr:lH j X.A)(I:X.N.Nodup)(hi:X.N[i]? = some y)(hy:k6 X.d.scope y)(J:ln X E0 (e::es) fs)(hk:autoParam (k<=j) YI)(hg:autoParam (Gl X x) YO)
  (C:autoParam ((x==("__debug__":Str))=false) YI) (he:autoParam (ag (e::es) X.d=(false,eval e X.d)::ag es X.d) YO) (μ:autoParam ((ij η<|ag es X.d).any (·.1)=false) YO)
  (U:autoParam (eM (.Call (.Name x p) (e::es) [] η) (some<|.Name y pos') pos.line X.d=pure false) YO) (hf:autoParam (X.i y=true\/X.d.scope.names.lookup y=some .local) iv):
  lS X [.Assign [.Name y pos'] (.Call (.Name x p) (e::es) [] η) pos] (Da X<|aW i<|a0 Φ fs):=by
 refine ZE Fh.l λf fd G b kp m=>?_;have c:PE X (.Call (.Name x p) _ [] η) (λl H Q=>O2 _ H/\tE _ E0 (a0 Φ fs) l H Q):=bA (X5 G (hr.T hk) hg m kp b .nil (Vg) J C he μ) (by intro l H Q zr3;obtain⟨z,t,M0,H0,ow,m,R,q⟩:=zr3;exact ⟨t,M0,H0,ow,m,R,q.s.u (aD.s _) λds q n H1 d s=>⟨(by refine Z_43 z λx o u n a b c=>?_;exact ⟨x,o,u,n,a,d _ _ b,c⟩),by
  show sw _ _ _ _ _ _;rw[c9];exact⟨_,ds,(R.T d).W,s,q.s.u d λr q v H' B g _=>q v H' (d.t B) g⟩⟩⟩)
 exact Fb<|bN (Dp I hi hy c U hf) (by rintro W l H ⟨z,h⟩;exact ⟨z,Q8 h⟩)
theorem PC(o:eV k X.A):lH k (pb X C).A:=⟨rfl,o.b,o.S,o.c⟩
end
theorem RY(r:lH k A):A.units+64<tj:=eV.u (A:=A0 A) r
section
variable {E:Zs}
theorem Px(hh:A.handled=some (.ref x))(hd:o.data=.fields U)(h2:U[2]? = some .none) I C (J:C≠I)(hx:x≠I) items :
  Walks prog w A I [I,C,x] [I] items.size (λi v=>items[i]? = some v) (λi h=>h.IsListIter I C i/\h.IsList C items/\h.get? x=some o) where
 sub:=λb z=>by simp at z;simp[z]
 frame:=λ_ _ _ z k=>⟨z.1.at<|k I (by simp),z.2.1.at<|k C (by simp),k x (by simp) _ z.2.2⟩
 item:=λi s Q E l z q=>pV z.1 z.2.1 (x:=items[i]) (by simp[l]) λa t u=>
  q _ a _ (by simp[l]) ⟨t,z.2.1.extBut u.extBut J,u.extBut x o hx z.2.2⟩ λb c n e=>u.extBut b c (λy=>n<|by simp[y]) e
 done:=λs Q E z q=>Jg ⟨x,o,U,hh,z.2.2,hd,h2⟩ z.1 z.2.1 (by simp) λa u=>q a _ λb c n e=>u b c (λy=>n<|by simp[y]) e
 self:=λ_ _ _ _ z q=>r6 z.1 q
theorem JZ:∀{bs:List Bool} {us:List aI},a_ (bs.map V.B) us->us=bs.map qk
 |[],_,.nil=>rfl
 |b::bs,_,.cons r t=>by subst r;rw[JZ t];rfl
theorem Ri{bs:List Bool}{Q:Zs}(I:sr A s.heap)(C:s.heap.IsList l (bs.map qk).toArray)
  (q:∀h' tk t',(∀b o,s.heap.get? b=some o->h'.get? b=some o)->Q (.int (bs.map λb=>if b=true then(1:Int) else 0).sum t') { s with heap:=h',toks:=tk}):
  cb (cK prog w) A (call (.builtin "sum") [.ref l]) Q E s:=by
 refine ZO I λx o M k h hd c=>?_;have d:=let⟨_,e,_⟩:=C;aS e
 have f:=aS h;refine call_sum_walkAnyB<|mP C ⟨_,_,_,_,_,_,_,λj=>(bs.map λb=>if b=true then(1) else 0).getD j 0,rfl,(Px (A:=A.in1) k hd c _ l (b0 d) (b0 f) _).toS,⟨⟨_,bp _ rfl,rfl,rfl⟩,C.push _,ah _ h⟩,λb a=>?_,λi v g=>?_,λp t' B=>?_⟩
 .rw[A1];simp only[a9,List.not_mem_nil,or_false] at a;rcases a with rfl|rfl|rfl
  .exact zi _
  .exact kX d
  exact kX f
 .right;simp only[List.getElem?_toArray,aT,qh] at g;refine oj g λb a zq2=>?_;subst zq2;exact⟨b,rfl,by simp[cp,a]⟩
 have e:=preSum_getD (bs.map λb=>if b=true then(1) else 0) bs.length;rw[iP<|by simp] at e;have u:(bs.map qk).toArray.size=bs.length:=by simp
 rw[u,e];obtain⟨n,H,K,D,L⟩:=B;obtain⟨c,G,m,r,t⟩:=p;cases(H);cases(D);cases(K);exact q c r t' λb F z=>n b F (λy=>by simp only[cS] at y;subst y;exact absurd (aS z)<|fS _) (ah _ z)
end
def Pg:List D->Option D
 |[.P ds]=>(tK ds).map λbs=>.l (bs.map λb=>if b=true then(1:Int) else 0).sum
 |_=>none
theorem GQ(o:HS X):jf X (.builtin "sum") (o_ (gx X) Pg):=by
 intro n s y H c w Q I r h;refine ZO h λO b d m e a q=>?_
 refine oj (i1_ a) λb zq1 a=>?_;subst zq1
 refine oj (fx a) λbs f zq2=>?_;subst zq2;refine oj (yF e) λv zq1 g=>?_;subst zq1;refine Y_ (iV g) λp c zq2 j hd=>?_;subst zq2;cases Ab hd f;refine oj (e_ r) λu zq1 i=>?_;subst zq1;subst i;refine o5 (I.IO j) λz l pl x=>?_;cases JZ l;exact Ri (Rk o I) pl.isList λt tk k kp=>⟨.l _,H,I.we kp,⟨k,rfl⟩,q _ _ (aD.s _)<|.l _⟩
end F
namespace Hd
open PySem PySem.Spec PyProof.Rows L2
def J2(K:bg)(C J:Addr)(I:List aI)(o:String):Bool:=match K.lookup C with
 |some ⟨.type "type",_,.cls cd,sl⟩=>(match cd.mro,sl.toList with
  | .ref D::bm,[_,_,_,_,some<|.builtin n,_]=>D==C&&n==o&&!cd.hasDel&&cd.hasDict&&W.tailIn K I bm&&W.nsOkIn K cd.ns&&so K cd.ns "__init__"==some (some<|.ref J)
  |_,_=>false)
 |_=>false
theorem TR{K:bg}{mg:eR}(X:K.In h)(G:h.Ns N mg)(e:so K N n=some (some v)):mg n=some v:=by
 refine ZO G λo d c a hd _ b=>?_;unfold so at e;split at e
 case h_1 q=>
  cases a.symm.trans (X _ _ q);cases hd;split at e
  case h_1 he=>
   cases e;rw[<-b];unfold nsFind findBy;rw[<-BI,he];rfl
  case h_2=>split at e<;>cases e
 case h_2=>cases e
theorem Um{K:bg}(X:K.In h)(q:J2 K C U I o=true):
  ∃bm N nm J bs sn sub ab col dd k0 k1 k2 k3 k5 mN,h.get? C=some (Bi nm J C N bs bm true sn sub ab col dd k0 k1 k2 k3 k5 o)/\h.Ns N mN/\mN "__init__" = some (.ref U)/\OwnTail h I bm:=by
 unfold J2 at q;split at q
 case h_2=>cases q
 case h_1 dd cd sl ho=>
  split at q
  case h_2=>cases q
  case h_1 C' bm k0 k1 k2 k3 n k5 hm hs=>
   simp only[beq_iff_eq,ia,Bool.not_eq_true'] at q;obtain⟨⟨⟨⟨⟨⟨j,g⟩,a⟩,d⟩,i⟩,b⟩,f⟩:=q;subst j g;obtain⟨nm,bs,e,k,J,hd,sn,sub,ab,col,c⟩:=cd;cases(hm);cases(a);cases(d);obtain⟨l⟩:=sl;cases(hs);exact⟨bm,k,nm,J,bs,sn,_,ab,_,dd,k0,k1,k2,k3,k5,_,X _ _ ho,.of_isNs<|CI X b,TR X (.of_isNs<|CI X b) f,W.tail_of_in X i⟩
section
variable {E:Zs}{h:Heap}{t:Nat}{os:OsState}
variable {C:Addr}
noncomputable def Ox(C t:Addr):Obj:={ cls:=.ref C,data:=.fields #[.ref t,.none,.none,.none,.bool false,.none]}
def BP(h:Heap)(C:Addr)(o:List aI):Heap:=(h.push { cls:=.type "tuple",data:=.seq o.toArray }).push<|Ox C h.objs.size
theorem Oo(z:h.get? b=some o):(BP h C I).get? b=some o:=ah _<|ah _ z
theorem Nv:(BP h C o).get? (h.objs.size+1)=some (Ox C h.objs.size):=by unfold BP Ox;heap_get
theorem PU(F:AD B newId initId bmB)(T:OwnTail h bmB bm){mN:eR}
  (J:h.get? C=some (Bi nm q C N bs bm hdct sn sub ab col dd k0 k1 k2 k3 k5 newId)) (hn:h.Ns N mN) (hi:mN "__init__" = some (.ref fI)) (hf:h.get? fI=some oI) (U:oI.cls=.type "function")
  (k:cb (cK prog w) A (call (.ref fI) (.ref (h.objs.size+1)::I)) (λr s'=>r=.none/\Q (.done<|.ret<|.ref<|h.objs.size+1) s') E ⟨BP h C I,g,d,t,os⟩) (hz:I.length<=aw:=by size_fits):
  cb (cK prog w) A (Cn.«type.__call__» ⟨.ref C::I,[]⟩) Q E ⟨h,g,d,t,os⟩:=by
 repeat (first|with_reducible refine fA J ?_|with_reducible refine wpAny_madeBy_exc J ?_|wp_step)
 refine codeAny_call_builtin_code (vT _ F.quiet)<|wpAny_check_new_subT F T J<|codeAny_exc_new_subT F T J ?_ hz;show cb _ _ _ _ _ _;show cb _ _ _ _ _ ⟨BP h C I,_,_,_,_⟩;have kp:∀b o,h.get? b=some o->(BP h C I).get? b=some o:=λb o z=>Oo z;have e:(BP h C I).get? _=some _:=Nv;have c:(Ox C h.objs.size).cls=.ref C:=rfl;have a:(cq C::bm).contains (.ref C)=true:=by simp
 unfold B5
 repeat (first|(with_reducible refine fA e ?_;rw[c])|(with_reducible refine wpAny_isSubtype_exc (kp _ _ J) ?_;rw[a])|wp_step)
 show cb _ _ _ _ _ _;refine wpAny_typeLookup_tail (kp _ _ J) (hn.keeps kp) (T.keeps kp) F.mroIs F.init.lookup ?_;rw[hi];refine i7<|ae ?_;unfold bindSpecial;refine ae<|wpAny_typeOf ⟨_,kp _ _ hf,U⟩ ?_;rw[if_pos<|by decide];refine av<|ae<|gN k (λr s' z=>?_) λ_ _ z=>z;obtain⟨rfl,z⟩:=z
 wp_walk
 exact z
theorem WZ(F:AD B newId initId bmB)(T:OwnTail h bmB bm){U:eR}{Q:Zs}
  (I:h.get? C=some (Bi nm q C N bs bm hdct sn sub ab col dd k0 k1 k2 k3 k5 newId)) (hn:h.Ns N U) (hi:U "__init__" = some (.ref fI)) (hf:h.get? fI=some oI) (J:oI.cls=.type "function")
  (k:cb (cK prog w) (A.under<|.builtin "type.__call__" ⟨.ref C::o,[]⟩) (call (.ref fI) (.ref (h.objs.size+1)::o)) (λr s'=>r=.none/\Q (.ref<|h.objs.size+1) s') E ⟨BP h C o,g,d,t,os⟩) (hz:o.length<=aw:=by size_fits):
  cb (cK prog w) A (call (.ref C) o) Q E ⟨h,g,d,t,os⟩:=by
 have b:=tc_lookup;have c:=tc_bind<|.ref C;have a:(⟨h,g,d,t,os⟩:a7).TypeIs (.ref C) _:=⟨_,I,rfl⟩;refine AQ<|codeAny_of_tree ?_;show cb _ _ _ _ _ _
 repeat (any_goals (first|assumption|with_reducible refine fA I ?_|wp_step))
 exact⟨rfl,codeAny_call_builtin_at (vT _<|by decide +kernel) entry_typeCall<|wpAny_check_type_call_sub I<|PU F T I hn hi hf J k⟩
end
noncomputable def Ju:List aI->Bool
 | .ref _::r=>Ju r
 |l=>l==[.type "ValueError",.type "Exception",.type "BaseException",.type "object"]
theorem VR  o :∀{l:List aI},Ju l=true->refuseLoop o "__setattr__" l=pure ():=by
 intro l;induction l with
 |nil=>intro e;cases e
 |cons v r ih=>
  intro e;cases v with
  |ref a=>rw[refuseLoop_ref];exact ih e
  |_=>rw[beq_iff_eq.mp<|e];exact PySem.F.store_ValueError.passes o
structure XF(K:bg)(C:Addr):Prop where
 i:XC K C
 s:d5 K (.ref C) "__setattr__" = some (some (.builtin "object.__setattr__"))
 ov:(Cf K C).any (λcd=>Ju cd.mro)=true
 g:W.hasDictIn K C=true
section
variable {E:Zs}{K:bg}
theorem Vl(X:K.In s.heap)(Z:XF K C)(I:W.InstAt s.heap x ox C od)(o:d5 K (.ref C) f=some none)
  (h:cb (cK prog w) A.in1 (Builtin.ObjectAttr.storeInOwnDict (.ref x) (.ref C) (.str f s.toks) f v false) (λfin s'=>match fin with|.done (.ret _)=>Q () s'|_=>False) (λe s'=>E e s') { s with toks:=s.toks+1}):
  cb (cK prog w) A (setAttr (.ref x) f v) Q E s:=by
 refine W.set_plain X I Z.s ?_;have a:=PySem.F.store_object;have sub:W.Looks (cK prog w) _ (B5 (.ref x)<|.type "object") _:=I.type.andThen<|yn X Z.i.o;refine nz a.slot.plain a.entry<|@W.check_slot _ _ _ _ _ _ _ _ _ [] _ a.kind a.split sub (a.args _ _ v) ?_;refine oj (AS Z.ov) λi b g=>?_;have d:W.Looks (cK prog w) _ (mroOf<|.ref C) _:=(y6 X b).andThen .now;rw[W.osa_eq,refuse_eq];refine ae<|ae<|sv I.type (ae<|sv (s:={ s with toks:=s.toks+1 }) d ?_);rw[VR _ g];refine av<|ae<|sv (s:={ s with toks:=s.toks+1 }) I.type (ae<|sv (s:={ s with toks:=s.toks+1 }) (l9 X o) ?_);refine ae<|av<|gN h (λfin s' z=>?_) λ_ _ z=>z;rcases fin with(u|_|_|_)|c<;>first|exact z|exact z.elim
theorem RH(X:K.In s.heap)(Z:XF K C)(I:s.heap.get? x=some ox)(J:ox.cls=.ref C)(U:∃vs,ox.data=.fields vs)(hd:ox.dict=none)(hn:d5 K (.ref C) f=some none)
  (q:∀h' t,h'.get? x=some { ox with dict:=some s.heap.objs.size}->h'.Ns1 s.heap.objs.size (λy=>if y=f then some v else none)->(∀b o,b≠x->s.heap.get? b=some o->h'.get? b=some o)->Q () { s with heap:=h',toks:=t}):
  cb (cK prog w) A (setAttr (.ref x) f v) Q E s:=by
 obtain⟨D,G⟩:=U;obtain⟨L,d,i,F⟩:=ox;cases(show L=.ref C from J);cases(show d=none from hd);cases(show i=.fields D from G);refine Vl (od:=none) X Z ⟨I,rfl,rfl,trivial⟩ hn ?_;refine oj (AS Z.g) λN m j=>?_;refine ae<|av<|ae<|ae<|AZ I<|ae<|sv (y6 X m) ?_;rw[j];have a:=ah { cls:=.type "dict",data:=.dict #[] } I;have n:x≠s.heap.objs.size:=b0<|aS I;refine ae<|wpAny_alloc'<|ae<|wpAny_update' a<|av<|ae<|av<|ae ?_;have H:((s.heap.push _).update x λo=>{ o with dict:=some s.heap.objs.size }).get? _=some { cls:=.type "dict",data:=.dict #[] }:=(kl _ _ _ _ n.symm).trans<|Heap.get?_push_at rfl rfl;refine wpAny_nsSet1 (Heap.Ns1.of_empty ⟨_,#[],_,H,rfl,λe z=>absurd z (by simp),λ_=>rfl⟩) λh' c p=>?_;refine Z_ (c.count<|Within.cons f v Within.nil) λM B r l g k=>?_;refine ae<|wpAny_lookBehind l (by rw[g];exact pastItsLine_dict<|dS k (by rw[cm,AE,tw];omega))<|av<|q h' _ ?_ c λb o u z=>?_
 .exact(p.2 x n).trans (eP _ a rfl)
 exact(p.2 b<|b0<|aS z).trans ((kl _ _ _ _ u).trans<|ah _ z)
theorem UD{I:eR}(X:K.In s.heap)(Z:XF K C)(J:s.heap.get? x=some ox)(hc:ox.cls=.ref C)(hf:∃vs,ox.data=.fields vs)(hd:ox.dict=some o)(U:s.heap.Ns1 o I)(hw:Within I ns)(hz:ns.length<=aw)(hn:d5 K (.ref C) f=some none)
  (q:∀h' t,h'.Ns1 o (λy=>if y=f then some v else I y)->kA o s.heap h'->Q () { s with heap:=h',toks:=t}):
  cb (cK prog w) A (setAttr (.ref x) f v) Q E s:=by
 obtain⟨z,p⟩:=hf;obtain⟨r,e,h,B⟩:=ox;cases(hc);cases(hd);cases(p);refine Z_32 (id U) λn _ _ c _=>?_;refine Vl (od:=some n) X Z ⟨J,rfl,rfl,c⟩ hn ?_;refine oj (AS Z.g) λF k i=>?_;refine ae<|av<|ae<|ae<|AZ J<|ae<|sv (y6 X k) ?_;rw[i];refine av<|ae<|av<|ae<|wpAny_nsSet1 U λh' b m=>?_;refine Z_ (b.count<|Within.cons f v hw) λD u l j g d=>?_;exact ae<|wpAny_lookBehind j (by rw[g];exact pastItsLine_dict<|dS d (by rw[cm];omega))<|av<|q h' _ b m
end
section
variable {E:Zs}{os:OsState}{K:bg}{mA:eR}
theorem WG(X:K.In h)(Z:XF K C)(J:h.get? a=some o)(hc:o.cls=.ref C)(I:∃us,o.data=.fields us)(hd:o.dict=some dx)(U:h.Ns1 dx mA)(hv:mA f=some v)(hn:d5 K (.ref C) f=some none)(hq:Q (.done<|.ret v) ⟨h,g,d,t,os⟩):
  cb (cK prog w) A (Cn.«object.__getattribute__» ⟨[.ref a,.str f tk],[]⟩) Q E ⟨h,g,d,t,os⟩:=by
 have i:=l9 (M:=cK prog w) X hn;refine oj (AS Z.g) λn e l=>?_;have j:=y6 (M:=cK prog w) X e;obtain⟨us,I⟩:=I;obtain⟨m,b,c,k⟩:=o;cases(hc);cases(hd);cases(I)
 repeat (any_goals (first|assumption|with_reducible refine fA J ?_|with_reducible refine i.at ?_|with_reducible refine j.at ?_|(with_reducible refine wpAny_nsGet U.ns ?_;rw[hv])|wp_step))
theorem OH{Q:Zs}(X:K.In h)(Z:XF K C)(I:h.get? a=some o)(J:o.cls=.ref C)(hf:∃us,o.data=.fields us)(hd:o.dict=some dx)(U:h.Ns1 dx mA)(hv:mA f=some v)(hn:d5 K (.ref C) f=some none)(hb:∀id,v≠.builtin id)(hq:Q v ⟨h,g,d,t,os⟩):
  cb (cK prog w) A (getAttrBy (.ref a) (.str f tk) b1 b2) Q E ⟨h,g,d,t,os⟩:=by
 have i:=nB.ga.bind<|.ref a;have b:=l9 (M:=cK prog w) X Z.i.g;have c:=l9 (M:=cK prog w) X Z.i.n;have e:(jS "BaseException.__getattribute__"==jS "object.__getattribute__")=false:=by decide +kernel
 have k:(onTheHeap (cq C)&&jS "BaseException.__getattribute__"==jS "object.__getattribute__")=false:=by rw[e];rfl
 have j:(b2&&onTheHeap (jS "BaseException.__getattribute__"))=false:=by cases b2<;>rfl
 repeat (any_goals (first|assumption|(with_reducible refine fA I ?_;rw[J])|with_reducible refine b.at ?_|with_reducible refine c.at ?_|wp_step))
 all_goals try refine nz nB.ga.plain F.entry_bexc_ga (Qa X Z.i I J<|WG X Z I J hf hd U hv hn ?_)
 all_goals repeat (any_goals (first|assumption|wp_step))
 cases v<;>first|exact av hq|exact absurd rfl (hb _)
theorem VC{Q:Zs}(X:K.In h)(Z:XF K C)(U:h.get? a=some o)(I:o.cls=.ref C)(hf:∃us,o.data=.fields us)(hd:o.dict=some dx)(hm:h.Ns1 dx mA)(hv:mA f=some v)(hn:d5 K (.ref C) f=some none)(J:∀id,v≠.builtin id)(hq:Q v ⟨h,g,d,t+1,os⟩):
  cb (cK prog w) A (getAttr (.ref a) f b) Q E ⟨h,g,d,t,os⟩:=by
 repeat (any_goals (first|assumption|with_reducible apply OH X Z U I hf hd hm hv hn J|wp_step))
end
def k4(e:Addr)(ob:Obj)(h:Heap):Prop:=h.get? e=some ob
def Xd(o:Addr)(fs:List (Str×V))(h:Heap):Prop:=∃a,h.Ns1 o a/\(∀f,yw (fs.lookup f)<|a f)/\Within a (fs.map (·.1))
theorem ZP(z:k4 e ob h):bZ P w H h e (.e<|k4 e ob):=⟨z,⟨_,z⟩,λ_ _ a k=>k _ a⟩
theorem IA(z:Xd dx fs h):bZ P w H h dx (.e<|Xd dx fs):=⟨z,(by refine oj z λ_ zq1 _=>?_;refine Z_32 zq1 λo _ _ e _=>?_;exact ⟨o,e⟩),(by intro _ _ zr2 k;refine oj zr2 λc a b=>?_;exact ⟨c,a.at k,b⟩)⟩
section
variable {σ:St}{E:Zs}
theorem Br(n:a≠b):upd (upd H a o) b I=upd (upd H b I) a o:=by
 funext c;unfold upd;by_cases e:c=a<;>by_cases d:c=b<;>simp[e,d]
 .exact absurd (e.symm.trans d) n
 .intro z;exact absurd z n
 intro z;exact absurd z.symm n
theorem Vv(I:am X π σ H s)(o:H e=some (.e<|k4 e ob)):s.heap.get? e=some ob:=(I.W e _ o).1
theorem S_(I:am X π σ H s)(U:H e=some (.e<|k4 e ob))(J:ob.cls=.ref C)(hf:∃us,ob.data=.fields us)(hd:ob.dict=none)(Z:XF X.K C)(n:d5 X.K (.ref C) f=some none)(r:bn v u)
  (q:∀dx s',H dx=none->dx≠e->am X π σ (upd (upd H dx<|.e<|Xd dx [(f,v)]) e<|.e<|k4 e { ob with dict:=some dx}) s'->Q () s'):cb (cK X.p X.w) A (setAttr (.ref e) f u) Q E s:=by
 have k:=Vv I U;have i:=I.W.n<|bb _;have l:=rX<|aS k;refine RH I.kIn Z k J hf hd n λF t m B p=>q _ _ i l<|I.S (((Un.laid (λ_ _ z=>z) (bb _) i)).t<|Un.write (by rw[bf l.symm,U];trivial) (.inl rfl) p ⟨_,m⟩) λb o z=>?_;by_cases j:b=e
 .subst j;rw[aP] at z;cases z;exact ZP m
 rw[bf j] at z;by_cases hd:b=s.heap.objs.size
 .subst hd;rw[aP] at z;cases z;refine IA ⟨_,B,λg=>?_,λg h=>?_⟩
  .by_cases h:g=f
   .rw[h,if_pos rfl];simp only[l4,beq_self_eq_true];exact r
   rw[if_neg h];have:(g==f)=false:=by simp[h]
   simp[l4,this,yw]
  by_cases d:g=f
  .simp[d]
  exact absurd (if_neg d) h
 rw[bf hd] at z;refine(I.W b o z).F (λc ob J y=>p c ob ?_ y) (λc y=>?_) λc D y=>?_
 .rcases J with J|J
  .rw[J];exact j
  intro a;rw[a,U] at J;cases J
 .rw[bf (λa=>by rw[a,U] at y;cases y),bf (λa=>by rw[a,i] at y;cases y)];exact y
 rw[bf (λa=>by rw[a,U] at y;cases y),bf (λa=>by rw[a,i] at y;cases y)];exact y
theorem Sk(I:am X π σ H s)(he:H e=some (.e<|k4 e ob))(U:ob.cls=.ref C)(hf:∃us,ob.data=.fields us)(hd:ob.dict=some dx)(J:H dx=some (.e<|Xd dx fs))(hz:fs.length<=100)(nf:fs.lookup f=none)(Z:XF X.K C)(n:d5 X.K (.ref C) f=some none)(r:bn v u)
  (q:∀s',am X π σ (upd H dx<|.e<|Xd dx<|fs++[(f,v)]) s'->Q () s'):cb (cK X.p X.w) A (setAttr (.ref e) f u) Q E s:=by
 refine o5 ((I.W dx _ J).1) λk l j d=>?_;refine UD I.kIn Z (Vv I he) U hf hd l d (by rw[aE,tw];omega) n λy t h p=>q _<|I.write (by rw[J];trivial) (.inl rfl) (λb o m z=>(p.2 b m).trans z) (by refine Z_32 h λo _ _ e _=>?_;exact ⟨o,e⟩)<|IA ⟨_,h,λg=>?_,λg c=>?_⟩
 .rw[List.lookup_append];by_cases c:g=f
  .rw[c,if_pos rfl,nf];simp only[l4,beq_self_eq_true,Option.none_or];exact r
  rw[if_neg c];have:(g==f)=false:=by simp[c]
  have i:l4 g [(f,v)]=none:=by simp[l4,this]
  rw[i,Option.or_none];exact j g
 rw[bP,bE];by_cases a:g=f
 .exact .inr<|by simp[a]
 exact .inl<|d g λz=>c<|(if_neg a).trans z
end
def Xb(C:Addr)(ns:List Str):Sp:=λc H Q _=>∃e ob a,c=.r e::a/\a.length=ns.length/\H e=some (.e<|k4 e ob)/\ob.cls=.ref C/\(∃us,ob.data=.fields us)/\ob.dict=none/\
 ∀b,H b=none->b≠e->Q .E (upd (upd H b<|.e<|Xd b<|ns.zip a) e<|.e<|k4 e { ob with dict:=some b})
theorem Uk(ha:PE X o ta)(hv:PE X value tv)(hs:autoParam (eM value (some<|.Attribute o f pos') pos.line X.d=pure false) YO):
  PS X (.Assign [.Attribute o f pos'] value pos) (λD U H=>tv U H λy H1=>ta U H1 λx H2=>∃e C ob,x=.r e/\H2 e=some (.e<|k4 e ob)/\ob.cls=.ref C/\(∃us,ob.data=.fields us)/\ob.dict=none/\XF X.K C/\d5 X.K (.ref C) f=some none/\
   ∀J,H2 J=none->J≠e->D.n U (upd (upd H2 J<|.e<|Xd J [(f,y)]) e<|.e<|k4 e { ob with dict:=some J})):=by
 intro c s U H D I h;refine rj (ce (hv c s U H _ I h) λu r j=>f3 j λy H1 z l q=>ce (ha c r U H1 _ z q) λg A zz0=>?_) hs;obtain⟨x,H2,w,i,e,C,ob,m,v,k,p,hd,Z,n,d⟩:=zz0;subst m;obtain rfl:g=cq e:=i;exact S_ w v k p hd Z n l λJ B a b t=>⟨U,_,t,d J a b⟩
theorem WS(ha:PE X o ta)(hv:PE X value tv)(hs:autoParam (eM value (some<|.Attribute o f pos') pos.line X.d=pure false) YO):
  PS X (.Assign [.Attribute o f pos'] value pos) (λD J H=>tv J H λy H1=>ta J H1 λx H2=>∃e C ob U fs,x=.r e/\H2 e=some (.e<|k4 e ob)/\ob.cls=.ref C/\(∃us,ob.data=.fields us)/\ob.dict=some U/\H2 U=some (.e<|Xd U fs)/\fs.length<=100/\fs.lookup f=none/\XF X.K C/\d5 X.K (.ref C) f=some none/\
   D.n J (upd H2 U<|.e<|Xd U<|fs++[(f,y)])):=by
 intro a s J H D I h;refine rj (ce (hv a s J H _ I h) λu r i=>f3 i λy H1 z l q=>ce (ha a r J H1 _ z q) λc A zz0=>?_) hs;obtain⟨x,H2,w,g,e,C,ob,U,fs,m,v,k,p,hd,d,j,nf,Z,n,b⟩:=zz0;subst m;obtain rfl:c=cq e:=g;exact Sk w v k p hd d j nf Z n l λB t=>⟨J,_,t,b⟩
section
variable {P:b9}{w:eI}{K:bg}{mg:eR}{base:Heap}{st:Stmt}
theorem N2(F:mi K "__init__" q st f fd)(Z:XF K C)(n:d5 K (.ref C) a=some none)(S:aN ["self",a] ["self",a] (az st))(U:ig st=[.Assign [.Attribute (.Name "self" p1) a p2] (.Name a p3) p4])
  (o:autoParam (i' (az st) "self") YR) (I:autoParam (i' (az st) a) YR) (hd:autoParam ((a==("__debug__":Str))=false) YI) (J:autoParam ((a==("__classdict__":Str))=false) YI):
  oY P w K mg base (db P w) 1 f fd ["self",a] (Xb C [a]):=by
 refine Gf F S (by intro o H Q E zr4;refine Z_ zr4 λe h b z l _=>?_;rw[z,cm,l];rfl) λj A c s H o Q E r zz0=>?_
 refine Z_37 zz0 λe h b z l p g m d k=>?_;match b,l with
 |[x],_=>
  subst z;rw[U];exact⟨_,Fb<|Uk (iG (i:=0) rfl o) (iG (i:=1) rfl I hd J) (by rfl),x,rfl,_,rfl,e,C,h,rfl,p,g,m,d,Z,n,k⟩
theorem GA(F:mi K "__init__" q st f fd)(Z:XF K C)(n:d5 K (.ref C) a=some none)(n2:d5 K (.ref C) b=some none)(U:(b==a)=false)(S:aN ["self",a,b] ["self",a,b] (az st))
  (hb:ig st=[.Assign [.Attribute (.Name "self" p1) a p2] (.Name a p3) p4,.Assign [.Attribute (.Name "self" p5) b p6] (.Name b p7) p8])
  (o:autoParam (i' (az st) "self") YR) (va:autoParam (i' (az st) a) YR) (vb:autoParam (i' (az st) b) YR)
  (hd:autoParam ((a==("__debug__":Str))=false) YI) (hc:autoParam ((a==("__classdict__":Str))=false) YI) (I:autoParam ((b==("__debug__":Str))=false) YI) (J:autoParam ((b==("__classdict__":Str))=false) YI):
  oY P w K mg base (db P w) 1 f fd ["self",a,b] (Xb C [a,b]):=by
 refine Gf F S (by intro o H Q E zr4;refine Z_ zr4 λe p c z l _=>?_;rw[z,cm,l];rfl) λt A h s H o Q E B zz0=>?_
 refine Z_37 zz0 λe p c z l v d r j k=>?_;match c,l with
 |[x,y],_=>
  subst z;rw[hb];refine⟨_,Ho (Uk (iG (i:=0) rfl o) (iG (i:=1) rfl va hd hc)<|by rfl)<|Fb<|WS (iG (i:=0) rfl o) (iG (i:=2) rfl vb I J) (by rfl),x,rfl,_,rfl,e,C,p,rfl,v,d,r,j,Z,n,λm u g=>?_⟩;refine⟨y,rfl,.r e,rfl,e,C,_,m,[(a,x)],rfl,aP,d,r,rfl,by rw[bf g,aP],Nat.le_of_lt_succ (by simp),by simp[l4,U],Z,n2,?_⟩
  have:=k m u g
  rw[<-Br g.symm] at this;rw[Br g,U9];exact this
end
structure E8(K:bg)(C f:Addr):Prop where
 l:J2 K C f [.type "ValueError",.type "Exception",.type "BaseException",.type "object"] "ValueError.__new__" = true
 i:W.isFn K (.ref f)=true
 R:mS K (.ref C)=true
section
variable {X:Cx}{p pos η:Pos}{e:Expr}
theorem TZ{σ:St}{Q:Zs}(M:E8 X.K C f)(F:oY X.p X.w X.K X.m X.T (db X.p X.w) k f fd ps (Xb C ns))(hr:eV (k+1) X.A)(hb:eH X.K fd ps [])
  (I:am X π σ H s) (r:a_ U us) (hl:U.length=ns.length) (hz:U.length<=aw)
  (h:∀e J ob s',s.heap.objs.size<=e->H e=none->H J=none->J≠e->ob.cls=.ref C->ob.dict=some J->(∃us,ob.data=.fields us/\us[1]? = some .none/\us[2]? = some .none)->
   am X π σ (upd (upd H J<|.e<|Xd J<|ns.zip U) e<|.e<|k4 e ob) s'->Q (.ref e) s'):
  cb (cK X.p X.w) X.A (call (.ref C) us) Q X.g s:=by
 obtain⟨bm,N,nm,Z,bs,sn,sub,S,G,dd,R,k1,k2,k3,k5,mN,x,t,B,T⟩:=Um I.kIn M.l;refine oj (qh.mp<|show(X.K.lookup f).map _=some _ from beq_iff_eq.mp M.i) λW P l=>?_;have n:us.length<=aw:=by rw[<-r.l];exact hz
 have j:am X π σ _ { s with heap:=BP s.heap C us,toks:=s.toks}:=
  I.laid (λb o z=>Oo z) (yA _) (ZP Nv)
 have m:H _=none:=I.W.n<|yA _;have p:a_ (V.r (s.heap.objs.size+1)::U) (cq (s.heap.objs.size+1)::us):=.cons rfl r;have q:Xb C ns (V.r (s.heap.objs.size+1)::U) (upd H (s.heap.objs.size+1)<|.e<|k4 (s.heap.objs.size+1)<|Ox C s.heap.objs.size) (λv y=>v=.E/\∃J,H J=none/\J≠s.heap.objs.size+1/\y=upd (upd H J<|.e<|Xd J<|ns.zip U) (s.heap.objs.size+1) (.e<|k4 (s.heap.objs.size+1) { Ox C s.heap.objs.size with dict:=some J})) E0:=by
  refine⟨_,_,U,rfl,hl,aP,rfl,⟨_,rfl⟩,rfl,λJ i a=>⟨rfl,J,by rw[bf a] at i;exact i,a,?_⟩⟩;rw[Br a.symm,U9,Br a]
 have E:(cq (s.heap.objs.size+1)::us++[]).length=ps.length:=by
  have z:=p.l;rw[F.mt _ _ _ _ q] at z;rw[c9];exact z.symm
 obtain⟨Y,g,d,tk,os⟩:=s;refine WZ (hz:=n) ve T x t B (I.kIn _ _ P) l<|AQ<|r9 (F.r _ X.Z _ _ ⟨_,[]⟩ _ _ _ E0 (hr.m C us []) (j.env0.m C us []) (by have:=hb _ _ j.kIn E;rw[c9] at this;exact this) p q) λz s' c=>?_;cases z with
 |error e=>exact Vg π σ _ _ e s' j c
 |ok fl=>
  cases fl with
  |ret u=>
   obtain⟨v,H',D,O,ev,J,i,a,L⟩:=j.after c;subst ev L;exact⟨O,h _ J _ s' (yA _) m i a rfl rfl ⟨_,rfl,rfl,rfl⟩ D⟩
  |next=>exact fT c
  |brk=>exact fT c
  |cont=>exact fT c
def KD(X:Cx)(E:XK):Prop:=∀(c:Zp) (b:St) (H:Hp) (s:a7) (e a:Addr) (ob:Obj) (fs:List (Str×V)),X.s₀.heap.objs.size<=e->H e=none->H a=none->a≠e->ob.dict=some a->(∃us,ob.data=.fields us/\us[1]? = some .none/\us[2]? = some .none)->
 am X c b (upd (upd H a<|.e<|Xd a fs) e<|.e<|k4 e ob) s->(∀q,E ob.cls (some a)<|upd H a<|.b q<|.a fs)->X.g (.ref e) s
theorem WK(M:E8 X.K C f)(Z:XF X.K C)(F:oY X.p X.w X.K X.m X.T (db X.p X.w) k f fd ps (Xb C ns))(hr:eV (k+1) X.A)(hb:eH X.K fd ps [])(hg:Gl X x)(hm:X.m x=some (.ref C))(ha:PA X (e::es) t)(hx:KD X E)(hn:ns.length<=100)
  (hdb:autoParam ((x==("__debug__":Str))=false) YI) (he:autoParam (ag (e::es) X.d=(false,eval e X.d)::ag es X.d) YO) (μ:autoParam ((ij η<|ag es X.d).any (·.1)=false) YO):
  PS X (.Raise (some<|.Call (.Name x p) (e::es) [] η) none pos) (λ_ J H=>t J H λU H1=>U.length=ns.length/\∀o q,H1 o=none->E (.ref C) (some o) (upd H1 o<|.b q<|.a<|ns.zip U)):=by
 intro O s J H D I h;refine ae<|mM ?_;refine ae ?_;have c:cb (cK X.p X.w) X.A (eval (.Call (.Name x p) (e::es) [] η) X.d) (λv m=>∃i j,v=.ref i/\X.K.In m.heap/\m.heap.get? i=some j/\j.cls=.ref C/\(∃l,j.data=.fields l/\l[1]? = some .none)/\X.g (.ref i) m) X.g s:=by
  refine hJ<|sY I hg hm ?_ hdb;refine vE I.R.mod.k M.R (ce (ha η O s J H _ I h) λl m ⟨U,H1,G,r,R,q⟩=>⟨G.kIn,?_⟩) he μ;refine TZ M F hr hb G r R (by rw[R,tw];omega) λi o j s' z1 V N z4 P T L z=>⟨i,j,rfl,z.kIn,Vv z aP,P,(by refine o5 L λl a b _=>?_;exact ⟨l,a,b⟩),?_⟩;exact hx O J H1 s' i o j _ (dS G.sz z1) V N z4 T L z λq'=>by rw[P];exact q o q' N
 refine ae<|ce c λv m q=>ae<|mM<|av ?_;refine Z_26 q λi j zq2 Q n y zq6 u=>?_;subst zq2;obtain⟨l,B,Y⟩:=zq6;obtain⟨hp,g,d,tk,os⟩:=m;have W:=yn (M:=cK X.p X.w) Q Z.i.bs;obtain⟨_,_,_,_,_,_,_,_,_,_,_,_,_,_,_,_,S,_⟩:=Um Q M.l
 repeat (first|(with_reducible refine fA n ?_;rw[y])|with_reducible refine fA S ?_|with_reducible refine W.at ?_|with_reducible refine iS n B Y ?_|wp_step)
 exact wpAny_raiseNew_none hr.g u
end
section
variable {K:bg}
theorem Cj:KD (mO (db P w) P w K mg base N qual scope f cd A outer s H E) E:=by
 intro π σ H1 s1 e g ob fs se n1 n2 y hd C I hw;refine o5 C λS C u1 u2=>?_;have hx:=Vv I aP;have T:ob={ ob with data:=.fields S}:=by obtain⟨a,b,c,d⟩:=ob;cases(show c=.fields S from C);rfl
 have J:s.heap.get? e=none:=AU se;have Y:∀t∈(mO _ P w K mg _ N _ _ f cd A _ s H E).Z,∀b,t.frame=some b->b∈e::eh (mO (db P w) P w K mg base N qual scope f cd A outer s H E).Z:=
  λt he b i=>.tail _<|kB.mpr ⟨t,he,i⟩
 have D:∀b o,s.heap.get? b=some o->b∉eh _->b∉e::eh (mO (db P w) P w K mg base N qual scope f cd A outer s H E).Z:=λb o q x i=>by
  cases i with
  |head=>rw[J] at q;cases q
  |tail _ i=>
   rcases z8 rfl i with z|z
   .exact absurd (aS q) (by rw[z];exact fS _)
   exact x z
 have nx:∀b:Addr,b∉(mO (db P w) P w K mg base N qual scope f cd A outer s H E).l:=λb z=>absurd (show b∈([]:List _) from z) (by simp);have old:∀b o,s.heap.get? b=some o->b≠e:=λb o q z=>by rw[z,J] at q;cases q
 refine o5 ((show bZ P w _ _ g (.e<|Xd g fs) from I.W g _ (by rw[bf y,aP])).1) λmA d1 d2 _=>?_;refine Z_32 (id d1) λF _ _ j _=>?_;have V:g∉e::eh (mO (db P w) P w K mg base N qual scope f cd A outer s H E).Z:=λz=>by
  cases z with
  |head=>exact y rfl
  |tail _ z=>have:=I.Af g z;rw[bf y,aP] at this;cases this
 refine Qk (B:=BF s1.heap (e::eh (mO (db P w) P w K mg base N qual scope f cd A outer s H E).Z)) (L:=s.heap.objs.size) (l:=outer) I.R.f rfl (W.funFrames_hide I.Z Y) (T▸hx) u1 (λb o q=>zw _ q) ?_ λQ x1 x4=>?_
 .exact W.hideAll_none _<|.head _
 have eq:∀b,b≠e->b≠g->∀o,upd (upd H1 g<|.e<|Xd g fs) e (.e<|k4 e ob) b=o->upd H1 g (.b F<|.a fs) b=o:=λb h1 Q o z=>by
  rw[bf h1,bf Q] at z;rw[bf Q];exact z
 have h:∀b o,upd (upd H1 g<|.e<|Xd g fs) e (.e<|k4 e ob) b=o->(∀φ,o≠some (.e φ))->upd H1 g (.b F<|.a fs) b=o:=λb o z k=>by
  refine eq b (λw=>?_) (λw=>?_) o z
  .rw[w,aP] at z;exact k _ z.symm
  rw[w,bf y,aP] at z;exact k _ z.symm
 refine⟨e,ob,S,_,upd H1 g<|.b F<|.a fs,⟨rfl,I.os,I.LE,x1,u2,λb o q n x=>?_,λb o q i=>?_,λb o q n=>?_,λb o q x=>?_,λb xs q=>?_,λb o u q=>?_,λb p q=>?_,λb u q=>?_,J,?_⟩,by rw[hd];exact hw F⟩
 .exact la _ (I.T.Z b o q n x<|nx b)<|D b o q x
 .obtain⟨sl,O⟩:=I.T.S b o q (I.R.i b i) i<|nx b;obtain⟨_,X,R,Z⟩:=I.R.uX.mem i;have eo:o=X:=cE<|q.symm.trans R;obtain⟨U,e2⟩:=x4 b _ O λv z=>Z v (by rw[<-eo];exact z);exact⟨U,e2⟩
 .exact h b none (I.T.Y b o q n<|nx b) λ_ z=>nomatch z
 .obtain⟨X,O⟩:=I.T.K b o q<|nx b;exact⟨X,la _ O<|D b o q x⟩
 .exact h b _ (I.T.M b xs q) λ_ z=>nomatch z
 .exact h b _ (I.T.L b o u q) λ_ z=>nomatch z
 .obtain⟨m,z⟩:=I.T.N b p q;exact⟨m,h b _ z λ_ z=>nomatch z⟩
 .by_cases i:b=g
  .subst i;rw[aP] at q;cases q
   have:=la _ j V
   exact⟨this,mA,d1.at λo z=>by rw[j] at z;cases z;exact this,d2⟩
  rw[bf i] at q;have be:b≠e:=λz=>by rw[z,n1] at q;cases q
  have q3:upd (upd H1 g<|.e<|Xd g fs) e (.e<|k4 e ob) b=some u:=by rw[bf be,bf i];exact q
  refine(I.W b u q3).F (λc v r z=>la _ z λM=>?_) (λc z=>h c _ z λ_ z=>nomatch z) λc xs z=>h c _ z λ_ z=>nomatch z
  have G:∃v,upd (upd H1 g<|.e<|Xd g fs) e (.e<|k4 e ob) c=some v/\c≠e:=by
   rcases r with r|r
   .subst r;exact⟨_,q3,be⟩
   exact⟨_,r,λz=>by rw[z,aP] at r;cases r⟩
  refine oj G λv G q5=>?_;cases M with
  |head=>exact q5 rfl
  |tail _ M=>rw[I.Af c M] at G;cases G
 rw[bf y.symm];exact n1
end
end Hd
namespace F
open PySem PySem.Spec PyProof.Rows L2 Hd
def JL:D->Bool
 | .w ds=>ds.all flat
 |d=>flat d
theorem Jo:∀{o:List V} {ds:List D},ds.all flat=true->bi G O H o ds->bi G O' H o ds
 |_,_,_,.f=>.f
 |_,_,f,.e h hs=>by
  simp only[mE,ia] at f;exact .e (DV.U f.1 h)<|Jo f.2 hs
theorem XE(f:JL d=true)(h:DV G O H v d):DV G O' H v d:=by
 cases d with
 |w ds=>cases h with|w a b=>exact .w a (Jo f b)
 |_=>exact DV.U f h
theorem JC:∀{o:List V} {ds:List D},ds.all JL=true->bi G O H o ds->bi G O' H o ds
 |_,_,_,.f=>.f
 |_,_,f,.e h hs=>by
  simp only[mE,ia] at f;exact .e (XE f.1 h)<|JC f.2 hs
def vY(c:Str)(ns:List Str)(f:g7):ap:=λm=>(f m).s λds=>if ds.length=ns.length/\ds.all JL=true then .A (c,ns,ds) else .b
structure D7(P:b9)(w:eI)(K:bg)(mg:eR)(base:Heap)(k:Nat)(x:Str)(ns:List Str):Prop where
 l:∃C f fd ps,mg x=some (.ref C)/\E8 K C f/\XF K C/\oY P w K mg base (db P w) k f fd ps (Xb C ns)/\eH K fd ps []
section
variable {fs:g7}{fa:bv}{f:Str}{η pos p:Pos}{ns:List Str}
theorem Sv{C o:Type}:∀{a:List C} {b:List o},b.length=a.length->(a.zip b).map (·.1)=a
 |[],_,_=>rfl
 |_::_,[],h=>nomatch h
 |x::a,y::b,h=>by simp[Sv<|by simpa using h]
theorem TJ{C o:Type}:∀{a:List C} {b:List o},b.length=a.length->(a.zip b).map (·.2)=b
 |[],[],_=>rfl
 |_::_,[],h=>nomatch h
 |x::a,y::b,h=>by simp[TJ<|by simpa using h]
theorem Dv(Xf:D7 X.p X.w X.K X.m X.T k x ns)(hr:eV j X.A)(J:KD X E)(U:ln X E (e::es) fs)(hk:autoParam (k+1<=j) YI)(hn:autoParam (ns.length<=100) YI)(hg:autoParam (Gl X x) YO)
  (I:autoParam ((x==("__debug__":Str))=false) YI) (he:autoParam (ag (e::es) X.d=(false,eval e X.d)::ag es X.d) YO) (μ:autoParam ((ij η<|ag es X.d).any (·.1)=false) YO):
  FS X E (.Raise (some<|.Call (.Name x p) (e::es) [] η) none pos) (vY x ns fs):=by
 refine ZH Xf.l λC f v y m M Z F b=>?_;refine bN (WK M Z F (hr.T hk) b hg m U J hn I he μ) λW u H ⟨t,M0,H0,ow,r,R,q⟩=>⟨t,M0,H0,ow,r,R.tofc,(Ss.t R.tofc q).u (aD.s _) λi q s H' g h=>?_⟩;by_cases c:i.length=ns.length/\i.all JL=true
 case neg=>rw[if_neg c] at q;exact q.elim
 rw[if_pos c] at q;have l:s.length=ns.length:=(bK h).trans c.1;refine⟨l,λd o hd=>q (C,some d) _ ⟨m,_,_,.inr ⟨d,o,rfl,aP⟩,Sv l,rfl,λO=>?_⟩ λb a e n=>?_⟩
 .rw[TJ l];exact(JC c.2 h).T (bH hd _)
 exact bH hd _ b a<|g b a<|R.Z b a e n
noncomputable def ue(tab:Str->Bool)(f:Str)(fa:bv):bv:=λm=>(fa m).s λd=>match d with
 | .A c ns ds=>if tab c=true then b6 ((ns.zip ds).lookup f) else .b
 |_=>.b
theorem TF:∀{fs:List (Str×V)} {ds:List D},bi G O H (fs.map (·.2)) ds->((fs.map (·.1)).zip ds).lookup f=some d->∃v,fs.lookup f=some v/\DV G O H v d
 |[],_,_,e=>by simp at e
 |(n,v)::r,_::_,.e h hs,e=>by
  simp only[ar,List.zip_cons_cons,l4] at e ⊢;split at e
  .cases e;exact⟨v,rfl,h⟩
  exact TF hs e
theorem pC(J:FB X E a fa)(ht:∀c C,tab c=true->X.m c=some (.ref C)->XF X.K C/\d5 X.K (.ref C) f=some none)(U:autoParam (ib a f X.d (eval a X.d)=eval a X.d) YO):
  FE X E (.Attribute a f pos) (ue tab f fa):=by
 intro B s W H Q I h;refine(Attribute_any_ (ce (J B s W H (λv H1=>∃b C j fs e q y,v=.r b/\XF X.K C/\d5 X.K (.ref C) f=some none/\H1 b=some (.b j<|.e<|vm b<|.ref C)/\j.dict=some e/\H1 e=some (.b q<|.a fs)/\fs.lookup f=some y/\Q y H1) I ?_) λu p ⟨v,H1,k,r,b,C,j,fs,e,q,y,ev,Z,n,S,G,h3,F,Y⟩=>?_)<|by rw[arm_eval_Attribute,U])
 .refine ZT h λO0 M0 H0 ow m R q=>?_;refine⟨O0,M0,H0,ow,m,R,q.s.u (aD.s _) λd q v H' g i=>?_⟩;cases d with
  |A c ns ds=>
   by_cases l:tab c=true
   case neg=>simp only[if_neg l] at q;exact q.elim
   simp only[if_pos l] at q;refine oj q.l λd hd M=>?_;rcases i with i|⟨_,_,_,i⟩
   .cases i with
    |A a1 a2 a3 a4 a5 a6=>
     subst a4 a5;refine oj (TF a6 hd) λy x y2=>?_;rcases a3 with⟨rfl,_⟩|⟨e,o,O,A⟩
     .cases x
     obtain⟨T,D⟩:=ht c _ l a1;exact⟨_,_,_,_,e,o,y,rfl,T,D,a2,O,A,x,M _ _ g y2⟩
   exact i.elim
  |_=>exact q.elim
 subst ev;obtain rfl:u=cq b:=r;refine ZI ((show bZ X.p X.w H1 p.heap b (.b j<|.e<|vm b<|.ref C) from k.W b _ S)) λt zq1 _=>?_;obtain⟨o2,N,e3,e4⟩:=zq1;obtain⟨_,P,L,V⟩:=(show bZ X.p X.w H1 p.heap e (.b q<|.a fs) from k.W e _ h3);cases t.symm.trans N;refine oj (yw.s (v:=y) (o:=P f) (by rw[<-F];exact V f)) λu hu ru=>?_;obtain⟨hp,g,d,tk,os⟩:=p;refine VC k.kIn Z t e3 e4 G L hu n (λid z=>?_) ⟨y,H1,k.tok _,ru,Y⟩;subst z;cases y<;>first|(obtain⟨_,z⟩:=ru;cases z;done)|(cases ru;done)
end
structure QX(K:bg)(f:Addr)(q:Str)(st:Stmt):Prop where
 l:∃fd,mi K "__init__" q st f fd/\W.isFn K (.ref f)=true
theorem qx{K:bg}{st:Stmt}{kV:aI}(i:W.isFn K (.ref f)=true)(l:K.lookup f=some ⟨U,od,.func<|y9 "__init__" q (qU st) (ig st) (az st) .none kV I J an o ct,C⟩)
  (c:BN K o q=true) (k:mS K (.ref f)=true):QX K f q st:=⟨_,I0 l c k,i⟩
def Zw:List D->Option D
 |[.P ds]=>(Ba ds).bind λns=>match ns with
  |[]=>none
  |n::r=>some<|.l<|r.foldl max n
 |_=>none
theorem ky:∀(r) (n:Int),r.foldl max n∈n::r/\∀a∈n::r,a<=r.foldl max n
 |[],n=>⟨ai,λa h=>by simp at h;rw[h];exact Int.le_refl _⟩
 |x::r,n=>by
  obtain⟨c,b⟩:=ky r<|max n x;refine⟨?_,λa d=>?_⟩
  .rcases a9.mp c with e|e
   .rw[pS,e];rcases Int.le_total n x with z|z
    .rw[Int.max_eq_right z];simp
    rw[Int.max_eq_left z];simp
   exact af _<|af _ e
  have m:=b (max n x) ai;rcases a9.mp d with e|e
  .rw[e];exact CO (Int.le_max_left n x) m
  rcases a9.mp e with e|e
  .rw[e];exact CO (Int.le_max_right n x) m
  exact b a<|af _ e
theorem RV(o:X.f=true):jf X (.builtin "max") (o_ (gx X) Zw):=by
 intro N s W H k S Q I r h;refine ZO h λO l d m x b q=>?_
 match l,b with
 |[.P l],b=>
  refine oj (gT.mp b) λG y b=>?_;refine oj (yF x) λv zq1 f=>?_;subst zq1;refine Y_ (iV f) λp k zq2 B hd=>?_;subst zq2
  have:=MN hd y
  subst this;refine oj (e_ r) λu zq1 A=>?_;subst zq1;subst A;refine o5 (I.IO B) λY K pl V=>?_;refine oj (lp K) λa D g=>?_;cases G with
  |nil=>cases b
  |cons n rest=>
   cases b;have c:0<a.size:=by have:=congrArg qA g;simp at this;omega
   refine max_intList (I.R.g o) (D▸pl.isList) c λv R tk f kp=>?_;obtain⟨t,rfl⟩:=intItems_at f;obtain⟨T,z⟩:=argBest_gt (numAt a)<|a.size-1;have w:∀j,numAt a j=(n::rest).getD j 0:=λj=>by rw[numAt_eq,g]
   have P:a.size=rest.length+1:=by have:=congrArg qA g;simp at this;omega
   obtain⟨L,M⟩:=ky _ n;have E:numAt a (argBest (λi j=>decide<|numAt a i>numAt a j)<|a.size-1)=rest.foldl max n:=by
    refine Int.le_antisymm (M _ ?_) ?_
    .rw[w];exact getD_mem (by rw[cm];omega)
    refine oj (mem_getD L) λj F e=>?_;rw[<-e,<-w];exact z j (by rw[cm] at F;omega)
   rw[E];exact⟨.l _,H,I.we kp,⟨t,rfl⟩,q _ _ (aD.s _)<|.l _⟩
section
variable {A:Type}{p:List A->Prop}
theorem xz(h:∀a,p [a]) us (e:us.length=1):p us:=by
 cases us with
 |nil=>cases e
 |cons a t=>cases t with
  |nil=>exact h a
  |cons _ _=>cases e
theorem B'(h:∀a t,t.length=n->p (a::t)) us (e:us.length=n+1):p us:=by
 cases us with
 |nil=>cases e
 |cons a t=>exact h a t (Nat.succ.inj e)
theorem B_(h:∀a b,p [a,b]):∀us,us.length=2->p us:=B' λa=>xz<|h a
theorem xl(h:∀a b c,p [a,b,c]):∀us,us.length=3->p us:=B' λa=>B_<|h a
theorem EC(h:∀a b c d,p [a,b,c,d]):∀us,us.length=4->p us:=B' λa=>xl<|h a
theorem Fk(h:∀a b c d f,p [a,b,c,d,f]):∀us,us.length=5->p us:=B' λa=>EC<|h a
end
structure QD(K:bg)(x:Str)(st:Stmt):Prop where
 l:∃f fd,mi K x x st f fd/\so K dQ x=some (some (.ref f))
section
variable {K:bg}{mg:eR}{st:Stmt}{kV:aI}
theorem qd(a:so K dQ x=some (some<|.ref f))(l:K.lookup f=some ⟨oc,od,.func<|y9 x x (qU st) (ig st) (az st) .none kV doc pm an cdv ct,osl⟩)(c:BN K cdv x=true)(k:mS K (.ref f)=true):QD K x st:=⟨f,_,I0 l c k,a⟩
theorem QD.e(Q:QD K x st)(X:K.In h)(G:h.Ns dQ mg)(o:∀(kV doc pm:aI) (an:Option Addr) (cdv ct:aI) (us:List aI),us.length=ps.length->bindArgs (y9 x x (qU st) (ig st) (az st) .none kV doc pm an cdv ct) ⟨us,[]⟩=pure (ps.zip us)):Df K mg x st ps:=by
 refine Y' Q.l λf b F a=>?_;exact⟨f,b,F,F.g o,l5 X G a⟩
end
section
variable {X:Cx}{f fa fb:bv}{pos pos':Pos}
theorem iT(I:FB X E a fa)(o:FB X E b fb)(C:Fw b:=by exact λ_ _=>rfl):FE X E (.Subscript a b pos) (ak al fa fb):=GL Bm I o C
theorem Dz(o:X.N.Nodup)(he:FE X E e f)(I:autoParam (X.N[i]? = some x) YO)(J:autoParam (k6 X.d.scope x) YU)(U:autoParam (eM e (some<|.Name x pos') pos.line X.d=pure false) YO)
  (C:autoParam (X.i x=true\/X.d.scope.names.lookup x=some .local) iv):FS X E (.Assign [.Name x pos'] e pos) (aW i f):=I7 o I J he U C
theorem DG(o:X.N.Nodup)(he:FN X E e f)(I:autoParam (X.N[i]? = some x) YO)(J:autoParam (k6 X.d.scope x) YU)(U:autoParam (eM e (some<|.Name x pos') pos.line X.d=pure false) YO)
  (C:autoParam (X.i x=true\/X.d.scope.names.lookup x=some .local) iv):FS X E (.Assign [.Name x pos'] e pos) (dW i f):=Yk o I J he U C
theorem je{k:Nat}(o:X.N.Nodup)(I:autoParam (X.N[i]? = some x) YO)(J:autoParam (k6 X.d.scope x) YU)(hk:autoParam (i<k) YI)
  (C:autoParam (X.i x=true\/X.d.scope.names.lookup x=some .local) iv):FG X k (.Name x pos) (ad i):=Tj o I J hk C
theorem ou(I:FI X E tg iter fi)(o:FG X 1000 tg h)(J:ii X E body g)(hp:zI (cK X.p X.w) X.A X.d X.g:=by exact k8)(C:autoParam (X.f=true) YO)
  (U:autoParam (∀x,ip iter X.d x=pure x) YN):FS X E (.For tg iter body [] pos) (eY fi h g):=Sc hp C I o J U
end
theorem o0{N:List Str}(h:decide N.Nodup=true):N.Nodup:=of_decide_eq_true h
abbrev NO(K:bg)(x:Str):Prop:=so K dQ x=some none
structure Cb(K:bg)(mg:eR)(base:Heap):Prop where
 X:K.In base
 N:base.Ns dQ mg
structure Ck(K:bg)(x:Str)(i j:Int):Prop where
 l:∃C nn sl t u,so K dQ x=some (some (.ref C))/\K.lookup C=some ⟨.type "tuple",none,.seq #[.int i t,.int j u] nn,sl⟩
section
variable {K:bg}{x:Str}{st:Stmt}{ps:List Str}
theorem ck(a:so K dQ x=some (some<|.ref C))(b:K.lookup C=some ⟨.type "tuple",none,.seq #[.int i t,.int j u] o,I⟩):Ck K x i j:=⟨_,_,_,_,_,a,b⟩
theorem Cb.n(C:Cb K mg base)(h:NO K x):mg x=none:=W.mg_none_of C.X C.N h
theorem Cb.cn{X:Cx}{E:XK}{o:Pos}(B:Cb X.K X.m X.T)(c:Ck X.K x i j)(I:autoParam (Gl X x) YO)(hd:autoParam ((x==("__debug__":Str))=false) YI):FE X E (.Name x o) (fC<|.w [.l i,.l j]):=by
 refine ZT c.l λC _ _ t u a b=>?_;exact Vw I (l5 B.X B.N a) (v:=.r C) rfl (λ_ _=>.w (xs:=[.l i,.l j]) (.inr ⟨_,_,_,b,rfl,⟨rfl,rfl⟩,(show 2<=aw by decide),(.cons ⟨t,rfl⟩<|.cons ⟨u,rfl⟩ .nil)⟩) (.e (.l i)<|.e (.l j) .f)) hd
abbrev J8(x:Str)(st:Stmt)(ps:List Str):Prop:=∀(kV b c:aI) (d:Option Addr) (a ct:aI) (us:List aI),us.length=ps.length->bindArgs (y9 x x (qU st) (ig st) (az st) .none kV b c d a ct) ⟨us,[]⟩=pure (ps.zip us)
theorem QD.d(Q:QD K x st)(C:Cb K mg base)(hk:∀f o,mi K x x st f o->oY P w K mg base (db P w) k f o ps sp)
  (I:J8 x st ps:=by first|exact λ_ _ _ _ _ _=>xz λ_=>rfl|exact λ_ _ _ _ _ _=>B_ λ_ _=>rfl|exact λ_ _ _ _ _ _=>xl λ_ _ _=>rfl|exact λ_ _ _ _ _ _=>EC λ_ _ _ _=>rfl|exact λ_ _ _ _ _ _=>Fk λ_ _ _ _ _=>rfl|exact λ_ _ _ _ _ _=>xb6 λ_ _ _ _ _ _=>rfl):Hd.Fn P w K mg base k x ps sp:=(Q.e C.X C.N I).i hk
end
theorem QD.Y{K:bg}{st:Stmt}(Q:QD K x st)(C:Cb K mg I)(S:aN N U (az st))
  (hk:∀f (J:aI) (A:eJ) (o:List Env) (s:a7) (H:Hp) (E:XK),eV k (A.deeper<|sL x (az st) s.heap.objs.size f J)->N.Nodup->ii (mO (db P w) P w K mg I N x (az st) f J A o s H E) E (ig st) g)
  (hb:J8 x st U:=by first|exact λ_ _ _ _ _ _=>xz λ_=>rfl|exact λ_ _ _ _ _ _=>B_ λ_ _=>rfl|exact λ_ _ _ _ _ _=>xl λ_ _ _=>rfl|exact λ_ _ _ _ _ _=>EC λ_ _ _ _=>rfl|exact λ_ _ _ _ _ _=>Fk λ_ _ _ _ _=>rfl|exact λ_ _ _ _ _ _=>xb6 λ_ _ _ _ _ _=>rfl):FF P w K mg I (k+1) x U (aV N.length U.length g):=
 Q.d C (λf c b=>bJ b S λJ A o s H E a=>hk f J A o s H E a S.n) hb
open PySem.AutoSeq1 (wpAny_loadPart')
open PySem.MeetsSeq PySem.MeetsSeq2 PySem.MeetsSeq3
open PySem.AutoSeq1 (wpAny_loadPart')
def MB:V->List V->Hp->VK->Prop:=λx a H Q=>∃l xs y k,x=.r l/\a=[.l (k:Nat),y]/\H l=some (.P xs)/\xs.length<aw/\k<=xs.length/\Q .E (upd H l<|.P (xs.take k++y::xs.drop k))
theorem T1:z5 X "list.insert" MB:=by
 intro O s R H x S v p Q I m L h;refine Z_46 h λl i y k zq4 zq5 g f P q=>?_;subst zq4;subst zq5;subst m;obtain⟨d,u,rfl,D,ru⟩:∃d u,p=[d,u]/\bn _ d/\bn y u:=by
  cases L with
  |cons a t=>cases t with
   |cons b t=>cases t;exact⟨_,_,rfl,a,b⟩
 obtain⟨B,rfl⟩:=D;obtain⟨z,c,n,r,M,e⟩:=I.YB g;have G:i.length<16777216:=f;have E:¬(!Builtin.List.listFitsIndex (k:Int))=true:=by
  have:vj (k:Int)=true:=by
   unfold vj;rw[ia];exact⟨decide_eq_true (by lia),decide_eq_true<|by lia⟩
  rw[this];decide
 have sz:c.toArray.size<=aw:=by rw[bo,<-M];exact zC f
 generalize N:(k:Int)=K at *;have A:=PySem.AutoSeq1.list_insert_list_int_val_1 l _ n K B u E sz;refine B9 x9 ⟨_,e,rfl⟩ PySem.F.entry_list_insert (PySem.F.args_list_insert_3 _ _ _) A ⟨e,?_⟩;refine⟨.E,_,I.ab8 g e ?_ ((r.j k).c<|.cons ru<|r.m k) ?_,rfl,q⟩
 .subst N;have w:¬((k:Int)<0):=by lia
  have j:min k c.length=k:=by lia
  simp[w,j];exact iP (by rw[kr];lia)
 rw[bq,cm,kq,kr];show _<=16777216
 lia
def zp(i:Nat)(fk f:bv):ap:=λm=>(b6<|oA m i).s λo=>(fk m).s λk=>(f m).s λd=>match k with
 | .l k=>if o.2.length<aw/\0<=k/\k.toNat<=o.2.length then .R (.n,dk m i o.1 (o.2.take k.toNat++d::o.2.drop k.toNat)) else .b
 |_=>.b
theorem Ku  i (hk:FE X E k fk)(he:FE X E e f)(hN:autoParam (X.N[i]? = some x) YO)(I:autoParam (i' X.d.scope x) YR)(hd:autoParam ((x==("__debug__":Str))=false) YI)(U:autoParam ((x==("__classdict__":Str))=false) YI)
  (ξ:autoParam (ib (.Name x np) "insert" X.d (eval (.Name x np) X.d)=eval (.Name x np) X.d) YO)
  (υ:autoParam (((ij η<|ag [k,e] X.d).all (λx=>!x.1)&&(yk η<|og [] X.d).all (λx=>x.1.isSome)&&decide ([k,e].length+([]:List om).length+(if([]:List om).isEmpty then 0 else 1)<30))=true) YO)
  (θ:autoParam ((apos.endLine==η.line)=true) YO) (hs:autoParam (ag [k,e] X.d=(false,eval k X.d)::ag [e] X.d) YO) (J:autoParam (ag [e] X.d=(false,eval e X.d)::ag [] X.d) YO) (C:autoParam ((ij η<|ag [e] X.d).any (·.1)=false) YO)
  (δ:autoParam (eM (.Call (.Attribute (.Name x np) "insert" apos) [k,e] [] η) none pos.line X.d=pure false) YO):
  FS X E (.Expr (.Call (.Attribute (.Name x np) "insert" apos) [k,e] [] η) pos) (zp i fk f):=
 bN (yq (PQ iF x9 PySem.F.type_list_insert T1 (iG hN I hd U) (eG hk (eG he nM J) hs) ξ υ θ hs C) δ) λW O H D=>cC D λt M0 H0 ow m R q=>by
  refine oj (Ss.l q) λo B q=>?_;obtain⟨b,c⟩:=o;refine Z' (sX R.tofc B) λa h z A y u G=>?_;refine⟨_,A,.inl ⟨rfl,h,eO.c y⟩,t,M0,H0,ow,m,R.tofc,(Ss.t R.tofc q).u (aD.s _) λL q P r l p=>?_⟩;have s:=R.T l;refine⟨t,M0,H0,ow,m,s.tofc,(Ss.t s.tofc<|q.Y<|Go.s l).u (aD.s _) λd q v H1 j I=>?_⟩;have K:=s.T j;cases L with
  |l n=>
   have q:Ss (gx X) E t M0 H0 ow r W (if c.length<aw/\0<=n/\n.toNat<=c.length then .R (.n,dk m i b (c.take n.toNat++d::c.drop n.toNat)) else .b):=q;by_cases g:c.length<aw/\0<=n/\n.toNat<=c.length
   .rw[if_pos g] at q;cases p;have w:=u.T<|l.t j;obtain⟨R2,M⟩:=K.Id (es:=c.take n.toNat++d::c.drop n.toNat) (ys:=h.take n.toNat++v::h.drop n.toNat) z G<|lu (BW _ w)<|.e I<|Hw _ w;exact⟨a,h,v,n.toNat,rfl,by rw[ui g.2.1],j _ _<|l _ _ y,by rw[bK u];exact g.1,by rw[bK u];exact g.2.2,q _ _ _ R2<|(Go.s j).t M⟩
   rw[if_neg g] at q;exact q.elim
  |_=>exact q.elim
open PySem.AutoSeq1 (wpAny_loadPart')
end F
namespace K15
open PySem L2 Hd F Pk Lw
noncomputable def qg:Str->Option Bool:=λc=>if c = "Forgets" then some true else if c = "NoShares" then some false else if c = "TooGreat" then some false else if c = "Unlike" then some false else none
noncomputable def pU:Str->Option Bool:=λc=>if c = "Forgets" then some false else if c = "NoShares" then some false else if c = "TooGreat" then some false else if c = "Unlike" then some false else none
noncomputable def sO:Str->Option Bool:=λc=>if c = "Forgets" then some false else if c = "NoShares" then some false else if c = "TooGreat" then some false else if c = "Unlike" then some false else none
noncomputable def nO:Str->Option Bool:=λc=>if c = "Forgets" then some false else if c = "NoShares" then some true else if c = "TooGreat" then some false else if c = "Unlike" then some false else none
noncomputable def rH:Str->Option Bool:=λc=>if c = "Forgets" then some false else if c = "NoShares" then some false else if c = "TooGreat" then some false else if c = "Unlike" then some false else none
noncomputable def nT:Str->Option Bool:=λc=>if c = "Forgets" then some false else if c = "NoShares" then some false else if c = "TooGreat" then some true else if c = "Unlike" then some false else none
noncomputable def rT:Str->Option Bool:=λc=>if c = "Forgets" then some false else if c = "NoShares" then some false else if c = "TooGreat" then some false else if c = "Unlike" then some true else none
noncomputable def jY:Str->Option Bool:=λc=>if c = "Forgets" then some true else if c = "NoShares" then some true else if c = "TooGreat" then some true else if c = "Unlike" then some true else none
noncomputable def qO:Str->Bool:=λc=>c=="Forgets" || c=="Unlike"
noncomputable def lE:Str->Bool:=λc=>c=="Forgets" || c=="Unlike"
noncomputable def yj:Str->Bool:=λc=>c=="NoShares"
noncomputable def eN:Str->Bool:=λc=>c=="Forgets" || c=="NoShares" || c=="TooGreat" || c=="Unlike"
def fG:bv:=
 (qj d3 (aF bQ<|aj (aa 0) ao)<|fC<|.l 12)
def fH:bv:=
 (bU 2 [] (cT<|aa 1) (dO 2<|aL (ad 0)<|aL (ad 1) dU) jn fG)
def dX(o:b8)(C:bv):ap:=
 (aB (aW 1<|a0 o<|aj (au 0) ao)
 (aB (ax (aA d3 (aF bQ<|aj (aa 1) ao)<|fC<|.l 64) (nG "TooGreat" (fM<|fC<|.p "the game has too many places")) ba)
 (ax (dt<|aF ZL<|aj C ao) (nG "TooGreat" (fM<|fC<|.p "a way of the game is too long")) ba)))
def dY:ap:=
 (dX kh fH)
def cM:b8:=aV 2 1 dY
def bO:ap:=
 (aB (aW 2<|a0 yo<|aj (au 0)<|aj (au 1) ao)
 (aB (ax (aA d3 (aF bQ<|aj (aa 2) ao)<|fC<|.l 8) (nG "TooGreat" (fM<|fC<|.p "a side sees too many names")) ba)
 (ax (aA d3 (a0 pK<|aj (au 2) ao)<|fC<|.l 24) (nG "TooGreat" (fM<|fC<|.p "a side has too many words")) ba)))
def gf:ap:=
 (eY (lC<|aK<|aj (fC<|.l 1)<|aj (fC<|.l 2) ao) (ad 1) bO)
def fj(o:ap):ap:=
 o
def fD:ap:=
 (fj gf)
def cZ:b8:=aV 3 1 fD
def j9(o:b8)(C:b8):ap:=
 (aB (qv<|a0 o<|aj (au 0) ao)
 (qv<|a0 C<|aj (au 0) ao))
def kJ:ap:=
 (j9 cM cZ)
def iy:b8:=aV 1 1 kJ
def dB:bv:=
 (a0 sG<|aj (au 0) ao)
def dF:bv:=
 (bU 1 [] (cT<|a0 du<|aj (au 2) ao) (ad 0) jn dB)
def cu:ap:=
 (ax (dt<|aF ZL<|aj dF ao) (nG "TooGreat" (fM<|fC<|.p "a fraction of the game is too great")) ba)
def dq:ap:=
 (eY (cT<|a0 kh<|aj (au 0) ao) (dO 2<|aL (ad 1)<|aL (ad 2) dU) cu)
def iD(o:ap):ap:=
 o
def iB:ap:=
 (iD dq)
def eF:b8:=aV 3 1 iB
def gK:ap:=
 (aB (ax (aA gz (ak al (aa 1)<|fC<|.l 2)<|ak al (aa 3)<|fC<|.l 2) (vY "Unlike" ["one", "other"] (aj (au 2)<|aj (au 0) ao)) ba)
 (ax (aA gz (ak al (aa 1)<|fC<|.l 3)<|ak al (aa 3)<|fC<|.l 3) (vY "Forgets" ["one", "other"] (aj (au 2)<|aj (au 0) ao)) ba))
def gO:ap:=
 gK
def cg:b8:=aV 4 4 gO
def bI:ap:=
 (aB (ax (cz (aA cr (ak al (aa 3)<|fC<|.l 0)<|fC<|.p "deal")<|gq<|dt<|a0 qT<|aj (a0 du<|aj (au 3) ao) ao) (vY "NoShares" ["way"] (aj (au 2) ao)) ba)
 (ax (aA cr (ak al (aa 3)<|fC<|.l 0)<|fC<|.p "move") (aB (aW 5<|a0 uT<|aj (au 3)<|aj (au 4) ao)
 (aB (wF 6<|Bs 1 (aK<|aj (ak al (aa 3)<|fC<|.l 1)<|aj (ak al (aa 3)<|fC<|.l 2) ao)<|aK<|aj (au 2)<|aj (au 5) ao)
 (qv<|a0 cg<|aj (au 2)<|aj (au 5)<|aj (ak al (aa 6)<|fC<|.l 0)<|aj (ak al (aa 6)<|fC<|.l 1) ao))) ba))
def jk:ap:=
 (eY (cT<|a0 cL<|aj (au 0) ao) (dO 3<|aL (ad 2)<|aL (ad 3)<|aL (ad 4) dU) bI)
def kZ(o:ap):ap:=
 (aB (dW 1 vh)
 o)
def lr:ap:=
 (kZ jk)
def iM:b8:=aV 7 1 lr
def RM(J:b8)(C:b8)(o:b8)(I:b8):ap:=
 (aB (qv<|a0 C<|aj (au 0) ao)
 (aB (qv<|a0 o<|aj (au 0) ao)
 (aB (qv<|a0 I<|aj (au 0) ao)
 (jT<|EM J<|aj (au 0) ao))))
def RQ:ap:=
 (RM vW iy eF iM)
def Km:b8:=aV 1 1 RQ
def sU:bv:=
 (bU 2 [] (lC<|ak al (aa 0)<|fC<|.l 2) (dO 2<|aL (ad 0)<|aL (ad 1) dU) jn<|au 0)
def uR(o:bv):ap:=
 (aB (ax (aA cr (ak al (aa 0)<|fC<|.l 0)<|fC<|.p "end") (jT<|f9<|aj (ak al (aa 0)<|fC<|.l 1) ao) ba)
 (aB (ax (aA cr (ak al (aa 0)<|fC<|.l 0)<|fC<|.p "deal") (jT o) ba)
 (jT<|f9 ao)))
def uM:ap:=
 (uR sU)
def kY:b8:=aV 1 1 uM
def jg:bv:=
 (aF bQ<|aj (aa 0) ao)
def jr:bv:=
 (bU 3 [] (cT<|aa 1) (dO 3<|aL (ad 0)<|aL (ad 1)<|aL (ad 2) dU) jn jg)
def cU:ap:=
 (ax (iI (aA lx (aF BZ<|aj (aa 5) ao)<|ak GE (fC<|.l 10)<|fC<|.l 12)<|aA lx (aa 6)<|fC<|.l 1000) (aU<|fC<|.B true) ba)
def mZ:ap:=
 (eY (cT<|a0 kY<|aj (au 3) ao) (dO 2<|aL (ad 5)<|aL (ad 6) dU) cU)
def gR:ap:=
 mZ
def ji:ap:=
 (eY (cT<|au 1) (dO 3<|aL (ad 2)<|aL (ad 3)<|aL (ad 4) dU) gR)
def jm:bv:=
 (aF bQ<|aj (ak al (aa 0)<|fC<|.l 2) ao)
def jt:bv:=
 (bU 1 [8] (cT<|aa 7) (ad 0) (aA cr (ak al (aa 0)<|fC<|.l 0)<|aa 1) jm)
def cV:ap:=
 (aB (aW 9 jt)
 (ax (iI (aA d3 (aF bQ<|aj (aa 9) ao)<|fC<|.l 8)<|aA d3 (aF K3<|aj (aa 9) ao)<|fC<|.l 24) (aU<|fC<|.B true) ba))
def fP:ap:=
 (eY (lC<|aK<|aj (fC<|.l 1)<|aj (fC<|.l 2) ao) (ad 8) cV)
def gH(o:b8)(C:b8)(J:bv)(U:ap)(I:ap):ap:=
 (aB (aW 1<|a0 o<|aj (au 0) ao)
 (aB (ax (iI (aA d3 (aF bQ<|aj (aa 1) ao)<|fC<|.l 64)<|aA d3 (aF Zw<|aj J ao)<|fC<|.l 12) (aU<|fC<|.B true) ba)
 (aB U
 (aB (aW 7<|a0 C<|aj (au 0) ao)
 (aB I
 (aU<|fC<|.B false))))))
def gF:ap:=
 (gH gC oF jr ji fP)
def d9:b8:=aV 10 1 gF
def cY:ap:=
 (aB (ax (aA wE (aa 3)<|fC<|.l 0) (aU<|fC<|.B false) ba)
 (aB (aW 1<|ak bD (ak iJ (aa 1)<|aa 4)<|ak iJ (aa 3)<|aa 2)
 (aW 2<|ak iJ (aa 2)<|aa 4)))
def ik:ap:=
 (eY (cT<|au 0) (dO 2<|aL (ad 3)<|aL (ad 4) dU) cY)
def mV(o:ap):ap:=
 (aB (aW 1<|fC<|.l 0)
 (aB (aW 2<|fC<|.l 1)
 (aB o
 (aU<|qj cr (aa 1)<|aa 2))))
def mX:ap:=
 (mV ik)
def ju:b8:=aV 5 1 mX
def qI:bv:=
 (bU 2 [] (lC<|ak al (aa 3)<|fC<|.l 2) (dO 2<|aL (ad 0)<|aL (ad 1) dU) jn<|au 0)
def qZ:bv:=
 (bU 2 [] (lC<|ak al (aa 3)<|fC<|.l 3) (dO 2<|aL (ad 0)<|aL (ad 1) dU) jn<|au 0)
def cQ:ap:=
 (aB (ax (cz (aA cr (ak al (aa 3)<|fC<|.l 0)<|fC<|.p "deal")<|gq<|dt<|a0 ju<|aj qI ao) (aU<|aK<|aj (fC<|.p "no shares")<|aj (au 2) ao) ba)
 (ax (aA cr (ak al (aa 3)<|fC<|.l 0)<|fC<|.p "move") (aB (aW 5 qZ)
 (aB (aW 6<|aK<|aj (au 2)<|aj (au 5)<|aj (ak al (aa 4)<|ak eE (ak al (aa 3)<|fC<|.l 1)<|fC<|.l 1) ao)
 (aB (wF 7<|Bs 1 (aK<|aj (ak al (aa 3)<|fC<|.l 1)<|aj (ak al (aa 3)<|fC<|.l 2) ao)<|au 6)
 (aB (ax (aA gz (ak al (aa 7)<|fC<|.l 1)<|aa 5) (aU<|aK<|aj (fC<|.p "unlike")<|aj (ak al (aa 7)<|fC<|.l 0)<|aj (au 2) ao) ba)
 (ax (aA gz (ak al (aa 7)<|fC<|.l 2)<|ak al (aa 6)<|fC<|.l 2) (aU<|aK<|aj (fC<|.p "forgets")<|aj (ak al (aa 7)<|fC<|.l 0)<|aj (au 2) ao) ba))))) ba))
def qL:ap:=
 (eY (cT<|a0 gC<|aj (au 0) ao) (dO 3<|aL (ad 2)<|aL (ad 3)<|aL (ad 4) dU) cQ)
def rF(C:b8)(o:b8)(I:ap):ap:=
 (aB (ax (dt<|a0 o<|aj (au 0) ao) (aU<|aK<|aj (fC<|.p "too great") ao) ba)
 (aB (dW 1 vh)
 (aB I
 (aU<|aK<|aj (fC<|.p "table")<|aj (a0 C<|aj (au 0) ao) ao))))
def rP:ap:=
 (rF oF d9 qL)
def mU:b8:=aV 8 1 rP
def yO:ap:=
 (ax (iI (gq<|dt<|xP "int" (aa 2))<|dt<|xP "bool" (aa 2)) (aU<|fC<|.B false) ba)
def uy:ap:=
 (eY (lC<|au 1) (ad 2) yO)
def pJ:ap:=
 (aB (ax (gq<|dt<|xP "tuple" (aa 1)) (aU<|fC<|.B false) ba)
 uy)
def uA:ap:=
 (eY (cT<|au 0) (ad 1) pJ)
def xK(o:ap):ap:=
 (aB o
 (aU<|fC<|.B true))
def xu:ap:=
 (xK uA)
def gw:b8:=aV 3 1 xu
def jZ(o:b8):ap:=
 (aB (aW 1<|f9<|aj (Ie nT<|aa 0)<|aj (Ie nO<|aa 0)<|aj (Ie rT<|aa 0)<|aj (Ie qg<|aa 0) ao)
 (aB (ax (iI (dt<|Ie (Iw [sO,rH,pU])<|aa 0)<|iI (gq<|dt<|Jc jY<|aa 0)<|aA gz (aF Pg<|aj (aa 1) ao)<|fC<|.l 1) (aU<|aK<|aj (fC<|.p "wrong") ao) ba)
 (aB (ax (dt<|ak al (aa 1)<|fC<|.l 0) (aU<|aK<|aj (fC<|.p "too great") ao) ba)
 (aB (ax (cz (dt<|ak al (aa 1)<|fC<|.l 1)<|dt<|a0 o<|aj (f9<|aj (ue yj "way" (aa 0)) ao) ao) (aU<|aK<|aj (fC<|.p "no shares")<|aj (ue yj "way" (aa 0)) ao) ba)
 (aB (ax (cz (dt<|ak al (aa 1)<|fC<|.l 2)<|dt<|a0 o<|aj (f9<|aj (ue qO "one" (aa 0))<|aj (ue lE "other" (aa 0)) ao) ao) (aU<|aK<|aj (fC<|.p "unlike")<|aj (ue qO "one" (aa 0))<|aj (ue lE "other" (aa 0)) ao) ba)
 (aB (ax (cz (dt<|ak al (aa 1)<|fC<|.l 3)<|dt<|a0 o<|aj (f9<|aj (ue qO "one" (aa 0))<|aj (ue lE "other" (aa 0)) ao) ao) (aU<|aK<|aj (fC<|.p "forgets")<|aj (ue qO "one" (aa 0))<|aj (ue lE "other" (aa 0)) ao) ba)
 (aU<|aK<|aj (fC<|.p "wrong") ao)))))))
def km:ap:=
 (jZ gw)
def dD:b8:=aV 2 1 km
def m8(I:b8)(o:b8)(C:b8):ap:=
 (aB (aW 1<|fC .E)
 (aB (aW 2<|aK ao)
 (aB (Wx 3 (eN) (Qc 1 I<|aj (au 0) ao)<|aW 2<|a0 C<|aj (au 3) ao)
 (aB (ax (aA gz (aa 2)<|aK ao) (aU<|au 2) ba)
 (aB (ax (gq<|dt<|a0 o<|aj (au 1) ao) (aU<|aK<|aj (fC<|.p "wrong") ao) ba)
 (aU<|aK<|aj (fC<|.p "table")<|aj (au 1) ao))))))
def wQ:ap:=
 (m8 Km mK dD)
def pX:b8:=aV 4 1 wQ
def v9(o:b8):ap:=
 (aB (ax (aA cr (aa 1)<|aK ao) (aU<|au 2) ba)
 (aB (dW 3<|aF yU<|aj (ak al (aa 0)<|lm vV<|fC<|.l 1) ao)
 (aB (Wj (ak al (aa 3)<|ak al (aa 1)<|fC<|.l 0)<|dO 2<|aL (ad 4)<|aL (ad 5) dU)
 (aB (eX 3 (ak al (aa 1)<|fC<|.l 0)<|aK<|aj (au 4)<|aj (a0 o<|aj (au 5)<|aj (gl (aa 1) (f5<|fC<|.l 1) gp)<|aj (au 2) ao) ao)
 (aU<|ak bD (gl (aa 0) gp<|f5<|lm vV<|fC<|.l 1)<|aK<|aj (aF dR<|aj (aa 3) ao) ao)))))
def jw:Nat->b8
 |0=>λ_=>.b
 |n+1=>aV 6 3
   (v9<|jw n)
def jR(o:b8):ap:=
 (aB (dW 2<|aF yU<|aj (ak al (aa 0)<|fC<|.l 2) ao)
 (aB (aW 3<|ak aR (ak bV (aa 1)<|fC<|.l 8)<|aF bQ<|aj (aa 2) ao)
 (aB (Wj (ak al (aa 2)<|aa 3)<|dO 2<|aL (ad 4)<|aL (ad 5) dU)
 (aB (ax (aA cr (ak aR (aa 1)<|fC<|.l 8)<|fC<|.l 0) (eX 2 (au 3)<|aK<|aj (aK<|aj (fC<|.l 0)<|aj (fC<|.l 1) ao)<|aj (au 5) ao) ba)
 (aB (ax (aA cr (ak aR (aa 1)<|fC<|.l 8)<|fC<|.l 1) (eX 2 (au 3)<|aK<|aj (aK<|aj (ak eE (fC<|.l 0)<|ak al (aa 4)<|fC<|.l 0)<|aj (ak al (aa 4)<|fC<|.l 1) ao)<|aj (au 5) ao) ba)
 (aB (ax (aA cr (ak aR (aa 1)<|fC<|.l 8)<|fC<|.l 2) (eX 2 (au 3)<|aK<|aj (a0 o<|aj (ak bD (ak bD (ak al (aa 4)<|fC<|.l 0)<|fC<|.l 1)<|ak aR (ak bV (aa 1)<|fC<|.l 24)<|fC<|.l 3)<|aj (ak al (aa 4)<|fC<|.l 1) ao)<|aj (au 5) ao) ba)
 (aB (ax (cz (aA cr (ak aR (aa 1)<|fC<|.l 8)<|fC<|.l 3)<|aA d3 (aF bQ<|aj (aa 2) ao)<|fC<|.l 1) (dW 2<|ak Jt (gl (aa 2) gp<|f5<|aa 3)<|gl (aa 2) (f5<|ak bD (aa 3)<|fC<|.l 1) gp) ba)
 (aB (ax (aA cr (ak aR (aa 1)<|fC<|.l 8)<|fC<|.l 4) (aB (aW 6<|ak al (aa 2)<|ak aR (ak bV (aa 1)<|fC<|.l 24)<|aF bQ<|aj (aa 2) ao)
 (aB (eX 2 (ak aR (ak bV (aa 1)<|fC<|.l 24)<|aF bQ<|aj (aa 2) ao)<|aK<|aj (au 4)<|aj (ak al (aa 6)<|fC<|.l 1) ao)
 (eX 2 (au 3)<|aK<|aj (ak al (aa 6)<|fC<|.l 0)<|aj (au 5) ao))) ba)
 (aB (ax (aA cr (ak aR (aa 1)<|fC<|.l 8)<|fC<|.l 5) (zp 2 (au 3)<|aK<|aj (aK<|aj (fC<|.l 0)<|aj (fC<|.l 1) ao)<|aj (aK<|aj (fC<|.p "end")<|aj (aK<|aj (ak aR (ak bV (aa 1)<|fC<|.l 24)<|fC<|.l 9)<|aj (fC<|.l 1) ao) ao) ao) ba)
 (aB (ax (aA d3 (ak aR (aa 1)<|fC<|.l 8)<|fC<|.l 5) (aB (aW 7<|a0 o<|aj (ak iJ (ak al (aa 4)<|fC<|.l 0)<|ak eE (ak aR (aa 1)<|fC<|.l 8)<|fC<|.l 5)<|aj (ak al (aa 4)<|fC<|.l 1) ao)
 (aB (eX 2 (au 3)<|aK<|aj (a0 o<|aj (ak eE (ak iJ (ak al (aa 4)<|fC<|.l 0)<|ak al (aa 7)<|fC<|.l 1)<|ak iJ (ak al (aa 7)<|fC<|.l 0)<|ak al (aa 4)<|fC<|.l 1)<|aj (ak iJ (ak al (aa 4)<|fC<|.l 1)<|ak al (aa 7)<|fC<|.l 1) ao)<|aj (au 5) ao)
 (zp 2 (au 3)<|aK<|aj (au 7)<|aj (aK<|aj (fC<|.p "end")<|aj (aK<|aj (ak aR (ak bV (aa 1)<|fC<|.l 24)<|fC<|.l 9)<|aj (fC<|.l 1) ao) ao) ao))) ba)
 (aU<|aK<|aj (fC<|.p "deal")<|aj (ak al (aa 0)<|fC<|.l 1)<|aj (aF dR<|aj (aa 2) ao) ao)))))))))))
def tR:ap:=
 (jR cO)
def jV:b8:=aV 8 2 tR
def fQ:bv:=
 (bU 2 [] (lC<|ak al (aa 0)<|fC<|.l 3) (dO 2<|aL (ad 0)<|aL (ad 1) dU) jn<|au 0)
def fU:bv:=
 (bU 1 [3] (cT<|aa 2) (ad 0) (aA Ww (aa 0)<|aa 1)<|au 0)
def jP(C:bv)(o:bv):ap:=
 (aB (aW 3 C)
 (aB (aW 4 o)
 (aU<|ak al (aa 4)<|ak aR (aa 1)<|aF bQ<|aj (aa 4) ao)))
def sW:ap:=
 (jP fQ fU)
def dJ:b8:=aV 5 3 sW
def jN(o:b8):ap:=
 (aB (dW 3<|aF yU<|aj (ak al (aa 0)<|fC<|.l 3) ao)
 (aB (aW 4<|ak aR (ak bV (aa 1)<|fC<|.l 8)<|aF bQ<|aj (aa 3) ao)
 (aB (ax (aA cr (ak aR (aa 1)<|fC<|.l 8)<|fC<|.l 0) (aU<|ak bD (gl (aa 0) gp<|f5<|fC<|.l 3)<|aK<|aj (aF dR<|aj (Gr (aa 3)<|f5<|lm vV<|fC<|.l 1) ao) ao) ba)
 (aB (ax (aA qo (ak aR (aa 1)<|fC<|.l 8)<|aK<|aj (fC<|.l 1)<|aj (fC<|.l 2) ao) (aB (eX 3 (au 4)<|aK<|aj (a0 o<|aj (au 0)<|aj (ak bV (aa 1)<|fC<|.l 24)<|aj (au 2) ao)<|aj (ak al (ak al (aa 3)<|aa 4)<|fC<|.l 1) ao)
 (aU<|ak bD (gl (aa 0) gp<|f5<|fC<|.l 3)<|aK<|aj (aF dR<|aj (aa 3) ao) ao)) ba)
 (aB (ax (aA qo (ak aR (aa 1)<|fC<|.l 8)<|aK<|aj (fC<|.l 3)<|aj (fC<|.l 4) ao) (aU<|ak bD (gl (aa 0) gp<|f5<|fC<|.l 2)<|aK<|aj (ak al (aa 2)<|ak aR (ak bV (aa 1)<|fC<|.l 24)<|fC<|.l 8)<|aj (ak al (aa 0)<|fC<|.l 3) ao) ba)
 (aB (ax (aA cr (ak aR (aa 1)<|fC<|.l 8)<|fC<|.l 5) (aU<|aK<|aj (fC<|.p "move")<|aj (ak eE (fC<|.l 3)<|ak al (aa 0)<|fC<|.l 1)<|aj (ak al (aa 0)<|fC<|.l 2)<|aj (ak al (aa 0)<|fC<|.l 3) ao) ba)
 (aB (ax (cz (aA cr (ak aR (aa 1)<|fC<|.l 8)<|fC<|.l 6)<|aA d3 (aF bQ<|aj (aa 3) ao)<|fC<|.l 1) (aU<|ak bD (gl (aa 0) gp<|f5<|fC<|.l 3)<|aK<|aj (aF dR<|aj (ak bD (gl (aa 3) gp<|f5<|aa 4)<|gl (aa 3) (f5<|ak bD (aa 4)<|fC<|.l 1) gp) ao) ao) ba)
 (aB (zp 3 (au 4)<|aK<|aj (a0 o<|aj (au 0)<|aj (ak bV (aa 1)<|fC<|.l 24)<|aj (au 2) ao)<|aj (aK<|aj (fC<|.p "end")<|aj (aK<|aj (ak aR (ak bV (aa 1)<|fC<|.l 192)<|fC<|.l 9)<|aj (fC<|.l 1) ao) ao) ao)
 (aU<|ak bD (gl (aa 0) gp<|f5<|fC<|.l 3)<|aK<|aj (aF dR<|aj (aa 3) ao) ao)))))))))
def tV:ap:=
 (jN dJ)
def jK:b8:=aV 5 3 tV
def qz:bv:=
 (aK<|aj (au 0)<|aj (au 1) ao)
def fK:bv:=
 (bU 3 [] (cT<|a0 gC<|aj (au 0) ao) (dO 3<|aL (ad 0)<|aL (ad 1)<|aL (ad 2) dU) (aA gz (ak al (aa 1)<|fC<|.l 0)<|fC<|.p "end") qz)
def gD(I:b8)(o:b8)(C:b8)(J:bv):ap:=
 (aB (aW 3 J)
 (aB (ax (aA cr (aF bQ<|aj (aa 3) ao)<|fC<|.l 0) (aU<|au 0) ba)
 (aB (Wj (ak al (aa 3)<|ak aR (aa 1)<|aF bQ<|aj (aa 3) ao)<|dO 2<|aL (ad 4)<|aL (ad 5) dU)
 (aB (ax (aA cr (ak al (aa 5)<|fC<|.l 0)<|fC<|.p "deal") (aU<|a0 I<|aj (au 0)<|aj (au 4)<|aj (a0 o<|aj (au 5)<|aj (ak bV (aa 1)<|aF bQ<|aj (aa 3) ao) ao) ao) ba)
 (aU<|a0 I<|aj (au 0)<|aj (au 4)<|aj (a0 C<|aj (au 5)<|aj (ak bV (aa 1)<|aF bQ<|aj (aa 3) ao)<|aj (au 2) ao) ao)))))
def yK:ap:=
 (gD (jw 20) jV jK fK)
def uF:b8:=aV 6 3 yK
def LQ:ap:=
 (aW 5<|a0 uF<|aj (au 5)<|aj (a0 dC<|aj (a0 dw<|aj (au 0)<|aj (ak bD (fC<|.l 4)<|aa 6) ao)<|aj (ak bD (aa 6)<|fC<|.l 70) ao)<|aj (au 1) ao)
def z9:ap:=
 (eY (yH<|aj (ak bD (fC<|.l 1)<|ak aR (ak bV (aa 2)<|fC<|.l 128)<|fC<|.l 3) ao) (ad 6) LQ)
def Ud(o:b8)(J:b8)(U:b8)(I:b8)(C:b8)(l_2:ap):ap:=
 (aB (aW 1<|a0 J<|aj (a0 o<|aj (au 0)<|aj (fC<|.l 0) ao)<|aj (a0 o<|aj (au 0)<|aj (fC<|.l 1) ao) ao)
 (aB (aW 2<|a0 o<|aj (au 0)<|aj (fC<|.l 2) ao)
 (aB (aW 3<|a0 U<|aj (ak bD (gl (aa 0) (f5<|fC<|.l 8)<|f5<|fC<|.l 48)<|f9<|aj (a0 o<|aj (au 0)<|aj (fC<|.l 3) ao) ao)<|aj (au 2)<|aj (fC<|.l 6)<|aj (fC<|.l 49)<|aj (au 1) ao)
 (aB (aW 4<|a0 I<|aj (au 3) ao)
 (aB (aW 5<|au 3)
 (aB l_2
 (aB (aW 7<|a0 I<|aj (au 5) ao)
 (aB (ax (iI (aA gz (ak al (aa 4)<|fC<|.l 0)<|fC<|.p "table")<|aA gz (a0 C<|aj (au 5) ao)<|aa 7) (aU<|fC<|.B false) ba)
 (aU<|ZS (qj cr (a0 C<|aj (au 3) ao)<|aa 4)<|qj cr (a0 C<|aj (au 5) ao)<|aa 7)))))))))
def HA:ap:=
 (Ud dw tU tY mU pX z9)
def HL:b8:=aV 8 1 HA
abbrev TG:Xn:=("TooGreat",[],[])
theorem IU{o:Type} b (l:List o):ZL [.P<|l.map λx=>D.B<|b x]=some (.B<|l.any b):=by
 have:=yg (b:=b) l λ_ _=>rfl
 show(tK<|l.map _).map (λbs=>D.B<|bs.any id)=_;rw[this];simp[oC]
noncomputable def wR(g:Gm):Bool:=(gt [] g).any λp=>decide<|12<p.1.length
theorem KG(h:gP g)(hd:dp g<=50)(hz:b4 g<=10000):cM [dG g]=if(decide (64<b4 g)||wR g)=true then .A TG else .R (false,.E):=by
 have e:=h8 h (by omega) (by lia);have m:(gt [] g).length=b4 g:=FZ _ g;have l:eZ (dO 2<|aL (ad 0)<|aL (ad 1) dU) jn fG [.S,.S] ((gt [] g).map pD)=.R ((gt [] g).map λp=>.B<|decide<|12<p.1.length):=gW _ λp n=>by
  refine⟨[.f<|.w<|p.1.map D.l,.f<|dG p.2],rfl,rfl,?_⟩;have q:decide ((12:Int)<(p.1.length:Int))=decide (12<p.1.length):=decide_eq_decide.mpr (by omega);simp[fG,qj,aF,bQ,aj,ao,aa,fC,d3,q]
 have k:(gt [] g).length<=16777216:=by lia
 have j:fH [.f<|dG g,.f<|.P<|(gt [] g).map pD]=.R (.P<|(gt [] g).map λp=>.B<|decide<|12<p.1.length):=by
  simp[fH,bU,cT,aa,hH,l,k]
 have c:=IU (λp:List Int×Gm=>decide<|12<p.1.length)<|gt [] g;by_cases f:64<b4 g
 .have b:(64:Int)<((gt [] g).length:Int):=by lia
  simp[cM,dY,dX,aV,aB,aW,a0,aj,ao,au,e,ax,aA,aF,bQ,aa,fC,d3,f,b,nG,fM]
 have b:¬(64:Int)<((gt [] g).length:Int):=by lia
 by_cases d:wR g=true
 .have a:=d;unfold wR at a;rw[a] at c;simp[cM,dY,dX,aV,aB,aW,a0,aj,ao,au,e,ax,aA,aF,bQ,aa,fC,d3,f,b,d,nG,fM,ba,dt,j,c]
 have a:wR g=false:=by simpa using d
 have i:=a;unfold wR at i;rw[i] at c;simp[cM,dY,dX,aV,aB,aW,a0,aj,ao,au,e,ax,aA,aF,bQ,aa,fC,d3,f,b,a,nG,fM,ba,dt,j,c]
abbrev P(g:Gm):List Tr:=dL [] ([],[]) g
abbrev tb(g:Gm):List D:=(h6<|P g).2
def nR(l:List D)(s:Int):Nat:=(l.filter λd=>decide<|im d=s).length
def nW(l:List D)(s:Int):Int:=((l.filter λd=>decide<|im d=s).map λd=>(j3 d:Int)).sum
def uQ(l:List D)(s:Int):Bool:=decide (8<nR l s)||decide (24<nW l s)
theorem Vi g:(tb g).length<=b4 g:=by
 have:∀(l:List Tr) (T),(l.foldl eu T).2.length<=T.2.length+l.length:=by
  intro l;induction l with
  |nil=>intro T;simp
  |cons p l ih=>
   intro T
   have:=ih<|eu T p
   have q:(eu T p).2.length<=T.2.length+1:=by
    unfold eu;split
    .split<;>simp
    lia
   simp only[pS,cm]
   lia
 have:=this (P g) ([],[])
 rw[uH] at this;have e:(tb g).length=((P g).foldl eu _).2.length:=rfl;rw[e];simpa using this
theorem ZQ(h:gP g)(C:lf g)(hd:dp g<=50)(hz:b4 g<=10000):
  ∃o,bO [.f<|dG g,.f<|.l s,s2]=if uQ (tb g) s=true then .A TG else .R (.n,[.f<|dG g,.f<|.l s,o]):=by
 have e:=V' (s:=s) h C hd hz;have j:nR _ s=((tb g).filter λd=>decide<|im d=s).length:=rfl;have m:nW _ s=(((tb g).filter λd=>decide<|im d=s).map λd=>(j3 d:Int)).sum:=rfl;have i:((tb g).filter λd=>decide<|im d=s).length<=10000:=dS (kG _ _)<|dS (Vi g) hz;unfold uQ;generalize k:((tb g).filter λd=>decide<|im d=s)=l at *;have n:∀d∈l,EW d:=λd hd=>by rw[<-k] at hd;exact Mq (ix.mp hd).1
 have f:=rk n i;refine⟨.f<|.P l,?_⟩;rw[j,m];by_cases b:8<l.length
 .have a:(8)<(l.length:Int):=by lia
  simp[bO,aB,aW,a0,aj,ao,au,e,ax,aA,aF,bQ,aa,fC,d3,b,a,nG,fM]
 have a:¬(8:Int)<(l.length:Int):=by lia
 by_cases c:(24:Int)<(l.map λd=>(j3 d:Int)).sum
 .simp[bO,aB,aW,a0,aj,ao,au,e,ax,aA,aF,bQ,aa,fC,d3,b,a,c,ba,f,nG,fM]
 simp[bO,aB,aW,a0,aj,ao,au,e,ax,aA,aF,bQ,aa,fC,d3,b,a,c,ba,f,nG,fM]
theorem Ay(C:h d m=some m1)(o:g m1=.A c):bF h g (d::ds) m=.A c:=by
 unfold bF;rw[C];simp only[];rw[o]
theorem KF(h:gP g)(o:lf g)(hd:dp g<=50)(hz:b4 g<=10000):cZ [dG g]=if(uQ (tb g) 1||uQ (tb g) 2)=true then .A TG else .R (false,.E):=by
 obtain⟨a,i⟩:=ZQ h o hd hz;have j:lC (aK<|aj (fC<|.l 1)<|aj (fC<|.l 2) ao) [.f<|dG g,.S,.S]=.R _:=rfl;have c:gf [.f<|dG g,.S,.S]=bF (ad 1) bO [.l 1,.l 2] [.f<|dG g,.S,.S]:=by
  unfold gf eY;rw[j];rfl
 by_cases f:uQ (tb g) 1=true
 .rw[if_pos f] at i;rw[Ay rfl i] at c;simp[cZ,fD,fj,aV,c,f]
 rw[if_neg f] at i;obtain⟨b,e⟩:=ZQ h o hd hz;rw[bC rfl i] at c;by_cases d:uQ (tb g) 2=true
 .rw[if_pos d] at e;rw[Ay rfl e] at c;simp[cZ,fD,fj,aV,c,d]
 rw[if_neg d] at e;rw[bC rfl e] at c;simp[cZ,fD,fj,aV,c,f,d,bF]
noncomputable def ny(d:Q2):Bool:=decide (999999999999<d.1.natAbs)||decide (999<d.2)
theorem YL d:sG [qD d]=.R (false,.B<|ny d):=by
 have g:∀a b:D,bS [a,b] 0=some a:=λ_ _=>rfl;have e:∀a b:D,bS [a,b] 1=some b:=λ_ _=>rfl;unfold ny;by_cases f:999999999999<d.1.natAbs
 .have c:(999999999999)<(if d.1<0 then -d.1 else d.1):=by split<;>lia
  simp[sG,wg,vM,aV,aU,Me.V,Sl.V,DT,dt,qj,aF,BZ,aj,ao,ak,aa,fC,al,qD,g,e,d3,f,c]
 have c:¬(999999999999)<(if d.1<0 then -d.1 else d.1):=by split<;>omega
 simp[sG,wg,vM,aV,aU,Me.V,Sl.V,DT,dt,qj,aF,BZ,aj,ao,ak,aa,fC,al,qD,g,e,d3,f,c]
def ro:Gm->Prop
 | .i _=>True
 | .f n ws=>Nm n/\∃l:List Rat,eU ws=l.map rD/\(∀x∈l,Sz 40 x)/\l.length<=20
 | .m _ n ws=>Nm n/\∃xs:List Str,eU ws=xs.map D.p/\∀x∈xs,Nm x
noncomputable def lq:D->Q2
 | .w [.l a,.l b]=>(a,b)
 |_=>(0,1)
def eh:Gm->List Q2
 | .i d=>[d]
 | .f _ ws=>(eU ws).map lq
 | .m _ _ _=>[]
def pi(g:Gm):Bool:=(eh g).any ny
theorem Yx(C:ro g)(o:gP g):du [dG g]=.R (true,.P<|(eh g).map qD)/\(eh g).length<=1000:=by
 cases g with
 |i d=>exact⟨(by rfl),by simp[eh]⟩
 |f n ws=>
  obtain⟨_,l,e,_,a⟩:=C;refine⟨?_,?_⟩
  .rw[U5 o.1,eh,e];simp only[fg];rfl
  simp[eh,e];lia
 |m s n ws=>exact⟨(by rfl),by simp[eh]⟩
theorem Rl(C:ro g)(o:gP g):cu [g0,.f w,.f<|dG g]=if pi g=true then .A TG else .R (.n,[g0,.f w,.f<|dG g]):=by
 obtain⟨e,h⟩:=Yx C o;have f:eZ (ad 0) jn dB [.S] _=.R ((eh g).map λd=>.B<|ny d):=gW _ λd hd=>by
  refine⟨[.f<|qD d],rfl,rfl,?_⟩;simp[dB,a0,aj,ao,au,YL d]
 have b:(eh g).length<=16777216:=by lia
 have c:dF [g0,.f w,.f<|dG g]=.R (.P<|(eh g).map λd=>.B<|ny d):=by
  simp[dF,bU,cT,a0,aj,ao,au,e,hH,f,b]
 have a:=IU ny<|eh g;unfold pi;cases q:(eh g).any ny<;>(rw[q] at a;simp[cu,ax,dt,aF,aj,ao,c,a,ba,nG,fM,fC])
theorem Jn:∀(l:List (List Int×Gm)) (s1 s2),(∀p∈l,ro p.2/\gP p.2)->∃o C,bF (dO 2<|aL (ad 1)<|aL (ad 2) dU) cu (l.map pD) [g0,s1,s2]=if l.any (λp=>pi p.2)=true then .A TG else .R (.n,[g0,o,C])
 |[],s1,s2,_=>⟨s1,s2,rfl⟩
 |p::l,s1,s2,h=>by
  obtain⟨f,g⟩:=h p ai;have c:=Rl (g0:=g0) (w:=.w<|p.1.map D.l) f g;by_cases q:pi p.2=true
  .rw[if_pos q] at c;exact⟨s1,s2,by rw[ar,Ay (m1:=[g0,.f<|.w<|p.1.map D.l,.f<|dG p.2]) rfl c];simp[q]⟩
  rw[if_neg q] at c;obtain⟨a,b,e⟩:=Jn l (.f<|.w<|p.1.map D.l) (.f<|dG p.2) λq d=>h q<|af _ d;exact⟨a,b,by rw[ar,bC (m1:=[g0,.f<|.w<|p.1.map D.l,.f<|dG p.2]) rfl c,e];rw[kC,(show pi p.2=false by simpa using q),yy]⟩
def rp(g:Gm):Bool:=(gt [] g).any λp=>pi p.2
theorem KI(h:gP g)(hd:dp g<=50)(hz:b4 g<=10000)(o:∀p∈gt [] g,ro p.2/\gP p.2):eF [dG g]=if rp g=true then .A TG else .R (false,.E):=by
 have e:=h8 h hd (by lia);obtain⟨a,b,f⟩:=Jn _ _ _ o;have c:dq [.f<|dG g,.S,.S]=if rp g=true then .A TG else .R (.n,[.f<|dG g,a,b]):=by
  have d:cT (a0 kh<|aj (au 0) ao) [.f<|dG g,.S,.S]=.R ((gt [] g).map pD):=by
   simp[cT,a0,aj,ao,au,e]
  unfold dq eY;rw[d];exact f
 cases q:rp g<;>(rw[q] at c;simp[eF,iB,iD,aV,c])
theorem uY(J:ef d=true)(I:ef e=true)(d1:gJ d<=64)(U:gJ e<=64)(o:cy d=some p)(C:cy e=some q):mR d e=some (gi p q):=by
 refine ZB (yd d J) λj b h l _=>?_;refine ZB (yd e I) λi f a k _=>?_;cases b.symm.trans o;cases f.symm.trans C;unfold mR;rw[o,C];have c:gv p=true:=by unfold gv;rw[h,decide_eq_true<|by lia];rfl
 have g:gv q=true:=by unfold gv;rw[a,decide_eq_true<|by lia];rfl
 simp[c,g]
theorem Ge[DecidableEq α] φ (h:∀a b,gi (φ a) (φ b)=decide (a=b)):∀as bs:List α,kF (as.map φ) (bs.map φ)=decide (as=bs)
 |[],[]=>rfl
 |[],_::_=>rfl
 |_::_,[]=>rfl
 |a::as,b::bs=>by
  simp only[ar,kF,h,Ge φ h as bs];by_cases d:a=b<;>by_cases c:as=bs<;>simp[d,c]
theorem zB{o:Type}{f:o->D}{φ:o->tF}(h:∀a,cy (f a)=some (φ a)):∀as:List o,m9 (as.map f)=some (as.map φ)
 |[]=>by simp[m9]
 |a::as=>by simp[m9,h,zB h as]
noncomputable def hO(p:Str×Str):D:=.w [.p p.1,.p p.2]
noncomputable def v2(p:Str×Str):tF:=.tuple [.str p.1,.str p.2]
theorem G1 p:cy (hO p)=some (v2 p):=by simp[hO,v2,cy,m9]
theorem Pt a b:gi (v2 a) (v2 b)=decide (a=b):=by
 obtain⟨h,f⟩:=a;obtain⟨d,e⟩:=b;simp only[v2,gi,kF,Bool.and_true];by_cases g:h=d<;>by_cases c:f=e<;>simp[g,c]
theorem U8 a b:gi (.str a) (.str b)=decide (a=b):=by rfl
theorem wX:∀{as:List α},(∀a∈as,ef (f a)=true)->lG (as.map f)=true
 |[],_=>rfl
 |a::as,h=>by simp[lG,h a ai,wX λb c=>h b<|af _ c]
theorem vf:∀{as:List α},(∀a∈as,gJ (f a)<=k)->gY (as.map f)<=k
 |[],_=>eK _
 |a::as,h=>by exact Nat.max_le.mpr ⟨h a ai,vf λb c=>h b<|af _ c⟩
abbrev tp(xs:List Str):Prop:=∀x∈xs,Nm x
abbrev ω(rc:List (Str×Str)):Prop:=∀p∈rc,Nm p.1/\Nm p.2
theorem s_(h:tp xs):lG (xs.map D.p)=true/\gY (xs.map D.p)<=0:=⟨wX λa b=>by exact h a b,vf λa _=>by simp[gJ]⟩
theorem Y9(h:ω rc):lG (rc.map hO)=true/\gY (rc.map hO)<=1:=
 ⟨wX λp a=>by simp[hO,ef,lG,(show gE _=true from(h p a).1),(show gE _=true from(h p a).2)],vf λp _=>by simp[hO,gJ,gY]⟩
theorem OB(o:tp xs)(C:tp ys):gz (.w<|xs.map D.p) (.w<|ys.map D.p)=some (decide<|xs≠ys):=by
 have e:=uY (d:=.w<|xs.map _) (e:=.w<|ys.map _) (p:=.tuple<|xs.map rL) (q:=.tuple<|ys.map rL) (by simpa[ef] using(s_ o).1) (by simpa[ef] using(s_ C).1) (by have:=(s_ o).2;simp[gJ];lia) (by have:=(s_ C).2;simp[gJ];lia)
  (by simp[cy,zB (f:=D.p) (φ:=rL) (λ_=>by simp[cy]) xs]) (by simp[cy,zB (f:=D.p) (φ:=rL) (λ_=>by simp[cy]) ys])
 show(mR _ _).map _=_;rw[e,gi,Ge _ U8]
 simp
theorem HV(o:tp xs)(C:tp ys):gz (.P<|xs.map D.p) (.P<|ys.map D.p)=some (decide<|xs≠ys):=by
 have e:=uY (d:=.P<|xs.map _) (e:=.P<|ys.map _) (p:=.list<|xs.map rL) (q:=.list<|ys.map rL) (by simpa[ef] using(s_ o).1) (by simpa[ef] using(s_ C).1) (by have:=(s_ o).2;simp[gJ];lia) (by have:=(s_ C).2;simp[gJ];lia)
  (by simp[cy,zB (f:=D.p) (φ:=rL) (λ_=>by simp[cy]) xs]) (by simp[cy,zB (f:=D.p) (φ:=rL) (λ_=>by simp[cy]) ys])
 show(mR _ _).map _=_;rw[e,gi,Ge _ U8]
 simp
theorem EZ(o:ω xs)(C:ω ys):gz (.w<|xs.map hO) (.w<|ys.map hO)=some (decide<|xs≠ys):=by
 have e:=uY (d:=.w<|xs.map hO) (e:=.w<|ys.map hO) (p:=.tuple<|xs.map v2) (q:=.tuple<|ys.map v2) (by simpa[ef] using(Y9 o).1) (by simpa[ef] using(Y9 C).1) (by have:=(Y9 o).2;simp[gJ];lia) (by have:=(Y9 C).2;simp[gJ];lia)
  (by simp[cy,zB G1 xs]) (by simp[cy,zB G1 ys])
 show(mR _ _).map _=_;rw[e,gi,Ge _ Pt]
 simp
noncomputable def Ly(l:List Rat):Bool:=l.all (λx=>decide<|0<x.num)&&decide (l.sum=1)
theorem OW{o:Type} b (l:List o):Wg [.P<|l.map λx=>D.B<|b x]=some (.B<|l.all b):=by
 have:=yg (b:=b) l λ_ _=>rfl
 show(tK<|l.map _).map (λbs=>D.B<|bs.all id)=_;rw[this];simp[List.all_map]
theorem MW x y:cr (rD x) (rD y)=some (decide<|x=y):=by
 have e:=uY (d:=.w [.l x.num,.l x.den]) (e:=.w [.l y.num,.l y.den]) (p:=.tuple [.int x.num,.int x.den]) (q:=.tuple [.int y.num,.int y.den]) (by simp[ef,lG]) (by simp[ef,lG]) (by simp[gJ,gY]) (by simp[gJ,gY]) (by simp[cy,m9]) (by simp[cy,m9]);show mR (.w [.l x.num,.l x.den]) (.w [.l y.num,.l y.den])=_;rw[e];simp only[gi,kF,Bool.and_true];by_cases q:x=y
 .subst q;simp
 have:¬(x.num=y.num/\(x.den:Int)=y.den):=λz=>q (Rat.ext z.1<|by lia)
 simp only[decide_eq_false q];by_cases a:x.num=y.num
 .have b:¬(x.den:Int)=y.den:=λz=>this ⟨a,z⟩;simp[a,b]
 simp[a]
theorem WW(h:∀x∈l,Sz 40 x)(hz:l.length<=20):qT [.P<|l.map rD]=.R (false,.B<|Ly l):=by
 have j:=Wv h (by lia) (by lia);have m:eZ (ad 0) jn nZ [.S] _=.R (l.map λx=>.B<|decide<|0<x.num):=gW l λx d=>by
  refine⟨[.f<|rD x],rfl,rfl,?_⟩;have a:=WD U6 (h x d) (by lia);have i:rD 0=.w [.l 0,.l 1]:=rfl;have q:decide ((0:Rat).num*x.den<x.num*(0:Rat).den)=decide (0<x.num):=decide_eq_decide.mpr (by
   show 0*(x.den:Int)<x.num*1↔_
   lia)
  rw[i,q] at a;simp[nZ,a0,aj,ao,fC,au,a]
 have e:l.length<=16777216:=by lia
 have g:oh [.f<|.P<|l.map rD]=.R (.P<|l.map λx=>.B<|decide<|0<x.num):=by
  simp[oh,bU,cT,aa,hH,m,e]
 have c:=OW (λx:Rat=>decide<|0<x.num) l;have b:=MW l.sum 1;have f:rD 1=.w [.l 1,.l 1]:=rfl;rw[f] at b;unfold Ly;cases q:l.all (λx=>decide<|0<x.num)<;>(rw[q] at c;simp[qT,vK,vX,aV,aU,Me.V,Sl.V,ZS,dt,aF,aj,ao,g,c,qj,a0,au,j,fC,b])
noncomputable def sS:D->Str
 | .p x=>x
 |_=>""
noncomputable def sK:D->Str×Str
 | .w [.p a,.p b]=>(a,b)
 |_=>("", "")
def p_(o:Ws):List Str:=(eU o).map sS
def WR(o:Ws):List Rat:=(eU o).map λd=>cw (lq d).1 (lq d).2
noncomputable def wy(w:List Int):D:=.w<|w.map D.l
structure Fi where
 s:Int
 n:Str
 w:List Int
 a:List Str
 r:List (Str×Str)
def ma(f:Fi):List Kt:=kn f.s f.n
def rv(f:Fi):D:=.w [wy f.w,.w [.l f.s,.p f.n,.w<|f.a.map D.p,.w<|f.r.map hO]]
def kI(f:Fi):D:=.w [wy f.w,.P<|f.a.map D.p,.w<|f.r.map hO]
noncomputable def wa(F:List Fi)(s:Int)(n:Str):Option Fi:=F.find? λf=>decide<|f.s=s/\f.n=n
theorem E2 φ s n:∀F,cG (F.map ma) (F.map φ) (kn s n)=(wa F s n).map φ
 |[]=>rfl
 |f::F=>by
  have c:=E2 φ s n F;unfold wa at c ⊢;simp only[ar,cG,kT];by_cases q:f.s=s/\f.n=n
  .rw[decide_eq_true q,if_pos (by obtain⟨rfl,rfl⟩:=q;rfl)];rfl
  rw[decide_eq_false q,if_neg (λz=>q ((by
   injection z with b a
   injection b with b
   injection b with b
   injection a with a
   injection a with a
   injection a with a
   exact⟨b,a⟩)))];exact c
theorem Lk(h:wa F s n=some f):f∈F/\f.s=s/\f.n=n:=by
 have a:=List.mem_of_find?_eq_some h;have b:=List.find?_some h;exact⟨a,of_decide_eq_true b⟩
def X3(s:Int)(n:Str)(o:Ws)(w:List Int)(r:Rc):Fi:=⟨s,n,w,p_ o,(qJ r s).map sK⟩
def nv(p:Tr)(F:List Fi):Xn ⊕ List Fi:=match p.2.1 with
 | .i _=>.inr F
 | .f _ ws=>if Ly (WR ws)=true then .inr F else .inl ("NoShares",["way"],[wy p.1])
 | .m s n ws=>match wa F s n with
  |none=>.inr<|F++[X3 s n ws p.1 p.2.2]
  |some f=>if f.a≠p_ ws then .inl ("Unlike",["one", "other"],[wy f.w,wy p.1]) else if f.r≠(qJ p.2.2 s).map sK then .inl ("Forgets",["one", "other"],[wy f.w,wy p.1]) else .inr F
def gn:List Tr->List Fi->Option Xn
 |[],_=>none
 |p::l,F=>match nv p F with
  | .inl x=>some x
  | .inr F'=>gn l F'
def v1(r:Rc):Prop:=∃a b:List (Str×Str),r.1=a.map hO/\r.2=b.map hO/\ω a/\ω b
structure v4(p:Tr):Prop where
 a:v6 p
 w:ro p.2.1
 l:gP p.2.1
 r:v1 p.2.2
def Xg(F:List Fi):Prop:=∀f∈F,tp f.a/\ω f.r
theorem RD(e:eU o=xs.map D.p):p_ o=xs:=by
 unfold p_;rw[e,fg];exact(ki λ_ _=>rfl).trans (rf _)
theorem Li(a:List (Str×Str)):(a.map hO).map sK=a:=by
 rw[fg];exact(ki λ_ _=>rfl).trans (rf _)
theorem EX(h:v1 r) s :∃a,qJ r s=a.map hO/\ω a:=by
 refine ZE h λa b d f c e=>?_;unfold qJ;split
 .exact⟨a,d,c⟩
 exact⟨b,f,e⟩
theorem Vc(e:eU o=l.map rD):WR o=l:=by
 unfold WR;rw[e,fg];refine(ki λx _=>?_).trans (rf _);exact iL x
theorem OU{w:List Int}(C:ro (.m s n o))(I:v1 r):lN s n o r=.w [.l s,.p n,.w<|(p_ o).map D.p,.w<|((qJ r s).map sK).map hO]/\tp (p_ o)/\ω ((qJ r s).map sK):=by
 obtain⟨_,f,e,c⟩:=C;refine oj (EX I s) λa b d=>?_;rw[RD e,b,Li];unfold lN;rw[e,b];exact⟨rfl,c,d⟩
theorem Mj w:JL (wy w)=true:=by
 unfold wy JL;simp[flat]
theorem J4{f:Fi}(J:tp f.a)(I:ω f.r)(U:tp o)(C:ω rc):
  cg [wy w,.w [.l s,.p n,.w<|o.map D.p,.w<|rc.map hO],wy f.w,.w [.l f.s,.p f.n,.w<|f.a.map D.p,.w<|f.r.map hO]] =
   if f.a≠o then .A ("Unlike",["one", "other"],[wy f.w,wy w]) else if f.r≠rc then .A ("Forgets",["one", "other"],[wy f.w,wy w]) else .R (false,.E):=by
 have k:∀a b c d:D,bS [a,b,c,d] 2=some c:=λ_ _ _ _=>rfl;have l:∀a b c d:D,bS [a,b,c,d] 3=some d:=λ_ _ _ _=>rfl;have e:=OB U J;have j:=EZ C I;by_cases g:f.a=o
 .by_cases i:f.r=rc
  .have h:decide (o≠f.a)=false:=by simp[g]
   have m:decide (rc≠f.r)=false:=by simp[i]
   rw[h] at e;rw[m] at j;rw[if_neg (by simp[g]),if_neg<|by simp[i]];simp[cg,gO,gK,aV,aB,ax,aA,ak,aa,fC,al,k,l,e,j,ba]
  have h:decide (o≠f.a)=false:=by simp[g]
  have m:decide (rc≠f.r)=true:=by simp;exact λz=>i z.symm
  rw[h] at e;rw[m] at j;rw[if_neg (by simp[g]),if_pos i];simp[cg,gO,gK,aV,aB,ax,aA,ak,aa,fC,al,k,l,e,j,ba,vY,aj,ao,au,Mj]
 have h:decide (o≠f.a)=true:=by simp;exact λz=>g z.symm
 rw[h] at e;rw[if_pos g];simp[cg,gO,gK,aV,aB,ax,aA,ak,aa,fC,al,k,e,ba,vY,aj,ao,au,Mj]
theorem N_(hz:F.length<=100000)(C:v4 p)(o:Xg F):
  ∃m1,dO 3 (aL (ad 2)<|aL (ad 3)<|aL (ad 4) dU) (c8 p) [g0,.o<|.F (F.map ma)<|F.map rv,s2,s3,s4,s5,s6]=some m1/\
   match nv p F with
   | .inl x=>bI m1=.A x
   | .inr F'=>Xg F'/\F'.length<=F.length+1/\∃O L,bI m1=.R (.n,[g0,.o<|.F (F'.map ma)<|F'.map rv,.f<|wy p.1,.f<|dG p.2.1,.f<|cN p.2.2,O,L]):=by
 obtain⟨w,g,r⟩:=p;have i:∀a b:D,bS [a,b] 0=some a:=λ_ _=>rfl;have t:∀a b:D,bS [a,b] 1=some b:=λ_ _=>rfl;have m:∀a b c:D,bS [a,b,c] 0=some a:=λ_ _ _=>rfl;have k:∀a b c d:D,bS [a,b,c,d] 0=some a:=λ_ _ _ _=>rfl;have B:∀a b c d:D,bS [a,b,c,d] 1=some b:=λ_ _ _ _=>rfl;have u:∀a b c d:D,bS [a,b,c,d] 2=some c:=λ_ _ _ _=>rfl;refine⟨_,rfl,?_⟩;cases g with
 |i d=>
  refine⟨o,by lia,s5,s6,?_⟩;simp[bI,aB,ax,cz,aA,ak,aa,fC,al,dG,i,ba,wy]
 |f n ws=>
  obtain⟨_,l,S,U,K⟩:=C.w;have H:=U5 (n:=n) C.l.1;have v:=WW U K;rw[<-S] at v;simp only[dG] at H;simp only[nv,Vc S];cases q:Ly l with
  |true=>
   rw[q] at v;refine⟨o,by lia,s5,s6,?_⟩;simp[bI,aB,ax,cz,aA,ak,aa,fC,al,dG,m,ba,gq,dt,a0,aj,ao,au,H,v,wy]
  |false=>
   rw[q] at v
   have:=Mj w
   unfold wy at this;simp[bI,aB,ax,cz,aA,ak,aa,fC,al,dG,m,ba,gq,dt,a0,aj,ao,au,H,v,vY,wy,this]
 |m s n ws=>
  have y:(s=1\/s=2)/\lV ws<=100:=C.a;have e:=X7 (n:=n) (r:=r) y.2 y.1;refine ZI (OU (w:=w) C.w C.r) λI E G=>?_;have T:wL (.w [.l s,.p n])=some (kn s n):=rfl;have V:F.length<16777216:=by lia
  have q:=E2 rv s n F;rw[I] at e;simp only[dG] at e;simp only[nv];have z:X3 s n ws w r=⟨s,n,w,_,_ ⟩:=rfl;generalize J:p_ ws=wd at *;generalize W:(qJ r s).map sK=rc at *;cases N:wa F s n with
  |none=>
   rw[N] at q;have A:=J4 (f:=⟨s,n,w,wd,rc⟩) (w:=w) (s:=s) (n:=n) E G E G;rw[if_neg (by simp),if_neg<|by simp] at A;refine⟨λf h=>?_,by simp,.f<|.w [.l s,.p n,.w<|wd.map D.p,.w<|rc.map hO],.f<|rv ⟨s,n,w,wd,rc⟩,?_⟩
   .rcases bE.mp h with h|h
    .exact o f h
    rw[cS.mp h,z];exact⟨E,G⟩
   simp only[wy] at A;simp[bI,aB,ax,cz,aA,ak,aa,fC,al,dG,k,B,u,ba,aW,a0,aj,ao,au,e,wF,Bs,yC,aK,T,V,q,qv,i,t,A,rC,z,rv,ma,wy]
  |some f=>
   rw[N] at q;refine ZI (Lk N) λX zq1 zq2=>?_;subst zq1;subst zq2;obtain⟨Y,Z⟩:=o f X;have A:=J4 (f:=f) (w:=w) (s:=f.s) (n:=f.n) Y Z E G;have j:bI [g0,.o<|.F (F.map ma)<|F.map rv,.f<|.w<|w.map D.l,.f<|dG<|.m f.s f.n ws,.f<|cN r,s5,s6]=match(cg [wy w,.w [.l f.s,.p f.n,.w<|wd.map D.p,.w<|rc.map hO],wy f.w,.w [.l f.s,.p f.n,.w<|f.a.map D.p,.w<|f.r.map hO]]) with
     | .R _=>.R (.n,[g0,.o<|.F (F.map ma)<|F.map rv,.f<|wy w,.f<|dG<|.m f.s f.n ws,.f<|cN r,.f<|.w [.l f.s,.p f.n,.w<|wd.map D.p,.w<|rc.map hO],.f<|rv f])
     | .A c=>.A c
     | .b=>.b:=by
    generalize P:cg [wy w,.w [.l f.s,.p f.n,.w<|wd.map D.p,.w<|rc.map hO],wy f.w,.w [.l f.s,.p f.n,.w<|f.a.map D.p,.w<|f.r.map hO]]=R;simp only[wy] at P;cases R<;>simp[bI,aB,ax,cz,aA,ak,aa,fC,al,dG,k,B,u,ba,aW,a0,aj,ao,au,e,wF,Bs,yC,aK,T,V,q,qv,i,t,P,rv,wy]
   rw[A] at j;by_cases M:f.a=wd
   .by_cases Q:f.r=rc
    .simp only[M,Q,ne_eq,not_true_eq_false,if_false] at j ⊢;exact⟨o,by lia,_,_,j⟩
    simp only[M,Q,ne_eq,not_true_eq_false,if_false,not_false_eq_true,if_true] at j ⊢;exact j
   simp only[M,ne_eq,not_false_eq_true,if_true] at j ⊢;exact j
mutual
def x0:Gm->Prop
 | .i _=>True
 | .f n ws=>ro (.f n ws)/\xL ws
 | .m s n ws=>ro (.m s n ws)/\xL ws
def xL:Ws->Prop
 | .f=>True
 | .e _ g r=>x0 g/\xL r
end
structure Wf(g:Gm):Prop where
 mt:gP g
 s:lf g
 j:x0 g
 d:dp g<=20
 c:b4 g<=1000
theorem Q_(h:v1 r)(C:Nm n)(o:Nm x):v1 (f8 s n r<|.p x):=by
 refine ZE h λa b f i e g=>?_;unfold f8;have d:∀{c:List _},ω c->ω (c++[(n,x)]):=λj p k=>by
  rcases bE.mp k with z|z
  .exact j p z
  rw[cS.mp z];exact⟨C,o⟩
 split
 .exact⟨ _,b,by simp[f,hO],i,d e,g⟩
 exact⟨a,_,f,by simp[i,hO],e,d g⟩
mutual
theorem F5:∀(w:List Int) (r:Rc) (g:Gm),gP g->lf g->x0 g->v1 r->∀p∈dL w r g,v4 p
 |w,r,.i d,_,_,_,hr,p,hp=>by
  have:p=(w,.i d,r):=by simpa[dL] using hp
  rw[this];exact⟨fR,fR,fR,hr⟩
 |w,r,.f n ws,h,hs,hw,hr,p,hp=>by
  rcases a9.mp (hp) with e|e
  .rw[e];exact⟨fR,hw.1,h,hr⟩
  exact E4 w _ 0 ws h.2 hs hw.2 (λ_ _=>hr) p e
 |w,r,.m s n ws,h,hs,hw,hr,p,hp=>by
  rcases a9.mp (hp) with e|e
  .rw[e];exact⟨⟨hs.1,h.1⟩,hw.1,h,hr⟩
  refine E4 w _ 0 ws h.2 hs.2 hw.2 (λl b=>?_) p e;obtain⟨i,j,c,f⟩:=hw.1;rw[c] at b;obtain⟨x,a,rfl⟩:=d4.mp b;exact Q_ hr i<|f x a
theorem E4:∀(w:List Int) (f:D->Rc) (i:Nat) (o:Ws),Ac o->sB o->xL o->(∀l∈eU o,v1<|f l)->∀p∈g6 w f i o,v4 p
 |w,f,i,.f,_,_,_,_,p,hp=>by cases hp
 |w,f,i,.e l g r,h,hs,hw,hf,p,hp=>by
  rcases bE.mp (hp) with e|e
  .exact F5 _ _ g h.1 hs.1 hw.1 (hf l ai) p e
  exact E4 w f (i+1) r h.2 hs.2 hw.2 (λl a=>hf l<|af _ a) p e
end
theorem Wf.q(W:Wf g):∀p∈P g,v4 p:=F5 [] _ g W.mt W.s W.j ⟨[],[],rfl,rfl,(λ_ z=>nomatch z),(λ_ z=>nomatch z)⟩
theorem Wf.f(W:Wf g):∀p∈gt [] g,ro p.2/\gP p.2:=λp b=>by
 rw[<-Ib [] _ g] at b;refine oj (d4.mp b) λq a zq2=>?_;subst zq2;exact⟨(W.q q a).w,(W.q q a).l⟩
theorem HI:∀(l) (F) (s2 s3 s4 s5 s6),F.length+l.length<=100000->(∀p∈l,v4 p)->Xg F->
  ∃m',bF (dO 3<|aL (ad 2)<|aL (ad 3)<|aL (ad 4) dU) bI (l.map c8) [g0,.o<|.F (F.map ma)<|F.map rv,s2,s3,s4,s5,s6]=match gn l F with
   |some x=>.A x
   |none=>.R (.n,m')
 |[],F,s2,s3,s4,s5,s6,_,_,_=>⟨_,rfl⟩
 |p::l,F,s2,s3,s4,s5,s6,hz,hp,hF=>by
  have h:F.length+(l.length+1)<=100000:=hz;obtain⟨j,d,a⟩:=N_ (by lia) (hp p ai) hF;rw[gn];cases q:nv p F with
  |inl x=>
   rw[q] at a;exact⟨[],by rw[ar,Ay d a]⟩
  |inr F'=>
   rw[q] at a;obtain⟨f,i,c,b,a⟩:=a;obtain⟨m',e⟩:=HI l F' _ _ _ c b (by lia) (λq g=>hp q<|af _ g) f;exact⟨m',by rw[ar,bC d a,e]⟩
theorem ru(W : Wf g) : iM [dG g] = match gn (P g) [] with
      | some x => .A x
      | none => .R (false, .E) := by
  have e := YZ W.mt W.s (by have := W.d;lia) (by have := W.c;lia);obtain ⟨b, d⟩ := HI (P g) [] .S .S .S .S .S (by rw [uH];have := W.c;simp;lia) W.q (λ_ z => nomatch z);have a : jk [.f (dG g), .o (.F [] []), .S, .S, .S, .S, .S] = match gn (P g) [] with
      | some x => .A x
      | none => .R (.n, b) := by
    have c : cT (a0 cL (aj (au 0) ao)) [.f (dG g), .o (.F [] []), .S, .S, .S, .S, .S] = .R ((P g).map c8) := by
      simp [cT, a0, aj, ao, au, e]
    unfold jk eY;rw [c];exact d
  cases q : gn (P g) [] with
  | some x => rw [q] at a;simp [iM, lr, kZ, aV, aB, dW, vh, a]
  | none => rw [q] at a;simp [iM, lr, kZ, aV, aB, dW, vh, a]
def KZ(g:Gm):Bool:=(decide (64<b4 g)||wR g)||(uQ (tb g) 1||uQ (tb g) 2)||rp g
theorem UN(W : Wf g) : Km [dG g] = if KZ g = true then .A TG else match gn (P g) [] with
      | some x => .A x
      | none => .R (true, .P (tb g)) := by
  have h := W.d;have i := W.c;have b := KG W.mt (by lia) (by lia);have f := KF W.mt W.s (by lia) (by lia);have c := KI W.mt (by lia) (by lia) W.f;have a := ru W;have d := mu W.mt W.s (by lia) (by lia);unfold KZ;generalize (decide (64 < b4 g) || wR g) = b1 at *;generalize (uQ _ 1 || uQ _ 2) = b2 at *;generalize rp g = b3 at *;generalize gn _ [] = o at *;have e : iy [dG g] = if (b1 || b2) = true then .A TG else .R (false, .E) := by
    cases b1<;>cases b2<;>simp [iy, kJ, j9, aV, aB, qv, a0, aj, ao, au, b, f]
  cases b1<;>cases b2<;>cases b3<;>cases o<;>simp [ra, Km, RQ, RM, aV, aB, qv, a0, aj, ao, au, e, c, a, jT, Me.V, Sl.V, EM, d]
theorem KU:kY=du:=rfl
theorem yc(C:h d m=some m1)(o:g m1=.R (.r f v,m2)):bF h g (d::ds) m=.R (.r f v,m2):=by
 unfold bF;rw[C];simp only[];rw[o]
theorem OM(a b c d e s5 s6 s7 s8 s9:Sl) q :cU [a,b,c,d,e,.f<|.l q.1,.f<|.l q.2,s7,s8,s9]=if ny q=true then .R (.r false<|.B true,Me.V [a,b,c,d,e,.f<|.l q.1,.f<|.l q.2,s7,s8,s9]) else .R (.n,[a,b,c,d,e,.f<|.l q.1,.f<|.l q.2,s7,s8,s9]):=by
 have i:GE (.l 10) (.l 12)=some _:=rfl;unfold ny;by_cases h:999999999999<q.1.natAbs
 .have f:(1000000000000)<=(if q.1<0 then -q.1 else q.1):=by split<;>lia
  simp[cU,ax,iI,aA,aF,BZ,aj,ao,aa,ak,fC,lx,i,f,h,aU]
 have f:¬(1000000000000)<=(if q.1<0 then -q.1 else q.1):=by split<;>omega
 by_cases j:999<q.2
 .have g:(1000)<=q.2:=by lia
  simp[cU,ax,iI,aA,aF,BZ,aj,ao,aa,ak,fC,lx,i,f,g,h,j,aU]
 have g:¬(1000)<=q.2:=by lia
 simp[cU,ax,iI,aA,aF,BZ,aj,ao,aa,ak,fC,lx,i,f,g,h,j,ba]
theorem IB a b c d e s7 s8 s9:∀(l:List Q2) (s5 s6),∃s5' o m',bF (dO 2<|aL (ad 5)<|aL (ad 6) dU) cU (l.map qD) [a,b,c,d,e,s5,s6,s7,s8,s9]=if l.any ny=true then .R (.r false<|.B true,m') else .R (.n,[a,b,c,d,e,s5',o,s7,s8,s9])
 |[],s5,s6=>⟨s5,s6,[],rfl⟩
 |q::l,s5,s6=>by
  have f:=OM a b c d e s5 s6 s7 s8 s9 q;by_cases z:ny q=true
  .rw[if_pos z] at f;exact⟨s5,s6,_,by rw[ar,yc rfl f,if_pos<|by simp[z]]⟩
  rw[if_neg z] at f;obtain⟨x,y,m',g⟩:=IB a b c d e s7 s8 s9 l _<|.f<|.l _;exact⟨x,y,m',by rw[ar,bC rfl f,g,kC,(show ny q=false by simpa using z),yy]⟩
theorem GN a b s7 s8 s9: ∀ (l : List Tr) (c d e s5 s6), (∀ p ∈ l, ro p.2.1 ∧ gP p.2.1) → ∃ I d' C s5' o m', bF (dO 3 (aL (ad 2) (aL (ad 3) (aL (ad 4) dU)))) gR (l.map c8) [a, b, c, d, e, s5, s6, s7, s8, s9] =
      if l.any (λp => pi p.2.1) = true then .R (.r false (.B true), m') else .R (.n, [a, b, I, d', C, s5', o, s7, s8, s9])
  | [], c, d, e, s5, s6, _ => ⟨c, d, e, s5, s6, [], rfl⟩
  | p :: l, c, d, e, s5, s6, h => by
    obtain ⟨n, i⟩ := h p ai;obtain ⟨k, _⟩ := Yx n i;obtain ⟨x, y, m', m⟩ := IB a b _ _ _ s7 s8 s9 _ s5 s6;have f : gR [a, b, .f (wy p.1), .f (dG p.2.1), .f (cN p.2.2), s5, s6, s7, s8, s9] = if pi p.2.1 = true then .R (.r false (.B true), m') else .R (.n, [a, b, .f (wy p.1), .f (dG p.2.1), .f (cN p.2.2), x, y, s7, s8, s9]) := by
      unfold gR mZ eY;have j : cT (a0 kY (aj (au 3) ao)) [a, b, .f (wy p.1), .f (dG p.2.1), .f (cN p.2.2), s5, s6, s7, s8, s9] = .R ((eh p.2.1).map qD) := by
        rw [KU];simp [cT, a0, aj, ao, au, k]
      rw [j];exact m
    by_cases z : pi p.2.1 = true
    . rw [if_pos z] at f
      exact ⟨c, d, e, s5, s6, m', by rw [ar, yc rfl f, if_pos (by simp [z])]⟩
    rw [if_neg z] at f
    obtain ⟨I, d', C, s5', o, s, r⟩ := GN a b s7 s8 s9 l _ _ _ x y λq g => h q (af _ g);exact ⟨I, d', C, _, o, s, by rw [ar, bC rfl f, r, kC, (show pi _ = false by simpa using z), yy]⟩
theorem Uj b φ:∀ds,(∀d∈ds,∃m1,h d m0=some m1/\ft m1=.R (b d)/\fe m1=.R (φ d))->eZ h ft fe m0 ds=.R ((ds.filter b).map φ)
 |[],_=>rfl
 |d::ds,hd=>by
  refine o5 (hd d ai) λm1 e g f=>?_;have a:=Uj b φ ds λx c=>hd x<|af _ c;unfold eZ;rw[e];simp only[];rw[g];cases q:b d
  .simp[a,q]
  simp[f,a,q]
theorem Iz(hz:b4 g<=10000):∃s9',cV [a,b,c,d,e,s5,s6,.f<|.P<|tb g,.f<|.l s,s9]=if uQ (tb g) s=true then .R (.r false<|.B true,Me.V [a,b,c,d,e,s5,s6,.f<|.P<|tb g,.f<|.l s,s9']) else .R (.n,[a,b,c,d,e,s5,s6,.f<|.P<|tb g,.f<|.l s,s9']):=by
 have m:eZ (ad 0) (aA cr (ak al (aa 0)<|fC<|.l 0)<|aa 1) jm [.S,.f<|.l s] (tb g)=.R (((tb g).filter λd=>decide<|im d=s).map λd=>D.l (j3 d:Int)):=Uj _ _ _ λd hd=>by
  refine Z_41 (Mq hd) λa n p r zq4=>?_;subst zq4;refine⟨[.f<|lN a n p r,.f<|.l s],rfl,?_,?_⟩
  .have v:∀a b c d:D,bS [a,b,c,d] 0=some a:=λ_ _ _ _=>rfl;simp[aA,ak,aa,fC,al,lN,v,im];exact decide_eq_decide.mpr Iff.rfl
  have q:∀a b c d:D,bS [a,b,c,d] 2=some c:=λ_ _ _ _=>rfl;simp[jm,aF,bQ,aj,ao,ak,aa,fC,al,lN,q,j3]
 have x:((tb g).filter λd=>decide<|im d=s).length<=(tb g).length:=kG _ _;have t:(tb g).length<=16777216:=by have:=Vi g;lia
 have u:nR (tb g) s=((tb g).filter λd=>decide<|im d=s).length:=rfl;have w:nW (tb g) s=(((tb g).filter λd=>decide<|im d=s).map λd=>(j3 d:Int)).sum:=rfl;have i:jt [a,b,c,d,e,s5,s6,.f<|.P<|tb g,.f<|.l s,s9]=.R (.P<|((tb g).filter λd=>decide<|im d=s).map λd=>D.l (j3 d:Int)):=by
  simp[jt,bU,cT,aa,hH,Sl.c,m,t]
 unfold uQ;generalize y:((tb g).filter λd=>decide<|im d=s)=l at *;have j:K3 [.P<|l.map λd=>D.l (j3 d:Int)]=some (.l (l.map λd=>(j3 d:Int)).sum):=by
  show(Ba _).map _=_;rw[Hz];rfl
 refine⟨.f<|.P<|l.map λd=>D.l (j3 d:Int),?_⟩;rw[u,w];by_cases h:8<l.length
 .have f:(8:Int)<(l.length:Int):=by lia
  simp[cV,aB,aW,i,ax,iI,aA,aF,bQ,aj,ao,aa,fC,d3,h,f,aU]
 have f:¬(8:Int)<(l.length:Int):=by lia
 by_cases k:(24:Int)<(l.map λd=>(j3 d:Int)).sum
 .simp[cV,aB,aW,i,ax,iI,aA,aF,bQ,aj,ao,aa,fC,d3,h,f,k,j,aU]
 simp[cV,aB,aW,i,ax,iI,aA,aF,bQ,aj,ao,aa,fC,d3,h,f,k,j,ba]
theorem Of(hz:b4 g<=10000):∃s9' m',fP [a,b,c,d,e,s5,s6,.f<|.P<|tb g,.S,.S]=if(uQ (tb g) 1||uQ (tb g) 2)=true then .R (.r false<|.B true,m') else .R (.n,[a,b,c,d,e,s5,s6,.f<|.P<|tb g,.f<|.l 2,s9']):=by
 have l:lC (aK<|aj (fC<|.l 1)<|aj (fC<|.l 2) ao) [a,b,c,d,e,s5,s6,.f<|.P<|tb g,.S,.S]=.R _:=rfl;have f:fP [a,b,c,d,e,s5,s6,.f<|.P<|tb g,.S,.S]=bF (ad 8) cV [.l 1,.l 2] [a,b,c,d,e,s5,s6,.f<|.P<|tb g,.S,.S]:=by
  unfold fP eY;rfl
 obtain⟨x,k⟩:=Iz hz;by_cases j:uQ (tb g) 1=true
 .rw[if_pos j] at k;rw[yc rfl k] at f;exact⟨.S,_,by rw[f,if_pos<|by simp[j]]⟩
 rw[if_neg j] at k;rw[bC rfl k] at f;obtain⟨y,i⟩:=Iz hz;by_cases h:uQ (tb g) 2=true
 .rw[if_pos h] at i;rw[yc rfl i] at f;exact⟨.S,_,by rw[f,if_pos<|by simp[h]]⟩
 rw[if_neg h] at i;rw[bC rfl i] at f;exact⟨y,[],by rw[f,if_neg<|by simp[j,h]];rfl⟩
theorem Sr n r(k:Int):decide (k<r.foldl max n)=(n::r).any λa=>decide (k<a):=by
 obtain⟨b,e⟩:=ky r n;by_cases q:k<r.foldl max n
 .rw[decide_eq_true q];exact(List.any_eq_true.mpr ⟨_,b,decide_eq_true q⟩).symm
 rw[decide_eq_false q];refine(Bool.eq_false_iff.mpr λz=>?_).symm;refine oj (List.any_eq_true.mp z) λa c d=>?_
 have:=e a c
 lia
theorem Ta g:∃n,Zw [.P<|(P g).map λp=>D.l (p.1.length:Int)]=some (.l n)/\decide (12<n)=wR g:=by
 have b:P g=(P g).head (by intro z;have e:(P g).length=b4 g:=uH [] _ g;rw[z] at e;have:=vH g;simp at e;lia)::(P g).tail:=(List.cons_head_tail _).symm;have c:wR g=(P g).any λp=>decide ((12)<(p.1.length:Int)):=by
  unfold wR;rw[<-Ib [] _ g,oC];congr 1;funext p;exact decide_eq_decide.mpr (by lia)
 generalize(P g).head _=a at b;generalize(P g).tail=l at b;have d:Ba ((P g).map λp=>D.l (p.1.length))=some ((P g).map λp=>(p.1.length:Int)):=by
  have:=Ii<|(P g).map λp=>(p.1.length)
  rw[fg] at this;exact this
 refine⟨(l.map λp=>(p.1.length)).foldl max (a.1.length),?_,?_⟩
 .show(Ba _).bind _=_;rw[d,b];rfl
 rw[Sr,c,b];simp[oC];rfl
theorem Qn(W:Wf g):d9 [dG g]=.R (false,.B<|KZ g):=by
 have o:=W.d;have Z:=W.c;have k:=vZ W.mt W.s (by lia) (by lia);have O:=JP W.mt W.s (by lia) (by lia);refine oj (Ta g) λn u r=>?_;have C:(P g).length=b4 g:=uH _ _ g;have N:eZ (dO 3<|aL (ad 0)<|aL (ad 1)<|aL (ad 2) dU) jn jg [.S,.S,.S] ((P g).map c8)=.R ((P g).map λp=>D.l (p.1.length:Int)):=gW _ λp s=>by
  refine⟨ _,rfl,rfl,?_⟩;simp[jg,aF,bQ,aj,ao,aa,wy]
 have R:(P g).length<=16777216:=by lia
 have v:∀y F G t x M z K:Sl,jr [.f<|dG g,.f<|.P<|(P g).map c8,y,F,G,t,x,M,z,K]=.R (.P<|(P g).map λp=>D.l (p.1.length:Int)):=λy F G t x M z K=>by
  simp[jr,bU,cT,aa,hH,N,R]
 obtain⟨A,E,L,i,j,T,H⟩:=GN _ _ _ _ _ _ _ _ _ .S .S λp s=>⟨(W.q p s).w,(W.q p s).l⟩;have V:(P g).any (λp=>pi p.2.1)=rp g:=by
  unfold rp;rw[<-Ib [] ([],[]) g,oC];rfl
 rw[V] at H;have B:ji [.f<|dG g,.f<|.P<|(P g).map c8,.S,.S,.S,.S,.S,.S,.S,.S]=if rp g=true then .R (.r false<|.B true,T) else .R (.n,[.f<|dG g,.f<|.P<|(P g).map c8,A,E,L,i,j,.S,.S,.S]):=by
  unfold ji eY;have X:cT (au 1) [.f<|dG g,.f<|.P<|(P g).map c8,.S,.S,.S,.S,.S,.S,.S,.S]=.R ((P g).map c8):=by simp[cT,au]
  rw[X];exact H
 refine ZU (Of (g:=g) (a:=.f<|dG g) (b:=.f<|.P<|(P g).map c8) (c:=A) (d:=E) (e:=L) (s5:=i) (s6:=j) (by lia)) λQ Y S=>?_;have h:decide ((64:Int)<((P g).length:Int))=decide (64<b4 g):=decide_eq_decide.mpr (by lia);unfold KZ;rw[<-r];generalize(uQ (tb g) 1||uQ (tb g) 2)=b2 at *;generalize rp g=b3 at *;by_cases f:64<b4 g
 .rw[decide_eq_true f] at h;simp[d9,gF,gH,aV,aB,aW,a0,aj,ao,au,k,ax,iI,aA,aF,bQ,aa,fC,d3,h,f,aU]
 rw[decide_eq_false f] at h;by_cases m:(12:Int)<n
 .simp[d9,gF,gH,aV,aB,aW,a0,aj,ao,au,k,ax,iI,aA,aF,bQ,aa,fC,d3,h,f,v,u,m,aU]
 cases b3
 .cases b2<;>simp[d9,gF,gH,aV,aB,aW,a0,aj,ao,au,k,ax,iI,aA,aF,bQ,aa,fC,d3,h,f,v,u,m,aU,ba,B,O,S]
 simp[d9,gF,gH,aV,aB,aW,a0,aj,ao,au,k,ax,iI,aA,aF,bQ,aa,fC,d3,h,f,v,u,m,aU,ba,B]
theorem Py(o:0<B):cw (T*(x.den:Int)+x.num*B) (B*(x.den:Int))=cw T B+x:=by
 have hd:(x.den:Int)≠0:=by have:=x.den_pos;lia
 have e:=AN T x.num (d₁:=B) (by lia) hd;rw[iL] at e;exact e.symm
theorem NF{a b:Sl}(o:Sz 40 x)(I:0<B)(hk:B.natAbs<2^k)(C:k<=3000):
  cY [L,.f<|.l T,.f<|.l B,.f<|.l x.num,.f<|.l (x.den:Int)]=if 0<x.num then .R (.n,[L,.f<|.l<|T*(x.den:Int)+x.num*B,.f<|.l<|B*(x.den:Int),.f<|.l x.num,.f<|.l (x.den:Int)]) else .R (.r false<|.B false,Me.V [L,.f<|.l T,.f<|.l B,.f<|.l x.num,.f<|.l (x.den:Int)]):=by
 have d:((x.den:Int)).natAbs<2^62:=by have:=o.2;simp;lia
 have g:Bg B:=XS<|jy hk (by lia);have e:Bg x.num:=XS<|jy o.1 (by lia);have f:iJ (.l T) (.l (x.den:Int))=some (.l<|T*(x.den:Int)):=if_pos<|.inr d;have h:iJ (.l x.num) (.l B)=some (.l<|x.num*B):=if_pos<|.inl ⟨e,g⟩;have i:iJ (.l B) (.l (x.den:Int))=some (.l<|B*(x.den:Int)):=if_pos<|.inr d;by_cases q:0<x.num
 .have c:¬x.num<=0:=by lia
  simp[cY,aB,ax,aA,aa,fC,wE,q,c,ba,aW,ak,f,h,i,bD]
 have c:x.num<=0:=by lia
 simp[cY,aB,ax,aA,aa,fC,wE,q,c,aU]
theorem GW:∀(l:List Rat) (T B) (k) (a b),(∀x∈l,Sz 40 x)->0<B->B.natAbs<2^k->k+40*l.length<=3000->
  ∃C o J I m',bF (dO 2<|aL (ad 3)<|aL (ad 4) dU) cY (l.map rD) [L,.f<|.l T,.f<|.l B,a,b]=(if l.all (λx=>decide<|0<x.num)=true then .R (.n,[L,.f<|.l C,.f<|.l o,J,I]) else .R (.r false<|.B false,m'))/\0<o/\cw C o=cw T B+l.sum
 |[],T,B,k,a,b,_,hB,_,_=>⟨T,B,a,b,[],rfl,hB,by rw[List.sum_nil,Rat.add_zero]⟩
 |x::l,T,B,k,a,b,hx,hB,hk,hz=>by
  have j:k+40*(l.length+1)<=3000:=hz;have c:=NF (L:=L) (a:=a) (b:=b) (T:=T) (hx x ai) hB hk (by lia);have hd:=x.den_pos;have e:=(hx x ai).2;have d:0<B*(x.den:Int):=C9 hB (by lia);have f:(B*(x.den:Int)).natAbs<2^(k+40):=by
   rw[A4,Nat.pow_add];exact Nat.mul_lt_mul'' hk<|e
  obtain⟨C,o,J,I,m',i,g,h⟩:=GW l _ _ _ _ _ (λy m=>hx y<|af _ m) d f (by lia);refine⟨C,o,J,I,?_⟩;by_cases q:0<x.num
  .rw[if_pos q] at c;refine⟨m',?_,g,?_⟩
   .rw[ar,bC rfl c,i,mE,decide_eq_true q,Bool.true_and]
   rw[h,Py hB,i8,B2]
  rw[if_neg q] at c;refine⟨Me.V [L,.f<|.l T,.f<|.l B,.f<|.l x.num,.f<|.l (x.den:Int)],?_,g,?_⟩
  .rw[ar,yc rfl c,if_neg<|by simp[q]]
  rw[h,Py hB,i8,B2]
theorem Se(h:∀x∈l,Sz 40 x)(hz:l.length<=20):ju [.P<|l.map rD]=.R (false,.B<|Ly l):=by
 refine Z_53 (GW (L:=.f<|.P<|l.map rD) l 0 1 1 .S .S h (by decide) (by decide) (by lia)) λT B a b f e g c=>?_;have d:ik [.f<|.P<|l.map rD,.f<|.l 0,.f<|.l 1,.S,.S]=if l.all (λx=>decide<|0<x.num)=true then .R (.n,[.f<|.P<|l.map rD,.f<|.l T,.f<|.l B,a,b]) else .R (.r false<|.B false,f):=by
  unfold ik eY;have k:cT (au 0) [.f<|.P<|l.map rD,.f<|.l 0,.f<|.l 1,.S,.S]=.R (l.map rD):=by simp[cT,au]
  rw[k];exact e
 have q:decide (T=B)=decide (l.sum=1):=decide_eq_decide.mpr (by
  have z:cw 0 1=0:=rfl;rw[z,Rat.zero_add] at c;rw[<-c];constructor
  .intro e;rw[e];exact m_ g
  intro e;have i:(1:Rat)=cw 1 1:=rfl;rw[i] at e
  have:=(oP (by lia)<|by lia).mp e
  lia)
 unfold Ly;cases j:l.all (λx=>decide<|0<x.num)<;>(rw[j] at d;simp[ju,mX,mV,aV,aB,aW,fC,d,aU,Me.V,Sl.V,qj,aa,q])
noncomputable def vd(x:Xn):D:=match x.2.2 with
 |[w]=>.w [.p "no shares",w]
 |[a,b]=>if x.1 = "Unlike" then .w [.p "unlike",a,b] else .w [.p "forgets",a,b]
 |_=>.w [.p "too great"]
theorem N0(hz:F.length<=100000)(o:v4 p)(C:Xg F):
  ∃m1,dO 3 (aL (ad 2)<|aL (ad 3)<|aL (ad 4) dU) (c8 p) [g0,.o<|.F (F.map ma)<|F.map kI,s2,s3,s4,s5,s6,s7]=some m1/\
   match nv p F with
   | .inl x=>∃m',cQ m1=.R (.r false<|vd x,m')
   | .inr F'=>Xg F'/\F'.length<=F.length+1/\∃s5' X Z,cQ m1=.R (.n,[g0,.o<|.F (F'.map ma)<|F'.map kI,.f<|wy p.1,.f<|dG p.2.1,.f<|cN p.2.2,s5',X,Z]):=by
 obtain⟨w,g,r⟩:=p;have J:∀a b:D,bS [a,b] 0=some a:=λ_ _=>rfl;have x21:∀a b:D,bS [a,b] 1=some b:=λ_ _=>rfl;have j:∀a b c:D,bS [a,b,c] 0=some a:=λ_ _ _=>rfl;have v:∀a b c:D,bS [a,b,c] 1=some b:=λ_ _ _=>rfl;have m:∀a b c:D,bS [a,b,c] 2=some c:=λ_ _ _=>rfl;have t:∀a b c d:D,bS [a,b,c,d] 0=some a:=λ_ _ _ _=>rfl;have A:∀a b c d:D,bS [a,b,c,d] 1=some b:=λ_ _ _ _=>rfl;have u:∀a b c d:D,bS [a,b,c,d] 2=some c:=λ_ _ _ _=>rfl;have x43:∀a b c d:D,bS [a,b,c,d] 3=some d:=λ_ _ _ _=>rfl;refine⟨_,rfl,?_⟩;cases g with
 |i d=>
  refine⟨C,by lia,s5,s6,s7,?_⟩;simp[cQ,aB,ax,cz,aA,ak,aa,fC,al,dG,J,ba,wy]
 |f n ws=>
  obtain⟨_,l,K,hl,W⟩:=o.w;have hz:(eU ws).length<=16777216:=by rw[oE];have:=o.l.1;lia
  have H:(f6 ws).length<=16777216:=by rw[pO];have:=o.l.1;lia
  have e1:∀a b c d e f g:Sl,qI [a,b,c,.f<|.w [.p "deal",.p n,.w<|f6 ws],d,e,f,g]=.R (.P<|eU ws):=λa b c d e f g=>by
   simp[qI,bU,lC,ak,aa,fC,al,m,hH,rn,H]
  have L:=Se hl W;rw[<-K] at L;simp only[nv,Vc K];cases q:Ly l with
  |true=>
   rw[q] at L;refine⟨C,by lia,s5,s6,s7,?_⟩;simp[cQ,aB,ax,cz,aA,ak,aa,fC,al,dG,j,ba,gq,dt,a0,aj,ao,e1,L,wy]
  |false=>
   rw[q] at L;refine⟨Me.V [g0,.o<|.F (F.map ma)<|F.map kI,.f<|wy w,.f<|dG<|.f n ws,.f<|cN r,s5,s6,s7],?_⟩;simp[cQ,aB,ax,cz,aA,ak,aa,fC,al,dG,j,ba,gq,dt,a0,aj,ao,au,e1,L,aU,Me.V,Sl.V,aK,vd,wy]
 |m s n ws=>
  have Y:(s=1\/s=2)/\lV ws<=100:=o.a;obtain⟨_,i,K,y⟩:=o.w;refine oj (EX o.r s) λk G z=>?_;have I:(eU ws).length<=16777216:=by rw[oE];lia
  have H:(f6 ws).length<=16777216:=by rw[pO];lia
  have P:∀a b c d e f g:Sl,qZ [a,b,c,.f<|.w [.p "move",.l s,.p n,.w<|f6 ws],d,e,f,g]=.R (.P<|i.map D.p):=λa b c d e f g=>by
   rw[<-K];simp[qZ,bU,lC,ak,aa,fC,al,x43,hH,rn,H]
  have Q:_root_.F.eE (.l s) (.l 1)=some (.l<|s-1):=rfl;have V:bS [D.w r.1,.w r.2] (s-1)=some (.w<|k.map hO):=by
   rw[<-G];unfold qJ;rcases Y.1 with e|e
   .subst e;rfl
   subst e;rfl
  have R:wL (.w [.l s,.p n])=some (kn s n):=rfl;have T:F.length<16777216:=by lia
  have q:=E2 kI s n F;have fo:X3 s n ws w r=⟨s,n,w,i,k⟩:=by unfold X3;rw[RD K,G,Li]
  simp only[nv,RD K,G,Li,fo];cases U:wa F s n with
  |none=>
   rw[U] at q;have B:=HV y y;have E:=EZ z z;have M:decide (i≠i)=false:=by simp
   have N:decide (k≠k)=false:=by simp
   rw[M] at B;rw[N] at E;refine⟨λf h=>?_,by simp,.f<|.P<|i.map D.p,.f<|kI ⟨s,n,w,i,k⟩,.f<|kI ⟨s,n,w,i,k⟩,?_⟩
   .rcases bE.mp h with h|h
    .exact C f h
    rw[cS.mp h];exact⟨y,z⟩
   simp[cQ,aB,ax,cz,aA,ak,aa,fC,Q,V,cN,dG,al,t,A,u,ba,aW,aj,ao,au,P,wF,Bs,yC,aK,R,T,q,v,m,B,E,rC,kI,ma,wy]
  |some f=>
   rw[U] at q;refine ZI (Lk U) λfm zq1 zq2=>?_;subst zq1;subst zq2;obtain⟨f1,f2⟩:=C f fm;have B:=HV f1 y;have E:=EZ f2 z;dsimp only;by_cases S:f.a=i
   .have M:decide (f.a≠i)=false:=by simp[S]
    rw[M] at B;rw[if_neg<|by simp[S]];by_cases O:f.r=k
    .have N:decide (f.r≠k)=false:=by simp[O]
     rw[N] at E;rw[if_neg<|by simp[O]];refine⟨C,by lia,.f<|.P<|i.map D.p,.f<|kI ⟨f.s,f.n,w,i,k⟩,.f<|kI f,?_⟩;simp[cQ,aB,ax,cz,aA,ak,aa,fC,Q,V,cN,dG,al,t,A,u,ba,aW,aj,ao,au,P,wF,Bs,yC,aK,R,T,q,v,m,B,E,kI,wy]
    have N:decide (f.r≠k)=true:=by simp[O]
    rw[N] at E;rw[if_pos O];refine⟨Me.V [g0,.o<|.F (F.map ma)<|F.map kI,.f<|wy w,.f<|dG<|.m f.s f.n ws,.f<|cN r,.f<|.P<|i.map D.p,.f<|kI ⟨f.s,f.n,w,i,k⟩,.f<|kI f],?_⟩;simp[cQ,aB,ax,cz,aA,ak,aa,fC,Q,V,cN,dG,al,t,A,u,ba,aW,aj,ao,au,P,wF,Bs,yC,aK,R,T,q,j,v,m,B,E,kI,wy,aU,Me.V,Sl.V,vd]
   have M:decide (f.a≠i)=true:=by simp[S]
   rw[M] at B;rw[if_pos S];refine⟨Me.V [g0,.o<|.F (F.map ma)<|F.map kI,.f<|wy w,.f<|dG<|.m f.s f.n ws,.f<|cN r,.f<|.P<|i.map D.p,.f<|kI ⟨f.s,f.n,w,i,k⟩,.f<|kI f],?_⟩;simp[cQ,aB,ax,cz,aA,ak,aa,fC,Q,V,cN,dG,al,t,A,u,ba,aW,aj,ao,au,P,wF,Bs,yC,aK,R,T,q,j,v,B,kI,wy,aU,Me.V,Sl.V,vd]
theorem GM:∀(l) (F) (s2 s3 s4 s5 s6 s7),F.length+l.length<=100000->(∀p∈l,v4 p)->Xg F->
  ∃m' I U s3' J s5' o C,bF (dO 3<|aL (ad 2)<|aL (ad 3)<|aL (ad 4) dU) cQ (l.map c8) [g0,.o<|.F (F.map ma)<|F.map kI,s2,s3,s4,s5,s6,s7]=match gn l F with
   |some x=>.R (.r false<|vd x,m')
   |none=>.R (.n,[g0,.o<|.F (DI ma I)<|I.map kI,U,s3',J,s5',o,C])
 |[],F,s2,s3,s4,s5,s6,s7,_,_,_=>⟨[],F,s2,s3,s4,s5,s6,s7,rfl⟩
 |p::l,F,s2,s3,s4,s5,s6,s7,hz,hp,hF=>by
  have k:F.length+(l.length+1)<=100000:=hz;obtain⟨s,b,a⟩:=N0 (by lia) (hp p ai) hF;rw[gn];cases q:nv p F with
  |inl x=>
   rw[q] at a;obtain⟨m',a⟩:=a;exact⟨m',[],.S,.S,.S,.S,.S,.S,by rw[ar,yc b a]⟩
  |inr I=>
   rw[q] at a;obtain⟨h,r,s5',o,C,a⟩:=a;refine Z_81 (GM (g0:=g0) l I (.f<|wy p.1) (.f<|dG p.2.1) (.f<|cN p.2.2) s5' o C (by lia) (λq j=>hp q<|af _ j) h) λm' m c n f d i g e=>?_;exact⟨m',m,c,n,f,d,i,g,by rw[ar,bC b a,e]⟩
def vG(g:Gm):D:=if KZ g=true then .w [.p "too great"] else match gn (P g) [] with
 |some x=>vd x
 |none=>.w [.p "table",.P<|tb g]
theorem ZX(W:Wf g):mU [dG g]=.R (false,vG g):=by
 have t:=W.d;have s:=W.c;have a:=Qn W;have h:=vZ W.mt W.s (by lia) (by lia);have r:=JP W.mt W.s (by lia) (by lia);obtain⟨k,d,e,p,i,f,l,j,n⟩:=GM _ [] _ _ _ _ _ _ (by rw[uH];simp;lia) W.q λ_ z=>nomatch z;have b:qL [.f<|dG g,.o<|.F [] [],.S,.S,.S,.S,.S,.S]=match gn (P g) [] with
   |some x=>.R (.r false<|vd x,k)
   |none=>.R (.n,[.f<|dG g,.o<|.F (DI ma d)<|d.map kI,e,p,i,f,l,j]):=by
  have m:cT (a0 gC<|aj (au 0) ao) [.f<|dG g,.o<|.F [] [],.S,.S,.S,.S,.S,.S]=.R ((P g).map c8):=by
   simp[cT,a0,aj,ao,au,h]
  unfold qL eY;rw[m];exact n
 unfold vG;cases q:KZ g
 .rw[q] at a;cases c:gn _ [] with
  |some x=>
   rw[c] at b;simp[mU,rP,rF,aV,aB,ax,dt,a0,aj,ao,au,a,ba,dW,vh,b]
  |none=>
   rw[c] at b;simp[mU,rP,rF,aV,aB,ax,dt,a0,aj,ao,au,a,ba,dW,vh,b,aU,Me.V,Sl.V,aK,fC,r]
 rw[q] at a;simp[mU,rP,rF,aV,aB,ax,dt,a0,aj,ao,au,a,aU,Me.V,Sl.V,aK,fC]
theorem GO:∀(w:List Int) (s),∃s',bF (ad 2) yO (w.map D.l) [a,b,s]=.R (.n,[a,b,s'])
 |[],s=>⟨s,rfl⟩
 |i::w,s=>by
  obtain⟨s',e⟩:=GO w<|.f<|.l i;exact⟨s',by rw[ar,bC rfl (m2:=[a,b,.f<|.l i]) rfl,e]⟩
theorem L_ w:∃s',pJ [a,.f<|wy w,s]=.R (.n,[a,.f<|wy w,s']):=by
 obtain⟨s',e⟩:=GO w s;have d:uy [a,.f<|wy w,s]=.R (.n,[a,.f<|wy w,s']):=by
  unfold uy eY;have c:lC (au 1) [a,.f<|wy w,s]=.R (w.map D.l):=by simp[lC,au,wy]
  exact e
 refine⟨s',?_⟩;have b:ax (gq<|dt<|xP "tuple" (aa 1)) (aU<|fC<|.B false) ba [a,.f<|wy w,s]=.R _:=rfl;unfold pJ;exact d
theorem Sh:∀(C:List (List Int)) (b s),∃o s',bF (ad 1) pJ (C.map wy) [a,b,s]=.R (.n,[a,o,s'])
 |[],b,s=>⟨b,s,rfl⟩
 |w::C,b,s=>by
  obtain⟨d,c⟩:=L_ w;obtain⟨o,s',e⟩:=Sh C _ d;exact⟨o,s',by rw[ar,bC rfl c,e]⟩
theorem KH(o:List (List Int)):gw [.P<|o.map wy]=.R (false,.B true):=by
 obtain⟨b,s,e⟩:=Sh o _ _;have c:uA [.f<|.P<|o.map wy,.S,.S]=.R (.n,[.f<|.P<|o.map wy,b,s]):=by
  unfold uA eY;have a:cT (au 0) [.f<|.P<|o.map wy,.S,.S]=.R (o.map wy):=by simp[cT,au]
  exact e
 simp[gw,xu,xK,aV,aB,c,aU,Me.V,Sl.V,fC]
abbrev xS(w:List Int):Xn:=("NoShares",["way"],[wy w])
abbrev xU(a b:List Int):Xn:=("Unlike",["one", "other"],[wy a,wy b])
abbrev xF(a b:List Int):Xn:=("Forgets",["one", "other"],[wy a,wy b])
theorem QA:dD [.A "TooGreat" [] []]=.R (false,.w [.p "too great"]):=by rfl
theorem EQ{d:D}:bS [a,b,c,d] 0=some a:=rfl
theorem EJ{d:D}:bS [a,b,c,d] 1=some b:=rfl
theorem F8{d:D}:bS [a,b,c,d] 2=some c:=rfl
theorem LX{d:D}:bS [a,b,c,d] 3=some d:=rfl
theorem FR{b:D}:l4 (dP "other") [(dP "one",a),(dP "other",b)]=some b:=rfl
theorem MC  w :dD [.A "NoShares" ["way"] [wy w]]=.R (false,vd<|xS w):=by
 have a:gw [.P [wy w]]=.R _:=KH [w];show _=bd.R (false,D.w [.p "no shares",wy w]);unfold dD km;generalize gw=φ at a ⊢;generalize wy w=d at a ⊢;simp[jZ,aV,aB,aW,f9,aj,ao,Ie,nT,nO,rT,qg,aa,ax,iI,dt,Iw,sO,rH,pU,gq,Jc,jY,aA,aF,Pg,tK,fC,ba,ak,al,cz,a0,ue,yj,a,aU,Me.V,Sl.V,aK,EQ,EJ]
theorem M'  u v :dD [.A "Unlike" ["one", "other"] [wy u,wy v]]=.R (false,vd<|xU u v):=by
 show _=bd.R (false,D.w _);have a:gw [.P [wy u,wy v]]=.R _:=KH [u,v];unfold dD km;generalize gw=φ at a ⊢;generalize wy u=d at a ⊢;generalize wy v=d' at a ⊢;simp[jZ,aV,aB,aW,f9,aj,ao,Ie,nT,nO,rT,qg,aa,ax,iI,dt,Iw,sO,rH,pU,gq,Jc,jY,aA,aF,Pg,tK,fC,ba,ak,al,cz,a0,ue,qO,lE,a,aU,Me.V,Sl.V,aK,EQ,EJ,F8,FR]
theorem L9  u v :dD [.A "Forgets" ["one", "other"] [wy u,wy v]]=.R (false,vd<|xF u v):=by
 show _=bd.R (false,D.w [.p "forgets",wy u,wy v]);have a:gw [.P [wy u,wy v]]=.R (false,.B true):=KH [u,v];unfold dD km;generalize gw=φ at a ⊢;generalize wy u=d at a ⊢;generalize wy v=d' at a ⊢;simp[jZ,aV,aB,aW,f9,aj,ao,Ie,nT,nO,rT,qg,aa,ax,iI,dt,Iw,sO,rH,pU,gq,Jc,jY,aA,aF,Pg,tK,fC,ba,ak,al,cz,a0,ue,qO,lE,a,aU,Me.V,Sl.V,aK,EQ,EJ,F8,LX,FR]
def xk(x:Xn):Prop:=(∃w,x=xS w)\/(∃a b,x=xU a b)\/∃a b,x=xF a b
theorem Rh:∀{l:List Tr} {F:List Fi} {x:Xn},gn l F=some x->xk x
 |[],_,_,h=>nomatch h
 |p::l,F,x,h=>by
  rw[gn] at h;cases q:nv p F with
  |inl y=>rw[q] at h;cases h;exact(by
   unfold nv at q;split at q
   .cases q
   .split at q
    .cases q
    cases q;exact .inl ⟨_,rfl⟩
   split at q
   .cases q
   split at q
   .cases q;exact .inr<|.inl ⟨_,_,rfl⟩
   split at q
   .cases q;exact .inr<|.inr ⟨_,_,rfl⟩
   cases q)
  |inr F'=>rw[q] at h;exact Rh h
theorem NR w:ef (wy w)=true/\gJ (wy w)<=1:=by
 have a:=wX (f:=D.l) (as:=w) λ_ _=>rfl;have b:=vf (f:=D.l) (as:=w) (k:=0) λ_ _=>by simp[gJ]
 exact⟨by simpa[wy,ef] using a,by simp[wy,gJ];lia⟩
theorem HG(h:xk x):∃d ds,vd x=.w (d::ds)/\ef (vd x)=true/\gJ (vd x)<=2:=by
 have a:=NR;rcases h with⟨w,rfl⟩|⟨u,v,rfl⟩|⟨u,v,rfl⟩
 .have:=a w
  exact⟨_,_,rfl,by simp[vd,ef,lG,this.1];decide +kernel,by simp[vd,gJ,gY];lia⟩
 .have b:=a u;have c:=a v;have e:vd (xU u v)=.w _:=rfl;rw[e];exact⟨_,_,rfl,by simp[ef,lG,b.1,c.1];decide +kernel,by simp[gJ,gY];lia⟩
 have b:=a u;have c:=a v;have e:vd (xF u v)=.w _:=rfl;rw[e];exact⟨_,_,rfl,by simp[ef,lG,b.1,c.1];decide +kernel,by simp[gJ,gY];lia⟩
theorem rd(h:ef (.w (d::ds))=true)(hd:gJ (.w (d::ds))<=64):gz (.w (d::ds)) (.w [])=some true:=by
 refine oj (yd _ h) λp e _=>?_;have g:cy (.w [])=some (.tuple []):=by simp[cy,m9]
 have f:=uY h rfl hd (by simp[gJ,gY]) e g;show(mR _ _).map _=_;rw[f]
 have:∃a as,p=.tuple (a::as):=by
  simp only[cy,m9] at e;cases c:cy d with
  |none=>rw[c] at e;cases e
  |some a=>
   rw[c] at e;cases b:m9 ds with
   |none=>rw[b] at e;cases e
   |some as=>rw[b] at e;cases e;exact⟨a,as,rfl⟩
 refine ZU this λa as zq2=>?_;subst zq2;simp[gi,kF]
theorem Ik(W:Wf g):∀d∈tb g,QV d/\ef d=true/\gJ d<=3:=λd hd=>by
 rcases Fz _ _ d hd with e|⟨p,k,s,n,b,v,rfl⟩
 .cases e
 have c:=W.q p k;obtain⟨w,m,r⟩:=p;cases(v);obtain⟨E,h,f,j⟩:=c.w;refine oj (EX c.r s) λt z u=>?_;have e:lN s n b r=.w [.l s,.p n,.w<|h.map D.p,.w<|t.map hO]:=by unfold lN;rw[f,z]
 have A:=s_ j;have i:=Y9 u;have B:(eU b).length<=100:=by rw[oE];exact c.l.1
 refine⟨⟨s,n,_,_,e,λx a=>?_,by lia,λx a=>?_⟩,?_,?_⟩
 .refine oj (d4.mp a) λy _ zq2=>?_;subst zq2;exact⟨y,rfl⟩
 .refine oj (d4.mp a) λy _ zq2=>?_;subst zq2;exact⟨ _,_,rfl⟩
 .rw[e];simp[ef,lG,A.1,i.1,(show gE n=true from E)]
 rw[e];simp[gJ,gY];lia
theorem HC(W:Wf g):ef (vG g)=true/\gJ (vG g)<=64:=by
 unfold vG;split
 .exact⟨by decide +kernel,by simp[gJ,gY]⟩
 split
 .rename_i x q;refine Y_ (HG<|Rh q) λ_ _ _ a b=>?_;exact⟨a,by lia⟩
 have a:=wX (f:=id) λd hd=>(Ik W d hd).2.1;have b:=vf (f:=id) λd hd=>(Ik W d hd).2.2;rw[rf] at a b;exact⟨by simp[ef,lG,a];decide +kernel,by simp[gJ,gY];lia⟩
theorem Nz{d:D}(I:φ [g]=.A c)(h2:eN c.1=true)(U:o [.A c.1 c.2.1 c.2.2]=.R (false,.w (e::es)))(J:gz (.w (e::es)) (.w [])=some true):
  aV 4 1 (m8 φ C o) [g]=.R (false,.w (e::es)):=by
 simp[m8,aV,aB,aW,fC,aK,ao,Wx,Qc,aj,au,I,h2,a0,U,ax,aA,aa,J,aU,Me.V,Sl.V]
theorem Z4(J:φ [g]=.R (true,d))(I:o [d]=.R (false,.B true)):aV 4 1 (m8 φ o C) [g]=.R (false,.w [.p "table",d]):=by
 have a:gz (.w []) (.w [])=some false:=(by unfold gz;rw[Ai rfl<|by simp[gJ,gY]];rfl);simp[m8,aV,aB,aW,fC,aK,ao,Wx,Qc,aj,au,J,I,a0,ax,aA,aa,a,ba,gq,dt,aU,Me.V,Sl.V]
theorem Vh(W:Wf g):pX [dG g]=.R (false,vG g):=by
 have e:=UN W;unfold pX wQ vG;cases q:KZ g
 .rw[q] at e;cases a:gn _ [] with
  |none=>
   rw[a] at e;exact Z4 e<|Zc λd hd=>(Ik W d hd).1
  |some x=>
   rw[a] at e;have b:=Rh a;refine Y_ (HG b) λd i c f h=>?_;simp only;rw[c] at f h ⊢;refine Nz (d:=d) e ?_ ?_<|rd f<|by lia
   .rcases b with⟨w,rfl⟩|⟨u,v,rfl⟩|⟨u,v,rfl⟩
    .exact(show eN "NoShares" = true by decide +kernel)
    .exact(show eN "Unlike" = true by decide +kernel)
    exact(show eN "Forgets" = true by decide +kernel)
   rw[<-c];rcases b with⟨w,rfl⟩|⟨u,v,rfl⟩|⟨u,v,rfl⟩
   .exact MC w
   .exact M' u v
   exact L9 u v
 rw[q] at e;refine Nz (d:=.E) e (by decide +kernel) QA (rd ?_ ?_)
 .simp[ef,lG];decide +kernel
 simp[gJ,gY]
end K15
namespace K15
open PySem L2 Hd F Pk Lw
open L2 (bS hQ er)
noncomputable def bt:Ws->List (D×Gm)
 | .f=>[]
 | .e l g r=>(l,g)::bt r
theorem xj:∀o,d_ (bt o)=o
 | .f=>rfl
 | .e l g r=>by show Ws.e l g _=_;rw[xj r]
theorem zG:∀o,eU o=(bt o).map (·.1)
 | .f=>rfl
 | .e l g r=>by show l::eU r=_;rw[zG r];rfl
theorem iW:∀L,bt (d_ L)=L
 |[]=>rfl
 |p::L=>by show(p.1,p.2)::bt _=_;rw[iW L]
theorem vq o:f6 o=(bt o).map bB:=by
 rw[<-xj o,Cp,iW];rfl
inductive Sp(n w:Nat):Gm->Prop
 |i (q:Q2):Sp n w (.i q)
 |f {nm:Str} {ws:Ws}:Nm nm->1<=(bt ws).length/\(bt ws).length<=w->(∀p∈bt ws,∃x:Rat,p.1=rD x/\Sz n x)->(∀p∈bt ws,Sp n w p.2)->Sp n w (.f nm ws)
 |m {s:Int} {nm:Str} {ws:Ws}:(s=1\/s=2)->Nm nm->1<=(bt ws).length/\(bt ws).length<=w->(∀p∈bt ws,∃x:Str,p.1=.p x/\Nm x)->(∀p∈bt ws,Sp n w p.2)->Sp n w (.m s nm ws)
theorem Sp.T(C:n<=n')(o:w<=w')(h:Sp n w g):Sp n' w' g:=by
 induction h with
 |i q=>exact .i q
 |f h1 h2 h3 h4 ih=>exact .f h1 ⟨h2.1,dS h2.2 o⟩ (λp a=>(by refine oj (h3 p a) λx e s=>?_;exact ⟨x,e,jy s.1 C,jy s.2 C⟩)) ih
 |m h0 h1 h2 h3 h4 ih=>exact .m h0 h1 ⟨h2.1,dS h2.2 o⟩ h3 ih
theorem M6{o C:Type}{f:o->D}{h:o->Prop}:∀{L:List (D×C)},(∀p∈L,∃x,p.1=f x/\h x)->∃l:List o,L.map (·.1)=l.map f/\(∀x∈l,h x)/\l.length=L.length
 |[],_=>⟨[],rfl,(λ_ z=>nomatch z),rfl⟩
 |p::L,H=>by
  refine o5 (M6 λq e=>H q<|af _ e) λl b d i=>?_;refine oj (H p ai) λx a c=>?_;exact⟨ _,by rw[ar,ar,b,a],λy g=>by
   rcases a9.mp g with rfl|z
   .exact c
   exact d y z,by rw[cm,cm,i]⟩
theorem QS:∀L,(∀p∈L,x0 p.2)->xL (d_ L)
 |[],_=>fR
 |p::L,h=>⟨h p ai,QS L λq a=>h q<|af _ a⟩
theorem Sp.j(h:Sp 40 20 g):gP g/\lf g/\x0 g:=by
 induction h with
 |i q=>exact⟨fR,fR,fR⟩
 | @f nm ws h1 h2 h3 h4 ih=>
  refine o5 (M6 h3) λl b c d=>?_;rw[<-xj ws];generalize bt ws=L at *;exact⟨⟨by rw[Bd];lia,xV L λp a=>(ih p a).1⟩,Gs L λp a=>(ih p a).2.1,⟨h1,l,by rw[Ah,b],c,by lia⟩,QS L λp a=>(ih p a).2.2⟩
 | @m s nm ws h0 h1 h2 h3 h4 ih=>
  refine o5 (M6 h3) λl b c d=>?_;rw[<-xj ws];generalize bt ws=L at *;exact⟨⟨by rw[Bd];lia,xV L λp a=>(ih p a).1⟩,⟨h0,Gs L λp a=>(ih p a).2.1⟩,⟨h1,l,by rw[Ah,b],c⟩,QS L λp a=>(ih p a).2.2⟩
theorem Ze(h:o4 (rq x))(C:0<x.num)(o:x<=1):Sz 13 x:=by
 have d:(x.den:Int)<=999:=h.2
 have:x.num*1<=1*x.den:=(Rat.le_iff _ _).mp o
 exact⟨by lia,by lia⟩
theorem X8:∀{l:List Rat},(∀x∈l,0<=x)->∀x∈l,x<=l.sum
 |y::l,h,x,hx=>by
  have c:0<=l.sum:=by
   clear hx;have h:=λz b=>h z<|af y b;induction l with
   |nil=>exact Rat.le_refl
   |cons a l ih=>
    have:=ih (λz b=>by
     rcases a9.mp b with rfl|q
     .exact ‹∀x∈_,_› _ ai
     exact h z<|af _ q) λz b=>h z (af _ b)
    have d:=h a ai;rw[i8];grind
  rw[i8];rcases a9.mp hx with rfl|z
  .grind
  have:=X8 (λz b=>h z<|af y b) x z
  have:=h y ai
  grind
theorem Jp(h:p∈bt ws):p.1∈eU ws:=by rw[zG];exact d4.mpr ⟨p,h,rfl⟩
theorem le o:(bt o).length=(eU o).length:=by rw[zG,aE]
mutual
theorem FV(E:rW e){N:Nd}:∀(g:Gm) (w:List Int) (r:Rc),(∀p∈dL w r g,Xu e N p)->lf g->Sp 13 3 g
 | .i d,_,_,_,_=>.i d
 | .f n ws,w,r,h,hs=>by
  obtain⟨⟨l,a,z,M,t⟩,u⟩:D0 ws/\n∈e.p:=h (w,.f n ws,r) ai;have sub:=EL E ws w _ 0 (λp f=>h p<|af _ f) hs;have m:=le ws;rw[a,aE] at m;have L:1<=l.length:=by
   cases l with
   |nil=>rw[List.sum_nil] at t;exact absurd t<|by decide
   |cons=>simp
  refine .f (E.p _ u) (by lia) (λp f=>?_) sub;have i:=Jp f;rw[a] at i;obtain⟨x,v,q⟩:=d4.mp i;obtain⟨F,A,D⟩:=z x v;exact⟨x,q.symm,Ze A D<|t▸X8 (λy B=>Rat.num_nonneg.mp<|Int.le_of_lt (z y B).2.2) x v⟩
 | .m s n ws,w,r,h,hs=>by
  obtain⟨H,c,b,k,_,_,_,_,_,K,u,a⟩:md e N s n (lN s n ws r):=h (w,.m s n ws,r) ai;have sub:=EL E ws w _ 0 (λp f=>h p<|af _ f) hs.2;have a:eU ws=(dc c).map λ(j:Nat)=>.p (da e k j):=by
   unfold lN at a;injection a with a
   injection a with _ a
   injection a with _ a
   injection a with a _
   injection a
  have m:=le ws;rw[a,aE,nt] at m;refine .m hs.1 (u▸Ue E k) (by lia) (λp f=>?_) sub;have i:=Jp f;rw[a] at i;obtain⟨j,G,q⟩:=d4.mp i;exact⟨_,q.symm,zX E _ (by have:=E.t;lia)⟩
theorem EL(E:rW e){N:Nd}:∀(o:Ws) (w:List Int) (f:D->Rc) (i:Nat),(∀p∈g6 w f i o,Xu e N p)->sB o->∀p∈bt o,Sp 13 3 p.2
 | .f,_,_,_,_,_,p,hp=>nomatch hp
 | .e l g r,w,f,i,h,hs,p,hp=>by
  rcases a9.mp hp with rfl|z
  .exact FV E g _ _ (λq a=>h q<|sD _ a) hs.1
  exact EL E r w f (i+1) (λq a=>h q<|eD _ a) hs.2 p z
end
open L2 (bS hQ er)
theorem wK(o:0<b):aR (.l a) (.l b)=some (.l<|a%b):=by
 have:¬b=0:=by lia
 simp[aR,hC,this,o]
theorem yM(o:0<b)(C:Bq b):bV (.l a) (.l b)=some (.l<|a/b):=by
 have:¬b=0:=by lia
 simp[bV,i_,this,o,C]
theorem bc(h:f m=.R d)(o:fs m=.R ds):aj f fs m=.R (d::ds):=by simp[aj,h,o]
theorem aZ(h:f m=.R d):aj f ao m=.R [d]:=bc h rfl
theorem kj(h:fs m=.R ds)(o:Φ ds=.R (b,d)):a0 Φ fs m=.R d:=by simp[a0,h,o]
theorem m5(h:f m=.R d):aW i f m=.R (.n,m.set i<|.f d):=by simp[aW,h]
theorem aM(h:f m=.R (.n,m')):aB f k m=k m':=by simp[aB,h]
theorem xG(h:f m=.R (.r b d,m')):aB f k m=.R (.r b d,m'):=by simp[aB,h]
theorem aX(C:f1 m=.R a)(o:f2 m=.R b)(h:g a b=some d):ak g f1 f2 m=.R d:=by simp[ak,C,o,h]
theorem iK(o:fs m=.R ds)(h:g ds=some d):aF g fs m=.R d:=by simp[aF,o,h]
theorem fL(h:fs m=.R ds)(o:ds.length<=100):aK fs m=.R (.w ds):=by
 have:ds.length<=16777216:=by lia
 simp[aK,h,this]
theorem Q0(e:f m=.R d)(o:h d m=some m'):Wj f h m=.R (.n,m'):=by simp[Wj,e,o]
theorem Ih(C:f1 m=.R a)(o:f2 m=.R b)(h:g a b=some false):ax (aA g f1 f2) k ba m=.R (.n,m):=by simp[ax,aA,C,o,h,ba]
theorem zz(C:f1 m=.R a)(o:f2 m=.R b)(h:g a b=some true):ax (aA g f1 f2) k k2 m=k m:=by simp[ax,aA,C,o,h]
theorem ph(h:f m.V=.R d):aU f m=.R (.r false d,m.V):=by simp[aU,h]
theorem La(h:f m=.R d)(o:i<m.length):dW i f m=.R (.n,m.set i<|.o d):=by simp[dW,h,o]
theorem Dt{ds:List D}(C:m[i]? = some (.o<|.P ds))(h:fv m=.R d)(hk:fk m=.R (.l j))(o:j<ds.length):eX i fk fv m=.R (.n,m.set i<|.o<|.P<|ds.set j d):=by
 simp[eX,oA,C,h,hk,hQ,o,dk]
theorem ZW{ds:List D}(C:m[i]? = some (.o<|.P ds))(hk:fk m=.R (.l j))(h:f m=.R d)(o:j<=ds.length)(I:ds.length<=100):zp i fk f m=.R (.n,m.set i<|.o<|.P (ds.take j++d::ds.drop j)):=by
 have:ds.length<16777216:=by lia
 simp[zp,oA,C,h,hk,o,dk,this]
theorem xT(o:ds.length=k)(e:g (ds.map .f++dA (n-k) .S)=.R (.r false d,m')):aV n k g ds=.R (false,d):=by
 subst o;simp[aV,e]
theorem HN{j:Nat}(h:ds[j]? = some d):al (.P ds) (.l j)=some d:=by
 obtain⟨a,e⟩:=dn.mp h;simp[al,bS,hQ,a];exact e
theorem y1:al (.w (a::l)) (.l 0)=some a:=by
 have:(0)<l.length+1:=by lia
 simp[al,bS,hQ,this]
theorem EF:v_ (.w (a::l)) (some 1) none=some (.w l):=by
 have b:HT.c_ _ 0 (some 1)=1:=(HT.Mw (n:=(a::l).length) (d:=0) (k:=1)).trans (by simp);have c:v_ (.w (a::l)) (some 1) _=if HT.c_ (a::l).length 0 (some 1)=0/\HT.c_ (a::l).length (a::l).length none=(a::l).length then none else some (.w<|h7 _ _ none):=rfl
 rw[c,if_neg λz=>by rw[b] at z;exact absurd z.1<|by decide];unfold h7;rw[b];simp[HT.c_]
inductive At(h:Gm):Gm->List Int->Prop
 |b:At h h []
 |f {nm:Str} {ws:Ws} {i:Nat} {l:D} {k:Gm} {v:List Int}:(bt ws)[i]? = some (l,k)->At h k v->At h (.f nm ws) (i::v)
 |m {s:Int} {nm:Str} {ws:Ws} {i:Nat} {l:D} {k:Gm} {v:List Int}:(bt ws)[i]? = some (l,k)->At h k v->At h (.m s nm ws) (i::v)
mutual
theorem H_:∀(g:Gm) (w:List Int) (r:Rc) (p:Tr),p∈dL w r g->∃v,p.1=w++v/\At p.2.1 g v
 | .i d,w,r,p,h=>by
  have:p=(w,.i d,r):=by simpa[dL] using h
  rw[this];exact⟨[],by simp,.b⟩
 | .f n ws,w,r,p,h=>by
  rcases a9.mp (h) with e|e
  .rw[e];exact⟨[],by simp,.b⟩
  obtain⟨j,l,k,v,a,c,b⟩:=Qq ws w _ 0 p e;exact⟨((0+j:Nat):Int)::v,c,by rw[vv];exact .f a b⟩
 | .m s n ws,w,r,p,h=>by
  rcases a9.mp (h) with e|e
  .rw[e];exact⟨[],by simp,.b⟩
  obtain⟨j,l,k,v,a,c,b⟩:=Qq ws w _ 0 p e;exact⟨((0+j:Nat):Int)::v,c,by rw[vv];exact .m a b⟩
theorem Qq:∀(o:Ws) (w:List Int) (f:D->Rc) (i:Nat) (p:Tr),p∈g6 w f i o->∃j l k v,(bt o)[j]? = some (l,k)/\p.1=w++((i+j:Nat):Int)::v/\At p.2.1 k v
 | .f,_,_,_,_,h=>nomatch h
 | .e l g r,w,f,i,p,h=>by
  rcases bE.mp (h) with e|e
  .obtain⟨v,a,b⟩:=H_ g _ _ p e;exact⟨0,l,g,v,rfl,by simpa using a,b⟩
  obtain⟨j,d,k,v,a,b,c⟩:=Qq r w f (i+1) p e;exact⟨j+1,d,k,v,a,by rw[b,show i+1+j=i+(j+1) by lia],c⟩
end
theorem At.sp(a:At h g v)(s:Sp n w g):Sp n w h:=by
 induction a with
 |b=>exact s
 |f h1 _ ih=>cases s with
  |f _ _ _ s4=>exact ih (s4 _<|dy h1)
 |m h1 _ ih=>cases s with
  |m _ _ _ _ s4=>exact ih (s4 _<|dy h1)
theorem Z6:∀v:List Int,m9 (v.map D.l)=some (v.map DE)/\lG (v.map D.l)=true/\gY (v.map D.l)=0
 |[]=>⟨rfl,rfl,rfl⟩
 |i::v=>by
  refine ZI (Z6 v) λc b a=>?_;refine⟨?_,by simp[lG,ef,b],by simp[gY,gJ,a]⟩;simp only[ar,m9,c];rfl
theorem Re i(v:List Int):cr (.w (.l i::v.map D.l)) (.w [])=some false:=by
 have t:cy (.w<|(i::v).map D.l)=some (.tuple<|(i::v).map DE):=by
  show(m9 _).map _=_;rw[(Z6 _).1];rfl
 refine ZI (Z6 (i::v)) λk j h=>?_;refine ZB (yd (.w<|(i::v).map _) (by simpa[ef] using j)) λp e b c _=>?_;cases t.symm.trans e;have d:gJ (.w<|(i::v).map D.l)<=64:=by simp only[gJ,h];decide
 have f:gv (.tuple<|(i::v).map DE)=true:=by
  unfold gv;rw[b,c];simpa using d
 have a:gv (.tuple [])=true:=rfl;have g:cy (.w [])=some _:=rfl;show mR (.w<|(i::v).map _) _=_;unfold mR;rw[t,g];simp only[f,a,and_self,if_true];simp[gi,kF]
theorem Y0{i:Nat}{v:List Int}(J:al (.w<|H++[.w Ls]) (.l (-1))=some (.w Ls))(x2:v_ (.w<|H++[.w Ls]) none (some (-1))=some (.w H))(U:∀e,bD (.w H) (.w [e])=some (.w<|H++[e]))
  (I:Ls[i]? = some (.w [l,C])) (hf:φ [C,.w<|v.map .l,b]=.R (f,o)):aV 6 3 (v9 φ) [.w<|H++[.w Ls],.w (.l i::v.map .l),b]=.R (false,.w<|H++[.w<|Ls.set i<|.w [l,o]]):=by
 have a:=(dn.mp I).1;refine xT rfl ((aM<|Ih rfl rfl<|Re i v).trans
  ((aM<|La (iK (aZ<|aX rfl rfl J) rfl)<|by simp).trans
  ((aM<|Q0 (aX rfl (aX rfl rfl y1)<|HN I) rfl).trans
  ((aM<|Dt rfl (fL (bc rfl<|aZ<|kj (bc rfl<|bc ?_<|aZ rfl) hf)<|by simp) (aX rfl rfl y1) a).trans
  (ph<|aX ?_ (fL (aZ<|iK (aZ rfl) rfl)<|by simp)<|U _)))))
 .exact congrArg b6 EF
 exact congrArg b6 x2
theorem UO:∀{i:Nat} {l:D} {k k':Gm},L[i]? = some (l,k)->l_ (L.set i (l,k'))+b4 k=l_ L+b4 k':=by
 induction L with
 |nil=>intro i l k k' h;cases h
 |cons p L ih=>
  intro i l k k' h;cases i with
  |zero=>
   cases h;show b4 k'+l_ L+b4 k=b4 k+l_ L+b4 k'
   lia
  |succ i=>
   have:=ih (l:=l) (k':=k')<|show L[i]? = some (l,k) from h
   show b4 p.2+l_ (L.set i (l,k'))+b4 k=b4 p.2+l_ L+b4 k'
   lia
theorem ge{L:List α}(h:b∈L.set i a):b∈L\/b=a:=(List.mem_or_eq_of_mem_set h)
theorem Dl:∀{o:Ws} {p:D×Gm},p∈bt o->dp p.2<=j_ o
 | .e l g r,p,h=>by
  rcases a9.mp h with rfl|z
  .exact Nat.le_max_left ..
  exact dS (Dl z)<|Nat.le_max_right ..
theorem Jl o:gr o=l_ (bt o):=by rw[<-Dj,xj]
theorem Tn(h:(bt ws)[i]? = some (l,k))(hd:dp k'<=dp k):((bt ws).map bB).set i (.w [l,dG k'])=f6 (d_<|(bt ws).set i (l,k'))/\j_ (d_<|(bt ws).set i (l,k'))<=j_ ws/\gr (d_<|(bt ws).set i (l,k'))+b4 k=gr ws+b4 k':=by
 refine⟨by rw[vq,iW,sx];rfl,Gz _ λp a=>?_,by rw[Dj,UO h,Jl]⟩;rcases ge a with z|rfl
 .exact Dl z
 exact dS hd<|Dl<|dy h
theorem IJ(o:Sp n w h')(hd:dp h'<=dp h)(a:At h g v):Sp n w g->∀f,v.length<f->∃g',jw f [dG g,.w<|v.map .l,dG h']=.R (false,dG g')/\Sp n w g'/\b4 g'+b4 h=b4 g+b4 h'/\dp g'<=dp g:=by
 induction a with
 |b=>
  intro _ f j;obtain⟨f,rfl⟩:∃d,f=d+1:=⟨f-1,by lia⟩;exact⟨h',(by
   have:cr (.w []) (.w [])=some true:=Ai rfl<|by decide
   exact xT rfl<|xG<|(zz rfl rfl this).trans<|ph rfl),o,by lia,hd⟩
 | @f nm ws i l k v h1 a ih=>
  intro s f j;obtain⟨f,rfl⟩:∃d,f=d+1:=⟨f-1,by lia⟩;cases s with
  |f s1 s2 s3 s4=>
   refine ZB (ih (s4 _<|dy h1) f (by simpa using j)) λk' e r x t=>?_;refine ZI (Tn h1 t) λq m u=>?_;refine⟨.f nm<|d_<|(bt ws).set i (l,k'),?_,.f s1 (by rw[iW,pw];exact s2) (λp c=>?_) λp c=>?_,?_,ic m⟩
   .have:=Y0 (φ:=jw f) (H:=[.p "deal",.p nm]) (Ls:=(bt ws).map bB) (l:=l) (b:=dG h') (v:=v) rfl rfl (λ_=>rfl) (by rw[aT,h1];rfl) e
    rw[q] at this;show aV 6 3 _ [.w [.p "deal",.p nm,.w<|f6 ws],_,_]=_;rw[vq ws];exact this
   .rw[iW] at c;rcases ge c with z|rfl
    .exact s3 p z
    have:=s3 _ (dy h1)
    exact this
   .rw[iW] at c;rcases ge c with z|rfl
    .exact s4 p z
    exact r
   show gr _+1+_=gr ws+1+_
   lia
 | @m si nm ws i l k v h1 a ih=>
  intro s f j;obtain⟨f,rfl⟩:∃d,f=d+1:=⟨f-1,by lia⟩;cases s with
  |m s0 s1 s2 s3 s4=>
   refine ZB (ih (s4 _<|dy h1) f (by simpa using j)) λk' e r x t=>?_;refine ZI (Tn h1 t) λq m u=>?_;refine⟨.m si nm<|d_<|(bt ws).set i (l,k'),?_,.m s0 s1 (by rw[iW,pw];exact s2) (λp c=>?_) λp c=>?_,?_,ic m⟩
   .have:=Y0 (φ:=jw f) (H:=[.p "move",.l si,.p nm]) (Ls:=(bt ws).map bB) (l:=l) (b:=dG h') (v:=v) rfl rfl (λ_=>rfl) (by rw[aT,h1];rfl) e
    rw[q] at this;show aV 6 3 _ [.w [.p "move",.l si,.p nm,.w<|f6 ws],_,_]=_;rw[vq ws];exact this
   .rw[iW] at c;rcases ge c with z|rfl
    .exact s3 p z
    have:=s3 _ (dy h1)
    exact this
   .rw[iW] at c;rcases ge c with z|rfl
    .exact s4 p z
    exact r
   show gr _+1+_=gr ws+1+_
   lia
open L2 (bS hQ er)
structure Ch(A B:List Gm):Prop where
 mt:1<=B.length/\B.length<=A.length+1
 s:∀k∈B,k∈A\/∃q,k=.i q
 c:(B.map b4).sum<=(A.map b4).sum+1
abbrev sb(L:List (D×Gm)):List Gm:=L.map (·.2)
theorem Gb(h:1<=A.length):Ch A A:=⟨⟨h,by lia⟩,λk a=>.inl a,by lia⟩
theorem I':Ch A (A.take j++.i q::A.drop j) where
 mt:=by simp;lia
 s:=λk a=>by
  rcases bE.mp a with z|z
  .exact .inl<|fq z
  rcases a9.mp z with rfl|z
  .exact .inr ⟨q,rfl⟩
  exact .inl<|hG z
 c:=by
  have e:((A.take j++A.drop j).map b4).sum=(A.map b4).sum:=by rw[AO]
  rw[bP,oy] at e;rw[bP,ar,oy,i8];show _+(1+_)<=_
  lia
theorem Pc(h:1<A.length)(o:j<A.length):Ch A (A.take j++A.drop (j+1)) where
 mt:=by simp;omega
 s:=λk a=>.inl<|(bE.mp a).elim fq hG
 c:=by
  have e:((A.take j++A.drop j).map b4).sum=(A.map b4).sum:=by rw[AO]
  rw[nK o,bP,ar,oy,i8] at e;rw[bP,oy]
  lia
theorem QN(h:1<=A.length):Ch A A.reverse where
 mt:=by simp;omega
 s:=λk a=>.inl<|List.mem_reverse.mp a
 c:=by rw[zk,List.sum_reverse];lia
theorem Ht(h:L[i]? = some (l,k)):sb (L.set i (l',k))=sb L:=by
 obtain⟨a,e⟩:=dn.mp h;show(L.set i _).map _=_;rw[sx]
 have:(L.map (·.2))[i]'(by simpa using a)=k:=by simp[e]
 conv=>lhs;rw[this.symm]
 exact List.set_getElem_self _
theorem IQ L:l_ L=((sb L).map b4).sum:=by rw[fg];rfl
theorem em c{n:Nat}(h:1<=n):∃k:Nat,c%(n:Int)=k/\k<n:=by
 have:=hU c (b:=(n))<|by lia
 have:=hZ c (b:=(n))<|by lia
 exact⟨(c%(n)).toNat,by lia,by lia⟩
theorem F6{L:List (D×Gm)}(h:i<L.length):h7 (L.map bB) none (some (i:Int))=(L.take i).map bB:=by
 unfold h7;rw[HT.Mw,show min i _=i by rw[aE];lia];simp[HT.c_]
theorem AC{L:List (D×Gm)}(h:i<L.length):h7 (L.map bB) (some ((i+1:Nat):Int)) none=(L.drop<|i+1).map bB:=by
 unfold h7;rw[HT.Mw,show min _ _=i+1 by rw[aE];lia];simp[HT.c_];exact iP<|by simp
theorem IS:sb (L.take i++(l,g)::L.drop i)=(sb L).take i++g::(sb L).drop i:=by
 show DI _ _=_;rw[bP,ar,sQ,sR]
theorem IZ(h:1<L.length)(o:j<L.length):Ch (sb L) (sb<|L.take j++L.drop (j+1)):=by
 show Ch _ (DI _ _);rw[bP,sQ,sR];exact Pc (by simpa using h) (by simpa using o)
theorem VQ:rD x=.w [.l x.num,.l x.den]:=rfl
theorem A_(h:Sz n x)(o:n<=30) k (hk:k=1\/k=2):∃y z,cO [.l<|x.num*k,.l x.den]=.R (false,rD y)/\Sz (n+1) y/\cO [.l<|x.num*y.den-y.num*x.den,.l<|x.den*y.den]=.R (false,rD z)/\Sz n z:=by
 have q:=x.den_pos;have r:x.den<2^n:=h.2;have p:(2:Nat)^(n+1)=2*2^n:=by rw[CM];lia
 have g:(2:Nat)^n<=2^30:=jv (by decide) o;have s:x.num.natAbs<2^n:=h.1;have l:(x.num*k).natAbs<2^(n+1):=by rw[p];rcases hk with rfl|rfl<;>lia
 have j:=CV (t:=x.num*k) (b:=x.den) (by lia)<|f7 (by lia);have f:Sz (n+1) (cw (x.num*k) x.den):=Ky (by lia) l (by rw[p];lia);have a:=iL x;generalize c:cw (x.num*k) x.den=y at *;have d:=iL y;have v:=y.den_pos;have w:y.den<2^(n+1):=f.2;have i:(x.den*y.den:Nat)<=2^30*2^31:=Nat.mul_le_mul (by lia) (by lia);have e:=CV (t:=x.num*y.den-y.num*x.den) (b:=(x.den:Int)*y.den) (C9 (by lia)<|by lia) (Pb (cf (m:=2^62) (by
  have:((x.den:Int)*y.den).natAbs=x.den*y.den:=by rw[<-Int.natCast_mul];rfl
  rw[this];exact wm i<|by decide)<|jv (by decide)<|by decide))
 rw[<-Rat.divInt_sub_divInt _ _ (by lia) (by lia),a,d] at e;refine⟨y,x-y,j,f,e,?_⟩;have u:x=(x.num:Rat)/((x.den:Int):Rat):=by rw[<-nh];exact a.symm
 rcases hk with rfl|rfl
 .have:y=x:=by rw[<-c,C4];exact a
  rw[this,show x-x=0 by grind];exact⟨Nat.pow_pos (by decide),by show 1<2^n;lia⟩
 have:y=x+x:=by
  rw[nh,Rat.intCast_mul] at c
  have:((2:Int):Rat)=2:=rfl
  rw[this] at c;grind
 rw[this,show x-(x+x)=-x by grind];exact⟨by rw[Dx];lia,by rw[DA];exact h.2⟩
abbrev KP(o:b8):ap:=
 (aB (ax (aA cr (ak aR (aa 1)<|fC<|.l 8)<|fC<|.l 0) (eX 2 (au 3)<|aK<|aj (aK<|aj (fC<|.l 0)<|aj (fC<|.l 1) ao)<|aj (au 5) ao) ba)
 (aB (ax (aA cr (ak aR (aa 1)<|fC<|.l 8)<|fC<|.l 1) (eX 2 (au 3)<|aK<|aj (aK<|aj (ak eE (fC<|.l 0)<|ak al (aa 4)<|fC<|.l 0)<|aj (ak al (aa 4)<|fC<|.l 1) ao)<|aj (au 5) ao) ba)
 (aB (ax (aA cr (ak aR (aa 1)<|fC<|.l 8)<|fC<|.l 2) (eX 2 (au 3)<|aK<|aj (a0 o<|aj (ak bD (ak bD (ak al (aa 4)<|fC<|.l 0)<|fC<|.l 1)<|ak aR (ak bV (aa 1)<|fC<|.l 24)<|fC<|.l 3)<|aj (ak al (aa 4)<|fC<|.l 1) ao)<|aj (au 5) ao) ba)
 (aB (ax (cz (aA cr (ak aR (aa 1)<|fC<|.l 8)<|fC<|.l 3)<|aA d3 (aF bQ<|aj (aa 2) ao)<|fC<|.l 1) (dW 2<|ak Jt (gl (aa 2) gp<|f5<|aa 3)<|gl (aa 2) (f5<|ak bD (aa 3)<|fC<|.l 1) gp) ba)
 (aB (ax (aA cr (ak aR (aa 1)<|fC<|.l 8)<|fC<|.l 4) (aB (aW 6<|ak al (aa 2)<|ak aR (ak bV (aa 1)<|fC<|.l 24)<|aF bQ<|aj (aa 2) ao)
 (aB (eX 2 (ak aR (ak bV (aa 1)<|fC<|.l 24)<|aF bQ<|aj (aa 2) ao)<|aK<|aj (au 4)<|aj (ak al (aa 6)<|fC<|.l 1) ao)
 (eX 2 (au 3)<|aK<|aj (ak al (aa 6)<|fC<|.l 0)<|aj (au 5) ao))) ba)
 (aB (ax (aA cr (ak aR (aa 1)<|fC<|.l 8)<|fC<|.l 5) (zp 2 (au 3)<|aK<|aj (aK<|aj (fC<|.l 0)<|aj (fC<|.l 1) ao)<|aj (aK<|aj (fC<|.p "end")<|aj (aK<|aj (ak aR (ak bV (aa 1)<|fC<|.l 24)<|fC<|.l 9)<|aj (fC<|.l 1) ao) ao) ao) ba)
 (aB (ax (aA d3 (ak aR (aa 1)<|fC<|.l 8)<|fC<|.l 5) (aB (aW 7<|a0 o<|aj (ak iJ (ak al (aa 4)<|fC<|.l 0)<|ak eE (ak aR (aa 1)<|fC<|.l 8)<|fC<|.l 5)<|aj (ak al (aa 4)<|fC<|.l 1) ao)
 (aB (eX 2 (au 3)<|aK<|aj (a0 o<|aj (ak eE (ak iJ (ak al (aa 4)<|fC<|.l 0)<|ak al (aa 7)<|fC<|.l 1)<|ak iJ (ak al (aa 7)<|fC<|.l 0)<|ak al (aa 4)<|fC<|.l 1)<|aj (ak iJ (ak al (aa 4)<|fC<|.l 1)<|ak al (aa 7)<|fC<|.l 1) ao)<|aj (au 5) ao)
 (zp 2 (au 3)<|aK<|aj (au 7)<|aj (aK<|aj (fC<|.p "end")<|aj (aK<|aj (ak aR (ak bV (aa 1)<|fC<|.l 24)<|fC<|.l 9)<|aj (fC<|.l 1) ao) ao) ao))) ba)
 (aU<|aK<|aj (fC<|.p "deal")<|aj (ak al (aa 0)<|fC<|.l 1)<|aj (aF dR<|aj (aa 2) ao) ao))))))))
abbrev rz(nm:Str)(Ls:List D):D:=.w [.p "deal",.p nm,.w Ls]
def Lb(n:Nat)(L:List (D×Gm)):Prop:=∀p∈L,∃x:Rat,p.1=rD x/\Sz n x
theorem Lb.Y(h:Lb n L)(o:Sz n x):Lb n (L.set i (rD x,k)):=λp a=>by
 rcases ge a with z|rfl
 .exact h p z
 exact⟨x,rfl,o⟩
theorem Lb.M(h:Lb n L)(o:Sz n x):Lb n (L.take i++(rD x,k)::L.drop i):=λp a=>by
 rcases bE.mp a with z|z
 .exact h p<|fq z
 rcases a9.mp z with rfl|z
 .exact⟨x,rfl,o⟩
 exact h p<|hG z
theorem UR(hn:2<=n/\n<=30)(hl:1<=L.length/\L.length<=50)(hb:Lb n L)(hc:0<=cell):
  ∃o,jV [rz nm<|L.map bB,.l cell]=.R (false,rz nm<|o.map bB)/\Lb (n+1) o/\Ch (sb L) (sb o):=by
 have r:Lb (n+1) L:=λp hp=>(by refine oj (hb p hp) λx e s=>?_;exact ⟨x,e,jy s.1 (by lia),jy s.2<|by lia⟩)
 obtain⟨at',hat,t⟩:=em _ hl.1;obtain⟨⟨l,k⟩,I⟩:∃p,L[at']? = some p:=⟨_,ay t⟩;refine oj (hb _<|dy I) λx ex Q=>?_;have ex:l=rD x:=ex;subst ex;have hx':Sz (n+1) x:=⟨jy Q.1 (by lia),jy Q.2<|by lia⟩;have hkD:(L.map bB)[at']? = some (.w [rD x,dG k]):=by rw[aT,I];rfl
 let M:List _->Sl->Sl->Me:=λX s6 s7=>[.f<|rz nm<|L.map bB,.f<|.l cell,.o<|.P<|X.map bB,.f<|.l at',.f<|rD x,.f<|dG k,s6,s7]
 have B8:Bq 8:=f7 (by decide);have A:Bq 24:=f7<|by decide
 suffices H:∃o,(∃m',KP cO _=.R (.r false<|rz nm<|o.map bB,m'))/\Lb (n+1) o/\Ch (sb L) (sb o) by
  refine o5 H λo zq1 h1 h2=>?_;obtain⟨m',e⟩:=zq1;refine⟨o,xT (m':=m') rfl ?_,h1,h2⟩;show jR cO [.f<|rz nm<|L.map bB,.f<|.l cell,.S,.S,.S,.S,.S,.S]=_;unfold jR;refine(aM<|La (iK (ds:=[.w<|L.map bB]) (aZ<|aX (a:=rz nm<|L.map bB) (b:=.l 2) rfl rfl rfl) rfl)<|by simp).trans ?_;refine(aM<|m5<|aX (g:=aR) (aX (g:=bV) (a:=.l cell) (b:=.l 8) rfl rfl<|yM (by decide) B8) (iK (ds:=[.P<|L.map bB]) (d:=.l (L.map bB).length) (aZ rfl) rfl)<|by rw[aE,wK (by lia),hat]).trans ?_;exact(aM<|Q0 (aX (a:=.P<|L.map bB) (b:=.l at') rfl rfl<|HN hkD) rfl).trans e
 have E:∀(j:Int) (m:Me),m[1]? = some (.f<|.l cell)->ak aR (aa 1) (fC<|.l 8) m=.R (.l<|cell%8):=λj m h=>by
  have e1:aa 1 m=.R (.l cell):=by simp[aa,h]
  exact aX e1 rfl<|wK<|by decide
 have cn:∀{j:Int} {g:ap} {m:Me},m[1]? = some (.f<|.l cell)->¬cell%8=j->ax (aA cr (ak aR (aa 1)<|fC<|.l 8)<|fC<|.l j) g ba m=.R (.n,m):=λ{j g m} h e=>Ih (E j m h) (b:=.l j) rfl (by show some (decide _)=_;rw[decide_eq_false e]);have T:∀{j:Int} {g:ap} {m m':Me},m[1]? = some (.f<|.l cell)->cell%8=j->g m=.R (.n,m')->ax (aA cr (ak aR (aa 1)<|fC<|.l 8)<|fC<|.l j) g ba m=.R (.n,m'):=λ{j g m m'} h e q=>(zz (E j m h) (b:=.l j) rfl (by show some (decide _)=_;rw[decide_eq_true e])).trans q;have tn:∀{g:ap} {m:Me},m[1]? = some (.f<|.l cell)->¬cell%8=3->ax (cz (aA cr (ak aR (aa 1)<|fC<|.l 8)<|fC<|.l 3)<|aA d3 (aF bQ<|aj (aa 2) ao)<|fC<|.l 1) g ba m=.R (.n,m):=λ{g m} h e=>by
  have:=E 3 m h
  have e3:cr (.l<|cell%8) (.l 3)=some false:=by show some (decide _)=_;rw[decide_eq_false e]
  simp[ax,cz,aA,this,fC,e3,ba]
 have O:∀{g:ap} {m:Me},m[1]? = some (.f<|.l cell)->¬cell%8>5->ax (aA d3 (ak aR (aa 1)<|fC<|.l 8)<|fC<|.l 5) g ba m=.R (.n,m):=λ{g m} h e=>Ih (E 5 m h) (b:=.l 5) rfl (by show some (decide _)=_;rw[decide_eq_false e]);have rt:∀X s6 s7,∃m',aU (aK<|aj (fC<|.p "deal")<|aj (ak al (aa 0)<|fC<|.l 1)<|aj (aF dR<|aj (aa 2) ao) ao) (M X s6 s7)=.R (.r false<|rz nm<|X.map bB,m'):=λX s6 s7=>⟨_,ph<|fL (bc (d:=.p "deal") rfl<|bc (aX (a:=rz nm<|L.map bB) (b:=.l 1) rfl rfl rfl)<|aZ<|iK (ds:=[.P<|X.map bB]) (aZ rfl) rfl)<|by simp⟩;have r0:=hZ cell (b:=8) (by decide);have r1:=hU cell (b:=8) (by decide);have at0:∀X s6 s7,au 3 (M X s6 s7)=.R (.l at'):=λ_ _ _=>rfl;have st:∀{y:Rat} {fe:bv},fe (M L .S .S)=.R (rD y)->eX 2 (au 3) (aK<|aj fe<|aj (au 5) ao) (M L .S .S)=.R (.n,M (L.set at' (rD y,k)) .S .S):=λ{y fe} h=>
  (Dt (ds:=L.map bB) rfl (fL (bc h<|aZ (d:=dG k) rfl)<|by simp) rfl (by rw[aE];exact t)).trans (by
   have w:(L.set at' (rD y,k)).map bB=(L.map bB).set at' (.w [rD y,dG k]):=sx;simp only[M,w];rfl)
 have cs:∀{y:Rat},Ch (sb L) (sb<|L.set at' (rD y,k)):=by
  intro y;rw[Ht I];exact Gb (by simp;lia)
 have xn:ak al (aa 4) (fC<|.l 0) (M L .S .S)=.R (.l x.num):=rfl;have xd:ak al (aa 4) (fC<|.l 1) (M L .S .S)=.R (.l x.den):=rfl;have d0:=x.den_pos;have p30:(2:Nat)^n<=2^30:=jv (by decide) hn.2;have v:(2:Nat)^(n+1)=2*2^n:=by rw[CM];lia
 have p2:(2:Nat)^2<=2^n:=jv (by decide) hn.1;have s1:x.num.natAbs<2^n:=Q.1;have s2:x.den<2^n:=Q.2;by_cases K:cell%8=0
 .obtain⟨m',e⟩:=rt (L.set at' (rD 0,k)) .S .S;exact⟨_,⟨m',(aM<|T rfl K<|st (y:=0)<|fL (ds:=[.l 0,.l 1]) rfl<|by decide).trans<|(aM<|cn rfl<|by lia).trans<|(aM<|cn rfl<|by lia).trans<|(aM<|tn rfl<|by lia).trans<|(aM<|cn rfl<|by lia).trans<|(aM<|cn rfl<|by lia).trans<|(aM<|O rfl<|by lia).trans e⟩,r.Y ⟨by rw[v];show 0<_;lia,by rw[v];show 1<_;lia⟩,cs⟩
 by_cases N:cell%8=1
 .obtain⟨m',e⟩:=rt (L.set at' (rD (-x),k)) .S .S;exact⟨_,⟨m',(aM<|cn rfl K).trans<|(aM<|T rfl N<|st (y:=-x)<|(fL (bc (aX (a:=.l 0) rfl xn rfl)<|aZ xd)<|by simp).trans<|by rw[VQ,Dx,DA,Int.zero_sub]).trans<|(aM<|cn rfl<|by lia).trans<|(aM<|tn rfl<|by lia).trans<|(aM<|cn rfl<|by lia).trans<|(aM<|cn rfl<|by lia).trans<|(aM<|O rfl<|by lia).trans e⟩,r.Y ⟨by rw[Dx,v];lia,by rw[DA,v];lia⟩,cs⟩
 by_cases C:cell%8=2
 .obtain⟨y,G,sy⟩:∃y,cO [.l<|x.num+1+cell/24%3,.l x.den]=.R (false,rD y)/\Sz (n+1) y:=⟨_,CV (by lia)<|f7 (by lia),Ky (by lia) (by rw[v];lia) (by rw[v];lia)⟩;obtain⟨m',e⟩:=rt (L.set at' (rD y,k)) .S .S;exact⟨_,⟨m',(aM<|cn rfl K).trans<|(aM<|cn rfl N).trans<|(aM<|T rfl C<|st<|kj (bc (aX (aX xn (b:=.l 1) rfl rfl) (aX (aX (a:=.l cell) (b:=.l 24) rfl rfl<|yM (by decide) A) (b:=.l 3) rfl<|wK<|by decide) rfl)<|aZ xd) G).trans<|(aM<|tn rfl<|by lia).trans<|(aM<|cn rfl<|by lia).trans<|(aM<|cn rfl<|by lia).trans<|(aM<|O rfl<|by lia).trans e⟩,r.Y sy,cs⟩
 by_cases q3:cell%8=3
 .obtain⟨X,R,hLb,hCh⟩:∃X,ax (cz (aA cr (ak aR (aa 1)<|fC<|.l 8)<|fC<|.l 3)<|aA d3 (aF bQ<|aj (aa 2) ao)<|fC<|.l 1) (dW 2<|ak Jt (gl (aa 2) gp<|f5<|aa 3)<|gl (aa 2) (f5<|ak bD (aa 3)<|fC<|.l 1) gp) ba (M L .S .S)=.R (.n,M X .S .S)/\Lb (n+1) X/\Ch (sb L) (sb X):=by
   have e8:=E 3 (M L .S .S) rfl;have e3:cr (.l<|cell%8) (.l 3)=some true:=by show some (decide _)=_;rw[decide_eq_true q3]
   have el:aF bQ (aj (aa 2) ao) (M L .S .S)=.R (.l L.length):=iK (ds:=[.P<|L.map bB]) (aZ rfl) (by show some (D.l (L.map bB).length)=_;rw[aE]);by_cases c:1<L.length
   .have e4:d3 (.l L.length) (.l 1)=some true:=by show some (decide _)=_;rw[decide_eq_true<|by lia]
    refine⟨L.take at'++L.drop (at'+1),?_,λp hp=>(bE.mp hp).elim (λz=>r p<|fq z) λz=>r p<|hG z,?_⟩
    .have eo:ak Jt (gl (aa 2) gp<|f5<|aa 3) (gl (aa 2) (f5<|ak bD (aa 3)<|fC<|.l 1) gp) (M L .S .S)=.R (.P<|(L.take at'++L.drop (at'+1)).map bB):=by
      refine aX (a:=.P<|(L.take at').map bB) (b:=.P<|(L.drop<|at'+1).map bB) ?_ ?_ ?_
      .show bd.R (D.P<|h7 (L.map bB) none<|some (at':Int))=_;rw[F6 t]
      .show bd.R (D.P<|h7 (L.map bB) (some ((at'+1:Nat):Int)) none)=_;rw[AC t]
      rw[bP];exact if_pos (by show _<=16777216;simp;lia)
     simp[ax,cz,aA,e8,fC,e3,el,e4];exact La eo<|by simp[M]
    exact IZ c t
   have e4:d3 (.l L.length) (.l 1)=some false:=by show some (decide _)=_;rw[decide_eq_false<|by lia]
   exact⟨L,by simp[ax,cz,aA,e8,fC,e3,el,e4,ba],r,Gb (by simp;lia)⟩
  obtain⟨m',e⟩:=rt X .S .S;exact⟨_,⟨m',(aM<|cn rfl K).trans<|(aM<|cn rfl N).trans<|(aM<|cn rfl C).trans<|(aM R).trans<|(aM<|cn rfl<|by lia).trans<|(aM<|cn rfl<|by lia).trans<|(aM<|O rfl<|by lia).trans e⟩,hLb,hCh⟩
 by_cases q4:cell%8=4
 .refine oj (em (cell/24) hl.1) λj hj U=>?_;obtain⟨⟨l2,P⟩,F⟩:∃p,L[j]? = some p:=⟨_,ay U⟩;obtain⟨y,G,hy⟩:=r _<|dy F;have G:l2=rD y:=G;subst G;have W:(L.map bB)[j]? = some (.w [rD y,dG P]):=by rw[aT,F];rfl
  have ej:∀X:List (D×Gm),X.length=L.length->∀s6 s7,ak aR (ak bV (aa 1)<|fC<|.l 24) (aF bQ<|aj (aa 2) ao) (M X s6 s7)=.R (.l j):=λX R s6 s7=>
   aX (aX (a:=.l cell) (b:=.l 24) rfl rfl<|yM (by decide) A) (iK (ds:=[.P<|X.map bB]) (d:=.l (X.map bB).length) (aZ rfl) rfl) (by rw[aE,R,wK (by lia),hj])
  have w:∀{X:List (D×Gm)} {i:Nat} {l:D} {g:Gm},(X.map bB).set i (.w [l,dG g])=(X.set i (l,g)).map bB:=λ{X i l g}=>(sx (f:=bB) (l:=X) (i:=i) (a:=(l,g))).symm
  let u:=L.set j (rD x,P)
  let X2:=u.set at' (rD y,k)
  have J:u.length=L.length:=pw;have Z:sb u=sb L:=Ht F;have hk1:(sb u)[at']? = some k:=by rw[Z];show(L.map _)[at']? = _;rw[aT,I];rfl
  obtain⟨⟨l3,k3⟩,V⟩:∃p,u[at']? = some p:=⟨_,ay (by rw[J];exact t)⟩;have k33:k3=k:=by
   have h:(u.map (·.2))[at']? = some k:=hk1;rw[aT,V] at h;cases h;rfl
  subst k33;obtain⟨m',e⟩:=rt X2 (.f<|.w [rD y,dG P]) .S;refine⟨X2,⟨m',(aM<|cn rfl K).trans<|(aM<|cn rfl N).trans<|(aM<|cn rfl C).trans<|(aM<|tn rfl q3).trans<|(aM<|T rfl q4 ?_).trans<|(aM<|cn rfl<|by lia).trans<|(aM<|O rfl<|by lia).trans e⟩,(r.Y hx').Y hy,?_⟩
  .refine(aM<|m5<|aX (a:=.P<|L.map bB) rfl (ej L rfl .S .S)<|HN W).trans ?_;refine(aM (m':=M u (.f<|.w [rD y,dG P]) .S)<|(Dt (ds:=L.map bB) rfl (fL (bc (d:=rD x) rfl<|aZ (d:=dG P) rfl)<|by simp) (ej L rfl (.f<|.w [rD y,dG P]) .S) (by rw[aE];exact U)).trans (by simp only[M,u,<-w];rfl)).trans ?_;refine(Dt (ds:=u.map bB) rfl (fL (bc (d:=rD y) rfl<|aZ (d:=dG k3) rfl)<|by simp) rfl (by rw[aE,J];exact t)).trans (by simp only[M,X2,<-w];rfl)
  rw[Ht V,Z];exact Gb (by simp;lia)
 have en:∀X s6 s7,aK (aj (fC<|.p "end")<|aj (aK<|aj (ak aR (ak bV (aa 1)<|fC<|.l 24)<|fC<|.l 9)<|aj (fC<|.l 1) ao) ao) (M X s6 s7)=.R (dG<|.i (cell/24%9,1)):=λX s6 s7=>fL (bc (d:=.p "end") rfl<|aZ<|fL (bc (aX (aX (a:=.l cell) (b:=.l 24) rfl rfl<|yM (by decide) A) (b:=.l 9) rfl<|wK<|by decide)<|aZ (d:=.l 1) rfl)<|by simp) (by simp);have ins:∀{X:List (D×Gm)} {y:Rat} {g:Gm} {s6 s7:Sl} {fe:bv},X.length=L.length->fe (M X s6 s7)=.R (.w [rD y,dG g])->zp 2 (au 3) fe (M X s6 s7)=.R (.n,M (X.take at'++(rD y,g)::X.drop at') s6 s7):=λ{X y g s6 s7 fe} R h=>
  (ZW (ds:=X.map bB) rfl rfl h (by rw[aE,R];lia) (by rw[aE,R];lia)).trans (by
   have w:(X.take at'++(rD y,g)::X.drop at').map bB=(X.map bB).take at'++.w [rD y,dG g]::(X.map bB).drop at':=by rw[bP,ar,sQ,sR];rfl
   simp only[M,w];rfl)
 have ci:∀{X:List (D×Gm)} {y:Rat} {q:Q2},sb X=sb L->Ch (sb L) (sb (X.take at'++(rD y,.i q)::X.drop at')):=λ{X y q} h=>by
  rw[IS,h];exact I'
 by_cases q5:cell%8=5
 .obtain⟨m',e⟩:=rt (L.take at'++(rD 0,.i (cell/24%9,1))::L.drop at') .S .S;exact⟨_,⟨m',(aM<|cn rfl K).trans<|(aM<|cn rfl N).trans<|(aM<|cn rfl C).trans<|(aM<|tn rfl q3).trans<|(aM<|cn rfl q4).trans<|(aM<|T rfl q5<|ins rfl<|fL (bc (d:=rD 0) (fL (ds:=[.l 0,.l 1]) rfl<|by simp)<|aZ<|en L .S .S)<|by simp).trans<|(aM<|O rfl<|by lia).trans e⟩,r.M ⟨by rw[v];show 0<_;lia,by rw[v];show 1<_;lia⟩,ci rfl⟩
 refine ZE (A_ Q hn.2 (cell%8-5) (by lia)) λy z G sy ez sz=>?_;have sz':Sz (n+1) z:=⟨jy sz.1 (by lia),jy sz.2<|by lia⟩;obtain⟨m',e⟩:=rt ((L.set at' (rD z,k)).take at'++(rD y,.i (cell/24%9,1))::(L.set at' (rD z,k)).drop at') .S<|.f<|rD y;have B:Bq (y.num)/\Bq (y.den:Int):=JF sy (by lia);have bx:Bq (x.num)/\Bq (x.den:Int):=JF Q (by lia);have b5:Bq (cell%8-5):=f7 (by lia);have gm:∀{i j:Int},Bq i->Bq j->iJ (.l i) (.l j)=some (.l<|i*j):=λhi hj=>by simp[iJ,hi,hj]
 have gy:∀{g:ap} {m':Me},g (M L .S .S)=.R (.n,m')->ax (aA d3 (ak aR (aa 1)<|fC<|.l 8)<|fC<|.l 5) g ba (M L .S .S)=.R (.n,m'):=λ{g m'} h=>(zz (E 5 (M L .S .S) rfl) (b:=.l 5) rfl (by show some (decide _)=_;rw[decide_eq_true<|by lia])).trans h;refine⟨_,⟨m',(aM<|cn rfl K).trans<|(aM<|cn rfl N).trans<|(aM<|cn rfl C).trans<|(aM<|tn rfl q3).trans<|(aM<|cn rfl q4).trans<|(aM<|cn rfl q5).trans<|(aM<|gy ?_).trans e⟩,(r.Y sz').M sy,ci<|Ht I⟩;refine(aM<|m5<|kj (bc (aX xn (aX (E 5 (M L .S .S) rfl) (b:=.l 5) rfl rfl)<|gm bx.1 b5)<|aZ xd) G).trans ?_;have xn7:ak al (aa 4) (fC<|.l 0) (M L .S<|.f<|rD y)=.R (.l x.num):=rfl;have S:ak al (aa 4) (fC<|.l 1) (M L .S<|.f<|rD y)=.R (.l x.den):=rfl;have yn7:ak al (aa 7) (fC<|.l 0) (M L .S<|.f<|rD y)=.R (.l y.num):=rfl;have Y:ak al (aa 7) (fC<|.l 1) (M L .S<|.f<|rD y)=.R (.l y.den):=rfl;refine(aM (m':=M (L.set at' (rD z,k)) .S<|.f<|rD y) ((Dt (ds:=L.map bB) rfl (fL (bc (kj (bc (aX (aX xn7 Y<|gm bx.1 B.2) (aX yn7 S<|gm B.1 bx.2) rfl)<|aZ<|aX S Y<|gm bx.2 B.2) ez)<|aZ (d:=dG k) rfl)<|by simp) rfl (by rw[aE];exact t)).trans (by
  have w:(L.set at' (rD z,k)).map bB=(L.map bB).set at' (.w [rD z,dG k]):=sx;simp only[M,w];rfl))).trans ?_
 exact ins pw<|fL (bc (d:=rD y) rfl<|aZ<|en _ .S<|.f<|rD y)<|by simp
open L2 (bS hQ er)
theorem Tk{l:List Str}:qo (.p x) (.P<|l.map D.p)=some (decide<|x∈l):=by
 have f:(l.map D.p).all flat=true:=by simp[flat]
 show tr _ _=_;unfold tr;rw[if_pos ⟨rfl,f⟩,fg];congr 1;unfold DS;rw[oC];induction l with
 |nil=>simp
 |cons y l ih=>
  rw[kC,ih<|by simp[flat]];show((y==x)||_)=_;by_cases q:x=y
  .subst q;simp
  have a:¬y=x:=λh=>q h.symm;simp[q,a]
theorem Yd{l:List Str}:Ww (.p x) (.P<|l.map D.p)=some (decide<|x∉l):=by
 unfold Ww;rw[Tk]
 simp
theorem Hm P:∀l:List α,(∀x∈l,∃m1,h (f x) m0=some m1/\ft m1=.R (P x)/\fe m1=.R (g x))->eZ h ft fe m0 (l.map f)=.R ((l.filter P).map g)
 |[],_=>rfl
 |i::l,H=>by
  refine o5 (H i ai) λm1 d b k=>?_;have c:=Hm P l λj e=>H j<|af _ e;rw[ar];unfold eZ;cases a:P i with
  |true=>
   rw[a] at b;simp only[d,b,k,c];rw[List.filter_cons_of_pos a];rfl
  |false=>
   rw[a] at b;simp only[d,b,c];rw[List.filter_cons_of_neg (by rw[a];decide)]
abbrev ll(s:Int)(nm:Str)(Ls:List D):D:=.w [.p "move",.l s,.p nm,.w Ls]
def Wd(L:List (D×Gm)):Prop:=∀p∈L,∃x:Str,p.1=.p x/\Nm x
theorem Wd.Y(h:Wd L)(o:Nm x):Wd (L.set i (.p x,k)):=λp a=>by
 rcases ge a with z|rfl
 .exact h p z
 exact⟨x,rfl,o⟩
theorem Wd.M(h:Wd L)(o:Nm x):Wd (L.take i++(.p x,k)::L.drop i):=λp a=>by
 rcases bE.mp a with z|z
 .exact h p<|fq z
 rcases a9.mp z with rfl|z
 .exact⟨x,rfl,o⟩
 exact h p<|hG z
section
variable {ps:List Str}
theorem Yo(C:Wd L)(U:L.length<=7)(J:ps.length=8)(o:ps.Nodup)(I:0<=cell):∃x,x∈ps/\dJ [ll s nm<|L.map bB,.l cell,.P<|ps.map .p]=.R (false,.p x):=by
 refine o5 (M6 C) λc q _ E=>?_;have w:fQ [.f<|ll s nm<|L.map bB,.f<|.l cell,.f<|.P<|ps.map .p,.S,.S]=.R (.P<|c.map .p):=by
  have i:eZ (dO 2<|aL (ad 0)<|aL (ad 1) dU) jn (au 0) [.S,.S] (L.map bB)=.R (L.map (·.1)):=gW L λp _=>⟨[.f p.1,.f<|dG p.2],rfl,rfl,rfl⟩;have z:L.length<=16777216:=by lia
  have u:ak al (aa 0) (fC<|.l 3) [.f<|ll s nm<|L.map bB,.f<|.l cell,.f<|.P<|ps.map .p,.S,.S]=.R (.w<|L.map bB):=rfl;rw[q] at i;have m:c.length<=16777216:=by lia
  unfold fQ bU lC;simp only[u];simp[hH,i,z]
 have y:fU [.f<|ll s nm<|L.map bB,.f<|.l cell,.f<|.P<|ps.map .p,.f<|.P<|c.map .p,.S]=.R (.P<|(ps.filter λx=>decide<|x∉c).map .p):=by
  have i:=Hm (h:=ad 0) (ft:=aA Ww (aa 0)<|aa 1) (fe:=au 0) (m0:=[.S,.f<|.P<|c.map .p]) (f:=D.p) (g:=D.p) (λx=>decide<|x∉c) ps λx _=>⟨[.f<|.p x,.f<|.P<|c.map .p],rfl,by simp only[aA,aa];show(b6<|Ww (.p x)<|.P<|c.map .p)=_;rw[Yd];rfl,rfl⟩;have A:ps.length<=16777216:=by lia
  have r:(ps.filter λx=>decide<|x∉c).length<=16777216:=by have:=kG (λx=>decide<|x∉c) ps;lia
  generalize(ps.filter λx=>decide<|x∉c)=Z at *;have B:(Sl.f<|.P<|c.map .p).c=.f (.P<|c.map .p):=rfl;simp[fU,bU,cT,aa,hH,B,i,A]
 have t:(ps.filter λx=>decide<|x∉c)≠[]:=λz=>by
  have sub:ps ⊆ c:=λx n=>Classical.byContradiction λh=>by
   have:x∈ps.filter λx=>decide (x∉c):=ix.mpr ⟨n,decide_eq_true h⟩
   rw[z] at this;cases this
  have:=List.Nodup.length_le_of_subset o sub
  lia
 have l:∀x∈ps.filter (λx=>decide<|x∉c),x∈ps:=λx h=>(ix.mp h).1;generalize(ps.filter λx=>decide<|x∉c)=Z at *;have F:0<Z.length:=List.length_pos_iff.mpr t;obtain⟨j,v,e⟩:∃k:Nat,cell%(Z.length:Int)=k/\k<Z.length:=⟨(cell%(Z.length:Int)).toNat,by rw[ui<|hZ _<|by lia],by have:=hU cell (b:=(Z.length:Int)) (by lia);have:=hZ cell (b:=(Z.length:Int)) (by lia);lia⟩;refine⟨Z[j],l _<|nV e,xT (m':=Me.V [.f<|ll s nm<|L.map bB,.f<|.l cell,.f<|.P<|ps.map .p,.f<|.P<|c.map .p,.f<|.P<|Z.map .p]) rfl ?_⟩;show jP fQ fU [.f<|ll s nm<|L.map bB,.f<|.l cell,.f<|.P<|ps.map .p,.S,.S]=_;unfold jP;refine(aM<|m5 w).trans ((aM<|m5 y).trans<|ph<|aX (a:=.P<|Z.map .p) rfl (aX (g:=aR) (a:=.l cell) rfl (iK (ds:=[.P<|Z.map .p]) (d:=.l (Z.map D.p).length) (aZ rfl) rfl)<|by rw[aE,wK (by lia),v])<|HN (by rw[aT,ay e];rfl))
abbrev FH(o:b8):ap:=
 (aB (ax (aA cr (ak aR (aa 1)<|fC<|.l 8)<|fC<|.l 0) (aU<|ak bD (gl (aa 0) gp<|f5<|fC<|.l 3)<|aK<|aj (aF dR<|aj (Gr (aa 3)<|f5<|lm vV<|fC<|.l 1) ao) ao) ba)
 (aB (ax (aA qo (ak aR (aa 1)<|fC<|.l 8)<|aK<|aj (fC<|.l 1)<|aj (fC<|.l 2) ao) (aB (eX 3 (au 4)<|aK<|aj (a0 o<|aj (au 0)<|aj (ak bV (aa 1)<|fC<|.l 24)<|aj (au 2) ao)<|aj (ak al (ak al (aa 3)<|aa 4)<|fC<|.l 1) ao)
 (aU<|ak bD (gl (aa 0) gp<|f5<|fC<|.l 3)<|aK<|aj (aF dR<|aj (aa 3) ao) ao)) ba)
 (aB (ax (aA qo (ak aR (aa 1)<|fC<|.l 8)<|aK<|aj (fC<|.l 3)<|aj (fC<|.l 4) ao) (aU<|ak bD (gl (aa 0) gp<|f5<|fC<|.l 2)<|aK<|aj (ak al (aa 2)<|ak aR (ak bV (aa 1)<|fC<|.l 24)<|fC<|.l 8)<|aj (ak al (aa 0)<|fC<|.l 3) ao) ba)
 (aB (ax (aA cr (ak aR (aa 1)<|fC<|.l 8)<|fC<|.l 5) (aU<|aK<|aj (fC<|.p "move")<|aj (ak eE (fC<|.l 3)<|ak al (aa 0)<|fC<|.l 1)<|aj (ak al (aa 0)<|fC<|.l 2)<|aj (ak al (aa 0)<|fC<|.l 3) ao) ba)
 (aB (ax (cz (aA cr (ak aR (aa 1)<|fC<|.l 8)<|fC<|.l 6)<|aA d3 (aF bQ<|aj (aa 3) ao)<|fC<|.l 1) (aU<|ak bD (gl (aa 0) gp<|f5<|fC<|.l 3)<|aK<|aj (aF dR<|aj (ak bD (gl (aa 3) gp<|f5<|aa 4)<|gl (aa 3) (f5<|ak bD (aa 4)<|fC<|.l 1) gp) ao) ao) ba)
 (aB (zp 3 (au 4)<|aK<|aj (a0 o<|aj (au 0)<|aj (ak bV (aa 1)<|fC<|.l 24)<|aj (au 2) ao)<|aj (aK<|aj (fC<|.p "end")<|aj (aK<|aj (ak aR (ak bV (aa 1)<|fC<|.l 192)<|fC<|.l 9)<|aj (fC<|.l 1) ao) ao) ao)
 (aU<|ak bD (gl (aa 0) gp<|f5<|fC<|.l 3)<|aK<|aj (aF dR<|aj (aa 3) ao) ao)))))))
theorem XV(hl:1<=L.length/\L.length<=7)(C:s=1\/s=2)(hn:Nm nm)(J:Wd L)(hc:0<=cell)(U:ps.length=8)(nd:ps.Nodup)(hpn:∀x∈ps,Nm x):
  ∃s' o I,jK [ll s nm (L.map bB),.l cell,.P (ps.map .p)]=.R (false,ll s' o (I.map bB))/\(s'=1\/s'=2)/\Nm o/\Wd I/\Ch (sb L) (sb I):=by
 obtain ⟨at',P,m⟩:=em _ hl.1;obtain ⟨⟨l,k⟩,T⟩:∃p,L[at']? = some p:=⟨_,ay m⟩;have O:(L.map bB)[at']? = some (.w [l,dG k]):=by rw [aT,T];rfl
 let M:List _->Me:=λX=>[.f (ll s nm (L.map bB)),.f (.l cell),.f (.P (ps.map .p)),.o (.P (X.map bB)),.f (.l at')]
 have B8:Bq 8:=f7 (by decide);have v:Bq 24:=f7 (by decide);have y:Bq 192:=f7 (by decide);have F:Ch _ (sb L):=Gb (by simp;lia)
 suffices H:∃s' o I,(∃f,FH dJ _=.R (.r false (ll s' o (I.map bB)),f))/\(s'=1\/s'=2)/\Nm o/\Wd I/\Ch _ _ by
  refine Z_32 H λs' o I zq3 h=>?_;obtain⟨f,e⟩:=zq3;refine ⟨s',o,I,xT (m':=f) rfl ?_,h⟩;show jN dJ [.f (ll s nm (L.map bB)),.f (.l cell),.f (.P (ps.map .p)),.S,.S]=_;unfold jN;refine (aM (La (iK (ds:=[.w (L.map bB)]) (aZ (aX (a:=ll s nm (L.map bB)) (b:=.l 3) rfl rfl rfl)) rfl) (by simp))).trans ?_;refine (aM (m5 (aX (g:=aR) (aX (g:=bV) (a:=.l cell) (b:=.l 8) rfl rfl (yM (by decide) B8)) (iK (ds:=[.P (L.map bB)]) (d:=.l (L.map bB).length) (aZ rfl) rfl) (by rw [aE,wK (by lia),P])))).trans ?_;exact e
 refine oj (Yo (s:=s) (nm:=nm) (cell:=cell / 24) J hl.2 U nd (Int.ediv_nonneg hc (by decide))) λx K ex=>?_;have R:=hpn x K;have t:∀X,ak aR (aa 1) (fC (.l 8)) (M X)=.R (.l (cell % 8)):=λX=>aX (a:=.l cell) rfl rfl (wK (by decide));have cn:∀{j:Int} {g:ap},¬cell % 8=j->ax (aA cr (ak aR (aa 1) (fC (.l 8))) (fC (.l j))) g ba (M L)=.R (.n,M L):=λ{j g} e=>Ih (t L) (b:=.l j) rfl (by show some (decide _)=_;rw [decide_eq_false e]);have W:∀{j:Int} {g:ap},cell % 8=j->ax (aA cr (ak aR (aa 1) (fC (.l 8))) (fC (.l j))) g ba (M L)=g (M L):=λ{j g} e=>zz (t L) (b:=.l j) rfl (by show some (decide _)=_;rw [decide_eq_true e]);have r0:=hZ cell (b:=8) (by decide);have r1:=hU cell (b:=8) (by decide);have n:∀{i j:Int} {g:ap},¬cell % 8=i->¬cell % 8=j->ax (aA qo (ak aR (aa 1) (fC (.l 8))) (aK (aj (fC (.l i)) (aj (fC (.l j)) ao)))) g ba (M L)=.R (.n,M L):=λ{i j g} h1 h2=>Ih (t L) (fL (ds:=[.l i,.l j]) rfl (by simp)) (by
  show tr (.l (cell % 8)) [.l i,.l j]=_;unfold tr;rw [if_pos ⟨rfl,rfl⟩];show some ((i == cell % 8) || ((j == cell % 8) || false))=_;rw [beq_eq_false_iff_ne.mpr (λz=>h1 z.symm),beq_eq_false_iff_ne.mpr (λz=>h2 z.symm)];rfl)
 have u:∀{i j:Int} {g:ap},cell % 8=i\/cell % 8=j->ax (aA qo (ak aR (aa 1) (fC (.l 8))) (aK (aj (fC (.l i)) (aj (fC (.l j)) ao)))) g ba (M L)=g (M L):=λ{i j g} h=>zz (t L) (fL (ds:=[.l i,.l j]) rfl (by simp)) (by
  show tr (.l (cell % 8)) [.l i,.l j]=_;unfold tr;rw [if_pos ⟨rfl,rfl⟩];show some ((i == cell % 8) || ((j == cell % 8) || false))=_;rcases h with h | h<;>rw [h]<;>simp)
 have V:∀X,a0 dJ (aj (au 0) (aj (ak bV (aa 1) (fC (.l 24))) (aj (au 2) ao))) (M X)=.R (.p x):=λX=>kj (bc rfl (bc (aX (a:=.l cell) (b:=.l 24) rfl rfl (yM (by decide) v)) (aZ rfl))) ex;have G:∀X,gl (aa 0) gp (f5 (fC (.l 3))) (M X).V=.R (.w [.p "move",.l s,.p nm]):=λ_=>rfl;have fin:∀X:List (D×Gm),∃f,aU (ak bD (gl (aa 0) gp (f5 (fC (.l 3)))) (aK (aj (aF dR (aj (aa 3) ao)) ao))) (M X)=.R (.r false (ll s nm (X.map bB)),f):=λX=>⟨_,ph (aX (G X) (fL (aZ (iK (ds:=[.P (X.map bB)]) (aZ rfl) rfl)) (by simp)) rfl)⟩;by_cases A:cell % 8=0
 .refine ⟨s,nm,L.reverse,⟨_,xG ((W A).trans (ph (aX (G L) (fL (aZ (iK (ds:=[.P (L.map bB).reverse]) (aZ rfl) rfl)) (by simp)) ?_)))⟩,C,hn,λp U=>J p (List.mem_reverse.mp U),?_⟩
  .rw [zk];rfl
  show Ch _ (L.reverse.map _);rw [zk];exact QN (by simp;lia)
 by_cases q1:cell % 8=1\/cell % 8=2
 .obtain ⟨f,e⟩:=fin (L.set at' (.p x,k));refine ⟨s,nm,L.set at' (.p x,k),⟨f,(aM (cn A)).trans (xG ((u q1).trans ((aM ((Dt (i:=3) (ds:=L.map bB) rfl (fL (bc (V L) (aZ (aX (aX (a:=.P (L.map bB)) (b:=.l at') rfl rfl (HN O)) (b:=.l 1) rfl (show _=some (dG k) from rfl)))) (by simp)) rfl (by rw [aE];exact m)).trans (by
    have C:(L.set at' (.p x,k)).map bB=(L.map bB).set at' (.w [.p x,dG k]):=sx;show _=bd.R (Fl.n,M (L.set at' (.p x,k)));simp only [M,C];rfl))).trans e)))⟩,C,hn,J.Y R,?_⟩
  rw [Ht T];exact F
 by_cases q3:cell % 8=3\/cell % 8=4
 .obtain ⟨j,hj,w⟩:∃j:Nat,cell / 24 % 8=j/\j<ps.length:=⟨(cell / 24 % 8).toNat,by lia,by lia⟩;exact ⟨s,ps[j],L,⟨_,(aM (cn A)).trans ((aM (n (by lia) (by lia))).trans (xG ((u q3).trans (ph (aX (a:=.w [.p "move",.l s]) rfl (fL (ds:=[.p ps[j],.w (L.map bB)]) (bc (aX (a:=.P (ps.map .p)) rfl (aX (aX (a:=.l cell) (b:=.l 24) rfl rfl (yM (by decide) v)) (b:=.l 8) rfl (wK (by decide))) (by rw [hj];exact HN (by rw [aT,ay w];rfl))) (aZ (aX (a:=ll s nm (L.map bB)) (b:=.l 3) rfl rfl rfl))) (by simp)) rfl)))))⟩,C,hpn _ (nV w),J,F⟩
 by_cases Y:cell % 8=5
 .exact ⟨3-s,nm,L,⟨_,(aM (cn A)).trans ((aM (n (by lia) (by lia))).trans ((aM (n (by lia) (by lia))).trans (xG ((W Y).trans (ph (fL (ds:=[.p "move",.l (3-s),.p nm,.w (L.map bB)]) (bc rfl (bc (aX (a:=.l 3) rfl (aX (a:=ll s nm (L.map bB)) (b:=.l 1) rfl rfl rfl) rfl) (bc (aX (a:=ll s nm (L.map bB)) (b:=.l 2) rfl rfl rfl) (aZ (aX (a:=ll s nm (L.map bB)) (b:=.l 3) rfl rfl rfl))))) (by simp)))))))⟩,by lia,hn,J,F⟩
 have B:∀{r:bd (Fl×Me)},_=r->FH dJ (M L)=r:=λ{r} h=>((aM (cn A)).trans ((aM (n (by lia) (by lia))).trans ((aM (n (by lia) (by lia))).trans (aM (cn Y))))).trans h;have S:aF bQ (aj (aa 3) ao) (M L)=.R (.l L.length):=iK (ds:=[.P (L.map bB)]) (aZ rfl) (by show some (D.l (L.map bB).length)=_;rw [aE]);have N:=t L;have Q:∀{b:Bool},decide (cell % 8=6)=b->cr (.l (cell % 8)) (.l 6)=some b:=λh=>by show some (decide _)=_;rw [h]
 have Z:∀{b:Bool},decide (1<L.length)=b->d3 (.l L.length) (.l 1)=some b:=λ{b} h=>by
  show some (decide ((1:Int)<L.length))=_;rw [<-h,show decide ((1:Int)<(L.length:Int))=decide (1<L.length) from decide_eq_decide.mpr (by lia)]
 by_cases E:cell % 8=6/\1<L.length
 .have eo:ak bD (gl (aa 3) gp (f5 (aa 4))) (gl (aa 3) (f5 (ak bD (aa 4) (fC (.l 1)))) gp) (M L).V=.R (.P ((L.take at'++L.drop (at'+1)).map bB)):=by
   refine aX (a:=.P ((L.take at').map bB)) (b:=.P ((L.drop (at'+1)).map bB)) ?_ ?_ ?_
   .show bd.R (D.P (h7 (L.map bB) none (some (at':Int))))=_;rw [F6 m]
   .show bd.R (D.P (h7 (L.map bB) (some ((at'+1:Nat):Int)) none))=_;rw [AC m]
   rw [bP];exact if_pos (by show _<=16777216;simp;lia)
  have q:∀{g:ap},ax (cz (aA cr (ak aR (aa 1) (fC (.l 8))) (fC (.l 6))) (aA d3 (aF bQ (aj (aa 3) ao)) (fC (.l 1)))) g ba (M L)=g (M L):=λ{g}=>by
   simp [ax,cz,aA,N,fC,Q (decide_eq_true E.1),S,Z (decide_eq_true E.2)]
  refine ⟨s,nm,L.take at'++L.drop (at'+1),⟨_,B (xG (q.trans (ph (aX (G L) (fL (aZ (iK (aZ eo) rfl)) (by simp)) rfl))))⟩,C,hn,λp U=>(bE.mp U).elim (λz=>J p (fq z)) λz=>J p (hG z),?_⟩;exact IZ E.2 m
 have q:∀{g:ap},ax (cz (aA cr (ak aR (aa 1) (fC (.l 8))) (fC (.l 6))) (aA d3 (aF bQ (aj (aa 3) ao)) (fC (.l 1)))) g ba (M L)=.R (.n,M L):=λ{g}=>by
  by_cases c:cell % 8=6
  .simp [ax,cz,aA,N,fC,Q (decide_eq_true c),S,Z (decide_eq_false λz=>E ⟨c,z⟩),ba]
  simp [ax,cz,aA,N,fC,Q (decide_eq_false c),ba]
 obtain ⟨f,e⟩:=fin (L.take at'++(.p x,.i (cell / 192 % 9,1))::L.drop at');refine ⟨s,nm,L.take at'++(.p x,.i (cell / 192 % 9,1))::L.drop at',⟨f,B ((aM q).trans ((aM (m':=M (L.take at'++(.p x,.i (cell / 192 % 9,1))::L.drop at')) ((ZW (i:=3) (ds:=L.map bB) (d:=.w [.p x,dG (.i (cell / 192 % 9,1))]) rfl (show au 4 (M L)=.R (.l at') from rfl) (fL (bc (V L) (aZ (fL (bc (d:=.p "end") rfl (aZ (fL (bc (aX (aX (a:=.l cell) (b:=.l 192) rfl rfl (yM (by decide) y)) (b:=.l 9) rfl (wK (by decide))) (aZ (d:=.l 1) rfl)) (by simp)))) (by simp)))) (by simp)) (by rw [aE];lia) (by rw [aE];lia)).trans (by
  have C:(L.take at'++(.p x,.i (cell / 192 % 9,1))::L.drop at').map bB=(L.map bB).take at'++.w [.p x,dG (.i (cell / 192 % 9,1))]::(L.map bB).drop at':=by rw [bP,ar,sQ,sR];rfl
  simp only [M,C];rfl))).trans e))⟩,C,hn,J.M R,?_⟩
 rw [IS];exact I'
end
open L2 (bS hQ er)
def nf:Gm->Bool
 | .i _=>false
 |_=>true
theorem Pp(a:At h g v):v.length<=dp g:=by
 induction a with
 |b=>exact eK _
 |f h1 _ ih=>exact ic (dS ih<|Dl<|dy h1)
 |m h1 _ ih=>exact ic (dS ih<|Dl<|dy h1)
theorem YJ(c:Ch (sb<|bt ws) (sb L'))(o:∀p∈bt ws,Sp n w p.2)(C:(bt ws).length<=w):
  (1<=(bt<|d_ L').length/\(bt<|d_ L').length<=w+1)/\(∀p∈bt (d_ L'),Sp (n+1) (w+1) p.2)/\j_ (d_ L')<=j_ ws/\gr (d_ L')<=gr ws+1:=by
 obtain⟨f,g,h⟩:=c;rw[aE,aE] at f;have d:∀p∈L',(∃q∈bt ws,p.2=q.2)\/∃q,p.2=.i q:=λp a=>by
  rcases g _ (d4.mpr ⟨p,a,rfl⟩) with z|z
  .refine oj (d4.mp z) λq b e=>?_;exact .inl ⟨q,b,e.symm⟩
  exact .inr z
 refine⟨by rw[iW];lia,λp a=>?_,Gz _ λp a=>?_,by rw[Dj,Jl,IQ,IQ];exact h⟩
 .rw[iW] at a;rcases d p a with⟨q,b,e⟩|⟨q,e⟩
  .rw[e];exact(o q b).T (by lia) (by lia)
  rw[e];exact .i q
 rcases d p a with⟨q,b,e⟩|⟨q,e⟩
 .rw[e];exact Dl b
 rw[e];exact eK _
section
variable {ps:List Str}
theorem PV{dl:Bool}(z0:0<Z.length)(U:Bq (Z.length:Int))(eQ:Q [.f G,.f<|.l c,.f pl,.S,.S,.S]=.R (.P Z))(hz:al (.P Z) (.l<|c%(Z.length:Int))=some (.w [way,pc]))(J:al pc (.l 0)=some (.p<|if dl then "deal" else "move"))
  (I:if dl then φd [pc,.l<|c/(Z.length:Int)]=.R (b1,o) else φm [pc,.l<|c/(Z.length:Int),pl]=.R (b1,o)) (C:φp [G,way,o]=.R (b2,r)):aV 6 3 (gD φp φd φm Q) [G,.l c,pl]=.R (false,r):=by
 have d:∀a b,aF bQ (aj (aa 3) ao) [.f G,.f<|.l c,.f pl,.f<|.P Z,a,b]=.R _:=λa b=>iK (aZ rfl) rfl;have e:cr (.l Z.length) (.l 0)=some false:=by show some _=_;rw[decide_eq_false<|by lia]
 have dv:∀a b,ak bV (aa 1) (aF bQ<|aj (aa 3) ao) [.f G,.f<|.l c,.f pl,.f<|.P Z,a,b]=.R (.l<|c/(Z.length:Int)):=λa b=>aX (a:=.l c) rfl (d a b)<|yM (by lia) U;refine xT (m':=Me.V [.f G,.f<|.l c,.f pl,.f<|.P Z,.f way,.f pc]) rfl ?_;show gD φp φd φm Q [.f G,.f<|.l c,.f pl,.S,.S,.S]=_;unfold gD;refine(aM<|m5 eQ).trans ((aM<|Ih (d .S .S) (b:=.l 0) rfl e).trans<|(aM<|Q0 (aX (a:=.P Z) rfl (aX (g:=aR) (a:=.l c) rfl (d .S .S)<|wK<|by lia) hz) rfl).trans ?_);cases dl with
 |true=>exact xG ((zz (aX (a:=pc) (b:=.l 0) rfl rfl J) (b:=.p "deal") rfl<|show cr (.p "deal") (.p "deal")=some true by simp[cr]).trans (ph<|kj (bc rfl<|bc rfl<|aZ<|kj (bc rfl<|aZ<|dv _ _) I) C))
 |false=>exact(aM<|Ih (aX (a:=pc) (b:=.l 0) rfl rfl J) (b:=.p "deal") rfl (by show some (decide _)=_;rw[decide_eq_false<|by decide])).trans (ph<|kj (bc rfl<|bc rfl<|aZ<|kj (bc rfl<|bc (dv _ _)<|aZ rfl) I) C)
theorem Wh(hn:2<=n/\n<=30)(hw:w<=7)(s:Sp n w g)(hd:dp g<=12)(hz:b4 g<=100)(hc:0<=cell)(C:ps.length=8)(nd:ps.Nodup)(I:∀x∈ps,Nm x):
  ∃g',uF [dG g,.l cell,.P<|ps.map .p]=.R (false,dG g')/\Sp (n+1) (w+1) g'/\b4 g'<=b4 g+1/\dp g'<=dp g:=by
 refine ZI ((s.T (n':=40) (w':=20) (by lia)<|by lia).j) λw1 w2 _=>?_;have ep:=vZ w1 w2 (by lia) (by lia);have W:fK [.f<|dG g,.f<|.l cell,.f<|.P<|ps.map .p,.S,.S,.S]=.R (.P<|((P g).filter λp=>nf p.2.1).map λp=>.w [.w<|p.1.map D.l,dG p.2.1]):=by
  have U:=Hm (h:=dO 3<|aL (ad 0)<|aL (ad 1)<|aL (ad 2) dU) (ft:=aA gz (ak al (aa 1)<|fC<|.l 0)<|fC<|.p "end") (fe:=qz) (m0:=[.S,.S,.S]) (f:=c8) (g:=λp=>.w [.w<|p.1.map D.l,dG p.2.1]) (λp=>nf p.2.1) (P g) λp _=>by
   obtain⟨v,k,r⟩:=p;refine⟨[.f<|.w<|v.map D.l,.f<|dG k,.f<|cN r],rfl,?_,rfl⟩;cases k<;>rfl
  have z1:(P g).length<=16777216:=by rw[uH];lia
  have J:((P g).filter λp=>nf p.2.1).length<=16777216:=by have:=kG (λp:Tr=>nf p.2.1)<|P g;lia
  generalize((P g).filter λp=>nf p.2.1)=Z at *;simp[fK,bU,cT,a0,aj,ao,au,hH,ep,U,z1,J]
 have Zl:((P g).filter λp=>nf p.2.1).length<=100:=by have:=kG (λp:Tr=>nf p.2.1)<|P g;rw[uH] at this;lia
 have Zm:∀p∈((P g).filter λp=>nf p.2.1),p∈P g/\nf p.2.1=true:=λp h=>ix.mp h;generalize((P g).filter λp=>nf p.2.1)=Z at *;by_cases z0:Z.length=0
 .refine⟨g,?_,s.T (by lia) (by lia),by lia,bb _⟩;have zn:Z=[]:=List.length_eq_zero_iff.mp z0;subst zn;show aV 6 3 (gD _ _ _ fK) _=_;refine xT (m':=Me.V [.f<|dG g,.f<|.l cell,.f<|.P<|ps.map .p,.f<|.P [],.S,.S]) rfl ?_;show gD _ _ _ fK [.f<|dG g,.f<|.l cell,.f<|.P<|ps.map .p,.S,.S,.S]=_;unfold gD;exact(aM<|m5 W).trans (xG<|(zz (iK (ds:=[.P []]) (d:=.l 0) (aZ rfl) rfl) (b:=.l 0) rfl rfl).trans<|ph (d:=dG g) rfl)
 obtain⟨j,hj,F⟩:∃k:Nat,cell%(Z.length:Int)=k/\k<Z.length:=⟨(cell%(Z.length:Int)).toNat,by rw[ui<|hZ _<|by lia],by have:=hU cell (b:=(Z.length:Int)) (by lia);have:=hZ cell (b:=(Z.length:Int)) (by lia);lia⟩;obtain⟨⟨u,h,r⟩,V⟩:∃p,Z[j]? = some p:=⟨_,ay F⟩;obtain⟨m1,m2⟩:=Zm _<|dy V;refine oj (H_ g [] _ _ m1) λv z a=>?_;have z:u=v:=z;subst z;have a:At h g u:=a;have T:=a.sp s;have Y:0<=cell/(Z.length:Int):=Int.ediv_nonneg hc (by lia);have t:(Z.map λp=>D.w [.w<|p.1.map D.l,dG p.2.1]).length=Z.length:=aE ..;have l:=λ{o r:D} {b1 b2 dl:Bool}=>PV (φp:=jw 20) (φd:=jV) (φm:=jK) (Q:=fK) (G:=dG g) (pl:=.P<|ps.map .p) (way:=.w<|u.map D.l) (pc:=dG h) (o:=o) (r:=r) (b1:=b1) (b2:=b2) (dl:=dl) (c:=cell) (by rw[t];lia) (f7 (by rw[t];lia)) W (by rw[t,hj];exact HN (by rw[aT,V];rfl));rw[t] at l;have X:u.length<20:=by have:=Pp a;lia
 cases h with
 |i q=>cases m2
 |f nm ws=>
  cases T with
  |f s1 s2 s3 s4=>
   refine o5 (UR (nm:=nm) (cell:=cell/(Z.length:Int)) hn ⟨s2.1,by lia⟩ s3 Y) λi B lb ch=>?_;refine ZN (YJ ch s4 s2.2) λL O R E=>?_;have A:dG (.f nm<|d_ i)=rz nm (i.map bB):=by show D.w [.p "deal",.p nm,.w<|f6<|d_ i]=_;rw[Cp];rfl
   have K:dG (.f nm ws)=rz nm ((bt ws).map bB):=by show D.w [.p "deal",.p nm,.w<|f6 ws]=_;rw[vq]
   refine ZB (IJ (n:=n+1) (w:=w+1) (h':=.f nm<|d_ i) (.f s1 L (λp C=>lb p<|by rwa [iW] at C) O) (show dp (.f nm<|d_ i)<=dp (.f nm ws) from ic R) a (s.T (by lia)<|by lia) 20 X) λg' y M p3 S=>?_;refine⟨g',l (dl:=true) rfl (b1:=false) (o:=dG<|.f nm<|d_ i) (by rw[if_pos rfl,K,A];exact B) y,M,?_,S⟩
   have:b4 (.f nm<|d_ i)<=b4 (.f nm ws)+1:=ic E
   lia
 |m si nm ws=>
  cases T with
  |m s0 s1 s2 s3 s4=>
   refine ZY (XV (s:=si) (nm:=nm) (cell:=cell/(Z.length:Int)) ⟨s2.1,by lia⟩ s0 s1 s3 Y C nd I) λm e i B N H lb ch=>?_;refine ZN (YJ ch s4 s2.2) λL O R E=>?_;have A:dG (.m m e<|d_ i)=ll m e (i.map bB):=by show D.w [.p "move",.l m,.p e,.w<|f6<|d_ i]=_;rw[Cp];rfl
   have K:dG (.m si nm ws)=ll si nm ((bt ws).map bB):=by show D.w [.p "move",.l si,.p nm,.w<|f6 ws]=_;rw[vq]
   refine ZB (IJ (n:=n+1) (w:=w+1) (h':=.m m e<|d_ i) (.m N H L (λp C=>lb p<|by rwa [iW] at C) O) (show dp (.m m e<|d_ i)<=dp (.m si nm ws) from ic R) a (s.T (by lia)<|by lia) 20 X) λg' y M p3 S=>?_;refine⟨g',l (dl:=false) rfl (b1:=false) (o:=dG<|.m m e<|d_ i) (by rw[if_neg (by decide),K,A];exact B) y,M,?_,S⟩
   have:b4 (.m m e<|d_ i)<=b4 (.m si nm ws)+1:=ic E
   lia
end
theorem Zy(G:Gd g):KZ g=false:=by
 have v:wR g=false:=qr.mpr λp a=>by
  have:=YG [] g p a
  have d:=G.d;simp at this ⊢
  lia
 have e:∀{s:Int},DM _ s->uQ (tb g) s=false:=λ{s} h=>by
  have t:nR _ s<=8:=h.1;have m:nW (tb g) s<=24:=h.2;unfold uQ;rw[decide_eq_false (by lia),decide_eq_false<|by lia];rfl
 have c:∀{d:Q2},o4 d->ny d=false:=λ{d} h=>by
  have t:=h.1;have m:=h.2;unfold ny;rw[decide_eq_false (by lia),decide_eq_false<|by lia];rfl
 have j:rp g=false:=qr.mpr λp a=>by
  rw[<-Ib [] _ g] at a;refine oj (d4.mp a) λq u zq2=>?_;subst zq2;have b:=(G.f q u).1;show ¬pi _=true;rw[zh];refine qr.mpr λd hd=>?_;rw[zh];generalize q.2.1=k at *;cases k with
  |i x=>rw[cS.mp hd];exact c b
  |f n ws=>
   refine o5 b λl i r _=>?_;have hd:d∈(eU ws).map lq:=hd;rw[i,fg] at hd;refine oj (d4.mp hd) λx f zq2=>?_;subst zq2;exact c (r x f).2.1
  |m s n ws=>cases hd
 unfold KZ;rw[v,e G.t,e G.a,j,decide_eq_false (by have:=G.sz;lia)];rfl
theorem SU(h:lN s n ws r=lN s n ws' r'):eU ws=eU ws'/\qJ r s=qJ r' s:=by
 injection h with h
 injection h with _ h
 injection h with _ h
 injection h with b h
 injection h with a _
 injection b with b
 injection a with a
 exact⟨b,a⟩
def F1(o:Int->Str->D)(F:List Fi):Prop:=∀f∈F,∃a r,f.a=p_ a/\f.r=(qJ r f.s).map sK/\lN f.s f.n a r=o f.s f.n
theorem JH:∀(l:List Tr) (F),(∀p∈l,F3 ρ p/\FL p.2.1)->F1 ρ F->gn l F=none
 |[],_,_,_=>rfl
 |⟨w,k,r⟩::l,F,h,I=>by
  obtain⟨y,t⟩:=h _ ai;have N:=λa b=>JH l a (λq B=>h q<|af _ B) b;rw[gn]
  have:∃a,nv (w,k,r) F=.inr a/\F1 ρ a:=by
   cases k with
   |i d=>exact⟨F,rfl,I⟩
   |f n ws=>
    refine ZB t λl j v _ H=>?_;have K:WR ws=l:=by
     unfold WR;rw[j,fg];refine(ki λx _=>?_).trans (rf l);exact iL x
    have ok:Ly (WR ws)=true:=by
     unfold Ly;rw[K,H,List.all_eq_true.mpr λx g=>decide_eq_true (v x g).2.2];rfl
    exact⟨F,if_pos ok,I⟩
   |m s n ws=>
    obtain⟨c,_⟩:=y s n ws rfl;cases e:wa F s n with
    |none=>
     refine⟨F++[X3 s n ws w r],by simp only[nv,e],λf D=>?_⟩;rcases bE.mp D with z|z
     .exact I f z
     rw[cS.mp z];exact⟨ws,r,rfl,rfl,c⟩
    |some f=>
     refine ZI (Lk e) λu zq1 zq2=>?_;subst zq1;subst zq2;refine Y_ (I f u) λM P G m E=>?_;obtain⟨i,A⟩:=SU<|E.trans c.symm;have L:f.a=p_ ws:=by rw[G];unfold p_;rw[i]
     have O:f.r=(qJ r f.s).map sK:=by rw[m,A]
     exact⟨F,by simp only[nv,e];rw[if_neg λz=>z L,if_neg λz=>z O],I⟩
  refine oj this λa e b=>?_;rw[e];exact N a b
theorem Td(G:Gd g):vG g=.w [.p "table",.P<|tb g]:=by
 obtain⟨c,b⟩:=G.r;unfold vG;rw[Zy G,JH _ [] (λp a=>⟨b p a,(G.f p a).1⟩) λ_ z=>nomatch z];rfl
open L2 (bS hQ er)
theorem Sp.R(s:Sp n w g)(C:n<=40)(o:w<=20)(hd:dp g<=12)(hz:b4 g<=100):Wf g:=
 (by refine ZI ((s.T C o).j) λa b c=>?_;exact ⟨a,b,c,by lia,by lia⟩)
section
variable {ps:List Str}
theorem Ix{cs:Nat->Int}(C:ps.length=8)(J:ps.Nodup)(o:∀x∈ps,Nm x)(I:∀k:Nat,k<=2->dw [ns,.l<|4+(k:Nat)]=.R (false,.l<|cs k)):∀(ks:List Nat) (n w) (g) (s6),(∀k∈ks,k<=2)->2<=n->n+ks.length<=30->w+ks.length<=7->Sp n w g->dp g<=12->b4 g+ks.length<=100->
  ∃g' s',bF (ad 6) LQ (ks.map λ(k:Nat)=>D.l k) [.f ns,.f<|.P<|ps.map .p,.f<|.l c2,.f G0,.f d0,.f<|dG g,s6,.S]=.R (.n,[.f ns,.f<|.P<|ps.map .p,.f<|.l c2,.f G0,.f d0,.f<|dG g',s',.S])/\Sp (n+ks.length) (w+ks.length) g'/\dp g'<=12/\b4 g'<=b4 g+ks.length
 |[],n,w,g,s6,_,_,_,_,s,hd,_=>⟨g,s6,rfl,s,hd,bb _⟩
 |k::ks,n,w,g,s6,h,h2,h3,h4,s,hd,hz=>by
  simp only[cm] at h3 h4 hz ⊢;have c:=h k ai;obtain⟨x,m,a⟩:=My _ (k+70) (by lia);refine ZB (Wh (by lia) (by lia) s hd (by lia) a.1 C J o) λi b p r t=>?_;obtain⟨g',s',d,e,l,q⟩:=Ix C J o I ks _ _ i _ (λj f=>h j<|af _ f) (by lia) (by lia) (by lia) p (by lia) (by lia);refine⟨g',s',?_,by rw[show n+(ks.length+1)=n+1+ks.length by lia,show w+(ks.length+1)=w+1+ks.length by lia];exact e,l,by lia⟩;rw[ar];refine(bC rfl<|m5<|kj (bc rfl<|bc (kj (bc (kj (bc rfl<|aZ<|aX rfl rfl rfl)<|I k c)<|aZ<|aX rfl rfl rfl) m)<|aZ rfl) b).trans ?_;exact d
end
theorem T_(h0:Fc [ns,.l 0]=.R (false,.l c0))(h1:Fc [ns,.l 1]=.R (false,.l c1))(h2:Fc [ns,.l 2]=.R (false,.l c2))(h3:Fc [ns,.l 3]=.R (false,.l c3))
  (hp:Fp [.l c0,.l c1]=.R (true,pl)) (e1:gl (aa 0) (f5<|fC<|.l 8) (f5<|fC<|.l 48) [.f ns,.f pl,.f<|.l c2,.S,.S,.S,.S,.S]=.R (.P s1)) (ga:bD (.P s1) (.P [.l c3])=some (.P<|s1++[.l c3])) (eg:Fg [.P<|s1++[.l c3],.l c2,.l 6,.l 49,pl]=.R (false,G))
  (U:Fd [G]=.R (false,v)) (eL:L [.f ns,.f pl,.f<|.l c2,.f G,.f v,.f G,.S,.S]=.R (.n,[.f ns,.f pl,.f<|.l c2,.f G,.f v,.f G',t,.S])) (C:Fd [G']=.R (false,v')) (ht:Ft [G]=.R (false,v)) (o:Ft [G']=.R (false,v'))
  (q0:al v (.l 0)=some (.p "table")) (q1:cr v v=some true) (J:cr v' v'=some true):∃I,Ud Fc Fp Fg Fd Ft L [.f ns,.S,.S,.S,.S,.S,.S,.S]=.R (.r false<|.B true,I):=by
 unfold Ud;refine rS (λ_ h=>(aM<|m5<|kj (bc (kj (bc rfl<|aZ rfl) h0)<|aZ<|kj (bc rfl<|aZ rfl) h1) hp).trans h) ?_;refine rS (λ_ h=>(aM<|m5<|kj (bc rfl<|aZ rfl) h2).trans h) ?_;have c:∀m:Me,a0 Fc (aj (au 0)<|aj (fC<|.l 3) ao) m=.R (.l c3)->f9 (aj (a0 Fc<|aj (au 0)<|aj (fC<|.l 3) ao) ao) m=.R (.P [.l c3]):=λm h=>by
  simp[f9,aZ h]
 refine rS (λ_ h=>(aM<|m5<|kj (bc (aX e1 (c _<|kj (bc (d:=ns) rfl<|aZ (d:=.l 3) rfl) h3) ga)<|bc (d:=.l c2) rfl<|bc (d:=.l 6) rfl<|bc (d:=.l 49) rfl<|aZ (d:=pl) rfl) eg).trans h) ?_;refine rS (λ_ h=>(aM<|m5<|kj (aZ (d:=G) rfl) U).trans h) ?_;refine rS (λ_ h=>(aM<|m5 (d:=G) rfl).trans h) ?_;refine rS (λ_ h=>(aM eL).trans h) ?_;refine rS (λ_ h=>(aM<|m5<|kj (aZ (d:=G') rfl) C).trans h) ?_;have j:gz v' v'=some false:=by unfold gz;rw[J];rfl
 have l:gz (.p "table") (.p "table")=some false:=by simp[gz,cr]
 have cond:∀(m:Me),m=[.f ns,.f pl,.f<|.l c2,.f G,.f v,.f G',t,.f v']->iI (aA gz (ak al (aa 4)<|fC<|.l 0)<|fC<|.p "table") (aA gz (a0 Ft<|aj (au 5) ao)<|aa 7) m=.R false:=λm h=>by
  subst h;have k:ak al (aa 4) (fC<|.l 0) [.f ns,.f pl,.f<|.l c2,.f G,.f v,.f G',t,.f v']=.R (.p "table"):=aX (a:=v) (b:=.l 0) rfl rfl q0;have n:a0 Ft (aj (au 5) ao) [.f ns,.f pl,.f<|.l c2,.f G,.f v,.f G',t,.f v']=.R v':=kj (aZ (d:=G') rfl) o;have i:aa 7 [.f ns,.f pl,.f<|.l c2,.f G,.f v,.f G',t,.f v']=.R v':=rfl;simp[iI,aA,k,n,i,fC,l,j]
 refine rS (λ_ h=>(aM (m':=[.f ns,.f pl,.f<|.l c2,.f G,.f v,.f G',t,.f v']) (by
  have:=cond _ rfl
  simp[ax,this,ba])).trans h) ?_
 have g:a0 Ft (aj (au 3) ao) (Me.V [.f ns,.f pl,.f<|.l c2,.f G,.f v,.f G',t,.f v'])=.R v:=kj (aZ (d:=G) rfl) ht;have e:a0 Ft (aj (au 5) ao) (Me.V [.f ns,.f pl,.f<|.l c2,.f G,.f v,.f G',t,.f v'])=.R v':=kj (aZ (d:=G') rfl) o;have p:aa 4 (Me.V [.f ns,.f pl,.f<|.l c2,.f G,.f v,.f G',t,.f v'])=.R v:=rfl;have f:aa 7 (Me.V [.f ns,.f pl,.f<|.l c2,.f G,.f v,.f G',t,.f v'])=.R v':=rfl;exact⟨_,ph<|by simp[ZS,dt,qj,g,e,p,f,q1,J]⟩
theorem WJ:∀ns:List Int,ns.length<=63->∃fr,HL [.P<|ns.map D.l]=.R (fr,.B true):=by
 intro ns J;obtain⟨R,G⟩:=hW ns 0 (by lia);obtain⟨B,F⟩:=hW ns 1 (by lia);obtain⟨c,z⟩:=hW ns 2 (by lia);obtain⟨h,Q⟩:=hW ns 3 (by lia);have i:∀k:Nat,∃v,dw [.P<|ns.map D.l,.l<|4+(k:Nat)]=.R (false,.l v):=λk=>by
  obtain⟨v,e⟩:=hW ns (4+k) (by lia);exact⟨v,by rw[<-e];congr⟩
 refine oj (S2 R B) λp S P=>?_;have C:(h7 ns (some 8)<|some 48).length<=63:=by unfold h7;simp only[kq,kr];lia
 have E:rW ⟨h7 ns (some 8) (some 48)++[h],p,c%64,decide<|c/64%2=1⟩:=⟨by simp,by simp;lia,P.a,by show 0<=c%64/\c%64<64;lia,P.R⟩;refine ZO (V_ E (turn:=c) (rm:=49) (dep:=6) (by decide) (by decide) rfl rfl) λg N m u I f l=>?_;rw[show cD ⟨h7 ns (some 8) (some 48)++[h],p,c%64,decide<|c/64%2=1⟩=.P ((h7 ns (some 8)<|some 48).map D.l++[.l h]) by simp[cD]] at u;have f:b4 g<=50:=f;have t:Gd g:=Mc E P.n I (by decide) l (by lia);have sp:Sp 13 3 g:=FV E g [] _ (l.f []) l.s;have hd:dp g<=12:=t.d;have W:Wf g:=sp.R (by lia) (by lia) hd (by lia);obtain⟨r,o,T⟩:∃r:Nat,r<=3/\(r:Int)=1+c/128%3:=⟨(1+c/128%3).toNat,by lia,by lia⟩;refine ZE (Ix (ns:=.P<|ns.map D.l) (G0:=dG g) (d0:=vG g) (c2:=c) (cs:=λk=>ku<|i k) P.a P.n P.R (λk _=>eT<|i k) (dc r) 13 3 g .S (λk y=>by have:=kH.mp y;lia) (by lia) (by rw[nt];lia) (by rw[nt];lia) sp hd (by rw[nt];lia)) λs Y e d j n=>?_;rw[nt] at d n;have q:Wf s:=d.R (by lia) (by lia) j (by lia);obtain⟨V,w⟩:=HC W;obtain⟨Z,M⟩:=HC q;have H:z9 [.f<|.P<|ns.map D.l,.f<|.P<|p.map D.p,.f<|.l c,.f<|dG g,.f<|vG g,.f<|dG g,.S,.S]=.R (.n,[.f<|.P<|ns.map D.l,.f<|.P<|p.map D.p,.f<|.l c,.f<|dG g,.f<|vG g,.f<|dG s,Y,.S]):=by
  have A:(aj (ak bD (fC<|.l 1)<|ak aR (ak bV (aa 2)<|fC<|.l 128)<|fC<|.l 3) ao) [.f<|.P<|ns.map D.l,.f<|.P<|p.map D.p,.f<|.l c,.f<|dG g,.f<|vG g,.f<|dG g,.S,.S]=.R [.l (r:Int)]:=aZ<|aX (a:=.l 1) rfl (aX (aX (a:=.l c) (b:=.l 128) rfl rfl<|yM (by decide)<|f7<|by decide) (b:=.l 3) rfl<|wK<|by decide) (by rw[T];rfl);have X:=V9 A (by lia) (by lia);unfold z9 eY;rw[X];exact e
 have K:bD (.P<|(h7 ns (some 8)<|some 48).map D.l) (.P [.l h])=some (.P<|(h7 ns (some 8)<|some 48).map D.l++[.l h]):=by
  have:(h7 ns (some 8)<|some 48).length+1<=16777216:=by lia
  simp[bD,this]
 obtain⟨O,x⟩:=T_ (Fc:=dw) (Fp:=tU) (Fg:=tY) (Fd:=mU) (Ft:=pX) (L:=z9) G F z Q S (s1:=(h7 ns (some 8)<|some 48).map D.l) (by
  show bd.R (D.P<|h7 (ns.map D.l) (some 8)<|some 48)=_;unfold h7;simp[sQ,sR]) K u (ZX W) H (ZX q) (Vh W) (Vh q) (by rw[Td t];rfl) (Ai V w) (Ai Z M)
 exact⟨false,xT rfl x⟩
end K15
namespace F
open PySem L2 Hd
structure Ci(K:bg)(x:Str)(i:Int):Prop where
 l:∃t,so K dQ x=some (some (.int i t))
theorem ci(a:so K dQ x=some (some<|.int i t)):Ci K x i:=⟨_,a⟩
theorem Cb.d{X:Cx}{E:XK}{o:Pos}(B:Cb X.K X.m X.T)(c:Ci X.K x i)(C:autoParam (Gl X x) YO)(hd:autoParam ((x==("__debug__":Str))=false) YI):FE X E (.Name x o) (fC<|.l i):=by
 obtain⟨t,a⟩:=c.l;exact Vw C (l5 B.X B.N a) (v:=.l i) ⟨t,rfl⟩ (λ_ _=>.l i) hd
end F
namespace K15
open PySem L2 Hd F Pk Lw
noncomputable def rb(s:Stmt)(j:Nat):Stmt:=match s with
 | .ClassDef _ _ _ b ..=>b.getD j<|.Pass ⟨0,0,0,0⟩
 |_=>.Pass ⟨0,0,0,0⟩
local macro_rules | `(tactic| trivial)=>`(tactic| first|exact⟨rfl,rfl,rfl,by decide +kernel,rfl,by decide +kernel,by decide +kernel⟩|exact⟨rfl,by decide +kernel,by decide +kernel,by decide +kernel,by decide +kernel⟩)
noncomputable def eb(i:Nat):Stmt:=PySem.Challenge.pw_hushduel_k15_what_is_not_sound.main.body.getD i<|.Pass ⟨0,0,0,0⟩
theorem IW:cx "ValueError" = some (.type "ValueError"):=by decide +kernel
theorem RI:cx "abs" = some (.builtin "abs"):=by decide +kernel
theorem XH:cx "all" = some (.builtin "all"):=by decide +kernel
theorem Xw:cx "any" = some (.builtin "any"):=by decide +kernel
theorem UJ:cx "bool" = some (.type "bool"):=by decide +kernel
theorem JE:cx "int" = some (.type "int"):=by decide +kernel
theorem bG:cx "isinstance" = some (.builtin "isinstance"):=by decide +kernel
theorem wY:cx "len" = some (.builtin "len"):=by decide +kernel
theorem qK:cx "list" = some (.type "list"):=by decide +kernel
theorem RS:cx "max" = some (.builtin "max"):=by decide +kernel
theorem K6:cx "sum" = some (.builtin "sum"):=by decide +kernel
theorem jb:cx "tuple" = some (.type "tuple"):=by decide +kernel
abbrev rO:Stmt:=rb (eb 8) 0
abbrev qH:Stmt:=rb (eb 6) 0
abbrev tQ:Stmt:=rb (eb 7) 0
abbrev uW:Stmt:=eb 12
abbrev N5:Stmt:=eb 13
abbrev IM:Stmt:=eb 14
abbrev Vr:Stmt:=eb 15
abbrev Vb:Stmt:=eb 16
abbrev ux:Stmt:=eb 18
abbrev xY:Stmt:=eb 19
abbrev zP:Stmt:=eb 27
abbrev uK:Stmt:=eb 28
abbrev oM:Stmt:=eb 29
abbrev OD:Stmt:=eb 30
abbrev Ia:Stmt:=eb 31
abbrev Cz:Stmt:=eb 32
abbrev uI:Stmt:=eb 33
abbrev sJ:Stmt:=eb 34
abbrev HB:Stmt:=eb 35
abbrev jH:Stmt:=eb 36
abbrev pZ:Stmt:=eb 37
abbrev qe:Stmt:=eb 38
abbrev iC:Stmt:=eb 39
abbrev wk:Stmt:=eb 40
abbrev rE:Stmt:=eb 41
abbrev uO:Stmt:=eb 42
abbrev YM:Stmt:=eb 43
abbrev xf:Stmt:=eb 45
abbrev yI:Stmt:=eb 46
abbrev ud:Stmt:=eb 47
abbrev BJ:Stmt:=eb 48
abbrev uC:Stmt:=eb 49
abbrev Hj:Stmt:=eb 50
abbrev rY:Stmt:=eb 51
abbrev Eh:Stmt:=eb 52
abbrev Bx:Stmt:=eb 53
abbrev DX:Stmt:=eb 54
abbrev um:Stmt:=eb 55
abbrev vO:Stmt:=eb 56
abbrev xW:Stmt:=eb 57
abbrev uJ:Stmt:=eb 58
abbrev qm:Stmt:=eb 59
abbrev oW:Stmt:=eb 60
abbrev lA:Stmt:=eb 61
abbrev su:Stmt:=eb 62
abbrev vJ:Stmt:=eb 63
abbrev Ej:Stmt:=eb 64
abbrev wO:Stmt:=eb 65
abbrev Ea:Stmt:=eb 66
abbrev GK:Stmt:=eb 67
abbrev tZ:Stmt:=eb 68
abbrev jO:Stmt:=eb 69
abbrev uc:Stmt:=eb 70
abbrev uG:Stmt:=eb 71
abbrev Jv:Stmt:=eb 72
structure Qs(K:bg):Prop where
 q0:QD K "common_divisor" uW
 q1:QD K "lowest" N5
 q2:QD K "plus" IM
 q3:QD K "under" Vr
 q4:QD K "total" Vb
 q5:QD K "branches_of" ux
 q6:QD K "places_of" xY
 q7:QD K "words_at" zP
 q8:QD K "records_behind" uK
 q9:QD K "places_with_records" oM
 L:QD K "row_at" OD
 T:QD K "table_of" Ia
 C:QD K "rows_of" Cz
 p:QD K "count_words" uI
 U:QD K "fractions_at" sJ
 h:QD K "is_great" HB
 J:QD K "refuse_great_places" jH
 P:QD K "refuse_great_table" pZ
 H:QD K "refuse_great_shape" qe
 E:QD K "refuse_great_fractions" iC
 i:QD K "are_shares" wk
 w:QD K "refuse_other_row" rE
 t:QD K "refuse_unsound" uO
 V:QD K "look" YM
 S:QD K "_law_cell_at" xf
 Y:QD K "_law_lowest" yI
 y:QD K "_law_pool" ud
 v:QD K "_law_stake" BJ
 l:QD K "_law_shares" uC
 X:QD K "_law_mix" Hj
 z:QD K "_law_name_number" rY
 R:QD K "_law_move" Eh
 q:QD K "_law_built" Bx
 F:QD K "_law_game" DX
 O:QD K "_law_places" um
 o:QD K "_law_table" vO
 N:QD K "_law_is_text" xW
 G:QD K "_law_is_record" uJ
 A:QD K "_law_is_table" qm
 k:QD K "_law_fractions" oW
 mt:QD K "_law_too_great" lA
 W:QD K "_law_come_to_one" su
 I:QD K "_law_due" vJ
 j:QD K "_law_ways" Ej
 D:QD K "_law_refusal" wO
 Z:QD K "_law_told" Ea
 f:QD K "_law_put" GK
 Q:QD K "_law_other_deal" tZ
 x:QD K "_law_fresh_word" jO
 m:QD K "_law_other_move" uc
 u:QD K "_law_spoilt" uG
 g:QD K "law" Jv
 n0:NO K "ValueError"
 n1:NO K "abs"
 n2:NO K "all"
 n3:NO K "any"
 n4:NO K "bool"
 n5:NO K "enumerate"
 n6:NO K "int"
 a:NO K "isinstance"
 c:NO K "len"
 b:NO K "list"
 M:NO K "max"
 d:NO K "range"
 r:NO K "reversed"
 B:NO K "str"
 e:NO K "sum"
 n:NO K "tuple"
 c0:Ck K "NOUGHT" 0 1
 s:Ck K "ONE" 1 1
 i0:Ci K "MOST_PLACES" 64
 i1:Ci K "MOST_BRANCHES" 12
 i2:Ci K "MOST_NAMES" 8
 i3:Ci K "MOST_WORDS_SEEN" 24
 i4:Ci K "GREATEST_TOP" 999999999999
 i5:Ci K "GREATEST_BOTTOM" 999
structure J1(K:bg)(mg:eR):Prop where
 T:∃C,mg "TooGreat" = some (.ref C)/\DF K C [.type "ValueError",.type "Exception",.type "BaseException",.type "object"] "ValueError.__new__" = true
structure JJ(K:bg)(mg:eR):Prop where
 a:∃C,mg "DuelError" = some (.ref C)/\∀c D,eN c=true->mg c=some (.ref D)->vS K (.ref D) (.ref C)=some true
 h:t6 K mg "Forgets" qg
 j:t6 K mg "NoPlace" pU
 l:t6 K mg "NoPlan" sO
 g:t6 K mg "NoShares" nO
 k:t6 K mg "NoText" rH
 e:t6 K mg "TooGreat" nT
 m:t6 K mg "Unlike" rT
 i:mg "ValueError" = none/\∀c D b,jY c=some b->mg c=some (.ref D)->XC K D/\h9 K (.ref D) (.type "ValueError")=some b
 d:∀c C,qO c=true->mg c=some (.ref C)->XF K C/\d5 K (.ref C) "one" = some none
 f:∀c C,lE c=true->mg c=some (.ref C)->XF K C/\d5 K (.ref C) "other" = some none
 n:∀c C,yj c=true->mg c=some (.ref C)->XF K C/\d5 K (.ref C) "way" = some none
structure JI(P:b9)(w:eI)(K:bg)(mg:eR)(base:Heap):Prop where
 a:D7 P w K mg base 1 "Forgets" ["one", "other"]
 x:D7 P w K mg base 1 "NoShares" ["way"]
 b:D7 P w K mg base 1 "Unlike" ["one", "other"]
structure Bt(P:b9)(w:eI)(K:bg)(mg:eR)(base:Heap):Prop where
 c:Cb K mg base
 q:Qs K
 e:J1 K mg
 x:JJ K mg
 f:JI P w K mg base
theorem zO:aN ["self", "one", "other"] ["self", "one", "other"] (az rO):=by trivial
theorem yx:aN ["self", "way"] ["self", "way"] (az qH):=by trivial
theorem Aq:aN ["self", "one", "other"] ["self", "one", "other"] (az tQ):=by trivial
theorem Dk:aN ["first", "second", "great", "small", "rest"] ["first", "second"] (az uW):=by trivial
theorem XX:aN ["top", "bottom", "divisor"] ["top", "bottom"] (az N5):=by trivial
theorem PR:aN ["first", "second"] ["first", "second"] (az IM):=by trivial
theorem U_:aN ["first", "second"] ["first", "second"] (az Vr):=by trivial
theorem WB:aN ["some", "result", "each"] ["some"] (az Vb):=by trivial
theorem yP:aN ["game"] ["game"] (az ux):=by trivial
theorem tD:aN ["game", "places", "waiting", "place", "behind"] ["game"] (az xY):=by trivial
theorem GF:aN ["move"] ["move"] (az zP):=by trivial
theorem CZ:aN ["place", "records", "number", "pair"] ["place", "records", "number"] (az uK):=by trivial
theorem cJ:aN ["game", "known", "found", "way", "place", "number"] ["game"] (az oM):=by trivial
theorem Yh:aN ["move", "records"] ["move", "records"] (az OD):=by trivial
theorem zx:aN ["game", "rows", "way", "place", "records"] ["game"] (az Ia):=by trivial
theorem J0:aN ["game", "side"] ["game", "side"] (az Cz):=by trivial
theorem yV:aN ["rows"] ["rows"] (az uI):=by trivial
theorem xm:aN ["place"] ["place"] (az sJ):=by trivial
theorem HH:aN ["fraction"] ["fraction"] (az HB):=by trivial
theorem oU:aN ["game", "places"] ["game"] (az jH):=by trivial
theorem jX:aN ["game", "side", "rows"] ["game"] (az pZ):=by trivial
theorem qi:aN ["game"] ["game"] (az qe):=by trivial
theorem lJ:aN ["game", "way", "place"] ["game"] (az iC):=by trivial
theorem Ax:aN ["shares"] ["shares"] (az wk):=by trivial
theorem rJ:aN ["way", "row", "first_way", "first_row"] ["way", "row", "first_way", "first_row"] (az rE):=by trivial
theorem lB:aN ["game", "firsts", "way", "place", "records", "row", "first"] ["game"] (az uO):=by trivial
theorem Y4:aN ["game"] ["game"] (az YM):=by trivial
theorem Hy:aN ["_law_script", "_law_k"] ["_law_script", "_law_k"] (az xf):=by trivial
theorem uh:aN ["_law_top", "_law_bottom", "_law_one", "_law_other"] ["_law_top", "_law_bottom"] (az yI):=by trivial
theorem pQ:aN ["_law_cell", "_law_turn", "_law_signs", "_law_size", "_law_places_here", "_law_k", "_law_word", "_law_at", "_law_found", "_law_sign"] ["_law_cell", "_law_turn"] (az ud):=by trivial
theorem Ks:aN ["_law_number"] ["_law_number"] (az BJ):=by trivial
theorem yG:aN ["_law_number", "_law_many", "_law_parts", "_law_k"] ["_law_number", "_law_many"] (az uC):=by trivial
theorem RB:aN ["_law_cell", "_law_k"] ["_law_cell", "_law_k"] (az Hj):=by trivial
theorem sH:aN ["_law_state", "_law_side", "_law_record", "_law_many", "_law_bit", "_law_key", "%1", "%2"] ["_law_state", "_law_side", "_law_record", "_law_many", "_law_bit"] (az rY):=by trivial
theorem qb:aN ["_law_cells", "_law_state", "_law_depth", "_law_records", "_law_draw", "_law_side", "_law_many", "_law_number", "_law_pool_here", "_law_seen", "_law_ways_here", "_law_k", "_law_word", "_law_others", "%1", "%2"] ["_law_cells", "_law_state", "_law_depth", "_law_records", "_law_draw"] (az Eh):=by trivial
theorem v5:aN ["_law_cells", "_law_state", "_law_depth", "_law_records", "_law_at", "_law_own", "_law_draw", "_law_many", "_law_ways_here", "_law_share", "%1", "%2"] ["_law_cells", "_law_state", "_law_depth", "_law_records"] (az Bx):=by trivial
theorem xJ:aN ["_law_cells", "_law_turn", "_law_depth", "_law_room", "_law_pool_here", "_law_state", "%1", "%2"] ["_law_cells", "_law_turn", "_law_depth", "_law_room", "_law_pool_here"] (az DX):=by trivial
theorem lU:aN ["_law_game_here", "_law_found", "_law_waiting", "_law_way", "_law_place", "_law_records", "_law_parts", "_law_word", "_law_part", "_law_others", "_law_k"] ["_law_game_here"] (az um):=by trivial
theorem qX:aN ["_law_game_here", "_law_rows", "_law_known", "_law_way", "_law_place", "_law_records", "_law_words"] ["_law_game_here"] (az vO):=by trivial
theorem GZ:aN ["_law_found"] ["_law_found"] (az xW):=by trivial
theorem o6:aN ["_law_found", "_law_pair"] ["_law_found"] (az uJ):=by trivial
theorem qC:aN ["_law_found", "_law_row"] ["_law_found"] (az qm):=by trivial
theorem uN:aN ["_law_place"] ["_law_place"] (az oW):=by trivial
theorem lD:aN ["_law_game_here", "_law_places_here", "_law_way", "_law_place", "_law_records", "_law_top", "_law_bottom", "_law_rows", "_law_side", "_law_many"] ["_law_game_here"] (az lA):=by trivial
theorem zW:aN ["_law_shares_here", "_law_top", "_law_bottom", "_law_one", "_law_other"] ["_law_shares_here"] (az su):=by trivial
theorem rA:aN ["_law_game_here", "_law_firsts", "_law_way", "_law_place", "_law_records", "_law_words", "_law_mine", "_law_first"] ["_law_game_here"] (az vJ):=by trivial
theorem wU:aN ["_law_some", "_law_way", "_law_k"] ["_law_some"] (az Ej):=by trivial
theorem xM:aN ["_law_e", "_law_kinds"] ["_law_e"] (az wO):=by trivial
theorem nq:aN ["_law_game_here", "_law_found", "_law_kind", "_law_e"] ["_law_game_here"] (az Ea):=by trivial
theorem zr:aN ["_law_game_here", "_law_way", "_law_part", "_law_ways_here", "_law_label", "_law_inner"] ["_law_game_here", "_law_way", "_law_part"] (az GK):=by trivial
theorem cH:aN ["_law_place", "_law_cell", "_law_ways_here", "_law_at", "_law_share", "_law_part", "_law_last", "_law_more"] ["_law_place", "_law_cell"] (az tZ):=by trivial
theorem jU:aN ["_law_place", "_law_cell", "_law_pool_here", "_law_words", "_law_some"] ["_law_place", "_law_cell", "_law_pool_here"] (az jO):=by trivial
theorem nY:aN ["_law_place", "_law_cell", "_law_pool_here", "_law_ways_here", "_law_at"] ["_law_place", "_law_cell", "_law_pool_here"] (az uc):=by trivial
theorem uw:aN ["_law_game_here", "_law_cell", "_law_pool_here", "_law_some", "_law_way", "_law_place"] ["_law_game_here", "_law_cell", "_law_pool_here"] (az uG):=by trivial
theorem Zx:aN ["_law_script", "_law_pool_here", "_law_turn", "_law_game_here", "_law_first", "_law_other", "_law_k", "_law_due_here"] ["_law_script"] (az Jv):=by trivial
theorem bw:gc X (ko .Pow) (rG (gx X) GE):=by
  intro b s g H x y v u Q I f k h;refine ZH h λO d e r m c n a q=>?_
  match d,e,a with
  | .l i,.l j,a=>
   obtain⟨z,rfl⟩:=nw a;exact PL b s g H x y v u Q I f k ⟨i,j,bM c,bM n,z,q _ _ (aD.s _)<|.l _⟩
theorem bL:gc X (iq .NotIn) (qf (gx X) Ww):=by
  intro f s l H x y v u Q I j n h;refine ZH h λO d e r m g t z q=>?_;refine oj (fx z) λc a zq2=>?_;subst zq2;unfold qo at a;split at a
  .cases a;exact Kr f s l H x y v u Q I j n ⟨_,_,jG g,jG t,q⟩
  .refine Y_ (iV t) λp b zq2 k hd=>?_;subst zq2;exact Ak f s l H x _ v u Q I j n<|M5 (neg:=true) g ⟨p,b,rfl,.inl k,hd⟩ a q
  .refine Y_ (zu t) λp b zq2 k hd=>?_;subst zq2;exact Ak f s l H x _ v u Q I j n<|M5 (neg:=true) g ⟨p,b,rfl,.inr k,hd⟩ a q
  cases a
section
variable {P:b9}{w:eI}{K:bg}{mg:eR}{base:Heap}(B:Bt P w K mg base)
include B
theorem Am:FF P w K mg base 1 "common_divisor" ["first", "second"] lg:=B.2.q0.Y B.1 Dk λ_ _ _ _ _ _ _ a b=>by
 unfold oX o7 mQ jh jq;exact aq (Dz b<|dZ V2 rfl (B.1.n B.2.n1) RI<|cB (aC 0) cI)<|aq (Dz b<|dZ V2 rfl (B.1.n B.2.n1) RI<|cB (aC 1) cI)<|aq (Ao PassesOwn.leaving (iZ (RW a.u) (aC 3) (aO aJ)<|cF _)<|aq (Dz b<|bW dM (aC 2)<|aC 3)<|aq (Dz b<|bu 3)<|aH<|Dz b<|bu 4)<|aH<|cP<|bu 2
theorem V6:FF P w K mg base 2 "lowest" ["top", "bottom"] vz:=B.2.q1.Y B.1 XX λ_ _ _ _ _ _ _ a b=>by
 unfold An BL;exact aq (Dz b<|uL (Am B) a fY<|aG (bu 0)<|aG (bu 1) aQ)<|aq (dm (iZ (Zf a.u) (aC 1) (aO aJ)<|cF _) (aH<|Dz b<|HK SN<|aC 2) aY)<|aH<|cP<|gk<|aG (bW my (aC 0)<|aC 2)<|aG (bW my (aC 1)<|aC 2) aQ
theorem Wk:FF P w K mg base 3 "plus" ["first", "second"] Mh:=B.2.q2.Y B.1 PR λ_ _ _ _ _ _ _ a b=>by
 unfold Rw QK;exact aH<|cP<|uL (V6 B) a fY<|aG (bW iu (aO<|bW Bc (aO<|iT (aC 0)<|aO aJ)<|aO<|iT (aC 1)<|aO aJ)<|aO<|bW Bc (aO<|iT (aC 1)<|aO aJ)<|aO<|iT (aC 0)<|aO aJ)<|aG (bW Bc (aO<|iT (aC 0)<|aO aJ)<|aO<|iT (aC 1)<|aO aJ) aQ
theorem Xy:FF P w K mg base 1 "under" ["first", "second"] FP:=B.2.q3.Y B.1 U_ λ_ _ _ _ _ _ _ a b=>by
 unfold Le LK;exact aH<|cP<|vL (Zf a.u) (aO<|bW Bc (aO<|iT (aC 0)<|aO aJ)<|aO<|iT (aC 1)<|aO aJ) (aO<|bW Bc (aO<|iT (aC 1)<|aO aJ)<|aO<|iT (aC 0)<|aO aJ)<|cF _
theorem Z8:FF P w K mg base 4 "total" ["some"] Gk:=B.2.q4.Y B.1 WB λ_ _ _ _ _ _ _ a b=>by
 unfold Kq Kz Dm yf;exact aq (Dz b<|B.1.cn B.2.c0)<|aq (ou (Fv<|bu 0) (je b)<|aH<|Dz b<|uL (Wk B) a fY<|aG (bu 1)<|aG (bu 2) aQ)<|aH<|cP<|bu 1
theorem xr:FF P w K mg base 1 "branches_of" ["game"] lL:=B.2.q5.d B.1 λ_ _ a=>
 bJ a yP λ_ _ _ _ _ _ b=>by
 exact aq (dm (iZ (sI b.u) (aO<|iT (aC 0)<|aO aJ) (aO dI)<|cF _) (aH<|qM<|Dg aQ) aY)<|aH<|qM<|ie (az ux) ["lead","branch"] [] 2 [] rfl (by trivial) .nil (Yu<|ZJ<|iT (aC 0)<|aO<|HK SN<|aO aJ) (λ_ _ _ _ _ _=>Ro rfl<|xX (je<|o0 rfl)<|xX (je<|o0 rfl) Lf) (λ_ _ _ _ _ _=>cW) λ_ _ _ _ _ _=>bu 1
theorem wz:FF P w K mg base 2 "places_of" ["game"] kh:=B.2.q6.d B.1 λ_ _ a=>
 bJ a tD λ_ _ _ _ _ _ b=>by
 unfold El tH yN lM lO lW pL;exact aq (DG tD.n<|Dg aQ)<|aq (DG tD.n<|Dg<|aG (gk<|aG (gk aQ)<|aG (bu 0) aQ) aQ)<|aq (Ao PassesOwn.leaving (iZ qt (aO<|dZ m7 rfl (B.1.n B.2.c) wY<|cB (aC 2) cI) (aO aJ)<|cF _)<|aq (W8 3 2 tD.n rfl<|Or.inr rfl)<|aq (Dw 1<|bu 3)<|aq (rQ (i:=4) (az xY) ["number","branch","place"] ["place"] 2 [3] tD.n rfl (Or.inl rfl) rfl (by trivial) (.cons rfl .nil) (XD rfl (B.1.n B.2.n5)<|cB (aO<|uL (xr B) b fY<|aG (iT (aC 3)<|aO aJ) aQ) cI) (λ_ _ _ _ _ _=>Ro rfl<|xX (je<|o0 rfl)<|xX (je<|o0 rfl) Lf) (λ_ _ _ _ _ _=>cW) λ_ _ _ _ _ _=>gk<|aG (bW iu (aO<|iT (aC 2)<|aO aJ)<|aO<|gk<|aG (bu 0) aQ)<|aG (bu 1) aQ)<|aH<|Xr 2<|Ty rfl rfl (B.1.n B.2.b) rfl (B.1.n B.2.r)<|cB (aC 4) cI)<|aH<|xZ 1
theorem O6:FF P w K mg base 1 "words_at" ["move"] vQ:=B.2.q7.d B.1 λ_ _ a=>
 bJ a GF λ_ _ _ _ _ _ b=>by
 exact aH<|cP<|yt jd rfl (B.1.n B.2.n) jb<|cB (aO<|j0<|ie (az zP) ["word","branch"] [] 2 [] rfl (by trivial) .nil (Yu<|ZJ<|iT (aC 0)<|aO aJ) (λ_ _ _ _ _ _=>Ro rfl<|xX (je<|o0 rfl)<|xX (je<|o0 rfl) Lf) (λ_ _ _ _ _ _=>cW) λ_ _ _ _ _ _=>bu 0) cI
theorem Ag:FF P w K mg base 1 "records_behind" ["place", "records", "number"] gG:=B.2.q8.Y B.1 CZ λ_ _ _ _ _ _ _ a b=>by
 unfold iY iQ;exact aq (dm (iZ (RW a.u) (aO<|iT (aC 0)<|aO aJ) (aO dI)<|cF _) (aH<|cP<|bu 1) aY)<|aq (Dz b<|gk<|aG (iT (aC 0)<|aO aJ)<|aG (iT (aO<|iT (aO<|iT (aC 0)<|aO aJ)<|aC 2)<|aO aJ) aQ)<|aq (dm (iZ (sI a.u) (aO<|iT (aC 0)<|aO aJ) (aO aJ)<|cF _) (aH<|cP<|gk<|aG (bW iu (aO<|iT (aC 1)<|aO aJ)<|aO<|gk<|aG (bu 3) aQ)<|aG (iT (aC 1)<|aO aJ) aQ) aY)<|aH<|cP<|gk<|aG (iT (aC 1)<|aO aJ)<|aG (bW iu (aO<|iT (aC 1)<|aO aJ)<|aO<|gk<|aG (bu 3) aQ) aQ
theorem nC:FF P w K mg base 3 "places_with_records" ["game"] cL:=B.2.q9.d B.1 λ_ _ b=>
 bJ b cJ λ_ _ _ _ _ _ a=>by
 refine Wr.X ?_;exact(d8 (NZ cJ.n rfl (eB rfl)<|Wr.mk<|XW a (gk aQ)<|gk<|aG (gk aQ)<|aG (gk aQ) aQ)<|d8 (NZ cJ.n rfl (eB rfl)<|NE<|Wr.mk aQ)<|d8 (Wr.mk<|ou (Fv<|uL (wz B) a fY<|aG (bu 0) aQ) (Ro rfl<|xX (je cJ.n)<|xX (je cJ.n) Lf)<|Wr.X<|d8 (M_ 2<|nJ<|dN (Wr.mk<|bu 3)<|dN (Wr.mk<|bu 4)<|dN (Wr.mk<|Ff a (aC 1) (aC 3) λ_ _=>rfl)<|Wr.mk aQ)<|pP<|Wr.mk<|ou (Kc rfl (B.1.n B.2.d)<|cB (aO<|dZ m7 rfl (B.1.n B.2.c) wY<|cB (aO<|uL (xr B) a fY<|aG (bu 4) aQ) cI) cI) (je cJ.n)<|Wr.X<|pP<|Wr.mk<|UT 1 a (uL (Ag B) a fY<|aG (bu 4)<|aG (Ff a (aC 1) (aC 3) λ_ _=>rfl)<|aG (bu 5) aQ)<|bW iu (aC 3)<|aO<|gk<|aG (bu 5) aQ)<|pP<|Wr.mk<|xZ 2)
theorem JD:FF P w K mg base 2 "row_at" ["move", "records"] uT:=B.2.L.Y B.1 Yh λ_ _ _ _ _ _ _ a b=>by
 unfold BV Bb;exact aH<|cP<|gk<|aG (iT (aC 0)<|aO aJ)<|aG (iT (aC 0)<|aO aJ)<|aG (uL (O6 B) a fY<|aG (bu 0) aQ)<|aG (iT (aC 1)<|aO<|bW BK (aO<|iT (aC 0)<|aO aJ)<|aO aJ) aQ
theorem Ed:FF P w K mg base 4 "table_of" ["game"] vW:=B.2.T.d B.1 λ_ _ a=>
 bJ a zx λ_ _ _ _ _ _ b=>by
 exact aq (DG zx.n ym)<|aq (ou (Fv<|uL (nC B) b fY<|aG (bu 0) aQ) (Ro rfl<|xX (je zx.n)<|xX (je zx.n)<|xX (je zx.n) Lf)<|aH<|dm (iZ (sI b.u) (aO<|iT (aC 3)<|aO aJ) (aO dI)<|cF _) (aH<|QY 1 b (gk<|aG (iT (aC 3)<|aO aJ)<|aG (iT (aC 3)<|aO aJ) aQ) (uL (JD B) b fY<|aG (bu 3)<|aG (bu 4) aQ) ⟨rfl,rfl,rfl,rfl⟩) aY)<|aH<|qM<|WI rfl rfl (B.1.n B.2.b)<|aC 1
theorem QF:FF P w K mg base 5 "rows_of" ["game", "side"] yo:=B.2.C.d B.1 λ_ _ a=>
 bJ a J0 λ_ _ _ _ _ _ b=>by
 unfold Dr De tW;exact aH<|qM<|ie (az Cz) ["row","side"] ["side"] 1 [1] rfl (by trivial) (.cons rfl .nil) (oJ<|aO<|uL (Ed B) b fY<|aG (bu 0) aQ) (λ_ _ _ _ _ _=>je<|o0 rfl) (λ_ _ _ _ _ _=>Bl<|iZ (sI b.u) (aO<|iT (aC 0)<|aO aJ) (aC 1)<|cF _) λ_ _ _ _ _ _=>bu 0
theorem Gv:FF P w K mg base 1 "count_words" ["rows"] pK:=B.2.p.d B.1 λ_ _ a=>
 bJ a yV λ_ _ _ _ _ _ b=>by
 unfold uo uB lZ mq;exact aH<|cP<|dZ (JG rfl) rfl (B.1.n B.2.e) K6<|cB (aO<|j0<|ie (az uI) ["row"] [] 1 [] rfl (by trivial) .nil (oJ<|aC 0) (λ_ _ _ _ _ _=>je<|o0 rfl) (λ_ _ _ _ _ _=>cW) λ_ _ _ _ _ _=>dZ m7 rfl (B.1.n B.2.c) wY<|cB (aO<|iT (aC 0)<|aO aJ) cI) cI
theorem wD:FF P w K mg base 1 "fractions_at" ["place"] du:=B.2.U.d B.1 λ_ _ a=>
 bJ a xm λ_ _ _ _ _ _ b=>by
 exact aq (dm (iZ (sI b.u) (aO<|iT (aC 0)<|aO aJ) (aO dI)<|cF _) (aH<|qM<|Dg<|aG (iT (aC 0)<|aO aJ) aQ) aY)<|aq (dm (iZ (sI b.u) (aO<|iT (aC 0)<|aO aJ) (aO dI)<|cF _) (aH<|qM<|ie (az sJ) ["share","branch"] [] 2 [] rfl (by trivial) .nil (Yu<|ZJ<|iT (aC 0)<|aO aJ) (λ_ _ _ _ _ _=>Ro rfl<|xX (je<|o0 rfl)<|xX (je<|o0 rfl) Lf) (λ_ _ _ _ _ _=>cW) λ_ _ _ _ _ _=>bu 0) aY)<|aH<|qM<|Dg aQ
theorem Ol:FF P w K mg base 1 "is_great" ["fraction"] sG:=B.2.h.d B.1 λ_ _ a=>
 bJ a HH λ_ _ _ _ _ _ b=>by
 exact aH<|cP<|NG (vL qt (aO<|dZ V2 rfl (B.1.n B.2.n1) RI<|cB (aO<|iT (aC 0)<|aO aJ) cI) (aO<|B.1.d B.2.i4)<|cF _)<|Q3<|vL qt (aO<|iT (aC 0)<|aO aJ) (aO<|B.1.d B.2.i5)<|cF _
theorem vD:FF P w K mg base 3 "refuse_great_places" ["game"] cM:=B.2.J.d B.1 λ_ _ b=>
 bJ b oU λ_ _ _ _ _ _ a=>by
 exact aq (Dz oU.n<|uL (wz B) a fY<|aG (bu 0) aQ)<|aq (dm (iZ qt (aO<|dZ m7 rfl (B.1.n B.2.c) wY<|cB (aC 1) cI) (aO<|B.1.d B.2.i0)<|cF _) (aH<|uP B.3.T rfl a.g (Oi dI) λ_ _ _ _ _ _ _ _ I mk q=>w5 I mk q) aY)<|aH<|dm (gj<|dZ (JB rfl) rfl (B.1.n B.2.n3) Xw<|cB (aO<|j0<|ie (az jH) ["way","place"] [] 2 [] rfl (by trivial) .nil (oJ<|aC 1) (λ_ _ _ _ _ _=>Ro rfl<|xX (je<|o0 rfl)<|xX (je<|o0 rfl) Lf) (λ_ _ _ _ _ _=>cW) λ_ _ _ _ _ _=>vL qt (aO<|dZ m7 rfl (B.1.n B.2.c) wY<|cB (aC 0) cI) (aO<|B.1.d B.2.i1)<|cF _) cI) (aH<|uP B.3.T rfl a.g (Oi dI) λ_ _ _ _ _ _ _ _ I mk q=>w5 I mk q) aY
theorem wM:FF P w K mg base 6 "refuse_great_table" ["game"] cZ:=B.2.P.d B.1 λ_ _ b=>
 bJ b jX λ_ _ _ _ _ _ a=>by
 unfold fD fj gf bO;exact aH<|ou (ZJ<|gk<|aG aJ<|aG aJ aQ) (je jX.n)<|aq (Dz jX.n<|uL (QF B) a fY<|aG (bu 0)<|aG (bu 1) aQ)<|aq (dm (iZ qt (aO<|dZ m7 rfl (B.1.n B.2.c) wY<|cB (aC 2) cI) (aO<|B.1.d B.2.i2)<|cF _) (aH<|uP B.3.T rfl a.g (Oi dI) λ_ _ _ _ _ _ _ _ I mk q=>w5 I mk q) aY)<|aH<|dm (iZ qt (aO<|uL (Gv B) a fY<|aG (bu 2) aQ) (aO<|B.1.d B.2.i3)<|cF _) (aH<|uP B.3.T rfl a.g (Oi dI) λ_ _ _ _ _ _ _ _ I mk q=>w5 I mk q) aY
theorem wN:FF P w K mg base 7 "refuse_great_shape" ["game"] iy:=B.2.H.d B.1 λ_ _ a=>
 bJ a qi λ_ _ _ _ _ _ b=>by
 unfold kJ j9;exact aq (yl<|uL (vD B) b fY<|aG (bu 0) aQ)<|aH<|yl<|uL (wM B) b fY<|aG (bu 0) aQ
theorem sV:FF P w K mg base 3 "refuse_great_fractions" ["game"] eF:=B.2.E.d B.1 λ_ _ a=>
 bJ a lJ λ_ _ _ _ _ _ b=>by
 unfold iB iD dq cu dF dB;exact aH<|ou (Fv<|uL (wz B) b fY<|aG (bu 0) aQ) (Ro rfl<|xX (je lJ.n)<|xX (je lJ.n) Lf)<|aH<|dm (gj<|dZ (JB rfl) rfl (B.1.n B.2.n3) Xw<|cB (aO<|j0<|ie (az iC) ["fraction"] [] 1 [] rfl (by trivial) .nil (oJ<|aO<|uL (wD B) b fY<|aG (bu 2) aQ) (λ_ _ _ _ _ _=>je<|o0 rfl) (λ_ _ _ _ _ _=>cW) λ_ _ _ _ _ _=>uL (Ol B) b Vg<|aG (bu 0) aQ) cI) (aH<|uP B.3.T rfl b.g (Oi dI) λ_ _ _ _ _ _ _ _ I mk q=>w5 I mk q) aY
theorem Jb:FF P w K mg base 5 "are_shares" ["shares"] qT:=B.2.i.d B.1 λ_ _ a=>
 bJ a Ax λ_ _ _ _ _ _ b=>by
 unfold vK vX oh nZ;exact aH<|cP<|Zt (dZ (JQ rfl) rfl (B.1.n B.2.n2) XH<|cB (aO<|j0<|ie (az wk) ["share"] [] 1 [] rfl (by trivial) .nil (oJ<|aC 0) (λ_ _ _ _ _ _=>je<|o0 rfl) (λ_ _ _ _ _ _=>cW) λ_ _ _ _ _ _=>uL (Xy B) b Vg<|aG (B.1.cn B.2.c0)<|aG (bu 0) aQ) cI)<|Q3<|vL (sI b.u) (aO<|uL (Z8 B) b fY<|aG (bu 0) aQ) (aO<|B.1.cn B.2.s)<|cF _
theorem yz:FF P w K mg base 3 "refuse_other_row" ["way", "row", "first_way", "first_row"] cg:=B.2.w.d B.1 λ_ _ b=>
 bJ b rJ λ_ _ _ _ _ _ a=>by
 exact aq (dm (iZ (RW a.u) (aO<|iT (aC 1)<|aO aJ) (aO<|iT (aC 3)<|aO aJ)<|cF _) (aH<|Dv B.5.b a Cj<|aG (bu 2)<|aG (bu 0) aQ) aY)<|aH<|dm (iZ (RW a.u) (aO<|iT (aC 1)<|aO aJ) (aO<|iT (aC 3)<|aO aJ)<|cF _) (aH<|Dv B.5.a a Cj<|aG (bu 2)<|aG (bu 0) aQ) aY
theorem Bp:FF P w K mg base 6 "refuse_unsound" ["game"] iM:=B.2.t.d B.1 λ_ _ b=>
 bJ b lB λ_ _ _ _ _ _ a=>by
 unfold lr kZ jk bI;exact aq (DG lB.n ym)<|aH<|ou (Fv<|uL (nC B) a fY<|aG (bu 0) aQ) (Ro rfl<|xX (je lB.n)<|xX (je lB.n)<|xX (je lB.n) Lf)<|aq (dm (wu<|vN (iZ (sI a.u) (aO<|iT (aC 3)<|aO aJ) (aO dI)<|cF _)<|qN<|qu<|gj<|uL (Jb B) a fY<|aG (uL (wD B) a fY<|aG (bu 3) aQ) aQ) (aH<|Dv B.5.x a Cj<|aG (bu 2) aQ) aY)<|aH<|dm (iZ (sI a.u) (aO<|iT (aC 3)<|aO aJ) (aO dI)<|cF _) (aq (Dz lB.n<|uL (JD B) a fY<|aG (bu 3)<|aG (bu 4) aQ)<|aq (Ma (i:=6) lB.n rfl (Or.inl rfl)<|I_ 1 a (gk<|aG (iT (aC 3)<|aO aJ)<|aG (iT (aC 3)<|aO aJ) aQ) (gk<|aG (bu 2)<|aG (bu 5) aQ) ⟨rfl,rfl,rfl,rfl⟩)<|aH<|yl<|uL (yz B) a fY<|aG (bu 2)<|aG (bu 5)<|aG (iT (aC 6)<|aO aJ)<|aG (iT (aC 6)<|aO aJ) aQ) aY
theorem UQ:FF P w K mg base 8 "look" ["game"] Km:=B.2.V.d B.1 λ_ _ a=>
 bJ a Y4 λ_ _ _ _ _ _ b=>by
 exact aq (yl<|uL (wN B) b fY<|aG (bu 0) aQ)<|aq (yl<|uL (sV B) b fY<|aG (bu 0) aQ)<|aq (yl<|uL (Bp B) b fY<|aG (bu 0) aQ)<|aH<|qM<|OC (Ed B) b fY<|aG (bu 0) aQ
theorem Ew:FF P w K mg base 1 "_law_cell_at" ["_law_script", "_law_k"] dw:=B.2.S.Y B.1 Hy λ_ _ _ _ _ _ _ a b=>by
 unfold nA nu;exact aq (dm (iZ (Zf a.u) (aC 1) (aO<|dZ m7 rfl (B.1.n B.2.c) wY<|cB (aC 0) cI)<|cF _) (aH<|cP<|iT (aC 0)<|aC 1) aY)<|aH<|cP aJ
theorem jW:FF P w K mg base 1 "_law_lowest" ["_law_top", "_law_bottom"] cO:=B.2.Y.d B.1 λ_ _ a=>
 bJ a uh λ_ _ _ _ _ _ b=>by
 unfold uz uv ql mL lX;exact aq (Dz uh.n<|dZ V2 rfl (B.1.n B.2.n1) RI<|cB (aC 0) cI)<|aq (Dz uh.n<|bu 1)<|aq (Ao PassesOwn.leaving (iZ (RW b.u) (aC 3) (aO aJ)<|cF _)<|aH<|PM (i:=2) (j:=3) rfl uh.n rfl rfl (by decide) rfl rfl<|aG (bu 3)<|aG (bW dM (aC 2)<|aC 3) aQ)<|aH<|cP<|gk<|aG (bW my (aC 0)<|aC 2)<|aG (bW my (aC 1)<|aC 2) aQ
theorem Lj:FF P w K mg base 1 "_law_pool" ["_law_cell", "_law_turn"] tU:=B.2.y.d B.1 λ_ _ a=>
 bJ a pQ λ_ _ _ _ _ _ b=>by
 unfold Eg m6 uq jF pB lK pA pI pH jC;exact aq (Dz pQ.n dI)<|aq (Dz pQ.n<|bW iu (aO aJ)<|aO<|bW dM (aC 0)<|aO aJ)<|aq (Dz pQ.n<|bW my (aC 0)<|aO aJ)<|aq (DG pQ.n<|Dg aQ)<|aq (ou (Kc rfl (B.1.n B.2.d)<|cB (aC 3) cI) (je pQ.n)<|aq (Dw 4<|bW dM (aC 0)<|aO aJ)<|aH<|Dz pQ.n<|bW my (aC 0)<|aO aJ)<|aq (Dz pQ.n<|Om PySem.F.plainAttrs_str PySem.F.slot_str_join PySem.F.type_str_join XL (aO dI)<|cB (aO<|j0<|ie (az ud) ["_law_k","_law_signs"] ["_law_signs"] 1 [2] rfl (by trivial) (.cons rfl .nil) (oJ<|aC 4) (λ_ _ _ _ _ _=>je<|o0 rfl) (λ_ _ _ _ _ _=>cW) λ_ _ _ _ _ _=>iT (aC 1)<|aC 0) cI)<|aq (dm (iZ (sI b.u) (aO<|bW dM (aO<|bW my (aC 1)<|aO aJ)<|aO aJ) (aO aJ)<|cF _) (aH<|qM<|ie (az ud) ["_law_k","_law_word"] ["_law_word"] 1 [6] rfl (by trivial) (.cons rfl .nil) (Yu<|Xi rfl (B.1.n B.2.d)<|cB (aO aJ)<|cB (aO aJ) cI) (λ_ _ _ _ _ _=>je<|o0 rfl) (λ_ _ _ _ _ _=>cW) λ_ _ _ _ _ _=>gQ (aO<|bW WH (aO aJ)<|aC 1) jQ<|gZ<|aC 0) aY)<|aq (Dz pQ.n<|bW dM (aC 1)<|aC 3)<|aq (DG pQ.n<|Dg aQ)<|aq (ou (Kc rfl (B.1.n B.2.d)<|cB (aO aJ) cI) (je pQ.n)<|aq (Dz pQ.n<|iT (aC 2)<|aO<|bW dM (aO<|bW iu (aO<|iT (aC 4)<|aC 7)<|aO<|bW Bc (aO aJ)<|aC 5)<|aO aJ)<|aH<|Dw 8<|bW iu (aO<|bW iu (aO<|gQ (aC 6) jQ<|gZ<|aC 7)<|aC 9)<|aO<|gQ (aC 6) (gZ<|aO<|bW iu (aC 7)<|aO aJ) jQ)<|aH<|xZ 8
theorem zm:FF P w K mg base 2 "_law_stake" ["_law_number"] bY:=B.2.v.Y B.1 Ks λ_ _ _ _ _ _ _ a b=>by
 unfold qR qP;exact aq (dm (iZ (sI a.u) (aO<|bW dM (aC 0)<|aO aJ) (aO aJ)<|cF _) (aH<|cP<|uL (jW B) a fY<|aG (bW BK (aO<|bW dM (aO<|bW Bc (aC 0)<|aO aJ)<|aO aJ)<|aO aJ)<|aG (bW iu (aO aJ)<|aO<|bW dM (aO<|bW my (aC 0)<|aO aJ)<|aO aJ) aQ) aY)<|aH<|cP<|uL (jW B) a fY<|aG (bW BK (aO<|bW dM (aO<|bW my (aC 0)<|aO aJ)<|aO aJ)<|aO aJ)<|aG (bW iu (aO aJ)<|aO<|bW dM (aO<|bW my (aC 0)<|aO aJ)<|aO aJ) aQ
theorem HW:FF P w K mg base 2 "_law_shares" ["_law_number", "_law_many"] pF:=B.2.l.d B.1 λ_ _ a=>
 bJ a yG λ_ _ _ _ _ _ b=>by
 unfold yS pN mz mJ jB fJ;exact aq (DG yG.n<|Dg aQ)<|aq (ou (Kc rfl (B.1.n B.2.d)<|cB (aC 1) cI) (je yG.n)<|aq (Dw 2<|bW iu (aO<|bW iu (aO aJ)<|aO<|bW dM (aC 0)<|aO aJ)<|aO<|bW Bc (aO<|bW my (aO<|bW dM (aO<|bW my (aC 0)<|aO aJ)<|aO aJ)<|aO aJ)<|aO<|bW dM (aO<|bW my (aC 0)<|aO aJ)<|aO aJ)<|aH<|Dz yG.n<|bW dM (aO<|bW Bc (aC 0)<|aO aJ)<|aO aJ)<|aH<|qM<|ie (az uC) ["_law_part","_law_parts"] ["_law_parts"] 1 [2] rfl (by trivial) (.cons rfl .nil) (oJ<|aC 2) (λ_ _ _ _ _ _=>je<|o0 rfl) (λ_ _ _ _ _ _=>cW) λ_ _ _ _ _ _=>uL (jW B) b Vg<|aG (bu 0)<|aG (dZ (JG rfl) rfl (B.1.n B.2.e) K6<|cB (aC 1) cI) aQ
theorem Em:FF P w K mg base 1 "_law_mix" ["_law_cell", "_law_k"] dC:=B.2.X.Y B.1 RB λ_ _ _ _ _ _ _ a b=>by
 unfold zy zE;exact aH<|cP<|bW dM (aO<|bW Bc (aO<|bW iu (aO<|bW dM (aC 0)<|aO aJ)<|aO aJ)<|aO<|bW iu (aO aJ)<|aO<|bW Bc (aO aJ)<|aC 1)<|aO aJ
theorem yD:t_ P w K mg base 1 "_law_name_number" ["_law_state", "_law_side", "_law_record", "_law_many", "_law_bit"] 0 d7:=B.2.z.d B.1 λ_ _ b=>
 Hf 0 b sH (by decide) λ_ _ _ _ _ _ a=>by
 exact aq (Dz sH.n<|gk<|aG (bu 1)<|aG (bu 2)<|aG (bu 3)<|aG (bu 4) aQ)<|aq (dm (iZ (UL a) (aC 5) (Mv 6<|SZ a (aC 0) (aO dI) λ_ _=>rfl) (by with_unfolding_all rfl)) (aq (Rn 6 a (iT (Mv 7<|SZ a (aC 0) (aO dI) λ_ _=>rfl)<|aO<|bW BK (aC 1)<|aO aJ) (SZ a (aC 0) (aO dI) λ_ _=>rfl)<|bu 5)<|aH<|NB 7 (bW iu (aO<|iT (Mv 7<|SZ a (aC 0) (aO dI) λ_ _=>rfl)<|aO<|bW BK (aC 1)<|aO aJ)<|aO aJ) (SZ a (aC 0) (aO dI) λ_ _=>rfl)<|bW BK (aC 1)<|aO aJ) aY)<|aH<|cP<|Ff a (Mv 6<|SZ a (aC 0) (aO dI) λ_ _=>rfl) (aC 5) λ_ _=>rfl
theorem Kg  k (I:2<=k) C (o:t_ P w K mg base k "_law_built" ["_law_cells", "_law_state", "_law_depth", "_law_records"] 1 C):t_ P w K mg base (k+1) "_law_move" ["_law_cells", "_law_state", "_law_depth", "_law_records", "_law_draw"] 1 (pY C):=B.2.R.d B.1 λ_ _ b=>
 Hf 1 b qb (by decide) λ_ _ _ _ _ _ a=>by
 unfold nj lQ iz;exact aq (Dz qb.n<|bW iu (aO aJ)<|aO<|bW dM (aC 4)<|aO aJ)<|aq (Dz qb.n<|bW iu (aO aJ)<|aO<|bW dM (aO<|bW my (aC 4)<|aO aJ)<|aO aJ)<|aq (Ma (i:=7) qb.n rfl (Or.inl rfl)<|Pn 1 14 15 (yD B) a fY (xH (i:=1)<|aG (bu 5)<|aG (iT (aC 3)<|aO<|bW BK (aC 5)<|aO aJ)<|aG (bu 6)<|aG (bW dM (aO<|bW my (aC 4)<|aO aJ)<|aO aJ) aQ) (hk:=by omega))<|aq (dm (iZ Qv (aC 7) (aO aJ)<|cF _) (aH<|cP<|gk<|aG dI<|aG (uL (zm B) a fY (aG (bu 4) aQ) (hk:=by omega)) aQ) aY)<|aq (Ae 1 a (bW BK (aO<|SZ a (aC 1) (aO dI) λ_ _=>rfl)<|aC 6) dI)<|aq (Dz qb.n<|SZ a (aC 1) (aO dI) λ_ _=>rfl)<|aq (Dz qb.n<|iT (aC 8)<|aO<|bW dM (aO<|bW iu (aC 7)<|aO<|SZ a (aC 1) (aO dI) λ_ _=>rfl)<|aO aJ)<|aq (DG qb.n<|Dg aQ)<|aq (ou (Kc rfl (B.1.n B.2.d)<|cB (aC 6) cI) (je qb.n)<|aq (Dz qb.n<|iT (aC 8)<|aO<|bW dM (aO<|bW iu (aO<|bW iu (aO<|bW Bc (aO aJ)<|aC 7)<|aC 11)<|aO<|bW my (aO<|SZ a (aC 1) (aO dI) λ_ _=>rfl)<|aO aJ)<|aO aJ)<|aq (DG qb.n<|uZ rK rfl (B.1.n B.2.b) qK<|cB (aC 3) cI)<|aq (BR 13 (bW iu (aO<|iT (aC 13)<|aO<|bW BK (aC 5)<|aO aJ)<|aO<|gk<|aG (gk<|aG (bu 9)<|aG (bu 12) aQ) aQ)<|bW BK (aC 5)<|aO aJ)<|SS 13<|aH<|Hi 10<|ZD<|Al (GT<|bu 12)<|Al (Pn 1 14 15 o a fY (Be (bu 0)<|xH (i:=1)<|aG (bW BK (aC 2)<|aO aJ)<|aG (bu 13) aQ) (hk:=by omega)) Ui)<|aH<|cP<|gk<|aG dI<|aG (bu 5)<|aG (bu 9)<|aG (yt jd rfl (B.1.n B.2.n) jb<|cB (aC 10) cI) aQ
theorem Iv  n (o:t_ P w K mg base (2+2*n) "_law_built" ["_law_cells", "_law_state", "_law_depth", "_law_records"] 1 (bz n))(C:t_ P w K mg base (2+2*n+1) "_law_move" ["_law_cells", "_law_state", "_law_depth", "_law_records", "_law_draw"] 1 (pY<|bz n)):t_ P w K mg base (2+2*n+1+1) "_law_built" ["_law_cells", "_law_state", "_law_depth", "_law_records"] 1 (bz<|n+1):=B.2.q.d B.1 λ_ _ b=>
 Hf 1 b v5 (by decide) λ_ _ _ _ _ _ a=>by
 unfold fW gM j8;exact aq (Dz v5.n<|SZ a (aC 1) (aO dI) λ_ _=>rfl)<|aq (Ae 1 a (bW iu (aC 4)<|aO aJ) dI)<|aq (dm (iZ Qv (aC 4) (aO<|dZ m7 rfl (B.1.n B.2.c) wY<|cB (aC 0) cI)<|cF _) (aH<|cP<|gk<|aG dI<|aG (uL (zm B) a fY (aG (uL (Em B) a fY (aG (bW iu (aO<|iT (aC 0)<|aO<|HK SN<|aO aJ)<|aO<|bW Bc (aC 4)<|aC 4)<|aG (bu 4) aQ) (hk:=by omega)) aQ) (hk:=by omega)) aQ) aY)<|aq (Dz v5.n<|uL (Em B) a fY (aG (iT (aC 0)<|aC 4)<|aG (bu 4) aQ) (hk:=by omega))<|aq (Dz v5.n<|bu 5)<|aq (dm (gj<|SZ a (aC 1) (aO dI) λ_ _=>rfl) (aH<|Dz v5.n<|bW iu (aO<|bW BK (aC 5)<|aO<|bW dM (aC 5)<|aO aJ)<|aO<|bW dM (aO<|uL (Em B) a fY (aG (iT (aC 0)<|aO<|bW dM (aC 2)<|aO<|dZ m7 rfl (B.1.n B.2.c) wY<|cB (aC 0) cI)<|aG (bu 2) aQ) (hk:=by omega))<|aO aJ) aY)<|aq (dm (wu<|pW (iZ (sI a.u) (aC 2) (aO aJ)<|cF _)<|pW (iZ (Zf a.u) (aO<|SZ a (aC 1) (aO dI) λ_ _=>rfl) (aO aJ)<|cF _)<|uE<|wu<|vN (iZ (sI a.u) (aO<|bW dM (aC 6)<|aO aJ) (aO aJ)<|cF _)<|qN<|iZ qt (aC 4) (aO aJ)<|cF _) (aH<|cP<|gk<|aG dI<|aG (uL (zm B) a fY (aG (bu 5) aQ) (hk:=by omega)) aQ) aY)<|aq (dm (iZ qt (aO<|bW dM (aC 6)<|aO aJ) (aO aJ)<|cF _) (aH<|Ou<|Pn 1 10 11 C a fY (Be (bu 0)<|xH (i:=1)<|aG (bu 2)<|aG (bu 3)<|aG (bu 6) aQ) (hk:=by omega)) aY)<|aq (Dz v5.n<|bW iu (aO aJ)<|aO<|bW dM (aO<|bW my (aC 6)<|aO aJ)<|aO aJ)<|aq (Ae 1 a (bW BK (aO<|SZ a (aC 1) (aO dI) λ_ _=>rfl)<|aC 7) dI)<|aq (DG v5.n<|Dg aQ)<|aq (ou (Fv<|uL (HW B) a fY (aG (bu 5)<|aG (bu 7) aQ) (hk:=by omega)) (je v5.n)<|aH<|Hi 8<|ZD<|Al (GT<|bu 9)<|Al (Pn 1 10 11 o a fY (Be (bu 0)<|xH (i:=1)<|aG (bW BK (aC 2)<|aO aJ)<|aG (bu 3) aQ) (hk:=by omega)) Ui)<|aH<|cP<|gk<|aG dI<|aG (iT (aO<|SZ a (aC 1) (aO dI) λ_ _=>rfl)<|aO<|bW dM (aO<|bW my (aC 5)<|aO aJ)<|aO aJ)<|aG (yt jd rfl (B.1.n B.2.n) jb<|cB (aC 8) cI) aQ
theorem Ja:∀n,t_ P w K mg base (2+2*n) "_law_built" ["_law_cells", "_law_state", "_law_depth", "_law_records"] 1 (bz n):=by
 intro n;induction n with
 |zero=>exact B.2.q.d B.1 λ_ _ _=>N9
 |succ n ih=>
  have a:=Kg B _ (by omega) _ ih;exact Iv B n ih a
theorem M7:FF P w K mg base 29 "_law_game" ["_law_cells", "_law_turn", "_law_depth", "_law_room", "_law_pool_here"] tY:=B.2.F.d B.1 λ_ _ b=>
 bJ b xJ λ_ _ _ _ _ _ a=>by
 unfold Ei ug;exact XB (i:=5) (j1:=6) (j2:=7) xJ.n rfl (Or.inl rfl) (wW dI aJ<|wW dI (bu 3)<|wW dI ym<|wW dI (Dg<|aG aJ<|aG aJ aQ)<|wW dI (bu 4) λd s c H Q I h=>pairTrees_nil_walk ⟨[],H,I,.nil,h⟩)<|aq (Ae 5 a (bW dM (aC 1)<|aO aJ) dI)<|aq (Ae 5 a (vL (sI a.u) (aO<|bW dM (aO<|bW my (aC 1)<|aO aJ)<|aO aJ) (aO aJ)<|cF _) dI)<|aH<|Ou<|Pn 5 6 7 (Ja B 13) a fY<|Be (bu 0)<|xH (i:=5)<|aG (bu 2)<|aG (j0<|Dg<|aG (gk aQ)<|aG (gk aQ) aQ) aQ
theorem nH:FF P w K mg base 1 "_law_places" ["_law_game_here"] gC:=B.2.O.d B.1 λ_ _ a=>
 bJ a lU λ_ _ _ _ _ _ b=>by
 unfold zg pG wJ fO jz lY jA mF gV mC mH;exact aq (DG lU.n<|Dg aQ)<|aq (DG lU.n<|Dg<|aG (gk<|aG (gk aQ)<|aG (bu 0)<|aG (gk<|aG (gk aQ)<|aG (gk aQ) aQ) aQ) aQ)<|aq (Ao PassesOwn.leaving (iZ qt (aO<|dZ m7 rfl (B.1.n B.2.c) wY<|cB (aC 2) cI) (aO aJ)<|cF _)<|aq (UZ (k:=1000) (PY 2)<|Ro rfl<|xX (je lU.n)<|xX (je lU.n)<|xX (je lU.n) Lf)<|aq (Dw 1<|gk<|aG (bu 3)<|aG (bu 4)<|aG (bu 5) aQ)<|aq (DG lU.n<|Dg aQ)<|aq (dm (iZ (sI b.u) (aO<|iT (aC 4)<|aO aJ) (aO dI)<|cF _) (aH<|Rj (i:=6) (az um) ["_law_share","_law_part","_law_records"] ["_law_records"] 2 [5] lU.n rfl (Or.inl rfl) rfl (by trivial) (.cons rfl .nil) (Yu<|ZJ<|iT (aC 4)<|aO aJ) (λ_ _ _ _ _ _=>Ro rfl<|xX (je<|o0 rfl)<|xX (je<|o0 rfl) Lf) (λ_ _ _ _ _ _=>cW) λ_ _ _ _ _ _=>gk<|aG (bu 1)<|aG (bu 2) aQ) aY)<|aq (dm (iZ (sI b.u) (aO<|iT (aC 4)<|aO aJ) (aO dI)<|cF _) (aH<|ou (ZJ<|iT (aC 4)<|aO aJ) (Ro rfl<|xX (je lU.n)<|xX (je lU.n) Lf)<|aq (DG lU.n<|uZ rK rfl (B.1.n B.2.b) qK<|cB (aC 5) cI)<|aq (BR 9 (bW iu (aO<|iT (aC 9)<|aO<|bW BK (aO<|iT (aC 4)<|aO aJ)<|aO aJ)<|aO<|gk<|aG (gk<|aG (iT (aC 4)<|aO aJ)<|aG (bu 7) aQ) aQ)<|bW BK (aO<|iT (aC 4)<|aO aJ)<|aO aJ)<|aH<|Dw 6<|gk<|aG (bu 8)<|aG (yt jd rfl (B.1.n B.2.n) jb<|cB (aC 9) cI) aQ) aY)<|aH<|ou (SK rfl (B.1.n B.2.d)<|cB (aO<|bW BK (aO<|dZ m7 rfl (B.1.n B.2.c) wY<|cB (aC 6) cI)<|aO aJ)<|cB (aO<|HK SN<|aO aJ)<|cB (aO<|HK SN<|aO aJ) cI) (je lU.n)<|aH<|Dw 2<|gk<|aG (bW iu (aC 3)<|aO<|gk<|aG (bu 10) aQ)<|aG (iT (aO<|iT (aC 6)<|aC 10)<|aO aJ)<|aG (iT (aO<|iT (aC 6)<|aC 10)<|aO aJ) aQ)<|aH<|xZ 1
theorem yQ:FF P w K mg base 2 "_law_table" ["_law_game_here"] oF:=B.2.o.d B.1 λ_ _ b=>
 bJ b qX λ_ _ _ _ _ _ a=>by
 unfold vP vR nF dH nP;exact aq (DG qX.n<|Dg aQ)<|aq (DG qX.n ym)<|aq (ou (Fv<|uL (nH B) a fY<|aG (bu 0) aQ) (Ro rfl<|xX (je qX.n)<|xX (je qX.n)<|xX (je qX.n) Lf)<|aH<|dm (wu<|vN (iZ (sI a.u) (aO<|iT (aC 4)<|aO aJ) (aO dI)<|cF _)<|qN<|iZ (UL a) (aO<|gk<|aG (iT (aC 4)<|aO aJ)<|aG (iT (aC 4)<|aO aJ) aQ) (aC 2) (by with_unfolding_all rfl)) (aq (UT 2 a oN<|gk<|aG (iT (aC 4)<|aO aJ)<|aG (iT (aC 4)<|aO aJ) aQ)<|aq (Dz qX.n<|yt jd rfl (B.1.n B.2.n) jb<|cB (aO<|j0<|ie (az vO) ["_law_word","_law_part"] [] 2 [] rfl (by trivial) .nil (Yu<|ZJ<|iT (aC 4)<|aO aJ) (λ_ _ _ _ _ _=>Ro rfl<|xX (je<|o0 rfl)<|xX (je<|o0 rfl) Lf) (λ_ _ _ _ _ _=>cW) λ_ _ _ _ _ _=>bu 0) cI)<|aH<|Dw 1<|gk<|aG (iT (aC 4)<|aO aJ)<|aG (iT (aC 4)<|aO aJ)<|aG (bu 6)<|aG (iT (aC 5)<|aO<|bW BK (aO<|iT (aC 4)<|aO aJ)<|aO aJ) aQ) aY)<|aH<|xZ 1
theorem wH:FF P w K mg base 1 "_law_is_text" ["_law_found"] iU:=B.2.N.d B.1 λ_ _ a=>
 bJ a GZ λ_ _ _ _ _ _ b=>by
 exact(aH<|cP<|rR (x:="") (aC 0) rfl (B.1.n B.2.a) bG rfl (B.1.n B.2.B)<|by decide +kernel)
theorem zZ:FF P w K mg base 2 "_law_is_record" ["_law_found"] kO:=B.2.G.d B.1 λ_ _ a=>
 bJ a o6 λ_ _ _ _ _ _ b=>by
 unfold pq o8 mW jx;exact aq (dm (qu<|gj<|rR (x:="") (aC 0) rfl (B.1.n B.2.a) bG rfl (B.1.n B.2.n) jb) (aH<|cP oN) aY)<|aq (ou (ZJ<|bu 0) (je o6.n)<|aH<|dm (wu<|pW (qu<|gj<|rR (x:="") (aC 1) rfl (B.1.n B.2.a) bG rfl (B.1.n B.2.n) jb)<|pW (iZ (RW b.u) (aO<|dZ m7 rfl (B.1.n B.2.c) wY<|cB (aC 1) cI) (aO aJ)<|cF _)<|pW (qu<|gj<|uL (wH B) b fY<|aG (iT (aC 1)<|aO aJ) aQ)<|uE<|qu<|gj<|uL (wH B) b fY<|aG (iT (aC 1)<|aO aJ) aQ) (aH<|cP oN) aY)<|aH<|cP oN
theorem Dd:FF P w K mg base 3 "_law_is_table" ["_law_found"] mK:=B.2.A.d B.1 λ_ _ a=>
 bJ a qC λ_ _ _ _ _ _ b=>by
 unfold qp qF nU jM jJ jL;exact aq (dm (qu<|gj<|rR (x:="") (aC 0) rfl (B.1.n B.2.a) bG rfl (B.1.n B.2.b) qK) (aH<|cP oN) aY)<|aq (ou (Fv<|bu 0) (je qC.n)<|aq (dm (wu<|pW (qu<|gj<|rR (x:="") (aC 1) rfl (B.1.n B.2.a) bG rfl (B.1.n B.2.n) jb)<|pW (iZ (RW b.u) (aO<|dZ m7 rfl (B.1.n B.2.c) wY<|cB (aC 1) cI) (aO aJ)<|cF _)<|pW (qu<|gj<|rR (x:="") (aO<|iT (aC 1)<|aO aJ) rfl (B.1.n B.2.a) bG rfl (B.1.n B.2.n6) JE)<|uE<|gj<|rR (x:="") (aO<|iT (aC 1)<|aO aJ) rfl (B.1.n B.2.a) bG rfl (B.1.n B.2.n4) UJ) (aH<|cP oN) aY)<|aq (dm (wu<|pW (qu<|gj<|uL (wH B) b fY<|aG (iT (aC 1)<|aO aJ) aQ)<|pW (qu<|gj<|rR (x:="") (aO<|iT (aC 1)<|aO aJ) rfl (B.1.n B.2.a) bG rfl (B.1.n B.2.n) jb)<|uE<|qu<|gj<|uL (zZ B) b fY<|aG (iT (aC 1)<|aO aJ) aQ) (aH<|cP oN) aY)<|aH<|dm (qu<|gj<|dZ (JQ rfl) rfl (B.1.n B.2.n2) XH<|cB (aO<|j0<|ie (az qm) ["_law_word"] [] 1 [] rfl (by trivial) .nil (Yu<|ZJ<|iT (aC 1)<|aO aJ) (λ_ _ _ _ _ _=>je<|o0 rfl) (λ_ _ _ _ _ _=>cW) λ_ _ _ _ _ _=>uL (wH B) b Vg<|aG (bu 0) aQ) cI) (aH<|cP oN) aY)<|aH<|cP oN
theorem zY:FF P w K mg base 1 "_law_fractions" ["_law_place"] kY:=B.2.k.d B.1 λ_ _ a=>
 bJ a uN λ_ _ _ _ _ _ b=>by
 exact aq (dm (iZ (sI b.u) (aO<|iT (aC 0)<|aO aJ) (aO dI)<|cF _) (aH<|qM<|Dg<|aG (iT (aC 0)<|aO aJ) aQ) aY)<|aq (dm (iZ (sI b.u) (aO<|iT (aC 0)<|aO aJ) (aO dI)<|cF _) (aH<|qM<|ie (az oW) ["_law_share","_law_part"] [] 2 [] rfl (by trivial) .nil (Yu<|ZJ<|iT (aC 0)<|aO aJ) (λ_ _ _ _ _ _=>Ro rfl<|xX (je<|o0 rfl)<|xX (je<|o0 rfl) Lf) (λ_ _ _ _ _ _=>cW) λ_ _ _ _ _ _=>bu 0) aY)<|aH<|qM<|Dg aQ
theorem Bh:FF P w K mg base 3 "_law_too_great" ["_law_game_here"] d9:=B.2.mt.d B.1 λ_ _ l=>
 bJ l lD λ_ _ _ _ _ _ a=>by
 unfold gF gH fP cV jt jm ji gR mZ cU jr jg;exact aq (Dz lD.n<|uL (nH B) a fY<|aG (bu 0) aQ)<|aq (dm (wu<|pW (iZ qt (aO<|dZ m7 rfl (B.1.n B.2.c) wY<|cB (aC 1) cI) (aO aJ)<|cF _)<|uE<|iZ qt (aO<|dZ (RV rfl) rfl (B.1.n B.2.M) RS<|cB (aO<|j0<|ie (az lA) ["_law_way","_law_place","_law_records"] [] 3 [] rfl (by trivial) .nil (oJ<|aC 1) (λ_ _ _ _ _ _=>Ro rfl<|xX (je<|o0 rfl)<|xX (je<|o0 rfl)<|xX (je<|o0 rfl) Lf) (λ_ _ _ _ _ _=>cW) λ_ _ _ _ _ _=>dZ m7 rfl (B.1.n B.2.c) wY<|cB (aC 0) cI) cI) (aO aJ)<|cF _) (aH<|cP oN) aY)<|aq (ou (Fv<|bu 1) (Ro rfl<|xX (je lD.n)<|xX (je lD.n)<|xX (je lD.n) Lf)<|aH<|ou (Fv<|uL (zY B) a fY<|aG (bu 3) aQ) (Ro rfl<|xX (je lD.n)<|xX (je lD.n) Lf)<|aH<|dm (wu<|pW (iZ Qv (aO<|dZ V2 rfl (B.1.n B.2.n1) RI<|cB (aC 5) cI) (aO<|bW bw (aO aJ)<|aO aJ)<|cF _)<|uE<|iZ Qv (aC 6) (aO aJ)<|cF _) (aH<|cP oN) aY)<|aq (Dz lD.n<|uL (yQ B) a fY<|aG (bu 0) aQ)<|aq (ou (ZJ<|gk<|aG aJ<|aG aJ aQ) (je lD.n)<|aq (rQ (i:=9) (az lA) ["_law_row","_law_side"] ["_law_side"] 1 [8] lD.n rfl (Or.inl rfl) rfl (by trivial) (.cons rfl .nil) (oJ<|aC 7) (λ_ _ _ _ _ _=>je<|o0 rfl) (λ_ _ _ _ _ _=>Bl<|iZ (sI a.u) (aO<|iT (aC 0)<|aO aJ) (aC 1)<|cF _) λ_ _ _ _ _ _=>dZ m7 rfl (B.1.n B.2.c) wY<|cB (aO<|iT (aC 0)<|aO aJ) cI)<|aH<|dm (wu<|pW (iZ qt (aO<|dZ m7 rfl (B.1.n B.2.c) wY<|cB (aC 9) cI) (aO aJ)<|cF _)<|uE<|iZ qt (aO<|dZ (JG rfl) rfl (B.1.n B.2.e) K6<|cB (aC 9) cI) (aO aJ)<|cF _) (aH<|cP oN) aY)<|aH<|cP oN
theorem yE:FF P w K mg base 1 "_law_come_to_one" ["_law_shares_here"] ju:=B.2.W.Y B.1 zW λ_ _ _ _ _ _ _ a b=>by
 unfold mX mV ik cY;exact aq (Dz b aJ)<|aq (Dz b aJ)<|aq (ou (Fv<|bu 0) (Ro rfl<|xX (je b)<|xX (je b) Lf)<|aq (dm (iZ ZC (aC 3) (aO aJ)<|cF _) (aH<|cP oN) aY)<|aq (Dz b<|bW iu (aO<|bW Bc (aC 1)<|aC 4)<|aO<|bW Bc (aC 3)<|aC 2)<|aH<|Dz b<|bW Bc (aC 2)<|aC 4)<|aH<|cP<|vL (sI a.u) (aC 1) (aC 2)<|cF _
theorem O9:FF P w K mg base 4 "_law_due" ["_law_game_here"] mU:=B.2.I.d B.1 λ_ _ b=>
 bJ b rA λ_ _ _ _ _ _ a=>by
 unfold rP rF qL cQ qZ qI;exact aq (dm (gj<|uL (Bh B) a fY<|aG (bu 0) aQ) (aH<|cP<|gk<|aG dI aQ) aY)<|aq (DG rA.n ym)<|aq (ou (Fv<|uL (nH B) a fY<|aG (bu 0) aQ) (Ro rfl<|xX (je rA.n)<|xX (je rA.n)<|xX (je rA.n) Lf)<|aq (dm (wu<|vN (iZ (sI a.u) (aO<|iT (aC 3)<|aO aJ) (aO dI)<|cF _)<|qN<|qu<|gj<|uL (yE B) a fY<|aG (j0<|ie (az vJ) ["_law_share","_law_part"] [] 2 [] rfl (by trivial) .nil (Yu<|ZJ<|iT (aC 3)<|aO aJ) (λ_ _ _ _ _ _=>Ro rfl<|xX (je<|o0 rfl)<|xX (je<|o0 rfl) Lf) (λ_ _ _ _ _ _=>cW) λ_ _ _ _ _ _=>bu 0) aQ) (aH<|cP<|gk<|aG dI<|aG (bu 2) aQ) aY)<|aH<|dm (iZ (sI a.u) (aO<|iT (aC 3)<|aO aJ) (aO dI)<|cF _) (aq (rQ (i:=5) (az vJ) ["_law_word","_law_part"] [] 2 [] rA.n rfl (Or.inl rfl) rfl (by trivial) .nil (Yu<|ZJ<|iT (aC 3)<|aO aJ) (λ_ _ _ _ _ _=>Ro rfl<|xX (je<|o0 rfl)<|xX (je<|o0 rfl) Lf) (λ_ _ _ _ _ _=>cW) λ_ _ _ _ _ _=>bu 0)<|aq (Dz rA.n<|gk<|aG (bu 2)<|aG (bu 5)<|aG (iT (aC 4)<|aO<|bW BK (aO<|iT (aC 3)<|aO aJ)<|aO aJ) aQ)<|aq (Ma (i:=7) rA.n rfl (Or.inl rfl)<|I_ 1 a (gk<|aG (iT (aC 3)<|aO aJ)<|aG (iT (aC 3)<|aO aJ) aQ) (bu 6) ⟨rfl,rfl,rfl,rfl⟩)<|aq (dm (iZ (RW a.u) (aO<|iT (aC 7)<|aO aJ) (aC 5)<|cF _) (aH<|cP<|gk<|aG dI<|aG (iT (aC 7)<|aO aJ)<|aG (bu 2) aQ) aY)<|aH<|dm (iZ (RW a.u) (aO<|iT (aC 7)<|aO aJ) (aO<|iT (aC 6)<|aO aJ)<|cF _) (aH<|cP<|gk<|aG dI<|aG (iT (aC 7)<|aO aJ)<|aG (bu 2) aQ) aY) aY)<|aH<|cP<|gk<|aG dI<|aG (uL (yQ B) a fY<|aG (bu 0) aQ) aQ
theorem v7:EA P w K mg base 1 "_law_ways" ["_law_some"] gw:=J5 (B.2.j.e B.1.X B.1.N λ_ _ _ _ _ _=>xz λ_=>rfl) λ_ _ i=>
 O5 i wU λ_ _ _ _ _ _ j f=>by
 unfold xu xK;exact(aq (Mu (Cm:=HS) (k:=1000) k8 f ((Oe (YH<|bu 0) λh H R c=>cC c λe M0 H0 ow m a q=>⟨e,M0,H0,ow,m,a,q.s.u (aD.s _) λd q v H' g b=>by
 cases d with
 |P ds=>
  cases b with
  |P hl hd=>exact⟨_,rfl,⟨_,hl.s⟩,q _ H' g<|Su (a.T g).W hl hd⟩
 |_=>exact q.elim⟩)) (je wU.n) (aq (dm (qu<|gj<|rR (x:="") (aC 1) rfl (B.1.n B.2.a) bG rfl (B.1.n B.2.n) jb) (aH<|cP oN) aY) (aH (Mu (Cm:=HS) (k:=1000) k8 f ((Oe (S4<|bu 1) λh H R c=>cC c λe M0 H0 ow m a q=>⟨e,M0,H0,ow,m,a,q.s.u (aD.s _) λd q v H' g b=>by
 cases d with
 |w ds=>
  cases b with
  |w hl hd=>exact⟨_,rfl,⟨_,hl.s⟩,q _ H' g<|IP (a.T g).W hl.s hd⟩
 |_=>exact q.elim⟩)) (je wU.n) (aH<|dm (wu<|pW (qu<|gj<|rR (x:="") (aC 2) rfl (B.1.n B.2.a) bG rfl (B.1.n B.2.n6) JE)<|uE<|gj<|rR (x:="") (aC 2) rfl (B.1.n B.2.a) bG rfl (B.1.n B.2.n4) UJ) (aH<|cP oN) aY))))) (aH<|cP oN))
theorem EY:EA P w K mg base 2 "_law_refusal" ["_law_e"] dD:=J5 (B.2.D.e B.1.X B.1.N λ_ _ _ _ _ _=>xz λ_=>rfl) λ_ _ d=>
 O5 d xM λ_ _ _ _ _ _ b a=>by
 have c:=RY b;exact(aq (Dz xM.n<|j0<|Dg<|aG (MT (aC 0) rfl (B.1.n B.2.a) bG rfl B.4.e)<|aG (MT (aC 0) rfl (B.1.n B.2.a) bG rfl B.4.g)<|aG (MT (aC 0) rfl (B.1.n B.2.a) bG rfl B.4.m)<|aG (MT (aC 0) rfl (B.1.n B.2.a) bG rfl B.4.h) aQ)
  (aq (dm (wu<|pW (gj<|Tc (aC 0) rfl (B.1.n B.2.a) bG<|GC B.4.l<|GC B.4.k<|GC B.4.j<|⟨_,.f⟩)<|pW (qu<|gj<|VY (aC 0) rfl (B.1.n B.2.a) bG rfl B.4.i IW)<|uE<|iZ (RW c) (aO<|dZ (GQ a) rfl (B.1.n B.2.e) K6<|cB (aC 1) cI) (aO aJ)<|cF _)
  (aH<|cP<|gk<|aG dI aQ)
  aY)
  (aq (dm (gj<|iT (aC 1)<|aO aJ)
  (aH<|cP<|gk<|aG dI aQ)
  aY)
  (aq (dm (wu<|vN (gj<|iT (aC 1)<|aO aJ)<|qN<|gj<|Ru (v7 B) b a HD<|aG (j0<|Dg<|aG (pC (aC 0) B.4.n) aQ) aQ)
  (aH<|cP<|gk<|aG dI<|aG (pC (aC 0) B.4.n) aQ)
  aY)
  (aq (dm (wu<|vN (gj<|iT (aC 1)<|aO aJ)<|qN<|gj<|Ru (v7 B) b a HD<|aG (j0<|Dg<|aG (pC (aC 0) B.4.d)<|aG (pC (aC 0) B.4.f) aQ) aQ)
  (aH<|cP<|gk<|aG dI<|aG (pC (aC 0) B.4.d)<|aG (pC (aC 0) B.4.f) aQ)
  aY)
  (aq (dm (wu<|vN (gj<|iT (aC 1)<|aO aJ)<|qN<|gj<|Ru (v7 B) b a HD<|aG (j0<|Dg<|aG (pC (aC 0) B.4.d)<|aG (pC (aC 0) B.4.f) aQ) aQ)
  (aH<|cP<|gk<|aG dI<|aG (pC (aC 0) B.4.d)<|aG (pC (aC 0) B.4.f) aQ)
  aY)
  (aH<|cP<|gk<|aG dI aQ)))))))
theorem Nf:FF P w K mg base 9 "_law_told" ["_law_game_here"] pX:=B.2.Z.d B.1 λ_ _ b=>
 bJ b nq λ_ _ _ _ _ _ a=>by
 unfold wQ m8;exact aq (Dz nq.n Ps)<|aq (Dz nq.n<|gk aQ)<|aq (Te (i:=3) eN rfl rfl (VE (i:=1) (UQ B) a nq.n rfl (Or.inl rfl)<|aG (bu 0) aQ) nq.n rfl rfl rfl B.4.a λ ea=>UI (i:=2) (EY B) (PC a) nq.n rfl (Or.inl rfl)<|aG (bu 3) aQ)<|aq (dm (iZ (RW a.u) (aC 2) (aO<|gk aQ)<|cF _) (aH<|cP<|bu 2) aY)<|aq (dm (qu<|gj<|uL (Dd B) a fY<|aG (bu 1) aQ) (aH<|cP<|gk<|aG dI aQ) aY)<|aH<|cP<|gk<|aG dI<|aG (bu 1) aQ
theorem Nu  n (o:FF P w K mg base (0+n) "_law_put" ["_law_game_here", "_law_way", "_law_part"] (jw n)):FF P w K mg base (0+n+1) "_law_put" ["_law_game_here", "_law_way", "_law_part"] (jw<|n+1):=B.2.f.d B.1 λ_ _ a=>
 bJ a zr λ_ _ _ _ _ _ b=>by
 exact aq (dm (iZ (sI b.u) (aC 1) (aO<|gk aQ)<|cF _) (aH<|cP<|bu 2) aY)<|aq (DG zr.n<|uZ rK rfl (B.1.n B.2.b) qK<|cB (aO<|iT (aC 0)<|aO<|HK SN<|aO aJ) cI)<|aq (Rb (k:=1000) (iT (aC 3)<|aO<|iT (aC 1)<|aO aJ)<|Ro rfl<|xX (je zr.n)<|xX (je zr.n) Lf)<|aq (BR 3 (gk<|aG (bu 4)<|aG (uL o b fY (aG (bu 5)<|aG (gQ (aC 1) (gZ<|aO aJ) jQ)<|aG (bu 2) aQ) (hk:=by omega)) aQ)<|iT (aC 1)<|aO aJ)<|aH<|cP<|bW iu (aO<|gQ (aC 0) jQ<|gZ<|aO<|HK SN<|aO aJ)<|aO<|gk<|aG (yt jd rfl (B.1.n B.2.n) jb<|cB (aC 3) cI) aQ
theorem PN:∀n,FF P w K mg base (0+n) "_law_put" ["_law_game_here", "_law_way", "_law_part"] (jw n):=by
 intro n;induction n with
 |zero=>exact B.2.f.d B.1 λ_ _ _=>(⟨λ_ _ _ _ a=>by refine Y_ a λ_ _ _ _ q=>?_;exact q.elim,(by intro _ _ _ _ _ _ _ _ _ _ _ _ _ zr13;refine Y_ zr13 λ_ _ _ _ q=>?_;exact q.elim)⟩)
 |succ n ih=>exact Nu B n ih
theorem zT:FF P w K mg base 2 "_law_other_deal" ["_law_place", "_law_cell"] jV:=B.2.Q.d B.1 λ_ _ c=>
 bJ c cH λ_ _ _ _ _ _ b=>by
 have a:=b.u;unfold tR jR;refine Wr.X ?_;exact(d8 (NZ (i:=2) cH.n rfl (eB rfl)<|Wr.mk<|uZ rK rfl (B.1.n B.2.b) qK<|cB (aO<|iT (aC 0)<|aO aJ) cI)<|d8 (Tw (i:=3) cH.n rfl (eB rfl)<|iH dM (bR<|iH my (Wr.mk<|aC 1)<|bR<|Wr.mk aJ)<|bR<|Wr.mk<|dZ m7 rfl (B.1.n B.2.c) wY<|cB (aC 2) cI)<|d8 (Wr.mk<|Rb (k:=1000) (iT (aC 2)<|aC 3)<|Ro rfl<|xX (je cH.n)<|xX (je cH.n) Lf)<|d8 (Et (yX (sI a) (bR<|iH dM (Wr.mk<|aC 1)<|bR<|Wr.mk aJ) (bR<|Wr.mk aJ)<|cF _) (pP<|Ip 2 (nJ<|dN (nJ<|dN (Wr.mk aJ)<|dN (Wr.mk aJ)<|Wr.mk aQ)<|dN (Wr.mk<|bu 5)<|Wr.mk aQ)<|Wr.mk<|bu 3)<|Wr.mk aY)<|d8 (Et (yX (sI a) (bR<|iH dM (Wr.mk<|aC 1)<|bR<|Wr.mk aJ) (bR<|Wr.mk aJ)<|cF _) (pP<|Ip 2 (nJ<|dN (nJ<|dN (iH BK (bR<|Wr.mk aJ)<|bR<|Cu Bm (Wr.mk<|aC 4) (bR<|Wr.mk aJ) λ_ _=>rfl)<|dN (Cu Bm (Wr.mk<|aC 4) (bR<|Wr.mk aJ) λ_ _=>rfl)<|Wr.mk aQ)<|dN (Wr.mk<|bu 5)<|Wr.mk aQ)<|Wr.mk<|bu 3)<|Wr.mk aY)<|d8 (Et (yX (sI a) (bR<|iH dM (Wr.mk<|aC 1)<|bR<|Wr.mk aJ) (bR<|Wr.mk aJ)<|cF _) (pP<|Ip 2 (nJ<|dN (Wr.mk<|uL (jW B) b fY<|aG (bW iu (aO<|bW iu (aO<|iT (aC 4)<|aO aJ)<|aO aJ)<|aO<|bW dM (aO<|bW my (aC 1)<|aO aJ)<|aO aJ)<|aG (iT (aC 4)<|aO aJ) aQ)<|dN (Wr.mk<|bu 5)<|Wr.mk aQ)<|Wr.mk<|bu 3)<|Wr.mk aY)<|d8 (Et (Wr.mk<|wu<|vN (iZ (sI a) (aO<|bW dM (aC 1)<|aO aJ) (aO aJ)<|cF _)<|qN<|iZ qt (aO<|dZ m7 rfl (B.1.n B.2.c) wY<|cB (aC 2) cI) (aO aJ)<|cF _) (pP<|NZ (i:=2) cH.n rfl (eB rfl)<|NY (bR<|Wr.mk<|gQ (aC 2) jQ<|gZ<|aC 3)<|bR<|Wr.mk<|gQ (aC 2) (gZ<|aO<|bW iu (aC 3)<|aO aJ) jQ)<|Wr.mk aY)<|d8 (Et (yX (sI a) (bR<|iH dM (Wr.mk<|aC 1)<|bR<|Wr.mk aJ) (bR<|Wr.mk aJ)<|cF _) (d8 (Tw (i:=6) cH.n rfl (eB rfl)<|Cu Bm (Wr.mk<|aC 2) (bR<|iH dM (bR<|iH my (Wr.mk<|aC 1)<|bR<|Wr.mk aJ)<|bR<|Wr.mk<|dZ m7 rfl (B.1.n B.2.c) wY<|cB (aC 2) cI) λ_ _=>rfl)<|d8 (Ip 2 (nJ<|dN (Wr.mk<|bu 4)<|dN (Cu Bm (Wr.mk<|aC 6) (bR<|Wr.mk aJ) λ_ _=>rfl)<|Wr.mk aQ)<|iH dM (bR<|iH my (Wr.mk<|aC 1)<|bR<|Wr.mk aJ)<|bR<|Wr.mk<|dZ m7 rfl (B.1.n B.2.c) wY<|cB (aC 2) cI)<|pP<|Ip 2 (nJ<|dN (Cu Bm (Wr.mk<|aC 6) (bR<|Wr.mk aJ) λ_ _=>rfl)<|dN (Wr.mk<|bu 5)<|Wr.mk aQ)<|Wr.mk<|bu 3)<|Wr.mk aY)<|d8 (Et (yX (sI a) (bR<|iH dM (Wr.mk<|aC 1)<|bR<|Wr.mk aJ) (bR<|Wr.mk aJ)<|cF _) (pP<|Wr.mk<|Ku 2 (bu 3)<|gk<|aG (gk<|aG aJ<|aG aJ aQ)<|aG (gk<|aG dI<|aG (gk<|aG (bW dM (aO<|bW my (aC 1)<|aO aJ)<|aO aJ)<|aG aJ aQ) aQ) aQ)<|Wr.mk aY)<|d8 (Et (yX qt (bR<|iH dM (Wr.mk<|aC 1)<|bR<|Wr.mk aJ) (bR<|Wr.mk aJ)<|cF _) (d8 (Tw (i:=7) cH.n rfl (eB rfl)<|Wr.mk<|uL (jW B) b fY<|aG (bW Bc (aO<|iT (aC 4)<|aO aJ)<|aO<|bW BK (aO<|bW dM (aC 1)<|aO aJ)<|aO aJ)<|aG (iT (aC 4)<|aO aJ) aQ)<|d8 (Ip 2 (nJ<|dN (Wr.mk<|uL (jW B) b fY<|aG (bW BK (aO<|bW Bc (aO<|iT (aC 4)<|aO aJ)<|aO<|iT (aC 7)<|aO aJ)<|aO<|bW Bc (aO<|iT (aC 7)<|aO aJ)<|aO<|iT (aC 4)<|aO aJ)<|aG (bW Bc (aO<|iT (aC 4)<|aO aJ)<|aO<|iT (aC 7)<|aO aJ) aQ)<|dN (Wr.mk<|bu 5)<|Wr.mk aQ)<|Wr.mk<|bu 3)<|pP<|Wr.mk<|Ku 2 (bu 3)<|gk<|aG (bu 7)<|aG (gk<|aG dI<|aG (gk<|aG (bW dM (aO<|bW my (aC 1)<|aO aJ)<|aO aJ)<|aG aJ aQ) aQ) aQ)<|Wr.mk aY)<|pP<|G7<|nJ<|dN (Wr.mk dI)<|dN (Cu Bm (Wr.mk<|aC 0) (bR<|Wr.mk aJ) λ_ _=>rfl)<|dN (Ni jd rfl (B.1.n B.2.n) jb<|Pj (Wr.mk<|aC 2)<|Wr.mk cI)<|Wr.mk aQ)
theorem rZ:FF P w K mg base 1 "_law_fresh_word" ["_law_place", "_law_cell", "_law_pool_here"] dJ:=B.2.x.d B.1 λ_ _ A=>
 bJ A jU λ_ _ _ _ _ _ z=>by
 unfold sW jP fU fQ;exact aq (Dz jU.n<|j0<|ie (az jO) ["_law_word","_law_part"] [] 2 [] rfl (by trivial) .nil (Yu<|ZJ<|iT (aC 0)<|aO aJ) (λ_ _ _ _ _ _=>Ro rfl<|xX (je<|o0 rfl)<|xX (je<|o0 rfl) Lf) (λ_ _ _ _ _ _=>cW) λ_ _ _ _ _ _=>bu 0)<|aq (rQ (i:=4) (az jO) ["_law_word","_law_words"] ["_law_words"] 1 [3] jU.n rfl (Or.inl rfl) rfl (by trivial) (.cons rfl .nil) (oJ<|aC 2) (λ_ _ _ _ _ _=>je<|o0 rfl) (λ_ _ _ _ _ _=>Bl<|iZ bL (aC 0) (aC 1) (by with_unfolding_all rfl)) λ_ _ _ _ _ _=>bu 0)<|aH<|cP<|iT (aC 4)<|aO<|bW dM (aC 1)<|aO<|dZ m7 rfl (B.1.n B.2.c) wY<|cB (aC 4) cI
theorem zr_(h:FB X E a fa)(k:FO X E (some c) fk):FN X E (.Subscript a (.Slice none none (some c) p2) pos) (Gr fa fk):=bA (NH h k) λu H Q s=>cC s λl M0 H0 ow m R q=>⟨l,M0,H0,ow,m,R,q.s.u (aD.s _) λd q v H1 c f=>⟨l,M0,H0,ow,m,R.T c,q.s.u c λk q x j=>by
  match d,k,f,q with
  | .P ds,some (-1),f,q=>
   refine Y_ (iV<|f.T j) λp n zq2 r hd=>?_;subst zq2;exact⟨rfl,p,n,rfl,r,λp a=>q p _ ((c.t j).t<|bH a _) ((c.t j).Y a) ⟨_,aP,((MK hd).N λb z=>z.elim .inl λe=>.inr (by rw[e];exact a)).T<|bH a _⟩⟩⟩⟩
theorem zQ:FF P w K mg base 2 "_law_other_move" ["_law_place", "_law_cell", "_law_pool_here"] jK:=B.2.m.d B.1 λ_ _ t=>
 bJ t nY λ_ _ _ _ _ _ g=>by
 have h:=g.u;unfold tV jN;refine Wr.X ?_;exact(d8 (NZ nY.n rfl (eB rfl)<|Wr.mk<|uZ rK rfl (B.1.n B.2.b) qK<|cB (aO<|iT (aC 0)<|aO aJ) cI) (d8 (Tw nY.n rfl (eB rfl)<|iH dM (bR<|iH my (Wr.mk<|aC 1)<|bR<|Wr.mk aJ)<|bR<|Wr.mk<|dZ m7 rfl (B.1.n B.2.c) wY<|cB (aC 3) cI) (d8 (Et (yX (sI h) (bR<|iH dM (Wr.mk<|aC 1)<|bR<|Wr.mk aJ) (bR<|Wr.mk aJ)<|cF _) (pP (G7 (iH iu (bR<|Wr.mk<|gQ (aC 0) jQ<|gZ<|aO aJ) (bR (nJ (dN (Ni jd rfl (B.1.n B.2.n) jb (Pj (bR ((⟨j0 (Wr.mk (zr_ B (aC 3) (gZ<|aO<|HK SN<|aO aJ))).X⟩))) (Wr.mk cI))) (Wr.mk aQ))))))) (Wr.mk aY)) (d8 (Et (yX IH (bR<|iH dM (Wr.mk<|aC 1)<|bR<|Wr.mk aJ) (bR<|nJ<|dN (Wr.mk aJ)<|dN (Wr.mk aJ)<|Wr.mk aQ)<|by with_unfolding_all rfl) (d8 (Ip 3 (nJ<|dN (Wr.mk<|uL (rZ B) g fY<|aG (bu 0)<|aG (bW my (aC 1)<|aO aJ)<|aG (bu 2) aQ)<|dN (Cu Bm (bR<|Cu Bm (Wr.mk<|aC 3) (Wr.mk<|aC 4) λ_ _=>rfl) (bR<|Wr.mk aJ) λ_ _=>rfl)<|Wr.mk aQ)<|Wr.mk<|bu 4)<|pP<|G7<|iH iu (bR<|Wr.mk<|gQ (aC 0) jQ<|gZ<|aO aJ)<|bR<|nJ<|dN (Ni jd rfl (B.1.n B.2.n) jb<|Pj (Wr.mk<|aC 3)<|Wr.mk cI)<|Wr.mk aQ)<|Wr.mk aY)<|d8 (Et (yX IH (bR<|iH dM (Wr.mk<|aC 1)<|bR<|Wr.mk aJ) (bR<|nJ<|dN (Wr.mk aJ)<|dN (Wr.mk aJ)<|Wr.mk aQ)<|by with_unfolding_all rfl) (pP<|G7<|iH iu (bR<|Wr.mk<|gQ (aC 0) jQ<|gZ<|aO aJ)<|bR<|nJ<|dN (Cu Bm (Wr.mk<|aC 2) (bR<|iH dM (bR<|iH my (Wr.mk<|aC 1)<|bR<|Wr.mk aJ)<|bR<|Wr.mk aJ) λ_ _=>rfl)<|dN (Cu Bm (Wr.mk<|aC 0) (bR<|Wr.mk aJ) λ_ _=>rfl)<|Wr.mk aQ)<|Wr.mk aY)<|d8 (Et (yX (sI h) (bR<|iH dM (Wr.mk<|aC 1)<|bR<|Wr.mk aJ) (bR<|Wr.mk aJ)<|cF _) (pP<|G7<|nJ<|dN (Wr.mk dI)<|dN (iH BK (bR<|Wr.mk aJ)<|bR<|Cu Bm (Wr.mk<|aC 0) (bR<|Wr.mk aJ) λ_ _=>rfl)<|dN (Cu Bm (Wr.mk<|aC 0) (bR<|Wr.mk aJ) λ_ _=>rfl)<|dN (Cu Bm (Wr.mk<|aC 0) (bR<|Wr.mk aJ) λ_ _=>rfl)<|Wr.mk aQ)<|Wr.mk aY)<|d8 (Et (Wr.mk<|wu<|vN (iZ (sI h) (aO<|bW dM (aC 1)<|aO aJ) (aO aJ)<|cF _)<|qN<|iZ qt (aO<|dZ m7 rfl (B.1.n B.2.c) wY<|cB (aC 3) cI) (aO aJ)<|cF _) (pP<|G7<|iH iu (bR<|Wr.mk<|gQ (aC 0) jQ<|gZ<|aO aJ)<|bR<|nJ<|dN (Ni jd rfl (B.1.n B.2.n) jb<|Pj (bR<|iH iu (bR<|Wr.mk<|gQ (aC 3) jQ<|gZ<|aC 4)<|bR<|Wr.mk<|gQ (aC 3) (gZ<|aO<|bW iu (aC 4)<|aO aJ) jQ)<|Wr.mk cI)<|Wr.mk aQ)<|Wr.mk aY)<|d8 (Wr.mk<|Ku 3 (bu 4)<|gk<|aG (uL (rZ B) g fY<|aG (bu 0)<|aG (bW my (aC 1)<|aO aJ)<|aG (bu 2) aQ)<|aG (gk<|aG dI<|aG (gk<|aG (bW dM (aO<|bW my (aC 1)<|aO aJ)<|aO aJ)<|aG aJ aQ) aQ) aQ)<|pP<|G7<|iH iu (bR<|Wr.mk<|gQ (aC 0) jQ<|gZ<|aO aJ)<|bR<|nJ<|dN (Ni jd rfl (B.1.n B.2.n) jb<|Pj (Wr.mk<|aC 3)<|Wr.mk cI)<|Wr.mk aQ))))
theorem GX:FF P w K mg base 21 "_law_spoilt" ["_law_game_here", "_law_cell", "_law_pool_here"] uF:=B.2.u.d B.1 λ_ _ a=>
 bJ a uw λ_ _ _ _ _ _ b=>by
 unfold yK gD fK qz;exact aq (rQ (i:=3) (az uG) ["_law_way","_law_place","_law_records"] [] 3 [] uw.n rfl (Or.inl rfl) rfl (by trivial) .nil (oJ<|aO<|uL (nH B) b fY<|aG (bu 0) aQ) (λ_ _ _ _ _ _=>Ro rfl<|xX (je<|o0 rfl)<|xX (je<|o0 rfl)<|xX (je<|o0 rfl) Lf) (λ_ _ _ _ _ _=>Bl<|iZ (RW b.u) (aO<|iT (aC 1)<|aO aJ) (aO dI)<|cF _) λ_ _ _ _ _ _=>gk<|aG (bu 0)<|aG (bu 1) aQ)<|aq (dm (iZ (sI b.u) (aO<|dZ m7 rfl (B.1.n B.2.c) wY<|cB (aC 3) cI) (aO aJ)<|cF _) (aH<|cP<|bu 0) aY)<|aq (Rb (k:=1000) (iT (aC 3)<|aO<|bW dM (aC 1)<|aO<|dZ m7 rfl (B.1.n B.2.c) wY<|cB (aC 3) cI)<|Ro rfl<|xX (je uw.n)<|xX (je uw.n) Lf)<|aq (dm (iZ (sI b.u) (aO<|iT (aC 5)<|aO aJ) (aO dI)<|cF _) (aH<|cP<|uL (PN B 20) b fY<|aG (bu 0)<|aG (bu 4)<|aG (uL (zT B) b fY<|aG (bu 5)<|aG (bW my (aC 1)<|aO<|dZ m7 rfl (B.1.n B.2.c) wY<|cB (aC 3) cI) aQ) aQ) aY)<|aH<|cP<|uL (PN B 20) b fY<|aG (bu 0)<|aG (bu 4)<|aG (uL (zQ B) b fY<|aG (bu 5)<|aG (bW my (aC 1)<|aO<|dZ m7 rfl (B.1.n B.2.c) wY<|cB (aC 3) cI)<|aG (bu 2) aQ) aQ
theorem OX(C:mi K "law" "law" Jv f o):
  oY P w K mg base (db P w) 30 f o ["_law_script"] (sw ⟨K,mg⟩ HL):=
 bJ C Zx λ_ _ _ _ _ _ a=>by
 unfold HA Ud z9 LQ;exact aq (Dz Zx.n<|uL (Lj B) a fY<|aG (uL (Ew B) a fY<|aG (bu 0)<|aG aJ aQ)<|aG (uL (Ew B) a fY<|aG (bu 0)<|aG aJ aQ) aQ)<|aq (Dz Zx.n<|uL (Ew B) a fY<|aG (bu 0)<|aG aJ aQ)<|aq (Dz Zx.n<|uL (M7 B) a fY<|aG (bW iu (aO<|gQ (aC 0) (gZ<|aO aJ)<|gZ<|aO aJ)<|aO<|j0<|Dg<|aG (uL (Ew B) a fY<|aG (bu 0)<|aG aJ aQ) aQ)<|aG (bu 2)<|aG aJ<|aG aJ<|aG (bu 1) aQ)<|aq (Dz Zx.n<|uL (O9 B) a fY<|aG (bu 3) aQ)<|aq (Dz Zx.n<|bu 3)<|aq (ou (Kc rfl (B.1.n B.2.d)<|cB (aO<|bW iu (aO aJ)<|aO<|bW dM (aO<|bW my (aC 2)<|aO aJ)<|aO aJ) cI) (je Zx.n)<|aH<|Dz Zx.n<|uL (GX B) a fY<|aG (bu 5)<|aG (uL (Em B) a fY<|aG (uL (Ew B) a fY<|aG (bu 0)<|aG (bW iu (aO aJ)<|aC 6) aQ)<|aG (bW iu (aC 6)<|aO aJ) aQ)<|aG (bu 1) aQ)<|aq (Dz Zx.n<|uL (O9 B) a fY<|aG (bu 5) aQ)<|aq (dm (wu<|pW (iZ (RW a.u) (aO<|iT (aC 4)<|aO aJ) (aO dI)<|cF _)<|uE<|iZ (RW a.u) (aO<|uL (Nf B) a fY<|aG (bu 5) aQ) (aC 7)<|cF _) (aH<|cP oN) aY)<|aH<|cP<|Zt (vL (sI a.u) (aO<|uL (Nf B) a fY<|aG (bu 3) aQ) (aC 4)<|cF _)<|Q3<|vL (sI a.u) (aO<|uL (Nf B) a fY<|aG (bu 5) aQ) (aC 7)<|cF _
end
structure X6(K:bg)(C:Addr):Prop where
 a:d5 K (.ref C) "__getattribute__" = some (some (.builtin "BaseException.__getattribute__"))
 b:d5 K (.ref C) "__getattr__" = some none
 c:d5 K (.ref C) "__class__" = some (some (.builtin "object.__class__"))
 d:W.subIn K (.ref C) (.type "BaseException")=some true
 e:W.subIn K (.ref C) (.type "object")=some true
 f:W.hasDictIn K C=true
theorem X6.i(x:X6 K C):XC K C:=⟨x.a,x.b,x.c,x.d,x.e,by
 refine oj (AS x.f) λh g _=>?_;rw[g];rfl⟩
structure K4(K:bg)(a b c d:Addr)(T:aI)(p q r s:Bool):Prop where
 a:h9 K (.ref a) T=some p
 b:h9 K (.ref b) T=some q
 c:h9 K (.ref c) T=some r
 d:h9 K (.ref d) T=some s
theorem UV{mg:eR}(o:∀{D},mg "Forgets" = some (.ref D)->D=a)(mb:∀{D},mg "NoShares" = some (.ref D)->D=b)(J:∀{D},mg "TooGreat" = some (.ref D)->D=c)(C:∀{D},mg "Unlike" = some (.ref D)->D=d)(I:X6 K a)(zb:X6 K b)(zc:X6 K c)(U:X6 K d)(w:K4 K a b c d T p q r s):
  ∀(x:Str) D u,(if x = "Forgets" then some p else if x = "NoShares" then some q else if x = "TooGreat" then some r else if x = "Unlike" then some s else none)=some u->mg x=some (.ref D)->XC K D/\h9 K (.ref D) T=some u:=by
 intro x D u e f;by_cases h:x = "Forgets"
 .rw[if_pos h] at e;cases e;subst h;rw[o f];exact⟨I.i,w.a⟩
 rw[if_neg h] at e;by_cases h:x = "NoShares"
 .rw[if_pos h] at e;cases e;subst h;rw[mb f];exact⟨zb.i,w.b⟩
 rw[if_neg h] at e;by_cases h:x = "TooGreat"
 .rw[if_pos h] at e;cases e;subst h;rw[J f];exact⟨zc.i,w.c⟩
 rw[if_neg h] at e;by_cases h:x = "Unlike"
 .rw[if_pos h] at e;cases e;subst h;rw[C f];exact⟨U.i,w.d⟩
 rw[if_neg h] at e;cases e
theorem wp{l:W.OpenLaw}{mg:eR}(X:K.In h)(G:h.Ns dQ mg)(hfa:mg "law" = some (.ref fa))(Q:Qs K)
   (nDuelError:so K dQ "DuelError" = some (some<|.ref CDuelError))
   (nForgets:so K dQ "Forgets" = some (some<|.ref J))
   (nNoPlace:so K dQ "NoPlace" = some (some<|.ref CNoPlace))
   (nNoPlan:so K dQ "NoPlan" = some (some<|.ref CNoPlan))
   (nNoShares:so K dQ "NoShares" = some (some<|.ref o))
   (nNoText:so K dQ "NoText" = some (some<|.ref CNoText))
   (nTooGreat:so K dQ "TooGreat" = some (some<|.ref CTooGreat))
   (nUnlike:so K dQ "Unlike" = some (some<|.ref U))
  (eTooGreat:DF K CTooGreat [.type "ValueError",.type "Exception",.type "BaseException",.type "object"] "ValueError.__new__" = true)
  (xForgets:X6 K J)
  (xNoShares:X6 K o)
  (xTooGreat:X6 K CTooGreat)
  (xUnlike:X6 K U)
  (uDuelErrorForgets:vS K (.ref J) (.ref CDuelError)=some true)
  (uDuelErrorNoShares:vS K (.ref o) (.ref CDuelError)=some true)
  (uDuelErrorTooGreat:vS K (.ref CTooGreat) (.ref CDuelError)=some true)
  (uDuelErrorUnlike:vS K (.ref U) (.ref CDuelError)=some true)
  (wForgets:K4 K J o CTooGreat U (.ref J) true false false false)
  (vForgets:h9 K (.type "NoneType") (.ref J)=some false)
  (wNoPlace:K4 K J o CTooGreat U (.ref CNoPlace) false false false false)
  (vNoPlace:h9 K (.type "NoneType") (.ref CNoPlace)=some false)
  (wNoPlan:K4 K J o CTooGreat U (.ref CNoPlan) false false false false)
  (vNoPlan:h9 K (.type "NoneType") (.ref CNoPlan)=some false)
  (wNoShares:K4 K J o CTooGreat U (.ref o) false true false false)
  (vNoShares:h9 K (.type "NoneType") (.ref o)=some false)
  (wNoText:K4 K J o CTooGreat U (.ref CNoText) false false false false)
  (vNoText:h9 K (.type "NoneType") (.ref CNoText)=some false)
  (wTooGreat:K4 K J o CTooGreat U (.ref CTooGreat) false false true false)
  (vTooGreat:h9 K (.type "NoneType") (.ref CTooGreat)=some false)
  (wUnlike:K4 K J o CTooGreat U (.ref U) false false false true)
  (vUnlike:h9 K (.type "NoneType") (.ref U)=some false)
  (wValueError:K4 K J o CTooGreat U (.type "ValueError") true true true true)
  (xnForgetsone:d5 K (.ref J) "one" = some none)
  (xnForgetsother:d5 K (.ref J) "other" = some none)
  (xsForgets:d5 K (.ref J) "__setattr__" = some (some<|.builtin "object.__setattr__"))
  (xkForgets:mS K (.ref J)=true)
   (xiForgets:d5 K (.ref J) "__init__" = some (some<|.ref IForgets))
  (xoForgets:(Cf K J).any (λcd=>Ju cd.mro)=true)
  (xeForgets:J2 K J IForgets [.type "ValueError",.type "Exception",.type "BaseException",.type "object"] "ValueError.__new__" = true)
  (xqForgets:QX K IForgets "Forgets.__init__" rO)
  (xnNoSharesway:d5 K (.ref o) "way" = some none)
  (xsNoShares:d5 K (.ref o) "__setattr__" = some (some<|.builtin "object.__setattr__"))
  (xkNoShares:mS K (.ref o)=true)
   (xiNoShares:d5 K (.ref o) "__init__" = some (some<|.ref INoShares))
  (xoNoShares:(Cf K o).any (λcd=>Ju cd.mro)=true)
  (xeNoShares:J2 K o INoShares [.type "ValueError",.type "Exception",.type "BaseException",.type "object"] "ValueError.__new__" = true)
  (xqNoShares:QX K INoShares "NoShares.__init__" qH)
  (xnUnlikeone:d5 K (.ref U) "one" = some none)
  (xnUnlikeother:d5 K (.ref U) "other" = some none)
  (xsUnlike:d5 K (.ref U) "__setattr__" = some (some<|.builtin "object.__setattr__"))
  (xkUnlike:mS K (.ref U)=true)
   (xiUnlike:d5 K (.ref U) "__init__" = some (some<|.ref IUnlike))
  (xoUnlike:(Cf K U).any (λcd=>Ju cd.mro)=true)
  (xeUnlike:J2 K U IUnlike [.type "ValueError",.type "Exception",.type "BaseException",.type "object"] "ValueError.__new__" = true)
  (xqUnlike:QX K IUnlike "Unlike.__init__" tQ):
  ∃fd,(∀(s) (v),B6 s fd ⟨[v],[]⟩ [("_law_script",v)])/\∀base,K.In base->base.Ns dQ mg->oY l.prog w K mg base (db l.prog w) 30 fa fd ["_law_script"] (Tq K):=by
 refine Y' Q.g.l λf fd F0 a=>?_;have e:=hfa.symm.trans<|l5 X G a;cases e;refine Z_93 F0.l λoc od kV V pm an Z ct osl zq9 lk hcd=>?_;subst zq9;refine⟨y9 "law" "law" (qU Jv) (ig Jv) (az Jv) .none kV V pm an Z ct,λs v=>.of_eq rfl,λbase kb nb=>?_⟩;have Ex:J1 K mg:=⟨⟨ _,l5 X G nTooGreat,eTooGreat⟩⟩;have g:∀{D:Addr},mg _ = some (.ref D)->D=J:=λh=>by rw[l5 X G nForgets] at h;cases h;rfl
 have j:∀{D:Addr},mg _ = some (.ref D)->D=o:=λh=>by rw[l5 X G nNoShares] at h;cases h;rfl
 have n:∀{D:Addr},mg "TooGreat" = some (.ref D)->D=CTooGreat:=λh=>by rw[l5 X G nTooGreat] at h;cases h;rfl
 have k:∀{D:Addr},mg "Unlike" = some (.ref D)->D=U:=λh=>by rw[l5 X G nUnlike] at h;cases h;rfl
 have x:∀c D,eN c=true->mg c=some (.ref D)->vS K (.ref D) (.ref CDuelError)=some true:=by
  intro c D L F;simp only[eN,pE,beq_iff_eq] at L;rcases L with((rfl|rfl)|rfl)|rfl
  .rw[g F];exact uDuelErrorForgets
  .rw[j F];exact uDuelErrorNoShares
  .rw[n F];exact uDuelErrorTooGreat
  rw[k F];exact uDuelErrorUnlike
 have I:=λ{T p q r s}=>UV (T:=T) (p:=p) (q:=q) (r:=r) (s:=s) g j n k xForgets xNoShares xTooGreat xUnlike;have b:XF K J:=⟨xForgets.i,xsForgets,xoForgets,xForgets.f⟩;have d:XF K o:=⟨xNoShares.i,xsNoShares,xoNoShares,xNoShares.f⟩;have i:XF K U:=⟨xUnlike.i,xsUnlike,xoUnlike,xUnlike.f⟩;have R:∀c C,qO c=true->mg c=some (.ref C)->XF K C/\d5 K (.ref C) "one" = some none:=by
  intro c C L F;simp only[qO,pE,beq_iff_eq] at L;rcases L with rfl|rfl
  .rw[g F];exact⟨b,xnForgetsone⟩
  rw[k F];exact⟨i,xnUnlikeone⟩
 have M:∀c C,lE c=true->mg c=some (.ref C)->XF K C/\d5 K (.ref C) "other" = some none:=by
  intro c C L F;simp only[lE,pE,beq_iff_eq] at L;rcases L with rfl|rfl
  .rw[g F];exact⟨b,xnForgetsother⟩
  rw[k F];exact⟨i,xnUnlikeother⟩
 have S:∀c C,yj c=true->mg c=some (.ref C)->XF K C/\d5 K (.ref C) "way" = some none:=by
  intro c C L F;simp only[yj,beq_iff_eq] at L;subst L;rw[j F];exact⟨d,xnNoSharesway⟩
 have Xc:JJ K mg:=⟨⟨CDuelError,l5 X G nDuelError,x⟩,⟨J,l5 X G nForgets,I wForgets,vForgets⟩,⟨CNoPlace,l5 X G nNoPlace,I wNoPlace,vNoPlace⟩,⟨CNoPlan,l5 X G nNoPlan,I wNoPlan,vNoPlan⟩,⟨o,l5 X G nNoShares,I wNoShares,vNoShares⟩,⟨CNoText,l5 X G nNoText,I wNoText,vNoText⟩,⟨CTooGreat,l5 X G nTooGreat,I wTooGreat,vTooGreat⟩,⟨U,l5 X G nUnlike,I wUnlike,vUnlike⟩,⟨(⟨kb,nb⟩:Cb K mg base).n Q.n0,I wValueError⟩,R,M,S⟩;refine oj xqForgets.l λO t A=>?_;refine oj xqNoShares.l λN m y=>?_;refine oj xqUnlike.l λP u B=>?_;have Xf:JI l.prog w K mg base:=⟨⟨⟨J,IForgets,_,_,l5 X G nForgets,⟨xeForgets,A,xkForgets⟩,b,GA t b xnForgetsone xnForgetsother (by decide) zO rfl,t.g λ_ _ _ _ _ _=>xl λ_ _ _=>rfl⟩⟩,⟨⟨o,INoShares,_,_,l5 X G nNoShares,⟨xeNoShares,y,xkNoShares⟩,d,N2 m d xnNoSharesway yx rfl,m.g λ_ _ _ _ _ _=>B_ λ_ _=>rfl⟩⟩,⟨⟨U,IUnlike,_,_,l5 X G nUnlike,⟨xeUnlike,B,xkUnlike⟩,i,GA u i xnUnlikeone xnUnlikeother (by decide) Aq rfl,u.g λ_ _ _ _ _ _=>xl λ_ _ _=>rfl⟩⟩⟩;exact((OX ⟨⟨kb,nb⟩,Q,Ex,Xc,Xf⟩ F0).u λvs H Q E hE=>by
 refine DR hE λa Y e hS hl q=>?_;subst e;obtain⟨fr,e⟩:=WJ Y hl;refine⟨λ_=>False,[.P<|Y.map D.l],λ_ z=>z.elim,.e (.P (hS.elim (λz=>.inl ⟨id,z⟩) .inr)<|Nj Y) .f,?_⟩;rw[e];intro v H' _ hv _;cases hv;exact q H')
theorem Fa{l:W.OpenLaw}{XP:(eR)->Heap->Prop}{K:Params->bg}(hn:l.most=some 63)(I:d.params.defaults=[])
  (hY:∀(w:eI) (h:Heap),YP w h->(K w.params).In h)
  (F:∀(w:eI) (mg:eR) (U:Addr) (h:Heap),(K w.params).In h->h.Ns dQ mg->mg d.name=some (.ref U)->
   ∃J:iA,(∀(s:a7) (u:aI),B6 s J ⟨[u],[]⟩ [("_law_script",u)])/\∀o:Heap,(K w.params).In o->o.Ns dQ mg->oY l.prog w (K w.params) mg o (db l.prog w) 30 U J ["_law_script"] (Tq<|K w.params)):
  W.WalkO q C XP YP l.row.toRowW d [] (λf vs=>DB f vs):=
 L2.UK hn (by decide) I ⟨rfl,by decide,by decide,rfl⟩ hY F (λ_ _ a c e _ b=>⟨a,c,rfl,b,e,λ_=>rfl⟩) (by intro _ _ _ _ _ zr5;refine ZT zr5 λ_ _ _ _ _ _ z=>?_;exact z.elim)
end K15
structure PySem.W.Fast:Prop where(tw16836763491441034068 tw63055641367031364 tw5567708657927216861 tw16370436776402278121 tw12434623023749951973 tw4599534823912123013 tw6714636336238624043 tw17811860837709747814 tw18076816446183869708 tw9738182875174971288 tw17111057784375465402 tw7794168651273134483 tw15127707839434540470 tw12099223508741781138 tw4358432706644382326 tw398534577016544185 tw10602620005406224153 tw9509810871459095621 tw10532872748970852389 tw15852122192478181928 tw10373328444903423034 tw5911754355440020928 tw5992054472782256139 tw2781790667811021919 tw18034766964562363825 tw810889405401348324 tw4678953545720186914 tw13062846817259859097 tw12411864974401881146 tw9725863051014301212 tw64974764365940452 tw17356684511948639284 tw11170207318912925280 tw10237298063916411249 tw2753973170341270093 tw8497218457986793962
 tw683032268919326561 tw16450959012888225036 tw102299730854655065 tw17608547523574457671 tw15036301934884105958 tw14715896422209102020 tw8284847909053039151 tw11577631223868712767 tw5045158685311177738 tw8272312016811054681 tw10053994187594450094 tw2883350655706294916 tw14156362338823652260 tw10241407268488512993 tw13236196415680986394 tw3782180988156716747 tw2404374554978743908 tw14450371750236670925 tw17100307349511952605 tw12246884908298208950 tw17698211608618102245 tw8404068575821932094 tw7824999868516773689 tw11408038677821660810 tw12157562387938205188 tw6726491465828682138 tw15530463991450965189 tw7056301726292128168 tw11733990273123865657 tw15765826250984898084 tw2468154475664852264 tw2613010139193055998 tw13268577965210570820 tw15980055773295837192 tw1969826032795406821 tw16582163915334984970
 tw8749455535293983820 tw381934971715031156 tw504002700821767181 tw4161502653186112682 tw1316580309042443200 tw4001706485793515295 tw18150682865325563441 tw5722076821035876319 tw13990941097905088859 tw10649000004610582738 tw894016610422817439 tw3034360160757570876 tw8160439419136165889 tw17044506874784917557 tw6167421523119880660 tw2192400834001228447 tw16965747246323995077 tw10483199614358072180 tw14264291183624396869 tw16116893056675246240 tw898368587205867359 tw5079614424313709552 tw10973978351278961819 tw14894037956782876146 tw11944001293954138840 tw7162005200645249055 tw1618273490349943815 tw14921562969571836075 tw5872659392697320114 tw15275873256173932231 tw10318494293776287395 tw214127896547102470 tw17795865397311728459 tw17594817956815145504 tw6414439794045395161 tw7423400484007505935
 tw9282111329064662827 tw438522113923275459 tw8356671029391305331 tw240674423459628280 tw13725980370460426523 tw4385720135633423144 tw1117210154258604696 tw1185366024843454650 tw14647897843718275770 tw2026707625166009240 tw7385834243681853695 tw102536966980664041 tw11720457009205368079 tw3083572141055847414 tw15516996677047957957 tw4280118404070882826 tw14162945915061326467 tw16084140762905510696 tw12035006664689974049 tw1377424760135533406 tw7597416237195939333 tw7461625469977981789 tw12885909442031071238 tw609530810302304162 tw11709023240576668911 tw11671059530471296522 tw4609679016695246881 tw2028877080609735128 tw10601228621334315439 tw18153977789140728012 tw14510173141481344121 tw8528464390433346578 tw6491634661706923808 tw8009559956116154308 tw3115697668426621857 tw16348555633504021102
 tw4351964423994436350 tw17540028876833423208 tw17102674198559901466 tw11563449975879637547 tw16078814854668020201 tw16153221654514484947 tw13104260595942950488 tw5096775471630434420 tw4067561014171151813 tw16226240921463911294 tw3025762047927057415 tw9988021331145978586 tw5783089703604582209 tw3210769965198432071 tw8218829431226807093 tw7653246120331464505 tw8396863894722295244 tw10663462136971006170 tw12207941733664766105 tw1148799581286535844 tw8492379698513957798 tw12822987249796790764 tw16579792888307476014 tw11337863754429102592 tw11364956825620477868 tw15404072427099301042 tw12691727695067124884 tw5840011602943510063 tw4449329457213783021 tw9627955550726800752 tw7311350722789591980 tw913627031426319688 tw7255083244312372383 tw4782453503729717814 tw405231312152620205 tw1350151414511601949
 tw1220027553355878025 tw12065399753403163898 tw10414636593514184886 tw16511958468391015704 tw15881785130508824827 tw4634245760720413968 tw5208776448891855263 tw17299911471244495071 tw16814519516742406232 tw7559824495903494182 tw10961641439826754232 tw12288394480441046100 tw5760247849276453249 tw10744670403986852682 tw9591816532435642662 tw11091910159573460103 tw10497160551037891902 tw18007268344278103260 tw8724429271204002363 tw11545980421819452074 tw17611882152487517528 tw7909564320881456021 tw2674013861082155653 tw11943221837763587513 tw12479090610905552656 tw11986150099645144881 tw11010237662245274779 tw10623439126326366690 tw12412359545018087109 tw8241948642355179494 tw6617008953779242100 tw10864379511626404119 tw14966683895645047247 tw14658036828651758375 tw794835033023544011 tw6920863601729231377
 tw5999665627529426560 tw57442908483672159 tw5715983141334281633 tw5204641624275687952 tw5128838533282566654 tw504558749566975915 tw4770147019285158011 tw4672761283141973440 tw4525024420629613944 tw4454657226390276156 tw4352586440971638399 tw397954630957147661 tw3817945389871871093 tw351888706004067880 tw2769213109704159028 tw2764783809674628694 tw240990782277940795 tw235502171001557279 tw2008218269393812468 tw18431764522698376782 tw17901254310326851389 tw1770998820405458039 tw17138199326912228825 tw17095422878359419625 tw17011753202454966556 tw16949079225972431397 tw16786366192223487612 tw16628580008681608029 tw16375372626669549689 tw15669596624751426737 tw15067135030621583035 tw14954738746724848261 tw14491074257921477144 tw13903986257436850084 tw13665717175145995829 tw13306207957405478008 tw13012467665841675292
 tw12880111700808780315 tw12737440239171288811 tw12527151658685508913 tw1249833979297460256 tw12216698894757447795 tw962785467705673005 tw9616172900989354448 tw9475473780739216220 tw7911154204806779008 tw7800964607674217199 tw6922075864964829459 tw6604960855644723066 tw6308278249894983396 tw11772288847957606301 tw11000919513794590192 tw11217112096125752387 tw4454893156152312835 tw5718084319830279254 tw33443112100802937 tw2957077555353971368 tw12561144002427293047 tw9623780967059828484 tw3338998015965289102 tw9399108538447029659 tw724284224170854538 tw6875157964741499482 tw6357393976318657367 tw8157049282411926562 tw7791731377449633905 tw4442881850264242964 tw2583522770316262468 tw14489075715167039188 tw11943548621903357401 tw12265597496250667151 tw9783417084471823539 tw9186495777903627666 tw8011199566030983325
 tw6617069207663948712 tw14419475649000168273 tw6927709494453256780 tw7976378995270158548 tw722758527203376272 tw6276429972350792388 tw5736767752963865017 tw526284017022006679 tw4906477185555532367 tw14418451811732553182 tw7100532162371183345 tw574115768622926873 tw5382671828773569178 tw4832689545370087943 tw18025330297481105196 tw17626389578679483074 tw16510142700031770710 tw10330276508944848951 tw13467456107567019834 tw7455269012935182682 tw6340557273886701802 tw5755585789171576824 tw1911822634179666683 tw18077915104487443752 tw17904157812929909073 tw15833551975054623657 tw15652110892963774646 tw14982463140260870167 tw12276431621098025731 tw9658038733451376220 tw9479854426042585903 tw9449462993800880749 tw9425868724932032480 tw9374026366514503322 tw927435678166265456 tw9121662995863313636 tw9014432067603752419
 tw8928814249711258185 tw8845479088450836432 tw8518878666170776668 tw8490016939318498886 tw8303526097338746399 tw8277380976443253956 tw7988946782671309623 tw7938952304530950769 tw782304178855857305 tw7727140597822974373 tw7714120285299757196 tw762440697311043047 tw742712886067767561 tw7395703340227006657 tw7381413270049642969 tw6970575450431268401 tw6670158846673073552 tw6639772509686808840 tw6437031472609280038 tw631351940069421112 tw6210436611089525473 tw6209974555291909468 tw6155253798331795984 tw590766742961865646 tw5797334869904739506 tw575796146148768670 tw5738338725635952106 tw5598133269285829097 tw5559774589427501555 tw5448072300058057851 tw5375878849172515536 tw5165348658576358341 tw5089268861516062914 tw4507367745082013908 tw4386766079486413990 tw4140074831749368322 tw4094741874512650996
 tw3845862434809224526 tw3842954300973208577 tw3807094101702995728 tw3444099509550582087 tw3439184556926169628 tw3423392664519323191 tw272853773825628431 tw2159293900880715937 tw1937150654479138016 tw18415808479103597543 tw17967311500606443641 tw17938638267701165113 tw17863044770268574175 tw17861931251188736438 tw17693576130279859371 tw17573458816608290370 tw17213515554608077415 tw17211857347035431358 tw17037738214488250995 tw1700700940730610311 tw16951623721217941435 tw16817355299925393252 tw16267344515878281858 tw16177447408427699588 tw16088197355404677753 tw16027262523215459104 tw16015720084585778505 tw15978745846423906720 tw15762421036151605300 tw15652614241693676709 tw1553838996586081574 tw15524504174366346558 tw15501184235871508825 tw15398446965447054017 tw15141299969589520457 tw15133642109070844834
 tw15082693639416552392 tw15029598001621477842 tw1495464439891978692 tw14864720760647711432 tw14844979339341284785 tw14808743374335878952 tw14796314184953358419 tw14744583389695658202 tw14732788123149882232 tw14695520762610673248 tw14679882472492885945 tw14531189039136984164 tw14386657894581077557 tw14043303505716706961 tw14019963147475524549 tw13899409916219052177 tw13716966430814970259 tw13653975587435252433 tw13462679806940021836 tw13255872712467203303 tw12829442685712039254 tw12706731859210666830 tw12700826705745278185 tw12457070848243685862 tw12243623754058537801 tw12131251767635084457 tw12106862539548199133 tw11968231423903358110 tw11796701673159859859 tw11631098939388916826 tw1140860150514159953 tw11391262511849794137 tw11259023096287394041 tw11028614859267630434 tw10787335071997038933
 tw10721866903833682508:True)
open PySem PySem.W PyProof.Rows
set_option maxRecDepth 100000 in
set_option maxHeartbeats 0 in
theorem PySem.Challenge.cw_hushduel_k15_what_is_not_sound_holds : PySem.Challenge.rw_hushduel_k15_what_is_not_sound.Holds := by
 w_on;o_law;k_head;(case hw=>w_witness2)
 k_fill
 refine K15.Fa (l:=PySem.Challenge.rw_hushduel_k15_what_is_not_sound) rfl rfl (λw h Y=>PySem.W.kIn_of Y) ?F
 case F=>
  intro w mg e h KX G d;refine' K15.wp KX G d ⟨?_,?_,?_,?_,?_,?_,?_,?_,?_,?_,?_,?_,?_,?_,?_,?_,?_,?_,?_,?_,?_,?_,?_,?_,?_,?_,?_,?_,?_,?_,?_,?_,?_,?_,?_,?_,?_,?_,?_,?_,?_,?_,?_,?_,?_,?_,?_,?_,?_,?_,?_,?_,?_,?_,?_,?_,?_,?_,?_,?_,?_,?_,?_,?_,?_,?_,?_,?_,?_,?_,?_,?_,?_,?_,?_,?_⟩ ?_ ?_ ?_ ?_ ?_ ?_ ?_ ?_ ?eTooGreat ?_ ?_ ?_ ?_ ?_ ?_ ?_ ?_ ?_ ?_ ?_ ?_ ?_ ?_ ?_ ?_ ?_ ?_ ?_ ?_ ?_ ?_ ?_ ?_ ?_ ?_ ?_ ?_ ?xoForgets ?xeForgets ?xqForgets ?_ ?_ ?_ ?_ ?xoNoShares ?xeNoShares ?xqNoShares ?_ ?_ ?_ ?_ ?_ ?xoUnlike ?xeUnlike ?xqUnlike
  all_goals try first | (refine' F.qd ?a ?l ?c ?k;(case a=>k_is);(case l=>k_is);(case c=>k_is);(case k=>k_is)) | (refine' F.ck ?a ?b;(case a=>k_is);(case b=>k_is)) | (refine' F.ci ?a;(case a=>k_is)) | (unfold F.NO;k_is) | (refine' K15.X6.mk ?_ ?_ ?_ ?_ ?_ ?_<;>k_is) | (refine' K15.K4.mk ?_ ?_ ?_ ?_<;>first | kit_is | (unfold A5;rw [if_pos (by simp)])) | (with_reducible show A5 _ _ _=_;first | kit_is | (unfold A5;rw [if_neg (by simp)];k_is) | k_is) | (with_reducible show PySem.W.exmOne _ _ _=_;kts_exm) | k_is
  (case eTooGreat=>k_exc)
  (case xoForgets=>kernel_rfl)
  (case xeForgets=>kernel_rfl)
  (case xqForgets=>(refine' F.qx ?i ?l ?c ?k;(case i=>k_is);(case l=>k_is);(case c=>k_is);(case k=>k_is)))
  (case xoNoShares=>kernel_rfl)
  (case xeNoShares=>kernel_rfl)
  (case xqNoShares=>(refine' F.qx ?i ?l ?c ?k;(case i=>k_is);(case l=>k_is);(case c=>k_is);(case k=>k_is)))
  (case xoUnlike=>kernel_rfl)
  (case xeUnlike=>kernel_rfl)
  (case xqUnlike=>(refine' F.qx ?i ?l ?c ?k;(case i=>k_is);(case l=>k_is);(case c=>k_is);(case k=>k_is)))
