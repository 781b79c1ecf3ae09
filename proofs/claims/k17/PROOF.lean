import PyProof.Rows.All
import Wide.All
import OpenK.AllK
import Wide.FinOn
import Lean
import PyProof.EqAt
import PyProof.EqKinds
import PyProof.TupleCall
import PyProof.TupleKey
import PyProof.Rows.Catch
import KE.KRevSl
import PyProof.P3Eq
import KE.LcSums
import PyProof.EnumMake
import PyProof.StrWalks
import PyProof.Conv_int_bool
import KE.KIntText
import PyProof.Rows.StrNews2
import PyProof.StrBlock2
import PyProof.Rows.StrNews
import PyProof.StrLawsRepr
import PyProof.ReprStr
import PyProof.ReprRoads
import PyProof.DictIter
import PyProof.Rows.SetFrom
import KE.KDictList
import KE.KDictOf
import PyProof.AttrMissHeap
import KE.KEqDict
import PyProof.DictItems
import KE.KPairComp
import PyProof.Rows.Range3
import KE.IntTextText
import PyProof.StrLawsFirst
import PyProof.ReprBulk
import PyProof.ZipIter
import PyProof.Rows.ZipGen
import PyProof.TupleIter
import PyProof.Draws
import PyProof.ListRange
import PyProof.Rows.MatchSeqLen
import PyProof.SumAnyB
import PyProof.ExcInit
import PyProof.InstStoreFacts
import PySem.Challenge.RW_hushduel_k17_whole_nobody_forgets
set_option compiler.extract_closed false
set_option genSizeOf false
noncomputable section
open PySem renaming wpAny_bind->ae,starEach->ag,wpAny_pure->ai,sizeLine->av,Value->aw,Shared->aS,wpAny->bp,Program->bq,model->b6,bootBuiltins->cc,mainGlobals->cE,World->dA,Around->dP,wpAny_newObj_type->eD,wpAny_loadPart_at->eJ,swapsWith->fg,wpAny_mono->fx,compareOp->fR,wpAny_Call_Name_kw->gc,foldedSetIterable->gE,FuncData->gN,wpAny_holding->gS,attributeBase->gT,wpAny_call_entry->gX,binaryOp->hJ,backTo->hV,wpAny_field->hZ,sysModules->ij,wpAny_typeNameOfWhole_valiter->ip,wpAny_callSpecial?_slot->iA,wpAny_truthy_bool->iF,behindInMarks->i6,Paired->jI,wpAny_specialOf->j3,assignEach->ka,wpAny_passesOwn->kc,wpAny_typeNameOf_valiter->kq,mem_of_lookup->kC,wpAny_setField->kM,wpAny_execs_nil->kR,sliceBounds->kT,wpAny_isOneOf_valiter->kX,wpAny_standAt->k8,wpAny_pyIter_list->k9,codeAny_call_builtin->ly,wpAny_isInstance->l6,wpAny_typeOf->mf,wpAny_pyNext_list_item->mP,wpAny_dictEntries->nh,plainObj_wpAny_Assign_Attribute->nI,GenState->nL,wpAny_pyIter_listiter->nS,codeAny_mono->nV,PyData->oQ,swapsWithSole->oT,swappedStores->pd,wpAny_rule->pf,cLine->pE,sizeLine_eq->pV,keywordEach->qf,Keyword->qh,wpAny_of_eq->qr,wpAny_newFunctionEnv_cells->rg,wpAny_seqItems->si,Scope->sj,wpAny_fieldsOf->sF,firstArgMember->sL,slot_list_getitem->sR,typeIs_str->sT,wpAny_getItem_list_slice->tf,typeIs_int->tj,wpAny_comprehension_free->tq,NameKind->uk,wpAny_attempt->vv,wpAny_execs_cons->vS,noFill_tuple_add->wm,assign->xi,PassesOwn->xo,letOwnedTupleGo->xp,rawInt->xt,codeAny->xw,concat_meets->xy,getItem->xA,ExcBaseFacts->xD,wpAny_dictEpoch->yi,wpAny_call->yB,typeLookup->yT,recursionLimit->zh,wpAny_loadPart->zi,dictSetDefault->zo,isSubtype_stop->zt,holding->zw,IsRangeIter->zC,subscripted->zD,excClassObj->zS,Builtin->Ap,assignInOrder->AG,pyNext->AH,cellsFrom->AJ,seq_tuple_add->AL,evalPart_none->AM,backToKw->AO,isInstance->A1,BindsTo->A2,callerA->A4,valueAt->A5,IsPart->BA,atKey->BE,bindName->BG,call->BU,JoinOk->BY,bindL->B2,bindC->B3
open PySem.Heap renaming get?_push_of_some->af,lt_size->ay,get?_push_size->aT,get?_update_other->cf,get?_update_self->dS,get?_update_ne->iS,SameBut->iX,get?_push_ne->nB,MadeExcOf->so,get?_none_of_le->yY,size_push->zk,ExtBut->BO
open List renaming mem_cons_of_mem->ah,mem_cons_self->ar,map_cons->aE,size_toArray->a8,getElem?_eq_getElem->a9,getElem?_map->bg,length_append->bt,mem_cons->bE,replicate->bP,mem_singleton->cb,mem_append->cm,length_map->cp,append_nil->cw,range->cx,length_cons->cK,getElem?_append_left->cS,getElem?_set_self->c8,getElem?_append_right->c9,getD_eq_getElem?_getD->dc,getElem?_set_ne->dn,lookup_cons->dy,map_append->dE,mem_append_right->dQ,mem_map->d3,getElem?_eq_some_iff->d4,length_singleton->eM,getElem?_replicate->fy,append_assoc->fF,map_map->gv,lookup->ia,length_replicate->ic,mem_filterMap->i7,mem_range->js,mem_of_mem_take->jS,reverse_cons->kl,find?_cons->ko,map_congr_left->kG,length_take->kK,range'_succ->kL,take_of_length_le->kP,length->kS,range_eq_range'->l0,pairwise_append->l3,length_drop->l7,filterMap_cons->l8,zipIdx_map_fst->l9,mem_map_of_mem->ma,range'->md,any_cons->mr,foldl_cons->mx,pairwise_singleton->mI,flatMap_cons->nv,getElem?_eq_none->og,any_map->om,flatMap_nil->oB,nil_append->pz,nodup_cons->p9,of_mem_zip->qa,getElem?_range->qq,reverse_append->qA,map_id->qS,map_nil->r6,getElem?_drop->sg,drop_eq_getElem_cons->sA,getElem?_take_of_lt->sQ,all_cons->ui,append_cancel_left->vE,getElem_mem->wx,range_succ_eq_map->w4,mem_filter->xa,length_nil->xE,forIn_cons->xI,dropLast_eq_take->x8,length_filter_le->yA,mem_append_left->y3,mem_of_getElem?->y6,mem_of_mem_drop->zd,flatMap_append->AA,sum_cons->AU,map_take->AX
open Nat renaming le_refl->aI,ne_of_lt->bo,lt_of_lt_of_le->br,le_trans->dr,lt_irrefl->eT,zero_le->eW,lt_succ_of_lt->kr,ne_of_gt->nN,succ_le_succ->oC,strongRecOn->qB,zero_add->rS,add_assoc->ub,le_succ->vi,lt_succ_self->wq,min_eq_left->yk,pow_le_pow_right->y7,mul_le_mul_right->ze,le_of_dvd->AS,le_of_lt->A8,le_of_eq->BB,gcd_comm->BD,Coprime->BQ
open PySem.W renaming kitOne->a0,Frag->a7,kitOne->bS,findIn->cq,kia_one->iN,hideAll_get->kA,mg_of->kH,looks_findIn->kN,keepIn->la,any_some->nE,nsIn->oq,hasDictIn->p0,callWith_K->rX,exmOne->r9,clsIn->sv,subIn->uS,looks_subIn->vc,looks_clsIn->vF,cellsFrom_some->vT,fnOf->v3,of_hideAll->xb,hideAll->AF,codeIn->AK,isNs_of_in->BC,kitAny->BI,excIn->B0
open Bool renaming false_ne_true->bb,false_eq_true->fT,and_eq_true->g7,or_eq_true->mw,eq_iff_iff->pT,false_or->ve,and_true->AW
open Rat renaming divInt->bX,num_divInt_den->mB,divInt_eq_divInt_iff->ua,divInt_add_divInt->yy,add_assoc->AV
open PySem.Value renaming ref->b0,none->eP,builtin->iq,bool->ng,int->AB,str->AD,type->BS
open Option.some renaming inj->b9
open PySem.Str renaming ofString->cy,ofString_eq_toList->w9,empty->BN
open PySem.PyData renaming eqv->d5,strOk->g9,eqvAll->ja,canLay0->l5,str->nK,depth->oo,canLayAll0->tP,depthAll->yn
open Or renaming inr->eB,inl->eC
open PyProof.Rows renaming callWith_type1->eI,slot_tuple_getitem->kg,envOfC->qc,assignInOrder_cons->rV,kindOf->sP,AllBare->uj,subscriptTail->uu,Subscript_->A3
open PySem.F renaming slot_dict_valueiterator_next->eK,plainAttrs_list->iE,slot_tuple_hash->ku,args_dict_valueiterator_next_1->lh,excAttr_ValueError->lI,entry_dict_valueiterator_next->lP,args_tuple_add_2->me,entry_tuple_add->mn,slot_tuple_iterator_next->mM,slot_tuple_add->mS,typeOf_object_class->nX,slot_dict_values_iter->oz,slot_dict_setdefault->pe,excBase_ValueError->rj,slot_list_append->tw,type_list_append->tz,slot_dict_values->tJ,plainAttrs_dict->vj,slot_list_pop->x9,type_list_pop->ya,slot_int_mul->y9,slot_gs_get->AQ
open True renaming intro->eS
open False renaming elim->fq
open PySem.NameKind renaming free->fA,cell->kF
open Option renaming bind_eq_some_iff->fN,map_some->iP,map_eq_some_iff->nc,isSome_map->A6
open Array renaming getElem?_eq_some_iff->fS,append_assoc->ml,length_toList->pS,getElem?_eq_getElem->sC,toList->xh,forIn_toList->AE,find?_toList->AI
open PySem.Builtin.Tuple renaming tupleHashOf->gy,tupleExact->ki,tupleItemsOf->qV
open PySem.SeqAt renaming shaped->gL
open Int renaming fdiv_eq_ediv_of_nonneg->hU,natAbs_dvd_natAbs->i9,toNat_natCast->kd,mul_comm->k6,mul_assoc->lj,emod_lt_of_pos->mE,emod_nonneg->qE,eq_of_mul_eq_mul_right->rL,gcd->sM,eq_ofNat_of_zero_le->vx,natAbs_mul->zv,ediv_one->Bz
open PySem.Heap.SameBut renaming update->ib
open Ne renaming symm->ix
open PySem.PassesOwn renaming leaving->iL
open PySem.Builtin.Int renaming intBits->iO,intTooBig->xB
open Classical renaming choose_spec->i8,em->sh,choose->BF
open PySem.Builtin.Slice renaming slicePlaces->jv,sliceAdjust->l4,sliceApplied->rh
open PySem.Builtin.Range renaming rangeSize->kB,small->Au
open PySem.Obj renaming mapFields->kD,data_mapFields->mo,mapSeq->pj,isFreed_of_fields->xC,data_mapDictKeys->y8
open PySem.Builtin.Dict_items renaming ownsTuple->kQ
open PySem.Builtin.List renaming listExtendWith->kU,listTooLong->mh,listSameRef->tF,listItems->w8
open PySem.Paired renaming length->k7
open PySem.Calls renaming spliced_cons->mm,callWith_builtin->mT,evalArgs_plain->oP,Name_function_global->rf,spliced_nil->sN
open Char renaming toNat->nt
open PySem.W.Looks renaming here->oy
open ForInStep renaming yield->qk
open PySem.Code renaming quiet_builtin->sf,isFrame->Bn
open List.Pairwise renaming nil->tm
open PySem.Txt renaming slice->x6,join->AR,mul->B1
open PySem.Builtin.Dict renaming showsAll->yb
open PySem.Around renaming frames_deeper->y4,under->A9
open PySem.EntryCells renaming newEntry->zI
open PySem.Builtin.Str renaming tooLong->As
open PySem.Heap.IsSliceOf renaming new->AN
open Sum renaming inl->AY,inr->AZ
open PySem.StrLaws renaming sliceText->A7
open Prod renaming fst->BH
open PySem.Data renaming fields->BM
abbrev Zab:=PySem.Addr->Prop
abbrev Zaa:=PySem.Str->Option PySem.Value
abbrev Zp:=List<|PySem.Addr×PySem.Obj
abbrev Zl:=PySem.Value->PySem.Shared->Prop
theorem xq5 {A B C D E:Sort _}{R Q:A->B->C->D->E->Prop}{P:Prop}(h:∃a b c d e,R a b c d e/\Q a b c d e)(k:∀a b c d e,R a b c d e->Q a b c d e->P):P:=by
 obtain⟨a,b,c,d,e,r,q⟩:=h;exact k a b c d e r q
theorem xq7 {A B C D E F G:Sort _}{R Q S T:A->B->C->D->E->F->G->Prop}{P:Prop}(h:∃a b c d e f g,R a b c d e f g/\Q a b c d e f g/\S a b c d e f g/\T a b c d e f g)(k:∀a b c d e f g,R a b c d e f g->Q a b c d e f g->S a b c d e f g->T a b c d e f g->P):P:=by
 obtain⟨a,b,c,d,e,f,g,r,q,s,t⟩:=h;exact k a b c d e f g r q s t
theorem xq2 {A B:Sort _}{R Q S:A->B->Prop}{P:Prop}(h:∃a b,R a b/\Q a b/\S a b)(k:∀a b,R a b->Q a b->S a b->P):P:=by
 obtain⟨a,b,r,q,s⟩:=h;exact k a b r q s
theorem xl1 {A:Type _}{us:List A}(h:us.length=1):∃a,us=[a]:=by
 cases us with
 |nil=>cases h
 |cons a t=>cases t with
  |nil=>exact⟨a,rfl⟩
  |cons _ _=>cases h
theorem xl0 {A:Type _}{us:List A}{n:Nat}(h:us.length=n+1):∃a t,us=a::t/\t.length=n:=by
 cases us with
 |nil=>cases h
 |cons a t=>exact⟨a,t,rfl,Nat.succ.inj h⟩
theorem xl2 {A:Type _}{us:List A}(h:us.length=2):∃a b,us=[a,b]:=by
 obtain⟨a,t,rfl,h'⟩:=xl0 (n:=1) h;obtain⟨b,rfl⟩:=xl1 h';exact⟨a,b,rfl⟩
theorem xl3 {A:Type _}{us:List A}(h:us.length=3):∃a b c,us=[a,b,c]:=by
 obtain⟨a,t,rfl,h'⟩:=xl0 (n:=2) h;obtain⟨b,c,rfl⟩:=xl2 h';exact⟨a,b,c,rfl⟩
theorem xl4 {A:Type _}{us:List A}(h:us.length=4):∃a b c d,us=[a,b,c,d]:=by
 obtain⟨a,t,rfl,h'⟩:=xl0 (n:=3) h;obtain⟨b,c,d,rfl⟩:=xl3 h';exact⟨a,b,c,d,rfl⟩
set_option Elab.async false
set_option linter.all false
set_option maxRecDepth 100000
theorem Fe {P0 P1 P2 P3 P4:Prop}{Z:Prop}(h:P0/\P1/\P2/\P3/\P4)(z:P0->P1->P2->P3->P4->Z):Z:=by
 obtain⟨h0,h1,h2,h3,h4⟩:=h;exact z h0 h1 h2 h3 h4
theorem uU {P0 P1 P2 P3 P4 P5:Prop}{Z:Prop}(h:P0/\P1/\P2/\P3/\P4/\P5)(z:P0->P1->P2->P3->P4->P5->Z):Z:=by
 obtain⟨h0,h1,h2,h3,h4,h5⟩:=h;exact z h0 h1 h2 h3 h4 h5
theorem afE {Ta Tb Tc Td Te Tf Tg Th Ti Tj:Sort _}{P0 P1:Ta->Tb->Tc->Td->Te->Tf->Tg->Th->Ti->Tj->Prop}{Z:Prop}(h:∃a b c d e f g h i j,P0 a b c d e f g h i j/\P1 a b c d e f g h i j)(z:∀a,∀b,∀c,∀d,∀e,∀f,∀g,∀h,∀i,∀j,P0 a b c d e f g h i j->P1 a b c d e f g h i j->Z):Z:=by
 obtain⟨a,b,c,d,e,f,g,h,i,j,h0,h1⟩:=h;exact z a b c d e f g h i j h0 h1
theorem afT {Ta Tb Tc Td Te Tf Tg Th Ti Tj Tk Tl:Sort _}{P0 P1:Ta->Tb->Tc->Td->Te->Tf->Tg->Th->Ti->Tj->Tk->Tl->Prop}{Z:Prop}(h:∃a b c d e f g h i j k l,P0 a b c d e f g h i j k l/\P1 a b c d e f g h i j k l)(z:∀a,∀b,∀c,∀d,∀e,∀f,∀g,∀h,∀i,∀j,∀k,∀l,P0 a b c d e f g h i j k l->P1 a b c d e f g h i j k l->Z):Z:=by
 obtain⟨a,b,c,d,e,f,g,h,i,j,k,l,h0,h1⟩:=h;exact z a b c d e f g h i j k l h0 h1
theorem Cv {Ta:Sort _}{P0 P1 P2 P3:Ta->Prop}{Z:Prop}(h:∃a,P0 a/\P1 a/\P2 a/\P3 a)(z:∀a,P0 a->P1 a->P2 a->P3 a->Z):Z:=by
 obtain⟨a,h0,h1,h2,h3⟩:=h;exact z a h0 h1 h2 h3
theorem Ud {Ta:Sort _}{P0 P1 P2 P3 P4:Ta->Prop}{Z:Prop}(h:∃a,P0 a/\P1 a/\P2 a/\P3 a/\P4 a)(z:∀a,P0 a->P1 a->P2 a->P3 a->P4 a->Z):Z:=by
 obtain⟨a,h0,h1,h2,h3,h4⟩:=h;exact z a h0 h1 h2 h3 h4
theorem Ae {Ta Tb:Sort _}{P0 P1 P2:Ta->Tb->Prop}{Z:Prop}(h:∃a b,P0 a b/\P1 a b/\P2 a b)(z:∀a,∀b,P0 a b->P1 a b->P2 a b->Z):Z:=by
 obtain⟨a,b,h0,h1,h2⟩:=h;exact z a b h0 h1 h2
theorem Aq {Ta Tb:Sort _}{P0 P1 P2 P3:Ta->Tb->Prop}{Z:Prop}(h:∃a b,P0 a b/\P1 a b/\P2 a b/\P3 a b)(z:∀a,∀b,P0 a b->P1 a b->P2 a b->P3 a b->Z):Z:=by
 obtain⟨a,b,h0,h1,h2,h3⟩:=h;exact z a b h0 h1 h2 h3
theorem xn {Ta Tb:Sort _}{P0 P1 P2 P3 P4:Ta->Tb->Prop}{Z:Prop}(h:∃a b,P0 a b/\P1 a b/\P2 a b/\P3 a b/\P4 a b)(z:∀a,∀b,P0 a b->P1 a b->P2 a b->P3 a b->P4 a b->Z):Z:=by
 obtain⟨a,b,h0,h1,h2,h3,h4⟩:=h;exact z a b h0 h1 h2 h3 h4
theorem Ke {Ta Tb:Sort _}{P0 P1 P2 P3 P4 P5:Ta->Tb->Prop}{Z:Prop}(h:∃a b,P0 a b/\P1 a b/\P2 a b/\P3 a b/\P4 a b/\P5 a b)(z:∀a,∀b,P0 a b->P1 a b->P2 a b->P3 a b->P4 a b->P5 a b->Z):Z:=by
 obtain⟨a,b,h0,h1,h2,h3,h4,h5⟩:=h;exact z a b h0 h1 h2 h3 h4 h5
theorem O8 {Ta Tb Tc:Sort _}{P0 P1:Ta->Tb->Tc->Prop}{Z:Prop}(h:∃a b c,P0 a b c/\P1 a b c)(z:∀a,∀b,∀c,P0 a b c->P1 a b c->Z):Z:=by
 obtain⟨a,b,c,h0,h1⟩:=h;exact z a b c h0 h1
theorem Ox {Ta Tb Tc:Sort _}{P0 P1 P2:Ta->Tb->Tc->Prop}{Z:Prop}(h:∃a b c,P0 a b c/\P1 a b c/\P2 a b c)(z:∀a,∀b,∀c,P0 a b c->P1 a b c->P2 a b c->Z):Z:=by
 obtain⟨a,b,c,h0,h1,h2⟩:=h;exact z a b c h0 h1 h2
theorem Qw {Ta Tb Tc:Sort _}{P0 P1 P2 P3:Ta->Tb->Tc->Prop}{Z:Prop}(h:∃a b c,P0 a b c/\P1 a b c/\P2 a b c/\P3 a b c)(z:∀a,∀b,∀c,P0 a b c->P1 a b c->P2 a b c->P3 a b c->Z):Z:=by
 obtain⟨a,b,c,h0,h1,h2,h3⟩:=h;exact z a b c h0 h1 h2 h3
theorem Vf {Ta Tb Tc:Sort _}{P0 P1 P2 P3 P4:Ta->Tb->Tc->Prop}{Z:Prop}(h:∃a b c,P0 a b c/\P1 a b c/\P2 a b c/\P3 a b c/\P4 a b c)(z:∀a,∀b,∀c,P0 a b c->P1 a b c->P2 a b c->P3 a b c->P4 a b c->Z):Z:=by
 obtain⟨a,b,c,h0,h1,h2,h3,h4⟩:=h;exact z a b c h0 h1 h2 h3 h4
theorem GD {Ta Tb Tc:Sort _}{P0 P1 P2 P3 P4 P5:Ta->Tb->Tc->Prop}{Z:Prop}(h:∃a b c,P0 a b c/\P1 a b c/\P2 a b c/\P3 a b c/\P4 a b c/\P5 a b c)(z:∀a,∀b,∀c,P0 a b c->P1 a b c->P2 a b c->P3 a b c->P4 a b c->P5 a b c->Z):Z:=by
 obtain⟨a,b,c,h0,h1,h2,h3,h4,h5⟩:=h;exact z a b c h0 h1 h2 h3 h4 h5
theorem af9 {Ta Tb Tc Td:Sort _}{P0:Ta->Tb->Tc->Td->Prop}{Z:Prop}(h:∃a b c d,P0 a b c d)(z:∀a,∀b,∀c,∀d,P0 a b c d->Z):Z:=by
 obtain⟨a,b,c,d,h0⟩:=h;exact z a b c d h0
theorem aaQ {Ta Tb Tc Td:Sort _}{P0 P1:Ta->Tb->Tc->Td->Prop}{Z:Prop}(h:∃a b c d,P0 a b c d/\P1 a b c d)(z:∀a,∀b,∀c,∀d,P0 a b c d->P1 a b c d->Z):Z:=by
 obtain⟨a,b,c,d,h0,h1⟩:=h;exact z a b c d h0 h1
theorem aek {Ta Tb Tc Td:Sort _}{P0 P1 P2:Ta->Tb->Tc->Td->Prop}{Z:Prop}(h:∃a b c d,P0 a b c d/\P1 a b c d/\P2 a b c d)(z:∀a,∀b,∀c,∀d,P0 a b c d->P1 a b c d->P2 a b c d->Z):Z:=by
 obtain⟨a,b,c,d,h0,h1,h2⟩:=h;exact z a b c d h0 h1 h2
theorem wg {Ta Tb Tc Td:Sort _}{P0 P1 P2 P3 P4:Ta->Tb->Tc->Td->Prop}{Z:Prop}(h:∃a b c d,P0 a b c d/\P1 a b c d/\P2 a b c d/\P3 a b c d/\P4 a b c d)(z:∀a,∀b,∀c,∀d,P0 a b c d->P1 a b c d->P2 a b c d->P3 a b c d->P4 a b c d->Z):Z:=by
 obtain⟨a,b,c,d,h0,h1,h2,h3,h4⟩:=h;exact z a b c d h0 h1 h2 h3 h4
theorem af7 {Ta Tb Tc Td Te:Sort _}{P0:Ta->Tb->Tc->Td->Te->Prop}{Z:Prop}(h:∃a b c d e,P0 a b c d e)(z:∀a,∀b,∀c,∀d,∀e,P0 a b c d e->Z):Z:=by
 obtain⟨a,b,c,d,e,h0⟩:=h;exact z a b c d e h0
theorem Ge {Ta Tb Tc Td Te:Sort _}{P0 P1:Ta->Tb->Tc->Td->Te->Prop}{Z:Prop}(h:∃a b c d e,P0 a b c d e/\P1 a b c d e)(z:∀a,∀b,∀c,∀d,∀e,P0 a b c d e->P1 a b c d e->Z):Z:=by
 obtain⟨a,b,c,d,e,h0,h1⟩:=h;exact z a b c d e h0 h1
theorem aga {Ta Tb Tc Td Te:Sort _}{P0 P1 P2 P3 P4 P5 P6:Ta->Tb->Tc->Td->Te->Prop}{Z:Prop}(h:∃a b c d e,P0 a b c d e/\P1 a b c d e/\P2 a b c d e/\P3 a b c d e/\P4 a b c d e/\P5 a b c d e/\P6 a b c d e)(z:∀a,∀b,∀c,∀d,∀e,P0 a b c d e->P1 a b c d e->P2 a b c d e->P3 a b c d e->P4 a b c d e->P5 a b c d e->P6 a b c d e->Z):Z:=by
 obtain⟨a,b,c,d,e,h0,h1,h2,h3,h4,h5,h6⟩:=h;exact z a b c d e h0 h1 h2 h3 h4 h5 h6
theorem af6 {Ta Tb Tc Td Te Tf:Sort _}{P0:Ta->Tb->Tc->Td->Te->Tf->Prop}{Z:Prop}(h:∃a b c d e f,P0 a b c d e f)(z:∀a,∀b,∀c,∀d,∀e,∀f,P0 a b c d e f->Z):Z:=by
 obtain⟨a,b,c,d,e,f,h0⟩:=h;exact z a b c d e f h0
namespace L2
open PySem PySem.Spec PyProof.Rows
abbrev Key:=Sum Int Str
noncomputable def Ai:Key->aw->Bool
 | .inl k,v=>Value.isInt k v
 | .inr x,v=>Value.isStrOf x v
noncomputable def aed (w:dA):Key->Int
 | .inl k=>hashInt k
 | .inr x=>hashStr w x
theorem bZ:∀{k:Key} {v:aw},Ai k v=true->(∃i t,k=AY i/\v=AB i t)\/(∃x t,k=AZ x/\v=AD x t)
 | .inl i,v,h=>by
  obtain⟨t,e⟩:=Value.isInt_shape (k:=i) (v:=v) h;exact .inl ⟨i,t,rfl,e⟩
 | .inr x,v,h=>by
  obtain⟨t,e⟩:=Value.isStrOf_shape (x:=x) (v:=v) h;exact .inr ⟨x,t,rfl,e⟩
theorem S8 (i:Int)(t:Tok):Ai (.inl i) (.int i t)=true:=by simp[Ai,Value.isInt]
theorem RN (x:Str)(t:Tok):Ai (.inr x) (.str x t)=true:=by simp[Ai,Value.isStrOf]
theorem abE (a b:Int):decide ((AY a:Key)=AY b)=(a==b):=by
 by_cases e:a=b
 ·subst e;simp
 ·have h:¬(AY a:Key)=AY b:=λq=>e<|Sum.inl.inj q;rw[decide_eq_false h];exact(beq_eq_false_iff_ne.mpr e).symm
theorem acv (a b:Str):decide ((AZ a:Key)=AZ b)=decide (a=b):=by
 by_cases e:a=b
 ·subst e;simp
 ·have h:¬(AZ a:Key)=AZ b:=λq=>e<|Sum.inr.inj q;rw[decide_eq_false h,decide_eq_false e]
theorem ac4 (a:Int)(b:Str):decide ((AY a:Key)=AZ b)=false:=decide_eq_false λq=>nomatch q
theorem ab0 (a:Str)(b:Int):decide ((AZ a:Key)=AY b)=false:=decide_eq_false λq=>nomatch q
def j8 (prog:bq)(w:dA):PySem.KeyKind prog w Key where
 is:=Ai
 hash:=aed w
 inj:=λv a b ha hb=>by
  rcases bZ ha with⟨i,t,rfl,rfl⟩|⟨x,t,rfl,rfl⟩
  ·rcases bZ hb with⟨j,u,rfl,e⟩|⟨y,u,rfl,e⟩
   ·injection e with e1 _;rw[e1]
   ·exact nomatch e
  ·rcases bZ hb with⟨j,u,rfl,e⟩|⟨y,u,rfl,e⟩
   ·exact nomatch e
   ·injection e with e1 _;rw[e1]
 byValue:=λk v h=>by
  rcases bZ h with⟨i,t,rfl,rfl⟩|⟨x,t,rfl,rfl⟩<;>rfl
 pyHash:=λhv h=>by
  rcases bZ hv with⟨i,t,rfl,rfl⟩|⟨x,t,rfl,rfl⟩
  ·exact wpAny_pyHash_int h
  ·exact wpAny_pyHash_str h
 eqBool:=λhu hv h=>by
  rcases bZ hu with⟨i,t,rfl,rfl⟩|⟨x,t,rfl,rfl⟩
  ·rcases bZ hv with⟨j,u,rfl,rfl⟩|⟨y,u,rfl,rfl⟩
   ·rw[abE] at h;exact wpAny_eqBool_int h
   ·rw[ac4] at h;exact SeqAt.EqAt.int_str i t y u _ _ _ _ h
  ·rcases bZ hv with⟨j,u,rfl,rfl⟩|⟨y,u,rfl,rfl⟩
   ·rw[ab0] at h;exact SeqAt.EqAt.str_int x t j u _ _ _ _ h
   ·rw[acv] at h;exact wpAny_eqBool_str h
 «strs»:=λk x t v h=>by
  rcases bZ h with⟨i,u,rfl,e⟩|⟨y,u,rfl,e⟩
  ·exact nomatch e
  ·injection e with e1 _
   subst e1;cases v<;>rfl
theorem Ld (prog:bq)(w:dA)(i:Int)(t:Tok):(j8 prog w).is (.inl i) (.int i t)=true:=S8 i t
theorem KH (prog:bq)(w:dA)(x:Str)(t:Tok):(j8 prog w).is (.inr x) (.str x t)=true:=RN x t
inductive Kt where
 |k (x:Key)|t (xs:List Kt)
mutual
def Kt.dec:(a b:Kt)->Decidable (a=b)
 | .k x,.k y=>if h:x=y then .isTrue (by rw[h]) else .isFalse λe=>h<|by injection e
 | .t xs,.t ys=>match Kt.decs xs ys with
  | .isTrue h=>.isTrue<|by rw[h]
  | .isFalse h=>.isFalse λe=>h<|by injection e
 | .k _,.t _=>.isFalse λe=>nomatch e
 | .t _,.k _=>.isFalse λe=>nomatch e
def Kt.decs:(a b:List Kt)->Decidable (a=b)
 |[],[]=>.isTrue rfl
 |[],_::_=>.isFalse λe=>nomatch e
 |_::_,[]=>.isFalse λe=>nomatch e
 |x::xs,y::ys=>match Kt.dec x y,Kt.decs xs ys with
  | .isTrue h,.isTrue g=>.isTrue<|by rw[h,g]
  | .isFalse h,_=>.isFalse λe=>h<|by injection e
  |_,.isFalse g=>.isFalse λe=>g<|by injection e
end
instance:DecidableEq Kt:=Kt.dec
mutual
def xH (w:dA):Kt->Int
 | .k x=>aed w x
 | .t xs=>reduceHash<|gy<|pW w xs
def pW (w:dA):List Kt->List Int
 |[]=>[]
 |x::xs=>xH w x::pW w xs
end
mutual
def wO:Kt->Nat
 | .k _=>1
 | .t xs=>gA xs+1
def gA:List Kt->Nat
 |[]=>0
 |x::xs=>wO x+gA xs
end
def o6 (h:Heap):Nat->Kt->aw->Prop
 |_,.k x,v=>Ai x v=true
 |0,.t _,_=>False
 |n+1,.t xs,v=>∃a o items m,v=.ref a/\h.get? a=some o/\o.cls=.type "tuple"/\o.data=.seq items m/\jI (o6 h n) xs items.toList
theorem mW:o6 h (n+1) (.t xs) v↔∃a o items m,v=.ref a/\h.get? a=some o/\o.cls=.type "tuple"/\o.data=.seq items m/\jI (o6 h n) xs items.toList:=by rw[o6]
theorem rO:o6 h n (.k x) v↔Ai x v=true:=by cases n<;>rw[o6]
theorem Cy {α β:Type}{F G:α->β->Prop}(f:∀a b,F a b->G a b):∀{l:List α} {m:List β},jI F l m->jI G l m
 |_,_,.nil=>.nil
 |_,_,.cons r t=>.cons (f _ _ r)<|Cy f t
theorem Cj {α β:Type}{F:α->β->Prop}(f:∀x y b,F x b->F y b->x=y):∀{l l':List α} {m:List β},jI F l m->jI F l' m->l=l'
 |_,_,_,.nil,.nil=>rfl
 |_,_,_,.cons r t,.cons r' t'=>by rw[f _ _ _ r r',Cj f t t']
theorem Dl {h:Heap}:∀(n:Nat) (x y:Kt) (v:aw),o6 h n x v->o6 h n y v->x=y
 |n,.k x,.k y,v,hx,hy=>by
  rw[rO] at hx hy;rcases bZ hx with⟨i,t,rfl,rfl⟩|⟨z,t,rfl,rfl⟩
  ·rcases bZ hy with⟨j,u,rfl,e⟩|⟨y,u,rfl,e⟩
   ·injection e with e1 _;rw[e1]
   ·exact nomatch e
  ·rcases bZ hy with⟨j,u,rfl,e⟩|⟨y,u,rfl,e⟩
   ·exact nomatch e
   ·injection e with e1 _;rw[e1]
 |0,.t _,_,_,hx,_=>by rw[o6] at hx;exact hx.elim
 |0,.k _,.t _,_,_,hy=>by rw[o6] at hy;exact hy.elim
 |n+1,.k x,.t ys,v,hx,hy=>by
  rw[rO] at hx;refine aaQ (mW.mp hy) λa _ _ _ e _=>?_;subst e;rcases bZ hx with⟨_,_,_,e⟩|⟨_,_,_,e⟩<;>exact nomatch e
 |n+1,.t xs,.k y,v,hx,hy=>by
  rw[rO] at hy;refine aaQ (mW.mp hx) λa _ _ _ e _=>?_;subst e;rcases bZ hy with⟨_,_,_,e⟩|⟨_,_,_,e⟩<;>exact nomatch e
 |n+1,.t xs,.t ys,v,hx,hy=>by
  refine wg (mW.mp hx) λa o it m e g _ d p=>?_;refine wg (mW.mp hy) λa' o' it' m' e' g' _ d' p'=>?_;subst e;injection e' with e'
  subst e';cases g.symm.trans g';rw[d] at d';injection d' with d' _
  subst d';rw[Cj (Dl n) p p']
theorem De {h h':Heap}{d:Addr}{o:Obj}{es ep}(ho:h.get? d=some o)(hd:o.data=.dict es ep)(hs:iX d h h'):∀(n:Nat) (x:Kt) (v:aw),o6 h n x v->o6 h' n x v
 |n,.k x,v,hx=>by rw[rO] at hx ⊢;exact hx
 |0,.t _,_,hx=>by rw[o6] at hx;exact hx.elim
 |n+1,.t xs,v,hx=>by
  refine wg (mW.mp hx) λa o' it m e g c dd p=>?_;have ne:a≠d:=by
   rintro rfl;cases g.symm.trans ho;rw[hd] at dd;cases dd
  exact mW.mpr ⟨a,o',it,m,e,(hs.2 a ne).trans g,c,dd,Cy (De ho hd hs n) p⟩
section
theorem Ao (w:dA):∀xs:List Kt,pW w xs=xs.map (xH w)
 |[]=>by rw[pW];rfl
 |x::xs=>by rw[pW,Ao w xs];rfl
theorem yw:∀xs ys:List Kt,gA (xs++ys)=gA xs+gA ys
 |[],ys=>by rw[pz,gA,rS]
 |x::xs,ys=>by rw[List.cons_append,gA,gA,yw xs ys,ub]
theorem Hh (x:Kt):gA [x]=wO x:=by rw[gA,gA,Nat.add_zero]
theorem Gi:∀(n:Nat) {A:dP} {s:aS} {x:Kt} {v:aw} {Q:Int->aS->Prop},A.units+n<pE->o6 s.heap n x v->Q (xH wo x) { s with toks:=s.toks+wO x }->bp (b6 pr wo) A (pyHash v) Q E s
 |n,A,s,.k x,v,Q,hu,hx,q=>by
  rw[rO] at hx;rw[xH,wO] at q;exact(j8 pr wo).pyHash hx q
 |0,_,_,.t _,_,_,_,hx,_=>by rw[o6] at hx;exact hx.elim
 |n+1,A,s,.t xs,v,Q,hu,hx,h=>by
  refine wg (mW.mp hx) λa o items m e ho hc hd hi=>?_;subst e;have hT:s.TypeIs (.ref a) "tuple":=⟨o,ho,hc⟩;rw[xH,wO] at h;unfold pyHash
  first|unfold pyHashByItsType|skip
  first|refine ae (wpAny_cRoomFor_or (.inr<|by lia) ?_)|skip
  refine ae<|j3 hT ku.lookup ?_;show bp _ _ (if(some (iq "tuple.__hash__")==some eP)=true then _ else _) Q E s;rw[if_neg (by rw[beq_builtin_none];exact bb)];refine ae<|j3 hT ku.lookup ?_;show bp _ _ (callSpecialIfBoundUnlessNone? (.ref a) "__hash__" _ >>= _) Q E s;refine ae<|wpAny_callSpecialIfBoundUnlessNone?_slot hT ku<|gX ku hT PySem.F.entry_tuple_hash ?_<|PySem.F.args_tuple_hash_1 _;show bp _ _ (qV (.ref a) >>= _) _ _ s;refine ae<|wpAny_tupleItemsOf ho hd ?_;refine ae ?_;rw[← AE];refine wpAny_forIn_list _
   (λrest (b:Array Int) s'=>∃done left,xs=done++left/\jI (o6 s.heap n) left rest/\b.toList=done.map (xH wo)/\s'={ s with toks:=s.toks+gA done })
   _ ?_ ?_ _ _ ⟨[],xs,rfl,hi,rfl,by rw[gA];rfl⟩
  ·rintro x rest b s' ⟨done,left,rfl,hl,hb,rfl⟩;cases hl with
   | @cons k _ ks' _ h1 hl'=>
    refine ae<|Gi n (A:=A.in1) (show A.units+1+n<pE by lia) (s:={ s with toks:=s.toks+gA done }) h1 ?_;refine ai ⟨done++[k],ks',by simp,hl',by simp[hb],?_⟩;rw[yw,Hh,ub]
  ·rintro b s' ⟨done,left,rfl,hl,hb,rfl⟩;cases hl;rw[cw] at h;show bp _ _ (retInt<|gy b.toList) _ _ _;rw[hb,← Ao];refine wpAny_ret_mkInt ?_;show bp _ _ (if(decide (-(2:Int)^63<=gy (pW wo done))&&decide (gy (pW wo done)<2^63))=true then _ else _) Q E _;unfold reduceHash at h;by_cases hr:(decide (-(2:Int)^63<=gy (pW wo done))&&decide (gy (pW wo done)<2^63))=true
   ·rw[if_pos hr];rw[if_pos hr] at h;exact ai<|by simpa[ub] using h
   ·rw[if_neg hr];rw[if_neg hr] at h;exact ae<|pf<|ai<|by simpa[ub] using h
noncomputable def v9 (xs ys:List Kt)(j:Nat):Bool:=match xs[j]?,ys[j]? with
 |some x,some y=>decide<|x=y
 |_,_=>true
theorem Cg:∀xs ys:List Kt,((cx<|min xs.length ys.length).all (v9 xs ys)&&xs.length==ys.length)=decide (xs=ys)
 |[],[]=>by simp
 |[],_::_=>by simp
 |_::_,[]=>by simp
 |x::xs,y::ys=>by
  have ih:=Cg xs ys;rw[cK,cK,Nat.succ_min_succ,w4,ui,List.all_map];have e:(v9 (x::xs) (y::ys)∘Nat.succ)=v9 xs ys:=by funext j;simp[v9]
  rw[e];have e0:v9 (x::xs) (y::ys) 0=decide (x=y):=by simp[v9]
  rw[e0,Bool.and_assoc];have e1:((xs.length+1==ys.length+1):Bool)=(xs.length==ys.length):=by simp
  rw[e1,ih];by_cases a:x=y<;>by_cases b:xs=ys<;>simp[a,b]
theorem zp:∀{l:List α} {m:List β} (j:Nat) (h:j<m.length),jI F l m->∃a,l[j]? = some a/\F a m[j]
 |_,_,j,h,.nil=>absurd h<|Nat.not_lt_zero _
 |_,_,0,_,.cons r _=>⟨_,rfl,r⟩
 |_,_,j+1,h,.cons _ t=>by
  obtain⟨a,h1,h2⟩:=zp j (by simpa using h) t;exact⟨a,by simpa using h1,by simpa using h2⟩
theorem QS:∀(n:Nat) (A:dP) (s:aS) (x y:Kt) (v u:aw),A.units+n<pE->o6 s.heap n x v->o6 s.heap n y u->SeqAt.EqAt A s v u (decide<|x=y)
 |n,A,s,.k x,.k y,v,u,hu,hx,hy=>by
  rw[rO] at hx hy;intro pr wo E Q q;refine(j8 pr wo).eqBool (a:=x) (b:=y) hx hy ?_;have e:decide (Kt.k x=Kt.k y)=decide (x=y):=decide_eq_decide.mpr ⟨λe=>by injection e,λe=>by rw[e]⟩;rw[← e];exact q
 |0,_,_,.t _,_,_,_,_,hx,_=>by rw[o6] at hx;exact hx.elim
 |0,_,_,.k _,.t _,_,_,_,_,hy=>by rw[o6] at hy;exact hy.elim
 |n+1,A,s,.k x,.t ys,v,u,hu,hx,hy=>by
  rw[rO] at hx;refine wg (mW.mp hy) λa o it m e g c d _=>?_;subst e;have hl:s.heap.IsTuple a it:=⟨o,g,c,m,d⟩;rw[show decide (Kt.k x=Kt.t ys)=false from decide_eq_false λe=>nomatch e];rcases bZ hx with⟨i,t,rfl,rfl⟩|⟨z,t,rfl,rfl⟩
  ·exact SeqAt.EqAt.int_tuple i t hl<|by lia
  ·exact SeqAt.EqAt.str_tuple z t hl<|by lia
 |n+1,A,s,.t xs,.k y,v,u,hu,hx,hy=>by
  rw[rO] at hy;refine wg (mW.mp hx) λa o it m e g c d _=>?_;subst e;have hl:s.heap.IsTuple a it:=⟨o,g,c,m,d⟩;rw[show decide (Kt.t xs=Kt.k y)=false from decide_eq_false λe=>nomatch e];rcases bZ hy with⟨i,t,rfl,rfl⟩|⟨z,t,rfl,rfl⟩
  ·exact SeqAt.EqAt.tuple_int i t hl<|by lia
  ·exact SeqAt.EqAt.tuple_str z t hl<|by lia
 |n+1,A,s,.t xs,.t ys,v,u,hu,hx,hy=>by
  have hx':=hx;have hy':=hy;refine wg (mW.mp hx) λa o it m e g c d p=>?_;refine wg (mW.mp hy) λa' o' it' m' e' g' c' d' p'=>?_;subst e e';by_cases ne:a=a'
  ·subst ne;rw[Dl _ _ _ _ hx' hy',decide_eq_true rfl];exact SeqAt.EqAt.same _
  ·have hl:s.heap.IsTuple a it:=⟨o,g,c,m,d⟩;have hl':s.heap.IsTuple a' it':=⟨o',g',c',m',d'⟩;have n1:it.size=xs.length:=by have:=k7 p;simpa using this.symm
   have n2:it'.size=ys.length:=by have:=k7 p';simpa using this.symm
   have e2:decide (Kt.t xs=Kt.t ys)=decide (xs=ys):=decide_eq_decide.mpr ⟨λe=>by injection e,λe=>by rw[e]⟩;rw[e2,← Cg xs ys,← n1,← n2];refine SeqAt.EqAt.of_refs ne<|SeqAt.RcAt.tuples hl hl' (by lia) λj j1 j2=>?_;obtain⟨b,q1,q2⟩:=zp j (by simpa using j1) p;obtain⟨b',r1,r2⟩:=zp j (by simpa using j2) p'
   have:v9 xs ys j=decide (b=b'):=by unfold v9;rw[q1,r1]
   rw[this];exact QS n A.in1 s b b' _ _ (show A.units+1+n<pE by lia) (by simpa using q2) (by simpa using r2)
theorem Qu:∀(n:Nat) {A:dP} {s:aS} {x:Kt} {v:aw} {Q:Bool->aS->Prop},o6 s.heap n x v->Q true s->bp (b6 pr wo) A (eqIsQuiet n v) Q E s
 |n,A,s,.k x,v,Q,hx,q=>by
  rw[rO] at hx;rw[eqIsQuiet_byValue _<|(j8 pr wo).byValue _ _ hx];exact ai q
 |0,_,_,.t _,_,_,hx,_=>by rw[o6] at hx;exact hx.elim
 |n+1,A,s,.t xs,v,Q,hx,h=>by
  refine wg (mW.mp hx) λa o items m e ho hc hd hi=>?_;subst e;have hT:s.TypeIs (.ref a) "tuple":=⟨o,ho,hc⟩;unfold eqIsQuiet;refine ae<|j3 hT PySem.F.slot_tuple_eq.lookup ?_;show bp _ _ (A1 (.ref a) (.type "tuple") >>= _) _ _ s;refine ae<|l6 hT isSubtype_tuple_tuple ?_;simp only[Bool.not_true,fT,if_false];refine ae<|si ho hd<|ae ?_;show bp _ _ (forIn items _ _) _ _ s;rw[← AE];refine wpAny_forIn_list _ (λrest r s'=>r.1=none/\s'=s/\∃ks,jI (o6 s.heap n) ks rest) _ ?_ ?_ _ _ ⟨rfl,rfl,xs,hi⟩
  ·rintro v rest r s' ⟨hr,rfl,ks,al⟩;cases al with
   |cons h1 al'=>
    refine ae<|Qu n h1 ?_;simp only[Bool.not_true,fT,if_false];exact ai ⟨rfl,rfl,_,al'⟩
  ·rintro⟨r1,r2⟩ s' ⟨hr,rfl,_⟩;simp only at hr;subst hr;exact ai h
end
def mq (pr:bq)(wo:dA):HeapKind pr wo (List Kt) where
 is:=λh ks a=>o6 h 8 (.t ks)<|.ref a
 hash:=λks=>xH wo<|.t ks
 draws:=λks=>wO<|.t ks
 room:=λA=>A.units+8<pE
 inj:=λa b=>by have:=Dl _ _ _ _ a b;injection this
 keeps:=λx a b c=>De a b c _ _ _ x
 pyHash:=λa b c=>Gi 8 a b c
 eqBool:=λ{A E s x y a b Q} h1 h2 h3 h4=>by
  refine QS 8 A s _ _ _ _ h1 h2 h3 _ _ _ _ ?_;rw[show decide (Kt.t x=Kt.t y)=decide (x=y) from decide_eq_decide.mpr ⟨λe=>by injection e,λe=>by rw[e]⟩];exact h4
 quiet:=λa b=>Qu 8 a b
inductive V where
 |non|bl (b:Bool)|int (i:Int)|str (x:Str)|byt (b:Array UInt8)|flt (b:UInt64)|ref (a:Addr)|ty (n:String)
 deriving DecidableEq
def RelV:V->aw->Prop
 | .non,u=>u=eP
 | .bl b,u=>u=ng b
 | .int i,u=>∃t,u=AB i t
 | .str x,u=>∃t,u=AD x t
 | .byt b,u=>∃t,u=Value.bytes b t
 | .flt b,u=>∃t,u=Value.float b t
 | .ref a,u=>u=b0 a
 | .ty n,u=>u=BS n
abbrev Vals:List V->List aw->Prop:=jI RelV
theorem Vals.length (r:Vals xs us):xs.length=us.length:=k7 r
theorem Vals.get:∀{xs:List V} {us:List aw} {i:Nat} {x:V},Vals xs us->xs[i]? = some x->∃u,us[i]? = some u/\RelV x u
 |_,_,_,_,.nil,e=>by simp at e
 |_,_,0,_,.cons r _,e=>by simp at e;subst e;exact⟨_,rfl,r⟩
 |_,_,i+1,x,.cons _ t,e=>by
  obtain⟨u,h1,h2⟩:=Vals.get (i:=i) (x:=x) t (by simpa using e);exact⟨u,by simpa using h1,h2⟩
theorem Vals.set (r:RelV x u):∀{xs:List V} {us:List aw} (i:Nat),Vals xs us->Vals (xs.set i x) (us.set i u)
 |_,_,_,.nil=>.nil
 |_,_,0,.cons _ t=>.cons r t
 |_,_,i+1,.cons q t=>.cons q<|Vals.set r i t
theorem Vals.append:∀{xs ys:List V} {us ws:List aw},Vals xs us->Vals ys ws->Vals (xs++ys) (us++ws)
 |_,_,_,_,.nil,s=>s
 |_,_,_,_,.cons r t,s=>.cons r<|Vals.append t s
theorem Vals.take:∀{xs:List V} {us:List aw} (n:Nat),Vals xs us->Vals (xs.take n) (us.take n)
 |_,_,0,_=>.nil
 |_,_,_+1,.nil=>.nil
 |_,_,n+1,.cons r t=>.cons r<|Vals.take n t
theorem Vals.drop:∀{xs:List V} {us:List aw} (n:Nat),Vals xs us->Vals (xs.drop n) (us.drop n)
 |_,_,0,r=>r
 |_,_,_+1,.nil=>.nil
 |_,_,n+1,.cons _ t=>Vals.drop n t
def wX:Option V->Option aw->Prop
 |some v,some u=>RelV v u
 |none,none=>True
 |_,_=>False
def KV {κ:Type}:List (κ×V)->List (κ×aw)->Prop:=jI λ(p:κ×V) (q:κ×aw)=>p.1=q.1/\RelV p.2 q.2
noncomputable def kV:Key->V
 | .inl i=>.int i
 | .inr x=>.str x
inductive HO where
  |lst (xs:List V)
  |tup (xs:List V)
  |dK (ι:List (Key×V))|dT (T:Addr->List V->Prop) (ι:List (List Kt×V))
  |set (S:Int->Bool) (n:Nat)
  |ins (C dx:Addr) (fs:List (Str×V))
  |own (x:Addr)
  |xd (fs:List (Str×V))
  |met (f x:Addr)
  |rng (lo hi:Int)
  |frz (o:Obj) (u:HO)
  |tbl (ps:Array aw)
  |ext (φ:Heap->Prop)
abbrev Hp:=Addr->Option HO
noncomputable def upd (H:Hp)(a:Addr)(o:HO):Hp:=λb=>if b=a then some o else H b
theorem aZ:upd H a o a=some o:=by unfold upd;rw[if_pos rfl]
theorem bC (h:b≠a):upd H a o b=H b:=by unfold upd;rw[if_neg h]
theorem Q9:upd (upd H a o) a u=upd H a u:=by
 funext b;unfold upd;split<;>rfl
theorem Vn {H:Hp}{a b:Addr}{o u:HO}(h:H a=some o)(h':H b=some u)(d:o≠u):a≠b:=by
 intro e;subst e;rw[h] at h';exact d<|b9 h'
theorem mY {H:Hp}{a b:Addr}{o:HO}(h:H a=some o)(h':H b=none):a≠b:=by
 intro e;subst e;rw[h] at h';cases h'
mutual
inductive Bh (T:Addr->List V->Prop)(H:Hp):Nat->V->Kt->Prop where
 |k {n:Nat} {x:Key}:Bh T H n (kV x) (.k x)
 |t {n:Nat} {b:Addr} {vs:List V} {ks:List Kt}:(H b=some (.tup vs)\/T b vs)->uZ T H n vs ks->Bh T H (n+1) (.ref b) (.t ks)
inductive uZ (T:Addr->List V->Prop)(H:Hp):Nat->List V->List Kt->Prop where
 |nil {n:Nat}:uZ T H n [] []
 |cons {n:Nat} {v:V} {vs:List V} {k:Kt} {ks:List Kt}:Bh T H n v k->uZ T H n vs ks->uZ T H n (v::vs) (k::ks)
end
def TrT (T:Addr->List V->Prop)(H:Hp)(b:Addr)(ks:List Kt):Prop:=∃vs,(H b=some (.tup vs)\/T b vs)/\uZ T H 7 vs ks
section
mutual
theorem Bh.imp (ht:∀b xs,H b=some (.tup xs)->H' b=some (.tup xs)):∀{n:Nat} {v:V} {k:Kt},Bh T H n v k->Bh T H' n v k
 |_,_,_,.k=>.k
 |_,_,_,.t h hs=>.t (h.imp (ht _ _) id)<|uZ.imp ht hs
theorem uZ.imp (ht:∀b xs,H b=some (.tup xs)->H' b=some (.tup xs)):∀{n:Nat} {vs:List V} {ks:List Kt},uZ T H n vs ks->uZ T H' n vs ks
 |_,_,_,.nil=>.nil
 |_,_,_,.cons h hs=>.cons (Bh.imp ht h)<|uZ.imp ht hs
end
theorem TrT.imp (h:TrT T H b ks)(ht:∀b xs,H b=some (.tup xs)->H' b=some (.tup xs)):TrT T H' b ks:=
 let⟨vs,h1,h2⟩:=h;⟨vs,h1.imp (ht _ _) id,h2.imp ht⟩
end
section
variable (P:bq)(w:dA)
def JK (h:Heap)(a:Addr)(χ:Array aw):Prop:=∃o,h.get? a=some o/\o.cls=.type "tuple"/\∃n,o.data=.seq χ n/\o.dict=none
theorem JK.tup {h:Heap}{a:Addr}{χ:Array aw}(x:JK h a χ):IsTup h a χ:=let⟨o,e,c,n,d,_⟩:=x;⟨o,e,c,n,d⟩
theorem JK.new (h:Heap)(χ:Array aw):JK (h.push { cls:=.type "tuple",data:=.seq χ }) h.objs.size χ:=⟨_,aT _ rfl,rfl,_,rfl,rfl⟩
def cu (H:Hp)(h:Heap)(a:Addr):HO->Prop
 | .lst xs=>xs.length<=av/\∃(χ:List aw) (n:Nat),Vals xs χ/\h.get? a=some { cls:=.type "list",data:=.seq χ.toArray n }
 | .tup xs=>xs.length<=av/\∃χ:List aw,Vals xs χ/\JK h a χ.toArray
 | .dK ι=>ι.length<=av/\(a==ij)=false/\∃vs,KV ι vs/\h.DictOf (j8 P w) a vs
 | .dT T ι=>ι.length<=av/\(a==ij)=false/\∃xs:List (List Kt×Addr×aw),
   jI (λ(p:List Kt×V) (q:List Kt×Addr×aw)=>p.1=q.1/\TrT T H q.2.1 p.1/\RelV p.2 q.2.2) ι xs/\
   ∃o es ep,h.get? a=some o/\o.ExactDict/\o.data=.dict es ep/\es.toList=xs.map (entryOfKey<|mq P w)/\(xs.map (·.1)).Nodup
 | .set S n=>h.SetOf (intKind P w) a S n
 | .ins C dx fs=>H dx=some (.own a)/\fs.length<=1000/\dx≠a/\h.get? a=some (W.instObj C dx)/\
   ∃mA,h.Ns1 dx mA/\(∀f,wX (fs.lookup f)<|mA f)/\PySem.Within mA (fs.map (·.1))
 | .own _=>∃o,h.get? a=some o
 | .xd fs=>∃mA,h.Ns1 a mA/\∀f,wX (fs.lookup f)<|mA f
 | .rng lo hi=>∃t u v,h.get? a=some { cls:=.type "range",data:=.fields #[.int lo t,.int hi u,.int 1 v] }
 | .frz o u=>h.get? a=some o/\cu H h a u
 | .tbl ps=>h.get? a=some { cls:=.none,data:=.fields ps }
 | .met f x=>h.get? a=some (W.methodObj (.ref f)<|.ref x)
 | .ext φ=>φ h/\(∃o,h.get? a=some o)/\∀h1 h2:Heap,φ h1->(∀o,h1.get? a=some o->h2.get? a=some o)->φ h2
def HOk (H:Hp)(h:Heap):Prop:=∀a o,H a=some o->cu P w H h a o
end
section
variable {P:bq}{w:dA}{H H':Hp}{h h':Heap}{a:Addr}{o:HO}
theorem cu.lt (x:cu P w H h a o):a<h.objs.size:=by
 cases o with
 |lst xs=>obtain⟨_,_,_,_,e⟩:=x;exact ay e
 |tup xs=>obtain⟨_,_,_,p⟩:=x;exact p.tup.lt
 |dK ι=>obtain⟨_,_,_,_,o,_,_,e,_⟩:=x;exact ay e
 |dT T ι=>obtain⟨_,_,_,_,o,_,_,e,_⟩:=x;exact ay e
 |set S n=>obtain⟨o,_,_,_,e,_⟩:=x;exact ay e
 |ins C dx fs=>obtain⟨_,_,_,e,_⟩:=x;exact ay e
 |own y=>obtain⟨_,e⟩:=x;exact ay e
 |xd fs=>obtain⟨_,⟨_,_,_,e,_⟩,_⟩:=x;exact ay e
 |rng lo hi=>obtain⟨_,_,_,e⟩:=x;exact ay e
 |frz ob u=>obtain⟨e,_⟩:=x;exact ay e
 |tbl ps=>exact ay (show h.get? a=some _ from x)
 |met f y=>exact ay (show h.get? a=some _ from x)
 |ext φ=>obtain⟨_,⟨_,e⟩,_⟩:=x;exact ay e
theorem jI.acu:∀{l₁:List α} {l₂:List β},jI F l₁ l₂->(∀a b,F a b->G a b)->jI G l₁ l₂
 |_,_,.nil,_=>.nil
 |_,_,.cons r t,f=>.cons (f _ _ r)<|jI.acu t f
theorem cu.stay (x:cu P w H h a o)(k:∀b u,(b=a\/H b=some (.own a))->h.get? b=some u->h'.get? b=some u)
  (ho:∀b,H b=some (.own a)->H' b=some (.own a)) (ht:∀b xs,H b=some (.tup xs)->H' b=some (.tup xs)):cu P w H' h' a o:=by
 induction o with
 |lst xs=>obtain⟨z,χ,n,r,e⟩:=x;exact⟨z,χ,n,r,k _ _ (.inl rfl) e⟩
 |tup xs=>obtain⟨z,χ,r,ob,e,c⟩:=x;exact⟨z,χ,r,ob,k _ _ (.inl rfl) e,c⟩
 |dK ι=>obtain⟨z,y,vs,r,ob,es,ep,e,c⟩:=x;exact⟨z,y,vs,r,ob,es,ep,k _ _ (.inl rfl) e,c⟩
 |dT T ι=>
  obtain⟨z,y,xs,r,ob,es,ep,e,c⟩:=x;exact⟨z,y,xs,jI.acu r λp q z=>⟨z.1,z.2.1.imp ht,z.2.2⟩,ob,es,ep,k _ _ (.inl rfl) e,c⟩
 |set S n=>obtain⟨ob,es,ep,t,e,c⟩:=x;exact⟨ob,es,ep,t,k _ _ (.inl rfl) e,c⟩
 |ins C dx fs=>
  obtain⟨d,z,ne,e,mA,⟨od,es,ep,e2,c⟩,r⟩:=x;exact⟨ho _ d,z,ne,k _ _ (.inl rfl) e,mA,⟨od,es,ep,k _ _ (.inr d) e2,c⟩,r⟩
 |own y=>obtain⟨ob,e⟩:=x;exact⟨ob,k _ _ (.inl rfl) e⟩
 |xd fs=>obtain⟨mA,⟨od,es,ep,e,c⟩,r⟩:=x;exact⟨mA,⟨od,es,ep,k _ _ (.inl rfl) e,c⟩,r⟩
 |rng lo hi=>obtain⟨t,u,v,e⟩:=x;exact⟨t,u,v,k _ _ (.inl rfl) e⟩
 |frz ob u ih=>obtain⟨e,q⟩:=x;exact⟨k _ _ (.inl rfl) e,ih q⟩
 |tbl ps=>
  have e:h.get? a=some { cls:=.none,data:=.fields ps }:=x;show h'.get? a=some { cls:=.none,data:=.fields ps };exact k a _ (.inl rfl) e
 |met f y=>
  have e:h.get? a=some (W.methodObj (.ref f)<|.ref y):=x;show h'.get? a=some (W.methodObj (.ref f)<|.ref y);exact k a _ (.inl rfl) e
 |ext φ=>obtain⟨p,⟨o,e⟩,st⟩:=x;exact⟨st _ _ p λo q=>k _ _ (.inl rfl) q,⟨o,k _ _ (.inl rfl) e⟩,st⟩
theorem HOk.lt (x:HOk P w H h)(e:H a=some o):a<h.objs.size:=(x a o e).lt
theorem HOk.fresh (x:HOk P w H h)(e:h.objs.size<=a):H a=none:=by
 cases q:H a with
 |none=>rfl
 |some u=>exact absurd (br (x.lt q) e) (eT _)
theorem HOk.kept (x:HOk P w H h)(k:∀b u,h.get? b=some u->h'.get? b=some u):HOk P w H h':=λa o e=>
 (x a o e).stay (λb u _ q=>k b u q) (λ_ q=>q) λ_ _ q=>q
theorem HOk.laid (x:HOk P w H h)(k:∀b u,h.get? b=some u->h'.get? b=some u)(hp:h.objs.size<=a)(new:cu P w (upd H a o) h' a o):HOk P w (upd H a o) h':=λb u e=>by
 have hn:=x.fresh hp;by_cases hb:b=a
 ·subst hb;rw[aZ] at e;cases e;exact new
 ·rw[bC hb] at e;exact(x b u e).stay (λc v _ q=>k c v q) (λc q=>by rw[bC<|mY q hn];exact q) λc xs q=>by rw[bC<|mY q hn];exact q
end
def Rd (H:Hp)(a:Addr)(u:HO):Prop:=H a=some u\/∃o,H a=some (.frz o u)
theorem Rd.ok (r:Rd H a u)(x:HOk P w H h):cu P w H h a u:=by
 rcases r with r|⟨o,r⟩
 ·exact x a u r
 ·obtain⟨_,q⟩:=x a _ r;exact q
def Mut:Option HO->Prop
 |some (.lst _)=>True
 |some (.dK _)=>True
 |some (.dT _ _)=>True
 |some (.set _ _)=>True
 |some (.ins _ _ _)=>True
 |some (.ext _)=>True
 |_=>False
section
theorem HOk.write (ok:HOk P w H h)(mu:Mut (H x))(he:e=x\/H e=some (.own x))(k:∀b u,b≠e->h.get? b=some u->h'.get? b=some u)(heo:∃u,h'.get? e=some u)
  (new:cu P w (upd H x o') h' x o'):HOk P w (upd H x o') h':=λb u q=>by
 have nown:∀c y,H c=some (.own y)->c≠x:=λc y r z=>by subst z;rw[r] at mu;exact mu
 have ntup:∀c xs,H c=some (.tup xs)->c≠x:=λc xs r z=>by subst z;rw[r] at mu;exact mu
 by_cases hb:b=x
 ·subst hb;rw[aZ] at q;cases q;exact new
 ·rw[bC hb] at q;by_cases hbe:b=e
  ·have q':H b=some (.own x):=by
    rcases he with z|z
    ·exact absurd (hbe.trans z) hb
    ·rw[hbe];exact z
   rw[q] at q';cases q';obtain⟨v,hv⟩:=heo;exact⟨v,by rw[hbe];exact hv⟩
  ·refine(ok b u q).stay (λc v hc r=>k c v ?_ r) (λc r=>by rw[bC<|nown c b r];exact r) λc xs r=>by rw[bC<|ntup c xs r];exact r
   rcases hc with rfl|hc
   ·exact hbe
   ·rintro rfl;rcases he with z|z
    ·exact nown c b hc z
    ·rw[hc] at z;cases z;exact hb rfl
end
structure Un (fs ex:List Addr)(H H':Hp)(h h':Heap):Prop where
 keep:∀b o,h.get? b=some o->H b=none->b∉fs->b∉ex->h'.get? b=some o
 slot:∀b o,h.get? b=some o->H b=none->b∈fs->b∉ex->∃sl,h'.get? b=some { o with slots:=sl }
 free:∀b o,h.get? b=some o->H b=none->b∉ex->H' b=none
 there:∀b o,h.get? b=some o->b∉ex->∃o',h'.get? b=some o'
 tups:∀b xs,H b=some (.tup xs)->H' b=some (.tup xs)
 frzs:∀b o u,H b=some (.frz o u)->H' b=some (.frz o u)
 tbls:∀b ps,H b=some (.tbl ps)->∃more,H' b=some (.tbl (ps++more))
section
variable {fs fs' ex ex':List Addr}{H H1 H2:Hp}{h h1 h2 h':Heap}{a x e:Addr}{o:HO}
theorem Un.any (u:Un fs ex H H1 h h1){b:Addr}{ob:Obj}(q:h.get? b=some ob)(n:H b=none)(hx:b∉ex):∃sl,h1.get? b=some { ob with slots:=sl }:=by
 by_cases hb:b∈fs
 ·exact u.slot b ob q n hb hx
 ·exact⟨ob.slots,u.keep b ob q n hb hx⟩
theorem Un.trans (a:Un fs ex H H1 h h1)(b:Un fs ex H1 H2 h1 h2):Un fs ex H H2 h h2 where
 keep:=λc ob q n hc hx=>b.keep c ob (a.keep c ob q n hc hx) (a.free c ob q n hx) hc hx
 slot:=λc ob q n hc hx=>by
  obtain⟨sl,e1⟩:=a.slot c ob q n hc hx;obtain⟨sl',e2⟩:=b.slot c _ e1 (a.free c ob q n hx) hc hx;exact⟨sl',e2⟩
 free:=λc ob q n hx=>by
  obtain⟨o',e1⟩:=a.there c ob q hx;exact b.free c o' e1 (a.free c ob q n hx) hx
 there:=λc ob q hx=>by
  obtain⟨o',e1⟩:=a.there c ob q hx;exact b.there c o' e1 hx
 tups:=λc xs q=>b.tups c xs<|a.tups c xs q
 frzs:=λc ob xs q=>b.frzs c ob xs<|a.frzs c ob xs q
 tbls:=λc ps q=>by
  obtain⟨m1,e1⟩:=a.tbls c ps q;obtain⟨m2,e2⟩:=b.tbls c _ e1;exact⟨m1++m2,by rw[e2,ml]⟩
theorem Un.kept (k:∀b u,h.get? b=some u->h'.get? b=some u):Un fs ex H H h h':=
 ⟨λb ob q _ _ _=>k b ob q,λb ob q _ _ _=>⟨ob.slots,k b ob q⟩,λ_ _ _ n _=>n,λb ob q _=>⟨ob,k b ob q⟩,λ_ _ q=>q,λ_ _ _ q=>q,λ_ ps q=>⟨#[],by rw[q];simp⟩⟩
theorem Un.refl:Un fs ex H H h h:=Un.kept λ_ _ q=>q
theorem Un.laid (k:∀b u,h.get? b=some u->h'.get? b=some u)(hp:h.objs.size<=a)(hn:H a=none):Un fs ex H (upd H a o) h h' where
 keep:=λb u q _ _ _=>k b u q
 slot:=λb u q _ _ _=>⟨u.slots,k b u q⟩
 free:=λb u q n _=>by rw[bC<|bo<|br (ay q) hp];exact n
 there:=λb u q _=>⟨u,k b u q⟩
 tups:=λb xs q=>by rw[bC<|mY q hn];exact q
 frzs:=λb u xs q=>by rw[bC<|mY q hn];exact q
 tbls:=λb ps q=>⟨#[],by rw[bC<|mY q hn,q];simp⟩
theorem Un.write (mu:Mut (H x))(he:e=x\/H e=some (.own x))(k:∀b u,b≠e->h.get? b=some u->h'.get? b=some u)(heo:∃u,h'.get? e=some u):Un fs ex H (upd H x o) h h':=by
 have hx:∀b,H b=none->b≠x:=λb n z=>by subst z;rw[n] at mu;exact mu
 have hb:∀b,H b=none->b≠e:=λb n z=>by
  subst z;rcases he with r|r
  ·exact hx b n r
  ·rw[n] at r;cases r
 have hm:∀b u,H b=some u->¬Mut (some u)->b≠x:=λb u q nm z=>by subst z;rw[q] at mu;exact nm mu
 refine⟨λb u q n _ _=>k b u (hb b n) q,λb u q n _ _=>⟨u.slots,k b u (hb b n) q⟩,λb u q n _=>by rw[bC<|hx b n];exact n,λb u q _=>?_,
  λb xs q=>by rw[bC<|hm b _ q λz=>z];exact q,λb u xs q=>by rw[bC<|hm b _ q λz=>z];exact q,λb ps q=>⟨#[],by rw[bC<|hm b _ q λz=>z,q];simp⟩⟩
 by_cases hbe:b=e
 ·subst hbe;exact heo
 ·exact⟨u,k b u hbe q⟩
end
noncomputable def trk (h:Heap)(H:Hp):List Addr:=(cx h.objs.size).filter λa=>(H a).isSome
def Ih (h:Heap)(H:Hp):Heap:=AF h<|trk h H
theorem S5 (h:Heap)(H:Hp):(Ih h H).objs.size=h.objs.size:=W.hideAll_size _ _
theorem WR (e:h.get? b=some o)(n:H b=none):(Ih h H).get? b=some o:=
 kA _ e λhm=>by
  have q:(H b).isSome=true:=(xa.mp hm).2;rw[n] at q;simp at q
theorem Zx (e:(Ih h H).get? b=some o):h.get? b=some o/\H b=none:=by
 have e':h.get? b=some o:=xb (trk h H) e;refine⟨e',?_⟩;cases q:H b with
 |none=>rfl
 |some x=>
  have hm:b∈trk h H:=xa.mpr ⟨js.mpr<|ay e',by simp[q]⟩;have z:(Ih h H).get? b=none:=W.hideAll_none (trk h H) hm;rw[z] at e;cases e
structure Mod (K:a7)(mg:Zaa)(base:Heap):Prop where
 kin:K.In base
 glob:base.Ns cE mg
 blt:∃mb,base.Ns builtinsNs mb/\∀x:Str,x≠"__name__"->mb x=cc x
 nolimit:base.NoLimit
structure Cx where
 prog:bq
 w:dA
 K:a7
 mg:Zaa
 base:Heap
 A:dP
 N:List Str
 s₀:aS
 H₀:Hp
 env:Env
 outer:List Env
 stack:List Env
 ex:List Addr
 fn:Str->Bool
 calm:Bool
 pn:Zp
 xe:Zl
def frs (l:List Env):List Addr:=l.filterMap (·.frame)
abbrev Cx.fs (X:Cx):List Addr:=frs X.outer
def Vis (sc:sj)(x:Str):Prop:=sc.names.lookup x=some .local\/sc.names.lookup x=some .cell\/sc.names.lookup x=some .free
def Loc (sc:sj)(x:Str):Prop:=sc.names.lookup x=some .local\/sc.names.lookup x=some .cell
def Look (env:Env)(h:Heap)(m:Zaa)(x:Str)(u:aw):Prop:=
 (env.kindOf x=some .local/\m x=some u)\/((env.kindOf x=some .cell\/env.kindOf x=some .free)/\∃c,env.cells.lookup x=some c/\h.IsCell c (some u))
structure Cx.Ok (X:Cx):Prop where
 mod:Mod X.K X.mg X.base
 kind:X.env.scope.kind=.function
 glob:X.env.globals=cE
 blt:X.env.builtins=builtinsNs
 above:X.s₀.heap.objs.size<=X.env.locals
 inj:∀x y c,X.env.cells.lookup x=some c->X.env.cells.lookup y=some c->x=y
 has:∀x,(X.env.kindOf x=some .cell\/X.env.kindOf x=some .free)->∃c,X.env.cells.lookup x=some c
 cab:∀x c,X.fn x=true->X.env.cells.lookup x=some c->X.s₀.heap.objs.size<=c
 hd:X.calm=true->X.A.handled=none
 frames:X.A.frames=some X.stack
 stk:X.stack=X.outer\/(X.stack=X.env::X.outer/\X.env.frame=some X.env.locals)
 exf:∀b∈X.ex,b≠X.env.locals/\∀x c,X.env.cells.lookup x=some c->c≠b
 bs:∀b o,X.base.get? b=some o->X.s₀.heap.get? b=some o/\X.H₀ b=none
 bsz:X.base.objs.size<=X.s₀.heap.objs.size
 noex:∀b o,X.base.get? b=some o->b∉X.ex
 exfs:∀b∈X.ex,b∉X.fs
 tD:X.s₀.heap.FunFrames X.base X.outer
 frf:∀b∈X.fs,X.H₀ b=none
structure Inv (X:Cx)(π:Zp)(σ:List (Option V))(H:Hp)(s:aS):Prop where
 ok:X.Ok
 os:s.os=X.s₀.os
 bare:uj s.gens
 base:Un X.fs X.ex X.H₀ H X.s₀.heap s.heap
 loc:∃m,s.heap.Ns X.env.locals m/\∀(i:Nat) (x:Str) (v:V),X.N[i]? = some x->σ[i]? = some (some v)->Vis X.env.scope x->∃u,RelV v u/\Look X.env s.heap m x u
 cell:∀x c,X.env.cells.lookup x=some c->∃v,s.heap.IsCell c v
 free:H X.env.locals=none
 freeC:∀x c,X.env.cells.lookup x=some c->H c=none
 pin:∀p∈X.pn++π,s.heap.get? p.1=some p.2/\H p.1=none/\p.1≠X.env.locals/\p.1∉X.fs/\∀v,p.2.data≠.cell v
 hok:HOk X.prog X.w H s.heap
 len:σ.length=X.N.length
section
variable {X:Cx}{π:Zp}{σ:List (Option V)}{H H':Hp}{s:aS}{h':Heap}
theorem Cx.Ok.afS (ok:X.Ok){b:Addr}{o:Obj}(e:X.base.get? b=some o):b∉X.fs:=λhb=>by
 have:=(ok.tD.mem hb).1
 rw[e] at this;cases this
theorem Inv.bs (I:Inv X π σ H s):∀b o,X.base.get? b=some o->s.heap.get? b=some o/\H b=none:=λb o e=>
 ⟨I.base.keep b o (I.ok.bs b o e).1 (I.ok.bs b o e).2 (I.ok.afS e)<|I.ok.noex b o e,I.base.free b o (I.ok.bs b o e).1 (I.ok.bs b o e).2<|I.ok.noex b o e⟩
theorem Inv.bk (I:Inv X π σ H s):∀b o,X.base.get? b=some o->s.heap.get? b=some o:=λb o e=>(I.bs b o e).1
theorem Inv.mod (I:Inv X π σ H s):Mod X.K X.mg X.base:=I.ok.mod
theorem Inv.kIn (I:Inv X π σ H s):X.K.In s.heap:=I.ok.mod.kin.keeps I.bk
theorem Inv.lt (I:Inv X π σ H s):X.env.locals<s.heap.objs.size:=let⟨_,hn,_⟩:=I.loc;hn.lt
theorem Inv.sz (I:Inv X π σ H s):X.s₀.heap.objs.size<=s.heap.objs.size:=dr I.ok.above<|A8 I.lt
theorem Inv.afx (I:Inv X π σ H s){a:Addr}(h:s.heap.objs.size<=a):a∉X.fs:=λhb=>by
 obtain⟨_,o,ho,_⟩:=I.ok.tD.mem hb;exact absurd (br (ay ho)<|dr I.sz h)<|eT _
theorem Inv.cne (I:Inv X π σ H s):∀x c,X.env.cells.lookup x=some c->c≠X.env.locals:=λx c e z=>by
 obtain⟨v,o,ho,hd⟩:=I.cell x c e;obtain⟨m,⟨o',es,ep,ho',hd',_⟩,_⟩:=I.loc;rw[z,ho'] at ho;cases ho;rw[hd'] at hd;cases hd
theorem Inv.tD (I:Inv X π σ H s):s.heap.FunFrames X.base X.outer:=by
 have all:∀(l:List Env),(∀b∈frs l,b∈X.fs)->X.s₀.heap.FunFrames X.base l->s.heap.FunFrames X.base l:=by
  intro l;induction l with
  |nil=>intro _ _;trivial
  |cons env r ih=>
   intro hs hl;obtain⟨hk,⟨L,o,hf,hn,ho,hd⟩,hr⟩:=hl;have hL:L∈X.fs:=hs L (by unfold frs;rw[l8,hf];exact ar);obtain⟨sl,e⟩:=I.base.slot L o ho (I.ok.frf L hL) hL λz=>I.ok.exfs L z hL;exact⟨hk,⟨L,_,hf,hn,e,hd⟩,ih (λb hb=>hs b (by unfold frs;rw[l8,hf];exact ah _ hb)) hr⟩
 exact all X.outer (λ_ hb=>hb) I.ok.tD
theorem Inv.stack (I:Inv X π σ H s):s.heap.FunFrames X.base X.stack:=by
 rcases I.ok.stk with e|⟨e,hf⟩
 ·rw[e];exact I.tD
 ·rw[e];obtain⟨m,hn,_⟩:=I.loc;refine .cons (by rw[I.ok.kind];decide) hf hn ?_ I.tD;exact yY<|dr I.ok.bsz I.ok.above
theorem Inv.Hi (I:Inv X π σ H s):∀b∈frs X.stack,b∈X.env.locals::X.fs:=λb hb=>by
 rcases I.ok.stk with e|⟨e,hf⟩
 ·rw[e] at hb;exact ah _ hb
 ·rw[e] at hb;unfold frs at hb;rw[l8,hf] at hb;exact hb
theorem Inv.yW (I:Inv X π σ H s):∀b∈frs X.stack,H b=none:=λb hb=>by
 rcases bE.mp (I.Hi b hb) with e|hb
 ·rw[e];exact I.free
 ·obtain⟨_,o,ho,_⟩:=I.ok.tD.mem hb;exact I.base.free b o ho (I.ok.frf b hb) λz=>I.ok.exfs b z hb
theorem Inv.step {g':Array nL}{t':Nat}{d':Drawn}{ch:List Addr}(I:Inv X π σ H s)
  (hch:∀b∈ch,(b∈X.ex\/X.s₀.heap.objs.size<=b)/\b≠X.env.locals/\(∀x c,X.env.cells.lookup x=some c->c≠b)/\∀p∈X.pn++π,p.1≠b)
  (keep:∀b o,b≠X.env.locals->b∉X.fs->b∉ch->s.heap.get? b=some o->H b=none->h'.get? b=some o)
  (slot:∀b o,b≠X.env.locals->b∈X.fs->b∉ch->s.heap.get? b=some o->H b=none->∃sl,h'.get? b=some { o with slots:=sl }) (free:∀b o,b∉ch->s.heap.get? b=some o->H b=none->H' b=none)
  (there:∀b o,b∉ch->s.heap.get? b=some o->∃o',h'.get? b=some o')
  (tups:∀b xs,H b=some (.tup xs)->H' b=some (.tup xs)) (frzs:∀b o u,H b=some (.frz o u)->H' b=some (.frz o u)) (tbls:∀b ps,H b=some (.tbl ps)->∃more,H' b=some (.tbl<|ps++more))
  (ns:∀m,s.heap.Ns X.env.locals m->h'.Ns X.env.locals m) (hok:HOk X.prog X.w H' h') (hg:uj g'):
  Inv X π σ H' { s with heap:=h',gens:=g',drawn:=d',toks:=t' }:=by
 have neL:∀b o,X.s₀.heap.get? b=some o->b≠X.env.locals:=λb o e=>bo<|br (ay e) I.ok.above;have neC:∀b o,X.s₀.heap.get? b=some o->b∉X.ex->b∉ch:=λb o e hx hb=>by
  rcases(hch b hb).1 with z|z
  ·exact hx z
  ·exact absurd (br (ay e) z)<|eT _
 have cellK:∀x c,X.env.cells.lookup x=some c->∀v,s.heap.IsCell c v->h'.IsCell c v:=λx c e v ⟨o,ho,hd⟩=>by
  have nch:c∉ch:=λz=>(hch c z).2.2.1 x c e rfl;by_cases hc:c∈X.fs
  ·obtain⟨sl,q⟩:=slot c o (I.cne x c e) hc nch ho<|I.freeC x c e;exact⟨_,q,hd⟩
  ·exact⟨o,keep c o (I.cne x c e) hc nch ho<|I.freeC x c e,hd⟩
 refine⟨I.ok,I.os,hg,⟨λb o e n hb hx=>?_,λb o e n hb hx=>?_,λb o e n hx=>?_,λb o e hx=>?_,λb xs e=>tups b xs<|I.base.tups b xs e,λb o xs e=>frzs b o xs<|I.base.frzs b o xs e,λb ps e=>?_⟩,?_,λx c e=>?_,?_,λx c e=>?_,λp hp=>?_,hok,I.len⟩
 ·exact keep b o (neL b o e) hb (neC b o e hx) (I.base.keep b o e n hb hx)<|I.base.free b o e n hx
 ·obtain⟨sl,e1⟩:=I.base.slot b o e n hb hx;obtain⟨sl',e2⟩:=slot b _ (neL b o e) hb (neC b o e hx) e1<|I.base.free b o e n hx;exact⟨sl',e2⟩
 ·obtain⟨o',e1⟩:=I.base.there b o e hx;exact free b o' (neC b o e hx) e1<|I.base.free b o e n hx
 ·obtain⟨o',e1⟩:=I.base.there b o e hx;exact there b o' (neC b o e hx) e1
 ·obtain⟨m1,e1⟩:=I.base.tbls b ps e;obtain⟨m2,e2⟩:=tbls b _ e1;exact⟨m1++m2,by rw[e2,ml]⟩
 ·obtain⟨m,hn,hl⟩:=I.loc;refine⟨m,ns m hn,λi x v e1 e2 e3=>?_⟩;obtain⟨u,r,l⟩:=hl i x v e1 e2 e3;refine⟨u,r,?_⟩;rcases l with l|⟨k,c,e,z⟩
  ·exact .inl l
  ·exact .inr ⟨k,c,e,cellK x c e _ z⟩
 ·obtain⟨v,z⟩:=I.cell x c e;exact⟨v,cellK x c e v z⟩
 ·obtain⟨m,⟨o,_,_,ho,_⟩,_⟩:=I.loc;exact free _ o (λz=>(hch _ z).2.1 rfl) ho I.free
 ·obtain⟨v,o,ho,hd⟩:=I.cell x c e;exact free c o (λz=>(hch c z).2.2.1 x c e rfl) ho<|I.freeC x c e
 ·refine Fe (I.pin p hp) λe n ne nf d=>?_;have nch:p.1∉ch:=λz=>(hch p.1 z).2.2.2 p hp rfl;exact⟨keep p.1 p.2 ne nf nch e n,free p.1 p.2 nch e n,ne,nf,d⟩
theorem Inv.un {t':Nat}(I:Inv X π σ H s)(u:Un X.fs [] H H' s.heap h')(hok:HOk X.prog X.w H' h'):Inv X π σ H' { s with heap:=h',toks:=t' }:=by
 obtain⟨m,⟨o,es,ep,ho,r⟩,_⟩:=id I.loc;obtain⟨sl,hL⟩:=u.any ho I.free (by simp);exact I.step (g':=s.gens) (d':=s.drawn) (ch:=[]) (λ_ z=>nomatch z) (λb o _ hb _ e n=>u.keep b o e n hb<|by simp) (λb o _ hb _ e n=>u.slot b o e n hb<|by simp) (λb o _ e n=>u.free b o e n<|by simp) (λb o _ e=>u.there b o e<|by simp) u.tups u.frzs u.tbls (λm' hm=>by
  refine O8 hm λo' es' ep' ho' r'=>?_;rw[ho] at ho';cases ho';exact⟨_,es',ep',hL,r'⟩) hok I.bare
theorem Inv.call {g':Array nL}{t':Nat}{d':Drawn}{ch:List Addr}(I:Inv X π σ H s)(u:Un (frs X.stack) ch H H' s.heap h')(hok:HOk X.prog X.w H' h')(hg:uj g')
  (hch:∀b∈ch,(b∈X.ex\/X.s₀.heap.objs.size<=b)/\b≠X.env.locals/\(∀x c,X.env.cells.lookup x=some c->c≠b)/\∀p∈X.pn++π,p.1≠b):
  Inv X π σ H' { s with heap:=h',gens:=g',drawn:=d',toks:=t' }:=by
 obtain⟨m,⟨o,es,ep,ho,r⟩,_⟩:=id I.loc;obtain⟨sl,hL⟩:=u.any ho I.free λz=>(hch _ z).2.1 rfl;exact I.step (ch:=ch) hch (λb o hL hb hc e n=>u.keep b o e n (λz=>(bE.mp<|I.Hi b z).elim hL hb) hc) (λb o _ _ hc e n=>u.any e n hc) (λb o hc e n=>u.free b o e n hc) (λb o hc e=>u.there b o e hc) u.tups u.frzs u.tbls (λm' hm=>by
  refine O8 hm λo' es' ep' ho' r'=>?_;rw[ho] at ho';cases ho';exact⟨_,es',ep',hL,r'⟩) hok hg
theorem Inv.turned {t':Nat}{it:Addr}(I:Inv X π σ H s)(k:∀b o,b≠it->s.heap.get? b=some o->h'.get? b=some o)(hn:H it=none)(hL:it≠X.env.locals)
  (h1:it∈X.ex\/X.s₀.heap.objs.size<=it) (h2:∀x c,X.env.cells.lookup x=some c->c≠it) (h3:∀p∈X.pn++π,p.1≠it):Inv X π σ H { s with heap:=h',toks:=t' }:=by
 have nit:∀b u,H b=some u->b≠it:=λb u e z=>by rw[z,hn] at e;cases e
 refine I.step (g':=s.gens) (d':=s.drawn) (ch:=[it]) (λb hb=>?_) (λb o _ _ hc e _=>k b o (λz=>hc<|by simp[z]) e) (λb o _ _ hc e _=>⟨o.slots,k b o (λz=>hc<|by simp[z]) e⟩) (λ_ _ _ _ n=>n)
  (λb o hc e=>⟨o,k b o (λz=>hc<|by simp[z]) e⟩) (λ_ _ e=>e) (λ_ _ _ e=>e) (λb ps e=>⟨#[],by rw[e];simp⟩) (λm hm=>?_) (λb u e=>?_) I.bare
 ·have e:b=it:=by simpa using hb
  subst e;exact⟨h1,hL,h2,h3⟩
 ·refine O8 hm λo es ep ho r=>?_;exact⟨o,es,ep,k _ o (ix hL) ho,r⟩
 ·refine(I.hok b u e).stay (λc v hc q=>k c v ?_ q) (λ_ q=>q) λ_ _ q=>q;rcases hc with z|z
  ·rw[z];exact nit b u e
  ·exact nit c _ z
theorem Inv.tok (I:Inv X π σ H s)(t:Nat):Inv X π σ H { s with toks:=t }:=I.un (h':=s.heap) (t':=t) Un.refl I.hok
theorem Inv.kept (I:Inv X π σ H s)(k:∀b u,s.heap.get? b=some u->h'.get? b=some u):Inv X π σ H { s with heap:=h',toks:=t' }:=I.un (Un.kept k)<|I.hok.kept k
theorem Inv.laid (I:Inv X π σ H s)(k:∀b u,s.heap.get? b=some u->h'.get? b=some u)(hp:s.heap.objs.size<=a)(new:cu X.prog X.w (upd H a o) h' a o):
  Inv X π σ (upd H a o) { s with heap:=h',toks:=t' }:=I.un (Un.laid k hp<|I.hok.fresh hp)<|I.hok.laid k hp new
theorem Inv.write (I:Inv X π σ H s)(mu:Mut (H x))(he:e=x\/H e=some (.own x))(k:∀b u,b≠e->s.heap.get? b=some u->h'.get? b=some u)(heo:∃u,h'.get? e=some u)
  (new:cu X.prog X.w (upd H x o) h' x o):Inv X π σ (upd H x o) { s with heap:=h',toks:=t' }:=I.un (Un.write mu he k heo)<|I.hok.write mu he k heo new
theorem Inv.weak (I:Inv X π σ H s)(hl:σ'.length=σ.length)(w:∀(i:Nat) v,σ'[i]? = some (some v)->σ[i]? = some (some v)):Inv X π σ' H s:=
 ⟨I.ok,I.os,I.bare,I.base,let⟨m,hn,hl'⟩:=I.loc;⟨m,hn,λi x v e1 e2 e3=>hl' i x v e1 (w i v e2) e3⟩,I.cell,I.free,I.freeC,I.pin,I.hok,hl.trans I.len⟩
theorem Inv.O1 (I:Inv X π σ H s)(h:∀p∈pins',s.heap.get? p.1=some p.2/\H p.1=none/\p.1≠X.env.locals/\p.1∉X.fs/\∀v,p.2.data≠.cell v):Inv X pins' σ H s:=
 ⟨I.ok,I.os,I.bare,I.base,I.loc,I.cell,I.free,I.freeC,λp hp=>(cm.mp hp).elim (λz=>I.pin p<|y3 _ z)<|h p,I.hok,I.len⟩
theorem Dh {N:List Str}(hN:N.Nodup){i j:Nat}{x:Str}(a:N[i]? = some x)(b:N[j]? = some x):i=j:=by
 obtain⟨h1,e1⟩:=d4.mp a;obtain⟨h2,e2⟩:=d4.mp b;exact(List.getElem_inj hN).mp (e1.trans e2.symm)
theorem GF (I:Inv X π σ H s)(hN:X.N.Nodup)(hi:X.N[i]? = some x)(hx:Loc X.env.scope x)(r:RelV v u)
  (h:∀s',Inv X π (σ.set i<|some v) H s'->(∃a,iX a s.heap s'.heap/\(a=X.env.locals\/X.env.cells.lookup x=some a))->Q () s') (hf:X.fn x=true\/X.env.scope.names.lookup x=some .local:=by first|exact .inl rfl|exact .inr rfl|assumption):bp M A (storeName X.env x u) Q E s:=by
 obtain⟨m,hn,hl⟩:=id I.loc;have hcls:(X.env.scope.kind==.class||(X.env.scope.kind==.module&&X.env.locals != X.env.globals))=false:=by rw[I.ok.kind];rfl
 have hiσ:i<σ.length:=by rw[I.len];exact(d4.mp hi).1
 have cne:=I.cne;have tracked:∀{a:Addr} {h':Heap},(∃o,s.heap.get? a=some o/\H a=none)->iX a s.heap h'->HOk X.prog X.w H h':=λ{a h'} ha hs b ob e=>by
  obtain⟨_,_,hfree⟩:=ha;refine(I.hok b ob e).stay (λc w' hc q=>(hs.2 c ?_).trans q) (λ_ q=>q) λ_ _ q=>q;rintro rfl;rcases hc with rfl|hc
  ·rw[hfree] at e;cases e
  ·rw[hfree] at hc;cases hc
 rcases hx with hk|hk
 ·refine wpAny_storeName_local hk hn (λh' hn' hs=>?_) hcls;refine O8 (id hn) λoL _ _ hoL _=>?_;refine h _ ⟨I.ok,I.os,I.bare,⟨λb o e n hb hx=>?_,λb o e n hb hx=>?_,I.base.free,λb o e hx=>?_,I.base.tups,I.base.frzs,I.base.tbls⟩,⟨_,hn',λj y v' e1 e2 e3=>?_⟩,λy c e=>?_,I.free,I.freeC,λp hp=>?_,tracked ⟨oL,hoL,I.free⟩ hs,by simpa using I.len⟩ ⟨_,hs,.inl rfl⟩
  ·exact(hs.2 b<|bo<|br (ay e) I.ok.above).trans (I.base.keep b o e n hb hx)
  ·obtain⟨sl,e1⟩:=I.base.slot b o e n hb hx;exact⟨sl,(hs.2 b<|bo<|br (ay e) I.ok.above).trans e1⟩
  ·obtain⟨o',e1⟩:=I.base.there b o e hx;exact⟨o',(hs.2 b<|bo<|br (ay e) I.ok.above).trans e1⟩
  ·by_cases hj:j=i
   ·subst hj;rw[hi] at e1;cases e1;rw[c8 hiσ] at e2;cases e2;exact⟨u,r,.inl ⟨hk,by simp⟩⟩
   ·rw[dn<|ix hj] at e2;obtain⟨u',r',q⟩:=hl j y v' e1 e2 e3;refine⟨u',r',?_⟩;rcases q with⟨k,e⟩|⟨k,c,e,z⟩
    ·refine .inl ⟨k,?_⟩
     have:y≠x:=λe=>hj<|Dh hN e1<|e▸hi
     simp[this,e]
    ·exact .inr ⟨k,c,e,z.sameBut hs<|cne y c e⟩
  ·obtain⟨w',z⟩:=I.cell y c e;exact⟨w',z.sameBut hs<|cne y c e⟩
  ·refine Fe (I.pin p hp) λe n ne nf d=>?_;exact⟨(hs.2 p.1 ne).trans e,n,ne,nf,d⟩
 ·have hfn:X.fn x=true:=by
   rcases hf with z|z
   ·exact z
   ·rw[z] at hk;cases hk
  obtain⟨c,hc⟩:=I.ok.has x<|.inl hk;obtain⟨w',z⟩:=I.cell x c hc;refine wpAny_storeName_cell I.ok.kind hk hc z λh' hc' hs=>?_;obtain⟨oc,hoc,hocd⟩:=id z;refine h { s with heap:=h' } ⟨I.ok,I.os,I.bare,⟨λb o e n hb hx=>?_,λb o e n hb hx=>?_,I.base.free,λb o e hx=>?_,I.base.tups,I.base.frzs,I.base.tbls⟩,⟨m,hn.sameBut hs<|ix<|cne x c hc,λj y v' e1 e2 e3=>?_⟩,λy c' e=>?_,I.free,I.freeC,λp hp=>?_,tracked ⟨oc,hoc,I.freeC x c hc⟩ hs,by simpa using I.len⟩ ⟨c,hs,.inr hc⟩
  ·exact(hs.2 b<|bo<|br (ay e)<|I.ok.cab x c hfn hc).trans (I.base.keep b o e n hb hx)
  ·obtain⟨sl,e1⟩:=I.base.slot b o e n hb hx;exact⟨sl,(hs.2 b<|bo<|br (ay e)<|I.ok.cab x c hfn hc).trans e1⟩
  ·obtain⟨o',e1⟩:=I.base.there b o e hx;exact⟨o',(hs.2 b<|bo<|br (ay e)<|I.ok.cab x c hfn hc).trans e1⟩
  ·by_cases hj:j=i
   ·subst hj;rw[hi] at e1;cases e1;rw[c8 hiσ] at e2;cases e2;exact⟨u,r,.inr ⟨.inl hk,c,hc,hc'⟩⟩
   ·rw[dn<|ix hj] at e2;obtain⟨u',r',q⟩:=hl j y v' e1 e2 e3;refine⟨u',r',?_⟩;rcases q with q|⟨k,c',e,z'⟩
    ·exact .inl q
    ·refine .inr ⟨k,c',e,z'.sameBut hs ?_⟩;rintro rfl;exact hj<|Dh hN e1<|I.ok.inj _ _ _ e hc▸hi
  ·by_cases hcc:c'=c
   ·subst hcc;exact⟨_,hc'⟩
   ·obtain⟨w2,z2⟩:=I.cell y c' e;exact⟨w2,z2.sameBut hs hcc⟩
  ·refine Fe (I.pin p hp) λe n ne nf d=>?_;refine⟨(hs.2 p.1 ?_).trans e,n,ne,nf,d⟩;intro q;rw[q,hoc] at e;have q':oc=p.2:=b9 e;exact d w' (by rw[← q'];exact hocd)
theorem sU (I:Inv X π σ H s)(hN:X.N.Nodup)(hi:X.N[i]? = some x)(hx:Loc X.env.scope x)(r:RelV v u)
  (h:∀s',Inv X π (σ.set i<|some v) H s'->Q () s') (hf:X.fn x=true\/X.env.scope.names.lookup x=some .local:=by first|exact .inl rfl|exact .inr rfl|assumption):bp M A (storeName X.env x u) Q E s:=
 GF I hN hi hx r (λs' I' _=>h s' I') hf
theorem Inv.call' (I:Inv X π σ H s)(ho:s'.os=s.os)(u:Un (frs X.stack) ch H H' s.heap s'.heap)(hok:HOk X.prog X.w H' s'.heap)(hg:uj s'.gens)
  (hch:∀b∈ch,(b∈X.ex\/X.s₀.heap.objs.size<=b)/\b≠X.env.locals/\(∀x c,X.env.cells.lookup x=some c->c≠b)/\∀p∈X.pn++π,p.1≠b):Inv X π σ H' s':=by
 obtain⟨h',g',d',t',o'⟩:=s';have e:o'=s.os:=ho;subst e;exact I.call (g':=g') (t':=t') (d':=d') u hok hg hch
end
abbrev XK:=aw->Option Addr->Hp->Prop
abbrev St:=List<|Option V
abbrev VK:=V->Hp->Prop
abbrev TE:=St->Hp->VK->Prop
abbrev TT:=St->Hp->(Bool->Hp->Prop)->Prop
abbrev TA:=St->Hp->(List V->Hp->Prop)->Prop
structure Ends where
 nx:St->Hp->Prop
 rt:VK
 bk:St->Hp->Prop:=λ_ _=>False
 ct:St->Hp->Prop:=λ_ _=>False
abbrev TS:=Ends->St->Hp->Prop
def EP (X:Cx)(π:Zp)(σ:St)(Q:VK)(u:aw)(s':aS):Prop:=∃v H',Inv X π σ H' s'/\RelV v u/\Q v H'
def TP (X:Cx)(π:Zp)(σ:St)(Q:Bool->Hp->Prop)(b:Bool)(s':aS):Prop:=∃H',Inv X π σ H' s'/\Q b H'
def AP (X:Cx)(π:Zp)(σ:St)(Q:List V->Hp->Prop)(us:List aw)(s':aS):Prop:=∃vs H',Inv X π σ H' s'/\Vals vs us/\Q vs H'
def SP (X:Cx)(π:Zp)(D:Ends)(f:Flow)(s':aS):Prop:=
 match f with
 | .next=>∃σ' H',Inv X π σ' H' s'/\D.nx σ' H'
 | .brk=>∃σ' H',Inv X π σ' H' s'/\D.bk σ' H'
 | .cont=>∃σ' H',Inv X π σ' H' s'/\D.ct σ' H'
 | .ret u=>∃v σ' H',Inv X π σ' H' s'/\RelV v u/\D.rt v H'
def PE (X:Cx)(e:Expr)(t:TE):Prop:=
 ∀(π:Zp) (s:aS) (σ:St) (H:Hp) (Q:VK),Inv X π σ H s->t σ H Q->bp (b6 X.prog X.w) X.A (eval e X.env) (EP X π σ Q) X.xe s
def PT (X:Cx)(e:Expr)(t:TT):Prop:=
 ∀(π:Zp) (s:aS) (σ:St) (H:Hp) (Q:Bool->Hp->Prop),Inv X π σ H s->t σ H Q->bp (b6 X.prog X.w) X.A (isTrue e X.env<|eval e X.env) (TP X π σ Q) X.xe s
def PW (X:Cx)(e:Expr)(t:TT):Prop:=
 ∀(whole:Sem aw) (π:Zp) (s:aS) (σ:St) (H:Hp) (Q:Bool->Hp->Prop),Inv X π σ H s->t σ H Q->bp (b6 X.prog X.w) X.A (isTrue e X.env whole) (TP X π σ Q) X.xe s
theorem PW.pt (h:PW X e t):PT X e t:=h _
def PA (X:Cx)(es:List Expr)(t:TA):Prop:=
 ∀(pos:Pos) (π:Zp) (s:aS) (σ:St) (H:Hp) (Q:List V->Hp->Prop),Inv X π σ H s->t σ H Q->bp (b6 X.prog X.w) X.A (spliced<|hV pos<|ag es X.env) (AP X π σ Q) X.xe s
def PS (X:Cx)(st:Stmt)(t:TS):Prop:=
 ∀(π:Zp) (s:aS) (σ:St) (H:Hp) (D:Ends),Inv X π σ H s->t D σ H->bp (b6 X.prog X.w) X.A (exec st X.env) (SP X π D) X.xe s
def PSs (X:Cx)(st:List Stmt)(t:TS):Prop:=
 ∀(π:Zp) (s:aS) (σ:St) (H:Hp) (D:Ends),Inv X π σ H s->t D σ H->bp (b6 X.prog X.w) X.A (execs st X.env) (SP X π D) X.xe s
theorem thn (h:bp M A t Q E s)(hQ:∀a s,Q a s->Q' a s):bp M A t Q' E s:=fx h hQ λ_ _ x=>x
section
variable {X:Cx}
def afO (i:Nat):TE:=λσ H Q=>∃v,σ[i]? = some (some v)/\Q v H
def tC (v:V):TE:=λ_ H Q=>Q v H
theorem iy (hN:X.N[i]? = some x)(hv:Vis X.env.scope x)(hd:(x==("__debug__":Str))=false:=by decide)(hcd:(x==("__classdict__":Str))=false:=by decide):PE X (.Name x pos) (afO i):=by
 intro π s σ H Q I h;obtain⟨v,e,h⟩:=h;obtain⟨m,hn,hl⟩:=I.loc;obtain⟨u,r,l⟩:=hl i x v hN e hv;have fin:EP X π σ Q u s:=⟨v,H,I,r,h⟩;rcases l with⟨hk,hm⟩|⟨hk,c,hc,hcell⟩
 ·exact wpAny_Name (wpAny_loadName_local I.ok.kind hk hn hm fin) hd
 ·rcases hk with hk|hk
  ·exact wpAny_Name (wpAny_loadName_cell I.ok.kind hk hc hcell fin) hd
  ·exact wpAny_Name (wpAny_loadName_free I.ok.kind hk hc hcell fin hcd) hd
theorem ac8:PE X (.Constant (.int i) j pos) (tC<|.int i):=λ_ _ _ H _ I h=>wpAny_Constant_int ⟨.int i,H,I.tok _,⟨_,rfl⟩,h⟩
theorem adv:PE X (.Constant (.bool b) j pos) (tC<|.bl b):=λ_ _ _ H _ I h=>Constant_bool ⟨.bl b,H,I,rfl,h⟩
theorem abD:PE X (.Constant .none j pos) (tC .non):=λ_ _ _ H _ I h=>Constant_none ⟨.non,H,I,rfl,h⟩
theorem acf:PE X (.Constant (.str x) j pos) (tC<|.str x):=λ_ _ _ H _ I h=>Calls.Constant_str ⟨.str x,H,I.tok _,⟨_,rfl⟩,h⟩
def Gl (X:Cx)(x:Str):Prop:=X.env.kindOf x=some .globalImplicit
theorem qY (I:Inv X π σ H s)(hg:Gl X x)(hm:X.mg x=some u)(h:Q u s)
  (hd:(x==("__debug__":Str))=false:=by decide):bp (b6 X.prog X.w) X.A (eval (.Name x pos) X.env) Q E s:=
 rf I.ok.kind hg (Calls.loadGlobal_global (by rw[I.ok.glob];exact I.mod.glob.keeps I.bk) hm h) hd
theorem um (I:Inv X π σ H s)(hg:Gl X x)(hm:X.mg x=none)(hv:cc x=some u)(h:Q u s)
  (hn:x≠"__name__":=by decide) (hd:(x==("__debug__":Str))=false:=by decide):bp (b6 X.prog X.w) X.A (eval (.Name x pos) X.env) Q E s:=by
 obtain⟨mb,h1,h2⟩:=I.mod.blt;exact rf I.ok.kind hg (Calls.loadGlobal_builtin (by rw[I.ok.glob];exact I.mod.glob.keeps I.bk) hm (by rw[I.ok.blt];exact h1.keeps I.bk) ((h2 x hn).trans hv) h) hd
theorem Hm (hg:Gl X x)(hm:X.mg x=some u)(r:RelV v u)(hd:(x==("__debug__":Str))=false:=by decide):PE X (.Name x pos) (tC v):=
 λ_ _ _ H _ I h=>qY I hg hm ⟨v,H,I,r,h⟩ hd
theorem Qp (hg:Gl X x)(hm:X.mg x=none)(hv:cc x=some u)(r:RelV v u)(hn:x≠"__name__":=by decide)(hd:(x==("__debug__":Str))=false:=by decide):PE X (.Name x pos) (tC v):=
 λ_ _ _ H _ I h=>um I hg hm hv ⟨v,H,I,r,h⟩ hn hd
variable {a b:Expr}{ta tb:TE}{pos:Pos}
def PC (X:Cx)(op:CmpOp)(a b:Expr)(t:TE):Prop:=
 ∀(π:Zp) (s:aS) (σ:St) (H:Hp) (Q:VK),Inv X π σ H s->t σ H Q->
  bp (b6 X.prog X.w) X.A (eval a X.env) (λv s₁=>bp (b6 X.prog X.w) X.A (eval b X.env) (λu s₂=>bp (b6 X.prog X.w) X.A (fR op v u) (EP X π σ Q) X.xe s₂) X.xe s₁) X.xe s
theorem adw (b:Expr){op:CmpOp}(h:op≠.In)(h2:op≠.NotIn):i6 op b=false:=by
 have e1:(op==CmpOp.In)=false:=by cases op<;>first|rfl|exact absurd rfl h
 have e2:(op==CmpOp.NotIn)=false:=by cases op<;>first|rfl|exact absurd rfl h2
 cases b<;>simp[i6,e1,e2]
def tB (t:TE):TT:=λσ H Q=>t σ H λx H1=>∃c,x=.bl c/\Q c H1
theorem ac2 (h:PE X e t)(he:∀whole,isTrue e X.env whole=(do let v←whole;standAt e.pos;zw [v] (truthy v)):=by intro _;rfl):PT X e (tB t):=by
 intro π s σ H Q I hw;refine isTrue_plain (thn (h π s σ H _ I hw) λv s1 hE=>xq2 hE λx H1 I1 r1 q1=>?_)<|he _;obtain⟨d,rfl,q⟩:=q1;cases r1;exact iF ⟨H1,I1,q⟩
variable {tA tB':TT}{rest:List Expr}
def afY (t u:TT):TT:=λσ H Q=>t σ H λc H1=>if c=true then u σ H1 Q else Q false H1
def tOr (t u:TT):TT:=λσ H Q=>t σ H λc H1=>if c=true then Q true H1 else u σ H1 Q
def af5 (t:TT):TT:=λσ H Q=>t σ H λc H1=>Q (!c) H1
theorem aae (ha:PT X a tA):PW X (.BoolOp .And [a] pos) tA:=by
 intro wh π s σ H Q I h;refine isTrue_and<|thn (ha π s σ H Q I h) λc s1 e=>?_;cases c with
 |true=>exact isTrue_and_nil e
 |false=>exact e
theorem ab2 (ha:PT X a tA):PW X (.BoolOp .Or [a] pos) tA:=by
 intro wh π s σ H Q I h;refine isTrue_or<|thn (ha π s σ H Q I h) λc s1 e=>?_;cases c with
 |false=>exact isTrue_or_nil e
 |true=>exact e
theorem aa9 (ha:PT X a tA)(hb:PW X (.BoolOp .And (b::rest) pos) tB'):PW X (.BoolOp .And (a::b::rest) pos) (afY tA tB'):=by
 intro wh π s σ H Q I h;refine isTrue_and<|thn (ha π s σ H _ I h) λc s1 ⟨H1,I1,q1⟩=>?_;cases c with
 |true=>exact hb wh π s1 σ H1 Q I1 q1
 |false=>exact⟨H1,I1,q1⟩
theorem ad1 (ha:PT X a tA)(hb:PW X (.BoolOp .Or (b::rest) pos) tB'):PW X (.BoolOp .Or (a::b::rest) pos) (tOr tA tB'):=by
 intro wh π s σ H Q I h;refine isTrue_or<|thn (ha π s σ H _ I h) λc s1 ⟨H1,I1,q1⟩=>?_;cases c with
 |true=>exact⟨H1,I1,q1⟩
 |false=>exact hb wh π s1 σ H1 Q I1 q1
theorem abm (ha:PT X a tA):PT X (.UnaryOp .Not a pos) (af5 tA):=by
 intro π s σ H Q I h;exact isTrue_not<|ha π s σ H (λc H1=>Q (!c) H1) I h
def aeK (ta tb:TE):TE:=λσ H Q=>ta σ H λx H1=>∃c,x=.bl c/\if c=true then tb σ H1 Q else Q (.bl false) H1
def af4 (ta tb:TE):TE:=λσ H Q=>ta σ H λx H1=>∃c,x=.bl c/\if c=true then Q (.bl true) H1 else tb σ H1 Q
def aee (ta:TE):TE:=λσ H Q=>ta σ H λx H1=>∃c,x=.bl c/\Q (.bl<|!c) H1
theorem abl (h:PE X a t):PE X (.BoolOp op [a] pos) t:=λπ s σ H Q I hw=>BoolOp_one<|h π s σ H Q I hw
theorem adl (ha:PE X a ta)(hb:PE X (.BoolOp .And (b::rest) pos) tb):PE X (.BoolOp .And (a::b::rest) pos) (aeK ta tb):=by
 intro π s σ H Q I h;refine BoolOp_and<|thn (ha π s σ H _ I h) λv s1 hE=>xq2 hE λx H1 I1 r1 q1=>?_;obtain⟨c,rfl,q1⟩:=q1;cases r1;refine iF ?_;cases c with
 |true=>exact hb π s1 σ H1 Q I1 q1
 |false=>exact⟨.bl false,H1,I1,rfl,q1⟩
theorem aeg (ha:PE X a ta)(hb:PE X (.BoolOp .Or (b::rest) pos) tb):PE X (.BoolOp .Or (a::b::rest) pos) (af4 ta tb):=by
 intro π s σ H Q I h;refine BoolOp_or<|thn (ha π s σ H _ I h) λv s1 hE=>xq2 hE λx H1 I1 r1 q1=>?_;obtain⟨c,rfl,q1⟩:=q1;cases r1;refine iF ?_;cases c with
 |false=>exact hb π s1 σ H1 Q I1 q1
 |true=>exact⟨.bl true,H1,I1,rfl,q1⟩
theorem ab9 (ha:PE X a ta):PE X (.UnaryOp .Not a pos) (aee ta):=by
 intro π s σ H Q I h;refine UnaryOp_<|thn (ha π s σ H _ I h) λv s1 hE=>xq2 hE λx H1 I1 r1 q1=>?_;obtain⟨c,rfl,q1⟩:=q1;cases r1;exact not_of<|iF ⟨.bl<|!c,H1,I1,rfl,q1⟩
end
def SqL (K:a7)(H:Hp)(a:Addr)(xs:List V):Prop:=
 Rd H a (.lst xs) ∨
  ∃(o:Obj) (χ:Array aw) (n:Nat),K.lookup a=some o/\o.cls=.type "list"/\o.dict=none/\o.data=.seq χ n/\χ.size<=av/\Vals xs χ.toList
def SqT (K:a7)(H:Hp)(a:Addr)(xs:List V):Prop:=
 Rd H a (.tup xs) ∨
  ∃(o:Obj) (χ:Array aw) (n:Nat),K.lookup a=some o/\o.cls=.type "tuple"/\(o.data=.seq χ n/\o.dict=none)/\χ.size<=av/\Vals xs χ.toList
abbrev KTp (K:a7)(a:Addr)(xs:List V):Prop:=
  ∃(o:Obj) (χ:Array aw) (n:Nat),K.lookup a=some o/\o.cls=.type "tuple"/\(o.data=.seq χ n/\o.dict=none)/\χ.size<=av/\Vals xs χ.toList
def SqU (K:a7)(H:Hp)(a:Addr)(xs:List V):Prop:=H a=some (.tup xs)\/KTp K a xs
theorem SqU.sq {K:a7}{H:Hp}{a:Addr}{xs:List V}(h:SqU K H a xs):SqT K H a xs:=h.elim (λe=>.inl<|.inl e) .inr
theorem SqU.of {K:a7}{H:Hp}{a:Addr}{xs:List V}(h:H a=some (.tup xs)):SqU K H a xs:=.inl h
noncomputable def afM:aw->Option V
 | .none=>some .non
 | .bool b=>some<|.bl b
 | .int i _=>some<|.int i
 | .str x _=>some<|.str x
 | .bytes b _=>some<|.byt b
 | .float b _=>some<|.flt b
 | .ref a=>some<|.ref a
 | .type n=>some<|.ty n
 |_=>none
theorem RelV.abs (r:RelV x u):afM u=some x:=by
 cases x with
 |non=>cases r;rfl
 |bl _=>cases r;rfl
 |int _=>obtain⟨t,rfl⟩:=r;rfl
 |str _=>obtain⟨t,rfl⟩:=r;rfl
 |byt _=>obtain⟨t,rfl⟩:=r;rfl
 |flt _=>obtain⟨t,rfl⟩:=r;rfl
 |ref _=>cases r;rfl
 |ty _=>cases r;rfl
theorem RelV.inj (r:RelV x u)(q:RelV y u):x=y:=b9<|r.abs.symm.trans q.abs
theorem Vals.inj:∀{xs ys:List V} {us:List aw},Vals xs us->Vals ys us->xs=ys
 |_,_,_,.nil,.nil=>rfl
 |_,_,_,.cons r t,.cons r' t'=>by rw[r.inj r',Vals.inj t t']
section
variable {X:Cx}{π:Zp}{σ:St}{H:Hp}{s:aS}{a:Addr}{xs ys:List V}
theorem SqL.of {K:a7}(h:H a=some (.lst xs)):SqL K H a xs:=.inl<|.inl h
theorem Inv.list (I:Inv X π σ H s)(h:SqL X.K H a xs):∃χ:List aw,Vals xs χ/\PlainL s.heap a χ.toArray/\xs.length<=av:=by
 rcases h with h|⟨o,χ,n,hk,hc,hd,hs,hz,r⟩
 ·obtain⟨z,χ,n,r,e⟩:=h.ok I.hok;exact⟨χ,r,⟨_,n,e,rfl,rfl,rfl⟩,z⟩
 ·refine⟨χ.toList,r,⟨o,n,I.kIn a o hk,hc,hd,by simpa using hs⟩,?_⟩;have e:=r.length;simp only[pS] at e
  lia
theorem Inv.tuple (I:Inv X π σ H s)(h:SqT X.K H a xs):∃χ:List aw,Vals xs χ/\IsTup s.heap a χ.toArray/\xs.length<=av:=by
 rcases h with h|⟨o,χ,n,hk,hc,hs,hz,r⟩
 ·obtain⟨z,χ,r,p⟩:=h.ok I.hok;exact⟨χ,r,p.tup,z⟩
 ·refine⟨χ.toList,r,⟨o,I.kIn a o hk,hc,n,by simpa using hs.1⟩,?_⟩;have e:=r.length;simp only[pS] at e
  lia
theorem Inv.Cw (I:Inv X π σ H s)(h:SqL X.K H a xs)(h':SqL X.K H a ys):xs=ys:=by
 obtain⟨χ,r,⟨o,n,e,_,_,d⟩,_⟩:=I.list h;obtain⟨its',r',⟨o',n',e',_,_,d'⟩,_⟩:=I.list h';rw[e] at e';cases e';rw[d] at d';injection d' with d1 _
 have:χ=its':=by simpa using congrArg xh d1
 subst this;exact r.inj r'
theorem Inv.GK (I:Inv X π σ H s)(h:SqT X.K H a xs)(h':SqT X.K H a ys):xs=ys:=by
 obtain⟨χ,r,⟨o,e,_,n,d⟩,_⟩:=I.tuple h;obtain⟨its',r',⟨o',e',_,n',d'⟩,_⟩:=I.tuple h';rw[e] at e';cases e';rw[d] at d';injection d' with d1 _
 have:χ=its':=by simpa using congrArg xh d1
 subst this;exact r.inj r'
end
abbrev Cx.wish (X:Cx)(E:Zl):Cx:={ X with xe:=E }
abbrev Cx.nox (X:Cx):Cx:=X.wish λ_ _=>False
theorem Cx.Ok.wish {X:Cx}(ok:X.Ok)(E:Zl):(X.wish E).Ok:=
 ⟨ok.mod,ok.kind,ok.glob,ok.blt,ok.above,ok.inj,ok.has,ok.cab,ok.hd,ok.frames,ok.stk,ok.exf,ok.bs,ok.bsz,ok.noex,ok.exfs,ok.tD,ok.frf⟩
theorem Cx.Ok.Ho {X:Cx}(ok:(X.wish E).Ok):X.Ok:=
 ⟨ok.mod,ok.kind,ok.glob,ok.blt,ok.above,ok.inj,ok.has,ok.cab,ok.hd,ok.frames,ok.stk,ok.exf,ok.bs,ok.bsz,ok.noex,ok.exfs,ok.tD,ok.frf⟩
section
variable {X:Cx}{π:Zp}{σ:St}{H:Hp}{s:aS}{E:Zl}
theorem Inv.wish (I:Inv X π σ H s)(E:Zl):Inv (X.wish E) π σ H s:=⟨I.ok.wish E,I.os,I.bare,I.base,I.loc,I.cell,I.free,I.freeC,I.pin,I.hok,I.len⟩
theorem Inv.Ho (I:Inv (X.wish E) π σ H s):Inv X π σ H s:=⟨I.ok.Ho,I.os,I.bare,I.base,I.loc,I.cell,I.free,I.freeC,I.pin,I.hok,I.len⟩
end
section
variable {X:Cx}{st:Stmt}{rest:List Stmt}{t u:TS}{e:Expr}{te:TE}{pos:Pos}
def aeU:TS:=λD σ H=>D.nx σ H
def ad6 (t u:TS):TS:=λD σ H=>t { D with nx:=u D } σ H
theorem Z9:PSs X [] aeU:=λ_ _ σ H _ I h=>kR ⟨σ,H,I,h⟩
theorem Ko (h1:PS X st t)(h2:PSs X rest u):PSs X (st::rest) (ad6 t u):=by
 intro π s σ H D I h;refine vS<|thn (h1 π s σ H { D with nx:=u D } I h) λf s1 q=>?_;cases f with
 |next=>
  obtain⟨σ',H',I',q⟩:=q;exact h2 π s1 σ' H' D I' q
 |ret v=>exact q
 |brk=>exact q
 |cont=>exact q
theorem Bv (h1:PS X st t):PSs X [st] t:=by
 intro π s σ H D I h;refine vS<|thn (h1 π s σ H D I h) λf s1 q=>?_;cases f with
 |next=>exact kR q
 |ret v=>exact q
 |brk=>exact q
 |cont=>exact q
theorem Inv.quiet (I:Inv X π σ H s):interactive X.env=false:=by simp[interactive,I.ok.kind]
def adA (te:TE):TS:=λD σ H=>te σ H λ_ H1=>D.nx σ H1
theorem yF (he:PE X e te)(hs:fg e none pos.line X.env=pure false:=by rfl):PS X (.Expr e pos) (adA te):=by
 intro π s σ H D I h;exact wpAny_Expr_any (thn (he π s σ H _ I h) λv s1 hE=>xq2 hE λx H1 I1 r1 q1=>⟨σ,H1,I1,q1⟩) I.quiet hs
def af1 (te:TE):TS:=λD σ H=>te σ H D.rt
theorem HX (he:PE X e te):PS X (.Return (some e) pos) (af1 te):=by
 intro π s σ H D I h;exact wpAny_Return_some<|thn (he π s σ H _ I h) λv s1 hE=>xq2 hE λx H1 I1 r1 q1=>⟨x,σ,H1,I1,r1,q1⟩
def afv (c:TT)(t u:TS):TS:=λD σ H=>c σ H λb H1=>if b=true then t D σ H1 else u D σ H1
theorem aeF (hc:PT X c tc)(ha:PSs X a t)(hb:PSs X b u):PS X (.If c a b pos) (afv tc t u):=by
 intro π s σ H D I h;refine wpAny_If<|thn (hc π s σ H _ I h) λd s1 ⟨H1,I1,q1⟩=>?_;cases d with
 |true=>exact ha π s1 σ H1 D I1 q1
 |false=>exact hb π s1 σ H1 D I1 q1
end
abbrev TG:=V->St->Hp->(St->Hp->Prop)->Prop
abbrev TGs:=List V->St->Hp->(St->Hp->Prop)->Prop
def PG (X:Cx)(target:Expr)(t:TG):Prop:=
 ∀(π:Zp) (s:aS) (σ:St) (H:Hp) (v:V) (u:aw) (Q:St->Hp->Prop),Inv X π σ H s->RelV v u->t v σ H Q->
  bp (b6 X.prog X.w) X.A (xi target X.env u) (λ_ s'=>∃σ' H',Inv X π σ' H' s'/\Q σ' H') X.xe s
def PGs (X:Cx)(ts:List Expr)(t:TGs):Prop:=
 ∀(π:Zp) (s:aS) (σ:St) (H:Hp) (vs:List V) (us:List aw) (Q:St->Hp->Prop),Inv X π σ H s->Vals vs us->t vs σ H Q->
  bp (b6 X.prog X.w) X.A (AG ((ka ts X.env).map (·.2)) us) (λ_ s'=>∃σ' H',Inv X π σ' H' s'/\Q σ' H') X.xe s
abbrev aeL:=V->V->V->Hp->(Hp->Prop)->Prop
def aeZ (X:Cx)(t:aeL):Prop:=
 ∀(π:Zp) (s:aS) (σ:St) (H:Hp) (o i v:V) (ov iv u:aw) (Q:Hp->Prop),Inv X π σ H s->RelV o ov->RelV i iv->RelV v u->t o i v H Q->
  bp (b6 X.prog X.w) X.A (setItem ov iv u) (λ_ s'=>∃H',Inv X π σ H' s'/\Q H') X.xe s
section
def Eb (i:Nat):TG:=λv σ H Q=>Q (σ.set i<|some v) H
theorem Ye (hN:X.N.Nodup)(hi:X.N[i]? = some x)(hx:Loc X.env.scope x)(hf:X.fn x=true\/X.env.scope.names.lookup x=some .local:=by first|exact .inl rfl|exact .inr rfl|assumption):PG X (.Name x pos) (Eb i):=by
 intro π s σ H v u Q I r h;exact wpAny_assign_Name<|sU I hN hi hx r (λs' I'=>⟨_,H,I',h⟩) hf
def afl:TGs:=λvs σ H Q=>vs=[]/\Q σ H
def ady (t:TG)(u:TGs):TGs:=λvs σ H Q=>∃v r,vs=v::r/\t v σ H λσ' H'=>u r σ' H' Q
theorem YK:PGs X [] afl:=by
 intro π s σ H vs us Q I r h;obtain⟨e,h⟩:=h;subst e;cases r;exact assignInOrder_nil ⟨σ,H,I,h⟩
theorem Vc (h1:PG X e t)(h2:PGs X es u)
  (hs:(ka (e::es) X.env).map (·.2)=xi e X.env::(ka es X.env).map (·.2):=by rfl):PGs X (e::es) (ady t u):=by
 intro π s σ H vs us Q I r h;obtain⟨v,vr,e1,h⟩:=h;subst e1;cases r with
 |cons r rr=>
  rw[hs];refine rV<|thn (h1 π s σ H _ _ _ I r h) λ_ s1 hE=>?_;obtain⟨σ1,H1,I1,q1⟩:=hE;exact h2 π s1 σ1 H1 _ _ Q I1 rr q1
def afJ (K:a7)(n:Nat)(t:TGs):TG:=λv σ H Q=>∃a xs,v=.ref a/\SqT K H a xs/\xs.length=n/\t xs σ H Q
theorem ach (hc:X.calm=true)(h:PGs X es t)
  (hn:(ka es X.env).length=n:=by rfl) (hst:(ka es X.env).findIdx? (·.1)=none:=by rfl):PG X (.Tuple es k pos) (afJ X.K n t):=by
 intro π s σ H v u Q I r hw;obtain⟨a,xs,e1,hq,hl,hw⟩:=hw;subst e1;cases r;obtain⟨χ,rv,ht,hz⟩:=I.tuple hq;refine assign_Tuple_tuple (I.ok.hd hc) ht (by simp[hn,← hl,rv.length]) hst λh' hx=>?_;have I1:Inv X π σ H { s with heap:=h' }:=I.kept (t':=s.toks) λb o e=>hx b o (bo<|ay e) e;exact h π _ σ H xs _ Q I1 (by simpa using rv) hw
noncomputable def lV (to ti:TE)(t:aeL):TG:=λv σ H Q=>to σ H λo H1=>ti σ H1 λi H2=>t o i v H2 λH3=>Q σ H3
theorem acO (ho:PE X o to)(hi:PE X i ti)(hs:aeZ X t)
  (ha:∀v,xi (.Subscript o i pos) X.env v=(do
   let ov←zw [v] (eval o X.env)
   let iv←zw [v,ov] (eval i X.env)
   standAt pos
   zw [v,ov,iv] (setItem ov iv v)
   release [v,ov,iv] []):=by intro _;rfl):PG X (.Subscript o i pos) (lV to ti t):=by
 intro π s σ H v u Q I r h;rw[ha];refine ae<|gS<|thn (ho π s σ H _ I h) λov s1 hE=>xq2 hE λx H1 I1 r1 q1=>?_;refine ae<|gS<|thn (hi π s1 σ H1 _ I1 q1) λiv s2 hE=>xq2 hE λy H2 I2 r2 q2=>?_;refine ae<|k8<|ae<|gS<|thn (hs π s2 σ H2 x y v ov iv u _ I2 r1 r2 r q2) λ_ s3 ⟨H3,I3,q3⟩=>?_;exact wpAny_release ⟨σ,H3,I3,q3⟩
def W4 (te:TE)(g:TG):TS:=λD σ H=>te σ H λx H1=>g x σ H1 D.nx
theorem Ui (he:PE X e te)(hg:PG X tg g)(hs:oT [tg] e pos.line X.env=pure false:=by rfl)(hw:pd [tg] e X.env=pure none:=by rfl)
  (h1:(ka [tg] X.env).map (·.2)=[xi tg X.env]:=by rfl):PS X (.Assign [tg] e pos) (W4 te g):=by
 intro π s σ H D I h;refine wpAny_Assign_stores (thn (he π s σ H _ I h) λv s1 hE=>xq2 hE λx H1 I1 r1 q1=>?_) hs hw;rw[h1];exact thn (hg π s1 σ H1 x v _ I1 r1 q1) λ_ s2 q=>q
theorem BX (hN:X.N.Nodup)(hi:X.N[i]? = some x)(hx:Loc X.env.scope x)(he:PE X e te)(hs:fg e (some<|.Name x pos') pos.line X.env=pure false:=by rfl)(hf:X.fn x=true\/X.env.scope.names.lookup x=some .local:=by first|exact .inl rfl|exact .inr rfl|assumption):
  PS X (.Assign [.Name x pos'] e pos) (W4 te<|Eb i):=by
 intro π s σ H D I h;refine wpAny_Assign_Name (thn (he π s σ H _ I h) λv s1 hE=>xq2 hE λy H1 I1 r1 q1=>?_) hs;exact sU I1 hN hi hx r1 (λs2 I2=>⟨_,H1,I2,q1⟩) hf
def afm (i j:Nat)(ta:TA):TS:=λD σ H=>ta σ H λvs H1=>∃v w,vs=[v,w]/\D.nx ((σ.set i<|some v).set j<|some w) H1
theorem adk (hc:X.calm=true)(hN:X.N.Nodup)(hi:X.N[i]? = some x)(hj:X.N[j]? = some y)(hij:i≠j)
  (hx:X.env.scope.names.lookup x=some .local) (hy:X.env.scope.names.lookup y=some .local) (ha:PA X [a,b] ta)
  (hw:pd [.Tuple [.Name x px,.Name y py] kt pt] (.Tuple [a,b] k2 pt2) X.env=pure (some [x,y]))
  (hs:oT [.Tuple [.Name x px,.Name y py] kt pt] (.Tuple [a,b] k2 pt2) pos.line X.env=pure false:=by rfl):
  PS X (.Assign [.Tuple [.Name x px,.Name y py] kt pt] (.Tuple [a,b] k2 pt2) pos) (afm i j ta):=by
 intro π s σ H D I h;rw[exec_Assign_arm];refine ae<|k8 ?_;rw[hs];refine ae<|ai ?_;rw[if_neg<|by decide];refine ae<|Tuple_<|thn (ha _ π s σ H _ I h) λus s1 hE=>xq2 hE λvs H1 I1 r1 q1=>?_;obtain⟨v,w,e1,q1⟩:=q1;subst e1;obtain⟨u1,u2,rfl,rv,rw'⟩:∃u1 u2,us=[u1,u2]/\RelV v u1/\RelV w u2:=by
  cases r1 with
  |cons p q=>
   cases q with
   |cons p' q'=>
    cases q';exact⟨_,_,rfl,p,p'⟩
 refine eD ?_ (by show 2<=av;decide);have I2:Inv X π σ H1 { s1 with heap:=s1.heap.push { cls:=.type "tuple",data:=.seq [u1,u2].toArray } }:=I1.kept (t':=s1.toks) λb o e=>af _ e;rw[hw];refine ae<|ai ?_;show bp (b6 X.prog X.w) X.A (do rule "assign.swapped-stores";let items←unpackItems (.ref s1.heap.objs.size) 2 none;AG [λv=>BG X.env y v,λv=>BG X.env x v] items.reverse;pure Flow.next) _ _ _;refine ae<|pf<|ae<|unpackItems_tuple (items:=#[u1,u2]) (I.ok.hd hc) (IsTup.new s1.heap _) λh' hx'=>?_;have I3:=I2.kept (h':=h') (t':=s1.toks) λb o e=>hx' b o (bo<|ay e) e;show bp _ _ (AG [λv=>BG X.env y v,λv=>BG X.env x v] [u2,u1] >>= λ_=>pure Flow.next) _ _ _;refine ae<|rV<|wpAny_bindName<|sU I3 hN hj (.inl hy) rw' (λs2 I4=>?_)<|.inr hy;refine rV<|wpAny_bindName<|sU I4 hN hi (.inl hx) rv (λs3 I5=>assignInOrder_nil<|ai ?_)<|.inr hx;rw[List.set_comm _ _<|ix hij] at I5;exact⟨_,H1,I5,q1⟩
end
section
def abk (c:TT)(tb:TS):TS:=λD σ H=>∃W:Nat->St->Hp->Prop,(∃m,W m σ H)/\∀m σ H,W m σ H->
 c σ H λb H1=>if b=true then ∃N:St->Hp->Prop,(∀σ' H',N σ' H'->∃m',m'<m/\W m' σ' H')/\tb { D with nx:=N,ct:=N,bk:=D.nx } σ H1 else D.nx σ H1
theorem Vh (hp:xo (b6 X.prog X.w) X.A X.env X.xe)(hc:PT X c tc)(hb:PSs X body tb):PS X (.While c body [] pos) (abk tc tb):=by
 intro π s σ H D I h;obtain⟨W,⟨m0,w0⟩,turn⟩:=h;refine wpAny_While<|codeAny_whileLoop (λn s'=>∃σ' H',Inv X π σ' H' s'/\W n σ' H') ?_ m0 ⟨σ,H,I,w0⟩;rintro n s1 ⟨σ1,H1,I1,w1⟩;refine kc hp<|thn (hc π s1 σ1 H1 _ I1<|turn n σ1 H1 w1) λb s2 ⟨H2,I2,q2⟩=>?_;cases b with
 |true=>
  obtain⟨N,hN,q2⟩:=q2;rw[if_pos rfl];refine kc hp<|thn (hb π s2 σ1 H2 _ I2 q2) λf s3 q3=>?_;cases f with
  |next=>
   obtain⟨σ3,H3,I3,n3⟩:=q3;obtain⟨m',hm,w3⟩:=hN σ3 H3 n3;exact⟨m',hm,σ3,H3,I3,w3⟩
  |cont=>
   obtain⟨σ3,H3,I3,n3⟩:=q3;obtain⟨m',hm,w3⟩:=hN σ3 H3 n3;exact⟨m',hm,σ3,H3,I3,w3⟩
  |brk=>exact q3
  |ret v=>exact q3
 |false=>
  rw[if_neg bb];exact kR ⟨σ1,H2,I2,q2⟩
end
structure It where
 go:Nat->Hp->Prop
 yld:Nat->Hp->V->Hp->Prop
 stop:Nat->Hp->Prop
def zE (X:Cx)(π:Zp)(H:Hp)(b:Addr):Prop:=
 H b=none/\b≠X.env.locals/\b∉X.fs/\(b∈X.ex\/X.s₀.heap.objs.size<=b)/\(∀x c,X.env.cells.lookup x=some c->c≠b)/\∀p∈X.pn++π,p.1≠b
theorem Inv.N5 (I:Inv X π σ H s)(hb:s.heap.objs.size<=b)(hn:H' b=none):zE X π H' b:=by
 refine⟨hn,nN<|br I.lt hb,I.afx hb,.inr<|dr I.sz hb,λx c e z=>?_,λp hp z=>?_⟩
 ·obtain⟨v,q⟩:=I.cell x c e;exact absurd (br q.lt (by rw[z];exact hb))<|eT _
 ·exact absurd (br (ay (I.pin p hp).1) (by rw[z];exact hb))<|eT _
abbrev Calm (X:Cx):Prop:=X.calm=true
structure Turn (Cm:Cx->Prop)(P:bq)(w:dA)(K:a7)(tg:Expr)(J:It)(fp:List Addr)(it:Addr)(tn:Nat->Heap->Prop):Prop where
 mem:it∈fp
 obj:∀i h,tn i h->∀b∈fp,∃o,h.get? b=some o/\∀v,o.data≠.cell v
 keep:∀i h h',tn i h->(∀b∈fp,∀o,h.get? b=some o->h'.get? b=some o)->tn i h'
 item:∀(X:Cx),X.prog=P->X.w=w->X.K=K->Cm X->∀(i:Nat) (π:Zp) (s:aS) (σ:St) (H:Hp) (E:Zl),Inv X π σ H s->(∀b∈fp,zE X π H b)->tn i s.heap->J.go i H->
  bp (b6 P w) X.A (AH (.ref it)) (λr s1=>∃u,r=some u/\
   bp (b6 P w) X.A (xp tg (.ref it) u) (λ_ s2=>∃x H',Inv X π σ H' s2/\RelV x u/\J.yld i H x H'/\tn (i+1) s2.heap/\∀b∈fp,H' b=none) E s1) E s
 done:∀(X:Cx),X.prog=P->X.w=w->X.K=K->Cm X->∀(i:Nat) (π:Zp) (s:aS) (σ:St) (H:Hp) (E:Zl),Inv X π σ H s->(∀b∈fp,zE X π H b)->tn i s.heap->J.stop i H->
  bp (b6 P w) X.A (AH (.ref it)) (λr s1=>r=none/\Inv X π σ H s1) E s
 self:∀(A:dP) (i:Nat) (s:aS) (Q:Zl) (E:Zl),tn i s.heap->Q (.ref it) s->bp (b6 P w) A (pyIter (.ref it)) Q E s
abbrev TI:=St->Hp->(It->Hp->Prop)->Prop
def PIE (Cm:Cx->Prop)(X:Cx)(π:Zp)(σ:St)(tg:Expr)(R:It->Hp->Prop)(itv:aw)(s2:aS):Prop:=
 ∃(it:Addr) (fp:List Addr) (tn:Nat->Heap->Prop) (J:It) (H':Hp),itv=.ref it/\Inv X π σ H' s2/\Turn Cm X.prog X.w X.K tg J fp it tn/\tn 0 s2.heap/\(∀b∈fp,zE X π H' b)/\R J H'
def PI (Cm:Cx->Prop)(X:Cx)(tg iter:Expr)(wi:TI):Prop:=
 ∀(π:Zp) (s:aS) (σ:St) (H:Hp) (R:It->Hp->Prop),Inv X π σ H s->wi σ H R->
  bp (b6 X.prog X.w) X.A (eval iter X.env) (λv s1=>bp (b6 X.prog X.w) X.A (pyIter v) (PIE Cm X π σ tg R) X.xe s1) X.xe s
theorem Gq (ho : s.heap.get? it = some o) (hc : o.cls = .type n) (hd : o.data = .fields vs)
    (hn : ["enumerate", "zip", "dict_itemiterator", "dict_reverseitemiterator", "odict_iterator", "itertools.zip_longest", "itertools.pairwise"].contains n = false) (hQ : Q () s) : bp M A (xp tg (.ref it) u) Q E s := by
  unfold xp;cases tg<;>first
    | exact ai hQ
    | (cases u<;>first
        | exact ai hQ
        | (refine ae (wpAny_load ho ?_)
           rw [hc, hd];show bp M A (if (["enumerate", "zip", "dict_itemiterator", "dict_reverseitemiterator", "odict_iterator", "itertools.zip_longest", "itertools.pairwise"].contains n && vs[0]? == some (xt _)) = true then _ else _) Q E s;rw [if_neg (by intro h;rw [hn, Bool.false_and] at h;cases h)];exact ai hQ))
def Itl (K:a7)(a:Addr):It:=
 ⟨λi H=>∃xs x,SqL K H a xs/\xs[i]? = some x,λi H x H'=>H'=H/\∀xs,SqL K H a xs->xs[i]? = some x,λi H=>∃xs,SqL K H a xs/\xs.length<=i⟩
def Itt (K:a7)(a:Addr):It:=
 ⟨λi H=>∃xs x,SqT K H a xs/\xs[i]? = some x,λi H x H'=>H'=H/\∀xs,SqT K H a xs->xs[i]? = some x,λi H=>∃xs,SqT K H a xs/\xs.length<=i⟩
def Itr (lo:Int)(n:Nat):It:=⟨λi _=>i<n,λi H x H'=>H'=H/\x=.int (lo+i),λi _=>n<=i⟩
theorem Tn {P:bq}{w:dA}{K:a7}{tg:Expr}(a it:Addr):Turn Calm P w K tg (Itl K a) [it] it (λi h=>h.IsListIter it a i) where
 mem:=by simp
 obj:=λi h st b hb=>by
  have e:b=it:=by simpa using hb
  subst e;obtain⟨o,e,c,d⟩:=st;exact⟨o,e,λv z=>by rw[d] at z;cases z⟩
 keep:=λi h h' st k=>st.at λo e=>k it (by simp) o e
 item:=by
  intro X hP hw hK hc i π s σ H E I hf st hg;subst hP hw hK;obtain⟨xs,x,hq,hx⟩:=hg;obtain⟨χ,rv,p,hz⟩:=I.list hq;obtain⟨u,hu,ru⟩:=rv.get hx;refine uU (hf it<|by simp) λf0 f1 f2 f3 f4 f5=>?_;refine mP st p.isList (x:=u) (by simpa using hu) λh' st' sb=>?_;have I1:Inv X π σ H { s with heap:=h' }:=I.turned (t':=s.toks) (λb o hb e=>(sb.2 b hb).trans e) f0 f1 f3 f4 f5;obtain⟨o,e,c,d⟩:=id st';exact⟨u,rfl,Gq (s:={ s with heap:=h' }) e c d (by decide) ⟨x,H,I1,ru,⟨rfl,λys hy=>by rw[I.Cw hy hq];exact hx⟩,st',λb hb=>(hf b hb).1⟩⟩
 done:=by
  intro X hP hw hK hc i π s σ H E I hf st hg;subst hP hw hK;obtain⟨xs,hq,hx⟩:=hg;obtain⟨χ,rv,p,hz⟩:=I.list hq;refine uU (hf it<|by simp) λf0 f1 f2 f3 f4 f5=>?_;have hl:=rv.length;exact wpAny_pyNext_list_end (I.ok.hd hc) st p.isList (by simp;lia) λh' eb=>⟨rfl,I.turned (t':=s.toks) (λb o hb e=>eb b o hb e) f0 f1 f3 f4 f5⟩
 self:=λ_ _ _ _ _ st h=>nS st h
theorem Nr {P:bq}{w:dA}{K:a7}{tg:Expr}(a it:Addr):Turn Calm P w K tg (Itt K a) [it] it (λi h=>h.IsTupleIter it a i) where
 mem:=by simp
 obj:=λi h st b hb=>by
  have e:b=it:=by simpa using hb
  subst e;obtain⟨o,e,c,d⟩:=st;exact⟨o,e,λv z=>by rw[d] at z;cases z⟩
 keep:=λi h h' st k=>st.at λo e=>k it (by simp) o e
 item:=by
  intro X hP hw hK hc i π s σ H E I hf st hg;subst hP hw hK;obtain⟨xs,x,hq,hx⟩:=hg;obtain⟨χ,rv,p,hz⟩:=I.tuple hq;obtain⟨u,hu,ru⟩:=rv.get hx;refine uU (hf it<|by simp) λf0 f1 f2 f3 f4 f5=>?_;refine wpAny_pyNext_tuple_item st (show s.heap.IsTuple a χ.toArray from p) (x:=u) (by simpa using hu) λh' st' sb=>?_;have I1:Inv X π σ H { s with heap:=h' }:=I.turned (t':=s.toks) (λb o hb e=>(sb.2 b hb).trans e) f0 f1 f3 f4 f5;obtain⟨o,e,c,d⟩:=id st';exact⟨u,rfl,Gq (s:={ s with heap:=h' }) e c d (by decide) ⟨x,H,I1,ru,⟨rfl,λys hy=>by rw[I.GK hy hq];exact hx⟩,st',λb hb=>(hf b hb).1⟩⟩
 done:=by
  intro X hP hw hK hc i π s σ H E I hf st hg;subst hP hw hK;obtain⟨xs,hq,hx⟩:=hg;obtain⟨χ,rv,p,hz⟩:=I.tuple hq;refine uU (hf it<|by simp) λf0 f1 f2 f3 f4 f5=>?_;have hl:=rv.length;exact wpAny_pyNext_tuple_end (I.ok.hd hc) st (show s.heap.IsTuple a χ.toArray from p) (by simp;lia) λh' eb=>⟨rfl,I.turned (t':=s.toks) (λb o hb e=>eb b o hb e) f0 f1 f3 f4 f5⟩
 self:=λ_ _ _ _ _ st h=>wpAny_pyIter_tupleiter st h
theorem Mi {P:bq}{w:dA}{K:PySem.W.Frag}{tg:Expr}(it:Addr)(lo:Int)(n:Nat):Turn Calm P w K tg (Itr lo n) [it] it (λi h=>zC h it (lo+(i:Nat)*1) ((n:Int)-(i:Nat)) 1) where
 mem:=by simp
 obj:=λi h st b hb=>by
  have e:b=it:=by simpa using hb
  subst e;exact⟨_,st,λv z=>by
   have z':BM _=Data.cell v:=z;cases z'⟩
 keep:=λi h h' st k=>k it (by simp) _ st
 item:=by
  intro X hP hw hK hc i π s σ H E I hf st hg;subst hP hw hK;refine uU (hf it<|by simp) λf0 f1 f2 f3 f4 f5=>?_;have W:=Walks.range (prog:=X.prog) (w:=X.w) (I.ok.hd hc) it lo 1 n;refine W.item i s _ _ hg st λv h' tk hv st' kk=>?_;obtain⟨t,rfl⟩:=hv;have I1:Inv X π σ H { s with heap:=h',toks:=tk }:=I.turned (λb o hb e=>kk b o (by simpa using hb) e) f0 f1 f3 f4 f5;refine⟨_,rfl,Gq (s:={ s with heap:=h',toks:=tk }) (n:="range_iterator") st' rfl rfl (by decide) ⟨.int<|lo+i,H,I1,⟨t,?_⟩,⟨rfl,rfl⟩,st',λb hb=>(hf b hb).1⟩⟩;rw[Int.mul_one]
 done:=by
  intro X hP hw hK hc i π s σ H E I hf st hg;subst hP hw hK;refine uU (hf it<|by simp) λf0 f1 f2 f3 f4 f5=>?_;exact wpAny_pyNext_range_end (I.ok.hd hc) st (by have:n<=i:=hg;lia) λh' eb=>⟨rfl,I.turned (t':=s.toks) (λb o hb e=>eb b o hb e) f0 f1 f3 f4 f5⟩
 self:=λ_ _ _ _ _ st h=>wpAny_pyIter_rangeiter st h
section
variable {X:Cx}{tg:Expr}
def aa2 (K:a7)(tl:TE):TI:=λσ H R=>tl σ H λx H1=>∃a,x=.ref a/\(∃xs,SqL K H1 a xs)/\R (Itl K a) H1
def adM (K:a7)(tl:TE):TI:=λσ H R=>tl σ H λx H1=>∃a,x=.ref a/\(∃xs,SqT K H1 a xs)/\R (Itt K a) H1
theorem Pg {l:Expr}{tl:TE}(hl:PE X l tl):PI Calm X tg l (aa2 X.K tl):=by
 intro π s σ H R I h;refine thn (hl π s σ H _ I h) λv s1 hE=>xq2 hE λx H1 I1 r1 q1=>?_;obtain⟨a,e,⟨xs,hq⟩,q⟩:=q1;subst e;cases r1;obtain⟨χ,rv,p,hz⟩:=I1.list hq;refine k9 p.isList ?_;refine⟨s1.heap.objs.size,[s1.heap.objs.size],_,_,H1,rfl,I1.kept (t':=s1.toks) λb o e=>af _ e,Tn a _,⟨_,aT _ rfl,rfl,rfl⟩,λb hb=>?_,q⟩;have e:b=s1.heap.objs.size:=by simpa using hb
 subst e;exact I1.N5 (aI _)<|I1.hok.fresh<|aI _
theorem acX {l:Expr}{tl:TE}(hl:PE X l tl):PI Calm X tg l (adM X.K tl):=by
 intro π s σ H R I h;refine thn (hl π s σ H _ I h) λv s1 hE=>xq2 hE λx H1 I1 r1 q1=>?_;obtain⟨a,e,⟨xs,hq⟩,q⟩:=q1;subst e;cases r1;obtain⟨χ,rv,p,hz⟩:=I1.tuple hq;refine wpAny_pyIter_tuple (show s1.heap.IsTuple a χ.toArray from p) ?_;refine⟨s1.heap.objs.size,[s1.heap.objs.size],_,_,H1,rfl,I1.kept (t':=s1.toks) λb o e=>af _ e,Nr a _,⟨_,aT _ rfl,rfl,rfl⟩,λb hb=>?_,q⟩;have e:b=s1.heap.objs.size:=by simpa using hb
 subst e;exact I1.N5 (aI _)<|I1.hok.fresh<|aI _
theorem J2 {π:Zp}{σ:St}{H:Hp}{s:aS}{R:It->Hp->Prop}{E:Zl}{lo hi:Int}{t u v:Tok}{tk:Nat}(I:Inv X π σ H s)(h1:-(2^62)<=lo)(h2:lo<2^62)(h3:-(2^62)<=hi)(h4:hi<2^62)
  (q:R (Itr lo (hi-lo).toNat) H):bp (b6 X.prog X.w) X.A (pyIter<|.ref s.heap.objs.size) (PIE Calm X π σ tg R) E { s with heap:=s.heap.push { cls:=.type "range",data:=.fields #[.int lo t,.int hi u,.int 1 v] },toks:=tk }:=by
 refine wpAny_pyIter_range (IsRange.new ..) (small_one h1 h2 h3 h4) ?_;have I1:Inv X π σ H { s with heap:=s.heap.push { cls:=.type "range",data:=.fields #[.int lo t,.int hi u,.int 1 v] },toks:=tk }:=I.kept λb o e=>af _ e;refine⟨(s.heap.push { cls:=.type "range",data:=.fields #[.int lo t,.int hi u,.int 1 v] }).objs.size,[(s.heap.push { cls:=.type "range",data:=.fields #[.int lo t,.int hi u,.int 1 v] }).objs.size],_,_,H,rfl,
  I1.kept (t':=tk) λb o e=>af _ e,Mi _ lo (hi-lo).toNat,?_,λb hb=>?_,q⟩
 ·have e1:lo+((0:Nat):Int)*1=lo:=by simp
  have e2:(((hi-lo).toNat:Nat):Int)-((0:Nat):Int)=kB lo hi 1:=by rw[rangeSize_one];split<;>lia
  show zC _ _ (lo+((0:Nat):Int)*1) ((((hi-lo).toNat:Nat):Int)-((0:Nat):Int)) 1;rw[e1,e2];exact aT _ rfl
 ·have e:b=(s.heap.push { cls:=.type "range",data:=.fields #[.int lo t,.int hi u,.int 1 v] }).objs.size:=by simpa using hb
  subst e;exact I1.N5 (aI _)<|I1.hok.fresh<|aI _
def ado (ta:TA):TI:=λσ H R=>ta σ H λvs H1=>∃j:Int,vs=[.int j]/\-(2^62)<=j/\j<2^62/\R (Itr 0 j.toNat) H1
def aeG (ta:TA):TI:=λσ H R=>ta σ H λvs H1=>∃i j:Int,vs=[.int i,.int j]/\(-(2^62)<=i/\i<2^62/\-(2^62)<=j/\j<2^62)/\R (Itr i (j-i).toNat) H1
theorem R9 (hg:Gl X "range")(hm:X.mg "range" = none)(ha:PA X [a] ta)(hs:ag [a] X.env=[(false,eval a X.env)]:=by rfl):PI Calm X tg (.Call (.Name "range" p) [a] [] pos) (ado ta):=by
 intro π s σ H R I h;refine Call_<|um I hg hm boot_range<|eI (thn (ha pos π s σ H _ I h) λus s1 hE=>xq2 hE λvs H1 I1 r1 q1=>?_) hs rfl;obtain⟨j,e,q1,q2,q⟩:=q1;subst e;cases r1 with
 |cons r rr=>
  cases rr;obtain⟨t,rfl⟩:=r;exact call_range_1<|J2 I1 (by lia) (by lia) q1 q2<|by simpa using q
theorem Sg (hg:Gl X "range")(hm:X.mg "range" = none)(ha:PA X [a,b] ta)(hs:ag [a,b] X.env=[(false,eval a X.env),(false,eval b X.env)]:=by rfl)(hs2:ag [b] X.env=[(false,eval b X.env)]:=by rfl):
  PI Calm X tg (.Call (.Name "range" p) [a,b] [] pos) (aeG ta):=by
 intro π s σ H R I h;refine Call_<|um I hg hm boot_range<|eI (thn (ha pos π s σ H _ I h) λus s1 hE=>xq2 hE λvs H1 I1 r1 q1=>?_) (by rw[hs,hs2]) (by rw[hs2];rfl);obtain⟨i,j,e,⟨q1,q2,q3,q4⟩,q⟩:=q1;subst e;cases r1 with
 |cons r rr=>
  cases rr with
  |cons r' rr=>
   cases rr;obtain⟨t,rfl⟩:=r;obtain⟨t',rfl⟩:=r';exact call_range_2<|J2 I1 q1 q2 q3 q4 q
def afW (wi:TI)(g:TG)(tb:TS):TS:=λD σ H=>wi σ H λJ H1=>∃W:Nat->Nat->St->Hp->Prop,(∃m,W 0 m σ H1)/\∀i m σ H,W i m σ H->
 (J.stop i H/\D.nx σ H)\/(J.go i H/\∃N:St->Hp->Prop,(∀σ' H',N σ' H'->∃m',m'<m/\W (i+1) m' σ' H')/\∀x H',J.yld i H x H'->g x σ H' λσ2 H2=>tb { D with nx:=N,ct:=N,bk:=D.nx } σ2 H2)
noncomputable def xT (fp:List Addr)(h:Heap):Zp:=fp.filterMap λb=>(h.get? b).map λo=>(b,o)
theorem uN (hb:b∈fp)(e:h.get? b=some o):(b,o)∈xT fp h:=i7.mpr ⟨b,hb,by rw[e];rfl⟩
theorem TJ (hp:p∈xT fp h):p.1∈fp/\h.get? p.1=some p.2:=by
 obtain⟨b,hb,e⟩:=i7.mp hp;cases q:h.get? b with
 |none=>rw[q] at e;cases e
 |some o=>
  rw[q] at e;have e':(b,o)=p:=b9 e;subst e';exact⟨hb,q⟩
theorem Inv.pinned (I:Inv X π σ H s)(hf:∀b∈fp,zE X π H b)(ho:∀b∈fp,∃o,s.heap.get? b=some o/\∀v,o.data≠.cell v):Inv X (π++xT fp s.heap) σ H s:=
 I.O1 λp hp=>(cm.mp hp).elim (λz=>I.pin p<|dQ _ z) λz=>by
  obtain⟨hb,e⟩:=TJ z;obtain⟨f0,f1,f2,_⟩:=hf p.1 hb;obtain⟨o,e',d⟩:=ho p.1 hb;rw[e] at e';cases e';exact⟨e,f0,f1,f2,d⟩
theorem Inv.yP (I:Inv X (π++pl) σ H s):Inv X π σ H s:=I.O1 λp hp=>I.pin p<|dQ _<|y3 _ hp
theorem abj (hp:xo (b6 X.prog X.w) X.A X.env X.xe){Cm:Cx->Prop}(hc:Cm X)(hi:PI Cm X tg iter wi)(hg:PG X tg g)(hb:PSs X body tb)
  (hs:∀x,gE iter X.env x=pure x:=by intro _;rfl):PS X (.For tg iter body [] pos) (afW wi g tb):=by
 intro π s σ H D I h;refine wpAny_For (thn (hi π s σ H _ I h) λv s1 h1=>thn h1 λitv s2 h2=>?_) hs;obtain⟨it,fp,tn,J,H2,e,I2,T,st2,f2,W,⟨m0,w0⟩,turn⟩:=h2;subst e;have stat:∀{H':Hp},(∀b∈fp,H' b=none)->∀b∈fp,zE X π H' b:=λhn b hb=>⟨hn b hb,(f2 b hb).2⟩;refine codeAny_forLoop_any (λn s'=>∃i σ' H',Inv X π σ' H' s'/\tn i s'.heap/\(∀b∈fp,H' b=none)/\W i n σ' H') ?_ m0 ⟨0,σ,H2,I2,st2,λb hb=>(f2 b hb).1,w0⟩;rintro n s3 ⟨i,σ3,H3,I3,st3,fr3,w3⟩;rcases turn i n σ3 H3 w3 with⟨stop,qn⟩|⟨go,N,hN,step⟩
 ·refine kc hp<|thn (T.done X rfl rfl rfl hc i π s3 σ3 H3 X.xe I3 (stat fr3) st3 stop) λr s4 ⟨hr,I4⟩=>?_;subst hr;exact kR ⟨σ3,H3,I4,qn⟩
 ·refine kc hp<|thn (T.item X rfl rfl rfl hc i π s3 σ3 H3 X.xe I3 (stat fr3) st3 go) λr s4 ⟨u,hr,h4⟩=>?_;subst hr;refine kc hp<|thn h4 λ_ s5 hE=>?_;refine xn hE λx H5 I5 r5 y5 st5 fr5=>?_;have I5':=I5.pinned (stat fr5)<|T.obj _ _ st5;refine kc hp<|thn (hg _ s5 σ3 H5 x u _ I5' r5<|step x H5 y5) λ_ s6 hE=>?_;obtain⟨σ6,H6,I6,q6⟩:=hE;refine kc hp<|thn (hb _ s6 σ6 H6 _ I6 q6) λf s7 q7=>?_;have again:∀{σ7:St} {H7:Hp},Inv X (π++xT fp s5.heap) σ7 H7 s7->N σ7 H7->∃m,m<n/\∃i σ' H',Inv X π σ' H' s7/\tn i s7.heap/\(∀b∈fp,H' b=none)/\W i m σ' H':=λ{σ7 H7} I7 n7=>by
   obtain⟨m',hm,w7⟩:=hN σ7 H7 n7;refine⟨m',hm,i+1,σ7,H7,I7.yP,T.keep _ _ _ st5 λb hb o e=>(I7.pin (b,o)<|dQ _<|dQ _<|uN hb e).1,λb hb=>?_,w7⟩;obtain⟨o,e,d⟩:=T.obj _ _ st5 b hb;exact(I7.pin (b,o)<|dQ _<|dQ _<|uN hb e).2.1
  cases f with
  |next=>obtain⟨σ7,H7,I7,n7⟩:=q7;exact again I7 n7
  |cont=>obtain⟨σ7,H7,I7,n7⟩:=q7;exact again I7 n7
  |brk=>obtain⟨σ7,H7,I7,q7⟩:=q7;exact⟨σ7,H7,I7.yP,q7⟩
  |ret v=>obtain⟨x7,σ7,H7,I7,r7,q7⟩:=q7;exact⟨x7,σ7,H7,I7.yP,r7,q7⟩
end
abbrev R2:=V->V->Hp->VK->Prop
def OpR (X:Cx)(f:aw->aw->Sem aw)(r:R2):Prop:=
 ∀(π:Zp) (s:aS) (σ:St) (H:Hp) (x y:V) (v u:aw) (Q:VK),Inv X π σ H s->RelV x v->RelV y u->r x y H Q->
  bp (b6 X.prog X.w) X.A (f v u) (EP X π σ Q) X.xe s
def UnR (X:Cx)(f:aw->Sem aw)(r:V->Hp->VK->Prop):Prop:=
 ∀(π:Zp) (s:aS) (σ:St) (H:Hp) (x:V) (v:aw) (Q:VK),Inv X π σ H s->RelV x v->r x H Q->
  bp (b6 X.prog X.w) X.A (f v) (EP X π σ Q) X.xe s
def iW (X:Cx)(f:aw)(r:List V->Hp->VK->Prop):Prop:=
 ∀(π:Zp) (s:aS) (σ:St) (H:Hp) (xs:List V) (us:List aw) (Q:VK),Inv X π σ H s->Vals xs us->r xs H Q->
  bp (b6 X.prog X.w) X.A (call f us) (EP X π σ Q) X.xe s
def tOp (r:R2)(ta tb:TE):TE:=λσ H Q=>ta σ H λx H1=>tb σ H1 λy H2=>r x y H2 Q
def tUn (r:V->Hp->VK->Prop)(ta:TE):TE:=λσ H Q=>ta σ H λx H1=>r x H1 Q
def rI (C:Int->Int->Prop)(g:Int->Int->V):R2:=λx y H Q=>∃i j,x=.int i/\y=.int j/\C i j/\Q (g i j) H
def rI0 (g:Int->Int->V):R2:=λx y H Q=>∃i j,x=.int i/\y=.int j/\Q (g i j) H
def rU (g:Int->V):V->Hp->VK->Prop:=λx H Q=>∃i,x=.int i/\Q (g i) H
section
variable {X:Cx}{a b c:Expr}{ta tb tc:TE}{pos:Pos}
theorem acK (ha:PE X a ta)(hb:PE X b tb){π:Zp}{s:aS}{σ:St}{H:Hp}{R:V->V->Hp->Prop}(I:Inv X π σ H s)
  (h:ta σ H λx H1=>tb σ H1 λy H2=>R x y H2) {Q:Zl} {f:aw->aw->Sem aw}
  (hf:∀v u s2 x y H2,Inv X π σ H2 s2->RelV x v->RelV y u->R x y H2->bp (b6 X.prog X.w) X.A (f v u) Q X.xe s2):
  bp (b6 X.prog X.w) X.A (eval a X.env) (λv s₁=>bp (b6 X.prog X.w) X.A (eval b X.env) (λu s₂=>bp (b6 X.prog X.w) X.A (f v u) Q X.xe s₂) X.xe s₁) X.xe s:=by
 refine thn (ha π s σ H _ I h) λv s1 hE=>xq2 hE λx H1 I1 r1 q1=>?_;refine thn (hb π s1 σ H1 _ I1 q1) λu s2 hE=>xq2 hE λy H2 I2 r2 q2=>?_;exact hf v u s2 x y H2 I2 r1 r2 q2
theorem aeI (ho:OpR X (hJ op) r)(ha:PE X a ta)(hb:PE X b tb):PE X (.BinOp a op b pos) (tOp r ta tb):=by
 intro π s σ H Q I h;exact wpAny_BinOp<|acK ha hb I h λv u s2 x y H2 I2 rx ry q=>ho π s2 σ H2 x y v u Q I2 rx ry q
theorem ae6 (ho:UnR X (unaryOp op) r)(ha:PE X a ta):PE X (.UnaryOp op a pos) (tUn r ta):=by
 intro π s σ H Q I h;exact UnaryOp_<|thn (ha π s σ H _ I h) λv s1 hE=>xq2 hE λx H1 I1 r1 q1=>ho π s1 σ H1 x v Q I1 r1 q1
theorem opI {f:aw->aw->Sem aw}{C:Int->Int->Prop}{g:Int->Int->Int}
  (rule:∀(i j:Int) (t u:Tok) (s:aS) (Q:Zl) (E:Zl),C i j->Q (.int (g i j) s.toks) { s with toks:=s.toks+1 }->bp (b6 X.prog X.w) X.A (f (.int i t)<|.int j u) Q E s):
  OpR X f (rI C λi j=>.int<|g i j):=by
 intro π s σ H x y v u Q I rx ry h;obtain⟨i,j,rfl,rfl,hc,q⟩:=h;obtain⟨t,rfl⟩:=rx;obtain⟨t',rfl⟩:=ry;exact rule i j t t' s _ _ hc ⟨.int<|g i j,H,I.tok _,⟨_,rfl⟩,q⟩
theorem aeD {f:aw->aw->Sem aw}{g:Int->Int->Int}
  (rule:∀(i j:Int) (t u:Tok) (s:aS) (Q:Zl) (E:Zl),Q (.int (g i j) s.toks) { s with toks:=s.toks+1 }->bp (b6 X.prog X.w) X.A (f (.int i t)<|.int j u) Q E s):
  OpR X f (rI0 λi j=>.int<|g i j):=by
 intro π s σ H x y v u Q I rx ry h;obtain⟨i,j,rfl,rfl,q⟩:=h;obtain⟨t,rfl⟩:=rx;obtain⟨t',rfl⟩:=ry;exact rule i j t t' s _ _ ⟨.int<|g i j,H,I.tok _,⟨_,rfl⟩,q⟩
theorem Z1 {f:aw->aw->Sem aw}{g:Int->Int->Bool}
  (rule:∀(i j:Int) (t u:Tok) (s:aS) (Q:Zl) (E:Zl),Q (.bool<|g i j) s->bp (b6 X.prog X.w) X.A (f (.int i t)<|.int j u) Q E s):
  OpR X f (rI0 λi j=>.bl<|g i j):=by
 intro π s σ H x y v u Q I rx ry h;obtain⟨i,j,rfl,rfl,q⟩:=h;obtain⟨t,rfl⟩:=rx;obtain⟨t',rfl⟩:=ry;exact rule i j t t' s _ _ ⟨.bl<|g i j,H,I,rfl,q⟩
def afC (i j:Int):Prop:=0<=j/\j<=1000000/\i.natAbs<2^64
theorem ab4:OpR X (hJ .Add) (rI0 λi j=>.int<|i+j):=aeD λ_ _ _ _ _ _ _ q=>add_int q
theorem abT:OpR X (hJ .Sub) (rI0 λi j=>.int<|i-j):=aeD λ_ _ _ _ _ _ _ q=>sub_int q
theorem Xz:OpR X (hJ .Mod) (rI (λ_ j=>j≠0) λi j=>.int<|i.fmod j):=opI λ_ _ _ _ _ _ _ hc q=>mod_int' hc q
theorem acb:OpR X (hJ .Pow) (rI afC λi j=>.int<|i^j.toNat):=opI λ_ _ _ _ _ _ _ hc q=>pow_int_small hc.1 hc.2.1 hc.2.2 q
theorem unI {f:aw->Sem aw}{g:Int->Int}
  (rule:∀(i:Int) (t:Tok) (s:aS) (Q:Zl) (E:Zl),Q (.int (g i) s.toks) { s with toks:=s.toks+1 }->bp (b6 X.prog X.w) X.A (f<|.int i t) Q E s):
  UnR X f (rU λi=>.int<|g i):=by
 intro π s σ H x v Q I rx h;obtain⟨i,rfl,q⟩:=h;obtain⟨t,rfl⟩:=rx;exact rule i t s _ _ ⟨.int<|g i,H,I.tok _,⟨_,rfl⟩,q⟩
theorem acU:UnR X (unaryOp .USub) (rU λi=>.int (-i)):=unI λ_ _ _ _ _ q=>neg_int q
end
noncomputable def aeR:V->V->Bool
 | .non,.non=>true|.non,.int _=>true|.int _,.non=>true|.non,.bl _=>true|.bl _,.non=>true|.non,.str _=>true|.str _,.non=>true
 | .int _,.int _=>true|.bl _,.bl _=>true|.str _,.str _=>true|.byt _,.byt _=>true
 | .int _,.str _=>true|.str _,.int _=>true|.bl _,.str _=>true|.str _,.bl _=>true
 |_,_=>false
def rEq:R2:=λx y H Q=>aeR x y=true/\Q (.bl<|decide<|x=y) H
def rNe:R2:=λx y H Q=>aeR x y=true/\Q (.bl<|!decide (x=y)) H
theorem Qg:decide (V.int i=V.int j)=(i==j):=by
 rw[pT]
 simp
theorem VH:decide (V.bl i=V.bl j)=(i==j):=by
 rw[pT]
 simp
theorem Oc:decide (V.str i=V.str j)=(i==j):=by
 rw[pT]
 simp
theorem PB:decide (V.byt i=V.byt j)=(i.toList==j.toList):=by
 rw[pT];cases i;cases j
 simp
section
theorem cU (I:Inv X π σ H s)(q:Q (.bl k) H)(e:k=k'):EP X π σ Q (.bool k') s:=by
 subst e;exact⟨.bl k,H,I,rfl,q⟩
theorem Rh:OpR X (fR .Eq) rEq:=by
 intro π s σ H x y v u Q I rx ry h;obtain⟨hs,q⟩:=h;cases x with
 |non=>
  cases rx;cases y with
  |non=>cases ry;exact PySem.EqNone.eq_none_none<|cU I q<|by simp
  |bl j=>cases ry;exact PySem.EqNone.eq_none_bool<|cU I q<|by simp
  |int j=>obtain⟨t',rfl⟩:=ry;exact PySem.EqNone.eq_none_int<|cU I q<|by simp
  |str j=>obtain⟨t',rfl⟩:=ry;exact PySem.EqNone.eq_none_str<|cU I q<|by simp
  |_=>exact absurd (show false=true from hs) bb
 |bl i=>
  cases rx;cases y with
  |non=>cases ry;exact PySem.EqNone.eq_bool_none<|cU I q<|by simp
  |bl j=>cases ry;exact eq_bool<|cU I q VH
  |str j=>obtain⟨t',rfl⟩:=ry;exact PySem.EqMixed.eq_bool_str<|cU I q<|by simp
  |_=>exact absurd (show false=true from hs) bb
 |int i=>
  obtain⟨t,rfl⟩:=rx;cases y with
  |non=>cases ry;exact PySem.EqNone.eq_int_none<|cU I q<|by simp
  |int j=>obtain⟨t',rfl⟩:=ry;exact eq_int<|cU I q Qg
  |str j=>obtain⟨t',rfl⟩:=ry;exact PySem.EqMixed.eq_int_str<|cU I q<|by simp
  |_=>exact absurd (show false=true from hs) bb
 |str i=>
  obtain⟨t,rfl⟩:=rx;cases y with
  |non=>cases ry;exact PySem.EqNone.eq_str_none<|cU I q<|by simp
  |bl j=>cases ry;exact PySem.EqMixed.eq_str_bool<|cU I q<|by simp
  |int j=>obtain⟨t',rfl⟩:=ry;exact PySem.EqMixed.eq_str_int<|cU I q<|by simp
  |str j=>obtain⟨t',rfl⟩:=ry;exact eq_str<|cU I q Oc
  |_=>exact absurd (show false=true from hs) bb
 |byt i=>
  obtain⟨t,rfl⟩:=rx;cases y with
  |byt j=>obtain⟨t',rfl⟩:=ry;exact W.eq_bytes<|cU I q PB
  |_=>exact absurd (show false=true from hs) bb
 |_=>cases y<;>exact absurd (show false=true from hs) bb
theorem QM:OpR X (fR .NotEq) rNe:=by
 intro π s σ H x y v u Q I rx ry h;obtain⟨hs,q⟩:=h;cases x with
 |non=>
  cases rx;cases y with
  |non=>cases ry;exact PySem.EqNone.ne_none_none<|cU I q<|by simp
  |bl j=>cases ry;exact PySem.EqNone.ne_none_bool<|cU I q<|by simp
  |int j=>obtain⟨t',rfl⟩:=ry;exact PySem.EqNone.ne_none_int<|cU I q<|by simp
  |str j=>obtain⟨t',rfl⟩:=ry;exact PySem.EqNone.ne_none_str<|cU I q<|by simp
  |_=>exact absurd (show false=true from hs) bb
 |bl i=>
  cases rx;cases y with
  |non=>cases ry;exact PySem.EqNone.ne_bool_none<|cU I q<|by simp
  |bl j=>cases ry;exact ne_bool<|cU I q<|congrArg not VH
  |str j=>obtain⟨t',rfl⟩:=ry;exact PySem.EqMixed.ne_bool_str<|cU I q<|by simp
  |_=>exact absurd (show false=true from hs) bb
 |int i=>
  obtain⟨t,rfl⟩:=rx;cases y with
  |non=>cases ry;exact PySem.EqNone.ne_int_none<|cU I q<|by simp
  |int j=>obtain⟨t',rfl⟩:=ry;exact ne_int<|cU I q<|congrArg not Qg
  |str j=>obtain⟨t',rfl⟩:=ry;exact PySem.EqMixed.ne_int_str<|cU I q<|by simp
  |_=>exact absurd (show false=true from hs) bb
 |str i=>
  obtain⟨t,rfl⟩:=rx;cases y with
  |non=>cases ry;exact PySem.EqNone.ne_str_none<|cU I q<|by simp
  |bl j=>cases ry;exact PySem.EqMixed.ne_str_bool<|cU I q<|by simp
  |int j=>obtain⟨t',rfl⟩:=ry;exact PySem.EqMixed.ne_str_int<|cU I q<|by simp
  |str j=>obtain⟨t',rfl⟩:=ry;exact ne_str<|cU I q<|congrArg not Oc
  |_=>exact absurd (show false=true from hs) bb
 |byt i=>
  obtain⟨t,rfl⟩:=rx;cases y with
  |byt j=>obtain⟨t',rfl⟩:=ry;exact W.ne_bytes<|cU I q<|congrArg not PB
  |_=>exact absurd (show false=true from hs) bb
 |_=>cases y<;>exact absurd (show false=true from hs) bb
theorem aeN:OpR X (fR .Lt) (rI0 λi j=>.bl<|decide<|i<j):=Z1 λ_ _ _ _ _ _ _ q=>lt_int q
theorem adC:OpR X (fR .LtE) (rI0 λi j=>.bl<|decide<|i<=j):=Z1 λ_ _ _ _ _ _ _ q=>le_int q
theorem adX:OpR X (fR .Gt) (rI0 λi j=>.bl<|decide<|j<i):=Z1 λ_ _ _ _ _ _ _ q=>gt_int q
theorem aer:OpR X (fR .GtE) (rI0 λi j=>.bl<|decide<|j<=i):=Z1 λ_ _ _ _ _ _ _ q=>ge_int q
theorem aY (b:Expr){op:CmpOp}(h:op≠.In:=by decide)(h2:op≠.NotIn:=by decide):i6 op b=false:=by
 have e1:(op==CmpOp.In)=false:=by cases op<;>first|rfl|exact absurd rfl h
 have e2:(op==CmpOp.NotIn)=false:=by cases op<;>first|rfl|exact absurd rfl h2
 cases b<;>simp[i6,e1,e2]
theorem Yd (ho:OpR X (fR op) r)(ha:PE X a ta)(hb:PE X b tb)(hm:i6 op b=false):PE X (.Compare a [op] [b] pos) (tOp r ta tb):=by
 intro π s σ H Q I h;exact wpAny_Compare1 (acK ha hb I h λv u s2 x y H2 I2 rx ry q=>ho π s2 σ H2 x y v u Q I2 rx ry q) hm
def aes (t:TE):TT:=λσ H Q=>t σ H λx H'=>∃k,x=.bl k/\Q k H'
theorem Zf (ho:OpR X (fR op) r)(ha:PE X a ta)(hb:PE X b tb)(hm:i6 op b=false):PT X (.Compare a [op] [b] pos) (aes<|tOp r ta tb):=by
 intro π s σ H Q I h;refine wpAny_isTrue_Compare1 (thn (ha π s σ H _ I h) λv s1 hE=>xq2 hE λx H1 I1 r1 q1=>thn (hb π s1 σ H1 _ I1 q1) λu s2 hE=>xq2 hE λy H2 I2 r2 q2=>
  thn (ho π s2 σ H2 x y v u _ I2 r1 r2 q2) λc s3 ⟨z,H3,I3,r3,k,e,q3⟩=>?_) hm
 subst e;cases r3;exact iF ⟨H3,I3,q3⟩
theorem zN:(av:Nat)<2^63:=by rw[pV];decide
theorem Mw:OpR X (hJ .Add) (λx y H Q=>∃i j,x=.str i/\y=.str j/\i.length+j.length<=av/\Q (.str<|i++j) H):=by
 intro π s σ H x y v u Q I rx ry h;obtain⟨i,j,rfl,rfl,hz,q⟩:=h;obtain⟨t,rfl⟩:=rx;obtain⟨t',rfl⟩:=ry;exact add_str (λt' tk=>⟨.str<|i++j,H,I.tok _,⟨_,rfl⟩,q⟩) hz
theorem vals1 (r:Vals [x] us):∃u,us=[u]/\RelV x u:=by
 cases r with
 |cons r1 r2=>cases r2;exact⟨_,rfl,r1⟩
theorem vals2 (r:Vals [x,y] us):∃u w',us=[u,w']/\RelV x u/\RelV y w':=by
 cases r with
 |cons r1 r2=>
  cases r2 with
  |cons r3 r4=>cases r4;exact⟨_,_,rfl,r1,r3⟩
theorem VN:iW X (.builtin "abs") (λxs H Q=>∃i,xs=[.int i]/\Q (.int<|if i<0 then -i else i) H):=by
 intro π s σ H xs us Q I r h;obtain⟨i,rfl,q⟩:=h;obtain⟨u,rfl,t,rfl⟩:=vals1 r;exact call_abs_int λu tk=>⟨.int<|if i<0 then -i else i,H,I.tok _,⟨_,rfl⟩,q⟩
end
structure ab5 (h:Heap)(x dx C:Addr)(mA:Zaa):Prop where
 obj:h.get? x=some (W.instObj C dx)
 ns:h.Ns1 dx mA
 ne:dx≠x
theorem SJ {h:Heap}(n:h.Ns1 dx mA):∃od,h.get? dx=some od/\∀name,W.lookIn name od=some (mA name):=by
 refine Vf n λo es ep ho hd hk _ hm=>?_;refine⟨o,ho,λname=>?_⟩;have e:=hm name;unfold nsFind findBy at e;rw[← AI] at e;unfold W.lookIn;rw[hd];dsimp only;split
 ·rename_i y q;rw[q] at e;exact congrArg some e
 ·rename_i q;rw[q] at e;have a:es.toList.any (·.refKey)=false:=by
   rw[List.any_eq_false];intro y hy;obtain⟨z,t,hkey⟩:=hk y<|Array.mem_toList_iff.mp hy;simp[DictEntry.refKey,hkey]
  have a':¬es.toList.any (·.refKey)=true:=by rw[a];exact bb
  rw[if_neg a'];exact congrArg some e
theorem ab5.look (I:ab5 h x dx C mA):∃od,W.InstAt h x (W.instObj C dx) C (some od)/\∀name,W.lookIn name od=some (mA name):=
 let⟨od,ho,hl⟩:=SJ I.ns
 ⟨od,⟨I.obj,rfl,rfl,ho⟩,hl⟩
section
variable {prog:bq}{w:dA}{A:dP}{E:Zl}{s:aS}{K:a7}{x dx C f:Addr}{mA:Zaa}{name:Str}{v:aw}
end
theorem wX.some_of (r:wX (some v) o):∃u,o=some u/\RelV v u:=by
 cases o with
 |none=>exact(show False from r).elim
 |some u=>exact⟨u,rfl,r⟩
section
theorem Zu (hok:HOk P w H h)(e:H a=some (.ins C dx fs)):∃mA,ab5 h a dx C mA/\(∀f,wX (fs.lookup f)<|mA f)/\PySem.Within mA (fs.map (·.1))/\fs.length<=1000/\H dx=some (.own a):=by
 obtain⟨d,z,ne,ob,mA,n,r,q⟩:=(show cu P w H h a (.ins C dx fs) from hok a _ e);exact⟨mA,⟨ob,n,ne⟩,r,q,z,d⟩
end
structure Cls (K:a7)(C:Addr):Prop where
 pg:W.plainGet K C BN=true
 hd:p0 K C=true
 po:W.plainOver K C=true
 sa:cq K (.ref C) "__setattr__" = some (some (.builtin "object.__setattr__"))
theorem Cls.get {K:a7}{C:Addr}(c:Cls K C)(f:Str):W.plainGet K C f=true:=c.pg
section
variable {X:Cx}{π:Zp}{σ:St}{H:Hp}{s:aS}{a C dx:Addr}{fs:List (Str×V)}{f:Str}{v:V}{A:dP}{E:Zl}
theorem Zo (hb:gT e f env (eval e env)=eval e env)
  (h:bp (b6 prog w) A (eval e env) (λo s₁=>bp (b6 prog w) A (getAttr o f true) Q E s₁) E s):bp (b6 prog w) A (eval (.Attribute e f pos) env) Q E s:=
 Attribute_any_ h (by rw[arm_eval_Attribute,hb])
end
section
end
section
inductive zV (K:a7)(H:Hp):V->aw->Prop where
 |non:zV K H .non (.type "NoneType")
 |bl (x:Bool):zV K H (.bl x) (.type "bool")
 |int (i:Int):zV K H (.int i) (.type "int")
 |str (x:Str):zV K H (.str x) (.type "str")
 |flt (x:UInt64):zV K H (.flt x) (.type "float")
 |lst {a:Addr} {xs:List V} (e:H a=some (.lst xs)):zV K H (.ref a) (.type "list")
 |frz {a:Addr} {o:Obj} {xs:List V} (e:H a=some (.frz o (.lst xs))):zV K H (.ref a) (.type "list")
 |tup {a:Addr} {xs:List V} (e:H a=some (.tup xs)):zV K H (.ref a) (.type "tuple")
 |dK {a:Addr} {ι:List (Key×V)} (e:Rd H a (.dK ι)):zV K H (.ref a) (.type "dict")
 |dT {a:Addr} {T:Addr->List V->Prop} {ι:List (List Kt×V)} (e:H a=some (.dT T ι)):zV K H (.ref a) (.type "dict")
 |ins {a C dx:Addr} {fs:List (Str×V)} (e:H a=some (.ins C dx fs)) (cl:Cls K C) (ha:cq K (.ref C) "__class__" = some (some (.builtin "object.__class__")))
   (hn:W.specialIn K (.builtin "object.__class__") "__get__" = some (some (.builtin "getset_descriptor.__get__"))) (htk:W.takesIn K (.builtin "object.__class__")=some true)
   (hm:W.mroIn K C (.type "object")=some true):zV K H (.ref a) (.ref C)
theorem RW (I:Inv X π σ H s)(rx:RelV x u)(ty:zV X.K H x t)(e:bS X.K t c=some b)(h:∀tk,Q (.bool b) { s with toks:=tk }):
  bp (b6 X.prog X.w) A (call (.builtin "isinstance") [u,c]) Q E s:=by
 cases ty with
 |non=>cases(show u=eP from rx);exact iN W.kitx_none I.kIn eS e (λz=>nomatch z) h
 |bl y=>cases(show u=ng y from rx);exact iN W.kitx_bool I.kIn eS e (λz=>nomatch z) h
 |int i=>obtain⟨t,q⟩:=(show ∃t,u=AB i t from rx);cases q;exact iN W.kitx_int I.kIn eS e (λz=>nomatch z) h
 |str y=>obtain⟨t,q⟩:=(show ∃t,u=AD y t from rx);cases q;exact iN W.kitx_str I.kIn eS e (λz=>nomatch z) h
 |flt y=>obtain⟨t,q⟩:=(show ∃t,u=Value.float y t from rx);cases q;exact iN W.kitx_float I.kIn eS e (λz=>nomatch z) h
 | @lst a xs ea=>
  cases(show u=b0 a from rx);obtain⟨_,_,n,_,h1⟩:=(show cu X.prog X.w H s.heap a (.lst xs) from I.hok a _ ea);exact iN W.kitx_list I.kIn ⟨_,h1,rfl⟩ e (λz=>nomatch z) h
 | @frz a ob xs ea=>
  cases(show u=b0 a from rx);obtain⟨_,_,_,n,_,h1⟩:=(show cu X.prog X.w H s.heap a (.frz ob<|.lst xs) from I.hok a _ ea);exact iN W.kitx_list I.kIn ⟨_,h1,rfl⟩ e (λz=>nomatch z) h
 | @tup a xs ea=>
  cases(show u=b0 a from rx);obtain⟨_,_,_,p⟩:=(show cu X.prog X.w H s.heap a (.tup xs) from I.hok a _ ea);obtain⟨o,h1,h2,_⟩:=p;exact iN W.kitx_tuple I.kIn ⟨o,h1,h2⟩ e (λz=>nomatch z) h
 | @dK a ι ea=>
  cases(show u=b0 a from rx);obtain⟨_,_,vs,_,p⟩:=(show cu X.prog X.w H s.heap a (.dK ι) from ea.ok I.hok);refine Ox p λo es ep h1 h2 _=>?_;exact iN W.kitx_dict I.kIn ⟨o,h1,h2.1⟩ e (λz=>nomatch z) h
 | @dT a T ι ea=>
  cases(show u=b0 a from rx);obtain⟨_,_,xs,_,o,es,ep,h1,h2,_⟩:=(show cu X.prog X.w H s.heap a (.dT T ι) from I.hok a _ ea);exact iN W.kitx_dict I.kIn ⟨o,h1,h2.1⟩ e (λz=>nomatch z) h
 | @ins a C dx fs ea cl ha hn htk hm=>
  cases(show u=b0 a from rx);obtain⟨mA,O,_⟩:=Zu I.hok ea;obtain⟨od,J,_⟩:=O.look;exact iN (W.kitx_own (cl.get _) cl.hd ha hn htk hm) I.kIn J e (λz=>nomatch z) h
end
structure fZ (k:Nat)(A:dP):Prop where
 hd:A.handled=none
 dp:A.depth+3*k+5<zh
 un:A.units+16*k+200<pE
 gd:A.guards=some []
theorem fZ.mono (r:fZ k A)(h:j<=k):fZ j A:=⟨r.hd,by have:=r.dp;lia,by have:=r.un;lia,r.gd⟩
theorem fZ.deeper (r:fZ (k+1) A)(env:Env):fZ k (A.deeper env):=
 ⟨r.hd,by have:=r.dp;show A.depth+1+3*k+5<_;lia,by have:=r.un;show A.units+3+16*k+200<_;lia,r.gd⟩
theorem Ln {A:dP}:(A.under<|.builtin "type.__call__" ⟨.ref C::us,kw⟩).depth=A.depth+1:=by
 first|rfl|simp[A9,Code.weight,Code.isCreation,Code.isGuard,Code.isCaller,Code.frames,Bn,guardIds]
theorem M9 {A:dP}:(A.under<|.builtin "type.__call__" ⟨.ref C::us,kw⟩).units=A.units+1:=by
 first|rfl|simp[A9,Code.cUnits,Code.frames,Bn]
theorem fZ.make (r:fZ (k+1) A)(C:Addr)(us:List aw)(kw:List (Str×aw)):fZ k (A.under<|.builtin "type.__call__" ⟨.ref C::us,kw⟩):=
 ⟨r.hd,by have:=r.dp;rw[Ln];lia,by have:=r.un;rw[M9];lia,r.gd⟩
theorem fZ.depth (r:fZ k A):A.depth<zh:=by have:=r.dp;lia
theorem fZ.units (r:fZ k A):A.units+64<pE:=by have:=r.un;lia
def aeh:TA:=λ_ H Q=>Q [] H
def Um (ta:TE)(tr:TA):TA:=λσ H Q=>ta σ H λx H1=>tr σ H1 λxs H2=>Q (x::xs) H2
section
theorem nG:PA X [] aeh:=λ_ _ _ _ H Q I h=>sN ⟨[],H,I,.nil,h⟩
theorem eU (ha:PE X e te)(hr:PA X es t)(hs:ag (e::es) X.env=(false,eval e X.env)::ag es X.env:=by rfl):PA X (e::es) (Um te t):=by
 intro pos π s σ H Q I h;rw[hs];show bp _ _ (spliced ((false,eval e X.env)::hV pos (ag es X.env))) _ _ s;refine mm<|thn (ha π s σ H _ I h) λu s1 hE=>xq2 hE λx H1 I1 r1 q1=>?_;exact thn (hr pos π s1 σ H1 _ I1 q1) λus s2 hE=>xq2 hE λxs H2 I2 r2 q2=>⟨x::xs,H2,I2,.cons r1 r2,q2⟩
def af2 (t:TA):TE:=λσ H Q=>t σ H λxs H1=>xs.length<=av/\∀p,H1 p=none->Q (.ref p) (upd H1 p<|.tup xs)
def afX (t:TA):TE:=λσ H Q=>t σ H λxs H1=>xs.length<=av/\∀p,H1 p=none->Q (.ref p) (upd H1 p<|.lst xs)
theorem Ur (h:PA X es t):PE X (.Tuple es x1 pos) (af2 t):=by
 intro π s σ H Q I hq;refine wpAny_Tuple_spliced<|thn (h pos π s σ H _ I hq) λus s1 ⟨xs,H1,I1,r,z,q⟩=>⟨by rw[← r.length];exact z,?_⟩;have hf:H1 s1.heap.objs.size=none:=I1.hok.fresh<|aI _;refine⟨.ref s1.heap.objs.size,upd H1 s1.heap.objs.size<|.tup xs,I1.laid (t':=s1.toks) (λb u e=>af _ e) (aI _) ?_,rfl,q _ hf⟩;exact⟨z,us,r,⟨_,aT _ rfl,rfl,_,rfl,rfl⟩⟩
theorem acd (h:PA X es t):PE X (.List es pos) (afX t):=by
 intro π s σ H Q I hq;refine wpAny_List_spliced<|thn (h pos π s σ H _ I hq) λus s1 ⟨xs,H1,I1,r,z,q⟩=>⟨by rw[← r.length];exact z,?_⟩;have hf:H1 s1.heap.objs.size=none:=I1.hok.fresh<|aI _;refine⟨.ref s1.heap.objs.size,upd H1 s1.heap.objs.size<|.lst xs,I1.laid (t':=s1.toks) (λb u e=>af _ e) (aI _) ?_,rfl,q _ hf⟩;exact⟨z,us,0,r,aT _ rfl⟩
end
abbrev Sp:=List V->Hp->VK->XK->Prop
abbrev CXT:=List Env->Hp->aS->XK->Zl
structure Et (P:bq)(w:dA)(K:a7)(mg:Zaa)(base:Heap)(A:dP)(outer:List Env)(s:aS)(H:Hp):Prop where
 frames:A.frames=some outer
 mod:Mod K mg base
 bs:∀b o,base.get? b=some o->s.heap.get? b=some o/\H b=none
 bsz:base.objs.size<=s.heap.objs.size
 tD:s.heap.FunFrames base outer
 frf:∀b∈frs outer,H b=none
 hok:HOk P w H s.heap
 bare:uj s.gens
def CE (outer:List Env)(P:bq)(w:dA)(H:Hp)(s:aS)(Q:VK)(u:aw)(s':aS):Prop:=
 ∃v H',s'.os=s.os/\uj s'.gens/\Un (frs outer) [] H H' s.heap s'.heap/\HOk P w H' s'.heap/\RelV v u/\Q v H'
def CR (CX:CXT)(outer:List Env)(P:bq)(w:dA)(H:Hp)(s:aS)(Q:VK)(E:XK)(r:Result)(s':aS):Prop:=
 match r with
 | .ok (.ret u)=>CE outer P w H s Q u s'
 | .ok _=>False
 | .error e=>CX outer H s E e s'
structure oM (P:bq)(w:dA)(K:a7)(mg:Zaa)(base:Heap)(CX:CXT)(k:Nat)(f:Addr)(fd:gN)(ps:List Str)(sp:Sp):Prop where
 len:∀vs H Q E,sp vs H Q E->vs.length=ps.length
 run:∀(A:dP) (outer:List Env) (s:aS) (H:Hp) (args:Args) (us:List aw) (vs:List V) (Q:VK) (E:XK),fZ k A->Et P w K mg base A outer s H->A2 s fd args (ps.zip us)->Vals vs us->sp vs H Q E->
  xw (b6 P w) A (.call (.ref f) args) (CR CX outer P w H s Q E) s
theorem oM.imp {P:bq}{w:dA}{K:a7}{mg:Zaa}{base:Heap}{CX:CXT}{k:Nat}{f:Addr}{fd:gN}{ps:List Str}{sp sp':Sp}(F:oM P w K mg base CX k f fd ps sp)
  (h:∀vs H Q E,sp' vs H Q E->sp vs H Q E):oM P w K mg base CX k f fd ps sp':=
 ⟨λvs H Q E q=>F.len vs H Q E<|h _ _ _ _ q,λA outer s H args us vs Q E hr he hb hv hs=>F.run A outer s H args us vs Q E hr he hb hv<|h _ _ _ _ hs⟩
theorem Et.make {P:bq}{w:dA}{K:a7}{mg:Zaa}{base:Heap}{A:dP}{outer:List Env}{s:aS}{H:Hp}(e:Et P w K mg base A outer s H)(C:Addr)(us:List aw)(kw:List (Str×aw)):
  Et P w K mg base (A.under<|.builtin "type.__call__" ⟨.ref C::us,kw⟩) outer s H:=⟨by first|exact e.frames|(simpa[A9,Code.envs,Bn,pushEnvs] using e.frames),e.mod,e.bs,e.bsz,e.tD,e.frf,e.hok,e.bare⟩
section
theorem Inv.env0 (I:Inv X π σ H s):Et X.prog X.w X.K X.mg X.base X.A X.stack s H:=
 ⟨I.ok.frames,I.ok.mod,I.bs,dr I.ok.bsz I.sz,I.stack,I.yW,I.hok,I.bare⟩
theorem Inv.after (I:Inv X π σ H s)(h:CE X.stack X.prog X.w H s Q u s'):EP X π σ Q u s':=by
 refine Ke h λv H' os bare un hok r q=>?_;obtain⟨hh,g,d,t,os'⟩:=s';obtain rfl:os'=s.os:=os;exact⟨v,H',I.call (h':=hh) (g':=g) (d':=d) (t':=t) (ch:=[]) un hok bare λb z=>absurd z (by simp),r,q⟩
end
def aaM (sp:Sp)(dvs:List V)(E:XK)(t:TA):TE:=λσ H Q=>t σ H λvs H1=>sp (vs++dvs) H1 Q E
def Binds (K:a7)(fd:gN)(ps:List Str)(ds:List aw):Prop:=
 ∀(s:aS) (us:List aw),K.In s.heap->(us++ds).length=ps.length->A2 s fd ⟨us,[]⟩ (ps.zip<|us++ds)
theorem Binds.all {K:a7}{fd:gN}{ps:List Str}(h:∀us:List aw,us.length=ps.length->bindArgs fd ⟨us,[]⟩=pure (ps.zip us)):Binds K fd ps []:=λs us _ hl=>by
 rw[cw] at hl ⊢;exact .of_eq<|h us hl
def Passes (CX:CXT)(X:Cx)(E:XK):Prop:=∀(π:Zp) (σ:St) (H:Hp) (s:aS) (e:aw) (s':aS),Inv X π σ H s->CX X.stack H s E e s'->X.xe e s'
section
variable {X:Cx}{CX:CXT}{k:Nat}{f C:Addr}{fd:gN}{ps:List Str}{sp:Sp}{dvs:List V}{ds:List aw}{E:XK}{x m:Str}{p pos apos:Pos}{e o:Expr}{es:List Expr}{ta:TE}{t:TA}
theorem aby (F:oM X.prog X.w X.K X.mg X.base CX k f fd ps sp)(hr:fZ k X.A)(hb:Binds X.K fd ps ds)(hd:Vals dvs ds)(hx:Passes CX X E)
  (I:Inv X π σ H s) (r:Vals vs us) (h:sp (vs++dvs) H Q E):bp (b6 X.prog X.w) X.A (call (.ref f) us) (EP X π σ Q) X.xe s:=by
 have r2:Vals (vs++dvs) (us++ds):=r.append hd;have hl:(us++ds).length=ps.length:=by rw[← r2.length];exact F.len _ _ _ _ h
 refine yB<|nV (F.run X.A X.stack s H ⟨us,[]⟩ (us++ds) (vs++dvs) Q E hr I.env0 (hb s us I.kIn hl) r2 h) λr s' hq=>?_;cases r with
 |error e=>exact hx π σ H s e s' I hq
 |ok fl=>
  cases fl with
  |ret u=>exact I.after hq
  |next=>exact fq hq
  |brk=>exact fq hq
  |cont=>exact fq hq
theorem Ir (F:oM X.prog X.w X.K X.mg X.base CX k f fd ps sp)(hr:fZ k X.A)(hg:Gl X x)(hm:X.mg x=some (.ref f))(hk:la X.K (.ref f)=true)(hb:Binds X.K fd ps ds)(hd:Vals dvs ds)(hx:Passes CX X E)
  (ha:PA X (e::es) t) (hdb:(x==("__debug__":Str))=false:=by decide) (he:ag (e::es) X.env=(false,eval e X.env)::ag es X.env:=by rfl) (ξ:(hV pos<|ag es X.env).any (·.1)=false:=by rfl):
  PE X (.Call (.Name x p) (e::es) [] pos) (aaM sp dvs E t):=by
 intro π s σ H Q I h;refine gc<|qY I hg hm ?_ hdb;refine rX (h₀:=X.base) I.ok.mod.kin hk (thn (ha pos π s σ H _ I h) λus s1 hE=>xq2 hE λvs H1 I1 r q=>⟨I1.kIn,?_⟩) he ξ;exact aby F hr hb hd hx I1 r q
end
section
end
structure aQ (N P:List Str)(sc:sj):Prop where
 kind:sc.kind=.function
 co:sc.isCoroutine=false
 gen:sc.isGenerator=false
 nd:N.Nodup
 pre:N.take P.length=P
 par:∀x∈P,sc.names.lookup x=some .local\/sc.names.lookup x=some .cell
 nofree:∀y∈sc.names,y.2≠.free
theorem Gu {sP:Str->Option uk}{x:Str}:∀{binds:List (Str×aw)} {m:Zaa},(∀v,(x,v)∉binds)->B2 sP binds m x=m x
 |[],_,_=>rfl
 |(n,v)::r,m,h=>by
  unfold B2;rw[Gu λw hw=>h w<|ah _ hw];split
  ·have:x≠n:=by rintro rfl;exact h v ar
   simp[this]
  ·rfl
theorem Gf {sP:Str->Option uk}{x:Str}:∀{binds:List (Str×aw)} {m:Zaa},(∀v,(x,v)∉binds)->B3 sP binds m x=m x
 |[],_,_=>rfl
 |(n,v)::r,m,h=>by
  unfold B3;rw[Gf λw hw=>h w<|ah _ hw];split
  ·rfl
  ·have:x≠n:=by rintro rfl;exact h v ar
   simp[this]
theorem Ga {sP:Str->Option uk}{x:Str}{v:aw}:∀{P:List Str} {vs:List aw} {i:Nat} {m:Zaa},P.Nodup->P[i]? = some x->vs[i]? = some v->sP x=some .local->
  B2 sP (P.zip vs) m x=some v
 |[],_,_,_,_,h,_,_=>by simp at h
 |_::_,[],_,_,_,_,h,_=>by simp at h
 |p::P,w::vs,0,m,nd,h1,h2,hk=>by
  simp at h1 h2;subst h1;subst h2;show B2 sP ((p,w)::P.zip vs) m p=_;unfold B2;rw[Gu λv hv=>(p9.mp nd).1 (qa hv).1,if_pos hk]
  simp
 |p::P,w::vs,i+1,m,nd,h1,h2,hk=>by
  show B2 sP ((p,w)::P.zip vs) m x=_;unfold B2;exact Ga (i:=i) (p9.mp nd).2 (by simpa using h1) (by simpa using h2) hk
theorem Fw {sP:Str->Option uk}{x:Str}{v:aw}:∀{P:List Str} {vs:List aw} {i:Nat} {m:Zaa},P.Nodup->P[i]? = some x->vs[i]? = some v->sP x≠some .local->
  B3 sP (P.zip vs) m x=some v
 |[],_,_,_,_,h,_,_=>by simp at h
 |_::_,[],_,_,_,_,h,_=>by simp at h
 |p::P,w::vs,0,m,nd,h1,h2,hk=>by
  simp at h1 h2;subst h1;subst h2;show B3 sP ((p,w)::P.zip vs) m p=_;unfold B3;rw[Gf λv hv=>(p9.mp nd).1 (qa hv).1,if_neg hk]
  simp
 |p::P,w::vs,i+1,m,nd,h1,h2,hk=>by
  show B3 sP ((p,w)::P.zip vs) m x=_;unfold B3;exact Fw (i:=i) (p9.mp nd).2 (by simpa using h1) (by simpa using h2) hk
noncomputable def start (N:List Str)(vs:List V):St:=vs.map some++bP (N.length-vs.length) none
noncomputable def lQ (CX:CXT)(P:bq)(w:dA)(K:a7)(mg:Zaa)(base:Heap)(N:List Str)(qual:Str)(scope:sj)(f:Addr)(cd:aw)(A:dP)(outer:List Env)(s:aS)(H:Hp)(E:XK):Cx where
 prog:=P
 w:=w
 K:=K
 mg:=mg
 base:=base
 A:=A.deeper<|qc qual scope s.heap.objs.size f cd
 N:=N
 s₀:=s
 H₀:=H
 env:=qc qual scope s.heap.objs.size f cd
 outer:=outer
 stack:=qc qual scope s.heap.objs.size f cd::outer
 ex:=[]
 calm:=true
 fn:=λ_=>true
 pn:=[]
 xe:=λe s'=>bp (b6 P w) (A.deeper<|qc qual scope s.heap.objs.size f cd) (leaving (qc qual scope s.heap.objs.size f cd) e) (λ_ s''=>CX outer H s E e s'') (λe' s''=>CX outer H s E e' s'') s'
theorem JF {sc:sj}(h:sc.names.lookup x=some .cell):∃c,(AJ n sc.names []).lookup x=some c:=by
 have q:=vT sc.names n []<|.inl h;exact Option.isSome_iff_exists.mp q
theorem Gz {CX:CXT}{P:bq}{w:dA}{K:a7}{mg:Zaa}{base:Heap}{N ps:List Str}{qual:Str}{scope:sj}{f:Addr}{cd:aw}{A:dP}{outer:List Env}{s s1:aS}{H:Hp}{E:XK}{us:List aw}{vs:List V}
  (S:aQ N ps scope) (hd:A.handled=none) (e0:Et P w K mg base A outer s H) (hl:vs.length=ps.length) (r:Vals vs us)
  (x:InCallC s s.heap.objs.size (B2 (qc qual scope s.heap.objs.size f cd).kindOf (ps.zip us) λ_=>none) (AJ (s.heap.objs.size+1) scope.names []) (B3 (qc qual scope s.heap.objs.size f cd).kindOf (ps.zip us) λ_=>none) s1):
  Inv (lQ CX P w K mg base N qual scope f cd A outer s H E) [] (start N vs) H s1:=by
 have ξ:ps.length<=N.length:=by have:=congrArg kS S.pre;rw[kK] at this;lia
 obtain⟨h1,tk,rfl,hk⟩:=x.done;have noA:∀b:Addr,b∉(lQ CX P w K mg base N qual scope f cd A outer s H E).ex:=λb z=>absurd (show b∈([]:List Addr) from z) (by simp);refine⟨⟨e0.mod,S.kind,rfl,rfl,aI _,λy z c h1 h2=>?_,λy hy=>?_,λy c _ h=>?_,λ_=>hd,y4 e0.frames,.inr ⟨rfl,rfl⟩,λb z=>absurd z<|noA b,e0.bs,e0.bsz,λb _ _=>noA b,λb z=>absurd z<|noA b,e0.tD,e0.frf⟩,
  rfl,e0.bare,Un.kept hk,⟨_,x.toInCall.ns,λi y v h1 h2 h3=>?_⟩,λy c h=>⟨_,x.cell y c h⟩,e0.hok.fresh<|aI _,λy c h=>?_,λp hp=>absurd (show p∈([]:Zp) from hp) (by simp),e0.hok.kept hk,?_⟩
 ·exact name_of_addr x.apart (kC h1)<|kC h2
 ·have hy:scope.names.lookup y=some .cell\/scope.names.lookup y=some .free:=hy;rcases hy with hy|hy
  ·exact JF hy
  ·exact absurd rfl<|S.nofree _<|kC hy
 ·exact A8<|x.above y c<|kC h
 ·have hi:i<vs.length:=by
   unfold start at h2;by_cases hi:i<vs.length
   ·exact hi
   ·rw[c9<|by simpa using hi] at h2;rw[fy] at h2;split at h2<;>cases h2
  have ha:vs[i]? = some v:=by
   unfold start at h2;rw[cS (by simpa using hi),bg] at h2;cases e:vs[i]? with
   |none=>rw[e] at h2;cases h2
   |some a=>rw[e] at h2;cases h2;rfl
  obtain⟨u,hu,rv⟩:=r.get ha;have hp:ps[i]? = some y:=by
   rw[← S.pre,sQ<|by lia];exact h1
  have ndP:ps.Nodup:=by rw[← S.pre];exact S.nd.sublist<|List.take_sublist _ _
  refine⟨u,rv,?_⟩;rcases S.par y (y6 hp) with k|k
  ·exact .inl ⟨k,Ga ndP hp hu k⟩
  ·obtain⟨c,e⟩:=JF (n:=s.heap.objs.size+1) k;refine .inr ⟨.inl k,c,e,?_⟩;have q:=x.cell y c e;rw[Fw ndP hp hu (by show scope.names.lookup y≠_;rw[k];decide)] at q;exact q
 ·exact e0.hok.fresh<|A8<|x.above y c<|kC h
 ·unfold start;show _=N.length;rw[bt,cp,ic]
  lia
theorem aem {CX:CXT}{P:bq}{w:dA}{K:a7}{mg:Zaa}{base:Heap}{k:Nat}{f:Addr}{name qual:Str}{params:Arguments}{body:List Stmt}{scope:sj}{dV kV doc pm cdv ct oc:aw}{an od:Option Addr}
  {osl:Array (Option aw)} {N ps:List Str} {sp:Sp} (lk:K.lookup f=some ⟨oc,od,.func<|v3 name qual params body scope dV kV doc pm an cdv ct,osl⟩) (hcd:AK K cdv qual=true) (S:aQ N ps scope)
  (len:∀vs H Q E,sp vs H Q E->vs.length=ps.length)
  (hbody:∀(A:dP) (outer:List Env) (s:aS) (H:Hp) (vs:List V) (Q:VK) (E:XK),fZ k (A.deeper<|qc qual scope s.heap.objs.size f cdv)->sp vs H Q E->
   ∃t,PSs (lQ CX P w K mg base N qual scope f cdv A outer s H E) body t/\t { nx:=λ_ H'=>Q .non H',rt:=Q } (start N vs) H):
  oM P w K mg base CX (k+1) f (v3 name qual params body scope dV kV doc pm an cdv ct) ps sp:=by
 refine⟨len,λA outer s H args us vs Q E hr e0 hb r hsp=>?_⟩;have hl:=len _ _ _ _ hsp;have KX:K.In s.heap:=e0.mod.kin.keeps λb o e=>(e0.bs b o e).1;have lim:s.heap.NoLimit:=e0.mod.nolimit.keeps λb o e=>(e0.bs b o e).1;have hkind:∀y∈ps.zip us,scope.names.lookup y.1=some .local\/(scope.names.lookup y.1=some .cell/\((AJ (s.heap.objs.size+1) scope.names []).lookup y.1).isSome=true):=λ⟨n,v⟩ hy=>by
  rcases S.par n (qa hy).1 with q|q
  ·exact .inl q
  ·exact .inr ⟨q,vT _ _ _<|.inl q⟩
 refine codeAny_call_function hr.depth (KX _ _ lk) rfl S.co S.gen rfl (W.codeRec_of KX hcd)<|hb _ _ _ _ ?_;refine rg S.kind hkind λenv he s1 x=>?_;subst he;refine⟨lim.keeps x.toInCall.keep,codeAny_func ?_⟩;obtain⟨t,ht,hq⟩:=hbody A outer s H vs Q E (hr.deeper _) hsp;have I:Inv (lQ CX P w K mg base N qual scope f cdv A outer s H E) [] (start N vs) H s1:=Gz S hr.hd e0 hl r x;refine fx (ht [] s1 (start N vs) H _ I hq) (λfl s' hs=>?_) λe s' hs=>hs;have fin:∀{σ':St} {H':Hp} {v:V} {u:aw},Inv (lQ CX P w K mg base N qual scope f cdv A outer s H E) [] σ' H' s'->RelV v u->Q v H'->CE outer P w H s Q u s':=
  λ{σ' H' v u} J rv q=>⟨v,H',J.os,J.bare,J.base,J.hok,rv,q⟩
 cases fl with
 |ret u=>
  refine Ox hs λv σ' H' J rv q=>?_;exact fin J rv q
 |next=>
  obtain⟨σ',H',J,q⟩:=hs;exact fin (v:=V.non) (u:=eP) J rfl q
 |brk=>
  obtain⟨_,_,_,q⟩:=hs;exact fq q
 |cont=>
  obtain⟨_,_,_,q⟩:=hs;exact fq q
section
variable {X:Cx}{x:Str}{p pos:Pos}{e:Expr}{es:List Expr}{t:TA}{id T:String}{r:List V->Hp->VK->Prop}
def tCB (r:List V->Hp->VK->Prop)(t:TA):TE:=λσ H Q=>t σ H λvs H1=>r vs H1 Q
theorem v7 (hc:iW X (.builtin id) r)(hg:Gl X x)(hm:X.mg x=none)(hv:cc x=some (.builtin id))(ha:PA X (e::es) t)(hn:x≠"__name__":=by decide)(hdb:(x==("__debug__":Str))=false:=by decide)
  (he:ag (e::es) X.env=(false,eval e X.env)::ag es X.env:=by rfl) (ξ:(hV pos<|ag es X.env).any (·.1)=false:=by rfl):PE X (.Call (.Name x p) (e::es) [] pos) (tCB r t):=by
 intro π s σ H Q I h;refine gc<|um I hg hm hv ?_ hn hdb;exact PyProof.Rows.callWith_builtin1 (thn (ha pos π s σ H _ I h) λus s1 hE=>xq2 hE λvs H1 I1 r1 q1=>hc π s1 σ H1 vs us Q I1 r1 q1) he ξ
theorem zR (hc:iW X (.type T) r)(hg:Gl X x)(hm:X.mg x=none)(hv:cc x=some (.type T))(ha:PA X (e::es) t)(hn:x≠"__name__":=by decide)(hdb:(x==("__debug__":Str))=false:=by decide)
  (he:ag (e::es) X.env=(false,eval e X.env)::ag es X.env:=by rfl) (ξ:(hV pos<|ag es X.env).any (·.1)=false:=by rfl):PE X (.Call (.Name x p) (e::es) [] pos) (tCB r t):=by
 intro π s σ H Q I h;refine gc<|um I hg hm hv ?_ hn hdb;exact eI (thn (ha pos π s σ H _ I h) λus s1 hE=>xq2 hE λvs H1 I1 r1 q1=>hc π s1 σ H1 vs us Q I1 r1 q1) he ξ
end
end L2
namespace HT
open PySem PyProof.Rows
theorem ae9 (A:dP)(s:aS)(a:Int)(t:Tok)(c:Int)(u:Tok):∃e,SeqAt.EqAt A s (.int a t) (.int c u) e/\(e=true↔a=c):=
 ⟨(a==c),SeqAt.EqAt.int_int a t c u,by simp⟩
theorem aeV (A:dP)(s:aS)(a:Int)(t:Tok)(c:Int)(u:Tok)(prog:bq)(w:dA)(E:Zl)(Q:Zl)(h:Q (.bool<|decide<|a<c) s):
  bp (b6 prog w) A (richCompare .Lt (.int a t)<|.int c u) Q E s:=
 (PyProof.Rows.lt_int h:bp (b6 prog w) A (fR .Lt (.int a t)<|.int c u) Q E s)
section
open PySem.SeqAt
open PySem.AutoSeq1 (wpAny_loadPart')
open PySem.MeetsSeq PySem.MeetsSeq2 PySem.MeetsSeq3
end
section
variable {prog:bq}{w:dA}{A:dP}{E:Zl}{s:aS}
theorem X8 (ht:IsTup s.heap t vs.toArray)(hb:IsTup s.heap b ws.toArray)(hv:vs≠[])
  (h1:ws=[]->Q (.ref t) s) (h2:ws≠[]->Q (.ref s.heap.objs.size) { s with heap:=s.heap.push { cls:=.type "tuple",data:=.seq (vs++ws).toArray } })
  (hsz:vs.length+ws.length<=av):bp (b6 prog w) A (hJ .Add (.ref t)<|.ref b) Q E s:=by
 obtain⟨⟨cls,dd,data,sl⟩,ho,hc,n,hd⟩:=id ht;obtain⟨⟨cls2,dd2,data2,sl2⟩,ho2,hc2,n2,hd2⟩:=id hb;simp only at hc hd hc2 hd2;subst hc hd hc2 hd2;have e:vs.toArray++ws.toArray=(vs++ws).toArray:=by simp
 by_cases hw:ws=[]
 ·exact xy ⟨_,ho,rfl⟩ ⟨_,ho2,rfl⟩ wm AL mS mn (me _ _)
   (tuple_addW1 t b vs.toArray ws.toArray n n2 dd dd2 sl sl2 (by simpa using hv) (by simp[hw])) ⟨ho,ho2,h1 hw⟩
 ·refine xy ⟨_,ho,rfl⟩ ⟨_,ho2,rfl⟩ wm AL mS mn (me _ _)
   (tuple_addW2 t b vs.toArray ws.toArray n n2 dd dd2 sl sl2 (by simpa using hv) (by simpa using hw) (by rw[a8,a8];exact hsz)) ⟨ho,ho2,?_⟩
  rw[e];exact h2 hw
noncomputable def sIx (n d:Nat):Option Int->Nat
 |none=>d
 |some v=>if v<0 then(v+(n:Int)).toNat else min v.toNat n
theorem Yh (n d k:Nat):sIx n d (some (k:Int))=min k n:=by
 show(if(k:Int)<0 then((k:Int)+(n:Int)).toNat else min (k:Int).toNat n)=min k n;rw[if_neg (by lia),kd]
theorem abg (n d:Nat)(hd:d<=n)(o:Option Int):sIx n d o<=n:=by
 cases o with
 |none=>exact hd
 |some v=>
  show(if v<0 then(v+(n:Int)).toNat else min v.toNat n)<=n;by_cases hv:v<0
  ·rw[if_pos hv];lia
  ·rw[if_neg hv];exact Nat.min_le_right _ _
theorem Rq (v:Int)(n d:Nat):(if v<0 then max (v+(n:Int)) 0 else min v (n:Int))=((sIx n d (some v):Nat):Int):=by
 show(if v<0 then max (v+(n:Int)) 0 else min v (n:Int))=(((if v<0 then(v+(n:Int)).toNat else min v.toNat n):Nat):Int);by_cases hv:v<0
 ·simp only[if_pos hv];lia
 ·simp only[if_neg hv];lia
theorem MT (lo hi:Option Int)(n:Nat):l4 lo hi 1 (n:Int)=(((sIx n 0 lo:Nat):Int),((sIx n n hi:Nat):Int)):=by
 have h1:¬((1:Int)<0):=by lia
 unfold l4;simp only[h1,if_false];refine Prod.ext ?_ ?_
 ·cases lo with
  |none=>rfl
  |some v=>exact Rq v n 0
 ·cases hi with
  |none=>rfl
  |some v=>exact Rq v n n
theorem Mt (i j:Nat):jv (i:Int) (j:Int) 1=j-i:=by
 unfold jv;have h1:(1:Int)>0:=by lia
 simp only[h1,if_true,Bz];split<;>lia
theorem DY (p:BA v o)(h:Q o s):bp (b6 prog w) A (Builtin.Slice.slicePartIndex v) Q E s:=by
 cases p with
 |none=>exact slicePart_none h
 |int i t=>exact slicePart_int h
theorem zU {sl:Addr}{vl vu:aw}{lo hi:Option Int}{n:Nat}{Q:Int×Int×Nat->aS->Prop}(hs:s.heap.IsSliceOf sl vl vu .none)(pl:BA vl lo)(pu:BA vu hi)
  (h:Q (((sIx n 0 lo:Nat):Int),1,sIx n n hi-sIx n 0 lo) s):bp (b6 prog w) A (rh (.ref sl)<|pure (n:Int)) Q E s:=by
 obtain⟨os,hos,hcs,hds⟩:=id hs;unfold rh Builtin.Slice.sliceFields;refine ae<|ae<|hZ hos hds (x:=vl) rfl<|ae<|hZ hos hds (x:=vu) rfl<|ae<|hZ hos hds (x:=.none) rfl<|ai ?_;refine ae<|slicePart_none ?_;show bp _ _ (if((1:Int)==0)=true then _ else _) _ _ s;rw[if_neg<|by decide];refine ae<|DY pl<|ae<|DY pu<|ae<|ai ?_;show bp _ _ (match l4 lo hi 1 (n:Int) with|(lo,hi)=>pure (lo,(1:Int),jv lo hi 1)) _ _ s;rw[MT lo hi n];show bp _ _ (pure (((sIx n 0 lo:Nat):Int),(1:Int),jv ((sIx n 0 lo:Nat):Int) ((sIx n n hi:Nat):Int) 1)) _ _ s;rw[Mt];exact ai h
theorem UJ (xs:Array aw)(i k:Nat):((cx k).filterMap λ(m:Nat)=>xs[((i:Int)+(m:Int)*1).toNat]?).toArray=((xs.toList.drop i).take k).toArray:=by
 have e:(λ(m:Nat)=>xs[((i:Int)+(m:Int)*1).toNat]?)=λm=>xs[i+m]?:=by
  funext m
  have:((i:Int)+(m:Int)*1).toNat=i+m:=by lia
  rw[this]
 rw[e]
 have:=pick_run xs i k
 rw[List.filterMap_map] at this;have e2:((λx=>xs[x]?)∘λx=>i+x)=λm=>xs[i+m]?:=rfl;rw[e2] at this;rw[this]
theorem yK {t sl:Addr}{items:Array aw}{vl vu:aw}{lo hi:Option Int}{Q:Zl}(ht:IsTup s.heap t items)(hs:s.heap.IsSliceOf sl vl vu .none)(pl:BA vl lo)(pu:BA vu hi)
  (hw:¬(sIx items.size 0 lo=0/\sIx items.size items.size hi=items.size))
  (h:Q (.ref s.heap.objs.size) { s with heap:=s.heap.push { cls:=.type "tuple",data:=.seq ((items.toList.drop<|sIx items.size 0 lo).take<|sIx items.size items.size hi-sIx items.size 0 lo).toArray } })
  (hsz:items.size<=av):bp (b6 prog w) A (xA (.ref t)<|.ref sl) Q E s:=by
 have htake:sizeOk (.seq ((items.toList.drop<|sIx items.size 0 lo).take<|sIx items.size items.size hi-sIx items.size 0 lo).toArray):=by
  show((items.toList.drop<|sIx items.size 0 lo).take<|sIx items.size items.size hi-sIx items.size 0 lo).toArray.size<=av;rw[a8,kK,l7,pS]
  lia
 have hj:sIx items.size items.size hi<=items.size:=abg _ _ (aI _) hi;obtain⟨os,hos,hcs,hds⟩:=id hs;have hTs:s.TypeIs (.ref sl) "slice":=⟨os,hos,hcs⟩;unfold xA
 try with_reducible refine gS ?_
 first|refine ae (ai ?_)|skip
 refine ae<|wpAny_sequenceKey ht.typeIs (by decide) ?_;refine ae (iA (name:=cy "__getitem__") ht.typeIs kg
  (gX kg ht.typeIs entry_tuple_getitem ?_<|args_tuple_getitem _ _))
 show bp _ _ (qV (.ref t) >>= _) _ _ s;refine ae<|tupleItemsOf_ ht ?_;refine ae<|mf hTs ?_;rw[if_pos<|by decide];refine ae<|zU hs pl pu ?_;have hno:¬((((sIx items.size 0 lo:Nat):Int)==0&&(1:Int)==1&&(sIx items.size items.size hi-sIx items.size 0 lo)==items.size)=true):=by
  intro q;rw[g7,g7] at q;have q1:((sIx items.size 0 lo:Nat):Int)=0:=eq_of_beq q.1.1;have q2:sIx items.size items.size hi-sIx items.size 0 lo=items.size:=eq_of_beq q.2;exact hw ⟨by lia,by lia⟩
 show bp _ _ (if(((sIx items.size 0 lo:Nat):Int)==0&&(1:Int)==1&&(sIx items.size items.size hi-sIx items.size 0 lo)==items.size)=true then _ else _) _ _ s;rw[if_neg hno,UJ]
 first
  |exact ae (m:=ki _) (eD (ai ⟨_,rfl,ai h⟩) htake)
  |exact ae (m:=ki _) (eD (ae<|ai<|ai ⟨_,rfl,ai h⟩) htake)
  |exact ae (ae (m:=ki _)<|eD (ai<|ai ⟨_,rfl,ai h⟩) htake)
  |exact ae (ae (m:=ki _)<|eD (ai ⟨_,rfl,ai h⟩) htake)
end
end HT
namespace L2
open PySem PySem.Spec PyProof.Rows
abbrev TO:=St->Hp->(Option Int->Hp->Prop)->Prop
def PO (X:Cx)(e:Option Expr)(t:TO):Prop:=
 ∀(π:Zp) (s:aS) (σ:St) (H:Hp) (Q:Option Int->Hp->Prop),Inv X π σ H s->t σ H Q->
  bp (b6 X.prog X.w) X.A (evalPart e X.env) (λu s'=>∃o H',Inv X π σ H' s'/\BA u o/\Q o H') X.xe s
def Z4:TO:=λ_ H Q=>Q none H
def adp (t:TE):TO:=λσ H Q=>t σ H λx H1=>∃i,x=.int i/\Q (some i) H1
section
variable {X:Cx}{e:Expr}{te:TE}{lo hi:Option Expr}{tl th:TO}{pos p2:Pos}
theorem Zh:PO X none Z4:=by
 intro π s σ H Q I h;rw[AM];exact ai ⟨none,H,I,.none,h⟩
theorem Zv (h:PE X e te):PO X (some e) (adp te):=by
 intro π s σ H Q I hw;rw[evalPart_some];refine thn (h π s σ H _ I hw) λu s1 hE=>xq2 hE λx H1 I1 r1 q1=>?_;obtain⟨i,rfl,q⟩:=q1;obtain⟨t,rfl⟩:=r1;exact⟨some i,H1,I1,.int i t,q⟩
def SlR (X:Cx)(r:V->Option Int->Option Int->Hp->VK->Prop):Prop:=
 ∀(π:Zp) (s:aS) (σ:St) (H:Hp) (x:V) (v vl vu:aw) (lo hi:Option Int) (sl:Addr) (Q:VK),Inv X π σ H s->RelV x v->s.heap.IsSliceOf sl vl vu .none->BA vl lo->BA vu hi->r x lo hi H Q->
  ∃T id,yT (.type T) "__getitem__" = pure (some<|.builtin id)/\s.TypeIs v T/\bp (b6 X.prog X.w) X.A (xA v<|.ref sl) (EP X π σ Q) X.xe s
def tSl (r:V->Option Int->Option Int->Hp->VK->Prop)(te:TE)(tl th:TO):TE:=λσ H Q=>te σ H λx H1=>tl σ H1 λl H2=>th σ H2 λu H3=>r x l u H3 Q
theorem Vt (hr:SlR X r)(he:PE X e te)(hl:PO X lo tl)(hu:PO X hi th):PE X (.Subscript e (.Slice lo hi none p2) pos) (tSl r te tl th):=by
 intro π s σ H Q I h;refine A3<|thn (he π s σ H _ I h) λv s1 hE=>xq2 hE λx H1 I1 r1 q1=>?_;refine wpAny_Slice<|thn (hl π s1 σ H1 _ I1 q1) λvl s2 ⟨l,H2,I2,pl,q2⟩=>thn (hu π s2 σ H2 _ I2 q2) λvu s3 hE=>?_;refine Ae hE λu H3 I3 pu q3=>?_;rw[AM];refine ai ?_;have I4:Inv X π σ H3 { s3 with heap:=s3.heap.push { cls:=.type "slice",data:=.fields #[vl,vu,.none] } }:=I3.kept (t':=s3.toks) λb ob q=>af _ q;refine Ae (hr π { s3 with heap:=s3.heap.push { cls:=.type "slice",data:=.fields #[vl,vu,.none] } } σ H3 x v vl vu l u s3.heap.objs.size Q I4 r1 (AN ..) pl pu q3) λT id hT ht hg=>?_;show bp (b6 X.prog X.w) X.A (uu e (.Slice lo hi none p2) v<|.ref s3.heap.objs.size) (EP X π σ Q) X.xe { s3 with heap:=s3.heap.push { cls:=.type "slice",data:=.fields #[vl,vu,.none] } };exact tail_any (ops:=[.ref s3.heap.objs.size,v]) ht hT hg<|by with_unfolding_all rfl
def JX (xs:List V)(lo hi:Option Int):List V:=(xs.drop<|HT.sIx xs.length 0 lo).take<|HT.sIx xs.length xs.length hi-HT.sIx xs.length 0 lo
theorem Ax (xs:List V)(lo hi:Option Int):(JX xs lo hi).length<=xs.length:=by
 unfold JX;rw[kK,l7]
 lia
def afu (K:a7):V->Option Int->Option Int->Hp->VK->Prop:=λx lo hi H Q=>∃a xs,x=.ref a/\SqT K H a xs/\
 ¬(HT.sIx xs.length 0 lo=0/\HT.sIx xs.length xs.length hi=xs.length)/\∀p,H p=none->Q (.ref p) (upd H p<|.tup<|JX xs lo hi)
theorem abq:SlR X (afu X.K):=by
 intro π s σ H x v vl vu lo hi sl Q I rx hs pl pu h;obtain⟨a,xs,rfl,hx,hw,q⟩:=h;cases rx;obtain⟨χ,r,ht,hz⟩:=I.tuple hx;have ω:χ.toArray.size=xs.length:=by rw[a8];exact r.length.symm
 refine⟨"tuple",_,kg.lookup,ht.typeIs,?_⟩;refine HT.yK ht hs pl pu (by rw[ω];exact hw) ?_ (by rw[ω];exact hz);rw[ω];refine⟨.ref s.heap.objs.size,_,I.laid (t':=s.toks) (o:=.tup<|JX xs lo hi) (λb ob q=>af _ q) (aI _) ?_,rfl,q _<|I.hok.fresh<|aI _⟩;exact⟨dr (Ax xs lo hi) hz,_,(r.drop<|HT.sIx xs.length 0 lo).take<|HT.sIx xs.length xs.length hi-HT.sIx xs.length 0 lo,JK.new _ _⟩
def adR (K:a7):R2:=λx y H Q=>∃a b xs ys,x=.ref a/\y=.ref b/\SqT K H a xs/\SqT K H b ys/\xs≠[]/\xs.length+ys.length<=av/\
 (ys=[]->Q (.ref a) H)/\(ys≠[]->∀p,H p=none->Q (.ref p) (upd H p<|.tup<|xs++ys))
theorem Vals.Hk (r:Vals xs us):us=[]↔xs=[]:=by
 cases r with
 |nil=>simp
 |cons _ _=>simp
theorem aad:OpR X (hJ .Add) (adR X.K):=by
 intro π s σ H x y v u Q I rx ry h;obtain⟨a,b,xs,ys,rfl,rfl,ha,hb,hx,hz,q1,q2⟩:=h;cases rx;cases ry;obtain⟨χ,r1,p1,_⟩:=I.tuple ha;obtain⟨its2,r2,p2,_⟩:=I.tuple hb;refine HT.X8 p1 p2 (λz=>hx<|r1.Hk.mp z) (λz=>⟨.ref a,H,I,rfl,q1<|r2.Hk.mp z⟩) (λz=>?_) (by rw[← r1.length,← r2.length];exact hz);refine⟨.ref s.heap.objs.size,_,I.laid (t':=s.toks) (o:=.tup<|xs++ys) (λb ob q=>af _ q) (aI _) ?_,rfl,q2 (λw=>z<|r2.Hk.mpr w) _<|I.hok.fresh<|aI _⟩;exact⟨by rw[bt];exact hz,_,r1.append r2,JK.new _ _⟩
end
noncomputable def ixN (n:Nat)(i:Int):Option Nat:=if 0<=i then(if i<n then some i.toNat else none) else if -(n:Int)<=i then some (i+n).toNat else none
def atI {α:Type}(xs:List α)(i:Int):Option α:=(ixN xs.length i).bind λj=>xs[j]?
theorem Ru (h:ixN n i=some j):seqIndex? i n=some j/\j<n/\-(n:Int)<=i/\i<n:=by
 unfold ixN at h;by_cases h0:0<=i
 ·rw[if_pos h0] at h;by_cases h1:i<n
  ·rw[if_pos h1] at h;have e:i.toNat=j:=b9 h;exact⟨by rw[seqIndex_of h0 h1,e],by lia,by lia,h1⟩
  ·rw[if_neg h1] at h;cases h
 ·rw[if_neg h0] at h;by_cases h1:-(n:Int)<=i
  ·rw[if_pos h1] at h;have e:(i+n).toNat=j:=b9 h;exact⟨by rw[seqIndex_neg (by lia) h1,e],by lia,h1,by lia⟩
  ·rw[if_neg h1] at h;cases h
theorem Hy (h:atI xs i=some v):∃j,seqIndex? i xs.length=some j/\xs[j]? = some v/\j<xs.length/\-(xs.length:Int)<=i/\i<xs.length:=by
 unfold atI at h;cases e:ixN xs.length i with
 |none=>rw[e] at h;cases h
 |some j=>
  rw[e] at h;obtain⟨h1,h2,h3,h4⟩:=Ru e;exact⟨j,h1,h,h2,h3,h4⟩
theorem jH {α:Type}{xs:List α}{j:Nat}{v:α}(h:xs[j]? = some v):atI xs (j:Int)=some v:=by
 have hj:j<xs.length:=(d4.mp h).1;have e:ixN xs.length (j:Int)=some j:=by
  unfold ixN;rw[if_pos (by lia),if_pos<|by lia];simp
 unfold atI;rw[e];exact h
def Bw (b:Expr):Prop:=∀o i,zD b false o i=operate [o,i] (xA o i)
def IxR (X:Cx)(r:R2):Prop:=
 ∀(value slice:Expr) (π:Zp) (s:aS) (σ:St) (H:Hp) (x y:V) (v u:aw) (Q:VK),Inv X π σ H s->RelV x v->RelV y u->r x y H Q->
  zD slice false v u=operate [v,u] (xA v u)->bp (b6 X.prog X.w) X.A (uu value slice v u) (EP X π σ Q) X.xe s
def MtR (X:Cx)(id:String)(r:V->List V->Hp->VK->Prop):Prop:=
 ∀(π:Zp) (s:aS) (σ:St) (H:Hp) (x:V) (xs:List V) (v:aw) (us:List aw) (Q:VK),Inv X π σ H s->RelV x v->Vals xs us->r x xs H Q->
  bp (b6 X.prog X.w) X.A (call (.builtin id) (v::us)) (EP X π σ Q) X.xe s
section
variable {X:Cx}{a b:Expr}{ta tb:TE}{pos:Pos}
theorem aex (hr:IxR X r)(ha:PE X a ta)(hb:PE X b tb)(hs:Bw b):PE X (.Subscript a b pos) (tOp r ta tb):=by
 intro π s σ H Q I h;exact A3<|acK ha hb I h λv u s2 x y H2 I2 rx ry q=>hr a b π s2 σ H2 x y v u Q I2 rx ry q<|hs _ _
def afV (K:a7):R2:=λx y H Q=>∃p xs i v,x=.ref p/\y=.int i/\SqL K H p xs/\atI xs i=some v/\Q v H
def afP (K:a7):R2:=λx y H Q=>∃p xs i v,x=.ref p/\y=.int i/\SqT K H p xs/\atI xs i=some v/\Q v H
def afB:R2:=λx y H Q=>∃z i c,x=.str z/\y=.int i/\z.length<=av/\atI z.cps.toList i=some c/\Q (.str ⟨#[c]⟩) H
theorem Yi:IxR X (afV X.K):=by
 intro value slice π s σ H x y v u Q I rx ry h hs;obtain⟨p,xs,i,z,rfl,rfl,hq,he,q⟩:=h;cases rx;obtain⟨t,rfl⟩:=ry;obtain⟨χ,r,pl,hz⟩:=I.list hq;refine Ud (Hy he) λj h1 h2 h3 h4 h5=>?_;obtain⟨w,ew,rw'⟩:=r.get h2;have hl:=r.length;have hn:=zN;have fin:EP X π σ Q w s:=⟨z,H,I,rw',q⟩;by_cases h0:0<=i
 ·have hj:i.toNat=j:=by
   rw[seqIndex_of h0 h5] at h1;exact b9 h1
  exact item_listR pl.isList h0 (by lia) (by rw[hj];simpa using ew) fin hs
 ·have hj:(i+(χ.toArray.size:Int)).toNat=j:=by
   rw[seqIndex_neg (by lia) h4] at h1;rw[a8,← hl];exact b9 h1
  exact subscriptTail_builtinR (x:=w) pl.isList.typeIs sR.lookup
   (wpAny_getItem_list_neg (Q:=λr s'=>r=w/\EP X π σ Q r s') pl.isList (by lia) (by rw[a8]<;>lia) (by lia) (by rw[hj];simpa using ew) ⟨rfl,fin⟩) hs
theorem acD:IxR X (afP X.K):=by
 intro value slice π s σ H x y v u Q I rx ry h hs;obtain⟨p,xs,i,z,rfl,rfl,hq,he,q⟩:=h;cases rx;obtain⟨t,rfl⟩:=ry;obtain⟨χ,r,pl,hz⟩:=I.tuple hq;refine Ud (Hy he) λj h1 h2 h3 h4 h5=>?_;obtain⟨w,ew,rw'⟩:=r.get h2;have hl:=r.length;have hn:=zN;have fin:EP X π σ Q w s:=⟨z,H,I,rw',q⟩;exact subscriptTail_builtinR (x:=w) pl.typeIs slot_tuple_getitem.lookup
  (getItem_tuple (j:=j) (Q:=λr s'=>r=w/\EP X π σ Q r s') pl (by lia) (by lia) (by rw[a8,← hl];exact h1) (by simpa using ew) ⟨rfl,fin⟩) hs
theorem abu:IxR X afB:=by
 intro value slice π s σ H x y v u Q I rx ry h hs;obtain⟨z,i,c,rfl,rfl,hz,he,q⟩:=h;obtain⟨t,rfl⟩:=rx;obtain⟨t',rfl⟩:=ry;refine Ud (Hy he) λj h1 h2 h3 h4 h5=>?_;have hl:z.cps.toList.length=z.length:=by simp[Str.length]
 rw[hl] at h1 h4 h5;have hn:=zN;exact tail_any (sT s z t) slot_str_getitem.lookup (getItem_str (c:=c) (by
  have e1:decide (i < -(2^63:Int))=false:=decide_eq_false (by lia);have e2:decide (i≥2^63)=false:=decide_eq_false (by lia);rw[e1,e2,Bool.or_false]) (by rw[h1];simpa using h2) ⟨.str ⟨#[c]⟩,H,I.tok _,⟨_,rfl⟩,q⟩) hs
theorem Ly (χ:List aw)(n j:Nat)(u:aw):pj (·.setIfInBounds j u) { cls:=.type "list",data:=.seq χ.toArray n }={ cls:=.type "list",data:=.seq (χ.set j u).toArray n }:=by
 simp[pj]
theorem Inv.lst (I:Inv X π σ H s)(h:H p=some (.lst xs)):
  ∃(χ:List aw) (n:Nat),Vals xs χ/\s.heap.get? p=some { cls:=.type "list",data:=.seq χ.toArray n }/\xs.length<=av:=by
 obtain⟨z,χ,n,r,e⟩:=I.hok p _ h;exact⟨χ,n,r,e,z⟩
theorem Inv.abI {s:aS}{xs ys:List V}{χ its':List aw}(I:Inv X π σ H s)(h:H p=some (.lst xs))
  (ho:s.heap.get? p=some { cls:=.type "list",data:=.seq χ.toArray n }) (hf:f { cls:=.type "list",data:=.seq χ.toArray n }={ cls:=.type "list",data:=.seq its'.toArray n' }) (r:Vals ys its') (hz:ys.length<=av) (t:Nat):
  Inv X π σ (upd H p<|.lst ys) { s with heap:=s.heap.update p f,toks:=t }:=by
 have e:(s.heap.update p f).get? p=some { cls:=.type "list",data:=.seq its'.toArray n' }:=by
  rw[dS f ho (by rw[hf]<;>rfl),hf]
 refine I.write (x:=p) (e:=p) (by rw[h];trivial) (.inl rfl) (λb u hb q=>(cf _ _<|ix hb).trans q) ⟨_,e⟩ ?_;exact⟨hz,its',n',r,e⟩
def aey:V->V->V->Hp->(Hp->Prop)->Prop:=λo i v H Q=>∃p xs k j,o=.ref p/\i=.int k/\H p=some (.lst xs)/\ixN xs.length k=some j/\Q (upd H p<|.lst<|xs.set j v)
theorem set_list:aeZ X aey:=by
 intro π s σ H o i v ov iv u Q I ro ri rv h;obtain⟨p,xs,k,j,rfl,rfl,hp,hj,q⟩:=h;cases ro;obtain⟨t,rfl⟩:=ri;refine Ae (I.lst hp) λχ n r ho hz=>?_;obtain⟨h1,h2,h3,h4⟩:=Ru hj;have hl:=r.length;have hn:=zN;have I':Inv X π σ (upd H p<|.lst<|xs.set j v) { s with heap:=s.heap.update p (pj (·.setIfInBounds j u)) }:=
  I.abI hp ho (Ly χ n j u) (r.set rv j) (by rw[List.length_set];exact hz) s.toks
 by_cases h0:0<=k
 ·have hk:k.toNat=j:=by
   rw[seqIndex_of h0 h4] at h1;exact b9 h1
  exact W.ki_setAt ho h0 (by lia) (by rw[a8,← hl];exact h4) (by rw[hk];exact⟨_,I',q⟩)
 ·have hk:(k+(χ.toArray.size:Int)).toNat=j:=by
   rw[seqIndex_neg (by lia) h3] at h1;rw[a8,← hl];exact b9 h1
  exact W.ki_setBack ho (by lia) (by rw[a8,← hl];exact h3) (by lia) (by rw[hk];exact⟨_,I',q⟩)
theorem Iz (lo hi:Option Int)(n:Nat):(kT lo hi none n).1=((HT.sIx n 0 lo:Nat):Int)/\(kT lo hi none n).2.1=((HT.sIx n n hi:Nat):Int)/\(kT lo hi none n).2.2=1:=by
 refine⟨?_,?_,rfl⟩
 ·cases lo with
  |none=>simp[kT,HT.sIx]
  |some i=>
   simp only[kT,HT.sIx,Option.getD_none,show(1:Int)>0 by decide,if_true];by_cases h:i<0
   ·simp only[h,if_true]<;>lia
   ·simp only[h,if_false]<;>lia
 ·cases hi with
  |none=>simp[kT,HT.sIx]
  |some i=>
   simp only[kT,HT.sIx,Option.getD_none,show(1:Int)>0 by decide,if_true];by_cases h:i<0
   ·simp only[h,if_true]<;>lia
   ·simp only[h,if_false]<;>lia
theorem Eo (χ:List aw)(lo hi:Option Int):slicePick χ.toArray lo hi none=((χ.drop<|HT.sIx χ.length 0 lo).take<|HT.sIx χ.length χ.length hi-HT.sIx χ.length 0 lo).toArray:=by
 obtain⟨h1,h2,h3⟩:=Iz lo hi χ.toArray.size;unfold slicePick;rw[h1,h2,h3];simp only[sliceRange_one,pick_run,a8]<;>rfl
def afR (K:a7):V->Option Int->Option Int->Hp->VK->Prop:=λx lo hi H Q=>∃a xs,x=.ref a/\SqL K H a xs/\∀p,H p=none->Q (.ref p) (upd H p<|.lst<|JX xs lo hi)
theorem Zg:SlR X (afR X.K):=by
 intro π s σ H x v vl vu lo hi sl Q I rx hs pl pu h;obtain⟨a,xs,rfl,hx,q⟩:=h;cases rx;obtain⟨χ,r,ht,hz⟩:=I.list hx;have ω:=r.length;refine⟨"list",_,sR.lookup,ht.isList.typeIs,?_⟩;refine tf ht.isList hs pl pu .none (by simp) ?_ (by rw[a8]<;>lia);rw[Eo,← ω];refine⟨.ref s.heap.objs.size,_,I.laid (t':=s.toks) (o:=.lst<|JX xs lo hi) (λb ob q=>af _ q) (aI _) ?_,rfl,q _<|I.hok.fresh<|aI _⟩;exact⟨dr (Ax xs lo hi) hz,_,0,(r.drop<|HT.sIx xs.length 0 lo).take<|HT.sIx xs.length xs.length hi-HT.sIx xs.length 0 lo,aT _ rfl⟩
theorem zf:iW X (.builtin "len") (λxs H Q=>∃p ys,xs=[.ref p]/\(SqL X.K H p ys\/SqT X.K H p ys)/\Q (.int ys.length) H):=by
 intro π s σ H xs us Q I r h;obtain⟨p,ys,rfl,hq,q⟩:=h;obtain⟨u,rfl,rx⟩:=vals1 r;cases rx;have hn:=zN;rcases hq with hq|hq
 ·obtain⟨χ,r',pl,hz⟩:=I.list hq;have ω:=r'.length;exact Calls.call_len_list pl.isList (by simp only[a8]<;>lia) ⟨.int ys.length,H,I.tok _,⟨s.toks+1,by rw[a8,ω]⟩,q⟩
 ·obtain⟨χ,r',pl,hz⟩:=I.tuple hq;have ω:=r'.length;exact len_tuple pl (by simp only[a8]<;>lia) ⟨.int ys.length,H,I.tok _,⟨s.toks+1,by rw[a8,ω]⟩,q⟩
theorem HQ:iW X (.builtin "len") (λxs H Q=>∃z,xs=[.str z]/\z.length<=av/\Q (.int z.length) H):=by
 intro π s σ H xs us Q I r h;obtain⟨z,rfl,hz,q⟩:=h;obtain⟨u,rfl,t,rfl⟩:=vals1 r;have hn:=zN;exact len_str (by lia) ⟨.int z.length,H,I.tok _,⟨_,rfl⟩,q⟩
theorem Hr:iW X (.type "list") (λxs H Q=>∃p ys,xs=[.ref p]/\(SqL X.K H p ys\/SqT X.K H p ys)/\∀l,H l=none->Q (.ref l) (upd H l<|.lst ys)):=by
 intro π s σ H xs us Q I r h;obtain⟨p,ys,rfl,hq,q⟩:=h;obtain⟨u,rfl,rx⟩:=vals1 r;cases rx;have fin:∀(χ:List aw),Vals ys χ->ys.length<=av->∀(h':Heap) (c':Nat),(∀b o',s.heap.get? b=some o'->h'.get? b=some o')->
   h'.get? s.heap.objs.size=some { cls:=.type "list",dict:=none,data:=.seq χ.toArray c',slots:=#[] }->EP X π σ Q (.ref s.heap.objs.size) { s with heap:=h' }:=λχ r' hz h' c' kp e=>
  ⟨.ref s.heap.objs.size,_,I.laid (t':=s.toks) kp (aI _)<|show cu X.prog X.w _ h' _ (.lst ys) from⟨hz,χ,c',r',e⟩,rfl,q _<|I.hok.fresh<|aI _⟩
 rcases hq with hq|hq
 ·obtain⟨χ,r',pl,hz⟩:=I.list hq;have ω:=r'.length;obtain⟨o,ho,hc,n,hd⟩:=pl.isList;exact call_list_seq p (.inl rfl) ho hc hd (λh' c' kp e=>fin χ r' hz h' c' kp e) (by simp only[a8]<;>lia)
 ·obtain⟨χ,r',pl,hz⟩:=I.tuple hq;have ω:=r'.length;obtain⟨o,ho,hc,n,hd⟩:=pl;exact call_list_seq p (.inr rfl) ho hc hd (λh' c' kp e=>fin χ r' hz h' c' kp e) (by simp only[a8]<;>lia)
theorem xr:iW X (.type "tuple") (λxs H Q=>∃p ys,xs=[.ref p]/\((SqL X.K H p ys/\∀l,H l=none->Q (.ref l) (upd H l<|.tup ys))\/(SqT X.K H p ys/\Q (.ref p) H))):=by
 intro π s σ H xs us Q I r h;obtain⟨p,ys,rfl,h⟩:=h;obtain⟨u,rfl,rx⟩:=vals1 r;cases rx;rcases h with⟨hq,q⟩|⟨hq,q⟩
 ·obtain⟨χ,r',pl,hz⟩:=I.list hq;have ω:=r'.length;refine call_tuple_list pl.isList (λh' kp=>?_) (by simp only[a8]<;>lia);have I1:Inv X π σ H { s with heap:=h' }:=I.kept (t':=s.toks) kp;have I2:Inv X π σ (upd H h'.objs.size<|.tup ys) { s with heap:=h'.push { cls:=.type "tuple",data:=.seq χ.toArray } }:=
   I1.laid (t':=s.toks) (λb o e=>af _ e) (aI _) (show cu X.prog X.w _ _ _ (.tup ys) from⟨hz,χ,r',JK.new _ _⟩)
  exact⟨.ref h'.objs.size,_,I2,rfl,q _<|I1.hok.fresh<|aI _⟩
 ·obtain⟨χ,r',pl,hz⟩:=I.tuple hq;exact call_tuple_same pl ⟨.ref p,H,I,rfl,q⟩
def tyV (K:a7)(T:String)(x:V)(H:Hp):Prop:=match x with
 | .str _=>T = "str"
 | .int _=>T = "int"
 | .ref p=>(T = "list"/\∃xs,SqL K H p xs)\/(T = "tuple"/\∃o,K.lookup p=some o/\o.cls=.type "tuple"/\o.dict=none) ∨
   (T = "dict"/\((∃ι,Rd H p<|.dK ι)\/∃T ι,Rd H p<|.dT T ι))\/(T = "set"/\∃S n,H p=some (.set S n))
 |_=>False
theorem V8 (I:Inv X π σ H s)(r:RelV x v)(ty:tyV X.K T x H):
  s.TypeIs v T/\∀a,v=.ref a->∃ob,s.heap.get? a=some ob/\ob.dict=none:=by
 cases x with
 |str z=>
  obtain⟨t,rfl⟩:=r;cases(show T = "str" from ty);exact⟨sT s z t,λ_ e=>nomatch e⟩
 |int i=>
  obtain⟨t,rfl⟩:=r;cases(show T = "int" from ty);exact⟨tj s i t,λ_ e=>nomatch e⟩
 |ref p=>
  cases r;rcases ty with⟨rfl,xs,hq⟩|⟨rfl,o,hk,hc,hd⟩|⟨rfl,hk⟩|⟨rfl,S,n,hk⟩
  ·obtain⟨χ,_,pl,_⟩:=I.list hq;refine⟨pl.isList.typeIs,λa e=>?_⟩;cases e;refine Aq pl λo n e c hd _=>?_;exact⟨o,e,hd⟩
  ·refine⟨⟨o,I.kIn p o hk,hc⟩,λa e=>?_⟩;cases e;exact⟨o,I.kIn _ o hk,hd⟩
  ·have z:∃o,s.heap.get? p=some o/\o.ExactDict:=by
    rcases hk with⟨ι,hk⟩|⟨_,ι,hk⟩
    ·obtain⟨_,_,_,_,o,_,_,e,ex,_⟩:=(show cu X.prog X.w H s.heap p (.dK ι) from hk.ok I.hok);exact⟨o,e,ex⟩
    ·obtain⟨_,_,_,_,o,_,_,e,ex,_⟩:=(show cu X.prog X.w H s.heap p (.dT _ ι) from hk.ok I.hok);exact⟨o,e,ex⟩
   obtain⟨o,e,ex⟩:=z;refine⟨⟨o,e,ex.1⟩,λa e2=>?_⟩;cases e2;exact⟨o,e,ex.2.1⟩
  ·refine aek (I.hok p _ hk) λo _ _ _ e ex _=>?_;refine⟨⟨o,e,ex.1⟩,λa e2=>?_⟩;cases e2;exact⟨o,e,ex.2.1⟩
 |_=>exact fq ty
def afQ (K:a7)(T:String)(r:V->List V->Hp->VK->Prop)(to:TE):TE:=λσ H Q=>to σ H λx H1=>tyV K T x H1/\r x [] H1 Q
def tBM (K:a7)(T:String)(r:V->List V->Hp->VK->Prop)(to:TE)(t:TA):TE:=λσ H Q=>to σ H λx H1=>tyV K T x H1/\t σ H1 λxs H2=>r x xs H2 Q
variable {o e:Expr}{es:List Expr}{to:TE}{t:TA}{name:Str}{apos ρ:Pos}{T id:String}{r:V->List V->Hp->VK->Prop}
theorem LK (pa:PlainAttrs T)(slot:Slot T name id)(hty:typeOf (.builtin id)=pure (.type "method_descriptor"))(hm:MtR X id r)(ho:PE X o to)
  (ζ:gT o name X.env (eval o X.env)=eval o X.env:=by rfl) (ν:(apos.endLine==ρ.line)=true:=by rfl):PE X (.Call (.Attribute o name apos) [] [] ρ) (afQ X.K T r to):=by
 intro π s σ H Q I h;refine wpAny_Call_method0_late ζ ν<|thn (ho π s σ H _ I h) λv s1 hE=>?_;refine Aq hE λx H1 I1 r1 ty q1=>?_;obtain⟨h1,h2⟩:=V8 I1 r1 ty;exact⟨T,id,pa,slot,hty,h1,h2,mT rfl<|PySem.evalArgs_none<|hm π s1 σ H1 x [] v [] Q I1 r1 .nil q1⟩
theorem QF (pa:PlainAttrs T)(slot:Slot T name id)(hty:typeOf (.builtin id)=pure (.type "method_descriptor"))(hm:MtR X id r)(ho:PE X o to)(ha:PA X (e::es) t)
  (ζ:gT o name X.env (eval o X.env)=eval o X.env:=by rfl)
  (θ:((hV ρ<|ag (e::es) X.env).all (λx=>!x.1)&&(AO ρ<|qf [] X.env).all (λx=>x.1.isSome)
   && decide ((e::es).length+([]:List qh).length+(if([]:List qh).isEmpty then 0 else 1)<30))=true:=by rfl)
  (ν:(apos.endLine==ρ.line)=true:=by rfl) (hs:ag (e::es) X.env=(false,eval e X.env)::ag es X.env:=by rfl) (hplain:(hV ρ<|ag es X.env).any (·.1)=false:=by rfl):
  PE X (.Call (.Attribute o name apos) (e::es) [] ρ) (tBM X.K T r to t):=by
 intro π s σ H Q I h;refine wpAny_Call_method_late ζ θ ν rfl<|thn (ho π s σ H _ I h) λv s1 hE=>?_;refine Aq hE λx H1 I1 r1 ty q1=>?_;obtain⟨h1,h2⟩:=V8 I1 r1 ty;refine⟨T,id,pa,slot,hty,h1,h2,?_⟩;have hA:=ha ρ π s1 σ H1 _ I1 q1;rw[hs] at hA ⊢;refine mT (by show(false||(hV ρ<|ag es X.env).any (·.1))=false;rw[hplain]<;>rfl)<|oP ?_;exact thn hA λus s2 hE=>xq2 hE λvs H2 I2 r2 q2=>hm π s2 σ H2 x vs v us Q I2 r1 r2 q2
end
def MtM (X:Cx)(id:String)(r:V->List V->Hp->VK->Prop):Prop:=
 ∀(π:Zp) (s:aS) (σ:St) (H:Hp) (x:V) (xs:List V) (v:aw) (us:List aw) (Q:VK),Inv X π σ H s->RelV x v->Vals xs us->r x xs H Q->
  bp (b6 X.prog X.w) X.A (call (.builtin id) (v::us)) (EP X π σ Q) X.xe s
theorem Vals.one:∀{x:V} {us:List aw},Vals [x] us->∃u,us=[u]/\RelV x u
 |_,_,.cons r .nil=>⟨_,rfl,r⟩
theorem Vals.zero:∀{us:List aw},Vals [] us->us=[]
 |_,.nil=>rfl
theorem Vals.dropLast (h:Vals xs us):Vals xs.dropLast us.dropLast:=by
 induction h with
 |nil=>exact .nil
 |cons r t ih=>
  cases t with
  |nil=>exact .nil
  |cons q t'=>exact .cons r ih
theorem Vals.reverse (h:Vals xs us):Vals xs.reverse us.reverse:=by
 induction h with
 |nil=>exact .nil
 |cons r t ih=>rw[kl,kl];exact Vals.append ih<|.cons r .nil
theorem NQ (l:List α):l.eraseIdx (l.length-1)=l.dropLast:=by
 induction l with
 |nil=>rfl
 |cons a r ih=>
  cases r with
  |nil=>rfl
  |cons b r=>
   have e:(a::b::r).length-1=((b::r).length-1)+1:=by
    have h1:(a::b::r).length=r.length+2:=rfl;have h2:(b::r).length=r.length+1:=rfl
    lia
   rw[e,List.eraseIdx_cons_succ,ih]
   all_goals rfl
section
variable {X:Cx}{π:Zp}{σ:St}{H:Hp}{s:aS}{l b:Addr}{xs ys zs:List V}
theorem Inv.abK {χ its':List aw}(I:Inv X π σ H s)(hH:H l=some (.lst xs))
  (e:s.heap.get? l=some { cls:=.type "list",data:=.seq χ.toArray n }) (hf:f χ.toArray=its'.toArray) (hv:Vals ys its') (hz:ys.length<=av):
  Inv X π σ (upd H l<|.lst ys) { s with heap:=s.heap.update l<|pj f,toks:=t' }:=by
 have q:=PySem.IsL.update e f;rw[hf] at q;refine I.write (x:=l) (e:=l) (by rw[hH];exact trivial) (.inl rfl) (λb' u hb hu=>(cf s.heap (pj f)<|ix hb).trans hu) ⟨_,q⟩ ?_;exact⟨hz,its',_,hv,q⟩
theorem Inv.Zi (I:Inv X π σ H s)(hH:H l=some (.lst xs)):xs.length<=av/\∃(χ:List aw) (n:Nat),Vals xs χ/\xs.length=χ.length/\s.heap.get? l=some { cls:=.type "list",data:=.seq χ.toArray n }:=by
 obtain⟨z,χ,n,r,e⟩:=I.hok l _ hH;exact⟨z,χ,n,r,r.length,e⟩
theorem WM (h:n<=av):mh n=false:=by
 unfold mh;exact decide_eq_false<|by lia
end
section
variable {X:Cx}
def Za:V->List V->Hp->VK->Prop:=λx vs H Q=>∃l xs y,x=.ref l/\vs=[y]/\H l=some (.lst xs)/\xs.length<av/\Q .non (upd H l<|.lst<|xs++[y])
theorem zO:MtM X "list.append" Za:=by
 intro π s σ H x vs v us Q I rx rv h;obtain⟨l,xs,y,rfl,rfl,hH,hz,q⟩:=h;cases rx;obtain⟨u,rfl,ru⟩:=rv.one;obtain⟨z,χ,n,r,hl,e⟩:=I.Zi hH;refine call_meets F.slot_list_append ⟨_,e,rfl⟩ F.entry_list_append (F.args_list_append_2 _ _) (PySem.list_append l χ.toArray n u (by rw[a8];lia)) ⟨e,?_⟩;refine⟨.non,_,I.abK (its':=χ++[u]) hH e (by simp) (r.append<|.cons ru .nil) ?_,rfl,q⟩;rw[bt,eM]
 lia
def YF:V->List V->Hp->VK->Prop:=λx vs H Q=>∃l b xs zs,x=.ref l/\vs=[.ref b]/\H l=some (.lst xs)/\H b=some (.lst zs)/\xs.length+zs.length<=av/\Q .non (upd H l<|.lst<|xs++zs)
theorem RM:MtM X "list.extend" YF:=by
 intro π s σ H x vs v us Q I rx rv h;obtain⟨l,b,xs,zs,rfl,rfl,hH,hB,hz,q⟩:=h;cases rx;obtain⟨u,rfl,ru⟩:=rv.one;cases ru;obtain⟨z,χ,n,r,hl,e⟩:=I.Zi hH;obtain⟨z2,its2,n2,r2,hl2,e2⟩:=I.Zi hB;have hsz:χ.toArray.size+its2.toArray.size<=av:=by rw[a8,a8];lia
 have hlong:¬(!χ.toArray.isEmpty&&mh (χ.toArray.size+its2.toArray.size))=true:=by
  rw[WM hsz,Bool.and_false];exact bb
 refine call_meets F.slot_list_extend ⟨_,e,rfl⟩ F.entry_list_extend (F.args_list_extend_2 _ _)
  (AutoSeq1.list_extend_list_list_0 l χ.toArray n b its2.toArray n2 hlong (by rw[a8];lia)<|by lia) ⟨e,e2,?_⟩
 refine⟨.non,_,I.abK (its':=χ++its2) hH e (by simp) (r.append r2) ?_,rfl,q⟩;rw[bt]
 lia
def afp:V->List V->Hp->VK->Prop:=λx vs H Q=>∃l xs y,x=.ref l/\vs=[]/\H l=some (.lst xs)/\xs[xs.length-1]? = some y/\Q y (upd H l<|.lst xs.dropLast)
theorem VD:MtM X "list.pop" afp:=by
 intro π s σ H x vs v us Q I rx rv h;obtain⟨l,xs,y,rfl,rfl,hH,hy,q⟩:=h;cases rx;have hus:=rv.zero;subst hus;obtain⟨z,χ,n,r,hl,e⟩:=I.Zi hH;obtain⟨u,hu,ru⟩:=r.get hy;have hy':χ.toArray[χ.toArray.size-1]? = some u:=by
  show χ.toArray[χ.length-1]? = some u;rw[← Array.getElem?_toList,← hl];exact hu
 refine call_meets F.slot_list_pop ⟨_,e,rfl⟩ F.entry_list_pop (F.args_list_pop_1 _) (MeetsSeq.list_pop_last l χ.toArray n u hy' (by rw[a8];lia)) ⟨e,?_⟩;refine⟨y,_,I.abK (its':=χ.dropLast) hH e ?_ r.dropLast ?_,ru,q⟩
 ·show χ.toArray.eraseIdxIfInBounds (χ.toArray.size-1)=χ.dropLast.toArray;rw[a8,List.eraseIdxIfInBounds_toArray,NQ]
 ·rw[List.length_dropLast]
  lia
end
section
variable {prog:bq}{w:dA}{A:dP}{E:Zl}{s:aS}
end
section
end
end L2
namespace Att
open PySem PySem.W PySem.Calls PyProof.Rows
theorem Ay:∀(ns:List Int) (vs:List aw),WellAll P h vs (ns.map WData.int)->IntsAre vs ns:=by
 intro ns;induction ns with
 |nil=>
  intro vs w;rw[r6] at w;cases w;exact .nil
 |cons n ns ih=>
  intro vs w;rw[aE] at w;cases w with
  |cons a b=>
   cases a;exact .cons _ _<|ih _ b
theorem RJ {l:OpenLaw}(hn:l.most=some n){P:Params}{h:Heap}{args:List WData}{vals:List aw}
  (hpre:l.row.toRowW.claim.pre args=true) (hwl:WellAll P h vals args):
  ∃a vs ns,vals=[b0 a]/\args=[WData.list<|ns.map WData.int]/\h.get? a=some { cls:=.type "list",data:=.seq vs.toArray }/\IntsAre vs ns/\ns.length<=n:=by
 have hsh:WShape.hasAll [] args [.list .int]=true:=(pre_splitW hpre).1;have hc:l.pre.holds [] { args:=args }=true:=(pre_splitW hpre).2;obtain⟨d,r,rfl,h1,h2⟩:=hasAllW_cons hsh;obtain rfl:=hasAllW_nil h2;obtain⟨xs,rfl,h3⟩:=hasW_list h1;obtain⟨ns,rfl⟩:=items_int h3;have ω:ns.length<=n:=by
  unfold OpenLaw.pre at hc;have h4:(WTm.not<|.lt (.lit<|.int (n:Int))<|.len<|.arg 0).holds [] { args:=[.list<|ns.map .int] }=true:=by
   have h4:=(holds_andW hc).1;rw[hn] at h4;exact h4
  have h5:=condW_of h4<|w_not<|w_lt w_lit<|w_len_list<|w_arg rfl;rw[cp] at h5;refine Nat.le_of_not_lt λq=>?_;have q':(n:Int)<((ns.length:Nat):Int):=by lia
  first
   |(rw[decide_eq_true q'] at h5;exact absurd h5<|by decide)
   |(simp at h5;lia)
 cases hwl with
 |cons w1 w2=>
  cases w2;cases w1 with
  |list ho hall=>exact⟨_,_,ns,rfl,rfl,ho,Ay ns _ hall,ω⟩
theorem RP (l:OpenLaw)(args:List WData):l.row.toRowW.claim.post args (.bool true) args=true:=
 postW_of (r:=l.row.toRowW) (X:=(true==true))
  (show WShape.has [] (.bool true) .bool=true by first|rfl|decide|simp[WShape.has,WShape.arms,WShape.armsAll])
  (show(WTm.eq .res<|.lit<|.bool true).value [] { args:=args,res:=some<|.bool true,after:=args }=some (.bool<|true==true) from w_eq_bool (w_res rfl) w_lit) rfl
theorem JB {l:OpenLaw}{d:DefRec}
  (hn:l.most=some n) (hdf:d.params.defaults=[])
  (call:∀(w:dA) (s₀ s₁:aS) (mg mb:Zaa) (fa:Addr) (o:Obj) (pm cd doc:aw) (a:Addr) (vs:List aw) (ns:List Int),
   Ground q loose [] XP w s₀ mg mb s₁.heap->YP w s₁.heap->
   s₁.heap.get? fa=some o->o.data=.func (docDef d.name d.params d.body d.scope pm cd doc)->s₁.heap.CodeRec cd d.name->mg d.name=some (.ref fa)->
   s₁.heap.get? a=some { cls:=.type "list",data:=.seq vs.toArray }->IntsAre vs ns->ns.length<=n->s₁.gens=#[]->
   xw (b6 l.prog w) A4 (.call (.ref fa) ⟨[.ref a],[]⟩) (λr s'=>r=.ok (.ret<|.bool true)/\OldK s₁.heap s'.heap/\s'.os=s₁.os/\uj s'.gens) s₁):
  WalkO q loose XP YP l.row.toRowW d [] (λf vs=>BU f vs):=by
 intro w s₀ s₁ mg mb G Y fa o pm cd doc dV kV ho hd hcd hD hmg hg args vals as hpre hlay hrd hwl hlo;obtain rfl:dV=.none:=Dflts.none hD hdf;obtain rfl:kV=.none:=Dflts.noKw hD;obtain⟨a,vs,ns,rfl,rfl,hobj,hints,ω⟩:=RJ hn hpre hwl;refine enter_call<|nV (call w s₀ s₁ mg mb fa o pm cd doc a vs ns G Y ho (fd_plain hd) hcd hmg hobj hints ω hg) λr s' hq=>?_;obtain⟨rfl,h2,h3,h4⟩:=hq;exact⟨.inl ⟨.bool true,.bool true,[],rfl,λ_=>rfl,.bool true,RP l _,λ_=>⟨tm,λ_ hm=>(nomatch hm)⟩⟩,h2,h3,h4⟩
section
variable {prog:bq}{w:dA}{A:dP}{E:Zl}{s:aS}{K:Frag}
end
end Att
namespace L2
open PySem PySem.Spec PyProof.Rows
theorem Gd:∀{vs:List aw} {ns:List Int},IntsAre vs ns->Vals (ns.map V.int) vs
 |_,_,.nil=>.nil
 |_,_,.cons n t h=>.cons ⟨t,rfl⟩<|Gd h
def Only (H:Hp):Prop:=∀b,H b=none\/∃o xs,H b=some (.frz o<|.lst xs)
theorem Wb {K:a7}{s₁:aS}{vs:List aw}{ns:List Int}
  (KX:K.In s₁.heap) (hns:s₁.heap.Ns cE mg) (hb:s₁.heap.Ns builtinsNs mb) (hbb:∀x:Str,x≠"__name__"->mb x=cc x) (hlim:s₁.heap.NoLimit) (hg:s₁.gens=#[])
  (ha:s₁.heap.get? a=some { cls:=.type "list",data:=.seq vs.toArray }) (hi:IntsAre vs ns) (hl:ns.length<=av) (hr:fZ k A4)
  (F:∀base:Heap,K.In base->base.Ns cE mg->oM P w K mg base CX k fa fd [x] sp) (hbind:∀(s:aS) (u:aw),A2 s fd ⟨[u],[]⟩ [(x,u)])
  (hsp:∀H:Hp,Only H->SqL K H a (ns.map V.int)->sp [.ref a] H (λv _=>v=.bl true) λ_ _ _=>False)
  (hCX:∀H e s',CX [] H s₁ (λ_ _ _=>False) e s'->False):
  xw (b6 P w) A4 (.call (.ref fa) ⟨[.ref a],[]⟩) (λr s'=>r=.ok (.ret<|.bool true)/\OldK s₁.heap s'.heap/\s'.os=s₁.os/\uj s'.gens) s₁:=by
 have rv:=Gd hi;have lenV:=hi.length;have core:∀H:Hp,Only H->SqL K H a (ns.map V.int)->HOk P w H s₁.heap->(∀b,H b≠none->b=a)->(H a≠none->K.lookup a=none)->
   xw (b6 P w) A4 (.call (.ref fa) ⟨[.ref a],[]⟩) (λr s'=>r=.ok (.ret<|.bool true)/\OldK s₁.heap s'.heap/\s'.os=s₁.os/\uj s'.gens) s₁:=by
  intro H hO hS hok hA hK;have base_of:∀{b:Addr} {o:Obj},s₁.heap.get? b=some o->H b=none->(Ih s₁.heap H).get? b=some o:=λe n=>WR e n;have noA:∀{b:Addr} {o:Obj} {es:Array DictEntry} {ep:Nat},s₁.heap.get? b=some o->o.data=.dict es ep->H b=none:=λ{b o es ep} e d=>by
   cases q:H b with
   |none=>rfl
   |some u=>
    have e':b=a:=hA b (by rw[q];simp);subst e';rw[ha] at e;cases e;have d':Data.seq vs.toArray _=Data.dict es ep:=d;cases d'
  have nsK:∀{b:Addr} {m:Zaa},s₁.heap.Ns b m->(Ih s₁.heap H).Ns b m:=λ{b m} ⟨o,es,ep,e,d,r⟩=>⟨o,es,ep,base_of e<|noA e d,d,r⟩;have hKb:K.In (Ih s₁.heap H):=λb o e=>base_of (KX b o e) (by
   cases q:H b with
   |none=>rfl
   |some u=>
    have e':b=a:=hA b (by rw[q];simp);subst e';rw[hK (by rw[q];simp)] at e;cases e)
  have hM:Mod K mg (Ih s₁.heap H):=⟨hKb,nsK hns,⟨mb,nsK hb,hbb⟩,let⟨mc,h1,h2⟩:=hlim;⟨mc,nsK h1,h2⟩⟩;have e0:Et P w K mg (Ih s₁.heap H) A4 [] s₁ H:=⟨rfl,hM,λb o e=>Zx e,BB<|S5 _ _,trivial,λb hb=>absurd (show b∈([]:List Addr) from hb) (by simp),hok,.of_eq hg⟩;refine nV ((F _ hKb<|nsK hns).run A4 [] s₁ H ⟨[.ref a],[]⟩ [.ref a] [.ref a] _ _ hr e0 (hbind s₁<|.ref a) (.cons rfl .nil)<|hsp H hO hS) λr s' h=>?_;cases r with
  |error e=>exact(hCX H e s' h).elim
  |ok fl=>
   cases fl with
   |next=>exact fq h
   |brk=>exact fq h
   |cont=>exact fq h
   |ret u=>
    refine Ke h λv H' os bare un hok' r' q=>?_;have q':v=.bl true:=q;subst q';obtain rfl:u=ng true:=r';refine⟨rfl,OldK.of_keep λb o e=>?_,os,bare⟩;cases q:H b with
    |none=>exact un.keep b o e q (by intro z;exact absurd (show b∈([]:List Addr) from z) (by simp)) (by simp)
    |some u=>
     rcases hO b with z|⟨ob,xs,z⟩
     ·rw[q] at z;cases z
     ·have z2:=un.frzs b ob _ z;obtain⟨e1,_⟩:=hok b _ z;obtain⟨e2,_⟩:=hok' b _ z2;rw[e] at e1;cases e1;exact e2
 cases hk:K.lookup a with
 |some o=>
  have e:=KX a o hk;rw[ha] at e;cases e;refine core (λ_=>none) (λ_=>.inl rfl) (.inr ⟨_,vs.toArray,_,hk,rfl,rfl,rfl,by rw[a8,lenV];exact hl,by simpa using rv⟩) (λb u z=>by have z':(none:Option HO)=some u:=z;cases z') (λb z=>absurd rfl z) λz=>absurd rfl z
 |none=>
  refine core (λb=>if b=a then some (.frz { cls:=.type "list",data:=.seq vs.toArray }<|.lst<|ns.map V.int) else none) (λb=>?_) (.inl<|.inr ⟨{ cls:=.type "list",data:=.seq vs.toArray },if_pos rfl⟩) (λb u z=>?_) (λb z=>?_) λ_=>hk
  ·by_cases hb:b=a
   ·exact .inr ⟨_,_,if_pos hb⟩
   ·exact .inl<|if_neg hb
  ·by_cases hb:b=a
   ·have z':=(if_pos hb).symm.trans z;cases z';subst hb;exact⟨ha,by rw[cp];exact hl,vs,_,rv,ha⟩
   ·have z':=(if_neg hb).symm.trans z;cases z'
  ·by_cases hb:b=a
   ·exact hb
   ·exact absurd (if_neg hb) z
theorem XS {l:W.OpenLaw}{n k:Nat}{q:bq}{loose:List Str}{XP:(Zaa)->Heap->Prop}{YP:dA->Heap->Prop}{d:DefRec}{K:Params->a7}{CX:dA->CXT}{sp:dA->Sp}{x:Str}
  (hn:l.most=some n) (hn2:n<=av) (hdf:d.params.defaults=[]) (hr:fZ k A4)
  (hY:∀(w:dA) (h:Heap),YP w h->(K w.params).In h)
  (F:∀(w:dA) (mg:Zaa) (fa:Addr) (h:Heap),(K w.params).In h->h.Ns cE mg->mg d.name=some (.ref fa)->
   ∃fd:gN,(∀(s:aS) (u:aw),A2 s fd ⟨[u],[]⟩ [(x,u)])/\
    ∀base:Heap,(K w.params).In base->base.Ns cE mg->oM l.prog w (K w.params) mg base (CX w) k fa fd [x] (sp w))
  (hsp:∀(w:dA) (H:Hp) (a:Addr) (ns:List Int),ns.length<=n->Only H->SqL (K w.params) H a (ns.map V.int)->sp w [.ref a] H (λv _=>v=.bl true) λ_ _ _=>False)
  (hCX:∀(w:dA) (H:Hp) (s:aS) (e:aw) (s':aS),CX w [] H s (λ_ _ _=>False) e s'->False):
  W.WalkO q loose XP YP l.row.toRowW d [] (λf vs=>BU f vs):=by
 refine Att.JB hn hdf λw s₀ s₁ mg mb fa o pm cd doc a vs ns G Y ho hd hcd hmg hobj hints ω hg=>?_;have KX:=hY w _ Y;obtain⟨fd,hb,hF⟩:=F w mg fa _ KX G.T.g hmg;exact Wb KX G.T.g G.T.b G.T.builtins G.T.nolimit hg hobj hints (dr ω hn2) hr hF hb (λH hO hS=>hsp w H a ns ω hO hS) λH e s'=>hCX w H s₁ e s'
noncomputable def qe (s:Stmt):Arguments:=match s with
 | .FunctionDef _ a _ _ _ _ _ _ _ _=>a
 |_=>{ posonlyargs:=[],args:=[],vararg:=none,kwonlyargs:=[],kw_defaults:=[],kwarg:=none,defaults:=[] }
def gU (s:Stmt):List Stmt:=match s with
 | .FunctionDef _ _ b _ _ _ _ _ _ _=>b
 |_=>[]
noncomputable def aF (s:Stmt):sj:=match s with
 | .FunctionDef _ _ _ _ _ _ sc _ _ _=>sc
 |_=>{ kind:=.function,names:=[],isGenerator:=false,isCoroutine:=false }
abbrev E0:XK:=λ_ _ _=>False
structure Fun (K:a7)(x qual:Str)(st:Stmt)(f:Addr)(fd:gN):Prop where
 ex:∃(oc:aw) (od:Option Addr) (kV doc pm:aw) (an:Option Addr) (cdv ct:aw) (osl:Array (Option aw)),
  fd=v3 x qual (qe st) (gU st) (aF st) .none kV doc pm an cdv ct/\K.lookup f=some ⟨oc,od,.func fd,osl⟩/\AK K cdv qual=true
 kp:la K (.ref f)=true
section
variable {P:bq}{w:dA}{K:a7}{mg:Zaa}{base:Heap}
theorem Fun.binds {x qual:Str}{st:Stmt}{f:Addr}{fd:gN}{ps:List Str}(F:Fun K x qual st f fd)
  (h:∀(kV doc pm:aw) (an:Option Addr) (cdv ct:aw) (us:List aw),us.length=ps.length->bindArgs (v3 x qual (qe st) (gU st) (aF st) .none kV doc pm an cdv ct) ⟨us,[]⟩=pure (ps.zip us)):Binds K fd ps []:=by
 obtain⟨oc,od,kV,doc,pm,an,cdv,ct,osl,rfl,lk,hcd⟩:=F.ex;exact .all<|h kV doc pm an cdv ct
theorem T8 {x qual:Str}{st:Stmt}{f:Addr}{oc:aw}{od an:Option Addr}{osl:Array (Option aw)}{kV doc pm cdv ct:aw}(l:K.lookup f=some ⟨oc,od,.func<|v3 x qual (qe st) (gU st) (aF st) .none kV doc pm an cdv ct,osl⟩)
  (c:AK K cdv qual=true) (k:la K (.ref f)=true):Fun K x qual st f (v3 x qual (qe st) (gU st) (aF st) .none kV doc pm an cdv ct):=⟨⟨oc,od,kV,doc,pm,an,cdv,ct,osl,rfl,l,c⟩,k⟩
end
section
end
def aM (H H':Hp):Prop:=∀b o,H b=some o->H' b=some o
theorem aM.refl (H:Hp):aM H H:=λ_ _ h=>h
theorem aM.trans (a:aM H H1)(b:aM H1 H2):aM H H2:=λc o h=>b c o<|a c o h
theorem aM.free (e:aM H H'){l:Addr}(h:H' l=Option.none):H l=Option.none:=by
 cases q:H l with
 |none=>rfl
 |some o=>
  rw[e l o q] at h;cases h
end L2
set_option maxHeartbeats 4000000
namespace Hd
open PySem PySem.Spec PyProof.Rows L2
abbrev St:=L2.St
theorem MK (h:n<2^k)(hk:0<k):n.log2<k:=by
 by_cases z:n=0
 ·rw[z];exact hk
 ·exact(Nat.log2_lt z).mpr h
@[irreducible] def lmM:Nat:=2^60000
@[irreducible] def lmD:Nat:=2^8900
theorem U0:lmM=2^60000:=by unfold lmM;rfl
theorem Mx:lmD=2^8900:=by unfold lmD;rfl
theorem bits_le (h:i.natAbs<lmM):iO i<=60000:=by
 unfold iO;split
 ·exact eW _
 ·rw[U0] at h;exact MK (k:=60000) h<|by decide
def ael (_ j:Int):Prop:=j≠0/\j.natAbs<lmD
def Vl (i j:Int):Prop:=i.natAbs<lmM/\j.natAbs<lmM
theorem Vl.ok (h:Vl i j):IntMulOk i j:=by
 have h1:=bits_le h.1;have h2:=bits_le h.2;have hb:bitsLine=134217728:=rfl;have z:xB (iO i+iO j)=false:=by
  unfold xB;refine decide_eq_false ?_
  lia
 unfold IntMulOk;rw[z]
 simp
section
theorem Y6 {i:Int}(h:i.natAbs<2^62):iO i<=64:=by
 unfold iO;split
 ·exact eW _
 ·have:=MK h (by decide)
  omega
theorem YZ:OpR X (hJ .Mult) (rI (λ_ j=>j.natAbs<2^62) λi j=>.int<|i*j):=opI λ_ _ _ _ _ _ _ hc q=>mul_int q<|IntMulOk.of_right<|Y6 hc
theorem W6:OpR X (hJ .FloorDiv) (rI ael λi j=>.int<|i.fdiv j):=
 opI λ_ _ _ _ _ _ _ hc q=>floordiv_int hc.1 q<|.inl<|PyProof.noPylong_of_log2<|br (MK (k:=8900) (Mx▸hc.2)<|by decide)<|by decide
theorem Yp:OpR X (hJ .Mult) (rI Vl λi j=>.int<|i*j):=opI λ_ _ _ _ _ _ _ hc q=>mul_int q hc.ok
end
mutual
inductive DV (K:a7)(H:Hp):V->oQ->Prop where
 |non:DV K H .non .none
 |bl (b:Bool):DV K H (.bl b) (.bool b)
 |int (i:Int):DV K H (.int i) (.int i)
 |str (x:Str):DV K H (.str x) (.str x)
 |tup {a:Addr} {xs:List V} {ds:List oQ}:SqT K H a xs->DVs K H xs ds->DV K H (.ref a) (.tuple ds)
 |lst {a:Addr} {xs:List V} {ds:List oQ}:SqL K H a xs->DVs K H xs ds->DV K H (.ref a) (.list ds)
inductive DVs (K:a7)(H:Hp):List V->List oQ->Prop where
 |nil:DVs K H [] []
 |cons {v:V} {vs:List V} {d:oQ} {ds:List oQ}:DV K H v d->DVs K H vs ds->DVs K H (v::vs) (d::ds)
end
section
mutual
theorem DV.reads (I:Inv X π σ H s):∀{v:V} {d:oQ} {u:aw},DV X.K H v d->RelV v u->∃as,Reads s.heap u d as
 |_,_,u,.non,r=>by cases(show u=eP from r);exact⟨_,.none⟩
 |_,_,u,.bl b,r=>by cases(show u=ng b from r);exact⟨_,.bool b⟩
 |_,_,u,.int i,r=>by obtain⟨t,e⟩:=(show ∃t,u=AB i t from r);subst e;exact⟨_,.int i t⟩
 |_,_,u,.str x,r=>by obtain⟨t,e⟩:=(show ∃t,u=AD x t from r);subst e;exact⟨_,.str x t⟩
 |_,_,u,.tup (a:=a) h hs,r=>by
  cases(show u=b0 a from r);obtain⟨χ,rv,⟨o,ho,hc,n,hd⟩,_⟩:=I.tuple h;obtain⟨as,ra⟩:=DVs.reads I hs rv;exact⟨as,.tuple ho hc hd<|by simpa using ra⟩
 |_,_,u,.lst (a:=a) h hs,r=>by
  cases(show u=b0 a from r);obtain⟨χ,rv,⟨o,n,ho,hc,_,hd⟩,_⟩:=I.list h;obtain⟨as,ra⟩:=DVs.reads I hs rv;exact⟨a::as,.list ho hc hd<|by simpa using ra⟩
theorem DVs.reads (I:Inv X π σ H s):∀{vs:List V} {ds:List oQ} {us:List aw},DVs X.K H vs ds->Vals vs us->∃as,ReadsAll s.heap us ds as
 |_,_,_,.nil,.nil=>⟨[],.nil⟩
 |_,_,_,.cons h hs,.cons r rs=>by
  obtain⟨as,ra⟩:=DV.reads I h r;obtain⟨bs,rb⟩:=DVs.reads I hs rs;exact⟨as++bs,.cons ra rb⟩
end
end
section
def afq (K:a7):R2:=λx y H Q=>∃d e,DV K H x d/\DV K H y e/\gL d=true/\gL e=true/\Q (.bl<|d5 d e) H
def afU (K:a7):R2:=λx y H Q=>∃d e,DV K H x d/\DV K H y e/\gL d=true/\gL e=true/\Q (.bl<|!PyData.eqv d e) H
theorem acG (hu:X.A.units+64<pE):OpR X (fR .Eq) (afq X.K):=by
 intro π s σ H x y v u Q I rx ry h;refine xn h λd e hd he sd se q=>?_;obtain⟨as,ra⟩:=hd.reads I rx;obtain⟨bs,rb⟩:=he.reads I ry;exact eq_dataH ra rb sd se hu<|cU I q rfl
theorem ace (hu:X.A.units+64<pE):OpR X (fR .NotEq) (afU X.K):=by
 intro π s σ H x y v u Q I rx ry h;refine xn h λd e hd he sd se q=>?_;obtain⟨as,ra⟩:=hd.reads I rx;obtain⟨bs,rb⟩:=he.reads I ry;exact ne_dataH ra rb sd se hu<|cU I q rfl
end
section
noncomputable def XJ:V->Option aw
 | .ty n=>some<|.type n
 | .ref a=>some<|.ref a
 |_=>none
theorem Jq (e:XJ c=some cv)(r:RelV c u):u=cv:=by
 cases c with
 |ty n=>cases e;exact r
 |ref a=>cases e;exact r
 |_=>cases e
end
section
end
def Tr (B:Heap)(e:Addr)(o:Obj)(us:Array aw)(fl:aw)(h:Heap):Prop:=
 1<us.size/\∃T q ts,h.get? e=some { o with data:=.fields (us.setIfInBounds 1<|.ref T) }/\B.get? T=none/\T≠e/\h.get? T=some q/\q.data=.fields ts/\ts[3]? = some fl
def Fy (B:Heap)(l:List Env)(e:Addr)(o:Obj)(us:Array aw)(fl:aw)(h:Heap):Prop:=B.StaysIn h/\B.get? e=none/\h.FunFrames B l/\Tr B e o us fl h
section
variable {M:Model}{A:dP}{E:Zl}{s:aS}{B:Heap}{env:Env}{l:List Env}{L e:Addr}{o:Obj}{us vs:Array aw}{Q:Unit->aS->Prop}{fl:aw}
theorem Wj {head:aw}{nx:Bool}(hA:A.frames=some (env::l))(hf:env.frame=some L)(hl:s.heap.FunFrames B (env::l))(he:s.heap.get? e=some { o with data:=.fields us })(hz:1<us.size)(kb:B.StaysIn s.heap)(hn:B.get? e=none)
  (q:∀h',Fy B (env::l) e o us (xt L) h'->s.heap.UpToSlots h'->Q () { s with heap:=h' }):
  bp M A (do let a←frameOf env;let pl←entryPlaceOf L nx;let b←zI head a .none (xt L) .none pl;setField (.ref e) 1 b) Q E s:=by
 have ne:e∉(env::l).filterMap (·.frame):=λz=>by
  obtain⟨_,x,hx,nf⟩:=hl.mem z;rw[he] at hx;cases hx;exact nf us rfl
 refine ae<|wpAny_frameOf_fun hA hl hf λh1 k1=>ae<|wpAny_entryPlaceOf λpl hp=>?_;unfold zI newFields;refine ae<|eD ?_<|hp.sizeOk5 _ _ _ _ _;have e1:=(k1.2.1 e ne).trans he;have b1:B.StaysIn h1:=λb x hb=>(k1.2.1 b λz=>by rw[(hl.mem z).1] at hb;cases hb).trans (kb b x hb);refine kM (af _ e1) rfl hz<|q _ ?_ ?_
 all_goals
  have te:h1.objs.size≠e:=nN<|ay e1
 ·refine⟨λb x hb=>?_,hn,hl.of_keeps λb x hb nf=>?_,hz,h1.objs.size,_,_,dS _ (af _ e1) rfl,b1.fresh,te,(cf _ _ te.symm).trans<|aT h1 rfl,rfl,?_⟩
  ·exact(cf _ _ λz=>by rw[z,hb] at hn;cases hn).trans (af _<|b1 b x hb)
  ·obtain⟨sl,z⟩:=k1.2.2 b x hb;exact⟨_,(cf _ _ λw=>by rw[← w,he] at hb;cases hb;exact nf us rfl).trans (af _ z),rfl⟩
  ·rcases hp with rfl|⟨_,_,_,_,_,_,_,rfl⟩<;>simp
 ·intro b x hb nf;obtain⟨sl,z⟩:=k1.2.2 b x hb;exact⟨sl,(cf _ _ λw=>by rw[← w,he] at hb;cases hb;exact nf us rfl).trans (af _ z)⟩
theorem af0 {a b:aw}:(us.setIfInBounds 1 a).setIfInBounds 1 b=us.setIfInBounds 1 b:=by simp
theorem WK {x:aw}(g:Fy B l e o us fl s.heap):∀T q ts,s.heap.get? T=some q->q.data=.fields ts->ts[3]? = some fl->B.get? T=none->T≠e->s.heap.get? e=some { o with data:=.fields (us.setIfInBounds 1<|.ref T) }->
  Fy B l e o us x (s.heap.update T<|kD (·.setIfInBounds 3 x))/\s.heap.UpToSlots (s.heap.update T<|kD (·.setIfInBounds 3 x)):=by
 intro T q ts hT hd h3 hb ne he;have ot:∀b,b≠T->(s.heap.update T<|kD (·.setIfInBounds 3 x)).get? b=s.heap.get? b:=λb z=>cf _ _ z.symm;have nr:∀b y,s.heap.get? b=some y->(∀vs,y.data≠.fields vs)->b≠T:=λb y z nf w=>by rw[w,hT] at z;cases z;exact nf ts hd
 obtain⟨g1,g2,g3,gz,_⟩:=g;refine⟨⟨λb y z=>(ot b λw=>by rw[w,hb] at z;cases z).trans (g1 b y z),g2,g3.of_keeps λb y z nf=>⟨y,(ot b<|nr b y z nf).trans z,rfl⟩,gz,T,_,_,(ot e ne.symm).trans he,hb,ne,dS _ hT<|xC<|mo hd _,mo hd _,?_⟩,λb y z nf=>⟨y.slots,(ot b<|nr b y z nf).trans z⟩⟩
 have:=(fS.mp h3).1
 simp[this]
theorem Bx (g:Fy B l e o us fl s.heap)(q:∀h',Fy B l e o us .none h'->s.heap.UpToSlots h'->Q () { s with heap:=h' }):bp M A (setFlight (.ref e) none) Q E s:=by
 obtain⟨_,_,_,z,T,y,ts,he,hb,ne,hT,hd,h3⟩:=id g;unfold setFlight;refine ae<|hZ he rfl (x:=.ref T) (by simp[z]) ?_;rw[if_pos<|show(b0 T != eP)=true from by simp]
 have:=WK (x:=.none) g T y ts hT hd h3 hb ne he
 exact kM hT hd (fS.mp h3).1<|q _ this.1 this.2
theorem Oq (hA:A.frames=some (env::l))(hf:env.frame=some L)(g:Fy B (env::l) e o us .none s.heap)(q:∀h',Fy B (env::l) e o us (xt L) h'->s.heap.UpToSlots h'->Q () { s with heap:=h' }):bp M A (noteFrame (.ref e) env) Q E s:=by
 obtain⟨_,_,_,z,T,y,ts,he,hb,ne,hT,hd,h3⟩:=id g;unfold noteFrame;simp only[hf];refine ae<|hZ he rfl (x:=.ref T) (by simp[z]) ?_;rw[if_pos<|show(b0 T != eP)=true from by simp];refine ae<|hZ hT hd h3 ?_;rw[if_neg<|show ¬((eP==xt L)=true) from by simp[xt]];obtain⟨g',u'⟩:=WK (x:=.none) g T y ts hT hd h3 hb ne he;refine ae<|kM hT hd (fS.mp h3).1 ?_;have he':=(cf s.heap (kD (·.setIfInBounds 3 eP)) ne).trans he;refine Wj (us:=us.setIfInBounds 1<|.ref T) hA hf g'.2.2.1 he' (by simpa using z) g'.1 g.2.1 λh2 g2 u2=>q h2 ?_<|u'.trans u2;obtain⟨a,b,c,z',T',r⟩:=g2;rw[af0] at r;exact⟨a,b,c,z,T',r⟩
theorem Fy.tail (g:Fy B (env::l) e o us fl h):Fy B l e o us fl h:=let⟨a,b,⟨_,_,c⟩,d⟩:=g;⟨a,b,c,d⟩
theorem Kz (hA:A.frames=some (env::l))(hf:env.frame=some L)(g:Fy B (env::l) e o us .none s.heap)(q:∀h',Fy B l e o us .none h'->s.heap.UpToSlots h'->Q () { s with heap:=h' }):bp M A (leaving env<|.ref e) Q E s:=by
 unfold leaving;exact ae<|Oq hA hf g λh1 g1 u1=>Bx g1 λh2 g2 u2=>q h2 g2.tail<|u1.trans u2
theorem Jt (hA:A.frames=some (env::l))(hf:env.frame=some L)(hl:s.heap.FunFrames B (env::l))(he:s.heap.get? e=some { o with data:=.fields us })(h1:us[1]? = some .none)(kb:B.StaysIn s.heap)(hn:B.get? e=none)
  (q:∀h',Fy B l e o us .none h'->s.heap.UpToSlots h'->Q () { s with heap:=h' }):bp M A (leaving env<|.ref e) Q E s:=by
 unfold leaving noteFrame;simp only[hf];refine ae<|ae<|hZ he rfl h1 ?_;rw[if_neg<|by decide];exact Wj hA hf hl he (fS.mp h1).1 kb hn λh2 g2 u2=>Bx g2 λh3 g3 u3=>q h3 g3.tail<|u2.trans u3
end
theorem cu.at' {P:bq}{w:dA}{H:Hp}{h:Heap}{a:Addr}{o:HO}(x:cu P w H h a o):∃u,h.get? a=some u:=by
 cases o with
 |lst xs=>obtain⟨_,_,_,_,e⟩:=x;exact⟨_,e⟩
 |tup xs=>obtain⟨_,_,_,o,e,_⟩:=x;exact⟨_,e⟩
 |dK ι=>obtain⟨_,_,_,_,o,_,_,e,_⟩:=x;exact⟨_,e⟩
 |dT ι=>obtain⟨_,_,_,_,o,_,_,e,_⟩:=x;exact⟨_,e⟩
 |set S n=>obtain⟨o,_,_,_,e,_⟩:=x;exact⟨_,e⟩
 |ins C dx fs=>obtain⟨_,_,_,e,_⟩:=x;exact⟨_,e⟩
 |own y=>exact x
 |xd fs=>obtain⟨_,⟨_,_,_,e,_⟩,_⟩:=x;exact⟨_,e⟩
 |rng lo hi=>obtain⟨_,_,_,e⟩:=x;exact⟨_,e⟩
 |frz ob u=>obtain⟨e,_⟩:=x;exact⟨_,e⟩
 |tbl ps=>exact⟨_,(show h.get? a=some _ from x)⟩
 |met f y=>exact⟨_,(show h.get? a=some _ from x)⟩
 |ext φ=>obtain⟨_,e,_⟩:=x;exact e
structure Fly (P:bq)(w:dA)(outer:List Env)(H:Hp)(s:aS)(e:aw)(s':aS)(ea:Addr)(ob:Obj)(us:Array aw)(B:Heap)(H':Hp):Prop where
 is:e=.ref ea
 os:s'.os=s.os
 bare:uj s'.gens
 fly:Fy B outer ea ob us .none s'.heap
 ctx:us[2]? = some .none
 keep:∀b o,s.heap.get? b=some o->H b=none->b∉frs outer->B.get? b=some o
 slot:∀b o,s.heap.get? b=some o->b∈frs outer->∃sl,s'.heap.get? b=some { o with slots:=sl }
 free:∀b o,s.heap.get? b=some o->H b=none->H' b=none
 there:∀b o,s.heap.get? b=some o->b∉frs outer->∃o',B.get? b=some o'
 tups:∀b xs,H b=some (.tup xs)->H' b=some (.tup xs)
 frzs:∀b o u,H b=some (.frz o u)->H' b=some (.frz o u)
 tbls:∀b ps,H b=some (.tbl ps)->∃more,H' b=some (.tbl (ps++more))
 hok:HOk P w H' B
 new:s.heap.get? ea=none
 nin:H' ea=none
def CX1 (P:bq)(w:dA):CXT:=λouter H s E e s'=>∃ea ob us B H',Fly P w outer H s e s' ea ob us B H'/\E ob.cls ob.dict H'
theorem yH {env:Env}{l:List Env}{L b:Addr}(hf:env.frame=some L)(h:b∈frs (env::l)):b=L\/b∈frs l:=by
 unfold frs at h;rw[l8,hf] at h;rcases bE.mp h with z|z
 ·exact .inl z
 ·exact .inr z
theorem Jj {env:Env}{l:List Env}{b:Addr}(h:b∈frs l):b∈frs (env::l):=by
 unfold frs at h ⊢;obtain⟨e,he,hf⟩:=i7.mp h;exact i7.mpr ⟨e,ah _ he,hf⟩
section
variable {P:bq}{w:dA}{K:a7}{mg:Zaa}{base:Heap}{N:List Str}{qual:Str}{scope:sj}{f:Addr}{cd:aw}{A:dP}{outer:List Env}{s:aS}{H:Hp}{E:XK}
theorem RZ {π:Zp}{σ:St}{H1:Hp}{s1:aS}{h':Heap}{ea:Addr}{ob:Obj}{us:Array aw}
  (I:Inv (lQ (CX1 P w) P w K mg base N qual scope f cd A outer s H E) π σ H1 s1) (kp:∀b o,s1.heap.get? b=some o->h'.get? b=some o) (new:s1.heap.get? ea=none) (he:h'.get? ea=some { ob with data:=.fields us }) (u1:us[1]? = some .none) (u2:us[2]? = some .none) (hw:E ob.cls ob.dict H1):
  (lQ (CX1 P w) P w K mg base N qual scope f cd A outer s H E).xe (.ref ea) { s1 with heap:=h' }:=by
 have hin:∀env∈(lQ (CX1 P w) P w K mg base N qual scope f cd A outer s H E).stack,∀b,env.frame=some b->b∈(lQ (CX1 P w) P w K mg base N qual scope f cd A outer s H E).stack.filterMap (·.frame):=
  λenv he b hb=>i7.mpr ⟨env,he,hb⟩
 have nfr:∀b o,s.heap.get? b=some o->b∉frs outer->b∉(lQ (CX1 P w) P w K mg base N qual scope f cd A outer s H E).stack.filterMap (·.frame):=λb o q nb hb=>by
  rcases yH (L:=s.heap.objs.size) rfl hb with z|z
  ·exact absurd (ay q) (by rw[z];exact eT _)
  ·exact nb z
 have nx:∀b:Addr,b∉(lQ (CX1 P w) P w K mg base N qual scope f cd A outer s H E).ex:=λb z=>absurd (show b∈([]:List Addr) from z) (by simp);have nb:(AF s1.heap<|frs (lQ (CX1 P w) P w K mg base N qual scope f cd A outer s H E).stack).get? ea=none:=by
  cases q:(AF s1.heap<|frs (lQ (CX1 P w) P w K mg base N qual scope f cd A outer s H E).stack).get? ea with
  |none=>rfl
  |some o=>have:=xb _ q;rw[new] at this;cases this
 refine Jt (B:=AF s1.heap<|frs (lQ (CX1 P w) P w K mg base N qual scope f cd A outer s H E).stack) (L:=s.heap.objs.size) (l:=outer) I.ok.frames rfl ((W.funFrames_hide I.stack hin).of_keeps λb o q _=>⟨o,kp b o q,rfl⟩) he u1 (λb o q=>kp b o<|xb _ q) nb λh2 x1 x4=>?_;refine⟨ea,ob,us,_,H1,⟨rfl,I.os,I.bare,x1,u2,λb o q n nb=>?_,λb o q hb=>?_,λb o q n=>I.base.free b o q n<|nx b,λb o q nb=>?_,I.base.tups,I.base.frzs,I.base.tbls,λb u e=>?_,?_,?_⟩,hw⟩
 ·exact kA _ (I.base.keep b o q n nb<|nx b)<|nfr b o q nb
 ·obtain⟨sl,e1⟩:=I.base.slot b o q (I.ok.frf b hb) hb<|nx b;obtain⟨_,o',ho',hnf⟩:=I.ok.tD.mem hb;have eo:o=o':=b9<|q.symm.trans ho';obtain⟨sl2,e2⟩:=x4 b _ (kp _ _ e1) λv z=>hnf v (by rw[← eo];exact z);exact⟨sl2,e2⟩
 ·obtain⟨o',e1⟩:=I.base.there b o q<|nx b;exact⟨o',kA _ e1<|nfr b o q nb⟩
 ·refine(I.hok b u e).stay (λc v hc q=>kA _ q λhm=>?_) (λ_ q=>q) λ_ _ q=>q;have z:=I.yW c hm;rcases hc with hc|hc
  ·rw[hc,e] at z;cases z
  ·rw[hc] at z;cases z
 ·cases q:s.heap.get? ea with
  |none=>rfl
  |some o=>
   obtain⟨o',e1⟩:=I.base.there ea o q<|nx ea;rw[new] at e1;cases e1
 ·cases q:H1 ea with
  |none=>rfl
  |some o=>
   obtain⟨o',e1⟩:=cu.at'<|I.hok ea o q;rw[new] at e1;cases e1
theorem vU {π:Zp}{σ:St}{H1:Hp}{s1:aS}{h':Heap}{ea:Addr}{cls:aw}{vs:List aw}
  (I:Inv (lQ (CX1 P w) P w K mg base N qual scope f cd A outer s H E) π σ H1 s1) (hx:so s1.heap h' ea cls vs) (hw:E cls none H1):
  (lQ (CX1 P w) P w K mg base N qual scope f cd A outer s H E).xe (.ref ea) { s1 with heap:=h' }:=by
 obtain⟨t,he,_⟩:=hx.there;exact RZ (ob:={ cls:=cls }) I hx.keeps hx.new he rfl rfl hw
theorem aO:Passes (CX1 P w) (lQ (CX1 P w) P w K mg base N qual scope f cd A outer s H E) E:=by
 intro π σ H1 s1 e s' I h;obtain⟨ea,ob,us,B,H',F,hw⟩:=h;obtain rfl:=F.is;have nfr:∀b o,s.heap.get? b=some o->b∉frs outer->b∉frs (lQ (CX1 P w) P w K mg base N qual scope f cd A outer s H E).stack:=λb o q nb hb=>by
  rcases yH (L:=s.heap.objs.size) rfl hb with z|z
  ·exact absurd (ay q) (by rw[z];exact eT _)
  ·exact nb z
 have nx:∀b:Addr,b∉(lQ (CX1 P w) P w K mg base N qual scope f cd A outer s H E).ex:=λb z=>absurd (show b∈([]:List Addr) from z) (by simp);refine Kz (B:=B) (l:=outer) (L:=s.heap.objs.size) I.ok.frames rfl F.fly λh2 x1 x2=>?_;refine⟨ea,ob,us,B,H',⟨rfl,F.os.trans I.os,F.bare,x1,F.ctx,λb o q n nb=>?_,λb o q hb=>?_,λb o q n=>?_,λb o q nb=>?_,λb xs q=>F.tups b xs<|I.base.tups b xs q,λb o u q=>F.frzs b o u<|I.base.frzs b o u q,λb ps q=>?_,F.hok,?_,F.nin⟩,hw⟩
 ·exact F.keep b o (I.base.keep b o q n nb<|nx b) (I.base.free b o q n<|nx b)<|nfr b o q nb
 ·obtain⟨sl,e1⟩:=I.base.slot b o q (I.ok.frf b hb) hb<|nx b;obtain⟨_,o',ho',hnf⟩:=I.ok.tD.mem hb;have eo:o=o':=b9<|q.symm.trans ho';obtain⟨sl1,e2⟩:=F.slot b _ e1<|Jj hb;obtain⟨sl2,e3⟩:=x2 b _ e2 λv z=>hnf v (by rw[← eo];exact z);exact⟨sl2,e3⟩
 ·obtain⟨o',e1⟩:=I.base.there b o q<|nx b;exact F.free b o' e1<|I.base.free b o q n<|nx b
 ·obtain⟨o',e1⟩:=I.base.there b o q<|nx b;exact F.there b o' e1<|nfr b o q nb
 ·obtain⟨m1,e1⟩:=I.base.tbls b ps q;obtain⟨m2,e2⟩:=F.tbls b _ e1;exact⟨m1++m2,by rw[e2,ml]⟩
 ·cases q:s.heap.get? ea with
  |none=>rfl
  |some o=>
   obtain⟨o',e1⟩:=I.base.there ea o q<|nx ea;rw[F.new] at e1;cases e1
end
theorem DK {P:bq}{w:dA}{X:Cx}:Passes (CX1 P w) X E0:=λ_ _ _ _ _ _ _ ⟨_,_,_,_,_,_,z⟩=>z.elim
def tH (ea:Addr)(cls:aw)(h:Heap):Prop:=∃o,h.get? ea=some o/\o.cls=cls/\∃vs,o.data=.fields vs
section
variable {X:Cx}{π:Zp}{σ:St}{H H':Hp}{s s':aS}{e:aw}{ea:Addr}{ob:Obj}{us:Array aw}{B:Heap}
theorem Fly.inv (F:Fly X.prog X.w X.stack H s e s' ea ob us B H')(I:Inv X π σ H s){h2:Heap}{tk:Nat}(k1:B.StaysIn h2)(k2:s'.heap.UpToSlots h2):Inv X π σ H' { s' with heap:=h2,toks:=tk }:=by
 have nf:∀b∈frs X.stack,∀o,s.heap.get? b=some o->∀vs,o.data≠.fields vs:=λb hb o q=>by
  obtain⟨_,o',ho',hnf⟩:=I.stack.mem hb;have eo:o=o':=b9<|q.symm.trans ho';rw[eo];exact hnf
 refine I.call' (s':={ s' with heap:=h2,toks:=tk }) (ch:=[]) F.os ⟨λb o q n hb _=>k1 b o<|F.keep b o q n hb,λb o q n hb _=>?_,λb o q n _=>F.free b o q n,λb o q _=>?_,F.tups,F.frzs,F.tbls⟩ (F.hok.kept k1) F.bare (λb z=>nomatch z)
 ·obtain⟨sl,e1⟩:=F.slot b o q hb;obtain⟨sl2,e2⟩:=k2 b _ e1<|nf b hb o q;exact⟨sl2,e2⟩
 ·by_cases hb:b∈frs X.stack
  ·obtain⟨sl,e1⟩:=F.slot b o q hb;obtain⟨sl2,e2⟩:=k2 b _ e1<|nf b hb o q;exact⟨_,e2⟩
  ·obtain⟨o',e1⟩:=F.there b o q hb;exact⟨o',k1 b o' e1⟩
end
section
variable {X:Cx}{π:Zp}{σ:St}{H H':Hp}{s s':aS}{e:aw}{ea:Addr}{ob:Obj}{us:Array aw}{B:Heap}
theorem Fly.aft (F:Fly X.prog X.w X.stack H s e s' ea ob us B H')(I:Inv X π σ H s){h2:Heap}{tk:Nat}{ox:Obj}(k1:B.StaysIn h2)(k2:s'.heap.UpToSlots h2)(kx:h2.get? ea=some ox)(kf:∃vs,ox.data=.fields vs):
  Inv X π σ (upd H' ea<|.frz ox<|.ext<|tH ea ox.cls) { s' with heap:=h2,toks:=tk }:=by
 have J:=F.inv I (tk:=tk) k1 k2;have nf:∀b∈frs X.stack,∀o,s.heap.get? b=some o->∀vs,o.data≠.fields vs:=λb hb o q=>by
  obtain⟨_,o',ho',hnf⟩:=I.stack.mem hb;have eo:o=o':=b9<|q.symm.trans ho';rw[eo];exact hnf
 have ne:∀b o,s.heap.get? b=some o->b≠ea:=λb o q z=>by rw[z,F.new] at q;cases q
 have ne':∀b u,H' b=some u->b≠ea:=λb u q z=>by rw[z,F.nin] at q;cases q
 refine I.call' (s':={ s' with heap:=h2,toks:=tk }) (ch:=[]) F.os ⟨λb o q n hb _=>k1 b o<|F.keep b o q n hb,λb o q n hb _=>?_,λb o q n _=>?_,λb o q _=>?_,λb xs q=>?_,λb o u q=>?_,λb ps q=>?_⟩ (λb u q=>?_) F.bare (λb z=>nomatch z)
 ·obtain⟨sl,e1⟩:=F.slot b o q hb;obtain⟨sl2,e2⟩:=k2 b _ e1<|nf b hb o q;exact⟨sl2,e2⟩
 ·rw[bC<|ne b o q];exact F.free b o q n
 ·by_cases hb:b∈frs X.stack
  ·obtain⟨sl,e1⟩:=F.slot b o q hb;obtain⟨sl2,e2⟩:=k2 b _ e1<|nf b hb o q;exact⟨_,e2⟩
  ·obtain⟨o',e1⟩:=F.there b o q hb;exact⟨o',k1 b o' e1⟩
 ·have z:=F.tups b xs q;rw[bC<|ne' b _ z];exact z
 ·have z:=F.frzs b o u q;rw[bC<|ne' b _ z];exact z
 ·obtain⟨m,z⟩:=F.tbls b ps q;exact⟨m,by rw[bC<|ne' b _ z];exact z⟩
 ·by_cases hb:b=ea
  ·subst hb;rw[aZ] at q;cases q;exact⟨kx,⟨ox,kx,rfl,kf⟩,⟨ox,kx⟩,λh1 h3 ⟨o1,ho1,r1⟩ k=>⟨o1,k o1 ho1,r1⟩⟩
  ·rw[bC hb] at q;refine(F.hok.kept k1 b u q).stay (λ_ _ _ z=>z) (λc z=>?_) λc xs z=>?_
   ·rw[bC<|ne' c _ z];exact z
   ·rw[bC<|ne' c _ z];exact z
theorem LC {i:Nat}{n:Str}{h2:Heap}{tk:Nat}{m:Zaa}{v:Option aw}(I:Inv X π σ H s)(hN:X.N.Nodup)(hi:X.N[i]? = some n)
  (hl:∀(j:Nat) (y:Str) (v:V),X.N[j]? = some y->σ[j]? = some (some v)->Vis X.env.scope y->∃u,RelV v u/\Look X.env s.heap m y u)
  (hn:h2.Ns X.env.locals (λy=>if y=n then v else m y)) (hs:iX X.env.locals s.heap h2):Inv X π (σ.set i none) H { s with heap:=h2,toks:=tk }:=by
 have hiσ:i<σ.length:=by rw[I.len];exact(d4.mp hi).1
 have neL:∀b o,X.s₀.heap.get? b=some o->b≠X.env.locals:=λb o q=>bo<|br (ay q) I.ok.above;have neT:∀b u,H b=some u->b≠X.env.locals:=λb u q z=>by rw[z,I.free] at q;cases q
 refine⟨I.ok,I.os,I.bare,⟨λb o q n' hb hx=>?_,λb o q n' hb hx=>?_,I.base.free,λb o q hx=>?_,I.base.tups,I.base.frzs,I.base.tbls⟩,⟨_,hn,λj y w' e1 e2 e3=>?_⟩,λy c q=>?_,I.free,I.freeC,λp hp=>?_,λb u q=>?_,by simpa using I.len⟩
 ·exact(hs.2 b<|neL b o q).trans (I.base.keep b o q n' hb hx)
 ·obtain⟨sl,e1⟩:=I.base.slot b o q n' hb hx;exact⟨sl,(hs.2 b<|neL b o q).trans e1⟩
 ·obtain⟨o',e1⟩:=I.base.there b o q hx;exact⟨o',(hs.2 b<|neL b o q).trans e1⟩
 ·by_cases hj:j=i
  ·subst hj;rw[c8 hiσ] at e2;cases e2
  ·rw[dn<|ix hj] at e2;obtain⟨u,r,l⟩:=hl j y w' e1 e2 e3;refine⟨u,r,?_⟩;rcases l with⟨k,z⟩|⟨k,c,z,z2⟩
   ·refine .inl ⟨k,?_⟩;have ny:y≠n:=λq=>hj<|Dh hN e1<|q▸hi;show(if y=n then v else m y)=some u;rw[if_neg ny];exact z
   ·exact .inr ⟨k,c,z,z2.sameBut hs<|I.cne y c z⟩
 ·obtain⟨w',z⟩:=I.cell y c q;exact⟨w',z.sameBut hs<|I.cne y c q⟩
 ·obtain⟨e1,n1,ne1,nf1,d1⟩:=I.pin p hp;exact⟨(hs.2 p.1 ne1).trans e1,n1,ne1,nf1,d1⟩
 ·refine(I.hok b u q).stay (λc w' hc z=>(hs.2 c ?_).trans z) (λ_ z=>z) λ_ _ z=>z;rcases hc with hc|hc
  ·rw[hc];exact neT b u q
  ·exact neT c _ hc
def KR (A:dP)(H:Hp):Prop:=∃x o u vs,A.handled=some (.ref x)/\H x=some (.frz o u)/\o.data=.fields vs/\vs[2]? = some .none
def inh (X:Cx)(ea:Addr):Cx:={ X with A:=X.A.mark<|some<|.ref ea,calm:=false,xe:=λ_ _=>False }
theorem abU (ok:X.Ok)(ea:Addr):(inh X ea).Ok:=
 ⟨ok.mod,ok.kind,ok.glob,ok.blt,ok.above,ok.inj,ok.has,ok.cab,λz=>(by cases(show false=true from z)),ok.frames,ok.stk,ok.exf,ok.bs,ok.bsz,ok.noex,ok.exfs,ok.tD,ok.frf⟩
theorem Od (I:Inv X π σ H s)(ea:Addr):Inv (inh X ea) π σ H s:=⟨abU I.ok ea,I.os,I.bare,I.base,I.loc,I.cell,I.free,I.freeC,I.pin,I.hok,I.len⟩
theorem RQ (I:Inv (inh X ea) π σ H s)(ok:X.Ok):Inv X π σ H s:=⟨ok,I.os,I.bare,I.base,I.loc,I.cell,I.free,I.freeC,I.pin,I.hok,I.len⟩
end
def PEx (X:Cx)(e:Expr)(t:St->Hp->VK->XK->Prop):Prop:=
 ∀(π:Zp) (s:aS) (σ:St) (H:Hp) (Q:VK) (E:XK),Inv X π σ H s->t σ H Q E->
  bp (b6 X.prog X.w) X.A (eval e X.env) (EP X π σ Q) (λx s'=>∃H1 s1,Inv X π σ H1 s1/\CX1 X.prog X.w X.stack H1 s1 E x s') s
def PSx (X:Cx)(sts:List Stmt)(t:Ends->(St->XK)->St->Hp->Prop):Prop:=
 ∀(π:Zp) (s:aS) (σ:St) (H:Hp) (D:Ends) (E:St->XK),Inv X π σ H s->t D E σ H->
  bp (b6 X.prog X.w) X.A (execs sts X.env) (SP X π D) (λx s'=>∃σ1 H1 s1,Inv X π σ1 H1 s1/\CX1 X.prog X.w X.stack H1 s1 (E σ1) x s') s
section
variable {X:Cx}{k:Nat}{f:Addr}{fd:gN}{ps:List Str}{sp:Sp}{x:Str}{p pos pos':Pos}{e:Expr}{es:List Expr}{t:TA}
theorem XR (F:oM X.prog X.w X.K X.mg X.base (CX1 X.prog X.w) k f fd ps sp)(hr:fZ k X.A)(hg:Gl X x)(hm:X.mg x=some (.ref f))(hk:la X.K (.ref f)=true)(hb:Binds X.K fd ps [])
  (ha:PA X.nox (e::es) t) (hdb:(x==("__debug__":Str))=false:=by decide) (he:ag (e::es) X.env=(false,eval e X.env)::ag es X.env:=by rfl) (ξ:(hV pos<|ag es X.env).any (·.1)=false:=by rfl):
  PEx X (.Call (.Name x p) (e::es) [] pos) (λσ H Q E=>t σ H λvs H1=>sp vs H1 Q E):=by
 intro π s σ H Q E I h;refine gc<|qY I hg hm ?_ hdb;refine rX (h₀:=X.base) I.ok.mod.kin hk (fx (ha pos π s σ H _ (I.wish _) h) (λus s1 hE=>xq2 hE λvs H1 I1 r q=>⟨I1.Ho.kIn,?_⟩) λ_ _ z=>fq z) he ξ;have I2:=I1.Ho;have hl:(us++[]).length=ps.length:=by rw[cw,← r.length];exact F.len _ _ _ _ q
 have hbs:=hb s1 us I2.kIn hl;rw[cw] at hbs;refine yB<|nV (F.run X.A X.stack s1 H1 ⟨us,[]⟩ us vs Q E hr I2.env0 hbs r q) λr s' hq=>?_;cases r with
 |error e=>exact⟨H1,s1,I2,hq⟩
 |ok fl=>
  cases fl with
  |ret u=>exact I2.after hq
  |next=>exact fq hq
  |brk=>exact fq hq
  |cont=>exact fq hq
theorem acs {st:Stmt}{t:Ends->(St->XK)->St->Hp->Prop}
  (h:∀(π:Zp) (s:aS) (σ:St) (H:Hp) (D:Ends) (E:St->XK),Inv X π σ H s->t D E σ H->
   bp (b6 X.prog X.w) X.A (exec st X.env) (SP X π D) (λx s'=>∃σ1 H1 s1,Inv X π σ1 H1 s1/\CX1 X.prog X.w X.stack H1 s1 (E σ1) x s') s):PSx X [st] t:=by
 intro π s σ H D E I hq;refine vS<|thn (h π s σ H D E I hq) λfl s1 q=>?_;cases fl with
 |next=>exact kR q
 |ret v=>exact q
 |brk=>exact q
 |cont=>exact q
theorem acB {i:Nat}{y:Str}{te:St->Hp->VK->XK->Prop}(hN:X.N.Nodup)(hi:X.N[i]? = some y)(hx:Loc X.env.scope y)(he:PEx X e te)(hs:fg e (some<|.Name y pos') pos.line X.env=pure false:=by rfl)
  (hf:X.fn y=true\/X.env.scope.names.lookup y=some .local:=by first|exact .inl rfl|exact .inr rfl|assumption):
  PSx X [.Assign [.Name y pos'] e pos] (λD E σ H=>te σ H (λv H1=>D.nx (σ.set i<|some v) H1)<|E σ):=
 acs λπ s σ H D E I h=>
  wpAny_Assign_Name (fx (he π s σ H _ _ I h) (λ_ _ ⟨_,H1,I1,r1,q1⟩=>sU I1 hN hi hx r1 (λ_ I2=>⟨_,H1,I2,q1⟩) hf) λ_ _ ⟨H1,s1,J,c⟩=>⟨σ,H1,s1,J,c⟩) hs
end
def aaX (i:Nat)(D:Ends):Ends:={ nx:=λσ H=>D.nx (σ.set i none) H,rt:=D.rt,bk:=λσ H=>D.bk (σ.set i none) H,ct:=λσ H=>D.ct (σ.set i none) H }
def afn (K:a7)(DC:Addr)(i:Nat)(tb:Ends->(St->XK)->St->Hp->Prop)(ts:Addr->TS):TS:=λD σ H=>
 tb D (λσ1 cls od H'=>r9 K cls (.ref DC)=some true/\∀ea ox,H' ea=none->ox.cls=cls->ox.dict=od->(∃vs,ox.data=.fields vs/\vs[2]? = some .none)->ts ea (aaX i D) (σ1.set i<|some<|.ref ea) (upd H' ea<|.frz ox<|.ext<|tH ea cls)) σ H
theorem ac7 {X:Cx}{body suite:List Stmt}{b₀:Stmt}{x n:Str}{np hpos pos:Pos}{i:Nat}{DC:Addr}{tb:Ends->(St->XK)->St->Hp->Prop}{ts:Addr->TS}
  (hst:X.stack=X.env::X.outer) (hfr:X.env.frame=some X.env.locals) (hb:PSx X body tb) (hN:X.N.Nodup) (hi:X.N[i]? = some n) (hn:X.env.scope.names.lookup n=some .local)
  (hg:Gl X x) (hm:X.mg x=some (.ref DC)) (hs:∀ea,PSs (inh X ea) (b₀::suite)<|ts ea) (hd:(x==("__debug__":Str))=false:=by decide):
  PS X (.Try body [.ExceptHandler (some<|.Name x np) (some n) (b₀::suite) hpos] [] [] pos) (afn X.K DC i tb ts):=by
 intro π s σ H D I h;refine wpAny_Try_except<|fx (hb π s σ H D _ I h) (λfl s1 q=>?_) λx' s' ⟨σ1,H1,s1,J,c⟩=>?_
 ·cases fl with
  |next=>exact kR q
  |ret v=>exact q
  |brk=>exact q
  |cont=>exact q
 ·obtain⟨ea,ob,us,B,H',F,hx,hw⟩:=c;obtain rfl:=F.is;have hcls:(X.env.scope.kind==.class||(X.env.scope.kind==.module&&X.env.locals != X.env.globals))=false:=by rw[J.ok.kind];rfl
  have hfly:=F.fly;rw[hst] at hfly;have hA:=J.ok.frames;rw[hst] at hA;refine Oq hA hfr hfly λh4 g4 u4=>?_;refine Bx g4 λh5 g5 u5=>?_;have J5:=F.inv J (tk:=s'.toks) g5.1<|u4.trans u5;have JI5:=Od J5 ea;have x5:∀{hh:Heap},Fy B (X.env::X.outer) ea ob us .none hh->∃o,hh.get? ea=some o/\o.cls=ob.cls:=λ⟨_,_,_,_,_,_,_,q,_⟩=>⟨_,q,rfl⟩;refine wpAny_handleBy_cons (codeAny_handlers_test<|qY (X:=inh X ea) JI5 hg hm ?_ hd) (by intro q;cases q);obtain⟨o5,e5,c5⟩:=x5 g5;have LT:W.Looks (b6 X.prog X.w) h5 (typeOf<|.ref ea) ob.cls:=c5▸(W.Looks.ld e5).andThen .now;refine(W.exm_one (M:=b6 X.prog X.w) J5.kIn LT hx).here ?_;refine codeAny_handlers_suite_as ?_;refine Bx g5 λh6 g6 u6=>?_;obtain⟨_,_,_,z6,T6,_,_,e6,_⟩:=id g6;have c6:(us.setIfInBounds 1<|.ref T6)[2]? = some eP:=by rw[Array.getElem?_setIfInBounds_ne<|by decide];exact F.ctx
  have J6:=F.aft J (tk:=s'.toks) g6.1 ((u4.trans u5).trans u6) e6 ⟨_,rfl⟩;refine sU (X:=inh X ea) (Od J6 ea) hN hi (.inl hn) (show RelV (.ref ea) (.ref ea) from rfl) (λs7 J7=>?_) (.inr hn);refine fx (hs ea π s7 _ _ (aaX i D) J7<|hw ea _ F.nin rfl rfl ⟨_,rfl,c6⟩) (λfl s8 q=>?_) λ_ _ z=>fq z;have go:∀{σ8:St} {H8:Hp},Inv (inh X ea) π σ8 H8 s8->(∀{s9:aS},Inv X π (σ8.set i none) H8 s9->SP X π D fl s9)->
    bp (b6 X.prog X.w) X.A (do BG X.env n .none;unbindBehindTheSuite X.env n hpos) (λ_ s9=>SP X π D fl s9) X.xe s8:=λJ8 k=>by
   have J9:=RQ J8 J.ok;obtain⟨m,hm',hl⟩:=J9.loc;exact wpAny_nameGoes_keeps (m:=m) hn hm' hcls λh9 v hn9 hs9=>k<|LC J9 hN hi hl hn9 hs9
  cases fl with
  |next=>obtain⟨σ8,H8,J8,q⟩:=q;exact go J8 λJ9=>⟨_,H8,J9,q⟩
  |brk=>obtain⟨σ8,H8,J8,q⟩:=q;exact go J8 λJ9=>⟨_,H8,J9,q⟩
  |cont=>obtain⟨σ8,H8,J8,q⟩:=q;exact go J8 λJ9=>⟨_,H8,J9,q⟩
  |ret u=>obtain⟨v,σ8,H8,J8,r,q⟩:=q;exact go J8 λJ9=>⟨v,_,H8,J9,r,q⟩
theorem aai {K:a7}{h:Heap}(X:K.In h)(q:B0 K C bmB newId=true):
  ∃bm N nm qn bs hdct sn sub ab col dd k0 k1 k2 k3 k5 mN,h.get? C=some (zS nm qn C N bs bm hdct sn sub ab col dd k0 k1 k2 k3 k5 newId)/\h.Ns N mN/\mN "__init__" = none/\OwnTail h bmB bm:=by
 unfold B0 at q;split at q
 case h_2=>cases q
 case h_1 dd cd sl ho=>
  split at q
  case h_2=>cases q
  case h_1 C' bm k0 k1 k2 k3 n k5 hm hs=>
   simp only[beq_iff_eq,g7,Bool.not_eq_true'] at q;obtain⟨⟨⟨⟨⟨z1,z2⟩,hdel⟩,ht⟩,hok⟩,hni⟩:=q;subst z1;subst z2;obtain⟨nm,bs,mro,ns,qn,hd,sn,sub,ab,col,del⟩:=cd;have hm':mro=.ref C'::bm:=hm;have hdel':del=false:=hdel;subst hm';subst hdel';obtain⟨l⟩:=sl;have hs':l=[k0,k1,k2,k3,some<|.builtin n,k5]:=hs;subst hs';exact⟨bm,ns,nm,qn,bs,hd,sn,sub,ab,col,dd,k0,k1,k2,k3,k5,_,X _ _ ho,.of_isNs<|BC X hok,W.nsMap_none_of_in X hok hni,W.tail_of_in X ht⟩
section
variable {X:Cx}{x:Str}{e₀:Expr}{np ρ pos:Pos}{te:TE}{C:Addr}{bmB:List aw}{B newId initId:String}
theorem Wx {W:XK}(FB:xD B newId initId bmB)(hq:PySem.W.excIn X.K C bmB newId=true)(hg:Gl X x)(hm:X.mg x=some (.ref C))(hh:X.A.handled=none)(he:PE X e₀ te)
  (hx:∀(π:Zp) (σ:St) (H:Hp) (s:aS) (h':Heap) (ea:Addr) (vs:List aw),Inv X π σ H s->so s.heap h' ea (.ref C) vs->W (.ref C) none H->X.xe (.ref ea) { s with heap:=h' })
  (hd:(x==("__debug__":Str))=false:=by decide) (hs:ag [e₀] X.env=(false,eval e₀ X.env)::ag [] X.env:=by rfl):
  PS X (.Raise (some<|.Call (.Name x np) [e₀] [] ρ) none pos) (λ_ σ H=>te σ H λv H1=>[v].length=1/\W (.ref C) none H1):=by
 intro π s σ H D I h;obtain⟨bm,N,nm,qn,bs,hdct,sn,sub,ab,col,dd,k0,k1,k2,k3,k5,mN,hC,hN,hni,T⟩:=aai I.ok.mod.kin hq;refine wpAny_Raise_call_subT (C:=C) (N:=N) (nm:=nm) (q:=qn) (bs:=bs) (bm:=bm) (hdct:=hdct) (sn:=sn) (sub:=sub) (ab:=ab) (col:=col) (dd:=dd) (k0:=k0) (k1:=k1) (k2:=k2) (k3:=k3) (k5:=k5) FB (T.hasType FB.hasBase) hh (by rw[hs];rfl) hni<|qY I hg hm ⟨rfl,?_⟩ hd;have pa:=eU he nG hs ρ π s σ H (λvs H1=>vs.length=1/\W (.ref C) none H1) I h;rw[hs] at pa ⊢;refine oP<|thn pa λus s2 hE=>xq2 hE λvs H2 I2 r q=>⟨rfl,?_,I2.bk _ _ hC,hN.keeps I2.bk,T.keeps I2.bk,λh' ea mk=>hx π σ H2 s2 h' ea us I2 mk q.2⟩;rw[← r.length,q.1];decide
end
structure Fn (P:bq)(w:dA)(K:a7)(mg:Zaa)(base:Heap)(k:Nat)(x:Str)(ps:List Str)(sp:Sp):Prop where
 ex:∃f fd,oM P w K mg base (CX1 P w) k f fd ps sp/\Binds K fd ps []/\la K (.ref f)=true/\mg x=some (.ref f)
section
theorem aea (F:Fn X.prog X.w X.K X.mg X.base k x ps sp)(hr:fZ j X.A)(ha:PA X.nox (e::es) t)(hk:k<=j:=by decide)(hg:Gl X x:=by rfl)
  (hdb:(x==("__debug__":Str))=false:=by decide) (he:ag (e::es) X.env=(false,eval e X.env)::ag es X.env:=by rfl) (ξ:(hV pos<|ag es X.env).any (·.1)=false:=by rfl):
  PEx X (.Call (.Name x p) (e::es) [] pos) (λσ H Q E=>t σ H λvs H1=>sp vs H1 Q E):=by
 refine Aq F.ex λf fd G b kp m=>?_;exact XR G (hr.mono hk) hg m kp b ha hdb he ξ
end
section
variable {P:bq}{w:dA}{K:a7}{mg:Zaa}{base:Heap}
theorem By {x qual:Str}{st:Stmt}{f:Addr}{fd:gN}{N ps:List Str}{k:Nat}{sp:Sp}(F:Fun K x qual st f fd)(S:aQ N ps (aF st))(len:∀vs H Q E,sp vs H Q E->vs.length=ps.length)
  (hbody:∀(cdv:aw) (A:dP) (outer:List Env) (s:aS) (H:Hp) (vs:List V) (Q:VK) (E:XK),fZ k (A.deeper<|qc qual (aF st) s.heap.objs.size f cdv)->sp vs H Q E->
   ∃t,PSs (lQ (CX1 P w) P w K mg base N qual (aF st) f cdv A outer s H E) (gU st) t/\t { nx:=λ_ H'=>Q .non H',rt:=Q } (start N vs) H):oM P w K mg base (CX1 P w) (k+1) f fd ps sp:=by
 obtain⟨oc,od,kV,doc,pm,an,cdv,ct,osl,rfl,lk,hcd⟩:=F.ex;refine aem lk hcd S len λA outer s H vs Q E hr hsp=>?_;obtain⟨t,h,q⟩:=hbody cdv A outer s H vs Q E hr hsp;exact⟨t,h,q⟩
end
structure Df (K:a7)(mg:Zaa)(x:Str)(st:Stmt)(ps:List Str):Prop where
 ex:∃f fd,Fun K x x st f fd/\Binds K fd ps []/\mg x=some (.ref f)
theorem Df.fn {P:bq}{w:dA}{K:a7}{mg:Zaa}{base:Heap}{x:Str}{st:Stmt}{ps:List Str}{k:Nat}{sp:Sp}(D:Df K mg x st ps)
  (h:∀f fd,Fun K x x st f fd->oM P w K mg base (CX1 P w) k f fd ps sp):Fn P w K mg base k x ps sp:=by
 refine Ae D.ex λf fd F b m=>?_;exact⟨f,fd,h f fd F,b,F.kp,m⟩
structure XC (K:a7)(C:Addr):Prop where
 ga:cq K (.ref C) "__getattribute__" = some (some (.builtin "BaseException.__getattribute__"))
 no:cq K (.ref C) "__getattr__" = some none
 cl:cq K (.ref C) "__class__" = some (some (.builtin "object.__class__"))
 bs:uS K (.ref C) (.type "BaseException")=some true
 ob:uS K (.ref C) (.type "object")=some true
 is:(sv K C).isSome=true
section
variable {prog:bq}{w:dA}{A:dP}{E:Zl}{h:Heap}{g:Array nL}{d:Drawn}{t:Nat}{os:OsState}{a C:Addr}{o:Obj}{K:a7}
theorem acE {R:Result->aS->Prop}(X:K.In h)(Z:XC K C)(hx:h.get? a=some o)(hc:o.cls=.ref C)(hq:R (.ok<|.ret<|.ref C) ⟨h,g,d,t,os⟩):
  xw (b6 prog w) A (.call (.builtin "getset_descriptor.__get__") ⟨[.builtin "object.__class__",.ref a,.ref C],[]⟩) R ⟨h,g,d,t,os⟩:=by
 have hT5:(⟨h,g,d,t,os⟩:aS).TypeIs (.builtin "object.__class__") "getset_descriptor":=nX;have L8:W.Looks (b6 prog w) h (isSubtype (.ref C)<|.type<|".".intercalate ("object.__class__".cutAt '.').dropLast) true:=by
  rw[F.owner_object_class];exact vc X Z.ob
 refine ly AQ.plain F.entry_gs_get<|AQ.check _ _ _ _ _ _ _ _ hT5 (F.args_gs_get _ _ _) ?_
 repeat (any_goals (first|assumption|(with_reducible refine eJ hx ?_;rw[hc])|with_reducible refine L8.at ?_|wp_step))
 refine⟨sf _ (by decide +kernel),codeAny_builtin F.entry_object_class ?_⟩
 repeat (any_goals (first|assumption|(with_reducible refine eJ hx ?_;rw[hc])|wp_step))
theorem Xh {tk:Tok}{Q:Fin->aS->Prop}(X:K.In h)(Z:XC K C)(hx:h.get? a=some o)(hc:o.cls=.ref C)(hq:Q (.done<|.ret<|.ref C) ⟨h,g,d,t,os⟩):
  bp (b6 prog w) A (Ap.«object.__getattribute__» ⟨[.ref a,.str "__class__" tk],[]⟩) Q E ⟨h,g,d,t,os⟩:=by
 have hT5:(⟨h,g,d,t,os⟩:aS).TypeIs (.builtin "object.__class__") "getset_descriptor":=nX;have f5:=nX;have f6:=AQ.lookup;have f7:=F.slot_gs_set.lookup;have L4:=kN (M:=b6 prog w) X Z.cl
 repeat (any_goals (first|assumption|(with_reducible refine eJ hx ?_;rw[hc])|with_reducible refine L4.at ?_|wp_step))
 refine acE X Z hx hc ?_
 repeat (any_goals (first|assumption|wp_step))
theorem La {nameV:aw}{Q:Unit->aS->Prop}(X:K.In h)(Z:XC K C)(hx:h.get? a=some o)(hc:o.cls=.ref C)(hq:Q () ⟨h,g,d,t,os⟩):
  bp (b6 prog w) A (checkBuiltinCall "BaseException.__getattribute__" ⟨[.ref a,nameV],[]⟩) Q E ⟨h,g,d,t,os⟩:=by
 have hk:builtinKind "BaseException.__getattribute__" = some .slot:=by decide +kernel
 have hsp:splitId "BaseException.__getattribute__" = some ("BaseException", "__getattribute__"):=by decide +kernel
 have ha:=F.args_bexc_ga (.ref a) nameV;have L8:=vc (M:=b6 prog w) X Z.bs;simp only[checkBuiltinCall,hk,hsp];refine ae ?_;unfold A1
 repeat (first|(with_reducible refine eJ hx ?_;rw[hc])|with_reducible refine L8.at ?_|wp_step)
 exact hq
theorem aeq {tk:Tok}{Q:Zl}(X:K.In h)(Z:XC K C)(hx:h.get? a=some o)(hc:o.cls=.ref C)(hq:Q (.ref C) ⟨h,g,d,t,os⟩):
  bp (b6 prog w) A (getAttrBy (.ref a) (.str "__class__" tk) false) Q E ⟨h,g,d,t,os⟩:=by
 have f3:=lI.ga.bind<|.ref a;have L1:=kN (M:=b6 prog w) X Z.ga;have L2:=kN (M:=b6 prog w) X Z.no;have n1:(iq "BaseException.__getattribute__"==iq "object.__getattribute__")=false:=by decide +kernel
 have n2:(onTheHeap (b0 C)&&iq "BaseException.__getattribute__"==iq "object.__getattribute__")=false:=by rw[n1];rfl
 repeat (any_goals (first|assumption|(with_reducible refine eJ hx ?_;rw[hc])|with_reducible refine L1.at ?_|with_reducible refine L2.at ?_|wp_step))
 refine ly lI.ga.plain F.entry_bexc_ga<|La X Z hx hc<|Xh X Z hx hc ?_
 repeat (any_goals (first|assumption|wp_step))
theorem Y8 {Q:Option aw->aS->Prop}(X:K.In h)(Z:XC K C)(hx:h.get? a=some o)(hc:o.cls=.ref C)(hq:Q (some<|.ref C) ⟨h,g,d,t+1,os⟩):
  bp (b6 prog w) A (getAttr? (.ref a) "__class__") Q E ⟨h,g,d,t,os⟩:=by
 unfold getAttr? getAttrBy?
 repeat (any_goals (first|assumption|with_reducible apply aeq X Z hx hc|wp_step))
def XAt (a C:Addr)(h:Heap):Prop:=∃o,h.get? a=some o/\o.cls=.ref C
theorem CJ (Z:XC K C):W.KitX K (.ref a) (.ref C) (XAt a C) where
 ty:=λ_ _ _ ⟨_,hx,hc⟩=>hc▸(W.Looks.ld hx).andThen .now
 it:=λ_ _ X _=>by
  have z:=Z.is;unfold sv at z;split at z
  ·rename_i ho;intro A' Q' E' s' k q;unfold isType loadHead;exact ae<|zi (k _ _<|X _ _ ho)<|ai q
  ·cases z
 ne:=λh tp dd χ n sl X htp=>by
  have z:=Z.is;refine Bool.eq_false_iff.mpr λq=>?_;have e:C=tp:=Value.ref.inj<|beq_iff_eq.mp q;subst e;unfold sv at z;split at z
  ·rename_i ho;have z2:=(X _ _ ho).symm.trans htp;cases z2
  ·cases z
 ca:=λ{_ _ _ _ _ s} X ⟨_,hx,hc⟩ k=>by
  obtain⟨h,g,d,t,os⟩:=s;exact Y8 X Z hx hc k
end
section
variable {X:Cx}
def aaD (K:a7):List V->Hp->VK->Prop:=λxs H Q=>∃ea C c cv b,xs=[.ref ea,c]/\XJ c=some cv/\(∃ox,H ea=some (.frz ox<|.ext<|tH ea<|.ref C))/\XC K C/\bS K (.ref C) cv=some b/\Q (.bl b) H
theorem RD:iW X (.builtin "isinstance") (aaD X.K):=by
 intro π s σ H xs us Q I r h;obtain⟨ea,C,c,cv,b,rfl,rc,⟨ox,he⟩,Z,e,q⟩:=h;obtain⟨u,w',rfl,ru,rw'⟩:=vals2 r;have z:=Jq rc rw';subst z;cases(show u=b0 ea from ru);obtain⟨_,⟨o,ho,hc,_⟩,_⟩:=(show cu X.prog X.w H s.heap ea (.frz ox<|.ext<|tH ea<|.ref C) from I.hok ea _ he);exact iN (CJ Z) I.kIn ⟨o,ho,hc⟩ e (λz=>nomatch z) λtk=>⟨.bl b,H,I.tok _,rfl,q⟩
end
end Hd
namespace L2
open PySem PySem.Spec PyProof.Rows
section
variable {κ:Type}[DecidableEq κ]
noncomputable def rW (ι:List (κ×V))(k:κ):Option V:=(ι.find? λkv=>decide<|kv.1=k).map (·.2)
noncomputable def putK (ι:List (κ×V))(k:κ)(v:V):List (κ×V):=
 if(ι.any λkv=>decide<|kv.1=k)=true then ι.map (λkv=>if kv.1=k then(kv.1,v) else kv) else ι++[(k,v)]
theorem vX {p:κ×V}(e:p.1=k):rW (p::r) k=some p.2:=by simp[rW,ko,e]
theorem vI {p:κ×V}(e:¬p.1=k):rW (p::r) k=rW r k:=by simp[rW,ko,e]
theorem Dk (k:κ):∀ι:List (κ×V),(ι.any λkv=>decide<|kv.1=k)=(rW ι k).isSome
 |[]=>rfl
 |p::r=>by
  rw[mr];by_cases e:p.1=k
  ·simp only[vX e,decide_eq_true e,Bool.true_or,Option.isSome_some]
  ·rw[vI e,decide_eq_false e,ve];exact Dk k r
theorem wu (ι:List (κ×V))(k:κ)(v:V):(putK ι k v).length<=ι.length+1:=by grind[cp,bt,cK,xE,putK]
theorem Xa {ι:List (κ×V)}{k:κ}(v:V)(h:rW ι k=none):putK ι k v=ι++[(k,v)]:=by simp_all[Dk,putK]
theorem wX.zH (r:wX o u):o.isSome=u.isSome:=by
 cases o with
 |none=>cases u with
  |none=>rfl
  |some _=>exact(show False from r).elim
 |some _=>cases u with
  |none=>exact(show False from r).elim
  |some _=>rfl
theorem KV.val (r:KV ι vs)(k:κ):wX (rW ι k) (A5 vs k):=by
 unfold KV at r;induction r with
 |nil=>exact eS
 | @cons p q ps qs h t ih=>
  obtain⟨h1,h2⟩:=h;by_cases e:p.1=k
  ·have e':q.1=k:=h1.symm.trans e;have b:A5 (q::qs) k=some q.2:=by simp[A5,ko,e']
   rw[vX e,b];exact h2
  ·have e':¬q.1=k:=λz=>e<|h1.trans z;have b:A5 (q::qs) k=A5 qs k:=by simp[A5,ko,e']
   rw[vI e,b];exact ih
theorem KV.any (r:KV ι vs)(k:κ):(ι.any λkv=>decide<|kv.1=k)=vs.any λkv=>decide (kv.1=k):=by
 unfold KV at r;induction r with
 |nil=>rfl
 |cons h t ih=>rw[mr,mr,ih,h.1]
theorem KV.repl (r:KV ι vs)(k:κ){y:V}{u:aw}(ry:RelV y u):
  KV (ι.map λkv=>if kv.1=k then(kv.1,y) else kv) (vs.map λkv=>if kv.1=k then(kv.1,u) else kv):=by
 unfold KV at r ⊢;induction r with
 |nil=>exact .nil
 | @cons p q ps qs h t ih=>
  rw[aE,aE];refine .cons ?_ ih;obtain⟨h1,h2⟩:=h;by_cases e:p.1=k
  ·rw[if_pos e,if_pos<|h1.symm.trans e];exact⟨h1,ry⟩
  ·rw[if_neg e,if_neg λz=>e<|h1.trans z];exact⟨h1,h2⟩
theorem KV.put (r:KV ι vs)(k:κ){y:V}{u:aw}(ry:RelV y u):KV (putK ι k y) (stored vs k u):=by
 unfold putK stored;rw[r.any k];by_cases e:(vs.any λkv=>decide<|kv.1=k)=true
 ·rw[if_pos e,if_pos e];exact r.repl k ry
 ·rw[if_neg e,if_neg e];exact Paired.snoc r ⟨rfl,ry⟩
theorem KV.length (r:KV ι vs):ι.length=vs.length:=k7 r
end
theorem KD (r:RelV (kV k) u):(j8 P w).is k u=true:=by
 cases k with
 |inl i=>obtain⟨t,e⟩:=(show ∃t,u=AB i t from r);subst e;exact Ld P w i t
 |inr x=>obtain⟨t,e⟩:=(show ∃t,u=AD x t from r);subst e;exact KH P w x t
abbrev KT (T:Addr->List V->Prop)(H:Hp):List (List Kt×V)->List (List Kt×Addr×aw)->Prop:=jI λp q=>p.1=q.1/\TrT T H q.2.1 p.1/\RelV p.2 q.2.2
theorem KT.val (r:KT T H ι xs)(k:List Kt):wX (rW ι k) ((BE xs k).map (·.2)):=by
 induction r with
 |nil=>exact eS
 | @cons p q ps qs h t ih=>
  obtain⟨h1,_,h2⟩:=h;by_cases e:p.1=k
  ·have e':q.1=k:=h1.symm.trans e;have b:BE (q::qs) k=some q.2:=by simp[BE,ko,e']
   rw[vX e,b];exact h2
  ·have e':¬q.1=k:=λz=>e<|h1.trans z;have b:BE (q::qs) k=BE qs k:=by simp[BE,ko,e']
   rw[vI e,b];exact ih
theorem KT.repl (r:KT T H ι xs)(k:List Kt){y:V}{u:aw}(ry:RelV y u):
  KT T H (ι.map λkv=>if kv.1=k then(kv.1,y) else kv) (xs.map<|putAt k u):=by
 induction r with
 |nil=>exact .nil
 | @cons p q ps qs h t ih=>
  rw[aE,aE];refine .cons ?_ ih;obtain⟨h1,h2,h3⟩:=h;unfold putAt;by_cases e:p.1=k
  ·rw[if_pos e,if_pos<|h1.symm.trans e];exact⟨h1,h2,ry⟩
  ·rw[if_neg e,if_neg λz=>e<|h1.trans z];exact⟨h1,h2,h3⟩
theorem KT.put (r:KT T H ι xs)(k:List Kt){b:Addr}{y:V}{u:aw}(hb:TrT T H b k)(ry:RelV y u):
  KT T H (putK ι k y) (storedH xs k b u):=by
 have e:(ι.any λkv=>decide<|kv.1=k)=(BE xs k).isSome:=by
  rw[Dk,(r.val k).zH,A6]
 unfold putK storedH;rw[e];by_cases q:(BE xs k).isSome=true
 ·rw[if_pos q,if_pos q];exact r.repl k ry
 ·rw[if_neg q,if_neg q];exact Paired.snoc r ⟨rfl,hb,ry⟩
theorem KT.keeps (r:KT T H ι xs)(ht:∀b ys,H b=some (.tup ys)->H' b=some (.tup ys)):KT T H' ι xs:=
 jI.acu r λ_ _ z=>⟨z.1,z.2.1.imp ht,z.2.2⟩
section
theorem aaT (ok:HOk P w H h)(e:Rd H a u):cu P w H h a u:=e.ok ok
theorem Fp (ok:HOk P w H h)(e:Rd H a (.dK ι)):ι.length<=av/\(a==ij)=false/\∃vs,KV ι vs/\h.DictOf (j8 P w) a vs:=
 show cu P w H h a (.dK ι) from aaT ok e
theorem aav (ok:HOk P w H h)(e:H a=some (.dK ι)):ι.length<=av/\(a==ij)=false/\∃vs,KV ι vs/\h.DictOf (j8 P w) a vs:=Fp ok<|.inl e
theorem Kl (hT:∀b ks,TrT T H b ks->(mq P w).is h ks b)(ok:HOk P w H h)(e:Rd H a (.dT T ι)):ι.length<=av/\(a==ij)=false/\
  ∃xs,KT T H ι xs/\h.DictOfH (mq P w) a xs:=by
 obtain⟨z,y,xs,r,o,es,ep,h1,h2,h3,h4,h5⟩:=(show cu P w H h a (.dT T ι) from aaT ok e);refine⟨z,y,xs,r,o,es,ep,h1,h2,h3,h4,λx hx=>?_,h5⟩;have all:∀{l:List (List Kt×V)} {m:List (List Kt×Addr×aw)},KT T H l m->∀x∈m,(mq P w).is h x.1 x.2.1:=by
  intro l m q;induction q with
  |nil=>intro x hx;exact nomatch hx
  | @cons p q ps qs hq t ih=>
   intro x hx;rcases bE.mp hx with e|hx
   ·subst e;rw[← hq.1];exact hT _ _ hq.2.1
   ·exact ih x hx
 exact all r x hx
theorem Wm (hT:∀b ks,TrT T H b ks->(mq P w).is h ks b)(ok:HOk P w H h)(e:H a=some (.dT T ι)):ι.length<=av/\(a==ij)=false/\
  ∃xs,KT T H ι xs/\h.DictOfH (mq P w) a xs:=Kl hT ok<|.inl e
end
def My (K:a7)(H:Hp)(a:Addr)(y:V)(r:Option V):Prop:=
 (∃ι k,Rd H a (.dK ι)/\y=kV k/\r=rW ι k)\/∃ι k b,Rd H a (.dT (KTp K) ι)/\y=.ref b/\TrT (KTp K) H b k/\r=rW ι k
def KJ (K:a7)(H:Hp)(a:Addr)(y v:V)(H':Hp):Prop:=
 (∃ι k,H a=some (.dK ι)/\y=kV k/\ι.length<av/\H'=upd H a (.dK<|putK ι k v)) ∨
 ∃ι k b,H a=some (.dT (KTp K) ι)/\y=.ref b/\TrT (KTp K) H b k/\ι.length<av/\H'=upd H a (.dT (KTp K)<|putK ι k v)
theorem KJ.k {K:a7}{H:Hp}{a:Addr}{ι:List (Key×V)}{k:Key}{v:V}(e:H a=some (.dK ι))(hl:ι.length<av):KJ K H a (kV k) v (upd H a<|.dK<|putK ι k v):=.inl ⟨ι,k,e,rfl,hl,rfl⟩
theorem KJ.t {K:a7}{H:Hp}{a b:Addr}{ι:List (List Kt×V)}{k:List Kt}{v:V}(e:H a=some (.dT (KTp K) ι))(eb:TrT (KTp K) H b k)(hl:ι.length<av):
  KJ K H a (.ref b) v (upd H a<|.dT (KTp K)<|putK ι k v):=.inr ⟨ι,k,b,e,rfl,eb,hl,rfl⟩
section
variable {X:Cx}{π:Zp}{σ:St}{H:Hp}{s:aS}{a:Addr}{y v:V}{u r:aw}{o:Option V}{A:dP}{E:Zl}
theorem Inv.big (I:Inv X π σ H s):ij<s.heap.objs.size:=by
 have h:cE<s.heap.objs.size:=(I.mod.glob.keeps I.bk).lt;exact Nat.lt_trans (by decide) h
mutual
theorem Px (I:Inv X π σ H s):∀{n:Nat} {v:V} {k:Kt} {u:aw},Bh (KTp X.K) H n v k->RelV v u->o6 s.heap n k u
 |n,_,_,u,.k (x:=x),r=>by rw[rO];exact KD (P:=X.prog) (w:=X.w) r
 |_,_,_,u,.t (b:=b) h hs,r=>by
  cases(show u=b0 b from r);obtain⟨χ,rv,⟨o,ho,hc,m,hd⟩,_⟩:=I.tuple<|SqU.sq h;exact mW.mpr ⟨b,o,χ.toArray,m,rfl,ho,hc,hd,by simpa using JN I hs rv⟩
theorem JN (I:Inv X π σ H s):∀{n:Nat} {vs:List V} {ks:List Kt} {us:List aw},uZ (KTp X.K) H n vs ks->Vals vs us->jI (o6 s.heap n) ks us
 |_,_,_,_,.nil,.nil=>.nil
 |_,_,_,_,.cons h hs,.cons r rs=>.cons (Px I h r)<|JN I hs rs
end
theorem zQ (I:Inv X π σ H s)(e:TrT (KTp X.K) H b ks):(mq X.prog X.w).is s.heap ks b:=by
 obtain⟨vs,h,hs⟩:=e;exact Px I (.t h hs) rfl
theorem Dp (I:Inv X π σ H s):∀b ks,TrT (KTp X.K) H b ks->(mq X.prog X.w).is s.heap ks b:=λb ks e=>zQ I e
theorem wM (hu:A.units+16<pE):(mq X.prog X.w).room A.in1:=by
 show A.units+1+8<pE
 lia
theorem Sv (hu:A.units+16<pE)(I:Inv X π σ H s)(g:My X.K H a y (some v))(ry:RelV y u)(h:∀w' s',Inv X π σ H s'->RelV v w'->Q w' s'):
  bp (b6 X.prog X.w) A (xA (.ref a) u) Q E s:=by
 rcases g with⟨ι,k,e,ey,l⟩|⟨ι,k,b,e,ey,eb,l⟩
 ·subst ey;obtain⟨z,hd,vs,rel,dd⟩:=Fp I.hok e;obtain⟨w',hw,rw'⟩:=wX.some_of (v:=v) (o:=A5 vs k) (by rw[l];exact rel.val k);exact wpAny_getItem_of (KD ry) dd.mapOf hw<|h w' _ (I.tok _) rw'
 ·subst ey;cases(show u=b0 b from ry);obtain⟨z,hd,xs,rel,dd⟩:=Kl (Dp I) I.hok e;obtain⟨w',hw,rw'⟩:=wX.some_of (v:=v) (o:=(BE xs k).map (·.2)) (by rw[l];exact rel.val k);obtain⟨p,hp,hp2⟩:=nc.mp hw;refine wpAny_getItem_heap (wM hu) (zQ I eb) dd hp ?_;rw[hp2];exact h w' _ (I.tok _) rw'
theorem Yj (hu:A.units+16<pE)(I:Inv X π σ H s)(g:My X.K H a y o)(ry:RelV y u)(h:∀s',Inv X π σ H s'->Q (.bool<|!o.isSome) s'):
  bp (b6 X.prog X.w) A (fR .NotIn u<|.ref a) Q E s:=by
 rcases g with⟨ι,k,e,ey,l⟩|⟨ι,k,b,e,ey,eb,l⟩
 ·subst ey;obtain⟨z,hd,vs,rel,dd⟩:=Fp I.hok e;refine wpAny_notIn_of (KD ry) hd dd.mapOf ?_;rw[← (rel.val k).zH,← l];exact h _<|I.tok _
 ·subst ey;cases(show u=b0 b from ry);obtain⟨z,hd,xs,rel,dd⟩:=Kl (Dp I) I.hok e;refine wpAny_notIn_heap (wM hu) (zQ I eb) hd dd ?_;have q:=(rel.val k).zH;rw[A6] at q;rw[← q,← l];exact h _<|I.tok _
theorem yJ (I:Inv X π σ H s)(mu:Mut (H a))(hs:iX a s.heap h')(he:∃q,h'.get? a=some q)(new:cu X.prog X.w (upd H a ob) h' a ob):
  Inv X π σ (upd H a ob) { s with heap:=h',toks:=t' }:=
 I.write (x:=a) (e:=a) mu (.inl rfl) (λb q hb z=>(hs.2 b hb).trans z) he new
theorem Ut (z:ι.length<=av)(hd:(a==ij)=false)(rel:KV ι vs)(dd:h'.DictOf (j8 P w) a vs):
  cu P w H' h' a (.dK ι):=⟨z,hd,vs,rel,dd⟩
theorem Sw (hu:A.units+16<pE)(I:Inv X π σ H s)(g:KJ X.K H a y v H')(ry:RelV y u)(rv:RelV v r)(h:∀s',Inv X π σ H' s'->Q () s'):
  bp (b6 X.prog X.w) A (setItem (.ref a) u r) Q E s:=by
 rcases g with⟨ι,k,e,ey,l,eH⟩|⟨ι,k,b,e,ey,eb,l,eH⟩
 ·subst ey eH;obtain⟨z,hd,vs,rel,dd⟩:=aav I.hok e;have hz:vs.length<=av:=by rw[← rel.length];exact z
  have hl:(putK ι k v).length<=av:=by have:=wu ι k v;lia
  refine wpAny_setItem_pairs (hsz:=hz) (KD ry) dd λh' dd' hs=>h _ ?_;have he:∃q,h'.get? a=some q:=let⟨q,_,_,hq,_⟩:=dd';⟨q,hq⟩
  exact yJ I (by rw[e];exact eS) hs he<|Ut hl hd (rel.put k rv) dd'
 ·subst ey eH;cases(show u=b0 b from ry);obtain⟨z,hd,xs,rel,dd⟩:=Wm (Dp I) I.hok e;have hz:xs.length<=av:=by rw[← k7 rel];exact z
  have hl:(putK ι k v).length<=av:=by have:=wu ι k v;lia
  refine wpAny_setItem_heap (hsz:=hz) (wM hu) (zQ I eb) dd λh' dd' hs=>h _ ?_;refine GD dd' λq es ep hq h2 h3 h4 _ h5=>?_;refine yJ I (by rw[e];exact eS) hs ⟨q,hq⟩ ⟨hl,hd,_,(rel.put k eb rv).keeps λc ys ec=>?_,q,es,ep,hq,h2,h3,h4,h5⟩;rw[bC<|Vn ec e λz=>nomatch z];exact ec
end
section
theorem afc (I:Inv X π σ H s)(e:Rd H a (.dK ι))(h:∀t s',Inv X π σ H s'->Q (.int ι.length t) s'):bp (b6 X.prog X.w) A (call (.builtin "len") [.ref a]) Q E s:=by
 obtain⟨z,hd,vs,rel,dd⟩:=Fp I.hok e;refine call_len_dict hd dd (by rw[← rel.length];rw[pV] at z;lia) ?_;rw[← rel.length];exact h _ _<|I.tok _
end
def Yu (i:Expr):Prop:=∀ov iv,zD i false ov iv=operate [ov,iv] (xA ov iv)
theorem ZG {prog:bq}{w:dA}{A:dP}{E:Zl}{s:aS}{env:Env}{value slice:Expr}{pos:Pos}{T id:String}{Q:Zl}
  (hl:yT (.type T) "__getitem__" = pure (some<|.builtin id)) (hs:Yu slice)
  (h:bp (b6 prog w) A (eval value env) (λo s₁=>bp (b6 prog w) A (eval slice env) (λi s₂=>s₂.TypeIs o T/\bp (b6 prog w) A (xA o i) Q E s₂) E s₁) E s):
  bp (b6 prog w) A (eval (.Subscript value slice pos) env) Q E s:=by
 refine A3<|fx h (λo s₁ h₁=>fx h₁ (λi s₂ h₂=>?_) λ_ _ x=>x) λ_ _ x=>x;obtain⟨hT,h₂⟩:=h₂;unfold uu;refine ae ?_;rw[getitemInPython_of_ne hT.not_modules];refine ae<|j3 hT hl ?_;have fin:bp (b6 prog w) A (zD slice false o i) (λr s₃=>bp (b6 prog w) A (letTemporaryGo value o r >>= λ_=>pure r) Q E s₃) E s₂:=by
  rw[hs o i];exact wpAny_operating<|fx h₂ (λr s₃ h₃=>ae<|wpAny_letTemporaryGo<|ai h₃) λ_ _ x=>x
 first
  |exact ai (ae fin)
  |exact ae (ai<|ae fin)
  |exact ae fin
theorem Kh (I:Inv X π σ H s)(g:My X.K H a y o):s.TypeIs (.ref a) "dict":=by
 rcases g with⟨ι,k,e,_,_⟩|⟨ι,k,b,e,_,_,_⟩
 ·obtain⟨_,_,vs,_,dd⟩:=Fp I.hok e;exact dd.typeIs
 ·obtain⟨_,_,xs,_,dd⟩:=Kl (Dp I) I.hok e;exact dd.typeIs
def adN (K:a7)(td ty:TE):TE:=λσ H Q=>td σ H λx H1=>ty σ H1 λy H2=>∃a v,x=.ref a/\My K H2 a y (some v)/\Q v H2
def aeE (K:a7)(td ty tv:TE):TS:=λD σ H=>tv σ H λv H1=>td σ H1 λx H2=>ty σ H2 λy H3=>∃a H4,x=.ref a/\KJ K H3 a y v H4/\D.nx σ H4
section
theorem Ra (hu:X.A.units+16<pE)(ho:PE X o td)(hi:PE X i ty)(hs:Yu i):PE X (.Subscript o i pos) (adN X.K td ty):=by
 intro π s σ H Q I h;refine ZG PySem.F.slot_dict_getitem.lookup hs<|thn (ho π s σ H _ I h) λu s1 ⟨x,H1,I1,rx,q1⟩=>thn (hi π s1 σ H1 _ I1 q1) λiv s2 hE=>?_;obtain⟨y,H2,I2,ry,a,v,ex,g,q2⟩:=hE;subst ex;obtain rfl:u=b0 a:=rx;exact⟨Kh I2 g,Sv hu I2 g ry λw' s3 I3 rw'=>⟨v,H2,I3,rw',q2⟩⟩
theorem Qd (hu:X.A.units+16<pE)(ho:PE X o td)(hi:PE X i ty)(hv:PE X value tv)(hs:fg value (some<|.Subscript o i pos') pos.line X.env=pure false):
  PS X (.Assign [.Subscript o i pos'] value pos) (aeE X.K td ty tv):=by
 intro π s σ H D I h;refine wpAny_Assign_Subscript (thn (hv π s σ H _ I h) λr s1 ⟨v,H1,I1,rv,q1⟩=>thn (ho π s1 σ H1 _ I1 q1) λu s2 ⟨x,H2,I2,rx,q2⟩=>thn (hi π s2 σ H2 _ I2 q2) λiv s3 ⟨y,H3,I3,ry,a,H4,ex,g,q3⟩=>?_) hs;subst ex;obtain rfl:u=b0 a:=rx;exact Sw hu I3 g ry rv λs4 I4=>⟨σ,H4,I4,q3⟩
end
theorem Uq (h:Heap)(hb:ij<h.objs.size):cu P w H (h.push { cls:=.type "dict",data:=.dict #[] }) h.objs.size (.dK []):=
 ⟨eW _,beq_eq_false_iff_ne.mpr<|ix<|bo hb,[],.nil,Heap.DictOf.new h⟩
theorem K1 (h:Heap)(hb:ij<h.objs.size):cu P w H (h.push { cls:=.type "dict",data:=.dict #[] }) h.objs.size (.dT T []):=
 ⟨eW _,beq_eq_false_iff_ne.mpr<|ix<|bo hb,[],.nil,_,#[],0,aT _ rfl,⟨rfl,rfl,rfl⟩,rfl,rfl,List.nodup_nil⟩
def acw (K:a7):TE:=λ_ H Q=>∀p,H p=none->Q (.ref p) (upd H p<|.dT (KTp K) [])
section
theorem Ue:PE X (.Dict [] [] pos) (acw X.K):=λπ s σ H Q I h=>
 wpAny_Dict_empty ⟨.ref s.heap.objs.size,_,I.laid (a:=s.heap.objs.size) (o:=.dT (KTp X.K) []) (t':=s.toks) (λ_ _ q=>af _ q) (aI _)<|K1 s.heap I.big,rfl,h _<|I.hok.fresh<|aI _⟩
end
def Ig:List (TE×TE)->St->Hp->(List (V×V)->Hp->Prop)->Prop
 |[],_,H,Q=>Q [] H
 |(tk,tv)::r,σ,H,Q=>tk σ H λx H1=>tv σ H1 λy H2=>Ig r σ H2 λps H3=>Q ((x,y)::ps) H3
abbrev VV:List (V×V)->List (aw×aw)->Prop:=jI λp q=>RelV p.1 q.1/\RelV p.2 q.2
def PPs (X:Cx)(pos:Pos)(keys:List (Option Expr))(values:List Expr)(trs:List (TE×TE)):Prop:=
 ∀(π:Zp) (s:aS) (σ:St) (H:Hp) (Q:List (V×V)->Hp->Prop),Inv X π σ H s->Ig trs σ H Q->
  bp (b6 X.prog X.w) X.A (evalPairs<|pairTrees keys values X.env pos) (λvs s'=>∃ps H',Inv X π σ H' s'/\VV ps vs/\Q ps H') X.xe s
theorem XH:PPs X pos [] [] []:=λπ s σ H Q I h=>pairTrees_nil_walk ⟨[],H,I,.nil,h⟩
theorem wC (hk:PE X k tk)(hv:PE X v tv)(hr:PPs X pos ks vs trs):
  PPs X pos (some k::ks) (v::vs) ((tk,tv)::trs):=λπ s σ H Q I h=>
 pairTrees_cons_walk (thn (hk π s σ H _ I h) λu s1 ⟨x,H1,I1,rx,q1⟩=>thn (hv π s1 σ H1 _ I1 q1) λw2 s2 hE=>xq2 hE λy H2 I2 ry q2=>
  thn (hr π s2 σ H2 _ I2 q2) λws s3 hE=>by obtain⟨ps,H3,I3,rel,q3⟩:=hE;exact⟨(x,y)::ps,H3,I3,.cons ⟨rx,ry⟩ rel,q3⟩)
def vR (ι more:List (Key×V)):List (Key×V):=more.foldl (λacc kv=>putK acc kv.1 kv.2) ι
theorem KV.merge:∀{more:List (Key×V)} {rs:List (Key×aw)} {ι:List (Key×V)} {vs:List (Key×aw)},KV more rs->KV ι vs->KV (vR ι more) (merged vs rs):=by
 intro more rs ι vs r;unfold KV at r;induction r generalizing ι vs with
 |nil=>intro q;exact q
 | @cons p q ps qs h t ih=>
  intro r0;have e:KV (putK ι p.1 p.2) (stored vs q.1 q.2):=by
   have:=r0.put p.1 h.2
   rw[← h.1];exact this
  exact ih e
theorem w6:∀(more ι:List (Key×V)),(vR ι more).length<=ι.length+more.length
 |[],ι=>by show ι.length<=ι.length+0;lia
 |p::r,ι=>by
  have h1:=w6 r<|putK ι p.1 p.2;have h2:=wu ι p.1 p.2;show(vR (putK ι p.1 p.2) r).length<=_;rw[cK];lia
theorem CQ:∀{ι:List (Key×V)} {ws:List (aw×aw)},VV (ι.map λkv=>(kV kv.1,kv.2)) ws->∃rs,Carries (j8 P w) ws rs/\KV ι rs
 |[],_,r=>by rw[r6] at r;cases r;exact⟨[],eS,.nil⟩
 |p::ι,_,r=>by
  rw[aE] at r;cases r with
  | @cons a b as bs h t=>
   obtain⟨rs,c,q⟩:=CQ (P:=P) (w:=w) t;obtain⟨b1,b2⟩:=b;exact⟨(p.1,b2)::rs,⟨KD h.1,rfl,c⟩,.cons ⟨rfl,h.2⟩ q⟩
def adS (trs:List (TE×TE)):TE:=λσ H Q=>∀p,H p=none->Ig trs σ (upd H p<|.dK []) λps H2=>H2 p=some (.dK [])/\∃ι:List (Key×V),ps=ι.map (λkv=>(kV kv.1,kv.2))/\ι.length<=15/\Q (.ref p) (upd H2 p<|.dK<|vR [] ι)
theorem Xv (h:PPs X pos keys values trs)(hall:keys.all (·.isSome)=true)(hl:keys.length=values.length)(h0:keys≠[])
  (h15:keys.length<=15):PE X (.Dict keys values pos) (adS trs):=by
 intro π s σ H Q I q;have hn:=I.hok.fresh<|aI s.heap.objs.size;have I1:=I.laid (a:=s.heap.objs.size) (o:=.dK []) (h':=s.heap.push { cls:=.type "dict",data:=.dict #[] }) (t':=s.toks) (λ_ _ q=>af _ q) (aI _)<|Uq s.heap I.big;refine wpAny_Dict_walk (knd:=j8 X.prog X.w) hall hl h0 h15<|thn (h π _ σ _ _ I1<|q _ hn) λws s2 hE=>?_;obtain⟨ps,H2,I2,rel,e,ι,ep,lk,q2⟩:=hE;subst ep;obtain⟨rs,c,rk⟩:=CQ (P:=X.prog) (w:=X.w) rel;obtain⟨z,hd,vs0,r0,dd⟩:=aav I2.hok e;cases r0;refine⟨rs,c,dd,λh' dd' hs=>⟨.ref s.heap.objs.size,_,?_,rfl,q2⟩⟩;have hz:(vR [] ι).length<=av:=by
  have h1:=w6 ι [];rw[xE] at h1;rw[pV];lia
 have he:∃q,h'.get? s.heap.objs.size=some q:=let⟨q,_,_,hq,_⟩:=dd';⟨q,hq⟩
 exact yJ I2 (by rw[e];exact eS) hs he<|Ut hz hd (rk.merge .nil) dd'
structure M2 (X:Cx)(o:Expr)(m:Str)(apos:Pos)(e f:Expr)(ρ:Pos):Prop where
 base:gT o m X.env (eval o X.env)=eval o X.env
 few:((hV ρ (ag [e,f] X.env)).all (λx=>!x.1)&&(AO ρ (qf [] X.env)).all (λx=>x.1.isSome)
  && decide (([e,f]:List Expr).length+([]:List qh).length+(if([]:List qh).isEmpty then 0 else 1)<30))=true
 line:(apos.endLine==ρ.line)=true
 trees:hV ρ (ag [e,f] X.env)=[(false,eval e X.env),(false,eval f X.env)]
def IsD (K:a7)(H:Hp)(a:Addr):Prop:=(∃ι,Rd H a<|.dK ι)\/∃ι,Rd H a<|.dT (KTp K) ι
theorem ac0 (I:Inv X π σ H s)(d:IsD X.K H a):
  s.TypeIs (.ref a) "dict"/\(∀b,b0 a=.ref b->∃ob,s.heap.get? b=some ob/\ob.dict=none)/\(a==ij)=false:=by
 rcases d with⟨ι,e⟩|⟨ι,e⟩
 ·obtain⟨_,hd,vs,_,dd⟩:=Fp I.hok e;refine⟨dd.typeIs,λb q=>?_,hd⟩;cases q;refine Ox dd λob _ _ h1 h2 _=>?_;exact⟨ob,h1,h2.2.1⟩
 ·obtain⟨_,hd,xs,_,dd⟩:=Kl (Dp I) I.hok e;refine⟨dd.typeIs,λb q=>?_,hd⟩;cases q;refine Ox dd λob _ _ h1 h2 _=>?_;exact⟨ob,h1,h2.2.1⟩
section
end
section
end
section
end
section
end
section
end
section
variable {κ:Type}[DecidableEq κ]
end
end L2
namespace Hd
open PySem PySem.Spec PyProof.Rows L2
theorem bL (h:H p=none)(o:HO):aM H (upd H p o):=λb u q=>by
 rw[bC<|mY q h];exact q
section
theorem bG (h:PE X e T)(k:∀σ H Q,T' σ H Q->T σ H Q):PE X e T':=λπ s σ H Q I q=>h π s σ H Q I<|k σ H Q q
def clA (t:TA):TA:=λσ H Q=>∃R,t σ H R/\∀xs H1,R xs H1->Q xs H1
theorem aaq (h:PA X es t):PA X es (clA t):=λpos π s σ H Q I ⟨R,hR,k⟩=>thn (h pos π s σ H R I hR) λ_ _ hE=>xq2 hE λvs H1 I1 r q=>⟨vs,H1,I1,r,k _ _ q⟩
def adQ (t:TA):TE:=λσ H Q=>t σ H λxs H1=>xs.length<=av/\∀p H',aM H1 H'->H' p=some (.tup xs)->Q (.ref p) H'
theorem Qi (h:PA X es t):PE X (.Tuple es x1 pos) (adQ t):=
 bG (Ur<|aaq h) λ_ _ _ q=>⟨_,q,λ_ _ ⟨z,k⟩=>⟨z,λp hp=>k p _ (bL hp _) aZ⟩⟩
end
abbrev c7 (X:Cx)(N':List Str)(scope:sj)(cl:List (Str×Addr))(C:Addr)(sE:aS)(HE:Hp)(fp:List Addr)(π:Zp):Cx:=
 { X with N:=N',s₀:=sE,H₀:=HE,env:=compEnvC scope cl C X.env,outer:=X.stack,ex:=fp,fn:=λ_=>false,pn:=X.pn++π,xe:=λ_ _=>False }
structure CSc (sc scope:sj)(caps:List Str):Prop where
 kind:scope.kind=.function
 nocell:∀y∈scope.names,y.2≠.cell
 loc:∀y∈scope.names,y.2=.local->scope.names.lookup y.1=some .local
 free:∀y∈scope.names,y.2=.free->sc.names.lookup y.1=some .cell\/sc.names.lookup y.1=some .free
 caps:∀x∈caps,scope.names.lookup x=some .free/\(sc.names.lookup x=some .cell\/sc.names.lookup x=some .free)
theorem mem_of_lookup:∀{l:List (Str×β)} {x:Str} {k:β},l.lookup x=some k->(x,k)∈l
 |[],_,_,h=>by simp at h
 |(n,k')::r,x,k,h=>by
  rw[dy] at h;split at h
  ·rename_i e;have e':x=n:=by simpa using e
   cases h;rw[e'];exact ar
  ·exact ah _<|mem_of_lookup h
theorem yU {env:Env}:∀{names:List (Str×uk)} {x:Str},names.lookup x=some .free->
  (names.map λ(n,k)=>if(k==fA&&env.scope.kind==.function&&env.kindOf n==some .cell) then(n,kF) else(n,k)).lookup x=some .cell ∨
  (names.map λ(n,k)=>if(k==fA&&env.scope.kind==.function&&env.kindOf n==some .cell) then(n,kF) else(n,k)).lookup x=some .free
 |[],_,h=>by simp at h
 |(n,k)::r,x,h=>by
  have ih:=@yU env r x;show ia x ((if(k==fA&&env.scope.kind==.function&&env.kindOf n==some .cell)=true then(n,kF) else(n,k))::_)=_\/ia x ((if(k==fA&&env.scope.kind==.function&&env.kindOf n==some .cell)=true then(n,kF) else(n,k))::_)=_;cases hx:x==n with
  |true=>
   simp only[dy,hx] at h;cases h;by_cases hc:(fA==fA&&env.scope.kind==.function&&env.kindOf n==some .cell)=true
   ·rw[if_pos hc];simp only[dy,hx];exact .inl trivial
   ·rw[if_neg hc];simp only[dy,hx];exact .inr trivial
  |false=>
   simp only[dy,hx] at h;by_cases hc:(k==fA&&env.scope.kind==.function&&env.kindOf n==some .cell)=true
   ·rw[if_pos hc];simp only[dy,hx];exact ih h
   ·rw[if_neg hc];simp only[dy,hx];exact ih h
theorem Cd {env:Env}:∀{names:List (Str×uk)} {x:Str},(∀y∈names,y.2≠.cell)->
  ((names.map λ(n,k)=>if(k==fA&&env.scope.kind==.function&&env.kindOf n==some .cell) then(n,kF) else(n,k)).lookup x=some .cell ∨
  (names.map λ(n,k)=>if(k==fA&&env.scope.kind==.function&&env.kindOf n==some .cell) then(n,kF) else(n,k)).lookup x=some .free)->names.lookup x=some .free
 |[],_,_,h=>by simp at h
 |(n,k)::r,x,hn,h=>by
  have ih:=@Cd env r x λy hy=>hn y<|ah _ hy;have h':ia x ((if(k==fA&&env.scope.kind==.function&&env.kindOf n==some .cell)=true then(n,kF) else(n,k))::_)=some .cell\/ia x ((if(k==fA&&env.scope.kind==.function&&env.kindOf n==some .cell)=true then(n,kF) else(n,k))::_)=some .free:=h;have hk:k≠.cell:=hn (n,k) ar;by_cases hc:(k==fA&&env.scope.kind==.function&&env.kindOf n==some .cell)=true
  ·rw[if_pos hc] at h';have kf:k=.free:=by
    simp only[g7,beq_iff_eq] at hc;exact hc.1.1
   subst kf;cases hx:x==n with
   |true=>simp only[dy,hx]
   |false=>
    simp only[dy,hx] at h' ⊢;exact ih h'
  ·rw[if_neg hc] at h';cases hx:x==n with
   |true=>
    simp only[dy,hx] at h' ⊢;rcases h' with z|z
    ·exact absurd (b9 z) hk
    ·exact z
   |false=>
    simp only[dy,hx] at h' ⊢;exact ih h'
theorem xN:∀(names:List (Str×uk)) (acc:List (Str×Addr)),(∀y∈names,y.2=.free->∃c,env.cells.lookup y.1=some c)->
  ∃cl,(forIn names acc λ(y:Str×uk) (cs:List (Str×Addr))=>(if y.2==.free then do let c←cellOf env y.1;pure (qk ((y.1,c)::cs)) else pure (qk cs):Sem (ForInStep<|List<|Str×Addr)))=pure cl/\
   (∀x c,cl.lookup x=some c->acc.lookup x=some c\/env.cells.lookup x=some c)/\(∀x c,acc.lookup x=some c->∃c',cl.lookup x=some c')/\∀y∈names,y.2=.free->∃c,cl.lookup y.1=some c
 |[],acc,_=>⟨acc,rfl,λ_ _ e=>.inl e,λ_ c e=>⟨c,e⟩,λ_ z=>nomatch z⟩
 |(n,k)::r,acc,h=>by
  have hr:∀y∈r,y.2=.free->∃c,env.cells.lookup y.1=some c:=λy hy=>h y<|ah _ hy;by_cases hk:(k==fA)=true
  ·obtain⟨c,hc⟩:=h (n,k) ar (by simpa using hk);refine Cv (xN r ((n,c)::acc) hr) λcl e h1 h2 h3=>?_;refine⟨cl,?_,λx d q=>?_,λx d q=>?_,λy hy q=>?_⟩
   ·have ec:cellOf env n=pure c:=by unfold cellOf;rw[show env.cells.lookup n=some c from hc]
    rw[xI];simp only[hk,if_true,ec,pure_bind];exact e
   ·rcases h1 x d q with z|z
    ·rw[dy] at z;split at z
     ·rename_i e1;have e1':x=n:=by simpa using e1
      cases z;rw[e1'];exact .inr hc
     ·exact .inl z
    ·exact .inr z
   ·by_cases e1:(x==n)=true
    ·exact h2 x c<|by rw[dy,e1]
    ·exact h2 x d (by rw[dy];simp only[Bool.not_eq_true] at e1;rw[e1];exact q)
   ·rcases bE.mp hy with z|z
    ·subst z;exact h2 n c (by rw[dy];simp)
    ·exact h3 y z q
  ·refine Cv (xN r acc hr) λcl e h1 h2 h3=>?_;refine⟨cl,?_,h1,h2,λy hy q=>?_⟩
   ·rw[xI];simp only[hk,if_false,pure_bind,fT];exact e
   ·rcases bE.mp hy with z|z
    ·subst z;exact absurd (show(k==fA)=true by simpa using q) hk
    ·exact h3 y z q
theorem Aw (h:∀y∈scope.names,y.2=.free->∃c,env.cells.lookup y.1=some c):
  ∃cl,closureFor scope env=pure cl/\(∀x c,cl.lookup x=some c->env.cells.lookup x=some c)/\∀y∈scope.names,y.2=.free->∃c,cl.lookup y.1=some c:=by
 refine Cv (xN scope.names [] h) λcl e h1 _ h3=>?_;refine⟨cl,?_,λx c q=>(h1 x c q).elim (λz=>by simp at z) id,h3⟩;unfold closureFor;simp only[bind_pure];refine Eq.trans ?_ e;rfl
section
variable {X:Cx}{π:Zp}{σ:St}{HE:Hp}{sE:aS}{N':List Str}{scope sc:sj}{cl:List (Str×Addr)}{fp:List Addr}{caps:List Str}
theorem Xu (I:Inv X π σ HE sE)(S:CSc sc scope caps)(hfp:∀b∈fp,zE X π HE b/\b<sE.heap.objs.size)
  (hc1:∀x c,cl.lookup x=some c->X.env.cells.lookup x=some c) (hc2:∀y∈scope.names,y.2=.free->∃c,cl.lookup y.1=some c):
  (c7 X N' scope cl sE.heap.objs.size sE HE fp π).Ok where
 mod:=I.ok.mod
 kind:=S.kind
 glob:=I.ok.glob
 blt:=I.ok.blt
 above:=aI _
 inj:=λx y c h1 h2=>I.ok.inj x y c (hc1 x c h1)<|hc1 y c h2
 has:=λx h=>hc2 (x,.free) (mem_of_lookup<|Cd S.nocell h) rfl
 cab:=λx c h=>nomatch h
 hd:=I.ok.hd
 frames:=I.ok.frames
 stk:=.inl rfl
 exf:=λb hb=>⟨bo (hfp b hb).2,λx c h=>(hfp b hb).1.2.2.2.2.1 x c<|hc1 x c h⟩
 bs:=I.bs
 bsz:=dr I.ok.bsz I.sz
 noex:=λb o e hb=>by
  rcases(hfp b hb).1.2.2.2.1 with z|z
  ·exact I.ok.noex b o e z
  ·exact absurd (br (ay e)<|dr I.ok.bsz z)<|eT _
 exfs:=λb hb hz=>by
  rcases bE.mp (I.Hi b hz) with z|z
  ·exact(hfp b hb).1.2.1 z
  ·exact(hfp b hb).1.2.2.1 z
 tD:=I.stack
 frf:=I.yW
theorem Wd {cap:List Nat}{h':Heap}(I:Inv X π σ HE sE)(S:CSc sc scope caps)(hsc:X.env.scope=sc)(hfp:∀b∈fp,zE X π HE b/\b<sE.heap.objs.size)
  (hc1:∀x c,cl.lookup x=some c->X.env.cells.lookup x=some c) (hc2:∀y∈scope.names,y.2=.free->∃c,cl.lookup y.1=some c)
  (hN:N'.drop k=caps) (hk:k<=N'.length) (hcap:jI (λj x=>X.N[j]? = some x) cap caps) {m:Zaa}
  (kp:∀b o,sE.heap.get? b=some o->h'.get? b=some o) (hns:h'.Ns sE.heap.objs.size m) (tk:Nat):
  Inv (c7 X N' scope cl sE.heap.objs.size sE HE fp π) [] (bP k none++cap.map λj=>(σ[j]?).join) HE { sE with heap:=h',toks:=tk } where
 ok:=Xu I S hfp hc1 hc2
 os:=rfl
 bare:=I.bare
 base:=Un.kept kp
 loc:=by
  refine⟨m,hns,λi x v e1 e2 e3=>?_⟩;have hik:k<=i:=by
   by_cases z:k<=i
   ·exact z
   ·rw[cS (by simp;lia),fy] at e2;rw[if_pos<|by lia] at e2;cases e2
  obtain⟨j',rfl⟩:∃j',i=k+j':=⟨i-k,by lia⟩;rw[c9 (by simp),ic,Nat.add_sub_cancel_left,bg] at e2;have hx:caps[j']? = some x:=by rw[← hN,sg];exact e1
  have:∀{l:List Nat} {l':List Str} {i:Nat},jI (λj x=>X.N[j]? = some x) l l'->l'[i]? = some x->∃j,l[i]? = some j/\X.N[j]? = some x:=by
   intro l l' i p;induction p generalizing i with
   |nil=>intro z;simp at z
   |cons a _ ih=>
    intro z;cases i with
    |zero=>simp at z;subst z;exact⟨_,rfl,a⟩
    |succ i=>exact ih (by simpa using z)
  obtain⟨j,hj,hNj⟩:=this hcap hx;rw[hj] at e2;have e2':σ[j]? = some (some v):=by
   cases q:σ[j]? with
   |none=>rw[iP,q] at e2;cases e2
   |some o=>
    rw[iP,q] at e2
    have:o=some v:=b9 e2
    rw[this]
  obtain⟨hxf,hxo⟩:=S.caps x<|y6 hx;rw[← hsc] at hxo;obtain⟨m0,_,hl⟩:=I.loc;obtain⟨u,r,L⟩:=hl j x v hNj e2'<|hxo.elim (λz=>.inr<|.inl z) λz=>.inr<|.inr z;refine⟨u,r,.inr ⟨yU hxf,?_⟩⟩;rcases L with⟨z,_⟩|⟨_,c,hc,hcell⟩
  ·have z':X.env.scope.names.lookup x=some .local:=z;rcases hxo with q|q<;>rw[z'] at q<;>cases q
  ·obtain⟨c',hc'⟩:=hc2 (x,.free) (mem_of_lookup hxf) rfl;have e:=hc1 x c' hc';rw[hc] at e;cases e;obtain⟨o,ho,hd⟩:=hcell;exact⟨c,hc',o,kp c o ho,hd⟩
 cell:=λx c e=>by
  obtain⟨v,o,ho,hd⟩:=I.cell x c<|hc1 x c e;exact⟨v,o,kp c o ho,hd⟩
 free:=I.hok.fresh<|aI _
 freeC:=λx c e=>I.freeC x c<|hc1 x c e
 pin:=λp hp=>by
  rw[cw] at hp;refine Fe (I.pin p hp) λe n ne nf d=>?_;refine⟨kp _ _ e,n,bo<|ay e,λz=>?_,d⟩;rcases bE.mp (I.Hi p.1 z) with q|q
  ·exact ne q
  ·exact nf q
 hok:=I.hok.kept kp
 len:=by
  show(bP k none++cap.map λj=>(σ[j]?).join).length=N'.length
  have:=hcap.length
  rw[← hN,l7] at this
  simp
  lia
theorem comp_back (I:Inv X π σ HE sE)(hfp:∀b∈fp,zE X π HE b/\b<sE.heap.objs.size)
  (I':Inv (c7 X N' scope cl sE.heap.objs.size sE HE fp π) p' σ' H' s'):Inv X π σ H' s':=
 I.call' (ch:=fp) I'.os I'.base I'.hok I'.bare λb hb=>⟨(hfp b hb).1.2.2.2.1,(hfp b hb).1.2.1,(hfp b hb).1.2.2.2.2.1,(hfp b hb).1.2.2.2.2.2⟩
end
theorem Jo (I:Inv X π σ HE sE)(I':Inv X π σ' H' s')(hn:H' sE.heap.objs.size=none)
  (hs:iX sE.heap.objs.size s'.heap h'):Inv X π σ' H' { s' with heap:=h' }:=by
 refine I'.turned (t':=s'.toks) (λb o hb e=>(hs.2 b hb).trans e) hn (nN I.lt) (.inr I.sz) (λx c e z=>?_) λp hp z=>?_
 ·obtain⟨v,q⟩:=I.cell x c e;exact absurd q.lt (by rw[z];exact eT _)
 ·exact absurd (ay (I.pin p hp).1) (by rw[z];exact eT _)
def TF (X:Cx)(ifs:List Expr)(t:TT):Prop:=
 ∀(π:Zp) (s:aS) (σ:St) (H:Hp) (Q:Bool->Hp->Prop),Inv X π σ H s->t σ H Q->
  bp (b6 X.prog X.w) X.A (forIn ifs true λc r=>if r=true then do let ok←isTrue c X.env (eval c X.env);pure (qk ok) else pure (qk r)) (TP X π σ Q) X.xe s
def afr:TT:=λ_ H Q=>Q true H
theorem Zn:TF X [] afr:=λ_ _ _ H _ I q=>wpAny_tests_nil ⟨H,I,q⟩
theorem X6 (h:PT X c t):TF X [c] t:=λπ s σ H Q I q=>wpAny_tests_one<|h π s σ H Q I q
noncomputable def cSt (k:Nat)(cap:List Nat)(σ:St):St:=bP k none++cap.map λj=>(σ[j]?).join
def aeJ (J:It)(k:Nat)(cap:List Nat)(g:TG)(tt:TT)(te:TE)(σ:St)(H1:Hp)(l:Addr)(Q:VK):Prop:=
 ∃W:Nat->Nat->List V->Hp->Prop,(∃m,W 0 m []<|upd H1 l<|.lst [])/\∀i m ys H,W i m ys H->
  (J.stop i H/\Q (.ref l) H)\/(J.go i H/\∀x H',J.yld i H x H'->g x (cSt k cap σ) H' λσ2 H3=>σ2.drop k=(cSt k cap σ).drop k/\tt σ2 H3 λb H4=>
   if b=true then te σ2 H4 λy H5=>H5 l=some (.lst ys)/\ys.length<av/\∃m',m'<m/\W (i+1) m' (ys++[y]) (upd H5 l<|.lst<|ys++[y])
   else ∃m',m'<m/\W (i+1) m' ys H4)
def Rm (k:Nat)(cap:List Nat)(wi:TI)(g:TG)(tt:TT)(te:TE):TE:=λσ H Q=>wi σ H λJ H1=>∀l,H1 l=none->aeJ J k cap g tt te σ H1 l Q
section
theorem mH (hcalm:X.calm=true)(S:CSc sc scope caps)(hsc:X.env.scope=sc)(hN:N'.drop k=caps)(hk:k<=N'.length)(hcap:jI (λj x=>X.N[j]? = some x) cap caps)
  (hi:PI Calm X tg iter wi) (hg:∀cl C sE HE fp π,PG (c7 X N' scope cl C sE HE fp π) tg g) (ht:∀cl C sE HE fp π,TF (c7 X N' scope cl C sE HE fp π) ifs tt) (he:∀cl C sE HE fp π,PE (c7 X N' scope cl C sE HE fp π) elt te)
  (I:Inv X π σ H s) (h:Rm k cap wi g tt te σ H Q) {cl:List (Str×Addr)} (hc1:∀x c,cl.lookup x=some c->X.env.cells.lookup x=some c) (hc2:∀y∈scope.names,y.2=.free->∃c,cl.lookup y.1=some c)
  {RR:aw->Addr->Result->aS->Prop}
  (hRR:∀l sE HE H' s' m,Inv X π σ HE sE->Inv X π σ H' s'->H' sE.heap.objs.size=none->s'.heap.Ns sE.heap.objs.size m->Q (.ref l) H'->RR (.ref l) sE.heap.objs.size (.ok .next) s'):
  bp (b6 X.prog X.w) X.A (eval iter X.env) (λxv s₁=>bp (b6 X.prog X.w) X.A (pyIter xv) (λit s₂=>bp (b6 X.prog X.w) X.A (newList []) (λacc s₃=>
   bp (b6 X.prog X.w) X.A (newFunctionEnv scope X.env.globals cl [] X.env.qual none .none<|some X.env) (λcenv s₄=>
    xw (b6 X.prog X.w) X.A (.compStart (.ListComp elt [⟨tg,iter,ifs,0⟩] scope pos) 0 it acc { cenv with scope:=relabel scope X.env }) (RR acc cenv.locals) s₄) X.xe s₃) X.xe s₂) X.xe s₁) X.xe s:=by
 refine thn (hi π s σ H _ I h) λv s1 h1=>thn h1 λitv s2 h2=>?_;obtain⟨it,fp,tn,J,H1,e,I1,T,st1,f1,q1⟩:=h2;subst e;refine wpAny_newList ?_;have hfree:H1 s2.heap.objs.size=none:=I1.hok.fresh<|aI _;have fpl:∀b∈fp,b<s2.heap.objs.size:=λb hb=>by
  obtain⟨o,e,_⟩:=T.obj _ _ st1 b hb;exact ay e
 generalize hE:({ s2 with heap:=s2.heap.push { cls:=.type "list",data:=.seq ([]:List aw).toArray } }:aS)=sE;have k2:∀b o,s2.heap.get? b=some o->sE.heap.get? b=some o:=λb o e=>by rw[← hE];exact af _ e
 have szE:s2.heap.objs.size<sE.heap.objs.size:=by rw[← hE];show _<(s2.heap.push _).objs.size;rw[zk];exact wq _
 have IE:Inv X π σ (upd H1 s2.heap.objs.size<|.lst []) sE:=by
  rw[← hE];refine I1.laid (t':=s2.toks) (λb o e=>af _ e) (aI _) ?_;exact⟨eW _,[],0,.nil,aT _ rfl⟩
 have fE:∀b∈fp,zE X π (upd H1 s2.heap.objs.size<|.lst []) b/\b<sE.heap.objs.size:=λb hb=>
  ⟨⟨by rw[bC<|bo<|fpl b hb];exact(f1 b hb).1,(f1 b hb).2⟩,Nat.lt_trans (fpl b hb) szE⟩
 obtain⟨W,⟨m0,w0⟩,turn⟩:=q1 _ hfree;generalize hl:s2.heap.objs.size=l at *;clear hl;generalize hHE:upd H1 l (.lst [])=HE at *;refine wpAny_newFunctionEnv S.nocell (by intro y hy;simp at hy) (λh₁ hns₁ hsb₁=>?_) S.kind;have kE:∀b o,sE.heap.get? b=some o->h₁.get? b=some o:=λb o e=>(hsb₁.2 b<|bo<|ay e).trans<|af _ e;have I0:=Wd (k:=k) (cap:=cap) (N':=N') IE S hsc fE hc1 hc2 hN hk hcap kE hns₁<|sE.toks+([]:List (Str×aw)).length;have st0:tn 0 h₁:=T.keep _ _ _ st1 λb hb o e=>kE b o<|k2 b o e;have hX:∀{H':Hp},(∀b∈fp,H' b=none)->∀b∈fp,zE (c7 X N' scope cl sE.heap.objs.size sE HE fp π) [] H' b:=λhn b hb=>
  ⟨hn b hb,(I0.ok.exf b hb).1,I0.ok.exfs b hb,.inl hb,(I0.ok.exf b hb).2,λp hp=>by
   rw[cw] at hp;exact(fE b hb).1.2.2.2.2.2 p hp⟩
 have loop:∀s₃:aS,s₃={ sE with heap:=h₁,toks:=sE.toks+([]:List (Str×aw)).length }->
   xw (b6 X.prog X.w) X.A (.compLoop (.ListComp elt [⟨tg,iter,ifs,0⟩] scope pos) 0 (.ref it) (.ref l)<|compEnvC scope cl sE.heap.objs.size X.env) (RR (.ref l) sE.heap.objs.size) s₃:=by
  rintro s₃ rfl;refine codeAny_loop rfl (λn s'=>∃i ys H',Inv (c7 X N' scope cl sE.heap.objs.size sE HE fp π) [] (cSt k cap σ) H' s'/\tn i s'.heap/\(∀b∈fp,H' b=none)/\W i n ys H') (λn s3 hI=>?_) m0
   ⟨0,[],HE,I0,st0,λb hb=>(fE b hb).1.1,w0⟩
  refine Qw hI λi ys H3 I3 st3 fr3 w3=>?_;show bp _ X.A ((compTurn (.ListComp elt [⟨tg,iter,ifs,0⟩] scope pos) 0 (.ref it) (.ref l)<|compEnvC scope cl sE.heap.objs.size X.env).onRaise (λx=>do noteFrame x (compEnvC scope cl sE.heap.objs.size X.env);theTreesLotGoes x)) _ _ s3;refine wpAny_noted ?_;rw[compTurn_list];refine ae<|k8<|ae ?_;rcases turn i n ys H3 w3 with⟨stop,qn⟩|⟨go,step⟩
  ·refine fx (T.done (c7 X N' scope cl sE.heap.objs.size sE HE fp π) rfl rfl rfl hcalm i [] s3 _ H3 (λ_ _=>False) I3 (hX fr3) st3 stop) (λr s4 ⟨hr,I4⟩=>?_) λ_ _ z=>z.elim;subst hr;obtain⟨m4,hn4,_⟩:=I4.loc;exact ai<|hRR l sE HE H3 s4 m4 IE (comp_back IE fE I4) I4.free hn4 qn
  ·refine fx (T.item (c7 X N' scope cl sE.heap.objs.size sE HE fp π) rfl rfl rfl hcalm i [] s3 _ H3 (λ_ _=>False) I3 (hX fr3) st3 go) (λr s4 ⟨u,hr,h4⟩=>?_) λ_ _ z=>z.elim;subst hr;refine ae<|fx h4 (λ_ s5 ⟨x,H5,I5,r5,y5,st5,fr5⟩=>?_) λ_ _ z=>z.elim;have I5':=I5.pinned (hX fr5)<|T.obj _ _ st5;refine ae<|fx (hg _ _ _ _ _ _ _ s5 _ H5 x u _ I5' r5<|step x H5 y5) (λ_ s6 ⟨σ6,H6,I6,q6⟩=>?_) λ_ _ z=>z.elim;obtain⟨d6,q6⟩:=q6;have weak:∀{H7 s7},Inv (c7 X N' scope cl sE.heap.objs.size sE HE fp π) ([]++xT fp s5.heap) σ6 H7 s7->Inv (c7 X N' scope cl sE.heap.objs.size sE HE fp π) ([]++xT fp s5.heap) (cSt k cap σ) H7 s7:=λ{H7 s7} I7=>by
    refine I7.weak (I0.len.trans I7.len.symm) λj v e=>?_;by_cases z:k<=j
    ·obtain⟨j',rfl⟩:∃j',j=k+j':=⟨j-k,by lia⟩;rw[← sg] at e ⊢;rw[d6];exact e
    ·unfold cSt at e;rw[cS (by simp;lia),fy,if_pos<|by lia] at e;cases e
   have again:∀{H7:Hp} {s7:aS} {zs:List V},Inv (c7 X N' scope cl sE.heap.objs.size sE HE fp π) ([]++xT fp s5.heap) σ6 H7 s7->(∃m',m'<n/\W (i+1) m' zs H7)->
     ∃m,m<n/\∃i ys H',Inv (c7 X N' scope cl sE.heap.objs.size sE HE fp π) [] (cSt k cap σ) H' s7/\tn i s7.heap/\(∀b∈fp,H' b=none)/\W i m ys H':=λ{H7 s7 zs} I7 ⟨m',hm,w7⟩=>by
    refine⟨m',hm,i+1,zs,H7,(weak I7).yP,T.keep _ _ _ st5 λb hb o e=>(I7.pin (b,o)<|dQ _<|dQ _<|uN hb e).1,λb hb=>?_,w7⟩;obtain⟨o,e,d⟩:=T.obj _ _ st5 b hb;exact(I7.pin (b,o)<|dQ _<|dQ _<|uN hb e).2.1
   refine ae<|fx (ht _ _ _ _ _ _ _ s6 σ6 H6 _ I6 q6) (λb s7 ⟨H7,I7,q7⟩=>?_) λ_ _ z=>z.elim;cases b with
   |false=>
    rw[if_neg bb] at q7;exact ai ⟨rfl,again I7 q7⟩
   |true=>
    rw[if_pos rfl] at q7;refine ae<|ae<|fx (he _ _ _ _ _ _ _ s7 σ6 H7 _ I7 q7) (λyv s8 ⟨y,H8,I8,r8,hl8,hz8,q8⟩=>?_) λ_ _ z=>z.elim;refine ae (fx (zO (X:=c7 X N' scope cl sE.heap.objs.size sE HE fp π) _ s8 σ6 H8 (.ref l) [y] (.ref l) [yv] (λ_ H9=>H9=upd H8 l (.lst<|ys++[y])) I8 rfl (.cons r8 .nil) ⟨l,ys,y,rfl,rfl,hl8,hz8,rfl⟩)
     (λ_ s9 ⟨_,H9,I9,_,e9⟩=>?_) λ_ _ z=>z.elim)
    subst e9;exact ai<|ai ⟨rfl,again I9 q8⟩
 exact codeAny_compStart_list (loop _ rfl)<|T.self _ 0 _ _ _ st0<|loop _ rfl
theorem YS (sc:sj)(N' caps:List Str)(k:Nat)(cap:List Nat)(hcalm:X.calm=true)(S:CSc sc scope caps)(hcap:jI (λj x=>X.N[j]? = some x) cap caps)
  (hi:PI Calm X tg iter wi) (hg:∀cl C sE HE fp π,PG (c7 X N' scope cl C sE HE fp π) tg g) (ht:∀cl C sE HE fp π,TF (c7 X N' scope cl C sE HE fp π) ifs tt) (he:∀cl C sE HE fp π,PE (c7 X N' scope cl C sE HE fp π) elt te)
  (hsc:X.env.scope=sc:=by rfl) (hN:N'.drop k=caps:=by rfl) (hk:k<=N'.length:=by decide) (hs:∀x,gE iter X.env x=pure x:=by intro _;rfl):
  PE X (.ListComp elt [⟨tg,iter,ifs,0⟩] scope pos) (Rm k cap wi g tt te):=by
 intro π s σ H Q I h;obtain⟨cl,hcl,hc1,hc2⟩:=Aw (scope:=scope) (env:=X.env) λy hy e=>I.ok.has y.1 (by
  have z:=S.free y hy e;rw[← hsc] at z;exact z)
 rw[eval_ListComp];refine tq (use:=none) rfl hs hcl S.kind S.loc<|mH (RR:=λacc C=>compPost (b6 X.prog X.w) X.A X.xe none (EP X π σ Q) acc C) hcalm S hsc hN hk hcap hi hg ht he I h hc1 hc2 ?_;intro l sE HE H' s' m IE I' hn hns q;exact⟨m,hns,λh' hs'=>⟨.ref l,H',Jo IE I' hn hs',rfl,q⟩⟩
theorem Dg (sc:sj)(N' caps:List Str)(k:Nat)(cap:List Nat)(hnd:X.N.Nodup)(hi':X.N[i]? = some y)(hy:Loc X.env.scope y)(hcalm:X.calm=true)(S:CSc sc scope caps)(hcap:jI (λj x=>X.N[j]? = some x) cap caps)
  (hi:PI Calm X tg iter wi) (hg:∀cl C sE HE fp π,PG (c7 X N' scope cl C sE HE fp π) tg g) (ht:∀cl C sE HE fp π,TF (c7 X N' scope cl C sE HE fp π) ifs tt) (he:∀cl C sE HE fp π,PE (c7 X N' scope cl C sE HE fp π) elt te)
  (υ:fg (.ListComp elt [⟨tg,iter,ifs,0⟩] scope pos) (some<|.Name y py) spos.line X.env=pure true:=by rfl)
  (hsc:X.env.scope=sc:=by rfl) (hN:N'.drop k=caps:=by rfl) (hk:k<=N'.length:=by decide) (hs:∀x,gE iter X.env x=pure x:=by intro _;rfl)
  (hf:X.fn y=true\/X.env.scope.names.lookup y=some .local:=by first|exact .inl rfl|exact .inr rfl|assumption):
  PS X (.Assign [.Name y py] (.ListComp elt [⟨tg,iter,ifs,0⟩] scope pos) spos) (W4 (Rm k cap wi g tt te)<|Eb i):=by
 intro π s σ H D I h;obtain⟨cl,hcl,hc1,hc2⟩:=Aw (scope:=scope) (env:=X.env) λy hy e=>I.ok.has y.1 (by
  have z:=S.free y hy e;rw[← hsc] at z;exact z)
 rw[exec_Assign_Name_used _ _ _ _ υ];refine ae<|k8<|ae ?_;show bp _ X.A (do let _←comprehension (.ListComp elt [⟨tg,iter,ifs,0⟩] scope pos) scope X.env _ (newList []) false (eval iter X.env) (some<|xi (.Name y py) X.env)) _ _ s;refine ae (fx (tq (use:=some<|xi (.Name y py) X.env) (Q:=λ_ s'=>SP X π D .next s') rfl hs hcl S.kind S.loc
  (mH (RR:=λacc C=>compPost (b6 X.prog X.w) X.A X.xe (some<|xi (.Name y py) X.env) (λ_ s'=>SP X π D .next s') acc C) hcalm S hsc hN hk hcap hi hg ht he I h hc1 hc2 ?_)) (λ_ s' hq=>ai<|ai hq) λ_ _ e=>e)
 intro l sE HE H' s' m IE I' hn hns q;show bp _ X.A (xi (.Name y py) X.env<|.ref l) _ _ _;refine wpAny_assign_Name<|GF I' hnd hi' hy (v:=.ref l) rfl (λs2 I2 hb=>?_) hf;obtain⟨a,hsb,ha⟩:=hb;have hne:sE.heap.objs.size≠a:=λz=>by
  rcases ha with e|e
  ·exact absurd IE.lt (by rw[← e,← z];exact eT _)
  ·obtain⟨v,q⟩:=IE.cell y a e;exact absurd q.lt (by rw[z];exact eT _)
 exact⟨m,hns.sameBut hsb hne,λh' hs'=>⟨_,H',Jo IE I2 hn hs',q⟩⟩
end
inductive TyK (K:a7)(H:Hp):V->aw->Prop where
 |of {v:V} {t:aw}:zV K H v t->TyK K H v t
 |tup {a:Addr} {xs:List V}:SqT K H a xs->TyK K H (.ref a) (.type "tuple")
 |lst {a:Addr} {xs:List V}:SqL K H a xs->TyK K H (.ref a) (.type "list")
section
def ad3 (K:a7):List V->Hp->VK->Prop:=λxs H Q=>∃x c t cv b,xs=[x,c]/\XJ c=some cv/\TyK K H x t/\bS K t cv=some b/\Q (.bl b) H
theorem Ry:iW X (.builtin "isinstance") (ad3 X.K):=by
 intro π s σ H xs us Q I r h;obtain⟨x,c,t,cv,b,rfl,rc,ty,e,q⟩:=h;obtain⟨u,w',rfl,ru,rw'⟩:=vals2 r;have z:=Jq rc rw';subst z;cases ty with
 |of ty=>exact RW I ru ty e λtk=>⟨.bl b,H,I.tok _,rfl,q⟩
 | @tup a xs hs=>
  cases(show u=b0 a from ru);obtain⟨χ,_,⟨o,h1,h2,_⟩,_⟩:=I.tuple hs;exact iN W.kitx_tuple I.kIn ⟨o,h1,h2⟩ e (λz=>nomatch z) λtk=>⟨.bl b,H,I.tok _,rfl,q⟩
 | @lst a xs hs=>
  cases(show u=b0 a from ru);obtain⟨χ,_,⟨o,n,h1,h2,_⟩,_⟩:=I.list hs;exact iN W.kitx_list I.kIn ⟨o,h1,h2⟩ e (λz=>nomatch z) λtk=>⟨.bl b,H,I.tok _,rfl,q⟩
end
theorem Rd.mono (h:Rd H a u)(g:aM H H'):Rd H' a u:=h.elim (λe=>.inl<|g _ _ e) λ⟨o,e⟩=>.inr ⟨o,g _ _ e⟩
theorem Jw {K:a7}{H H':Hp}{a:Addr}{xs:List V}(h:SqL K H a xs)(g:aM H H'):SqL K H' a xs:=h.elim (λe=>.inl<|Rd.mono e g) .inr
def SameBut (l:Addr)(H H':Hp):Prop:=∀b u,b≠l->H b=some u->H' b=some u
theorem aei (g:aM H H'):SameBut l H H':=λb u _ e=>g b u e
theorem abZ:SameBut l H (upd H l o):=λb u n e=>by rw[bC n];exact e
theorem SameBut.trans (a:SameBut l H H1)(b:SameBut l H1 H2):SameBut l H H2:=λc u n e=>b c u n<|a c u n e
theorem XN (g:SameBut l H H')(n:H l=none):aM H H':=λb u e=>g b u (λz=>by rw[z,n] at e;cases e) e
section
end
section
end
section
def rJoin (K:a7):V->List V->Hp->VK->Prop:=λx vs H Q=>∃z l zs,x=.str z/\vs=[.ref l]/\SqL K H l (zs.map V.str)/\BY z zs=true/\Q (.str<|AR z zs) H
theorem K5:∀{zs:List Str} {us:List aw},Vals (zs.map V.str) us->∃l:List (Str×Tok),us=strValues l/\l.map (·.1)=zs
 |[],_,.nil=>⟨[],rfl,rfl⟩
 |z::zs,_,.cons r t=>by
  obtain⟨tk,rfl⟩:=r;obtain⟨l,rfl,e⟩:=K5 t;exact⟨(z,tk)::l,rfl,by rw[aE,e]⟩
theorem ZQ (K:a7)(hK:X.K=K:=by rfl):MtM X "str.join" (rJoin K):=by
 subst hK;intro π s σ H x vs v us Q I rx rv h;obtain⟨z,l,zs,rfl,rfl,hL,ok,q⟩:=h;obtain⟨t,rfl⟩:=rx;obtain⟨u,rfl,ru⟩:=rv.one;cases ru;obtain⟨χ,r,hp,_⟩:=I.list hL;obtain⟨ls,rfl,e⟩:=K5 r;exact SC.join hp.isList e ok λt' k=>⟨.str _,H,I.tok _,⟨t',rfl⟩,q⟩
end
end Hd
namespace F
open PySem PySem.Spec PyProof.Rows L2 Hd
inductive D where
 |non|bl (b:Bool)|int (i:Int)|str (x:Str)|exc (c:Str) (ns:List Str) (ds:List D)
 |tup (xs:List D)|lst (xs:List D)
 |dct (ks:List Key) (vs:List D)|dcu (ks:List (List Kt)) (vs:List D)
  |dcf (ks:List (List Kt)) (vs:List D)
  |adr (a:Addr)
  |ins (c:Str) (ns:List Str) (vs:List D)
abbrev Xn:=Str×List Str×List D
inductive Res (α:Type) where
 |ok (a:α)|exc (c:Xn)|stuck
def Res.bind {α β:Type}(r:Res α)(f:α->Res β):Res β:=match r with
 | .ok a=>f a
 | .exc c=>.exc c
 | .stuck=>.stuck
@[simp] theorem Res.afh {α β:Type}(a:α)(f:α->Res β):(Res.ok a).bind f=f a:=rfl
@[simp] theorem Res.ad5 {α β:Type}(c:Xn)(f:α->Res β):(Res.exc c:Res α).bind f=.exc c:=rfl
@[simp] theorem Res.aa8 {α β:Type}(f:α->Res β):(Res.stuck:Res α).bind f=.stuck:=rfl
def ofO {α:Type}:Option α->Res α
 |some a=>.ok a
 |none=>.stuck
@[simp] theorem adV {α:Type}(a:α):ofO (some a)=.ok a:=rfl
@[simp] theorem afa {α:Type}:ofO (none:Option α)=.stuck:=rfl
structure Gx where
 K:a7
 mg:Zaa
abbrev gx (X:Cx):Gx:=⟨X.K,X.mg⟩
def afD (K:a7)(a:Addr)(xs:List V):Prop:=
 ∃(o:Obj) (χ:Array aw) (n:Nat),K.lookup a=some o/\o.cls=.type "list"/\o.dict=none/\o.data=.seq χ n/\χ.size<=av/\Vals xs χ.toList
def LstAt (K:a7)(O:Zab)(H:Hp)(a:Addr)(xs:List V):Prop:=(¬O a/\Rd H a (.lst xs))\/afD K a xs
def XO (H:Hp)(od:Option Addr)(fs:List (Str×V)):Prop:=(fs=[]/\od=none)\/∃dx q,od=some dx/\H dx=some (.frz q<|.xd fs)
mutual
inductive DV (G:Gx)(O:Zab)(H:Hp):V->D->Prop where
 |non:DV G O H .non .non
 |bl (b:Bool):DV G O H (.bl b) (.bl b)
 |int (i:Int):DV G O H (.int i) (.int i)
 |str (x:Str):DV G O H (.str x) (.str x)
 |adr (a:Addr):DV G O H (.ref a) (.adr a)
 |ins {a C dx:Addr} {c:Str} {ι:List (Str×V)} {ns:List Str} {vs:List V} {ds:List D}:¬O a->G.mg c=some (.ref C)->H a=some (.ins C dx ι)->ι.map (·.1)=ns->ι.map (·.2)=vs->DVs G O H vs ds->DV G O H (.ref a) (.ins c ns ds)
 |exc {a C:Addr} {c:Str} {ox:Obj} {fs:List (Str×V)} {ns:List Str} {vs:List V} {ds:List D}:G.mg c=some (.ref C)->H a=some (.frz ox (.ext (tH a (.ref C))))->XO H ox.dict fs->fs.map (·.1)=ns->fs.map (·.2)=vs->DVs G O H vs ds->DV G O H (.ref a) (.exc c ns ds)
 |tup {a:Addr} {xs:List V} {ds:List D}:SqU G.K H a xs->DVs G O H xs ds->DV G O H (.ref a) (.tup ds)
 |lst {a:Addr} {xs:List V} {ds:List D}:LstAt G.K O H a xs->DVs G O H xs ds->DV G O H (.ref a) (.lst ds)
 |dct {a:Addr} {ι:List (Key×V)} {ks:List Key} {vs:List V} {ds:List D}:¬O a->Rd H a (.dK ι)->ι.map (·.1)=ks->ι.map (·.2)=vs->DVs G O H vs ds->DV G O H (.ref a) (.dct ks ds)
 |dcu {a:Addr} {ι:List (List Kt×V)} {ks:List (List Kt)} {vs:List V} {ds:List D}:¬O a->H a=some (.dT (KTp G.K) ι)->ι.map (·.1)=ks->ι.map (·.2)=vs->DVs G O H vs ds->DV G O H (.ref a) (.dcu ks ds)
 |dcf {a:Addr} {o:Obj} {ι:List (List Kt×V)} {ks:List (List Kt)} {vs:List V} {ds:List D}:H a=some (.frz o (.dT (KTp G.K) ι))->ι.map (·.1)=ks->ι.map (·.2)=vs->DVs G O H vs ds->DV G O H (.ref a) (.dcf ks ds)
inductive DVs (G:Gx)(O:Zab)(H:Hp):List V->List D->Prop where
 |nil:DVs G O H [] []
 |cons {v:V} {vs:List V} {d:D} {ds:List D}:DV G O H v d->DVs G O H vs ds->DVs G O H (v::vs) (d::ds)
end
def XP (G:Gx)(H:Hp)(c:Xn)(C:Addr×Option Addr):Prop:=G.mg c.1=some (.ref C.1)/\∃fs vs,XO H C.2 fs/\fs.map (·.1)=c.2.1/\fs.map (·.2)=vs/\∀O,DVs G O H vs c.2.2
def OV (G:Gx)(O:Zab)(H:Hp)(a:Addr):D->Prop
 | .lst ds=>∃xs,H a=some (.lst xs)/\DVs G O H xs ds
 | .dct ks ds=>∃ι vs,H a=some (.dK ι)/\ι.map (·.1)=ks/\ι.map (·.2)=vs/\DVs G O H vs ds
 | .dcu ks ds=>∃ι vs,H a=some (.dT (KTp G.K) ι)/\ι.map (·.1)=ks/\ι.map (·.2)=vs/\DVs G O H vs ds
 | .ins c ns ds=>∃C dx ι vs,G.mg c=some (.ref C)/\H a=some (.ins C dx ι)/\ι.map (·.1)=ns/\ι.map (·.2)=vs/\DVs G O H vs ds
 |_=>False
def DW (G:Gx)(O:Zab)(H:Hp)(v:V)(d:D):Prop:=DV G O H v d\/∃a,v=.ref a/\O a/\OV G O H a d
inductive DWs (G:Gx)(O:Zab)(H:Hp):List V->List D->Prop where
 |nil:DWs G O H [] []
 |cons {v:V} {vs:List V} {d:D} {ds:List D}:DW G O H v d->DWs G O H vs ds->DWs G O H (v::vs) (d::ds)
def jy (o:Option HO):Prop:=(∃xs,o=some (.lst xs))\/(∃k,o=some (.dK k))\/(∃k:(Addr->List V->Prop)×List (List Kt×V),o=some (.dT k.1 k.2))\/∃k:Addr×Addr×List (Str×V),o=some (.ins k.1 k.2.1 k.2.2)
def Kp (O:Zab)(H H':Hp):Prop:=∀b o,H b=some o->¬O b->H' b=some o
theorem aa6 {O:Zab}{H H':Hp}{a:Addr}{u:HO}(g:Kp O H H')(n:¬O a)(e:Rd H a u):Rd H' a u:=e.imp (λe=>g _ _ e n) λ⟨o,e⟩=>⟨o,g _ _ e n⟩
theorem ad4 {H H':Hp}{a:Addr}{u:HO}(g:aM H H')(e:Rd H a u):Rd H' a u:=e.imp (g _ _) λ⟨o,e⟩=>⟨o,g _ _ e⟩
theorem aap {H:Hp}{a:Addr}{u:HO}(e:Rd H a u)(z:H a=none):False:=by rcases e with e|⟨_,e⟩<;>(rw[z] at e;cases e)
theorem Kp.of {O:Zab}{H H':Hp}(g:aM H H'):Kp O H H':=λb o e _=>g b o e
theorem qg {O:Zab}{H:Hp}(m:∀b,O b->jy (H b)){a:Addr}{o:HO}(e:H a=some o)(n:¬jy (some o)):¬O a:=λz=>n<|e▸m a z
theorem N8 {xs:List V}:¬jy (some<|.tup xs):=by rintro(⟨_,e⟩|⟨_,e⟩|⟨_,e⟩|⟨_,e⟩)<;>cases e
theorem ux {o:Obj}{u:HO}:¬jy (some<|.frz o u):=by rintro(⟨_,e⟩|⟨_,e⟩|⟨_,e⟩|⟨_,e⟩)<;>cases e
theorem acC {K:a7}{O:Zab}{H H':Hp}{a:Addr}{xs:List V}(m:∀b,O b->jy (H b))(g:Kp O H H')(h:SqT K H a xs):SqT K H' a xs:=by
 rcases h with(e|⟨o,e⟩)|h
 ·exact .inl<|.inl<|g a _ e<|qg m e N8
 ·exact .inl<|.inr ⟨o,g a _ e<|qg m e ux⟩
 ·exact .inr h
theorem WD {K:a7}{O:Zab}{H H':Hp}{a:Addr}{xs:List V}(m:∀b,O b->jy (H b))(g:Kp O H H')(h:SqU K H a xs):SqU K H' a xs:=by
 rcases h with e|h
 ·exact .inl<|g a _ e<|qg m e N8
 ·exact .inr h
theorem Xm {K:a7}{H H':Hp}{a:Addr}{xs:List V}(h:SqU K H a xs)(g:aM H H'):SqU K H' a xs:=h.imp (g _ _) id
theorem yD {K:a7}{O:Zab}{H H':Hp}{a:Addr}{xs:List V}(g:Kp O H H')(h:LstAt K O H a xs):LstAt K O H' a xs:=by
 rcases h with⟨n,e|⟨o,e⟩⟩|h
 ·exact .inl ⟨n,.inl<|g a _ e n⟩
 ·exact .inl ⟨n,.inr ⟨o,g a _ e n⟩⟩
 ·exact .inr h
theorem LstAt.sq {K:a7}{O:Zab}{H:Hp}{a:Addr}{xs:List V}(h:LstAt K O H a xs):SqL K H a xs:=h.elim (λz=>.inl z.2) .inr
section
variable {G:Gx}{O O':Zab}{H H':Hp}
mutual
theorem DV.kp (m:∀b,O b->jy (H b))(g:Kp O H H'):∀{v:V} {d:D},DV G O H v d->DV G O H' v d
 |_,_,.non=>.non
 |_,_,.bl b=>.bl b
 |_,_,.int i=>.int i
 |_,_,.str x=>.str x
 |_,_,.adr a=>.adr a
 |_,_,.exc h e x a b hs=>.exc h (g _ _ e<|qg m e ux) (x.imp id λ⟨d,q,z,y⟩=>⟨d,q,z,g _ _ y<|qg m y ux⟩) a b<|DVs.kp m g hs
 |_,_,.tup h hs=>.tup (WD m g h)<|DVs.kp m g hs
 |_,_,.lst h hs=>.lst (yD g h)<|DVs.kp m g hs
 |_,_,.dct n e a b hs=>.dct n (aa6 g n e) a b<|DVs.kp m g hs
 |_,_,.dcu n e a b hs=>.dcu n (g _ _ e n) a b<|DVs.kp m g hs
 |_,_,.dcf e a b hs=>.dcf (g _ _ e<|qg m e ux) a b<|DVs.kp m g hs
 |_,_,.ins n c e a b hs=>.ins n c (g _ _ e n) a b<|DVs.kp m g hs
theorem DVs.kp (m:∀b,O b->jy (H b))(g:Kp O H H'):∀{vs:List V} {ds:List D},DVs G O H vs ds->DVs G O H' vs ds
 |_,_,.nil=>.nil
 |_,_,.cons h hs=>.cons (DV.kp m g h)<|DVs.kp m g hs
end
mutual
theorem DV.mono (g:aM H H'):∀{v:V} {d:D},DV G O H v d->DV G O H' v d
 |_,_,.non=>.non
 |_,_,.bl b=>.bl b
 |_,_,.int i=>.int i
 |_,_,.str x=>.str x
 |_,_,.adr a=>.adr a
 |_,_,.exc h e x a b hs=>.exc h (g _ _ e) (x.imp id λ⟨d,q,z,y⟩=>⟨d,q,z,g _ _ y⟩) a b<|DVs.mono g hs
 |_,_,.tup h hs=>.tup (Xm h g)<|DVs.mono g hs
 |_,_,.lst h hs=>.lst (yD (.of g) h)<|DVs.mono g hs
 |_,_,.dct n e a b hs=>.dct n (ad4 g e) a b<|DVs.mono g hs
 |_,_,.dcu n e a b hs=>.dcu n (g _ _ e) a b<|DVs.mono g hs
 |_,_,.dcf e a b hs=>.dcf (g _ _ e) a b<|DVs.mono g hs
 |_,_,.ins n c e a b hs=>.ins n c (g _ _ e) a b<|DVs.mono g hs
theorem DVs.mono (g:aM H H'):∀{vs:List V} {ds:List D},DVs G O H vs ds->DVs G O H' vs ds
 |_,_,.nil=>.nil
 |_,_,.cons h hs=>.cons (DV.mono g h)<|DVs.mono g hs
end
mutual
theorem DV.cL (s:∀b,O' b->O b\/H b=none):∀{v:V} {d:D},DV G O H v d->DV G O' H v d
 |_,_,.non=>.non
 |_,_,.bl b=>.bl b
 |_,_,.int i=>.int i
 |_,_,.str x=>.str x
 |_,_,.adr a=>.adr a
 |_,_,.exc h e x a b hs=>.exc h e x a b<|DVs.cL s hs
 |_,_,.tup h hs=>.tup h<|DVs.cL s hs
 |_,_,.lst h hs=>.lst (h.elim (λz=>.inl ⟨λo=>(s _ o).elim z.1 λn=>by rcases z.2 with e|⟨_,e⟩<;>(rw[n] at e;cases e),z.2⟩) .inr) (DVs.cL s hs)
 |_,_,.dct n e a b hs=>.dct (λo=>(s _ o).elim n λz=>aap e z) e a b<|DVs.cL s hs
 |_,_,.dcu n e a b hs=>.dcu (λo=>(s _ o).elim n λz=>by rw[z] at e;cases e) e a b (DVs.cL s hs)
 |_,_,.dcf e a b hs=>.dcf e a b<|DVs.cL s hs
 |_,_,.ins n c e a b hs=>.ins (λo=>(s _ o).elim n λz=>by rw[z] at e;cases e) c e a b (DVs.cL s hs)
theorem DVs.cL (s:∀b,O' b->O b\/H b=none):∀{vs:List V} {ds:List D},DVs G O H vs ds->DVs G O' H vs ds
 |_,_,.nil=>.nil
 |_,_,.cons h hs=>.cons (DV.cL s h)<|DVs.cL s hs
end
def Ev (O:Zab)(H:Hp)(O':Zab)(H':Hp):Prop:=(∀b,O' b->O b\/H b=none)/\Kp O H H'
mutual
theorem DV.go (m:∀b,O b->jy (H b))(g:Ev O H O' H'):∀{v:V} {d:D},DV G O H v d->DV G O' H' v d
 |_,_,.non=>.non
 |_,_,.bl b=>.bl b
 |_,_,.int i=>.int i
 |_,_,.str x=>.str x
 |_,_,.adr a=>.adr a
 |_,_,.exc h e x a b hs=>.exc h (g.2 _ _ e<|qg m e ux) (x.imp id λ⟨d,q,z,y⟩=>⟨d,q,z,g.2 _ _ y<|qg m y ux⟩) a b<|DVs.go m g hs
 |_,_,.tup h hs=>.tup (WD m g.2 h)<|DVs.go m g hs
 |_,_,.lst h hs=>.lst (h.elim (λz=>.inl ⟨λo=>(g.1 _ o).elim z.1 λn=>by rcases z.2 with e|⟨_,e⟩<;>(rw[n] at e;cases e),(yD g.2 (.inl z):LstAt G.K O H' _ _).elim (λy=>y.2) λy=>z.2.elim (λe=>.inl<|g.2 _ _ e z.1) λ⟨o,e⟩=>.inr ⟨o,g.2 _ _ e z.1⟩⟩) .inr) (DVs.go m g hs)
 |_,_,.dct n e a b hs=>.dct (λo=>(g.1 _ o).elim n λz=>aap e z) (aa6 g.2 n e) a b<|DVs.go m g hs
 |_,_,.dcu n e a b hs=>.dcu (λo=>(g.1 _ o).elim n λz=>by rw[z] at e;cases e) (g.2 _ _ e n) a b (DVs.go m g hs)
 |_,_,.dcf e a b hs=>.dcf (g.2 _ _ e<|qg m e ux) a b<|DVs.go m g hs
 |_,_,.ins n c e a b hs=>.ins (λo=>(g.1 _ o).elim n λz=>by rw[z] at e;cases e) c (g.2 _ _ e n) a b (DVs.go m g hs)
theorem DVs.go (m:∀b,O b->jy (H b))(g:Ev O H O' H'):∀{vs:List V} {ds:List D},DVs G O H vs ds->DVs G O' H' vs ds
 |_,_,.nil=>.nil
 |_,_,.cons h hs=>.cons (DV.go m g h)<|DVs.go m g hs
end
theorem OV.cL {a:Addr}{d:D}(s:∀b,O' b->O b\/H b=none)(h:OV G O H a d):OV G O' H a d:=by
 cases d with
 |lst ds=>obtain⟨xs,e,hs⟩:=h;exact⟨xs,e,hs.cL s⟩
 |dct ks ds=>obtain⟨k,v,e,a1,a2,hs⟩:=h;exact⟨k,v,e,a1,a2,hs.cL s⟩
 |dcu ks ds=>obtain⟨k,v,e,a1,a2,hs⟩:=h;exact⟨k,v,e,a1,a2,hs.cL s⟩
 |ins c ns ds=>obtain⟨C,dx,k,v,ec,e,a1,a2,hs⟩:=h;exact⟨C,dx,k,v,ec,e,a1,a2,hs.cL s⟩
 |_=>exact h.elim
theorem OV.mono {a:Addr}{d:D}(g:aM H H')(h:OV G O H a d):OV G O H' a d:=by
 cases d with
 |lst ds=>obtain⟨xs,e,hs⟩:=h;exact⟨xs,g _ _ e,hs.mono g⟩
 |dct ks ds=>obtain⟨k,v,e,a1,a2,hs⟩:=h;exact⟨k,v,g _ _ e,a1,a2,hs.mono g⟩
 |dcu ks ds=>obtain⟨k,v,e,a1,a2,hs⟩:=h;exact⟨k,v,g _ _ e,a1,a2,hs.mono g⟩
 |ins c ns ds=>obtain⟨C,dx,k,v,ec,e,a1,a2,hs⟩:=h;exact⟨C,dx,k,v,ec,g _ _ e,a1,a2,hs.mono g⟩
 |_=>exact h.elim
theorem OV.kp {a:Addr}{d:D}(m:∀b,O b->jy (H b))(g:Kp O H H')(e':H' a=H a)(h:OV G O H a d):OV G O H' a d:=by
 cases d with
 |lst ds=>obtain⟨xs,e,hs⟩:=h;exact⟨xs,e'.trans e,hs.kp m g⟩
 |dct ks ds=>obtain⟨k,v,e,a1,a2,hs⟩:=h;exact⟨k,v,e'.trans e,a1,a2,hs.kp m g⟩
 |dcu ks ds=>obtain⟨k,v,e,a1,a2,hs⟩:=h;exact⟨k,v,e'.trans e,a1,a2,hs.kp m g⟩
 |ins c ns ds=>obtain⟨C,dx,k,v,ec,e,a1,a2,hs⟩:=h;exact⟨C,dx,k,v,ec,e'.trans e,a1,a2,hs.kp m g⟩
 |_=>exact h.elim
theorem OV.mut {a:Addr}{d:D}(h:OV G O H a d):jy (H a):=by
 cases d with
 |lst ds=>obtain⟨xs,e,hs⟩:=h;exact .inl ⟨xs,e⟩
 |dct ks ds=>obtain⟨k,v,e,_⟩:=h;exact .inr<|.inl ⟨k,e⟩
 |dcu ks ds=>obtain⟨k,v,e,_⟩:=h;exact .inr<|.inr<|.inl ⟨(_,k),e⟩
 |ins c ns ds=>obtain⟨C,dx,k,v,_,e,_⟩:=h;exact .inr<|.inr<|.inr ⟨(C,dx,k),e⟩
 |_=>exact h.elim
theorem OV.dv {a:Addr}{d:D}(n:¬O a)(h:OV G O H a d):DV G O H (.ref a) d:=by
 cases d with
 |lst ds=>obtain⟨xs,e,hs⟩:=h;exact .lst (.inl ⟨n,.inl e⟩) hs
 |dct ks ds=>obtain⟨k,v,e,a1,a2,hs⟩:=h;exact .dct n (.inl e) a1 a2 hs
 |dcu ks ds=>obtain⟨k,v,e,a1,a2,hs⟩:=h;exact .dcu n e a1 a2 hs
 |ins c ns ds=>obtain⟨C,dx,k,v,ec,e,a1,a2,hs⟩:=h;exact .ins n ec e a1 a2 hs
 |_=>exact h.elim
theorem DW.mono {v:V}{d:D}(g:aM H H')(h:DW G O H v d):DW G O H' v d:=h.elim (λz=>.inl<|z.mono g) λ⟨a,e,o,z⟩=>.inr ⟨a,e,o,z.mono g⟩
theorem DW.any {v:V}{d:D}(h:DW G O H v d):DV G (λ_=>False) H v d:=by
 rcases h with h|⟨a,e,_,h⟩
 ·exact h.cL λ_ z=>z.elim
 ·subst e;exact(h.cL (O':=λ_=>False) λ_ z=>z.elim).dv id
end
section
variable {G:Gx}{O:Zab}{H:Hp}{v:V}
theorem zA (h:DW G O H v .non):v=.non:=by
 rcases h with h|⟨_,_,_,h⟩
 ·cases h;rfl
 ·exact h.elim
theorem Rn {b:Bool}(h:DW G O H v (.bl b)):v=.bl b:=by
 rcases h with h|⟨_,_,_,h⟩
 ·cases h;rfl
 ·exact h.elim
theorem bU {i:Int}(h:DW G O H v (.int i)):v=.int i:=by
 rcases h with h|⟨_,_,_,h⟩
 ·cases h;rfl
 ·exact h.elim
theorem nC {x:Str}(h:DW G O H v (.str x)):v=.str x:=by
 rcases h with h|⟨_,_,_,h⟩
 ·cases h;rfl
 ·exact h.elim
theorem Ls {c:Str}{ns:List Str}{es:List D}(h:DW G O H v (.exc c ns es)):∃a C,v=.ref a/\G.mg c=some (.ref C)/\∃ox,H a=some (.frz ox<|.ext<|tH a<|.ref C):=by
 rcases h with h|⟨_,_,_,h⟩
 ·cases h with
  |exc h e=>exact⟨_,_,rfl,h,_,e⟩
 ·exact h.elim
theorem CN {ds:List D}(h:DW G O H v (.tup ds)):∃a xs,v=.ref a/\SqT G.K H a xs/\DVs G O H xs ds:=by
 rcases h with h|⟨_,_,_,h⟩
 ·cases h with
  |tup h hs=>exact⟨_,_,rfl,h.sq,hs⟩
 ·exact h.elim
theorem BR {ds:List D}(h:DW G O H v (.tup ds)):∃a xs,v=.ref a/\SqU G.K H a xs/\DVs G O H xs ds:=by
 rcases h with h|⟨_,_,_,h⟩
 ·cases h with
  |tup h hs=>exact⟨_,_,rfl,h,hs⟩
 ·exact h.elim
theorem jf {ds:List D}(h:DW G O H v (.lst ds)):∃a xs,v=.ref a/\SqL G.K H a xs/\DVs G O H xs ds:=by
 rcases h with h|⟨a,e,_,h⟩
 ·cases h with
  |lst h hs=>exact⟨_,_,rfl,h.sq,hs⟩
 ·obtain⟨xs,e',hs⟩:=h;exact⟨a,xs,e,.inl<|.inl e',hs⟩
theorem abV {K:a7}{a:Addr}{ι:List (Key×V)}{k:Key}(e:Rd H a (.dK ι)):My K H a (kV k) (rW ι k):=.inl ⟨ι,k,e,rfl,rfl⟩
theorem Ng {ks:List Key}{ds:List D}(h:DW G O H v (.dct ks ds)):∃a ι vs,v=.ref a/\Rd H a (.dK ι)/\ι.map (·.1)=ks/\ι.map (·.2)=vs/\DVs G O H vs ds:=by
 rcases h with h|⟨a,e,_,h⟩
 ·cases h with
  |dct n e a b hs=>exact⟨_,_,_,rfl,e,a,b,hs⟩
 ·obtain⟨k,w,e',a1,a2,hs⟩:=h;exact⟨a,k,w,e,.inl e',a1,a2,hs⟩
theorem WN {ks:List (List Kt)}{ds:List D}(h:DW G O H v (.dcu ks ds)):∃a ι vs,v=.ref a/\H a=some (.dT (KTp G.K) ι)/\ι.map (·.1)=ks/\ι.map (·.2)=vs/\DVs G O H vs ds:=by
 rcases h with h|⟨a,e,_,h⟩
 ·cases h with
  |dcu n e a b hs=>exact⟨_,_,_,rfl,e,a,b,hs⟩
 ·obtain⟨k,w,e',a1,a2,hs⟩:=h;exact⟨a,k,w,e,e',a1,a2,hs⟩
theorem bT:∀{vs:List V} {ds:List D},DVs G O H vs ds->vs.length=ds.length
 |_,_,.nil=>rfl
 |_,_,.cons _ hs=>by rw[cK,cK,bT hs]
theorem j7:∀{vs us:List V} {ds es:List D},DVs G O H vs ds->DVs G O H us es->DVs G O H (vs++us) (ds++es)
 |_,_,_,_,.nil,h=>h
 |_,_,_,_,.cons a t,h=>.cons a<|j7 t h
theorem yE:∀{vs:List V} {ds:List D} {i:Nat} {x:V},DVs G O H vs ds->vs[i]? = some x->∃d,ds[i]? = some d/\DV G O H x d
 |_,_,_,_,.nil,e=>by simp at e
 |_,_,0,_,.cons a _,e=>by simp at e;subst e;exact⟨_,rfl,a⟩
 |_,_,i+1,x,.cons _ t,e=>by
  obtain⟨d,h1,h2⟩:=yE (i:=i) (x:=x) t (by simpa using e);exact⟨d,by simpa using h1,h2⟩
theorem xZ:∀{vs:List V} {ds:List D} {i:Nat} {d:D},DVs G O H vs ds->ds[i]? = some d->∃x,vs[i]? = some x/\DV G O H x d
 |_,_,_,_,.nil,e=>by simp at e
 |_,_,0,_,.cons a _,e=>by simp at e;subst e;exact⟨_,rfl,a⟩
 |_,_,i+1,d,.cons _ t,e=>by
  obtain⟨x,h1,h2⟩:=xZ (i:=i) (d:=d) t (by simpa using e);exact⟨x,by simpa using h1,h2⟩
theorem Dt:∀{vs:List V} {ds:List D} (n:Nat),DVs G O H vs ds->DVs G O H (vs.take n) (ds.take n)
 |_,_,0,_=>by simp only[List.take_zero];exact .nil
 |_,_,_+1,.nil=>.nil
 |_,_,n+1,.cons a t=>.cons a<|Dt n t
theorem Jh:∀{vs:List V} {ds:List D} (n:Nat),DVs G O H vs ds->DVs G O H (vs.drop n) (ds.drop n)
 |_,_,0,h=>h
 |_,_,_+1,.nil=>.nil
 |_,_,n+1,.cons _ t=>Jh n t
theorem HW:∀{vs:List V} {ds:List D},DVs G O H vs ds->DVs G O H vs.reverse ds.reverse
 |_,_,.nil=>.nil
 |_,_,.cons a t=>by rw[kl,kl];exact j7 (HW t)<|.cons a .nil
noncomputable def flat:D->Bool
 | .non|.bl _|.int _|.str _=>true
 |_=>false
theorem DV.flat {O':Zab}{H':Hp}{d:D}(f:flat d=true)(h:DV G O H v d):DV G O' H' v d:=by
 cases h with
 |non=>exact .non
 |bl b=>exact .bl b
 |int i=>exact .int i
 |str x=>exact .str x
 |_=>cases f
end
inductive Sl where
  |un|fz (d:D)|ow (d:D)|io (d:D)|bw (d:D)
  |hd (w:Bool) (a:Addr) (d:D)
abbrev Me:=List Sl
abbrev Os:=Nat->Option Addr
def Ow (O0:Zab)(ow:Os):Zab:=λb=>O0 b\/∃i,ow i=some b
def Op (O:Zab)(p:Addr):Zab:=λb=>O b\/b=p
noncomputable def owS (ow:Os)(i:Nat)(x:Option Addr):Os:=λj=>if j=i then x else ow j
theorem du {ow:Os}{i:Nat}{x:Option Addr}:owS ow i x i=x:=by unfold owS;rw[if_pos rfl]
theorem dw {ow:Os}{i j:Nat}{x:Option Addr}(h:j≠i):owS ow i x j=ow j:=by unfold owS;rw[if_neg h]
def Mr (G:Gx)(O M0:Zab)(H0:Hp)(oi:Option Addr)(v:Option (Option V))(H:Hp):Sl->Prop
 | .un=>oi=none
 | .fz d=>oi=none/\∃x,v=some (some x)/\DV G O H x d
 | .ow d=>∃a,oi=some a/\H0 a=none/\v=some (some<|.ref a)/\OV G O H a d
 | .io d=>∃a,oi=some a/\M0 a/\v=some (some<|.ref a)/\OV G O H a d
 | .bw d=>oi=none/\∃x,v=some (some x)/\DW G O H x d
 | .hd w a d=>oi=some a/\(w=true->H0 a=none)/\(w=false->M0 a)/\OV G O H a d
structure Rel (G:Gx)(O0 M0:Zab)(H0:Hp)(ow:Os)(σ:L2.St)(H:Hp)(m:Me):Prop where
 len:σ.length=m.length
 keep:Kp M0 H0 H
 m0:∀b,M0 b->H b≠none
 mutk:∀b,Ow O0 ow b->jy (H b)
 no0:∀i a,ow i=some a->¬O0 a
 inj:∀i j a,ow i=some a->ow j=some a->i=j
 out:∀i,m.length<=i->ow i=none
 slot:∀i s,m[i]? = some s->Mr G (Ow O0 ow) M0 H0 (ow i) (σ[i]?) H s
structure eV (G:Gx)(O0 M0:Zab)(H0:Hp)(ow:Os)(σ:L2.St)(H:Hp)(m:Me):Prop extends Rel G O0 M0 H0 ow σ H m where
 nb:∀(j:Nat) (d:D),m[j]?≠some (Sl.bw d)
structure Go (O0:Zab)(ow:Os)(H:Hp)(ow':Os)(H':Hp):Prop where
 keep:Kp (Ow O0 ow) H H'
 new:∀i a,ow' i=some a->Ow O0 ow a\/H a=none
 dom:∀b,H b≠none->H' b≠none
theorem Go.refl {O0:Zab}{ow:Os}{H H':Hp}(g:aM H H'):Go O0 ow H ow H':=
 ⟨.of g,λi a e=>.inl<|.inr ⟨i,e⟩,λb n z=>by
  cases q:H b with
  |none=>exact n q
  |some o=>rw[g b o q] at z;cases z⟩
theorem Go.trans {O0:Zab}{ow ow1 ow2:Os}{H H1 H2:Hp}(a:Go O0 ow H ow1 H1)(b:Go O0 ow1 H1 ow2 H2):Go O0 ow H ow2 H2 where
 keep:=λc o e n=>b.keep c o (a.keep c o e n) λz=>by
  rcases z with z|⟨i,z⟩
  ·exact n<|.inl z
  ·rcases a.new i c z with y|y
   ·exact n y
   ·rw[y] at e;cases e
 new:=λi c e=>by
  rcases b.new i c e with(z|⟨j,z⟩)|z
  ·exact .inl<|.inl z
  ·exact a.new j c z
  ·refine .inr ?_;cases q:H c with
   |none=>rfl
   |some o=>exact absurd z (a.dom c (by rw[q];simp))
 dom:=λc n=>b.dom c<|a.dom c n
theorem Go.ev {O0:Zab}{ow ow':Os}{H H':Hp}(g:Go O0 ow H ow' H'):Ev (Ow O0 ow) H (Ow O0 ow') H':=
 ⟨λb z=>z.elim (λz=>.inl<|.inl z) λ⟨i,e⟩=>g.new i b e,g.keep⟩
theorem zb (O:Zab):Ow O (λ_=>none)=O:=by
 funext b;exact propext ⟨λz=>z.elim id λ⟨_,e⟩=>(by cases e),eC⟩
section
variable {G:Gx}{O0 M0:Zab}{H0 H H':Hp}{ow:Os}{σ:L2.St}{m:Me}
theorem Mr.mono {O:Zab}{oi:Option Addr}{v:Option (Option V)}{s:Sl}(g:aM H H')(h:Mr G O M0 H0 oi v H s):Mr G O M0 H0 oi v H' s:=by
 cases s with
 |un=>exact h
 |fz d=>obtain⟨a,x,e,q⟩:=h;exact⟨a,x,e,q.mono g⟩
 |ow d=>obtain⟨a,x,e,f,q⟩:=h;exact⟨a,x,e,f,q.mono g⟩
 |io d=>obtain⟨a,x,e,f,q⟩:=h;exact⟨a,x,e,f,q.mono g⟩
 |bw d=>obtain⟨a,x,e,q⟩:=h;exact⟨a,x,e,q.mono g⟩
 |hd w a d=>obtain⟨x,e,f,q⟩:=h;exact⟨x,e,f,q.mono g⟩
theorem zT {b:Addr}(g:aM H H')(h:jy (H b)):jy (H' b):=by
 rcases h with⟨x,e⟩|⟨x,e⟩|⟨x,e⟩|⟨x,e⟩
 ·exact .inl ⟨x,g _ _ e⟩
 ·exact .inr<|.inl ⟨x,g _ _ e⟩
 ·exact .inr<|.inr<|.inl ⟨x,g _ _ e⟩
 ·exact .inr<|.inr<|.inr ⟨x,g _ _ e⟩
theorem Rel.mono (R:Rel G O0 M0 H0 ow σ H m)(g:aM H H'):Rel G O0 M0 H0 ow σ H' m:=
 ⟨R.len,λb o e n=>g b o<|R.keep b o e n,λb z q=>R.m0 b z<|aM.free g q,λb z=>zT g<|R.mutk b z,R.no0,R.inj,R.out,λi s e=>(R.slot i s e).mono g⟩
theorem Mr.cL {O O':Zab}{oi:Option Addr}{v:Option (Option V)}{s:Sl}(sub:∀b,O' b->O b\/H b=none)(h:Mr G O M0 H0 oi v H s)(hb:∀d,s=.bw d->∀b,O b->O' b\/¬O' b):Mr G O' M0 H0 oi v H s:=by
 cases s with
 |un=>exact h
 |fz d=>obtain⟨a,x,e,q⟩:=h;exact⟨a,x,e,q.cL sub⟩
 |ow d=>obtain⟨a,x,e,f,q⟩:=h;exact⟨a,x,e,f,q.cL sub⟩
 |io d=>obtain⟨a,x,e,f,q⟩:=h;exact⟨a,x,e,f,q.cL sub⟩
 |bw d=>
  obtain⟨a,x,e,q⟩:=h;refine⟨a,x,e,?_⟩;rcases q with q|⟨b,e1,o,q⟩
  ·exact .inl<|q.cL sub
  ·rcases hb d rfl b o with w|w
   ·exact .inr ⟨b,e1,w,q.cL sub⟩
   ·subst e1;exact .inl<|(q.cL sub).dv w
 |hd w a d=>obtain⟨x,e,f,q⟩:=h;exact⟨x,e,f,q.cL sub⟩
theorem Ow.sub {i:Nat}{b:Addr}(z:Ow O0 (owS ow i none) b):Ow O0 ow b:=by
 rcases z with z|⟨j,e⟩
 ·exact .inl z
 ·by_cases q:j=i
  ·subst q;rw[du] at e;cases e
  ·rw[dw q] at e;exact .inr ⟨j,e⟩
theorem Cq {α:Type}{l:List α}{i:Nat}{x:α}(e:l[i]? = some x):i<l.length:=(d4.mp e).1
theorem Rel.set {i:Nat}{v:V}{d:D}(R:Rel G O0 M0 H0 ow σ H m)(h:DV G (Ow O0 ow) H v d):
  Rel G O0 M0 H0 (owS ow i none) (σ.set i<|some v) H (m.set i<|.fz d):=by
 have sub:∀b,Ow O0 (owS ow i none) b->Ow O0 ow b\/H b=none:=λb z=>.inl z.sub;refine⟨by simp[R.len],R.keep,R.m0,λb z=>R.mutk b z.sub,λj a e=>?_,λj k a e1 e2=>?_,λj hj=>?_,λj s e=>?_⟩
 ·by_cases q:j=i
  ·subst q;rw[du] at e;cases e
  ·rw[dw q] at e;exact R.no0 j a e
 ·by_cases q:j=i
  ·subst q;rw[du] at e1;cases e1
  ·by_cases q':k=i
   ·subst q';rw[du] at e2;cases e2
   ·rw[dw q] at e1;rw[dw q'] at e2;exact R.inj j k a e1 e2
 ·by_cases q:j=i
  ·subst q;exact du
  ·rw[dw q];exact R.out j<|by simpa using hj
 ·by_cases q:j=i
  ·subst q;have hj:j<m.length:=by simpa using Cq e
   rw[c8 hj] at e;cases e;rw[du,c8 (by rw[R.len];exact hj)];exact⟨rfl,v,rfl,h.cL sub⟩
  ·rw[dn<|ix q] at e;rw[dw q,dn<|ix q];exact(R.slot j s e).cL sub λ_ _ b _=>sh _
theorem Go.set {i:Nat}:Go O0 ow H (owS ow i none) H:=
 ⟨λ_ _ e _=>e,λj a e=>.inl (by
  by_cases q:j=i
  ·subst q;rw[du] at e;cases e
  ·rw[dw q] at e;exact .inr ⟨j,e⟩),λ_ n=>n⟩
theorem Rel.aaR (R:Rel G O0 M0 H0 ow σ H m){p:Addr}(n:H p=none):H0 p=none:=by
 cases q:H0 p with
 |none=>rfl
 |some o=>
  by_cases z:M0 p
  ·exact absurd n<|R.m0 p z
  ·rw[R.keep p o q z] at n;cases n
theorem Rel.Uj (R:Rel G O0 M0 H0 ow σ H m){p:Addr}(n:H p=none):¬Ow O0 ow p:=λz=>by
 have:=R.mutk p z
 rw[n] at this;rcases this with⟨_,e⟩|⟨_,e⟩|⟨_,e⟩|⟨_,e⟩<;>cases e
theorem Ow.new {i:Nat}{b p:Addr}(z:Ow O0 (owS ow i<|some p) b):Ow O0 ow b\/b=p:=by
 rcases z with z|⟨j,e⟩
 ·exact .inl<|.inl z
 ·by_cases q:j=i
  ·subst q;rw[du] at e;cases e;exact .inr rfl
  ·rw[dw q] at e;exact .inl<|.inr ⟨j,e⟩
theorem Rel.own {i:Nat}{p:Addr}{d:D}(R:Rel G O0 M0 H0 ow σ H m)(g:aM H H')(n:H p=none)(n0:H0 p=none)(h:OV G (Op (Ow O0 ow) p) H' p d)(hi:i<m.length):
  Rel G O0 M0 H0 (owS ow i<|some p) (σ.set i<|some<|.ref p) H' (m.set i<|.ow d):=by
 have np:=R.Uj n;have sub:∀b,Ow O0 (owS ow i<|some p) b->Ow O0 ow b\/H b=none:=λb z=>z.new.elim .inl λe=>.inr (by rw[e];exact n);refine⟨by simp[R.len],(R.mono g).keep,(R.mono g).m0,λb z=>?_,λj a e=>?_,λj k a e1 e2=>?_,λj hj=>?_,λj s e=>?_⟩
 ·rcases z.new with z|z
  ·exact(R.mono g).mutk b z
  ·rw[z];exact h.mut
 ·by_cases q:j=i
  ·subst q;rw[du] at e;cases e;exact λz=>np<|.inl z
  ·rw[dw q] at e;exact R.no0 j a e
 ·by_cases q:j=i
  ·subst q;rw[du] at e1;cases e1;by_cases q':k=j
   ·exact q'.symm
   ·rw[dw q'] at e2;exact absurd (.inr ⟨k,e2⟩) np
  ·rw[dw q] at e1;by_cases q':k=i
   ·subst q';rw[du] at e2;cases e2;exact absurd (.inr ⟨j,e1⟩) np
   ·rw[dw q'] at e2;exact R.inj j k a e1 e2
 ·have hj':m.length<=j:=by simpa using hj
  rw[dw<|by omega];exact R.out j hj'
 ·by_cases q:j=i
  ·subst q;rw[c8 hi] at e;cases e;rw[du,c8 (by rw[R.len];exact hi)];exact⟨p,rfl,n0,rfl,h.cL λb z=>.inl<|z.new.elim .inl .inr⟩
  ·rw[dn<|ix q] at e;rw[dw q,dn<|ix q];exact((R.slot j s e).cL sub λ_ _ b _=>sh _).mono g
theorem Go.own {i:Nat}{p:Addr}(g:aM H H')(n:H p=none):Go O0 ow H (owS ow i<|some p) H':=
 ⟨.of g,λj a e=>by
  by_cases q:j=i
  ·subst q;rw[du] at e;cases e;exact .inr n
  ·rw[dw q] at e;exact .inl<|.inr ⟨j,e⟩,(Go.refl (O0:=O0) (ow:=ow) g).dom⟩
theorem zZ {i:Nat}{s:Sl}(nb:∀(j:Nat) (d:D),m[j]?≠some (Sl.bw d))(hs:∀d,s≠.bw d):∀(j:Nat) (d:D),(m.set i s)[j]?≠some (Sl.bw d):=λj d e=>by
 by_cases q:j=i
 ·subst q;have hj:j<m.length:=by simpa using Cq e
  rw[c8 hj] at e;exact hs d<|b9 e
 ·rw[dn<|ix q] at e;exact nb j d e
theorem eV.mono (R:eV G O0 M0 H0 ow σ H m)(g:aM H H'):eV G O0 M0 H0 ow σ H' m:=⟨R.toRel.mono g,R.nb⟩
theorem eV.set {i:Nat}{v:V}{d:D}(R:eV G O0 M0 H0 ow σ H m)(h:DV G (Ow O0 ow) H v d):eV G O0 M0 H0 (owS ow i none) (σ.set i<|some v) H (m.set i<|.fz d):=
 ⟨R.toRel.set h,zZ R.nb λ_ z=>by cases z⟩
theorem eV.own {i:Nat}{p:Addr}{d:D}(R:eV G O0 M0 H0 ow σ H m)(g:aM H H')(n:H p=none)(n0:H0 p=none)(h:OV G (Op (Ow O0 ow) p) H' p d)(hi:i<m.length):
  eV G O0 M0 H0 (owS ow i<|some p) (σ.set i<|some<|.ref p) H' (m.set i<|.ow d):=⟨R.toRel.own g n n0 h hi,zZ R.nb λ_ z=>by cases z⟩
noncomputable def Sl.let:Sl->Sl
 | .ow d=>.fz d
 |s=>s
noncomputable def Me.let (m:Me):Me:=m.map Sl.let
theorem eV.let (R:eV G O0 M0 H0 ow σ H m):∃ow',eV G O0 M0 H0 ow' σ H m.let/\Go O0 ow H ow' H:=by
 let ow':Os:=λi=>match m[i]? with
  |some (.io _)=>ow i
  |some (.hd _ _ _)=>ow i
  |_=>none
 have le:∀i a,ow' i=some a->ow i=some a/\∀d,m[i]?≠some (.ow d):=λi a e=>by
  simp only[ow'] at e;split at e
  ·rename_i d q;exact⟨e,λd z=>by rw[q] at z;cases z⟩
  ·rename_i w b d q;exact⟨e,λd z=>by rw[q] at z;cases z⟩
  ·cases e
 have sub:∀b,Ow O0 ow' b->Ow O0 ow b\/H b=none:=λb z=>.inl<|z.elim .inl λ⟨i,e⟩=>.inr ⟨i,(le i b e).1⟩;refine⟨ow',⟨⟨by simp[Me.let,R.len],R.keep,R.m0,λb z=>?_,λi a e=>R.no0 i a (le i a e).1,λi j a e1 e2=>R.inj i j a (le i a e1).1 (le j a e2).1,λi hi=>?_,λi s e=>?_⟩,λj d e=>?_⟩,λb o e n=>e,λi a e=>.inl<|.inr ⟨i,(le i a e).1⟩,λ_ n=>n⟩
 ·exact R.mutk b<|z.elim .inl λ⟨i,e⟩=>.inr ⟨i,(le i b e).1⟩
 ·have hi':m.length<=i:=by simpa[Me.let] using hi
  simp only[ow'];rw[og hi']
 ·unfold Me.let at e;rw[bg] at e;cases q:m[i]? with
  |none=>rw[q] at e;cases e
  |some s0=>
   rw[q] at e;cases e;have z:=R.slot i s0 q;cases s0 with
   |un=>exact(show ow' i=none by simp only[ow',q])
   |fz d=>obtain⟨_,x,e,h⟩:=z;exact⟨(show ow' i=none by simp only[ow',q]),x,e,h.cL sub⟩
   |ow d=>
    obtain⟨a,e1,e2,e3,h⟩:=z;refine⟨(show ow' i=none by simp only[ow',q]),.ref a,e3,(h.cL sub).dv λw=>?_⟩;rcases w with w|⟨j,w⟩
    ·exact R.no0 i a e1 w
    ·obtain⟨w1,w2⟩:=le j a w
     have:=R.inj i j a e1 w1
     subst this;exact w2 d q
   |io d=>
    obtain⟨a,e1,e2,e3,h⟩:=z;exact⟨a,(show ow' i=some a by simp only[ow',q];exact e1),e2,e3,h.cL sub⟩
   |bw d=>exact(R.nb i d q).elim
   |hd w a d=>
    obtain⟨e1,e2,e3,h⟩:=z;exact⟨(show ow' i=some a by simp only[ow',q];exact e1),e2,e3,h.cL sub⟩
 ·unfold Me.let at e;rw[bg] at e;cases q:m[j]? with
  |none=>rw[q] at e;cases e
  |some s0=>
   rw[q] at e;cases s0 with
   |bw d'=>exact R.nb j d' q
   |_=>cases e
end
def Pu (G:Gx)(E:XK){α:Type}(r:Res α)(H:Hp)(k:α->Prop):Prop:=match r with
 | .ok a=>k a
 | .exc c=>∀C H',XP G H' c C->aM H H'->E (.ref C.1) C.2 H'
 | .stuck=>False
theorem Pu.bind {G:Gx}{E:XK}{α β:Type}{r:Res α}{f:α->Res β}{H:Hp}{k:β->Prop}(h:Pu G E (r.bind f) H k):Pu G E r H λa=>Pu G E (f a) H k:=by
 cases r with
 |ok a=>exact h
 |exc c=>exact h
 |stuck=>exact h
theorem Pu.imp {G:Gx}{E:XK}{α:Type}{r:Res α}{H H':Hp}{k k':α->Prop}(h:Pu G E r H k)(g:aM H H')(hk:∀a,k a->k' a):Pu G E r H' k':=by
 cases r with
 |ok a=>exact hk a h
 |exc c=>exact λC H1 e g1=>h C H1 e<|g.trans g1
 |stuck=>exact h
theorem Pu.ofO {G:Gx}{E:XK}{α:Type}{r:Option α}{H:Hp}{k:α->Prop}(h:Pu G E (ofO r) H k):∃a,r=some a/\k a:=by
 cases r with
 |some a=>exact⟨a,rfl,h⟩
 |none=>exact h.elim
noncomputable def tE (G:Gx)(E:XK)(f:Me->Res D):TE:=λσ H Q=>∃O0 M0 H0 ow m,Rel G O0 M0 H0 ow σ H m/\Pu G E (f m) H λd=>∀v H',aM H H'->DV G (Ow O0 ow) H' v d->Q v H'
def tB (G:Gx)(E:XK)(f:Me->Res D):TE:=λσ H Q=>∃O0 M0 H0 ow m,Rel G O0 M0 H0 ow σ H m/\Pu G E (f m) H λd=>∀v H',aM H H'->DW G (Ow O0 ow) H' v d->Q v H'
def tN (G:Gx)(E:XK)(f:Me->Res D):TE:=λσ H Q=>∃O0 M0 H0 ow m,Rel G O0 M0 H0 ow σ H m/\Pu G E (f m) H λd=>∀p H',aM H H'->H p=none->OV G (Op (Ow O0 ow) p) H' p d->Q (.ref p) H'
def tT (G:Gx)(E:XK)(f:Me->Res Bool):TT:=λσ H Q=>∃O0 M0 H0 ow m,Rel G O0 M0 H0 ow σ H m/\Pu G E (f m) H λb=>∀H',aM H H'->Q b H'
def tAE (G:Gx)(E:XK)(f:Me->Res (List D)):TA:=λσ H Q=>∃O0 M0 H0 ow m,Rel G O0 M0 H0 ow σ H m/\Pu G E (f m) H λds=>∀vs H',aM H H'->DVs G (Ow O0 ow) H' vs ds->Q vs H'
def tAB (G:Gx)(E:XK)(f:Me->Res (List D)):TA:=λσ H Q=>∃O0 M0 H0 ow m,Rel G O0 M0 H0 ow σ H m/\Pu G E (f m) H λds=>∀vs H',aM H H'->DWs G (Ow O0 ow) H' vs ds->Q vs H'
abbrev FE (X:Cx)(E:XK)(e:Expr)(f:Me->Res D):Prop:=PE X e<|tE (gx X) E f
abbrev FB (X:Cx)(E:XK)(e:Expr)(f:Me->Res D):Prop:=PE X e<|tB (gx X) E f
abbrev FN (X:Cx)(E:XK)(e:Expr)(f:Me->Res D):Prop:=PE X e<|tN (gx X) E f
abbrev FT (X:Cx)(E:XK)(e:Expr)(f:Me->Res Bool):Prop:=PT X e<|tT (gx X) E f
abbrev FW (X:Cx)(E:XK)(e:Expr)(f:Me->Res Bool):Prop:=PW X e<|tT (gx X) E f
abbrev FAE (X:Cx)(E:XK)(es:List Expr)(f:Me->Res (List D)):Prop:=PA X es<|tAE (gx X) E f
abbrev FAB (X:Cx)(E:XK)(es:List Expr)(f:Me->Res (List D)):Prop:=PA X es<|tAB (gx X) E f
theorem Hg {X:Cx}{e:Expr}{T T':TT}(h:PT X e T)(k:∀σ H Q,T' σ H Q->T σ H Q):PT X e T':=λπ s σ H Q I q=>h π s σ H Q I<|k σ H Q q
theorem Oo {X:Cx}{e:Expr}{T T':TT}(h:PW X e T)(k:∀σ H Q,T' σ H Q->T σ H Q):PW X e T':=λwh π s σ H Q I q=>h wh π s σ H Q I<|k σ H Q q
theorem rK {X:Cx}{es:List Expr}{T T':TA}(h:PA X es T)(k:∀σ H Q,T' σ H Q->T σ H Q):PA X es T':=λpos π s σ H Q I q=>h pos π s σ H Q I<|k σ H Q q
section
variable {X:Cx}{E:XK}{e a b c:Expr}{es:List Expr}{f fa fb fc:Me->Res D}{fs:Me->Res (List D)}{ft fu:Me->Res Bool}{pos:Pos}
theorem ao (h:FE X E e f):FB X E e f:=bG h λ_ _ _ hE=>xq5 hE λO0 M0 H0 ow m R q=>⟨O0,M0,H0,ow,m,R,q.imp (aM.refl _) λ_ k v H' g d=>k v H' g<|.inl d⟩
theorem gY (h:FN X E e f):FE X E e f:=bG h λ_ _ _ hE=>xq5 hE λO0 M0 H0 ow m R q=>⟨O0,M0,H0,ow,m,R,q.imp (aM.refl _) λ_ k p H' g n o=>
 k _ H' g ((o.cL λb z=>.inl<|.inl z).dv<|R.Uj n)⟩
noncomputable def aK (i:Nat):Me->Res D:=λm=>match m[i]? with
 |some (.fz d)=>.ok d
 |_=>.stuck
noncomputable def aa (i:Nat):Me->Res D:=λm=>match m[i]? with
 |some (.fz d)=>.ok d
 |some (.ow d)=>.ok d
 |some (.io d)=>.ok d
 |some (.bw d)=>.ok d
 |_=>.stuck
theorem aH (i:Nat){x:Str}(hN:X.N[i]? = some x:=by rfl)(hv:Vis X.env.scope x:=by first|exact eC rfl|exact eB (eC rfl)|exact eB (eB rfl))(hd:(x==("__debug__":Str))=false:=by decide)
  (hcd:(x==("__classdict__":Str))=false:=by decide):FE X E (.Name x pos) (aK i):=bG (iy hN hv hd hcd) λσ H Q hE=>xq5 hE λO0 M0 H0 ow m R q=>by
 unfold aK at q;cases e:m[i]? with
 |none=>rw[e] at q;exact q.elim
 |some s=>
  rw[e] at q;cases s with
  |fz d=>
   obtain⟨_,x,h1,h2⟩:=R.slot i _ e;exact⟨x,h1,q x H (aM.refl _) h2⟩
  |_=>exact q.elim
theorem aq (i:Nat){x:Str}(hN:X.N[i]? = some x:=by rfl)(hv:Vis X.env.scope x:=by first|exact eC rfl|exact eB (eC rfl)|exact eB (eB rfl))(hd:(x==("__debug__":Str))=false:=by decide)
  (hcd:(x==("__classdict__":Str))=false:=by decide):FB X E (.Name x pos) (aa i):=bG (iy hN hv hd hcd) λσ H Q hE=>xq5 hE λO0 M0 H0 ow m R q=>by
 unfold aa at q;cases e:m[i]? with
 |none=>rw[e] at q;exact q.elim
 |some s=>
  rw[e] at q;cases s with
  |fz d=>
   obtain⟨_,x,h1,h2⟩:=R.slot i _ e;exact⟨x,h1,q x H (aM.refl _)<|.inl h2⟩
  |bw d=>
   obtain⟨_,x,h1,h2⟩:=R.slot i _ e;exact⟨x,h1,q x H (aM.refl _) h2⟩
  |ow d=>
   obtain⟨a,h1,h2,h3,h4⟩:=R.slot i _ e;exact⟨_,h3,q _ H (aM.refl _)<|.inr ⟨a,rfl,.inr ⟨i,h1⟩,h4⟩⟩
  |io d=>
   obtain⟨a,h1,h2,h3,h4⟩:=R.slot i _ e;exact⟨_,h3,q _ H (aM.refl _)<|.inr ⟨a,rfl,.inr ⟨i,h1⟩,h4⟩⟩
  |un=>exact q.elim
  |hd _ _ _=>exact q.elim
def fC (d:D):Me->Res D:=λ_=>.ok d
theorem Vw {d:D}{v:V}(h:PE X e (tC v))(hd:∀O H,DV (gx X) O H v d):FE X E e (fC d):=bG h λσ H Q hE=>xq5 hE λO0 M0 H0 ow m R q=>q v H (aM.refl _)<|hd _ _
theorem au {i j pos}:FE X E (.Constant (.int i) j pos) (fC<|.int i):=Vw ac8 λ_ _=>.int i
theorem iR {b j pos}:FE X E (.Constant (.bool b) j pos) (fC<|.bl b):=Vw adv λ_ _=>.bl b
theorem abO {j pos}:FE X E (.Constant .none j pos) (fC .non):=Vw abD λ_ _=>.non
theorem bF {x j pos}:FE X E (.Constant (.str x) j pos) (fC<|.str x):=Vw acf λ_ _=>.str x
theorem PX {x:Str}{v:V}{u:aw}{d:D}(hg:Gl X x)(hm:X.mg x=some u)(r:RelV v u)(hd:∀O H,DV (gx X) O H v d)(hdb:(x==("__debug__":Str))=false:=by decide):FE X E (.Name x pos) (fC d):=Vw (Hm hg hm r hdb) hd
def rG (G:Gx)(g:D->D->Option D):R2:=λx y H Q=>∃O d e r,(∀b,O b->jy (H b))/\DW G O H x d/\DW G O H y e/\g d e=some r/\∀v H',aM H H'->DV G O H' v r->Q v H'
def rGB (G:Gx)(g:D->D->Option Bool):R2:=λx y H Q=>∃O d e r,(∀b,O b->jy (H b))/\DW G O H x d/\DW G O H y e/\g d e=some r/\Q (.bl r) H
def rG1 (G:Gx)(g:D->Option D):V->Hp->VK->Prop:=λx H Q=>∃O d r,(∀b,O b->jy (H b))/\DW G O H x d/\g d=some r/\∀v H',aM H H'->DV G O H' v r->Q v H'
def rGC (G:Gx)(g:List D->Option D):List V->Hp->VK->Prop:=λxs H Q=>∃O ds r,(∀b,O b->jy (H b))/\DWs G O H xs ds/\g ds=some r/\∀v H',aM H H'->DV G O H' v r->Q v H'
def acJ (G:Gx)(g:List D->Option D):List V->Hp->VK->Prop:=λxs H Q=>∃O ds r,(∀b,O b->jy (H b))/\DWs G O H xs ds/\g ds=some r/\∀p H',aM H H'->H p=none->OV G (Op O p) H' p r->Q (.ref p) H'
def rGM (G:Gx)(g:D->List D->Option D):V->List V->Hp->VK->Prop:=λx xs H Q=>∃O d ds r,(∀b,O b->jy (H b))/\DW G O H x d/\DWs G O H xs ds/\g d ds=some r/\∀v H',aM H H'->DV G O H' v r->Q v H'
noncomputable def az (g:D->D->Option D)(fa fb:Me->Res D):Me->Res D:=λm=>(fa m).bind λx=>(fb m).bind λy=>ofO<|g x y
noncomputable def iV (g:D->D->Option Bool)(fa fb:Me->Res D):Me->Res D:=λm=>(fa m).bind λx=>(fb m).bind λy=>ofO<|(g x y).map D.bl
noncomputable def aJ (g:D->D->Option Bool)(fa fb:Me->Res D):Me->Res Bool:=λm=>(fa m).bind λx=>(fb m).bind λy=>ofO<|g x y
noncomputable def fUn (g:D->Option D)(fa:Me->Res D):Me->Res D:=λm=>(fa m).bind λx=>ofO<|g x
theorem two {G:Gx}{σ:L2.St}{H:Hp}{Q:VK}{r:R2}{O0 M0:Zab}{H0:Hp}{ow:Os}{m:Me}{β:Type}{g:D->D->Res β}{K:β->Hp->Prop}(R:Rel G O0 M0 H0 ow σ H m)(h:Pu G E ((fa m).bind λx=>(fb m).bind λy=>g x y) H λz=>K z H)
  (hm:∀z H',K z H->aM H H'->K z H')
  (k:∀x y d e H',aM H H'->DW G (Ow O0 ow) H' x d->DW G (Ow O0 ow) H' y e->Pu G E (g d e) H' (λz=>K z H')->Rel G O0 M0 H0 ow σ H' m->r x y H' Q):tOp r (tB G E fa) (tB G E fb) σ H Q:=by
 refine⟨O0,M0,H0,ow,m,R,h.bind.imp (aM.refl _) λd q x H1 g1 hx=>⟨O0,M0,H0,ow,m,R.mono g1,q.bind.imp g1 λe q2 y H2 g2 hy=>?_⟩⟩;exact k x y d e H2 (g1.trans g2) (hx.mono g2) hy (q2.imp (g1.trans g2) λz kz=>hm z _ kz<|g1.trans g2)<|R.mono<|g1.trans g2
theorem aN {g:D->D->Option D}{op:Operator}(ho:OpR X (hJ op) (rG (gx X) g))(ha:FB X E a fa)(hb:FB X E b fb):FE X E (.BinOp a op b pos) (az g fa fb):=
 bG (aeI ho ha hb) λσ H Q hE=>xq5 hE λO0 M0 H0 ow m R q=>two R (K:=λz H=>∀v H',aM H H'->DV (gx X) (Ow O0 ow) H' v z->Q v H') q (λ_ _ k g v H' g' d=>k v H' (g.trans g') d) λx y d e H' g hx hy q' R'=>by
  obtain⟨r,hr,k⟩:=q'.ofO;exact⟨_,d,e,r,R'.mutk,hx,hy,hr,k⟩
theorem aaw {g:D->D->Option D}(ho:IxR X (rG (gx X) g))(ha:FB X E a fa)(hb:FB X E b fb)(hs:Bw b):FE X E (.Subscript a b pos) (az g fa fb):=
 bG (aex ho ha hb hs) λσ H Q hE=>xq5 hE λO0 M0 H0 ow m R q=>two R (K:=λz H=>∀v H',aM H H'->DV (gx X) (Ow O0 ow) H' v z->Q v H') q (λ_ _ k g v H' g' d=>k v H' (g.trans g') d) λx y d e H' g hx hy q' R'=>by
  obtain⟨r,hr,k⟩:=q'.ofO;exact⟨_,d,e,r,R'.mutk,hx,hy,hr,k⟩
theorem omap {α β:Type}{o:Option α}{f:α->β}{r:β}(h:o.map f=some r):∃a,o=some a/\f a=r:=by
 cases o with
 |none=>cases h
 |some a=>exact⟨a,rfl,b9 h⟩
theorem jT {g:D->D->Option Bool}{op:CmpOp}(ho:OpR X (fR op) (rGB (gx X) g))(ha:FB X E a fa)(hb:FB X E b fb)(hm:i6 op b=false):FE X E (.Compare a [op] [b] pos) (iV g fa fb):=
 bG (Yd ho ha hb hm) λσ H Q hE=>xq5 hE λO0 M0 H0 ow m R q=>two R (K:=λz H=>∀v H',aM H H'->DV (gx X) (Ow O0 ow) H' v z->Q v H') q (λ_ _ k g v H' g' d=>k v H' (g.trans g') d) λx y d e H' g hx hy q' R'=>by
  obtain⟨r,hr,k⟩:=q'.ofO;obtain⟨c,hc,rfl⟩:=omap hr;exact⟨_,d,e,c,R'.mutk,hx,hy,hc,k _ _ (aM.refl _)<|.bl c⟩
theorem bB {g:D->D->Option Bool}{op:CmpOp}(ho:OpR X (fR op) (rGB (gx X) g))(ha:FB X E a fa)(hb:FB X E b fb)(hm:i6 op b=false):FT X E (.Compare a [op] [b] pos) (aJ g fa fb):=
 Hg (Zf ho ha hb hm) λσ H Q hE=>xq5 hE λO0 M0 H0 ow m R q=>two R (K:=λz H=>∀H',aM H H'->Q z H') q (λ_ _ k g H' g'=>k H'<|g.trans g') λx y d e H' g hx hy q' R'=>by
  obtain⟨c,hc,k⟩:=q'.ofO;exact⟨_,d,e,c,R'.mutk,hx,hy,hc,c,rfl,k _<|aM.refl _⟩
theorem BV {g:D->Option D}{op:UnaryOp}(ho:UnR X (unaryOp op) (rG1 (gx X) g))(ha:FB X E a fa):FE X E (.UnaryOp op a pos) (fUn g fa):=
 bG (ae6 ho ha) λσ H Q hE=>xq5 hE λO0 M0 H0 ow m R q=>⟨O0,M0,H0,ow,m,R,q.bind.imp (aM.refl _) λd q x H1 g1 hx=>by
  obtain⟨r,hr,k⟩:=q.ofO;exact⟨_,d,r,(R.mono g1).mutk,hx,hr,λv H' g d=>k v H' (g1.trans g) d⟩⟩
noncomputable def fTv (fa:Me->Res D):Me->Res Bool:=λm=>(fa m).bind λx=>match x with
 | .bl b=>.ok b
 |_=>.stuck
theorem b7 (h:FE X E e f)(he:∀whole,isTrue e X.env whole=(do let v←whole;standAt e.pos;zw [v] (truthy v)):=by intro _;rfl):FT X E e (fTv f):=
 Hg (ac2 h he) λσ H Q hE=>xq5 hE λO0 M0 H0 ow m R q=>⟨O0,M0,H0,ow,m,R,q.bind.imp (aM.refl _) λd q v H' g hv=>by
  cases d with
  |bl b=>cases hv;exact⟨b,rfl,q H' g⟩
  |_=>exact q.elim⟩
noncomputable def dJ (ft:Me->Res Bool):Me->Res Bool:=λm=>(ft m).bind λc=>.ok<|!c
noncomputable def ji (ft fu:Me->Res Bool):Me->Res Bool:=λm=>(ft m).bind λc=>if c then fu m else .ok false
noncomputable def dY (ft fu:Me->Res Bool):Me->Res Bool:=λm=>(ft m).bind λc=>if c then .ok true else fu m
theorem gH (h:FT X E a ft):FT X E (.UnaryOp .Not a pos) (dJ ft):=Hg (abm h) λσ H Q hE=>xq5 hE λO0 M0 H0 ow m R q=>⟨O0,M0,H0,ow,m,R,q.bind.imp (aM.refl _) λb q H' g=>q H' g⟩
theorem wL (h:FT X E a ft):FW X E (.BoolOp .And [a] pos) ft:=aae h
theorem pI (h:FT X E a ft):FW X E (.BoolOp .Or [a] pos) ft:=ab2 h
theorem zL (ha:FT X E a ft)(hb:FW X E (.BoolOp .And (b::es) pos) fu):FW X E (.BoolOp .And (a::b::es) pos) (ji ft fu):=
 Oo (aa9 ha hb) λσ H Q hE=>xq5 hE λO0 M0 H0 ow m R q=>⟨O0,M0,H0,ow,m,R,q.bind.imp (aM.refl _) λb q H' g=>by
  cases b with
  |true=>rw[if_pos rfl] at q ⊢;exact⟨O0,M0,H0,ow,m,R.mono g,q.imp g λ_ k H1 g1=>k H1<|g.trans g1⟩
  |false=>rw[if_neg bb] at q ⊢;exact q H' g⟩
theorem lM (ha:FT X E a ft)(hb:FW X E (.BoolOp .Or (b::es) pos) fu):FW X E (.BoolOp .Or (a::b::es) pos) (dY ft fu):=
 Oo (ad1 ha hb) λσ H Q hE=>xq5 hE λO0 M0 H0 ow m R q=>⟨O0,M0,H0,ow,m,R,q.bind.imp (aM.refl _) λb q H' g=>by
  cases b with
  |false=>rw[if_neg bb] at q ⊢;exact⟨O0,M0,H0,ow,m,R.mono g,q.imp g λ_ k H1 g1=>k H1<|g.trans g1⟩
  |true=>rw[if_pos rfl] at q ⊢;exact q H' g⟩
theorem vA (h:FW X E e ft):FT X E e ft:=L2.PW.pt h
def JS (fa:Me->Res D):Me->Res D:=λm=>(fTv fa m).bind λc=>.ok<|.bl !c
def vz (fa fb:Me->Res D):Me->Res D:=λm=>(fTv fa m).bind λc=>if c then fb m else .ok (.bl false)
def fOr (fa fb:Me->Res D):Me->Res D:=λm=>(fTv fa m).bind λc=>if c then .ok (.bl true) else fb m
theorem MP {G:Gx}{O:Zab}{m:Me}{H:Hp}{k:Bool->Prop}(h:Pu G E (fTv fa m) H k):Pu G E (fa m) H λd=>∃b,d=.bl b/\k b:=by
 refine h.bind.imp (aM.refl _) λd q=>?_;cases d with
 |bl b=>exact⟨b,rfl,q⟩
 |_=>exact q.elim
theorem xX {op}(h:FE X E a fa):FE X E (.BoolOp op [a] pos) fa:=abl h
theorem xM (ha:FE X E a fa)(hb:FE X E (.BoolOp .And (b::es) pos) fb):FE X E (.BoolOp .And (a::b::es) pos) (vz fa fb):=
 bG (adl ha hb) λσ H Q hE=>xq5 hE λO0 M0 H0 ow m R q=>⟨O0,M0,H0,ow,m,R,(MP (O:=O0) q.bind).imp (aM.refl _) λd ⟨b,e,q⟩ v H' g hv=>by
  subst e;cases hv;refine⟨b,rfl,?_⟩;cases b with
  |true=>rw[if_pos rfl] at q ⊢;exact⟨O0,M0,H0,ow,m,R.mono g,q.imp g λ_ k v H1 g1=>k v H1<|g.trans g1⟩
  |false=>rw[if_neg bb] at q ⊢;exact q _ H' g<|.bl false⟩
theorem aao (ha:FE X E a fa)(hb:FE X E (.BoolOp .Or (b::es) pos) fb):FE X E (.BoolOp .Or (a::b::es) pos) (fOr fa fb):=
 bG (aeg ha hb) λσ H Q hE=>xq5 hE λO0 M0 H0 ow m R q=>⟨O0,M0,H0,ow,m,R,(MP (O:=O0) q.bind).imp (aM.refl _) λd ⟨b,e,q⟩ v H' g hv=>by
  subst e;cases hv;refine⟨b,rfl,?_⟩;cases b with
  |false=>rw[if_neg bb] at q ⊢;exact⟨O0,M0,H0,ow,m,R.mono g,q.imp g λ_ k v H1 g1=>k v H1<|g.trans g1⟩
  |true=>rw[if_pos rfl] at q ⊢;exact q _ H' g<|.bl true⟩
theorem Lk (ha:FE X E a fa):FE X E (.UnaryOp .Not a pos) (JS fa):=
 bG (ab9 ha) λσ H Q hE=>xq5 hE λO0 M0 H0 ow m R q=>⟨O0,M0,H0,ow,m,R,(MP (O:=O0) q.bind).imp (aM.refl _) λd ⟨b,e,q⟩ v H' g hv=>by
  subst e;cases hv;exact⟨b,rfl,q _ H' g<|.bl _⟩⟩
def aC:Me->Res (List D):=λ_=>.ok []
noncomputable def aj (fa:Me->Res D)(fs:Me->Res (List D)):Me->Res (List D):=λm=>(fa m).bind λx=>(fs m).bind λxs=>.ok (x::xs)
theorem aA:FAE X E [] aC:=rK nG λσ H Q hE=>xq5 hE λO0 M0 H0 ow m R q=>q [] H (aM.refl _) .nil
theorem bj:FAB X E [] aC:=rK nG λσ H Q hE=>xq5 hE λO0 M0 H0 ow m R q=>q [] H (aM.refl _) .nil
theorem ak (ha:FE X E e fa)(hr:FAE X E es fs)(hs:ag (e::es) X.env=(false,eval e X.env)::ag es X.env:=by rfl):FAE X E (e::es) (aj fa fs):=
 rK (eU ha hr hs) λσ H Q hE=>xq5 hE λO0 M0 H0 ow m R q=>⟨O0,M0,H0,ow,m,R,q.bind.imp (aM.refl _) λd q v H1 g1 hv=>⟨O0,M0,H0,ow,m,R.mono g1,q.bind.imp g1 λds q vs H2 g2 hvs=>q _ H2 (g1.trans g2)<|.cons (hv.mono g2) hvs⟩⟩
theorem aP (ha:FB X E e fa)(hr:FAB X E es fs)(hs:ag (e::es) X.env=(false,eval e X.env)::ag es X.env:=by rfl):FAB X E (e::es) (aj fa fs):=
 rK (eU ha hr hs) λσ H Q hE=>xq5 hE λO0 M0 H0 ow m R q=>⟨O0,M0,H0,ow,m,R,q.bind.imp (aM.refl _) λd q v H1 g1 hv=>⟨O0,M0,H0,ow,m,R.mono g1,q.bind.imp g1 λds q vs H2 g2 hvs=>q _ H2 (g1.trans g2)<|.cons (hv.mono g2) hvs⟩⟩
noncomputable def bJ (fs:Me->Res (List D)):Me->Res D:=λm=>(fs m).bind λds=>if ds.length<=av then .ok (.tup ds) else .stuck
noncomputable def gO (fs:Me->Res (List D)):Me->Res D:=λm=>(fs m).bind λds=>if ds.length<=av then .ok (.lst ds) else .stuck
theorem Gn {G:Gx}{α:Type}{c:Prop}[Decidable c]{r:α}{H:Hp}{k:α->Prop}(h:Pu G E (if c then .ok r else .stuck) H k):c/\k r:=by
 by_cases z:c
 ·rw[if_pos z] at h;exact⟨z,h⟩
 ·rw[if_neg z] at h;exact h.elim
theorem bz {x1}(h:FAE X E es fs):FE X E (.Tuple es x1 pos) (bJ fs):=bG (Qi h) λσ H Q hE=>xq5 hE λO0 M0 H0 ow m R q=>⟨O0,M0,H0,ow,m,R,q.bind.imp (aM.refl _) λds q vs H1 g1 hv=>by
 obtain⟨hz,k⟩:=Gn q;exact⟨by rw[bT hv];exact hz,λp H' g e=>k _ H' (g1.trans g)<|.tup (SqU.of e)<|hv.mono g⟩⟩
theorem f9 (h:FAE X E es fs):FN X E (.List es pos) (gO fs):=bG (acd<|aaq h) λσ H Q hE=>xq5 hE λO0 M0 H0 ow m R q=>⟨λvs H1=>aM H H1/\∃ds,DVs (gx X) (Ow O0 ow) H1 vs ds/\ds.length<=av/\∀p H',aM H H'->H p=none->OV (gx X) (Op (Ow O0 ow) p) H' p (.lst ds)->Q (.ref p) H',⟨O0,M0,H0,ow,m,R,q.bind.imp (aM.refl _) λds q vs H1 g1 hv=>⟨g1,ds,hv,Gn q⟩⟩,λvs H1 ⟨g1,ds,hv,hz,k⟩=>
 ⟨by rw[bT hv];exact hz,λp hp=>k p _ (g1.trans<|bL hp _) (g1.free hp) ⟨vs,aZ,(hv.cL λb z=>z.elim .inl λe=>.inr (by rw[e];exact hp)).mono<|bL hp _⟩⟩⟩
noncomputable def aR (g:List D->Option D)(fs:Me->Res (List D)):Me->Res D:=λm=>(fs m).bind λds=>ofO<|g ds
theorem Qm {g:List D->Option D}{σ:L2.St}{H:Hp}{Q:VK}(h:tE (gx X) E (aR g fs) σ H Q):tCB (rGC (gx X) g) (tAB (gx X) E fs) σ H Q:=by
 obtain⟨O0,M0,H0,ow,m,R,q⟩:=h;refine⟨O0,M0,H0,ow,m,R,q.bind.imp (aM.refl _) λds q vs H1 g1 hv=>?_⟩;obtain⟨r,hr,k⟩:=q.ofO;exact⟨_,ds,r,(R.mono g1).mutk,hv,hr,λv H' g d=>k v H' (g1.trans g) d⟩
theorem Vo {g:List D->Option D}{σ:L2.St}{H:Hp}{Q:VK}(h:tN (gx X) E (aR g fs) σ H Q):tCB (acJ (gx X) g) (tAB (gx X) E fs) σ H Q:=by
 obtain⟨O0,M0,H0,ow,m,R,q⟩:=h;refine⟨O0,M0,H0,ow,m,R,q.bind.imp (aM.refl _) λds q vs H1 g1 hv=>?_⟩;obtain⟨r,hr,k⟩:=q.ofO;exact⟨_,ds,r,(R.mono g1).mutk,hv,hr,λp H' g n d=>k p H' (g1.trans g) (g1.free n) d⟩
section
variable {x:Str}{p:Pos}{id T:String}{g:List D->Option D}
theorem bN (hc:iW X (.builtin id) (rGC (gx X) g))(hg:Gl X x)(hm:X.mg x=none)(hv:cc x=some (.builtin id))(ha:FAB X E (e::es) fs)(hn:x≠"__name__":=by decide)(hdb:(x==("__debug__":Str))=false:=by decide)
  (he:ag (e::es) X.env=(false,eval e X.env)::ag es X.env:=by rfl) (ξ:(hV pos<|ag es X.env).any (·.1)=false:=by rfl):FE X E (.Call (.Name x p) (e::es) [] pos) (aR g fs):=
 bG (v7 hc hg hm hv ha hn hdb he ξ) λ_ _ _ h=>Qm h
theorem sV (hc:iW X (.type T) (rGC (gx X) g))(hg:Gl X x)(hm:X.mg x=none)(hv:cc x=some (.type T))(ha:FAB X E (e::es) fs)(hn:x≠"__name__":=by decide)(hdb:(x==("__debug__":Str))=false:=by decide)
  (he:ag (e::es) X.env=(false,eval e X.env)::ag es X.env:=by rfl) (ξ:(hV pos<|ag es X.env).any (·.1)=false:=by rfl):FE X E (.Call (.Name x p) (e::es) [] pos) (aR g fs):=
 bG (zR hc hg hm hv ha hn hdb he ξ) λ_ _ _ h=>Qm h
theorem TX (hc:iW X (.type T) (acJ (gx X) g))(hg:Gl X x)(hm:X.mg x=none)(hv:cc x=some (.type T))(ha:FAB X E (e::es) fs)(hn:x≠"__name__":=by decide)(hdb:(x==("__debug__":Str))=false:=by decide)
  (he:ag (e::es) X.env=(false,eval e X.env)::ag es X.env:=by rfl) (ξ:(hV pos<|ag es X.env).any (·.1)=false:=by rfl):FN X E (.Call (.Name x p) (e::es) [] pos) (aR g fs):=
 bG (zR hc hg hm hv ha hn hdb he ξ) λ_ _ _ h=>Vo h
end
noncomputable def tyD:String->D->Bool
 | "str",.str _=>true
 | "list",.lst _=>true
 | "dict",.dct _ _=>true
 | "dict",.dcu _ _=>true
 |_,_=>false
theorem adu {G:Gx}{O:Zab}{H:Hp}{v:V}{d:D}{T:String}(h:DW G O H v d)(t:tyD T d=true):tyV G.K T v H:=by
 unfold tyD at t;split at t
 ·cases nC h;rfl
 ·obtain⟨a,xs,rfl,hx,_⟩:=jf h;exact .inl ⟨rfl,xs,hx⟩
 ·obtain⟨a,ι,vs,rfl,hx,_⟩:=Ng h;exact .inr<|.inr<|.inl ⟨rfl,.inl ⟨ι,hx⟩⟩
 ·obtain⟨a,ι,vs,rfl,hx,_⟩:=WN h;exact .inr<|.inr<|.inl ⟨rfl,.inr ⟨_,ι,.inl hx⟩⟩
 ·cases t
def Qv (T:String)(g:D->List D->Option D)(fo:Me->Res D)(fs:Me->Res (List D)):Me->Res D:=λm=>(fo m).bind λd=>if tyD T d=true then(fs m).bind λds=>ofO (g d ds) else .stuck
theorem yg {G:Gx}{α:Type}{c:Prop}[Decidable c]{r:Res α}{H:Hp}{k:α->Prop}(h:Pu G E (if c then r else .stuck) H k):c/\Pu G E r H k:=by
 by_cases z:c
 ·rw[if_pos z] at h;exact⟨z,h⟩
 ·rw[if_neg z] at h;exact h.elim
section
variable {o:Expr}{name:Str}{apos ρ:Pos}{T id:String}{g:D->List D->Option D}
theorem adO (pa:PlainAttrs T)(slot:Slot T name id)(hty:typeOf (.builtin id)=pure (.type "method_descriptor"))(hm:MtR X id (rGM (gx X) g))(ho:FB X E o fa)(ha:FAB X E (e::es) fs)
  (ζ:gT o name X.env (eval o X.env)=eval o X.env:=by rfl)
  (θ:((hV ρ<|ag (e::es) X.env).all (λx=>!x.1)&&(AO ρ<|qf [] X.env).all (λx=>x.1.isSome)
   && decide ((e::es).length+([]:List qh).length+(if([]:List qh).isEmpty then 0 else 1)<30))=true:=by rfl)
  (ν:(apos.endLine==ρ.line)=true:=by rfl) (hs:ag (e::es) X.env=(false,eval e X.env)::ag es X.env:=by rfl) (hplain:(hV ρ<|ag es X.env).any (·.1)=false:=by rfl):
  FE X E (.Call (.Attribute o name apos) (e::es) [] ρ) (Qv T g fa fs):=
 bG (QF pa slot hty hm ho ha ζ θ ν hs hplain) λσ H Q hE=>xq5 hE λO0 M0 H0 ow m R q=>⟨O0,M0,H0,ow,m,R,q.bind.imp (aM.refl _) λd q v H1 g1 hv=>by
  obtain⟨t,q⟩:=yg q;refine⟨adu hv t,O0,M0,H0,ow,m,R.mono g1,q.bind.imp g1 λds q vs H2 g2 hvs=>?_⟩;obtain⟨r,hr,k⟩:=q.ofO;exact⟨_,d,ds,r,(R.mono<|g1.trans g2).mutk,hv.mono g2,hvs,hr,λv H' g d=>k v H' ((g1.trans g2).trans g) d⟩⟩
end
end
inductive Fl where
 |nx|bk|ct|rt (fr:Bool) (d:D)
abbrev Zbb:=D->Me->Option Me
abbrev Zba:=Me->Res Bool
abbrev Zaf:=Me->Res D
abbrev Zae:=Me->Res (List D)
abbrev Zad:=List D->Res (Bool×D)
abbrev Zac:=Me->Res (Fl×Me)
mutual
def aa0:D->Bool
 | .non|.bl _|.int _|.str _=>true
 | .tup ds=>LQ ds
 |_=>false
def LQ:List D->Bool
 |[]=>true
 |d::ds=>aa0 d&&LQ ds
end
section
variable {G:Gx}{O O':Zab}{H:Hp}
end
inductive Sy (G:Gx)(H0 H':Hp):List Addr->List V->List D->Prop where
 |nil:Sy G H0 H' [] [] []
 |flat {v:V} {d:D} {vs:List V} {ds:List D} {qs:List Addr}:DV G (λ_=>False) H' v d->aa0 d=true->Sy G H0 H' qs vs ds->Sy G H0 H' qs (v::vs) (d::ds)
 |new {q:Addr} {xs:List V} {es:List D} {vs:List V} {ds:List D} {qs:List Addr}:H0 q=none->H' q=some (.lst xs)->DVs G (λ_=>False) H' xs es->LQ es=true->q∉qs->Sy G H0 H' qs vs ds->Sy G H0 H' (q::qs) (.ref q::vs) (.lst es::ds)
def Fr (G:Gx)(O:Zab)(H0:Hp)(v:V)(H':Hp)(d:D):Prop:=(∃p,v=.ref p/\H0 p=none/\OV G (Op O p) H' p d)\/∃p xs ds qs,d=.tup ds/\v=.ref p/\SqU G.K H' p xs/\Sy G H0 H' qs xs ds
def isTup:D->Bool
 | .tup _=>true
 |_=>false
theorem Fr.lst {G:Gx}{O:Zab}{H0 H':Hp}{v:V}{d:D}(h:Fr G O H0 v H' d)(ht:isTup d=false):∃p,v=.ref p/\H0 p=none/\OV G (Op O p) H' p d:=by
 rcases h with h|⟨p,xs,ds,qs,e,_⟩
 ·exact h
 ·rw[e] at ht;cases ht
def Ss (G:Gx)(E:XK)(O0 M0:Zab)(H0:Hp)(ow:Os)(H:Hp)(W:Ends)(r:Res (Fl×Me)):Prop:=match r with
 | .ok (.nx,m')=>∀ow' σ' H',eV G O0 M0 H0 ow' σ' H' m'->Go O0 ow H ow' H'->W.nx σ' H'
 | .ok (.bk,m')=>∀ow' σ' H',eV G O0 M0 H0 ow' σ' H' m'->Go O0 ow H ow' H'->W.bk σ' H'
 | .ok (.ct,m')=>∀ow' σ' H',eV G O0 M0 H0 ow' σ' H' m'->Go O0 ow H ow' H'->W.ct σ' H'
 | .ok (.rt fr d,m')=>∀v ow' σ' H',eV G O0 M0 H0 ow' σ' H' m'->Go O0 ow H ow' H'->DV G (Ow O0 ow') H' v d->(fr=true->Fr G (Ow O0 ow') H0 v H' d)->W.rt v H'
 | .exc c=>∀C H',XP G H' c C->Kp M0 H0 H'->E (.ref C.1) C.2 H'
 | .stuck=>False
def tS (G:Gx)(E:XK)(g:Zac):TS:=λW σ H=>∃O0 M0 H0 ow m,eV G O0 M0 H0 ow σ H m/\Ss G E O0 M0 H0 ow H W (g m)
abbrev FS (X:Cx)(E:XK)(st:Stmt)(g:Zac):Prop:=PS X st<|tS (gx X) E g
abbrev FSs (X:Cx)(E:XK)(st:List Stmt)(g:Zac):Prop:=PSs X st<|tS (gx X) E g
theorem cH {X:Cx}{st:Stmt}{T T':TS}(h:PS X st T)(k:∀W σ H,T' W σ H->T W σ H):PS X st T':=λπ s σ H W I q=>h π s σ H W I<|k W σ H q
theorem Cz {X:Cx}{st:List Stmt}{T T':TS}(h:PSs X st T)(k:∀W σ H,T' W σ H->T W σ H):PSs X st T':=λπ s σ H W I q=>h π s σ H W I<|k W σ H q
section
variable {G:Gx}{E:XK}{O0 M0:Zab}{H0 H H':Hp}{ow ow':Os}{σ:L2.St}{m:Me}{W:Ends}{r:Res (Fl×Me)}
theorem Ss.pu {α:Type}{x:Res α}{k:α->Res (Fl×Me)}(R:Rel G O0 M0 H0 ow σ H m)(h:Ss G E O0 M0 H0 ow H W (x.bind k)):Pu G E x H λa=>Ss G E O0 M0 H0 ow H W (k a):=by
 cases x with
 |ok a=>exact h
 |exc c=>exact λC H' e g=>h C H' e λb o e n=>g b o<|R.keep b o e n
 |stuck=>exact h
theorem Ss.go (h:Ss G E O0 M0 H0 ow H W r)(g:Go O0 ow H ow' H'):Ss G E O0 M0 H0 ow' H' W r:=by
 cases r with
 |ok a=>
  obtain⟨f,m'⟩:=a;cases f with
  |nx=>exact λow1 σ1 H1 R g1=>h ow1 σ1 H1 R<|g.trans g1
  |bk=>exact λow1 σ1 H1 R g1=>h ow1 σ1 H1 R<|g.trans g1
  |ct=>exact λow1 σ1 H1 R g1=>h ow1 σ1 H1 R<|g.trans g1
  |rt fr d=>exact λv ow1 σ1 H1 R g1=>h v ow1 σ1 H1 R<|g.trans g1
 |exc c=>exact h
 |stuck=>exact h
theorem Ss.ofO {α:Type}{x:Option α}{k:α->Res (Fl×Me)}(h:Ss G E O0 M0 H0 ow H W ((ofO x).bind k)):∃a,x=some a/\Ss G E O0 M0 H0 ow H W (k a):=by
 cases x with
 |some a=>exact⟨a,rfl,h⟩
 |none=>exact h.elim
end
def gNx:Zac:=λm=>.ok (.nx,m)
noncomputable def aL (g k:Zac):Zac:=λm=>match g m with
 | .ok (.nx,m')=>k m'
 |r=>r
noncomputable def bu (i:Nat)(f:Zaf):Zac:=λm=>(f m).bind λd=>.ok (.nx,m.set i<|.fz d)
noncomputable def gQ (i:Nat)(f:Zaf):Zac:=λm=>(f m).bind λd=>if i<m.length then .ok (.nx,m.set i<|.ow d) else .stuck
noncomputable def gEx (f:Zaf):Zac:=λm=>(f m).bind λ_=>.ok (.nx,m)
def bc (f:Zaf):Zac:=λm=>(f m.let).bind λd=>.ok (.rt false d,m.let)
def jW (f:Zaf):Zac:=λm=>(f m.let).bind λd=>.ok (.rt true d,m.let)
def uV (i:Nat):Zac:=λm=>match m[i]? with
 |some (.ow d)=>.ok (.rt true d,m.let)
 |some (.fz d)=>.ok (.rt false d,m.let)
 |_=>.stuck
noncomputable def gIf (t:Zba)(g k:Zac):Zac:=λm=>(t m).bind λc=>if c then g m else k m
noncomputable def V3 (i:Nat)(k:Zac):Zac:=λm=>match m[i]? with
 |some (.ow d)=>k<|m.set i<|.fz d
 |_=>k m
section
variable {X:Cx}{E:XK}{e c:Expr}{es:List Expr}{st:Stmt}{rest sa sb:List Stmt}{f:Zaf}{ft:Zba}{g k ga gb:Zac}{pos pos':Pos}{i:Nat}{x:Str}
theorem aU:FSs X E [] gNx:=Cz Z9 λW σ H hE=>xq5 hE λO0 M0 H0 ow m R q=>q ow σ H R<|Go.refl<|aM.refl _
theorem abo {G:Gx}{W:Ends}{σ:L2.St}{H:Hp}(h:tS G E (aL g k) W σ H):ad6 (tS G E g) (tS G E k) W σ H:=by
 obtain⟨O0,M0,H0,ow,m,R,q⟩:=h;refine⟨O0,M0,H0,ow,m,R,?_⟩;unfold aL at q;cases z:g m with
 |ok a=>
  obtain⟨f,m'⟩:=a;rw[z] at q;cases f with
  |nx=>exact λow' σ' H' R' g'=>⟨O0,M0,H0,ow',m',R',Ss.go q g'⟩
  |bk=>exact q
  |ct=>exact q
  |rt fr d=>exact q
 |exc c=>rw[z] at q;exact q
 |stuck=>rw[z] at q;exact q
theorem aB (h1:FS X E st g)(h2:FSs X E rest k):FSs X E (st::rest) (aL g k):=Cz (Ko h1 h2) λW σ H h=>abo h
theorem aD (h1:FS X E st g):FSs X E [st] g:=Bv h1
theorem ZV (i:Nat)(h:FSs X E rest k):FSs X E rest (V3 i k):=Cz h λW σ H hE=>xq5 hE λO0 M0 H0 ow m R q=>by
 unfold V3 at q;cases z:m[i]? with
 |none=>rw[z] at q;exact⟨O0,M0,H0,ow,m,R,q⟩
 |some s=>
  rw[z] at q;cases s with
  |ow d=>
   obtain⟨a,h1,h2,h3,h4⟩:=R.slot i _ z;have na:¬Ow O0 (owS ow i none) a:=λw=>by
    rcases w with w|⟨j,w⟩
    ·exact R.no0 i a h1 w
    ·by_cases e:j=i
     ·subst e;rw[du] at w;cases w
     ·rw[dw e] at w;exact e<|R.inj j i a w h1
   have sub:∀b,Ow O0 (owS ow i none) b->Ow O0 ow b\/H b=none:=λb z=>.inl z.sub;have hi:=Cq z;have R2:eV (gx X) O0 M0 H0 (owS ow i none) σ H (m.set i<|.fz d):=by
    refine⟨⟨by simp[R.len],R.keep,R.m0,λb z=>R.mutk b z.sub,λj b e=>?_,λj k b e1 e2=>?_,λj hj=>?_,λj s e=>?_⟩,zZ R.nb λ_ z=>by cases z⟩
    ·by_cases q:j=i
     ·subst q;rw[du] at e;cases e
     ·rw[dw q] at e;exact R.no0 j b e
    ·by_cases q:j=i
     ·subst q;rw[du] at e1;cases e1
     ·by_cases q':k=i
      ·subst q';rw[du] at e2;cases e2
      ·rw[dw q] at e1;rw[dw q'] at e2;exact R.inj j k b e1 e2
    ·by_cases q:j=i
     ·subst q;exact du
     ·rw[dw q];exact R.out j<|by simpa using hj
    ·by_cases q:j=i
     ·subst q;rw[c8 hi] at e;cases e;rw[du];exact⟨rfl,.ref a,h3,(h4.cL sub).dv na⟩
     ·rw[dn<|ix q] at e;rw[dw q];exact(R.slot j s e).cL sub λ_ _ b _=>sh _
   exact⟨O0,M0,H0,_,_,R2,Ss.go q Go.set⟩
  |_=>exact⟨O0,M0,H0,ow,m,R,q⟩
theorem Lj {G:Gx}{W:Ends}{σ:L2.St}{H:Hp}(h:tS G E (bu i f) W σ H):W4 (tE G E f) (Eb i) W σ H:=by
 obtain⟨O0,M0,H0,ow,m,R,q⟩:=h;refine⟨O0,M0,H0,ow,m,R.toRel,(Ss.pu R.toRel q).imp (aM.refl _) λd q v H' g' hv=>?_⟩;exact q _ _ _ ((R.mono g').set hv)<|(Go.refl g').trans Go.set
theorem UL {G:Gx}{W:Ends}{σ:L2.St}{H:Hp}(h:tS G E (gQ i f) W σ H):W4 (tN G E f) (Eb i) W σ H:=by
 obtain⟨O0,M0,H0,ow,m,R,q⟩:=h;refine⟨O0,M0,H0,ow,m,R.toRel,(Ss.pu R.toRel q).imp (aM.refl _) λd q p H' g' n hv=>?_⟩;by_cases hi:i<m.length
 ·rw[if_pos hi] at q;exact q _ _ _ (R.own g' n (R.toRel.aaR n) hv hi)<|Go.own g' n
 ·rw[if_neg hi] at q;exact q.elim
theorem V1 (hN:X.N.Nodup)(hi:X.N[i]? = some x)(hx:Loc X.env.scope x)(he:FE X E e f)(hs:fg e (some<|.Name x pos') pos.line X.env=pure false:=by rfl)
  (hf:X.fn x=true\/X.env.scope.names.lookup x=some .local:=by first|exact .inl rfl|exact .inr rfl|assumption):FS X E (.Assign [.Name x pos'] e pos) (bu i f):=cH (BX hN hi hx he hs hf) λ_ _ _ h=>Lj h
theorem T3 (hN:X.N.Nodup)(hi:X.N[i]? = some x)(hx:Loc X.env.scope x)(he:FN X E e f)(hs:fg e (some<|.Name x pos') pos.line X.env=pure false:=by rfl)
  (hf:X.fn x=true\/X.env.scope.names.lookup x=some .local:=by first|exact .inl rfl|exact .inr rfl|assumption):FS X E (.Assign [.Name x pos'] e pos) (gQ i f):=cH (BX hN hi hx he hs hf) λ_ _ _ h=>UL h
theorem wK (he:FE X E e f)(hs:fg e none pos.line X.env=pure false:=by rfl):FS X E (.Expr e pos) (gEx f):=cH (yF he hs) λW σ H hE=>xq5 hE λO0 M0 H0 ow m R q=>
 ⟨O0,M0,H0,ow,m,R.toRel,(Ss.pu R.toRel q).imp (aM.refl _) λd q v H' g' hv=>q _ _ _ (R.mono g')<|Go.refl g'⟩
theorem bf (he:FE X E e f):FS X E (.Return (some e) pos) (bc f):=cH (HX he) λW σ H hE=>xq5 hE λO0 M0 H0 ow m R q=>by
 obtain⟨ow',R',g1⟩:=R.let;exact⟨O0,M0,H0,ow',m.let,R'.toRel,(Ss.pu R'.toRel<|Ss.go q g1).imp (aM.refl _) λd q v H' g' hv=>q v ow' σ H' (R'.mono g') (Go.refl g') hv λz=>by cases z⟩
theorem j9 (he:FN X E e f):FS X E (.Return (some e) pos) (jW f):=cH (HX he) λW σ H hE=>xq5 hE λO0 M0 H0 ow m R q=>by
 obtain⟨ow',R',g1⟩:=R.let;exact⟨O0,M0,H0,ow',m.let,R'.toRel,(Ss.pu R'.toRel<|Ss.go q g1).imp (aM.refl _) λd q p H' g' n hv=>
  q _ ow' σ H' (R'.mono g') (Go.refl g') ((hv.cL λb z=>.inl<|.inl z).dv<|R'.toRel.Uj n) λ_=>.inl ⟨p,rfl,R'.toRel.aaR n,hv⟩⟩
theorem yo (i:Nat)(hN:X.N[i]? = some x:=by rfl)(hv:Vis X.env.scope x:=by first|exact eC rfl|exact eB (eC rfl)|exact eB (eB rfl))(hd:(x==("__debug__":Str))=false:=by decide)
  (hcd:(x==("__classdict__":Str))=false:=by decide):FS X E (.Return (some<|.Name x pos') pos) (uV i):=cH (HX<|iy hN hv hd hcd) λW σ H hE=>xq5 hE λO0 M0 H0 ow m R q=>by
 obtain⟨ow',R',g1⟩:=R.let;unfold uV at q;cases z:m[i]? with
 |none=>rw[z] at q;exact q.elim
 |some s=>
  rw[z] at q;have zl:m.let[i]? = some s.let:=by unfold Me.let;rw[bg,z];rfl
  cases s with
  |fz d=>
   obtain⟨_,v,e,hv⟩:=R'.slot i _ zl;exact⟨v,e,q v ow' σ H R' g1 hv λz=>by cases z⟩
  |ow d=>
   obtain⟨_,v,e,hv⟩:=R'.slot i _ zl;obtain⟨a,h1,h2,h3,h4⟩:=R.slot i _ z;rw[h3] at e;cases e;refine⟨_,h3,q _ ow' σ H R' g1 hv λ_=>.inl ⟨a,rfl,h2,h4.cL λb w=>.inl ?_⟩⟩;rcases w with w|w
   ·rcases w with w|⟨j,w⟩
    ·exact .inl w
    ·rcases g1.new j b w with w'|w'
     ·exact w'
     ·have:=R'.mutk b (.inr ⟨j,w⟩)
      rw[w'] at this;rcases this with⟨_,e⟩|⟨_,e⟩|⟨_,e⟩|⟨_,e⟩<;>cases e
   ·rw[w];exact .inr ⟨i,h1⟩
  |_=>exact q.elim
theorem bQ (hc:FT X E c ft)(ha:FSs X E sa ga)(hb:FSs X E sb gb):FS X E (.If c sa sb pos) (gIf ft ga gb):=cH (aeF hc ha hb) λW σ H hE=>xq5 hE λO0 M0 H0 ow m R q=>
 ⟨O0,M0,H0,ow,m,R.toRel,(Ss.pu R.toRel q).imp (aM.refl _) λb q H' g'=>by
  cases b with
  |true=>rw[if_pos rfl] at q ⊢;exact⟨O0,M0,H0,ow,m,R.mono g',Ss.go q<|Go.refl g'⟩
  |false=>rw[if_neg bb] at q ⊢;exact⟨O0,M0,H0,ow,m,R.mono g',Ss.go q<|Go.refl g'⟩⟩
noncomputable def wh (t:Zba)(b:Zac):Nat->Me->Option (Res<|Fl×Me)
 |0,_=>none
 |n+1,m=>match t m with
  | .ok true=>match b m with
   | .ok (.nx,m')=>wh t b n m'
   | .ok (.ct,m')=>wh t b n m'
   | .ok (.bk,m')=>some<|.ok (.nx,m')
   | .ok (.rt fr d,m')=>some<|.ok (.rt fr d,m')
   | .exc c=>some<|.exc c
   | .stuck=>some .stuck
  | .ok false=>some<|.ok (.nx,m)
  | .exc c=>some<|.exc c
  | .stuck=>some .stuck
theorem Oz {t:Zba}{b:Zac}:∀{n:Nat} {m:Me} {r:Res (Fl×Me)},wh t b n m=some r->wh t b (n+1) m=some r
 |0,_,_,h=>by cases h
 |n+1,m,r,h=>by
  have ih:=@Oz t b n;unfold wh at h ⊢;split
  ·rename_i e;rw[e] at h;split
   ·rename_i m' e2;rw[e2] at h;exact ih h
   ·rename_i m' e2;rw[e2] at h;exact ih h
   ·rename_i m' e2;rw[e2] at h;exact h
   ·rename_i fr d m' e2;rw[e2] at h;exact h
   ·rename_i c e2;rw[e2] at h;exact h
   ·rename_i e2;rw[e2] at h;exact h
  ·rename_i e;rw[e] at h;exact h
  ·rename_i e;rw[e] at h;exact h
  ·rename_i e;rw[e] at h;exact h
theorem NT {t:Zba}{b:Zac}{n:Nat}{m:Me}{r:Res (Fl×Me)}(h:wh t b n m=some r):∀k,wh t b (n+k) m=some r
 |0=>h
 |k+1=>Oz<|NT h k
open Classical in
def qu (t:Zba)(b:Zac):Zac:=λm=>
 if h:∃n r,wh t b n m=some r then BF (i8 h) else .stuck
theorem RK {t:Zba}{b:Zac}{m:Me}(h:qu t b m≠.stuck):∃n,wh t b n m=some (qu t b m):=by
 unfold qu at h ⊢;split at h
 ·rename_i q;rw[dif_pos q];exact⟨_,i8<|i8 q⟩
 ·exact absurd rfl h
theorem wN {t:Zba}{b:Zac}{m:Me}{r:Res (Fl×Me)}(n:Nat)(h:wh t b n m=some r):qu t b m=r:=by
 unfold qu;have q:∃n r,wh t b n m=some r:=⟨n,r,h⟩;rw[dif_pos q];have z:=i8<|i8 q;have a:=NT z n;have b':=NT h<|BF q;rw[Nat.add_comm] at b';rw[a] at b';exact b9 b'
theorem yG {body:List Stmt}(hp:xo (b6 X.prog X.w) X.A X.env X.xe)(hc:FT X E c ft)(hb:FSs X E body g):FS X E (.While c body [] pos) (qu ft g):=cH (Vh hp hc hb) λW σ H hE=>xq5 hE λO0 M0 H0 ow m R q=>by
 obtain⟨n,hn⟩:=RK (t:=ft) (b:=g) (m:=m) (λz=>by rw[z] at q;exact q);generalize qu ft g m=r at *;refine⟨λn σ' H'=>∃ow' m',eV (gx X) O0 M0 H0 ow' σ' H' m'/\Go O0 ow H ow' H'/\wh ft g n m'=some r,⟨n,ow,m,R,Go.refl<|aM.refl _,hn⟩,?_⟩;rintro n σ1 H1 ⟨ow1,m1,R1,g1,h1⟩;cases n with
 |zero=>cases h1
 |succ n=>
  refine⟨O0,M0,H0,ow1,m1,R1.toRel,?_⟩;unfold wh at h1;cases e:ft m1 with
  |exc c=>
   rw[e] at h1;cases h1;exact λC H' e g'=>q C H' e λb o e n=>g' b o<|R1.keep b o e n
  |stuck=>rw[e] at h1;cases h1;exact q.elim
  |ok t=>
   rw[e] at h1;intro H2 g2;have R2:=R1.mono g2;have G2:=g1.trans<|Go.refl g2;cases t with
   |false=>
    cases h1;rw[if_neg bb];exact q _ _ _ R2 G2
   |true=>
    rw[if_pos rfl];have h1:(match g m1 with
     | .ok (.nx,m')=>wh ft g n m'
     | .ok (.ct,m')=>wh ft g n m'
     | .ok (.bk,m')=>some<|.ok (.nx,m')
     | .ok (.rt fr d,m')=>some<|.ok (.rt fr d,m')
     | .exc c=>some<|.exc c
     | .stuck=>some .stuck)=some r:=h1
    refine⟨λσ' H'=>∃ow' m',eV (gx X) O0 M0 H0 ow' σ' H' m'/\Go O0 ow H ow' H'/\wh ft g n m'=some r,λσ' H' z=>⟨n,wq _,z⟩,O0,M0,H0,ow1,m1,R2,?_⟩;cases e2:g m1 with
    |exc c=>rw[e2] at h1;cases h1;exact q
    |stuck=>rw[e2] at h1;cases h1;exact q
    |ok a=>
     obtain⟨f2,m2⟩:=a;rw[e2] at h1;cases f2 with
     |nx=>exact λow' σ' H' R' g'=>⟨ow',m2,R',G2.trans g',h1⟩
     |ct=>exact λow' σ' H' R' g'=>⟨ow',m2,R',G2.trans g',h1⟩
     |bk=>cases h1;exact λow' σ' H' R' g'=>q ow' σ' H' R'<|G2.trans g'
     |rt fr d=>cases h1;exact λv ow' σ' H' R' g'=>q v ow' σ' H' R'<|G2.trans g'
end
def NbP (m m':Me):Prop:=(∀(j:Nat) (d:D),m[j]?≠some (Sl.bw d))->∀(j:Nat) (d:D),m'[j]?≠some (Sl.bw d)
def tG (G:Gx)(k:Nat)(h:Zbb):TG:=λv σ H Q=>∃O0 M0 H0 ow m d m',Rel G O0 M0 H0 ow σ H m/\DV G (Ow O0 ow) H v d/\h d m=some m'/\
 ∀ow' σ',Rel G O0 M0 H0 ow' σ' H m'->Go O0 ow H ow' H->NbP m m'->σ'.drop k=σ.drop k->Q σ' H
def tGs (G:Gx)(k:Nat)(h:List D->Me->Option Me):TGs:=λvs σ H Q=>∃O0 M0 H0 ow m ds m',Rel G O0 M0 H0 ow σ H m/\DVs G (Ow O0 ow) H vs ds/\h ds m=some m'/\
 ∀ow' σ',Rel G O0 M0 H0 ow' σ' H m'->Go O0 ow H ow' H->NbP m m'->σ'.drop k=σ.drop k->Q σ' H
abbrev FG (X:Cx)(k:Nat)(tg:Expr)(h:Zbb):Prop:=PG X tg<|tG (gx X) k h
abbrev FGs (X:Cx)(k:Nat)(tgs:List Expr)(h:List D->Me->Option Me):Prop:=PGs X tgs<|tGs (gx X) k h
theorem Ro {X:Cx}{e:Expr}{T T':TG}(h:PG X e T)(k:∀v σ H Q,T' v σ H Q->T v σ H Q):PG X e T':=λπ s σ H v u Q I r q=>h π s σ H v u Q I r<|k v σ H Q q
theorem JW {X:Cx}{es:List Expr}{T T':TGs}(h:PGs X es T)(k:∀v σ H Q,T' v σ H Q->T v σ H Q):PGs X es T':=λπ s σ H v u Q I r q=>h π s σ H v u Q I r<|k v σ H Q q
noncomputable def hName (i:Nat):Zbb:=λd m=>some<|m.set i<|.fz d
noncomputable def fP:List D->Me->Option Me
 |[],m=>some m
 |_,_=>none
noncomputable def aW (h:Zbb)(hs:List D->Me->Option Me):List D->Me->Option Me
 |d::ds,m=>(h d m).bind λm'=>hs ds m'
 |_,_=>none
noncomputable def fJ (n:Nat)(hs:List D->Me->Option Me):Zbb
 | .tup ds,m=>if ds.length=n then hs ds m else none
 |_,_=>none
section
variable {X:Cx}{pos:Pos}{k:Nat}{e:Expr}{es:List Expr}{h:Zbb}{hs:List D->Me->Option Me}
theorem Z6 {i:Nat}{x:Str}(hN:X.N.Nodup)(hi:X.N[i]? = some x)(hx:Loc X.env.scope x)(hk:i<k:=by decide)(hf:X.fn x=true\/X.env.scope.names.lookup x=some .local:=by first|exact .inl rfl|exact .inr rfl|assumption):FG X k (.Name x pos) (hName i):=
 Ro (Ye hN hi hx hf) λv σ H Q hE=>xq7 hE λO0 M0 H0 ow m d m' R hv e q=>by
  cases e;refine q _ _ (R.set hv) Go.set (λnb=>zZ nb λ_ z=>by cases z) ?_;rw[List.drop_set,if_pos<|by omega]
theorem dB:FGs X k [] fP:=JW YK λvs σ H Q hE=>xq7 hE λO0 M0 H0 ow m ds m' R hv e q=>by
 cases hv with
 |nil=>cases e;exact⟨rfl,q _ _ R (Go.refl<|aM.refl _) id rfl⟩
 |cons a t=>cases e
theorem aV (h1:FG X k e h)(h2:FGs X k es hs)(hst:(ka (e::es) X.env).map (·.2)=xi e X.env::(ka es X.env).map (·.2):=by rfl):FGs X k (e::es) (aW h hs):=
 JW (Vc h1 h2 hst) λvs σ H Q hE=>xq7 hE λO0 M0 H0 ow m ds m' R hv e q=>by
  cases hv with
  |nil=>cases e
  | @cons v vs' d ds' a t=>
   have e':(h d m).bind (λm'=>hs ds' m')=some m':=e;cases e1:h d m with
   |none=>rw[e1] at e';cases e'
   |some m1=>
    rw[e1] at e';exact⟨v,vs',rfl,O0,M0,H0,ow,m,d,m1,R,a,e1,λow' σ' R' g' nb hd=>⟨O0,M0,H0,ow',m1,ds',m',R',t.go R.mutk g'.ev,e',λow2 σ2 R2 g2 nb2 hd2=>q ow2 σ2 R2 (g'.trans g2) (λz=>nb2<|nb z)<|hd2.trans hd⟩⟩
theorem gk {j n:Nat}(hc:X.calm=true)(h:FGs X k es hs)(hn:(ka es X.env).length=n:=by rfl)(hst:(ka es X.env).findIdx? (·.1)=none:=by rfl):FG X k (.Tuple es j pos) (fJ n hs):=
 Ro (ach hc h hn hst) λv σ H Q hE=>xq7 hE λO0 M0 H0 ow m d m' R hv e q=>by
  cases d with
  |tup ds=>
   obtain⟨a,xs,rfl,hx,hd⟩:=CN<|.inl hv;have e':(if ds.length=n then hs ds m else none)=some m':=e;by_cases z:ds.length=n
   ·rw[if_pos z] at e';exact⟨a,xs,rfl,hx,by rw[bT hd];exact z,O0,M0,H0,ow,m,ds,m',R,hd,e',q⟩
   ·rw[if_neg z] at e';cases e'
  |_=>cases e
end
def Dm (G:Gx)(J:It)(ds:List D)(P:(Zab)->Hp->Prop):Prop:=∀O H,P O H->
 (∀i,i<ds.length->J.go i H)/\(∀i x H',i<ds.length->J.yld i H x H'->aM H H'/\∃d,ds[i]? = some d/\DV G O H' x d)/\J.stop ds.length H
def tI (G:Gx)(E:XK)(f:Zae):TI:=λσ H R=>∃O0 M0 H0 ow m,Rel G O0 M0 H0 ow σ H m/\Pu G E (f m) H λds=>∀J H',aM H H'->Dm G J ds (λO H2=>Ev (Ow O0 ow) H' O H2)->R J H'
def tIw (G:Gx)(E:XK)(f:Zae):TI:=λσ H R=>∃O0 M0 H0 ow m,Rel G O0 M0 H0 ow σ H m/\Pu G E (f m) H λds=>∀J H',aM H H'->Dm G J ds (λO H2=>(∀b,O b->Ow O0 ow b\/H' b=none)/\aM H' H2)->R J H'
abbrev FI (X:Cx)(E:XK)(tg e:Expr)(f:Zae):Prop:=PI Calm X tg e<|tI (gx X) E f
abbrev FIw (X:Cx)(E:XK)(tg e:Expr)(f:Zae):Prop:=PI Calm X tg e<|tIw (gx X) E f
theorem rE {X:Cx}{tg e:Expr}{T T':TI}(h:PI Calm X tg e T)(k:∀σ H R,T' σ H R->T σ H R):PI Calm X tg e T':=λπ s σ H R I q=>h π s σ H R I<|k σ H R q
noncomputable def cZ (f:Zaf):Zae:=λm=>(f m).bind λd=>match d with
 | .lst ds=>.ok ds
 |_=>.stuck
noncomputable def jk (f:Zaf):Zae:=λm=>(f m).bind λd=>match d with
 | .tup ds=>.ok ds
 |_=>.stuck
noncomputable def uW (f:Zae):Zae:=λm=>(f m).bind λd=>match d with
 |[.int j]=>if -(2^62)<=j/\j<2^62 then .ok ((cx j.toNat).map λ(i:Nat)=>D.int i) else .stuck
 |_=>.stuck
noncomputable def Qo (f:Zae):Zae:=λm=>(f m).bind λd=>match d with
 |[.int i,.int j]=>if -(2^62)<=i/\i<2^62/\-(2^62)<=j/\j<2^62 then .ok ((cx (j-i).toNat).map λ(k:Nat)=>D.int<|i+k) else .stuck
 |_=>.stuck
theorem Qj {G:Gx}{O:Zab}{H:Hp}{a:Addr}{xs:List V}{ds:List D}(m:∀b,O b->jy (H b))(hl:LstAt G.K O H a xs)(hd:DVs G O H xs ds):Dm G (Itl G.K a) ds (λO' H2=>Ev O H O' H2):=by
 intro O' H2 ev;have hq:SqL G.K H2 a xs:=(yD ev.2 hl).sq;have hd2:=hd.go m ev;have ω:=bT hd;refine⟨λi hi=>⟨xs,xs[i]'(by omega),hq,by simp⟩,λi x H' hi y=>?_,xs,hq,by omega⟩;obtain⟨e,y⟩:=y;subst e;obtain⟨d,h1,h2⟩:=yE hd2<|y xs hq;exact⟨aM.refl _,d,h1,h2⟩
theorem Uu {G:Gx}{O:Zab}{H:Hp}{a:Addr}{xs:List V}{ds:List D}(m:∀b,O b->jy (H b))(hl:SqL G.K H a xs)(hd:DVs G O H xs ds):Dm G (Itl G.K a) ds (λO' H2=>(∀b,O' b->O b\/H b=none)/\aM H H2):=by
 intro O' H2 ⟨sub,g⟩;have hq:SqL G.K H2 a xs:=Jw hl g;have hd2:=hd.go m ⟨sub,.of g⟩;have ω:=bT hd;refine⟨λi hi=>⟨xs,xs[i]'(by omega),hq,by simp⟩,λi x H' hi y=>?_,xs,hq,by omega⟩;obtain⟨e,y⟩:=y;subst e;obtain⟨d,h1,h2⟩:=yE hd2<|y xs hq;exact⟨aM.refl _,d,h1,h2⟩
theorem UW {G:Gx}{O:Zab}{H:Hp}{a:Addr}{xs:List V}{ds:List D}(m:∀b,O b->jy (H b))(hl:SqT G.K H a xs)(hd:DVs G O H xs ds):Dm G (Itt G.K a) ds (λO' H2=>Ev O H O' H2):=by
 intro O' H2 ev;have hq:SqT G.K H2 a xs:=acC m ev.2 hl;have hd2:=hd.go m ev;have ω:=bT hd;refine⟨λi hi=>⟨xs,xs[i]'(by omega),hq,by simp⟩,λi x H' hi y=>?_,xs,hq,by omega⟩;obtain⟨e,y⟩:=y;subst e;obtain⟨d,h1,h2⟩:=yE hd2<|y xs hq;exact⟨aM.refl _,d,h1,h2⟩
theorem Dm.weak {G:Gx}{J:It}{ds:List D}{O:Zab}{H:Hp}(h:Dm G J ds (λO' H2=>Ev O H O' H2)):Dm G J ds (λO' H2=>(∀b,O' b->O b\/H b=none)/\aM H H2):=
 λO' H2 ⟨s,g⟩=>h O' H2 ⟨s,.of g⟩
theorem K9 {G:Gx}{lo:Int}{n:Nat}{P:(Zab)->Hp->Prop}:Dm G (Itr lo n) ((cx n).map λ(k:Nat)=>D.int<|lo+k) P:=by
 intro O H _;refine⟨λi hi=>(show i<n by simpa using hi),λi x H' hi y=>?_,by show n<=_;simp⟩;obtain⟨e,y⟩:=y;subst e y;have hi':i<n:=by simpa using hi
 exact⟨aM.refl _,_,by simp[bg,qq hi'],.int _⟩
section
variable {X:Cx}{E:XK}{tg e a b:Expr}{f:Zaf}{fs:Zae}{p pos:Pos}
theorem jJ (h:FE X E e f):FI X E tg e (cZ f):=rE (Pg h) λσ H R hE=>xq5 hE λO0 M0 H0 ow m Re q=>⟨O0,M0,H0,ow,m,Re,q.bind.imp (aM.refl _) λd q v H' g hv=>by
 cases d with
 |lst ds=>
  cases hv with
  |lst hl hd=>exact⟨_,rfl,⟨_,hl.sq⟩,q _ H' g<|Qj (Re.mono g).mutk hl hd⟩
 |_=>exact q.elim⟩
theorem mF (h:FE X E e f):FI X E tg e (jk f):=rE (acX h) λσ H R hE=>xq5 hE λO0 M0 H0 ow m Re q=>⟨O0,M0,H0,ow,m,Re,q.bind.imp (aM.refl _) λd q v H' g hv=>by
 cases d with
 |tup ds=>
  cases hv with
  |tup hl hd=>exact⟨_,rfl,⟨_,hl.sq⟩,q _ H' g<|UW (Re.mono g).mutk hl.sq hd⟩
 |_=>exact q.elim⟩
theorem my (h:FB X E e f):FIw X E tg e (cZ f):=rE (Pg h) λσ H R hE=>xq5 hE λO0 M0 H0 ow m Re q=>⟨O0,M0,H0,ow,m,Re,q.bind.imp (aM.refl _) λd q v H' g hv=>by
 cases d with
 |lst ds=>
  obtain⟨a,xs,rfl,hl,hd⟩:=jf hv;exact⟨a,rfl,⟨_,hl⟩,q _ H' g<|Uu (Re.mono g).mutk hl hd⟩
 |_=>exact q.elim⟩
theorem nq {fl:Zae}(h:FI X E tg e fl):FIw X E tg e fl:=rE h λσ H R hE=>xq5 hE λO0 M0 H0 ow m Re q=>⟨O0,M0,H0,ow,m,Re,q.imp (aM.refl _) λds q J H' g hi=>q J H' g hi.weak⟩
theorem m9 (hg:Gl X "range")(hm:X.mg "range" = none)(ha:FAB X E [a] fs)(hs:ag [a] X.env=[(false,eval a X.env)]:=by rfl):FI X E tg (.Call (.Name "range" p) [a] [] pos) (uW fs):=
 rE (R9 hg hm ha hs) λσ H R hE=>xq5 hE λO0 M0 H0 ow m Re q=>⟨O0,M0,H0,ow,m,Re,q.bind.imp (aM.refl _) λds q vs H' g hv=>by
  cases hv with
  |nil=>exact q.elim
  | @cons v vs d ds h1 h2=>
   cases h2 with
   |cons _ _=>cases d<;>exact q.elim
   |nil=>
    cases d with
    |int j=>
     cases bU h1;obtain⟨⟨z1,z2⟩,k⟩:=Gn q;refine⟨j,rfl,z1,z2,k _ H' g ?_⟩
     have:=K9 (G:=gx X) (lo:=0) (n:=j.toNat) (P:=λO H2=>Ev (Ow O0 ow) H' O H2)
     simpa using this
    |_=>exact q.elim⟩
theorem S6 (hg:Gl X "range")(hm:X.mg "range" = none)(ha:FAB X E [a,b] fs)(hs:ag [a,b] X.env=[(false,eval a X.env),(false,eval b X.env)]:=by rfl)(hs2:ag [b] X.env=[(false,eval b X.env)]:=by rfl):FI X E tg (.Call (.Name "range" p) [a,b] [] pos) (Qo fs):=
 rE (Sg hg hm ha hs hs2) λσ H R hE=>xq5 hE λO0 M0 H0 ow m Re q=>⟨O0,M0,H0,ow,m,Re,q.bind.imp (aM.refl _) λds q vs H' g hv=>by
  split at q
  ·cases hv with
   |cons h1 t=>cases t with
    |cons h2 t=>
     cases t;cases bU h1;cases bU h2;obtain⟨⟨z1,z2,z3,z4⟩,k⟩:=Gn q;exact⟨_,_,rfl,⟨z1,z2,z3,z4⟩,k _ H' g K9⟩
  ·exact q.elim⟩
end
noncomputable def bO (h:Zbb)(g:Zac):List D->Zac
 |[],m=>.ok (.nx,m)
 |d::ds,m=>match h d m with
  |none=>.stuck
  |some m1=>match g m1 with
   | .ok (.nx,m2)=>bO h g ds m2
   | .ok (.ct,m2)=>bO h g ds m2
   | .ok (.bk,m2)=>.ok (.nx,m2)
   | .ok (.rt fr v,m2)=>.ok (.rt fr v,m2)
   | .exc c=>.exc c
   | .stuck=>.stuck
def eQ (fi:Zae)(h:Zbb)(g:Zac):Zac:=λm=>(fi m).bind λds=>bO h g ds m
theorem Ib {Cm:Cx->Prop}{X:Cx}{E:XK}{tg iter:Expr}{body:List Stmt}{fi:Zae}{k:Nat}{h:Zbb}{g:Zac}{pos:Pos}(hp:xo (b6 X.prog X.w) X.A X.env X.xe)(hc:Cm X)(hi:PI Cm X tg iter (tI (gx X) E fi))(hg:FG X k tg h)(hb:FSs X E body g)
  (hs:∀x,gE iter X.env x=pure x:=by intro _;rfl):FS X E (.For tg iter body [] pos) (eQ fi h g):=cH (abj hp hc hi hg hb hs) λW σ H hE=>xq5 hE λO0 M0 H0 ow m R q=>
 ⟨O0,M0,H0,ow,m,R.toRel,(Ss.pu R.toRel q).imp (aM.refl _) λds q J H1 g1 it=>by
  have R1:=R.mono g1;have q1:=Ss.go q<|Go.refl g1;generalize hr:bO h g ds m=r at *;refine⟨λi n σ' H'=>∃ow' m',eV (gx X) O0 M0 H0 ow' σ' H' m'/\Go O0 ow H1 ow' H'/\n=ds.length-i/\i<=ds.length/\bO h g (ds.drop i) m'=r,⟨_,ow,m,R1,Go.refl<|aM.refl _,rfl,eW _,hr⟩,?_⟩;rintro i n σ2 H2 ⟨ow2,m2,R2,g2,rfl,hi,e2⟩;obtain⟨i1,i2,i3⟩:=it _ H2 g2.ev;by_cases hlt:i<ds.length
  ·refine .inr ⟨i1 i hlt,λσ' H'=>∃ow' m',eV (gx X) O0 M0 H0 ow' σ' H' m'/\Go O0 ow H1 ow' H'/\bO h g (ds.drop<|i+1) m'=r,λσ' H' ⟨ow',m',R',g',e'⟩=>⟨ds.length-(i+1),by omega,ow',m',R',g',rfl,hlt,e'⟩,λx H3 y=>?_⟩;obtain⟨s3,d,hd,dv⟩:=i2 i x H3 hlt y;have ed:ds.drop i=d::ds.drop (i+1):=by
    rw[sA hlt];rw[a9 hlt] at hd;cases hd;rfl
   rw[ed] at e2;unfold bO at e2;cases eh:h d m2 with
   |none=>rw[eh] at e2;subst e2;exact q1.elim
   |some m3=>
    rw[eh] at e2;refine⟨O0,M0,H0,ow2,m2,d,m3,(R2.mono s3).toRel,dv,eh,λow' σ' R' g' nb _=>?_⟩;have G3:=(g2.trans<|Go.refl s3).trans g';refine⟨O0,M0,H0,ow',m3,⟨R',nb R2.nb⟩,?_⟩;cases eg:g m3 with
    |exc c=>simp only[eg] at e2;subst e2;exact q1
    |stuck=>simp only[eg] at e2;subst e2;exact q1
    |ok a=>
     obtain⟨f4,m4⟩:=a;simp only[eg] at e2;cases f4 with
     |nx=>exact λow4 σ4 H4 R4 g4=>⟨ow4,m4,R4,G3.trans g4,e2⟩
     |ct=>exact λow4 σ4 H4 R4 g4=>⟨ow4,m4,R4,G3.trans g4,e2⟩
     |bk=>subst e2;exact λow4 σ4 H4 R4 g4=>q1 ow4 σ4 H4 R4<|G3.trans g4
     |rt fr v=>subst e2;exact λv ow4 σ4 H4 R4 g4=>q1 v ow4 σ4 H4 R4<|G3.trans g4
  ·have e:i=ds.length:=by omega
   subst e;rw[List.drop_length] at e2;unfold bO at e2;subst e2;exact .inl ⟨i3,q1 ow2 σ2 H2 R2 g2⟩⟩
theorem abS {X:Cx}{E:XK}{tg iter:Expr}{body:List Stmt}{fi:Zae}{k:Nat}{h:Zbb}{g:Zac}{pos:Pos}(hp:xo (b6 X.prog X.w) X.A X.env X.xe)(hc:X.calm=true)(hi:FI X E tg iter fi)(hg:FG X k tg h)(hb:FSs X E body g)
  (hs:∀x,gE iter X.env x=pure x:=by intro _;rfl):FS X E (.For tg iter body [] pos) (eQ fi h g):=Ib (Cm:=Calm) hp hc hi hg hb hs
noncomputable def Sl.bor:Sl->Sl
 | .ow d=>.bw d
 | .io d=>.bw d
 | .hd _ _ _=>.un
 |s=>s
def cMe (k:Nat)(cap:List Nat)(m:Me):Me:=bP k .un++cap.map λj=>(m.getD j .un).bor
noncomputable def dZ (h:Zbb)(ft:Zba)(fe:Zaf)(m0:Me):List D->Res (List D)
 |[]=>.ok []
 |d::ds=>match h d m0 with
  |none=>.stuck
  |some m1=>match ft m1 with
   | .ok true=>match fe m1 with
    | .ok y=>match dZ h ft fe m0 ds with
     | .ok ys=>.ok (y::ys)
     |_=>.stuck
    |_=>.stuck
   | .ok false=>dZ h ft fe m0 ds
   |_=>.stuck
def cD (k:Nat)(cap:List Nat)(fi:Zae)(h:Zbb)(ft:Zba)(fe:Zaf):Zaf:=λm=>(fi m).bind λds=>
 if ds.length<=av then match dZ h ft fe (cMe k cap m) ds with
  | .ok ys=>.ok<|.lst ys
  |_=>.stuck
 else .stuck
abbrev Uc (X:Cx)(E:XK)(ifs:List Expr)(f:Zba):Prop:=TF X ifs<|tT (gx X) E f
def gV:Zba:=λ_=>.ok true
theorem cW:Uc X E [] gV:=λπ s σ H Q I hE=>xq5 hE λO0 M0 H0 ow m R q=>Zn π s σ H Q I<|q H<|aM.refl _
theorem KZ (h:FT X E c f):Uc X E [c] f:=X6 h
section
theorem Vx (R:Rel G O0 M0 H0 ow σ H m)(g:aM H H2)(hl:H l=none)(hz:H2 l=some (.lst zs)):
  Rel G (Op (Ow O0 ow) l) (λ_=>False) (λ_=>none) (λ_=>none) (cSt k cap σ) H2 (cMe k cap m):=by
 have sub:∀b,Ow (Op (Ow O0 ow) l) (λ_=>none) b->Ow O0 ow b\/H b=none:=λb z=>by
  rw[zb] at z;exact z.elim .inl λe=>.inr (by rw[e];exact hl)
 have sup:∀b,Ow O0 ow b->Ow (Op (Ow O0 ow) l) (λ_=>none) b:=λb z=>.inl<|.inl z;refine⟨by simp[cSt,cMe],λb o e _=>(by cases e),λb z=>z.elim,λb z=>?_,λi a e=>(by cases e),λi j a e=>(by cases e),λ_ _=>rfl,λi s e=>?_⟩
 ·rw[zb] at z;rcases z with z|z
  ·exact zT g<|R.mutk b z
  ·rw[z,hz];exact .inl ⟨zs,rfl⟩
 ·unfold cMe at e;by_cases hi:i<k
  ·rw[cS (by simpa using hi),fy,if_pos hi] at e;cases e;rfl
  ·rw[c9 (by simp;lia),ic,bg] at e;have eσ:(cSt k cap σ)[i]? = (cap[i-k]?).map λj=>(σ[j]?).join:=by
    unfold cSt;rw[c9 (by simp;lia),ic,bg]
   cases ec:cap[i-k]? with
   |none=>rw[ec] at e;cases e
   |some j=>
    rw[ec] at e eσ;rw[eσ];cases ej:m[j]? with
    |none=>
     have:m.getD j .un=.un:=by simp[List.getD,ej]
     rw[iP,this] at e;cases e;rfl
    |some s0=>
     have:m.getD j .un=s0:=by simp[List.getD,ej]
     rw[iP,this] at e;cases e;have z:=R.slot j s0 ej;cases s0 with
     |un=>rfl
     |fz d=>
      obtain⟨_,x,e1,hv⟩:=z;exact⟨rfl,x,by rw[iP,e1];rfl,(hv.cL sub).mono g⟩
     |ow d=>
      refine Cv z λa h1 h2 h3 h4=>?_;exact⟨rfl,.ref a,by rw[iP,h3];rfl,.inr ⟨a,rfl,sup a<|.inr ⟨j,h1⟩,(h4.cL sub).mono g⟩⟩
     |io d=>
      refine Cv z λa h1 h2 h3 h4=>?_;exact⟨rfl,.ref a,by rw[iP,h3];rfl,.inr ⟨a,rfl,sup a<|.inr ⟨j,h1⟩,(h4.cL sub).mono g⟩⟩
     |bw d=>
      obtain⟨_,x,e1,hv⟩:=z;refine⟨rfl,x,by rw[iP,e1];rfl,?_⟩;rcases hv with hv|⟨a,e2,o,hv⟩
      ·exact .inl<|(hv.cL sub).mono g
      ·exact .inr ⟨a,e2,sup a o,(hv.cL sub).mono g⟩
     |hd w a d=>rfl
theorem Ij (hq:tN (gx X) E (cD k cap fi h ft fe) σ H Q):Rm k cap (tIw (gx X) E fi) (tG (gx X) k h) (tT (gx X) E0 ft) (tE (gx X) E0 fe) σ H Q:=by
 refine Ge hq λO0 M0 H0 ow m R q=>?_;refine⟨O0,M0,H0,ow,m,R,q.bind.imp (aM.refl _) λds q J H1 g1 it l hl=>?_⟩;obtain⟨hz,q⟩:=yg q;cases hc:dZ h ft fe (cMe k cap m) ds with
 |exc c=>rw[hc] at q;exact q.elim
 |stuck=>rw[hc] at q;exact q.elim
 |ok ys=>
  rw[hc] at q;have hlH:H l=none:=g1.free hl;have mk1:∀b,Op (Ow O0 ow) l b->Ow O0 ow b\/H1 b=none:=λb z=>z.elim .inl λe=>.inr (by rw[e];exact hl);refine⟨λi n zs H'=>n=ds.length-i/\i<=ds.length/\zs.length<=i/\aM H1 H'/\H' l=some (.lst zs)/\∃es rest,DVs (gx X) (Op (Ow O0 ow) l) H' zs es/\dZ h ft fe (cMe k cap m) (ds.drop i)=.ok rest/\es++rest=ys,
   ⟨ds.length,by simp,eW _,aI _,bL hl _,aZ,[],ys,.nil,hc,rfl⟩,?_⟩
  rintro i n zs H' ⟨rfl,hi,hzi,g2,hH,es,rest,hes,hcr,hys⟩;obtain⟨i1,i2,i3⟩:=it (Op (Ow O0 ow) l) H' ⟨mk1,g2⟩;by_cases hlt:i<ds.length
  ·refine .inr ⟨i1 i hlt,λx H2 y=>?_⟩;obtain⟨g3,d,hd,dv⟩:=i2 i x H2 hlt y;have ed:ds.drop i=d::ds.drop (i+1):=by
    rw[sA hlt];rw[a9 hlt] at hd;cases hd;rfl
   rw[ed] at hcr;unfold dZ at hcr;cases eh:h d (cMe k cap m) with
   |none=>rw[eh] at hcr;cases hcr
   |some m1=>
    rw[eh] at hcr;have G2:aM H H2:=(g1.trans g2).trans g3;have R2:=Vx (k:=k) (cap:=cap) (l:=l) (zs:=zs) R G2 hlH<|g3 _ _ hH;refine⟨_,_,_,_,_,d,m1,R2,by rw[zb];exact dv,eh,λow' σ' R' g' nb hdr=>⟨hdr,_,_,_,ow',m1,R',?_⟩⟩;simp only[] at hcr;cases et:ft m1 with
    |exc c=>rw[et] at hcr;cases hcr
    |stuck=>rw[et] at hcr;cases hcr
    |ok t=>
     rw[et] at hcr;intro H3 g4;cases t with
     |false=>
      rw[if_neg bb];exact⟨ds.length-(i+1),by lia,rfl,hlt,by lia,(g2.trans g3).trans g4,g4 _ _<|g3 _ _ hH,es,rest,hes.mono<|g3.trans g4,hcr,hys⟩
     |true=>
      rw[if_pos rfl];refine⟨_,_,_,ow',m1,R'.mono g4,?_⟩;simp only[] at hcr;cases ee:fe m1 with
      |exc c=>rw[ee] at hcr;cases hcr
      |stuck=>rw[ee] at hcr;cases hcr
      |ok y'=>
       rw[ee] at hcr;intro v H5 g5 hv;simp only[] at hcr;cases er:dZ h ft fe (cMe k cap m) (ds.drop<|i+1) with
       |exc c=>rw[er] at hcr;cases hcr
       |stuck=>rw[er] at hcr;cases hcr
       |ok rest'=>
        rw[er] at hcr;cases hcr;have G5:aM H' H5:=(g3.trans g4).trans g5;have mk5:∀b,Op (Ow O0 ow) l b->jy (H5 b):=λb z=>by
         rcases z with z|z
         ·exact zT (((g1.trans g2).trans G5))<|R.mutk b z
         ·rw[z,G5 _ _ hH];exact .inl ⟨zs,rfl⟩
        have kp5:Kp (Op (Ow O0 ow) l) H5 (upd H5 l<|.lst<|zs++[v]):=λb o e n=>by
         rw[bC<|show b≠l from λz=>n<|.inr z];exact e
        refine⟨G5 _ _ hH,by lia,ds.length-(i+1),by lia,rfl,hlt,by rw[bt,eM];lia,?_,aZ,es++[y'],rest',?_,er,by rw[fF];exact hys⟩
        ·exact XN ((aei<|g2.trans G5).trans abZ) hl
        ·exact j7 ((hes.mono G5).kp mk5 kp5)<|.cons ((hv.cL λb z=>.inl<|.inl z).kp mk5 kp5) .nil
  ·have e:i=ds.length:=by lia
   subst e;rw[List.drop_length] at hcr;cases hcr;rw[cw] at hys;subst hys;exact .inl ⟨i3,q l H' (g1.trans g2) hlH ⟨zs,hH,hes⟩⟩
section
theorem fW (sc:sj)(N' caps:List Str)(k:Nat)(cap:List Nat)(hcalm:X.calm=true)(S:CSc sc scope caps)(hcap:jI (λj x=>X.N[j]? = some x) cap caps)
  (hi:FIw X E tg iter fi) (hg:∀cl C sE HE fp π,FG (c7 X N' scope cl C sE HE fp π) k tg h) (ht:∀cl C sE HE fp π,Uc (c7 X N' scope cl C sE HE fp π) E0 ifs ft) (he:∀cl C sE HE fp π,FE (c7 X N' scope cl C sE HE fp π) E0 elt fe)
  (hsc:X.env.scope=sc:=by rfl) (hN:N'.drop k=caps:=by rfl) (hk:k<=N'.length:=by decide) (hs:∀x,gE iter X.env x=pure x:=by intro _;rfl):
  FN X E (.ListComp elt [⟨tg,iter,ifs,0⟩] scope pos) (cD k cap fi h ft fe):=bG (YS sc N' caps k cap hcalm S hcap hi hg ht he hsc hN hk hs) λ_ _ _ q=>Ij q
theorem xx (sc:sj)(N' caps:List Str)(k:Nat)(cap:List Nat)(hnd:X.N.Nodup)(hi':X.N[i]? = some y)(hy:Loc X.env.scope y)(hcalm:X.calm=true)(S:CSc sc scope caps)(hcap:jI (λj x=>X.N[j]? = some x) cap caps)
  (hi:FIw X E tg iter fi) (hg:∀cl C sE HE fp π,FG (c7 X N' scope cl C sE HE fp π) k tg h) (ht:∀cl C sE HE fp π,Uc (c7 X N' scope cl C sE HE fp π) E0 ifs ft) (he:∀cl C sE HE fp π,FE (c7 X N' scope cl C sE HE fp π) E0 elt fe)
  (υ:fg (.ListComp elt [⟨tg,iter,ifs,0⟩] scope pos) (some<|.Name y py) spos.line X.env=pure true:=by rfl)
  (hsc:X.env.scope=sc:=by rfl) (hN:N'.drop k=caps:=by rfl) (hk:k<=N'.length:=by decide) (hs:∀x,gE iter X.env x=pure x:=by intro _;rfl)
  (hf:X.fn y=true\/X.env.scope.names.lookup y=some .local:=by first|exact .inl rfl|exact .inr rfl|assumption):
  FS X E (.Assign [.Name y py] (.ListComp elt [⟨tg,iter,ifs,0⟩] scope pos) spos) (bu i<|cD k cap fi h ft fe):=
 cH (Dg sc N' caps k cap hnd hi' hy hcalm S hcap hi hg ht he υ hsc hN hk hs hf) λW σ H q=>by
  refine Ij (h:=h) (ft:=ft) (fe:=fe) (Q:=λx H1=>Eb i x σ H1 W.nx) ?_;refine Ge (Lj q) λO0 M0 H0 ow m R q=>?_;exact⟨O0,M0,H0,ow,m,R,q.imp (aM.refl _) λ_ k p H' g n o=>k _ H' g<|(o.cL λb z=>.inl<|.inl z).dv<|R.Uj n⟩
theorem Ef (sc:sj)(N' caps:List Str)(k:Nat)(cap:List Nat)(hnd:X.N.Nodup)(hi':X.N[i]? = some y)(hy:Loc X.env.scope y)(hcalm:X.calm=true)(S:CSc sc scope caps)(hcap:jI (λj x=>X.N[j]? = some x) cap caps)
  (hi:FIw X E tg iter fi) (hg:∀cl C sE HE fp π,FG (c7 X N' scope cl C sE HE fp π) k tg h) (ht:∀cl C sE HE fp π,Uc (c7 X N' scope cl C sE HE fp π) E0 ifs ft) (he:∀cl C sE HE fp π,FE (c7 X N' scope cl C sE HE fp π) E0 elt fe)
  (υ:fg (.ListComp elt [⟨tg,iter,ifs,0⟩] scope pos) (some<|.Name y py) spos.line X.env=pure true:=by rfl)
  (hsc:X.env.scope=sc:=by rfl) (hN:N'.drop k=caps:=by rfl) (hk:k<=N'.length:=by decide) (hs:∀x,gE iter X.env x=pure x:=by intro _;rfl)
  (hf:X.fn y=true\/X.env.scope.names.lookup y=some .local:=by first|exact .inl rfl|exact .inr rfl|assumption):
  FS X E (.Assign [.Name y py] (.ListComp elt [⟨tg,iter,ifs,0⟩] scope pos) spos) (gQ i<|cD k cap fi h ft fe):=
 cH (Dg sc N' caps k cap hnd hi' hy hcalm S hcap hi hg ht he υ hsc hN hk hs hf) λW σ H q=>Ij (Q:=λx H1=>Eb i x σ H1 W.nx)<|UL q
end
end
def spF (G:Gx)(Φ:Zad):Sp:=λvs H Q E=>∃O ds,(∀b,O b->jy (H b))/\DVs G O H vs ds/\Pu G E (Φ ds) H λr=>∀v H',aM H H'->DV G O H' v r.2->(r.1=true->Fr G O H v H' r.2)->Q v H'
noncomputable def aX (N n:Nat)(g:Zac):Zad:=λds=>if ds.length=n then match g (ds.map Sl.fz++bP (N-n) Sl.un) with
  | .ok (.rt fr d,_)=>.ok (fr,d)
  | .ok (.nx,_)=>.ok (false,.non)
  | .exc c=>.exc c
  |_=>.stuck
 else .stuck
abbrev FF (P:bq)(w:dA)(K:a7)(mg:Zaa)(base:Heap)(k:Nat)(x:Str)(ps:List Str)(Φ:Zad):Prop:=Hd.Fn P w K mg base k x ps<|spF ⟨K,mg⟩ Φ
theorem Ey (hm:∀b,O b->jy (H b))(hd:DVs G O H vs ds)(hn:ds.length=n):
  eV G O (λ_=>False) H (λ_=>none) (L2.start N vs) H (ds.map Sl.fz++bP (N.length-n) Sl.un):=by
 have hl:=bT hd;refine⟨⟨by simp[L2.start,hl,hn],λb o e _=>e,λb z=>z.elim,λb z=>by rw[zb] at z;exact hm b z,λi a e=>(by cases e),λi j a e=>(by cases e),λ_ _=>rfl,λi s e=>?_⟩,λj d e=>?_⟩
 ·by_cases hi:i<ds.length
  ·rw[cS (by simpa using hi),bg] at e;cases ed:ds[i]? with
   |none=>rw[ed] at e;cases e
   |some d=>
    rw[ed] at e;cases e;obtain⟨x,hx,dx⟩:=xZ hd ed;refine⟨rfl,x,?_,by rw[zb];exact dx⟩;unfold L2.start;rw[cS (by simpa[hl] using hi),bg,hx];rfl
  ·rw[c9 (by simp;lia),fy] at e;split at e
   ·cases e;rfl
   ·cases e
 ·by_cases hi:j<ds.length
  ·rw[cS (by simpa using hi),bg] at e;cases ed:ds[j]? with
   |none=>rw[ed] at e;cases e
   |some d=>rw[ed] at e;cases e
  ·rw[c9 (by simp;lia),fy] at e;split at e<;>cases e
section
variable {P:bq}{w:dA}{K:a7}{mg:Zaa}{base:Heap}
theorem bD {x qual:Str}{st:Stmt}{f:Addr}{fd:gN}{N ps:List Str}{k:Nat}{g:Zac}(Fu:Fun K x qual st f fd)(S:aQ N ps (aF st))
  (hbody:∀(cdv:aw) (A:dP) (outer:List Env) (s:aS) (H:Hp) (E:XK),fZ k (A.deeper<|qc qual (aF st) s.heap.objs.size f cdv)->
   FSs (lQ (CX1 P w) P w K mg base N qual (aF st) f cdv A outer s H E) E (gU st) g):oM P w K mg base (CX1 P w) (k+1) f fd ps (spF ⟨K,mg⟩<|aX N.length ps.length g):=by
 refine By Fu S (λvs H Q E h=>?_) λcdv A outer s H vs Q E hr h=>?_
 ·refine Ae h λO ds _ hd q=>?_;rw[bT hd];unfold aX at q;exact(yg q).1
 ·refine Ae h λO ds hm hd q=>?_;unfold aX at q;obtain⟨hn,q⟩:=yg q;refine⟨_,hbody cdv A outer s H E hr,O,λ_=>False,H,λ_=>none,_,Ey hm hd hn,?_⟩;have sm:∀{ow' σ' H' m'},eV (⟨K,mg⟩:Gx) O (λ_=>False) H ow' σ' H' m'->aM H H':=λR b o e=>R.keep b o e id;cases z:g (ds.map Sl.fz++bP (N.length-ps.length) Sl.un) with
  |exc c=>rw[z] at q;exact λC H' e kp=>q C H' e λb o e=>kp b o e id
  |stuck=>rw[z] at q;exact q.elim
  |ok a=>
   obtain⟨fl,m'⟩:=a;rw[z] at q;cases fl with
   |bk=>exact q.elim
   |ct=>exact q.elim
   |nx=>exact λow' σ' H' R' _=>q _ H' (sm R') .non λz=>by cases z
   |rt fr d=>
    intro v ow' σ' H' R' _ hv hf;refine q v H' (sm R') (hv.cL λb z=>.inl<|.inl z) λz=>?_;rcases hf z with⟨p,e1,e2,e3⟩|t
    ·exact .inl ⟨p,e1,e2,e3.cL λb z=>.inl<|z.elim (λy=>.inl<|.inl y) .inr⟩
    ·exact .inr t
end
noncomputable def fFn (Φ:Zad)(fs:Zae):Zaf:=λm=>(fs m).bind λds=>(Φ ds).bind λr=>.ok r.2
def acI (Φ:Zad)(fs:Zae):Zaf:=λm=>(fs m).bind λds=>(Φ ds).bind λr=>if(r.1&&!isTup r.2)=true then .ok r.2 else .stuck
section
theorem bH (Fh:FF X.prog X.w X.K X.mg X.base k x ps Φ)(hr:fZ j X.A)(hx:Passes (CX1 X.prog X.w) X E)(ha:FAE X E (e::es) fs)(hk:k<=j:=by decide)(hg:Gl X x:=by rfl)
  (hdb:(x==("__debug__":Str))=false:=by decide) (he:ag (e::es) X.env=(false,eval e X.env)::ag es X.env:=by rfl) (ξ:(hV pos<|ag es X.env).any (·.1)=false:=by rfl):
  FE X E (.Call (.Name x p) (e::es) [] pos) (fFn Φ fs):=by
 refine Aq Fh.ex λf fd G b kp m=>?_;refine bG (Ir G (hr.mono hk) hg m kp b .nil hx ha hdb he ξ) λσ H Q hE=>xq5 hE λO0 M0 H0 ow m R q=>⟨O0,M0,H0,ow,m,R,q.bind.imp (aM.refl _) λds q vs H1 g1 hv=>?_⟩;show spF _ _ (vs++[]) _ _ _;rw[cw];exact⟨_,ds,(R.mono g1).mutk,hv,q.bind.imp g1 λr q v H' g2 hv' _=>q v H' (g1.trans g2) hv'⟩
theorem adG (Fh:FF X.prog X.w X.K X.mg X.base k x ps Φ)(hr:fZ j X.A)(hx:Passes (CX1 X.prog X.w) X E)(ha:FAE X E (e::es) fs)(hk:k<=j:=by decide)(hg:Gl X x:=by rfl)
  (hdb:(x==("__debug__":Str))=false:=by decide) (he:ag (e::es) X.env=(false,eval e X.env)::ag es X.env:=by rfl) (ξ:(hV pos<|ag es X.env).any (·.1)=false:=by rfl):
  FN X E (.Call (.Name x p) (e::es) [] pos) (acI Φ fs):=by
 refine Aq Fh.ex λf fd G b kp m=>?_;refine bG (Ir G (hr.mono hk) hg m kp b .nil hx ha hdb he ξ) λσ H Q hE=>xq5 hE λO0 M0 H0 ow m R q=>⟨O0,M0,H0,ow,m,R,q.bind.imp (aM.refl _) λds q vs H1 g1 hv=>?_⟩;show spF _ _ (vs++[]) _ _ _;rw[cw];refine⟨_,ds,(R.mono g1).mutk,hv,q.bind.imp g1 λr q v H' g2 hv' fr=>?_⟩;obtain⟨hf,q⟩:=Gn q;obtain⟨hf1,hf2⟩:=Bool.and_eq_true_iff.mp hf;obtain⟨p,rfl,n,o⟩:=(fr hf1).lst (by simpa using hf2);exact q p H' (g1.trans g2) (g1.free n) o
end
def Bg (i:Int):Prop:=i.natAbs<lmM
instance (i:Int):Decidable (Bg i):=inferInstanceAs<|Decidable<|_<_
def Bq (i:Int):Prop:=i.natAbs<lmD
instance (i:Int):Decidable (Bq i):=inferInstanceAs<|Decidable<|_<_
theorem Uv {i:Int}(h:i.natAbs<2^60000):Bg i:=by unfold Bg;rw[U0];exact h
theorem Q3 {i:Int}(h:i.natAbs<2^8900):Bq i:=by unfold Bq;rw[Mx];exact h
@[simp] theorem af8 {i:Int}(h:Bq i):Bg i:=by
 unfold Bq at h;rw[Mx] at h;exact Uv<|br h<|y7 (by decide)<|by decide
noncomputable def dvI (i j:Int):Int:=if 0<j then i/j else i.fdiv j
noncomputable def mdI (i j:Int):Int:=if 0<j then i%j else i.fmod j
noncomputable def eN:D->D->Option D
 | .int i,.int j=>some<|.int<|i+j
 | .str a,.str b=>if a.length+b.length<=av then some (.str<|a++b) else none
 | .lst a,.lst b=>if a.length+b.length<=av then some (.lst<|a++b) else none
 | .tup a,.tup b=>if a.length+b.length<=av then some (.tup<|a++b) else none
 |_,_=>none
noncomputable def lV:D->D->Option D
 | .int i,.int j=>some<|.int<|i-j
 |_,_=>none
noncomputable def pZ:D->D->Option D
 | .int i,.int j=>if Bg i/\Bg j\/j.natAbs<2^62 then some (.int<|i*j) else none
 |_,_=>none
def gJ:D->D->Option D
 | .int i,.int j=>if j≠0/\Bq j then some (.int<|dvI i j) else none
 |_,_=>none
def cI:D->D->Option D
 | .int i,.int j=>if j≠0 then some (.int<|mdI i j) else none
 |_,_=>none
def ack:D->D->Option D
 | .int i,.int j=>if 0<=j/\j<=1000000/\i.natAbs<2^64 then some (.int<|i^j.toNat) else none
 |_,_=>none
noncomputable def vO:D->Option D
 | .int i=>some<|.int (-i)
 |_=>none
section
variable {X:Cx}
theorem oif {c:Prop}[Decidable c]{α:Type}{a r:α}(h:(if c then some a else none)=some r):c/\a=r:=by
 by_cases z:c
 ·rw[if_pos z] at h;exact⟨z,b9 h⟩
 ·rw[if_neg z] at h;cases h
theorem Rf {π:Zp}{σ:L2.St}{H:Hp}{s:aS}{Q:VK}{O:Zab}{i:Str}{t:Tok}{tk:Nat}(I:Inv X π σ H s)(q:∀v H',aM H H'->DV (gx X) O H' v (.str i)->Q v H'):EP X π σ Q (.str i t) { s with toks:=tk }:=
 ⟨.str i,H,I.tok _,⟨t,rfl⟩,q _ _ (aM.refl _)<|.str i⟩
theorem Yl {π:Zp}{σ:L2.St}{H:Hp}{s:aS}{Q:VK}{O:Zab}{xs:List V}{ds:List D}{χ:List aw}{h':Heap}{tk:Nat}(I:Inv X π σ H s)(m:∀b,O b->jy (H b))(hd:DVs (gx X) O H xs ds)(r:Vals xs χ)(hz:xs.length<=av)
  (kp:∀b o,s.heap.get? b=some o->h'.get? b=some o) (e:∃n,h'.get? s.heap.objs.size=some { cls:=.type "list",data:=.seq χ.toArray n }) (q:∀p H',aM H H'->H p=none->OV (gx X) (Op O p) H' p (.lst ds)->Q (.ref p) H'):EP X π σ Q (.ref s.heap.objs.size) { s with heap:=h',toks:=tk }:=by
 have hf:H s.heap.objs.size=none:=I.hok.fresh<|aI _;obtain⟨n,e⟩:=e;refine⟨.ref s.heap.objs.size,upd H s.heap.objs.size<|.lst xs,I.laid kp (aI _) ⟨hz,χ,n,r,e⟩,rfl,q _ _ (bL hf _) hf ⟨xs,aZ,?_⟩⟩;exact(hd.cL λb z=>z.elim .inl λe=>.inr (by rw[e];exact hf)).mono (bL hf _)
theorem Wn {G:Gx}{O:Zab}{H:Hp}{r:D}{Q:VK}(m:∀b,O b->jy (H b))(q:∀v H',aM H H'->DV G O H' v r->Q v H'):∀p H',aM H H'->H p=none->OV G (Op O p) H' p r->Q (.ref p) H':=λp H' g n o=>
 q _ H' g ((o.cL λb z=>.inl<|.inl z).dv λz=>by
  have:=m p z
  rw[n] at this;rcases this with⟨_,e⟩|⟨_,e⟩|⟨_,e⟩|⟨_,e⟩<;>cases e)
def adK (G:Gx):R2:=λx y H Q=>∃O ds es,(∀b,O b->jy (H b))/\DW G O H x (.lst ds)/\DW G O H y (.lst es)/\ds.length+es.length<=av/\∀p H',aM H H'->H p=none->OV G (Op O p) H' p (.lst<|ds++es)->Q (.ref p) H'
theorem YH:OpR X (hJ .Add) (adK<|gx X):=by
 intro π s σ H x y v u Q I rx ry h;obtain⟨O,ds,es,m,hx,hy,hz,q⟩:=h;obtain⟨a,xs,rfl,ha,hd⟩:=jf hx;obtain⟨b,ys,rfl,hb,he⟩:=jf hy;cases rx;cases ry;obtain⟨χ,r1,p1,_⟩:=I.list ha;obtain⟨its2,r2,p2,_⟩:=I.list hb;have l1:=bT hd;have l2:=bT he;have k1:=r1.length;have k2:=r2.length;obtain⟨⟨cls,dd,data,sl⟩,ho,hc,n,hdt⟩:=id p1.isList;obtain⟨⟨cls2,dd2,data2,sl2⟩,ho2,hc2,n2,hd2⟩:=id p2.isList;simp only at hc hdt hc2 hd2;subst hc hdt hc2 hd2;refine xy ⟨_,ho,rfl⟩ ⟨_,ho2,rfl⟩ noFill_list_add seq_list_add PySem.F.slot_list_add PySem.F.entry_list_add (PySem.F.args_list_add_2 _ _) (list_addW a b χ.toArray its2.toArray n n2 dd dd2 sl sl2 (by simp;omega)) ⟨ho,ho2,?_⟩;rw[show χ.toArray++its2.toArray=(χ++its2).toArray by simp];exact Yl (tk:=s.toks) I m (j7 hd he) (r1.append r2) (by rw[bt];omega) (λb o e=>af _ e) ⟨0,aT _ rfl⟩ q
theorem TY:OpR X (hJ .Add) (λx y H Q=>∃O ds es,DW (gx X) O H x (.tup ds)/\DW (gx X) O H y (.tup es)/\ds.length+es.length<=av/\∀v H',aM H H'->DV (gx X) O H' v (.tup<|ds++es)->Q v H'):=by
 intro π s σ H x y v u Q I rx ry h;obtain⟨O,ds,es,hx,hy,hz,q⟩:=h;obtain⟨a,xs,rfl,ha,hd⟩:=BR hx;obtain⟨b,ys,rfl,hb,he⟩:=BR hy;have l1:=bT hd;have l2:=bT he;by_cases hx0:xs=[]
 ·subst hx0;cases hd;cases rx;cases ry;obtain⟨χ,r1,p1,_⟩:=I.tuple ha.sq;obtain⟨its2,r2,p2,_⟩:=I.tuple hb.sq;cases r1;obtain⟨⟨cls,dd,data,sl⟩,ho,hc,n,hdt⟩:=id p1;obtain⟨⟨cls2,dd2,data2,sl2⟩,ho2,hc2,n2,hd2⟩:=id p2;simp only at hc hdt hc2 hd2;subst hc hdt hc2 hd2;exact xy ⟨_,ho,rfl⟩ ⟨_,ho2,rfl⟩ wm AL mS mn (me _ _)
   (tuple_addW0 a b ([]:List aw).toArray its2.toArray n n2 dd dd2 sl sl2<|by rfl) ⟨ho,ho2,⟨.ref b,H,I,rfl,q _ _ (aM.refl _)<|.tup hb he⟩⟩
 ·refine aad π s σ H _ _ v u Q I rx ry ⟨a,b,xs,ys,rfl,rfl,ha.sq,hb.sq,hx0,by omega,λz=>?_,λz p hp=>?_⟩
  ·subst z;cases he;exact q _ _ (aM.refl _) (by rw[cw];exact .tup ha hd)
  ·exact q _ _ (bL hp _)<|.tup (SqU.of aZ)<|(j7 hd he).mono<|bL hp _
theorem cO:OpR X (hJ .Add) (rG (gx X) eN):=by
 intro π s σ H x y v u Q I rx ry h;obtain⟨O,d,e,r,m,hx,hy,hr,q⟩:=h
 match d,e,hr with
 | .int i,.int j,hr=>
  cases hr;exact ab4 π s σ H x y v u Q I rx ry ⟨i,j,bU hx,bU hy,q _ _ (aM.refl _)<|.int _⟩
 | .str i,.str j,hr=>
  obtain⟨z,rfl⟩:=oif hr;exact Mw π s σ H x y v u Q I rx ry ⟨i,j,nC hx,nC hy,z,q _ _ (aM.refl _)<|.str _⟩
 | .lst ds,.lst es,hr=>
  obtain⟨z,rfl⟩:=oif hr;exact YH π s σ H x y v u Q I rx ry ⟨O,ds,es,m,hx,hy,z,Wn m q⟩
 | .tup ds,.tup es,hr=>
  obtain⟨z,rfl⟩:=oif hr;exact TY π s σ H x y v u Q I rx ry ⟨O,ds,es,hx,hy,z,q⟩
theorem km:OpR X (hJ .Sub) (rG (gx X) lV):=by
 intro π s σ H x y v u Q I rx ry h;obtain⟨O,d,e,r,m,hx,hy,hr,q⟩:=h
 match d,e,hr with
 | .int i,.int j,hr=>
  cases hr;exact abT π s σ H x y v u Q I rx ry ⟨i,j,bU hx,bU hy,q _ _ (aM.refl _)<|.int _⟩
theorem jK:OpR X (hJ .Mult) (rG (gx X) pZ):=by
 intro π s σ H x y v u Q I rx ry h;obtain⟨O,d,e,r,m,hx,hy,hr,q⟩:=h
 match d,e,hr with
 | .int i,.int j,hr=>
  obtain⟨z,rfl⟩:=oif hr;rcases z with z|z
  ·exact Yp π s σ H x y v u Q I rx ry ⟨i,j,bU hx,bU hy,z,q _ _ (aM.refl _)<|.int _⟩
  ·exact YZ π s σ H x y v u Q I rx ry ⟨i,j,bU hx,bU hy,z,q _ _ (aM.refl _)<|.int _⟩
theorem eO:OpR X (hJ .FloorDiv) (rG (gx X) gJ):=by
 intro π s σ H x y v u Q I rx ry h;obtain⟨O,d,e,r,m,hx,hy,hr,q⟩:=h
 match d,e,hr with
 | .int i,.int j,hr=>
  obtain⟨z,rfl⟩:=oif hr;refine W6 π s σ H x y v u Q I rx ry ⟨i,j,bU hx,bU hy,z,?_⟩;have e:i.fdiv j=dvI i j:=by
   unfold dvI;split
   ·rw[hU i<|by omega]
   ·rfl
  show Q (.int<|i.fdiv j) H;rw[e];exact q _ _ (aM.refl _)<|.int _
theorem bV:OpR X (hJ .Mod) (rG (gx X) cI):=by
 intro π s σ H x y v u Q I rx ry h;obtain⟨O,d,e,r,m,hx,hy,hr,q⟩:=h
 match d,e,hr with
 | .int i,.int j,hr=>
  obtain⟨z,rfl⟩:=oif hr;refine Xz π s σ H x y v u Q I rx ry ⟨i,j,bU hx,bU hy,z,?_⟩;have e:i.fmod j=mdI i j:=by
   unfold mdI;split
   ·rw[Int.fmod_eq_emod_of_nonneg i<|by omega]
   ·rfl
  show Q (.int<|i.fmod j) H;rw[e];exact q _ _ (aM.refl _)<|.int _
theorem Yv:OpR X (hJ .Pow) (rG (gx X) ack):=by
 intro π s σ H x y v u Q I rx ry h;obtain⟨O,d,e,r,m,hx,hy,hr,q⟩:=h
 match d,e,hr with
 | .int i,.int j,hr=>
  obtain⟨z,rfl⟩:=oif hr;exact acb π s σ H x y v u Q I rx ry ⟨i,j,bU hx,bU hy,z,q _ _ (aM.refl _)<|.int _⟩
theorem uw:UnR X (unaryOp .USub) (rG1 (gx X) vO):=by
 intro π s σ H x v Q I rx h;obtain⟨O,d,r,m,hx,hr,q⟩:=h
 match d,hr with
 | .int i,hr=>
  cases hr;exact acU π s σ H x v Q I rx ⟨i,bU hx,q _ _ (aM.refl _)<|.int _⟩
mutual
def toPy:D->Option oQ
 | .non=>some .none
 | .bl b=>some<|.bool b
 | .int i=>some<|.int i
 | .str x=>some<|.str x
 | .tup xs=>(mL xs).map .tuple
 | .lst xs=>(mL xs).map .list
 | .exc _ _ _=>none
 | .dct _ _=>none
 | .dcu _ _=>none
 | .adr _=>none
 | .ins _ _ _=>none
 | .dcf _ _=>none
def mL:List D->Option (List oQ)
 |[]=>some []
 |d::ds=>(toPy d).bind λp=>(mL ds).map λps=>p::ps
end
mutual
theorem Pb {G:Gx}{O:Zab}{H:Hp}:∀{v:V} {d:D} {p:oQ},DV G O H v d->toPy d=some p->Hd.DV G.K H v p
 |_,_,_,.non,e=>by cases e;exact .non
 |_,_,_,.bl b,e=>by cases e;exact .bl b
 |_,_,_,.int i,e=>by cases e;exact .int i
 |_,_,_,.str x,e=>by cases e;exact .str x
 |_,_,_,.exc ..,e=>by cases e
 |_,_,_,.tup h hs,e=>by
  obtain⟨ps,e1,rfl⟩:=omap (by simpa[toPy] using e);exact .tup h.sq<|Dy hs e1
 |_,_,_,.lst h hs,e=>by
  obtain⟨ps,e1,rfl⟩:=omap (by simpa[toPy] using e);exact .lst h.sq<|Dy hs e1
 |_,_,_,.dct _ _ _ _ _,e=>by cases e
 |_,_,_,.dcu _ _ _ _ _,e=>by cases e
 |_,_,_,.adr _,e=>by cases e
 |_,_,_,.ins _ _ _ _ _ _,e=>by cases e
 |_,_,_,.dcf _ _ _ _,e=>by cases e
theorem Dy {G:Gx}{O:Zab}{H:Hp}:∀{vs:List V} {ds:List D} {ps:List oQ},DVs G O H vs ds->mL ds=some ps->Hd.DVs G.K H vs ps
 |_,_,_,.nil,e=>by cases e;exact .nil
 |_,_,_,.cons (d:=d) (ds:=ds) h hs,e=>by
  unfold mL at e;cases e1:toPy d with
  |none=>rw[e1] at e;cases e
  |some p=>
   rw[e1] at e;obtain⟨ps,e2,rfl⟩:=omap e;exact .cons (Pb h e1)<|Dy hs e2
end
theorem Br {G:Gx}{O:Zab}{H:Hp}{v:V}{d:D}{p:oQ}(h:DW G O H v d)(e:toPy d=some p):Hd.DV G.K H v p:=Pb h.any e
noncomputable def mG (d e:D):Option Bool:=match toPy d,toPy e with
 |some p,some q=>if gL p=true/\gL q=true then some (d5 p q) else none
 |_,_=>none
def gEq:D->D->Option Bool
 | .int i,.int j=>some<|decide<|i=j
 | .str i,.str j=>some<|decide<|i=j
 | .bl i,.bl j=>some<|decide<|i=j
 | .non,.non=>some true
 |d,e=>mG d e
def gNe (d e:D):Option Bool:=(gEq d e).map (!·)
theorem Ew {d e:D}{b:Bool}(h:mG d e=some b):∃p q,toPy d=some p/\toPy e=some q/\gL p=true/\gL q=true/\d5 p q=b:=by
 unfold mG at h;cases e1:toPy d with
 |none=>rw[e1] at h;cases h
 |some p=>
  cases e2:toPy e with
  |none=>rw[e1,e2] at h;cases h
  |some q=>
   rw[e1,e2] at h;obtain⟨⟨z1,z2⟩,rfl⟩:=oif h;exact⟨p,q,rfl,rfl,z1,z2,rfl⟩
theorem GX {d e:D}{b:Bool}(h:gEq d e=some b):(∃i j,d=.int i/\e=.int j/\b=decide (i=j))\/(∃i j,d=.str i/\e=.str j/\b=decide (i=j))\/(∃i j,d=.bl i/\e=.bl j/\b=decide (i=j))\/(d=.non/\e=.non/\b=true)\/mG d e=some b:=by
 unfold gEq at h;split at h
 ·cases h;exact .inl ⟨_,_,rfl,rfl,rfl⟩
 ·cases h;exact .inr<|.inl ⟨_,_,rfl,rfl,rfl⟩
 ·cases h;exact .inr<|.inr<|.inl ⟨_,_,rfl,rfl,rfl⟩
 ·cases h;exact .inr<|.inr<|.inr<|.inl ⟨rfl,rfl,rfl⟩
 ·exact .inr<|.inr<|.inr<|.inr h
theorem cg (hu:X.A.units+64<pE):OpR X (fR .Eq) (rGB (gx X) gEq):=by
 intro π s σ H x y v u Q I rx ry h;obtain⟨O,d,e,r,m,hx,hy,hr,q⟩:=h;rcases GX hr with⟨i,j,rfl,rfl,rfl⟩|⟨i,j,rfl,rfl,rfl⟩|⟨i,j,rfl,rfl,rfl⟩|⟨rfl,rfl,rfl⟩|h
 ·cases bU hx;cases bU hy;exact Rh π s σ H _ _ v u Q I rx ry ⟨rfl,by simpa using q⟩
 ·cases nC hx;cases nC hy;exact Rh π s σ H _ _ v u Q I rx ry ⟨rfl,by simpa using q⟩
 ·cases Rn hx;cases Rn hy;exact Rh π s σ H _ _ v u Q I rx ry ⟨rfl,by simpa using q⟩
 ·cases zA hx;cases zA hy;exact Rh π s σ H _ _ v u Q I rx ry ⟨rfl,by simpa using q⟩
 ·obtain⟨p,p',e1,e2,z1,z2,rfl⟩:=Ew h;exact acG hu π s σ H x y v u Q I rx ry ⟨p,p',Br hx e1,Br hy e2,z1,z2,q⟩
theorem qT (hu:X.A.units+64<pE):OpR X (fR .NotEq) (rGB (gx X) gNe):=by
 intro π s σ H x y v u Q I rx ry h;obtain⟨O,d,e,r,m,hx,hy,hr,q⟩:=h;obtain⟨c,hc,rfl⟩:=omap hr;rcases GX hc with⟨i,j,rfl,rfl,rfl⟩|⟨i,j,rfl,rfl,rfl⟩|⟨i,j,rfl,rfl,rfl⟩|⟨rfl,rfl,rfl⟩|h
 ·cases bU hx;cases bU hy;exact QM π s σ H _ _ v u Q I rx ry ⟨rfl,by simpa using q⟩
 ·cases nC hx;cases nC hy;exact QM π s σ H _ _ v u Q I rx ry ⟨rfl,by simpa using q⟩
 ·cases Rn hx;cases Rn hy;exact QM π s σ H _ _ v u Q I rx ry ⟨rfl,by simpa using q⟩
 ·cases zA hx;cases zA hy;exact QM π s σ H _ _ v u Q I rx ry ⟨rfl,by simpa using q⟩
 ·obtain⟨p,p',e1,e2,z1,z2,rfl⟩:=Ew h;exact ace hu π s σ H x y v u Q I rx ry ⟨p,p',Br hx e1,Br hy e2,z1,z2,q⟩
noncomputable def zM:List D->Option (List Int)
 |[]=>some []
 | .int i::ds=>(zM ds).map (i::·)
 |_::_=>none
theorem Ha {G:Gx}{O:Zab}{H:Hp}:∀{vs:List V} {ds:List D} {ns:List Int},DVs G O H vs ds->zM ds=some ns->vs=ns.map V.int
 |_,_,_,.nil,e=>by cases e;rfl
 |_,_,_,.cons (d:=d) h hs,e=>by
  cases d with
  |int i=>
   obtain⟨ns,e1,rfl⟩:=omap (by simpa[zM] using e);cases h;rw[Ha hs e1];rfl
  |_=>cases e
noncomputable def gLt:D->D->Option Bool
 | .int i,.int j=>some<|decide<|i<j
 |_,_=>none
def gLe:D->D->Option Bool
 | .int i,.int j=>some<|decide<|i<=j
 |_,_=>none
noncomputable def gGt:D->D->Option Bool
 | .int i,.int j=>some<|decide<|j<i
 |_,_=>none
noncomputable def gGe:D->D->Option Bool
 | .int i,.int j=>some<|decide<|j<=i
 |_,_=>none
theorem z8 (hu:X.A.units+64<pE):OpR X (fR .Lt) (rGB (gx X) gLt):=by
 intro π s σ H x y v u Q I rx ry h;obtain⟨O,d,e,r,m,hx,hy,hr,q⟩:=h;unfold gLt at hr;split at hr
 ·rename_i i j;cases hr;exact aeN π s σ H x y v u Q I rx ry ⟨i,j,bU hx,bU hy,q⟩
 ·cases hr
theorem VR:OpR X (fR .LtE) (rGB (gx X) gLe):=by
 intro π s σ H x y v u Q I rx ry h;obtain⟨O,d,e,r,m,hx,hy,hr,q⟩:=h
 match d,e,hr with
 | .int i,.int j,hr=>cases hr;exact adC π s σ H x y v u Q I rx ry ⟨i,j,bU hx,bU hy,q⟩
theorem nF:OpR X (fR .Gt) (rGB (gx X) gGt):=by
 intro π s σ H x y v u Q I rx ry h;obtain⟨O,d,e,r,m,hx,hy,hr,q⟩:=h
 match d,e,hr with
 | .int i,.int j,hr=>cases hr;exact adX π s σ H x y v u Q I rx ry ⟨i,j,bU hx,bU hy,q⟩
theorem G6:OpR X (fR .GtE) (rGB (gx X) gGe):=by
 intro π s σ H x y v u Q I rx ry h;obtain⟨O,d,e,r,m,hx,hy,hr,q⟩:=h
 match d,e,hr with
 | .int i,.int j,hr=>cases hr;exact aer π s σ H x y v u Q I rx ry ⟨i,j,bU hx,bU hy,q⟩
end
section
variable {X:Cx}{E:XK}{e a b:Expr}{es:List Expr}{f fa:Zaf}{fs:Zae}{pos p:Pos}
noncomputable def gIx:D->D->Option D
 | .lst ds,.int i=>atI ds i
 | .tup ds,.int i=>atI ds i
 | .str z,.int i=>if z.length<=av then(atI z.cps.toList i).map λc=>.str ⟨#[c]⟩ else none
 |_,_=>none
theorem O6 {G:Gx}{O:Zab}{H:Hp}{xs:List V}{ds:List D}{i:Int}{d:D}(h:DVs G O H xs ds)(e:atI ds i=some d):∃x,atI xs i=some x/\DV G O H x d:=by
 unfold atI at e ⊢;rw[bT h];cases q:ixN ds.length i with
 |none=>rw[q] at e;cases e
 |some j=>rw[q] at e;exact xZ h e
theorem ac3:IxR X (rG (gx X) gIx):=by
 intro value slice π s σ H x y v u Q I rx ry h hs;obtain⟨O,d,e,r,m,hx,hy,hr,q⟩:=h
 match d,e,hr with
 | .lst ds,.int i,hr=>
  cases bU hy;obtain⟨p,xs,rfl,hp,hd⟩:=jf hx;obtain⟨z,hz,dz⟩:=O6 hd hr;exact Yi value slice π s σ H _ _ v u Q I rx ry ⟨p,xs,i,z,rfl,rfl,hp,hz,q _ _ (aM.refl _) dz⟩ hs
 | .tup ds,.int i,hr=>
  cases bU hy;obtain⟨p,xs,rfl,hp,hd⟩:=CN hx;obtain⟨z,hz,dz⟩:=O6 hd hr;exact acD value slice π s σ H _ _ v u Q I rx ry ⟨p,xs,i,z,rfl,rfl,hp,hz,q _ _ (aM.refl _) dz⟩ hs
 | .str z,.int i,hr=>
  cases bU hy;cases nC hx;have hr':(if z.length<=av then(atI z.cps.toList i).map λc=>D.str ⟨#[c]⟩ else none)=some r:=hr;by_cases hz:z.length<=av
  ·rw[if_pos hz] at hr';obtain⟨c,hc,rfl⟩:=omap hr';exact abu value slice π s σ H _ _ v u Q I rx ry ⟨z,i,c,rfl,rfl,hz,hc,q _ _ (aM.refl _)<|.str _⟩ hs
  ·rw[if_neg hz] at hr';cases hr'
def tO (G:Gx)(E:XK)(f:Me->Res (Option Int)):TO:=λσ H Q=>∃O0 M0 H0 ow m,Rel G O0 M0 H0 ow σ H m/\Pu G E (f m) H λo=>∀H',aM H H'->Q o H'
abbrev FO (X:Cx)(E:XK)(e:Option Expr)(f:Me->Res (Option Int)):Prop:=PO X e<|tO (gx X) E f
theorem QV {e:Option Expr}{T T':TO}(h:PO X e T)(k:∀σ H Q,T' σ H Q->T σ H Q):PO X e T':=λπ s σ H Q I q=>h π s σ H Q I<|k σ H Q q
noncomputable def fO0:Me->Res (Option Int):=λ_=>.ok none
noncomputable def fO1 (f:Zaf):Me->Res (Option Int):=λm=>(f m).bind λd=>match d with
 | .int i=>.ok<|some i
 |_=>.stuck
theorem uP:FO X E none fO0:=QV Zh λσ H Q hE=>xq5 hE λO0 M0 H0 ow m R q=>q H<|aM.refl _
theorem jh (h:FB X E e f):FO X E (some e) (fO1 f):=QV (Zv h) λσ H Q hE=>xq5 hE λO0 M0 H0 ow m R q=>⟨O0,M0,H0,ow,m,R,q.bind.imp (aM.refl _) λd q v H' g hv=>by
 cases d with
 |int i=>cases bU hv;exact⟨i,rfl,q H' g⟩
 |_=>exact q.elim⟩
def cut {α:Type}(xs:List α)(lo hi:Option Int):List α:=(xs.drop<|HT.sIx xs.length 0 lo).take<|HT.sIx xs.length xs.length hi-HT.sIx xs.length 0 lo
def gSl:D->Option Int->Option Int->Option D
 | .lst ds,lo,hi=>some<|.lst<|cut ds lo hi
 | .tup ds,lo,hi=>if HT.sIx ds.length 0 lo=0/\HT.sIx ds.length ds.length hi=ds.length then none else some (.tup<|cut ds lo hi)
 | .str z,lo,hi=>if z.length<=av then some (.str<|x6 z lo hi) else none
 |_,_,_=>none
def rSl (G:Gx):V->Option Int->Option Int->Hp->VK->Prop:=λx lo hi H Q=>∃O d r,(∀b,O b->jy (H b))/\DW G O H x d/\gSl d lo hi=some r/\∀v H',aM H H'->DV G O H' v r->Q v H'
noncomputable def afF:D->Option Int->Option Int->Option D
 | .lst ds,lo,hi=>some<|.lst<|cut ds lo hi
 |_,_,_=>none
def af3 (G:Gx):V->Option Int->Option Int->Hp->VK->Prop:=λx lo hi H Q=>∃O d r,(∀b,O b->jy (H b))/\DW G O H x d/\afF d lo hi=some r/\∀p H',aM H H'->H p=none->OV G (Op O p) H' p r->Q (.ref p) H'
theorem Ob {G:Gx}{O:Zab}{H:Hp}{xs:List V}{ds:List D}{lo hi:Option Int}(h:DVs G O H xs ds):DVs G O H (JX xs lo hi) (cut ds lo hi):=by
 unfold JX cut;rw[bT h];exact Dt _<|Jh _ h
theorem aec:SlR X (af3<|gx X):=by
 intro π s σ H x v vl vu lo hi sl Q I rx hs pl pu h;obtain⟨O,d,r,m,hx,hr,q⟩:=h
 match d,hr with
 | .lst ds,hr=>
  cases hr;obtain⟨p,xs,rfl,hp,hd⟩:=jf hx;exact Zg π s σ H _ v vl vu lo hi sl Q I rx hs pl pu ⟨p,xs,rfl,hp,λp hp'=>q p _ (bL hp' _) hp' ⟨_,aZ,((Ob hd).cL λb z=>z.elim .inl λe=>.inr (by rw[e];exact hp')).mono<|bL hp' _⟩⟩
theorem U8 {u:aw}{o:Option Int}(h:BA u o):∃l:Option (Int×Tok),u=partValue l/\l.map (·.1)=o:=by
 cases h with
 |none=>exact⟨none,rfl,rfl⟩
 |int i t=>exact⟨some (i,t),rfl,rfl⟩
theorem afH:SlR X (rSl<|gx X):=by
 intro π s σ H x v vl vu lo hi sl Q I rx hs pl pu h;obtain⟨O,d,r,m,hx,hr,q⟩:=h
 match d,hr with
 | .lst ds,hr=>exact aec π s σ H x v vl vu lo hi sl Q I rx hs pl pu ⟨O,.lst ds,r,m,hx,hr,Wn m q⟩
 | .tup ds,hr=>
  obtain⟨p,xs,rfl,hp,hd⟩:=CN hx;have hr':(if HT.sIx ds.length 0 lo=0/\HT.sIx ds.length ds.length hi=ds.length then none else some (D.tup<|cut ds lo hi))=some r:=hr;by_cases z:HT.sIx ds.length 0 lo=0/\HT.sIx ds.length ds.length hi=ds.length
  ·rw[if_pos z] at hr';cases hr'
  ·rw[if_neg z] at hr';cases hr';exact abq π s σ H _ v vl vu lo hi sl Q I rx hs pl pu ⟨p,xs,rfl,hp,by rw[bT hd];exact z,λp hp'=>q _ _ (bL hp' _)<|.tup (SqU.of aZ)<|(Ob hd).mono<|bL hp' _⟩
 | .str z,hr=>
  cases nC hx;obtain⟨t,rfl⟩:=rx;obtain⟨hz,rfl⟩:=oif hr;obtain⟨l,rfl,rfl⟩:=U8 pl;obtain⟨u,rfl,rfl⟩:=U8 pu;refine⟨"str",_,PySem.F.slot_str_getitem.lookup,sT _ _ _,wpAny_getItem_str_slice (l:=l) (u:=u) (st:=none) hs rfl<|post_val_or_str ⟨dr (Txt.slice_le z _ _) hz,λt' k=>Rf (tk:=k) I q⟩⟩
def fSl (f:Zaf)(lo hi:Me->Res (Option Int)):Zaf:=λm=>(f m).bind λd=>(lo m).bind λl=>(hi m).bind λu=>ofO<|gSl d l u
variable {lo hi:Option Expr}{fl fh:Me->Res (Option Int)}{p2:Pos}
theorem jX (he:FB X E e f)(hl:FO X E lo fl)(hu:FO X E hi fh):FE X E (.Subscript e (.Slice lo hi none p2) pos) (fSl f fl fh):=
 bG (Vt afH he hl hu) λσ H Q hE=>xq5 hE λO0 M0 H0 ow m R q=>⟨O0,M0,H0,ow,m,R,q.bind.imp (aM.refl _) λd q v H1 g1 hv=>⟨O0,M0,H0,ow,m,R.mono g1,q.bind.imp g1 λl q H2 g2=>⟨O0,M0,H0,ow,m,R.mono<|g1.trans g2,q.bind.imp (g1.trans g2) λu q H3 g3=>by
  obtain⟨r,hr,k⟩:=q.ofO;exact⟨_,d,r,(R.mono<|(g1.trans g2).trans g3).mutk,hv.mono<|g2.trans g3,hr,λv H' g d=>k v H' (((g1.trans g2).trans g3).trans g) d⟩⟩⟩⟩
noncomputable def dC:List D->Option D
 |[.lst ds]=>some<|.int ds.length
 |[.tup ds]=>some<|.int ds.length
 |[.str z]=>if z.length<=av then some (.int z.length) else none
 |[.dct ks _]=>some<|.int ks.length
 |_=>none
theorem wW {G:Gx}{O:Zab}{H:Hp}{vs:List V}{d:D}(h:DWs G O H vs [d]):∃v,vs=[v]/\DW G O H v d:=by
 cases h with
 |cons a t=>cases t;exact⟨_,rfl,a⟩
theorem RV:iW X (.builtin "len") (λxs H Q=>∃a ι,xs=[V.ref a]/\Rd H a (.dK ι)/\Q (.int ι.length) H):=by
 intro π s σ H xs us Q I r h;obtain⟨a,ι,rfl,e,q⟩:=h;obtain⟨u,rfl,rx⟩:=vals1 r;cases rx;exact afc I e λt s' I'=>⟨.int ι.length,H,I',⟨t,rfl⟩,q⟩
theorem cR:iW X (.builtin "len") (rGC (gx X) dC):=by
 intro π s σ H xs us Q I r h;obtain⟨O,ds,d,m,hx,hr,q⟩:=h
 match ds,hr with
 |[.lst ds],hr=>
  cases hr;obtain⟨v,rfl,hv⟩:=wW hx;obtain⟨p,xs,rfl,hp,hd⟩:=jf hv;exact zf π s σ H _ us Q I r ⟨p,xs,rfl,.inl hp,by rw[bT hd];exact q _ _ (aM.refl _)<|.int _⟩
 |[.tup ds],hr=>
  cases hr;obtain⟨v,rfl,hv⟩:=wW hx;obtain⟨p,xs,rfl,hp,hd⟩:=CN hv;exact zf π s σ H _ us Q I r ⟨p,xs,rfl,.inr hp,by rw[bT hd];exact q _ _ (aM.refl _)<|.int _⟩
 |[.str z],hr=>
  obtain⟨hz,rfl⟩:=oif hr;obtain⟨v,rfl,hv⟩:=wW hx;cases nC hv;exact HQ π s σ H _ us Q I r ⟨z,rfl,hz,q _ _ (aM.refl _)<|.int _⟩
 |[.dct ks vs],hr=>
  cases hr;obtain⟨v,rfl,hv⟩:=wW hx;obtain⟨p,ι,ws,rfl,hp,e1,e2,hd⟩:=Ng hv;exact RV π s σ H _ us Q I r ⟨p,ι,rfl,hp,by rw[show ι.length=ks.length by rw[← e1,cp]];exact q _ _ (aM.refl _)<|.int _⟩
noncomputable def zY:List D->Option D
 |[.int i]=>some<|.int<|if i<0 then -i else i
 |_=>none
theorem ud:iW X (.builtin "abs") (rGC (gx X) zY):=by
 intro π s σ H xs us Q I r h;obtain⟨O,ds,d,m,hx,hr,q⟩:=h
 match ds,hr with
 |[.int i],hr=>
  cases hr;obtain⟨v,rfl,hv⟩:=wW hx;cases bU hv;exact VN π s σ H _ us Q I r ⟨i,rfl,q _ _ (aM.refl _)<|.int _⟩
noncomputable def nM:List D->Option D
 |[.lst ds]=>some<|.tup ds
 |[.tup ds]=>some<|.tup ds
 |_=>none
theorem oY:iW X (.type "tuple") (rGC (gx X) nM):=by
 intro π s σ H xs us Q I r h;obtain⟨O,ds,d,m,hx,hr,q⟩:=h
 match ds,hr with
 |[.lst ds],hr=>
  cases hr;obtain⟨v,rfl,hv⟩:=wW hx;obtain⟨p,xs,rfl,hp,hd⟩:=jf hv;exact xr π s σ H _ us Q I r ⟨p,xs,rfl,.inl ⟨hp,λl hl=>q _ _ (bL hl _)<|.tup (SqU.of aZ)<|hd.mono<|bL hl _⟩⟩
 |[.tup ds],hr=>
  cases hr;obtain⟨v,rfl,hv⟩:=wW hx;obtain⟨p,xs,rfl,hp,hd⟩:=BR hv;exact xr π s σ H _ us Q I r ⟨p,xs,rfl,.inr ⟨hp.sq,q _ _ (aM.refl _)<|.tup hp hd⟩⟩
noncomputable def Q5:List D->Option D
 |[.lst ds]=>some<|.lst ds
 |[.tup ds]=>some<|.lst ds
 |_=>none
theorem Li:iW X (.type "list") (acJ (gx X) Q5):=by
 intro π s σ H xs us Q I r h;obtain⟨O,ds,d,m,hx,hr,q⟩:=h;have go:∀{p:Addr} {ys:List V} {ds:List D},(SqL X.K H p ys\/SqT X.K H p ys)->DVs (gx X) O H ys ds->(∀p H',aM H H'->H p=none->OV (gx X) (Op O p) H' p (.lst ds)->Q (.ref p) H')->Vals [V.ref p] us->bp (b6 X.prog X.w) X.A (call (.type "list") us) (EP X π σ Q) X.xe s:=
  λhp hd q r=>Hr π s σ H _ us Q I r ⟨_,_,rfl,hp,λl hl=>q _ _ (bL hl _) hl ⟨_,aZ,(hd.cL λb z=>z.elim .inl λe=>.inr (by rw[e];exact hl)).mono<|bL hl _⟩⟩
 match ds,hr with
 |[.lst ds],hr=>
  cases hr;obtain⟨v,rfl,hv⟩:=wW hx;obtain⟨p,xs,rfl,hp,hd⟩:=jf hv;exact go (.inl hp) hd q r
 |[.tup ds],hr=>
  cases hr;obtain⟨v,rfl,hv⟩:=wW hx;obtain⟨p,xs,rfl,hp,hd⟩:=CN hv;exact go (.inr hp) hd q r
noncomputable def mU:D->String
 | .non=>"NoneType"
 | .bl _=>"bool"
 | .int _=>"int"
 | .str _=>"str"
 | .tup _=>"tuple"
 | .lst _=>"list"
 | .dct _ _=>"dict"
 | .dcu _ _=>"dict"
 | .exc _ _ _=>""
 | .dcf _ _=>""
 | .adr _=>""
 | .ins _ _ _=>""
noncomputable def S9 (t T:String):Bool:=t==T||(t=="bool" && T=="int")
noncomputable def kinds:List String:=["NoneType", "bool", "int", "str", "tuple", "list", "dict"]
theorem Zc {K:a7}{t:String}:bS K (.type t) (.type t)=some true:=by unfold bS;rw[if_pos<|by simp]
theorem Ym {K:a7}:∀t∈kinds,∀T∈kinds,bS K (.type t) (.type T)=some (S9 t T):=by
 intro t ht T hT;simp only[kinds,bE,List.not_mem_nil,or_false] at ht hT;rcases ht with rfl|rfl|rfl|rfl|rfl|rfl|rfl<;>rcases hT with rfl|rfl|rfl|rfl|rfl|rfl|rfl<;>first|exact Zc|kernel_rfl
theorem Wz {G:Gx}{O:Zab}{H:Hp}{v:V}{d:D}(h:DW G O H v d)(n:mU d≠""):mU d∈kinds/\TyK G.K H v (.type<|mU d):=by
 have z:=h.any;cases z with
 |non=>exact⟨by simp[mU,kinds],.of .non⟩
 |bl b=>exact⟨by simp[mU,kinds],.of<|.bl b⟩
 |int b=>exact⟨by simp[mU,kinds],.of<|.int b⟩
 |str b=>exact⟨by simp[mU,kinds],.of<|.str b⟩
 |exc _ _=>exact absurd rfl n
 |dcf _ _ _ _=>exact absurd rfl n
 |adr _=>exact absurd rfl n
 |ins _ _ _ _ _ _=>exact absurd rfl n
 |tup hq _=>exact⟨by simp[mU,kinds],.tup hq.sq⟩
 |lst hq _=>exact⟨by simp[mU,kinds],.lst hq.sq⟩
 |dct _ e _ _ _=>exact⟨by simp[mU,kinds],.of<|.dK e⟩
 |dcu _ e _ _ _=>exact⟨by simp[mU,kinds],.of<|.dT e⟩
def wF (T:String)(f:Zaf):Zaf:=λm=>(f m).bind λd=>if mU d = "" then .stuck else .ok (.bl<|S9 (mU d) T)
theorem qt {x y:Str}{py:Pos}{T:String}(ha:FB X E a fa)(hg:Gl X "isinstance")(hm:X.mg "isinstance" = none)(hv:cc "isinstance" = some (.builtin "isinstance"))(hgy:Gl X y)(hmy:X.mg y=none)(hvy:cc y=some (.type T))(hT:T∈kinds:=by decide)
  (hny:y≠"__name__":=by decide) (hdy:(y==("__debug__":Str))=false:=by decide)
  (he:ag [a,.Name y py] X.env=(false,eval a X.env)::ag [.Name y py] X.env:=by rfl) (he2:ag [.Name y py] X.env=(false,eval (.Name y py) X.env)::ag [] X.env:=by rfl) (ξ:(hV pos<|ag [.Name y py] X.env).any (·.1)=false:=by rfl):
  FE X E (.Call (.Name "isinstance" p) [a,.Name y py] [] pos) (wF T fa):=
 bG (v7 Ry hg hm hv (eU ha (eU (Qp (v:=.ty T) hgy hmy hvy rfl hny hdy) nG he2) he) (by decide) (by decide) he ξ) λσ H Q hE=>xq5 hE λO0 M0 H0 ow m R q=>⟨O0,M0,H0,ow,m,R,q.bind.imp (aM.refl _) λd q v H' g hv=>by
  by_cases n:mU d = ""
  ·rw[if_pos n] at q;exact q.elim
  ·rw[if_neg n] at q;obtain⟨k1,k2⟩:=Wz hv n;exact⟨v,.ty T,_,_,_,rfl,rfl,k2,Ym _ k1 T hT,q _ _ g<|.bl _⟩⟩
end
section
theorem eV.chg (R:eV G O0 M0 H0 ow σ H m)(ho:ow i=some a)(g:Kp (· = a) H H')(h:OV G (Ow O0 ow) H' a d')
  (hs:(m[i]? = some (.ow d)/\s'=.ow d')\/(m[i]? = some (.io d)/\s'=.io d')):eV G O0 M0 H0 ow σ H' (m.set i s'):=by
 have oa:Ow O0 ow a:=.inr ⟨i,ho⟩;have kp:Kp (Ow O0 ow) H H':=λb u e n=>g b u e λz=>n<|z▸oa;have hi:i<m.length:=by rcases hs with⟨e,_⟩|⟨e,_⟩<;>exact Cq e
 have ne:∀b o,H b=some o->b≠a->H' b=H b:=λb o e n=>by rw[e];exact g b o e n
 refine⟨⟨by simp[R.len],λb u e n=>?_,λb z=>?_,λb z=>?_,R.no0,R.inj,λj hj=>R.out j (by simpa using hj),λj s e=>?_⟩,zZ R.nb λ_ z=>by rcases hs with⟨_,w⟩|⟨_,w⟩<;>(rw[w] at z;cases z)⟩
 ·refine g b u (R.keep b u e n) λz=>?_;subst z;rcases hs with⟨q,_⟩|⟨q,_⟩
  ·obtain⟨a',e1,e2,_⟩:=R.slot i _ q;rw[ho] at e1;cases e1;rw[e2] at e;cases e
  ·obtain⟨a',e1,e2,_⟩:=R.slot i _ q;rw[ho] at e1;cases e1;exact n e2
 ·by_cases q:b=a
  ·rw[q]
   have:=h.mut
   intro w;rw[w] at this;rcases this with⟨_,e⟩|⟨_,e⟩|⟨_,e⟩|⟨_,e⟩<;>cases e
  ·cases w:H b with
   |none=>exact absurd w (R.m0 b z)
   |some o=>rw[g b o w q];simp
 ·by_cases q:b=a
  ·rw[q];exact h.mut
  ·have:=R.mutk b z
   rcases this with⟨_,e⟩|⟨_,e⟩|⟨_,e⟩|⟨_,e⟩
   ·rw[ne b _ e q];exact .inl ⟨_,e⟩
   ·rw[ne b _ e q];exact .inr<|.inl ⟨_,e⟩
   ·rw[ne b _ e q];exact .inr<|.inr<|.inl ⟨_,e⟩
   ·rw[ne b _ e q];exact .inr<|.inr<|.inr ⟨_,e⟩
 ·by_cases q:j=i
  ·subst q;rw[c8 hi] at e;cases e;rcases hs with⟨q,rfl⟩|⟨q,rfl⟩
   ·refine Cv (R.slot j _ q) λa' e1 e2 e3 _=>?_;rw[ho] at e1;cases e1;exact⟨a,ho,e2,e3,h⟩
   ·refine Cv (R.slot j _ q) λa' e1 e2 e3 _=>?_;rw[ho] at e1;cases e1;exact⟨a,ho,e2,e3,h⟩
  ·rw[dn<|ix q] at e;have z:=R.slot j s e;have other:∀{b:Addr} {d:D},ow j=some b->OV G (Ow O0 ow) H b d->OV G (Ow O0 ow) H' b d:=λ{b d} e1 h1=>by
    have nb:b≠a:=λw=>q<|R.inj j i b e1<|w▸ho;rcases h1.mut with⟨_,e⟩|⟨_,e⟩|⟨_,e⟩|⟨_,e⟩<;>exact h1.kp R.mutk kp (ne b _ e nb)
   cases s with
   |un=>exact z
   |fz d=>obtain⟨b,x,e,q⟩:=z;exact⟨b,x,e,q.kp R.mutk kp⟩
   |ow d=>obtain⟨b,x,e,f,q'⟩:=z;exact⟨b,x,e,f,other x q'⟩
   |io d=>obtain⟨b,x,e,f,q'⟩:=z;exact⟨b,x,e,f,other x q'⟩
   |bw d=>exact(R.nb j d e).elim
   |hd w b d=>obtain⟨x,e,f,q'⟩:=z;exact⟨x,e,f,other x q'⟩
theorem Go.chg (ho:ow i=some a)(g:Kp (· = a) H H')(h:OV G (Ow O0 ow) H' a d):Go O0 ow H ow H':=
 ⟨λb u e n=>g b u e λz=>n<|z▸.inr ⟨i,ho⟩,λj b e=>.inl<|.inr ⟨j,e⟩,λb n=>by
  by_cases q:b=a
  ·rw[q]
   have:=h.mut
   intro w;rw[w] at this;rcases this with⟨_,e⟩|⟨_,e⟩|⟨_,e⟩|⟨_,e⟩<;>cases e
  ·cases w:H b with
   |none=>exact absurd w n
   |some o=>rw[g b o w q];simp⟩
theorem uM:Kp (· = a) H (L2.upd H a o):=λb u e n=>by rw[L2.bC n];exact e
noncomputable def pB (m:Me)(i:Nat):Option (Bool×List D):=match m[i]? with
 |some (.ow<|.lst ds)=>some (true,ds)
 |some (.io<|.lst ds)=>some (false,ds)
 |_=>none
noncomputable def putL (m:Me)(i:Nat)(k:Bool)(ds:List D):Me:=m.set i<|if k then .ow (.lst ds) else .io (.lst ds)
theorem uH (R:Rel G O0 M0 H0 ow σ H m){i:Nat}{k:Bool}{ds:List D}(e:pB m i=some (k,ds)):∃a xs,ow i=some a/\σ[i]? = some (some<|.ref a)/\H a=some (.lst xs)/\DVs G (Ow O0 ow) H xs ds/\((m[i]? = some (.ow<|.lst ds)/\k=true)\/(m[i]? = some (.io<|.lst ds)/\k=false)):=by
 unfold pB at e;split at e
 ·rename_i q;cases e;obtain⟨a,e1,e2,e3,xs,e4,e5⟩:=R.slot i _ q;exact⟨a,xs,e1,e3,e4,e5,.inl ⟨q,rfl⟩⟩
 ·rename_i q;cases e;obtain⟨a,e1,e2,e3,xs,e4,e5⟩:=R.slot i _ q;exact⟨a,xs,e1,e3,e4,e5,.inr ⟨q,rfl⟩⟩
 ·cases e
theorem eV.put (R:eV G O0 M0 H0 ow σ H m)(ho:ow i=some a)(hm:(m[i]? = some (.ow<|.lst ds)/\k=true)\/(m[i]? = some (.io<|.lst ds)/\k=false))(hd:DVs G (Ow O0 ow) H ys es):
  eV G O0 M0 H0 ow σ (L2.upd H a<|.lst ys) (putL m i k es)/\Go O0 ow H ow (L2.upd H a<|.lst ys):=by
 have oa:Ow O0 ow a:=.inr ⟨i,ho⟩;have kp:Kp (Ow O0 ow) H (L2.upd H a<|.lst ys):=λb u e n=>uM b u e λz=>n<|z▸oa;have ov:OV G (Ow O0 ow) (L2.upd H a<|.lst ys) a (.lst es):=⟨ys,L2.aZ,hd.kp R.mutk kp⟩;refine⟨R.chg (d:=.lst ds) (d':=.lst es) ho uM ov ?_,Go.chg ho uM ov⟩;rcases hm with⟨e,rfl⟩|⟨e,rfl⟩
 ·exact .inl ⟨e,rfl⟩
 ·exact .inr ⟨e,rfl⟩
end
section
def dU (i:Nat)(f:Zaf):Zac:=λm=>(ofO<|pB m i).bind λo=>(f m).bind λd=>if o.2.length<av then .ok (.nx,putL m i o.1<|o.2++[d]) else .stuck
theorem lK (i:Nat)(he:FE X E e f)(hN:X.N[i]? = some x:=by rfl)(hv:Vis X.env.scope x:=by first|exact eC rfl|exact eB (eC rfl)|exact eB (eB rfl))(hd:(x==("__debug__":Str))=false:=by decide)(hcd:(x==("__classdict__":Str))=false:=by decide)
  (ζ:gT (.Name x np) "append" X.env (eval (.Name x np) X.env)=eval (.Name x np) X.env:=by rfl)
  (θ:((hV ρ<|ag [e] X.env).all (λx=>!x.1)&&(AO ρ<|qf [] X.env).all (λx=>x.1.isSome)&&decide ([e].length+([]:List qh).length+(if([]:List qh).isEmpty then 0 else 1)<30))=true:=by rfl)
  (ν:(apos.endLine==ρ.line)=true:=by rfl) (hs:ag [e] X.env=(false,eval e X.env)::ag [] X.env:=by rfl) (hplain:(hV ρ<|ag [] X.env).any (·.1)=false:=by rfl)
  (υ:fg (.Call (.Attribute (.Name x np) "append" apos) [e] [] ρ) none pos.line X.env=pure false:=by rfl):
  FS X E (.Expr (.Call (.Attribute (.Name x np) "append" apos) [e] [] ρ) pos) (dU i f):=
 cH (yF (QF iE tw tz zO (iy hN hv hd hcd) (eU he nG hs) ζ θ ν hs hplain) υ) λW σ H hE=>xq5 hE λO0 M0 H0 ow m R q=>by
  obtain⟨o,ho,q⟩:=Ss.ofO q;obtain⟨k,ds⟩:=o;refine xn (uH R.toRel ho) λa xs e1 e2 e3 e4 e5=>?_;refine⟨_,e2,.inl ⟨rfl,xs,SqL.of e3⟩,O0,M0,H0,ow,m,R.toRel,(Ss.pu R.toRel q).imp (aM.refl _) λd q v H1 g1 hv=>?_⟩;have R1:=R.mono g1;by_cases hz:ds.length<av
  ·rw[if_pos hz] at q;obtain⟨R2,g2⟩:=R1.put (es:=ds++[d]) (ys:=xs++[v]) e1 e5<|j7 (e4.mono g1)<|.cons hv .nil;exact⟨a,xs,v,rfl,rfl,g1 _ _ e3,by rw[bT e4];exact hz,q _ _ _ R2<|(Go.refl g1).trans g2⟩
  ·rw[if_neg hz] at q;exact q.elim
def Ip (i:Nat)(f:Zaf):Zac:=λm=>(ofO<|pB m i).bind λo=>(f m).bind λd=>match d with
 | .lst es=>if o.2.length+es.length<=av then .ok (.nx,putL m i o.1<|o.2++es) else .stuck
 |_=>.stuck
theorem Sh (i:Nat)(he:FN X E e f)(hN:X.N[i]? = some x:=by rfl)(hv:Vis X.env.scope x:=by first|exact eC rfl|exact eB (eC rfl)|exact eB (eB rfl))(hd:(x==("__debug__":Str))=false:=by decide)(hcd:(x==("__classdict__":Str))=false:=by decide)
  (ζ:gT (.Name x np) "extend" X.env (eval (.Name x np) X.env)=eval (.Name x np) X.env:=by rfl)
  (θ:((hV ρ<|ag [e] X.env).all (λx=>!x.1)&&(AO ρ<|qf [] X.env).all (λx=>x.1.isSome)&&decide ([e].length+([]:List qh).length+(if([]:List qh).isEmpty then 0 else 1)<30))=true:=by rfl)
  (ν:(apos.endLine==ρ.line)=true:=by rfl) (hs:ag [e] X.env=(false,eval e X.env)::ag [] X.env:=by rfl) (hplain:(hV ρ<|ag [] X.env).any (·.1)=false:=by rfl)
  (υ:fg (.Call (.Attribute (.Name x np) "extend" apos) [e] [] ρ) none pos.line X.env=pure false:=by rfl):
  FS X E (.Expr (.Call (.Attribute (.Name x np) "extend" apos) [e] [] ρ) pos) (Ip i f):=
 cH (yF (QF iE PySem.F.slot_list_extend PySem.F.type_list_extend RM (iy hN hv hd hcd) (eU he nG hs) ζ θ ν hs hplain) υ) λW σ H hE=>xq5 hE λO0 M0 H0 ow m R q=>by
  obtain⟨o,ho,q⟩:=Ss.ofO q;obtain⟨k,ds⟩:=o;refine xn (uH R.toRel ho) λa xs e1 e2 e3 e4 e5=>?_;refine⟨_,e2,.inl ⟨rfl,xs,SqL.of e3⟩,O0,M0,H0,ow,m,R.toRel,(Ss.pu R.toRel q).imp (aM.refl _) λd q p H1 g1 n hv=>?_⟩;have R1:=R.mono g1;cases d with
  |lst es=>
   have q:Ss (gx X) E O0 M0 H0 ow H W (if ds.length+es.length<=av then .ok (.nx,putL m i k<|ds++es) else .stuck):=q;obtain⟨zs,h1,h2⟩:=hv;by_cases hz:ds.length+es.length<=av
   ·rw[if_pos hz] at q;have h2':DVs (gx X) (Ow O0 ow) H1 zs es:=h2.cL λb z=>.inl<|.inl z;obtain⟨R2,g2⟩:=R1.put (es:=ds++es) (ys:=xs++zs) e1 e5<|j7 (e4.mono g1) h2';exact⟨a,p,xs,zs,rfl,rfl,g1 _ _ e3,h1,by rw[bT e4,bT h2];exact hz,q _ _ _ R2<|(Go.refl g1).trans g2⟩
   ·rw[if_neg hz] at q;exact q.elim
  |_=>exact q.elim
def HY (j i:Nat):Zac:=λm=>(ofO<|pB m i).bind λo=>(ofO<|o.2[o.2.length-1]?).bind λd=>.ok (.nx,(putL m i o.1 o.2.dropLast).set j<|.fz d)
theorem yM (h:DVs G O H xs ds):DVs G O H xs.dropLast ds.dropLast:=by
 rw[x8,x8,bT h];exact Dt _ h
theorem Tt (j i:Nat)(hnd:X.N.Nodup)(hj:X.N[j]? = some y)(hy:Loc X.env.scope y)(hN:X.N[i]? = some x:=by rfl)(hv:Vis X.env.scope x:=by first|exact eC rfl|exact eB (eC rfl)|exact eB (eB rfl))(hd:(x==("__debug__":Str))=false:=by decide)(hcd:(x==("__classdict__":Str))=false:=by decide)
  (ζ:gT (.Name x np) "pop" X.env (eval (.Name x np) X.env)=eval (.Name x np) X.env:=by rfl) (ν:(apos.endLine==ρ.line)=true:=by rfl) {yp:Pos}
  (υ:fg (.Call (.Attribute (.Name x np) "pop" apos) [] [] ρ) (some<|.Name y yp) pos.line X.env=pure false:=by rfl) (hf:X.fn y=true\/X.env.scope.names.lookup y=some .local:=by first|exact .inl rfl|exact .inr rfl|assumption):
  FS X E (.Assign [.Name y yp] (.Call (.Attribute (.Name x np) "pop" apos) [] [] ρ) pos) (HY j i):=
 cH (BX hnd hj hy (LK iE x9 ya VD (iy hN hv hd hcd) ζ ν) υ hf) λW σ H hE=>xq5 hE λO0 M0 H0 ow m R q=>by
  obtain⟨o,ho,q⟩:=Ss.ofO q;obtain⟨k,ds⟩:=o;obtain⟨d,hd',q⟩:=Ss.ofO q;refine xn (uH R.toRel ho) λa xs e1 e2 e3 e4 e5=>?_;obtain⟨v,hv,dv⟩:=xZ e4 hd';obtain⟨R2,g2⟩:=R.put (es:=ds.dropLast) (ys:=xs.dropLast) e1 e5<|yM e4;have dv2:=dv.go R.mutk g2.ev;exact⟨_,e2,.inl ⟨rfl,xs,SqL.of e3⟩,a,xs,v,rfl,rfl,e3,by rw[bT e4];exact hv,q _ _ _ (R2.set dv2)<|g2.trans Go.set⟩
def yj (i:Nat)(fk fv:Zaf):Zac:=λm=>(fv m).bind λd=>(ofO<|pB m i).bind λo=>(fk m).bind λk=>match k with
 | .int n=>(ofO<|ixN o.2.length n).bind λj=>.ok (.nx,putL m i o.1<|o.2.set j d)
 |_=>.stuck
end
def Xs (G:Gx)(E:XK){α:Type}(O0 M0:Zab)(H0:Hp)(ow:Os)(σ:L2.St)(H:Hp)(r:Res (α×Me))(k:α->Hp->Prop):Prop:=match r with
 | .ok (a,m')=>∀H',eV G O0 M0 H0 ow σ H' m'->Go O0 ow H ow H'->k a H'
 | .exc c=>∀C H',XP G H' c C->Kp M0 H0 H'->E (.ref C.1) C.2 H'
 | .stuck=>False
def tX (G:Gx)(E:XK)(f:Me->Res (D×Me)):TE:=λσ H Q=>∃O0 M0 H0 ow m,eV G O0 M0 H0 ow σ H m/\Xs G E O0 M0 H0 ow σ H (f m) λd H'=>∀v,DV G (Ow O0 ow) H' v d->Q v H'
def tXA (G:Gx)(E:XK)(f:Me->Res (List D×Me)):TA:=λσ H Q=>∃O0 M0 H0 ow m,eV G O0 M0 H0 ow σ H m/\Xs G E O0 M0 H0 ow σ H (f m) λds H'=>∀vs,DVs G (Ow O0 ow) H' vs ds->Q vs H'
abbrev FX (X:Cx)(E:XK)(e:Expr)(f:Me->Res (D×Me)):Prop:=PE X e<|tX (gx X) E f
abbrev FXA (X:Cx)(E:XK)(es:List Expr)(f:Me->Res (List D×Me)):Prop:=PA X es<|tXA (gx X) E f
section
variable {G:Gx}{E:XK}{O0 M0:Zab}{H0 H H1:Hp}{ow:Os}{σ:L2.St}{m:Me}
theorem Xs.imp {α:Type}{r:Res (α×Me)}{k k':α->Hp->Prop}(h:Xs G E O0 M0 H0 ow σ H r k)(g:Go O0 ow H ow H1)(hk:∀a H' m',eV G O0 M0 H0 ow σ H' m'->Go O0 ow H1 ow H'->r=.ok (a,m')->k a H'->k' a H'):Xs G E O0 M0 H0 ow σ H1 r k':=by
 cases r with
 |ok a=>obtain⟨a,m'⟩:=a;exact λH' R g'=>hk a H' m' R g' rfl<|h H' R<|g.trans g'
 |exc c=>exact h
 |stuck=>exact h
theorem Xs.bind {α β:Type}{r:Res (α×Me)}{f:α->Me->Res (β×Me)}{k:β->Hp->Prop}(h:Xs G E O0 M0 H0 ow σ H (r.bind λp=>f p.1 p.2) k):
  Xs G E O0 M0 H0 ow σ H r λa H'=>∀m',r=.ok (a,m')->eV G O0 M0 H0 ow σ H' m'->Xs G E O0 M0 H0 ow σ H' (f a m') k:=by
 cases r with
 |ok a=>
  obtain⟨a,m1⟩:=a;intro H' R g m' e R';cases e;have h:Xs G E O0 M0 H0 ow σ H (f a m1) k:=h;cases z:f a m1 with
  |ok b=>obtain⟨b,m2⟩:=b;rw[z] at h;exact λH2 R2 g2=>h H2 R2<|g.trans g2
  |exc c=>rw[z] at h;exact h
  |stuck=>rw[z] at h;exact h
 |exc c=>exact h
 |stuck=>exact h
theorem Xs.pu {α β:Type}{r:Res α}{f:α->Res (β×Me)}{k:β->Hp->Prop}(R:Rel G O0 M0 H0 ow σ H m)(h:Xs G E O0 M0 H0 ow σ H (r.bind f) k):Pu G E r H λa=>Xs G E O0 M0 H0 ow σ H (f a) k:=by
 cases r with
 |ok a=>exact h
 |exc c=>exact λC H' e g=>h C H' e λb o e n=>g b o<|R.keep b o e n
 |stuck=>exact h
end
noncomputable def fX (f:Zaf):Me->Res (D×Me):=λm=>(f m).bind λd=>.ok (d,m)
def Kg:Me->Res (List D×Me):=λm=>.ok ([],m)
noncomputable def yh (fa:Me->Res (D×Me))(fs:Me->Res (List D×Me)):Me->Res (List D×Me):=λm=>(fa m).bind λp=>(fs p.2).bind λq=>.ok (p.1::q.1,q.2)
noncomputable def J4 (fs:Me->Res (List D×Me)):Me->Res (D×Me):=λm=>(fs m).bind λq=>if q.1.length<=av then .ok (.tup q.1,q.2) else .stuck
section
variable {X:Cx}{E:XK}{e:Expr}{es:List Expr}{f:Zaf}{fa:Me->Res (D×Me)}{fs:Me->Res (List D×Me)}{pos:Pos}{i:Nat}{x:Str}
theorem aa4 (h:FE X E e f):FX X E e (fX f):=bG h λσ H Q hE=>xq5 hE λO0 M0 H0 ow m R q=>⟨O0,M0,H0,ow,m,R.toRel,(Xs.pu R.toRel q).imp (aM.refl _) λd q v H' g hv=>q H' (R.mono g) (Go.refl g) v hv⟩
theorem Q8:FXA X E [] Kg:=rK nG λσ H Q hE=>xq5 hE λO0 M0 H0 ow m R q=>q H R (Go.refl<|aM.refl _) [] .nil
theorem yZ (ha:FX X E e fa)(hr:FXA X E es fs)(hs:ag (e::es) X.env=(false,eval e X.env)::ag es X.env:=by rfl):FXA X E (e::es) (yh fa fs):=
 rK (eU ha hr hs) λσ H Q hE=>xq5 hE λO0 M0 H0 ow m R q=>⟨O0,M0,H0,ow,m,R,(Xs.bind (f:=λd m1=>(fs m1).bind λq=>.ok (d::q.1,q.2)) q).imp (Go.refl<|aM.refl _) λd H1 m1 R1 g1 e1 q v hv=>⟨O0,M0,H0,ow,m1,R1,?_⟩⟩
where finally
 refine(Xs.bind (f:=λds m2=>.ok (d::ds,m2))<|q m1 e1 R1).imp (Go.refl<|aM.refl _) λds H2 m2 R2 g2 e2 q vs hvs=>?_;exact q m2 e2 R2 H2 R2 (Go.refl<|aM.refl _) (v::vs)<|.cons (hv.go R1.mutk g2.ev) hvs
theorem Uy {x1}(h:FXA X E es fs):FX X E (.Tuple es x1 pos) (J4 fs):=bG (Qi h) λσ H Q hE=>xq5 hE λO0 M0 H0 ow m R q=>by
 refine⟨O0,M0,H0,ow,m,R,(Xs.bind (f:=λds m'=>if ds.length<=av then .ok (D.tup ds,m') else .stuck) q).imp (Go.refl<|aM.refl _) λds H1 m1 R1 g1 e1 q vs hv=>?_⟩;have q:=q m1 e1 R1;by_cases hz:ds.length<=av
 ·rw[if_pos hz] at q;exact⟨by rw[bT hv];exact hz,λp H' g e=>q H' (R1.mono g) (Go.refl g) _<|.tup (SqU.of e)<|hv.mono g⟩
 ·rw[if_neg hz] at q;exact q.elim
def DQ (f:Me->Res (D×Me)):Zac:=λm=>(f m.let).bind λp=>.ok (.rt false p.1,p.2)
noncomputable def Gw (i:Nat)(f:Me->Res (D×Me)):Zac:=λm=>(f m).bind λp=>.ok (.nx,p.2.set i<|.fz p.1)
theorem Xs.ss {G:Gx}{O0 M0:Zab}{H0 H:Hp}{ow:Os}{σ:L2.St}{W:Ends}{r:Res (D×Me)}{k:D->Zac}(h:Ss G E O0 M0 H0 ow H W (r.bind λp=>k p.1 p.2)):
  Xs G E O0 M0 H0 ow σ H r λd H'=>∀m',r=.ok (d,m')->eV G O0 M0 H0 ow σ H' m'->Ss G E O0 M0 H0 ow H' W (k d m'):=by
 cases r with
 |ok a=>
  obtain⟨d,m1⟩:=a;intro H' R g m' e R';cases e;exact Ss.go h g
 |exc c=>exact h
 |stuck=>exact h
theorem O5 (he:FX X E e fa):FS X E (.Return (some e) pos) (DQ fa):=cH (HX he) λW σ H hE=>xq5 hE λO0 M0 H0 ow m R q=>by
 obtain⟨ow',R',g1⟩:=R.let;refine⟨O0,M0,H0,ow',m.let,R',(Xs.ss (k:=λd m'=>.ok (.rt false d,m'))<|Ss.go q g1).imp (Go.refl<|aM.refl _) λd H1 m1 R1 g1 e1 q v hv=>?_⟩;exact q m1 e1 R1 v ow' σ H1 R1 (Go.refl<|aM.refl _) hv λz=>by cases z
theorem Oa {pos':Pos}(hN:X.N.Nodup)(hi:X.N[i]? = some x)(hx:Loc X.env.scope x)(he:FX X E e fa)(hs:fg e (some<|.Name x pos') pos.line X.env=pure false:=by rfl)
  (hf:X.fn x=true\/X.env.scope.names.lookup x=some .local:=by first|exact .inl rfl|exact .inr rfl|assumption):FS X E (.Assign [.Name x pos'] e pos) (Gw i fa):=cH (BX hN hi hx he hs hf) λW σ H hE=>xq5 hE λO0 M0 H0 ow m R q=>by
 refine⟨O0,M0,H0,ow,m,R,(Xs.ss (k:=λd m'=>.ok (.nx,m'.set i<|.fz d)) q).imp (Go.refl<|aM.refl _) λd H1 m1 R1 g1 e1 q v hv=>?_⟩;exact q m1 e1 R1 _ _ _ (R1.set hv) Go.set
end
section
variable {P:bq}{w:dA}{K:a7}{mg:Zaa}{base:Heap}
end
section
end
section
variable {G:Gx}{O0 M0:Zab}{H0 H H':Hp}{ow:Os}{σ:L2.St}{m:Me}{k:Nat}{cap:List Nat}
end
section
variable {X:Cx}{E:XK}{k:Nat}{cap:List Nat}{fi:Zae}{h:Zbb}{fe:Me->Res (D×Me)}
theorem aau {O0:Zab}{ow:Os}{l b:Addr}(z:Ow (Op O0 l) ow b):Ow O0 ow b\/b=l:=z.elim (λy=>y.elim (λw=>.inl<|.inl w) .inr) λy=>.inl<|.inr y
end
def tM (G:Gx)(E:XK)(f:Me->Res Unit):TE:=λσ H Q=>∃O0 M0 H0 ow m,Rel G O0 M0 H0 ow σ H m/\Pu G E (f m) H λ_=>∀v H',aM H H'->Q v H'
abbrev FM (X:Cx)(E:XK)(e:Expr)(f:Me->Res Unit):Prop:=PE X e<|tM (gx X) E f
def fM (f:Zaf):Me->Res Unit:=λm=>(f m).bind λ_=>.ok ()
def lU (c:Str)(f:Me->Res Unit):Zac:=λm=>(f m).bind λ_=>.exc (c,[],[])
section
variable {X:Cx}{E:XK}{e:Expr}{f:Zaf}{fu:Me->Res Unit}{x:Str}{np ρ pos:Pos}{C:Addr}{bmB:List aw}{B newId initId:String}
theorem Js (h:FE X E e f):FM X E e (fM f):=bG h λσ H Q hE=>xq5 hE λO0 M0 H0 ow m R q=>⟨O0,M0,H0,ow,m,R,q.bind.imp (aM.refl _) λd k v H' g _=>k v H' g⟩
theorem WY (FB:xD B newId initId bmB)(hq:PySem.W.excIn X.K C bmB newId=true)(hg:Gl X x)(hm:X.mg x=some (.ref C))(hh:X.A.handled=none)(he:FM X E e fu)
  (hx:∀(π:Zp) (σ:L2.St) (H:Hp) (s:aS) (h':Heap) (ea:Addr) (vs:List aw),Inv X π σ H s->so s.heap h' ea (.ref C) vs->E (.ref C) none H->X.xe (.ref ea) { s with heap:=h' })
  (hd:(x==("__debug__":Str))=false:=by decide) (hs:ag [e] X.env=(false,eval e X.env)::ag [] X.env:=by rfl):
  FS X E (.Raise (some<|.Call (.Name x np) [e] [] ρ) none pos) (lU x fu):=cH (Wx (W:=E) FB hq hg hm hh he hx hd hs) λW σ H hE=>xq5 hE λO0 M0 H0 ow m R q=>
 ⟨O0,M0,H0,ow,m,R.toRel,(Ss.pu R.toRel q).imp (aM.refl _) λ_ q v H' g=>⟨rfl,q (C,none) H' ⟨hm,[],[],.inl ⟨rfl,rfl⟩,rfl,rfl,λ_=>.nil⟩ λb o e n=>g b o<|R.keep b o e n⟩⟩
end
def tSx (G:Gx)(g:Zac):Ends->(L2.St->XK)->L2.St->Hp->Prop:=λW Ex σ H=>∃O0 M0 H0 ow m,eV G O0 M0 H0 ow σ H m/\match g m with
 | .exc c=>∀C H',XP G H' c C->aM H H'->Ex σ (.ref C.1) C.2 H'
 |r=>Ss G E0 O0 M0 H0 ow H W r
abbrev FSx (X:Cx)(st:List Stmt)(g:Zac):Prop:=PSx X st<|tSx (gx X) g
def SM (i:Nat)(sub:Str->Bool)(b h:Zac):Zac:=λm=>match b m with
 | .exc c=>if sub c.1=true then match h (m.set i<|.fz<|.exc c.1 c.2.1 c.2.2) with
   | .ok (fl,m')=>.ok (fl,m'.set i .un)
   |_=>.stuck
  else .stuck
 |r=>r
theorem Vg {X:Cx}{st:List Stmt}{T T':Ends->(L2.St->XK)->L2.St->Hp->Prop}(h:PSx X st T)(k:∀W E σ H,T' W E σ H->T W E σ H):PSx X st T':=λπ s σ H W E I q=>h π s σ H W E I<|k W E σ H q
section
variable {X:Cx}{j k:Nat}{x y:Str}{ps:List Str}{Φ:Zad}{p pos ρ pos':Pos}{e:Expr}{es:List Expr}{fs:Zae}{i:Nat}
def Kr (i:Nat)(Φ:Zad)(fs:Zae):Zac:=λm=>match fs m with
 | .ok ds=>(Φ ds).bind λr=>.ok (.nx,m.set i<|.fz r.2)
 |_=>.stuck
theorem Yk (Fh:FF X.prog X.w X.K X.mg X.base k x ps Φ)(hr:fZ j X.A)(hN:X.N.Nodup)(hi:X.N[i]? = some y)(hy:Loc X.env.scope y)(ha:FAE X.nox E0 (e::es) fs)(hk:k<=j:=by decide)(hg:Gl X x:=by rfl)(hdb:(x==("__debug__":Str))=false:=by decide)
  (he:ag (e::es) X.env=(false,eval e X.env)::ag es X.env:=by rfl) (ξ:(hV ρ<|ag es X.env).any (·.1)=false:=by rfl) (hs:fg (.Call (.Name x p) (e::es) [] ρ) (some<|.Name y pos') pos.line X.env=pure false:=by rfl)
  (hf:X.fn y=true\/X.env.scope.names.lookup y=some .local:=by first|exact .inl rfl|exact .inr rfl|assumption):
  FSx X [.Assign [.Name y pos'] (.Call (.Name x p) (e::es) [] ρ) pos] (Kr i Φ fs):=Vg (acB hN hi hy (aea Fh hr ha hk hg hdb he ξ) hs hf) λW Ex σ H hE=>xq5 hE λO0 M0 H0 ow m R q=>by
 refine⟨O0,M0,H0,ow,m,R.toRel,?_⟩;unfold Kr at q;cases z:fs m with
 |exc c=>rw[z] at q;exact q.elim
 |stuck=>rw[z] at q;exact q.elim
 |ok ds=>
  rw[z] at q;intro vs H1 g1 hv;refine⟨Ow O0 ow,ds,(R.mono g1).mutk,hv,?_⟩;cases w:Φ ds with
  |exc c=>simp only[w] at q;exact λC H' e g=>q C H' e<|g1.trans g
  |stuck=>simp only[w] at q;exact q.elim
  |ok r=>simp only[w] at q;exact λv H' g hv' _=>q _ _ H' ((R.mono<|g1.trans g).set hv')<|(Go.refl<|g1.trans g).trans Go.set
theorem eV.unset {G:Gx}{O0 M0:Zab}{H0 H:Hp}{ow:Os}{σ:L2.St}{m:Me}(i:Nat)(R:eV G O0 M0 H0 ow σ H m):eV G O0 M0 H0 (owS ow i none) (σ.set i none) H (m.set i .un):=by
 have sub:∀b,Ow O0 (owS ow i none) b->Ow O0 ow b\/H b=none:=λb z=>.inl z.sub;refine⟨⟨by simp[R.len],R.keep,R.m0,λb z=>R.mutk b z.sub,λj a e=>?_,λj k a e1 e2=>?_,λj hj=>?_,λj s e=>?_⟩,zZ R.nb λ_ z=>by cases z⟩
 ·by_cases q:j=i
  ·subst q;rw[du] at e;cases e
  ·rw[dw q] at e;exact R.no0 j a e
 ·by_cases q:j=i
  ·subst q;rw[du] at e1;cases e1
  ·by_cases q':k=i
   ·subst q';rw[du] at e2;cases e2
   ·rw[dw q] at e1;rw[dw q'] at e2;exact R.inj j k a e1 e2
 ·by_cases q:j=i
  ·subst q;exact du
  ·rw[dw q];exact R.out j<|by simpa using hj
 ·by_cases q:j=i
  ·subst q;have hj:j<m.length:=by simpa using Cq e
   rw[c8 hj] at e;cases e;exact du
  ·rw[dn<|ix q] at e;rw[dw q,dn<|ix q];exact(R.slot j s e).cL sub λ_ _ b _=>sh _
def tSA (X:Cx)(g:Zac):TS:=λW σ H=>KR X.A H/\tS (gx X) E0 g W σ H
theorem abA {E:XK}{body suite:List Stmt}{b₀:Stmt}{n:Str}{np hpos:Pos}{DC:Addr}{gb gh:Zac}(sub:Str->Bool)
  (hst:X.stack=X.env::X.outer) (hfr:X.env.frame=some X.env.locals) (hb:FSx X body gb) (hN:X.N.Nodup) (hi:X.N[i]? = some n) (hn:X.env.scope.names.lookup n=some .local)
  (hg:Gl X x) (hm:X.mg x=some (.ref DC)) (hsub:∀c C,sub c=true->X.mg c=some (.ref C)->r9 X.K (.ref C) (.ref DC)=some true) (hs:∀ea,PSs (inh X ea) (b₀::suite)<|tSA (inh X ea) gh) (hd:(x==("__debug__":Str))=false:=by decide):
  FS X E (.Try body [.ExceptHandler (some<|.Name x np) (some n) (b₀::suite) hpos] [] [] pos) (SM i sub gb gh):=cH (ac7 (ts:=λea=>tSA (inh X ea) gh) hst hfr hb hN hi hn hg hm (λea=>hs ea) hd) λW σ H hE=>xq5 hE λO0 M0 H0 ow m R q=>by
 refine⟨O0,M0,H0,ow,m,R,?_⟩;unfold SM at q;cases z:gb m with
 |ok a=>
  obtain⟨fl,m'⟩:=a;rw[z] at q;cases fl<;>exact q
 |stuck=>rw[z] at q;exact q.elim
 |exc c=>
  rw[z] at q;intro C H' hc g;by_cases hsc:sub c.1=true
  case neg=>simp only[if_neg hsc] at q;exact q.elim
  simp only[if_pos hsc] at q;obtain⟨hc,fs,vs,x1,x2,x3,x4⟩:=hc;refine⟨hsub c.1 C.1 hsc hc,λea ox hea o1 o2 o3=>?_⟩;have R':=R.mono g;have g2:aM H' (upd H' ea<|.frz ox<|.ext<|tH ea<|.ref C.1):=bL hea _;have R2:=(R'.mono g2).set (i:=i) (v:=.ref ea) (d:=.exc c.1 c.2.1 c.2.2)<|.exc hc aZ (o2▸x1.imp id λ⟨d,q,z,y⟩=>⟨d,q,z,g2 _ _ y⟩) x2 x3<|(x4 _).mono g2;obtain⟨ws,o3,o4⟩:=o3;refine⟨⟨ea,ox,_,ws,rfl,aZ,o3,o4⟩,O0,M0,H0,_,_,R2,?_⟩;have G2:Go O0 ow H (owS ow i none) (upd H' ea<|.frz ox<|.ext<|tH ea<|.ref C.1):=(Go.refl<|g.trans g2).trans Go.set;cases w:gh (m.set i<|.fz<|.exc c.1 c.2.1 c.2.2) with
  |exc c'=>rw[w] at q;exact q.elim
  |stuck=>rw[w] at q;exact q.elim
  |ok a=>
   obtain⟨fl,m'⟩:=a;rw[w] at q;cases fl with
   |nx=>exact λow' σ' H2 R3 g3=>q _ _ H2 (R3.unset i)<|(G2.trans g3).trans Go.set
   |bk=>exact λow' σ' H2 R3 g3=>q _ _ H2 (R3.unset i)<|(G2.trans g3).trans Go.set
   |ct=>exact λow' σ' H2 R3 g3=>q _ _ H2 (R3.unset i)<|(G2.trans g3).trans Go.set
   |rt fr d=>
    intro v ow' σ' H2 R3 g3 hv hf;refine q v _ _ H2 (R3.unset i) ((G2.trans g3).trans Go.set) (hv.cL λb z=>.inl z.sub) λz=>?_;rcases hf z with⟨p,e1,e2,e3⟩|t
    ·exact .inl ⟨p,e1,e2,e3.cL λb z=>.inl<|z.elim (λy=>.inl y.sub) .inr⟩
    ·exact .inr t
end
theorem Rel.more {G:Gx}{O0 M0:Zab}{H0 H H1:Hp}{ow:Os}{σ:L2.St}{m:Me}{l:Addr}(R:Rel G O0 M0 H0 ow σ H m)(g:aM H H1)(hl:H l=none)(ho:jy (H1 l)):Rel G (Op O0 l) M0 H0 ow σ H1 m:=by
 have nl:=R.Uj hl;have sub':∀b,Ow (Op O0 l) ow b->Ow O0 ow b\/H b=none:=λb z=>(aau z).elim .inl λe=>.inr (by rw[e];exact hl);have R':=R.mono g;refine⟨R.len,R'.keep,R'.m0,λb z=>?_,λi a e z=>?_,R.inj,R.out,λi s e=>?_⟩
 ·rcases aau z with z|z
  ·exact R'.mutk b z
  ·rw[z];exact ho
 ·rcases z with z|z
  ·exact R.no0 i a e z
  ·exact nl<|z▸.inr ⟨i,e⟩
 ·exact((R.slot i s e).cL sub' λ_ _ b _=>sh _).mono g
section
noncomputable def Hn:List D->Option (List Str)
 |[]=>some []
 | .str x::ds=>(Hn ds).map (x::·)
 |_::_=>none
theorem Ol:∀{vs:List V} {ds:List D} {zs:List Str},DVs G O H vs ds->Hn ds=some zs->vs=zs.map V.str
 |_,_,_,.nil,e=>by cases e;rfl
 |_,_,_,.cons (d:=d) h hs,e=>by
  cases d with
  |str i=>
   obtain⟨ns,e1,rfl⟩:=omap (by simpa[Hn] using e);cases h;rw[Ol hs e1];rfl
  |_=>cases e
def Fj:D->List D->Option D
 | .str z,[.lst es]=>match Hn es with
  |some zs=>if BY z zs=true then some (.str<|AR z zs) else none
  |none=>none
 |_,_=>none
theorem Vq:MtR X "str.join" (rGM (gx X) Fj):=by
 intro π s σ H x vs v us Q I rx rv h;refine wg h λO d ds r m hx hy hr q=>?_;unfold Fj at hr;split at hr
 ·rename_i z es;cases nC hx;obtain⟨y,rfl,hy2⟩:=wW hy;obtain⟨p,xs,rfl,hp,hd⟩:=jf hy2;have hr:(match Hn es with|some zs=>if BY z zs=true then some (D.str<|AR z zs) else none|none=>none)=some r:=hr;cases e1:Hn es with
  |none=>rw[e1] at hr;cases hr
  |some zs=>
   rw[e1] at hr;obtain⟨ok,rfl⟩:=oif hr
   have:=Ol hd e1
   subst this;exact ZQ X.K rfl π s σ H _ _ v us Q I rx rv ⟨z,p,zs,rfl,rfl,hp,ok,q _ _ (aM.refl _)<|.str _⟩
 ·cases hr
end
def Pq (K:a7):Sp:=λvs H Q _=>∃(a:Addr) (ns:List Int),vs=[.ref a]/\SqL K H a (ns.map V.int)/\ns.length<=63/\∀H',Q (.bl true) H'
theorem JV:∀ns:List Int,DVs G O H (ns.map V.int) (ns.map D.int)
 |[]=>.nil
 |n::ns=>.cons (.int n)<|JV ns
theorem Zw {P:bq}{w:dA}{K:a7}{mg:Zaa}{base:Heap}{CX:CXT}{k:Nat}{f:Addr}{fd:gN}{ps:List Str}{Φ:Zad}(h:∀ns:List Int,ns.length<=63->∃fr,Φ [.lst<|ns.map D.int]=.ok (fr,.bl true))
  (F:oM P w K mg base CX k f fd ps (spF ⟨K,mg⟩ Φ)):oM P w K mg base CX k f fd ps (Pq K):=F.imp λvs H Q E hE=>by
 refine Aq hE λa ns e hS hl q=>?_;subst e;obtain⟨fr,e⟩:=h ns hl;refine⟨λ_=>False,[.lst<|ns.map D.int],λ_ z=>z.elim,.cons (.lst (hS.elim (λz=>.inl ⟨id,z⟩) .inr)<|JV ns) .nil,?_⟩;rw[e];intro v H' _ hv _;cases hv;exact q H'
section
variable {X:Cx}{E:XK}{e a:Expr}{f fa:Zaf}{fu:Me->Res Unit}{x y:Str}{np ρ pos p py:Pos}{i:Nat}
theorem ug (Ex:∃C,X.mg x=some (.ref C)/\B0 X.K C [.type "ValueError",.type "Exception",.type "BaseException",.type "object"] "ValueError.__new__" = true)(hg:Gl X x)(hh:X.A.handled=none)(he:FM X E e fu)
  (hx:∀(C:Addr) (π:Zp) (σ:L2.St) (H:Hp) (s:aS) (h':Heap) (ea:Addr) (vs:List aw),Inv X π σ H s->so s.heap h' ea (.ref C) vs->E (.ref C) none H->X.xe (.ref ea) { s with heap:=h' })
  (hd:(x==("__debug__":Str))=false:=by decide) (hs:ag [e] X.env=(false,eval e X.env)::ag [] X.env:=by rfl):
  FS X E (.Raise (some<|.Call (.Name x np) [e] [] ρ) none pos) (lU x fu):=by
 obtain⟨C,hm,hq⟩:=Ex;exact WY rj hq hg hm hh he (hx C) hd hs
theorem aag {body suite:List Stmt}{b₀:Stmt}{n:Str}{hpos:Pos}{gb gh:Zac}(sub:Str->Bool)
  (hst:X.stack=X.env::X.outer) (hfr:X.env.frame=some X.env.locals) (hb:FSx X body gb) (hN:X.N.Nodup) (hi:X.N[i]? = some n) (hn:X.env.scope.names.lookup n=some .local)
  (hg:Gl X x) (Xc:∃C,X.mg x=some (.ref C)/\∀c D,sub c=true->X.mg c=some (.ref D)->r9 X.K (.ref D) (.ref C)=some true) (hs:∀ea,PSs (inh X ea) (b₀::suite)<|tSA (inh X ea) gh) (hd:(x==("__debug__":Str))=false:=by decide):
  FS X E (.Try body [.ExceptHandler (some<|.Name x np) (some n) (b₀::suite) hpos] [] [] pos) (SM i sub gb gh):=by
 obtain⟨C,hm,hq⟩:=Xc;exact abA sub hst hfr hb hN hi hn hg hm hq hs hd
def GZ (tab:Str->Option Bool)(f:Zaf):Zaf:=λm=>(f m).bind λd=>match d with
 | .exc c _ _=>ofO<|(tab c).map D.bl
 |_=>.stuck
theorem Z8 {tab:Str->Option Bool}{c:V}{cv:aw}{σ:L2.St}{H:Hp}{Q:VK}(hc:XJ c=some cv)(ht:∀c D b,tab c=some b->X.mg c=some (.ref D)->XC X.K D/\bS X.K (.ref D) cv=some b)
  (h:tE (gx X) E (GZ tab fa) σ H Q):tCB (aaD X.K) (Um (tB (gx X) E fa)<|Um (tC c) aeh) σ H Q:=by
 obtain⟨O0,M0,H0,ow,m,R,q⟩:=h;refine⟨O0,M0,H0,ow,m,R,q.bind.imp (aM.refl _) λd q v H' g hv=>?_⟩;cases d with
 |exc k _ _=>
  obtain⟨r,hr,kk⟩:=q.ofO;obtain⟨b,hb,rfl⟩:=omap hr;obtain⟨ea,C,rfl,hC,hH⟩:=Ls hv;obtain⟨z1,z2⟩:=ht k C b hb hC;exact⟨ea,C,c,cv,b,rfl,hc,hH,z1,z2,kk _ _ g<|.bl _⟩
 |_=>exact q.elim
theorem YJ {tab:Str->Option Bool}{T:String}(ha:FB X E a fa)(hg:Gl X "isinstance")(hm:X.mg "isinstance" = none)(hv:cc "isinstance" = some (.builtin "isinstance"))(hgy:Gl X y)(ht:X.mg y=none/\∀c D b,tab c=some b->X.mg c=some (.ref D)->XC X.K D/\bS X.K (.ref D) (.type T)=some b)(hvy:cc y=some (.type T))
  (hny:y≠"__name__":=by decide) (hdy:(y==("__debug__":Str))=false:=by decide) (he:ag [a,.Name y py] X.env=(false,eval a X.env)::ag [.Name y py] X.env:=by rfl) (he2:ag [.Name y py] X.env=(false,eval (.Name y py) X.env)::ag [] X.env:=by rfl) (ξ:(hV pos<|ag [.Name y py] X.env).any (·.1)=false:=by rfl):
  FE X E (.Call (.Name "isinstance" p) [a,.Name y py] [] pos) (GZ tab fa):=
 bG (v7 RD hg hm hv (eU ha (eU (Qp (v:=.ty T) hgy ht.1 hvy rfl hny hdy) nG he2) he) (by decide) (by decide) he ξ) λ_ _ _ h=>Z8 (c:=.ty T) (cv:=.type T) rfl ht.2 h
end
section
variable {X:Cx}
noncomputable def qw:List D->Option (List Bool)
 |[]=>some []
 | .bl b::ds=>(qw ds).map (b::·)
 |_::_=>none
theorem zc {G:Gx}{O:Zab}{H:Hp}:∀{vs:List V} {ds:List D} {bs:List Bool},DVs G O H vs ds->qw ds=some bs->vs=bs.map V.bl
 |_,_,_,.nil,e=>by cases e;rfl
 |_,_,_,.cons (d:=d) h hs,e=>by
  cases d with
  |bl b=>
   obtain⟨bs,e1,rfl⟩:=omap (by simpa[qw] using e);cases h;rw[zc hs e1];rfl
  |_=>cases e
def Tw:List D->Option D
 |[.lst ds]=>(qw ds).map λbs=>.bl<|bs.all id
 |_=>none
def Im:List D->Option D
 |[.lst ds]=>(qw ds).map λbs=>.bl<|bs.any id
 |_=>none
end
section
theorem Cr:∀{bs:List Bool} {us:List aw},Vals (bs.map V.bl) us->LSm.BoolsAre us bs
 |[],_,.nil=>.nil
 |b::bs,_,.cons r t=>by cases r;exact .cons b<|Cr t
theorem EY (hc:X.calm=true):iW X (.builtin "all") (rGC (gx X) Tw):=by
 intro π s σ H xs us Q I r h;refine Qw h λO ds d m hx hr q=>?_;unfold Tw at hr;split at hr
 ·rename_i ds;obtain⟨bs,e1,rfl⟩:=omap hr;obtain⟨v,rfl,hv⟩:=wW hx;obtain⟨p,xs,rfl,hp,hd⟩:=jf hv
  have:=zc hd e1
  subst this;obtain⟨u,rfl,rx⟩:=vals1 r;cases rx;obtain⟨wa,r',pl,hz⟩:=I.list hp;have ba:=Cr r';have li:=pl.isList;have lt1:p<s.heap.objs.size:=by obtain⟨_,e,_⟩:=li;exact ay e
  refine call_all_walk<|k9 li ?_;refine⟨s.heap.objs.size,[s.heap.objs.size,p],[s.heap.objs.size],wa.toArray.size,_,_,λi=>(bs[i]?).getD true,rfl,Walks.list (A:=X.A.in1) (I.ok.hd hc) _ p (bo lt1) wa.toArray,
   ⟨⟨_,aT _ rfl,rfl,rfl⟩,li.push _⟩,λi v sn Qn En pv qv=>?_,λh' tk kp=>?_⟩
  ·obtain⟨b,e,rfl⟩:=ba.get i v (by simpa using pv);simp only[e,Option.getD_some] at qv;exact iF qv
  ·have e:((cx wa.toArray.size).all λi=>(bs[i]?).getD true)=bs.all id:=by
    rw[a8,ba.length];exact LSm.range_all bs
   rw[e];exact⟨.bl _,H,I.kept<|LSm.kept_iter kp,rfl,q _ _ (aM.refl _)<|.bl _⟩
 ·cases hr
theorem zW (hc:X.calm=true):iW X (.builtin "any") (rGC (gx X) Im):=by
 intro π s σ H xs us Q I r h;refine Qw h λO ds d m hx hr q=>?_;unfold Im at hr;split at hr
 ·rename_i ds;obtain⟨bs,e1,rfl⟩:=omap hr;obtain⟨v,rfl,hv⟩:=wW hx;obtain⟨p,xs,rfl,hp,hd⟩:=jf hv
  have:=zc hd e1
  subst this;obtain⟨u,rfl,rx⟩:=vals1 r;cases rx;obtain⟨wa,r',pl,hz⟩:=I.list hp;have ba:=Cr r';have li:=pl.isList;have lt1:p<s.heap.objs.size:=by obtain⟨_,e,_⟩:=li;exact ay e
  refine call_any_walk<|k9 li ?_;refine⟨s.heap.objs.size,[s.heap.objs.size,p],[s.heap.objs.size],wa.toArray.size,_,_,λi=>(bs[i]?).getD false,rfl,Walks.list (A:=X.A.in1) (I.ok.hd hc) _ p (bo lt1) wa.toArray,
   ⟨⟨_,aT _ rfl,rfl,rfl⟩,li.push _⟩,λi v sn Qn En pv qv=>?_,λh' tk kp=>?_⟩
  ·obtain⟨b,e,rfl⟩:=ba.get i v (by simpa using pv);simp only[e,Option.getD_some] at qv;exact iF qv
  ·have e:((cx wa.toArray.size).any λi=>(bs[i]?).getD false)=bs.any id:=by
    rw[a8,ba.length];exact LSm.range_any bs
   rw[e];exact⟨.bl _,H,I.kept<|LSm.kept_iter kp,rfl,q _ _ (aM.refl _)<|.bl _⟩
 ·cases hr
end
def Ite (K:a7)(a:Addr):It:=
 ⟨λi H=>∃xs x,SqL K H a xs/\xs[i]? = some x,λi H x H'=>∃y l,(∀xs,SqL K H a xs->xs[i]? = some y)/\x=.ref l/\H l=none/\H'=upd H l (.tup [.int i,y]),λi H=>∃xs,SqL K H a xs/\xs.length<=i⟩
theorem Ml {X:Cx}{π:Zp}{σ:L2.St}{H:Hp}{s:aS}{e it:Addr}{h':Heap}{oe oi:Obj}(I:Inv X π σ H s)(fe:zE X π H e)(fi:zE X π H it)(hne:e≠it)
  (he:∃o,s.heap.get? e=some o) (hi:∃o,s.heap.get? it=some o) (he':h'.get? e=some oe) (hi':h'.get? it=some oi) (de:oe.isFreed=false) (di:oi.isFreed=false)
  (k:∀b o,b≠e->b≠it->s.heap.get? b=some o->h'.get? b=some o):∃h1,Inv X π σ H { s with heap:=h1 }/\h1.objs.size=s.heap.objs.size/\∀b u,h1.get? b=some u->h'.get? b=some u:=by
 obtain⟨o1,he⟩:=he;obtain⟨o2,hi⟩:=hi;refine uU fe λf0 f1 f2 f3 f4 f5=>?_;refine uU fi λg0 g1 g2 g3 g4 g5=>?_;have I1:Inv X π σ H { s with heap:=s.heap.update e λ_=>oe }:=I.turned (t':=s.toks) (λb o hb x=>(cf _ _<|ix hb).trans x) f0 f1 f3 f4 f5;have I2:Inv X π σ H { s with heap:=(s.heap.update e λ_=>oe).update it λ_=>oi }:=I1.turned (t':=s.toks) (λb o hb x=>(cf _ _<|ix hb).trans x) g0 g1 g3 g4 g5;refine⟨_,I2,?_,λb u x=>?_⟩
 ·rw[(ib _ _ _).1,(ib _ _ _).1]
 ·by_cases z:b=it
  ·subst z;rw[dS (λ_=>oi) ((cf _ _ hne).trans hi) di] at x;cases x;exact hi'
  ·rw[cf _ _<|ix z] at x;by_cases y:b=e
   ·subst y;rw[dS (λ_=>oe) he de] at x;cases x;exact he'
   ·rw[cf _ _<|ix y] at x;exact k b u y z x
theorem Vy {o:Obj}{vs:Array aw}(d:o.data=.fields vs):o.isFreed=false:=by
 obtain⟨c,dd,da,sl⟩:=o;cases(show da=.fields vs from d);rfl
theorem S7 {P:bq}{w:dA}{K:a7}{elts:List Expr}{x1}{pos:Pos}(a e it:Addr)(hne:e≠it):
  Turn Calm P w K (.Tuple elts x1 pos) (Ite K a) [e,it] e (λi h=>(∃old,IsEnum h e it i old)/\h.IsListIter it a i) where
 mem:=by simp
 obj:=λi h st b hb=>by
  obtain⟨⟨old,q1⟩,q2⟩:=st;have eb:b=e\/b=it:=by simpa using hb
  rcases eb with rfl|rfl
  ·exact⟨_,q1,λv z=>by cases(show BM _=Data.cell v from z)⟩
  ·obtain⟨o,e',c,d⟩:=q2;exact⟨o,e',λv z=>by rw[d] at z;cases z⟩
 keep:=λi h h' st k=>by
  obtain⟨⟨old,q1⟩,q2⟩:=st;exact⟨⟨old,k e (by simp) _ q1⟩,q2.at λo x=>k it (by simp) o x⟩
 item:=by
  intro X hP hw hK hc i π s σ H E I hf st hg;subst hP hw hK;obtain⟨xs,x,hq,hx⟩:=hg;obtain⟨⟨old,q1⟩,q2⟩:=st;obtain⟨χ,rv,p,hz⟩:=I.list hq;obtain⟨u,hu,ru⟩:=rv.get hx;have fe:=hf e (by simp);have fi:=hf it (by simp);refine wpAny_pyNext_enum_item q1 q2 p.isList (x:=u) (by simpa using hu) hne λh' eo il ht hsz k=>?_;obtain⟨oi,ei,ci,di⟩:=id il;obtain⟨oj,ej,cj,dj⟩:=id q2;obtain⟨h1,I1,z1,k1⟩:=Ml I fe fi hne ⟨_,q1⟩ ⟨_,ej⟩ eo ei rfl (Vy di) k;have I2:Inv X π σ (upd H s.heap.objs.size<|.tup [.int i,x]) { s with heap:=h',toks:=s.toks+1 }:=
   I1.laid (t':=s.toks+1) k1 (BB z1) (show cu X.prog X.w _ _ _ (.tup [.int i,x]) from⟨(show 2<=av by decide),[.int i s.toks,u],.cons ⟨s.toks,rfl⟩<|.cons ru .nil,⟨_,ht,rfl,_,rfl,rfl⟩⟩)
  have fr:H s.heap.objs.size=none:=I.hok.fresh<|aI _;have ne1:e≠s.heap.objs.size:=bo<|ay q1;have ne2:it≠s.heap.objs.size:=bo<|ay ej;have nn:∀b,b≠s.heap.objs.size->H b=none->upd H s.heap.objs.size (.tup [.int i,x]) b=none:=λb z y=>by rw[bC z];exact y
  refine⟨_,rfl,wpAny_letOwnedTupleGo_enum eo λh2 e2 sb=>?_⟩;refine uU fe λf0 f1 f2 f3 f4 f5=>?_;refine⟨.ref s.heap.objs.size,_,I2.turned (t':=s.toks+1) (λb o hb y=>(sb.2 b hb).trans y) (nn e ne1 f0) f1 f3 f4 f5,rfl,⟨x,_,λys hy=>by rw[I.Cw hy hq];exact hx,rfl,fr,rfl⟩,⟨⟨_,e2⟩,il.at λo y=>(sb.2 it<|ix hne).trans y⟩,λb hb=>?_⟩;have eb:b=e\/b=it:=by simpa using hb
  rcases eb with rfl|rfl
  ·exact nn _ ne1 f0
  ·exact nn _ ne2 fi.1
 done:=by
  intro X hP hw hK hc i π s σ H E I hf st hg;subst hP hw hK;obtain⟨xs,hq,hx⟩:=hg;obtain⟨⟨old,q1⟩,q2⟩:=st;obtain⟨χ,rv,p,hz⟩:=I.list hq;refine uU (hf it<|by simp) λf0 f1 f2 f3 f4 f5=>?_;have hl:=rv.length;exact wpAny_pyNext_enum_end (I.ok.hd hc) q1 q2 p.isList (by simp;lia) λh' eb=>⟨rfl,I.turned (t':=s.toks) (λb o hb y=>eb b o hb y) f0 f1 f3 f4 f5⟩
 self:=λ_ _ _ _ _ st h=>by
  obtain⟨⟨old,q1⟩,q2⟩:=st;exact wpAny_pyIter_enum q1 h
section
variable {X:Cx}{tg:Expr}
def aez (K:a7)(ta:TA):TI:=λσ H R=>ta σ H λvs H1=>∃p,vs=[.ref p]/\(∃xs,SqL K H1 p xs)/\R (Ite K p) H1
theorem aak {elts:List Expr}{x1}{pt:Pos}{a:Expr}{ta:TA}{p pos:Pos}(hg:Gl X "enumerate")(hm:X.mg "enumerate" = none)(ha:PA X [a] ta)(hs:ag [a] X.env=[(false,eval a X.env)]:=by rfl):PI Calm X (.Tuple elts x1 pt) (.Call (.Name "enumerate" p) [a] [] pos) (aez X.K ta):=by
 intro π s σ H R I h;refine Call_<|um I hg hm boot_enumerate<|eI (thn (ha pos π s σ H _ I h) λus s1 hE=>xq2 hE λvs H1 I1 r1 q1=>?_) hs rfl;obtain⟨l,e,⟨xs,hq⟩,q⟩:=q1;subst e;obtain⟨u,rfl,rx⟩:=vals1 r1;cases rx;obtain⟨χ,rv,pl,hz⟩:=I1.list hq;refine call_enumerate_list pl.isList λh' e1 e2 sz k=>?_;have I2:Inv X π σ H1 { s1 with heap:=h' }:=I1.kept (t':=s1.toks) k;refine wpAny_pyIter_enum (s:={ s1 with heap:=h' }) e1 ?_;refine⟨_,[s1.heap.objs.size+1,s1.heap.objs.size],_,_,H1,rfl,I2,S7 l _ _<|Nat.succ_ne_self _,⟨⟨_,e1⟩,e2⟩,λb hb=>?_,q⟩;have eb:b=s1.heap.objs.size+1\/b=s1.heap.objs.size:=by simpa using hb
 have hb':s1.heap.objs.size<=b:=eb.elim (λz=>by rw[z];exact vi _) λz=>BB z.symm;exact I1.N5 hb'<|I1.hok.fresh hb'
noncomputable def CT (ds:List D):List D:=ds.mapIdx λi d=>.tup [.int i,d]
theorem GJ (ds:List D):(CT ds).length=ds.length:=by simp[CT]
theorem Yt {G:Gx}{H:Hp}{a:Addr}{ds:List D}{P:(Zab)->Hp->Prop}(h:∀O' H2,P O' H2->∃xs,SqL G.K H2 a xs/\DVs G O' H2 xs ds):Dm G (Ite G.K a) (CT ds) P:=by
 intro O' H2 ev;obtain⟨xs,hq,hd⟩:=h O' H2 ev;have ω:=bT hd;refine⟨λi hi=>⟨xs,xs[i]'(by rw[GJ] at hi;lia),hq,by simp⟩,λi x H' hi y=>?_,xs,hq,by rw[GJ];lia⟩;obtain⟨y,l,h1,rfl,fr,rfl⟩:=y;obtain⟨d,e1,e2⟩:=yE hd<|h1 xs hq;exact⟨bL fr _,.tup [.int i,d],by simp[CT,List.getElem?_mapIdx,e1],.tup (SqU.of aZ)<|.cons (.int _)<|.cons (e2.mono<|bL fr _) .nil⟩
def acP (f:Zae):Zae:=λm=>(f m).bind λd=>match d with
 |[.lst ds]=>.ok<|CT ds
 |_=>.stuck
theorem Vz {E:XK}{fs:Zae}{elts:List Expr}{x1}{pt:Pos}{a:Expr}{p pos:Pos}(hg:Gl X "enumerate")(hm:X.mg "enumerate" = none)(ha:FAB X E [a] fs)(hs:ag [a] X.env=[(false,eval a X.env)]:=by rfl):FIw X E (.Tuple elts x1 pt) (.Call (.Name "enumerate" p) [a] [] pos) (acP fs):=
 rE (aak hg hm ha hs) λσ H R hE=>xq5 hE λO0 M0 H0 ow m Re q=>⟨O0,M0,H0,ow,m,Re,q.bind.imp (aM.refl _) λds q vs H' g hv=>by
  have z:∃xs,ds=[.lst xs]:=by
   cases ds with
   |nil=>exact q.elim
   |cons d ds=>cases d with
    |lst xs=>cases ds with
     |nil=>exact⟨xs,rfl⟩
     |cons _ _=>exact q.elim
    |_=>exact q.elim
  obtain⟨ds,rfl⟩:=z;cases hv with
  |cons h1 h2=>
   cases h2;obtain⟨l,xs,rfl,hl,hd⟩:=jf h1;exact⟨_,rfl,⟨_,hl⟩,q _ H' g<|Yt (H:=H') λO' H2 ⟨sub,g2⟩=>⟨_,Jw hl g2,hd.go (Re.mono g).mutk ⟨sub,.of g2⟩⟩⟩⟩
end
theorem Xj:yT (.type "list_reverseiterator") "__len__" = pure none:=by rfl
theorem X4:yT (.type "list_reverseiterator") "__length_hint__" = pure (some<|.builtin "list_reverseiterator.__length_hint__"):=by rfl
section
variable {pr:bq}{wo:dA}{A:dP}{s:aS}{R:Result->aS->Prop}
variable {St:Nat->aS->Prop}{P:Nat->aw->Prop}{n:Nat}{I:Addr}{fp wr:List Addr}{G:Array nL->Array nL->Prop}
theorem Y9 (W:WalksS pr wo A.in1 I fp wr G n P St)(ty:∀i s,St i s->s.TypeIs (.ref I) "list_reverseiterator")(S:Addr)(res:aw)(c:Nat)(st:St 0 s)(nf:S∉fp)(mi:I∈fp)
  (oS:s.heap.get? S=some { cls:=.type "list",data:=.seq #[] c })
  (fin:∀s' ac c',Moved (S::wr) G s s'->s'.heap.get? S=some { cls:=.type "list",dict:=none,data:=.seq ac c',slots:=#[] }->ItemsOf P ac n->R (.ok<|.ret res) s') (hn:n<=av):
  bp (b6 pr wo) A.in1 (kU (.ref S) (.ref I) res)
   (λf t=>match f with|.done f=>R (.ok f) t|.again c'=>c'.quiet=true/\xw (b6 pr wo) A c' R t) (λe t=>R (.error e) t) s:=by
 have ne:S≠I:=λe=>nf<|e▸mi;have sr:tF (.ref S) (.ref I)=false:=by simp[tF,ne]
 unfold kU;refine ae<|mf (ty 0 _ st) ?_;rw[if_neg (by rw[sr];decide)];refine ae<|W.self 0 _ _ _ st<|ae<|gS ?_;unfold Builtin.List.listLengthHint;refine ae<|j3 (ty 0 _ st) Xj ?_;show bp (b6 pr wo) A.in1 (specialOf (b0 I) (cy "__length_hint__") >>= _) _ _ _;refine ae<|j3 (ty 0 _ st) X4 ?_;generalize hid:("list_reverseiterator.__length_hint__":String)=id0
 wp_delta
 rw[show splitId id0=some ("list_reverseiterator", "__length_hint__") from by subst hid;decide +kernel];subst hid;refine ae<|l6 (b:=true) (ty 0 _ st) (by rw[isSubtype_type];kernel_rfl)<|ai ?_;rw[if_neg<|by decide];exact ai ⟨plainId_quiet F.plain_extend_loop _,codeAny_extend_loopS W hn _ nf _ n 0 _ _ _ rfl (eW _) st oS (ItemsOf.nil P) fin⟩
end
section
theorem R5 {items:Array aw}(h:ItemsOf (λi v=>items[items.size-1-i]? = some v) ac items.size):ac=items.reverse:=by
 obtain⟨z,h⟩:=h;refine Array.ext (by simp[z]) λi h1 h2=>?_
 have:=h i ac[i]<|by simp
 rw[Array.getElem_reverse];obtain⟨_,e⟩:=fS.mp this;exact e.symm
theorem Ej {items:Array aw}(hh:A.handled=none)(li:s.heap.IsList l items)(ri:s.heap.IsRevIter I l ((items.size:Int)-1))(ne:l≠I)(hn:items.size<=av)
  (fin:∀t tk c,(∀b o,b≠I->s.heap.get? b=some o->t.get? b=some o)->t.get? s.heap.objs.size=some { cls:=.type "list",dict:=none,data:=.seq items.reverse c,slots:=#[] }->Q (.ref s.heap.objs.size) { s with heap:=t,toks:=tk }):
  bp (b6 pr wo) A (call (.type "list") [.ref I]) Q E s:=by
 obtain⟨oi,ei,ci,di⟩:=id ri;obtain⟨ol,el,cl⟩:=id li;have ltI:I<s.heap.objs.size:=ay ei;have ltl:l<s.heap.objs.size:=ay el;have nf:s.heap.objs.size∉[I,l]:=λhm=>by
  rcases bE.mp hm with z|z
  ·exact nN ltI z
  ·exact nN ltl<|cb.mp z
 have W:=(Walks.listRev (prog:=pr) (w:=wo) (A:=A.in1.in1) hh I l ne items).toS;refine callType_codes (Q₁:=λo t=>o=.ref s.heap.objs.size/\t={ s with heap:=s.heap.push { cls:=.type "list",data:=.seq #[] } }) F.called_list (F.typeCall_list_1 _) F.entry_list_init (code_list_new _ ⟨rfl,rfl⟩) λo t ht=>?_;obtain⟨rfl,rfl⟩:=ht;have oS:(s.heap.push { cls:=.type "list",data:=.seq #[] }).get? s.heap.objs.size=some { cls:=.type "list",data:=.seq #[] }:=aT _ rfl;refine⟨⟨_,oS,rfl⟩,F.args_list_init_2 _ _,?_⟩;show bp (b6 pr wo) A.in1.in1 (do let old←w8 (.ref s.heap.objs.size);Builtin.List.listUpdate (.ref s.heap.objs.size) (λ_=>#[]);letGo old.toList.reverse;kU (.ref s.heap.objs.size) (.ref I) .none) _ _ _;refine ae ?_;unfold w8;refine ae<|si oS rfl<|ai ?_;refine ae (m:=updateSeq s.heap.objs.size λ_=>#[])<|wpAny_updateSeq oS rfl ?_;have oS2:=dS (pj λ_=>(#[]:Array aw)) oS rfl;refine ae<|wpAny_letGo ?_;have kp:∀b o,b≠s.heap.objs.size->s.heap.get? b=some o->((s.heap.push { cls:=.type "list",data:=.seq #[] }).update s.heap.objs.size<|pj λ_=>(#[]:Array aw)).get? b=some o:=
  λb o hb e=>(cf _ _<|ix hb).trans<|af _ e
 have st0:(0:Nat)<=items.size/\s.heap.IsRevIter I l ((items.size:Int)-1-((0:Nat):Int))/\s.heap.IsList l items:=⟨eW _,by simpa using ri,li⟩;refine Y9 W (λi t x=>x.2.1.typeIs) _ .none _ ⟨st0.1,st0.2.1.at λo e=>kp I o (bo ltI) e,st0.2.2.at λo e=>kp l o (bo ltl) e⟩ nf (by simp) oS2 (λt ac c mv oS3 it=>?_) hn;refine⟨rfl,?_⟩;rw[Moved.eq_with mv];rw[R5 it] at oS3;exact fin _ _ c (λb o hb e=>mv.heap b o (λhm=>by
  rcases bE.mp hm with z|hm
  ·exact eT _<|z▸ay e
  ·exact hb<|cb.mp hm) (kp b o (bo<|ay e) e)) oS3
end
section
theorem yR:cc "list" = some (.type "list"):=by decide +kernel
theorem acW:cc "reversed" = some (.type "reversed"):=by decide +kernel
def adt (K:a7):List V->Hp->VK->Prop:=λxs H Q=>∃p ys,xs=[.ref p]/\SqL K H p ys/\∀l,H l=none->Q (.ref l) (upd H l<|.lst ys.reverse)
theorem Yc (hc:X.calm=true)(hg:Gl X "list")(hm:X.mg "list" = none)(hg':Gl X "reversed")(hm':X.mg "reversed" = none)(ha:PA X [e] ta)
  (hs:ag [e] X.env=[(false,eval e X.env)]:=by rfl) (hs':ag [.Call (.Name "reversed" p') [e] [] pos'] X.env=[(false,eval (.Call (.Name "reversed" p') [e] [] pos') X.env)]:=by rfl):
  PE X (.Call (.Name "list" p) [.Call (.Name "reversed" p') [e] [] pos'] [] pos) (tCB (adt X.K) ta):=by
 intro π s σ H Q I h;refine gc<|um I hg hm yR<|eI ?_ hs' rfl;rw[hs'];refine mm<|gc<|um I hg' hm' acW<|eI (thn (ha pos' π s σ H _ I h) λus s1 hE=>xq2 hE λvs H1 I1 r1 q1=>?_) hs rfl;obtain⟨l,ys,rfl,hq,q⟩:=q1;obtain⟨u,rfl,rx⟩:=vals1 r1;cases rx;obtain⟨χ,rv,pl,hz⟩:=I1.list hq;have ω:=rv.length;refine call_reversed_list pl.isList<|sN ?_;have el:l<s1.heap.objs.size:=by obtain⟨_,e,_⟩:=pl.isList;exact ay e
 refine Ej (s:={ s1 with heap:=s1.heap.push (revObj l<|(χ.toArray.size:Int)-1) }) (I1.ok.hd hc) (pl.isList.push _) ⟨_,aT _ rfl,rfl,rfl⟩ (bo el) (by simp only[a8]<;>lia) λt tk c kp oS=>?_;have sz:s1.heap.objs.size<=(s1.heap.push<|revObj l<|(χ.toArray.size:Int)-1).objs.size:=by rw[zk];exact vi _
 refine⟨.ref _,_,I1.laid (t':=tk) (λb o e=>kp b o (bo<|ay e)<|af _ e) sz<|show cu X.prog X.w _ t _ (.lst ys.reverse) from⟨by simp;lia,χ.reverse,c,rv.reverse,by simpa using oS⟩,rfl,q _<|I1.hok.fresh sz⟩
noncomputable def Us:List D->Option D
 |[.lst ds]=>some<|.lst ds.reverse
 |_=>none
theorem ZW (hc:X.calm=true)(hg:Gl X "list")(hm:X.mg "list" = none)(hg':Gl X "reversed")(hm':X.mg "reversed" = none)(ha:FAB X E [e] fs)
  (hs:ag [e] X.env=[(false,eval e X.env)]:=by rfl) (hs':ag [.Call (.Name "reversed" p') [e] [] pos'] X.env=[(false,eval (.Call (.Name "reversed" p') [e] [] pos') X.env)]:=by rfl):
  FN X E (.Call (.Name "list" p) [.Call (.Name "reversed" p') [e] [] pos'] [] pos) (aR Us fs):=
 bG (Yc hc hg hm hg' hm' ha hs hs') λσ H Q h=>by
  refine Ge h λO0 M0 H0 ow m R q=>?_;refine⟨O0,M0,H0,ow,m,R,q.bind.imp (aM.refl _) λds q vs H1 g1 hv=>?_⟩;obtain⟨r,hr,k⟩:=q.ofO
  match ds,hr with
  |[.lst ds],hr=>
   cases hr;obtain⟨v,rfl,hw⟩:=wW hv;obtain⟨l,xs,rfl,hp,hd⟩:=jf hw;exact⟨l,xs,rfl,hp,λb hb=>k b _ (g1.trans<|bL hb _) (g1.free hb) ⟨_,aZ,((HW hd).cL λc z=>z.elim .inl λe=>.inr (by rw[e];exact hb)).mono<|bL hb _⟩⟩
end
section
end
theorem ints_of:∀{ns:List Int} {us:List aw},Vals (ns.map V.int) us->∃xs:Array (Int×Tok),us.toArray=intItems xs/\xs.toList.map (·.1)=ns
 |[],_,.nil=>⟨#[],by simp[intItems],rfl⟩
 |n::ns,_,.cons r t=>by
  obtain⟨xs,e1,e2⟩:=ints_of t;obtain⟨k,rfl⟩:=r;refine⟨#[(n,k)]++xs,?_,by simp[e2]⟩;have e3:=congrArg xh e1;apply Array.toList_inj.mp;simp[intItems] at e3 ⊢;exact e3
def RL:List D->Option D
 |[.lst ds]=>(zM ds).map λns=>.int ns.sum
 |_=>none
section
theorem FP (hc:X.calm=true):iW X (.builtin "sum") (rGC (gx X) RL):=by
 intro π s σ H xs us Q I r h;refine Qw h λO ds d m hx hr q=>?_;unfold RL at hr;split at hr
 ·rename_i ds;obtain⟨ns,e1,rfl⟩:=omap hr;obtain⟨v,rfl,hv⟩:=wW hx;obtain⟨p,xs,rfl,hp,hd⟩:=jf hv
  have:=Ha hd e1
  subst this;obtain⟨u,rfl,rx⟩:=vals1 r;cases rx;obtain⟨χ,r',pl,hz⟩:=I.list hp;obtain⟨ys,e2,e3⟩:=ints_of r';refine sum_intListG (I.ok.hd hc) (xs:=ys) (e2▸pl.isList) λh' tk t' kp=>?_;have e4:preSum (numAt ys) ys.size=ns.sum:=by rw[preSum_eq,kP (by simp),e3]
  rw[e4];exact⟨.int _,H,I.kept kp,⟨t',rfl⟩,q _ _ (aM.refl _)<|.int _⟩
 ·cases hr
end
theorem GQ (h:DV G O H v d):∀{vs:List V} {ds:List D} (j:Nat),DVs G O H vs ds->DVs G O H (vs.set j v) (ds.set j d)
 |_,_,_,.nil=>.nil
 |_,_,0,.cons _ t=>.cons h t
 |_,_,j+1,.cons a t=>.cons a<|GQ h j t
section
theorem KY (i:Nat)(he:FE X E e f)(hk:FE X E ke fk)(hN:X.N[i]? = some x:=by rfl)(hv:Vis X.env.scope x:=by first|exact eC rfl|exact eB (eC rfl)|exact eB (eB rfl))(hd:(x==("__debug__":Str))=false:=by decide)(hcd:(x==("__classdict__":Str))=false:=by decide)
  (ha:∀v,xi (.Subscript (.Name x np) ke spos) X.env v=(do
   let ov←zw [v] (eval (.Name x np) X.env)
   let iv←zw [v,ov] (eval ke X.env)
   standAt spos
   zw [v,ov,iv] (setItem ov iv v)
   release [v,ov,iv] []):=by intro _;rfl)
  (hs:oT [.Subscript (.Name x np) ke spos] e pos.line X.env=pure false:=by rfl) (hw:pd [.Subscript (.Name x np) ke spos] e X.env=pure none:=by rfl)
  (h1:(ka [.Subscript (.Name x np) ke spos] X.env).map (·.2)=[xi (.Subscript (.Name x np) ke spos) X.env]:=by rfl):FS X E (.Assign [.Subscript (.Name x np) ke spos] e pos) (yj i fk f):=
 cH (Ui he (acO (iy hN hv hd hcd) hk set_list ha) hs hw h1) λW σ H hE=>xq5 hE λO0 M0 H0 ow m R q=>
  ⟨O0,M0,H0,ow,m,R.toRel,(Ss.pu R.toRel q).imp (aM.refl _) λd q v H1 g1 hv=>by
   obtain⟨o,ho,q⟩:=Ss.ofO q;obtain⟨k,ds⟩:=o;have R1:=R.mono g1;refine xn (uH R1.toRel ho) λa xs e1 e2 e3 e4 e5=>?_;refine⟨_,e2,O0,M0,H0,ow,m,R1.toRel,(Ss.pu R1.toRel<|q.go<|Go.refl g1).imp (aM.refl _) λdk q vk H2 g2 hvk=>?_⟩;cases dk with
   |int n=>
    cases hvk;obtain⟨j,hj,q⟩:=Ss.ofO q;have R2:=R1.mono g2;obtain⟨R3,g3⟩:=R2.put (es:=ds.set j d) (ys:=xs.set j v) e1 e5<|GQ (hv.mono g2) j<|e4.mono g2;exact⟨a,xs,n,j,rfl,rfl,g2 _ _ e3,by rw[bT e4];exact hj,q _ _ _ R3<|(Go.refl g2).trans g3⟩
   |_=>exact q.elim⟩
end
noncomputable def Bc:D->Option Key
 | .int i=>some<|.inl i
 | .str z=>some<|.inr z
 |_=>none
noncomputable def CG:List Key->List D->Key->Option D
 |k'::ks,d::ds,k=>if k'=k then some d else CG ks ds k
 |_,_,_=>none
noncomputable def Gh:List Key->List D->Key->D->List D
 |k'::ks,d'::ds,k,d=>(if k'=k then d else d')::Gh ks ds k d
 |_,_,_,_=>[]
def putD (ks:List Key)(ds:List D)(k:Key)(d:D):List Key×List D:=if ks.any (λx=>decide<|x=k)=true then(ks,Gh ks ds k d) else(ks++[k],ds++[d])
theorem M3 (h:DW G O H v d)(e:Bc d=some k):v=kV k:=by
 cases d with
 |int i=>cases e;cases bU h;rfl
 |str z=>cases e;cases nC h;rfl
 |_=>cases e
theorem Oh:∀{ι:List (Key×V)} {ds:List D},DVs G O H (ι.map (·.2)) ds->
  (∃v d,rW ι k=some v/\CG (ι.map (·.1)) ds k=some d/\DV G O H v d)\/(rW ι k=none/\CG (ι.map (·.1)) ds k=none)
 |[],_,.nil=>.inr ⟨rfl,rfl⟩
 |(k',v)::ι,_,.cons (d:=d) h hs=>by
  by_cases q:k'=k
  ·exact .inl ⟨v,d,vX q,by simp[CG,q],h⟩
  ·rw[vI (p:=(k',v)) q];simp only[aE,CG,if_neg q];exact Oh hs
section
def lN:D->D->Option D
 | .dct ks ds,k=>(Bc k).bind<|CG ks ds
 |_,_=>none
theorem oN (r:fZ j A):A.units+16<pE:=by have:=r.un;lia
theorem rA (hr:fZ j X.A)(ha:FB X E a fa)(hb:FB X E b fb)(hs:Yu b):FE X E (.Subscript a b pos) (az lN fa fb):=
 bG (Ra (oN hr) ha hb hs) λσ H Q hE=>xq5 hE λO0 M0 H0 ow m R q=>two (r:=λx y H Q=>∃a v,x=.ref a/\My X.K H a y (some v)/\Q v H) R (K:=λz H=>∀v H',aM H H'->DV (gx X) (Ow O0 ow) H' v z->Q v H') q (λ_ _ k g v H' g' d=>k v H' (g.trans g') d) λx y d e H' g hx hy q' R'=>by
  obtain⟨r,hr,k⟩:=q'.ofO
  match d,hr with
  | .dct ks ds,hr=>
   obtain⟨p,ι,ws,rfl,hp,rfl,rfl,hd⟩:=Ng hx;obtain⟨ky,e2,e3⟩:=fN.mp hr;cases M3 hy e2;rcases Oh (k:=ky) hd with⟨v,d,a,b,c⟩|⟨a,b⟩
   ·rw[b] at e3;cases e3;exact⟨p,v,rfl,a▸abV hp,k _ _ (aM.refl _) c⟩
   ·rw[b] at e3;cases e3
end
theorem Gb (k:Key)(v:V):∀ι:List (Key×V),(ι.map λkv=>if kv.1=k then(kv.1,v) else kv).map (·.1)=ι.map (·.1)
 |[]=>rfl
 |p::ι=>by
  rw[aE,aE,aE,Gb k v ι];split<;>rfl
theorem zJ (h:DV G O H v d):∀{ι:List (Key×V)} {ds:List D},DVs G O H (ι.map (·.2)) ds->DVs G O H ((ι.map λkv=>if kv.1=k then(kv.1,v) else kv).map (·.2)) (Gh (ι.map (·.1)) ds k d)
 |[],_,.nil=>.nil
 |(k',v')::ι,_,.cons h1 hs=>by
  simp only[aE,Gh];split
  ·exact .cons h<|zJ h hs
  ·exact .cons h1<|zJ h hs
theorem Pr (h:DV G O H v d)(hs:DVs G O H (ι.map (·.2)) ds):
  (putK ι k v).map (·.1)=(putD (ι.map (·.1)) ds k d).1/\DVs G O H ((putK ι k v).map (·.2)) (putD (ι.map (·.1)) ds k d).2:=by
 have e:(ι.any λkv=>decide<|kv.1=k)=(ι.map (·.1)).any λx=>decide (x=k):=by rw[om];rfl
 unfold putK putD;rw[e];split
 ·exact⟨Gb k v ι,zJ h hs⟩
 ·exact⟨by simp,by rw[dE];exact j7 hs<|.cons h .nil⟩
noncomputable def Ms (m:Me)(i:Nat):Option (Bool×List Key×List D):=match m[i]? with
 |some (.ow<|.dct ks ds)=>some (true,ks,ds)
 |some (.io<|.dct ks ds)=>some (false,ks,ds)
 |_=>none
noncomputable def TV (m:Me)(i:Nat)(k:Bool)(ks:List Key)(ds:List D):Me:=m.set i<|if k then .ow (.dct ks ds) else .io (.dct ks ds)
section
theorem Zk (R:Rel G O0 M0 H0 ow σ H m){i:Nat}{k:Bool}{ks:List Key}{ds:List D}(e:Ms m i=some (k,ks,ds)):∃a ι,ow i=some a/\σ[i]? = some (some<|.ref a)/\H a=some (.dK ι)/\ι.map (·.1)=ks/\DVs G (Ow O0 ow) H (ι.map (·.2)) ds/\((m[i]? = some (.ow<|.dct ks ds)/\k=true)\/(m[i]? = some (.io<|.dct ks ds)/\k=false)):=by
 unfold Ms at e;split at e
 ·rename_i q;cases e;obtain⟨a,e1,e2,e3,ι,vs,e4,e5,rfl,e6⟩:=R.slot i _ q;exact⟨a,ι,e1,e3,e4,e5,e6,.inl ⟨q,rfl⟩⟩
 ·rename_i q;cases e;obtain⟨a,e1,e2,e3,ι,vs,e4,e5,rfl,e6⟩:=R.slot i _ q;exact⟨a,ι,e1,e3,e4,e5,e6,.inr ⟨q,rfl⟩⟩
 ·cases e
theorem eV.TV (R:eV G O0 M0 H0 ow σ H m)(ho:ow i=some a)(hm:(m[i]? = some (.ow<|.dct ks ds)/\k=true)\/(m[i]? = some (.io<|.dct ks ds)/\k=false))
  (hk:ι.map (·.1)=ls) (hd:DVs G (Ow O0 ow) H (ι.map (·.2)) es):eV G O0 M0 H0 ow σ (L2.upd H a<|.dK ι) (F.TV m i k ls es)/\Go O0 ow H ow (L2.upd H a<|.dK ι):=by
 have oa:Ow O0 ow a:=.inr ⟨i,ho⟩;have kp:Kp (Ow O0 ow) H (L2.upd H a<|.dK ι):=λb u e n=>uM b u e λz=>n<|z▸oa;have ov:OV G (Ow O0 ow) (L2.upd H a<|.dK ι) a (.dct ls es):=⟨ι,_,L2.aZ,hk,rfl,hd.kp R.mutk kp⟩;refine⟨R.chg (d:=.dct ks ds) (d':=.dct ls es) ho uM ov ?_,Go.chg ho uM ov⟩;rcases hm with⟨e,rfl⟩|⟨e,rfl⟩
 ·exact .inl ⟨e,rfl⟩
 ·exact .inr ⟨e,rfl⟩
end
def BZ (i:Nat)(fk fv:Zaf):Zac:=λm=>(fv m).bind λd=>(ofO<|Ms m i).bind λo=>(fk m).bind λk=>(ofO<|Bc k).bind λk=>
 if o.2.1.length<av then .ok (.nx,TV m i o.1 (putD o.2.1 o.2.2 k d).1 (putD o.2.1 o.2.2 k d).2) else .stuck
section
theorem Rt (i:Nat)(hr:fZ jj X.A)(he:FE X E e f)(hk:FE X E ke fk)(hN:X.N[i]? = some x:=by rfl)(hv:Vis X.env.scope x:=by first|exact eC rfl|exact eB (eC rfl)|exact eB (eB rfl))(hd:(x==("__debug__":Str))=false:=by decide)(hcd:(x==("__classdict__":Str))=false:=by decide)
  (hs:fg e (some<|.Subscript (.Name x np) ke spos) pos.line X.env=pure false:=by rfl):FS X E (.Assign [.Subscript (.Name x np) ke spos] e pos) (BZ i fk f):=
 cH (Qd (oN hr) (iy hN hv hd hcd) hk he hs) λW σ H hE=>xq5 hE λO0 M0 H0 ow m R q=>
  ⟨O0,M0,H0,ow,m,R.toRel,(Ss.pu R.toRel q).imp (aM.refl _) λd q v H1 g1 hv=>by
   obtain⟨o,ho,q⟩:=Ss.ofO q;obtain⟨k,ks,ds⟩:=o;have R1:=R.mono g1;refine Ke (Zk R1.toRel ho) λa ι e1 e2 e3 e4 e5 e6=>?_;refine⟨_,e2,O0,M0,H0,ow,m,R1.toRel,(Ss.pu R1.toRel<|q.go<|Go.refl g1).imp (aM.refl _) λdk q vk H2 g2 hvk=>?_⟩;obtain⟨ky,h1,q⟩:=Ss.ofO q;cases M3 (.inl hvk) h1;by_cases hz:ks.length<av
   ·rw[if_pos hz] at q;have R2:=R1.mono g2;obtain⟨p1,p2⟩:=Pr (k:=ky) (hv.mono g2)<|e5.mono g2;rw[e4] at p1 p2;obtain⟨R3,g3⟩:=R2.TV e1 e6 p1 p2;exact⟨a,_,rfl,KJ.k (g2 _ _ e3) (by rw[← cp (f:=(·.1)),e4];exact hz),q _ _ _ R3<|(Go.refl g2).trans g3⟩
   ·rw[if_neg hz] at q;exact q.elim⟩
end
section
end
section
end
section
end
section
theorem mulOk_of (h0:0<=n)(h1:n<=1000)(hz:z.length<=1000):MulOk z n:=by
 refine⟨by simp;lia,λp _=>?_,λp _=>?_⟩
 ·have:(1000:Int)<=(2^63-1)/n:=by
   rw[Int.le_ediv_iff_mul_le<|by lia]
   lia
  lia
 ·have:z.length*n.toNat<=1000*1000:=Nat.mul_le_mul hz (by lia)
  have e:av=16777216:=by decide
  simp[As,e]
  lia
end
noncomputable def uB (f:D->Option Kt):List D->Option (List Kt)
 |[]=>some []
 |d::ds=>(f d).bind λk=>(uB f ds).map λks=>k::ks
def ktD:Nat->D->Option Kt
 |_,.int i=>some<|.k<|.inl i
 |_,.str x=>some<|.k<|.inr x
 |n+1,.tup ds=>(uB (ktD n) ds).map .t
 |_,_=>none
def xY:D->Option (List Kt)
 | .tup ds=>uB (ktD 7) ds
 |_=>none
noncomputable def d9:List (List Kt)->List D->List Kt->Option D
 |k'::ks,d::ds,k=>if k'=k then some d else d9 ks ds k
 |_,_,_=>none
noncomputable def xg:List (List Kt)->List D->List Kt->D->List D
 |k'::ks,d'::ds,k,d=>(if k'=k then d else d')::xg ks ds k d
 |_,_,_,_=>[]
def vB (ks:List (List Kt))(ds:List D)(k:List Kt)(d:D):List (List Kt)×List D:=if ks.any (λx=>decide<|x=k)=true then(ks,xg ks ds k d) else(ks++[k],ds++[d])
theorem G7 {G:Gx}{O:Zab}{H:Hp}{n:Nat}{f:D->Option Kt}(hf:∀{v d k},DV G O H v d->f d=some k->Bh (KTp G.K) H n v k):∀{vs:List V} {ds:List D} {ks:List Kt},DVs G O H vs ds->uB f ds=some ks->uZ (KTp G.K) H n vs ks
 |_,_,_,.nil,e=>by cases e;exact .nil
 |_,_,_,.cons (d:=d) (ds:=ds) h hs,e=>by
  have e:(f d).bind (λk=>(uB f ds).map λks=>k::ks)=some _:=e;obtain⟨k,e1,e2⟩:=fN.mp e;obtain⟨ks,e3,rfl⟩:=omap e2;exact .cons (hf h e1)<|G7 hf hs e3
theorem aaK {G:Gx}{O:Zab}{H:Hp}:∀(n:Nat) {v:V} {d:D} {k:Kt},DV G O H v d->ktD n d=some k->Bh (KTp G.K) H n v k
 |n,_,_,k,.int i,e=>by
  have:k=.k (.inl i):=by cases n<;>(rw[ktD] at e;exact(b9 e).symm)
  subst this;exact Bh.k (x:=.inl i)
 |n,_,_,k,.str x,e=>by
  have:k=.k (.inr x):=by cases n<;>(rw[ktD] at e;exact(b9 e).symm)
  subst this;exact Bh.k (x:=.inr x)
 |n+1,_,_,k,.tup h hs,e=>by
  rw[ktD] at e;obtain⟨ks,e3,rfl⟩:=omap e;exact .t h<|G7 (λh e=>aaK n h e) hs e3
 |0,_,_,k,.tup h hs,e=>by simp[ktD] at e
 |n,_,_,k,.non,e=>by cases n<;>simp[ktD] at e
 |n,_,_,k,.bl _,e=>by cases n<;>simp[ktD] at e
 |n,_,_,k,.adr _,e=>by cases n<;>simp[ktD] at e
 |n,_,_,k,.ins _ _ _ _ _ _,e=>by cases n<;>simp[ktD] at e
 |n,_,_,k,.exc ..,e=>by cases n<;>simp[ktD] at e
 |n,_,_,k,.lst _ _,e=>by cases n<;>simp[ktD] at e
 |n,_,_,k,.dct _ _ _ _ _,e=>by cases n<;>simp[ktD] at e
 |n,_,_,k,.dcu _ _ _ _ _,e=>by cases n<;>simp[ktD] at e
 |n,_,_,k,.dcf _ _ _ _,e=>by cases n<;>simp[ktD] at e
theorem wJ {G:Gx}{O:Zab}{H:Hp}{v:V}{d:D}{k:List Kt}(h:DW G O H v d)(e:xY d=some k):∃b,v=.ref b/\TrT (KTp G.K) H b k:=by
 cases d with
 |tup ds=>
  obtain⟨b,xs,rfl,hq,hd⟩:=BR h;exact⟨b,rfl,xs,hq,G7 (λh e=>aaK 7 h e) hd e⟩
 |_=>cases e
theorem BL {G:Gx}{O:Zab}{H:Hp}{k:List Kt}:∀{ι:List (List Kt×V)} {ds:List D},DVs G O H (ι.map (·.2)) ds->
  (∃v d,rW ι k=some v/\d9 (ι.map (·.1)) ds k=some d/\DV G O H v d)\/(rW ι k=none/\d9 (ι.map (·.1)) ds k=none)
 |[],_,.nil=>.inr ⟨rfl,rfl⟩
 |(k',v)::ι,_,.cons (d:=d) h hs=>by
  by_cases q:k'=k
  ·exact .inl ⟨v,d,vX q,by simp[d9,q],h⟩
  ·rw[vI (p:=(k',v)) q];simp only[aE,d9,if_neg q];exact BL hs
noncomputable def dcK:D->Option (List (List Kt)×List D)
 | .dcu ks ds=>some (ks,ds)
 | .dcf ks ds=>some (ks,ds)
 |_=>none
theorem Ul {G:Gx}{O:Zab}{H:Hp}{v:V}{d:D}{ks:List (List Kt)}{ds:List D}(h:DW G O H v d)(e:dcK d=some (ks,ds)):∃a ι,v=.ref a/\Rd H a (.dT (KTp G.K) ι)/\ι.map (·.1)=ks/\DVs G O H (ι.map (·.2)) ds:=by
 cases d with
 |dcu ks' ds'=>
  cases e;obtain⟨p,ι,ws,rfl,hp,e1,rfl,hd⟩:=WN h;exact⟨p,ι,rfl,.inl hp,e1,hd⟩
 |dcf ks' ds'=>
  cases e;rcases h with h|⟨_,_,_,h⟩
  ·cases h with
   |dcf e1 e2 e3 hs=>subst e3;exact⟨_,_,rfl,.inr ⟨_,e1⟩,e2,hs⟩
  ·exact h.elim
 |_=>cases e
section
variable {X:Cx}{E:XK}
def J0 (d k:D):Option D:=(dcK d).bind λc=>(xY k).bind<|d9 c.1 c.2
def ZX (k d:D):Option Bool:=(dcK d).bind λc=>(xY k).map λk=>(d9 c.1 c.2 k).isSome
def Ka (d e:D):Option Bool:=(ZX d e).map (!·)
theorem Py {G:Gx}{O:Zab}{H:Hp}{k:List Kt}{ι:List (List Kt×V)}{ds:List D}(hd:DVs G O H (ι.map (·.2)) ds):(rW ι k).isSome=(d9 (ι.map (·.1)) ds k).isSome:=by
 rcases BL (k:=k) hd with⟨_,_,a,b,_⟩|⟨a,b⟩<;>simp[a,b]
theorem Zb {j:Nat}(hr:fZ j X.A):OpR X (fR .NotIn) (rGB (gx X) Ka):=by
 intro π s σ H x y v u Q I rx ry h;obtain⟨O,d,e,r,m,hx,hy,e1,q⟩:=h;obtain⟨c,e0,rfl⟩:=omap e1;obtain⟨⟨ks,ds⟩,ec,e3⟩:=fN.mp e0;obtain⟨k,e2,rfl⟩:=omap e3;obtain⟨p,ι,rfl,hp,rfl,hd⟩:=Ul hy ec;obtain⟨b,rfl,hb⟩:=wJ hx e2;cases ry;refine Yj (oN hr) I (.inr ⟨ι,k,b,hp,rfl,hb,rfl⟩) rx λs' I'=>⟨.bl _,H,I',rfl,?_⟩;rw[Py hd];exact q
variable {a b:Expr}{fa fb:Zaf}{pos:Pos}
theorem Ph {j:Nat}(hr:fZ j X.A)(ha:FB X E a fa)(hb:FB X E b fb)(hs:Yu b):FE X E (.Subscript a b pos) (az J0 fa fb):=
 bG (Ra (oN hr) ha hb hs) λσ H Q hE=>xq5 hE λO0 M0 H0 ow m R q=>two (r:=λx y H Q=>∃a v,x=.ref a/\My X.K H a y (some v)/\Q v H) R (K:=λz H=>∀v H',aM H H'->DV (gx X) (Ow O0 ow) H' v z->Q v H') q (λ_ _ k g v H' g' d=>k v H' (g.trans g') d) λx y d e H' g hx hy q' R'=>by
  obtain⟨r,hr,k⟩:=q'.ofO;obtain⟨⟨ks,ds⟩,ec,hr⟩:=fN.mp hr;obtain⟨ky,e2,e3⟩:=fN.mp hr;obtain⟨p,ι,rfl,hp,rfl,hd⟩:=Ul hx ec;obtain⟨b,rfl,hb⟩:=wJ hy e2;rcases BL (k:=ky) hd with⟨v,d,a,c,dv⟩|⟨a,c⟩
  ·have e3:d9 (ι.map (·.1)) ds ky=some r:=e3;rw[c] at e3;cases e3;exact⟨p,v,rfl,.inr ⟨ι,ky,b,hp,rfl,hb,a.symm⟩,k _ _ (aM.refl _) dv⟩
  ·have e3:d9 (ι.map (·.1)) ds ky=some r:=e3;rw[c] at e3;cases e3
noncomputable def Aa:Zaf:=λ_=>.ok<|.dcu [] []
theorem Ik:FN X E (.Dict [] [] pos) Aa:=bG Ue λσ H Q ⟨O0,M0,H0,ow,m,R,q⟩ p hp=>q p _ (bL hp _) hp ⟨[],[],aZ,rfl,rfl,.nil⟩
end
theorem Di (k:List Kt)(v:V):∀ι:List (List Kt×V),(ι.map λkv=>if kv.1=k then(kv.1,v) else kv).map (·.1)=ι.map (·.1)
 |[]=>rfl
 |p::ι=>by
  rw[aE,aE,aE,Di k v ι];split<;>rfl
theorem yc {G:Gx}{O:Zab}{H:Hp}{k:List Kt}{v:V}{d:D}(h:DV G O H v d):∀{ι:List (List Kt×V)} {ds:List D},DVs G O H (ι.map (·.2)) ds->DVs G O H ((ι.map λkv=>if kv.1=k then(kv.1,v) else kv).map (·.2)) (xg (ι.map (·.1)) ds k d)
 |[],_,.nil=>.nil
 |(k',v')::ι,_,.cons h1 hs=>by
  simp only[aE,xg];split
  ·exact .cons h<|yc h hs
  ·exact .cons h1<|yc h hs
theorem YM {G:Gx}{O:Zab}{H:Hp}{k:List Kt}{v:V}{d:D}{ι:List (List Kt×V)}{ds:List D}(h:DV G O H v d)(hs:DVs G O H (ι.map (·.2)) ds):
  (putK ι k v).map (·.1)=(vB (ι.map (·.1)) ds k d).1/\DVs G O H ((putK ι k v).map (·.2)) (vB (ι.map (·.1)) ds k d).2:=by
 have e:(ι.any λkv=>decide<|kv.1=k)=(ι.map (·.1)).any λx=>decide (x=k):=by rw[om];rfl
 unfold putK vB;rw[e];split
 ·exact⟨Di k v ι,yc h hs⟩
 ·exact⟨by simp,by rw[dE];exact j7 hs<|.cons h .nil⟩
noncomputable def Bd (m:Me)(i:Nat):Option (Bool×List (List Kt)×List D):=match m[i]? with
 |some (.ow<|.dcu ks ds)=>some (true,ks,ds)
 |some (.io<|.dcu ks ds)=>some (false,ks,ds)
 |_=>none
noncomputable def rB (m:Me)(i:Nat)(k:Bool)(ks:List (List Kt))(ds:List D):Me:=m.set i<|if k then .ow (.dcu ks ds) else .io (.dcu ks ds)
section
variable {G:Gx}{O0 M0:Zab}{H0:Hp}{ow:Os}{σ:L2.St}{H:Hp}{m:Me}
theorem Jc (R:Rel G O0 M0 H0 ow σ H m){i:Nat}{k:Bool}{ks:List (List Kt)}{ds:List D}(e:Bd m i=some (k,ks,ds)):∃a ι,ow i=some a/\σ[i]? = some (some<|.ref a)/\H a=some (.dT (KTp G.K) ι)/\ι.map (·.1)=ks/\DVs G (Ow O0 ow) H (ι.map (·.2)) ds/\((m[i]? = some (.ow<|.dcu ks ds)/\k=true)\/(m[i]? = some (.io<|.dcu ks ds)/\k=false)):=by
 unfold Bd at e;split at e
 ·rename_i q;cases e;obtain⟨a,e1,e2,e3,ι,vs,e4,e5,rfl,e6⟩:=R.slot i _ q;exact⟨a,ι,e1,e3,e4,e5,e6,.inl ⟨q,rfl⟩⟩
 ·rename_i q;cases e;obtain⟨a,e1,e2,e3,ι,vs,e4,e5,rfl,e6⟩:=R.slot i _ q;exact⟨a,ι,e1,e3,e4,e5,e6,.inr ⟨q,rfl⟩⟩
 ·cases e
theorem eV.rB {i:Nat}{k:Bool}{a:Addr}{ks ls:List (List Kt)}{ds es:List D}{ι:List (List Kt×V)}(R:eV G O0 M0 H0 ow σ H m)(ho:ow i=some a)(hm:(m[i]? = some (.ow<|.dcu ks ds)/\k=true)\/(m[i]? = some (.io<|.dcu ks ds)/\k=false))
  (hk:ι.map (·.1)=ls) (hd:DVs G (Ow O0 ow) H (ι.map (·.2)) es):eV G O0 M0 H0 ow σ (L2.upd H a<|.dT (KTp G.K) ι) (F.rB m i k ls es)/\Go O0 ow H ow (L2.upd H a<|.dT (KTp G.K) ι):=by
 have oa:Ow O0 ow a:=.inr ⟨i,ho⟩;have kp:Kp (Ow O0 ow) H (L2.upd H a<|.dT (KTp G.K) ι):=λb u e n=>uM b u e λz=>n<|z▸oa;have ov:OV G (Ow O0 ow) (L2.upd H a<|.dT (KTp G.K) ι) a (.dcu ls es):=⟨ι,_,L2.aZ,hk,rfl,hd.kp R.mutk kp⟩;refine⟨R.chg (d:=.dcu ks ds) (d':=.dcu ls es) ho uM ov ?_,Go.chg ho uM ov⟩;rcases hm with⟨e,rfl⟩|⟨e,rfl⟩
 ·exact .inl ⟨e,rfl⟩
 ·exact .inr ⟨e,rfl⟩
end
def Gg (i:Nat)(fk fv:Zaf):Zac:=λm=>(fv m).bind λd=>(ofO<|Bd m i).bind λo=>(fk m).bind λk=>(ofO<|xY k).bind λk=>
 if o.2.1.length<av then .ok (.nx,rB m i o.1 (vB o.2.1 o.2.2 k d).1 (vB o.2.1 o.2.2 k d).2) else .stuck
section
variable {X:Cx}{E:XK}{e ke:Expr}{f fk:Zaf}{pos spos np:Pos}{x:Str}
theorem Q7 {jj:Nat}(i:Nat)(hr:fZ jj X.A)(he:FE X E e f)(hk:FE X E ke fk)(hN:X.N[i]? = some x:=by rfl)(hv:Vis X.env.scope x:=by first|exact eC rfl|exact eB (eC rfl)|exact eB (eB rfl))(hd:(x==("__debug__":Str))=false:=by decide)(hcd:(x==("__classdict__":Str))=false:=by decide)
  (hs:fg e (some<|.Subscript (.Name x np) ke spos) pos.line X.env=pure false:=by rfl):FS X E (.Assign [.Subscript (.Name x np) ke spos] e pos) (Gg i fk f):=
 cH (Qd (oN hr) (iy hN hv hd hcd) hk he hs) λW σ H hE=>xq5 hE λO0 M0 H0 ow m R q=>
  ⟨O0,M0,H0,ow,m,R.toRel,(Ss.pu R.toRel q).imp (aM.refl _) λd q v H1 g1 hv=>by
   obtain⟨o,ho,q⟩:=Ss.ofO q;obtain⟨k,ks,ds⟩:=o;have R1:=R.mono g1;obtain⟨a,ι,e1,e2,e3,e4,e5,e6⟩:=Jc R1.toRel ho;refine⟨_,e2,O0,M0,H0,ow,m,R1.toRel,(Ss.pu R1.toRel<|q.go<|Go.refl g1).imp (aM.refl _) λdk q vk H2 g2 hvk=>?_⟩;obtain⟨ky,h1,q⟩:=Ss.ofO q;obtain⟨b,rfl,hb⟩:=wJ (.inl hvk) h1;by_cases hz:ks.length<av
   ·rw[if_pos hz] at q;have R2:=R1.mono g2;obtain⟨p1,p2⟩:=YM (k:=ky) (hv.mono g2)<|e5.mono g2;rw[e4] at p1 p2;obtain⟨R3,g3⟩:=R2.rB e1 e6 p1 p2;exact⟨a,_,rfl,KJ.t (g2 _ _ e3) hb (by rw[← cp (f:=(·.1)),e4];exact hz),q _ _ _ R3<|(Go.refl g2).trans g3⟩
   ·rw[if_neg hz] at q;exact q.elim⟩
end
section
end
section
end
section
variable {X:Cx}{E:XK}{rest:List Stmt}{k:Zac}
end
section
variable {X:Cx}{tg:Expr}
end
section
end
section
variable {pr:bq}{wo:dA}{A:dP}{R:Result->aS->Prop}{I:Addr}{fp wr:List Addr}{G:Array nL->Array nL->Prop}{n:Nat}{P:Nat->aw->Prop}{St:Nat->aS->Prop}
end
section
end
section
end
structure Wr (p:Prop):Prop where
 out:p
section
variable {X:Cx}{E:XK}{e a b c ke:Expr}{es:List Expr}{st:Stmt}{rest sa sb:List Stmt}{f fa fb fk:Zaf}{fs:Zae}{ft:Zba}{gg k ga gb:Zac}{pos pos' apos ρ np spos p:Pos}{i:Nat}{x:Str}
theorem mZ (h1:Wr (FS X E st gg))(h2:Wr (FSs X E rest k)):Wr (FSs X E (st::rest)<|aL gg k):=⟨aB h1.out h2.out⟩
theorem K7 (h1:Wr (FS X E st gg)):Wr (FSs X E [st] gg):=⟨aD h1.out⟩
theorem abn (hc:Wr (FT X E c ft))(ha:Wr (FSs X E sa ga))(hb:Wr (FSs X E sb gb)):Wr (FS X E (.If c sa sb pos)<|gIf ft ga gb):=⟨bQ hc.out ha.out hb.out⟩
theorem JL (hN:X.N.Nodup)(hi:X.N[i]? = some x)(hx:Loc X.env.scope x)(he:Wr (FE X E e f))(hs:fg e (some<|.Name x pos') pos.line X.env=pure false:=by rfl)
  (hf:X.fn x=true\/X.env.scope.names.lookup x=some .local:=by first|exact .inl rfl|exact .inr rfl|assumption):Wr (FS X E (.Assign [.Name x pos'] e pos)<|bu i f):=⟨V1 hN hi hx he.out hs hf⟩
theorem W5 (hN:X.N.Nodup)(hi:X.N[i]? = some x)(hx:Loc X.env.scope x)(he:Wr (FN X E e f))(hs:fg e (some<|.Name x pos') pos.line X.env=pure false:=by rfl)
  (hf:X.fn x=true\/X.env.scope.names.lookup x=some .local:=by first|exact .inl rfl|exact .inr rfl|assumption):Wr (FS X E (.Assign [.Name x pos'] e pos)<|gQ i f):=⟨T3 hN hi hx he.out hs hf⟩
theorem PN (he:Wr (FE X E e f)):Wr (FS X E (.Return (some e) pos)<|bc f):=⟨bf he.out⟩
theorem aeH (h:Wr (FAE X E es fs)):Wr (FN X E (.List es pos)<|gO fs):=⟨f9 h.out⟩
theorem Tv (h:Wr (FE X E e f)):Wr (FB X E e f):=⟨ao h.out⟩
theorem aeO (ho:IxR X (rG (gx X) g))(ha:Wr (FB X E a fa))(hb:Wr (FB X E b fb))(hs:Bw b):Wr (FE X E (.Subscript a b pos)<|az g fa fb):=⟨aaw ho ha.out hb.out hs⟩
theorem aar (ho:OpR X (fR op) (rGB (gx X) g))(ha:Wr (FB X E a fa))(hb:Wr (FB X E b fb))(hm:i6 op b=false):Wr (FT X E (.Compare a [op] [b] pos)<|aJ g fa fb):=⟨bB ho ha.out hb.out hm⟩
end
section
variable {pr:bq}{wo:dA}{A:dP}{E:Zl}{s:aS}{κ:Type}[DecidableEq κ]{kn:HeapKind pr wo κ}
theorem aaf (hu:kn.room A)(hk:kn.is s.heap k a)(hm:s.heap.DictOfH kn d xs)(hz:xs.length<=av)
  (old:∀p,BE xs k=some p->Q p.2 { s with toks:=s.toks+kn.draws k })
  (new:BE xs k=none->∀h',h'.DictOfH kn d (xs++[(k,a,v)])->iX d s.heap h'->Q v { s with heap:=h',toks:=s.toks+kn.draws k }):
  bp (b6 pr wo) A (zo d (.ref a) v) Q E s:=by
 refine GD (id hm) λo es ep ho hc hd he hi hn=>?_;unfold zo;refine gS<|ae<|kn.pyHash hu hk<|ae<|wpAny_dictFind_heap (s:={ s with toks:=s.toks+kn.draws k }) hu hk ho hd he hi hn (λno=>?_) λj p hj=>?_
 ·have h0:=atKey_none_of_get no;have nk:=not_mem_keys_of_get no;have es1:=size_of_entries he;refine ae (pf<|ae<|wpAny_updateDictKeys (hz:=by lia) (s:={ s with toks:=s.toks+kn.draws k }) ho hd (ai<|new h0 _ ⟨_,_,ep+1,dS _ ho<|Obj.isFreed_of_dict<|y8 hd _,hc.mapDictKeys _,y8 hd _,?_,λy hy=>?_,?_⟩<|ib ..))
  ·simp[he,entryOfKey]
  ·rcases cm.mp hy with z|z
   ·exact kn.keeps (hi y z) ho hd<|ib ..
   ·rw[cb.mp z];exact kn.keeps hk ho hd<|ib ..
  ·rw[dE,List.nodup_append];refine⟨hn,by simp,λy hy z hz' e=>nk ?_⟩;have e2:z=k:=cb.mp hz';rw[← e2,← e];exact hy
 ·refine ae<|nh (s:={ s with toks:=s.toks+kn.draws k }) ho hd ?_;rw[entry_at he j,hj];exact ae<|pf<|ai<|old p<|atKey_of_get hn hj
theorem WW (hu:kn.room A.in1)(hk:kn.is s.heap k a)(hm:s.heap.DictOfH kn d xs)(hz:xs.length<=av)(hd:(d==ij)=false)
  (old:∀p,BE xs k=some p->Q p.2 { s with toks:=s.toks+kn.draws k })
  (new:BE xs k=none->∀h',h'.DictOfH kn d (xs++[(k,a,v)])->iX d s.heap h'->Q v { s with heap:=h',toks:=s.toks+kn.draws k }):
  bp (b6 pr wo) A (call (.builtin "dict.setdefault") [.ref d,.ref a,v]) Q E s:=by
 refine gX pe hm.typeIs PySem.F.entry_dict_setdefault ?_<|PySem.F.args_dict_setdefault_3 _ _ _;unfold Ap.«dict.setdefault»;refine ae ?_;unfold Builtin.Dict.keyAndDefault;refine ae<|wpAny_notOrdered_dict hm.typeIs ?_;show bp _ _ (pure (d,b0 a,some v)) _ _ s;refine ai ?_;show bp _ _ (if(d==ij)=true then _ else(zo d (.ref a) v >>= _)) _ _ s;rw[if_neg (by rw[hd];exact bb)];exact ae<|aaf hu hk hm hz (λp e=>ai ⟨p.2,rfl,old p e⟩) λe h' x y=>ai ⟨v,rfl,new e h' x y⟩
end
def afo (K:a7)(td ty tx:TE):TE:=λσ H Q=>td σ H λx H1=>∃a,x=.ref a/\IsD K H1 a/\ty σ H1 λy H2=>tx σ H2 λz H3=>∃ι k b,H3 a=some (.dT (KTp K) ι)/\y=.ref b/\TrT (KTp K) H3 b k/\ι.length<av/\
 (∀v,rW ι k=some v->Q v H3)/\(rW ι k=none->Q z (upd H3 a<|.dT (KTp K)<|ι++[(k,z)]))
section
theorem Wl (hu:X.A.units+16<pE)(ho:PE X o td)(he:PE X e ty)(hf:PE X f tx)(m:M2 X o "setdefault" apos e f ρ):PE X (.Call (.Attribute o "setdefault" apos) [e,f] [] ρ) (afo X.K td ty tx):=by
 intro π s σ H Q I h;refine wpAny_Call_method m.base m.few m.line vj pe PySem.F.type_dict_setdefault<|thn (ho π s σ H _ I h) λu s1 hE=>?_;obtain⟨x,H1,I1,rx,a,ex,d,q1⟩:=hE;subst ex;cases(show u=b0 a from rx);obtain⟨t1,t2,_⟩:=ac0 I1 d;refine⟨t1,t2,?_⟩;rw[m.trees];refine mT rfl (oP (mm (thn (he π s1 σ H1 _ I1 q1) λiv s2 hE=>xq2 hE λy H2 I2 ry q2=>
  mm (thn (hf π s2 σ H2 _ I2 q2) λfv s3 hE=>sN ?_))))
 obtain⟨z,H3,I3,rz,ι,k,b,e3,ey,eb,l,q3,q4⟩:=hE;subst ey;cases(show iv=b0 b from ry);obtain⟨sz,hd,xs,rel,dd⟩:=Wm (Dp I3) I3.hok e3;have hz:xs.length<=av:=by rw[← k7 rel];exact sz
 have rv:=rel.val k;refine WW (wM hu) (zQ I3 eb) dd hz hd (λp hp=>?_) λhn h' dd' hs=>?_
 ·rw[hp] at rv;cases ev:rW ι k with
  |none=>rw[ev] at rv;cases rv
  |some v=>
   rw[ev] at rv;exact⟨v,H3,I3.tok _,rv,q3 v ev⟩
 ·rw[hn] at rv;cases ev:rW ι k with
  |some v=>rw[ev] at rv;cases rv
  |none=>
   have rp:=rel.put k eb rz;rw[Xa _ ev,storedH_new hn] at rp;refine GD dd' λq es ep hq h2 h3 h4 _ h5=>?_;refine⟨z,upd H3 a<|.dT (KTp X.K)<|ι++[(k,z)],yJ I3 (by rw[e3];exact eS) hs ⟨q,hq⟩ ⟨by rw[bt,eM];lia,hd,_,rp.keeps λc ys ec=>?_,q,es,ep,hq,h2,h3,h4,h5⟩,rz,q4 ev⟩;rw[bC<|Vn ec e3 λz=>nomatch z];exact ec
end
def Y5 (i:Nat)(fk fv:Zaf):Zac:=λm=>(ofO<|Bd m i).bind λo=>(fk m).bind λk=>(fv m).bind λd=>(ofO<|xY k).bind λk=>
 if o.2.1.length<av then .ok (.nx,if(d9 o.2.1 o.2.2 k).isSome then m else rB m i o.1 (o.2.1++[k]) (o.2.2++[d])) else .stuck
section
theorem abX (i:Nat)(hr:fZ jj X.A)(hk:FE X E ke fk)(he:FE X E e f)(hm:M2 X (.Name x np) "setdefault" apos ke e ρ)(hN:X.N[i]? = some x:=by rfl)(hv:Vis X.env.scope x:=by first|exact eC rfl|exact eB (eC rfl)|exact eB (eB rfl))(hd:(x==("__debug__":Str))=false:=by decide)(hcd:(x==("__classdict__":Str))=false:=by decide)
  (υ:fg (.Call (.Attribute (.Name x np) "setdefault" apos) [ke,e] [] ρ) none pos.line X.env=pure false:=by rfl):FS X E (.Expr (.Call (.Attribute (.Name x np) "setdefault" apos) [ke,e] [] ρ) pos) (Y5 i fk f):=
 cH (yF (Wl (oN hr) (iy hN hv hd hcd) hk he hm) υ) λW σ H hE=>xq5 hE λO0 M0 H0 ow m R q=>by
  obtain⟨o,ho,q⟩:=Ss.ofO q;obtain⟨k,ks,ds⟩:=o;refine Ke (Jc R.toRel ho) λa ι e1 e2 e3 e4 e5 e6=>?_;refine⟨_,e2,a,rfl,.inr ⟨ι,.inl e3⟩,O0,M0,H0,ow,m,R.toRel,(Ss.pu R.toRel q).imp (aM.refl _) λdk q vk H1 g1 hvk=>?_⟩;have R1:=R.mono g1;refine⟨O0,M0,H0,ow,m,R1.toRel,(Ss.pu R1.toRel<|q.go<|Go.refl g1).imp (aM.refl _) λd q v H2 g2 hv=>?_⟩;obtain⟨ky,h1,q⟩:=Ss.ofO q;obtain⟨b,rfl,hb⟩:=wJ (.inl<|hvk.mono g2) h1;have R2:=R1.mono g2;have e3':=g2 _ _<|g1 _ _ e3;have e5':=(e5.mono g1).mono g2;have uf:=Py (k:=ky) e5';rw[e4] at uf;by_cases hz:ks.length<av
  ·rw[if_pos hz] at q;refine⟨ι,ky,b,e3',rfl,hb,by rw[← cp (f:=(·.1)),e4];exact hz,λv' ev=>?_,λev=>?_⟩
   ·rw[ev] at uf;rw[← uf] at q;exact q _ _ _ R2<|Go.refl g2
   ·rw[ev] at uf;rw[← uf] at q;obtain⟨R3,g3⟩:=R2.rB (ls:=ks++[ky]) (es:=ds++[d]) (ι:=ι++[(ky,v)]) e1 e6 (by simp[e4]) (by rw[dE];exact j7 e5'<|.cons hv .nil);exact q _ _ _ R3<|(Go.refl g2).trans g3
  ·rw[if_neg hz] at q;exact q.elim
end
def Bj (h:Heap)(d:Addr)(es:Array DictEntry)(ep:Nat):Prop:=∃o,h.get? d=some o/\o.ExactDict/\o.data=.dict es ep
section
variable {prog:bq}{w:dA}{A:dP}{E:Zl}{s:aS}{d it v:Addr}{es:Array DictEntry}{ep i:Nat}
theorem Bj.ty (x:Bj s.heap d es ep):s.TypeIs (.ref d) "dict":=let⟨o,h,c,_⟩:=x;⟨o,h,c.1⟩
theorem Bj.up (x:Bj h d es ep)(k:∀o,h.get? d=some o->h'.get? d=some o):Bj h' d es ep:=let⟨o,e,r⟩:=x;⟨o,k o e,r⟩
theorem Ug (nd:(d==ij)=false)(x:Bj s.heap d es ep)
  (k:Q (.ref s.heap.objs.size) { s with heap:=s.heap.push { cls:=.type "dict_values",data:=.fields #[.ref d] } }):bp (b6 prog w) A (call (.builtin "dict.values") [.ref d]) Q E s:=by
 refine gX tJ x.ty PySem.F.entry_dict_values ?_<|PySem.F.args_dict_values_1 _;refine ae ?_;unfold Builtin.Dict.noArgs;refine ae<|wpAny_notOrdered_dict x.ty<|show bp _ _ (pure d) _ _ s from ai ?_;show bp _ _ (yb d >>= _) _ _ s;unfold yb;rw[if_neg (λz=>by rw[nd] at z;cases z)];exact ae<|ai<|ae<|eD<|ai ⟨_,rfl,k⟩
theorem adB (hv:s.heap.IsValuesView v d)(x:Bj s.heap d es ep)
  (k:Q (.ref s.heap.objs.size) { s with heap:=s.heap.push { cls:=.type "dict_valueiterator",data:=.fields #[.ref d,.int 0 0,.int es.size 0,.int ep 0] } }):bp (b6 prog w) A (pyIter<|.ref v) Q E s:=by
 obtain⟨q,hq,hc,hf⟩:=id hv;obtain⟨o,ho,hx,ht⟩:=id x;have no:kQ "dict_valueiterator" = false:=by decide
 refine wpAny_pyIter_slot hv.typeIs oz<|gX oz hv.typeIs PySem.F.entry_dict_values_iter ?_<|PySem.F.args_dict_values_iter_1 _;unfold Ap.«dict_values.__iter__»;refine ae<|ai<|ae ?_;unfold Builtin.Dict_items.dictOf;refine ae<|hZ hq hf (x:=.ref d) rfl<|ai<|ae ?_;unfold Builtin.Dict_items.newIterator;refine ae<|nh ho ht<|ae<|yi ho ht ?_;simp only[no,fT,if_false];exact eD<|ai ⟨_,rfl, "dict_valueiterator",_,⟨_,aT _ rfl,rfl⟩,eK.lookup,by simpa[xt] using k⟩
theorem aeY (hit:s.heap.IsValIter it d i es.size ep)(x:Bj s.heap d es ep)
  (lt:i<es.size) (go:∀h',h'.IsValIter it d (i+1) es.size ep->iX it s.heap h'->Q (some es[i].val) { s with heap:=h' }):bp (b6 prog w) A (AH<|.ref it) Q E s:=by
 obtain⟨q,hq,hc,hf⟩:=id hit;obtain⟨o,ho,hx,ht⟩:=id x;have ty:=hit.typeIs;have e1:es[i]? = some es[i]:=sC lt;have no:kQ "dict_valueiterator" = false:=by decide
 have turned:(s.heap.update it<|kD (·.setIfInBounds 1 (xt<|(i:Int)+1))).IsValIter it d (i+1) es.size ep:=
  ⟨_,dS _ hq<|xC<|mo hf _,(Obj.cls_mapFields ..).trans hc,by rw[mo hf];simp[xt]⟩
 have fin:=go _ turned<|ib ..;unfold AH;refine ae<|vv<|iA (name:=cy "__next__") ty eK<|gX eK ty lP ?_<|lh _;refine ae<|ai<|ae<|ae ?_
 first
 |refine ae (ip ty<|ai<|ae<|sF hq hf ?_)
 |refine ae (kq ty<|ai<|ae<|sF hq hf ?_)
 simp only[no,fT,if_false];show bp _ _ (if(b0 d==eP)=true then _ else _) _ _ s;rw[if_neg λz=>by cases(show false=true from z)];refine ae<|ai<|ae<|nh ho ht ?_;rw[if_neg<|by simp];refine ae<|ai<|ae<|yi ho ht ?_;rw[if_neg<|by simp];refine ai ?_;simp only[show ¬((i:Int)<0) by lia,if_false,kd,e1];refine ae ?_
 first
 |refine ae (ip ty<|ai<|ae<|kX ty ?_)
 |refine ae (kq ty<|ai<|ae<|kX ty ?_)
 show bp _ _ (setField (.ref it) 1 (xt<|(i:Int)+1) >>= _) _ _ s;refine ae<|kM hq hf (by simp)<|ae<|gS ?_;refine ae<|kX (s:={ s with heap:=s.heap.update it (kD (·.setIfInBounds 1 (xt<|(i:Int)+1))) }) turned.typeIs ?_;refine ae<|kX (s:={ s with heap:=s.heap.update it (kD (·.setIfInBounds 1 (xt<|(i:Int)+1))) }) turned.typeIs ?_;exact(show bp _ _ (pure es[i].val) _ _ _ from ai (ai ⟨_,rfl,ai fin⟩))
theorem Sd (hh:A.handled=none)(hit:s.heap.IsValIter it d es.size es.size ep)(x:Bj s.heap d es ep)
  (go:∀h',BO it s.heap h'->Q none { s with heap:=h' }):bp (b6 prog w) A (AH<|.ref it) Q E s:=by
 obtain⟨q,hq,hc,hf⟩:=id hit;obtain⟨o,ho,hx,ht⟩:=id x;have ty:=hit.typeIs;have e1:es[es.size]? = none:=Array.getElem?_eq_none<|aI _;have no:kQ "dict_valueiterator" = false:=by decide
 unfold AH;refine ae<|vv<|iA (name:=cy "__next__") ty eK<|gX eK ty lP ?_<|lh _;refine ae<|ai<|ae<|ae ?_
 first
 |refine ae (ip ty<|ai<|ae<|sF hq hf ?_)
 |refine ae (kq ty<|ai<|ae<|sF hq hf ?_)
 simp only[no,fT,if_false];show bp _ _ (if(b0 d==eP)=true then _ else _) _ _ s;rw[if_neg λz=>by cases(show false=true from z)];refine ae<|ai<|ae<|nh ho ht ?_;rw[if_neg<|by simp];refine ae<|ai<|ae<|yi ho ht ?_;rw[if_neg<|by simp];refine ai ?_;simp only[show ¬((es.size:Int)<0) by lia,if_false,kd,e1];refine ae ?_
 first
 |refine ae (ip ty<|ai ?_)
 |refine ae (kq ty<|ai ?_)
 show bp _ _ (setField (.ref it) 0 .none >>= _) _ _ s;refine ae<|kM hq hf (by simp)<|show bp _ _ (newExc (.type "StopIteration") [] >>= _) _ _ _ from ae ?_;simp only[newExc,newTuple];refine ae<|eD (ae (m:=sL _ _)<|qr (a:=eP) (by first|rfl|(simp only[sL];rfl))<|eD ?_<|by size_fits) (by size_fits);simp only[raiseNew];refine ae<|wpAny_handled ?_;rw[show A.in1.handled=none from hh];refine ae<|ai<|wpAny_throw<|ae ?_;refine l6 (T:="StopIteration") (b:=true) ⟨_,aT _ rfl,rfl⟩ zt<|ai ?_;exact go _<|((ib ..).extBut.push _).push _
theorem ae7 (hh:A.handled=none)(ne:d≠it):Walks prog w A it [it,d] [it] es.size (λi v=>∃e,es[i]? = some e/\v=e.val) (λi h=>h.IsValIter it d i es.size ep/\Bj h d es ep) where
 sub:=λb hb=>by simp at hb;simp[hb]
 frame:=λ_ _ _ st hk=>⟨let⟨o,e,r⟩:=st.1;⟨o,hk it (by simp) o e,r⟩,st.2.up λo e=>hk d (by simp) o e⟩
 item:=λi s Q E hi st go=>aeY st.1 st.2 hi λh' a b=>go _ h' s.toks ⟨_,sC hi,rfl⟩ ⟨a,st.2.up λo e=>(b.2 d ne).trans e⟩ λc o hc e=>(b.2 c λz=>hc<|by simp[z]).trans e
 done:=λs Q E st go=>Sd hh st.1 st.2 λh' a=>go h' s.toks λc o hc e=>a c o (λz=>hc<|by simp[z]) e
 self:=λ_ _ _ _ st k=>wpAny_pyIter_valiter st.1 k
end
section
variable {X:Cx}
def IV (p a:Addr)(h:Heap):Prop:=h.IsValuesView p a
theorem Wa (I:Inv X π σ H s)(e:H a=some (.dT T ι)):
  ι.length<=av/\(a==ij)=false/\∃es ep,Bj s.heap a es ep/\es.size=ι.length/\Vals (ι.map (·.2)) (es.toList.map (·.val)):=by
 obtain⟨hz,hd,xs,rel,o,es,ep,ho,hx,ht,he,nd⟩:=I.hok a _ e;refine⟨hz,hd,es,ep,⟨o,ho,hx,ht⟩,?_,?_⟩
 ·rw[size_of_entries he,k7 rel]
 ·rw[he,gv];clear he hz hd nd e;induction rel with
  |nil=>exact .nil
  |cons h _ ih=>exact .cons h.2.2 ih
def adW (X:Cx):V->List V->Hp->VK->Prop:=λx vs H Q=>∃a ι,x=.ref a/\vs=[]/\H a=some (.dT (KTp X.K) ι)/\∀p,H p=none->Q (.ref p) (upd H p<|.ext<|IV p a)
theorem XQ:MtR X "dict.values" (adW X):=by
 intro π s σ H x vs v us Q I rx rv h;obtain⟨a,ι,rfl,rfl,e,q⟩:=h;cases rx;have hus:=rv.zero;subst hus;obtain⟨hz,hd,es,ep,x,_⟩:=Wa I e;refine Ug hd x ?_;refine⟨.ref _,_,I.laid (t':=s.toks) (λb o e=>af _ e) (aI _)<|show cu X.prog X.w _ _ _ (.ext<|IV s.heap.objs.size a) from⟨⟨_,aT _ rfl,rfl,rfl⟩,⟨_,aT _ rfl⟩,λh1 h2 ⟨o,e,r⟩ k=>⟨o,k o e,r⟩⟩,rfl,q _<|I.hok.fresh<|aI _⟩
theorem afw {es:Array DictEntry}:W.KdlSrc X.prog X.w "dict_values" r d es.size (λi v=>∃e,es[i]? = some e/\v=e.val) (λh=>h.IsValuesView r d/\Bj h d es ep) where
 type:=λ_ m=>m.1.typeIs
 there:=λ_ m=>⟨let⟨_,e,_⟩:=m.1;ay e,let⟨_,e,_⟩:=m.2;ay e⟩
 keep:=λ_ _ m k=>⟨let⟨o,e,x⟩:=m.1;⟨o,k r (.inl rfl) o e,x⟩,m.2.up λo e=>k d (.inr rfl) o e⟩
 notList:=by decide
 notTuple:=by decide
 hint:=λ_ _ _ _ m q=>W.kdl_hint_values m.1.typeIs q
 iter:=λ_ _ hh m=>⟨_,_,(λ_ _ q=>adB m.1 m.2 q),ae7 hh (let⟨_,e,_⟩:=m.2;bo (ay e)),⟨⟨_,aT _ rfl,rfl,rfl⟩,m.2.up λo e=>af _ e⟩⟩
def rLV (X:Cx):List V->Hp->VK->Prop:=λxs H Q=>∃p a ι,xs=[.ref p]/\H p=some (.ext<|IV p a)/\H a=some (.dT (KTp X.K) ι)/\∀l,H l=none->Q (.ref l) (upd H l<|.lst<|ι.map (·.2))
theorem NZ (hc:X.calm=true):iW X (.type "list") (rLV X):=by
 intro π s σ H xs us Q I r h;obtain⟨p,a,ι,rfl,hp,e,q⟩:=h;obtain⟨u,rfl,rx⟩:=vals1 r;cases rx;obtain⟨hz,hd,es,ep,x,sz,rel⟩:=Wa I e;obtain⟨vw,_⟩:=I.hok p _ hp;refine W.kdl_call (afw (ep:=ep)) (I.ok.hd hc) ⟨vw,x⟩ (by lia) λh' tk acc c kp oS it=>?_;have ea:acc.toList=es.toList.map (·.val):=by
  obtain⟨z,h⟩:=it;refine List.ext_getElem (by simp[z]) λi h1 h2=>?_;obtain⟨y,ey,ev⟩:=h i acc[i] (by simp at h1;simp[h1]);obtain⟨lt,ey⟩:=fS.mp ey;simp only[Array.getElem_toList,List.getElem_map];rw[ev,ey]
 refine⟨.ref _,_,I.laid (t':=tk) kp (aI _)<|show cu X.prog X.w _ h' _ (.lst<|ι.map (·.2)) from⟨by rw[cp];exact hz,es.toList.map (·.val),c,rel,?_⟩,rfl,q _<|I.hok.fresh<|aI _⟩;rw[← ea];simpa using oS
end
noncomputable def NK (fo:Zaf):Zaf:=λm=>(fo m).bind λd=>match d with
 | .dcu _ ds=>.ok<|.lst ds
 |_=>.stuck
section
theorem Wy (hc:X.calm=true)(hg:Gl X "list")(hm:X.mg "list" = none)(ho:FB X E o fo)(ζ:gT o "values" X.env (eval o X.env)=eval o X.env:=by rfl)(ν:(apos.endLine==ρ.line)=true:=by rfl)
  (hs:ag [.Call (.Attribute o "values" apos) [] [] ρ] X.env=(false,eval (.Call (.Attribute o "values" apos) [] [] ρ) X.env)::ag [] X.env:=by rfl):
  FN X E (.Call (.Name "list" p) [.Call (.Attribute o "values" apos) [] [] ρ] [] pos) (NK fo):=
 bG (zR (NZ hc) hg hm yR (eU (LK vj tJ PySem.F.type_dict_values XQ ho ζ ν) nG hs) (by decide) (by decide) hs rfl) λσ H Q h=>by
  refine Ge h λO0 M0 H0 ow m R q=>?_;refine⟨O0,M0,H0,ow,m,R,q.bind.imp (aM.refl _) λd q v H1 g1 hv=>?_⟩;cases d with
  |dcu ks ds=>
   obtain⟨a,ι,rfl,e,e1,hd⟩:∃a ι,v=.ref a/\H1 a=some (.dT (KTp X.K) ι)/\ι.map (·.1)=ks/\DVs (gx X) (Ow O0 ow) H1 (ι.map (·.2)) ds:=by
    rcases hv with hv|⟨a,rfl,_,hv⟩
    ·cases hv with
     |dcu n e a b hs=>subst b;exact⟨_,_,rfl,e,a,hs⟩
    ·refine Aq hv λι vs e a1 b1 hs=>?_;subst b1;exact⟨a,ι,rfl,e,a1,hs⟩
   refine⟨.inr<|.inr<|.inl ⟨rfl,.inr ⟨_,ι,.inl e⟩⟩,a,ι,rfl,rfl,e,λb hb=>?_⟩;have ne:a≠b:=λz=>by rw[z,hb] at e;cases e
   refine⟨b,a,ι,rfl,aZ,by rw[bC ne];exact e,λl hl=>?_⟩;have nb:l≠b:=λz=>by rw[z,aZ] at hl;cases hl
   have hl1:H1 l=none:=by rw[bC nb] at hl;exact hl
   have gg:aM H1 (upd (upd H1 b<|.ext<|IV b a) l<|.lst<|ι.map (·.2)):=(bL hb _).trans<|bL hl _;exact q l _ (g1.trans gg) (g1.free hl1) ⟨_,aZ,(hd.cL λc z=>z.elim .inl λe=>.inr (by rw[e];exact hl1)).mono gg⟩
  |_=>exact q.elim
end
def ac1 (K:a7)(tk tv:TE):TE:=λσ H Q=>∀p,H p=none->tk σ (upd H p<|.dT (KTp K) []) λx H1=>tv σ H1 λy H2=>
 H2 p=some (.dT (KTp K) [])/\∃ks b,x=.ref b/\TrT (KTp K) H2 b ks/\Q (.ref p) (upd H2 p<|.dT (KTp K) [(ks,y)])
section
theorem Wo (hu:X.A.units+16<pE)(hk:PE X k tk)(hv:PE X v tv):PE X (.Dict [some k] [v] pos) (ac1 X.K tk tv):=by
 intro π s σ H Q I q;have hn:=I.hok.fresh<|aI s.heap.objs.size;have I1:=I.laid (a:=s.heap.objs.size) (o:=.dT (KTp X.K) []) (h':=s.heap.push { cls:=.type "dict",data:=.dict #[] }) (t':=s.toks) (λ_ _ q=>af _ q) (aI _)<|K1 s.heap I.big;have pl:(pairTrees [some k] [v] X.env pos).length=1:=pairTrees_length [some k] [v] X.env pos rfl rfl;rw[arm_eval_Dict,zip_pairTrees [some k] [v] X.env pos rfl rfl,dictDisplay_pairs _ (λz=>by rw[z] at pl;cases pl) (by rw[pl];decide)];refine ae<|k8<|ae ?_;unfold subDict;refine ae<|wpAny_alloc<|ae<|gS ?_;rw[if_pos (by rw[pl];decide)];refine ae<|pairTrees_cons_walk<|thn (hk π _ σ _ _ I1<|q _ hn) λu s1 ⟨x,H1,J1,rx,q1⟩=>thn (hv π s1 σ H1 _ J1 q1) λr s2 hE=>pairTrees_nil_walk<|gS ?_;obtain⟨y,H2,I2,ry,e,ks,b,ex,eb,q2⟩:=hE;subst ex;cases(show u=b0 b from rx);obtain⟨z,hd,xs,rel,dd⟩:=Wm (Dp I2) I2.hok e;cases rel;rw[xI];refine ae<|ae ?_;show bp _ _ (dictSet s.heap.objs.size (.ref b) r >>= _) _ _ s2;refine(ae<|wpAny_dictSet_heap (hsz:=eW _) (show X.A.units+8<pE by lia) (zQ I2 eb) dd λh' dd' hs=>ai ?_);dsimp only;rw[List.forIn_nil];refine ai<|ai<|ai<|ai ?_;refine GD dd' λqo es ep hq h2 h3 h4 _ h5=>?_;refine⟨.ref s.heap.objs.size,upd H2 s.heap.objs.size<|.dT (KTp X.K) [(ks,y)],yJ I2 (by rw[e];exact eS) hs ⟨qo,hq⟩ ⟨by show 1<=_;decide,hd,_,?_,qo,es,ep,hq,h2,h3,h4,h5⟩,rfl,q2⟩;refine KT.keeps (H:=H2) (Paired.cons ⟨rfl,eb,ry⟩ .nil) λc ys ec=>?_;rw[bC<|Vn ec e λz=>nomatch z];exact ec
end
def Ma (fk fv:Zaf):Zaf:=λm=>(fk m).bind λk=>(fv m).bind λd=>(ofO<|xY k).bind λks=>.ok<|.dcu [ks] [d]
section
theorem T5 (hr:fZ j X.A)(hk:FE X E k fk)(hv:FE X E v fv):FN X E (.Dict [some k] [v] pos) (Ma fk fv):=
 bG (Wo (oN hr) hk hv) λσ H Q hE p hp=>by
  refine Ge hE λO0 M0 H0 ow m R q=>?_;have g0:aM H (upd H p<|.dT (KTp X.K) []):=bL hp _;have R1:=R.more g0 hp (by rw[aZ];exact .inr<|.inr<|.inl ⟨(KTp X.K,[]),rfl⟩);refine⟨Op O0 p,M0,H0,ow,m,R1,q.bind.imp g0 λkd q x H1 g1 hx=>⟨Op O0 p,M0,H0,ow,m,R1.mono g1,q.bind.imp (g0.trans g1) λd q y H2 g2 hy=>?_⟩⟩;obtain⟨ks,h1,q⟩:=q.bind.ofO;obtain⟨b,rfl,hb⟩:=wJ (.inl<|hx.mono g2) h1;have e2:H2 p=some (.dT (KTp X.K) []):=g2 _ _<|g1 _ _ aZ;have R2:=(R1.mono g1).mono g2;have kp:Kp (Ow (Op O0 p) ow) H2 (upd H2 p<|.dT (KTp X.K) [(ks,y)]):=λc o e n=>by rw[bC λz=>n<|.inl<|.inr z];exact e
  refine⟨e2,ks,b,rfl,hb,q p _ (λc o e=>?_) hp ⟨_,_,aZ,rfl,rfl,.cons ((hy.kp R2.mutk kp).cL λc z=>.inl ?_) .nil⟩⟩
  ·rw[bC (λz=>by rw[z,hp] at e;cases e)];exact g2 _ _<|g1 _ _<|g0 _ _ e
  ·rcases z with(z|z)|z
   ·exact .inl<|.inl z
   ·exact .inr z
   ·exact .inl<|.inr z
end
noncomputable def Ja:List ((Zaf)×(Zaf))->Me->Res (List<|D×D)
 |[],_=>.ok []
 |f::r,m=>(f.1 m).bind λk=>(f.2 m).bind λd=>(Ja r m).bind λl=>.ok ((k,d)::l)
inductive DPs (G:Gx)(O:Zab)(H:Hp):List (V×V)->List (D×D)->Prop where
 |nil:DPs G O H [] []
 |cons {x y:V} {k d:D} {ps:List (V×V)} {l:List (D×D)}:DV G O H x k->DV G O H y d->DPs G O H ps l->DPs G O H ((x,y)::ps) ((k,d)::l)
def Xp:List Key->List D->List (D×D)->Option (List Key×List D)
 |ks,ds,[]=>some (ks,ds)
 |ks,ds,p::r=>(Bc p.1).bind λk=>Xp (putD ks ds k p.2).1 (putD ks ds k p.2).2 r
def Qe (fs:List ((Zaf)×(Zaf))):Zaf:=λm=>(Ja fs m).bind λl=>if l.length<=15 then(ofO<|Xp [] [] l).bind λr=>.ok (.dct r.1 r.2) else .stuck
abbrev aay (X:Cx)(E:XK)(fs:List ((Zaf)×(Zaf))):List (TE×TE):=fs.map λf=>(tE (gx X) E f.1,tE (gx X) E f.2)
section
theorem Ky:∀(fs:List ((Zaf)×(Zaf))) {H:Hp} {K:List (D×D)->Prop} {Q:List (V×V)->Hp->Prop},aM Hb H->Rel (gx X) O0 M0 H0 ow σ H m->Pu (gx X) E (Ja fs m) Hb K->
  (∀l ps H',K l->aM H H'->DPs (gx X) (Ow O0 ow) H' ps l->Q ps H')->Ig (aay X E fs) σ H Q
 |[],H,K,Q,_,R,q,f=>f [] [] H q (aM.refl _) .nil
 |g::r,H,K,Q,gb,R,q,f=>by
  refine⟨O0,M0,H0,ow,m,R,q.bind.imp gb λkd q x H1 g1 hx=>⟨O0,M0,H0,ow,m,R.mono g1,q.bind.imp (gb.trans g1) λd q y H2 g2 hy=>?_⟩⟩;refine Ky r ((gb.trans g1).trans g2) ((R.mono g1).mono g2) q.bind λl ps H3 k g3 hl=>?_;exact f _ _ _ k ((g1.trans g2).trans g3)<|.cons ((hx.mono g2).mono g3) (hy.mono g3) hl
theorem Xi:∀{l:List (D×D)} {ps:List (V×V)} {ks rk:List Key} {ds rd:List D} {acc:List (Key×V)},DPs G O H ps l->Xp ks ds l=some (rk,rd)->acc.map (·.1)=ks->DVs G O H (acc.map (·.2)) ds->
  ∃ι:List (Key×V),ps=ι.map (λkv=>(kV kv.1,kv.2))/\(vR acc ι).map (·.1)=rk/\DVs G O H ((vR acc ι).map (·.2)) rd
 |_,_,ks,rk,ds,rd,acc,.nil,e,e1,e2=>by cases e;exact⟨[],rfl,e1,e2⟩
 |_,_,ks,rk,ds,rd,acc,.cons (x:=x) (y:=y) a b r,e,e1,e2=>by
  obtain⟨k,hk,e⟩:=fN.mp e;have ex:=M3 (.inl a) hk;obtain⟨p1,p2⟩:=Pr (k:=k) b e2;rw[e1] at p1 p2;obtain⟨ι,q1,q2,q3⟩:=Xi (acc:=putK acc k y) r e p1 p2;exact⟨(k,y)::ι,by rw[aE,← q1,ex],q2,q3⟩
theorem DPs.len:∀{ps:List (V×V)} {l:List (D×D)},DPs G O H ps l->ps.length=l.length
 |_,_,.nil=>rfl
 |_,_,.cons _ _ r=>by rw[cK,cK,r.len]
theorem Zy (h:PPs X pos keys values (aay X E fs))(hall:keys.all (·.isSome)=true)(hl:keys.length=values.length)(h0:keys≠[])(h15:keys.length<=15):
  FN X E (.Dict keys values pos) (Qe fs):=
 bG (Xv h hall hl h0 h15) λσ H Q hE p hp=>by
  refine Ge hE λO0 M0 H0 ow m R q=>?_;have g0:aM H (upd H p<|.dK []):=bL hp _;have R1:=R.more g0 hp (by rw[aZ];exact .inr<|.inl ⟨[],rfl⟩);refine Ky fs g0 R1 q.bind λl ps H2 q g2 hl2=>?_;obtain⟨hz,q⟩:=yg q;obtain⟨r,h1,q⟩:=q.bind.ofO;have R2:=R1.mono g2;have e2:H2 p=some (.dK []):=g2 _ _ aZ;obtain⟨ι,q1,q2,q3⟩:=Xi (acc:=[]) hl2 h1 rfl .nil;have len:=hl2.len;rw[q1,cp] at len;have kp:Kp (Ow (Op O0 p) ow) H2 (upd H2 p<|.dK<|vR [] ι):=λc o e n=>by rw[bC λz=>n<|.inl<|.inr z];exact e
  refine⟨e2,ι,q1,by lia,q p _ (λc o e=>?_) hp ⟨_,_,aZ,q2,rfl,(q3.kp R2.mutk kp).cL λc z=>.inl ?_⟩⟩
  ·rw[bC (λz=>by rw[z,hp] at e;cases e)];exact g2 _ _<|g0 _ _ e
  ·rcases z with(z|z)|z
   ·exact .inl<|.inl z
   ·exact .inr z
   ·exact .inl<|.inr z
end
section
end
section
variable {pr:bq}{wo:dA}{κ:Type}[DecidableEq κ]{kn:KeyKind pr wo κ}{A:dP}{R:Result->aS->Prop}{I:Addr}{fp wr:List Addr}{G:Array nL->Array nL->Prop}{n:Nat}{P:Nat->aw->Prop}{St:Nat->aS->Prop}
end
section
variable {pr:bq}{wo:dA}{κ:Type}[DecidableEq κ]{kn:KeyKind pr wo κ}{A:dP}{E:Zl}{s:aS}
end
section
end
section
end
section
end
section
end
section
variable {X:Cx}
end
section
end
section
end
noncomputable def Jp (m:Me)(i:Nat):Option (Bool×D):=match m[i]? with
 |some (.ow d)=>some (true,d)
 |some (.io d)=>some (false,d)
 |_=>none
noncomputable def Nv (m:Me)(i:Nat)(k:Bool)(d:D):Me:=m.set i<|if k then .ow d else .io d
section
variable {G:Gx}{O0 M0:Zab}{H0:Hp}{ow:Os}{σ:L2.St}{H:Hp}{m:Me}
theorem ZK (R:Rel G O0 M0 H0 ow σ H m){i:Nat}{k:Bool}{d:D}(e:Jp m i=some (k,d)):∃a,ow i=some a/\σ[i]? = some (some<|.ref a)/\OV G (Ow O0 ow) H a d/\((m[i]? = some (.ow d)/\k=true)\/(m[i]? = some (.io d)/\k=false)):=by
 unfold Jp at e;split at e
 ·rename_i q;cases e;obtain⟨a,e1,e2,e3,e4⟩:=R.slot i _ q;exact⟨a,e1,e3,e4,.inl ⟨q,rfl⟩⟩
 ·rename_i q;cases e;obtain⟨a,e1,e2,e3,e4⟩:=R.slot i _ q;exact⟨a,e1,e3,e4,.inr ⟨q,rfl⟩⟩
 ·cases e
end
def pY {α:Type}(p:Nat)(x:α)(l:List α):List α:=l.take p++x::l.drop p
theorem Ce {α:Type}{p:Nat}{x:α}{l:List α}:(pY p x l).length=l.length+1:=by
 simp[pY];omega
theorem Rk {α:Type}{p:Nat}{x:α}{l:List α}(h:p<=l.length):(pY p x l)[p]? = some x:=by
 unfold pY;rw[c9 (by simp;omega)];simp[yk h]
theorem Pn {α:Type}{p i:Nat}{x:α}{l:List α}(h:i<p)(hp:p<=l.length):(pY p x l)[i]? = l[i]?:=by
 unfold pY;rw[cS (by simp;omega),sQ h]
theorem Qq {α:Type}{p i:Nat}{x:α}{l:List α}(h:p<=i)(hp:p<=l.length):(pY p x l)[i+1]? = l[i]?:=by
 unfold pY;rw[c9 (by simp;omega)]
 have:i+1-(l.take p).length=(i-p)+1:=by simp[yk hp];omega
 rw[this,List.getElem?_cons_succ,sg];congr 1;omega
def Ca (G:Gx)(p:Nat)(Φ:List D->D->Res (D×D)):Sp:=λvs H Q E=>∃O a us ds d,vs=pY p (.ref a) us/\p<=ds.length/\(∀b,O b->jy (H b))/\O a/\OV G O H a d/\DVs G O H us ds/\match Φ ds d with
 | .ok (r,d')=>∀v H',Kp (· = a) H H'->OV G O H' a d'->DV G O H' v r->Q v H'
 | .exc c=>∀C H',XP G H' c C->Kp (· = a) H H'->E (.ref C.1) C.2 H'
 | .stuck=>False
noncomputable def An (m:Me)(p:Nat):Option D:=match m[p]? with
 |some (.io d)=>some d
 |_=>none
def pA (p N n:Nat)(g:Zac):List D->D->Res (D×D):=λds d=>if ds.length+1=n then match g (pY p (.io d) (ds.map Sl.fz)++bP (N-n) Sl.un) with
  | .ok (.rt _ r,m')=>(ofO<|An m' p).bind λd'=>.ok (r,d')
  | .ok (.nx,m')=>(ofO<|An m' p).bind λd'=>.ok (.non,d')
  | .exc c=>.exc c
  |_=>.stuck
 else .stuck
theorem Kf {m:Me}{p:Nat}{d:D}(h:An m p=some d):m[p]? = some (.io d):=by
 unfold An at h;split at h
 ·rename_i q;cases h;exact q
 ·cases h
abbrev Jb (P:bq)(w:dA)(K:a7)(mg:Zaa)(base:Heap)(k:Nat)(x:Str)(ps:List Str)(p:Nat)(Φ:List D->D->Res (D×D)):Prop:=Hd.Fn P w K mg base k x ps<|Ca ⟨K,mg⟩ p Φ
theorem Pj {O:Zab}{a:Addr}{p:Nat}(h:O a):Ow (λb=>O b/\b≠a) (owS (λ_=>none) p<|some a)=O:=by
 funext b;refine propext ⟨λz=>?_,λz=>?_⟩
 ·rcases z with z|⟨i,e⟩
  ·exact z.1
  ·by_cases q:i=p
   ·subst q;rw[du] at e;cases e;exact h
   ·rw[dw q] at e;cases e
 ·by_cases q:b=a
  ·subst q;exact .inr ⟨p,du⟩
  ·exact .inl ⟨z,q⟩
theorem SX {G:Gx}{O:Zab}{H:Hp}{N:List Str}{a:Addr}{us:List V}{ds:List D}{d:D}{n p:Nat}(hp:p<=ds.length)(hm:∀b,O b->jy (H b))(oa:O a)(ho:OV G O H a d)(hd:DVs G O H us ds)(hn:ds.length+1=n)(hN:n<=N.length):
  eV G (λb=>O b/\b≠a) (· = a) H (owS (λ_=>none) p<|some a) (L2.start N<|pY p (.ref a) us) H (pY p (.io d) (ds.map Sl.fz)++bP (N.length-n) Sl.un):=by
 have hl:=bT hd;have nz:∀i,i≠p->owS (λ_=>none) p (some a) i=none:=λi h=>dw h;have ω:(pY p (V.ref a) us).length=n:=by rw[Ce,hl];exact hn
 have hst:∀i x,(pY p (V.ref a) us)[i]? = some x->(L2.start N<|pY p (.ref a) us)[i]? = some (some x):=λi x e=>by
  have hi:i<(pY p (V.ref a) us).length:=(d4.mp e).1;unfold L2.start;rw[cS (by simpa using hi),bg,e];rfl
 have hml:(pY p (Sl.io d)<|ds.map Sl.fz).length=n:=by rw[Ce,cp];exact hn
 have key:∀(i:Nat) (s:Sl),(pY p (Sl.io d) (ds.map Sl.fz)++bP (N.length-n) Sl.un)[i]? = some s->
   (i=p/\s=.io d)\/(i≠p/\∃d1 x,s=.fz d1/\DV G O H x d1/\(pY p (V.ref a) us)[i]? = some x)\/(i≠p/\s=.un):=λi s e=>by
  by_cases hi:i<n
  ·rw[cS (by rw[hml];exact hi)] at e;by_cases q:i=p
   ·subst q;rw[Rk<|by simpa using hp] at e;cases e;exact .inl ⟨rfl,rfl⟩
   ·refine .inr<|.inl ⟨q,?_⟩;by_cases lt:i<p
    ·rw[Pn lt (by simpa using hp),bg] at e;cases ed:ds[i]? with
     |none=>rw[ed] at e;cases e
     |some d1=>
      rw[ed] at e;cases e;obtain⟨x,hx,dx⟩:=xZ hd ed;exact⟨d1,x,rfl,dx,by rw[Pn lt<|by omega];exact hx⟩
    ·obtain⟨j,rfl⟩:∃j,i=j+1:=⟨i-1,by omega⟩;rw[Qq (by omega) (by simpa using hp),bg] at e;cases ed:ds[j]? with
     |none=>rw[ed] at e;cases e
     |some d1=>
      rw[ed] at e;cases e;obtain⟨x,hx,dx⟩:=xZ hd ed;exact⟨d1,x,rfl,dx,by rw[Qq (by omega)<|by omega];exact hx⟩
  ·rw[c9 (by rw[hml];omega),fy] at e;split at e
   ·cases e;exact .inr<|.inr ⟨by omega,rfl⟩
   ·cases e
 refine⟨⟨?_,λb o e _=>e,λb z=>?_,λb z=>by rw[Pj oa] at z;exact hm b z,λi b e=>?_,λi j b e1 e2=>?_,λi hi=>?_,λi s e=>?_⟩,λj d' e=>?_⟩
 ·rw[bt,hml,ic];unfold L2.start;rw[bt,cp,ω,ic]
 ·have z:b=a:=z;rw[z];rcases ho.mut with⟨_,e⟩|⟨_,e⟩|⟨_,e⟩|⟨_,e⟩<;>rw[e]<;>simp
 ·by_cases q:i=p
  ·subst q;rw[du] at e;cases e;exact λz=>z.2 rfl
  ·rw[nz i q] at e;cases e
 ·by_cases q:i=p
  ·by_cases q':j=p
   ·rw[q,q']
   ·rw[nz j q'] at e2;cases e2
  ·rw[nz i q] at e1;cases e1
 ·exact nz i (by rw[bt,hml] at hi;omega)
 ·rw[Pj oa];rcases key i s e with⟨rfl,rfl⟩|⟨q,d1,x,rfl,dx,hx⟩|⟨q,rfl⟩
  ·exact⟨a,du,rfl,hst _ _<|Rk (by omega),ho⟩
  ·exact⟨nz _ q,x,hst _ _ hx,dx⟩
  ·exact nz _ q
 ·rcases key j _ e with⟨_,z⟩|⟨_,_,_,z,_⟩|⟨_,z⟩<;>cases z
section
variable {P:bq}{w:dA}{K:a7}{mg:Zaa}{base:Heap}
theorem zu {x qual:Str}{st:Stmt}{f:Addr}{fd:gN}{N ps:List Str}{k:Nat}(p:Nat){g:Zac}(Fu:Fun K x qual st f fd)(S:aQ N ps (aF st))(hN:ps.length<=N.length)
  (hbody:∀(cdv:aw) (A:dP) (outer:List Env) (s:aS) (H:Hp) (E:XK),fZ k (A.deeper<|qc qual (aF st) s.heap.objs.size f cdv)->
   FSs (lQ (CX1 P w) P w K mg base N qual (aF st) f cdv A outer s H E) E (gU st) g):oM P w K mg base (CX1 P w) (k+1) f fd ps (Ca ⟨K,mg⟩ p<|pA p N.length ps.length g):=by
 have cond:∀{ds:List D} {d:D},pA p N.length ps.length g ds d≠.stuck->ds.length+1=ps.length:=λ{ds d} h=>by
  by_cases z:ds.length+1=ps.length
  ·exact z
  ·unfold pA at h;rw[if_neg z] at h;exact absurd rfl h
 refine By Fu S (λvs H Q E h=>?_) λcdv A outer s H vs Q E hr h=>?_
 ·obtain⟨O,a,us,ds,d,rfl,_,_,_,_,hd,q⟩:=h;rw[Ce,bT hd];exact cond λz=>by rw[z] at q;exact q
 ·obtain⟨O,a,us,ds,d,rfl,hp,hm,oa,ho,hd,q⟩:=h;have hn:=cond (ds:=ds) (d:=d) λz=>by rw[z] at q;exact q
  unfold pA at q;rw[if_pos hn] at q;refine⟨_,hbody cdv A outer s H E hr,_,_,H,_,_,SX hp hm oa ho hd hn hN,?_⟩;have fin:∀{ow' σ' H' m' d'},eV (⟨K,mg⟩:Gx) (λb=>O b/\b≠a) (· = a) H ow' σ' H' m'->m'[p]? = some (Sl.io d')->Kp (· = a) H H'/\OV ⟨K,mg⟩ O H' a d'/\∀v r,DV (⟨K,mg⟩:Gx) (Ow (λb=>O b/\b≠a) ow') H' v r->DV ⟨K,mg⟩ O H' v r:=λ{ow' σ' H' m' d'} R e=>by
   obtain⟨a',e1,e2,e3,e4⟩:=R.slot p _ e;have e2:a'=a:=e2;subst e2;have sub:∀b,O b->Ow (λb=>O b/\b≠a') ow' b\/H' b=none:=λb z=>by
    by_cases q:b=a'
    ·exact .inl<|.inr ⟨p,by rw[q];exact e1⟩
    ·exact .inl<|.inl ⟨z,q⟩
   exact⟨R.keep,e4.cL sub,λv r h=>h.cL sub⟩
  cases z:g (pY p (.io d) (ds.map Sl.fz)++bP (N.length-ps.length) Sl.un) with
  |exc c=>rw[z] at q;exact λC H' e kp=>q C H' e kp
  |stuck=>rw[z] at q;exact q.elim
  |ok b=>
   obtain⟨fl,m'⟩:=b;rw[z] at q;cases fl with
   |bk=>exact q.elim
   |ct=>exact q.elim
   |nx=>
    intro ow' σ' H' R' _;cases e0:An m' p with
    |none=>simp only[e0] at q;exact q.elim
    |some es'=>
     simp only[e0] at q;obtain⟨k1,k2,k3⟩:=fin R'<|Kf e0;exact q _ H' k1 k2 .non
   |rt fr r=>
    intro v ow' σ' H' R' _ hv _;cases e0:An m' p with
    |none=>simp only[e0] at q;exact q.elim
    |some es'=>
     simp only[e0] at q;obtain⟨k1,k2,k3⟩:=fin R'<|Kf e0;exact q v H' k1 k2<|k3 _ _ hv
theorem abx {k p:Nat}{f:Addr}{fd:gN}{ps:List Str}:oM P w K mg base (CX1 P w) k f fd ps (Ca ⟨K,mg⟩ p λ_ _=>.stuck):=
 ⟨λ_ _ _ _ ⟨_,_,_,_,_,_,_,_,_,_,_,q⟩=>q.elim,λ_ _ _ _ _ _ _ _ _ _ _ _ _ ⟨_,_,_,_,_,_,_,_,_,_,_,q⟩=>q.elim⟩
end
def tAH (G:Gx)(E:XK)(i p:Nat)(f:Zae):TA:=λσ H Q=>∃O0 M0 H0 ow m a,Rel G O0 M0 H0 ow σ H m/\σ[i]? = some (some<|.ref a)/\Pu G E (f m) H λds=>p<=ds.length/\∀us H',aM H H'->DVs G (Ow O0 ow) H' us ds->Q (pY p (.ref a) us) H'
abbrev FAH (X:Cx)(E:XK)(es:List Expr)(i p:Nat)(f:Zae):Prop:=PA X es<|tAH (gx X) E i p f
section
variable {X:Cx}{E:XK}{e:Expr}{es:List Expr}{fa:Zaf}{fs:Zae}{i p:Nat}{y:Str}{np:Pos}
theorem vC (ha:FAE X E es fs)(hN:X.N[i]? = some y:=by rfl)(hv:Vis X.env.scope y:=by first|exact eC rfl|exact eB (eC rfl)|exact eB (eB rfl))(hd:(y==("__debug__":Str))=false:=by decide)(hcd:(y==("__classdict__":Str))=false:=by decide)
  (he:ag (.Name y np::es) X.env=(false,eval (.Name y np) X.env)::ag es X.env:=by rfl):FAH X E (.Name y np::es) i 0 fs:=
 rK (eU (iy hN hv hd hcd) ha he) λσ H Q ⟨O0,M0,H0,ow,m,a,R,ea,q⟩=>
  ⟨_,ea,O0,M0,H0,ow,m,R,q.imp (aM.refl _) λds q vs H' g hv=>q.2 vs H' g hv⟩
theorem vY (ha:FE X E e fa)(hr:FAH X E es i p fs)(he:ag (e::es) X.env=(false,eval e X.env)::ag es X.env:=by rfl):FAH X E (e::es) i (p+1) (aj fa fs):=
 rK (eU ha hr he) λσ H Q ⟨O0,M0,H0,ow,m,a,R,ea,q⟩=>⟨O0,M0,H0,ow,m,R,q.bind.imp (aM.refl _) λd q v H1 g1 hv=>
  ⟨O0,M0,H0,ow,m,a,R.mono g1,ea,q.bind.imp g1 λds q=>⟨by have:=q.1;simpa using this,λus H2 g2 hus=>q.2 _ H2 (g1.trans g2)<|.cons (hv.mono g2) hus⟩⟩⟩
end
def tK (Φ:List D->D->Res (D×D))(i p:Nat)(fs:Zae):Me->Res (D×Me):=λm=>(ofO<|Jp m i).bind λo=>(fs m).bind λds=>if p<=ds.length then(Φ ds o.2).bind λr=>.ok (r.1,Nv m i o.1 r.2) else .stuck
theorem Xs.at {G:Gx}{E:XK}{O0 M0:Zab}{H0 H H1:Hp}{ow:Os}{σ:L2.St}{α:Type}{r:Res (α×Me)}{k:α->Hp->Prop}(h:Xs G E O0 M0 H0 ow σ H r k)(g:aM H H1):Xs G E O0 M0 H0 ow σ H1 r k:=h.imp (Go.refl g) λ_ _ _ _ _ _ q=>q
theorem DG {X:Cx}{E:XK}{e0:Expr}{es:List Expr}{fs:Zae}{pos pp:Pos}{j k p:Nat}{x:Str}{ps:List Str}{Φ:List D->D->Res (D×D)}(i:Nat)(Fh:Jb X.prog X.w X.K X.mg X.base k x ps p Φ)(hr:fZ j X.A)(hx:Passes (CX1 X.prog X.w) X E)(ha:FAH X E (e0::es) i p fs)(hk:k<=j:=by decide)(hg:Gl X x:=by rfl)
  (hdb:(x==("__debug__":Str))=false:=by decide) (he:ag (e0::es) X.env=(false,eval e0 X.env)::ag es X.env:=by rfl) (ξ:(hV pos<|ag es X.env).any (·.1)=false:=by rfl):
  FX X E (.Call (.Name x pp) (e0::es) [] pos) (tK Φ i p fs):=by
 obtain⟨f,fd,G,b,kp,m⟩:=Fh.ex;refine bG (Ir G (hr.mono hk) hg m kp b .nil hx ha hdb he ξ) λσ H Q hE=>xq5 hE λO0 M0 H0 ow m R q=>?_;obtain⟨o,ho,q⟩:=(Xs.pu R.toRel q).ofO;obtain⟨kk,d0⟩:=o;obtain⟨a,e1,e2,e4,e5⟩:=ZK R.toRel ho;refine⟨O0,M0,H0,ow,m,a,R.toRel,e2,(Xs.pu R.toRel q).imp (aM.refl _) λds q=>?_⟩;by_cases hp:p<=ds.length
 case neg=>rw[if_neg hp] at q;exact q.elim
 rw[if_pos hp] at q;refine⟨hp,λus H1 g1 hus=>?_⟩;have R1:=R.mono g1;have q:Xs (gx X) E O0 M0 H0 ow σ H1 ((Φ ds d0).bind λr=>.ok (r.1,Nv m i kk r.2)) _:=q.at g1;show Ca _ _ _ (pY p (V.ref a) us++[]) _ _ _;rw[cw];refine⟨Ow O0 ow,a,us,ds,d0,rfl,hp,R1.mutk,.inr ⟨i,e1⟩,e4.mono g1,hus,?_⟩;cases z:Φ ds d0 with
 |stuck=>rw[z] at q;exact q.elim
 |exc c=>
  rw[z] at q;refine λC H' e g=>q C H' e λb o e n=>?_;refine g b o (R1.keep b o e n) λw=>?_;subst w;rcases e5 with⟨s,_⟩|⟨s,_⟩
  ·obtain⟨a',s1,s2,_⟩:=R.slot i _ s;rw[e1] at s1;cases s1;rw[s2] at e;cases e
  ·obtain⟨a',s1,s2,_⟩:=R.slot i _ s;rw[e1] at s1;cases s1;exact n s2
 |ok r=>
  obtain⟨d,d'⟩:=r;rw[z] at q;intro v H' g ov hv;refine q H' (R1.chg (d:=d0) (d':=d') e1 g ov ?_) (Go.chg e1 g ov) v hv;rcases e5 with⟨s,rfl⟩|⟨s,rfl⟩
  ·exact .inl ⟨s,rfl⟩
  ·exact .inr ⟨s,rfl⟩
noncomputable def acY (i j:Nat)(fs:Zae):Zac:=λm=>(fs m).bind λds=>match ds with
 |[d,e]=>.ok (.nx,(m.set i<|.fz d).set j<|.fz e)
 |_=>.stuck
theorem aba (hc:X.calm=true)(hN:X.N.Nodup)(hi:X.N[i]? = some x)(hj:X.N[j]? = some y)(hij:i≠j)
  (hx:X.env.scope.names.lookup x=some .local) (hy:X.env.scope.names.lookup y=some .local) (ha:FAE X E [a,b] fs)
  (hw:pd [.Tuple [.Name x px,.Name y py] kt pt] (.Tuple [a,b] k2 pt2) X.env=pure (some [x,y]):=by rfl)
  (hs:oT [.Tuple [.Name x px,.Name y py] kt pt] (.Tuple [a,b] k2 pt2) pos.line X.env=pure false:=by rfl):
  FS X E (.Assign [.Tuple [.Name x px,.Name y py] kt pt] (.Tuple [a,b] k2 pt2) pos) (acY i j fs):=
 cH (adk hc hN hi hj hij hx hy ha hw hs) λW σ H hE=>xq5 hE λO0 M0 H0 ow m R q=>⟨O0,M0,H0,ow,m,R.toRel,(Ss.pu R.toRel q).imp (aM.refl _) λds q vs H' g hv=>by
  have z:∃d e,ds=[d,e]:=by
   cases ds with
   |nil=>exact q.elim
   |cons d ds=>cases ds with
    |nil=>exact q.elim
    |cons e ds=>cases ds with
     |nil=>exact⟨d,e,rfl⟩
     |cons _ _=>exact q.elim
  obtain⟨d,e,rfl⟩:=z;cases hv with
  |cons h1 h3=>cases h3 with
  |cons h2 h4=>
   cases h4;refine⟨_,_,rfl,?_⟩;have R1:=(R.mono g).set (i:=i) h1;have R2:=R1.set (i:=j)<|h2.cL λb z=>.inl z.sub;exact q _ _ _ R2<|((Go.refl g).trans Go.set).trans Go.set⟩
section
variable {G:Gx}{O0 M0:Zab}{H0 H H':Hp}{ow:Os}{σ:L2.St}{m m':Me}
end
section
variable {X:Cx}{E:XK}{e b ke:Expr}{f fb fk:Zaf}{pos spos:Pos}
end
section
variable {P:bq}{w:dA}{K:a7}{mg:Zaa}{base:Heap}
end
section
end
section
variable {X:Cx}{E:XK}
end
section
def wj (i:Nat)(f:Me->Res (D×Me)):Zac:=λm=>(ofO<|pB m i).bind λ_=>(f m).bind λp=>(ofO<|pB p.2 i).bind λo=>if o.2.length<av then .ok (.nx,putL p.2 i o.1<|o.2++[p.1]) else .stuck
theorem Ds (i:Nat)(he:FX X E e fa)(hN:X.N[i]? = some x:=by rfl)(hv:Vis X.env.scope x:=by first|exact eC rfl|exact eB (eC rfl)|exact eB (eB rfl))(hd:(x==("__debug__":Str))=false:=by decide)(hcd:(x==("__classdict__":Str))=false:=by decide)
  (ζ:gT (.Name x np) "append" X.env (eval (.Name x np) X.env)=eval (.Name x np) X.env:=by rfl)
  (θ:((hV ρ<|ag [e] X.env).all (λx=>!x.1)&&(AO ρ<|qf [] X.env).all (λx=>x.1.isSome)&&decide ([e].length+([]:List qh).length+(if([]:List qh).isEmpty then 0 else 1)<30))=true:=by rfl)
  (ν:(apos.endLine==ρ.line)=true:=by rfl) (hs:ag [e] X.env=(false,eval e X.env)::ag [] X.env:=by rfl) (hplain:(hV ρ<|ag [] X.env).any (·.1)=false:=by rfl)
  (υ:fg (.Call (.Attribute (.Name x np) "append" apos) [e] [] ρ) none pos.line X.env=pure false:=by rfl):
  FS X E (.Expr (.Call (.Attribute (.Name x np) "append" apos) [e] [] ρ) pos) (wj i fa):=
 cH (yF (QF iE tw tz zO (iy hN hv hd hcd) (eU he nG hs) ζ θ ν hs hplain) υ) λW σ H hE=>xq5 hE λO0 M0 H0 ow m R q=>by
  obtain⟨o,ho,q⟩:=Ss.ofO q;obtain⟨k,ds⟩:=o;refine xn (uH R.toRel ho) λa xs e1 e2 e3 e4 e5=>?_;refine⟨_,e2,.inl ⟨rfl,xs,SqL.of e3⟩,O0,M0,H0,ow,m,R,(Xs.ss (k:=λd m'=>(ofO<|pB m' i).bind λo=>if o.2.length<av then .ok (.nx,putL m' i o.1<|o.2++[d]) else .stuck) q).imp (Go.refl<|aM.refl _) λd H1 m1 R1 g1 em q v hv=>?_⟩;have q:=q m1 em R1;obtain⟨o,ho,q⟩:=Ss.ofO q;obtain⟨k',ds'⟩:=o;refine xn (uH R1.toRel ho) λa' xs' f1 f2 f3 f4 f5=>?_;rw[e1] at f1;cases f1;by_cases hz:ds'.length<av
  ·have q:Ss (gx X) E O0 M0 H0 ow H1 W (if ds'.length<av then .ok (.nx,putL m1 i k'<|ds'++[d]) else .stuck):=q;rw[if_pos hz] at q;obtain⟨R2,g2⟩:=R1.put (es:=ds'++[d]) (ys:=xs'++[v]) e1 f5<|j7 f4<|.cons hv .nil;exact⟨a,xs',v,rfl,rfl,f3,by rw[bT f4];exact hz,q _ _ _ R2 g2⟩
  ·have q:Ss (gx X) E O0 M0 H0 ow H1 W (if ds'.length<av then .ok (.nx,putL m1 i k'<|ds'++[d]) else .stuck):=q;rw[if_neg hz] at q;exact q.elim
end
end F
namespace L2
open PySem PySem.Spec PyProof.Rows
def Itd (hi:Int)(n:Nat):It:=⟨λi _=>i<n,λi H x H'=>H'=H/\x=.int (hi-i),λi _=>n<=i⟩
theorem RT {P:bq}{w:dA}{K:PySem.W.Frag}{tg:Expr}(it:Addr)(hi:Int)(n:Nat):Turn Calm P w K tg (Itd hi n) [it] it (λi h=>zC h it (hi+(i:Nat)*(-1)) ((n:Int)-(i:Nat)) (-1)) where
 mem:=by simp
 obj:=λi h st b hb=>by
  have e:b=it:=by simpa using hb
  subst e;exact⟨_,st,λv z=>by
   have z':BM _=Data.cell v:=z;cases z'⟩
 keep:=λi h h' st k=>k it (by simp) _ st
 item:=by
  intro X hP hw hK hc i π s σ H E I hf st hg;subst hP hw hK;refine uU (hf it<|by simp) λf0 f1 f2 f3 f4 f5=>?_;have W:=Walks.range (prog:=X.prog) (w:=X.w) (I.ok.hd hc) it hi (-1) n;refine W.item i s _ _ hg st λv h' tk hv st' kk=>?_;obtain⟨t,rfl⟩:=hv;have I1:Inv X π σ H { s with heap:=h',toks:=tk }:=I.turned (λb o hb e=>kk b o (by simpa using hb) e) f0 f1 f3 f4 f5;refine⟨_,rfl,Gq (s:={ s with heap:=h',toks:=tk }) (n:="range_iterator") st' rfl rfl (by decide) ⟨.int<|hi-i,H,I1,⟨t,?_⟩,⟨rfl,rfl⟩,st',λb hb=>(hf b hb).1⟩⟩;rw[show hi+(i:Int)*(-1)=hi-i by lia]
 done:=by
  intro X hP hw hK hc i π s σ H E I hf st hg;subst hP hw hK;refine uU (hf it<|by simp) λf0 f1 f2 f3 f4 f5=>?_;exact wpAny_pyNext_range_end (I.ok.hd hc) st (by have:n<=i:=hg;lia) λh' eb=>⟨rfl,I.turned (t':=s.toks) (λb o hb e=>eb b o hb e) f0 f1 f3 f4 f5⟩
 self:=λ_ _ _ _ _ st h=>wpAny_pyIter_rangeiter st h
theorem Fd (a b:Int):kB a b (-1)=((a-b).toNat:Int):=by
 unfold kB;rw[if_neg<|by decide];split
 ·rw[show -(-1:Int)=1 by decide,Bz];lia
 ·lia
theorem small_down (ha:-1000000000<=a)(ha':a<=1000000000)(hb:-1000000000<=b)(hb':b<=1000000000):Au a b (-1)=true:=by
 unfold Au;rw[Fd];simp only[Builtin.Range.rangeFitsLong,g7,mw,decide_eq_true_eq,beq_iff_eq,show ¬(-1:Int)>0 by decide,if_false]
 lia
section
variable {X:Cx}{tg:Expr}
theorem UT {π:Zp}{σ:St}{H:Hp}{s:aS}{R:It->Hp->Prop}{E:Zl}{hi lo:Int}{t u v:Tok}{tk:Nat}(I:Inv X π σ H s)(h1:-1000000000<=hi)(h2:hi<=1000000000)(h3:-1000000000<=lo)(h4:lo<=1000000000)
  (q:R (Itd hi (hi-lo).toNat) H):bp (b6 X.prog X.w) X.A (pyIter<|.ref s.heap.objs.size) (PIE Calm X π σ tg R) E { s with heap:=s.heap.push { cls:=.type "range",data:=.fields #[.int hi t,.int lo u,.int (-1) v] },toks:=tk }:=by
 refine wpAny_pyIter_range (IsRange.new ..) (small_down h1 h2 h3 h4) ?_;have I1:Inv X π σ H { s with heap:=s.heap.push { cls:=.type "range",data:=.fields #[.int hi t,.int lo u,.int (-1) v] },toks:=tk }:=I.kept λb o e=>af _ e;refine⟨(s.heap.push { cls:=.type "range",data:=.fields #[.int hi t,.int lo u,.int (-1) v] }).objs.size,[(s.heap.push { cls:=.type "range",data:=.fields #[.int hi t,.int lo u,.int (-1) v] }).objs.size],_,_,H,rfl,
  I1.kept (t':=tk) λb o e=>af _ e,RT _ hi (hi-lo).toNat,?_,λb hb=>?_,q⟩
 ·have e1:hi+((0:Nat):Int)*(-1)=hi:=by simp
  have e2:(((hi-lo).toNat:Nat):Int)-((0:Nat):Int)=kB hi lo (-1):=by rw[Fd];lia
  show zC _ _ (hi+((0:Nat):Int)*(-1)) ((((hi-lo).toNat:Nat):Int)-((0:Nat):Int)) (-1);rw[e1,e2];exact aT _ rfl
 ·have e:b=(s.heap.push { cls:=.type "range",data:=.fields #[.int hi t,.int lo u,.int (-1) v] }).objs.size:=by simpa using hb
  subst e;exact I1.N5 (aI _)<|I1.hok.fresh<|aI _
def aeQ (ta:TA):TI:=λσ H R=>ta σ H λvs H1=>∃i j:Int,vs=[.int i,.int j,.int (-1)]/\(-1000000000<=i/\i<=1000000000/\-1000000000<=j/\j<=1000000000)/\R (Itd i (i-j).toNat) H1
theorem RX (hg:Gl X "range")(hm:X.mg "range" = none)(ha:PA X [a,b,c] ta)(hs:ag [a,b,c] X.env=[(false,eval a X.env),(false,eval b X.env),(false,eval c X.env)]:=by rfl)(hs2:ag [b,c] X.env=[(false,eval b X.env),(false,eval c X.env)]:=by rfl):
  PI Calm X tg (.Call (.Name "range" p) [a,b,c] [] pos) (aeQ ta):=by
 intro π s σ H R I h;refine Call_<|um I hg hm boot_range<|eI (thn (ha pos π s σ H _ I h) λus s1 hE=>xq2 hE λvs H1 I1 r1 q1=>?_) (by rw[hs,hs2]) (by rw[hs2];rfl);obtain⟨i,j,e,⟨q1,q2,q3,q4⟩,q⟩:=q1;subst e;cases r1 with
 |cons r rr=>
  cases rr with
  |cons r' rr=>
   cases rr with
   |cons r'' rr=>
    cases rr;obtain⟨t,rfl⟩:=r;obtain⟨t',rfl⟩:=r';obtain⟨t'',rfl⟩:=r'';exact call_range_3 (by decide) (UT (tk:=s1.toks) I1 q1 q2 q3 q4 q)<|eC<|PyProof.noPylong_small<|by lia
end
end L2
namespace F
open PySem PySem.Spec PyProof.Rows L2 Hd
noncomputable def Y7 (f:Zae):Zae:=λm=>(f m).bind λd=>match d with
 |[.int i,.int j,.int (-1)]=>if -1000000000<=i/\i<=1000000000/\-1000000000<=j/\j<=1000000000 then .ok ((cx (i-j).toNat).map λ(k:Nat)=>D.int<|i-k) else .stuck
 |_=>.stuck
theorem X7:Dm G (Itd hi n) ((cx n).map λ(k:Nat)=>D.int<|hi-k) P:=by
 intro O H _;refine⟨λi hi=>(show i<n by simpa using hi),λi x H' hi y=>?_,by show n<=_;simp⟩;obtain⟨e,y⟩:=y;subst e y;have hi':i<n:=by simpa using hi
 exact⟨aM.refl _,_,by simp[bg,qq hi'],.int _⟩
section
variable {X:Cx}{E:XK}{tg e a b c:Expr}{f:Zaf}{fs:Zae}{fa:Me->Res (D×Me)}{p pos:Pos}
theorem YL (hg:Gl X "range")(hm:X.mg "range" = none)(ha:FAB X E [a,b,c] fs)(hs:ag [a,b,c] X.env=[(false,eval a X.env),(false,eval b X.env),(false,eval c X.env)]:=by rfl)(hs2:ag [b,c] X.env=[(false,eval b X.env),(false,eval c X.env)]:=by rfl):FI X E tg (.Call (.Name "range" p) [a,b,c] [] pos) (Y7 fs):=
 rE (RX hg hm ha hs hs2) λσ H R hE=>xq5 hE λO0 M0 H0 ow m Re q=>⟨O0,M0,H0,ow,m,Re,q.bind.imp (aM.refl _) λds q vs H' g hv=>by
  split at q
  ·cases hv with
   |cons h1 t=>cases t with
    |cons h2 t=>cases t with
     |cons h3 t=>
      cases t;cases bU h1;cases bU h2;cases bU h3;obtain⟨⟨z1,z2,z3,z4⟩,k⟩:=Gn q;exact⟨_,_,rfl,⟨z1,z2,z3,z4⟩,k _ H' g X7⟩
  ·exact q.elim⟩
noncomputable def Kd (f:Me->Res (D×Me))(h:Zbb):Zac:=λm=>(f m).bind λp=>(ofO<|h p.1 p.2).bind λm'=>.ok (.nx,m')
theorem Ys (he:FX X E e fa)(hg:FG X k tg h)(hs:oT [tg] e pos.line X.env=pure false:=by rfl)(hw:pd [tg] e X.env=pure none:=by rfl)
  (h1:(ka [tg] X.env).map (·.2)=[xi tg X.env]:=by rfl):FS X E (.Assign [tg] e pos) (Kd fa h):=cH (Ui he hg hs hw h1) λW σ H hE=>xq5 hE λO0 M0 H0 ow m R q=>by
 refine⟨O0,M0,H0,ow,m,R,(Xs.ss (k:=λd m'=>(ofO<|h d m').bind λm'=>.ok (.nx,m')) q).imp (Go.refl<|aM.refl _) λd H1 m1 R1 g1 e1 q v hv=>?_⟩;obtain⟨m',e,q⟩:=Ss.ofO<|q m1 e1 R1;exact⟨O0,M0,H0,ow,m1,d,m',R1.toRel,hv,e,λow' σ' R' g2 nb _=>q _ _ _ ⟨R',nb R1.nb⟩ g2⟩
def Jv (i:Nat):Me->Res (D×Me):=λm=>(ofO<|pB m i).bind λo=>(ofO<|o.2[o.2.length-1]?).bind λd=>.ok (d,putL m i o.1 o.2.dropLast)
theorem abH (i:Nat)(hN:X.N[i]? = some x:=by rfl)(hv:Vis X.env.scope x:=by first|exact eC rfl|exact eB (eC rfl)|exact eB (eB rfl))(hd:(x==("__debug__":Str))=false:=by decide)(hcd:(x==("__classdict__":Str))=false:=by decide)
  (ζ:gT (.Name x np) "pop" X.env (eval (.Name x np) X.env)=eval (.Name x np) X.env:=by rfl) (ν:(apos.endLine==ρ.line)=true:=by rfl):
  FX X E (.Call (.Attribute (.Name x np) "pop" apos) [] [] ρ) (Jv i):=
 bG (LK iE x9 ya VD (iy hN hv hd hcd) ζ ν) λσ H Q hE=>xq5 hE λO0 M0 H0 ow m R q=>by
  obtain⟨o,ho,q⟩:=(Xs.pu R.toRel q).ofO;obtain⟨k,ds⟩:=o;obtain⟨d,hd',q⟩:=(Xs.pu R.toRel q).ofO;refine xn (uH R.toRel ho) λa xs e1 e2 e3 e4 e5=>?_;obtain⟨v,hv,dv⟩:=xZ e4 hd';obtain⟨R2,g2⟩:=R.put (es:=ds.dropLast) (ys:=xs.dropLast) e1 e5<|yM e4;have dv2:=dv.go R.mutk g2.ev;exact⟨_,e2,.inl ⟨rfl,xs,SqL.of e3⟩,a,xs,v,rfl,rfl,e3,by rw[bT e4];exact hv,q _ R2 g2 _ dv2⟩
end
def Rb (i:Nat)(fk fv:Zaf):Me->Res (D×Me):=λm=>(ofO<|Bd m i).bind λo=>(fk m).bind λk=>(fv m).bind λd=>(ofO<|xY k).bind λk=>
 if o.2.1.length<av then .ok (match d9 o.2.1 o.2.2 k with|some d'=>(d',m)|none=>(d,rB m i o.1 (o.2.1++[k])<|o.2.2++[d])) else .stuck
section
theorem abt (i:Nat)(hr:fZ jj X.A)(hk:FE X E ke fk)(he:FE X E e f)(hm:M2 X (.Name x np) "setdefault" apos ke e ρ)(hN:X.N[i]? = some x:=by rfl)(hv:Vis X.env.scope x:=by first|exact eC rfl|exact eB (eC rfl)|exact eB (eB rfl))(hd:(x==("__debug__":Str))=false:=by decide)(hcd:(x==("__classdict__":Str))=false:=by decide):
  FX X E (.Call (.Attribute (.Name x np) "setdefault" apos) [ke,e] [] ρ) (Rb i fk f):=
 bG (Wl (oN hr) (iy hN hv hd hcd) hk he hm) λσ H Q hE=>xq5 hE λO0 M0 H0 ow m R q=>by
  obtain⟨o,ho,q⟩:=(Xs.pu R.toRel q).ofO;obtain⟨k,ks,ds⟩:=o;refine Ke (Jc R.toRel ho) λa ι e1 e2 e3 e4 e5 e6=>?_;refine⟨_,e2,a,rfl,.inr ⟨ι,.inl e3⟩,O0,M0,H0,ow,m,R.toRel,(Xs.pu R.toRel q).imp (aM.refl _) λdk q vk H1 g1 hvk=>?_⟩;have R1:=R.mono g1;refine⟨O0,M0,H0,ow,m,R1.toRel,(Xs.pu R.toRel q).imp g1 λd q v H2 g2 hv=>?_⟩;have R2:=R1.mono g2;obtain⟨ky,h1,q⟩:=(Xs.pu R.toRel q).ofO;obtain⟨b,rfl,hb⟩:=wJ (.inl<|hvk.mono g2) h1;have e3':=g2 _ _<|g1 _ _ e3;have e5':=(e5.mono g1).mono g2;by_cases hz:ks.length<av
  ·rw[if_pos hz] at q;rcases BL (k:=ky) e5' with⟨v',d',va,vb,dv⟩|⟨va,vb⟩
   ·rw[e4] at vb;have q':=q;rw[vb] at q';refine⟨ι,ky,b,e3',rfl,hb,by rw[← cp (f:=(·.1)),e4];exact hz,λw ev=>?_,λev=>?_⟩
    ·rw[va] at ev;cases ev;exact q' _ R2 (Go.refl<|g1.trans g2) _ dv
    ·rw[va] at ev;cases ev
   ·rw[e4] at vb;have q':=q;rw[vb] at q';refine⟨ι,ky,b,e3',rfl,hb,by rw[← cp (f:=(·.1)),e4];exact hz,λw ev=>?_,λev=>?_⟩
    ·rw[va] at ev;cases ev
    ·obtain⟨R3,g3⟩:=R2.rB (ls:=ks++[ky]) (es:=ds++[d]) (ι:=ι++[(ky,v)]) e1 e6 (by simp[e4]) (by rw[dE];exact j7 e5'<|.cons hv .nil);exact q' _ R3 ((Go.refl<|g1.trans g2).trans g3) _<|hv.go R2.mutk g3.ev
  ·rw[if_neg hz] at q;exact q.elim
theorem ZF:seqRepeat? (.type "int")=pure none:=by rfl
theorem RB (hok:MulOk x n)(h:∀t' k,Q (.str (B1 x n) t') { s with toks:=k }):
  bp (b6 prog w) A (hJ .Mult (.int n u)<|.str x t) Q E s:=by
 have post:(if n<1 then Made.str BN else if(n==1||x.length==0)=true then Made.val (.str x t) else Made.str ⟨(bP n.toNat x.cps).foldl (· ++ ·) #[]⟩).post Q s:=by
  unfold B1 at h;by_cases h1:n<1
  ·rw[if_pos h1];have h':=h s.toks<|s.toks+1;rw[if_pos h1] at h';exact⟨by decide,h'⟩
  ·rw[if_neg h1];refine post_val_or_made (λhc=>fits_reps<|hok.2.2 h1<|by simpa using hc) λt' k=>?_;have h':=h t' k;rw[if_neg h1] at h';exact h'
 unfold hJ;refine gS ?_;refine ae ?_;simp only[Operator.info,binaryOp1];refine ae<|mf (tj s n u)<|ae<|mf (sT s x t)<|ae<|qr PySem.F.fills_int_mul ?_;simp only[show(BS "int"==BS "str")=false by decide,fT,if_false];refine ae<|qr noFill_str_mul ?_;simp only[pure_bind,Bool.true_and,Bool.false_and,Bool.and_false,fT,if_false,if_true,Bool.not_false,Bool.and_self];refine ae<|wpAny_tryMethod_declines (tj s n u) y9<|call_gives y9 (tj s n u) PySem.F.entry_int_mul (PySem.F.args_int_mul_2 _ _) (AutoIntG3.int___mul___int_str_0 n u x t) ?_;refine⟨rfl,?_⟩;refine ai ?_;refine ae<|mf (tj s n u) ?_;refine ae<|qr ZF ?_;refine ae<|mf (sT s x t) ?_;refine ae<|qr repeat_str ?_;unfold sequenceRepeat;refine ae<|j3 (tj s n u) PySem.F.slot_int_index.lookup ?_;refine ae<|pf ?_;exact call_gives PySem.F.slot_str_mul (sT s x t) PySem.F.entry_str_mul (PySem.F.args_str_mul_2 _ _) (gives_str_mul x n t u hok.1 hok.2.1 hok.2.2) post
noncomputable def QB:D->D->Option D
 | .int n,.str z=>if 0<=n/\n<=1000/\z.length<=1000 then some (.str<|B1 z n) else none
 |_,_=>none
theorem WL:OpR X (hJ .Mult) (rG (gx X) QB):=by
 intro π s σ H x y v u Q I rx ry h;refine wg h λO d e r m hx hy hr q=>?_;unfold QB at hr;split at hr
 ·rename_i n z;obtain⟨⟨h0,h1,hz⟩,rfl⟩:=oif hr;cases bU hx;cases nC hy;obtain⟨t,rfl⟩:=rx;obtain⟨t2,rfl⟩:=ry;exact RB (mulOk_of h0 h1 hz) λt' k=>Rf (tk:=k) I q
 ·cases hr
end
end F
namespace L2
open PySem PySem.Spec PyProof.Rows
theorem Tq (χ:List aw):slicePick χ.toArray none none (some (-1))=χ.reverse.toArray:=by
 unfold slicePick;have h:kT none none (some (-1)) χ.toArray.size=((χ.length:Int)-1,-1,-1):=by simp[kT]
 rw[h];congr 1;have hr:sliceRange ((χ.length:Int)-1) (-1) (-1)=(cx χ.length).map λ(k:Nat)=>χ.length-1-k:=by
  unfold sliceRange;rw[if_neg<|by decide];have hc:(if(χ.length:Int)-1 > -1 then((χ.length:Int)-1 - -1 - -1-1)/(- -1) else 0).toNat=χ.length:=by
   rw[show(- -1:Int)=1 by decide,Bz];split<;>lia
  show(cx (if(χ.length:Int)-1 > -1 then((χ.length:Int)-1 - -1 - -1-1)/(- -1) else 0).toNat).map _=_;rw[hc];refine kG λk _=>?_
  lia
 show List.filterMap _ (sliceRange ((χ.length:Int)-1) (-1) (-1))=_;rw[hr,List.filterMap_map];apply List.ext_getElem?;intro i;have e:∀l:List Nat,(∀k∈l,k<χ.length)->l.filterMap ((λk=>χ.toArray[k]?)∘λ(k:Nat)=>χ.length-1-k)=l.map λk=>χ.getD (χ.length-1-k) .none:=by
  intro l hl;induction l with
  |nil=>rfl
  |cons k l ih=>
   have hk:=hl k<|ar ..;have e1:((λk=>χ.toArray[k]?)∘λ(k:Nat)=>χ.length-1-k) k=some (χ.getD (χ.length-1-k) .none):=by
    simp[dc,a9<|show χ.length-1-k<χ.length by lia]
   rw[List.filterMap_cons_some e1,aE,ih λj hj=>hl j<|ah _ hj]
 rw[e _ (λk hk=>by simpa using hk),bg];by_cases hi:i<χ.length
 ·rw[qq hi,List.getElem?_reverse hi];simp[dc,a9<|show χ.length-1-i<χ.length by lia]
 ·rw[og (by simp;lia),og (by simp;lia)];rfl
section
variable {X:Cx}{e st:Expr}{te:TE}{tst:TO}{p2 pos:Pos}
def tDn (K:a7)(te:TE)(tst:TO):TE:=λσ H Q=>te σ H λx H1=>tst σ H1 λk H2=>k=some (-1)/\∃a xs,x=.ref a/\SqL K H2 a xs/\∀p,H2 p=none->Q (.ref p) (upd H2 p<|.lst xs.reverse)
theorem adL (he:PE X e te)(hst:PO X (some st) tst):PE X (.Subscript e (.Slice none none (some st) p2) pos) (tDn X.K te tst):=by
 intro π s σ H Q I h;refine A3<|thn (he π s σ H _ I h) λv s1 hE=>xq2 hE λx H1 I1 r1 q1=>?_;refine wpAny_Slice ?_;rw[AM];refine ai ?_;refine ai ?_;refine thn (hst π s1 σ H1 _ I1 q1) λvk s3 hE=>?_;refine Ae hE λk H3 I3 pk q3=>?_;obtain⟨rfl,a,xs,rfl,hx,q⟩:=q3;cases r1;have I4:Inv X π σ H3 { s3 with heap:=s3.heap.push { cls:=.type "slice",data:=.fields #[.none,.none,vk] } }:=I3.kept (t':=s3.toks) λb ob q=>af _ q;obtain⟨χ,r,ht,hz⟩:=I4.list hx;have ω:=r.length;have hg:bp (b6 X.prog X.w) X.A (xA (.ref a)<|.ref s3.heap.objs.size) (EP X π σ Q) X.xe { s3 with heap:=s3.heap.push { cls:=.type "slice",data:=.fields #[.none,.none,vk] } }:=by
  refine tf ht.isList (AN ..) .none .none pk (by decide) ?_ (by rw[a8]<;>lia);rw[Tq];refine⟨.ref _,_,I4.laid (t':=s3.toks) (o:=.lst xs.reverse) (λb ob q=>af _ q) (aI _) ?_,rfl,q _<|I4.hok.fresh<|aI _⟩;exact⟨by rw[List.length_reverse];exact hz,_,0,r.reverse,aT _ rfl⟩
 show bp (b6 X.prog X.w) X.A (uu e (.Slice none none (some st) p2) (.ref a)<|.ref s3.heap.objs.size) (EP X π σ Q) X.xe { s3 with heap:=s3.heap.push { cls:=.type "slice",data:=.fields #[.none,.none,vk] } };exact tail_any (ops:=[.ref a,.ref s3.heap.objs.size]) ht.isList.typeIs sR.lookup hg<|by with_unfolding_all rfl
end
end L2
namespace F
open PySem PySem.Spec PyProof.Rows L2 Hd
section
variable {X:Cx}{E:XK}{e st:Expr}{f:Zaf}{fk:Me->Res (Option Int)}{p2 pos:Pos}
def acr (f:Zaf)(fk:Me->Res (Option Int)):Zaf:=λm=>(f m).bind λd=>(fk m).bind λk=>match d,k with
 | .lst ds,some (-1)=>.ok<|.lst ds.reverse
 |_,_=>.stuck
theorem abd (he:FB X E e f)(hk:FO X E (some st) fk):FN X E (.Subscript e (.Slice none none (some st) p2) pos) (acr f fk):=
 bG (adL he hk) λσ H Q hE=>xq5 hE λO0 M0 H0 ow m R q=>⟨O0,M0,H0,ow,m,R,q.bind.imp (aM.refl _) λd q v H1 g1 hv=>⟨O0,M0,H0,ow,m,R.mono g1,q.bind.imp g1 λk q H2 g2=>by
  match d,k,hv,q with
  | .lst ds,some (-1),hv,q=>
   obtain⟨p,xs,rfl,hp,hd⟩:=jf<|hv.mono g2;exact⟨rfl,p,xs,rfl,hp,λp hp'=>q p _ ((g1.trans g2).trans<|bL hp' _) ((g1.trans g2).free hp') ⟨_,aZ,((HW hd).cL λb z=>z.elim .inl λe=>.inr (by rw[e];exact hp')).mono<|bL hp' _⟩⟩⟩⟩
end
end F
namespace Pk
open PySem L2 Hd F
section
def lC:Zba:=
 (aJ gNe (aa 3)<|fC<|.int 0)
def lA:Zac:=
 (aL (bu 4<|az cI (aa 2)<|aa 3)
 (aL (bu 2<|aK 3)
 (bu 3<|aK 4)))
def qR:Zac:=
 (qu lC lA)
def nu (l_3:Zac):Zac:=
 (aL (bu 2<|aR zY<|aj (aa 0) aC)
 (aL (bu 3<|aR zY<|aj (aa 1) aC)
 (aL l_3
 (bc<|aK 2))))
def mX:Zac:=
 (nu qR)
def jA:Zad:=aX 5 2 mX
def yx (φ_common_divisor:Zad):Zac:=
 (aL (bu 2<|fFn φ_common_divisor<|aj (aK 0)<|aj (aK 1) aC)
 (aL (gIf (aJ gLt (aa 1)<|fC<|.int 0) (bu 2<|fUn vO<|aa 2) gNx)
 (bc<|bJ<|aj (az gJ (aa 0)<|aa 2)<|aj (az gJ (aa 1)<|aa 2) aC)))
def yC:Zac:=
 (yx jA)
def sY:Zad:=aX 3 2 yC
def M5 (φ_lowest:Zad):Zac:=
 (bc<|fFn φ_lowest<|aj (az eN (az pZ (az gIx (aa 0)<|fC<|.int 0)<|az gIx (aa 1)<|fC<|.int 1)<|az pZ (az gIx (aa 1)<|fC<|.int 0)<|az gIx (aa 0)<|fC<|.int 1)<|aj (az pZ (az gIx (aa 0)<|fC<|.int 1)<|az gIx (aa 1)<|fC<|.int 1) aC)
def Nx:Zac:=
 (M5 sY)
def HH:Zad:=aX 2 2 Nx
def IK:Zac:=
 (bc<|iV gLt (az pZ (az gIx (aa 0)<|fC<|.int 0)<|az gIx (aa 1)<|fC<|.int 1)<|az pZ (az gIx (aa 1)<|fC<|.int 0)<|az gIx (aa 0)<|fC<|.int 1)
def Ia:Zac:=
 IK
def Bl:Zad:=aX 2 2 Ia
def zy:Zac:=
 (bu 1<|fFn HH<|aj (aK 1)<|aj (aK 2) aC)
def FJ:Zac:=
 (eQ (cZ<|aK 0) (hName 2) zy)
def Hx (l_2:Zac):Zac:=
 (aL (bu 1<|fC<|.tup [(.int 0),(.int 1)])
 (aL l_2
 (bc<|aK 1)))
def HJ:Zac:=
 (Hx FJ)
def BP:Zad:=aX 3 1 HJ
def pF:Zaf:=
 (cD 2 [] (jk<|az gIx (aa 0)<|fUn vO<|fC<|.int 1) (fJ 2<|aW (hName 0)<|aW (hName 1) fP) gV<|aK 1)
def iZ (l_1:Zaf):Zac:=
 (aL (gIf (aJ gEq (az gIx (aa 0)<|fC<|.int 0)<|fC<|.str "end") (jW<|gO aC) gNx)
 (jW l_1))
def xj:Zac:=
 (iZ pF)
def jZ:Zad:=aX 1 1 xj
def sI:Zaf:=
 (bJ<|aj (az eN (az gIx (aa 2)<|fC<|.int 0)<|bJ<|aj (aK 0) aC)<|aj (aK 1) aC)
def oA:Zaf:=
 (cD 2 [3] (acP<|aj (fFn jZ<|aj (az gIx (aa 3)<|fC<|.int 1) aC) aC) (fJ 2<|aW (hName 0)<|aW (hName 1) fP) gV sI)
def nZ:Zba:=
 (aJ gGt (aR dC<|aj (aa 2) aC)<|fC<|.int 0)
def ou:Zac:=
 (aL (HY 3 2)
 (aL (dU 1<|aK 3)
 (aL (bu 4 oA)
 (Ip 2<|aR Us<|aj (aa 4) aC))))
def Eu:Zac:=
 (qu nZ ou)
def rC (l_5:Zac):Zac:=
 (aL (gQ 1<|gO aC)
 (aL (gQ 2<|gO<|aj (bJ<|aj (bJ aC)<|aj (aK 0) aC) aC)
 (aL l_5
 (uV 1))))
def Ag:Zac:=
 (rC Eu)
def jm:Zad:=aX 5 1 Ag
def uR:Zaf:=
 (cD 2 [] (jk<|az gIx (aa 0)<|fC<|.int 3) (fJ 2<|aW (hName 0)<|aW (hName 1) fP) gV<|aK 0)
def xG (l_1:Zaf):Zac:=
 (bc<|aR nM<|aj l_1 aC)
def xW:Zac:=
 (xG uR)
def uv:Zad:=aX 1 1 xW
def iu:Zac:=
 (aL (gIf (aJ gNe (az gIx (aa 0)<|fC<|.int 0)<|fC<|.str "move") (bc<|aK 1) gNx)
 (aL (bu 3<|bJ<|aj (az gIx (aa 0)<|fC<|.int 2)<|aj (az gIx (az gIx (az gIx (aa 0)<|fC<|.int 3)<|aa 2)<|fC<|.int 0) aC)
 (aL (gIf (aJ gEq (az gIx (aa 0)<|fC<|.int 1)<|fC<|.int 1) (bc<|bJ<|aj (az eN (az gIx (aa 1)<|fC<|.int 0)<|bJ<|aj (aK 3) aC)<|aj (az gIx (aa 1)<|fC<|.int 1) aC) gNx)
 (bc<|bJ<|aj (az gIx (aa 1)<|fC<|.int 0)<|aj (az eN (az gIx (aa 1)<|fC<|.int 1)<|bJ<|aj (aK 3) aC) aC))))
def iw:Zac:=
 iu
def fj:Zad:=aX 4 3 iw
def cX:Zac:=
 (Gg 1 (az eN (aa 3)<|bJ<|aj (aK 5) aC)<|fFn fj<|aj (aK 4)<|aj (az J0 (aa 1)<|aa 3)<|aj (aK 5) aC)
def ig:Zac:=
 (eQ (uW<|aj (aR dC<|aj (fFn jZ<|aj (aK 4) aC) aC) aC) (hName 5) cX)
def bA:Zac:=
 (aL (dU 2<|bJ<|aj (aK 3)<|aj (aK 4)<|aj (az J0 (aa 1)<|aa 3) aC)
 ig)
def lO:Zac:=
 (eQ (cZ<|fFn jm<|aj (aK 0) aC) (fJ 2<|aW (hName 3)<|aW (hName 4) fP) bA)
def fY (l_4:Zac):Zac:=
 (aL (gQ 1<|Ma (bJ aC)<|bJ<|aj (bJ aC)<|aj (bJ aC) aC)
 (aL (gQ 2<|gO aC)
 (aL l_4
 (uV 2))))
def mO:Zac:=
 (fY lO)
def cQ:Zad:=aX 6 1 mO
def zj (φ_words_at:Zad):Zac:=
 (bc<|bJ<|aj (az gIx (aa 0)<|fC<|.int 1)<|aj (az gIx (aa 0)<|fC<|.int 2)<|aj (fFn φ_words_at<|aj (aK 0) aC)<|aj (az gIx (aa 1)<|az lV (az gIx (aa 0)<|fC<|.int 1)<|fC<|.int 1) aC)
def yX:Zac:=
 (zj uv)
def sW:Zad:=aX 2 2 yX
def iQ:Zac:=
 (gIf (aJ gEq (az gIx (aa 3)<|fC<|.int 0)<|fC<|.str "move") (Y5 1 (bJ<|aj (az gIx (aa 3)<|fC<|.int 1)<|aj (az gIx (aa 3)<|fC<|.int 2) aC)<|fFn sW<|aj (aK 3)<|aj (aK 4) aC) gNx)
def za:Zac:=
 (eQ (cZ<|fFn cQ<|aj (aK 0) aC) (fJ 3<|aW (hName 2)<|aW (hName 3)<|aW (hName 4) fP) iQ)
def uQ (l_2:Zac):Zac:=
 (aL (gQ 1 Aa)
 (aL l_2
 (jW<|NK<|aa 1)))
def Dq:Zac:=
 (uQ za)
def uD:Zad:=aX 5 1 Dq
def vD:Zaf:=
 (cD 1 [1] (cZ<|fFn uD<|aj (aK 0) aC) (hName 0) (aJ gEq (az gIx (aa 0)<|fC<|.int 0)<|aa 1)<|aK 0)
def zx (l_1:Zaf):Zac:=
 (jW l_1)
def zr:Zac:=
 (zx vD)
def wQ:Zad:=aX 2 2 zr
def pq:Zaf:=
 (aR dC<|aj (az gIx (aa 0)<|fC<|.int 2) aC)
def pK:Zaf:=
 (cD 1 [] (cZ<|aa 0) (hName 0) gV pq)
def sJ (l_2:Zaf):Zac:=
 (bc<|aR RL<|aj l_2 aC)
def sO:Zac:=
 (sJ pK)
def nT:Zad:=aX 1 1 sO
def nH:Zaf:=
 (cD 2 [] (jk<|az gIx (aa 0)<|fC<|.int 2) (fJ 2<|aW (hName 0)<|aW (hName 1) fP) gV<|aK 0)
def qF (l_1:Zaf):Zac:=
 (aL (gIf (aJ gEq (az gIx (aa 0)<|fC<|.int 0)<|fC<|.str "end") (jW<|gO<|aj (az gIx (aa 0)<|fC<|.int 1) aC) gNx)
 (aL (gIf (aJ gEq (az gIx (aa 0)<|fC<|.int 0)<|fC<|.str "deal") (jW l_1) gNx)
 (jW<|gO aC)))
def qQ:Zac:=
 (qF nH)
def dg:Zad:=aX 1 1 qQ
def uI:Zac:=
 (bc<|fOr (iV gGt (aR zY<|aj (az gIx (aa 0)<|fC<|.int 0) aC)<|fC<|.int 999999999999)<|iV gGt (az gIx (aa 0)<|fC<|.int 1)<|fC<|.int 999)
def uA:Zac:=
 uI
def qy:Zad:=aX 1 1 uA
def qH:Zaf:=
 (fFn Bl<|aj (fC<|.tup [(.int 0),(.int 1)])<|aj (aK 0) aC)
def qz:Zaf:=
 (cD 1 [] (cZ<|aa 0) (hName 0) gV qH)
def uz (φ_total:Zad)(l_2:Zaf):Zac:=
 (bc<|vz (aR Tw<|aj l_2 aC)<|iV gEq (fFn φ_total<|aj (aK 0) aC)<|fC<|.tup [(.int 1),(.int 1)])
def uE:Zac:=
 (uz BP qz)
def qb:Zad:=aX 1 1 uE
end
end Pk
namespace Lw
open PySem L2 Hd F Pk
section
def lW:Zac:=
 (aL (gIf (aJ gLt (aa 1)<|aR dC<|aj (aa 0) aC) (bc<|az gIx (aa 0)<|aa 1) gNx)
 (bc<|fC<|.int 0))
def lR:Zac:=
 lW
def g8:Zad:=aX 2 2 lR
def pG:Zba:=
 (aJ gNe (aa 3)<|fC<|.int 0)
def pO:Zac:=
 (acY 2 3<|aj (aK 3)<|aj (az cI (aa 2)<|aa 3) aC)
def vg:Zac:=
 (qu pG pO)
def sy (l_3:Zac):Zac:=
 (aL (bu 2<|aR zY<|aj (aa 0) aC)
 (aL (bu 3<|aK 1)
 (aL l_3
 (bc<|bJ<|aj (az gJ (aa 0)<|aa 2)<|aj (az gJ (aa 1)<|aa 2) aC))))
def rZ:Zac:=
 (sy vg)
def jc:Zad:=aX 4 2 rZ
def jU:Zac:=
 (aL (dU 4<|az cI (aa 0)<|fC<|.int 36)
 (bu 0<|az gJ (aa 0)<|fC<|.int 36))
def rP:Zac:=
 (eQ (uW<|aj (aa 3) aC) (hName 5) jU)
def su:Zaf:=
 (az gIx (aa 1)<|aa 0)
def rY:Zaf:=
 (cD 1 [2] (cZ<|aa 4) (hName 0) gV su)
def oE:Zaf:=
 (fSl (az QB (fC<|.int 8)<|aa 1) fO0<|fO1<|aa 0)
def sG:Zaf:=
 (cD 1 [6] (Qo<|aj (fC<|.int 1)<|aj (fC<|.int 9) aC) (hName 0) gV oE)
def j4:Zac:=
 (aL (bu 9<|az gIx (aa 2)<|az cI (az eN (az gIx (aa 4)<|aa 7)<|az pZ (fC<|.int 4)<|aa 5)<|fC<|.int 36)
 (dU 8<|az eN (az eN (fSl (aa 6) fO0<|fO1<|aa 7)<|aa 9)<|fSl (aa 6) (fO1<|az eN (aa 7)<|fC<|.int 1) fO0))
def xu:Zac:=
 (eQ (uW<|aj (fC<|.int 8) aC) (hName 5) j4)
def lG (l_2:Zac)(l_4:Zaf)(l_6:Zaf)(l_8:Zac):Zac:=
 (aL (bu 2<|fC<|.str "abcdefghijklmnopqrstuvwxyz0123456789")
 (aL (bu 3<|az eN (fC<|.int 1)<|az cI (aa 0)<|fC<|.int 8)
 (aL (bu 0<|az gJ (aa 0)<|fC<|.int 8)
 (aL (gQ 4<|gO aC)
 (aL l_2
 (aL (bu 6<|Qv "str" Fj (fC<|.str "") (aj l_4 aC))
 (aL (gIf (aJ gEq (az cI (az gJ (aa 1)<|fC<|.int 8)<|fC<|.int 3)<|fC<|.int 1) (jW l_6) gNx)
 (aL (bu 7<|az cI (aa 1)<|aa 3)
 (aL (gQ 8<|gO aC)
 (aL l_8
 (uV 8)))))))))))
def Am:Zac:=
 (lG rP rY sG xu)
def rn:Zad:=aX 10 2 Am
def ye:Zac:=
 (bc<|az cI (az pZ (az eN (az cI (aa 0)<|fC<|.int 2147483647)<|fC<|.int 1)<|az eN (fC<|.int 48271)<|az pZ (fC<|.int 7)<|aa 1)<|fC<|.int 2147483647)
def yd:Zac:=
 ye
def m6:Zad:=aX 2 2 yd
def pP:Zaf:=
 (bJ<|aj (aK 1)<|aj (aK 2) aC)
def pH:Zaf:=
 (cD 2 [5] (jk<|az gIx (aa 4)<|fC<|.int 2) (fJ 2<|aW (hName 0)<|aW (hName 1) fP) gV pP)
def iY:Zac:=
 (aL (gQ 9<|aR Q5<|aj (aa 5) aC)
 (aL (yj 9 (az lV (az gIx (aa 4)<|fC<|.int 1)<|fC<|.int 1)<|az eN (az gIx (aa 9)<|az lV (az gIx (aa 4)<|fC<|.int 1)<|fC<|.int 1)<|bJ<|aj (bJ<|aj (az gIx (aa 4)<|fC<|.int 2)<|aj (aK 7) aC) aC)
 (dU 6<|bJ<|aj (aK 8)<|aj (aR nM<|aj (aa 9) aC) aC)))
def o9:Zac:=
 (eQ (jk<|az gIx (aa 4)<|fC<|.int 3) (fJ 2<|aW (hName 7)<|aW (hName 8) fP) iY)
def j5:Zac:=
 (dU 2<|bJ<|aj (az eN (aa 3)<|bJ<|aj (aK 10) aC)<|aj (az gIx (az gIx (aa 6)<|aa 10)<|fC<|.int 0)<|aj (az gIx (az gIx (aa 6)<|aa 10)<|fC<|.int 1) aC)
def pM:Zac:=
 (eQ (Y7<|aj (az lV (aR dC<|aj (aa 6) aC)<|fC<|.int 1)<|aj (fUn vO<|fC<|.int 1)<|aj (fUn vO<|fC<|.int 1) aC) (hName 10) j5)
def kj:Zba:=
 (aJ gGt (aR dC<|aj (aa 2) aC)<|fC<|.int 0)
def gq:Zac:=
 (aL (Kd (Jv 2)<|fJ 3<|aW (hName 3)<|aW (hName 4)<|aW (hName 5) fP)
 (aL (dU 1<|bJ<|aj (aK 3)<|aj (aK 4)<|aj (aK 5) aC)
 (aL (gQ 6<|gO aC)
 (aL (gIf (aJ gEq (az gIx (aa 4)<|fC<|.int 0)<|fC<|.str "deal") (gQ 6 pH) gNx)
 (aL (gIf (aJ gEq (az gIx (aa 4)<|fC<|.int 0)<|fC<|.str "move") o9 gNx)
 pM)))))
def Bf:Zac:=
 (qu kj gq)
def oF (l_9:Zac):Zac:=
 (aL (gQ 1<|gO aC)
 (aL (gQ 2<|gO<|aj (bJ<|aj (bJ aC)<|aj (aK 0)<|aj (bJ<|aj (bJ aC)<|aj (bJ aC) aC) aC) aC)
 (aL l_9
 (uV 1))))
def wZ:Zac:=
 (oF Bf)
def gD:Zad:=aX 11 1 wZ
def qK:Zaf:=
 (cD 2 [] (jk<|az gIx (aa 4)<|fC<|.int 3) (fJ 2<|aW (hName 0)<|aW (hName 1) fP) gV<|aK 0)
def eF:Zac:=
 (gIf (ji (aJ gEq (az gIx (aa 4)<|fC<|.int 0)<|fC<|.str "move")<|aJ Ka (bJ<|aj (az gIx (aa 4)<|fC<|.int 1)<|aj (az gIx (aa 4)<|fC<|.int 2) aC)<|aa 2) (aL (Gg 2 (bJ<|aj (az gIx (aa 4)<|fC<|.int 1)<|aj (az gIx (aa 4)<|fC<|.int 2) aC)<|fC<|.bl true)
 (aL (bu 6<|aR nM<|aj qK aC)
 (dU 1<|bJ<|aj (az gIx (aa 4)<|fC<|.int 1)<|aj (az gIx (aa 4)<|fC<|.int 2)<|aj (aK 6)<|aj (az gIx (aa 5)<|az lV (az gIx (aa 4)<|fC<|.int 1)<|fC<|.int 1) aC))) gNx)
def qM:Zac:=
 (eQ (cZ<|fFn gD<|aj (aK 0) aC) (fJ 3<|aW (hName 3)<|aW (hName 4)<|aW (hName 5) fP) eF)
def uG (l_3:Zac):Zac:=
 (aL (gQ 1<|gO aC)
 (aL (gQ 2 Aa)
 (aL l_3
 (uV 1))))
def uJ:Zac:=
 (uG qM)
def gC:Zad:=aX 7 1 uJ
def wz:Zac:=
 (bc<|wF "str" (aa 0))
def v8:Zac:=
 wz
def gZ:Zad:=aX 1 1 v8
def lE:Zac:=
 (gIf (dY (dJ<|fTv<|wF "tuple" (aa 1))<|dY (aJ gNe (aR dC<|aj (aa 1) aC)<|fC<|.int 2)<|dY (dJ<|fTv<|fFn gZ<|aj (az gIx (aa 1)<|fC<|.int 0) aC)<|dJ<|fTv<|fFn gZ<|aj (az gIx (aa 1)<|fC<|.int 1) aC) (bc<|fC<|.bl false) gNx)
def qL:Zac:=
 (eQ (jk<|aK 0) (hName 1) lE)
def nQ (l_2:Zac):Zac:=
 (aL (gIf (dJ<|fTv<|wF "tuple" (aa 0)) (bc<|fC<|.bl false) gNx)
 (aL l_2
 (bc<|fC<|.bl true)))
def nD:Zac:=
 (nQ qL)
def jC:Zad:=aX 2 1 nD
def mj:Zaf:=
 (fFn gZ<|aj (aK 0) aC)
def lY:Zaf:=
 (cD 1 [] (jk<|az gIx (aa 1)<|fC<|.int 2) (hName 0) gV mj)
def mK:Zac:=
 (aL (gIf (dY (dJ<|fTv<|wF "tuple" (aa 1))<|dY (aJ gNe (aR dC<|aj (aa 1) aC)<|fC<|.int 4)<|dY (dJ<|fTv<|wF "int" (az gIx (aa 1)<|fC<|.int 0))<|fTv<|wF "bool" (az gIx (aa 1)<|fC<|.int 0)) (bc<|fC<|.bl false) gNx)
 (aL (gIf (dY (dJ<|fTv<|fFn gZ<|aj (az gIx (aa 1)<|fC<|.int 1) aC)<|dY (dJ<|fTv<|wF "tuple" (az gIx (aa 1)<|fC<|.int 2))<|dJ<|fTv<|fFn jC<|aj (az gIx (aa 1)<|fC<|.int 3) aC) (bc<|fC<|.bl false) gNx)
 (gIf (dJ<|fTv<|aR Tw<|aj lY aC) (bc<|fC<|.bl false) gNx)))
def qX:Zac:=
 (eQ (cZ<|aK 0) (hName 1) mK)
def pL (l_4:Zac):Zac:=
 (aL (gIf (dJ<|fTv<|wF "list" (aa 0)) (bc<|fC<|.bl false) gNx)
 (aL l_4
 (bc<|fC<|.bl true)))
def pJ:Zac:=
 (pL qX)
def j6:Zad:=aX 2 1 pJ
end
end Lw
namespace Hd
noncomputable def gI (a b:Int):Int:=(sM a b:Nat)
theorem QH (ha:0<=a)(hb:0<b):gI b (a%b)=gI a b:=by
 unfold gI sM;have e:(a%b).natAbs=a.natAbs%b.natAbs:=by
  obtain⟨n,rfl⟩:=vx ha;obtain⟨m,rfl⟩:=vx<|Int.le_of_lt hb;rfl
 rw[e,BD a.natAbs b.natAbs,Nat.gcd_rec b.natAbs a.natAbs,BD]
theorem QW (ha:0<=a):gI a 0=a:=by
 unfold gI;rw[Int.gcd_zero_right]
 lia
theorem Xb (a b:Int):gI (if a<0 then -a else a) (if b<0 then -b else b)=gI a b:=by
 unfold gI sM;have h:∀x:Int,(if x<0 then -x else x).natAbs=x.natAbs:=λx=>by split<;>lia
 rw[h,h]
theorem ad7 (a b:Int):0<=gI a b:=Int.natCast_nonneg _
theorem G9 (hb:b≠0):0<gI a b:=by
 have:0<sM a b:=Nat.pos_of_ne_zero λh=>hb (Int.gcd_eq_zero_iff.mp h).2
 unfold gI;lia
theorem Qz (a b:Int):gI a b ∣ a:=Int.gcd_dvd_left a b
theorem Ea (a b:Int):gI a b ∣ b:=Int.gcd_dvd_right a b
theorem aal (hb:b≠0):(gI a b).natAbs<=b.natAbs:=by
 have h:(gI a b).natAbs ∣ b.natAbs:=i9.mpr<|Ea a b;exact AS (by lia) h
def dv (t b:Int):Int:=if b<0 then -gI t b else gI t b
theorem QT (hb:b≠0):dv t b≠0:=by
 have:=G9 (a:=t) hb
 unfold dv;split<;>lia
theorem Va (t b:Int):(dv t b).natAbs=(gI t b).natAbs:=by unfold dv;split<;>lia
def lt (t b:Int):Int:=t.fdiv<|dv t b
def lb (t b:Int):Int:=b.fdiv<|dv t b
theorem Dc {a d q:Int}(hd:d≠0)(h:a=d*q):a.fdiv d=q:=by simp_all
theorem Yq (t b:Int):dv t b ∣ t:=by
 unfold dv;split
 ·exact Int.neg_dvd.mpr<|Qz t b
 ·exact Qz t b
theorem Vi (t b:Int):dv t b ∣ b:=by
 unfold dv;split
 ·exact Int.neg_dvd.mpr<|Ea t b
 ·exact Ea t b
theorem lt_mul (hb:b≠0):dv t b*lt t b=t:=by
 obtain⟨q,hq⟩:=Yq t b;have e:lt t b=q:=Dc (QT hb) hq;rw[e];exact hq.symm
theorem HN (hb:b≠0):dv t b*lb t b=b:=by
 obtain⟨q,hq⟩:=Vi t b;have e:lb t b=q:=Dc (QT hb) hq;rw[e];exact hq.symm
theorem abG (hb:b≠0):1<=lb t b:=by
 have e:=HN (t:=t) hb;have g:=G9 (a:=t) hb;by_cases h:lb t b<=0
 ·exfalso;unfold dv at e;split at e
  ·have:0<=-gI t b*lb t b:=Int.mul_nonneg_of_nonpos_of_nonpos (by lia) h
   lia
  ·have:gI t b*lb t b<=0:=Int.mul_nonpos_of_nonneg_of_nonpos (by lia) h
   lia
 ·lia
theorem Yb (hb:b≠0):gI (lt t b) (lb t b)=1:=by
 have e1:=lt_mul (t:=t) hb;have e2:=HN (t:=t) hb;have g:=G9 (a:=t) hb;have q:gI t b=(dv t b).natAbs*gI (lt t b) (lb t b):=by
  have:sM (dv t b*lt t b) (dv t b*lb t b)=(dv t b).natAbs*sM (lt t b) (lb t b):=Int.gcd_mul_left ..
  rw[e1,e2] at this;unfold gI;rw[this];push_cast;rfl
 have ed:((dv t b).natAbs:Int)=gI t b:=by rw[Va];have:=ad7 t b;lia
 rw[ed] at q;have h:gI t b*gI (lt t b) (lb t b)=gI t b*1:=by rw[Int.mul_one];exact q.symm
 exact Int.eq_of_mul_eq_mul_left (by lia) h
theorem TQ (hb:b≠0):lt t b*b=t*lb t b:=by
 have e1:=lt_mul (t:=t) hb;have e2:=HN (t:=t) hb
 calc lt t b*b=lt t b*(dv t b*lb t b):=by rw[e2]
  _=(dv t b*lt t b)*lb t b:=by rw[← lj,k6 (lt t b)<|dv t b]
  _=t*lb t b:=by rw[e1]
theorem adq (hb:b≠0):(lt t b).natAbs<=t.natAbs:=by
 have e:=lt_mul (t:=t) hb;have h:(lt t b).natAbs ∣ t.natAbs:=i9.mpr ⟨dv t b,by rw[k6];exact e.symm⟩;by_cases z:t=0
 ·have:lt t b=0:=by
   have e':dv t b*lt t b=0:=e.trans z;rcases Int.mul_eq_zero.mp e' with h|h
   ·exact absurd h<|QT hb
   ·exact h
  rw[this];exact eW _
 ·exact AS (by lia) h
theorem adP (hb:b≠0):(lb t b).natAbs<=b.natAbs:=by
 have e:=HN (t:=t) hb;have h:(lb t b).natAbs ∣ b.natAbs:=i9.mpr ⟨dv t b,by rw[k6];exact e.symm⟩;exact AS (by lia) h
theorem uY (c:sM p q=1)(h:q ∣ p*s):q ∣ s:=by
 have h2:q.natAbs ∣ p.natAbs*s.natAbs:=by rw[← zv];exact i9.mpr h
 have c2:BQ q.natAbs p.natAbs:=by unfold BQ;rw[BD];exact c
 exact i9.mp<|Nat.Coprime.dvd_of_dvd_mul_left c2 h2
theorem Mu (hq:1<=q)(hs:1<=s)(g1:gI p q=1)(g2:gI r s=1)(h:p*s=r*q):p=r/\q=s:=by
 have c1:sM p q=1:=by unfold gI at g1;lia
 have c2:sM r s=1:=by unfold gI at g2;lia
 have d1:q ∣ s:=by
  have:q ∣ p*s:=⟨r,by rw[h,k6]⟩
  exact uY c1 this
 have d2:s ∣ q:=by
  have:s ∣ r*q:=⟨p,by rw[← h,k6]⟩
  exact uY c2 this
 have e:q=s:=Int.dvd_antisymm (by lia) (by lia) d1 d2;subst e;exact⟨rL (by lia) h,rfl⟩
theorem Hf {a b:Int}(ha:a.natAbs<2^m)(hb:b.natAbs<2^n):(a*b).natAbs<2^(m+n):=by
 rw[zv,Nat.pow_add];exact Nat.mul_lt_mul'' ha hb
theorem abv {a b:Int}(ha:a.natAbs<2^m)(hb:b.natAbs<2^m):(a+b).natAbs<2^(m+1):=by
 rw[Nat.pow_succ]
 lia
theorem uo (h:n<2^m)(hk:m<=k):n<2^k:=br h<|y7 (by decide) hk
theorem ada (hu:u≠0)(hq:1<=q)(g:gI p q=1)(h:t*q=p*u):lt t u=p/\lb t u=q:=by
 refine Mu (abG hu) hq (Yb hu) g ?_;have e:=TQ (t:=t) hu;have e2:lt t u*q*u=p*lb t u*u:=by
  calc lt t u*q*u=lt t u*u*q:=by rw[lj,k6 q u,← lj]
   _=t*lb t u*q:=by rw[e]
   _=t*q*lb t u:=by rw[lj,k6 (lb t u) q,← lj]
   _=p*u*lb t u:=by rw[h]
   _=p*lb t u*u:=by rw[lj,k6 u,← lj]
 exact rL hu e2
abbrev Q2:=Int×Int
end Hd
namespace F
open PySem L2 Hd
@[simp] theorem szl:av=16777216:=by decide
theorem xf:∀{a b:List Char},a.map nt=b.map nt->a=b
 |[],[],_=>rfl
 |[],_::_,h=>by simp at h
 |_::_,[],h=>by simp at h
 |x::a,y::b,h=>by
  have h':x.toNat=y.toNat/\a.map nt=b.map nt:=by simpa using h
  rw[Char.toNat_inj.mp h'.1,xf h'.2]
@[simp] theorem afi {a b:String}:(cy a=cy b)↔a=b:=by
 constructor
 ·intro h;rw[w9,w9] at h;have h2:(a.toList.map nt).toArray=(b.toList.map nt).toArray:=congrArg Str.cps h;have h3:a.toList.map nt=b.toList.map nt:=by simpa using congrArg xh h2
  exact String.toList_inj.mp<|xf h3
 ·intro h;rw[h]
mutual
def okD:D->Bool
 | .non|.bl _|.int _=>true
 | .str x=>g9 x
 | .tup xs=>qC xs
 | .lst xs=>qC xs
 | .exc _ _ _|.dct _ _|.dcu _ _|.dcf _ _|.adr _|.ins _ _ _=>false
def qC:List D->Bool
 |[]=>true
 |x::xs=>okD x&&qC xs
end
mutual
def gf:D->Nat
 | .non|.bl _|.int _|.str _=>0
 | .tup xs=>iT xs+1
 | .lst xs=>iT xs+1
 | .exc _ _ _|.dct _ _|.dcu _ _|.dcf _ _|.adr _|.ins _ _ _=>0
def iT:List D->Nat
 |[]=>0
 |x::xs=>max (gf x)<|iT xs
end
mutual
theorem yS:∀d:D,okD d=true->∃p,toPy d=some p/\p.canLay0=true/\p.depth=gf d/\d5 p p=true
 | .non,_=>⟨.none,by simp[toPy],by simp[l5],by simp[oo,gf],by simp[d5]⟩
 | .bl b,_=>⟨.bool b,by simp[toPy],by simp[l5],by simp[oo,gf],by simp[d5]⟩
 | .int b,_=>⟨.int b,by simp[toPy],by simp[l5],by simp[oo,gf],by simp[d5]⟩
 | .str b,h=>⟨.str b,by simp[toPy],by simpa[l5,okD] using h,by simp[oo,gf],by simp[d5]⟩
 | .tup xs,h=>by
  obtain⟨ps,h1,h2,h3,h4⟩:=CZ xs (by simpa[okD] using h);exact⟨.tuple ps,by simp[toPy,h1],by simpa[l5] using h2,by simp[oo,gf,h3],by simpa[d5] using h4⟩
 | .lst xs,h=>by
  obtain⟨ps,h1,h2,h3,h4⟩:=CZ xs (by simpa[okD] using h);exact⟨.list ps,by simp[toPy,h1],by simpa[l5] using h2,by simp[oo,gf,h3],by simpa[d5] using h4⟩
 | .exc _ _ _,h=>by simp[okD] at h
 | .dct _ _,h=>by simp[okD] at h
 | .dcu _ _,h=>by simp[okD] at h
 | .adr _,h=>by simp[okD] at h
 | .ins _ _ _,h=>by simp[okD] at h
 | .dcf _ _,h=>by simp[okD] at h
theorem CZ:∀ds:List D,qC ds=true->∃ps,mL ds=some ps/\tP ps=true/\yn ps=iT ds/\ja ps ps=true
 |[],_=>⟨[],by simp[mL],by simp[tP],by simp[yn,iT],by simp[ja]⟩
 |d::ds,h=>by
  have h':okD d=true/\qC ds=true:=by simpa[qC] using h
  obtain⟨p,h1,h2,h3,h4⟩:=yS d h'.1;obtain⟨ps,k1,k2,k3,k4⟩:=CZ ds h'.2;exact⟨p::ps,by simp[mL,h1,k1],by simp[tP,h2,k2],by simp[yn,iT,h3,k3],by simp[ja,h4,k4]⟩
end
theorem Aj {d:D}(h:okD d=true)(hd:gf d<=64):mG d d=some true:=by
 obtain⟨p,h1,h2,h3,h4⟩:=yS d h;unfold mG;rw[h1]
 have:gL p=true:=by unfold gL;rw[h2,decide_eq_true<|by omega];rfl
 simp[this,h4]
theorem Ji {d:D}(h:okD d=true)(hd:gf d<=64):gEq d d=some true:=by
 cases d with
 |non=>rfl
 |bl b=>simp[gEq]
 |int b=>simp[gEq]
 |str b=>simp[gEq]
 |tup xs=>exact Aj h hd
 |lst xs=>exact Aj h hd
 |exc c _ _=>simp[okD] at h
 |dct _ _=>simp[okD] at h
 |dcu _ _=>simp[okD] at h
 |adr _=>simp[okD] at h
 |ins _ _ _=>simp[okD] at h
 |dcf _ _=>simp[okD] at h
theorem WX {d:D}(h:okD d=true)(hd:gf d<=64):gNe d d=some false:=by unfold gNe;rw[Ji h hd];rfl
@[simp] theorem afd (i j:Int):gEq (.int i) (.int j)=some (decide<|i=j):=rfl
@[simp] theorem afe (i j:Str):gEq (.str i) (.str j)=some (decide<|i=j):=rfl
@[simp] theorem afy (i j:Bool):gEq (.bl i) (.bl j)=some (decide<|i=j):=rfl
@[simp] theorem afj (i j:Int):gNe (.int i) (.int j)=some (!decide (i=j)):=rfl
@[simp] theorem afg (i j:Str):gNe (.str i) (.str j)=some (!decide (i=j)):=rfl
@[simp] theorem afA (i j:Bool):gNe (.bl i) (.bl j)=some (!decide (i=j)):=rfl
noncomputable def qD (d:Q2):D:=.tup [.int d.1,.int d.2]
mutual
inductive Gm where
 |fin (d:Q2)
 |deal (n:Str) (ws:Ws)
 |move (s:Int) (n:Str) (ws:Ws)
inductive Ws where
 |nil
 |cons (l:D) (g:Gm) (r:Ws)
end
mutual
def dG:Gm->D
 | .fin d=>.tup [.str "end",qD d]
 | .deal n ws=>.tup [.str "deal",.str n,.tup<|dWs ws]
 | .move s n ws=>.tup [.str "move",.int s,.str n,.tup<|dWs ws]
def dWs:Ws->List D
 | .nil=>[]
 | .cons l g r=>.tup [l,dG g]::dWs r
end
mutual
def dp:Gm->Nat
 | .fin _=>0
 | .deal _ ws=>dpW ws+1
 | .move _ _ ws=>dpW ws+1
def dpW:Ws->Nat
 | .nil=>0
 | .cons _ g r=>max (dp g)<|dpW r
end
noncomputable def lz:Ws->Nat
 | .nil=>0
 | .cons _ _ r=>lz r+1
theorem mD:∀ws:Ws,(dWs ws).length=lz ws
 | .nil=>rfl
 | .cons l g r=>by show(dWs r).length+1=_;rw[mD r];rfl
def Nm (n:Str):Prop:=g9 n=true
mutual
def gP:Gm->Prop
 | .fin _=>True
 | .deal _ ws=>lz ws<=100/\Ac ws
 | .move _ _ ws=>lz ws<=100/\Ac ws
def Ac:Ws->Prop
 | .nil=>True
 | .cons _ g r=>gP g/\Ac r
end
def Be (zs:List Str):List Nat:=zs.flatMap λz=>z.cps.toList
theorem Rz:(cy "").cps=#[]:=by decide +kernel
theorem Pa:∀(zs:List Str) (acc:Array Nat),(zs.foldl (λacc p=>acc++(cy "").cps++p.cps) acc).toList=acc.toList++Be zs
 |[],acc=>by simp[Be]
 |z::zs,acc=>by
  rw[mx,Pa zs,Rz];simp[Be]
theorem WT (zs:List Str):(AR (cy "") zs).cps.toList=Be zs:=by
 show((zs.drop 1).foldl (λacc p=>acc++(cy "").cps++p.cps) (zs.headD BN).cps).toList=_;rw[Pa];cases zs with
 |nil=>simp[Be,BN]
 |cons z zs=>simp[Be]
theorem Gy:∀(zs:List Str) (n:Nat),zs.foldl (λn z=>n+z.length+(cy "").length) n=n+(Be zs).length
 |[],n=>by simp[Be]
 |z::zs,n=>by
  rw[mx,Gy zs]
  have:(cy "").length=0:=by decide +kernel
  rw[this];simp[Be,Str.length]
  lia
theorem joinOk_of (h:(Be zs).length<=16777216):BY (cy "") zs=true:=by
 unfold BY;rw[List.foldl_toArray,Gy];simp[As]
 lia
theorem SN (cs:List Nat):Be (cs.map λc=>(⟨#[c]⟩:Str))=cs:=by
 induction cs with
 |nil=>rfl
 |cons c cs ih=>simp[Be] at ih ⊢;exact ih
theorem KC {cs:List Nat}(h:∀c∈cs,c<128):g9 ⟨cs.toArray⟩=true:=by
 unfold g9;simp only[List.all_toArray,List.all_eq_true,decide_eq_true_eq];intro c hc
 have:=h c hc
 lia
theorem RG (h:f m=.ok [.int j])(h1:-1000000000<=j)(h2:j<=1000000000):uW f m=.ok ((cx j.toNat).map λ(i:Nat)=>D.int i):=by
 unfold uW;rw[h];show(if -(2^62)<=j/\j<2^62 then _ else _)=_;rw[if_pos ⟨by lia,by lia⟩]
theorem afL (h:f m=.ok [.int i,.int j])(h1:-1000000000<=i)(h2:i<=1000000000)(h3:-1000000000<=j)(h4:j<=1000000000):Qo f m=.ok ((cx (j-i).toNat).map λ(k:Nat)=>D.int<|i+k):=by
 unfold Qo;rw[h];show(if -(2^62)<=i/\i<2^62/\-(2^62)<=j/\j<2^62 then _ else _)=_;rw[if_pos ⟨by lia,by lia,by lia,by lia⟩]
open PySem PySem.NumText
def tx (l:List Nat):Str:=⟨l.toArray⟩
theorem BK (l:List Nat):(tx l).cps.toList=l:=rfl
theorem xV (l:List Nat):(tx l).length=l.length:=by rfl
theorem QC (h:x.cps.toList=l):x=tx l:=by
 cases x with
 |mk a=>subst h;unfold tx;simp
theorem abW (a b:List Nat):tx a++tx b=tx (a++b):=QC (by show(a.toArray++b.toArray).toList=_;simp)
theorem Xk:tx a=tx b↔a=b:=⟨λh=>by have:=congrArg (λz:Str=>z.cps.toList) h;exact this,λh=>by rw[h]⟩
end F
namespace Pk
open PySem L2 Hd F
noncomputable def jV:Ws->List Gm
 | .nil=>[]
 | .cons _ g r=>g::jV r
def kids:Gm->List Gm
 | .fin _=>[]
 | .deal _ ws=>jV ws
 | .move _ _ ws=>jV ws
mutual
def szG:Gm->Nat
 | .fin _=>1
 | .deal _ ws=>szW ws+1
 | .move _ _ ws=>szW ws+1
def szW:Ws->Nat
 | .nil=>0
 | .cons _ g r=>szG g+szW r
end
theorem uF (g:Gm):1<=szG g:=by cases g<;>simp[szG]
mutual
def plG:List Int->Gm->List (List Int×Gm)
 |w,.fin d=>[(w,.fin d)]
 |w,.deal n ws=>(w,.deal n ws)::plW w 0 ws
 |w,.move s n ws=>(w,.move s n ws)::plW w 0 ws
def plW:List Int->Nat->Ws->List (List Int×Gm)
 |_,_,.nil=>[]
 |w,i,.cons _ g r=>plG (w++[(i:Int)]) g++plW w (i+1) r
end
def pD (p:List Int×Gm):D:=.tup [.tup<|p.1.map .int,dG p.2]
def bh (w:List Int)(g:Gm):List (List Int×Gm):=(kids g).zipIdx.map λp=>(w++[(p.2:Int)],p.1)
theorem Mg (w:List Int):∀(i:Nat) (ws:Ws),plW w i ws=(((jV ws).zipIdx i).map λp=>(w++[(p.2:Int)],p.1)).flatMap λp=>plG p.1 p.2
 |i,.nil=>rfl
 |i,.cons l g r=>by
  show plG (w++[(i:Int)]) g++plW w (i+1) r=_;rw[Mg w (i+1) r];rfl
theorem acR (w:List Int)(g:Gm):plG w g=(w,g)::(bh w g).flatMap λp=>plG p.1 p.2:=by
 cases g with
 |fin d=>rfl
 |deal n ws=>show(w,Gm.deal n ws)::plW w 0 ws=_;rw[Mg];rfl
 |move s n ws=>show(w,Gm.move s n ws)::plW w 0 ws=_;rw[Mg];rfl
theorem zq:∀ws:Ws,szW ws=((jV ws).map szG).sum
 | .nil=>rfl
 | .cons l g r=>by show szG g+szW r=_;rw[zq r];rfl
theorem We (g:Gm):szG g=((kids g).map szG).sum+1:=by
 cases g with
 |fin d=>rfl
 |deal n ws=>show szW ws+1=_;rw[zq];rfl
 |move s n ws=>show szW ws+1=_;rw[zq];rfl
theorem jb:∀ws:Ws,(jV ws).length=lz ws
 | .nil=>rfl
 | .cons l g r=>by show(jV r).length+1=_;rw[jb r];rfl
theorem xR:∀{ws:Ws} {g:Gm},Ac ws->g∈jV ws->gP g
 | .cons l k r,g,h,hg=>by
  rcases bE.mp hg with w|w
  ·rw[w];exact h.1
  ·exact xR h.2 w
theorem FZ (h:gP g)(hk:k∈kids g):gP k/\(kids g).length<=100:=by
 cases g with
 |fin d=>cases hk
 |deal n ws=>exact⟨xR h.2 hk,by show(jV ws).length<=100;rw[jb];exact h.1⟩
 |move s n ws=>exact⟨xR h.2 hk,by show(jV ws).length<=100;rw[jb];exact h.1⟩
theorem yV (h:gP g):(kids g).length<=100:=by
 cases g with
 |fin d=>exact eW _
 |deal n ws=>show(jV ws).length<=100;rw[jb];exact h.1
 |move s n ws=>show(jV ws).length<=100;rw[jb];exact h.1
theorem zX:∀ws:Ws,dZ (fJ 2<|aW (hName 0)<|aW (hName 1) fP) gV (aK 1) [.un,.un] (dWs ws)=.ok ((jV ws).map dG)
 | .nil=>rfl
 | .cons l g r=>by
  have ih:=zX r;have e:aK 1 [.fz l,.fz<|dG g]=.ok (dG g):=rfl;unfold dWs dZ;simp[fJ,aW,hName,fP,gV,e,ih,jV]
theorem Il (q:Q [.fz<|dG g]=.ok (.lst<|(kids g).map dG)\/kids g=[]/\∃d,g=.fin d):aX 1 1 (iZ Q) [dG g]=.ok (true,.lst<|(kids g).map dG):=by
 have x2:∀a b:D,atI [a,b] 0=some a:=λ_ _=>rfl;have x3:∀a b c:D,atI [a,b,c] 0=some a:=λ_ _ _=>rfl;have x4:∀a b c d:D,atI [a,b,c,d] 0=some a:=λ_ _ _ _=>rfl;cases g with
 |fin d=>simp[aX,iZ,aL,gIf,aJ,az,aa,fC,gIx,dG,x2,jW,Me.let,Sl.let,gO,aC,kids]
 |deal n ws=>
  rcases q with q|⟨_,d,e⟩
  ·have q':=q;simp only[dG] at q';simp[aX,iZ,aL,gIf,aJ,az,aa,fC,gIx,dG,x3,jW,Me.let,Sl.let,q',gNx]
  ·cases e
 |move s n ws=>
  rcases q with q|⟨_,d,e⟩
  ·have q':=q;simp only[dG] at q';simp[aX,iZ,aL,gIf,aJ,az,aa,fC,gIx,dG,x4,jW,Me.let,Sl.let,q',gNx]
  ·cases e
theorem Ah (h:gP g):jZ [dG g]=.ok (true,.lst<|(kids g).map dG):=by
 have x3:∀a b c:D,atI [a,b,c] (-1)=some c:=λ_ _ _=>rfl;have x4:∀a b c d:D,atI [a,b,c,d] (-1)=some d:=λ_ _ _ _=>rfl;refine Il ?_;cases g with
 |fin d=>exact .inr ⟨rfl,d,rfl⟩
 |deal n ws=>
  have hz:(dWs ws).length<=16777216:=by rw[mD];have:=h.1;lia
  left;simp[pF,cD,jk,az,aa,fUn,vO,fC,gIx,dG,x3,cMe,hz,zX,kids]
 |move s n ws=>
  have hz:(dWs ws).length<=16777216:=by rw[mD];have:=h.1;lia
  left;simp[pF,cD,jk,az,aa,fUn,vO,fC,gIx,dG,x4,cMe,hz,zX,kids]
theorem Rx (ks:List Gm):CT (ks.map dG)=ks.zipIdx.map λp=>D.tup [.int (p.2:Int),dG p.1]:=by
 unfold CT;rw[List.mapIdx_eq_zipIdx_map,List.zipIdx_map,gv];rfl
theorem fB:∀l:List α,(∀c∈l,∃m1,h (g c) m0=some m1/\ft m1=.ok true/\fe m1=.ok (f c))->dZ h ft fe m0 (l.map g)=.ok (l.map f)
 |[],_=>rfl
 |d::ds,H=>by
  obtain⟨m1,e1,e2,e3⟩:=H d ar;have ih:=fB ds λd hd=>H d<|ah _ hd;rw[aE];unfold dZ;simp only[e1,e2,e3,ih,aE]
theorem RC (h:gP g)(hw:w.length<=1000):oA [a,s1,s2,.fz<|pD (w,g),s4]=.ok (.lst<|(bh w g).map pD):=by
 have hb:=Ah h;have hl:=yV h;have x0:∀a b:D,atI [a,b] 0=some a:=λ_ _=>rfl;have x1:∀a b:D,atI [a,b] 1=some b:=λ_ _=>rfl;have e:dZ (fJ 2<|aW (hName 0)<|aW (hName 1) fP) gV sI [.un,.un,.fz<|pD (w,g)] ((kids g).zipIdx.map λp=>D.tup [.int (p.2:Int),dG p.1])=.ok ((kids g).zipIdx.map λp=>pD (w++[(p.2:Int)],p.1)):=fB _ λp hp=>by
  refine⟨[.fz<|.int (p.2:Int),.fz<|dG p.1,.fz<|pD (w,g)],rfl,rfl,?_⟩;have hz:(w.map D.int).length+1<=16777216:=by rw[cp];lia
  have hz':w.length+1<=16777216:=by lia
  simp[sI,bJ,aj,aC,az,aa,aK,fC,gIx,pD,x0,eN,hz']
 have hz:(kids g).length<=16777216:=by lia
 have e':((bh w g).map pD)=(kids g).zipIdx.map λp=>pD (w++[(p.2:Int)],p.1):=by unfold bh;rw[gv];rfl
 rw[e'];simp only[pD] at e ⊢;simp[oA,cD,acP,aj,aC,fFn,az,aa,fC,gIx,x1,hb,Rx,cMe,Sl.bor,hz,e]
noncomputable def szS (st:List (List Int×Gm)):Nat:=(st.map λp=>szG p.2).sum
theorem abL (w:List Int)(g:Gm):szS (bh w g)+1=szG g:=by
 rw[We];unfold szS bh;rw[gv];congr 2
 have:((λp:List Int×Gm=>szG p.2)∘λp:Gm×Nat=>(w++[(p.2:Int)],p.1))=szG∘BH:=rfl
 rw[this,← gv,l9]
theorem QQ:∀st:List (List Int×Gm),st.length<=szS st
 |[]=>eW _
 |p::st=>by
  have:=QQ st
  have:=uF p.2
  show st.length+1<=szG p.2+szS st
  lia
theorem QZ (a b:List (List Int×Gm)):szS (a++b)=szS a+szS b:=by unfold szS;rw[dE,List.sum_append]
theorem Bs (h1:t m=.ok true)(h2:b m=.ok (.nx,m'))(h3:wh t b n m'=some r):wh t b (n+1) m=some r:=by
 unfold wh;rw[h1,h2];exact h3
theorem Bk (h1:t m=.ok false):wh t b 1 m=some (.ok (.nx,m)):=by
 unfold wh;rw[h1]
theorem Hj (h:gP g)(hw:w.length<=1000)(hz:done.length+st.length<=10000000):
  ou [a,.ow<|.lst<|done.map pD,.ow<|.lst<|(((w,g)::st).map pD).reverse,s3,s4]=.ok (.nx,[a,.ow<|.lst<|(done++[(w,g)]).map pD,.ow<|.lst<|((bh w g++st).map pD).reverse,.fz<|pD (w,g),.fz<|.lst<|(bh w g).map pD]):=by
 have hl:=yV h;have hb:(bh w g).length=(kids g).length:=by unfold bh;simp
 have q:∀s1 s2 s4,oA [a,s1,s2,.fz<|pD (w,g),s4]=.ok (.lst<|(bh w g).map pD):=λs1 s2 s4=>RC h hw;have l1:((st.map pD).reverse++[pD (w,g)]).length-1=(st.map pD).reverse.length:=by simp
 have g1:((st.map pD).reverse++[pD (w,g)])[((st.map pD).reverse++[pD (w,g)]).length-1]? = some (pD (w,g)):=by rw[l1];simp
 have d1:((st.map pD).reverse++[pD (w,g)]).dropLast=(st.map pD).reverse:=List.dropLast_concat;have z1:done.length<16777216:=by lia
 have z2:st.length+(bh w g).length<=16777216:=by rw[hb];lia
 rw[aE,kl];generalize hS:(st.map pD).reverse=S at *;have lS:S.length=st.length:=by rw[← hS];simp
 have e2:((bh w g++st).map pD).reverse=S++((bh w g).map pD).reverse:=by rw[dE,qA,hS]
 rw[e2];have g1':(S++[pD (w,g)])[S.length]? = some (pD (w,g)):=by simp
 simp[ou,aL,HY,pB,putL,dU,aK,bu,q,Ip,aR,aj,aC,aa,Us,z1,lS,z2]
theorem Yz (h:gP g):∀p∈bh w g,gP p.2/\p.1.length=w.length+1:=λp hp=>by
 unfold bh at hp;obtain⟨q,hq,rfl⟩:=d3.mp hp
 have:q.1∈kids g:=by have:=ma (f:=BH) hq;rwa [l9] at this
 exact⟨(FZ h this).1,by simp⟩
theorem Pz (hk:k∈kids g):dp k<dp g:=by
 have aux:∀{ws:Ws},k∈jV ws->dp k<=dpW ws:=by
  intro ws;induction ws using Ws.rec (motive_1:=λ_=>True) with
  |nil=>intro h;cases h
  |cons l g r _ ih=>
   intro h;show dp k<=max (dp g) (dpW r);rcases bE.mp h with w|w
   ·rw[w];exact Nat.le_max_left _ _
   ·exact dr (ih w)<|Nat.le_max_right _ _
  |fin=>trivial
  |deal=>trivial
  |move=>trivial
 cases g with
 |fin d=>cases hk
 |deal n ws=>exact Nat.lt_succ_of_le (aux hk)
 |move s n ws=>exact Nat.lt_succ_of_le (aux hk)
theorem aep:∀p∈bh w g,dp p.2<dp g:=λp hp=>by
 unfold bh at hp;obtain⟨q,hq,rfl⟩:=d3.mp hp
 have:q.1∈kids g:=by have:=ma (f:=BH) hq;rwa [l9] at this
 exact Pz this
theorem Bp (a:Sl):∀(N:Nat) (done st:List (List Int×Gm)) (s3 s4:Sl),szS st=N->(∀p∈st,gP p.2/\p.1.length+dp p.2<=100)->done.length+szS st<=10000000->
  ∃k s3' s4',wh nZ ou k [a,.ow<|.lst<|done.map pD,.ow<|.lst<|(st.map pD).reverse,s3,s4]=some (.ok (.nx,[a,.ow<|.lst<|(done++st.flatMap λp=>plG p.1 p.2).map pD,.ow<|.lst [],s3',s4'])):=by
 intro N;induction N using qB with
 |_ N ih=>
  intro done st s3 s4 hN hs hz;cases st with
  |nil=>
   refine⟨1,s3,s4,?_⟩;simp only[r6,List.reverse_nil,oB,cw];exact Bk<|by simp[nZ,aJ,aR,dC,aj,aC,aa,fC,gGt]
  |cons p st=>
   obtain⟨w,g⟩:=p;have h1:gP g/\w.length+dp g<=100:=hs (w,g) (by simp);have sb:=abL w g;have hsum:szS ((w,g)::st)=szG g+szS st:=rfl;have ls:=QQ st;have gp:=uF g;obtain⟨k,t3,t4,e⟩:=ih (szS<|bh w g++st) (by rw[QZ];lia) (done++[(w,g)]) (bh w g++st) (.fz<|pD (w,g)) (.fz<|.lst<|(bh w g).map pD) rfl (λp hp=>by
    rcases cm.mp hp with v|v
    ·have v1:=Yz h1.1 p v;have v2:=aep p v;exact⟨v1.1,by lia⟩
    ·exact hs p<|by simp[v]) (by rw[QZ,bt];simp;lia)
   refine⟨k+1,t3,t4,?_⟩;have e3:done++((w,g)::st).flatMap (λp=>plG p.1 p.2)=done++[(w,g)]++(bh w g++st).flatMap λp=>plG p.1 p.2:=by
    rw[nv,AA,acR]
    simp
   rw[e3];refine Bs ?_ (Hj h1.1 (by lia)<|by lia) e;simp[nZ,aJ,aR,dC,aj,aC,aa,fC,gGt]
theorem N6 (e:L [.fz d,.ow<|.lst [],.ow<|.lst [.tup [.tup [],d]],.un,.un]=.ok (.nx,[.fz d,.ow<|.lst ps,.ow<|.lst [],s3,s4])):aX 5 1 (rC L) [d]=.ok (true,.lst ps):=by
 simp[aX,rC,aL,gQ,gO,aj,aC,bJ,aK,e,uV]
theorem places_eq (h:gP g)(hd:dp g<=50)(hz:szG g<=10000000):jm [dG g]=.ok (true,.lst<|(plG [] g).map pD):=by
 obtain⟨k,s3,s4,e⟩:=Bp (.fz<|dG g) _ [] [([],g)] .un .un rfl (λp hp=>by rw[cb.mp hp];exact⟨h,by simp;lia⟩) (by show 0+(szG g+0)<=_;lia);have e2:=wN k e;simp only[pz,nv,oB,cw] at e2;exact N6 (s3:=s3) (s4:=s4) e2
noncomputable def kw (w:List Int):List Kt:=w.map λi=>.k<|.inl i
theorem Ie:∀{v w:List Int},kw v=kw w->v=w
 |[],[],_=>rfl
 |[],_::_,h=>by cases h
 |_::_,[],h=>by cases h
 |a::v,b::w,h=>by
  have h:(Kt.k (.inl a):Kt)::kw v=Kt.k (.inl b)::kw w:=h;injection h with h1 h2
  injection h1 with h1
  injection h1 with h1
  rw[h1,Ie h2]
theorem aat:∀w:List Int,uB (ktD 7) (w.map D.int)=some (kw w)
 |[]=>rfl
 |a::w=>by
  show((ktD 7<|.int a).bind λk=>(uB (ktD 7)<|w.map D.int).map λks=>k::ks)=_;rw[aat w];rfl
theorem V4 (w:List Int):xY (.tup<|w.map D.int)=some (kw w):=aat w
theorem JG:∀{ks:List (List Kt)} {ds:List D},ks.length=ds.length->k∈ks->d9 ks (xg ks ds k d) k'=if k=k' then some d else d9 ks ds k'
 |[],_,_,h=>by cases h
 |a::ks,[],h,_=>by simp at h
 |a::ks,x::ds,h,hk=>by
  have hl:ks.length=ds.length:=by simpa using h
  unfold xg d9;by_cases h1:a=k'
  ·rw[if_pos h1,if_pos h1];by_cases h2:a=k
   ·rw[if_pos h2,if_pos<|h2▸h1]
   ·rw[if_neg h2,if_neg λe=>h2<|by rw[h1,e]]
  ·rw[if_neg h1,if_neg h1];by_cases h2:k∈ks
   ·exact JG hl h2
   ·have h3:a=k:=by
     rcases bE.mp hk with e|e
     ·exact e.symm
     ·exact absurd e h2
    have h4:k≠k':=λe=>h1 (by rw[h3,e]);rw[if_neg h4];have e:∀{ks:List (List Kt)} {ds:List D},k∉ks->ks.length=ds.length->xg ks ds k d=ds:=by
     intro ks;induction ks with
     |nil=>intro ds _ hl;cases ds with
      |nil=>rfl
      |cons _ _=>simp at hl
     |cons b ks ih=>intro ds hn hl;cases ds with
      |nil=>simp at hl
      |cons y ds=>
       unfold xg;rw[if_neg λ(e:b=k)=>hn<|e▸ar,ih (λe=>hn<|ah _ e)<|by simpa using hl]
    rw[e h2 hl]
theorem Om:∀{ks:List (List Kt)} {ds:List D},ks.length=ds.length->k∉ks->d9 (ks++[k]) (ds++[d]) k'=if k=k' then some d else d9 ks ds k'
 |[],[],_,_=>by simp[d9]
 |[],_::_,h,_=>by simp at h
 |a::ks,[],h,_=>by simp at h
 |a::ks,x::ds,h,hk=>by
  have ih:=Om (k:=k) (k':=k') (d:=d) (ks:=ks) (ds:=ds) (by simpa using h) λe=>hk<|ah _ e;have hn:a≠k:=λe=>hk<|e▸ar;show d9 (a::(ks++[k])) (x::(ds++[d])) k'=_;unfold d9;rw[ih];by_cases h1:a=k'
  ·rw[if_pos h1,if_neg λe=>hn (by rw[h1,e]),if_pos h1]
  ·rw[if_neg h1,if_neg h1]
theorem Io {ks:List (List Kt)}:ks.any (λx=>decide<|x=k)=true↔k∈ks:=by simp_all
theorem JT:∀{ks:List (List Kt)} {ds:List D},ks.length=ds.length->(xg ks ds k d).length=ks.length
 |[],[],_=>rfl
 |[],_::_,h=>by simp at h
 |a::ks,[],h=>by simp at h
 |a::ks,x::ds,h=>by
  have:=JT (k:=k) (d:=d) (ks:=ks) (ds:=ds)<|by simpa using h
  simp[xg,this]
theorem Jf {ks:List (List Kt)}{ds:List D}(hl:ks.length=ds.length):d9 (vB ks ds k d).1 (vB ks ds k d).2 k'=if k=k' then some d else d9 ks ds k':=by
 unfold vB;by_cases h:ks.any (λx=>decide<|x=k)=true
 ·rw[if_pos h];exact JG hl<|Io.mp h
 ·rw[if_neg h];exact Om hl λz=>h<|Io.mpr z
theorem X5 (hl:ks.length=ds.length):(vB ks ds k d).1.length=(vB ks ds k d).2.length/\(vB ks ds k d).1.length<=ks.length+1:=by
 unfold vB;by_cases h:ks.any (λx=>decide<|x=k)=true
 ·rw[if_pos h];exact⟨(JT hl).symm,by simp⟩
 ·rw[if_neg h];exact⟨by simp[hl],by simp⟩
theorem bI (h1:h d m=some m1)(h2:g m1=.ok (.nx,m2)):bO h g (d::ds) m=bO h g ds m2:=by
 rw[bO,h1];simp only[h2]
abbrev Rc:=List D×List D
noncomputable def rD2 (r:Rc):D:=.tup [.tup r.1,.tup r.2]
noncomputable def rbm (s:Int)(n:Str)(r:Rc)(l:D):Rc:=if s=1 then(r.1++[.tup [.str n,l]],r.2) else(r.1,r.2++[.tup [.str n,l]])
noncomputable def ik:Ws->List D
 | .nil=>[]
 | .cons l _ r=>l::ik r
def rbg:Gm->Rc->D->Rc
 | .move s n _,r,l=>rbm s n r l
 |_,r,_=>r
noncomputable def zB:Gm->Ws
 | .fin _=>.nil
 | .deal _ ws=>ws
 | .move _ _ ws=>ws
mutual
def prG:List Int->Rc->Gm->List (List Int×Gm×Rc)
 |w,r,.fin d=>[(w,.fin d,r)]
 |w,r,.deal n ws=>(w,.deal n ws,r)::prW w (λ_=>r) 0 ws
 |w,r,.move s n ws=>(w,.move s n ws,r)::prW w (rbm s n r) 0 ws
def prW:List Int->(D->Rc)->Nat->Ws->List (List Int×Gm×Rc)
 |_,_,_,.nil=>[]
 |w,f,i,.cons l g r=>prG (w++[(i:Int)]) (f l) g++prW w f (i+1) r
end
mutual
theorem Gp:∀(w:List Int) (r:Rc) (g:Gm),(prG w r g).map (λp=>(p.1,p.2.1))=plG w g
 |w,r,.fin d=>rfl
 |w,r,.deal n ws=>by
  show(w,Gm.deal n ws)::(prW w (λ_=>r) 0 ws).map _=(w,Gm.deal n ws)::plW w 0 ws;rw[Mh w _ 0 ws]
 |w,r,.move s n ws=>by
  show(w,Gm.move s n ws)::(prW w (rbm s n r) 0 ws).map _=(w,Gm.move s n ws)::plW w 0 ws;rw[Mh w _ 0 ws]
theorem Mh:∀(w:List Int) (f:D->Rc) (i:Nat) (ws:Ws),(prW w f i ws).map (λp=>(p.1,p.2.1))=plW w i ws
 |w,f,i,.nil=>rfl
 |w,f,i,.cons l g r=>by
  show(prG (w++[(i:Int)]) (f l) g++prW w f (i+1) r).map _=plG (w++[(i:Int)]) g++plW w (i+1) r;rw[dE,Gp _ _ g,Mh w f (i+1) r]
end
def trD (p:List Int×Gm×Rc):D:=.tup [.tup<|p.1.map D.int,dG p.2.1,rD2 p.2.2]
theorem Qx:∀(ws:Ws) (k:Nat) (l:D),(ik ws)[k]? = some l->∃g,(dWs ws)[k]? = some (.tup [l,g])
 | .nil,k,l,h=>by simp[ik] at h
 | .cons a g r,0,l,h=>by
  have:a=l:=by simpa[ik] using h
  exact⟨dG g,by simp[dWs,this]⟩
 | .cons a g r,k+1,l,h=>by
  obtain⟨x,e⟩:=Qx r k l (by simpa[ik] using h);exact⟨x,by simpa[dWs] using e⟩
theorem qm:∀ws:Ws,(ik ws).length=lz ws
 | .nil=>rfl
 | .cons _ _ r=>by simp[ik,lz,qm r]
theorem ae5 {g:Gm}{r:Rc}{k:Nat}{l:D}(hl:(ik<|zB g)[k]? = some l)(hg:gP g)(hr:r.1.length<=1000/\r.2.length<=1000)(hs:∀s n ws,g=.move s n ws->s=1\/s=2):
  fj [dG g,rD2 r,.int (k:Int)]=.ok (false,rD2<|rbg g r l):=by
 have x30:∀a b c:D,atI [a,b,c] 0=some a:=λ_ _ _=>rfl;have x40:∀a b c d:D,atI [a,b,c,d] 0=some a:=λ_ _ _ _=>rfl;have x41:∀a b c d:D,atI [a,b,c,d] 1=some b:=λ_ _ _ _=>rfl;have x42:∀a b c d:D,atI [a,b,c,d] 2=some c:=λ_ _ _ _=>rfl;have x43:∀a b c d:D,atI [a,b,c,d] 3=some d:=λ_ _ _ _=>rfl;have x20:∀a b:D,atI [a,b] 0=some a:=λ_ _=>rfl;have x21:∀a b:D,atI [a,b] 1=some b:=λ_ _=>rfl;cases g with
 |fin d=>simp[zB,ik] at hl
 |deal n ws=>simp[fj,iw,iu,aX,aL,gIf,aJ,az,aa,fC,gIx,dG,x30,bc,aK,Me.let,Sl.let,rbg]
 |move s n ws=>
  obtain⟨y,ey⟩:=Qx ws k l hl;have ez:=jH ey;have z1:r.1.length+1<=16777216:=by lia
  have z2:r.2.length+1<=16777216:=by lia
  rcases hs s n ws rfl with rfl|rfl
  ·simp[fj,iw,iu,aX,aL,gIf,aJ,az,aa,fC,gIx,dG,x40,x41,x42,x43,bc,aK,Me.let,Sl.let,rbg,gNx,bu,bJ,aj,aC,ez,x20,x21,rD2,eN,z1,rbm]
  ·simp[fj,iw,iu,aX,aL,gIf,aJ,az,aa,fC,gIx,dG,x40,x41,x42,x43,bc,aK,Me.let,Sl.let,rbg,gNx,bu,bJ,aj,aC,ez,x20,x21,rD2,eN,z2,rbm]
theorem adF (w:List Int)(j:Int):kw (w++[j])≠kw w:=λh=>by
 have:=Ie h
 have:=congrArg kS this
 simp at this
theorem ac9 (h:i≠j):kw (w++[i])≠kw (w++[j]):=λe=>h<|by simpa using Ie e
theorem Ww {g0 s2 s5:Sl}{ks:List (List Kt)}{ds:List D}{w:List Int}{g:Gm}{r:Rc}{k:Nat}{l:D}(hv:d9 ks ds (kw w)=some (rD2 r))(hk:(ik<|zB g)[k]? = some l)(hg:gP g)(hr:r.1.length<=1000/\r.2.length<=1000)
  (hs:∀s n ws,g=.move s n ws->s=1\/s=2) (hz:ks.length<=10000000) (hw:w.length<=1000):
  cX [g0,.ow<|.dcu ks ds,s2,.fz<|.tup<|w.map D.int,.fz<|dG g,.fz<|.int (k:Int)]=.ok (.nx,[g0,.ow<|.dcu (vB ks ds (kw<|w++[(k:Int)])<|rD2<|rbg g r l).1 (vB ks ds (kw<|w++[(k:Int)])<|rD2<|rbg g r l).2,s2,.fz<|.tup<|w.map D.int,.fz<|dG g,.fz<|.int (k:Int)]):=by
 have e:=ae5 hk hg hr hs;have z1:ks.length<16777216:=by lia
 have z2:w.length+1<=16777216:=by lia
 have kk:xY (.tup<|w.map D.int++[.int (k:Int)])=some (kw<|w++[(k:Int)]):=by
  rw[← V4];simp
 have kk2:xY (.tup<|w.map D.int)=some (kw w):=V4 w;simp[cX,Gg,fFn,aj,aC,aK,az,aa,J0,dcK,kk2,hv,e,Bd,bJ,eN,z2,kk,z1,rB]
theorem Ju {g0 s2:Sl}{w:List Int}{g:Gm}{r:Rc}(hg:gP g)(hr:r.1.length<=1000/\r.2.length<=1000)(hs:∀s n ws,g=.move s n ws->s=1\/s=2)(hw:w.length<=1000):
  ∀(c i:Nat) (ks:List (List Kt)) (ds:List D) (s5:Sl),i+c=(ik<|zB g).length->ks.length=ds.length->d9 ks ds (kw w)=some (rD2 r)->ks.length+c<=1000000->
   ∃ks' ds' s5',bO (hName 5) cX ((md i c).map λ(k:Nat)=>D.int k) [g0,.ow<|.dcu ks ds,s2,.fz<|.tup<|w.map D.int,.fz<|dG g,s5]=.ok (.nx,[g0,.ow<|.dcu ks' ds',s2,.fz<|.tup<|w.map D.int,.fz<|dG g,s5'])/\ks'.length=ds'.length/\ks'.length<=ks.length+c/\
    (∀j l,i<=j->(ik<|zB g)[j]? = some l->d9 ks' ds' (kw<|w++[(j:Int)])=some (rD2<|rbg g r l))/\(∀k',(∀j:Nat,i<=j->k'≠kw (w++[(j:Int)]))->d9 ks' ds' k'=d9 ks ds k')
 |0,i,ks,ds,s5,hc,hl,hv,hz=>⟨ks,ds,s5,rfl,hl,by lia,λj l h1 h2=>by
   have:=(d4.mp h2).1
   lia,λ_ _=>rfl⟩
 |c+1,i,ks,ds,s5,hc,hl,hv,hz=>by
  have hi:i<(ik<|zB g).length:=by lia
  obtain⟨l,el⟩:∃l,(ik<|zB g)[i]? = some l:=⟨_,a9 hi⟩;have st:=Ww (g0:=g0) (s2:=s2) (s5:=s5) hv el hg hr hs (by lia) hw;have hv1:d9 (vB ks ds (kw<|w++[(i:Int)])<|rD2<|rbg g r l).1 (vB ks ds (kw<|w++[(i:Int)])<|rD2<|rbg g r l).2 (kw w)=some (rD2 r):=by rw[Jf hl,if_neg<|adF w i];exact hv
  obtain⟨l1,l2⟩:=X5 (k:=kw<|w++[(i:Int)]) (d:=rD2<|rbg g r l) hl;refine Vf (Ju (g0:=g0) (s2:=s2) (w:=w) (g:=g) (r:=r) hg hr hs hw c (i+1) _ _ (.fz<|.int (i:Int)) (by lia) l1 hv1<|by lia) λks' ds' s5' e a1 a2 a3 a4=>?_;refine⟨ks',ds',s5',?_,a1,by lia,λj l' h1 h2=>?_,λk' h=>?_⟩
  ·rw[kL,aE];rw[bI (m1:=[g0,.ow<|.dcu ks ds,s2,.fz<|.tup<|w.map D.int,.fz<|dG g,.fz<|.int (i:Int)]) rfl st];exact e
  ·by_cases q:i=j
   ·subst q;rw[a4 _ λj hj=>ac9 (by lia),Jf hl,if_pos rfl];rw[el] at h2;cases h2;rfl
   ·exact a3 j l' (by lia) h2
  ·rw[a4 k' λj hj=>h j (by lia),Jf hl,if_neg λq=>h i (aI _) q.symm]
mutual
def sdG:Gm->Prop
 | .fin _=>True
 | .deal _ ws=>sdW ws
 | .move s _ ws=>(s=1\/s=2)/\sdW ws
def sdW:Ws->Prop
 | .nil=>True
 | .cons _ g r=>sdG g/\sdW r
end
abbrev hPl:Zbb:=fJ 2<|aW (hName 3)<|aW (hName 4) fP
theorem BJ (g:Gm):kids g=jV (zB g):=by cases g<;>rfl
theorem Ec (hl:ks.length=ds.length)(hv:d9 ks ds (kw w)=some (rD2 r))(hg:gP g)(hr:r.1.length<=1000/\r.2.length<=1000)
  (hs:∀s n ws,g=.move s n ws->s=1\/s=2) (hz:ks.length<=100000) (hf:found.length<=100000) (hw:w.length<=1000):
  ∃ks' ds' s5',(hPl (pD (w,g)) [g0,.ow<|.dcu ks ds,.ow<|.lst found,s3,s4,s5]=some [g0,.ow<|.dcu ks ds,.ow<|.lst found,.fz<|.tup<|w.map D.int,.fz<|dG g,s5])/\
   bA [g0,.ow<|.dcu ks ds,.ow<|.lst found,.fz<|.tup<|w.map D.int,.fz<|dG g,s5]=.ok (.nx,[g0,.ow<|.dcu ks' ds',.ow<|.lst<|found++[trD (w,g,r)],.fz<|.tup<|w.map D.int,.fz<|dG g,s5'])/\ks'.length=ds'.length/\ks'.length<=ks.length+lz (zB g)/\
    (∀(j:Nat) (l:D),(ik<|zB g)[j]? = some l->d9 ks' ds' (kw<|w++[(j:Int)])=some (rD2<|rbg g r l))/\(∀k',(∀j:Nat,k'≠kw (w++[(j:Int)]))->d9 ks' ds' k'=d9 ks ds k'):=by
 have hb:=Ah hg;have hk:=yV hg;have ek:(kids g).length=(ik<|zB g).length:=by rw[BJ,jb,qm]
 refine Vf (Ju (g0:=g0) (s2:=.ow<|.lst<|found++[trD (w,g,r)]) (w:=w) (g:=g) (r:=r) hg hr hs hw (kids g).length 0 ks ds s5 (by lia) hl hv<|by lia) λks' ds' s5' e a1 a2 a3 a4=>?_;refine⟨ks',ds',s5',rfl,?_,a1,by rw[← qm,← ek];exact a2,λj l h=>a3 j l (eW _) h,λk' h=>a4 k' λj _=>h j⟩;have z1:found.length<16777216:=by lia
 have z3:((kids g).length:Int)<4611686018427387904:=by lia
 have kk2:xY (.tup<|w.map D.int)=some (kw w):=V4 w;have eL:ig [g0,.ow<|.dcu ks ds,.ow<|.lst<|found++[trD (w,g,r)],.fz<|.tup<|w.map D.int,.fz<|dG g,s5]=.ok (.nx,[g0,.ow<|.dcu ks' ds',.ow<|.lst<|found++[trD (w,g,r)],.fz<|.tup<|w.map D.int,.fz<|dG g,s5']):=by
  have e1:(aj (aR dC<|aj (fFn jZ<|aj (aK 4) aC) aC) aC) [g0,.ow<|.dcu ks ds,.ow<|.lst<|found++[trD (w,g,r)],.fz<|.tup<|w.map D.int,.fz<|dG g,s5]=.ok [.int ((kids g).length:Int)]:=by
   simp[aR,dC,fFn,aj,aC,aK,hb]
  have e2:=RG e1 (by lia) (by lia);unfold ig eQ;rw[e2];show bO (hName 5) cX ((cx (kids g).length).map λ(k:Nat)=>D.int k) _=_;rw[l0];exact e
 simp only[trD] at eL ⊢;simp[bA,aL,dU,bJ,aj,aC,aK,az,aa,J0,dcK,kk2,hv,pB,putL,z1,eL]
theorem Jd (ws:Ws):(jV ws).length<=((jV ws).map szG).sum:=by
 induction jV ws with
 |nil=>exact eW _
 |cons g l ih=>have:=uF g;simp;lia
mutual
theorem Bm:∀(w:List Int) (g:Gm),(plG w g).length=szG g
 |w,.fin d=>rfl
 |w,.deal n ws=>by show(plW w 0 ws).length+1=szW ws+1;rw[Hl w 0 ws]
 |w,.move s n ws=>by show(plW w 0 ws).length+1=szW ws+1;rw[Hl w 0 ws]
theorem Hl:∀(w:List Int) (i:Nat) (ws:Ws),(plW w i ws).length=szW ws
 |w,i,.nil=>rfl
 |w,i,.cons l g r=>by show(plG (w++[(i:Int)]) g++plW w (i+1) r).length=szG g+szW r;rw[bt,Bm _ g,Hl w (i+1) r]
end
mutual
theorem Vj (g0:Sl):∀(g:Gm) (w:List Int) (r:Rc) (ks:List (List Kt)) (ds found:List D) (s3 s4 s5:Sl) (rest:List D),ks.length=ds.length->d9 ks ds (kw w)=some (rD2 r)->gP g->sdG g->r.1.length+dp g<=1000->r.2.length+dp g<=1000->w.length+dp g<=1000->
  ks.length+szG g<=100001->found.length+szG g<=100000->
  ∃ks' ds' s3' s4' s5',bO hPl bA ((plG w g).map pD++rest) [g0,.ow<|.dcu ks ds,.ow<|.lst found,s3,s4,s5]=bO hPl bA rest [g0,.ow<|.dcu ks' ds',.ow<|.lst<|found++(prG w r g).map trD,s3',s4',s5']/\ks'.length=ds'.length/\ks'.length+1<=ks.length+szG g/\
   (∀k',(∀u:List Int,u≠[]->k'≠kw (w++u))->d9 ks' ds' k'=d9 ks ds k')
 | .fin d,w,r,ks,ds,found,s3,s4,s5,rest,hl,hv,hg,hs,r1,r2,hw,hz,hf=>by
  have hsz:szG (.fin d)=1:=rfl;refine GD (Ec (g0:=g0) (s3:=s3) (s4:=s4) (s5:=s5) (found:=found) (g:=.fin d) hl hv hg ⟨by lia,by lia⟩ (λ_ _ _ z=>by cases z) (by lia) (by lia) (by lia)) λks' ds' s5' e1 e2 a1 a2 a3 a4=>?_;refine⟨ks',ds',.fz<|.tup<|w.map D.int,.fz<|dG<|.fin d,s5',?_,a1,by simpa[zB,lz,szG] using a2,λk' h=>a4 k' λj=>h [(j:Int)]<|by simp⟩;show bO hPl bA (pD (w,.fin d)::rest) _=_;rw[bI e1 e2];rfl
 | .deal n ws,w,r,ks,ds,found,s3,s4,s5,rest,hl,hv,hg,hs,r1,r2,hw,hz,hf=>by
  have hsz:szG (.deal n ws)=szW ws+1:=rfl;have hdp:dp (.deal n ws)=dpW ws+1:=rfl;have hlw:lz ws<=szW ws:=by rw[← jb,zq];exact Jd ws
  refine GD (Ec (g0:=g0) (s3:=s3) (s4:=s4) (s5:=s5) (found:=found) (g:=.deal n ws) hl hv hg ⟨by lia,by lia⟩ (λ_ _ _ z=>by cases z) (by lia) (by lia) (by lia)) λks' ds' s5' e1 e2 a1 a2 a3 a4=>?_;have a2:ks'.length<=ks.length+lz ws:=a2;obtain⟨kt,dt,t3,t4,t5,e,b1,b2,b3⟩:=Mz g0 ws w (λ_=>r) 0 ks' ds' (found++[trD (w,.deal n ws,r)]) (.fz<|.tup<|w.map D.int) (.fz<|dG<|.deal n ws) s5' rest a1 (λj l h=>by rw[rS];exact a3 j l h) hg.2 hs (λl=>by lia) (λl=>by lia) (by lia) (by lia) (by rw[bt,eM];lia);refine⟨kt,dt,t3,t4,t5,?_,b1,by lia,λk' h=>?_⟩
  ·show bO hPl bA (pD (w,.deal n ws)::((plW w 0 ws).map pD++rest)) _=_;rw[bI e1 e2,e];show bO _ _ _ [_,_,.ow<|.lst<|found++[trD (w,.deal n ws,r)]++(prW w (λ_=>r) 0 ws).map trD,_,_,_]=bO _ _ _ [_,_,.ow<|.lst<|found++(trD (w,.deal n ws,r)::(prW w (λ_=>r) 0 ws).map trD),_,_,_];rw[fF];rfl
  ·rw[b3 k' λj u hu=>h _ (by simp),a4 k' λj=>h [(j:Int)]<|by simp]
 | .move s n ws,w,r,ks,ds,found,s3,s4,s5,rest,hl,hv,hg,hs,r1,r2,hw,hz,hf=>by
  have hsz:szG (.move s n ws)=szW ws+1:=rfl;have hdp:dp (.move s n ws)=dpW ws+1:=rfl;have hlw:lz ws<=szW ws:=by rw[← jb,zq];exact Jd ws
  obtain⟨ks',ds',s5',e1,e2,a1,a2,a3,a4⟩:=Ec (g0:=g0) (s3:=s3) (s4:=s4) (s5:=s5) (found:=found) (g:=.move s n ws) hl hv hg ⟨by lia,by lia⟩ (λ_ _ _ z=>by cases z;exact hs.1) (by lia) (by lia) (by lia);have a2:ks'.length<=ks.length+lz ws:=a2;have rl:∀l,(rbm s n r l).1.length<=r.1.length+1/\(rbm s n r l).2.length<=r.2.length+1:=λl=>by
   unfold rbm;split<;>simp
  obtain⟨kt,dt,t3,t4,t5,e,b1,b2,b3⟩:=Mz g0 ws w (rbm s n r) 0 ks' ds' (found++[trD (w,.move s n ws,r)]) (.fz<|.tup<|w.map D.int) (.fz<|dG<|.move s n ws) s5' rest a1 (λj l h=>by rw[rS];exact a3 j l h) hg.2 hs.2 (λl=>by have:=(rl l).1;lia) (λl=>by have:=(rl l).2;lia) (by lia) (by lia) (by rw[bt,eM];lia);refine⟨kt,dt,t3,t4,t5,?_,b1,by lia,λk' h=>?_⟩
  ·show bO hPl bA (pD (w,.move s n ws)::((plW w 0 ws).map pD++rest)) _=_;rw[bI e1 e2,e];show bO _ _ _ [_,_,.ow<|.lst<|found++[trD (w,.move s n ws,r)]++(prW w (rbm s n r) 0 ws).map trD,_,_,_]=bO _ _ _ [_,_,.ow<|.lst<|found++(trD (w,.move s n ws,r)::(prW w (rbm s n r) 0 ws).map trD),_,_,_];rw[fF];rfl
  ·rw[b3 k' λj u hu=>h _ (by simp),a4 k' λj=>h [(j:Int)]<|by simp]
theorem Mz (g0:Sl):∀(ws:Ws) (w:List Int) (f:D->Rc) (i:Nat) (ks:List (List Kt)) (ds found:List D) (s3 s4 s5:Sl) (rest:List D),ks.length=ds.length->(∀(j:Nat) (l:D),(ik ws)[j]? = some l->d9 ks ds (kw<|w++[((i+j:Nat):Int)])=some (rD2<|f l))->Ac ws->sdW ws->
  (∀l,(f l).1.length+dpW ws<=1000)->(∀l,(f l).2.length+dpW ws<=1000)->w.length+1+dpW ws<=1000->ks.length+szW ws<=100000+lz ws->found.length+szW ws<=100000->
  ∃ks' ds' s3' s4' s5',bO hPl bA ((plW w i ws).map pD++rest) [g0,.ow<|.dcu ks ds,.ow<|.lst found,s3,s4,s5]=bO hPl bA rest [g0,.ow<|.dcu ks' ds',.ow<|.lst<|found++(prW w f i ws).map trD,s3',s4',s5']/\ks'.length=ds'.length/\ks'.length+lz ws<=ks.length+szW ws/\
   (∀k',(∀(j:Nat) (u:List Int),u≠[]->k'≠kw (w++((i+j:Nat):Int)::u))->d9 ks' ds' k'=d9 ks ds k')
 | .nil,w,f,i,ks,ds,found,s3,s4,s5,rest,hl,hv,hg,hs,r1,r2,hw,hz,hf=>⟨ks,ds,s3,s4,s5,by simp[plW,prW],hl,by simp[lz,szW],λ_ _=>rfl⟩
 | .cons l g r,w,f,i,ks,ds,found,s3,s4,s5,rest,hl,hv,hg,hs,r1,r2,hw,hz,hf=>by
  have hsz:szW (.cons l g r)=szG g+szW r:=rfl;have hdp:dpW (.cons l g r)=max (dp g) (dpW r):=rfl;have hlw:lz (.cons l g r)=lz r+1:=rfl;have hl2:lz r<=szW r:=by rw[← jb,zq];exact Jd r
  have hp:=uF g;have q1:=r1 l;have q2:=r2 l;obtain⟨ks',ds',t3,t4,t5,e,a1,a2,a3⟩:=Vj g0 g (w++[(i:Int)]) (f l) ks ds found s3 s4 s5 ((plW w (i+1) r).map pD++rest) hl (hv 0 l rfl) hg.1 hs.1 (by lia) (by lia) (by rw[bt,eM];lia) (by lia) (by lia);have pl:(prG (w++[(i:Int)]) (f l) g).length=szG g:=by rw[← cp (f:=λp=>(p.1,p.2.1)),Gp];exact Bm _ g
  obtain⟨kt,dt,u3,u4,u5,e',b1,b2,b3⟩:=Mz g0 r w f (i+1) ks' ds' (found++(prG (w++[(i:Int)]) (f l) g).map trD) t3 t4 t5 rest a1 (λj l' h=>by
   rw[a3 _ λu hu z=>?_,← hv (j+1) l' (by simpa[ik] using h),show i+(j+1)=i+1+j by lia]
   have:=Ie z
   simp at this
   lia) hg.2 hs.2 (λl=>by have:=r1 l;lia) (λl=>by have:=r2 l;lia) (by lia) (by lia) (by rw[bt,cp,pl];lia)
  refine⟨kt,dt,u3,u4,u5,?_,b1,by lia,λk' h=>?_⟩
  ·show bO _ _ ((plG (w++[(i:Int)]) g++plW w (i+1) r).map pD++rest) _=_;rw[dE,fF,e,e'];show _=bO _ _ _ [_,_,.ow<|.lst<|found++(prG (w++[(i:Int)]) (f l) g++prW w f (i+1) r).map trD,_,_,_];rw[dE,fF]
  ·rw[b3 k' λj u hu=>by have:=h (j+1) u hu;rw[show i+(j+1)=i+1+j by lia] at this;exact this];refine a3 k' λu hu=>?_
   have:=h 0 u hu
   simpa using this
end
theorem Z7 (e:L [.fz d,.ow<|.dcu [[]] [rD2 ([],[])],.ow<|.lst [],.un,.un,.un]=.ok (.nx,[.fz d,a,.ow<|.lst ps,s3,s4,s5])):aX 6 1 (fY L) [d]=.ok (true,.lst ps):=by
 have k0:xY (.tup [])=some []:=rfl;simp only[rD2] at e;simp[aX,fY,aL,gQ,Ma,bJ,aC,aj,k0,gO,e,uV]
theorem Vm (h:gP g)(hs:sdG g)(hd:dp g<=50)(hz:szG g<=10000):cQ [dG g]=.ok (true,.lst<|(prG [] ([],[]) g).map trD):=by
 have e:=places_eq h hd (by lia);obtain⟨ks',ds',s3',s4',s5',e2,_⟩:=Vj (.fz<|dG g) g [] ([],[]) [[]] [rD2 ([],[])] [] .un .un .un [] rfl (by simp[d9,kw]) h hs (by simp;lia) (by simp;lia) (by simp;lia) (by simp;lia) (by simp;lia);refine Z7 (a:=.ow<|.dcu ks' ds') (s3:=s3') (s4:=s4') (s5:=s5') ?_;have e1:cZ (fFn jm<|aj (aK 0) aC) [.fz<|dG g,.ow<|.dcu [[]] [rD2 ([],[])],.ow<|.lst [],.un,.un,.un]=.ok ((plG [] g).map pD):=by
  simp[cZ,fFn,aj,aC,aK,e]
 unfold lO eQ;rw[e1];rw[cw] at e2;exact e2
noncomputable def oZ (r:Rc)(s:Int):List D:=if s=1 then r.1 else r.2
def rM (s:Int)(n:Str)(ws:Ws)(r:Rc):D:=.tup [.int s,.str n,.tup<|ik ws,.tup<|oZ r s]
theorem m5:∀ws:Ws,dZ (fJ 2<|aW (hName 0)<|aW (hName 1) fP) gV (aK 0) [.un,.un] (dWs ws)=.ok (ik ws)
 | .nil=>rfl
 | .cons l g r=>by
  have ih:=m5 r;have e:aK 0 [.fz l,.fz<|dG g]=.ok l:=rfl;unfold dWs dZ;simp[fJ,aW,hName,fP,gV,e,ih,ik]
theorem Vd (h:lz ws<=100):uv [dG<|.move s n ws]=.ok (false,.tup<|ik ws):=by
 have x4:∀a b c d:D,atI [a,b,c,d] 3=some d:=λ_ _ _ _=>rfl;have hz:(ik ws).length<=16777216:=by rw[qm];lia
 have hz2:(dWs ws).length<=16777216:=by rw[mD];lia
 have e:uR [.fz<|dG<|.move s n ws]=.ok (.lst<|ik ws):=by
  simp[uR,cD,jk,az,aa,fC,gIx,dG,x4,cMe,m5,hz,hz2]
 simp[uv,xW,xG,aX,bc,aR,aj,aC,Me.let,Sl.let,e,nM,hz]
theorem Uw (h:lz ws<=100)(hs:s=1\/s=2):sW [dG<|.move s n ws,rD2 r]=.ok (false,rM s n ws r):=by
 have e:=Vd (s:=s) (n:=n) h;have x1:∀a b c d:D,atI [a,b,c,d] 1=some b:=λ_ _ _ _=>rfl;have x2:∀a b c d:D,atI [a,b,c,d] 2=some c:=λ_ _ _ _=>rfl;have y0:∀a b:D,atI [a,b] 0=some a:=λ_ _=>rfl;have y1:∀a b:D,atI [a,b] 1=some b:=λ_ _=>rfl;simp only[dG] at e;rcases hs with rfl|rfl
 ·simp[sW,yX,zj,aX,bc,Me.let,Sl.let,bJ,aj,aC,az,aa,fC,gIx,dG,x1,x2,fFn,aK,e,rD2,F.lV,y0,y1,rM,oZ]
 ·simp[sW,yX,zj,aX,bc,Me.let,Sl.let,bJ,aj,aC,az,aa,fC,gIx,dG,x1,x2,fFn,aK,e,rD2,F.lV,y0,y1,rM,oZ]
abbrev Tb:=List (List Kt)×List D
noncomputable def kn (s:Int)(n:Str):List Kt:=[.k<|.inl s,.k<|.inr n]
def tst (T:Tb)(p:List Int×Gm×Rc):Tb:=match p.2.1 with
 | .move s n ws=>if(d9 T.1 T.2<|kn s n).isSome then T else(T.1++[kn s n],T.2++[rM s n ws p.2.2])
 |_=>T
def tbl (l:List (List Int×Gm×Rc)):Tb:=l.foldl tst ([],[])
theorem Ri (T:Tb)(p:List Int×Gm×Rc):(tst T p).1.length<=T.1.length+1:=by grind[tst]
def okP (p:List Int×Gm×Rc):Prop:=match p.2.1 with
 | .move s _ ws=>(s=1\/s=2)/\lz ws<=100
 |_=>True
theorem V6 (hp:okP p)(hz:T.1.length<=100000):∃m1,fJ 3 (aW (hName 2)<|aW (hName 3)<|aW (hName 4) fP) (trD p) [g0,.ow<|.dcu T.1 T.2,s2,s3,s4]=some m1/\
  iQ m1=.ok (.nx,[g0,.ow<|.dcu (tst T p).1 (tst T p).2,.fz<|.tup<|p.1.map D.int,.fz<|dG p.2.1,.fz<|rD2 p.2.2]):=by
 refine⟨[g0,.ow<|.dcu T.1 T.2,.fz<|.tup<|p.1.map D.int,.fz<|dG p.2.1,.fz<|rD2 p.2.2],rfl,?_⟩;obtain⟨w,g,r⟩:=p;have x20:∀a b:D,atI [a,b] 0=some a:=λ_ _=>rfl;have x30:∀a b c:D,atI [a,b,c] 0=some a:=λ_ _ _=>rfl;have x40:∀a b c d:D,atI [a,b,c,d] 0=some a:=λ_ _ _ _=>rfl;have x41:∀a b c d:D,atI [a,b,c,d] 1=some b:=λ_ _ _ _=>rfl;have x42:∀a b c d:D,atI [a,b,c,d] 2=some c:=λ_ _ _ _=>rfl;cases g with
 |fin d=>simp[iQ,gIf,aJ,az,aa,fC,gIx,dG,x20,gNx,tst]
 |deal n ws=>simp[iQ,gIf,aJ,az,aa,fC,gIx,dG,x30,gNx,tst]
 |move s n ws=>
  have hp:(s=1\/s=2)/\lz ws<=100:=hp;have e:=Uw (n:=n) (r:=r) hp.2 hp.1;simp only[dG] at e;have kk:xY (.tup [.int s,.str n])=some (kn s n):=rfl;have z1:T.1.length<16777216:=by lia
  by_cases q:(d9 T.1 T.2<|kn s n).isSome=true
  ·simp[iQ,gIf,aJ,az,aa,fC,gIx,dG,x40,x41,x42,Y5,Bd,bJ,aj,aC,fFn,aK,e,kk,z1,tst,q,rB]
  ·simp[iQ,gIf,aJ,az,aa,fC,gIx,dG,x40,x41,x42,Y5,Bd,bJ,aj,aC,fFn,aK,e,kk,z1,tst,q,rB]
theorem Jm:∀(l:List (List Int×Gm×Rc)) (T:Tb) (s2 s3 s4:Sl),(∀p∈l,okP p)->T.1.length+l.length<=100000->∃s2' s3' s4',bO (fJ 3<|aW (hName 2)<|aW (hName 3)<|aW (hName 4) fP) iQ (l.map trD) [g0,.ow<|.dcu T.1 T.2,s2,s3,s4]=.ok (.nx,[g0,.ow<|.dcu (l.foldl tst T).1 (l.foldl tst T).2,s2',s3',s4'])
 |[],T,s2,s3,s4,_,_=>⟨s2,s3,s4,rfl⟩
 |p::l,T,s2,s3,s4,hp,hz=>by
  have hz':T.1.length+(l.length+1)<=100000:=hz;obtain⟨m1,e1,e2⟩:=V6 (g0:=g0) (s2:=s2) (s3:=s3) (s4:=s4) (T:=T) (hp p ar)<|by lia
  have:=Ri T p
  obtain⟨a,b,c,e⟩:=Jm l (tst T p) (.fz<|.tup<|p.1.map D.int) (.fz<|dG p.2.1) (.fz<|rD2 p.2.2) (λq hq=>hp q<|ah _ hq) (by lia);exact⟨a,b,c,by rw[aE,bI e1 e2,e];rfl⟩
theorem tab_run (e:L [.fz d,.ow<|.dcu [] [],.un,.un,.un]=.ok (.nx,[.fz d,.ow<|.dcu ks ds,s2,s3,s4])):aX 5 1 (uQ L) [d]=.ok (true,.lst ds):=by
 simp[aX,uQ,aL,gQ,Aa,e,jW,Me.let,Sl.let,NK,aa]
mutual
theorem V2:∀(w:List Int) (r:Rc) (g:Gm),gP g->sdG g->∀p∈prG w r g,okP p
 |w,r,.fin d,_,_,p,hp=>by
  have:p=(w,.fin d,r):=by simpa[prG] using hp
  rw[this];exact eS
 |w,r,.deal n ws,h,hs,p,hp=>by
  rcases bE.mp (show p∈(w,Gm.deal n ws,r)::prW w (λ_=>r) 0 ws from hp) with e|e
  ·rw[e];exact eS
  ·exact Lz w _ 0 ws h.2 hs p e
 |w,r,.move s n ws,h,hs,p,hp=>by
  rcases bE.mp (show p∈(w,Gm.move s n ws,r)::prW w (rbm s n r) 0 ws from hp) with e|e
  ·rw[e];exact⟨hs.1,h.1⟩
  ·exact Lz w _ 0 ws h.2 hs.2 p e
theorem Lz:∀(w:List Int) (f:D->Rc) (i:Nat) (ws:Ws),Ac ws->sdW ws->∀p∈prW w f i ws,okP p
 |w,f,i,.nil,_,_,p,hp=>by cases hp
 |w,f,i,.cons l g r,h,hs,p,hp=>by
  rcases cm.mp (show p∈prG (w++[(i:Int)]) (f l) g++prW w f (i+1) r from hp) with e|e
  ·exact V2 _ _ g h.1 hs.1 p e
  ·exact Lz w f (i+1) r h.2 hs.2 p e
end
theorem uL (w:List Int)(r:Rc)(g:Gm):(prG w r g).length=szG g:=by rw[← cp (f:=λp=>(p.1,p.2.1)),Gp];exact Bm _ g
theorem table_eq (h:gP g)(hs:sdG g)(hd:dp g<=50)(hz:szG g<=10000):uD [dG g]=.ok (true,.lst (tbl<|prG [] ([],[]) g).2):=by
 have e:=Vm h hs hd hz;obtain⟨a,b,c,e2⟩:=Jm (g0:=.fz<|dG g) (prG [] ([],[]) g) ([],[]) .un .un .un (V2 _ _ g h hs) (by rw[uL];simp;lia);refine tab_run (ks:=(tbl<|prG [] ([],[]) g).1) (s2:=a) (s3:=b) (s4:=c) ?_;have e1:cZ (fFn cQ<|aj (aK 0) aC) [.fz<|dG g,.ow<|.dcu [] [],.un,.un,.un]=.ok ((prG [] ([],[]) g).map trD):=by
  simp[cZ,fFn,aj,aC,aK,e]
 unfold za eQ;rw[e1];exact e2
end Pk
namespace F
open PySem L2 Hd
noncomputable def rq (r:Rat):Q2:=(r.num,(r.den:Int))
def rD (r:Rat):D:=qD<|rq r
theorem V0 (r:Rat):rD r=.tup [.int r.num,.int r.den]:=rfl
theorem wB (r:Rat):1<=(r.den:Int):=by have:=r.den_pos;lia
theorem acq (r:Rat):gI r.num r.den=1:=by
 unfold gI
 have:=r.reduced
 unfold BQ at this;show((sM r.num (r.den:Int):Nat):Int)=1;unfold sM;simp[this]
theorem M8 (hb:b≠0):(lt t b,lb t b)=rq (bX t b):=by
 have h:=mB<|bX t b;have hd:((bX t b).den:Int)≠0:=by have:=wB<|bX t b;lia
 have h2:=(ua hd hb).mp h;obtain⟨z1,z2⟩:=ada hb (wB<|bX t b) (acq<|bX t b) (t:=t) h2.symm;exact Prod.ext z1 z2
theorem Wk (r:Rat):bX r.num r.den=r:=mB r
theorem aan (a b:Rat):bX (a.num*b.den+b.num*a.den) (a.den*b.den)=a+b:=by
 have ha:=wB a;have hb:=wB b;rw[← yy _ _ (by lia) (by lia),Wk,Wk]
def Sz (k:Nat)(r:Rat):Prop:=r.num.natAbs<2^k/\r.den<2^k
theorem Mj (hb:b≠0)(h1:t.natAbs<2^k)(h2:b.natAbs<2^k):Sz k (bX t b):=by
 have e:=M8 (t:=t) hb;have e1:=congrArg BH e;have e2:=congrArg Prod.snd e;have e1:lt t b=(bX t b).num:=e1;have e2:lb t b=((bX t b).den:Int):=e2;have l1:=adq (t:=t) hb;have l2:=adP (t:=t) hb;rw[e1] at l1;rw[e2] at l2;exact⟨by lia,by lia⟩
theorem adg (ha:Sz k a)(hb:Sz l b):Sz (k+l+1) (a+b):=by
 rw[← aan];have pa:=wB a;have pb:=wB b;have h1:(a.num*b.den).natAbs<2^(k+l):=Hf ha.1 (by simpa using hb.2);have h2:(b.num*a.den).natAbs<2^(k+l):=by rw[Nat.add_comm];exact Hf hb.1<|by simpa using ha.2
 have h3:((a.den:Int)*b.den).natAbs<2^(k+l):=Hf (by simpa using ha.2) (by simpa using hb.2);refine Mj ?_ (abv h1 h2)<|uo h3 (by lia);exact Int.mul_ne_zero (by lia)<|by lia
theorem Q0:Sz 1 0:=⟨by decide,by decide⟩
theorem Oe (h:Sz k r)(hk:k<=4000):Bq r.num/\Bq (r.den:Int):=⟨Q3<|uo h.1 (by lia),Q3<|uo (by simpa using h.2) (by lia)⟩
theorem aca (h:Sz k a)(g:Sz l b)(hk:k+l<=4000):Bq ((a.den:Int)*b.den):=Q3<|uo (Hf (by simpa using h.2) (by simpa using g.2)) (by lia)
theorem Wu (a b:Rat):(a.den:Int)*b.den≠0:=Int.mul_ne_zero (by have:=wB a;lia) (by have:=wB b;lia)
end F
namespace Pk
open PySem L2 Hd F
theorem Yw (x y:Sl):∀(n:Nat) (a b:Int) (z:Sl),b.toNat=n->0<=a->0<=b->∃k z',wh lC lA k [x,y,.fz<|.int a,.fz<|.int b,z] =
  some (.ok (.nx,[x,y,.fz<|.int<|gI a b,.fz<|.int 0,z'])):=by
 intro n;induction n using qB with
 |_ n ih=>
  intro a b z hn ha hb;by_cases h0:b=0
  ·subst h0;refine⟨1,z,?_⟩;rw[QW ha];exact Bk rfl
  ·have hb':0<b:=by lia
   have hm:=mE a hb';have hm0:=qE a h0;obtain⟨k,z',e⟩:=ih (a%b).toNat (by lia) b (a%b) (.fz<|.int<|a%b) rfl hb hm0;rw[QH ha hb'] at e;refine⟨k+1,z',Bs (m':=[x,y,.fz<|.int b,.fz<|.int<|a%b,.fz<|.int<|a%b]) ?_ ?_ e⟩
   ·simp[lC,aJ,aa,fC,h0]
   ·simp[lA,aL,bu,az,aa,aK,cI,mdI,h0,hb']
theorem pR (a b:Int):jA [.int a,.int b]=.ok (false,.int<|gI a b):=by
 obtain⟨k,z',e⟩:=Yw (.fz<|.int a) (.fz<|.int b) _ (if a<0 then -a else a) (if b<0 then -b else b) .un rfl (by split<;>lia) (by split<;>lia);rw[Xb] at e;have e2:=wN k e;simp[jA,aX,mX,nu,qR,aL,bu,aR,aj,aC,aa,zY,e2,bc,Me.let,Sl.let,aK]
theorem aeB (h:i.natAbs<2^k)(hk:k<=4000:=by decide):Bq i:=Q3<|uo h<|by lia
theorem J3 (hb:b≠0)(hB:Bq b):sY [.int t,.int b]=.ok (false,.tup [.int<|lt t b,.int<|lb t b]):=by
 have hd:=QT (t:=t) hb;have hB':Bq (dv t b):=by
  have h1:=aal (a:=t) hb;have h2:=Va t b;unfold Bq at hB ⊢
  lia
 have e1:dvI t (dv t b)=lt t b:=by
  unfold dvI lt;split
  ·rw[hU t<|by lia]
  ·rfl
 have e2:dvI b (dv t b)=lb t b:=by
  unfold dvI lb;split
  ·rw[hU b<|by lia]
  ·rfl
 by_cases h:b<0
 ·have e:dv t b=-gI t b:=if_pos h;rw[e] at e1 e2 hd hB';have hg:gI t b≠0:=by lia
  simp[hg,sY,aX,yC,yx,aL,bu,fFn,aj,aC,aK,aa,pR,gIf,aJ,fC,gLt,h,fUn,vO,bc,Me.let,Sl.let,bJ,az,gJ,hB',e1,e2]
 ·have e:dv t b=gI t b:=if_neg h;rw[e] at e1 e2 hd hB';have hg:gI t b≠0:=by lia
  simp[hg,sY,aX,yC,yx,aL,bu,fFn,aj,aC,aK,aa,pR,gIf,aJ,fC,gLt,h,gNx,bc,Me.let,Sl.let,bJ,az,gJ,hB',e1,e2,hd]
theorem ix0:atI [a,b] 0=some a:=rfl
theorem ix1:atI [a,b] 1=some b:=rfl
theorem M6 (hb:b≠0)(hB:Bq b):sY [.int t,.int b]=.ok (false,rD<|bX t b):=by
 rw[J3 hb hB];have e:=M8 (t:=t) hb;show _=Res.ok (false,qD<|rq<|bX t b);rw[← e];rfl
theorem Xg (ha:Sz k a)(hb:Sz l b)(hk:k+l<=4000):HH [rD a,rD b]=.ok (false,rD<|a+b):=by
 obtain⟨a1,a2⟩:=Oe ha (by lia);obtain⟨b1,b2⟩:=Oe hb (by lia);have e:=M6 (t:=a.num*b.den+b.num*a.den) (Wu a b)<|aca ha hb hk;rw[aan] at e;simp[HH,aX,Nx,M5,bc,Me.let,Sl.let,fFn,aj,aC,az,aa,fC,gIx,V0,ix0,ix1,pZ,eN,a1,a2,b1,b2];rw[e];simp[V0]
theorem Tp (ha:Sz k a)(hb:Sz l b)(hk:k+l<=4000):Bl [rD a,rD b]=.ok (false,.bl<|decide<|a.num*b.den<b.num*a.den):=by
 obtain⟨a1,a2⟩:=Oe ha (by lia);obtain⟨b1,b2⟩:=Oe hb (by lia);simp[Bl,aX,Ia,IK,bc,Me.let,Sl.let,iV,aj,aC,az,aa,fC,gIx,V0,ix0,ix1,pZ,a1,a2,b1,b2,gLt]
theorem K4 (k:Nat):∀(l:List Rat) (q:Rat) (j:Nat) (s2:Sl),Sz j q->(∀x∈l,Sz k x)->j+l.length*(k+1)<=2000->k<=2000->
  ∃s2',bO (hName 2) zy (l.map rD) [a,.fz<|rD q,s2]=.ok (.nx,[a,.fz<|rD<|q+l.sum,s2'])
 |[],q,j,s2,_,_,_,_=>⟨s2,by simp[bO,Rat.add_zero]⟩
 |x::l,q,j,s2,hq,hl,hj,hk=>by
  have hx:=hl x ar;have hj':j+(l.length+1)*(k+1)<=2000:=hj;rw[Nat.add_mul] at hj';have e:=Xg hq hx (by lia);obtain⟨s2',e'⟩:=K4 k l (q+x) (j+k+1) (.fz<|rD x) (adg hq hx) (λy hy=>hl y<|ah _ hy) (by lia) hk;refine⟨s2',?_⟩;rw[aE,bI (m1:=[a,.fz<|rD q,.fz<|rD x]) (m2:=[a,.fz<|rD<|q+x,.fz<|rD x]) rfl (by simp[zy,bu,fFn,aj,aC,aK,e]),e',AU,AV]
theorem Rv {l:List Rat}(hl:∀x∈l,Sz k x)(hj:1+l.length*(k+1)<=2000)(hk:k<=2000):BP [.lst<|l.map rD]=.ok (false,rD l.sum):=by
 obtain⟨s2',e⟩:=K4 (a:=.fz<|.lst<|l.map rD) k l 0 1 .un Q0 hl hj hk;have e0:rD 0=.tup [.int 0,.int 1]:=rfl;rw[Rat.zero_add,e0] at e;simp[BP,aX,HJ,Hx,FJ,aL,bu,fC,eQ,cZ,aK,aa,e,bc,Me.let,Sl.let]
theorem tL {α:Type}{f:α->D}{b:α->Bool}:∀l:List α,(∀x∈l,f x=.bl (b x))->qw (l.map f)=some (l.map b)
 |[],_=>rfl
 |x::l,h=>by
  have ih:=tL l λy hy=>h y<|ah _ hy;simp[qw,h x ar,ih]
noncomputable def sdD:D->Int
 | .tup [.int s,_,_,_]=>s
 |_=>0
noncomputable def wdD:D->Nat
 | .tup [_,_,.tup ws,_]=>ws.length
 |_=>0
def Vv (d:D):Prop:=∃s n ws r,d=rM s n ws r
theorem Ab {h:Zbb}{ft:Zba}{fe:Zaf}{m0:Me}(P:D->Bool):∀ds:List D,(∀d∈ds,∃m1,h d m0=some m1/\ft m1=.ok (P d)/\fe m1=.ok d)->dZ h ft fe m0 ds=.ok (ds.filter P)
 |[],_=>rfl
 |d::ds,H=>by
  obtain⟨m1,e1,e2,e3⟩:=H d ar;have ih:=Ab P ds λd hd=>H d<|ah _ hd;unfold dZ;rw[List.filter_cons];by_cases q:P d=true
  ·simp only[e1,e2,q,e3,ih,if_pos]
  ·have q':P d=false:=by simpa using q
   simp only[e1,e2,q',ih]
   simp
theorem Hs:∀(l:List (List Int×Gm×Rc)) (T:Tb) (d:D),d∈(l.foldl tst T).2->d∈T.2\/∃p∈l,∃s n ws,p.2.1=.move s n ws/\d=rM s n ws p.2.2
 |[],T,d,h=>.inl h
 |p::l,T,d,h=>by
  rcases Hs l (tst T p) d h with e|⟨q,hq,e⟩
  ·unfold tst at e;split at e
   ·rename_i s n ws ep;split at e
    ·exact .inl e
    ·rcases cm.mp e with e|e
     ·exact .inl e
     ·exact .inr ⟨p,ar,s,n,ws,ep,by simpa using e⟩
   ·exact .inl e
  ·exact .inr ⟨q,ah _ hq,e⟩
theorem Hu {l:List (List Int×Gm×Rc)}{d:D}(h:d∈(tbl l).2):Vv d:=by
 rcases Hs l ([],[]) d h with e|⟨p,_,s,n,ws,_,e⟩
 ·cases e
 ·exact⟨s,n,ws,p.2.2,e⟩
theorem XM {g:Gm}{s:Int}(h:gP g)(hs:sdG g)(hd:dp g<=50)(hz:szG g<=10000):wQ [dG g,.int s]=.ok (true,.lst<|(tbl<|prG [] ([],[]) g).2.filter λd=>decide<|sdD d=s):=by
 have e:=table_eq h hs hd hz;have ec:dZ (hName 0) (aJ gEq (az gIx (aa 0)<|fC<|.int 0)<|aa 1) (aK 0) [.un,.fz<|.int s] (tbl<|prG [] ([],[]) g).2=.ok ((tbl<|prG [] ([],[]) g).2.filter λd=>decide<|sdD d=s):=Ab _ _ λd hd=>by
  obtain⟨a,n,ws,r,rfl⟩:=Hu hd;refine⟨[.fz<|rM a n ws r,.fz<|.int s],rfl,?_,rfl⟩;have x0:∀a b c d:D,atI [a,b,c,d] 0=some a:=λ_ _ _ _=>rfl;simp[aJ,az,aa,fC,gIx,rM,x0,sdD];exact decide_eq_decide.mpr Iff.rfl
 have z1:(tbl<|prG [] ([],[]) g).2.length<=16777216:=by
  have:∀(l:List (List Int×Gm×Rc)) (T:Tb),(l.foldl tst T).2.length<=T.2.length+l.length:=by
   intro l;induction l with
   |nil=>intro T;simp
   |cons p l ih=>
    intro T
    have:=ih<|tst T p
    have q:(tst T p).2.length<=T.2.length+1:=by
     unfold tst;split
     ·split<;>simp
     ·lia
    simp only[mx,cK]
    lia
  have:=this (prG [] ([],[]) g) ([],[])
  rw[uL] at this;simp at this;have e:tbl (prG [] ([],[]) g)=(prG [] ([],[]) g).foldl tst ([],[]):=rfl;rw[e]
  lia
 have eq:vD [.fz<|dG g,.fz<|.int s]=.ok (.lst<|(tbl<|prG [] ([],[]) g).2.filter λd=>decide<|sdD d=s):=by
  simp[vD,cD,cZ,fFn,aj,aC,aK,e,cMe,Sl.bor,ec,z1]
 simp[wQ,zr,zx,aX,jW,Me.let,Sl.let,eq]
theorem DX:∀l:List D,zM (l.map λd=>D.int (wdD d:Int))=some (l.map λd=>(wdD d:Int))
 |[]=>rfl
 |d::l=>by simp[zM,DX l]
theorem count_eq {l:List D}(h:∀d∈l,Vv d)(hz:l.length<=10000):nT [.lst l]=.ok (false,.int (l.map λd=>(wdD d:Int)).sum):=by
 have ec:dZ (hName 0) gV pq [.un] (l.map id)=.ok (l.map λd=>D.int (wdD d:Int)):=fB l λd hd=>by
  obtain⟨a,n,ws,r,rfl⟩:=h d hd;refine⟨[.fz<|rM a n ws r],rfl,rfl,?_⟩;have x2:∀a b c d:D,atI [a,b,c,d] 2=some c:=λ_ _ _ _=>rfl;simp[pq,aR,dC,aj,aC,az,aa,fC,gIx,rM,x2,wdD]
 rw[qS] at ec;have z1:l.length<=16777216:=by lia
 have eq:pK [.fz<|.lst l]=.ok (.lst<|l.map λd=>D.int (wdD d:Int)):=by
  simp[pK,cD,cZ,aa,cMe,ec,z1]
 have es:RL [.lst<|l.map λd=>D.int (wdD d:Int)]=some (.int (l.map λd=>(wdD d:Int)).sum):=by
  show(zM _).map _=_;rw[DX];rfl
 simp[nT,sO,sJ,aX,bc,Me.let,Sl.let,aR,aj,aC,eq,es]
theorem aco:dg [dG<|.fin d]=.ok (true,.lst [qD d]):=by rfl
theorem Ov (h:lz ws<=100):dg [dG<|.deal n ws]=.ok (true,.lst<|ik ws):=by
 have x0:∀a b c:D,atI [a,b,c] 0=some a:=λ_ _ _=>rfl;have x2:∀a b c:D,atI [a,b,c] 2=some c:=λ_ _ _=>rfl;have hz:(ik ws).length<=16777216:=by rw[qm];lia
 have hz2:(dWs ws).length<=16777216:=by rw[mD];lia
 have e:nH [.fz<|dG<|.deal n ws]=.ok (.lst<|ik ws):=by
  simp[nH,cD,jk,az,aa,fC,gIx,dG,x2,cMe,m5,hz,hz2]
 simp only[dG] at e;simp[dg,qQ,qF,aX,aL,gIf,aJ,az,aa,fC,gIx,dG,x0,jW,Me.let,Sl.let,gNx,e]
theorem XD:dg [dG<|.move s n ws]=.ok (true,.lst []):=by rfl
theorem Zq {α:Type}{f:α->D}{l:List α}(h:∀x∈l,f x=.bl true):Tw [.lst<|l.map f]=some (.bl true):=by
 have:=tL (b:=λ_=>true) l h
 show(qw<|l.map f).map (λbs=>D.bl<|bs.all id)=_;rw[this]
 simp
theorem ab1 (h:kn s n=kn t m):s=t/\n=m:=by
 unfold kn at h;injection h with h1 h2
 injection h1 with h1
 injection h1 with h1
 injection h2 with h2
 injection h2 with h2
 injection h2 with h2
 exact⟨h1,h2⟩
end Pk
namespace Lw
open PySem L2 Hd F Pk
theorem itD (h:f m=.ok [.int i,.int j,.int (-1)])(h1:-1000000000<=i)(h2:i<=1000000000)(h3:-1000000000<=j)(h4:j<=1000000000):Y7 f m=.ok ((cx (i-j).toNat).map λ(k:Nat)=>D.int<|i-k):=by simp_all[if_pos,Y7]
noncomputable def ptW (f:D->Rc):Ws->List (Gm×Rc)
 | .nil=>[]
 | .cons l g r=>(g,f l)::ptW f r
def ptG (g:Gm)(r:Rc):List (Gm×Rc):=ptW (rbg g r)<|zB g
def jO (p:Gm×Rc):D:=.tup [dG p.1,rD2 p.2]
noncomputable def ch (w:List Int)(L:List (Gm×Rc))(i:Nat):List (List Int×Gm×Rc):=(L.zipIdx i).map λp=>(w++[(p.2:Int)],p.1.1,p.1.2)
theorem Mp (w:List Int)(f:D->Rc):∀(i:Nat) (ws:Ws),prW w f i ws=(ch w (ptW f ws) i).flatMap λp=>prG p.1 p.2.2 p.2.1
 |i,.nil=>rfl
 |i,.cons l g r=>by
  show prG (w++[(i:Int)]) (f l) g++prW w f (i+1) r=_;rw[Mp w f (i+1) r];rfl
theorem abY (w:List Int)(r:Rc)(g:Gm):prG w r g=(w,g,r)::(ch w (ptG g r) 0).flatMap λp=>prG p.1 p.2.2 p.2.1:=by
 cases g with
 |fin d=>rfl
 |deal n ws=>show(w,Gm.deal n ws,r)::prW w (λ_=>r) 0 ws=_;rw[Mp];rfl
 |move s n ws=>show(w,Gm.move s n ws,r)::prW w (rbm s n r) 0 ws=_;rw[Mp];rfl
theorem Og (f:D->Rc):∀ws:Ws,(ptW f ws).length=lz ws
 | .nil=>rfl
 | .cons l g r=>by show(ptW f r).length+1=_;rw[Og f r];rfl
theorem G8 (f:D->Rc):∀ws:Ws,(ptW f ws).map (·.1)=jV ws
 | .nil=>rfl
 | .cons l g r=>by show g::(ptW f r).map (·.1)=_;rw[G8 f r];rfl
theorem Dv {n:Str}{r:Rc}:∀ws:Ws,dZ (fJ 2<|aW (hName 0)<|aW (hName 1) fP) gV pP [.un,.un,.fz<|rD2 r] (dWs ws)=.ok ((ptW (λ_=>r) ws).map jO)
 | .nil=>rfl
 | .cons l g rr=>by
  have ih:=Dv (n:=n) (r:=r) rr;have e:pP [.fz l,.fz<|dG g,.fz<|rD2 r]=.ok (jO (g,r)):=rfl;unfold dWs dZ;simp[fJ,aW,hName,fP,gV,e,ih,ptW]
theorem CW (hs:s=1\/s=2)(hr:r.1.length<=1000/\r.2.length<=1000):∀(ws:Ws) (P:List D) (s7 s8 s9:Sl),P.length+lz ws<=1000->
  ∃s7' s8' s9',bO (fJ 2<|aW (hName 7)<|aW (hName 8) fP) iY (dWs ws) [g0,s1,s2,s3,.fz<|.tup [.str "move",.int s,.str n,W],.fz<|rD2 r,.ow<|.lst P,s7,s8,s9,s10]=.ok (.nx,[g0,s1,s2,s3,.fz<|.tup [.str "move",.int s,.str n,W],.fz<|rD2 r,.ow<|.lst<|P++(ptW (rbm s n r) ws).map jO,s7',s8',s9',s10])
 | .nil,P,s7,s8,s9,_=>⟨s7,s8,s9,by simp[dWs,bO,ptW]⟩
 | .cons l g rr,P,s7,s8,s9,hz=>by
  have hz':P.length+(lz rr+1)<=1000:=hz;obtain⟨a,b,c,e⟩:=CW (g0:=g0) (s1:=s1) (s2:=s2) (s3:=s3) (s10:=s10) (s:=s) (n:=n) (W:=W) (r:=r) hs hr rr (P++[jO (g,rbm s n r l)]) (.fz l) (.fz<|dG g) (.ow<|.lst [.tup (rbm s n r l).1,.tup (rbm s n r l).2]) (by rw[bt,eM];lia);refine⟨a,b,c,?_⟩;have x41:∀a b c d:D,atI [a,b,c,d] 1=some b:=λ_ _ _ _=>rfl;have x42:∀a b c d:D,atI [a,b,c,d] 2=some c:=λ_ _ _ _=>rfl;have x20:∀a b:D,atI [a,b] 0=some a:=λ_ _=>rfl;have x21:∀a b:D,atI [a,b] 1=some b:=λ_ _=>rfl;have n0:ixN 2 0=some 0:=rfl;have n1:ixN 2 1=some 1:=rfl;have z1:r.1.length+1<=16777216:=by lia
  have z2:r.2.length+1<=16777216:=by lia
  have z3:P.length<16777216:=by lia
  have st:iY [g0,s1,s2,s3,.fz<|.tup [.str "move",.int s,.str n,W],.fz<|rD2 r,.ow<|.lst P,.fz l,.fz<|dG g,s9,s10]=.ok (.nx,[g0,s1,s2,s3,.fz<|.tup [.str "move",.int s,.str n,W],.fz<|rD2 r,.ow<|.lst<|P++[jO (g,rbm s n r l)],.fz l,.fz<|dG g,.ow<|.lst [.tup (rbm s n r l).1,.tup (rbm s n r l).2],s10]):=by
   rcases hs with rfl|rfl
   ·simp[iY,aL,gQ,aR,Q5,aj,aC,aa,rD2,yj,az,gIx,x41,x42,fC,F.lV,x20,x21,pB,putL,bJ,aK,eN,z1,n0,dU,nM,z3,jO,rbm]
   ·simp[iY,aL,gQ,aR,Q5,aj,aC,aa,rD2,yj,az,gIx,x41,x42,fC,F.lV,x20,x21,pB,putL,bJ,aK,eN,z2,n1,dU,nM,z3,jO,rbm]
  show bO _ _ (.tup [l,dG g]::dWs rr) _=_;rw[bI (m1:=[g0,s1,s2,s3,.fz<|.tup [.str "move",.int s,.str n,W],.fz<|rD2 r,.ow<|.lst P,.fz l,.fz<|dG g,s9,s10]) rfl st,e];rw[fF];rfl
theorem CP (hw:w.length<=1000):∀(c:Nat) (S:List D) (s10:Sl),c<=L.length->S.length+c<=100000->
  ∃s10',bO (hName 10) j5 ((cx c).map λ(k:Nat)=>D.int<|(c:Int)-1-k) [g0,s1,.ow<|.lst S,.fz<|.tup<|w.map D.int,s4,s5,.ow<|.lst<|L.map jO,s7,s8,s9,s10]=.ok (.nx,[g0,s1,.ow<|.lst<|S++(((ch w L 0).take c).map trD).reverse,.fz<|.tup<|w.map D.int,s4,s5,.ow<|.lst<|L.map jO,s7,s8,s9,s10'])
 |0,S,s10,_,_=>⟨s10,by simp[bO]⟩
 |c+1,S,s10,hc,hz=>by
  have hi:c<L.length:=by lia
  obtain⟨a,e⟩:=CP (g0:=g0) (s1:=s1) (s4:=s4) (s5:=s5) (s7:=s7) (s8:=s8) (s9:=s9) (L:=L) hw c (S++[trD (w++[(c:Int)],L[c].1,L[c].2)]) (.fz<|.int (c:Int)) (by lia) (by rw[bt,eM];lia);refine⟨a,?_⟩;have el:(L.map jO)[c]? = some (jO L[c]):=by rw[bg,a9 hi];rfl
  have ea:=jH el;have x20:∀a b:D,atI [a,b] 0=some a:=λ_ _=>rfl;have x21:∀a b:D,atI [a,b] 1=some b:=λ_ _=>rfl;have z1:w.length+1<=16777216:=by lia
  have z2:S.length<16777216:=by lia
  have st:j5 [g0,s1,.ow<|.lst S,.fz<|.tup<|w.map D.int,s4,s5,.ow<|.lst<|L.map jO,s7,s8,s9,.fz<|.int (c:Int)]=.ok (.nx,[g0,s1,.ow<|.lst<|S++[trD (w++[(c:Int)],L[c].1,L[c].2)],.fz<|.tup<|w.map D.int,s4,s5,.ow<|.lst<|L.map jO,s7,s8,s9,.fz<|.int (c:Int)]):=by
   simp[j5,dU,pB,putL,bJ,aj,aC,az,aa,aK,eN,z1,gIx,ea,jO,x20,x21,fC,z2,trD]
  have er:(cx<|c+1).map (λ(k:Nat)=>D.int<|((c+1:Nat):Int)-1-k)=D.int (c:Int)::(cx c).map λ(k:Nat)=>D.int ((c:Int)-1-k):=by
   rw[w4,aE,gv];congr 1
   ·congr 1;lia
   ·refine kG λk _=>?_;show D.int _=D.int _;congr 1;simp only[Nat.succ_eq_add_one]
    lia
  rw[er,bI (m1:=[g0,s1,.ow<|.lst S,.fz<|.tup<|w.map D.int,s4,s5,.ow<|.lst<|L.map jO,s7,s8,s9,.fz<|.int (c:Int)]) rfl st,e];have et:(ch w L 0).take (c+1)=(ch w L 0).take c++[(w++[(c:Int)],L[c].1,L[c].2)]:=by
   have hl:c<(ch w L 0).length:=by unfold ch;simp;exact hi
   rw[List.take_succ_eq_append_getElem hl];congr 1;simp[ch]
  rw[et,dE,qA]
  simp
theorem Xo {g0 s3 s4 s5 s6 s7 s8 s9 s10:Sl}{F0 S:List D}{w:List Int}{g:Gm}{r:Rc}(h:gP g)(hs:∀s n ws,g=.move s n ws->s=1\/s=2)(hr:r.1.length<=1000/\r.2.length<=1000)(hw:w.length<=1000)(hf:F0.length<=100000)(hS:S.length<=90000):
  ∃t3 t4 t5 t6 t7 t8 t9 t10,gq [g0,.ow<|.lst F0,.ow<|.lst<|S++[trD (w,g,r)],s3,s4,s5,s6,s7,s8,s9,s10]=.ok (.nx,[g0,.ow<|.lst<|F0++[trD (w,g,r)],.ow<|.lst<|S++((ch w (ptG g r) 0).map trD).reverse,t3,t4,t5,t6,t7,t8,t9,t10]):=by
 have x20:∀a b:D,atI [a,b] 0=some a:=λ_ _=>rfl;have x30:∀a b c:D,atI [a,b,c] 0=some a:=λ_ _ _=>rfl;have x32:∀a b c:D,atI [a,b,c] 2=some c:=λ_ _ _=>rfl;have x40:∀a b c d:D,atI [a,b,c,d] 0=some a:=λ_ _ _ _=>rfl;have x43:∀a b c d:D,atI [a,b,c,d] 3=some d:=λ_ _ _ _=>rfl;have z1:F0.length<16777216:=by lia
 have main:∀(P:List (Gm×Rc)) (u7 u8 u9:Sl),P=ptG g r->P.length<=100->∃t10,pM [g0,.ow<|.lst<|F0++[trD (w,g,r)],.ow<|.lst S,.fz<|.tup<|w.map D.int,.fz<|dG g,.fz<|rD2 r,.ow<|.lst<|P.map jO,u7,u8,u9,s10] =
   .ok (.nx,[g0,.ow<|.lst<|F0++[trD (w,g,r)],.ow<|.lst<|S++((ch w (ptG g r) 0).map trD).reverse,.fz<|.tup<|w.map D.int,.fz<|dG g,.fz<|rD2 r,.ow<|.lst<|P.map jO,u7,u8,u9,t10]):=λP u7 u8 u9 hP hl=>by
  obtain⟨t10,e⟩:=CP (g0:=g0) (s1:=.ow<|.lst<|F0++[trD (w,g,r)]) (s4:=.fz<|dG g) (s5:=.fz<|rD2 r) (s7:=u7) (s8:=u8) (s9:=u9) (w:=w) (L:=P) hw P.length S s10 (aI _) (by lia);refine⟨t10,?_⟩;have e1:(aj (az lV (aR dC<|aj (aa 6) aC)<|fC<|.int 1)<|aj (fUn vO<|fC<|.int 1)<|aj (fUn vO<|fC<|.int 1) aC) [g0,.ow<|.lst<|F0++[trD (w,g,r)],.ow<|.lst S,.fz<|.tup<|w.map D.int,.fz<|dG g,.fz<|rD2 r,.ow<|.lst<|P.map jO,u7,u8,u9,s10]=.ok [.int<|(P.length:Int)-1,.int (-1),.int (-1)]:=by
   simp[aj,aC,az,aR,dC,aa,fC,F.lV,fUn,vO]
  have e2:=itD e1 (by lia) (by lia) (by lia) (by lia);unfold pM eQ;rw[e2];have e3:((P.length:Int)-1 - -1).toNat=P.length:=by lia
  rw[e3];have e4:(ch w P 0).take P.length=ch w P 0:=kP (by unfold ch;simp);rw[e4,hP] at e;rw[hP];exact e
 have hlp:(ptG g r).length<=100:=by
  unfold ptG;rw[Og,← jb,← BJ];exact yV h
 cases g with
 |fin d=>
  obtain⟨t10,e⟩:=main [] s7 s8 s9 rfl (by simp);refine⟨.fz<|.tup<|w.map D.int,.fz<|dG<|.fin d,.fz<|rD2 r,.ow<|.lst [],s7,s8,s9,t10,?_⟩;simp only[trD,dG,r6] at e ⊢;simp[gq,aL,Kd,Jv,pB,putL,fJ,aW,hName,fP,dU,bJ,aj,aC,aK,z1,gQ,gO,gIf,aJ,az,aa,fC,gIx,x20,gNx,e]
 |deal n ws=>
  obtain⟨t10,e⟩:=main (ptW (λ_=>r) ws) s7 s8 s9 rfl hlp;have ec:=Dv (n:=n) (r:=r) ws;have hz2:(dWs ws).length<=16777216:=by rw[mD];have:=h.1;lia
  have eq:∀a b c,pH [g0,a,b,c,.fz<|dG<|.deal n ws,.fz<|rD2 r,.ow<|.lst [],s7,s8,s9,s10]=.ok (.lst<|(ptW (λ_=>r) ws).map jO):=λa b c=>by
   simp[pH,cD,jk,az,aa,fC,gIx,dG,x32,cMe,Sl.bor,ec,hz2]
  refine⟨.fz<|.tup<|w.map D.int,.fz<|dG<|.deal n ws,.fz<|rD2 r,.ow<|.lst<|(ptW (λ_=>r) ws).map jO,s7,s8,s9,t10,?_⟩;simp only[trD,dG] at e eq ⊢;simp[gq,aL,Kd,Jv,pB,putL,fJ,aW,hName,fP,dU,bJ,aj,aC,aK,z1,gQ,gO,gIf,aJ,az,aa,fC,gIx,x30,gNx,eq,e]
 |move s n ws=>
  obtain⟨u7,u8,u9,em⟩:=CW (g0:=g0) (s1:=.ow<|.lst<|F0++[trD (w,.move s n ws,r)]) (s2:=.ow<|.lst S) (s3:=.fz<|.tup<|w.map D.int) (s10:=s10) (n:=n) (W:=.tup<|dWs ws) (hs s n ws rfl) hr ws [] s7 s8 s9 (by have:=h.1;simp;lia);obtain⟨t10,e⟩:=main (ptW (rbm s n r) ws) u7 u8 u9 rfl hlp;have hz2:(dWs ws).length<=16777216:=by rw[mD];have:=h.1;lia
  have eL:o9 [g0,.ow<|.lst<|F0++[trD (w,.move s n ws,r)],.ow<|.lst S,.fz<|.tup<|w.map D.int,.fz<|dG<|.move s n ws,.fz<|rD2 r,.ow<|.lst [],s7,s8,s9,s10]=.ok (.nx,[g0,.ow<|.lst<|F0++[trD (w,.move s n ws,r)],.ow<|.lst S,.fz<|.tup<|w.map D.int,.fz<|dG<|.move s n ws,.fz<|rD2 r,.ow<|.lst<|(ptW (rbm s n r) ws).map jO,u7,u8,u9,s10]):=by
   have ei:jk (az gIx (aa 4)<|fC<|.int 3) [g0,.ow<|.lst<|F0++[trD (w,.move s n ws,r)],.ow<|.lst S,.fz<|.tup<|w.map D.int,.fz<|dG<|.move s n ws,.fz<|rD2 r,.ow<|.lst [],s7,s8,s9,s10]=.ok (dWs ws):=by
    simp[jk,az,aa,fC,gIx,dG,x43]
   unfold o9 eQ;rw[ei];rw[pz] at em;exact em
  refine⟨.fz<|.tup<|w.map D.int,.fz<|dG<|.move s n ws,.fz<|rD2 r,.ow<|.lst<|(ptW (rbm s n r) ws).map jO,u7,u8,u9,t10,?_⟩;simp only[trD,dG] at e eL ⊢;simp[gq,aL,Kd,Jv,pB,putL,fJ,aW,hName,fP,dU,bJ,aj,aC,aK,z1,gQ,gO,gIf,aJ,az,aa,fC,gIx,x40,gNx,eL,e]
abbrev Tr:=List Int×Gm×Rc
noncomputable def szT (st:List Tr):Nat:=(st.map λp=>szG p.2.1).sum
theorem abr (w:List Int)(g:Gm)(r:Rc):szT (ch w (ptG g r) 0)+1=szG g:=by
 have e:∀(i:Nat) (L:List (Gm×Rc)),(ch w L i).map (λp=>szG p.2.1)=L.map λp=>szG p.1:=by
  intro i L;induction L generalizing i with
  |nil=>rfl
  |cons x L ih=>
   show szG x.1::((ch w L<|i+1).map λp=>szG p.2.1)=_;rw[ih];rfl
 unfold szT;rw[e,We,BJ,← G8 (rbg g r),gv];rfl
theorem PJ:∀st:List Tr,st.length<=szT st
 |[]=>eW _
 |p::st=>by
  have:=PJ st
  have:=uF p.2.1
  show st.length+1<=szG p.2.1+szT st
  lia
theorem QG (a b:List Tr):szT (a++b)=szT a+szT b:=by unfold szT;rw[dE,List.sum_append]
def wt (p:Tr):Prop:=gP p.2.1/\sdG p.2.1/\p.1.length+dp p.2.1<=100/\p.2.2.1.length+dp p.2.1<=100/\p.2.2.2.length+dp p.2.1<=100
theorem BW:∀{ws:Ws} {k:Gm},sdW ws->k∈jV ws->sdG k
 | .cons l g r,k,h,hk=>by
  rcases bE.mp hk with e|e
  ·rw[e];exact h.1
  ·exact BW h.2 e
theorem Xq (h:sdG g)(hk:k∈kids g):sdG k:=by
 cases g with
 |fin d=>cases hk
 |deal n ws=>exact BW h hk
 |move s n ws=>exact BW h.2 hk
theorem O2 (f:D->Rc):∀{ws:Ws} {p:Gm×Rc},p∈ptW f ws->∃l,p.2=f l
 | .cons l g r,p,h=>by
  rcases bE.mp h with e|e
  ·exact⟨l,by rw[e]⟩
  ·exact O2 f e
theorem Yn (g:Gm)(r:Rc)(l:D):(rbg g r l).1.length<=r.1.length+1/\(rbg g r l).2.length<=r.2.length+1:=by
 cases g with
 |fin d=>exact⟨by simp[rbg],by simp[rbg]⟩
 |deal n ws=>exact⟨by simp[rbg],by simp[rbg]⟩
 |move s n ws=>by_cases hs:s=1<;>simp[rbg,rbm,hs]
theorem ae1 (h:wt (w,g,r)):∀p∈ch w (ptG g r) 0,wt p:=λp hp=>by
 unfold ch at hp;obtain⟨q,hq,rfl⟩:=d3.mp hp;have h1:q.1∈ptG g r:=by have:=ma (f:=BH) hq;rwa [l9] at this
 have h2:q.1.1∈kids g:=by
  rw[BJ,← G8 (rbg g r)];exact ma h1
 obtain⟨l,el⟩:=O2 _ h1;have hd:=Pz h2;refine Fe h λa b c d e=>?_;have rl:=Yn g r l;simp only at a b c d e;refine⟨(FZ a h2).1,Xq b h2,?_,?_,?_⟩
 ·show(w++[_]).length+dp q.1.1<=100;rw[bt,eM]
  lia
 ·show q.1.2.1.length+dp q.1.1<=100;rw[el]
  lia
 ·show q.1.2.2.length+dp q.1.1<=100;rw[el]
  lia
theorem aaj (a:Sl):∀(N:Nat) (done st:List Tr) (s3 s4 s5 s6 s7 s8 s9 s10:Sl),szT st=N->(∀p∈st,wt p)->done.length+szT st<=50000->
  ∃k m',wh kj gq k [a,.ow<|.lst<|done.map trD,.ow<|.lst<|(st.map trD).reverse,s3,s4,s5,s6,s7,s8,s9,s10]=some (.ok (.nx,a::.ow (.lst<|(done++st.flatMap λp=>prG p.1 p.2.2 p.2.1).map trD)::m')):=by
 intro N;induction N using qB with
 |_ N ih=>
  intro done st s3 s4 s5 s6 s7 s8 s9 s10 hN hs hz;cases st with
  |nil=>
   refine⟨1,[.ow<|.lst [],s3,s4,s5,s6,s7,s8,s9,s10],?_⟩;simp only[r6,List.reverse_nil,oB,cw];exact Bk<|by simp[kj,aJ,aR,dC,aj,aC,aa,fC,gGt]
  |cons p st=>
   obtain⟨w,g,r⟩:=p;have h1:wt (w,g,r):=hs _ (by simp);have sb:=abr w g r;have hsum:szT ((w,g,r)::st)=szG g+szT st:=rfl;have ls:=PJ st;have gp:=uF g;refine Fe h1 λwa wb wc wd we=>?_;simp only at wa wb wc wd we;obtain⟨t3,t4,t5,t6,t7,t8,t9,t10,e1⟩:=Xo (g0:=a) (s3:=s3) (s4:=s4) (s5:=s5) (s6:=s6) (s7:=s7) (s8:=s8) (s9:=s9) (s10:=s10) (F0:=done.map trD) (S:=(st.map trD).reverse) (w:=w) (g:=g) (r:=r) wa (λs n ws e=>by rw[e] at wb;exact wb.1) ⟨by lia,by lia⟩ (by lia) (by simp;lia) (by simp;lia);obtain⟨k,m',e⟩:=ih (szT<|ch w (ptG g r) 0++st) (by rw[QG];lia) (done++[(w,g,r)]) (ch w (ptG g r) 0++st) t3 t4 t5 t6 t7 t8 t9 t10 rfl (λp hp=>by
    rcases cm.mp hp with v|v
    ·exact ae1 ⟨wa,wb,wc,wd,we⟩ p v
    ·exact hs p<|by simp[v]) (by rw[QG,bt];simp;lia)
   refine⟨k+1,m',?_⟩;have e3:done++((w,g,r)::st).flatMap (λp=>prG p.1 p.2.2 p.2.1)=done++[(w,g,r)]++(ch w (ptG g r) 0++st).flatMap λp=>prG p.1 p.2.2 p.2.1:=by
    rw[nv,AA,abY]
    simp
   rw[e3];refine Bs (m':=[a,.ow<|.lst<|(done++[(w,g,r)]).map trD,.ow<|.lst<|((ch w (ptG g r) 0++st).map trD).reverse,t3,t4,t5,t6,t7,t8,t9,t10]) ?_ ?_ e
   ·simp[kj,aJ,aR,dC,aj,aC,aa,fC,gGt]
   ·rw[aE,kl,e1,dE,dE,qA];rfl
theorem Ks (e:L [.fz d,.ow<|.lst [],.ow<|.lst [.tup [.tup [],d,.tup [.tup [],.tup []]]],.un,.un,.un,.un,.un,.un,.un,.un]=.ok (.nx,.fz d::.ow (.lst ps)::m')):aX 11 1 (oF L) [d]=.ok (true,.lst ps):=by
 simp[aX,oF,aL,gQ,gO,aj,aC,bJ,aK,e,uV]
theorem xJ (h:gP g)(hs:sdG g)(hd:dp g<=50)(hz:szG g<=10000):gD [dG g]=.ok (true,.lst<|(prG [] ([],[]) g).map trD):=by
 obtain⟨k,m',e⟩:=aaj (.fz<|dG g) _ [] [([],g,([],[]))] .un .un .un .un .un .un .un .un rfl (λp hp=>by rw[cb.mp hp];exact⟨h,hs,by simp;lia,by simp;lia,by simp;lia⟩) (by show 0+(szG g+0)<=_;lia);have e2:=wN k e;simp only[pz,nv,oB,cw] at e2;exact Ks e2
noncomputable def tru (ks:List (List Kt)):List D:=ks.map λ_=>.bl true
theorem Qy:∀{ks:List (List Kt)} {ds:List D},ks.length=ds.length->(d9 ks (tru ks) k).isSome=(d9 ks ds k).isSome
 |[],[],_=>rfl
 |[],_::_,h=>by simp at h
 |_::_,[],h=>by simp at h
 |a::ks,d::ds,h=>by
  show(d9 (a::ks) (.bl true::tru ks) k).isSome=_;unfold d9;split
  ·rfl
  ·exact Qy<|by simpa using h
theorem YW (h:(d9 ks (tru ks) k).isSome=false):vB ks (tru ks) k (.bl true)=(ks++[k],tru<|ks++[k]):=by
 have hn:k∉ks:=λhk=>by
  have:∀{ks:List (List Kt)},k∈ks->(d9 ks (tru ks) k).isSome=true:=by
   intro ks;induction ks with
   |nil=>intro h;cases h
   |cons a ks ih=>
    intro h;show(d9 (a::ks) (.bl true::tru ks) k).isSome=true;unfold d9;split
    ·rfl
    ·rename_i q;rcases bE.mp h with e|e
     ·exact absurd e.symm q
     ·exact ih e
  rw[this hk] at h;cases h
 unfold vB;rw[if_neg λz=>hn<|Io.mp z];simp[tru]
theorem YB (hp:okP p)(hl:T.1.length=T.2.length)(hz:T.1.length<=100000):∃m1 s6',fJ 3 (aW (hName 3)<|aW (hName 4)<|aW (hName 5) fP) (trD p) [g0,.ow<|.lst T.2,.ow<|.dcu T.1<|tru T.1,s3,s4,s5,s6]=some m1/\
  eF m1=.ok (.nx,[g0,.ow<|.lst (tst T p).2,.ow<|.dcu (tst T p).1<|tru (tst T p).1,.fz<|.tup<|p.1.map D.int,.fz<|dG p.2.1,.fz<|rD2 p.2.2,s6'])/\(tst T p).1.length=(tst T p).2.length:=by
 obtain⟨w,g,r⟩:=p;have x20:∀a b:D,atI [a,b] 0=some a:=λ_ _=>rfl;have x21:∀a b:D,atI [a,b] 1=some b:=λ_ _=>rfl;have x30:∀a b c:D,atI [a,b,c] 0=some a:=λ_ _ _=>rfl;have x40:∀a b c d:D,atI [a,b,c,d] 0=some a:=λ_ _ _ _=>rfl;have x41:∀a b c d:D,atI [a,b,c,d] 1=some b:=λ_ _ _ _=>rfl;have x42:∀a b c d:D,atI [a,b,c,d] 2=some c:=λ_ _ _ _=>rfl;have x43:∀a b c d:D,atI [a,b,c,d] 3=some d:=λ_ _ _ _=>rfl;cases g with
 |fin d=>exact⟨_,s6,rfl,by simp[eF,gIf,ji,aJ,az,aa,fC,gIx,dG,x20,gNx,tst],by simpa[tst] using hl⟩
 |deal n ws=>exact⟨_,s6,rfl,by simp[eF,gIf,ji,aJ,az,aa,fC,gIx,dG,x30,gNx,tst],by simpa[tst] using hl⟩
 |move s n ws=>
  have hp:(s=1\/s=2)/\lz ws<=100:=hp;have kk:xY (.tup [.int s,.str n])=some (kn s n):=rfl;have z1:T.1.length<16777216:=by lia
  have z2:T.2.length<16777216:=by lia
  have hz1:(ik ws).length<=16777216:=by rw[qm];lia
  have hz2:(dWs ws).length<=16777216:=by rw[mD];lia
  have vt:=Qy (k:=kn s n) hl;have eq:∀a b c,qK [g0,a,b,c,.fz<|dG<|.move s n ws,.fz<|rD2 r,s6]=.ok (.lst<|ik ws):=λa b c=>by
   simp[qK,cD,jk,az,aa,fC,gIx,dG,x43,cMe,m5,hz1,hz2]
  simp only[dG,rD2] at eq;by_cases q:(d9 T.1 T.2<|kn s n).isSome=true
  ·rw[q] at vt;refine⟨_,s6,rfl,?_,by simp[tst,q,hl]⟩;simp[eF,gIf,ji,aJ,az,aa,fC,gIx,dG,x40,x41,x42,gNx,tst,q,Ka,ZX,dcK,bJ,aj,aC,kk,vt]
  ·have q':(d9 T.1 T.2<|kn s n).isSome=false:=by simpa using q
   rw[q'] at vt;have pt:=YW vt;refine⟨_,.fz<|.tup<|ik ws,rfl,?_,by simp[tst,q',hl]⟩;rcases hp.1 with rfl|rfl
   ·simp[eF,gIf,ji,aJ,az,aa,fC,gIx,dG,x40,x41,x42,aL,Gg,Bd,rB,tst,q',Ka,ZX,dcK,bJ,aj,aC,kk,vt,z1,pt,bu,aR,nM,eq,hz1,dU,pB,putL,z2,aK,rD2,F.lV,x20,x21,rM,oZ]
   ·simp[eF,gIf,ji,aJ,az,aa,fC,gIx,dG,x40,x41,x42,aL,Gg,Bd,rB,tst,q',Ka,ZX,dcK,bJ,aj,aC,kk,vt,z1,pt,bu,aR,nM,eq,hz1,dU,pB,putL,z2,aK,rD2,F.lV,x20,x21,rM,oZ]
theorem O7:∀(l:List Tr) (T:Tb) (s3 s4 s5 s6:Sl),(∀p∈l,okP p)->T.1.length=T.2.length->T.1.length+l.length<=100000->∃m',bO (fJ 3<|aW (hName 3)<|aW (hName 4)<|aW (hName 5) fP) eF (l.map trD) [g0,.ow<|.lst T.2,.ow<|.dcu T.1<|tru T.1,s3,s4,s5,s6]=.ok (.nx,g0::.ow (.lst (l.foldl tst T).2)::m')
 |[],T,s3,s4,s5,s6,_,_,_=>⟨_,rfl⟩
 |p::l,T,s3,s4,s5,s6,hp,hl,hz=>by
  have hz':T.1.length+(l.length+1)<=100000:=hz;refine Ae (YB (g0:=g0) (s3:=s3) (s4:=s4) (s5:=s5) (s6:=s6) (T:=T) (hp p ar) hl<|by lia) λm1 s6' e1 e2 e3=>?_
  have:=Ri T p
  obtain⟨m',e⟩:=O7 l (tst T p) (.fz<|.tup<|p.1.map D.int) (.fz<|dG p.2.1) (.fz<|rD2 p.2.2) s6' (λq hq=>hp q<|ah _ hq) e3 (by lia);exact⟨m',by rw[aE,bI e1 e2,e];rfl⟩
theorem Fz (h:gP g)(hs:sdG g)(hd:dp g<=50)(hz:szG g<=10000):gC [dG g]=.ok (true,.lst (tbl<|prG [] ([],[]) g).2):=by
 have e:=xJ h hs hd hz;obtain⟨m',e2⟩:=O7 (g0:=.fz<|dG g) (prG [] ([],[]) g) ([],[]) .un .un .un .un (V2 _ _ g h hs) rfl (by rw[uL];simp;lia);have eL:qM [.fz<|dG g,.ow<|.lst [],.ow<|.dcu [] [],.un,.un,.un,.un]=.ok (.nx,.fz (dG g)::.ow (.lst (tbl<|prG [] ([],[]) g).2)::m'):=by
  have e1:cZ (fFn gD<|aj (aK 0) aC) [.fz<|dG g,.ow<|.lst [],.ow<|.dcu [] [],.un,.un,.un,.un]=.ok ((prG [] ([],[]) g).map trD):=by
   simp[cZ,fFn,aj,aC,aK,e]
  unfold qM eQ;rw[e1];exact e2
 simp[gC,uJ,uG,aX,aL,gQ,gO,aC,Aa,eL,uV]
def prd (d:D):Prop:=∃a b:Str,d=.tup [.str a,.str b]
def wrd (d:D):Prop:=∃a:Str,d=.str a
theorem HD (a:Str):gZ [.str a]=.ok (false,.bl true):=rfl
theorem JR:∀(l:List D) (s1:Sl),(∀d∈l,prd d)->∃s1',bO (hName 1) lE l [f0,s1]=.ok (.nx,[f0,s1'])
 |[],s1,_=>⟨s1,rfl⟩
 |d::l,s1,h=>by
  obtain⟨a,b,rfl⟩:=h d ar;obtain⟨s',e⟩:=JR (f0:=f0) l (.fz<|.tup [.str a,.str b]) λx hx=>h x<|ah _ hx;refine⟨s',?_⟩;have x20:∀a b:D,atI [a,b] 0=some a:=λ_ _=>rfl;have x21:∀a b:D,atI [a,b] 1=some b:=λ_ _=>rfl;rw[bI (m1:=[f0,.fz<|.tup [.str a,.str b]]) (m2:=[f0,.fz<|.tup [.str a,.str b]]) rfl ?_,e];simp[lE,gIf,dY,dJ,fTv,wF,aa,aJ,aR,dC,aj,aC,fC,fFn,az,gIx,x20,x21,HD,gNx,mU,S9]
theorem ade (h:∀d∈l,prd d):jC [.tup l]=.ok (false,.bl true):=by
 obtain⟨s',e⟩:=JR (f0:=.fz<|.tup l) l .un h;have eL:qL [.fz<|.tup l,.un]=.ok (.nx,[.fz<|.tup l,s']):=e;simp[jC,nD,nQ,aX,aL,gIf,dJ,fTv,wF,aa,gNx,eL,bc,Me.let,Sl.let,fC,mU,S9]
def MJ (d:D):Prop:=∃s n ws rc,d=.tup [.int s,.str n,.tup ws,.tup rc]/\(∀x∈ws,wrd x)/\ws.length<=1000/\∀x∈rc,prd x
theorem JM:∀(l:List D) (s1:Sl),(∀d∈l,MJ d)->∃s1',bO (hName 1) mK l [f0,s1]=.ok (.nx,[f0,s1'])
 |[],s1,_=>⟨s1,rfl⟩
 |d::l,s1,h=>by
  obtain⟨s,n,ws,rc,rfl,h1,h2,h3⟩:=h d ar;obtain⟨s',e⟩:=JM (f0:=f0) l (.fz<|.tup [.int s,.str n,.tup ws,.tup rc]) λx hx=>h x<|ah _ hx;refine⟨s',?_⟩;have x0:∀a b c d:D,atI [a,b,c,d] 0=some a:=λ_ _ _ _=>rfl;have x1:∀a b c d:D,atI [a,b,c,d] 1=some b:=λ_ _ _ _=>rfl;have x2:∀a b c d:D,atI [a,b,c,d] 2=some c:=λ_ _ _ _=>rfl;have x3:∀a b c d:D,atI [a,b,c,d] 3=some d:=λ_ _ _ _=>rfl;have er:=ade h3;have ec:dZ (hName 0) gV mj [.un] (ws.map id)=.ok (ws.map λ_=>.bl true):=fB ws λx hx=>by
   obtain⟨a,rfl⟩:=h1 x hx;exact⟨[.fz<|.str a],rfl,rfl,by simp[mj,fFn,aj,aC,aK,HD]⟩
  rw[qS] at ec;have z1:ws.length<=16777216:=by lia
  have eq:lY [f0,.fz<|.tup [.int s,.str n,.tup ws,.tup rc]]=.ok (.lst<|ws.map λ_=>.bl true):=by
   simp[lY,cD,jk,az,aa,fC,gIx,x2,cMe,ec,z1]
  have ea:=Zq (f:=λ_:D=>D.bl true) (l:=ws) λ_ _=>rfl;rw[bI (m1:=[f0,.fz<|.tup [.int s,.str n,.tup ws,.tup rc]]) (m2:=[f0,.fz<|.tup [.int s,.str n,.tup ws,.tup rc]]) rfl ?_,e];simp[mK,aL,gIf,dY,dJ,fTv,wF,aa,aJ,aR,dC,aj,aC,fC,fFn,az,gIx,x0,x1,x2,x3,HD,gNx,mU,S9,er,eq,ea]
theorem Ve (h:∀d∈l,MJ d):j6 [.lst l]=.ok (false,.bl true):=by
 obtain⟨s',e⟩:=JM (f0:=.fz<|.lst l) l .un h;have eL:qX [.fz<|.lst l,.un]=.ok (.nx,[.fz<|.lst l,s']):=e;simp[j6,pJ,pL,aX,aL,gIf,dJ,fTv,wF,aa,gNx,eL,bc,Me.let,Sl.let,fC,mU,S9]
theorem YQ (x y:Sl):∀(n:Nat) (a b:Int),b.toNat=n->0<=a->0<=b->∃k,wh pG pO k [x,y,.fz<|.int a,.fz<|.int b] =
  some (.ok (.nx,[x,y,.fz<|.int<|gI a b,.fz<|.int 0])):=by
 intro n;induction n using qB with
 |_ n ih=>
  intro a b hn ha hb;by_cases h0:b=0
  ·subst h0;refine⟨1,?_⟩;rw[QW ha];exact Bk rfl
  ·have hb':0<b:=by lia
   have hm:=mE a hb';have hm0:=qE a h0;obtain⟨k,e⟩:=ih (a%b).toNat (by lia) b (a%b) rfl hb hm0;rw[QH ha hb'] at e;refine⟨k+1,Bs (m':=[x,y,.fz<|.int b,.fz<|.int<|a%b]) ?_ ?_ e⟩
   ·simp[pG,aJ,aa,fC,h0]
   ·simp[pO,acY,aj,aC,az,aa,aK,cI,mdI,h0,hb']
theorem Ub (hb:0<b)(hB:Bq b):jc [.int t,.int b]=.ok (false,rD<|bX t b):=by
 obtain⟨k,e⟩:=YQ (.fz<|.int t) (.fz<|.int b) _ (if t<0 then -t else t) b rfl (by split<;>lia) (by lia);have eb:(if b<0 then -b else b)=b:=if_neg (by lia);have ga:=Xb t b;rw[eb] at ga;rw[ga] at e;have e2:=wN k e;have hg:=G9 (a:=t) (show b≠0 by lia);have hdv:dv t b=gI t b:=if_neg (by lia);have hB':Bq (gI t b):=by
  have h1:=aal (a:=t) (show b≠0 by lia);unfold Bq at hB ⊢
  lia
 have e3:dvI t (gI t b)=lt t b:=by
  unfold dvI lt;rw[if_pos hg,hdv,hU t<|by lia]
 have e4:dvI b (gI t b)=lb t b:=by
  unfold dvI lb;rw[if_pos hg,hdv,hU b<|by lia]
 have el:=M8 (t:=t) (show b≠0 by lia);have hr:rD (bX t b)=.tup [.int<|lt t b,.int<|lb t b]:=by
  show qD (rq<|bX t b)=_;rw[← el];rfl
 have hne:gI t b≠0:=by lia
 rw[hr];simp[jc,rZ,sy,aX,vg,aL,bu,aR,zY,aj,aC,aa,aK,e2,bc,Me.let,Sl.let,bJ,az,gJ,hne,hB',e3,e4]
theorem bgS (h:i.natAbs<=10000000000000):Bq i:=by
 refine aeB (k:=50) ?_
 have:(2:Nat)^50=1125899906842624:=by decide
 lia
def sm (x:Int):Prop:=0<=x/\x<2147483647
theorem abQ (c k:Int)(hk:0<=k/\k<=1000):∃x,m6 [.int c,.int k]=.ok (false,.int x)/\sm x:=by
 have b1:Bq (c%2147483647+1):=bgS (by lia);have b2:Bq (48271+7*k):=bgS (by lia);have b3:Bq 7:=bgS (by decide);have b4:Bq k:=bgS (by lia);refine⟨(c%2147483647+1)*(48271+7*k)%2147483647,?_,by constructor<;>lia⟩;simp[m6,yd,ye,aX,bc,Me.let,Sl.let,az,aa,fC,cI,mdI,pZ,eN,b1,b2,b3,b4]
theorem div_self (h:0<S):bX S S=1:=by
 rw[Rat.divInt_self'<|by lia]
theorem JQ:∀Q:List Int,zM (Q.map D.int)=some Q
 |[]=>rfl
 |p::Q=>by simp[zM,JQ Q]
structure En where
 cells:List Int
 pool:List Str
 turn:Int
 lev:Bool
def sk (x:String):Key:=.inr<|cy x
structure Iu (e:En):Prop where
 c1:1<=e.cells.length
 c2:e.cells.length<=100
 p8:e.pool.length=8
 t0:0<=e.turn/\e.turn<64
 pok:∀x∈e.pool,g9 x=true
theorem Rp (E:Iu e){i:Int}(h:0<=i/\i<8):atI (e.pool.map D.str) i=some (.str<|e.pool.getD i.toNat ⟨#[]⟩):=by
 have hl:i.toNat<e.pool.length:=by rw[E.p8];lia
 have e1:(e.pool.map D.str)[i.toNat]? = some (.str<|e.pool.getD i.toNat ⟨#[]⟩):=by
  rw[bg,a9 hl,dc,a9 hl];rfl
 have:=jH e1
 rwa [show((i.toNat:Nat):Int)=i by lia] at this
theorem Qf (E:Iu e)(i:Nat)(h:i<8):g9 (e.pool.getD i ⟨#[]⟩)=true:=by
 have hl:i<e.pool.length:=by rw[E.p8];exact h
 rw[dc,a9 hl];exact E.pok _<|wx hl
noncomputable def ofL:List (D×Gm)->Ws
 |[]=>.nil
 |p::l=>.cons p.1 p.2<|ofL l
theorem Hz:∀l:List (D×Gm),ik (ofL l)=l.map (·.1)
 |[]=>rfl
 |p::l=>by show _::ik (ofL l)=_;rw[Hz l];rfl
noncomputable def szL (L:List (D×Gm)):Nat:=(L.map λp=>szG p.2).sum
theorem Lq:∀L:List (D×Gm),szW (ofL L)=szL L
 |[]=>rfl
 |p::L=>by show szG p.2+szW (ofL L)=szG p.2+szL L;rw[Lq L]
theorem HR:∀L:List (D×Gm),lz (ofL L)=L.length
 |[]=>rfl
 |p::L=>by show lz (ofL L)+1=_;rw[HR L];rfl
theorem CV:∀L:List (D×Gm),(∀p∈L,gP p.2)->Ac (ofL L)
 |[],_=>trivial
 |p::L,h=>⟨h p ar,CV L λq hq=>h q<|ah _ hq⟩
theorem Mm:∀L:List (D×Gm),(∀p∈L,sdG p.2)->sdW (ofL L)
 |[],_=>trivial
 |p::L,h=>⟨h p ar,Mm L λq hq=>h q<|ah _ hq⟩
theorem Mv:∀L:List (D×Gm),(∀p∈L,dp p.2<=k)->dpW (ofL L)<=k
 |[],_=>eW _
 |p::L,h=>Nat.max_le.mpr ⟨h p ar,Mv L λq hq=>h q<|ah _ hq⟩
theorem gs (h:g m=.ok (.nx,m1)):aL g k m=k m1:=by unfold aL;rw[h]
section
variable {e:En}{A:Addr×Addr}{a r dep:Nat}{N:Nd}{m:Int×Int}{rc:Rc}
end
section
variable {e:En}{A:Addr×Addr}{a r dep:Nat}{N:Nd}{m:Int×Int}{rc:Rc}{x y:Int}
end
theorem cell_eq (ns:List Int)(k:Nat)(hz:ns.length<=1000):∃v:Int,g8 [.lst<|ns.map D.int,.int (k:Int)]=.ok (false,.int v):=by
 by_cases h:k<ns.length
 ·have e1:atI (ns.map D.int) (k:Int)=some (.int ns[k]):=jH (by rw[bg,a9 h];rfl);have h':(k:Int)<(ns.length:Int):=by lia
  exact⟨ns[k],by simp[g8,lR,lW,aX,aL,gIf,aJ,aa,aR,dC,aj,aC,gLt,h,h',bc,Me.let,Sl.let,az,gIx,e1]⟩
 ·have h':¬(k:Int)<(ns.length:Int):=by lia
  exact⟨0,by simp[g8,lR,lW,aX,aL,gIf,aJ,aa,aR,dC,aj,aC,gLt,h,h',bc,Me.let,Sl.let,gNx,fC]⟩
noncomputable def ss:List Nat:=[97,98,99,100,101,102,103,104,105,106,107,108,109,110,111,112,113,114,115,116,117,118,119,120,121,122,48,49,50,51,52,53,54,55,56,57]
theorem acF:cy "abcdefghijklmnopqrstuvwxyz0123456789" = tx ss:=by decide +kernel
theorem aaF:∀c∈ss,c<128:=by decide
theorem afb:ss.Nodup:=by decide
def sgn (i:Int):Nat:=ss.getD i.toNat 0
theorem Bu (h:0<=i/\i<36):sgn i∈ss:=by
 have hl:i.toNat<ss.length:=by show i.toNat<36;lia
 unfold sgn;rw[dc,a9 hl];exact wx hl
theorem YT (h:0<=i/\i<36)(h':0<=j/\j<36)(e:sgn i=sgn j):i=j:=by
 have hl:i.toNat<ss.length:=by show i.toNat<36;lia
 have hl':j.toNat<ss.length:=by show j.toNat<36;lia
 unfold sgn at e;rw[dc,a9 hl,dc,a9 hl'] at e
 have:=(List.getElem_inj (h₀:=hl) (h₁:=hl') afb).mp e
 lia
theorem aaH (h:0<=i/\i<36):gIx (.str "abcdefghijklmnopqrstuvwxyz0123456789") (.int i)=some (.str<|tx [sgn i]):=by
 show gIx (.str<|cy "abcdefghijklmnopqrstuvwxyz0123456789") _=_;rw[acF];have hl:i.toNat<ss.length:=by show i.toNat<36;lia
 have e:atI ss i=some (sgn i):=by
  have:=jH (xs:=ss) (j:=i.toNat)<|a9 hl
  rw[show((i.toNat:Nat):Int)=i by lia] at this;rw[this];unfold sgn;rw[dc,a9 hl];rfl
 show(if(tx ss).length<=av then(atI (tx ss).cps.toList i).map λc=>D.str ⟨#[c]⟩ else none)=_;rw[if_pos (by rw[xV];decide),BK,e];rfl
theorem acx:av=16777216:=rfl
theorem Uk (h:a.length+b.length<=1000):eN (.str<|tx a) (.str<|tx b)=some (.str<|tx<|a++b):=by
 show(if(tx a).length+(tx b).length<=av then some (D.str<|tx a++tx b) else none)=_;rw[if_pos (by rw[xV,xV,acx];lia),abW]
theorem aaJ (h0:0<=i)(h1:i<=w.length)(hw:w.length<=1000):gSl (.str<|tx w) none (some i)=some (.str<|tx<|w.take i.toNat):=by
 show(if(tx w).length<=av then some (D.str<|x6 (tx w) none<|some i) else none)=_;rw[if_pos (by rw[xV,acx];lia)]
 have:=StrLaws.sliceText_to (x:=tx w) (j:=i) ⟨h0,by rw[BK];exact h1⟩
 rw[show x6 (tx w) none (some i)=A7 (tx w) none (some i) from rfl,this];simp[tx]
theorem Wt (h0:0<=i)(h1:i<=w.length):x6 (tx w) (some i) none=tx (w.drop i.toNat):=by
 have:=StrLaws.sliceText_from (x:=tx w) (i:=i) ⟨h0,by rw[BK];exact h1⟩
 rw[show x6 (tx w) (some i) none=A7 (tx w) (some i) none from rfl,this];refine QC ?_;rw[BK];show((w.drop i.toNat).take _)=_;exact kP (by rw[l7];lia)
theorem ZR (h0:0<=i)(h1:i<=w.length)(hw:w.length<=1000):gSl (.str<|tx w) (some i) none=some (.str<|tx<|w.drop i.toNat):=by
 show(if(tx w).length<=av then some (D.str<|x6 (tx w) (some i) none) else none)=_;rw[if_pos (by rw[xV,acx];lia),Wt h0 h1]
noncomputable def zz (w:List Nat):List Nat:=w++w++w++w++w++w++w++w
theorem afz (h:1<=w.length)(h2:w.length<=100):QB (.int 8) (.str<|tx w)=some (.str<|tx<|zz w):=by
 show(if(0:Int)<=8/\(8:Int)<=1000/\(tx w).length<=1000 then some (D.str<|B1 (tx w) 8) else none)=_;rw[if_pos ⟨by decide,by decide,by rw[xV];lia⟩];congr 2;unfold B1;rw[if_neg (by decide),if_neg (by rw[xV];simp;intro z;rw[z] at h;simp at h)];refine QC ?_;show(List.foldl (· ++ ·) #[] (bP 8 w.toArray)).toList=_;simp[bP,zz,fF]
theorem Hj (hP:P.length<=100):jU [.fz<|.int x,s1,s2,s3,.ow<|.lst P,s5,s6,s7,s8,s9]=.ok (.nx,[.fz<|.int<|x/36,s1,s2,s3,.ow<|.lst<|P++[.int<|x%36],s5,s6,s7,s8,s9]):=by
 have b1:Bq 36:=bgS (by decide);have z1:P.length<16777216:=by lia
 simp[jU,aL,dU,pB,putL,az,aa,fC,cI,mdI,gJ,dvI,b1,z1,bu]
theorem Bp:∀(c i:Nat) (x:Int) (P:List Int) (s5:Sl),P.length+c<=100->(∀p∈P,0<=p/\p<36)->∃(x' s5':Sl) (Q:List Int),bO (hName 5) jU ((md i c).map λ(k:Nat)=>D.int k) [.fz<|.int x,s1,s2,s3,.ow<|.lst<|P.map D.int,s5,s6,s7,s8,s9]=.ok (.nx,[x',s1,s2,s3,.ow<|.lst<|Q.map D.int,s5',s6,s7,s8,s9])/\Q.length=P.length+c/\∀p∈Q,0<=p/\p<36
 |0,i,x,P,s5,_,hp=>⟨_,s5,P,rfl,rfl,hp⟩
 |c+1,i,x,P,s5,hz,hp=>by
  have st:=Hj (s1:=s1) (s2:=s2) (s3:=s3) (s5:=.fz<|.int (i:Int)) (s6:=s6) (s7:=s7) (s8:=s8) (s9:=s9) (x:=x) (P:=P.map D.int) (by simp;lia);obtain⟨x',s',Q,e,l,h⟩:=Bp (s1:=s1) (s2:=s2) (s3:=s3) (s6:=s6) (s7:=s7) (s8:=s8) (s9:=s9) c (i+1) (x/36) (P++[x%36]) (.fz<|.int (i:Int)) (by simp;lia) λp hp'=>by
   rcases cm.mp hp' with e|e
   ·exact hp p e
   ·rw[cb.mp e];lia
  refine⟨x',s',Q,?_,by rw[l];simp;lia,h⟩;rw[kL,aE,bI (m1:=[.fz<|.int x,s1,s2,s3,.ow<|.lst<|P.map D.int,.fz<|.int (i:Int),s6,s7,s8,s9]) rfl st];rw[dE] at e;exact e
theorem Gk:∀ps:List Int,Hn (ps.map λp=>D.str<|tx [sgn p])=some ((ps.map sgn).map λc=>tx [c])
 |[]=>rfl
 |p::ps=>by simp[Hn,Gk ps]
theorem Y4 (ps:List Int)(hl:ps.length<=1000):Fj (.str "") [.lst<|ps.map λp=>D.str<|tx [sgn p]]=some (.str<|tx<|ps.map sgn):=by
 have e:((ps.map sgn).map λc=>tx [c])=(ps.map sgn).map λc=>(⟨#[c]⟩:Str):=rfl;have hc:=SN<|ps.map sgn;show(match Hn (ps.map λp=>D.str<|tx [sgn p]) with
  |some zs=>if BY (cy "") zs=true then some (D.str<|AR (cy "") zs) else none
  |none=>none)=_
 rw[Gk,e];show(if BY (cy "") _=true then some (D.str<|AR (cy "") _) else none)=_;rw[if_pos<|joinOk_of (by rw[hc];simp;lia)];congr 2;exact QC<|by rw[WT,hc]
theorem aev {ps:List Int}(hl:ps.length<=1000)(hp:∀p∈ps,0<=p/\p<36):rY [u0,u1,.fz<|.str "abcdefghijklmnopqrstuvwxyz0123456789",u3,.ow<|.lst<|ps.map D.int,u5,u6,u7,u8,u9]=.ok (.lst<|ps.map λp=>D.str<|tx [sgn p]):=by
 have ec:dZ (hName 0) gV su [.un,.fz<|.str "abcdefghijklmnopqrstuvwxyz0123456789"] (ps.map D.int)=.ok (ps.map λp=>D.str<|tx [sgn p]):=fB ps λp hp'=>by
  refine⟨[.fz<|.int p,.fz<|.str "abcdefghijklmnopqrstuvwxyz0123456789"],rfl,rfl,?_⟩;have e:=aaH<|hp p hp';generalize D.str "abcdefghijklmnopqrstuvwxyz0123456789" = Z at *;simp[su,az,aa,e]
 have z2:ps.length<=16777216:=by lia
 generalize D.str "abcdefghijklmnopqrstuvwxyz0123456789" = Z at *;simp[rY,cD,cZ,aa,cMe,Sl.bor,ec,z2]
theorem adx (h1:1<=w.length)(h2:w.length<=100):sG [u0,u1,u2,u3,u4,u5,.fz<|.str<|tx w,u7,u8,u9]=.ok (.lst<|(cx 8).map λ(k:Nat)=>D.str<|tx<|(zz w).take<|k+1):=by
 have hr:(zz w).length=8*w.length:=by simp[zz];lia
 have em:=afz h1 h2;have e1:(aj (fC<|.int 1)<|aj (fC<|.int 9) aC) [u0,u1,u2,u3,u4,u5,.fz<|.str<|tx w,u7,u8,u9]=.ok [.int 1,.int 9]:=by simp[aj,fC,aC]
 have e2:=afL e1 (by lia) (by lia) (by lia) (by lia);have ec:dZ (hName 0) gV oE [.un,.fz<|.str<|tx w] ((cx 8).map λ(k:Nat)=>D.int<|1+k)=.ok ((cx 8).map λ(k:Nat)=>D.str<|tx<|(zz w).take<|k+1):=fB (cx 8) λk hk=>by
  have hk:=js.mp hk;refine⟨[.fz<|.int<|1+k,.fz<|.str<|tx w],rfl,rfl,?_⟩;have es:=aaJ (w:=zz w) (i:=1+(k:Int)) (by lia) (by lia) (by lia);rw[show(1+(k:Int)).toNat=k+1 by lia] at es;generalize D.str (tx w)=W at *;simp[oE,fSl,az,fC,aa,em,fO0,fO1,es]
 unfold sG cD;rw[e2];show(if((cx 8).map λ(k:Nat)=>D.int<|1+k).length<=av then match dZ (hName 0) gV oE [.un,.fz<|.str<|tx w] ((cx 8).map λ(k:Nat)=>D.int<|1+k) with
  | .ok ys=>Res.ok<|D.lst ys
  |_=>.stuck
 else .stuck)=_
 rw[ec,if_pos<|by decide]
def K6 (w:List Nat)(a:Nat)(p:Int)(k:Nat):Str:=tx<|w.take a++[sgn<|(p+4*k)%36]++w.drop (a+1)
theorem Yx {s0 s1 s3 s9:Sl}{ps FF:List D}{w:List Nat}{a k:Nat}{p:Int}(ea:atI ps (a:Int)=some (.int p))(ha:a<w.length)(hw:w.length<=100)(hk:k<=100)(hF:FF.length<=100):
  j4 [s0,s1,.fz<|.str "abcdefghijklmnopqrstuvwxyz0123456789",s3,.ow<|.lst ps,.fz<|.int (k:Int),.fz<|.str<|tx w,.fz<|.int (a:Int),.ow<|.lst FF,s9]=.ok (.nx,[s0,s1,.fz<|.str "abcdefghijklmnopqrstuvwxyz0123456789",s3,.ow<|.lst ps,.fz<|.int (k:Int),.fz<|.str<|tx w,.fz<|.int (a:Int),.ow<|.lst<|FF++[.str<|K6 w a p k],.fz<|.str<|tx [sgn<|(p+4*k)%36]]):=by
 have b1:Bq 4:=bgS (by decide);have b2:Bq (k:Int):=bgS (by omega);have z1:FF.length<16777216:=by omega
 have e1:=aaH (i:=(p+4*(k:Int))%36) (by omega);have e2:=aaJ (w:=w) (i:=(a:Int)) (by omega) (by omega) (by omega);have e3:=ZR (w:=w) (i:=(a:Int)+1) (by omega) (by omega) (by omega);rw[show((a:Int)).toNat=a by omega] at e2;rw[show((a:Int)+1).toNat=a+1 by omega] at e3;have e4:=Uk (a:=w.take a) (b:=[sgn<|(p+4*k)%36]) (by simp;omega);have e5:=Uk (a:=w.take a++[sgn<|(p+4*k)%36]) (b:=w.drop<|a+1) (by simp;omega);unfold K6;generalize D.str "abcdefghijklmnopqrstuvwxyz0123456789" = Z at *;generalize D.str (tx<|w.take a++[sgn<|(p+4*k)%36]++w.drop (a+1))=R at *;generalize D.str (tx<|w.take a++[sgn<|(p+4*k)%36])=R1 at *;generalize D.str (tx w)=W at *;generalize D.str (tx<|w.take a)=W1 at *;generalize D.str (tx<|w.drop<|a+1)=W2 at *;generalize D.str (tx [sgn<|(p+4*k)%36])=W3 at *;have e6:gIx (.lst ps) (.int (a:Int))=some (.int p):=ea;have e7:F.eN (.int p) (.int<|4*(k:Int))=some (.int<|p+4*k):=rfl;have e8:F.eN (.int (a:Int)) (.int 1)=some (.int<|(a:Int)+1):=rfl;have e9:F.pZ (.int 4) (.int (k:Int))=some (.int<|4*(k:Int)):=by simp[pZ,b1,b2]
 have e10:F.cI (.int<|p+4*k) (.int 36)=some (.int<|(p+4*(k:Int))%36):=by simp[cI,mdI]
 simp only[j4];simp[aL,bu,az,aa,fC,e6,e7,e8,e9,e10,e1,dU,pB,putL,fSl,fO0,fO1,e2,e3,e4,e5,z1]
theorem Qk {s0 s1 s3:Sl}{ps:List D}{w:List Nat}{a:Nat}{p:Int}(ea:atI ps (a:Int)=some (.int p))(ha:a<w.length)(hw:w.length<=100):∀(c i:Nat) (FF:List D) (s5 s9:Sl),FF.length+c<=100->i+c<=100->∃s5' s9':Sl,
  bO (hName 5) j4 ((md i c).map λ(k:Nat)=>D.int k) [s0,s1,.fz<|.str "abcdefghijklmnopqrstuvwxyz0123456789",s3,.ow<|.lst ps,s5,.fz<|.str<|tx w,.fz<|.int (a:Int),.ow<|.lst FF,s9] =
   .ok (.nx,[s0,s1,.fz<|.str "abcdefghijklmnopqrstuvwxyz0123456789",s3,.ow<|.lst ps,s5',.fz<|.str<|tx w,.fz<|.int (a:Int),.ow<|.lst<|FF++(md i c).map λ(k:Nat)=>.str<|K6 w a p k,s9'])
 |0,i,FF,s5,s9,_,_=>⟨s5,s9,by simp[bO]⟩
 |c+1,i,FF,s5,s9,hz,hi=>by
  have st:=Yx (s0:=s0) (s1:=s1) (s3:=s3) (s9:=s9) (FF:=FF) (k:=i) ea ha hw (by omega) (by omega);obtain⟨s5',s9',e⟩:=Qk (s0:=s0) (s1:=s1) (s3:=s3) ea ha hw c (i+1) (FF++[.str<|K6 w a p i]) (.fz<|.int (i:Int)) (.fz<|.str<|tx [sgn<|(p+4*i)%36]) (by simp;omega) (by omega);refine⟨s5',s9',?_⟩;rw[kL,aE,bI (m1:=[s0,s1,.fz<|.str "abcdefghijklmnopqrstuvwxyz0123456789",s3,.ow<|.lst ps,.fz<|.int (i:Int),.fz<|.str<|tx w,.fz<|.int (a:Int),.ow<|.lst FF,s9]) rfl st,e]
  simp
structure acj (p:List Str):Prop where
 p8:p.length=8
 nd:p.Nodup
 ok:∀x∈p,g9 x=true
 ins:∀x∈p,∀c∈x.cps.toList,c∈ss
 len:∀x∈p,x.length<=20
theorem R8 {L2 L8:Zac}{Q4 Q6:Zaf}{r:D}{c tt:Int}{x' s5:Sl}{P W:D}(h:tt/8%3=1)
  (eL:L2 [.fz<|.int<|c/8,.fz<|.int tt,.fz<|.str "abcdefghijklmnopqrstuvwxyz0123456789",.fz<|.int<|1+c%8,.ow<|.lst [],.un,.un,.un,.un,.un]=.ok (.nx,[x',.fz<|.int tt,.fz<|.str "abcdefghijklmnopqrstuvwxyz0123456789",.fz<|.int<|1+c%8,.ow P,s5,.un,.un,.un,.un]))
  (e4:Q4 [x',.fz<|.int tt,.fz<|.str "abcdefghijklmnopqrstuvwxyz0123456789",.fz<|.int<|1+c%8,.ow P,s5,.un,.un,.un,.un]=.ok r) (ej:Fj (.str "") [r]=some W)
  {R:D} (e6:∀u0 u1 u2 u3 u4 u5 u7 u8 u9:Sl,Q6 [u0,u1,u2,u3,u4,u5,.fz W,u7,u8,u9]=.ok R):aX 10 2 (lG L2 Q4 Q6 L8) [.int c,.int tt]=.ok (true,R):=by
 unfold aX lG;have b8:Bq 8:=bgS (by decide);have ty:tyD "str" (.str "")=true:=rfl;generalize D.str "abcdefghijklmnopqrstuvwxyz0123456789" = Z at *;generalize D.str "" = Z0 at *;simp[aL,bu,fC,az,aa,eN,cI,mdI,gJ,dvI,b8,gQ,gO,aC,eL,Qv,ty,aj,e4,ej,gIf,aJ,h,jW,Me.let,Sl.let,e6]
theorem Rw {L2 L8:Zac}{Q4 Q6:Zaf}{r:D}{c tt:Int}{x' s5 s5' s9':Sl}{P W:D}(h:¬tt/8%3=1)
  (eL:L2 [.fz<|.int<|c/8,.fz<|.int tt,.fz<|.str "abcdefghijklmnopqrstuvwxyz0123456789",.fz<|.int<|1+c%8,.ow<|.lst [],.un,.un,.un,.un,.un]=.ok (.nx,[x',.fz<|.int tt,.fz<|.str "abcdefghijklmnopqrstuvwxyz0123456789",.fz<|.int<|1+c%8,.ow P,s5,.un,.un,.un,.un]))
  (e4:Q4 [x',.fz<|.int tt,.fz<|.str "abcdefghijklmnopqrstuvwxyz0123456789",.fz<|.int<|1+c%8,.ow P,s5,.un,.un,.un,.un]=.ok r) (ej:Fj (.str "") [r]=some W)
  {R:D} (e8:L8 [x',.fz<|.int tt,.fz<|.str "abcdefghijklmnopqrstuvwxyz0123456789",.fz<|.int<|1+c%8,.ow P,s5,.fz W,.fz<|.int<|tt%(1+c%8),.ow<|.lst [],.un]=.ok (.nx,[x',.fz<|.int tt,.fz<|.str "abcdefghijklmnopqrstuvwxyz0123456789",.fz<|.int<|1+c%8,.ow P,s5',.fz W,.fz<|.int<|tt%(1+c%8),.ow R,s9'])):aX 10 2 (lG L2 Q4 Q6 L8) [.int c,.int tt]=.ok (true,R):=by
 unfold aX lG;have b8:Bq 8:=bgS (by decide);have ty:tyD "str" (.str "")=true:=rfl;have hp:0<1+c%8:=by omega
 have hz:¬1+c%8=0:=by omega
 have em:mdI tt (1+c%8)=tt%(1+c%8):=if_pos hp;generalize hS:1+c%8=S at *;generalize D.str "abcdefghijklmnopqrstuvwxyz0123456789" = Z at *;generalize D.str "" = Z0 at *;simp[aL,bu,fC,az,aa,eN,cI,gJ,dvI,b8,gQ,gO,aC,show mdI c 8=c%8 from if_pos (by decide),hS,eL,Qv,ty,aj,e4,ej,gIf,aJ,show mdI (tt/8) 3=tt/8%3 from if_pos (by decide),h,gNx,hz,em,e8,uV,Me.let,Sl.let]
theorem ZM {c tt:Int}:∃(x' s5:Sl) (ps:List Int),rP [.fz<|.int<|c/8,.fz<|.int tt,.fz<|.str "abcdefghijklmnopqrstuvwxyz0123456789",.fz<|.int<|1+c%8,.ow<|.lst [],.un,.un,.un,.un,.un]=.ok (.nx,[x',.fz<|.int tt,.fz<|.str "abcdefghijklmnopqrstuvwxyz0123456789",.fz<|.int<|1+c%8,.ow<|.lst<|ps.map D.int,s5,.un,.un,.un,.un])/\(ps.length:Int)=1+c%8/\∀p∈ps,0<=p/\p<36:=by
 have hS:0<=1+c%8/\1+c%8<=8:=by omega
 generalize 1+c%8=S at *;obtain⟨x',s5,Q,e,hl,hQ⟩:=Bp (s1:=.fz<|.int tt) (s2:=.fz<|.str "abcdefghijklmnopqrstuvwxyz0123456789") (s3:=.fz<|.int S) (s6:=.un) (s7:=.un) (s8:=.un) (s9:=.un) S.toNat 0 (c/8) [] .un (by simp;omega) λ_ z=>nomatch z;refine⟨x',s5,Q,?_,by simp at hl;omega,hQ⟩;have e1:(aj (aa 3) aC) [.fz<|.int<|c/8,.fz<|.int tt,.fz<|.str "abcdefghijklmnopqrstuvwxyz0123456789",.fz<|.int S,.ow<|.lst [],.un,.un,.un,.un,.un]=.ok [.int S]:=by
  generalize D.str "abcdefghijklmnopqrstuvwxyz0123456789" = Z;simp[aj,aa,aC]
 have e2:=RG e1 (by omega) (by omega);unfold rP eQ;rw[e2];show bO (hName 5) jU ((cx S.toNat).map λ(k:Nat)=>D.int k) _=_;rw[l0];exact e
theorem Zt {w:List Nat}{a:Nat}{p:Int}{k:Nat}(hw:∀c∈w,c<128):g9 (K6 w a p k)=true:=by
 refine KC λc hc=>?_;rcases cm.mp hc with hc|hc
 ·rcases cm.mp hc with hc|hc
  ·exact hw c<|jS hc
  ·rw[cb.mp hc];exact aaF _<|Bu<|by omega
 ·exact hw c<|zd hc
theorem U3 {w:List Nat}{a:Nat}{p:Int}{k j:Nat}(hk:k<8)(hj:j<8)(h:K6 w a p k=K6 w a p j):k=j:=by
 have h:=Xk.mp h;rw[fF,fF] at h;have h:=vE h;injection h with h _
 have:=YT (by omega) (by omega) h
 omega
theorem QR {w:List Nat}{c:Nat}(h:c∈zz w):c∈w:=by
 simpa[zz] using h
theorem ZL (c t:Int):∃p:List Str,rn [.int c,.int t]=.ok (true,.lst<|p.map D.str)/\acj p:=by
 obtain⟨x',s5,ps,eL,hl,hp⟩:=ZM (c:=c) (tt:=t);have hl8:1<=ps.length/\ps.length<=8:=by omega
 have e4:=aev (u0:=x') (u1:=.fz<|.int t) (u3:=.fz<|.int<|1+c%8) (u5:=s5) (u6:=.un) (u7:=.un) (u8:=.un) (u9:=.un) (by omega) hp;have ej:=Y4 ps (by omega);have hw:∀k∈ps.map sgn,k<128:=λk hk=>by
  obtain⟨p,h,rfl⟩:=d3.mp hk;exact aaF _<|Bu<|hp p h
 have hs:∀k∈ps.map sgn,k∈ss:=λk hk=>by
  obtain⟨p,h,rfl⟩:=d3.mp hk;exact Bu<|hp p h
 have wl:(ps.map sgn).length=ps.length:=by simp
 generalize hW:ps.map sgn=w at *;by_cases h:t/8%3=1
 ·refine⟨(cx 8).map λk=>tx<|(zz w).take<|k+1,?_,by simp,?_,λx hx=>?_,λx hx c hc=>?_,λx hx=>?_⟩
  ·rw[gv];exact R8 h eL e4 ej λu0 u1 u2 u3 u4 u5 u7 u8 u9=>adx (by omega)<|by omega
  ·refine List.pairwise_map.mpr<|(List.nodup_range (n:=8)).imp_of_mem λ{a b} ha hb hne z=>hne ?_;have ha:=js.mp ha;have hb:=js.mp hb;have hr:(zz w).length=8*w.length:=by simp[zz];omega
   have:=congrArg kS<|Xk.mp z
   rw[kK,kK] at this;omega
  ·obtain⟨k,_,rfl⟩:=d3.mp hx;exact KC λc hc=>hw c<|QR<|jS hc
  ·obtain⟨k,_,rfl⟩:=d3.mp hx;exact hs c<|QR<|jS hc
  ·obtain⟨k,hk,rfl⟩:=d3.mp hx
   have:=js.mp hk
   show((zz w).take<|k+1).toArray.size<=20
   simp
   omega
 ·obtain⟨a,ha⟩:∃a:Nat,(a:Int)=t%(1+c%8):=⟨(t%(1+c%8)).toNat,by have:=qE t (show 1+c%8≠0 by omega);omega⟩;have hlt:a<w.length:=by have:=mE t (show 0<1+c%8 by omega);omega
  have hlp:a<ps.length:=by omega
  have ea:atI (ps.map D.int) (a:Int)=some (.int ps[a]):=jH (by rw[bg,a9 hlp];rfl);obtain⟨s5',s9',e8⟩:=Qk (s0:=x') (s1:=.fz<|.int t) (s3:=.fz<|.int<|1+c%8) ea hlt (by omega) 8 0 [] s5 .un (by simp) (by omega);refine⟨(cx 8).map λk=>K6 w a ps[a] k,?_,by simp,?_,λx hx=>?_,λx hx c hc=>?_,λx hx=>?_⟩
  ·refine Rw (s5':=s5') (s9':=s9') h eL e4 ej ?_;rw[← ha];rw[gv];have e1:(aj (fC<|.int 8) aC) [x',.fz<|.int t,.fz<|.str "abcdefghijklmnopqrstuvwxyz0123456789",.fz<|.int<|1+c%8,.ow<|.lst<|ps.map D.int,s5,.fz<|.str<|tx w,.fz<|.int (a:Int),.ow<|.lst [],.un]=.ok [.int 8]:=by
    simp[aj,fC,aC]
   have e2:=RG e1 (by omega) (by omega);unfold xu eQ;rw[e2];show bO (hName 5) j4 ((cx 8).map λ(k:Nat)=>D.int k) _=_;rw[l0];exact e8
  ·refine List.pairwise_map.mpr<|(List.nodup_range (n:=8)).imp_of_mem λ{i j} hi hj hne z=>hne ?_;exact U3 (js.mp hi) (js.mp hj) z
  ·obtain⟨k,_,rfl⟩:=d3.mp hx;exact Zt hw
  ·obtain⟨k,_,rfl⟩:=d3.mp hx;rcases cm.mp (show c∈w.take a++[sgn<|(ps[a]+4*k)%36]++w.drop (a+1) from hc) with hc|hc
   ·rcases cm.mp hc with hc|hc
    ·exact hs c<|jS hc
    ·rw[cb.mp hc];exact Bu<|by omega
   ·exact hs c<|zd hc
  ·obtain⟨k,_,rfl⟩:=d3.mp hx;show(w.take a++[sgn<|(ps[a]+4*k)%36]++w.drop (a+1)).toArray.size<=20
   simp
   omega
end Lw
namespace F
open PySem PySem.Spec PyProof.Rows L2 Hd
section
variable {X:Cx}
theorem vals2 (r:Vals [a,b] us):∃u v,us=[u,v]/\RelV a u/\RelV b v:=by
 cases r with
 |cons r1 r2=>
  cases r2 with
  |cons r2 r3=>cases r3;exact⟨_,_,rfl,r1,r2⟩
end
section
variable {pr:bq}{wo:dA}{Ar:dP}{Ex:Zl}{st:aS}
end
section
variable {pr:bq}{wo:dA}{Ar:dP}{Ex:Zl}{st:aS}
end
theorem mm4 {α:Type}{P:α->Prop}{a b c d:α}(h1:P a)(h2:P b)(h3:P c)(h4:P d):∀x∈[a,b,c,d],P x:=by simp[h1,h2,h3,h4]
theorem mm5 {α:Type}{P:α->Prop}{a b c d e:α}(h0:P e)(h1:P a)(h2:P b)(h3:P c)(h4:P d):∀x∈[e,a,b,c,d],P x:=by simp[h0,h1,h2,h3,h4]
theorem agc {α:Type}{x a b c d:α}(h:x∉[a,b,c,d]):x≠a/\x≠b/\x≠c/\x≠d:=by simpa using h
theorem agb {α:Type}{a b c d e:α}:∀x∈[e,b,c,d],x∈[e,a,b,c,d]:=mm4 (by simp) (by simp) (by simp)<|by simp
section
variable {X:Cx}
end
section
variable {X:Cx}{tg:Expr}
end
section
end
section
variable {X:Cx}{E:XK}{j k:Nat}{c m:Str}{ps:List Str}{Φ:Zad}{apos pos:Pos}{o e:Expr}{es:List Expr}{f0:Zaf}{fs:Zae}{pl:Sem Bool}
end
section
variable {P:bq}{w:dA}{K:a7}{mg:Zaa}{base:Heap}
end
section
end
section
variable {X:Cx}{E:XK}{e:Expr}{g:Zaf}{k:Zac}{c f x kn vn:Str}{fs:List Str}{pos pos' pos2 pos3 spos np np2 kp vp:Pos}{rest:List Stmt}
end
section
variable {X:Cx}{E:XK}{e:Expr}{g:Zaf}{c f x:Str}{fs:List Str}{pos pos' np:Pos}
end
section
variable {P:bq}{w:dA}{K:a7}{mg:Zaa}{base:Heap}
end
section
end
section
variable {X:Cx}{E:XK}{jj k:Nat}{c f y:Str}{ps:List Str}{Φ:List D->Res (List Str×List D×D)}{py pos ρ np:Pos}{e:Expr}{es:List Expr}{fs:Zae}{rest:List Stmt}{kk:Zac}
end
section
end
section
end
def KX (K:a7)(H:Hp)(x:V)(t:aw):Prop:=(x=.non/\t=.type "NoneType")\/∃ea C,x=.ref ea/\t=.ref C/\(∃ox,H ea=some (.frz ox<|.ext<|tH ea<|.ref C))/\XC K C
def afI (K:a7):List V->Hp->VK->Prop:=λxs H Q=>∃x t C b,xs=[x,.ref C]/\KX K H x t/\bS K t (.ref C)=some b/\Q (.bl b) H
def afG (K:a7):List V->Hp->VK->Prop:=λxs H Q=>∃x t l,∃Cs:List Addr,∃b,xs=[x,.ref l]/\H l=some (.tup<|Cs.map V.ref)/\KX K H x t/\BI K t (Cs.map b0)=some b/\Q (.bl b) H
theorem Fb:∀{Cs:List Addr} {us:List aw},Vals (Cs.map V.ref) us->us=Cs.map b0
 |[],_,.nil=>rfl
 |_::_,_,.cons r t=>by rw[Fb t];cases r;rfl
section
variable {X:Cx}
theorem V9:iW X (.builtin "isinstance") (afI X.K):=by
 intro π s σ H xs us Q I r h;obtain⟨x,t,C,b,rfl,hk,e,q⟩:=h;obtain⟨u,w',rfl,ru,rw'⟩:=vals2 r;cases(show w'=b0 C from rw');rcases hk with⟨rfl,rfl⟩|⟨ea,D,rfl,rfl,⟨ox,he⟩,Z⟩
 ·cases(show u=eP from ru);exact iN W.kitx_none I.kIn trivial e (λz=>nomatch z) λtk=>⟨.bl b,H,I.tok _,rfl,q⟩
 ·cases(show u=b0 ea from ru);obtain⟨_,⟨o,ho,hc,_⟩,_⟩:=(show cu X.prog X.w H s.heap ea (.frz ox<|.ext<|tH ea<|.ref D) from I.hok ea _ he);exact iN (CJ Z) I.kIn ⟨o,ho,hc⟩ e (λz=>nomatch z) λtk=>⟨.bl b,H,I.tok _,rfl,q⟩
theorem Vb:iW X (.builtin "isinstance") (afG X.K):=by
 intro π s σ H xs us Q I r h;obtain⟨x,t,l,Cs,b,rfl,hl,hk,e,q⟩:=h;obtain⟨u,w',rfl,ru,rw'⟩:=vals2 r;cases(show w'=b0 l from rw');obtain⟨_,χ,hv,⟨⟨cls,dd,data,sl⟩,ho,hc,n,hd,_⟩⟩:=(show cu X.prog X.w H s.heap l (.tup<|Cs.map V.ref) from I.hok l _ hl);cases(show cls=.type "tuple" from hc);cases(show data=_ from hd);cases Fb hv;rcases hk with⟨rfl,rfl⟩|⟨ea,D,rfl,rfl,⟨ox,he⟩,Z⟩
 ·cases(show u=eP from ru);exact W.kia_tup W.kitx_none I.kIn trivial ho e (λz=>nomatch z) λtk=>⟨.bl b,H,I.tok _,rfl,q⟩
 ·cases(show u=b0 ea from ru);obtain⟨_,⟨o,ho',hc',_⟩,_⟩:=(show cu X.prog X.w H s.heap ea (.frz ox<|.ext<|tH ea<|.ref D) from I.hok ea _ he);exact W.kia_tup (CJ Z) I.kIn ⟨o,ho',hc'⟩ ho e (λz=>nomatch z) λtk=>⟨.bl b,H,I.tok _,rfl,q⟩
end
def ICl (K:a7)(mg:Zaa)(y:Str)(tab:Str->Option Bool):Prop:=∃C,mg y=some (.ref C)/\(∀c D b,tab c=some b->mg c=some (.ref D)->XC K D/\bS K (.ref D) (.ref C)=some b)/\bS K (.type "NoneType") (.ref C)=some false
def Ek:List (Str->Option Bool)->Str->Option Bool
 |[],_=>some false
 |t::r,c=>match t c with
  |some true=>some true
  |some false=>Ek r c
  |none=>none
def DR (tab:Str->Option Bool)(f:Zaf):Zaf:=λm=>(f m).bind λd=>match d with
 | .exc c _ _=>ofO<|(tab c).map D.bl
 | .non=>.ok<|.bl false
 |_=>.stuck
inductive ICs (X:Cx):List Expr->List (Str->Option Bool)->List Addr->Prop
 |nil:ICs X [] [] []
 |cons {y:Str} {py:Pos} {tab:Str->Option Bool} {es:List Expr} {ts:List (Str->Option Bool)} {C:Addr} {Cs:List Addr}:Gl X y->(y==("__debug__":Str))=false->X.mg y=some (.ref C)->
   (∀c D b,tab c=some b->X.mg c=some (.ref D)->XC X.K D/\bS X.K (.ref D) (.ref C)=some b)->bS X.K (.type "NoneType") (.ref C)=some false->
   ag (.Name y py::es) X.env=(false,eval (.Name y py) X.env)::ag es X.env->ICs X es ts Cs->ICs X (.Name y py::es) (tab::ts) (C::Cs)
section
variable {X:Cx}{E:XK}{a:Expr}{fa:Zaf}{y:Str}{pos p py:Pos}
def adz (Cs:List Addr):TA:=λ_ H Q=>Q (Cs.map V.ref) H
theorem Ot:∀{es:List Expr} {ts:List (Str->Option Bool)} {Cs:List Addr},ICs X es ts Cs->PA X es (adz Cs)
 |_,_,_,.nil=>λpos π s σ H Q I h=>nG pos π s σ H Q I h
 |_,_,_,.cons hg hd hm _ _ hs t=>λpos π s σ H Q I h=>eU (Hm (v:=.ref _) hg hm rfl hd) (Ot t) hs pos π s σ H Q I h
theorem PL:∀{es:List Expr} {ts:List (Str->Option Bool)} {Cs:List Addr},ICs X es ts Cs->Cs.length=es.length
 |_,_,_,.nil=>rfl
 |_,_,_,.cons _ _ _ _ _ _ t=>congrArg (· + 1)<|PL t
theorem PK:∀{es:List Expr} {ts:List (Str->Option Bool)} {Cs:List Addr},ICs X es ts Cs->BI X.K (.type "NoneType") (Cs.map b0)=some false
 |_,_,_,.nil=>rfl
 |_,_,_,.cons _ _ _ _ hn _ t=>by rw[aE,BI,hn];exact PK t
theorem Vr {c:Str}{D:Addr}(hD:X.mg c=some (.ref D)):∀{es:List Expr} {ts:List (Str->Option Bool)} {Cs:List Addr} {b:Bool},ICs X es ts Cs->Ek ts c=some b->BI X.K (.ref D) (Cs.map b0)=some b
 |_,_,_,_,.nil,e=>e
 |_,_,_,b,.cons (tab:=tab) _ _ _ hx _ _ t,e=>by
  unfold Ek at e;rw[aE,BI];cases q:tab c with
  |none=>rw[q] at e;cases e
  |some z=>
   rw[q] at e;obtain⟨_,h2⟩:=hx c D z q hD;rw[h2];cases z with
   |true=>exact e
   |false=>exact Vr hD t e
theorem Iw {tab:Str->Option Bool}(ha:FB X E a fa)(hg:Gl X "isinstance")(hm:X.mg "isinstance" = none)(hv:cc "isinstance" = some (.builtin "isinstance"))(hgy:Gl X y)(ht:ICl X.K X.mg y tab)
  (hdy:(y==("__debug__":Str))=false:=by decide) (he:ag [a,.Name y py] X.env=(false,eval a X.env)::ag [.Name y py] X.env:=by rfl) (he2:ag [.Name y py] X.env=(false,eval (.Name y py) X.env)::ag [] X.env:=by rfl) (ξ:(hV pos<|ag [.Name y py] X.env).any (·.1)=false:=by rfl):
  FE X E (.Call (.Name "isinstance" p) [a,.Name y py] [] pos) (DR tab fa):=by
 obtain⟨C,hC,ht,hn⟩:=ht;refine bG (v7 V9 hg hm hv (eU ha (eU (Hm (v:=.ref C) hgy hC rfl hdy) nG he2) he) (by decide) (by decide) he ξ) λσ H Q h=>?_;obtain⟨O0,M0,H0,ow,m,R,q⟩:=h;refine⟨O0,M0,H0,ow,m,R,q.bind.imp (aM.refl _) λd q v H' g hv=>?_⟩;cases d with
 |exc k=>
  obtain⟨r,hr,kk⟩:=q.ofO;obtain⟨b,hb,rfl⟩:=omap hr;obtain⟨ea,D,rfl,hD,hH⟩:=Ls hv;obtain⟨z1,z2⟩:=ht k D b hb hD;exact⟨_,_,C,b,rfl,.inr ⟨ea,D,rfl,rfl,hH,z1⟩,z2,kk _ _ g<|.bl _⟩
 |non=>
  cases zA hv;exact⟨_,_,C,false,rfl,.inl ⟨rfl,rfl⟩,hn,q _ _ g<|.bl _⟩
 |_=>exact q.elim
theorem abz {es:List Expr}{ts:List (Str->Option Bool)}{Cs:List Addr}{t0:Str->Option Bool}{x1}(ha:FB X E a fa)(hg:Gl X "isinstance")(hm:X.mg "isinstance" = none)(hv:cc "isinstance" = some (.builtin "isinstance"))(hc:ICs X es (t0::ts) Cs)(hz:es.length<=av:=by decide)
  (he:ag [a,.Tuple es x1 py] X.env=(false,eval a X.env)::ag [.Tuple es x1 py] X.env:=by rfl) (he2:ag [.Tuple es x1 py] X.env=(false,eval (.Tuple es x1 py) X.env)::ag [] X.env:=by rfl) (ξ:(hV pos<|ag [.Tuple es x1 py] X.env).any (·.1)=false:=by rfl):
  FE X E (.Call (.Name "isinstance" p) [a,.Tuple es x1 py] [] pos) (DR (Ek (t0::ts)) fa):=by
 refine bG (v7 Vb hg hm hv (eU ha (eU (Ur<|Ot hc) nG he2) he) (by decide) (by decide) he ξ) λσ H Q h=>?_;obtain⟨O0,M0,H0,ow,m,R,q⟩:=h;refine⟨O0,M0,H0,ow,m,R,q.bind.imp (aM.refl _) λd q v H' g hv=>?_⟩;have hl:=PL hc;cases d with
 |exc k=>
  obtain⟨r,hr,kk⟩:=q.ofO;obtain⟨b,hb,rfl⟩:=omap hr;obtain⟨ea,D,rfl,hD,hH⟩:=Ls hv;have z1:XC X.K D:=by
   cases hc with
   |cons _ _ _ hx _ _ _=>
    unfold Ek at hb;cases q:t0 k with
    |none=>rw[q] at hb;cases hb
    |some z=>exact(hx k D z q hD).1
  refine⟨by simpa[hl] using hz,λl hl'=>⟨_,_,l,Cs,b,rfl,aZ,.inr ⟨ea,D,rfl,rfl,?_,z1⟩,Vr hD hc hb,kk _ _ (g.trans<|bL hl' _)<|.bl _⟩⟩;obtain⟨ox,hH⟩:=hH;exact⟨ox,by rw[bC (λz=>by rw[z,hl'] at hH;cases hH)];exact hH⟩
 |non=>
  cases zA hv;exact⟨by simpa[hl] using hz,λl hl'=>⟨_,_,l,Cs,false,rfl,aZ,.inl ⟨rfl,rfl⟩,PK hc,q _ _ (g.trans<|bL hl' _)<|.bl _⟩⟩
 |_=>exact q.elim
theorem Yr:∃Cs,ICs X [] [] Cs:=⟨_,.nil⟩
theorem Cp {tab:Str->Option Bool}{es:List Expr}{ts:List (Str->Option Bool)}(h:ICl X.K X.mg y tab)(t:∃Cs,ICs X es ts Cs)(hg:Gl X y:=by rfl)(hd:(y==("__debug__":Str))=false:=by decide)
  (hs:ag (.Name y py::es) X.env=(false,eval (.Name y py) X.env)::ag es X.env:=by rfl):∃Cs,ICs X (.Name y py::es) (tab::ts) Cs:=let⟨_,a,b,c⟩:=h;let⟨_,t⟩:=t;⟨_,.cons hg hd a b c hs t⟩
theorem Xw {es:List Expr}{ts:List (Str->Option Bool)}{t0:Str->Option Bool}{x1}(ha:FB X E a fa)(hg:Gl X "isinstance")(hm:X.mg "isinstance" = none)(hv:cc "isinstance" = some (.builtin "isinstance"))(hc:∃Cs,ICs X es (t0::ts) Cs)(hz:es.length<=av:=by decide)
  (he:ag [a,.Tuple es x1 py] X.env=(false,eval a X.env)::ag [.Tuple es x1 py] X.env:=by rfl) (he2:ag [.Tuple es x1 py] X.env=(false,eval (.Tuple es x1 py) X.env)::ag [] X.env:=by rfl) (ξ:(hV pos<|ag [.Tuple es x1 py] X.env).any (·.1)=false:=by rfl):
  FE X E (.Call (.Name "isinstance" p) [a,.Tuple es x1 py] [] pos) (DR (Ek (t0::ts)) fa):=let⟨_,hc⟩:=hc;abz ha hg hm hv hc hz he he2 ξ
end
end F
namespace Hd
open PySem PySem.Spec PyProof.Rows L2
section
variable {X:Cx}{i j k:Nat}{x:Str}{ps:List Str}{sp:Sp}{p pos:Pos}{e:Expr}{es:List Expr}{t:TA}{f:Addr}{fd:gN}
end
end Hd
namespace F
open PySem PySem.Spec PyProof.Rows L2 Hd
section
variable {X:Cx}{E:XK}{i j k l:Nat}{x y z:Str}{ps qs:List Str}{p pos ρ:Pos}{e:Expr}{es:List Expr}{fs:Zae}{Φ Ψ:Zad}{a b:Addr}
end
section
variable {prog:bq}{w:dA}{A:dP}{E:Zl}{s:aS}
def Hdl (A:dP)(h:Heap):Prop:=∃x o vs,A.handled=some (.ref x)/\h.get? x=some o/\o.data=.fields vs/\vs[2]? = some .none
theorem Eh:entryFor table "proto.unchain" = some Ap.«proto.unchain»:=entryFor_of_tree<|by kernel_rfl
theorem K8 {v x:aw}{a:Addr}{o:Obj}{vs:Array aw}{Q:Fin->aS->Prop}(ho:s.heap.get? a=some o)(hd:o.data=.fields vs)(h2:vs[2]? = some .none)(k:Q (.done<|.ret .none) s):
  bp (b6 prog w) A (Ap.«proto.unchain» ⟨[v,.ref a,x,.bool false],[]⟩) Q E s:=by
 unfold Ap.«proto.unchain»;refine ae<|hZ ho hd h2 ?_;show bp _ _ (if(eP==eP)=true then _ else _) _ _ s;rw[if_pos<|show(eP==eP)=true from rfl];exact ai k
theorem Yo {α:Type}{Q:α->aS->Prop}{x e:Addr}{o oe:Obj}{vs ves:Array aw}(hh:A.handled=some (.ref x))(ne:x≠e)(ho:s.heap.get? x=some o)(hd:o.data=.fields vs)(h2:vs[2]? = some .none)
  (he:s.heap.get? e=some oe) (hde:oe.data=.fields ves) (hz:2<ves.size) (k:E (.ref e) { s with heap:=s.heap.update e (kD (·.setIfInBounds 2 (.ref x))) }):bp (b6 prog w) A (raiseNew (.ref e):Sem α) Q E s:=by
 simp only[raiseNew];refine ae<|wpAny_handled ?_;rw[hh];have n1:(b0 x != b0 e)=true:=by simp[bne,ne]
 simp only[n1,if_true];refine ae<|gS<|runValue_entry Eh<|K8 ho hd h2 ⟨_,rfl,?_⟩;unfold updateField;refine ae<|ae<|wpAny_load he ?_;rw[hde];simp only[hz,if_true];exact wpAny_update he<|wpAny_throw k
theorem VF {α:Type}{Q:α->aS->Prop}(H:Hdl A s.heap)
  (k:∀h' e,(∀b o,s.heap.get? b=some o->h'.get? b=some o)->(∃o,h'.get? e=some o/\o.cls=.type "StopIteration")->E (.ref e) { s with heap:=h' }):
  bp (b6 prog w) A (do let e←newExc (.type "StopIteration") [];raiseNew e:Sem α) Q E s:=by
 obtain⟨x,o,vs,hh,ho,hd,h2⟩:=H;refine ae ?_;simp only[newExc,newTuple];refine ae<|eD ?_ (by size_fits);refine ae (m:=sL _ _)<|qr (a:=eP) (by first|rfl|(simp only[sL];rfl)) ?_;refine eD ?_ (by size_fits);have xl:x<s.heap.objs.size:=ay ho;have e1:(s.heap.push { cls:=.type "tuple",data:=.seq [].toArray }).objs.size=s.heap.objs.size+1:=by simp[Heap.push]
 refine Yo hh (by rw[e1];exact bo<|kr xl) ((nB _ _ _ (by rw[e1];exact bo<|kr xl)).trans<|(nB _ _ _<|bo xl).trans ho) hd h2 (aT _ rfl) rfl (by simp[ownMembersOf])<|k _ _ (λb q hb=>?_) ?_
 ·have bl:b<s.heap.objs.size:=ay hb;rw[iS _ _ _ _ (by rw[e1];exact bo<|kr bl),nB _ _ _ (by rw[e1];exact bo<|kr bl),nB _ _ _<|bo bl];exact hb
 ·exact⟨_,dS _ (aT _ rfl) rfl,rfl⟩
theorem Hdl.upd {it:Addr}{f:Obj->Obj}{oi:Obj}{us:Array aw}(H:Hdl A s.heap)(hi:s.heap.get? it=some oi)(hd:oi.data=.fields us)(hz:us[2]? = none):Hdl A (s.heap.update it f):=by
 obtain⟨x,o,vs,hh,ho,hv,h2⟩:=H;refine⟨x,o,vs,hh,(iS _ _ _ _ λz=>?_).trans ho,hv,h2⟩;subst z;cases hi.symm.trans ho;cases hd.symm.trans hv;rw[hz] at h2;cases h2
theorem GR {it l:Addr}{i:Nat}{items:Array aw}{Q:Option aw->aS->Prop}(H:Hdl A s.heap)(hit:s.heap.IsListIter it l i)(hl:s.heap.IsList l items)(hx:items[i]? = none)
  (hQ:∀h',BO it s.heap h'->Q none { s with heap:=h' }):bp (b6 prog w) A (AH<|.ref it) Q E s:=by
 obtain⟨o,ho,hc,hd⟩:=id hit;obtain⟨ol,hol,_,nl,hdl⟩:=hl;unfold AH;refine ae<|vv<|iA (name:=cy "__next__") hit.typeIs slot_listiter_next<|gX slot_listiter_next hit.typeIs entry_listiter_next ?_<|args_listiter_next _;show bp _ _ (field (.ref it) 0 >>= _) _ _ s;refine ae<|hZ ho hd (x:=.ref l) rfl ?_;show bp _ _ (if(b0 l==eP)=true then _ else _) _ _ s;rw[if_neg λz=>by cases(show false=true from z)];show bp _ _ (field (.ref it) 1 >>= _) _ _ s;refine ae<|hZ ho hd (x:=.int i 0) rfl<|show bp _ _ (seqItems? (.ref l) >>= _) _ _ s from ae (si hol hdl ?_);simp only[kd,hx];refine ae<|pf<|ae<|kM ho hd (by simp) ?_;refine VF (A:=A.in1) (s:={ s with heap:=_ }) (Hdl.upd (A:=A.in1) H ho hd rfl) λh' e kp ⟨oe,he,ce⟩=>?_;refine ae<|l6 (T:="StopIteration") (b:=true) ⟨oe,he,ce⟩ zt ?_;exact ai<|hQ _ λb q nb hb=>kp b q<|(iS _ _ _ _ nb).trans hb
theorem Mf {it l:Addr}{i:Nat}{items:Array aw}{Q:Option aw->aS->Prop}(H:Hdl A s.heap)(hit:s.heap.IsTupleIter it l i)(hl:s.heap.IsTuple l items)(hx:items[i]? = none)
  (hQ:∀h',BO it s.heap h'->Q none { s with heap:=h' }):bp (b6 prog w) A (AH<|.ref it) Q E s:=by
 obtain⟨o,ho,hc,hd⟩:=id hit;obtain⟨ol,hol,_,nl,hdl⟩:=hl;unfold AH;refine ae<|vv<|iA (name:=cy "__next__") hit.typeIs mM<|gX mM hit.typeIs PySem.F.entry_tuple_iterator_next ?_<|PySem.F.args_tuple_iterator_next_1 _;show bp _ _ (field (.ref it) 0 >>= _) _ _ s;refine ae<|hZ ho hd (x:=.ref l) rfl ?_;show bp _ _ (if(b0 l==eP)=true then _ else _) _ _ s;rw[if_neg λz=>by cases(show false=true from z)];show bp _ _ (field (.ref it) 1 >>= _) _ _ s;refine ae<|hZ ho hd (x:=.int i 0) rfl<|show bp _ _ (seqItems? (.ref l) >>= _) _ _ s from ae (si hol hdl ?_);simp only[kd,hx];refine ae<|pf<|ae<|kM ho hd (by simp) ?_;refine VF (A:=A.in1) (s:={ s with heap:=_ }) (Hdl.upd (A:=A.in1) H ho hd rfl) λh' e kp ⟨oe,he,ce⟩=>?_;refine ae<|l6 (T:="StopIteration") (b:=true) ⟨oe,he,ce⟩ zt ?_;exact ai<|hQ _ λb q nb hb=>kp b q<|(iS _ _ _ _ nb).trans hb
end
def HS (X:Cx):Prop:=∃x o u vs,X.A.handled=some (.ref x)/\X.H₀ x=some (.frz o u)/\o.data=.fields vs/\vs[2]? = some .none
theorem Lp {X:Cx}{π:Zp}{σ:L2.St}{H:Hp}{s:aS}(h:HS X)(I:Inv X π σ H s):Hdl X.A s.heap:=by
 obtain⟨x,o,u,vs,h1,h2,h3,h4⟩:=h;exact⟨x,o,vs,h1,(I.hok x _<|I.base.frzs x o u h2).1,h3,h4⟩
theorem Lh {P:bq}{w:dA}{K:a7}{tg:Expr}(a it:Addr):Turn HS P w K tg (Itl K a) [it] it (λi h=>h.IsListIter it a i) where
 mem:=by simp
 obj:=λi h st b hb=>by
  have e:b=it:=by simpa using hb
  subst e;obtain⟨o,e,c,d⟩:=st;exact⟨o,e,λv z=>by rw[d] at z;cases z⟩
 keep:=λi h h' st k=>st.at λo e=>k it (by simp) o e
 item:=by
  intro X hP hw hK hc i π s σ H E I hf st hg;subst hP hw hK;obtain⟨xs,x,hq,hx⟩:=hg;obtain⟨χ,rv,p,hz⟩:=I.list hq;obtain⟨u,hu,ru⟩:=rv.get hx;obtain⟨f0,f1,f2,f3,f4,f5⟩:=hf it (by simp);refine mP st p.isList (x:=u) (by simpa using hu) λh' st' sb=>?_;have I1:Inv X π σ H { s with heap:=h' }:=I.turned (t':=s.toks) (λb o hb e=>(sb.2 b hb).trans e) f0 f1 f3 f4 f5;obtain⟨o,e,c,d⟩:=id st';exact⟨u,rfl,Gq (s:={ s with heap:=h' }) e c d (by decide) ⟨x,H,I1,ru,⟨rfl,λys hy=>by rw[I.Cw hy hq];exact hx⟩,st',λb hb=>(hf b hb).1⟩⟩
 done:=by
  intro X hP hw hK hc i π s σ H E I hf st hg;subst hP hw hK;obtain⟨xs,hq,hx⟩:=hg;obtain⟨χ,rv,p,hz⟩:=I.list hq;obtain⟨f0,f1,f2,f3,f4,f5⟩:=hf it (by simp);have hl:=rv.length;exact GR (Lp hc I) st p.isList (by simp;omega) λh' eb=>⟨rfl,I.turned (t':=s.toks) (λb o hb e=>eb b o hb e) f0 f1 f3 f4 f5⟩
 self:=λ_ _ _ _ _ st h=>nS st h
theorem Lf {P:bq}{w:dA}{K:a7}{tg:Expr}(a it:Addr):Turn HS P w K tg (Itt K a) [it] it (λi h=>h.IsTupleIter it a i) where
 mem:=by simp
 obj:=λi h st b hb=>by
  have e:b=it:=by simpa using hb
  subst e;obtain⟨o,e,c,d⟩:=st;exact⟨o,e,λv z=>by rw[d] at z;cases z⟩
 keep:=λi h h' st k=>st.at λo e=>k it (by simp) o e
 item:=by
  intro X hP hw hK hc i π s σ H E I hf st hg;subst hP hw hK;obtain⟨xs,x,hq,hx⟩:=hg;obtain⟨χ,rv,p,hz⟩:=I.tuple hq;obtain⟨u,hu,ru⟩:=rv.get hx;obtain⟨f0,f1,f2,f3,f4,f5⟩:=hf it (by simp);refine wpAny_pyNext_tuple_item st (show s.heap.IsTuple a χ.toArray from p) (x:=u) (by simpa using hu) λh' st' sb=>?_;have I1:Inv X π σ H { s with heap:=h' }:=I.turned (t':=s.toks) (λb o hb e=>(sb.2 b hb).trans e) f0 f1 f3 f4 f5;obtain⟨o,e,c,d⟩:=id st';exact⟨u,rfl,Gq (s:={ s with heap:=h' }) e c d (by decide) ⟨x,H,I1,ru,⟨rfl,λys hy=>by rw[I.GK hy hq];exact hx⟩,st',λb hb=>(hf b hb).1⟩⟩
 done:=by
  intro X hP hw hK hc i π s σ H E I hf st hg;subst hP hw hK;obtain⟨xs,hq,hx⟩:=hg;obtain⟨χ,rv,p,hz⟩:=I.tuple hq;obtain⟨f0,f1,f2,f3,f4,f5⟩:=hf it (by simp);have hl:=rv.length;exact Mf (Lp hc I) st (show s.heap.IsTuple a χ.toArray from p) (by simp;omega) λh' eb=>⟨rfl,I.turned (t':=s.toks) (λb o hb e=>eb b o hb e) f0 f1 f3 f4 f5⟩
 self:=λ_ _ _ _ _ st h=>wpAny_pyIter_tupleiter st h
section
variable {X:Cx}{tg:Expr}
theorem U7 {l:Expr}{tl:TE}(hl:PE X l tl):PI HS X tg l (aa2 X.K tl):=by
 intro π s σ H R I h;refine thn (hl π s σ H _ I h) λv s1 hE=>xq2 hE λx H1 I1 r1 q1=>?_;obtain⟨a,e,⟨xs,hq⟩,q⟩:=q1;subst e;cases r1;obtain⟨χ,rv,p,hz⟩:=I1.list hq;refine k9 p.isList ?_;refine⟨s1.heap.objs.size,[s1.heap.objs.size],_,_,H1,rfl,I1.kept (t':=s1.toks) λb o e=>af _ e,Lh a _,⟨_,aT _ rfl,rfl,rfl⟩,λb hb=>?_,q⟩;have e:b=s1.heap.objs.size:=by simpa using hb
 subst e;exact I1.N5 (aI _)<|I1.hok.fresh<|aI _
theorem Zj {l:Expr}{tl:TE}(hl:PE X l tl):PI HS X tg l (adM X.K tl):=by
 intro π s σ H R I h;refine thn (hl π s σ H _ I h) λv s1 hE=>xq2 hE λx H1 I1 r1 q1=>?_;obtain⟨a,e,⟨xs,hq⟩,q⟩:=q1;subst e;cases r1;obtain⟨χ,rv,p,hz⟩:=I1.tuple hq;refine wpAny_pyIter_tuple (show s1.heap.IsTuple a χ.toArray from p) ?_;refine⟨s1.heap.objs.size,[s1.heap.objs.size],_,_,H1,rfl,I1.kept (t':=s1.toks) λb o e=>af _ e,Lf a _,⟨_,aT _ rfl,rfl,rfl⟩,λb hb=>?_,q⟩;have e:b=s1.heap.objs.size:=by simpa using hb
 subst e;exact I1.N5 (aI _)<|I1.hok.fresh<|aI _
theorem Kc {Cm:Cx->Prop}{e:Expr}{T T':TI}(h:PI Cm X tg e T)(k:∀σ H R,T' σ H R->T σ H R):PI Cm X tg e T':=λπ s σ H R I q=>h π s σ H R I<|k σ H R q
end
section
variable {X:Cx}{E:XK}{tg e:Expr}{f:Zaf}
theorem Xl (h:FE X E e f):PI HS X tg e (tI (gx X) E<|cZ f):=Kc (U7 h) λσ H R hE=>xq5 hE λO0 M0 H0 ow m Re q=>⟨O0,M0,H0,ow,m,Re,q.bind.imp (aM.refl _) λd q v H' g hv=>by
 cases d with
 |lst ds=>
  cases hv with
  |lst hl hd=>exact⟨_,rfl,⟨_,hl.sq⟩,q _ H' g<|Qj (Re.mono g).mutk hl hd⟩
 |_=>exact q.elim⟩
theorem Z5 (h:FE X E e f):PI HS X tg e (tI (gx X) E<|jk f):=Kc (Zj h) λσ H R hE=>xq5 hE λO0 M0 H0 ow m Re q=>⟨O0,M0,H0,ow,m,Re,q.bind.imp (aM.refl _) λd q v H' g hv=>by
 cases d with
 |tup ds=>
  cases hv with
  |tup hl hd=>exact⟨_,rfl,⟨_,hl.sq⟩,q _ H' g<|UW (Re.mono g).mutk hl.sq hd⟩
 |_=>exact q.elim⟩
end
def A0 (A:dP):dP:={ A with handled:=none }
def jY (k:Nat)(A:dP):Prop:=fZ k<|A0 A
theorem jY.depth {k:Nat}{A:dP}(r:jY k A):A.depth<zh:=(fZ.depth (A:=A0 A) r)
theorem jY.deeper {k:Nat}{A:dP}(r:jY (k+1) A)(env:Env):jY k (A.deeper env):=(fZ.deeper (A:=A0 A) r env)
theorem jY.mono {j k:Nat}{A:dP}(r:jY k A)(h:j<=k):jY j A:=fZ.mono (A:=A0 A) r h
def cxH (CX:CXT)(P:bq)(w:dA)(K:a7)(mg:Zaa)(base:Heap)(N:List Str)(qual:Str)(scope:sj)(f:Addr)(cd:aw)(A:dP)(outer:List Env)(s:aS)(H:Hp)(E:XK):Cx:=
 { lQ CX P w K mg base N qual scope f cd A outer s H E with calm:=false }
theorem HS.at {X:Cx}{π:Zp}{σ:L2.St}{H:Hp}{s:aS}(h:HS X)(I:Inv X π σ H s):KR X.A H:=by
 obtain⟨x,o,u,vs,h1,h2,h3,h4⟩:=h;exact⟨x,o,u,vs,h1,I.base.frzs x o u h2,h3,h4⟩
structure Av (P:bq)(w:dA)(K:a7)(mg:Zaa)(base:Heap)(CX:CXT)(k:Nat)(f:Addr)(fd:gN)(ps:List Str)(sp:Sp):Prop where
 len:∀vs H Q E,sp vs H Q E->vs.length=ps.length
 run:∀(A:dP) (outer:List Env) (s:aS) (H:Hp) (args:Args) (us:List aw) (vs:List V) (Q:VK) (E:XK),jY k A->KR A H->Et P w K mg base A outer s H->A2 s fd args (ps.zip us)->Vals vs us->sp vs H Q E->
  xw (b6 P w) A (.call (.ref f) args) (CR CX outer P w H s Q E) s
theorem Lr {CX:CXT}{P:bq}{w:dA}{K:a7}{mg:Zaa}{base:Heap}{N ps:List Str}{qual:Str}{scope:sj}{f:Addr}{cd:aw}{A:dP}{outer:List Env}{s s1:aS}{H:Hp}{E:XK}{us:List aw}{vs:List V}
  (S:aQ N ps scope) (e0:Et P w K mg base A outer s H) (hl:vs.length=ps.length) (r:Vals vs us)
  (x:InCallC s s.heap.objs.size (B2 (qc qual scope s.heap.objs.size f cd).kindOf (ps.zip us) λ_=>none) (AJ (s.heap.objs.size+1) scope.names []) (B3 (qc qual scope s.heap.objs.size f cd).kindOf (ps.zip us) λ_=>none) s1):
  Inv (cxH CX P w K mg base N qual scope f cd A outer s H E) [] (L2.start N vs) H s1:=by
 have e1:Et P w K mg base (A0 A) outer s H:=⟨e0.frames,e0.mod,e0.bs,e0.bsz,e0.tD,e0.frf,e0.hok,e0.bare⟩;have I:=Gz (CX:=CX) (qual:=qual) (f:=f) (cd:=cd) (E:=E) (A:=A0 A) S rfl e1 hl r x;have ok:=I.ok;exact⟨⟨ok.mod,ok.kind,ok.glob,ok.blt,ok.above,ok.inj,ok.has,ok.cab,λz=>(by cases(show false=true from z)),y4 e0.frames,ok.stk,ok.exf,ok.bs,ok.bsz,ok.noex,ok.exfs,ok.tD,ok.frf⟩,I.os,I.bare,I.base,I.loc,I.cell,I.free,I.freeC,I.pin,I.hok,I.len⟩
theorem acH {CX:CXT}{P:bq}{w:dA}{K:a7}{mg:Zaa}{base:Heap}{k:Nat}{f:Addr}{name qual:Str}{params:Arguments}{body:List Stmt}{scope:sj}{dV kV doc pm cdv ct oc:aw}{an od:Option Addr}
  {osl:Array (Option aw)} {N ps:List Str} {sp:Sp} (lk:K.lookup f=some ⟨oc,od,.func<|v3 name qual params body scope dV kV doc pm an cdv ct,osl⟩) (hcd:AK K cdv qual=true) (S:aQ N ps scope)
  (len:∀vs H Q E,sp vs H Q E->vs.length=ps.length)
  (hbody:∀(A:dP) (outer:List Env) (s:aS) (H:Hp) (vs:List V) (Q:VK) (E:XK),jY k (A.deeper<|qc qual scope s.heap.objs.size f cdv)->HS (cxH CX P w K mg base N qual scope f cdv A outer s H E)->sp vs H Q E->
   ∃t,PSs (cxH CX P w K mg base N qual scope f cdv A outer s H E) body t/\t { nx:=λ_ H'=>Q .non H',rt:=Q } (start N vs) H):
  Av P w K mg base CX (k+1) f (v3 name qual params body scope dV kV doc pm an cdv ct) ps sp:=by
 refine⟨len,λA outer s H args us vs Q E hr hh e0 hb r hsp=>?_⟩;have hl:=len _ _ _ _ hsp;have KX:K.In s.heap:=e0.mod.kin.keeps λb o e=>(e0.bs b o e).1;have lim:s.heap.NoLimit:=e0.mod.nolimit.keeps λb o e=>(e0.bs b o e).1;have hkind:∀y∈ps.zip us,scope.names.lookup y.1=some .local\/(scope.names.lookup y.1=some .cell/\((AJ (s.heap.objs.size+1) scope.names []).lookup y.1).isSome=true):=λ⟨n,v⟩ hy=>by
  rcases S.par n (qa hy).1 with q|q
  ·exact .inl q
  ·exact .inr ⟨q,vT _ _ _<|.inl q⟩
 refine codeAny_call_function (jY.depth hr) (KX _ _ lk) rfl S.co S.gen rfl (W.codeRec_of KX hcd)<|hb _ _ _ _ ?_;refine rg S.kind hkind λenv he s1 x=>?_;subst he;refine⟨lim.keeps x.toInCall.keep,codeAny_func ?_⟩;obtain⟨t,ht,hq⟩:=hbody A outer s H vs Q E (jY.deeper hr _) hh hsp;have I:Inv (cxH CX P w K mg base N qual scope f cdv A outer s H E) [] (start N vs) H s1:=Lr S e0 hl r x;refine fx (ht [] s1 (start N vs) H _ I hq) (λfl s' hs=>?_) λe s' hs=>hs;have fin:∀{σ':L2.St} {H':Hp} {v:V} {u:aw},Inv (cxH CX P w K mg base N qual scope f cdv A outer s H E) [] σ' H' s'->RelV v u->Q v H'->CE outer P w H s Q u s':=
  λ{σ' H' v u} J rv q=>⟨v,H',J.os,J.bare,J.base,J.hok,rv,q⟩
 cases fl with
 |ret u=>
  obtain⟨v,σ',H',J,rv,q⟩:=hs;exact fin J rv q
 |next=>
  obtain⟨σ',H',J,q⟩:=hs;exact fin (v:=V.non) (u:=eP) J rfl q
 |brk=>
  obtain⟨_,_,_,q⟩:=hs;exact fq q
 |cont=>
  obtain⟨_,_,_,q⟩:=hs;exact fq q
section
variable {P:bq}{w:dA}{K:a7}{mg:Zaa}{base:Heap}
theorem W7 {x qual:Str}{st:Stmt}{f:Addr}{fd:gN}{N ps:List Str}{k:Nat}{sp:Sp}(F:Fun K x qual st f fd)(S:aQ N ps (aF st))(len:∀vs H Q E,sp vs H Q E->vs.length=ps.length)
  (hbody:∀(cdv:aw) (A:dP) (outer:List Env) (s:aS) (H:Hp) (vs:List V) (Q:VK) (E:XK),jY k (A.deeper<|qc qual (aF st) s.heap.objs.size f cdv)->HS (cxH (CX1 P w) P w K mg base N qual (aF st) f cdv A outer s H E)->sp vs H Q E->
   ∃t,PSs (cxH (CX1 P w) P w K mg base N qual (aF st) f cdv A outer s H E) (gU st) t/\t { nx:=λ_ H'=>Q .non H',rt:=Q } (L2.start N vs) H):Av P w K mg base (CX1 P w) (k+1) f fd ps sp:=by
 obtain⟨oc,od,kV,doc,pm,an,cdv,ct,osl,rfl,lk,hcd⟩:=F.ex;refine acH lk hcd S len λA outer s H vs Q E hr hh hsp=>?_;obtain⟨t,h,q⟩:=hbody cdv A outer s H vs Q E hr hh hsp;exact⟨t,h,q⟩
theorem Kv {x qual:Str}{st:Stmt}{f:Addr}{fd:gN}{N ps:List Str}{k:Nat}{g:Zac}(Fu:Fun K x qual st f fd)(S:aQ N ps (aF st))
  (hbody:∀(cdv:aw) (A:dP) (outer:List Env) (s:aS) (H:Hp) (E:XK),jY k (A.deeper<|qc qual (aF st) s.heap.objs.size f cdv)->HS (cxH (CX1 P w) P w K mg base N qual (aF st) f cdv A outer s H E)->
   FSs (cxH (CX1 P w) P w K mg base N qual (aF st) f cdv A outer s H E) E (gU st) g):Av P w K mg base (CX1 P w) (k+1) f fd ps (spF ⟨K,mg⟩<|aX N.length ps.length g):=by
 refine W7 Fu S (λvs H Q E h=>?_) λcdv A outer s H vs Q E hr hh h=>?_
 ·obtain⟨O,ds,_,hd,q⟩:=h;rw[bT hd];unfold aX at q;exact(yg q).1
 ·obtain⟨O,ds,hm,hd,q⟩:=h;unfold aX at q;obtain⟨hn,q⟩:=yg q;refine⟨_,hbody cdv A outer s H E hr hh,O,λ_=>False,H,λ_=>none,_,Ey hm hd hn,?_⟩;have sm:∀{ow' σ' H' m'},eV (⟨K,mg⟩:Gx) O (λ_=>False) H ow' σ' H' m'->aM H H':=λR b o e=>R.keep b o e id;cases z:g (ds.map Sl.fz++bP (N.length-ps.length) Sl.un) with
  |exc c=>rw[z] at q;exact λC H' e kp=>q C H' e λb o e=>kp b o e id
  |stuck=>rw[z] at q;exact q.elim
  |ok a=>
   obtain⟨fl,m'⟩:=a;rw[z] at q;cases fl with
   |bk=>exact q.elim
   |ct=>exact q.elim
   |nx=>exact λow' σ' H' R' _=>q _ H' (sm R') .non λz=>by cases z
   |rt fr d=>
    intro v ow' σ' H' R' _ hv hf;refine q v H' (sm R') (hv.cL λb z=>.inl<|.inl z) λz=>?_;rcases hf z with⟨p,e1,e2,e3⟩|t
    ·exact .inl ⟨p,e1,e2,e3.cL λb z=>.inl<|z.elim (λy=>.inl<|.inl y) .inr⟩
    ·exact .inr t
end
structure FnH (P:bq)(w:dA)(K:a7)(mg:Zaa)(base:Heap)(k:Nat)(x:Str)(ps:List Str)(sp:Sp):Prop where
 ex:∃f fd,Av P w K mg base (CX1 P w) k f fd ps sp/\Binds K fd ps []/\la K (.ref f)=true/\mg x=some (.ref f)
abbrev FFH (P:bq)(w:dA)(K:a7)(mg:Zaa)(base:Heap)(k:Nat)(x:Str)(ps:List Str)(Φ:Zad):Prop:=FnH P w K mg base k x ps<|spF ⟨K,mg⟩ Φ
theorem DfH {P:bq}{w:dA}{K:a7}{mg:Zaa}{base:Heap}{x:Str}{st:Stmt}{ps:List Str}{k:Nat}{sp:Sp}(D:Df K mg x st ps)
  (h:∀f fd,Fun K x x st f fd->Av P w K mg base (CX1 P w) k f fd ps sp):FnH P w K mg base k x ps sp:=by
 obtain⟨f,fd,F,b,m⟩:=D.ex;exact⟨f,fd,h f fd F,b,F.kp,m⟩
section
variable {X:Cx}{CX:CXT}{j k:Nat}{f:Addr}{fd:gN}{ps:List Str}{sp:Sp}{dvs:List V}{ds:List aw}{E:XK}{x:Str}{p pos:Pos}{e:Expr}{es:List Expr}{t:TA}{Φ:Zad}{fs:Zae}
theorem Qt {π:Zp}{σ:L2.St}{H:Hp}{s:aS}{Q:VK}{us:List aw}{vs:List V}(F:Av X.prog X.w X.K X.mg X.base CX k f fd ps sp)(hr:jY k X.A)(hh:KR X.A H)(hb:Binds X.K fd ps ds)(hd:Vals dvs ds)(hx:Passes CX X E)
  (I:Inv X π σ H s) (r:Vals vs us) (h:sp (vs++dvs) H Q E):bp (b6 X.prog X.w) X.A (call (.ref f) us) (EP X π σ Q) X.xe s:=by
 have r2:Vals (vs++dvs) (us++ds):=r.append hd;have hl:(us++ds).length=ps.length:=by rw[← r2.length];exact F.len _ _ _ _ h
 refine yB<|nV (F.run X.A X.stack s H ⟨us,[]⟩ (us++ds) (vs++dvs) Q E hr hh I.env0 (hb s us I.kIn hl) r2 h) λr s' hq=>?_;cases r with
 |error e=>exact hx π σ H s e s' I hq
 |ok fl=>
  cases fl with
  |ret u=>exact I.after hq
  |next=>exact fq hq
  |brk=>exact fq hq
  |cont=>exact fq hq
theorem U9 (Fo:Av X.prog X.w X.K X.mg X.base CX k f fd ps sp)(hr:jY k X.A)(hh:HS X)(hg:Gl X x)(hm:X.mg x=some (.ref f))(hk:la X.K (.ref f)=true)(hb:Binds X.K fd ps ds)(hd:Vals dvs ds)(hx:Passes CX X E)
  (ha:PA X (e::es) t) (hdb:(x==("__debug__":Str))=false:=by decide) (he:ag (e::es) X.env=(false,eval e X.env)::ag es X.env:=by rfl) (ξ:(hV pos<|ag es X.env).any (·.1)=false:=by rfl):
  PE X (.Call (.Name x p) (e::es) [] pos) (aaM sp dvs E t):=by
 intro π s σ H Q I h;refine gc<|qY I hg hm ?_ hdb;refine rX (h₀:=X.base) I.ok.mod.kin hk (thn (ha pos π s σ H _ I h) λus s1 hE=>xq2 hE λvs H1 I1 r q=>⟨I1.kIn,?_⟩) he ξ;exact Qt Fo hr (hh.at I1) hb hd hx I1 r q
theorem M4 (Fh:FFH X.prog X.w X.K X.mg X.base k x ps Φ)(hr:jY j X.A)(hh:HS X)(hx:Passes (CX1 X.prog X.w) X E)(ha:FAE X E (e::es) fs)(hk:k<=j:=by decide)(hg:Gl X x:=by rfl)
  (hdb:(x==("__debug__":Str))=false:=by decide) (he:ag (e::es) X.env=(false,eval e X.env)::ag es X.env:=by rfl) (ξ:(hV pos<|ag es X.env).any (·.1)=false:=by rfl):
  FE X E (.Call (.Name x p) (e::es) [] pos) (fFn Φ fs):=by
 obtain⟨f,fd,G,b,kp,m⟩:=Fh.ex;refine bG (U9 G (hr.mono hk) hh hg m kp b .nil hx ha hdb he ξ) λσ H Q hE=>xq5 hE λO0 M0 H0 ow m R q=>⟨O0,M0,H0,ow,m,R,q.bind.imp (aM.refl _) λds q vs H1 g1 hv=>?_⟩;show spF _ _ (vs++[]) _ _ _;rw[cw];exact⟨_,ds,(R.mono g1).mutk,hv,q.bind.imp g1 λr q v H' g2 hv' _=>q v H' (g1.trans g2) hv'⟩
end
section
variable {P:bq}{w:dA}{K:a7}{mg:Zaa}{base:Heap}{N:List Str}{qual:Str}{scope:sj}{f:Addr}{cd:aw}{A:dP}{outer:List Env}{s:aS}{H:Hp}{E:XK}
theorem Du:Passes (CX1 P w) (cxH (CX1 P w) P w K mg base N qual scope f cd A outer s H E) E:=by
 intro π σ H1 s1 e s' I h;obtain⟨ea,ob,us,B,H',F,hw⟩:=h;obtain rfl:=F.is;have nfr:∀b o,s.heap.get? b=some o->b∉frs outer->b∉frs (cxH (CX1 P w) P w K mg base N qual scope f cd A outer s H E).stack:=λb o q nb hb=>by
  rcases yH (L:=s.heap.objs.size) rfl hb with z|z
  ·exact absurd (ay q) (by rw[z];exact eT _)
  ·exact nb z
 have nx:∀b:Addr,b∉(cxH (CX1 P w) P w K mg base N qual scope f cd A outer s H E).ex:=λb z=>absurd (show b∈([]:List Addr) from z) (by simp);refine Kz (B:=B) (l:=outer) (L:=s.heap.objs.size) I.ok.frames rfl F.fly λh2 x1 x2=>?_;refine⟨ea,ob,us,B,H',⟨rfl,F.os.trans I.os,F.bare,x1,F.ctx,λb o q n nb=>?_,λb o q hb=>?_,λb o q n=>?_,λb o q nb=>?_,λb xs q=>F.tups b xs<|I.base.tups b xs q,λb o u q=>F.frzs b o u<|I.base.frzs b o u q,λb ps q=>?_,F.hok,?_,F.nin⟩,hw⟩
 ·exact F.keep b o (I.base.keep b o q n nb<|nx b) (I.base.free b o q n<|nx b)<|nfr b o q nb
 ·obtain⟨sl,e1⟩:=I.base.slot b o q (I.ok.frf b hb) hb<|nx b;obtain⟨_,o',ho',hnf⟩:=I.ok.tD.mem hb;have eo:o=o':=b9<|q.symm.trans ho';obtain⟨sl1,e2⟩:=F.slot b _ e1<|Jj hb;obtain⟨sl2,e3⟩:=x2 b _ e2 λv z=>hnf v (by rw[← eo];exact z);exact⟨sl2,e3⟩
 ·obtain⟨o',e1⟩:=I.base.there b o q<|nx b;exact F.free b o' e1<|I.base.free b o q n<|nx b
 ·obtain⟨o',e1⟩:=I.base.there b o q<|nx b;exact F.there b o' e1<|nfr b o q nb
 ·obtain⟨m1,e1⟩:=I.base.tbls b ps q;obtain⟨m2,e2⟩:=F.tbls b _ e1;exact⟨m1++m2,by rw[e2,ml]⟩
 ·cases q:s.heap.get? ea with
  |none=>rfl
  |some o=>
   obtain⟨o',e1⟩:=I.base.there ea o q<|nx ea;rw[F.new] at e1;cases e1
end
section
variable {X:Cx}{CX:CXT}{i j k:Nat}{f:Addr}{fd:gN}{ps:List Str}{sp:Sp}{dvs:List V}{ds:List aw}{E:XK}{x y:Str}{p pos pos' ρ:Pos}{e:Expr}{es:List Expr}{t:TA}{Φ:Zad}{fs:Zae}
theorem Vp (Fo:Av X.prog X.w X.K X.mg X.base CX k f fd ps sp)(hr:jY k X.A)(hg:Gl X x)(hm:X.mg x=some (.ref f))(hk:la X.K (.ref f)=true)(hb:Binds X.K fd ps ds)(hd:Vals dvs ds)(hx:Passes CX X E)
  (ha:PA X (e::es) t) (hdb:(x==("__debug__":Str))=false:=by decide) (he:ag (e::es) X.env=(false,eval e X.env)::ag es X.env:=by rfl) (ξ:(hV pos<|ag es X.env).any (·.1)=false:=by rfl):
  PE X (.Call (.Name x p) (e::es) [] pos) (λσ H Q=>t σ H λvs H1=>KR X.A H1/\sp (vs++dvs) H1 Q E):=by
 intro π s σ H Q I h;refine gc<|qY I hg hm ?_ hdb;refine rX (h₀:=X.base) I.ok.mod.kin hk (thn (ha pos π s σ H _ I h) λus s1 hE=>xq2 hE λvs H1 I1 r q=>⟨I1.kIn,?_⟩) he ξ;exact Qt Fo hr q.1 hb hd hx I1 r q.2
theorem SQ {A:dP}{H H':Hp}(h:KR A H)(g:aM H H'):KR A H':=let⟨x,o,u,vs,a,b,c⟩:=h;⟨x,o,u,vs,a,g _ _ b,c⟩
theorem X3 (Fh:FFH X.prog X.w X.K X.mg X.base k x ps Φ)(hr:jY j X.A)(hN:X.N.Nodup)(hi:X.N[i]? = some y)(hy:Loc X.env.scope y)(ha:FAE X E0 (e::es) fs)(hk:k<=j:=by decide)(hg:Gl X x:=by rfl)
  (hdb:(x==("__debug__":Str))=false:=by decide) (he:ag (e::es) X.env=(false,eval e X.env)::ag es X.env:=by rfl) (ξ:(hV ρ<|ag es X.env).any (·.1)=false:=by rfl)
  (hs:fg (.Call (.Name x p) (e::es) [] ρ) (some<|.Name y pos') pos.line X.env=pure false:=by rfl) (hf:X.fn y=true\/X.env.scope.names.lookup y=some .local:=by first|exact .inl rfl|exact .inr rfl|assumption):
  PSs X [.Assign [.Name y pos'] (.Call (.Name x p) (e::es) [] ρ) pos] (tSA X<|bu i<|fFn Φ fs):=by
 obtain⟨f,fd,G,b,kp,m⟩:=Fh.ex;have c:PE X (.Call (.Name x p) (e::es) [] ρ) (λσ H Q=>KR X.A H/\tE (gx X) E0 (fFn Φ fs) σ H Q):=bG (Vp G (hr.mono hk) hg m kp b .nil (DK) ha hdb he ξ) λσ H Q ⟨z,O0,M0,H0,ow,m,R,q⟩=>⟨O0,M0,H0,ow,m,R,q.bind.imp (aM.refl _) λds q vs H1 g1 hv=>⟨SQ z g1,by
  show spF _ _ (vs++[]) _ _ _;rw[cw];exact⟨_,ds,(R.mono g1).mutk,hv,q.bind.imp g1 λr q v H' g2 hv' _=>q v H' (g1.trans g2) hv'⟩⟩⟩
 exact Bv<|cH (BX hN hi hy c hs hf) λW σ H ⟨z,h⟩=>⟨z,Lj h⟩
theorem ab3 {ea:Addr}(hr:fZ k X.A):jY k (inh X ea).A:=⟨rfl,hr.dp,hr.un,hr.gd⟩
end
theorem abM {k:Nat}{A:dP}(r:jY k A):A.units+64<pE:=fZ.units (A:=A0 A) r
section
variable {prog:bq}{w:dA}{A:dP}{E:Zl}{s:aS}
theorem JP {x:Addr}{o:Obj}{vs:Array aw}(hh:A.handled=some (.ref x))(hd:o.data=.fields vs)(h2:vs[2]? = some .none)(I ax:Addr)(hne:ax≠I)(hx:x≠I)(items:Array aw):
  Walks prog w A I [I,ax,x] [I] items.size (λi v=>items[i]? = some v) (λi h=>h.IsListIter I ax i/\h.IsList ax items/\h.get? x=some o) where
 sub:=λb z=>by simp at z;simp[z]
 frame:=λ_ _ _ z k=>⟨z.1.at<|k I (by simp),z.2.1.at<|k ax (by simp),k x (by simp) _ z.2.2⟩
 item:=λi s Q E l z q=>mP z.1 z.2.1 (x:=items[i]) (by simp[l]) λh' t u=>
  q _ h' s.toks (by simp[l]) ⟨t,z.2.1.extBut u.extBut hne,u.extBut x o hx z.2.2⟩ λb ob n e=>u.extBut b ob (λy=>n<|by simp[y]) e
 done:=λs Q E z q=>GR ⟨x,o,vs,hh,z.2.2,hd,h2⟩ z.1 z.2.1 (by simp) λh' u=>q h' s.toks λb ob n e=>u b ob (λy=>n<|by simp[y]) e
 self:=λ_ _ _ _ z q=>nS z.1 q
theorem Ez:∀{bs:List Bool} {us:List aw},Vals (bs.map V.bl) us->us=bs.map ng
 |[],_,.nil=>rfl
 |b::bs,_,.cons r t=>by cases r;rw[Ez t];rfl
theorem M7 {l:Addr}{bs:List Bool}{Q:Zl}(hH:Hdl A s.heap)(hl:s.heap.IsList l (bs.map ng).toArray)
  (q:∀h' tk t',(∀b o,s.heap.get? b=some o->h'.get? b=some o)->Q (.int (bs.map λb=>if b=true then(1:Int) else 0).sum t') { s with heap:=h',toks:=tk }):
  bp (b6 prog w) A (call (.builtin "sum") [.ref l]) Q E s:=by
 obtain⟨x,o,vs,hh,ho,hd,h2⟩:=hH;have ll:l<s.heap.objs.size:=let⟨_,e,_⟩:=hl;ay e
 have lx:=ay ho;refine call_sum_walkAnyB<|k9 hl ⟨_,_,_,_,_,_,_,λj=>(bs.map λb=>if b=true then(1:Int) else 0).getD j 0,rfl,(JP (A:=A.in1) hh hd h2 _ l (bo ll) (bo lx) (bs.map ng).toArray).toS,⟨⟨_,aT _ rfl,rfl,rfl⟩,hl.push _,af _ ho⟩,λb hb=>?_,λi v hv=>?_,λs' t' mv=>?_⟩
 ·show b<(s.heap.push _).objs.size;rw[zk];simp only[bE,List.not_mem_nil,or_false] at hb;rcases hb with rfl|rfl|rfl
  ·exact wq _
  ·exact kr ll
  ·exact kr lx
 ·right;simp only[List.getElem?_toArray,bg,nc] at hv;obtain⟨b,hb,rfl⟩:=hv;exact⟨b,rfl,by simp[dc,hb]⟩
 ·have e:=preSum_getD (bs.map λb=>if b=true then(1:Int) else 0) bs.length;rw[kP<|by simp] at e;have e2:(bs.map ng).toArray.size=bs.length:=by simp
  rw[e2,e];obtain⟨k1,k2,k3,k4,k5⟩:=mv;obtain⟨h2,g2,d2,t2,o2⟩:=s';cases(show g2=_ from k2);cases(show o2=_ from k4);cases(show d2=_ from k3);exact q h2 t2 t' λb ob z=>k1 b ob (λy=>by simp only[cb] at y;subst y;exact absurd (ay z)<|eT _) (af _ z)
end
def Jg:List D->Option D
 |[.lst ds]=>(qw ds).map λbs=>.int (bs.map λb=>if b=true then(1:Int) else 0).sum
 |_=>none
theorem NB {X:Cx}(hh:HS X):iW X (.builtin "sum") (rGC (gx X) Jg):=by
 intro π s σ H xs us Q I r h;obtain⟨O,ds,d,m,hx,hr,q⟩:=h
 match ds,hr with
 |[.lst ds],hr=>
  obtain⟨bs,e1,rfl⟩:=omap hr;obtain⟨v,rfl,hv⟩:=wW hx;obtain⟨p,xs,rfl,hp,hd⟩:=jf hv;cases zc hd e1;obtain⟨u,rfl,rx⟩:=vals1 r;cases rx;obtain⟨χ,r',pl,hz⟩:=I.list hp;cases Ez r';exact M7 (Lp hh I) pl.isList λh' tk t' kp=>⟨.int _,H,I.kept kp,⟨t',rfl⟩,q _ _ (aM.refl _)<|.int _⟩
end F
namespace Hd
open PySem PySem.Spec PyProof.Rows L2
def G4 (K:a7)(C fI:Addr)(bmB:List aw)(newId:String):Bool:=match K.lookup C with
 |some ⟨.type "type",_,.cls cd,sl⟩=>(match cd.mro,sl.toList with
  | .ref D::bm,[_,_,_,_,some<|.builtin n,_]=>D==C&&n==newId&&!cd.hasDel&&cd.hasDict&&W.tailIn K bmB bm&&W.nsOkIn K cd.ns&&oq K cd.ns "__init__"==some (some<|.ref fI)
  |_,_=>false)
 |_=>false
theorem Xx {K:a7}{h:Heap}{N:Addr}{mg:Zaa}{n:Str}{v:aw}(X:K.In h)(G:h.Ns N mg)(e:oq K N n=some (some v)):mg n=some v:=by
 obtain⟨o,es,ep,ho,hd,_,hf⟩:=G;unfold oq at e;split at e
 case h_1 q=>
  cases ho.symm.trans (X _ _ q);cases hd;split at e
  case h_1 he=>
   cases e;rw[← hf];unfold nsFind findBy;rw[← AI,he];rfl
  case h_2=>split at e<;>cases e
 case h_2=>cases e
theorem PQ {K:a7}{h:Heap}{C fI:Addr}{bmB:List aw}{newId:String}(X:K.In h)(q:G4 K C fI bmB newId=true):
  ∃bm N nm qn bs sn sub ab col dd k0 k1 k2 k3 k5 mN,h.get? C=some (zS nm qn C N bs bm true sn sub ab col dd k0 k1 k2 k3 k5 newId)/\h.Ns N mN/\mN "__init__" = some (.ref fI)/\OwnTail h bmB bm:=by
 unfold G4 at q;split at q
 case h_2=>cases q
 case h_1 dd cd sl ho=>
  split at q
  case h_2=>cases q
  case h_1 C' bm k0 k1 k2 k3 n k5 hm hs=>
   simp only[beq_iff_eq,g7,Bool.not_eq_true'] at q;obtain⟨⟨⟨⟨⟨⟨z1,z2⟩,hdel⟩,hdc⟩,ht⟩,hok⟩,hni⟩:=q;subst z1 z2;obtain⟨nm,bs,mro,ns,qn,hd,sn,sub,ab,col,del⟩:=cd;cases(show mro=.ref C'::bm from hm);cases(show del=false from hdel);cases(show hd=true from hdc);obtain⟨l⟩:=sl;cases(show l=[k0,k1,k2,k3,some<|.builtin n,k5] from hs);exact⟨bm,ns,nm,qn,bs,sn,sub,ab,col,dd,k0,k1,k2,k3,k5,_,X _ _ ho,.of_isNs<|BC X hok,Xx X (.of_isNs<|BC X hok) hni,W.tail_of_in X ht⟩
section
variable {prog:bq}{w:dA}{A:dP}{E:Zl}{h:Heap}{g:Array nL}{d:Drawn}{t:Nat}{os:OsState}
variable {nm q:Str}{C N fI:Addr}{bs bm bmB:List aw}{hdct:Bool}{sn:List Str}{sub:List aw}{ab:Bool}{col:Option Bool}{dd:Option Addr}{k0 k1 k2 k3 k5:Option aw}{B newId initId:String}
def Ku (C t:Addr):Obj:={ cls:=.ref C,data:=.fields #[.ref t,.none,.none,.none,.bool false,.none] }
def yz (h:Heap)(C:Addr)(vs:List aw):Heap:=(h.push { cls:=.type "tuple",data:=.seq vs.toArray }).push<|Ku C h.objs.size
theorem Km {vs:List aw}{b:Addr}{o:Obj}(z:h.get? b=some o):(yz h C vs).get? b=some o:=af _<|af _ z
theorem Kq {vs:List aw}:(yz h C vs).get? (h.objs.size+1)=some (Ku C h.objs.size):=by unfold yz Ku;heap_get
theorem abe (F:xD B newId initId bmB)(T:OwnTail h bmB bm){mN:Zaa}{vs:List aw}{oI:Obj}{Q:Fin->aS->Prop}
  (hC:h.get? C=some (zS nm q C N bs bm hdct sn sub ab col dd k0 k1 k2 k3 k5 newId)) (hn:h.Ns N mN) (hi:mN "__init__" = some (.ref fI)) (hf:h.get? fI=some oI) (hfc:oI.cls=.type "function")
  (k:bp (b6 prog w) A (call (.ref fI) (.ref (h.objs.size+1)::vs)) (λr s'=>r=.none/\Q (.done<|.ret<|.ref<|h.objs.size+1) s') E ⟨yz h C vs,g,d,t,os⟩) (hz:vs.length<=av:=by size_fits):
  bp (b6 prog w) A (Ap.«type.__call__» ⟨.ref C::vs,[]⟩) Q E ⟨h,g,d,t,os⟩:=by
 repeat (first|with_reducible refine eJ hC ?_|with_reducible refine wpAny_madeBy_exc hC ?_|wp_step)
 refine codeAny_call_builtin_code (sf _ F.quiet)<|wpAny_check_new_subT F T hC<|codeAny_exc_new_subT F T hC ?_ hz;show bp _ _ _ _ _ _;show bp _ _ _ _ _ ⟨yz h C vs,_,_,_,_⟩;have kp:∀b o,h.get? b=some o->(yz h C vs).get? b=some o:=λb o z=>Km z;have hg:(yz h C vs).get? (h.objs.size+1)=some (Ku C h.objs.size):=Kq;have c0:(Ku C h.objs.size).cls=.ref C:=rfl;have cC:(b0 C::bm).contains (.ref C)=true:=by simp
 unfold A1
 repeat (first|(with_reducible refine eJ hg ?_;rw[c0])|(with_reducible refine wpAny_isSubtype_exc (kp _ _ hC) ?_;rw[cC])|wp_step)
 show bp _ _ (yT (.ref C) _) _ _ _;refine wpAny_typeLookup_tail (kp _ _ hC) (hn.keeps kp) (T.keeps kp) F.mroIs F.init.lookup ?_;rw[hi];refine gS<|ae ?_;unfold bindSpecial;refine ae<|mf (T:="function") ⟨_,kp _ _ hf,hfc⟩ ?_;rw[if_pos<|by decide];refine ai<|ae<|fx k (λr s' z=>?_) λ_ _ z=>z;obtain⟨rfl,z⟩:=z
 wp_walk
 exact z
theorem U4 (F:xD B newId initId bmB)(T:OwnTail h bmB bm){mN:Zaa}{vs:List aw}{oI:Obj}{Q:Zl}
  (hC:h.get? C=some (zS nm q C N bs bm hdct sn sub ab col dd k0 k1 k2 k3 k5 newId)) (hn:h.Ns N mN) (hi:mN "__init__" = some (.ref fI)) (hf:h.get? fI=some oI) (hfc:oI.cls=.type "function")
  (k:bp (b6 prog w) (A.under<|.builtin "type.__call__" ⟨.ref C::vs,[]⟩) (call (.ref fI) (.ref (h.objs.size+1)::vs)) (λr s'=>r=.none/\Q (.ref<|h.objs.size+1) s') E ⟨yz h C vs,g,d,t,os⟩) (hz:vs.length<=av:=by size_fits):
  bp (b6 prog w) A (call (.ref C) vs) Q E ⟨h,g,d,t,os⟩:=by
 have f1:=tc_lookup;have f2:=tc_bind<|.ref C;have hT:(⟨h,g,d,t,os⟩:aS).TypeIs (.ref C) "type":=⟨_,hC,rfl⟩;refine yB<|codeAny_of_tree ?_;show bp _ _ (callAny (.ref C) _) _ _ _
 repeat (any_goals (first|assumption|with_reducible refine eJ hC ?_|wp_step))
 exact⟨rfl,codeAny_call_builtin_at (sf _<|by decide +kernel) entry_typeCall<|wpAny_check_type_call_sub hC<|abe (hz:=hz) F T hC hn hi hf hfc k⟩
end
def GC:List aw->Bool
 | .ref _::r=>GC r
 |l=>l==[.type "ValueError",.type "Exception",.type "BaseException",.type "object"]
theorem Sq (self:aw):∀{l:List aw},GC l=true->refuseLoop self "__setattr__" l=pure ():=by
 intro l;induction l with
 |nil=>intro e;cases e
 |cons v r ih=>
  intro e;cases v with
  |ref a=>rw[refuseLoop_ref];exact ih e
  |_=>rw[beq_iff_eq.mp<|show((_::r:List aw)==[.type "ValueError",.type "Exception",.type "BaseException",.type "object"])=true from e];exact PySem.F.store_ValueError.passes self
structure XF (K:a7)(C:Addr):Prop where
 xc:XC K C
 sa:cq K (.ref C) "__setattr__" = some (some (.builtin "object.__setattr__"))
 ov:(sv K C).any (λcd=>GC cd.mro)=true
 hd:p0 K C=true
section
variable {prog:bq}{w:dA}{A:dP}{E:Zl}{s:aS}{x C:Addr}{ox:Obj}{od:Option Obj}{K:a7}{f:Str}{v:aw}{Q:Unit->aS->Prop}
theorem Oj (X:K.In s.heap)(Z:XF K C)(I:W.InstAt s.heap x ox C od)(hn:cq K (.ref C) f=some none)
  (h:bp (b6 prog w) A.in1 (Builtin.ObjectAttr.storeInOwnDict (.ref x) (.ref C) (.str f s.toks) f v false) (λfin s'=>match fin with|.done (.ret _)=>Q () s'|_=>False) (λe s'=>E e s') { s with toks:=s.toks+1 }):
  bp (b6 prog w) A (setAttr (.ref x) f v) Q E s:=by
 refine W.set_plain X I Z.sa ?_;have SF:=PySem.F.store_object;have sub:W.Looks (b6 prog w) s.heap (A1 (.ref x)<|.type "object") true:=I.type.andThen<|vc X Z.xc.ob;refine ly SF.slot.plain SF.entry<|@W.check_slot (b6 prog w) _ _ { s with toks:=s.toks+1 } "object.__setattr__" "object" "__setattr__" (.ref x) [.str f s.toks,v] [] _ SF.kind SF.split sub (SF.args (.ref x) (.str f s.toks) v) ?_;obtain⟨cd,hc,ho⟩:=nE Z.ov;have hm:W.Looks (b6 prog w) s.heap (mroOf<|.ref C) cd.mro:=(vF X hc).andThen .now;rw[W.osa_eq,refuse_eq];refine ae<|ae<|oy (s:={ s with toks:=s.toks+1 }) I.type (ae<|oy (s:={ s with toks:=s.toks+1 }) hm ?_);rw[Sq _ ho];refine ai<|ae<|oy (s:={ s with toks:=s.toks+1 }) I.type (ae<|oy (s:={ s with toks:=s.toks+1 }) (kN X hn) ?_);refine ae<|ai<|fx h (λfin s' z=>?_) λ_ _ z=>z;rcases fin with(u|_|_|_)|c<;>first|exact z|exact z.elim
theorem acn (X:K.In s.heap)(Z:XF K C)(hx:s.heap.get? x=some ox)(hc:ox.cls=.ref C)(hf:∃vs,ox.data=.fields vs)(hd:ox.dict=none)(hn:cq K (.ref C) f=some none)
  (q:∀h' t,h'.get? x=some { ox with dict:=some s.heap.objs.size }->h'.Ns1 s.heap.objs.size (λy=>if y=f then some v else none)->(∀b o,b≠x->s.heap.get? b=some o->h'.get? b=some o)->Q () { s with heap:=h',toks:=t }):
  bp (b6 prog w) A (setAttr (.ref x) f v) Q E s:=by
 obtain⟨us,hu⟩:=hf;obtain⟨oc,odi,oda,osl⟩:=ox;cases(show oc=.ref C from hc);cases(show odi=none from hd);cases(show oda=.fields us from hu);refine Oj (od:=none) X Z ⟨hx,rfl,rfl,trivial⟩ hn ?_;obtain⟨cd,hcd,hdd⟩:=nE Z.hd;refine ae<|ai<|ae<|ae<|zi hx<|ae<|oy (s:={ s with toks:=s.toks+1 }) (vF X hcd) ?_;rw[hdd];have hx1:=af (h:=s.heap) { cls:=.type "dict",data:=.dict #[] } hx;have ne:x≠s.heap.objs.size:=bo<|ay hx;refine ae<|wpAny_alloc'<|ae<|wpAny_update' hx1<|ai<|ae<|ai<|ae ?_;have hg:((s.heap.push { cls:=.type "dict",data:=.dict #[] }).update x λo=>{ o with dict:=some s.heap.objs.size }).get? s.heap.objs.size=some { cls:=.type "dict",data:=.dict #[] }:=(iS _ _ _ _ ne.symm).trans<|Heap.get?_push_at rfl rfl;refine wpAny_nsSet1 (Heap.Ns1.of_empty ⟨_,#[],_,hg,rfl,λe z=>absurd z (by simp),λ_=>rfl⟩) λh' hn' hs=>?_;obtain⟨oD,esD,epD,hoD,hdD,hcD⟩:=hn'.count<|Within.cons f v Within.nil;refine ae<|wpAny_lookBehind hoD (by rw[hdD];exact pastItsLine_dict<|dr hcD (by rw[cK,xE,pV];omega))<|ai<|q h' _ ?_ hn' λb o nb z=>?_
 ·exact(hs.2 x ne).trans (dS _ hx1 rfl)
 ·exact(hs.2 b<|bo<|ay z).trans ((iS _ _ _ _ nb).trans<|af _ z)
theorem YC {dx:Addr}{mA:Zaa}{ns:List Str}(X:K.In s.heap)(Z:XF K C)(hx:s.heap.get? x=some ox)(hc:ox.cls=.ref C)(hf:∃vs,ox.data=.fields vs)(hd:ox.dict=some dx)(hm:s.heap.Ns1 dx mA)(hw:Within mA ns)(hz:ns.length<=av)(hn:cq K (.ref C) f=some none)
  (q:∀h' t,h'.Ns1 dx (λy=>if y=f then some v else mA y)->iX dx s.heap h'->Q () { s with heap:=h',toks:=t }):
  bp (b6 prog w) A (setAttr (.ref x) f v) Q E s:=by
 obtain⟨us,hu⟩:=hf;obtain⟨oc,odi,oda,osl⟩:=ox;cases(show oc=.ref C from hc);cases(show odi=some dx from hd);cases(show oda=.fields us from hu);obtain⟨o',_,_,ho',_⟩:=id hm;refine Oj (od:=some o') X Z ⟨hx,rfl,rfl,ho'⟩ hn ?_;obtain⟨cd,hcd,hdd⟩:=nE Z.hd;refine ae<|ai<|ae<|ae<|zi hx<|ae<|oy (s:={ s with toks:=s.toks+1 }) (vF X hcd) ?_;rw[hdd];refine ai (a:=some dx)<|ae<|ai<|ae<|wpAny_nsSet1 hm λh' hn' hs=>?_;obtain⟨oD,esD,epD,hoD,hdD,hcD⟩:=hn'.count<|Within.cons f v hw;exact ae<|wpAny_lookBehind hoD (by rw[hdD];exact pastItsLine_dict<|dr hcD (by rw[cK];omega))<|ai<|q h' _ hn' hs
end
section
variable {prog:bq}{w:dA}{A:dP}{E:Zl}{h:Heap}{g:Array nL}{d:Drawn}{t:Nat}{os:OsState}{a C dx:Addr}{o:Obj}{K:a7}{f:Str}{v:aw}{mA:Zaa}
theorem Wq {tk:Tok}{Q:Fin->aS->Prop}(X:K.In h)(Z:XF K C)(hx:h.get? a=some o)(hc:o.cls=.ref C)(hf:∃us,o.data=.fields us)(hd:o.dict=some dx)(hm:h.Ns1 dx mA)(hv:mA f=some v)(hn:cq K (.ref C) f=some none)(hq:Q (.done<|.ret v) ⟨h,g,d,t,os⟩):
  bp (b6 prog w) A (Ap.«object.__getattribute__» ⟨[.ref a,.str f tk],[]⟩) Q E ⟨h,g,d,t,os⟩:=by
 have L4:=kN (M:=b6 prog w) X hn;obtain⟨cd,hcd,hdd⟩:=nE Z.hd;have L5:=vF (M:=b6 prog w) X hcd;obtain⟨us,hf⟩:=hf;obtain⟨oc,odi,oda,osl⟩:=o;cases(show oc=.ref C from hc);cases(show odi=some dx from hd);cases(show oda=.fields us from hf)
 repeat (any_goals (first|assumption|with_reducible refine eJ hx ?_|with_reducible refine L4.at ?_|with_reducible refine L5.at ?_|(with_reducible refine wpAny_nsGet hm.ns ?_;rw[hv])|wp_step))
theorem aeb {tk:Tok}{Q:Zl}{b1 b2:Bool}(X:K.In h)(Z:XF K C)(hx:h.get? a=some o)(hc:o.cls=.ref C)(hf:∃us,o.data=.fields us)(hd:o.dict=some dx)(hm:h.Ns1 dx mA)(hv:mA f=some v)(hn:cq K (.ref C) f=some none)(hb:∀id,v≠.builtin id)(hq:Q v ⟨h,g,d,t,os⟩):
  bp (b6 prog w) A (getAttrBy (.ref a) (.str f tk) b1 b2) Q E ⟨h,g,d,t,os⟩:=by
 have f3:=lI.ga.bind<|.ref a;have L1:=kN (M:=b6 prog w) X Z.xc.ga;have L2:=kN (M:=b6 prog w) X Z.xc.no;have n1:(iq "BaseException.__getattribute__"==iq "object.__getattribute__")=false:=by decide +kernel
 have n2:(onTheHeap (b0 C)&&iq "BaseException.__getattribute__"==iq "object.__getattribute__")=false:=by rw[n1];rfl
 have n3:(b2&&onTheHeap (iq "BaseException.__getattribute__"))=false:=by cases b2<;>rfl
 repeat (any_goals (first|assumption|(with_reducible refine eJ hx ?_;rw[hc])|with_reducible refine L1.at ?_|with_reducible refine L2.at ?_|wp_step))
 all_goals try refine ly lI.ga.plain F.entry_bexc_ga (La X Z.xc hx hc<|Wq X Z hx hc hf hd hm hv hn ?_)
 all_goals repeat (any_goals (first|assumption|wp_step))
 cases v<;>first|exact ai hq|exact absurd rfl (hb _)
theorem Yg {Q:Zl}{b:Bool}(X:K.In h)(Z:XF K C)(hx:h.get? a=some o)(hc:o.cls=.ref C)(hf:∃us,o.data=.fields us)(hd:o.dict=some dx)(hm:h.Ns1 dx mA)(hv:mA f=some v)(hn:cq K (.ref C) f=some none)(hb:∀id,v≠.builtin id)(hq:Q v ⟨h,g,d,t+1,os⟩):
  bp (b6 prog w) A (getAttr (.ref a) f b) Q E ⟨h,g,d,t,os⟩:=by
 unfold getAttr
 repeat (any_goals (first|assumption|with_reducible apply aeb X Z hx hc hf hd hm hv hn hb|wp_step))
end
def Raw (e:Addr)(ob:Obj)(h:Heap):Prop:=h.get? e=some ob
def Xd (dx:Addr)(fs:List (Str×V))(h:Heap):Prop:=∃mA,h.Ns1 dx mA/\(∀f,wX (fs.lookup f)<|mA f)/\Within mA (fs.map (·.1))
section
variable {P:bq}{w:dA}{H:Hp}{h:Heap}{e dx:Addr}{ob:Obj}{fs:List (Str×V)}
theorem VJ (z:Raw e ob h):cu P w H h e (.ext<|Raw e ob):=⟨z,⟨_,z⟩,λ_ _ a k=>k _ a⟩
theorem aaZ (z:Xd dx fs h):cu P w H h dx (.ext<|Xd dx fs):=⟨z,let⟨_,⟨o,_,_,e,_⟩,_⟩:=z;⟨o,e⟩,λ_ _ ⟨mA,a,b⟩ k=>⟨mA,a.at k,b⟩⟩
end
section
variable {X:Cx}{π:Zp}{σ:St}{H:Hp}{s:aS}{e dx C fI:Addr}{ob:Obj}{fs:List (Str×V)}{φ:Heap->Prop}{f:Str}{v:V}{u:aw}{A:dP}{E:Zl}{Q:Unit->aS->Prop}
theorem zg {o o':HO}{a b:Addr}(n:a≠b):upd (upd H a o) b o'=upd (upd H b o') a o:=by
 funext c;unfold upd;by_cases h1:c=a<;>by_cases h2:c=b<;>simp[h1,h2]
 ·exact absurd (h1.symm.trans h2) n
 ·intro z;exact absurd z n
 ·intro z;exact absurd z.symm n
theorem Rj (I:Inv X π σ H s)(he:H e=some (.ext<|Raw e ob)):s.heap.get? e=some ob:=(show cu X.prog X.w H s.heap e (.ext<|Raw e ob) from I.hok e _ he).1
theorem Zm (I:Inv X π σ H s)(he:H e=some (.ext<|Raw e ob))(hc:ob.cls=.ref C)(hf:∃us,ob.data=.fields us)(hd:ob.dict=none)(Z:XF X.K C)(n:cq X.K (.ref C) f=some none)(r:RelV v u)
  (q:∀dx s',H dx=none->dx≠e->Inv X π σ (upd (upd H dx<|.ext<|Xd dx [(f,v)]) e<|.ext<|Raw e { ob with dict:=some dx }) s'->Q () s'):bp (b6 X.prog X.w) A (setAttr (.ref e) f u) Q E s:=by
 have hx:=Rj I he;have hn:H s.heap.objs.size=none:=I.hok.fresh<|aI _;have ne:s.heap.objs.size≠e:=nN<|ay hx;refine acn I.kIn Z hx hc hf hd n λh' t h1 h2 h3=>q s.heap.objs.size _ hn ne<|I.un (((Un.laid (o:=.ext<|Xd s.heap.objs.size [(f,v)]) (λ_ _ z=>z) (aI _) hn)).trans<|Un.write (x:=e) (e:=e) (by rw[bC ne.symm,he];trivial) (.inl rfl) h3 ⟨_,h1⟩) λb o z=>?_;by_cases hb:b=e
 ·subst hb;rw[aZ] at z;cases z;exact VJ h1
 ·rw[bC hb] at z;by_cases hd:b=s.heap.objs.size
  ·subst hd;rw[aZ] at z;cases z;refine aaZ ⟨_,h2,λg=>?_,λg hg=>?_⟩
   ·show wX (ia g [(f,v)]) (if g=f then some u else none);by_cases hg:g=f
    ·rw[hg,if_pos rfl];simp only[ia,beq_self_eq_true];exact r
    ·rw[if_neg hg];have:(g==f)=false:=by simp[hg]
     simp[ia,this,wX]
   ·by_cases hg':g=f
    ·simp[hg']
    ·exact absurd (if_neg hg') hg
  ·rw[bC hd] at z;refine(I.hok b o z).stay (λc ob hc y=>h3 c ob ?_ y) (λc y=>?_) λc xs y=>?_
   ·rcases hc with hc|hc
    ·rw[hc];exact hb
    ·intro w';rw[w',he] at hc;cases hc
   ·rw[bC (λw'=>by rw[w',he] at y;cases y),bC (λw'=>by rw[w',hn] at y;cases y)];exact y
   ·rw[bC (λw'=>by rw[w',he] at y;cases y),bC (λw'=>by rw[w',hn] at y;cases y)];exact y
theorem adi (I:Inv X π σ H s)(he:H e=some (.ext<|Raw e ob))(hc:ob.cls=.ref C)(hf:∃us,ob.data=.fields us)(hd:ob.dict=some dx)(hx:H dx=some (.ext<|Xd dx fs))(hz:fs.length<=100)(nf:fs.lookup f=none)(Z:XF X.K C)(n:cq X.K (.ref C) f=some none)(r:RelV v u)
  (q:∀s',Inv X π σ (upd H dx<|.ext<|Xd dx<|fs++[(f,v)]) s'->Q () s'):bp (b6 X.prog X.w) A (setAttr (.ref e) f u) Q E s:=by
 obtain⟨mA,h1,h2,h3⟩:=(show cu X.prog X.w H s.heap dx (.ext<|Xd dx fs) from I.hok dx _ hx).1;refine YC I.kIn Z (Rj I he) hc hf hd h1 h3 (by rw[cp,pV];omega) n λh' t k1 k2=>q _<|I.write (x:=dx) (e:=dx) (by rw[hx];trivial) (.inl rfl) (λb o hb z=>(k2.2 b hb).trans z) (let⟨o,_,_,e,_⟩:=k1;⟨o,e⟩)<|aaZ ⟨_,k1,λg=>?_,λg hg=>?_⟩
 ·show wX (ia g<|fs++[(f,v)]) (if g=f then some u else mA g);rw[List.lookup_append];by_cases hg:g=f
  ·rw[hg,if_pos rfl,nf];simp only[ia,beq_self_eq_true,Option.none_or];exact r
  ·rw[if_neg hg];have:(g==f)=false:=by simp[hg]
   have e1:ia g [(f,v)]=none:=by simp[ia,this]
   rw[e1,Option.or_none];exact h2 g
 ·rw[dE,cm];by_cases hg':g=f
  ·exact .inr<|by simp[hg']
  ·exact .inl<|h3 g λz=>hg<|(if_neg hg').trans z
end
def Sx (C:Addr)(ns:List Str):Sp:=λvs H Q _=>∃e ob args,vs=.ref e::args/\args.length=ns.length/\H e=some (.ext<|Raw e ob)/\ob.cls=.ref C/\(∃us,ob.data=.fields us)/\ob.dict=none/\
 ∀dx,H dx=none->dx≠e->Q .non (upd (upd H dx<|.ext<|Xd dx<|ns.zip args) e<|.ext<|Raw e { ob with dict:=some dx })
section
variable {X:Cx}{o value:Expr}{f:Str}{pos pos':Pos}{ta tv:TE}
theorem Qc (ha:PE X o ta)(hv:PE X value tv)(hs:fg value (some<|.Attribute o f pos') pos.line X.env=pure false:=by rfl):
  PS X (.Assign [.Attribute o f pos'] value pos) (λD σ H=>tv σ H λy H1=>ta σ H1 λx H2=>∃e C ob,x=.ref e/\H2 e=some (.ext<|Raw e ob)/\ob.cls=.ref C/\(∃us,ob.data=.fields us)/\ob.dict=none/\XF X.K C/\cq X.K (.ref C) f=some none/\
   ∀dx,H2 dx=none->dx≠e->D.nx σ (upd (upd H2 dx<|.ext<|Xd dx [(f,y)]) e<|.ext<|Raw e { ob with dict:=some dx })):=by
 intro π s σ H D I h;refine nI (thn (hv π s σ H _ I h) λu s1 hE=>xq2 hE λy H1 I1 ry q=>thn (ha π s1 σ H1 _ I1 q) λov s2 ⟨x,H2,I2,rx,e,C,ob,ex,he,hc,hf,hd,Z,n,q2⟩=>?_) hs;subst ex;obtain rfl:ov=b0 e:=rx;exact Zm I2 he hc hf hd Z n ry λdx s' a b I3=>⟨σ,_,I3,q2 dx a b⟩
theorem VP (ha:PE X o ta)(hv:PE X value tv)(hs:fg value (some<|.Attribute o f pos') pos.line X.env=pure false:=by rfl):
  PS X (.Assign [.Attribute o f pos'] value pos) (λD σ H=>tv σ H λy H1=>ta σ H1 λx H2=>∃e C ob dx fs,x=.ref e/\H2 e=some (.ext<|Raw e ob)/\ob.cls=.ref C/\(∃us,ob.data=.fields us)/\ob.dict=some dx/\H2 dx=some (.ext<|Xd dx fs)/\fs.length<=100/\fs.lookup f=none/\XF X.K C/\cq X.K (.ref C) f=some none/\
   D.nx σ (upd H2 dx<|.ext<|Xd dx<|fs++[(f,y)])):=by
 intro π s σ H D I h;refine nI (thn (hv π s σ H _ I h) λu s1 hE=>xq2 hE λy H1 I1 ry q=>thn (ha π s1 σ H1 _ I1 q) λov s2 ⟨x,H2,I2,rx,e,C,ob,dx,fs,ex,he,hc,hf,hd,hx,hz,nf,Z,n,q2⟩=>?_) hs;subst ex;obtain rfl:ov=b0 e:=rx;exact adi I2 he hc hf hd hx hz nf Z n ry λs' I3=>⟨σ,_,I3,q2⟩
end
section
variable {P:bq}{w:dA}{K:a7}{mg:Zaa}{base:Heap}{q a b:Str}{st:Stmt}{f C:Addr}{fd:gN}{p1 p2 p3 p4 p5 p6 p7 p8:Pos}
theorem adT (F:Fun K "__init__" q st f fd)(Z:XF K C)(n:cq K (.ref C) a=some none)(S:aQ ["self",a] ["self",a] (aF st))(hb:gU st=[.Assign [.Attribute (.Name "self" p1) a p2] (.Name a p3) p4])
  (vs:Vis (aF st) "self":=by first|exact eC rfl|exact eB (eC rfl)|exact eB (eB rfl)) (va:Vis (aF st) a:=by first|exact eC rfl|exact eB (eC rfl)|exact eB (eB rfl)) (hd:(a==("__debug__":Str))=false:=by decide) (hc:(a==("__classdict__":Str))=false:=by decide):
  oM P w K mg base (CX1 P w) 1 f fd ["self",a] (Sx C [a]):=by
 refine By F S (λvs H Q E ⟨e,ob,args,z,l,_⟩=>by rw[z,cK,l];rfl) λcdv A outer s H vs Q E hr ⟨e,ob,args,z,l,he,hcl,hf,hdn,k⟩=>?_
 match args,l with
 |[x],_=>
  subst z;rw[hb];exact⟨_,Bv<|Qc (iy (i:=0) rfl vs) (iy (i:=1) rfl va hd hc) (by rfl),x,rfl,.ref e,rfl,e,C,ob,rfl,he,hcl,hf,hdn,Z,n,k⟩
theorem aaC (F:Fun K "__init__" q st f fd)(Z:XF K C)(n:cq K (.ref C) a=some none)(n2:cq K (.ref C) b=some none)(ne:(b==a)=false)(S:aQ ["self",a,b] ["self",a,b] (aF st))
  (hb:gU st=[.Assign [.Attribute (.Name "self" p1) a p2] (.Name a p3) p4,.Assign [.Attribute (.Name "self" p5) b p6] (.Name b p7) p8])
  (vs:Vis (aF st) "self":=by first|exact eC rfl|exact eB (eC rfl)|exact eB (eB rfl)) (va:Vis (aF st) a:=by first|exact eC rfl|exact eB (eC rfl)|exact eB (eB rfl)) (vb:Vis (aF st) b:=by first|exact eC rfl|exact eB (eC rfl)|exact eB (eB rfl))
  (hd:(a==("__debug__":Str))=false:=by decide) (hc:(a==("__classdict__":Str))=false:=by decide) (hd2:(b==("__debug__":Str))=false:=by decide) (hc2:(b==("__classdict__":Str))=false:=by decide):
  oM P w K mg base (CX1 P w) 1 f fd ["self",a,b] (Sx C [a,b]):=by
 refine By F S (λvs H Q E ⟨e,ob,args,z,l,_⟩=>by rw[z,cK,l];rfl) λcdv A outer s H vs Q E hr ⟨e,ob,args,z,l,he,hcl,hf,hdn,k⟩=>?_
 match args,l with
 |[x,y],_=>
  subst z;rw[hb];refine⟨_,Ko (Qc (iy (i:=0) rfl vs) (iy (i:=1) rfl va hd hc)<|by rfl)<|Bv<|VP (iy (i:=0) rfl vs) (iy (i:=2) rfl vb hd2 hc2) (by rfl),x,rfl,.ref e,rfl,e,C,ob,rfl,he,hcl,hf,hdn,Z,n,λdx h1 h2=>?_⟩;refine⟨y,rfl,.ref e,rfl,e,C,_,dx,[(a,x)],rfl,aZ,hcl,hf,rfl,by rw[bC h2,aZ],Nat.le_of_lt_succ (by simp),by simp[ia,ne],Z,n2,?_⟩
  have:=k dx h1 h2
  rw[← zg h2.symm] at this;rw[zg h2,Q9];exact this
end
structure MkX (K:a7)(C f:Addr):Prop where
 ex:G4 K C f [.type "ValueError",.type "Exception",.type "BaseException",.type "object"] "ValueError.__new__" = true
 fn:W.isFn K (.ref f)=true
 kp:la K (.ref C)=true
section
variable {X:Cx}{k:Nat}{f C:Addr}{fd:gN}{ps ns:List Str}{x:Str}{p pos ρ:Pos}{e:Expr}{es:List Expr}{t:TA}
theorem aah {π:Zp}{σ:St}{H:Hp}{s:aS}{us:List aw}{vs:List V}{Q:Zl}(M:MkX X.K C f)(F:oM X.prog X.w X.K X.mg X.base (CX1 X.prog X.w) k f fd ps (Sx C ns))(hr:fZ (k+1) X.A)(hb:Binds X.K fd ps [])
  (I:Inv X π σ H s) (r:Vals vs us) (hl:vs.length=ns.length) (hz:vs.length<=av)
  (h:∀e dx ob s',s.heap.objs.size<=e->H e=none->H dx=none->dx≠e->ob.cls=.ref C->ob.dict=some dx->(∃us,ob.data=.fields us/\us[1]? = some .none/\us[2]? = some .none)->
   Inv X π σ (upd (upd H dx<|.ext<|Xd dx<|ns.zip vs) e<|.ext<|Raw e ob) s'->Q (.ref e) s'):
  bp (b6 X.prog X.w) X.A (call (.ref C) us) Q X.xe s:=by
 obtain⟨bm,N,nm,qn,bs,sn,sub,ab,col,dd,k0,k1,k2,k3,k5,mN,hC,hN,hi,T⟩:=PQ I.kIn M.ex;obtain⟨oI,hI,hIc⟩:=nc.mp<|show(X.K.lookup f).map (·.cls)=some (.type "function") from beq_iff_eq.mp M.fn;have hz':us.length<=av:=by rw[← r.length];exact hz
 have I1:Inv X π σ (upd H (s.heap.objs.size+1)<|.ext<|Raw (s.heap.objs.size+1)<|Ku C s.heap.objs.size) { s with heap:=yz s.heap C us,toks:=s.toks }:=
  I.laid (λb o z=>Km z) (vi _) (VJ Kq)
 have hne:H (s.heap.objs.size+1)=none:=I.hok.fresh<|vi _;have r1:Vals (V.ref (s.heap.objs.size+1)::vs) (b0 (s.heap.objs.size+1)::us):=.cons rfl r;have hq:Sx C ns (V.ref (s.heap.objs.size+1)::vs) (upd H (s.heap.objs.size+1)<|.ext<|Raw (s.heap.objs.size+1)<|Ku C s.heap.objs.size) (λv H2=>v=.non/\∃dx,H dx=none/\dx≠s.heap.objs.size+1/\H2=upd (upd H dx<|.ext<|Xd dx<|ns.zip vs) (s.heap.objs.size+1) (.ext<|Raw (s.heap.objs.size+1) { Ku C s.heap.objs.size with dict:=some dx })) E0:=by
  refine⟨_,_,vs,rfl,hl,aZ,rfl,⟨_,rfl⟩,rfl,λdx h1 h2=>⟨rfl,dx,by rw[bC h2] at h1;exact h1,h2,?_⟩⟩;rw[zg h2.symm,Q9,zg h2]
 have ω:(b0 (s.heap.objs.size+1)::us++[]).length=ps.length:=by
  have z:=r1.length;rw[F.len _ _ _ _ hq] at z;rw[cw];exact z.symm
 obtain⟨hp,g,d,tk,os⟩:=s;refine U4 (hz:=hz') rj T hC hN hi (I.kIn _ _ hI) hIc<|yB<|nV (F.run _ X.stack _ _ ⟨_,[]⟩ _ _ _ E0 (hr.make C us []) (I1.env0.make C us []) (by have:=hb _ _ I1.kIn ω;rw[cw] at this;exact this) r1 hq) λz s' c=>?_;cases z with
 |error e=>exact DK π σ _ _ e s' I1 c
 |ok fl=>
  cases fl with
  |ret u=>
   obtain⟨v,H',I3,rv,ev,dx,h1,h2,eH⟩:=I1.after c;subst ev eH;exact⟨rv,h _ dx _ s' (vi _) hne h1 h2 rfl rfl ⟨_,rfl,rfl,rfl⟩ I3⟩
  |next=>exact fq c
  |brk=>exact fq c
  |cont=>exact fq c
def Hw (X:Cx)(E:XK):Prop:=∀(π:Zp) (σ:St) (H:Hp) (s:aS) (e dx:Addr) (ob:Obj) (fs:List (Str×V)),X.s₀.heap.objs.size<=e->H e=none->H dx=none->dx≠e->ob.dict=some dx->(∃us,ob.data=.fields us/\us[1]? = some .none/\us[2]? = some .none)->
 Inv X π σ (upd (upd H dx<|.ext<|Xd dx fs) e<|.ext<|Raw e ob) s->(∀q,E ob.cls (some dx)<|upd H dx<|.frz q<|.xd fs)->X.xe (.ref e) s
theorem Su {E:XK}(M:MkX X.K C f)(Z:XF X.K C)(F:oM X.prog X.w X.K X.mg X.base (CX1 X.prog X.w) k f fd ps (Sx C ns))(hr:fZ (k+1) X.A)(hb:Binds X.K fd ps [])(hg:Gl X x)(hm:X.mg x=some (.ref C))(ha:PA X (e::es) t)(hx:Hw X E)(hn:ns.length<=100)
  (hdb:(x==("__debug__":Str))=false:=by decide) (he:ag (e::es) X.env=(false,eval e X.env)::ag es X.env:=by rfl) (ξ:(hV ρ<|ag es X.env).any (·.1)=false:=by rfl):
  PS X (.Raise (some<|.Call (.Name x p) (e::es) [] ρ) none pos) (λ_ σ H=>t σ H λvs H1=>vs.length=ns.length/\∀dx q,H1 dx=none->E (.ref C) (some dx) (upd H1 dx<|.frz q<|.xd<|ns.zip vs)):=by
 intro π s σ H D I h;rw[arm_exec_Raise];refine ae<|k8 ?_;unfold raiseStmt;refine ae ?_;have c:bp (b6 X.prog X.w) X.A (eval (.Call (.Name x p) (e::es) [] ρ) X.env) (λv s1=>∃ea ob,v=.ref ea/\X.K.In s1.heap/\s1.heap.get? ea=some ob/\ob.cls=.ref C/\(∃us,ob.data=.fields us/\us[1]? = some .none)/\X.xe (.ref ea) s1) X.xe s:=by
  refine gc<|qY I hg hm ?_ hdb;refine rX (h₀:=X.base) I.ok.mod.kin M.kp (thn (ha ρ π s σ H _ I h) λus s1 ⟨vs,H1,I1,r,hl,q⟩=>⟨I1.kIn,?_⟩) he ξ;refine aah M F hr hb I1 r hl (by rw[hl,pV];omega) λea dx ob s' z1 z2 z3 z4 z5 z6 z7 I2=>⟨ea,ob,rfl,I2.kIn,Rj I2 aZ,z5,let⟨us,a,b,_⟩:=z7;⟨us,a,b⟩,?_⟩;exact hx π σ H1 s' ea dx ob _ (dr I1.sz z1) z2 z3 z4 z6 z7 I2 λq'=>by rw[z5];exact q dx q' z3
 refine ae<|thn c λv s1 q=>ae<|k8<|ai ?_;obtain⟨ea,ob,rfl,kI,hob,hcl,⟨us,hus,h1⟩,hxe⟩:=q;obtain⟨hp,g,d,tk,os⟩:=s1;have L8:=vc (M:=b6 X.prog X.w) kI Z.xc.bs;obtain⟨_,_,_,_,_,_,_,_,_,_,_,_,_,_,_,_,hC,_⟩:=PQ kI M.ex
 repeat (first|(with_reducible refine eJ hob ?_;rw[hcl])|with_reducible refine eJ hC ?_|with_reducible refine L8.at ?_|with_reducible refine hZ hob hus h1 ?_|wp_step)
 exact wpAny_raiseNew_none hr.hd hxe
end
section
variable {P:bq}{w:dA}{K:a7}{mg:Zaa}{base:Heap}{N:List Str}{qual:Str}{scope:sj}{f:Addr}{cd:aw}{A:dP}{outer:List Env}{s:aS}{H:Hp}{E:XK}
theorem zP:Hw (lQ (CX1 P w) P w K mg base N qual scope f cd A outer s H E) E:=by
 intro π σ H1 s1 e dx ob fs se n1 n2 ne hd hu I hw;obtain⟨us,hu,u1,u2⟩:=hu;have hx:=Rj I aZ;have hob:ob={ ob with data:=.fields us }:=by obtain⟨a,b,c,d⟩:=ob;cases(show c=.fields us from hu);rfl
 have sn:s.heap.get? e=none:=yY se;have hin:∀env∈(lQ (CX1 P w) P w K mg base N qual scope f cd A outer s H E).stack,∀b,env.frame=some b->b∈e::frs (lQ (CX1 P w) P w K mg base N qual scope f cd A outer s H E).stack:=
  λenv he b hb=>.tail _<|i7.mpr ⟨env,he,hb⟩
 have nfr:∀b o,s.heap.get? b=some o->b∉frs outer->b∉e::frs (lQ (CX1 P w) P w K mg base N qual scope f cd A outer s H E).stack:=λb o q nb hb=>by
  cases hb with
  |head=>rw[sn] at q;cases q
  |tail _ hb=>
   rcases yH (L:=s.heap.objs.size) rfl hb with z|z
   ·exact absurd (ay q) (by rw[z];exact eT _)
   ·exact nb z
 have nx:∀b:Addr,b∉(lQ (CX1 P w) P w K mg base N qual scope f cd A outer s H E).ex:=λb z=>absurd (show b∈([]:List Addr) from z) (by simp);have old:∀b o,s.heap.get? b=some o->b≠e:=λb o q z=>by rw[z,sn] at q;cases q
 obtain⟨mA,d1,d2,_⟩:=(show cu P w _ s1.heap dx (.ext<|Xd dx fs) from I.hok dx _ (by rw[bC ne,aZ])).1;obtain⟨od,_,_,dget,_⟩:=id d1;have nfd:dx∉e::frs (lQ (CX1 P w) P w K mg base N qual scope f cd A outer s H E).stack:=λz=>by
  cases z with
  |head=>exact ne rfl
  |tail _ z=>have:=I.yW dx z;rw[bC ne,aZ] at this;cases this
 refine Jt (B:=AF s1.heap (e::frs (lQ (CX1 P w) P w K mg base N qual scope f cd A outer s H E).stack)) (L:=s.heap.objs.size) (l:=outer) I.ok.frames rfl (W.funFrames_hide I.stack hin) (hob▸hx) u1 (λb o q=>xb _ q) ?_ λh2 x1 x4=>?_
 ·exact W.hideAll_none _<|.head _
 have eq:∀b,b≠e->b≠dx->∀o,upd (upd H1 dx<|.ext<|Xd dx fs) e (.ext<|Raw e ob) b=o->upd H1 dx (.frz od<|.xd fs) b=o:=λb h1 h2 o z=>by
  rw[bC h1,bC h2] at z;rw[bC h2];exact z
 have off:∀b o,upd (upd H1 dx<|.ext<|Xd dx fs) e (.ext<|Raw e ob) b=o->(∀φ,o≠some (.ext φ))->upd H1 dx (.frz od<|.xd fs) b=o:=λb o z k=>by
  refine eq b (λw=>?_) (λw=>?_) o z
  ·rw[w,aZ] at z;exact k _ z.symm
  ·rw[w,bC ne,aZ] at z;exact k _ z.symm
 refine⟨e,ob,us,_,upd H1 dx<|.frz od<|.xd fs,⟨rfl,I.os,I.bare,x1,u2,λb o q n nb=>?_,λb o q hb=>?_,λb o q n=>?_,λb o q nb=>?_,λb xs q=>?_,λb o u q=>?_,λb p q=>?_,λb u q=>?_,sn,?_⟩,by rw[hd];exact hw od⟩
 ·exact kA _ (I.base.keep b o q n nb<|nx b)<|nfr b o q nb
 ·obtain⟨sl,e1⟩:=I.base.slot b o q (I.ok.frf b hb) hb<|nx b;obtain⟨_,o',ho',hnf⟩:=I.ok.tD.mem hb;have eo:o=o':=b9<|q.symm.trans ho';obtain⟨sl2,e2⟩:=x4 b _ e1 λv z=>hnf v (by rw[← eo];exact z);exact⟨sl2,e2⟩
 ·exact off b none (I.base.free b o q n<|nx b) λ_ z=>nomatch z
 ·obtain⟨o',e1⟩:=I.base.there b o q<|nx b;exact⟨o',kA _ e1<|nfr b o q nb⟩
 ·exact off b _ (I.base.tups b xs q) λ_ z=>nomatch z
 ·exact off b _ (I.base.frzs b o u q) λ_ z=>nomatch z
 ·obtain⟨m,z⟩:=I.base.tbls b p q;exact⟨m,off b _ z λ_ z=>nomatch z⟩
 ·by_cases hb:b=dx
  ·subst hb;rw[aZ] at q;cases q
   have:=kA _ dget nfd
   exact⟨this,mA,d1.at λo z=>by rw[dget] at z;cases z;exact this,d2⟩
  ·rw[bC hb] at q;have be:b≠e:=λz=>by rw[z,n1] at q;cases q
   have q3:upd (upd H1 dx<|.ext<|Xd dx fs) e (.ext<|Raw e ob) b=some u:=by rw[bC be,bC hb];exact q
   refine(I.hok b u q3).stay (λc v hc z=>kA _ z λhm=>?_) (λc z=>off c _ z λ_ z=>nomatch z) λc xs z=>off c _ z λ_ z=>nomatch z
   have q4:∃v,upd (upd H1 dx<|.ext<|Xd dx fs) e (.ext<|Raw e ob) c=some v/\c≠e:=by
    rcases hc with hc|hc
    ·subst hc;exact⟨_,q3,be⟩
    ·exact⟨_,hc,λz=>by rw[z,aZ] at hc;cases hc⟩
   obtain⟨v,q4,q5⟩:=q4;cases hm with
   |head=>exact q5 rfl
   |tail _ hm=>rw[I.yW c hm] at q4;cases q4
 ·rw[bC ne.symm];exact n1
end
end Hd
namespace F
open PySem PySem.Spec PyProof.Rows L2 Hd
def Fg:D->Bool
 | .tup ds=>ds.all flat
 |d=>flat d
theorem Ft {G:Gx}{O O':Zab}{H:Hp}:∀{vs:List V} {ds:List D},ds.all flat=true->DVs G O H vs ds->DVs G O' H vs ds
 |_,_,_,.nil=>.nil
 |_,_,f,.cons h hs=>by
  simp only[ui,g7] at f;exact .cons (DV.flat f.1 h)<|Ft f.2 hs
theorem T7 {G:Gx}{O O':Zab}{H:Hp}{v:V}{d:D}(f:Fg d=true)(h:DV G O H v d):DV G O' H v d:=by
 cases d with
 |tup ds=>cases h with|tup a b=>exact .tup a (Ft f b)
 |_=>exact DV.flat f h
theorem FQ {G:Gx}{O O':Zab}{H:Hp}:∀{vs:List V} {ds:List D},ds.all Fg=true->DVs G O H vs ds->DVs G O' H vs ds
 |_,_,_,.nil=>.nil
 |_,_,f,.cons h hs=>by
  simp only[ui,g7] at f;exact .cons (T7 f.1 h)<|FQ f.2 hs
def uC (c:Str)(ns:List Str)(f:Zae):Zac:=λm=>(f m).bind λds=>if ds.length=ns.length/\ds.all Fg=true then .exc (c,ns,ds) else .stuck
structure XFn (P:bq)(w:dA)(K:a7)(mg:Zaa)(base:Heap)(k:Nat)(x:Str)(ns:List Str):Prop where
 ex:∃C f fd ps,mg x=some (.ref C)/\MkX K C f/\XF K C/\oM P w K mg base (CX1 P w) k f fd ps (Sx C ns)/\Binds K fd ps []
section
variable {X:Cx}{E:XK}{e a:Expr}{es:List Expr}{fs:Zae}{fa:Zaf}{x f:Str}{np ρ pos p:Pos}{j k:Nat}{ns:List Str}
theorem O4 {α β:Type}:∀{a:List α} {b:List β},b.length=a.length->(a.zip b).map (·.1)=a
 |[],_,_=>rfl
 |_::_,[],h=>nomatch h
 |x::a,y::b,h=>by simp[O4 (a:=a) (b:=b)<|by simpa using h]
theorem N7 {α β:Type}:∀{a:List α} {b:List β},b.length=a.length->(a.zip b).map (·.2)=b
 |[],[],_=>rfl
 |_::_,[],h=>nomatch h
 |x::a,y::b,h=>by simp[N7 (a:=a) (b:=b)<|by simpa using h]
theorem zK (Xf:XFn X.prog X.w X.K X.mg X.base k x ns)(hr:fZ j X.A)(hx:Hw X E)(ha:FAE X E (e::es) fs)(hk:k+1<=j:=by decide)(hn:ns.length<=100:=by decide)(hg:Gl X x:=by rfl)
  (hdb:(x==("__debug__":Str))=false:=by decide) (he:ag (e::es) X.env=(false,eval e X.env)::ag es X.env:=by rfl) (ξ:(hV ρ<|ag es X.env).any (·.1)=false:=by rfl):
  FS X E (.Raise (some<|.Call (.Name x p) (e::es) [] ρ) none pos) (uC x ns fs):=by
 obtain⟨C,f,fd,ps,m,M,Z,F,b⟩:=Xf.ex;refine cH (Su M Z F (hr.mono hk) b hg m ha hx hn hdb he ξ) λW σ H ⟨O0,M0,H0,ow,m',R,q⟩=>⟨O0,M0,H0,ow,m',R.toRel,(Ss.pu R.toRel q).imp (aM.refl _) λds q vs H' g hv=>?_⟩;by_cases c:ds.length=ns.length/\ds.all Fg=true
 case neg=>rw[if_neg c] at q;exact q.elim
 rw[if_pos c] at q;have l:vs.length=ns.length:=(bT hv).trans c.1;refine⟨l,λdx o hd=>q (C,some dx) _ ⟨m,_,_,.inr ⟨dx,o,rfl,aZ⟩,O4 l,rfl,λO=>?_⟩ λb o' e n=>?_⟩
 ·rw[N7 l];exact(FQ c.2 hv).mono (bL hd _)
 ·exact bL hd _ b o'<|g b o'<|R.keep b o' e n
def qZ (tab:Str->Bool)(f:Str)(fa:Zaf):Zaf:=λm=>(fa m).bind λd=>match d with
 | .exc c ns ds=>if tab c=true then ofO ((ns.zip ds).lookup f) else .stuck
 |_=>.stuck
theorem QL {G:Gx}{O:Zab}{H:Hp}{d:D}:∀{fs:List (Str×V)} {ds:List D},DVs G O H (fs.map (·.2)) ds->((fs.map (·.1)).zip ds).lookup f=some d->∃v,fs.lookup f=some v/\DV G O H v d
 |[],_,_,e=>by simp at e
 |(n,v)::r,_::_,.cons h hs,e=>by
  simp only[aE,List.zip_cons_cons,ia] at e ⊢;split at e
  ·cases e;exact⟨v,rfl,h⟩
  ·exact QL hs e
theorem nU {tab:Str->Bool}(ha:FB X E a fa)(ht:∀c C,tab c=true->X.mg c=some (.ref C)->XF X.K C/\cq X.K (.ref C) f=some none)(hb:gT a f X.env (eval a X.env)=eval a X.env:=by rfl):
  FE X E (.Attribute a f pos) (qZ tab f fa):=by
 intro π s σ H Q I h;refine Zo hb<|thn (ha π s σ H (λv H1=>∃ea C ox fs dx q y,v=.ref ea/\XF X.K C/\cq X.K (.ref C) f=some none/\H1 ea=some (.frz ox<|.ext<|tH ea<|.ref C)/\ox.dict=some dx/\H1 dx=some (.frz q<|.xd fs)/\fs.lookup f=some y/\Q y H1) I ?_) λu s1 ⟨v,H1,I1,r,ea,C,ox,fs,dx,q,y,ev,Z,n,h1,h2,h3,h4,hq⟩=>?_
 ·obtain⟨O0,M0,H0,ow,m,R,q⟩:=h;refine⟨O0,M0,H0,ow,m,R,q.bind.imp (aM.refl _) λd q v H' g hv=>?_⟩;cases d with
  |exc c ns ds=>
   by_cases c1:tab c=true
   case neg=>simp only[if_neg c1] at q;exact q.elim
   simp only[if_pos c1] at q;obtain⟨d,hd,kk⟩:=q.ofO;rcases hv with hv|⟨_,_,_,hv⟩
   ·cases hv with
    |exc a1 a2 a3 a4 a5 a6=>
     subst a4 a5;obtain⟨y,y1,y2⟩:=QL a6 hd;rcases a3 with⟨rfl,_⟩|⟨dx,o,b1,b2⟩
     ·cases y1
     ·obtain⟨z1,z2⟩:=ht c _ c1 a1;exact⟨_,_,_,_,dx,o,y,rfl,z1,z2,a2,b1,b2,y1,kk _ _ g y2⟩
   ·exact hv.elim
  |_=>exact q.elim
 ·subst ev;obtain rfl:u=b0 ea:=r;obtain⟨e1,⟨o2,e2,e3,e4⟩,_⟩:=(show cu X.prog X.w H1 s1.heap ea (.frz ox<|.ext<|tH ea<|.ref C) from I1.hok ea _ h1);obtain⟨_,mA,m1,m2⟩:=(show cu X.prog X.w H1 s1.heap dx (.frz q<|.xd fs) from I1.hok dx _ h3);cases e1.symm.trans e2;obtain⟨u,hu,ru⟩:=wX.some_of (v:=y) (o:=mA f) (by rw[← h4];exact m2 f);obtain⟨hp,g,d,tk,os⟩:=s1;refine Yg I1.kIn Z e1 e3 e4 h2 m1 hu n (λid z=>?_) ⟨y,H1,I1.tok _,ru,hq⟩;subst z;cases y<;>first|(obtain⟨_,z⟩:=ru;cases z;done)|(cases ru;done)
end
structure QX (K:a7)(f:Addr)(q:Str)(st:Stmt):Prop where
 ex:∃fd,Fun K "__init__" q st f fd/\W.isFn K (.ref f)=true
theorem qx {K:a7}{q:Str}{st:Stmt}{f:Addr}{oc:aw}{od an:Option Addr}{osl:Array (Option aw)}{kV doc pm cdv ct:aw}(i:W.isFn K (.ref f)=true)(l:K.lookup f=some ⟨oc,od,.func<|v3 "__init__" q (qe st) (gU st) (aF st) .none kV doc pm an cdv ct,osl⟩)
  (c:AK K cdv q=true) (k:la K (.ref f)=true):QX K f q st:=⟨_,T8 l c k,i⟩
def Vk:List D->Option D
 |[.lst ds]=>(zM ds).bind λns=>match ns with
  |[]=>none
  |n::r=>some<|.int<|r.foldl max n
 |_=>none
theorem fold_max:∀(r:List Int) (n:Int),r.foldl max n∈n::r/\∀a∈n::r,a<=r.foldl max n
 |[],n=>⟨ar,λa h=>by simp at h;rw[h];exact Int.le_refl _⟩
 |x::r,n=>by
  obtain⟨h1,h2⟩:=fold_max r<|max n x;refine⟨?_,λa ha=>?_⟩
  ·rcases bE.mp h1 with e|e
   ·rw[mx,e];rcases Int.le_total n x with z|z
    ·rw[Int.max_eq_right z];simp
    ·rw[Int.max_eq_left z];simp
   ·exact ah _<|ah _ e
  ·have m:=h2 (max n x) ar;rcases bE.mp ha with e|e
   ·rw[e];exact Int.le_trans (Int.le_max_left n x) m
   ·rcases bE.mp e with e|e
    ·rw[e];exact Int.le_trans (Int.le_max_right n x) m
    ·exact h2 a<|ah _ e
theorem MF {X:Cx}(hc:X.calm=true):iW X (.builtin "max") (rGC (gx X) Vk):=by
 intro π s σ H xs us Q I r h;obtain⟨O,ds,d,m,hx,hr,q⟩:=h
 match ds,hr with
 |[.lst ds],hr=>
  obtain⟨ns,e1,hr⟩:=fN.mp hr;obtain⟨v,rfl,hv⟩:=wW hx;obtain⟨p,xs,rfl,hp,hd⟩:=jf hv
  have:=Ha hd e1
  subst this;obtain⟨u,rfl,rx⟩:=vals1 r;cases rx;obtain⟨χ,r',pl,hz⟩:=I.list hp;obtain⟨ys,e2,e3⟩:=ints_of r';cases ns with
  |nil=>cases hr
  |cons n rest=>
   cases hr;have hne:0<ys.size:=by have:=congrArg kS e3;simp at this;omega
   refine max_intList (I.ok.hd hc) (xs:=ys) (e2▸pl.isList) hne λv h' tk hv kp=>?_;obtain⟨t,rfl⟩:=intItems_at hv;obtain⟨h1,h2⟩:=argBest_gt (numAt ys)<|ys.size-1;have hn:∀j,numAt ys j=(n::rest).getD j 0:=λj=>by rw[numAt_eq,e3]
   have hs:ys.size=rest.length+1:=by have:=congrArg kS e3;simp at this;omega
   obtain⟨k1,k2⟩:=fold_max rest n;have ea:numAt ys (argBest (λi j=>decide<|numAt ys i>numAt ys j)<|ys.size-1)=rest.foldl max n:=by
    refine Int.le_antisymm (k2 _ ?_) ?_
    ·rw[hn];exact getD_mem (by rw[cK];omega)
    ·obtain⟨j,hj,e⟩:=mem_getD k1;rw[← e,← hn];exact h2 j (by rw[cK] at hj;omega)
   rw[ea];exact⟨.int _,H,I.kept kp,⟨t,rfl⟩,q _ _ (aM.refl _)<|.int _⟩
end F
namespace K17
open PySem L2 Hd F Pk Lw
section
def jn:Str->Option Bool:=λc=>if c = "Forgets" then some true else if c = "NoShares" then some false else if c = "TooGreat" then some false else if c = "Unlike" then some false else none
def ju:Str->Option Bool:=λc=>if c = "Forgets" then some false else if c = "NoShares" then some false else if c = "TooGreat" then some false else if c = "Unlike" then some false else none
def lg:Str->Option Bool:=λc=>if c = "Forgets" then some false else if c = "NoShares" then some false else if c = "TooGreat" then some false else if c = "Unlike" then some false else none
def iB:Str->Option Bool:=λc=>if c = "Forgets" then some false else if c = "NoShares" then some true else if c = "TooGreat" then some false else if c = "Unlike" then some false else none
def lr:Str->Option Bool:=λc=>if c = "Forgets" then some false else if c = "NoShares" then some false else if c = "TooGreat" then some false else if c = "Unlike" then some false else none
def iM:Str->Option Bool:=λc=>if c = "Forgets" then some false else if c = "NoShares" then some false else if c = "TooGreat" then some true else if c = "Unlike" then some false else none
def kO:Str->Option Bool:=λc=>if c = "Forgets" then some false else if c = "NoShares" then some false else if c = "TooGreat" then some false else if c = "Unlike" then some true else none
def fG:Str->Option Bool:=λc=>if c = "Forgets" then some true else if c = "NoShares" then some true else if c = "TooGreat" then some true else if c = "Unlike" then some true else none
def pX:Str->Bool:=λc=>c=="Forgets" || c=="Unlike"
def jB:Str->Bool:=λc=>c=="Forgets" || c=="Unlike"
def wI:Str->Bool:=λc=>c=="NoShares"
def dW:Str->Bool:=λc=>c=="Forgets" || c=="NoShares" || c=="TooGreat" || c=="Unlike"
def ie:Zaf:=
 (iV gGt (aR dC<|aj (aa 0) aC)<|fC<|.int 12)
def ir:Zaf:=
 (cD 2 [] (cZ<|aa 1) (fJ 2<|aW (hName 0)<|aW (hName 1) fP) gV ie)
def dI (φ_places_of:Zad)(l_2:Zaf):Zac:=
 (aL (bu 1<|fFn φ_places_of<|aj (aK 0) aC)
 (aL (gIf (aJ gGt (aR dC<|aj (aa 1) aC)<|fC<|.int 64) (lU "TooGreat" (fM<|fC<|.str "the game has too many places")) gNx)
 (gIf (fTv<|aR Im<|aj l_2 aC) (lU "TooGreat" (fM<|fC<|.str "a way of the game is too long")) gNx)))
def dD:Zac:=
 (dI jm ir)
def cP:Zad:=aX 2 1 dD
def cG:Zac:=
 (aL (bu 2<|fFn wQ<|aj (aK 0)<|aj (aK 1) aC)
 (aL (gIf (aJ gGt (aR dC<|aj (aa 2) aC)<|fC<|.int 8) (lU "TooGreat" (fM<|fC<|.str "a side sees too many names")) gNx)
 (gIf (aJ gGt (fFn nT<|aj (aK 2) aC)<|fC<|.int 24) (lU "TooGreat" (fM<|fC<|.str "a side has too many words")) gNx)))
def iI:Zac:=
 (eQ (jk<|bJ<|aj (fC<|.int 1)<|aj (fC<|.int 2) aC) (hName 1) cG)
def d8 (l_2:Zac):Zac:=
 l_2
def eG:Zac:=
 (d8 iI)
def cY:Zad:=aX 3 1 eG
def jt (φ_refuse_great_places:Zad)(φ_refuse_great_table:Zad):Zac:=
 (aL (gEx<|fFn φ_refuse_great_places<|aj (aK 0) aC)
 (gEx<|fFn φ_refuse_great_table<|aj (aK 0) aC))
def jr:Zac:=
 (jt cP cY)
def gr:Zad:=aX 1 1 jr
def fO:Zaf:=
 (fFn qy<|aj (aK 0) aC)
def fQ:Zaf:=
 (cD 1 [] (cZ<|fFn dg<|aj (aK 2) aC) (hName 0) gV fO)
def dm:Zac:=
 (gIf (fTv<|aR Im<|aj fQ aC) (lU "TooGreat" (fM<|fC<|.str "a fraction of the game is too great")) gNx)
def fH:Zac:=
 (eQ (cZ<|fFn jm<|aj (aK 0) aC) (fJ 2<|aW (hName 1)<|aW (hName 2) fP) dm)
def gF (l_4:Zac):Zac:=
 l_4
def gG:Zac:=
 (gF fH)
def dX:Zad:=aX 3 1 gG
def fL:Zac:=
 (aL (gIf (aJ gNe (az gIx (aa 1)<|fC<|.int 2)<|az gIx (aa 3)<|fC<|.int 2) (uC "Unlike" ["one", "other"] (aj (aK 2)<|aj (aK 0) aC)) gNx)
 (gIf (aJ gNe (az gIx (aa 1)<|fC<|.int 3)<|az gIx (aa 3)<|fC<|.int 3) (uC "Forgets" ["one", "other"] (aj (aK 2)<|aj (aK 0) aC)) gNx))
def fK:Zac:=
 fL
def cz:Zad:=aX 4 4 fK
def bR:Zac:=
 (aL (gIf (ji (aJ gEq (az gIx (aa 3)<|fC<|.int 0)<|fC<|.str "deal")<|dJ<|fTv<|fFn qb<|aj (fFn dg<|aj (aK 3) aC) aC) (uC "NoShares" ["way"] (aj (aK 2) aC)) gNx)
 (gIf (aJ gEq (az gIx (aa 3)<|fC<|.int 0)<|fC<|.str "move") (aL (bu 5<|fFn sW<|aj (aK 3)<|aj (aK 4) aC)
 (aL (Gw 6<|Rb 1 (bJ<|aj (az gIx (aa 3)<|fC<|.int 1)<|aj (az gIx (aa 3)<|fC<|.int 2) aC)<|bJ<|aj (aK 2)<|aj (aK 5) aC)
 (gEx<|fFn cz<|aj (aK 2)<|aj (aK 5)<|aj (az gIx (aa 6)<|fC<|.int 0)<|aj (az gIx (aa 6)<|fC<|.int 1) aC))) gNx))
def kJ:Zac:=
 (eQ (cZ<|fFn cQ<|aj (aK 0) aC) (fJ 3<|aW (hName 2)<|aW (hName 3)<|aW (hName 4) fP) bR)
def jE (l_2:Zac):Zac:=
 (aL (gQ 1 Aa)
 l_2)
def jG:Zac:=
 (jE kJ)
def gW:Zad:=aX 7 1 jG
def Nq (φ_table_of:Zad)(φ_refuse_great_shape:Zad)(φ_refuse_great_fractions:Zad)(φ_refuse_unsound:Zad):Zac:=
 (aL (gEx<|fFn φ_refuse_great_shape<|aj (aK 0) aC)
 (aL (gEx<|fFn φ_refuse_great_fractions<|aj (aK 0) aC)
 (aL (gEx<|fFn φ_refuse_unsound<|aj (aK 0) aC)
 (jW<|acI φ_table_of<|aj (aK 0) aC))))
def NP:Zac:=
 (Nq uD gr dX gW)
def HF:Zad:=aX 1 1 NP
def nO (Φb:List D->D->Res (D×D)):Zaf:=
 (fFn jc<|aj (fC<|.int 1)<|aj (aK 1) aC)
def uc (Φb:List D->D->Res (D×D)):Zaf:=
 (cD 1 [4] (uW<|aj (aa 4) aC) (hName 0) gV<|nO Φb)
def jN (Φb:List D->D->Res (D×D)):Zac:=
 (wj 6<|J4<|yh (fX<|aK 7)<|yh (tK Φb 1 1<|aj (aK 0)<|aj (az lV (aa 2)<|fC<|.int 1) aC) Kg)
def nP (Φb:List D->D->Res (D×D)):Zac:=
 (eQ (cZ<|aK 5) (hName 7)<|jN Φb)
def lX (l_2:Zaf)(l_4:Zac):Zac:=
 (aL (bu 4<|az eN (fC<|.int 1)<|az cI (az gJ (aa 3)<|fC<|.int 16)<|fC<|.int 3)
 (aL (gQ 5 l_2)
 (aL (gIf (aJ gEq (az cI (az gJ (aa 3)<|fC<|.int 48)<|fC<|.int 16)<|fC<|.int 3) (yj 5 (az cI (az gJ (aa 3)<|fC<|.int 768)<|aa 4)<|az gIx (gO<|aj (bJ<|aj (fC<|.int 0)<|aj (fC<|.int 1) aC)<|aj (bJ<|aj (fC<|.int 1)<|aj (fC<|.int 5) aC)<|aj (bJ<|aj (fUn vO<|fC<|.int 1)<|aj (fC<|.int 2) aC)<|aj (bJ<|aj (fC<|.int 2)<|aj (fC<|.int 3) aC) aC)<|az cI (az gJ (aa 3)<|fC<|.int 3072)<|fC<|.int 4) gNx)
 (V3 5 (aL (gQ 6<|gO aC)
 (aL l_4
 (bc<|bJ<|aj (fC<|.str "deal")<|aj (az gIx (az lN (aa 1)<|fC<|.str "pool")<|az cI (az gJ (aa 3)<|fC<|.int 768)<|fC<|.int 8)<|aj (aR nM<|aj (aa 6) aC) aC)))))))
def eE (Φb:List D->D->Res (D×D)):List D->D->Res (D×D):=pA 1 8 4<|(lX (uc Φb)<|nP Φb)
def nJ (Φb:List D->D->Res (D×D)):Zaf:=
 (az gIx (aa 1)<|az cI (az eN (az eN (aa 2)<|az pZ (fC<|.int 2)<|aa 0)<|az lN (aa 3)<|fC<|.str "turn")<|fC<|.int 8)
def tZ (Φb:List D->D->Res (D×D)):Zaf:=
 (cD 1 [6,4,1] (uW<|aj (aa 5) aC) (hName 0) gV<|nJ Φb)
def jF (Φb:List D->D->Res (D×D)):Zac:=
 (wj 8<|J4<|yh (fX<|aK 9)<|yh (tK Φb 1 1<|aj (aK 0)<|aj (az lV (aa 2)<|fC<|.int 1) aC) Kg)
def m8 (Φb:List D->D->Res (D×D)):Zac:=
 (eQ (cZ<|aK 7) (hName 9)<|jF Φb)
def lZ (l_2:Zaf)(l_4:Zac):Zac:=
 (aL (bu 4<|az cI (az gJ (aa 3)<|fC<|.int 16)<|fC<|.int 3)
 (aL (gIf (fTv<|az lN (aa 1)<|fC<|.str "level") (bu 4<|az cI (aa 2)<|fC<|.int 3) gNx)
 (aL (bu 5<|az eN (fC<|.int 1)<|aa 4)
 (aL (gIf (aJ gEq (az cI (az gJ (aa 3)<|fC<|.int 48)<|fC<|.int 16)<|fC<|.int 5) (bu 5<|az eN (fC<|.int 1)<|az cI (az gJ (aa 3)<|fC<|.int 768)<|fC<|.int 3) gNx)
 (aL (bu 6<|az lN (aa 1)<|fC<|.str "pool")
 (aL (bu 7 l_2)
 (aL (gIf (aJ gEq (az cI (az gJ (aa 3)<|fC<|.int 48)<|fC<|.int 16)<|fC<|.int 6) (bu 7<|acr (aa 7)<|fO1<|fUn vO<|fC<|.int 1) gNx)
 (aL (gQ 8<|gO aC)
 (aL l_4
 (bc<|bJ<|aj (fC<|.str "move")<|aj (az eN (fC<|.int 1)<|az cI (aa 3)<|fC<|.int 2)<|aj (az gIx (aa 6)<|az cI (az eN (az pZ (fC<|.int 3)<|aa 4)<|az gJ (az lN (aa 1)<|fC<|.str "turn")<|fC<|.int 8)<|fC<|.int 8)<|aj (aR nM<|aj (aa 8) aC) aC))))))))))
def d7 (Φb:List D->D->Res (D×D)):List D->D->Res (D×D):=pA 1 10 4<|(lZ (tZ Φb)<|m8 Φb)
def jL (φ__law_lowest:Zad)(φ__law_mix:Zad)(φ__law_deal_of:List D->D->Res (D×D))(φ__law_move_of:List D->D->Res (D×D)):Zac:=
 (aL (bu 3<|az lN (aa 1)<|fC<|.str "at")
 (aL (BZ 1 (fC<|.str "at")<|az eN (aa 3)<|fC<|.int 1)
 (aL (gIf (aJ gGe (aa 3)<|aR dC<|aj (aa 0) aC) (bc<|bJ<|aj (fC<|.str "end")<|aj (bJ<|aj (az lV (az cI (aa 3)<|fC<|.int 7)<|fC<|.int 3)<|aj (fC<|.int 1) aC) aC) gNx)
 (aL (bu 4<|fFn φ__law_mix<|aj (az gIx (aa 0)<|aa 3)<|aj (aK 3) aC)
 (aL (gIf (dY (aJ gEq (aa 2)<|fC<|.int 0)<|dY (aJ gLt (az lN (aa 1)<|fC<|.str "room")<|fC<|.int 3)<|ji (aJ gEq (az cI (aa 4)<|fC<|.int 8)<|fC<|.int 0)<|aJ gGt (aa 3)<|fC<|.int 0) (bc<|bJ<|aj (fC<|.str "end")<|aj (fFn φ__law_lowest<|aj (az lV (az cI (az gJ (aa 4)<|fC<|.int 8)<|fC<|.int 13)<|fC<|.int 6)<|aj (az eN (fC<|.int 1)<|az cI (az gJ (aa 4)<|fC<|.int 104)<|fC<|.int 3) aC) aC) gNx)
 (aL (BZ 1 (fC<|.str "room")<|az lV (az lN (aa 1)<|fC<|.str "room")<|fC<|.int 3)
 (aL (gIf (aJ gLt (az cI (aa 4)<|fC<|.int 8)<|fC<|.int 3) (DQ<|tK φ__law_deal_of 1 1<|aj (aK 0)<|aj (aK 2)<|aj (aK 4) aC) gNx)
 (DQ<|tK φ__law_move_of 1 1<|aj (aK 0)<|aj (aK 2)<|aj (aK 4) aC))))))))
def bK:Nat->List D->D->Res (D×D)
 |0=>λ_ _=>.stuck
 |n+1=>pA 1 5 3
   (jL jc m6 (eE<|bK n)<|d7<|bK n)
def xK:Zaf:=
 (cD 2 [] (jk<|az gIx (aa 0)<|fC<|.int 2) (fJ 2<|aW (hName 0)<|aW (hName 1) fP) gV<|aK 0)
def tu (l_1:Zaf):Zac:=
 (aL (gIf (aJ gEq (az gIx (aa 0)<|fC<|.int 0)<|fC<|.str "end") (jW<|gO<|aj (az gIx (aa 0)<|fC<|.int 1) aC) gNx)
 (aL (gIf (aJ gEq (az gIx (aa 0)<|fC<|.int 0)<|fC<|.str "deal") (jW l_1) gNx)
 (jW<|gO aC)))
def ue:Zac:=
 (tu xK)
def jz:Zad:=aX 1 1 ue
def kW:Zaf:=
 (aR dC<|aj (aa 0) aC)
def kZ:Zaf:=
 (cD 3 [] (cZ<|aa 1) (fJ 3<|aW (hName 0)<|aW (hName 1)<|aW (hName 2) fP) gV kW)
def dN:Zac:=
 (gIf (dY (aJ gGe (aR zY<|aj (aa 5) aC)<|az ack (fC<|.int 10)<|fC<|.int 12)<|aJ gGe (aa 6)<|fC<|.int 1000) (bc<|fC<|.bl true) gNx)
def qJ:Zac:=
 (eQ (cZ<|fFn jz<|aj (aK 3) aC) (fJ 2<|aW (hName 5)<|aW (hName 6) fP) dN)
def iG:Zac:=
 qJ
def lB:Zac:=
 (eQ (cZ<|aK 1) (fJ 3<|aW (hName 2)<|aW (hName 3)<|aW (hName 4) fP) iG)
def lD:Zaf:=
 (aR dC<|aj (az gIx (aa 0)<|fC<|.int 2) aC)
def lF:Zaf:=
 (cD 1 [8] (cZ<|aa 7) (hName 0) (aJ gEq (az gIx (aa 0)<|fC<|.int 0)<|aa 1) lD)
def dR:Zac:=
 (aL (bu 9 lF)
 (gIf (dY (aJ gGt (aR dC<|aj (aa 9) aC)<|fC<|.int 8)<|aJ gGt (aR RL<|aj (aa 9) aC)<|fC<|.int 24) (bc<|fC<|.bl true) gNx))
def gR:Zac:=
 (eQ (jk<|bJ<|aj (fC<|.int 1)<|aj (fC<|.int 2) aC) (hName 8) dR)
def eZ (φ__law_places:Zad)(φ__law_table:Zad)(l_2:Zaf)(l_6:Zac)(l_10:Zac):Zac:=
 (aL (bu 1<|fFn φ__law_places<|aj (aK 0) aC)
 (aL (gIf (dY (aJ gGt (aR dC<|aj (aa 1) aC)<|fC<|.int 64)<|aJ gGt (aR Vk<|aj l_2 aC)<|fC<|.int 12) (bc<|fC<|.bl true) gNx)
 (aL l_6
 (aL (bu 7<|fFn φ__law_table<|aj (aK 0) aC)
 (aL l_10
 (bc<|fC<|.bl false))))))
def fD:Zac:=
 (eZ gD gC kZ lB gR)
def bY:Zad:=aX 10 1 fD
def xq:Zac:=
 (gIf (dY (dJ<|fTv<|wF "int" (aa 2))<|fTv<|wF "bool" (aa 2)) (bc<|fC<|.bl false) gNx)
def rN:Zac:=
 (eQ (jk<|aK 1) (hName 2) xq)
def oh:Zac:=
 (aL (gIf (dJ<|fTv<|wF "tuple" (aa 1)) (bc<|fC<|.bl false) gNx)
 rN)
def rQ:Zac:=
 (eQ (cZ<|aK 0) (hName 1) oh)
def v5 (l_4:Zac):Zac:=
 (aL l_4
 (bc<|fC<|.bl true))
def vH:Zac:=
 (v5 rQ)
def eX:Zad:=aX 3 1 vH
def jl (φ__law_ways:Zad):Zac:=
 (aL (bu 1<|gO<|aj (DR iM<|aa 0)<|aj (DR iB<|aa 0)<|aj (DR kO<|aa 0)<|aj (DR jn<|aa 0) aC)
 (aL (gIf (dY (fTv<|DR (Ek [lg,lr,ju])<|aa 0)<|dY (dJ<|fTv<|GZ fG<|aa 0)<|aJ gNe (aR Jg<|aj (aa 1) aC)<|fC<|.int 1) (bc<|bJ<|aj (fC<|.str "wrong") aC) gNx)
 (aL (gIf (fTv<|az gIx (aa 1)<|fC<|.int 0) (bc<|bJ<|aj (fC<|.str "too great") aC) gNx)
 (aL (gIf (ji (fTv<|az gIx (aa 1)<|fC<|.int 1)<|fTv<|fFn φ__law_ways<|aj (gO<|aj (qZ wI "way" (aa 0)) aC) aC) (bc<|bJ<|aj (fC<|.str "no shares")<|aj (qZ wI "way" (aa 0)) aC) gNx)
 (aL (gIf (ji (fTv<|az gIx (aa 1)<|fC<|.int 2)<|fTv<|fFn φ__law_ways<|aj (gO<|aj (qZ pX "one" (aa 0))<|aj (qZ jB "other" (aa 0)) aC) aC) (bc<|bJ<|aj (fC<|.str "unlike")<|aj (qZ pX "one" (aa 0))<|aj (qZ jB "other" (aa 0)) aC) gNx)
 (aL (gIf (ji (fTv<|az gIx (aa 1)<|fC<|.int 3)<|fTv<|fFn φ__law_ways<|aj (gO<|aj (qZ pX "one" (aa 0))<|aj (qZ jB "other" (aa 0)) aC) aC) (bc<|bJ<|aj (fC<|.str "forgets")<|aj (qZ pX "one" (aa 0))<|aj (qZ jB "other" (aa 0)) aC) gNx)
 (bc<|bJ<|aj (fC<|.str "wrong") aC)))))))
def jx:Zac:=
 (jl eX)
def dh:Zad:=aX 2 1 jx
def lH (φ_look:Zad)(φ__law_is_table:Zad)(φ__law_refusal:Zad):Zac:=
 (aL (bu 1<|fC .non)
 (aL (bu 2<|bJ aC)
 (aL (SM 3 (dW) (Kr 1 φ_look<|aj (aK 0) aC)<|bu 2<|fFn φ__law_refusal<|aj (aK 3) aC)
 (aL (gIf (aJ gNe (aa 2)<|bJ aC) (bc<|aK 2) gNx)
 (aL (gIf (dJ<|fTv<|fFn φ__law_is_table<|aj (aK 1) aC) (bc<|bJ<|aj (fC<|.str "wrong") aC) gNx)
 (bc<|bJ<|aj (fC<|.str "table")<|aj (aK 1) aC))))))
def wD:Zac:=
 (lH HF j6 dh)
def o8:Zad:=aX 4 1 wD
def jd:Zaf:=
 (cD 2 [] (jk<|az gIx (aa 0)<|fC<|.int 2) (fJ 2<|aW (hName 0)<|aW (hName 1) fP) gV<|aK 0)
def dF:Zac:=
 (aL (gIf (aJ gLe (aa 3)<|fC<|.int 0) (bc<|fC<|.bl false) gNx)
 (aL (bu 1<|az eN (az pZ (aa 1)<|aa 4)<|az pZ (aa 3)<|aa 2)
 (bu 2<|az pZ (aa 2)<|aa 4)))
def dH:Zac:=
 (eQ (cZ jd) (fJ 2<|aW (hName 3)<|aW (hName 4) fP) dF)
def cN (l_3:Zac):Zac:=
 (aL (gIf (aJ gNe (az gIx (aa 0)<|fC<|.int 0)<|fC<|.str "deal") (bc<|fC<|.bl true) gNx)
 (aL (bu 1<|fC<|.int 0)
 (aL (bu 2<|fC<|.int 1)
 (aL l_3
 (bc<|iV gEq (aa 1)<|aa 2)))))
def pQ:Zac:=
 (cN dH)
def cM:Zad:=aX 5 1 pQ
def cA:Zac:=
 (aL (bu 2<|az gIx (aa 0)<|fC<|.int 1)
 (aL (bu 3<|az gIx (aa 1)<|fC<|.int 1)
 (bc<|vz (iV gEq (az gIx (aa 2)<|fC<|.int 0)<|fC<|.str "move")<|vz (iV gEq (az gIx (aa 3)<|fC<|.int 0)<|fC<|.str "move")<|iV gEq (fSl (aa 2) (fO1<|fC<|.int 1)<|fO1<|fC<|.int 3)<|fSl (aa 3) (fO1<|fC<|.int 1)<|fO1<|fC<|.int 3)))
def qj:Zac:=
 cA
def fV:Zad:=aX 4 2 qj
def oV:Zaf:=
 (cD 2 [] (jk<|az gIx (az gIx (aa 0)<|fC<|.int 1)<|fC<|.int 3) (fJ 2<|aW (hName 0)<|aW (hName 1) fP) gV<|aK 0)
def o7:Zaf:=
 (cD 2 [] (jk<|az gIx (az gIx (aa 1)<|fC<|.int 1)<|fC<|.int 3) (fJ 2<|aW (hName 0)<|aW (hName 1) fP) gV<|aK 0)
def iz (l_1:Zaf)(l_2:Zaf):Zac:=
 (bc<|iV gEq l_1 l_2)
def qp:Zac:=
 (iz oV o7)
def iK:Zad:=aX 2 2 qp
def gB:Zac:=
 (aL (bu 2<|az gIx (az gIx (aa 0)<|fC<|.int 1)<|fC<|.int 1)
 (bc<|iV gEq (az gIx (az gIx (aa 0)<|fC<|.int 2)<|az lV (aa 2)<|fC<|.int 1)<|az gIx (az gIx (aa 1)<|fC<|.int 2)<|az lV (aa 2)<|fC<|.int 1))
def oH:Zac:=
 gB
def gw:Zad:=aX 3 2 oH
def fU:Zac:=
 (gIf (fTv<|fFn fV<|aj (aK 2)<|aj (az gIx (aa 0)<|aa 1) aC) (gIf (dY (dJ<|fTv<|fFn iK<|aj (aK 2)<|aj (az gIx (aa 0)<|aa 1) aC)<|dJ<|fTv<|fFn gw<|aj (aK 2)<|aj (az gIx (aa 0)<|aa 1) aC) (bc<|fC<|.bl false) gNx) gNx)
def lu:Zac:=
 (eQ (cZ<|fSl (aa 0) fO0<|fO1<|aa 1) (hName 2) fU)
def iH:Zac:=
 (aL (gIf (dJ<|fTv<|fFn cM<|aj (az gIx (az gIx (aa 0)<|aa 1)<|fC<|.int 1) aC) (bc<|fC<|.bl false) gNx)
 lu)
def iJ:Zac:=
 (eQ (uW<|aj (aR dC<|aj (aa 0) aC) aC) (hName 1) iH)
def jM (l_4:Zac):Zac:=
 (aL l_4
 (bc<|fC<|.bl true))
def tY:Zac:=
 (jM iJ)
def dO:Zad:=aX 3 1 tY
def oX:Zac:=
 (gIf (aJ gEq (az gIx (az gIx (aa 0)<|aa 2)<|fC<|.int 0)<|aa 1) (bc<|aK 2) gNx)
def vK:Zac:=
 (eQ (uW<|aj (aR dC<|aj (aa 0) aC) aC) (hName 2) oX)
def wR (l_2:Zac):Zac:=
 (aL l_2
 (bc<|fUn vO<|fC<|.int 1))
def GP:Zac:=
 (wR vK)
def lL:Zad:=aX 3 2 GP
def mz:Zaf:=
 (fFn fV<|aj (aK 0)<|aj (az gIx (aa 1)<|aa 2) aC)
def rF:Zaf:=
 (cD 1 [0,5] (cZ<|fSl (aa 0) fO0<|fO1<|aa 4) (hName 0) gV mz)
def gn (φ__law_named_alike:Zad)(φ__law_words_alike:Zad)(φ__law_records_alike:Zad)(φ__law_all_right:Zad)(φ__law_at:Zad)(l_2:Zaf):Zac:=
 (aL (bu 4<|fFn φ__law_at<|aj (aK 0)<|aj (aK 2) aC)
 (aL (bu 5<|fFn φ__law_at<|aj (aK 0)<|aj (aK 3) aC)
 (aL (gIf (dY (aJ gLt (aa 4)<|fC<|.int 0)<|dY (aJ gLe (aa 5)<|aa 4)<|dJ<|fTv<|fFn φ__law_all_right<|aj (fSl (aa 0) fO0<|fO1<|aa 5) aC) (bc<|fC<|.bl false) gNx)
 (aL (gIf (dJ<|fTv<|fFn φ__law_named_alike<|aj (az gIx (aa 0)<|aa 4)<|aj (az gIx (aa 0)<|aa 5) aC) (bc<|fC<|.bl false) gNx)
 (aL (gIf (fTv<|aR Im<|aj l_2 aC) (bc<|fC<|.bl false) gNx)
 (aL (gIf (aJ gEq (aa 1)<|fC<|.str "unlike") (bc<|JS<|fFn φ__law_words_alike<|aj (az gIx (aa 0)<|aa 4)<|aj (az gIx (aa 0)<|aa 5) aC) gNx)
 (bc<|vz (fFn φ__law_words_alike<|aj (az gIx (aa 0)<|aa 4)<|aj (az gIx (aa 0)<|aa 5) aC)<|JS<|fFn φ__law_records_alike<|aj (az gIx (aa 0)<|aa 4)<|aj (az gIx (aa 0)<|aa 5) aC)))))))
def uX:Zac:=
 (gn fV iK gw dO lL rF)
def gm:Zad:=aX 6 4 uX
def JD (φ__law_cell_at:Zad)(φ__law_pool:Zad)(φ__law_built:List D->D->Res (D×D))(φ__law_places:Zad)(φ__law_table:Zad)(φ__law_too_great:Zad)(φ__law_told:Zad)(φ__law_one_is_right:Zad)(φ__law_all_right:Zad)(φ__law_at:Zad)(φ__law_two_ways:Zad):Zac:=
 (aL (bu 1<|fFn φ__law_pool<|aj (fFn φ__law_cell_at<|aj (aK 0)<|aj (fC<|.int 0) aC)<|aj (fFn φ__law_cell_at<|aj (aK 0)<|aj (fC<|.int 1) aC) aC)
 (aL (bu 2<|fFn φ__law_cell_at<|aj (aK 0)<|aj (fC<|.int 2) aC)
 (aL (gQ 3<|Qe [((fC<|.str "at"),(fC<|.int 0)),((fC<|.str "room"),(fC<|.int 63)),((fC<|.str "pool"),(aK 1)),((fC<|.str "turn"),(az cI (fFn φ__law_cell_at<|aj (aK 0)<|aj (fC<|.int 3) aC)<|fC<|.int 64)),((fC<|.str "level"),(iV gEq (az cI (az gJ (aa 2)<|fC<|.int 5)<|fC<|.int 2)<|fC<|.int 1))])
 (aL (Gw 4<|tK φ__law_built 3 1<|aj (az eN (fSl (aa 0) (fO1<|fC<|.int 6)<|fO1<|fC<|.int 62)<|gO<|aj (fFn φ__law_cell_at<|aj (aK 0)<|aj (fC<|.int 4) aC) aC)<|aj (az eN (fC<|.int 2)<|az cI (aa 2)<|fC<|.int 5) aC)
 (aL (bu 5<|fFn φ__law_places<|aj (aK 4) aC)
 (aL (bu 6<|fFn φ__law_told<|aj (aK 4) aC)
 (aL (gIf (dY (aJ gEq (az gIx (aa 6)<|fC<|.int 0)<|fC<|.str "wrong")<|aJ gNe (iV gEq (az gIx (aa 6)<|fC<|.int 0)<|fC<|.str "too great")<|fFn φ__law_too_great<|aj (aK 4) aC) (bc<|fC<|.bl false) gNx)
 (aL (gIf (aJ gEq (az gIx (aa 6)<|fC<|.int 0)<|fC<|.str "table") (bc<|vz (fFn φ__law_all_right<|aj (aK 5) aC)<|iV gEq (az gIx (aa 6)<|fC<|.int 1)<|fFn φ__law_table<|aj (aK 4) aC) gNx)
 (aL (gIf (aJ gEq (az gIx (aa 6)<|fC<|.int 0)<|fC<|.str "no shares") (aL (bu 7<|fFn φ__law_at<|aj (aK 5)<|aj (az gIx (aa 6)<|fC<|.int 1) aC)
 (bc<|vz (iV gGe (aa 7)<|fC<|.int 0)<|vz (JS<|fFn φ__law_one_is_right<|aj (az gIx (az gIx (aa 5)<|aa 7)<|fC<|.int 1) aC)<|fFn φ__law_all_right<|aj (fSl (aa 5) fO0<|fO1<|aa 7) aC)) gNx)
 (bc<|fOr (iV gEq (az gIx (aa 6)<|fC<|.int 0)<|fC<|.str "too great")<|fFn φ__law_two_ways<|aj (aK 5)<|aj (az gIx (aa 6)<|fC<|.int 0)<|aj (az gIx (aa 6)<|fC<|.int 1)<|aj (az gIx (aa 6)<|fC<|.int 2) aC))))))))))
def aaG:Zac:=
 (JD g8 rn (bK 8) gD gC bY o8 cM dO lL gm)
def aaV:Zad:=aX 8 1 aaG
end
abbrev TG:Xn:=("TooGreat",[],[])
theorem U5 {α:Type}(b:α->Bool)(l:List α):Im [.lst<|l.map λx=>D.bl<|b x]=some (.bl<|l.any b):=by
 have:=tL (f:=λx=>D.bl<|b x) (b:=b) l λ_ _=>rfl
 show(qw<|l.map _).map (λbs=>D.bl<|bs.any id)=_;rw[this];simp[om]
def xm (g:Gm):Bool:=(plG [] g).any λp=>decide<|12<p.1.length
theorem rgp {g:Gm}(h:gP g)(hd:dp g<=50)(hz:szG g<=10000):cP [dG g]=if(decide (64<szG g)||xm g)=true then .exc TG else .ok (false,.non):=by
 have e:=places_eq h (by omega) (by omega);have hl:(plG [] g).length=szG g:=Bm _ g;have ec:dZ (fJ 2<|aW (hName 0)<|aW (hName 1) fP) gV ie [.un,.un] ((plG [] g).map pD)=.ok ((plG [] g).map λp=>.bl<|decide<|12<p.1.length):=fB _ λp hp=>by
  refine⟨[.fz<|.tup<|p.1.map D.int,.fz<|dG p.2],rfl,rfl,?_⟩;have q:decide ((12:Int)<(p.1.length:Int))=decide (12<p.1.length):=decide_eq_decide.mpr (by omega);simp[ie,iV,aR,dC,aj,aC,aa,fC,gGt,q]
 have z1:(plG [] g).length<=16777216:=by omega
 have eq:ir [.fz<|dG g,.fz<|.lst<|(plG [] g).map pD]=.ok (.lst<|(plG [] g).map λp=>.bl<|decide<|12<p.1.length):=by
  simp[ir,cD,cZ,aa,cMe,ec,z1]
 have ea:=U5 (λp:List Int×Gm=>decide<|12<p.1.length)<|plG [] g;by_cases q1:64<szG g
 ·have q2:(64:Int)<((plG [] g).length:Int):=by omega
  simp[cP,dD,dI,aX,aL,bu,fFn,aj,aC,aK,e,gIf,aJ,aR,dC,aa,fC,gGt,q1,q2,lU,fM]
 ·have q2:¬(64:Int)<((plG [] g).length:Int):=by omega
  by_cases q3:xm g=true
  ·have q4:=q3;unfold xm at q4;rw[q4] at ea;simp[cP,dD,dI,aX,aL,bu,fFn,aj,aC,aK,e,gIf,aJ,aR,dC,aa,fC,gGt,q1,q2,q3,lU,fM,gNx,fTv,eq,ea]
  ·have q4:xm g=false:=by simpa using q3
   have q5:=q4;unfold xm at q5;rw[q5] at ea;simp[cP,dD,dI,aX,aL,bu,fFn,aj,aC,aK,e,gIf,aJ,aR,dC,aa,fC,gGt,q1,q2,q4,lU,fM,gNx,fTv,eq,ea]
abbrev P (g:Gm):List Tr:=prG [] ([],[]) g
abbrev tb (g:Gm):List D:=(tbl<|P g).2
def nR (l:List D)(s:Int):Nat:=(l.filter λd=>decide<|sdD d=s).length
def nW (l:List D)(s:Int):Int:=((l.filter λd=>decide<|sdD d=s).map λd=>(wdD d:Int)).sum
def vy (l:List D)(s:Int):Bool:=decide (8<nR l s)||decide (24<nW l s)
theorem OJ (g:Gm):(tb g).length<=szG g:=by
 have:∀(l:List Tr) (T:Tb),(l.foldl tst T).2.length<=T.2.length+l.length:=by
  intro l;induction l with
  |nil=>intro T;simp
  |cons p l ih=>
   intro T
   have:=ih<|tst T p
   have q:(tst T p).2.length<=T.2.length+1:=by
    unfold tst;split
    ·split<;>simp
    ·omega
   simp only[mx,cK];omega
 have:=this (P g) ([],[])
 rw[uL] at this;have e:(tb g).length=((P g).foldl tst ([],[])).2.length:=rfl;rw[e];simpa using this
theorem V5 {g:Gm}{s:Int}{s2:Sl}(h:gP g)(hs:sdG g)(hd:dp g<=50)(hz:szG g<=10000):
  ∃s2',cG [.fz<|dG g,.fz<|.int s,s2]=if vy (tb g) s=true then .exc TG else .ok (.nx,[.fz<|dG g,.fz<|.int s,s2']):=by
 have e:=XM (s:=s) h hs hd hz;have hq:nR (tb g) s=((tb g).filter λd=>decide<|sdD d=s).length:=rfl;have hw:nW (tb g) s=(((tb g).filter λd=>decide<|sdD d=s).map λd=>(wdD d:Int)).sum:=rfl;have ω:((tb g).filter λd=>decide<|sdD d=s).length<=10000:=dr (yA _ _)<|dr (OJ g) hz;unfold vy;generalize hl:((tb g).filter λd=>decide<|sdD d=s)=l at *;have hr:∀d∈l,Vv d:=λd hd=>by rw[← hl] at hd;exact Hu (xa.mp hd).1
 have ec:=count_eq hr ω;refine⟨.fz<|.lst l,?_⟩;rw[hq,hw];by_cases q1:8<l.length
 ·have q2:(8:Int)<(l.length:Int):=by omega
  simp[cG,aL,bu,fFn,aj,aC,aK,e,gIf,aJ,aR,dC,aa,fC,gGt,q1,q2,lU,fM]
 ·have q2:¬(8:Int)<(l.length:Int):=by omega
  by_cases q3:(24:Int)<(l.map λd=>(wdD d:Int)).sum
  ·simp[cG,aL,bu,fFn,aj,aC,aK,e,gIf,aJ,aR,dC,aa,fC,gGt,q1,q2,q3,gNx,ec,lU,fM]
  ·simp[cG,aL,bu,fFn,aj,aC,aK,e,gIf,aJ,aR,dC,aa,fC,gGt,q1,q2,q3,gNx,ec,lU,fM]
theorem yL {h:Zbb}{g:Zac}{d:D}{ds:List D}{m m1:Me}{c:Xn}(h1:h d m=some m1)(h2:g m1=.exc c):bO h g (d::ds) m=.exc c:=by
 unfold bO;rw[h1];simp only[];rw[h2]
theorem rgt {g:Gm}(h:gP g)(hs:sdG g)(hd:dp g<=50)(hz:szG g<=10000):cY [dG g]=if(vy (tb g) 1||vy (tb g) 2)=true then .exc TG else .ok (false,.non):=by
 obtain⟨a,e1⟩:=V5 (s:=1) (s2:=.un) h hs hd hz;have ei:jk (bJ<|aj (fC<|.int 1)<|aj (fC<|.int 2) aC) [.fz<|dG g,.un,.un]=.ok [.int 1,.int 2]:=rfl;have eL:iI [.fz<|dG g,.un,.un]=bO (hName 1) cG [.int 1,.int 2] [.fz<|dG g,.un,.un]:=by
  unfold iI eQ;rw[ei];rfl
 by_cases q1:vy (tb g) 1=true
 ·rw[if_pos q1] at e1;rw[yL (m1:=[.fz<|dG g,.fz<|.int 1,.un]) rfl e1] at eL;simp[cY,eG,d8,aX,eL,q1]
 ·rw[if_neg q1] at e1;obtain⟨b,e2⟩:=V5 (s:=2) (s2:=a) h hs hd hz;rw[bI (m1:=[.fz<|dG g,.fz<|.int 1,.un]) rfl e1] at eL;by_cases q2:vy (tb g) 2=true
  ·rw[if_pos q2] at e2;rw[yL (m1:=[.fz<|dG g,.fz<|.int 2,a]) rfl e2] at eL;simp[cY,eG,d8,aX,eL,q2]
  ·rw[if_neg q2] at e2;rw[bI (m1:=[.fz<|dG g,.fz<|.int 2,a]) rfl e2] at eL;simp[cY,eG,d8,aX,eL,q1,q2,bO]
def grQ (d:Q2):Bool:=decide (999999999999<d.1.natAbs)||decide (999<d.2)
theorem T4 (d:Q2):qy [qD d]=.ok (false,.bl<|grQ d):=by
 have x0:∀a b:D,atI [a,b] 0=some a:=λ_ _=>rfl;have x1:∀a b:D,atI [a,b] 1=some b:=λ_ _=>rfl;unfold grQ;by_cases q1:999999999999<d.1.natAbs
 ·have q1':(999999999999:Int)<(if d.1<0 then -d.1 else d.1):=by split<;>omega
  simp[qy,uA,uI,aX,bc,Me.let,Sl.let,fOr,fTv,iV,aR,zY,aj,aC,az,aa,fC,gIx,qD,x0,x1,gGt,q1,q1']
 ·have q1':¬(999999999999:Int)<(if d.1<0 then -d.1 else d.1):=by split<;>omega
  simp[qy,uA,uI,aX,bc,Me.let,Sl.let,fOr,fTv,iV,aR,zY,aj,aC,az,aa,fC,gIx,qD,x0,x1,gGt,q1,q1']
def okW:Gm->Prop
 | .fin _=>True
 | .deal n ws=>Nm n/\∃l:List Rat,ik ws=l.map rD/\(∀x∈l,Sz 20 x)/\l.length<=66
 | .move _ n ws=>Nm n/\∃xs:List Str,ik ws=xs.map D.str/\∀x∈xs,Nm x
def lq:D->Q2
 | .tup [.int a,.int b]=>(a,b)
 |_=>(0,1)
def frs:Gm->List Q2
 | .fin d=>[d]
 | .deal _ ws=>(ik ws).map lq
 | .move _ _ _=>[]
def grG (g:Gm):Bool:=(frs g).any grQ
theorem Wv {g:Gm}(hw:okW g)(hl:gP g):dg [dG g]=.ok (true,.lst<|(frs g).map qD)/\(frs g).length<=1000:=by
 cases g with
 |fin d=>exact⟨aco,by simp[frs]⟩
 |deal n ws=>
  obtain⟨_,l,e,_,hz⟩:=hw;refine⟨?_,?_⟩
  ·rw[Ov hl.1,frs,e];simp only[gv];rfl
  ·simp[frs,e];omega
 |move s n ws=>exact⟨XD,by simp[frs]⟩
theorem acS {g0:Sl}{w:D}{g:Gm}(hw:okW g)(hl:gP g):dm [g0,.fz w,.fz<|dG g]=if grG g=true then .exc TG else .ok (.nx,[g0,.fz w,.fz<|dG g]):=by
 obtain⟨e,hz⟩:=Wv hw hl;have ec:dZ (hName 0) gV fO [.un] ((frs g).map qD)=.ok ((frs g).map λd=>.bl<|grQ d):=fB _ λd hd=>by
  refine⟨[.fz<|qD d],rfl,rfl,?_⟩;simp[fO,fFn,aj,aC,aK,T4 d]
 have z1:(frs g).length<=16777216:=by omega
 have eq:fQ [g0,.fz w,.fz<|dG g]=.ok (.lst<|(frs g).map λd=>.bl<|grQ d):=by
  simp[fQ,cD,cZ,fFn,aj,aC,aK,e,cMe,ec,z1]
 have ea:=U5 grQ<|frs g;unfold grG;cases q:(frs g).any grQ<;>(rw[q] at ea;simp[dm,gIf,fTv,aR,aj,aC,eq,ea,gNx,lU,fM,fC])
theorem V7 {g0:Sl}:∀(l:List (List Int×Gm)) (s1 s2:Sl),(∀p∈l,okW p.2/\gP p.2)->∃s1' s2',bO (fJ 2<|aW (hName 1)<|aW (hName 2) fP) dm (l.map pD) [g0,s1,s2]=if l.any (λp=>grG p.2)=true then .exc TG else .ok (.nx,[g0,s1',s2'])
 |[],s1,s2,_=>⟨s1,s2,rfl⟩
 |p::l,s1,s2,h=>by
  obtain⟨h1,h2⟩:=h p ar;have e1:=acS (g0:=g0) (w:=.tup<|p.1.map D.int) h1 h2;by_cases q:grG p.2=true
  ·rw[if_pos q] at e1;exact⟨s1,s2,by rw[aE,yL (m1:=[g0,.fz<|.tup<|p.1.map D.int,.fz<|dG p.2]) rfl e1];simp[q]⟩
  ·rw[if_neg q] at e1;obtain⟨a,b,e⟩:=V7 l (.fz<|.tup<|p.1.map D.int) (.fz<|dG p.2) λq hq=>h q<|ah _ hq;exact⟨a,b,by rw[aE,bI (m1:=[g0,.fz<|.tup<|p.1.map D.int,.fz<|dG p.2]) rfl e1,e];rw[mr,(show grG p.2=false by simpa using q),ve]⟩
def grA (g:Gm):Bool:=(plG [] g).any λp=>grG p.2
theorem rgf {g:Gm}(h:gP g)(hd:dp g<=50)(hz:szG g<=10000)(hf:∀p∈plG [] g,okW p.2/\gP p.2):dX [dG g]=if grA g=true then .exc TG else .ok (false,.non):=by
 have e:=places_eq h hd (by omega);obtain⟨a,b,e2⟩:=V7 (g0:=.fz<|dG g) (plG [] g) .un .un hf;have eL:fH [.fz<|dG g,.un,.un]=if grA g=true then .exc TG else .ok (.nx,[.fz<|dG g,a,b]):=by
  have e1:cZ (fFn jm<|aj (aK 0) aC) [.fz<|dG g,.un,.un]=.ok ((plG [] g).map pD):=by
   simp[cZ,fFn,aj,aC,aK,e]
  unfold fH eQ;rw[e1];exact e2
 cases q:grA g<;>(rw[q] at eL;simp[dX,gG,gF,aX,eL])
theorem m7 {d e:D}{p q:oQ}(h1:okD d=true)(h2:okD e=true)(d1:gf d<=64)(d2:gf e<=64)(e1:toPy d=some p)(e2:toPy e=some q):mG d e=some (d5 p q):=by
 obtain⟨p',a1,a2,a3,_⟩:=yS d h1;obtain⟨q',b1,b2,b3,_⟩:=yS e h2;cases a1.symm.trans e1;cases b1.symm.trans e2;unfold mG;rw[e1,e2];have s1:gL p=true:=by unfold gL;rw[a2,decide_eq_true<|by omega];rfl
 have s2:gL q=true:=by unfold gL;rw[b2,decide_eq_true<|by omega];rfl
 simp[s1,s2]
theorem yt {α:Type}[DecidableEq α](φ:α->oQ)(h:∀a b,d5 (φ a) (φ b)=decide (a=b)):∀as bs:List α,ja (as.map φ) (bs.map φ)=decide (as=bs)
 |[],[]=>rfl
 |[],_::_=>rfl
 |_::_,[]=>rfl
 |a::as,b::bs=>by
  simp only[aE,ja,h,yt φ h as bs];by_cases q1:a=b<;>by_cases q2:as=bs<;>simp[q1,q2]
theorem vQ {α:Type}{f:α->D}{φ:α->oQ}(h:∀a,toPy (f a)=some (φ a)):∀as:List α,mL (as.map f)=some (as.map φ)
 |[]=>by simp[mL]
 |a::as=>by simp[mL,h,vQ h as]
def prD (p:Str×Str):D:=.tup [.str p.1,.str p.2]
def prP (p:Str×Str):oQ:=.tuple [.str p.1,.str p.2]
theorem aam (p:Str×Str):toPy (prD p)=some (prP p):=by simp[prD,prP,toPy,mL]
theorem acQ (a b:Str×Str):d5 (prP a) (prP b)=decide (a=b):=by
 obtain⟨a1,a2⟩:=a;obtain⟨b1,b2⟩:=b;simp only[prP,d5,ja,AW];by_cases q1:a1=b1<;>by_cases q2:a2=b2<;>simp[q1,q2]
theorem Ou (a b:Str):d5 (.str a) (.str b)=decide (a=b):=by simp[d5];rfl
theorem vM {α:Type}{f:α->D}:∀{as:List α},(∀a∈as,okD (f a)=true)->qC (as.map f)=true
 |[],_=>rfl
 |a::as,h=>by simp[qC,h a ar,vM λb hb=>h b<|ah _ hb]
theorem tU {α:Type}{f:α->D}{k:Nat}:∀{as:List α},(∀a∈as,gf (f a)<=k)->iT (as.map f)<=k
 |[],_=>eW _
 |a::as,h=>by simp only[aE,iT];exact Nat.max_le.mpr ⟨h a ar,tU λb hb=>h b<|ah _ hb⟩
abbrev nms (xs:List Str):Prop:=∀x∈xs,Nm x
abbrev η (rc:List (Str×Str)):Prop:=∀p∈rc,Nm p.1/\Nm p.2
theorem okS {xs:List Str}(h:nms xs):qC (xs.map D.str)=true/\iT (xs.map D.str)<=0:=⟨vM λa ha=>by simp only[okD];exact h a ha,tU λa _=>by simp[gf]⟩
theorem VG {rc:List (Str×Str)}(h:η rc):qC (rc.map prD)=true/\iT (rc.map prD)<=1:=
 ⟨vM λp hp=>by simp[prD,okD,qC,(show g9 p.1=true from(h p hp).1),(show g9 p.2=true from(h p hp).2)],tU λp _=>by simp[prD,gf,iT]⟩
theorem ae3 {xs ys:List Str}(h1:nms xs)(h2:nms ys):gNe (.tup<|xs.map D.str) (.tup<|ys.map D.str)=some (decide<|xs≠ys):=by
 have e:=m7 (d:=.tup<|xs.map D.str) (e:=.tup<|ys.map D.str) (p:=.tuple<|xs.map nK) (q:=.tuple<|ys.map nK) (by simpa[okD] using(okS h1).1) (by simpa[okD] using(okS h2).1) (by have:=(okS h1).2;simp[gf];omega) (by have:=(okS h2).2;simp[gf];omega)
  (by simp[toPy,vQ (f:=D.str) (φ:=nK) (λ_=>by simp[toPy]) xs]) (by simp[toPy,vQ (f:=D.str) (φ:=nK) (λ_=>by simp[toPy]) ys])
 show(mG _ _).map _=_;rw[e,d5,yt _ Ou]
 simp
theorem ad8 {xs ys:List Str}(h1:nms xs)(h2:nms ys):gNe (.lst<|xs.map D.str) (.lst<|ys.map D.str)=some (decide<|xs≠ys):=by
 have e:=m7 (d:=.lst<|xs.map D.str) (e:=.lst<|ys.map D.str) (p:=.list<|xs.map nK) (q:=.list<|ys.map nK) (by simpa[okD] using(okS h1).1) (by simpa[okD] using(okS h2).1) (by have:=(okS h1).2;simp[gf];omega) (by have:=(okS h2).2;simp[gf];omega)
  (by simp[toPy,vQ (f:=D.str) (φ:=nK) (λ_=>by simp[toPy]) xs]) (by simp[toPy,vQ (f:=D.str) (φ:=nK) (λ_=>by simp[toPy]) ys])
 show(mG _ _).map _=_;rw[e,d5,yt _ Ou]
 simp
theorem aaW {xs ys:List (Str×Str)}(h1:η xs)(h2:η ys):gNe (.tup<|xs.map prD) (.tup<|ys.map prD)=some (decide<|xs≠ys):=by
 have e:=m7 (d:=.tup<|xs.map prD) (e:=.tup<|ys.map prD) (p:=.tuple<|xs.map prP) (q:=.tuple<|ys.map prP) (by simpa[okD] using(VG h1).1) (by simpa[okD] using(VG h2).1) (by have:=(VG h1).2;simp[gf];omega) (by have:=(VG h2).2;simp[gf];omega)
  (by simp[toPy,vQ aam xs]) (by simp[toPy,vQ aam ys])
 show(mG _ _).map _=_;rw[e,d5,yt _ acQ]
 simp
def Jk (l:List Rat):Bool:=l.all (λx=>decide<|0<x.num)&&decide (l.sum=1)
theorem abi {α:Type}(b:α->Bool)(l:List α):Tw [.lst<|l.map λx=>D.bl<|b x]=some (.bl<|l.all b):=by
 have:=tL (f:=λx=>D.bl<|b x) (b:=b) l λ_ _=>rfl
 show(qw<|l.map _).map (λbs=>D.bl<|bs.all id)=_;rw[this];simp[List.all_map]
theorem ad0 (x y:Rat):gEq (rD x) (rD y)=some (decide<|x=y):=by
 have e:=m7 (d:=.tup [.int x.num,.int x.den]) (e:=.tup [.int y.num,.int y.den]) (p:=.tuple [.int x.num,.int x.den]) (q:=.tuple [.int y.num,.int y.den]) (by simp[okD,qC]) (by simp[okD,qC]) (by simp[gf,iT]) (by simp[gf,iT]) (by simp[toPy,mL]) (by simp[toPy,mL]);show mG (.tup [.int x.num,.int x.den]) (.tup [.int y.num,.int y.den])=_;rw[e];simp only[d5,ja,AW];by_cases q:x=y
 ·subst q;simp
 ·have:¬(x.num=y.num/\(x.den:Int)=y.den):=λz=>q (Rat.ext z.1<|by omega)
  simp only[decide_eq_false q];by_cases q1:x.num=y.num
  ·have q2:¬(x.den:Int)=y.den:=λz=>this ⟨q1,z⟩;simp[q1,q2]
  ·simp[q1]
theorem Tu {l:List Rat}(h:∀x∈l,Sz 20 x)(hz:l.length<=66):qb [.lst<|l.map rD]=.ok (false,.bl<|Jk l):=by
 have et:=Rv (k:=20) h (by omega) (by omega);have ec:dZ (hName 0) gV qH [.un] (l.map rD)=.ok (l.map λx=>.bl<|decide<|0<x.num):=fB l λx hx=>by
  refine⟨[.fz<|rD x],rfl,rfl,?_⟩;have eu:=Tp Q0 (h x hx) (by omega);have e0:rD 0=.tup [.int 0,.int 1]:=rfl;have q:decide ((0:Rat).num*x.den<x.num*(0:Rat).den)=decide (0<x.num):=decide_eq_decide.mpr (by
   show 0*(x.den:Int)<x.num*1↔_;omega)
  rw[e0,q] at eu;simp[qH,fFn,aj,aC,fC,aK,eu]
 have z1:l.length<=16777216:=by omega
 have eq:qz [.fz<|.lst<|l.map rD]=.ok (.lst<|l.map λx=>.bl<|decide<|0<x.num):=by
  simp[qz,cD,cZ,aa,cMe,ec,z1]
 have ea:=abi (λx:Rat=>decide<|0<x.num) l;have eg:=ad0 l.sum 1;have e1:rD 1=.tup [.int 1,.int 1]:=rfl;rw[e1] at eg;unfold Jk;cases q:l.all (λx=>decide<|0<x.num)<;>(rw[q] at ea;simp[qb,uE,uz,aX,bc,Me.let,Sl.let,vz,fTv,aR,aj,aC,eq,ea,iV,fFn,aK,et,fC,eg])
def sS:D->Str
 | .str x=>x
 |_=>""
def prS:D->Str×Str
 | .tup [.str a,.str b]=>(a,b)
 |_=>("", "")
def wsS (ws:Ws):List Str:=(ik ws).map sS
def Nz (ws:Ws):List Rat:=(ik ws).map λd=>bX (lq d).1 (lq d).2
def wy (w:List Int):D:=.tup<|w.map D.int
structure Fi where
 s:Int
 n:Str
 w:List Int
 wd:List Str
 rc:List (Str×Str)
def fiK (f:Fi):List Kt:=kn f.s f.n
def fiD (f:Fi):D:=.tup [wy f.w,.tup [.int f.s,.str f.n,.tup<|f.wd.map D.str,.tup<|f.rc.map prD]]
def fd1 (F:List Fi)(s:Int)(n:Str):Option Fi:=F.find? λf=>decide<|f.s=s/\f.n=n
theorem aa3 (φ:Fi->D)(s:Int)(n:Str):∀F:List Fi,d9 (F.map fiK) (F.map φ) (kn s n)=(fd1 F s n).map φ
 |[]=>rfl
 |f::F=>by
  have ih:=aa3 φ s n F;unfold fd1 at ih ⊢;simp only[aE,d9,ko];by_cases q:f.s=s/\f.n=n
  ·rw[decide_eq_true q,if_pos (by obtain⟨rfl,rfl⟩:=q;rfl)];rfl
  ·rw[decide_eq_false q,if_neg<|show ¬fiK f=kn s n from λz=>q<|ab1 z];exact ih
theorem ZD {F:List Fi}{s:Int}{n:Str}{f:Fi}(h:fd1 F s n=some f):f∈F/\f.s=s/\f.n=n:=by
 have a:=List.mem_of_find?_eq_some h;have b:=List.find?_some h;exact⟨a,of_decide_eq_true b⟩
def Jl (s:Int)(n:Str)(ws:Ws)(w:List Int)(r:Rc):Fi:=⟨s,n,w,wsS ws,(oZ r s).map prS⟩
def stp (p:Tr)(F:List Fi):Xn ⊕ List Fi:=match p.2.1 with
 | .fin _=>.inr F
 | .deal _ ws=>if Jk (Nz ws)=true then .inr F else .inl ("NoShares",["way"],[wy p.1])
 | .move s n ws=>match fd1 F s n with
  |none=>.inr<|F++[Jl s n ws p.1 p.2.2]
  |some f=>if f.wd≠wsS ws then .inl ("Unlike",["one", "other"],[wy f.w,wy p.1]) else if f.rc≠(oZ p.2.2 s).map prS then .inl ("Forgets",["one", "other"],[wy f.w,wy p.1]) else .inr F
def scan:List Tr->List Fi->Option Xn
 |[],_=>none
 |p::l,F=>match stp p F with
  | .inl x=>some x
  | .inr F'=>scan l F'
def rcG (r:Rc):Prop:=∃a b:List (Str×Str),r.1=a.map prD/\r.2=b.map prD/\η a/\η b
structure okQ (p:Tr):Prop where
 pp:okP p
 w:okW p.2.1
 l:gP p.2.1
 r:rcG p.2.2
def abJ (F:List Fi):Prop:=∀f∈F,nms f.wd/\η f.rc
theorem MN {ws:Ws}{xs:List Str}(e:ik ws=xs.map D.str):wsS ws=xs:=by
 unfold wsS;rw[e,gv];exact(kG λ_ _=>rfl).trans (qS _)
theorem Je (a:List (Str×Str)):(a.map prD).map prS=a:=by
 rw[gv];exact(kG λ_ _=>rfl).trans (qS _)
theorem QK {r:Rc}(h:rcG r)(s:Int):∃a,oZ r s=a.map prD/\η a:=by
 obtain⟨a,b,e1,e2,h1,h2⟩:=h;unfold oZ;split
 ·exact⟨a,e1,h1⟩
 ·exact⟨b,e2,h2⟩
theorem Rr {ws:Ws}{l:List Rat}(e:ik ws=l.map rD):Nz ws=l:=by
 unfold Nz;rw[e,gv];refine(kG λx _=>?_).trans (qS _);show bX x.num (x.den:Int)=x;exact mB x
theorem abf {s:Int}{n:Str}{ws:Ws}{r:Rc}{w:List Int}(hw:okW (.move s n ws))(hr:rcG r):rM s n ws r=.tup [.int s,.str n,.tup<|(wsS ws).map D.str,.tup<|((oZ r s).map prS).map prD]/\nms (wsS ws)/\η ((oZ r s).map prS):=by
 obtain⟨_,xs,e,hx⟩:=hw;obtain⟨a,ea,ha⟩:=QK hr s;rw[MN e,ea,Je];unfold rM;rw[e,ea];exact⟨rfl,hx,ha⟩
theorem Hq (w:List Int):Fg (wy w)=true:=by
 unfold wy Fg;simp[flat]
theorem Fv {f:Fi}{w:List Int}{s:Int}{n:Str}{wd:List Str}{rc:List (Str×Str)}(h1:nms f.wd)(h2:η f.rc)(h3:nms wd)(h4:η rc):
  cz [wy w,.tup [.int s,.str n,.tup<|wd.map D.str,.tup<|rc.map prD],wy f.w,.tup [.int f.s,.str f.n,.tup<|f.wd.map D.str,.tup<|f.rc.map prD]] =
   if f.wd≠wd then .exc ("Unlike",["one", "other"],[wy f.w,wy w]) else if f.rc≠rc then .exc ("Forgets",["one", "other"],[wy f.w,wy w]) else .ok (false,.non):=by
 have x2:∀a b c d:D,atI [a,b,c,d] 2=some c:=λ_ _ _ _=>rfl;have x3:∀a b c d:D,atI [a,b,c,d] 3=some d:=λ_ _ _ _=>rfl;have e1:=ae3 h3 h1;have e2:=aaW h4 h2;by_cases q1:f.wd=wd
 ·by_cases q2:f.rc=rc
  ·have a1:decide (wd≠f.wd)=false:=by simp[q1]
   have a2:decide (rc≠f.rc)=false:=by simp[q2]
   rw[a1] at e1;rw[a2] at e2;rw[if_neg (by simp[q1]),if_neg<|by simp[q2]];simp[cz,fK,fL,aX,aL,gIf,aJ,az,aa,fC,gIx,x2,x3,e1,e2,gNx]
  ·have a1:decide (wd≠f.wd)=false:=by simp[q1]
   have a2:decide (rc≠f.rc)=true:=by simp;exact λz=>q2 z.symm
   rw[a1] at e1;rw[a2] at e2;rw[if_neg (by simp[q1]),if_pos q2];simp[cz,fK,fL,aX,aL,gIf,aJ,az,aa,fC,gIx,x2,x3,e1,e2,gNx,uC,aj,aC,aK,Hq]
 ·have a1:decide (wd≠f.wd)=true:=by simp;exact λz=>q1 z.symm
  rw[a1] at e1;rw[if_pos q1];simp[cz,fK,fL,aX,aL,gIf,aJ,az,aa,fC,gIx,x2,x3,e1,gNx,uC,aj,aC,aK,Hq]
theorem adD {g0 s2 s3 s4 s5 s6:Sl}{F:List Fi}{p:Tr}(hz:F.length<=100000)(hp:okQ p)(hF:abJ F):
  ∃m1,fJ 3 (aW (hName 2)<|aW (hName 3)<|aW (hName 4) fP) (trD p) [g0,.ow<|.dcu (F.map fiK)<|F.map fiD,s2,s3,s4,s5,s6]=some m1/\
   match stp p F with
   | .inl x=>bR m1=.exc x
   | .inr F'=>abJ F'/\F'.length<=F.length+1/\∃s5' s6',bR m1=.ok (.nx,[g0,.ow<|.dcu (F'.map fiK)<|F'.map fiD,.fz<|wy p.1,.fz<|dG p.2.1,.fz<|rD2 p.2.2,s5',s6']):=by
 obtain⟨w,g,r⟩:=p;have x20:∀a b:D,atI [a,b] 0=some a:=λ_ _=>rfl;have x21:∀a b:D,atI [a,b] 1=some b:=λ_ _=>rfl;have x30:∀a b c:D,atI [a,b,c] 0=some a:=λ_ _ _=>rfl;have x40:∀a b c d:D,atI [a,b,c,d] 0=some a:=λ_ _ _ _=>rfl;have x41:∀a b c d:D,atI [a,b,c,d] 1=some b:=λ_ _ _ _=>rfl;have x42:∀a b c d:D,atI [a,b,c,d] 2=some c:=λ_ _ _ _=>rfl;refine⟨_,rfl,?_⟩;cases g with
 |fin d=>
  refine⟨hF,by omega,s5,s6,?_⟩;simp[bR,aL,gIf,ji,aJ,az,aa,fC,gIx,dG,x20,gNx,wy]
 |deal n ws=>
  obtain⟨_,l,el,hl,hlz⟩:=hp.w;have e1:=Ov (n:=n) hp.l.1;have e2:=Tu hl hlz;rw[← el] at e2;simp only[dG] at e1;simp only[stp,Rr el];cases q:Jk l with
  |true=>
   rw[q] at e2;refine⟨hF,by omega,s5,s6,?_⟩;simp[bR,aL,gIf,ji,aJ,az,aa,fC,gIx,dG,x30,gNx,dJ,fTv,fFn,aj,aC,aK,e1,e2,wy]
  |false=>
   rw[q] at e2
   have:=Hq w
   unfold wy at this;simp[bR,aL,gIf,ji,aJ,az,aa,fC,gIx,dG,x30,gNx,dJ,fTv,fFn,aj,aC,aK,e1,e2,uC,wy,this]
 |move s n ws=>
  have hpp:(s=1\/s=2)/\lz ws<=100:=hp.pp;have e:=Uw (n:=n) (r:=r) hpp.2 hpp.1;obtain⟨er,hx,hc⟩:=abf (w:=w) hp.w hp.r;have kk:xY (.tup [.int s,.str n])=some (kn s n):=rfl;have z1:F.length<16777216:=by omega
  have q:=aa3 fiD s n F;rw[er] at e;simp only[dG] at e;simp only[stp];have er2:Jl s n ws w r=⟨s,n,w,wsS ws,(oZ r s).map prS⟩:=rfl;generalize ewd:wsS ws=wd at *;generalize erc:(oZ r s).map prS=rc at *;cases hf:fd1 F s n with
  |none=>
   rw[hf] at q;have eo:=Fv (f:=⟨s,n,w,wd,rc⟩) (w:=w) (s:=s) (n:=n) hx hc hx hc;rw[if_neg (by simp),if_neg<|by simp] at eo;refine⟨λf h=>?_,by simp,.fz<|.tup [.int s,.str n,.tup<|wd.map D.str,.tup<|rc.map prD],.fz<|fiD ⟨s,n,w,wd,rc⟩,?_⟩
   ·rcases cm.mp h with h|h
    ·exact hF f h
    ·rw[cb.mp h,er2];exact⟨hx,hc⟩
   ·simp only[wy] at eo;simp[bR,aL,gIf,ji,aJ,az,aa,fC,gIx,dG,x40,x41,x42,gNx,bu,fFn,aj,aC,aK,e,Gw,Rb,Bd,bJ,kk,z1,q,gEx,x20,x21,eo,rB,er2,fiD,fiK,wy]
  |some f=>
   rw[hf] at q;obtain⟨fm,rfl,rfl⟩:=ZD hf;obtain⟨f1,f2⟩:=hF f fm;have eo:=Fv (f:=f) (w:=w) (s:=f.s) (n:=f.n) f1 f2 hx hc;have eb:bR [g0,.ow<|.dcu (F.map fiK)<|F.map fiD,.fz<|.tup<|w.map D.int,.fz<|dG<|.move f.s f.n ws,.fz<|rD2 r,s5,s6]=match(cz [wy w,.tup [.int f.s,.str f.n,.tup<|wd.map D.str,.tup<|rc.map prD],wy f.w,.tup [.int f.s,.str f.n,.tup<|f.wd.map D.str,.tup<|f.rc.map prD]]) with
     | .ok _=>.ok (.nx,[g0,.ow<|.dcu (F.map fiK)<|F.map fiD,.fz<|wy w,.fz<|dG<|.move f.s f.n ws,.fz<|rD2 r,.fz<|.tup [.int f.s,.str f.n,.tup<|wd.map D.str,.tup<|rc.map prD],.fz<|fiD f])
     | .exc c=>.exc c
     | .stuck=>.stuck:=by
    generalize eR:cz [wy w,.tup [.int f.s,.str f.n,.tup<|wd.map D.str,.tup<|rc.map prD],wy f.w,.tup [.int f.s,.str f.n,.tup<|f.wd.map D.str,.tup<|f.rc.map prD]]=R;simp only[wy] at eR;cases R<;>simp[bR,aL,gIf,ji,aJ,az,aa,fC,gIx,dG,x40,x41,x42,gNx,bu,fFn,aj,aC,aK,e,Gw,Rb,Bd,bJ,kk,z1,q,gEx,x20,x21,eR,fiD,wy]
   rw[eo] at eb;by_cases q1:f.wd=wd
   ·by_cases q2:f.rc=rc
    ·simp only[q1,q2,ne_eq,not_true_eq_false,if_false] at eb ⊢;exact⟨hF,by omega,_,_,eb⟩
    ·simp only[q1,q2,ne_eq,not_true_eq_false,if_false,not_false_eq_true,if_true] at eb ⊢;exact eb
   ·simp only[q1,ne_eq,not_false_eq_true,if_true] at eb ⊢;exact eb
mutual
def wfG:Gm->Prop
 | .fin _=>True
 | .deal n ws=>okW (.deal n ws)/\wfW ws
 | .move s n ws=>okW (.move s n ws)/\wfW ws
def wfW:Ws->Prop
 | .nil=>True
 | .cons _ g r=>wfG g/\wfW r
end
structure Wf (g:Gm):Prop where
 len:gP g
 sd:sdG g
 wf:wfG g
 dep:dp g<=20
 siz:szG g<=1200
theorem acg {s:Int}{n:Str}{r:Rc}{x:Str}(h:rcG r)(hn:Nm n)(hx:Nm x):rcG (rbm s n r<|.str x):=by
 obtain⟨a,b,e1,e2,h1,h2⟩:=h;unfold rbm;have ad:∀{c:List (Str×Str)},η c->η (c++[(n,x)]):=λhc p hp=>by
  rcases cm.mp hp with z|z
  ·exact hc p z
  ·rw[cb.mp z];exact⟨hn,hx⟩
 split
 ·exact⟨a++[(n,x)],b,by simp[e1,prD],e2,ad h1,h2⟩
 ·exact⟨a,b++[(n,x)],e1,by simp[e2,prD],h1,ad h2⟩
mutual
theorem aeo:∀(w:List Int) (r:Rc) (g:Gm),gP g->sdG g->wfG g->rcG r->∀p∈prG w r g,okQ p
 |w,r,.fin d,_,_,_,hr,p,hp=>by
  have:p=(w,.fin d,r):=by simpa[prG] using hp
  rw[this];exact⟨eS,eS,eS,hr⟩
 |w,r,.deal n ws,h,hs,hw,hr,p,hp=>by
  rcases bE.mp (show p∈(w,Gm.deal n ws,r)::prW w (λ_=>r) 0 ws from hp) with e|e
  ·rw[e];exact⟨eS,hw.1,h,hr⟩
  ·exact VB w _ 0 ws h.2 hs hw.2 (λ_ _=>hr) p e
 |w,r,.move s n ws,h,hs,hw,hr,p,hp=>by
  rcases bE.mp (show p∈(w,Gm.move s n ws,r)::prW w (rbm s n r) 0 ws from hp) with e|e
  ·rw[e];exact⟨⟨hs.1,h.1⟩,hw.1,h,hr⟩
  ·refine VB w _ 0 ws h.2 hs.2 hw.2 (λl hl=>?_) p e;obtain⟨hn,xs,el,hx⟩:=hw.1;rw[el] at hl;obtain⟨x,hx',rfl⟩:=d3.mp hl;exact acg hr hn<|hx x hx'
theorem VB:∀(w:List Int) (f:D->Rc) (i:Nat) (ws:Ws),Ac ws->sdW ws->wfW ws->(∀l∈ik ws,rcG<|f l)->∀p∈prW w f i ws,okQ p
 |w,f,i,.nil,_,_,_,_,p,hp=>by cases hp
 |w,f,i,.cons l g r,h,hs,hw,hf,p,hp=>by
  rcases cm.mp (show p∈prG (w++[(i:Int)]) (f l) g++prW w f (i+1) r from hp) with e|e
  ·exact aeo _ _ g h.1 hs.1 hw.1 (hf l ar) p e
  ·exact VB w f (i+1) r h.2 hs.2 hw.2 (λl hl=>hf l<|ah _ hl) p e
end
theorem Wf.q {g:Gm}(W:Wf g):∀p∈P g,okQ p:=aeo [] _ g W.len W.sd W.wf ⟨[],[],rfl,rfl,(λ_ z=>nomatch z),(λ_ z=>nomatch z)⟩
theorem Wf.pl {g:Gm}(W:Wf g):∀p∈plG [] g,okW p.2/\gP p.2:=λp hp=>by
 rw[← Gp [] ([],[]) g] at hp;obtain⟨q,hq,rfl⟩:=d3.mp hp;exact⟨(W.q q hq).w,(W.q q hq).l⟩
theorem aa1 {g0:Sl}:∀(l:List Tr) (F:List Fi) (s2 s3 s4 s5 s6:Sl),F.length+l.length<=100000->(∀p∈l,okQ p)->abJ F->
  ∃m',bO (fJ 3<|aW (hName 2)<|aW (hName 3)<|aW (hName 4) fP) bR (l.map trD) [g0,.ow<|.dcu (F.map fiK)<|F.map fiD,s2,s3,s4,s5,s6]=match scan l F with
   |some x=>.exc x
   |none=>.ok (.nx,m')
 |[],F,s2,s3,s4,s5,s6,_,_,_=>⟨_,rfl⟩
 |p::l,F,s2,s3,s4,s5,s6,hz,hp,hF=>by
  have hz':F.length+(l.length+1)<=100000:=hz;obtain⟨m1,e1,e2⟩:=adD (g0:=g0) (s2:=s2) (s3:=s3) (s4:=s4) (s5:=s5) (s6:=s6) (by omega) (hp p ar) hF;rw[scan];cases q:stp p F with
  |inl x=>
   rw[q] at e2;exact⟨[],by rw[aE,yL e1 e2]⟩
  |inr F'=>
   rw[q] at e2;obtain⟨h1,h2,s5',s6',e2⟩:=e2;obtain⟨m',e⟩:=aa1 (g0:=g0) l F' (.fz<|wy p.1) (.fz<|dG p.2.1) (.fz<|rD2 p.2.2) s5' s6' (by omega) (λq hq=>hp q<|ah _ hq) h1;exact⟨m',by rw[aE,bI e1 e2,e]⟩
theorem ru {g : Gm} (W : Wf g) : gW [dG g] = match scan (P g) [] with
      | some x => .exc x
      | none => .ok (false, .non) := by
  have e := Vm W.len W.sd (by have := W.dep;omega) (by have := W.siz;omega);obtain ⟨m', e2⟩ := aa1 (g0 := .fz (dG g)) (P g) [] .un .un .un .un .un (by rw [uL];have := W.siz;simp;omega) W.q (λ_ z => nomatch z);have eL : kJ [.fz (dG g), .ow (.dcu [] []), .un, .un, .un, .un, .un] = match scan (P g) [] with
      | some x => .exc x
      | none => .ok (.nx, m') := by
    have e1 : cZ (fFn cQ (aj (aK 0) aC)) [.fz (dG g), .ow (.dcu [] []), .un, .un, .un, .un, .un] = .ok ((P g).map trD) := by
      simp [cZ, fFn, aj, aC, aK, e]
    unfold kJ eQ;rw [e1];exact e2
  cases q : scan (P g) [] with
  | some x => rw [q] at eL;simp [gW, jG, jE, aX, aL, gQ, Aa, eL]
  | none => rw [q] at eL;simp [gW, jG, jE, aX, aL, gQ, Aa, eL]
def Jx (g:Gm):Bool:=(decide (64<szG g)||xm g)||(vy (tb g) 1||vy (tb g) 2)||grA g
theorem ZS {g : Gm} (W : Wf g) : HF [dG g] = if Jx g = true then .exc TG else match scan (P g) [] with
      | some x => .exc x
      | none => .ok (true, .lst (tb g)) := by
  have d1 := W.dep;have d2 := W.siz;have e1 := rgp W.len (by omega) (by omega);have e2 := rgt W.len W.sd (by omega) (by omega);have e3 := rgf W.len (by omega) (by omega) W.pl;have e4 := ru W;have e5 := table_eq W.len W.sd (by omega) (by omega);unfold Jx;generalize (decide (64 < szG g) || xm g) = b1 at *;generalize (vy (tb g) 1 || vy (tb g) 2) = b2 at *;generalize grA g = b3 at *;generalize scan (P g) [] = o at *;have es : gr [dG g] = if (b1 || b2) = true then .exc TG else .ok (false, .non) := by
    cases b1<;>cases b2<;>simp [gr, jr, jt, aX, aL, gEx, fFn, aj, aC, aK, e1, e2]
  cases b1<;>cases b2<;>cases b3<;>cases o<;>simp [isTup, HF, NP, Nq, aX, aL, gEx, fFn, aj, aC, aK, es, e3, e4, jW, Me.let, Sl.let, acI, e5]
theorem frL:jz=dg:=rfl
theorem wH {h:Zbb}{g:Zac}{d:D}{ds:List D}{m m1 m2:Me}{f:Bool}{v:D}(h1:h d m=some m1)(h2:g m1=.ok (.rt f v,m2)):bO h g (d::ds) m=.ok (.rt f v,m2):=by
 unfold bO;rw[h1];simp only[];rw[h2]
theorem ad2 (a b c d e s5 s6 s7 s8 s9:Sl)(q:Q2):dN [a,b,c,d,e,.fz<|.int q.1,.fz<|.int q.2,s7,s8,s9]=if grQ q=true then .ok (.rt false<|.bl true,Me.let [a,b,c,d,e,.fz<|.int q.1,.fz<|.int q.2,s7,s8,s9]) else .ok (.nx,[a,b,c,d,e,.fz<|.int q.1,.fz<|.int q.2,s7,s8,s9]):=by
 have ep:ack (.int 10) (.int 12)=some (.int 1000000000000):=rfl;unfold grQ;by_cases q1:999999999999<q.1.natAbs
 ·have q1':(1000000000000:Int)<=(if q.1<0 then -q.1 else q.1):=by split<;>omega
  simp[dN,gIf,dY,aJ,aR,zY,aj,aC,aa,az,fC,gGe,ep,q1',q1,bc]
 ·have q1':¬(1000000000000:Int)<=(if q.1<0 then -q.1 else q.1):=by split<;>omega
  by_cases q2:999<q.2
  ·have q2':(1000:Int)<=q.2:=by omega
   simp[dN,gIf,dY,aJ,aR,zY,aj,aC,aa,az,fC,gGe,ep,q1',q2',q1,q2,bc]
  ·have q2':¬(1000:Int)<=q.2:=by omega
   simp[dN,gIf,dY,aJ,aR,zY,aj,aC,aa,az,fC,gGe,ep,q1',q2',q1,q2,gNx]
theorem aaN (a b c d e s7 s8 s9:Sl):∀(l:List Q2) (s5 s6:Sl),∃s5' s6' m',bO (fJ 2<|aW (hName 5)<|aW (hName 6) fP) dN (l.map qD) [a,b,c,d,e,s5,s6,s7,s8,s9]=if l.any grQ=true then .ok (.rt false<|.bl true,m') else .ok (.nx,[a,b,c,d,e,s5',s6',s7,s8,s9])
 |[],s5,s6=>⟨s5,s6,[],rfl⟩
 |q::l,s5,s6=>by
  have e1:=ad2 a b c d e s5 s6 s7 s8 s9 q;by_cases z:grQ q=true
  ·rw[if_pos z] at e1;exact⟨s5,s6,_,by rw[aE,wH (m1:=[a,b,c,d,e,.fz<|.int q.1,.fz<|.int q.2,s7,s8,s9]) rfl e1,if_pos<|by simp[z]]⟩
  ·rw[if_neg z] at e1;obtain⟨x,y,m',e2⟩:=aaN a b c d e s7 s8 s9 l (.fz<|.int q.1)<|.fz<|.int q.2;exact⟨x,y,m',by rw[aE,bI (m1:=[a,b,c,d,e,.fz<|.int q.1,.fz<|.int q.2,s7,s8,s9]) rfl e1,e2,mr,(show grQ q=false by simpa using z),ve]⟩
theorem aaY (a b s7 s8 s9 : Sl) : ∀ (l : List Tr) (c d e s5 s6 : Sl), (∀ p ∈ l, okW p.2.1 ∧ gP p.2.1) → ∃ c' d' e' s5' s6' m', bO (fJ 3 (aW (hName 2) (aW (hName 3) (aW (hName 4) fP)))) iG (l.map trD) [a, b, c, d, e, s5, s6, s7, s8, s9] =
      if l.any (λp => grG p.2.1) = true then .ok (.rt false (.bl true), m') else .ok (.nx, [a, b, c', d', e', s5', s6', s7, s8, s9])
  | [], c, d, e, s5, s6, _ => ⟨c, d, e, s5, s6, [], rfl⟩
  | p :: l, c, d, e, s5, s6, h => by
    obtain ⟨h1, h2⟩ := h p ar;obtain ⟨ef, _⟩ := Wv h1 h2;obtain ⟨x, y, m', e2⟩ := aaN a b (.fz (wy p.1)) (.fz (dG p.2.1)) (.fz (rD2 p.2.2)) s7 s8 s9 (frs p.2.1) s5 s6;have eb : iG [a, b, .fz (wy p.1), .fz (dG p.2.1), .fz (rD2 p.2.2), s5, s6, s7, s8, s9] = if grG p.2.1 = true then .ok (.rt false (.bl true), m') else .ok (.nx, [a, b, .fz (wy p.1), .fz (dG p.2.1), .fz (rD2 p.2.2), x, y, s7, s8, s9]) := by
      unfold iG qJ eQ;have ei : cZ (fFn jz (aj (aK 3) aC)) [a, b, .fz (wy p.1), .fz (dG p.2.1), .fz (rD2 p.2.2), s5, s6, s7, s8, s9] = .ok ((frs p.2.1).map qD) := by
        rw [frL];simp [cZ, fFn, aj, aC, aK, ef]
      rw [ei];exact e2
    by_cases z : grG p.2.1 = true
    · rw [if_pos z] at eb
      exact ⟨c, d, e, s5, s6, m', by rw [aE, wH (m1 := [a, b, .fz (wy p.1), .fz (dG p.2.1), .fz (rD2 p.2.2), s5, s6, s7, s8, s9]) rfl eb, if_pos (by simp [z])]⟩
    · rw [if_neg z] at eb
      obtain ⟨c', d', e', s5', s6', m2, e3⟩ := aaY a b s7 s8 s9 l (.fz (wy p.1)) (.fz (dG p.2.1)) (.fz (rD2 p.2.2)) x y λq hq => h q (ah _ hq);exact ⟨c', d', e', s5', s6', m2, by rw [aE, bI (m1 := [a, b, .fz (wy p.1), .fz (dG p.2.1), .fz (rD2 p.2.2), s5, s6, s7, s8, s9]) rfl eb, e3, mr, (show grG p.2.1 = false by simpa using z), ve]⟩
theorem Qh {h:Zbb}{ft:Zba}{fe:Zaf}{m0:Me}(b:D->Bool)(φ:D->D):∀ds:List D,(∀d∈ds,∃m1,h d m0=some m1/\ft m1=.ok (b d)/\fe m1=.ok (φ d))->dZ h ft fe m0 ds=.ok ((ds.filter b).map φ)
 |[],_=>rfl
 |d::ds,hd=>by
  obtain⟨m1,e1,e2,e3⟩:=hd d ar;have ih:=Qh b φ ds λx hx=>hd x<|ah _ hx;unfold dZ;rw[e1];simp only[];rw[e2];cases q:b d
  ·simp[ih,q]
  ·simp[e3,ih,q]
theorem aaA {g:Gm}{a b c d e s5 s6 s9:Sl}{s:Int}(hz:szG g<=10000):∃s9',dR [a,b,c,d,e,s5,s6,.fz<|.lst<|tb g,.fz<|.int s,s9]=if vy (tb g) s=true then .ok (.rt false<|.bl true,Me.let [a,b,c,d,e,s5,s6,.fz<|.lst<|tb g,.fz<|.int s,s9']) else .ok (.nx,[a,b,c,d,e,s5,s6,.fz<|.lst<|tb g,.fz<|.int s,s9']):=by
 have ec:dZ (hName 0) (aJ gEq (az gIx (aa 0)<|fC<|.int 0)<|aa 1) lD [.un,.fz<|.int s] (tb g)=.ok (((tb g).filter λd=>decide<|sdD d=s).map λd=>D.int (wdD d:Int)):=Qh _ _ _ λd hd=>by
  obtain⟨a,n,ws,r,rfl⟩:=Hu hd;refine⟨[.fz<|rM a n ws r,.fz<|.int s],rfl,?_,?_⟩
  ·have x0:∀a b c d:D,atI [a,b,c,d] 0=some a:=λ_ _ _ _=>rfl;simp[aJ,az,aa,fC,gIx,rM,x0,sdD];exact decide_eq_decide.mpr Iff.rfl
  ·have x2:∀a b c d:D,atI [a,b,c,d] 2=some c:=λ_ _ _ _=>rfl;simp[lD,aR,dC,aj,aC,az,aa,fC,gIx,rM,x2,wdD]
 have z0:((tb g).filter λd=>decide<|sdD d=s).length<=(tb g).length:=yA _ _;have z1:(tb g).length<=16777216:=by have:=OJ g;omega
 have hq:nR (tb g) s=((tb g).filter λd=>decide<|sdD d=s).length:=rfl;have hw:nW (tb g) s=(((tb g).filter λd=>decide<|sdD d=s).map λd=>(wdD d:Int)).sum:=rfl;have eq:lF [a,b,c,d,e,s5,s6,.fz<|.lst<|tb g,.fz<|.int s,s9]=.ok (.lst<|((tb g).filter λd=>decide<|sdD d=s).map λd=>D.int (wdD d:Int)):=by
  simp[lF,cD,cZ,aa,cMe,Sl.bor,ec,z1]
 unfold vy;generalize hl:((tb g).filter λd=>decide<|sdD d=s)=l at *;have es:RL [.lst<|l.map λd=>D.int (wdD d:Int)]=some (.int (l.map λd=>(wdD d:Int)).sum):=by
  show(zM _).map _=_;rw[DX];rfl
 refine⟨.fz<|.lst<|l.map λd=>D.int (wdD d:Int),?_⟩;rw[hq,hw];by_cases q1:8<l.length
 ·have q2:(8:Int)<(l.length:Int):=by omega
  simp[dR,aL,bu,eq,gIf,dY,aJ,aR,dC,aj,aC,aa,fC,gGt,q1,q2,bc]
 ·have q2:¬(8:Int)<(l.length:Int):=by omega
  by_cases q3:(24:Int)<(l.map λd=>(wdD d:Int)).sum
  ·simp[dR,aL,bu,eq,gIf,dY,aJ,aR,dC,aj,aC,aa,fC,gGt,q1,q2,q3,es,bc]
  ·simp[dR,aL,bu,eq,gIf,dY,aJ,aR,dC,aj,aC,aa,fC,gGt,q1,q2,q3,es,gNx]
theorem adU {g:Gm}{a b c d e s5 s6:Sl}(hz:szG g<=10000):∃s9' m',gR [a,b,c,d,e,s5,s6,.fz<|.lst<|tb g,.un,.un]=if(vy (tb g) 1||vy (tb g) 2)=true then .ok (.rt false<|.bl true,m') else .ok (.nx,[a,b,c,d,e,s5,s6,.fz<|.lst<|tb g,.fz<|.int 2,s9']):=by
 have ei:jk (bJ<|aj (fC<|.int 1)<|aj (fC<|.int 2) aC) [a,b,c,d,e,s5,s6,.fz<|.lst<|tb g,.un,.un]=.ok [.int 1,.int 2]:=rfl;have eL:gR [a,b,c,d,e,s5,s6,.fz<|.lst<|tb g,.un,.un]=bO (hName 8) dR [.int 1,.int 2] [a,b,c,d,e,s5,s6,.fz<|.lst<|tb g,.un,.un]:=by
  unfold gR eQ;rw[ei];rfl
 obtain⟨x,e1⟩:=aaA (g:=g) (a:=a) (b:=b) (c:=c) (d:=d) (e:=e) (s5:=s5) (s6:=s6) (s9:=.un) (s:=1) hz;by_cases q1:vy (tb g) 1=true
 ·rw[if_pos q1] at e1;rw[wH (m1:=[a,b,c,d,e,s5,s6,.fz<|.lst<|tb g,.fz<|.int 1,.un]) rfl e1] at eL;exact⟨.un,_,by rw[eL,if_pos<|by simp[q1]]⟩
 ·rw[if_neg q1] at e1;rw[bI (m1:=[a,b,c,d,e,s5,s6,.fz<|.lst<|tb g,.fz<|.int 1,.un]) rfl e1] at eL;obtain⟨y,e2⟩:=aaA (g:=g) (a:=a) (b:=b) (c:=c) (d:=d) (e:=e) (s5:=s5) (s6:=s6) (s9:=x) (s:=2) hz;by_cases q2:vy (tb g) 2=true
  ·rw[if_pos q2] at e2;rw[wH (m1:=[a,b,c,d,e,s5,s6,.fz<|.lst<|tb g,.fz<|.int 2,x]) rfl e2] at eL;exact⟨.un,_,by rw[eL,if_pos<|by simp[q2]]⟩
  ·rw[if_neg q2] at e2;rw[bI (m1:=[a,b,c,d,e,s5,s6,.fz<|.lst<|tb g,.fz<|.int 2,x]) rfl e2] at eL;exact⟨y,[],by rw[eL,if_neg<|by simp[q1,q2]];rfl⟩
theorem acp (n:Int)(r:List Int)(k:Int):decide (k<r.foldl max n)=(n::r).any λa=>decide (k<a):=by
 obtain⟨h1,h2⟩:=fold_max r n;by_cases q:k<r.foldl max n
 ·rw[decide_eq_true q];exact(List.any_eq_true.mpr ⟨_,h1,decide_eq_true q⟩).symm
 ·rw[decide_eq_false q];refine(Bool.eq_false_iff.mpr λz=>?_).symm;obtain⟨a,ha,hk⟩:=List.any_eq_true.mp z
  have:=h2 a ha
  have:=of_decide_eq_true hk
  omega
theorem aaa (g:Gm):∃n:Int,Vk [.lst<|(P g).map λp=>D.int (p.1.length:Int)]=some (.int n)/\decide (12<n)=xm g:=by
 have e0:P g=(P g).head (by intro z;have e:(P g).length=szG g:=uL [] ([],[]) g;rw[z] at e;have:=uF g;simp at e;omega)::(P g).tail:=(List.cons_head_tail _).symm;have el:xm g=(P g).any λp=>decide ((12:Int)<(p.1.length:Int)):=by
  unfold xm;rw[← Gp [] ([],[]) g,om];congr 1;funext p;exact decide_eq_decide.mpr (by simp;omega)
 generalize(P g).head _=a at e0;generalize(P g).tail=l at e0;have ei:zM ((P g).map λp=>D.int (p.1.length:Int))=some ((P g).map λp=>(p.1.length:Int)):=by
  have:=JQ<|(P g).map λp=>(p.1.length:Int)
  rw[gv] at this;exact this
 refine⟨(l.map λp=>(p.1.length:Int)).foldl max (a.1.length:Int),?_,?_⟩
 ·show(zM _).bind _=_;rw[ei,e0];rfl
 ·rw[acp,el,e0];simp[om];rfl
theorem abb {g:Gm}(W:Wf g):bY [dG g]=.ok (false,.bl<|Jx g):=by
 have d1:=W.dep;have d2:=W.siz;have e1:=xJ W.len W.sd (by omega) (by omega);have e2:=Fz W.len W.sd (by omega) (by omega);obtain⟨n,e3,e3'⟩:=aaa g;have hl:(P g).length=szG g:=uL _ _ g;have ec:dZ (fJ 3<|aW (hName 0)<|aW (hName 1)<|aW (hName 2) fP) gV kW [.un,.un,.un] ((P g).map trD)=.ok ((P g).map λp=>D.int (p.1.length:Int)):=fB _ λp hp=>by
  refine⟨[.fz<|wy p.1,.fz<|dG p.2.1,.fz<|rD2 p.2.2],rfl,rfl,?_⟩;simp[kW,aR,dC,aj,aC,aa,wy]
 have z1:(P g).length<=16777216:=by omega
 have eq:∀s2 s3 s4 s5 s6 s7 s8 s9:Sl,kZ [.fz<|dG g,.fz<|.lst<|(P g).map trD,s2,s3,s4,s5,s6,s7,s8,s9]=.ok (.lst<|(P g).map λp=>D.int (p.1.length:Int)):=λs2 s3 s4 s5 s6 s7 s8 s9=>by
  simp[kZ,cD,cZ,aa,cMe,ec,z1]
 obtain⟨c',d',e',s5',s6',m',e4⟩:=aaY (.fz<|dG g) (.fz<|.lst<|(P g).map trD) .un .un .un (P g) .un .un .un .un .un λp hp=>⟨(W.q p hp).w,(W.q p hp).l⟩;have eA:(P g).any (λp=>grG p.2.1)=grA g:=by
  unfold grA;rw[← Gp [] ([],[]) g,om];rfl
 rw[eA] at e4;have eL:lB [.fz<|dG g,.fz<|.lst<|(P g).map trD,.un,.un,.un,.un,.un,.un,.un,.un]=if grA g=true then .ok (.rt false<|.bl true,m') else .ok (.nx,[.fz<|dG g,.fz<|.lst<|(P g).map trD,c',d',e',s5',s6',.un,.un,.un]):=by
  unfold lB eQ;have ei:cZ (aK 1) [.fz<|dG g,.fz<|.lst<|(P g).map trD,.un,.un,.un,.un,.un,.un,.un,.un]=.ok ((P g).map trD):=by simp[cZ,aK]
  rw[ei];exact e4
 obtain⟨s9',m2,e5⟩:=adU (g:=g) (a:=.fz<|dG g) (b:=.fz<|.lst<|(P g).map trD) (c:=c') (d:=d') (e:=e') (s5:=s5') (s6:=s6') (by omega);have q0:decide ((64:Int)<((P g).length:Int))=decide (64<szG g):=decide_eq_decide.mpr (by omega);unfold Jx;rw[← e3'];generalize(vy (tb g) 1||vy (tb g) 2)=b2 at *;generalize grA g=b3 at *;by_cases q1:64<szG g
 ·rw[decide_eq_true q1] at q0;simp[bY,fD,eZ,aX,aL,bu,fFn,aj,aC,aK,e1,gIf,dY,aJ,aR,dC,aa,fC,gGt,q0,q1,bc]
 ·rw[decide_eq_false q1] at q0;by_cases q2:(12:Int)<n
  ·simp[bY,fD,eZ,aX,aL,bu,fFn,aj,aC,aK,e1,gIf,dY,aJ,aR,dC,aa,fC,gGt,q0,q1,eq,e3,q2,bc]
  ·cases b3
   ·cases b2<;>simp[bY,fD,eZ,aX,aL,bu,fFn,aj,aC,aK,e1,gIf,dY,aJ,aR,dC,aa,fC,gGt,q0,q1,eq,e3,q2,bc,gNx,eL,e2,e5]
   ·simp[bY,fD,eZ,aX,aL,bu,fFn,aj,aC,aK,e1,gIf,dY,aJ,aR,dC,aa,fC,gGt,q0,q1,eq,e3,q2,bc,gNx,eL]
theorem KQ {T B:Int}{x:Rat}(hB:0<B):bX (T*(x.den:Int)+x.num*B) (B*(x.den:Int))=bX T B+x:=by
 have hd:(x.den:Int)≠0:=by have:=x.den_pos;omega
 have e:=yy T x.num (d₁:=B) (d₂:=(x.den:Int)) (by omega) hd;rw[mB] at e;exact e.symm
theorem adJ {L a b:Sl}{T B:Int}{x:Rat}{k:Nat}(hx:Sz 20 x)(hB:0<B)(hk:B.natAbs<2^k)(hk2:k<=3000):
  dF [L,.fz<|.int T,.fz<|.int B,.fz<|.int x.num,.fz<|.int (x.den:Int)]=if 0<x.num then .ok (.nx,[L,.fz<|.int<|T*(x.den:Int)+x.num*B,.fz<|.int<|B*(x.den:Int),.fz<|.int x.num,.fz<|.int (x.den:Int)]) else .ok (.rt false<|.bl false,Me.let [L,.fz<|.int T,.fz<|.int B,.fz<|.int x.num,.fz<|.int (x.den:Int)]):=by
 have h1:((x.den:Int)).natAbs<2^62:=by have:=hx.2;simp;omega
 have b1:Bg B:=Uv<|uo hk (by omega);have b2:Bg x.num:=Uv<|uo hx.1 (by omega);have m1:pZ (.int T) (.int (x.den:Int))=some (.int<|T*(x.den:Int)):=if_pos<|.inr h1;have m2:pZ (.int x.num) (.int B)=some (.int<|x.num*B):=if_pos<|.inl ⟨b2,b1⟩;have m3:pZ (.int B) (.int (x.den:Int))=some (.int<|B*(x.den:Int)):=if_pos<|.inr h1;by_cases q:0<x.num
 ·have q':¬x.num<=0:=by omega
  simp[dF,aL,gIf,aJ,aa,fC,gLe,q,q',gNx,bu,az,m1,m2,m3,eN]
 ·have q':x.num<=0:=by omega
  simp[dF,aL,gIf,aJ,aa,fC,gLe,q,q',bc]
theorem aaP {L:Sl}:∀(l:List Rat) (T B:Int) (k:Nat) (a b:Sl),(∀x∈l,Sz 20 x)->0<B->B.natAbs<2^k->k+20*l.length<=3000->
  ∃T' B' a' b' m',bO (fJ 2<|aW (hName 3)<|aW (hName 4) fP) dF (l.map rD) [L,.fz<|.int T,.fz<|.int B,a,b]=(if l.all (λx=>decide<|0<x.num)=true then .ok (.nx,[L,.fz<|.int T',.fz<|.int B',a',b']) else .ok (.rt false<|.bl false,m'))/\0<B'/\bX T' B'=bX T B+l.sum
 |[],T,B,k,a,b,_,hB,_,_=>⟨T,B,a,b,[],rfl,hB,by rw[List.sum_nil,Rat.add_zero]⟩
 |x::l,T,B,k,a,b,hx,hB,hk,hz=>by
  have hz':k+20*(l.length+1)<=3000:=hz;have e1:=adJ (L:=L) (a:=a) (b:=b) (T:=T) (hx x ar) hB hk (by omega);have hd:=x.den_pos;have hd2:=(hx x ar).2;have hB':0<B*(x.den:Int):=Int.mul_pos hB (by omega);have hk':(B*(x.den:Int)).natAbs<2^(k+20):=by
   rw[zv,Nat.pow_add];exact Nat.mul_lt_mul'' hk<|by simpa using hd2
  obtain⟨T',B',a',b',m',e2,p1,p2⟩:=aaP (L:=L) l (T*(x.den:Int)+x.num*B) (B*(x.den:Int)) (k+20) (.fz<|.int x.num) (.fz<|.int (x.den:Int)) (λy hy=>hx y<|ah _ hy) hB' hk' (by omega);refine⟨T',B',a',b',?_⟩;by_cases q:0<x.num
  ·rw[if_pos q] at e1;refine⟨m',?_,p1,?_⟩
   ·rw[aE,bI (m1:=[L,.fz<|.int T,.fz<|.int B,.fz<|.int x.num,.fz<|.int (x.den:Int)]) rfl e1,e2,ui,decide_eq_true q,Bool.true_and]
   ·rw[p2,KQ hB,AU,AV]
  ·rw[if_neg q] at e1;refine⟨Me.let [L,.fz<|.int T,.fz<|.int B,.fz<|.int x.num,.fz<|.int (x.den:Int)],?_,p1,?_⟩
   ·rw[aE,wH (m1:=[L,.fz<|.int T,.fz<|.int B,.fz<|.int x.num,.fz<|.int (x.den:Int)]) rfl e1,if_neg<|by simp[q]]
   ·rw[p2,KQ hB,AU,AV]
def vd (x:Xn):D:=match x.2.2 with
 |[w]=>.tup [.str "no shares",w]
 |[a,b]=>if x.1 = "Unlike" then .tup [.str "unlike",a,b] else .tup [.str "forgets",a,b]
 |_=>.tup [.str "too great"]
def vG (g:Gm):D:=if Jx g=true then .tup [.str "too great"] else match scan (P g) [] with
 |some x=>vd x
 |none=>.tup [.str "table",.lst<|tb g]
theorem aaS {a b:Sl}:∀(w:List Int) (s:Sl),∃s',bO (hName 2) xq (w.map D.int) [a,b,s]=.ok (.nx,[a,b,s'])
 |[],s=>⟨s,rfl⟩
 |i::w,s=>by
  obtain⟨s',e⟩:=aaS (a:=a) (b:=b) w<|.fz<|.int i;exact⟨s',by rw[aE,bI (m1:=[a,b,.fz<|.int i]) rfl (m2:=[a,b,.fz<|.int i]) rfl,e]⟩
theorem adY {a s:Sl}(w:List Int):∃s',oh [a,.fz<|wy w,s]=.ok (.nx,[a,.fz<|wy w,s']):=by
 obtain⟨s',e⟩:=aaS (a:=a) (b:=.fz<|wy w) w s;have eL:rN [a,.fz<|wy w,s]=.ok (.nx,[a,.fz<|wy w,s']):=by
  unfold rN eQ;have ei:jk (aK 1) [a,.fz<|wy w,s]=.ok (w.map D.int):=by simp[jk,aK,wy]
  rw[ei];exact e
 refine⟨s',?_⟩;have e1:gIf (dJ<|fTv<|wF "tuple" (aa 1)) (bc<|fC<|.bl false) gNx [a,.fz<|wy w,s]=.ok (.nx,[a,.fz<|wy w,s]):=rfl;unfold oh;rw[gs e1];exact eL
theorem O9 {a:Sl}:∀(ws:List (List Int)) (b s:Sl),∃b' s',bO (hName 1) oh (ws.map wy) [a,b,s]=.ok (.nx,[a,b',s'])
 |[],b,s=>⟨b,s,rfl⟩
 |w::ws,b,s=>by
  obtain⟨s1,e1⟩:=adY (a:=a) (s:=s) w;obtain⟨b',s',e⟩:=O9 (a:=a) ws (.fz<|wy w) s1;exact⟨b',s',by rw[aE,bI (m1:=[a,.fz<|wy w,s]) rfl e1,e]⟩
theorem HB (ws:List (List Int)):eX [.lst<|ws.map wy]=.ok (false,.bl true):=by
 obtain⟨b,s,e⟩:=O9 (a:=.fz<|.lst<|ws.map wy) ws .un .un;have eL:rQ [.fz<|.lst<|ws.map wy,.un,.un]=.ok (.nx,[.fz<|.lst<|ws.map wy,b,s]):=by
  unfold rQ eQ;have ei:cZ (aK 0) [.fz<|.lst<|ws.map wy,.un,.un]=.ok (ws.map wy):=by simp[cZ,aK]
  rw[ei];exact e
 simp[eX,vH,v5,aX,aL,eL,bc,Me.let,Sl.let,fC]
abbrev xS (w:List Int):Xn:=("NoShares",["way"],[wy w])
abbrev xU (a b:List Int):Xn:=("Unlike",["one", "other"],[wy a,wy b])
abbrev xF (a b:List Int):Xn:=("Forgets",["one", "other"],[wy a,wy b])
theorem acT:dh [.exc "TooGreat" [] []]=.ok (false,.tup [.str "too great"]):=by rfl
theorem acM {a b c d:D}:atI [a,b,c,d] 0=some a:=rfl
theorem acA {a b c d:D}:atI [a,b,c,d] 1=some b:=rfl
theorem adE {a b c d:D}:atI [a,b,c,d] 2=some c:=rfl
theorem afZ {a b c d:D}:atI [a,b,c,d] 3=some d:=rfl
theorem lk2 {a b:D}:ia (cy "other") [(cy "one",a),(cy "other",b)]=some b:=rfl
theorem aeW (w:List Int):dh [.exc "NoShares" ["way"] [wy w]]=.ok (false,vd<|xS w):=by
 have e':eX [.lst [wy w]]=.ok (false,.bl true):=HB [w];show _=Res.ok (false,D.tup [.str "no shares",wy w]);unfold dh jx;generalize eX=φ at e' ⊢;generalize wy w=d at e' ⊢;simp[jl,aX,aL,bu,gO,aj,aC,DR,iM,iB,kO,jn,aa,gIf,dY,fTv,Ek,lg,lr,ju,dJ,GZ,fG,aJ,aR,Jg,qw,fC,gNx,az,gIx,ji,fFn,qZ,wI,e',bc,Me.let,Sl.let,bJ,acM,acA]
theorem aeA (u v:List Int):dh [.exc "Unlike" ["one", "other"] [wy u,wy v]]=.ok (false,vd<|xU u v):=by
 show _=Res.ok (false,D.tup [.str "unlike",wy u,wy v]);have e':eX [.lst [wy u,wy v]]=.ok (false,.bl true):=HB [u,v];unfold dh jx;generalize eX=φ at e' ⊢;generalize wy u=d at e' ⊢;generalize wy v=d' at e' ⊢;simp[jl,aX,aL,bu,gO,aj,aC,DR,iM,iB,kO,jn,aa,gIf,dY,fTv,Ek,lg,lr,ju,dJ,GZ,fG,aJ,aR,Jg,qw,fC,gNx,az,gIx,ji,fFn,qZ,pX,jB,e',bc,Me.let,Sl.let,bJ,acM,acA,adE,lk2]
theorem adn (u v:List Int):dh [.exc "Forgets" ["one", "other"] [wy u,wy v]]=.ok (false,vd<|xF u v):=by
 show _=Res.ok (false,D.tup [.str "forgets",wy u,wy v]);have e':eX [.lst [wy u,wy v]]=.ok (false,.bl true):=HB [u,v];unfold dh jx;generalize eX=φ at e' ⊢;generalize wy u=d at e' ⊢;generalize wy v=d' at e' ⊢;simp[jl,aX,aL,bu,gO,aj,aC,DR,iM,iB,kO,jn,aa,gIf,dY,fTv,Ek,lg,lr,ju,dJ,GZ,fG,aJ,aR,Jg,qw,fC,gNx,az,gIx,ji,fFn,qZ,pX,jB,e',bc,Me.let,Sl.let,bJ,acM,acA,adE,afZ,lk2]
def xk (x:Xn):Prop:=(∃w,x=xS w)\/(∃a b,x=xU a b)\/∃a b,x=xF a b
theorem aew {p:Tr}{F:List Fi}{x:Xn}(h:stp p F=.inl x):xk x:=by
 unfold stp at h;split at h
 ·cases h
 ·split at h
  ·cases h
  ·cases h;exact .inl ⟨_,rfl⟩
 ·split at h
  ·cases h
  ·split at h
   ·cases h;exact .inr<|.inl ⟨_,_,rfl⟩
   ·split at h
    ·cases h;exact .inr<|.inr ⟨_,_,rfl⟩
    ·cases h
theorem Nf:∀{l:List Tr} {F:List Fi} {x:Xn},scan l F=some x->xk x
 |[],_,_,h=>nomatch h
 |p::l,F,x,h=>by
  rw[scan] at h;cases q:stp p F with
  |inl y=>rw[q] at h;cases h;exact aew q
  |inr F'=>rw[q] at h;exact Nf h
theorem W8 (w:List Int):okD (wy w)=true/\gf (wy w)<=1:=by
 have h1:=vM (f:=D.int) (as:=w) λ_ _=>rfl;have h2:=tU (f:=D.int) (as:=w) (k:=0) λ_ _=>by simp[gf]
 exact⟨by simpa[wy,okD] using h1,by simp[wy,gf];omega⟩
theorem aaI {x:Xn}(h:xk x):∃d ds,vd x=.tup (d::ds)/\okD (vd x)=true/\gf (vd x)<=2:=by
 have a:=W8;rcases h with⟨w,rfl⟩|⟨u,v,rfl⟩|⟨u,v,rfl⟩
 ·have:=a w
  exact⟨_,_,rfl,by simp[vd,okD,qC,this.1];decide +kernel,by simp[vd,gf,iT];omega⟩
 ·have h1:=a u;have h2:=a v;have e:vd (xU u v)=.tup [.str "unlike",wy u,wy v]:=rfl;rw[e];exact⟨_,_,rfl,by simp[okD,qC,h1.1,h2.1];decide +kernel,by simp[gf,iT];omega⟩
 ·have h1:=a u;have h2:=a v;have e:vd (xF u v)=.tup [.str "forgets",wy u,wy v]:=rfl;rw[e];exact⟨_,_,rfl,by simp[okD,qC,h1.1,h2.1];decide +kernel,by simp[gf,iT];omega⟩
theorem ne_nil {d:D}{ds:List D}(h:okD (.tup (d::ds))=true)(hd:gf (.tup (d::ds))<=64):gNe (.tup (d::ds)) (.tup [])=some true:=by
 obtain⟨p,e,_⟩:=yS _ h;have e2:toPy (.tup [])=some (.tuple []):=by simp[toPy,mL]
 have e1:=m7 h (e:=.tup []) rfl hd (by simp[gf,iT]) e e2;show(mG _ _).map _=_;rw[e1]
 have:∃a as,p=.tuple (a::as):=by
  simp only[toPy,mL] at e;cases q1:toPy d with
  |none=>rw[q1] at e;cases e
  |some a=>
   rw[q1] at e;cases q2:mL ds with
   |none=>rw[q2] at e;cases e
   |some as=>rw[q2] at e;cases e;exact⟨a,as,rfl⟩
 obtain⟨a,as,rfl⟩:=this;simp[d5,ja]
theorem Nb {g:Gm}(W:Wf g):∀d∈tb g,MJ d/\okD d=true/\gf d<=3:=λd hd=>by
 rcases Hs (P g) ([],[]) d hd with e|⟨p,hp,s,n,ws,ep,rfl⟩
 ·cases e
 ·have hq:=W.q p hp;obtain⟨w,g',r⟩:=p;cases(show g'=.move s n ws from ep);obtain⟨hn,xs,el,hx⟩:=hq.w;obtain⟨rc,er,hr⟩:=QK hq.r s;have e:rM s n ws r=.tup [.int s,.str n,.tup<|xs.map D.str,.tup<|rc.map prD]:=by unfold rM;rw[el,er]
  have o1:=okS hx;have o2:=VG hr;have hl:(ik ws).length<=100:=by rw[qm];exact hq.l.1
  rw[el] at hl;refine⟨⟨s,n,_,_,e,λx hx'=>?_,by omega,λx hx'=>?_⟩,?_,?_⟩
  ·obtain⟨y,_,rfl⟩:=d3.mp hx';exact⟨y,rfl⟩
  ·obtain⟨y,_,rfl⟩:=d3.mp hx';exact⟨y.1,y.2,rfl⟩
  ·show okD (rM s n ws r)=true;rw[e];simp[okD,qC,o1.1,o2.1,(show g9 n=true from hn)]
  ·show gf (rM s n ws r)<=3;rw[e];simp[gf,iT];omega
theorem ae2 {g:Gm}(W:Wf g):okD (vG g)=true/\gf (vG g)<=64:=by
 unfold vG;split
 ·exact⟨by simp[okD,qC];decide +kernel,by simp[gf,iT]⟩
 ·split
  ·rename_i x q;obtain⟨_,_,_,h1,h2⟩:=aaI<|Nf q;exact⟨h1,by omega⟩
  ·have h1:=vM (f:=id) (as:=tb g) λd hd=>(Nb W d hd).2.1;have h2:=tU (f:=id) (as:=tb g) (k:=3) λd hd=>(Nb W d hd).2.2;rw[qS] at h1 h2;exact⟨by simp[okD,qC,h1];decide +kernel,by simp[gf,iT];omega⟩
theorem Lb {φ ψ τ:Zad}{g d:D}{c:Xn}{e:D}{es:List D}(h1:φ [g]=.exc c)(h2:dW c.1=true)(h3:ψ [.exc c.1 c.2.1 c.2.2]=.ok (false,.tup (e::es)))(h4:gNe (.tup (e::es)) (.tup [])=some true):
  aX 4 1 (lH φ τ ψ) [g]=.ok (false,.tup (e::es)):=by
 simp[lH,aX,aL,bu,fC,bJ,aC,SM,Kr,aj,aK,h1,h2,fFn,h3,gIf,aJ,aa,h4,bc,Me.let,Sl.let]
theorem Uh {φ ψ τ:Zad}{g d:D}(h1:φ [g]=.ok (true,d))(h2:τ [d]=.ok (false,.bl true)):aX 4 1 (lH φ τ ψ) [g]=.ok (false,.tup [.str "table",d]):=by
 have h4:gNe (.tup []) (.tup [])=some false:=WX rfl (by simp[gf,iT]);simp[lH,aX,aL,bu,fC,bJ,aC,SM,Kr,aj,aK,h1,h2,fFn,gIf,aJ,aa,h4,gNx,dJ,fTv,bc,Me.let,Sl.let]
theorem ZJ {g:Gm}(W:Wf g):o8 [dG g]=.ok (false,vG g):=by
 have e:=ZS W;unfold o8 wD vG;cases q:Jx g
 ·rw[q] at e;simp only[fT,if_false] at e ⊢;cases q2:scan (P g) [] with
  |none=>
   rw[q2] at e;exact Uh e<|Ve λd hd=>(Nb W d hd).1
  |some x=>
   rw[q2] at e;have hk:=Nf q2;obtain⟨d,ds,ed,o1,o2⟩:=aaI hk;simp only;rw[ed] at o1 o2 ⊢;refine Lb (d:=d) e ?_ ?_<|ne_nil o1<|by omega
   ·rcases hk with⟨w,rfl⟩|⟨u,v,rfl⟩|⟨u,v,rfl⟩
    ·exact(show dW "NoShares" = true by decide +kernel)
    ·exact(show dW "Unlike" = true by decide +kernel)
    ·exact(show dW "Forgets" = true by decide +kernel)
   ·rw[← ed];rcases hk with⟨w,rfl⟩|⟨u,v,rfl⟩|⟨u,v,rfl⟩
    ·exact aeW w
    ·exact aeA u v
    ·exact adn u v
 ·rw[q] at e;simp only[if_true] at e ⊢;refine Lb (d:=.non) e (by decide +kernel) acT (ne_nil ?_ ?_)
  ·simp[okD,qC];decide +kernel
  ·simp[gf,iT]
structure Wg (g:Gm)(d n:Nat):Prop where
 len:gP g
 sd:sdG g
 wf:wfG g
 dep:dp g<=d
 siz:szG g<=n
theorem Wg.mono {g:Gm}{d n d' n':Nat}(h:Wg g d n)(hd:d<=d')(hn:n<=n'):Wg g d' n':=⟨h.len,h.sd,h.wf,dr h.dep hd,dr h.siz hn⟩
theorem Wg.ok {g:Gm}{d n:Nat}(h:Wg g d n)(hd:d<=20)(hn:n<=1200):Wf g:=⟨h.len,h.sd,h.wf,dr h.dep hd,dr h.siz hn⟩
theorem W9 (q:Q2):Wg (.fin q) 0 1:=⟨eS,eS,eS,aI _,aI _⟩
theorem LR:∀L:List (D×Gm),(∀p∈L,wfG p.2)->wfW (ofL L)
 |[],_=>eS
 |p::L,h=>⟨h p ar,LR L λq hq=>h q<|ah _ hq⟩
theorem Nt {n:Nat}:∀L:List (D×Gm),(∀p∈L,szG p.2<=n)->szL L<=L.length*n
 |[],_=>by simp[szL]
 |p::L,h=>by
  have e:=Nt L λq hq=>h q<|ah _ hq
  have:=h p ar
  rw[show szL (p::L)=szG p.2+szL L by simp[szL],cK,Nat.add_mul];omega
theorem YX {nm:Str}{L:List (D×Gm)}{d n:Nat}(hn:Nm nm)(hl:L.length<=66)(h:∀p∈L,Wg p.2 d n/\∃x:Rat,p.1=rD x/\Sz 20 x):Wg (.deal nm<|ofL L) (d+1) (L.length*n+1) where
 len:=⟨by rw[HR];omega,CV L λp hp=>(h p hp).1.len⟩
 sd:=Mm L λp hp=>(h p hp).1.sd
 wf:=⟨⟨hn,by
  have:∃l:List Rat,L.map (·.1)=l.map rD/\(∀x∈l,Sz 20 x)/\l.length=L.length:=by
   clear hl;induction L with
   |nil=>exact⟨[],rfl,λ_ z=>(nomatch z),rfl⟩
   |cons p L ih=>
    obtain⟨l,e1,e2,e3⟩:=ih λq hq=>h q<|ah _ hq;obtain⟨x,hx,hs⟩:=(h p ar).2;exact⟨x::l,by simp[e1,hx],λy hy=>by
     rcases bE.mp hy with rfl|z
     ·exact hs
     ·exact e2 y z,by simp[e3]⟩
  obtain⟨l,e1,e2,e3⟩:=this;exact⟨l,by rw[Hz,e1],e2,by omega⟩⟩,LR L λp hp=>(h p hp).1.wf⟩
 dep:=oC<|Mv L λp hp=>(h p hp).1.dep
 siz:=oC (by rw[Lq];exact Nt L λp hp=>(h p hp).1.siz)
theorem ZZ {s:Int}{nm:Str}{L:List (D×Gm)}{d n:Nat}(hs:s=1\/s=2)(hn:Nm nm)(hl:L.length<=66)(h:∀p∈L,Wg p.2 d n/\∃x:Str,p.1=.str x/\Nm x):Wg (.move s nm<|ofL L) (d+1) (L.length*n+1) where
 len:=⟨by rw[HR];omega,CV L λp hp=>(h p hp).1.len⟩
 sd:=⟨hs,Mm L λp hp=>(h p hp).1.sd⟩
 wf:=⟨⟨hn,by
  have:∃l:List Str,L.map (·.1)=l.map D.str/\(∀x∈l,Nm x):=by
   clear hl;induction L with
   |nil=>exact⟨[],rfl,λ_ z=>(nomatch z)⟩
   |cons p L ih=>
    obtain⟨l,e1,e2⟩:=ih λq hq=>h q<|ah _ hq;obtain⟨x,hx,hs⟩:=(h p ar).2;exact⟨x::l,by simp[e1,hx],λy hy=>by
     rcases bE.mp hy with rfl|z
     ·exact hs
     ·exact e2 y z⟩
  obtain⟨l,e1,e2⟩:=this;exact⟨l,by rw[Hz,e1],e2⟩⟩,LR L λp hp=>(h p hp).1.wf⟩
 dep:=oC<|Mv L λp hp=>(h p hp).1.dep
 siz:=oC (by rw[Lq];exact Nt L λp hp=>(h p hp).1.siz)
def iv (n:Nat):Rat:=⟨1,n+1,by omega,by simp⟩
theorem mH {k:Nat}{cap:List Nat}{fi:Zae}{h:Zbb}{ft:Zba}{fe:Zaf}{m:Me}{ds ys:List D}(h1:fi m=.ok ds)(hz:ds.length<=100000)(h2:dZ h ft fe (cMe k cap m) ds=.ok ys):cD k cap fi h ft fe m=.ok (.lst ys):=by
 have z:ds.length<=16777216:=by omega
 simp[cD,h1,z,h2]
theorem afK (x:Int):1+x%2=1\/1+x%2=2:=by omega
def sKs:List Key:=[sk "at",sk "room",sk "pool",sk "turn",sk "level"]
def sD (e:En)(a r:Int):D:=.dct sKs [.int a,.int r,.lst<|e.pool.map D.str,.int e.turn,.bl e.lev]
theorem afN (e:En)(a r:Int):lN (sD e a r) (.str "at")=some (.int a):=by simp[lN,sD,sKs,Bc,CG,sk]
theorem abh (e:En)(a r:Int):lN (sD e a r) (.str "room")=some (.int r):=by simp[lN,sD,sKs,Bc,CG,sk]
theorem Uo (e:En)(a r:Int):lN (sD e a r) (.str "pool")=some (.lst<|e.pool.map D.str):=by simp[lN,sD,sKs,Bc,CG,sk]
theorem T9 (e:En)(a r:Int):lN (sD e a r) (.str "turn")=some (.int e.turn):=by simp[lN,sD,sKs,Bc,CG,sk]
theorem ZP (e:En)(a r:Int):lN (sD e a r) (.str "level")=some (.bl e.lev):=by simp[lN,sD,sKs,Bc,CG,sk]
theorem afs {fk fv:Zaf}{m:Me}{e:En}{a r a':Int}{i:Nat}(h:m[i]? = some (.io<|sD e a r))(hk:fk m=.ok (.str "at"))(hv:fv m=.ok (.int a')):BZ i fk fv m=.ok (.nx,m.set i<|.io<|sD e a' r):=by
 have ho:Ms m i=some (false,sKs,[.int a,.int r,.lst<|e.pool.map D.str,.int e.turn,.bl e.lev]):=by
  unfold Ms;rw[h];rfl
 unfold BZ;rw[hv,ho];simp[hk,Bc,TV,putD,sKs,sk,Gh,sD]
theorem abR {fk fv:Zaf}{m:Me}{e:En}{a r r':Int}{i:Nat}(h:m[i]? = some (.io<|sD e a r))(hk:fk m=.ok (.str "room"))(hv:fv m=.ok (.int r')):BZ i fk fv m=.ok (.nx,m.set i<|.io<|sD e a r'):=by
 have ho:Ms m i=some (false,sKs,[.int a,.int r,.lst<|e.pool.map D.str,.int e.turn,.bl e.lev]):=by
  unfold Ms;rw[h];rfl
 unfold BZ;rw[hv,ho];simp[hk,Bc,TV,putD,sKs,sk,Gh,sD]
def mx3:Nat->Nat
 |0=>1
 |d+1=>3*mx3 d+1
theorem QJ:∀d,1<=mx3 d
 |0=>aI _
 |d+1=>by unfold mx3;omega
abbrev Bi:=List D->D->Res (D×D)
def Gv (e:En)(R:Res (D×D))(d:Nat):Prop:=∃(g:Gm) (a' r':Int),R=.ok (dG g,sD e a' r')/\0<=a'/\Wg g d (mx3 d)
def Sp (e:En)(Φ:Bi)(d:Nat):Prop:=∀a r:Int,0<=a->Gv e (Φ [.lst<|e.cells.map D.int,.int (d:Int)]<|sD e a r) d
theorem aeu {e:En}{Φ:Bi}{d:Nat}(hΦ:Sp e Φ d){w s4 s5:Sl}{P:List D}{x:D}{a r:Int}(ha:0<=a)(hP:P.length<=100):∃(g:Gm) (a' r':Int),jN Φ [.fz<|.lst<|e.cells.map D.int,.io<|sD e a r,.fz<|.int ((d+1:Nat):Int),w,s4,s5,.ow<|.lst P,.fz x]=.ok (.nx,[.fz<|.lst<|e.cells.map D.int,.io<|sD e a' r',.fz<|.int ((d+1:Nat):Int),w,s4,s5,.ow<|.lst<|P++[.tup [x,dG g]],.fz x])/\0<=a'/\Wg g d (mx3 d):=by
 obtain⟨g,a',r',e1,h1,G⟩:=hΦ a r ha;refine⟨g,a',r',?_,h1,G⟩;have z1:P.length<16777216:=by omega
 have e2:((d+1:Nat):Int)-1=(d:Int):=by omega
 generalize((d+1:Nat):Int)=J at *;generalize D.lst (e.cells.map D.int)=Z at *;generalize dG g=Z2 at *;generalize sD e a r=S1 at *;generalize sD e a' r'=S2 at *;simp[jN,wj,pB,J4,yh,fX,aK,tK,Jp,aj,aC,az,aa,fC,F.lV,e2,e1,Nv,Kg,z1,putL]
theorem aax {e:En}{Φ:Bi}{d:Nat}(hΦ:Sp e Φ d){w s4 s5:Sl}:∀(xs:List D) (P:List D) (s7:Sl) (a r:Int),0<=a->P.length+xs.length<=100->∃(L:List (D×Gm)) (a' r':Int) (s7':Sl),bO (hName 7) (jN Φ) xs [.fz<|.lst<|e.cells.map D.int,.io<|sD e a r,.fz<|.int ((d+1:Nat):Int),w,s4,s5,.ow<|.lst P,s7]=.ok (.nx,[.fz<|.lst<|e.cells.map D.int,.io<|sD e a' r',.fz<|.int ((d+1:Nat):Int),w,s4,s5,.ow<|.lst<|P++dWs (ofL L),s7'])/\0<=a'/\L.map (·.1)=xs/\∀p∈L,Wg p.2 d (mx3 d)
 |[],P,s7,a,r,ha,_=>⟨[],a,r,s7,by simp[ofL,dWs];rfl,ha,rfl,λ_ z=>(nomatch z)⟩
 |x::xs,P,s7,a,r,ha,hz=>by
  have hz:P.length+(xs.length+1)<=100:=hz;obtain⟨g,a1,r1,e1,h1,G⟩:=aeu hΦ (w:=w) (s4:=s4) (s5:=s5) (P:=P) (x:=x) (r:=r) ha (by omega);obtain⟨L,a2,r2,s',e2,h2,hL,hG⟩:=aax hΦ (w:=w) (s4:=s4) (s5:=s5) xs (P++[.tup [x,dG g]]) (.fz x) a1 r1 h1 (by simp;omega);refine⟨(x,g)::L,a2,r2,s',?_,h2,by simp[hL],λp hp=>?_⟩
  ·rw[bI rfl e1,e2];simp[ofL,dWs]
  ·rcases bE.mp hp with rfl|z
   ·exact G
   ·exact hG p z
theorem aeM {e:En}(E:Iu e)(i:Int):∃x:Str,atI (e.pool.map D.str) (i%8)=some (.str x)/\Nm x:=by
 have h:=Rp E (i:=i%8) (by omega);exact⟨_,h,Qf E _<|by omega⟩
theorem aef {Φ:Bi}{s0 s1 s2 s3 s5 s6 s7:Sl}{n:Nat}(h:1<=n/\n<=3):uc Φ [s0,s1,s2,s3,.fz<|.int (n:Int),s5,s6,s7]=.ok (.lst<|(bP n<|bX 1 (n:Int)).map rD):=by
 have e1:(aj (aa 4) aC) [s0,s1,s2,s3,.fz<|.int (n:Int),s5,s6,s7]=.ok [.int (n:Int)]:=by simp[aj,aC,aa]
 have e2:=RG e1 (by omega) (by omega);have el:=Ub (t:=1) (b:=(n:Int)) (by omega)<|bgS (by omega);have ec:dZ (hName 0) gV (nO Φ) [.un,.fz<|.int (n:Int)] ((cx n).map λ(k:Nat)=>D.int k)=.ok ((cx n).map λ_=>rD<|bX 1 (n:Int)):=fB _ λj _=>by
  refine⟨[.fz<|.int j,.fz<|.int (n:Int)],rfl,rfl,?_⟩;simp[nO,fFn,aj,aC,fC,aK,el]
 refine(mH e2 (by simp;omega) ec).trans ?_;rw[List.map_const',List.map_replicate]
 simp
theorem four {i:Int}:∃x:Rat,atI [.tup [.int 0,.int 1],.tup [.int 1,.int 5],.tup [.int (-1),.int 2],.tup [.int 2,.int 3]] (i%4)=some (rD x)/\Sz 20 x:=by
 have s:∀t b:Int,b≠0->t.natAbs<100->b.natAbs<100->Sz 20 (bX t b):=λt b h0 h1 h2=>Mj h0 (br h1<|by decide)<|br h2 (by decide);obtain⟨k,hk⟩:∃k:Nat,(k:Int)=i%4:=⟨(i%4).toNat,by omega⟩;rw[← hk]
 match k,(show k<4 by omega) with
 |0,_=>exact⟨bX 0 1,rfl,s 0 1 (by decide) (by decide)<|by decide⟩
 |1,_=>exact⟨bX 1 5,rfl,s 1 5 (by decide) (by decide)<|by decide⟩
 |2,_=>exact⟨bX (-1) 2,rfl,s (-1) 2 (by decide) (by decide)<|by decide⟩
 |3,_=>exact⟨bX 2 3,rfl,s 2 3 (by decide) (by decide)<|by decide⟩
theorem ac6 {n:Nat}{i:Int}(h0:0<=i)(h:i<n):ixN n i=some i.toNat:=by
 unfold ixN;rw[if_pos h0,if_pos<|by omega]
theorem OD {g:Zac}{Z S J w r S':D}{N:Nat}{m':Me}{f:Bool}(e:g ([.fz Z,.io S,.fz J,.fz w]++bP (N-4) .un)=.ok (.rt f r,m'))(h:m'[1]? = some (.io S')):pA 1 N 4 g [Z,J,w] S=.ok (r,S'):=by
 have e:g (pY 1 (.io S) ([Z,J,w].map Sl.fz)++bP (N-4) .un)=.ok (.rt f r,m'):=e;unfold pA;rw[if_pos (by rfl:[Z,J,w].length+1=4),e];simp[An,h]
theorem gl {i:Nat}{k:Zac}{m:Me}{d:D}(h:m[i]? = some (.ow d)):V3 i k m=k (m.set i<|.fz d):=by simp[V3,h]
theorem aas {n:Nat}(h:1<=n/\n<=3):∀x∈bP n (bX 1 (n:Int)),Sz 20 x:=λx hx=>by
 rw[(List.mem_replicate.mp hx).2];exact Mj (by omega) (by decide)<|Nat.lt_of_le_of_lt (show(n:Int).natAbs<=3 by omega) (by decide)
theorem YG {e:En}(E:Iu e){Φ:Bi}{d:Nat}(hΦ:Sp e Φ d){w a r:Int}(ha:0<=a):Gv e (eE Φ [.lst<|e.cells.map D.int,.int ((d+1:Nat):Int),.int w]<|sD e a r) (d+1):=by
 obtain⟨n,hn,en⟩:∃n:Nat,(1<=n/\n<=3)/\(n:Int)=1+w/16%3:=⟨(1+w/16%3).toNat,by omega,by omega⟩;have b16:Bq 16:=bgS (by decide);have b48:Bq 48:=bgS (by decide);have b768:Bq 768:=bgS (by decide);have b3072:Bq 3072:=bgS (by decide);obtain⟨nm,e8,hnm⟩:=aeM E<|w/768;obtain⟨ys,hy1,hy2,eif⟩:∃ys:List Rat,ys.length=n/\(∀y∈ys,Sz 20 y)/\∀Z S J:D,(gIf (aJ gEq (az cI (az gJ (aa 3)<|fC<|.int 48)<|fC<|.int 16)<|fC<|.int 3) (yj 5 (az cI (az gJ (aa 3)<|fC<|.int 768)<|aa 4)<|az gIx (gO<|aj (bJ<|aj (fC<|.int 0)<|aj (fC<|.int 1) aC)<|aj (bJ<|aj (fC<|.int 1)<|aj (fC<|.int 5) aC)<|aj (bJ<|aj (fUn vO<|fC<|.int 1)<|aj (fC<|.int 2) aC)<|aj (bJ<|aj (fC<|.int 2)<|aj (fC<|.int 3) aC) aC)<|az cI (az gJ (aa 3)<|fC<|.int 3072)<|fC<|.int 4) gNx)
   [.fz Z,.io S,.fz J,.fz<|.int w,.fz<|.int (n:Int),.ow<|.lst<|(bP n<|bX 1 (n:Int)).map rD,.un,.un]=.ok (.nx,[.fz Z,.io S,.fz J,.fz<|.int w,.fz<|.int (n:Int),.ow<|.lst<|ys.map rD,.un,.un]):=by
  by_cases h:w/48%16=3
  ·obtain⟨x,hx,sx⟩:=four (i:=w/3072);have h0:0<=w/768%(n:Int):=qE _ (by omega);have h1:w/768%(n:Int)<n:=mE _ (by omega);have hi:=ac6 h0 h1;have hnz:¬(n:Int)=0:=by omega
   have hp:0<(n:Int):=by omega
   refine⟨(bP n<|bX 1 (n:Int)).set (w/768%(n:Int)).toNat x,by simp,λy hy=>?_,λZ S J=>?_⟩
   ·rcases List.mem_or_eq_of_mem_set hy with z|z
    ·exact aas hn y z
    ·rw[z];exact sx
   ·rw[List.map_set];have hi:ixN ((bP n<|bX 1 (n:Int)).map rD).length (w/768%(n:Int))=some (w/768%(n:Int)).toNat:=by simpa using hi
    generalize(bP n<|bX 1 (n:Int)).map rD=Y at *;generalize(n:Int)=N at *;simp[gIf,aJ,az,aa,fC,gJ,dvI,b48,cI,mdI,h,yj,gIx,gO,bJ,aj,aC,fUn,vO,b3072,b768,hx,pB,hnz,hp,hi,putL]
  ·refine⟨bP n<|bX 1 (n:Int),by simp,aas hn,λZ S J=>?_⟩;generalize(bP n<|bX 1 (n:Int)).map rD=Y at *;simp[gIf,aJ,az,aa,fC,gJ,dvI,b48,cI,mdI,h,gNx]
 obtain⟨L,a',r',s7,eL,ha',hL,hG⟩:=aax hΦ (w:=.fz<|.int w) (s4:=.fz<|.int (n:Int)) (s5:=.fz<|.lst<|ys.map rD) (ys.map rD) [] .un a r ha (by simp;omega);have ω:L.length=n:=by rw[← hy1];simpa using congrArg kS hL
 refine⟨.deal nm<|ofL L,a',r',?_,ha',(YX (d:=d) (n:=mx3 d) hnm (by omega) λp hp=>⟨hG p hp,?_⟩).mono (aI _) ?_⟩
 ·have eq2:=aef (Φ:=Φ) (s0:=.fz<|.lst<|e.cells.map D.int) (s1:=.io<|sD e a r) (s2:=.fz<|.int ((d+1:Nat):Int)) (s3:=.fz<|.int w) (s5:=.un) (s6:=.un) (s7:=.un) hn;have eif:=eif (.lst<|e.cells.map D.int) (sD e a r)<|.int ((d+1:Nat):Int);have e4:nP Φ [.fz<|.lst<|e.cells.map D.int,.io<|sD e a r,.fz<|.int ((d+1:Nat):Int),.fz<|.int w,.fz<|.int (n:Int),.fz<|.lst<|ys.map rD,.ow<|.lst [],.un]=.ok (.nx,[.fz<|.lst<|e.cells.map D.int,.io<|sD e a' r',.fz<|.int ((d+1:Nat):Int),.fz<|.int w,.fz<|.int (n:Int),.fz<|.lst<|ys.map rD,.ow<|.lst<|dWs<|ofL L,s7]):=by
   have ei:cZ (aK 5) [.fz<|.lst<|e.cells.map D.int,.io<|sD e a r,.fz<|.int ((d+1:Nat):Int),.fz<|.int w,.fz<|.int (n:Int),.fz<|.lst<|ys.map rD,.ow<|.lst [],.un]=.ok (ys.map rD):=by simp[cZ,aK]
   unfold nP eQ;rw[ei];exact eL
  have sp:=Uo e a' r';show eE Φ [.lst<|e.cells.map D.int,.int ((d+1:Nat):Int),.int w] (sD e a r)=.ok (.tup [.str "deal",.str nm,.tup<|dWs<|ofL L],sD e a' r');generalize D.lst (e.cells.map D.int)=Z at *;generalize D.int ((d+1:Nat):Int)=J at *;generalize sD e a r=S1 at *;generalize sD e a' r'=S2 at *;generalize dWs (ofL L)=Z3 at *;generalize ys.map rD=Y at *;generalize(bP n<|bX 1 (n:Int)).map rD=Y0 at *;refine OD (N:=8) (m':=Me.let [.fz Z,.io S2,.fz J,.fz<|.int w,.fz<|.int (n:Int),.fz<|.lst Y,.ow<|.lst Z3,s7]) (f:=false) ?_ rfl;show lX _ _ [.fz Z,.io S1,.fz J,.fz<|.int w,.un,.un,.un,.un]=_;unfold lX;refine(gs (m1:=[.fz Z,.io S1,.fz J,.fz<|.int w,.fz<|.int (n:Int),.un,.un,.un])<|by simp[bu,az,fC,aa,gJ,dvI,b16,cI,mdI,eN,en]).trans ?_;refine(gs (m1:=[.fz Z,.io S1,.fz J,.fz<|.int w,.fz<|.int (n:Int),.ow<|.lst Y0,.un,.un])<|by simp[gQ,eq2]).trans ?_;refine(gs eif).trans ?_;refine(gl (d:=.lst Y) rfl).trans ?_;refine(gs (m:=[.fz Z,.io S1,.fz J,.fz<|.int w,.fz<|.int (n:Int),.fz<|.lst Y,.un,.un]) (m1:=[.fz Z,.io S1,.fz J,.fz<|.int w,.fz<|.int (n:Int),.fz<|.lst Y,.ow<|.lst [],.un])<|by simp[gQ,gO,aC]).trans ?_;refine(gs e4).trans ?_;simp[bc,Me.let,Sl.let,bJ,aj,aC,fC,az,aa,sp,gIx,gJ,dvI,b768,cI,mdI,e8,aR,nM]
 ·have:p.1∈ys.map rD:=by rw[← hL];exact d3.mpr ⟨p,hp,rfl⟩
  obtain⟨y,hy,e⟩:=d3.mp this;exact⟨y,e.symm,hy2 y hy⟩
 ·have:=ze (mx3 d) (show L.length<=3 by omega)
  show _<=3*mx3 d+1;omega
theorem ae4 {e:En}{Φ:Bi}{d:Nat}(hΦ:Sp e Φ d){w s4 s5 s6 s7:Sl}{P:List D}{x:D}{a r:Int}(ha:0<=a)(hP:P.length<=100):∃(g:Gm) (a' r':Int),jF Φ [.fz<|.lst<|e.cells.map D.int,.io<|sD e a r,.fz<|.int ((d+1:Nat):Int),w,s4,s5,s6,s7,.ow<|.lst P,.fz x]=.ok (.nx,[.fz<|.lst<|e.cells.map D.int,.io<|sD e a' r',.fz<|.int ((d+1:Nat):Int),w,s4,s5,s6,s7,.ow<|.lst<|P++[.tup [x,dG g]],.fz x])/\0<=a'/\Wg g d (mx3 d):=by
 obtain⟨g,a',r',e1,h1,G⟩:=hΦ a r ha;refine⟨g,a',r',?_,h1,G⟩;have z1:P.length<16777216:=by omega
 have e2:((d+1:Nat):Int)-1=(d:Int):=by omega
 generalize((d+1:Nat):Int)=J at *;generalize D.lst (e.cells.map D.int)=Z at *;generalize dG g=Z2 at *;generalize sD e a r=S1 at *;generalize sD e a' r'=S2 at *;simp[jF,wj,pB,J4,yh,fX,aK,tK,Jp,aj,aC,az,aa,fC,F.lV,e2,e1,Nv,Kg,z1,putL]
theorem aaB {e:En}{Φ:Bi}{d:Nat}(hΦ:Sp e Φ d){w s4 s5 s6 s7:Sl}:∀(xs:List D) (P:List D) (s9:Sl) (a r:Int),0<=a->P.length+xs.length<=100->∃(L:List (D×Gm)) (a' r':Int) (s9':Sl),bO (hName 9) (jF Φ) xs [.fz<|.lst<|e.cells.map D.int,.io<|sD e a r,.fz<|.int ((d+1:Nat):Int),w,s4,s5,s6,s7,.ow<|.lst P,s9]=.ok (.nx,[.fz<|.lst<|e.cells.map D.int,.io<|sD e a' r',.fz<|.int ((d+1:Nat):Int),w,s4,s5,s6,s7,.ow<|.lst<|P++dWs (ofL L),s9'])/\0<=a'/\L.map (·.1)=xs/\∀p∈L,Wg p.2 d (mx3 d)
 |[],P,s7,a,r,ha,_=>⟨[],a,r,s7,by simp[ofL,dWs];rfl,ha,rfl,λ_ z=>(nomatch z)⟩
 |x::xs,P,s9,a,r,ha,hz=>by
  have hz:P.length+(xs.length+1)<=100:=hz;obtain⟨g,a1,r1,e1,h1,G⟩:=ae4 hΦ (w:=w) (s4:=s4) (s5:=s5) (s6:=s6) (s7:=s7) (P:=P) (x:=x) (r:=r) ha (by omega);obtain⟨L,a2,r2,s',e2,h2,hL,hG⟩:=aaB hΦ (w:=w) (s4:=s4) (s5:=s5) (s6:=s6) (s7:=s7) xs (P++[.tup [x,dG g]]) (.fz x) a1 r1 h1 (by simp;omega);refine⟨(x,g)::L,a2,r2,s',?_,h2,by simp[hL],λp hp=>?_⟩
  ·rw[bI rfl e1,e2];simp[ofL,dWs]
  ·rcases bE.mp hp with rfl|z
   ·exact G
   ·exact hG p z
theorem ae8 {e:En}(E:Iu e){Φ:Bi}{a r k:Int}{n:Nat}{s0 s2 s3 s7 s8 s9:Sl}(hn:n<=3)(hk:0<=k/\k<=2):∃ws:List Str,tZ Φ [s0,.io<|sD e a r,s2,s3,.fz<|.int k,.fz<|.int (n:Int),.fz<|.lst<|e.pool.map D.str,s7,s8,s9]=.ok (.lst<|ws.map D.str)/\ws.length=n/\∀x∈ws,Nm x:=by
 have e1:(aj (aa 5) aC) [s0,.io<|sD e a r,s2,s3,.fz<|.int k,.fz<|.int (n:Int),.fz<|.lst<|e.pool.map D.str,s7,s8,s9]=.ok [.int (n:Int)]:=by
  generalize sD e a r=S1;simp[aj,aC,aa]
 have e2:=RG e1 (by omega) (by omega);have ht:=T9 e a r;have ec:dZ (hName 0) gV (nJ Φ) [.un,.fz<|.lst<|e.pool.map D.str,.fz<|.int k,.bw<|sD e a r] ((cx n).map λ(j:Nat)=>D.int j)=.ok ((cx n).map λ(j:Nat)=>D.str<|e.pool.getD ((k+2*(j:Int)+e.turn)%8).toNat ⟨#[]⟩):=fB _ λj hj=>by
  have hj:=js.mp hj;refine⟨[.fz<|.int j,.fz<|.lst<|e.pool.map D.str,.fz<|.int k,.bw<|sD e a r],rfl,rfl,?_⟩;have e3:=Rp E (i:=(k+2*(j:Int)+e.turn)%8) (by omega);have m1:pZ (.int 2) (.int (j:Int))=some (.int<|2*(j:Int)):=if_pos<|.inr (by simp;omega);generalize sD e a r=S1 at *;generalize e.pool.getD ((k+2*(j:Int)+e.turn)%8).toNat ⟨#[]⟩=Z at *;generalize e.pool.map D.str=Z2 at *;simp[nJ,az,aa,fC,gIx,m1,eN,ht,cI,mdI,e3]
 refine⟨(cx n).map λ(j:Nat)=>e.pool.getD ((k+2*(j:Int)+e.turn)%8).toNat ⟨#[]⟩,?_,by simp,λx hx=>?_⟩
 ·refine(mH e2 (by simp;omega) ec).trans ?_;rw[gv];rfl
 ·obtain⟨j,_,rfl⟩:=d3.mp hx;exact Qf E _<|by omega
theorem Ze {e:En}(E:Iu e){Φ:Bi}{d:Nat}(hΦ:Sp e Φ d){w a r:Int}(ha:0<=a):Gv e (d7 Φ [.lst<|e.cells.map D.int,.int ((d+1:Nat):Int),.int w]<|sD e a r) (d+1):=by
 have b16:Bq 16:=bgS (by decide);have b48:Bq 48:=bgS (by decide);have b768:Bq 768:=bgS (by decide);have b8:Bq 8:=bgS (by decide);obtain⟨k,hk,ek⟩:∃k:Int,(0<=k/\k<=2)/\k=if e.lev=true then((d+1:Nat):Int)%3 else w/16%3:=⟨_,by split<;>omega,rfl⟩
 obtain⟨n,hn,en⟩:∃n:Nat,(1<=n/\n<=3)/\(n:Int)=if w/48%16=5 then 1+w/768%3 else 1+k:=⟨(if w/48%16=5 then 1+w/768%3 else 1+k).toNat,by split<;>omega,by split<;>omega⟩
 obtain⟨ws,ew,hw1,hw2⟩:=ae8 E (Φ:=Φ) (a:=a) (r:=r) (k:=k) (n:=n) (s0:=.fz<|.lst<|e.cells.map D.int) (s2:=.fz<|.int ((d+1:Nat):Int)) (s3:=.fz<|.int w) (s7:=.un) (s8:=.un) (s9:=.un) hn.2 hk;obtain⟨us,hu1,hu2,eu⟩:∃us:List Str,us.length=n/\(∀x∈us,Nm x)/\us=if w/48%16=6 then ws.reverse else ws:=⟨_,by split<;>simp[hw1],λx hx=>by
  split at hx
  ·exact hw2 x<|List.mem_reverse.mp hx
  ·exact hw2 x hx,rfl⟩
 obtain⟨nm,e8,hnm⟩:=aeM E<|3*k+e.turn/8;obtain⟨L,a',r',s9,eL,ha',hL,hG⟩:=aaB hΦ (w:=.fz<|.int w) (s4:=.fz<|.int k) (s5:=.fz<|.int (n:Int)) (s6:=.fz<|.lst<|e.pool.map D.str) (s7:=.fz<|.lst<|us.map D.str) (us.map D.str) [] .un a r ha (by simp;omega);have ω:L.length=n:=by rw[← hu1];simpa using congrArg kS hL
 refine⟨.move (1+w%2) nm<|ofL L,a',r',?_,ha',(ZZ (d:=d) (n:=mx3 d) (afK w) hnm (by omega) λp hp=>⟨hG p hp,?_⟩).mono (aI _) ?_⟩
 ·have e4:m8 Φ [.fz<|.lst<|e.cells.map D.int,.io<|sD e a r,.fz<|.int ((d+1:Nat):Int),.fz<|.int w,.fz<|.int k,.fz<|.int (n:Int),.fz<|.lst<|e.pool.map D.str,.fz<|.lst<|us.map D.str,.ow<|.lst [],.un]=.ok (.nx,[.fz<|.lst<|e.cells.map D.int,.io<|sD e a' r',.fz<|.int ((d+1:Nat):Int),.fz<|.int w,.fz<|.int k,.fz<|.int (n:Int),.fz<|.lst<|e.pool.map D.str,.fz<|.lst<|us.map D.str,.ow<|.lst<|dWs<|ofL L,s9]):=by
   have ei:cZ (aK 7) [.fz<|.lst<|e.cells.map D.int,.io<|sD e a r,.fz<|.int ((d+1:Nat):Int),.fz<|.int w,.fz<|.int k,.fz<|.int (n:Int),.fz<|.lst<|e.pool.map D.str,.fz<|.lst<|us.map D.str,.ow<|.lst [],.un]=.ok (us.map D.str):=by simp[cZ,aK]
   unfold m8 eQ;rw[ei];exact eL
  have sp:=Uo e a r;have sl:=ZP e a r;have st:=T9 e a' r';have eu':us.map D.str=if w/48%16=6 then(ws.map D.str).reverse else ws.map D.str:=by rw[eu];split<;>simp
  show d7 Φ [.lst<|e.cells.map D.int,.int ((d+1:Nat):Int),.int w] (sD e a r)=.ok (.tup [.str "move",.int<|1+w%2,.str nm,.tup<|dWs<|ofL L],sD e a' r');have mk:pZ (.int 3) (.int k)=some (.int<|3*k):=if_pos<|.inr (by omega);generalize((d+1:Nat):Int)=J at *;generalize e.lev=lv at *;generalize e.turn=tn at *;generalize e.pool.map D.str=Pl at *;generalize D.lst (e.cells.map D.int)=Z at *;generalize sD e a r=S1 at *;generalize sD e a' r'=S2 at *;generalize dWs (ofL L)=Z3 at *;generalize us.map D.str=U at *;generalize ws.map D.str=W0 at *;refine OD (N:=10) (m':=Me.let [.fz Z,.io S2,.fz<|.int J,.fz<|.int w,.fz<|.int k,.fz<|.int (n:Int),.fz<|.lst Pl,.fz<|.lst U,.ow<|.lst Z3,s9]) (f:=false) ?_ rfl;show lZ _ _ [.fz Z,.io S1,.fz<|.int J,.fz<|.int w,.un,.un,.un,.un,.un,.un]=_;unfold lZ;refine(gs (m1:=[.fz Z,.io S1,.fz<|.int J,.fz<|.int w,.fz<|.int<|w/16%3,.un,.un,.un,.un,.un])<|by simp[bu,az,fC,aa,gJ,dvI,b16,cI,mdI]).trans ?_;refine(gs (m1:=[.fz Z,.io S1,.fz<|.int J,.fz<|.int w,.fz<|.int k,.un,.un,.un,.un,.un]) (by
   cases lv with
   |true=>simp[gIf,fTv,az,fC,aa,sl,bu,cI,mdI,ek]
   |false=>simp[gIf,fTv,az,fC,aa,sl,gNx,ek])).trans ?_
  refine(gs (m1:=[.fz Z,.io S1,.fz<|.int J,.fz<|.int w,.fz<|.int k,.fz<|.int<|1+k,.un,.un,.un,.un])<|by simp[bu,az,fC,aa,eN]).trans ?_;refine(gs (m1:=[.fz Z,.io S1,.fz<|.int J,.fz<|.int w,.fz<|.int k,.fz<|.int (n:Int),.un,.un,.un,.un]) (by
   by_cases h5:w/48%16=5
   ·rw[if_pos h5] at en;simp[gIf,aJ,az,fC,aa,gJ,dvI,b48,cI,mdI,h5,bu,eN,b768,en]
   ·rw[if_neg h5] at en;simp[gIf,aJ,az,fC,aa,gJ,dvI,b48,cI,mdI,h5,gNx,en])).trans ?_
  refine(gs (m1:=[.fz Z,.io S1,.fz<|.int J,.fz<|.int w,.fz<|.int k,.fz<|.int (n:Int),.fz<|.lst Pl,.un,.un,.un])<|by simp[bu,az,fC,aa,sp]).trans ?_;refine(gs (m1:=[.fz Z,.io S1,.fz<|.int J,.fz<|.int w,.fz<|.int k,.fz<|.int (n:Int),.fz<|.lst Pl,.fz<|.lst W0,.un,.un])<|by simp[bu,ew]).trans ?_;refine(gs (m1:=[.fz Z,.io S1,.fz<|.int J,.fz<|.int w,.fz<|.int k,.fz<|.int (n:Int),.fz<|.lst Pl,.fz<|.lst U,.un,.un]) (by
   by_cases h6:w/48%16=6
   ·rw[if_pos h6] at eu';simp[gIf,aJ,az,fC,aa,gJ,dvI,b48,cI,mdI,h6,bu,acr,fO1,fUn,vO,eu']
   ·rw[if_neg h6] at eu';simp[gIf,aJ,az,fC,aa,gJ,dvI,b48,cI,mdI,h6,gNx,eu'])).trans ?_
  refine(gs (m1:=[.fz Z,.io S1,.fz<|.int J,.fz<|.int w,.fz<|.int k,.fz<|.int (n:Int),.fz<|.lst Pl,.fz<|.lst U,.ow<|.lst [],.un])<|by simp[gQ,gO,aC]).trans ?_;refine(gs e4).trans ?_;simp[bc,Me.let,Sl.let,bJ,aj,aC,fC,az,aa,eN,gIx,gJ,dvI,b8,cI,mdI,mk,st,e8,aR,nM]
 ·have:p.1∈us.map D.str:=by rw[← hL];exact d3.mpr ⟨p,hp,rfl⟩
  obtain⟨y,hy,e⟩:=d3.mp this;exact⟨y,e.symm,hu2 y hy⟩
 ·have:=ze (mx3 d) (show L.length<=3 by omega)
  show _<=3*mx3 d+1;omega
theorem Ql {t:Zba}{A k:Zac}{m:Me}(h:t m=.ok false):aL (gIf t A gNx) k m=k m:=by simp[aL,gIf,h,gNx]
theorem Nh {t:Zba}{A k:Zac}{m m':Me}{f:Bool}{d:D}(h:t m=.ok true)(hA:A m=.ok (.rt f d,m')):aL (gIf t A gNx) k m=.ok (.rt f d,m'):=by simp[aL,gIf,h,hA]
theorem Xy {g:Zac}{Z S J r S':D}{m':Me}{f:Bool}(e:g [.fz Z,.io S,.fz J,.un,.un]=.ok (.rt f r,m'))(h:m'[1]? = some (.io S')):pA 1 5 3 g [Z,J] S=.ok (r,S'):=by
 have e:g (pY 1 (.io S) ([Z,J].map Sl.fz)++bP (5-3) .un)=.ok (.rt f r,m'):=e;unfold pA;rw[if_pos (by rfl:[Z,J].length+1=3),e];simp[An,h]
theorem aaU {cs:List Int}{S J:D}{a:Int}{s:Sl}(h:cs.length<=100/\a<cs.length):aJ gGe (aa 3) (aR dC<|aj (aa 0) aC) [.fz<|.lst<|cs.map D.int,.io S,.fz J,.fz<|.int a,s]=.ok false:=by
 have z:cs.length<=16777216:=by omega
 have q:¬(cs.length:Int)<=a:=by omega
 simp[aJ,aa,aR,aj,aC,dC,z,gGe,q]
theorem acy {cs:List Int}{S J:D}{a:Int}{s:Sl}(h:cs.length<=100)(q:(cs.length:Int)<=a):aJ gGe (aa 3) (aR dC<|aj (aa 0) aC) [.fz<|.lst<|cs.map D.int,.io S,.fz J,.fz<|.int a,s]=.ok true:=by
 have z:cs.length<=16777216:=by omega
 simp[aJ,aa,aR,aj,aC,dC,z,gGe,q]
theorem Ux {e:En}(E:Iu e){n d:Nat}(ih:∀d',d=d'+1->Sp e (bK n) d'):Sp e (bK<|n+1) d:=by
 intro a r ha;have sa:=afN e a r;have sr:=abh e (a+1) r;have hc:=E.c2;have b8:Bq 8:=bgS (by decide);have b104:Bq 104:=bgS (by decide);have zl:e.cells.length<=16777216:=by omega
 show Gv e (pA 1 5 3 (jL jc m6 (eE<|bK n)<|d7<|bK n) _ _) d;have pre:∀φl φm φd φv,jL φl φm φd φv [.fz<|.lst<|e.cells.map D.int,.io<|sD e a r,.fz<|.int (d:Int),.un,.un]=_:=λφl φm φd φv=>by
  unfold jL;refine(gs (m1:=[.fz<|.lst<|e.cells.map D.int,.io<|sD e a r,.fz<|.int (d:Int),.fz<|.int a,.un]) (by
   generalize sD e a r=S1 at *;simp[bu,az,aa,fC,sa])).trans ?_
  exact(gs (afs (e:=e) (a:=a) (r:=r) (a':=a+1) rfl rfl (by
   generalize sD e a r=S1 at *;simp[az,aa,fC,eN])))
 by_cases hl:a<e.cells.length
 ·obtain⟨j,hj⟩:∃j:Nat,(j:Int)=a:=⟨a.toNat,by omega⟩;have hj':j<e.cells.length:=by omega
  have ec:atI (e.cells.map D.int) a=some (.int e.cells[j]):=by
   rw[← hj];exact jH (by rw[bg,a9 hj'];rfl)
  have zn:e.cells.length<=100/\a<e.cells.length:=⟨hc,hl⟩;obtain⟨w,em,hw⟩:=abQ e.cells[j] a (by omega);by_cases hs:(d:Int)=0\/r<3\/(w%8=0/\0<a)
  ·have el:=Ub (t:=w/8%13-6) (b:=1+w/104%3) (by omega)<|bgS (by omega);refine⟨.fin<|rq<|bX (w/8%13-6)<|1+w/104%3,a+1,r,Xy (f:=false) (m':=[.fz<|.lst<|e.cells.map D.int,.io<|sD e (a+1) r,.fz<|.int (d:Int),.fz<|.int a,.fz<|.int w]) ?_ rfl,by omega,(W9 _).mono (eW _)<|QJ d⟩;rw[pre];show aL _ _ [.fz<|.lst<|e.cells.map D.int,.io<|sD e (a+1) r,.fz<|.int (d:Int),.fz<|.int a,.un]=Res.ok (Fl.rt false<|D.tup [.str "end",rD<|bX (w/8%13-6)<|1+w/104%3],[.fz<|.lst<|e.cells.map D.int,.io<|sD e (a+1) r,.fz<|.int (d:Int),.fz<|.int a,.fz<|.int w]);refine(Ql<|aaU zn).trans ?_;clear pre;generalize rD (bX (w/8%13-6)<|1+w/104%3)=R at *;generalize sD e (a+1) r=S2 at *;generalize e.cells.map D.int=Zs at *;generalize e.cells[j]=cj at *;generalize(d:Int)=J at *;refine(gs (m1:=[.fz<|.lst Zs,.io S2,.fz<|.int J,.fz<|.int a,.fz<|.int w])<|by simp[bu,fFn,aj,aC,az,aa,aK,gIx,ec,em]).trans ?_;refine Nh ?_ (by simp[bc,Me.let,Sl.let,bJ,aj,aC,fC,fFn,az,aa,gJ,dvI,b8,cI,mdI,F.lV,eN,b104,el]);rcases hs with h|h|h
   ·simp[dY,aJ,aa,fC,h]
   ·by_cases h0:J=0
    ·simp[dY,aJ,aa,fC,h0]
    ·simp[dY,aJ,aa,fC,h0,az,sr,gLt,h]
   ·by_cases h0:J=0
    ·simp[dY,aJ,aa,fC,h0]
    ·by_cases h3:r<3
     ·simp[dY,aJ,aa,fC,h0,az,sr,gLt,h3]
     ·simp[dY,ji,aJ,aa,fC,h0,az,sr,gLt,gGt,h3,cI,mdI,h.1,h.2]
  ·have h0:¬(d:Int)=0:=λz=>hs<|.inl z;have h3:¬r<3:=λz=>hs<|.inr<|.inl z;have h8:¬(w%8=0/\0<a):=λz=>hs<|.inr<|.inr z;obtain⟨d',rfl⟩:∃d',d=d'+1:=⟨d-1,by omega⟩;have ih:=ih d' rfl;have tst:dY (aJ gEq (aa 2)<|fC<|.int 0) (dY (aJ gLt (az lN (aa 1)<|fC<|.str "room")<|fC<|.int 3)<|ji (aJ gEq (az cI (aa 4)<|fC<|.int 8)<|fC<|.int 0)<|aJ gGt (aa 3)<|fC<|.int 0) [.fz<|.lst<|e.cells.map D.int,.io<|sD e (a+1) r,.fz<|.int ((d'+1:Nat):Int),.fz<|.int a,.fz<|.int w]=.ok false:=by
    clear pre ec em;generalize sD e (a+1) r=S2 at *;generalize e.cells.map D.int=Zs at *;generalize((d'+1:Nat):Int)=J at *;by_cases h9:w%8=0
    ·have h10:¬0<a:=λz=>h8 ⟨h9,z⟩;simp[dY,ji,aJ,aa,fC,h0,az,sr,gLt,gGt,h3,cI,mdI,h9,h10]
    ·simp[dY,ji,aJ,aa,fC,h0,az,sr,gLt,gGt,h3,cI,mdI,h9]
   have mid:∀k:Zac,∀φl φm φd φv,φm=m6->jL φl φm φd φv [.fz<|.lst<|e.cells.map D.int,.io<|sD e a r,.fz<|.int ((d'+1:Nat):Int),.un,.un]=aL (gIf (aJ gLt (az cI (aa 4)<|fC<|.int 8)<|fC<|.int 3) (DQ<|tK φd 1 1<|aj (aK 0)<|aj (aK 2)<|aj (aK 4) aC) gNx) (DQ<|tK φv 1 1<|aj (aK 0)<|aj (aK 2)<|aj (aK 4) aC) [.fz<|.lst<|e.cells.map D.int,.io<|sD e (a+1)<|r-3,.fz<|.int ((d'+1:Nat):Int),.fz<|.int a,.fz<|.int w]:=λk φl φm φd φv hm=>by
    subst hm;rw[pre];show aL _ _ [.fz<|.lst<|e.cells.map D.int,.io<|sD e (a+1) r,.fz<|.int ((d'+1:Nat):Int),.fz<|.int a,.un]=_;refine(Ql<|aaU zn).trans ?_;refine(gs (m1:=[.fz<|.lst<|e.cells.map D.int,.io<|sD e (a+1) r,.fz<|.int ((d'+1:Nat):Int),.fz<|.int a,.fz<|.int w]) (by
     clear pre tst;generalize sD e (a+1) r=S2 at *;generalize e.cells.map D.int=Zs at *;generalize e.cells[j]=cj at *;generalize((d'+1:Nat):Int)=J at *;simp[bu,fFn,aj,aC,az,aa,aK,gIx,ec,em])).trans ?_
    refine(Ql tst).trans ?_;refine(gs (abR (e:=e) (a:=a+1) (r:=r) (r':=r-3) rfl rfl (by
     clear pre tst;generalize sD e (a+1) r=S2 at *;simp[az,aa,fC,sr,F.lV]))).trans ?_
    rfl
   by_cases hd:w%8<3
   ·obtain⟨g,a',r',e1,h1,G⟩:=YG E ih (w:=w) (a:=a+1) (r:=r-3) (by omega);refine⟨g,a',r',Xy (f:=false) (m':=[.fz<|.lst<|e.cells.map D.int,.io<|sD e a' r',.fz<|.int ((d'+1:Nat):Int),.fz<|.int a,.fz<|.int w]) ?_ rfl,h1,G⟩;rw[mid (λ_=>.stuck) _ _ _ _ rfl];clear mid pre tst;generalize eE (bK n)=φ at *;generalize sD e (a+1) (r-3)=S2 at *;generalize sD e a' r'=S3 at *;generalize D.lst (e.cells.map D.int)=Z at *;generalize((d'+1:Nat):Int)=J at *;refine Nh (by simp[aJ,az,aa,fC,cI,mdI,gLt,hd]) ?_;simp[DQ,Me.let,Sl.let,tK,Jp,aj,aC,aK,e1,Nv]
   ·obtain⟨g,a',r',e1,h1,G⟩:=Ze E ih (w:=w) (a:=a+1) (r:=r-3) (by omega);refine⟨g,a',r',Xy (f:=false) (m':=[.fz<|.lst<|e.cells.map D.int,.io<|sD e a' r',.fz<|.int ((d'+1:Nat):Int),.fz<|.int a,.fz<|.int w]) ?_ rfl,h1,G⟩;rw[mid (λ_=>.stuck) _ _ _ _ rfl];clear mid pre tst;generalize d7 (bK n)=φ at *;generalize sD e (a+1) (r-3)=S2 at *;generalize sD e a' r'=S3 at *;generalize D.lst (e.cells.map D.int)=Z at *;generalize((d'+1:Nat):Int)=J at *;refine(Ql<|by simp[aJ,az,aa,fC,cI,mdI,gLt,hd]).trans ?_;simp[DQ,Me.let,Sl.let,tK,Jp,aj,aC,aK,e1,Nv]
 ·refine⟨.fin (a%7-3,1),a+1,r,Xy (f:=false) (m':=[.fz<|.lst<|e.cells.map D.int,.io<|sD e (a+1) r,.fz<|.int (d:Int),.fz<|.int a,.un]) ?_ rfl,by omega,(W9 _).mono (eW _)<|QJ d⟩;rw[pre];show aL _ _ [.fz<|.lst<|e.cells.map D.int,.io<|sD e (a+1) r,.fz<|.int (d:Int),.fz<|.int a,.un]=Res.ok (Fl.rt false<|D.tup [.str "end",.tup [.int<|a%7-3,.int 1]],[.fz<|.lst<|e.cells.map D.int,.io<|sD e (a+1) r,.fz<|.int (d:Int),.fz<|.int a,.un]);refine Nh (acy (by omega)<|by omega) ?_;clear pre;generalize sD e (a+1) r=S2 at *;generalize e.cells.map D.int=Zs at *;simp[bc,Me.let,Sl.let,bJ,aj,aC,fC,az,aa,cI,mdI,F.lV]
theorem Jy {e:En}(E:Iu e):∀(n d:Nat),d<n->Sp e (bK n) d
 |n+1,d,h=>Ux E λd' hd=>Jy E n d'<|by omega
def oR:Gm->Bool
 | .deal _ ws=>Jk<|Nz ws
 |_=>true
theorem x30 (a b c:D):atI [a,b,c] 0=some a:=rfl
theorem x32 (a b c:D):atI [a,b,c] 2=some c:=rfl
theorem x20 (a b:D):atI [a,b] 0=some a:=rfl
theorem x40 (a b c d:D):atI [a,b,c,d] 0=some a:=rfl
theorem x43 (a b c d:D):atI [a,b,c,d] 3=some d:=rfl
theorem aeT:gNe (.str "deal") (.str "deal")=some false:=by decide +kernel
theorem ad9:gNe (.str "end") (.str "deal")=some true:=by decide +kernel
theorem aeS:gNe (.str "move") (.str "deal")=some true:=by decide +kernel
theorem Jz {L:Zac}{d x:D}(h:gIx d (.int 0)=some x)(hx:gNe x (.str "deal")=some true):aX 5 1 (cN L) [d]=.ok (false,.bl true):=by
 simp[aX,cN,aL,gIf,aJ,az,aa,fC,h,hx,bc,Me.let,Sl.let]
theorem R7 {L:Zac}{d x:D}{T B:Int}{a b:Sl}{m':Me}{q:Bool}(h:gIx d (.int 0)=some x)(hx:gNe x (.str "deal")=some false)(eL:L [.fz d,.fz<|.int 0,.fz<|.int 1,.un,.un]=if q=true then .ok (.nx,[.fz d,.fz<|.int T,.fz<|.int B,a,b]) else .ok (.rt false<|.bl false,m')):aX 5 1 (cN L) [d]=.ok (false,.bl<|q&&decide (T=B)):=by
 cases q<;>simp[aX,cN,aL,gIf,aJ,az,aa,fC,h,hx,gNx,bu,eL,bc,Me.let,Sl.let,iV]
theorem JC {g:Gm}(hw:okW g)(hl:gP g):cM [dG g]=.ok (false,.bl<|oR g):=by
 match g,hw,hl with
 | .fin d,_,_=>exact Jz (x20 _ _) ad9
 | .move s n ws,_,_=>exact Jz (x40 _ _ _ _) aeS
 | .deal n ws,⟨_,l,el,hs,hz⟩,hl=>
  obtain⟨T,B,a,b,m',e,p1,p2⟩:=aaP (L:=.fz<|dG<|.deal n ws) l 0 1 1 .un .un hs (by decide) (by decide) (by omega);have hz1:(dWs ws).length<=100:=by rw[mD];exact hl.1
  have eL:dH [.fz<|dG<|.deal n ws,.fz<|.int 0,.fz<|.int 1,.un,.un]=if l.all (λx=>decide<|0<x.num)=true then .ok (.nx,[.fz<|dG<|.deal n ws,.fz<|.int T,.fz<|.int B,a,b]) else .ok (.rt false<|.bl false,m'):=by
   have e1:jk (az gIx (aa 0)<|fC<|.int 2) [.fz<|dG<|.deal n ws,.fz<|.int 0,.fz<|.int 1,.un,.un]=.ok (dWs ws):=by
    simp[jk,az,aa,fC,dG,gIx,x32]
   have e2:jd [.fz<|dG<|.deal n ws,.fz<|.int 0,.fz<|.int 1,.un,.un]=.ok (.lst<|l.map rD):=(mH e1 (by omega)<|m5 ws).trans (by rw[el]);have ei:cZ jd [.fz<|dG<|.deal n ws,.fz<|.int 0,.fz<|.int 1,.un,.un]=.ok (l.map rD):=by simp[cZ,e2]
   unfold dH eQ;rw[ei];exact e
  have q:decide (T=B)=decide (l.sum=1):=decide_eq_decide.mpr (by
   have z:bX 0 1=0:=rfl;rw[z,Rat.zero_add] at p2;rw[← p2];constructor
   ·intro e;rw[e];exact div_self p1
   ·intro e;have e1:(1:Rat)=bX 1 1:=rfl;rw[e1] at e
    have:=(ua (by omega)<|by omega).mp e
    omega)
  have r:=R7 (L:=dH) (d:=dG<|.deal n ws) (x:=.str "deal") (x30 (.str "deal") (.str n)<|.tup<|dWs ws) aeT eL;rw[q] at r;show aX 5 1 (cN dH) _=.ok (false,.bl<|Jk<|Nz ws);rw[Rr el];exact r
theorem Kw {d e:D}{b:Bool}(h:gNe d e=some b):gEq d e=some (!b):=by
 unfold gNe at h;cases q:gEq d e with
 |none=>rw[q] at h;cases h
 |some c=>rw[q] at h;cases h;simp
theorem aeP {xs ys:List Str}(h1:nms xs)(h2:nms ys):gEq (.lst<|xs.map D.str) (.lst<|ys.map D.str)=some (decide<|xs=ys):=by
 rw[Kw<|ad8 h1 h2];simp
theorem aej {xs ys:List (Str×Str)}(h1:η xs)(h2:η ys):gEq (.tup<|xs.map prD) (.tup<|ys.map prD)=some (decide<|xs=ys):=by
 rw[Kw<|aaW h1 h2];simp
theorem adm {s t:Int}{n m:Str}(hn:Nm n)(hm:Nm m):gEq (.tup [.int s,.str n]) (.tup [.int t,.str m])=some (decide<|s=t/\n=m):=by
 have e:=m7 (d:=.tup [.int s,.str n]) (e:=.tup [.int t,.str m]) (p:=.tuple [.int s,.str n]) (q:=.tuple [.int t,.str m]) (by simpa[okD,qC] using(show g9 n=true from hn)) (by simpa[okD,qC] using(show g9 m=true from hm)) (by simp[gf,iT]) (by simp[gf,iT]) (by simp[toPy,mL]) (by simp[toPy,mL]);simp only[gEq];rw[e];simp only[d5,ja,AW];by_cases q1:s=t<;>by_cases q2:n=m<;>simp[q1,q2]
def nA (p q:Tr):Bool:=match p.2.1,q.2.1 with
 | .move s n _,.move t m _=>decide<|s=t/\n=m
 |_,_=>false
theorem y31 (a b c:D):atI [a,b,c] 1=some b:=rfl
theorem aen:gEq (.str "end") (.str "move")=some false:=by decide +kernel
theorem adZ:gEq (.str "deal") (.str "move")=some false:=by decide +kernel
theorem aac:gEq (.str "move") (.str "move")=some true:=by decide +kernel
theorem VL {d e a b x:D}(h1:gIx d (.int 1)=some a)(h2:gIx e (.int 1)=some b)(h3:gIx a (.int 0)=some x)(h4:gEq x (.str "move")=some false):aX 4 2 cA [d,e]=.ok (false,.bl false):=by
 simp[aX,cA,aL,bu,az,aa,fC,h1,h2,bc,Me.let,Sl.let,vz,fTv,iV,h3,h4]
theorem Xe {d e a b x y:D}(h1:gIx d (.int 1)=some a)(h2:gIx e (.int 1)=some b)(h3:gIx a (.int 0)=some x)(h4:gEq x (.str "move")=some true)(h5:gIx b (.int 0)=some y)(h6:gEq y (.str "move")=some false):aX 4 2 cA [d,e]=.ok (false,.bl false):=by
 simp[aX,cA,aL,bu,az,aa,fC,h1,h2,bc,Me.let,Sl.let,vz,fTv,iV,h3,h4,h5,h6]
theorem ab6 {d e a b x y u v:D}{q:Bool}(h1:gIx d (.int 1)=some a)(h2:gIx e (.int 1)=some b)(h3:gIx a (.int 0)=some x)(h4:gEq x (.str "move")=some true)(h5:gIx b (.int 0)=some y)(h6:gEq y (.str "move")=some true)(h7:gSl a (some 1) (some 3)=some u)(h8:gSl b (some 1) (some 3)=some v)(h9:gEq u v=some q):aX 4 2 cA [d,e]=.ok (false,.bl q):=by
 simp[aX,cA,aL,bu,az,aa,fC,h1,h2,bc,Me.let,Sl.let,vz,fTv,iV,h3,h4,h5,h6,fSl,fO1,h7,h8,h9]
theorem adI (a b c d:D):gSl (.tup [a,b,c,d]) (some 1) (some 3)=some (.tup [b,c]):=rfl
theorem CK {p q:Tr}(hp:okQ p)(hq:okQ q):fV [trD p,trD q]=.ok (false,.bl<|nA p q):=by
 obtain⟨w,g,r⟩:=p;obtain⟨w',g',r'⟩:=q
 match g,g',hp,hq with
 | .fin x,g',_,_=>exact VL (y31 _ _ _) (y31 _ _ _) (x20 _ _) aen
 | .deal n ws,g',_,_=>exact VL (y31 _ _ _) (y31 _ _ _) (x30 _ _ _) adZ
 | .move s n ws,.fin x,_,_=>exact Xe (y31 _ _ _) (y31 _ _ _) (x40 _ _ _ _) aac (x20 _ _) aen
 | .move s n ws,.deal m ws',_,_=>exact Xe (y31 _ _ _) (y31 _ _ _) (x40 _ _ _ _) aac (x30 _ _ _) adZ
 | .move s n ws,.move t m ws',hp,hq=>exact ab6 (y31 _ _ _) (y31 _ _ _) (x40 _ _ _ _) aac (x40 _ _ _ _) aac (adI _ _ _ _) (adI _ _ _ _) (adm hp.w.1 hq.w.1)
theorem aci {d e:D}{xs ys:List D}{q:Bool}{Q1 Q2:Zaf}(h1:Q1 [.fz d,.fz e]=.ok (.lst xs))(h2:Q2 [.fz d,.fz e]=.ok (.lst ys))(h:gEq (.lst xs) (.lst ys)=some q):aX 2 2 (iz Q1 Q2) [d,e]=.ok (false,.bl q):=by
 simp[aX,iz,bc,Me.let,Sl.let,iV,h1,h2,h]
theorem Jr {w w':List Int}{s t:Int}{n m:Str}{ws ws':Ws}{r r':Rc}(hp:okQ (w,.move s n ws,r))(hq:okQ (w',.move t m ws',r')):iK [trD (w,.move s n ws,r),trD (w',.move t m ws',r')]=.ok (false,.bl<|decide<|wsS ws=wsS ws'):=by
 obtain⟨_,xs,ex,hx⟩:=hp.w;obtain⟨_,ys,ey,hy⟩:=hq.w;have z1:(dWs ws).length<=100:=by rw[mD];exact hp.l.1
 have z2:(dWs ws').length<=100:=by rw[mD];exact hq.l.1
 have e1:jk (az gIx (az gIx (aa 0)<|fC<|.int 1)<|fC<|.int 3) [.fz<|trD (w,.move s n ws,r),.fz<|trD (w',.move t m ws',r')]=.ok (dWs ws):=by
  simp[jk,az,aa,fC,trD,dG,gIx,y31,x43]
 have e2:jk (az gIx (az gIx (aa 1)<|fC<|.int 1)<|fC<|.int 3) [.fz<|trD (w,.move s n ws,r),.fz<|trD (w',.move t m ws',r')]=.ok (dWs ws'):=by
  simp[jk,az,aa,fC,trD,dG,gIx,y31,x43]
 rw[MN ex,MN ey];exact aci (Q1:=oV) (Q2:=o7) ((mH e1 (by omega)<|m5 ws).trans<|by rw[ex]) ((mH e2 (by omega)<|m5 ws').trans<|by rw[ey])<|aeP hx hy
theorem aaL {r:Rc}{s:Int}(h:s=1\/s=2):gIx (rD2 r) (.int<|s-1)=some (.tup<|oZ r s):=by
 rcases h with rfl|rfl<;>rfl
theorem abF {d e g x y a b:D}{s:Int}{q:Bool}(h1:gIx d (.int 1)=some g)(h2:gIx g (.int 1)=some (.int s))(h3:gIx d (.int 2)=some x)(h4:gIx e (.int 2)=some y)(h5:gIx x (.int<|s-1)=some a)(h6:gIx y (.int<|s-1)=some b)(h:gEq a b=some q):aX 3 2 gB [d,e]=.ok (false,.bl q):=by
 simp[aX,gB,aL,bu,bc,Me.let,Sl.let,iV,az,aa,fC,F.lV,h1,h2,h3,h4,h5,h6,h]
theorem y41 (a b c d:D):atI [a,b,c,d] 1=some b:=rfl
theorem Dw {w w':List Int}{s t:Int}{n m:Str}{ws ws':Ws}{r r':Rc}(hp:okQ (w,.move s n ws,r))(hq:okQ (w',.move t m ws',r'))(hs:s=1\/s=2):gw [trD (w,.move s n ws,r),trD (w',.move t m ws',r')]=.ok (false,.bl<|decide<|(oZ r s).map prS=(oZ r' s).map prS):=by
 obtain⟨a,ea,ha⟩:=QK hp.r s;obtain⟨b,eb,hb⟩:=QK hq.r s;have i1:=aaL (r:=r) hs;have i2:=aaL (r:=r') hs;rw[ea] at i1;rw[eb] at i2;rw[ea,eb,Je,Je];exact abF (y31 _ _ _) (y41 _ _ _ _) (x32 _ _ _) (x32 _ _ _) i1 i2<|aej ha hb
def pass:List Tr->List Fi->Option (List Fi)
 |[],F=>some F
 |p::l,F=>match stp p F with
  | .inl _=>none
  | .inr F'=>pass l F'
theorem Fx:∀{l:List Tr} {F:List Fi},scan l F=none->∃F',pass l F=some F'
 |[],F,_=>⟨F,rfl⟩
 |p::l,F,h=>by
  unfold scan at h;unfold pass;cases q:stp p F with
  |inl x=>rw[q] at h;cases h
  |inr F'=>rw[q] at h;exact Fx h
theorem Gj:∀{l:List Tr} {F:List Fi} {x:Xn},scan l F=some x->∃pre p post F',l=pre++p::post/\pass pre F=some F'/\stp p F'=.inl x
 |[],F,x,h=>by cases h
 |p::l,F,x,h=>by
  unfold scan at h;cases q:stp p F with
  |inl y=>rw[q] at h;cases h;exact⟨[],p,l,F,rfl,rfl,q⟩
  |inr F'=>
   rw[q] at h;obtain⟨pre,p',post,F2,rfl,h1,h2⟩:=Gj<|show scan l F'=some x from h;exact⟨p::pre,p',post,F2,rfl,by unfold pass;rw[q];exact h1,h2⟩
def al (p q:Tr):Prop:=∀s n ws ws',p.2.1=.move s n ws->q.2.1=.move s n ws'->wsS ws=wsS ws'/\(oZ p.2.2 s).map prS=(oZ q.2.2 s).map prS
def nmd (s:Int)(n:Str)(p:Tr):Prop:=∃ws,p.2.1=.move s n ws
structure Iv (l:List Tr)(F:List Fi):Prop where
 rt:∀p∈l,oR p.2.1=true
 pw:l.Pairwise al
 A:∀q∈l,∀s n ws,q.2.1=.move s n ws->∃f,fd1 F s n=some f/\f.wd=wsS ws/\f.rc=(oZ q.2.2 s).map prS
 B:∀s n f,fd1 F s n=some f->∃pre q post ws,l=pre++q::post/\q.2.1=.move s n ws/\f.w=q.1/\f.wd=wsS ws/\f.rc=(oZ q.2.2 s).map prS/\∀p∈pre,¬nmd s n p
theorem Dd {F:List Fi}{g:Fi}{s:Int}{n:Str}:fd1 (F++[g]) s n=match fd1 F s n with
  |some f=>some f
  |none=>if g.s=s/\g.n=n then some g else none:=by
 unfold fd1;rw[List.find?_append];cases List.find? (λf=>decide<|f.s=s/\f.n=n) F with
 |some f=>rfl
 |none=>
  by_cases q:g.s=s/\g.n=n
  ·simp[q]
  ·simp[q]
theorem Iv.snoc {l:List Tr}{F:List Fi}{p:Tr}(I:Iv l F)(hr:oR p.2.1=true)(ha:∀q∈l,al q p)(hA:∀s n ws,p.2.1=.move s n ws->∃f,fd1 F s n=some f/\f.wd=wsS ws/\f.rc=(oZ p.2.2 s).map prS):Iv (l++[p]) F where
 rt:=λq hq=>by
  rcases cm.mp hq with z|z
  ·exact I.rt q z
  ·rw[cb.mp z];exact hr
 pw:=l3.mpr ⟨I.pw,mI _ _,λa ha' b hb=>by rw[cb.mp hb];exact ha a ha'⟩
 A:=λq hq=>by
  rcases cm.mp hq with z|z
  ·exact I.A q z
  ·rw[cb.mp z];exact hA
 B:=λs n f h=>by
  obtain⟨pre,q,post,ws,e,r⟩:=I.B s n f h;exact⟨pre,q,post++[p],ws,by rw[e];simp,r⟩
theorem Zd {l:List Tr}{F F':List Fi}{p:Tr}(I:Iv l F)(h:stp p F=.inr F'):Iv (l++[p]) F':=by
 obtain⟨w,g,r⟩:=p
 match g,h with
 | .fin d,h=>
  cases h;exact I.snoc rfl (λq _ s n ws ws' _ z=>by cases z) (λs n ws z=>by cases z)
 | .deal m ws,h=>
  unfold stp at h;simp only at h;by_cases q:Jk (Nz ws)=true
  ·rw[if_pos q] at h;cases h;exact I.snoc q (λq _ s n ws ws' _ z=>by cases z) (λs n ws z=>by cases z)
  ·rw[if_neg q] at h;cases h
 | .move s n ws,h=>
  unfold stp at h;cases e:fd1 F s n with
  |none=>
   simp only[e] at h;cases h;have no:∀q∈l,¬nmd s n q:=λq hq ⟨ws',z⟩=>by
    obtain⟨f,hf,_⟩:=I.A q hq s n ws' z;rw[e] at hf;cases hf
   have hf:fd1 (F++[Jl s n ws w r]) s n=some (Jl s n ws w r):=by
    rw[Dd,e];exact if_pos ⟨rfl,rfl⟩
   constructor
   ·intro q hq;rcases cm.mp hq with z|z
    ·exact I.rt q z
    ·rw[cb.mp z];rfl
   ·exact l3.mpr ⟨I.pw,mI _ _,λa ha' b hb=>by
     rw[cb.mp hb];intro s' n' ws1 ws2 h1 h2;cases h2;exact absurd ⟨ws1,h1⟩<|no a ha'⟩
   ·intro q hq s' n' ws' hw;rcases cm.mp hq with z|z
    ·obtain⟨f,h1,h2⟩:=I.A q z s' n' ws' hw;exact⟨f,by rw[Dd,h1],h2⟩
    ·rw[cb.mp z] at hw ⊢;cases hw;exact⟨_,hf,rfl,rfl⟩
   ·intro s' n' f h;rw[Dd] at h;cases e2:fd1 F s' n' with
    |some f2=>
     rw[e2] at h;cases h;obtain⟨pre,q,post,ws',e,t⟩:=I.B s' n' f e2;exact⟨pre,q,post++[(w,.move s n ws,r)],ws',by rw[e];simp,t⟩
    |none=>
     rw[e2] at h;by_cases q:s=s'/\n=n'
     ·obtain⟨rfl,rfl⟩:=q;have h:(if(Jl s n ws w r).s=s/\(Jl s n ws w r).n=n then some (Jl s n ws w r) else none)=some f:=h;rw[if_pos ⟨rfl,rfl⟩] at h;cases h;exact⟨l,_,[],ws,rfl,rfl,rfl,rfl,rfl,no⟩
     ·have h:(if s=s'/\n=n' then some (Jl s n ws w r) else none)=some f:=h;rw[if_neg q] at h;cases h
  |some f=>
   simp only[e] at h;by_cases q1:f.wd=wsS ws
   ·by_cases q2:f.rc=(oZ r s).map prS
    ·rw[if_neg (by simpa using q1),if_neg<|by simpa using q2] at h;cases h;refine I.snoc rfl (λq hq s' n' ws1 ws2 h1 h2=>?_) (λs' n' ws' z=>?_)
     ·cases h2;obtain⟨f',a1,a2,a3⟩:=I.A q hq s n ws1 h1;rw[e] at a1;cases a1;exact⟨a2.symm.trans q1,a3.symm.trans q2⟩
     ·cases z;exact⟨f,e,q1,q2⟩
    ·rw[if_neg (by simpa using q1),if_pos<|by simpa using q2] at h;cases h
   ·rw[if_pos<|by simpa using q1] at h;cases h
theorem Oi:∀{l k:List Tr} {F F':List Fi},Iv k F->pass l F=some F'->Iv (k++l) F'
 |[],k,F,F',I,h=>by cases h;simpa using I
 |p::l,k,F,F',I,h=>by
  unfold pass at h;cases q:stp p F with
  |inl x=>rw[q] at h;cases h
  |inr F1=>
   rw[q] at h
   have:=Oi (Zd I q) h
   simpa using this
theorem acz:Iv [] []:=⟨(λ_ z=>nomatch z),tm,(λ_ z=>nomatch z),(λs n f h=>by cases h)⟩
theorem Hv {l:List Tr}{F:List Fi}(h:pass l []=some F):Iv l F:=Oi (k:=[]) acz h
theorem Wi {α:Type}{xs:List α}{i:Nat}(h:i<=xs.length):cut xs none (some (i:Int))=xs.take i:=by
 have e1:HT.sIx xs.length 0 none=0:=rfl;have e2:HT.sIx xs.length xs.length (some (i:Int))=i:=(HT.Yh _ _ _).trans<|yk h;unfold cut;rw[e1,e2]
 simp
theorem aet {L:List D}{i:Int}{p q:Tr}(hp:okQ p)(hq:okQ q)(ha:al p q)(e:atI L i=some (trD q)):fU [.fz<|.lst L,.fz<|.int i,.fz<|trD p]=.ok (.nx,[.fz<|.lst L,.fz<|.int i,.fz<|trD p]):=by
 have e1:=CK hp hq;by_cases h:nA p q=true
 ·obtain⟨w,g,r⟩:=p;obtain⟨w',g',r'⟩:=q
  match g,g',h with
  | .move s n ws,.move t m ws',h=>
   have h':s=t/\n=m:=of_decide_eq_true h;obtain⟨rfl,rfl⟩:=h';obtain⟨a1,a2⟩:=ha s n ws ws' rfl rfl;have e2:=Jr hp hq;have e3:=Dw hp hq (show okP (w,.move s n ws,r) from hp.pp).1;rw[decide_eq_true a1] at e2;rw[decide_eq_true a2] at e3;rw[h] at e1;generalize trD (w,.move s n ws,r)=X at *;generalize trD (w',.move s n ws',r')=Y at *;simp[fU,gIf,fTv,fFn,aj,aC,aK,aa,az,gIx,e,e1,dY,dJ,e2,e3,gNx]
 ·have h:nA p q=false:=by simpa using h
  rw[h] at e1;generalize trD p=X at *;generalize trD q=Y at *;simp[fU,gIf,fTv,fFn,aj,aC,aK,aa,az,gIx,e,e1,gNx]
theorem aa5 {L:List D}{i:Int}{q:Tr}(hq:okQ q)(e:atI L i=some (trD q)):∀(l:List Tr) (s:Sl),(∀p∈l,okQ p)->(∀p∈l,al p q)->∃s',bO (hName 2) fU (l.map trD) [.fz<|.lst L,.fz<|.int i,s]=.ok (.nx,[.fz<|.lst L,.fz<|.int i,s'])
 |[],s,_,_=>⟨s,rfl⟩
 |p::l,s,h1,h2=>by
  obtain⟨s',e2⟩:=aa5 hq e l (.fz<|trD p) (λx hx=>h1 x<|ah _ hx) λx hx=>h2 x<|ah _ hx;exact⟨s',by rw[aE,bI rfl<|aet (h1 p ar) hq (h2 p ar) e,e2]⟩
theorem aeX {l:List Tr}{F:List Fi}(I:Iv l F)(hq:∀p∈l,okQ p){i:Nat}(hi:i<l.length)(s:Sl):∃s',iH [.fz<|.lst<|l.map trD,.fz<|.int (i:Int),s]=.ok (.nx,[.fz<|.lst<|l.map trD,.fz<|.int (i:Int),s']):=by
 have hm:l[i]∈l:=wx hi;have e:atI (l.map trD) (i:Int)=some (trD l[i]):=jH (by rw[bg,a9 hi];rfl);have e1:=JC (hq _ hm).w (hq _ hm).l;rw[I.rt _ hm] at e1;obtain⟨s',e2⟩:=aa5 (hq _ hm) e (l.take i) s (λp hp=>hq p<|jS hp) (λp hp=>by
  obtain⟨j,hj,rfl⟩:=List.mem_take_iff_getElem.mp hp;exact List.pairwise_iff_getElem.mp I.pw j i (by omega) hi<|by omega)
 have ec:=Wi (xs:=l.map trD) (i:=i) (by simp;omega);have ei:cZ (fSl (aa 0) fO0<|fO1<|aa 1) [.fz<|.lst<|l.map trD,.fz<|.int (i:Int),s]=.ok ((l.take i).map trD):=by
  have:gSl (.lst<|l.map trD) none (some (i:Int))=some (.lst<|(l.take i).map trD):=by
   show some (D.lst<|cut (l.map trD) none<|some (i:Int))=_;rw[ec,AX]
  generalize l.map trD=L at *;simp[cZ,fSl,aa,fO0,fO1,this]
 have eL:lu [.fz<|.lst<|l.map trD,.fz<|.int (i:Int),s]=.ok (.nx,[.fz<|.lst<|l.map trD,.fz<|.int (i:Int),s']):=by
  unfold lu eQ;rw[ei];exact e2
 refine⟨s',?_⟩;have e3:gIx (trD l[i]) (.int 1)=some (dG l[i].2.1):=rfl;have e4:gIx (.lst<|l.map trD) (.int (i:Int))=some (trD l[i]):=e;clear ei ec e2 e;generalize l.map trD=L at *;generalize trD l[i]=X at *;generalize dG l[i].2.1=Y at *;simp[iH,aL,gIf,dJ,fTv,fFn,aj,aC,az,aa,fC,e4,e3,e1,gNx,eL]
theorem aa7 {l:List Tr}{F:List Fi}(I:Iv l F)(hq:∀p∈l,okQ p):∀(c i:Nat) (s1 s2:Sl),i+c<=l.length->∃s1' s2',bO (hName 1) iH ((md i c).map λ(k:Nat)=>D.int k) [.fz<|.lst<|l.map trD,s1,s2]=.ok (.nx,[.fz<|.lst<|l.map trD,s1',s2'])
 |0,i,s1,s2,_=>⟨s1,s2,rfl⟩
 |c+1,i,s1,s2,h=>by
  obtain⟨s',e1⟩:=aeX I hq (i:=i) (by omega) s2;obtain⟨s1',s2',e2⟩:=aa7 I hq c (i+1) (.fz<|.int (i:Int)) s' (by omega);exact⟨s1',s2',by rw[kL,aE,bI rfl e1,e2]⟩
theorem abC {L:Zac}{d:D}{s1 s2:Sl}(eL:L [.fz d,.un,.un]=.ok (.nx,[.fz d,s1,s2])):aX 3 1 (jM L) [d]=.ok (false,.bl true):=by
 simp[aX,jM,aL,eL,bc,fC]
theorem VM {l:List D}{s1 s2:Sl}(z:l.length<=100000):uW (aj (aR dC<|aj (aa 0) aC) aC) [.fz<|.lst l,s1,s2]=.ok ((md 0 l.length).map λ(k:Nat)=>D.int k):=by
 have z':l.length<=16777216:=by omega
 have e1:(aj (aR dC<|aj (aa 0) aC) aC) [.fz<|.lst l,s1,s2]=.ok [.int (l.length:Int)]:=by
  simp[aj,aC,aR,aa,dC,z']
 have e2:=RG e1 (by omega) (by omega);rw[e2,l0,kd]
theorem Ht {l:List Tr}{F:List Fi}(I:Iv l F)(hq:∀p∈l,okQ p)(hz:l.length<=100000):dO [.lst<|l.map trD]=.ok (false,.bl true):=by
 obtain⟨s1,s2,e⟩:=aa7 I hq l.length 0 .un .un (by omega);have eL:iJ [.fz<|.lst<|l.map trD,.un,.un]=.ok (.nx,[.fz<|.lst<|l.map trD,s1,s2]):=by
  unfold iJ eQ;rw[VM (by simpa using hz),cp];exact e
 exact abC (L:=iJ) eL
theorem YD (a b:Int):d5 (.int a) (.int b)=decide (a=b):=by simp[d5];rfl
theorem aeC (a b:List Int):gEq (wy a) (wy b)=some (decide<|a=b):=by
 have o:∀c:List Int,okD (wy c)=true/\gf (wy c)<=64:=λc=>⟨(W8 c).1,by have:=(W8 c).2;omega⟩;have t:∀c:List Int,toPy (wy c)=some (.tuple<|c.map PyData.int):=λc=>by
  unfold wy;simp[toPy,vQ (f:=D.int) (φ:=PyData.int) (λ_=>by simp[toPy]) c]
 have e:=m7 (o a).1 (o b).1 (o a).2 (o b).2 (t a)<|t b;show gEq (.tup<|a.map D.int) (.tup<|b.map D.int)=_;have e:mG (.tup<|a.map D.int) (.tup<|b.map D.int)=_:=e;simp only[gEq];rw[e,d5,yt _ YD]
theorem aaE {L:List D}{i:Int}{w:List Int}{p:Tr}(e:atI L i=some (trD p)):oX [.fz<|.lst L,.fz<|wy w,.fz<|.int i]=if p.1=w then .ok (.rt false<|.int i,[.fz<|.lst L,.fz<|wy w,.fz<|.int i]) else .ok (.nx,[.fz<|.lst L,.fz<|wy w,.fz<|.int i]):=by
 have e1:gIx (.lst L) (.int i)=some (trD p):=e;have e2:gIx (trD p) (.int 0)=some (wy p.1):=rfl;have e3:=aeC p.1 w;clear e;generalize trD p=X at *;generalize wy p.1=Y at *;generalize wy w=Z at *;by_cases q:p.1=w
 ·rw[decide_eq_true q] at e3;rw[if_pos q];simp[oX,gIf,aJ,az,aa,fC,e1,e2,e3,bc,Me.let,Sl.let,aK]
 ·rw[decide_eq_false q] at e3;rw[if_neg q];simp[oX,gIf,aJ,az,aa,fC,e1,e2,e3,gNx]
theorem aaz {L:List D}{w:List Int}{p:Tr}(hp:p.1=w){post:List Tr}:∀(l:List Tr) (i:Nat) (s:Sl),(∀q∈l,q.1≠w)->(∀k q,(l++p::post)[k]? = some q->atI L ((i+k:Nat):Int)=some (trD q))->bO (hName 2) oX ((md i<|l.length+1+post.length).map λ(k:Nat)=>D.int k) [.fz<|.lst L,.fz<|wy w,s]=.ok (.rt false<|.int ((i+l.length:Nat):Int),[.fz<|.lst L,.fz<|wy w,.fz<|.int ((i+l.length:Nat):Int)])
 |[],i,s,_,h=>by
  have e:=aaE (w:=w)<|h 0 p rfl;rw[if_pos hp] at e;rw[show[].length+1+post.length=post.length+1 by simp;omega,kL,aE];exact wH (m1:=[.fz<|.lst L,.fz<|wy w,.fz<|.int (i:Int)]) rfl e
 |q::l,i,s,hn,h=>by
  have e:=aaE (w:=w)<|h 0 q rfl;rw[if_neg<|hn q ar,Nat.add_zero] at e;have ih:=aaz hp l (i+1) (.fz<|.int (i:Int)) (λx hx=>hn x<|ah _ hx) (λk x hk=>by
   have:=h (k+1) x<|by simpa using hk
   rwa [show i+(k+1)=i+1+k by omega] at this)
  rw[show(q::l).length+1+post.length=(l.length+1+post.length)+1 by simp;omega,kL,aE,bI (m1:=[.fz<|.lst L,.fz<|wy w,.fz<|.int (i:Int)]) rfl e,ih];rw[show i+1+l.length=i+(q::l).length by simp;omega]
theorem ac5 {L:Zac}{d w x:D}{m':Me}(eL:L [.fz d,.fz w,.un]=.ok (.rt false x,m')):aX 3 2 (wR L) [d,w]=.ok (false,x):=by
 simp[aX,wR,aL,eL]
theorem Xr {l:List D}{s1 s2:Sl}(z:l.length<=100000):uW (aj (aR dC<|aj (aa 0) aC) aC) [.fz<|.lst l,s1,s2]=.ok ((md 0 l.length).map λ(k:Nat)=>D.int k):=VM z
theorem adH {pre post:List Tr}{p:Tr}(hn:∀q∈pre,q.1≠p.1)(hz:(pre++p::post).length<=100000):lL [.lst<|(pre++p::post).map trD,wy p.1]=.ok (false,.int (pre.length:Int)):=by
 have e:=aaz (L:=(pre++p::post).map trD) (w:=p.1) (p:=p) rfl (post:=post) pre 0 .un hn (λk q hk=>by
  rw[rS];exact jH (by rw[bg,hk];rfl))
 rw[rS] at e;refine ac5 (L:=vK) (m':=[.fz<|.lst<|(pre++p::post).map trD,.fz<|wy p.1,.fz<|.int (pre.length:Int)]) ?_;unfold vK eQ;rw[Xr (by simpa using hz),cp,show(pre++p::post).length=pre.length+1+post.length by simp;omega];exact e
mutual
theorem UG:∀(w:List Int) (r:Rc) (g:Gm),∀p∈prG w r g,∃t,p.1=w++t
 |w,r,.fin d,p,hp=>⟨[],by rw[cb.mp<|show p∈[(w,Gm.fin d,r)] from hp];simp⟩
 |w,r,.deal n ws,p,hp=>by
  rcases bE.mp (show p∈(w,Gm.deal n ws,r)::prW w (λ_=>r) 0 ws from hp) with e|e
  ·exact⟨[],by rw[e];simp⟩
  ·obtain⟨k,t,_,h⟩:=wG w _ 0 ws p e;exact⟨_,h⟩
 |w,r,.move s n ws,p,hp=>by
  rcases bE.mp (show p∈(w,Gm.move s n ws,r)::prW w (rbm s n r) 0 ws from hp) with e|e
  ·exact⟨[],by rw[e];simp⟩
  ·obtain⟨k,t,_,h⟩:=wG w _ 0 ws p e;exact⟨_,h⟩
theorem wG:∀(w:List Int) (f:D->Rc) (i:Nat) (ws:Ws),∀p∈prW w f i ws,∃(k:Nat) (t:List Int),i<=k/\p.1=w++(k:Int)::t
 |w,f,i,.nil,p,hp=>by cases hp
 |w,f,i,.cons l g r,p,hp=>by
  rcases cm.mp (show p∈prG (w++[(i:Int)]) (f l) g++prW w f (i+1) r from hp) with e|e
  ·obtain⟨t,h⟩:=UG _ _ g p e;exact⟨i,t,aI _,by rw[h];simp⟩
  ·obtain⟨k,t,hk,h⟩:=wG w f (i+1) r p e;exact⟨k,t,by omega,h⟩
end
mutual
theorem aaO:∀(w:List Int) (r:Rc) (g:Gm),(prG w r g).Pairwise λp q=>p.1≠q.1
 |w,r,.fin d=>mI _ _
 |w,r,.deal n ws=>List.pairwise_cons.mpr ⟨λp hp z=>by
   obtain⟨k,t,_,h⟩:=wG w _ 0 ws p hp
   have:=congrArg kS<|(show w=p.1 from z).trans h
   simp at this,Nj w _ 0 ws⟩
 |w,r,.move s n ws=>List.pairwise_cons.mpr ⟨λp hp z=>by
   obtain⟨k,t,_,h⟩:=wG w _ 0 ws p hp
   have:=congrArg kS<|(show w=p.1 from z).trans h
   simp at this,Nj w _ 0 ws⟩
theorem Nj:∀(w:List Int) (f:D->Rc) (i:Nat) (ws:Ws),(prW w f i ws).Pairwise λp q=>p.1≠q.1
 |w,f,i,.nil=>tm
 |w,f,i,.cons l g r=>l3.mpr ⟨aaO _ _ g,Nj w f (i+1) r,λp hp q hq z=>by
   obtain⟨t,h⟩:=UG _ _ g p hp;obtain⟨k,t',hk,h'⟩:=wG w f (i+1) r q hq;rw[h,h',fF] at z;have z:=vE z;injection z with z _
   omega⟩
end
theorem Yy (g:Gm):(P g).Pairwise λp q=>p.1≠q.1:=aaO _ _ g
theorem abB {g:Gm}{pre post:List Tr}{p:Tr}(e:P g=pre++p::post)(hz:(P g).length<=100000):lL [.lst<|(P g).map trD,wy p.1]=.ok (false,.int (pre.length:Int)):=by
 have nd:=Yy g;rw[e] at nd hz ⊢;refine adH (λq hq=>?_) hz;exact(l3.mp nd).2.2 q hq p ar
section
variable {φn φw φr φa φt:Zad}{l2:Zaf}{Pl T bs:List D}{k u v di dj:D}{i j:Int}
theorem acN (h1:φt [.lst Pl,u]=.ok (false,.int i))(h2:φt [.lst Pl,v]=.ok (false,.int j))(hi:0<=i)(hij:i<j)(hs:gSl (.lst Pl) none (some j)=some (.lst T))(ha:φa [.lst T]=.ok (false,.bl true))(gi:gIx (.lst Pl) (.int i)=some di)(gj:gIx (.lst Pl) (.int j)=some dj)(hn:φn [di,dj]=.ok (false,.bl true))
  (hl:l2 [.fz<|.lst Pl,.fz k,.fz u,.fz v,.fz<|.int i,.fz<|.int j]=.ok (.lst bs)) (hb:Im [.lst bs]=some (.bl false)) (hk:gEq k (.str "unlike")=some true) (hw:φw [di,dj]=.ok (false,.bl false)):aX 6 4 (gn φn φw φr φa φt l2) [.lst Pl,k,u,v]=.ok (false,.bl true):=by
 have q1:¬i<0:=by omega
 have q2:¬j<=i:=by omega
 simp[aX,gn,aL,bu,fFn,aj,aC,aK,h1,h2,gIf,dY,dJ,fTv,aJ,aa,fC,gLt,gLe,q1,q2,fSl,fO0,fO1,hs,ha,gNx,az,gi,gj,hn,aR,hl,hb,hk,bc,Me.let,Sl.let,JS,hw]
theorem acL (h1:φt [.lst Pl,u]=.ok (false,.int i))(h2:φt [.lst Pl,v]=.ok (false,.int j))(hi:0<=i)(hij:i<j)(hs:gSl (.lst Pl) none (some j)=some (.lst T))(ha:φa [.lst T]=.ok (false,.bl true))(gi:gIx (.lst Pl) (.int i)=some di)(gj:gIx (.lst Pl) (.int j)=some dj)(hn:φn [di,dj]=.ok (false,.bl true))
  (hl:l2 [.fz<|.lst Pl,.fz k,.fz u,.fz v,.fz<|.int i,.fz<|.int j]=.ok (.lst bs)) (hb:Im [.lst bs]=some (.bl false)) (hk:gEq k (.str "unlike")=some false) (hw:φw [di,dj]=.ok (false,.bl true)) (hr:φr [di,dj]=.ok (false,.bl false)):aX 6 4 (gn φn φw φr φa φt l2) [.lst Pl,k,u,v]=.ok (false,.bl true):=by
 have q1:¬i<0:=by omega
 have q2:¬j<=i:=by omega
 simp[aX,gn,aL,bu,fFn,aj,aC,aK,h1,h2,gIf,dY,dJ,fTv,aJ,aa,fC,gLt,gLe,q1,q2,fSl,fO0,fO1,hs,ha,gNx,az,gi,gj,hn,aR,hl,hb,hk,bc,Me.let,Sl.let,JS,vz,hw,hr]
end
theorem Nu {l:List Tr}{i:Nat}(h:i<=l.length):gSl (.lst<|l.map trD) none (some (i:Int))=some (.lst<|(l.take i).map trD):=by
 show some (D.lst<|cut (l.map trD) none<|some (i:Int))=_;rw[Wi (by simpa using h),AX]
theorem Lg {pre post:List Tr}{p:Tr}:gIx (.lst<|(pre++p::post).map trD) (.int (pre.length:Int))=some (trD p):=by
 show atI _ _=_;exact jH<|by simp
theorem adf {pre0 l:List Tr}{p:Tr}{k u v:D}{i j:Nat}(hq:∀q∈pre0,okQ q)(hp:okQ p)(hn:∀q∈pre0,nA q p=false)(ht:l.take i=pre0)(hi:i<=l.length)(hz:l.length<=100000)(e:gIx (.lst<|l.map trD) (.int (j:Int))=some (trD p)):∃bs,rF [.fz<|.lst<|l.map trD,.fz k,.fz u,.fz v,.fz<|.int (i:Int),.fz<|.int (j:Int)]=.ok (.lst bs)/\Im [.lst bs]=some (.bl false):=by
 have es:=Nu hi;rw[ht] at es;have ei:cZ (fSl (aa 0) fO0<|fO1<|aa 4) [.fz<|.lst<|l.map trD,.fz k,.fz u,.fz v,.fz<|.int (i:Int),.fz<|.int (j:Int)]=.ok (pre0.map trD):=by
  generalize l.map trD=L at *;simp[cZ,fSl,aa,fO0,fO1,es]
 have ec:dZ (hName 0) gV mz [.un,.fz<|.lst<|l.map trD,.fz<|.int (j:Int)] (pre0.map trD)=.ok (pre0.map λ_=>D.bl false):=fB _ λq hq'=>by
  refine⟨[.fz<|trD q,.fz<|.lst<|l.map trD,.fz<|.int (j:Int)],rfl,rfl,?_⟩;have e1:=CK (hq q hq') hp;rw[hn q hq'] at e1;generalize l.map trD=L at *;generalize trD q=X at *;generalize trD p=Y at *;simp[mz,fFn,aj,aC,aK,az,aa,e,e1]
 have hl:pre0.length<=l.length:=by rw[← ht];exact List.length_take_le' _ _
 refine⟨_,mH ei (by simp;omega) ec,?_⟩;have b:=tL (f:=λ_:Tr=>D.bl false) (b:=λ_=>false) pre0 λ_ _=>rfl;show(qw<|pre0.map λ_=>D.bl false).map _=_;rw[b]
 simp
theorem ae0 {q:Tr}{w:List Int}{s:Int}{n:Str}{ws:Ws}{r:Rc}(h:¬nmd s n q):nA q (w,.move s n ws,r)=false:=by
 obtain⟨w',g,r'⟩:=q
 match g,h with
 | .fin _,_=>rfl
 | .deal _ _,_=>rfl
 | .move t m ws',h=>
  show decide (t=s/\m=n)=false;exact decide_eq_false λ⟨a,b⟩=>h ⟨ws',by rw[a,b]⟩
structure Two (g:Gm)(u v:List Int)(k:String):Prop where
 t:gm [.lst ((P g).map trD),.str k,wy u,wy v]=.ok (false,.bl true)
theorem eu1:gEq (.str "unlike") (.str "unlike")=some true:=by decide +kernel
theorem eu2:gEq (.str "forgets") (.str "unlike")=some false:=by decide +kernel
theorem acV {g:Gm}(W:Wf g){pre post:List Tr}{w:List Int}{s:Int}{n:Str}{ws:Ws}{r:Rc}{F:List Fi}{f:Fi}(e:P g=pre++(w,.move s n ws,r)::post)(hF:pass pre []=some F)(hf:fd1 F s n=some f):(f.wd≠wsS ws->Two g f.w w "unlike")/\(f.wd=wsS ws->f.rc≠(oZ r s).map prS->Two g f.w w "forgets"):=by
 have I:=Hv hF;have hq:=W.q;have hz:(P g).length<=100000:=by rw[show(P g).length=szG g from uL _ _ g];have:=W.siz;omega
 obtain⟨pre0,q,post0,ws0,ep,eq,fw,fd,fr,no⟩:=I.B s n f hf;obtain⟨w0,g0,r0⟩:=q;have eq:g0=.move s n ws0:=eq;subst eq;have e':P g=pre0++(w0,.move s n ws0,r0)::(post0++(w,.move s n ws,r)::post):=by rw[e,ep];simp
 have hp:okQ (w,.move s n ws,r):=hq _ (by rw[e];simp);have hq0:okQ (w0,.move s n ws0,r0):=hq _ (by rw[e'];simp);have a1:=abB e' hz;have a2:=abB e hz;have fw:f.w=w0:=fw;have lp:pre.length=pre0.length+1+post0.length:=by rw[ep];simp;omega
 have i1:=Lg (pre:=pre0) (p:=(w0,.move s n ws0,r0)) (post:=post0++(w,.move s n ws,r)::post);have i2:=Lg (pre:=pre) (p:=(w,.move s n ws,r)) (post:=post);rw[← e'] at i1;rw[← e] at i2;have s2:=Nu (l:=P g) (i:=pre.length) (by rw[e];simp);have t2:(P g).take pre.length=pre:=by rw[e];simp
 rw[t2] at s2;have t1:(P g).take pre0.length=pre0:=by rw[e'];simp
 have hlp:pre.length<=100000:=dr (show pre.length<=(P g).length by rw[e];simp) hz;have al:=Ht I (λp hp=>hq p (by rw[e];simp[hp])) hlp;have nn:=CK hq0 hp;rw[show nA (w0,.move s n ws0,r0) (w,.move s n ws,r)=true from decide_eq_true ⟨rfl,rfl⟩] at nn;have wd:=Jr hq0 hp;have rc:=Dw hq0 hp (show okP (w0,.move s n ws0,r0) from hq0.pp).1;have fr:f.rc=(oZ r0 s).map prS:=fr;rw[← fd] at wd;rw[← fr] at rc;rw[fw];have any:=λk:D=>adf (pre0:=pre0) (l:=P g) (p:=(w,.move s n ws,r)) (k:=k) (u:=wy w0) (v:=wy w) (i:=pre0.length) (j:=pre.length) (λq hq'=>hq q (by rw[e'];simp[hq'])) hp (λq hq'=>ae0<|no q hq') t1 (by rw[e'];simp) hz i2;constructor
 ·intro h;rw[decide_eq_false h] at wd;obtain⟨bs,b1,b2⟩:=any<|.str "unlike";exact⟨acN a1 a2 (by omega) (by omega) s2 al i1 i2 nn b1 b2 eu1 wd⟩
 ·intro h h';rw[decide_eq_true h] at wd;rw[decide_eq_false h'] at rc;obtain⟨bs,b1,b2⟩:=any<|.str "forgets";exact⟨acL a1 a2 (by omega) (by omega) s2 al i1 i2 nn b1 b2 eu2 wd rc⟩
section
variable (φ__law_table φ__law_too_great φ__law_one_is_right φ__law_all_right φ__law_at φ__law_two_ways:Zad)
def lTl:Zac:=
 (aL (gIf (dY (aJ gEq (az gIx (aa 6)<|fC<|.int 0)<|fC<|.str "wrong")<|aJ gNe (iV gEq (az gIx (aa 6)<|fC<|.int 0)<|fC<|.str "too great")<|fFn φ__law_too_great<|aj (aK 4) aC) (bc<|fC<|.bl false) gNx)
 (aL (gIf (aJ gEq (az gIx (aa 6)<|fC<|.int 0)<|fC<|.str "table") (bc<|vz (fFn φ__law_all_right<|aj (aK 5) aC)<|iV gEq (az gIx (aa 6)<|fC<|.int 1)<|fFn φ__law_table<|aj (aK 4) aC) gNx)
 (aL (gIf (aJ gEq (az gIx (aa 6)<|fC<|.int 0)<|fC<|.str "no shares") (aL (bu 7<|fFn φ__law_at<|aj (aK 5)<|aj (az gIx (aa 6)<|fC<|.int 1) aC)
 (bc<|vz (iV gGe (aa 7)<|fC<|.int 0)<|vz (JS<|fFn φ__law_one_is_right<|aj (az gIx (az gIx (aa 5)<|aa 7)<|fC<|.int 1) aC)<|fFn φ__law_all_right<|aj (fSl (aa 5) fO0<|fO1<|aa 7) aC)) gNx)
 (bc<|fOr (iV gEq (az gIx (aa 6)<|fC<|.int 0)<|fC<|.str "too great")<|fFn φ__law_two_ways<|aj (aK 5)<|aj (az gIx (aa 6)<|fC<|.int 0)<|aj (az gIx (aa 6)<|fC<|.int 1)<|aj (az gIx (aa 6)<|fC<|.int 2) aC))))
end
section
variable {φ__law_table φ__law_too_great φ__law_one_is_right φ__law_all_right φ__law_at φ__law_two_ways:Zad}{sc pl fi G k d w u v e0:D}{Ps ds T:List D}{s3:Sl}{f:Bool}{i:Int}
theorem k0 (k:D)(ds:List D):gIx (.tup (k::ds)) (.int 0)=some k:=jH (xs:=k::ds) (j:=0) rfl
theorem k1 (k d:D)(ds:List D):gIx (.tup (k::d::ds)) (.int 1)=some d:=jH (xs:=k::d::ds) (j:=1) rfl
theorem k2 (k d e:D)(ds:List D):gIx (.tup (k::d::e::ds)) (.int 2)=some e:=jH (xs:=k::d::e::ds) (j:=2) rfl
theorem abw (h1:gEq k (.str "wrong")=some false)(h2:gEq k (.str "too great")=some true)(h3:gEq k (.str "table")=some false)(h4:gEq k (.str "no shares")=some false)(ht:φ__law_too_great [G]=.ok (false,.bl true)):∃m',lTl φ__law_table φ__law_too_great φ__law_one_is_right φ__law_all_right φ__law_at φ__law_two_ways [.fz sc,.fz pl,.fz d,s3,.fz G,.fz<|.lst Ps,.fz<|.tup (k::ds),.un]=.ok (.rt false<|.bl true,m'):=by
 have z:=k0 k ds;generalize D.tup (k::ds)=Z at *;simp[lTl,aL,gIf,dY,aJ,az,aa,fC,z,h1,iV,h2,fFn,aj,aC,aK,ht,gNx,h3,h4,bc,Me.let,Sl.let,fOr,fTv]
theorem acZ (h1:gEq k (.str "wrong")=some false)(h2:gEq k (.str "too great")=some false)(h3:gEq k (.str "table")=some true)(ht:φ__law_too_great [G]=.ok (false,.bl false))(ha:φ__law_all_right [.lst Ps]=.ok (false,.bl true))(hT:φ__law_table [G]=.ok (f,w))(he:gEq w w=some true):∃m',lTl φ__law_table φ__law_too_great φ__law_one_is_right φ__law_all_right φ__law_at φ__law_two_ways [.fz sc,.fz pl,.fz d,s3,.fz G,.fz<|.lst Ps,.fz<|.tup (k::w::ds),.un]=.ok (.rt false<|.bl true,m'):=by
 have z:=k0 k (w::ds);have z1:=k1 k w ds;generalize D.tup (k::w::ds)=Z at *;simp[lTl,aL,gIf,dY,aJ,az,aa,fC,z,z1,h1,iV,h2,fFn,aj,aC,aK,ht,gNx,h3,bc,Me.let,Sl.let,vz,fTv,ha,hT,he]
theorem ab8 (h1:gEq k (.str "wrong")=some false)(h2:gEq k (.str "too great")=some false)(h3:gEq k (.str "table")=some false)(h4:gEq k (.str "no shares")=some true)(ht:φ__law_too_great [G]=.ok (false,.bl false))(hi:φ__law_at [.lst Ps,w]=.ok (false,.int i))(h0:0<=i)(gi:gIx (.lst Ps) (.int i)=some u)(gu:gIx u (.int 1)=some v)(hr:φ__law_one_is_right [v]=.ok (false,.bl false))(hs:gSl (.lst Ps) none (some i)=some (.lst T))(ha:φ__law_all_right [.lst T]=.ok (false,.bl true)):∃m',lTl φ__law_table φ__law_too_great φ__law_one_is_right φ__law_all_right φ__law_at φ__law_two_ways [.fz sc,.fz pl,.fz d,s3,.fz G,.fz<|.lst Ps,.fz<|.tup (k::w::ds),.un]=.ok (.rt false<|.bl true,m'):=by
 have z:=k0 k (w::ds);have z1:=k1 k w ds;generalize D.tup (k::w::ds)=Z at *;simp[lTl,aL,gIf,dY,aJ,az,aa,fC,z,z1,h1,iV,h2,fFn,aj,aC,aK,ht,gNx,h3,h4,bu,hi,bc,Me.let,Sl.let,vz,fTv,gGe,h0,JS,gi,gu,hr,fSl,fO0,fO1,hs,ha]
theorem Uz (h1:gEq k (.str "wrong")=some false)(h2:gEq k (.str "too great")=some false)(h3:gEq k (.str "table")=some false)(h4:gEq k (.str "no shares")=some false)(ht:φ__law_too_great [G]=.ok (false,.bl false))(hw:φ__law_two_ways [.lst Ps,k,u,v]=.ok (false,.bl true)):∃m',lTl φ__law_table φ__law_too_great φ__law_one_is_right φ__law_all_right φ__law_at φ__law_two_ways [.fz sc,.fz pl,.fz d,s3,.fz G,.fz<|.lst Ps,.fz<|.tup [k,u,v],.un]=.ok (.rt false<|.bl true,m'):=by
 have z:=k0 k [u,v];have z1:=k1 k u [v];have z2:=k2 k u v [];generalize D.tup [k,u,v]=Z at *;simp[lTl,aL,gIf,dY,aJ,az,aa,fC,z,z1,z2,h1,iV,h2,fFn,aj,aC,aK,ht,gNx,h3,h4,bc,Me.let,Sl.let,fOr,fTv,hw]
end
theorem ab7 {p:Tr}{F:List Fi}{x:Xn}(h:stp p F=.inl x):(oR p.2.1=false/\x=xS p.1)\/∃s n ws f,p.2.1=.move s n ws/\fd1 F s n=some f/\((f.wd≠wsS ws/\x=xU f.w p.1)\/(f.wd=wsS ws/\f.rc≠(oZ p.2.2 s).map prS/\x=xF f.w p.1)):=by
 obtain⟨w,g,r⟩:=p
 match g,h with
 | .fin d,h=>cases h
 | .deal m ws,h=>
  unfold stp at h;simp only at h;by_cases q:Jk (Nz ws)=true
  ·rw[if_pos q] at h;cases h
  ·rw[if_neg q] at h;cases h;exact .inl ⟨by simpa[oR] using q,rfl⟩
 | .move s n ws,h=>
  unfold stp at h;cases e:fd1 F s n with
  |none=>simp only[e] at h;cases h
  |some f=>
   simp only[e] at h;refine .inr ⟨s,n,ws,f,rfl,e,?_⟩;by_cases q1:f.wd=wsS ws
   ·by_cases q2:f.rc=(oZ r s).map prS
    ·rw[if_neg (by simpa using q1),if_neg<|by simpa using q2] at h;cases h
    ·rw[if_neg (by simpa using q1),if_pos<|by simpa using q2] at h;cases h;exact .inr ⟨q1,q2,rfl⟩
   ·rw[if_pos<|by simpa using q1] at h;cases h;exact .inl ⟨q1,rfl⟩
abbrev lT:Zac:=lTl gC bY cM dO lL gm
theorem R0 {g:Gm}(W:Wf g){sc pl d:D}{s3:Sl}:∃m',lT [.fz sc,.fz pl,.fz d,s3,.fz<|dG g,.fz<|.lst<|(P g).map trD,.fz<|vG g,.un]=.ok (.rt false<|.bl true,m'):=by
 have hz:(P g).length<=100000:=by rw[show(P g).length=szG g from uL _ _ g];have:=W.siz;omega
 have hq:=W.q;have d1:=W.dep;have d2:=W.siz;have tg:=abb W;have tb':=Fz W.len W.sd (by omega) (by omega);have vo:=ae2 W;by_cases ht:Jx g=true
 ·have ev:vG g=.tup [.str "too great"]:=if_pos ht;rw[ht] at tg;rw[ev];exact abw (by decide +kernel) (by decide +kernel) (by decide +kernel) (by decide +kernel) tg
 ·rw[show Jx g=false by simpa using ht] at tg;cases sn:scan (P g) [] with
  |none=>
   have ev:vG g=.tup [.str "table",.lst<|tb g]:=by unfold vG;rw[if_neg ht,sn]
   rw[ev] at vo ⊢;obtain⟨F,hF⟩:=Fx sn;have se:gEq (.lst<|tb g) (.lst<|tb g)=some true:=by
    refine Ji ?_ ?_
    ·have:=vo.1
     simp only[okD,qC,g7] at this ⊢;exact this.2.1
    ·have:=vo.2
     simp only[gf,iT] at this ⊢;omega
   exact acZ (by decide +kernel) (by decide +kernel) (by decide +kernel) tg (Ht (Hv hF) hq hz) tb' se
  |some x=>
   have ev:vG g=vd x:=by unfold vG;rw[if_neg ht,sn]
   rw[ev];obtain⟨pre,p,post,F,e,hF,hx⟩:=Gj sn;have I:=Hv hF;have hlp:pre.length<=(P g).length:=by rw[e];simp
   rcases ab7 hx with⟨ho,rfl⟩|⟨s,n,ws,f,hm,hf,h⟩
   ·have hp:=hq p (by rw[e];simp);have i1:=Lg (pre:=pre) (p:=p) (post:=post);rw[← e] at i1;have s2:=Nu (l:=P g) (i:=pre.length) hlp;rw[show(P g).take pre.length=pre by rw[e];simp] at s2;have r1:=JC hp.w hp.l;rw[ho] at r1;exact ab8 (k:=.str "no shares") (w:=wy p.1) (ds:=[]) (by decide +kernel) (by decide +kernel) (by decide +kernel) (by decide +kernel) tg (abB e hz) (by omega) i1 (show gIx (trD p) (.int 1)=some (dG p.2.1) from rfl) r1 s2 (Ht I (λq hq'=>hq q (by rw[e];simp[hq']))<|by omega)
   ·obtain⟨w,g0,r⟩:=p;have hm:g0=.move s n ws:=hm;subst hm;have t:=acV W e hF hf;rcases h with⟨a,rfl⟩|⟨a,b,rfl⟩
    ·exact Uz (k:=.str "unlike") (u:=wy f.w) (v:=wy w) (by decide +kernel) (by decide +kernel) (by decide +kernel) (by decide +kernel) tg (t.1 a).t
    ·exact Uz (k:=.str "forgets") (u:=wy f.w) (v:=wy w) (by decide +kernel) (by decide +kernel) (by decide +kernel) (by decide +kernel) tg (t.2 a b).t
theorem XX {e:En}{f1 f2 f3 f4 f5:Zaf}{m:Me}(h1:f1 m=.ok (.int 0))(h2:f2 m=.ok (.int 63))(h3:f3 m=.ok (.lst<|e.pool.map D.str))(h4:f4 m=.ok (.int e.turn))(h5:f5 m=.ok (.bl e.lev)):Qe [((fC<|.str "at"),f1),((fC<|.str "room"),f2),((fC<|.str "pool"),f3),((fC<|.str "turn"),f4),((fC<|.str "level"),f5)] m=.ok (sD e 0 63):=by
 simp[Qe,Ja,fC,h1,h2,h3,h4,h5,Xp,Bc,putD,sD,sKs,sk]
theorem Zz {φc φp φpl φtb φtg φto φo φar φat φtw:Zad}{φb:Bi}{e:En}{sc:List D}{c0 c1 f c3 c4:Int}{G S':D}{Ps:List D}{vd':D}{fr fr':Bool}{dd:Int}
  (h0:φc [.lst sc,.int 0]=.ok (false,.int c0)) (h1:φc [.lst sc,.int 1]=.ok (false,.int c1)) (h2:φc [.lst sc,.int 2]=.ok (false,.int f)) (h3:φc [.lst sc,.int 3]=.ok (false,.int c3)) (h4:φc [.lst sc,.int 4]=.ok (false,.int c4))
  (hp:φp [.int c0,.int c1]=.ok (true,.lst<|e.pool.map D.str)) (ht:e.turn=c3%64) (hl:e.lev=decide (f/5%2=1)) (hc:eN (.lst<|cut sc (some 6)<|some 62) (.lst [.int c4])=some (.lst<|e.cells.map D.int)) (hd:eN (.int 2) (.int<|f%5)=some (.int dd))
  (hb:φb [.lst<|e.cells.map D.int,.int dd] (sD e 0 63)=.ok (G,S')) (ξ:φpl [G]=.ok (fr,.lst Ps)) (hto:φto [G]=.ok (fr',vd')):
  JD φc φp φb φpl φtb φtg φto φo φar φat φtw [.fz<|.lst sc,.un,.un,.un,.un,.un,.un,.un]=lTl φtb φtg φo φar φat φtw [.fz<|.lst sc,.fz<|.lst<|e.pool.map D.str,.fz<|.int f,.ow S',.fz G,.fz<|.lst Ps,.fz vd',.un]:=by
 have b5:Bq 5:=bgS (by decide);have hs:gSl (.lst sc) (some 6) (some 62)=some (.lst<|cut sc (some 6)<|some 62):=rfl;unfold JD;refine(gs (m1:=[.fz<|.lst sc,.fz<|.lst<|e.pool.map D.str,.un,.un,.un,.un,.un,.un])<|by simp[bu,fFn,aj,aC,aK,fC,h0,h1,hp]).trans ?_;refine(gs (m1:=[.fz<|.lst sc,.fz<|.lst<|e.pool.map D.str,.fz<|.int f,.un,.un,.un,.un,.un])<|by simp[bu,fFn,aj,aC,aK,fC,h2]).trans ?_;refine(gs (m1:=[.fz<|.lst sc,.fz<|.lst<|e.pool.map D.str,.fz<|.int f,.ow<|sD e 0 63,.un,.un,.un,.un]) ?_).trans ?_
 ·have:=XX (e:=e) (f1:=fC<|.int 0) (f2:=fC<|.int 63) (f3:=aK 1) (f4:=az cI (fFn φc<|aj (aK 0)<|aj (fC<|.int 3) aC)<|fC<|.int 64) (f5:=iV gEq (az cI (az gJ (aa 2)<|fC<|.int 5)<|fC<|.int 2)<|fC<|.int 1) (m:=[.fz<|.lst sc,.fz<|.lst<|e.pool.map D.str,.fz<|.int f,.un,.un,.un,.un,.un]) rfl rfl rfl (by simp[az,fFn,aj,aC,aK,fC,h3,cI,mdI,ht]) (by simp[iV,az,aa,fC,gJ,dvI,b5,cI,mdI,hl])
  simp only[gQ,this];rfl
 generalize sD e 0 63=S at *;refine(gs (m1:=[.fz<|.lst sc,.fz<|.lst<|e.pool.map D.str,.fz<|.int f,.ow S',.fz G,.un,.un,.un]) (by
  simp[Gw,tK,Jp,aj,aC,az,fSl,aa,aK,fO1,fC,hs,gO,fFn,h4,hc,cI,mdI,hd,hb,Nv])).trans ?_
 refine(gs (m1:=[.fz<|.lst sc,.fz<|.lst<|e.pool.map D.str,.fz<|.int f,.ow S',.fz G,.fz<|.lst Ps,.un,.un])<|by simp[bu,fFn,aj,aC,aK,ξ]).trans ?_;exact gs (m1:=[.fz<|.lst sc,.fz<|.lst<|e.pool.map D.str,.fz<|.int f,.ow S',.fz G,.fz<|.lst Ps,.fz vd',.un])<|by simp[bu,fFn,aj,aC,aK,hto]
theorem afk {g:Zac}{ns d:D}{m':Me}(e:g [.fz ns,.un,.un,.un,.un,.un,.un,.un]=.ok (.rt false d,m')):aX 8 1 g [ns]=.ok (false,d):=by
 simp[aX,e]
theorem WQ (ns:List Int)(h:ns.length<=63):∃fr,aaV [.lst<|ns.map D.int]=.ok (fr,.bl true):=by
 have hz:ns.length<=1000:=by omega
 obtain⟨c0,h0⟩:=cell_eq ns 0 hz;obtain⟨c1,h1⟩:=cell_eq ns 1 hz;obtain⟨f,h2⟩:=cell_eq ns 2 hz;obtain⟨c3,h3⟩:=cell_eq ns 3 hz;obtain⟨c4,h4⟩:=cell_eq ns 4 hz;obtain⟨p,ep,PO⟩:=ZL c0 c1;have lc:(cut ns (some 6)<|some 62).length<=63:=by
  unfold cut;rw[kK,l7];omega
 let e:En:=⟨cut ns (some 6) (some 62)++[c4],p,c3%64,decide<|f/5%2=1⟩
 have E:Iu e:=⟨by show 1<=(cut ns (some 6) (some 62)++[c4]).length;simp,by show(cut ns (some 6) (some 62)++[c4]).length<=100;simp;omega,PO.p8,(by show 0<=c3%64/\c3%64<64;omega),PO.ok⟩;obtain⟨d,hd⟩:∃d:Nat,(d:Int)=2+f%5:=⟨(2+f%5).toNat,by omega⟩;obtain⟨g,a',r',eb,_,G⟩:=Jy E 8 d (by omega) 0 63 (by decide);have W:Wf g:=by
  refine G.ok (by omega) ?_
  match d,(show d<=6 by omega) with
  |0,_=>decide
  |1,_=>decide
  |2,_=>decide
  |3,_=>decide
  |4,_=>decide
  |5,_=>decide
  |6,_=>decide
 have d1:=W.dep;have d2:=W.siz;have hc:eN (.lst<|cut (ns.map D.int) (some 6)<|some 62) (.lst [.int c4])=some (.lst<|e.cells.map D.int):=by
  have e1:cut (ns.map D.int) (some 6) (some 62)=(cut ns (some 6)<|some 62).map D.int:=by
   unfold cut;simp[AX,List.map_drop]
  rw[e1];have z:(cut ns (some 6)<|some 62).length+1<=16777216:=by omega
  show(if _ then _ else _)=_;rw[if_pos<|by simpa using z];show _=some (D.lst<|(cut ns (some 6) (some 62)++[c4]).map D.int)
  simp
 have pre:=Zz (φb:=bK 8) (φtb:=gC) (φtg:=bY) (φo:=cM) (φar:=dO) (φat:=lL) (φtw:=gm) (e:=e) (dd:=(d:Int)) h0 h1 h2 h3 h4 ep rfl rfl hc (by rw[hd];rfl) eb (xJ W.len W.sd (by omega)<|by omega)<|ZJ W;obtain⟨m',t⟩:=R0 W (sc:=.lst<|ns.map D.int) (pl:=.lst<|e.pool.map D.str) (d:=.int f) (s3:=.ow<|sD e a' r');have t:=pre.trans t;refine⟨false,?_⟩;show aX 8 1 (JD g8 rn (bK 8) gD gC bY o8 cM dO lL gm) _=_;exact afk t
end K17
namespace F
open PySem L2 Hd
section
variable {A:Type}{p:List A->Prop}
theorem xb1 (h:∀a,p [a])(us:List A)(e:us.length=1):p us:=by
 cases us with
 |nil=>cases e
 |cons a t=>cases t with
  |nil=>exact h a
  |cons _ _=>cases e
theorem xb0 (h:∀a t,t.length=n->p (a::t))(us:List A)(e:us.length=n+1):p us:=by
 cases us with
 |nil=>cases e
 |cons a t=>exact h a t (Nat.succ.inj e)
theorem xb2 (h:∀a b,p [a,b]):∀us:List A,us.length=2->p us:=xb0 λa=>xb1 (p:=λt=>p (a::t))<|h a
theorem xb3 (h:∀a b c,p [a,b,c]):∀us:List A,us.length=3->p us:=xb0 λa=>xb2 (p:=λt=>p (a::t))<|h a
theorem xb4 (h:∀a b c d,p [a,b,c,d]):∀us:List A,us.length=4->p us:=xb0 λa=>xb3 (p:=λt=>p (a::t))<|h a
end
structure QD (K:a7)(x:Str)(st:Stmt):Prop where
 ex:∃f fd,Fun K x x st f fd/\oq K cE x=some (some (.ref f))
section
variable {P:bq}{w:dA}{K:a7}{mg:Zaa}{base h:Heap}{x q c:Str}{st:Stmt}{ps:List Str}{C f:Addr}{oc:aw}{od an:Option Addr}{osl:Array (Option aw)}{kV doc pm cdv ct:aw}{k:Nat}{sp:Sp}
theorem qd (a:oq K cE x=some (some<|.ref f))(l:K.lookup f=some ⟨oc,od,.func<|v3 x x (qe st) (gU st) (aF st) .none kV doc pm an cdv ct,osl⟩)(c:AK K cdv x=true)(k:la K (.ref f)=true):QD K x st:=⟨f,_,T8 l c k,a⟩
theorem QD.df (Q:QD K x st)(X:K.In h)(G:h.Ns cE mg)(hb:∀(kV doc pm:aw) (an:Option Addr) (cdv ct:aw) (us:List aw),us.length=ps.length->bindArgs (v3 x x (qe st) (gU st) (aF st) .none kV doc pm an cdv ct) ⟨us,[]⟩=pure (ps.zip us)):Df K mg x st ps:=by
 obtain⟨f,fd,F,a⟩:=Q.ex;exact⟨f,fd,F,F.binds hb,kH X G a⟩
end
section
variable {X:Cx}{E:XK}{e a b tg iter:Expr}{body:List Stmt}{f fa fb:Zaf}{fi:Zae}{g:Zac}{h:Zbb}{pos pos':Pos}{i:Nat}{x:Str}
theorem aG (ha:FB X E a fa)(hb:FB X E b fb)(hs:Bw b:=by exact λ_ _=>rfl):FE X E (.Subscript a b pos) (az gIx fa fb):=aaw ac3 ha hb hs
theorem cF (hN:X.N.Nodup)(he:FE X E e f)(hi:X.N[i]? = some x:=by rfl)(hx:Loc X.env.scope x:=by first|exact .inl rfl|exact .inr rfl)(hs:fg e (some<|.Name x pos') pos.line X.env=pure false:=by rfl)
  (hf:X.fn x=true\/X.env.scope.names.lookup x=some .local:=by first|exact .inl rfl|exact .inr rfl|assumption):FS X E (.Assign [.Name x pos'] e pos) (bu i f):=V1 hN hi hx he hs hf
theorem rJ (hN:X.N.Nodup)(he:FN X E e f)(hi:X.N[i]? = some x:=by rfl)(hx:Loc X.env.scope x:=by first|exact .inl rfl|exact .inr rfl)(hs:fg e (some<|.Name x pos') pos.line X.env=pure false:=by rfl)
  (hf:X.fn x=true\/X.env.scope.names.lookup x=some .local:=by first|exact .inl rfl|exact .inr rfl|assumption):FS X E (.Assign [.Name x pos'] e pos) (gQ i f):=T3 hN hi hx he hs hf
theorem bx {k:Nat}(hN:X.N.Nodup)(hi:X.N[i]? = some x:=by rfl)(hx:Loc X.env.scope x:=by first|exact .inl rfl|exact .inr rfl)(hk:i<k:=by decide)
  (hf:X.fn x=true\/X.env.scope.names.lookup x=some .local:=by first|exact .inl rfl|exact .inr rfl|assumption):FG X k (.Name x pos) (hName i):=Z6 hN hi hx hk hf
theorem jo (hi:FI X E tg iter fi)(hg:FG X 1000 tg h)(hb:FSs X E body g)(hp:xo (b6 X.prog X.w) X.A X.env X.xe:=by exact iL)(hc:X.calm=true:=by rfl)
  (hs:∀x,gE iter X.env x=pure x:=by intro _;rfl):FS X E (.For tg iter body [] pos) (eQ fi h g):=abS hp hc hi hg hb hs
end
theorem nds {N:List Str}(h:decide N.Nodup=true):N.Nodup:=of_decide_eq_true h
abbrev NO (K:a7)(x:Str):Prop:=oq K cE x=some none
structure Cb (K:a7)(mg:Zaa)(base:Heap):Prop where
 X:K.In base
 N:base.Ns cE mg
structure Ck (K:a7)(x:Str)(i j:Int):Prop where
 ex:∃C nn sl t u,oq K cE x=some (some (.ref C))/\K.lookup C=some ⟨.type "tuple",none,.seq #[.int i t,.int j u] nn,sl⟩
section
variable {P:bq}{w:dA}{K:a7}{mg:Zaa}{base:Heap}{x:Str}{st:Stmt}{N ps:List Str}{k:Nat}{g:Zac}{i j:Int}
theorem ck {C:Addr}{nn:Nat}{sl:Array (Option aw)}{t u:Tok}(a:oq K cE x=some (some<|.ref C))(b:K.lookup C=some ⟨.type "tuple",none,.seq #[.int i t,.int j u] nn,sl⟩):Ck K x i j:=⟨_,_,_,_,_,a,b⟩
theorem Cb.no (C:Cb K mg base)(h:NO K x):mg x=none:=W.mg_none_of C.X C.N h
theorem Cb.cn {X:Cx}{E:XK}{pos:Pos}(B:Cb X.K X.mg X.base)(c:Ck X.K x i j)(hg:Gl X x:=by rfl)(hd:(x==("__debug__":Str))=false:=by decide):FE X E (.Name x pos) (fC<|.tup [.int i,.int j]):=by
 obtain⟨C,_,_,t,u,a,b⟩:=c.ex;exact PX hg (kH B.X B.N a) (v:=.ref C) rfl (λ_ _=>.tup (xs:=[.int i,.int j]) (.inr ⟨_,_,_,b,rfl,⟨rfl,rfl⟩,(show 2<=av by decide),(.cons ⟨t,rfl⟩<|.cons ⟨u,rfl⟩ .nil)⟩) (.cons (.int i)<|.cons (.int j) .nil)) hd
abbrev Bds (x:Str)(st:Stmt)(ps:List Str):Prop:=∀(kV doc pm:aw) (an:Option Addr) (cdv ct:aw) (us:List aw),us.length=ps.length->bindArgs (v3 x x (qe st) (gU st) (aF st) .none kV doc pm an cdv ct) ⟨us,[]⟩=pure (ps.zip us)
theorem QD.ff {sp:Sp}(Q:QD K x st)(C:Cb K mg base)(hk:∀f fd,Fun K x x st f fd->oM P w K mg base (CX1 P w) k f fd ps sp)
  (hb:Bds x st ps:=by first|exact λ_ _ _ _ _ _=>xb1 λ_=>rfl|exact λ_ _ _ _ _ _=>xb2 λ_ _=>rfl|exact λ_ _ _ _ _ _=>xb3 λ_ _ _=>rfl|exact λ_ _ _ _ _ _=>xb4 λ_ _ _ _=>rfl|exact λ_ _ _ _ _ _=>xb5 λ_ _ _ _ _=>rfl|exact λ_ _ _ _ _ _=>xb6 λ_ _ _ _ _ _=>rfl):Hd.Fn P w K mg base k x ps sp:=(Q.df C.X C.N hb).fn hk
end
open PySem PySem.Spec PyProof.Rows L2 Hd
structure Ci (K:a7)(x:Str)(i:Int):Prop where
 ex:∃t,oq K cE x=some (some (.int i t))
section
variable {K:a7}{x:Str}{i:Int}
theorem ci {t:Tok}(a:oq K cE x=some (some<|.int i t)):Ci K x i:=⟨_,a⟩
theorem Cb.ci {X:Cx}{E:XK}{pos:Pos}(B:Cb X.K X.mg X.base)(c:Ci X.K x i)(hg:Gl X x:=by rfl)(hd:(x==("__debug__":Str))=false:=by decide):FE X E (.Name x pos) (fC<|.int i):=by
 obtain⟨t,a⟩:=c.ex;exact PX hg (kH B.X B.N a) (v:=.int i) ⟨t,rfl⟩ (λ_ _=>.int i) hd
end
end F
namespace K17
open PySem L2 Hd F Pk Lw
def clsAt (s:Stmt)(j:Nat):Stmt:=match s with
 | .ClassDef _ _ _ b ..=>b.getD j<|.Pass ⟨0,0,0,0⟩
 |_=>.Pass ⟨0,0,0,0⟩
local macro_rules | `(tactic| trivial)=>`(tactic| first|exact⟨rfl,rfl,rfl,by decide +kernel,rfl,by decide +kernel,by decide +kernel⟩|exact⟨rfl,by decide +kernel,by decide +kernel,by decide +kernel,by decide +kernel⟩)
noncomputable def top (i:Nat):Stmt:=PySem.Challenge.pw_hushduel_k17_whole_nobody_forgets.main.body.getD i<|.Pass ⟨0,0,0,0⟩
theorem El:cc "ValueError" = some (.type "ValueError"):=by decide +kernel
theorem Eg:cc "abs" = some (.builtin "abs"):=by decide +kernel
theorem Vu:cc "all" = some (.builtin "all"):=by decide +kernel
theorem Nk:cc "any" = some (.builtin "any"):=by decide +kernel
theorem Qa:cc "bool" = some (.type "bool"):=by decide +kernel
theorem U6:cc "int" = some (.type "int"):=by decide +kernel
theorem bM:cc "isinstance" = some (.builtin "isinstance"):=by decide +kernel
theorem je:cc "len" = some (.builtin "len"):=by decide +kernel
theorem yR:cc "list" = some (.type "list"):=by decide +kernel
theorem abP:cc "max" = some (.builtin "max"):=by decide +kernel
theorem abp:cc "str" = some (.type "str"):=by decide +kernel
theorem Ni:cc "sum" = some (.builtin "sum"):=by decide +kernel
theorem j0:cc "tuple" = some (.type "tuple"):=by decide +kernel
abbrev qU:Stmt:=clsAt (top 8) 0
abbrev pU:Stmt:=clsAt (top 6) 0
abbrev rH:Stmt:=clsAt (top 7) 0
abbrev sX:Stmt:=top 12
abbrev JZ:Stmt:=top 13
abbrev Ua:Stmt:=top 14
abbrev Rg:Stmt:=top 15
abbrev O3:Stmt:=top 16
abbrev sH:Stmt:=top 18
abbrev vJ:Stmt:=top 19
abbrev xP:Stmt:=top 27
abbrev tW:Stmt:=top 28
abbrev mV:Stmt:=top 29
abbrev JH:Stmt:=top 30
abbrev DP:Stmt:=top 31
abbrev z9:Stmt:=top 32
abbrev rT:Stmt:=top 33
abbrev qG:Stmt:=top 34
abbrev Cu:Stmt:=top 35
abbrev jg:Stmt:=top 36
abbrev oW:Stmt:=top 37
abbrev oG:Stmt:=top 38
abbrev gM:Stmt:=top 39
abbrev uK:Stmt:=top 40
abbrev qO:Stmt:=top 41
abbrev tR:Stmt:=top 42
abbrev Up:Stmt:=top 43
abbrev wA:Stmt:=top 45
abbrev wY:Stmt:=top 46
abbrev rm:Stmt:=top 47
abbrev Dz:Stmt:=top 48
abbrev qi:Stmt:=top 49
abbrev qI:Stmt:=top 50
abbrev yO:Stmt:=top 51
abbrev rR:Stmt:=top 52
abbrev ur:Stmt:=top 53
abbrev vW:Stmt:=top 54
abbrev tQ:Stmt:=top 55
abbrev ph:Stmt:=top 56
abbrev ni:Stmt:=top 57
abbrev jD:Stmt:=top 58
abbrev Af:Stmt:=top 59
abbrev vV:Stmt:=top 60
abbrev Ad:Stmt:=top 61
abbrev jQ:Stmt:=top 62
abbrev qP:Stmt:=top 63
abbrev iD:Stmt:=top 64
abbrev oJ:Stmt:=top 65
abbrev tV:Stmt:=top 66
abbrev Gs:Stmt:=top 67
abbrev pN:Stmt:=top 68
abbrev Ff:Stmt:=top 69
structure Qs (K:a7):Prop where
 q0:QD K "common_divisor" sX
 q1:QD K "lowest" JZ
 q2:QD K "plus" Ua
 q3:QD K "under" Rg
 q4:QD K "total" O3
 q5:QD K "branches_of" sH
 q6:QD K "places_of" vJ
 q7:QD K "words_at" xP
 q8:QD K "records_behind" tW
 q9:QD K "places_with_records" mV
 q10:QD K "row_at" JH
 q11:QD K "table_of" DP
 q12:QD K "rows_of" z9
 q13:QD K "count_words" rT
 q14:QD K "fractions_at" qG
 q15:QD K "is_great" Cu
 q16:QD K "refuse_great_places" jg
 q17:QD K "refuse_great_table" oW
 q18:QD K "refuse_great_shape" oG
 q19:QD K "refuse_great_fractions" gM
 q20:QD K "are_shares" uK
 q21:QD K "refuse_other_row" qO
 q22:QD K "refuse_unsound" tR
 q23:QD K "look" Up
 q24:QD K "_law_cell_at" wA
 q25:QD K "_law_lowest" wY
 q26:QD K "_law_pool" rm
 q27:QD K "_law_mix" Dz
 q28:QD K "_law_deal_of" qi
 q29:QD K "_law_move_of" qI
 q30:QD K "_law_built" yO
 q31:QD K "_law_places" rR
 q32:QD K "_law_table" ur
 q33:QD K "_law_is_text" vW
 q34:QD K "_law_is_record" tQ
 q35:QD K "_law_is_table" ph
 q36:QD K "_law_fractions" ni
 q37:QD K "_law_too_great" jD
 q38:QD K "_law_ways" Af
 q39:QD K "_law_refusal" vV
 q40:QD K "_law_told" Ad
 q41:QD K "_law_one_is_right" jQ
 q42:QD K "_law_named_alike" qP
 q43:QD K "_law_words_alike" iD
 q44:QD K "_law_records_alike" oJ
 q45:QD K "_law_all_right" tV
 q46:QD K "_law_at" Gs
 q47:QD K "_law_two_ways" pN
 q48:QD K "law" Ff
 n0:NO K "ValueError"
 n1:NO K "abs"
 n2:NO K "all"
 n3:NO K "any"
 n4:NO K "bool"
 n5:NO K "enumerate"
 n6:NO K "int"
 n7:NO K "isinstance"
 n8:NO K "len"
 n9:NO K "list"
 n10:NO K "max"
 n11:NO K "range"
 n12:NO K "reversed"
 n13:NO K "str"
 n14:NO K "sum"
 n15:NO K "tuple"
 c0:Ck K "NOUGHT" 0 1
 c1:Ck K "ONE" 1 1
 i0:Ci K "MOST_PLACES" 64
 i1:Ci K "MOST_BRANCHES" 12
 i2:Ci K "MOST_NAMES" 8
 i3:Ci K "MOST_WORDS_SEEN" 24
 i4:Ci K "GREATEST_TOP" 999999999999
 i5:Ci K "GREATEST_BOTTOM" 999
structure ExT (K:a7)(mg:Zaa):Prop where
 TooGreat:∃C,mg "TooGreat" = some (.ref C)/\B0 K C [.type "ValueError",.type "Exception",.type "BaseException",.type "object"] "ValueError.__new__" = true
structure XcT (K:a7)(mg:Zaa):Prop where
 c_DuelError:∃C,mg "DuelError" = some (.ref C)/\∀c D,dW c=true->mg c=some (.ref D)->r9 K (.ref D) (.ref C)=some true
 i_Forgets:ICl K mg "Forgets" jn
 i_NoPlace:ICl K mg "NoPlace" ju
 i_NoPlan:ICl K mg "NoPlan" lg
 i_NoShares:ICl K mg "NoShares" iB
 i_NoText:ICl K mg "NoText" lr
 i_TooGreat:ICl K mg "TooGreat" iM
 i_Unlike:ICl K mg "Unlike" kO
 i_ValueError:mg "ValueError" = none/\∀c D b,fG c=some b->mg c=some (.ref D)->XC K D/\bS K (.ref D) (.type "ValueError")=some b
 f_one:∀c C,pX c=true->mg c=some (.ref C)->XF K C/\cq K (.ref C) "one" = some none
 f_other:∀c C,jB c=true->mg c=some (.ref C)->XF K C/\cq K (.ref C) "other" = some none
 f_way:∀c C,wI c=true->mg c=some (.ref C)->XF K C/\cq K (.ref C) "way" = some none
structure XfT (P:bq)(w:dA)(K:a7)(mg:Zaa)(base:Heap):Prop where
 x_Forgets:XFn P w K mg base 1 "Forgets" ["one", "other"]
 x_NoShares:XFn P w K mg base 1 "NoShares" ["way"]
 x_Unlike:XFn P w K mg base 1 "Unlike" ["one", "other"]
structure Bt (P:bq)(w:dA)(K:a7)(mg:Zaa)(base:Heap):Prop where
 c:Cb K mg base
 q:Qs K
 e:ExT K mg
 x:XcT K mg
 f:XfT P w K mg base
theorem xO:aQ ["self", "one", "other"] ["self", "one", "other"] (aF qU):=by trivial
theorem wU:aQ ["self", "way"] ["self", "way"] (aF pU):=by trivial
theorem yQ:aQ ["self", "one", "other"] ["self", "one", "other"] (aF rH):=by trivial
theorem eY:aQ ["first", "second", "great", "small", "rest"] ["first", "second"] (aF sX):=by trivial
theorem DN:aQ ["top", "bottom", "divisor"] ["top", "bottom"] (aF JZ):=by trivial
theorem adb:aQ ["first", "second"] ["first", "second"] (aF Ua):=by trivial
theorem ZC:aQ ["first", "second"] ["first", "second"] (aF Rg):=by trivial
theorem Bo:aQ ["some", "result", "each"] ["some"] (aF O3):=by trivial
theorem Ei:aQ ["game"] ["game"] (aF sH):=by trivial
theorem oK:aQ ["game", "places", "waiting", "place", "behind"] ["game"] (aF vJ):=by trivial
theorem Lx:aQ ["move"] ["move"] (aF xP):=by trivial
theorem uh:aQ ["place", "records", "number", "pair"] ["place", "records", "number"] (aF tW):=by trivial
theorem cT:aQ ["game", "known", "found", "way", "place", "number"] ["game"] (aF mV):=by trivial
theorem Vs:aQ ["move", "records"] ["move", "records"] (aF JH):=by trivial
theorem ql:aQ ["game", "rows", "way", "place", "records"] ["game"] (aF DP):=by trivial
theorem Tz:aQ ["game", "side"] ["game", "side"] (aF z9):=by trivial
theorem Es:aQ ["rows"] ["rows"] (aF rT):=by trivial
theorem Ed:aQ ["place"] ["place"] (aF qG):=by trivial
theorem Np:aQ ["fraction"] ["fraction"] (aF Cu):=by trivial
theorem mR:aQ ["game", "places"] ["game"] (aF jg):=by trivial
theorem jq:aQ ["game", "side", "rows"] ["game"] (aF oW):=by trivial
theorem wk:aQ ["game"] ["game"] (aF oG):=by trivial
theorem gK:aQ ["game", "way", "place"] ["game"] (aF gM):=by trivial
theorem Hc:aQ ["shares"] ["shares"] (aF uK):=by trivial
theorem yf:aQ ["way", "row", "first_way", "first_row"] ["way", "row", "first_way", "first_row"] (aF qO):=by trivial
theorem dM:aQ ["game", "firsts", "way", "place", "records", "row", "first"] ["game"] (aF tR):=by trivial
theorem adh:aQ ["game"] ["game"] (aF Up):=by trivial
theorem Dj:aQ ["_law_script", "_law_k"] ["_law_script", "_law_k"] (aF wA):=by trivial
theorem nY:aQ ["_law_top", "_law_bottom", "_law_one", "_law_other"] ["_law_top", "_law_bottom"] (aF wY):=by trivial
theorem dq:aQ ["_law_cell", "_law_turn", "_law_signs", "_law_size", "_law_places_here", "_law_k", "_law_word", "_law_at_here", "_law_found", "_law_sign"] ["_law_cell", "_law_turn"] (aF rm):=by trivial
theorem Mq:aQ ["_law_cell", "_law_k"] ["_law_cell", "_law_k"] (aF Dz):=by trivial
theorem jw:aQ ["_law_cells", "_law_state", "_law_depth", "_law_draw", "_law_many", "_law_shares", "_law_ways_here", "_law_share"] ["_law_cells", "_law_state", "_law_depth", "_law_draw"] (aF qi):=by trivial
theorem cV:aQ ["_law_cells", "_law_state", "_law_depth", "_law_draw", "_law_number", "_law_many", "_law_pool_here", "_law_words", "_law_ways_here", "_law_word"] ["_law_cells", "_law_state", "_law_depth", "_law_draw"] (aF qI):=by trivial
theorem uq:aQ ["_law_cells", "_law_state", "_law_depth", "_law_at_here", "_law_draw"] ["_law_cells", "_law_state", "_law_depth"] (aF yO):=by trivial
theorem cB:aQ ["_law_game", "_law_found", "_law_waiting", "_law_way", "_law_place", "_law_records", "_law_parts", "_law_word", "_law_part", "_law_others", "_law_k"] ["_law_game"] (aF rR):=by trivial
theorem iC:aQ ["_law_game", "_law_rows", "_law_known", "_law_way", "_law_place", "_law_records", "_law_words"] ["_law_game"] (aF ur):=by trivial
theorem Dr:aQ ["_law_found"] ["_law_found"] (aF vW):=by trivial
theorem sZ:aQ ["_law_found", "_law_pair"] ["_law_found"] (aF tQ):=by trivial
theorem vf:aQ ["_law_found", "_law_row"] ["_law_found"] (aF ph):=by trivial
theorem zG:aQ ["_law_place"] ["_law_place"] (aF ni):=by trivial
theorem bW:aQ ["_law_game", "_law_places_here", "_law_way", "_law_place", "_law_records", "_law_top", "_law_bottom", "_law_rows", "_law_side", "_law_many"] ["_law_game"] (aF jD):=by trivial
theorem vN:aQ ["_law_some", "_law_way", "_law_k"] ["_law_some"] (aF Af):=by trivial
theorem vL:aQ ["_law_e", "_law_kinds"] ["_law_e"] (aF vV):=by trivial
theorem lJ:aQ ["_law_game", "_law_found", "_law_kind", "_law_e"] ["_law_game"] (aF Ad):=by trivial
theorem cJ:aQ ["_law_place", "_law_top", "_law_bottom", "_law_one", "_law_other"] ["_law_place"] (aF jQ):=by trivial
theorem kY:aQ ["_law_first", "_law_second", "_law_one", "_law_other"] ["_law_first", "_law_second"] (aF qP):=by trivial
theorem yl:aQ ["_law_first", "_law_second"] ["_law_first", "_law_second"] (aF iD):=by trivial
theorem oO:aQ ["_law_first", "_law_second", "_law_side"] ["_law_first", "_law_second"] (aF oJ):=by trivial
theorem nj:aQ ["_law_places_here", "_law_k", "_law_other"] ["_law_places_here"] (aF tV):=by trivial
theorem Gr:aQ ["_law_places_here", "_law_way", "_law_k"] ["_law_places_here", "_law_way"] (aF Gs):=by trivial
theorem pC:aQ ["_law_places_here", "_law_kind", "_law_one", "_law_other", "_law_first", "_law_last"] ["_law_places_here", "_law_kind", "_law_one", "_law_other"] (aF pN):=by trivial
theorem Al:aQ ["_law_script", "_law_pool_here", "_law_first", "_law_state", "_law_game", "_law_places_here", "_law_found", "_law_at_here"] ["_law_script"] (aF Ff):=by trivial
section
variable {P:bq}{w:dA}{K:a7}{mg:Zaa}{base:Heap}(B:Bt P w K mg base)
include B
theorem ym:FF P w K mg base 1 "common_divisor" ["first", "second"] jA:=B.2.q0.ff B.1 λ_ _ Fu=>
 bD Fu eY λ_ _ _ _ _ _ hr=>by
 have hu:=hr.units;unfold mX nu;exact(aB (cF eY.nd<|bN ud rfl (B.1.no B.2.n1) Eg<|aP (aq 0) bj)
  (aB (cF eY.nd<|bN ud rfl (B.1.no B.2.n1) Eg<|aP (aq 1) bj)
  (aB (yG iL (bB (qT hu) (aq 3) (ao au)<|aY _)
  (aB (cF eY.nd<|aN bV (aq 2)<|aq 3)
  (aB (cF eY.nd<|aH 3)
  (aD<|cF eY.nd<|aH 4))))
  (aD<|bf<|aH 2))))
theorem R6:FF P w K mg base 2 "lowest" ["top", "bottom"] sY:=B.2.q1.ff B.1 λ_ _ Fu=>
 bD Fu DN λ_ _ _ _ _ _ hr=>by
 have hu:=hr.units;unfold yC yx;exact(aB (cF DN.nd<|bH (ym B) hr aO<|ak (aH 0)<|ak (aH 1) aA)
  (aB (bQ (bB (z8 hu) (aq 1) (ao au)<|aY _)
  (aD<|cF DN.nd<|BV uw<|aq 2)
  aU)
  (aD<|bf<|bz<|ak (aN eO (aq 0)<|aq 2)<|ak (aN eO (aq 1)<|aq 2) aA)))
theorem aab:FF P w K mg base 3 "plus" ["first", "second"] HH:=B.2.q2.ff B.1 λ_ _ Fu=>
 bD Fu adb λ_ _ _ _ _ _ hr=>by
 unfold Nx M5;exact(aD<|bf<|bH (R6 B) hr aO<|ak (aN cO (ao<|aN jK (ao<|aG (aq 0)<|ao au)<|ao<|aG (aq 1)<|ao au)<|ao<|aN jK (ao<|aG (aq 1)<|ao au)<|ao<|aG (aq 0)<|ao au)<|ak (aN jK (ao<|aG (aq 0)<|ao au)<|ao<|aG (aq 1)<|ao au) aA)
theorem Wc:FF P w K mg base 1 "under" ["first", "second"] Bl:=B.2.q3.ff B.1 λ_ _ Fu=>
 bD Fu ZC λ_ _ _ _ _ _ hr=>by
 have hu:=hr.units;unfold Ia IK;exact(aD<|bf<|jT (z8 hu) (ao<|aN jK (ao<|aG (aq 0)<|ao au)<|ao<|aG (aq 1)<|ao au) (ao<|aN jK (ao<|aG (aq 1)<|ao au)<|ao<|aG (aq 0)<|ao au)<|aY _)
theorem Wh:FF P w K mg base 4 "total" ["some"] BP:=B.2.q4.ff B.1 λ_ _ Fu=>
 bD Fu Bo λ_ _ _ _ _ _ hr=>by
 unfold HJ Hx;exact(aB (cF Bo.nd<|B.1.cn B.2.c0)
  (aB (jo (jJ<|aH 0) (bx Bo.nd)
  (aD<|cF Bo.nd<|bH (aab B) hr aO<|ak (aH 1)<|ak (aH 2) aA))
  (aD<|bf<|aH 1)))
theorem vP:FF P w K mg base 1 "branches_of" ["game"] jZ:=B.2.q5.ff B.1 λ_ _ Fu=>
 bD Fu Ei λ_ _ _ _ _ _ hr=>by
 have hu:=hr.units;unfold xj iZ;exact(aB (bQ (bB (cg hu) (ao<|aG (aq 0)<|ao au) (ao bF)<|aY _)
  (aD<|j9<|f9 aA)
  aU)
  (aD<|j9<|fW (aF sH) ["lead", "branch"] [] 2 [] rfl (by trivial) .nil (nq<|mF<|aG (aq 0)<|ao<|BV uw<|ao au) (λ_ _ _ _ _ _=>(gk rfl<|aV (bx<|nds rfl)<|aV (bx<|nds rfl) dB)) (λ_ _ _ _ _ _=>cW) λ_ _ _ _ _ _=>(aH 1)))
theorem uT:FF P w K mg base 2 "places_of" ["game"] jm:=B.2.q6.ff B.1 λ_ _ Fu=>
 bD Fu oK λ_ _ _ _ _ _ hr=>by
 unfold Ag rC;exact(aB (rJ oK.nd<|f9 aA)
  (aB (rJ oK.nd<|f9<|ak (bz<|ak (bz aA)<|ak (aH 0) aA) aA)
  (aB (yG iL (bB nF (ao<|bN cR rfl (B.1.no B.2.n8) je<|aP (aq 2) bj) (ao au)<|aY _)
  (aB (Tt 3 2 oK.nd rfl<|eB rfl)
  (aB (lK 1<|aH 3)
  (aB (xx (i:=4) (aF vJ) ["number", "branch", "place"] ["place"] 2 [3] oK.nd rfl (eC rfl) rfl (by trivial) (.cons rfl .nil) (Vz rfl (B.1.no B.2.n5)<|aP (ao<|bH (vP B) hr aO<|ak (aG (aq 3)<|ao au) aA) bj) (λ_ _ _ _ _ _=>(gk rfl<|aV (bx<|nds rfl)<|aV (bx<|nds rfl) dB)) (λ_ _ _ _ _ _=>cW) λ_ _ _ _ _ _=>(bz<|ak (aN cO (ao<|aG (aq 2)<|ao au)<|ao<|bz<|ak (aH 0) aA)<|ak (aH 1) aA))
  (aD<|Sh 2<|ZW rfl rfl (B.1.no B.2.n9) rfl (B.1.no B.2.n12)<|aP (aq 4) bj)))))
  (aD<|yo 1))))
theorem KN:FF P w K mg base 1 "words_at" ["move"] uv:=B.2.q7.ff B.1 λ_ _ Fu=>
 bD Fu Lx λ_ _ _ _ _ _ hr=>by
 unfold xW xG;exact(aD<|bf<|sV oY rfl (B.1.no B.2.n15) j0<|aP (ao<|gY<|fW (aF xP) ["word", "branch"] [] 2 [] rfl (by trivial) .nil (nq<|mF<|aG (aq 0)<|ao au) (λ_ _ _ _ _ _=>(gk rfl<|aV (bx<|nds rfl)<|aV (bx<|nds rfl) dB)) (λ_ _ _ _ _ _=>cW) λ_ _ _ _ _ _=>(aH 0)) bj)
theorem yq:FF P w K mg base 1 "records_behind" ["place", "records", "number"] fj:=B.2.q8.ff B.1 λ_ _ Fu=>
 bD Fu uh λ_ _ _ _ _ _ hr=>by
 have hu:=hr.units;unfold iw iu;exact(aB (bQ (bB (qT hu) (ao<|aG (aq 0)<|ao au) (ao bF)<|aY _)
  (aD<|bf<|aH 1)
  aU)
  (aB (cF uh.nd<|bz<|ak (aG (aq 0)<|ao au)<|ak (aG (ao<|aG (ao<|aG (aq 0)<|ao au)<|aq 2)<|ao au) aA)
  (aB (bQ (bB (cg hu) (ao<|aG (aq 0)<|ao au) (ao au)<|aY _)
  (aD<|bf<|bz<|ak (aN cO (ao<|aG (aq 1)<|ao au)<|ao<|bz<|ak (aH 3) aA)<|ak (aG (aq 1)<|ao au) aA)
  aU)
  (aD<|bf<|bz<|ak (aG (aq 1)<|ao au)<|ak (aN cO (ao<|aG (aq 1)<|ao au)<|ao<|bz<|ak (aH 3) aA) aA))))
theorem mJ:FF P w K mg base 3 "places_with_records" ["game"] cQ:=B.2.q9.ff B.1 λ_ _ Fu=>
 bD Fu cT λ_ _ _ _ _ _ hr=>by
 unfold mO fY;refine Wr.out ?_;exact(mZ (W5 (i:=1) cT.nd rfl (eC rfl)<|Wr.mk<|T5 hr (bz aA)<|bz<|ak (bz aA)<|ak (bz aA) aA)<|mZ (W5 (i:=2) cT.nd rfl (eC rfl)<|aeH<|Wr.mk aA)<|mZ (Wr.mk<|jo (jJ<|bH (uT B) hr aO<|ak (aH 0) aA) (gk rfl<|aV (bx cT.nd)<|aV (bx cT.nd) dB)<|aB (lK 2<|bz<|ak (aH 3)<|ak (aH 4)<|ak (Ph hr (aq 1) (aq 3) λ_ _=>rfl) aA)<|aD<|jo (m9 rfl (B.1.no B.2.n11)<|aP (ao<|bN cR rfl (B.1.no B.2.n8) je<|aP (ao<|bH (vP B) hr aO<|ak (aH 4) aA) bj) bj) (bx cT.nd)<|aD<|Q7 1 hr (bH (yq B) hr aO<|ak (aH 4)<|ak (Ph hr (aq 1) (aq 3) λ_ _=>rfl)<|ak (aH 5) aA)<|aN cO (aq 3)<|ao<|bz<|ak (aH 5) aA)<|K7<|Wr.mk<|yo 2)
theorem Fq:FF P w K mg base 2 "row_at" ["move", "records"] sW:=B.2.q10.ff B.1 λ_ _ Fu=>
 bD Fu Vs λ_ _ _ _ _ _ hr=>by
 unfold yX zj;exact(aD<|bf<|bz<|ak (aG (aq 0)<|ao au)<|ak (aG (aq 0)<|ao au)<|ak (bH (KN B) hr aO<|ak (aH 0) aA)<|ak (aG (aq 1)<|ao<|aN km (ao<|aG (aq 0)<|ao au)<|ao au) aA)
theorem Ak:FF P w K mg base 4 "table_of" ["game"] uD:=B.2.q11.ff B.1 λ_ _ Fu=>
 bD Fu ql λ_ _ _ _ _ _ hr=>by
 have hu:=hr.units;unfold Dq uQ;exact(aB (rJ ql.nd Ik)
  (aB (jo (jJ<|bH (mJ B) hr aO<|ak (aH 0) aA) (gk rfl<|aV (bx ql.nd)<|aV (bx ql.nd)<|aV (bx ql.nd) dB)
  (aD (bQ (bB (cg hu) (ao<|aG (aq 3)<|ao au) (ao bF)<|aY _)
  (aD<|abX 1 hr (bz<|ak (aG (aq 3)<|ao au)<|ak (aG (aq 3)<|ao au) aA) (bH (Fq B) hr aO<|ak (aH 3)<|ak (aH 4) aA) ⟨rfl,rfl,rfl,rfl⟩)
  aU)))
  (aD<|j9<|Wy rfl rfl (B.1.no B.2.n9)<|aq 1)))
theorem Ny:FF P w K mg base 5 "rows_of" ["game", "side"] wQ:=B.2.q12.ff B.1 λ_ _ Fu=>
 bD Fu Tz λ_ _ _ _ _ _ hr=>by
 have hu:=hr.units;unfold zr zx;exact(aD<|j9<|fW (aF z9) ["row", "side"] ["side"] 1 [1] rfl (by trivial) (.cons rfl .nil) (my<|ao<|bH (Ak B) hr aO<|ak (aH 0) aA) (λ_ _ _ _ _ _=>(bx<|nds rfl)) (λ_ _ _ _ _ _=>(KZ<|bB (cg hu) (ao<|aG (aq 0)<|ao au) (aq 1)<|aY _)) λ_ _ _ _ _ _=>(aH 0))
theorem Dn:FF P w K mg base 1 "count_words" ["rows"] nT:=B.2.q13.ff B.1 λ_ _ Fu=>
 bD Fu Es λ_ _ _ _ _ _ hr=>by
 unfold sO sJ;exact(aD<|bf<|bN (FP rfl) rfl (B.1.no B.2.n14) Ni<|aP (ao<|gY<|fW (aF rT) ["row"] [] 1 [] rfl (by trivial) .nil (my<|aq 0) (λ_ _ _ _ _ _=>(bx<|nds rfl)) (λ_ _ _ _ _ _=>cW) λ_ _ _ _ _ _=>(bN cR rfl (B.1.no B.2.n8) je<|aP (ao<|aG (aq 0)<|ao au) bj)) bj)
theorem vh:FF P w K mg base 1 "fractions_at" ["place"] dg:=B.2.q14.ff B.1 λ_ _ Fu=>
 bD Fu Ed λ_ _ _ _ _ _ hr=>by
 have hu:=hr.units;unfold qQ qF;exact(aB (bQ (bB (cg hu) (ao<|aG (aq 0)<|ao au) (ao bF)<|aY _)
  (aD<|j9<|f9<|ak (aG (aq 0)<|ao au) aA)
  aU)
  (aB (bQ (bB (cg hu) (ao<|aG (aq 0)<|ao au) (ao bF)<|aY _)
  (aD<|j9<|fW (aF qG) ["share", "branch"] [] 2 [] rfl (by trivial) .nil (nq<|mF<|aG (aq 0)<|ao au) (λ_ _ _ _ _ _=>(gk rfl<|aV (bx<|nds rfl)<|aV (bx<|nds rfl) dB)) (λ_ _ _ _ _ _=>cW) λ_ _ _ _ _ _=>(aH 0))
  aU)
  (aD<|j9<|f9 aA)))
theorem Le:FF P w K mg base 1 "is_great" ["fraction"] qy:=B.2.q15.ff B.1 λ_ _ Fu=>
 bD Fu Np λ_ _ _ _ _ _ hr=>by
 unfold uA uI;exact(aD<|bf<|aao (jT nF (ao<|bN ud rfl (B.1.no B.2.n1) Eg<|aP (ao<|aG (aq 0)<|ao au) bj) (ao<|B.1.ci B.2.i4)<|aY _)<|xX<|jT nF (ao<|aG (aq 0)<|ao au) (ao<|B.1.ci B.2.i5)<|aY _)
theorem uy:FF P w K mg base 3 "refuse_great_places" ["game"] cP:=B.2.q16.ff B.1 λ_ _ Fu=>
 bD Fu mR λ_ _ _ _ _ _ hr=>by
 unfold dD dI;exact(aB (cF mR.nd<|bH (uT B) hr aO<|ak (aH 0) aA)
  (aB (bQ (bB nF (ao<|bN cR rfl (B.1.no B.2.n8) je<|aP (aq 1) bj) (ao<|B.1.ci B.2.i0)<|aY _)
  (aD<|ug B.3.TooGreat rfl hr.hd (Js bF) λ_ _ _ _ _ _ _ _ I mk q=>vU I mk q)
  aU)
  (aD (bQ (b7<|bN (zW rfl) rfl (B.1.no B.2.n3) Nk<|aP (ao<|gY<|fW (aF jg) ["way", "place"] [] 2 [] rfl (by trivial) .nil (my<|aq 1) (λ_ _ _ _ _ _=>(gk rfl<|aV (bx<|nds rfl)<|aV (bx<|nds rfl) dB)) (λ_ _ _ _ _ _=>cW) λ_ _ _ _ _ _=>(jT nF (ao<|bN cR rfl (B.1.no B.2.n8) je<|aP (aq 0) bj) (ao<|B.1.ci B.2.i1)<|aY _)) bj)
  (aD<|ug B.3.TooGreat rfl hr.hd (Js bF) λ_ _ _ _ _ _ _ _ I mk q=>vU I mk q)
  aU))))
theorem vm:FF P w K mg base 6 "refuse_great_table" ["game"] cY:=B.2.q17.ff B.1 λ_ _ Fu=>
 bD Fu jq λ_ _ _ _ _ _ hr=>by
 unfold eG d8;exact(aD (jo (mF<|bz<|ak au<|ak au aA) (bx jq.nd)
  (aB (cF jq.nd<|bH (Ny B) hr aO<|ak (aH 0)<|ak (aH 1) aA)
  (aB (bQ (bB nF (ao<|bN cR rfl (B.1.no B.2.n8) je<|aP (aq 2) bj) (ao<|B.1.ci B.2.i2)<|aY _)
  (aD<|ug B.3.TooGreat rfl hr.hd (Js bF) λ_ _ _ _ _ _ _ _ I mk q=>vU I mk q)
  aU)
  (aD (bQ (bB nF (ao<|bH (Dn B) hr aO<|ak (aH 2) aA) (ao<|B.1.ci B.2.i3)<|aY _)
  (aD<|ug B.3.TooGreat rfl hr.hd (Js bF) λ_ _ _ _ _ _ _ _ I mk q=>vU I mk q)
  aU))))))
theorem vq:FF P w K mg base 7 "refuse_great_shape" ["game"] gr:=B.2.q18.ff B.1 λ_ _ Fu=>
 bD Fu wk λ_ _ _ _ _ _ hr=>by
 unfold jr jt;exact(aB (wK<|bH (uy B) hr aO<|ak (aH 0) aA)
  (aD<|wK<|bH (vm B) hr aO<|ak (aH 0) aA))
theorem qW:FF P w K mg base 3 "refuse_great_fractions" ["game"] dX:=B.2.q19.ff B.1 λ_ _ Fu=>
 bD Fu gK λ_ _ _ _ _ _ hr=>by
 unfold gG gF;exact(aD (jo (jJ<|bH (uT B) hr aO<|ak (aH 0) aA) (gk rfl<|aV (bx gK.nd)<|aV (bx gK.nd) dB)
  (aD (bQ (b7<|bN (zW rfl) rfl (B.1.no B.2.n3) Nk<|aP (ao<|gY<|fW (aF gM) ["fraction"] [] 1 [] rfl (by trivial) .nil (my<|ao<|bH (vh B) hr aO<|ak (aH 2) aA) (λ_ _ _ _ _ _=>(bx<|nds rfl)) (λ_ _ _ _ _ _=>cW) λ_ _ _ _ _ _=>(bH (Le B) hr DK<|ak (aH 0) aA)) bj)
  (aD<|ug B.3.TooGreat rfl hr.hd (Js bF) λ_ _ _ _ _ _ _ _ I mk q=>vU I mk q)
  aU))))
theorem Ep:FF P w K mg base 5 "are_shares" ["shares"] qb:=B.2.q20.ff B.1 λ_ _ Fu=>
 bD Fu Hc λ_ _ _ _ _ _ hr=>by
 have hu:=hr.units;unfold uE uz;exact(aD<|bf<|xM (bN (EY rfl) rfl (B.1.no B.2.n2) Vu<|aP (ao<|gY<|fW (aF uK) ["share"] [] 1 [] rfl (by trivial) .nil (my<|aq 0) (λ_ _ _ _ _ _=>(bx<|nds rfl)) (λ_ _ _ _ _ _=>cW) λ_ _ _ _ _ _=>(bH (Wc B) hr DK<|ak (B.1.cn B.2.c0)<|ak (aH 0) aA)) bj)<|xX<|jT (cg hu) (ao<|bH (Wh B) hr aO<|ak (aH 0) aA) (ao<|B.1.cn B.2.c1)<|aY _)
theorem wV:FF P w K mg base 3 "refuse_other_row" ["way", "row", "first_way", "first_row"] cz:=B.2.q21.ff B.1 λ_ _ Fu=>
 bD Fu yf λ_ _ _ _ _ _ hr=>by
 have hu:=hr.units;unfold fK fL;exact(aB (bQ (bB (qT hu) (ao<|aG (aq 1)<|ao au) (ao<|aG (aq 3)<|ao au)<|aY _)
  (aD<|zK B.5.x_Unlike hr zP<|ak (aH 2)<|ak (aH 0) aA)
  aU)
  (aD (bQ (bB (qT hu) (ao<|aG (aq 1)<|ao au) (ao<|aG (aq 3)<|ao au)<|aY _)
  (aD<|zK B.5.x_Forgets hr zP<|ak (aH 2)<|ak (aH 0) aA)
  aU)))
theorem yu:FF P w K mg base 6 "refuse_unsound" ["game"] gW:=B.2.q22.ff B.1 λ_ _ Fu=>
 bD Fu dM λ_ _ _ _ _ _ hr=>by
 have hu:=hr.units;unfold jG jE;exact(aB (rJ dM.nd Ik)
  (aD (jo (jJ<|bH (mJ B) hr aO<|ak (aH 0) aA) (gk rfl<|aV (bx dM.nd)<|aV (bx dM.nd)<|aV (bx dM.nd) dB)
  (aB (bQ (vA<|zL (bB (cg hu) (ao<|aG (aq 3)<|ao au) (ao bF)<|aY _)<|wL<|gH<|b7<|bH (Ep B) hr aO<|ak (bH (vh B) hr aO<|ak (aH 3) aA) aA)
  (aD<|zK B.5.x_NoShares hr zP<|ak (aH 2) aA)
  aU)
  (aD (bQ (bB (cg hu) (ao<|aG (aq 3)<|ao au) (ao bF)<|aY _)
  (aB (cF dM.nd<|bH (Fq B) hr aO<|ak (aH 3)<|ak (aH 4) aA)
  (aB (Oa (i:=6) dM.nd rfl (eC rfl)<|abt 1 hr (bz<|ak (aG (aq 3)<|ao au)<|ak (aG (aq 3)<|ao au) aA) (bz<|ak (aH 2)<|ak (aH 5) aA) ⟨rfl,rfl,rfl,rfl⟩)
  (aD<|wK<|bH (wV B) hr aO<|ak (aH 2)<|ak (aH 5)<|ak (aG (aq 6)<|ao au)<|ak (aG (aq 6)<|ao au) aA)))
  aU))))))
theorem Zr:FF P w K mg base 8 "look" ["game"] HF:=B.2.q23.ff B.1 λ_ _ Fu=>
 bD Fu adh λ_ _ _ _ _ _ hr=>by
 unfold NP Nq;exact(aB (wK<|bH (vq B) hr aO<|ak (aH 0) aA)
  (aB (wK<|bH (qW B) hr aO<|ak (aH 0) aA)
  (aB (wK<|bH (yu B) hr aO<|ak (aH 0) aA)
  (aD<|j9<|adG (Ak B) hr aO<|ak (aH 0) aA))))
theorem iU:FF P w K mg base 1 "_law_cell_at" ["_law_script", "_law_k"] g8:=B.2.q24.ff B.1 λ_ _ Fu=>
 bD Fu Dj λ_ _ _ _ _ _ hr=>by
 have hu:=hr.units;unfold lR lW;exact(aB (bQ (bB (z8 hu) (aq 1) (ao<|bN cR rfl (B.1.no B.2.n8) je<|aP (aq 0) bj)<|aY _)
  (aD<|bf<|aG (aq 0)<|aq 1)
  aU)
  (aD<|bf au))
theorem vZ:FF P w K mg base 1 "_law_lowest" ["_law_top", "_law_bottom"] jc:=B.2.q25.ff B.1 λ_ _ Fu=>
 bD Fu nY λ_ _ _ _ _ _ hr=>by
 have hu:=hr.units;unfold rZ sy;exact(aB (cF nY.nd<|bN ud rfl (B.1.no B.2.n1) Eg<|aP (aq 0) bj)
  (aB (cF nY.nd<|aH 1)
  (aB (yG iL (bB (qT hu) (aq 3) (ao au)<|aY _)
  (aD<|aba (i:=2) (j:=3) rfl nY.nd rfl rfl (by decide) rfl rfl<|ak (aH 3)<|ak (aN bV (aq 2)<|aq 3) aA))
  (aD<|bf<|bz<|ak (aN eO (aq 0)<|aq 2)<|ak (aN eO (aq 1)<|aq 2) aA))))
theorem Ii:FF P w K mg base 1 "_law_pool" ["_law_cell", "_law_turn"] rn:=B.2.q26.ff B.1 λ_ _ Fu=>
 bD Fu dq λ_ _ _ _ _ _ hr=>by
 have hu:=hr.units;unfold Am lG;exact(aB (cF dq.nd bF)
  (aB (cF dq.nd<|aN cO (ao au)<|ao<|aN bV (aq 0)<|ao au)
  (aB (cF dq.nd<|aN eO (aq 0)<|ao au)
  (aB (rJ dq.nd<|f9 aA)
  (aB (jo (m9 rfl (B.1.no B.2.n11)<|aP (aq 3) bj) (bx dq.nd)
  (aB (lK 4<|aN bV (aq 0)<|ao au)
  (aD<|cF dq.nd<|aN eO (aq 0)<|ao au)))
  (aB (cF dq.nd<|adO PySem.F.plainAttrs_str PySem.F.slot_str_join PySem.F.type_str_join Vq (ao bF)<|aP (ao<|gY<|fW (aF rm) ["_law_k", "_law_signs"] ["_law_signs"] 1 [2] rfl (by trivial) (.cons rfl .nil) (my<|aq 4) (λ_ _ _ _ _ _=>(bx<|nds rfl)) (λ_ _ _ _ _ _=>cW) λ_ _ _ _ _ _=>(aG (aq 1)<|aq 0)) bj)
  (aB (bQ (bB (cg hu) (ao<|aN bV (ao<|aN eO (aq 1)<|ao au)<|ao au) (ao au)<|aY _)
  (aD<|j9<|fW (aF rm) ["_law_k", "_law_word"] ["_law_word"] 1 [6] rfl (by trivial) (.cons rfl .nil) (nq<|S6 rfl (B.1.no B.2.n11)<|aP (ao au)<|aP (ao au) bj) (λ_ _ _ _ _ _=>(bx<|nds rfl)) (λ_ _ _ _ _ _=>cW) λ_ _ _ _ _ _=>(jX (ao<|aN WL (ao au)<|aq 1) uP<|jh<|aq 0))
  aU)
  (aB (cF dq.nd<|aN bV (aq 1)<|aq 3)
  (aB (rJ dq.nd<|f9 aA)
  (aB (jo (m9 rfl (B.1.no B.2.n11)<|aP (ao au) bj) (bx dq.nd)
  (aB (cF dq.nd<|aG (aq 2)<|ao<|aN bV (ao<|aN cO (ao<|aG (aq 4)<|aq 7)<|ao<|aN jK (ao au)<|aq 5)<|ao au)
  (aD<|lK 8<|aN cO (ao<|aN cO (ao<|jX (aq 6) uP<|jh<|aq 7)<|aq 9)<|ao<|jX (aq 6) (jh<|ao<|aN cO (aq 7)<|ao au) uP)))
  (aD<|yo 8)))))))))))
theorem K3:FF P w K mg base 1 "_law_mix" ["_law_cell", "_law_k"] m6:=B.2.q27.ff B.1 λ_ _ Fu=>
 bD Fu Mq λ_ _ _ _ _ _ hr=>by
 unfold yd ye;exact(aD<|bf<|aN bV (ao<|aN jK (ao<|aN cO (ao<|aN bV (aq 0)<|ao au)<|ao au)<|ao<|aN cO (ao au)<|ao<|aN jK (ao au)<|aq 1)<|ao au)
theorem Az (k:Nat)(hc:1<=k)(Φb:List D->D->Res (D×D))(G_law_built:Jb P w K mg base k "_law_built" ["_law_cells", "_law_state", "_law_depth"] 1 Φb):Hd.Fn P w K mg base (k+1) "_law_deal_of" ["_law_cells", "_law_state", "_law_depth", "_law_draw"] (Ca ⟨K,mg⟩ 1<|eE Φb):=B.2.q28.ff B.1 λ_ _ Fu=>
 zu 1 Fu jw (by decide) λ_ _ _ _ _ _ hr=>by
 have hu:=hr.units;unfold lX;exact(aB (cF jw.nd<|aN cO (ao au)<|ao<|aN bV (ao<|aN eO (aq 3)<|ao au)<|ao au)
  (aB (Ef (i:=5) (aF qi) ["_law_k", "_law_many"] ["_law_many"] 1 [4] jw.nd rfl (eC rfl) rfl (by trivial) (.cons rfl .nil) (nq<|m9 rfl (B.1.no B.2.n11)<|aP (aq 4) bj) (λ_ _ _ _ _ _=>(bx<|nds rfl)) (λ_ _ _ _ _ _=>cW) λ_ _ _ _ _ _=>(bH (vZ B) hr DK (ak au<|ak (aH 1) aA) (hk:=by omega)))
  (aB (bQ (bB (cg hu) (ao<|aN bV (ao<|aN eO (aq 3)<|ao au)<|ao au) (ao au)<|aY _)
  (aD<|KY 5 (aG (ao<|gY<|f9<|ak (bz<|ak au<|ak au aA)<|ak (bz<|ak au<|ak au aA)<|ak (bz<|ak (BV uw<|ao au)<|ak au aA)<|ak (bz<|ak au<|ak au aA) aA)<|ao<|aN bV (ao<|aN eO (aq 3)<|ao au)<|ao au)<|aN bV (ao<|aN eO (aq 3)<|ao au)<|aq 4)
  aU)
  (ZV 5 (aB (rJ jw.nd<|f9 aA)
  (aB (jo (jJ<|aH 5) (bx jw.nd)
  (aD<|Ds 6<|Uy<|yZ (aa4<|aH 7)<|yZ (DG 1 G_law_built hr aO (vY (aH 0)<|vC (i:=1)<|ak (aN km (aq 2)<|ao au) aA) (hk:=by omega)) Q8))
  (aD<|bf<|bz<|ak bF<|ak (aG (ao<|rA hr (aq 1) (ao bF) λ_ _=>rfl)<|ao<|aN bV (ao<|aN eO (aq 3)<|ao au)<|ao au)<|ak (sV oY rfl (B.1.no B.2.n15) j0<|aP (aq 6) bj) aA)))))))
theorem Bb (k:Nat)(hc:1<=k)(Φb:List D->D->Res (D×D))(G_law_built:Jb P w K mg base k "_law_built" ["_law_cells", "_law_state", "_law_depth"] 1 Φb):Hd.Fn P w K mg base (k+1) "_law_move_of" ["_law_cells", "_law_state", "_law_depth", "_law_draw"] (Ca ⟨K,mg⟩ 1<|d7 Φb):=B.2.q29.ff B.1 λ_ _ Fu=>
 zu 1 Fu cV (by decide) λ_ _ _ _ _ _ hr=>by
 have hu:=hr.units;unfold lZ;exact(aB (cF cV.nd<|aN bV (ao<|aN eO (aq 3)<|ao au)<|ao au)
  (aB (bQ (b7<|rA hr (aq 1) (ao bF) λ_ _=>rfl)
  (aD<|cF cV.nd<|aN bV (aq 2)<|ao au)
  aU)
  (aB (cF cV.nd<|aN cO (ao au)<|aq 4)
  (aB (bQ (bB (cg hu) (ao<|aN bV (ao<|aN eO (aq 3)<|ao au)<|ao au) (ao au)<|aY _)
  (aD<|cF cV.nd<|aN cO (ao au)<|ao<|aN bV (ao<|aN eO (aq 3)<|ao au)<|ao au)
  aU)
  (aB (cF cV.nd<|rA hr (aq 1) (ao bF) λ_ _=>rfl)
  (aB (xx (i:=7) (aF qI) ["_law_k", "_law_pool_here", "_law_number", "_law_state"] ["_law_pool_here", "_law_number", "_law_state"] 1 [6,4,1] cV.nd rfl (eC rfl) rfl (by trivial) (.cons rfl<|.cons rfl<|.cons rfl .nil) (nq<|m9 rfl (B.1.no B.2.n11)<|aP (aq 5) bj) (λ_ _ _ _ _ _=>(bx<|nds rfl)) (λ_ _ _ _ _ _=>cW) λ_ _ _ _ _ _=>(aG (aq 1)<|ao<|aN bV (ao<|aN cO (ao<|aN cO (aq 2)<|ao<|aN jK (ao au)<|aq 0)<|ao<|rA hr (aq 3) (ao bF) λ_ _=>rfl)<|ao au))
  (aB (bQ (bB (cg hu) (ao<|aN bV (ao<|aN eO (aq 3)<|ao au)<|ao au) (ao au)<|aY _)
  (aD<|cF cV.nd<|gY<|abd (aq 7)<|jh<|ao<|BV uw<|ao au)
  aU)
  (aB (rJ cV.nd<|f9 aA)
  (aB (jo (jJ<|aH 7) (bx cV.nd)
  (aD<|Ds 8<|Uy<|yZ (aa4<|aH 9)<|yZ (DG 1 G_law_built hr aO (vY (aH 0)<|vC (i:=1)<|ak (aN km (aq 2)<|ao au) aA) (hk:=by omega)) Q8))
  (aD<|bf<|bz<|ak bF<|ak (aN cO (ao au)<|ao<|aN bV (aq 3)<|ao au)<|ak (aG (aq 6)<|ao<|aN bV (ao<|aN cO (ao<|aN jK (ao au)<|aq 4)<|ao<|aN eO (ao<|rA hr (aq 1) (ao bF) λ_ _=>rfl)<|ao au)<|ao au)<|ak (sV oY rfl (B.1.no B.2.n15) j0<|aP (aq 8) bj) aA))))))))))
theorem Em (n:Nat)(G_law_built:Jb P w K mg base (1+2*n) "_law_built" ["_law_cells", "_law_state", "_law_depth"] 1 (bK n))(G_law_deal_of:Jb P w K mg base (1+2*n+1) "_law_deal_of" ["_law_cells", "_law_state", "_law_depth", "_law_draw"] 1 (eE<|bK n))(G_law_move_of:Jb P w K mg base (1+2*n+1) "_law_move_of" ["_law_cells", "_law_state", "_law_depth", "_law_draw"] 1 (d7<|bK n)):Hd.Fn P w K mg base (1+2*n+1+1) "_law_built" ["_law_cells", "_law_state", "_law_depth"] (Ca ⟨K,mg⟩ 1<|bK<|n+1):=B.2.q30.ff B.1 λ_ _ Fu=>
 zu 1 Fu uq (by decide) λ_ _ _ _ _ _ hr=>by
 have hu:=hr.units;unfold jL;exact(aB (cF uq.nd<|rA hr (aq 1) (ao bF) λ_ _=>rfl)
  (aB (Rt 1 hr (aN cO (aq 3)<|ao au) bF)
  (aB (bQ (bB G6 (aq 3) (ao<|bN cR rfl (B.1.no B.2.n8) je<|aP (aq 0) bj)<|aY _)
  (aD<|bf<|bz<|ak bF<|ak (bz<|ak (aN km (ao<|aN bV (aq 3)<|ao au)<|ao au)<|ak au aA) aA)
  aU)
  (aB (cF uq.nd<|bH (K3 B) hr aO (ak (aG (aq 0)<|aq 3)<|ak (aH 3) aA) (hk:=by omega))
  (aB (bQ (vA<|lM (bB (cg hu) (aq 2) (ao au)<|aY _)<|lM (bB (z8 hu) (ao<|rA hr (aq 1) (ao bF) λ_ _=>rfl) (ao au)<|aY _)<|pI<|vA<|zL (bB (cg hu) (ao<|aN bV (aq 4)<|ao au) (ao au)<|aY _)<|wL<|bB nF (aq 3) (ao au)<|aY _)
  (aD<|bf<|bz<|ak bF<|ak (bH (vZ B) hr aO (ak (aN km (ao<|aN bV (ao<|aN eO (aq 4)<|ao au)<|ao au)<|ao au)<|ak (aN cO (ao au)<|ao<|aN bV (ao<|aN eO (aq 4)<|ao au)<|ao au) aA) (hk:=by omega)) aA)
  aU)
  (aB (Rt 1 hr (aN km (ao<|rA hr (aq 1) (ao bF) λ_ _=>rfl)<|ao au) bF)
  (aB (bQ (bB (z8 hu) (ao<|aN bV (aq 4)<|ao au) (ao au)<|aY _)
  (aD<|O5<|DG 1 G_law_deal_of hr aO (vY (aH 0)<|vC (i:=1)<|ak (aH 2)<|ak (aH 4) aA) (hk:=by omega))
  aU)
  (aD<|O5<|DG 1 G_law_move_of hr aO (vY (aH 0)<|vC (i:=1)<|ak (aH 2)<|ak (aH 4) aA) (hk:=by omega)))))))))
theorem Er:∀n:Nat,Jb P w K mg base (1+2*n) "_law_built" ["_law_cells", "_law_state", "_law_depth"] 1 (bK n):=by
 intro n;induction n with
 |zero=>exact B.2.q30.ff B.1 λ_ _ _=>abx
 |succ n ih=>
  have GM_law_deal_of:Jb P w K mg base (1+2*n+1) "_law_deal_of" ["_law_cells", "_law_state", "_law_depth", "_law_draw"] 1 (eE<|bK n):=Az B (1+2*n) (by omega) _ ih;have GM_law_move_of:Jb P w K mg base (1+2*n+1) "_law_move_of" ["_law_cells", "_law_state", "_law_depth", "_law_draw"] 1 (d7<|bK n):=Bb B (1+2*n) (by omega) _ ih;exact Em B n ih GM_law_deal_of GM_law_move_of
theorem qN:FF P w K mg base 1 "_law_places" ["_law_game"] gD:=B.2.q31.ff B.1 λ_ _ Fu=>
 bD Fu cB λ_ _ _ _ _ _ hr=>by
 have hu:=hr.units;unfold wZ oF;exact(aB (rJ cB.nd<|f9 aA)
  (aB (rJ cB.nd<|f9<|ak (bz<|ak (bz aA)<|ak (aH 0)<|ak (bz<|ak (bz aA)<|ak (bz aA) aA) aA) aA)
  (aB (yG iL (bB nF (ao<|bN cR rfl (B.1.no B.2.n8) je<|aP (aq 2) bj) (ao au)<|aY _)
  (aB (Ys (k:=1000) (abH 2)<|gk rfl<|aV (bx cB.nd)<|aV (bx cB.nd)<|aV (bx cB.nd) dB)
  (aB (lK 1<|bz<|ak (aH 3)<|ak (aH 4)<|ak (aH 5) aA)
  (aB (rJ cB.nd<|f9 aA)
  (aB (bQ (bB (cg hu) (ao<|aG (aq 4)<|ao au) (ao bF)<|aY _)
  (aD<|Ef (i:=6) (aF rR) ["_law_share", "_law_part", "_law_records"] ["_law_records"] 2 [5] cB.nd rfl (eC rfl) rfl (by trivial) (.cons rfl .nil) (nq<|mF<|aG (aq 4)<|ao au) (λ_ _ _ _ _ _=>(gk rfl<|aV (bx<|nds rfl)<|aV (bx<|nds rfl) dB)) (λ_ _ _ _ _ _=>cW) λ_ _ _ _ _ _=>(bz<|ak (aH 1)<|ak (aH 2) aA))
  aU)
  (aB (bQ (bB (cg hu) (ao<|aG (aq 4)<|ao au) (ao bF)<|aY _)
  (aD (jo (mF<|aG (aq 4)<|ao au) (gk rfl<|aV (bx cB.nd)<|aV (bx cB.nd) dB)
  (aB (rJ cB.nd<|TX Li rfl (B.1.no B.2.n9) yR<|aP (aq 5) bj)
  (aB (KY 9 (aN cO (ao<|aG (aq 9)<|ao<|aN km (ao<|aG (aq 4)<|ao au)<|ao au)<|ao<|bz<|ak (bz<|ak (aG (aq 4)<|ao au)<|ak (aH 7) aA) aA)<|aN km (ao<|aG (aq 4)<|ao au)<|ao au)
  (aD<|lK 6<|bz<|ak (aH 8)<|ak (sV oY rfl (B.1.no B.2.n15) j0<|aP (aq 9) bj) aA)))))
  aU)
  (aD (jo (YL rfl (B.1.no B.2.n11)<|aP (ao<|aN km (ao<|bN cR rfl (B.1.no B.2.n8) je<|aP (aq 6) bj)<|ao au)<|aP (ao<|BV uw<|ao au)<|aP (ao<|BV uw<|ao au) bj) (bx cB.nd)
  (aD<|lK 2<|bz<|ak (aN cO (aq 3)<|ao<|bz<|ak (aH 10) aA)<|ak (aG (ao<|aG (aq 6)<|aq 10)<|ao au)<|ak (aG (ao<|aG (aq 6)<|aq 10)<|ao au) aA)))))))))
  (aD<|yo 1))))
theorem w5:FF P w K mg base 2 "_law_table" ["_law_game"] gC:=B.2.q32.ff B.1 λ_ _ Fu=>
 bD Fu iC λ_ _ _ _ _ _ hr=>by
 have hu:=hr.units;unfold uJ uG;exact(aB (rJ iC.nd<|f9 aA)
  (aB (rJ iC.nd Ik)
  (aB (jo (jJ<|bH (qN B) hr aO<|ak (aH 0) aA) (gk rfl<|aV (bx iC.nd)<|aV (bx iC.nd)<|aV (bx iC.nd) dB)
  (aD (bQ (vA<|zL (bB (cg hu) (ao<|aG (aq 4)<|ao au) (ao bF)<|aY _)<|wL<|bB (Zb hr) (ao<|bz<|ak (aG (aq 4)<|ao au)<|ak (aG (aq 4)<|ao au) aA) (aq 2)<|by with_unfolding_all rfl)
  (aB (Q7 2 hr iR<|bz<|ak (aG (aq 4)<|ao au)<|ak (aG (aq 4)<|ao au) aA)
  (aB (cF iC.nd<|sV oY rfl (B.1.no B.2.n15) j0<|aP (ao<|gY<|fW (aF ur) ["_law_word", "_law_part"] [] 2 [] rfl (by trivial) .nil (nq<|mF<|aG (aq 4)<|ao au) (λ_ _ _ _ _ _=>(gk rfl<|aV (bx<|nds rfl)<|aV (bx<|nds rfl) dB)) (λ_ _ _ _ _ _=>cW) λ_ _ _ _ _ _=>(aH 0)) bj)
  (aD<|lK 1<|bz<|ak (aG (aq 4)<|ao au)<|ak (aG (aq 4)<|ao au)<|ak (aH 6)<|ak (aG (aq 5)<|ao<|aN km (ao<|aG (aq 4)<|ao au)<|ao au) aA)))
  aU)))
  (aD<|yo 1))))
theorem kh:FF P w K mg base 1 "_law_is_text" ["_law_found"] gZ:=B.2.q33.ff B.1 λ_ _ Fu=>
 bD Fu Dr λ_ _ _ _ _ _ hr=>by
 unfold v8 wz;exact(aD<|bf<|qt (x:="") (aq 0) rfl (B.1.no B.2.n7) bM rfl (B.1.no B.2.n13) abp)
theorem yI:FF P w K mg base 2 "_law_is_record" ["_law_found"] jC:=B.2.q34.ff B.1 λ_ _ Fu=>
 bD Fu sZ λ_ _ _ _ _ _ hr=>by
 have hu:=hr.units;unfold nD nQ;exact(aB (bQ (gH<|b7<|qt (x:="") (aq 0) rfl (B.1.no B.2.n7) bM rfl (B.1.no B.2.n15) j0)
  (aD<|bf iR)
  aU)
  (aB (jo (mF<|aH 0) (bx sZ.nd)
  (aD (bQ (vA<|lM (gH<|b7<|qt (x:="") (aq 1) rfl (B.1.no B.2.n7) bM rfl (B.1.no B.2.n15) j0)<|lM (bB (qT hu) (ao<|bN cR rfl (B.1.no B.2.n8) je<|aP (aq 1) bj) (ao au)<|aY _)<|lM (gH<|b7<|bH (kh B) hr aO<|ak (aG (aq 1)<|ao au) aA)<|pI<|gH<|b7<|bH (kh B) hr aO<|ak (aG (aq 1)<|ao au) aA)
  (aD<|bf iR)
  aU)))
  (aD<|bf iR)))
theorem zF:FF P w K mg base 3 "_law_is_table" ["_law_found"] j6:=B.2.q35.ff B.1 λ_ _ Fu=>
 bD Fu vf λ_ _ _ _ _ _ hr=>by
 have hu:=hr.units;unfold pJ pL;exact(aB (bQ (gH<|b7<|qt (x:="") (aq 0) rfl (B.1.no B.2.n7) bM rfl (B.1.no B.2.n9) yR)
  (aD<|bf iR)
  aU)
  (aB (jo (jJ<|aH 0) (bx vf.nd)
  (aB (bQ (vA<|lM (gH<|b7<|qt (x:="") (aq 1) rfl (B.1.no B.2.n7) bM rfl (B.1.no B.2.n15) j0)<|lM (bB (qT hu) (ao<|bN cR rfl (B.1.no B.2.n8) je<|aP (aq 1) bj) (ao au)<|aY _)<|lM (gH<|b7<|qt (x:="") (ao<|aG (aq 1)<|ao au) rfl (B.1.no B.2.n7) bM rfl (B.1.no B.2.n6) U6)<|pI<|b7<|qt (x:="") (ao<|aG (aq 1)<|ao au) rfl (B.1.no B.2.n7) bM rfl (B.1.no B.2.n4) Qa)
  (aD<|bf iR)
  aU)
  (aB (bQ (vA<|lM (gH<|b7<|bH (kh B) hr aO<|ak (aG (aq 1)<|ao au) aA)<|lM (gH<|b7<|qt (x:="") (ao<|aG (aq 1)<|ao au) rfl (B.1.no B.2.n7) bM rfl (B.1.no B.2.n15) j0)<|pI<|gH<|b7<|bH (yI B) hr aO<|ak (aG (aq 1)<|ao au) aA)
  (aD<|bf iR)
  aU)
  (aD (bQ (gH<|b7<|bN (EY rfl) rfl (B.1.no B.2.n2) Vu<|aP (ao<|gY<|fW (aF ph) ["_law_word"] [] 1 [] rfl (by trivial) .nil (nq<|mF<|aG (aq 1)<|ao au) (λ_ _ _ _ _ _=>(bx<|nds rfl)) (λ_ _ _ _ _ _=>cW) λ_ _ _ _ _ _=>(bH (kh B) hr DK<|ak (aH 0) aA)) bj)
  (aD<|bf iR)
  aU)))))
  (aD<|bf iR)))
theorem yr:FF P w K mg base 1 "_law_fractions" ["_law_place"] jz:=B.2.q36.ff B.1 λ_ _ Fu=>
 bD Fu zG λ_ _ _ _ _ _ hr=>by
 have hu:=hr.units;unfold ue tu;exact(aB (bQ (bB (cg hu) (ao<|aG (aq 0)<|ao au) (ao bF)<|aY _)
  (aD<|j9<|f9<|ak (aG (aq 0)<|ao au) aA)
  aU)
  (aB (bQ (bB (cg hu) (ao<|aG (aq 0)<|ao au) (ao bF)<|aY _)
  (aD<|j9<|fW (aF ni) ["_law_share", "_law_part"] [] 2 [] rfl (by trivial) .nil (nq<|mF<|aG (aq 0)<|ao au) (λ_ _ _ _ _ _=>(gk rfl<|aV (bx<|nds rfl)<|aV (bx<|nds rfl) dB)) (λ_ _ _ _ _ _=>cW) λ_ _ _ _ _ _=>(aH 0))
  aU)
  (aD<|j9<|f9 aA)))
theorem yN:FF P w K mg base 3 "_law_too_great" ["_law_game"] bY:=B.2.q37.ff B.1 λ_ _ Fu=>
 bD Fu bW λ_ _ _ _ _ _ hr=>by
 have hu:=hr.units;unfold fD eZ;exact(aB (cF bW.nd<|bH (qN B) hr aO<|ak (aH 0) aA)
  (aB (bQ (vA<|lM (bB nF (ao<|bN cR rfl (B.1.no B.2.n8) je<|aP (aq 1) bj) (ao au)<|aY _)<|pI<|bB nF (ao<|bN (MF rfl) rfl (B.1.no B.2.n10) abP<|aP (ao<|gY<|fW (aF jD) ["_law_way", "_law_place", "_law_records"] [] 3 [] rfl (by trivial) .nil (my<|aq 1) (λ_ _ _ _ _ _=>(gk rfl<|aV (bx<|nds rfl)<|aV (bx<|nds rfl)<|aV (bx<|nds rfl) dB)) (λ_ _ _ _ _ _=>cW) λ_ _ _ _ _ _=>(bN cR rfl (B.1.no B.2.n8) je<|aP (aq 0) bj)) bj) (ao au)<|aY _)
  (aD<|bf iR)
  aU)
  (aB (jo (jJ<|aH 1) (gk rfl<|aV (bx bW.nd)<|aV (bx bW.nd)<|aV (bx bW.nd) dB)
  (aD (jo (jJ<|bH (yr B) hr aO<|ak (aH 3) aA) (gk rfl<|aV (bx bW.nd)<|aV (bx bW.nd) dB)
  (aD (bQ (vA<|lM (bB G6 (ao<|bN ud rfl (B.1.no B.2.n1) Eg<|aP (aq 5) bj) (ao<|aN Yv (ao au)<|ao au)<|aY _)<|pI<|bB G6 (aq 6) (ao au)<|aY _)
  (aD<|bf iR)
  aU)))))
  (aB (cF bW.nd<|bH (w5 B) hr aO<|ak (aH 0) aA)
  (aB (jo (mF<|bz<|ak au<|ak au aA) (bx bW.nd)
  (aB (xx (i:=9) (aF jD) ["_law_row", "_law_side"] ["_law_side"] 1 [8] bW.nd rfl (eC rfl) rfl (by trivial) (.cons rfl .nil) (my<|aq 7) (λ_ _ _ _ _ _=>(bx<|nds rfl)) (λ_ _ _ _ _ _=>(KZ<|bB (cg hu) (ao<|aG (aq 0)<|ao au) (aq 1)<|aY _)) λ_ _ _ _ _ _=>(bN cR rfl (B.1.no B.2.n8) je<|aP (ao<|aG (aq 0)<|ao au) bj))
  (aD (bQ (vA<|lM (bB nF (ao<|bN cR rfl (B.1.no B.2.n8) je<|aP (aq 9) bj) (ao au)<|aY _)<|pI<|bB nF (ao<|bN (FP rfl) rfl (B.1.no B.2.n14) Ni<|aP (aq 9) bj) (ao au)<|aY _)
  (aD<|bf iR)
  aU))))
  (aD<|bf iR))))))
theorem uO:FFH P w K mg base 1 "_law_ways" ["_law_some"] eX:=DfH (B.2.q38.df B.1.X B.1.N λ_ _ _ _ _ _=>xb1 λ_=>rfl) λ_ _ Fu=>
 Kv Fu vN λ_ _ _ _ _ _ hr hh=>by
 unfold vH v5;exact(aB (Ib (Cm:=HS) (k:=1000) iL hh (Xl<|aH 0) (bx vN.nd)
  (aB (bQ (gH<|b7<|qt (x:="") (aq 1) rfl (B.1.no B.2.n7) bM rfl (B.1.no B.2.n15) j0)
  (aD<|bf iR)
  aU)
  (aD (Ib (Cm:=HS) (k:=1000) iL hh (Z5<|aH 1) (bx vN.nd)
  (aD (bQ (vA<|lM (gH<|b7<|qt (x:="") (aq 2) rfl (B.1.no B.2.n7) bM rfl (B.1.no B.2.n6) U6)<|pI<|b7<|qt (x:="") (aq 2) rfl (B.1.no B.2.n7) bM rfl (B.1.no B.2.n4) Qa)
  (aD<|bf iR)
  aU))))))
  (aD<|bf iR))
theorem Ba:FFH P w K mg base 2 "_law_refusal" ["_law_e"] dh:=DfH (B.2.q39.df B.1.X B.1.N λ_ _ _ _ _ _=>xb1 λ_=>rfl) λ_ _ Fu=>
 Kv Fu vL λ_ _ _ _ _ _ hr hh=>by
 have hu:=abM hr;unfold jx jl;exact(aB (cF vL.nd<|gY<|f9<|ak (Iw (aq 0) rfl (B.1.no B.2.n7) bM rfl B.4.i_TooGreat)<|ak (Iw (aq 0) rfl (B.1.no B.2.n7) bM rfl B.4.i_NoShares)<|ak (Iw (aq 0) rfl (B.1.no B.2.n7) bM rfl B.4.i_Unlike)<|ak (Iw (aq 0) rfl (B.1.no B.2.n7) bM rfl B.4.i_Forgets) aA)
  (aB (bQ (vA<|lM (b7<|Xw (aq 0) rfl (B.1.no B.2.n7) bM<|Cp B.4.i_NoPlan<|Cp B.4.i_NoText<|Cp B.4.i_NoPlace Yr)<|lM (gH<|b7<|YJ (aq 0) rfl (B.1.no B.2.n7) bM rfl B.4.i_ValueError El)<|pI<|bB (qT hu) (ao<|bN (NB hh) rfl (B.1.no B.2.n14) Ni<|aP (aq 1) bj) (ao au)<|aY _)
  (aD<|bf<|bz<|ak bF aA)
  aU)
  (aB (bQ (b7<|aG (aq 1)<|ao au)
  (aD<|bf<|bz<|ak bF aA)
  aU)
  (aB (bQ (vA<|zL (b7<|aG (aq 1)<|ao au)<|wL<|b7<|M4 (uO B) hr hh Du<|ak (gY<|f9<|ak (nU (aq 0) B.4.f_way) aA) aA)
  (aD<|bf<|bz<|ak bF<|ak (nU (aq 0) B.4.f_way) aA)
  aU)
  (aB (bQ (vA<|zL (b7<|aG (aq 1)<|ao au)<|wL<|b7<|M4 (uO B) hr hh Du<|ak (gY<|f9<|ak (nU (aq 0) B.4.f_one)<|ak (nU (aq 0) B.4.f_other) aA) aA)
  (aD<|bf<|bz<|ak bF<|ak (nU (aq 0) B.4.f_one)<|ak (nU (aq 0) B.4.f_other) aA)
  aU)
  (aB (bQ (vA<|zL (b7<|aG (aq 1)<|ao au)<|wL<|b7<|M4 (uO B) hr hh Du<|ak (gY<|f9<|ak (nU (aq 0) B.4.f_one)<|ak (nU (aq 0) B.4.f_other) aA) aA)
  (aD<|bf<|bz<|ak bF<|ak (nU (aq 0) B.4.f_one)<|ak (nU (aq 0) B.4.f_other) aA)
  aU)
  (aD<|bf<|bz<|ak bF aA)))))))
theorem IW:FF P w K mg base 9 "_law_told" ["_law_game"] o8:=B.2.q40.ff B.1 λ_ _ Fu=>
 bD Fu lJ λ_ _ _ _ _ _ hr=>by
 have hu:=hr.units;unfold wD lH;exact(aB (cF lJ.nd abO)
  (aB (cF lJ.nd<|bz aA)
  (aB (aag (i:=3) (dW) rfl rfl (Yk (i:=1) (Zr B) hr lJ.nd rfl (eC rfl)<|ak (aH 0) aA) lJ.nd rfl rfl rfl B.4.c_DuelError λea=>X3 (i:=2) (Ba B) (ab3 hr) lJ.nd rfl (eC rfl)<|ak (aH 3) aA)
  (aB (bQ (bB (qT hu) (aq 2) (ao<|bz aA)<|aY _)
  (aD<|bf<|aH 2)
  aU)
  (aB (bQ (gH<|b7<|bH (zF B) hr aO<|ak (aH 1) aA)
  (aD<|bf<|bz<|ak bF aA)
  aU)
  (aD<|bf<|bz<|ak bF<|ak (aH 1) aA))))))
theorem oU:FF P w K mg base 1 "_law_one_is_right" ["_law_place"] cM:=B.2.q41.ff B.1 λ_ _ Fu=>
 bD Fu cJ λ_ _ _ _ _ _ hr=>by
 have hu:=hr.units;unfold pQ cN;exact(aB (bQ (bB (qT hu) (ao<|aG (aq 0)<|ao au) (ao bF)<|aY _)
  (aD<|bf iR)
  aU)
  (aB (cF cJ.nd au)
  (aB (cF cJ.nd au)
  (aB (jo (jJ<|gY<|fW (aF jQ) ["_law_share", "_law_part"] [] 2 [] rfl (by trivial) .nil (nq<|mF<|aG (aq 0)<|ao au) (λ_ _ _ _ _ _=>(gk rfl<|aV (bx<|nds rfl)<|aV (bx<|nds rfl) dB)) (λ_ _ _ _ _ _=>cW) λ_ _ _ _ _ _=>(aH 0)) (gk rfl<|aV (bx cJ.nd)<|aV (bx cJ.nd) dB)
  (aB (bQ (bB VR (aq 3) (ao au)<|aY _)
  (aD<|bf iR)
  aU)
  (aB (cF cJ.nd<|aN cO (ao<|aN jK (aq 1)<|aq 4)<|ao<|aN jK (aq 3)<|aq 2)
  (aD<|cF cJ.nd<|aN jK (aq 2)<|aq 4))))
  (aD<|bf<|jT (cg hu) (aq 1) (aq 2)<|aY _)))))
theorem jR:FF P w K mg base 1 "_law_named_alike" ["_law_first", "_law_second"] fV:=B.2.q42.ff B.1 λ_ _ Fu=>
 bD Fu kY λ_ _ _ _ _ _ hr=>by
 have hu:=hr.units;unfold qj cA;exact(aB (cF kY.nd<|aG (aq 0)<|ao au)
  (aB (cF kY.nd<|aG (aq 1)<|ao au)
  (aD<|bf<|xM (jT (cg hu) (ao<|aG (aq 2)<|ao au) (ao bF)<|aY _)<|xM (jT (cg hu) (ao<|aG (aq 3)<|ao au) (ao bF)<|aY _)<|xX<|jT (cg hu) (ao<|jX (aq 2) (jh<|ao au)<|jh<|ao au) (ao<|jX (aq 3) (jh<|ao au)<|jh<|ao au)<|aY _)))
theorem jP:FF P w K mg base 1 "_law_words_alike" ["_law_first", "_law_second"] iK:=B.2.q43.ff B.1 λ_ _ Fu=>
 bD Fu yl λ_ _ _ _ _ _ hr=>by
 have hu:=hr.units;unfold qp iz;exact(aD<|bf<|jT (cg hu) (ao<|gY<|fW (aF iD) ["_law_word", "_law_part"] [] 2 [] rfl (by trivial) .nil (nq<|mF<|aG (ao<|aG (aq 0)<|ao au)<|ao au) (λ_ _ _ _ _ _=>(gk rfl<|aV (bx<|nds rfl)<|aV (bx<|nds rfl) dB)) (λ_ _ _ _ _ _=>cW) λ_ _ _ _ _ _=>(aH 0)) (ao<|gY<|fW (aF iD) ["_law_word", "_law_part"] [] 2 [] rfl (by trivial) .nil (nq<|mF<|aG (ao<|aG (aq 1)<|ao au)<|ao au) (λ_ _ _ _ _ _=>(gk rfl<|aV (bx<|nds rfl)<|aV (bx<|nds rfl) dB)) (λ_ _ _ _ _ _=>cW) λ_ _ _ _ _ _=>(aH 0))<|aY _)
theorem mQ:FF P w K mg base 1 "_law_records_alike" ["_law_first", "_law_second"] gw:=B.2.q44.ff B.1 λ_ _ Fu=>
 bD Fu oO λ_ _ _ _ _ _ hr=>by
 have hu:=hr.units;unfold oH gB;exact(aB (cF oO.nd<|aG (ao<|aG (aq 0)<|ao au)<|ao au)
  (aD<|bf<|jT (cg hu) (ao<|aG (ao<|aG (aq 0)<|ao au)<|ao<|aN km (aq 2)<|ao au) (ao<|aG (ao<|aG (aq 1)<|ao au)<|ao<|aN km (aq 2)<|ao au)<|aY _))
theorem mC:FF P w K mg base 2 "_law_all_right" ["_law_places_here"] dO:=B.2.q45.ff B.1 λ_ _ Fu=>
 bD Fu nj λ_ _ _ _ _ _ hr=>by
 unfold tY jM;exact(aB (jo (m9 rfl (B.1.no B.2.n11)<|aP (ao<|bN cR rfl (B.1.no B.2.n8) je<|aP (aq 0) bj) bj) (bx nj.nd)
  (aB (bQ (gH<|b7<|bH (oU B) hr aO<|ak (aG (ao<|aG (aq 0)<|aq 1)<|ao au) aA)
  (aD<|bf iR)
  aU)
  (aD (jo (jJ<|jX (aq 0) uP<|jh<|aq 1) (bx nj.nd)
  (aD (bQ (b7<|bH (jR B) hr aO<|ak (aH 2)<|ak (aG (aq 0)<|aq 1) aA)
  (aD (bQ (vA<|lM (gH<|b7<|bH (jP B) hr aO<|ak (aH 2)<|ak (aG (aq 0)<|aq 1) aA)<|pI<|gH<|b7<|bH (mQ B) hr aO<|ak (aH 2)<|ak (aG (aq 0)<|aq 1) aA)
  (aD<|bf iR)
  aU))
  aU))))))
  (aD<|bf iR))
theorem xQ:FF P w K mg base 1 "_law_at" ["_law_places_here", "_law_way"] lL:=B.2.q46.ff B.1 λ_ _ Fu=>
 bD Fu Gr λ_ _ _ _ _ _ hr=>by
 have hu:=hr.units;unfold GP wR;exact(aB (jo (m9 rfl (B.1.no B.2.n11)<|aP (ao<|bN cR rfl (B.1.no B.2.n8) je<|aP (aq 0) bj) bj) (bx Gr.nd)
  (aD (bQ (bB (cg hu) (ao<|aG (ao<|aG (aq 0)<|aq 2)<|ao au) (aq 1)<|aY _)
  (aD<|bf<|aH 2)
  aU)))
  (aD<|bf<|BV uw<|ao au))
theorem zm:FF P w K mg base 3 "_law_two_ways" ["_law_places_here", "_law_kind", "_law_one", "_law_other"] gm:=B.2.q47.ff B.1 λ_ _ Fu=>
 bD Fu pC λ_ _ _ _ _ _ hr=>by
 have hu:=hr.units;unfold uX gn;exact(aB (cF pC.nd<|bH (xQ B) hr aO<|ak (aH 0)<|ak (aH 2) aA)
  (aB (cF pC.nd<|bH (xQ B) hr aO<|ak (aH 0)<|ak (aH 3) aA)
  (aB (bQ (vA<|lM (bB (z8 hu) (aq 4) (ao au)<|aY _)<|lM (bB VR (aq 5) (aq 4)<|aY _)<|pI<|gH<|b7<|bH (mC B) hr aO<|ak (jX (aq 0) uP<|jh<|aq 5) aA)
  (aD<|bf iR)
  aU)
  (aB (bQ (gH<|b7<|bH (jR B) hr aO<|ak (aG (aq 0)<|aq 4)<|ak (aG (aq 0)<|aq 5) aA)
  (aD<|bf iR)
  aU)
  (aB (bQ (b7<|bN (zW rfl) rfl (B.1.no B.2.n3) Nk<|aP (ao<|gY<|fW (aF pN) ["_law_place", "_law_places_here", "_law_last"] ["_law_places_here", "_law_last"] 1 [0,5] rfl (by trivial) (.cons rfl<|.cons rfl .nil) (my<|ao<|jX (aq 0) uP<|jh<|aq 4) (λ_ _ _ _ _ _=>(bx<|nds rfl)) (λ_ _ _ _ _ _=>cW) λ_ _ _ _ _ _=>(bH (jR B) hr DK<|ak (aH 0)<|ak (aG (aq 1)<|aq 2) aA)) bj)
  (aD<|bf iR)
  aU)
  (aB (bQ (bB (cg hu) (aq 1) (ao bF)<|aY _)
  (aD<|bf<|Lk<|bH (jP B) hr aO<|ak (aG (aq 0)<|aq 4)<|ak (aG (aq 0)<|aq 5) aA)
  aU)
  (aD<|bf<|xM (bH (jP B) hr aO<|ak (aG (aq 0)<|aq 4)<|ak (aG (aq 0)<|aq 5) aA)<|xX<|Lk<|bH (mQ B) hr aO<|ak (aG (aq 0)<|aq 4)<|ak (aG (aq 0)<|aq 5) aA)))))))
theorem abN {f:Addr}{fd:gN}(Fu:Fun K "law" "law" Ff f fd):
  oM P w K mg base (CX1 P w) 18 f fd ["_law_script"] (spF ⟨K,mg⟩ aaV):=
 bD Fu Al λ_ _ _ _ _ _ hr=>by
 have hu:=hr.units;unfold aaG JD;refine Wr.out ?_;exact(mZ (JL (i:=1) Al.nd rfl (eC rfl)<|Wr.mk<|bH (Ii B) hr aO<|ak (bH (iU B) hr aO<|ak (aH 0)<|ak au aA)<|ak (bH (iU B) hr aO<|ak (aH 0)<|ak au aA) aA)<|mZ (JL (i:=2) Al.nd rfl (eC rfl)<|Wr.mk<|bH (iU B) hr aO<|ak (aH 0)<|ak au aA)<|mZ (W5 (i:=3) Al.nd rfl (eC rfl)<|Wr.mk<|Zy (wC bF au<|wC bF au<|wC bF (aH 1)<|wC bF (aN bV (ao<|bH (iU B) hr aO<|ak (aH 0)<|ak au aA)<|ao au)<|wC bF (jT (cg hu) (ao<|aN bV (ao<|aN eO (aq 2)<|ao au)<|ao au) (ao au)<|aY _) XH) rfl rfl (λz=>nomatch z)<|by decide)<|mZ (Wr.mk<|Oa (i:=4) Al.nd rfl (eC rfl)<|DG 3 (Er B 8) hr aO<|vY (aN cO (ao<|jX (aq 0) (jh<|ao au)<|jh<|ao au)<|ao<|gY<|f9<|ak (bH (iU B) hr aO<|ak (aH 0)<|ak au aA) aA)<|vC (i:=3)<|ak (aN cO (ao au)<|ao<|aN bV (aq 2)<|ao au) aA)<|mZ (JL (i:=5) Al.nd rfl (eC rfl)<|Wr.mk<|bH (qN B) hr aO<|ak (aH 4) aA)<|mZ (JL (i:=6) Al.nd rfl (eC rfl)<|Wr.mk<|bH (IW B) hr aO<|ak (aH 4) aA)<|mZ (abn (Wr.mk<|vA<|lM (bB (cg hu) (ao<|aG (aq 6)<|ao au) (ao bF)<|aY _)<|pI<|bB (qT hu) (ao<|jT (cg hu) (ao<|aG (aq 6)<|ao au) (ao bF)<|aY _) (ao<|bH (yN B) hr aO<|ak (aH 4) aA)<|aY _) (K7<|PN<|Wr.mk iR)<|Wr.mk aU)<|mZ (abn (aar (cg hu) (Tv<|aeO ac3 (Wr.mk<|aq 6) (Tv<|Wr.mk au) λ_ _=>rfl) (Tv<|Wr.mk bF)<|aY _) (K7<|PN<|Wr.mk<|xM (bH (mC B) hr aO<|ak (aH 5) aA)<|xX<|jT (cg hu) (ao<|aG (aq 6)<|ao au) (ao<|bH (w5 B) hr aO<|ak (aH 4) aA)<|aY _)<|Wr.mk aU)<|mZ (abn (aar (cg hu) (Tv<|aeO ac3 (Wr.mk<|aq 6) (Tv<|Wr.mk au) λ_ _=>rfl) (Tv<|Wr.mk bF)<|aY _) (mZ (JL (i:=7) Al.nd rfl (eC rfl)<|Wr.mk<|bH (xQ B) hr aO<|ak (aH 5)<|ak (aG (aq 6)<|ao au) aA)<|K7<|PN<|Wr.mk<|xM (jT G6 (aq 7) (ao au)<|aY _)<|xM (Lk<|bH (oU B) hr aO<|ak (aG (ao<|aG (aq 5)<|aq 7)<|ao au) aA)<|xX<|bH (mC B) hr aO<|ak (jX (aq 5) uP<|jh<|aq 7) aA)<|Wr.mk aU)<|K7<|PN<|Wr.mk<|aao (jT (cg hu) (ao<|aG (aq 6)<|ao au) (ao bF)<|aY _)<|xX<|bH (zm B) hr aO<|ak (aH 5)<|ak (aG (aq 6)<|ao au)<|ak (aG (aq 6)<|ao au)<|ak (aG (aq 6)<|ao au) aA)
end
theorem all_mk {l:W.OpenLaw}{w:dA}{K:a7}{h:Heap}{mg:Zaa}{fa:Addr}(X:K.In h)(G:h.Ns cE mg)(hfa:mg "law" = some (.ref fa))(Q:Qs K)
  {CDuelError:Addr} (nDuelError:oq K cE "DuelError" = some (some<|.ref CDuelError))
  {CForgets:Addr} (nForgets:oq K cE "Forgets" = some (some<|.ref CForgets))
  {CNoPlace:Addr} (nNoPlace:oq K cE "NoPlace" = some (some<|.ref CNoPlace))
  {CNoPlan:Addr} (nNoPlan:oq K cE "NoPlan" = some (some<|.ref CNoPlan))
  {CNoShares:Addr} (nNoShares:oq K cE "NoShares" = some (some<|.ref CNoShares))
  {CNoText:Addr} (nNoText:oq K cE "NoText" = some (some<|.ref CNoText))
  {CTooGreat:Addr} (nTooGreat:oq K cE "TooGreat" = some (some<|.ref CTooGreat))
  {CUnlike:Addr} (nUnlike:oq K cE "Unlike" = some (some<|.ref CUnlike))
  (eTooGreat:B0 K CTooGreat [.type "ValueError",.type "Exception",.type "BaseException",.type "object"] "ValueError.__new__" = true)
  (xForgets0:cq K (.ref CForgets) "__getattribute__" = some (some<|.builtin "BaseException.__getattribute__"))
  (xForgets1:cq K (.ref CForgets) "__getattr__" = some none)
  (xForgets2:cq K (.ref CForgets) "__class__" = some (some<|.builtin "object.__class__"))
  (xForgets3:uS K (.ref CForgets) (.type "BaseException")=some true)
  (xForgets4:uS K (.ref CForgets) (.type "object")=some true)
  (xForgets5:p0 K CForgets=true)
  (xNoShares0:cq K (.ref CNoShares) "__getattribute__" = some (some<|.builtin "BaseException.__getattribute__"))
  (xNoShares1:cq K (.ref CNoShares) "__getattr__" = some none)
  (xNoShares2:cq K (.ref CNoShares) "__class__" = some (some<|.builtin "object.__class__"))
  (xNoShares3:uS K (.ref CNoShares) (.type "BaseException")=some true)
  (xNoShares4:uS K (.ref CNoShares) (.type "object")=some true)
  (xNoShares5:p0 K CNoShares=true)
  (xTooGreat0:cq K (.ref CTooGreat) "__getattribute__" = some (some<|.builtin "BaseException.__getattribute__"))
  (xTooGreat1:cq K (.ref CTooGreat) "__getattr__" = some none)
  (xTooGreat2:cq K (.ref CTooGreat) "__class__" = some (some<|.builtin "object.__class__"))
  (xTooGreat3:uS K (.ref CTooGreat) (.type "BaseException")=some true)
  (xTooGreat4:uS K (.ref CTooGreat) (.type "object")=some true)
  (xTooGreat5:p0 K CTooGreat=true)
  (xUnlike0:cq K (.ref CUnlike) "__getattribute__" = some (some<|.builtin "BaseException.__getattribute__"))
  (xUnlike1:cq K (.ref CUnlike) "__getattr__" = some none)
  (xUnlike2:cq K (.ref CUnlike) "__class__" = some (some<|.builtin "object.__class__"))
  (xUnlike3:uS K (.ref CUnlike) (.type "BaseException")=some true)
  (xUnlike4:uS K (.ref CUnlike) (.type "object")=some true)
  (xUnlike5:p0 K CUnlike=true)
  (uDuelErrorForgets:r9 K (.ref CForgets) (.ref CDuelError)=some true)
  (uDuelErrorNoShares:r9 K (.ref CNoShares) (.ref CDuelError)=some true)
  (uDuelErrorTooGreat:r9 K (.ref CTooGreat) (.ref CDuelError)=some true)
  (uDuelErrorUnlike:r9 K (.ref CUnlike) (.ref CDuelError)=some true)
  (wForgetsForgets:bS K (.ref CForgets) (.ref CForgets)=some true)
  (wForgetsNoShares:bS K (.ref CNoShares) (.ref CForgets)=some false)
  (wForgetsTooGreat:bS K (.ref CTooGreat) (.ref CForgets)=some false)
  (wForgetsUnlike:bS K (.ref CUnlike) (.ref CForgets)=some false)
  (vForgets:bS K (.type "NoneType") (.ref CForgets)=some false)
  (wNoPlaceForgets:bS K (.ref CForgets) (.ref CNoPlace)=some false)
  (wNoPlaceNoShares:bS K (.ref CNoShares) (.ref CNoPlace)=some false)
  (wNoPlaceTooGreat:bS K (.ref CTooGreat) (.ref CNoPlace)=some false)
  (wNoPlaceUnlike:bS K (.ref CUnlike) (.ref CNoPlace)=some false)
  (vNoPlace:bS K (.type "NoneType") (.ref CNoPlace)=some false)
  (wNoPlanForgets:bS K (.ref CForgets) (.ref CNoPlan)=some false)
  (wNoPlanNoShares:bS K (.ref CNoShares) (.ref CNoPlan)=some false)
  (wNoPlanTooGreat:bS K (.ref CTooGreat) (.ref CNoPlan)=some false)
  (wNoPlanUnlike:bS K (.ref CUnlike) (.ref CNoPlan)=some false)
  (vNoPlan:bS K (.type "NoneType") (.ref CNoPlan)=some false)
  (wNoSharesForgets:bS K (.ref CForgets) (.ref CNoShares)=some false)
  (wNoSharesNoShares:bS K (.ref CNoShares) (.ref CNoShares)=some true)
  (wNoSharesTooGreat:bS K (.ref CTooGreat) (.ref CNoShares)=some false)
  (wNoSharesUnlike:bS K (.ref CUnlike) (.ref CNoShares)=some false)
  (vNoShares:bS K (.type "NoneType") (.ref CNoShares)=some false)
  (wNoTextForgets:bS K (.ref CForgets) (.ref CNoText)=some false)
  (wNoTextNoShares:bS K (.ref CNoShares) (.ref CNoText)=some false)
  (wNoTextTooGreat:bS K (.ref CTooGreat) (.ref CNoText)=some false)
  (wNoTextUnlike:bS K (.ref CUnlike) (.ref CNoText)=some false)
  (vNoText:bS K (.type "NoneType") (.ref CNoText)=some false)
  (wTooGreatForgets:bS K (.ref CForgets) (.ref CTooGreat)=some false)
  (wTooGreatNoShares:bS K (.ref CNoShares) (.ref CTooGreat)=some false)
  (wTooGreatTooGreat:bS K (.ref CTooGreat) (.ref CTooGreat)=some true)
  (wTooGreatUnlike:bS K (.ref CUnlike) (.ref CTooGreat)=some false)
  (vTooGreat:bS K (.type "NoneType") (.ref CTooGreat)=some false)
  (wUnlikeForgets:bS K (.ref CForgets) (.ref CUnlike)=some false)
  (wUnlikeNoShares:bS K (.ref CNoShares) (.ref CUnlike)=some false)
  (wUnlikeTooGreat:bS K (.ref CTooGreat) (.ref CUnlike)=some false)
  (wUnlikeUnlike:bS K (.ref CUnlike) (.ref CUnlike)=some true)
  (vUnlike:bS K (.type "NoneType") (.ref CUnlike)=some false)
  (wValueErrorForgets:bS K (.ref CForgets) (.type "ValueError")=some true)
  (wValueErrorNoShares:bS K (.ref CNoShares) (.type "ValueError")=some true)
  (wValueErrorTooGreat:bS K (.ref CTooGreat) (.type "ValueError")=some true)
  (wValueErrorUnlike:bS K (.ref CUnlike) (.type "ValueError")=some true)
  (xnForgetsone:cq K (.ref CForgets) "one" = some none)
  (xnForgetsother:cq K (.ref CForgets) "other" = some none)
  (xsForgets:cq K (.ref CForgets) "__setattr__" = some (some<|.builtin "object.__setattr__"))
  (xkForgets:la K (.ref CForgets)=true)
  {IForgets:Addr} (xiForgets:cq K (.ref CForgets) "__init__" = some (some<|.ref IForgets))
  (xoForgets:(sv K CForgets).any (λcd=>GC cd.mro)=true)
  (xeForgets:G4 K CForgets IForgets [.type "ValueError",.type "Exception",.type "BaseException",.type "object"] "ValueError.__new__" = true)
  (xqForgets:QX K IForgets "Forgets.__init__" qU)
  (xnNoSharesway:cq K (.ref CNoShares) "way" = some none)
  (xsNoShares:cq K (.ref CNoShares) "__setattr__" = some (some<|.builtin "object.__setattr__"))
  (xkNoShares:la K (.ref CNoShares)=true)
  {INoShares:Addr} (xiNoShares:cq K (.ref CNoShares) "__init__" = some (some<|.ref INoShares))
  (xoNoShares:(sv K CNoShares).any (λcd=>GC cd.mro)=true)
  (xeNoShares:G4 K CNoShares INoShares [.type "ValueError",.type "Exception",.type "BaseException",.type "object"] "ValueError.__new__" = true)
  (xqNoShares:QX K INoShares "NoShares.__init__" pU)
  (xnUnlikeone:cq K (.ref CUnlike) "one" = some none)
  (xnUnlikeother:cq K (.ref CUnlike) "other" = some none)
  (xsUnlike:cq K (.ref CUnlike) "__setattr__" = some (some<|.builtin "object.__setattr__"))
  (xkUnlike:la K (.ref CUnlike)=true)
  {IUnlike:Addr} (xiUnlike:cq K (.ref CUnlike) "__init__" = some (some<|.ref IUnlike))
  (xoUnlike:(sv K CUnlike).any (λcd=>GC cd.mro)=true)
  (xeUnlike:G4 K CUnlike IUnlike [.type "ValueError",.type "Exception",.type "BaseException",.type "object"] "ValueError.__new__" = true)
  (xqUnlike:QX K IUnlike "Unlike.__init__" rH):
  ∃fd:gN,(∀(s:aS) (v:aw),A2 s fd ⟨[v],[]⟩ [("_law_script",v)])/\∀base:Heap,K.In base->base.Ns cE mg->oM l.prog w K mg base (CX1 l.prog w) 18 fa fd ["_law_script"] (Pq K):=by
 obtain⟨f,fd,F0,a⟩:=Q.q48.ex;have e:=hfa.symm.trans<|kH X G a;cases e;obtain⟨oc,od,kV,doc,pm,an,cdv,ct,osl,rfl,lk,hcd⟩:=F0.ex;refine⟨v3 "law" "law" (qe Ff) (gU Ff) (aF Ff) .none kV doc pm an cdv ct,λs v=>.of_eq rfl,λbase kb nb=>?_⟩;have Ex:ExT K mg:=⟨⟨CTooGreat,kH X G nTooGreat,eTooGreat⟩⟩;have yForgets:(sv K CForgets).isSome=true:=by
  obtain⟨cd,hc,_⟩:=nE xForgets5;rw[hc];rfl
 have ZForgets:XC K CForgets:=⟨xForgets0,xForgets1,xForgets2,xForgets3,xForgets4,yForgets⟩;have MForgets:∀{D:Addr},mg "Forgets" = some (.ref D)->D=CForgets:=λh=>by rw[kH X G nForgets] at h;cases h;rfl
 have yNoShares:(sv K CNoShares).isSome=true:=by
  obtain⟨cd,hc,_⟩:=nE xNoShares5;rw[hc];rfl
 have ZNoShares:XC K CNoShares:=⟨xNoShares0,xNoShares1,xNoShares2,xNoShares3,xNoShares4,yNoShares⟩;have MNoShares:∀{D:Addr},mg "NoShares" = some (.ref D)->D=CNoShares:=λh=>by rw[kH X G nNoShares] at h;cases h;rfl
 have yTooGreat:(sv K CTooGreat).isSome=true:=by
  obtain⟨cd,hc,_⟩:=nE xTooGreat5;rw[hc];rfl
 have ZTooGreat:XC K CTooGreat:=⟨xTooGreat0,xTooGreat1,xTooGreat2,xTooGreat3,xTooGreat4,yTooGreat⟩;have MTooGreat:∀{D:Addr},mg "TooGreat" = some (.ref D)->D=CTooGreat:=λh=>by rw[kH X G nTooGreat] at h;cases h;rfl
 have yUnlike:(sv K CUnlike).isSome=true:=by
  obtain⟨cd,hc,_⟩:=nE xUnlike5;rw[hc];rfl
 have ZUnlike:XC K CUnlike:=⟨xUnlike0,xUnlike1,xUnlike2,xUnlike3,xUnlike4,yUnlike⟩;have MUnlike:∀{D:Addr},mg "Unlike" = some (.ref D)->D=CUnlike:=λh=>by rw[kH X G nUnlike] at h;cases h;rfl
 have sDuelError:∀c D,dW c=true->mg c=some (.ref D)->r9 K (.ref D) (.ref CDuelError)=some true:=by
  intro c D hs hm;simp only[dW,mw,beq_iff_eq] at hs;rcases hs with((rfl|rfl)|rfl)|rfl
  ·rw[MForgets hm];exact uDuelErrorForgets
  ·rw[MNoShares hm];exact uDuelErrorNoShares
  ·rw[MTooGreat hm];exact uDuelErrorTooGreat
  ·rw[MUnlike hm];exact uDuelErrorUnlike
 have iForgets:∀c D b,jn c=some b->mg c=some (.ref D)->XC K D/\bS K (.ref D) (.ref CForgets)=some b:=by
  intro c D b hs hm;simp only[jn] at hs;by_cases qForgets:c = "Forgets"
  ·rw[if_pos qForgets] at hs;cases hs;subst qForgets;rw[MForgets hm];exact⟨ZForgets,wForgetsForgets⟩
  rw[if_neg qForgets] at hs;by_cases qNoShares:c = "NoShares"
  ·rw[if_pos qNoShares] at hs;cases hs;subst qNoShares;rw[MNoShares hm];exact⟨ZNoShares,wForgetsNoShares⟩
  rw[if_neg qNoShares] at hs;by_cases qTooGreat:c = "TooGreat"
  ·rw[if_pos qTooGreat] at hs;cases hs;subst qTooGreat;rw[MTooGreat hm];exact⟨ZTooGreat,wForgetsTooGreat⟩
  rw[if_neg qTooGreat] at hs;by_cases qUnlike:c = "Unlike"
  ·rw[if_pos qUnlike] at hs;cases hs;subst qUnlike;rw[MUnlike hm];exact⟨ZUnlike,wForgetsUnlike⟩
  rw[if_neg qUnlike] at hs;cases hs
 have iNoPlace:∀c D b,ju c=some b->mg c=some (.ref D)->XC K D/\bS K (.ref D) (.ref CNoPlace)=some b:=by
  intro c D b hs hm;simp only[ju] at hs;by_cases qForgets:c = "Forgets"
  ·rw[if_pos qForgets] at hs;cases hs;subst qForgets;rw[MForgets hm];exact⟨ZForgets,wNoPlaceForgets⟩
  rw[if_neg qForgets] at hs;by_cases qNoShares:c = "NoShares"
  ·rw[if_pos qNoShares] at hs;cases hs;subst qNoShares;rw[MNoShares hm];exact⟨ZNoShares,wNoPlaceNoShares⟩
  rw[if_neg qNoShares] at hs;by_cases qTooGreat:c = "TooGreat"
  ·rw[if_pos qTooGreat] at hs;cases hs;subst qTooGreat;rw[MTooGreat hm];exact⟨ZTooGreat,wNoPlaceTooGreat⟩
  rw[if_neg qTooGreat] at hs;by_cases qUnlike:c = "Unlike"
  ·rw[if_pos qUnlike] at hs;cases hs;subst qUnlike;rw[MUnlike hm];exact⟨ZUnlike,wNoPlaceUnlike⟩
  rw[if_neg qUnlike] at hs;cases hs
 have iNoPlan:∀c D b,lg c=some b->mg c=some (.ref D)->XC K D/\bS K (.ref D) (.ref CNoPlan)=some b:=by
  intro c D b hs hm;simp only[lg] at hs;by_cases qForgets:c = "Forgets"
  ·rw[if_pos qForgets] at hs;cases hs;subst qForgets;rw[MForgets hm];exact⟨ZForgets,wNoPlanForgets⟩
  rw[if_neg qForgets] at hs;by_cases qNoShares:c = "NoShares"
  ·rw[if_pos qNoShares] at hs;cases hs;subst qNoShares;rw[MNoShares hm];exact⟨ZNoShares,wNoPlanNoShares⟩
  rw[if_neg qNoShares] at hs;by_cases qTooGreat:c = "TooGreat"
  ·rw[if_pos qTooGreat] at hs;cases hs;subst qTooGreat;rw[MTooGreat hm];exact⟨ZTooGreat,wNoPlanTooGreat⟩
  rw[if_neg qTooGreat] at hs;by_cases qUnlike:c = "Unlike"
  ·rw[if_pos qUnlike] at hs;cases hs;subst qUnlike;rw[MUnlike hm];exact⟨ZUnlike,wNoPlanUnlike⟩
  rw[if_neg qUnlike] at hs;cases hs
 have iNoShares:∀c D b,iB c=some b->mg c=some (.ref D)->XC K D/\bS K (.ref D) (.ref CNoShares)=some b:=by
  intro c D b hs hm;simp only[iB] at hs;by_cases qForgets:c = "Forgets"
  ·rw[if_pos qForgets] at hs;cases hs;subst qForgets;rw[MForgets hm];exact⟨ZForgets,wNoSharesForgets⟩
  rw[if_neg qForgets] at hs;by_cases qNoShares:c = "NoShares"
  ·rw[if_pos qNoShares] at hs;cases hs;subst qNoShares;rw[MNoShares hm];exact⟨ZNoShares,wNoSharesNoShares⟩
  rw[if_neg qNoShares] at hs;by_cases qTooGreat:c = "TooGreat"
  ·rw[if_pos qTooGreat] at hs;cases hs;subst qTooGreat;rw[MTooGreat hm];exact⟨ZTooGreat,wNoSharesTooGreat⟩
  rw[if_neg qTooGreat] at hs;by_cases qUnlike:c = "Unlike"
  ·rw[if_pos qUnlike] at hs;cases hs;subst qUnlike;rw[MUnlike hm];exact⟨ZUnlike,wNoSharesUnlike⟩
  rw[if_neg qUnlike] at hs;cases hs
 have iNoText:∀c D b,lr c=some b->mg c=some (.ref D)->XC K D/\bS K (.ref D) (.ref CNoText)=some b:=by
  intro c D b hs hm;simp only[lr] at hs;by_cases qForgets:c = "Forgets"
  ·rw[if_pos qForgets] at hs;cases hs;subst qForgets;rw[MForgets hm];exact⟨ZForgets,wNoTextForgets⟩
  rw[if_neg qForgets] at hs;by_cases qNoShares:c = "NoShares"
  ·rw[if_pos qNoShares] at hs;cases hs;subst qNoShares;rw[MNoShares hm];exact⟨ZNoShares,wNoTextNoShares⟩
  rw[if_neg qNoShares] at hs;by_cases qTooGreat:c = "TooGreat"
  ·rw[if_pos qTooGreat] at hs;cases hs;subst qTooGreat;rw[MTooGreat hm];exact⟨ZTooGreat,wNoTextTooGreat⟩
  rw[if_neg qTooGreat] at hs;by_cases qUnlike:c = "Unlike"
  ·rw[if_pos qUnlike] at hs;cases hs;subst qUnlike;rw[MUnlike hm];exact⟨ZUnlike,wNoTextUnlike⟩
  rw[if_neg qUnlike] at hs;cases hs
 have iTooGreat:∀c D b,iM c=some b->mg c=some (.ref D)->XC K D/\bS K (.ref D) (.ref CTooGreat)=some b:=by
  intro c D b hs hm;simp only[iM] at hs;by_cases qForgets:c = "Forgets"
  ·rw[if_pos qForgets] at hs;cases hs;subst qForgets;rw[MForgets hm];exact⟨ZForgets,wTooGreatForgets⟩
  rw[if_neg qForgets] at hs;by_cases qNoShares:c = "NoShares"
  ·rw[if_pos qNoShares] at hs;cases hs;subst qNoShares;rw[MNoShares hm];exact⟨ZNoShares,wTooGreatNoShares⟩
  rw[if_neg qNoShares] at hs;by_cases qTooGreat:c = "TooGreat"
  ·rw[if_pos qTooGreat] at hs;cases hs;subst qTooGreat;rw[MTooGreat hm];exact⟨ZTooGreat,wTooGreatTooGreat⟩
  rw[if_neg qTooGreat] at hs;by_cases qUnlike:c = "Unlike"
  ·rw[if_pos qUnlike] at hs;cases hs;subst qUnlike;rw[MUnlike hm];exact⟨ZUnlike,wTooGreatUnlike⟩
  rw[if_neg qUnlike] at hs;cases hs
 have iUnlike:∀c D b,kO c=some b->mg c=some (.ref D)->XC K D/\bS K (.ref D) (.ref CUnlike)=some b:=by
  intro c D b hs hm;simp only[kO] at hs;by_cases qForgets:c = "Forgets"
  ·rw[if_pos qForgets] at hs;cases hs;subst qForgets;rw[MForgets hm];exact⟨ZForgets,wUnlikeForgets⟩
  rw[if_neg qForgets] at hs;by_cases qNoShares:c = "NoShares"
  ·rw[if_pos qNoShares] at hs;cases hs;subst qNoShares;rw[MNoShares hm];exact⟨ZNoShares,wUnlikeNoShares⟩
  rw[if_neg qNoShares] at hs;by_cases qTooGreat:c = "TooGreat"
  ·rw[if_pos qTooGreat] at hs;cases hs;subst qTooGreat;rw[MTooGreat hm];exact⟨ZTooGreat,wUnlikeTooGreat⟩
  rw[if_neg qTooGreat] at hs;by_cases qUnlike:c = "Unlike"
  ·rw[if_pos qUnlike] at hs;cases hs;subst qUnlike;rw[MUnlike hm];exact⟨ZUnlike,wUnlikeUnlike⟩
  rw[if_neg qUnlike] at hs;cases hs
 have iValueError:∀c D b,fG c=some b->mg c=some (.ref D)->XC K D/\bS K (.ref D) (.type "ValueError")=some b:=by
  intro c D b hs hm;simp only[fG] at hs;by_cases qForgets:c = "Forgets"
  ·rw[if_pos qForgets] at hs;cases hs;subst qForgets;rw[MForgets hm];exact⟨ZForgets,wValueErrorForgets⟩
  rw[if_neg qForgets] at hs;by_cases qNoShares:c = "NoShares"
  ·rw[if_pos qNoShares] at hs;cases hs;subst qNoShares;rw[MNoShares hm];exact⟨ZNoShares,wValueErrorNoShares⟩
  rw[if_neg qNoShares] at hs;by_cases qTooGreat:c = "TooGreat"
  ·rw[if_pos qTooGreat] at hs;cases hs;subst qTooGreat;rw[MTooGreat hm];exact⟨ZTooGreat,wValueErrorTooGreat⟩
  rw[if_neg qTooGreat] at hs;by_cases qUnlike:c = "Unlike"
  ·rw[if_pos qUnlike] at hs;cases hs;subst qUnlike;rw[MUnlike hm];exact⟨ZUnlike,wValueErrorUnlike⟩
  rw[if_neg qUnlike] at hs;cases hs
 have XFForgets:XF K CForgets:=⟨ZForgets,xsForgets,xoForgets,xForgets5⟩;have XFNoShares:XF K CNoShares:=⟨ZNoShares,xsNoShares,xoNoShares,xNoShares5⟩;have XFUnlike:XF K CUnlike:=⟨ZUnlike,xsUnlike,xoUnlike,xUnlike5⟩;have fone:∀c C,pX c=true->mg c=some (.ref C)->XF K C/\cq K (.ref C) "one" = some none:=by
  intro c C hs hm;simp only[pX,mw,beq_iff_eq] at hs;rcases hs with rfl|rfl
  ·rw[MForgets hm];exact⟨XFForgets,xnForgetsone⟩
  ·rw[MUnlike hm];exact⟨XFUnlike,xnUnlikeone⟩
 have fother:∀c C,jB c=true->mg c=some (.ref C)->XF K C/\cq K (.ref C) "other" = some none:=by
  intro c C hs hm;simp only[jB,mw,beq_iff_eq] at hs;rcases hs with rfl|rfl
  ·rw[MForgets hm];exact⟨XFForgets,xnForgetsother⟩
  ·rw[MUnlike hm];exact⟨XFUnlike,xnUnlikeother⟩
 have fway:∀c C,wI c=true->mg c=some (.ref C)->XF K C/\cq K (.ref C) "way" = some none:=by
  intro c C hs hm;simp only[wI,mw,beq_iff_eq] at hs;subst hs;rw[MNoShares hm];exact⟨XFNoShares,xnNoSharesway⟩
 have Xc:XcT K mg:=⟨⟨CDuelError,kH X G nDuelError,sDuelError⟩,⟨CForgets,kH X G nForgets,iForgets,vForgets⟩,⟨CNoPlace,kH X G nNoPlace,iNoPlace,vNoPlace⟩,⟨CNoPlan,kH X G nNoPlan,iNoPlan,vNoPlan⟩,⟨CNoShares,kH X G nNoShares,iNoShares,vNoShares⟩,⟨CNoText,kH X G nNoText,iNoText,vNoText⟩,⟨CTooGreat,kH X G nTooGreat,iTooGreat,vTooGreat⟩,⟨CUnlike,kH X G nUnlike,iUnlike,vUnlike⟩,⟨(⟨kb,nb⟩:Cb K mg base).no Q.n0,iValueError⟩,fone,fother,fway⟩;obtain⟨fdForgets,FForgets,iForgetsx⟩:=xqForgets.ex;obtain⟨fdNoShares,FNoShares,iNoSharesx⟩:=xqNoShares.ex;obtain⟨fdUnlike,FUnlike,iUnlikex⟩:=xqUnlike.ex;have Xf:XfT l.prog w K mg base:=⟨⟨⟨CForgets,IForgets,_,_,kH X G nForgets,⟨xeForgets,iForgetsx,xkForgets⟩,XFForgets,aaC FForgets XFForgets xnForgetsone xnForgetsother (by decide) xO rfl,FForgets.binds λ_ _ _ _ _ _=>xb3 λ_ _ _=>rfl⟩⟩,⟨⟨CNoShares,INoShares,_,_,kH X G nNoShares,⟨xeNoShares,iNoSharesx,xkNoShares⟩,XFNoShares,adT FNoShares XFNoShares xnNoSharesway wU rfl,FNoShares.binds λ_ _ _ _ _ _=>xb2 λ_ _=>rfl⟩⟩,⟨⟨CUnlike,IUnlike,_,_,kH X G nUnlike,⟨xeUnlike,iUnlikex,xkUnlike⟩,XFUnlike,aaC FUnlike XFUnlike xnUnlikeone xnUnlikeother (by decide) yQ rfl,FUnlike.binds λ_ _ _ _ _ _=>xb3 λ_ _ _=>rfl⟩⟩⟩;exact Zw WQ<|abN ⟨⟨kb,nb⟩,Q,Ex,Xc,Xf⟩ F0
theorem walk {l:W.OpenLaw}{q:bq}{loose:List Str}{XP:(Zaa)->Heap->Prop}{YP:dA->Heap->Prop}{d:DefRec}{K:Params->a7}(hn:l.most=some 63)(hdf:d.params.defaults=[])
  (hY:∀(w:dA) (h:Heap),YP w h->(K w.params).In h)
  (F:∀(w:dA) (mg:Zaa) (fa:Addr) (h:Heap),(K w.params).In h->h.Ns cE mg->mg d.name=some (.ref fa)->
   ∃fd:gN,(∀(s:aS) (u:aw),A2 s fd ⟨[u],[]⟩ [("_law_script",u)])/\∀base:Heap,(K w.params).In base->base.Ns cE mg->oM l.prog w (K w.params) mg base (CX1 l.prog w) 18 fa fd ["_law_script"] (Pq<|K w.params)):
  W.WalkO q loose XP YP l.row.toRowW d [] (λf vs=>BU f vs):=
 L2.XS (n:=63) (k:=18) (x:="_law_script") (CX:=λw=>CX1 l.prog w) (sp:=λw=>Pq<|K w.params) hn (by decide) hdf ⟨rfl,by decide,by decide,rfl⟩ hY F (λ_ _ a ns hl _ hS=>⟨a,ns,rfl,hS,hl,λ_=>rfl⟩) λ_ _ _ _ _ ⟨_,_,_,_,_,_,z⟩=>z.elim
end K17
namespace PySem.W.Fast
theorem tw7927925434126515986:True:=⟨⟩
theorem tw10477108348526859969:True:=⟨⟩
theorem tw1683539878457167819:True:=⟨⟩
theorem tw249265776751408379:True:=⟨⟩
theorem tw11111931009654293052:True:=⟨⟩
theorem tw14446354481609461497:True:=⟨⟩
theorem tw16932980130072416046:True:=⟨⟩
theorem tw16715715952339366163:True:=⟨⟩
theorem tw16689953415595400389:True:=⟨⟩
theorem tw852799709554410423:True:=⟨⟩
theorem tw2841914997743290086:True:=⟨⟩
theorem tw4788099000676591971:True:=⟨⟩
theorem tw14480227373119492409:True:=⟨⟩
theorem tw5032289081333467043:True:=⟨⟩
theorem tw14965444600135135500:True:=⟨⟩
theorem tw11598349035233104191:True:=⟨⟩
theorem tw8702553155710290412:True:=⟨⟩
theorem tw6431047351697446168:True:=⟨⟩
theorem tw18197739013395795797:True:=⟨⟩
theorem tw16819377283182410254:True:=⟨⟩
theorem tw5424653622441745125:True:=⟨⟩
theorem tw16524326070371016484:True:=⟨⟩
theorem tw15505600395498144024:True:=⟨⟩
theorem tw13774386886833126203:True:=⟨⟩
theorem tw2050724233653564745:True:=⟨⟩
theorem tw8913259856256755289:True:=⟨⟩
theorem tw15925808861328703598:True:=⟨⟩
theorem tw7531017762763190038:True:=⟨⟩
theorem tw1055859781036017919:True:=⟨⟩
theorem tw1310646010910322028:True:=⟨⟩
theorem tw13221224873060976830:True:=⟨⟩
theorem tw11931722203430703033:True:=⟨⟩
theorem tw14977109248154115027:True:=⟨⟩
theorem tw6691869873723516618:True:=⟨⟩
theorem tw16091911534796362977:True:=⟨⟩
theorem tw3214926473053182331:True:=⟨⟩
theorem tw16514936716715068562:True:=⟨⟩
theorem tw3741804248223550776:True:=⟨⟩
theorem tw1329437881413204908:True:=⟨⟩
theorem tw4099418511596596865:True:=⟨⟩
theorem tw10869353987842258327:True:=⟨⟩
theorem tw12804351124502719361:True:=⟨⟩
theorem tw8896108917854583841:True:=⟨⟩
theorem tw8076049781767989326:True:=⟨⟩
theorem tw7693466944584796325:True:=⟨⟩
theorem tw5464477579889537522:True:=⟨⟩
theorem tw2781898779810375472:True:=⟨⟩
theorem tw17058653744260619956:True:=⟨⟩
theorem tw18163261631146835202:True:=⟨⟩
theorem tw1454879238432253152:True:=⟨⟩
theorem tw11893828279343684155:True:=⟨⟩
theorem tw15798581552349649208:True:=⟨⟩
theorem tw13708673597949357976:True:=⟨⟩
theorem tw7567407071654413452:True:=⟨⟩
theorem tw15963953422723674795:True:=⟨⟩
theorem tw15421142725833598677:True:=⟨⟩
theorem tw73397551013784785:True:=⟨⟩
theorem tw14238367814937060437:True:=⟨⟩
theorem tw4342778221267302049:True:=⟨⟩
theorem tw11223582805364064314:True:=⟨⟩
theorem tw2006295778982427649:True:=⟨⟩
theorem tw12120324109029268149:True:=⟨⟩
theorem tw3123494444483142279:True:=⟨⟩
theorem tw5500166399258410211:True:=⟨⟩
theorem tw12088454348065795612:True:=⟨⟩
theorem tw18143809398415313785:True:=⟨⟩
theorem tw3594616286187855000:True:=⟨⟩
theorem tw17806446444081897571:True:=⟨⟩
theorem tw15936415732377354292:True:=⟨⟩
theorem tw15313843210144535858:True:=⟨⟩
theorem tw14569496463844342622:True:=⟨⟩
theorem tw14411251985429781874:True:=⟨⟩
theorem tw18024240848732996396:True:=⟨⟩
theorem tw6603983420708448772:True:=⟨⟩
theorem tw12565720640515192884:True:=⟨⟩
theorem tw13108123863719461379:True:=⟨⟩
theorem tw13619202031219633522:True:=⟨⟩
theorem tw9403870499956667032:True:=⟨⟩
theorem tw10169952881188370103:True:=⟨⟩
theorem tw9217254619277538918:True:=⟨⟩
theorem tw169744446886576881:True:=⟨⟩
theorem tw2861063637763140717:True:=⟨⟩
theorem tw13315702413662329631:True:=⟨⟩
theorem tw4736697689114367260:True:=⟨⟩
theorem tw3638523563345889522:True:=⟨⟩
theorem tw11453968348862979583:True:=⟨⟩
theorem tw17103856543541753866:True:=⟨⟩
theorem tw10607551667564562589:True:=⟨⟩
theorem tw12415166138499408558:True:=⟨⟩
theorem tw8207014685499103034:True:=⟨⟩
theorem tw9234244177341357407:True:=⟨⟩
theorem tw17478390929712494900:True:=⟨⟩
theorem tw10482548905369050156:True:=⟨⟩
theorem tw6678064190609912526:True:=⟨⟩
theorem tw88693486505465186:True:=⟨⟩
theorem tw3446589063466273070:True:=⟨⟩
theorem tw2422561962297763222:True:=⟨⟩
theorem tw10207486671615508320:True:=⟨⟩
theorem tw8052999340874902917:True:=⟨⟩
theorem tw7853390945991498566:True:=⟨⟩
theorem tw4999793229956436977:True:=⟨⟩
theorem tw3105950222386226734:True:=⟨⟩
theorem tw6156876941664606366:True:=⟨⟩
theorem tw15840984791954926135:True:=⟨⟩
theorem tw5650935184197266005:True:=⟨⟩
theorem tw6135077601691374034:True:=⟨⟩
theorem tw13521519074355346462:True:=⟨⟩
theorem tw5311513158339970485:True:=⟨⟩
theorem tw5660033393868855493:True:=⟨⟩
theorem tw10650430373493087415:True:=⟨⟩
theorem tw11093427712676135241:True:=⟨⟩
theorem tw18178003754545801880:True:=⟨⟩
theorem tw3741035812016882183:True:=⟨⟩
theorem tw11855075170507896694:True:=⟨⟩
theorem tw7538556373647183318:True:=⟨⟩
theorem tw11780698750742205013:True:=⟨⟩
theorem tw11577800686980707160:True:=⟨⟩
theorem tw5842004924024721506:True:=⟨⟩
theorem tw4566341299839926725:True:=⟨⟩
theorem tw10037406627703149685:True:=⟨⟩
theorem tw9914830668357713750:True:=⟨⟩
theorem tw875298853406351707:True:=⟨⟩
theorem tw10495846934675141811:True:=⟨⟩
theorem tw385323595537964751:True:=⟨⟩
theorem tw11157119860409974463:True:=⟨⟩
theorem tw14565286046673157284:True:=⟨⟩
theorem tw6092088701680306169:True:=⟨⟩
theorem tw6922602856238735187:True:=⟨⟩
theorem tw1275337293571734241:True:=⟨⟩
theorem tw1441673673042847564:True:=⟨⟩
theorem tw14420677881187215261:True:=⟨⟩
theorem tw6918628416324565227:True:=⟨⟩
theorem tw11957008600699626788:True:=⟨⟩
theorem tw17239580077696297339:True:=⟨⟩
theorem tw4649277347281133372:True:=⟨⟩
theorem tw14253554902294799932:True:=⟨⟩
theorem tw9935974458479226775:True:=⟨⟩
theorem tw3814081602617008343:True:=⟨⟩
theorem tw18435146723763341322:True:=⟨⟩
theorem tw17303797826236778404:True:=⟨⟩
theorem tw13831790031118207178:True:=⟨⟩
theorem tw12871008872610278395:True:=⟨⟩
theorem tw15891946934472334085:True:=⟨⟩
theorem tw6055787979339275928:True:=⟨⟩
theorem tw5333588183090945672:True:=⟨⟩
theorem tw3848809134368702193:True:=⟨⟩
theorem tw17931985909002412454:True:=⟨⟩
theorem tw1678318994996978828:True:=⟨⟩
theorem tw14329137366848676802:True:=⟨⟩
theorem tw11559864358556963821:True:=⟨⟩
theorem tw3365116174484441299:True:=⟨⟩
theorem tw11139607836188344706:True:=⟨⟩
theorem tw13713735207219173931:True:=⟨⟩
theorem tw13443483514275934845:True:=⟨⟩
theorem tw12026012267790425881:True:=⟨⟩
theorem tw12024360232260583263:True:=⟨⟩
theorem tw11607532671576531545:True:=⟨⟩
theorem tw9951018090232315248:True:=⟨⟩
theorem tw305387165108017297:True:=⟨⟩
theorem tw4343585931227262679:True:=⟨⟩
theorem tw2173937671123930820:True:=⟨⟩
theorem tw259162672740231701:True:=⟨⟩
theorem tw6772937030015434610:True:=⟨⟩
theorem tw1499594564696144048:True:=⟨⟩
theorem tw7722315297932139895:True:=⟨⟩
theorem tw6698708693314015392:True:=⟨⟩
theorem tw6369401634742384066:True:=⟨⟩
theorem tw6142097637440381916:True:=⟨⟩
theorem tw10168292255347034851:True:=⟨⟩
theorem tw8078471383324176211:True:=⟨⟩
theorem tw16774444527457764402:True:=⟨⟩
theorem tw8242201942506870021:True:=⟨⟩
theorem tw6066722377591301189:True:=⟨⟩
theorem tw3743399746388083314:True:=⟨⟩
theorem tw1394264300777939233:True:=⟨⟩
theorem tw10110315445219147421:True:=⟨⟩
theorem tw6586343092544199720:True:=⟨⟩
theorem tw2291310258162639486:True:=⟨⟩
theorem tw10581206857599718276:True:=⟨⟩
theorem tw10383853391040538106:True:=⟨⟩
theorem tw9547956927104881597:True:=⟨⟩
theorem tw8677402512369294931:True:=⟨⟩
theorem tw4877114799584879120:True:=⟨⟩
theorem tw18046626973435487589:True:=⟨⟩
theorem tw4629174815327291785:True:=⟨⟩
theorem tw10457462385813349660:True:=⟨⟩
theorem tw6873008037933794878:True:=⟨⟩
theorem tw14233957680965642245:True:=⟨⟩
theorem tw15245100020426463464:True:=⟨⟩
theorem tw14415061809920214371:True:=⟨⟩
theorem tw5439432001953957336:True:=⟨⟩
theorem tw14615047066673643928:True:=⟨⟩
theorem tw12184786338095328052:True:=⟨⟩
theorem tw1016058774628092373:True:=⟨⟩
theorem tw7783124804555426087:True:=⟨⟩
theorem tw7151085534493492371:True:=⟨⟩
theorem tw18178926925375210765:True:=⟨⟩
theorem tw16885766583735962055:True:=⟨⟩
theorem tw17626171479819151369:True:=⟨⟩
theorem tw12105133044516632715:True:=⟨⟩
theorem tw16182039452617205064:True:=⟨⟩
theorem tw14236952151574440195:True:=⟨⟩
theorem tw12159951918062242417:True:=⟨⟩
theorem tw7298190936532155535:True:=⟨⟩
theorem tw319094515728137236:True:=⟨⟩
theorem tw2414215437226406462:True:=⟨⟩
theorem tw17058106427278879822:True:=⟨⟩
theorem tw16814607865904626597:True:=⟨⟩
theorem tw10211667759166136908:True:=⟨⟩
theorem tw16795518467244040405:True:=⟨⟩
theorem tw16450192808796037153:True:=⟨⟩
theorem tw16280793752968188748:True:=⟨⟩
theorem tw15794653373697887985:True:=⟨⟩
theorem tw15733709435904604749:True:=⟨⟩
theorem tw1546995125914034957:True:=⟨⟩
theorem tw15459663632356250827:True:=⟨⟩
theorem tw14997472548909422153:True:=⟨⟩
theorem tw14862851972446596933:True:=⟨⟩
theorem tw14737179447870843721:True:=⟨⟩
theorem tw14461393991581765133:True:=⟨⟩
theorem tw14291631745662296881:True:=⟨⟩
theorem tw13464618893710455688:True:=⟨⟩
theorem tw12963862032824872958:True:=⟨⟩
theorem tw12719573060602729394:True:=⟨⟩
theorem tw11172899980538530552:True:=⟨⟩
theorem tw10945554526829717217:True:=⟨⟩
theorem tw10541483365136878235:True:=⟨⟩
theorem tw10490738976229299745:True:=⟨⟩
theorem tw10478763298083415265:True:=⟨⟩
theorem tw9955578491466697758:True:=⟨⟩
theorem tw9944902269909521911:True:=⟨⟩
theorem tw9632986323414571965:True:=⟨⟩
theorem tw957081692495102724:True:=⟨⟩
theorem tw8429062789222126052:True:=⟨⟩
theorem tw836571894330280803:True:=⟨⟩
theorem tw748683017597557746:True:=⟨⟩
theorem tw7077904149923145622:True:=⟨⟩
theorem tw6698708096513362862:True:=⟨⟩
theorem tw6445378305267167570:True:=⟨⟩
theorem tw6325955645229896507:True:=⟨⟩
theorem tw629058826256886080:True:=⟨⟩
theorem tw4683802922650644618:True:=⟨⟩
theorem tw4631617073927728450:True:=⟨⟩
theorem tw4495852385265563901:True:=⟨⟩
theorem tw3722261928608988062:True:=⟨⟩
theorem tw3642648686433071781:True:=⟨⟩
theorem tw3574506879108737785:True:=⟨⟩
theorem tw3270319339849366218:True:=⟨⟩
theorem tw2840047510755495090:True:=⟨⟩
theorem tw2742310650968480597:True:=⟨⟩
theorem tw270098513336950525:True:=⟨⟩
theorem tw18352659012967148129:True:=⟨⟩
theorem tw18133069359563176262:True:=⟨⟩
theorem tw1794469093983862232:True:=⟨⟩
theorem tw1764714088713327372:True:=⟨⟩
theorem tw17284649289537318167:True:=⟨⟩
theorem tw11623364722521593327:True:=⟨⟩
theorem tw4868987206392587009:True:=⟨⟩
theorem tw13893227608892778270:True:=⟨⟩
theorem tw11336105371765182380:True:=⟨⟩
theorem tw8389163611919665691:True:=⟨⟩
theorem tw7777322136119456468:True:=⟨⟩
theorem tw692616489069843706:True:=⟨⟩
theorem tw5829222867641027719:True:=⟨⟩
theorem tw3904123683250911319:True:=⟨⟩
theorem tw3503810827692740442:True:=⟨⟩
theorem tw14290188617943535377:True:=⟨⟩
theorem tw8982123018169678159:True:=⟨⟩
theorem tw8438995541833074464:True:=⟨⟩
theorem tw6397288294212420250:True:=⟨⟩
theorem tw1464511584399886836:True:=⟨⟩
theorem tw7835746733554169025:True:=⟨⟩
theorem tw10687690018579309684:True:=⟨⟩
theorem tw14149700069211377420:True:=⟨⟩
theorem tw13928394015619615532:True:=⟨⟩
theorem tw8100503901835614421:True:=⟨⟩
theorem tw2725655336430123014:True:=⟨⟩
theorem tw18037682281020550078:True:=⟨⟩
theorem tw17973002116862968352:True:=⟨⟩
theorem tw17180624393473036665:True:=⟨⟩
theorem tw14897261325163508049:True:=⟨⟩
theorem tw8834383554105351131:True:=⟨⟩
theorem tw8091053044817919258:True:=⟨⟩
theorem tw6746597223186758434:True:=⟨⟩
theorem tw3680711223796194113:True:=⟨⟩
theorem tw2152598476545111522:True:=⟨⟩
theorem tw17719425132741356173:True:=⟨⟩
theorem tw16439349510758781207:True:=⟨⟩
theorem tw15934533712331106129:True:=⟨⟩
theorem tw6374025370636512492:True:=⟨⟩
theorem tw3785625588050667993:True:=⟨⟩
theorem tw3212387627649691631:True:=⟨⟩
theorem tw2684030429670796035:True:=⟨⟩
theorem tw17469473911674121738:True:=⟨⟩
theorem tw10061198055990423178:True:=⟨⟩
theorem tw14361926727819366181:True:=⟨⟩
theorem tw15740595374430661431:True:=⟨⟩
theorem tw14565557558095341780:True:=⟨⟩
theorem tw14405972232932271230:True:=⟨⟩
theorem tw12618467696315709570:True:=⟨⟩
theorem tw8472288718866161276:True:=⟨⟩
theorem tw7100397234735025495:True:=⟨⟩
theorem tw5395220505923344470:True:=⟨⟩
theorem tw5132034937273501027:True:=⟨⟩
theorem tw507408281564042983:True:=⟨⟩
theorem tw3801144972132965461:True:=⟨⟩
theorem tw16636710643258258607:True:=⟨⟩
theorem tw16582866243843074602:True:=⟨⟩
theorem tw16556463126424168912:True:=⟨⟩
theorem tw16351694141777255657:True:=⟨⟩
theorem tw16286114629847508445:True:=⟨⟩
theorem tw16081339618554623356:True:=⟨⟩
theorem tw16047461885904879040:True:=⟨⟩
theorem tw15993983201374532380:True:=⟨⟩
theorem tw15158251486790745240:True:=⟨⟩
theorem tw15085925952096190328:True:=⟨⟩
theorem tw14958042812707669678:True:=⟨⟩
theorem tw1451887116528065356:True:=⟨⟩
theorem tw14422727962206137965:True:=⟨⟩
theorem tw14420933775588023153:True:=⟨⟩
theorem tw14304365111451764155:True:=⟨⟩
theorem tw14157001560392180311:True:=⟨⟩
theorem tw14073606914290416628:True:=⟨⟩
theorem tw13695738377754977268:True:=⟨⟩
theorem tw13679767873952383073:True:=⟨⟩
theorem tw13488503537989004620:True:=⟨⟩
theorem tw13142643709579508422:True:=⟨⟩
theorem tw12982109568568608341:True:=⟨⟩
theorem tw12771034681403549981:True:=⟨⟩
theorem tw12740915946365916937:True:=⟨⟩
theorem tw12566828001412539759:True:=⟨⟩
theorem tw12270760558949438688:True:=⟨⟩
theorem tw12237960445945973574:True:=⟨⟩
theorem tw12106852078416717889:True:=⟨⟩
theorem tw11937897776741957000:True:=⟨⟩
theorem tw11827875484920912797:True:=⟨⟩
theorem tw11351412729967056127:True:=⟨⟩
theorem tw1122760556734278536:True:=⟨⟩
theorem tw11131840515031540308:True:=⟨⟩
theorem tw11020437730254781743:True:=⟨⟩
theorem tw10783942120962778274:True:=⟨⟩
theorem tw10528212008389534006:True:=⟨⟩
theorem tw10454163233322790241:True:=⟨⟩
theorem tw10158700622827173591:True:=⟨⟩
theorem tw10129320953990216025:True:=⟨⟩
theorem tw9953958097470206329:True:=⟨⟩
theorem tw9916977738540231146:True:=⟨⟩
theorem tw9798722131049905756:True:=⟨⟩
theorem tw9767376185636561918:True:=⟨⟩
theorem tw9543612965541612812:True:=⟨⟩
theorem tw9528764584759514060:True:=⟨⟩
theorem tw9461085229112947763:True:=⟨⟩
theorem tw9434662544221595210:True:=⟨⟩
theorem tw9413610333507185220:True:=⟨⟩
theorem tw9221591126300150246:True:=⟨⟩
theorem tw8959746120109736471:True:=⟨⟩
theorem tw8894104527829057757:True:=⟨⟩
theorem tw8515871180406540265:True:=⟨⟩
theorem tw8473730566618647160:True:=⟨⟩
theorem tw8246837931031027701:True:=⟨⟩
theorem tw7605066284499511325:True:=⟨⟩
theorem tw7217324902367077953:True:=⟨⟩
theorem tw7156917026794934170:True:=⟨⟩
theorem tw7086100155665318375:True:=⟨⟩
theorem tw7050586182041353017:True:=⟨⟩
theorem tw704389528927687251:True:=⟨⟩
theorem tw7010285346639025324:True:=⟨⟩
theorem tw6987202516661146448:True:=⟨⟩
theorem tw6927934018036219692:True:=⟨⟩
theorem tw6881318274966520527:True:=⟨⟩
theorem tw6860021629466378255:True:=⟨⟩
theorem tw6828296609167223914:True:=⟨⟩
theorem tw6522885090813660388:True:=⟨⟩
theorem tw6009810692172610097:True:=⟨⟩
theorem tw5855003408115831049:True:=⟨⟩
theorem tw5837367722847651099:True:=⟨⟩
theorem tw5501779108016577684:True:=⟨⟩
theorem tw5385052229965851021:True:=⟨⟩
theorem tw519154836114216029:True:=⟨⟩
theorem tw4944055745905755954:True:=⟨⟩
theorem tw4895768717213032195:True:=⟨⟩
theorem tw4775135999946576994:True:=⟨⟩
theorem tw4328596359277214847:True:=⟨⟩
theorem tw4304343046108556947:True:=⟨⟩
theorem tw4251818766758317084:True:=⟨⟩
theorem tw4036524299375720332:True:=⟨⟩
theorem tw4014409322524956397:True:=⟨⟩
theorem tw3912367178796414513:True:=⟨⟩
theorem tw3641782120286883756:True:=⟨⟩
theorem tw3318910356625605414:True:=⟨⟩
theorem tw3233685121880801716:True:=⟨⟩
theorem tw3151219264349616106:True:=⟨⟩
theorem tw2973760361681594701:True:=⟨⟩
theorem tw2700746846098975477:True:=⟨⟩
theorem tw2536489232850700923:True:=⟨⟩
theorem tw2284224902186870276:True:=⟨⟩
theorem tw2276757130515081786:True:=⟨⟩
theorem tw2172400897756150697:True:=⟨⟩
theorem tw1919958524601515107:True:=⟨⟩
theorem tw18436238921764493034:True:=⟨⟩
theorem tw18315275902344166036:True:=⟨⟩
theorem tw18249826470852367111:True:=⟨⟩
theorem tw18229759566134036198:True:=⟨⟩
theorem tw18109700779380852651:True:=⟨⟩
theorem tw17952264282837067844:True:=⟨⟩
theorem tw17931367039500740338:True:=⟨⟩
theorem tw17883112465556949875:True:=⟨⟩
theorem tw17830868766325321788:True:=⟨⟩
theorem tw17810771521869748947:True:=⟨⟩
theorem tw17727249562268379348:True:=⟨⟩
theorem tw17714646974853746765:True:=⟨⟩
theorem tw17509526257323401553:True:=⟨⟩
theorem tw17428787783405358401:True:=⟨⟩
theorem tw17219547333131511844:True:=⟨⟩
theorem tw17014072256299849163:True:=⟨⟩
theorem tw15061903906166472205:True:=⟨⟩
end PySem.W.Fast
open PySem PySem.W PyProof.Rows
set_option maxRecDepth 100000 in
set_option maxHeartbeats 0 in
theorem PySem.Challenge.cw_hushduel_k17_whole_nobody_forgets_holds : PySem.Challenge.rw_hushduel_k17_whole_nobody_forgets.Holds := by
 w_on;o_law;k_head;(case hw=>w_witness2)
 k_fill
 refine K17.walk (l:=PySem.Challenge.rw_hushduel_k17_whole_nobody_forgets) rfl rfl (λw h Y=>PySem.W.kIn_of Y) ?F
 case F=>
  intro w mg fa h KX G hmg;refine' K17.all_mk KX G hmg ⟨?_,?_,?_,?_,?_,?_,?_,?_,?_,?_,?_,?_,?_,?_,?_,?_,?_,?_,?_,?_,?_,?_,?_,?_,?_,?_,?_,?_,?_,?_,?_,?_,?_,?_,?_,?_,?_,?_,?_,?_,?_,?_,?_,?_,?_,?_,?_,?_,?_,?_,?_,?_,?_,?_,?_,?_,?_,?_,?_,?_,?_,?_,?_,?_,?_,?_,?_,?_,?_,?_,?_,?_,?_⟩ ?_ ?_ ?_ ?_ ?_ ?_ ?_ ?_ ?eTooGreat ?_ ?_ ?_ ?_ ?_ ?_ ?_ ?_ ?_ ?_ ?_ ?_ ?_ ?_ ?_ ?_ ?_ ?_ ?_ ?_ ?_ ?_ ?_ ?_ ?uDuelErrorForgets ?uDuelErrorNoShares ?uDuelErrorTooGreat ?uDuelErrorUnlike ?wForgetsForgets ?wForgetsNoShares ?wForgetsTooGreat ?wForgetsUnlike ?vForgets ?wNoPlaceForgets ?wNoPlaceNoShares ?wNoPlaceTooGreat ?wNoPlaceUnlike ?vNoPlace ?wNoPlanForgets ?wNoPlanNoShares ?wNoPlanTooGreat ?wNoPlanUnlike ?vNoPlan ?wNoSharesForgets ?wNoSharesNoShares ?wNoSharesTooGreat ?wNoSharesUnlike ?vNoShares ?wNoTextForgets ?wNoTextNoShares ?wNoTextTooGreat ?wNoTextUnlike ?vNoText ?wTooGreatForgets ?wTooGreatNoShares ?wTooGreatTooGreat ?wTooGreatUnlike ?vTooGreat ?wUnlikeForgets ?wUnlikeNoShares ?wUnlikeTooGreat ?wUnlikeUnlike ?vUnlike ?wValueErrorForgets ?wValueErrorNoShares ?wValueErrorTooGreat ?wValueErrorUnlike ?_ ?_ ?_ ?_ ?_ ?xoForgets ?xeForgets ?xqForgets ?_ ?_ ?_ ?_ ?xoNoShares ?xeNoShares ?xqNoShares ?_ ?_ ?_ ?_ ?_ ?xoUnlike ?xeUnlike ?xqUnlike
  all_goals try first | (refine' F.qd ?a ?l ?c ?k;(case a=>k_is);(case l=>k_is);(case c=>k_is);(case k=>k_is)) | (refine' F.ck ?a ?b;(case a=>k_is);(case b=>k_is)) | (refine' F.ci ?a;(case a=>k_is)) | (unfold F.NO;k_is) | k_is
  (case eTooGreat=>k_exc)
  (case uDuelErrorForgets=>kts_exm)
  (case uDuelErrorNoShares=>kts_exm)
  (case uDuelErrorTooGreat=>kts_exm)
  (case uDuelErrorUnlike=>kts_exm)
  (case wForgetsForgets=>(first | kit_is | (unfold a0;rw [if_pos (by simp)])))
  (case wForgetsNoShares=>(first | kit_is | (unfold a0;rw [if_pos (by simp)])))
  (case wForgetsTooGreat=>(first | kit_is | (unfold a0;rw [if_pos (by simp)])))
  (case wForgetsUnlike=>(first | kit_is | (unfold a0;rw [if_pos (by simp)])))
  (case vForgets=>(first | kit_is | (unfold a0;rw [if_neg (by simp)];k_is) | k_is))
  (case wNoPlaceForgets=>(first | kit_is | (unfold a0;rw [if_pos (by simp)])))
  (case wNoPlaceNoShares=>(first | kit_is | (unfold a0;rw [if_pos (by simp)])))
  (case wNoPlaceTooGreat=>(first | kit_is | (unfold a0;rw [if_pos (by simp)])))
  (case wNoPlaceUnlike=>(first | kit_is | (unfold a0;rw [if_pos (by simp)])))
  (case vNoPlace=>(first | kit_is | (unfold a0;rw [if_neg (by simp)];k_is) | k_is))
  (case wNoPlanForgets=>(first | kit_is | (unfold a0;rw [if_pos (by simp)])))
  (case wNoPlanNoShares=>(first | kit_is | (unfold a0;rw [if_pos (by simp)])))
  (case wNoPlanTooGreat=>(first | kit_is | (unfold a0;rw [if_pos (by simp)])))
  (case wNoPlanUnlike=>(first | kit_is | (unfold a0;rw [if_pos (by simp)])))
  (case vNoPlan=>(first | kit_is | (unfold a0;rw [if_neg (by simp)];k_is) | k_is))
  (case wNoSharesForgets=>(first | kit_is | (unfold a0;rw [if_pos (by simp)])))
  (case wNoSharesNoShares=>(first | kit_is | (unfold a0;rw [if_pos (by simp)])))
  (case wNoSharesTooGreat=>(first | kit_is | (unfold a0;rw [if_pos (by simp)])))
  (case wNoSharesUnlike=>(first | kit_is | (unfold a0;rw [if_pos (by simp)])))
  (case vNoShares=>(first | kit_is | (unfold a0;rw [if_neg (by simp)];k_is) | k_is))
  (case wNoTextForgets=>(first | kit_is | (unfold a0;rw [if_pos (by simp)])))
  (case wNoTextNoShares=>(first | kit_is | (unfold a0;rw [if_pos (by simp)])))
  (case wNoTextTooGreat=>(first | kit_is | (unfold a0;rw [if_pos (by simp)])))
  (case wNoTextUnlike=>(first | kit_is | (unfold a0;rw [if_pos (by simp)])))
  (case vNoText=>(first | kit_is | (unfold a0;rw [if_neg (by simp)];k_is) | k_is))
  (case wTooGreatForgets=>(first | kit_is | (unfold a0;rw [if_pos (by simp)])))
  (case wTooGreatNoShares=>(first | kit_is | (unfold a0;rw [if_pos (by simp)])))
  (case wTooGreatTooGreat=>(first | kit_is | (unfold a0;rw [if_pos (by simp)])))
  (case wTooGreatUnlike=>(first | kit_is | (unfold a0;rw [if_pos (by simp)])))
  (case vTooGreat=>(first | kit_is | (unfold a0;rw [if_neg (by simp)];k_is) | k_is))
  (case wUnlikeForgets=>(first | kit_is | (unfold a0;rw [if_pos (by simp)])))
  (case wUnlikeNoShares=>(first | kit_is | (unfold a0;rw [if_pos (by simp)])))
  (case wUnlikeTooGreat=>(first | kit_is | (unfold a0;rw [if_pos (by simp)])))
  (case wUnlikeUnlike=>(first | kit_is | (unfold a0;rw [if_pos (by simp)])))
  (case vUnlike=>(first | kit_is | (unfold a0;rw [if_neg (by simp)];k_is) | k_is))
  (case wValueErrorForgets=>(first | kit_is | (unfold a0;rw [if_pos (by simp)])))
  (case wValueErrorNoShares=>(first | kit_is | (unfold a0;rw [if_pos (by simp)])))
  (case wValueErrorTooGreat=>(first | kit_is | (unfold a0;rw [if_pos (by simp)])))
  (case wValueErrorUnlike=>(first | kit_is | (unfold a0;rw [if_pos (by simp)])))
  (case xoForgets=>kernel_rfl)
  (case xeForgets=>kernel_rfl)
  (case xqForgets=>(refine' F.qx ?i ?l ?c ?k;(case i=>k_is);(case l=>k_is);(case c=>k_is);(case k=>k_is)))
  (case xoNoShares=>kernel_rfl)
  (case xeNoShares=>kernel_rfl)
  (case xqNoShares=>(refine' F.qx ?i ?l ?c ?k;(case i=>k_is);(case l=>k_is);(case c=>k_is);(case k=>k_is)))
  (case xoUnlike=>kernel_rfl)
  (case xeUnlike=>kernel_rfl)
  (case xqUnlike=>(refine' F.qx ?i ?l ?c ?k;(case i=>k_is);(case l=>k_is);(case c=>k_is);(case k=>k_is)))
