import PyProof.Rows.All
import Wide.All
import OpenK.AllK
import Wide.FinOn
import Lean
import PyProof.EqAt
import PyProof.EqKinds
import PyProof.TupleCall
import PyProof.TupleKey
import PyProof.Rows.Catch
import KE.KRevSl
import PyProof.P3Eq
import KE.LcSums
import PyProof.EnumMake
import PyProof.StrWalks
import PyProof.Conv_int_bool
import KE.KIntText
import PyProof.Rows.StrNews2
import PyProof.StrBlock2
import PyProof.Rows.StrNews
import PyProof.StrLawsRepr
import PyProof.ReprStr
import PyProof.ReprRoads
import PyProof.DictIter
import PyProof.Rows.SetFrom
import KE.KDictList
import KE.KDictOf
import PyProof.AttrMissHeap
import KE.KEqDict
import PyProof.DictItems
import KE.KPairComp
import PyProof.Rows.Range3
import KE.IntTextText
import PyProof.StrLawsFirst
import PyProof.ReprBulk
import PyProof.ZipIter
import PyProof.Rows.ZipGen
import PyProof.TupleIter
import PyProof.Draws
import PyProof.ListRange
import PyProof.Rows.MatchSeqLen
import PyProof.SumAnyB
import PyProof.ExcInit
import PyProof.InstStoreFacts
import PySem.Challenge.RW_hushduel_k14_too_great
set_option compiler.extract_closed false
set_option genSizeOf false
noncomputable section
open PySem renaming wpAny_bind->ae,starEach->ag,wpAny_pure->ah,Value->av,sizeLine->ay,Shared->aS,wpAny->bg,Program->bo,bootBuiltins->b0,model->b9,mainGlobals->cK,World->dc,Around->dy,wpAny_newObj_type->eC,wpAny_loadPart_at->eI,compareOp->eW,swapsWith->fR,wpAny_mono->fT,wpAny_Call_Name_kw->gy,foldedSetIterable->gN,binaryOp->gT,wpAny_holding->gX,wpAny_call_entry->g9,FuncData->hG,wpAny_field->hU,attributeBase->h8,backTo->ia,wpAny_typeNameOfWhole_valiter->ij,wpAny_callSpecial?_slot->iq,sysModules->iA,behindInMarks->iX,Paired->js,wpAny_specialOf->jv,wpAny_truthy_bool->jI,assignEach->jS,wpAny_passesOwn->j3,wpAny_typeNameOf_valiter->kl,mem_of_lookup->kA,wpAny_setField->kK,wpAny_execs_nil->kQ,wpAny_isOneOf_valiter->kX,wpAny_standAt->k9,wpAny_pyIter_list->la,codeAny_call_builtin->ly,wpAny_isInstance->l5,wpAny_typeOf->mf,wpAny_pyNext_list_item->mB,sliceBounds->mT,typeIs_int->nc,wpAny_dictEntries->ng,plainObj_wpAny_Assign_Attribute->nI,GenState->nL,wpAny_pyIter_listiter->nV,codeAny_mono->nX,PyData->oT,swapsWithSole->pd,swappedStores->pe,wpAny_rule->pj,cLine->pw,wpAny_of_eq->p0,wpAny_newFunctionEnv_cells->qr,wpAny_seqItems->rk,Scope->rL,wpAny_fieldsOf->r6,firstArgMember->r9,typeIs_str->si,wpAny_comprehension_free->sj,sizeLine_eq->sF,NameKind->sL,keywordEach->sN,Keyword->sP,Builtin->sT,wpAny_attempt->tq,wpAny_execs_cons->tF,noFill_tuple_add->ua,assign->vj,PassesOwn->vv,letOwnedTupleGo->vx,rawInt->vE,codeAny->vF,concat_meets->vS,ExcBaseFacts->wq,wpAny_dictEpoch->xo,wpAny_call->xA,typeLookup->xB,call_meets->xD,recursionLimit->yi,wpAny_loadPart->yk,dictSetDefault->yy,isSubtype_stop->yA,holding->yT,IsRangeIter->yY,getItem->y3,subscripted->y4,excClassObj->y7,assignInOrder->zw,pyNext->zC,cellsFrom->zS,seq_tuple_add->Au,isInstance->AK,BindsTo->AM,callerA->AN,valueAt->AO,IsPart->AW,atKey->A3,bindName->A5,backToKw->A6,call->BB,JoinOk->BC,bindL->BF,bindC->BG
open PySem.Heap renaming get?_push_of_some->af,lt_size->aw,get?_push_size->a7,get?_update_other->cw,get?_update_self->dP,get?_update_ne->iO,SameBut->iS,get?_push_ne->nB,MadeExcOf->rS,get?_none_of_le->xE,size_push->yn,ExtBut->Bz
open List renaming mem_cons_of_mem->ai,mem_cons_self->ar,map_cons->aT,size_toArray->a9,mem_cons->bq,replicate->br,mem_singleton->bP,getElem?_eq_getElem->bS,length_append->cc,range->cm,getElem?_map->cp,append_nil->cE,mem_append->cS,length_cons->c8,lookup_cons->c9,getElem?_set_self->dn,getElem?_set_ne->dr,mem_append_right->dA,length_map->dE,map_append->dQ,mem_map->dS,getElem?_eq_some_iff->d3,length_singleton->eK,getD_eq_getElem?_getD->eS,getElem?_append_left->fw,map_map->fF,append_assoc->gc,getElem?_append_right->gu,getElem?_replicate->g7,replicate_succ->hV,lookup->hZ,mem_filterMap->ib,mem_range->i8,range_eq_range'->ja,reverse_cons->kd,flatten_cons->kg,find?_cons->ki,any_cons->kB,take_of_length_le->kM,length_replicate->kS,foldl_cons->kT,all_cons->k7,mem_of_mem_take->lT,length_take->l6,range'_succ->l7,filterMap_cons->l8,zipIdx_map_fst->l9,mem_map_of_mem->ma,map_congr_left->md,nil_append->mh,flatMap_cons->nv,length_drop->oy,flatMap_nil->oB,mem_of_getElem?->oP,nodup_cons->pS,of_mem_zip->pT,reverse_append->p9,range'->qf,map_id->qh,any_map->rh,drop_eq_getElem_cons->rX,length->sM,all_toArray->ui,all_eq_true->uj,range_succ_eq_map->uk,mem_filter->vc,map_nil->vT,forIn_cons->wx,dropLast_eq_take->w8,length_filter_le->xy,foldl->xC,mem_append_left->xI,mem_of_mem_drop->yb,getElem?_range->y8,flatMap_append->ze,sum_cons->AF
open Bool renaming false_ne_true->aE,false_eq_true->gv,and_eq_true->gL,eq_iff_iff->kR,or_eq_true->mr,false_or->tf
open Nat renaming le_refl->aI,ne_of_lt->bp,lt_of_lt_of_le->cb,le_trans->cy,lt_irrefl->eT,zero_le->fS,lt_succ_of_lt->ko,lt_of_le_of_lt->kP,ne_of_gt->nN,succ_le_succ->oC,strongRecOn->qc,add_assoc->sA,le_succ->tj,lt_succ_self->ub,pow_le_pow_right->x8,le_of_dvd->AE,zero_add->AR,le_of_lt->AS,add_comm->AX,le_of_eq->AY,gcd_comm->A2,Coprime->BA
open PySem.W renaming kitOne->a8,Frag->bb,kitOne->bt,findIn->cx,kia_one->iF,hideAll_get->kr,mg_of->kH,looks_findIn->kL,keepIn->lh,any_some->nE,nsIn->oo,hasDictIn->pE,callWith_K->qV,exmOne->rf,clsIn->rV,subIn->sQ,looks_subIn->sR,looks_clsIn->tz,cellsFrom_some->tJ,fnOf->tP,of_hideAll->ve,hideAll->zv,codeIn->Ap,isNs_of_in->AZ,kitAny->A8,excIn->BD
open PySem.Value renaming ref->bE,none->eM,builtin->ip,bool->mS,int->zh,str->zi,type->AL
open Option.some renaming inj->bX
open PySem.Str renaming ofString->cf,ofString_eq_toList->mP,empty->Bn
open Rat renaming divInt->c4,num_divInt_den->mw,divInt_eq_divInt_iff->sx,divInt_add_divInt->xt,add_assoc->AG
open Or renaming inl->d4,inr->fA
open PySem.PyData renaming strOk->d5,eqv->fN,eqvAll->kG,canLay0->l4,str->nK,depth->om,canLayAll0->sv,depthAll->xp
open PyProof.Rows renaming callWith_type1->eD,slot_tuple_getitem->ka,assignInOrder_cons->qS,envOfC->rd,kindOf->sh,AllBare->sC,subscriptTail->AA
open PySem.F renaming slot_dict_valueiterator_next->eJ,slot_tuple_hash->kq,plainAttrs_list->kF,args_dict_valueiterator_next_1->lj,excAttr_ValueError->lI,entry_dict_valueiterator_next->lP,args_tuple_add_2->me,entry_tuple_add->mn,slot_tuple_iterator_next->mx,slot_tuple_add->mE,typeOf_object_class->og,slot_dict_values_iter->oz,slot_dict_setdefault->pf,excBase_ValueError->qB,slot_dict_values->so,plainAttrs_dict->tm,slot_int_index->uS,slot_list_pop->w9,type_list_pop->xa,fills_int_mul->xb,slot_int_rmul->xh,slot_int_mul->ya,slot_gs_get->AB
open Array renaming getElem?_eq_some_iff->eP,append_assoc->ml,length_toList->pz,getElem?_eq_getElem->r0,toList->vi,forIn_toList->zt,find?_toList->zI
open True renaming intro->fg
open False renaming elim->fq
open PySem.NameKind renaming free->gi,cell->kD
open PySem.Builtin.Tuple renaming tupleHashOf->gE,tupleExact->kc,tupleItemsOf->qk
open PySem.SeqAt renaming shaped->gS,EqAt->AJ
open Int renaming fdiv_eq_ediv_of_nonneg->hJ,natAbs_dvd_natAbs->i7,mul_comm->k6,mul_assoc->lp,toNat_natCast->nh,eq_of_mul_eq_mul_right->qE,emod_lt_of_pos->rj,gcd->sf,eq_ofNat_of_zero_le->tw,emod_nonneg->xw,natAbs_mul->yB
open PySem.Heap.SameBut renaming update->h7
open PySem.Builtin.List renaming listTooLong->ic,listExtendWith->kU,listSameRef->sk,listItems->uu
open Option renaming bind_eq_some_iff->ix,map_some->iN,map_eq_some_iff->mM,isSome_map->AQ
open PySem.PassesOwn renaming leaving->iE
open PySem.Builtin.Int renaming intBits->iL,intTooBig->v3
open Ne renaming symm->iP
open Classical renaming choose_spec->i6,em->w4,choose->A4
open PySem.Builtin.Slice renaming slicePlaces->i9,sliceAdjust->l0,sliceApplied->qA
open PySem.Builtin.Range renaming rangeSize->ku,small->zd
open PySem.Obj renaming mapFields->kC,data_mapFields->mo,mapSeq->pk,isFreed_of_fields->wm,data_mapDictKeys->x9
open PySem.Builtin.Dict_items renaming ownsTuple->kN
open PySem.Paired renaming length->k8
open PySem.Txt renaming slice->l3,join->AD,slice_le->A1,mul->BE
open PySem.Calls renaming spliced_cons->mm,callWith_builtin->mI,evalArgs_plain->oQ,Name_function_global->qq,spliced_nil->sg
open Char renaming toNat->nt
open PySem.StrLaws renaming sliceText->nz
open PySem.W.Looks renaming here->oq
open ForInStep renaming yield->pV
open PySem.Code renaming quiet_builtin->rg,isFrame->AV
open PySem.Builtin.Str renaming occurrences->sD,tooLong->y9
open PySem.Builtin.Dict renaming showsAll->xi
open PySem.Around renaming frames_deeper->x6,under->AU
open PySem.EntryCells renaming newEntry->y6
open PySem.SeqAt.EqAt renaming int_str->zk,str_int->zo,int_int->As,same->A9
open Sum renaming inl->AH,inr->AI
open Prod renaming fst->A7
open PySem.Data renaming fields->Bi
abbrev Zaa:=PySem.Addr->Prop
abbrev Zp:=PySem.Str->Option PySem.Value
abbrev Zl:=List<|PySem.Addr×PySem.Obj
abbrev Zs:=PySem.Value->PySem.Shared->Prop
theorem xq5 {A B C D E:Sort _}{R Q:A->B->C->D->E->Prop}{P:Prop}(h:∃a b c d e,R a b c d e/\Q a b c d e)(k:∀a b c d e,R a b c d e->Q a b c d e->P):P:=by
 obtain⟨a,b,c,d,e,r,q⟩:=h;exact k a b c d e r q
theorem xq7 {A B C D E F G:Sort _}{R Q S T:A->B->C->D->E->F->G->Prop}{P:Prop}(h:∃a b c d e f g,R a b c d e f g/\Q a b c d e f g/\S a b c d e f g/\T a b c d e f g)(k:∀a b c d e f g,R a b c d e f g->Q a b c d e f g->S a b c d e f g->T a b c d e f g->P):P:=by
 obtain⟨a,b,c,d,e,f,g,r,q,s,t⟩:=h;exact k a b c d e f g r q s t
theorem xq2 {A B:Sort _}{R Q S:A->B->Prop}{P:Prop}(h:∃a b,R a b/\Q a b/\S a b)(k:∀a b,R a b->Q a b->S a b->P):P:=by
 obtain⟨a,b,r,q,s⟩:=h;exact k a b r q s
theorem xl1 {A:Type _}{us:List A}(h:us.length=1):∃a,us=[a]:=by
 cases us with
 |nil=>cases h
 |cons a t=>cases t with
  |nil=>exact⟨a,rfl⟩
  |cons _ _=>cases h
theorem xl0 {A:Type _}{us:List A}{n:Nat}(h:us.length=n+1):∃a t,us=a::t/\t.length=n:=by
 cases us with
 |nil=>cases h
 |cons a t=>exact⟨a,t,rfl,Nat.succ.inj h⟩
theorem xl2 {A:Type _}{us:List A}(h:us.length=2):∃a b,us=[a,b]:=by
 obtain⟨a,t,rfl,h'⟩:=xl0 (n:=1) h;obtain⟨b,rfl⟩:=xl1 h';exact⟨a,b,rfl⟩
theorem xl3 {A:Type _}{us:List A}(h:us.length=3):∃a b c,us=[a,b,c]:=by
 obtain⟨a,t,rfl,h'⟩:=xl0 (n:=2) h;obtain⟨b,c,rfl⟩:=xl2 h';exact⟨a,b,c,rfl⟩
theorem xl4 {A:Type _}{us:List A}(h:us.length=4):∃a b c d,us=[a,b,c,d]:=by
 obtain⟨a,t,rfl,h'⟩:=xl0 (n:=3) h;obtain⟨b,c,d,rfl⟩:=xl3 h';exact⟨a,b,c,d,rfl⟩
set_option Elab.async false
set_option linter.all false
set_option maxRecDepth 100000
theorem DX {P0 P1 P2 P3 P4:Prop}{Z:Prop}(h:P0/\P1/\P2/\P3/\P4)(z:P0->P1->P2->P3->P4->Z):Z:=by
 obtain⟨h0,h1,h2,h3,h4⟩:=h;exact z h0 h1 h2 h3 h4
theorem ur {P0 P1 P2 P3 P4 P5:Prop}{Z:Prop}(h:P0/\P1/\P2/\P3/\P4/\P5)(z:P0->P1->P2->P3->P4->P5->Z):Z:=by
 obtain⟨h0,h1,h2,h3,h4,h5⟩:=h;exact z h0 h1 h2 h3 h4 h5
theorem adz {Ta Tb Tc Td Te Tf Tg Th Ti Tj:Sort _}{P0 P1:Ta->Tb->Tc->Td->Te->Tf->Tg->Th->Ti->Tj->Prop}{Z:Prop}(h:∃a b c d e f g h i j,P0 a b c d e f g h i j/\P1 a b c d e f g h i j)(z:∀a,∀b,∀c,∀d,∀e,∀f,∀g,∀h,∀i,∀j,P0 a b c d e f g h i j->P1 a b c d e f g h i j->Z):Z:=by
 obtain⟨a,b,c,d,e,f,g,h,i,j,h0,h1⟩:=h;exact z a b c d e f g h i j h0 h1
theorem ac9 {Ta Tb Tc Td Te Tf Tg Th Ti Tj Tk Tl:Sort _}{P0 P1:Ta->Tb->Tc->Td->Te->Tf->Tg->Th->Ti->Tj->Tk->Tl->Prop}{Z:Prop}(h:∃a b c d e f g h i j k l,P0 a b c d e f g h i j k l/\P1 a b c d e f g h i j k l)(z:∀a,∀b,∀c,∀d,∀e,∀f,∀g,∀h,∀i,∀j,∀k,∀l,P0 a b c d e f g h i j k l->P1 a b c d e f g h i j k l->Z):Z:=by
 obtain⟨a,b,c,d,e,f,g,h,i,j,k,l,h0,h1⟩:=h;exact z a b c d e f g h i j k l h0 h1
theorem Ay {Ta:Sort _}{P0 P1 P2 P3:Ta->Prop}{Z:Prop}(h:∃a,P0 a/\P1 a/\P2 a/\P3 a)(z:∀a,P0 a->P1 a->P2 a->P3 a->Z):Z:=by
 obtain⟨a,h0,h1,h2,h3⟩:=h;exact z a h0 h1 h2 h3
theorem Tw {Ta:Sort _}{P0 P1 P2 P3 P4:Ta->Prop}{Z:Prop}(h:∃a,P0 a/\P1 a/\P2 a/\P3 a/\P4 a)(z:∀a,P0 a->P1 a->P2 a->P3 a->P4 a->Z):Z:=by
 obtain⟨a,h0,h1,h2,h3,h4⟩:=h;exact z a h0 h1 h2 h3 h4
theorem Ca {Ta Tb:Sort _}{P0 P1 P2:Ta->Tb->Prop}{Z:Prop}(h:∃a b,P0 a b/\P1 a b/\P2 a b)(z:∀a,∀b,P0 a b->P1 a b->P2 a b->Z):Z:=by
 obtain⟨a,b,h0,h1,h2⟩:=h;exact z a b h0 h1 h2
theorem zr {Ta Tb:Sort _}{P0 P1 P2 P3:Ta->Tb->Prop}{Z:Prop}(h:∃a b,P0 a b/\P1 a b/\P2 a b/\P3 a b)(z:∀a,∀b,P0 a b->P1 a b->P2 a b->P3 a b->Z):Z:=by
 obtain⟨a,b,h0,h1,h2,h3⟩:=h;exact z a b h0 h1 h2 h3
theorem zF {Ta Tb:Sort _}{P0 P1 P2 P3 P4:Ta->Tb->Prop}{Z:Prop}(h:∃a b,P0 a b/\P1 a b/\P2 a b/\P3 a b/\P4 a b)(z:∀a,∀b,P0 a b->P1 a b->P2 a b->P3 a b->P4 a b->Z):Z:=by
 obtain⟨a,b,h0,h1,h2,h3,h4⟩:=h;exact z a b h0 h1 h2 h3 h4
theorem Np {Ta Tb:Sort _}{P0 P1 P2 P3 P4 P5:Ta->Tb->Prop}{Z:Prop}(h:∃a b,P0 a b/\P1 a b/\P2 a b/\P3 a b/\P4 a b/\P5 a b)(z:∀a,∀b,P0 a b->P1 a b->P2 a b->P3 a b->P4 a b->P5 a b->Z):Z:=by
 obtain⟨a,b,h0,h1,h2,h3,h4,h5⟩:=h;exact z a b h0 h1 h2 h3 h4 h5
theorem Nx {Ta Tb Tc:Sort _}{P0 P1:Ta->Tb->Tc->Prop}{Z:Prop}(h:∃a b c,P0 a b c/\P1 a b c)(z:∀a,∀b,∀c,P0 a b c->P1 a b c->Z):Z:=by
 obtain⟨a,b,c,h0,h1⟩:=h;exact z a b c h0 h1
theorem Nf {Ta Tb Tc:Sort _}{P0 P1 P2:Ta->Tb->Tc->Prop}{Z:Prop}(h:∃a b c,P0 a b c/\P1 a b c/\P2 a b c)(z:∀a,∀b,∀c,P0 a b c->P1 a b c->P2 a b c->Z):Z:=by
 obtain⟨a,b,c,h0,h1,h2⟩:=h;exact z a b c h0 h1 h2
theorem Ho {Ta Tb Tc:Sort _}{P0 P1 P2 P3:Ta->Tb->Tc->Prop}{Z:Prop}(h:∃a b c,P0 a b c/\P1 a b c/\P2 a b c/\P3 a b c)(z:∀a,∀b,∀c,P0 a b c->P1 a b c->P2 a b c->P3 a b c->Z):Z:=by
 obtain⟨a,b,c,h0,h1,h2,h3⟩:=h;exact z a b c h0 h1 h2 h3
theorem RN {Ta Tb Tc:Sort _}{P0 P1 P2 P3 P4:Ta->Tb->Tc->Prop}{Z:Prop}(h:∃a b c,P0 a b c/\P1 a b c/\P2 a b c/\P3 a b c/\P4 a b c)(z:∀a,∀b,∀c,P0 a b c->P1 a b c->P2 a b c->P3 a b c->P4 a b c->Z):Z:=by
 obtain⟨a,b,c,h0,h1,h2,h3,h4⟩:=h;exact z a b c h0 h1 h2 h3 h4
theorem Dr {Ta Tb Tc:Sort _}{P0 P1 P2 P3 P4 P5:Ta->Tb->Tc->Prop}{Z:Prop}(h:∃a b c,P0 a b c/\P1 a b c/\P2 a b c/\P3 a b c/\P4 a b c/\P5 a b c)(z:∀a,∀b,∀c,P0 a b c->P1 a b c->P2 a b c->P3 a b c->P4 a b c->P5 a b c->Z):Z:=by
 obtain⟨a,b,c,h0,h1,h2,h3,h4,h5⟩:=h;exact z a b c h0 h1 h2 h3 h4 h5
theorem adZ {Ta Tb Tc Td:Sort _}{P0:Ta->Tb->Tc->Td->Prop}{Z:Prop}(h:∃a b c d,P0 a b c d)(z:∀a,∀b,∀c,∀d,P0 a b c d->Z):Z:=by
 obtain⟨a,b,c,d,h0⟩:=h;exact z a b c d h0
theorem YM {Ta Tb Tc Td:Sort _}{P0 P1:Ta->Tb->Tc->Td->Prop}{Z:Prop}(h:∃a b c d,P0 a b c d/\P1 a b c d)(z:∀a,∀b,∀c,∀d,P0 a b c d->P1 a b c d->Z):Z:=by
 obtain⟨a,b,c,d,h0,h1⟩:=h;exact z a b c d h0 h1
theorem ab1 {Ta Tb Tc Td:Sort _}{P0 P1 P2:Ta->Tb->Tc->Td->Prop}{Z:Prop}(h:∃a b c d,P0 a b c d/\P1 a b c d/\P2 a b c d)(z:∀a,∀b,∀c,∀d,P0 a b c d->P1 a b c d->P2 a b c d->Z):Z:=by
 obtain⟨a,b,c,d,h0,h1,h2⟩:=h;exact z a b c d h0 h1 h2
theorem uw {Ta Tb Tc Td:Sort _}{P0 P1 P2 P3 P4:Ta->Tb->Tc->Td->Prop}{Z:Prop}(h:∃a b c d,P0 a b c d/\P1 a b c d/\P2 a b c d/\P3 a b c d/\P4 a b c d)(z:∀a,∀b,∀c,∀d,P0 a b c d->P1 a b c d->P2 a b c d->P3 a b c d->P4 a b c d->Z):Z:=by
 obtain⟨a,b,c,d,h0,h1,h2,h3,h4⟩:=h;exact z a b c d h0 h1 h2 h3 h4
theorem adW {Ta Tb Tc Td Te:Sort _}{P0:Ta->Tb->Tc->Td->Te->Prop}{Z:Prop}(h:∃a b c d e,P0 a b c d e)(z:∀a,∀b,∀c,∀d,∀e,P0 a b c d e->Z):Z:=by
 obtain⟨a,b,c,d,e,h0⟩:=h;exact z a b c d e h0
theorem Js {Ta Tb Tc Td Te:Sort _}{P0 P1:Ta->Tb->Tc->Td->Te->Prop}{Z:Prop}(h:∃a b c d e,P0 a b c d e/\P1 a b c d e)(z:∀a,∀b,∀c,∀d,∀e,P0 a b c d e->P1 a b c d e->Z):Z:=by
 obtain⟨a,b,c,d,e,h0,h1⟩:=h;exact z a b c d e h0 h1
theorem adX {Ta Tb Tc Td Te:Sort _}{P0 P1 P2 P3 P4 P5 P6:Ta->Tb->Tc->Td->Te->Prop}{Z:Prop}(h:∃a b c d e,P0 a b c d e/\P1 a b c d e/\P2 a b c d e/\P3 a b c d e/\P4 a b c d e/\P5 a b c d e/\P6 a b c d e)(z:∀a,∀b,∀c,∀d,∀e,P0 a b c d e->P1 a b c d e->P2 a b c d e->P3 a b c d e->P4 a b c d e->P5 a b c d e->P6 a b c d e->Z):Z:=by
 obtain⟨a,b,c,d,e,h0,h1,h2,h3,h4,h5,h6⟩:=h;exact z a b c d e h0 h1 h2 h3 h4 h5 h6
theorem adY {Ta Tb Tc Td Te Tf:Sort _}{P0:Ta->Tb->Tc->Td->Te->Tf->Prop}{Z:Prop}(h:∃a b c d e f,P0 a b c d e f)(z:∀a,∀b,∀c,∀d,∀e,∀f,P0 a b c d e f->Z):Z:=by
 obtain⟨a,b,c,d,e,f,h0⟩:=h;exact z a b c d e f h0
namespace L2
open PySem PySem.Spec PyProof.Rows
abbrev Key:=Sum Int Str
noncomputable def zx:Key->av->Bool
 | .inl k,v=>Value.isInt k v
 | .inr x,v=>Value.isStrOf x v
noncomputable def acN (w:dc):Key->Int
 | .inl k=>hashInt k
 | .inr x=>hashStr w x
theorem bZ:∀{k:Key} {v:av},zx k v=true->(∃i t,k=AH i/\v=zh i t)\/(∃x t,k=AI x/\v=zi x t)
 | .inl i,v,h=>by
  obtain⟨t,e⟩:=Value.isInt_shape (k:=i) (v:=v) h;exact .inl ⟨i,t,rfl,e⟩
 | .inr x,v,h=>by
  obtain⟨t,e⟩:=Value.isStrOf_shape (x:=x) (v:=v) h;exact .inr ⟨x,t,rfl,e⟩
theorem QK (i:Int)(t:Tok):zx (.inl i) (.int i t)=true:=by simp[zx,Value.isInt]
theorem QH (x:Str)(t:Tok):zx (.inr x) (.str x t)=true:=by simp[zx,Value.isStrOf]
theorem Zr (a b:Int):decide ((AH a:Key)=AH b)=(a==b):=by
 by_cases e:a=b
 ·subst e;simp
 ·have h:¬(AH a:Key)=AH b:=λq=>e<|Sum.inl.inj q;rw[decide_eq_false h];exact(beq_eq_false_iff_ne.mpr e).symm
theorem aa0 (a b:Str):decide ((AI a:Key)=AI b)=decide (a=b):=by
 by_cases e:a=b
 ·subst e;simp
 ·have h:¬(AI a:Key)=AI b:=λq=>e<|Sum.inr.inj q;rw[decide_eq_false h,decide_eq_false e]
theorem aay (a:Int)(b:Str):decide ((AH a:Key)=AI b)=false:=decide_eq_false λq=>nomatch q
theorem aab (a:Str)(b:Int):decide ((AI a:Key)=AH b)=false:=decide_eq_false λq=>nomatch q
def mR (prog:bo)(w:dc):PySem.KeyKind prog w Key where
 is:=zx
 hash:=acN w
 inj:=λv a b ha hb=>by
  rcases bZ ha with⟨i,t,rfl,rfl⟩|⟨x,t,rfl,rfl⟩
  ·rcases bZ hb with⟨j,u,rfl,e⟩|⟨y,u,rfl,e⟩
   ·injection e with e1 _;rw[e1]
   ·exact nomatch e
  ·rcases bZ hb with⟨j,u,rfl,e⟩|⟨y,u,rfl,e⟩
   ·exact nomatch e
   ·injection e with e1 _;rw[e1]
 byValue:=λk v h=>by
  rcases bZ h with⟨i,t,rfl,rfl⟩|⟨x,t,rfl,rfl⟩<;>rfl
 pyHash:=λhv h=>by
  rcases bZ hv with⟨i,t,rfl,rfl⟩|⟨x,t,rfl,rfl⟩
  ·exact wpAny_pyHash_int h
  ·exact wpAny_pyHash_str h
 eqBool:=λhu hv h=>by
  rcases bZ hu with⟨i,t,rfl,rfl⟩|⟨x,t,rfl,rfl⟩
  ·rcases bZ hv with⟨j,u,rfl,rfl⟩|⟨y,u,rfl,rfl⟩
   ·rw[Zr] at h;exact wpAny_eqBool_int h
   ·rw[aay] at h;exact zk i t y u _ _ _ _ h
  ·rcases bZ hv with⟨j,u,rfl,rfl⟩|⟨y,u,rfl,rfl⟩
   ·rw[aab] at h;exact zo x t j u _ _ _ _ h
   ·rw[aa0] at h;exact wpAny_eqBool_str h
 «strs»:=λk x t v h=>by
  rcases bZ h with⟨i,u,rfl,e⟩|⟨y,u,rfl,e⟩
  ·exact nomatch e
  ·injection e with e1 _
   subst e1;cases v<;>rfl
theorem Jb (prog:bo)(w:dc)(i:Int)(t:Tok):(mR prog w).is (.inl i) (.int i t)=true:=QK i t
theorem Hv (prog:bo)(w:dc)(x:Str)(t:Tok):(mR prog w).is (.inr x) (.str x t)=true:=QH x t
inductive Kt where
 |k (x:Key)|t (xs:List Kt)
mutual
def Kt.dec:(a b:Kt)->Decidable (a=b)
 | .k x,.k y=>if h:x=y then .isTrue (by rw[h]) else .isFalse λe=>h<|by injection e
 | .t xs,.t ys=>match Kt.decs xs ys with
  | .isTrue h=>.isTrue<|by rw[h]
  | .isFalse h=>.isFalse λe=>h<|by injection e
 | .k _,.t _=>.isFalse λe=>nomatch e
 | .t _,.k _=>.isFalse λe=>nomatch e
def Kt.decs:(a b:List Kt)->Decidable (a=b)
 |[],[]=>.isTrue rfl
 |[],_::_=>.isFalse λe=>nomatch e
 |_::_,[]=>.isFalse λe=>nomatch e
 |x::xs,y::ys=>match Kt.dec x y,Kt.decs xs ys with
  | .isTrue h,.isTrue g=>.isTrue<|by rw[h,g]
  | .isFalse h,_=>.isFalse λe=>h<|by injection e
  |_,.isFalse g=>.isFalse λe=>g<|by injection e
end
instance:DecidableEq Kt:=Kt.dec
mutual
def wG (w:dc):Kt->Int
 | .k x=>acN w x
 | .t xs=>reduceHash<|gE<|nY w xs
def nY (w:dc):List Kt->List Int
 |[]=>[]
 |x::xs=>wG w x::nY w xs
end
mutual
def vC:Kt->Nat
 | .k _=>1
 | .t xs=>fZ xs+1
def fZ:List Kt->Nat
 |[]=>0
 |x::xs=>vC x+fZ xs
end
def mZ (h:Heap):Nat->Kt->av->Prop
 |_,.k x,v=>zx x v=true
 |0,.t _,_=>False
 |n+1,.t xs,v=>∃a o items m,v=.ref a/\h.get? a=some o/\o.cls=.type "tuple"/\o.data=.seq items m/\js (mZ h n) xs items.toList
theorem lM:mZ h (n+1) (.t xs) v↔∃a o items m,v=.ref a/\h.get? a=some o/\o.cls=.type "tuple"/\o.data=.seq items m/\js (mZ h n) xs items.toList:=by rw[mZ]
theorem qw:mZ h n (.k x) v↔zx x v=true:=by cases n<;>rw[mZ]
theorem Ak {α β:Type}{F G:α->β->Prop}(f:∀a b,F a b->G a b):∀{l:List α} {m:List β},js F l m->js G l m
 |_,_,.nil=>.nil
 |_,_,.cons r t=>.cons (f _ _ r)<|Ak f t
theorem Ce {α β:Type}{F:α->β->Prop}(f:∀x y b,F x b->F y b->x=y):∀{l l':List α} {m:List β},js F l m->js F l' m->l=l'
 |_,_,_,.nil,.nil=>rfl
 |_,_,_,.cons r t,.cons r' t'=>by rw[f _ _ _ r r',Ce f t t']
theorem Ba {h:Heap}:∀(n:Nat) (x y:Kt) (v:av),mZ h n x v->mZ h n y v->x=y
 |n,.k x,.k y,v,hx,hy=>by
  rw[qw] at hx hy;rcases bZ hx with⟨i,t,rfl,rfl⟩|⟨z,t,rfl,rfl⟩
  ·rcases bZ hy with⟨j,u,rfl,e⟩|⟨y,u,rfl,e⟩
   ·injection e with e1 _;rw[e1]
   ·exact nomatch e
  ·rcases bZ hy with⟨j,u,rfl,e⟩|⟨y,u,rfl,e⟩
   ·exact nomatch e
   ·injection e with e1 _;rw[e1]
 |0,.t _,_,_,hx,_=>by rw[mZ] at hx;exact hx.elim
 |0,.k _,.t _,_,_,hy=>by rw[mZ] at hy;exact hy.elim
 |n+1,.k x,.t ys,v,hx,hy=>by
  rw[qw] at hx;refine YM (lM.mp hy) λa _ _ _ e _=>?_;subst e;rcases bZ hx with⟨_,_,_,e⟩|⟨_,_,_,e⟩<;>exact nomatch e
 |n+1,.t xs,.k y,v,hx,hy=>by
  rw[qw] at hy;refine YM (lM.mp hx) λa _ _ _ e _=>?_;subst e;rcases bZ hy with⟨_,_,_,e⟩|⟨_,_,_,e⟩<;>exact nomatch e
 |n+1,.t xs,.t ys,v,hx,hy=>by
  refine uw (lM.mp hx) λa o it m e g _ d p=>?_;refine uw (lM.mp hy) λa' o' it' m' e' g' _ d' p'=>?_;subst e;injection e' with e'
  subst e';cases g.symm.trans g';rw[d] at d';injection d' with d' _
  subst d';rw[Ce (Ba n) p p']
theorem BZ {h h':Heap}{d:Addr}{o:Obj}{es ep}(ho:h.get? d=some o)(hd:o.data=.dict es ep)(hs:iS d h h'):∀(n:Nat) (x:Kt) (v:av),mZ h n x v->mZ h' n x v
 |n,.k x,v,hx=>by rw[qw] at hx ⊢;exact hx
 |0,.t _,_,hx=>by rw[mZ] at hx;exact hx.elim
 |n+1,.t xs,v,hx=>by
  refine uw (lM.mp hx) λa o' it m e g c dd p=>?_;have ne:a≠d:=by
   rintro rfl;cases g.symm.trans ho;rw[hd] at dd;cases dd
  exact lM.mpr ⟨a,o',it,m,e,(hs.2 a ne).trans g,c,dd,Ak (BZ ho hd hs n) p⟩
section
theorem zp (w:dc):∀xs:List Kt,nY w xs=xs.map (wG w)
 |[]=>by rw[nY];rfl
 |x::xs=>by rw[nY,zp w xs];rfl
theorem xJ:∀xs ys:List Kt,fZ (xs++ys)=fZ xs+fZ ys
 |[],ys=>by rw[mh,fZ,AR]
 |x::xs,ys=>by rw[List.cons_append,fZ,fZ,xJ xs ys,sA]
theorem Ft (x:Kt):fZ [x]=vC x:=by rw[fZ,fZ,Nat.add_zero]
theorem Dv:∀(n:Nat) {A:dy} {s:aS} {x:Kt} {v:av} {Q:Int->aS->Prop},A.units+n<pw->mZ s.heap n x v->Q (wG wo x) { s with toks:=s.toks+vC x }->bg (b9 pr wo) A (pyHash v) Q E s
 |n,A,s,.k x,v,Q,hu,hx,q=>by
  rw[qw] at hx;rw[wG,vC] at q;exact(mR pr wo).pyHash hx q
 |0,_,_,.t _,_,_,_,hx,_=>by rw[mZ] at hx;exact hx.elim
 |n+1,A,s,.t xs,v,Q,hu,hx,h=>by
  refine uw (lM.mp hx) λa o items m e ho hc hd hi=>?_;subst e;have hT:s.TypeIs (.ref a) "tuple":=⟨o,ho,hc⟩;rw[wG,vC] at h;unfold pyHash
  first|unfold pyHashByItsType|skip
  first|refine ae (wpAny_cRoomFor_or (.inr<|by lia) ?_)|skip
  refine ae<|jv hT kq.lookup ?_;show bg _ _ (if(some (ip "tuple.__hash__")==some eM)=true then _ else _) Q E s;rw[if_neg (by rw[beq_builtin_none];exact aE)];refine ae<|jv hT kq.lookup ?_;show bg _ _ (callSpecialIfBoundUnlessNone? (.ref a) "__hash__" _ >>= _) Q E s;refine ae<|wpAny_callSpecialIfBoundUnlessNone?_slot hT kq<|g9 kq hT PySem.F.entry_tuple_hash ?_<|PySem.F.args_tuple_hash_1 _;show bg _ _ (qk (.ref a) >>= _) _ _ s;refine ae<|wpAny_tupleItemsOf ho hd ?_;refine ae ?_;rw[← zt];refine wpAny_forIn_list _
   (λrest (b:Array Int) s'=>∃done left,xs=done++left/\js (mZ s.heap n) left rest/\b.toList=done.map (wG wo)/\s'={ s with toks:=s.toks+fZ done })
   _ ?_ ?_ _ _ ⟨[],xs,rfl,hi,rfl,by rw[fZ];rfl⟩
  ·rintro x rest b s' ⟨done,left,rfl,hl,hb,rfl⟩;cases hl with
   | @cons k _ ks' _ h1 hl'=>
    refine ae<|Dv n (A:=A.in1) (show A.units+1+n<pw by lia) (s:={ s with toks:=s.toks+fZ done }) h1 ?_;refine ah ⟨done++[k],ks',by simp,hl',by simp[hb],?_⟩;rw[xJ,Ft,sA]
  ·rintro b s' ⟨done,left,rfl,hl,hb,rfl⟩;cases hl;rw[cE] at h;show bg _ _ (retInt<|gE b.toList) _ _ _;rw[hb,← zp];refine wpAny_ret_mkInt ?_;show bg _ _ (if(decide (-(2:Int)^63<=gE (nY wo done))&&decide (gE (nY wo done)<2^63))=true then _ else _) Q E _;unfold reduceHash at h;by_cases hr:(decide (-(2:Int)^63<=gE (nY wo done))&&decide (gE (nY wo done)<2^63))=true
   ·rw[if_pos hr];rw[if_pos hr] at h;exact ah<|by simpa[sA] using h
   ·rw[if_neg hr];rw[if_neg hr] at h;exact ae<|pj<|ah<|by simpa[sA] using h
noncomputable def uV (xs ys:List Kt)(j:Nat):Bool:=match xs[j]?,ys[j]? with
 |some x,some y=>decide<|x=y
 |_,_=>true
theorem Cy:∀xs ys:List Kt,((cm<|min xs.length ys.length).all (uV xs ys)&&xs.length==ys.length)=decide (xs=ys)
 |[],[]=>by simp
 |[],_::_=>by simp
 |_::_,[]=>by simp
 |x::xs,y::ys=>by
  have ih:=Cy xs ys;rw[c8,c8,Nat.succ_min_succ,uk,k7,List.all_map];have e:(uV (x::xs) (y::ys)∘Nat.succ)=uV xs ys:=by funext j;simp[uV]
  rw[e];have e0:uV (x::xs) (y::ys) 0=decide (x=y):=by simp[uV]
  rw[e0,Bool.and_assoc];have e1:((xs.length+1==ys.length+1):Bool)=(xs.length==ys.length):=by simp
  rw[e1,ih];by_cases a:x=y<;>by_cases b:xs=ys<;>simp[a,b]
theorem yI:∀{l:List α} {m:List β} (j:Nat) (h:j<m.length),js F l m->∃a,l[j]? = some a/\F a m[j]
 |_,_,j,h,.nil=>absurd h<|Nat.not_lt_zero _
 |_,_,0,_,.cons r _=>⟨_,rfl,r⟩
 |_,_,j+1,h,.cons _ t=>by
  obtain⟨a,h1,h2⟩:=yI j (by simpa using h) t;exact⟨a,by simpa using h1,by simpa using h2⟩
theorem LK:∀(n:Nat) (A:dy) (s:aS) (x y:Kt) (v u:av),A.units+n<pw->mZ s.heap n x v->mZ s.heap n y u->AJ A s v u (decide<|x=y)
 |n,A,s,.k x,.k y,v,u,hu,hx,hy=>by
  rw[qw] at hx hy;intro pr wo E Q q;refine(mR pr wo).eqBool (a:=x) (b:=y) hx hy ?_;have e:decide (Kt.k x=Kt.k y)=decide (x=y):=decide_eq_decide.mpr ⟨λe=>by injection e,λe=>by rw[e]⟩;rw[← e];exact q
 |0,_,_,.t _,_,_,_,_,hx,_=>by rw[mZ] at hx;exact hx.elim
 |0,_,_,.k _,.t _,_,_,_,_,hy=>by rw[mZ] at hy;exact hy.elim
 |n+1,A,s,.k x,.t ys,v,u,hu,hx,hy=>by
  rw[qw] at hx;refine uw (lM.mp hy) λa o it m e g c d _=>?_;subst e;have hl:s.heap.IsTuple a it:=⟨o,g,c,m,d⟩;rw[show decide (Kt.k x=Kt.t ys)=false from decide_eq_false λe=>nomatch e];rcases bZ hx with⟨i,t,rfl,rfl⟩|⟨z,t,rfl,rfl⟩
  ·exact SeqAt.EqAt.int_tuple i t hl<|by lia
  ·exact SeqAt.EqAt.str_tuple z t hl<|by lia
 |n+1,A,s,.t xs,.k y,v,u,hu,hx,hy=>by
  rw[qw] at hy;refine uw (lM.mp hx) λa o it m e g c d _=>?_;subst e;have hl:s.heap.IsTuple a it:=⟨o,g,c,m,d⟩;rw[show decide (Kt.t xs=Kt.k y)=false from decide_eq_false λe=>nomatch e];rcases bZ hy with⟨i,t,rfl,rfl⟩|⟨z,t,rfl,rfl⟩
  ·exact SeqAt.EqAt.tuple_int i t hl<|by lia
  ·exact SeqAt.EqAt.tuple_str z t hl<|by lia
 |n+1,A,s,.t xs,.t ys,v,u,hu,hx,hy=>by
  have hx':=hx;have hy':=hy;refine uw (lM.mp hx) λa o it m e g c d p=>?_;refine uw (lM.mp hy) λa' o' it' m' e' g' c' d' p'=>?_;subst e e';by_cases ne:a=a'
  ·subst ne;rw[Ba _ _ _ _ hx' hy',decide_eq_true rfl];exact A9 _
  ·have hl:s.heap.IsTuple a it:=⟨o,g,c,m,d⟩;have hl':s.heap.IsTuple a' it':=⟨o',g',c',m',d'⟩;have n1:it.size=xs.length:=by have:=k8 p;simpa using this.symm
   have n2:it'.size=ys.length:=by have:=k8 p';simpa using this.symm
   have e2:decide (Kt.t xs=Kt.t ys)=decide (xs=ys):=decide_eq_decide.mpr ⟨λe=>by injection e,λe=>by rw[e]⟩;rw[e2,← Cy xs ys,← n1,← n2];refine SeqAt.EqAt.of_refs ne<|SeqAt.RcAt.tuples hl hl' (by lia) λj j1 j2=>?_;obtain⟨b,q1,q2⟩:=yI j (by simpa using j1) p;obtain⟨b',r1,r2⟩:=yI j (by simpa using j2) p'
   have:uV xs ys j=decide (b=b'):=by unfold uV;rw[q1,r1]
   rw[this];exact LK n A.in1 s b b' _ _ (show A.units+1+n<pw by lia) (by simpa using q2) (by simpa using r2)
theorem Lr:∀(n:Nat) {A:dy} {s:aS} {x:Kt} {v:av} {Q:Bool->aS->Prop},mZ s.heap n x v->Q true s->bg (b9 pr wo) A (eqIsQuiet n v) Q E s
 |n,A,s,.k x,v,Q,hx,q=>by
  rw[qw] at hx;rw[eqIsQuiet_byValue _<|(mR pr wo).byValue _ _ hx];exact ah q
 |0,_,_,.t _,_,_,hx,_=>by rw[mZ] at hx;exact hx.elim
 |n+1,A,s,.t xs,v,Q,hx,h=>by
  refine uw (lM.mp hx) λa o items m e ho hc hd hi=>?_;subst e;have hT:s.TypeIs (.ref a) "tuple":=⟨o,ho,hc⟩;unfold eqIsQuiet;refine ae<|jv hT PySem.F.slot_tuple_eq.lookup ?_;show bg _ _ (AK (.ref a) (.type "tuple") >>= _) _ _ s;refine ae<|l5 hT isSubtype_tuple_tuple ?_;simp only[Bool.not_true,gv,if_false];refine ae<|rk ho hd<|ae ?_;show bg _ _ (forIn items _ _) _ _ s;rw[← zt];refine wpAny_forIn_list _ (λrest r s'=>r.1=none/\s'=s/\∃ks,js (mZ s.heap n) ks rest) _ ?_ ?_ _ _ ⟨rfl,rfl,xs,hi⟩
  ·rintro v rest r s' ⟨hr,rfl,ks,al⟩;cases al with
   |cons h1 al'=>
    refine ae<|Lr n h1 ?_;simp only[Bool.not_true,gv,if_false];exact ah ⟨rfl,rfl,_,al'⟩
  ·rintro⟨r1,r2⟩ s' ⟨hr,rfl,_⟩;simp only at hr;subst hr;exact ah h
end
def lg (pr:bo)(wo:dc):HeapKind pr wo (List Kt) where
 is:=λh ks a=>mZ h 8 (.t ks)<|.ref a
 hash:=λks=>wG wo<|.t ks
 draws:=λks=>vC<|.t ks
 room:=λA=>A.units+8<pw
 inj:=λa b=>by have:=Ba _ _ _ _ a b;injection this
 keeps:=λx a b c=>BZ a b c _ _ _ x
 pyHash:=λa b c=>Dv 8 a b c
 eqBool:=λ{A E s x y a b Q} h1 h2 h3 h4=>by
  refine LK 8 A s _ _ _ _ h1 h2 h3 _ _ _ _ ?_;rw[show decide (Kt.t x=Kt.t y)=decide (x=y) from decide_eq_decide.mpr ⟨λe=>by injection e,λe=>by rw[e]⟩];exact h4
 quiet:=λa b=>Lr 8 a b
inductive V where
 |non|bl (b:Bool)|int (i:Int)|str (x:Str)|byt (b:Array UInt8)|flt (b:UInt64)|ref (a:Addr)|ty (n:String)
 deriving DecidableEq
def RelV:V->av->Prop
 | .non,u=>u=eM
 | .bl b,u=>u=mS b
 | .int i,u=>∃t,u=zh i t
 | .str x,u=>∃t,u=zi x t
 | .byt b,u=>∃t,u=Value.bytes b t
 | .flt b,u=>∃t,u=Value.float b t
 | .ref a,u=>u=bE a
 | .ty n,u=>u=AL n
abbrev Vals:List V->List av->Prop:=js RelV
theorem Vals.length (r:Vals xs us):xs.length=us.length:=k8 r
theorem Vals.get:∀{xs:List V} {us:List av} {i:Nat} {x:V},Vals xs us->xs[i]? = some x->∃u,us[i]? = some u/\RelV x u
 |_,_,_,_,.nil,e=>by simp at e
 |_,_,0,_,.cons r _,e=>by simp at e;subst e;exact⟨_,rfl,r⟩
 |_,_,i+1,x,.cons _ t,e=>by
  obtain⟨u,h1,h2⟩:=Vals.get (i:=i) (x:=x) t (by simpa using e);exact⟨u,by simpa using h1,h2⟩
theorem Vals.set (r:RelV x u):∀{xs:List V} {us:List av} (i:Nat),Vals xs us->Vals (xs.set i x) (us.set i u)
 |_,_,_,.nil=>.nil
 |_,_,0,.cons _ t=>.cons r t
 |_,_,i+1,.cons q t=>.cons q<|Vals.set r i t
theorem Vals.append:∀{xs ys:List V} {us ws:List av},Vals xs us->Vals ys ws->Vals (xs++ys) (us++ws)
 |_,_,_,_,.nil,s=>s
 |_,_,_,_,.cons r t,s=>.cons r<|Vals.append t s
theorem Vals.take:∀{xs:List V} {us:List av} (n:Nat),Vals xs us->Vals (xs.take n) (us.take n)
 |_,_,0,_=>.nil
 |_,_,_+1,.nil=>.nil
 |_,_,n+1,.cons r t=>.cons r<|Vals.take n t
theorem Vals.drop:∀{xs:List V} {us:List av} (n:Nat),Vals xs us->Vals (xs.drop n) (us.drop n)
 |_,_,0,r=>r
 |_,_,_+1,.nil=>.nil
 |_,_,n+1,.cons _ t=>Vals.drop n t
def vP:Option V->Option av->Prop
 |some v,some u=>RelV v u
 |none,none=>True
 |_,_=>False
def KV {κ:Type}:List (κ×V)->List (κ×av)->Prop:=js λ(p:κ×V) (q:κ×av)=>p.1=q.1/\RelV p.2 q.2
noncomputable def kV:Key->V
 | .inl i=>.int i
 | .inr x=>.str x
inductive HO where
  |lst (xs:List V)
  |tup (xs:List V)
  |dK (ι:List (Key×V))|dT (T:Addr->List V->Prop) (ι:List (List Kt×V))
  |set (S:Int->Bool) (n:Nat)
  |ins (C dx:Addr) (fs:List (Str×V))
  |own (x:Addr)
  |xd (fs:List (Str×V))
  |met (f x:Addr)
  |rng (lo hi:Int)
  |frz (o:Obj) (u:HO)
  |tbl (ps:Array av)
  |ext (φ:Heap->Prop)
abbrev Hp:=Addr->Option HO
noncomputable def upd (H:Hp)(a:Addr)(o:HO):Hp:=λb=>if b=a then some o else H b
theorem bu:upd H a o a=some o:=by unfold upd;rw[if_pos rfl]
theorem bD (h:b≠a):upd H a o b=H b:=by unfold upd;rw[if_neg h]
theorem Ng:upd (upd H a o) a u=upd H a u:=by
 funext b;unfold upd;split<;>rfl
theorem Ua {H:Hp}{a b:Addr}{o u:HO}(h:H a=some o)(h':H b=some u)(d:o≠u):a≠b:=by
 intro e;subst e;rw[h] at h';exact d<|bX h'
theorem lU {H:Hp}{a b:Addr}{o:HO}(h:H a=some o)(h':H b=none):a≠b:=by
 intro e;subst e;rw[h] at h';cases h'
mutual
inductive zM (T:Addr->List V->Prop)(H:Hp):Nat->V->Kt->Prop where
 |k {n:Nat} {x:Key}:zM T H n (kV x) (.k x)
 |t {n:Nat} {b:Addr} {vs:List V} {ks:List Kt}:(H b=some (.tup vs)\/T b vs)->um T H n vs ks->zM T H (n+1) (.ref b) (.t ks)
inductive um (T:Addr->List V->Prop)(H:Hp):Nat->List V->List Kt->Prop where
 |nil {n:Nat}:um T H n [] []
 |cons {n:Nat} {v:V} {vs:List V} {k:Kt} {ks:List Kt}:zM T H n v k->um T H n vs ks->um T H n (v::vs) (k::ks)
end
def TrT (T:Addr->List V->Prop)(H:Hp)(b:Addr)(ks:List Kt):Prop:=∃vs,(H b=some (.tup vs)\/T b vs)/\um T H 7 vs ks
section
mutual
theorem zM.imp (ht:∀b xs,H b=some (.tup xs)->H' b=some (.tup xs)):∀{n:Nat} {v:V} {k:Kt},zM T H n v k->zM T H' n v k
 |_,_,_,.k=>.k
 |_,_,_,.t h hs=>.t (h.imp (ht _ _) id)<|um.imp ht hs
theorem um.imp (ht:∀b xs,H b=some (.tup xs)->H' b=some (.tup xs)):∀{n:Nat} {vs:List V} {ks:List Kt},um T H n vs ks->um T H' n vs ks
 |_,_,_,.nil=>.nil
 |_,_,_,.cons h hs=>.cons (zM.imp ht h)<|um.imp ht hs
end
theorem TrT.imp (h:TrT T H b ks)(ht:∀b xs,H b=some (.tup xs)->H' b=some (.tup xs)):TrT T H' b ks:=
 let⟨vs,h1,h2⟩:=h;⟨vs,h1.imp (ht _ _) id,h2.imp ht⟩
end
section
variable (P:bo)(w:dc)
def Iz (h:Heap)(a:Addr)(χ:Array av):Prop:=∃o,h.get? a=some o/\o.cls=.type "tuple"/\∃n,o.data=.seq χ n/\o.dict=none
theorem Iz.tup {h:Heap}{a:Addr}{χ:Array av}(x:Iz h a χ):IsTup h a χ:=let⟨o,e,c,n,d,_⟩:=x;⟨o,e,c,n,d⟩
theorem Iz.new (h:Heap)(χ:Array av):Iz (h.push { cls:=.type "tuple",data:=.seq χ }) h.objs.size χ:=⟨_,a7 _ rfl,rfl,_,rfl,rfl⟩
def cG (H:Hp)(h:Heap)(a:Addr):HO->Prop
 | .lst xs=>xs.length<=ay/\∃(χ:List av) (n:Nat),Vals xs χ/\h.get? a=some { cls:=.type "list",data:=.seq χ.toArray n }
 | .tup xs=>xs.length<=ay/\∃χ:List av,Vals xs χ/\Iz h a χ.toArray
 | .dK ι=>ι.length<=ay/\(a==iA)=false/\∃vs,KV ι vs/\h.DictOf (mR P w) a vs
 | .dT T ι=>ι.length<=ay/\(a==iA)=false/\∃xs:List (List Kt×Addr×av),
   js (λ(p:List Kt×V) (q:List Kt×Addr×av)=>p.1=q.1/\TrT T H q.2.1 p.1/\RelV p.2 q.2.2) ι xs/\
   ∃o es ep,h.get? a=some o/\o.ExactDict/\o.data=.dict es ep/\es.toList=xs.map (entryOfKey<|lg P w)/\(xs.map (·.1)).Nodup
 | .set S n=>h.SetOf (intKind P w) a S n
 | .ins C dx fs=>H dx=some (.own a)/\fs.length<=1000/\dx≠a/\h.get? a=some (W.instObj C dx)/\
   ∃mA,h.Ns1 dx mA/\(∀f,vP (fs.lookup f)<|mA f)/\PySem.Within mA (fs.map (·.1))
 | .own _=>∃o,h.get? a=some o
 | .xd fs=>∃mA,h.Ns1 a mA/\∀f,vP (fs.lookup f)<|mA f
 | .rng lo hi=>∃t u v,h.get? a=some { cls:=.type "range",data:=.fields #[.int lo t,.int hi u,.int 1 v] }
 | .frz o u=>h.get? a=some o/\cG H h a u
 | .tbl ps=>h.get? a=some { cls:=.none,data:=.fields ps }
 | .met f x=>h.get? a=some (W.methodObj (.ref f)<|.ref x)
 | .ext φ=>φ h/\(∃o,h.get? a=some o)/\∀h1 h2:Heap,φ h1->(∀o,h1.get? a=some o->h2.get? a=some o)->φ h2
def HOk (H:Hp)(h:Heap):Prop:=∀a o,H a=some o->cG P w H h a o
end
section
variable {P:bo}{w:dc}{H H':Hp}{h h':Heap}{a:Addr}{o:HO}
theorem cG.lt (x:cG P w H h a o):a<h.objs.size:=by
 cases o with
 |lst xs=>obtain⟨_,_,_,_,e⟩:=x;exact aw e
 |tup xs=>obtain⟨_,_,_,p⟩:=x;exact p.tup.lt
 |dK ι=>obtain⟨_,_,_,_,o,_,_,e,_⟩:=x;exact aw e
 |dT T ι=>obtain⟨_,_,_,_,o,_,_,e,_⟩:=x;exact aw e
 |set S n=>obtain⟨o,_,_,_,e,_⟩:=x;exact aw e
 |ins C dx fs=>obtain⟨_,_,_,e,_⟩:=x;exact aw e
 |own y=>obtain⟨_,e⟩:=x;exact aw e
 |xd fs=>obtain⟨_,⟨_,_,_,e,_⟩,_⟩:=x;exact aw e
 |rng lo hi=>obtain⟨_,_,_,e⟩:=x;exact aw e
 |frz ob u=>obtain⟨e,_⟩:=x;exact aw e
 |tbl ps=>exact aw (show h.get? a=some _ from x)
 |met f y=>exact aw (show h.get? a=some _ from x)
 |ext φ=>obtain⟨_,⟨_,e⟩,_⟩:=x;exact aw e
theorem js.aa5:∀{l₁:List α} {l₂:List β},js F l₁ l₂->(∀a b,F a b->G a b)->js G l₁ l₂
 |_,_,.nil,_=>.nil
 |_,_,.cons r t,f=>.cons (f _ _ r)<|js.aa5 t f
theorem cG.stay (x:cG P w H h a o)(k:∀b u,(b=a\/H b=some (.own a))->h.get? b=some u->h'.get? b=some u)
  (ho:∀b,H b=some (.own a)->H' b=some (.own a)) (ht:∀b xs,H b=some (.tup xs)->H' b=some (.tup xs)):cG P w H' h' a o:=by
 induction o with
 |lst xs=>obtain⟨z,χ,n,r,e⟩:=x;exact⟨z,χ,n,r,k _ _ (.inl rfl) e⟩
 |tup xs=>obtain⟨z,χ,r,ob,e,c⟩:=x;exact⟨z,χ,r,ob,k _ _ (.inl rfl) e,c⟩
 |dK ι=>obtain⟨z,y,vs,r,ob,es,ep,e,c⟩:=x;exact⟨z,y,vs,r,ob,es,ep,k _ _ (.inl rfl) e,c⟩
 |dT T ι=>
  obtain⟨z,y,xs,r,ob,es,ep,e,c⟩:=x;exact⟨z,y,xs,js.aa5 r λp q z=>⟨z.1,z.2.1.imp ht,z.2.2⟩,ob,es,ep,k _ _ (.inl rfl) e,c⟩
 |set S n=>obtain⟨ob,es,ep,t,e,c⟩:=x;exact⟨ob,es,ep,t,k _ _ (.inl rfl) e,c⟩
 |ins C dx fs=>
  obtain⟨d,z,ne,e,mA,⟨od,es,ep,e2,c⟩,r⟩:=x;exact⟨ho _ d,z,ne,k _ _ (.inl rfl) e,mA,⟨od,es,ep,k _ _ (.inr d) e2,c⟩,r⟩
 |own y=>obtain⟨ob,e⟩:=x;exact⟨ob,k _ _ (.inl rfl) e⟩
 |xd fs=>obtain⟨mA,⟨od,es,ep,e,c⟩,r⟩:=x;exact⟨mA,⟨od,es,ep,k _ _ (.inl rfl) e,c⟩,r⟩
 |rng lo hi=>obtain⟨t,u,v,e⟩:=x;exact⟨t,u,v,k _ _ (.inl rfl) e⟩
 |frz ob u ih=>obtain⟨e,q⟩:=x;exact⟨k _ _ (.inl rfl) e,ih q⟩
 |tbl ps=>
  have e:h.get? a=some { cls:=.none,data:=.fields ps }:=x;show h'.get? a=some { cls:=.none,data:=.fields ps };exact k a _ (.inl rfl) e
 |met f y=>
  have e:h.get? a=some (W.methodObj (.ref f)<|.ref y):=x;show h'.get? a=some (W.methodObj (.ref f)<|.ref y);exact k a _ (.inl rfl) e
 |ext φ=>obtain⟨p,⟨o,e⟩,st⟩:=x;exact⟨st _ _ p λo q=>k _ _ (.inl rfl) q,⟨o,k _ _ (.inl rfl) e⟩,st⟩
theorem HOk.lt (x:HOk P w H h)(e:H a=some o):a<h.objs.size:=(x a o e).lt
theorem HOk.fresh (x:HOk P w H h)(e:h.objs.size<=a):H a=none:=by
 cases q:H a with
 |none=>rfl
 |some u=>exact absurd (cb (x.lt q) e) (eT _)
theorem HOk.kept (x:HOk P w H h)(k:∀b u,h.get? b=some u->h'.get? b=some u):HOk P w H h':=λa o e=>
 (x a o e).stay (λb u _ q=>k b u q) (λ_ q=>q) λ_ _ q=>q
theorem HOk.laid (x:HOk P w H h)(k:∀b u,h.get? b=some u->h'.get? b=some u)(hp:h.objs.size<=a)(new:cG P w (upd H a o) h' a o):HOk P w (upd H a o) h':=λb u e=>by
 have hn:=x.fresh hp;by_cases hb:b=a
 ·subst hb;rw[bu] at e;cases e;exact new
 ·rw[bD hb] at e;exact(x b u e).stay (λc v _ q=>k c v q) (λc q=>by rw[bD<|lU q hn];exact q) λc xs q=>by rw[bD<|lU q hn];exact q
end
def Rd (H:Hp)(a:Addr)(u:HO):Prop:=H a=some u\/∃o,H a=some (.frz o u)
theorem Rd.ok (r:Rd H a u)(x:HOk P w H h):cG P w H h a u:=by
 rcases r with r|⟨o,r⟩
 ·exact x a u r
 ·obtain⟨_,q⟩:=x a _ r;exact q
def Mut:Option HO->Prop
 |some (.lst _)=>True
 |some (.dK _)=>True
 |some (.dT _ _)=>True
 |some (.set _ _)=>True
 |some (.ins _ _ _)=>True
 |some (.ext _)=>True
 |_=>False
section
theorem HOk.write (ok:HOk P w H h)(mu:Mut (H x))(he:e=x\/H e=some (.own x))(k:∀b u,b≠e->h.get? b=some u->h'.get? b=some u)(heo:∃u,h'.get? e=some u)
  (new:cG P w (upd H x o') h' x o'):HOk P w (upd H x o') h':=λb u q=>by
 have nown:∀c y,H c=some (.own y)->c≠x:=λc y r z=>by subst z;rw[r] at mu;exact mu
 have ntup:∀c xs,H c=some (.tup xs)->c≠x:=λc xs r z=>by subst z;rw[r] at mu;exact mu
 by_cases hb:b=x
 ·subst hb;rw[bu] at q;cases q;exact new
 ·rw[bD hb] at q;by_cases hbe:b=e
  ·have q':H b=some (.own x):=by
    rcases he with z|z
    ·exact absurd (hbe.trans z) hb
    ·rw[hbe];exact z
   rw[q] at q';cases q';obtain⟨v,hv⟩:=heo;exact⟨v,by rw[hbe];exact hv⟩
  ·refine(ok b u q).stay (λc v hc r=>k c v ?_ r) (λc r=>by rw[bD<|nown c b r];exact r) λc xs r=>by rw[bD<|ntup c xs r];exact r
   rcases hc with rfl|hc
   ·exact hbe
   ·rintro rfl;rcases he with z|z
    ·exact nown c b hc z
    ·rw[hc] at z;cases z;exact hb rfl
end
structure Un (fs ex:List Addr)(H H':Hp)(h h':Heap):Prop where
 keep:∀b o,h.get? b=some o->H b=none->b∉fs->b∉ex->h'.get? b=some o
 slot:∀b o,h.get? b=some o->H b=none->b∈fs->b∉ex->∃sl,h'.get? b=some { o with slots:=sl }
 free:∀b o,h.get? b=some o->H b=none->b∉ex->H' b=none
 there:∀b o,h.get? b=some o->b∉ex->∃o',h'.get? b=some o'
 tups:∀b xs,H b=some (.tup xs)->H' b=some (.tup xs)
 frzs:∀b o u,H b=some (.frz o u)->H' b=some (.frz o u)
 tbls:∀b ps,H b=some (.tbl ps)->∃more,H' b=some (.tbl (ps++more))
section
variable {fs fs' ex ex':List Addr}{H H1 H2:Hp}{h h1 h2 h':Heap}{a x e:Addr}{o:HO}
theorem Un.any (u:Un fs ex H H1 h h1){b:Addr}{ob:Obj}(q:h.get? b=some ob)(n:H b=none)(hx:b∉ex):∃sl,h1.get? b=some { ob with slots:=sl }:=by
 by_cases hb:b∈fs
 ·exact u.slot b ob q n hb hx
 ·exact⟨ob.slots,u.keep b ob q n hb hx⟩
theorem Un.trans (a:Un fs ex H H1 h h1)(b:Un fs ex H1 H2 h1 h2):Un fs ex H H2 h h2 where
 keep:=λc ob q n hc hx=>b.keep c ob (a.keep c ob q n hc hx) (a.free c ob q n hx) hc hx
 slot:=λc ob q n hc hx=>by
  obtain⟨sl,e1⟩:=a.slot c ob q n hc hx;obtain⟨sl',e2⟩:=b.slot c _ e1 (a.free c ob q n hx) hc hx;exact⟨sl',e2⟩
 free:=λc ob q n hx=>by
  obtain⟨o',e1⟩:=a.there c ob q hx;exact b.free c o' e1 (a.free c ob q n hx) hx
 there:=λc ob q hx=>by
  obtain⟨o',e1⟩:=a.there c ob q hx;exact b.there c o' e1 hx
 tups:=λc xs q=>b.tups c xs<|a.tups c xs q
 frzs:=λc ob xs q=>b.frzs c ob xs<|a.frzs c ob xs q
 tbls:=λc ps q=>by
  obtain⟨m1,e1⟩:=a.tbls c ps q;obtain⟨m2,e2⟩:=b.tbls c _ e1;exact⟨m1++m2,by rw[e2,ml]⟩
theorem Un.kept (k:∀b u,h.get? b=some u->h'.get? b=some u):Un fs ex H H h h':=
 ⟨λb ob q _ _ _=>k b ob q,λb ob q _ _ _=>⟨ob.slots,k b ob q⟩,λ_ _ _ n _=>n,λb ob q _=>⟨ob,k b ob q⟩,λ_ _ q=>q,λ_ _ _ q=>q,λ_ ps q=>⟨#[],by rw[q];simp⟩⟩
theorem Un.refl:Un fs ex H H h h:=Un.kept λ_ _ q=>q
theorem Un.laid (k:∀b u,h.get? b=some u->h'.get? b=some u)(hp:h.objs.size<=a)(hn:H a=none):Un fs ex H (upd H a o) h h' where
 keep:=λb u q _ _ _=>k b u q
 slot:=λb u q _ _ _=>⟨u.slots,k b u q⟩
 free:=λb u q n _=>by rw[bD<|bp<|cb (aw q) hp];exact n
 there:=λb u q _=>⟨u,k b u q⟩
 tups:=λb xs q=>by rw[bD<|lU q hn];exact q
 frzs:=λb u xs q=>by rw[bD<|lU q hn];exact q
 tbls:=λb ps q=>⟨#[],by rw[bD<|lU q hn,q];simp⟩
theorem Un.write (mu:Mut (H x))(he:e=x\/H e=some (.own x))(k:∀b u,b≠e->h.get? b=some u->h'.get? b=some u)(heo:∃u,h'.get? e=some u):Un fs ex H (upd H x o) h h':=by
 have hx:∀b,H b=none->b≠x:=λb n z=>by subst z;rw[n] at mu;exact mu
 have hb:∀b,H b=none->b≠e:=λb n z=>by
  subst z;rcases he with r|r
  ·exact hx b n r
  ·rw[n] at r;cases r
 have hm:∀b u,H b=some u->¬Mut (some u)->b≠x:=λb u q nm z=>by subst z;rw[q] at mu;exact nm mu
 refine⟨λb u q n _ _=>k b u (hb b n) q,λb u q n _ _=>⟨u.slots,k b u (hb b n) q⟩,λb u q n _=>by rw[bD<|hx b n];exact n,λb u q _=>?_,
  λb xs q=>by rw[bD<|hm b _ q λz=>z];exact q,λb u xs q=>by rw[bD<|hm b _ q λz=>z];exact q,λb ps q=>⟨#[],by rw[bD<|hm b _ q λz=>z,q];simp⟩⟩
 by_cases hbe:b=e
 ·subst hbe;exact heo
 ·exact⟨u,k b u hbe q⟩
end
noncomputable def trk (h:Heap)(H:Hp):List Addr:=(cm h.objs.size).filter λa=>(H a).isSome
def Fj (h:Heap)(H:Hp):Heap:=zv h<|trk h H
theorem Qy (h:Heap)(H:Hp):(Fj h H).objs.size=h.objs.size:=W.hideAll_size _ _
theorem R8 (e:h.get? b=some o)(n:H b=none):(Fj h H).get? b=some o:=
 kr _ e λhm=>by
  have q:(H b).isSome=true:=(vc.mp hm).2;rw[n] at q;simp at q
theorem Xw (e:(Fj h H).get? b=some o):h.get? b=some o/\H b=none:=by
 have e':h.get? b=some o:=ve (trk h H) e;refine⟨e',?_⟩;cases q:H b with
 |none=>rfl
 |some x=>
  have hm:b∈trk h H:=vc.mpr ⟨i8.mpr<|aw e',by simp[q]⟩;have z:(Fj h H).get? b=none:=W.hideAll_none (trk h H) hm;rw[z] at e;cases e
structure Mod (K:bb)(mg:Zp)(base:Heap):Prop where
 kin:K.In base
 glob:base.Ns cK mg
 blt:∃mb,base.Ns builtinsNs mb/\∀x:Str,x≠"__name__"->mb x=b0 x
 nolimit:base.NoLimit
structure Cx where
 prog:bo
 w:dc
 K:bb
 mg:Zp
 base:Heap
 A:dy
 N:List Str
 s₀:aS
 H₀:Hp
 env:Env
 outer:List Env
 stack:List Env
 ex:List Addr
 fn:Str->Bool
 calm:Bool
 pn:Zl
 xe:Zs
def frs (l:List Env):List Addr:=l.filterMap (·.frame)
abbrev Cx.fs (X:Cx):List Addr:=frs X.outer
def Vis (sc:rL)(x:Str):Prop:=sc.names.lookup x=some .local\/sc.names.lookup x=some .cell\/sc.names.lookup x=some .free
def Loc (sc:rL)(x:Str):Prop:=sc.names.lookup x=some .local\/sc.names.lookup x=some .cell
def Look (env:Env)(h:Heap)(m:Zp)(x:Str)(u:av):Prop:=
 (env.kindOf x=some .local/\m x=some u)\/((env.kindOf x=some .cell\/env.kindOf x=some .free)/\∃c,env.cells.lookup x=some c/\h.IsCell c (some u))
structure Cx.Ok (X:Cx):Prop where
 mod:Mod X.K X.mg X.base
 kind:X.env.scope.kind=.function
 glob:X.env.globals=cK
 blt:X.env.builtins=builtinsNs
 above:X.s₀.heap.objs.size<=X.env.locals
 inj:∀x y c,X.env.cells.lookup x=some c->X.env.cells.lookup y=some c->x=y
 has:∀x,(X.env.kindOf x=some .cell\/X.env.kindOf x=some .free)->∃c,X.env.cells.lookup x=some c
 cab:∀x c,X.fn x=true->X.env.cells.lookup x=some c->X.s₀.heap.objs.size<=c
 hd:X.calm=true->X.A.handled=none
 frames:X.A.frames=some X.stack
 stk:X.stack=X.outer\/(X.stack=X.env::X.outer/\X.env.frame=some X.env.locals)
 exf:∀b∈X.ex,b≠X.env.locals/\∀x c,X.env.cells.lookup x=some c->c≠b
 bs:∀b o,X.base.get? b=some o->X.s₀.heap.get? b=some o/\X.H₀ b=none
 bsz:X.base.objs.size<=X.s₀.heap.objs.size
 noex:∀b o,X.base.get? b=some o->b∉X.ex
 exfs:∀b∈X.ex,b∉X.fs
 rA:X.s₀.heap.FunFrames X.base X.outer
 frf:∀b∈X.fs,X.H₀ b=none
structure Inv (X:Cx)(π:Zl)(σ:List (Option V))(H:Hp)(s:aS):Prop where
 ok:X.Ok
 os:s.os=X.s₀.os
 bare:sC s.gens
 base:Un X.fs X.ex X.H₀ H X.s₀.heap s.heap
 loc:∃m,s.heap.Ns X.env.locals m/\∀(i:Nat) (x:Str) (v:V),X.N[i]? = some x->σ[i]? = some (some v)->Vis X.env.scope x->∃u,RelV v u/\Look X.env s.heap m x u
 cell:∀x c,X.env.cells.lookup x=some c->∃v,s.heap.IsCell c v
 free:H X.env.locals=none
 freeC:∀x c,X.env.cells.lookup x=some c->H c=none
 pin:∀p∈X.pn++π,s.heap.get? p.1=some p.2/\H p.1=none/\p.1≠X.env.locals/\p.1∉X.fs/\∀v,p.2.data≠.cell v
 hok:HOk X.prog X.w H s.heap
 len:σ.length=X.N.length
section
variable {X:Cx}{π:Zl}{σ:List (Option V)}{H H':Hp}{s:aS}{h':Heap}
theorem Cx.Ok.ady (ok:X.Ok){b:Addr}{o:Obj}(e:X.base.get? b=some o):b∉X.fs:=λhb=>by
 have:=(ok.rA.mem hb).1
 rw[e] at this;cases this
theorem Inv.bs (I:Inv X π σ H s):∀b o,X.base.get? b=some o->s.heap.get? b=some o/\H b=none:=λb o e=>
 ⟨I.base.keep b o (I.ok.bs b o e).1 (I.ok.bs b o e).2 (I.ok.ady e)<|I.ok.noex b o e,I.base.free b o (I.ok.bs b o e).1 (I.ok.bs b o e).2<|I.ok.noex b o e⟩
theorem Inv.bk (I:Inv X π σ H s):∀b o,X.base.get? b=some o->s.heap.get? b=some o:=λb o e=>(I.bs b o e).1
theorem Inv.mod (I:Inv X π σ H s):Mod X.K X.mg X.base:=I.ok.mod
theorem Inv.kIn (I:Inv X π σ H s):X.K.In s.heap:=I.ok.mod.kin.keeps I.bk
theorem Inv.lt (I:Inv X π σ H s):X.env.locals<s.heap.objs.size:=let⟨_,hn,_⟩:=I.loc;hn.lt
theorem Inv.sz (I:Inv X π σ H s):X.s₀.heap.objs.size<=s.heap.objs.size:=cy I.ok.above<|AS I.lt
theorem Inv.adG (I:Inv X π σ H s){a:Addr}(h:s.heap.objs.size<=a):a∉X.fs:=λhb=>by
 obtain⟨_,o,ho,_⟩:=I.ok.rA.mem hb;exact absurd (cb (aw ho)<|cy I.sz h)<|eT _
theorem Inv.cne (I:Inv X π σ H s):∀x c,X.env.cells.lookup x=some c->c≠X.env.locals:=λx c e z=>by
 obtain⟨v,o,ho,hd⟩:=I.cell x c e;obtain⟨m,⟨o',es,ep,ho',hd',_⟩,_⟩:=I.loc;rw[z,ho'] at ho;cases ho;rw[hd'] at hd;cases hd
theorem Inv.rA (I:Inv X π σ H s):s.heap.FunFrames X.base X.outer:=by
 have all:∀(l:List Env),(∀b∈frs l,b∈X.fs)->X.s₀.heap.FunFrames X.base l->s.heap.FunFrames X.base l:=by
  intro l;induction l with
  |nil=>intro _ _;trivial
  |cons env r ih=>
   intro hs hl;obtain⟨hk,⟨L,o,hf,hn,ho,hd⟩,hr⟩:=hl;have hL:L∈X.fs:=hs L (by unfold frs;rw[l8,hf];exact ar);obtain⟨sl,e⟩:=I.base.slot L o ho (I.ok.frf L hL) hL λz=>I.ok.exfs L z hL;exact⟨hk,⟨L,_,hf,hn,e,hd⟩,ih (λb hb=>hs b (by unfold frs;rw[l8,hf];exact ai _ hb)) hr⟩
 exact all X.outer (λ_ hb=>hb) I.ok.rA
theorem Inv.stack (I:Inv X π σ H s):s.heap.FunFrames X.base X.stack:=by
 rcases I.ok.stk with e|⟨e,hf⟩
 ·rw[e];exact I.rA
 ·rw[e];obtain⟨m,hn,_⟩:=I.loc;refine .cons (by rw[I.ok.kind];decide) hf hn ?_ I.rA;exact xE<|cy I.ok.bsz I.ok.above
theorem Inv.Gg (I:Inv X π σ H s):∀b∈frs X.stack,b∈X.env.locals::X.fs:=λb hb=>by
 rcases I.ok.stk with e|⟨e,hf⟩
 ·rw[e] at hb;exact ai _ hb
 ·rw[e] at hb;unfold frs at hb;rw[l8,hf] at hb;exact hb
theorem Inv.xR (I:Inv X π σ H s):∀b∈frs X.stack,H b=none:=λb hb=>by
 rcases bq.mp (I.Gg b hb) with e|hb
 ·rw[e];exact I.free
 ·obtain⟨_,o,ho,_⟩:=I.ok.rA.mem hb;exact I.base.free b o ho (I.ok.frf b hb) λz=>I.ok.exfs b z hb
theorem Inv.step {g':Array nL}{t':Nat}{d':Drawn}{ch:List Addr}(I:Inv X π σ H s)
  (hch:∀b∈ch,(b∈X.ex\/X.s₀.heap.objs.size<=b)/\b≠X.env.locals/\(∀x c,X.env.cells.lookup x=some c->c≠b)/\∀p∈X.pn++π,p.1≠b)
  (keep:∀b o,b≠X.env.locals->b∉X.fs->b∉ch->s.heap.get? b=some o->H b=none->h'.get? b=some o)
  (slot:∀b o,b≠X.env.locals->b∈X.fs->b∉ch->s.heap.get? b=some o->H b=none->∃sl,h'.get? b=some { o with slots:=sl }) (free:∀b o,b∉ch->s.heap.get? b=some o->H b=none->H' b=none)
  (there:∀b o,b∉ch->s.heap.get? b=some o->∃o',h'.get? b=some o')
  (tups:∀b xs,H b=some (.tup xs)->H' b=some (.tup xs)) (frzs:∀b o u,H b=some (.frz o u)->H' b=some (.frz o u)) (tbls:∀b ps,H b=some (.tbl ps)->∃more,H' b=some (.tbl<|ps++more))
  (ns:∀m,s.heap.Ns X.env.locals m->h'.Ns X.env.locals m) (hok:HOk X.prog X.w H' h') (hg:sC g'):
  Inv X π σ H' { s with heap:=h',gens:=g',drawn:=d',toks:=t' }:=by
 have neL:∀b o,X.s₀.heap.get? b=some o->b≠X.env.locals:=λb o e=>bp<|cb (aw e) I.ok.above;have neC:∀b o,X.s₀.heap.get? b=some o->b∉X.ex->b∉ch:=λb o e hx hb=>by
  rcases(hch b hb).1 with z|z
  ·exact hx z
  ·exact absurd (cb (aw e) z)<|eT _
 have cellK:∀x c,X.env.cells.lookup x=some c->∀v,s.heap.IsCell c v->h'.IsCell c v:=λx c e v ⟨o,ho,hd⟩=>by
  have nch:c∉ch:=λz=>(hch c z).2.2.1 x c e rfl;by_cases hc:c∈X.fs
  ·obtain⟨sl,q⟩:=slot c o (I.cne x c e) hc nch ho<|I.freeC x c e;exact⟨_,q,hd⟩
  ·exact⟨o,keep c o (I.cne x c e) hc nch ho<|I.freeC x c e,hd⟩
 refine⟨I.ok,I.os,hg,⟨λb o e n hb hx=>?_,λb o e n hb hx=>?_,λb o e n hx=>?_,λb o e hx=>?_,λb xs e=>tups b xs<|I.base.tups b xs e,λb o xs e=>frzs b o xs<|I.base.frzs b o xs e,λb ps e=>?_⟩,?_,λx c e=>?_,?_,λx c e=>?_,λp hp=>?_,hok,I.len⟩
 ·exact keep b o (neL b o e) hb (neC b o e hx) (I.base.keep b o e n hb hx)<|I.base.free b o e n hx
 ·obtain⟨sl,e1⟩:=I.base.slot b o e n hb hx;obtain⟨sl',e2⟩:=slot b _ (neL b o e) hb (neC b o e hx) e1<|I.base.free b o e n hx;exact⟨sl',e2⟩
 ·obtain⟨o',e1⟩:=I.base.there b o e hx;exact free b o' (neC b o e hx) e1<|I.base.free b o e n hx
 ·obtain⟨o',e1⟩:=I.base.there b o e hx;exact there b o' (neC b o e hx) e1
 ·obtain⟨m1,e1⟩:=I.base.tbls b ps e;obtain⟨m2,e2⟩:=tbls b _ e1;exact⟨m1++m2,by rw[e2,ml]⟩
 ·obtain⟨m,hn,hl⟩:=I.loc;refine⟨m,ns m hn,λi x v e1 e2 e3=>?_⟩;obtain⟨u,r,l⟩:=hl i x v e1 e2 e3;refine⟨u,r,?_⟩;rcases l with l|⟨k,c,e,z⟩
  ·exact .inl l
  ·exact .inr ⟨k,c,e,cellK x c e _ z⟩
 ·obtain⟨v,z⟩:=I.cell x c e;exact⟨v,cellK x c e v z⟩
 ·obtain⟨m,⟨o,_,_,ho,_⟩,_⟩:=I.loc;exact free _ o (λz=>(hch _ z).2.1 rfl) ho I.free
 ·obtain⟨v,o,ho,hd⟩:=I.cell x c e;exact free c o (λz=>(hch c z).2.2.1 x c e rfl) ho<|I.freeC x c e
 ·refine DX (I.pin p hp) λe n ne nf d=>?_;have nch:p.1∉ch:=λz=>(hch p.1 z).2.2.2 p hp rfl;exact⟨keep p.1 p.2 ne nf nch e n,free p.1 p.2 nch e n,ne,nf,d⟩
theorem Inv.un {t':Nat}(I:Inv X π σ H s)(u:Un X.fs [] H H' s.heap h')(hok:HOk X.prog X.w H' h'):Inv X π σ H' { s with heap:=h',toks:=t' }:=by
 obtain⟨m,⟨o,es,ep,ho,r⟩,_⟩:=id I.loc;obtain⟨sl,hL⟩:=u.any ho I.free (by simp);exact I.step (g':=s.gens) (d':=s.drawn) (ch:=[]) (λ_ z=>nomatch z) (λb o _ hb _ e n=>u.keep b o e n hb<|by simp) (λb o _ hb _ e n=>u.slot b o e n hb<|by simp) (λb o _ e n=>u.free b o e n<|by simp) (λb o _ e=>u.there b o e<|by simp) u.tups u.frzs u.tbls (λm' hm=>by
  refine Nx hm λo' es' ep' ho' r'=>?_;rw[ho] at ho';cases ho';exact⟨_,es',ep',hL,r'⟩) hok I.bare
theorem Inv.call {g':Array nL}{t':Nat}{d':Drawn}{ch:List Addr}(I:Inv X π σ H s)(u:Un (frs X.stack) ch H H' s.heap h')(hok:HOk X.prog X.w H' h')(hg:sC g')
  (hch:∀b∈ch,(b∈X.ex\/X.s₀.heap.objs.size<=b)/\b≠X.env.locals/\(∀x c,X.env.cells.lookup x=some c->c≠b)/\∀p∈X.pn++π,p.1≠b):
  Inv X π σ H' { s with heap:=h',gens:=g',drawn:=d',toks:=t' }:=by
 obtain⟨m,⟨o,es,ep,ho,r⟩,_⟩:=id I.loc;obtain⟨sl,hL⟩:=u.any ho I.free λz=>(hch _ z).2.1 rfl;exact I.step (ch:=ch) hch (λb o hL hb hc e n=>u.keep b o e n (λz=>(bq.mp<|I.Gg b z).elim hL hb) hc) (λb o _ _ hc e n=>u.any e n hc) (λb o hc e n=>u.free b o e n hc) (λb o hc e=>u.there b o e hc) u.tups u.frzs u.tbls (λm' hm=>by
  refine Nx hm λo' es' ep' ho' r'=>?_;rw[ho] at ho';cases ho';exact⟨_,es',ep',hL,r'⟩) hok hg
theorem Inv.turned {t':Nat}{it:Addr}(I:Inv X π σ H s)(k:∀b o,b≠it->s.heap.get? b=some o->h'.get? b=some o)(hn:H it=none)(hL:it≠X.env.locals)
  (h1:it∈X.ex\/X.s₀.heap.objs.size<=it) (h2:∀x c,X.env.cells.lookup x=some c->c≠it) (h3:∀p∈X.pn++π,p.1≠it):Inv X π σ H { s with heap:=h',toks:=t' }:=by
 have nit:∀b u,H b=some u->b≠it:=λb u e z=>by rw[z,hn] at e;cases e
 refine I.step (g':=s.gens) (d':=s.drawn) (ch:=[it]) (λb hb=>?_) (λb o _ _ hc e _=>k b o (λz=>hc<|by simp[z]) e) (λb o _ _ hc e _=>⟨o.slots,k b o (λz=>hc<|by simp[z]) e⟩) (λ_ _ _ _ n=>n)
  (λb o hc e=>⟨o,k b o (λz=>hc<|by simp[z]) e⟩) (λ_ _ e=>e) (λ_ _ _ e=>e) (λb ps e=>⟨#[],by rw[e];simp⟩) (λm hm=>?_) (λb u e=>?_) I.bare
 ·have e:b=it:=by simpa using hb
  subst e;exact⟨h1,hL,h2,h3⟩
 ·refine Nx hm λo es ep ho r=>?_;exact⟨o,es,ep,k _ o (iP hL) ho,r⟩
 ·refine(I.hok b u e).stay (λc v hc q=>k c v ?_ q) (λ_ q=>q) λ_ _ q=>q;rcases hc with z|z
  ·rw[z];exact nit b u e
  ·exact nit c _ z
theorem Inv.tok (I:Inv X π σ H s)(t:Nat):Inv X π σ H { s with toks:=t }:=I.un (h':=s.heap) (t':=t) Un.refl I.hok
theorem Inv.kept (I:Inv X π σ H s)(k:∀b u,s.heap.get? b=some u->h'.get? b=some u):Inv X π σ H { s with heap:=h',toks:=t' }:=I.un (Un.kept k)<|I.hok.kept k
theorem Inv.laid (I:Inv X π σ H s)(k:∀b u,s.heap.get? b=some u->h'.get? b=some u)(hp:s.heap.objs.size<=a)(new:cG X.prog X.w (upd H a o) h' a o):
  Inv X π σ (upd H a o) { s with heap:=h',toks:=t' }:=I.un (Un.laid k hp<|I.hok.fresh hp)<|I.hok.laid k hp new
theorem Inv.write (I:Inv X π σ H s)(mu:Mut (H x))(he:e=x\/H e=some (.own x))(k:∀b u,b≠e->s.heap.get? b=some u->h'.get? b=some u)(heo:∃u,h'.get? e=some u)
  (new:cG X.prog X.w (upd H x o) h' x o):Inv X π σ (upd H x o) { s with heap:=h',toks:=t' }:=I.un (Un.write mu he k heo)<|I.hok.write mu he k heo new
theorem Inv.weak (I:Inv X π σ H s)(hl:σ'.length=σ.length)(w:∀(i:Nat) v,σ'[i]? = some (some v)->σ[i]? = some (some v)):Inv X π σ' H s:=
 ⟨I.ok,I.os,I.bare,I.base,let⟨m,hn,hl'⟩:=I.loc;⟨m,hn,λi x v e1 e2 e3=>hl' i x v e1 (w i v e2) e3⟩,I.cell,I.free,I.freeC,I.pin,I.hok,hl.trans I.len⟩
theorem Inv.Ma (I:Inv X π σ H s)(h:∀p∈pins',s.heap.get? p.1=some p.2/\H p.1=none/\p.1≠X.env.locals/\p.1∉X.fs/\∀v,p.2.data≠.cell v):Inv X pins' σ H s:=
 ⟨I.ok,I.os,I.bare,I.base,I.loc,I.cell,I.free,I.freeC,λp hp=>(cS.mp hp).elim (λz=>I.pin p<|xI _ z)<|h p,I.hok,I.len⟩
theorem Bm {N:List Str}(hN:N.Nodup){i j:Nat}{x:Str}(a:N[i]? = some x)(b:N[j]? = some x):i=j:=by
 obtain⟨h1,e1⟩:=d3.mp a;obtain⟨h2,e2⟩:=d3.mp b;exact(List.getElem_inj hN).mp (e1.trans e2.symm)
theorem Eu (I:Inv X π σ H s)(hN:X.N.Nodup)(hi:X.N[i]? = some x)(hx:Loc X.env.scope x)(r:RelV v u)
  (h:∀s',Inv X π (σ.set i<|some v) H s'->(∃a,iS a s.heap s'.heap/\(a=X.env.locals\/X.env.cells.lookup x=some a))->Q () s') (hf:X.fn x=true\/X.env.scope.names.lookup x=some .local:=by first|exact .inl rfl|exact .inr rfl|assumption):bg M A (storeName X.env x u) Q E s:=by
 obtain⟨m,hn,hl⟩:=id I.loc;have hcls:(X.env.scope.kind==.class||(X.env.scope.kind==.module&&X.env.locals != X.env.globals))=false:=by rw[I.ok.kind];rfl
 have hiσ:i<σ.length:=by rw[I.len];exact(d3.mp hi).1
 have cne:=I.cne;have tracked:∀{a:Addr} {h':Heap},(∃o,s.heap.get? a=some o/\H a=none)->iS a s.heap h'->HOk X.prog X.w H h':=λ{a h'} ha hs b ob e=>by
  obtain⟨_,_,hfree⟩:=ha;refine(I.hok b ob e).stay (λc w' hc q=>(hs.2 c ?_).trans q) (λ_ q=>q) λ_ _ q=>q;rintro rfl;rcases hc with rfl|hc
  ·rw[hfree] at e;cases e
  ·rw[hfree] at hc;cases hc
 rcases hx with hk|hk
 ·refine wpAny_storeName_local hk hn (λh' hn' hs=>?_) hcls;refine Nx (id hn) λoL _ _ hoL _=>?_;refine h _ ⟨I.ok,I.os,I.bare,⟨λb o e n hb hx=>?_,λb o e n hb hx=>?_,I.base.free,λb o e hx=>?_,I.base.tups,I.base.frzs,I.base.tbls⟩,⟨_,hn',λj y v' e1 e2 e3=>?_⟩,λy c e=>?_,I.free,I.freeC,λp hp=>?_,tracked ⟨oL,hoL,I.free⟩ hs,by simpa using I.len⟩ ⟨_,hs,.inl rfl⟩
  ·exact(hs.2 b<|bp<|cb (aw e) I.ok.above).trans (I.base.keep b o e n hb hx)
  ·obtain⟨sl,e1⟩:=I.base.slot b o e n hb hx;exact⟨sl,(hs.2 b<|bp<|cb (aw e) I.ok.above).trans e1⟩
  ·obtain⟨o',e1⟩:=I.base.there b o e hx;exact⟨o',(hs.2 b<|bp<|cb (aw e) I.ok.above).trans e1⟩
  ·by_cases hj:j=i
   ·subst hj;rw[hi] at e1;cases e1;rw[dn hiσ] at e2;cases e2;exact⟨u,r,.inl ⟨hk,by simp⟩⟩
   ·rw[dr<|iP hj] at e2;obtain⟨u',r',q⟩:=hl j y v' e1 e2 e3;refine⟨u',r',?_⟩;rcases q with⟨k,e⟩|⟨k,c,e,z⟩
    ·refine .inl ⟨k,?_⟩
     have:y≠x:=λe=>hj<|Bm hN e1<|e▸hi
     simp[this,e]
    ·exact .inr ⟨k,c,e,z.sameBut hs<|cne y c e⟩
  ·obtain⟨w',z⟩:=I.cell y c e;exact⟨w',z.sameBut hs<|cne y c e⟩
  ·refine DX (I.pin p hp) λe n ne nf d=>?_;exact⟨(hs.2 p.1 ne).trans e,n,ne,nf,d⟩
 ·have hfn:X.fn x=true:=by
   rcases hf with z|z
   ·exact z
   ·rw[z] at hk;cases hk
  obtain⟨c,hc⟩:=I.ok.has x<|.inl hk;obtain⟨w',z⟩:=I.cell x c hc;refine wpAny_storeName_cell I.ok.kind hk hc z λh' hc' hs=>?_;obtain⟨oc,hoc,hocd⟩:=id z;refine h { s with heap:=h' } ⟨I.ok,I.os,I.bare,⟨λb o e n hb hx=>?_,λb o e n hb hx=>?_,I.base.free,λb o e hx=>?_,I.base.tups,I.base.frzs,I.base.tbls⟩,⟨m,hn.sameBut hs<|iP<|cne x c hc,λj y v' e1 e2 e3=>?_⟩,λy c' e=>?_,I.free,I.freeC,λp hp=>?_,tracked ⟨oc,hoc,I.freeC x c hc⟩ hs,by simpa using I.len⟩ ⟨c,hs,.inr hc⟩
  ·exact(hs.2 b<|bp<|cb (aw e)<|I.ok.cab x c hfn hc).trans (I.base.keep b o e n hb hx)
  ·obtain⟨sl,e1⟩:=I.base.slot b o e n hb hx;exact⟨sl,(hs.2 b<|bp<|cb (aw e)<|I.ok.cab x c hfn hc).trans e1⟩
  ·obtain⟨o',e1⟩:=I.base.there b o e hx;exact⟨o',(hs.2 b<|bp<|cb (aw e)<|I.ok.cab x c hfn hc).trans e1⟩
  ·by_cases hj:j=i
   ·subst hj;rw[hi] at e1;cases e1;rw[dn hiσ] at e2;cases e2;exact⟨u,r,.inr ⟨.inl hk,c,hc,hc'⟩⟩
   ·rw[dr<|iP hj] at e2;obtain⟨u',r',q⟩:=hl j y v' e1 e2 e3;refine⟨u',r',?_⟩;rcases q with q|⟨k,c',e,z'⟩
    ·exact .inl q
    ·refine .inr ⟨k,c',e,z'.sameBut hs ?_⟩;rintro rfl;exact hj<|Bm hN e1<|I.ok.inj _ _ _ e hc▸hi
  ·by_cases hcc:c'=c
   ·subst hcc;exact⟨_,hc'⟩
   ·obtain⟨w2,z2⟩:=I.cell y c' e;exact⟨w2,z2.sameBut hs hcc⟩
  ·refine DX (I.pin p hp) λe n ne nf d=>?_;refine⟨(hs.2 p.1 ?_).trans e,n,ne,nf,d⟩;intro q;rw[q,hoc] at e;have q':oc=p.2:=bX e;exact d w' (by rw[← q'];exact hocd)
theorem qT (I:Inv X π σ H s)(hN:X.N.Nodup)(hi:X.N[i]? = some x)(hx:Loc X.env.scope x)(r:RelV v u)
  (h:∀s',Inv X π (σ.set i<|some v) H s'->Q () s') (hf:X.fn x=true\/X.env.scope.names.lookup x=some .local:=by first|exact .inl rfl|exact .inr rfl|assumption):bg M A (storeName X.env x u) Q E s:=
 Eu I hN hi hx r (λs' I' _=>h s' I') hf
theorem Inv.call' (I:Inv X π σ H s)(ho:s'.os=s.os)(u:Un (frs X.stack) ch H H' s.heap s'.heap)(hok:HOk X.prog X.w H' s'.heap)(hg:sC s'.gens)
  (hch:∀b∈ch,(b∈X.ex\/X.s₀.heap.objs.size<=b)/\b≠X.env.locals/\(∀x c,X.env.cells.lookup x=some c->c≠b)/\∀p∈X.pn++π,p.1≠b):Inv X π σ H' s':=by
 obtain⟨h',g',d',t',o'⟩:=s';have e:o'=s.os:=ho;subst e;exact I.call (g':=g') (t':=t') (d':=d') u hok hg hch
end
abbrev XK:=av->Option Addr->Hp->Prop
abbrev St:=List<|Option V
abbrev VK:=V->Hp->Prop
abbrev TE:=St->Hp->VK->Prop
abbrev TT:=St->Hp->(Bool->Hp->Prop)->Prop
abbrev TA:=St->Hp->(List V->Hp->Prop)->Prop
structure Ends where
 nx:St->Hp->Prop
 rt:VK
 bk:St->Hp->Prop:=λ_ _=>False
 ct:St->Hp->Prop:=λ_ _=>False
abbrev TS:=Ends->St->Hp->Prop
def EP (X:Cx)(π:Zl)(σ:St)(Q:VK)(u:av)(s':aS):Prop:=∃v H',Inv X π σ H' s'/\RelV v u/\Q v H'
def TP (X:Cx)(π:Zl)(σ:St)(Q:Bool->Hp->Prop)(b:Bool)(s':aS):Prop:=∃H',Inv X π σ H' s'/\Q b H'
def AP (X:Cx)(π:Zl)(σ:St)(Q:List V->Hp->Prop)(us:List av)(s':aS):Prop:=∃vs H',Inv X π σ H' s'/\Vals vs us/\Q vs H'
def SP (X:Cx)(π:Zl)(D:Ends)(f:Flow)(s':aS):Prop:=
 match f with
 | .next=>∃σ' H',Inv X π σ' H' s'/\D.nx σ' H'
 | .brk=>∃σ' H',Inv X π σ' H' s'/\D.bk σ' H'
 | .cont=>∃σ' H',Inv X π σ' H' s'/\D.ct σ' H'
 | .ret u=>∃v σ' H',Inv X π σ' H' s'/\RelV v u/\D.rt v H'
def PE (X:Cx)(e:Expr)(t:TE):Prop:=
 ∀(π:Zl) (s:aS) (σ:St) (H:Hp) (Q:VK),Inv X π σ H s->t σ H Q->bg (b9 X.prog X.w) X.A (eval e X.env) (EP X π σ Q) X.xe s
def PT (X:Cx)(e:Expr)(t:TT):Prop:=
 ∀(π:Zl) (s:aS) (σ:St) (H:Hp) (Q:Bool->Hp->Prop),Inv X π σ H s->t σ H Q->bg (b9 X.prog X.w) X.A (isTrue e X.env<|eval e X.env) (TP X π σ Q) X.xe s
def PW (X:Cx)(e:Expr)(t:TT):Prop:=
 ∀(whole:Sem av) (π:Zl) (s:aS) (σ:St) (H:Hp) (Q:Bool->Hp->Prop),Inv X π σ H s->t σ H Q->bg (b9 X.prog X.w) X.A (isTrue e X.env whole) (TP X π σ Q) X.xe s
theorem PW.pt (h:PW X e t):PT X e t:=h _
def PA (X:Cx)(es:List Expr)(t:TA):Prop:=
 ∀(pos:Pos) (π:Zl) (s:aS) (σ:St) (H:Hp) (Q:List V->Hp->Prop),Inv X π σ H s->t σ H Q->bg (b9 X.prog X.w) X.A (spliced<|ia pos<|ag es X.env) (AP X π σ Q) X.xe s
def PS (X:Cx)(st:Stmt)(t:TS):Prop:=
 ∀(π:Zl) (s:aS) (σ:St) (H:Hp) (D:Ends),Inv X π σ H s->t D σ H->bg (b9 X.prog X.w) X.A (exec st X.env) (SP X π D) X.xe s
def PSs (X:Cx)(st:List Stmt)(t:TS):Prop:=
 ∀(π:Zl) (s:aS) (σ:St) (H:Hp) (D:Ends),Inv X π σ H s->t D σ H->bg (b9 X.prog X.w) X.A (execs st X.env) (SP X π D) X.xe s
theorem thn (h:bg M A t Q E s)(hQ:∀a s,Q a s->Q' a s):bg M A t Q' E s:=fT h hQ λ_ _ x=>x
section
variable {X:Cx}
def adm (i:Nat):TE:=λσ H Q=>∃v,σ[i]? = some (some v)/\Q v H
def tC (v:V):TE:=λ_ H Q=>Q v H
theorem je (hN:X.N[i]? = some x)(hv:Vis X.env.scope x)(hd:(x==("__debug__":Str))=false:=by decide)(hcd:(x==("__classdict__":Str))=false:=by decide):PE X (.Name x pos) (adm i):=by
 intro π s σ H Q I h;obtain⟨v,e,h⟩:=h;obtain⟨m,hn,hl⟩:=I.loc;obtain⟨u,r,l⟩:=hl i x v hN e hv;have fin:EP X π σ Q u s:=⟨v,H,I,r,h⟩;rcases l with⟨hk,hm⟩|⟨hk,c,hc,hcell⟩
 ·exact wpAny_Name (wpAny_loadName_local I.ok.kind hk hn hm fin) hd
 ·rcases hk with hk|hk
  ·exact wpAny_Name (wpAny_loadName_cell I.ok.kind hk hc hcell fin) hd
  ·exact wpAny_Name (wpAny_loadName_free I.ok.kind hk hc hcell fin hcd) hd
theorem abd:PE X (.Constant (.int i) j pos) (tC<|.int i):=λ_ _ _ H _ I h=>wpAny_Constant_int ⟨.int i,H,I.tok _,⟨_,rfl⟩,h⟩
theorem acu:PE X (.Constant (.bool b) j pos) (tC<|.bl b):=λ_ _ _ H _ I h=>Constant_bool ⟨.bl b,H,I,rfl,h⟩
theorem aai:PE X (.Constant .none j pos) (tC .non):=λ_ _ _ H _ I h=>Constant_none ⟨.non,H,I,rfl,h⟩
theorem ZX:PE X (.Constant (.str x) j pos) (tC<|.str x):=λ_ _ _ H _ I h=>Calls.Constant_str ⟨.str x,H,I.tok _,⟨_,rfl⟩,h⟩
def Gl (X:Cx)(x:Str):Prop:=X.env.kindOf x=some .globalImplicit
theorem pU (I:Inv X π σ H s)(hg:Gl X x)(hm:X.mg x=some u)(h:Q u s)
  (hd:(x==("__debug__":Str))=false:=by decide):bg (b9 X.prog X.w) X.A (eval (.Name x pos) X.env) Q E s:=
 qq I.ok.kind hg (Calls.loadGlobal_global (by rw[I.ok.glob];exact I.mod.glob.keeps I.bk) hm h) hd
theorem sV (I:Inv X π σ H s)(hg:Gl X x)(hm:X.mg x=none)(hv:b0 x=some u)(h:Q u s)
  (hn:x≠"__name__":=by decide) (hd:(x==("__debug__":Str))=false:=by decide):bg (b9 X.prog X.w) X.A (eval (.Name x pos) X.env) Q E s:=by
 obtain⟨mb,h1,h2⟩:=I.mod.blt;exact qq I.ok.kind hg (Calls.loadGlobal_builtin (by rw[I.ok.glob];exact I.mod.glob.keeps I.bk) hm (by rw[I.ok.blt];exact h1.keeps I.bk) ((h2 x hn).trans hv) h) hd
theorem Fg (hg:Gl X x)(hm:X.mg x=some u)(r:RelV v u)(hd:(x==("__debug__":Str))=false:=by decide):PE X (.Name x pos) (tC v):=
 λ_ _ _ H _ I h=>pU I hg hm ⟨v,H,I,r,h⟩ hd
theorem Ni (hg:Gl X x)(hm:X.mg x=none)(hv:b0 x=some u)(r:RelV v u)(hn:x≠"__name__":=by decide)(hd:(x==("__debug__":Str))=false:=by decide):PE X (.Name x pos) (tC v):=
 λ_ _ _ H _ I h=>sV I hg hm hv ⟨v,H,I,r,h⟩ hn hd
variable {a b:Expr}{ta tb:TE}{pos:Pos}
def PC (X:Cx)(op:CmpOp)(a b:Expr)(t:TE):Prop:=
 ∀(π:Zl) (s:aS) (σ:St) (H:Hp) (Q:VK),Inv X π σ H s->t σ H Q->
  bg (b9 X.prog X.w) X.A (eval a X.env) (λv s₁=>bg (b9 X.prog X.w) X.A (eval b X.env) (λu s₂=>bg (b9 X.prog X.w) X.A (eW op v u) (EP X π σ Q) X.xe s₂) X.xe s₁) X.xe s
theorem aca (b:Expr){op:CmpOp}(h:op≠.In)(h2:op≠.NotIn):iX op b=false:=by
 have e1:(op==CmpOp.In)=false:=by cases op<;>first|rfl|exact absurd rfl h
 have e2:(op==CmpOp.NotIn)=false:=by cases op<;>first|rfl|exact absurd rfl h2
 cases b<;>simp[iX,e1,e2]
def tB (t:TE):TT:=λσ H Q=>t σ H λx H1=>∃c,x=.bl c/\Q c H1
theorem Zq (h:PE X e t)(he:∀whole,isTrue e X.env whole=(do let v←whole;standAt e.pos;yT [v] (truthy v)):=by intro _;rfl):PT X e (tB t):=by
 intro π s σ H Q I hw;refine isTrue_plain (thn (h π s σ H _ I hw) λv s1 hE=>xq2 hE λx H1 I1 r1 q1=>?_)<|he _;obtain⟨d,rfl,q⟩:=q1;cases r1;exact jI ⟨H1,I1,q⟩
variable {tA tB':TT}{rest:List Expr}
def adu (t u:TT):TT:=λσ H Q=>t σ H λc H1=>if c=true then u σ H1 Q else Q false H1
def tOr (t u:TT):TT:=λσ H Q=>t σ H λc H1=>if c=true then Q true H1 else u σ H1 Q
def adp (t:TT):TT:=λσ H Q=>t σ H λc H1=>Q (!c) H1
theorem WY (ha:PT X a tA):PW X (.BoolOp .And [a] pos) tA:=by
 intro wh π s σ H Q I h;refine isTrue_and<|thn (ha π s σ H Q I h) λc s1 e=>?_;cases c with
 |true=>exact isTrue_and_nil e
 |false=>exact e
theorem aaq (ha:PT X a tA):PW X (.BoolOp .Or [a] pos) tA:=by
 intro wh π s σ H Q I h;refine isTrue_or<|thn (ha π s σ H Q I h) λc s1 e=>?_;cases c with
 |false=>exact isTrue_or_nil e
 |true=>exact e
theorem Z9 (ha:PT X a tA)(hb:PW X (.BoolOp .And (b::rest) pos) tB'):PW X (.BoolOp .And (a::b::rest) pos) (adu tA tB'):=by
 intro wh π s σ H Q I h;refine isTrue_and<|thn (ha π s σ H _ I h) λc s1 ⟨H1,I1,q1⟩=>?_;cases c with
 |true=>exact hb wh π s1 σ H1 Q I1 q1
 |false=>exact⟨H1,I1,q1⟩
theorem abG (ha:PT X a tA)(hb:PW X (.BoolOp .Or (b::rest) pos) tB'):PW X (.BoolOp .Or (a::b::rest) pos) (tOr tA tB'):=by
 intro wh π s σ H Q I h;refine isTrue_or<|thn (ha π s σ H _ I h) λc s1 ⟨H1,I1,q1⟩=>?_;cases c with
 |true=>exact⟨H1,I1,q1⟩
 |false=>exact hb wh π s1 σ H1 Q I1 q1
theorem Zg (ha:PT X a tA):PT X (.UnaryOp .Not a pos) (adp tA):=by
 intro π s σ H Q I h;exact isTrue_not<|ha π s σ H (λc H1=>Q (!c) H1) I h
def abu (ta tb:TE):TE:=λσ H Q=>ta σ H λx H1=>∃c,x=.bl c/\if c=true then tb σ H1 Q else Q (.bl false) H1
def adb (ta tb:TE):TE:=λσ H Q=>ta σ H λx H1=>∃c,x=.bl c/\if c=true then Q (.bl true) H1 else tb σ H1 Q
theorem Zc (h:PE X a t):PE X (.BoolOp op [a] pos) t:=λπ s σ H Q I hw=>BoolOp_one<|h π s σ H Q I hw
theorem aa4 (ha:PE X a ta)(hb:PE X (.BoolOp .And (b::rest) pos) tb):PE X (.BoolOp .And (a::b::rest) pos) (abu ta tb):=by
 intro π s σ H Q I h;refine BoolOp_and<|thn (ha π s σ H _ I h) λv s1 hE=>xq2 hE λx H1 I1 r1 q1=>?_;obtain⟨c,rfl,q1⟩:=q1;cases r1;refine jI ?_;cases c with
 |true=>exact hb π s1 σ H1 Q I1 q1
 |false=>exact⟨.bl false,H1,I1,rfl,q1⟩
theorem acD (ha:PE X a ta)(hb:PE X (.BoolOp .Or (b::rest) pos) tb):PE X (.BoolOp .Or (a::b::rest) pos) (adb ta tb):=by
 intro π s σ H Q I h;refine BoolOp_or<|thn (ha π s σ H _ I h) λv s1 hE=>xq2 hE λx H1 I1 r1 q1=>?_;obtain⟨c,rfl,q1⟩:=q1;cases r1;refine jI ?_;cases c with
 |false=>exact hb π s1 σ H1 Q I1 q1
 |true=>exact⟨.bl true,H1,I1,rfl,q1⟩
end
def SqL (K:bb)(H:Hp)(a:Addr)(xs:List V):Prop:=
 Rd H a (.lst xs) ∨
  ∃(o:Obj) (χ:Array av) (n:Nat),K.lookup a=some o/\o.cls=.type "list"/\o.dict=none/\o.data=.seq χ n/\χ.size<=ay/\Vals xs χ.toList
def SqT (K:bb)(H:Hp)(a:Addr)(xs:List V):Prop:=
 Rd H a (.tup xs) ∨
  ∃(o:Obj) (χ:Array av) (n:Nat),K.lookup a=some o/\o.cls=.type "tuple"/\(o.data=.seq χ n/\o.dict=none)/\χ.size<=ay/\Vals xs χ.toList
abbrev KTp (K:bb)(a:Addr)(xs:List V):Prop:=
  ∃(o:Obj) (χ:Array av) (n:Nat),K.lookup a=some o/\o.cls=.type "tuple"/\(o.data=.seq χ n/\o.dict=none)/\χ.size<=ay/\Vals xs χ.toList
def SqU (K:bb)(H:Hp)(a:Addr)(xs:List V):Prop:=H a=some (.tup xs)\/KTp K a xs
theorem SqU.sq {K:bb}{H:Hp}{a:Addr}{xs:List V}(h:SqU K H a xs):SqT K H a xs:=h.elim (λe=>.inl<|.inl e) .inr
theorem SqU.of {K:bb}{H:Hp}{a:Addr}{xs:List V}(h:H a=some (.tup xs)):SqU K H a xs:=.inl h
noncomputable def adT:av->Option V
 | .none=>some .non
 | .bool b=>some<|.bl b
 | .int i _=>some<|.int i
 | .str x _=>some<|.str x
 | .bytes b _=>some<|.byt b
 | .float b _=>some<|.flt b
 | .ref a=>some<|.ref a
 | .type n=>some<|.ty n
 |_=>none
theorem RelV.abs (r:RelV x u):adT u=some x:=by
 cases x with
 |non=>cases r;rfl
 |bl _=>cases r;rfl
 |int _=>obtain⟨t,rfl⟩:=r;rfl
 |str _=>obtain⟨t,rfl⟩:=r;rfl
 |byt _=>obtain⟨t,rfl⟩:=r;rfl
 |flt _=>obtain⟨t,rfl⟩:=r;rfl
 |ref _=>cases r;rfl
 |ty _=>cases r;rfl
theorem RelV.inj (r:RelV x u)(q:RelV y u):x=y:=bX<|r.abs.symm.trans q.abs
theorem Vals.inj:∀{xs ys:List V} {us:List av},Vals xs us->Vals ys us->xs=ys
 |_,_,_,.nil,.nil=>rfl
 |_,_,_,.cons r t,.cons r' t'=>by rw[r.inj r',Vals.inj t t']
section
variable {X:Cx}{π:Zl}{σ:St}{H:Hp}{s:aS}{a:Addr}{xs ys:List V}
theorem SqL.of {K:bb}(h:H a=some (.lst xs)):SqL K H a xs:=.inl<|.inl h
theorem Inv.list (I:Inv X π σ H s)(h:SqL X.K H a xs):∃χ:List av,Vals xs χ/\PlainL s.heap a χ.toArray/\xs.length<=ay:=by
 rcases h with h|⟨o,χ,n,hk,hc,hd,hs,hz,r⟩
 ·obtain⟨z,χ,n,r,e⟩:=h.ok I.hok;exact⟨χ,r,⟨_,n,e,rfl,rfl,rfl⟩,z⟩
 ·refine⟨χ.toList,r,⟨o,n,I.kIn a o hk,hc,hd,by simpa using hs⟩,?_⟩;have e:=r.length;simp only[pz] at e
  lia
theorem Inv.tuple (I:Inv X π σ H s)(h:SqT X.K H a xs):∃χ:List av,Vals xs χ/\IsTup s.heap a χ.toArray/\xs.length<=ay:=by
 rcases h with h|⟨o,χ,n,hk,hc,hs,hz,r⟩
 ·obtain⟨z,χ,r,p⟩:=h.ok I.hok;exact⟨χ,r,p.tup,z⟩
 ·refine⟨χ.toList,r,⟨o,I.kIn a o hk,hc,n,by simpa using hs.1⟩,?_⟩;have e:=r.length;simp only[pz] at e
  lia
theorem Inv.Aj (I:Inv X π σ H s)(h:SqL X.K H a xs)(h':SqL X.K H a ys):xs=ys:=by
 obtain⟨χ,r,⟨o,n,e,_,_,d⟩,_⟩:=I.list h;obtain⟨its',r',⟨o',n',e',_,_,d'⟩,_⟩:=I.list h';rw[e] at e';cases e';rw[d] at d';injection d' with d1 _
 have:χ=its':=by simpa using congrArg vi d1
 subst this;exact r.inj r'
theorem Inv.Ey (I:Inv X π σ H s)(h:SqT X.K H a xs)(h':SqT X.K H a ys):xs=ys:=by
 obtain⟨χ,r,⟨o,e,_,n,d⟩,_⟩:=I.tuple h;obtain⟨its',r',⟨o',e',_,n',d'⟩,_⟩:=I.tuple h';rw[e] at e';cases e';rw[d] at d';injection d' with d1 _
 have:χ=its':=by simpa using congrArg vi d1
 subst this;exact r.inj r'
end
abbrev Cx.wish (X:Cx)(E:Zs):Cx:={ X with xe:=E }
abbrev Cx.nox (X:Cx):Cx:=X.wish λ_ _=>False
theorem Cx.Ok.wish {X:Cx}(ok:X.Ok)(E:Zs):(X.wish E).Ok:=
 ⟨ok.mod,ok.kind,ok.glob,ok.blt,ok.above,ok.inj,ok.has,ok.cab,ok.hd,ok.frames,ok.stk,ok.exf,ok.bs,ok.bsz,ok.noex,ok.exfs,ok.rA,ok.frf⟩
theorem Cx.Ok.GC {X:Cx}(ok:(X.wish E).Ok):X.Ok:=
 ⟨ok.mod,ok.kind,ok.glob,ok.blt,ok.above,ok.inj,ok.has,ok.cab,ok.hd,ok.frames,ok.stk,ok.exf,ok.bs,ok.bsz,ok.noex,ok.exfs,ok.rA,ok.frf⟩
section
variable {X:Cx}{π:Zl}{σ:St}{H:Hp}{s:aS}{E:Zs}
theorem Inv.wish (I:Inv X π σ H s)(E:Zs):Inv (X.wish E) π σ H s:=⟨I.ok.wish E,I.os,I.bare,I.base,I.loc,I.cell,I.free,I.freeC,I.pin,I.hok,I.len⟩
theorem Inv.GC (I:Inv (X.wish E) π σ H s):Inv X π σ H s:=⟨I.ok.GC,I.os,I.bare,I.base,I.loc,I.cell,I.free,I.freeC,I.pin,I.hok,I.len⟩
end
section
variable {X:Cx}{st:Stmt}{rest:List Stmt}{t u:TS}{e:Expr}{te:TE}{pos:Pos}
def ab9:TS:=λD σ H=>D.nx σ H
def abC (t u:TS):TS:=λD σ H=>t { D with nx:=u D } σ H
theorem VB:PSs X [] ab9:=λ_ _ σ H _ I h=>kQ ⟨σ,H,I,h⟩
theorem HQ (h1:PS X st t)(h2:PSs X rest u):PSs X (st::rest) (abC t u):=by
 intro π s σ H D I h;refine tF<|thn (h1 π s σ H { D with nx:=u D } I h) λf s1 q=>?_;cases f with
 |next=>
  obtain⟨σ',H',I',q⟩:=q;exact h2 π s1 σ' H' D I' q
 |ret v=>exact q
 |brk=>exact q
 |cont=>exact q
theorem Ab (h1:PS X st t):PSs X [st] t:=by
 intro π s σ H D I h;refine tF<|thn (h1 π s σ H D I h) λf s1 q=>?_;cases f with
 |next=>exact kQ q
 |ret v=>exact q
 |brk=>exact q
 |cont=>exact q
theorem Inv.quiet (I:Inv X π σ H s):interactive X.env=false:=by simp[interactive,I.ok.kind]
def ab2 (te:TE):TS:=λD σ H=>te σ H λ_ H1=>D.nx σ H1
theorem Ag (he:PE X e te)(hs:fR e none pos.line X.env=pure false:=by rfl):PS X (.Expr e pos) (ab2 te):=by
 intro π s σ H D I h;exact wpAny_Expr_any (thn (he π s σ H _ I h) λv s1 hE=>xq2 hE λx H1 I1 r1 q1=>⟨σ,H1,I1,q1⟩) I.quiet hs
def adJ (te:TE):TS:=λD σ H=>te σ H D.rt
theorem KY (he:PE X e te):PS X (.Return (some e) pos) (adJ te):=by
 intro π s σ H D I h;exact wpAny_Return_some<|thn (he π s σ H _ I h) λv s1 hE=>xq2 hE λx H1 I1 r1 q1=>⟨x,σ,H1,I1,r1,q1⟩
def adS (c:TT)(t u:TS):TS:=λD σ H=>c σ H λb H1=>if b=true then t D σ H1 else u D σ H1
theorem abI (hc:PT X c tc)(ha:PSs X a t)(hb:PSs X b u):PS X (.If c a b pos) (adS tc t u):=by
 intro π s σ H D I h;refine wpAny_If<|thn (hc π s σ H _ I h) λd s1 ⟨H1,I1,q1⟩=>?_;cases d with
 |true=>exact ha π s1 σ H1 D I1 q1
 |false=>exact hb π s1 σ H1 D I1 q1
end
abbrev TG:=V->St->Hp->(St->Hp->Prop)->Prop
abbrev TGs:=List V->St->Hp->(St->Hp->Prop)->Prop
def PG (X:Cx)(target:Expr)(t:TG):Prop:=
 ∀(π:Zl) (s:aS) (σ:St) (H:Hp) (v:V) (u:av) (Q:St->Hp->Prop),Inv X π σ H s->RelV v u->t v σ H Q->
  bg (b9 X.prog X.w) X.A (vj target X.env u) (λ_ s'=>∃σ' H',Inv X π σ' H' s'/\Q σ' H') X.xe s
def PGs (X:Cx)(ts:List Expr)(t:TGs):Prop:=
 ∀(π:Zl) (s:aS) (σ:St) (H:Hp) (vs:List V) (us:List av) (Q:St->Hp->Prop),Inv X π σ H s->Vals vs us->t vs σ H Q->
  bg (b9 X.prog X.w) X.A (zw ((jS ts X.env).map (·.2)) us) (λ_ s'=>∃σ' H',Inv X π σ' H' s'/\Q σ' H') X.xe s
abbrev abD:=V->V->V->Hp->(Hp->Prop)->Prop
def abn (X:Cx)(t:abD):Prop:=
 ∀(π:Zl) (s:aS) (σ:St) (H:Hp) (o i v:V) (ov iv u:av) (Q:Hp->Prop),Inv X π σ H s->RelV o ov->RelV i iv->RelV v u->t o i v H Q->
  bg (b9 X.prog X.w) X.A (setItem ov iv u) (λ_ s'=>∃H',Inv X π σ H' s'/\Q H') X.xe s
section
def BX (i:Nat):TG:=λv σ H Q=>Q (σ.set i<|some v) H
theorem Xg (hN:X.N.Nodup)(hi:X.N[i]? = some x)(hx:Loc X.env.scope x)(hf:X.fn x=true\/X.env.scope.names.lookup x=some .local:=by first|exact .inl rfl|exact .inr rfl|assumption):PG X (.Name x pos) (BX i):=by
 intro π s σ H v u Q I r h;exact wpAny_assign_Name<|qT I hN hi hx r (λs' I'=>⟨_,H,I',h⟩) hf
def adD:TGs:=λvs σ H Q=>vs=[]/\Q σ H
def abt (t:TG)(u:TGs):TGs:=λvs σ H Q=>∃v r,vs=v::r/\t v σ H λσ' H'=>u r σ' H' Q
theorem W7:PGs X [] adD:=by
 intro π s σ H vs us Q I r h;obtain⟨e,h⟩:=h;subst e;cases r;exact assignInOrder_nil ⟨σ,H,I,h⟩
theorem U5 (h1:PG X e t)(h2:PGs X es u)
  (hs:(jS (e::es) X.env).map (·.2)=vj e X.env::(jS es X.env).map (·.2):=by rfl):PGs X (e::es) (abt t u):=by
 intro π s σ H vs us Q I r h;obtain⟨v,vr,e1,h⟩:=h;subst e1;cases r with
 |cons r rr=>
  rw[hs];refine qS<|thn (h1 π s σ H _ _ _ I r h) λ_ s1 hE=>?_;obtain⟨σ1,H1,I1,q1⟩:=hE;exact h2 π s1 σ1 H1 _ _ Q I1 rr q1
def adI (K:bb)(n:Nat)(t:TGs):TG:=λv σ H Q=>∃a xs,v=.ref a/\SqT K H a xs/\xs.length=n/\t xs σ H Q
theorem aaj (hc:X.calm=true)(h:PGs X es t)
  (hn:(jS es X.env).length=n:=by rfl) (hst:(jS es X.env).findIdx? (·.1)=none:=by rfl):PG X (.Tuple es k pos) (adI X.K n t):=by
 intro π s σ H v u Q I r hw;obtain⟨a,xs,e1,hq,hl,hw⟩:=hw;subst e1;cases r;obtain⟨χ,rv,ht,hz⟩:=I.tuple hq;refine assign_Tuple_tuple (I.ok.hd hc) ht (by simp[hn,← hl,rv.length]) hst λh' hx=>?_;have I1:Inv X π σ H { s with heap:=h' }:=I.kept (t':=s.toks) λb o e=>hx b o (bp<|aw e) e;exact h π _ σ H xs _ Q I1 (by simpa using rv) hw
noncomputable def mj (to ti:TE)(t:abD):TG:=λv σ H Q=>to σ H λo H1=>ti σ H1 λi H2=>t o i v H2 λH3=>Q σ H3
theorem aaI (ho:PE X o to)(hi:PE X i ti)(hs:abn X t)
  (ha:∀v,vj (.Subscript o i pos) X.env v=(do
   let ov←yT [v] (eval o X.env)
   let iv←yT [v,ov] (eval i X.env)
   standAt pos
   yT [v,ov,iv] (setItem ov iv v)
   release [v,ov,iv] []):=by intro _;rfl):PG X (.Subscript o i pos) (mj to ti t):=by
 intro π s σ H v u Q I r h;rw[ha];refine ae<|gX<|thn (ho π s σ H _ I h) λov s1 hE=>xq2 hE λx H1 I1 r1 q1=>?_;refine ae<|gX<|thn (hi π s1 σ H1 _ I1 q1) λiv s2 hE=>xq2 hE λy H2 I2 r2 q2=>?_;refine ae<|k9<|ae<|gX<|thn (hs π s2 σ H2 x y v ov iv u _ I2 r1 r2 r q2) λ_ s3 ⟨H3,I3,q3⟩=>?_;exact wpAny_release ⟨σ,H3,I3,q3⟩
def Sd (te:TE)(g:TG):TS:=λD σ H=>te σ H λx H1=>g x σ H1 D.nx
theorem Vh (he:PE X e te)(hg:PG X tg g)(hs:pd [tg] e pos.line X.env=pure false:=by rfl)(hw:pe [tg] e X.env=pure none:=by rfl)
  (h1:(jS [tg] X.env).map (·.2)=[vj tg X.env]:=by rfl):PS X (.Assign [tg] e pos) (Sd te g):=by
 intro π s σ H D I h;refine wpAny_Assign_stores (thn (he π s σ H _ I h) λv s1 hE=>xq2 hE λx H1 I1 r1 q1=>?_) hs hw;rw[h1];exact thn (hg π s1 σ H1 x v _ I1 r1 q1) λ_ s2 q=>q
theorem Cr (hN:X.N.Nodup)(hi:X.N[i]? = some x)(hx:Loc X.env.scope x)(he:PE X e te)(hs:fR e (some<|.Name x pos') pos.line X.env=pure false:=by rfl)(hf:X.fn x=true\/X.env.scope.names.lookup x=some .local:=by first|exact .inl rfl|exact .inr rfl|assumption):
  PS X (.Assign [.Name x pos'] e pos) (Sd te<|BX i):=by
 intro π s σ H D I h;refine wpAny_Assign_Name (thn (he π s σ H _ I h) λv s1 hE=>xq2 hE λy H1 I1 r1 q1=>?_) hs;exact qT I1 hN hi hx r1 (λs2 I2=>⟨_,H1,I2,q1⟩) hf
def adO (i j:Nat)(ta:TA):TS:=λD σ H=>ta σ H λvs H1=>∃v w,vs=[v,w]/\D.nx ((σ.set i<|some v).set j<|some w) H1
theorem Zt (hc:X.calm=true)(hN:X.N.Nodup)(hi:X.N[i]? = some x)(hj:X.N[j]? = some y)(hij:i≠j)
  (hx:X.env.scope.names.lookup x=some .local) (hy:X.env.scope.names.lookup y=some .local) (ha:PA X [a,b] ta)
  (hw:pe [.Tuple [.Name x px,.Name y py] kt pt] (.Tuple [a,b] k2 pt2) X.env=pure (some [x,y]))
  (hs:pd [.Tuple [.Name x px,.Name y py] kt pt] (.Tuple [a,b] k2 pt2) pos.line X.env=pure false:=by rfl):
  PS X (.Assign [.Tuple [.Name x px,.Name y py] kt pt] (.Tuple [a,b] k2 pt2) pos) (adO i j ta):=by
 intro π s σ H D I h;rw[exec_Assign_arm];refine ae<|k9 ?_;rw[hs];refine ae<|ah ?_;rw[if_neg<|by decide];refine ae<|Tuple_<|thn (ha _ π s σ H _ I h) λus s1 hE=>xq2 hE λvs H1 I1 r1 q1=>?_;obtain⟨v,w,e1,q1⟩:=q1;subst e1;obtain⟨u1,u2,rfl,rv,rw'⟩:∃u1 u2,us=[u1,u2]/\RelV v u1/\RelV w u2:=by
  cases r1 with
  |cons p q=>
   cases q with
   |cons p' q'=>
    cases q';exact⟨_,_,rfl,p,p'⟩
 refine eC ?_ (by show 2<=ay;decide);have I2:Inv X π σ H1 { s1 with heap:=s1.heap.push { cls:=.type "tuple",data:=.seq [u1,u2].toArray } }:=I1.kept (t':=s1.toks) λb o e=>af _ e;rw[hw];refine ae<|ah ?_;show bg (b9 X.prog X.w) X.A (do rule "assign.swapped-stores";let items←unpackItems (.ref s1.heap.objs.size) 2 none;zw [λv=>A5 X.env y v,λv=>A5 X.env x v] items.reverse;pure Flow.next) _ _ _;refine ae<|pj<|ae<|unpackItems_tuple (items:=#[u1,u2]) (I.ok.hd hc) (IsTup.new s1.heap _) λh' hx'=>?_;have I3:=I2.kept (h':=h') (t':=s1.toks) λb o e=>hx' b o (bp<|aw e) e;show bg _ _ (zw [λv=>A5 X.env y v,λv=>A5 X.env x v] [u2,u1] >>= λ_=>pure Flow.next) _ _ _;refine ae<|qS<|wpAny_bindName<|qT I3 hN hj (.inl hy) rw' (λs2 I4=>?_)<|.inr hy;refine qS<|wpAny_bindName<|qT I4 hN hi (.inl hx) rv (λs3 I5=>assignInOrder_nil<|ah ?_)<|.inr hx;rw[List.set_comm _ _<|iP hij] at I5;exact⟨_,H1,I5,q1⟩
end
section
def ZV (c:TT)(tb:TS):TS:=λD σ H=>∃W:Nat->St->Hp->Prop,(∃m,W m σ H)/\∀m σ H,W m σ H->
 c σ H λb H1=>if b=true then ∃N:St->Hp->Prop,(∀σ' H',N σ' H'->∃m',m'<m/\W m' σ' H')/\tb { D with nx:=N,ct:=N,bk:=D.nx } σ H1 else D.nx σ H1
theorem T3 (hp:vv (b9 X.prog X.w) X.A X.env X.xe)(hc:PT X c tc)(hb:PSs X body tb):PS X (.While c body [] pos) (ZV tc tb):=by
 intro π s σ H D I h;obtain⟨W,⟨m0,w0⟩,turn⟩:=h;refine wpAny_While<|codeAny_whileLoop (λn s'=>∃σ' H',Inv X π σ' H' s'/\W n σ' H') ?_ m0 ⟨σ,H,I,w0⟩;rintro n s1 ⟨σ1,H1,I1,w1⟩;refine j3 hp<|thn (hc π s1 σ1 H1 _ I1<|turn n σ1 H1 w1) λb s2 ⟨H2,I2,q2⟩=>?_;cases b with
 |true=>
  obtain⟨N,hN,q2⟩:=q2;rw[if_pos rfl];refine j3 hp<|thn (hb π s2 σ1 H2 _ I2 q2) λf s3 q3=>?_;cases f with
  |next=>
   obtain⟨σ3,H3,I3,n3⟩:=q3;obtain⟨m',hm,w3⟩:=hN σ3 H3 n3;exact⟨m',hm,σ3,H3,I3,w3⟩
  |cont=>
   obtain⟨σ3,H3,I3,n3⟩:=q3;obtain⟨m',hm,w3⟩:=hN σ3 H3 n3;exact⟨m',hm,σ3,H3,I3,w3⟩
  |brk=>exact q3
  |ret v=>exact q3
 |false=>
  rw[if_neg aE];exact kQ ⟨σ1,H2,I2,q2⟩
end
structure It where
 go:Nat->Hp->Prop
 yld:Nat->Hp->V->Hp->Prop
 stop:Nat->Hp->Prop
def yQ (X:Cx)(π:Zl)(H:Hp)(b:Addr):Prop:=
 H b=none/\b≠X.env.locals/\b∉X.fs/\(b∈X.ex\/X.s₀.heap.objs.size<=b)/\(∀x c,X.env.cells.lookup x=some c->c≠b)/\∀p∈X.pn++π,p.1≠b
theorem Inv.KH (I:Inv X π σ H s)(hb:s.heap.objs.size<=b)(hn:H' b=none):yQ X π H' b:=by
 refine⟨hn,nN<|cb I.lt hb,I.adG hb,.inr<|cy I.sz hb,λx c e z=>?_,λp hp z=>?_⟩
 ·obtain⟨v,q⟩:=I.cell x c e;exact absurd (cb q.lt (by rw[z];exact hb))<|eT _
 ·exact absurd (cb (aw (I.pin p hp).1) (by rw[z];exact hb))<|eT _
abbrev Calm (X:Cx):Prop:=X.calm=true
structure Turn (Cm:Cx->Prop)(P:bo)(w:dc)(K:bb)(tg:Expr)(J:It)(fp:List Addr)(it:Addr)(tn:Nat->Heap->Prop):Prop where
 mem:it∈fp
 obj:∀i h,tn i h->∀b∈fp,∃o,h.get? b=some o/\∀v,o.data≠.cell v
 keep:∀i h h',tn i h->(∀b∈fp,∀o,h.get? b=some o->h'.get? b=some o)->tn i h'
 item:∀(X:Cx),X.prog=P->X.w=w->X.K=K->Cm X->∀(i:Nat) (π:Zl) (s:aS) (σ:St) (H:Hp) (E:Zs),Inv X π σ H s->(∀b∈fp,yQ X π H b)->tn i s.heap->J.go i H->
  bg (b9 P w) X.A (zC (.ref it)) (λr s1=>∃u,r=some u/\
   bg (b9 P w) X.A (vx tg (.ref it) u) (λ_ s2=>∃x H',Inv X π σ H' s2/\RelV x u/\J.yld i H x H'/\tn (i+1) s2.heap/\∀b∈fp,H' b=none) E s1) E s
 done:∀(X:Cx),X.prog=P->X.w=w->X.K=K->Cm X->∀(i:Nat) (π:Zl) (s:aS) (σ:St) (H:Hp) (E:Zs),Inv X π σ H s->(∀b∈fp,yQ X π H b)->tn i s.heap->J.stop i H->
  bg (b9 P w) X.A (zC (.ref it)) (λr s1=>r=none/\Inv X π σ H s1) E s
 self:∀(A:dy) (i:Nat) (s:aS) (Q:Zs) (E:Zs),tn i s.heap->Q (.ref it) s->bg (b9 P w) A (pyIter (.ref it)) Q E s
abbrev TI:=St->Hp->(It->Hp->Prop)->Prop
def PIE (Cm:Cx->Prop)(X:Cx)(π:Zl)(σ:St)(tg:Expr)(R:It->Hp->Prop)(itv:av)(s2:aS):Prop:=
 ∃(it:Addr) (fp:List Addr) (tn:Nat->Heap->Prop) (J:It) (H':Hp),itv=.ref it/\Inv X π σ H' s2/\Turn Cm X.prog X.w X.K tg J fp it tn/\tn 0 s2.heap/\(∀b∈fp,yQ X π H' b)/\R J H'
def PI (Cm:Cx->Prop)(X:Cx)(tg iter:Expr)(wi:TI):Prop:=
 ∀(π:Zl) (s:aS) (σ:St) (H:Hp) (R:It->Hp->Prop),Inv X π σ H s->wi σ H R->
  bg (b9 X.prog X.w) X.A (eval iter X.env) (λv s1=>bg (b9 X.prog X.w) X.A (pyIter v) (PIE Cm X π σ tg R) X.xe s1) X.xe s
theorem DG (ho : s.heap.get? it = some o) (hc : o.cls = .type n) (hd : o.data = .fields vs)
    (hn : ["enumerate", "zip", "dict_itemiterator", "dict_reverseitemiterator", "odict_iterator", "itertools.zip_longest", "itertools.pairwise"].contains n = false) (hQ : Q () s) : bg M A (vx tg (.ref it) u) Q E s := by
  unfold vx;cases tg<;>first
    | exact ah hQ
    | (cases u<;>first
        | exact ah hQ
        | (refine ae (wpAny_load ho ?_)
           rw [hc, hd];show bg M A (if (["enumerate", "zip", "dict_itemiterator", "dict_reverseitemiterator", "odict_iterator", "itertools.zip_longest", "itertools.pairwise"].contains n && vs[0]? == some (vE _)) = true then _ else _) Q E s;rw [if_neg (by intro h;rw [hn, Bool.false_and] at h;cases h)];exact ah hQ))
def Itl (K:bb)(a:Addr):It:=
 ⟨λi H=>∃xs x,SqL K H a xs/\xs[i]? = some x,λi H x H'=>H'=H/\∀xs,SqL K H a xs->xs[i]? = some x,λi H=>∃xs,SqL K H a xs/\xs.length<=i⟩
def Itt (K:bb)(a:Addr):It:=
 ⟨λi H=>∃xs x,SqT K H a xs/\xs[i]? = some x,λi H x H'=>H'=H/\∀xs,SqT K H a xs->xs[i]? = some x,λi H=>∃xs,SqT K H a xs/\xs.length<=i⟩
def Itr (lo:Int)(n:Nat):It:=⟨λi _=>i<n,λi H x H'=>H'=H/\x=.int (lo+i),λi _=>n<=i⟩
theorem Qw {P:bo}{w:dc}{K:bb}{tg:Expr}(a it:Addr):Turn Calm P w K tg (Itl K a) [it] it (λi h=>h.IsListIter it a i) where
 mem:=by simp
 obj:=λi h st b hb=>by
  have e:b=it:=by simpa using hb
  subst e;obtain⟨o,e,c,d⟩:=st;exact⟨o,e,λv z=>by rw[d] at z;cases z⟩
 keep:=λi h h' st k=>st.at λo e=>k it (by simp) o e
 item:=by
  intro X hP hw hK hc i π s σ H E I hf st hg;subst hP hw hK;obtain⟨xs,x,hq,hx⟩:=hg;obtain⟨χ,rv,p,hz⟩:=I.list hq;obtain⟨u,hu,ru⟩:=rv.get hx;refine ur (hf it<|by simp) λf0 f1 f2 f3 f4 f5=>?_;refine mB st p.isList (x:=u) (by simpa using hu) λh' st' sb=>?_;have I1:Inv X π σ H { s with heap:=h' }:=I.turned (t':=s.toks) (λb o hb e=>(sb.2 b hb).trans e) f0 f1 f3 f4 f5;obtain⟨o,e,c,d⟩:=id st';exact⟨u,rfl,DG (s:={ s with heap:=h' }) e c d (by decide) ⟨x,H,I1,ru,⟨rfl,λys hy=>by rw[I.Aj hy hq];exact hx⟩,st',λb hb=>(hf b hb).1⟩⟩
 done:=by
  intro X hP hw hK hc i π s σ H E I hf st hg;subst hP hw hK;obtain⟨xs,hq,hx⟩:=hg;obtain⟨χ,rv,p,hz⟩:=I.list hq;refine ur (hf it<|by simp) λf0 f1 f2 f3 f4 f5=>?_;have hl:=rv.length;exact wpAny_pyNext_list_end (I.ok.hd hc) st p.isList (by simp;lia) λh' eb=>⟨rfl,I.turned (t':=s.toks) (λb o hb e=>eb b o hb e) f0 f1 f3 f4 f5⟩
 self:=λ_ _ _ _ _ st h=>nV st h
theorem Ky {P:bo}{w:dc}{K:bb}{tg:Expr}(a it:Addr):Turn Calm P w K tg (Itt K a) [it] it (λi h=>h.IsTupleIter it a i) where
 mem:=by simp
 obj:=λi h st b hb=>by
  have e:b=it:=by simpa using hb
  subst e;obtain⟨o,e,c,d⟩:=st;exact⟨o,e,λv z=>by rw[d] at z;cases z⟩
 keep:=λi h h' st k=>st.at λo e=>k it (by simp) o e
 item:=by
  intro X hP hw hK hc i π s σ H E I hf st hg;subst hP hw hK;obtain⟨xs,x,hq,hx⟩:=hg;obtain⟨χ,rv,p,hz⟩:=I.tuple hq;obtain⟨u,hu,ru⟩:=rv.get hx;refine ur (hf it<|by simp) λf0 f1 f2 f3 f4 f5=>?_;refine wpAny_pyNext_tuple_item st (show s.heap.IsTuple a χ.toArray from p) (x:=u) (by simpa using hu) λh' st' sb=>?_;have I1:Inv X π σ H { s with heap:=h' }:=I.turned (t':=s.toks) (λb o hb e=>(sb.2 b hb).trans e) f0 f1 f3 f4 f5;obtain⟨o,e,c,d⟩:=id st';exact⟨u,rfl,DG (s:={ s with heap:=h' }) e c d (by decide) ⟨x,H,I1,ru,⟨rfl,λys hy=>by rw[I.Ey hy hq];exact hx⟩,st',λb hb=>(hf b hb).1⟩⟩
 done:=by
  intro X hP hw hK hc i π s σ H E I hf st hg;subst hP hw hK;obtain⟨xs,hq,hx⟩:=hg;obtain⟨χ,rv,p,hz⟩:=I.tuple hq;refine ur (hf it<|by simp) λf0 f1 f2 f3 f4 f5=>?_;have hl:=rv.length;exact wpAny_pyNext_tuple_end (I.ok.hd hc) st (show s.heap.IsTuple a χ.toArray from p) (by simp;lia) λh' eb=>⟨rfl,I.turned (t':=s.toks) (λb o hb e=>eb b o hb e) f0 f1 f3 f4 f5⟩
 self:=λ_ _ _ _ _ st h=>wpAny_pyIter_tupleiter st h
theorem J0 {P:bo}{w:dc}{K:PySem.W.Frag}{tg:Expr}(it:Addr)(lo:Int)(n:Nat):Turn Calm P w K tg (Itr lo n) [it] it (λi h=>yY h it (lo+(i:Nat)*1) ((n:Int)-(i:Nat)) 1) where
 mem:=by simp
 obj:=λi h st b hb=>by
  have e:b=it:=by simpa using hb
  subst e;exact⟨_,st,λv z=>by
   have z':Bi _=Data.cell v:=z;cases z'⟩
 keep:=λi h h' st k=>k it (by simp) _ st
 item:=by
  intro X hP hw hK hc i π s σ H E I hf st hg;subst hP hw hK;refine ur (hf it<|by simp) λf0 f1 f2 f3 f4 f5=>?_;have W:=Walks.range (prog:=X.prog) (w:=X.w) (I.ok.hd hc) it lo 1 n;refine W.item i s _ _ hg st λv h' tk hv st' kk=>?_;obtain⟨t,rfl⟩:=hv;have I1:Inv X π σ H { s with heap:=h',toks:=tk }:=I.turned (λb o hb e=>kk b o (by simpa using hb) e) f0 f1 f3 f4 f5;refine⟨_,rfl,DG (s:={ s with heap:=h',toks:=tk }) (n:="range_iterator") st' rfl rfl (by decide) ⟨.int<|lo+i,H,I1,⟨t,?_⟩,⟨rfl,rfl⟩,st',λb hb=>(hf b hb).1⟩⟩;rw[Int.mul_one]
 done:=by
  intro X hP hw hK hc i π s σ H E I hf st hg;subst hP hw hK;refine ur (hf it<|by simp) λf0 f1 f2 f3 f4 f5=>?_;exact wpAny_pyNext_range_end (I.ok.hd hc) st (by have:n<=i:=hg;lia) λh' eb=>⟨rfl,I.turned (t':=s.toks) (λb o hb e=>eb b o hb e) f0 f1 f3 f4 f5⟩
 self:=λ_ _ _ _ _ st h=>wpAny_pyIter_rangeiter st h
section
variable {X:Cx}{tg:Expr}
def Yl (K:bb)(tl:TE):TI:=λσ H R=>tl σ H λx H1=>∃a,x=.ref a/\(∃xs,SqL K H1 a xs)/\R (Itl K a) H1
def acj (K:bb)(tl:TE):TI:=λσ H R=>tl σ H λx H1=>∃a,x=.ref a/\(∃xs,SqT K H1 a xs)/\R (Itt K a) H1
theorem Ox {l:Expr}{tl:TE}(hl:PE X l tl):PI Calm X tg l (Yl X.K tl):=by
 intro π s σ H R I h;refine thn (hl π s σ H _ I h) λv s1 hE=>xq2 hE λx H1 I1 r1 q1=>?_;obtain⟨a,e,⟨xs,hq⟩,q⟩:=q1;subst e;cases r1;obtain⟨χ,rv,p,hz⟩:=I1.list hq;refine la p.isList ?_;refine⟨s1.heap.objs.size,[s1.heap.objs.size],_,_,H1,rfl,I1.kept (t':=s1.toks) λb o e=>af _ e,Qw a _,⟨_,a7 _ rfl,rfl,rfl⟩,λb hb=>?_,q⟩;have e:b=s1.heap.objs.size:=by simpa using hb
 subst e;exact I1.KH (aI _)<|I1.hok.fresh<|aI _
theorem aaL {l:Expr}{tl:TE}(hl:PE X l tl):PI Calm X tg l (acj X.K tl):=by
 intro π s σ H R I h;refine thn (hl π s σ H _ I h) λv s1 hE=>xq2 hE λx H1 I1 r1 q1=>?_;obtain⟨a,e,⟨xs,hq⟩,q⟩:=q1;subst e;cases r1;obtain⟨χ,rv,p,hz⟩:=I1.tuple hq;refine wpAny_pyIter_tuple (show s1.heap.IsTuple a χ.toArray from p) ?_;refine⟨s1.heap.objs.size,[s1.heap.objs.size],_,_,H1,rfl,I1.kept (t':=s1.toks) λb o e=>af _ e,Ky a _,⟨_,a7 _ rfl,rfl,rfl⟩,λb hb=>?_,q⟩;have e:b=s1.heap.objs.size:=by simpa using hb
 subst e;exact I1.KH (aI _)<|I1.hok.fresh<|aI _
theorem HN {π:Zl}{σ:St}{H:Hp}{s:aS}{R:It->Hp->Prop}{E:Zs}{lo hi:Int}{t u v:Tok}{tk:Nat}(I:Inv X π σ H s)(h1:-(2^62)<=lo)(h2:lo<2^62)(h3:-(2^62)<=hi)(h4:hi<2^62)
  (q:R (Itr lo (hi-lo).toNat) H):bg (b9 X.prog X.w) X.A (pyIter<|.ref s.heap.objs.size) (PIE Calm X π σ tg R) E { s with heap:=s.heap.push { cls:=.type "range",data:=.fields #[.int lo t,.int hi u,.int 1 v] },toks:=tk }:=by
 refine wpAny_pyIter_range (IsRange.new ..) (small_one h1 h2 h3 h4) ?_;have I1:Inv X π σ H { s with heap:=s.heap.push { cls:=.type "range",data:=.fields #[.int lo t,.int hi u,.int 1 v] },toks:=tk }:=I.kept λb o e=>af _ e;refine⟨(s.heap.push { cls:=.type "range",data:=.fields #[.int lo t,.int hi u,.int 1 v] }).objs.size,[(s.heap.push { cls:=.type "range",data:=.fields #[.int lo t,.int hi u,.int 1 v] }).objs.size],_,_,H,rfl,
  I1.kept (t':=tk) λb o e=>af _ e,J0 _ lo (hi-lo).toNat,?_,λb hb=>?_,q⟩
 ·have e1:lo+((0:Nat):Int)*1=lo:=by simp
  have e2:(((hi-lo).toNat:Nat):Int)-((0:Nat):Int)=ku lo hi 1:=by rw[rangeSize_one];split<;>lia
  show yY _ _ (lo+((0:Nat):Int)*1) ((((hi-lo).toNat:Nat):Int)-((0:Nat):Int)) 1;rw[e1,e2];exact a7 _ rfl
 ·have e:b=(s.heap.push { cls:=.type "range",data:=.fields #[.int lo t,.int hi u,.int 1 v] }).objs.size:=by simpa using hb
  subst e;exact I1.KH (aI _)<|I1.hok.fresh<|aI _
def acy (ta:TA):TI:=λσ H R=>ta σ H λvs H1=>∃j:Int,vs=[.int j]/\-(2^62)<=j/\j<2^62/\R (Itr 0 j.toNat) H1
def abA (ta:TA):TI:=λσ H R=>ta σ H λvs H1=>∃i j:Int,vs=[.int i,.int j]/\(-(2^62)<=i/\i<2^62/\-(2^62)<=j/\j<2^62)/\R (Itr i (j-i).toNat) H1
theorem Qh (hg:Gl X "range")(hm:X.mg "range" = none)(ha:PA X [a] ta)(hs:ag [a] X.env=[(false,eval a X.env)]:=by rfl):PI Calm X tg (.Call (.Name "range" p) [a] [] pos) (acy ta):=by
 intro π s σ H R I h;refine Call_<|sV I hg hm boot_range<|eD (thn (ha pos π s σ H _ I h) λus s1 hE=>xq2 hE λvs H1 I1 r1 q1=>?_) hs rfl;obtain⟨j,e,q1,q2,q⟩:=q1;subst e;cases r1 with
 |cons r rr=>
  cases rr;obtain⟨t,rfl⟩:=r;exact call_range_1<|HN I1 (by lia) (by lia) q1 q2<|by simpa using q
theorem Ql (hg:Gl X "range")(hm:X.mg "range" = none)(ha:PA X [a,b] ta)(hs:ag [a,b] X.env=[(false,eval a X.env),(false,eval b X.env)]:=by rfl)(hs2:ag [b] X.env=[(false,eval b X.env)]:=by rfl):
  PI Calm X tg (.Call (.Name "range" p) [a,b] [] pos) (abA ta):=by
 intro π s σ H R I h;refine Call_<|sV I hg hm boot_range<|eD (thn (ha pos π s σ H _ I h) λus s1 hE=>xq2 hE λvs H1 I1 r1 q1=>?_) (by rw[hs,hs2]) (by rw[hs2];rfl);obtain⟨i,j,e,⟨q1,q2,q3,q4⟩,q⟩:=q1;subst e;cases r1 with
 |cons r rr=>
  cases rr with
  |cons r' rr=>
   cases rr;obtain⟨t,rfl⟩:=r;obtain⟨t',rfl⟩:=r';exact call_range_2<|HN I1 q1 q2 q3 q4 q
def adg (wi:TI)(g:TG)(tb:TS):TS:=λD σ H=>wi σ H λJ H1=>∃W:Nat->Nat->St->Hp->Prop,(∃m,W 0 m σ H1)/\∀i m σ H,W i m σ H->
 (J.stop i H/\D.nx σ H)\/(J.go i H/\∃N:St->Hp->Prop,(∀σ' H',N σ' H'->∃m',m'<m/\W (i+1) m' σ' H')/\∀x H',J.yld i H x H'->g x σ H' λσ2 H2=>tb { D with nx:=N,ct:=N,bk:=D.nx } σ2 H2)
noncomputable def wO (fp:List Addr)(h:Heap):Zl:=fp.filterMap λb=>(h.get? b).map λo=>(b,o)
theorem sI (hb:b∈fp)(e:h.get? b=some o):(b,o)∈wO fp h:=ib.mpr ⟨b,hb,by rw[e];rfl⟩
theorem PN (hp:p∈wO fp h):p.1∈fp/\h.get? p.1=some p.2:=by
 obtain⟨b,hb,e⟩:=ib.mp hp;cases q:h.get? b with
 |none=>rw[q] at e;cases e
 |some o=>
  rw[q] at e;have e':(b,o)=p:=bX e;subst e';exact⟨hb,q⟩
theorem Inv.pinned (I:Inv X π σ H s)(hf:∀b∈fp,yQ X π H b)(ho:∀b∈fp,∃o,s.heap.get? b=some o/\∀v,o.data≠.cell v):Inv X (π++wO fp s.heap) σ H s:=
 I.Ma λp hp=>(cS.mp hp).elim (λz=>I.pin p<|dA _ z) λz=>by
  obtain⟨hb,e⟩:=PN z;obtain⟨f0,f1,f2,_⟩:=hf p.1 hb;obtain⟨o,e',d⟩:=ho p.1 hb;rw[e] at e';cases e';exact⟨e,f0,f1,f2,d⟩
theorem Inv.xu (I:Inv X (π++pl) σ H s):Inv X π σ H s:=I.Ma λp hp=>I.pin p<|dA _<|xI _ hp
theorem ZJ (hp:vv (b9 X.prog X.w) X.A X.env X.xe){Cm:Cx->Prop}(hc:Cm X)(hi:PI Cm X tg iter wi)(hg:PG X tg g)(hb:PSs X body tb)
  (hs:∀x,gN iter X.env x=pure x:=by intro _;rfl):PS X (.For tg iter body [] pos) (adg wi g tb):=by
 intro π s σ H D I h;refine wpAny_For (thn (hi π s σ H _ I h) λv s1 h1=>thn h1 λitv s2 h2=>?_) hs;obtain⟨it,fp,tn,J,H2,e,I2,T,st2,f2,W,⟨m0,w0⟩,turn⟩:=h2;subst e;have stat:∀{H':Hp},(∀b∈fp,H' b=none)->∀b∈fp,yQ X π H' b:=λhn b hb=>⟨hn b hb,(f2 b hb).2⟩;refine codeAny_forLoop_any (λn s'=>∃i σ' H',Inv X π σ' H' s'/\tn i s'.heap/\(∀b∈fp,H' b=none)/\W i n σ' H') ?_ m0 ⟨0,σ,H2,I2,st2,λb hb=>(f2 b hb).1,w0⟩;rintro n s3 ⟨i,σ3,H3,I3,st3,fr3,w3⟩;rcases turn i n σ3 H3 w3 with⟨stop,qn⟩|⟨go,N,hN,step⟩
 ·refine j3 hp<|thn (T.done X rfl rfl rfl hc i π s3 σ3 H3 X.xe I3 (stat fr3) st3 stop) λr s4 ⟨hr,I4⟩=>?_;subst hr;exact kQ ⟨σ3,H3,I4,qn⟩
 ·refine j3 hp<|thn (T.item X rfl rfl rfl hc i π s3 σ3 H3 X.xe I3 (stat fr3) st3 go) λr s4 ⟨u,hr,h4⟩=>?_;subst hr;refine j3 hp<|thn h4 λ_ s5 hE=>?_;refine zF hE λx H5 I5 r5 y5 st5 fr5=>?_;have I5':=I5.pinned (stat fr5)<|T.obj _ _ st5;refine j3 hp<|thn (hg _ s5 σ3 H5 x u _ I5' r5<|step x H5 y5) λ_ s6 hE=>?_;obtain⟨σ6,H6,I6,q6⟩:=hE;refine j3 hp<|thn (hb _ s6 σ6 H6 _ I6 q6) λf s7 q7=>?_;have again:∀{σ7:St} {H7:Hp},Inv X (π++wO fp s5.heap) σ7 H7 s7->N σ7 H7->∃m,m<n/\∃i σ' H',Inv X π σ' H' s7/\tn i s7.heap/\(∀b∈fp,H' b=none)/\W i m σ' H':=λ{σ7 H7} I7 n7=>by
   obtain⟨m',hm,w7⟩:=hN σ7 H7 n7;refine⟨m',hm,i+1,σ7,H7,I7.xu,T.keep _ _ _ st5 λb hb o e=>(I7.pin (b,o)<|dA _<|dA _<|sI hb e).1,λb hb=>?_,w7⟩;obtain⟨o,e,d⟩:=T.obj _ _ st5 b hb;exact(I7.pin (b,o)<|dA _<|dA _<|sI hb e).2.1
  cases f with
  |next=>obtain⟨σ7,H7,I7,n7⟩:=q7;exact again I7 n7
  |cont=>obtain⟨σ7,H7,I7,n7⟩:=q7;exact again I7 n7
  |brk=>obtain⟨σ7,H7,I7,q7⟩:=q7;exact⟨σ7,H7,I7.xu,q7⟩
  |ret v=>obtain⟨x7,σ7,H7,I7,r7,q7⟩:=q7;exact⟨x7,σ7,H7,I7.xu,r7,q7⟩
end
abbrev R2:=V->V->Hp->VK->Prop
def OpR (X:Cx)(f:av->av->Sem av)(r:R2):Prop:=
 ∀(π:Zl) (s:aS) (σ:St) (H:Hp) (x y:V) (v u:av) (Q:VK),Inv X π σ H s->RelV x v->RelV y u->r x y H Q->
  bg (b9 X.prog X.w) X.A (f v u) (EP X π σ Q) X.xe s
def UnR (X:Cx)(f:av->Sem av)(r:V->Hp->VK->Prop):Prop:=
 ∀(π:Zl) (s:aS) (σ:St) (H:Hp) (x:V) (v:av) (Q:VK),Inv X π σ H s->RelV x v->r x H Q->
  bg (b9 X.prog X.w) X.A (f v) (EP X π σ Q) X.xe s
def fX (X:Cx)(f:av)(r:List V->Hp->VK->Prop):Prop:=
 ∀(π:Zl) (s:aS) (σ:St) (H:Hp) (xs:List V) (us:List av) (Q:VK),Inv X π σ H s->Vals xs us->r xs H Q->
  bg (b9 X.prog X.w) X.A (call f us) (EP X π σ Q) X.xe s
def tOp (r:R2)(ta tb:TE):TE:=λσ H Q=>ta σ H λx H1=>tb σ H1 λy H2=>r x y H2 Q
def tUn (r:V->Hp->VK->Prop)(ta:TE):TE:=λσ H Q=>ta σ H λx H1=>r x H1 Q
def rI (C:Int->Int->Prop)(g:Int->Int->V):R2:=λx y H Q=>∃i j,x=.int i/\y=.int j/\C i j/\Q (g i j) H
def rI0 (g:Int->Int->V):R2:=λx y H Q=>∃i j,x=.int i/\y=.int j/\Q (g i j) H
def rU (g:Int->V):V->Hp->VK->Prop:=λx H Q=>∃i,x=.int i/\Q (g i) H
section
variable {X:Cx}{a b c:Expr}{ta tb tc:TE}{pos:Pos}
theorem aax (ha:PE X a ta)(hb:PE X b tb){π:Zl}{s:aS}{σ:St}{H:Hp}{R:V->V->Hp->Prop}(I:Inv X π σ H s)
  (h:ta σ H λx H1=>tb σ H1 λy H2=>R x y H2) {Q:Zs} {f:av->av->Sem av}
  (hf:∀v u s2 x y H2,Inv X π σ H2 s2->RelV x v->RelV y u->R x y H2->bg (b9 X.prog X.w) X.A (f v u) Q X.xe s2):
  bg (b9 X.prog X.w) X.A (eval a X.env) (λv s₁=>bg (b9 X.prog X.w) X.A (eval b X.env) (λu s₂=>bg (b9 X.prog X.w) X.A (f v u) Q X.xe s₂) X.xe s₁) X.xe s:=by
 refine thn (ha π s σ H _ I h) λv s1 hE=>xq2 hE λx H1 I1 r1 q1=>?_;refine thn (hb π s1 σ H1 _ I1 q1) λu s2 hE=>xq2 hE λy H2 I2 r2 q2=>?_;exact hf v u s2 x y H2 I2 r1 r2 q2
theorem ab0 (ho:OpR X (gT op) r)(ha:PE X a ta)(hb:PE X b tb):PE X (.BinOp a op b pos) (tOp r ta tb):=by
 intro π s σ H Q I h;exact wpAny_BinOp<|aax ha hb I h λv u s2 x y H2 I2 rx ry q=>ho π s2 σ H2 x y v u Q I2 rx ry q
theorem acQ (ho:UnR X (unaryOp op) r)(ha:PE X a ta):PE X (.UnaryOp op a pos) (tUn r ta):=by
 intro π s σ H Q I h;exact UnaryOp_<|thn (ha π s σ H _ I h) λv s1 hE=>xq2 hE λx H1 I1 r1 q1=>ho π s1 σ H1 x v Q I1 r1 q1
theorem opI {f:av->av->Sem av}{C:Int->Int->Prop}{g:Int->Int->Int}
  (rule:∀(i j:Int) (t u:Tok) (s:aS) (Q:Zs) (E:Zs),C i j->Q (.int (g i j) s.toks) { s with toks:=s.toks+1 }->bg (b9 X.prog X.w) X.A (f (.int i t)<|.int j u) Q E s):
  OpR X f (rI C λi j=>.int<|g i j):=by
 intro π s σ H x y v u Q I rx ry h;obtain⟨i,j,rfl,rfl,hc,q⟩:=h;obtain⟨t,rfl⟩:=rx;obtain⟨t',rfl⟩:=ry;exact rule i j t t' s _ _ hc ⟨.int<|g i j,H,I.tok _,⟨_,rfl⟩,q⟩
theorem abx {f:av->av->Sem av}{g:Int->Int->Int}
  (rule:∀(i j:Int) (t u:Tok) (s:aS) (Q:Zs) (E:Zs),Q (.int (g i j) s.toks) { s with toks:=s.toks+1 }->bg (b9 X.prog X.w) X.A (f (.int i t)<|.int j u) Q E s):
  OpR X f (rI0 λi j=>.int<|g i j):=by
 intro π s σ H x y v u Q I rx ry h;obtain⟨i,j,rfl,rfl,q⟩:=h;obtain⟨t,rfl⟩:=rx;obtain⟨t',rfl⟩:=ry;exact rule i j t t' s _ _ ⟨.int<|g i j,H,I.tok _,⟨_,rfl⟩,q⟩
theorem XX {f:av->av->Sem av}{g:Int->Int->Bool}
  (rule:∀(i j:Int) (t u:Tok) (s:aS) (Q:Zs) (E:Zs),Q (.bool<|g i j) s->bg (b9 X.prog X.w) X.A (f (.int i t)<|.int j u) Q E s):
  OpR X f (rI0 λi j=>.bl<|g i j):=by
 intro π s σ H x y v u Q I rx ry h;obtain⟨i,j,rfl,rfl,q⟩:=h;obtain⟨t,rfl⟩:=rx;obtain⟨t',rfl⟩:=ry;exact rule i j t t' s _ _ ⟨.bl<|g i j,H,I,rfl,q⟩
def adh (i j:Int):Prop:=0<=j/\j<=1000000/\i.natAbs<2^64
theorem Zx:OpR X (gT .Add) (rI0 λi j=>.int<|i+j):=abx λ_ _ _ _ _ _ _ q=>add_int q
theorem aaV:OpR X (gT .Sub) (rI0 λi j=>.int<|i-j):=abx λ_ _ _ _ _ _ _ q=>sub_int q
theorem Xz:OpR X (gT .Mod) (rI (λ_ j=>j≠0) λi j=>.int<|i.fmod j):=opI λ_ _ _ _ _ _ _ hc q=>mod_int' hc q
theorem Y8:OpR X (gT .Pow) (rI adh λi j=>.int<|i^j.toNat):=opI λ_ _ _ _ _ _ _ hc q=>pow_int_small hc.1 hc.2.1 hc.2.2 q
theorem unI {f:av->Sem av}{g:Int->Int}
  (rule:∀(i:Int) (t:Tok) (s:aS) (Q:Zs) (E:Zs),Q (.int (g i) s.toks) { s with toks:=s.toks+1 }->bg (b9 X.prog X.w) X.A (f<|.int i t) Q E s):
  UnR X f (rU λi=>.int<|g i):=by
 intro π s σ H x v Q I rx h;obtain⟨i,rfl,q⟩:=h;obtain⟨t,rfl⟩:=rx;exact rule i t s _ _ ⟨.int<|g i,H,I.tok _,⟨_,rfl⟩,q⟩
theorem aaa:UnR X (unaryOp .USub) (rU λi=>.int (-i)):=unI λ_ _ _ _ _ q=>neg_int q
end
noncomputable def acR:V->V->Bool
 | .non,.non=>true|.non,.int _=>true|.int _,.non=>true|.non,.bl _=>true|.bl _,.non=>true|.non,.str _=>true|.str _,.non=>true
 | .int _,.int _=>true|.bl _,.bl _=>true|.str _,.str _=>true|.byt _,.byt _=>true
 | .int _,.str _=>true|.str _,.int _=>true|.bl _,.str _=>true|.str _,.bl _=>true
 |_,_=>false
def rEq:R2:=λx y H Q=>acR x y=true/\Q (.bl<|decide<|x=y) H
def rNe:R2:=λx y H Q=>acR x y=true/\Q (.bl<|!decide (x=y)) H
theorem O5:decide (V.int i=V.int j)=(i==j):=by
 rw[kR]
 simp
theorem Ux:decide (V.bl i=V.bl j)=(i==j):=by
 rw[kR]
 simp
theorem M8:decide (V.str i=V.str j)=(i==j):=by
 rw[kR]
 simp
theorem Oj:decide (V.byt i=V.byt j)=(i.toList==j.toList):=by
 rw[kR];cases i;cases j
 simp
section
theorem cI (I:Inv X π σ H s)(q:Q (.bl k) H)(e:k=k'):EP X π σ Q (.bool k') s:=by
 subst e;exact⟨.bl k,H,I,rfl,q⟩
theorem Mv:OpR X (eW .Eq) rEq:=by
 intro π s σ H x y v u Q I rx ry h;obtain⟨hs,q⟩:=h;cases x with
 |non=>
  cases rx;cases y with
  |non=>cases ry;exact PySem.EqNone.eq_none_none<|cI I q<|by simp
  |bl j=>cases ry;exact PySem.EqNone.eq_none_bool<|cI I q<|by simp
  |int j=>obtain⟨t',rfl⟩:=ry;exact PySem.EqNone.eq_none_int<|cI I q<|by simp
  |str j=>obtain⟨t',rfl⟩:=ry;exact PySem.EqNone.eq_none_str<|cI I q<|by simp
  |_=>exact absurd (show false=true from hs) aE
 |bl i=>
  cases rx;cases y with
  |non=>cases ry;exact PySem.EqNone.eq_bool_none<|cI I q<|by simp
  |bl j=>cases ry;exact eq_bool<|cI I q Ux
  |str j=>obtain⟨t',rfl⟩:=ry;exact PySem.EqMixed.eq_bool_str<|cI I q<|by simp
  |_=>exact absurd (show false=true from hs) aE
 |int i=>
  obtain⟨t,rfl⟩:=rx;cases y with
  |non=>cases ry;exact PySem.EqNone.eq_int_none<|cI I q<|by simp
  |int j=>obtain⟨t',rfl⟩:=ry;exact eq_int<|cI I q O5
  |str j=>obtain⟨t',rfl⟩:=ry;exact PySem.EqMixed.eq_int_str<|cI I q<|by simp
  |_=>exact absurd (show false=true from hs) aE
 |str i=>
  obtain⟨t,rfl⟩:=rx;cases y with
  |non=>cases ry;exact PySem.EqNone.eq_str_none<|cI I q<|by simp
  |bl j=>cases ry;exact PySem.EqMixed.eq_str_bool<|cI I q<|by simp
  |int j=>obtain⟨t',rfl⟩:=ry;exact PySem.EqMixed.eq_str_int<|cI I q<|by simp
  |str j=>obtain⟨t',rfl⟩:=ry;exact eq_str<|cI I q M8
  |_=>exact absurd (show false=true from hs) aE
 |byt i=>
  obtain⟨t,rfl⟩:=rx;cases y with
  |byt j=>obtain⟨t',rfl⟩:=ry;exact W.eq_bytes<|cI I q Oj
  |_=>exact absurd (show false=true from hs) aE
 |_=>cases y<;>exact absurd (show false=true from hs) aE
theorem NT:OpR X (eW .NotEq) rNe:=by
 intro π s σ H x y v u Q I rx ry h;obtain⟨hs,q⟩:=h;cases x with
 |non=>
  cases rx;cases y with
  |non=>cases ry;exact PySem.EqNone.ne_none_none<|cI I q<|by simp
  |bl j=>cases ry;exact PySem.EqNone.ne_none_bool<|cI I q<|by simp
  |int j=>obtain⟨t',rfl⟩:=ry;exact PySem.EqNone.ne_none_int<|cI I q<|by simp
  |str j=>obtain⟨t',rfl⟩:=ry;exact PySem.EqNone.ne_none_str<|cI I q<|by simp
  |_=>exact absurd (show false=true from hs) aE
 |bl i=>
  cases rx;cases y with
  |non=>cases ry;exact PySem.EqNone.ne_bool_none<|cI I q<|by simp
  |bl j=>cases ry;exact ne_bool<|cI I q<|congrArg not Ux
  |str j=>obtain⟨t',rfl⟩:=ry;exact PySem.EqMixed.ne_bool_str<|cI I q<|by simp
  |_=>exact absurd (show false=true from hs) aE
 |int i=>
  obtain⟨t,rfl⟩:=rx;cases y with
  |non=>cases ry;exact PySem.EqNone.ne_int_none<|cI I q<|by simp
  |int j=>obtain⟨t',rfl⟩:=ry;exact ne_int<|cI I q<|congrArg not O5
  |str j=>obtain⟨t',rfl⟩:=ry;exact PySem.EqMixed.ne_int_str<|cI I q<|by simp
  |_=>exact absurd (show false=true from hs) aE
 |str i=>
  obtain⟨t,rfl⟩:=rx;cases y with
  |non=>cases ry;exact PySem.EqNone.ne_str_none<|cI I q<|by simp
  |bl j=>cases ry;exact PySem.EqMixed.ne_str_bool<|cI I q<|by simp
  |int j=>obtain⟨t',rfl⟩:=ry;exact PySem.EqMixed.ne_str_int<|cI I q<|by simp
  |str j=>obtain⟨t',rfl⟩:=ry;exact ne_str<|cI I q<|congrArg not M8
  |_=>exact absurd (show false=true from hs) aE
 |byt i=>
  obtain⟨t,rfl⟩:=rx;cases y with
  |byt j=>obtain⟨t',rfl⟩:=ry;exact W.ne_bytes<|cI I q<|congrArg not Oj
  |_=>exact absurd (show false=true from hs) aE
 |_=>cases y<;>exact absurd (show false=true from hs) aE
theorem abf:OpR X (eW .Lt) (rI0 λi j=>.bl<|decide<|i<j):=XX λ_ _ _ _ _ _ _ q=>lt_int q
theorem acU:OpR X (eW .LtE) (rI0 λi j=>.bl<|decide<|i<=j):=XX λ_ _ _ _ _ _ _ q=>le_int q
theorem acX:OpR X (eW .Gt) (rI0 λi j=>.bl<|decide<|j<i):=XX λ_ _ _ _ _ _ _ q=>gt_int q
theorem acn:OpR X (eW .GtE) (rI0 λi j=>.bl<|decide<|j<=i):=XX λ_ _ _ _ _ _ _ q=>ge_int q
theorem Qq:OpR X (eW .In) (λx y H Q=>∃i j,x=.str i/\y=.str j/\Q (.bl<|!(sD j i 0 j.length 1).isEmpty) H):=by
 intro π s σ H x y v u Q I rx ry h;obtain⟨i,j,rfl,rfl,q⟩:=h;obtain⟨t,rfl⟩:=rx;obtain⟨t',rfl⟩:=ry;exact in_str<|cI I q rfl
theorem bx (b:Expr){op:CmpOp}(h:op≠.In:=by decide)(h2:op≠.NotIn:=by decide):iX op b=false:=by
 have e1:(op==CmpOp.In)=false:=by cases op<;>first|rfl|exact absurd rfl h
 have e2:(op==CmpOp.NotIn)=false:=by cases op<;>first|rfl|exact absurd rfl h2
 cases b<;>simp[iX,e1,e2]
theorem VL (ho:OpR X (eW op) r)(ha:PE X a ta)(hb:PE X b tb)(hm:iX op b=false):PE X (.Compare a [op] [b] pos) (tOp r ta tb):=by
 intro π s σ H Q I h;exact wpAny_Compare1 (aax ha hb I h λv u s2 x y H2 I2 rx ry q=>ho π s2 σ H2 x y v u Q I2 rx ry q) hm
def acP (t:TE):TT:=λσ H Q=>t σ H λx H'=>∃k,x=.bl k/\Q k H'
theorem Xi (ho:OpR X (eW op) r)(ha:PE X a ta)(hb:PE X b tb)(hm:iX op b=false):PT X (.Compare a [op] [b] pos) (acP<|tOp r ta tb):=by
 intro π s σ H Q I h;refine wpAny_isTrue_Compare1 (thn (ha π s σ H _ I h) λv s1 hE=>xq2 hE λx H1 I1 r1 q1=>thn (hb π s1 σ H1 _ I1 q1) λu s2 hE=>xq2 hE λy H2 I2 r2 q2=>
  thn (ho π s2 σ H2 x y v u _ I2 r1 r2 q2) λc s3 ⟨z,H3,I3,r3,k,e,q3⟩=>?_) hm
 subst e;cases r3;exact jI ⟨H3,I3,q3⟩
theorem yR:(ay:Nat)<2^63:=by rw[sF];decide
theorem Ku:OpR X (gT .Add) (λx y H Q=>∃i j,x=.str i/\y=.str j/\i.length+j.length<=ay/\Q (.str<|i++j) H):=by
 intro π s σ H x y v u Q I rx ry h;obtain⟨i,j,rfl,rfl,hz,q⟩:=h;obtain⟨t,rfl⟩:=rx;obtain⟨t',rfl⟩:=ry;exact add_str (λt' tk=>⟨.str<|i++j,H,I.tok _,⟨_,rfl⟩,q⟩) hz
theorem vals1 (r:Vals [x] us):∃u,us=[u]/\RelV x u:=by
 cases r with
 |cons r1 r2=>cases r2;exact⟨_,rfl,r1⟩
theorem vals2 (r:Vals [x,y] us):∃u w',us=[u,w']/\RelV x u/\RelV y w':=by
 cases r with
 |cons r1 r2=>
  cases r2 with
  |cons r3 r4=>cases r4;exact⟨_,_,rfl,r1,r3⟩
theorem Ul:fX X (.builtin "abs") (λxs H Q=>∃i,xs=[.int i]/\Q (.int<|if i<0 then -i else i) H):=by
 intro π s σ H xs us Q I r h;obtain⟨i,rfl,q⟩:=h;obtain⟨u,rfl,t,rfl⟩:=vals1 r;exact call_abs_int λu tk=>⟨.int<|if i<0 then -i else i,H,I.tok _,⟨_,rfl⟩,q⟩
theorem G7:fX X (.type "str") (λxs H Q=>∃i,xs=[.int i]/\i.natAbs.log2<1920/\Q (.str<|toString i) H):=by
 intro π s σ H xs us Q I r h;obtain⟨i,rfl,hz,q⟩:=h;obtain⟨u,rfl,t,rfl⟩:=vals1 r;exact PySem.P.str_of_int hz ⟨.str _,H,I.tok _,⟨_,rfl⟩,q⟩
end
structure aaR (h:Heap)(x dx C:Addr)(mA:Zp):Prop where
 obj:h.get? x=some (W.instObj C dx)
 ns:h.Ns1 dx mA
 ne:dx≠x
theorem Pg {h:Heap}(n:h.Ns1 dx mA):∃od,h.get? dx=some od/\∀name,W.lookIn name od=some (mA name):=by
 refine RN n λo es ep ho hd hk _ hm=>?_;refine⟨o,ho,λname=>?_⟩;have e:=hm name;unfold nsFind findBy at e;rw[← zI] at e;unfold W.lookIn;rw[hd];dsimp only;split
 ·rename_i y q;rw[q] at e;exact congrArg some e
 ·rename_i q;rw[q] at e;have a:es.toList.any (·.refKey)=false:=by
   rw[List.any_eq_false];intro y hy;obtain⟨z,t,hkey⟩:=hk y<|Array.mem_toList_iff.mp hy;simp[DictEntry.refKey,hkey]
  have a':¬es.toList.any (·.refKey)=true:=by rw[a];exact aE
  rw[if_neg a'];exact congrArg some e
theorem aaR.look (I:aaR h x dx C mA):∃od,W.InstAt h x (W.instObj C dx) C (some od)/\∀name,W.lookIn name od=some (mA name):=
 let⟨od,ho,hl⟩:=Pg I.ns
 ⟨od,⟨I.obj,rfl,rfl,ho⟩,hl⟩
section
variable {prog:bo}{w:dc}{A:dy}{E:Zs}{s:aS}{K:bb}{x dx C f:Addr}{mA:Zp}{name:Str}{v:av}
end
theorem vP.some_of (r:vP (some v) o):∃u,o=some u/\RelV v u:=by
 cases o with
 |none=>exact(show False from r).elim
 |some u=>exact⟨u,rfl,r⟩
section
theorem Xk (hok:HOk P w H h)(e:H a=some (.ins C dx fs)):∃mA,aaR h a dx C mA/\(∀f,vP (fs.lookup f)<|mA f)/\PySem.Within mA (fs.map (·.1))/\fs.length<=1000/\H dx=some (.own a):=by
 obtain⟨d,z,ne,ob,mA,n,r,q⟩:=(show cG P w H h a (.ins C dx fs) from hok a _ e);exact⟨mA,⟨ob,n,ne⟩,r,q,z,d⟩
end
structure Cls (K:bb)(C:Addr):Prop where
 pg:W.plainGet K C Bn=true
 hd:pE K C=true
 po:W.plainOver K C=true
 sa:cx K (.ref C) "__setattr__" = some (some (.builtin "object.__setattr__"))
theorem Cls.get {K:bb}{C:Addr}(c:Cls K C)(f:Str):W.plainGet K C f=true:=c.pg
section
variable {X:Cx}{π:Zl}{σ:St}{H:Hp}{s:aS}{a C dx:Addr}{fs:List (Str×V)}{f:Str}{v:V}{A:dy}{E:Zs}
theorem Wi (hb:h8 e f env (eval e env)=eval e env)
  (h:bg (b9 prog w) A (eval e env) (λo s₁=>bg (b9 prog w) A (getAttr o f true) Q E s₁) E s):bg (b9 prog w) A (eval (.Attribute e f pos) env) Q E s:=
 Attribute_any_ h (by rw[arm_eval_Attribute,hb])
end
section
end
section
inductive yD (K:bb)(H:Hp):V->av->Prop where
 |non:yD K H .non (.type "NoneType")
 |bl (x:Bool):yD K H (.bl x) (.type "bool")
 |int (i:Int):yD K H (.int i) (.type "int")
 |str (x:Str):yD K H (.str x) (.type "str")
 |flt (x:UInt64):yD K H (.flt x) (.type "float")
 |lst {a:Addr} {xs:List V} (e:H a=some (.lst xs)):yD K H (.ref a) (.type "list")
 |frz {a:Addr} {o:Obj} {xs:List V} (e:H a=some (.frz o (.lst xs))):yD K H (.ref a) (.type "list")
 |tup {a:Addr} {xs:List V} (e:H a=some (.tup xs)):yD K H (.ref a) (.type "tuple")
 |dK {a:Addr} {ι:List (Key×V)} (e:Rd H a (.dK ι)):yD K H (.ref a) (.type "dict")
 |dT {a:Addr} {T:Addr->List V->Prop} {ι:List (List Kt×V)} (e:H a=some (.dT T ι)):yD K H (.ref a) (.type "dict")
 |ins {a C dx:Addr} {fs:List (Str×V)} (e:H a=some (.ins C dx fs)) (cl:Cls K C) (ha:cx K (.ref C) "__class__" = some (some (.builtin "object.__class__")))
   (hn:W.specialIn K (.builtin "object.__class__") "__get__" = some (some (.builtin "getset_descriptor.__get__"))) (htk:W.takesIn K (.builtin "object.__class__")=some true)
   (hm:W.mroIn K C (.type "object")=some true):yD K H (.ref a) (.ref C)
theorem Qm (I:Inv X π σ H s)(rx:RelV x u)(ty:yD X.K H x t)(e:bt X.K t c=some b)(h:∀tk,Q (.bool b) { s with toks:=tk }):
  bg (b9 X.prog X.w) A (call (.builtin "isinstance") [u,c]) Q E s:=by
 cases ty with
 |non=>cases(show u=eM from rx);exact iF W.kitx_none I.kIn fg e (λz=>nomatch z) h
 |bl y=>cases(show u=mS y from rx);exact iF W.kitx_bool I.kIn fg e (λz=>nomatch z) h
 |int i=>obtain⟨t,q⟩:=(show ∃t,u=zh i t from rx);cases q;exact iF W.kitx_int I.kIn fg e (λz=>nomatch z) h
 |str y=>obtain⟨t,q⟩:=(show ∃t,u=zi y t from rx);cases q;exact iF W.kitx_str I.kIn fg e (λz=>nomatch z) h
 |flt y=>obtain⟨t,q⟩:=(show ∃t,u=Value.float y t from rx);cases q;exact iF W.kitx_float I.kIn fg e (λz=>nomatch z) h
 | @lst a xs ea=>
  cases(show u=bE a from rx);obtain⟨_,_,n,_,h1⟩:=(show cG X.prog X.w H s.heap a (.lst xs) from I.hok a _ ea);exact iF W.kitx_list I.kIn ⟨_,h1,rfl⟩ e (λz=>nomatch z) h
 | @frz a ob xs ea=>
  cases(show u=bE a from rx);obtain⟨_,_,_,n,_,h1⟩:=(show cG X.prog X.w H s.heap a (.frz ob<|.lst xs) from I.hok a _ ea);exact iF W.kitx_list I.kIn ⟨_,h1,rfl⟩ e (λz=>nomatch z) h
 | @tup a xs ea=>
  cases(show u=bE a from rx);obtain⟨_,_,_,p⟩:=(show cG X.prog X.w H s.heap a (.tup xs) from I.hok a _ ea);obtain⟨o,h1,h2,_⟩:=p;exact iF W.kitx_tuple I.kIn ⟨o,h1,h2⟩ e (λz=>nomatch z) h
 | @dK a ι ea=>
  cases(show u=bE a from rx);obtain⟨_,_,vs,_,p⟩:=(show cG X.prog X.w H s.heap a (.dK ι) from ea.ok I.hok);refine Nf p λo es ep h1 h2 _=>?_;exact iF W.kitx_dict I.kIn ⟨o,h1,h2.1⟩ e (λz=>nomatch z) h
 | @dT a T ι ea=>
  cases(show u=bE a from rx);obtain⟨_,_,xs,_,o,es,ep,h1,h2,_⟩:=(show cG X.prog X.w H s.heap a (.dT T ι) from I.hok a _ ea);exact iF W.kitx_dict I.kIn ⟨o,h1,h2.1⟩ e (λz=>nomatch z) h
 | @ins a C dx fs ea cl ha hn htk hm=>
  cases(show u=bE a from rx);obtain⟨mA,O,_⟩:=Xk I.hok ea;obtain⟨od,J,_⟩:=O.look;exact iF (W.kitx_own (cl.get _) cl.hd ha hn htk hm) I.kIn J e (λz=>nomatch z) h
end
structure gw (k:Nat)(A:dy):Prop where
 hd:A.handled=none
 dp:A.depth+3*k+5<yi
 un:A.units+16*k+200<pw
 gd:A.guards=some []
theorem gw.mono (r:gw k A)(h:j<=k):gw j A:=⟨r.hd,by have:=r.dp;lia,by have:=r.un;lia,r.gd⟩
theorem gw.deeper (r:gw (k+1) A)(env:Env):gw k (A.deeper env):=
 ⟨r.hd,by have:=r.dp;show A.depth+1+3*k+5<_;lia,by have:=r.un;show A.units+3+16*k+200<_;lia,r.gd⟩
theorem Lb {A:dy}:(A.under<|.builtin "type.__call__" ⟨.ref C::us,kw⟩).depth=A.depth+1:=by
 first|rfl|simp[AU,Code.weight,Code.isCreation,Code.isGuard,Code.isCaller,Code.frames,AV,guardIds]
theorem JN {A:dy}:(A.under<|.builtin "type.__call__" ⟨.ref C::us,kw⟩).units=A.units+1:=by
 first|rfl|simp[AU,Code.cUnits,Code.frames,AV]
theorem gw.make (r:gw (k+1) A)(C:Addr)(us:List av)(kw:List (Str×av)):gw k (A.under<|.builtin "type.__call__" ⟨.ref C::us,kw⟩):=
 ⟨r.hd,by have:=r.dp;rw[Lb];lia,by have:=r.un;rw[JN];lia,r.gd⟩
theorem gw.depth (r:gw k A):A.depth<yi:=by have:=r.dp;lia
theorem gw.units (r:gw k A):A.units+64<pw:=by have:=r.un;lia
def abK:TA:=λ_ H Q=>Q [] H
def Ue (ta:TE)(tr:TA):TA:=λσ H Q=>ta σ H λx H1=>tr σ H1 λxs H2=>Q (x::xs) H2
section
theorem pJ:PA X [] abK:=λ_ _ _ _ H Q I h=>sg ⟨[],H,I,.nil,h⟩
theorem ig (ha:PE X e te)(hr:PA X es t)(hs:ag (e::es) X.env=(false,eval e X.env)::ag es X.env:=by rfl):PA X (e::es) (Ue te t):=by
 intro pos π s σ H Q I h;rw[hs];show bg _ _ (spliced ((false,eval e X.env)::ia pos (ag es X.env))) _ _ s;refine mm<|thn (ha π s σ H _ I h) λu s1 hE=>xq2 hE λx H1 I1 r1 q1=>?_;exact thn (hr pos π s1 σ H1 _ I1 q1) λus s2 hE=>xq2 hE λxs H2 I2 r2 q2=>⟨x::xs,H2,I2,.cons r1 r2,q2⟩
def adH (t:TA):TE:=λσ H Q=>t σ H λxs H1=>xs.length<=ay/\∀p,H1 p=none->Q (.ref p) (upd H1 p<|.tup xs)
def adt (t:TA):TE:=λσ H Q=>t σ H λxs H1=>xs.length<=ay/\∀p,H1 p=none->Q (.ref p) (upd H1 p<|.lst xs)
theorem RW (h:PA X es t):PE X (.Tuple es x1 pos) (adH t):=by
 intro π s σ H Q I hq;refine wpAny_Tuple_spliced<|thn (h pos π s σ H _ I hq) λus s1 ⟨xs,H1,I1,r,z,q⟩=>⟨by rw[← r.length];exact z,?_⟩;have hf:H1 s1.heap.objs.size=none:=I1.hok.fresh<|aI _;refine⟨.ref s1.heap.objs.size,upd H1 s1.heap.objs.size<|.tup xs,I1.laid (t':=s1.toks) (λb u e=>af _ e) (aI _) ?_,rfl,q _ hf⟩;exact⟨z,us,r,⟨_,a7 _ rfl,rfl,_,rfl,rfl⟩⟩
theorem aaQ (h:PA X es t):PE X (.List es pos) (adt t):=by
 intro π s σ H Q I hq;refine wpAny_List_spliced<|thn (h pos π s σ H _ I hq) λus s1 ⟨xs,H1,I1,r,z,q⟩=>⟨by rw[← r.length];exact z,?_⟩;have hf:H1 s1.heap.objs.size=none:=I1.hok.fresh<|aI _;refine⟨.ref s1.heap.objs.size,upd H1 s1.heap.objs.size<|.lst xs,I1.laid (t':=s1.toks) (λb u e=>af _ e) (aI _) ?_,rfl,q _ hf⟩;exact⟨z,us,0,r,a7 _ rfl⟩
end
abbrev Sp:=List V->Hp->VK->XK->Prop
abbrev CXT:=List Env->Hp->aS->XK->Zs
structure CZ (P:bo)(w:dc)(K:bb)(mg:Zp)(base:Heap)(A:dy)(outer:List Env)(s:aS)(H:Hp):Prop where
 frames:A.frames=some outer
 mod:Mod K mg base
 bs:∀b o,base.get? b=some o->s.heap.get? b=some o/\H b=none
 bsz:base.objs.size<=s.heap.objs.size
 rA:s.heap.FunFrames base outer
 frf:∀b∈frs outer,H b=none
 hok:HOk P w H s.heap
 bare:sC s.gens
def CE (outer:List Env)(P:bo)(w:dc)(H:Hp)(s:aS)(Q:VK)(u:av)(s':aS):Prop:=
 ∃v H',s'.os=s.os/\sC s'.gens/\Un (frs outer) [] H H' s.heap s'.heap/\HOk P w H' s'.heap/\RelV v u/\Q v H'
def CR (CX:CXT)(outer:List Env)(P:bo)(w:dc)(H:Hp)(s:aS)(Q:VK)(E:XK)(r:Result)(s':aS):Prop:=
 match r with
 | .ok (.ret u)=>CE outer P w H s Q u s'
 | .ok _=>False
 | .error e=>CX outer H s E e s'
structure oG (P:bo)(w:dc)(K:bb)(mg:Zp)(base:Heap)(CX:CXT)(k:Nat)(f:Addr)(fd:hG)(ps:List Str)(sp:Sp):Prop where
 len:∀vs H Q E,sp vs H Q E->vs.length=ps.length
 run:∀(A:dy) (outer:List Env) (s:aS) (H:Hp) (args:Args) (us:List av) (vs:List V) (Q:VK) (E:XK),gw k A->CZ P w K mg base A outer s H->AM s fd args (ps.zip us)->Vals vs us->sp vs H Q E->
  vF (b9 P w) A (.call (.ref f) args) (CR CX outer P w H s Q E) s
theorem oG.imp {P:bo}{w:dc}{K:bb}{mg:Zp}{base:Heap}{CX:CXT}{k:Nat}{f:Addr}{fd:hG}{ps:List Str}{sp sp':Sp}(F:oG P w K mg base CX k f fd ps sp)
  (h:∀vs H Q E,sp' vs H Q E->sp vs H Q E):oG P w K mg base CX k f fd ps sp':=
 ⟨λvs H Q E q=>F.len vs H Q E<|h _ _ _ _ q,λA outer s H args us vs Q E hr he hb hv hs=>F.run A outer s H args us vs Q E hr he hb hv<|h _ _ _ _ hs⟩
theorem CZ.make {P:bo}{w:dc}{K:bb}{mg:Zp}{base:Heap}{A:dy}{outer:List Env}{s:aS}{H:Hp}(e:CZ P w K mg base A outer s H)(C:Addr)(us:List av)(kw:List (Str×av)):
  CZ P w K mg base (A.under<|.builtin "type.__call__" ⟨.ref C::us,kw⟩) outer s H:=⟨by first|exact e.frames|(simpa[AU,Code.envs,AV,pushEnvs] using e.frames),e.mod,e.bs,e.bsz,e.rA,e.frf,e.hok,e.bare⟩
section
theorem Inv.env0 (I:Inv X π σ H s):CZ X.prog X.w X.K X.mg X.base X.A X.stack s H:=
 ⟨I.ok.frames,I.ok.mod,I.bs,cy I.ok.bsz I.sz,I.stack,I.xR,I.hok,I.bare⟩
theorem Inv.after (I:Inv X π σ H s)(h:CE X.stack X.prog X.w H s Q u s'):EP X π σ Q u s':=by
 refine Np h λv H' os bare un hok r q=>?_;obtain⟨hh,g,d,t,os'⟩:=s';obtain rfl:os'=s.os:=os;exact⟨v,H',I.call (h':=hh) (g':=g) (d':=d) (t':=t) (ch:=[]) un hok bare λb z=>absurd z (by simp),r,q⟩
end
def Y0 (sp:Sp)(dvs:List V)(E:XK)(t:TA):TE:=λσ H Q=>t σ H λvs H1=>sp (vs++dvs) H1 Q E
def Binds (K:bb)(fd:hG)(ps:List Str)(ds:List av):Prop:=
 ∀(s:aS) (us:List av),K.In s.heap->(us++ds).length=ps.length->AM s fd ⟨us,[]⟩ (ps.zip<|us++ds)
theorem Binds.all {K:bb}{fd:hG}{ps:List Str}(h:∀us:List av,us.length=ps.length->bindArgs fd ⟨us,[]⟩=pure (ps.zip us)):Binds K fd ps []:=λs us _ hl=>by
 rw[cE] at hl ⊢;exact .of_eq<|h us hl
def Passes (CX:CXT)(X:Cx)(E:XK):Prop:=∀(π:Zl) (σ:St) (H:Hp) (s:aS) (e:av) (s':aS),Inv X π σ H s->CX X.stack H s E e s'->X.xe e s'
section
variable {X:Cx}{CX:CXT}{k:Nat}{f C:Addr}{fd:hG}{ps:List Str}{sp:Sp}{dvs:List V}{ds:List av}{E:XK}{x m:Str}{p pos apos:Pos}{e o:Expr}{es:List Expr}{ta:TE}{t:TA}
theorem Zn (F:oG X.prog X.w X.K X.mg X.base CX k f fd ps sp)(hr:gw k X.A)(hb:Binds X.K fd ps ds)(hd:Vals dvs ds)(hx:Passes CX X E)
  (I:Inv X π σ H s) (r:Vals vs us) (h:sp (vs++dvs) H Q E):bg (b9 X.prog X.w) X.A (call (.ref f) us) (EP X π σ Q) X.xe s:=by
 have r2:Vals (vs++dvs) (us++ds):=r.append hd;have hl:(us++ds).length=ps.length:=by rw[← r2.length];exact F.len _ _ _ _ h
 refine xA<|nX (F.run X.A X.stack s H ⟨us,[]⟩ (us++ds) (vs++dvs) Q E hr I.env0 (hb s us I.kIn hl) r2 h) λr s' hq=>?_;cases r with
 |error e=>exact hx π σ H s e s' I hq
 |ok fl=>
  cases fl with
  |ret u=>exact I.after hq
  |next=>exact fq hq
  |brk=>exact fq hq
  |cont=>exact fq hq
theorem Nt (F:oG X.prog X.w X.K X.mg X.base CX k f fd ps sp)(hr:gw k X.A)(hg:Gl X x)(hm:X.mg x=some (.ref f))(hk:lh X.K (.ref f)=true)(hb:Binds X.K fd ps ds)(hd:Vals dvs ds)(hx:Passes CX X E)
  (ha:PA X (e::es) t) (hdb:(x==("__debug__":Str))=false:=by decide) (he:ag (e::es) X.env=(false,eval e X.env)::ag es X.env:=by rfl) (ξ:(ia pos<|ag es X.env).any (·.1)=false:=by rfl):
  PE X (.Call (.Name x p) (e::es) [] pos) (Y0 sp dvs E t):=by
 intro π s σ H Q I h;refine gy<|pU I hg hm ?_ hdb;refine qV (h₀:=X.base) I.ok.mod.kin hk (thn (ha pos π s σ H _ I h) λus s1 hE=>xq2 hE λvs H1 I1 r q=>⟨I1.kIn,?_⟩) he ξ;exact Zn F hr hb hd hx I1 r q
end
section
end
structure aY (N P:List Str)(sc:rL):Prop where
 kind:sc.kind=.function
 co:sc.isCoroutine=false
 gen:sc.isGenerator=false
 nd:N.Nodup
 pre:N.take P.length=P
 par:∀x∈P,sc.names.lookup x=some .local\/sc.names.lookup x=some .cell
 nofree:∀y∈sc.names,y.2≠.free
theorem Ef {sh:Str->Option sL}{x:Str}:∀{binds:List (Str×av)} {m:Zp},(∀v,(x,v)∉binds)->BF sh binds m x=m x
 |[],_,_=>rfl
 |(n,v)::r,m,h=>by
  unfold BF;rw[Ef λw hw=>h w<|ai _ hw];split
  ·have:x≠n:=by rintro rfl;exact h v ar
   simp[this]
  ·rfl
theorem DN {sh:Str->Option sL}{x:Str}:∀{binds:List (Str×av)} {m:Zp},(∀v,(x,v)∉binds)->BG sh binds m x=m x
 |[],_,_=>rfl
 |(n,v)::r,m,h=>by
  unfold BG;rw[DN λw hw=>h w<|ai _ hw];split
  ·rfl
  ·have:x≠n:=by rintro rfl;exact h v ar
   simp[this]
theorem DY {sh:Str->Option sL}{x:Str}{v:av}:∀{P:List Str} {vs:List av} {i:Nat} {m:Zp},P.Nodup->P[i]? = some x->vs[i]? = some v->sh x=some .local->
  BF sh (P.zip vs) m x=some v
 |[],_,_,_,_,h,_,_=>by simp at h
 |_::_,[],_,_,_,_,h,_=>by simp at h
 |p::P,w::vs,0,m,nd,h1,h2,hk=>by
  simp at h1 h2;subst h1;subst h2;show BF sh ((p,w)::P.zip vs) m p=_;unfold BF;rw[Ef λv hv=>(pS.mp nd).1 (pT hv).1,if_pos hk]
  simp
 |p::P,w::vs,i+1,m,nd,h1,h2,hk=>by
  show BF sh ((p,w)::P.zip vs) m x=_;unfold BF;exact DY (i:=i) (pS.mp nd).2 (by simpa using h1) (by simpa using h2) hk
theorem Em {sh:Str->Option sL}{x:Str}{v:av}:∀{P:List Str} {vs:List av} {i:Nat} {m:Zp},P.Nodup->P[i]? = some x->vs[i]? = some v->sh x≠some .local->
  BG sh (P.zip vs) m x=some v
 |[],_,_,_,_,h,_,_=>by simp at h
 |_::_,[],_,_,_,_,h,_=>by simp at h
 |p::P,w::vs,0,m,nd,h1,h2,hk=>by
  simp at h1 h2;subst h1;subst h2;show BG sh ((p,w)::P.zip vs) m p=_;unfold BG;rw[DN λv hv=>(pS.mp nd).1 (pT hv).1,if_neg hk]
  simp
 |p::P,w::vs,i+1,m,nd,h1,h2,hk=>by
  show BG sh ((p,w)::P.zip vs) m x=_;unfold BG;exact Em (i:=i) (pS.mp nd).2 (by simpa using h1) (by simpa using h2) hk
noncomputable def start (N:List Str)(vs:List V):St:=vs.map some++br (N.length-vs.length) none
noncomputable def kW (CX:CXT)(P:bo)(w:dc)(K:bb)(mg:Zp)(base:Heap)(N:List Str)(qual:Str)(scope:rL)(f:Addr)(cd:av)(A:dy)(outer:List Env)(s:aS)(H:Hp)(E:XK):Cx where
 prog:=P
 w:=w
 K:=K
 mg:=mg
 base:=base
 A:=A.deeper<|rd qual scope s.heap.objs.size f cd
 N:=N
 s₀:=s
 H₀:=H
 env:=rd qual scope s.heap.objs.size f cd
 outer:=outer
 stack:=rd qual scope s.heap.objs.size f cd::outer
 ex:=[]
 calm:=true
 fn:=λ_=>true
 pn:=[]
 xe:=λe s'=>bg (b9 P w) (A.deeper<|rd qual scope s.heap.objs.size f cd) (leaving (rd qual scope s.heap.objs.size f cd) e) (λ_ s''=>CX outer H s E e s'') (λe' s''=>CX outer H s E e' s'') s'
theorem HB {sc:rL}(h:sc.names.lookup x=some .cell):∃c,(zS n sc.names []).lookup x=some c:=by
 have q:=tJ sc.names n []<|.inl h;exact Option.isSome_iff_exists.mp q
theorem Dn {CX:CXT}{P:bo}{w:dc}{K:bb}{mg:Zp}{base:Heap}{N ps:List Str}{qual:Str}{scope:rL}{f:Addr}{cd:av}{A:dy}{outer:List Env}{s s1:aS}{H:Hp}{E:XK}{us:List av}{vs:List V}
  (S:aY N ps scope) (hd:A.handled=none) (e0:CZ P w K mg base A outer s H) (hl:vs.length=ps.length) (r:Vals vs us)
  (x:InCallC s s.heap.objs.size (BF (rd qual scope s.heap.objs.size f cd).kindOf (ps.zip us) λ_=>none) (zS (s.heap.objs.size+1) scope.names []) (BG (rd qual scope s.heap.objs.size f cd).kindOf (ps.zip us) λ_=>none) s1):
  Inv (kW CX P w K mg base N qual scope f cd A outer s H E) [] (start N vs) H s1:=by
 have ξ:ps.length<=N.length:=by have:=congrArg sM S.pre;rw[l6] at this;lia
 obtain⟨h1,tk,rfl,hk⟩:=x.done;have noA:∀b:Addr,b∉(kW CX P w K mg base N qual scope f cd A outer s H E).ex:=λb z=>absurd (show b∈([]:List Addr) from z) (by simp);refine⟨⟨e0.mod,S.kind,rfl,rfl,aI _,λy z c h1 h2=>?_,λy hy=>?_,λy c _ h=>?_,λ_=>hd,x6 e0.frames,.inr ⟨rfl,rfl⟩,λb z=>absurd z<|noA b,e0.bs,e0.bsz,λb _ _=>noA b,λb z=>absurd z<|noA b,e0.rA,e0.frf⟩,
  rfl,e0.bare,Un.kept hk,⟨_,x.toInCall.ns,λi y v h1 h2 h3=>?_⟩,λy c h=>⟨_,x.cell y c h⟩,e0.hok.fresh<|aI _,λy c h=>?_,λp hp=>absurd (show p∈([]:Zl) from hp) (by simp),e0.hok.kept hk,?_⟩
 ·exact name_of_addr x.apart (kA h1)<|kA h2
 ·have hy:scope.names.lookup y=some .cell\/scope.names.lookup y=some .free:=hy;rcases hy with hy|hy
  ·exact HB hy
  ·exact absurd rfl<|S.nofree _<|kA hy
 ·exact AS<|x.above y c<|kA h
 ·have hi:i<vs.length:=by
   unfold start at h2;by_cases hi:i<vs.length
   ·exact hi
   ·rw[gu<|by simpa using hi] at h2;rw[g7] at h2;split at h2<;>cases h2
  have ha:vs[i]? = some v:=by
   unfold start at h2;rw[fw (by simpa using hi),cp] at h2;cases e:vs[i]? with
   |none=>rw[e] at h2;cases h2
   |some a=>rw[e] at h2;cases h2;rfl
  obtain⟨u,hu,rv⟩:=r.get ha;have hp:ps[i]? = some y:=by
   rw[← S.pre,List.getElem?_take_of_lt<|by lia];exact h1
  have ndP:ps.Nodup:=by rw[← S.pre];exact S.nd.sublist<|List.take_sublist _ _
  refine⟨u,rv,?_⟩;rcases S.par y (oP hp) with k|k
  ·exact .inl ⟨k,DY ndP hp hu k⟩
  ·obtain⟨c,e⟩:=HB (n:=s.heap.objs.size+1) k;refine .inr ⟨.inl k,c,e,?_⟩;have q:=x.cell y c e;rw[Em ndP hp hu (by show scope.names.lookup y≠_;rw[k];decide)] at q;exact q
 ·exact e0.hok.fresh<|AS<|x.above y c<|kA h
 ·unfold start;show _=N.length;rw[cc,dE,kS]
  lia
theorem acL {CX:CXT}{P:bo}{w:dc}{K:bb}{mg:Zp}{base:Heap}{k:Nat}{f:Addr}{name qual:Str}{params:Arguments}{body:List Stmt}{scope:rL}{dV kV doc pm cdv ct oc:av}{an od:Option Addr}
  {osl:Array (Option av)} {N ps:List Str} {sp:Sp} (lk:K.lookup f=some ⟨oc,od,.func<|tP name qual params body scope dV kV doc pm an cdv ct,osl⟩) (hcd:Ap K cdv qual=true) (S:aY N ps scope)
  (len:∀vs H Q E,sp vs H Q E->vs.length=ps.length)
  (hbody:∀(A:dy) (outer:List Env) (s:aS) (H:Hp) (vs:List V) (Q:VK) (E:XK),gw k (A.deeper<|rd qual scope s.heap.objs.size f cdv)->sp vs H Q E->
   ∃t,PSs (kW CX P w K mg base N qual scope f cdv A outer s H E) body t/\t { nx:=λ_ H'=>Q .non H',rt:=Q } (start N vs) H):
  oG P w K mg base CX (k+1) f (tP name qual params body scope dV kV doc pm an cdv ct) ps sp:=by
 refine⟨len,λA outer s H args us vs Q E hr e0 hb r hsp=>?_⟩;have hl:=len _ _ _ _ hsp;have KX:K.In s.heap:=e0.mod.kin.keeps λb o e=>(e0.bs b o e).1;have lim:s.heap.NoLimit:=e0.mod.nolimit.keeps λb o e=>(e0.bs b o e).1;have hkind:∀y∈ps.zip us,scope.names.lookup y.1=some .local\/(scope.names.lookup y.1=some .cell/\((zS (s.heap.objs.size+1) scope.names []).lookup y.1).isSome=true):=λ⟨n,v⟩ hy=>by
  rcases S.par n (pT hy).1 with q|q
  ·exact .inl q
  ·exact .inr ⟨q,tJ _ _ _<|.inl q⟩
 refine codeAny_call_function hr.depth (KX _ _ lk) rfl S.co S.gen rfl (W.codeRec_of KX hcd)<|hb _ _ _ _ ?_;refine qr S.kind hkind λenv he s1 x=>?_;subst he;refine⟨lim.keeps x.toInCall.keep,codeAny_func ?_⟩;obtain⟨t,ht,hq⟩:=hbody A outer s H vs Q E (hr.deeper _) hsp;have I:Inv (kW CX P w K mg base N qual scope f cdv A outer s H E) [] (start N vs) H s1:=Dn S hr.hd e0 hl r x;refine fT (ht [] s1 (start N vs) H _ I hq) (λfl s' hs=>?_) λe s' hs=>hs;have fin:∀{σ':St} {H':Hp} {v:V} {u:av},Inv (kW CX P w K mg base N qual scope f cdv A outer s H E) [] σ' H' s'->RelV v u->Q v H'->CE outer P w H s Q u s':=
  λ{σ' H' v u} J rv q=>⟨v,H',J.os,J.bare,J.base,J.hok,rv,q⟩
 cases fl with
 |ret u=>
  refine Nf hs λv σ' H' J rv q=>?_;exact fin J rv q
 |next=>
  obtain⟨σ',H',J,q⟩:=hs;exact fin (v:=V.non) (u:=eM) J rfl q
 |brk=>
  obtain⟨_,_,_,q⟩:=hs;exact fq q
 |cont=>
  obtain⟨_,_,_,q⟩:=hs;exact fq q
section
variable {X:Cx}{x:Str}{p pos:Pos}{e:Expr}{es:List Expr}{t:TA}{id T:String}{r:List V->Hp->VK->Prop}
def tCB (r:List V->Hp->VK->Prop)(t:TA):TE:=λσ H Q=>t σ H λvs H1=>r vs H1 Q
theorem uY (hc:fX X (.builtin id) r)(hg:Gl X x)(hm:X.mg x=none)(hv:b0 x=some (.builtin id))(ha:PA X (e::es) t)(hn:x≠"__name__":=by decide)(hdb:(x==("__debug__":Str))=false:=by decide)
  (he:ag (e::es) X.env=(false,eval e X.env)::ag es X.env:=by rfl) (ξ:(ia pos<|ag es X.env).any (·.1)=false:=by rfl):PE X (.Call (.Name x p) (e::es) [] pos) (tCB r t):=by
 intro π s σ H Q I h;refine gy<|sV I hg hm hv ?_ hn hdb;exact PyProof.Rows.callWith_builtin1 (thn (ha pos π s σ H _ I h) λus s1 hE=>xq2 hE λvs H1 I1 r1 q1=>hc π s1 σ H1 vs us Q I1 r1 q1) he ξ
theorem yE (hc:fX X (.type T) r)(hg:Gl X x)(hm:X.mg x=none)(hv:b0 x=some (.type T))(ha:PA X (e::es) t)(hn:x≠"__name__":=by decide)(hdb:(x==("__debug__":Str))=false:=by decide)
  (he:ag (e::es) X.env=(false,eval e X.env)::ag es X.env:=by rfl) (ξ:(ia pos<|ag es X.env).any (·.1)=false:=by rfl):PE X (.Call (.Name x p) (e::es) [] pos) (tCB r t):=by
 intro π s σ H Q I h;refine gy<|sV I hg hm hv ?_ hn hdb;exact eD (thn (ha pos π s σ H _ I h) λus s1 hE=>xq2 hE λvs H1 I1 r1 q1=>hc π s1 σ H1 vs us Q I1 r1 q1) he ξ
end
end L2
namespace HT
open PySem PyProof.Rows
theorem abB (A:dy)(s:aS)(a:Int)(t:Tok)(c:Int)(u:Tok):∃e,AJ A s (.int a t) (.int c u) e/\(e=true↔a=c):=
 ⟨(a==c),As a t c u,by simp⟩
theorem abz (A:dy)(s:aS)(a:Int)(t:Tok)(c:Int)(u:Tok)(prog:bo)(w:dc)(E:Zs)(Q:Zs)(h:Q (.bool<|decide<|a<c) s):
  bg (b9 prog w) A (richCompare .Lt (.int a t)<|.int c u) Q E s:=
 (PyProof.Rows.lt_int h:bg (b9 prog w) A (eW .Lt (.int a t)<|.int c u) Q E s)
section
open PySem.SeqAt
open PySem.AutoSeq1 (wpAny_loadPart')
open PySem.MeetsSeq PySem.MeetsSeq2 PySem.MeetsSeq3
end
section
variable {prog:bo}{w:dc}{A:dy}{E:Zs}{s:aS}
theorem Xh (ht:IsTup s.heap t vs.toArray)(hb:IsTup s.heap b ws.toArray)(hv:vs≠[])
  (h1:ws=[]->Q (.ref t) s) (h2:ws≠[]->Q (.ref s.heap.objs.size) { s with heap:=s.heap.push { cls:=.type "tuple",data:=.seq (vs++ws).toArray } })
  (hsz:vs.length+ws.length<=ay):bg (b9 prog w) A (gT .Add (.ref t)<|.ref b) Q E s:=by
 obtain⟨⟨cls,dd,data,sl⟩,ho,hc,n,hd⟩:=id ht;obtain⟨⟨cls2,dd2,data2,sl2⟩,ho2,hc2,n2,hd2⟩:=id hb;simp only at hc hd hc2 hd2;subst hc hd hc2 hd2;have e:vs.toArray++ws.toArray=(vs++ws).toArray:=by simp
 by_cases hw:ws=[]
 ·exact vS ⟨_,ho,rfl⟩ ⟨_,ho2,rfl⟩ ua Au mE mn (me _ _)
   (tuple_addW1 t b vs.toArray ws.toArray n n2 dd dd2 sl sl2 (by simpa using hv) (by simp[hw])) ⟨ho,ho2,h1 hw⟩
 ·refine vS ⟨_,ho,rfl⟩ ⟨_,ho2,rfl⟩ ua Au mE mn (me _ _)
   (tuple_addW2 t b vs.toArray ws.toArray n n2 dd dd2 sl sl2 (by simpa using hv) (by simpa using hw) (by rw[a9,a9];exact hsz)) ⟨ho,ho2,?_⟩
  rw[e];exact h2 hw
noncomputable def sIx (n d:Nat):Option Int->Nat
 |none=>d
 |some v=>if v<0 then(v+(n:Int)).toNat else min v.toNat n
theorem Zu (n d:Nat)(hd:d<=n)(o:Option Int):sIx n d o<=n:=by
 cases o with
 |none=>exact hd
 |some v=>
  show(if v<0 then(v+(n:Int)).toNat else min v.toNat n)<=n;by_cases hv:v<0
  ·rw[if_pos hv];lia
  ·rw[if_neg hv];exact Nat.min_le_right _ _
theorem Mf (v:Int)(n d:Nat):(if v<0 then max (v+(n:Int)) 0 else min v (n:Int))=((sIx n d (some v):Nat):Int):=by
 show(if v<0 then max (v+(n:Int)) 0 else min v (n:Int))=(((if v<0 then(v+(n:Int)).toNat else min v.toNat n):Nat):Int);by_cases hv:v<0
 ·simp only[if_pos hv];lia
 ·simp only[if_neg hv];lia
theorem Lh (lo hi:Option Int)(n:Nat):l0 lo hi 1 (n:Int)=(((sIx n 0 lo:Nat):Int),((sIx n n hi:Nat):Int)):=by
 have h1:¬((1:Int)<0):=by lia
 unfold l0;simp only[h1,if_false];refine Prod.ext ?_ ?_
 ·cases lo with
  |none=>rfl
  |some v=>exact Mf v n 0
 ·cases hi with
  |none=>rfl
  |some v=>exact Mf v n n
theorem KD (i j:Nat):i9 (i:Int) (j:Int) 1=j-i:=by
 unfold i9;have h1:(1:Int)>0:=by lia
 simp only[h1,if_true,Int.ediv_one];split<;>lia
theorem Bc (p:AW v o)(h:Q o s):bg (b9 prog w) A (Builtin.Slice.slicePartIndex v) Q E s:=by
 cases p with
 |none=>exact slicePart_none h
 |int i t=>exact slicePart_int h
theorem yt {sl:Addr}{vl vu:av}{lo hi:Option Int}{n:Nat}{Q:Int×Int×Nat->aS->Prop}(hs:s.heap.IsSliceOf sl vl vu .none)(pl:AW vl lo)(pu:AW vu hi)
  (h:Q (((sIx n 0 lo:Nat):Int),1,sIx n n hi-sIx n 0 lo) s):bg (b9 prog w) A (qA (.ref sl)<|pure (n:Int)) Q E s:=by
 obtain⟨os,hos,hcs,hds⟩:=id hs;unfold qA Builtin.Slice.sliceFields;refine ae<|ae<|hU hos hds (x:=vl) rfl<|ae<|hU hos hds (x:=vu) rfl<|ae<|hU hos hds (x:=.none) rfl<|ah ?_;refine ae<|slicePart_none ?_;show bg _ _ (if((1:Int)==0)=true then _ else _) _ _ s;rw[if_neg<|by decide];refine ae<|Bc pl<|ae<|Bc pu<|ae<|ah ?_;show bg _ _ (match l0 lo hi 1 (n:Int) with|(lo,hi)=>pure (lo,(1:Int),i9 lo hi 1)) _ _ s;rw[Lh lo hi n];show bg _ _ (pure (((sIx n 0 lo:Nat):Int),(1:Int),i9 ((sIx n 0 lo:Nat):Int) ((sIx n n hi:Nat):Int) 1)) _ _ s;rw[KD];exact ah h
theorem Sx (xs:Array av)(i k:Nat):((cm k).filterMap λ(m:Nat)=>xs[((i:Int)+(m:Int)*1).toNat]?).toArray=((xs.toList.drop i).take k).toArray:=by
 have e:(λ(m:Nat)=>xs[((i:Int)+(m:Int)*1).toNat]?)=λm=>xs[i+m]?:=by
  funext m
  have:((i:Int)+(m:Int)*1).toNat=i+m:=by lia
  rw[this]
 rw[e]
 have:=pick_run xs i k
 rw[List.filterMap_map] at this;have e2:((λx=>xs[x]?)∘λx=>i+x)=λm=>xs[i+m]?:=rfl;rw[e2] at this;rw[this]
theorem ym {t sl:Addr}{items:Array av}{vl vu:av}{lo hi:Option Int}{Q:Zs}(ht:IsTup s.heap t items)(hs:s.heap.IsSliceOf sl vl vu .none)(pl:AW vl lo)(pu:AW vu hi)
  (hw:¬(sIx items.size 0 lo=0/\sIx items.size items.size hi=items.size))
  (h:Q (.ref s.heap.objs.size) { s with heap:=s.heap.push { cls:=.type "tuple",data:=.seq ((items.toList.drop<|sIx items.size 0 lo).take<|sIx items.size items.size hi-sIx items.size 0 lo).toArray } })
  (hsz:items.size<=ay):bg (b9 prog w) A (y3 (.ref t)<|.ref sl) Q E s:=by
 have htake:sizeOk (.seq ((items.toList.drop<|sIx items.size 0 lo).take<|sIx items.size items.size hi-sIx items.size 0 lo).toArray):=by
  show((items.toList.drop<|sIx items.size 0 lo).take<|sIx items.size items.size hi-sIx items.size 0 lo).toArray.size<=ay;rw[a9,l6,oy,pz]
  lia
 have hj:sIx items.size items.size hi<=items.size:=Zu _ _ (aI _) hi;obtain⟨os,hos,hcs,hds⟩:=id hs;have hTs:s.TypeIs (.ref sl) "slice":=⟨os,hos,hcs⟩;unfold y3
 try with_reducible refine gX ?_
 first|refine ae (ah ?_)|skip
 refine ae<|wpAny_sequenceKey ht.typeIs (by decide) ?_;refine ae (iq (name:=cf "__getitem__") ht.typeIs ka
  (g9 ka ht.typeIs entry_tuple_getitem ?_<|args_tuple_getitem _ _))
 show bg _ _ (qk (.ref t) >>= _) _ _ s;refine ae<|tupleItemsOf_ ht ?_;refine ae<|mf hTs ?_;rw[if_pos<|by decide];refine ae<|yt hs pl pu ?_;have hno:¬((((sIx items.size 0 lo:Nat):Int)==0&&(1:Int)==1&&(sIx items.size items.size hi-sIx items.size 0 lo)==items.size)=true):=by
  intro q;rw[gL,gL] at q;have q1:((sIx items.size 0 lo:Nat):Int)=0:=eq_of_beq q.1.1;have q2:sIx items.size items.size hi-sIx items.size 0 lo=items.size:=eq_of_beq q.2;exact hw ⟨by lia,by lia⟩
 show bg _ _ (if(((sIx items.size 0 lo:Nat):Int)==0&&(1:Int)==1&&(sIx items.size items.size hi-sIx items.size 0 lo)==items.size)=true then _ else _) _ _ s;rw[if_neg hno,Sx]
 first
  |exact ae (m:=kc _) (eC (ah ⟨_,rfl,ah h⟩) htake)
  |exact ae (m:=kc _) (eC (ae<|ah<|ah ⟨_,rfl,ah h⟩) htake)
  |exact ae (ae (m:=kc _)<|eC (ah<|ah ⟨_,rfl,ah h⟩) htake)
  |exact ae (ae (m:=kc _)<|eC (ah ⟨_,rfl,ah h⟩) htake)
end
end HT
namespace L2
open PySem PySem.Spec PyProof.Rows
abbrev TO:=St->Hp->(Option Int->Hp->Prop)->Prop
def PO (X:Cx)(e:Option Expr)(t:TO):Prop:=
 ∀(π:Zl) (s:aS) (σ:St) (H:Hp) (Q:Option Int->Hp->Prop),Inv X π σ H s->t σ H Q->
  bg (b9 X.prog X.w) X.A (evalPart e X.env) (λu s'=>∃o H',Inv X π σ H' s'/\AW u o/\Q o H') X.xe s
def VG:TO:=λ_ H Q=>Q none H
def abL (t:TE):TO:=λσ H Q=>t σ H λx H1=>∃i,x=.int i/\Q (some i) H1
section
variable {X:Cx}{e:Expr}{te:TE}{lo hi:Option Expr}{tl th:TO}{pos p2:Pos}
theorem WR:PO X none VG:=by
 intro π s σ H Q I h;rw[evalPart_none];exact ah ⟨none,H,I,.none,h⟩
theorem V3 (h:PE X e te):PO X (some e) (abL te):=by
 intro π s σ H Q I hw;rw[evalPart_some];refine thn (h π s σ H _ I hw) λu s1 hE=>xq2 hE λx H1 I1 r1 q1=>?_;obtain⟨i,rfl,q⟩:=q1;obtain⟨t,rfl⟩:=r1;exact⟨some i,H1,I1,.int i t,q⟩
def SlR (X:Cx)(r:V->Option Int->Option Int->Hp->VK->Prop):Prop:=
 ∀(π:Zl) (s:aS) (σ:St) (H:Hp) (x:V) (v vl vu:av) (lo hi:Option Int) (sl:Addr) (Q:VK),Inv X π σ H s->RelV x v->s.heap.IsSliceOf sl vl vu .none->AW vl lo->AW vu hi->r x lo hi H Q->
  ∃T id,xB (.type T) "__getitem__" = pure (some<|.builtin id)/\s.TypeIs v T/\bg (b9 X.prog X.w) X.A (y3 v<|.ref sl) (EP X π σ Q) X.xe s
def tSl (r:V->Option Int->Option Int->Hp->VK->Prop)(te:TE)(tl th:TO):TE:=λσ H Q=>te σ H λx H1=>tl σ H1 λl H2=>th σ H2 λu H3=>r x l u H3 Q
theorem Rb (hr:SlR X r)(he:PE X e te)(hl:PO X lo tl)(hu:PO X hi th):PE X (.Subscript e (.Slice lo hi none p2) pos) (tSl r te tl th):=by
 intro π s σ H Q I h;refine Subscript_<|thn (he π s σ H _ I h) λv s1 hE=>xq2 hE λx H1 I1 r1 q1=>?_;refine wpAny_Slice<|thn (hl π s1 σ H1 _ I1 q1) λvl s2 ⟨l,H2,I2,pl,q2⟩=>thn (hu π s2 σ H2 _ I2 q2) λvu s3 hE=>?_;refine Ca hE λu H3 I3 pu q3=>?_;rw[evalPart_none];refine ah ?_;have I4:Inv X π σ H3 { s3 with heap:=s3.heap.push { cls:=.type "slice",data:=.fields #[vl,vu,.none] } }:=I3.kept (t':=s3.toks) λb ob q=>af _ q;refine Ca (hr π { s3 with heap:=s3.heap.push { cls:=.type "slice",data:=.fields #[vl,vu,.none] } } σ H3 x v vl vu l u s3.heap.objs.size Q I4 r1 (Heap.IsSliceOf.new ..) pl pu q3) λT id hT ht hg=>?_;show bg (b9 X.prog X.w) X.A (AA e (.Slice lo hi none p2) v<|.ref s3.heap.objs.size) (EP X π σ Q) X.xe { s3 with heap:=s3.heap.push { cls:=.type "slice",data:=.fields #[vl,vu,.none] } };exact tail_any (ops:=[.ref s3.heap.objs.size,v]) ht hT hg<|by with_unfolding_all rfl
def Ih (xs:List V)(lo hi:Option Int):List V:=(xs.drop<|HT.sIx xs.length 0 lo).take<|HT.sIx xs.length xs.length hi-HT.sIx xs.length 0 lo
theorem zE (xs:List V)(lo hi:Option Int):(Ih xs lo hi).length<=xs.length:=by
 unfold Ih;rw[l6,oy]
 lia
def ada (K:bb):V->Option Int->Option Int->Hp->VK->Prop:=λx lo hi H Q=>∃a xs,x=.ref a/\SqT K H a xs/\
 ¬(HT.sIx xs.length 0 lo=0/\HT.sIx xs.length xs.length hi=xs.length)/\∀p,H p=none->Q (.ref p) (upd H p<|.tup<|Ih xs lo hi)
theorem aap:SlR X (ada X.K):=by
 intro π s σ H x v vl vu lo hi sl Q I rx hs pl pu h;obtain⟨a,xs,rfl,hx,hw,q⟩:=h;cases rx;obtain⟨χ,r,ht,hz⟩:=I.tuple hx;have ω:χ.toArray.size=xs.length:=by rw[a9];exact r.length.symm
 refine⟨"tuple",_,ka.lookup,ht.typeIs,?_⟩;refine HT.ym ht hs pl pu (by rw[ω];exact hw) ?_ (by rw[ω];exact hz);rw[ω];refine⟨.ref s.heap.objs.size,_,I.laid (t':=s.toks) (o:=.tup<|Ih xs lo hi) (λb ob q=>af _ q) (aI _) ?_,rfl,q _<|I.hok.fresh<|aI _⟩;exact⟨cy (zE xs lo hi) hz,_,(r.drop<|HT.sIx xs.length 0 lo).take<|HT.sIx xs.length xs.length hi-HT.sIx xs.length 0 lo,Iz.new _ _⟩
def acf (K:bb):R2:=λx y H Q=>∃a b xs ys,x=.ref a/\y=.ref b/\SqT K H a xs/\SqT K H b ys/\xs≠[]/\xs.length+ys.length<=ay/\
 (ys=[]->Q (.ref a) H)/\(ys≠[]->∀p,H p=none->Q (.ref p) (upd H p<|.tup<|xs++ys))
theorem Vals.Hj (r:Vals xs us):us=[]↔xs=[]:=by
 cases r with
 |nil=>simp
 |cons _ _=>simp
theorem V6:OpR X (gT .Add) (acf X.K):=by
 intro π s σ H x y v u Q I rx ry h;obtain⟨a,b,xs,ys,rfl,rfl,ha,hb,hx,hz,q1,q2⟩:=h;cases rx;cases ry;obtain⟨χ,r1,p1,_⟩:=I.tuple ha;obtain⟨its2,r2,p2,_⟩:=I.tuple hb;refine HT.Xh p1 p2 (λz=>hx<|r1.Hj.mp z) (λz=>⟨.ref a,H,I,rfl,q1<|r2.Hj.mp z⟩) (λz=>?_) (by rw[← r1.length,← r2.length];exact hz);refine⟨.ref s.heap.objs.size,_,I.laid (t':=s.toks) (o:=.tup<|xs++ys) (λb ob q=>af _ q) (aI _) ?_,rfl,q2 (λw=>z<|r2.Hj.mpr w) _<|I.hok.fresh<|aI _⟩;exact⟨by rw[cc];exact hz,_,r1.append r2,Iz.new _ _⟩
end
noncomputable def ixN (n:Nat)(i:Int):Option Nat:=if 0<=i then(if i<n then some i.toNat else none) else if -(n:Int)<=i then some (i+n).toNat else none
def atI {α:Type}(xs:List α)(i:Int):Option α:=(ixN xs.length i).bind λj=>xs[j]?
theorem O3 (h:ixN n i=some j):seqIndex? i n=some j/\j<n/\-(n:Int)<=i/\i<n:=by
 unfold ixN at h;by_cases h0:0<=i
 ·rw[if_pos h0] at h;by_cases h1:i<n
  ·rw[if_pos h1] at h;have e:i.toNat=j:=bX h;exact⟨by rw[seqIndex_of h0 h1,e],by lia,by lia,h1⟩
  ·rw[if_neg h1] at h;cases h
 ·rw[if_neg h0] at h;by_cases h1:-(n:Int)<=i
  ·rw[if_pos h1] at h;have e:(i+n).toNat=j:=bX h;exact⟨by rw[seqIndex_neg (by lia) h1,e],by lia,h1,by lia⟩
  ·rw[if_neg h1] at h;cases h
theorem Gk (h:atI xs i=some v):∃j,seqIndex? i xs.length=some j/\xs[j]? = some v/\j<xs.length/\-(xs.length:Int)<=i/\i<xs.length:=by
 unfold atI at h;cases e:ixN xs.length i with
 |none=>rw[e] at h;cases h
 |some j=>
  rw[e] at h;obtain⟨h1,h2,h3,h4⟩:=O3 e;exact⟨j,h1,h,h2,h3,h4⟩
theorem mD {α:Type}{xs:List α}{j:Nat}{v:α}(h:xs[j]? = some v):atI xs (j:Int)=some v:=by
 have hj:j<xs.length:=(d3.mp h).1;have e:ixN xs.length (j:Int)=some j:=by
  unfold ixN;rw[if_pos (by lia),if_pos<|by lia];simp
 unfold atI;rw[e];exact h
def zZ (b:Expr):Prop:=∀o i,y4 b false o i=operate [o,i] (y3 o i)
def IxR (X:Cx)(r:R2):Prop:=
 ∀(value slice:Expr) (π:Zl) (s:aS) (σ:St) (H:Hp) (x y:V) (v u:av) (Q:VK),Inv X π σ H s->RelV x v->RelV y u->r x y H Q->
  y4 slice false v u=operate [v,u] (y3 v u)->bg (b9 X.prog X.w) X.A (AA value slice v u) (EP X π σ Q) X.xe s
def MtR (X:Cx)(id:String)(r:V->List V->Hp->VK->Prop):Prop:=
 ∀(π:Zl) (s:aS) (σ:St) (H:Hp) (x:V) (xs:List V) (v:av) (us:List av) (Q:VK),Inv X π σ H s->RelV x v->Vals xs us->r x xs H Q->
  bg (b9 X.prog X.w) X.A (call (.builtin id) (v::us)) (EP X π σ Q) X.xe s
section
variable {X:Cx}{a b:Expr}{ta tb:TE}{pos:Pos}
theorem abj (hr:IxR X r)(ha:PE X a ta)(hb:PE X b tb)(hs:zZ b):PE X (.Subscript a b pos) (tOp r ta tb):=by
 intro π s σ H Q I h;exact Subscript_<|aax ha hb I h λv u s2 x y H2 I2 rx ry q=>hr a b π s2 σ H2 x y v u Q I2 rx ry q<|hs _ _
def ac8 (K:bb):R2:=λx y H Q=>∃p xs i v,x=.ref p/\y=.int i/\SqL K H p xs/\atI xs i=some v/\Q v H
def adw (K:bb):R2:=λx y H Q=>∃p xs i v,x=.ref p/\y=.int i/\SqT K H p xs/\atI xs i=some v/\Q v H
def adQ:R2:=λx y H Q=>∃z i c,x=.str z/\y=.int i/\z.length<=ay/\atI z.cps.toList i=some c/\Q (.str ⟨#[c]⟩) H
theorem Wl:IxR X (ac8 X.K):=by
 intro value slice π s σ H x y v u Q I rx ry h hs;obtain⟨p,xs,i,z,rfl,rfl,hq,he,q⟩:=h;cases rx;obtain⟨t,rfl⟩:=ry;obtain⟨χ,r,pl,hz⟩:=I.list hq;refine Tw (Gk he) λj h1 h2 h3 h4 h5=>?_;obtain⟨w,ew,rw'⟩:=r.get h2;have hl:=r.length;have hn:=yR;have fin:EP X π σ Q w s:=⟨z,H,I,rw',q⟩;by_cases h0:0<=i
 ·have hj:i.toNat=j:=by
   rw[seqIndex_of h0 h5] at h1;exact bX h1
  exact item_listR pl.isList h0 (by lia) (by rw[hj];simpa using ew) fin hs
 ·have hj:(i+(χ.toArray.size:Int)).toNat=j:=by
   rw[seqIndex_neg (by lia) h4] at h1;rw[a9,← hl];exact bX h1
  exact subscriptTail_builtinR (x:=w) pl.isList.typeIs slot_list_getitem.lookup
   (wpAny_getItem_list_neg (Q:=λr s'=>r=w/\EP X π σ Q r s') pl.isList (by lia) (by rw[a9]<;>lia) (by lia) (by rw[hj];simpa using ew) ⟨rfl,fin⟩) hs
theorem aaz:IxR X (adw X.K):=by
 intro value slice π s σ H x y v u Q I rx ry h hs;obtain⟨p,xs,i,z,rfl,rfl,hq,he,q⟩:=h;cases rx;obtain⟨t,rfl⟩:=ry;obtain⟨χ,r,pl,hz⟩:=I.tuple hq;refine Tw (Gk he) λj h1 h2 h3 h4 h5=>?_;obtain⟨w,ew,rw'⟩:=r.get h2;have hl:=r.length;have hn:=yR;have fin:EP X π σ Q w s:=⟨z,H,I,rw',q⟩;exact subscriptTail_builtinR (x:=w) pl.typeIs slot_tuple_getitem.lookup
  (getItem_tuple (j:=j) (Q:=λr s'=>r=w/\EP X π σ Q r s') pl (by lia) (by lia) (by rw[a9,← hl];exact h1) (by simpa using ew) ⟨rfl,fin⟩) hs
theorem aaJ:IxR X adQ:=by
 intro value slice π s σ H x y v u Q I rx ry h hs;obtain⟨z,i,c,rfl,rfl,hz,he,q⟩:=h;obtain⟨t,rfl⟩:=rx;obtain⟨t',rfl⟩:=ry;refine Tw (Gk he) λj h1 h2 h3 h4 h5=>?_;have hl:z.cps.toList.length=z.length:=by simp[Str.length]
 rw[hl] at h1 h4 h5;have hn:=yR;exact tail_any (si s z t) slot_str_getitem.lookup (getItem_str (c:=c) (by
  have e1:decide (i < -(2^63:Int))=false:=decide_eq_false (by lia);have e2:decide (i≥2^63)=false:=decide_eq_false (by lia);rw[e1,e2,Bool.or_false]) (by rw[h1];simpa using h2) ⟨.str ⟨#[c]⟩,H,I.tok _,⟨_,rfl⟩,q⟩) hs
theorem JD (χ:List av)(n j:Nat)(u:av):pk (·.setIfInBounds j u) { cls:=.type "list",data:=.seq χ.toArray n }={ cls:=.type "list",data:=.seq (χ.set j u).toArray n }:=by
 simp[pk]
theorem Inv.lst (I:Inv X π σ H s)(h:H p=some (.lst xs)):
  ∃(χ:List av) (n:Nat),Vals xs χ/\s.heap.get? p=some { cls:=.type "list",data:=.seq χ.toArray n }/\xs.length<=ay:=by
 obtain⟨z,χ,n,r,e⟩:=I.hok p _ h;exact⟨χ,n,r,e,z⟩
theorem Inv.Za {s:aS}{xs ys:List V}{χ its':List av}(I:Inv X π σ H s)(h:H p=some (.lst xs))
  (ho:s.heap.get? p=some { cls:=.type "list",data:=.seq χ.toArray n }) (hf:f { cls:=.type "list",data:=.seq χ.toArray n }={ cls:=.type "list",data:=.seq its'.toArray n' }) (r:Vals ys its') (hz:ys.length<=ay) (t:Nat):
  Inv X π σ (upd H p<|.lst ys) { s with heap:=s.heap.update p f,toks:=t }:=by
 have e:(s.heap.update p f).get? p=some { cls:=.type "list",data:=.seq its'.toArray n' }:=by
  rw[dP f ho (by rw[hf]<;>rfl),hf]
 refine I.write (x:=p) (e:=p) (by rw[h];trivial) (.inl rfl) (λb u hb q=>(cw _ _<|iP hb).trans q) ⟨_,e⟩ ?_;exact⟨hz,its',n',r,e⟩
def abN:V->V->V->Hp->(Hp->Prop)->Prop:=λo i v H Q=>∃p xs k j,o=.ref p/\i=.int k/\H p=some (.lst xs)/\ixN xs.length k=some j/\Q (upd H p<|.lst<|xs.set j v)
theorem set_list:abn X abN:=by
 intro π s σ H o i v ov iv u Q I ro ri rv h;obtain⟨p,xs,k,j,rfl,rfl,hp,hj,q⟩:=h;cases ro;obtain⟨t,rfl⟩:=ri;refine Ca (I.lst hp) λχ n r ho hz=>?_;obtain⟨h1,h2,h3,h4⟩:=O3 hj;have hl:=r.length;have hn:=yR;have I':Inv X π σ (upd H p<|.lst<|xs.set j v) { s with heap:=s.heap.update p (pk (·.setIfInBounds j u)) }:=
  I.Za hp ho (JD χ n j u) (r.set rv j) (by rw[List.length_set];exact hz) s.toks
 by_cases h0:0<=k
 ·have hk:k.toNat=j:=by
   rw[seqIndex_of h0 h4] at h1;exact bX h1
  exact W.ki_setAt ho h0 (by lia) (by rw[a9,← hl];exact h4) (by rw[hk];exact⟨_,I',q⟩)
 ·have hk:(k+(χ.toArray.size:Int)).toNat=j:=by
   rw[seqIndex_neg (by lia) h3] at h1;rw[a9,← hl];exact bX h1
  exact W.ki_setBack ho (by lia) (by rw[a9,← hl];exact h3) (by lia) (by rw[hk];exact⟨_,I',q⟩)
theorem G4 (lo hi:Option Int)(n:Nat):(mT lo hi none n).1=((HT.sIx n 0 lo:Nat):Int)/\(mT lo hi none n).2.1=((HT.sIx n n hi:Nat):Int)/\(mT lo hi none n).2.2=1:=by
 refine⟨?_,?_,rfl⟩
 ·cases lo with
  |none=>simp[mT,HT.sIx]
  |some i=>
   simp only[mT,HT.sIx,Option.getD_none,show(1:Int)>0 by decide,if_true];by_cases h:i<0
   ·simp only[h,if_true]<;>lia
   ·simp only[h,if_false]<;>lia
 ·cases hi with
  |none=>simp[mT,HT.sIx]
  |some i=>
   simp only[mT,HT.sIx,Option.getD_none,show(1:Int)>0 by decide,if_true];by_cases h:i<0
   ·simp only[h,if_true]<;>lia
   ·simp only[h,if_false]<;>lia
theorem CV (χ:List av)(lo hi:Option Int):slicePick χ.toArray lo hi none=((χ.drop<|HT.sIx χ.length 0 lo).take<|HT.sIx χ.length χ.length hi-HT.sIx χ.length 0 lo).toArray:=by
 obtain⟨h1,h2,h3⟩:=G4 lo hi χ.toArray.size;unfold slicePick;rw[h1,h2,h3];simp only[sliceRange_one,pick_run,a9]<;>rfl
def adv (K:bb):V->Option Int->Option Int->Hp->VK->Prop:=λx lo hi H Q=>∃a xs,x=.ref a/\SqL K H a xs/\∀p,H p=none->Q (.ref p) (upd H p<|.lst<|Ih xs lo hi)
theorem Vw:SlR X (adv X.K):=by
 intro π s σ H x v vl vu lo hi sl Q I rx hs pl pu h;obtain⟨a,xs,rfl,hx,q⟩:=h;cases rx;obtain⟨χ,r,ht,hz⟩:=I.list hx;have ω:=r.length;refine⟨"list",_,slot_list_getitem.lookup,ht.isList.typeIs,?_⟩;refine wpAny_getItem_list_slice ht.isList hs pl pu .none (by simp) ?_ (by rw[a9]<;>lia);rw[CV,← ω];refine⟨.ref s.heap.objs.size,_,I.laid (t':=s.toks) (o:=.lst<|Ih xs lo hi) (λb ob q=>af _ q) (aI _) ?_,rfl,q _<|I.hok.fresh<|aI _⟩;exact⟨cy (zE xs lo hi) hz,_,0,(r.drop<|HT.sIx xs.length 0 lo).take<|HT.sIx xs.length xs.length hi-HT.sIx xs.length 0 lo,a7 _ rfl⟩
def v7:V->Bool
 | .non=>true
 | .bl _=>true
 | .int _=>true
 | .str _=>true
 |_=>false
def eqV:V->V->Bool
 | .non,.non=>true
 | .bl a,.bl b=>a==b
 | .bl a,.int b=>(if a then 1 else 0)==b
 | .int a,.bl b=>a==(if b then 1 else 0)
 | .int a,.int b=>a==b
 | .str a,.str b=>a==b
 |_,_=>false
theorem Zf (ry:RelV y u)(rx:RelV x v)(fy:v7 y=true)(fx:v7 x=true):AJ A s u v (eqV y x):=by
 cases y with
 |non=>
  cases ry;cases x with
  |non=>cases rx;exact A9 _
  |bl b=>cases rx;exact SeqAt.EqAt.none_bool b
  |int b=>obtain⟨t,rfl⟩:=rx;exact SeqAt.EqAt.none_int b t
  |str b=>obtain⟨t,rfl⟩:=rx;exact SeqAt.EqAt.none_str b t
  |_=>exact absurd (show false=true from fx) aE
 |bl a=>
  cases ry;cases x with
  |non=>cases rx;exact SeqAt.EqAt.bool_none a
  |bl b=>cases rx;exact SeqAt.EqAt.bool_bool a b
  |int b=>obtain⟨t,rfl⟩:=rx;exact SeqAt.EqAt.bool_int a b t
  |str b=>obtain⟨t,rfl⟩:=rx;exact SeqAt.EqAt.bool_str a b t
  |_=>exact absurd (show false=true from fx) aE
 |int a=>
  obtain⟨t',rfl⟩:=ry;cases x with
  |non=>cases rx;exact SeqAt.EqAt.int_none a t'
  |bl b=>cases rx;exact SeqAt.EqAt.int_bool a t' b
  |int b=>obtain⟨t,rfl⟩:=rx;exact As a t' b t
  |str b=>obtain⟨t,rfl⟩:=rx;exact zk a t' b t
  |_=>exact absurd (show false=true from fx) aE
 |str a=>
  obtain⟨t',rfl⟩:=ry;cases x with
  |non=>cases rx;exact SeqAt.EqAt.str_none a t'
  |bl b=>cases rx;exact SeqAt.EqAt.str_bool a t' b
  |int b=>obtain⟨t,rfl⟩:=rx;exact zo a t' b t
  |str b=>obtain⟨t,rfl⟩:=rx;exact SeqAt.EqAt.str_str a t' b t
  |_=>exact absurd (show false=true from fx) aE
 |_=>exact absurd (show false=true from fy) aE
def eqU (x:V)(u:av):Bool:=match u with
 | .none=>eqV .non x
 | .bool b=>eqV (.bl b) x
 | .int i _=>eqV (.int i) x
 | .str z _=>eqV (.str z) x
 |_=>false
theorem Vp (r:RelV y u)(f:v7 y=true):eqU x u=eqV y x:=by
 cases y with
 |non=>cases r;rfl
 |bl b=>cases r;rfl
 |int i=>obtain⟨t,rfl⟩:=r;rfl
 |str z=>obtain⟨t,rfl⟩:=r;rfl
 |_=>exact absurd (show false=true from f) aE
theorem Hc:∀{xs:List V} {us:List av},Vals xs us->xs.all v7=true->us.any (eqU x)=xs.any λy=>eqV y x
 |_,_,.nil,_=>rfl
 |y::xs,u::us,.cons r t,f=>by
  rw[k7,gL] at f;rw[kB,kB,Vp r f.1,Hc t f.2]
theorem Aw (rx:RelV x v)(fx:v7 x=true):∀{xs:List V} {us:List av},Vals xs us->xs.all v7=true->∀u∈us,AJ A s u v (eqU x u)
 |_,_,.nil,_=>λu hu=>by cases hu
 |y::xs,u::us,.cons r t,f=>λu' hu=>by
  rw[k7,gL] at f;rcases bq.mp hu with rfl|hu
  ·rw[Vp r f.1];exact Zf r rx f.1 fx
  ·exact Aw rx fx t f.2 u' hu
def inV (x:V)(xs:List V):Bool:=xs.any λy=>eqV y x
def rIn (K:bb)(neg:Bool):R2:=λx y H Q=>∃p xs,y=.ref p/\(SqL K H p xs\/SqT K H p xs)/\v7 x=true/\xs.all v7=true/\Q (.bl<|if neg then !inV x xs else inV x xs) H
theorem Ew:OpR X (eW .In) (rIn X.K false):=by
 intro π s σ H x y v u Q I rx ry h;obtain⟨p,xs,rfl,hq,fx,fs,q⟩:=h;cases ry;rcases hq with hq|hq
 ·obtain⟨χ,r,pl,hz⟩:=I.list hq;refine SeqAt.in_listAt (eqU x) pl.isList (λw hw=>Aw rx fx r fs w<|by simpa using hw) ⟨.bl _,H,I,rfl,?_⟩;rw[show χ.toArray.any (eqU x)=χ.any (eqU x) by simp,Hc r fs];exact q
 ·obtain⟨χ,r,pl,hz⟩:=I.tuple hq;refine SeqAt.in_tupleAt (eqU x) pl (λw hw=>Aw rx fx r fs w<|by simpa using hw) ⟨.bl _,H,I,rfl,?_⟩;rw[show χ.toArray.any (eqU x)=χ.any (eqU x) by simp,Hc r fs];exact q
theorem xV:fX X (.builtin "len") (λxs H Q=>∃p ys,xs=[.ref p]/\(SqL X.K H p ys\/SqT X.K H p ys)/\Q (.int ys.length) H):=by
 intro π s σ H xs us Q I r h;obtain⟨p,ys,rfl,hq,q⟩:=h;obtain⟨u,rfl,rx⟩:=vals1 r;cases rx;have hn:=yR;rcases hq with hq|hq
 ·obtain⟨χ,r',pl,hz⟩:=I.list hq;have ω:=r'.length;exact Calls.call_len_list pl.isList (by simp only[a9]<;>lia) ⟨.int ys.length,H,I.tok _,⟨s.toks+1,by rw[a9,ω]⟩,q⟩
 ·obtain⟨χ,r',pl,hz⟩:=I.tuple hq;have ω:=r'.length;exact len_tuple pl (by simp only[a9]<;>lia) ⟨.int ys.length,H,I.tok _,⟨s.toks+1,by rw[a9,ω]⟩,q⟩
theorem G9:fX X (.builtin "len") (λxs H Q=>∃z,xs=[.str z]/\z.length<=ay/\Q (.int z.length) H):=by
 intro π s σ H xs us Q I r h;obtain⟨z,rfl,hz,q⟩:=h;obtain⟨u,rfl,t,rfl⟩:=vals1 r;have hn:=yR;exact len_str (by lia) ⟨.int z.length,H,I.tok _,⟨_,rfl⟩,q⟩
theorem Fq:fX X (.type "list") (λxs H Q=>∃p ys,xs=[.ref p]/\(SqL X.K H p ys\/SqT X.K H p ys)/\∀l,H l=none->Q (.ref l) (upd H l<|.lst ys)):=by
 intro π s σ H xs us Q I r h;obtain⟨p,ys,rfl,hq,q⟩:=h;obtain⟨u,rfl,rx⟩:=vals1 r;cases rx;have fin:∀(χ:List av),Vals ys χ->ys.length<=ay->∀(h':Heap) (c':Nat),(∀b o',s.heap.get? b=some o'->h'.get? b=some o')->
   h'.get? s.heap.objs.size=some { cls:=.type "list",dict:=none,data:=.seq χ.toArray c',slots:=#[] }->EP X π σ Q (.ref s.heap.objs.size) { s with heap:=h' }:=λχ r' hz h' c' kp e=>
  ⟨.ref s.heap.objs.size,_,I.laid (t':=s.toks) kp (aI _)<|show cG X.prog X.w _ h' _ (.lst ys) from⟨hz,χ,c',r',e⟩,rfl,q _<|I.hok.fresh<|aI _⟩
 rcases hq with hq|hq
 ·obtain⟨χ,r',pl,hz⟩:=I.list hq;have ω:=r'.length;obtain⟨o,ho,hc,n,hd⟩:=pl.isList;exact call_list_seq p (.inl rfl) ho hc hd (λh' c' kp e=>fin χ r' hz h' c' kp e) (by simp only[a9]<;>lia)
 ·obtain⟨χ,r',pl,hz⟩:=I.tuple hq;have ω:=r'.length;obtain⟨o,ho,hc,n,hd⟩:=pl;exact call_list_seq p (.inr rfl) ho hc hd (λh' c' kp e=>fin χ r' hz h' c' kp e) (by simp only[a9]<;>lia)
theorem vR:fX X (.type "tuple") (λxs H Q=>∃p ys,xs=[.ref p]/\((SqL X.K H p ys/\∀l,H l=none->Q (.ref l) (upd H l<|.tup ys))\/(SqT X.K H p ys/\Q (.ref p) H))):=by
 intro π s σ H xs us Q I r h;obtain⟨p,ys,rfl,h⟩:=h;obtain⟨u,rfl,rx⟩:=vals1 r;cases rx;rcases h with⟨hq,q⟩|⟨hq,q⟩
 ·obtain⟨χ,r',pl,hz⟩:=I.list hq;have ω:=r'.length;refine call_tuple_list pl.isList (λh' kp=>?_) (by simp only[a9]<;>lia);have I1:Inv X π σ H { s with heap:=h' }:=I.kept (t':=s.toks) kp;have I2:Inv X π σ (upd H h'.objs.size<|.tup ys) { s with heap:=h'.push { cls:=.type "tuple",data:=.seq χ.toArray } }:=
   I1.laid (t':=s.toks) (λb o e=>af _ e) (aI _) (show cG X.prog X.w _ _ _ (.tup ys) from⟨hz,χ,r',Iz.new _ _⟩)
  exact⟨.ref h'.objs.size,_,I2,rfl,q _<|I1.hok.fresh<|aI _⟩
 ·obtain⟨χ,r',pl,hz⟩:=I.tuple hq;exact call_tuple_same pl ⟨.ref p,H,I,rfl,q⟩
def tyV (K:bb)(T:String)(x:V)(H:Hp):Prop:=match x with
 | .str _=>T = "str"
 | .int _=>T = "int"
 | .ref p=>(T = "list"/\∃xs,SqL K H p xs)\/(T = "tuple"/\∃o,K.lookup p=some o/\o.cls=.type "tuple"/\o.dict=none) ∨
   (T = "dict"/\((∃ι,Rd H p<|.dK ι)\/∃T ι,Rd H p<|.dT T ι))\/(T = "set"/\∃S n,H p=some (.set S n))
 |_=>False
theorem Uq (I:Inv X π σ H s)(r:RelV x v)(ty:tyV X.K T x H):
  s.TypeIs v T/\∀a,v=.ref a->∃ob,s.heap.get? a=some ob/\ob.dict=none:=by
 cases x with
 |str z=>
  obtain⟨t,rfl⟩:=r;cases(show T = "str" from ty);exact⟨si s z t,λ_ e=>nomatch e⟩
 |int i=>
  obtain⟨t,rfl⟩:=r;cases(show T = "int" from ty);exact⟨nc s i t,λ_ e=>nomatch e⟩
 |ref p=>
  cases r;rcases ty with⟨rfl,xs,hq⟩|⟨rfl,o,hk,hc,hd⟩|⟨rfl,hk⟩|⟨rfl,S,n,hk⟩
  ·obtain⟨χ,_,pl,_⟩:=I.list hq;refine⟨pl.isList.typeIs,λa e=>?_⟩;cases e;refine zr pl λo n e c hd _=>?_;exact⟨o,e,hd⟩
  ·refine⟨⟨o,I.kIn p o hk,hc⟩,λa e=>?_⟩;cases e;exact⟨o,I.kIn _ o hk,hd⟩
  ·have z:∃o,s.heap.get? p=some o/\o.ExactDict:=by
    rcases hk with⟨ι,hk⟩|⟨_,ι,hk⟩
    ·obtain⟨_,_,_,_,o,_,_,e,ex,_⟩:=(show cG X.prog X.w H s.heap p (.dK ι) from hk.ok I.hok);exact⟨o,e,ex⟩
    ·obtain⟨_,_,_,_,o,_,_,e,ex,_⟩:=(show cG X.prog X.w H s.heap p (.dT _ ι) from hk.ok I.hok);exact⟨o,e,ex⟩
   obtain⟨o,e,ex⟩:=z;refine⟨⟨o,e,ex.1⟩,λa e2=>?_⟩;cases e2;exact⟨o,e,ex.2.1⟩
  ·refine ab1 (I.hok p _ hk) λo _ _ _ e ex _=>?_;refine⟨⟨o,e,ex.1⟩,λa e2=>?_⟩;cases e2;exact⟨o,e,ex.2.1⟩
 |_=>exact fq ty
def adL (K:bb)(T:String)(r:V->List V->Hp->VK->Prop)(to:TE):TE:=λσ H Q=>to σ H λx H1=>tyV K T x H1/\r x [] H1 Q
def tBM (K:bb)(T:String)(r:V->List V->Hp->VK->Prop)(to:TE)(t:TA):TE:=λσ H Q=>to σ H λx H1=>tyV K T x H1/\t σ H1 λxs H2=>r x xs H2 Q
variable {o e:Expr}{es:List Expr}{to:TE}{t:TA}{name:Str}{apos ρ:Pos}{T id:String}{r:V->List V->Hp->VK->Prop}
theorem KZ (pa:PlainAttrs T)(slot:Slot T name id)(hty:typeOf (.builtin id)=pure (.type "method_descriptor"))(hm:MtR X id r)(ho:PE X o to)
  (ζ:h8 o name X.env (eval o X.env)=eval o X.env:=by rfl) (ν:(apos.endLine==ρ.line)=true:=by rfl):PE X (.Call (.Attribute o name apos) [] [] ρ) (adL X.K T r to):=by
 intro π s σ H Q I h;refine wpAny_Call_method0_late ζ ν<|thn (ho π s σ H _ I h) λv s1 hE=>?_;refine zr hE λx H1 I1 r1 ty q1=>?_;obtain⟨h1,h2⟩:=Uq I1 r1 ty;exact⟨T,id,pa,slot,hty,h1,h2,mI rfl<|PySem.evalArgs_none<|hm π s1 σ H1 x [] v [] Q I1 r1 .nil q1⟩
theorem Uz (pa:PlainAttrs T)(slot:Slot T name id)(hty:typeOf (.builtin id)=pure (.type "method_descriptor"))(hm:MtR X id r)(ho:PE X o to)(ha:PA X (e::es) t)
  (ζ:h8 o name X.env (eval o X.env)=eval o X.env:=by rfl)
  (θ:((ia ρ<|ag (e::es) X.env).all (λx=>!x.1)&&(A6 ρ<|sN [] X.env).all (λx=>x.1.isSome)
   && decide ((e::es).length+([]:List sP).length+(if([]:List sP).isEmpty then 0 else 1)<30))=true:=by rfl)
  (ν:(apos.endLine==ρ.line)=true:=by rfl) (hs:ag (e::es) X.env=(false,eval e X.env)::ag es X.env:=by rfl) (hplain:(ia ρ<|ag es X.env).any (·.1)=false:=by rfl):
  PE X (.Call (.Attribute o name apos) (e::es) [] ρ) (tBM X.K T r to t):=by
 intro π s σ H Q I h;refine wpAny_Call_method_late ζ θ ν rfl<|thn (ho π s σ H _ I h) λv s1 hE=>?_;refine zr hE λx H1 I1 r1 ty q1=>?_;obtain⟨h1,h2⟩:=Uq I1 r1 ty;refine⟨T,id,pa,slot,hty,h1,h2,?_⟩;have hA:=ha ρ π s1 σ H1 _ I1 q1;rw[hs] at hA ⊢;refine mI (by show(false||(ia ρ<|ag es X.env).any (·.1))=false;rw[hplain]<;>rfl)<|oQ ?_;exact thn hA λus s2 hE=>xq2 hE λvs H2 I2 r2 q2=>hm π s2 σ H2 x vs v us Q I2 r1 r2 q2
end
def MtM (X:Cx)(id:String)(r:V->List V->Hp->VK->Prop):Prop:=
 ∀(π:Zl) (s:aS) (σ:St) (H:Hp) (x:V) (xs:List V) (v:av) (us:List av) (Q:VK),Inv X π σ H s->RelV x v->Vals xs us->r x xs H Q->
  bg (b9 X.prog X.w) X.A (call (.builtin id) (v::us)) (EP X π σ Q) X.xe s
theorem Vals.one:∀{x:V} {us:List av},Vals [x] us->∃u,us=[u]/\RelV x u
 |_,_,.cons r .nil=>⟨_,rfl,r⟩
theorem Vals.zero:∀{us:List av},Vals [] us->us=[]
 |_,.nil=>rfl
theorem Vals.dropLast (h:Vals xs us):Vals xs.dropLast us.dropLast:=by
 induction h with
 |nil=>exact .nil
 |cons r t ih=>
  cases t with
  |nil=>exact .nil
  |cons q t'=>exact .cons r ih
theorem Vals.reverse (h:Vals xs us):Vals xs.reverse us.reverse:=by
 induction h with
 |nil=>exact .nil
 |cons r t ih=>rw[kd,kd];exact Vals.append ih<|.cons r .nil
theorem Vals.rep (h:Vals xs us):∀k:Nat,Vals (br k xs).flatten (br k us).flatten
 |0=>.nil
 |k+1=>by
  rw[hV,hV,kg,kg];exact Vals.append h<|Vals.rep h k
theorem JS (l:List α):l.eraseIdx (l.length-1)=l.dropLast:=by
 induction l with
 |nil=>rfl
 |cons a r ih=>
  cases r with
  |nil=>rfl
  |cons b r=>
   have e:(a::b::r).length-1=((b::r).length-1)+1:=by
    have h1:(a::b::r).length=r.length+2:=rfl;have h2:(b::r).length=r.length+1:=rfl
    lia
   rw[e,List.eraseIdx_cons_succ,ih]
   all_goals rfl
theorem foldl_rep (χ:List av):∀(k:Nat) (acc:List av),
  xC (λx1 x2=>x1++x2) acc.toArray (br k χ.toArray)=(acc++(br k χ).flatten).toArray
 |0,acc=>by simp
 |k+1,acc=>by
  have e:acc.toArray++χ.toArray=(acc++χ).toArray:=by simp
  have e2:(acc++χ)++(br k χ).flatten=acc++(br (k+1) χ).flatten:=by
   rw[hV,kg,gc]
  rw[← e2,← foldl_rep χ k (acc++χ),← e,hV,kT]
section
variable {X:Cx}{π:Zl}{σ:St}{H:Hp}{s:aS}{l b:Addr}{xs ys zs:List V}
theorem Inv.aak {χ its':List av}(I:Inv X π σ H s)(hH:H l=some (.lst xs))
  (e:s.heap.get? l=some { cls:=.type "list",data:=.seq χ.toArray n }) (hf:f χ.toArray=its'.toArray) (hv:Vals ys its') (hz:ys.length<=ay):
  Inv X π σ (upd H l<|.lst ys) { s with heap:=s.heap.update l<|pk f,toks:=t' }:=by
 have q:=PySem.IsL.update e f;rw[hf] at q;refine I.write (x:=l) (e:=l) (by rw[hH];exact trivial) (.inl rfl) (λb' u hb hu=>(cw s.heap (pk f)<|iP hb).trans hu) ⟨_,q⟩ ?_;exact⟨hz,its',_,hv,q⟩
theorem Inv.X7 (I:Inv X π σ H s)(hH:H l=some (.lst xs)):xs.length<=ay/\∃(χ:List av) (n:Nat),Vals xs χ/\xs.length=χ.length/\s.heap.get? l=some { cls:=.type "list",data:=.seq χ.toArray n }:=by
 obtain⟨z,χ,n,r,e⟩:=I.hok l _ hH;exact⟨z,χ,n,r,r.length,e⟩
theorem HD (h:n<=ay):ic n=false:=by
 unfold ic;exact decide_eq_false<|by lia
end
section
variable {X:Cx}
def W0:V->List V->Hp->VK->Prop:=λx vs H Q=>∃l xs y,x=.ref l/\vs=[y]/\H l=some (.lst xs)/\xs.length<ay/\Q .non (upd H l<|.lst<|xs++[y])
theorem DP:MtM X "list.append" W0:=by
 intro π s σ H x vs v us Q I rx rv h;obtain⟨l,xs,y,rfl,rfl,hH,hz,q⟩:=h;cases rx;obtain⟨u,rfl,ru⟩:=rv.one;obtain⟨z,χ,n,r,hl,e⟩:=I.X7 hH;refine xD F.slot_list_append ⟨_,e,rfl⟩ F.entry_list_append (F.args_list_append_2 _ _) (PySem.list_append l χ.toArray n u (by rw[a9];lia)) ⟨e,?_⟩;refine⟨.non,_,I.aak (its':=χ++[u]) hH e (by simp) (r.append<|.cons ru .nil) ?_,rfl,q⟩;rw[cc,eK]
 lia
def Xx:V->List V->Hp->VK->Prop:=λx vs H Q=>∃l b xs zs,x=.ref l/\vs=[.ref b]/\H l=some (.lst xs)/\H b=some (.lst zs)/\xs.length+zs.length<=ay/\Q .non (upd H l<|.lst<|xs++zs)
theorem QR:MtM X "list.extend" Xx:=by
 intro π s σ H x vs v us Q I rx rv h;obtain⟨l,b,xs,zs,rfl,rfl,hH,hB,hz,q⟩:=h;cases rx;obtain⟨u,rfl,ru⟩:=rv.one;cases ru;obtain⟨z,χ,n,r,hl,e⟩:=I.X7 hH;obtain⟨z2,its2,n2,r2,hl2,e2⟩:=I.X7 hB;have hsz:χ.toArray.size+its2.toArray.size<=ay:=by rw[a9,a9];lia
 have hlong:¬(!χ.toArray.isEmpty&&ic (χ.toArray.size+its2.toArray.size))=true:=by
  rw[HD hsz,Bool.and_false];exact aE
 refine xD F.slot_list_extend ⟨_,e,rfl⟩ F.entry_list_extend (F.args_list_extend_2 _ _)
  (AutoSeq1.list_extend_list_list_0 l χ.toArray n b its2.toArray n2 hlong (by rw[a9];lia)<|by lia) ⟨e,e2,?_⟩
 refine⟨.non,_,I.aak (its':=χ++its2) hH e (by simp) (r.append r2) ?_,rfl,q⟩;rw[cc]
 lia
def adn:V->List V->Hp->VK->Prop:=λx vs H Q=>∃l xs y,x=.ref l/\vs=[]/\H l=some (.lst xs)/\xs[xs.length-1]? = some y/\Q y (upd H l<|.lst xs.dropLast)
theorem RX:MtM X "list.pop" adn:=by
 intro π s σ H x vs v us Q I rx rv h;obtain⟨l,xs,y,rfl,rfl,hH,hy,q⟩:=h;cases rx;have hus:=rv.zero;subst hus;obtain⟨z,χ,n,r,hl,e⟩:=I.X7 hH;obtain⟨u,hu,ru⟩:=r.get hy;have hy':χ.toArray[χ.toArray.size-1]? = some u:=by
  show χ.toArray[χ.length-1]? = some u;rw[← Array.getElem?_toList,← hl];exact hu
 refine xD F.slot_list_pop ⟨_,e,rfl⟩ F.entry_list_pop (F.args_list_pop_1 _) (MeetsSeq.list_pop_last l χ.toArray n u hy' (by rw[a9];lia)) ⟨e,?_⟩;refine⟨y,_,I.aak (its':=χ.dropLast) hH e ?_ r.dropLast ?_,ru,q⟩
 ·show χ.toArray.eraseIdxIfInBounds (χ.toArray.size-1)=χ.dropLast.toArray;rw[a9,List.eraseIdxIfInBounds_toArray,JS]
 ·rw[List.length_dropLast]
  lia
theorem len_rep (xs:List α)(k:Nat):(br k xs).flatten.length=k*xs.length:=by
 induction k with
 |zero=>simp
 |succ k ih=>rw[hV,kg,cc,ih,Nat.succ_mul,AX]
end
section
variable {prog:bo}{w:dc}{A:dy}{E:Zs}{s:aS}
end
section
end
end L2
namespace Att
open PySem PySem.W PySem.Calls PyProof.Rows
theorem zL:∀(ns:List Int) (vs:List av),WellAll P h vs (ns.map WData.int)->IntsAre vs ns:=by
 intro ns;induction ns with
 |nil=>
  intro vs w;rw[vT] at w;cases w;exact .nil
 |cons n ns ih=>
  intro vs w;rw[aT] at w;cases w with
  |cons a b=>
   cases a;exact .cons _ _<|ih _ b
theorem Pn {l:OpenLaw}(hn:l.most=some n){P:Params}{h:Heap}{args:List WData}{vals:List av}
  (hpre:l.row.toRowW.claim.pre args=true) (hwl:WellAll P h vals args):
  ∃a vs ns,vals=[bE a]/\args=[WData.list<|ns.map WData.int]/\h.get? a=some { cls:=.type "list",data:=.seq vs.toArray }/\IntsAre vs ns/\ns.length<=n:=by
 have hsh:WShape.hasAll [] args [.list .int]=true:=(pre_splitW hpre).1;have hc:l.pre.holds [] { args:=args }=true:=(pre_splitW hpre).2;obtain⟨d,r,rfl,h1,h2⟩:=hasAllW_cons hsh;obtain rfl:=hasAllW_nil h2;obtain⟨xs,rfl,h3⟩:=hasW_list h1;obtain⟨ns,rfl⟩:=items_int h3;have ω:ns.length<=n:=by
  unfold OpenLaw.pre at hc;have h4:(WTm.not<|.lt (.lit<|.int (n:Int))<|.len<|.arg 0).holds [] { args:=[.list<|ns.map .int] }=true:=by
   have h4:=(holds_andW hc).1;rw[hn] at h4;exact h4
  have h5:=condW_of h4<|w_not<|w_lt w_lit<|w_len_list<|w_arg rfl;rw[dE] at h5;refine Nat.le_of_not_lt λq=>?_;have q':(n:Int)<((ns.length:Nat):Int):=by lia
  first
   |(rw[decide_eq_true q'] at h5;exact absurd h5<|by decide)
   |(simp at h5;lia)
 cases hwl with
 |cons w1 w2=>
  cases w2;cases w1 with
  |list ho hall=>exact⟨_,_,ns,rfl,rfl,ho,zL ns _ hall,ω⟩
theorem QW (l:OpenLaw)(args:List WData):l.row.toRowW.claim.post args (.bool true) args=true:=
 postW_of (r:=l.row.toRowW) (X:=(true==true))
  (show WShape.has [] (.bool true) .bool=true by first|rfl|decide|simp[WShape.has,WShape.arms,WShape.armsAll])
  (show(WTm.eq .res<|.lit<|.bool true).value [] { args:=args,res:=some<|.bool true,after:=args }=some (.bool<|true==true) from w_eq_bool (w_res rfl) w_lit) rfl
theorem Jq {l:OpenLaw}{d:DefRec}
  (hn:l.most=some n) (hdf:d.params.defaults=[])
  (call:∀(w:dc) (s₀ s₁:aS) (mg mb:Zp) (fa:Addr) (o:Obj) (pm cd doc:av) (a:Addr) (vs:List av) (ns:List Int),
   Ground q loose [] XP w s₀ mg mb s₁.heap->YP w s₁.heap->
   s₁.heap.get? fa=some o->o.data=.func (docDef d.name d.params d.body d.scope pm cd doc)->s₁.heap.CodeRec cd d.name->mg d.name=some (.ref fa)->
   s₁.heap.get? a=some { cls:=.type "list",data:=.seq vs.toArray }->IntsAre vs ns->ns.length<=n->s₁.gens=#[]->
   vF (b9 l.prog w) AN (.call (.ref fa) ⟨[.ref a],[]⟩) (λr s'=>r=.ok (.ret<|.bool true)/\OldK s₁.heap s'.heap/\s'.os=s₁.os/\sC s'.gens) s₁):
  WalkO q loose XP YP l.row.toRowW d [] (λf vs=>BB f vs):=by
 intro w s₀ s₁ mg mb G Y fa o pm cd doc dV kV ho hd hcd hD hmg hg args vals as hpre hlay hrd hwl hlo;obtain rfl:dV=.none:=Dflts.none hD hdf;obtain rfl:kV=.none:=Dflts.noKw hD;obtain⟨a,vs,ns,rfl,rfl,hobj,hints,ω⟩:=Pn hn hpre hwl;refine enter_call<|nX (call w s₀ s₁ mg mb fa o pm cd doc a vs ns G Y ho (fd_plain hd) hcd hmg hobj hints ω hg) λr s' hq=>?_;obtain⟨rfl,h2,h3,h4⟩:=hq;exact⟨.inl ⟨.bool true,.bool true,[],rfl,λ_=>rfl,.bool true,QW l _,λ_=>⟨List.Pairwise.nil,λ_ hm=>(nomatch hm)⟩⟩,h2,h3,h4⟩
section
variable {prog:bo}{w:dc}{A:dy}{E:Zs}{s:aS}{K:Frag}
end
end Att
namespace L2
open PySem PySem.Spec PyProof.Rows
theorem Eo:∀{vs:List av} {ns:List Int},IntsAre vs ns->Vals (ns.map V.int) vs
 |_,_,.nil=>.nil
 |_,_,.cons n t h=>.cons ⟨t,rfl⟩<|Eo h
def Only (H:Hp):Prop:=∀b,H b=none\/∃o xs,H b=some (.frz o<|.lst xs)
theorem Sw {K:bb}{s₁:aS}{vs:List av}{ns:List Int}
  (KX:K.In s₁.heap) (hns:s₁.heap.Ns cK mg) (hb:s₁.heap.Ns builtinsNs mb) (hbb:∀x:Str,x≠"__name__"->mb x=b0 x) (hlim:s₁.heap.NoLimit) (hg:s₁.gens=#[])
  (ha:s₁.heap.get? a=some { cls:=.type "list",data:=.seq vs.toArray }) (hi:IntsAre vs ns) (hl:ns.length<=ay) (hr:gw k AN)
  (F:∀base:Heap,K.In base->base.Ns cK mg->oG P w K mg base CX k fa fd [x] sp) (hbind:∀(s:aS) (u:av),AM s fd ⟨[u],[]⟩ [(x,u)])
  (hsp:∀H:Hp,Only H->SqL K H a (ns.map V.int)->sp [.ref a] H (λv _=>v=.bl true) λ_ _ _=>False)
  (hCX:∀H e s',CX [] H s₁ (λ_ _ _=>False) e s'->False):
  vF (b9 P w) AN (.call (.ref fa) ⟨[.ref a],[]⟩) (λr s'=>r=.ok (.ret<|.bool true)/\OldK s₁.heap s'.heap/\s'.os=s₁.os/\sC s'.gens) s₁:=by
 have rv:=Eo hi;have lenV:=hi.length;have core:∀H:Hp,Only H->SqL K H a (ns.map V.int)->HOk P w H s₁.heap->(∀b,H b≠none->b=a)->(H a≠none->K.lookup a=none)->
   vF (b9 P w) AN (.call (.ref fa) ⟨[.ref a],[]⟩) (λr s'=>r=.ok (.ret<|.bool true)/\OldK s₁.heap s'.heap/\s'.os=s₁.os/\sC s'.gens) s₁:=by
  intro H hO hS hok hA hK;have base_of:∀{b:Addr} {o:Obj},s₁.heap.get? b=some o->H b=none->(Fj s₁.heap H).get? b=some o:=λe n=>R8 e n;have noA:∀{b:Addr} {o:Obj} {es:Array DictEntry} {ep:Nat},s₁.heap.get? b=some o->o.data=.dict es ep->H b=none:=λ{b o es ep} e d=>by
   cases q:H b with
   |none=>rfl
   |some u=>
    have e':b=a:=hA b (by rw[q];simp);subst e';rw[ha] at e;cases e;have d':Data.seq vs.toArray _=Data.dict es ep:=d;cases d'
  have nsK:∀{b:Addr} {m:Zp},s₁.heap.Ns b m->(Fj s₁.heap H).Ns b m:=λ{b m} ⟨o,es,ep,e,d,r⟩=>⟨o,es,ep,base_of e<|noA e d,d,r⟩;have hKb:K.In (Fj s₁.heap H):=λb o e=>base_of (KX b o e) (by
   cases q:H b with
   |none=>rfl
   |some u=>
    have e':b=a:=hA b (by rw[q];simp);subst e';rw[hK (by rw[q];simp)] at e;cases e)
  have hM:Mod K mg (Fj s₁.heap H):=⟨hKb,nsK hns,⟨mb,nsK hb,hbb⟩,let⟨mc,h1,h2⟩:=hlim;⟨mc,nsK h1,h2⟩⟩;have e0:CZ P w K mg (Fj s₁.heap H) AN [] s₁ H:=⟨rfl,hM,λb o e=>Xw e,AY<|Qy _ _,trivial,λb hb=>absurd (show b∈([]:List Addr) from hb) (by simp),hok,.of_eq hg⟩;refine nX ((F _ hKb<|nsK hns).run AN [] s₁ H ⟨[.ref a],[]⟩ [.ref a] [.ref a] _ _ hr e0 (hbind s₁<|.ref a) (.cons rfl .nil)<|hsp H hO hS) λr s' h=>?_;cases r with
  |error e=>exact(hCX H e s' h).elim
  |ok fl=>
   cases fl with
   |next=>exact fq h
   |brk=>exact fq h
   |cont=>exact fq h
   |ret u=>
    refine Np h λv H' os bare un hok' r' q=>?_;have q':v=.bl true:=q;subst q';obtain rfl:u=mS true:=r';refine⟨rfl,OldK.of_keep λb o e=>?_,os,bare⟩;cases q:H b with
    |none=>exact un.keep b o e q (by intro z;exact absurd (show b∈([]:List Addr) from z) (by simp)) (by simp)
    |some u=>
     rcases hO b with z|⟨ob,xs,z⟩
     ·rw[q] at z;cases z
     ·have z2:=un.frzs b ob _ z;obtain⟨e1,_⟩:=hok b _ z;obtain⟨e2,_⟩:=hok' b _ z2;rw[e] at e1;cases e1;exact e2
 cases hk:K.lookup a with
 |some o=>
  have e:=KX a o hk;rw[ha] at e;cases e;refine core (λ_=>none) (λ_=>.inl rfl) (.inr ⟨_,vs.toArray,_,hk,rfl,rfl,rfl,by rw[a9,lenV];exact hl,by simpa using rv⟩) (λb u z=>by have z':(none:Option HO)=some u:=z;cases z') (λb z=>absurd rfl z) λz=>absurd rfl z
 |none=>
  refine core (λb=>if b=a then some (.frz { cls:=.type "list",data:=.seq vs.toArray }<|.lst<|ns.map V.int) else none) (λb=>?_) (.inl<|.inr ⟨{ cls:=.type "list",data:=.seq vs.toArray },if_pos rfl⟩) (λb u z=>?_) (λb z=>?_) λ_=>hk
  ·by_cases hb:b=a
   ·exact .inr ⟨_,_,if_pos hb⟩
   ·exact .inl<|if_neg hb
  ·by_cases hb:b=a
   ·have z':=(if_pos hb).symm.trans z;cases z';subst hb;exact⟨ha,by rw[dE];exact hl,vs,_,rv,ha⟩
   ·have z':=(if_neg hb).symm.trans z;cases z'
  ·by_cases hb:b=a
   ·exact hb
   ·exact absurd (if_neg hb) z
theorem Wa {l:W.OpenLaw}{n k:Nat}{q:bo}{loose:List Str}{XP:(Zp)->Heap->Prop}{YP:dc->Heap->Prop}{d:DefRec}{K:Params->bb}{CX:dc->CXT}{sp:dc->Sp}{x:Str}
  (hn:l.most=some n) (hn2:n<=ay) (hdf:d.params.defaults=[]) (hr:gw k AN)
  (hY:∀(w:dc) (h:Heap),YP w h->(K w.params).In h)
  (F:∀(w:dc) (mg:Zp) (fa:Addr) (h:Heap),(K w.params).In h->h.Ns cK mg->mg d.name=some (.ref fa)->
   ∃fd:hG,(∀(s:aS) (u:av),AM s fd ⟨[u],[]⟩ [(x,u)])/\
    ∀base:Heap,(K w.params).In base->base.Ns cK mg->oG l.prog w (K w.params) mg base (CX w) k fa fd [x] (sp w))
  (hsp:∀(w:dc) (H:Hp) (a:Addr) (ns:List Int),ns.length<=n->Only H->SqL (K w.params) H a (ns.map V.int)->sp w [.ref a] H (λv _=>v=.bl true) λ_ _ _=>False)
  (hCX:∀(w:dc) (H:Hp) (s:aS) (e:av) (s':aS),CX w [] H s (λ_ _ _=>False) e s'->False):
  W.WalkO q loose XP YP l.row.toRowW d [] (λf vs=>BB f vs):=by
 refine Att.Jq hn hdf λw s₀ s₁ mg mb fa o pm cd doc a vs ns G Y ho hd hcd hmg hobj hints ω hg=>?_;have KX:=hY w _ Y;obtain⟨fd,hb,hF⟩:=F w mg fa _ KX G.T.g hmg;exact Sw KX G.T.g G.T.b G.T.builtins G.T.nolimit hg hobj hints (cy ω hn2) hr hF hb (λH hO hS=>hsp w H a ns ω hO hS) λH e s'=>hCX w H s₁ e s'
noncomputable def nU (s:Stmt):Arguments:=match s with
 | .FunctionDef _ a _ _ _ _ _ _ _ _=>a
 |_=>{ posonlyargs:=[],args:=[],vararg:=none,kwonlyargs:=[],kw_defaults:=[],kwarg:=none,defaults:=[] }
def gW (s:Stmt):List Stmt:=match s with
 | .FunctionDef _ _ b _ _ _ _ _ _ _=>b
 |_=>[]
noncomputable def aD (s:Stmt):rL:=match s with
 | .FunctionDef _ _ _ _ _ _ sc _ _ _=>sc
 |_=>{ kind:=.function,names:=[],isGenerator:=false,isCoroutine:=false }
abbrev E0:XK:=λ_ _ _=>False
structure Fun (K:bb)(x qual:Str)(st:Stmt)(f:Addr)(fd:hG):Prop where
 ex:∃(oc:av) (od:Option Addr) (kV doc pm:av) (an:Option Addr) (cdv ct:av) (osl:Array (Option av)),
  fd=tP x qual (nU st) (gW st) (aD st) .none kV doc pm an cdv ct/\K.lookup f=some ⟨oc,od,.func fd,osl⟩/\Ap K cdv qual=true
 kp:lh K (.ref f)=true
section
variable {P:bo}{w:dc}{K:bb}{mg:Zp}{base:Heap}
theorem Fun.binds {x qual:Str}{st:Stmt}{f:Addr}{fd:hG}{ps:List Str}(F:Fun K x qual st f fd)
  (h:∀(kV doc pm:av) (an:Option Addr) (cdv ct:av) (us:List av),us.length=ps.length->bindArgs (tP x qual (nU st) (gW st) (aD st) .none kV doc pm an cdv ct) ⟨us,[]⟩=pure (ps.zip us)):Binds K fd ps []:=by
 obtain⟨oc,od,kV,doc,pm,an,cdv,ct,osl,rfl,lk,hcd⟩:=F.ex;exact .all<|h kV doc pm an cdv ct
theorem Rx {x qual:Str}{st:Stmt}{f:Addr}{oc:av}{od an:Option Addr}{osl:Array (Option av)}{kV doc pm cdv ct:av}(l:K.lookup f=some ⟨oc,od,.func<|tP x qual (nU st) (gW st) (aD st) .none kV doc pm an cdv ct,osl⟩)
  (c:Ap K cdv qual=true) (k:lh K (.ref f)=true):Fun K x qual st f (tP x qual (nU st) (gW st) (aD st) .none kV doc pm an cdv ct):=⟨⟨oc,od,kV,doc,pm,an,cdv,ct,osl,rfl,l,c⟩,k⟩
end
section
end
def aN (H H':Hp):Prop:=∀b o,H b=some o->H' b=some o
theorem aN.refl (H:Hp):aN H H:=λ_ _ h=>h
theorem aN.trans (a:aN H H1)(b:aN H1 H2):aN H H2:=λc o h=>b c o<|a c o h
theorem aN.free (e:aN H H'){l:Addr}(h:H' l=Option.none):H l=Option.none:=by
 cases q:H l with
 |none=>rfl
 |some o=>
  rw[e l o q] at h;cases h
end L2
set_option maxHeartbeats 4000000
namespace Hd
open PySem PySem.Spec PyProof.Rows L2
abbrev St:=L2.St
theorem KN (h:n<2^k)(hk:0<k):n.log2<k:=by
 by_cases z:n=0
 ·rw[z];exact hk
 ·exact(Nat.log2_lt z).mpr h
@[irreducible] def lmM:Nat:=2^60000
@[irreducible] def lmD:Nat:=2^8900
theorem Uv:lmM=2^60000:=by unfold lmM;rfl
theorem K6:lmD=2^8900:=by unfold lmD;rfl
theorem bits_le (h:i.natAbs<lmM):iL i<=60000:=by
 unfold iL;split
 ·exact fS _
 ·rw[Uv] at h;exact KN (k:=60000) h<|by decide
def abh (_ j:Int):Prop:=j≠0/\j.natAbs<lmD
def T5 (i j:Int):Prop:=i.natAbs<lmM/\j.natAbs<lmM
theorem T5.ok (h:T5 i j):IntMulOk i j:=by
 have h1:=bits_le h.1;have h2:=bits_le h.2;have hb:bitsLine=134217728:=rfl;have z:v3 (iL i+iL j)=false:=by
  unfold v3;refine decide_eq_false ?_
  lia
 unfold IntMulOk;rw[z]
 simp
section
theorem W8 {i:Int}(h:i.natAbs<2^62):iL i<=64:=by
 unfold iL;split
 ·exact fS _
 ·have:=KN h (by decide)
  omega
theorem Xu:OpR X (gT .Mult) (rI (λ_ j=>j.natAbs<2^62) λi j=>.int<|i*j):=opI λ_ _ _ _ _ _ _ hc q=>mul_int q<|IntMulOk.of_right<|W8 hc
theorem Su:OpR X (gT .FloorDiv) (rI abh λi j=>.int<|i.fdiv j):=
 opI λ_ _ _ _ _ _ _ hc q=>floordiv_int hc.1 q<|.inl<|PyProof.noPylong_of_log2<|cb (KN (k:=8900) (K6▸hc.2)<|by decide)<|by decide
theorem Wm:OpR X (gT .Mult) (rI T5 λi j=>.int<|i*j):=opI λ_ _ _ _ _ _ _ hc q=>mul_int q hc.ok
end
mutual
inductive DV (K:bb)(H:Hp):V->oT->Prop where
 |non:DV K H .non .none
 |bl (b:Bool):DV K H (.bl b) (.bool b)
 |int (i:Int):DV K H (.int i) (.int i)
 |str (x:Str):DV K H (.str x) (.str x)
 |tup {a:Addr} {xs:List V} {ds:List oT}:SqT K H a xs->DVs K H xs ds->DV K H (.ref a) (.tuple ds)
 |lst {a:Addr} {xs:List V} {ds:List oT}:SqL K H a xs->DVs K H xs ds->DV K H (.ref a) (.list ds)
inductive DVs (K:bb)(H:Hp):List V->List oT->Prop where
 |nil:DVs K H [] []
 |cons {v:V} {vs:List V} {d:oT} {ds:List oT}:DV K H v d->DVs K H vs ds->DVs K H (v::vs) (d::ds)
end
section
mutual
theorem DV.reads (I:Inv X π σ H s):∀{v:V} {d:oT} {u:av},DV X.K H v d->RelV v u->∃as,Reads s.heap u d as
 |_,_,u,.non,r=>by cases(show u=eM from r);exact⟨_,.none⟩
 |_,_,u,.bl b,r=>by cases(show u=mS b from r);exact⟨_,.bool b⟩
 |_,_,u,.int i,r=>by obtain⟨t,e⟩:=(show ∃t,u=zh i t from r);subst e;exact⟨_,.int i t⟩
 |_,_,u,.str x,r=>by obtain⟨t,e⟩:=(show ∃t,u=zi x t from r);subst e;exact⟨_,.str x t⟩
 |_,_,u,.tup (a:=a) h hs,r=>by
  cases(show u=bE a from r);obtain⟨χ,rv,⟨o,ho,hc,n,hd⟩,_⟩:=I.tuple h;obtain⟨as,ra⟩:=DVs.reads I hs rv;exact⟨as,.tuple ho hc hd<|by simpa using ra⟩
 |_,_,u,.lst (a:=a) h hs,r=>by
  cases(show u=bE a from r);obtain⟨χ,rv,⟨o,n,ho,hc,_,hd⟩,_⟩:=I.list h;obtain⟨as,ra⟩:=DVs.reads I hs rv;exact⟨a::as,.list ho hc hd<|by simpa using ra⟩
theorem DVs.reads (I:Inv X π σ H s):∀{vs:List V} {ds:List oT} {us:List av},DVs X.K H vs ds->Vals vs us->∃as,ReadsAll s.heap us ds as
 |_,_,_,.nil,.nil=>⟨[],.nil⟩
 |_,_,_,.cons h hs,.cons r rs=>by
  obtain⟨as,ra⟩:=DV.reads I h r;obtain⟨bs,rb⟩:=DVs.reads I hs rs;exact⟨as++bs,.cons ra rb⟩
end
end
section
def adE (K:bb):R2:=λx y H Q=>∃d e,DV K H x d/\DV K H y e/\gS d=true/\gS e=true/\Q (.bl<|fN d e) H
def adl (K:bb):R2:=λx y H Q=>∃d e,DV K H x d/\DV K H y e/\gS d=true/\gS e=true/\Q (.bl<|!PyData.eqv d e) H
theorem Zj (hu:X.A.units+64<pw):OpR X (eW .Eq) (adE X.K):=by
 intro π s σ H x y v u Q I rx ry h;refine zF h λd e hd he sd se q=>?_;obtain⟨as,ra⟩:=hd.reads I rx;obtain⟨bs,rb⟩:=he.reads I ry;exact eq_dataH ra rb sd se hu<|cI I q rfl
theorem Y9 (hu:X.A.units+64<pw):OpR X (eW .NotEq) (adl X.K):=by
 intro π s σ H x y v u Q I rx ry h;refine zF h λd e hd he sd se q=>?_;obtain⟨as,ra⟩:=hd.reads I rx;obtain⟨bs,rb⟩:=he.reads I ry;exact ne_dataH ra rb sd se hu<|cI I q rfl
end
section
noncomputable def Yb:V->Option av
 | .ty n=>some<|.type n
 | .ref a=>some<|.ref a
 |_=>none
theorem Hu (e:Yb c=some cv)(r:RelV c u):u=cv:=by
 cases c with
 |ty n=>cases e;exact r
 |ref a=>cases e;exact r
 |_=>cases e
end
section
end
def Tr (B:Heap)(e:Addr)(o:Obj)(us:Array av)(fl:av)(h:Heap):Prop:=
 1<us.size/\∃T q ts,h.get? e=some { o with data:=.fields (us.setIfInBounds 1<|.ref T) }/\B.get? T=none/\T≠e/\h.get? T=some q/\q.data=.fields ts/\ts[3]? = some fl
def Fy (B:Heap)(l:List Env)(e:Addr)(o:Obj)(us:Array av)(fl:av)(h:Heap):Prop:=B.StaysIn h/\B.get? e=none/\h.FunFrames B l/\Tr B e o us fl h
section
variable {M:Model}{A:dy}{E:Zs}{s:aS}{B:Heap}{env:Env}{l:List Env}{L e:Addr}{o:Obj}{us vs:Array av}{Q:Unit->aS->Prop}{fl:av}
theorem T4 {head:av}{nx:Bool}(hA:A.frames=some (env::l))(hf:env.frame=some L)(hl:s.heap.FunFrames B (env::l))(he:s.heap.get? e=some { o with data:=.fields us })(hz:1<us.size)(kb:B.StaysIn s.heap)(hn:B.get? e=none)
  (q:∀h',Fy B (env::l) e o us (vE L) h'->s.heap.UpToSlots h'->Q () { s with heap:=h' }):
  bg M A (do let a←frameOf env;let pl←entryPlaceOf L nx;let b←y6 head a .none (vE L) .none pl;setField (.ref e) 1 b) Q E s:=by
 have ne:e∉(env::l).filterMap (·.frame):=λz=>by
  obtain⟨_,x,hx,nf⟩:=hl.mem z;rw[he] at hx;cases hx;exact nf us rfl
 refine ae<|wpAny_frameOf_fun hA hl hf λh1 k1=>ae<|wpAny_entryPlaceOf λpl hp=>?_;unfold y6 newFields;refine ae<|eC ?_<|hp.sizeOk5 _ _ _ _ _;have e1:=(k1.2.1 e ne).trans he;have b1:B.StaysIn h1:=λb x hb=>(k1.2.1 b λz=>by rw[(hl.mem z).1] at hb;cases hb).trans (kb b x hb);refine kK (af _ e1) rfl hz<|q _ ?_ ?_
 all_goals
  have te:h1.objs.size≠e:=nN<|aw e1
 ·refine⟨λb x hb=>?_,hn,hl.of_keeps λb x hb nf=>?_,hz,h1.objs.size,_,_,dP _ (af _ e1) rfl,b1.fresh,te,(cw _ _ te.symm).trans<|a7 h1 rfl,rfl,?_⟩
  ·exact(cw _ _ λz=>by rw[z,hb] at hn;cases hn).trans (af _<|b1 b x hb)
  ·obtain⟨sl,z⟩:=k1.2.2 b x hb;exact⟨_,(cw _ _ λw=>by rw[← w,he] at hb;cases hb;exact nf us rfl).trans (af _ z),rfl⟩
  ·rcases hp with rfl|⟨_,_,_,_,_,_,_,rfl⟩<;>simp
 ·intro b x hb nf;obtain⟨sl,z⟩:=k1.2.2 b x hb;exact⟨sl,(cw _ _ λw=>by rw[← w,he] at hb;cases hb;exact nf us rfl).trans (af _ z)⟩
theorem adM {a b:av}:(us.setIfInBounds 1 a).setIfInBounds 1 b=us.setIfInBounds 1 b:=by simp
theorem Tq {x:av}(g:Fy B l e o us fl s.heap):∀T q ts,s.heap.get? T=some q->q.data=.fields ts->ts[3]? = some fl->B.get? T=none->T≠e->s.heap.get? e=some { o with data:=.fields (us.setIfInBounds 1<|.ref T) }->
  Fy B l e o us x (s.heap.update T<|kC (·.setIfInBounds 3 x))/\s.heap.UpToSlots (s.heap.update T<|kC (·.setIfInBounds 3 x)):=by
 intro T q ts hT hd h3 hb ne he;have ot:∀b,b≠T->(s.heap.update T<|kC (·.setIfInBounds 3 x)).get? b=s.heap.get? b:=λb z=>cw _ _ z.symm;have nr:∀b y,s.heap.get? b=some y->(∀vs,y.data≠.fields vs)->b≠T:=λb y z nf w=>by rw[w,hT] at z;cases z;exact nf ts hd
 obtain⟨g1,g2,g3,gz,_⟩:=g;refine⟨⟨λb y z=>(ot b λw=>by rw[w,hb] at z;cases z).trans (g1 b y z),g2,g3.of_keeps λb y z nf=>⟨y,(ot b<|nr b y z nf).trans z,rfl⟩,gz,T,_,_,(ot e ne.symm).trans he,hb,ne,dP _ hT<|wm<|mo hd _,mo hd _,?_⟩,λb y z nf=>⟨y.slots,(ot b<|nr b y z nf).trans z⟩⟩
 have:=(eP.mp h3).1
 simp[this]
theorem zT (g:Fy B l e o us fl s.heap)(q:∀h',Fy B l e o us .none h'->s.heap.UpToSlots h'->Q () { s with heap:=h' }):bg M A (setFlight (.ref e) none) Q E s:=by
 obtain⟨_,_,_,z,T,y,ts,he,hb,ne,hT,hd,h3⟩:=id g;unfold setFlight;refine ae<|hU he rfl (x:=.ref T) (by simp[z]) ?_;rw[if_pos<|show(bE T != eM)=true from by simp]
 have:=Tq (x:=.none) g T y ts hT hd h3 hb ne he
 exact kK hT hd (eP.mp h3).1<|q _ this.1 this.2
theorem Mw (hA:A.frames=some (env::l))(hf:env.frame=some L)(g:Fy B (env::l) e o us .none s.heap)(q:∀h',Fy B (env::l) e o us (vE L) h'->s.heap.UpToSlots h'->Q () { s with heap:=h' }):bg M A (noteFrame (.ref e) env) Q E s:=by
 obtain⟨_,_,_,z,T,y,ts,he,hb,ne,hT,hd,h3⟩:=id g;unfold noteFrame;simp only[hf];refine ae<|hU he rfl (x:=.ref T) (by simp[z]) ?_;rw[if_pos<|show(bE T != eM)=true from by simp];refine ae<|hU hT hd h3 ?_;rw[if_neg<|show ¬((eM==vE L)=true) from by simp[vE]];obtain⟨g',u'⟩:=Tq (x:=.none) g T y ts hT hd h3 hb ne he;refine ae<|kK hT hd (eP.mp h3).1 ?_;have he':=(cw s.heap (kC (·.setIfInBounds 3 eM)) ne).trans he;refine T4 (us:=us.setIfInBounds 1<|.ref T) hA hf g'.2.2.1 he' (by simpa using z) g'.1 g.2.1 λh2 g2 u2=>q h2 ?_<|u'.trans u2;obtain⟨a,b,c,z',T',r⟩:=g2;rw[adM] at r;exact⟨a,b,c,z,T',r⟩
theorem Fy.tail (g:Fy B (env::l) e o us fl h):Fy B l e o us fl h:=let⟨a,b,⟨_,_,c⟩,d⟩:=g;⟨a,b,c,d⟩
theorem Il (hA:A.frames=some (env::l))(hf:env.frame=some L)(g:Fy B (env::l) e o us .none s.heap)(q:∀h',Fy B l e o us .none h'->s.heap.UpToSlots h'->Q () { s with heap:=h' }):bg M A (leaving env<|.ref e) Q E s:=by
 unfold leaving;exact ae<|Mw hA hf g λh1 g1 u1=>zT g1 λh2 g2 u2=>q h2 g2.tail<|u1.trans u2
theorem Jz (hA:A.frames=some (env::l))(hf:env.frame=some L)(hl:s.heap.FunFrames B (env::l))(he:s.heap.get? e=some { o with data:=.fields us })(h1:us[1]? = some .none)(kb:B.StaysIn s.heap)(hn:B.get? e=none)
  (q:∀h',Fy B l e o us .none h'->s.heap.UpToSlots h'->Q () { s with heap:=h' }):bg M A (leaving env<|.ref e) Q E s:=by
 unfold leaving noteFrame;simp only[hf];refine ae<|ae<|hU he rfl h1 ?_;rw[if_neg<|by decide];exact T4 hA hf hl he (eP.mp h1).1 kb hn λh2 g2 u2=>zT g2 λh3 g3 u3=>q h3 g3.tail<|u2.trans u3
end
theorem cG.at' {P:bo}{w:dc}{H:Hp}{h:Heap}{a:Addr}{o:HO}(x:cG P w H h a o):∃u,h.get? a=some u:=by
 cases o with
 |lst xs=>obtain⟨_,_,_,_,e⟩:=x;exact⟨_,e⟩
 |tup xs=>obtain⟨_,_,_,o,e,_⟩:=x;exact⟨_,e⟩
 |dK ι=>obtain⟨_,_,_,_,o,_,_,e,_⟩:=x;exact⟨_,e⟩
 |dT ι=>obtain⟨_,_,_,_,o,_,_,e,_⟩:=x;exact⟨_,e⟩
 |set S n=>obtain⟨o,_,_,_,e,_⟩:=x;exact⟨_,e⟩
 |ins C dx fs=>obtain⟨_,_,_,e,_⟩:=x;exact⟨_,e⟩
 |own y=>exact x
 |xd fs=>obtain⟨_,⟨_,_,_,e,_⟩,_⟩:=x;exact⟨_,e⟩
 |rng lo hi=>obtain⟨_,_,_,e⟩:=x;exact⟨_,e⟩
 |frz ob u=>obtain⟨e,_⟩:=x;exact⟨_,e⟩
 |tbl ps=>exact⟨_,(show h.get? a=some _ from x)⟩
 |met f y=>exact⟨_,(show h.get? a=some _ from x)⟩
 |ext φ=>obtain⟨_,e,_⟩:=x;exact e
structure Fly (P:bo)(w:dc)(outer:List Env)(H:Hp)(s:aS)(e:av)(s':aS)(ea:Addr)(ob:Obj)(us:Array av)(B:Heap)(H':Hp):Prop where
 is:e=.ref ea
 os:s'.os=s.os
 bare:sC s'.gens
 fly:Fy B outer ea ob us .none s'.heap
 ctx:us[2]? = some .none
 keep:∀b o,s.heap.get? b=some o->H b=none->b∉frs outer->B.get? b=some o
 slot:∀b o,s.heap.get? b=some o->b∈frs outer->∃sl,s'.heap.get? b=some { o with slots:=sl }
 free:∀b o,s.heap.get? b=some o->H b=none->H' b=none
 there:∀b o,s.heap.get? b=some o->b∉frs outer->∃o',B.get? b=some o'
 tups:∀b xs,H b=some (.tup xs)->H' b=some (.tup xs)
 frzs:∀b o u,H b=some (.frz o u)->H' b=some (.frz o u)
 tbls:∀b ps,H b=some (.tbl ps)->∃more,H' b=some (.tbl (ps++more))
 hok:HOk P w H' B
 new:s.heap.get? ea=none
 nin:H' ea=none
def CX1 (P:bo)(w:dc):CXT:=λouter H s E e s'=>∃ea ob us B H',Fly P w outer H s e s' ea ob us B H'/\E ob.cls ob.dict H'
theorem xO {env:Env}{l:List Env}{L b:Addr}(hf:env.frame=some L)(h:b∈frs (env::l)):b=L\/b∈frs l:=by
 unfold frs at h;rw[l8,hf] at h;rcases bq.mp h with z|z
 ·exact .inl z
 ·exact .inr z
theorem Jo {env:Env}{l:List Env}{b:Addr}(h:b∈frs l):b∈frs (env::l):=by
 unfold frs at h ⊢;obtain⟨e,he,hf⟩:=ib.mp h;exact ib.mpr ⟨e,ai _ he,hf⟩
section
variable {P:bo}{w:dc}{K:bb}{mg:Zp}{base:Heap}{N:List Str}{qual:Str}{scope:rL}{f:Addr}{cd:av}{A:dy}{outer:List Env}{s:aS}{H:Hp}{E:XK}
theorem PK {π:Zl}{σ:St}{H1:Hp}{s1:aS}{h':Heap}{ea:Addr}{ob:Obj}{us:Array av}
  (I:Inv (kW (CX1 P w) P w K mg base N qual scope f cd A outer s H E) π σ H1 s1) (kp:∀b o,s1.heap.get? b=some o->h'.get? b=some o) (new:s1.heap.get? ea=none) (he:h'.get? ea=some { ob with data:=.fields us }) (u1:us[1]? = some .none) (u2:us[2]? = some .none) (hw:E ob.cls ob.dict H1):
  (kW (CX1 P w) P w K mg base N qual scope f cd A outer s H E).xe (.ref ea) { s1 with heap:=h' }:=by
 have hin:∀env∈(kW (CX1 P w) P w K mg base N qual scope f cd A outer s H E).stack,∀b,env.frame=some b->b∈(kW (CX1 P w) P w K mg base N qual scope f cd A outer s H E).stack.filterMap (·.frame):=
  λenv he b hb=>ib.mpr ⟨env,he,hb⟩
 have nfr:∀b o,s.heap.get? b=some o->b∉frs outer->b∉(kW (CX1 P w) P w K mg base N qual scope f cd A outer s H E).stack.filterMap (·.frame):=λb o q nb hb=>by
  rcases xO (L:=s.heap.objs.size) rfl hb with z|z
  ·exact absurd (aw q) (by rw[z];exact eT _)
  ·exact nb z
 have nx:∀b:Addr,b∉(kW (CX1 P w) P w K mg base N qual scope f cd A outer s H E).ex:=λb z=>absurd (show b∈([]:List Addr) from z) (by simp);have nb:(zv s1.heap<|frs (kW (CX1 P w) P w K mg base N qual scope f cd A outer s H E).stack).get? ea=none:=by
  cases q:(zv s1.heap<|frs (kW (CX1 P w) P w K mg base N qual scope f cd A outer s H E).stack).get? ea with
  |none=>rfl
  |some o=>have:=ve _ q;rw[new] at this;cases this
 refine Jz (B:=zv s1.heap<|frs (kW (CX1 P w) P w K mg base N qual scope f cd A outer s H E).stack) (L:=s.heap.objs.size) (l:=outer) I.ok.frames rfl ((W.funFrames_hide I.stack hin).of_keeps λb o q _=>⟨o,kp b o q,rfl⟩) he u1 (λb o q=>kp b o<|ve _ q) nb λh2 x1 x4=>?_;refine⟨ea,ob,us,_,H1,⟨rfl,I.os,I.bare,x1,u2,λb o q n nb=>?_,λb o q hb=>?_,λb o q n=>I.base.free b o q n<|nx b,λb o q nb=>?_,I.base.tups,I.base.frzs,I.base.tbls,λb u e=>?_,?_,?_⟩,hw⟩
 ·exact kr _ (I.base.keep b o q n nb<|nx b)<|nfr b o q nb
 ·obtain⟨sl,e1⟩:=I.base.slot b o q (I.ok.frf b hb) hb<|nx b;obtain⟨_,o',ho',hnf⟩:=I.ok.rA.mem hb;have eo:o=o':=bX<|q.symm.trans ho';obtain⟨sl2,e2⟩:=x4 b _ (kp _ _ e1) λv z=>hnf v (by rw[← eo];exact z);exact⟨sl2,e2⟩
 ·obtain⟨o',e1⟩:=I.base.there b o q<|nx b;exact⟨o',kr _ e1<|nfr b o q nb⟩
 ·refine(I.hok b u e).stay (λc v hc q=>kr _ q λhm=>?_) (λ_ q=>q) λ_ _ q=>q;have z:=I.xR c hm;rcases hc with hc|hc
  ·rw[hc,e] at z;cases z
  ·rw[hc] at z;cases z
 ·cases q:s.heap.get? ea with
  |none=>rfl
  |some o=>
   obtain⟨o',e1⟩:=I.base.there ea o q<|nx ea;rw[new] at e1;cases e1
 ·cases q:H1 ea with
  |none=>rfl
  |some o=>
   obtain⟨o',e1⟩:=cG.at'<|I.hok ea o q;rw[new] at e1;cases e1
theorem vm {π:Zl}{σ:St}{H1:Hp}{s1:aS}{h':Heap}{ea:Addr}{cls:av}{vs:List av}
  (I:Inv (kW (CX1 P w) P w K mg base N qual scope f cd A outer s H E) π σ H1 s1) (hx:rS s1.heap h' ea cls vs) (hw:E cls none H1):
  (kW (CX1 P w) P w K mg base N qual scope f cd A outer s H E).xe (.ref ea) { s1 with heap:=h' }:=by
 obtain⟨t,he,_⟩:=hx.there;exact PK (ob:={ cls:=cls }) I hx.keeps hx.new he rfl rfl hw
theorem aX:Passes (CX1 P w) (kW (CX1 P w) P w K mg base N qual scope f cd A outer s H E) E:=by
 intro π σ H1 s1 e s' I h;obtain⟨ea,ob,us,B,H',F,hw⟩:=h;obtain rfl:=F.is;have nfr:∀b o,s.heap.get? b=some o->b∉frs outer->b∉frs (kW (CX1 P w) P w K mg base N qual scope f cd A outer s H E).stack:=λb o q nb hb=>by
  rcases xO (L:=s.heap.objs.size) rfl hb with z|z
  ·exact absurd (aw q) (by rw[z];exact eT _)
  ·exact nb z
 have nx:∀b:Addr,b∉(kW (CX1 P w) P w K mg base N qual scope f cd A outer s H E).ex:=λb z=>absurd (show b∈([]:List Addr) from z) (by simp);refine Il (B:=B) (l:=outer) (L:=s.heap.objs.size) I.ok.frames rfl F.fly λh2 x1 x2=>?_;refine⟨ea,ob,us,B,H',⟨rfl,F.os.trans I.os,F.bare,x1,F.ctx,λb o q n nb=>?_,λb o q hb=>?_,λb o q n=>?_,λb o q nb=>?_,λb xs q=>F.tups b xs<|I.base.tups b xs q,λb o u q=>F.frzs b o u<|I.base.frzs b o u q,λb ps q=>?_,F.hok,?_,F.nin⟩,hw⟩
 ·exact F.keep b o (I.base.keep b o q n nb<|nx b) (I.base.free b o q n<|nx b)<|nfr b o q nb
 ·obtain⟨sl,e1⟩:=I.base.slot b o q (I.ok.frf b hb) hb<|nx b;obtain⟨_,o',ho',hnf⟩:=I.ok.rA.mem hb;have eo:o=o':=bX<|q.symm.trans ho';obtain⟨sl1,e2⟩:=F.slot b _ e1<|Jo hb;obtain⟨sl2,e3⟩:=x2 b _ e2 λv z=>hnf v (by rw[← eo];exact z);exact⟨sl2,e3⟩
 ·obtain⟨o',e1⟩:=I.base.there b o q<|nx b;exact F.free b o' e1<|I.base.free b o q n<|nx b
 ·obtain⟨o',e1⟩:=I.base.there b o q<|nx b;exact F.there b o' e1<|nfr b o q nb
 ·obtain⟨m1,e1⟩:=I.base.tbls b ps q;obtain⟨m2,e2⟩:=F.tbls b _ e1;exact⟨m1++m2,by rw[e2,ml]⟩
 ·cases q:s.heap.get? ea with
  |none=>rfl
  |some o=>
   obtain⟨o',e1⟩:=I.base.there ea o q<|nx ea;rw[F.new] at e1;cases e1
end
theorem Ji {P:bo}{w:dc}{X:Cx}:Passes (CX1 P w) X E0:=λ_ _ _ _ _ _ _ ⟨_,_,_,_,_,_,z⟩=>z.elim
def rO (ea:Addr)(cls:av)(h:Heap):Prop:=∃o,h.get? ea=some o/\o.cls=cls/\∃vs,o.data=.fields vs
section
variable {X:Cx}{π:Zl}{σ:St}{H H':Hp}{s s':aS}{e:av}{ea:Addr}{ob:Obj}{us:Array av}{B:Heap}
theorem Fly.inv (F:Fly X.prog X.w X.stack H s e s' ea ob us B H')(I:Inv X π σ H s){h2:Heap}{tk:Nat}(k1:B.StaysIn h2)(k2:s'.heap.UpToSlots h2):Inv X π σ H' { s' with heap:=h2,toks:=tk }:=by
 have nf:∀b∈frs X.stack,∀o,s.heap.get? b=some o->∀vs,o.data≠.fields vs:=λb hb o q=>by
  obtain⟨_,o',ho',hnf⟩:=I.stack.mem hb;have eo:o=o':=bX<|q.symm.trans ho';rw[eo];exact hnf
 refine I.call' (s':={ s' with heap:=h2,toks:=tk }) (ch:=[]) F.os ⟨λb o q n hb _=>k1 b o<|F.keep b o q n hb,λb o q n hb _=>?_,λb o q n _=>F.free b o q n,λb o q _=>?_,F.tups,F.frzs,F.tbls⟩ (F.hok.kept k1) F.bare (λb z=>nomatch z)
 ·obtain⟨sl,e1⟩:=F.slot b o q hb;obtain⟨sl2,e2⟩:=k2 b _ e1<|nf b hb o q;exact⟨sl2,e2⟩
 ·by_cases hb:b∈frs X.stack
  ·obtain⟨sl,e1⟩:=F.slot b o q hb;obtain⟨sl2,e2⟩:=k2 b _ e1<|nf b hb o q;exact⟨_,e2⟩
  ·obtain⟨o',e1⟩:=F.there b o q hb;exact⟨o',k1 b o' e1⟩
end
section
variable {X:Cx}{π:Zl}{σ:St}{H H':Hp}{s s':aS}{e:av}{ea:Addr}{ob:Obj}{us:Array av}{B:Heap}
theorem Fly.adi (F:Fly X.prog X.w X.stack H s e s' ea ob us B H')(I:Inv X π σ H s){h2:Heap}{tk:Nat}{ox:Obj}(k1:B.StaysIn h2)(k2:s'.heap.UpToSlots h2)(kx:h2.get? ea=some ox)(kf:∃vs,ox.data=.fields vs):
  Inv X π σ (upd H' ea<|.frz ox<|.ext<|rO ea ox.cls) { s' with heap:=h2,toks:=tk }:=by
 have J:=F.inv I (tk:=tk) k1 k2;have nf:∀b∈frs X.stack,∀o,s.heap.get? b=some o->∀vs,o.data≠.fields vs:=λb hb o q=>by
  obtain⟨_,o',ho',hnf⟩:=I.stack.mem hb;have eo:o=o':=bX<|q.symm.trans ho';rw[eo];exact hnf
 have ne:∀b o,s.heap.get? b=some o->b≠ea:=λb o q z=>by rw[z,F.new] at q;cases q
 have ne':∀b u,H' b=some u->b≠ea:=λb u q z=>by rw[z,F.nin] at q;cases q
 refine I.call' (s':={ s' with heap:=h2,toks:=tk }) (ch:=[]) F.os ⟨λb o q n hb _=>k1 b o<|F.keep b o q n hb,λb o q n hb _=>?_,λb o q n _=>?_,λb o q _=>?_,λb xs q=>?_,λb o u q=>?_,λb ps q=>?_⟩ (λb u q=>?_) F.bare (λb z=>nomatch z)
 ·obtain⟨sl,e1⟩:=F.slot b o q hb;obtain⟨sl2,e2⟩:=k2 b _ e1<|nf b hb o q;exact⟨sl2,e2⟩
 ·rw[bD<|ne b o q];exact F.free b o q n
 ·by_cases hb:b∈frs X.stack
  ·obtain⟨sl,e1⟩:=F.slot b o q hb;obtain⟨sl2,e2⟩:=k2 b _ e1<|nf b hb o q;exact⟨_,e2⟩
  ·obtain⟨o',e1⟩:=F.there b o q hb;exact⟨o',k1 b o' e1⟩
 ·have z:=F.tups b xs q;rw[bD<|ne' b _ z];exact z
 ·have z:=F.frzs b o u q;rw[bD<|ne' b _ z];exact z
 ·obtain⟨m,z⟩:=F.tbls b ps q;exact⟨m,by rw[bD<|ne' b _ z];exact z⟩
 ·by_cases hb:b=ea
  ·subst hb;rw[bu] at q;cases q;exact⟨kx,⟨ox,kx,rfl,kf⟩,⟨ox,kx⟩,λh1 h3 ⟨o1,ho1,r1⟩ k=>⟨o1,k o1 ho1,r1⟩⟩
  ·rw[bD hb] at q;refine(F.hok.kept k1 b u q).stay (λ_ _ _ z=>z) (λc z=>?_) λc xs z=>?_
   ·rw[bD<|ne' c _ z];exact z
   ·rw[bD<|ne' c _ z];exact z
theorem Lp {i:Nat}{n:Str}{h2:Heap}{tk:Nat}{m:Zp}{v:Option av}(I:Inv X π σ H s)(hN:X.N.Nodup)(hi:X.N[i]? = some n)
  (hl:∀(j:Nat) (y:Str) (v:V),X.N[j]? = some y->σ[j]? = some (some v)->Vis X.env.scope y->∃u,RelV v u/\Look X.env s.heap m y u)
  (hn:h2.Ns X.env.locals (λy=>if y=n then v else m y)) (hs:iS X.env.locals s.heap h2):Inv X π (σ.set i none) H { s with heap:=h2,toks:=tk }:=by
 have hiσ:i<σ.length:=by rw[I.len];exact(d3.mp hi).1
 have neL:∀b o,X.s₀.heap.get? b=some o->b≠X.env.locals:=λb o q=>bp<|cb (aw q) I.ok.above;have neT:∀b u,H b=some u->b≠X.env.locals:=λb u q z=>by rw[z,I.free] at q;cases q
 refine⟨I.ok,I.os,I.bare,⟨λb o q n' hb hx=>?_,λb o q n' hb hx=>?_,I.base.free,λb o q hx=>?_,I.base.tups,I.base.frzs,I.base.tbls⟩,⟨_,hn,λj y w' e1 e2 e3=>?_⟩,λy c q=>?_,I.free,I.freeC,λp hp=>?_,λb u q=>?_,by simpa using I.len⟩
 ·exact(hs.2 b<|neL b o q).trans (I.base.keep b o q n' hb hx)
 ·obtain⟨sl,e1⟩:=I.base.slot b o q n' hb hx;exact⟨sl,(hs.2 b<|neL b o q).trans e1⟩
 ·obtain⟨o',e1⟩:=I.base.there b o q hx;exact⟨o',(hs.2 b<|neL b o q).trans e1⟩
 ·by_cases hj:j=i
  ·subst hj;rw[dn hiσ] at e2;cases e2
  ·rw[dr<|iP hj] at e2;obtain⟨u,r,l⟩:=hl j y w' e1 e2 e3;refine⟨u,r,?_⟩;rcases l with⟨k,z⟩|⟨k,c,z,z2⟩
   ·refine .inl ⟨k,?_⟩;have ny:y≠n:=λq=>hj<|Bm hN e1<|q▸hi;show(if y=n then v else m y)=some u;rw[if_neg ny];exact z
   ·exact .inr ⟨k,c,z,z2.sameBut hs<|I.cne y c z⟩
 ·obtain⟨w',z⟩:=I.cell y c q;exact⟨w',z.sameBut hs<|I.cne y c q⟩
 ·obtain⟨e1,n1,ne1,nf1,d1⟩:=I.pin p hp;exact⟨(hs.2 p.1 ne1).trans e1,n1,ne1,nf1,d1⟩
 ·refine(I.hok b u q).stay (λc w' hc z=>(hs.2 c ?_).trans z) (λ_ z=>z) λ_ _ z=>z;rcases hc with hc|hc
  ·rw[hc];exact neT b u q
  ·exact neT c _ hc
def Hn (A:dy)(H:Hp):Prop:=∃x o u vs,A.handled=some (.ref x)/\H x=some (.frz o u)/\o.data=.fields vs/\vs[2]? = some .none
def inh (X:Cx)(ea:Addr):Cx:={ X with A:=X.A.mark<|some<|.ref ea,calm:=false,xe:=λ_ _=>False }
theorem Zk (ok:X.Ok)(ea:Addr):(inh X ea).Ok:=
 ⟨ok.mod,ok.kind,ok.glob,ok.blt,ok.above,ok.inj,ok.has,ok.cab,λz=>(by cases(show false=true from z)),ok.frames,ok.stk,ok.exf,ok.bs,ok.bsz,ok.noex,ok.exfs,ok.rA,ok.frf⟩
theorem Ob (I:Inv X π σ H s)(ea:Addr):Inv (inh X ea) π σ H s:=⟨Zk I.ok ea,I.os,I.bare,I.base,I.loc,I.cell,I.free,I.freeC,I.pin,I.hok,I.len⟩
theorem Qk (I:Inv (inh X ea) π σ H s)(ok:X.Ok):Inv X π σ H s:=⟨ok,I.os,I.bare,I.base,I.loc,I.cell,I.free,I.freeC,I.pin,I.hok,I.len⟩
end
def PEx (X:Cx)(e:Expr)(t:St->Hp->VK->XK->Prop):Prop:=
 ∀(π:Zl) (s:aS) (σ:St) (H:Hp) (Q:VK) (E:XK),Inv X π σ H s->t σ H Q E->
  bg (b9 X.prog X.w) X.A (eval e X.env) (EP X π σ Q) (λx s'=>∃H1 s1,Inv X π σ H1 s1/\CX1 X.prog X.w X.stack H1 s1 E x s') s
def PSx (X:Cx)(sts:List Stmt)(t:Ends->(St->XK)->St->Hp->Prop):Prop:=
 ∀(π:Zl) (s:aS) (σ:St) (H:Hp) (D:Ends) (E:St->XK),Inv X π σ H s->t D E σ H->
  bg (b9 X.prog X.w) X.A (execs sts X.env) (SP X π D) (λx s'=>∃σ1 H1 s1,Inv X π σ1 H1 s1/\CX1 X.prog X.w X.stack H1 s1 (E σ1) x s') s
section
variable {X:Cx}{k:Nat}{f:Addr}{fd:hG}{ps:List Str}{sp:Sp}{x:Str}{p pos pos':Pos}{e:Expr}{es:List Expr}{t:TA}
theorem Wn (F:oG X.prog X.w X.K X.mg X.base (CX1 X.prog X.w) k f fd ps sp)(hr:gw k X.A)(hg:Gl X x)(hm:X.mg x=some (.ref f))(hk:lh X.K (.ref f)=true)(hb:Binds X.K fd ps [])
  (ha:PA X.nox (e::es) t) (hdb:(x==("__debug__":Str))=false:=by decide) (he:ag (e::es) X.env=(false,eval e X.env)::ag es X.env:=by rfl) (ξ:(ia pos<|ag es X.env).any (·.1)=false:=by rfl):
  PEx X (.Call (.Name x p) (e::es) [] pos) (λσ H Q E=>t σ H λvs H1=>sp vs H1 Q E):=by
 intro π s σ H Q E I h;refine gy<|pU I hg hm ?_ hdb;refine qV (h₀:=X.base) I.ok.mod.kin hk (fT (ha pos π s σ H _ (I.wish _) h) (λus s1 hE=>xq2 hE λvs H1 I1 r q=>⟨I1.GC.kIn,?_⟩) λ_ _ z=>fq z) he ξ;have I2:=I1.GC;have hl:(us++[]).length=ps.length:=by rw[cE,← r.length];exact F.len _ _ _ _ q
 have hbs:=hb s1 us I2.kIn hl;rw[cE] at hbs;refine xA<|nX (F.run X.A X.stack s1 H1 ⟨us,[]⟩ us vs Q E hr I2.env0 hbs r q) λr s' hq=>?_;cases r with
 |error e=>exact⟨H1,s1,I2,hq⟩
 |ok fl=>
  cases fl with
  |ret u=>exact I2.after hq
  |next=>exact fq hq
  |brk=>exact fq hq
  |cont=>exact fq hq
theorem ZG {st:Stmt}{t:Ends->(St->XK)->St->Hp->Prop}
  (h:∀(π:Zl) (s:aS) (σ:St) (H:Hp) (D:Ends) (E:St->XK),Inv X π σ H s->t D E σ H->
   bg (b9 X.prog X.w) X.A (exec st X.env) (SP X π D) (λx s'=>∃σ1 H1 s1,Inv X π σ1 H1 s1/\CX1 X.prog X.w X.stack H1 s1 (E σ1) x s') s):PSx X [st] t:=by
 intro π s σ H D E I hq;refine tF<|thn (h π s σ H D E I hq) λfl s1 q=>?_;cases fl with
 |next=>exact kQ q
 |ret v=>exact q
 |brk=>exact q
 |cont=>exact q
theorem aaf {i:Nat}{y:Str}{te:St->Hp->VK->XK->Prop}(hN:X.N.Nodup)(hi:X.N[i]? = some y)(hx:Loc X.env.scope y)(he:PEx X e te)(hs:fR e (some<|.Name y pos') pos.line X.env=pure false:=by rfl)
  (hf:X.fn y=true\/X.env.scope.names.lookup y=some .local:=by first|exact .inl rfl|exact .inr rfl|assumption):
  PSx X [.Assign [.Name y pos'] e pos] (λD E σ H=>te σ H (λv H1=>D.nx (σ.set i<|some v) H1)<|E σ):=
 ZG λπ s σ H D E I h=>
  wpAny_Assign_Name (fT (he π s σ H _ _ I h) (λ_ _ ⟨_,H1,I1,r1,q1⟩=>qT I1 hN hi hx r1 (λ_ I2=>⟨_,H1,I2,q1⟩) hf) λ_ _ ⟨H1,s1,J,c⟩=>⟨σ,H1,s1,J,c⟩) hs
end
def YL (i:Nat)(D:Ends):Ends:={ nx:=λσ H=>D.nx (σ.set i none) H,rt:=D.rt,bk:=λσ H=>D.bk (σ.set i none) H,ct:=λσ H=>D.ct (σ.set i none) H }
def ac7 (K:bb)(DC:Addr)(i:Nat)(tb:Ends->(St->XK)->St->Hp->Prop)(ts:Addr->TS):TS:=λD σ H=>
 tb D (λσ1 cls od H'=>rf K cls (.ref DC)=some true/\∀ea ox,H' ea=none->ox.cls=cls->ox.dict=od->(∃vs,ox.data=.fields vs/\vs[2]? = some .none)->ts ea (YL i D) (σ1.set i<|some<|.ref ea) (upd H' ea<|.frz ox<|.ext<|rO ea cls)) σ H
theorem aba {X:Cx}{body suite:List Stmt}{b₀:Stmt}{x n:Str}{np hpos pos:Pos}{i:Nat}{DC:Addr}{tb:Ends->(St->XK)->St->Hp->Prop}{ts:Addr->TS}
  (hst:X.stack=X.env::X.outer) (hfr:X.env.frame=some X.env.locals) (hb:PSx X body tb) (hN:X.N.Nodup) (hi:X.N[i]? = some n) (hn:X.env.scope.names.lookup n=some .local)
  (hg:Gl X x) (hm:X.mg x=some (.ref DC)) (hs:∀ea,PSs (inh X ea) (b₀::suite)<|ts ea) (hd:(x==("__debug__":Str))=false:=by decide):
  PS X (.Try body [.ExceptHandler (some<|.Name x np) (some n) (b₀::suite) hpos] [] [] pos) (ac7 X.K DC i tb ts):=by
 intro π s σ H D I h;refine wpAny_Try_except<|fT (hb π s σ H D _ I h) (λfl s1 q=>?_) λx' s' ⟨σ1,H1,s1,J,c⟩=>?_
 ·cases fl with
  |next=>exact kQ q
  |ret v=>exact q
  |brk=>exact q
  |cont=>exact q
 ·obtain⟨ea,ob,us,B,H',F,hx,hw⟩:=c;obtain rfl:=F.is;have hcls:(X.env.scope.kind==.class||(X.env.scope.kind==.module&&X.env.locals != X.env.globals))=false:=by rw[J.ok.kind];rfl
  have hfly:=F.fly;rw[hst] at hfly;have hA:=J.ok.frames;rw[hst] at hA;refine Mw hA hfr hfly λh4 g4 u4=>?_;refine zT g4 λh5 g5 u5=>?_;have J5:=F.inv J (tk:=s'.toks) g5.1<|u4.trans u5;have JI5:=Ob J5 ea;have x5:∀{hh:Heap},Fy B (X.env::X.outer) ea ob us .none hh->∃o,hh.get? ea=some o/\o.cls=ob.cls:=λ⟨_,_,_,_,_,_,_,q,_⟩=>⟨_,q,rfl⟩;refine wpAny_handleBy_cons (codeAny_handlers_test<|pU (X:=inh X ea) JI5 hg hm ?_ hd) (by intro q;cases q);obtain⟨o5,e5,c5⟩:=x5 g5;have LT:W.Looks (b9 X.prog X.w) h5 (typeOf<|.ref ea) ob.cls:=c5▸(W.Looks.ld e5).andThen .now;refine(W.exm_one (M:=b9 X.prog X.w) J5.kIn LT hx).here ?_;refine codeAny_handlers_suite_as ?_;refine zT g5 λh6 g6 u6=>?_;obtain⟨_,_,_,z6,T6,_,_,e6,_⟩:=id g6;have c6:(us.setIfInBounds 1<|.ref T6)[2]? = some eM:=by rw[Array.getElem?_setIfInBounds_ne<|by decide];exact F.ctx
  have J6:=F.adi J (tk:=s'.toks) g6.1 ((u4.trans u5).trans u6) e6 ⟨_,rfl⟩;refine qT (X:=inh X ea) (Ob J6 ea) hN hi (.inl hn) (show RelV (.ref ea) (.ref ea) from rfl) (λs7 J7=>?_) (.inr hn);refine fT (hs ea π s7 _ _ (YL i D) J7<|hw ea _ F.nin rfl rfl ⟨_,rfl,c6⟩) (λfl s8 q=>?_) λ_ _ z=>fq z;have go:∀{σ8:St} {H8:Hp},Inv (inh X ea) π σ8 H8 s8->(∀{s9:aS},Inv X π (σ8.set i none) H8 s9->SP X π D fl s9)->
    bg (b9 X.prog X.w) X.A (do A5 X.env n .none;unbindBehindTheSuite X.env n hpos) (λ_ s9=>SP X π D fl s9) X.xe s8:=λJ8 k=>by
   have J9:=Qk J8 J.ok;obtain⟨m,hm',hl⟩:=J9.loc;exact wpAny_nameGoes_keeps (m:=m) hn hm' hcls λh9 v hn9 hs9=>k<|Lp J9 hN hi hl hn9 hs9
  cases fl with
  |next=>obtain⟨σ8,H8,J8,q⟩:=q;exact go J8 λJ9=>⟨_,H8,J9,q⟩
  |brk=>obtain⟨σ8,H8,J8,q⟩:=q;exact go J8 λJ9=>⟨_,H8,J9,q⟩
  |cont=>obtain⟨σ8,H8,J8,q⟩:=q;exact go J8 λJ9=>⟨_,H8,J9,q⟩
  |ret u=>obtain⟨v,σ8,H8,J8,r,q⟩:=q;exact go J8 λJ9=>⟨v,_,H8,J9,r,q⟩
theorem VR {K:bb}{h:Heap}(X:K.In h)(q:BD K C bmB newId=true):
  ∃bm N nm qn bs hdct sn sub ab col dd k0 k1 k2 k3 k5 mN,h.get? C=some (y7 nm qn C N bs bm hdct sn sub ab col dd k0 k1 k2 k3 k5 newId)/\h.Ns N mN/\mN "__init__" = none/\OwnTail h bmB bm:=by
 unfold BD at q;split at q
 case h_2=>cases q
 case h_1 dd cd sl ho=>
  split at q
  case h_2=>cases q
  case h_1 C' bm k0 k1 k2 k3 n k5 hm hs=>
   simp only[beq_iff_eq,gL,Bool.not_eq_true'] at q;obtain⟨⟨⟨⟨⟨z1,z2⟩,hdel⟩,ht⟩,hok⟩,hni⟩:=q;subst z1;subst z2;obtain⟨nm,bs,mro,ns,qn,hd,sn,sub,ab,col,del⟩:=cd;have hm':mro=.ref C'::bm:=hm;have hdel':del=false:=hdel;subst hm';subst hdel';obtain⟨l⟩:=sl;have hs':l=[k0,k1,k2,k3,some<|.builtin n,k5]:=hs;subst hs';exact⟨bm,ns,nm,qn,bs,hd,sn,sub,ab,col,dd,k0,k1,k2,k3,k5,_,X _ _ ho,.of_isNs<|AZ X hok,W.nsMap_none_of_in X hok hni,W.tail_of_in X ht⟩
section
variable {X:Cx}{x:Str}{e₀:Expr}{np ρ pos:Pos}{te:TE}{C:Addr}{bmB:List av}{B newId initId:String}
theorem UW {W:XK}(FB:wq B newId initId bmB)(hq:PySem.W.excIn X.K C bmB newId=true)(hg:Gl X x)(hm:X.mg x=some (.ref C))(hh:X.A.handled=none)(he:PE X e₀ te)
  (hx:∀(π:Zl) (σ:St) (H:Hp) (s:aS) (h':Heap) (ea:Addr) (vs:List av),Inv X π σ H s->rS s.heap h' ea (.ref C) vs->W (.ref C) none H->X.xe (.ref ea) { s with heap:=h' })
  (hd:(x==("__debug__":Str))=false:=by decide) (hs:ag [e₀] X.env=(false,eval e₀ X.env)::ag [] X.env:=by rfl):
  PS X (.Raise (some<|.Call (.Name x np) [e₀] [] ρ) none pos) (λ_ σ H=>te σ H λv H1=>[v].length=1/\W (.ref C) none H1):=by
 intro π s σ H D I h;obtain⟨bm,N,nm,qn,bs,hdct,sn,sub,ab,col,dd,k0,k1,k2,k3,k5,mN,hC,hN,hni,T⟩:=VR I.ok.mod.kin hq;refine wpAny_Raise_call_subT (C:=C) (N:=N) (nm:=nm) (q:=qn) (bs:=bs) (bm:=bm) (hdct:=hdct) (sn:=sn) (sub:=sub) (ab:=ab) (col:=col) (dd:=dd) (k0:=k0) (k1:=k1) (k2:=k2) (k3:=k3) (k5:=k5) FB (T.hasType FB.hasBase) hh (by rw[hs];rfl) hni<|pU I hg hm ⟨rfl,?_⟩ hd;have pa:=ig he pJ hs ρ π s σ H (λvs H1=>vs.length=1/\W (.ref C) none H1) I h;rw[hs] at pa ⊢;refine oQ<|thn pa λus s2 hE=>xq2 hE λvs H2 I2 r q=>⟨rfl,?_,I2.bk _ _ hC,hN.keeps I2.bk,T.keeps I2.bk,λh' ea mk=>hx π σ H2 s2 h' ea us I2 mk q.2⟩;rw[← r.length,q.1];decide
end
structure Fn (P:bo)(w:dc)(K:bb)(mg:Zp)(base:Heap)(k:Nat)(x:Str)(ps:List Str)(sp:Sp):Prop where
 ex:∃f fd,oG P w K mg base (CX1 P w) k f fd ps sp/\Binds K fd ps []/\lh K (.ref f)=true/\mg x=some (.ref f)
section
theorem acE (F:Fn X.prog X.w X.K X.mg X.base k x ps sp)(hr:gw j X.A)(ha:PA X.nox (e::es) t)(hk:k<=j:=by decide)(hg:Gl X x:=by rfl)
  (hdb:(x==("__debug__":Str))=false:=by decide) (he:ag (e::es) X.env=(false,eval e X.env)::ag es X.env:=by rfl) (ξ:(ia pos<|ag es X.env).any (·.1)=false:=by rfl):
  PEx X (.Call (.Name x p) (e::es) [] pos) (λσ H Q E=>t σ H λvs H1=>sp vs H1 Q E):=by
 refine zr F.ex λf fd G b kp m=>?_;exact Wn G (hr.mono hk) hg m kp b ha hdb he ξ
end
section
variable {P:bo}{w:dc}{K:bb}{mg:Zp}{base:Heap}
theorem GP {x qual:Str}{st:Stmt}{f:Addr}{fd:hG}{N ps:List Str}{k:Nat}{sp:Sp}(F:Fun K x qual st f fd)(S:aY N ps (aD st))(len:∀vs H Q E,sp vs H Q E->vs.length=ps.length)
  (hbody:∀(cdv:av) (A:dy) (outer:List Env) (s:aS) (H:Hp) (vs:List V) (Q:VK) (E:XK),gw k (A.deeper<|rd qual (aD st) s.heap.objs.size f cdv)->sp vs H Q E->
   ∃t,PSs (kW (CX1 P w) P w K mg base N qual (aD st) f cdv A outer s H E) (gW st) t/\t { nx:=λ_ H'=>Q .non H',rt:=Q } (start N vs) H):oG P w K mg base (CX1 P w) (k+1) f fd ps sp:=by
 obtain⟨oc,od,kV,doc,pm,an,cdv,ct,osl,rfl,lk,hcd⟩:=F.ex;refine acL lk hcd S len λA outer s H vs Q E hr hsp=>?_;obtain⟨t,h,q⟩:=hbody cdv A outer s H vs Q E hr hsp;exact⟨t,h,q⟩
end
structure Df (K:bb)(mg:Zp)(x:Str)(st:Stmt)(ps:List Str):Prop where
 ex:∃f fd,Fun K x x st f fd/\Binds K fd ps []/\mg x=some (.ref f)
theorem Df.fn {P:bo}{w:dc}{K:bb}{mg:Zp}{base:Heap}{x:Str}{st:Stmt}{ps:List Str}{k:Nat}{sp:Sp}(D:Df K mg x st ps)
  (h:∀f fd,Fun K x x st f fd->oG P w K mg base (CX1 P w) k f fd ps sp):Fn P w K mg base k x ps sp:=by
 refine Ca D.ex λf fd F b m=>?_;exact⟨f,fd,h f fd F,b,F.kp,m⟩
structure XC (K:bb)(C:Addr):Prop where
 ga:cx K (.ref C) "__getattribute__" = some (some (.builtin "BaseException.__getattribute__"))
 no:cx K (.ref C) "__getattr__" = some none
 cl:cx K (.ref C) "__class__" = some (some (.builtin "object.__class__"))
 bs:sQ K (.ref C) (.type "BaseException")=some true
 ob:sQ K (.ref C) (.type "object")=some true
 is:(rV K C).isSome=true
section
variable {prog:bo}{w:dc}{A:dy}{E:Zs}{h:Heap}{g:Array nL}{d:Drawn}{t:Nat}{os:OsState}{a C:Addr}{o:Obj}{K:bb}
theorem ZL {R:Result->aS->Prop}(X:K.In h)(Z:XC K C)(hx:h.get? a=some o)(hc:o.cls=.ref C)(hq:R (.ok<|.ret<|.ref C) ⟨h,g,d,t,os⟩):
  vF (b9 prog w) A (.call (.builtin "getset_descriptor.__get__") ⟨[.builtin "object.__class__",.ref a,.ref C],[]⟩) R ⟨h,g,d,t,os⟩:=by
 have hT5:(⟨h,g,d,t,os⟩:aS).TypeIs (.builtin "object.__class__") "getset_descriptor":=og;have L8:W.Looks (b9 prog w) h (isSubtype (.ref C)<|.type<|".".intercalate ("object.__class__".cutAt '.').dropLast) true:=by
  rw[F.owner_object_class];exact sR X Z.ob
 refine ly AB.plain F.entry_gs_get<|AB.check _ _ _ _ _ _ _ _ hT5 (F.args_gs_get _ _ _) ?_
 repeat (any_goals (first|assumption|(with_reducible refine eI hx ?_;rw[hc])|with_reducible refine L8.at ?_|wp_step))
 refine⟨rg _ (by decide +kernel),codeAny_builtin F.entry_object_class ?_⟩
 repeat (any_goals (first|assumption|(with_reducible refine eI hx ?_;rw[hc])|wp_step))
theorem Rg {tk:Tok}{Q:Fin->aS->Prop}(X:K.In h)(Z:XC K C)(hx:h.get? a=some o)(hc:o.cls=.ref C)(hq:Q (.done<|.ret<|.ref C) ⟨h,g,d,t,os⟩):
  bg (b9 prog w) A (sT.«object.__getattribute__» ⟨[.ref a,.str "__class__" tk],[]⟩) Q E ⟨h,g,d,t,os⟩:=by
 have hT5:(⟨h,g,d,t,os⟩:aS).TypeIs (.builtin "object.__class__") "getset_descriptor":=og;have f5:=og;have f6:=AB.lookup;have f7:=F.slot_gs_set.lookup;have L4:=kL (M:=b9 prog w) X Z.cl
 repeat (any_goals (first|assumption|(with_reducible refine eI hx ?_;rw[hc])|with_reducible refine L4.at ?_|wp_step))
 refine ZL X Z hx hc ?_
 repeat (any_goals (first|assumption|wp_step))
theorem IW {nameV:av}{Q:Unit->aS->Prop}(X:K.In h)(Z:XC K C)(hx:h.get? a=some o)(hc:o.cls=.ref C)(hq:Q () ⟨h,g,d,t,os⟩):
  bg (b9 prog w) A (checkBuiltinCall "BaseException.__getattribute__" ⟨[.ref a,nameV],[]⟩) Q E ⟨h,g,d,t,os⟩:=by
 have hk:builtinKind "BaseException.__getattribute__" = some .slot:=by decide +kernel
 have hsp:splitId "BaseException.__getattribute__" = some ("BaseException", "__getattribute__"):=by decide +kernel
 have ha:=F.args_bexc_ga (.ref a) nameV;have L8:=sR (M:=b9 prog w) X Z.bs;simp only[checkBuiltinCall,hk,hsp];refine ae ?_;unfold AK
 repeat (first|(with_reducible refine eI hx ?_;rw[hc])|with_reducible refine L8.at ?_|wp_step)
 exact hq
theorem acs {tk:Tok}{Q:Zs}(X:K.In h)(Z:XC K C)(hx:h.get? a=some o)(hc:o.cls=.ref C)(hq:Q (.ref C) ⟨h,g,d,t,os⟩):
  bg (b9 prog w) A (getAttrBy (.ref a) (.str "__class__" tk) false) Q E ⟨h,g,d,t,os⟩:=by
 have f3:=lI.ga.bind<|.ref a;have L1:=kL (M:=b9 prog w) X Z.ga;have L2:=kL (M:=b9 prog w) X Z.no;have n1:(ip "BaseException.__getattribute__"==ip "object.__getattribute__")=false:=by decide +kernel
 have n2:(onTheHeap (bE C)&&ip "BaseException.__getattribute__"==ip "object.__getattribute__")=false:=by rw[n1];rfl
 repeat (any_goals (first|assumption|(with_reducible refine eI hx ?_;rw[hc])|with_reducible refine L1.at ?_|with_reducible refine L2.at ?_|wp_step))
 refine ly lI.ga.plain F.entry_bexc_ga<|IW X Z hx hc<|Rg X Z hx hc ?_
 repeat (any_goals (first|assumption|wp_step))
theorem W5 {Q:Option av->aS->Prop}(X:K.In h)(Z:XC K C)(hx:h.get? a=some o)(hc:o.cls=.ref C)(hq:Q (some<|.ref C) ⟨h,g,d,t+1,os⟩):
  bg (b9 prog w) A (getAttr? (.ref a) "__class__") Q E ⟨h,g,d,t,os⟩:=by
 unfold getAttr? getAttrBy?
 repeat (any_goals (first|assumption|with_reducible apply acs X Z hx hc|wp_step))
def XAt (a C:Addr)(h:Heap):Prop:=∃o,h.get? a=some o/\o.cls=.ref C
theorem BR (Z:XC K C):W.KitX K (.ref a) (.ref C) (XAt a C) where
 ty:=λ_ _ _ ⟨_,hx,hc⟩=>hc▸(W.Looks.ld hx).andThen .now
 it:=λ_ _ X _=>by
  have z:=Z.is;unfold rV at z;split at z
  ·rename_i ho;intro A' Q' E' s' k q;unfold isType loadHead;exact ae<|yk (k _ _<|X _ _ ho)<|ah q
  ·cases z
 ne:=λh tp dd χ n sl X htp=>by
  have z:=Z.is;refine Bool.eq_false_iff.mpr λq=>?_;have e:C=tp:=Value.ref.inj<|beq_iff_eq.mp q;subst e;unfold rV at z;split at z
  ·rename_i ho;have z2:=(X _ _ ho).symm.trans htp;cases z2
  ·cases z
 ca:=λ{_ _ _ _ _ s} X ⟨_,hx,hc⟩ k=>by
  obtain⟨h,g,d,t,os⟩:=s;exact W5 X Z hx hc k
end
section
variable {X:Cx}
def Yp (K:bb):List V->Hp->VK->Prop:=λxs H Q=>∃ea C c cv b,xs=[.ref ea,c]/\Yb c=some cv/\(∃ox,H ea=some (.frz ox<|.ext<|rO ea<|.ref C))/\XC K C/\bt K (.ref C) cv=some b/\Q (.bl b) H
theorem QF:fX X (.builtin "isinstance") (Yp X.K):=by
 intro π s σ H xs us Q I r h;obtain⟨ea,C,c,cv,b,rfl,rc,⟨ox,he⟩,Z,e,q⟩:=h;obtain⟨u,w',rfl,ru,rw'⟩:=vals2 r;have z:=Hu rc rw';subst z;cases(show u=bE ea from ru);obtain⟨_,⟨o,ho,hc,_⟩,_⟩:=(show cG X.prog X.w H s.heap ea (.frz ox<|.ext<|rO ea<|.ref C) from I.hok ea _ he);exact iF (BR Z) I.kIn ⟨o,ho,hc⟩ e (λz=>nomatch z) λtk=>⟨.bl b,H,I.tok _,rfl,q⟩
end
end Hd
namespace L2
open PySem PySem.Spec PyProof.Rows
section
variable {κ:Type}[DecidableEq κ]
noncomputable def uz (ι:List (κ×V))(k:κ):Option V:=(ι.find? λkv=>decide<|kv.1=k).map (·.2)
noncomputable def putK (ι:List (κ×V))(k:κ)(v:V):List (κ×V):=
 if(ι.any λkv=>decide<|kv.1=k)=true then ι.map (λkv=>if kv.1=k then(kv.1,v) else kv) else ι++[(k,v)]
theorem yg {p:κ×V}(e:p.1=k):uz (p::r) k=some p.2:=by simp[uz,ki,e]
theorem xZ {p:κ×V}(e:¬p.1=k):uz (p::r) k=uz r k:=by simp[uz,ki,e]
theorem Bo (k:κ):∀ι:List (κ×V),(ι.any λkv=>decide<|kv.1=k)=(uz ι k).isSome
 |[]=>rfl
 |p::r=>by
  rw[kB];by_cases e:p.1=k
  ·simp only[yg e,decide_eq_true e,Bool.true_or,Option.isSome_some]
  ·rw[xZ e,decide_eq_false e,tf];exact Bo k r
theorem zB (ι:List (κ×V))(k:κ)(v:V):(putK ι k v).length<=ι.length+1:=by grind[dE,cc,c8,List.length_nil,putK]
theorem Rv {ι:List (κ×V)}{k:κ}(v:V)(h:uz ι k=none):putK ι k v=ι++[(k,v)]:=by simp_all[Bo,putK]
theorem vP.yX (r:vP o u):o.isSome=u.isSome:=by
 cases o with
 |none=>cases u with
  |none=>rfl
  |some _=>exact(show False from r).elim
 |some _=>cases u with
  |none=>exact(show False from r).elim
  |some _=>rfl
theorem KV.val (r:KV ι vs)(k:κ):vP (uz ι k) (AO vs k):=by
 unfold KV at r;induction r with
 |nil=>exact fg
 | @cons p q ps qs h t ih=>
  obtain⟨h1,h2⟩:=h;by_cases e:p.1=k
  ·have e':q.1=k:=h1.symm.trans e;have b:AO (q::qs) k=some q.2:=by simp[AO,ki,e']
   rw[yg e,b];exact h2
  ·have e':¬q.1=k:=λz=>e<|h1.trans z;have b:AO (q::qs) k=AO qs k:=by simp[AO,ki,e']
   rw[xZ e,b];exact ih
theorem KV.any (r:KV ι vs)(k:κ):(ι.any λkv=>decide<|kv.1=k)=vs.any λkv=>decide (kv.1=k):=by
 unfold KV at r;induction r with
 |nil=>rfl
 |cons h t ih=>rw[kB,kB,ih,h.1]
theorem KV.repl (r:KV ι vs)(k:κ){y:V}{u:av}(ry:RelV y u):
  KV (ι.map λkv=>if kv.1=k then(kv.1,y) else kv) (vs.map λkv=>if kv.1=k then(kv.1,u) else kv):=by
 unfold KV at r ⊢;induction r with
 |nil=>exact .nil
 | @cons p q ps qs h t ih=>
  rw[aT,aT];refine .cons ?_ ih;obtain⟨h1,h2⟩:=h;by_cases e:p.1=k
  ·rw[if_pos e,if_pos<|h1.symm.trans e];exact⟨h1,ry⟩
  ·rw[if_neg e,if_neg λz=>e<|h1.trans z];exact⟨h1,h2⟩
theorem KV.put (r:KV ι vs)(k:κ){y:V}{u:av}(ry:RelV y u):KV (putK ι k y) (stored vs k u):=by
 unfold putK stored;rw[r.any k];by_cases e:(vs.any λkv=>decide<|kv.1=k)=true
 ·rw[if_pos e,if_pos e];exact r.repl k ry
 ·rw[if_neg e,if_neg e];exact Paired.snoc r ⟨rfl,ry⟩
theorem KV.length (r:KV ι vs):ι.length=vs.length:=k8 r
end
theorem M4 (r:RelV (kV k) u):(mR P w).is k u=true:=by
 cases k with
 |inl i=>obtain⟨t,e⟩:=(show ∃t,u=zh i t from r);subst e;exact Jb P w i t
 |inr x=>obtain⟨t,e⟩:=(show ∃t,u=zi x t from r);subst e;exact Hv P w x t
abbrev KT (T:Addr->List V->Prop)(H:Hp):List (List Kt×V)->List (List Kt×Addr×av)->Prop:=js λp q=>p.1=q.1/\TrT T H q.2.1 p.1/\RelV p.2 q.2.2
theorem KT.val (r:KT T H ι xs)(k:List Kt):vP (uz ι k) ((A3 xs k).map (·.2)):=by
 induction r with
 |nil=>exact fg
 | @cons p q ps qs h t ih=>
  obtain⟨h1,_,h2⟩:=h;by_cases e:p.1=k
  ·have e':q.1=k:=h1.symm.trans e;have b:A3 (q::qs) k=some q.2:=by simp[A3,ki,e']
   rw[yg e,b];exact h2
  ·have e':¬q.1=k:=λz=>e<|h1.trans z;have b:A3 (q::qs) k=A3 qs k:=by simp[A3,ki,e']
   rw[xZ e,b];exact ih
theorem KT.repl (r:KT T H ι xs)(k:List Kt){y:V}{u:av}(ry:RelV y u):
  KT T H (ι.map λkv=>if kv.1=k then(kv.1,y) else kv) (xs.map<|putAt k u):=by
 induction r with
 |nil=>exact .nil
 | @cons p q ps qs h t ih=>
  rw[aT,aT];refine .cons ?_ ih;obtain⟨h1,h2,h3⟩:=h;unfold putAt;by_cases e:p.1=k
  ·rw[if_pos e,if_pos<|h1.symm.trans e];exact⟨h1,h2,ry⟩
  ·rw[if_neg e,if_neg λz=>e<|h1.trans z];exact⟨h1,h2,h3⟩
theorem KT.put (r:KT T H ι xs)(k:List Kt){b:Addr}{y:V}{u:av}(hb:TrT T H b k)(ry:RelV y u):
  KT T H (putK ι k y) (storedH xs k b u):=by
 have e:(ι.any λkv=>decide<|kv.1=k)=(A3 xs k).isSome:=by
  rw[Bo,(r.val k).yX,AQ]
 unfold putK storedH;rw[e];by_cases q:(A3 xs k).isSome=true
 ·rw[if_pos q,if_pos q];exact r.repl k ry
 ·rw[if_neg q,if_neg q];exact Paired.snoc r ⟨rfl,hb,ry⟩
theorem KT.keeps (r:KT T H ι xs)(ht:∀b ys,H b=some (.tup ys)->H' b=some (.tup ys)):KT T H' ι xs:=
 js.aa5 r λ_ _ z=>⟨z.1,z.2.1.imp ht,z.2.2⟩
section
theorem YG (ok:HOk P w H h)(e:Rd H a u):cG P w H h a u:=e.ok ok
theorem Et (ok:HOk P w H h)(e:Rd H a (.dK ι)):ι.length<=ay/\(a==iA)=false/\∃vs,KV ι vs/\h.DictOf (mR P w) a vs:=
 show cG P w H h a (.dK ι) from YG ok e
theorem ab4 (ok:HOk P w H h)(e:H a=some (.dK ι)):ι.length<=ay/\(a==iA)=false/\∃vs,KV ι vs/\h.DictOf (mR P w) a vs:=Et ok<|.inl e
theorem Jc (hT:∀b ks,TrT T H b ks->(lg P w).is h ks b)(ok:HOk P w H h)(e:Rd H a (.dT T ι)):ι.length<=ay/\(a==iA)=false/\
  ∃xs,KT T H ι xs/\h.DictOfH (lg P w) a xs:=by
 obtain⟨z,y,xs,r,o,es,ep,h1,h2,h3,h4,h5⟩:=(show cG P w H h a (.dT T ι) from YG ok e);refine⟨z,y,xs,r,o,es,ep,h1,h2,h3,h4,λx hx=>?_,h5⟩;have all:∀{l:List (List Kt×V)} {m:List (List Kt×Addr×av)},KT T H l m->∀x∈m,(lg P w).is h x.1 x.2.1:=by
  intro l m q;induction q with
  |nil=>intro x hx;exact nomatch hx
  | @cons p q ps qs hq t ih=>
   intro x hx;rcases bq.mp hx with e|hx
   ·subst e;rw[← hq.1];exact hT _ _ hq.2.1
   ·exact ih x hx
 exact all r x hx
theorem Sh (hT:∀b ks,TrT T H b ks->(lg P w).is h ks b)(ok:HOk P w H h)(e:H a=some (.dT T ι)):ι.length<=ay/\(a==iA)=false/\
  ∃xs,KT T H ι xs/\h.DictOfH (lg P w) a xs:=Jc hT ok<|.inl e
end
def Ub (K:bb)(H:Hp)(a:Addr)(y:V)(r:Option V):Prop:=
 (∃ι k,Rd H a (.dK ι)/\y=kV k/\r=uz ι k)\/∃ι k b,Rd H a (.dT (KTp K) ι)/\y=.ref b/\TrT (KTp K) H b k/\r=uz ι k
def RC (K:bb)(H:Hp)(a:Addr)(y v:V)(H':Hp):Prop:=
 (∃ι k,H a=some (.dK ι)/\y=kV k/\ι.length<ay/\H'=upd H a (.dK<|putK ι k v)) ∨
 ∃ι k b,H a=some (.dT (KTp K) ι)/\y=.ref b/\TrT (KTp K) H b k/\ι.length<ay/\H'=upd H a (.dT (KTp K)<|putK ι k v)
theorem RC.t {K:bb}{H:Hp}{a b:Addr}{ι:List (List Kt×V)}{k:List Kt}{v:V}(e:H a=some (.dT (KTp K) ι))(eb:TrT (KTp K) H b k)(hl:ι.length<ay):
  RC K H a (.ref b) v (upd H a<|.dT (KTp K)<|putK ι k v):=.inr ⟨ι,k,b,e,rfl,eb,hl,rfl⟩
section
variable {X:Cx}{π:Zl}{σ:St}{H:Hp}{s:aS}{a:Addr}{y v:V}{u r:av}{o:Option V}{A:dy}{E:Zs}
theorem Inv.big (I:Inv X π σ H s):iA<s.heap.objs.size:=by
 have h:cK<s.heap.objs.size:=(I.mod.glob.keeps I.bk).lt;exact Nat.lt_trans (by decide) h
mutual
theorem Mg (I:Inv X π σ H s):∀{n:Nat} {v:V} {k:Kt} {u:av},zM (KTp X.K) H n v k->RelV v u->mZ s.heap n k u
 |n,_,_,u,.k (x:=x),r=>by rw[qw];exact M4 (P:=X.prog) (w:=X.w) r
 |_,_,_,u,.t (b:=b) h hs,r=>by
  cases(show u=bE b from r);obtain⟨χ,rv,⟨o,ho,hc,m,hd⟩,_⟩:=I.tuple<|SqU.sq h;exact lM.mpr ⟨b,o,χ.toArray,m,rfl,ho,hc,hd,by simpa using Ia I hs rv⟩
theorem Ia (I:Inv X π σ H s):∀{n:Nat} {vs:List V} {ks:List Kt} {us:List av},um (KTp X.K) H n vs ks->Vals vs us->js (mZ s.heap n) ks us
 |_,_,_,_,.nil,.nil=>.nil
 |_,_,_,_,.cons h hs,.cons r rs=>.cons (Mg I h r)<|Ia I hs rs
end
theorem yK (I:Inv X π σ H s)(e:TrT (KTp X.K) H b ks):(lg X.prog X.w).is s.heap ks b:=by
 obtain⟨vs,h,hs⟩:=e;exact Mg I (.t h hs) rfl
theorem Cq (I:Inv X π σ H s):∀b ks,TrT (KTp X.K) H b ks->(lg X.prog X.w).is s.heap ks b:=λb ks e=>yK I e
theorem vD (hu:A.units+16<pw):(lg X.prog X.w).room A.in1:=by
 show A.units+1+8<pw
 lia
theorem QV (hu:A.units+16<pw)(I:Inv X π σ H s)(g:Ub X.K H a y (some v))(ry:RelV y u)(h:∀w' s',Inv X π σ H s'->RelV v w'->Q w' s'):
  bg (b9 X.prog X.w) A (y3 (.ref a) u) Q E s:=by
 rcases g with⟨ι,k,e,ey,l⟩|⟨ι,k,b,e,ey,eb,l⟩
 ·subst ey;obtain⟨z,hd,vs,rel,dd⟩:=Et I.hok e;obtain⟨w',hw,rw'⟩:=vP.some_of (v:=v) (o:=AO vs k) (by rw[l];exact rel.val k);exact wpAny_getItem_of (M4 ry) dd.mapOf hw<|h w' _ (I.tok _) rw'
 ·subst ey;cases(show u=bE b from ry);obtain⟨z,hd,xs,rel,dd⟩:=Jc (Cq I) I.hok e;obtain⟨w',hw,rw'⟩:=vP.some_of (v:=v) (o:=(A3 xs k).map (·.2)) (by rw[l];exact rel.val k);obtain⟨p,hp,hp2⟩:=mM.mp hw;refine wpAny_getItem_heap (vD hu) (yK I eb) dd hp ?_;rw[hp2];exact h w' _ (I.tok _) rw'
theorem Xb (hu:A.units+16<pw)(I:Inv X π σ H s)(g:Ub X.K H a y o)(ry:RelV y u)(h:∀s',Inv X π σ H s'->Q (.bool<|!o.isSome) s'):
  bg (b9 X.prog X.w) A (eW .NotIn u<|.ref a) Q E s:=by
 rcases g with⟨ι,k,e,ey,l⟩|⟨ι,k,b,e,ey,eb,l⟩
 ·subst ey;obtain⟨z,hd,vs,rel,dd⟩:=Et I.hok e;refine wpAny_notIn_of (M4 ry) hd dd.mapOf ?_;rw[← (rel.val k).yX,← l];exact h _<|I.tok _
 ·subst ey;cases(show u=bE b from ry);obtain⟨z,hd,xs,rel,dd⟩:=Jc (Cq I) I.hok e;refine wpAny_notIn_heap (vD hu) (yK I eb) hd dd ?_;have q:=(rel.val k).yX;rw[AQ] at q;rw[← q,← l];exact h _<|I.tok _
theorem Ae (I:Inv X π σ H s)(mu:Mut (H a))(hs:iS a s.heap h')(he:∃q,h'.get? a=some q)(new:cG X.prog X.w (upd H a ob) h' a ob):
  Inv X π σ (upd H a ob) { s with heap:=h',toks:=t' }:=
 I.write (x:=a) (e:=a) mu (.inl rfl) (λb q hb z=>(hs.2 b hb).trans z) he new
theorem Zy (z:ι.length<=ay)(hd:(a==iA)=false)(rel:KV ι vs)(dd:h'.DictOf (mR P w) a vs):
  cG P w H' h' a (.dK ι):=⟨z,hd,vs,rel,dd⟩
theorem PL (hu:A.units+16<pw)(I:Inv X π σ H s)(g:RC X.K H a y v H')(ry:RelV y u)(rv:RelV v r)(h:∀s',Inv X π σ H' s'->Q () s'):
  bg (b9 X.prog X.w) A (setItem (.ref a) u r) Q E s:=by
 rcases g with⟨ι,k,e,ey,l,eH⟩|⟨ι,k,b,e,ey,eb,l,eH⟩
 ·subst ey eH;obtain⟨z,hd,vs,rel,dd⟩:=ab4 I.hok e;have hz:vs.length<=ay:=by rw[← rel.length];exact z
  have hl:(putK ι k v).length<=ay:=by have:=zB ι k v;lia
  refine wpAny_setItem_pairs (hsz:=hz) (M4 ry) dd λh' dd' hs=>h _ ?_;have he:∃q,h'.get? a=some q:=let⟨q,_,_,hq,_⟩:=dd';⟨q,hq⟩
  exact Ae I (by rw[e];exact fg) hs he<|Zy hl hd (rel.put k rv) dd'
 ·subst ey eH;cases(show u=bE b from ry);obtain⟨z,hd,xs,rel,dd⟩:=Sh (Cq I) I.hok e;have hz:xs.length<=ay:=by rw[← k8 rel];exact z
  have hl:(putK ι k v).length<=ay:=by have:=zB ι k v;lia
  refine wpAny_setItem_heap (hsz:=hz) (vD hu) (yK I eb) dd λh' dd' hs=>h _ ?_;refine Dr dd' λq es ep hq h2 h3 h4 _ h5=>?_;refine Ae I (by rw[e];exact fg) hs ⟨q,hq⟩ ⟨hl,hd,_,(rel.put k eb rv).keeps λc ys ec=>?_,q,es,ep,hq,h2,h3,h4,h5⟩;rw[bD<|Ua ec e λz=>nomatch z];exact ec
end
section
theorem acr (I:Inv X π σ H s)(e:Rd H a (.dK ι))(h:∀t s',Inv X π σ H s'->Q (.int ι.length t) s'):bg (b9 X.prog X.w) A (call (.builtin "len") [.ref a]) Q E s:=by
 obtain⟨z,hd,vs,rel,dd⟩:=Et I.hok e;refine call_len_dict hd dd (by rw[← rel.length];rw[sF] at z;lia) ?_;rw[← rel.length];exact h _ _<|I.tok _
end
def aac (i:Expr):Prop:=∀ov iv,y4 i false ov iv=operate [ov,iv] (y3 ov iv)
theorem Wu {prog:bo}{w:dc}{A:dy}{E:Zs}{s:aS}{env:Env}{value slice:Expr}{pos:Pos}{T id:String}{Q:Zs}
  (hl:xB (.type T) "__getitem__" = pure (some<|.builtin id)) (hs:aac slice)
  (h:bg (b9 prog w) A (eval value env) (λo s₁=>bg (b9 prog w) A (eval slice env) (λi s₂=>s₂.TypeIs o T/\bg (b9 prog w) A (y3 o i) Q E s₂) E s₁) E s):
  bg (b9 prog w) A (eval (.Subscript value slice pos) env) Q E s:=by
 refine Subscript_<|fT h (λo s₁ h₁=>fT h₁ (λi s₂ h₂=>?_) λ_ _ x=>x) λ_ _ x=>x;obtain⟨hT,h₂⟩:=h₂;unfold AA;refine ae ?_;rw[getitemInPython_of_ne hT.not_modules];refine ae<|jv hT hl ?_;have fin:bg (b9 prog w) A (y4 slice false o i) (λr s₃=>bg (b9 prog w) A (letTemporaryGo value o r >>= λ_=>pure r) Q E s₃) E s₂:=by
  rw[hs o i];exact wpAny_operating<|fT h₂ (λr s₃ h₃=>ae<|wpAny_letTemporaryGo<|ah h₃) λ_ _ x=>x
 first
  |exact ah (ae fin)
  |exact ae (ah<|ae fin)
  |exact ae fin
theorem Iw (I:Inv X π σ H s)(g:Ub X.K H a y o):s.TypeIs (.ref a) "dict":=by
 rcases g with⟨ι,k,e,_,_⟩|⟨ι,k,b,e,_,_,_⟩
 ·obtain⟨_,_,vs,_,dd⟩:=Et I.hok e;exact dd.typeIs
 ·obtain⟨_,_,xs,_,dd⟩:=Jc (Cq I) I.hok e;exact dd.typeIs
def abV (K:bb)(td ty:TE):TE:=λσ H Q=>td σ H λx H1=>ty σ H1 λy H2=>∃a v,x=.ref a/\Ub K H2 a y (some v)/\Q v H2
def acv (K:bb)(td ty tv:TE):TS:=λD σ H=>tv σ H λv H1=>td σ H1 λx H2=>ty σ H2 λy H3=>∃a H4,x=.ref a/\RC K H3 a y v H4/\D.nx σ H4
section
theorem Wd (hu:X.A.units+16<pw)(ho:PE X o td)(hi:PE X i ty)(hs:aac i):PE X (.Subscript o i pos) (abV X.K td ty):=by
 intro π s σ H Q I h;refine Wu PySem.F.slot_dict_getitem.lookup hs<|thn (ho π s σ H _ I h) λu s1 ⟨x,H1,I1,rx,q1⟩=>thn (hi π s1 σ H1 _ I1 q1) λiv s2 hE=>?_;obtain⟨y,H2,I2,ry,a,v,ex,g,q2⟩:=hE;subst ex;obtain rfl:u=bE a:=rx;exact⟨Iw I2 g,QV hu I2 g ry λw' s3 I3 rw'=>⟨v,H2,I3,rw',q2⟩⟩
theorem WM (hu:X.A.units+16<pw)(ho:PE X o td)(hi:PE X i ty)(hv:PE X value tv)(hs:fR value (some<|.Subscript o i pos') pos.line X.env=pure false):
  PS X (.Assign [.Subscript o i pos'] value pos) (acv X.K td ty tv):=by
 intro π s σ H D I h;refine wpAny_Assign_Subscript (thn (hv π s σ H _ I h) λr s1 ⟨v,H1,I1,rv,q1⟩=>thn (ho π s1 σ H1 _ I1 q1) λu s2 ⟨x,H2,I2,rx,q2⟩=>thn (hi π s2 σ H2 _ I2 q2) λiv s3 ⟨y,H3,I3,ry,a,H4,ex,g,q3⟩=>?_) hs;subst ex;obtain rfl:u=bE a:=rx;exact PL hu I3 g ry rv λs4 I4=>⟨σ,H4,I4,q3⟩
end
theorem Hs (h:Heap)(hb:iA<h.objs.size):cG P w H (h.push { cls:=.type "dict",data:=.dict #[] }) h.objs.size (.dT T []):=
 ⟨fS _,beq_eq_false_iff_ne.mpr<|iP<|bp hb,[],.nil,_,#[],0,a7 _ rfl,⟨rfl,rfl,rfl⟩,rfl,rfl,List.nodup_nil⟩
def aaK (K:bb):TE:=λ_ H Q=>∀p,H p=none->Q (.ref p) (upd H p<|.dT (KTp K) [])
section
theorem UG:PE X (.Dict [] [] pos) (aaK X.K):=λπ s σ H Q I h=>
 wpAny_Dict_empty ⟨.ref s.heap.objs.size,_,I.laid (a:=s.heap.objs.size) (o:=.dT (KTp X.K) []) (t':=s.toks) (λ_ _ q=>af _ q) (aI _)<|Hs s.heap I.big,rfl,h _<|I.hok.fresh<|aI _⟩
end
structure M2 (X:Cx)(o:Expr)(m:Str)(apos:Pos)(e f:Expr)(ρ:Pos):Prop where
 base:h8 o m X.env (eval o X.env)=eval o X.env
 few:((ia ρ (ag [e,f] X.env)).all (λx=>!x.1)&&(A6 ρ (sN [] X.env)).all (λx=>x.1.isSome)
  && decide (([e,f]:List Expr).length+([]:List sP).length+(if([]:List sP).isEmpty then 0 else 1)<30))=true
 line:(apos.endLine==ρ.line)=true
 trees:ia ρ (ag [e,f] X.env)=[(false,eval e X.env),(false,eval f X.env)]
def IsD (K:bb)(H:Hp)(a:Addr):Prop:=(∃ι,Rd H a<|.dK ι)\/∃ι,Rd H a<|.dT (KTp K) ι
theorem aal (I:Inv X π σ H s)(d:IsD X.K H a):
  s.TypeIs (.ref a) "dict"/\(∀b,bE a=.ref b->∃ob,s.heap.get? b=some ob/\ob.dict=none)/\(a==iA)=false:=by
 rcases d with⟨ι,e⟩|⟨ι,e⟩
 ·obtain⟨_,hd,vs,_,dd⟩:=Et I.hok e;refine⟨dd.typeIs,λb q=>?_,hd⟩;cases q;refine Nf dd λob _ _ h1 h2 _=>?_;exact⟨ob,h1,h2.2.1⟩
 ·obtain⟨_,hd,xs,_,dd⟩:=Jc (Cq I) I.hok e;refine⟨dd.typeIs,λb q=>?_,hd⟩;cases q;refine Nf dd λob _ _ h1 h2 _=>?_;exact⟨ob,h1,h2.2.1⟩
section
end
section
end
section
end
section
end
section
end
section
variable {κ:Type}[DecidableEq κ]
end
end L2
namespace Hd
open PySem PySem.Spec PyProof.Rows L2
theorem bO (h:H p=none)(o:HO):aN H (upd H p o):=λb u q=>by
 rw[bD<|lU q h];exact q
section
theorem bN (h:PE X e T)(k:∀σ H Q,T' σ H Q->T σ H Q):PE X e T':=λπ s σ H Q I q=>h π s σ H Q I<|k σ H Q q
def clA (t:TA):TA:=λσ H Q=>∃R,t σ H R/\∀xs H1,R xs H1->Q xs H1
theorem YJ (h:PA X es t):PA X es (clA t):=λpos π s σ H Q I ⟨R,hR,k⟩=>thn (h pos π s σ H R I hR) λ_ _ hE=>xq2 hE λvs H1 I1 r q=>⟨vs,H1,I1,r,k _ _ q⟩
def abQ (t:TA):TE:=λσ H Q=>t σ H λxs H1=>xs.length<=ay/\∀p H',aN H1 H'->H' p=some (.tup xs)->Q (.ref p) H'
theorem V9 (h:PA X es t):PE X (.Tuple es x1 pos) (abQ t):=
 bN (RW<|YJ h) λ_ _ _ q=>⟨_,q,λ_ _ ⟨z,k⟩=>⟨z,λp hp=>k p _ (bO hp _) bu⟩⟩
end
abbrev cW (X:Cx)(N':List Str)(scope:rL)(cl:List (Str×Addr))(C:Addr)(sE:aS)(HE:Hp)(fp:List Addr)(π:Zl):Cx:=
 { X with N:=N',s₀:=sE,H₀:=HE,env:=compEnvC scope cl C X.env,outer:=X.stack,ex:=fp,fn:=λ_=>false,pn:=X.pn++π,xe:=λ_ _=>False }
structure CSc (sc scope:rL)(caps:List Str):Prop where
 kind:scope.kind=.function
 nocell:∀y∈scope.names,y.2≠.cell
 loc:∀y∈scope.names,y.2=.local->scope.names.lookup y.1=some .local
 free:∀y∈scope.names,y.2=.free->sc.names.lookup y.1=some .cell\/sc.names.lookup y.1=some .free
 caps:∀x∈caps,scope.names.lookup x=some .free/\(sc.names.lookup x=some .cell\/sc.names.lookup x=some .free)
theorem mem_of_lookup:∀{l:List (Str×β)} {x:Str} {k:β},l.lookup x=some k->(x,k)∈l
 |[],_,_,h=>by simp at h
 |(n,k')::r,x,k,h=>by
  rw[c9] at h;split at h
  ·rename_i e;have e':x=n:=by simpa using e
   cases h;rw[e'];exact ar
  ·exact ai _<|mem_of_lookup h
theorem wZ {env:Env}:∀{names:List (Str×sL)} {x:Str},names.lookup x=some .free->
  (names.map λ(n,k)=>if(k==gi&&env.scope.kind==.function&&env.kindOf n==some .cell) then(n,kD) else(n,k)).lookup x=some .cell ∨
  (names.map λ(n,k)=>if(k==gi&&env.scope.kind==.function&&env.kindOf n==some .cell) then(n,kD) else(n,k)).lookup x=some .free
 |[],_,h=>by simp at h
 |(n,k)::r,x,h=>by
  have ih:=@wZ env r x;show hZ x ((if(k==gi&&env.scope.kind==.function&&env.kindOf n==some .cell)=true then(n,kD) else(n,k))::_)=_\/hZ x ((if(k==gi&&env.scope.kind==.function&&env.kindOf n==some .cell)=true then(n,kD) else(n,k))::_)=_;cases hx:x==n with
  |true=>
   simp only[c9,hx] at h;cases h;by_cases hc:(gi==gi&&env.scope.kind==.function&&env.kindOf n==some .cell)=true
   ·rw[if_pos hc];simp only[c9,hx];exact .inl trivial
   ·rw[if_neg hc];simp only[c9,hx];exact .inr trivial
  |false=>
   simp only[c9,hx] at h;by_cases hc:(k==gi&&env.scope.kind==.function&&env.kindOf n==some .cell)=true
   ·rw[if_pos hc];simp only[c9,hx];exact ih h
   ·rw[if_neg hc];simp only[c9,hx];exact ih h
theorem Cp {env:Env}:∀{names:List (Str×sL)} {x:Str},(∀y∈names,y.2≠.cell)->
  ((names.map λ(n,k)=>if(k==gi&&env.scope.kind==.function&&env.kindOf n==some .cell) then(n,kD) else(n,k)).lookup x=some .cell ∨
  (names.map λ(n,k)=>if(k==gi&&env.scope.kind==.function&&env.kindOf n==some .cell) then(n,kD) else(n,k)).lookup x=some .free)->names.lookup x=some .free
 |[],_,_,h=>by simp at h
 |(n,k)::r,x,hn,h=>by
  have ih:=@Cp env r x λy hy=>hn y<|ai _ hy;have h':hZ x ((if(k==gi&&env.scope.kind==.function&&env.kindOf n==some .cell)=true then(n,kD) else(n,k))::_)=some .cell\/hZ x ((if(k==gi&&env.scope.kind==.function&&env.kindOf n==some .cell)=true then(n,kD) else(n,k))::_)=some .free:=h;have hk:k≠.cell:=hn (n,k) ar;by_cases hc:(k==gi&&env.scope.kind==.function&&env.kindOf n==some .cell)=true
  ·rw[if_pos hc] at h';have kf:k=.free:=by
    simp only[gL,beq_iff_eq] at hc;exact hc.1.1
   subst kf;cases hx:x==n with
   |true=>simp only[c9,hx]
   |false=>
    simp only[c9,hx] at h' ⊢;exact ih h'
  ·rw[if_neg hc] at h';cases hx:x==n with
   |true=>
    simp only[c9,hx] at h' ⊢;rcases h' with z|z
    ·exact absurd (bX z) hk
    ·exact z
   |false=>
    simp only[c9,hx] at h' ⊢;exact ih h'
theorem wH:∀(names:List (Str×sL)) (acc:List (Str×Addr)),(∀y∈names,y.2=.free->∃c,env.cells.lookup y.1=some c)->
  ∃cl,(forIn names acc λ(y:Str×sL) (cs:List (Str×Addr))=>(if y.2==.free then do let c←cellOf env y.1;pure (pV ((y.1,c)::cs)) else pure (pV cs):Sem (ForInStep<|List<|Str×Addr)))=pure cl/\
   (∀x c,cl.lookup x=some c->acc.lookup x=some c\/env.cells.lookup x=some c)/\(∀x c,acc.lookup x=some c->∃c',cl.lookup x=some c')/\∀y∈names,y.2=.free->∃c,cl.lookup y.1=some c
 |[],acc,_=>⟨acc,rfl,λ_ _ e=>.inl e,λ_ c e=>⟨c,e⟩,λ_ z=>nomatch z⟩
 |(n,k)::r,acc,h=>by
  have hr:∀y∈r,y.2=.free->∃c,env.cells.lookup y.1=some c:=λy hy=>h y<|ai _ hy;by_cases hk:(k==gi)=true
  ·obtain⟨c,hc⟩:=h (n,k) ar (by simpa using hk);refine Ay (wH r ((n,c)::acc) hr) λcl e h1 h2 h3=>?_;refine⟨cl,?_,λx d q=>?_,λx d q=>?_,λy hy q=>?_⟩
   ·have ec:cellOf env n=pure c:=by unfold cellOf;rw[show env.cells.lookup n=some c from hc]
    rw[wx];simp only[hk,if_true,ec,pure_bind];exact e
   ·rcases h1 x d q with z|z
    ·rw[c9] at z;split at z
     ·rename_i e1;have e1':x=n:=by simpa using e1
      cases z;rw[e1'];exact .inr hc
     ·exact .inl z
    ·exact .inr z
   ·by_cases e1:(x==n)=true
    ·exact h2 x c<|by rw[c9,e1]
    ·exact h2 x d (by rw[c9];simp only[Bool.not_eq_true] at e1;rw[e1];exact q)
   ·rcases bq.mp hy with z|z
    ·subst z;exact h2 n c (by rw[c9];simp)
    ·exact h3 y z q
  ·refine Ay (wH r acc hr) λcl e h1 h2 h3=>?_;refine⟨cl,?_,h1,h2,λy hy q=>?_⟩
   ·rw[wx];simp only[hk,if_false,pure_bind,gv];exact e
   ·rcases bq.mp hy with z|z
    ·subst z;exact absurd (show(k==gi)=true by simpa using q) hk
    ·exact h3 y z q
theorem zm (h:∀y∈scope.names,y.2=.free->∃c,env.cells.lookup y.1=some c):
  ∃cl,closureFor scope env=pure cl/\(∀x c,cl.lookup x=some c->env.cells.lookup x=some c)/\∀y∈scope.names,y.2=.free->∃c,cl.lookup y.1=some c:=by
 refine Ay (wH scope.names [] h) λcl e h1 _ h3=>?_;refine⟨cl,?_,λx c q=>(h1 x c q).elim (λz=>by simp at z) id,h3⟩;unfold closureFor;simp only[bind_pure];refine Eq.trans ?_ e;rfl
section
variable {X:Cx}{π:Zl}{σ:St}{HE:Hp}{sE:aS}{N':List Str}{scope sc:rL}{cl:List (Str×Addr)}{fp:List Addr}{caps:List Str}
theorem Wc (I:Inv X π σ HE sE)(S:CSc sc scope caps)(hfp:∀b∈fp,yQ X π HE b/\b<sE.heap.objs.size)
  (hc1:∀x c,cl.lookup x=some c->X.env.cells.lookup x=some c) (hc2:∀y∈scope.names,y.2=.free->∃c,cl.lookup y.1=some c):
  (cW X N' scope cl sE.heap.objs.size sE HE fp π).Ok where
 mod:=I.ok.mod
 kind:=S.kind
 glob:=I.ok.glob
 blt:=I.ok.blt
 above:=aI _
 inj:=λx y c h1 h2=>I.ok.inj x y c (hc1 x c h1)<|hc1 y c h2
 has:=λx h=>hc2 (x,.free) (mem_of_lookup<|Cp S.nocell h) rfl
 cab:=λx c h=>nomatch h
 hd:=I.ok.hd
 frames:=I.ok.frames
 stk:=.inl rfl
 exf:=λb hb=>⟨bp (hfp b hb).2,λx c h=>(hfp b hb).1.2.2.2.2.1 x c<|hc1 x c h⟩
 bs:=I.bs
 bsz:=cy I.ok.bsz I.sz
 noex:=λb o e hb=>by
  rcases(hfp b hb).1.2.2.2.1 with z|z
  ·exact I.ok.noex b o e z
  ·exact absurd (cb (aw e)<|cy I.ok.bsz z)<|eT _
 exfs:=λb hb hz=>by
  rcases bq.mp (I.Gg b hz) with z|z
  ·exact(hfp b hb).1.2.1 z
  ·exact(hfp b hb).1.2.2.1 z
 rA:=I.stack
 frf:=I.xR
theorem Vl {cap:List Nat}{h':Heap}(I:Inv X π σ HE sE)(S:CSc sc scope caps)(hsc:X.env.scope=sc)(hfp:∀b∈fp,yQ X π HE b/\b<sE.heap.objs.size)
  (hc1:∀x c,cl.lookup x=some c->X.env.cells.lookup x=some c) (hc2:∀y∈scope.names,y.2=.free->∃c,cl.lookup y.1=some c)
  (hN:N'.drop k=caps) (hk:k<=N'.length) (hcap:js (λj x=>X.N[j]? = some x) cap caps) {m:Zp}
  (kp:∀b o,sE.heap.get? b=some o->h'.get? b=some o) (hns:h'.Ns sE.heap.objs.size m) (tk:Nat):
  Inv (cW X N' scope cl sE.heap.objs.size sE HE fp π) [] (br k none++cap.map λj=>(σ[j]?).join) HE { sE with heap:=h',toks:=tk } where
 ok:=Wc I S hfp hc1 hc2
 os:=rfl
 bare:=I.bare
 base:=Un.kept kp
 loc:=by
  refine⟨m,hns,λi x v e1 e2 e3=>?_⟩;have hik:k<=i:=by
   by_cases z:k<=i
   ·exact z
   ·rw[fw (by simp;lia),g7] at e2;rw[if_pos<|by lia] at e2;cases e2
  obtain⟨j',rfl⟩:∃j',i=k+j':=⟨i-k,by lia⟩;rw[gu (by simp),kS,Nat.add_sub_cancel_left,cp] at e2;have hx:caps[j']? = some x:=by rw[← hN,List.getElem?_drop];exact e1
  have:∀{l:List Nat} {l':List Str} {i:Nat},js (λj x=>X.N[j]? = some x) l l'->l'[i]? = some x->∃j,l[i]? = some j/\X.N[j]? = some x:=by
   intro l l' i p;induction p generalizing i with
   |nil=>intro z;simp at z
   |cons a _ ih=>
    intro z;cases i with
    |zero=>simp at z;subst z;exact⟨_,rfl,a⟩
    |succ i=>exact ih (by simpa using z)
  obtain⟨j,hj,hNj⟩:=this hcap hx;rw[hj] at e2;have e2':σ[j]? = some (some v):=by
   cases q:σ[j]? with
   |none=>rw[iN,q] at e2;cases e2
   |some o=>
    rw[iN,q] at e2
    have:o=some v:=bX e2
    rw[this]
  obtain⟨hxf,hxo⟩:=S.caps x<|oP hx;rw[← hsc] at hxo;obtain⟨m0,_,hl⟩:=I.loc;obtain⟨u,r,L⟩:=hl j x v hNj e2'<|hxo.elim (λz=>.inr<|.inl z) λz=>.inr<|.inr z;refine⟨u,r,.inr ⟨wZ hxf,?_⟩⟩;rcases L with⟨z,_⟩|⟨_,c,hc,hcell⟩
  ·have z':X.env.scope.names.lookup x=some .local:=z;rcases hxo with q|q<;>rw[z'] at q<;>cases q
  ·obtain⟨c',hc'⟩:=hc2 (x,.free) (mem_of_lookup hxf) rfl;have e:=hc1 x c' hc';rw[hc] at e;cases e;obtain⟨o,ho,hd⟩:=hcell;exact⟨c,hc',o,kp c o ho,hd⟩
 cell:=λx c e=>by
  obtain⟨v,o,ho,hd⟩:=I.cell x c<|hc1 x c e;exact⟨v,o,kp c o ho,hd⟩
 free:=I.hok.fresh<|aI _
 freeC:=λx c e=>I.freeC x c<|hc1 x c e
 pin:=λp hp=>by
  rw[cE] at hp;refine DX (I.pin p hp) λe n ne nf d=>?_;refine⟨kp _ _ e,n,bp<|aw e,λz=>?_,d⟩;rcases bq.mp (I.Gg p.1 z) with q|q
  ·exact ne q
  ·exact nf q
 hok:=I.hok.kept kp
 len:=by
  show(br k none++cap.map λj=>(σ[j]?).join).length=N'.length
  have:=hcap.length
  rw[← hN,oy] at this
  simp
  lia
theorem comp_back (I:Inv X π σ HE sE)(hfp:∀b∈fp,yQ X π HE b/\b<sE.heap.objs.size)
  (I':Inv (cW X N' scope cl sE.heap.objs.size sE HE fp π) p' σ' H' s'):Inv X π σ H' s':=
 I.call' (ch:=fp) I'.os I'.base I'.hok I'.bare λb hb=>⟨(hfp b hb).1.2.2.2.1,(hfp b hb).1.2.1,(hfp b hb).1.2.2.2.2.1,(hfp b hb).1.2.2.2.2.2⟩
end
theorem Hl (I:Inv X π σ HE sE)(I':Inv X π σ' H' s')(hn:H' sE.heap.objs.size=none)
  (hs:iS sE.heap.objs.size s'.heap h'):Inv X π σ' H' { s' with heap:=h' }:=by
 refine I'.turned (t':=s'.toks) (λb o hb e=>(hs.2 b hb).trans e) hn (nN I.lt) (.inr I.sz) (λx c e z=>?_) λp hp z=>?_
 ·obtain⟨v,q⟩:=I.cell x c e;exact absurd q.lt (by rw[z];exact eT _)
 ·exact absurd (aw (I.pin p hp).1) (by rw[z];exact eT _)
def Qj (X:Cx)(ifs:List Expr)(t:TT):Prop:=
 ∀(π:Zl) (s:aS) (σ:St) (H:Hp) (Q:Bool->Hp->Prop),Inv X π σ H s->t σ H Q->
  bg (b9 X.prog X.w) X.A (forIn ifs true λc r=>if r=true then do let ok←isTrue c X.env (eval c X.env);pure (pV ok) else pure (pV r)) (TP X π σ Q) X.xe s
def adN:TT:=λ_ H Q=>Q true H
theorem WN:Qj X [] adN:=λ_ _ _ H _ I q=>wpAny_tests_nil ⟨H,I,q⟩
theorem Vr (h:PT X c t):Qj X [c] t:=λπ s σ H Q I q=>wpAny_tests_one<|h π s σ H Q I q
noncomputable def cSt (k:Nat)(cap:List Nat)(σ:St):St:=br k none++cap.map λj=>(σ[j]?).join
def ab8 (J:It)(k:Nat)(cap:List Nat)(g:TG)(tt:TT)(te:TE)(σ:St)(H1:Hp)(l:Addr)(Q:VK):Prop:=
 ∃W:Nat->Nat->List V->Hp->Prop,(∃m,W 0 m []<|upd H1 l<|.lst [])/\∀i m ys H,W i m ys H->
  (J.stop i H/\Q (.ref l) H)\/(J.go i H/\∀x H',J.yld i H x H'->g x (cSt k cap σ) H' λσ2 H3=>σ2.drop k=(cSt k cap σ).drop k/\tt σ2 H3 λb H4=>
   if b=true then te σ2 H4 λy H5=>H5 l=some (.lst ys)/\ys.length<ay/\∃m',m'<m/\W (i+1) m' (ys++[y]) (upd H5 l<|.lst<|ys++[y])
   else ∃m',m'<m/\W (i+1) m' ys H4)
def N6 (k:Nat)(cap:List Nat)(wi:TI)(g:TG)(tt:TT)(te:TE):TE:=λσ H Q=>wi σ H λJ H1=>∀l,H1 l=none->ab8 J k cap g tt te σ H1 l Q
section
theorem qP (hcalm:X.calm=true)(S:CSc sc scope caps)(hsc:X.env.scope=sc)(hN:N'.drop k=caps)(hk:k<=N'.length)(hcap:js (λj x=>X.N[j]? = some x) cap caps)
  (hi:PI Calm X tg iter wi) (hg:∀cl C sE HE fp π,PG (cW X N' scope cl C sE HE fp π) tg g) (ht:∀cl C sE HE fp π,Qj (cW X N' scope cl C sE HE fp π) ifs tt) (he:∀cl C sE HE fp π,PE (cW X N' scope cl C sE HE fp π) elt te)
  (I:Inv X π σ H s) (h:N6 k cap wi g tt te σ H Q) {cl:List (Str×Addr)} (hc1:∀x c,cl.lookup x=some c->X.env.cells.lookup x=some c) (hc2:∀y∈scope.names,y.2=.free->∃c,cl.lookup y.1=some c)
  {RR:av->Addr->Result->aS->Prop}
  (hRR:∀l sE HE H' s' m,Inv X π σ HE sE->Inv X π σ H' s'->H' sE.heap.objs.size=none->s'.heap.Ns sE.heap.objs.size m->Q (.ref l) H'->RR (.ref l) sE.heap.objs.size (.ok .next) s'):
  bg (b9 X.prog X.w) X.A (eval iter X.env) (λxv s₁=>bg (b9 X.prog X.w) X.A (pyIter xv) (λit s₂=>bg (b9 X.prog X.w) X.A (newList []) (λacc s₃=>
   bg (b9 X.prog X.w) X.A (newFunctionEnv scope X.env.globals cl [] X.env.qual none .none<|some X.env) (λcenv s₄=>
    vF (b9 X.prog X.w) X.A (.compStart (.ListComp elt [⟨tg,iter,ifs,0⟩] scope pos) 0 it acc { cenv with scope:=relabel scope X.env }) (RR acc cenv.locals) s₄) X.xe s₃) X.xe s₂) X.xe s₁) X.xe s:=by
 refine thn (hi π s σ H _ I h) λv s1 h1=>thn h1 λitv s2 h2=>?_;obtain⟨it,fp,tn,J,H1,e,I1,T,st1,f1,q1⟩:=h2;subst e;refine wpAny_newList ?_;have hfree:H1 s2.heap.objs.size=none:=I1.hok.fresh<|aI _;have fpl:∀b∈fp,b<s2.heap.objs.size:=λb hb=>by
  obtain⟨o,e,_⟩:=T.obj _ _ st1 b hb;exact aw e
 generalize hE:({ s2 with heap:=s2.heap.push { cls:=.type "list",data:=.seq ([]:List av).toArray } }:aS)=sE;have k2:∀b o,s2.heap.get? b=some o->sE.heap.get? b=some o:=λb o e=>by rw[← hE];exact af _ e
 have szE:s2.heap.objs.size<sE.heap.objs.size:=by rw[← hE];show _<(s2.heap.push _).objs.size;rw[yn];exact ub _
 have IE:Inv X π σ (upd H1 s2.heap.objs.size<|.lst []) sE:=by
  rw[← hE];refine I1.laid (t':=s2.toks) (λb o e=>af _ e) (aI _) ?_;exact⟨fS _,[],0,.nil,a7 _ rfl⟩
 have fE:∀b∈fp,yQ X π (upd H1 s2.heap.objs.size<|.lst []) b/\b<sE.heap.objs.size:=λb hb=>
  ⟨⟨by rw[bD<|bp<|fpl b hb];exact(f1 b hb).1,(f1 b hb).2⟩,Nat.lt_trans (fpl b hb) szE⟩
 obtain⟨W,⟨m0,w0⟩,turn⟩:=q1 _ hfree;generalize hl:s2.heap.objs.size=l at *;clear hl;generalize hHE:upd H1 l (.lst [])=HE at *;refine wpAny_newFunctionEnv S.nocell (by intro y hy;simp at hy) (λh₁ hns₁ hsb₁=>?_) S.kind;have kE:∀b o,sE.heap.get? b=some o->h₁.get? b=some o:=λb o e=>(hsb₁.2 b<|bp<|aw e).trans<|af _ e;have I0:=Vl (k:=k) (cap:=cap) (N':=N') IE S hsc fE hc1 hc2 hN hk hcap kE hns₁<|sE.toks+([]:List (Str×av)).length;have st0:tn 0 h₁:=T.keep _ _ _ st1 λb hb o e=>kE b o<|k2 b o e;have hX:∀{H':Hp},(∀b∈fp,H' b=none)->∀b∈fp,yQ (cW X N' scope cl sE.heap.objs.size sE HE fp π) [] H' b:=λhn b hb=>
  ⟨hn b hb,(I0.ok.exf b hb).1,I0.ok.exfs b hb,.inl hb,(I0.ok.exf b hb).2,λp hp=>by
   rw[cE] at hp;exact(fE b hb).1.2.2.2.2.2 p hp⟩
 have loop:∀s₃:aS,s₃={ sE with heap:=h₁,toks:=sE.toks+([]:List (Str×av)).length }->
   vF (b9 X.prog X.w) X.A (.compLoop (.ListComp elt [⟨tg,iter,ifs,0⟩] scope pos) 0 (.ref it) (.ref l)<|compEnvC scope cl sE.heap.objs.size X.env) (RR (.ref l) sE.heap.objs.size) s₃:=by
  rintro s₃ rfl;refine codeAny_loop rfl (λn s'=>∃i ys H',Inv (cW X N' scope cl sE.heap.objs.size sE HE fp π) [] (cSt k cap σ) H' s'/\tn i s'.heap/\(∀b∈fp,H' b=none)/\W i n ys H') (λn s3 hI=>?_) m0
   ⟨0,[],HE,I0,st0,λb hb=>(fE b hb).1.1,w0⟩
  refine Ho hI λi ys H3 I3 st3 fr3 w3=>?_;show bg _ X.A ((compTurn (.ListComp elt [⟨tg,iter,ifs,0⟩] scope pos) 0 (.ref it) (.ref l)<|compEnvC scope cl sE.heap.objs.size X.env).onRaise (λx=>do noteFrame x (compEnvC scope cl sE.heap.objs.size X.env);theTreesLotGoes x)) _ _ s3;refine wpAny_noted ?_;rw[compTurn_list];refine ae<|k9<|ae ?_;rcases turn i n ys H3 w3 with⟨stop,qn⟩|⟨go,step⟩
  ·refine fT (T.done (cW X N' scope cl sE.heap.objs.size sE HE fp π) rfl rfl rfl hcalm i [] s3 _ H3 (λ_ _=>False) I3 (hX fr3) st3 stop) (λr s4 ⟨hr,I4⟩=>?_) λ_ _ z=>z.elim;subst hr;obtain⟨m4,hn4,_⟩:=I4.loc;exact ah<|hRR l sE HE H3 s4 m4 IE (comp_back IE fE I4) I4.free hn4 qn
  ·refine fT (T.item (cW X N' scope cl sE.heap.objs.size sE HE fp π) rfl rfl rfl hcalm i [] s3 _ H3 (λ_ _=>False) I3 (hX fr3) st3 go) (λr s4 ⟨u,hr,h4⟩=>?_) λ_ _ z=>z.elim;subst hr;refine ae<|fT h4 (λ_ s5 ⟨x,H5,I5,r5,y5,st5,fr5⟩=>?_) λ_ _ z=>z.elim;have I5':=I5.pinned (hX fr5)<|T.obj _ _ st5;refine ae<|fT (hg _ _ _ _ _ _ _ s5 _ H5 x u _ I5' r5<|step x H5 y5) (λ_ s6 ⟨σ6,H6,I6,q6⟩=>?_) λ_ _ z=>z.elim;obtain⟨d6,q6⟩:=q6;have weak:∀{H7 s7},Inv (cW X N' scope cl sE.heap.objs.size sE HE fp π) ([]++wO fp s5.heap) σ6 H7 s7->Inv (cW X N' scope cl sE.heap.objs.size sE HE fp π) ([]++wO fp s5.heap) (cSt k cap σ) H7 s7:=λ{H7 s7} I7=>by
    refine I7.weak (I0.len.trans I7.len.symm) λj v e=>?_;by_cases z:k<=j
    ·obtain⟨j',rfl⟩:∃j',j=k+j':=⟨j-k,by lia⟩;rw[← List.getElem?_drop] at e ⊢;rw[d6];exact e
    ·unfold cSt at e;rw[fw (by simp;lia),g7,if_pos<|by lia] at e;cases e
   have again:∀{H7:Hp} {s7:aS} {zs:List V},Inv (cW X N' scope cl sE.heap.objs.size sE HE fp π) ([]++wO fp s5.heap) σ6 H7 s7->(∃m',m'<n/\W (i+1) m' zs H7)->
     ∃m,m<n/\∃i ys H',Inv (cW X N' scope cl sE.heap.objs.size sE HE fp π) [] (cSt k cap σ) H' s7/\tn i s7.heap/\(∀b∈fp,H' b=none)/\W i m ys H':=λ{H7 s7 zs} I7 ⟨m',hm,w7⟩=>by
    refine⟨m',hm,i+1,zs,H7,(weak I7).xu,T.keep _ _ _ st5 λb hb o e=>(I7.pin (b,o)<|dA _<|dA _<|sI hb e).1,λb hb=>?_,w7⟩;obtain⟨o,e,d⟩:=T.obj _ _ st5 b hb;exact(I7.pin (b,o)<|dA _<|dA _<|sI hb e).2.1
   refine ae<|fT (ht _ _ _ _ _ _ _ s6 σ6 H6 _ I6 q6) (λb s7 ⟨H7,I7,q7⟩=>?_) λ_ _ z=>z.elim;cases b with
   |false=>
    rw[if_neg aE] at q7;exact ah ⟨rfl,again I7 q7⟩
   |true=>
    rw[if_pos rfl] at q7;refine ae<|ae<|fT (he _ _ _ _ _ _ _ s7 σ6 H7 _ I7 q7) (λyv s8 ⟨y,H8,I8,r8,hl8,hz8,q8⟩=>?_) λ_ _ z=>z.elim;refine ae (fT (DP (X:=cW X N' scope cl sE.heap.objs.size sE HE fp π) _ s8 σ6 H8 (.ref l) [y] (.ref l) [yv] (λ_ H9=>H9=upd H8 l (.lst<|ys++[y])) I8 rfl (.cons r8 .nil) ⟨l,ys,y,rfl,rfl,hl8,hz8,rfl⟩)
     (λ_ s9 ⟨_,H9,I9,_,e9⟩=>?_) λ_ _ z=>z.elim)
    subst e9;exact ah<|ah ⟨rfl,again I9 q8⟩
 exact codeAny_compStart_list (loop _ rfl)<|T.self _ 0 _ _ _ st0<|loop _ rfl
theorem Xv (sc:rL)(N' caps:List Str)(k:Nat)(cap:List Nat)(hcalm:X.calm=true)(S:CSc sc scope caps)(hcap:js (λj x=>X.N[j]? = some x) cap caps)
  (hi:PI Calm X tg iter wi) (hg:∀cl C sE HE fp π,PG (cW X N' scope cl C sE HE fp π) tg g) (ht:∀cl C sE HE fp π,Qj (cW X N' scope cl C sE HE fp π) ifs tt) (he:∀cl C sE HE fp π,PE (cW X N' scope cl C sE HE fp π) elt te)
  (hsc:X.env.scope=sc:=by rfl) (hN:N'.drop k=caps:=by rfl) (hk:k<=N'.length:=by decide) (hs:∀x,gN iter X.env x=pure x:=by intro _;rfl):
  PE X (.ListComp elt [⟨tg,iter,ifs,0⟩] scope pos) (N6 k cap wi g tt te):=by
 intro π s σ H Q I h;obtain⟨cl,hcl,hc1,hc2⟩:=zm (scope:=scope) (env:=X.env) λy hy e=>I.ok.has y.1 (by
  have z:=S.free y hy e;rw[← hsc] at z;exact z)
 rw[eval_ListComp];refine sj (use:=none) rfl hs hcl S.kind S.loc<|qP (RR:=λacc C=>compPost (b9 X.prog X.w) X.A X.xe none (EP X π σ Q) acc C) hcalm S hsc hN hk hcap hi hg ht he I h hc1 hc2 ?_;intro l sE HE H' s' m IE I' hn hns q;exact⟨m,hns,λh' hs'=>⟨.ref l,H',Hl IE I' hn hs',rfl,q⟩⟩
theorem Al (sc:rL)(N' caps:List Str)(k:Nat)(cap:List Nat)(hnd:X.N.Nodup)(hi':X.N[i]? = some y)(hy:Loc X.env.scope y)(hcalm:X.calm=true)(S:CSc sc scope caps)(hcap:js (λj x=>X.N[j]? = some x) cap caps)
  (hi:PI Calm X tg iter wi) (hg:∀cl C sE HE fp π,PG (cW X N' scope cl C sE HE fp π) tg g) (ht:∀cl C sE HE fp π,Qj (cW X N' scope cl C sE HE fp π) ifs tt) (he:∀cl C sE HE fp π,PE (cW X N' scope cl C sE HE fp π) elt te)
  (υ:fR (.ListComp elt [⟨tg,iter,ifs,0⟩] scope pos) (some<|.Name y py) spos.line X.env=pure true:=by rfl)
  (hsc:X.env.scope=sc:=by rfl) (hN:N'.drop k=caps:=by rfl) (hk:k<=N'.length:=by decide) (hs:∀x,gN iter X.env x=pure x:=by intro _;rfl)
  (hf:X.fn y=true\/X.env.scope.names.lookup y=some .local:=by first|exact .inl rfl|exact .inr rfl|assumption):
  PS X (.Assign [.Name y py] (.ListComp elt [⟨tg,iter,ifs,0⟩] scope pos) spos) (Sd (N6 k cap wi g tt te)<|BX i):=by
 intro π s σ H D I h;obtain⟨cl,hcl,hc1,hc2⟩:=zm (scope:=scope) (env:=X.env) λy hy e=>I.ok.has y.1 (by
  have z:=S.free y hy e;rw[← hsc] at z;exact z)
 rw[exec_Assign_Name_used _ _ _ _ υ];refine ae<|k9<|ae ?_;show bg _ X.A (do let _←comprehension (.ListComp elt [⟨tg,iter,ifs,0⟩] scope pos) scope X.env _ (newList []) false (eval iter X.env) (some<|vj (.Name y py) X.env)) _ _ s;refine ae (fT (sj (use:=some<|vj (.Name y py) X.env) (Q:=λ_ s'=>SP X π D .next s') rfl hs hcl S.kind S.loc
  (qP (RR:=λacc C=>compPost (b9 X.prog X.w) X.A X.xe (some<|vj (.Name y py) X.env) (λ_ s'=>SP X π D .next s') acc C) hcalm S hsc hN hk hcap hi hg ht he I h hc1 hc2 ?_)) (λ_ s' hq=>ah<|ah hq) λ_ _ e=>e)
 intro l sE HE H' s' m IE I' hn hns q;show bg _ X.A (vj (.Name y py) X.env<|.ref l) _ _ _;refine wpAny_assign_Name<|Eu I' hnd hi' hy (v:=.ref l) rfl (λs2 I2 hb=>?_) hf;obtain⟨a,hsb,ha⟩:=hb;have hne:sE.heap.objs.size≠a:=λz=>by
  rcases ha with e|e
  ·exact absurd IE.lt (by rw[← e,← z];exact eT _)
  ·obtain⟨v,q⟩:=IE.cell y a e;exact absurd q.lt (by rw[z];exact eT _)
 exact⟨m,hns.sameBut hsb hne,λh' hs'=>⟨_,H',Hl IE I2 hn hs',q⟩⟩
end
inductive TyK (K:bb)(H:Hp):V->av->Prop where
 |of {v:V} {t:av}:yD K H v t->TyK K H v t
 |tup {a:Addr} {xs:List V}:SqT K H a xs->TyK K H (.ref a) (.type "tuple")
 |lst {a:Addr} {xs:List V}:SqL K H a xs->TyK K H (.ref a) (.type "list")
section
def acK (K:bb):List V->Hp->VK->Prop:=λxs H Q=>∃x c t cv b,xs=[x,c]/\Yb c=some cv/\TyK K H x t/\bt K t cv=some b/\Q (.bl b) H
theorem Pa:fX X (.builtin "isinstance") (acK X.K):=by
 intro π s σ H xs us Q I r h;obtain⟨x,c,t,cv,b,rfl,rc,ty,e,q⟩:=h;obtain⟨u,w',rfl,ru,rw'⟩:=vals2 r;have z:=Hu rc rw';subst z;cases ty with
 |of ty=>exact Qm I ru ty e λtk=>⟨.bl b,H,I.tok _,rfl,q⟩
 | @tup a xs hs=>
  cases(show u=bE a from ru);obtain⟨χ,_,⟨o,h1,h2,_⟩,_⟩:=I.tuple hs;exact iF W.kitx_tuple I.kIn ⟨o,h1,h2⟩ e (λz=>nomatch z) λtk=>⟨.bl b,H,I.tok _,rfl,q⟩
 | @lst a xs hs=>
  cases(show u=bE a from ru);obtain⟨χ,_,⟨o,n,h1,h2,_⟩,_⟩:=I.list hs;exact iF W.kitx_list I.kIn ⟨o,h1,h2⟩ e (λz=>nomatch z) λtk=>⟨.bl b,H,I.tok _,rfl,q⟩
end
theorem Rd.mono (h:Rd H a u)(g:aN H H'):Rd H' a u:=h.elim (λe=>.inl<|g _ _ e) λ⟨o,e⟩=>.inr ⟨o,g _ _ e⟩
theorem Ij {K:bb}{H H':Hp}{a:Addr}{xs:List V}(h:SqL K H a xs)(g:aN H H'):SqL K H' a xs:=h.elim (λe=>.inl<|Rd.mono e g) .inr
def SameBut (l:Addr)(H H':Hp):Prop:=∀b u,b≠l->H b=some u->H' b=some u
theorem abo (g:aN H H'):SameBut l H H':=λb u _ e=>g b u e
theorem abe:SameBut l H (upd H l o):=λb u n e=>by rw[bD n];exact e
theorem SameBut.trans (a:SameBut l H H1)(b:SameBut l H1 H2):SameBut l H H2:=λc u n e=>b c u n<|a c u n e
theorem XD (g:SameBut l H H')(n:H l=none):aN H H':=λb u e=>g b u (λz=>by rw[z,n] at e;cases e) e
section
end
section
end
section
def rJoin (K:bb):V->List V->Hp->VK->Prop:=λx vs H Q=>∃z l zs,x=.str z/\vs=[.ref l]/\SqL K H l (zs.map V.str)/\BC z zs=true/\Q (.str<|AD z zs) H
theorem Ju:∀{zs:List Str} {us:List av},Vals (zs.map V.str) us->∃l:List (Str×Tok),us=strValues l/\l.map (·.1)=zs
 |[],_,.nil=>⟨[],rfl,rfl⟩
 |z::zs,_,.cons r t=>by
  obtain⟨tk,rfl⟩:=r;obtain⟨l,rfl,e⟩:=Ju t;exact⟨(z,tk)::l,rfl,by rw[aT,e]⟩
theorem Xe (K:bb)(hK:X.K=K:=by rfl):MtM X "str.join" (rJoin K):=by
 subst hK;intro π s σ H x vs v us Q I rx rv h;obtain⟨z,l,zs,rfl,rfl,hL,ok,q⟩:=h;obtain⟨t,rfl⟩:=rx;obtain⟨u,rfl,ru⟩:=rv.one;cases ru;obtain⟨χ,r,hp,_⟩:=I.list hL;obtain⟨ls,rfl,e⟩:=Ju r;exact SC.join hp.isList e ok λt' k=>⟨.str _,H,I.tok _,⟨t',rfl⟩,q⟩
end
end Hd
namespace F
open PySem PySem.Spec PyProof.Rows L2 Hd
inductive D where
 |non|bl (b:Bool)|int (i:Int)|str (x:Str)|exc (c:Str) (ns:List Str) (ds:List D)
 |tup (xs:List D)|lst (xs:List D)
 |dct (ks:List Key) (vs:List D)|dcu (ks:List (List Kt)) (vs:List D)
  |dcf (ks:List (List Kt)) (vs:List D)
  |adr (a:Addr)
  |ins (c:Str) (ns:List Str) (vs:List D)
abbrev Xn:=Str×List Str×List D
inductive Res (α:Type) where
 |ok (a:α)|exc (c:Xn)|stuck
def Res.bind {α β:Type}(r:Res α)(f:α->Res β):Res β:=match r with
 | .ok a=>f a
 | .exc c=>.exc c
 | .stuck=>.stuck
@[simp] theorem Res.ac4 {α β:Type}(a:α)(f:α->Res β):(Res.ok a).bind f=f a:=rfl
@[simp] theorem Res.ab7 {α β:Type}(c:Xn)(f:α->Res β):(Res.exc c:Res α).bind f=.exc c:=rfl
@[simp] theorem Res.aaN {α β:Type}(f:α->Res β):(Res.stuck:Res α).bind f=.stuck:=rfl
def ofO {α:Type}:Option α->Res α
 |some a=>.ok a
 |none=>.stuck
@[simp] theorem abP {α:Type}(a:α):ofO (some a)=.ok a:=rfl
@[simp] theorem acw {α:Type}:ofO (none:Option α)=.stuck:=rfl
structure Gx where
 K:bb
 mg:Zp
abbrev gx (X:Cx):Gx:=⟨X.K,X.mg⟩
def adU (K:bb)(a:Addr)(xs:List V):Prop:=
 ∃(o:Obj) (χ:Array av) (n:Nat),K.lookup a=some o/\o.cls=.type "list"/\o.dict=none/\o.data=.seq χ n/\χ.size<=ay/\Vals xs χ.toList
def LstAt (K:bb)(O:Zaa)(H:Hp)(a:Addr)(xs:List V):Prop:=(¬O a/\Rd H a (.lst xs))\/adU K a xs
def XO (H:Hp)(od:Option Addr)(fs:List (Str×V)):Prop:=(fs=[]/\od=none)\/∃dx q,od=some dx/\H dx=some (.frz q<|.xd fs)
mutual
inductive DV (G:Gx)(O:Zaa)(H:Hp):V->D->Prop where
 |non:DV G O H .non .non
 |bl (b:Bool):DV G O H (.bl b) (.bl b)
 |int (i:Int):DV G O H (.int i) (.int i)
 |str (x:Str):DV G O H (.str x) (.str x)
 |adr (a:Addr):DV G O H (.ref a) (.adr a)
 |ins {a C dx:Addr} {c:Str} {ι:List (Str×V)} {ns:List Str} {vs:List V} {ds:List D}:¬O a->G.mg c=some (.ref C)->H a=some (.ins C dx ι)->ι.map (·.1)=ns->ι.map (·.2)=vs->DVs G O H vs ds->DV G O H (.ref a) (.ins c ns ds)
 |exc {a C:Addr} {c:Str} {ox:Obj} {fs:List (Str×V)} {ns:List Str} {vs:List V} {ds:List D}:G.mg c=some (.ref C)->H a=some (.frz ox (.ext (rO a (.ref C))))->XO H ox.dict fs->fs.map (·.1)=ns->fs.map (·.2)=vs->DVs G O H vs ds->DV G O H (.ref a) (.exc c ns ds)
 |tup {a:Addr} {xs:List V} {ds:List D}:SqU G.K H a xs->DVs G O H xs ds->DV G O H (.ref a) (.tup ds)
 |lst {a:Addr} {xs:List V} {ds:List D}:LstAt G.K O H a xs->DVs G O H xs ds->DV G O H (.ref a) (.lst ds)
 |dct {a:Addr} {ι:List (Key×V)} {ks:List Key} {vs:List V} {ds:List D}:¬O a->Rd H a (.dK ι)->ι.map (·.1)=ks->ι.map (·.2)=vs->DVs G O H vs ds->DV G O H (.ref a) (.dct ks ds)
 |dcu {a:Addr} {ι:List (List Kt×V)} {ks:List (List Kt)} {vs:List V} {ds:List D}:¬O a->H a=some (.dT (KTp G.K) ι)->ι.map (·.1)=ks->ι.map (·.2)=vs->DVs G O H vs ds->DV G O H (.ref a) (.dcu ks ds)
 |dcf {a:Addr} {o:Obj} {ι:List (List Kt×V)} {ks:List (List Kt)} {vs:List V} {ds:List D}:H a=some (.frz o (.dT (KTp G.K) ι))->ι.map (·.1)=ks->ι.map (·.2)=vs->DVs G O H vs ds->DV G O H (.ref a) (.dcf ks ds)
inductive DVs (G:Gx)(O:Zaa)(H:Hp):List V->List D->Prop where
 |nil:DVs G O H [] []
 |cons {v:V} {vs:List V} {d:D} {ds:List D}:DV G O H v d->DVs G O H vs ds->DVs G O H (v::vs) (d::ds)
end
def XP (G:Gx)(H:Hp)(c:Xn)(C:Addr×Option Addr):Prop:=G.mg c.1=some (.ref C.1)/\∃fs vs,XO H C.2 fs/\fs.map (·.1)=c.2.1/\fs.map (·.2)=vs/\∀O,DVs G O H vs c.2.2
def OV (G:Gx)(O:Zaa)(H:Hp)(a:Addr):D->Prop
 | .lst ds=>∃xs,H a=some (.lst xs)/\DVs G O H xs ds
 | .dct ks ds=>∃ι vs,H a=some (.dK ι)/\ι.map (·.1)=ks/\ι.map (·.2)=vs/\DVs G O H vs ds
 | .dcu ks ds=>∃ι vs,H a=some (.dT (KTp G.K) ι)/\ι.map (·.1)=ks/\ι.map (·.2)=vs/\DVs G O H vs ds
 | .ins c ns ds=>∃C dx ι vs,G.mg c=some (.ref C)/\H a=some (.ins C dx ι)/\ι.map (·.1)=ns/\ι.map (·.2)=vs/\DVs G O H vs ds
 |_=>False
def DW (G:Gx)(O:Zaa)(H:Hp)(v:V)(d:D):Prop:=DV G O H v d\/∃a,v=.ref a/\O a/\OV G O H a d
inductive DWs (G:Gx)(O:Zaa)(H:Hp):List V->List D->Prop where
 |nil:DWs G O H [] []
 |cons {v:V} {vs:List V} {d:D} {ds:List D}:DW G O H v d->DWs G O H vs ds->DWs G O H (v::vs) (d::ds)
def jw (o:Option HO):Prop:=(∃xs,o=some (.lst xs))\/(∃k,o=some (.dK k))\/(∃k:(Addr->List V->Prop)×List (List Kt×V),o=some (.dT k.1 k.2))\/∃k:Addr×Addr×List (Str×V),o=some (.ins k.1 k.2.1 k.2.2)
def Kp (O:Zaa)(H H':Hp):Prop:=∀b o,H b=some o->¬O b->H' b=some o
theorem YT {O:Zaa}{H H':Hp}{a:Addr}{u:HO}(g:Kp O H H')(n:¬O a)(e:Rd H a u):Rd H' a u:=e.imp (λe=>g _ _ e n) λ⟨o,e⟩=>⟨o,g _ _ e n⟩
theorem acZ {H H':Hp}{a:Addr}{u:HO}(g:aN H H')(e:Rd H a u):Rd H' a u:=e.imp (g _ _) λ⟨o,e⟩=>⟨o,g _ _ e⟩
theorem Yk {H:Hp}{a:Addr}{u:HO}(e:Rd H a u)(z:H a=none):False:=by rcases e with e|⟨_,e⟩<;>(rw[z] at e;cases e)
theorem Kp.of {O:Zaa}{H H':Hp}(g:aN H H'):Kp O H H':=λb o e _=>g b o e
theorem ou {O:Zaa}{H:Hp}(m:∀b,O b->jw (H b)){a:Addr}{o:HO}(e:H a=some o)(n:¬jw (some o)):¬O a:=λz=>n<|e▸m a z
theorem NQ {xs:List V}:¬jw (some<|.tup xs):=by rintro(⟨_,e⟩|⟨_,e⟩|⟨_,e⟩|⟨_,e⟩)<;>cases e
theorem tY {o:Obj}{u:HO}:¬jw (some<|.frz o u):=by rintro(⟨_,e⟩|⟨_,e⟩|⟨_,e⟩|⟨_,e⟩)<;>cases e
theorem aao {K:bb}{O:Zaa}{H H':Hp}{a:Addr}{xs:List V}(m:∀b,O b->jw (H b))(g:Kp O H H')(h:SqT K H a xs):SqT K H' a xs:=by
 rcases h with(e|⟨o,e⟩)|h
 ·exact .inl<|.inl<|g a _ e<|ou m e NQ
 ·exact .inl<|.inr ⟨o,g a _ e<|ou m e tY⟩
 ·exact .inr h
theorem RM {K:bb}{O:Zaa}{H H':Hp}{a:Addr}{xs:List V}(m:∀b,O b->jw (H b))(g:Kp O H H')(h:SqU K H a xs):SqU K H' a xs:=by
 rcases h with e|h
 ·exact .inl<|g a _ e<|ou m e NQ
 ·exact .inr h
theorem RQ {K:bb}{H H':Hp}{a:Addr}{xs:List V}(h:SqU K H a xs)(g:aN H H'):SqU K H' a xs:=h.imp (g _ _) id
theorem yo {K:bb}{O:Zaa}{H H':Hp}{a:Addr}{xs:List V}(g:Kp O H H')(h:LstAt K O H a xs):LstAt K O H' a xs:=by
 rcases h with⟨n,e|⟨o,e⟩⟩|h
 ·exact .inl ⟨n,.inl<|g a _ e n⟩
 ·exact .inl ⟨n,.inr ⟨o,g a _ e n⟩⟩
 ·exact .inr h
theorem LstAt.sq {K:bb}{O:Zaa}{H:Hp}{a:Addr}{xs:List V}(h:LstAt K O H a xs):SqL K H a xs:=h.elim (λz=>.inl z.2) .inr
section
variable {G:Gx}{O O':Zaa}{H H':Hp}
mutual
theorem DV.kp (m:∀b,O b->jw (H b))(g:Kp O H H'):∀{v:V} {d:D},DV G O H v d->DV G O H' v d
 |_,_,.non=>.non
 |_,_,.bl b=>.bl b
 |_,_,.int i=>.int i
 |_,_,.str x=>.str x
 |_,_,.adr a=>.adr a
 |_,_,.exc h e x a b hs=>.exc h (g _ _ e<|ou m e tY) (x.imp id λ⟨d,q,z,y⟩=>⟨d,q,z,g _ _ y<|ou m y tY⟩) a b<|DVs.kp m g hs
 |_,_,.tup h hs=>.tup (RM m g h)<|DVs.kp m g hs
 |_,_,.lst h hs=>.lst (yo g h)<|DVs.kp m g hs
 |_,_,.dct n e a b hs=>.dct n (YT g n e) a b<|DVs.kp m g hs
 |_,_,.dcu n e a b hs=>.dcu n (g _ _ e n) a b<|DVs.kp m g hs
 |_,_,.dcf e a b hs=>.dcf (g _ _ e<|ou m e tY) a b<|DVs.kp m g hs
 |_,_,.ins n c e a b hs=>.ins n c (g _ _ e n) a b<|DVs.kp m g hs
theorem DVs.kp (m:∀b,O b->jw (H b))(g:Kp O H H'):∀{vs:List V} {ds:List D},DVs G O H vs ds->DVs G O H' vs ds
 |_,_,.nil=>.nil
 |_,_,.cons h hs=>.cons (DV.kp m g h)<|DVs.kp m g hs
end
mutual
theorem DV.mono (g:aN H H'):∀{v:V} {d:D},DV G O H v d->DV G O H' v d
 |_,_,.non=>.non
 |_,_,.bl b=>.bl b
 |_,_,.int i=>.int i
 |_,_,.str x=>.str x
 |_,_,.adr a=>.adr a
 |_,_,.exc h e x a b hs=>.exc h (g _ _ e) (x.imp id λ⟨d,q,z,y⟩=>⟨d,q,z,g _ _ y⟩) a b<|DVs.mono g hs
 |_,_,.tup h hs=>.tup (RQ h g)<|DVs.mono g hs
 |_,_,.lst h hs=>.lst (yo (.of g) h)<|DVs.mono g hs
 |_,_,.dct n e a b hs=>.dct n (acZ g e) a b<|DVs.mono g hs
 |_,_,.dcu n e a b hs=>.dcu n (g _ _ e) a b<|DVs.mono g hs
 |_,_,.dcf e a b hs=>.dcf (g _ _ e) a b<|DVs.mono g hs
 |_,_,.ins n c e a b hs=>.ins n c (g _ _ e) a b<|DVs.mono g hs
theorem DVs.mono (g:aN H H'):∀{vs:List V} {ds:List D},DVs G O H vs ds->DVs G O H' vs ds
 |_,_,.nil=>.nil
 |_,_,.cons h hs=>.cons (DV.mono g h)<|DVs.mono g hs
end
mutual
theorem DV.cX (s:∀b,O' b->O b\/H b=none):∀{v:V} {d:D},DV G O H v d->DV G O' H v d
 |_,_,.non=>.non
 |_,_,.bl b=>.bl b
 |_,_,.int i=>.int i
 |_,_,.str x=>.str x
 |_,_,.adr a=>.adr a
 |_,_,.exc h e x a b hs=>.exc h e x a b<|DVs.cX s hs
 |_,_,.tup h hs=>.tup h<|DVs.cX s hs
 |_,_,.lst h hs=>.lst (h.elim (λz=>.inl ⟨λo=>(s _ o).elim z.1 λn=>by rcases z.2 with e|⟨_,e⟩<;>(rw[n] at e;cases e),z.2⟩) .inr) (DVs.cX s hs)
 |_,_,.dct n e a b hs=>.dct (λo=>(s _ o).elim n λz=>Yk e z) e a b<|DVs.cX s hs
 |_,_,.dcu n e a b hs=>.dcu (λo=>(s _ o).elim n λz=>by rw[z] at e;cases e) e a b (DVs.cX s hs)
 |_,_,.dcf e a b hs=>.dcf e a b<|DVs.cX s hs
 |_,_,.ins n c e a b hs=>.ins (λo=>(s _ o).elim n λz=>by rw[z] at e;cases e) c e a b (DVs.cX s hs)
theorem DVs.cX (s:∀b,O' b->O b\/H b=none):∀{vs:List V} {ds:List D},DVs G O H vs ds->DVs G O' H vs ds
 |_,_,.nil=>.nil
 |_,_,.cons h hs=>.cons (DV.cX s h)<|DVs.cX s hs
end
def Ev (O:Zaa)(H:Hp)(O':Zaa)(H':Hp):Prop:=(∀b,O' b->O b\/H b=none)/\Kp O H H'
mutual
theorem DV.go (m:∀b,O b->jw (H b))(g:Ev O H O' H'):∀{v:V} {d:D},DV G O H v d->DV G O' H' v d
 |_,_,.non=>.non
 |_,_,.bl b=>.bl b
 |_,_,.int i=>.int i
 |_,_,.str x=>.str x
 |_,_,.adr a=>.adr a
 |_,_,.exc h e x a b hs=>.exc h (g.2 _ _ e<|ou m e tY) (x.imp id λ⟨d,q,z,y⟩=>⟨d,q,z,g.2 _ _ y<|ou m y tY⟩) a b<|DVs.go m g hs
 |_,_,.tup h hs=>.tup (RM m g.2 h)<|DVs.go m g hs
 |_,_,.lst h hs=>.lst (h.elim (λz=>.inl ⟨λo=>(g.1 _ o).elim z.1 λn=>by rcases z.2 with e|⟨_,e⟩<;>(rw[n] at e;cases e),(yo g.2 (.inl z):LstAt G.K O H' _ _).elim (λy=>y.2) λy=>z.2.elim (λe=>.inl<|g.2 _ _ e z.1) λ⟨o,e⟩=>.inr ⟨o,g.2 _ _ e z.1⟩⟩) .inr) (DVs.go m g hs)
 |_,_,.dct n e a b hs=>.dct (λo=>(g.1 _ o).elim n λz=>Yk e z) (YT g.2 n e) a b<|DVs.go m g hs
 |_,_,.dcu n e a b hs=>.dcu (λo=>(g.1 _ o).elim n λz=>by rw[z] at e;cases e) (g.2 _ _ e n) a b (DVs.go m g hs)
 |_,_,.dcf e a b hs=>.dcf (g.2 _ _ e<|ou m e tY) a b<|DVs.go m g hs
 |_,_,.ins n c e a b hs=>.ins (λo=>(g.1 _ o).elim n λz=>by rw[z] at e;cases e) c (g.2 _ _ e n) a b (DVs.go m g hs)
theorem DVs.go (m:∀b,O b->jw (H b))(g:Ev O H O' H'):∀{vs:List V} {ds:List D},DVs G O H vs ds->DVs G O' H' vs ds
 |_,_,.nil=>.nil
 |_,_,.cons h hs=>.cons (DV.go m g h)<|DVs.go m g hs
end
theorem OV.cX {a:Addr}{d:D}(s:∀b,O' b->O b\/H b=none)(h:OV G O H a d):OV G O' H a d:=by
 cases d with
 |lst ds=>obtain⟨xs,e,hs⟩:=h;exact⟨xs,e,hs.cX s⟩
 |dct ks ds=>obtain⟨k,v,e,a1,a2,hs⟩:=h;exact⟨k,v,e,a1,a2,hs.cX s⟩
 |dcu ks ds=>obtain⟨k,v,e,a1,a2,hs⟩:=h;exact⟨k,v,e,a1,a2,hs.cX s⟩
 |ins c ns ds=>obtain⟨C,dx,k,v,ec,e,a1,a2,hs⟩:=h;exact⟨C,dx,k,v,ec,e,a1,a2,hs.cX s⟩
 |_=>exact h.elim
theorem OV.mono {a:Addr}{d:D}(g:aN H H')(h:OV G O H a d):OV G O H' a d:=by
 cases d with
 |lst ds=>obtain⟨xs,e,hs⟩:=h;exact⟨xs,g _ _ e,hs.mono g⟩
 |dct ks ds=>obtain⟨k,v,e,a1,a2,hs⟩:=h;exact⟨k,v,g _ _ e,a1,a2,hs.mono g⟩
 |dcu ks ds=>obtain⟨k,v,e,a1,a2,hs⟩:=h;exact⟨k,v,g _ _ e,a1,a2,hs.mono g⟩
 |ins c ns ds=>obtain⟨C,dx,k,v,ec,e,a1,a2,hs⟩:=h;exact⟨C,dx,k,v,ec,g _ _ e,a1,a2,hs.mono g⟩
 |_=>exact h.elim
theorem OV.kp {a:Addr}{d:D}(m:∀b,O b->jw (H b))(g:Kp O H H')(e':H' a=H a)(h:OV G O H a d):OV G O H' a d:=by
 cases d with
 |lst ds=>obtain⟨xs,e,hs⟩:=h;exact⟨xs,e'.trans e,hs.kp m g⟩
 |dct ks ds=>obtain⟨k,v,e,a1,a2,hs⟩:=h;exact⟨k,v,e'.trans e,a1,a2,hs.kp m g⟩
 |dcu ks ds=>obtain⟨k,v,e,a1,a2,hs⟩:=h;exact⟨k,v,e'.trans e,a1,a2,hs.kp m g⟩
 |ins c ns ds=>obtain⟨C,dx,k,v,ec,e,a1,a2,hs⟩:=h;exact⟨C,dx,k,v,ec,e'.trans e,a1,a2,hs.kp m g⟩
 |_=>exact h.elim
theorem OV.mut {a:Addr}{d:D}(h:OV G O H a d):jw (H a):=by
 cases d with
 |lst ds=>obtain⟨xs,e,hs⟩:=h;exact .inl ⟨xs,e⟩
 |dct ks ds=>obtain⟨k,v,e,_⟩:=h;exact .inr<|.inl ⟨k,e⟩
 |dcu ks ds=>obtain⟨k,v,e,_⟩:=h;exact .inr<|.inr<|.inl ⟨(_,k),e⟩
 |ins c ns ds=>obtain⟨C,dx,k,v,_,e,_⟩:=h;exact .inr<|.inr<|.inr ⟨(C,dx,k),e⟩
 |_=>exact h.elim
theorem OV.dv {a:Addr}{d:D}(n:¬O a)(h:OV G O H a d):DV G O H (.ref a) d:=by
 cases d with
 |lst ds=>obtain⟨xs,e,hs⟩:=h;exact .lst (.inl ⟨n,.inl e⟩) hs
 |dct ks ds=>obtain⟨k,v,e,a1,a2,hs⟩:=h;exact .dct n (.inl e) a1 a2 hs
 |dcu ks ds=>obtain⟨k,v,e,a1,a2,hs⟩:=h;exact .dcu n e a1 a2 hs
 |ins c ns ds=>obtain⟨C,dx,k,v,ec,e,a1,a2,hs⟩:=h;exact .ins n ec e a1 a2 hs
 |_=>exact h.elim
theorem DW.mono {v:V}{d:D}(g:aN H H')(h:DW G O H v d):DW G O H' v d:=h.elim (λz=>.inl<|z.mono g) λ⟨a,e,o,z⟩=>.inr ⟨a,e,o,z.mono g⟩
theorem DW.any {v:V}{d:D}(h:DW G O H v d):DV G (λ_=>False) H v d:=by
 rcases h with h|⟨a,e,_,h⟩
 ·exact h.cX λ_ z=>z.elim
 ·subst e;exact(h.cX (O':=λ_=>False) λ_ z=>z.elim).dv id
end
section
variable {G:Gx}{O:Zaa}{H:Hp}{v:V}
theorem wB (h:DW G O H v .non):v=.non:=by
 rcases h with h|⟨_,_,_,h⟩
 ·cases h;rfl
 ·exact h.elim
theorem Iv {b:Bool}(h:DW G O H v (.bl b)):v=.bl b:=by
 rcases h with h|⟨_,_,_,h⟩
 ·cases h;rfl
 ·exact h.elim
theorem bR {i:Int}(h:DW G O H v (.int i)):v=.int i:=by
 rcases h with h|⟨_,_,_,h⟩
 ·cases h;rfl
 ·exact h.elim
theorem jx {x:Str}(h:DW G O H v (.str x)):v=.str x:=by
 rcases h with h|⟨_,_,_,h⟩
 ·cases h;rfl
 ·exact h.elim
theorem Le {c:Str}{ns:List Str}{es:List D}(h:DW G O H v (.exc c ns es)):∃a C,v=.ref a/\G.mg c=some (.ref C)/\∃ox,H a=some (.frz ox<|.ext<|rO a<|.ref C):=by
 rcases h with h|⟨_,_,_,h⟩
 ·cases h with
  |exc h e=>exact⟨_,_,rfl,h,_,e⟩
 ·exact h.elim
theorem yH {ds:List D}(h:DW G O H v (.tup ds)):∃a xs,v=.ref a/\SqT G.K H a xs/\DVs G O H xs ds:=by
 rcases h with h|⟨_,_,_,h⟩
 ·cases h with
  |tup h hs=>exact⟨_,_,rfl,h.sq,hs⟩
 ·exact h.elim
theorem zU {ds:List D}(h:DW G O H v (.tup ds)):∃a xs,v=.ref a/\SqU G.K H a xs/\DVs G O H xs ds:=by
 rcases h with h|⟨_,_,_,h⟩
 ·cases h with
  |tup h hs=>exact⟨_,_,rfl,h,hs⟩
 ·exact h.elim
theorem iw {ds:List D}(h:DW G O H v (.lst ds)):∃a xs,v=.ref a/\SqL G.K H a xs/\DVs G O H xs ds:=by
 rcases h with h|⟨a,e,_,h⟩
 ·cases h with
  |lst h hs=>exact⟨_,_,rfl,h.sq,hs⟩
 ·obtain⟨xs,e',hs⟩:=h;exact⟨a,xs,e,.inl<|.inl e',hs⟩
theorem Vi {ks:List Key}{ds:List D}(h:DW G O H v (.dct ks ds)):∃a ι vs,v=.ref a/\Rd H a (.dK ι)/\ι.map (·.1)=ks/\ι.map (·.2)=vs/\DVs G O H vs ds:=by
 rcases h with h|⟨a,e,_,h⟩
 ·cases h with
  |dct n e a b hs=>exact⟨_,_,_,rfl,e,a,b,hs⟩
 ·obtain⟨k,w,e',a1,a2,hs⟩:=h;exact⟨a,k,w,e,.inl e',a1,a2,hs⟩
theorem Ru {ks:List (List Kt)}{ds:List D}(h:DW G O H v (.dcu ks ds)):∃a ι vs,v=.ref a/\H a=some (.dT (KTp G.K) ι)/\ι.map (·.1)=ks/\ι.map (·.2)=vs/\DVs G O H vs ds:=by
 rcases h with h|⟨a,e,_,h⟩
 ·cases h with
  |dcu n e a b hs=>exact⟨_,_,_,rfl,e,a,b,hs⟩
 ·obtain⟨k,w,e',a1,a2,hs⟩:=h;exact⟨a,k,w,e,e',a1,a2,hs⟩
theorem cu:∀{vs:List V} {ds:List D},DVs G O H vs ds->vs.length=ds.length
 |_,_,.nil=>rfl
 |_,_,.cons _ hs=>by rw[c8,c8,cu hs]
theorem lD:∀{vs us:List V} {ds es:List D},DVs G O H vs ds->DVs G O H us es->DVs G O H (vs++us) (ds++es)
 |_,_,_,_,.nil,h=>h
 |_,_,_,_,.cons a t,h=>.cons a<|lD t h
theorem xm:∀{vs:List V} {ds:List D} {i:Nat} {x:V},DVs G O H vs ds->vs[i]? = some x->∃d,ds[i]? = some d/\DV G O H x d
 |_,_,_,_,.nil,e=>by simp at e
 |_,_,0,_,.cons a _,e=>by simp at e;subst e;exact⟨_,rfl,a⟩
 |_,_,i+1,x,.cons _ t,e=>by
  obtain⟨d,h1,h2⟩:=xm (i:=i) (x:=x) t (by simpa using e);exact⟨d,by simpa using h1,h2⟩
theorem Br:∀{vs:List V} {ds:List D} {i:Nat} {d:D},DVs G O H vs ds->ds[i]? = some d->∃x,vs[i]? = some x/\DV G O H x d
 |_,_,_,_,.nil,e=>by simp at e
 |_,_,0,_,.cons a _,e=>by simp at e;subst e;exact⟨_,rfl,a⟩
 |_,_,i+1,d,.cons _ t,e=>by
  obtain⟨x,h1,h2⟩:=Br (i:=i) (d:=d) t (by simpa using e);exact⟨x,by simpa using h1,h2⟩
theorem Cu:∀{vs:List V} {ds:List D} (n:Nat),DVs G O H vs ds->DVs G O H (vs.take n) (ds.take n)
 |_,_,0,_=>by simp only[List.take_zero];exact .nil
 |_,_,_+1,.nil=>.nil
 |_,_,n+1,.cons a t=>.cons a<|Cu n t
theorem Jl:∀{vs:List V} {ds:List D} (n:Nat),DVs G O H vs ds->DVs G O H (vs.drop n) (ds.drop n)
 |_,_,0,h=>h
 |_,_,_+1,.nil=>.nil
 |_,_,n+1,.cons _ t=>Jl n t
theorem Nv:∀{vs:List V} {ds:List D},DVs G O H vs ds->DVs G O H vs.reverse ds.reverse
 |_,_,.nil=>.nil
 |_,_,.cons a t=>by rw[kd,kd];exact lD (Nv t)<|.cons a .nil
noncomputable def flat:D->Bool
 | .non|.bl _|.int _|.str _=>true
 |_=>false
theorem DV.flat {O':Zaa}{H':Hp}{d:D}(f:flat d=true)(h:DV G O H v d):DV G O' H' v d:=by
 cases h with
 |non=>exact .non
 |bl b=>exact .bl b
 |int i=>exact .int i
 |str x=>exact .str x
 |_=>cases f
end
inductive Sl where
  |un|fz (d:D)|ow (d:D)|io (d:D)|bw (d:D)
  |hd (w:Bool) (a:Addr) (d:D)
abbrev Me:=List Sl
abbrev Os:=Nat->Option Addr
def Ow (O0:Zaa)(ow:Os):Zaa:=λb=>O0 b\/∃i,ow i=some b
def Op (O:Zaa)(p:Addr):Zaa:=λb=>O b\/b=p
noncomputable def owS (ow:Os)(i:Nat)(x:Option Addr):Os:=λj=>if j=i then x else ow j
theorem iH {ow:Os}{i:Nat}{x:Option Addr}:owS ow i x i=x:=by unfold owS;rw[if_pos rfl]
theorem gC {ow:Os}{i j:Nat}{x:Option Addr}(h:j≠i):owS ow i x j=ow j:=by unfold owS;rw[if_neg h]
def KQ (G:Gx)(O M0:Zaa)(H0:Hp)(oi:Option Addr)(v:Option (Option V))(H:Hp):Sl->Prop
 | .un=>oi=none
 | .fz d=>oi=none/\∃x,v=some (some x)/\DV G O H x d
 | .ow d=>∃a,oi=some a/\H0 a=none/\v=some (some<|.ref a)/\OV G O H a d
 | .io d=>∃a,oi=some a/\M0 a/\v=some (some<|.ref a)/\OV G O H a d
 | .bw d=>oi=none/\∃x,v=some (some x)/\DW G O H x d
 | .hd w a d=>oi=some a/\(w=true->H0 a=none)/\(w=false->M0 a)/\OV G O H a d
structure Rel (G:Gx)(O0 M0:Zaa)(H0:Hp)(ow:Os)(σ:L2.St)(H:Hp)(m:Me):Prop where
 len:σ.length=m.length
 keep:Kp M0 H0 H
 m0:∀b,M0 b->H b≠none
 mutk:∀b,Ow O0 ow b->jw (H b)
 no0:∀i a,ow i=some a->¬O0 a
 inj:∀i j a,ow i=some a->ow j=some a->i=j
 out:∀i,m.length<=i->ow i=none
 slot:∀i s,m[i]? = some s->KQ G (Ow O0 ow) M0 H0 (ow i) (σ[i]?) H s
structure gH (G:Gx)(O0 M0:Zaa)(H0:Hp)(ow:Os)(σ:L2.St)(H:Hp)(m:Me):Prop extends Rel G O0 M0 H0 ow σ H m where
 nb:∀(j:Nat) (d:D),m[j]?≠some (Sl.bw d)
structure Go (O0:Zaa)(ow:Os)(H:Hp)(ow':Os)(H':Hp):Prop where
 keep:Kp (Ow O0 ow) H H'
 new:∀i a,ow' i=some a->Ow O0 ow a\/H a=none
 dom:∀b,H b≠none->H' b≠none
theorem Go.refl {O0:Zaa}{ow:Os}{H H':Hp}(g:aN H H'):Go O0 ow H ow H':=
 ⟨.of g,λi a e=>.inl<|.inr ⟨i,e⟩,λb n z=>by
  cases q:H b with
  |none=>exact n q
  |some o=>rw[g b o q] at z;cases z⟩
theorem Go.trans {O0:Zaa}{ow ow1 ow2:Os}{H H1 H2:Hp}(a:Go O0 ow H ow1 H1)(b:Go O0 ow1 H1 ow2 H2):Go O0 ow H ow2 H2 where
 keep:=λc o e n=>b.keep c o (a.keep c o e n) λz=>by
  rcases z with z|⟨i,z⟩
  ·exact n<|.inl z
  ·rcases a.new i c z with y|y
   ·exact n y
   ·rw[y] at e;cases e
 new:=λi c e=>by
  rcases b.new i c e with(z|⟨j,z⟩)|z
  ·exact .inl<|.inl z
  ·exact a.new j c z
  ·refine .inr ?_;cases q:H c with
   |none=>rfl
   |some o=>exact absurd z (a.dom c (by rw[q];simp))
 dom:=λc n=>b.dom c<|a.dom c n
theorem Go.ev {O0:Zaa}{ow ow':Os}{H H':Hp}(g:Go O0 ow H ow' H'):Ev (Ow O0 ow) H (Ow O0 ow') H':=
 ⟨λb z=>z.elim (λz=>.inl<|.inl z) λ⟨i,e⟩=>g.new i b e,g.keep⟩
theorem yl (O:Zaa):Ow O (λ_=>none)=O:=by
 funext b;exact propext ⟨λz=>z.elim id λ⟨_,e⟩=>(by cases e),d4⟩
section
variable {G:Gx}{O0 M0:Zaa}{H0 H H':Hp}{ow:Os}{σ:L2.St}{m:Me}
theorem KQ.mono {O:Zaa}{oi:Option Addr}{v:Option (Option V)}{s:Sl}(g:aN H H')(h:KQ G O M0 H0 oi v H s):KQ G O M0 H0 oi v H' s:=by
 cases s with
 |un=>exact h
 |fz d=>obtain⟨a,x,e,q⟩:=h;exact⟨a,x,e,q.mono g⟩
 |ow d=>obtain⟨a,x,e,f,q⟩:=h;exact⟨a,x,e,f,q.mono g⟩
 |io d=>obtain⟨a,x,e,f,q⟩:=h;exact⟨a,x,e,f,q.mono g⟩
 |bw d=>obtain⟨a,x,e,q⟩:=h;exact⟨a,x,e,q.mono g⟩
 |hd w a d=>obtain⟨x,e,f,q⟩:=h;exact⟨x,e,f,q.mono g⟩
theorem yz {b:Addr}(g:aN H H')(h:jw (H b)):jw (H' b):=by
 rcases h with⟨x,e⟩|⟨x,e⟩|⟨x,e⟩|⟨x,e⟩
 ·exact .inl ⟨x,g _ _ e⟩
 ·exact .inr<|.inl ⟨x,g _ _ e⟩
 ·exact .inr<|.inr<|.inl ⟨x,g _ _ e⟩
 ·exact .inr<|.inr<|.inr ⟨x,g _ _ e⟩
theorem Rel.mono (R:Rel G O0 M0 H0 ow σ H m)(g:aN H H'):Rel G O0 M0 H0 ow σ H' m:=
 ⟨R.len,λb o e n=>g b o<|R.keep b o e n,λb z q=>R.m0 b z<|aN.free g q,λb z=>yz g<|R.mutk b z,R.no0,R.inj,R.out,λi s e=>(R.slot i s e).mono g⟩
theorem KQ.cX {O O':Zaa}{oi:Option Addr}{v:Option (Option V)}{s:Sl}(sub:∀b,O' b->O b\/H b=none)(h:KQ G O M0 H0 oi v H s)(hb:∀d,s=.bw d->∀b,O b->O' b\/¬O' b):KQ G O' M0 H0 oi v H s:=by
 cases s with
 |un=>exact h
 |fz d=>obtain⟨a,x,e,q⟩:=h;exact⟨a,x,e,q.cX sub⟩
 |ow d=>obtain⟨a,x,e,f,q⟩:=h;exact⟨a,x,e,f,q.cX sub⟩
 |io d=>obtain⟨a,x,e,f,q⟩:=h;exact⟨a,x,e,f,q.cX sub⟩
 |bw d=>
  obtain⟨a,x,e,q⟩:=h;refine⟨a,x,e,?_⟩;rcases q with q|⟨b,e1,o,q⟩
  ·exact .inl<|q.cX sub
  ·rcases hb d rfl b o with w|w
   ·exact .inr ⟨b,e1,w,q.cX sub⟩
   ·subst e1;exact .inl<|(q.cX sub).dv w
 |hd w a d=>obtain⟨x,e,f,q⟩:=h;exact⟨x,e,f,q.cX sub⟩
theorem Ow.sub {i:Nat}{b:Addr}(z:Ow O0 (owS ow i none) b):Ow O0 ow b:=by
 rcases z with z|⟨j,e⟩
 ·exact .inl z
 ·by_cases q:j=i
  ·subst q;rw[iH] at e;cases e
  ·rw[gC q] at e;exact .inr ⟨j,e⟩
theorem Gv {α:Type}{l:List α}{i:Nat}{x:α}(e:l[i]? = some x):i<l.length:=(d3.mp e).1
theorem Rel.set {i:Nat}{v:V}{d:D}(R:Rel G O0 M0 H0 ow σ H m)(h:DV G (Ow O0 ow) H v d):
  Rel G O0 M0 H0 (owS ow i none) (σ.set i<|some v) H (m.set i<|.fz d):=by
 have sub:∀b,Ow O0 (owS ow i none) b->Ow O0 ow b\/H b=none:=λb z=>.inl z.sub;refine⟨by simp[R.len],R.keep,R.m0,λb z=>R.mutk b z.sub,λj a e=>?_,λj k a e1 e2=>?_,λj hj=>?_,λj s e=>?_⟩
 ·by_cases q:j=i
  ·subst q;rw[iH] at e;cases e
  ·rw[gC q] at e;exact R.no0 j a e
 ·by_cases q:j=i
  ·subst q;rw[iH] at e1;cases e1
  ·by_cases q':k=i
   ·subst q';rw[iH] at e2;cases e2
   ·rw[gC q] at e1;rw[gC q'] at e2;exact R.inj j k a e1 e2
 ·by_cases q:j=i
  ·subst q;exact iH
  ·rw[gC q];exact R.out j<|by simpa using hj
 ·by_cases q:j=i
  ·subst q;have hj:j<m.length:=by simpa using Gv e
   rw[dn hj] at e;cases e;rw[iH,dn (by rw[R.len];exact hj)];exact⟨rfl,v,rfl,h.cX sub⟩
  ·rw[dr<|iP q] at e;rw[gC q,dr<|iP q];exact(R.slot j s e).cX sub λ_ _ b _=>w4 _
theorem Go.set {i:Nat}:Go O0 ow H (owS ow i none) H:=
 ⟨λ_ _ e _=>e,λj a e=>.inl (by
  by_cases q:j=i
  ·subst q;rw[iH] at e;cases e
  ·rw[gC q] at e;exact .inr ⟨j,e⟩),λ_ n=>n⟩
theorem Rel.YC (R:Rel G O0 M0 H0 ow σ H m){p:Addr}(n:H p=none):H0 p=none:=by
 cases q:H0 p with
 |none=>rfl
 |some o=>
  by_cases z:M0 p
  ·exact absurd n<|R.m0 p z
  ·rw[R.keep p o q z] at n;cases n
theorem Rel.Tp (R:Rel G O0 M0 H0 ow σ H m){p:Addr}(n:H p=none):¬Ow O0 ow p:=λz=>by
 have:=R.mutk p z
 rw[n] at this;rcases this with⟨_,e⟩|⟨_,e⟩|⟨_,e⟩|⟨_,e⟩<;>cases e
theorem Ow.new {i:Nat}{b p:Addr}(z:Ow O0 (owS ow i<|some p) b):Ow O0 ow b\/b=p:=by
 rcases z with z|⟨j,e⟩
 ·exact .inl<|.inl z
 ·by_cases q:j=i
  ·subst q;rw[iH] at e;cases e;exact .inr rfl
  ·rw[gC q] at e;exact .inl<|.inr ⟨j,e⟩
theorem Rel.own {i:Nat}{p:Addr}{d:D}(R:Rel G O0 M0 H0 ow σ H m)(g:aN H H')(n:H p=none)(n0:H0 p=none)(h:OV G (Op (Ow O0 ow) p) H' p d)(hi:i<m.length):
  Rel G O0 M0 H0 (owS ow i<|some p) (σ.set i<|some<|.ref p) H' (m.set i<|.ow d):=by
 have np:=R.Tp n;have sub:∀b,Ow O0 (owS ow i<|some p) b->Ow O0 ow b\/H b=none:=λb z=>z.new.elim .inl λe=>.inr (by rw[e];exact n);refine⟨by simp[R.len],(R.mono g).keep,(R.mono g).m0,λb z=>?_,λj a e=>?_,λj k a e1 e2=>?_,λj hj=>?_,λj s e=>?_⟩
 ·rcases z.new with z|z
  ·exact(R.mono g).mutk b z
  ·rw[z];exact h.mut
 ·by_cases q:j=i
  ·subst q;rw[iH] at e;cases e;exact λz=>np<|.inl z
  ·rw[gC q] at e;exact R.no0 j a e
 ·by_cases q:j=i
  ·subst q;rw[iH] at e1;cases e1;by_cases q':k=j
   ·exact q'.symm
   ·rw[gC q'] at e2;exact absurd (.inr ⟨k,e2⟩) np
  ·rw[gC q] at e1;by_cases q':k=i
   ·subst q';rw[iH] at e2;cases e2;exact absurd (.inr ⟨j,e1⟩) np
   ·rw[gC q'] at e2;exact R.inj j k a e1 e2
 ·have hj':m.length<=j:=by simpa using hj
  rw[gC<|by omega];exact R.out j hj'
 ·by_cases q:j=i
  ·subst q;rw[dn hi] at e;cases e;rw[iH,dn (by rw[R.len];exact hi)];exact⟨p,rfl,n0,rfl,h.cX λb z=>.inl<|z.new.elim .inl .inr⟩
  ·rw[dr<|iP q] at e;rw[gC q,dr<|iP q];exact((R.slot j s e).cX sub λ_ _ b _=>w4 _).mono g
theorem Go.own {i:Nat}{p:Addr}(g:aN H H')(n:H p=none):Go O0 ow H (owS ow i<|some p) H':=
 ⟨.of g,λj a e=>by
  by_cases q:j=i
  ·subst q;rw[iH] at e;cases e;exact .inr n
  ·rw[gC q] at e;exact .inl<|.inr ⟨j,e⟩,(Go.refl (O0:=O0) (ow:=ow) g).dom⟩
theorem Bk {i:Nat}{s:Sl}(nb:∀(j:Nat) (d:D),m[j]?≠some (Sl.bw d))(hs:∀d,s≠.bw d):∀(j:Nat) (d:D),(m.set i s)[j]?≠some (Sl.bw d):=λj d e=>by
 by_cases q:j=i
 ·subst q;have hj:j<m.length:=by simpa using Gv e
  rw[dn hj] at e;exact hs d<|bX e
 ·rw[dr<|iP q] at e;exact nb j d e
theorem gH.mono (R:gH G O0 M0 H0 ow σ H m)(g:aN H H'):gH G O0 M0 H0 ow σ H' m:=⟨R.toRel.mono g,R.nb⟩
theorem gH.set {i:Nat}{v:V}{d:D}(R:gH G O0 M0 H0 ow σ H m)(h:DV G (Ow O0 ow) H v d):gH G O0 M0 H0 (owS ow i none) (σ.set i<|some v) H (m.set i<|.fz d):=
 ⟨R.toRel.set h,Bk R.nb λ_ z=>by cases z⟩
theorem gH.own {i:Nat}{p:Addr}{d:D}(R:gH G O0 M0 H0 ow σ H m)(g:aN H H')(n:H p=none)(n0:H0 p=none)(h:OV G (Op (Ow O0 ow) p) H' p d)(hi:i<m.length):
  gH G O0 M0 H0 (owS ow i<|some p) (σ.set i<|some<|.ref p) H' (m.set i<|.ow d):=⟨R.toRel.own g n n0 h hi,Bk R.nb λ_ z=>by cases z⟩
noncomputable def Sl.let:Sl->Sl
 | .ow d=>.fz d
 |s=>s
noncomputable def Me.let (m:Me):Me:=m.map Sl.let
theorem gH.let (R:gH G O0 M0 H0 ow σ H m):∃ow',gH G O0 M0 H0 ow' σ H m.let/\Go O0 ow H ow' H:=by
 let ow':Os:=λi=>match m[i]? with
  |some (.io _)=>ow i
  |some (.hd _ _ _)=>ow i
  |_=>none
 have le:∀i a,ow' i=some a->ow i=some a/\∀d,m[i]?≠some (.ow d):=λi a e=>by
  simp only[ow'] at e;split at e
  ·rename_i d q;exact⟨e,λd z=>by rw[q] at z;cases z⟩
  ·rename_i w b d q;exact⟨e,λd z=>by rw[q] at z;cases z⟩
  ·cases e
 have sub:∀b,Ow O0 ow' b->Ow O0 ow b\/H b=none:=λb z=>.inl<|z.elim .inl λ⟨i,e⟩=>.inr ⟨i,(le i b e).1⟩;refine⟨ow',⟨⟨by simp[Me.let,R.len],R.keep,R.m0,λb z=>?_,λi a e=>R.no0 i a (le i a e).1,λi j a e1 e2=>R.inj i j a (le i a e1).1 (le j a e2).1,λi hi=>?_,λi s e=>?_⟩,λj d e=>?_⟩,λb o e n=>e,λi a e=>.inl<|.inr ⟨i,(le i a e).1⟩,λ_ n=>n⟩
 ·exact R.mutk b<|z.elim .inl λ⟨i,e⟩=>.inr ⟨i,(le i b e).1⟩
 ·have hi':m.length<=i:=by simpa[Me.let] using hi
  simp only[ow'];rw[List.getElem?_eq_none hi']
 ·unfold Me.let at e;rw[cp] at e;cases q:m[i]? with
  |none=>rw[q] at e;cases e
  |some s0=>
   rw[q] at e;cases e;have z:=R.slot i s0 q;cases s0 with
   |un=>exact(show ow' i=none by simp only[ow',q])
   |fz d=>obtain⟨_,x,e,h⟩:=z;exact⟨(show ow' i=none by simp only[ow',q]),x,e,h.cX sub⟩
   |ow d=>
    obtain⟨a,e1,e2,e3,h⟩:=z;refine⟨(show ow' i=none by simp only[ow',q]),.ref a,e3,(h.cX sub).dv λw=>?_⟩;rcases w with w|⟨j,w⟩
    ·exact R.no0 i a e1 w
    ·obtain⟨w1,w2⟩:=le j a w
     have:=R.inj i j a e1 w1
     subst this;exact w2 d q
   |io d=>
    obtain⟨a,e1,e2,e3,h⟩:=z;exact⟨a,(show ow' i=some a by simp only[ow',q];exact e1),e2,e3,h.cX sub⟩
   |bw d=>exact(R.nb i d q).elim
   |hd w a d=>
    obtain⟨e1,e2,e3,h⟩:=z;exact⟨(show ow' i=some a by simp only[ow',q];exact e1),e2,e3,h.cX sub⟩
 ·unfold Me.let at e;rw[cp] at e;cases q:m[j]? with
  |none=>rw[q] at e;cases e
  |some s0=>
   rw[q] at e;cases s0 with
   |bw d'=>exact R.nb j d' q
   |_=>cases e
end
def Pu (G:Gx)(E:XK){α:Type}(r:Res α)(H:Hp)(k:α->Prop):Prop:=match r with
 | .ok a=>k a
 | .exc c=>∀C H',XP G H' c C->aN H H'->E (.ref C.1) C.2 H'
 | .stuck=>False
theorem Pu.bind {G:Gx}{E:XK}{α β:Type}{r:Res α}{f:α->Res β}{H:Hp}{k:β->Prop}(h:Pu G E (r.bind f) H k):Pu G E r H λa=>Pu G E (f a) H k:=by
 cases r with
 |ok a=>exact h
 |exc c=>exact h
 |stuck=>exact h
theorem Pu.imp {G:Gx}{E:XK}{α:Type}{r:Res α}{H H':Hp}{k k':α->Prop}(h:Pu G E r H k)(g:aN H H')(hk:∀a,k a->k' a):Pu G E r H' k':=by
 cases r with
 |ok a=>exact hk a h
 |exc c=>exact λC H1 e g1=>h C H1 e<|g.trans g1
 |stuck=>exact h
theorem Pu.ofO {G:Gx}{E:XK}{α:Type}{r:Option α}{H:Hp}{k:α->Prop}(h:Pu G E (ofO r) H k):∃a,r=some a/\k a:=by
 cases r with
 |some a=>exact⟨a,rfl,h⟩
 |none=>exact h.elim
def tE (G:Gx)(E:XK)(f:Me->Res D):TE:=λσ H Q=>∃O0 M0 H0 ow m,Rel G O0 M0 H0 ow σ H m/\Pu G E (f m) H λd=>∀v H',aN H H'->DV G (Ow O0 ow) H' v d->Q v H'
def tB (G:Gx)(E:XK)(f:Me->Res D):TE:=λσ H Q=>∃O0 M0 H0 ow m,Rel G O0 M0 H0 ow σ H m/\Pu G E (f m) H λd=>∀v H',aN H H'->DW G (Ow O0 ow) H' v d->Q v H'
def tN (G:Gx)(E:XK)(f:Me->Res D):TE:=λσ H Q=>∃O0 M0 H0 ow m,Rel G O0 M0 H0 ow σ H m/\Pu G E (f m) H λd=>∀p H',aN H H'->H p=none->OV G (Op (Ow O0 ow) p) H' p d->Q (.ref p) H'
def tT (G:Gx)(E:XK)(f:Me->Res Bool):TT:=λσ H Q=>∃O0 M0 H0 ow m,Rel G O0 M0 H0 ow σ H m/\Pu G E (f m) H λb=>∀H',aN H H'->Q b H'
def tAE (G:Gx)(E:XK)(f:Me->Res (List D)):TA:=λσ H Q=>∃O0 M0 H0 ow m,Rel G O0 M0 H0 ow σ H m/\Pu G E (f m) H λds=>∀vs H',aN H H'->DVs G (Ow O0 ow) H' vs ds->Q vs H'
def tAB (G:Gx)(E:XK)(f:Me->Res (List D)):TA:=λσ H Q=>∃O0 M0 H0 ow m,Rel G O0 M0 H0 ow σ H m/\Pu G E (f m) H λds=>∀vs H',aN H H'->DWs G (Ow O0 ow) H' vs ds->Q vs H'
abbrev FE (X:Cx)(E:XK)(e:Expr)(f:Me->Res D):Prop:=PE X e<|tE (gx X) E f
abbrev FB (X:Cx)(E:XK)(e:Expr)(f:Me->Res D):Prop:=PE X e<|tB (gx X) E f
abbrev FN (X:Cx)(E:XK)(e:Expr)(f:Me->Res D):Prop:=PE X e<|tN (gx X) E f
abbrev FT (X:Cx)(E:XK)(e:Expr)(f:Me->Res Bool):Prop:=PT X e<|tT (gx X) E f
abbrev FW (X:Cx)(E:XK)(e:Expr)(f:Me->Res Bool):Prop:=PW X e<|tT (gx X) E f
abbrev FAE (X:Cx)(E:XK)(es:List Expr)(f:Me->Res (List D)):Prop:=PA X es<|tAE (gx X) E f
abbrev FAB (X:Cx)(E:XK)(es:List Expr)(f:Me->Res (List D)):Prop:=PA X es<|tAB (gx X) E f
theorem Gn {X:Cx}{e:Expr}{T T':TT}(h:PT X e T)(k:∀σ H Q,T' σ H Q->T σ H Q):PT X e T':=λπ s σ H Q I q=>h π s σ H Q I<|k σ H Q q
theorem M6 {X:Cx}{e:Expr}{T T':TT}(h:PW X e T)(k:∀σ H Q,T' σ H Q->T σ H Q):PW X e T':=λwh π s σ H Q I q=>h wh π s σ H Q I<|k σ H Q q
theorem zQ {X:Cx}{es:List Expr}{T T':TA}(h:PA X es T)(k:∀σ H Q,T' σ H Q->T σ H Q):PA X es T':=λpos π s σ H Q I q=>h pos π s σ H Q I<|k σ H Q q
section
variable {X:Cx}{E:XK}{e a b c:Expr}{es:List Expr}{f fa fb fc:Me->Res D}{fs:Me->Res (List D)}{ft fu:Me->Res Bool}{pos:Pos}
theorem au (h:FE X E e f):FB X E e f:=bN h λ_ _ _ hE=>xq5 hE λO0 M0 H0 ow m R q=>⟨O0,M0,H0,ow,m,R,q.imp (aN.refl _) λ_ k v H' g d=>k v H' g<|.inl d⟩
theorem iT (h:FN X E e f):FE X E e f:=bN h λ_ _ _ hE=>xq5 hE λO0 M0 H0 ow m R q=>⟨O0,M0,H0,ow,m,R,q.imp (aN.refl _) λ_ k p H' g n o=>
 k _ H' g ((o.cX λb z=>.inl<|.inl z).dv<|R.Tp n)⟩
noncomputable def aH (i:Nat):Me->Res D:=λm=>match m[i]? with
 |some (.fz d)=>.ok d
 |_=>.stuck
noncomputable def ak (i:Nat):Me->Res D:=λm=>match m[i]? with
 |some (.fz d)=>.ok d
 |some (.ow d)=>.ok d
 |some (.io d)=>.ok d
 |some (.bw d)=>.ok d
 |_=>.stuck
theorem aG (i:Nat){x:Str}(hN:X.N[i]? = some x:=by rfl)(hv:Vis X.env.scope x:=by first|exact d4 rfl|exact fA (d4 rfl)|exact fA (fA rfl))(hd:(x==("__debug__":Str))=false:=by decide)
  (hcd:(x==("__classdict__":Str))=false:=by decide):FE X E (.Name x pos) (aH i):=bN (je hN hv hd hcd) λσ H Q hE=>xq5 hE λO0 M0 H0 ow m R q=>by
 unfold aH at q;cases e:m[i]? with
 |none=>rw[e] at q;exact q.elim
 |some s=>
  rw[e] at q;cases s with
  |fz d=>
   obtain⟨_,x,h1,h2⟩:=R.slot i _ e;exact⟨x,h1,q x H (aN.refl _) h2⟩
  |_=>exact q.elim
theorem aq (i:Nat){x:Str}(hN:X.N[i]? = some x:=by rfl)(hv:Vis X.env.scope x:=by first|exact d4 rfl|exact fA (d4 rfl)|exact fA (fA rfl))(hd:(x==("__debug__":Str))=false:=by decide)
  (hcd:(x==("__classdict__":Str))=false:=by decide):FB X E (.Name x pos) (ak i):=bN (je hN hv hd hcd) λσ H Q hE=>xq5 hE λO0 M0 H0 ow m R q=>by
 unfold ak at q;cases e:m[i]? with
 |none=>rw[e] at q;exact q.elim
 |some s=>
  rw[e] at q;cases s with
  |fz d=>
   obtain⟨_,x,h1,h2⟩:=R.slot i _ e;exact⟨x,h1,q x H (aN.refl _)<|.inl h2⟩
  |bw d=>
   obtain⟨_,x,h1,h2⟩:=R.slot i _ e;exact⟨x,h1,q x H (aN.refl _) h2⟩
  |ow d=>
   obtain⟨a,h1,h2,h3,h4⟩:=R.slot i _ e;exact⟨_,h3,q _ H (aN.refl _)<|.inr ⟨a,rfl,.inr ⟨i,h1⟩,h4⟩⟩
  |io d=>
   obtain⟨a,h1,h2,h3,h4⟩:=R.slot i _ e;exact⟨_,h3,q _ H (aN.refl _)<|.inr ⟨a,rfl,.inr ⟨i,h1⟩,h4⟩⟩
  |un=>exact q.elim
  |hd _ _ _=>exact q.elim
def fC (d:D):Me->Res D:=λ_=>.ok d
theorem UJ {d:D}{v:V}(h:PE X e (tC v))(hd:∀O H,DV (gx X) O H v d):FE X E e (fC d):=bN h λσ H Q hE=>xq5 hE λO0 M0 H0 ow m R q=>q v H (aN.refl _)<|hd _ _
theorem ao {i j pos}:FE X E (.Constant (.int i) j pos) (fC<|.int i):=UJ abd λ_ _=>.int i
theorem m5 {b j pos}:FE X E (.Constant (.bool b) j pos) (fC<|.bl b):=UJ acu λ_ _=>.bl b
theorem aag {j pos}:FE X E (.Constant .none j pos) (fC .non):=UJ aai λ_ _=>.non
theorem bC {x j pos}:FE X E (.Constant (.str x) j pos) (fC<|.str x):=UJ ZX λ_ _=>.str x
theorem Oi {x:Str}{v:V}{u:av}{d:D}(hg:Gl X x)(hm:X.mg x=some u)(r:RelV v u)(hd:∀O H,DV (gx X) O H v d)(hdb:(x==("__debug__":Str))=false:=by decide):FE X E (.Name x pos) (fC d):=UJ (Fg hg hm r hdb) hd
def rG (G:Gx)(g:D->D->Option D):R2:=λx y H Q=>∃O d e r,(∀b,O b->jw (H b))/\DW G O H x d/\DW G O H y e/\g d e=some r/\∀v H',aN H H'->DV G O H' v r->Q v H'
def rGB (G:Gx)(g:D->D->Option Bool):R2:=λx y H Q=>∃O d e r,(∀b,O b->jw (H b))/\DW G O H x d/\DW G O H y e/\g d e=some r/\Q (.bl r) H
def rG1 (G:Gx)(g:D->Option D):V->Hp->VK->Prop:=λx H Q=>∃O d r,(∀b,O b->jw (H b))/\DW G O H x d/\g d=some r/\∀v H',aN H H'->DV G O H' v r->Q v H'
def rGC (G:Gx)(g:List D->Option D):List V->Hp->VK->Prop:=λxs H Q=>∃O ds r,(∀b,O b->jw (H b))/\DWs G O H xs ds/\g ds=some r/\∀v H',aN H H'->DV G O H' v r->Q v H'
def ZZ (G:Gx)(g:List D->Option D):List V->Hp->VK->Prop:=λxs H Q=>∃O ds r,(∀b,O b->jw (H b))/\DWs G O H xs ds/\g ds=some r/\∀p H',aN H H'->H p=none->OV G (Op O p) H' p r->Q (.ref p) H'
def rGM (G:Gx)(g:D->List D->Option D):V->List V->Hp->VK->Prop:=λx xs H Q=>∃O d ds r,(∀b,O b->jw (H b))/\DW G O H x d/\DWs G O H xs ds/\g d ds=some r/\∀v H',aN H H'->DV G O H' v r->Q v H'
noncomputable def aB (g:D->D->Option D)(fa fb:Me->Res D):Me->Res D:=λm=>(fa m).bind λx=>(fb m).bind λy=>ofO<|g x y
noncomputable def qH (g:D->D->Option Bool)(fa fb:Me->Res D):Me->Res D:=λm=>(fa m).bind λx=>(fb m).bind λy=>ofO<|(g x y).map D.bl
noncomputable def aL (g:D->D->Option Bool)(fa fb:Me->Res D):Me->Res Bool:=λm=>(fa m).bind λx=>(fb m).bind λy=>ofO<|g x y
noncomputable def fUn (g:D->Option D)(fa:Me->Res D):Me->Res D:=λm=>(fa m).bind λx=>ofO<|g x
theorem two {G:Gx}{σ:L2.St}{H:Hp}{Q:VK}{r:R2}{O0 M0:Zaa}{H0:Hp}{ow:Os}{m:Me}{β:Type}{g:D->D->Res β}{K:β->Hp->Prop}(R:Rel G O0 M0 H0 ow σ H m)(h:Pu G E ((fa m).bind λx=>(fb m).bind λy=>g x y) H λz=>K z H)
  (hm:∀z H',K z H->aN H H'->K z H')
  (k:∀x y d e H',aN H H'->DW G (Ow O0 ow) H' x d->DW G (Ow O0 ow) H' y e->Pu G E (g d e) H' (λz=>K z H')->Rel G O0 M0 H0 ow σ H' m->r x y H' Q):tOp r (tB G E fa) (tB G E fb) σ H Q:=by
 refine⟨O0,M0,H0,ow,m,R,h.bind.imp (aN.refl _) λd q x H1 g1 hx=>⟨O0,M0,H0,ow,m,R.mono g1,q.bind.imp g1 λe q2 y H2 g2 hy=>?_⟩⟩;exact k x y d e H2 (g1.trans g2) (hx.mono g2) hy (q2.imp (g1.trans g2) λz kz=>hm z _ kz<|g1.trans g2)<|R.mono<|g1.trans g2
theorem aO {g:D->D->Option D}{op:Operator}(ho:OpR X (gT op) (rG (gx X) g))(ha:FB X E a fa)(hb:FB X E b fb):FE X E (.BinOp a op b pos) (aB g fa fb):=
 bN (ab0 ho ha hb) λσ H Q hE=>xq5 hE λO0 M0 H0 ow m R q=>two R (K:=λz H=>∀v H',aN H H'->DV (gx X) (Ow O0 ow) H' v z->Q v H') q (λ_ _ k g v H' g' d=>k v H' (g.trans g') d) λx y d e H' g hx hy q' R'=>by
  obtain⟨r,hr,k⟩:=q'.ofO;exact⟨_,d,e,r,R'.mutk,hx,hy,hr,k⟩
theorem Ym {g:D->D->Option D}(ho:IxR X (rG (gx X) g))(ha:FB X E a fa)(hb:FB X E b fb)(hs:zZ b):FE X E (.Subscript a b pos) (aB g fa fb):=
 bN (abj ho ha hb hs) λσ H Q hE=>xq5 hE λO0 M0 H0 ow m R q=>two R (K:=λz H=>∀v H',aN H H'->DV (gx X) (Ow O0 ow) H' v z->Q v H') q (λ_ _ k g v H' g' d=>k v H' (g.trans g') d) λx y d e H' g hx hy q' R'=>by
  obtain⟨r,hr,k⟩:=q'.ofO;exact⟨_,d,e,r,R'.mutk,hx,hy,hr,k⟩
theorem omap {α β:Type}{o:Option α}{f:α->β}{r:β}(h:o.map f=some r):∃a,o=some a/\f a=r:=by
 cases o with
 |none=>cases h
 |some a=>exact⟨a,rfl,bX h⟩
theorem rW {g:D->D->Option Bool}{op:CmpOp}(ho:OpR X (eW op) (rGB (gx X) g))(ha:FB X E a fa)(hb:FB X E b fb)(hm:iX op b=false):FE X E (.Compare a [op] [b] pos) (qH g fa fb):=
 bN (VL ho ha hb hm) λσ H Q hE=>xq5 hE λO0 M0 H0 ow m R q=>two R (K:=λz H=>∀v H',aN H H'->DV (gx X) (Ow O0 ow) H' v z->Q v H') q (λ_ _ k g v H' g' d=>k v H' (g.trans g') d) λx y d e H' g hx hy q' R'=>by
  obtain⟨r,hr,k⟩:=q'.ofO;obtain⟨c,hc,rfl⟩:=omap hr;exact⟨_,d,e,c,R'.mutk,hx,hy,hc,k _ _ (aN.refl _)<|.bl c⟩
theorem bK {g:D->D->Option Bool}{op:CmpOp}(ho:OpR X (eW op) (rGB (gx X) g))(ha:FB X E a fa)(hb:FB X E b fb)(hm:iX op b=false):FT X E (.Compare a [op] [b] pos) (aL g fa fb):=
 Gn (Xi ho ha hb hm) λσ H Q hE=>xq5 hE λO0 M0 H0 ow m R q=>two R (K:=λz H=>∀H',aN H H'->Q z H') q (λ_ _ k g H' g'=>k H'<|g.trans g') λx y d e H' g hx hy q' R'=>by
  obtain⟨c,hc,k⟩:=q'.ofO;exact⟨_,d,e,c,R'.mutk,hx,hy,hc,c,rfl,k _<|aN.refl _⟩
theorem MT {g:D->Option D}{op:UnaryOp}(ho:UnR X (unaryOp op) (rG1 (gx X) g))(ha:FB X E a fa):FE X E (.UnaryOp op a pos) (fUn g fa):=
 bN (acQ ho ha) λσ H Q hE=>xq5 hE λO0 M0 H0 ow m R q=>⟨O0,M0,H0,ow,m,R,q.bind.imp (aN.refl _) λd q x H1 g1 hx=>by
  obtain⟨r,hr,k⟩:=q.ofO;exact⟨_,d,r,(R.mono g1).mutk,hx,hr,λv H' g d=>k v H' (g1.trans g) d⟩⟩
noncomputable def fTv (fa:Me->Res D):Me->Res Bool:=λm=>(fa m).bind λx=>match x with
 | .bl b=>.ok b
 |_=>.stuck
theorem cV (h:FE X E e f)(he:∀whole,isTrue e X.env whole=(do let v←whole;standAt e.pos;yT [v] (truthy v)):=by intro _;rfl):FT X E e (fTv f):=
 Gn (Zq h he) λσ H Q hE=>xq5 hE λO0 M0 H0 ow m R q=>⟨O0,M0,H0,ow,m,R,q.bind.imp (aN.refl _) λd q v H' g hv=>by
  cases d with
  |bl b=>cases hv;exact⟨b,rfl,q H' g⟩
  |_=>exact q.elim⟩
noncomputable def fD (ft:Me->Res Bool):Me->Res Bool:=λm=>(ft m).bind λc=>.ok<|!c
noncomputable def fj (ft fu:Me->Res Bool):Me->Res Bool:=λm=>(ft m).bind λc=>if c then fu m else .ok false
noncomputable def kO (ft fu:Me->Res Bool):Me->Res Bool:=λm=>(ft m).bind λc=>if c then .ok true else fu m
theorem iW (h:FT X E a ft):FT X E (.UnaryOp .Not a pos) (fD ft):=Gn (Zg h) λσ H Q hE=>xq5 hE λO0 M0 H0 ow m R q=>⟨O0,M0,H0,ow,m,R,q.bind.imp (aN.refl _) λb q H' g=>q H' g⟩
theorem sH (h:FT X E a ft):FW X E (.BoolOp .And [a] pos) ft:=WY h
theorem vf (h:FT X E a ft):FW X E (.BoolOp .Or [a] pos) ft:=aaq h
theorem wC (ha:FT X E a ft)(hb:FW X E (.BoolOp .And (b::es) pos) fu):FW X E (.BoolOp .And (a::b::es) pos) (fj ft fu):=
 M6 (Z9 ha hb) λσ H Q hE=>xq5 hE λO0 M0 H0 ow m R q=>⟨O0,M0,H0,ow,m,R,q.bind.imp (aN.refl _) λb q H' g=>by
  cases b with
  |true=>rw[if_pos rfl] at q ⊢;exact⟨O0,M0,H0,ow,m,R.mono g,q.imp g λ_ k H1 g1=>k H1<|g.trans g1⟩
  |false=>rw[if_neg aE] at q ⊢;exact q H' g⟩
theorem pW (ha:FT X E a ft)(hb:FW X E (.BoolOp .Or (b::es) pos) fu):FW X E (.BoolOp .Or (a::b::es) pos) (kO ft fu):=
 M6 (abG ha hb) λσ H Q hE=>xq5 hE λO0 M0 H0 ow m R q=>⟨O0,M0,H0,ow,m,R,q.bind.imp (aN.refl _) λb q H' g=>by
  cases b with
  |false=>rw[if_neg aE] at q ⊢;exact⟨O0,M0,H0,ow,m,R.mono g,q.imp g λ_ k H1 g1=>k H1<|g.trans g1⟩
  |true=>rw[if_pos rfl] at q ⊢;exact q H' g⟩
theorem wU (h:FW X E e ft):FT X E e ft:=L2.PW.pt h
def Rn (fa fb:Me->Res D):Me->Res D:=λm=>(fTv fa m).bind λc=>if c then fb m else .ok (.bl false)
def fOr (fa fb:Me->Res D):Me->Res D:=λm=>(fTv fa m).bind λc=>if c then .ok (.bl true) else fb m
theorem U4 {G:Gx}{O:Zaa}{m:Me}{H:Hp}{k:Bool->Prop}(h:Pu G E (fTv fa m) H k):Pu G E (fa m) H λd=>∃b,d=.bl b/\k b:=by
 refine h.bind.imp (aN.refl _) λd q=>?_;cases d with
 |bl b=>exact⟨b,rfl,q⟩
 |_=>exact q.elim
theorem JB {op}(h:FE X E a fa):FE X E (.BoolOp op [a] pos) fa:=Zc h
theorem Vm (ha:FE X E a fa)(hb:FE X E (.BoolOp .And (b::es) pos) fb):FE X E (.BoolOp .And (a::b::es) pos) (Rn fa fb):=
 bN (aa4 ha hb) λσ H Q hE=>xq5 hE λO0 M0 H0 ow m R q=>⟨O0,M0,H0,ow,m,R,(U4 (O:=O0) q.bind).imp (aN.refl _) λd ⟨b,e,q⟩ v H' g hv=>by
  subst e;cases hv;refine⟨b,rfl,?_⟩;cases b with
  |true=>rw[if_pos rfl] at q ⊢;exact⟨O0,M0,H0,ow,m,R.mono g,q.imp g λ_ k v H1 g1=>k v H1<|g.trans g1⟩
  |false=>rw[if_neg aE] at q ⊢;exact q _ H' g<|.bl false⟩
theorem abr (ha:FE X E a fa)(hb:FE X E (.BoolOp .Or (b::es) pos) fb):FE X E (.BoolOp .Or (a::b::es) pos) (fOr fa fb):=
 bN (acD ha hb) λσ H Q hE=>xq5 hE λO0 M0 H0 ow m R q=>⟨O0,M0,H0,ow,m,R,(U4 (O:=O0) q.bind).imp (aN.refl _) λd ⟨b,e,q⟩ v H' g hv=>by
  subst e;cases hv;refine⟨b,rfl,?_⟩;cases b with
  |false=>rw[if_neg aE] at q ⊢;exact⟨O0,M0,H0,ow,m,R.mono g,q.imp g λ_ k v H1 g1=>k v H1<|g.trans g1⟩
  |true=>rw[if_pos rfl] at q ⊢;exact q _ H' g<|.bl true⟩
def aA:Me->Res (List D):=λ_=>.ok []
noncomputable def aa (fa:Me->Res D)(fs:Me->Res (List D)):Me->Res (List D):=λm=>(fa m).bind λx=>(fs m).bind λxs=>.ok (x::xs)
theorem az:FAE X E [] aA:=zQ pJ λσ H Q hE=>xq5 hE λO0 M0 H0 ow m R q=>q [] H (aN.refl _) .nil
theorem bf:FAB X E [] aA:=zQ pJ λσ H Q hE=>xq5 hE λO0 M0 H0 ow m R q=>q [] H (aN.refl _) .nil
theorem aj (ha:FE X E e fa)(hr:FAE X E es fs)(hs:ag (e::es) X.env=(false,eval e X.env)::ag es X.env:=by rfl):FAE X E (e::es) (aa fa fs):=
 zQ (ig ha hr hs) λσ H Q hE=>xq5 hE λO0 M0 H0 ow m R q=>⟨O0,M0,H0,ow,m,R,q.bind.imp (aN.refl _) λd q v H1 g1 hv=>⟨O0,M0,H0,ow,m,R.mono g1,q.bind.imp g1 λds q vs H2 g2 hvs=>q _ H2 (g1.trans g2)<|.cons (hv.mono g2) hvs⟩⟩
theorem aQ (ha:FB X E e fa)(hr:FAB X E es fs)(hs:ag (e::es) X.env=(false,eval e X.env)::ag es X.env:=by rfl):FAB X E (e::es) (aa fa fs):=
 zQ (ig ha hr hs) λσ H Q hE=>xq5 hE λO0 M0 H0 ow m R q=>⟨O0,M0,H0,ow,m,R,q.bind.imp (aN.refl _) λd q v H1 g1 hv=>⟨O0,M0,H0,ow,m,R.mono g1,q.bind.imp g1 λds q vs H2 g2 hvs=>q _ H2 (g1.trans g2)<|.cons (hv.mono g2) hvs⟩⟩
noncomputable def aM (fs:Me->Res (List D)):Me->Res D:=λm=>(fs m).bind λds=>if ds.length<=ay then .ok (.tup ds) else .stuck
noncomputable def eG (fs:Me->Res (List D)):Me->Res D:=λm=>(fs m).bind λds=>if ds.length<=ay then .ok (.lst ds) else .stuck
theorem Dl {G:Gx}{α:Type}{c:Prop}[Decidable c]{r:α}{H:Hp}{k:α->Prop}(h:Pu G E (if c then .ok r else .stuck) H k):c/\k r:=by
 by_cases z:c
 ·rw[if_pos z] at h;exact⟨z,h⟩
 ·rw[if_neg z] at h;exact h.elim
theorem aW {x1}(h:FAE X E es fs):FE X E (.Tuple es x1 pos) (aM fs):=bN (V9 h) λσ H Q hE=>xq5 hE λO0 M0 H0 ow m R q=>⟨O0,M0,H0,ow,m,R,q.bind.imp (aN.refl _) λds q vs H1 g1 hv=>by
 obtain⟨hz,k⟩:=Dl q;exact⟨by rw[cu hv];exact hz,λp H' g e=>k _ H' (g1.trans g)<|.tup (SqU.of e)<|hv.mono g⟩⟩
theorem gr (h:FAE X E es fs):FN X E (.List es pos) (eG fs):=bN (aaQ<|YJ h) λσ H Q hE=>xq5 hE λO0 M0 H0 ow m R q=>⟨λvs H1=>aN H H1/\∃ds,DVs (gx X) (Ow O0 ow) H1 vs ds/\ds.length<=ay/\∀p H',aN H H'->H p=none->OV (gx X) (Op (Ow O0 ow) p) H' p (.lst ds)->Q (.ref p) H',⟨O0,M0,H0,ow,m,R,q.bind.imp (aN.refl _) λds q vs H1 g1 hv=>⟨g1,ds,hv,Dl q⟩⟩,λvs H1 ⟨g1,ds,hv,hz,k⟩=>
 ⟨by rw[cu hv];exact hz,λp hp=>k p _ (g1.trans<|bO hp _) (g1.free hp) ⟨vs,bu,(hv.cX λb z=>z.elim .inl λe=>.inr (by rw[e];exact hp)).mono<|bO hp _⟩⟩⟩
noncomputable def aR (g:List D->Option D)(fs:Me->Res (List D)):Me->Res D:=λm=>(fs m).bind λds=>ofO<|g ds
theorem NB {g:List D->Option D}{σ:L2.St}{H:Hp}{Q:VK}(h:tE (gx X) E (aR g fs) σ H Q):tCB (rGC (gx X) g) (tAB (gx X) E fs) σ H Q:=by
 obtain⟨O0,M0,H0,ow,m,R,q⟩:=h;refine⟨O0,M0,H0,ow,m,R,q.bind.imp (aN.refl _) λds q vs H1 g1 hv=>?_⟩;obtain⟨r,hr,k⟩:=q.ofO;exact⟨_,ds,r,(R.mono g1).mutk,hv,hr,λv H' g d=>k v H' (g1.trans g) d⟩
theorem Rj {g:List D->Option D}{σ:L2.St}{H:Hp}{Q:VK}(h:tN (gx X) E (aR g fs) σ H Q):tCB (ZZ (gx X) g) (tAB (gx X) E fs) σ H Q:=by
 obtain⟨O0,M0,H0,ow,m,R,q⟩:=h;refine⟨O0,M0,H0,ow,m,R,q.bind.imp (aN.refl _) λds q vs H1 g1 hv=>?_⟩;obtain⟨r,hr,k⟩:=q.ofO;exact⟨_,ds,r,(R.mono g1).mutk,hv,hr,λp H' g n d=>k p H' (g1.trans g) (g1.free n) d⟩
section
variable {x:Str}{p:Pos}{id T:String}{g:List D->Option D}
theorem bJ (hc:fX X (.builtin id) (rGC (gx X) g))(hg:Gl X x)(hm:X.mg x=none)(hv:b0 x=some (.builtin id))(ha:FAB X E (e::es) fs)(hn:x≠"__name__":=by decide)(hdb:(x==("__debug__":Str))=false:=by decide)
  (he:ag (e::es) X.env=(false,eval e X.env)::ag es X.env:=by rfl) (ξ:(ia pos<|ag es X.env).any (·.1)=false:=by rfl):FE X E (.Call (.Name x p) (e::es) [] pos) (aR g fs):=
 bN (uY hc hg hm hv ha hn hdb he ξ) λ_ _ _ h=>NB h
theorem kj (hc:fX X (.type T) (rGC (gx X) g))(hg:Gl X x)(hm:X.mg x=none)(hv:b0 x=some (.type T))(ha:FAB X E (e::es) fs)(hn:x≠"__name__":=by decide)(hdb:(x==("__debug__":Str))=false:=by decide)
  (he:ag (e::es) X.env=(false,eval e X.env)::ag es X.env:=by rfl) (ξ:(ia pos<|ag es X.env).any (·.1)=false:=by rfl):FE X E (.Call (.Name x p) (e::es) [] pos) (aR g fs):=
 bN (yE hc hg hm hv ha hn hdb he ξ) λ_ _ _ h=>NB h
theorem QQ (hc:fX X (.type T) (ZZ (gx X) g))(hg:Gl X x)(hm:X.mg x=none)(hv:b0 x=some (.type T))(ha:FAB X E (e::es) fs)(hn:x≠"__name__":=by decide)(hdb:(x==("__debug__":Str))=false:=by decide)
  (he:ag (e::es) X.env=(false,eval e X.env)::ag es X.env:=by rfl) (ξ:(ia pos<|ag es X.env).any (·.1)=false:=by rfl):FN X E (.Call (.Name x p) (e::es) [] pos) (aR g fs):=
 bN (yE hc hg hm hv ha hn hdb he ξ) λ_ _ _ h=>Rj h
end
noncomputable def tyD:String->D->Bool
 | "str",.str _=>true
 | "list",.lst _=>true
 | "dict",.dct _ _=>true
 | "dict",.dcu _ _=>true
 |_,_=>false
theorem abO {G:Gx}{O:Zaa}{H:Hp}{v:V}{d:D}{T:String}(h:DW G O H v d)(t:tyD T d=true):tyV G.K T v H:=by
 unfold tyD at t;split at t
 ·cases jx h;rfl
 ·obtain⟨a,xs,rfl,hx,_⟩:=iw h;exact .inl ⟨rfl,xs,hx⟩
 ·obtain⟨a,ι,vs,rfl,hx,_⟩:=Vi h;exact .inr<|.inr<|.inl ⟨rfl,.inl ⟨ι,hx⟩⟩
 ·obtain⟨a,ι,vs,rfl,hx,_⟩:=Ru h;exact .inr<|.inr<|.inl ⟨rfl,.inr ⟨_,ι,.inl hx⟩⟩
 ·cases t
def Oo (T:String)(g:D->List D->Option D)(fo:Me->Res D)(fs:Me->Res (List D)):Me->Res D:=λm=>(fo m).bind λd=>if tyD T d=true then(fs m).bind λds=>ofO (g d ds) else .stuck
theorem yN {G:Gx}{α:Type}{c:Prop}[Decidable c]{r:Res α}{H:Hp}{k:α->Prop}(h:Pu G E (if c then r else .stuck) H k):c/\Pu G E r H k:=by
 by_cases z:c
 ·rw[if_pos z] at h;exact⟨z,h⟩
 ·rw[if_neg z] at h;exact h.elim
section
variable {o:Expr}{name:Str}{apos ρ:Pos}{T id:String}{g:D->List D->Option D}
theorem acH (pa:PlainAttrs T)(slot:Slot T name id)(hty:typeOf (.builtin id)=pure (.type "method_descriptor"))(hm:MtR X id (rGM (gx X) g))(ho:FB X E o fa)(ha:FAB X E (e::es) fs)
  (ζ:h8 o name X.env (eval o X.env)=eval o X.env:=by rfl)
  (θ:((ia ρ<|ag (e::es) X.env).all (λx=>!x.1)&&(A6 ρ<|sN [] X.env).all (λx=>x.1.isSome)
   && decide ((e::es).length+([]:List sP).length+(if([]:List sP).isEmpty then 0 else 1)<30))=true:=by rfl)
  (ν:(apos.endLine==ρ.line)=true:=by rfl) (hs:ag (e::es) X.env=(false,eval e X.env)::ag es X.env:=by rfl) (hplain:(ia ρ<|ag es X.env).any (·.1)=false:=by rfl):
  FE X E (.Call (.Attribute o name apos) (e::es) [] ρ) (Oo T g fa fs):=
 bN (Uz pa slot hty hm ho ha ζ θ ν hs hplain) λσ H Q hE=>xq5 hE λO0 M0 H0 ow m R q=>⟨O0,M0,H0,ow,m,R,q.bind.imp (aN.refl _) λd q v H1 g1 hv=>by
  obtain⟨t,q⟩:=yN q;refine⟨abO hv t,O0,M0,H0,ow,m,R.mono g1,q.bind.imp g1 λds q vs H2 g2 hvs=>?_⟩;obtain⟨r,hr,k⟩:=q.ofO;exact⟨_,d,ds,r,(R.mono<|g1.trans g2).mutk,hv.mono g2,hvs,hr,λv H' g d=>k v H' ((g1.trans g2).trans g) d⟩⟩
end
end
inductive Fl where
 |nx|bk|ct|rt (fr:Bool) (d:D)
abbrev Zba:=D->Me->Option Me
abbrev Zaf:=Me->Res Bool
abbrev Zae:=Me->Res D
abbrev Zad:=Me->Res (List D)
abbrev Zac:=List D->Res (Bool×D)
abbrev Zab:=Me->Res (Fl×Me)
mutual
def Ys:D->Bool
 | .non|.bl _|.int _|.str _=>true
 | .tup ds=>JT ds
 |_=>false
def JT:List D->Bool
 |[]=>true
 |d::ds=>Ys d&&JT ds
end
section
variable {G:Gx}{O O':Zaa}{H:Hp}
end
inductive Qe (G:Gx)(H0 H':Hp):List Addr->List V->List D->Prop where
 |nil:Qe G H0 H' [] [] []
 |flat {v:V} {d:D} {vs:List V} {ds:List D} {qs:List Addr}:DV G (λ_=>False) H' v d->Ys d=true->Qe G H0 H' qs vs ds->Qe G H0 H' qs (v::vs) (d::ds)
 |new {q:Addr} {xs:List V} {es:List D} {vs:List V} {ds:List D} {qs:List Addr}:H0 q=none->H' q=some (.lst xs)->DVs G (λ_=>False) H' xs es->JT es=true->q∉qs->Qe G H0 H' qs vs ds->Qe G H0 H' (q::qs) (.ref q::vs) (.lst es::ds)
def Fr (G:Gx)(O:Zaa)(H0:Hp)(v:V)(H':Hp)(d:D):Prop:=(∃p,v=.ref p/\H0 p=none/\OV G (Op O p) H' p d)\/∃p xs ds qs,d=.tup ds/\v=.ref p/\SqU G.K H' p xs/\Qe G H0 H' qs xs ds
def isTup:D->Bool
 | .tup _=>true
 |_=>false
theorem Fr.lst {G:Gx}{O:Zaa}{H0 H':Hp}{v:V}{d:D}(h:Fr G O H0 v H' d)(ht:isTup d=false):∃p,v=.ref p/\H0 p=none/\OV G (Op O p) H' p d:=by
 rcases h with h|⟨p,xs,ds,qs,e,_⟩
 ·exact h
 ·rw[e] at ht;cases ht
def Ss (G:Gx)(E:XK)(O0 M0:Zaa)(H0:Hp)(ow:Os)(H:Hp)(W:Ends)(r:Res (Fl×Me)):Prop:=match r with
 | .ok (.nx,m')=>∀ow' σ' H',gH G O0 M0 H0 ow' σ' H' m'->Go O0 ow H ow' H'->W.nx σ' H'
 | .ok (.bk,m')=>∀ow' σ' H',gH G O0 M0 H0 ow' σ' H' m'->Go O0 ow H ow' H'->W.bk σ' H'
 | .ok (.ct,m')=>∀ow' σ' H',gH G O0 M0 H0 ow' σ' H' m'->Go O0 ow H ow' H'->W.ct σ' H'
 | .ok (.rt fr d,m')=>∀v ow' σ' H',gH G O0 M0 H0 ow' σ' H' m'->Go O0 ow H ow' H'->DV G (Ow O0 ow') H' v d->(fr=true->Fr G (Ow O0 ow') H0 v H' d)->W.rt v H'
 | .exc c=>∀C H',XP G H' c C->Kp M0 H0 H'->E (.ref C.1) C.2 H'
 | .stuck=>False
def tS (G:Gx)(E:XK)(g:Zab):TS:=λW σ H=>∃O0 M0 H0 ow m,gH G O0 M0 H0 ow σ H m/\Ss G E O0 M0 H0 ow H W (g m)
abbrev FS (X:Cx)(E:XK)(st:Stmt)(g:Zab):Prop:=PS X st<|tS (gx X) E g
abbrev FSs (X:Cx)(E:XK)(st:List Stmt)(g:Zab):Prop:=PSs X st<|tS (gx X) E g
theorem cU {X:Cx}{st:Stmt}{T T':TS}(h:PS X st T)(k:∀W σ H,T' W σ H->T W σ H):PS X st T':=λπ s σ H W I q=>h π s σ H W I<|k W σ H q
theorem Iu {X:Cx}{st:List Stmt}{T T':TS}(h:PSs X st T)(k:∀W σ H,T' W σ H->T W σ H):PSs X st T':=λπ s σ H W I q=>h π s σ H W I<|k W σ H q
section
variable {G:Gx}{E:XK}{O0 M0:Zaa}{H0 H H':Hp}{ow ow':Os}{σ:L2.St}{m:Me}{W:Ends}{r:Res (Fl×Me)}
theorem Ss.pu {α:Type}{x:Res α}{k:α->Res (Fl×Me)}(R:Rel G O0 M0 H0 ow σ H m)(h:Ss G E O0 M0 H0 ow H W (x.bind k)):Pu G E x H λa=>Ss G E O0 M0 H0 ow H W (k a):=by
 cases x with
 |ok a=>exact h
 |exc c=>exact λC H' e g=>h C H' e λb o e n=>g b o<|R.keep b o e n
 |stuck=>exact h
theorem Ss.go (h:Ss G E O0 M0 H0 ow H W r)(g:Go O0 ow H ow' H'):Ss G E O0 M0 H0 ow' H' W r:=by
 cases r with
 |ok a=>
  obtain⟨f,m'⟩:=a;cases f with
  |nx=>exact λow1 σ1 H1 R g1=>h ow1 σ1 H1 R<|g.trans g1
  |bk=>exact λow1 σ1 H1 R g1=>h ow1 σ1 H1 R<|g.trans g1
  |ct=>exact λow1 σ1 H1 R g1=>h ow1 σ1 H1 R<|g.trans g1
  |rt fr d=>exact λv ow1 σ1 H1 R g1=>h v ow1 σ1 H1 R<|g.trans g1
 |exc c=>exact h
 |stuck=>exact h
theorem Ss.ofO {α:Type}{x:Option α}{k:α->Res (Fl×Me)}(h:Ss G E O0 M0 H0 ow H W ((ofO x).bind k)):∃a,x=some a/\Ss G E O0 M0 H0 ow H W (k a):=by
 cases x with
 |some a=>exact⟨a,rfl,h⟩
 |none=>exact h.elim
end
def gNx:Zab:=λm=>.ok (.nx,m)
noncomputable def aJ (g k:Zab):Zab:=λm=>match g m with
 | .ok (.nx,m')=>k m'
 |r=>r
noncomputable def bj (i:Nat)(f:Zae):Zab:=λm=>(f m).bind λd=>.ok (.nx,m.set i<|.fz d)
noncomputable def gY (i:Nat)(f:Zae):Zab:=λm=>(f m).bind λd=>if i<m.length then .ok (.nx,m.set i<|.ow d) else .stuck
noncomputable def gEx (f:Zae):Zab:=λm=>(f m).bind λ_=>.ok (.nx,m)
def bz (f:Zae):Zab:=λm=>(f m.let).bind λd=>.ok (.rt false d,m.let)
def jy (f:Zae):Zab:=λm=>(f m.let).bind λd=>.ok (.rt true d,m.let)
def ux (i:Nat):Zab:=λm=>match m[i]? with
 |some (.ow d)=>.ok (.rt true d,m.let)
 |some (.fz d)=>.ok (.rt false d,m.let)
 |_=>.stuck
noncomputable def gIf (t:Zaf)(g k:Zab):Zab:=λm=>(t m).bind λc=>if c then g m else k m
section
variable {X:Cx}{E:XK}{e c:Expr}{es:List Expr}{st:Stmt}{rest sa sb:List Stmt}{f:Zae}{ft:Zaf}{g k ga gb:Zab}{pos pos':Pos}{i:Nat}{x:Str}
theorem aZ:FSs X E [] gNx:=Iu VB λW σ H hE=>xq5 hE λO0 M0 H0 ow m R q=>q ow σ H R<|Go.refl<|aN.refl _
theorem ZQ {G:Gx}{W:Ends}{σ:L2.St}{H:Hp}(h:tS G E (aJ g k) W σ H):abC (tS G E g) (tS G E k) W σ H:=by
 obtain⟨O0,M0,H0,ow,m,R,q⟩:=h;refine⟨O0,M0,H0,ow,m,R,?_⟩;unfold aJ at q;cases z:g m with
 |ok a=>
  obtain⟨f,m'⟩:=a;rw[z] at q;cases f with
  |nx=>exact λow' σ' H' R' g'=>⟨O0,M0,H0,ow',m',R',Ss.go q g'⟩
  |bk=>exact q
  |ct=>exact q
  |rt fr d=>exact q
 |exc c=>rw[z] at q;exact q
 |stuck=>rw[z] at q;exact q
theorem aC (h1:FS X E st g)(h2:FSs X E rest k):FSs X E (st::rest) (aJ g k):=Iu (HQ h1 h2) λW σ H h=>ZQ h
theorem aF (h1:FS X E st g):FSs X E [st] g:=Ab h1
theorem J4 {G:Gx}{W:Ends}{σ:L2.St}{H:Hp}(h:tS G E (bj i f) W σ H):Sd (tE G E f) (BX i) W σ H:=by
 obtain⟨O0,M0,H0,ow,m,R,q⟩:=h;refine⟨O0,M0,H0,ow,m,R.toRel,(Ss.pu R.toRel q).imp (aN.refl _) λd q v H' g' hv=>?_⟩;exact q _ _ _ ((R.mono g').set hv)<|(Go.refl g').trans Go.set
theorem RD {G:Gx}{W:Ends}{σ:L2.St}{H:Hp}(h:tS G E (gY i f) W σ H):Sd (tN G E f) (BX i) W σ H:=by
 obtain⟨O0,M0,H0,ow,m,R,q⟩:=h;refine⟨O0,M0,H0,ow,m,R.toRel,(Ss.pu R.toRel q).imp (aN.refl _) λd q p H' g' n hv=>?_⟩;by_cases hi:i<m.length
 ·rw[if_pos hi] at q;exact q _ _ _ (R.own g' n (R.toRel.YC n) hv hi)<|Go.own g' n
 ·rw[if_neg hi] at q;exact q.elim
theorem Rh (hN:X.N.Nodup)(hi:X.N[i]? = some x)(hx:Loc X.env.scope x)(he:FE X E e f)(hs:fR e (some<|.Name x pos') pos.line X.env=pure false:=by rfl)
  (hf:X.fn x=true\/X.env.scope.names.lookup x=some .local:=by first|exact .inl rfl|exact .inr rfl|assumption):FS X E (.Assign [.Name x pos'] e pos) (bj i f):=cU (Cr hN hi hx he hs hf) λ_ _ _ h=>J4 h
theorem S6 (hN:X.N.Nodup)(hi:X.N[i]? = some x)(hx:Loc X.env.scope x)(he:FN X E e f)(hs:fR e (some<|.Name x pos') pos.line X.env=pure false:=by rfl)
  (hf:X.fn x=true\/X.env.scope.names.lookup x=some .local:=by first|exact .inl rfl|exact .inr rfl|assumption):FS X E (.Assign [.Name x pos'] e pos) (gY i f):=cU (Cr hN hi hx he hs hf) λ_ _ _ h=>RD h
theorem vI (he:FE X E e f)(hs:fR e none pos.line X.env=pure false:=by rfl):FS X E (.Expr e pos) (gEx f):=cU (Ag he hs) λW σ H hE=>xq5 hE λO0 M0 H0 ow m R q=>
 ⟨O0,M0,H0,ow,m,R.toRel,(Ss.pu R.toRel q).imp (aN.refl _) λd q v H' g' hv=>q _ _ _ (R.mono g')<|Go.refl g'⟩
theorem bG (he:FE X E e f):FS X E (.Return (some e) pos) (bz f):=cU (KY he) λW σ H hE=>xq5 hE λO0 M0 H0 ow m R q=>by
 obtain⟨ow',R',g1⟩:=R.let;exact⟨O0,M0,H0,ow',m.let,R'.toRel,(Ss.pu R'.toRel<|Ss.go q g1).imp (aN.refl _) λd q v H' g' hv=>q v ow' σ H' (R'.mono g') (Go.refl g') hv λz=>by cases z⟩
theorem jG (he:FN X E e f):FS X E (.Return (some e) pos) (jy f):=cU (KY he) λW σ H hE=>xq5 hE λO0 M0 H0 ow m R q=>by
 obtain⟨ow',R',g1⟩:=R.let;exact⟨O0,M0,H0,ow',m.let,R'.toRel,(Ss.pu R'.toRel<|Ss.go q g1).imp (aN.refl _) λd q p H' g' n hv=>
  q _ ow' σ H' (R'.mono g') (Go.refl g') ((hv.cX λb z=>.inl<|.inl z).dv<|R'.toRel.Tp n) λ_=>.inl ⟨p,rfl,R'.toRel.YC n,hv⟩⟩
theorem yq (i:Nat)(hN:X.N[i]? = some x:=by rfl)(hv:Vis X.env.scope x:=by first|exact d4 rfl|exact fA (d4 rfl)|exact fA (fA rfl))(hd:(x==("__debug__":Str))=false:=by decide)
  (hcd:(x==("__classdict__":Str))=false:=by decide):FS X E (.Return (some<|.Name x pos') pos) (ux i):=cU (KY<|je hN hv hd hcd) λW σ H hE=>xq5 hE λO0 M0 H0 ow m R q=>by
 obtain⟨ow',R',g1⟩:=R.let;unfold ux at q;cases z:m[i]? with
 |none=>rw[z] at q;exact q.elim
 |some s=>
  rw[z] at q;have zl:m.let[i]? = some s.let:=by unfold Me.let;rw[cp,z];rfl
  cases s with
  |fz d=>
   obtain⟨_,v,e,hv⟩:=R'.slot i _ zl;exact⟨v,e,q v ow' σ H R' g1 hv λz=>by cases z⟩
  |ow d=>
   obtain⟨_,v,e,hv⟩:=R'.slot i _ zl;obtain⟨a,h1,h2,h3,h4⟩:=R.slot i _ z;rw[h3] at e;cases e;refine⟨_,h3,q _ ow' σ H R' g1 hv λ_=>.inl ⟨a,rfl,h2,h4.cX λb w=>.inl ?_⟩⟩;rcases w with w|w
   ·rcases w with w|⟨j,w⟩
    ·exact .inl w
    ·rcases g1.new j b w with w'|w'
     ·exact w'
     ·have:=R'.mutk b (.inr ⟨j,w⟩)
      rw[w'] at this;rcases this with⟨_,e⟩|⟨_,e⟩|⟨_,e⟩|⟨_,e⟩<;>cases e
   ·rw[w];exact .inr ⟨i,h1⟩
  |_=>exact q.elim
theorem cg (hc:FT X E c ft)(ha:FSs X E sa ga)(hb:FSs X E sb gb):FS X E (.If c sa sb pos) (gIf ft ga gb):=cU (abI hc ha hb) λW σ H hE=>xq5 hE λO0 M0 H0 ow m R q=>
 ⟨O0,M0,H0,ow,m,R.toRel,(Ss.pu R.toRel q).imp (aN.refl _) λb q H' g'=>by
  cases b with
  |true=>rw[if_pos rfl] at q ⊢;exact⟨O0,M0,H0,ow,m,R.mono g',Ss.go q<|Go.refl g'⟩
  |false=>rw[if_neg aE] at q ⊢;exact⟨O0,M0,H0,ow,m,R.mono g',Ss.go q<|Go.refl g'⟩⟩
noncomputable def wh (t:Zaf)(b:Zab):Nat->Me->Option (Res<|Fl×Me)
 |0,_=>none
 |n+1,m=>match t m with
  | .ok true=>match b m with
   | .ok (.nx,m')=>wh t b n m'
   | .ok (.ct,m')=>wh t b n m'
   | .ok (.bk,m')=>some<|.ok (.nx,m')
   | .ok (.rt fr d,m')=>some<|.ok (.rt fr d,m')
   | .exc c=>some<|.exc c
   | .stuck=>some .stuck
  | .ok false=>some<|.ok (.nx,m)
  | .exc c=>some<|.exc c
  | .stuck=>some .stuck
theorem MP {t:Zaf}{b:Zab}:∀{n:Nat} {m:Me} {r:Res (Fl×Me)},wh t b n m=some r->wh t b (n+1) m=some r
 |0,_,_,h=>by cases h
 |n+1,m,r,h=>by
  have ih:=@MP t b n;unfold wh at h ⊢;split
  ·rename_i e;rw[e] at h;split
   ·rename_i m' e2;rw[e2] at h;exact ih h
   ·rename_i m' e2;rw[e2] at h;exact ih h
   ·rename_i m' e2;rw[e2] at h;exact h
   ·rename_i fr d m' e2;rw[e2] at h;exact h
   ·rename_i c e2;rw[e2] at h;exact h
   ·rename_i e2;rw[e2] at h;exact h
  ·rename_i e;rw[e] at h;exact h
  ·rename_i e;rw[e] at h;exact h
  ·rename_i e;rw[e] at h;exact h
theorem KR {t:Zaf}{b:Zab}{n:Nat}{m:Me}{r:Res (Fl×Me)}(h:wh t b n m=some r):∀k,wh t b (n+k) m=some r
 |0=>h
 |k+1=>MP<|KR h k
open Classical in
def oV (t:Zaf)(b:Zab):Zab:=λm=>
 if h:∃n r,wh t b n m=some r then A4 (i6 h) else .stuck
theorem O9 {t:Zaf}{b:Zab}{m:Me}(h:oV t b m≠.stuck):∃n,wh t b n m=some (oV t b m):=by
 unfold oV at h ⊢;split at h
 ·rename_i q;rw[dif_pos q];exact⟨_,i6<|i6 q⟩
 ·exact absurd rfl h
theorem vJ {t:Zaf}{b:Zab}{m:Me}{r:Res (Fl×Me)}(n:Nat)(h:wh t b n m=some r):oV t b m=r:=by
 unfold oV;have q:∃n r,wh t b n m=some r:=⟨n,r,h⟩;rw[dif_pos q];have z:=i6<|i6 q;have a:=KR z n;have b':=KR h<|A4 q;rw[AX] at b';rw[a] at b';exact bX b'
theorem xf {body:List Stmt}(hp:vv (b9 X.prog X.w) X.A X.env X.xe)(hc:FT X E c ft)(hb:FSs X E body g):FS X E (.While c body [] pos) (oV ft g):=cU (T3 hp hc hb) λW σ H hE=>xq5 hE λO0 M0 H0 ow m R q=>by
 obtain⟨n,hn⟩:=O9 (t:=ft) (b:=g) (m:=m) (λz=>by rw[z] at q;exact q);generalize oV ft g m=r at *;refine⟨λn σ' H'=>∃ow' m',gH (gx X) O0 M0 H0 ow' σ' H' m'/\Go O0 ow H ow' H'/\wh ft g n m'=some r,⟨n,ow,m,R,Go.refl<|aN.refl _,hn⟩,?_⟩;rintro n σ1 H1 ⟨ow1,m1,R1,g1,h1⟩;cases n with
 |zero=>cases h1
 |succ n=>
  refine⟨O0,M0,H0,ow1,m1,R1.toRel,?_⟩;unfold wh at h1;cases e:ft m1 with
  |exc c=>
   rw[e] at h1;cases h1;exact λC H' e g'=>q C H' e λb o e n=>g' b o<|R1.keep b o e n
  |stuck=>rw[e] at h1;cases h1;exact q.elim
  |ok t=>
   rw[e] at h1;intro H2 g2;have R2:=R1.mono g2;have G2:=g1.trans<|Go.refl g2;cases t with
   |false=>
    cases h1;rw[if_neg aE];exact q _ _ _ R2 G2
   |true=>
    rw[if_pos rfl];have h1:(match g m1 with
     | .ok (.nx,m')=>wh ft g n m'
     | .ok (.ct,m')=>wh ft g n m'
     | .ok (.bk,m')=>some<|.ok (.nx,m')
     | .ok (.rt fr d,m')=>some<|.ok (.rt fr d,m')
     | .exc c=>some<|.exc c
     | .stuck=>some .stuck)=some r:=h1
    refine⟨λσ' H'=>∃ow' m',gH (gx X) O0 M0 H0 ow' σ' H' m'/\Go O0 ow H ow' H'/\wh ft g n m'=some r,λσ' H' z=>⟨n,ub _,z⟩,O0,M0,H0,ow1,m1,R2,?_⟩;cases e2:g m1 with
    |exc c=>rw[e2] at h1;cases h1;exact q
    |stuck=>rw[e2] at h1;cases h1;exact q
    |ok a=>
     obtain⟨f2,m2⟩:=a;rw[e2] at h1;cases f2 with
     |nx=>exact λow' σ' H' R' g'=>⟨ow',m2,R',G2.trans g',h1⟩
     |ct=>exact λow' σ' H' R' g'=>⟨ow',m2,R',G2.trans g',h1⟩
     |bk=>cases h1;exact λow' σ' H' R' g'=>q ow' σ' H' R'<|G2.trans g'
     |rt fr d=>cases h1;exact λv ow' σ' H' R' g'=>q v ow' σ' H' R'<|G2.trans g'
end
def NbP (m m':Me):Prop:=(∀(j:Nat) (d:D),m[j]?≠some (Sl.bw d))->∀(j:Nat) (d:D),m'[j]?≠some (Sl.bw d)
def tG (G:Gx)(k:Nat)(h:Zba):TG:=λv σ H Q=>∃O0 M0 H0 ow m d m',Rel G O0 M0 H0 ow σ H m/\DV G (Ow O0 ow) H v d/\h d m=some m'/\
 ∀ow' σ',Rel G O0 M0 H0 ow' σ' H m'->Go O0 ow H ow' H->NbP m m'->σ'.drop k=σ.drop k->Q σ' H
def tGs (G:Gx)(k:Nat)(h:List D->Me->Option Me):TGs:=λvs σ H Q=>∃O0 M0 H0 ow m ds m',Rel G O0 M0 H0 ow σ H m/\DVs G (Ow O0 ow) H vs ds/\h ds m=some m'/\
 ∀ow' σ',Rel G O0 M0 H0 ow' σ' H m'->Go O0 ow H ow' H->NbP m m'->σ'.drop k=σ.drop k->Q σ' H
abbrev FG (X:Cx)(k:Nat)(tg:Expr)(h:Zba):Prop:=PG X tg<|tG (gx X) k h
abbrev FGs (X:Cx)(k:Nat)(tgs:List Expr)(h:List D->Me->Option Me):Prop:=PGs X tgs<|tGs (gx X) k h
theorem OD {X:Cx}{e:Expr}{T T':TG}(h:PG X e T)(k:∀v σ H Q,T' v σ H Q->T v σ H Q):PG X e T':=λπ s σ H v u Q I r q=>h π s σ H v u Q I r<|k v σ H Q q
theorem Jg {X:Cx}{es:List Expr}{T T':TGs}(h:PGs X es T)(k:∀v σ H Q,T' v σ H Q->T v σ H Q):PGs X es T':=λπ s σ H v u Q I r q=>h π s σ H v u Q I r<|k v σ H Q q
noncomputable def hName (i:Nat):Zba:=λd m=>some<|m.set i<|.fz d
noncomputable def eO:List D->Me->Option Me
 |[],m=>some m
 |_,_=>none
noncomputable def aU (h:Zba)(hs:List D->Me->Option Me):List D->Me->Option Me
 |d::ds,m=>(h d m).bind λm'=>hs ds m'
 |_,_=>none
noncomputable def eN (n:Nat)(hs:List D->Me->Option Me):Zba
 | .tup ds,m=>if ds.length=n then hs ds m else none
 |_,_=>none
section
variable {X:Cx}{pos:Pos}{k:Nat}{e:Expr}{es:List Expr}{h:Zba}{hs:List D->Me->Option Me}
theorem Wo {i:Nat}{x:Str}(hN:X.N.Nodup)(hi:X.N[i]? = some x)(hx:Loc X.env.scope x)(hk:i<k:=by decide)(hf:X.fn x=true\/X.env.scope.names.lookup x=some .local:=by first|exact .inl rfl|exact .inr rfl|assumption):FG X k (.Name x pos) (hName i):=
 OD (Xg hN hi hx hf) λv σ H Q hE=>xq7 hE λO0 M0 H0 ow m d m' R hv e q=>by
  cases e;refine q _ _ (R.set hv) Go.set (λnb=>Bk nb λ_ z=>by cases z) ?_;rw[List.drop_set,if_pos<|by omega]
theorem dB:FGs X k [] eO:=Jg W7 λvs σ H Q hE=>xq7 hE λO0 M0 H0 ow m ds m' R hv e q=>by
 cases hv with
 |nil=>cases e;exact⟨rfl,q _ _ R (Go.refl<|aN.refl _) id rfl⟩
 |cons a t=>cases e
theorem aV (h1:FG X k e h)(h2:FGs X k es hs)(hst:(jS (e::es) X.env).map (·.2)=vj e X.env::(jS es X.env).map (·.2):=by rfl):FGs X k (e::es) (aU h hs):=
 Jg (U5 h1 h2 hst) λvs σ H Q hE=>xq7 hE λO0 M0 H0 ow m ds m' R hv e q=>by
  cases hv with
  |nil=>cases e
  | @cons v vs' d ds' a t=>
   have e':(h d m).bind (λm'=>hs ds' m')=some m':=e;cases e1:h d m with
   |none=>rw[e1] at e';cases e'
   |some m1=>
    rw[e1] at e';exact⟨v,vs',rfl,O0,M0,H0,ow,m,d,m1,R,a,e1,λow' σ' R' g' nb hd=>⟨O0,M0,H0,ow',m1,ds',m',R',t.go R.mutk g'.ev,e',λow2 σ2 R2 g2 nb2 hd2=>q ow2 σ2 R2 (g'.trans g2) (λz=>nb2<|nb z)<|hd2.trans hd⟩⟩
theorem fV {j n:Nat}(hc:X.calm=true)(h:FGs X k es hs)(hn:(jS es X.env).length=n:=by rfl)(hst:(jS es X.env).findIdx? (·.1)=none:=by rfl):FG X k (.Tuple es j pos) (eN n hs):=
 OD (aaj hc h hn hst) λv σ H Q hE=>xq7 hE λO0 M0 H0 ow m d m' R hv e q=>by
  cases d with
  |tup ds=>
   obtain⟨a,xs,rfl,hx,hd⟩:=yH<|.inl hv;have e':(if ds.length=n then hs ds m else none)=some m':=e;by_cases z:ds.length=n
   ·rw[if_pos z] at e';exact⟨a,xs,rfl,hx,by rw[cu hd];exact z,O0,M0,H0,ow,m,ds,m',R,hd,e',q⟩
   ·rw[if_neg z] at e';cases e'
  |_=>cases e
end
def BW (G:Gx)(J:It)(ds:List D)(P:(Zaa)->Hp->Prop):Prop:=∀O H,P O H->
 (∀i,i<ds.length->J.go i H)/\(∀i x H',i<ds.length->J.yld i H x H'->aN H H'/\∃d,ds[i]? = some d/\DV G O H' x d)/\J.stop ds.length H
def tI (G:Gx)(E:XK)(f:Zad):TI:=λσ H R=>∃O0 M0 H0 ow m,Rel G O0 M0 H0 ow σ H m/\Pu G E (f m) H λds=>∀J H',aN H H'->BW G J ds (λO H2=>Ev (Ow O0 ow) H' O H2)->R J H'
def tIw (G:Gx)(E:XK)(f:Zad):TI:=λσ H R=>∃O0 M0 H0 ow m,Rel G O0 M0 H0 ow σ H m/\Pu G E (f m) H λds=>∀J H',aN H H'->BW G J ds (λO H2=>(∀b,O b->Ow O0 ow b\/H' b=none)/\aN H' H2)->R J H'
abbrev FI (X:Cx)(E:XK)(tg e:Expr)(f:Zad):Prop:=PI Calm X tg e<|tI (gx X) E f
abbrev FIw (X:Cx)(E:XK)(tg e:Expr)(f:Zad):Prop:=PI Calm X tg e<|tIw (gx X) E f
theorem qi {X:Cx}{tg e:Expr}{T T':TI}(h:PI Calm X tg e T)(k:∀σ H R,T' σ H R->T σ H R):PI Calm X tg e T':=λπ s σ H R I q=>h π s σ H R I<|k σ H R q
noncomputable def eE (f:Zae):Zad:=λm=>(f m).bind λd=>match d with
 | .lst ds=>.ok ds
 |_=>.stuck
noncomputable def jQ (f:Zae):Zad:=λm=>(f m).bind λd=>match d with
 | .tup ds=>.ok ds
 |_=>.stuck
noncomputable def uH (f:Zad):Zad:=λm=>(f m).bind λd=>match d with
 |[.int j]=>if -(2^62)<=j/\j<2^62 then .ok ((cm j.toNat).map λ(i:Nat)=>D.int i) else .stuck
 |_=>.stuck
noncomputable def Nr (f:Zad):Zad:=λm=>(f m).bind λd=>match d with
 |[.int i,.int j]=>if -(2^62)<=i/\i<2^62/\-(2^62)<=j/\j<2^62 then .ok ((cm (j-i).toNat).map λ(k:Nat)=>D.int<|i+k) else .stuck
 |_=>.stuck
theorem NZ {G:Gx}{O:Zaa}{H:Hp}{a:Addr}{xs:List V}{ds:List D}(m:∀b,O b->jw (H b))(hl:LstAt G.K O H a xs)(hd:DVs G O H xs ds):BW G (Itl G.K a) ds (λO' H2=>Ev O H O' H2):=by
 intro O' H2 ev;have hq:SqL G.K H2 a xs:=(yo ev.2 hl).sq;have hd2:=hd.go m ev;have ω:=cu hd;refine⟨λi hi=>⟨xs,xs[i]'(by omega),hq,by simp⟩,λi x H' hi y=>?_,xs,hq,by omega⟩;obtain⟨e,y⟩:=y;subst e;obtain⟨d,h1,h2⟩:=xm hd2<|y xs hq;exact⟨aN.refl _,d,h1,h2⟩
theorem UL {G:Gx}{O:Zaa}{H:Hp}{a:Addr}{xs:List V}{ds:List D}(m:∀b,O b->jw (H b))(hl:SqL G.K H a xs)(hd:DVs G O H xs ds):BW G (Itl G.K a) ds (λO' H2=>(∀b,O' b->O b\/H b=none)/\aN H H2):=by
 intro O' H2 ⟨sub,g⟩;have hq:SqL G.K H2 a xs:=Ij hl g;have hd2:=hd.go m ⟨sub,.of g⟩;have ω:=cu hd;refine⟨λi hi=>⟨xs,xs[i]'(by omega),hq,by simp⟩,λi x H' hi y=>?_,xs,hq,by omega⟩;obtain⟨e,y⟩:=y;subst e;obtain⟨d,h1,h2⟩:=xm hd2<|y xs hq;exact⟨aN.refl _,d,h1,h2⟩
theorem Q5 {G:Gx}{O:Zaa}{H:Hp}{a:Addr}{xs:List V}{ds:List D}(m:∀b,O b->jw (H b))(hl:SqT G.K H a xs)(hd:DVs G O H xs ds):BW G (Itt G.K a) ds (λO' H2=>Ev O H O' H2):=by
 intro O' H2 ev;have hq:SqT G.K H2 a xs:=aao m ev.2 hl;have hd2:=hd.go m ev;have ω:=cu hd;refine⟨λi hi=>⟨xs,xs[i]'(by omega),hq,by simp⟩,λi x H' hi y=>?_,xs,hq,by omega⟩;obtain⟨e,y⟩:=y;subst e;obtain⟨d,h1,h2⟩:=xm hd2<|y xs hq;exact⟨aN.refl _,d,h1,h2⟩
theorem BW.weak {G:Gx}{J:It}{ds:List D}{O:Zaa}{H:Hp}(h:BW G J ds (λO' H2=>Ev O H O' H2)):BW G J ds (λO' H2=>(∀b,O' b->O b\/H b=none)/\aN H H2):=
 λO' H2 ⟨s,g⟩=>h O' H2 ⟨s,.of g⟩
theorem Jj {G:Gx}{lo:Int}{n:Nat}{P:(Zaa)->Hp->Prop}:BW G (Itr lo n) ((cm n).map λ(k:Nat)=>D.int<|lo+k) P:=by
 intro O H _;refine⟨λi hi=>(show i<n by simpa using hi),λi x H' hi y=>?_,by show n<=_;simp⟩;obtain⟨e,y⟩:=y;subst e y;have hi':i<n:=by simpa using hi
 exact⟨aN.refl _,_,by simp[cp,y8 hi'],.int _⟩
section
variable {X:Cx}{E:XK}{tg e a b:Expr}{f:Zae}{fs:Zad}{p pos:Pos}
theorem lE (h:FE X E e f):FI X E tg e (eE f):=qi (Ox h) λσ H R hE=>xq5 hE λO0 M0 H0 ow m Re q=>⟨O0,M0,H0,ow,m,Re,q.bind.imp (aN.refl _) λd q v H' g hv=>by
 cases d with
 |lst ds=>
  cases hv with
  |lst hl hd=>exact⟨_,rfl,⟨_,hl.sq⟩,q _ H' g<|NZ (Re.mono g).mutk hl hd⟩
 |_=>exact q.elim⟩
theorem lO (h:FE X E e f):FI X E tg e (jQ f):=qi (aaL h) λσ H R hE=>xq5 hE λO0 M0 H0 ow m Re q=>⟨O0,M0,H0,ow,m,Re,q.bind.imp (aN.refl _) λd q v H' g hv=>by
 cases d with
 |tup ds=>
  cases hv with
  |tup hl hd=>exact⟨_,rfl,⟨_,hl.sq⟩,q _ H' g<|Q5 (Re.mono g).mutk hl.sq hd⟩
 |_=>exact q.elim⟩
theorem mX (h:FB X E e f):FIw X E tg e (eE f):=qi (Ox h) λσ H R hE=>xq5 hE λO0 M0 H0 ow m Re q=>⟨O0,M0,H0,ow,m,Re,q.bind.imp (aN.refl _) λd q v H' g hv=>by
 cases d with
 |lst ds=>
  obtain⟨a,xs,rfl,hl,hd⟩:=iw hv;exact⟨a,rfl,⟨_,hl⟩,q _ H' g<|UL (Re.mono g).mutk hl hd⟩
 |_=>exact q.elim⟩
theorem my {fl:Zad}(h:FI X E tg e fl):FIw X E tg e fl:=qi h λσ H R hE=>xq5 hE λO0 M0 H0 ow m Re q=>⟨O0,M0,H0,ow,m,Re,q.imp (aN.refl _) λds q J H' g hi=>q J H' g hi.weak⟩
theorem km (hg:Gl X "range")(hm:X.mg "range" = none)(ha:FAB X E [a] fs)(hs:ag [a] X.env=[(false,eval a X.env)]:=by rfl):FI X E tg (.Call (.Name "range" p) [a] [] pos) (uH fs):=
 qi (Qh hg hm ha hs) λσ H R hE=>xq5 hE λO0 M0 H0 ow m Re q=>⟨O0,M0,H0,ow,m,Re,q.bind.imp (aN.refl _) λds q vs H' g hv=>by
  cases hv with
  |nil=>exact q.elim
  | @cons v vs d ds h1 h2=>
   cases h2 with
   |cons _ _=>cases d<;>exact q.elim
   |nil=>
    cases d with
    |int j=>
     cases bR h1;obtain⟨⟨z1,z2⟩,k⟩:=Dl q;refine⟨j,rfl,z1,z2,k _ H' g ?_⟩
     have:=Jj (G:=gx X) (lo:=0) (n:=j.toNat) (P:=λO H2=>Ev (Ow O0 ow) H' O H2)
     simpa using this
    |_=>exact q.elim⟩
theorem O7 (hg:Gl X "range")(hm:X.mg "range" = none)(ha:FAB X E [a,b] fs)(hs:ag [a,b] X.env=[(false,eval a X.env),(false,eval b X.env)]:=by rfl)(hs2:ag [b] X.env=[(false,eval b X.env)]:=by rfl):FI X E tg (.Call (.Name "range" p) [a,b] [] pos) (Nr fs):=
 qi (Ql hg hm ha hs hs2) λσ H R hE=>xq5 hE λO0 M0 H0 ow m Re q=>⟨O0,M0,H0,ow,m,Re,q.bind.imp (aN.refl _) λds q vs H' g hv=>by
  split at q
  ·cases hv with
   |cons h1 t=>cases t with
    |cons h2 t=>
     cases t;cases bR h1;cases bR h2;obtain⟨⟨z1,z2,z3,z4⟩,k⟩:=Dl q;exact⟨_,_,rfl,⟨z1,z2,z3,z4⟩,k _ H' g Jj⟩
  ·exact q.elim⟩
end
noncomputable def bL (h:Zba)(g:Zab):List D->Zab
 |[],m=>.ok (.nx,m)
 |d::ds,m=>match h d m with
  |none=>.stuck
  |some m1=>match g m1 with
   | .ok (.nx,m2)=>bL h g ds m2
   | .ok (.ct,m2)=>bL h g ds m2
   | .ok (.bk,m2)=>.ok (.nx,m2)
   | .ok (.rt fr v,m2)=>.ok (.rt fr v,m2)
   | .exc c=>.exc c
   | .stuck=>.stuck
def fB (fi:Zad)(h:Zba)(g:Zab):Zab:=λm=>(fi m).bind λds=>bL h g ds m
theorem FQ {Cm:Cx->Prop}{X:Cx}{E:XK}{tg iter:Expr}{body:List Stmt}{fi:Zad}{k:Nat}{h:Zba}{g:Zab}{pos:Pos}(hp:vv (b9 X.prog X.w) X.A X.env X.xe)(hc:Cm X)(hi:PI Cm X tg iter (tI (gx X) E fi))(hg:FG X k tg h)(hb:FSs X E body g)
  (hs:∀x,gN iter X.env x=pure x:=by intro _;rfl):FS X E (.For tg iter body [] pos) (fB fi h g):=cU (ZJ hp hc hi hg hb hs) λW σ H hE=>xq5 hE λO0 M0 H0 ow m R q=>
 ⟨O0,M0,H0,ow,m,R.toRel,(Ss.pu R.toRel q).imp (aN.refl _) λds q J H1 g1 it=>by
  have R1:=R.mono g1;have q1:=Ss.go q<|Go.refl g1;generalize hr:bL h g ds m=r at *;refine⟨λi n σ' H'=>∃ow' m',gH (gx X) O0 M0 H0 ow' σ' H' m'/\Go O0 ow H1 ow' H'/\n=ds.length-i/\i<=ds.length/\bL h g (ds.drop i) m'=r,⟨_,ow,m,R1,Go.refl<|aN.refl _,rfl,fS _,hr⟩,?_⟩;rintro i n σ2 H2 ⟨ow2,m2,R2,g2,rfl,hi,e2⟩;obtain⟨i1,i2,i3⟩:=it _ H2 g2.ev;by_cases hlt:i<ds.length
  ·refine .inr ⟨i1 i hlt,λσ' H'=>∃ow' m',gH (gx X) O0 M0 H0 ow' σ' H' m'/\Go O0 ow H1 ow' H'/\bL h g (ds.drop<|i+1) m'=r,λσ' H' ⟨ow',m',R',g',e'⟩=>⟨ds.length-(i+1),by omega,ow',m',R',g',rfl,hlt,e'⟩,λx H3 y=>?_⟩;obtain⟨s3,d,hd,dv⟩:=i2 i x H3 hlt y;have ed:ds.drop i=d::ds.drop (i+1):=by
    rw[rX hlt];rw[bS hlt] at hd;cases hd;rfl
   rw[ed] at e2;unfold bL at e2;cases eh:h d m2 with
   |none=>rw[eh] at e2;subst e2;exact q1.elim
   |some m3=>
    rw[eh] at e2;refine⟨O0,M0,H0,ow2,m2,d,m3,(R2.mono s3).toRel,dv,eh,λow' σ' R' g' nb _=>?_⟩;have G3:=(g2.trans<|Go.refl s3).trans g';refine⟨O0,M0,H0,ow',m3,⟨R',nb R2.nb⟩,?_⟩;cases eg:g m3 with
    |exc c=>simp only[eg] at e2;subst e2;exact q1
    |stuck=>simp only[eg] at e2;subst e2;exact q1
    |ok a=>
     obtain⟨f4,m4⟩:=a;simp only[eg] at e2;cases f4 with
     |nx=>exact λow4 σ4 H4 R4 g4=>⟨ow4,m4,R4,G3.trans g4,e2⟩
     |ct=>exact λow4 σ4 H4 R4 g4=>⟨ow4,m4,R4,G3.trans g4,e2⟩
     |bk=>subst e2;exact λow4 σ4 H4 R4 g4=>q1 ow4 σ4 H4 R4<|G3.trans g4
     |rt fr v=>subst e2;exact λv ow4 σ4 H4 R4 g4=>q1 v ow4 σ4 H4 R4<|G3.trans g4
  ·have e:i=ds.length:=by omega
   subst e;rw[List.drop_length] at e2;unfold bL at e2;subst e2;exact .inl ⟨i3,q1 ow2 σ2 H2 R2 g2⟩⟩
theorem ZP {X:Cx}{E:XK}{tg iter:Expr}{body:List Stmt}{fi:Zad}{k:Nat}{h:Zba}{g:Zab}{pos:Pos}(hp:vv (b9 X.prog X.w) X.A X.env X.xe)(hc:X.calm=true)(hi:FI X E tg iter fi)(hg:FG X k tg h)(hb:FSs X E body g)
  (hs:∀x,gN iter X.env x=pure x:=by intro _;rfl):FS X E (.For tg iter body [] pos) (fB fi h g):=FQ (Cm:=Calm) hp hc hi hg hb hs
noncomputable def Sl.bor:Sl->Sl
 | .ow d=>.bw d
 | .io d=>.bw d
 | .hd _ _ _=>.un
 |s=>s
def cMe (k:Nat)(cap:List Nat)(m:Me):Me:=br k .un++cap.map λj=>(m.getD j .un).bor
noncomputable def dY (h:Zba)(ft:Zaf)(fe:Zae)(m0:Me):List D->Res (List D)
 |[]=>.ok []
 |d::ds=>match h d m0 with
  |none=>.stuck
  |some m1=>match ft m1 with
   | .ok true=>match fe m1 with
    | .ok y=>match dY h ft fe m0 ds with
     | .ok ys=>.ok (y::ys)
     |_=>.stuck
    |_=>.stuck
   | .ok false=>dY h ft fe m0 ds
   |_=>.stuck
def cA (k:Nat)(cap:List Nat)(fi:Zad)(h:Zba)(ft:Zaf)(fe:Zae):Zae:=λm=>(fi m).bind λds=>
 if ds.length<=ay then match dY h ft fe (cMe k cap m) ds with
  | .ok ys=>.ok<|.lst ys
  |_=>.stuck
 else .stuck
abbrev Vn (X:Cx)(E:XK)(ifs:List Expr)(f:Zaf):Prop:=Qj X ifs<|tT (gx X) E f
def gR:Zaf:=λ_=>.ok true
theorem cR:Vn X E [] gR:=λπ s σ H Q I hE=>xq5 hE λO0 M0 H0 ow m R q=>WN π s σ H Q I<|q H<|aN.refl _
theorem Ht (h:FT X E c f):Vn X E [c] f:=Vr h
section
theorem Rt (R:Rel G O0 M0 H0 ow σ H m)(g:aN H H2)(hl:H l=none)(hz:H2 l=some (.lst zs)):
  Rel G (Op (Ow O0 ow) l) (λ_=>False) (λ_=>none) (λ_=>none) (cSt k cap σ) H2 (cMe k cap m):=by
 have sub:∀b,Ow (Op (Ow O0 ow) l) (λ_=>none) b->Ow O0 ow b\/H b=none:=λb z=>by
  rw[yl] at z;exact z.elim .inl λe=>.inr (by rw[e];exact hl)
 have sup:∀b,Ow O0 ow b->Ow (Op (Ow O0 ow) l) (λ_=>none) b:=λb z=>.inl<|.inl z;refine⟨by simp[cSt,cMe],λb o e _=>(by cases e),λb z=>z.elim,λb z=>?_,λi a e=>(by cases e),λi j a e=>(by cases e),λ_ _=>rfl,λi s e=>?_⟩
 ·rw[yl] at z;rcases z with z|z
  ·exact yz g<|R.mutk b z
  ·rw[z,hz];exact .inl ⟨zs,rfl⟩
 ·unfold cMe at e;by_cases hi:i<k
  ·rw[fw (by simpa using hi),g7,if_pos hi] at e;cases e;rfl
  ·rw[gu (by simp;lia),kS,cp] at e;have eσ:(cSt k cap σ)[i]? = (cap[i-k]?).map λj=>(σ[j]?).join:=by
    unfold cSt;rw[gu (by simp;lia),kS,cp]
   cases ec:cap[i-k]? with
   |none=>rw[ec] at e;cases e
   |some j=>
    rw[ec] at e eσ;rw[eσ];cases ej:m[j]? with
    |none=>
     have:m.getD j .un=.un:=by simp[List.getD,ej]
     rw[iN,this] at e;cases e;rfl
    |some s0=>
     have:m.getD j .un=s0:=by simp[List.getD,ej]
     rw[iN,this] at e;cases e;have z:=R.slot j s0 ej;cases s0 with
     |un=>rfl
     |fz d=>
      obtain⟨_,x,e1,hv⟩:=z;exact⟨rfl,x,by rw[iN,e1];rfl,(hv.cX sub).mono g⟩
     |ow d=>
      refine Ay z λa h1 h2 h3 h4=>?_;exact⟨rfl,.ref a,by rw[iN,h3];rfl,.inr ⟨a,rfl,sup a<|.inr ⟨j,h1⟩,(h4.cX sub).mono g⟩⟩
     |io d=>
      refine Ay z λa h1 h2 h3 h4=>?_;exact⟨rfl,.ref a,by rw[iN,h3];rfl,.inr ⟨a,rfl,sup a<|.inr ⟨j,h1⟩,(h4.cX sub).mono g⟩⟩
     |bw d=>
      obtain⟨_,x,e1,hv⟩:=z;refine⟨rfl,x,by rw[iN,e1];rfl,?_⟩;rcases hv with hv|⟨a,e2,o,hv⟩
      ·exact .inl<|(hv.cX sub).mono g
      ·exact .inr ⟨a,e2,sup a o,(hv.cX sub).mono g⟩
     |hd w a d=>rfl
theorem Hi (hq:tN (gx X) E (cA k cap fi h ft fe) σ H Q):N6 k cap (tIw (gx X) E fi) (tG (gx X) k h) (tT (gx X) E0 ft) (tE (gx X) E0 fe) σ H Q:=by
 refine Js hq λO0 M0 H0 ow m R q=>?_;refine⟨O0,M0,H0,ow,m,R,q.bind.imp (aN.refl _) λds q J H1 g1 it l hl=>?_⟩;obtain⟨hz,q⟩:=yN q;cases hc:dY h ft fe (cMe k cap m) ds with
 |exc c=>rw[hc] at q;exact q.elim
 |stuck=>rw[hc] at q;exact q.elim
 |ok ys=>
  rw[hc] at q;have hlH:H l=none:=g1.free hl;have mk1:∀b,Op (Ow O0 ow) l b->Ow O0 ow b\/H1 b=none:=λb z=>z.elim .inl λe=>.inr (by rw[e];exact hl);refine⟨λi n zs H'=>n=ds.length-i/\i<=ds.length/\zs.length<=i/\aN H1 H'/\H' l=some (.lst zs)/\∃es rest,DVs (gx X) (Op (Ow O0 ow) l) H' zs es/\dY h ft fe (cMe k cap m) (ds.drop i)=.ok rest/\es++rest=ys,
   ⟨ds.length,by simp,fS _,aI _,bO hl _,bu,[],ys,.nil,hc,rfl⟩,?_⟩
  rintro i n zs H' ⟨rfl,hi,hzi,g2,hH,es,rest,hes,hcr,hys⟩;obtain⟨i1,i2,i3⟩:=it (Op (Ow O0 ow) l) H' ⟨mk1,g2⟩;by_cases hlt:i<ds.length
  ·refine .inr ⟨i1 i hlt,λx H2 y=>?_⟩;obtain⟨g3,d,hd,dv⟩:=i2 i x H2 hlt y;have ed:ds.drop i=d::ds.drop (i+1):=by
    rw[rX hlt];rw[bS hlt] at hd;cases hd;rfl
   rw[ed] at hcr;unfold dY at hcr;cases eh:h d (cMe k cap m) with
   |none=>rw[eh] at hcr;cases hcr
   |some m1=>
    rw[eh] at hcr;have G2:aN H H2:=(g1.trans g2).trans g3;have R2:=Rt (k:=k) (cap:=cap) (l:=l) (zs:=zs) R G2 hlH<|g3 _ _ hH;refine⟨_,_,_,_,_,d,m1,R2,by rw[yl];exact dv,eh,λow' σ' R' g' nb hdr=>⟨hdr,_,_,_,ow',m1,R',?_⟩⟩;simp only[] at hcr;cases et:ft m1 with
    |exc c=>rw[et] at hcr;cases hcr
    |stuck=>rw[et] at hcr;cases hcr
    |ok t=>
     rw[et] at hcr;intro H3 g4;cases t with
     |false=>
      rw[if_neg aE];exact⟨ds.length-(i+1),by lia,rfl,hlt,by lia,(g2.trans g3).trans g4,g4 _ _<|g3 _ _ hH,es,rest,hes.mono<|g3.trans g4,hcr,hys⟩
     |true=>
      rw[if_pos rfl];refine⟨_,_,_,ow',m1,R'.mono g4,?_⟩;simp only[] at hcr;cases ee:fe m1 with
      |exc c=>rw[ee] at hcr;cases hcr
      |stuck=>rw[ee] at hcr;cases hcr
      |ok y'=>
       rw[ee] at hcr;intro v H5 g5 hv;simp only[] at hcr;cases er:dY h ft fe (cMe k cap m) (ds.drop<|i+1) with
       |exc c=>rw[er] at hcr;cases hcr
       |stuck=>rw[er] at hcr;cases hcr
       |ok rest'=>
        rw[er] at hcr;cases hcr;have G5:aN H' H5:=(g3.trans g4).trans g5;have mk5:∀b,Op (Ow O0 ow) l b->jw (H5 b):=λb z=>by
         rcases z with z|z
         ·exact yz (((g1.trans g2).trans G5))<|R.mutk b z
         ·rw[z,G5 _ _ hH];exact .inl ⟨zs,rfl⟩
        have kp5:Kp (Op (Ow O0 ow) l) H5 (upd H5 l<|.lst<|zs++[v]):=λb o e n=>by
         rw[bD<|show b≠l from λz=>n<|.inr z];exact e
        refine⟨G5 _ _ hH,by lia,ds.length-(i+1),by lia,rfl,hlt,by rw[cc,eK];lia,?_,bu,es++[y'],rest',?_,er,by rw[gc];exact hys⟩
        ·exact XD ((abo<|g2.trans G5).trans abe) hl
        ·exact lD ((hes.mono G5).kp mk5 kp5)<|.cons ((hv.cX λb z=>.inl<|.inl z).kp mk5 kp5) .nil
  ·have e:i=ds.length:=by lia
   subst e;rw[List.drop_length] at hcr;cases hcr;rw[cE] at hys;subst hys;exact .inl ⟨i3,q l H' (g1.trans g2) hlH ⟨zs,hH,hes⟩⟩
section
theorem gB (sc:rL)(N' caps:List Str)(k:Nat)(cap:List Nat)(hcalm:X.calm=true)(S:CSc sc scope caps)(hcap:js (λj x=>X.N[j]? = some x) cap caps)
  (hi:FIw X E tg iter fi) (hg:∀cl C sE HE fp π,FG (cW X N' scope cl C sE HE fp π) k tg h) (ht:∀cl C sE HE fp π,Vn (cW X N' scope cl C sE HE fp π) E0 ifs ft) (he:∀cl C sE HE fp π,FE (cW X N' scope cl C sE HE fp π) E0 elt fe)
  (hsc:X.env.scope=sc:=by rfl) (hN:N'.drop k=caps:=by rfl) (hk:k<=N'.length:=by decide) (hs:∀x,gN iter X.env x=pure x:=by intro _;rfl):
  FN X E (.ListComp elt [⟨tg,iter,ifs,0⟩] scope pos) (cA k cap fi h ft fe):=bN (Xv sc N' caps k cap hcalm S hcap hi hg ht he hsc hN hk hs) λ_ _ _ q=>Hi q
theorem oY (sc:rL)(N' caps:List Str)(k:Nat)(cap:List Nat)(hnd:X.N.Nodup)(hi':X.N[i]? = some y)(hy:Loc X.env.scope y)(hcalm:X.calm=true)(S:CSc sc scope caps)(hcap:js (λj x=>X.N[j]? = some x) cap caps)
  (hi:FIw X E tg iter fi) (hg:∀cl C sE HE fp π,FG (cW X N' scope cl C sE HE fp π) k tg h) (ht:∀cl C sE HE fp π,Vn (cW X N' scope cl C sE HE fp π) E0 ifs ft) (he:∀cl C sE HE fp π,FE (cW X N' scope cl C sE HE fp π) E0 elt fe)
  (υ:fR (.ListComp elt [⟨tg,iter,ifs,0⟩] scope pos) (some<|.Name y py) spos.line X.env=pure true:=by rfl)
  (hsc:X.env.scope=sc:=by rfl) (hN:N'.drop k=caps:=by rfl) (hk:k<=N'.length:=by decide) (hs:∀x,gN iter X.env x=pure x:=by intro _;rfl)
  (hf:X.fn y=true\/X.env.scope.names.lookup y=some .local:=by first|exact .inl rfl|exact .inr rfl|assumption):
  FS X E (.Assign [.Name y py] (.ListComp elt [⟨tg,iter,ifs,0⟩] scope pos) spos) (bj i<|cA k cap fi h ft fe):=
 cU (Al sc N' caps k cap hnd hi' hy hcalm S hcap hi hg ht he υ hsc hN hk hs hf) λW σ H q=>by
  refine Hi (h:=h) (ft:=ft) (fe:=fe) (Q:=λx H1=>BX i x σ H1 W.nx) ?_;refine Js (J4 q) λO0 M0 H0 ow m R q=>?_;exact⟨O0,M0,H0,ow,m,R,q.imp (aN.refl _) λ_ k p H' g n o=>k _ H' g<|(o.cX λb z=>.inl<|.inl z).dv<|R.Tp n⟩
theorem Kw (sc:rL)(N' caps:List Str)(k:Nat)(cap:List Nat)(hnd:X.N.Nodup)(hi':X.N[i]? = some y)(hy:Loc X.env.scope y)(hcalm:X.calm=true)(S:CSc sc scope caps)(hcap:js (λj x=>X.N[j]? = some x) cap caps)
  (hi:FIw X E tg iter fi) (hg:∀cl C sE HE fp π,FG (cW X N' scope cl C sE HE fp π) k tg h) (ht:∀cl C sE HE fp π,Vn (cW X N' scope cl C sE HE fp π) E0 ifs ft) (he:∀cl C sE HE fp π,FE (cW X N' scope cl C sE HE fp π) E0 elt fe)
  (υ:fR (.ListComp elt [⟨tg,iter,ifs,0⟩] scope pos) (some<|.Name y py) spos.line X.env=pure true:=by rfl)
  (hsc:X.env.scope=sc:=by rfl) (hN:N'.drop k=caps:=by rfl) (hk:k<=N'.length:=by decide) (hs:∀x,gN iter X.env x=pure x:=by intro _;rfl)
  (hf:X.fn y=true\/X.env.scope.names.lookup y=some .local:=by first|exact .inl rfl|exact .inr rfl|assumption):
  FS X E (.Assign [.Name y py] (.ListComp elt [⟨tg,iter,ifs,0⟩] scope pos) spos) (gY i<|cA k cap fi h ft fe):=
 cU (Al sc N' caps k cap hnd hi' hy hcalm S hcap hi hg ht he υ hsc hN hk hs hf) λW σ H q=>Hi (Q:=λx H1=>BX i x σ H1 W.nx)<|RD q
end
end
def spF (G:Gx)(Φ:Zac):Sp:=λvs H Q E=>∃O ds,(∀b,O b->jw (H b))/\DVs G O H vs ds/\Pu G E (Φ ds) H λr=>∀v H',aN H H'->DV G O H' v r.2->(r.1=true->Fr G O H v H' r.2)->Q v H'
noncomputable def bc (N n:Nat)(g:Zab):Zac:=λds=>if ds.length=n then match g (ds.map Sl.fz++br (N-n) Sl.un) with
  | .ok (.rt fr d,_)=>.ok (fr,d)
  | .ok (.nx,_)=>.ok (false,.non)
  | .exc c=>.exc c
  |_=>.stuck
 else .stuck
abbrev FF (P:bo)(w:dc)(K:bb)(mg:Zp)(base:Heap)(k:Nat)(x:Str)(ps:List Str)(Φ:Zac):Prop:=Hd.Fn P w K mg base k x ps<|spF ⟨K,mg⟩ Φ
theorem Dk (hm:∀b,O b->jw (H b))(hd:DVs G O H vs ds)(hn:ds.length=n):
  gH G O (λ_=>False) H (λ_=>none) (L2.start N vs) H (ds.map Sl.fz++br (N.length-n) Sl.un):=by
 have hl:=cu hd;refine⟨⟨by simp[L2.start,hl,hn],λb o e _=>e,λb z=>z.elim,λb z=>by rw[yl] at z;exact hm b z,λi a e=>(by cases e),λi j a e=>(by cases e),λ_ _=>rfl,λi s e=>?_⟩,λj d e=>?_⟩
 ·by_cases hi:i<ds.length
  ·rw[fw (by simpa using hi),cp] at e;cases ed:ds[i]? with
   |none=>rw[ed] at e;cases e
   |some d=>
    rw[ed] at e;cases e;obtain⟨x,hx,dx⟩:=Br hd ed;refine⟨rfl,x,?_,by rw[yl];exact dx⟩;unfold L2.start;rw[fw (by simpa[hl] using hi),cp,hx];rfl
  ·rw[gu (by simp;lia),g7] at e;split at e
   ·cases e;rfl
   ·cases e
 ·by_cases hi:j<ds.length
  ·rw[fw (by simpa using hi),cp] at e;cases ed:ds[j]? with
   |none=>rw[ed] at e;cases e
   |some d=>rw[ed] at e;cases e
  ·rw[gu (by simp;lia),g7] at e;split at e<;>cases e
section
variable {P:bo}{w:dc}{K:bb}{mg:Zp}{base:Heap}
theorem bF {x qual:Str}{st:Stmt}{f:Addr}{fd:hG}{N ps:List Str}{k:Nat}{g:Zab}(Fu:Fun K x qual st f fd)(S:aY N ps (aD st))
  (hbody:∀(cdv:av) (A:dy) (outer:List Env) (s:aS) (H:Hp) (E:XK),gw k (A.deeper<|rd qual (aD st) s.heap.objs.size f cdv)->
   FSs (kW (CX1 P w) P w K mg base N qual (aD st) f cdv A outer s H E) E (gW st) g):oG P w K mg base (CX1 P w) (k+1) f fd ps (spF ⟨K,mg⟩<|bc N.length ps.length g):=by
 refine GP Fu S (λvs H Q E h=>?_) λcdv A outer s H vs Q E hr h=>?_
 ·refine Ca h λO ds _ hd q=>?_;rw[cu hd];unfold bc at q;exact(yN q).1
 ·refine Ca h λO ds hm hd q=>?_;unfold bc at q;obtain⟨hn,q⟩:=yN q;refine⟨_,hbody cdv A outer s H E hr,O,λ_=>False,H,λ_=>none,_,Dk hm hd hn,?_⟩;have sm:∀{ow' σ' H' m'},gH (⟨K,mg⟩:Gx) O (λ_=>False) H ow' σ' H' m'->aN H H':=λR b o e=>R.keep b o e id;cases z:g (ds.map Sl.fz++br (N.length-ps.length) Sl.un) with
  |exc c=>rw[z] at q;exact λC H' e kp=>q C H' e λb o e=>kp b o e id
  |stuck=>rw[z] at q;exact q.elim
  |ok a=>
   obtain⟨fl,m'⟩:=a;rw[z] at q;cases fl with
   |bk=>exact q.elim
   |ct=>exact q.elim
   |nx=>exact λow' σ' H' R' _=>q _ H' (sm R') .non λz=>by cases z
   |rt fr d=>
    intro v ow' σ' H' R' _ hv hf;refine q v H' (sm R') (hv.cX λb z=>.inl<|.inl z) λz=>?_;rcases hf z with⟨p,e1,e2,e3⟩|t
    ·exact .inl ⟨p,e1,e2,e3.cX λb z=>.inl<|z.elim (λy=>.inl<|.inl y) .inr⟩
    ·exact .inr t
end
noncomputable def fFn (Φ:Zac)(fs:Zad):Zae:=λm=>(fs m).bind λds=>(Φ ds).bind λr=>.ok r.2
def Zv (Φ:Zac)(fs:Zad):Zae:=λm=>(fs m).bind λds=>(Φ ds).bind λr=>if(r.1&&!isTup r.2)=true then .ok r.2 else .stuck
section
theorem bM (Fh:FF X.prog X.w X.K X.mg X.base k x ps Φ)(hr:gw j X.A)(hx:Passes (CX1 X.prog X.w) X E)(ha:FAE X E (e::es) fs)(hk:k<=j:=by decide)(hg:Gl X x:=by rfl)
  (hdb:(x==("__debug__":Str))=false:=by decide) (he:ag (e::es) X.env=(false,eval e X.env)::ag es X.env:=by rfl) (ξ:(ia pos<|ag es X.env).any (·.1)=false:=by rfl):
  FE X E (.Call (.Name x p) (e::es) [] pos) (fFn Φ fs):=by
 refine zr Fh.ex λf fd G b kp m=>?_;refine bN (Nt G (hr.mono hk) hg m kp b .nil hx ha hdb he ξ) λσ H Q hE=>xq5 hE λO0 M0 H0 ow m R q=>⟨O0,M0,H0,ow,m,R,q.bind.imp (aN.refl _) λds q vs H1 g1 hv=>?_⟩;show spF _ _ (vs++[]) _ _ _;rw[cE];exact⟨_,ds,(R.mono g1).mutk,hv,q.bind.imp g1 λr q v H' g2 hv' _=>q v H' (g1.trans g2) hv'⟩
theorem acS (Fh:FF X.prog X.w X.K X.mg X.base k x ps Φ)(hr:gw j X.A)(hx:Passes (CX1 X.prog X.w) X E)(ha:FAE X E (e::es) fs)(hk:k<=j:=by decide)(hg:Gl X x:=by rfl)
  (hdb:(x==("__debug__":Str))=false:=by decide) (he:ag (e::es) X.env=(false,eval e X.env)::ag es X.env:=by rfl) (ξ:(ia pos<|ag es X.env).any (·.1)=false:=by rfl):
  FN X E (.Call (.Name x p) (e::es) [] pos) (Zv Φ fs):=by
 refine zr Fh.ex λf fd G b kp m=>?_;refine bN (Nt G (hr.mono hk) hg m kp b .nil hx ha hdb he ξ) λσ H Q hE=>xq5 hE λO0 M0 H0 ow m R q=>⟨O0,M0,H0,ow,m,R,q.bind.imp (aN.refl _) λds q vs H1 g1 hv=>?_⟩;show spF _ _ (vs++[]) _ _ _;rw[cE];refine⟨_,ds,(R.mono g1).mutk,hv,q.bind.imp g1 λr q v H' g2 hv' fr=>?_⟩;obtain⟨hf,q⟩:=Dl q;obtain⟨hf1,hf2⟩:=Bool.and_eq_true_iff.mp hf;obtain⟨p,rfl,n,o⟩:=(fr hf1).lst (by simpa using hf2);exact q p H' (g1.trans g2) (g1.free n) o
end
def Bg (i:Int):Prop:=i.natAbs<lmM
instance (i:Int):Decidable (Bg i):=inferInstanceAs<|Decidable<|_<_
def Bq (i:Int):Prop:=i.natAbs<lmD
instance (i:Int):Decidable (Bq i):=inferInstanceAs<|Decidable<|_<_
theorem TJ {i:Int}(h:i.natAbs<2^60000):Bg i:=by unfold Bg;rw[Uv];exact h
theorem Mj {i:Int}(h:i.natAbs<2^8900):Bq i:=by unfold Bq;rw[K6];exact h
@[simp] theorem adV {i:Int}(h:Bq i):Bg i:=by
 unfold Bq at h;rw[K6] at h;exact TJ<|cb h<|x8 (by decide)<|by decide
noncomputable def dvI (i j:Int):Int:=if 0<j then i/j else i.fdiv j
noncomputable def mdI (i j:Int):Int:=if 0<j then i%j else i.fmod j
noncomputable def cF:D->D->Option D
 | .int i,.int j=>some<|.int<|i+j
 | .str a,.str b=>if a.length+b.length<=ay then some (.str<|a++b) else none
 | .lst a,.lst b=>if a.length+b.length<=ay then some (.lst<|a++b) else none
 | .tup a,.tup b=>if a.length+b.length<=ay then some (.tup<|a++b) else none
 |_,_=>none
noncomputable def mj:D->D->Option D
 | .int i,.int j=>some<|.int<|i-j
 |_,_=>none
noncomputable def uI:D->D->Option D
 | .int i,.int j=>if Bg i/\Bg j\/j.natAbs<2^62 then some (.int<|i*j) else none
 |_,_=>none
def dZ:D->D->Option D
 | .int i,.int j=>if j≠0/\Bq j then some (.int<|dvI i j) else none
 |_,_=>none
def cz:D->D->Option D
 | .int i,.int j=>if j≠0 then some (.int<|mdI i j) else none
 |_,_=>none
def Fx:D->D->Option D
 | .int i,.int j=>if 0<=j/\j<=1000000/\i.natAbs<2^64 then some (.int<|i^j.toNat) else none
 |_,_=>none
noncomputable def Cw:D->Option D
 | .int i=>some<|.int (-i)
 |_=>none
section
variable {X:Cx}
theorem oif {c:Prop}[Decidable c]{α:Type}{a r:α}(h:(if c then some a else none)=some r):c/\a=r:=by
 by_cases z:c
 ·rw[if_pos z] at h;exact⟨z,bX h⟩
 ·rw[if_neg z] at h;cases h
theorem NK {π:Zl}{σ:L2.St}{H:Hp}{s:aS}{Q:VK}{O:Zaa}{i:Str}{t:Tok}{tk:Nat}(I:Inv X π σ H s)(q:∀v H',aN H H'->DV (gx X) O H' v (.str i)->Q v H'):EP X π σ Q (.str i t) { s with toks:=tk }:=
 ⟨.str i,H,I.tok _,⟨t,rfl⟩,q _ _ (aN.refl _)<|.str i⟩
theorem Mr {π:Zl}{σ:L2.St}{H:Hp}{s:aS}{Q:VK}{O:Zaa}{xs:List V}{ds:List D}{χ:List av}{h':Heap}{tk:Nat}(I:Inv X π σ H s)(m:∀b,O b->jw (H b))(hd:DVs (gx X) O H xs ds)(r:Vals xs χ)(hz:xs.length<=ay)
  (kp:∀b o,s.heap.get? b=some o->h'.get? b=some o) (e:∃n,h'.get? s.heap.objs.size=some { cls:=.type "list",data:=.seq χ.toArray n }) (q:∀p H',aN H H'->H p=none->OV (gx X) (Op O p) H' p (.lst ds)->Q (.ref p) H'):EP X π σ Q (.ref s.heap.objs.size) { s with heap:=h',toks:=tk }:=by
 have hf:H s.heap.objs.size=none:=I.hok.fresh<|aI _;obtain⟨n,e⟩:=e;refine⟨.ref s.heap.objs.size,upd H s.heap.objs.size<|.lst xs,I.laid kp (aI _) ⟨hz,χ,n,r,e⟩,rfl,q _ _ (bO hf _) hf ⟨xs,bu,?_⟩⟩;exact(hd.cX λb z=>z.elim .inl λe=>.inr (by rw[e];exact hf)).mono (bO hf _)
theorem Ln {G:Gx}{O:Zaa}{H:Hp}{r:D}{Q:VK}(m:∀b,O b->jw (H b))(q:∀v H',aN H H'->DV G O H' v r->Q v H'):∀p H',aN H H'->H p=none->OV G (Op O p) H' p r->Q (.ref p) H':=λp H' g n o=>
 q _ H' g ((o.cX λb z=>.inl<|.inl z).dv λz=>by
  have:=m p z
  rw[n] at this;rcases this with⟨_,e⟩|⟨_,e⟩|⟨_,e⟩|⟨_,e⟩<;>cases e)
def ab5 (G:Gx):R2:=λx y H Q=>∃O ds es,(∀b,O b->jw (H b))/\DW G O H x (.lst ds)/\DW G O H y (.lst es)/\ds.length+es.length<=ay/\∀p H',aN H H'->H p=none->OV G (Op O p) H' p (.lst<|ds++es)->Q (.ref p) H'
theorem XM:OpR X (gT .Add) (ab5<|gx X):=by
 intro π s σ H x y v u Q I rx ry h;obtain⟨O,ds,es,m,hx,hy,hz,q⟩:=h;obtain⟨a,xs,rfl,ha,hd⟩:=iw hx;obtain⟨b,ys,rfl,hb,he⟩:=iw hy;cases rx;cases ry;obtain⟨χ,r1,p1,_⟩:=I.list ha;obtain⟨its2,r2,p2,_⟩:=I.list hb;have l1:=cu hd;have l2:=cu he;have k1:=r1.length;have k2:=r2.length;obtain⟨⟨cls,dd,data,sl⟩,ho,hc,n,hdt⟩:=id p1.isList;obtain⟨⟨cls2,dd2,data2,sl2⟩,ho2,hc2,n2,hd2⟩:=id p2.isList;simp only at hc hdt hc2 hd2;subst hc hdt hc2 hd2;refine vS ⟨_,ho,rfl⟩ ⟨_,ho2,rfl⟩ noFill_list_add seq_list_add PySem.F.slot_list_add PySem.F.entry_list_add (PySem.F.args_list_add_2 _ _) (list_addW a b χ.toArray its2.toArray n n2 dd dd2 sl sl2 (by simp;omega)) ⟨ho,ho2,?_⟩;rw[show χ.toArray++its2.toArray=(χ++its2).toArray by simp];exact Mr (tk:=s.toks) I m (lD hd he) (r1.append r2) (by rw[cc];omega) (λb o e=>af _ e) ⟨0,a7 _ rfl⟩ q
theorem R0:OpR X (gT .Add) (λx y H Q=>∃O ds es,DW (gx X) O H x (.tup ds)/\DW (gx X) O H y (.tup es)/\ds.length+es.length<=ay/\∀v H',aN H H'->DV (gx X) O H' v (.tup<|ds++es)->Q v H'):=by
 intro π s σ H x y v u Q I rx ry h;obtain⟨O,ds,es,hx,hy,hz,q⟩:=h;obtain⟨a,xs,rfl,ha,hd⟩:=zU hx;obtain⟨b,ys,rfl,hb,he⟩:=zU hy;have l1:=cu hd;have l2:=cu he;by_cases hx0:xs=[]
 ·subst hx0;cases hd;cases rx;cases ry;obtain⟨χ,r1,p1,_⟩:=I.tuple ha.sq;obtain⟨its2,r2,p2,_⟩:=I.tuple hb.sq;cases r1;obtain⟨⟨cls,dd,data,sl⟩,ho,hc,n,hdt⟩:=id p1;obtain⟨⟨cls2,dd2,data2,sl2⟩,ho2,hc2,n2,hd2⟩:=id p2;simp only at hc hdt hc2 hd2;subst hc hdt hc2 hd2;exact vS ⟨_,ho,rfl⟩ ⟨_,ho2,rfl⟩ ua Au mE mn (me _ _)
   (tuple_addW0 a b ([]:List av).toArray its2.toArray n n2 dd dd2 sl sl2<|by rfl) ⟨ho,ho2,⟨.ref b,H,I,rfl,q _ _ (aN.refl _)<|.tup hb he⟩⟩
 ·refine V6 π s σ H _ _ v u Q I rx ry ⟨a,b,xs,ys,rfl,rfl,ha.sq,hb.sq,hx0,by omega,λz=>?_,λz p hp=>?_⟩
  ·subst z;cases he;exact q _ _ (aN.refl _) (by rw[cE];exact .tup ha hd)
  ·exact q _ _ (bO hp _)<|.tup (SqU.of bu)<|(lD hd he).mono<|bO hp _
theorem bT:OpR X (gT .Add) (rG (gx X) cF):=by
 intro π s σ H x y v u Q I rx ry h;obtain⟨O,d,e,r,m,hx,hy,hr,q⟩:=h
 match d,e,hr with
 | .int i,.int j,hr=>
  cases hr;exact Zx π s σ H x y v u Q I rx ry ⟨i,j,bR hx,bR hy,q _ _ (aN.refl _)<|.int _⟩
 | .str i,.str j,hr=>
  obtain⟨z,rfl⟩:=oif hr;exact Ku π s σ H x y v u Q I rx ry ⟨i,j,jx hx,jx hy,z,q _ _ (aN.refl _)<|.str _⟩
 | .lst ds,.lst es,hr=>
  obtain⟨z,rfl⟩:=oif hr;exact XM π s σ H x y v u Q I rx ry ⟨O,ds,es,m,hx,hy,z,Ln m q⟩
 | .tup ds,.tup es,hr=>
  obtain⟨z,rfl⟩:=oif hr;exact R0 π s σ H x y v u Q I rx ry ⟨O,ds,es,hx,hy,z,q⟩
theorem jM:OpR X (gT .Sub) (rG (gx X) mj):=by
 intro π s σ H x y v u Q I rx ry h;obtain⟨O,d,e,r,m,hx,hy,hr,q⟩:=h
 match d,e,hr with
 | .int i,.int j,hr=>
  cases hr;exact aaV π s σ H x y v u Q I rx ry ⟨i,j,bR hx,bR hy,q _ _ (aN.refl _)<|.int _⟩
theorem oE:OpR X (gT .Mult) (rG (gx X) uI):=by
 intro π s σ H x y v u Q I rx ry h;obtain⟨O,d,e,r,m,hx,hy,hr,q⟩:=h
 match d,e,hr with
 | .int i,.int j,hr=>
  obtain⟨z,rfl⟩:=oif hr;rcases z with z|z
  ·exact Wm π s σ H x y v u Q I rx ry ⟨i,j,bR hx,bR hy,z,q _ _ (aN.refl _)<|.int _⟩
  ·exact Xu π s σ H x y v u Q I rx ry ⟨i,j,bR hx,bR hy,z,q _ _ (aN.refl _)<|.int _⟩
theorem dh:OpR X (gT .FloorDiv) (rG (gx X) dZ):=by
 intro π s σ H x y v u Q I rx ry h;obtain⟨O,d,e,r,m,hx,hy,hr,q⟩:=h
 match d,e,hr with
 | .int i,.int j,hr=>
  obtain⟨z,rfl⟩:=oif hr;refine Su π s σ H x y v u Q I rx ry ⟨i,j,bR hx,bR hy,z,?_⟩;have e:i.fdiv j=dvI i j:=by
   unfold dvI;split
   ·rw[hJ i<|by omega]
   ·rfl
  show Q (.int<|i.fdiv j) H;rw[e];exact q _ _ (aN.refl _)<|.int _
theorem bU:OpR X (gT .Mod) (rG (gx X) cz):=by
 intro π s σ H x y v u Q I rx ry h;obtain⟨O,d,e,r,m,hx,hy,hr,q⟩:=h
 match d,e,hr with
 | .int i,.int j,hr=>
  obtain⟨z,rfl⟩:=oif hr;refine Xz π s σ H x y v u Q I rx ry ⟨i,j,bR hx,bR hy,z,?_⟩;have e:i.fmod j=mdI i j:=by
   unfold mdI;split
   ·rw[Int.fmod_eq_emod_of_nonneg i<|by omega]
   ·rfl
  show Q (.int<|i.fmod j) H;rw[e];exact q _ _ (aN.refl _)<|.int _
theorem GR:OpR X (gT .Pow) (rG (gx X) Fx):=by
 intro π s σ H x y v u Q I rx ry h;obtain⟨O,d,e,r,m,hx,hy,hr,q⟩:=h
 match d,e,hr with
 | .int i,.int j,hr=>
  obtain⟨z,rfl⟩:=oif hr;exact Y8 π s σ H x y v u Q I rx ry ⟨i,j,bR hx,bR hy,z,q _ _ (aN.refl _)<|.int _⟩
theorem Ai:UnR X (unaryOp .USub) (rG1 (gx X) Cw):=by
 intro π s σ H x v Q I rx h;obtain⟨O,d,r,m,hx,hr,q⟩:=h
 match d,hr with
 | .int i,hr=>
  cases hr;exact aaa π s σ H x v Q I rx ⟨i,bR hx,q _ _ (aN.refl _)<|.int _⟩
mutual
def toPy:D->Option oT
 | .non=>some .none
 | .bl b=>some<|.bool b
 | .int i=>some<|.int i
 | .str x=>some<|.str x
 | .tup xs=>(mU xs).map .tuple
 | .lst xs=>(mU xs).map .list
 | .exc _ _ _=>none
 | .dct _ _=>none
 | .dcu _ _=>none
 | .adr _=>none
 | .ins _ _ _=>none
 | .dcf _ _=>none
def mU:List D->Option (List oT)
 |[]=>some []
 |d::ds=>(toPy d).bind λp=>(mU ds).map λps=>p::ps
end
mutual
theorem Nj {G:Gx}{O:Zaa}{H:Hp}:∀{v:V} {d:D} {p:oT},DV G O H v d->toPy d=some p->Hd.DV G.K H v p
 |_,_,_,.non,e=>by cases e;exact .non
 |_,_,_,.bl b,e=>by cases e;exact .bl b
 |_,_,_,.int i,e=>by cases e;exact .int i
 |_,_,_,.str x,e=>by cases e;exact .str x
 |_,_,_,.exc ..,e=>by cases e
 |_,_,_,.tup h hs,e=>by
  obtain⟨ps,e1,rfl⟩:=omap (by simpa[toPy] using e);exact .tup h.sq<|By hs e1
 |_,_,_,.lst h hs,e=>by
  obtain⟨ps,e1,rfl⟩:=omap (by simpa[toPy] using e);exact .lst h.sq<|By hs e1
 |_,_,_,.dct _ _ _ _ _,e=>by cases e
 |_,_,_,.dcu _ _ _ _ _,e=>by cases e
 |_,_,_,.adr _,e=>by cases e
 |_,_,_,.ins _ _ _ _ _ _,e=>by cases e
 |_,_,_,.dcf _ _ _ _,e=>by cases e
theorem By {G:Gx}{O:Zaa}{H:Hp}:∀{vs:List V} {ds:List D} {ps:List oT},DVs G O H vs ds->mU ds=some ps->Hd.DVs G.K H vs ps
 |_,_,_,.nil,e=>by cases e;exact .nil
 |_,_,_,.cons (d:=d) (ds:=ds) h hs,e=>by
  unfold mU at e;cases e1:toPy d with
  |none=>rw[e1] at e;cases e
  |some p=>
   rw[e1] at e;obtain⟨ps,e2,rfl⟩:=omap e;exact .cons (Nj h e1)<|By hs e2
end
theorem zP {G:Gx}{O:Zaa}{H:Hp}{v:V}{d:D}{p:oT}(h:DW G O H v d)(e:toPy d=some p):Hd.DV G.K H v p:=Nj h.any e
noncomputable def lV (d e:D):Option Bool:=match toPy d,toPy e with
 |some p,some q=>if gS p=true/\gS q=true then some (fN p q) else none
 |_,_=>none
def gEq:D->D->Option Bool
 | .int i,.int j=>some<|decide<|i=j
 | .str i,.str j=>some<|decide<|i=j
 | .bl i,.bl j=>some<|decide<|i=j
 | .non,.non=>some true
 |d,e=>lV d e
def gNe (d e:D):Option Bool:=(gEq d e).map (!·)
theorem Du {d e:D}{b:Bool}(h:lV d e=some b):∃p q,toPy d=some p/\toPy e=some q/\gS p=true/\gS q=true/\fN p q=b:=by
 unfold lV at h;cases e1:toPy d with
 |none=>rw[e1] at h;cases h
 |some p=>
  cases e2:toPy e with
  |none=>rw[e1,e2] at h;cases h
  |some q=>
   rw[e1,e2] at h;obtain⟨⟨z1,z2⟩,rfl⟩:=oif h;exact⟨p,q,rfl,rfl,z1,z2,rfl⟩
theorem DQ {d e:D}{b:Bool}(h:gEq d e=some b):(∃i j,d=.int i/\e=.int j/\b=decide (i=j))\/(∃i j,d=.str i/\e=.str j/\b=decide (i=j))\/(∃i j,d=.bl i/\e=.bl j/\b=decide (i=j))\/(d=.non/\e=.non/\b=true)\/lV d e=some b:=by
 unfold gEq at h;split at h
 ·cases h;exact .inl ⟨_,_,rfl,rfl,rfl⟩
 ·cases h;exact .inr<|.inl ⟨_,_,rfl,rfl,rfl⟩
 ·cases h;exact .inr<|.inr<|.inl ⟨_,_,rfl,rfl,rfl⟩
 ·cases h;exact .inr<|.inr<|.inr<|.inl ⟨rfl,rfl,rfl⟩
 ·exact .inr<|.inr<|.inr<|.inr h
theorem cO (hu:X.A.units+64<pw):OpR X (eW .Eq) (rGB (gx X) gEq):=by
 intro π s σ H x y v u Q I rx ry h;obtain⟨O,d,e,r,m,hx,hy,hr,q⟩:=h;rcases DQ hr with⟨i,j,rfl,rfl,rfl⟩|⟨i,j,rfl,rfl,rfl⟩|⟨i,j,rfl,rfl,rfl⟩|⟨rfl,rfl,rfl⟩|h
 ·cases bR hx;cases bR hy;exact Mv π s σ H _ _ v u Q I rx ry ⟨rfl,by simpa using q⟩
 ·cases jx hx;cases jx hy;exact Mv π s σ H _ _ v u Q I rx ry ⟨rfl,by simpa using q⟩
 ·cases Iv hx;cases Iv hy;exact Mv π s σ H _ _ v u Q I rx ry ⟨rfl,by simpa using q⟩
 ·cases wB hx;cases wB hy;exact Mv π s σ H _ _ v u Q I rx ry ⟨rfl,by simpa using q⟩
 ·obtain⟨p,p',e1,e2,z1,z2,rfl⟩:=Du h;exact Zj hu π s σ H x y v u Q I rx ry ⟨p,p',zP hx e1,zP hy e2,z1,z2,q⟩
theorem o7 (hu:X.A.units+64<pw):OpR X (eW .NotEq) (rGB (gx X) gNe):=by
 intro π s σ H x y v u Q I rx ry h;obtain⟨O,d,e,r,m,hx,hy,hr,q⟩:=h;obtain⟨c,hc,rfl⟩:=omap hr;rcases DQ hc with⟨i,j,rfl,rfl,rfl⟩|⟨i,j,rfl,rfl,rfl⟩|⟨i,j,rfl,rfl,rfl⟩|⟨rfl,rfl,rfl⟩|h
 ·cases bR hx;cases bR hy;exact NT π s σ H _ _ v u Q I rx ry ⟨rfl,by simpa using q⟩
 ·cases jx hx;cases jx hy;exact NT π s σ H _ _ v u Q I rx ry ⟨rfl,by simpa using q⟩
 ·cases Iv hx;cases Iv hy;exact NT π s σ H _ _ v u Q I rx ry ⟨rfl,by simpa using q⟩
 ·cases wB hx;cases wB hy;exact NT π s σ H _ _ v u Q I rx ry ⟨rfl,by simpa using q⟩
 ·obtain⟨p,p',e1,e2,z1,z2,rfl⟩:=Du h;exact Y9 hu π s σ H x y v u Q I rx ry ⟨p,p',zP hx e1,zP hy e2,z1,z2,q⟩
noncomputable def yZ:List D->Option (List Int)
 |[]=>some []
 | .int i::ds=>(yZ ds).map (i::·)
 |_::_=>none
theorem Hk {G:Gx}{O:Zaa}{H:Hp}:∀{vs:List V} {ds:List D} {ns:List Int},DVs G O H vs ds->yZ ds=some ns->vs=ns.map V.int
 |_,_,_,.nil,e=>by cases e;rfl
 |_,_,_,.cons (d:=d) h hs,e=>by
  cases d with
  |int i=>
   obtain⟨ns,e1,rfl⟩:=omap (by simpa[yZ] using e);cases h;rw[Hk hs e1];rfl
  |_=>cases e
noncomputable def gLt:D->D->Option Bool
 | .int i,.int j=>some<|decide<|i<j
 |_,_=>none
def gLe:D->D->Option Bool
 | .int i,.int j=>some<|decide<|i<=j
 |_,_=>none
noncomputable def gGt:D->D->Option Bool
 | .int i,.int j=>some<|decide<|j<i
 |_,_=>none
noncomputable def gGe:D->D->Option Bool
 | .int i,.int j=>some<|decide<|j<=i
 |_,_=>none
theorem Cg (hu:X.A.units+64<pw):OpR X (eW .Lt) (rGB (gx X) gLt):=by
 intro π s σ H x y v u Q I rx ry h;obtain⟨O,d,e,r,m,hx,hy,hr,q⟩:=h;unfold gLt at hr;split at hr
 ·rename_i i j;cases hr;exact abf π s σ H x y v u Q I rx ry ⟨i,j,bR hx,bR hy,q⟩
 ·cases hr
theorem aaP:OpR X (eW .LtE) (rGB (gx X) gLe):=by
 intro π s σ H x y v u Q I rx ry h;obtain⟨O,d,e,r,m,hx,hy,hr,q⟩:=h
 match d,e,hr with
 | .int i,.int j,hr=>cases hr;exact acU π s σ H x y v u Q I rx ry ⟨i,j,bR hx,bR hy,q⟩
theorem nD:OpR X (eW .Gt) (rGB (gx X) gGt):=by
 intro π s σ H x y v u Q I rx ry h;obtain⟨O,d,e,r,m,hx,hy,hr,q⟩:=h
 match d,e,hr with
 | .int i,.int j,hr=>cases hr;exact acX π s σ H x y v u Q I rx ry ⟨i,j,bR hx,bR hy,q⟩
theorem TQ:OpR X (eW .GtE) (rGB (gx X) gGe):=by
 intro π s σ H x y v u Q I rx ry h;obtain⟨O,d,e,r,m,hx,hy,hr,q⟩:=h
 match d,e,hr with
 | .int i,.int j,hr=>cases hr;exact acn π s σ H x y v u Q I rx ry ⟨i,j,bR hx,bR hy,q⟩
end
section
variable {X:Cx}{E:XK}{e a b:Expr}{es:List Expr}{f fa:Zae}{fs:Zad}{pos p:Pos}
noncomputable def gIx:D->D->Option D
 | .lst ds,.int i=>atI ds i
 | .tup ds,.int i=>atI ds i
 | .str z,.int i=>if z.length<=ay then(atI z.cps.toList i).map λc=>.str ⟨#[c]⟩ else none
 |_,_=>none
theorem Ml {G:Gx}{O:Zaa}{H:Hp}{xs:List V}{ds:List D}{i:Int}{d:D}(h:DVs G O H xs ds)(e:atI ds i=some d):∃x,atI xs i=some x/\DV G O H x d:=by
 unfold atI at e ⊢;rw[cu h];cases q:ixN ds.length i with
 |none=>rw[q] at e;cases e
 |some j=>rw[q] at e;exact Br h e
theorem Bs:IxR X (rG (gx X) gIx):=by
 intro value slice π s σ H x y v u Q I rx ry h hs;obtain⟨O,d,e,r,m,hx,hy,hr,q⟩:=h
 match d,e,hr with
 | .lst ds,.int i,hr=>
  cases bR hy;obtain⟨p,xs,rfl,hp,hd⟩:=iw hx;obtain⟨z,hz,dz⟩:=Ml hd hr;exact Wl value slice π s σ H _ _ v u Q I rx ry ⟨p,xs,i,z,rfl,rfl,hp,hz,q _ _ (aN.refl _) dz⟩ hs
 | .tup ds,.int i,hr=>
  cases bR hy;obtain⟨p,xs,rfl,hp,hd⟩:=yH hx;obtain⟨z,hz,dz⟩:=Ml hd hr;exact aaz value slice π s σ H _ _ v u Q I rx ry ⟨p,xs,i,z,rfl,rfl,hp,hz,q _ _ (aN.refl _) dz⟩ hs
 | .str z,.int i,hr=>
  cases bR hy;cases jx hx;have hr':(if z.length<=ay then(atI z.cps.toList i).map λc=>D.str ⟨#[c]⟩ else none)=some r:=hr;by_cases hz:z.length<=ay
  ·rw[if_pos hz] at hr';obtain⟨c,hc,rfl⟩:=omap hr';exact aaJ value slice π s σ H _ _ v u Q I rx ry ⟨z,i,c,rfl,rfl,hz,hc,q _ _ (aN.refl _)<|.str _⟩ hs
  ·rw[if_neg hz] at hr';cases hr'
def tO (G:Gx)(E:XK)(f:Me->Res (Option Int)):TO:=λσ H Q=>∃O0 M0 H0 ow m,Rel G O0 M0 H0 ow σ H m/\Pu G E (f m) H λo=>∀H',aN H H'->Q o H'
abbrev FO (X:Cx)(E:XK)(e:Option Expr)(f:Me->Res (Option Int)):Prop:=PO X e<|tO (gx X) E f
theorem LC {e:Option Expr}{T T':TO}(h:PO X e T)(k:∀σ H Q,T' σ H Q->T σ H Q):PO X e T':=λπ s σ H Q I q=>h π s σ H Q I<|k σ H Q q
noncomputable def fO0:Me->Res (Option Int):=λ_=>.ok none
noncomputable def fO1 (f:Zae):Me->Res (Option Int):=λm=>(f m).bind λd=>match d with
 | .int i=>.ok<|some i
 |_=>.stuck
theorem xn:FO X E none fO0:=LC WR λσ H Q hE=>xq5 hE λO0 M0 H0 ow m R q=>q H<|aN.refl _
theorem xX (h:FB X E e f):FO X E (some e) (fO1 f):=LC (V3 h) λσ H Q hE=>xq5 hE λO0 M0 H0 ow m R q=>⟨O0,M0,H0,ow,m,R,q.bind.imp (aN.refl _) λd q v H' g hv=>by
 cases d with
 |int i=>cases bR hv;exact⟨i,rfl,q H' g⟩
 |_=>exact q.elim⟩
def cut {α:Type}(xs:List α)(lo hi:Option Int):List α:=(xs.drop<|HT.sIx xs.length 0 lo).take<|HT.sIx xs.length xs.length hi-HT.sIx xs.length 0 lo
def gSl:D->Option Int->Option Int->Option D
 | .lst ds,lo,hi=>some<|.lst<|cut ds lo hi
 | .tup ds,lo,hi=>if HT.sIx ds.length 0 lo=0/\HT.sIx ds.length ds.length hi=ds.length then none else some (.tup<|cut ds lo hi)
 | .str z,lo,hi=>if z.length<=ay then some (.str<|l3 z lo hi) else none
 |_,_,_=>none
def rSl (G:Gx):V->Option Int->Option Int->Hp->VK->Prop:=λx lo hi H Q=>∃O d r,(∀b,O b->jw (H b))/\DW G O H x d/\gSl d lo hi=some r/\∀v H',aN H H'->DV G O H' v r->Q v H'
noncomputable def adF:D->Option Int->Option Int->Option D
 | .lst ds,lo,hi=>some<|.lst<|cut ds lo hi
 |_,_,_=>none
def adR (G:Gx):V->Option Int->Option Int->Hp->VK->Prop:=λx lo hi H Q=>∃O d r,(∀b,O b->jw (H b))/\DW G O H x d/\adF d lo hi=some r/\∀p H',aN H H'->H p=none->OV G (Op O p) H' p r->Q (.ref p) H'
theorem Mi {G:Gx}{O:Zaa}{H:Hp}{xs:List V}{ds:List D}{lo hi:Option Int}(h:DVs G O H xs ds):DVs G O H (Ih xs lo hi) (cut ds lo hi):=by
 unfold Ih cut;rw[cu h];exact Cu _<|Jl _ h
theorem ace:SlR X (adR<|gx X):=by
 intro π s σ H x v vl vu lo hi sl Q I rx hs pl pu h;obtain⟨O,d,r,m,hx,hr,q⟩:=h
 match d,hr with
 | .lst ds,hr=>
  cases hr;obtain⟨p,xs,rfl,hp,hd⟩:=iw hx;exact Vw π s σ H _ v vl vu lo hi sl Q I rx hs pl pu ⟨p,xs,rfl,hp,λp hp'=>q p _ (bO hp' _) hp' ⟨_,bu,((Mi hd).cX λb z=>z.elim .inl λe=>.inr (by rw[e];exact hp')).mono<|bO hp' _⟩⟩
theorem SN {u:av}{o:Option Int}(h:AW u o):∃l:Option (Int×Tok),u=partValue l/\l.map (·.1)=o:=by
 cases h with
 |none=>exact⟨none,rfl,rfl⟩
 |int i t=>exact⟨some (i,t),rfl,rfl⟩
theorem adP:SlR X (rSl<|gx X):=by
 intro π s σ H x v vl vu lo hi sl Q I rx hs pl pu h;obtain⟨O,d,r,m,hx,hr,q⟩:=h
 match d,hr with
 | .lst ds,hr=>exact ace π s σ H x v vl vu lo hi sl Q I rx hs pl pu ⟨O,.lst ds,r,m,hx,hr,Ln m q⟩
 | .tup ds,hr=>
  obtain⟨p,xs,rfl,hp,hd⟩:=yH hx;have hr':(if HT.sIx ds.length 0 lo=0/\HT.sIx ds.length ds.length hi=ds.length then none else some (D.tup<|cut ds lo hi))=some r:=hr;by_cases z:HT.sIx ds.length 0 lo=0/\HT.sIx ds.length ds.length hi=ds.length
  ·rw[if_pos z] at hr';cases hr'
  ·rw[if_neg z] at hr';cases hr';exact aap π s σ H _ v vl vu lo hi sl Q I rx hs pl pu ⟨p,xs,rfl,hp,by rw[cu hd];exact z,λp hp'=>q _ _ (bO hp' _)<|.tup (SqU.of bu)<|(Mi hd).mono<|bO hp' _⟩
 | .str z,hr=>
  cases jx hx;obtain⟨t,rfl⟩:=rx;obtain⟨hz,rfl⟩:=oif hr;obtain⟨l,rfl,rfl⟩:=SN pl;obtain⟨u,rfl,rfl⟩:=SN pu;refine⟨"str",_,PySem.F.slot_str_getitem.lookup,si _ _ _,wpAny_getItem_str_slice (l:=l) (u:=u) (st:=none) hs rfl<|post_val_or_str ⟨cy (A1 z _ _) hz,λt' k=>NK (tk:=k) I q⟩⟩
def fSl (f:Zae)(lo hi:Me->Res (Option Int)):Zae:=λm=>(f m).bind λd=>(lo m).bind λl=>(hi m).bind λu=>ofO<|gSl d l u
variable {lo hi:Option Expr}{fl fh:Me->Res (Option Int)}{p2:Pos}
theorem uT (he:FB X E e f)(hl:FO X E lo fl)(hu:FO X E hi fh):FE X E (.Subscript e (.Slice lo hi none p2) pos) (fSl f fl fh):=
 bN (Rb adP he hl hu) λσ H Q hE=>xq5 hE λO0 M0 H0 ow m R q=>⟨O0,M0,H0,ow,m,R,q.bind.imp (aN.refl _) λd q v H1 g1 hv=>⟨O0,M0,H0,ow,m,R.mono g1,q.bind.imp g1 λl q H2 g2=>⟨O0,M0,H0,ow,m,R.mono<|g1.trans g2,q.bind.imp (g1.trans g2) λu q H3 g3=>by
  obtain⟨r,hr,k⟩:=q.ofO;exact⟨_,d,r,(R.mono<|(g1.trans g2).trans g3).mutk,hv.mono<|g2.trans g3,hr,λv H' g d=>k v H' (((g1.trans g2).trans g3).trans g) d⟩⟩⟩⟩
noncomputable def dI:List D->Option D
 |[.lst ds]=>some<|.int ds.length
 |[.tup ds]=>some<|.int ds.length
 |[.str z]=>if z.length<=ay then some (.int z.length) else none
 |[.dct ks _]=>some<|.int ks.length
 |_=>none
theorem tu {G:Gx}{O:Zaa}{H:Hp}{vs:List V}{d:D}(h:DWs G O H vs [d]):∃v,vs=[v]/\DW G O H v d:=by
 cases h with
 |cons a t=>cases t;exact⟨_,rfl,a⟩
theorem QS:fX X (.builtin "len") (λxs H Q=>∃a ι,xs=[V.ref a]/\Rd H a (.dK ι)/\Q (.int ι.length) H):=by
 intro π s σ H xs us Q I r h;obtain⟨a,ι,rfl,e,q⟩:=h;obtain⟨u,rfl,rx⟩:=vals1 r;cases rx;exact acr I e λt s' I'=>⟨.int ι.length,H,I',⟨t,rfl⟩,q⟩
theorem cL:fX X (.builtin "len") (rGC (gx X) dI):=by
 intro π s σ H xs us Q I r h;obtain⟨O,ds,d,m,hx,hr,q⟩:=h
 match ds,hr with
 |[.lst ds],hr=>
  cases hr;obtain⟨v,rfl,hv⟩:=tu hx;obtain⟨p,xs,rfl,hp,hd⟩:=iw hv;exact xV π s σ H _ us Q I r ⟨p,xs,rfl,.inl hp,by rw[cu hd];exact q _ _ (aN.refl _)<|.int _⟩
 |[.tup ds],hr=>
  cases hr;obtain⟨v,rfl,hv⟩:=tu hx;obtain⟨p,xs,rfl,hp,hd⟩:=yH hv;exact xV π s σ H _ us Q I r ⟨p,xs,rfl,.inr hp,by rw[cu hd];exact q _ _ (aN.refl _)<|.int _⟩
 |[.str z],hr=>
  obtain⟨hz,rfl⟩:=oif hr;obtain⟨v,rfl,hv⟩:=tu hx;cases jx hv;exact G9 π s σ H _ us Q I r ⟨z,rfl,hz,q _ _ (aN.refl _)<|.int _⟩
 |[.dct ks vs],hr=>
  cases hr;obtain⟨v,rfl,hv⟩:=tu hx;obtain⟨p,ι,ws,rfl,hp,e1,e2,hd⟩:=Vi hv;exact QS π s σ H _ us Q I r ⟨p,ι,rfl,hp,by rw[show ι.length=ks.length by rw[← e1,dE]];exact q _ _ (aN.refl _)<|.int _⟩
noncomputable def yF:List D->Option D
 |[.int i]=>some<|.int<|if i<0 then -i else i
 |_=>none
theorem rF:fX X (.builtin "abs") (rGC (gx X) yF):=by
 intro π s σ H xs us Q I r h;obtain⟨O,ds,d,m,hx,hr,q⟩:=h
 match ds,hr with
 |[.int i],hr=>
  cases hr;obtain⟨v,rfl,hv⟩:=tu hx;cases bR hv;exact Ul π s σ H _ us Q I r ⟨i,rfl,q _ _ (aN.refl _)<|.int _⟩
def aaW:List D->Option D
 |[.int i]=>if i.natAbs.log2<1920 then some (.str (toString i:String)) else none
 |_=>none
theorem Qi:fX X (.type "str") (rGC (gx X) aaW):=by
 intro π s σ H xs us Q I r h;obtain⟨O,ds,d,m,hx,hr,q⟩:=h
 match ds,hr with
 |[.int i],hr=>
  obtain⟨hz,rfl⟩:=oif hr;obtain⟨v,rfl,hv⟩:=tu hx;cases bR hv;exact G7 π s σ H _ us Q I r ⟨i,rfl,hz,q _ _ (aN.refl _)<|.str _⟩
noncomputable def jU:List D->Option D
 |[.lst ds]=>some<|.tup ds
 |[.tup ds]=>some<|.tup ds
 |_=>none
theorem j7:fX X (.type "tuple") (rGC (gx X) jU):=by
 intro π s σ H xs us Q I r h;obtain⟨O,ds,d,m,hx,hr,q⟩:=h
 match ds,hr with
 |[.lst ds],hr=>
  cases hr;obtain⟨v,rfl,hv⟩:=tu hx;obtain⟨p,xs,rfl,hp,hd⟩:=iw hv;exact vR π s σ H _ us Q I r ⟨p,xs,rfl,.inl ⟨hp,λl hl=>q _ _ (bO hl _)<|.tup (SqU.of bu)<|hd.mono<|bO hl _⟩⟩
 |[.tup ds],hr=>
  cases hr;obtain⟨v,rfl,hv⟩:=tu hx;obtain⟨p,xs,rfl,hp,hd⟩:=zU hv;exact vR π s σ H _ us Q I r ⟨p,xs,rfl,.inr ⟨hp.sq,q _ _ (aN.refl _)<|.tup hp hd⟩⟩
noncomputable def MK:List D->Option D
 |[.lst ds]=>some<|.lst ds
 |[.tup ds]=>some<|.lst ds
 |_=>none
theorem Kg:fX X (.type "list") (ZZ (gx X) MK):=by
 intro π s σ H xs us Q I r h;obtain⟨O,ds,d,m,hx,hr,q⟩:=h;have go:∀{p:Addr} {ys:List V} {ds:List D},(SqL X.K H p ys\/SqT X.K H p ys)->DVs (gx X) O H ys ds->(∀p H',aN H H'->H p=none->OV (gx X) (Op O p) H' p (.lst ds)->Q (.ref p) H')->Vals [V.ref p] us->bg (b9 X.prog X.w) X.A (call (.type "list") us) (EP X π σ Q) X.xe s:=
  λhp hd q r=>Fq π s σ H _ us Q I r ⟨_,_,rfl,hp,λl hl=>q _ _ (bO hl _) hl ⟨_,bu,(hd.cX λb z=>z.elim .inl λe=>.inr (by rw[e];exact hl)).mono<|bO hl _⟩⟩
 match ds,hr with
 |[.lst ds],hr=>
  cases hr;obtain⟨v,rfl,hv⟩:=tu hx;obtain⟨p,xs,rfl,hp,hd⟩:=iw hv;exact go (.inl hp) hd q r
 |[.tup ds],hr=>
  cases hr;obtain⟨v,rfl,hv⟩:=tu hx;obtain⟨p,xs,rfl,hp,hd⟩:=yH hv;exact go (.inr hp) hd q r
noncomputable def lK:D->String
 | .non=>"NoneType"
 | .bl _=>"bool"
 | .int _=>"int"
 | .str _=>"str"
 | .tup _=>"tuple"
 | .lst _=>"list"
 | .dct _ _=>"dict"
 | .dcu _ _=>"dict"
 | .exc _ _ _=>""
 | .dcf _ _=>""
 | .adr _=>""
 | .ins _ _ _=>""
noncomputable def Qg (t T:String):Bool:=t==T||(t=="bool" && T=="int")
noncomputable def kinds:List String:=["NoneType", "bool", "int", "str", "tuple", "list", "dict"]
theorem Xr {K:bb}{t:String}:bt K (.type t) (.type t)=some true:=by unfold bt;rw[if_pos<|by simp]
theorem WQ {K:bb}:∀t∈kinds,∀T∈kinds,bt K (.type t) (.type T)=some (Qg t T):=by
 intro t ht T hT;simp only[kinds,bq,List.not_mem_nil,or_false] at ht hT;rcases ht with rfl|rfl|rfl|rfl|rfl|rfl|rfl<;>rcases hT with rfl|rfl|rfl|rfl|rfl|rfl|rfl<;>first|exact Xr|kernel_rfl
theorem Rq {G:Gx}{O:Zaa}{H:Hp}{v:V}{d:D}(h:DW G O H v d)(n:lK d≠""):lK d∈kinds/\TyK G.K H v (.type<|lK d):=by
 have z:=h.any;cases z with
 |non=>exact⟨by simp[lK,kinds],.of .non⟩
 |bl b=>exact⟨by simp[lK,kinds],.of<|.bl b⟩
 |int b=>exact⟨by simp[lK,kinds],.of<|.int b⟩
 |str b=>exact⟨by simp[lK,kinds],.of<|.str b⟩
 |exc _ _=>exact absurd rfl n
 |dcf _ _ _ _=>exact absurd rfl n
 |adr _=>exact absurd rfl n
 |ins _ _ _ _ _ _=>exact absurd rfl n
 |tup hq _=>exact⟨by simp[lK,kinds],.tup hq.sq⟩
 |lst hq _=>exact⟨by simp[lK,kinds],.lst hq.sq⟩
 |dct _ e _ _ _=>exact⟨by simp[lK,kinds],.of<|.dK e⟩
 |dcu _ e _ _ _=>exact⟨by simp[lK,kinds],.of<|.dT e⟩
def uF (T:String)(f:Zae):Zae:=λm=>(f m).bind λd=>if lK d = "" then .stuck else .ok (.bl<|Qg (lK d) T)
theorem o8 {x y:Str}{py:Pos}{T:String}(ha:FB X E a fa)(hg:Gl X "isinstance")(hm:X.mg "isinstance" = none)(hv:b0 "isinstance" = some (.builtin "isinstance"))(hgy:Gl X y)(hmy:X.mg y=none)(hvy:b0 y=some (.type T))(hT:T∈kinds:=by decide)
  (hny:y≠"__name__":=by decide) (hdy:(y==("__debug__":Str))=false:=by decide)
  (he:ag [a,.Name y py] X.env=(false,eval a X.env)::ag [.Name y py] X.env:=by rfl) (he2:ag [.Name y py] X.env=(false,eval (.Name y py) X.env)::ag [] X.env:=by rfl) (ξ:(ia pos<|ag [.Name y py] X.env).any (·.1)=false:=by rfl):
  FE X E (.Call (.Name "isinstance" p) [a,.Name y py] [] pos) (uF T fa):=
 bN (uY Pa hg hm hv (ig ha (ig (Ni (v:=.ty T) hgy hmy hvy rfl hny hdy) pJ he2) he) (by decide) (by decide) he ξ) λσ H Q hE=>xq5 hE λO0 M0 H0 ow m R q=>⟨O0,M0,H0,ow,m,R,q.bind.imp (aN.refl _) λd q v H' g hv=>by
  by_cases n:lK d = ""
  ·rw[if_pos n] at q;exact q.elim
  ·rw[if_neg n] at q;obtain⟨k1,k2⟩:=Rq hv n;exact⟨v,.ty T,_,_,_,rfl,rfl,k2,WQ _ k1 T hT,q _ _ g<|.bl _⟩⟩
end
section
theorem gH.chg (R:gH G O0 M0 H0 ow σ H m)(ho:ow i=some a)(g:Kp (· = a) H H')(h:OV G (Ow O0 ow) H' a d')
  (hs:(m[i]? = some (.ow d)/\s'=.ow d')\/(m[i]? = some (.io d)/\s'=.io d')):gH G O0 M0 H0 ow σ H' (m.set i s'):=by
 have oa:Ow O0 ow a:=.inr ⟨i,ho⟩;have kp:Kp (Ow O0 ow) H H':=λb u e n=>g b u e λz=>n<|z▸oa;have hi:i<m.length:=by rcases hs with⟨e,_⟩|⟨e,_⟩<;>exact Gv e
 have ne:∀b o,H b=some o->b≠a->H' b=H b:=λb o e n=>by rw[e];exact g b o e n
 refine⟨⟨by simp[R.len],λb u e n=>?_,λb z=>?_,λb z=>?_,R.no0,R.inj,λj hj=>R.out j (by simpa using hj),λj s e=>?_⟩,Bk R.nb λ_ z=>by rcases hs with⟨_,w⟩|⟨_,w⟩<;>(rw[w] at z;cases z)⟩
 ·refine g b u (R.keep b u e n) λz=>?_;subst z;rcases hs with⟨q,_⟩|⟨q,_⟩
  ·obtain⟨a',e1,e2,_⟩:=R.slot i _ q;rw[ho] at e1;cases e1;rw[e2] at e;cases e
  ·obtain⟨a',e1,e2,_⟩:=R.slot i _ q;rw[ho] at e1;cases e1;exact n e2
 ·by_cases q:b=a
  ·rw[q]
   have:=h.mut
   intro w;rw[w] at this;rcases this with⟨_,e⟩|⟨_,e⟩|⟨_,e⟩|⟨_,e⟩<;>cases e
  ·cases w:H b with
   |none=>exact absurd w (R.m0 b z)
   |some o=>rw[g b o w q];simp
 ·by_cases q:b=a
  ·rw[q];exact h.mut
  ·have:=R.mutk b z
   rcases this with⟨_,e⟩|⟨_,e⟩|⟨_,e⟩|⟨_,e⟩
   ·rw[ne b _ e q];exact .inl ⟨_,e⟩
   ·rw[ne b _ e q];exact .inr<|.inl ⟨_,e⟩
   ·rw[ne b _ e q];exact .inr<|.inr<|.inl ⟨_,e⟩
   ·rw[ne b _ e q];exact .inr<|.inr<|.inr ⟨_,e⟩
 ·by_cases q:j=i
  ·subst q;rw[dn hi] at e;cases e;rcases hs with⟨q,rfl⟩|⟨q,rfl⟩
   ·refine Ay (R.slot j _ q) λa' e1 e2 e3 _=>?_;rw[ho] at e1;cases e1;exact⟨a,ho,e2,e3,h⟩
   ·refine Ay (R.slot j _ q) λa' e1 e2 e3 _=>?_;rw[ho] at e1;cases e1;exact⟨a,ho,e2,e3,h⟩
  ·rw[dr<|iP q] at e;have z:=R.slot j s e;have other:∀{b:Addr} {d:D},ow j=some b->OV G (Ow O0 ow) H b d->OV G (Ow O0 ow) H' b d:=λ{b d} e1 h1=>by
    have nb:b≠a:=λw=>q<|R.inj j i b e1<|w▸ho;rcases h1.mut with⟨_,e⟩|⟨_,e⟩|⟨_,e⟩|⟨_,e⟩<;>exact h1.kp R.mutk kp (ne b _ e nb)
   cases s with
   |un=>exact z
   |fz d=>obtain⟨b,x,e,q⟩:=z;exact⟨b,x,e,q.kp R.mutk kp⟩
   |ow d=>obtain⟨b,x,e,f,q'⟩:=z;exact⟨b,x,e,f,other x q'⟩
   |io d=>obtain⟨b,x,e,f,q'⟩:=z;exact⟨b,x,e,f,other x q'⟩
   |bw d=>exact(R.nb j d e).elim
   |hd w b d=>obtain⟨x,e,f,q'⟩:=z;exact⟨x,e,f,other x q'⟩
theorem Go.chg (ho:ow i=some a)(g:Kp (· = a) H H')(h:OV G (Ow O0 ow) H' a d):Go O0 ow H ow H':=
 ⟨λb u e n=>g b u e λz=>n<|z▸.inr ⟨i,ho⟩,λj b e=>.inl<|.inr ⟨j,e⟩,λb n=>by
  by_cases q:b=a
  ·rw[q]
   have:=h.mut
   intro w;rw[w] at this;rcases this with⟨_,e⟩|⟨_,e⟩|⟨_,e⟩|⟨_,e⟩<;>cases e
  ·cases w:H b with
   |none=>exact absurd w n
   |some o=>rw[g b o w q];simp⟩
theorem yx:Kp (· = a) H (L2.upd H a o):=λb u e n=>by rw[L2.bD n];exact e
noncomputable def rN (m:Me)(i:Nat):Option (Bool×List D):=match m[i]? with
 |some (.ow<|.lst ds)=>some (true,ds)
 |some (.io<|.lst ds)=>some (false,ds)
 |_=>none
noncomputable def putL (m:Me)(i:Nat)(k:Bool)(ds:List D):Me:=m.set i<|if k then .ow (.lst ds) else .io (.lst ds)
theorem xT (R:Rel G O0 M0 H0 ow σ H m){i:Nat}{k:Bool}{ds:List D}(e:rN m i=some (k,ds)):∃a xs,ow i=some a/\σ[i]? = some (some<|.ref a)/\H a=some (.lst xs)/\DVs G (Ow O0 ow) H xs ds/\((m[i]? = some (.ow<|.lst ds)/\k=true)\/(m[i]? = some (.io<|.lst ds)/\k=false)):=by
 unfold rN at e;split at e
 ·rename_i q;cases e;obtain⟨a,e1,e2,e3,xs,e4,e5⟩:=R.slot i _ q;exact⟨a,xs,e1,e3,e4,e5,.inl ⟨q,rfl⟩⟩
 ·rename_i q;cases e;obtain⟨a,e1,e2,e3,xs,e4,e5⟩:=R.slot i _ q;exact⟨a,xs,e1,e3,e4,e5,.inr ⟨q,rfl⟩⟩
 ·cases e
theorem gH.put (R:gH G O0 M0 H0 ow σ H m)(ho:ow i=some a)(hm:(m[i]? = some (.ow<|.lst ds)/\k=true)\/(m[i]? = some (.io<|.lst ds)/\k=false))(hd:DVs G (Ow O0 ow) H ys es):
  gH G O0 M0 H0 ow σ (L2.upd H a<|.lst ys) (putL m i k es)/\Go O0 ow H ow (L2.upd H a<|.lst ys):=by
 have oa:Ow O0 ow a:=.inr ⟨i,ho⟩;have kp:Kp (Ow O0 ow) H (L2.upd H a<|.lst ys):=λb u e n=>yx b u e λz=>n<|z▸oa;have ov:OV G (Ow O0 ow) (L2.upd H a<|.lst ys) a (.lst es):=⟨ys,L2.bu,hd.kp R.mutk kp⟩;refine⟨R.chg (d:=.lst ds) (d':=.lst es) ho yx ov ?_,Go.chg ho yx ov⟩;rcases hm with⟨e,rfl⟩|⟨e,rfl⟩
 ·exact .inl ⟨e,rfl⟩
 ·exact .inr ⟨e,rfl⟩
end
section
def dq (i:Nat)(f:Zae):Zab:=λm=>(ofO<|rN m i).bind λo=>(f m).bind λd=>if o.2.length<ay then .ok (.nx,putL m i o.1<|o.2++[d]) else .stuck
theorem jr (i:Nat)(he:FE X E e f)(hN:X.N[i]? = some x:=by rfl)(hv:Vis X.env.scope x:=by first|exact d4 rfl|exact fA (d4 rfl)|exact fA (fA rfl))(hd:(x==("__debug__":Str))=false:=by decide)(hcd:(x==("__classdict__":Str))=false:=by decide)
  (ζ:h8 (.Name x np) "append" X.env (eval (.Name x np) X.env)=eval (.Name x np) X.env:=by rfl)
  (θ:((ia ρ<|ag [e] X.env).all (λx=>!x.1)&&(A6 ρ<|sN [] X.env).all (λx=>x.1.isSome)&&decide ([e].length+([]:List sP).length+(if([]:List sP).isEmpty then 0 else 1)<30))=true:=by rfl)
  (ν:(apos.endLine==ρ.line)=true:=by rfl) (hs:ag [e] X.env=(false,eval e X.env)::ag [] X.env:=by rfl) (hplain:(ia ρ<|ag [] X.env).any (·.1)=false:=by rfl)
  (υ:fR (.Call (.Attribute (.Name x np) "append" apos) [e] [] ρ) none pos.line X.env=pure false:=by rfl):
  FS X E (.Expr (.Call (.Attribute (.Name x np) "append" apos) [e] [] ρ) pos) (dq i f):=
 cU (Ag (Uz kF PySem.F.slot_list_append PySem.F.type_list_append DP (je hN hv hd hcd) (ig he pJ hs) ζ θ ν hs hplain) υ) λW σ H hE=>xq5 hE λO0 M0 H0 ow m R q=>by
  obtain⟨o,ho,q⟩:=Ss.ofO q;obtain⟨k,ds⟩:=o;refine zF (xT R.toRel ho) λa xs e1 e2 e3 e4 e5=>?_;refine⟨_,e2,.inl ⟨rfl,xs,SqL.of e3⟩,O0,M0,H0,ow,m,R.toRel,(Ss.pu R.toRel q).imp (aN.refl _) λd q v H1 g1 hv=>?_⟩;have R1:=R.mono g1;by_cases hz:ds.length<ay
  ·rw[if_pos hz] at q;obtain⟨R2,g2⟩:=R1.put (es:=ds++[d]) (ys:=xs++[v]) e1 e5<|lD (e4.mono g1)<|.cons hv .nil;exact⟨a,xs,v,rfl,rfl,g1 _ _ e3,by rw[cu e4];exact hz,q _ _ _ R2<|(Go.refl g1).trans g2⟩
  ·rw[if_neg hz] at q;exact q.elim
def FJ (i:Nat)(f:Zae):Zab:=λm=>(ofO<|rN m i).bind λo=>(f m).bind λd=>match d with
 | .lst es=>if o.2.length+es.length<=ay then .ok (.nx,putL m i o.1<|o.2++es) else .stuck
 |_=>.stuck
theorem Pr (i:Nat)(he:FN X E e f)(hN:X.N[i]? = some x:=by rfl)(hv:Vis X.env.scope x:=by first|exact d4 rfl|exact fA (d4 rfl)|exact fA (fA rfl))(hd:(x==("__debug__":Str))=false:=by decide)(hcd:(x==("__classdict__":Str))=false:=by decide)
  (ζ:h8 (.Name x np) "extend" X.env (eval (.Name x np) X.env)=eval (.Name x np) X.env:=by rfl)
  (θ:((ia ρ<|ag [e] X.env).all (λx=>!x.1)&&(A6 ρ<|sN [] X.env).all (λx=>x.1.isSome)&&decide ([e].length+([]:List sP).length+(if([]:List sP).isEmpty then 0 else 1)<30))=true:=by rfl)
  (ν:(apos.endLine==ρ.line)=true:=by rfl) (hs:ag [e] X.env=(false,eval e X.env)::ag [] X.env:=by rfl) (hplain:(ia ρ<|ag [] X.env).any (·.1)=false:=by rfl)
  (υ:fR (.Call (.Attribute (.Name x np) "extend" apos) [e] [] ρ) none pos.line X.env=pure false:=by rfl):
  FS X E (.Expr (.Call (.Attribute (.Name x np) "extend" apos) [e] [] ρ) pos) (FJ i f):=
 cU (Ag (Uz kF PySem.F.slot_list_extend PySem.F.type_list_extend QR (je hN hv hd hcd) (ig he pJ hs) ζ θ ν hs hplain) υ) λW σ H hE=>xq5 hE λO0 M0 H0 ow m R q=>by
  obtain⟨o,ho,q⟩:=Ss.ofO q;obtain⟨k,ds⟩:=o;refine zF (xT R.toRel ho) λa xs e1 e2 e3 e4 e5=>?_;refine⟨_,e2,.inl ⟨rfl,xs,SqL.of e3⟩,O0,M0,H0,ow,m,R.toRel,(Ss.pu R.toRel q).imp (aN.refl _) λd q p H1 g1 n hv=>?_⟩;have R1:=R.mono g1;cases d with
  |lst es=>
   have q:Ss (gx X) E O0 M0 H0 ow H W (if ds.length+es.length<=ay then .ok (.nx,putL m i k<|ds++es) else .stuck):=q;obtain⟨zs,h1,h2⟩:=hv;by_cases hz:ds.length+es.length<=ay
   ·rw[if_pos hz] at q;have h2':DVs (gx X) (Ow O0 ow) H1 zs es:=h2.cX λb z=>.inl<|.inl z;obtain⟨R2,g2⟩:=R1.put (es:=ds++es) (ys:=xs++zs) e1 e5<|lD (e4.mono g1) h2';exact⟨a,p,xs,zs,rfl,rfl,g1 _ _ e3,h1,by rw[cu e4,cu h2];exact hz,q _ _ _ R2<|(Go.refl g1).trans g2⟩
   ·rw[if_neg hz] at q;exact q.elim
  |_=>exact q.elim
def Ga (j i:Nat):Zab:=λm=>(ofO<|rN m i).bind λo=>(ofO<|o.2[o.2.length-1]?).bind λd=>.ok (.nx,(putL m i o.1 o.2.dropLast).set j<|.fz d)
theorem wW (h:DVs G O H xs ds):DVs G O H xs.dropLast ds.dropLast:=by
 rw[w8,w8,cu h];exact Cu _ h
theorem Qf (j i:Nat)(hnd:X.N.Nodup)(hj:X.N[j]? = some y)(hy:Loc X.env.scope y)(hN:X.N[i]? = some x:=by rfl)(hv:Vis X.env.scope x:=by first|exact d4 rfl|exact fA (d4 rfl)|exact fA (fA rfl))(hd:(x==("__debug__":Str))=false:=by decide)(hcd:(x==("__classdict__":Str))=false:=by decide)
  (ζ:h8 (.Name x np) "pop" X.env (eval (.Name x np) X.env)=eval (.Name x np) X.env:=by rfl) (ν:(apos.endLine==ρ.line)=true:=by rfl) {yp:Pos}
  (υ:fR (.Call (.Attribute (.Name x np) "pop" apos) [] [] ρ) (some<|.Name y yp) pos.line X.env=pure false:=by rfl) (hf:X.fn y=true\/X.env.scope.names.lookup y=some .local:=by first|exact .inl rfl|exact .inr rfl|assumption):
  FS X E (.Assign [.Name y yp] (.Call (.Attribute (.Name x np) "pop" apos) [] [] ρ) pos) (Ga j i):=
 cU (Cr hnd hj hy (KZ kF w9 xa RX (je hN hv hd hcd) ζ ν) υ hf) λW σ H hE=>xq5 hE λO0 M0 H0 ow m R q=>by
  obtain⟨o,ho,q⟩:=Ss.ofO q;obtain⟨k,ds⟩:=o;obtain⟨d,hd',q⟩:=Ss.ofO q;refine zF (xT R.toRel ho) λa xs e1 e2 e3 e4 e5=>?_;obtain⟨v,hv,dv⟩:=Br e4 hd';obtain⟨R2,g2⟩:=R.put (es:=ds.dropLast) (ys:=xs.dropLast) e1 e5<|wW e4;have dv2:=dv.go R.mutk g2.ev;exact⟨_,e2,.inl ⟨rfl,xs,SqL.of e3⟩,a,xs,v,rfl,rfl,e3,by rw[cu e4];exact hv,q _ _ _ (R2.set dv2)<|g2.trans Go.set⟩
def Fz (i:Nat)(fk fv:Zae):Zab:=λm=>(fv m).bind λd=>(ofO<|rN m i).bind λo=>(fk m).bind λk=>match k with
 | .int n=>(ofO<|ixN o.2.length n).bind λj=>.ok (.nx,putL m i o.1<|o.2.set j d)
 |_=>.stuck
end
def Xs (G:Gx)(E:XK){α:Type}(O0 M0:Zaa)(H0:Hp)(ow:Os)(σ:L2.St)(H:Hp)(r:Res (α×Me))(k:α->Hp->Prop):Prop:=match r with
 | .ok (a,m')=>∀H',gH G O0 M0 H0 ow σ H' m'->Go O0 ow H ow H'->k a H'
 | .exc c=>∀C H',XP G H' c C->Kp M0 H0 H'->E (.ref C.1) C.2 H'
 | .stuck=>False
def tX (G:Gx)(E:XK)(f:Me->Res (D×Me)):TE:=λσ H Q=>∃O0 M0 H0 ow m,gH G O0 M0 H0 ow σ H m/\Xs G E O0 M0 H0 ow σ H (f m) λd H'=>∀v,DV G (Ow O0 ow) H' v d->Q v H'
abbrev FX (X:Cx)(E:XK)(e:Expr)(f:Me->Res (D×Me)):Prop:=PE X e<|tX (gx X) E f
section
variable {G:Gx}{E:XK}{O0 M0:Zaa}{H0 H H1:Hp}{ow:Os}{σ:L2.St}{m:Me}
theorem Xs.imp {α:Type}{r:Res (α×Me)}{k k':α->Hp->Prop}(h:Xs G E O0 M0 H0 ow σ H r k)(g:Go O0 ow H ow H1)(hk:∀a H' m',gH G O0 M0 H0 ow σ H' m'->Go O0 ow H1 ow H'->r=.ok (a,m')->k a H'->k' a H'):Xs G E O0 M0 H0 ow σ H1 r k':=by
 cases r with
 |ok a=>obtain⟨a,m'⟩:=a;exact λH' R g'=>hk a H' m' R g' rfl<|h H' R<|g.trans g'
 |exc c=>exact h
 |stuck=>exact h
theorem Xs.pu {α β:Type}{r:Res α}{f:α->Res (β×Me)}{k:β->Hp->Prop}(R:Rel G O0 M0 H0 ow σ H m)(h:Xs G E O0 M0 H0 ow σ H (r.bind f) k):Pu G E r H λa=>Xs G E O0 M0 H0 ow σ H (f a) k:=by
 cases r with
 |ok a=>exact h
 |exc c=>exact λC H' e g=>h C H' e λb o e n=>g b o<|R.keep b o e n
 |stuck=>exact h
end
section
variable {X:Cx}{E:XK}{e:Expr}{es:List Expr}{f:Zae}{fa:Me->Res (D×Me)}{fs:Me->Res (List D×Me)}{pos:Pos}{i:Nat}{x:Str}
noncomputable def wV (i:Nat)(f:Me->Res (D×Me)):Zab:=λm=>(f m).bind λp=>.ok (.nx,p.2.set i<|.fz p.1)
theorem Xs.ss {G:Gx}{O0 M0:Zaa}{H0 H:Hp}{ow:Os}{σ:L2.St}{W:Ends}{r:Res (D×Me)}{k:D->Zab}(h:Ss G E O0 M0 H0 ow H W (r.bind λp=>k p.1 p.2)):
  Xs G E O0 M0 H0 ow σ H r λd H'=>∀m',r=.ok (d,m')->gH G O0 M0 H0 ow σ H' m'->Ss G E O0 M0 H0 ow H' W (k d m'):=by
 cases r with
 |ok a=>
  obtain⟨d,m1⟩:=a;intro H' R g m' e R';cases e;exact Ss.go h g
 |exc c=>exact h
 |stuck=>exact h
theorem Nb {pos':Pos}(hN:X.N.Nodup)(hi:X.N[i]? = some x)(hx:Loc X.env.scope x)(he:FX X E e fa)(hs:fR e (some<|.Name x pos') pos.line X.env=pure false:=by rfl)
  (hf:X.fn x=true\/X.env.scope.names.lookup x=some .local:=by first|exact .inl rfl|exact .inr rfl|assumption):FS X E (.Assign [.Name x pos'] e pos) (wV i fa):=cU (Cr hN hi hx he hs hf) λW σ H hE=>xq5 hE λO0 M0 H0 ow m R q=>by
 refine⟨O0,M0,H0,ow,m,R,(Xs.ss (k:=λd m'=>.ok (.nx,m'.set i<|.fz d)) q).imp (Go.refl<|aN.refl _) λd H1 m1 R1 g1 e1 q v hv=>?_⟩;exact q m1 e1 R1 _ _ _ (R1.set hv) Go.set
end
section
variable {P:bo}{w:dc}{K:bb}{mg:Zp}{base:Heap}
end
section
end
section
variable {G:Gx}{O0 M0:Zaa}{H0 H H':Hp}{ow:Os}{σ:L2.St}{m:Me}{k:Nat}{cap:List Nat}
end
section
variable {X:Cx}{E:XK}{k:Nat}{cap:List Nat}{fi:Zad}{h:Zba}{fe:Me->Res (D×Me)}
theorem Yy {O0:Zaa}{ow:Os}{l b:Addr}(z:Ow (Op O0 l) ow b):Ow O0 ow b\/b=l:=z.elim (λy=>y.elim (λw=>.inl<|.inl w) .inr) λy=>.inl<|.inr y
end
def tM (G:Gx)(E:XK)(f:Me->Res Unit):TE:=λσ H Q=>∃O0 M0 H0 ow m,Rel G O0 M0 H0 ow σ H m/\Pu G E (f m) H λ_=>∀v H',aN H H'->Q v H'
abbrev FM (X:Cx)(E:XK)(e:Expr)(f:Me->Res Unit):Prop:=PE X e<|tM (gx X) E f
def fM (f:Zae):Me->Res Unit:=λm=>(f m).bind λ_=>.ok ()
def lr (c:Str)(f:Me->Res Unit):Zab:=λm=>(f m).bind λ_=>.exc (c,[],[])
section
variable {X:Cx}{E:XK}{e:Expr}{f:Zae}{fu:Me->Res Unit}{x:Str}{np ρ pos:Pos}{C:Addr}{bmB:List av}{B newId initId:String}
theorem Je (h:FE X E e f):FM X E e (fM f):=bN h λσ H Q hE=>xq5 hE λO0 M0 H0 ow m R q=>⟨O0,M0,H0,ow,m,R,q.bind.imp (aN.refl _) λd k v H' g _=>k v H' g⟩
theorem Uk (FB:wq B newId initId bmB)(hq:PySem.W.excIn X.K C bmB newId=true)(hg:Gl X x)(hm:X.mg x=some (.ref C))(hh:X.A.handled=none)(he:FM X E e fu)
  (hx:∀(π:Zl) (σ:L2.St) (H:Hp) (s:aS) (h':Heap) (ea:Addr) (vs:List av),Inv X π σ H s->rS s.heap h' ea (.ref C) vs->E (.ref C) none H->X.xe (.ref ea) { s with heap:=h' })
  (hd:(x==("__debug__":Str))=false:=by decide) (hs:ag [e] X.env=(false,eval e X.env)::ag [] X.env:=by rfl):
  FS X E (.Raise (some<|.Call (.Name x np) [e] [] ρ) none pos) (lr x fu):=cU (UW (W:=E) FB hq hg hm hh he hx hd hs) λW σ H hE=>xq5 hE λO0 M0 H0 ow m R q=>
 ⟨O0,M0,H0,ow,m,R.toRel,(Ss.pu R.toRel q).imp (aN.refl _) λ_ q v H' g=>⟨rfl,q (C,none) H' ⟨hm,[],[],.inl ⟨rfl,rfl⟩,rfl,rfl,λ_=>.nil⟩ λb o e n=>g b o<|R.keep b o e n⟩⟩
end
def tSx (G:Gx)(g:Zab):Ends->(L2.St->XK)->L2.St->Hp->Prop:=λW Ex σ H=>∃O0 M0 H0 ow m,gH G O0 M0 H0 ow σ H m/\match g m with
 | .exc c=>∀C H',XP G H' c C->aN H H'->Ex σ (.ref C.1) C.2 H'
 |r=>Ss G E0 O0 M0 H0 ow H W r
abbrev FSx (X:Cx)(st:List Stmt)(g:Zab):Prop:=PSx X st<|tSx (gx X) g
def Qo (i:Nat)(sub:Str->Bool)(b h:Zab):Zab:=λm=>match b m with
 | .exc c=>if sub c.1=true then match h (m.set i<|.fz<|.exc c.1 c.2.1 c.2.2) with
   | .ok (fl,m')=>.ok (fl,m'.set i .un)
   |_=>.stuck
  else .stuck
 |r=>r
theorem U9 {X:Cx}{st:List Stmt}{T T':Ends->(L2.St->XK)->L2.St->Hp->Prop}(h:PSx X st T)(k:∀W E σ H,T' W E σ H->T W E σ H):PSx X st T':=λπ s σ H W E I q=>h π s σ H W E I<|k W E σ H q
section
variable {X:Cx}{j k:Nat}{x y:Str}{ps:List Str}{Φ:Zac}{p pos ρ pos':Pos}{e:Expr}{es:List Expr}{fs:Zad}{i:Nat}
def Hx (i:Nat)(Φ:Zac)(fs:Zad):Zab:=λm=>match fs m with
 | .ok ds=>(Φ ds).bind λr=>.ok (.nx,m.set i<|.fz r.2)
 |_=>.stuck
theorem Vu (Fh:FF X.prog X.w X.K X.mg X.base k x ps Φ)(hr:gw j X.A)(hN:X.N.Nodup)(hi:X.N[i]? = some y)(hy:Loc X.env.scope y)(ha:FAE X.nox E0 (e::es) fs)(hk:k<=j:=by decide)(hg:Gl X x:=by rfl)(hdb:(x==("__debug__":Str))=false:=by decide)
  (he:ag (e::es) X.env=(false,eval e X.env)::ag es X.env:=by rfl) (ξ:(ia ρ<|ag es X.env).any (·.1)=false:=by rfl) (hs:fR (.Call (.Name x p) (e::es) [] ρ) (some<|.Name y pos') pos.line X.env=pure false:=by rfl)
  (hf:X.fn y=true\/X.env.scope.names.lookup y=some .local:=by first|exact .inl rfl|exact .inr rfl|assumption):
  FSx X [.Assign [.Name y pos'] (.Call (.Name x p) (e::es) [] ρ) pos] (Hx i Φ fs):=U9 (aaf hN hi hy (acE Fh hr ha hk hg hdb he ξ) hs hf) λW Ex σ H hE=>xq5 hE λO0 M0 H0 ow m R q=>by
 refine⟨O0,M0,H0,ow,m,R.toRel,?_⟩;unfold Hx at q;cases z:fs m with
 |exc c=>rw[z] at q;exact q.elim
 |stuck=>rw[z] at q;exact q.elim
 |ok ds=>
  rw[z] at q;intro vs H1 g1 hv;refine⟨Ow O0 ow,ds,(R.mono g1).mutk,hv,?_⟩;cases w:Φ ds with
  |exc c=>simp only[w] at q;exact λC H' e g=>q C H' e<|g1.trans g
  |stuck=>simp only[w] at q;exact q.elim
  |ok r=>simp only[w] at q;exact λv H' g hv' _=>q _ _ H' ((R.mono<|g1.trans g).set hv')<|(Go.refl<|g1.trans g).trans Go.set
theorem gH.unset {G:Gx}{O0 M0:Zaa}{H0 H:Hp}{ow:Os}{σ:L2.St}{m:Me}(i:Nat)(R:gH G O0 M0 H0 ow σ H m):gH G O0 M0 H0 (owS ow i none) (σ.set i none) H (m.set i .un):=by
 have sub:∀b,Ow O0 (owS ow i none) b->Ow O0 ow b\/H b=none:=λb z=>.inl z.sub;refine⟨⟨by simp[R.len],R.keep,R.m0,λb z=>R.mutk b z.sub,λj a e=>?_,λj k a e1 e2=>?_,λj hj=>?_,λj s e=>?_⟩,Bk R.nb λ_ z=>by cases z⟩
 ·by_cases q:j=i
  ·subst q;rw[iH] at e;cases e
  ·rw[gC q] at e;exact R.no0 j a e
 ·by_cases q:j=i
  ·subst q;rw[iH] at e1;cases e1
  ·by_cases q':k=i
   ·subst q';rw[iH] at e2;cases e2
   ·rw[gC q] at e1;rw[gC q'] at e2;exact R.inj j k a e1 e2
 ·by_cases q:j=i
  ·subst q;exact iH
  ·rw[gC q];exact R.out j<|by simpa using hj
 ·by_cases q:j=i
  ·subst q;have hj:j<m.length:=by simpa using Gv e
   rw[dn hj] at e;cases e;exact iH
  ·rw[dr<|iP q] at e;rw[gC q,dr<|iP q];exact(R.slot j s e).cX sub λ_ _ b _=>w4 _
def tSA (X:Cx)(g:Zab):TS:=λW σ H=>Hn X.A H/\tS (gx X) E0 g W σ H
theorem aaC {E:XK}{body suite:List Stmt}{b₀:Stmt}{n:Str}{np hpos:Pos}{DC:Addr}{gb gh:Zab}(sub:Str->Bool)
  (hst:X.stack=X.env::X.outer) (hfr:X.env.frame=some X.env.locals) (hb:FSx X body gb) (hN:X.N.Nodup) (hi:X.N[i]? = some n) (hn:X.env.scope.names.lookup n=some .local)
  (hg:Gl X x) (hm:X.mg x=some (.ref DC)) (hsub:∀c C,sub c=true->X.mg c=some (.ref C)->rf X.K (.ref C) (.ref DC)=some true) (hs:∀ea,PSs (inh X ea) (b₀::suite)<|tSA (inh X ea) gh) (hd:(x==("__debug__":Str))=false:=by decide):
  FS X E (.Try body [.ExceptHandler (some<|.Name x np) (some n) (b₀::suite) hpos] [] [] pos) (Qo i sub gb gh):=cU (aba (ts:=λea=>tSA (inh X ea) gh) hst hfr hb hN hi hn hg hm (λea=>hs ea) hd) λW σ H hE=>xq5 hE λO0 M0 H0 ow m R q=>by
 refine⟨O0,M0,H0,ow,m,R,?_⟩;unfold Qo at q;cases z:gb m with
 |ok a=>
  obtain⟨fl,m'⟩:=a;rw[z] at q;cases fl<;>exact q
 |stuck=>rw[z] at q;exact q.elim
 |exc c=>
  rw[z] at q;intro C H' hc g;by_cases hsc:sub c.1=true
  case neg=>simp only[if_neg hsc] at q;exact q.elim
  simp only[if_pos hsc] at q;obtain⟨hc,fs,vs,x1,x2,x3,x4⟩:=hc;refine⟨hsub c.1 C.1 hsc hc,λea ox hea o1 o2 o3=>?_⟩;have R':=R.mono g;have g2:aN H' (upd H' ea<|.frz ox<|.ext<|rO ea<|.ref C.1):=bO hea _;have R2:=(R'.mono g2).set (i:=i) (v:=.ref ea) (d:=.exc c.1 c.2.1 c.2.2)<|.exc hc bu (o2▸x1.imp id λ⟨d,q,z,y⟩=>⟨d,q,z,g2 _ _ y⟩) x2 x3<|(x4 _).mono g2;obtain⟨ws,o3,o4⟩:=o3;refine⟨⟨ea,ox,_,ws,rfl,bu,o3,o4⟩,O0,M0,H0,_,_,R2,?_⟩;have G2:Go O0 ow H (owS ow i none) (upd H' ea<|.frz ox<|.ext<|rO ea<|.ref C.1):=(Go.refl<|g.trans g2).trans Go.set;cases w:gh (m.set i<|.fz<|.exc c.1 c.2.1 c.2.2) with
  |exc c'=>rw[w] at q;exact q.elim
  |stuck=>rw[w] at q;exact q.elim
  |ok a=>
   obtain⟨fl,m'⟩:=a;rw[w] at q;cases fl with
   |nx=>exact λow' σ' H2 R3 g3=>q _ _ H2 (R3.unset i)<|(G2.trans g3).trans Go.set
   |bk=>exact λow' σ' H2 R3 g3=>q _ _ H2 (R3.unset i)<|(G2.trans g3).trans Go.set
   |ct=>exact λow' σ' H2 R3 g3=>q _ _ H2 (R3.unset i)<|(G2.trans g3).trans Go.set
   |rt fr d=>
    intro v ow' σ' H2 R3 g3 hv hf;refine q v _ _ H2 (R3.unset i) ((G2.trans g3).trans Go.set) (hv.cX λb z=>.inl z.sub) λz=>?_;rcases hf z with⟨p,e1,e2,e3⟩|t
    ·exact .inl ⟨p,e1,e2,e3.cX λb z=>.inl<|z.elim (λy=>.inl y.sub) .inr⟩
    ·exact .inr t
end
theorem Rel.more {G:Gx}{O0 M0:Zaa}{H0 H H1:Hp}{ow:Os}{σ:L2.St}{m:Me}{l:Addr}(R:Rel G O0 M0 H0 ow σ H m)(g:aN H H1)(hl:H l=none)(ho:jw (H1 l)):Rel G (Op O0 l) M0 H0 ow σ H1 m:=by
 have nl:=R.Tp hl;have sub':∀b,Ow (Op O0 l) ow b->Ow O0 ow b\/H b=none:=λb z=>(Yy z).elim .inl λe=>.inr (by rw[e];exact hl);have R':=R.mono g;refine⟨R.len,R'.keep,R'.m0,λb z=>?_,λi a e z=>?_,R.inj,R.out,λi s e=>?_⟩
 ·rcases Yy z with z|z
  ·exact R'.mutk b z
  ·rw[z];exact ho
 ·rcases z with z|z
  ·exact R.no0 i a e z
  ·exact nl<|z▸.inr ⟨i,e⟩
 ·exact((R.slot i s e).cX sub' λ_ _ b _=>w4 _).mono g
section
noncomputable def Gb:List D->Option (List Str)
 |[]=>some []
 | .str x::ds=>(Gb ds).map (x::·)
 |_::_=>none
theorem Ol:∀{vs:List V} {ds:List D} {zs:List Str},DVs G O H vs ds->Gb ds=some zs->vs=zs.map V.str
 |_,_,_,.nil,e=>by cases e;rfl
 |_,_,_,.cons (d:=d) h hs,e=>by
  cases d with
  |str i=>
   obtain⟨ns,e1,rfl⟩:=omap (by simpa[Gb] using e);cases h;rw[Ol hs e1];rfl
  |_=>cases e
def Ep:D->List D->Option D
 | .str z,[.lst es]=>match Gb es with
  |some zs=>if BC z zs=true then some (.str<|AD z zs) else none
  |none=>none
 |_,_=>none
theorem Uw:MtR X "str.join" (rGM (gx X) Ep):=by
 intro π s σ H x vs v us Q I rx rv h;refine uw h λO d ds r m hx hy hr q=>?_;unfold Ep at hr;split at hr
 ·rename_i z es;cases jx hx;obtain⟨y,rfl,hy2⟩:=tu hy;obtain⟨p,xs,rfl,hp,hd⟩:=iw hy2;have hr:(match Gb es with|some zs=>if BC z zs=true then some (D.str<|AD z zs) else none|none=>none)=some r:=hr;cases e1:Gb es with
  |none=>rw[e1] at hr;cases hr
  |some zs=>
   rw[e1] at hr;obtain⟨ok,rfl⟩:=oif hr
   have:=Ol hd e1
   subst this;exact Xe X.K rfl π s σ H _ _ v us Q I rx rv ⟨z,p,zs,rfl,rfl,hp,ok,q _ _ (aN.refl _)<|.str _⟩
 ·cases hr
end
def Oz (K:bb):Sp:=λvs H Q _=>∃(a:Addr) (ns:List Int),vs=[.ref a]/\SqL K H a (ns.map V.int)/\ns.length<=63/\∀H',Q (.bl true) H'
theorem Jd:∀ns:List Int,DVs G O H (ns.map V.int) (ns.map D.int)
 |[]=>.nil
 |n::ns=>.cons (.int n)<|Jd ns
theorem Xo {P:bo}{w:dc}{K:bb}{mg:Zp}{base:Heap}{CX:CXT}{k:Nat}{f:Addr}{fd:hG}{ps:List Str}{Φ:Zac}(h:∀ns:List Int,ns.length<=63->∃fr,Φ [.lst<|ns.map D.int]=.ok (fr,.bl true))
  (F:oG P w K mg base CX k f fd ps (spF ⟨K,mg⟩ Φ)):oG P w K mg base CX k f fd ps (Oz K):=F.imp λvs H Q E hE=>by
 refine zr hE λa ns e hS hl q=>?_;subst e;obtain⟨fr,e⟩:=h ns hl;refine⟨λ_=>False,[.lst<|ns.map D.int],λ_ z=>z.elim,.cons (.lst (hS.elim (λz=>.inl ⟨id,z⟩) .inr)<|Jd ns) .nil,?_⟩;rw[e];intro v H' _ hv _;cases hv;exact q H'
section
variable {X:Cx}{E:XK}{e a:Expr}{f fa:Zae}{fu:Me->Res Unit}{x y:Str}{np ρ pos p py:Pos}{i:Nat}
theorem qX (Ex:∃C,X.mg x=some (.ref C)/\BD X.K C [.type "ValueError",.type "Exception",.type "BaseException",.type "object"] "ValueError.__new__" = true)(hg:Gl X x)(hh:X.A.handled=none)(he:FM X E e fu)
  (hx:∀(C:Addr) (π:Zl) (σ:L2.St) (H:Hp) (s:aS) (h':Heap) (ea:Addr) (vs:List av),Inv X π σ H s->rS s.heap h' ea (.ref C) vs->E (.ref C) none H->X.xe (.ref ea) { s with heap:=h' })
  (hd:(x==("__debug__":Str))=false:=by decide) (hs:ag [e] X.env=(false,eval e X.env)::ag [] X.env:=by rfl):
  FS X E (.Raise (some<|.Call (.Name x np) [e] [] ρ) none pos) (lr x fu):=by
 obtain⟨C,hm,hq⟩:=Ex;exact Uk qB hq hg hm hh he (hx C) hd hs
theorem Ww {body suite:List Stmt}{b₀:Stmt}{n:Str}{hpos:Pos}{gb gh:Zab}(sub:Str->Bool)
  (hst:X.stack=X.env::X.outer) (hfr:X.env.frame=some X.env.locals) (hb:FSx X body gb) (hN:X.N.Nodup) (hi:X.N[i]? = some n) (hn:X.env.scope.names.lookup n=some .local)
  (hg:Gl X x) (Xc:∃C,X.mg x=some (.ref C)/\∀c D,sub c=true->X.mg c=some (.ref D)->rf X.K (.ref D) (.ref C)=some true) (hs:∀ea,PSs (inh X ea) (b₀::suite)<|tSA (inh X ea) gh) (hd:(x==("__debug__":Str))=false:=by decide):
  FS X E (.Try body [.ExceptHandler (some<|.Name x np) (some n) (b₀::suite) hpos] [] [] pos) (Qo i sub gb gh):=by
 obtain⟨C,hm,hq⟩:=Xc;exact aaC sub hst hfr hb hN hi hn hg hm hq hs hd
def Ea (tab:Str->Option Bool)(f:Zae):Zae:=λm=>(f m).bind λd=>match d with
 | .exc c _ _=>ofO<|(tab c).map D.bl
 |_=>.stuck
theorem WL {tab:Str->Option Bool}{c:V}{cv:av}{σ:L2.St}{H:Hp}{Q:VK}(hc:Yb c=some cv)(ht:∀c D b,tab c=some b->X.mg c=some (.ref D)->XC X.K D/\bt X.K (.ref D) cv=some b)
  (h:tE (gx X) E (Ea tab fa) σ H Q):tCB (Yp X.K) (Ue (tB (gx X) E fa)<|Ue (tC c) abK) σ H Q:=by
 obtain⟨O0,M0,H0,ow,m,R,q⟩:=h;refine⟨O0,M0,H0,ow,m,R,q.bind.imp (aN.refl _) λd q v H' g hv=>?_⟩;cases d with
 |exc k _ _=>
  obtain⟨r,hr,kk⟩:=q.ofO;obtain⟨b,hb,rfl⟩:=omap hr;obtain⟨ea,C,rfl,hC,hH⟩:=Le hv;obtain⟨z1,z2⟩:=ht k C b hb hC;exact⟨ea,C,c,cv,b,rfl,hc,hH,z1,z2,kk _ _ g<|.bl _⟩
 |_=>exact q.elim
theorem VN {tab:Str->Option Bool}{T:String}(ha:FB X E a fa)(hg:Gl X "isinstance")(hm:X.mg "isinstance" = none)(hv:b0 "isinstance" = some (.builtin "isinstance"))(hgy:Gl X y)(ht:X.mg y=none/\∀c D b,tab c=some b->X.mg c=some (.ref D)->XC X.K D/\bt X.K (.ref D) (.type T)=some b)(hvy:b0 y=some (.type T))
  (hny:y≠"__name__":=by decide) (hdy:(y==("__debug__":Str))=false:=by decide) (he:ag [a,.Name y py] X.env=(false,eval a X.env)::ag [.Name y py] X.env:=by rfl) (he2:ag [.Name y py] X.env=(false,eval (.Name y py) X.env)::ag [] X.env:=by rfl) (ξ:(ia pos<|ag [.Name y py] X.env).any (·.1)=false:=by rfl):
  FE X E (.Call (.Name "isinstance" p) [a,.Name y py] [] pos) (Ea tab fa):=
 bN (uY QF hg hm hv (ig ha (ig (Ni (v:=.ty T) hgy ht.1 hvy rfl hny hdy) pJ he2) he) (by decide) (by decide) he ξ) λ_ _ _ h=>WL (c:=.ty T) (cv:=.type T) rfl ht.2 h
end
section
variable {X:Cx}
def vOf:D->V
 | .bl b=>.bl b
 | .int i=>.int i
 | .str x=>.str x
 |_=>.non
theorem Q7 {G:Gx}{O:Zaa}{H:Hp}{v:V}{d:D}(f:flat d=true)(h:DW G O H v d):v=vOf d:=by
 cases d with
 |non=>exact wB h
 |bl b=>exact Iv h
 |int i=>exact bR h
 |str x=>exact jx h
 |_=>cases f
theorem Jk {d:D}(f:flat d=true):v7 (vOf d)=true:=by cases d<;>first|rfl|cases f
theorem Nk {G:Gx}{O:Zaa}{H:Hp}:∀{vs:List V} {ds:List D},DVs G O H vs ds->ds.all flat=true->vs=ds.map vOf
 |_,_,.nil,_=>rfl
 |_,_,.cons (d:=d) (ds:=ds) h hs,f=>by
  have f':flat d=true/\ds.all flat=true:=by simpa using f
  rw[Q7 f'.1<|.inl h,Nk hs f'.2];rfl
def inD (x:D)(ds:List D):Option Bool:=if flat x=true/\ds.all flat=true then some (inV (vOf x)<|ds.map vOf) else none
def gIn:D->D->Option Bool
 | .str i,.str j=>some<|!(sD j i 0 j.length 1).isEmpty
 |x,.lst ds=>inD x ds
 |x,.tup ds=>inD x ds
 |_,_=>none
theorem RL (ds:List D):ds.all flat=true->(ds.map vOf).all v7=true:=by
 induction ds with
 |nil=>intro;rfl
 |cons d ds ih=>
  intro h;have h':flat d=true/\ds.all flat=true:=by simpa using h
  rw[aT,k7,Jk h'.1,ih h'.2];rfl
theorem Rw {O:Zaa}{H:Hp}{x y:V}{d:D}{b:Bool}{ds:List D}{neg:Bool}{Q:VK}(hx:DW (gx X) O H x d)(hy:(∃p xs,y=.ref p/\(SqL X.K H p xs\/SqT X.K H p xs)/\DVs (gx X) O H xs ds))(h:inD d ds=some b)(q:Q (.bl<|if neg then !b else b) H):rIn X.K neg x y H Q:=by
 obtain⟨p,xs,rfl,hp,hd⟩:=hy;obtain⟨⟨f1,f2⟩,rfl⟩:=oif h;rw[Q7 f1 hx]
 have:=Nk hd f2
 subst this;exact⟨p,_,rfl,hp,Jk f1,RL _ f2,q⟩
theorem Y6:OpR X (eW .In) (rGB (gx X) gIn):=by
 intro π s σ H x y v u Q I rx ry h;obtain⟨O,d,e,r,m,hx,hy,hr,q⟩:=h;unfold gIn at hr;split at hr
 ·cases hr;exact Qq π s σ H x y v u Q I rx ry ⟨_,_,jx hx,jx hy,q⟩
 ·obtain⟨p,xs,rfl,hp,hd⟩:=iw hy;exact Ew π s σ H x _ v u Q I rx ry<|Rw (neg:=false) hx ⟨p,xs,rfl,.inl hp,hd⟩ hr q
 ·obtain⟨p,xs,rfl,hp,hd⟩:=yH hy;exact Ew π s σ H x _ v u Q I rx ry<|Rw (neg:=false) hx ⟨p,xs,rfl,.inr hp,hd⟩ hr q
 ·cases hr
noncomputable def pR:List D->Option (List Bool)
 |[]=>some []
 | .bl b::ds=>(pR ds).map (b::·)
 |_::_=>none
theorem xH {G:Gx}{O:Zaa}{H:Hp}:∀{vs:List V} {ds:List D} {bs:List Bool},DVs G O H vs ds->pR ds=some bs->vs=bs.map V.bl
 |_,_,_,.nil,e=>by cases e;rfl
 |_,_,_,.cons (d:=d) h hs,e=>by
  cases d with
  |bl b=>
   obtain⟨bs,e1,rfl⟩:=omap (by simpa[pR] using e);cases h;rw[xH hs e1];rfl
  |_=>cases e
def QG:List D->Option D
 |[.lst ds]=>(pR ds).map λbs=>.bl<|bs.all id
 |_=>none
def Vf:List D->Option D
 |[.lst ds]=>(pR ds).map λbs=>.bl<|bs.any id
 |_=>none
end
section
theorem Bb:∀{bs:List Bool} {us:List av},Vals (bs.map V.bl) us->LSm.BoolsAre us bs
 |[],_,.nil=>.nil
 |b::bs,_,.cons r t=>by cases r;exact .cons b<|Bb t
theorem Ei (hc:X.calm=true):fX X (.builtin "all") (rGC (gx X) QG):=by
 intro π s σ H xs us Q I r h;refine Ho h λO ds d m hx hr q=>?_;unfold QG at hr;split at hr
 ·rename_i ds;obtain⟨bs,e1,rfl⟩:=omap hr;obtain⟨v,rfl,hv⟩:=tu hx;obtain⟨p,xs,rfl,hp,hd⟩:=iw hv
  have:=xH hd e1
  subst this;obtain⟨u,rfl,rx⟩:=vals1 r;cases rx;obtain⟨wa,r',pl,hz⟩:=I.list hp;have ba:=Bb r';have li:=pl.isList;have lt1:p<s.heap.objs.size:=by obtain⟨_,e,_⟩:=li;exact aw e
  refine call_all_walk<|la li ?_;refine⟨s.heap.objs.size,[s.heap.objs.size,p],[s.heap.objs.size],wa.toArray.size,_,_,λi=>(bs[i]?).getD true,rfl,Walks.list (A:=X.A.in1) (I.ok.hd hc) _ p (bp lt1) wa.toArray,
   ⟨⟨_,a7 _ rfl,rfl,rfl⟩,li.push _⟩,λi v sn Qn En pv qv=>?_,λh' tk kp=>?_⟩
  ·obtain⟨b,e,rfl⟩:=ba.get i v (by simpa using pv);simp only[e,Option.getD_some] at qv;exact jI qv
  ·have e:((cm wa.toArray.size).all λi=>(bs[i]?).getD true)=bs.all id:=by
    rw[a9,ba.length];exact LSm.range_all bs
   rw[e];exact⟨.bl _,H,I.kept<|LSm.kept_iter kp,rfl,q _ _ (aN.refl _)<|.bl _⟩
 ·cases hr
theorem Ej (hc:X.calm=true):fX X (.builtin "any") (rGC (gx X) Vf):=by
 intro π s σ H xs us Q I r h;refine Ho h λO ds d m hx hr q=>?_;unfold Vf at hr;split at hr
 ·rename_i ds;obtain⟨bs,e1,rfl⟩:=omap hr;obtain⟨v,rfl,hv⟩:=tu hx;obtain⟨p,xs,rfl,hp,hd⟩:=iw hv
  have:=xH hd e1
  subst this;obtain⟨u,rfl,rx⟩:=vals1 r;cases rx;obtain⟨wa,r',pl,hz⟩:=I.list hp;have ba:=Bb r';have li:=pl.isList;have lt1:p<s.heap.objs.size:=by obtain⟨_,e,_⟩:=li;exact aw e
  refine call_any_walk<|la li ?_;refine⟨s.heap.objs.size,[s.heap.objs.size,p],[s.heap.objs.size],wa.toArray.size,_,_,λi=>(bs[i]?).getD false,rfl,Walks.list (A:=X.A.in1) (I.ok.hd hc) _ p (bp lt1) wa.toArray,
   ⟨⟨_,a7 _ rfl,rfl,rfl⟩,li.push _⟩,λi v sn Qn En pv qv=>?_,λh' tk kp=>?_⟩
  ·obtain⟨b,e,rfl⟩:=ba.get i v (by simpa using pv);simp only[e,Option.getD_some] at qv;exact jI qv
  ·have e:((cm wa.toArray.size).any λi=>(bs[i]?).getD false)=bs.any id:=by
    rw[a9,ba.length];exact LSm.range_any bs
   rw[e];exact⟨.bl _,H,I.kept<|LSm.kept_iter kp,rfl,q _ _ (aN.refl _)<|.bl _⟩
 ·cases hr
end
def Ite (K:bb)(a:Addr):It:=
 ⟨λi H=>∃xs x,SqL K H a xs/\xs[i]? = some x,λi H x H'=>∃y l,(∀xs,SqL K H a xs->xs[i]? = some y)/\x=.ref l/\H l=none/\H'=upd H l (.tup [.int i,y]),λi H=>∃xs,SqL K H a xs/\xs.length<=i⟩
theorem Ka {X:Cx}{π:Zl}{σ:L2.St}{H:Hp}{s:aS}{e it:Addr}{h':Heap}{oe oi:Obj}(I:Inv X π σ H s)(fe:yQ X π H e)(fi:yQ X π H it)(hne:e≠it)
  (he:∃o,s.heap.get? e=some o) (hi:∃o,s.heap.get? it=some o) (he':h'.get? e=some oe) (hi':h'.get? it=some oi) (de:oe.isFreed=false) (di:oi.isFreed=false)
  (k:∀b o,b≠e->b≠it->s.heap.get? b=some o->h'.get? b=some o):∃h1,Inv X π σ H { s with heap:=h1 }/\h1.objs.size=s.heap.objs.size/\∀b u,h1.get? b=some u->h'.get? b=some u:=by
 obtain⟨o1,he⟩:=he;obtain⟨o2,hi⟩:=hi;refine ur fe λf0 f1 f2 f3 f4 f5=>?_;refine ur fi λg0 g1 g2 g3 g4 g5=>?_;have I1:Inv X π σ H { s with heap:=s.heap.update e λ_=>oe }:=I.turned (t':=s.toks) (λb o hb x=>(cw _ _<|iP hb).trans x) f0 f1 f3 f4 f5;have I2:Inv X π σ H { s with heap:=(s.heap.update e λ_=>oe).update it λ_=>oi }:=I1.turned (t':=s.toks) (λb o hb x=>(cw _ _<|iP hb).trans x) g0 g1 g3 g4 g5;refine⟨_,I2,?_,λb u x=>?_⟩
 ·rw[(h7 _ _ _).1,(h7 _ _ _).1]
 ·by_cases z:b=it
  ·subst z;rw[dP (λ_=>oi) ((cw _ _ hne).trans hi) di] at x;cases x;exact hi'
  ·rw[cw _ _<|iP z] at x;by_cases y:b=e
   ·subst y;rw[dP (λ_=>oe) he de] at x;cases x;exact he'
   ·rw[cw _ _<|iP y] at x;exact k b u y z x
theorem Uh {o:Obj}{vs:Array av}(d:o.data=.fields vs):o.isFreed=false:=by
 obtain⟨c,dd,da,sl⟩:=o;cases(show da=.fields vs from d);rfl
theorem QJ {P:bo}{w:dc}{K:bb}{elts:List Expr}{x1}{pos:Pos}(a e it:Addr)(hne:e≠it):
  Turn Calm P w K (.Tuple elts x1 pos) (Ite K a) [e,it] e (λi h=>(∃old,IsEnum h e it i old)/\h.IsListIter it a i) where
 mem:=by simp
 obj:=λi h st b hb=>by
  obtain⟨⟨old,q1⟩,q2⟩:=st;have eb:b=e\/b=it:=by simpa using hb
  rcases eb with rfl|rfl
  ·exact⟨_,q1,λv z=>by cases(show Bi _=Data.cell v from z)⟩
  ·obtain⟨o,e',c,d⟩:=q2;exact⟨o,e',λv z=>by rw[d] at z;cases z⟩
 keep:=λi h h' st k=>by
  obtain⟨⟨old,q1⟩,q2⟩:=st;exact⟨⟨old,k e (by simp) _ q1⟩,q2.at λo x=>k it (by simp) o x⟩
 item:=by
  intro X hP hw hK hc i π s σ H E I hf st hg;subst hP hw hK;obtain⟨xs,x,hq,hx⟩:=hg;obtain⟨⟨old,q1⟩,q2⟩:=st;obtain⟨χ,rv,p,hz⟩:=I.list hq;obtain⟨u,hu,ru⟩:=rv.get hx;have fe:=hf e (by simp);have fi:=hf it (by simp);refine wpAny_pyNext_enum_item q1 q2 p.isList (x:=u) (by simpa using hu) hne λh' eo il ht hsz k=>?_;obtain⟨oi,ei,ci,di⟩:=id il;obtain⟨oj,ej,cj,dj⟩:=id q2;obtain⟨h1,I1,z1,k1⟩:=Ka I fe fi hne ⟨_,q1⟩ ⟨_,ej⟩ eo ei rfl (Uh di) k;have I2:Inv X π σ (upd H s.heap.objs.size<|.tup [.int i,x]) { s with heap:=h',toks:=s.toks+1 }:=
   I1.laid (t':=s.toks+1) k1 (AY z1) (show cG X.prog X.w _ _ _ (.tup [.int i,x]) from⟨(show 2<=ay by decide),[.int i s.toks,u],.cons ⟨s.toks,rfl⟩<|.cons ru .nil,⟨_,ht,rfl,_,rfl,rfl⟩⟩)
  have fr:H s.heap.objs.size=none:=I.hok.fresh<|aI _;have ne1:e≠s.heap.objs.size:=bp<|aw q1;have ne2:it≠s.heap.objs.size:=bp<|aw ej;have nn:∀b,b≠s.heap.objs.size->H b=none->upd H s.heap.objs.size (.tup [.int i,x]) b=none:=λb z y=>by rw[bD z];exact y
  refine⟨_,rfl,wpAny_letOwnedTupleGo_enum eo λh2 e2 sb=>?_⟩;refine ur fe λf0 f1 f2 f3 f4 f5=>?_;refine⟨.ref s.heap.objs.size,_,I2.turned (t':=s.toks+1) (λb o hb y=>(sb.2 b hb).trans y) (nn e ne1 f0) f1 f3 f4 f5,rfl,⟨x,_,λys hy=>by rw[I.Aj hy hq];exact hx,rfl,fr,rfl⟩,⟨⟨_,e2⟩,il.at λo y=>(sb.2 it<|iP hne).trans y⟩,λb hb=>?_⟩;have eb:b=e\/b=it:=by simpa using hb
  rcases eb with rfl|rfl
  ·exact nn _ ne1 f0
  ·exact nn _ ne2 fi.1
 done:=by
  intro X hP hw hK hc i π s σ H E I hf st hg;subst hP hw hK;obtain⟨xs,hq,hx⟩:=hg;obtain⟨⟨old,q1⟩,q2⟩:=st;obtain⟨χ,rv,p,hz⟩:=I.list hq;refine ur (hf it<|by simp) λf0 f1 f2 f3 f4 f5=>?_;have hl:=rv.length;exact wpAny_pyNext_enum_end (I.ok.hd hc) q1 q2 p.isList (by simp;lia) λh' eb=>⟨rfl,I.turned (t':=s.toks) (λb o hb y=>eb b o hb y) f0 f1 f3 f4 f5⟩
 self:=λ_ _ _ _ _ st h=>by
  obtain⟨⟨old,q1⟩,q2⟩:=st;exact wpAny_pyIter_enum q1 h
section
variable {X:Cx}{tg:Expr}
def acg (K:bb)(ta:TA):TI:=λσ H R=>ta σ H λvs H1=>∃p,vs=[.ref p]/\(∃xs,SqL K H1 p xs)/\R (Ite K p) H1
theorem Xa {elts:List Expr}{x1}{pt:Pos}{a:Expr}{ta:TA}{p pos:Pos}(hg:Gl X "enumerate")(hm:X.mg "enumerate" = none)(ha:PA X [a] ta)(hs:ag [a] X.env=[(false,eval a X.env)]:=by rfl):PI Calm X (.Tuple elts x1 pt) (.Call (.Name "enumerate" p) [a] [] pos) (acg X.K ta):=by
 intro π s σ H R I h;refine Call_<|sV I hg hm boot_enumerate<|eD (thn (ha pos π s σ H _ I h) λus s1 hE=>xq2 hE λvs H1 I1 r1 q1=>?_) hs rfl;obtain⟨l,e,⟨xs,hq⟩,q⟩:=q1;subst e;obtain⟨u,rfl,rx⟩:=vals1 r1;cases rx;obtain⟨χ,rv,pl,hz⟩:=I1.list hq;refine call_enumerate_list pl.isList λh' e1 e2 sz k=>?_;have I2:Inv X π σ H1 { s1 with heap:=h' }:=I1.kept (t':=s1.toks) k;refine wpAny_pyIter_enum (s:={ s1 with heap:=h' }) e1 ?_;refine⟨_,[s1.heap.objs.size+1,s1.heap.objs.size],_,_,H1,rfl,I2,QJ l _ _<|Nat.succ_ne_self _,⟨⟨_,e1⟩,e2⟩,λb hb=>?_,q⟩;have eb:b=s1.heap.objs.size+1\/b=s1.heap.objs.size:=by simpa using hb
 have hb':s1.heap.objs.size<=b:=eb.elim (λz=>by rw[z];exact tj _) λz=>AY z.symm;exact I1.KH hb'<|I1.hok.fresh hb'
noncomputable def CJ (ds:List D):List D:=ds.mapIdx λi d=>.tup [.int i,d]
theorem DK (ds:List D):(CJ ds).length=ds.length:=by simp[CJ]
theorem VP {G:Gx}{H:Hp}{a:Addr}{ds:List D}{P:(Zaa)->Hp->Prop}(h:∀O' H2,P O' H2->∃xs,SqL G.K H2 a xs/\DVs G O' H2 xs ds):BW G (Ite G.K a) (CJ ds) P:=by
 intro O' H2 ev;obtain⟨xs,hq,hd⟩:=h O' H2 ev;have ω:=cu hd;refine⟨λi hi=>⟨xs,xs[i]'(by rw[DK] at hi;lia),hq,by simp⟩,λi x H' hi y=>?_,xs,hq,by rw[DK];lia⟩;obtain⟨y,l,h1,rfl,fr,rfl⟩:=y;obtain⟨d,e1,e2⟩:=xm hd<|h1 xs hq;exact⟨bO fr _,.tup [.int i,d],by simp[CJ,List.getElem?_mapIdx,e1],.tup (SqU.of bu)<|.cons (.int _)<|.cons (e2.mono<|bO fr _) .nil⟩
def ZW (f:Zad):Zad:=λm=>(f m).bind λd=>match d with
 |[.lst ds]=>.ok<|CJ ds
 |_=>.stuck
theorem Ve {E:XK}{fs:Zad}{elts:List Expr}{x1}{pt:Pos}{a:Expr}{p pos:Pos}(hg:Gl X "enumerate")(hm:X.mg "enumerate" = none)(ha:FAB X E [a] fs)(hs:ag [a] X.env=[(false,eval a X.env)]:=by rfl):FIw X E (.Tuple elts x1 pt) (.Call (.Name "enumerate" p) [a] [] pos) (ZW fs):=
 qi (Xa hg hm ha hs) λσ H R hE=>xq5 hE λO0 M0 H0 ow m Re q=>⟨O0,M0,H0,ow,m,Re,q.bind.imp (aN.refl _) λds q vs H' g hv=>by
  have z:∃xs,ds=[.lst xs]:=by
   cases ds with
   |nil=>exact q.elim
   |cons d ds=>cases d with
    |lst xs=>cases ds with
     |nil=>exact⟨xs,rfl⟩
     |cons _ _=>exact q.elim
    |_=>exact q.elim
  obtain⟨ds,rfl⟩:=z;cases hv with
  |cons h1 h2=>
   cases h2;obtain⟨l,xs,rfl,hl,hd⟩:=iw h1;exact⟨_,rfl,⟨_,hl⟩,q _ H' g<|VP (H:=H') λO' H2 ⟨sub,g2⟩=>⟨_,Ij hl g2,hd.go (Re.mono g).mutk ⟨sub,.of g2⟩⟩⟩⟩
end
theorem Rp:xB (.type "list_reverseiterator") "__len__" = pure none:=by rfl
theorem XN:xB (.type "list_reverseiterator") "__length_hint__" = pure (some<|.builtin "list_reverseiterator.__length_hint__"):=by rfl
section
variable {pr:bo}{wo:dc}{A:dy}{s:aS}{R:Result->aS->Prop}
variable {St:Nat->aS->Prop}{P:Nat->av->Prop}{n:Nat}{I:Addr}{fp wr:List Addr}{G:Array nL->Array nL->Prop}
theorem Vt (W:WalksS pr wo A.in1 I fp wr G n P St)(ty:∀i s,St i s->s.TypeIs (.ref I) "list_reverseiterator")(S:Addr)(res:av)(c:Nat)(st:St 0 s)(nf:S∉fp)(mi:I∈fp)
  (oS:s.heap.get? S=some { cls:=.type "list",data:=.seq #[] c })
  (fin:∀s' ac c',Moved (S::wr) G s s'->s'.heap.get? S=some { cls:=.type "list",dict:=none,data:=.seq ac c',slots:=#[] }->ItemsOf P ac n->R (.ok<|.ret res) s') (hn:n<=ay):
  bg (b9 pr wo) A.in1 (kU (.ref S) (.ref I) res)
   (λf t=>match f with|.done f=>R (.ok f) t|.again c'=>c'.quiet=true/\vF (b9 pr wo) A c' R t) (λe t=>R (.error e) t) s:=by
 have ne:S≠I:=λe=>nf<|e▸mi;have sr:sk (.ref S) (.ref I)=false:=by simp[sk,ne]
 unfold kU;refine ae<|mf (ty 0 _ st) ?_;rw[if_neg (by rw[sr];decide)];refine ae<|W.self 0 _ _ _ st<|ae<|gX ?_;unfold Builtin.List.listLengthHint;refine ae<|jv (ty 0 _ st) Rp ?_;show bg (b9 pr wo) A.in1 (specialOf (bE I) (cf "__length_hint__") >>= _) _ _ _;refine ae<|jv (ty 0 _ st) XN ?_;generalize hid:("list_reverseiterator.__length_hint__":String)=id0
 wp_delta
 rw[show splitId id0=some ("list_reverseiterator", "__length_hint__") from by subst hid;decide +kernel];subst hid;refine ae<|l5 (b:=true) (ty 0 _ st) (by rw[isSubtype_type];kernel_rfl)<|ah ?_;rw[if_neg<|by decide];exact ah ⟨plainId_quiet F.plain_extend_loop _,codeAny_extend_loopS W hn _ nf _ n 0 _ _ _ rfl (fS _) st oS (ItemsOf.nil P) fin⟩
end
section
theorem Q0 {items:Array av}(h:ItemsOf (λi v=>items[items.size-1-i]? = some v) ac items.size):ac=items.reverse:=by
 obtain⟨z,h⟩:=h;refine Array.ext (by simp[z]) λi h1 h2=>?_
 have:=h i ac[i]<|by simp
 rw[Array.getElem_reverse];obtain⟨_,e⟩:=eP.mp this;exact e.symm
theorem Di {items:Array av}(hh:A.handled=none)(li:s.heap.IsList l items)(ri:s.heap.IsRevIter I l ((items.size:Int)-1))(ne:l≠I)(hn:items.size<=ay)
  (fin:∀t tk c,(∀b o,b≠I->s.heap.get? b=some o->t.get? b=some o)->t.get? s.heap.objs.size=some { cls:=.type "list",dict:=none,data:=.seq items.reverse c,slots:=#[] }->Q (.ref s.heap.objs.size) { s with heap:=t,toks:=tk }):
  bg (b9 pr wo) A (call (.type "list") [.ref I]) Q E s:=by
 obtain⟨oi,ei,ci,di⟩:=id ri;obtain⟨ol,el,cl⟩:=id li;have ltI:I<s.heap.objs.size:=aw ei;have ltl:l<s.heap.objs.size:=aw el;have nf:s.heap.objs.size∉[I,l]:=λhm=>by
  rcases bq.mp hm with z|z
  ·exact nN ltI z
  ·exact nN ltl<|bP.mp z
 have W:=(Walks.listRev (prog:=pr) (w:=wo) (A:=A.in1.in1) hh I l ne items).toS;refine callType_codes (Q₁:=λo t=>o=.ref s.heap.objs.size/\t={ s with heap:=s.heap.push { cls:=.type "list",data:=.seq #[] } }) F.called_list (F.typeCall_list_1 _) F.entry_list_init (code_list_new _ ⟨rfl,rfl⟩) λo t ht=>?_;obtain⟨rfl,rfl⟩:=ht;have oS:(s.heap.push { cls:=.type "list",data:=.seq #[] }).get? s.heap.objs.size=some { cls:=.type "list",data:=.seq #[] }:=a7 _ rfl;refine⟨⟨_,oS,rfl⟩,F.args_list_init_2 _ _,?_⟩;show bg (b9 pr wo) A.in1.in1 (do let old←uu (.ref s.heap.objs.size);Builtin.List.listUpdate (.ref s.heap.objs.size) (λ_=>#[]);letGo old.toList.reverse;kU (.ref s.heap.objs.size) (.ref I) .none) _ _ _;refine ae ?_;unfold uu;refine ae<|rk oS rfl<|ah ?_;refine ae (m:=updateSeq s.heap.objs.size λ_=>#[])<|wpAny_updateSeq oS rfl ?_;have oS2:=dP (pk λ_=>(#[]:Array av)) oS rfl;refine ae<|wpAny_letGo ?_;have kp:∀b o,b≠s.heap.objs.size->s.heap.get? b=some o->((s.heap.push { cls:=.type "list",data:=.seq #[] }).update s.heap.objs.size<|pk λ_=>(#[]:Array av)).get? b=some o:=
  λb o hb e=>(cw _ _<|iP hb).trans<|af _ e
 have st0:(0:Nat)<=items.size/\s.heap.IsRevIter I l ((items.size:Int)-1-((0:Nat):Int))/\s.heap.IsList l items:=⟨fS _,by simpa using ri,li⟩;refine Vt W (λi t x=>x.2.1.typeIs) _ .none _ ⟨st0.1,st0.2.1.at λo e=>kp I o (bp ltI) e,st0.2.2.at λo e=>kp l o (bp ltl) e⟩ nf (by simp) oS2 (λt ac c mv oS3 it=>?_) hn;refine⟨rfl,?_⟩;rw[Moved.eq_with mv];rw[Q0 it] at oS3;exact fin _ _ c (λb o hb e=>mv.heap b o (λhm=>by
  rcases bq.mp hm with z|hm
  ·exact eT _<|z▸aw e
  ·exact hb<|bP.mp hm) (kp b o (bp<|aw e) e)) oS3
end
section
theorem yc:b0 "list" = some (.type "list"):=by decide +kernel
theorem ZK:b0 "reversed" = some (.type "reversed"):=by decide +kernel
def acG (K:bb):List V->Hp->VK->Prop:=λxs H Q=>∃p ys,xs=[.ref p]/\SqL K H p ys/\∀l,H l=none->Q (.ref l) (upd H l<|.lst ys.reverse)
theorem WD (hc:X.calm=true)(hg:Gl X "list")(hm:X.mg "list" = none)(hg':Gl X "reversed")(hm':X.mg "reversed" = none)(ha:PA X [e] ta)
  (hs:ag [e] X.env=[(false,eval e X.env)]:=by rfl) (hs':ag [.Call (.Name "reversed" p') [e] [] pos'] X.env=[(false,eval (.Call (.Name "reversed" p') [e] [] pos') X.env)]:=by rfl):
  PE X (.Call (.Name "list" p) [.Call (.Name "reversed" p') [e] [] pos'] [] pos) (tCB (acG X.K) ta):=by
 intro π s σ H Q I h;refine gy<|sV I hg hm yc<|eD ?_ hs' rfl;rw[hs'];refine mm<|gy<|sV I hg' hm' ZK<|eD (thn (ha pos' π s σ H _ I h) λus s1 hE=>xq2 hE λvs H1 I1 r1 q1=>?_) hs rfl;obtain⟨l,ys,rfl,hq,q⟩:=q1;obtain⟨u,rfl,rx⟩:=vals1 r1;cases rx;obtain⟨χ,rv,pl,hz⟩:=I1.list hq;have ω:=rv.length;refine call_reversed_list pl.isList<|sg ?_;have el:l<s1.heap.objs.size:=by obtain⟨_,e,_⟩:=pl.isList;exact aw e
 refine Di (s:={ s1 with heap:=s1.heap.push (revObj l<|(χ.toArray.size:Int)-1) }) (I1.ok.hd hc) (pl.isList.push _) ⟨_,a7 _ rfl,rfl,rfl⟩ (bp el) (by simp only[a9]<;>lia) λt tk c kp oS=>?_;have sz:s1.heap.objs.size<=(s1.heap.push<|revObj l<|(χ.toArray.size:Int)-1).objs.size:=by rw[yn];exact tj _
 refine⟨.ref _,_,I1.laid (t':=tk) (λb o e=>kp b o (bp<|aw e)<|af _ e) sz<|show cG X.prog X.w _ t _ (.lst ys.reverse) from⟨by simp;lia,χ.reverse,c,rv.reverse,by simpa using oS⟩,rfl,q _<|I1.hok.fresh sz⟩
noncomputable def Rk:List D->Option D
 |[.lst ds]=>some<|.lst ds.reverse
 |_=>none
theorem V1 (hc:X.calm=true)(hg:Gl X "list")(hm:X.mg "list" = none)(hg':Gl X "reversed")(hm':X.mg "reversed" = none)(ha:FAB X E [e] fs)
  (hs:ag [e] X.env=[(false,eval e X.env)]:=by rfl) (hs':ag [.Call (.Name "reversed" p') [e] [] pos'] X.env=[(false,eval (.Call (.Name "reversed" p') [e] [] pos') X.env)]:=by rfl):
  FN X E (.Call (.Name "list" p) [.Call (.Name "reversed" p') [e] [] pos'] [] pos) (aR Rk fs):=
 bN (WD hc hg hm hg' hm' ha hs hs') λσ H Q h=>by
  refine Js h λO0 M0 H0 ow m R q=>?_;refine⟨O0,M0,H0,ow,m,R,q.bind.imp (aN.refl _) λds q vs H1 g1 hv=>?_⟩;obtain⟨r,hr,k⟩:=q.ofO
  match ds,hr with
  |[.lst ds],hr=>
   cases hr;obtain⟨v,rfl,hw⟩:=tu hv;obtain⟨l,xs,rfl,hp,hd⟩:=iw hw;exact⟨l,xs,rfl,hp,λb hb=>k b _ (g1.trans<|bO hb _) (g1.free hb) ⟨_,bu,((Nv hd).cX λc z=>z.elim .inl λe=>.inr (by rw[e];exact hb)).mono<|bO hb _⟩⟩
end
section
end
theorem ints_of:∀{ns:List Int} {us:List av},Vals (ns.map V.int) us->∃xs:Array (Int×Tok),us.toArray=intItems xs/\xs.toList.map (·.1)=ns
 |[],_,.nil=>⟨#[],by simp[intItems],rfl⟩
 |n::ns,_,.cons r t=>by
  obtain⟨xs,e1,e2⟩:=ints_of t;obtain⟨k,rfl⟩:=r;refine⟨#[(n,k)]++xs,?_,by simp[e2]⟩;have e3:=congrArg vi e1;apply Array.toList_inj.mp;simp[intItems] at e3 ⊢;exact e3
def Ph:List D->Option D
 |[.lst ds]=>(yZ ds).map λns=>.int ns.sum
 |_=>none
section
theorem Dm (hc:X.calm=true):fX X (.builtin "sum") (rGC (gx X) Ph):=by
 intro π s σ H xs us Q I r h;refine Ho h λO ds d m hx hr q=>?_;unfold Ph at hr;split at hr
 ·rename_i ds;obtain⟨ns,e1,rfl⟩:=omap hr;obtain⟨v,rfl,hv⟩:=tu hx;obtain⟨p,xs,rfl,hp,hd⟩:=iw hv
  have:=Hk hd e1
  subst this;obtain⟨u,rfl,rx⟩:=vals1 r;cases rx;obtain⟨χ,r',pl,hz⟩:=I.list hp;obtain⟨ys,e2,e3⟩:=ints_of r';refine sum_intListG (I.ok.hd hc) (xs:=ys) (e2▸pl.isList) λh' tk t' kp=>?_;have e4:preSum (numAt ys) ys.size=ns.sum:=by rw[preSum_eq,kM (by simp),e3]
  rw[e4];exact⟨.int _,H,I.kept kp,⟨t',rfl⟩,q _ _ (aN.refl _)<|.int _⟩
 ·cases hr
end
theorem Ec (h:DV G O H v d):∀{vs:List V} {ds:List D} (j:Nat),DVs G O H vs ds->DVs G O H (vs.set j v) (ds.set j d)
 |_,_,_,.nil=>.nil
 |_,_,0,.cons _ t=>.cons h t
 |_,_,j+1,.cons a t=>.cons a<|Ec h j t
section
theorem UT (i:Nat)(he:FE X E e f)(hk:FE X E ke fk)(hN:X.N[i]? = some x:=by rfl)(hv:Vis X.env.scope x:=by first|exact d4 rfl|exact fA (d4 rfl)|exact fA (fA rfl))(hd:(x==("__debug__":Str))=false:=by decide)(hcd:(x==("__classdict__":Str))=false:=by decide)
  (ha:∀v,vj (.Subscript (.Name x np) ke spos) X.env v=(do
   let ov←yT [v] (eval (.Name x np) X.env)
   let iv←yT [v,ov] (eval ke X.env)
   standAt spos
   yT [v,ov,iv] (setItem ov iv v)
   release [v,ov,iv] []):=by intro _;rfl)
  (hs:pd [.Subscript (.Name x np) ke spos] e pos.line X.env=pure false:=by rfl) (hw:pe [.Subscript (.Name x np) ke spos] e X.env=pure none:=by rfl)
  (h1:(jS [.Subscript (.Name x np) ke spos] X.env).map (·.2)=[vj (.Subscript (.Name x np) ke spos) X.env]:=by rfl):FS X E (.Assign [.Subscript (.Name x np) ke spos] e pos) (Fz i fk f):=
 cU (Vh he (aaI (je hN hv hd hcd) hk set_list ha) hs hw h1) λW σ H hE=>xq5 hE λO0 M0 H0 ow m R q=>
  ⟨O0,M0,H0,ow,m,R.toRel,(Ss.pu R.toRel q).imp (aN.refl _) λd q v H1 g1 hv=>by
   obtain⟨o,ho,q⟩:=Ss.ofO q;obtain⟨k,ds⟩:=o;have R1:=R.mono g1;refine zF (xT R1.toRel ho) λa xs e1 e2 e3 e4 e5=>?_;refine⟨_,e2,O0,M0,H0,ow,m,R1.toRel,(Ss.pu R1.toRel<|q.go<|Go.refl g1).imp (aN.refl _) λdk q vk H2 g2 hvk=>?_⟩;cases dk with
   |int n=>
    cases hvk;obtain⟨j,hj,q⟩:=Ss.ofO q;have R2:=R1.mono g2;obtain⟨R3,g3⟩:=R2.put (es:=ds.set j d) (ys:=xs.set j v) e1 e5<|Ec (hv.mono g2) j<|e4.mono g2;exact⟨a,xs,n,j,rfl,rfl,g2 _ _ e3,by rw[cu e4];exact hj,q _ _ _ R3<|(Go.refl g2).trans g3⟩
   |_=>exact q.elim⟩
end
section
theorem qZ (r:gw j A):A.units+16<pw:=by have:=r.un;lia
end
section
end
section
end
section
end
noncomputable def ad2:List D->Option D
 |[.int i,.int j]=>some<|.int<|if j<i then j else i
 |_=>none
section
noncomputable def KC:List D->Option D
 |[.bl b]=>some<|.int<|if b then 1 else 0
 |[.str x]=>if x.length<=640 then(PySem.intText? x).map D.int else none
 |_=>none
theorem Q3:fX X (.type "int") (rGC (gx X) KC):=by
 intro π s σ H xs us Q I r h;refine Ho h λO ds d m hx hr q=>?_;unfold KC at hr;split at hr
 ·rename_i b;cases hr;obtain⟨v,rfl,hv⟩:=tu hx;have e:v=.bl b:=by
   rcases hv with hv|⟨_,_,_,z⟩
   ·cases hv;rfl
   ·exact z.elim
  subst e;obtain⟨u,rfl,rx⟩:=vals1 r;cases rx;exact call_int_bool ⟨.int _,H,I.tok _,⟨_,rfl⟩,q _ _ (aN.refl _)<|.int _⟩
 ·rename_i x;obtain⟨v,rfl,hv⟩:=tu hx;cases jx hv;have hr:(if x.length<=640 then(PySem.intText? x).map D.int else none)=some d:=hr;by_cases hl:x.length<=640
  ·rw[if_pos hl] at hr;obtain⟨n,hn,rfl⟩:=omap hr;obtain⟨u,rfl,rx⟩:=vals1 r;obtain⟨t,rfl⟩:=rx;exact W.KIN.call_text hn hl ⟨.int n,H,I.tok _,⟨_,rfl⟩,q _ _ (aN.refl _)<|.int _⟩
  ·rw[if_neg hl] at hr;cases hr
 ·cases hr
end
section
end
section
theorem mulOk_of (h0:0<=n)(h1:n<=1000)(hz:z.length<=1000):MulOk z n:=by
 refine⟨by simp;lia,λp _=>?_,λp _=>?_⟩
 ·have:(1000:Int)<=(2^63-1)/n:=by
   rw[Int.le_ediv_iff_mul_le<|by lia]
   lia
  lia
 ·have:z.length*n.toNat<=1000*1000:=Nat.mul_le_mul hz (by lia)
  have e:ay=16777216:=by decide
  simp[y9,e]
  lia
end
noncomputable def rY (f:D->Option Kt):List D->Option (List Kt)
 |[]=>some []
 |d::ds=>(f d).bind λk=>(rY f ds).map λks=>k::ks
def ktD:Nat->D->Option Kt
 |_,.int i=>some<|.k<|.inl i
 |_,.str x=>some<|.k<|.inr x
 |n+1,.tup ds=>(rY (ktD n) ds).map .t
 |_,_=>none
def vO:D->Option (List Kt)
 | .tup ds=>rY (ktD 7) ds
 |_=>none
noncomputable def dW:List (List Kt)->List D->List Kt->Option D
 |k'::ks,d::ds,k=>if k'=k then some d else dW ks ds k
 |_,_,_=>none
noncomputable def vX:List (List Kt)->List D->List Kt->D->List D
 |k'::ks,d'::ds,k,d=>(if k'=k then d else d')::vX ks ds k d
 |_,_,_,_=>[]
def uy (ks:List (List Kt))(ds:List D)(k:List Kt)(d:D):List (List Kt)×List D:=if ks.any (λx=>decide<|x=k)=true then(ks,vX ks ds k d) else(ks++[k],ds++[d])
theorem Gw {G:Gx}{O:Zaa}{H:Hp}{n:Nat}{f:D->Option Kt}(hf:∀{v d k},DV G O H v d->f d=some k->zM (KTp G.K) H n v k):∀{vs:List V} {ds:List D} {ks:List Kt},DVs G O H vs ds->rY f ds=some ks->um (KTp G.K) H n vs ks
 |_,_,_,.nil,e=>by cases e;exact .nil
 |_,_,_,.cons (d:=d) (ds:=ds) h hs,e=>by
  have e:(f d).bind (λk=>(rY f ds).map λks=>k::ks)=some _:=e;obtain⟨k,e1,e2⟩:=ix.mp e;obtain⟨ks,e3,rfl⟩:=omap e2;exact .cons (hf h e1)<|Gw hf hs e3
theorem YS {G:Gx}{O:Zaa}{H:Hp}:∀(n:Nat) {v:V} {d:D} {k:Kt},DV G O H v d->ktD n d=some k->zM (KTp G.K) H n v k
 |n,_,_,k,.int i,e=>by
  have:k=.k (.inl i):=by cases n<;>(rw[ktD] at e;exact(bX e).symm)
  subst this;exact zM.k (x:=.inl i)
 |n,_,_,k,.str x,e=>by
  have:k=.k (.inr x):=by cases n<;>(rw[ktD] at e;exact(bX e).symm)
  subst this;exact zM.k (x:=.inr x)
 |n+1,_,_,k,.tup h hs,e=>by
  rw[ktD] at e;obtain⟨ks,e3,rfl⟩:=omap e;exact .t h<|Gw (λh e=>YS n h e) hs e3
 |0,_,_,k,.tup h hs,e=>by simp[ktD] at e
 |n,_,_,k,.non,e=>by cases n<;>simp[ktD] at e
 |n,_,_,k,.bl _,e=>by cases n<;>simp[ktD] at e
 |n,_,_,k,.adr _,e=>by cases n<;>simp[ktD] at e
 |n,_,_,k,.ins _ _ _ _ _ _,e=>by cases n<;>simp[ktD] at e
 |n,_,_,k,.exc ..,e=>by cases n<;>simp[ktD] at e
 |n,_,_,k,.lst _ _,e=>by cases n<;>simp[ktD] at e
 |n,_,_,k,.dct _ _ _ _ _,e=>by cases n<;>simp[ktD] at e
 |n,_,_,k,.dcu _ _ _ _ _,e=>by cases n<;>simp[ktD] at e
 |n,_,_,k,.dcf _ _ _ _,e=>by cases n<;>simp[ktD] at e
theorem vB {G:Gx}{O:Zaa}{H:Hp}{v:V}{d:D}{k:List Kt}(h:DW G O H v d)(e:vO d=some k):∃b,v=.ref b/\TrT (KTp G.K) H b k:=by
 cases d with
 |tup ds=>
  obtain⟨b,xs,rfl,hq,hd⟩:=zU h;exact⟨b,rfl,xs,hq,Gw (λh e=>YS 7 h e) hd e⟩
 |_=>cases e
theorem Aa {G:Gx}{O:Zaa}{H:Hp}{k:List Kt}:∀{ι:List (List Kt×V)} {ds:List D},DVs G O H (ι.map (·.2)) ds->
  (∃v d,uz ι k=some v/\dW (ι.map (·.1)) ds k=some d/\DV G O H v d)\/(uz ι k=none/\dW (ι.map (·.1)) ds k=none)
 |[],_,.nil=>.inr ⟨rfl,rfl⟩
 |(k',v)::ι,_,.cons (d:=d) h hs=>by
  by_cases q:k'=k
  ·exact .inl ⟨v,d,yg q,by simp[dW,q],h⟩
  ·rw[xZ (p:=(k',v)) q];simp only[aT,dW,if_neg q];exact Aa hs
noncomputable def dcK:D->Option (List (List Kt)×List D)
 | .dcu ks ds=>some (ks,ds)
 | .dcf ks ds=>some (ks,ds)
 |_=>none
theorem T8 {G:Gx}{O:Zaa}{H:Hp}{v:V}{d:D}{ks:List (List Kt)}{ds:List D}(h:DW G O H v d)(e:dcK d=some (ks,ds)):∃a ι,v=.ref a/\Rd H a (.dT (KTp G.K) ι)/\ι.map (·.1)=ks/\DVs G O H (ι.map (·.2)) ds:=by
 cases d with
 |dcu ks' ds'=>
  cases e;obtain⟨p,ι,ws,rfl,hp,e1,rfl,hd⟩:=Ru h;exact⟨p,ι,rfl,.inl hp,e1,hd⟩
 |dcf ks' ds'=>
  cases e;rcases h with h|⟨_,_,_,h⟩
  ·cases h with
   |dcf e1 e2 e3 hs=>subst e3;exact⟨_,_,rfl,.inr ⟨_,e1⟩,e2,hs⟩
  ·exact h.elim
 |_=>cases e
section
variable {X:Cx}{E:XK}
def Jt (d k:D):Option D:=(dcK d).bind λc=>(vO k).bind<|dW c.1 c.2
def Wh (k d:D):Option Bool:=(dcK d).bind λc=>(vO k).map λk=>(dW c.1 c.2 k).isSome
def HW (d e:D):Option Bool:=(Wh d e).map (!·)
theorem MJ {G:Gx}{O:Zaa}{H:Hp}{k:List Kt}{ι:List (List Kt×V)}{ds:List D}(hd:DVs G O H (ι.map (·.2)) ds):(uz ι k).isSome=(dW (ι.map (·.1)) ds k).isSome:=by
 rcases Aa (k:=k) hd with⟨_,_,a,b,_⟩|⟨a,b⟩<;>simp[a,b]
theorem We {j:Nat}(hr:gw j X.A):OpR X (eW .NotIn) (rGB (gx X) HW):=by
 intro π s σ H x y v u Q I rx ry h;obtain⟨O,d,e,r,m,hx,hy,e1,q⟩:=h;obtain⟨c,e0,rfl⟩:=omap e1;obtain⟨⟨ks,ds⟩,ec,e3⟩:=ix.mp e0;obtain⟨k,e2,rfl⟩:=omap e3;obtain⟨p,ι,rfl,hp,rfl,hd⟩:=T8 hy ec;obtain⟨b,rfl,hb⟩:=vB hx e2;cases ry;refine Xb (qZ hr) I (.inr ⟨ι,k,b,hp,rfl,hb,rfl⟩) rx λs' I'=>⟨.bl _,H,I',rfl,?_⟩;rw[MJ hd];exact q
variable {a b:Expr}{fa fb:Zae}{pos:Pos}
theorem Oa {j:Nat}(hr:gw j X.A)(ha:FB X E a fa)(hb:FB X E b fb)(hs:aac b):FE X E (.Subscript a b pos) (aB Jt fa fb):=
 bN (Wd (qZ hr) ha hb hs) λσ H Q hE=>xq5 hE λO0 M0 H0 ow m R q=>two (r:=λx y H Q=>∃a v,x=.ref a/\Ub X.K H a y (some v)/\Q v H) R (K:=λz H=>∀v H',aN H H'->DV (gx X) (Ow O0 ow) H' v z->Q v H') q (λ_ _ k g v H' g' d=>k v H' (g.trans g') d) λx y d e H' g hx hy q' R'=>by
  obtain⟨r,hr,k⟩:=q'.ofO;obtain⟨⟨ks,ds⟩,ec,hr⟩:=ix.mp hr;obtain⟨ky,e2,e3⟩:=ix.mp hr;obtain⟨p,ι,rfl,hp,rfl,hd⟩:=T8 hx ec;obtain⟨b,rfl,hb⟩:=vB hy e2;rcases Aa (k:=ky) hd with⟨v,d,a,c,dv⟩|⟨a,c⟩
  ·have e3:dW (ι.map (·.1)) ds ky=some r:=e3;rw[c] at e3;cases e3;exact⟨p,v,rfl,.inr ⟨ι,ky,b,hp,rfl,hb,a.symm⟩,k _ _ (aN.refl _) dv⟩
  ·have e3:dW (ι.map (·.1)) ds ky=some r:=e3;rw[c] at e3;cases e3
noncomputable def vh:Zae:=λ_=>.ok<|.dcu [] []
theorem zO:FN X E (.Dict [] [] pos) vh:=bN UG λσ H Q ⟨O0,M0,H0,ow,m,R,q⟩ p hp=>q p _ (bO hp _) hp ⟨[],[],bu,rfl,rfl,.nil⟩
end
theorem Cv (k:List Kt)(v:V):∀ι:List (List Kt×V),(ι.map λkv=>if kv.1=k then(kv.1,v) else kv).map (·.1)=ι.map (·.1)
 |[]=>rfl
 |p::ι=>by
  rw[aT,aT,aT,Cv k v ι];split<;>rfl
theorem wR {G:Gx}{O:Zaa}{H:Hp}{k:List Kt}{v:V}{d:D}(h:DV G O H v d):∀{ι:List (List Kt×V)} {ds:List D},DVs G O H (ι.map (·.2)) ds->DVs G O H ((ι.map λkv=>if kv.1=k then(kv.1,v) else kv).map (·.2)) (vX (ι.map (·.1)) ds k d)
 |[],_,.nil=>.nil
 |(k',v')::ι,_,.cons h1 hs=>by
  simp only[aT,vX];split
  ·exact .cons h<|wR h hs
  ·exact .cons h1<|wR h hs
theorem Yh {G:Gx}{O:Zaa}{H:Hp}{k:List Kt}{v:V}{d:D}{ι:List (List Kt×V)}{ds:List D}(h:DV G O H v d)(hs:DVs G O H (ι.map (·.2)) ds):
  (putK ι k v).map (·.1)=(uy (ι.map (·.1)) ds k d).1/\DVs G O H ((putK ι k v).map (·.2)) (uy (ι.map (·.1)) ds k d).2:=by
 have e:(ι.any λkv=>decide<|kv.1=k)=(ι.map (·.1)).any λx=>decide (x=k):=by rw[rh];rfl
 unfold putK uy;rw[e];split
 ·exact⟨Cv k v ι,wR h hs⟩
 ·exact⟨by simp,by rw[dQ];exact lD hs<|.cons h .nil⟩
noncomputable def vM (m:Me)(i:Nat):Option (Bool×List (List Kt)×List D):=match m[i]? with
 |some (.ow<|.dcu ks ds)=>some (true,ks,ds)
 |some (.io<|.dcu ks ds)=>some (false,ks,ds)
 |_=>none
noncomputable def pC (m:Me)(i:Nat)(k:Bool)(ks:List (List Kt))(ds:List D):Me:=m.set i<|if k then .ow (.dcu ks ds) else .io (.dcu ks ds)
section
variable {G:Gx}{O0 M0:Zaa}{H0:Hp}{ow:Os}{σ:L2.St}{H:Hp}{m:Me}
theorem Hh (R:Rel G O0 M0 H0 ow σ H m){i:Nat}{k:Bool}{ks:List (List Kt)}{ds:List D}(e:vM m i=some (k,ks,ds)):∃a ι,ow i=some a/\σ[i]? = some (some<|.ref a)/\H a=some (.dT (KTp G.K) ι)/\ι.map (·.1)=ks/\DVs G (Ow O0 ow) H (ι.map (·.2)) ds/\((m[i]? = some (.ow<|.dcu ks ds)/\k=true)\/(m[i]? = some (.io<|.dcu ks ds)/\k=false)):=by
 unfold vM at e;split at e
 ·rename_i q;cases e;obtain⟨a,e1,e2,e3,ι,vs,e4,e5,rfl,e6⟩:=R.slot i _ q;exact⟨a,ι,e1,e3,e4,e5,e6,.inl ⟨q,rfl⟩⟩
 ·rename_i q;cases e;obtain⟨a,e1,e2,e3,ι,vs,e4,e5,rfl,e6⟩:=R.slot i _ q;exact⟨a,ι,e1,e3,e4,e5,e6,.inr ⟨q,rfl⟩⟩
 ·cases e
theorem gH.pC {i:Nat}{k:Bool}{a:Addr}{ks ls:List (List Kt)}{ds es:List D}{ι:List (List Kt×V)}(R:gH G O0 M0 H0 ow σ H m)(ho:ow i=some a)(hm:(m[i]? = some (.ow<|.dcu ks ds)/\k=true)\/(m[i]? = some (.io<|.dcu ks ds)/\k=false))
  (hk:ι.map (·.1)=ls) (hd:DVs G (Ow O0 ow) H (ι.map (·.2)) es):gH G O0 M0 H0 ow σ (L2.upd H a<|.dT (KTp G.K) ι) (F.pC m i k ls es)/\Go O0 ow H ow (L2.upd H a<|.dT (KTp G.K) ι):=by
 have oa:Ow O0 ow a:=.inr ⟨i,ho⟩;have kp:Kp (Ow O0 ow) H (L2.upd H a<|.dT (KTp G.K) ι):=λb u e n=>yx b u e λz=>n<|z▸oa;have ov:OV G (Ow O0 ow) (L2.upd H a<|.dT (KTp G.K) ι) a (.dcu ls es):=⟨ι,_,L2.bu,hk,rfl,hd.kp R.mutk kp⟩;refine⟨R.chg (d:=.dcu ks ds) (d':=.dcu ls es) ho yx ov ?_,Go.chg ho yx ov⟩;rcases hm with⟨e,rfl⟩|⟨e,rfl⟩
 ·exact .inl ⟨e,rfl⟩
 ·exact .inr ⟨e,rfl⟩
end
def Fd (i:Nat)(fk fv:Zae):Zab:=λm=>(fv m).bind λd=>(ofO<|vM m i).bind λo=>(fk m).bind λk=>(ofO<|vO k).bind λk=>
 if o.2.1.length<ay then .ok (.nx,pC m i o.1 (uy o.2.1 o.2.2 k d).1 (uy o.2.1 o.2.2 k d).2) else .stuck
section
variable {X:Cx}{E:XK}{e ke:Expr}{f fk:Zae}{pos spos np:Pos}{x:Str}
theorem Ny {jj:Nat}(i:Nat)(hr:gw jj X.A)(he:FE X E e f)(hk:FE X E ke fk)(hN:X.N[i]? = some x:=by rfl)(hv:Vis X.env.scope x:=by first|exact d4 rfl|exact fA (d4 rfl)|exact fA (fA rfl))(hd:(x==("__debug__":Str))=false:=by decide)(hcd:(x==("__classdict__":Str))=false:=by decide)
  (hs:fR e (some<|.Subscript (.Name x np) ke spos) pos.line X.env=pure false:=by rfl):FS X E (.Assign [.Subscript (.Name x np) ke spos] e pos) (Fd i fk f):=
 cU (WM (qZ hr) (je hN hv hd hcd) hk he hs) λW σ H hE=>xq5 hE λO0 M0 H0 ow m R q=>
  ⟨O0,M0,H0,ow,m,R.toRel,(Ss.pu R.toRel q).imp (aN.refl _) λd q v H1 g1 hv=>by
   obtain⟨o,ho,q⟩:=Ss.ofO q;obtain⟨k,ks,ds⟩:=o;have R1:=R.mono g1;obtain⟨a,ι,e1,e2,e3,e4,e5,e6⟩:=Hh R1.toRel ho;refine⟨_,e2,O0,M0,H0,ow,m,R1.toRel,(Ss.pu R1.toRel<|q.go<|Go.refl g1).imp (aN.refl _) λdk q vk H2 g2 hvk=>?_⟩;obtain⟨ky,h1,q⟩:=Ss.ofO q;obtain⟨b,rfl,hb⟩:=vB (.inl hvk) h1;by_cases hz:ks.length<ay
   ·rw[if_pos hz] at q;have R2:=R1.mono g2;obtain⟨p1,p2⟩:=Yh (k:=ky) (hv.mono g2)<|e5.mono g2;rw[e4] at p1 p2;obtain⟨R3,g3⟩:=R2.pC e1 e6 p1 p2;exact⟨a,_,rfl,RC.t (g2 _ _ e3) hb (by rw[← dE (f:=(·.1)),e4];exact hz),q _ _ _ R3<|(Go.refl g2).trans g3⟩
   ·rw[if_neg hz] at q;exact q.elim⟩
end
section
end
section
end
section
variable {X:Cx}{E:XK}{rest:List Stmt}{k:Zab}
end
section
variable {X:Cx}{tg:Expr}
end
theorem PX (p:Addr)(v:Array av)(c:Nat)(k:Int)(t:Tok)(dd:Option Addr)(sl:Array (Option av))(z0:¬(!Builtin.List.listFitsIndex k)=true)(z1:¬v.size*k.toNat>(2^63-1)/8)(z2:¬ic (v.size*k.toNat)=true):
  Meets (sT.«list.__mul__» ⟨[.ref p,.int k t],[]⟩) (λ_ R s=>s.heap.get? p=some { cls:=.type "list",dict:=dd,data:=.seq v c,slots:=sl }/\
   R (.ok<|.ret<|bE s.heap.objs.size) { s with heap:=s.heap.push { cls:=AL "list",data:=Data.seq (xC (λx1 x2=>x1++x2) #[] (br (if v.isEmpty=true then 0 else k.toNat) v)) },toks:=s.toks }):=
 .of_wp λ_ _ _ R s w=>by
  obtain⟨h0,g0,d0,k0,o0⟩:=s;obtain⟨e,w⟩:=w;have z:=AutoListH.joined_fits z2
  wp_walk
  refine wpAny_ite_false (decide_eq_false<|Nat.not_lt.mpr z) ?_
  wp_walk
  exact⟨_,rfl,w⟩
theorem QB (k:Int)(t:Tok)(p:Addr)(v:Array av)(c:Nat)(dd:Option Addr)(sl:Array (Option av)):
  Meets (sT.«int.__rmul__» ⟨[.int k t,.ref p],[]⟩) (λ_ R s=>s.heap.get? p=some { cls:=.type "list",dict:=dd,data:=.seq v c,slots:=sl }/\R (.ok<|.ret Value.notImplemented) s):=
 .of_wp λ_ _ _ R s w=>by
  obtain⟨h0,g0,d0,k0,o0⟩:=s;obtain⟨e,w⟩:=w
  wp_walk
  exact⟨_,rfl,w⟩
def wj:D->D->Option D
 | .lst ds,.int k=>if 0<=k/\k<2^63/\ds.length*k.toNat<=ay then some (.lst (br k.toNat ds).flatten) else none
 |_,_=>none
section
theorem My (h:DVs G O H xs ds):∀k,DVs G O H (br k xs).flatten (br k ds).flatten
 |0=>.nil
 |k+1=>by rw[hV,hV,kg,kg];exact lD h<|My h k
theorem Bf:OpR X (gT .Mult) (rG (gx X) wj):=by
 intro π s σ H x y v u Q I rx ry h;refine uw h λO d e r m hx hy hr q=>?_;unfold wj at hr;split at hr
 ·rename_i ds k;obtain⟨⟨h0,h1,hz⟩,rfl⟩:=oif hr;obtain⟨a,xs,rfl,ha,hd⟩:=iw hx;cases bR hy;cases rx;obtain⟨t,rfl⟩:=ry;obtain⟨χ,rv,pl,_⟩:=I.list ha;have l1:=cu hd;have l2:=rv.length;obtain⟨⟨cls,dd,data,sl⟩,ho,hc,n,hdt⟩:=id pl.isList;simp only at hc hdt;subst hc hdt;have sz:χ.toArray.size*k.toNat<=ay:=by rw[a9,← l2,l1];exact hz
  have w1:¬χ.toArray.size*k.toNat>(2^63-1)/8:=by
   have:(ay:Nat)<=(2^63-1)/8:=by decide
   lia
  have w0:¬(!Builtin.List.listFitsIndex k)=true:=by
   rw[fitsIndex_both (by lia) h1];exact aE
  have w2:¬ic (χ.toArray.size*k.toNat)=true:=by
   rw[HD sz];exact aE
  have en:xC (λx1 x2=>x1++x2) #[] (br (if χ.toArray.isEmpty=true then 0 else k.toNat) χ.toArray)=(br k.toNat χ).flatten.toArray:=by
   have f0:∀m:Nat,xC (λx1 x2=>x1++x2) #[] (br m χ.toArray)=(br m χ).flatten.toArray:=λm=>by
    have z:=foldl_rep χ m [];rw[mh] at z;exact z
   rw[f0];cases χ with
   |nil=>simp
   |cons _ _=>rw[if_neg<|by simp]
  refine wpAny_binaryOp_repeat_ref (T:="list") (U:="int") (by decide) ⟨_,ho,rfl⟩ (λs'=>nc s' k t) noFill_list_mul xb xh repeat_list uS.lookup
   (xD xh (nc s k t) PySem.F.entry_int_rmul (PySem.F.args_int_rmul_2 _ _) (QB k t a χ.toArray n dd sl)
    ⟨ho,rfl,⟨_,ho,rfl⟩,xD PySem.F.slot_list_mul ⟨_,ho,rfl⟩ PySem.F.entry_list_mul (PySem.F.args_list_mul_2 _ _) (PX a χ.toArray n k t dd sl w0 w1 w2) ⟨ho,?_⟩⟩)
  rw[en];exact Mr (tk:=s.toks) I m (My hd k.toNat) (rv.rep k.toNat) (by rw[len_rep,Nat.mul_comm,l1];exact hz) (λb o e=>af _ e) ⟨0,a7 _ rfl⟩<|Ln m q
 ·cases hr
end
section
variable {pr:bo}{wo:dc}{A:dy}{R:Result->aS->Prop}{I:Addr}{fp wr:List Addr}{G:Array nL->Array nL->Prop}{n:Nat}{P:Nat->av->Prop}{St:Nat->aS->Prop}
end
section
end
section
end
structure Wr (p:Prop):Prop where
 out:p
section
variable {X:Cx}{E:XK}{e a b c ke:Expr}{es:List Expr}{st:Stmt}{rest sa sb:List Stmt}{f fa fb fk:Zae}{fs:Zad}{ft:Zaf}{gg k ga gb:Zab}{pos pos' apos ρ np spos p:Pos}{i:Nat}{x:Str}
theorem eF (h1:Wr (FS X E st gg))(h2:Wr (FSs X E rest k)):Wr (FSs X E (st::rest)<|aJ gg k):=⟨aC h1.out h2.out⟩
theorem rB (h1:Wr (FS X E st gg)):Wr (FSs X E [st] gg):=⟨aF h1.out⟩
theorem Dc (hc:Wr (FT X E c ft))(ha:Wr (FSs X E sa ga))(hb:Wr (FSs X E sb gb)):Wr (FS X E (.If c sa sb pos)<|gIf ft ga gb):=⟨cg hc.out ha.out hb.out⟩
theorem qe (hN:X.N.Nodup)(hi:X.N[i]? = some x)(hx:Loc X.env.scope x)(he:Wr (FE X E e f))(hs:fR e (some<|.Name x pos') pos.line X.env=pure false:=by rfl)
  (hf:X.fn x=true\/X.env.scope.names.lookup x=some .local:=by first|exact .inl rfl|exact .inr rfl|assumption):Wr (FS X E (.Assign [.Name x pos'] e pos)<|bj i f):=⟨Rh hN hi hx he.out hs hf⟩
theorem YH (hN:X.N.Nodup)(hi:X.N[i]? = some x)(hx:Loc X.env.scope x)(he:Wr (FN X E e f))(hs:fR e (some<|.Name x pos') pos.line X.env=pure false:=by rfl)
  (hf:X.fn x=true\/X.env.scope.names.lookup x=some .local:=by first|exact .inl rfl|exact .inr rfl|assumption):Wr (FS X E (.Assign [.Name x pos'] e pos)<|gY i f):=⟨S6 hN hi hx he.out hs hf⟩
theorem wX (he:Wr (FE X E e f)):Wr (FS X E (.Return (some e) pos)<|bz f):=⟨bG he.out⟩
theorem aP (ha:Wr (FE X E e fa))(hr:Wr (FAE X E es fs))(hs:ag (e::es) X.env=(false,eval e X.env)::ag es X.env:=by rfl):Wr (FAE X E (e::es)<|aa fa fs):=⟨aj ha.out hr.out hs⟩
theorem acF (ha:Wr (FB X E e fa))(hr:Wr (FAB X E es fs))(hs:ag (e::es) X.env=(false,eval e X.env)::ag es X.env:=by rfl):Wr (FAB X E (e::es)<|aa fa fs):=⟨aQ ha.out hr.out hs⟩
theorem dw (h:Wr (FAE X E es fs)):Wr (FE X E (.Tuple es x1 pos)<|aM fs):=⟨aW h.out⟩
theorem vU (h:Wr (FAE X E es fs)):Wr (FN X E (.List es pos)<|eG fs):=⟨gr h.out⟩
theorem wu (h:Wr (FN X E e f)):Wr (FE X E e f):=⟨iT h.out⟩
theorem bV (h:Wr (FE X E e f)):Wr (FB X E e f):=⟨au h.out⟩
theorem fO (ho:OpR X (gT op) (rG (gx X) g))(ha:Wr (FB X E a fa))(hb:Wr (FB X E b fb)):Wr (FE X E (.BinOp a op b pos)<|aB g fa fb):=⟨aO ho ha.out hb.out⟩
theorem Dd (ho:IxR X (rG (gx X) g))(ha:Wr (FB X E a fa))(hb:Wr (FB X E b fb))(hs:zZ b):Wr (FE X E (.Subscript a b pos)<|aB g fa fb):=⟨Ym ho ha.out hb.out hs⟩
theorem v5 (ho:OpR X (eW op) (rGB (gx X) g))(ha:Wr (FB X E a fa))(hb:Wr (FB X E b fb))(hm:iX op b=false):Wr (FT X E (.Compare a [op] [b] pos)<|aL g fa fb):=⟨bK ho ha.out hb.out hm⟩
theorem acq (hc:fX X (.type T) (rGC (gx X) g))(hg:Gl X x)(hm:X.mg x=none)(hv:b0 x=some (.type T))(ha:Wr (FAB X E (e::es) fs))(hn:x≠"__name__":=by decide)(hdb:(x==("__debug__":Str))=false:=by decide)
  (he:ag (e::es) X.env=(false,eval e X.env)::ag es X.env:=by rfl) (ξ:(ia pos<|ag es X.env).any (·.1)=false:=by rfl):Wr (FE X E (.Call (.Name x p) (e::es) [] pos)<|aR g fs):=⟨kj hc hg hm hv ha.out hn hdb he ξ⟩
end
section
variable {pr:bo}{wo:dc}{A:dy}{E:Zs}{s:aS}{κ:Type}[DecidableEq κ]{kn:HeapKind pr wo κ}
theorem Wx (hu:kn.room A)(hk:kn.is s.heap k a)(hm:s.heap.DictOfH kn d xs)(hz:xs.length<=ay)
  (old:∀p,A3 xs k=some p->Q p.2 { s with toks:=s.toks+kn.draws k })
  (new:A3 xs k=none->∀h',h'.DictOfH kn d (xs++[(k,a,v)])->iS d s.heap h'->Q v { s with heap:=h',toks:=s.toks+kn.draws k }):
  bg (b9 pr wo) A (yy d (.ref a) v) Q E s:=by
 refine Dr (id hm) λo es ep ho hc hd he hi hn=>?_;unfold yy;refine gX<|ae<|kn.pyHash hu hk<|ae<|wpAny_dictFind_heap (s:={ s with toks:=s.toks+kn.draws k }) hu hk ho hd he hi hn (λno=>?_) λj p hj=>?_
 ·have h0:=atKey_none_of_get no;have nk:=not_mem_keys_of_get no;have es1:=size_of_entries he;refine ae (pj<|ae<|wpAny_updateDictKeys (hz:=by lia) (s:={ s with toks:=s.toks+kn.draws k }) ho hd (ah<|new h0 _ ⟨_,_,ep+1,dP _ ho<|Obj.isFreed_of_dict<|x9 hd _,hc.mapDictKeys _,x9 hd _,?_,λy hy=>?_,?_⟩<|h7 ..))
  ·simp[he,entryOfKey]
  ·rcases cS.mp hy with z|z
   ·exact kn.keeps (hi y z) ho hd<|h7 ..
   ·rw[bP.mp z];exact kn.keeps hk ho hd<|h7 ..
  ·rw[dQ,List.nodup_append];refine⟨hn,by simp,λy hy z hz' e=>nk ?_⟩;have e2:z=k:=bP.mp hz';rw[← e2,← e];exact hy
 ·refine ae<|ng (s:={ s with toks:=s.toks+kn.draws k }) ho hd ?_;rw[entry_at he j,hj];exact ae<|pj<|ah<|old p<|atKey_of_get hn hj
theorem U3 (hu:kn.room A.in1)(hk:kn.is s.heap k a)(hm:s.heap.DictOfH kn d xs)(hz:xs.length<=ay)(hd:(d==iA)=false)
  (old:∀p,A3 xs k=some p->Q p.2 { s with toks:=s.toks+kn.draws k })
  (new:A3 xs k=none->∀h',h'.DictOfH kn d (xs++[(k,a,v)])->iS d s.heap h'->Q v { s with heap:=h',toks:=s.toks+kn.draws k }):
  bg (b9 pr wo) A (call (.builtin "dict.setdefault") [.ref d,.ref a,v]) Q E s:=by
 refine g9 pf hm.typeIs PySem.F.entry_dict_setdefault ?_<|PySem.F.args_dict_setdefault_3 _ _ _;unfold sT.«dict.setdefault»;refine ae ?_;unfold Builtin.Dict.keyAndDefault;refine ae<|wpAny_notOrdered_dict hm.typeIs ?_;show bg _ _ (pure (d,bE a,some v)) _ _ s;refine ah ?_;show bg _ _ (if(d==iA)=true then _ else(yy d (.ref a) v >>= _)) _ _ s;rw[if_neg (by rw[hd];exact aE)];exact ae<|Wx hu hk hm hz (λp e=>ah ⟨p.2,rfl,old p e⟩) λe h' x y=>ah ⟨v,rfl,new e h' x y⟩
end
def adA (K:bb)(td ty tx:TE):TE:=λσ H Q=>td σ H λx H1=>∃a,x=.ref a/\IsD K H1 a/\ty σ H1 λy H2=>tx σ H2 λz H3=>∃ι k b,H3 a=some (.dT (KTp K) ι)/\y=.ref b/\TrT (KTp K) H3 b k/\ι.length<ay/\
 (∀v,uz ι k=some v->Q v H3)/\(uz ι k=none->Q z (upd H3 a<|.dT (KTp K)<|ι++[(k,z)]))
section
theorem Tt (hu:X.A.units+16<pw)(ho:PE X o td)(he:PE X e ty)(hf:PE X f tx)(m:M2 X o "setdefault" apos e f ρ):PE X (.Call (.Attribute o "setdefault" apos) [e,f] [] ρ) (adA X.K td ty tx):=by
 intro π s σ H Q I h;refine wpAny_Call_method m.base m.few m.line tm pf PySem.F.type_dict_setdefault<|thn (ho π s σ H _ I h) λu s1 hE=>?_;obtain⟨x,H1,I1,rx,a,ex,d,q1⟩:=hE;subst ex;cases(show u=bE a from rx);obtain⟨t1,t2,_⟩:=aal I1 d;refine⟨t1,t2,?_⟩;rw[m.trees];refine mI rfl (oQ (mm (thn (he π s1 σ H1 _ I1 q1) λiv s2 hE=>xq2 hE λy H2 I2 ry q2=>
  mm (thn (hf π s2 σ H2 _ I2 q2) λfv s3 hE=>sg ?_))))
 obtain⟨z,H3,I3,rz,ι,k,b,e3,ey,eb,l,q3,q4⟩:=hE;subst ey;cases(show iv=bE b from ry);obtain⟨sz,hd,xs,rel,dd⟩:=Sh (Cq I3) I3.hok e3;have hz:xs.length<=ay:=by rw[← k8 rel];exact sz
 have rv:=rel.val k;refine U3 (vD hu) (yK I3 eb) dd hz hd (λp hp=>?_) λhn h' dd' hs=>?_
 ·rw[hp] at rv;cases ev:uz ι k with
  |none=>rw[ev] at rv;cases rv
  |some v=>
   rw[ev] at rv;exact⟨v,H3,I3.tok _,rv,q3 v ev⟩
 ·rw[hn] at rv;cases ev:uz ι k with
  |some v=>rw[ev] at rv;cases rv
  |none=>
   have rp:=rel.put k eb rz;rw[Rv _ ev,storedH_new hn] at rp;refine Dr dd' λq es ep hq h2 h3 h4 _ h5=>?_;refine⟨z,upd H3 a<|.dT (KTp X.K)<|ι++[(k,z)],Ae I3 (by rw[e3];exact fg) hs ⟨q,hq⟩ ⟨by rw[cc,eK];lia,hd,_,rp.keeps λc ys ec=>?_,q,es,ep,hq,h2,h3,h4,h5⟩,rz,q4 ev⟩;rw[bD<|Ua ec e3 λz=>nomatch z];exact ec
end
def X4 (i:Nat)(fk fv:Zae):Zab:=λm=>(ofO<|vM m i).bind λo=>(fk m).bind λk=>(fv m).bind λd=>(ofO<|vO k).bind λk=>
 if o.2.1.length<ay then .ok (.nx,if(dW o.2.1 o.2.2 k).isSome then m else pC m i o.1 (o.2.1++[k]) (o.2.2++[d])) else .stuck
section
theorem aaO (i:Nat)(hr:gw jj X.A)(hk:FE X E ke fk)(he:FE X E e f)(hm:M2 X (.Name x np) "setdefault" apos ke e ρ)(hN:X.N[i]? = some x:=by rfl)(hv:Vis X.env.scope x:=by first|exact d4 rfl|exact fA (d4 rfl)|exact fA (fA rfl))(hd:(x==("__debug__":Str))=false:=by decide)(hcd:(x==("__classdict__":Str))=false:=by decide)
  (υ:fR (.Call (.Attribute (.Name x np) "setdefault" apos) [ke,e] [] ρ) none pos.line X.env=pure false:=by rfl):FS X E (.Expr (.Call (.Attribute (.Name x np) "setdefault" apos) [ke,e] [] ρ) pos) (X4 i fk f):=
 cU (Ag (Tt (qZ hr) (je hN hv hd hcd) hk he hm) υ) λW σ H hE=>xq5 hE λO0 M0 H0 ow m R q=>by
  obtain⟨o,ho,q⟩:=Ss.ofO q;obtain⟨k,ks,ds⟩:=o;refine Np (Hh R.toRel ho) λa ι e1 e2 e3 e4 e5 e6=>?_;refine⟨_,e2,a,rfl,.inr ⟨ι,.inl e3⟩,O0,M0,H0,ow,m,R.toRel,(Ss.pu R.toRel q).imp (aN.refl _) λdk q vk H1 g1 hvk=>?_⟩;have R1:=R.mono g1;refine⟨O0,M0,H0,ow,m,R1.toRel,(Ss.pu R1.toRel<|q.go<|Go.refl g1).imp (aN.refl _) λd q v H2 g2 hv=>?_⟩;obtain⟨ky,h1,q⟩:=Ss.ofO q;obtain⟨b,rfl,hb⟩:=vB (.inl<|hvk.mono g2) h1;have R2:=R1.mono g2;have e3':=g2 _ _<|g1 _ _ e3;have e5':=(e5.mono g1).mono g2;have uf:=MJ (k:=ky) e5';rw[e4] at uf;by_cases hz:ks.length<ay
  ·rw[if_pos hz] at q;refine⟨ι,ky,b,e3',rfl,hb,by rw[← dE (f:=(·.1)),e4];exact hz,λv' ev=>?_,λev=>?_⟩
   ·rw[ev] at uf;rw[← uf] at q;exact q _ _ _ R2<|Go.refl g2
   ·rw[ev] at uf;rw[← uf] at q;obtain⟨R3,g3⟩:=R2.pC (ls:=ks++[ky]) (es:=ds++[d]) (ι:=ι++[(ky,v)]) e1 e6 (by simp[e4]) (by rw[dQ];exact lD e5'<|.cons hv .nil);exact q _ _ _ R3<|(Go.refl g2).trans g3
  ·rw[if_neg hz] at q;exact q.elim
end
def zH (h:Heap)(d:Addr)(es:Array DictEntry)(ep:Nat):Prop:=∃o,h.get? d=some o/\o.ExactDict/\o.data=.dict es ep
section
variable {prog:bo}{w:dc}{A:dy}{E:Zs}{s:aS}{d it v:Addr}{es:Array DictEntry}{ep i:Nat}
theorem zH.ty (x:zH s.heap d es ep):s.TypeIs (.ref d) "dict":=let⟨o,h,c,_⟩:=x;⟨o,h,c.1⟩
theorem zH.up (x:zH h d es ep)(k:∀o,h.get? d=some o->h'.get? d=some o):zH h' d es ep:=let⟨o,e,r⟩:=x;⟨o,k o e,r⟩
theorem R9 (nd:(d==iA)=false)(x:zH s.heap d es ep)
  (k:Q (.ref s.heap.objs.size) { s with heap:=s.heap.push { cls:=.type "dict_values",data:=.fields #[.ref d] } }):bg (b9 prog w) A (call (.builtin "dict.values") [.ref d]) Q E s:=by
 refine g9 so x.ty PySem.F.entry_dict_values ?_<|PySem.F.args_dict_values_1 _;refine ae ?_;unfold Builtin.Dict.noArgs;refine ae<|wpAny_notOrdered_dict x.ty<|show bg _ _ (pure d) _ _ s from ah ?_;show bg _ _ (xi d >>= _) _ _ s;unfold xi;rw[if_neg (λz=>by rw[nd] at z;cases z)];exact ae<|ah<|ae<|eC<|ah ⟨_,rfl,k⟩
theorem ach (hv:s.heap.IsValuesView v d)(x:zH s.heap d es ep)
  (k:Q (.ref s.heap.objs.size) { s with heap:=s.heap.push { cls:=.type "dict_valueiterator",data:=.fields #[.ref d,.int 0 0,.int es.size 0,.int ep 0] } }):bg (b9 prog w) A (pyIter<|.ref v) Q E s:=by
 obtain⟨q,hq,hc,hf⟩:=id hv;obtain⟨o,ho,hx,ht⟩:=id x;have no:kN "dict_valueiterator" = false:=by decide
 refine wpAny_pyIter_slot hv.typeIs oz<|g9 oz hv.typeIs PySem.F.entry_dict_values_iter ?_<|PySem.F.args_dict_values_iter_1 _;unfold sT.«dict_values.__iter__»;refine ae<|ah<|ae ?_;unfold Builtin.Dict_items.dictOf;refine ae<|hU hq hf (x:=.ref d) rfl<|ah<|ae ?_;unfold Builtin.Dict_items.newIterator;refine ae<|ng ho ht<|ae<|xo ho ht ?_;simp only[no,gv,if_false];exact eC<|ah ⟨_,rfl, "dict_valueiterator",_,⟨_,a7 _ rfl,rfl⟩,eJ.lookup,by simpa[vE] using k⟩
theorem aby (hit:s.heap.IsValIter it d i es.size ep)(x:zH s.heap d es ep)
  (lt:i<es.size) (go:∀h',h'.IsValIter it d (i+1) es.size ep->iS it s.heap h'->Q (some es[i].val) { s with heap:=h' }):bg (b9 prog w) A (zC<|.ref it) Q E s:=by
 obtain⟨q,hq,hc,hf⟩:=id hit;obtain⟨o,ho,hx,ht⟩:=id x;have ty:=hit.typeIs;have e1:es[i]? = some es[i]:=r0 lt;have no:kN "dict_valueiterator" = false:=by decide
 have turned:(s.heap.update it<|kC (·.setIfInBounds 1 (vE<|(i:Int)+1))).IsValIter it d (i+1) es.size ep:=
  ⟨_,dP _ hq<|wm<|mo hf _,(Obj.cls_mapFields ..).trans hc,by rw[mo hf];simp[vE]⟩
 have fin:=go _ turned<|h7 ..;unfold zC;refine ae<|tq<|iq (name:=cf "__next__") ty eJ<|g9 eJ ty lP ?_<|lj _;refine ae<|ah<|ae<|ae ?_
 first
 |refine ae (ij ty<|ah<|ae<|r6 hq hf ?_)
 |refine ae (kl ty<|ah<|ae<|r6 hq hf ?_)
 simp only[no,gv,if_false];show bg _ _ (if(bE d==eM)=true then _ else _) _ _ s;rw[if_neg λz=>by cases(show false=true from z)];refine ae<|ah<|ae<|ng ho ht ?_;rw[if_neg<|by simp];refine ae<|ah<|ae<|xo ho ht ?_;rw[if_neg<|by simp];refine ah ?_;simp only[show ¬((i:Int)<0) by lia,if_false,nh,e1];refine ae ?_
 first
 |refine ae (ij ty<|ah<|ae<|kX ty ?_)
 |refine ae (kl ty<|ah<|ae<|kX ty ?_)
 show bg _ _ (setField (.ref it) 1 (vE<|(i:Int)+1) >>= _) _ _ s;refine ae<|kK hq hf (by simp)<|ae<|gX ?_;refine ae<|kX (s:={ s with heap:=s.heap.update it (kC (·.setIfInBounds 1 (vE<|(i:Int)+1))) }) turned.typeIs ?_;refine ae<|kX (s:={ s with heap:=s.heap.update it (kC (·.setIfInBounds 1 (vE<|(i:Int)+1))) }) turned.typeIs ?_;exact(show bg _ _ (pure es[i].val) _ _ _ from ah (ah ⟨_,rfl,ah fin⟩))
theorem PJ (hh:A.handled=none)(hit:s.heap.IsValIter it d es.size es.size ep)(x:zH s.heap d es ep)
  (go:∀h',Bz it s.heap h'->Q none { s with heap:=h' }):bg (b9 prog w) A (zC<|.ref it) Q E s:=by
 obtain⟨q,hq,hc,hf⟩:=id hit;obtain⟨o,ho,hx,ht⟩:=id x;have ty:=hit.typeIs;have e1:es[es.size]? = none:=Array.getElem?_eq_none<|aI _;have no:kN "dict_valueiterator" = false:=by decide
 unfold zC;refine ae<|tq<|iq (name:=cf "__next__") ty eJ<|g9 eJ ty lP ?_<|lj _;refine ae<|ah<|ae<|ae ?_
 first
 |refine ae (ij ty<|ah<|ae<|r6 hq hf ?_)
 |refine ae (kl ty<|ah<|ae<|r6 hq hf ?_)
 simp only[no,gv,if_false];show bg _ _ (if(bE d==eM)=true then _ else _) _ _ s;rw[if_neg λz=>by cases(show false=true from z)];refine ae<|ah<|ae<|ng ho ht ?_;rw[if_neg<|by simp];refine ae<|ah<|ae<|xo ho ht ?_;rw[if_neg<|by simp];refine ah ?_;simp only[show ¬((es.size:Int)<0) by lia,if_false,nh,e1];refine ae ?_
 first
 |refine ae (ij ty<|ah ?_)
 |refine ae (kl ty<|ah ?_)
 show bg _ _ (setField (.ref it) 0 .none >>= _) _ _ s;refine ae<|kK hq hf (by simp)<|show bg _ _ (newExc (.type "StopIteration") [] >>= _) _ _ _ from ae ?_;simp only[newExc,newTuple];refine ae<|eC (ae (m:=r9 _ _)<|p0 (a:=eM) (by first|rfl|(simp only[r9];rfl))<|eC ?_<|by size_fits) (by size_fits);simp only[raiseNew];refine ae<|wpAny_handled ?_;rw[show A.in1.handled=none from hh];refine ae<|ah<|wpAny_throw<|ae ?_;refine l5 (T:="StopIteration") (b:=true) ⟨_,a7 _ rfl,rfl⟩ yA<|ah ?_;exact go _<|((h7 ..).extBut.push _).push _
theorem acC (hh:A.handled=none)(ne:d≠it):Walks prog w A it [it,d] [it] es.size (λi v=>∃e,es[i]? = some e/\v=e.val) (λi h=>h.IsValIter it d i es.size ep/\zH h d es ep) where
 sub:=λb hb=>by simp at hb;simp[hb]
 frame:=λ_ _ _ st hk=>⟨let⟨o,e,r⟩:=st.1;⟨o,hk it (by simp) o e,r⟩,st.2.up λo e=>hk d (by simp) o e⟩
 item:=λi s Q E hi st go=>aby st.1 st.2 hi λh' a b=>go _ h' s.toks ⟨_,r0 hi,rfl⟩ ⟨a,st.2.up λo e=>(b.2 d ne).trans e⟩ λc o hc e=>(b.2 c λz=>hc<|by simp[z]).trans e
 done:=λs Q E st go=>PJ hh st.1 st.2 λh' a=>go h' s.toks λc o hc e=>a c o (λz=>hc<|by simp[z]) e
 self:=λ_ _ _ _ st k=>wpAny_pyIter_valiter st.1 k
end
section
variable {X:Cx}
def Fp (p a:Addr)(h:Heap):Prop:=h.IsValuesView p a
theorem RG (I:Inv X π σ H s)(e:H a=some (.dT T ι)):
  ι.length<=ay/\(a==iA)=false/\∃es ep,zH s.heap a es ep/\es.size=ι.length/\Vals (ι.map (·.2)) (es.toList.map (·.val)):=by
 obtain⟨hz,hd,xs,rel,o,es,ep,ho,hx,ht,he,nd⟩:=I.hok a _ e;refine⟨hz,hd,es,ep,⟨o,ho,hx,ht⟩,?_,?_⟩
 ·rw[size_of_entries he,k8 rel]
 ·rw[he,fF];clear he hz hd nd e;induction rel with
  |nil=>exact .nil
  |cons h _ ih=>exact .cons h.2.2 ih
def abl (X:Cx):V->List V->Hp->VK->Prop:=λx vs H Q=>∃a ι,x=.ref a/\vs=[]/\H a=some (.dT (KTp X.K) ι)/\∀p,H p=none->Q (.ref p) (upd H p<|.ext<|Fp p a)
theorem VH:MtR X "dict.values" (abl X):=by
 intro π s σ H x vs v us Q I rx rv h;obtain⟨a,ι,rfl,rfl,e,q⟩:=h;cases rx;have hus:=rv.zero;subst hus;obtain⟨hz,hd,es,ep,x,_⟩:=RG I e;refine R9 hd x ?_;refine⟨.ref _,_,I.laid (t':=s.toks) (λb o e=>af _ e) (aI _)<|show cG X.prog X.w _ _ _ (.ext<|Fp s.heap.objs.size a) from⟨⟨_,a7 _ rfl,rfl,rfl⟩,⟨_,a7 _ rfl⟩,λh1 h2 ⟨o,e,r⟩ k=>⟨o,k o e,r⟩⟩,rfl,q _<|I.hok.fresh<|aI _⟩
theorem adB {es:Array DictEntry}:W.KdlSrc X.prog X.w "dict_values" r d es.size (λi v=>∃e,es[i]? = some e/\v=e.val) (λh=>h.IsValuesView r d/\zH h d es ep) where
 type:=λ_ m=>m.1.typeIs
 there:=λ_ m=>⟨let⟨_,e,_⟩:=m.1;aw e,let⟨_,e,_⟩:=m.2;aw e⟩
 keep:=λ_ _ m k=>⟨let⟨o,e,x⟩:=m.1;⟨o,k r (.inl rfl) o e,x⟩,m.2.up λo e=>k d (.inr rfl) o e⟩
 notList:=by decide
 notTuple:=by decide
 hint:=λ_ _ _ _ m q=>W.kdl_hint_values m.1.typeIs q
 iter:=λ_ _ hh m=>⟨_,_,(λ_ _ q=>ach m.1 m.2 q),acC hh (let⟨_,e,_⟩:=m.2;bp (aw e)),⟨⟨_,a7 _ rfl,rfl,rfl⟩,m.2.up λo e=>af _ e⟩⟩
def rLV (X:Cx):List V->Hp->VK->Prop:=λxs H Q=>∃p a ι,xs=[.ref p]/\H p=some (.ext<|Fp p a)/\H a=some (.dT (KTp X.K) ι)/\∀l,H l=none->Q (.ref l) (upd H l<|.lst<|ι.map (·.2))
theorem JL (hc:X.calm=true):fX X (.type "list") (rLV X):=by
 intro π s σ H xs us Q I r h;obtain⟨p,a,ι,rfl,hp,e,q⟩:=h;obtain⟨u,rfl,rx⟩:=vals1 r;cases rx;obtain⟨hz,hd,es,ep,x,sz,rel⟩:=RG I e;obtain⟨vw,_⟩:=I.hok p _ hp;refine W.kdl_call (adB (ep:=ep)) (I.ok.hd hc) ⟨vw,x⟩ (by lia) λh' tk acc c kp oS it=>?_;have ea:acc.toList=es.toList.map (·.val):=by
  obtain⟨z,h⟩:=it;refine List.ext_getElem (by simp[z]) λi h1 h2=>?_;obtain⟨y,ey,ev⟩:=h i acc[i] (by simp at h1;simp[h1]);obtain⟨lt,ey⟩:=eP.mp ey;simp only[Array.getElem_toList,List.getElem_map];rw[ev,ey]
 refine⟨.ref _,_,I.laid (t':=tk) kp (aI _)<|show cG X.prog X.w _ h' _ (.lst<|ι.map (·.2)) from⟨by rw[dE];exact hz,es.toList.map (·.val),c,rel,?_⟩,rfl,q _<|I.hok.fresh<|aI _⟩;rw[← ea];simpa using oS
end
noncomputable def J3 (fo:Zae):Zae:=λm=>(fo m).bind λd=>match d with
 | .dcu _ ds=>.ok<|.lst ds
 |_=>.stuck
section
theorem TX (hc:X.calm=true)(hg:Gl X "list")(hm:X.mg "list" = none)(ho:FB X E o fo)(ζ:h8 o "values" X.env (eval o X.env)=eval o X.env:=by rfl)(ν:(apos.endLine==ρ.line)=true:=by rfl)
  (hs:ag [.Call (.Attribute o "values" apos) [] [] ρ] X.env=(false,eval (.Call (.Attribute o "values" apos) [] [] ρ) X.env)::ag [] X.env:=by rfl):
  FN X E (.Call (.Name "list" p) [.Call (.Attribute o "values" apos) [] [] ρ] [] pos) (J3 fo):=
 bN (yE (JL hc) hg hm yc (ig (KZ tm so PySem.F.type_dict_values VH ho ζ ν) pJ hs) (by decide) (by decide) hs rfl) λσ H Q h=>by
  refine Js h λO0 M0 H0 ow m R q=>?_;refine⟨O0,M0,H0,ow,m,R,q.bind.imp (aN.refl _) λd q v H1 g1 hv=>?_⟩;cases d with
  |dcu ks ds=>
   obtain⟨a,ι,rfl,e,e1,hd⟩:∃a ι,v=.ref a/\H1 a=some (.dT (KTp X.K) ι)/\ι.map (·.1)=ks/\DVs (gx X) (Ow O0 ow) H1 (ι.map (·.2)) ds:=by
    rcases hv with hv|⟨a,rfl,_,hv⟩
    ·cases hv with
     |dcu n e a b hs=>subst b;exact⟨_,_,rfl,e,a,hs⟩
    ·refine zr hv λι vs e a1 b1 hs=>?_;subst b1;exact⟨a,ι,rfl,e,a1,hs⟩
   refine⟨.inr<|.inr<|.inl ⟨rfl,.inr ⟨_,ι,.inl e⟩⟩,a,ι,rfl,rfl,e,λb hb=>?_⟩;have ne:a≠b:=λz=>by rw[z,hb] at e;cases e
   refine⟨b,a,ι,rfl,bu,by rw[bD ne];exact e,λl hl=>?_⟩;have nb:l≠b:=λz=>by rw[z,bu] at hl;cases hl
   have hl1:H1 l=none:=by rw[bD nb] at hl;exact hl
   have gg:aN H1 (upd (upd H1 b<|.ext<|Fp b a) l<|.lst<|ι.map (·.2)):=(bO hb _).trans<|bO hl _;exact q l _ (g1.trans gg) (g1.free hl1) ⟨_,bu,(hd.cX λc z=>z.elim .inl λe=>.inr (by rw[e];exact hl1)).mono gg⟩
  |_=>exact q.elim
end
def aa1 (K:bb)(tk tv:TE):TE:=λσ H Q=>∀p,H p=none->tk σ (upd H p<|.dT (KTp K) []) λx H1=>tv σ H1 λy H2=>
 H2 p=some (.dT (KTp K) [])/\∃ks b,x=.ref b/\TrT (KTp K) H2 b ks/\Q (.ref p) (upd H2 p<|.dT (KTp K) [(ks,y)])
section
theorem Vq (hu:X.A.units+16<pw)(hk:PE X k tk)(hv:PE X v tv):PE X (.Dict [some k] [v] pos) (aa1 X.K tk tv):=by
 intro π s σ H Q I q;have hn:=I.hok.fresh<|aI s.heap.objs.size;have I1:=I.laid (a:=s.heap.objs.size) (o:=.dT (KTp X.K) []) (h':=s.heap.push { cls:=.type "dict",data:=.dict #[] }) (t':=s.toks) (λ_ _ q=>af _ q) (aI _)<|Hs s.heap I.big;have pl:(pairTrees [some k] [v] X.env pos).length=1:=pairTrees_length [some k] [v] X.env pos rfl rfl;rw[arm_eval_Dict,zip_pairTrees [some k] [v] X.env pos rfl rfl,dictDisplay_pairs _ (λz=>by rw[z] at pl;cases pl) (by rw[pl];decide)];refine ae<|k9<|ae ?_;unfold subDict;refine ae<|wpAny_alloc<|ae<|gX ?_;rw[if_pos (by rw[pl];decide)];refine ae<|pairTrees_cons_walk<|thn (hk π _ σ _ _ I1<|q _ hn) λu s1 ⟨x,H1,J1,rx,q1⟩=>thn (hv π s1 σ H1 _ J1 q1) λr s2 hE=>pairTrees_nil_walk<|gX ?_;obtain⟨y,H2,I2,ry,e,ks,b,ex,eb,q2⟩:=hE;subst ex;cases(show u=bE b from rx);obtain⟨z,hd,xs,rel,dd⟩:=Sh (Cq I2) I2.hok e;cases rel;rw[wx];refine ae<|ae ?_;show bg _ _ (dictSet s.heap.objs.size (.ref b) r >>= _) _ _ s2;refine(ae<|wpAny_dictSet_heap (hsz:=fS _) (show X.A.units+8<pw by lia) (yK I2 eb) dd λh' dd' hs=>ah ?_);dsimp only;rw[List.forIn_nil];refine ah<|ah<|ah<|ah ?_;refine Dr dd' λqo es ep hq h2 h3 h4 _ h5=>?_;refine⟨.ref s.heap.objs.size,upd H2 s.heap.objs.size<|.dT (KTp X.K) [(ks,y)],Ae I2 (by rw[e];exact fg) hs ⟨qo,hq⟩ ⟨by show 1<=_;decide,hd,_,?_,qo,es,ep,hq,h2,h3,h4,h5⟩,rfl,q2⟩;refine KT.keeps (H:=H2) (Paired.cons ⟨rfl,eb,ry⟩ .nil) λc ys ec=>?_;rw[bD<|Ua ec e λz=>nomatch z];exact ec
end
def Kz (fk fv:Zae):Zae:=λm=>(fk m).bind λk=>(fv m).bind λd=>(ofO<|vO k).bind λks=>.ok<|.dcu [ks] [d]
section
theorem S8 (hr:gw j X.A)(hk:FE X E k fk)(hv:FE X E v fv):FN X E (.Dict [some k] [v] pos) (Kz fk fv):=
 bN (Vq (qZ hr) hk hv) λσ H Q hE p hp=>by
  refine Js hE λO0 M0 H0 ow m R q=>?_;have g0:aN H (upd H p<|.dT (KTp X.K) []):=bO hp _;have R1:=R.more g0 hp (by rw[bu];exact .inr<|.inr<|.inl ⟨(KTp X.K,[]),rfl⟩);refine⟨Op O0 p,M0,H0,ow,m,R1,q.bind.imp g0 λkd q x H1 g1 hx=>⟨Op O0 p,M0,H0,ow,m,R1.mono g1,q.bind.imp (g0.trans g1) λd q y H2 g2 hy=>?_⟩⟩;obtain⟨ks,h1,q⟩:=q.bind.ofO;obtain⟨b,rfl,hb⟩:=vB (.inl<|hx.mono g2) h1;have e2:H2 p=some (.dT (KTp X.K) []):=g2 _ _<|g1 _ _ bu;have R2:=(R1.mono g1).mono g2;have kp:Kp (Ow (Op O0 p) ow) H2 (upd H2 p<|.dT (KTp X.K) [(ks,y)]):=λc o e n=>by rw[bD λz=>n<|.inl<|.inr z];exact e
  refine⟨e2,ks,b,rfl,hb,q p _ (λc o e=>?_) hp ⟨_,_,bu,rfl,rfl,.cons ((hy.kp R2.mutk kp).cX λc z=>.inl ?_) .nil⟩⟩
  ·rw[bD (λz=>by rw[z,hp] at e;cases e)];exact g2 _ _<|g1 _ _<|g0 _ _ e
  ·rcases z with(z|z)|z
   ·exact .inl<|.inl z
   ·exact .inr z
   ·exact .inl<|.inr z
end
section
end
section
end
section
variable {pr:bo}{wo:dc}{κ:Type}[DecidableEq κ]{kn:KeyKind pr wo κ}{A:dy}{R:Result->aS->Prop}{I:Addr}{fp wr:List Addr}{G:Array nL->Array nL->Prop}{n:Nat}{P:Nat->av->Prop}{St:Nat->aS->Prop}
end
section
variable {pr:bo}{wo:dc}{κ:Type}[DecidableEq κ]{kn:KeyKind pr wo κ}{A:dy}{E:Zs}{s:aS}
end
section
end
section
end
section
end
section
end
section
variable {X:Cx}
end
section
end
section
end
section
variable {G:Gx}{O0 M0:Zaa}{H0:Hp}{ow:Os}{σ:L2.St}{H:Hp}{m:Me}
end
section
variable {P:bo}{w:dc}{K:bb}{mg:Zp}{base:Heap}
end
section
variable {X:Cx}{E:XK}{e:Expr}{es:List Expr}{fa:Zae}{fs:Zad}{i p:Nat}{y:Str}{np:Pos}
end
noncomputable def Zb (i j:Nat)(fs:Zad):Zab:=λm=>(fs m).bind λds=>match ds with
 |[d,e]=>.ok (.nx,(m.set i<|.fz d).set j<|.fz e)
 |_=>.stuck
theorem aaY (hc:X.calm=true)(hN:X.N.Nodup)(hi:X.N[i]? = some x)(hj:X.N[j]? = some y)(hij:i≠j)
  (hx:X.env.scope.names.lookup x=some .local) (hy:X.env.scope.names.lookup y=some .local) (ha:FAE X E [a,b] fs)
  (hw:pe [.Tuple [.Name x px,.Name y py] kt pt] (.Tuple [a,b] k2 pt2) X.env=pure (some [x,y]):=by rfl)
  (hs:pd [.Tuple [.Name x px,.Name y py] kt pt] (.Tuple [a,b] k2 pt2) pos.line X.env=pure false:=by rfl):
  FS X E (.Assign [.Tuple [.Name x px,.Name y py] kt pt] (.Tuple [a,b] k2 pt2) pos) (Zb i j fs):=
 cU (Zt hc hN hi hj hij hx hy ha hw hs) λW σ H hE=>xq5 hE λO0 M0 H0 ow m R q=>⟨O0,M0,H0,ow,m,R.toRel,(Ss.pu R.toRel q).imp (aN.refl _) λds q vs H' g hv=>by
  have z:∃d e,ds=[d,e]:=by
   cases ds with
   |nil=>exact q.elim
   |cons d ds=>cases ds with
    |nil=>exact q.elim
    |cons e ds=>cases ds with
     |nil=>exact⟨d,e,rfl⟩
     |cons _ _=>exact q.elim
  obtain⟨d,e,rfl⟩:=z;cases hv with
  |cons h1 h3=>cases h3 with
  |cons h2 h4=>
   cases h4;refine⟨_,_,rfl,?_⟩;have R1:=(R.mono g).set (i:=i) h1;have R2:=R1.set (i:=j)<|h2.cX λb z=>.inl z.sub;exact q _ _ _ R2<|((Go.refl g).trans Go.set).trans Go.set⟩
section
variable {G:Gx}{O0 M0:Zaa}{H0 H H':Hp}{ow:Os}{σ:L2.St}{m m':Me}
end
section
variable {X:Cx}{E:XK}{e b ke:Expr}{f fb fk:Zae}{pos spos:Pos}
end
section
variable {P:bo}{w:dc}{K:bb}{mg:Zp}{base:Heap}
end
section
end
section
variable {X:Cx}{E:XK}
end
section
end
end F
namespace L2
open PySem PySem.Spec PyProof.Rows
def Itd (hi:Int)(n:Nat):It:=⟨λi _=>i<n,λi H x H'=>H'=H/\x=.int (hi-i),λi _=>n<=i⟩
theorem Qu {P:bo}{w:dc}{K:PySem.W.Frag}{tg:Expr}(it:Addr)(hi:Int)(n:Nat):Turn Calm P w K tg (Itd hi n) [it] it (λi h=>yY h it (hi+(i:Nat)*(-1)) ((n:Int)-(i:Nat)) (-1)) where
 mem:=by simp
 obj:=λi h st b hb=>by
  have e:b=it:=by simpa using hb
  subst e;exact⟨_,st,λv z=>by
   have z':Bi _=Data.cell v:=z;cases z'⟩
 keep:=λi h h' st k=>k it (by simp) _ st
 item:=by
  intro X hP hw hK hc i π s σ H E I hf st hg;subst hP hw hK;refine ur (hf it<|by simp) λf0 f1 f2 f3 f4 f5=>?_;have W:=Walks.range (prog:=X.prog) (w:=X.w) (I.ok.hd hc) it hi (-1) n;refine W.item i s _ _ hg st λv h' tk hv st' kk=>?_;obtain⟨t,rfl⟩:=hv;have I1:Inv X π σ H { s with heap:=h',toks:=tk }:=I.turned (λb o hb e=>kk b o (by simpa using hb) e) f0 f1 f3 f4 f5;refine⟨_,rfl,DG (s:={ s with heap:=h',toks:=tk }) (n:="range_iterator") st' rfl rfl (by decide) ⟨.int<|hi-i,H,I1,⟨t,?_⟩,⟨rfl,rfl⟩,st',λb hb=>(hf b hb).1⟩⟩;rw[show hi+(i:Int)*(-1)=hi-i by lia]
 done:=by
  intro X hP hw hK hc i π s σ H E I hf st hg;subst hP hw hK;refine ur (hf it<|by simp) λf0 f1 f2 f3 f4 f5=>?_;exact wpAny_pyNext_range_end (I.ok.hd hc) st (by have:n<=i:=hg;lia) λh' eb=>⟨rfl,I.turned (t':=s.toks) (λb o hb e=>eb b o hb e) f0 f1 f3 f4 f5⟩
 self:=λ_ _ _ _ _ st h=>wpAny_pyIter_rangeiter st h
theorem Er (a b:Int):ku a b (-1)=((a-b).toNat:Int):=by
 unfold ku;rw[if_neg<|by decide];split
 ·rw[show -(-1:Int)=1 by decide,Int.ediv_one];lia
 ·lia
theorem small_down (ha:-1000000000<=a)(ha':a<=1000000000)(hb:-1000000000<=b)(hb':b<=1000000000):zd a b (-1)=true:=by
 unfold zd;rw[Er];simp only[Builtin.Range.rangeFitsLong,gL,mr,decide_eq_true_eq,beq_iff_eq,show ¬(-1:Int)>0 by decide,if_false]
 lia
section
variable {X:Cx}{tg:Expr}
theorem Sq {π:Zl}{σ:St}{H:Hp}{s:aS}{R:It->Hp->Prop}{E:Zs}{hi lo:Int}{t u v:Tok}{tk:Nat}(I:Inv X π σ H s)(h1:-1000000000<=hi)(h2:hi<=1000000000)(h3:-1000000000<=lo)(h4:lo<=1000000000)
  (q:R (Itd hi (hi-lo).toNat) H):bg (b9 X.prog X.w) X.A (pyIter<|.ref s.heap.objs.size) (PIE Calm X π σ tg R) E { s with heap:=s.heap.push { cls:=.type "range",data:=.fields #[.int hi t,.int lo u,.int (-1) v] },toks:=tk }:=by
 refine wpAny_pyIter_range (IsRange.new ..) (small_down h1 h2 h3 h4) ?_;have I1:Inv X π σ H { s with heap:=s.heap.push { cls:=.type "range",data:=.fields #[.int hi t,.int lo u,.int (-1) v] },toks:=tk }:=I.kept λb o e=>af _ e;refine⟨(s.heap.push { cls:=.type "range",data:=.fields #[.int hi t,.int lo u,.int (-1) v] }).objs.size,[(s.heap.push { cls:=.type "range",data:=.fields #[.int hi t,.int lo u,.int (-1) v] }).objs.size],_,_,H,rfl,
  I1.kept (t':=tk) λb o e=>af _ e,Qu _ hi (hi-lo).toNat,?_,λb hb=>?_,q⟩
 ·have e1:hi+((0:Nat):Int)*(-1)=hi:=by simp
  have e2:(((hi-lo).toNat:Nat):Int)-((0:Nat):Int)=ku hi lo (-1):=by rw[Er];lia
  show yY _ _ (hi+((0:Nat):Int)*(-1)) ((((hi-lo).toNat:Nat):Int)-((0:Nat):Int)) (-1);rw[e1,e2];exact a7 _ rfl
 ·have e:b=(s.heap.push { cls:=.type "range",data:=.fields #[.int hi t,.int lo u,.int (-1) v] }).objs.size:=by simpa using hb
  subst e;exact I1.KH (aI _)<|I1.hok.fresh<|aI _
def abm (ta:TA):TI:=λσ H R=>ta σ H λvs H1=>∃i j:Int,vs=[.int i,.int j,.int (-1)]/\(-1000000000<=i/\i<=1000000000/\-1000000000<=j/\j<=1000000000)/\R (Itd i (i-j).toNat) H1
theorem PB (hg:Gl X "range")(hm:X.mg "range" = none)(ha:PA X [a,b,c] ta)(hs:ag [a,b,c] X.env=[(false,eval a X.env),(false,eval b X.env),(false,eval c X.env)]:=by rfl)(hs2:ag [b,c] X.env=[(false,eval b X.env),(false,eval c X.env)]:=by rfl):
  PI Calm X tg (.Call (.Name "range" p) [a,b,c] [] pos) (abm ta):=by
 intro π s σ H R I h;refine Call_<|sV I hg hm boot_range<|eD (thn (ha pos π s σ H _ I h) λus s1 hE=>xq2 hE λvs H1 I1 r1 q1=>?_) (by rw[hs,hs2]) (by rw[hs2];rfl);obtain⟨i,j,e,⟨q1,q2,q3,q4⟩,q⟩:=q1;subst e;cases r1 with
 |cons r rr=>
  cases rr with
  |cons r' rr=>
   cases rr with
   |cons r'' rr=>
    cases rr;obtain⟨t,rfl⟩:=r;obtain⟨t',rfl⟩:=r';obtain⟨t'',rfl⟩:=r'';exact call_range_3 (by decide) (Sq (tk:=s1.toks) I1 q1 q2 q3 q4 q)<|d4<|PyProof.noPylong_small<|by lia
end
end L2
namespace F
open PySem PySem.Spec PyProof.Rows L2 Hd
noncomputable def W4 (f:Zad):Zad:=λm=>(f m).bind λd=>match d with
 |[.int i,.int j,.int (-1)]=>if -1000000000<=i/\i<=1000000000/\-1000000000<=j/\j<=1000000000 then .ok ((cm (i-j).toNat).map λ(k:Nat)=>D.int<|i-k) else .stuck
 |_=>.stuck
theorem Vy:BW G (Itd hi n) ((cm n).map λ(k:Nat)=>D.int<|hi-k) P:=by
 intro O H _;refine⟨λi hi=>(show i<n by simpa using hi),λi x H' hi y=>?_,by show n<=_;simp⟩;obtain⟨e,y⟩:=y;subst e y;have hi':i<n:=by simpa using hi
 exact⟨aN.refl _,_,by simp[cp,y8 hi'],.int _⟩
section
variable {X:Cx}{E:XK}{tg e a b c:Expr}{f:Zae}{fs:Zad}{fa:Me->Res (D×Me)}{p pos:Pos}
theorem WT (hg:Gl X "range")(hm:X.mg "range" = none)(ha:FAB X E [a,b,c] fs)(hs:ag [a,b,c] X.env=[(false,eval a X.env),(false,eval b X.env),(false,eval c X.env)]:=by rfl)(hs2:ag [b,c] X.env=[(false,eval b X.env),(false,eval c X.env)]:=by rfl):FI X E tg (.Call (.Name "range" p) [a,b,c] [] pos) (W4 fs):=
 qi (PB hg hm ha hs hs2) λσ H R hE=>xq5 hE λO0 M0 H0 ow m Re q=>⟨O0,M0,H0,ow,m,Re,q.bind.imp (aN.refl _) λds q vs H' g hv=>by
  split at q
  ·cases hv with
   |cons h1 t=>cases t with
    |cons h2 t=>cases t with
     |cons h3 t=>
      cases t;cases bR h1;cases bR h2;cases bR h3;obtain⟨⟨z1,z2,z3,z4⟩,k⟩:=Dl q;exact⟨_,_,rfl,⟨z1,z2,z3,z4⟩,k _ H' g Vy⟩
  ·exact q.elim⟩
noncomputable def HY (f:Me->Res (D×Me))(h:Zba):Zab:=λm=>(f m).bind λp=>(ofO<|h p.1 p.2).bind λm'=>.ok (.nx,m')
theorem WW (he:FX X E e fa)(hg:FG X k tg h)(hs:pd [tg] e pos.line X.env=pure false:=by rfl)(hw:pe [tg] e X.env=pure none:=by rfl)
  (h1:(jS [tg] X.env).map (·.2)=[vj tg X.env]:=by rfl):FS X E (.Assign [tg] e pos) (HY fa h):=cU (Vh he hg hs hw h1) λW σ H hE=>xq5 hE λO0 M0 H0 ow m R q=>by
 refine⟨O0,M0,H0,ow,m,R,(Xs.ss (k:=λd m'=>(ofO<|h d m').bind λm'=>.ok (.nx,m')) q).imp (Go.refl<|aN.refl _) λd H1 m1 R1 g1 e1 q v hv=>?_⟩;obtain⟨m',e,q⟩:=Ss.ofO<|q m1 e1 R1;exact⟨O0,M0,H0,ow,m1,d,m',R1.toRel,hv,e,λow' σ' R' g2 nb _=>q _ _ _ ⟨R',nb R1.nb⟩ g2⟩
def Io (i:Nat):Me->Res (D×Me):=λm=>(ofO<|rN m i).bind λo=>(ofO<|o.2[o.2.length-1]?).bind λd=>.ok (d,putL m i o.1 o.2.dropLast)
theorem ZM (i:Nat)(hN:X.N[i]? = some x:=by rfl)(hv:Vis X.env.scope x:=by first|exact d4 rfl|exact fA (d4 rfl)|exact fA (fA rfl))(hd:(x==("__debug__":Str))=false:=by decide)(hcd:(x==("__classdict__":Str))=false:=by decide)
  (ζ:h8 (.Name x np) "pop" X.env (eval (.Name x np) X.env)=eval (.Name x np) X.env:=by rfl) (ν:(apos.endLine==ρ.line)=true:=by rfl):
  FX X E (.Call (.Attribute (.Name x np) "pop" apos) [] [] ρ) (Io i):=
 bN (KZ kF w9 xa RX (je hN hv hd hcd) ζ ν) λσ H Q hE=>xq5 hE λO0 M0 H0 ow m R q=>by
  obtain⟨o,ho,q⟩:=(Xs.pu R.toRel q).ofO;obtain⟨k,ds⟩:=o;obtain⟨d,hd',q⟩:=(Xs.pu R.toRel q).ofO;refine zF (xT R.toRel ho) λa xs e1 e2 e3 e4 e5=>?_;obtain⟨v,hv,dv⟩:=Br e4 hd';obtain⟨R2,g2⟩:=R.put (es:=ds.dropLast) (ys:=xs.dropLast) e1 e5<|wW e4;have dv2:=dv.go R.mutk g2.ev;exact⟨_,e2,.inl ⟨rfl,xs,SqL.of e3⟩,a,xs,v,rfl,rfl,e3,by rw[cu e4];exact hv,q _ R2 g2 _ dv2⟩
end
def xM (i:Nat)(fk fv:Zae):Me->Res (D×Me):=λm=>(ofO<|vM m i).bind λo=>(fk m).bind λk=>(fv m).bind λd=>(ofO<|vO k).bind λk=>
 if o.2.1.length<ay then .ok (match dW o.2.1 o.2.2 k with|some d'=>(d',m)|none=>(d,pC m i o.1 (o.2.1++[k])<|o.2.2++[d])) else .stuck
section
theorem Ut (i:Nat)(hr:gw jj X.A)(hk:FE X E ke fk)(he:FE X E e f)(hm:M2 X (.Name x np) "setdefault" apos ke e ρ)(hN:X.N[i]? = some x:=by rfl)(hv:Vis X.env.scope x:=by first|exact d4 rfl|exact fA (d4 rfl)|exact fA (fA rfl))(hd:(x==("__debug__":Str))=false:=by decide)(hcd:(x==("__classdict__":Str))=false:=by decide):
  FX X E (.Call (.Attribute (.Name x np) "setdefault" apos) [ke,e] [] ρ) (xM i fk f):=
 bN (Tt (qZ hr) (je hN hv hd hcd) hk he hm) λσ H Q hE=>xq5 hE λO0 M0 H0 ow m R q=>by
  obtain⟨o,ho,q⟩:=(Xs.pu R.toRel q).ofO;obtain⟨k,ks,ds⟩:=o;refine Np (Hh R.toRel ho) λa ι e1 e2 e3 e4 e5 e6=>?_;refine⟨_,e2,a,rfl,.inr ⟨ι,.inl e3⟩,O0,M0,H0,ow,m,R.toRel,(Xs.pu R.toRel q).imp (aN.refl _) λdk q vk H1 g1 hvk=>?_⟩;have R1:=R.mono g1;refine⟨O0,M0,H0,ow,m,R1.toRel,(Xs.pu R.toRel q).imp g1 λd q v H2 g2 hv=>?_⟩;have R2:=R1.mono g2;obtain⟨ky,h1,q⟩:=(Xs.pu R.toRel q).ofO;obtain⟨b,rfl,hb⟩:=vB (.inl<|hvk.mono g2) h1;have e3':=g2 _ _<|g1 _ _ e3;have e5':=(e5.mono g1).mono g2;by_cases hz:ks.length<ay
  ·rw[if_pos hz] at q;rcases Aa (k:=ky) e5' with⟨v',d',va,vb,dv⟩|⟨va,vb⟩
   ·rw[e4] at vb;have q':=q;rw[vb] at q';refine⟨ι,ky,b,e3',rfl,hb,by rw[← dE (f:=(·.1)),e4];exact hz,λw ev=>?_,λev=>?_⟩
    ·rw[va] at ev;cases ev;exact q' _ R2 (Go.refl<|g1.trans g2) _ dv
    ·rw[va] at ev;cases ev
   ·rw[e4] at vb;have q':=q;rw[vb] at q';refine⟨ι,ky,b,e3',rfl,hb,by rw[← dE (f:=(·.1)),e4];exact hz,λw ev=>?_,λev=>?_⟩
    ·rw[va] at ev;cases ev
    ·obtain⟨R3,g3⟩:=R2.pC (ls:=ks++[ky]) (es:=ds++[d]) (ι:=ι++[(ky,v)]) e1 e6 (by simp[e4]) (by rw[dQ];exact lD e5'<|.cons hv .nil);exact q' _ R3 ((Go.refl<|g1.trans g2).trans g3) _<|hv.go R2.mutk g3.ev
  ·rw[if_neg hz] at q;exact q.elim
theorem Wt:seqRepeat? (.type "int")=pure none:=by rfl
theorem Qc (hok:MulOk x n)(h:∀t' k,Q (.str (BE x n) t') { s with toks:=k }):
  bg (b9 prog w) A (gT .Mult (.int n u)<|.str x t) Q E s:=by
 have post:(if n<1 then Made.str Bn else if(n==1||x.length==0)=true then Made.val (.str x t) else Made.str ⟨(br n.toNat x.cps).foldl (· ++ ·) #[]⟩).post Q s:=by
  unfold BE at h;by_cases h1:n<1
  ·rw[if_pos h1];have h':=h s.toks<|s.toks+1;rw[if_pos h1] at h';exact⟨by decide,h'⟩
  ·rw[if_neg h1];refine post_val_or_made (λhc=>fits_reps<|hok.2.2 h1<|by simpa using hc) λt' k=>?_;have h':=h t' k;rw[if_neg h1] at h';exact h'
 unfold gT;refine gX ?_;refine ae ?_;simp only[Operator.info,binaryOp1];refine ae<|mf (nc s n u)<|ae<|mf (si s x t)<|ae<|p0 xb ?_;simp only[show(AL "int"==AL "str")=false by decide,gv,if_false];refine ae<|p0 noFill_str_mul ?_;simp only[pure_bind,Bool.true_and,Bool.false_and,Bool.and_false,gv,if_false,if_true,Bool.not_false,Bool.and_self];refine ae<|wpAny_tryMethod_declines (nc s n u) ya<|call_gives ya (nc s n u) PySem.F.entry_int_mul (PySem.F.args_int_mul_2 _ _) (AutoIntG3.int___mul___int_str_0 n u x t) ?_;refine⟨rfl,?_⟩;refine ah ?_;refine ae<|mf (nc s n u) ?_;refine ae<|p0 Wt ?_;refine ae<|mf (si s x t) ?_;refine ae<|p0 repeat_str ?_;unfold sequenceRepeat;refine ae<|jv (nc s n u) uS.lookup ?_;refine ae<|pj ?_;exact call_gives PySem.F.slot_str_mul (si s x t) PySem.F.entry_str_mul (PySem.F.args_str_mul_2 _ _) (gives_str_mul x n t u hok.1 hok.2.1 hok.2.2) post
noncomputable def M5:D->D->Option D
 | .int n,.str z=>if 0<=n/\n<=1000/\z.length<=1000 then some (.str<|BE z n) else none
 |_,_=>none
theorem SJ:OpR X (gT .Mult) (rG (gx X) M5):=by
 intro π s σ H x y v u Q I rx ry h;refine uw h λO d e r m hx hy hr q=>?_;unfold M5 at hr;split at hr
 ·rename_i n z;obtain⟨⟨h0,h1,hz⟩,rfl⟩:=oif hr;cases bR hx;cases jx hy;obtain⟨t,rfl⟩:=rx;obtain⟨t2,rfl⟩:=ry;exact Qc (mulOk_of h0 h1 hz) λt' k=>NK (tk:=k) I q
 ·cases hr
end
end F
namespace L2
open PySem PySem.Spec PyProof.Rows
section
variable {X:Cx}{e st:Expr}{te:TE}{tst:TO}{p2 pos:Pos}
end
end L2
namespace F
open PySem PySem.Spec PyProof.Rows L2 Hd
section
variable {X:Cx}{E:XK}{e st:Expr}{f:Zae}{fk:Me->Res (Option Int)}{p2 pos:Pos}
end
end F
namespace Pk
open PySem L2 Hd F
section
def j6:Zaf:=
 (aL gNe (ak 3)<|fC<|.int 0)
def jZ:Zab:=
 (aJ (bj 4<|aB cz (ak 2)<|ak 3)
 (aJ (bj 2<|aH 3)
 (bj 3<|aH 4)))
def pB:Zab:=
 (oV j6 jZ)
def lR (l_3:Zab):Zab:=
 (aJ (bj 2<|aR yF<|aa (ak 0) aA)
 (aJ (bj 3<|aR yF<|aa (ak 1) aA)
 (aJ l_3
 (bz<|aH 2))))
def mq:Zab:=
 (lR pB)
def ji:Zac:=bc 5 2 mq
def xj (φ_common_divisor:Zac):Zab:=
 (aJ (bj 2<|fFn φ_common_divisor<|aa (aH 0)<|aa (aH 1) aA)
 (aJ (gIf (aL gLt (ak 1)<|fC<|.int 0) (bj 2<|fUn Cw<|ak 2) gNx)
 (bz<|aM<|aa (aB dZ (ak 0)<|ak 2)<|aa (aB dZ (ak 1)<|ak 2) aA)))
def yh:Zab:=
 (xj ji)
def rm:Zac:=bc 3 2 yh
def J2 (φ_lowest:Zac):Zab:=
 (bz<|fFn φ_lowest<|aa (aB cF (aB uI (aB gIx (ak 0)<|fC<|.int 0)<|aB gIx (ak 1)<|fC<|.int 1)<|aB uI (aB gIx (ak 1)<|fC<|.int 0)<|aB gIx (ak 0)<|fC<|.int 1)<|aa (aB uI (aB gIx (ak 0)<|fC<|.int 1)<|aB gIx (ak 1)<|fC<|.int 1) aA)
def Kd:Zab:=
 (J2 rm)
def Fv:Zac:=bc 2 2 Kd
def Fw:Zab:=
 (bz<|qH gLt (aB uI (aB gIx (ak 0)<|fC<|.int 0)<|aB gIx (ak 1)<|fC<|.int 1)<|aB uI (aB gIx (ak 1)<|fC<|.int 0)<|aB gIx (ak 0)<|fC<|.int 1)
def FZ:Zab:=
 Fw
def Ah:Zac:=bc 2 2 FZ
def yU:Zab:=
 (bj 1<|fFn Fv<|aa (aH 1)<|aa (aH 2) aA)
def Dy:Zab:=
 (fB (eE<|aH 0) (hName 2) yU)
def Gy (l_2:Zab):Zab:=
 (aJ (bj 1<|fC<|.tup [(.int 0),(.int 1)])
 (aJ l_2
 (bz<|aH 1)))
def Ha:Zab:=
 (Gy Dy)
def zR:Zac:=bc 3 1 Ha
def nO:Zae:=
 (cA 2 [] (jQ<|aB gIx (ak 0)<|fUn Cw<|fC<|.int 1) (eN 2<|aU (hName 0)<|aU (hName 1) eO) gR<|aH 1)
def iG (l_1:Zae):Zab:=
 (aJ (gIf (aL gEq (aB gIx (ak 0)<|fC<|.int 0)<|fC<|.str "end") (jy<|eG aA) gNx)
 (jy l_1))
def wz:Zab:=
 (iG nO)
def jA:Zac:=bc 1 1 wz
def qN:Zae:=
 (aM<|aa (aB cF (aB gIx (ak 2)<|fC<|.int 0)<|aM<|aa (aH 0) aA)<|aa (aH 1) aA)
def mz:Zae:=
 (cA 2 [3] (ZW<|aa (fFn jA<|aa (aB gIx (ak 3)<|fC<|.int 1) aA) aA) (eN 2<|aU (hName 0)<|aU (hName 1) eO) gR qN)
def mQ:Zaf:=
 (aL gGt (aR dI<|aa (ak 2) aA)<|fC<|.int 0)
def mG:Zab:=
 (aJ (Ga 3 2)
 (aJ (dq 1<|aH 3)
 (aJ (bj 4 mz)
 (FJ 2<|aR Rk<|aa (ak 4) aA))))
def Dh:Zab:=
 (oV mQ mG)
def pO (l_5:Zab):Zab:=
 (aJ (gY 1<|eG aA)
 (aJ (gY 2<|eG<|aa (aM<|aa (aM aA)<|aa (aH 0) aA) aA)
 (aJ l_5
 (ux 1))))
def za:Zab:=
 (pO Dh)
def iQ:Zac:=bc 5 1 za
def rZ:Zae:=
 (cA 2 [] (jQ<|aB gIx (ak 0)<|fC<|.int 3) (eN 2<|aU (hName 0)<|aU (hName 1) eO) gR<|aH 0)
def wI (l_1:Zae):Zab:=
 (bz<|aR jU<|aa l_1 aA)
def wJ:Zab:=
 (wI rZ)
def rR:Zac:=bc 1 1 wJ
def gG:Zab:=
 (aJ (gIf (aL gNe (aB gIx (ak 0)<|fC<|.int 0)<|fC<|.str "move") (bz<|aH 1) gNx)
 (aJ (bj 3<|aM<|aa (aB gIx (ak 0)<|fC<|.int 2)<|aa (aB gIx (aB gIx (aB gIx (ak 0)<|fC<|.int 3)<|ak 2)<|fC<|.int 0) aA)
 (aJ (gIf (aL gEq (aB gIx (ak 0)<|fC<|.int 1)<|fC<|.int 1) (bz<|aM<|aa (aB cF (aB gIx (ak 1)<|fC<|.int 0)<|aM<|aa (aH 3) aA)<|aa (aB gIx (ak 1)<|fC<|.int 1) aA) gNx)
 (bz<|aM<|aa (aB gIx (ak 1)<|fC<|.int 0)<|aa (aB cF (aB gIx (ak 1)<|fC<|.int 1)<|aM<|aa (aH 3) aA) aA))))
def gM:Zab:=
 gG
def eY:Zac:=bc 4 3 gM
def cQ:Zab:=
 (Fd 1 (aB cF (ak 3)<|aM<|aa (aH 5) aA)<|fFn eY<|aa (aH 4)<|aa (aB Jt (ak 1)<|ak 3)<|aa (aH 5) aA)
def gQ:Zab:=
 (fB (uH<|aa (aR dI<|aa (fFn jA<|aa (aH 4) aA) aA) aA) (hName 5) cQ)
def bA:Zab:=
 (aJ (dq 2<|aM<|aa (aH 3)<|aa (aH 4)<|aa (aB Jt (ak 1)<|ak 3) aA)
 gQ)
def j9:Zab:=
 (fB (eE<|fFn iQ<|aa (aH 0) aA) (eN 2<|aU (hName 3)<|aU (hName 4) eO) bA)
def fU (l_4:Zab):Zab:=
 (aJ (gY 1<|Kz (aM aA)<|aM<|aa (aM aA)<|aa (aM aA) aA)
 (aJ (gY 2<|eG aA)
 (aJ l_4
 (ux 2))))
def lH:Zab:=
 (fU j9)
def cN:Zac:=bc 6 1 lH
def ye (φ_words_at:Zac):Zab:=
 (bz<|aM<|aa (aB gIx (ak 0)<|fC<|.int 1)<|aa (aB gIx (ak 0)<|fC<|.int 2)<|aa (fFn φ_words_at<|aa (aH 0) aA)<|aa (aB gIx (ak 1)<|aB mj (aB gIx (ak 0)<|fC<|.int 1)<|fC<|.int 1) aA)
def yj:Zab:=
 (ye rR)
def qQ:Zac:=bc 2 2 yj
def gZ:Zab:=
 (gIf (aL gEq (aB gIx (ak 3)<|fC<|.int 0)<|fC<|.str "move") (X4 1 (aM<|aa (aB gIx (ak 3)<|fC<|.int 1)<|aa (aB gIx (ak 3)<|fC<|.int 2) aA)<|fFn qQ<|aa (aH 3)<|aa (aH 4) aA) gNx)
def yd:Zab:=
 (fB (eE<|fFn cN<|aa (aH 0) aA) (eN 3<|aU (hName 2)<|aU (hName 3)<|aU (hName 4) eO) gZ)
def tQ (l_2:Zab):Zab:=
 (aJ (gY 1 vh)
 (aJ l_2
 (jy<|J3<|ak 1)))
def Cj:Zab:=
 (tQ yd)
def uc:Zac:=bc 5 1 Cj
def vo:Zae:=
 (cA 1 [1] (eE<|fFn uc<|aa (aH 0) aA) (hName 0) (aL gEq (aB gIx (ak 0)<|fC<|.int 0)<|ak 1)<|aH 0)
def yW (l_1:Zae):Zab:=
 (jy l_1)
def yP:Zab:=
 (yW vo)
def vA:Zac:=bc 2 2 yP
def nJ:Zae:=
 (aR dI<|aa (aB gIx (ak 0)<|fC<|.int 2) aA)
def nq:Zae:=
 (cA 1 [] (eE<|ak 0) (hName 0) gR nJ)
def qK (l_2:Zae):Zab:=
 (bz<|aR Ph<|aa l_2 aA)
def ql:Zab:=
 (qK nq)
def mH:Zac:=bc 1 1 ql
def lQ:Zae:=
 (cA 2 [] (jQ<|aB gIx (ak 0)<|fC<|.int 2) (eN 2<|aU (hName 0)<|aU (hName 1) eO) gR<|aH 0)
def oW (l_1:Zae):Zab:=
 (aJ (gIf (aL gEq (aB gIx (ak 0)<|fC<|.int 0)<|fC<|.str "end") (jy<|eG<|aa (aB gIx (ak 0)<|fC<|.int 1) aA) gNx)
 (aJ (gIf (aL gEq (aB gIx (ak 0)<|fC<|.int 0)<|fC<|.str "deal") (jy l_1) gNx)
 (jy<|eG aA)))
def pK:Zab:=
 (oW lQ)
def cZ:Zac:=bc 1 1 pK
def sy:Zab:=
 (bz<|fOr (qH gGt (aR yF<|aa (aB gIx (ak 0)<|fC<|.int 0) aA)<|fC<|.int 999999999999)<|qH gGt (aB gIx (ak 0)<|fC<|.int 1)<|fC<|.int 999)
def ue:Zab:=
 sy
def ph:Zac:=bc 1 1 ue
def pq:Zae:=
 (fFn Ah<|aa (fC<|.tup [(.int 0),(.int 1)])<|aa (aH 0) aA)
def oO:Zae:=
 (cA 1 [] (eE<|ak 0) (hName 0) gR pq)
def tW (φ_total:Zac)(l_2:Zae):Zab:=
 (bz<|Rn (aR QG<|aa l_2 aA)<|qH gEq (fFn φ_total<|aa (aH 0) aA)<|fC<|.tup [(.int 1),(.int 1)])
def sU:Zab:=
 (tW zR oO)
def oh:Zac:=bc 1 1 sU
end
end Pk
namespace Lw
open PySem L2 Hd F Pk
section
def kZ:Zab:=
 (aJ (gIf (aL gLt (ak 1)<|aR dI<|aa (ak 0) aA) (bz<|aB gIx (ak 0)<|ak 1) gNx)
 (bz<|fC<|.int 0))
def lA:Zab:=
 kZ
def fH:Zac:=bc 2 2 lA
def ni:Zaf:=
 (aL gNe (ak 3)<|fC<|.int 0)
def nu:Zab:=
 (Zb 2 3<|aa (aH 3)<|aa (aB cz (ak 2)<|ak 3) aA)
def ug:Zab:=
 (oV ni nu)
def qG (l_3:Zab):Zab:=
 (aJ (bj 2<|aR yF<|aa (ak 0) aA)
 (aJ (bj 3<|aH 1)
 (aJ l_3
 (bz<|aM<|aa (aB dZ (ak 0)<|ak 2)<|aa (aB dZ (ak 1)<|ak 2) aA))))
def qL:Zab:=
 (qG ug)
def iD:Zac:=bc 4 2 qL
def jE:Zab:=
 (aJ (dq 4<|aB cz (ak 0)<|fC<|.int 36)
 (bj 0<|aB dZ (ak 0)<|fC<|.int 36))
def qO:Zab:=
 (fB (uH<|aa (ak 3) aA) (hName 5) jE)
def qC:Zae:=
 (aB gIx (ak 1)<|ak 0)
def qt:Zae:=
 (cA 1 [2] (eE<|ak 4) (hName 0) gR qC)
def mC:Zae:=
 (fSl (aB M5 (fC<|.int 8)<|ak 1) fO0<|fO1<|ak 0)
def qJ:Zae:=
 (cA 1 [6] (Nr<|aa (fC<|.int 1)<|aa (fC<|.int 9) aA) (hName 0) gR mC)
def jD:Zab:=
 (aJ (bj 9<|aB gIx (ak 2)<|aB cz (aB cF (aB gIx (ak 4)<|ak 7)<|aB uI (fC<|.int 4)<|ak 5)<|fC<|.int 36)
 (dq 8<|aB cF (aB cF (fSl (ak 6) fO0<|fO1<|ak 7)<|ak 9)<|fSl (ak 6) (fO1<|aB cF (ak 7)<|fC<|.int 1) fO0))
def v9:Zab:=
 (fB (uH<|aa (fC<|.int 8) aA) (hName 5) jD)
def j8 (l_2:Zab)(l_4:Zae)(l_6:Zae)(l_8:Zab):Zab:=
 (aJ (bj 2<|fC<|.str "abcdefghijklmnopqrstuvwxyz0123456789")
 (aJ (bj 3<|aB cF (fC<|.int 1)<|aB cz (ak 0)<|fC<|.int 8)
 (aJ (bj 0<|aB dZ (ak 0)<|fC<|.int 8)
 (aJ (gY 4<|eG aA)
 (aJ l_2
 (aJ (bj 6<|Oo "str" Ep (fC<|.str "") (aa l_4 aA))
 (aJ (gIf (aL gEq (aB cz (aB dZ (ak 1)<|fC<|.int 8)<|fC<|.int 3)<|fC<|.int 1) (jy l_6) gNx)
 (aJ (bj 7<|aB cz (ak 1)<|ak 3)
 (aJ (gY 8<|eG aA)
 (aJ l_8
 (ux 8)))))))))))
def zg:Zab:=
 (j8 qO qt qJ v9)
def mY:Zac:=bc 10 2 zg
def nF:Zae:=
 (aM<|aa (aH 1)<|aa (aH 2) aA)
def nA:Zae:=
 (cA 2 [5] (jQ<|aB gIx (ak 4)<|fC<|.int 2) (eN 2<|aU (hName 0)<|aU (hName 1) eO) gR nF)
def iy:Zab:=
 (aJ (gY 9<|aR MK<|aa (ak 5) aA)
 (aJ (Fz 9 (aB mj (aB gIx (ak 4)<|fC<|.int 1)<|fC<|.int 1)<|aB cF (aB gIx (ak 9)<|aB mj (aB gIx (ak 4)<|fC<|.int 1)<|fC<|.int 1)<|aM<|aa (aM<|aa (aB gIx (ak 4)<|fC<|.int 2)<|aa (aH 7) aA) aA)
 (dq 6<|aM<|aa (aH 8)<|aa (aR jU<|aa (ak 9) aA) aA)))
def nG:Zab:=
 (fB (jQ<|aB gIx (ak 4)<|fC<|.int 3) (eN 2<|aU (hName 7)<|aU (hName 8) eO) iy)
def jH:Zab:=
 (dq 2<|aM<|aa (aB cF (ak 3)<|aM<|aa (aH 10) aA)<|aa (aB gIx (aB gIx (ak 6)<|ak 10)<|fC<|.int 0)<|aa (aB gIx (aB gIx (ak 6)<|ak 10)<|fC<|.int 1) aA)
def nj:Zab:=
 (fB (W4<|aa (aB mj (aR dI<|aa (ak 6) aA)<|fC<|.int 1)<|aa (fUn Cw<|fC<|.int 1)<|aa (fUn Cw<|fC<|.int 1) aA) (hName 10) jH)
def jK:Zaf:=
 (aL gGt (aR dI<|aa (ak 2) aA)<|fC<|.int 0)
def fW:Zab:=
 (aJ (HY (Io 2)<|eN 3<|aU (hName 3)<|aU (hName 4)<|aU (hName 5) eO)
 (aJ (dq 1<|aM<|aa (aH 3)<|aa (aH 4)<|aa (aH 5) aA)
 (aJ (gY 6<|eG aA)
 (aJ (gIf (aL gEq (aB gIx (ak 4)<|fC<|.int 0)<|fC<|.str "deal") (gY 6 nA) gNx)
 (aJ (gIf (aL gEq (aB gIx (ak 4)<|fC<|.int 0)<|fC<|.str "move") nG gNx)
 nj)))))
def zJ:Zab:=
 (oV jK fW)
def mL (l_9:Zab):Zab:=
 (aJ (gY 1<|eG aA)
 (aJ (gY 2<|eG<|aa (aM<|aa (aM aA)<|aa (aH 0)<|aa (aM<|aa (aM aA)<|aa (aM aA) aA) aA) aA)
 (aJ l_9
 (ux 1))))
def wk:Zab:=
 (mL zJ)
def gm:Zac:=bc 11 1 wk
def oN:Zae:=
 (cA 2 [] (jQ<|aB gIx (ak 4)<|fC<|.int 3) (eN 2<|aU (hName 0)<|aU (hName 1) eO) gR<|aH 0)
def d9:Zab:=
 (gIf (fj (aL gEq (aB gIx (ak 4)<|fC<|.int 0)<|fC<|.str "move")<|aL HW (aM<|aa (aB gIx (ak 4)<|fC<|.int 1)<|aa (aB gIx (ak 4)<|fC<|.int 2) aA)<|ak 2) (aJ (Fd 2 (aM<|aa (aB gIx (ak 4)<|fC<|.int 1)<|aa (aB gIx (ak 4)<|fC<|.int 2) aA)<|fC<|.bl true)
 (aJ (bj 6<|aR jU<|aa oN aA)
 (dq 1<|aM<|aa (aB gIx (ak 4)<|fC<|.int 1)<|aa (aB gIx (ak 4)<|fC<|.int 2)<|aa (aH 6)<|aa (aB gIx (ak 5)<|aB mj (aB gIx (ak 4)<|fC<|.int 1)<|fC<|.int 1) aA))) gNx)
def pL:Zab:=
 (fB (eE<|fFn gm<|aa (aH 0) aA) (eN 3<|aU (hName 3)<|aU (hName 4)<|aU (hName 5) eO) d9)
def ud (l_3:Zab):Zab:=
 (aJ (gY 1<|eG aA)
 (aJ (gY 2 vh)
 (aJ l_3
 (ux 1))))
def sW:Zab:=
 (ud pL)
def lB:Zac:=bc 7 1 sW
def uD:Zab:=
 (bz<|uF "str" (ak 0))
def uP:Zab:=
 uD
def gK:Zac:=bc 1 1 uP
def jR:Zab:=
 (gIf (kO (fD<|fTv<|uF "tuple" (ak 1))<|kO (aL gNe (aR dI<|aa (ak 1) aA)<|fC<|.int 2)<|kO (fD<|fTv<|fFn gK<|aa (aB gIx (ak 1)<|fC<|.int 0) aA)<|fD<|fTv<|fFn gK<|aa (aB gIx (ak 1)<|fC<|.int 1) aA) (bz<|fC<|.bl false) gNx)
def o9:Zab:=
 (fB (jQ<|aH 0) (hName 1) jR)
def lZ (l_2:Zab):Zab:=
 (aJ (gIf (fD<|fTv<|uF "tuple" (ak 0)) (bz<|fC<|.bl false) gNx)
 (aJ l_2
 (bz<|fC<|.bl true)))
def lN:Zab:=
 (lZ o9)
def jh:Zac:=bc 2 1 lN
def kY:Zae:=
 (fFn gK<|aa (aH 0) aA)
def lG:Zae:=
 (cA 1 [] (jQ<|aB gIx (ak 1)<|fC<|.int 2) (hName 0) gR kY)
def lz:Zab:=
 (aJ (gIf (kO (fD<|fTv<|uF "tuple" (ak 1))<|kO (aL gNe (aR dI<|aa (ak 1) aA)<|fC<|.int 4)<|kO (fD<|fTv<|uF "int" (aB gIx (ak 1)<|fC<|.int 0))<|fTv<|uF "bool" (aB gIx (ak 1)<|fC<|.int 0)) (bz<|fC<|.bl false) gNx)
 (aJ (gIf (kO (fD<|fTv<|fFn gK<|aa (aB gIx (ak 1)<|fC<|.int 1) aA)<|kO (fD<|fTv<|uF "tuple" (aB gIx (ak 1)<|fC<|.int 2))<|fD<|fTv<|fFn jh<|aa (aB gIx (ak 1)<|fC<|.int 3) aA) (bz<|fC<|.bl false) gNx)
 (gIf (fD<|fTv<|aR QG<|aa lG aA) (bz<|fC<|.bl false) gNx)))
def pZ:Zab:=
 (fB (eE<|aH 0) (hName 1) lz)
def nM (l_4:Zab):Zab:=
 (aJ (gIf (fD<|fTv<|uF "list" (ak 0)) (bz<|fC<|.bl false) gNx)
 (aJ l_4
 (bz<|fC<|.bl true)))
def nC:Zab:=
 (nM pZ)
def jJ:Zac:=bc 2 1 nC
end
end Lw
namespace Hd
noncomputable def gI (a b:Int):Int:=(sf a b:Nat)
theorem LQ (ha:0<=a)(hb:0<b):gI b (a%b)=gI a b:=by
 unfold gI sf;have e:(a%b).natAbs=a.natAbs%b.natAbs:=by
  obtain⟨n,rfl⟩:=tw ha;obtain⟨m,rfl⟩:=tw<|Int.le_of_lt hb;rfl
 rw[e,A2 a.natAbs b.natAbs,Nat.gcd_rec b.natAbs a.natAbs,A2]
theorem M3 (ha:0<=a):gI a 0=a:=by
 unfold gI;rw[Int.gcd_zero_right]
 lia
theorem Ud (a b:Int):gI (if a<0 then -a else a) (if b<0 then -b else b)=gI a b:=by
 unfold gI sf;have h:∀x:Int,(if x<0 then -x else x).natAbs=x.natAbs:=λx=>by split<;>lia
 rw[h,h]
theorem abH (a b:Int):0<=gI a b:=Int.natCast_nonneg _
theorem Ff (hb:b≠0):0<gI a b:=by
 have:0<sf a b:=Nat.pos_of_ne_zero λh=>hb (Int.gcd_eq_zero_iff.mp h).2
 unfold gI;lia
theorem Mx (a b:Int):gI a b ∣ a:=Int.gcd_dvd_left a b
theorem Bp (a b:Int):gI a b ∣ b:=Int.gcd_dvd_right a b
theorem Yz (hb:b≠0):(gI a b).natAbs<=b.natAbs:=by
 have h:(gI a b).natAbs ∣ b.natAbs:=i7.mpr<|Bp a b;exact AE (by lia) h
def dv (t b:Int):Int:=if b<0 then -gI t b else gI t b
theorem Oe (hb:b≠0):dv t b≠0:=by
 have:=Ff (a:=t) hb
 unfold dv;split<;>lia
theorem Uy (t b:Int):(dv t b).natAbs=(gI t b).natAbs:=by unfold dv;split<;>lia
def lt (t b:Int):Int:=t.fdiv<|dv t b
def lb (t b:Int):Int:=b.fdiv<|dv t b
theorem Av {a d q:Int}(hd:d≠0)(h:a=d*q):a.fdiv d=q:=by simp_all
theorem X6 (t b:Int):dv t b ∣ t:=by
 unfold dv;split
 ·exact Int.neg_dvd.mpr<|Mx t b
 ·exact Mx t b
theorem RB (t b:Int):dv t b ∣ b:=by
 unfold dv;split
 ·exact Int.neg_dvd.mpr<|Bp t b
 ·exact Bp t b
theorem lt_mul (hb:b≠0):dv t b*lt t b=t:=by
 obtain⟨q,hq⟩:=X6 t b;have e:lt t b=q:=Av (Oe hb) hq;rw[e];exact hq.symm
theorem Gj (hb:b≠0):dv t b*lb t b=b:=by
 obtain⟨q,hq⟩:=RB t b;have e:lb t b=q:=Av (Oe hb) hq;rw[e];exact hq.symm
theorem aam (hb:b≠0):1<=lb t b:=by
 have e:=Gj (t:=t) hb;have g:=Ff (a:=t) hb;by_cases h:lb t b<=0
 ·exfalso;unfold dv at e;split at e
  ·have:0<=-gI t b*lb t b:=Int.mul_nonneg_of_nonpos_of_nonpos (by lia) h
   lia
  ·have:gI t b*lb t b<=0:=Int.mul_nonpos_of_nonneg_of_nonpos (by lia) h
   lia
 ·lia
theorem X5 (hb:b≠0):gI (lt t b) (lb t b)=1:=by
 have e1:=lt_mul (t:=t) hb;have e2:=Gj (t:=t) hb;have g:=Ff (a:=t) hb;have q:gI t b=(dv t b).natAbs*gI (lt t b) (lb t b):=by
  have:sf (dv t b*lt t b) (dv t b*lb t b)=(dv t b).natAbs*sf (lt t b) (lb t b):=Int.gcd_mul_left ..
  rw[e1,e2] at this;unfold gI;rw[this];push_cast;rfl
 have ed:((dv t b).natAbs:Int)=gI t b:=by rw[Uy];have:=abH t b;lia
 rw[ed] at q;have h:gI t b*gI (lt t b) (lb t b)=gI t b*1:=by rw[Int.mul_one];exact q.symm
 exact Int.eq_of_mul_eq_mul_left (by lia) h
theorem Pb (hb:b≠0):lt t b*b=t*lb t b:=by
 have e1:=lt_mul (t:=t) hb;have e2:=Gj (t:=t) hb
 calc lt t b*b=lt t b*(dv t b*lb t b):=by rw[e2]
  _=(dv t b*lt t b)*lb t b:=by rw[← lp,k6 (lt t b)<|dv t b]
  _=t*lb t b:=by rw[e1]
theorem abW (hb:b≠0):(lt t b).natAbs<=t.natAbs:=by
 have e:=lt_mul (t:=t) hb;have h:(lt t b).natAbs ∣ t.natAbs:=i7.mpr ⟨dv t b,by rw[k6];exact e.symm⟩;by_cases z:t=0
 ·have:lt t b=0:=by
   have e':dv t b*lt t b=0:=e.trans z;rcases Int.mul_eq_zero.mp e' with h|h
   ·exact absurd h<|Oe hb
   ·exact h
  rw[this];exact fS _
 ·exact AE (by lia) h
theorem abg (hb:b≠0):(lb t b).natAbs<=b.natAbs:=by
 have e:=Gj (t:=t) hb;have h:(lb t b).natAbs ∣ b.natAbs:=i7.mpr ⟨dv t b,by rw[k6];exact e.symm⟩;exact AE (by lia) h
theorem uo (c:sf p q=1)(h:q ∣ p*s):q ∣ s:=by
 have h2:q.natAbs ∣ p.natAbs*s.natAbs:=by rw[← yB];exact i7.mpr h
 have c2:BA q.natAbs p.natAbs:=by unfold BA;rw[A2];exact c
 exact i7.mp<|Nat.Coprime.dvd_of_dvd_mul_left c2 h2
theorem JP (hq:1<=q)(hs:1<=s)(g1:gI p q=1)(g2:gI r s=1)(h:p*s=r*q):p=r/\q=s:=by
 have c1:sf p q=1:=by unfold gI at g1;lia
 have c2:sf r s=1:=by unfold gI at g2;lia
 have d1:q ∣ s:=by
  have:q ∣ p*s:=⟨r,by rw[h,k6]⟩
  exact uo c1 this
 have d2:s ∣ q:=by
  have:s ∣ r*q:=⟨p,by rw[← h,k6]⟩
  exact uo c2 this
 have e:q=s:=Int.dvd_antisymm (by lia) (by lia) d1 d2;subst e;exact⟨qE (by lia) h,rfl⟩
theorem Gs {a b:Int}(ha:a.natAbs<2^m)(hb:b.natAbs<2^n):(a*b).natAbs<2^(m+n):=by
 rw[yB,Nat.pow_add];exact Nat.mul_lt_mul'' ha hb
theorem aaT {a b:Int}(ha:a.natAbs<2^m)(hb:b.natAbs<2^m):(a+b).natAbs<2^(m+1):=by
 rw[Nat.pow_succ]
 lia
theorem sX (h:n<2^m)(hk:m<=k):n<2^k:=cb h<|x8 (by decide) hk
theorem aau (hu:u≠0)(hq:1<=q)(g:gI p q=1)(h:t*q=p*u):lt t u=p/\lb t u=q:=by
 refine JP (aam hu) hq (X5 hu) g ?_;have e:=Pb (t:=t) hu;have e2:lt t u*q*u=p*lb t u*u:=by
  calc lt t u*q*u=lt t u*u*q:=by rw[lp,k6 q u,← lp]
   _=t*lb t u*q:=by rw[e]
   _=t*q*lb t u:=by rw[lp,k6 (lb t u) q,← lp]
   _=p*u*lb t u:=by rw[h]
   _=p*lb t u*u:=by rw[lp,k6 u,← lp]
 exact qE hu e2
abbrev Q2:=Int×Int
end Hd
namespace F
open PySem L2 Hd
@[simp] theorem szl:ay=16777216:=by decide
theorem vZ:∀{a b:List Char},a.map nt=b.map nt->a=b
 |[],[],_=>rfl
 |[],_::_,h=>by simp at h
 |_::_,[],h=>by simp at h
 |x::a,y::b,h=>by
  have h':x.toNat=y.toNat/\a.map nt=b.map nt:=by simpa using h
  rw[Char.toNat_inj.mp h'.1,vZ h'.2]
@[simp] theorem ac2 {a b:String}:(cf a=cf b)↔a=b:=by
 constructor
 ·intro h;rw[mP,mP] at h;have h2:(a.toList.map nt).toArray=(b.toList.map nt).toArray:=congrArg Str.cps h;have h3:a.toList.map nt=b.toList.map nt:=by simpa using congrArg vi h2
  exact String.toList_inj.mp<|vZ h3
 ·intro h;rw[h]
mutual
def okD:D->Bool
 | .non|.bl _|.int _=>true
 | .str x=>d5 x
 | .tup xs=>rn xs
 | .lst xs=>rn xs
 | .exc _ _ _|.dct _ _|.dcu _ _|.dcf _ _|.adr _|.ins _ _ _=>false
def rn:List D->Bool
 |[]=>true
 |x::xs=>okD x&&rn xs
end
mutual
def gJ:D->Nat
 | .non|.bl _|.int _|.str _=>0
 | .tup xs=>ju xs+1
 | .lst xs=>ju xs+1
 | .exc _ _ _|.dct _ _|.dcu _ _|.dcf _ _|.adr _|.ins _ _ _=>0
def ju:List D->Nat
 |[]=>0
 |x::xs=>max (gJ x)<|ju xs
end
mutual
theorem w6:∀d:D,okD d=true->∃p,toPy d=some p/\p.canLay0=true/\p.depth=gJ d/\fN p p=true
 | .non,_=>⟨.none,by simp[toPy],by simp[l4],by simp[om,gJ],by simp[fN]⟩
 | .bl b,_=>⟨.bool b,by simp[toPy],by simp[l4],by simp[om,gJ],by simp[fN]⟩
 | .int b,_=>⟨.int b,by simp[toPy],by simp[l4],by simp[om,gJ],by simp[fN]⟩
 | .str b,h=>⟨.str b,by simp[toPy],by simpa[l4,okD] using h,by simp[om,gJ],by simp[fN]⟩
 | .tup xs,h=>by
  obtain⟨ps,h1,h2,h3,h4⟩:=Am xs (by simpa[okD] using h);exact⟨.tuple ps,by simp[toPy,h1],by simpa[l4] using h2,by simp[om,gJ,h3],by simpa[fN] using h4⟩
 | .lst xs,h=>by
  obtain⟨ps,h1,h2,h3,h4⟩:=Am xs (by simpa[okD] using h);exact⟨.list ps,by simp[toPy,h1],by simpa[l4] using h2,by simp[om,gJ,h3],by simpa[fN] using h4⟩
 | .exc _ _ _,h=>by simp[okD] at h
 | .dct _ _,h=>by simp[okD] at h
 | .dcu _ _,h=>by simp[okD] at h
 | .adr _,h=>by simp[okD] at h
 | .ins _ _ _,h=>by simp[okD] at h
 | .dcf _ _,h=>by simp[okD] at h
theorem Am:∀ds:List D,rn ds=true->∃ps,mU ds=some ps/\sv ps=true/\xp ps=ju ds/\kG ps ps=true
 |[],_=>⟨[],by simp[mU],by simp[sv],by simp[xp,ju],by simp[kG]⟩
 |d::ds,h=>by
  have h':okD d=true/\rn ds=true:=by simpa[rn] using h
  obtain⟨p,h1,h2,h3,h4⟩:=w6 d h'.1;obtain⟨ps,k1,k2,k3,k4⟩:=Am ds h'.2;exact⟨p::ps,by simp[mU,h1,k1],by simp[sv,h2,k2],by simp[xp,ju,h3,k3],by simp[kG,h4,k4]⟩
end
theorem zb {d:D}(h:okD d=true)(hd:gJ d<=64):lV d d=some true:=by
 obtain⟨p,h1,h2,h3,h4⟩:=w6 d h;unfold lV;rw[h1]
 have:gS p=true:=by unfold gS;rw[h2,decide_eq_true<|by omega];rfl
 simp[this,h4]
theorem Hw {d:D}(h:okD d=true)(hd:gJ d<=64):gEq d d=some true:=by
 cases d with
 |non=>rfl
 |bl b=>simp[gEq]
 |int b=>simp[gEq]
 |str b=>simp[gEq]
 |tup xs=>exact zb h hd
 |lst xs=>exact zb h hd
 |exc c _ _=>simp[okD] at h
 |dct _ _=>simp[okD] at h
 |dcu _ _=>simp[okD] at h
 |adr _=>simp[okD] at h
 |ins _ _ _=>simp[okD] at h
 |dcf _ _=>simp[okD] at h
theorem SX {d:D}(h:okD d=true)(hd:gJ d<=64):gNe d d=some false:=by unfold gNe;rw[Hw h hd];rfl
@[simp] theorem ac6 (i j:Int):gEq (.int i) (.int j)=some (decide<|i=j):=rfl
@[simp] theorem ac3 (i j:Str):gEq (.str i) (.str j)=some (decide<|i=j):=rfl
@[simp] theorem adC (i j:Bool):gEq (.bl i) (.bl j)=some (decide<|i=j):=rfl
@[simp] theorem ac5 (i j:Int):gNe (.int i) (.int j)=some (!decide (i=j)):=rfl
@[simp] theorem ac1 (i j:Str):gNe (.str i) (.str j)=some (!decide (i=j)):=rfl
@[simp] theorem adK (i j:Bool):gNe (.bl i) (.bl j)=some (!decide (i=j)):=rfl
noncomputable def qD (d:Q2):D:=.tup [.int d.1,.int d.2]
mutual
inductive Gm where
 |fin (d:Q2)
 |deal (n:Str) (ws:Ws)
 |move (s:Int) (n:Str) (ws:Ws)
inductive Ws where
 |nil
 |cons (l:D) (g:Gm) (r:Ws)
end
mutual
def dG:Gm->D
 | .fin d=>.tup [.str "end",qD d]
 | .deal n ws=>.tup [.str "deal",.str n,.tup<|dWs ws]
 | .move s n ws=>.tup [.str "move",.int s,.str n,.tup<|dWs ws]
def dWs:Ws->List D
 | .nil=>[]
 | .cons l g r=>.tup [l,dG g]::dWs r
end
mutual
def dp:Gm->Nat
 | .fin _=>0
 | .deal _ ws=>dpW ws+1
 | .move _ _ ws=>dpW ws+1
def dpW:Ws->Nat
 | .nil=>0
 | .cons _ g r=>max (dp g)<|dpW r
end
noncomputable def jz:Ws->Nat
 | .nil=>0
 | .cons _ _ r=>jz r+1
theorem mJ:∀ws:Ws,(dWs ws).length=jz ws
 | .nil=>rfl
 | .cons l g r=>by show(dWs r).length+1=_;rw[mJ r];rfl
def Nm (n:Str):Prop:=d5 n=true
mutual
def gD:Gm->Prop
 | .fin _=>True
 | .deal _ ws=>jz ws<=100/\zq ws
 | .move _ _ ws=>jz ws<=100/\zq ws
def zq:Ws->Prop
 | .nil=>True
 | .cons _ g r=>gD g/\zq r
end
def zK (zs:List Str):List Nat:=zs.flatMap λz=>z.cps.toList
theorem Qd:(cf "").cps=#[]:=by decide +kernel
theorem Om:∀(zs:List Str) (acc:Array Nat),(zs.foldl (λacc p=>acc++(cf "").cps++p.cps) acc).toList=acc.toList++zK zs
 |[],acc=>by simp[zK]
 |z::zs,acc=>by
  rw[kT,Om zs,Qd];simp[zK]
theorem Sg (zs:List Str):(AD (cf "") zs).cps.toList=zK zs:=by
 show((zs.drop 1).foldl (λacc p=>acc++(cf "").cps++p.cps) (zs.headD Bn).cps).toList=_;rw[Om];cases zs with
 |nil=>simp[zK,Bn]
 |cons z zs=>simp[zK]
theorem Eg:∀(zs:List Str) (n:Nat),zs.foldl (λn z=>n+z.length+(cf "").length) n=n+(zK zs).length
 |[],n=>by simp[zK]
 |z::zs,n=>by
  rw[kT,Eg zs]
  have:(cf "").length=0:=by decide +kernel
  rw[this];simp[zK,Str.length]
  lia
theorem joinOk_of (h:(zK zs).length<=16777216):BC (cf "") zs=true:=by
 unfold BC;rw[List.foldl_toArray,Eg];simp[y9]
 lia
theorem Py (cs:List Nat):zK (cs.map λc=>(⟨#[c]⟩:Str))=cs:=by
 induction cs with
 |nil=>rfl
 |cons c cs ih=>simp[zK] at ih ⊢;exact ih
theorem CK {cs:List Nat}(h:∀c∈cs,c<128):d5 ⟨cs.toArray⟩=true:=by
 unfold d5;simp only[ui,uj,decide_eq_true_eq];intro c hc
 have:=h c hc
 lia
theorem Ib (h:f m=.ok [.int j])(h1:-1000000000<=j)(h2:j<=1000000000):uH f m=.ok ((cm j.toNat).map λ(i:Nat)=>D.int i):=by
 unfold uH;rw[h];show(if -(2^62)<=j/\j<2^62 then _ else _)=_;rw[if_pos ⟨by lia,by lia⟩]
theorem adk (h:f m=.ok [.int i,.int j])(h1:-1000000000<=i)(h2:i<=1000000000)(h3:-1000000000<=j)(h4:j<=1000000000):Nr f m=.ok ((cm (j-i).toNat).map λ(k:Nat)=>D.int<|i+k):=by
 unfold Nr;rw[h];show(if -(2^62)<=i/\i<2^62/\-(2^62)<=j/\j<2^62 then _ else _)=_;rw[if_pos ⟨by lia,by lia,by lia,by lia⟩]
theorem Be (s:String):d5 (cf s)=true:=by
 rw[mP];unfold d5;simp only[ui,uj,decide_eq_true_eq,dS];rintro c ⟨ch,_,rfl⟩
 have:=ch.valid
 rcases this with h|⟨h1,h2⟩
 ·have:ch.toNat<0xd800:=h
  lia
 ·have:ch.toNat<0x110000:=h2
  lia
theorem Fb (ha:d5 a=true)(hb:d5 b=true):d5 (a++b)=true:=by
 unfold d5 at *;show(a.cps++b.cps).all _=true;rw[Array.all_append,ha,hb];rfl
open PySem PySem.NumText
def tx (l:List Nat):Str:=⟨l.toArray⟩
theorem z8 (l:List Nat):(tx l).cps.toList=l:=rfl
theorem wL (l:List Nat):(tx l).length=l.length:=by rfl
theorem NP (h:x.cps.toList=l):x=tx l:=by
 cases x with
 |mk a=>subst h;unfold tx;simp
theorem Zz (a b:List Nat):tx a++tx b=tx (a++b):=NP (by show(a.toArray++b.toArray).toList=_;simp)
theorem Vj:tx a=tx b↔a=b:=⟨λh=>by have:=congrArg (λz:Str=>z.cps.toList) h;exact this,λh=>by rw[h]⟩
end F
namespace Pk
open PySem L2 Hd F
noncomputable def jF:Ws->List Gm
 | .nil=>[]
 | .cons _ g r=>g::jF r
def kids:Gm->List Gm
 | .fin _=>[]
 | .deal _ ws=>jF ws
 | .move _ _ ws=>jF ws
mutual
def szG:Gm->Nat
 | .fin _=>1
 | .deal _ ws=>szW ws+1
 | .move _ _ ws=>szW ws+1
def szW:Ws->Nat
 | .nil=>0
 | .cons _ g r=>szG g+szW r
end
theorem pY (g:Gm):1<=szG g:=by cases g<;>simp[szG]
mutual
def plG:List Int->Gm->List (List Int×Gm)
 |w,.fin d=>[(w,.fin d)]
 |w,.deal n ws=>(w,.deal n ws)::plW w 0 ws
 |w,.move s n ws=>(w,.move s n ws)::plW w 0 ws
def plW:List Int->Nat->Ws->List (List Int×Gm)
 |_,_,.nil=>[]
 |w,i,.cons _ g r=>plG (w++[(i:Int)]) g++plW w (i+1) r
end
def pD (p:List Int×Gm):D:=.tup [.tup<|p.1.map .int,dG p.2]
def bh (w:List Int)(g:Gm):List (List Int×Gm):=(kids g).zipIdx.map λp=>(w++[(p.2:Int)],p.1)
theorem Lg (w:List Int):∀(i:Nat) (ws:Ws),plW w i ws=(((jF ws).zipIdx i).map λp=>(w++[(p.2:Int)],p.1)).flatMap λp=>plG p.1 p.2
 |i,.nil=>rfl
 |i,.cons l g r=>by
  show plG (w++[(i:Int)]) g++plW w (i+1) r=_;rw[Lg w (i+1) r];rfl
theorem ZC (w:List Int)(g:Gm):plG w g=(w,g)::(bh w g).flatMap λp=>plG p.1 p.2:=by
 cases g with
 |fin d=>rfl
 |deal n ws=>show(w,Gm.deal n ws)::plW w 0 ws=_;rw[Lg];rfl
 |move s n ws=>show(w,Gm.move s n ws)::plW w 0 ws=_;rw[Lg];rfl
theorem yV:∀ws:Ws,szW ws=((jF ws).map szG).sum
 | .nil=>rfl
 | .cons l g r=>by show szG g+szW r=_;rw[yV r];rfl
theorem Uc (g:Gm):szG g=((kids g).map szG).sum+1:=by
 cases g with
 |fin d=>rfl
 |deal n ws=>show szW ws+1=_;rw[yV];rfl
 |move s n ws=>show szW ws+1=_;rw[yV];rfl
theorem iC:∀ws:Ws,(jF ws).length=jz ws
 | .nil=>rfl
 | .cons l g r=>by show(jF r).length+1=_;rw[iC r];rfl
theorem wK:∀{ws:Ws} {g:Gm},zq ws->g∈jF ws->gD g
 | .cons l k r,g,h,hg=>by
  rcases bq.mp hg with w|w
  ·rw[w];exact h.1
  ·exact wK h.2 w
theorem Eb (h:gD g)(hk:k∈kids g):gD k/\(kids g).length<=100:=by
 cases g with
 |fin d=>cases hk
 |deal n ws=>exact⟨wK h.2 hk,by show(jF ws).length<=100;rw[iC];exact h.1⟩
 |move s n ws=>exact⟨wK h.2 hk,by show(jF ws).length<=100;rw[iC];exact h.1⟩
theorem wY (h:gD g):(kids g).length<=100:=by
 cases g with
 |fin d=>exact fS _
 |deal n ws=>show(jF ws).length<=100;rw[iC];exact h.1
 |move s n ws=>show(jF ws).length<=100;rw[iC];exact h.1
theorem yJ:∀ws:Ws,dY (eN 2<|aU (hName 0)<|aU (hName 1) eO) gR (aH 1) [.un,.un] (dWs ws)=.ok ((jF ws).map dG)
 | .nil=>rfl
 | .cons l g r=>by
  have ih:=yJ r;have e:aH 1 [.fz l,.fz<|dG g]=.ok (dG g):=rfl;unfold dWs dY;simp[eN,aU,hName,eO,gR,e,ih,jF]
theorem Gr (q:Q [.fz<|dG g]=.ok (.lst<|(kids g).map dG)\/kids g=[]/\∃d,g=.fin d):bc 1 1 (iG Q) [dG g]=.ok (true,.lst<|(kids g).map dG):=by
 have x2:∀a b:D,atI [a,b] 0=some a:=λ_ _=>rfl;have x3:∀a b c:D,atI [a,b,c] 0=some a:=λ_ _ _=>rfl;have x4:∀a b c d:D,atI [a,b,c,d] 0=some a:=λ_ _ _ _=>rfl;cases g with
 |fin d=>simp[bc,iG,aJ,gIf,aL,aB,ak,fC,gIx,dG,x2,jy,Me.let,Sl.let,eG,aA,kids]
 |deal n ws=>
  rcases q with q|⟨_,d,e⟩
  ·have q':=q;simp only[dG] at q';simp[bc,iG,aJ,gIf,aL,aB,ak,fC,gIx,dG,x3,jy,Me.let,Sl.let,q',gNx]
  ·cases e
 |move s n ws=>
  rcases q with q|⟨_,d,e⟩
  ·have q':=q;simp only[dG] at q';simp[bc,iG,aJ,gIf,aL,aB,ak,fC,gIx,dG,x4,jy,Me.let,Sl.let,q',gNx]
  ·cases e
theorem zf (h:gD g):jA [dG g]=.ok (true,.lst<|(kids g).map dG):=by
 have x3:∀a b c:D,atI [a,b,c] (-1)=some c:=λ_ _ _=>rfl;have x4:∀a b c d:D,atI [a,b,c,d] (-1)=some d:=λ_ _ _ _=>rfl;refine Gr ?_;cases g with
 |fin d=>exact .inr ⟨rfl,d,rfl⟩
 |deal n ws=>
  have hz:(dWs ws).length<=16777216:=by rw[mJ];have:=h.1;lia
  left;simp[nO,cA,jQ,aB,ak,fUn,Cw,fC,gIx,dG,x3,cMe,hz,yJ,kids]
 |move s n ws=>
  have hz:(dWs ws).length<=16777216:=by rw[mJ];have:=h.1;lia
  left;simp[nO,cA,jQ,aB,ak,fUn,Cw,fC,gIx,dG,x4,cMe,hz,yJ,kids]
theorem QC (ks:List Gm):CJ (ks.map dG)=ks.zipIdx.map λp=>D.tup [.int (p.2:Int),dG p.1]:=by
 unfold CJ;rw[List.mapIdx_eq_zipIdx_map,List.zipIdx_map,fF];rfl
theorem eV:∀l:List α,(∀c∈l,∃m1,h (g c) m0=some m1/\ft m1=.ok true/\fe m1=.ok (f c))->dY h ft fe m0 (l.map g)=.ok (l.map f)
 |[],_=>rfl
 |d::ds,H=>by
  obtain⟨m1,e1,e2,e3⟩:=H d ar;have ih:=eV ds λd hd=>H d<|ai _ hd;rw[aT];unfold dY;simp only[e1,e2,e3,ih,aT]
theorem Pz (h:gD g)(hw:w.length<=1000):mz [a,s1,s2,.fz<|pD (w,g),s4]=.ok (.lst<|(bh w g).map pD):=by
 have hb:=zf h;have hl:=wY h;have x0:∀a b:D,atI [a,b] 0=some a:=λ_ _=>rfl;have x1:∀a b:D,atI [a,b] 1=some b:=λ_ _=>rfl;have e:dY (eN 2<|aU (hName 0)<|aU (hName 1) eO) gR qN [.un,.un,.fz<|pD (w,g)] ((kids g).zipIdx.map λp=>D.tup [.int (p.2:Int),dG p.1])=.ok ((kids g).zipIdx.map λp=>pD (w++[(p.2:Int)],p.1)):=eV _ λp hp=>by
  refine⟨[.fz<|.int (p.2:Int),.fz<|dG p.1,.fz<|pD (w,g)],rfl,rfl,?_⟩;have hz:(w.map D.int).length+1<=16777216:=by rw[dE];lia
  have hz':w.length+1<=16777216:=by lia
  simp[qN,aM,aa,aA,aB,ak,aH,fC,gIx,pD,x0,cF,hz']
 have hz:(kids g).length<=16777216:=by lia
 have e':((bh w g).map pD)=(kids g).zipIdx.map λp=>pD (w++[(p.2:Int)],p.1):=by unfold bh;rw[fF];rfl
 rw[e'];simp only[pD] at e ⊢;simp[mz,cA,ZW,aa,aA,fFn,aB,ak,fC,gIx,x1,hb,QC,cMe,Sl.bor,hz,e]
noncomputable def szS (st:List (List Int×Gm)):Nat:=(st.map λp=>szG p.2).sum
theorem aae (w:List Int)(g:Gm):szS (bh w g)+1=szG g:=by
 rw[Uc];unfold szS bh;rw[fF];congr 2
 have:((λp:List Int×Gm=>szG p.2)∘λp:Gm×Nat=>(w++[(p.2:Int)],p.1))=szG∘A7:=rfl
 rw[this,← fF,l9]
theorem Ov:∀st:List (List Int×Gm),st.length<=szS st
 |[]=>fS _
 |p::st=>by
  have:=Ov st
  have:=pY p.2
  show st.length+1<=szG p.2+szS st
  lia
theorem Ot (a b:List (List Int×Gm)):szS (a++b)=szS a+szS b:=by unfold szS;rw[dQ,List.sum_append]
theorem zN (h1:t m=.ok true)(h2:b m=.ok (.nx,m'))(h3:wh t b n m'=some r):wh t b (n+1) m=some r:=by
 unfold wh;rw[h1,h2];exact h3
theorem zY (h1:t m=.ok false):wh t b 1 m=some (.ok (.nx,m)):=by
 unfold wh;rw[h1]
theorem GQ (h:gD g)(hw:w.length<=1000)(hz:done.length+st.length<=10000000):
  mG [a,.ow<|.lst<|done.map pD,.ow<|.lst<|(((w,g)::st).map pD).reverse,s3,s4]=.ok (.nx,[a,.ow<|.lst<|(done++[(w,g)]).map pD,.ow<|.lst<|((bh w g++st).map pD).reverse,.fz<|pD (w,g),.fz<|.lst<|(bh w g).map pD]):=by
 have hl:=wY h;have hb:(bh w g).length=(kids g).length:=by unfold bh;simp
 have q:∀s1 s2 s4,mz [a,s1,s2,.fz<|pD (w,g),s4]=.ok (.lst<|(bh w g).map pD):=λs1 s2 s4=>Pz h hw;have l1:((st.map pD).reverse++[pD (w,g)]).length-1=(st.map pD).reverse.length:=by simp
 have g1:((st.map pD).reverse++[pD (w,g)])[((st.map pD).reverse++[pD (w,g)]).length-1]? = some (pD (w,g)):=by rw[l1];simp
 have d1:((st.map pD).reverse++[pD (w,g)]).dropLast=(st.map pD).reverse:=List.dropLast_concat;have z1:done.length<16777216:=by lia
 have z2:st.length+(bh w g).length<=16777216:=by rw[hb];lia
 rw[aT,kd];generalize hS:(st.map pD).reverse=S at *;have lS:S.length=st.length:=by rw[← hS];simp
 have e2:((bh w g++st).map pD).reverse=S++((bh w g).map pD).reverse:=by rw[dQ,p9,hS]
 rw[e2];have g1':(S++[pD (w,g)])[S.length]? = some (pD (w,g)):=by simp
 simp[mG,aJ,Ga,rN,putL,dq,aH,bj,q,FJ,aR,aa,aA,ak,Rk,z1,lS,z2]
theorem XQ (h:gD g):∀p∈bh w g,gD p.2/\p.1.length=w.length+1:=λp hp=>by
 unfold bh at hp;obtain⟨q,hq,rfl⟩:=dS.mp hp
 have:q.1∈kids g:=by have:=ma (f:=A7) hq;rwa [l9] at this
 exact⟨(Eb h this).1,by simp⟩
theorem LR (hk:k∈kids g):dp k<dp g:=by
 have aux:∀{ws:Ws},k∈jF ws->dp k<=dpW ws:=by
  intro ws;induction ws using Ws.rec (motive_1:=λ_=>True) with
  |nil=>intro h;cases h
  |cons l g r _ ih=>
   intro h;show dp k<=max (dp g) (dpW r);rcases bq.mp h with w|w
   ·rw[w];exact Nat.le_max_left _ _
   ·exact cy (ih w)<|Nat.le_max_right _ _
  |fin=>trivial
  |deal=>trivial
  |move=>trivial
 cases g with
 |fin d=>cases hk
 |deal n ws=>exact Nat.lt_succ_of_le (aux hk)
 |move s n ws=>exact Nat.lt_succ_of_le (aux hk)
theorem acp:∀p∈bh w g,dp p.2<dp g:=λp hp=>by
 unfold bh at hp;obtain⟨q,hq,rfl⟩:=dS.mp hp
 have:q.1∈kids g:=by have:=ma (f:=A7) hq;rwa [l9] at this
 exact LR this
theorem Ac (a:Sl):∀(N:Nat) (done st:List (List Int×Gm)) (s3 s4:Sl),szS st=N->(∀p∈st,gD p.2/\p.1.length+dp p.2<=100)->done.length+szS st<=10000000->
  ∃k s3' s4',wh mQ mG k [a,.ow<|.lst<|done.map pD,.ow<|.lst<|(st.map pD).reverse,s3,s4]=some (.ok (.nx,[a,.ow<|.lst<|(done++st.flatMap λp=>plG p.1 p.2).map pD,.ow<|.lst [],s3',s4'])):=by
 intro N;induction N using qc with
 |_ N ih=>
  intro done st s3 s4 hN hs hz;cases st with
  |nil=>
   refine⟨1,s3,s4,?_⟩;simp only[vT,List.reverse_nil,oB,cE];exact zY<|by simp[mQ,aL,aR,dI,aa,aA,ak,fC,gGt]
  |cons p st=>
   obtain⟨w,g⟩:=p;have h1:gD g/\w.length+dp g<=100:=hs (w,g) (by simp);have sb:=aae w g;have hsum:szS ((w,g)::st)=szG g+szS st:=rfl;have ls:=Ov st;have gp:=pY g;obtain⟨k,t3,t4,e⟩:=ih (szS<|bh w g++st) (by rw[Ot];lia) (done++[(w,g)]) (bh w g++st) (.fz<|pD (w,g)) (.fz<|.lst<|(bh w g).map pD) rfl (λp hp=>by
    rcases cS.mp hp with v|v
    ·have v1:=XQ h1.1 p v;have v2:=acp p v;exact⟨v1.1,by lia⟩
    ·exact hs p<|by simp[v]) (by rw[Ot,cc];simp;lia)
   refine⟨k+1,t3,t4,?_⟩;have e3:done++((w,g)::st).flatMap (λp=>plG p.1 p.2)=done++[(w,g)]++(bh w g++st).flatMap λp=>plG p.1 p.2:=by
    rw[nv,ze,ZC]
    simp
   rw[e3];refine zN ?_ (GQ h1.1 (by lia)<|by lia) e;simp[mQ,aL,aR,dI,aa,aA,ak,fC,gGt]
theorem Ld (e:L [.fz d,.ow<|.lst [],.ow<|.lst [.tup [.tup [],d]],.un,.un]=.ok (.nx,[.fz d,.ow<|.lst ps,.ow<|.lst [],s3,s4])):bc 5 1 (pO L) [d]=.ok (true,.lst ps):=by
 simp[bc,pO,aJ,gY,eG,aa,aA,aM,aH,e,ux]
theorem places_eq (h:gD g)(hd:dp g<=50)(hz:szG g<=10000000):iQ [dG g]=.ok (true,.lst<|(plG [] g).map pD):=by
 obtain⟨k,s3,s4,e⟩:=Ac (.fz<|dG g) _ [] [([],g)] .un .un rfl (λp hp=>by rw[bP.mp hp];exact⟨h,by simp;lia⟩) (by show 0+(szG g+0)<=_;lia);have e2:=vJ k e;simp only[mh,nv,oB,cE] at e2;exact Ld (s3:=s3) (s4:=s4) e2
noncomputable def kw (w:List Int):List Kt:=w.map λi=>.k<|.inl i
theorem GJ:∀{v w:List Int},kw v=kw w->v=w
 |[],[],_=>rfl
 |[],_::_,h=>by cases h
 |_::_,[],h=>by cases h
 |a::v,b::w,h=>by
  have h:(Kt.k (.inl a):Kt)::kw v=Kt.k (.inl b)::kw w:=h;injection h with h1 h2
  injection h1 with h1
  injection h1 with h1
  rw[h1,GJ h2]
theorem Yr:∀w:List Int,rY (ktD 7) (w.map D.int)=some (kw w)
 |[]=>rfl
 |a::w=>by
  show((ktD 7<|.int a).bind λk=>(rY (ktD 7)<|w.map D.int).map λks=>k::ks)=_;rw[Yr w];rfl
theorem Vg (w:List Int):vO (.tup<|w.map D.int)=some (kw w):=Yr w
theorem HJ:∀{ks:List (List Kt)} {ds:List D},ks.length=ds.length->k∈ks->dW ks (vX ks ds k d) k'=if k=k' then some d else dW ks ds k'
 |[],_,_,h=>by cases h
 |a::ks,[],h,_=>by simp at h
 |a::ks,x::ds,h,hk=>by
  have hl:ks.length=ds.length:=by simpa using h
  unfold vX dW;by_cases h1:a=k'
  ·rw[if_pos h1,if_pos h1];by_cases h2:a=k
   ·rw[if_pos h2,if_pos<|h2▸h1]
   ·rw[if_neg h2,if_neg λe=>h2<|by rw[h1,e]]
  ·rw[if_neg h1,if_neg h1];by_cases h2:k∈ks
   ·exact HJ hl h2
   ·have h3:a=k:=by
     rcases bq.mp hk with e|e
     ·exact e.symm
     ·exact absurd e h2
    have h4:k≠k':=λe=>h1 (by rw[h3,e]);rw[if_neg h4];have e:∀{ks:List (List Kt)} {ds:List D},k∉ks->ks.length=ds.length->vX ks ds k d=ds:=by
     intro ks;induction ks with
     |nil=>intro ds _ hl;cases ds with
      |nil=>rfl
      |cons _ _=>simp at hl
     |cons b ks ih=>intro ds hn hl;cases ds with
      |nil=>simp at hl
      |cons y ds=>
       unfold vX;rw[if_neg λ(e:b=k)=>hn<|e▸ar,ih (λe=>hn<|ai _ e)<|by simpa using hl]
    rw[e h2 hl]
theorem N8:∀{ks:List (List Kt)} {ds:List D},ks.length=ds.length->k∉ks->dW (ks++[k]) (ds++[d]) k'=if k=k' then some d else dW ks ds k'
 |[],[],_,_=>by simp[dW]
 |[],_::_,h,_=>by simp at h
 |a::ks,[],h,_=>by simp at h
 |a::ks,x::ds,h,hk=>by
  have ih:=N8 (k:=k) (k':=k') (d:=d) (ks:=ks) (ds:=ds) (by simpa using h) λe=>hk<|ai _ e;have hn:a≠k:=λe=>hk<|e▸ar;show dW (a::(ks++[k])) (x::(ds++[d])) k'=_;unfold dW;rw[ih];by_cases h1:a=k'
  ·rw[if_pos h1,if_neg λe=>hn (by rw[h1,e]),if_pos h1]
  ·rw[if_neg h1,if_neg h1]
theorem Gi {ks:List (List Kt)}:ks.any (λx=>decide<|x=k)=true↔k∈ks:=by simp_all
theorem Ir:∀{ks:List (List Kt)} {ds:List D},ks.length=ds.length->(vX ks ds k d).length=ks.length
 |[],[],_=>rfl
 |[],_::_,h=>by simp at h
 |a::ks,[],h=>by simp at h
 |a::ks,x::ds,h=>by
  have:=Ir (k:=k) (d:=d) (ks:=ks) (ds:=ds)<|by simpa using h
  simp[vX,this]
theorem Hf {ks:List (List Kt)}{ds:List D}(hl:ks.length=ds.length):dW (uy ks ds k d).1 (uy ks ds k d).2 k'=if k=k' then some d else dW ks ds k':=by
 unfold uy;by_cases h:ks.any (λx=>decide<|x=k)=true
 ·rw[if_pos h];exact HJ hl<|Gi.mp h
 ·rw[if_neg h];exact N8 hl λz=>h<|Gi.mpr z
theorem Xl (hl:ks.length=ds.length):(uy ks ds k d).1.length=(uy ks ds k d).2.length/\(uy ks ds k d).1.length<=ks.length+1:=by
 unfold uy;by_cases h:ks.any (λx=>decide<|x=k)=true
 ·rw[if_pos h];exact⟨(Ir hl).symm,by simp⟩
 ·rw[if_neg h];exact⟨by simp[hl],by simp⟩
theorem bI (h1:h d m=some m1)(h2:g m1=.ok (.nx,m2)):bL h g (d::ds) m=bL h g ds m2:=by
 rw[bL,h1];simp only[h2]
abbrev Rc:=List D×List D
noncomputable def rD2 (r:Rc):D:=.tup [.tup r.1,.tup r.2]
noncomputable def rbm (s:Int)(n:Str)(r:Rc)(l:D):Rc:=if s=1 then(r.1++[.tup [.str n,l]],r.2) else(r.1,r.2++[.tup [.str n,l]])
noncomputable def fY:Ws->List D
 | .nil=>[]
 | .cons l _ r=>l::fY r
def rbg:Gm->Rc->D->Rc
 | .move s n _,r,l=>rbm s n r l
 |_,r,_=>r
noncomputable def yO:Gm->Ws
 | .fin _=>.nil
 | .deal _ ws=>ws
 | .move _ _ ws=>ws
mutual
def prG:List Int->Rc->Gm->List (List Int×Gm×Rc)
 |w,r,.fin d=>[(w,.fin d,r)]
 |w,r,.deal n ws=>(w,.deal n ws,r)::prW w (λ_=>r) 0 ws
 |w,r,.move s n ws=>(w,.move s n ws,r)::prW w (rbm s n r) 0 ws
def prW:List Int->(D->Rc)->Nat->Ws->List (List Int×Gm×Rc)
 |_,_,_,.nil=>[]
 |w,f,i,.cons l g r=>prG (w++[(i:Int)]) (f l) g++prW w f (i+1) r
end
mutual
theorem Dq:∀(w:List Int) (r:Rc) (g:Gm),(prG w r g).map (λp=>(p.1,p.2.1))=plG w g
 |w,r,.fin d=>rfl
 |w,r,.deal n ws=>by
  show(w,Gm.deal n ws)::(prW w (λ_=>r) 0 ws).map _=(w,Gm.deal n ws)::plW w 0 ws;rw[Kr w _ 0 ws]
 |w,r,.move s n ws=>by
  show(w,Gm.move s n ws)::(prW w (rbm s n r) 0 ws).map _=(w,Gm.move s n ws)::plW w 0 ws;rw[Kr w _ 0 ws]
theorem Kr:∀(w:List Int) (f:D->Rc) (i:Nat) (ws:Ws),(prW w f i ws).map (λp=>(p.1,p.2.1))=plW w i ws
 |w,f,i,.nil=>rfl
 |w,f,i,.cons l g r=>by
  show(prG (w++[(i:Int)]) (f l) g++prW w f (i+1) r).map _=plG (w++[(i:Int)]) g++plW w (i+1) r;rw[dQ,Dq _ _ g,Kr w f (i+1) r]
end
def trD (p:List Int×Gm×Rc):D:=.tup [.tup<|p.1.map D.int,dG p.2.1,rD2 p.2.2]
theorem Mp:∀(ws:Ws) (k:Nat) (l:D),(fY ws)[k]? = some l->∃g,(dWs ws)[k]? = some (.tup [l,g])
 | .nil,k,l,h=>by simp[fY] at h
 | .cons a g r,0,l,h=>by
  have:a=l:=by simpa[fY] using h
  exact⟨dG g,by simp[dWs,this]⟩
 | .cons a g r,k+1,l,h=>by
  obtain⟨x,e⟩:=Mp r k l (by simpa[fY] using h);exact⟨x,by simpa[dWs] using e⟩
theorem lF:∀ws:Ws,(fY ws).length=jz ws
 | .nil=>rfl
 | .cons _ _ r=>by simp[fY,jz,lF r]
theorem abY {g:Gm}{r:Rc}{k:Nat}{l:D}(hl:(fY<|yO g)[k]? = some l)(hg:gD g)(hr:r.1.length<=1000/\r.2.length<=1000)(hs:∀s n ws,g=.move s n ws->s=1\/s=2):
  eY [dG g,rD2 r,.int (k:Int)]=.ok (false,rD2<|rbg g r l):=by
 have x30:∀a b c:D,atI [a,b,c] 0=some a:=λ_ _ _=>rfl;have x40:∀a b c d:D,atI [a,b,c,d] 0=some a:=λ_ _ _ _=>rfl;have x41:∀a b c d:D,atI [a,b,c,d] 1=some b:=λ_ _ _ _=>rfl;have x42:∀a b c d:D,atI [a,b,c,d] 2=some c:=λ_ _ _ _=>rfl;have x43:∀a b c d:D,atI [a,b,c,d] 3=some d:=λ_ _ _ _=>rfl;have x20:∀a b:D,atI [a,b] 0=some a:=λ_ _=>rfl;have x21:∀a b:D,atI [a,b] 1=some b:=λ_ _=>rfl;cases g with
 |fin d=>simp[yO,fY] at hl
 |deal n ws=>simp[eY,gM,gG,bc,aJ,gIf,aL,aB,ak,fC,gIx,dG,x30,bz,aH,Me.let,Sl.let,rbg]
 |move s n ws=>
  obtain⟨y,ey⟩:=Mp ws k l hl;have ez:=mD ey;have z1:r.1.length+1<=16777216:=by lia
  have z2:r.2.length+1<=16777216:=by lia
  rcases hs s n ws rfl with rfl|rfl
  ·simp[eY,gM,gG,bc,aJ,gIf,aL,aB,ak,fC,gIx,dG,x40,x41,x42,x43,bz,aH,Me.let,Sl.let,rbg,gNx,bj,aM,aa,aA,ez,x20,x21,rD2,cF,z1,rbm]
  ·simp[eY,gM,gG,bc,aJ,gIf,aL,aB,ak,fC,gIx,dG,x40,x41,x42,x43,bz,aH,Me.let,Sl.let,rbg,gNx,bj,aM,aa,aA,ez,x20,x21,rD2,cF,z2,rbm]
theorem abS (w:List Int)(j:Int):kw (w++[j])≠kw w:=λh=>by
 have:=GJ h
 have:=congrArg sM this
 simp at this
theorem Zo (h:i≠j):kw (w++[i])≠kw (w++[j]):=λe=>h<|by simpa using GJ e
theorem RV {g0 s2 s5:Sl}{ks:List (List Kt)}{ds:List D}{w:List Int}{g:Gm}{r:Rc}{k:Nat}{l:D}(hv:dW ks ds (kw w)=some (rD2 r))(hk:(fY<|yO g)[k]? = some l)(hg:gD g)(hr:r.1.length<=1000/\r.2.length<=1000)
  (hs:∀s n ws,g=.move s n ws->s=1\/s=2) (hz:ks.length<=10000000) (hw:w.length<=1000):
  cQ [g0,.ow<|.dcu ks ds,s2,.fz<|.tup<|w.map D.int,.fz<|dG g,.fz<|.int (k:Int)]=.ok (.nx,[g0,.ow<|.dcu (uy ks ds (kw<|w++[(k:Int)])<|rD2<|rbg g r l).1 (uy ks ds (kw<|w++[(k:Int)])<|rD2<|rbg g r l).2,s2,.fz<|.tup<|w.map D.int,.fz<|dG g,.fz<|.int (k:Int)]):=by
 have e:=abY hk hg hr hs;have z1:ks.length<16777216:=by lia
 have z2:w.length+1<=16777216:=by lia
 have kk:vO (.tup<|w.map D.int++[.int (k:Int)])=some (kw<|w++[(k:Int)]):=by
  rw[← Vg];simp
 have kk2:vO (.tup<|w.map D.int)=some (kw w):=Vg w;simp[cQ,Fd,fFn,aa,aA,aH,aB,ak,Jt,dcK,kk2,hv,e,vM,aM,cF,z2,kk,z1,pC]
theorem Jm {g0 s2:Sl}{w:List Int}{g:Gm}{r:Rc}(hg:gD g)(hr:r.1.length<=1000/\r.2.length<=1000)(hs:∀s n ws,g=.move s n ws->s=1\/s=2)(hw:w.length<=1000):
  ∀(c i:Nat) (ks:List (List Kt)) (ds:List D) (s5:Sl),i+c=(fY<|yO g).length->ks.length=ds.length->dW ks ds (kw w)=some (rD2 r)->ks.length+c<=1000000->
   ∃ks' ds' s5',bL (hName 5) cQ ((qf i c).map λ(k:Nat)=>D.int k) [g0,.ow<|.dcu ks ds,s2,.fz<|.tup<|w.map D.int,.fz<|dG g,s5]=.ok (.nx,[g0,.ow<|.dcu ks' ds',s2,.fz<|.tup<|w.map D.int,.fz<|dG g,s5'])/\ks'.length=ds'.length/\ks'.length<=ks.length+c/\
    (∀j l,i<=j->(fY<|yO g)[j]? = some l->dW ks' ds' (kw<|w++[(j:Int)])=some (rD2<|rbg g r l))/\(∀k',(∀j:Nat,i<=j->k'≠kw (w++[(j:Int)]))->dW ks' ds' k'=dW ks ds k')
 |0,i,ks,ds,s5,hc,hl,hv,hz=>⟨ks,ds,s5,rfl,hl,by lia,λj l h1 h2=>by
   have:=(d3.mp h2).1
   lia,λ_ _=>rfl⟩
 |c+1,i,ks,ds,s5,hc,hl,hv,hz=>by
  have hi:i<(fY<|yO g).length:=by lia
  obtain⟨l,el⟩:∃l,(fY<|yO g)[i]? = some l:=⟨_,bS hi⟩;have st:=RV (g0:=g0) (s2:=s2) (s5:=s5) hv el hg hr hs (by lia) hw;have hv1:dW (uy ks ds (kw<|w++[(i:Int)])<|rD2<|rbg g r l).1 (uy ks ds (kw<|w++[(i:Int)])<|rD2<|rbg g r l).2 (kw w)=some (rD2 r):=by rw[Hf hl,if_neg<|abS w i];exact hv
  obtain⟨l1,l2⟩:=Xl (k:=kw<|w++[(i:Int)]) (d:=rD2<|rbg g r l) hl;refine RN (Jm (g0:=g0) (s2:=s2) (w:=w) (g:=g) (r:=r) hg hr hs hw c (i+1) _ _ (.fz<|.int (i:Int)) (by lia) l1 hv1<|by lia) λks' ds' s5' e a1 a2 a3 a4=>?_;refine⟨ks',ds',s5',?_,a1,by lia,λj l' h1 h2=>?_,λk' h=>?_⟩
  ·rw[l7,aT];rw[bI (m1:=[g0,.ow<|.dcu ks ds,s2,.fz<|.tup<|w.map D.int,.fz<|dG g,.fz<|.int (i:Int)]) rfl st];exact e
  ·by_cases q:i=j
   ·subst q;rw[a4 _ λj hj=>Zo (by lia),Hf hl,if_pos rfl];rw[el] at h2;cases h2;rfl
   ·exact a3 j l' (by lia) h2
  ·rw[a4 k' λj hj=>h j (by lia),Hf hl,if_neg λq=>h i (aI _) q.symm]
mutual
def sdG:Gm->Prop
 | .fin _=>True
 | .deal _ ws=>sdW ws
 | .move s _ ws=>(s=1\/s=2)/\sdW ws
def sdW:Ws->Prop
 | .nil=>True
 | .cons _ g r=>sdG g/\sdW r
end
abbrev hPl:Zba:=eN 2<|aU (hName 3)<|aU (hName 4) eO
theorem zW (g:Gm):kids g=jF (yO g):=by cases g<;>rfl
theorem Bl (hl:ks.length=ds.length)(hv:dW ks ds (kw w)=some (rD2 r))(hg:gD g)(hr:r.1.length<=1000/\r.2.length<=1000)
  (hs:∀s n ws,g=.move s n ws->s=1\/s=2) (hz:ks.length<=100000) (hf:found.length<=100000) (hw:w.length<=1000):
  ∃ks' ds' s5',(hPl (pD (w,g)) [g0,.ow<|.dcu ks ds,.ow<|.lst found,s3,s4,s5]=some [g0,.ow<|.dcu ks ds,.ow<|.lst found,.fz<|.tup<|w.map D.int,.fz<|dG g,s5])/\
   bA [g0,.ow<|.dcu ks ds,.ow<|.lst found,.fz<|.tup<|w.map D.int,.fz<|dG g,s5]=.ok (.nx,[g0,.ow<|.dcu ks' ds',.ow<|.lst<|found++[trD (w,g,r)],.fz<|.tup<|w.map D.int,.fz<|dG g,s5'])/\ks'.length=ds'.length/\ks'.length<=ks.length+jz (yO g)/\
    (∀(j:Nat) (l:D),(fY<|yO g)[j]? = some l->dW ks' ds' (kw<|w++[(j:Int)])=some (rD2<|rbg g r l))/\(∀k',(∀j:Nat,k'≠kw (w++[(j:Int)]))->dW ks' ds' k'=dW ks ds k'):=by
 have hb:=zf hg;have hk:=wY hg;have ek:(kids g).length=(fY<|yO g).length:=by rw[zW,iC,lF]
 refine RN (Jm (g0:=g0) (s2:=.ow<|.lst<|found++[trD (w,g,r)]) (w:=w) (g:=g) (r:=r) hg hr hs hw (kids g).length 0 ks ds s5 (by lia) hl hv<|by lia) λks' ds' s5' e a1 a2 a3 a4=>?_;refine⟨ks',ds',s5',rfl,?_,a1,by rw[← lF,← ek];exact a2,λj l h=>a3 j l (fS _) h,λk' h=>a4 k' λj _=>h j⟩;have z1:found.length<16777216:=by lia
 have z3:((kids g).length:Int)<4611686018427387904:=by lia
 have kk2:vO (.tup<|w.map D.int)=some (kw w):=Vg w;have eL:gQ [g0,.ow<|.dcu ks ds,.ow<|.lst<|found++[trD (w,g,r)],.fz<|.tup<|w.map D.int,.fz<|dG g,s5]=.ok (.nx,[g0,.ow<|.dcu ks' ds',.ow<|.lst<|found++[trD (w,g,r)],.fz<|.tup<|w.map D.int,.fz<|dG g,s5']):=by
  have e1:(aa (aR dI<|aa (fFn jA<|aa (aH 4) aA) aA) aA) [g0,.ow<|.dcu ks ds,.ow<|.lst<|found++[trD (w,g,r)],.fz<|.tup<|w.map D.int,.fz<|dG g,s5]=.ok [.int ((kids g).length:Int)]:=by
   simp[aR,dI,fFn,aa,aA,aH,hb]
  have e2:=Ib e1 (by lia) (by lia);unfold gQ fB;rw[e2];show bL (hName 5) cQ ((cm (kids g).length).map λ(k:Nat)=>D.int k) _=_;rw[ja];exact e
 simp only[trD] at eL ⊢;simp[bA,aJ,dq,aM,aa,aA,aH,aB,ak,Jt,dcK,kk2,hv,rN,putL,z1,eL]
theorem GF (ws:Ws):(jF ws).length<=((jF ws).map szG).sum:=by
 induction jF ws with
 |nil=>exact fS _
 |cons g l ih=>have:=pY g;simp;lia
mutual
theorem Af:∀(w:List Int) (g:Gm),(plG w g).length=szG g
 |w,.fin d=>rfl
 |w,.deal n ws=>by show(plW w 0 ws).length+1=szW ws+1;rw[Gf w 0 ws]
 |w,.move s n ws=>by show(plW w 0 ws).length+1=szW ws+1;rw[Gf w 0 ws]
theorem Gf:∀(w:List Int) (i:Nat) (ws:Ws),(plW w i ws).length=szW ws
 |w,i,.nil=>rfl
 |w,i,.cons l g r=>by show(plG (w++[(i:Int)]) g++plW w (i+1) r).length=szG g+szW r;rw[cc,Af _ g,Gf w (i+1) r]
end
mutual
theorem RT (g0:Sl):∀(g:Gm) (w:List Int) (r:Rc) (ks:List (List Kt)) (ds found:List D) (s3 s4 s5:Sl) (rest:List D),ks.length=ds.length->dW ks ds (kw w)=some (rD2 r)->gD g->sdG g->r.1.length+dp g<=1000->r.2.length+dp g<=1000->w.length+dp g<=1000->
  ks.length+szG g<=100001->found.length+szG g<=100000->
  ∃ks' ds' s3' s4' s5',bL hPl bA ((plG w g).map pD++rest) [g0,.ow<|.dcu ks ds,.ow<|.lst found,s3,s4,s5]=bL hPl bA rest [g0,.ow<|.dcu ks' ds',.ow<|.lst<|found++(prG w r g).map trD,s3',s4',s5']/\ks'.length=ds'.length/\ks'.length+1<=ks.length+szG g/\
   (∀k',(∀u:List Int,u≠[]->k'≠kw (w++u))->dW ks' ds' k'=dW ks ds k')
 | .fin d,w,r,ks,ds,found,s3,s4,s5,rest,hl,hv,hg,hs,r1,r2,hw,hz,hf=>by
  have hsz:szG (.fin d)=1:=rfl;refine Dr (Bl (g0:=g0) (s3:=s3) (s4:=s4) (s5:=s5) (found:=found) (g:=.fin d) hl hv hg ⟨by lia,by lia⟩ (λ_ _ _ z=>by cases z) (by lia) (by lia) (by lia)) λks' ds' s5' e1 e2 a1 a2 a3 a4=>?_;refine⟨ks',ds',.fz<|.tup<|w.map D.int,.fz<|dG<|.fin d,s5',?_,a1,by simpa[yO,jz,szG] using a2,λk' h=>a4 k' λj=>h [(j:Int)]<|by simp⟩;show bL hPl bA (pD (w,.fin d)::rest) _=_;rw[bI e1 e2];rfl
 | .deal n ws,w,r,ks,ds,found,s3,s4,s5,rest,hl,hv,hg,hs,r1,r2,hw,hz,hf=>by
  have hsz:szG (.deal n ws)=szW ws+1:=rfl;have hdp:dp (.deal n ws)=dpW ws+1:=rfl;have hlw:jz ws<=szW ws:=by rw[← iC,yV];exact GF ws
  refine Dr (Bl (g0:=g0) (s3:=s3) (s4:=s4) (s5:=s5) (found:=found) (g:=.deal n ws) hl hv hg ⟨by lia,by lia⟩ (λ_ _ _ z=>by cases z) (by lia) (by lia) (by lia)) λks' ds' s5' e1 e2 a1 a2 a3 a4=>?_;have a2:ks'.length<=ks.length+jz ws:=a2;obtain⟨kt,dt,t3,t4,t5,e,b1,b2,b3⟩:=Li g0 ws w (λ_=>r) 0 ks' ds' (found++[trD (w,.deal n ws,r)]) (.fz<|.tup<|w.map D.int) (.fz<|dG<|.deal n ws) s5' rest a1 (λj l h=>by rw[AR];exact a3 j l h) hg.2 hs (λl=>by lia) (λl=>by lia) (by lia) (by lia) (by rw[cc,eK];lia);refine⟨kt,dt,t3,t4,t5,?_,b1,by lia,λk' h=>?_⟩
  ·show bL hPl bA (pD (w,.deal n ws)::((plW w 0 ws).map pD++rest)) _=_;rw[bI e1 e2,e];show bL _ _ _ [_,_,.ow<|.lst<|found++[trD (w,.deal n ws,r)]++(prW w (λ_=>r) 0 ws).map trD,_,_,_]=bL _ _ _ [_,_,.ow<|.lst<|found++(trD (w,.deal n ws,r)::(prW w (λ_=>r) 0 ws).map trD),_,_,_];rw[gc];rfl
  ·rw[b3 k' λj u hu=>h _ (by simp),a4 k' λj=>h [(j:Int)]<|by simp]
 | .move s n ws,w,r,ks,ds,found,s3,s4,s5,rest,hl,hv,hg,hs,r1,r2,hw,hz,hf=>by
  have hsz:szG (.move s n ws)=szW ws+1:=rfl;have hdp:dp (.move s n ws)=dpW ws+1:=rfl;have hlw:jz ws<=szW ws:=by rw[← iC,yV];exact GF ws
  obtain⟨ks',ds',s5',e1,e2,a1,a2,a3,a4⟩:=Bl (g0:=g0) (s3:=s3) (s4:=s4) (s5:=s5) (found:=found) (g:=.move s n ws) hl hv hg ⟨by lia,by lia⟩ (λ_ _ _ z=>by cases z;exact hs.1) (by lia) (by lia) (by lia);have a2:ks'.length<=ks.length+jz ws:=a2;have rl:∀l,(rbm s n r l).1.length<=r.1.length+1/\(rbm s n r l).2.length<=r.2.length+1:=λl=>by
   unfold rbm;split<;>simp
  obtain⟨kt,dt,t3,t4,t5,e,b1,b2,b3⟩:=Li g0 ws w (rbm s n r) 0 ks' ds' (found++[trD (w,.move s n ws,r)]) (.fz<|.tup<|w.map D.int) (.fz<|dG<|.move s n ws) s5' rest a1 (λj l h=>by rw[AR];exact a3 j l h) hg.2 hs.2 (λl=>by have:=(rl l).1;lia) (λl=>by have:=(rl l).2;lia) (by lia) (by lia) (by rw[cc,eK];lia);refine⟨kt,dt,t3,t4,t5,?_,b1,by lia,λk' h=>?_⟩
  ·show bL hPl bA (pD (w,.move s n ws)::((plW w 0 ws).map pD++rest)) _=_;rw[bI e1 e2,e];show bL _ _ _ [_,_,.ow<|.lst<|found++[trD (w,.move s n ws,r)]++(prW w (rbm s n r) 0 ws).map trD,_,_,_]=bL _ _ _ [_,_,.ow<|.lst<|found++(trD (w,.move s n ws,r)::(prW w (rbm s n r) 0 ws).map trD),_,_,_];rw[gc];rfl
  ·rw[b3 k' λj u hu=>h _ (by simp),a4 k' λj=>h [(j:Int)]<|by simp]
theorem Li (g0:Sl):∀(ws:Ws) (w:List Int) (f:D->Rc) (i:Nat) (ks:List (List Kt)) (ds found:List D) (s3 s4 s5:Sl) (rest:List D),ks.length=ds.length->(∀(j:Nat) (l:D),(fY ws)[j]? = some l->dW ks ds (kw<|w++[((i+j:Nat):Int)])=some (rD2<|f l))->zq ws->sdW ws->
  (∀l,(f l).1.length+dpW ws<=1000)->(∀l,(f l).2.length+dpW ws<=1000)->w.length+1+dpW ws<=1000->ks.length+szW ws<=100000+jz ws->found.length+szW ws<=100000->
  ∃ks' ds' s3' s4' s5',bL hPl bA ((plW w i ws).map pD++rest) [g0,.ow<|.dcu ks ds,.ow<|.lst found,s3,s4,s5]=bL hPl bA rest [g0,.ow<|.dcu ks' ds',.ow<|.lst<|found++(prW w f i ws).map trD,s3',s4',s5']/\ks'.length=ds'.length/\ks'.length+jz ws<=ks.length+szW ws/\
   (∀k',(∀(j:Nat) (u:List Int),u≠[]->k'≠kw (w++((i+j:Nat):Int)::u))->dW ks' ds' k'=dW ks ds k')
 | .nil,w,f,i,ks,ds,found,s3,s4,s5,rest,hl,hv,hg,hs,r1,r2,hw,hz,hf=>⟨ks,ds,s3,s4,s5,by simp[plW,prW],hl,by simp[jz,szW],λ_ _=>rfl⟩
 | .cons l g r,w,f,i,ks,ds,found,s3,s4,s5,rest,hl,hv,hg,hs,r1,r2,hw,hz,hf=>by
  have hsz:szW (.cons l g r)=szG g+szW r:=rfl;have hdp:dpW (.cons l g r)=max (dp g) (dpW r):=rfl;have hlw:jz (.cons l g r)=jz r+1:=rfl;have hl2:jz r<=szW r:=by rw[← iC,yV];exact GF r
  have hp:=pY g;have q1:=r1 l;have q2:=r2 l;obtain⟨ks',ds',t3,t4,t5,e,a1,a2,a3⟩:=RT g0 g (w++[(i:Int)]) (f l) ks ds found s3 s4 s5 ((plW w (i+1) r).map pD++rest) hl (hv 0 l rfl) hg.1 hs.1 (by lia) (by lia) (by rw[cc,eK];lia) (by lia) (by lia);have pl:(prG (w++[(i:Int)]) (f l) g).length=szG g:=by rw[← dE (f:=λp=>(p.1,p.2.1)),Dq];exact Af _ g
  obtain⟨kt,dt,u3,u4,u5,e',b1,b2,b3⟩:=Li g0 r w f (i+1) ks' ds' (found++(prG (w++[(i:Int)]) (f l) g).map trD) t3 t4 t5 rest a1 (λj l' h=>by
   rw[a3 _ λu hu z=>?_,← hv (j+1) l' (by simpa[fY] using h),show i+(j+1)=i+1+j by lia]
   have:=GJ z
   simp at this
   lia) hg.2 hs.2 (λl=>by have:=r1 l;lia) (λl=>by have:=r2 l;lia) (by lia) (by lia) (by rw[cc,dE,pl];lia)
  refine⟨kt,dt,u3,u4,u5,?_,b1,by lia,λk' h=>?_⟩
  ·show bL _ _ ((plG (w++[(i:Int)]) g++plW w (i+1) r).map pD++rest) _=_;rw[dQ,gc,e,e'];show _=bL _ _ _ [_,_,.ow<|.lst<|found++(prG (w++[(i:Int)]) (f l) g++prW w f (i+1) r).map trD,_,_,_];rw[dQ,gc]
  ·rw[b3 k' λj u hu=>by have:=h (j+1) u hu;rw[show i+(j+1)=i+1+j by lia] at this;exact this];refine a3 k' λu hu=>?_
   have:=h 0 u hu
   simpa using this
end
theorem Wz (e:L [.fz d,.ow<|.dcu [[]] [rD2 ([],[])],.ow<|.lst [],.un,.un,.un]=.ok (.nx,[.fz d,a,.ow<|.lst ps,s3,s4,s5])):bc 6 1 (fU L) [d]=.ok (true,.lst ps):=by
 have k0:vO (.tup [])=some []:=rfl;simp only[rD2] at e;simp[bc,fU,aJ,gY,Kz,aM,aA,aa,k0,eG,e,ux]
theorem U6 (h:gD g)(hs:sdG g)(hd:dp g<=50)(hz:szG g<=10000):cN [dG g]=.ok (true,.lst<|(prG [] ([],[]) g).map trD):=by
 have e:=places_eq h hd (by lia);obtain⟨ks',ds',s3',s4',s5',e2,_⟩:=RT (.fz<|dG g) g [] ([],[]) [[]] [rD2 ([],[])] [] .un .un .un [] rfl (by simp[dW,kw]) h hs (by simp;lia) (by simp;lia) (by simp;lia) (by simp;lia) (by simp;lia);refine Wz (a:=.ow<|.dcu ks' ds') (s3:=s3') (s4:=s4') (s5:=s5') ?_;have e1:eE (fFn iQ<|aa (aH 0) aA) [.fz<|dG g,.ow<|.dcu [[]] [rD2 ([],[])],.ow<|.lst [],.un,.un,.un]=.ok ((plG [] g).map pD):=by
  simp[eE,fFn,aa,aA,aH,e]
 unfold j9 fB;rw[e1];rw[cE] at e2;exact e2
noncomputable def xW (r:Rc)(s:Int):List D:=if s=1 then r.1 else r.2
def qu (s:Int)(n:Str)(ws:Ws)(r:Rc):D:=.tup [.int s,.str n,.tup<|fY ws,.tup<|xW r s]
theorem oH:∀ws:Ws,dY (eN 2<|aU (hName 0)<|aU (hName 1) eO) gR (aH 0) [.un,.un] (dWs ws)=.ok (fY ws)
 | .nil=>rfl
 | .cons l g r=>by
  have ih:=oH r;have e:aH 0 [.fz l,.fz<|dG g]=.ok l:=rfl;unfold dWs dY;simp[eN,aU,hName,eO,gR,e,ih,fY]
theorem Uj (h:jz ws<=100):rR [dG<|.move s n ws]=.ok (false,.tup<|fY ws):=by
 have x4:∀a b c d:D,atI [a,b,c,d] 3=some d:=λ_ _ _ _=>rfl;have hz:(fY ws).length<=16777216:=by rw[lF];lia
 have hz2:(dWs ws).length<=16777216:=by rw[mJ];lia
 have e:rZ [.fz<|dG<|.move s n ws]=.ok (.lst<|fY ws):=by
  simp[rZ,cA,jQ,aB,ak,fC,gIx,dG,x4,cMe,oH,hz,hz2]
 simp[rR,wJ,wI,bc,bz,aR,aa,aA,Me.let,Sl.let,e,jU,hz]
theorem Gu (h:jz ws<=100)(hs:s=1\/s=2):qQ [dG<|.move s n ws,rD2 r]=.ok (false,qu s n ws r):=by
 have e:=Uj (s:=s) (n:=n) h;have x1:∀a b c d:D,atI [a,b,c,d] 1=some b:=λ_ _ _ _=>rfl;have x2:∀a b c d:D,atI [a,b,c,d] 2=some c:=λ_ _ _ _=>rfl;have y0:∀a b:D,atI [a,b] 0=some a:=λ_ _=>rfl;have y1:∀a b:D,atI [a,b] 1=some b:=λ_ _=>rfl;simp only[dG] at e;rcases hs with rfl|rfl
 ·simp[qQ,yj,ye,bc,bz,Me.let,Sl.let,aM,aa,aA,aB,ak,fC,gIx,dG,x1,x2,fFn,aH,e,rD2,F.mj,y0,y1,qu,xW]
 ·simp[qQ,yj,ye,bc,bz,Me.let,Sl.let,aM,aa,aA,aB,ak,fC,gIx,dG,x1,x2,fFn,aH,e,rD2,F.mj,y0,y1,qu,xW]
abbrev Tb:=List (List Kt)×List D
noncomputable def kn (s:Int)(n:Str):List Kt:=[.k<|.inl s,.k<|.inr n]
def tst (T:Tb)(p:List Int×Gm×Rc):Tb:=match p.2.1 with
 | .move s n ws=>if(dW T.1 T.2<|kn s n).isSome then T else(T.1++[kn s n],T.2++[qu s n ws p.2.2])
 |_=>T
def tbl (l:List (List Int×Gm×Rc)):Tb:=l.foldl tst ([],[])
theorem Nh (T:Tb)(p:List Int×Gm×Rc):(tst T p).1.length<=T.1.length+1:=by grind[tst]
def okP (p:List Int×Gm×Rc):Prop:=match p.2.1 with
 | .move s _ ws=>(s=1\/s=2)/\jz ws<=100
 |_=>True
theorem Rr (hp:okP p)(hz:T.1.length<=100000):∃m1,eN 3 (aU (hName 2)<|aU (hName 3)<|aU (hName 4) eO) (trD p) [g0,.ow<|.dcu T.1 T.2,s2,s3,s4]=some m1/\
  gZ m1=.ok (.nx,[g0,.ow<|.dcu (tst T p).1 (tst T p).2,.fz<|.tup<|p.1.map D.int,.fz<|dG p.2.1,.fz<|rD2 p.2.2]):=by
 refine⟨[g0,.ow<|.dcu T.1 T.2,.fz<|.tup<|p.1.map D.int,.fz<|dG p.2.1,.fz<|rD2 p.2.2],rfl,?_⟩;obtain⟨w,g,r⟩:=p;have x20:∀a b:D,atI [a,b] 0=some a:=λ_ _=>rfl;have x30:∀a b c:D,atI [a,b,c] 0=some a:=λ_ _ _=>rfl;have x40:∀a b c d:D,atI [a,b,c,d] 0=some a:=λ_ _ _ _=>rfl;have x41:∀a b c d:D,atI [a,b,c,d] 1=some b:=λ_ _ _ _=>rfl;have x42:∀a b c d:D,atI [a,b,c,d] 2=some c:=λ_ _ _ _=>rfl;cases g with
 |fin d=>simp[gZ,gIf,aL,aB,ak,fC,gIx,dG,x20,gNx,tst]
 |deal n ws=>simp[gZ,gIf,aL,aB,ak,fC,gIx,dG,x30,gNx,tst]
 |move s n ws=>
  have hp:(s=1\/s=2)/\jz ws<=100:=hp;have e:=Gu (n:=n) (r:=r) hp.2 hp.1;simp only[dG] at e;have kk:vO (.tup [.int s,.str n])=some (kn s n):=rfl;have z1:T.1.length<16777216:=by lia
  by_cases q:(dW T.1 T.2<|kn s n).isSome=true
  ·simp[gZ,gIf,aL,aB,ak,fC,gIx,dG,x40,x41,x42,X4,vM,aM,aa,aA,fFn,aH,e,kk,z1,tst,q,pC]
  ·simp[gZ,gIf,aL,aB,ak,fC,gIx,dG,x40,x41,x42,X4,vM,aM,aa,aA,fFn,aH,e,kk,z1,tst,q,pC]
theorem Hm:∀(l:List (List Int×Gm×Rc)) (T:Tb) (s2 s3 s4:Sl),(∀p∈l,okP p)->T.1.length+l.length<=100000->∃s2' s3' s4',bL (eN 3<|aU (hName 2)<|aU (hName 3)<|aU (hName 4) eO) gZ (l.map trD) [g0,.ow<|.dcu T.1 T.2,s2,s3,s4]=.ok (.nx,[g0,.ow<|.dcu (l.foldl tst T).1 (l.foldl tst T).2,s2',s3',s4'])
 |[],T,s2,s3,s4,_,_=>⟨s2,s3,s4,rfl⟩
 |p::l,T,s2,s3,s4,hp,hz=>by
  have hz':T.1.length+(l.length+1)<=100000:=hz;obtain⟨m1,e1,e2⟩:=Rr (g0:=g0) (s2:=s2) (s3:=s3) (s4:=s4) (T:=T) (hp p ar)<|by lia
  have:=Nh T p
  obtain⟨a,b,c,e⟩:=Hm l (tst T p) (.fz<|.tup<|p.1.map D.int) (.fz<|dG p.2.1) (.fz<|rD2 p.2.2) (λq hq=>hp q<|ai _ hq) (by lia);exact⟨a,b,c,by rw[aT,bI e1 e2,e];rfl⟩
theorem tab_run (e:L [.fz d,.ow<|.dcu [] [],.un,.un,.un]=.ok (.nx,[.fz d,.ow<|.dcu ks ds,s2,s3,s4])):bc 5 1 (tQ L) [d]=.ok (true,.lst ds):=by
 simp[bc,tQ,aJ,gY,vh,e,jy,Me.let,Sl.let,J3,ak]
mutual
theorem Ur:∀(w:List Int) (r:Rc) (g:Gm),gD g->sdG g->∀p∈prG w r g,okP p
 |w,r,.fin d,_,_,p,hp=>by
  have:p=(w,.fin d,r):=by simpa[prG] using hp
  rw[this];exact fg
 |w,r,.deal n ws,h,hs,p,hp=>by
  rcases bq.mp (show p∈(w,Gm.deal n ws,r)::prW w (λ_=>r) 0 ws from hp) with e|e
  ·rw[e];exact fg
  ·exact K8 w _ 0 ws h.2 hs p e
 |w,r,.move s n ws,h,hs,p,hp=>by
  rcases bq.mp (show p∈(w,Gm.move s n ws,r)::prW w (rbm s n r) 0 ws from hp) with e|e
  ·rw[e];exact⟨hs.1,h.1⟩
  ·exact K8 w _ 0 ws h.2 hs.2 p e
theorem K8:∀(w:List Int) (f:D->Rc) (i:Nat) (ws:Ws),zq ws->sdW ws->∀p∈prW w f i ws,okP p
 |w,f,i,.nil,_,_,p,hp=>by cases hp
 |w,f,i,.cons l g r,h,hs,p,hp=>by
  rcases cS.mp (show p∈prG (w++[(i:Int)]) (f l) g++prW w f (i+1) r from hp) with e|e
  ·exact Ur _ _ g h.1 hs.1 p e
  ·exact K8 w f (i+1) r h.2 hs.2 p e
end
theorem uL (w:List Int)(r:Rc)(g:Gm):(prG w r g).length=szG g:=by rw[← dE (f:=λp=>(p.1,p.2.1)),Dq];exact Af _ g
theorem table_eq (h:gD g)(hs:sdG g)(hd:dp g<=50)(hz:szG g<=10000):uc [dG g]=.ok (true,.lst (tbl<|prG [] ([],[]) g).2):=by
 have e:=U6 h hs hd hz;obtain⟨a,b,c,e2⟩:=Hm (g0:=.fz<|dG g) (prG [] ([],[]) g) ([],[]) .un .un .un (Ur _ _ g h hs) (by rw[uL];simp;lia);refine tab_run (ks:=(tbl<|prG [] ([],[]) g).1) (s2:=a) (s3:=b) (s4:=c) ?_;have e1:eE (fFn cN<|aa (aH 0) aA) [.fz<|dG g,.ow<|.dcu [] [],.un,.un,.un]=.ok ((prG [] ([],[]) g).map trD):=by
  simp[eE,fFn,aa,aA,aH,e]
 unfold yd fB;rw[e1];exact e2
end Pk
namespace F
open PySem L2 Hd
noncomputable def rq (r:Rat):Q2:=(r.num,(r.den:Int))
def rD (r:Rat):D:=qD<|rq r
theorem Vc (r:Rat):rD r=.tup [.int r.num,.int r.den]:=rfl
theorem uX (r:Rat):1<=(r.den:Int):=by have:=r.den_pos;lia
theorem Ze (r:Rat):gI r.num r.den=1:=by
 unfold gI
 have:=r.reduced
 unfold BA at this;show((sf r.num (r.den:Int):Nat):Int)=1;unfold sf;simp[this]
theorem K5 (hb:b≠0):(lt t b,lb t b)=rq (c4 t b):=by
 have h:=mw<|c4 t b;have hd:((c4 t b).den:Int)≠0:=by have:=uX<|c4 t b;lia
 have h2:=(sx hd hb).mp h;obtain⟨z1,z2⟩:=aau hb (uX<|c4 t b) (Ze<|c4 t b) (t:=t) h2.symm;exact Prod.ext z1 z2
theorem RJ (r:Rat):c4 r.num r.den=r:=mw r
theorem Yv (a b:Rat):c4 (a.num*b.den+b.num*a.den) (a.den*b.den)=a+b:=by
 have ha:=uX a;have hb:=uX b;rw[← xt _ _ (by lia) (by lia),RJ,RJ]
def Sz (k:Nat)(r:Rat):Prop:=r.num.natAbs<2^k/\r.den<2^k
theorem JZ (hb:b≠0)(h1:t.natAbs<2^k)(h2:b.natAbs<2^k):Sz k (c4 t b):=by
 have e:=K5 (t:=t) hb;have e1:=congrArg A7 e;have e2:=congrArg Prod.snd e;have e1:lt t b=(c4 t b).num:=e1;have e2:lb t b=((c4 t b).den:Int):=e2;have l1:=abW (t:=t) hb;have l2:=abg (t:=t) hb;rw[e1] at l1;rw[e2] at l2;exact⟨by lia,by lia⟩
theorem aa6 (ha:Sz k a)(hb:Sz l b):Sz (k+l+1) (a+b):=by
 rw[← Yv];have pa:=uX a;have pb:=uX b;have h1:(a.num*b.den).natAbs<2^(k+l):=Gs ha.1 (by simpa using hb.2);have h2:(b.num*a.den).natAbs<2^(k+l):=by rw[AX];exact Gs hb.1<|by simpa using ha.2
 have h3:((a.den:Int)*b.den).natAbs<2^(k+l):=Gs (by simpa using ha.2) (by simpa using hb.2);refine JZ ?_ (aaT h1 h2)<|sX h3 (by lia);exact Int.mul_ne_zero (by lia)<|by lia
theorem M9:Sz 1 0:=⟨by decide,by decide⟩
theorem Oh (h:Sz k r)(hk:k<=4000):Bq r.num/\Bq (r.den:Int):=⟨Mj<|sX h.1 (by lia),Mj<|sX (by simpa using h.2) (by lia)⟩
theorem ZS (h:Sz k a)(g:Sz l b)(hk:k+l<=4000):Bq ((a.den:Int)*b.den):=Mj<|sX (Gs (by simpa using h.2) (by simpa using g.2)) (by lia)
theorem Up (a b:Rat):(a.den:Int)*b.den≠0:=Int.mul_ne_zero (by have:=uX a;lia) (by have:=uX b;lia)
end F
namespace Pk
open PySem L2 Hd F
theorem X8 (x y:Sl):∀(n:Nat) (a b:Int) (z:Sl),b.toNat=n->0<=a->0<=b->∃k z',wh j6 jZ k [x,y,.fz<|.int a,.fz<|.int b,z] =
  some (.ok (.nx,[x,y,.fz<|.int<|gI a b,.fz<|.int 0,z'])):=by
 intro n;induction n using qc with
 |_ n ih=>
  intro a b z hn ha hb;by_cases h0:b=0
  ·subst h0;refine⟨1,z,?_⟩;rw[M3 ha];exact zY rfl
  ·have hb':0<b:=by lia
   have hm:=rj a hb';have hm0:=xw a h0;obtain⟨k,z',e⟩:=ih (a%b).toNat (by lia) b (a%b) (.fz<|.int<|a%b) rfl hb hm0;rw[LQ ha hb'] at e;refine⟨k+1,z',zN (m':=[x,y,.fz<|.int b,.fz<|.int<|a%b,.fz<|.int<|a%b]) ?_ ?_ e⟩
   ·simp[j6,aL,ak,fC,h0]
   ·simp[jZ,aJ,bj,aB,ak,aH,cz,mdI,h0,hb']
theorem nP (a b:Int):ji [.int a,.int b]=.ok (false,.int<|gI a b):=by
 obtain⟨k,z',e⟩:=X8 (.fz<|.int a) (.fz<|.int b) _ (if a<0 then -a else a) (if b<0 then -b else b) .un rfl (by split<;>lia) (by split<;>lia);rw[Ud] at e;have e2:=vJ k e;simp[ji,bc,mq,lR,pB,aJ,bj,aR,aa,aA,ak,yF,e2,bz,Me.let,Sl.let,aH]
theorem ab6 (h:i.natAbs<2^k)(hk:k<=4000:=by decide):Bq i:=Mj<|sX h<|by lia
theorem Hq (hb:b≠0)(hB:Bq b):rm [.int t,.int b]=.ok (false,.tup [.int<|lt t b,.int<|lb t b]):=by
 have hd:=Oe (t:=t) hb;have hB':Bq (dv t b):=by
  have h1:=Yz (a:=t) hb;have h2:=Uy t b;unfold Bq at hB ⊢
  lia
 have e1:dvI t (dv t b)=lt t b:=by
  unfold dvI lt;split
  ·rw[hJ t<|by lia]
  ·rfl
 have e2:dvI b (dv t b)=lb t b:=by
  unfold dvI lb;split
  ·rw[hJ b<|by lia]
  ·rfl
 by_cases h:b<0
 ·have e:dv t b=-gI t b:=if_pos h;rw[e] at e1 e2 hd hB';have hg:gI t b≠0:=by lia
  simp[hg,rm,bc,yh,xj,aJ,bj,fFn,aa,aA,aH,ak,nP,gIf,aL,fC,gLt,h,fUn,Cw,bz,Me.let,Sl.let,aM,aB,dZ,hB',e1,e2]
 ·have e:dv t b=gI t b:=if_neg h;rw[e] at e1 e2 hd hB';have hg:gI t b≠0:=by lia
  simp[hg,rm,bc,yh,xj,aJ,bj,fFn,aa,aA,aH,ak,nP,gIf,aL,fC,gLt,h,gNx,bz,Me.let,Sl.let,aM,aB,dZ,hB',e1,e2,hd]
theorem ix0:atI [a,b] 0=some a:=rfl
theorem ix1:atI [a,b] 1=some b:=rfl
theorem Kv (hb:b≠0)(hB:Bq b):rm [.int t,.int b]=.ok (false,rD<|c4 t b):=by
 rw[Hq hb hB];have e:=K5 (t:=t) hb;show _=Res.ok (false,qD<|rq<|c4 t b);rw[← e];rfl
theorem Sv (ha:Sz k a)(hb:Sz l b)(hk:k+l<=4000):Fv [rD a,rD b]=.ok (false,rD<|a+b):=by
 obtain⟨a1,a2⟩:=Oh ha (by lia);obtain⟨b1,b2⟩:=Oh hb (by lia);have e:=Kv (t:=a.num*b.den+b.num*a.den) (Up a b)<|ZS ha hb hk;rw[Yv] at e;simp[Fv,bc,Kd,J2,bz,Me.let,Sl.let,fFn,aa,aA,aB,ak,fC,gIx,Vc,ix0,ix1,uI,cF,a1,a2,b1,b2];rw[e];simp[Vc]
theorem Qv (ha:Sz k a)(hb:Sz l b)(hk:k+l<=4000):Ah [rD a,rD b]=.ok (false,.bl<|decide<|a.num*b.den<b.num*a.den):=by
 obtain⟨a1,a2⟩:=Oh ha (by lia);obtain⟨b1,b2⟩:=Oh hb (by lia);simp[Ah,bc,FZ,Fw,bz,Me.let,Sl.let,qH,aa,aA,aB,ak,fC,gIx,Vc,ix0,ix1,uI,a1,a2,b1,b2,gLt]
theorem Ip (k:Nat):∀(l:List Rat) (q:Rat) (j:Nat) (s2:Sl),Sz j q->(∀x∈l,Sz k x)->j+l.length*(k+1)<=2000->k<=2000->
  ∃s2',bL (hName 2) yU (l.map rD) [a,.fz<|rD q,s2]=.ok (.nx,[a,.fz<|rD<|q+l.sum,s2'])
 |[],q,j,s2,_,_,_,_=>⟨s2,by simp[bL,Rat.add_zero]⟩
 |x::l,q,j,s2,hq,hl,hj,hk=>by
  have hx:=hl x ar;have hj':j+(l.length+1)*(k+1)<=2000:=hj;rw[Nat.add_mul] at hj';have e:=Sv hq hx (by lia);obtain⟨s2',e'⟩:=Ip k l (q+x) (j+k+1) (.fz<|rD x) (aa6 hq hx) (λy hy=>hl y<|ai _ hy) (by lia) hk;refine⟨s2',?_⟩;rw[aT,bI (m1:=[a,.fz<|rD q,.fz<|rD x]) (m2:=[a,.fz<|rD<|q+x,.fz<|rD x]) rfl (by simp[yU,bj,fFn,aa,aA,aH,e]),e',AF,AG]
theorem Qz {l:List Rat}(hl:∀x∈l,Sz k x)(hj:1+l.length*(k+1)<=2000)(hk:k<=2000):zR [.lst<|l.map rD]=.ok (false,rD l.sum):=by
 obtain⟨s2',e⟩:=Ip (a:=.fz<|.lst<|l.map rD) k l 0 1 .un M9 hl hj hk;have e0:rD 0=.tup [.int 0,.int 1]:=rfl;rw[Rat.zero_add,e0] at e;simp[zR,bc,Ha,Gy,Dy,aJ,bj,fC,fB,eE,aH,ak,e,bz,Me.let,Sl.let]
theorem vH {α:Type}{f:α->D}{b:α->Bool}:∀l:List α,(∀x∈l,f x=.bl (b x))->pR (l.map f)=some (l.map b)
 |[],_=>rfl
 |x::l,h=>by
  have ih:=vH l λy hy=>h y<|ai _ hy;simp[pR,h x ar,ih]
noncomputable def sdD:D->Int
 | .tup [.int s,_,_,_]=>s
 |_=>0
noncomputable def wdD:D->Nat
 | .tup [_,_,.tup ws,_]=>ws.length
 |_=>0
def Ri (d:D):Prop:=∃s n ws r,d=qu s n ws r
theorem zA {h:Zba}{ft:Zaf}{fe:Zae}{m0:Me}(P:D->Bool):∀ds:List D,(∀d∈ds,∃m1,h d m0=some m1/\ft m1=.ok (P d)/\fe m1=.ok d)->dY h ft fe m0 ds=.ok (ds.filter P)
 |[],_=>rfl
 |d::ds,H=>by
  obtain⟨m1,e1,e2,e3⟩:=H d ar;have ih:=zA P ds λd hd=>H d<|ai _ hd;unfold dY;rw[List.filter_cons];by_cases q:P d=true
  ·simp only[e1,e2,q,e3,ih,if_pos]
  ·have q':P d=false:=by simpa using q
   simp only[e1,e2,q',ih]
   simp
theorem G6:∀(l:List (List Int×Gm×Rc)) (T:Tb) (d:D),d∈(l.foldl tst T).2->d∈T.2\/∃p∈l,∃s n ws,p.2.1=.move s n ws/\d=qu s n ws p.2.2
 |[],T,d,h=>.inl h
 |p::l,T,d,h=>by
  rcases G6 l (tst T p) d h with e|⟨q,hq,e⟩
  ·unfold tst at e;split at e
   ·rename_i s n ws ep;split at e
    ·exact .inl e
    ·rcases cS.mp e with e|e
     ·exact .inl e
     ·exact .inr ⟨p,ar,s,n,ws,ep,by simpa using e⟩
   ·exact .inl e
  ·exact .inr ⟨q,ai _ hq,e⟩
theorem GD {l:List (List Int×Gm×Rc)}{d:D}(h:d∈(tbl l).2):Ri d:=by
 rcases G6 l ([],[]) d h with e|⟨p,_,s,n,ws,_,e⟩
 ·cases e
 ·exact⟨s,n,ws,p.2.2,e⟩
theorem V7 {g:Gm}{s:Int}(h:gD g)(hs:sdG g)(hd:dp g<=50)(hz:szG g<=10000):vA [dG g,.int s]=.ok (true,.lst<|(tbl<|prG [] ([],[]) g).2.filter λd=>decide<|sdD d=s):=by
 have e:=table_eq h hs hd hz;have ec:dY (hName 0) (aL gEq (aB gIx (ak 0)<|fC<|.int 0)<|ak 1) (aH 0) [.un,.fz<|.int s] (tbl<|prG [] ([],[]) g).2=.ok ((tbl<|prG [] ([],[]) g).2.filter λd=>decide<|sdD d=s):=zA _ _ λd hd=>by
  obtain⟨a,n,ws,r,rfl⟩:=GD hd;refine⟨[.fz<|qu a n ws r,.fz<|.int s],rfl,?_,rfl⟩;have x0:∀a b c d:D,atI [a,b,c,d] 0=some a:=λ_ _ _ _=>rfl;simp[aL,aB,ak,fC,gIx,qu,x0,sdD];exact decide_eq_decide.mpr Iff.rfl
 have z1:(tbl<|prG [] ([],[]) g).2.length<=16777216:=by
  have:∀(l:List (List Int×Gm×Rc)) (T:Tb),(l.foldl tst T).2.length<=T.2.length+l.length:=by
   intro l;induction l with
   |nil=>intro T;simp
   |cons p l ih=>
    intro T
    have:=ih<|tst T p
    have q:(tst T p).2.length<=T.2.length+1:=by
     unfold tst;split
     ·split<;>simp
     ·lia
    simp only[kT,c8]
    lia
  have:=this (prG [] ([],[]) g) ([],[])
  rw[uL] at this;simp at this;have e:tbl (prG [] ([],[]) g)=(prG [] ([],[]) g).foldl tst ([],[]):=rfl;rw[e]
  lia
 have eq:vo [.fz<|dG g,.fz<|.int s]=.ok (.lst<|(tbl<|prG [] ([],[]) g).2.filter λd=>decide<|sdD d=s):=by
  simp[vo,cA,eE,fFn,aa,aA,aH,e,cMe,Sl.bor,ec,z1]
 simp[vA,yP,yW,bc,jy,Me.let,Sl.let,eq]
theorem BJ:∀l:List D,yZ (l.map λd=>D.int (wdD d:Int))=some (l.map λd=>(wdD d:Int))
 |[]=>rfl
 |d::l=>by simp[yZ,BJ l]
theorem count_eq {l:List D}(h:∀d∈l,Ri d)(hz:l.length<=10000):mH [.lst l]=.ok (false,.int (l.map λd=>(wdD d:Int)).sum):=by
 have ec:dY (hName 0) gR nJ [.un] (l.map id)=.ok (l.map λd=>D.int (wdD d:Int)):=eV l λd hd=>by
  obtain⟨a,n,ws,r,rfl⟩:=h d hd;refine⟨[.fz<|qu a n ws r],rfl,rfl,?_⟩;have x2:∀a b c d:D,atI [a,b,c,d] 2=some c:=λ_ _ _ _=>rfl;simp[nJ,aR,dI,aa,aA,aB,ak,fC,gIx,qu,x2,wdD]
 rw[qh] at ec;have z1:l.length<=16777216:=by lia
 have eq:nq [.fz<|.lst l]=.ok (.lst<|l.map λd=>D.int (wdD d:Int)):=by
  simp[nq,cA,eE,ak,cMe,ec,z1]
 have es:Ph [.lst<|l.map λd=>D.int (wdD d:Int)]=some (.int (l.map λd=>(wdD d:Int)).sum):=by
  show(yZ _).map _=_;rw[BJ];rfl
 simp[mH,ql,qK,bc,bz,Me.let,Sl.let,aR,aa,aA,eq,es]
theorem aa7:cZ [dG<|.fin d]=.ok (true,.lst [qD d]):=by rfl
theorem Ms (h:jz ws<=100):cZ [dG<|.deal n ws]=.ok (true,.lst<|fY ws):=by
 have x0:∀a b c:D,atI [a,b,c] 0=some a:=λ_ _ _=>rfl;have x2:∀a b c:D,atI [a,b,c] 2=some c:=λ_ _ _=>rfl;have hz:(fY ws).length<=16777216:=by rw[lF];lia
 have hz2:(dWs ws).length<=16777216:=by rw[mJ];lia
 have e:lQ [.fz<|dG<|.deal n ws]=.ok (.lst<|fY ws):=by
  simp[lQ,cA,jQ,aB,ak,fC,gIx,dG,x2,cMe,oH,hz,hz2]
 simp only[dG] at e;simp[cZ,pK,oW,bc,aJ,gIf,aL,aB,ak,fC,gIx,dG,x0,jy,Me.let,Sl.let,gNx,e]
theorem VD:cZ [dG<|.move s n ws]=.ok (true,.lst []):=by rfl
theorem V4 {α:Type}{f:α->D}{l:List α}(h:∀x∈l,f x=.bl true):QG [.lst<|l.map f]=some (.bl true):=by
 have:=vH (b:=λ_=>true) l h
 show(pR<|l.map f).map (λbs=>D.bl<|bs.all id)=_;rw[this]
 simp
theorem Zm (h:kn s n=kn t m):s=t/\n=m:=by
 unfold kn at h;injection h with h1 h2
 injection h1 with h1
 injection h1 with h1
 injection h2 with h2
 injection h2 with h2
 injection h2 with h2
 exact⟨h1,h2⟩
end Pk
namespace Lw
open PySem L2 Hd F Pk
theorem itD (h:f m=.ok [.int i,.int j,.int (-1)])(h1:-1000000000<=i)(h2:i<=1000000000)(h3:-1000000000<=j)(h4:j<=1000000000):W4 f m=.ok ((cm (i-j).toNat).map λ(k:Nat)=>D.int<|i-k):=by simp_all[if_pos,W4]
noncomputable def ptW (f:D->Rc):Ws->List (Gm×Rc)
 | .nil=>[]
 | .cons l g r=>(g,f l)::ptW f r
def ptG (g:Gm)(r:Rc):List (Gm×Rc):=ptW (rbg g r)<|yO g
def jt (p:Gm×Rc):D:=.tup [dG p.1,rD2 p.2]
noncomputable def ch (w:List Int)(L:List (Gm×Rc))(i:Nat):List (List Int×Gm×Rc):=(L.zipIdx i).map λp=>(w++[(p.2:Int)],p.1.1,p.1.2)
theorem Kc (w:List Int)(f:D->Rc):∀(i:Nat) (ws:Ws),prW w f i ws=(ch w (ptW f ws) i).flatMap λp=>prG p.1 p.2.2 p.2.1
 |i,.nil=>rfl
 |i,.cons l g r=>by
  show prG (w++[(i:Int)]) (f l) g++prW w f (i+1) r=_;rw[Kc w f (i+1) r];rfl
theorem aat (w:List Int)(r:Rc)(g:Gm):prG w r g=(w,g,r)::(ch w (ptG g r) 0).flatMap λp=>prG p.1 p.2.2 p.2.1:=by
 cases g with
 |fin d=>rfl
 |deal n ws=>show(w,Gm.deal n ws,r)::prW w (λ_=>r) 0 ws=_;rw[Kc];rfl
 |move s n ws=>show(w,Gm.move s n ws,r)::prW w (rbm s n r) 0 ws=_;rw[Kc];rfl
theorem OJ (f:D->Rc):∀ws:Ws,(ptW f ws).length=jz ws
 | .nil=>rfl
 | .cons l g r=>by show(ptW f r).length+1=_;rw[OJ f r];rfl
theorem GX (f:D->Rc):∀ws:Ws,(ptW f ws).map (·.1)=jF ws
 | .nil=>rfl
 | .cons l g r=>by show g::(ptW f r).map (·.1)=_;rw[GX f r];rfl
theorem Bu {n:Str}{r:Rc}:∀ws:Ws,dY (eN 2<|aU (hName 0)<|aU (hName 1) eO) gR nF [.un,.un,.fz<|rD2 r] (dWs ws)=.ok ((ptW (λ_=>r) ws).map jt)
 | .nil=>rfl
 | .cons l g rr=>by
  have ih:=Bu (n:=n) (r:=r) rr;have e:nF [.fz l,.fz<|dG g,.fz<|rD2 r]=.ok (jt (g,r)):=rfl;unfold dWs dY;simp[eN,aU,hName,eO,gR,e,ih,ptW]
theorem CN (hs:s=1\/s=2)(hr:r.1.length<=1000/\r.2.length<=1000):∀(ws:Ws) (P:List D) (s7 s8 s9:Sl),P.length+jz ws<=1000->
  ∃s7' s8' s9',bL (eN 2<|aU (hName 7)<|aU (hName 8) eO) iy (dWs ws) [g0,s1,s2,s3,.fz<|.tup [.str "move",.int s,.str n,W],.fz<|rD2 r,.ow<|.lst P,s7,s8,s9,s10]=.ok (.nx,[g0,s1,s2,s3,.fz<|.tup [.str "move",.int s,.str n,W],.fz<|rD2 r,.ow<|.lst<|P++(ptW (rbm s n r) ws).map jt,s7',s8',s9',s10])
 | .nil,P,s7,s8,s9,_=>⟨s7,s8,s9,by simp[dWs,bL,ptW]⟩
 | .cons l g rr,P,s7,s8,s9,hz=>by
  have hz':P.length+(jz rr+1)<=1000:=hz;obtain⟨a,b,c,e⟩:=CN (g0:=g0) (s1:=s1) (s2:=s2) (s3:=s3) (s10:=s10) (s:=s) (n:=n) (W:=W) (r:=r) hs hr rr (P++[jt (g,rbm s n r l)]) (.fz l) (.fz<|dG g) (.ow<|.lst [.tup (rbm s n r l).1,.tup (rbm s n r l).2]) (by rw[cc,eK];lia);refine⟨a,b,c,?_⟩;have x41:∀a b c d:D,atI [a,b,c,d] 1=some b:=λ_ _ _ _=>rfl;have x42:∀a b c d:D,atI [a,b,c,d] 2=some c:=λ_ _ _ _=>rfl;have x20:∀a b:D,atI [a,b] 0=some a:=λ_ _=>rfl;have x21:∀a b:D,atI [a,b] 1=some b:=λ_ _=>rfl;have n0:ixN 2 0=some 0:=rfl;have n1:ixN 2 1=some 1:=rfl;have z1:r.1.length+1<=16777216:=by lia
  have z2:r.2.length+1<=16777216:=by lia
  have z3:P.length<16777216:=by lia
  have st:iy [g0,s1,s2,s3,.fz<|.tup [.str "move",.int s,.str n,W],.fz<|rD2 r,.ow<|.lst P,.fz l,.fz<|dG g,s9,s10]=.ok (.nx,[g0,s1,s2,s3,.fz<|.tup [.str "move",.int s,.str n,W],.fz<|rD2 r,.ow<|.lst<|P++[jt (g,rbm s n r l)],.fz l,.fz<|dG g,.ow<|.lst [.tup (rbm s n r l).1,.tup (rbm s n r l).2],s10]):=by
   rcases hs with rfl|rfl
   ·simp[iy,aJ,gY,aR,MK,aa,aA,ak,rD2,Fz,aB,gIx,x41,x42,fC,F.mj,x20,x21,rN,putL,aM,aH,cF,z1,n0,dq,jU,z3,jt,rbm]
   ·simp[iy,aJ,gY,aR,MK,aa,aA,ak,rD2,Fz,aB,gIx,x41,x42,fC,F.mj,x20,x21,rN,putL,aM,aH,cF,z2,n1,dq,jU,z3,jt,rbm]
  show bL _ _ (.tup [l,dG g]::dWs rr) _=_;rw[bI (m1:=[g0,s1,s2,s3,.fz<|.tup [.str "move",.int s,.str n,W],.fz<|rD2 r,.ow<|.lst P,.fz l,.fz<|dG g,s9,s10]) rfl st,e];rw[gc];rfl
theorem Bv (hw:w.length<=1000):∀(c:Nat) (S:List D) (s10:Sl),c<=L.length->S.length+c<=100000->
  ∃s10',bL (hName 10) jH ((cm c).map λ(k:Nat)=>D.int<|(c:Int)-1-k) [g0,s1,.ow<|.lst S,.fz<|.tup<|w.map D.int,s4,s5,.ow<|.lst<|L.map jt,s7,s8,s9,s10]=.ok (.nx,[g0,s1,.ow<|.lst<|S++(((ch w L 0).take c).map trD).reverse,.fz<|.tup<|w.map D.int,s4,s5,.ow<|.lst<|L.map jt,s7,s8,s9,s10'])
 |0,S,s10,_,_=>⟨s10,by simp[bL]⟩
 |c+1,S,s10,hc,hz=>by
  have hi:c<L.length:=by lia
  obtain⟨a,e⟩:=Bv (g0:=g0) (s1:=s1) (s4:=s4) (s5:=s5) (s7:=s7) (s8:=s8) (s9:=s9) (L:=L) hw c (S++[trD (w++[(c:Int)],L[c].1,L[c].2)]) (.fz<|.int (c:Int)) (by lia) (by rw[cc,eK];lia);refine⟨a,?_⟩;have el:(L.map jt)[c]? = some (jt L[c]):=by rw[cp,bS hi];rfl
  have ea:=mD el;have x20:∀a b:D,atI [a,b] 0=some a:=λ_ _=>rfl;have x21:∀a b:D,atI [a,b] 1=some b:=λ_ _=>rfl;have z1:w.length+1<=16777216:=by lia
  have z2:S.length<16777216:=by lia
  have st:jH [g0,s1,.ow<|.lst S,.fz<|.tup<|w.map D.int,s4,s5,.ow<|.lst<|L.map jt,s7,s8,s9,.fz<|.int (c:Int)]=.ok (.nx,[g0,s1,.ow<|.lst<|S++[trD (w++[(c:Int)],L[c].1,L[c].2)],.fz<|.tup<|w.map D.int,s4,s5,.ow<|.lst<|L.map jt,s7,s8,s9,.fz<|.int (c:Int)]):=by
   simp[jH,dq,rN,putL,aM,aa,aA,aB,ak,aH,cF,z1,gIx,ea,jt,x20,x21,fC,z2,trD]
  have er:(cm<|c+1).map (λ(k:Nat)=>D.int<|((c+1:Nat):Int)-1-k)=D.int (c:Int)::(cm c).map λ(k:Nat)=>D.int ((c:Int)-1-k):=by
   rw[uk,aT,fF];congr 1
   ·congr 1;lia
   ·refine md λk _=>?_;show D.int _=D.int _;congr 1;simp only[Nat.succ_eq_add_one]
    lia
  rw[er,bI (m1:=[g0,s1,.ow<|.lst S,.fz<|.tup<|w.map D.int,s4,s5,.ow<|.lst<|L.map jt,s7,s8,s9,.fz<|.int (c:Int)]) rfl st,e];have et:(ch w L 0).take (c+1)=(ch w L 0).take c++[(w++[(c:Int)],L[c].1,L[c].2)]:=by
   have hl:c<(ch w L 0).length:=by unfold ch;simp;exact hi
   rw[List.take_succ_eq_append_getElem hl];congr 1;simp[ch]
  rw[et,dQ,p9]
  simp
theorem V0 {g0 s3 s4 s5 s6 s7 s8 s9 s10:Sl}{F0 S:List D}{w:List Int}{g:Gm}{r:Rc}(h:gD g)(hs:∀s n ws,g=.move s n ws->s=1\/s=2)(hr:r.1.length<=1000/\r.2.length<=1000)(hw:w.length<=1000)(hf:F0.length<=100000)(hS:S.length<=90000):
  ∃t3 t4 t5 t6 t7 t8 t9 t10,fW [g0,.ow<|.lst F0,.ow<|.lst<|S++[trD (w,g,r)],s3,s4,s5,s6,s7,s8,s9,s10]=.ok (.nx,[g0,.ow<|.lst<|F0++[trD (w,g,r)],.ow<|.lst<|S++((ch w (ptG g r) 0).map trD).reverse,t3,t4,t5,t6,t7,t8,t9,t10]):=by
 have x20:∀a b:D,atI [a,b] 0=some a:=λ_ _=>rfl;have x30:∀a b c:D,atI [a,b,c] 0=some a:=λ_ _ _=>rfl;have x32:∀a b c:D,atI [a,b,c] 2=some c:=λ_ _ _=>rfl;have x40:∀a b c d:D,atI [a,b,c,d] 0=some a:=λ_ _ _ _=>rfl;have x43:∀a b c d:D,atI [a,b,c,d] 3=some d:=λ_ _ _ _=>rfl;have z1:F0.length<16777216:=by lia
 have main:∀(P:List (Gm×Rc)) (u7 u8 u9:Sl),P=ptG g r->P.length<=100->∃t10,nj [g0,.ow<|.lst<|F0++[trD (w,g,r)],.ow<|.lst S,.fz<|.tup<|w.map D.int,.fz<|dG g,.fz<|rD2 r,.ow<|.lst<|P.map jt,u7,u8,u9,s10] =
   .ok (.nx,[g0,.ow<|.lst<|F0++[trD (w,g,r)],.ow<|.lst<|S++((ch w (ptG g r) 0).map trD).reverse,.fz<|.tup<|w.map D.int,.fz<|dG g,.fz<|rD2 r,.ow<|.lst<|P.map jt,u7,u8,u9,t10]):=λP u7 u8 u9 hP hl=>by
  obtain⟨t10,e⟩:=Bv (g0:=g0) (s1:=.ow<|.lst<|F0++[trD (w,g,r)]) (s4:=.fz<|dG g) (s5:=.fz<|rD2 r) (s7:=u7) (s8:=u8) (s9:=u9) (w:=w) (L:=P) hw P.length S s10 (aI _) (by lia);refine⟨t10,?_⟩;have e1:(aa (aB mj (aR dI<|aa (ak 6) aA)<|fC<|.int 1)<|aa (fUn Cw<|fC<|.int 1)<|aa (fUn Cw<|fC<|.int 1) aA) [g0,.ow<|.lst<|F0++[trD (w,g,r)],.ow<|.lst S,.fz<|.tup<|w.map D.int,.fz<|dG g,.fz<|rD2 r,.ow<|.lst<|P.map jt,u7,u8,u9,s10]=.ok [.int<|(P.length:Int)-1,.int (-1),.int (-1)]:=by
   simp[aa,aA,aB,aR,dI,ak,fC,F.mj,fUn,Cw]
  have e2:=itD e1 (by lia) (by lia) (by lia) (by lia);unfold nj fB;rw[e2];have e3:((P.length:Int)-1 - -1).toNat=P.length:=by lia
  rw[e3];have e4:(ch w P 0).take P.length=ch w P 0:=kM (by unfold ch;simp);rw[e4,hP] at e;rw[hP];exact e
 have hlp:(ptG g r).length<=100:=by
  unfold ptG;rw[OJ,← iC,← zW];exact wY h
 cases g with
 |fin d=>
  obtain⟨t10,e⟩:=main [] s7 s8 s9 rfl (by simp);refine⟨.fz<|.tup<|w.map D.int,.fz<|dG<|.fin d,.fz<|rD2 r,.ow<|.lst [],s7,s8,s9,t10,?_⟩;simp only[trD,dG,vT] at e ⊢;simp[fW,aJ,HY,Io,rN,putL,eN,aU,hName,eO,dq,aM,aa,aA,aH,z1,gY,eG,gIf,aL,aB,ak,fC,gIx,x20,gNx,e]
 |deal n ws=>
  obtain⟨t10,e⟩:=main (ptW (λ_=>r) ws) s7 s8 s9 rfl hlp;have ec:=Bu (n:=n) (r:=r) ws;have hz2:(dWs ws).length<=16777216:=by rw[mJ];have:=h.1;lia
  have eq:∀a b c,nA [g0,a,b,c,.fz<|dG<|.deal n ws,.fz<|rD2 r,.ow<|.lst [],s7,s8,s9,s10]=.ok (.lst<|(ptW (λ_=>r) ws).map jt):=λa b c=>by
   simp[nA,cA,jQ,aB,ak,fC,gIx,dG,x32,cMe,Sl.bor,ec,hz2]
  refine⟨.fz<|.tup<|w.map D.int,.fz<|dG<|.deal n ws,.fz<|rD2 r,.ow<|.lst<|(ptW (λ_=>r) ws).map jt,s7,s8,s9,t10,?_⟩;simp only[trD,dG] at e eq ⊢;simp[fW,aJ,HY,Io,rN,putL,eN,aU,hName,eO,dq,aM,aa,aA,aH,z1,gY,eG,gIf,aL,aB,ak,fC,gIx,x30,gNx,eq,e]
 |move s n ws=>
  obtain⟨u7,u8,u9,em⟩:=CN (g0:=g0) (s1:=.ow<|.lst<|F0++[trD (w,.move s n ws,r)]) (s2:=.ow<|.lst S) (s3:=.fz<|.tup<|w.map D.int) (s10:=s10) (n:=n) (W:=.tup<|dWs ws) (hs s n ws rfl) hr ws [] s7 s8 s9 (by have:=h.1;simp;lia);obtain⟨t10,e⟩:=main (ptW (rbm s n r) ws) u7 u8 u9 rfl hlp;have hz2:(dWs ws).length<=16777216:=by rw[mJ];have:=h.1;lia
  have eL:nG [g0,.ow<|.lst<|F0++[trD (w,.move s n ws,r)],.ow<|.lst S,.fz<|.tup<|w.map D.int,.fz<|dG<|.move s n ws,.fz<|rD2 r,.ow<|.lst [],s7,s8,s9,s10]=.ok (.nx,[g0,.ow<|.lst<|F0++[trD (w,.move s n ws,r)],.ow<|.lst S,.fz<|.tup<|w.map D.int,.fz<|dG<|.move s n ws,.fz<|rD2 r,.ow<|.lst<|(ptW (rbm s n r) ws).map jt,u7,u8,u9,s10]):=by
   have ei:jQ (aB gIx (ak 4)<|fC<|.int 3) [g0,.ow<|.lst<|F0++[trD (w,.move s n ws,r)],.ow<|.lst S,.fz<|.tup<|w.map D.int,.fz<|dG<|.move s n ws,.fz<|rD2 r,.ow<|.lst [],s7,s8,s9,s10]=.ok (dWs ws):=by
    simp[jQ,aB,ak,fC,gIx,dG,x43]
   unfold nG fB;rw[ei];rw[mh] at em;exact em
  refine⟨.fz<|.tup<|w.map D.int,.fz<|dG<|.move s n ws,.fz<|rD2 r,.ow<|.lst<|(ptW (rbm s n r) ws).map jt,u7,u8,u9,t10,?_⟩;simp only[trD,dG] at e eL ⊢;simp[fW,aJ,HY,Io,rN,putL,eN,aU,hName,eO,dq,aM,aa,aA,aH,z1,gY,eG,gIf,aL,aB,ak,fC,gIx,x40,gNx,eL,e]
abbrev Tr:=List Int×Gm×Rc
noncomputable def szT (st:List Tr):Nat:=(st.map λp=>szG p.2.1).sum
theorem aaE (w:List Int)(g:Gm)(r:Rc):szT (ch w (ptG g r) 0)+1=szG g:=by
 have e:∀(i:Nat) (L:List (Gm×Rc)),(ch w L i).map (λp=>szG p.2.1)=L.map λp=>szG p.1:=by
  intro i L;induction L generalizing i with
  |nil=>rfl
  |cons x L ih=>
   show szG x.1::((ch w L<|i+1).map λp=>szG p.2.1)=_;rw[ih];rfl
 unfold szT;rw[e,Uc,zW,← GX (rbg g r),fF];rfl
theorem Od:∀st:List Tr,st.length<=szT st
 |[]=>fS _
 |p::st=>by
  have:=Od st
  have:=pY p.2.1
  show st.length+1<=szG p.2.1+szT st
  lia
theorem Lx (a b:List Tr):szT (a++b)=szT a+szT b:=by unfold szT;rw[dQ,List.sum_append]
def wt (p:Tr):Prop:=gD p.2.1/\sdG p.2.1/\p.1.length+dp p.2.1<=100/\p.2.2.1.length+dp p.2.1<=100/\p.2.2.2.length+dp p.2.1<=100
theorem Bx:∀{ws:Ws} {k:Gm},sdW ws->k∈jF ws->sdG k
 | .cons l g r,k,h,hk=>by
  rcases bq.mp hk with e|e
  ·rw[e];exact h.1
  ·exact Bx h.2 e
theorem VJ (h:sdG g)(hk:k∈kids g):sdG k:=by
 cases g with
 |fin d=>cases hk
 |deal n ws=>exact Bx h hk
 |move s n ws=>exact Bx h.2 hk
theorem O1 (f:D->Rc):∀{ws:Ws} {p:Gm×Rc},p∈ptW f ws->∃l,p.2=f l
 | .cons l g r,p,h=>by
  rcases bq.mp h with e|e
  ·exact⟨l,by rw[e]⟩
  ·exact O1 f e
theorem V5 (g:Gm)(r:Rc)(l:D):(rbg g r l).1.length<=r.1.length+1/\(rbg g r l).2.length<=r.2.length+1:=by
 cases g with
 |fin d=>exact⟨by simp[rbg],by simp[rbg]⟩
 |deal n ws=>exact⟨by simp[rbg],by simp[rbg]⟩
 |move s n ws=>by_cases hs:s=1<;>simp[rbg,rbm,hs]
theorem acI (h:wt (w,g,r)):∀p∈ch w (ptG g r) 0,wt p:=λp hp=>by
 unfold ch at hp;obtain⟨q,hq,rfl⟩:=dS.mp hp;have h1:q.1∈ptG g r:=by have:=ma (f:=A7) hq;rwa [l9] at this
 have h2:q.1.1∈kids g:=by
  rw[zW,← GX (rbg g r)];exact ma h1
 obtain⟨l,el⟩:=O1 _ h1;have hd:=LR h2;refine DX h λa b c d e=>?_;have rl:=V5 g r l;simp only at a b c d e;refine⟨(Eb a h2).1,VJ b h2,?_,?_,?_⟩
 ·show(w++[_]).length+dp q.1.1<=100;rw[cc,eK]
  lia
 ·show q.1.2.1.length+dp q.1.1<=100;rw[el]
  lia
 ·show q.1.2.2.length+dp q.1.1<=100;rw[el]
  lia
theorem V2 (a:Sl):∀(N:Nat) (done st:List Tr) (s3 s4 s5 s6 s7 s8 s9 s10:Sl),szT st=N->(∀p∈st,wt p)->done.length+szT st<=50000->
  ∃k m',wh jK fW k [a,.ow<|.lst<|done.map trD,.ow<|.lst<|(st.map trD).reverse,s3,s4,s5,s6,s7,s8,s9,s10]=some (.ok (.nx,a::.ow (.lst<|(done++st.flatMap λp=>prG p.1 p.2.2 p.2.1).map trD)::m')):=by
 intro N;induction N using qc with
 |_ N ih=>
  intro done st s3 s4 s5 s6 s7 s8 s9 s10 hN hs hz;cases st with
  |nil=>
   refine⟨1,[.ow<|.lst [],s3,s4,s5,s6,s7,s8,s9,s10],?_⟩;simp only[vT,List.reverse_nil,oB,cE];exact zY<|by simp[jK,aL,aR,dI,aa,aA,ak,fC,gGt]
  |cons p st=>
   obtain⟨w,g,r⟩:=p;have h1:wt (w,g,r):=hs _ (by simp);have sb:=aaE w g r;have hsum:szT ((w,g,r)::st)=szG g+szT st:=rfl;have ls:=Od st;have gp:=pY g;refine DX h1 λwa wb wc wd we=>?_;simp only at wa wb wc wd we;obtain⟨t3,t4,t5,t6,t7,t8,t9,t10,e1⟩:=V0 (g0:=a) (s3:=s3) (s4:=s4) (s5:=s5) (s6:=s6) (s7:=s7) (s8:=s8) (s9:=s9) (s10:=s10) (F0:=done.map trD) (S:=(st.map trD).reverse) (w:=w) (g:=g) (r:=r) wa (λs n ws e=>by rw[e] at wb;exact wb.1) ⟨by lia,by lia⟩ (by lia) (by simp;lia) (by simp;lia);obtain⟨k,m',e⟩:=ih (szT<|ch w (ptG g r) 0++st) (by rw[Lx];lia) (done++[(w,g,r)]) (ch w (ptG g r) 0++st) t3 t4 t5 t6 t7 t8 t9 t10 rfl (λp hp=>by
    rcases cS.mp hp with v|v
    ·exact acI ⟨wa,wb,wc,wd,we⟩ p v
    ·exact hs p<|by simp[v]) (by rw[Lx,cc];simp;lia)
   refine⟨k+1,m',?_⟩;have e3:done++((w,g,r)::st).flatMap (λp=>prG p.1 p.2.2 p.2.1)=done++[(w,g,r)]++(ch w (ptG g r) 0++st).flatMap λp=>prG p.1 p.2.2 p.2.1:=by
    rw[nv,ze,aat]
    simp
   rw[e3];refine zN (m':=[a,.ow<|.lst<|(done++[(w,g,r)]).map trD,.ow<|.lst<|((ch w (ptG g r) 0++st).map trD).reverse,t3,t4,t5,t6,t7,t8,t9,t10]) ?_ ?_ e
   ·simp[jK,aL,aR,dI,aa,aA,ak,fC,gGt]
   ·rw[aT,kd,e1,dQ,dQ,p9];rfl
theorem Ja (e:L [.fz d,.ow<|.lst [],.ow<|.lst [.tup [.tup [],d,.tup [.tup [],.tup []]]],.un,.un,.un,.un,.un,.un,.un,.un]=.ok (.nx,.fz d::.ow (.lst ps)::m')):bc 11 1 (mL L) [d]=.ok (true,.lst ps):=by
 simp[bc,mL,aJ,gY,eG,aa,aA,aM,aH,e,ux]
theorem wD (h:gD g)(hs:sdG g)(hd:dp g<=50)(hz:szG g<=10000):gm [dG g]=.ok (true,.lst<|(prG [] ([],[]) g).map trD):=by
 obtain⟨k,m',e⟩:=V2 (.fz<|dG g) _ [] [([],g,([],[]))] .un .un .un .un .un .un .un .un rfl (λp hp=>by rw[bP.mp hp];exact⟨h,hs,by simp;lia,by simp;lia,by simp;lia⟩) (by show 0+(szG g+0)<=_;lia);have e2:=vJ k e;simp only[mh,nv,oB,cE] at e2;exact Ja e2
noncomputable def tru (ks:List (List Kt)):List D:=ks.map λ_=>.bl true
theorem Mz:∀{ks:List (List Kt)} {ds:List D},ks.length=ds.length->(dW ks (tru ks) k).isSome=(dW ks ds k).isSome
 |[],[],_=>rfl
 |[],_::_,h=>by simp at h
 |_::_,[],h=>by simp at h
 |a::ks,d::ds,h=>by
  show(dW (a::ks) (.bl true::tru ks) k).isSome=_;unfold dW;split
  ·rfl
  ·exact Mz<|by simpa using h
theorem Vv (h:(dW ks (tru ks) k).isSome=false):uy ks (tru ks) k (.bl true)=(ks++[k],tru<|ks++[k]):=by
 have hn:k∉ks:=λhk=>by
  have:∀{ks:List (List Kt)},k∈ks->(dW ks (tru ks) k).isSome=true:=by
   intro ks;induction ks with
   |nil=>intro h;cases h
   |cons a ks ih=>
    intro h;show(dW (a::ks) (.bl true::tru ks) k).isSome=true;unfold dW;split
    ·rfl
    ·rename_i q;rcases bq.mp h with e|e
     ·exact absurd e.symm q
     ·exact ih e
  rw[this hk] at h;cases h
 unfold uy;rw[if_neg λz=>hn<|Gi.mp z];simp[tru]
theorem W9 (hp:okP p)(hl:T.1.length=T.2.length)(hz:T.1.length<=100000):∃m1 s6',eN 3 (aU (hName 3)<|aU (hName 4)<|aU (hName 5) eO) (trD p) [g0,.ow<|.lst T.2,.ow<|.dcu T.1<|tru T.1,s3,s4,s5,s6]=some m1/\
  d9 m1=.ok (.nx,[g0,.ow<|.lst (tst T p).2,.ow<|.dcu (tst T p).1<|tru (tst T p).1,.fz<|.tup<|p.1.map D.int,.fz<|dG p.2.1,.fz<|rD2 p.2.2,s6'])/\(tst T p).1.length=(tst T p).2.length:=by
 obtain⟨w,g,r⟩:=p;have x20:∀a b:D,atI [a,b] 0=some a:=λ_ _=>rfl;have x21:∀a b:D,atI [a,b] 1=some b:=λ_ _=>rfl;have x30:∀a b c:D,atI [a,b,c] 0=some a:=λ_ _ _=>rfl;have x40:∀a b c d:D,atI [a,b,c,d] 0=some a:=λ_ _ _ _=>rfl;have x41:∀a b c d:D,atI [a,b,c,d] 1=some b:=λ_ _ _ _=>rfl;have x42:∀a b c d:D,atI [a,b,c,d] 2=some c:=λ_ _ _ _=>rfl;have x43:∀a b c d:D,atI [a,b,c,d] 3=some d:=λ_ _ _ _=>rfl;cases g with
 |fin d=>exact⟨_,s6,rfl,by simp[d9,gIf,fj,aL,aB,ak,fC,gIx,dG,x20,gNx,tst],by simpa[tst] using hl⟩
 |deal n ws=>exact⟨_,s6,rfl,by simp[d9,gIf,fj,aL,aB,ak,fC,gIx,dG,x30,gNx,tst],by simpa[tst] using hl⟩
 |move s n ws=>
  have hp:(s=1\/s=2)/\jz ws<=100:=hp;have kk:vO (.tup [.int s,.str n])=some (kn s n):=rfl;have z1:T.1.length<16777216:=by lia
  have z2:T.2.length<16777216:=by lia
  have hz1:(fY ws).length<=16777216:=by rw[lF];lia
  have hz2:(dWs ws).length<=16777216:=by rw[mJ];lia
  have vt:=Mz (k:=kn s n) hl;have eq:∀a b c,oN [g0,a,b,c,.fz<|dG<|.move s n ws,.fz<|rD2 r,s6]=.ok (.lst<|fY ws):=λa b c=>by
   simp[oN,cA,jQ,aB,ak,fC,gIx,dG,x43,cMe,oH,hz1,hz2]
  simp only[dG,rD2] at eq;by_cases q:(dW T.1 T.2<|kn s n).isSome=true
  ·rw[q] at vt;refine⟨_,s6,rfl,?_,by simp[tst,q,hl]⟩;simp[d9,gIf,fj,aL,aB,ak,fC,gIx,dG,x40,x41,x42,gNx,tst,q,HW,Wh,dcK,aM,aa,aA,kk,vt]
  ·have q':(dW T.1 T.2<|kn s n).isSome=false:=by simpa using q
   rw[q'] at vt;have pt:=Vv vt;refine⟨_,.fz<|.tup<|fY ws,rfl,?_,by simp[tst,q',hl]⟩;rcases hp.1 with rfl|rfl
   ·simp[d9,gIf,fj,aL,aB,ak,fC,gIx,dG,x40,x41,x42,aJ,Fd,vM,pC,tst,q',HW,Wh,dcK,aM,aa,aA,kk,vt,z1,pt,bj,aR,jU,eq,hz1,dq,rN,putL,z2,aH,rD2,F.mj,x20,x21,qu,xW]
   ·simp[d9,gIf,fj,aL,aB,ak,fC,gIx,dG,x40,x41,x42,aJ,Fd,vM,pC,tst,q',HW,Wh,dcK,aM,aa,aA,kk,vt,z1,pt,bj,aR,jU,eq,hz1,dq,rN,putL,z2,aH,rD2,F.mj,x20,x21,qu,xW]
theorem O2:∀(l:List Tr) (T:Tb) (s3 s4 s5 s6:Sl),(∀p∈l,okP p)->T.1.length=T.2.length->T.1.length+l.length<=100000->∃m',bL (eN 3<|aU (hName 3)<|aU (hName 4)<|aU (hName 5) eO) d9 (l.map trD) [g0,.ow<|.lst T.2,.ow<|.dcu T.1<|tru T.1,s3,s4,s5,s6]=.ok (.nx,g0::.ow (.lst (l.foldl tst T).2)::m')
 |[],T,s3,s4,s5,s6,_,_,_=>⟨_,rfl⟩
 |p::l,T,s3,s4,s5,s6,hp,hl,hz=>by
  have hz':T.1.length+(l.length+1)<=100000:=hz;refine Ca (W9 (g0:=g0) (s3:=s3) (s4:=s4) (s5:=s5) (s6:=s6) (T:=T) (hp p ar) hl<|by lia) λm1 s6' e1 e2 e3=>?_
  have:=Nh T p
  obtain⟨m',e⟩:=O2 l (tst T p) (.fz<|.tup<|p.1.map D.int) (.fz<|dG p.2.1) (.fz<|rD2 p.2.2) s6' (λq hq=>hp q<|ai _ hq) e3 (by lia);exact⟨m',by rw[aT,bI e1 e2,e];rfl⟩
theorem Dp (h:gD g)(hs:sdG g)(hd:dp g<=50)(hz:szG g<=10000):lB [dG g]=.ok (true,.lst (tbl<|prG [] ([],[]) g).2):=by
 have e:=wD h hs hd hz;obtain⟨m',e2⟩:=O2 (g0:=.fz<|dG g) (prG [] ([],[]) g) ([],[]) .un .un .un .un (Ur _ _ g h hs) rfl (by rw[uL];simp;lia);have eL:pL [.fz<|dG g,.ow<|.lst [],.ow<|.dcu [] [],.un,.un,.un,.un]=.ok (.nx,.fz (dG g)::.ow (.lst (tbl<|prG [] ([],[]) g).2)::m'):=by
  have e1:eE (fFn gm<|aa (aH 0) aA) [.fz<|dG g,.ow<|.lst [],.ow<|.dcu [] [],.un,.un,.un,.un]=.ok ((prG [] ([],[]) g).map trD):=by
   simp[eE,fFn,aa,aA,aH,e]
  unfold pL fB;rw[e1];exact e2
 simp[lB,sW,ud,bc,aJ,gY,eG,aA,vh,eL,ux]
def prd (d:D):Prop:=∃a b:Str,d=.tup [.str a,.str b]
def wrd (d:D):Prop:=∃a:Str,d=.str a
theorem Gq (a:Str):gK [.str a]=.ok (false,.bl true):=rfl
theorem Jv:∀(l:List D) (s1:Sl),(∀d∈l,prd d)->∃s1',bL (hName 1) jR l [f0,s1]=.ok (.nx,[f0,s1'])
 |[],s1,_=>⟨s1,rfl⟩
 |d::l,s1,h=>by
  obtain⟨a,b,rfl⟩:=h d ar;obtain⟨s',e⟩:=Jv (f0:=f0) l (.fz<|.tup [.str a,.str b]) λx hx=>h x<|ai _ hx;refine⟨s',?_⟩;have x20:∀a b:D,atI [a,b] 0=some a:=λ_ _=>rfl;have x21:∀a b:D,atI [a,b] 1=some b:=λ_ _=>rfl;rw[bI (m1:=[f0,.fz<|.tup [.str a,.str b]]) (m2:=[f0,.fz<|.tup [.str a,.str b]]) rfl ?_,e];simp[jR,gIf,kO,fD,fTv,uF,ak,aL,aR,dI,aa,aA,fC,fFn,aB,gIx,x20,x21,Gq,gNx,lK,Qg]
theorem Zi (h:∀d∈l,prd d):jh [.tup l]=.ok (false,.bl true):=by
 obtain⟨s',e⟩:=Jv (f0:=.fz<|.tup l) l .un h;have eL:o9 [.fz<|.tup l,.un]=.ok (.nx,[.fz<|.tup l,s']):=e;simp[jh,lN,lZ,bc,aJ,gIf,fD,fTv,uF,ak,gNx,eL,bz,Me.let,Sl.let,fC,lK,Qg]
def JM (d:D):Prop:=∃s n ws rc,d=.tup [.int s,.str n,.tup ws,.tup rc]/\(∀x∈ws,wrd x)/\ws.length<=1000/\∀x∈rc,prd x
theorem Jp:∀(l:List D) (s1:Sl),(∀d∈l,JM d)->∃s1',bL (hName 1) lz l [f0,s1]=.ok (.nx,[f0,s1'])
 |[],s1,_=>⟨s1,rfl⟩
 |d::l,s1,h=>by
  obtain⟨s,n,ws,rc,rfl,h1,h2,h3⟩:=h d ar;obtain⟨s',e⟩:=Jp (f0:=f0) l (.fz<|.tup [.int s,.str n,.tup ws,.tup rc]) λx hx=>h x<|ai _ hx;refine⟨s',?_⟩;have x0:∀a b c d:D,atI [a,b,c,d] 0=some a:=λ_ _ _ _=>rfl;have x1:∀a b c d:D,atI [a,b,c,d] 1=some b:=λ_ _ _ _=>rfl;have x2:∀a b c d:D,atI [a,b,c,d] 2=some c:=λ_ _ _ _=>rfl;have x3:∀a b c d:D,atI [a,b,c,d] 3=some d:=λ_ _ _ _=>rfl;have er:=Zi h3;have ec:dY (hName 0) gR kY [.un] (ws.map id)=.ok (ws.map λ_=>.bl true):=eV ws λx hx=>by
   obtain⟨a,rfl⟩:=h1 x hx;exact⟨[.fz<|.str a],rfl,rfl,by simp[kY,fFn,aa,aA,aH,Gq]⟩
  rw[qh] at ec;have z1:ws.length<=16777216:=by lia
  have eq:lG [f0,.fz<|.tup [.int s,.str n,.tup ws,.tup rc]]=.ok (.lst<|ws.map λ_=>.bl true):=by
   simp[lG,cA,jQ,aB,ak,fC,gIx,x2,cMe,ec,z1]
  have ea:=V4 (f:=λ_:D=>D.bl true) (l:=ws) λ_ _=>rfl;rw[bI (m1:=[f0,.fz<|.tup [.int s,.str n,.tup ws,.tup rc]]) (m2:=[f0,.fz<|.tup [.int s,.str n,.tup ws,.tup rc]]) rfl ?_,e];simp[lz,aJ,gIf,kO,fD,fTv,uF,ak,aL,aR,dI,aa,aA,fC,fFn,aB,gIx,x0,x1,x2,x3,Gq,gNx,lK,Qg,er,eq,ea]
theorem Vk (h:∀d∈l,JM d):jJ [.lst l]=.ok (false,.bl true):=by
 obtain⟨s',e⟩:=Jp (f0:=.fz<|.lst l) l .un h;have eL:pZ [.fz<|.lst l,.un]=.ok (.nx,[.fz<|.lst l,s']):=e;simp[jJ,nC,nM,bc,aJ,gIf,fD,fTv,uF,ak,gNx,eL,bz,Me.let,Sl.let,fC,lK,Qg]
theorem VV (x y:Sl):∀(n:Nat) (a b:Int),b.toNat=n->0<=a->0<=b->∃k,wh ni nu k [x,y,.fz<|.int a,.fz<|.int b] =
  some (.ok (.nx,[x,y,.fz<|.int<|gI a b,.fz<|.int 0])):=by
 intro n;induction n using qc with
 |_ n ih=>
  intro a b hn ha hb;by_cases h0:b=0
  ·subst h0;refine⟨1,?_⟩;rw[M3 ha];exact zY rfl
  ·have hb':0<b:=by lia
   have hm:=rj a hb';have hm0:=xw a h0;obtain⟨k,e⟩:=ih (a%b).toNat (by lia) b (a%b) rfl hb hm0;rw[LQ ha hb'] at e;refine⟨k+1,zN (m':=[x,y,.fz<|.int b,.fz<|.int<|a%b]) ?_ ?_ e⟩
   ·simp[ni,aL,ak,fC,h0]
   ·simp[nu,Zb,aa,aA,aB,ak,aH,cz,mdI,h0,hb']
theorem Zd (hb:0<b)(hB:Bq b):iD [.int t,.int b]=.ok (false,rD<|c4 t b):=by
 obtain⟨k,e⟩:=VV (.fz<|.int t) (.fz<|.int b) _ (if t<0 then -t else t) b rfl (by split<;>lia) (by lia);have eb:(if b<0 then -b else b)=b:=if_neg (by lia);have ga:=Ud t b;rw[eb] at ga;rw[ga] at e;have e2:=vJ k e;have hg:=Ff (a:=t) (show b≠0 by lia);have hdv:dv t b=gI t b:=if_neg (by lia);have hB':Bq (gI t b):=by
  have h1:=Yz (a:=t) (show b≠0 by lia);unfold Bq at hB ⊢
  lia
 have e3:dvI t (gI t b)=lt t b:=by
  unfold dvI lt;rw[if_pos hg,hdv,hJ t<|by lia]
 have e4:dvI b (gI t b)=lb t b:=by
  unfold dvI lb;rw[if_pos hg,hdv,hJ b<|by lia]
 have el:=K5 (t:=t) (show b≠0 by lia);have hr:rD (c4 t b)=.tup [.int<|lt t b,.int<|lb t b]:=by
  show qD (rq<|c4 t b)=_;rw[← el];rfl
 have hne:gI t b≠0:=by lia
 rw[hr];simp[iD,qL,qG,bc,ug,aJ,bj,aR,yF,aa,aA,ak,aH,e2,bz,Me.let,Sl.let,aM,aB,dZ,hne,hB',e3,e4]
theorem bgS (h:i.natAbs<=10000000000000):Bq i:=by
 refine ab6 (k:=50) ?_
 have:(2:Nat)^50=1125899906842624:=by decide
 lia
theorem div_self (h:0<S):c4 S S=1:=by
 rw[Rat.divInt_self'<|by lia]
theorem Ig:∀Q:List Int,yZ (Q.map D.int)=some Q
 |[]=>rfl
 |p::Q=>by simp[yZ,Ig Q]
noncomputable def ofL:List (D×Gm)->Ws
 |[]=>.nil
 |p::l=>.cons p.1 p.2<|ofL l
theorem Gz:∀l:List (D×Gm),dWs (ofL l)=l.map λp=>.tup [p.1,dG p.2]
 |[]=>rfl
 |p::l=>by show _::dWs (ofL l)=_;rw[Gz l];rfl
theorem Ge:∀l:List (D×Gm),fY (ofL l)=l.map (·.1)
 |[]=>rfl
 |p::l=>by show _::fY (ofL l)=_;rw[Ge l];rfl
noncomputable def szL (L:List (D×Gm)):Nat:=(L.map λp=>szG p.2).sum
def Km (p:D×Gm):D:=.tup [p.1,dG p.2]
theorem Kq:∀L:List (D×Gm),szW (ofL L)=szL L
 |[]=>rfl
 |p::L=>by show szG p.2+szW (ofL L)=szG p.2+szL L;rw[Kq L]
theorem Gp:∀L:List (D×Gm),jz (ofL L)=L.length
 |[]=>rfl
 |p::L=>by show jz (ofL L)+1=_;rw[Gp L];rfl
theorem BV:∀L:List (D×Gm),(∀p∈L,gD p.2)->zq (ofL L)
 |[],_=>trivial
 |p::L,h=>⟨h p ar,BV L λq hq=>h q<|ai _ hq⟩
theorem K9:∀L:List (D×Gm),(∀p∈L,sdG p.2)->sdW (ofL L)
 |[],_=>trivial
 |p::L,h=>⟨h p ar,K9 L λq hq=>h q<|ai _ hq⟩
theorem Ke:∀L:List (D×Gm),(∀p∈L,dp p.2<=k)->dpW (ofL L)<=k
 |[],_=>fS _
 |p::L,h=>Nat.max_le.mpr ⟨h p ar,Ke L λq hq=>h q<|ai _ hq⟩
theorem gs (h:g m=.ok (.nx,m1)):aJ g k m=k m1:=by unfold aJ;rw[h]
section
variable {e:En}{A:Addr×Addr}{a r dep:Nat}{N:Nd}{m:Int×Int}{rc:Rc}
end
section
variable {e:En}{A:Addr×Addr}{a r dep:Nat}{N:Nd}{m:Int×Int}{rc:Rc}{x y:Int}
end
theorem cell_eq (ns:List Int)(k:Nat)(hz:ns.length<=1000):∃v:Int,fH [.lst<|ns.map D.int,.int (k:Int)]=.ok (false,.int v):=by
 by_cases h:k<ns.length
 ·have e1:atI (ns.map D.int) (k:Int)=some (.int ns[k]):=mD (by rw[cp,bS h];rfl);have h':(k:Int)<(ns.length:Int):=by lia
  exact⟨ns[k],by simp[fH,lA,kZ,bc,aJ,gIf,aL,ak,aR,dI,aa,aA,gLt,h,h',bz,Me.let,Sl.let,aB,gIx,e1]⟩
 ·have h':¬(k:Int)<(ns.length:Int):=by lia
  exact⟨0,by simp[fH,lA,kZ,bc,aJ,gIf,aL,ak,aR,dI,aa,aA,gLt,h,h',bz,Me.let,Sl.let,gNx,fC]⟩
noncomputable def ss:List Nat:=[97,98,99,100,101,102,103,104,105,106,107,108,109,110,111,112,113,114,115,116,117,118,119,120,121,122,48,49,50,51,52,53,54,55,56,57]
theorem Y7:cf "abcdefghijklmnopqrstuvwxyz0123456789" = tx ss:=by decide +kernel
theorem Yq:∀c∈ss,c<128:=by decide
theorem acJ:ss.Nodup:=by decide
def sgn (i:Int):Nat:=ss.getD i.toNat 0
theorem Ad (h:0<=i/\i<36):sgn i∈ss:=by
 have hl:i.toNat<ss.length:=by show i.toNat<36;lia
 unfold sgn;rw[eS,bS hl];exact List.getElem_mem hl
theorem Yg (h:0<=i/\i<36)(h':0<=j/\j<36)(e:sgn i=sgn j):i=j:=by
 have hl:i.toNat<ss.length:=by show i.toNat<36;lia
 have hl':j.toNat<ss.length:=by show j.toNat<36;lia
 unfold sgn at e;rw[eS,bS hl,eS,bS hl'] at e
 have:=(List.getElem_inj (h₀:=hl) (h₁:=hl') acJ).mp e
 lia
theorem Yj (h:0<=i/\i<36):gIx (.str "abcdefghijklmnopqrstuvwxyz0123456789") (.int i)=some (.str<|tx [sgn i]):=by
 show gIx (.str<|cf "abcdefghijklmnopqrstuvwxyz0123456789") _=_;rw[Y7];have hl:i.toNat<ss.length:=by show i.toNat<36;lia
 have e:atI ss i=some (sgn i):=by
  have:=mD (xs:=ss) (j:=i.toNat)<|bS hl
  rw[show((i.toNat:Nat):Int)=i by lia] at this;rw[this];unfold sgn;rw[eS,bS hl];rfl
 show(if(tx ss).length<=ay then(atI (tx ss).cps.toList i).map λc=>D.str ⟨#[c]⟩ else none)=_;rw[if_pos (by rw[wL];decide),z8,e];rfl
theorem QZ:ay=16777216:=rfl
theorem Rm (h:a.length+b.length<=1000):cF (.str<|tx a) (.str<|tx b)=some (.str<|tx<|a++b):=by
 show(if(tx a).length+(tx b).length<=ay then some (D.str<|tx a++tx b) else none)=_;rw[if_pos (by rw[wL,wL,QZ];lia),Zz]
theorem Yx (h0:0<=i)(h1:i<=w.length)(hw:w.length<=1000):gSl (.str<|tx w) none (some i)=some (.str<|tx<|w.take i.toNat):=by
 show(if(tx w).length<=ay then some (D.str<|l3 (tx w) none<|some i) else none)=_;rw[if_pos (by rw[wL,QZ];lia)]
 have:=StrLaws.sliceText_to (x:=tx w) (j:=i) ⟨h0,by rw[z8];exact h1⟩
 rw[show l3 (tx w) none (some i)=nz (tx w) none (some i) from rfl,this];simp[tx]
theorem RK (h0:0<=i)(h1:i<=w.length):l3 (tx w) (some i) none=tx (w.drop i.toNat):=by
 have:=StrLaws.sliceText_from (x:=tx w) (i:=i) ⟨h0,by rw[z8];exact h1⟩
 rw[show l3 (tx w) (some i) none=nz (tx w) (some i) none from rfl,this];refine NP ?_;rw[z8];show((w.drop i.toNat).take _)=_;exact kM (by rw[oy];lia)
theorem XH (h0:0<=i)(h1:i<=w.length)(hw:w.length<=1000):gSl (.str<|tx w) (some i) none=some (.str<|tx<|w.drop i.toNat):=by
 show(if(tx w).length<=ay then some (D.str<|l3 (tx w) (some i) none) else none)=_;rw[if_pos (by rw[wL,QZ];lia),RK h0 h1]
noncomputable def yw (w:List Nat):List Nat:=w++w++w++w++w++w++w++w
theorem ade (h:1<=w.length)(h2:w.length<=100):M5 (.int 8) (.str<|tx w)=some (.str<|tx<|yw w):=by
 show(if(0:Int)<=8/\(8:Int)<=1000/\(tx w).length<=1000 then some (D.str<|BE (tx w) 8) else none)=_;rw[if_pos ⟨by decide,by decide,by rw[wL];lia⟩];congr 2;unfold BE;rw[if_neg (by decide),if_neg (by rw[wL];simp;intro z;rw[z] at h;simp at h)];refine NP ?_;show(xC (· ++ ·) #[] (br 8 w.toArray)).toList=_;simp[br,yw,gc]
theorem GQ (hP:P.length<=100):jE [.fz<|.int x,s1,s2,s3,.ow<|.lst P,s5,s6,s7,s8,s9]=.ok (.nx,[.fz<|.int<|x/36,s1,s2,s3,.ow<|.lst<|P++[.int<|x%36],s5,s6,s7,s8,s9]):=by
 have b1:Bq 36:=bgS (by decide);have z1:P.length<16777216:=by lia
 simp[jE,aJ,dq,rN,putL,aB,ak,fC,cz,mdI,dZ,dvI,b1,z1,bj]
theorem Ac:∀(c i:Nat) (x:Int) (P:List Int) (s5:Sl),P.length+c<=100->(∀p∈P,0<=p/\p<36)->∃(x' s5':Sl) (Q:List Int),bL (hName 5) jE ((qf i c).map λ(k:Nat)=>D.int k) [.fz<|.int x,s1,s2,s3,.ow<|.lst<|P.map D.int,s5,s6,s7,s8,s9]=.ok (.nx,[x',s1,s2,s3,.ow<|.lst<|Q.map D.int,s5',s6,s7,s8,s9])/\Q.length=P.length+c/\∀p∈Q,0<=p/\p<36
 |0,i,x,P,s5,_,hp=>⟨_,s5,P,rfl,rfl,hp⟩
 |c+1,i,x,P,s5,hz,hp=>by
  have st:=GQ (s1:=s1) (s2:=s2) (s3:=s3) (s5:=.fz<|.int (i:Int)) (s6:=s6) (s7:=s7) (s8:=s8) (s9:=s9) (x:=x) (P:=P.map D.int) (by simp;lia);obtain⟨x',s',Q,e,l,h⟩:=Ac (s1:=s1) (s2:=s2) (s3:=s3) (s6:=s6) (s7:=s7) (s8:=s8) (s9:=s9) c (i+1) (x/36) (P++[x%36]) (.fz<|.int (i:Int)) (by simp;lia) λp hp'=>by
   rcases cS.mp hp' with e|e
   ·exact hp p e
   ·rw[bP.mp e];lia
  refine⟨x',s',Q,?_,by rw[l];simp;lia,h⟩;rw[l7,aT,bI (m1:=[.fz<|.int x,s1,s2,s3,.ow<|.lst<|P.map D.int,.fz<|.int (i:Int),s6,s7,s8,s9]) rfl st];rw[dQ] at e;exact e
theorem Dt:∀ps:List Int,Gb (ps.map λp=>D.str<|tx [sgn p])=some ((ps.map sgn).map λc=>tx [c])
 |[]=>rfl
 |p::ps=>by simp[Gb,Dt ps]
theorem XS (ps:List Int)(hl:ps.length<=1000):Ep (.str "") [.lst<|ps.map λp=>D.str<|tx [sgn p]]=some (.str<|tx<|ps.map sgn):=by
 have e:((ps.map sgn).map λc=>tx [c])=(ps.map sgn).map λc=>(⟨#[c]⟩:Str):=rfl;have hc:=Py<|ps.map sgn;show(match Gb (ps.map λp=>D.str<|tx [sgn p]) with
  |some zs=>if BC (cf "") zs=true then some (D.str<|AD (cf "") zs) else none
  |none=>none)=_
 rw[Dt,e];show(if BC (cf "") _=true then some (D.str<|AD (cf "") _) else none)=_;rw[if_pos<|joinOk_of (by rw[hc];simp;lia)];congr 2;exact NP<|by rw[Sg,hc]
theorem abw {ps:List Int}(hl:ps.length<=1000)(hp:∀p∈ps,0<=p/\p<36):qt [u0,u1,.fz<|.str "abcdefghijklmnopqrstuvwxyz0123456789",u3,.ow<|.lst<|ps.map D.int,u5,u6,u7,u8,u9]=.ok (.lst<|ps.map λp=>D.str<|tx [sgn p]):=by
 have ec:dY (hName 0) gR qC [.un,.fz<|.str "abcdefghijklmnopqrstuvwxyz0123456789"] (ps.map D.int)=.ok (ps.map λp=>D.str<|tx [sgn p]):=eV ps λp hp'=>by
  refine⟨[.fz<|.int p,.fz<|.str "abcdefghijklmnopqrstuvwxyz0123456789"],rfl,rfl,?_⟩;have e:=Yj<|hp p hp';generalize D.str "abcdefghijklmnopqrstuvwxyz0123456789" = Z at *;simp[qC,aB,ak,e]
 have z2:ps.length<=16777216:=by lia
 generalize D.str "abcdefghijklmnopqrstuvwxyz0123456789" = Z at *;simp[qt,cA,eE,ak,cMe,Sl.bor,ec,z2]
theorem acB (h1:1<=w.length)(h2:w.length<=100):qJ [u0,u1,u2,u3,u4,u5,.fz<|.str<|tx w,u7,u8,u9]=.ok (.lst<|(cm 8).map λ(k:Nat)=>D.str<|tx<|(yw w).take<|k+1):=by
 have hr:(yw w).length=8*w.length:=by simp[yw];lia
 have em:=ade h1 h2;have e1:(aa (fC<|.int 1)<|aa (fC<|.int 9) aA) [u0,u1,u2,u3,u4,u5,.fz<|.str<|tx w,u7,u8,u9]=.ok [.int 1,.int 9]:=by simp[aa,fC,aA]
 have e2:=adk e1 (by lia) (by lia) (by lia) (by lia);have ec:dY (hName 0) gR mC [.un,.fz<|.str<|tx w] ((cm 8).map λ(k:Nat)=>D.int<|1+k)=.ok ((cm 8).map λ(k:Nat)=>D.str<|tx<|(yw w).take<|k+1):=eV (cm 8) λk hk=>by
  have hk:=i8.mp hk;refine⟨[.fz<|.int<|1+k,.fz<|.str<|tx w],rfl,rfl,?_⟩;have es:=Yx (w:=yw w) (i:=1+(k:Int)) (by lia) (by lia) (by lia);rw[show(1+(k:Int)).toNat=k+1 by lia] at es;generalize D.str (tx w)=W at *;simp[mC,fSl,aB,fC,ak,em,fO0,fO1,es]
 unfold qJ cA;rw[e2];show(if((cm 8).map λ(k:Nat)=>D.int<|1+k).length<=ay then match dY (hName 0) gR mC [.un,.fz<|.str<|tx w] ((cm 8).map λ(k:Nat)=>D.int<|1+k) with
  | .ok ys=>Res.ok<|D.lst ys
  |_=>.stuck
 else .stuck)=_
 rw[ec,if_pos<|by decide]
def Hy (w:List Nat)(a:Nat)(p:Int)(k:Nat):Str:=tx<|w.take a++[sgn<|(p+4*k)%36]++w.drop (a+1)
theorem V8 {s0 s1 s3 s9:Sl}{ps FF:List D}{w:List Nat}{a k:Nat}{p:Int}(ea:atI ps (a:Int)=some (.int p))(ha:a<w.length)(hw:w.length<=100)(hk:k<=100)(hF:FF.length<=100):
  jD [s0,s1,.fz<|.str "abcdefghijklmnopqrstuvwxyz0123456789",s3,.ow<|.lst ps,.fz<|.int (k:Int),.fz<|.str<|tx w,.fz<|.int (a:Int),.ow<|.lst FF,s9]=.ok (.nx,[s0,s1,.fz<|.str "abcdefghijklmnopqrstuvwxyz0123456789",s3,.ow<|.lst ps,.fz<|.int (k:Int),.fz<|.str<|tx w,.fz<|.int (a:Int),.ow<|.lst<|FF++[.str<|Hy w a p k],.fz<|.str<|tx [sgn<|(p+4*k)%36]]):=by
 have b1:Bq 4:=bgS (by decide);have b2:Bq (k:Int):=bgS (by omega);have z1:FF.length<16777216:=by omega
 have e1:=Yj (i:=(p+4*(k:Int))%36) (by omega);have e2:=Yx (w:=w) (i:=(a:Int)) (by omega) (by omega) (by omega);have e3:=XH (w:=w) (i:=(a:Int)+1) (by omega) (by omega) (by omega);rw[show((a:Int)).toNat=a by omega] at e2;rw[show((a:Int)+1).toNat=a+1 by omega] at e3;have e4:=Rm (a:=w.take a) (b:=[sgn<|(p+4*k)%36]) (by simp;omega);have e5:=Rm (a:=w.take a++[sgn<|(p+4*k)%36]) (b:=w.drop<|a+1) (by simp;omega);unfold Hy;generalize D.str "abcdefghijklmnopqrstuvwxyz0123456789" = Z at *;generalize D.str (tx<|w.take a++[sgn<|(p+4*k)%36]++w.drop (a+1))=R at *;generalize D.str (tx<|w.take a++[sgn<|(p+4*k)%36])=R1 at *;generalize D.str (tx w)=W at *;generalize D.str (tx<|w.take a)=W1 at *;generalize D.str (tx<|w.drop<|a+1)=W2 at *;generalize D.str (tx [sgn<|(p+4*k)%36])=W3 at *;have e6:gIx (.lst ps) (.int (a:Int))=some (.int p):=ea;have e7:F.cF (.int p) (.int<|4*(k:Int))=some (.int<|p+4*k):=rfl;have e8:F.cF (.int (a:Int)) (.int 1)=some (.int<|(a:Int)+1):=rfl;have e9:F.uI (.int 4) (.int (k:Int))=some (.int<|4*(k:Int)):=by simp[uI,b1,b2]
 have e10:F.cz (.int<|p+4*k) (.int 36)=some (.int<|(p+4*(k:Int))%36):=by simp[cz,mdI]
 simp only[jD];simp[aJ,bj,aB,ak,fC,e6,e7,e8,e9,e10,e1,dq,rN,putL,fSl,fO0,fO1,e2,e3,e4,e5,z1]
theorem Oc {s0 s1 s3:Sl}{ps:List D}{w:List Nat}{a:Nat}{p:Int}(ea:atI ps (a:Int)=some (.int p))(ha:a<w.length)(hw:w.length<=100):∀(c i:Nat) (FF:List D) (s5 s9:Sl),FF.length+c<=100->i+c<=100->∃s5' s9':Sl,
  bL (hName 5) jD ((qf i c).map λ(k:Nat)=>D.int k) [s0,s1,.fz<|.str "abcdefghijklmnopqrstuvwxyz0123456789",s3,.ow<|.lst ps,s5,.fz<|.str<|tx w,.fz<|.int (a:Int),.ow<|.lst FF,s9] =
   .ok (.nx,[s0,s1,.fz<|.str "abcdefghijklmnopqrstuvwxyz0123456789",s3,.ow<|.lst ps,s5',.fz<|.str<|tx w,.fz<|.int (a:Int),.ow<|.lst<|FF++(qf i c).map λ(k:Nat)=>.str<|Hy w a p k,s9'])
 |0,i,FF,s5,s9,_,_=>⟨s5,s9,by simp[bL]⟩
 |c+1,i,FF,s5,s9,hz,hi=>by
  have st:=V8 (s0:=s0) (s1:=s1) (s3:=s3) (s9:=s9) (FF:=FF) (k:=i) ea ha hw (by omega) (by omega);obtain⟨s5',s9',e⟩:=Oc (s0:=s0) (s1:=s1) (s3:=s3) ea ha hw c (i+1) (FF++[.str<|Hy w a p i]) (.fz<|.int (i:Int)) (.fz<|.str<|tx [sgn<|(p+4*i)%36]) (by simp;omega) (by omega);refine⟨s5',s9',?_⟩;rw[l7,aT,bI (m1:=[s0,s1,.fz<|.str "abcdefghijklmnopqrstuvwxyz0123456789",s3,.ow<|.lst ps,.fz<|.int (i:Int),.fz<|.str<|tx w,.fz<|.int (a:Int),.ow<|.lst FF,s9]) rfl st,e]
  simp
structure Ko (p:List Str):Prop where
 p8:p.length=8
 nd:p.Nodup
 ok:∀x∈p,d5 x=true
 ins:∀x∈p,∀c∈x.cps.toList,c∈ss
 len:∀x∈p,x.length<=20
theorem O8 {L2 L8:Zab}{Q4 Q6:Zae}{r:D}{c tt:Int}{x' s5:Sl}{P W:D}(h:tt/8%3=1)
  (eL:L2 [.fz<|.int<|c/8,.fz<|.int tt,.fz<|.str "abcdefghijklmnopqrstuvwxyz0123456789",.fz<|.int<|1+c%8,.ow<|.lst [],.un,.un,.un,.un,.un]=.ok (.nx,[x',.fz<|.int tt,.fz<|.str "abcdefghijklmnopqrstuvwxyz0123456789",.fz<|.int<|1+c%8,.ow P,s5,.un,.un,.un,.un]))
  (e4:Q4 [x',.fz<|.int tt,.fz<|.str "abcdefghijklmnopqrstuvwxyz0123456789",.fz<|.int<|1+c%8,.ow P,s5,.un,.un,.un,.un]=.ok r) (ej:Ep (.str "") [r]=some W)
  {R:D} (e6:∀u0 u1 u2 u3 u4 u5 u7 u8 u9:Sl,Q6 [u0,u1,u2,u3,u4,u5,.fz W,u7,u8,u9]=.ok R):bc 10 2 (j8 L2 Q4 Q6 L8) [.int c,.int tt]=.ok (true,R):=by
 unfold bc j8;have b8:Bq 8:=bgS (by decide);have ty:tyD "str" (.str "")=true:=rfl;generalize D.str "abcdefghijklmnopqrstuvwxyz0123456789" = Z at *;generalize D.str "" = Z0 at *;simp[aJ,bj,fC,aB,ak,cF,cz,mdI,dZ,dvI,b8,gY,eG,aA,eL,Oo,ty,aa,e4,ej,gIf,aL,h,jy,Me.let,Sl.let,e6]
theorem QT {L2 L8:Zab}{Q4 Q6:Zae}{r:D}{c tt:Int}{x' s5 s5' s9':Sl}{P W:D}(h:¬tt/8%3=1)
  (eL:L2 [.fz<|.int<|c/8,.fz<|.int tt,.fz<|.str "abcdefghijklmnopqrstuvwxyz0123456789",.fz<|.int<|1+c%8,.ow<|.lst [],.un,.un,.un,.un,.un]=.ok (.nx,[x',.fz<|.int tt,.fz<|.str "abcdefghijklmnopqrstuvwxyz0123456789",.fz<|.int<|1+c%8,.ow P,s5,.un,.un,.un,.un]))
  (e4:Q4 [x',.fz<|.int tt,.fz<|.str "abcdefghijklmnopqrstuvwxyz0123456789",.fz<|.int<|1+c%8,.ow P,s5,.un,.un,.un,.un]=.ok r) (ej:Ep (.str "") [r]=some W)
  {R:D} (e8:L8 [x',.fz<|.int tt,.fz<|.str "abcdefghijklmnopqrstuvwxyz0123456789",.fz<|.int<|1+c%8,.ow P,s5,.fz W,.fz<|.int<|tt%(1+c%8),.ow<|.lst [],.un]=.ok (.nx,[x',.fz<|.int tt,.fz<|.str "abcdefghijklmnopqrstuvwxyz0123456789",.fz<|.int<|1+c%8,.ow P,s5',.fz W,.fz<|.int<|tt%(1+c%8),.ow R,s9'])):bc 10 2 (j8 L2 Q4 Q6 L8) [.int c,.int tt]=.ok (true,R):=by
 unfold bc j8;have b8:Bq 8:=bgS (by decide);have ty:tyD "str" (.str "")=true:=rfl;have hp:0<1+c%8:=by omega
 have hz:¬1+c%8=0:=by omega
 have em:mdI tt (1+c%8)=tt%(1+c%8):=if_pos hp;generalize hS:1+c%8=S at *;generalize D.str "abcdefghijklmnopqrstuvwxyz0123456789" = Z at *;generalize D.str "" = Z0 at *;simp[aJ,bj,fC,aB,ak,cF,cz,dZ,dvI,b8,gY,eG,aA,show mdI c 8=c%8 from if_pos (by decide),hS,eL,Oo,ty,aa,e4,ej,gIf,aL,show mdI (tt/8) 3=tt/8%3 from if_pos (by decide),h,gNx,hz,em,e8,ux,Me.let,Sl.let]
theorem Vs {c tt:Int}:∃(x' s5:Sl) (ps:List Int),qO [.fz<|.int<|c/8,.fz<|.int tt,.fz<|.str "abcdefghijklmnopqrstuvwxyz0123456789",.fz<|.int<|1+c%8,.ow<|.lst [],.un,.un,.un,.un,.un]=.ok (.nx,[x',.fz<|.int tt,.fz<|.str "abcdefghijklmnopqrstuvwxyz0123456789",.fz<|.int<|1+c%8,.ow<|.lst<|ps.map D.int,s5,.un,.un,.un,.un])/\(ps.length:Int)=1+c%8/\∀p∈ps,0<=p/\p<36:=by
 have hS:0<=1+c%8/\1+c%8<=8:=by omega
 generalize 1+c%8=S at *;obtain⟨x',s5,Q,e,hl,hQ⟩:=Ac (s1:=.fz<|.int tt) (s2:=.fz<|.str "abcdefghijklmnopqrstuvwxyz0123456789") (s3:=.fz<|.int S) (s6:=.un) (s7:=.un) (s8:=.un) (s9:=.un) S.toNat 0 (c/8) [] .un (by simp;omega) λ_ z=>nomatch z;refine⟨x',s5,Q,?_,by simp at hl;omega,hQ⟩;have e1:(aa (ak 3) aA) [.fz<|.int<|c/8,.fz<|.int tt,.fz<|.str "abcdefghijklmnopqrstuvwxyz0123456789",.fz<|.int S,.ow<|.lst [],.un,.un,.un,.un,.un]=.ok [.int S]:=by
  generalize D.str "abcdefghijklmnopqrstuvwxyz0123456789" = Z;simp[aa,ak,aA]
 have e2:=Ib e1 (by omega) (by omega);unfold qO fB;rw[e2];show bL (hName 5) jE ((cm S.toNat).map λ(k:Nat)=>D.int k) _=_;rw[ja];exact e
theorem Vx {w:List Nat}{a:Nat}{p:Int}{k:Nat}(hw:∀c∈w,c<128):d5 (Hy w a p k)=true:=by
 refine CK λc hc=>?_;rcases cS.mp hc with hc|hc
 ·rcases cS.mp hc with hc|hc
  ·exact hw c<|lT hc
  ·rw[bP.mp hc];exact Yq _<|Ad<|by omega
 ·exact hw c<|yb hc
theorem Q8 {w:List Nat}{a:Nat}{p:Int}{k j:Nat}(hk:k<8)(hj:j<8)(h:Hy w a p k=Hy w a p j):k=j:=by
 have h:=Vj.mp h;rw[gc,gc] at h;have h:=List.append_cancel_left h;injection h with h _
 have:=Yg (by omega) (by omega) h
 omega
theorem Ls {w:List Nat}{c:Nat}(h:c∈yw w):c∈w:=by
 simpa[yw] using h
theorem Wv (c t:Int):∃p:List Str,mY [.int c,.int t]=.ok (true,.lst<|p.map D.str)/\Ko p:=by
 obtain⟨x',s5,ps,eL,hl,hp⟩:=Vs (c:=c) (tt:=t);have hl8:1<=ps.length/\ps.length<=8:=by omega
 have e4:=abw (u0:=x') (u1:=.fz<|.int t) (u3:=.fz<|.int<|1+c%8) (u5:=s5) (u6:=.un) (u7:=.un) (u8:=.un) (u9:=.un) (by omega) hp;have ej:=XS ps (by omega);have hw:∀k∈ps.map sgn,k<128:=λk hk=>by
  obtain⟨p,h,rfl⟩:=dS.mp hk;exact Yq _<|Ad<|hp p h
 have hs:∀k∈ps.map sgn,k∈ss:=λk hk=>by
  obtain⟨p,h,rfl⟩:=dS.mp hk;exact Ad<|hp p h
 have wl:(ps.map sgn).length=ps.length:=by simp
 generalize hW:ps.map sgn=w at *;by_cases h:t/8%3=1
 ·refine⟨(cm 8).map λk=>tx<|(yw w).take<|k+1,?_,by simp,?_,λx hx=>?_,λx hx c hc=>?_,λx hx=>?_⟩
  ·rw[fF];exact O8 h eL e4 ej λu0 u1 u2 u3 u4 u5 u7 u8 u9=>acB (by omega)<|by omega
  ·refine List.pairwise_map.mpr<|(List.nodup_range (n:=8)).imp_of_mem λ{a b} ha hb hne z=>hne ?_;have ha:=i8.mp ha;have hb:=i8.mp hb;have hr:(yw w).length=8*w.length:=by simp[yw];omega
   have:=congrArg sM<|Vj.mp z
   rw[l6,l6] at this;omega
  ·obtain⟨k,_,rfl⟩:=dS.mp hx;exact CK λc hc=>hw c<|Ls<|lT hc
  ·obtain⟨k,_,rfl⟩:=dS.mp hx;exact hs c<|Ls<|lT hc
  ·obtain⟨k,hk,rfl⟩:=dS.mp hx
   have:=i8.mp hk
   show((yw w).take<|k+1).toArray.size<=20
   simp
   omega
 ·obtain⟨a,ha⟩:∃a:Nat,(a:Int)=t%(1+c%8):=⟨(t%(1+c%8)).toNat,by have:=xw t (show 1+c%8≠0 by omega);omega⟩;have hlt:a<w.length:=by have:=rj t (show 0<1+c%8 by omega);omega
  have hlp:a<ps.length:=by omega
  have ea:atI (ps.map D.int) (a:Int)=some (.int ps[a]):=mD (by rw[cp,bS hlp];rfl);obtain⟨s5',s9',e8⟩:=Oc (s0:=x') (s1:=.fz<|.int t) (s3:=.fz<|.int<|1+c%8) ea hlt (by omega) 8 0 [] s5 .un (by simp) (by omega);refine⟨(cm 8).map λk=>Hy w a ps[a] k,?_,by simp,?_,λx hx=>?_,λx hx c hc=>?_,λx hx=>?_⟩
  ·refine QT (s5':=s5') (s9':=s9') h eL e4 ej ?_;rw[← ha];rw[fF];have e1:(aa (fC<|.int 8) aA) [x',.fz<|.int t,.fz<|.str "abcdefghijklmnopqrstuvwxyz0123456789",.fz<|.int<|1+c%8,.ow<|.lst<|ps.map D.int,s5,.fz<|.str<|tx w,.fz<|.int (a:Int),.ow<|.lst [],.un]=.ok [.int 8]:=by
    simp[aa,fC,aA]
   have e2:=Ib e1 (by omega) (by omega);unfold v9 fB;rw[e2];show bL (hName 5) jD ((cm 8).map λ(k:Nat)=>D.int k) _=_;rw[ja];exact e8
  ·refine List.pairwise_map.mpr<|(List.nodup_range (n:=8)).imp_of_mem λ{i j} hi hj hne z=>hne ?_;exact Q8 (i8.mp hi) (i8.mp hj) z
  ·obtain⟨k,_,rfl⟩:=dS.mp hx;exact Vx hw
  ·obtain⟨k,_,rfl⟩:=dS.mp hx;rcases cS.mp (show c∈w.take a++[sgn<|(ps[a]+4*k)%36]++w.drop (a+1) from hc) with hc|hc
   ·rcases cS.mp hc with hc|hc
    ·exact hs c<|lT hc
    ·rw[bP.mp hc];exact Ad<|by omega
   ·exact hs c<|yb hc
  ·obtain⟨k,_,rfl⟩:=dS.mp hx;show(w.take a++[sgn<|(ps[a]+4*k)%36]++w.drop (a+1)).toArray.size<=20
   simp
   omega
end Lw
namespace F
open PySem PySem.Spec PyProof.Rows L2 Hd
section
variable {X:Cx}
theorem vals2 (r:Vals [a,b] us):∃u v,us=[u,v]/\RelV a u/\RelV b v:=by
 cases r with
 |cons r1 r2=>
  cases r2 with
  |cons r2 r3=>cases r3;exact⟨_,_,rfl,r1,r2⟩
end
section
variable {pr:bo}{wo:dc}{Ar:dy}{Ex:Zs}{st:aS}
end
section
variable {pr:bo}{wo:dc}{Ar:dy}{Ex:Zs}{st:aS}
end
theorem mm4 {α:Type}{P:α->Prop}{a b c d:α}(h1:P a)(h2:P b)(h3:P c)(h4:P d):∀x∈[a,b,c,d],P x:=by simp[h1,h2,h3,h4]
theorem mm5 {α:Type}{P:α->Prop}{a b c d e:α}(h0:P e)(h1:P a)(h2:P b)(h3:P c)(h4:P d):∀x∈[e,a,b,c,d],P x:=by simp[h0,h1,h2,h3,h4]
theorem ad0 {α:Type}{x a b c d:α}(h:x∉[a,b,c,d]):x≠a/\x≠b/\x≠c/\x≠d:=by simpa using h
theorem ad1 {α:Type}{a b c d e:α}:∀x∈[e,b,c,d],x∈[e,a,b,c,d]:=mm4 (by simp) (by simp) (by simp)<|by simp
section
variable {X:Cx}
end
section
variable {X:Cx}{tg:Expr}
end
section
end
section
variable {X:Cx}{E:XK}{j k:Nat}{c m:Str}{ps:List Str}{Φ:Zac}{apos pos:Pos}{o e:Expr}{es:List Expr}{f0:Zae}{fs:Zad}{pl:Sem Bool}
end
section
variable {P:bo}{w:dc}{K:bb}{mg:Zp}{base:Heap}
end
section
end
section
variable {X:Cx}{E:XK}{e:Expr}{g:Zae}{k:Zab}{c f x kn vn:Str}{fs:List Str}{pos pos' pos2 pos3 spos np np2 kp vp:Pos}{rest:List Stmt}
end
section
variable {X:Cx}{E:XK}{e:Expr}{g:Zae}{c f x:Str}{fs:List Str}{pos pos' np:Pos}
end
section
variable {P:bo}{w:dc}{K:bb}{mg:Zp}{base:Heap}
end
section
end
section
variable {X:Cx}{E:XK}{jj k:Nat}{c f y:Str}{ps:List Str}{Φ:List D->Res (List Str×List D×D)}{py pos ρ np:Pos}{e:Expr}{es:List Expr}{fs:Zad}{rest:List Stmt}{kk:Zab}
end
section
end
section
end
def KX (K:bb)(H:Hp)(x:V)(t:av):Prop:=(x=.non/\t=.type "NoneType")\/∃ea C,x=.ref ea/\t=.ref C/\(∃ox,H ea=some (.frz ox<|.ext<|rO ea<|.ref C))/\XC K C
def adq (K:bb):List V->Hp->VK->Prop:=λxs H Q=>∃x t C b,xs=[x,.ref C]/\KX K H x t/\bt K t (.ref C)=some b/\Q (.bl b) H
def ado (K:bb):List V->Hp->VK->Prop:=λxs H Q=>∃x t l,∃Cs:List Addr,∃b,xs=[x,.ref l]/\H l=some (.tup<|Cs.map V.ref)/\KX K H x t/\A8 K t (Cs.map bE)=some b/\Q (.bl b) H
theorem EY:∀{Cs:List Addr} {us:List av},Vals (Cs.map V.ref) us->us=Cs.map bE
 |[],_,.nil=>rfl
 |_::_,_,.cons r t=>by rw[EY t];cases r;rfl
section
variable {X:Cx}
theorem SM:fX X (.builtin "isinstance") (adq X.K):=by
 intro π s σ H xs us Q I r h;obtain⟨x,t,C,b,rfl,hk,e,q⟩:=h;obtain⟨u,w',rfl,ru,rw'⟩:=vals2 r;cases(show w'=bE C from rw');rcases hk with⟨rfl,rfl⟩|⟨ea,D,rfl,rfl,⟨ox,he⟩,Z⟩
 ·cases(show u=eM from ru);exact iF W.kitx_none I.kIn trivial e (λz=>nomatch z) λtk=>⟨.bl b,H,I.tok _,rfl,q⟩
 ·cases(show u=bE ea from ru);obtain⟨_,⟨o,ho,hc,_⟩,_⟩:=(show cG X.prog X.w H s.heap ea (.frz ox<|.ext<|rO ea<|.ref D) from I.hok ea _ he);exact iF (BR Z) I.kIn ⟨o,ho,hc⟩ e (λz=>nomatch z) λtk=>⟨.bl b,H,I.tok _,rfl,q⟩
theorem SQ:fX X (.builtin "isinstance") (ado X.K):=by
 intro π s σ H xs us Q I r h;obtain⟨x,t,l,Cs,b,rfl,hl,hk,e,q⟩:=h;obtain⟨u,w',rfl,ru,rw'⟩:=vals2 r;cases(show w'=bE l from rw');obtain⟨_,χ,hv,⟨⟨cls,dd,data,sl⟩,ho,hc,n,hd,_⟩⟩:=(show cG X.prog X.w H s.heap l (.tup<|Cs.map V.ref) from I.hok l _ hl);cases(show cls=.type "tuple" from hc);cases(show data=_ from hd);cases EY hv;rcases hk with⟨rfl,rfl⟩|⟨ea,D,rfl,rfl,⟨ox,he⟩,Z⟩
 ·cases(show u=eM from ru);exact W.kia_tup W.kitx_none I.kIn trivial ho e (λz=>nomatch z) λtk=>⟨.bl b,H,I.tok _,rfl,q⟩
 ·cases(show u=bE ea from ru);obtain⟨_,⟨o,ho',hc',_⟩,_⟩:=(show cG X.prog X.w H s.heap ea (.frz ox<|.ext<|rO ea<|.ref D) from I.hok ea _ he);exact W.kia_tup (BR Z) I.kIn ⟨o,ho',hc'⟩ ho e (λz=>nomatch z) λtk=>⟨.bl b,H,I.tok _,rfl,q⟩
end
def ICl (K:bb)(mg:Zp)(y:Str)(tab:Str->Option Bool):Prop:=∃C,mg y=some (.ref C)/\(∀c D b,tab c=some b->mg c=some (.ref D)->XC K D/\bt K (.ref D) (.ref C)=some b)/\bt K (.type "NoneType") (.ref C)=some false
def Dj:List (Str->Option Bool)->Str->Option Bool
 |[],_=>some false
 |t::r,c=>match t c with
  |some true=>some true
  |some false=>Dj r c
  |none=>none
def CG (tab:Str->Option Bool)(f:Zae):Zae:=λm=>(f m).bind λd=>match d with
 | .exc c _ _=>ofO<|(tab c).map D.bl
 | .non=>.ok<|.bl false
 |_=>.stuck
inductive ICs (X:Cx):List Expr->List (Str->Option Bool)->List Addr->Prop
 |nil:ICs X [] [] []
 |cons {y:Str} {py:Pos} {tab:Str->Option Bool} {es:List Expr} {ts:List (Str->Option Bool)} {C:Addr} {Cs:List Addr}:Gl X y->(y==("__debug__":Str))=false->X.mg y=some (.ref C)->
   (∀c D b,tab c=some b->X.mg c=some (.ref D)->XC X.K D/\bt X.K (.ref D) (.ref C)=some b)->bt X.K (.type "NoneType") (.ref C)=some false->
   ag (.Name y py::es) X.env=(false,eval (.Name y py) X.env)::ag es X.env->ICs X es ts Cs->ICs X (.Name y py::es) (tab::ts) (C::Cs)
section
variable {X:Cx}{E:XK}{a:Expr}{fa:Zae}{y:Str}{pos p py:Pos}
def acW (Cs:List Addr):TA:=λ_ H Q=>Q (Cs.map V.ref) H
theorem M7:∀{es:List Expr} {ts:List (Str->Option Bool)} {Cs:List Addr},ICs X es ts Cs->PA X es (acW Cs)
 |_,_,_,.nil=>λpos π s σ H Q I h=>pJ pos π s σ H Q I h
 |_,_,_,.cons hg hd hm _ _ hs t=>λpos π s σ H Q I h=>ig (Fg (v:=.ref _) hg hm rfl hd) (M7 t) hs pos π s σ H Q I h
theorem Ou:∀{es:List Expr} {ts:List (Str->Option Bool)} {Cs:List Addr},ICs X es ts Cs->Cs.length=es.length
 |_,_,_,.nil=>rfl
 |_,_,_,.cons _ _ _ _ _ _ t=>congrArg (· + 1)<|Ou t
theorem Nz:∀{es:List Expr} {ts:List (Str->Option Bool)} {Cs:List Addr},ICs X es ts Cs->A8 X.K (.type "NoneType") (Cs.map bE)=some false
 |_,_,_,.nil=>rfl
 |_,_,_,.cons _ _ _ _ hn _ t=>by rw[aT,A8,hn];exact Nz t
theorem Ug {c:Str}{D:Addr}(hD:X.mg c=some (.ref D)):∀{es:List Expr} {ts:List (Str->Option Bool)} {Cs:List Addr} {b:Bool},ICs X es ts Cs->Dj ts c=some b->A8 X.K (.ref D) (Cs.map bE)=some b
 |_,_,_,_,.nil,e=>e
 |_,_,_,b,.cons (tab:=tab) _ _ _ hx _ _ t,e=>by
  unfold Dj at e;rw[aT,A8];cases q:tab c with
  |none=>rw[q] at e;cases e
  |some z=>
   rw[q] at e;obtain⟨_,h2⟩:=hx c D z q hD;rw[h2];cases z with
   |true=>exact e
   |false=>exact Ug hD t e
theorem GZ {tab:Str->Option Bool}(ha:FB X E a fa)(hg:Gl X "isinstance")(hm:X.mg "isinstance" = none)(hv:b0 "isinstance" = some (.builtin "isinstance"))(hgy:Gl X y)(ht:ICl X.K X.mg y tab)
  (hdy:(y==("__debug__":Str))=false:=by decide) (he:ag [a,.Name y py] X.env=(false,eval a X.env)::ag [.Name y py] X.env:=by rfl) (he2:ag [.Name y py] X.env=(false,eval (.Name y py) X.env)::ag [] X.env:=by rfl) (ξ:(ia pos<|ag [.Name y py] X.env).any (·.1)=false:=by rfl):
  FE X E (.Call (.Name "isinstance" p) [a,.Name y py] [] pos) (CG tab fa):=by
 obtain⟨C,hC,ht,hn⟩:=ht;refine bN (uY SM hg hm hv (ig ha (ig (Fg (v:=.ref C) hgy hC rfl hdy) pJ he2) he) (by decide) (by decide) he ξ) λσ H Q h=>?_;obtain⟨O0,M0,H0,ow,m,R,q⟩:=h;refine⟨O0,M0,H0,ow,m,R,q.bind.imp (aN.refl _) λd q v H' g hv=>?_⟩;cases d with
 |exc k=>
  obtain⟨r,hr,kk⟩:=q.ofO;obtain⟨b,hb,rfl⟩:=omap hr;obtain⟨ea,D,rfl,hD,hH⟩:=Le hv;obtain⟨z1,z2⟩:=ht k D b hb hD;exact⟨_,_,C,b,rfl,.inr ⟨ea,D,rfl,rfl,hH,z1⟩,z2,kk _ _ g<|.bl _⟩
 |non=>
  cases wB hv;exact⟨_,_,C,false,rfl,.inl ⟨rfl,rfl⟩,hn,q _ _ g<|.bl _⟩
 |_=>exact q.elim
theorem aaM {es:List Expr}{ts:List (Str->Option Bool)}{Cs:List Addr}{t0:Str->Option Bool}{x1}(ha:FB X E a fa)(hg:Gl X "isinstance")(hm:X.mg "isinstance" = none)(hv:b0 "isinstance" = some (.builtin "isinstance"))(hc:ICs X es (t0::ts) Cs)(hz:es.length<=ay:=by decide)
  (he:ag [a,.Tuple es x1 py] X.env=(false,eval a X.env)::ag [.Tuple es x1 py] X.env:=by rfl) (he2:ag [.Tuple es x1 py] X.env=(false,eval (.Tuple es x1 py) X.env)::ag [] X.env:=by rfl) (ξ:(ia pos<|ag [.Tuple es x1 py] X.env).any (·.1)=false:=by rfl):
  FE X E (.Call (.Name "isinstance" p) [a,.Tuple es x1 py] [] pos) (CG (Dj (t0::ts)) fa):=by
 refine bN (uY SQ hg hm hv (ig ha (ig (RW<|M7 hc) pJ he2) he) (by decide) (by decide) he ξ) λσ H Q h=>?_;obtain⟨O0,M0,H0,ow,m,R,q⟩:=h;refine⟨O0,M0,H0,ow,m,R,q.bind.imp (aN.refl _) λd q v H' g hv=>?_⟩;have hl:=Ou hc;cases d with
 |exc k=>
  obtain⟨r,hr,kk⟩:=q.ofO;obtain⟨b,hb,rfl⟩:=omap hr;obtain⟨ea,D,rfl,hD,hH⟩:=Le hv;have z1:XC X.K D:=by
   cases hc with
   |cons _ _ _ hx _ _ _=>
    unfold Dj at hb;cases q:t0 k with
    |none=>rw[q] at hb;cases hb
    |some z=>exact(hx k D z q hD).1
  refine⟨by simpa[hl] using hz,λl hl'=>⟨_,_,l,Cs,b,rfl,bu,.inr ⟨ea,D,rfl,rfl,?_,z1⟩,Ug hD hc hb,kk _ _ (g.trans<|bO hl' _)<|.bl _⟩⟩;obtain⟨ox,hH⟩:=hH;exact⟨ox,by rw[bD (λz=>by rw[z,hl'] at hH;cases hH)];exact hH⟩
 |non=>
  cases wB hv;exact⟨by simpa[hl] using hz,λl hl'=>⟨_,_,l,Cs,false,rfl,bu,.inl ⟨rfl,rfl⟩,Nz hc,q _ _ (g.trans<|bO hl' _)<|.bl _⟩⟩
 |_=>exact q.elim
theorem WX:∃Cs,ICs X [] [] Cs:=⟨_,.nil⟩
theorem Bd {tab:Str->Option Bool}{es:List Expr}{ts:List (Str->Option Bool)}(h:ICl X.K X.mg y tab)(t:∃Cs,ICs X es ts Cs)(hg:Gl X y:=by rfl)(hd:(y==("__debug__":Str))=false:=by decide)
  (hs:ag (.Name y py::es) X.env=(false,eval (.Name y py) X.env)::ag es X.env:=by rfl):∃Cs,ICs X (.Name y py::es) (tab::ts) Cs:=let⟨_,a,b,c⟩:=h;let⟨_,t⟩:=t;⟨_,.cons hg hd a b c hs t⟩
theorem Xj {es:List Expr}{ts:List (Str->Option Bool)}{t0:Str->Option Bool}{x1}(ha:FB X E a fa)(hg:Gl X "isinstance")(hm:X.mg "isinstance" = none)(hv:b0 "isinstance" = some (.builtin "isinstance"))(hc:∃Cs,ICs X es (t0::ts) Cs)(hz:es.length<=ay:=by decide)
  (he:ag [a,.Tuple es x1 py] X.env=(false,eval a X.env)::ag [.Tuple es x1 py] X.env:=by rfl) (he2:ag [.Tuple es x1 py] X.env=(false,eval (.Tuple es x1 py) X.env)::ag [] X.env:=by rfl) (ξ:(ia pos<|ag [.Tuple es x1 py] X.env).any (·.1)=false:=by rfl):
  FE X E (.Call (.Name "isinstance" p) [a,.Tuple es x1 py] [] pos) (CG (Dj (t0::ts)) fa):=let⟨_,hc⟩:=hc;aaM ha hg hm hv hc hz he he2 ξ
end
end F
namespace Hd
open PySem PySem.Spec PyProof.Rows L2
section
variable {X:Cx}{i j k:Nat}{x:Str}{ps:List Str}{sp:Sp}{p pos:Pos}{e:Expr}{es:List Expr}{t:TA}{f:Addr}{fd:hG}
end
end Hd
namespace F
open PySem PySem.Spec PyProof.Rows L2 Hd
section
variable {X:Cx}{E:XK}{i j k l:Nat}{x y z:Str}{ps qs:List Str}{p pos ρ:Pos}{e:Expr}{es:List Expr}{fs:Zad}{Φ Ψ:Zac}{a b:Addr}
end
section
variable {prog:bo}{w:dc}{A:dy}{E:Zs}{s:aS}
def Hdl (A:dy)(h:Heap):Prop:=∃x o vs,A.handled=some (.ref x)/\h.get? x=some o/\o.data=.fields vs/\vs[2]? = some .none
theorem Dg:entryFor table "proto.unchain" = some sT.«proto.unchain»:=entryFor_of_tree<|by kernel_rfl
theorem Jw {v x:av}{a:Addr}{o:Obj}{vs:Array av}{Q:Fin->aS->Prop}(ho:s.heap.get? a=some o)(hd:o.data=.fields vs)(h2:vs[2]? = some .none)(k:Q (.done<|.ret .none) s):
  bg (b9 prog w) A (sT.«proto.unchain» ⟨[v,.ref a,x,.bool false],[]⟩) Q E s:=by
 unfold sT.«proto.unchain»;refine ae<|hU ho hd h2 ?_;show bg _ _ (if(eM==eM)=true then _ else _) _ _ s;rw[if_pos<|show(eM==eM)=true from rfl];exact ah k
theorem Ye {α:Type}{Q:α->aS->Prop}{x e:Addr}{o oe:Obj}{vs ves:Array av}(hh:A.handled=some (.ref x))(ne:x≠e)(ho:s.heap.get? x=some o)(hd:o.data=.fields vs)(h2:vs[2]? = some .none)
  (he:s.heap.get? e=some oe) (hde:oe.data=.fields ves) (hz:2<ves.size) (k:E (.ref e) { s with heap:=s.heap.update e (kC (·.setIfInBounds 2 (.ref x))) }):bg (b9 prog w) A (raiseNew (.ref e):Sem α) Q E s:=by
 simp only[raiseNew];refine ae<|wpAny_handled ?_;rw[hh];have n1:(bE x != bE e)=true:=by simp[bne,ne]
 simp only[n1,if_true];refine ae<|gX<|runValue_entry Dg<|Jw ho hd h2 ⟨_,rfl,?_⟩;unfold updateField;refine ae<|ae<|wpAny_load he ?_;rw[hde];simp only[hz,if_true];exact wpAny_update he<|wpAny_throw k
theorem U0 {α:Type}{Q:α->aS->Prop}(H:Hdl A s.heap)
  (k:∀h' e,(∀b o,s.heap.get? b=some o->h'.get? b=some o)->(∃o,h'.get? e=some o/\o.cls=.type "StopIteration")->E (.ref e) { s with heap:=h' }):
  bg (b9 prog w) A (do let e←newExc (.type "StopIteration") [];raiseNew e:Sem α) Q E s:=by
 obtain⟨x,o,vs,hh,ho,hd,h2⟩:=H;refine ae ?_;simp only[newExc,newTuple];refine ae<|eC ?_ (by size_fits);refine ae (m:=r9 _ _)<|p0 (a:=eM) (by first|rfl|(simp only[r9];rfl)) ?_;refine eC ?_ (by size_fits);have xl:x<s.heap.objs.size:=aw ho;have e1:(s.heap.push { cls:=.type "tuple",data:=.seq [].toArray }).objs.size=s.heap.objs.size+1:=by simp[Heap.push]
 refine Ye hh (by rw[e1];exact bp<|ko xl) ((nB _ _ _ (by rw[e1];exact bp<|ko xl)).trans<|(nB _ _ _<|bp xl).trans ho) hd h2 (a7 _ rfl) rfl (by simp[ownMembersOf])<|k _ _ (λb q hb=>?_) ?_
 ·have bl:b<s.heap.objs.size:=aw hb;rw[iO _ _ _ _ (by rw[e1];exact bp<|ko bl),nB _ _ _ (by rw[e1];exact bp<|ko bl),nB _ _ _<|bp bl];exact hb
 ·exact⟨_,dP _ (a7 _ rfl) rfl,rfl⟩
theorem Hdl.upd {it:Addr}{f:Obj->Obj}{oi:Obj}{us:Array av}(H:Hdl A s.heap)(hi:s.heap.get? it=some oi)(hd:oi.data=.fields us)(hz:us[2]? = none):Hdl A (s.heap.update it f):=by
 obtain⟨x,o,vs,hh,ho,hv,h2⟩:=H;refine⟨x,o,vs,hh,(iO _ _ _ _ λz=>?_).trans ho,hv,h2⟩;subst z;cases hi.symm.trans ho;cases hd.symm.trans hv;rw[hz] at h2;cases h2
theorem Es {it l:Addr}{i:Nat}{items:Array av}{Q:Option av->aS->Prop}(H:Hdl A s.heap)(hit:s.heap.IsListIter it l i)(hl:s.heap.IsList l items)(hx:items[i]? = none)
  (hQ:∀h',Bz it s.heap h'->Q none { s with heap:=h' }):bg (b9 prog w) A (zC<|.ref it) Q E s:=by
 obtain⟨o,ho,hc,hd⟩:=id hit;obtain⟨ol,hol,_,nl,hdl⟩:=hl;unfold zC;refine ae<|tq<|iq (name:=cf "__next__") hit.typeIs slot_listiter_next<|g9 slot_listiter_next hit.typeIs entry_listiter_next ?_<|args_listiter_next _;show bg _ _ (field (.ref it) 0 >>= _) _ _ s;refine ae<|hU ho hd (x:=.ref l) rfl ?_;show bg _ _ (if(bE l==eM)=true then _ else _) _ _ s;rw[if_neg λz=>by cases(show false=true from z)];show bg _ _ (field (.ref it) 1 >>= _) _ _ s;refine ae<|hU ho hd (x:=.int i 0) rfl<|show bg _ _ (seqItems? (.ref l) >>= _) _ _ s from ae (rk hol hdl ?_);simp only[nh,hx];refine ae<|pj<|ae<|kK ho hd (by simp) ?_;refine U0 (A:=A.in1) (s:={ s with heap:=_ }) (Hdl.upd (A:=A.in1) H ho hd rfl) λh' e kp ⟨oe,he,ce⟩=>?_;refine ae<|l5 (T:="StopIteration") (b:=true) ⟨oe,he,ce⟩ yA ?_;exact ah<|hQ _ λb q nb hb=>kp b q<|(iO _ _ _ _ nb).trans hb
theorem Ks {it l:Addr}{i:Nat}{items:Array av}{Q:Option av->aS->Prop}(H:Hdl A s.heap)(hit:s.heap.IsTupleIter it l i)(hl:s.heap.IsTuple l items)(hx:items[i]? = none)
  (hQ:∀h',Bz it s.heap h'->Q none { s with heap:=h' }):bg (b9 prog w) A (zC<|.ref it) Q E s:=by
 obtain⟨o,ho,hc,hd⟩:=id hit;obtain⟨ol,hol,_,nl,hdl⟩:=hl;unfold zC;refine ae<|tq<|iq (name:=cf "__next__") hit.typeIs mx<|g9 mx hit.typeIs PySem.F.entry_tuple_iterator_next ?_<|PySem.F.args_tuple_iterator_next_1 _;show bg _ _ (field (.ref it) 0 >>= _) _ _ s;refine ae<|hU ho hd (x:=.ref l) rfl ?_;show bg _ _ (if(bE l==eM)=true then _ else _) _ _ s;rw[if_neg λz=>by cases(show false=true from z)];show bg _ _ (field (.ref it) 1 >>= _) _ _ s;refine ae<|hU ho hd (x:=.int i 0) rfl<|show bg _ _ (seqItems? (.ref l) >>= _) _ _ s from ae (rk hol hdl ?_);simp only[nh,hx];refine ae<|pj<|ae<|kK ho hd (by simp) ?_;refine U0 (A:=A.in1) (s:={ s with heap:=_ }) (Hdl.upd (A:=A.in1) H ho hd rfl) λh' e kp ⟨oe,he,ce⟩=>?_;refine ae<|l5 (T:="StopIteration") (b:=true) ⟨oe,he,ce⟩ yA ?_;exact ah<|hQ _ λb q nb hb=>kp b q<|(iO _ _ _ _ nb).trans hb
end
def HS (X:Cx):Prop:=∃x o u vs,X.A.handled=some (.ref x)/\X.H₀ x=some (.frz o u)/\o.data=.fields vs/\vs[2]? = some .none
theorem K1 {X:Cx}{π:Zl}{σ:L2.St}{H:Hp}{s:aS}(h:HS X)(I:Inv X π σ H s):Hdl X.A s.heap:=by
 obtain⟨x,o,u,vs,h1,h2,h3,h4⟩:=h;exact⟨x,o,vs,h1,(I.hok x _<|I.base.frzs x o u h2).1,h3,h4⟩
theorem Kf {P:bo}{w:dc}{K:bb}{tg:Expr}(a it:Addr):Turn HS P w K tg (Itl K a) [it] it (λi h=>h.IsListIter it a i) where
 mem:=by simp
 obj:=λi h st b hb=>by
  have e:b=it:=by simpa using hb
  subst e;obtain⟨o,e,c,d⟩:=st;exact⟨o,e,λv z=>by rw[d] at z;cases z⟩
 keep:=λi h h' st k=>st.at λo e=>k it (by simp) o e
 item:=by
  intro X hP hw hK hc i π s σ H E I hf st hg;subst hP hw hK;obtain⟨xs,x,hq,hx⟩:=hg;obtain⟨χ,rv,p,hz⟩:=I.list hq;obtain⟨u,hu,ru⟩:=rv.get hx;obtain⟨f0,f1,f2,f3,f4,f5⟩:=hf it (by simp);refine mB st p.isList (x:=u) (by simpa using hu) λh' st' sb=>?_;have I1:Inv X π σ H { s with heap:=h' }:=I.turned (t':=s.toks) (λb o hb e=>(sb.2 b hb).trans e) f0 f1 f3 f4 f5;obtain⟨o,e,c,d⟩:=id st';exact⟨u,rfl,DG (s:={ s with heap:=h' }) e c d (by decide) ⟨x,H,I1,ru,⟨rfl,λys hy=>by rw[I.Aj hy hq];exact hx⟩,st',λb hb=>(hf b hb).1⟩⟩
 done:=by
  intro X hP hw hK hc i π s σ H E I hf st hg;subst hP hw hK;obtain⟨xs,hq,hx⟩:=hg;obtain⟨χ,rv,p,hz⟩:=I.list hq;obtain⟨f0,f1,f2,f3,f4,f5⟩:=hf it (by simp);have hl:=rv.length;exact Es (K1 hc I) st p.isList (by simp;omega) λh' eb=>⟨rfl,I.turned (t':=s.toks) (λb o hb e=>eb b o hb e) f0 f1 f3 f4 f5⟩
 self:=λ_ _ _ _ _ st h=>nV st h
theorem IK {P:bo}{w:dc}{K:bb}{tg:Expr}(a it:Addr):Turn HS P w K tg (Itt K a) [it] it (λi h=>h.IsTupleIter it a i) where
 mem:=by simp
 obj:=λi h st b hb=>by
  have e:b=it:=by simpa using hb
  subst e;obtain⟨o,e,c,d⟩:=st;exact⟨o,e,λv z=>by rw[d] at z;cases z⟩
 keep:=λi h h' st k=>st.at λo e=>k it (by simp) o e
 item:=by
  intro X hP hw hK hc i π s σ H E I hf st hg;subst hP hw hK;obtain⟨xs,x,hq,hx⟩:=hg;obtain⟨χ,rv,p,hz⟩:=I.tuple hq;obtain⟨u,hu,ru⟩:=rv.get hx;obtain⟨f0,f1,f2,f3,f4,f5⟩:=hf it (by simp);refine wpAny_pyNext_tuple_item st (show s.heap.IsTuple a χ.toArray from p) (x:=u) (by simpa using hu) λh' st' sb=>?_;have I1:Inv X π σ H { s with heap:=h' }:=I.turned (t':=s.toks) (λb o hb e=>(sb.2 b hb).trans e) f0 f1 f3 f4 f5;obtain⟨o,e,c,d⟩:=id st';exact⟨u,rfl,DG (s:={ s with heap:=h' }) e c d (by decide) ⟨x,H,I1,ru,⟨rfl,λys hy=>by rw[I.Ey hy hq];exact hx⟩,st',λb hb=>(hf b hb).1⟩⟩
 done:=by
  intro X hP hw hK hc i π s σ H E I hf st hg;subst hP hw hK;obtain⟨xs,hq,hx⟩:=hg;obtain⟨χ,rv,p,hz⟩:=I.tuple hq;obtain⟨f0,f1,f2,f3,f4,f5⟩:=hf it (by simp);have hl:=rv.length;exact Ks (K1 hc I) st (show s.heap.IsTuple a χ.toArray from p) (by simp;omega) λh' eb=>⟨rfl,I.turned (t':=s.toks) (λb o hb e=>eb b o hb e) f0 f1 f3 f4 f5⟩
 self:=λ_ _ _ _ _ st h=>wpAny_pyIter_tupleiter st h
section
variable {X:Cx}{tg:Expr}
theorem Tv {l:Expr}{tl:TE}(hl:PE X l tl):PI HS X tg l (Yl X.K tl):=by
 intro π s σ H R I h;refine thn (hl π s σ H _ I h) λv s1 hE=>xq2 hE λx H1 I1 r1 q1=>?_;obtain⟨a,e,⟨xs,hq⟩,q⟩:=q1;subst e;cases r1;obtain⟨χ,rv,p,hz⟩:=I1.list hq;refine la p.isList ?_;refine⟨s1.heap.objs.size,[s1.heap.objs.size],_,_,H1,rfl,I1.kept (t':=s1.toks) λb o e=>af _ e,Kf a _,⟨_,a7 _ rfl,rfl,rfl⟩,λb hb=>?_,q⟩;have e:b=s1.heap.objs.size:=by simpa using hb
 subst e;exact I1.KH (aI _)<|I1.hok.fresh<|aI _
theorem Xy {l:Expr}{tl:TE}(hl:PE X l tl):PI HS X tg l (acj X.K tl):=by
 intro π s σ H R I h;refine thn (hl π s σ H _ I h) λv s1 hE=>xq2 hE λx H1 I1 r1 q1=>?_;obtain⟨a,e,⟨xs,hq⟩,q⟩:=q1;subst e;cases r1;obtain⟨χ,rv,p,hz⟩:=I1.tuple hq;refine wpAny_pyIter_tuple (show s1.heap.IsTuple a χ.toArray from p) ?_;refine⟨s1.heap.objs.size,[s1.heap.objs.size],_,_,H1,rfl,I1.kept (t':=s1.toks) λb o e=>af _ e,IK a _,⟨_,a7 _ rfl,rfl,rfl⟩,λb hb=>?_,q⟩;have e:b=s1.heap.objs.size:=by simpa using hb
 subst e;exact I1.KH (aI _)<|I1.hok.fresh<|aI _
theorem Ii {Cm:Cx->Prop}{e:Expr}{T T':TI}(h:PI Cm X tg e T)(k:∀σ H R,T' σ H R->T σ H R):PI Cm X tg e T':=λπ s σ H R I q=>h π s σ H R I<|k σ H R q
end
section
variable {X:Cx}{E:XK}{tg e:Expr}{f:Zae}
theorem Rz (h:FE X E e f):PI HS X tg e (tI (gx X) E<|eE f):=Ii (Tv h) λσ H R hE=>xq5 hE λO0 M0 H0 ow m Re q=>⟨O0,M0,H0,ow,m,Re,q.bind.imp (aN.refl _) λd q v H' g hv=>by
 cases d with
 |lst ds=>
  cases hv with
  |lst hl hd=>exact⟨_,rfl,⟨_,hl.sq⟩,q _ H' g<|NZ (Re.mono g).mutk hl hd⟩
 |_=>exact q.elim⟩
theorem XR (h:FE X E e f):PI HS X tg e (tI (gx X) E<|jQ f):=Ii (Xy h) λσ H R hE=>xq5 hE λO0 M0 H0 ow m Re q=>⟨O0,M0,H0,ow,m,Re,q.bind.imp (aN.refl _) λd q v H' g hv=>by
 cases d with
 |tup ds=>
  cases hv with
  |tup hl hd=>exact⟨_,rfl,⟨_,hl.sq⟩,q _ H' g<|Q5 (Re.mono g).mutk hl.sq hd⟩
 |_=>exact q.elim⟩
end
def A0 (A:dy):dy:={ A with handled:=none }
def jC (k:Nat)(A:dy):Prop:=gw k<|A0 A
theorem jC.depth {k:Nat}{A:dy}(r:jC k A):A.depth<yi:=(gw.depth (A:=A0 A) r)
theorem jC.deeper {k:Nat}{A:dy}(r:jC (k+1) A)(env:Env):jC k (A.deeper env):=(gw.deeper (A:=A0 A) r env)
theorem jC.mono {j k:Nat}{A:dy}(r:jC k A)(h:j<=k):jC j A:=gw.mono (A:=A0 A) r h
def cxH (CX:CXT)(P:bo)(w:dc)(K:bb)(mg:Zp)(base:Heap)(N:List Str)(qual:Str)(scope:rL)(f:Addr)(cd:av)(A:dy)(outer:List Env)(s:aS)(H:Hp)(E:XK):Cx:=
 { kW CX P w K mg base N qual scope f cd A outer s H E with calm:=false }
theorem HS.at {X:Cx}{π:Zl}{σ:L2.St}{H:Hp}{s:aS}(h:HS X)(I:Inv X π σ H s):Hn X.A H:=by
 obtain⟨x,o,u,vs,h1,h2,h3,h4⟩:=h;exact⟨x,o,u,vs,h1,I.base.frzs x o u h2,h3,h4⟩
structure zc (P:bo)(w:dc)(K:bb)(mg:Zp)(base:Heap)(CX:CXT)(k:Nat)(f:Addr)(fd:hG)(ps:List Str)(sp:Sp):Prop where
 len:∀vs H Q E,sp vs H Q E->vs.length=ps.length
 run:∀(A:dy) (outer:List Env) (s:aS) (H:Hp) (args:Args) (us:List av) (vs:List V) (Q:VK) (E:XK),jC k A->Hn A H->CZ P w K mg base A outer s H->AM s fd args (ps.zip us)->Vals vs us->sp vs H Q E->
  vF (b9 P w) A (.call (.ref f) args) (CR CX outer P w H s Q E) s
theorem JG {CX:CXT}{P:bo}{w:dc}{K:bb}{mg:Zp}{base:Heap}{N ps:List Str}{qual:Str}{scope:rL}{f:Addr}{cd:av}{A:dy}{outer:List Env}{s s1:aS}{H:Hp}{E:XK}{us:List av}{vs:List V}
  (S:aY N ps scope) (e0:CZ P w K mg base A outer s H) (hl:vs.length=ps.length) (r:Vals vs us)
  (x:InCallC s s.heap.objs.size (BF (rd qual scope s.heap.objs.size f cd).kindOf (ps.zip us) λ_=>none) (zS (s.heap.objs.size+1) scope.names []) (BG (rd qual scope s.heap.objs.size f cd).kindOf (ps.zip us) λ_=>none) s1):
  Inv (cxH CX P w K mg base N qual scope f cd A outer s H E) [] (L2.start N vs) H s1:=by
 have e1:CZ P w K mg base (A0 A) outer s H:=⟨e0.frames,e0.mod,e0.bs,e0.bsz,e0.rA,e0.frf,e0.hok,e0.bare⟩;have I:=Dn (CX:=CX) (qual:=qual) (f:=f) (cd:=cd) (E:=E) (A:=A0 A) S rfl e1 hl r x;have ok:=I.ok;exact⟨⟨ok.mod,ok.kind,ok.glob,ok.blt,ok.above,ok.inj,ok.has,ok.cab,λz=>(by cases(show false=true from z)),x6 e0.frames,ok.stk,ok.exf,ok.bs,ok.bsz,ok.noex,ok.exfs,ok.rA,ok.frf⟩,I.os,I.bare,I.base,I.loc,I.cell,I.free,I.freeC,I.pin,I.hok,I.len⟩
theorem aah {CX:CXT}{P:bo}{w:dc}{K:bb}{mg:Zp}{base:Heap}{k:Nat}{f:Addr}{name qual:Str}{params:Arguments}{body:List Stmt}{scope:rL}{dV kV doc pm cdv ct oc:av}{an od:Option Addr}
  {osl:Array (Option av)} {N ps:List Str} {sp:Sp} (lk:K.lookup f=some ⟨oc,od,.func<|tP name qual params body scope dV kV doc pm an cdv ct,osl⟩) (hcd:Ap K cdv qual=true) (S:aY N ps scope)
  (len:∀vs H Q E,sp vs H Q E->vs.length=ps.length)
  (hbody:∀(A:dy) (outer:List Env) (s:aS) (H:Hp) (vs:List V) (Q:VK) (E:XK),jC k (A.deeper<|rd qual scope s.heap.objs.size f cdv)->HS (cxH CX P w K mg base N qual scope f cdv A outer s H E)->sp vs H Q E->
   ∃t,PSs (cxH CX P w K mg base N qual scope f cdv A outer s H E) body t/\t { nx:=λ_ H'=>Q .non H',rt:=Q } (start N vs) H):
  zc P w K mg base CX (k+1) f (tP name qual params body scope dV kV doc pm an cdv ct) ps sp:=by
 refine⟨len,λA outer s H args us vs Q E hr hh e0 hb r hsp=>?_⟩;have hl:=len _ _ _ _ hsp;have KX:K.In s.heap:=e0.mod.kin.keeps λb o e=>(e0.bs b o e).1;have lim:s.heap.NoLimit:=e0.mod.nolimit.keeps λb o e=>(e0.bs b o e).1;have hkind:∀y∈ps.zip us,scope.names.lookup y.1=some .local\/(scope.names.lookup y.1=some .cell/\((zS (s.heap.objs.size+1) scope.names []).lookup y.1).isSome=true):=λ⟨n,v⟩ hy=>by
  rcases S.par n (pT hy).1 with q|q
  ·exact .inl q
  ·exact .inr ⟨q,tJ _ _ _<|.inl q⟩
 refine codeAny_call_function (jC.depth hr) (KX _ _ lk) rfl S.co S.gen rfl (W.codeRec_of KX hcd)<|hb _ _ _ _ ?_;refine qr S.kind hkind λenv he s1 x=>?_;subst he;refine⟨lim.keeps x.toInCall.keep,codeAny_func ?_⟩;obtain⟨t,ht,hq⟩:=hbody A outer s H vs Q E (jC.deeper hr _) hh hsp;have I:Inv (cxH CX P w K mg base N qual scope f cdv A outer s H E) [] (start N vs) H s1:=JG S e0 hl r x;refine fT (ht [] s1 (start N vs) H _ I hq) (λfl s' hs=>?_) λe s' hs=>hs;have fin:∀{σ':L2.St} {H':Hp} {v:V} {u:av},Inv (cxH CX P w K mg base N qual scope f cdv A outer s H E) [] σ' H' s'->RelV v u->Q v H'->CE outer P w H s Q u s':=
  λ{σ' H' v u} J rv q=>⟨v,H',J.os,J.bare,J.base,J.hok,rv,q⟩
 cases fl with
 |ret u=>
  obtain⟨v,σ',H',J,rv,q⟩:=hs;exact fin J rv q
 |next=>
  obtain⟨σ',H',J,q⟩:=hs;exact fin (v:=V.non) (u:=eM) J rfl q
 |brk=>
  obtain⟨_,_,_,q⟩:=hs;exact fq q
 |cont=>
  obtain⟨_,_,_,q⟩:=hs;exact fq q
section
variable {P:bo}{w:dc}{K:bb}{mg:Zp}{base:Heap}
theorem Us {x qual:Str}{st:Stmt}{f:Addr}{fd:hG}{N ps:List Str}{k:Nat}{sp:Sp}(F:Fun K x qual st f fd)(S:aY N ps (aD st))(len:∀vs H Q E,sp vs H Q E->vs.length=ps.length)
  (hbody:∀(cdv:av) (A:dy) (outer:List Env) (s:aS) (H:Hp) (vs:List V) (Q:VK) (E:XK),jC k (A.deeper<|rd qual (aD st) s.heap.objs.size f cdv)->HS (cxH (CX1 P w) P w K mg base N qual (aD st) f cdv A outer s H E)->sp vs H Q E->
   ∃t,PSs (cxH (CX1 P w) P w K mg base N qual (aD st) f cdv A outer s H E) (gW st) t/\t { nx:=λ_ H'=>Q .non H',rt:=Q } (L2.start N vs) H):zc P w K mg base (CX1 P w) (k+1) f fd ps sp:=by
 obtain⟨oc,od,kV,doc,pm,an,cdv,ct,osl,rfl,lk,hcd⟩:=F.ex;refine aah lk hcd S len λA outer s H vs Q E hr hh hsp=>?_;obtain⟨t,h,q⟩:=hbody cdv A outer s H vs Q E hr hh hsp;exact⟨t,h,q⟩
theorem Ie {x qual:Str}{st:Stmt}{f:Addr}{fd:hG}{N ps:List Str}{k:Nat}{g:Zab}(Fu:Fun K x qual st f fd)(S:aY N ps (aD st))
  (hbody:∀(cdv:av) (A:dy) (outer:List Env) (s:aS) (H:Hp) (E:XK),jC k (A.deeper<|rd qual (aD st) s.heap.objs.size f cdv)->HS (cxH (CX1 P w) P w K mg base N qual (aD st) f cdv A outer s H E)->
   FSs (cxH (CX1 P w) P w K mg base N qual (aD st) f cdv A outer s H E) E (gW st) g):zc P w K mg base (CX1 P w) (k+1) f fd ps (spF ⟨K,mg⟩<|bc N.length ps.length g):=by
 refine Us Fu S (λvs H Q E h=>?_) λcdv A outer s H vs Q E hr hh h=>?_
 ·obtain⟨O,ds,_,hd,q⟩:=h;rw[cu hd];unfold bc at q;exact(yN q).1
 ·obtain⟨O,ds,hm,hd,q⟩:=h;unfold bc at q;obtain⟨hn,q⟩:=yN q;refine⟨_,hbody cdv A outer s H E hr hh,O,λ_=>False,H,λ_=>none,_,Dk hm hd hn,?_⟩;have sm:∀{ow' σ' H' m'},gH (⟨K,mg⟩:Gx) O (λ_=>False) H ow' σ' H' m'->aN H H':=λR b o e=>R.keep b o e id;cases z:g (ds.map Sl.fz++br (N.length-ps.length) Sl.un) with
  |exc c=>rw[z] at q;exact λC H' e kp=>q C H' e λb o e=>kp b o e id
  |stuck=>rw[z] at q;exact q.elim
  |ok a=>
   obtain⟨fl,m'⟩:=a;rw[z] at q;cases fl with
   |bk=>exact q.elim
   |ct=>exact q.elim
   |nx=>exact λow' σ' H' R' _=>q _ H' (sm R') .non λz=>by cases z
   |rt fr d=>
    intro v ow' σ' H' R' _ hv hf;refine q v H' (sm R') (hv.cX λb z=>.inl<|.inl z) λz=>?_;rcases hf z with⟨p,e1,e2,e3⟩|t
    ·exact .inl ⟨p,e1,e2,e3.cX λb z=>.inl<|z.elim (λy=>.inl<|.inl y) .inr⟩
    ·exact .inr t
end
structure FnH (P:bo)(w:dc)(K:bb)(mg:Zp)(base:Heap)(k:Nat)(x:Str)(ps:List Str)(sp:Sp):Prop where
 ex:∃f fd,zc P w K mg base (CX1 P w) k f fd ps sp/\Binds K fd ps []/\lh K (.ref f)=true/\mg x=some (.ref f)
abbrev FFH (P:bo)(w:dc)(K:bb)(mg:Zp)(base:Heap)(k:Nat)(x:Str)(ps:List Str)(Φ:Zac):Prop:=FnH P w K mg base k x ps<|spF ⟨K,mg⟩ Φ
theorem DfH {P:bo}{w:dc}{K:bb}{mg:Zp}{base:Heap}{x:Str}{st:Stmt}{ps:List Str}{k:Nat}{sp:Sp}(D:Df K mg x st ps)
  (h:∀f fd,Fun K x x st f fd->zc P w K mg base (CX1 P w) k f fd ps sp):FnH P w K mg base k x ps sp:=by
 obtain⟨f,fd,F,b,m⟩:=D.ex;exact⟨f,fd,h f fd F,b,F.kp,m⟩
section
variable {X:Cx}{CX:CXT}{j k:Nat}{f:Addr}{fd:hG}{ps:List Str}{sp:Sp}{dvs:List V}{ds:List av}{E:XK}{x:Str}{p pos:Pos}{e:Expr}{es:List Expr}{t:TA}{Φ:Zac}{fs:Zad}
theorem N5 {π:Zl}{σ:L2.St}{H:Hp}{s:aS}{Q:VK}{us:List av}{vs:List V}(F:zc X.prog X.w X.K X.mg X.base CX k f fd ps sp)(hr:jC k X.A)(hh:Hn X.A H)(hb:Binds X.K fd ps ds)(hd:Vals dvs ds)(hx:Passes CX X E)
  (I:Inv X π σ H s) (r:Vals vs us) (h:sp (vs++dvs) H Q E):bg (b9 X.prog X.w) X.A (call (.ref f) us) (EP X π σ Q) X.xe s:=by
 have r2:Vals (vs++dvs) (us++ds):=r.append hd;have hl:(us++ds).length=ps.length:=by rw[← r2.length];exact F.len _ _ _ _ h
 refine xA<|nX (F.run X.A X.stack s H ⟨us,[]⟩ (us++ds) (vs++dvs) Q E hr hh I.env0 (hb s us I.kIn hl) r2 h) λr s' hq=>?_;cases r with
 |error e=>exact hx π σ H s e s' I hq
 |ok fl=>
  cases fl with
  |ret u=>exact I.after hq
  |next=>exact fq hq
  |brk=>exact fq hq
  |cont=>exact fq hq
theorem Um (Fo:zc X.prog X.w X.K X.mg X.base CX k f fd ps sp)(hr:jC k X.A)(hh:HS X)(hg:Gl X x)(hm:X.mg x=some (.ref f))(hk:lh X.K (.ref f)=true)(hb:Binds X.K fd ps ds)(hd:Vals dvs ds)(hx:Passes CX X E)
  (ha:PA X (e::es) t) (hdb:(x==("__debug__":Str))=false:=by decide) (he:ag (e::es) X.env=(false,eval e X.env)::ag es X.env:=by rfl) (ξ:(ia pos<|ag es X.env).any (·.1)=false:=by rfl):
  PE X (.Call (.Name x p) (e::es) [] pos) (Y0 sp dvs E t):=by
 intro π s σ H Q I h;refine gy<|pU I hg hm ?_ hdb;refine qV (h₀:=X.base) I.ok.mod.kin hk (thn (ha pos π s σ H _ I h) λus s1 hE=>xq2 hE λvs H1 I1 r q=>⟨I1.kIn,?_⟩) he ξ;exact N5 Fo hr (hh.at I1) hb hd hx I1 r q
theorem JW (Fh:FFH X.prog X.w X.K X.mg X.base k x ps Φ)(hr:jC j X.A)(hh:HS X)(hx:Passes (CX1 X.prog X.w) X E)(ha:FAE X E (e::es) fs)(hk:k<=j:=by decide)(hg:Gl X x:=by rfl)
  (hdb:(x==("__debug__":Str))=false:=by decide) (he:ag (e::es) X.env=(false,eval e X.env)::ag es X.env:=by rfl) (ξ:(ia pos<|ag es X.env).any (·.1)=false:=by rfl):
  FE X E (.Call (.Name x p) (e::es) [] pos) (fFn Φ fs):=by
 obtain⟨f,fd,G,b,kp,m⟩:=Fh.ex;refine bN (Um G (hr.mono hk) hh hg m kp b .nil hx ha hdb he ξ) λσ H Q hE=>xq5 hE λO0 M0 H0 ow m R q=>⟨O0,M0,H0,ow,m,R,q.bind.imp (aN.refl _) λds q vs H1 g1 hv=>?_⟩;show spF _ _ (vs++[]) _ _ _;rw[cE];exact⟨_,ds,(R.mono g1).mutk,hv,q.bind.imp g1 λr q v H' g2 hv' _=>q v H' (g1.trans g2) hv'⟩
end
section
variable {P:bo}{w:dc}{K:bb}{mg:Zp}{base:Heap}{N:List Str}{qual:Str}{scope:rL}{f:Addr}{cd:av}{A:dy}{outer:List Env}{s:aS}{H:Hp}{E:XK}
theorem BL:Passes (CX1 P w) (cxH (CX1 P w) P w K mg base N qual scope f cd A outer s H E) E:=by
 intro π σ H1 s1 e s' I h;obtain⟨ea,ob,us,B,H',F,hw⟩:=h;obtain rfl:=F.is;have nfr:∀b o,s.heap.get? b=some o->b∉frs outer->b∉frs (cxH (CX1 P w) P w K mg base N qual scope f cd A outer s H E).stack:=λb o q nb hb=>by
  rcases xO (L:=s.heap.objs.size) rfl hb with z|z
  ·exact absurd (aw q) (by rw[z];exact eT _)
  ·exact nb z
 have nx:∀b:Addr,b∉(cxH (CX1 P w) P w K mg base N qual scope f cd A outer s H E).ex:=λb z=>absurd (show b∈([]:List Addr) from z) (by simp);refine Il (B:=B) (l:=outer) (L:=s.heap.objs.size) I.ok.frames rfl F.fly λh2 x1 x2=>?_;refine⟨ea,ob,us,B,H',⟨rfl,F.os.trans I.os,F.bare,x1,F.ctx,λb o q n nb=>?_,λb o q hb=>?_,λb o q n=>?_,λb o q nb=>?_,λb xs q=>F.tups b xs<|I.base.tups b xs q,λb o u q=>F.frzs b o u<|I.base.frzs b o u q,λb ps q=>?_,F.hok,?_,F.nin⟩,hw⟩
 ·exact F.keep b o (I.base.keep b o q n nb<|nx b) (I.base.free b o q n<|nx b)<|nfr b o q nb
 ·obtain⟨sl,e1⟩:=I.base.slot b o q (I.ok.frf b hb) hb<|nx b;obtain⟨_,o',ho',hnf⟩:=I.ok.rA.mem hb;have eo:o=o':=bX<|q.symm.trans ho';obtain⟨sl1,e2⟩:=F.slot b _ e1<|Jo hb;obtain⟨sl2,e3⟩:=x2 b _ e2 λv z=>hnf v (by rw[← eo];exact z);exact⟨sl2,e3⟩
 ·obtain⟨o',e1⟩:=I.base.there b o q<|nx b;exact F.free b o' e1<|I.base.free b o q n<|nx b
 ·obtain⟨o',e1⟩:=I.base.there b o q<|nx b;exact F.there b o' e1<|nfr b o q nb
 ·obtain⟨m1,e1⟩:=I.base.tbls b ps q;obtain⟨m2,e2⟩:=F.tbls b _ e1;exact⟨m1++m2,by rw[e2,ml]⟩
 ·cases q:s.heap.get? ea with
  |none=>rfl
  |some o=>
   obtain⟨o',e1⟩:=I.base.there ea o q<|nx ea;rw[F.new] at e1;cases e1
end
section
variable {X:Cx}{CX:CXT}{i j k:Nat}{f:Addr}{fd:hG}{ps:List Str}{sp:Sp}{dvs:List V}{ds:List av}{E:XK}{x y:Str}{p pos pos' ρ:Pos}{e:Expr}{es:List Expr}{t:TA}{Φ:Zac}{fs:Zad}
theorem Sy (Fo:zc X.prog X.w X.K X.mg X.base CX k f fd ps sp)(hr:jC k X.A)(hg:Gl X x)(hm:X.mg x=some (.ref f))(hk:lh X.K (.ref f)=true)(hb:Binds X.K fd ps ds)(hd:Vals dvs ds)(hx:Passes CX X E)
  (ha:PA X (e::es) t) (hdb:(x==("__debug__":Str))=false:=by decide) (he:ag (e::es) X.env=(false,eval e X.env)::ag es X.env:=by rfl) (ξ:(ia pos<|ag es X.env).any (·.1)=false:=by rfl):
  PE X (.Call (.Name x p) (e::es) [] pos) (λσ H Q=>t σ H λvs H1=>Hn X.A H1/\sp (vs++dvs) H1 Q E):=by
 intro π s σ H Q I h;refine gy<|pU I hg hm ?_ hdb;refine qV (h₀:=X.base) I.ok.mod.kin hk (thn (ha pos π s σ H _ I h) λus s1 hE=>xq2 hE λvs H1 I1 r q=>⟨I1.kIn,?_⟩) he ξ;exact N5 Fo hr q.1 hb hd hx I1 r q.2
theorem Pq {A:dy}{H H':Hp}(h:Hn A H)(g:aN H H'):Hn A H':=let⟨x,o,u,vs,a,b,c⟩:=h;⟨x,o,u,vs,a,g _ _ b,c⟩
theorem Xm (Fh:FFH X.prog X.w X.K X.mg X.base k x ps Φ)(hr:jC j X.A)(hN:X.N.Nodup)(hi:X.N[i]? = some y)(hy:Loc X.env.scope y)(ha:FAE X E0 (e::es) fs)(hk:k<=j:=by decide)(hg:Gl X x:=by rfl)
  (hdb:(x==("__debug__":Str))=false:=by decide) (he:ag (e::es) X.env=(false,eval e X.env)::ag es X.env:=by rfl) (ξ:(ia ρ<|ag es X.env).any (·.1)=false:=by rfl)
  (hs:fR (.Call (.Name x p) (e::es) [] ρ) (some<|.Name y pos') pos.line X.env=pure false:=by rfl) (hf:X.fn y=true\/X.env.scope.names.lookup y=some .local:=by first|exact .inl rfl|exact .inr rfl|assumption):
  PSs X [.Assign [.Name y pos'] (.Call (.Name x p) (e::es) [] ρ) pos] (tSA X<|bj i<|fFn Φ fs):=by
 obtain⟨f,fd,G,b,kp,m⟩:=Fh.ex;have c:PE X (.Call (.Name x p) (e::es) [] ρ) (λσ H Q=>Hn X.A H/\tE (gx X) E0 (fFn Φ fs) σ H Q):=bN (Sy G (hr.mono hk) hg m kp b .nil (Ji) ha hdb he ξ) λσ H Q ⟨z,O0,M0,H0,ow,m,R,q⟩=>⟨O0,M0,H0,ow,m,R,q.bind.imp (aN.refl _) λds q vs H1 g1 hv=>⟨Pq z g1,by
  show spF _ _ (vs++[]) _ _ _;rw[cE];exact⟨_,ds,(R.mono g1).mutk,hv,q.bind.imp g1 λr q v H' g2 hv' _=>q v H' (g1.trans g2) hv'⟩⟩⟩
 exact Ab<|cU (Cr hN hi hy c hs hf) λW σ H ⟨z,h⟩=>⟨z,J4 h⟩
theorem aan {ea:Addr}(hr:gw k X.A):jC k (inh X ea).A:=⟨rfl,hr.dp,hr.un,hr.gd⟩
end
theorem Zh {k:Nat}{A:dy}(r:jC k A):A.units+64<pw:=gw.units (A:=A0 A) r
section
variable {prog:bo}{w:dc}{A:dy}{E:Zs}{s:aS}
theorem IV {x:Addr}{o:Obj}{vs:Array av}(hh:A.handled=some (.ref x))(hd:o.data=.fields vs)(h2:vs[2]? = some .none)(I ax:Addr)(hne:ax≠I)(hx:x≠I)(items:Array av):
  Walks prog w A I [I,ax,x] [I] items.size (λi v=>items[i]? = some v) (λi h=>h.IsListIter I ax i/\h.IsList ax items/\h.get? x=some o) where
 sub:=λb z=>by simp at z;simp[z]
 frame:=λ_ _ _ z k=>⟨z.1.at<|k I (by simp),z.2.1.at<|k ax (by simp),k x (by simp) _ z.2.2⟩
 item:=λi s Q E l z q=>mB z.1 z.2.1 (x:=items[i]) (by simp[l]) λh' t u=>
  q _ h' s.toks (by simp[l]) ⟨t,z.2.1.extBut u.extBut hne,u.extBut x o hx z.2.2⟩ λb ob n e=>u.extBut b ob (λy=>n<|by simp[y]) e
 done:=λs Q E z q=>Es ⟨x,o,vs,hh,z.2.2,hd,h2⟩ z.1 z.2.1 (by simp) λh' u=>q h' s.toks λb ob n e=>u b ob (λy=>n<|by simp[y]) e
 self:=λ_ _ _ _ z q=>nV z.1 q
theorem Ez:∀{bs:List Bool} {us:List av},Vals (bs.map V.bl) us->us=bs.map mS
 |[],_,.nil=>rfl
 |b::bs,_,.cons r t=>by cases r;rw[Ez t];rfl
theorem JQ {l:Addr}{bs:List Bool}{Q:Zs}(hH:Hdl A s.heap)(hl:s.heap.IsList l (bs.map mS).toArray)
  (q:∀h' tk t',(∀b o,s.heap.get? b=some o->h'.get? b=some o)->Q (.int (bs.map λb=>if b=true then(1:Int) else 0).sum t') { s with heap:=h',toks:=tk }):
  bg (b9 prog w) A (call (.builtin "sum") [.ref l]) Q E s:=by
 obtain⟨x,o,vs,hh,ho,hd,h2⟩:=hH;have ll:l<s.heap.objs.size:=let⟨_,e,_⟩:=hl;aw e
 have lx:=aw ho;refine call_sum_walkAnyB<|la hl ⟨_,_,_,_,_,_,_,λj=>(bs.map λb=>if b=true then(1:Int) else 0).getD j 0,rfl,(IV (A:=A.in1) hh hd h2 _ l (bp ll) (bp lx) (bs.map mS).toArray).toS,⟨⟨_,a7 _ rfl,rfl,rfl⟩,hl.push _,af _ ho⟩,λb hb=>?_,λi v hv=>?_,λs' t' mv=>?_⟩
 ·show b<(s.heap.push _).objs.size;rw[yn];simp only[bq,List.not_mem_nil,or_false] at hb;rcases hb with rfl|rfl|rfl
  ·exact ub _
  ·exact ko ll
  ·exact ko lx
 ·right;simp only[List.getElem?_toArray,cp,mM] at hv;obtain⟨b,hb,rfl⟩:=hv;exact⟨b,rfl,by simp[eS,hb]⟩
 ·have e:=preSum_getD (bs.map λb=>if b=true then(1:Int) else 0) bs.length;rw[kM<|by simp] at e;have e2:(bs.map mS).toArray.size=bs.length:=by simp
  rw[e2,e];obtain⟨k1,k2,k3,k4,k5⟩:=mv;obtain⟨h2,g2,d2,t2,o2⟩:=s';cases(show g2=_ from k2);cases(show o2=_ from k4);cases(show d2=_ from k3);exact q h2 t2 t' λb ob z=>k1 b ob (λy=>by simp only[bP] at y;subst y;exact absurd (aw z)<|eT _) (af _ z)
end
def HR:List D->Option D
 |[.lst ds]=>(pR ds).map λbs=>.int (bs.map λb=>if b=true then(1:Int) else 0).sum
 |_=>none
theorem JR {X:Cx}(hh:HS X):fX X (.builtin "sum") (rGC (gx X) HR):=by
 intro π s σ H xs us Q I r h;obtain⟨O,ds,d,m,hx,hr,q⟩:=h
 match ds,hr with
 |[.lst ds],hr=>
  obtain⟨bs,e1,rfl⟩:=omap hr;obtain⟨v,rfl,hv⟩:=tu hx;obtain⟨p,xs,rfl,hp,hd⟩:=iw hv;cases xH hd e1;obtain⟨u,rfl,rx⟩:=vals1 r;cases rx;obtain⟨χ,r',pl,hz⟩:=I.list hp;cases Ez r';exact JQ (K1 hh I) pl.isList λh' tk t' kp=>⟨.int _,H,I.kept kp,⟨t',rfl⟩,q _ _ (aN.refl _)<|.int _⟩
end F
namespace Hd
open PySem PySem.Spec PyProof.Rows L2
def DR (K:bb)(C fI:Addr)(bmB:List av)(newId:String):Bool:=match K.lookup C with
 |some ⟨.type "type",_,.cls cd,sl⟩=>(match cd.mro,sl.toList with
  | .ref D::bm,[_,_,_,_,some<|.builtin n,_]=>D==C&&n==newId&&!cd.hasDel&&cd.hasDict&&W.tailIn K bmB bm&&W.nsOkIn K cd.ns&&oo K cd.ns "__init__"==some (some<|.ref fI)
  |_,_=>false)
 |_=>false
theorem VM {K:bb}{h:Heap}{N:Addr}{mg:Zp}{n:Str}{v:av}(X:K.In h)(G:h.Ns N mg)(e:oo K N n=some (some v)):mg n=some v:=by
 obtain⟨o,es,ep,ho,hd,_,hf⟩:=G;unfold oo at e;split at e
 case h_1 q=>
  cases ho.symm.trans (X _ _ q);cases hd;split at e
  case h_1 he=>
   cases e;rw[← hf];unfold nsFind findBy;rw[← zI,he];rfl
  case h_2=>split at e<;>cases e
 case h_2=>cases e
theorem Nu {K:bb}{h:Heap}{C fI:Addr}{bmB:List av}{newId:String}(X:K.In h)(q:DR K C fI bmB newId=true):
  ∃bm N nm qn bs sn sub ab col dd k0 k1 k2 k3 k5 mN,h.get? C=some (y7 nm qn C N bs bm true sn sub ab col dd k0 k1 k2 k3 k5 newId)/\h.Ns N mN/\mN "__init__" = some (.ref fI)/\OwnTail h bmB bm:=by
 unfold DR at q;split at q
 case h_2=>cases q
 case h_1 dd cd sl ho=>
  split at q
  case h_2=>cases q
  case h_1 C' bm k0 k1 k2 k3 n k5 hm hs=>
   simp only[beq_iff_eq,gL,Bool.not_eq_true'] at q;obtain⟨⟨⟨⟨⟨⟨z1,z2⟩,hdel⟩,hdc⟩,ht⟩,hok⟩,hni⟩:=q;subst z1 z2;obtain⟨nm,bs,mro,ns,qn,hd,sn,sub,ab,col,del⟩:=cd;cases(show mro=.ref C'::bm from hm);cases(show del=false from hdel);cases(show hd=true from hdc);obtain⟨l⟩:=sl;cases(show l=[k0,k1,k2,k3,some<|.builtin n,k5] from hs);exact⟨bm,ns,nm,qn,bs,sn,sub,ab,col,dd,k0,k1,k2,k3,k5,_,X _ _ ho,.of_isNs<|AZ X hok,VM X (.of_isNs<|AZ X hok) hni,W.tail_of_in X ht⟩
section
variable {prog:bo}{w:dc}{A:dy}{E:Zs}{h:Heap}{g:Array nL}{d:Drawn}{t:Nat}{os:OsState}
variable {nm q:Str}{C N fI:Addr}{bs bm bmB:List av}{hdct:Bool}{sn:List Str}{sub:List av}{ab:Bool}{col:Option Bool}{dd:Option Addr}{k0 k1 k2 k3 k5:Option av}{B newId initId:String}
def HX (C t:Addr):Obj:={ cls:=.ref C,data:=.fields #[.ref t,.none,.none,.none,.bool false,.none] }
def xr (h:Heap)(C:Addr)(vs:List av):Heap:=(h.push { cls:=.type "tuple",data:=.seq vs.toArray }).push<|HX C h.objs.size
theorem HF {vs:List av}{b:Addr}{o:Obj}(z:h.get? b=some o):(xr h C vs).get? b=some o:=af _<|af _ z
theorem HH {vs:List av}:(xr h C vs).get? (h.objs.size+1)=some (HX C h.objs.size):=by unfold xr HX;heap_get
theorem aa9 (F:wq B newId initId bmB)(T:OwnTail h bmB bm){mN:Zp}{vs:List av}{oI:Obj}{Q:Fin->aS->Prop}
  (hC:h.get? C=some (y7 nm q C N bs bm hdct sn sub ab col dd k0 k1 k2 k3 k5 newId)) (hn:h.Ns N mN) (hi:mN "__init__" = some (.ref fI)) (hf:h.get? fI=some oI) (hfc:oI.cls=.type "function")
  (k:bg (b9 prog w) A (call (.ref fI) (.ref (h.objs.size+1)::vs)) (λr s'=>r=.none/\Q (.done<|.ret<|.ref<|h.objs.size+1) s') E ⟨xr h C vs,g,d,t,os⟩) (hz:vs.length<=ay:=by size_fits):
  bg (b9 prog w) A (sT.«type.__call__» ⟨.ref C::vs,[]⟩) Q E ⟨h,g,d,t,os⟩:=by
 repeat (first|with_reducible refine eI hC ?_|with_reducible refine wpAny_madeBy_exc hC ?_|wp_step)
 refine codeAny_call_builtin_code (rg _ F.quiet)<|wpAny_check_new_subT F T hC<|codeAny_exc_new_subT F T hC ?_ hz;show bg _ _ _ _ _ _;show bg _ _ _ _ _ ⟨xr h C vs,_,_,_,_⟩;have kp:∀b o,h.get? b=some o->(xr h C vs).get? b=some o:=λb o z=>HF z;have hg:(xr h C vs).get? (h.objs.size+1)=some (HX C h.objs.size):=HH;have c0:(HX C h.objs.size).cls=.ref C:=rfl;have cC:(bE C::bm).contains (.ref C)=true:=by simp
 unfold AK
 repeat (first|(with_reducible refine eI hg ?_;rw[c0])|(with_reducible refine wpAny_isSubtype_exc (kp _ _ hC) ?_;rw[cC])|wp_step)
 show bg _ _ (xB (.ref C) _) _ _ _;refine wpAny_typeLookup_tail (kp _ _ hC) (hn.keeps kp) (T.keeps kp) F.mroIs F.init.lookup ?_;rw[hi];refine gX<|ae ?_;unfold bindSpecial;refine ae<|mf (T:="function") ⟨_,kp _ _ hf,hfc⟩ ?_;rw[if_pos<|by decide];refine ah<|ae<|fT k (λr s' z=>?_) λ_ _ z=>z;obtain⟨rfl,z⟩:=z
 wp_walk
 exact z
theorem TF (F:wq B newId initId bmB)(T:OwnTail h bmB bm){mN:Zp}{vs:List av}{oI:Obj}{Q:Zs}
  (hC:h.get? C=some (y7 nm q C N bs bm hdct sn sub ab col dd k0 k1 k2 k3 k5 newId)) (hn:h.Ns N mN) (hi:mN "__init__" = some (.ref fI)) (hf:h.get? fI=some oI) (hfc:oI.cls=.type "function")
  (k:bg (b9 prog w) (A.under<|.builtin "type.__call__" ⟨.ref C::vs,[]⟩) (call (.ref fI) (.ref (h.objs.size+1)::vs)) (λr s'=>r=.none/\Q (.ref<|h.objs.size+1) s') E ⟨xr h C vs,g,d,t,os⟩) (hz:vs.length<=ay:=by size_fits):
  bg (b9 prog w) A (call (.ref C) vs) Q E ⟨h,g,d,t,os⟩:=by
 have f1:=tc_lookup;have f2:=tc_bind<|.ref C;have hT:(⟨h,g,d,t,os⟩:aS).TypeIs (.ref C) "type":=⟨_,hC,rfl⟩;refine xA<|codeAny_of_tree ?_;show bg _ _ (callAny (.ref C) _) _ _ _
 repeat (any_goals (first|assumption|with_reducible refine eI hC ?_|wp_step))
 exact⟨rfl,codeAny_call_builtin_at (rg _<|by decide +kernel) entry_typeCall<|wpAny_check_type_call_sub hC<|aa9 (hz:=hz) F T hC hn hi hf hfc k⟩
end
def Dz:List av->Bool
 | .ref _::r=>Dz r
 |l=>l==[.type "ValueError",.type "Exception",.type "BaseException",.type "object"]
theorem Px (self:av):∀{l:List av},Dz l=true->refuseLoop self "__setattr__" l=pure ():=by
 intro l;induction l with
 |nil=>intro e;cases e
 |cons v r ih=>
  intro e;cases v with
  |ref a=>rw[refuseLoop_ref];exact ih e
  |_=>rw[beq_iff_eq.mp<|show((_::r:List av)==[.type "ValueError",.type "Exception",.type "BaseException",.type "object"])=true from e];exact PySem.F.store_ValueError.passes self
structure XF (K:bb)(C:Addr):Prop where
 xc:XC K C
 sa:cx K (.ref C) "__setattr__" = some (some (.builtin "object.__setattr__"))
 ov:(rV K C).any (λcd=>Dz cd.mro)=true
 hd:pE K C=true
section
variable {prog:bo}{w:dc}{A:dy}{E:Zs}{s:aS}{x C:Addr}{ox:Obj}{od:Option Obj}{K:bb}{f:Str}{v:av}{Q:Unit->aS->Prop}
theorem Mu (X:K.In s.heap)(Z:XF K C)(I:W.InstAt s.heap x ox C od)(hn:cx K (.ref C) f=some none)
  (h:bg (b9 prog w) A.in1 (Builtin.ObjectAttr.storeInOwnDict (.ref x) (.ref C) (.str f s.toks) f v false) (λfin s'=>match fin with|.done (.ret _)=>Q () s'|_=>False) (λe s'=>E e s') { s with toks:=s.toks+1 }):
  bg (b9 prog w) A (setAttr (.ref x) f v) Q E s:=by
 refine W.set_plain X I Z.sa ?_;have SF:=PySem.F.store_object;have sub:W.Looks (b9 prog w) s.heap (AK (.ref x)<|.type "object") true:=I.type.andThen<|sR X Z.xc.ob;refine ly SF.slot.plain SF.entry<|@W.check_slot (b9 prog w) _ _ { s with toks:=s.toks+1 } "object.__setattr__" "object" "__setattr__" (.ref x) [.str f s.toks,v] [] _ SF.kind SF.split sub (SF.args (.ref x) (.str f s.toks) v) ?_;obtain⟨cd,hc,ho⟩:=nE Z.ov;have hm:W.Looks (b9 prog w) s.heap (mroOf<|.ref C) cd.mro:=(tz X hc).andThen .now;rw[W.osa_eq,refuse_eq];refine ae<|ae<|oq (s:={ s with toks:=s.toks+1 }) I.type (ae<|oq (s:={ s with toks:=s.toks+1 }) hm ?_);rw[Px _ ho];refine ah<|ae<|oq (s:={ s with toks:=s.toks+1 }) I.type (ae<|oq (s:={ s with toks:=s.toks+1 }) (kL X hn) ?_);refine ae<|ah<|fT h (λfin s' z=>?_) λ_ _ z=>z;rcases fin with(u|_|_|_)|c<;>first|exact z|exact z.elim
theorem Zw (X:K.In s.heap)(Z:XF K C)(hx:s.heap.get? x=some ox)(hc:ox.cls=.ref C)(hf:∃vs,ox.data=.fields vs)(hd:ox.dict=none)(hn:cx K (.ref C) f=some none)
  (q:∀h' t,h'.get? x=some { ox with dict:=some s.heap.objs.size }->h'.Ns1 s.heap.objs.size (λy=>if y=f then some v else none)->(∀b o,b≠x->s.heap.get? b=some o->h'.get? b=some o)->Q () { s with heap:=h',toks:=t }):
  bg (b9 prog w) A (setAttr (.ref x) f v) Q E s:=by
 obtain⟨us,hu⟩:=hf;obtain⟨oc,odi,oda,osl⟩:=ox;cases(show oc=.ref C from hc);cases(show odi=none from hd);cases(show oda=.fields us from hu);refine Mu (od:=none) X Z ⟨hx,rfl,rfl,trivial⟩ hn ?_;obtain⟨cd,hcd,hdd⟩:=nE Z.hd;refine ae<|ah<|ae<|ae<|yk hx<|ae<|oq (s:={ s with toks:=s.toks+1 }) (tz X hcd) ?_;rw[hdd];have hx1:=af (h:=s.heap) { cls:=.type "dict",data:=.dict #[] } hx;have ne:x≠s.heap.objs.size:=bp<|aw hx;refine ae<|wpAny_alloc'<|ae<|wpAny_update' hx1<|ah<|ae<|ah<|ae ?_;have hg:((s.heap.push { cls:=.type "dict",data:=.dict #[] }).update x λo=>{ o with dict:=some s.heap.objs.size }).get? s.heap.objs.size=some { cls:=.type "dict",data:=.dict #[] }:=(iO _ _ _ _ ne.symm).trans<|Heap.get?_push_at rfl rfl;refine wpAny_nsSet1 (Heap.Ns1.of_empty ⟨_,#[],_,hg,rfl,λe z=>absurd z (by simp),λ_=>rfl⟩) λh' hn' hs=>?_;obtain⟨oD,esD,epD,hoD,hdD,hcD⟩:=hn'.count<|Within.cons f v Within.nil;refine ae<|wpAny_lookBehind hoD (by rw[hdD];exact pastItsLine_dict<|cy hcD (by rw[c8,List.length_nil,sF];omega))<|ah<|q h' _ ?_ hn' λb o nb z=>?_
 ·exact(hs.2 x ne).trans (dP _ hx1 rfl)
 ·exact(hs.2 b<|bp<|aw z).trans ((iO _ _ _ _ nb).trans<|af _ z)
theorem XJ {dx:Addr}{mA:Zp}{ns:List Str}(X:K.In s.heap)(Z:XF K C)(hx:s.heap.get? x=some ox)(hc:ox.cls=.ref C)(hf:∃vs,ox.data=.fields vs)(hd:ox.dict=some dx)(hm:s.heap.Ns1 dx mA)(hw:Within mA ns)(hz:ns.length<=ay)(hn:cx K (.ref C) f=some none)
  (q:∀h' t,h'.Ns1 dx (λy=>if y=f then some v else mA y)->iS dx s.heap h'->Q () { s with heap:=h',toks:=t }):
  bg (b9 prog w) A (setAttr (.ref x) f v) Q E s:=by
 obtain⟨us,hu⟩:=hf;obtain⟨oc,odi,oda,osl⟩:=ox;cases(show oc=.ref C from hc);cases(show odi=some dx from hd);cases(show oda=.fields us from hu);obtain⟨o',_,_,ho',_⟩:=id hm;refine Mu (od:=some o') X Z ⟨hx,rfl,rfl,ho'⟩ hn ?_;obtain⟨cd,hcd,hdd⟩:=nE Z.hd;refine ae<|ah<|ae<|ae<|yk hx<|ae<|oq (s:={ s with toks:=s.toks+1 }) (tz X hcd) ?_;rw[hdd];refine ah (a:=some dx)<|ae<|ah<|ae<|wpAny_nsSet1 hm λh' hn' hs=>?_;obtain⟨oD,esD,epD,hoD,hdD,hcD⟩:=hn'.count<|Within.cons f v hw;exact ae<|wpAny_lookBehind hoD (by rw[hdD];exact pastItsLine_dict<|cy hcD (by rw[c8];omega))<|ah<|q h' _ hn' hs
end
section
variable {prog:bo}{w:dc}{A:dy}{E:Zs}{h:Heap}{g:Array nL}{d:Drawn}{t:Nat}{os:OsState}{a C dx:Addr}{o:Obj}{K:bb}{f:Str}{v:av}{mA:Zp}
theorem Tu {tk:Tok}{Q:Fin->aS->Prop}(X:K.In h)(Z:XF K C)(hx:h.get? a=some o)(hc:o.cls=.ref C)(hf:∃us,o.data=.fields us)(hd:o.dict=some dx)(hm:h.Ns1 dx mA)(hv:mA f=some v)(hn:cx K (.ref C) f=some none)(hq:Q (.done<|.ret v) ⟨h,g,d,t,os⟩):
  bg (b9 prog w) A (sT.«object.__getattribute__» ⟨[.ref a,.str f tk],[]⟩) Q E ⟨h,g,d,t,os⟩:=by
 have L4:=kL (M:=b9 prog w) X hn;obtain⟨cd,hcd,hdd⟩:=nE Z.hd;have L5:=tz (M:=b9 prog w) X hcd;obtain⟨us,hf⟩:=hf;obtain⟨oc,odi,oda,osl⟩:=o;cases(show oc=.ref C from hc);cases(show odi=some dx from hd);cases(show oda=.fields us from hf)
 repeat (any_goals (first|assumption|with_reducible refine eI hx ?_|with_reducible refine L4.at ?_|with_reducible refine L5.at ?_|(with_reducible refine wpAny_nsGet hm.ns ?_;rw[hv])|wp_step))
theorem acb {tk:Tok}{Q:Zs}{b1 b2:Bool}(X:K.In h)(Z:XF K C)(hx:h.get? a=some o)(hc:o.cls=.ref C)(hf:∃us,o.data=.fields us)(hd:o.dict=some dx)(hm:h.Ns1 dx mA)(hv:mA f=some v)(hn:cx K (.ref C) f=some none)(hb:∀id,v≠.builtin id)(hq:Q v ⟨h,g,d,t,os⟩):
  bg (b9 prog w) A (getAttrBy (.ref a) (.str f tk) b1 b2) Q E ⟨h,g,d,t,os⟩:=by
 have f3:=lI.ga.bind<|.ref a;have L1:=kL (M:=b9 prog w) X Z.xc.ga;have L2:=kL (M:=b9 prog w) X Z.xc.no;have n1:(ip "BaseException.__getattribute__"==ip "object.__getattribute__")=false:=by decide +kernel
 have n2:(onTheHeap (bE C)&&ip "BaseException.__getattribute__"==ip "object.__getattribute__")=false:=by rw[n1];rfl
 have n3:(b2&&onTheHeap (ip "BaseException.__getattribute__"))=false:=by cases b2<;>rfl
 repeat (any_goals (first|assumption|(with_reducible refine eI hx ?_;rw[hc])|with_reducible refine L1.at ?_|with_reducible refine L2.at ?_|wp_step))
 all_goals try refine ly lI.ga.plain F.entry_bexc_ga (IW X Z.xc hx hc<|Tu X Z hx hc hf hd hm hv hn ?_)
 all_goals repeat (any_goals (first|assumption|wp_step))
 cases v<;>first|exact ah hq|exact absurd rfl (hb _)
theorem Yd {Q:Zs}{b:Bool}(X:K.In h)(Z:XF K C)(hx:h.get? a=some o)(hc:o.cls=.ref C)(hf:∃us,o.data=.fields us)(hd:o.dict=some dx)(hm:h.Ns1 dx mA)(hv:mA f=some v)(hn:cx K (.ref C) f=some none)(hb:∀id,v≠.builtin id)(hq:Q v ⟨h,g,d,t+1,os⟩):
  bg (b9 prog w) A (getAttr (.ref a) f b) Q E ⟨h,g,d,t,os⟩:=by
 unfold getAttr
 repeat (any_goals (first|assumption|with_reducible apply acb X Z hx hc hf hd hm hv hn hb|wp_step))
end
def Raw (e:Addr)(ob:Obj)(h:Heap):Prop:=h.get? e=some ob
def Xd (dx:Addr)(fs:List (Str×V))(h:Heap):Prop:=∃mA,h.Ns1 dx mA/\(∀f,vP (fs.lookup f)<|mA f)/\Within mA (fs.map (·.1))
section
variable {P:bo}{w:dc}{H:Hp}{h:Heap}{e dx:Addr}{ob:Obj}{fs:List (Str×V)}
theorem TY (z:Raw e ob h):cG P w H h e (.ext<|Raw e ob):=⟨z,⟨_,z⟩,λ_ _ a k=>k _ a⟩
theorem YK (z:Xd dx fs h):cG P w H h dx (.ext<|Xd dx fs):=⟨z,let⟨_,⟨o,_,_,e,_⟩,_⟩:=z;⟨o,e⟩,λ_ _ ⟨mA,a,b⟩ k=>⟨mA,a.at k,b⟩⟩
end
section
variable {X:Cx}{π:Zl}{σ:St}{H:Hp}{s:aS}{e dx C fI:Addr}{ob:Obj}{fs:List (Str×V)}{φ:Heap->Prop}{f:Str}{v:V}{u:av}{A:dy}{E:Zs}{Q:Unit->aS->Prop}
theorem xN {o o':HO}{a b:Addr}(n:a≠b):upd (upd H a o) b o'=upd (upd H b o') a o:=by
 funext c;unfold upd;by_cases h1:c=a<;>by_cases h2:c=b<;>simp[h1,h2]
 ·exact absurd (h1.symm.trans h2) n
 ·intro z;exact absurd z n
 ·intro z;exact absurd z.symm n
theorem N7 (I:Inv X π σ H s)(he:H e=some (.ext<|Raw e ob)):s.heap.get? e=some ob:=(show cG X.prog X.w H s.heap e (.ext<|Raw e ob) from I.hok e _ he).1
theorem Xq (I:Inv X π σ H s)(he:H e=some (.ext<|Raw e ob))(hc:ob.cls=.ref C)(hf:∃us,ob.data=.fields us)(hd:ob.dict=none)(Z:XF X.K C)(n:cx X.K (.ref C) f=some none)(r:RelV v u)
  (q:∀dx s',H dx=none->dx≠e->Inv X π σ (upd (upd H dx<|.ext<|Xd dx [(f,v)]) e<|.ext<|Raw e { ob with dict:=some dx }) s'->Q () s'):bg (b9 X.prog X.w) A (setAttr (.ref e) f u) Q E s:=by
 have hx:=N7 I he;have hn:H s.heap.objs.size=none:=I.hok.fresh<|aI _;have ne:s.heap.objs.size≠e:=nN<|aw hx;refine Zw I.kIn Z hx hc hf hd n λh' t h1 h2 h3=>q s.heap.objs.size _ hn ne<|I.un (((Un.laid (o:=.ext<|Xd s.heap.objs.size [(f,v)]) (λ_ _ z=>z) (aI _) hn)).trans<|Un.write (x:=e) (e:=e) (by rw[bD ne.symm,he];trivial) (.inl rfl) h3 ⟨_,h1⟩) λb o z=>?_;by_cases hb:b=e
 ·subst hb;rw[bu] at z;cases z;exact TY h1
 ·rw[bD hb] at z;by_cases hd:b=s.heap.objs.size
  ·subst hd;rw[bu] at z;cases z;refine YK ⟨_,h2,λg=>?_,λg hg=>?_⟩
   ·show vP (hZ g [(f,v)]) (if g=f then some u else none);by_cases hg:g=f
    ·rw[hg,if_pos rfl];simp only[hZ,beq_self_eq_true];exact r
    ·rw[if_neg hg];have:(g==f)=false:=by simp[hg]
     simp[hZ,this,vP]
   ·by_cases hg':g=f
    ·simp[hg']
    ·exact absurd (if_neg hg') hg
  ·rw[bD hd] at z;refine(I.hok b o z).stay (λc ob hc y=>h3 c ob ?_ y) (λc y=>?_) λc xs y=>?_
   ·rcases hc with hc|hc
    ·rw[hc];exact hb
    ·intro w';rw[w',he] at hc;cases hc
   ·rw[bD (λw'=>by rw[w',he] at y;cases y),bD (λw'=>by rw[w',hn] at y;cases y)];exact y
   ·rw[bD (λw'=>by rw[w',he] at y;cases y),bD (λw'=>by rw[w',hn] at y;cases y)];exact y
theorem aa3 (I:Inv X π σ H s)(he:H e=some (.ext<|Raw e ob))(hc:ob.cls=.ref C)(hf:∃us,ob.data=.fields us)(hd:ob.dict=some dx)(hx:H dx=some (.ext<|Xd dx fs))(hz:fs.length<=100)(nf:fs.lookup f=none)(Z:XF X.K C)(n:cx X.K (.ref C) f=some none)(r:RelV v u)
  (q:∀s',Inv X π σ (upd H dx<|.ext<|Xd dx<|fs++[(f,v)]) s'->Q () s'):bg (b9 X.prog X.w) A (setAttr (.ref e) f u) Q E s:=by
 obtain⟨mA,h1,h2,h3⟩:=(show cG X.prog X.w H s.heap dx (.ext<|Xd dx fs) from I.hok dx _ hx).1;refine XJ I.kIn Z (N7 I he) hc hf hd h1 h3 (by rw[dE,sF];omega) n λh' t k1 k2=>q _<|I.write (x:=dx) (e:=dx) (by rw[hx];trivial) (.inl rfl) (λb o hb z=>(k2.2 b hb).trans z) (let⟨o,_,_,e,_⟩:=k1;⟨o,e⟩)<|YK ⟨_,k1,λg=>?_,λg hg=>?_⟩
 ·show vP (hZ g<|fs++[(f,v)]) (if g=f then some u else mA g);rw[List.lookup_append];by_cases hg:g=f
  ·rw[hg,if_pos rfl,nf];simp only[hZ,beq_self_eq_true,Option.none_or];exact r
  ·rw[if_neg hg];have:(g==f)=false:=by simp[hg]
   have e1:hZ g [(f,v)]=none:=by simp[hZ,this]
   rw[e1,Option.or_none];exact h2 g
 ·rw[dQ,cS];by_cases hg':g=f
  ·exact .inr<|by simp[hg']
  ·exact .inl<|h3 g λz=>hg<|(if_neg hg').trans z
end
def Qp (C:Addr)(ns:List Str):Sp:=λvs H Q _=>∃e ob args,vs=.ref e::args/\args.length=ns.length/\H e=some (.ext<|Raw e ob)/\ob.cls=.ref C/\(∃us,ob.data=.fields us)/\ob.dict=none/\
 ∀dx,H dx=none->dx≠e->Q .non (upd (upd H dx<|.ext<|Xd dx<|ns.zip args) e<|.ext<|Raw e { ob with dict:=some dx })
section
variable {X:Cx}{o value:Expr}{f:Str}{pos pos':Pos}{ta tv:TE}
theorem Oq (ha:PE X o ta)(hv:PE X value tv)(hs:fR value (some<|.Attribute o f pos') pos.line X.env=pure false:=by rfl):
  PS X (.Assign [.Attribute o f pos'] value pos) (λD σ H=>tv σ H λy H1=>ta σ H1 λx H2=>∃e C ob,x=.ref e/\H2 e=some (.ext<|Raw e ob)/\ob.cls=.ref C/\(∃us,ob.data=.fields us)/\ob.dict=none/\XF X.K C/\cx X.K (.ref C) f=some none/\
   ∀dx,H2 dx=none->dx≠e->D.nx σ (upd (upd H2 dx<|.ext<|Xd dx [(f,y)]) e<|.ext<|Raw e { ob with dict:=some dx })):=by
 intro π s σ H D I h;refine nI (thn (hv π s σ H _ I h) λu s1 hE=>xq2 hE λy H1 I1 ry q=>thn (ha π s1 σ H1 _ I1 q) λov s2 ⟨x,H2,I2,rx,e,C,ob,ex,he,hc,hf,hd,Z,n,q2⟩=>?_) hs;subst ex;obtain rfl:ov=bE e:=rx;exact Xq I2 he hc hf hd Z n ry λdx s' a b I3=>⟨σ,_,I3,q2 dx a b⟩
theorem Vd (ha:PE X o ta)(hv:PE X value tv)(hs:fR value (some<|.Attribute o f pos') pos.line X.env=pure false:=by rfl):
  PS X (.Assign [.Attribute o f pos'] value pos) (λD σ H=>tv σ H λy H1=>ta σ H1 λx H2=>∃e C ob dx fs,x=.ref e/\H2 e=some (.ext<|Raw e ob)/\ob.cls=.ref C/\(∃us,ob.data=.fields us)/\ob.dict=some dx/\H2 dx=some (.ext<|Xd dx fs)/\fs.length<=100/\fs.lookup f=none/\XF X.K C/\cx X.K (.ref C) f=some none/\
   D.nx σ (upd H2 dx<|.ext<|Xd dx<|fs++[(f,y)])):=by
 intro π s σ H D I h;refine nI (thn (hv π s σ H _ I h) λu s1 hE=>xq2 hE λy H1 I1 ry q=>thn (ha π s1 σ H1 _ I1 q) λov s2 ⟨x,H2,I2,rx,e,C,ob,dx,fs,ex,he,hc,hf,hd,hx,hz,nf,Z,n,q2⟩=>?_) hs;subst ex;obtain rfl:ov=bE e:=rx;exact aa3 I2 he hc hf hd hx hz nf Z n ry λs' I3=>⟨σ,_,I3,q2⟩
end
section
variable {P:bo}{w:dc}{K:bb}{mg:Zp}{base:Heap}{q a b:Str}{st:Stmt}{f C:Addr}{fd:hG}{p1 p2 p3 p4 p5 p6 p7 p8:Pos}
theorem abv (F:Fun K "__init__" q st f fd)(Z:XF K C)(n:cx K (.ref C) a=some none)(S:aY ["self",a] ["self",a] (aD st))(hb:gW st=[.Assign [.Attribute (.Name "self" p1) a p2] (.Name a p3) p4])
  (vs:Vis (aD st) "self":=by first|exact d4 rfl|exact fA (d4 rfl)|exact fA (fA rfl)) (va:Vis (aD st) a:=by first|exact d4 rfl|exact fA (d4 rfl)|exact fA (fA rfl)) (hd:(a==("__debug__":Str))=false:=by decide) (hc:(a==("__classdict__":Str))=false:=by decide):
  oG P w K mg base (CX1 P w) 1 f fd ["self",a] (Qp C [a]):=by
 refine GP F S (λvs H Q E ⟨e,ob,args,z,l,_⟩=>by rw[z,c8,l];rfl) λcdv A outer s H vs Q E hr ⟨e,ob,args,z,l,he,hcl,hf,hdn,k⟩=>?_
 match args,l with
 |[x],_=>
  subst z;rw[hb];exact⟨_,Ab<|Oq (je (i:=0) rfl vs) (je (i:=1) rfl va hd hc) (by rfl),x,rfl,.ref e,rfl,e,C,ob,rfl,he,hcl,hf,hdn,Z,n,k⟩
theorem YD (F:Fun K "__init__" q st f fd)(Z:XF K C)(n:cx K (.ref C) a=some none)(n2:cx K (.ref C) b=some none)(ne:(b==a)=false)(S:aY ["self",a,b] ["self",a,b] (aD st))
  (hb:gW st=[.Assign [.Attribute (.Name "self" p1) a p2] (.Name a p3) p4,.Assign [.Attribute (.Name "self" p5) b p6] (.Name b p7) p8])
  (vs:Vis (aD st) "self":=by first|exact d4 rfl|exact fA (d4 rfl)|exact fA (fA rfl)) (va:Vis (aD st) a:=by first|exact d4 rfl|exact fA (d4 rfl)|exact fA (fA rfl)) (vb:Vis (aD st) b:=by first|exact d4 rfl|exact fA (d4 rfl)|exact fA (fA rfl))
  (hd:(a==("__debug__":Str))=false:=by decide) (hc:(a==("__classdict__":Str))=false:=by decide) (hd2:(b==("__debug__":Str))=false:=by decide) (hc2:(b==("__classdict__":Str))=false:=by decide):
  oG P w K mg base (CX1 P w) 1 f fd ["self",a,b] (Qp C [a,b]):=by
 refine GP F S (λvs H Q E ⟨e,ob,args,z,l,_⟩=>by rw[z,c8,l];rfl) λcdv A outer s H vs Q E hr ⟨e,ob,args,z,l,he,hcl,hf,hdn,k⟩=>?_
 match args,l with
 |[x,y],_=>
  subst z;rw[hb];refine⟨_,HQ (Oq (je (i:=0) rfl vs) (je (i:=1) rfl va hd hc)<|by rfl)<|Ab<|Vd (je (i:=0) rfl vs) (je (i:=2) rfl vb hd2 hc2) (by rfl),x,rfl,.ref e,rfl,e,C,ob,rfl,he,hcl,hf,hdn,Z,n,λdx h1 h2=>?_⟩;refine⟨y,rfl,.ref e,rfl,e,C,_,dx,[(a,x)],rfl,bu,hcl,hf,rfl,by rw[bD h2,bu],Nat.le_of_lt_succ (by simp),by simp[hZ,ne],Z,n2,?_⟩
  have:=k dx h1 h2
  rw[← xN h2.symm] at this;rw[xN h2,Ng];exact this
end
structure MkX (K:bb)(C f:Addr):Prop where
 ex:DR K C f [.type "ValueError",.type "Exception",.type "BaseException",.type "object"] "ValueError.__new__" = true
 fn:W.isFn K (.ref f)=true
 kp:lh K (.ref C)=true
section
variable {X:Cx}{k:Nat}{f C:Addr}{fd:hG}{ps ns:List Str}{x:Str}{p pos ρ:Pos}{e:Expr}{es:List Expr}{t:TA}
theorem Wb {π:Zl}{σ:St}{H:Hp}{s:aS}{us:List av}{vs:List V}{Q:Zs}(M:MkX X.K C f)(F:oG X.prog X.w X.K X.mg X.base (CX1 X.prog X.w) k f fd ps (Qp C ns))(hr:gw (k+1) X.A)(hb:Binds X.K fd ps [])
  (I:Inv X π σ H s) (r:Vals vs us) (hl:vs.length=ns.length) (hz:vs.length<=ay)
  (h:∀e dx ob s',s.heap.objs.size<=e->H e=none->H dx=none->dx≠e->ob.cls=.ref C->ob.dict=some dx->(∃us,ob.data=.fields us/\us[1]? = some .none/\us[2]? = some .none)->
   Inv X π σ (upd (upd H dx<|.ext<|Xd dx<|ns.zip vs) e<|.ext<|Raw e ob) s'->Q (.ref e) s'):
  bg (b9 X.prog X.w) X.A (call (.ref C) us) Q X.xe s:=by
 obtain⟨bm,N,nm,qn,bs,sn,sub,ab,col,dd,k0,k1,k2,k3,k5,mN,hC,hN,hi,T⟩:=Nu I.kIn M.ex;obtain⟨oI,hI,hIc⟩:=mM.mp<|show(X.K.lookup f).map (·.cls)=some (.type "function") from beq_iff_eq.mp M.fn;have hz':us.length<=ay:=by rw[← r.length];exact hz
 have I1:Inv X π σ (upd H (s.heap.objs.size+1)<|.ext<|Raw (s.heap.objs.size+1)<|HX C s.heap.objs.size) { s with heap:=xr s.heap C us,toks:=s.toks }:=
  I.laid (λb o z=>HF z) (tj _) (TY HH)
 have hne:H (s.heap.objs.size+1)=none:=I.hok.fresh<|tj _;have r1:Vals (V.ref (s.heap.objs.size+1)::vs) (bE (s.heap.objs.size+1)::us):=.cons rfl r;have hq:Qp C ns (V.ref (s.heap.objs.size+1)::vs) (upd H (s.heap.objs.size+1)<|.ext<|Raw (s.heap.objs.size+1)<|HX C s.heap.objs.size) (λv H2=>v=.non/\∃dx,H dx=none/\dx≠s.heap.objs.size+1/\H2=upd (upd H dx<|.ext<|Xd dx<|ns.zip vs) (s.heap.objs.size+1) (.ext<|Raw (s.heap.objs.size+1) { HX C s.heap.objs.size with dict:=some dx })) E0:=by
  refine⟨_,_,vs,rfl,hl,bu,rfl,⟨_,rfl⟩,rfl,λdx h1 h2=>⟨rfl,dx,by rw[bD h2] at h1;exact h1,h2,?_⟩⟩;rw[xN h2.symm,Ng,xN h2]
 have ω:(bE (s.heap.objs.size+1)::us++[]).length=ps.length:=by
  have z:=r1.length;rw[F.len _ _ _ _ hq] at z;rw[cE];exact z.symm
 obtain⟨hp,g,d,tk,os⟩:=s;refine TF (hz:=hz') qB T hC hN hi (I.kIn _ _ hI) hIc<|xA<|nX (F.run _ X.stack _ _ ⟨_,[]⟩ _ _ _ E0 (hr.make C us []) (I1.env0.make C us []) (by have:=hb _ _ I1.kIn ω;rw[cE] at this;exact this) r1 hq) λz s' c=>?_;cases z with
 |error e=>exact Ji π σ _ _ e s' I1 c
 |ok fl=>
  cases fl with
  |ret u=>
   obtain⟨v,H',I3,rv,ev,dx,h1,h2,eH⟩:=I1.after c;subst ev eH;exact⟨rv,h _ dx _ s' (tj _) hne h1 h2 rfl rfl ⟨_,rfl,rfl,rfl⟩ I3⟩
  |next=>exact fq c
  |brk=>exact fq c
  |cont=>exact fq c
def Hb (X:Cx)(E:XK):Prop:=∀(π:Zl) (σ:St) (H:Hp) (s:aS) (e dx:Addr) (ob:Obj) (fs:List (Str×V)),X.s₀.heap.objs.size<=e->H e=none->H dx=none->dx≠e->ob.dict=some dx->(∃us,ob.data=.fields us/\us[1]? = some .none/\us[2]? = some .none)->
 Inv X π σ (upd (upd H dx<|.ext<|Xd dx fs) e<|.ext<|Raw e ob) s->(∀q,E ob.cls (some dx)<|upd H dx<|.frz q<|.xd fs)->X.xe (.ref e) s
theorem QM {E:XK}(M:MkX X.K C f)(Z:XF X.K C)(F:oG X.prog X.w X.K X.mg X.base (CX1 X.prog X.w) k f fd ps (Qp C ns))(hr:gw (k+1) X.A)(hb:Binds X.K fd ps [])(hg:Gl X x)(hm:X.mg x=some (.ref C))(ha:PA X (e::es) t)(hx:Hb X E)(hn:ns.length<=100)
  (hdb:(x==("__debug__":Str))=false:=by decide) (he:ag (e::es) X.env=(false,eval e X.env)::ag es X.env:=by rfl) (ξ:(ia ρ<|ag es X.env).any (·.1)=false:=by rfl):
  PS X (.Raise (some<|.Call (.Name x p) (e::es) [] ρ) none pos) (λ_ σ H=>t σ H λvs H1=>vs.length=ns.length/\∀dx q,H1 dx=none->E (.ref C) (some dx) (upd H1 dx<|.frz q<|.xd<|ns.zip vs)):=by
 intro π s σ H D I h;rw[arm_exec_Raise];refine ae<|k9 ?_;unfold raiseStmt;refine ae ?_;have c:bg (b9 X.prog X.w) X.A (eval (.Call (.Name x p) (e::es) [] ρ) X.env) (λv s1=>∃ea ob,v=.ref ea/\X.K.In s1.heap/\s1.heap.get? ea=some ob/\ob.cls=.ref C/\(∃us,ob.data=.fields us/\us[1]? = some .none)/\X.xe (.ref ea) s1) X.xe s:=by
  refine gy<|pU I hg hm ?_ hdb;refine qV (h₀:=X.base) I.ok.mod.kin M.kp (thn (ha ρ π s σ H _ I h) λus s1 ⟨vs,H1,I1,r,hl,q⟩=>⟨I1.kIn,?_⟩) he ξ;refine Wb M F hr hb I1 r hl (by rw[hl,sF];omega) λea dx ob s' z1 z2 z3 z4 z5 z6 z7 I2=>⟨ea,ob,rfl,I2.kIn,N7 I2 bu,z5,let⟨us,a,b,_⟩:=z7;⟨us,a,b⟩,?_⟩;exact hx π σ H1 s' ea dx ob _ (cy I1.sz z1) z2 z3 z4 z6 z7 I2 λq'=>by rw[z5];exact q dx q' z3
 refine ae<|thn c λv s1 q=>ae<|k9<|ah ?_;obtain⟨ea,ob,rfl,kI,hob,hcl,⟨us,hus,h1⟩,hxe⟩:=q;obtain⟨hp,g,d,tk,os⟩:=s1;have L8:=sR (M:=b9 X.prog X.w) kI Z.xc.bs;obtain⟨_,_,_,_,_,_,_,_,_,_,_,_,_,_,_,_,hC,_⟩:=Nu kI M.ex
 repeat (first|(with_reducible refine eI hob ?_;rw[hcl])|with_reducible refine eI hC ?_|with_reducible refine L8.at ?_|with_reducible refine hU hob hus h1 ?_|wp_step)
 exact wpAny_raiseNew_none hr.hd hxe
end
section
variable {P:bo}{w:dc}{K:bb}{mg:Zp}{base:Heap}{N:List Str}{qual:Str}{scope:rL}{f:Addr}{cd:av}{A:dy}{outer:List Env}{s:aS}{H:Hp}{E:XK}
theorem yM:Hb (kW (CX1 P w) P w K mg base N qual scope f cd A outer s H E) E:=by
 intro π σ H1 s1 e dx ob fs se n1 n2 ne hd hu I hw;obtain⟨us,hu,u1,u2⟩:=hu;have hx:=N7 I bu;have hob:ob={ ob with data:=.fields us }:=by obtain⟨a,b,c,d⟩:=ob;cases(show c=.fields us from hu);rfl
 have sn:s.heap.get? e=none:=xE se;have hin:∀env∈(kW (CX1 P w) P w K mg base N qual scope f cd A outer s H E).stack,∀b,env.frame=some b->b∈e::frs (kW (CX1 P w) P w K mg base N qual scope f cd A outer s H E).stack:=
  λenv he b hb=>.tail _<|ib.mpr ⟨env,he,hb⟩
 have nfr:∀b o,s.heap.get? b=some o->b∉frs outer->b∉e::frs (kW (CX1 P w) P w K mg base N qual scope f cd A outer s H E).stack:=λb o q nb hb=>by
  cases hb with
  |head=>rw[sn] at q;cases q
  |tail _ hb=>
   rcases xO (L:=s.heap.objs.size) rfl hb with z|z
   ·exact absurd (aw q) (by rw[z];exact eT _)
   ·exact nb z
 have nx:∀b:Addr,b∉(kW (CX1 P w) P w K mg base N qual scope f cd A outer s H E).ex:=λb z=>absurd (show b∈([]:List Addr) from z) (by simp);have old:∀b o,s.heap.get? b=some o->b≠e:=λb o q z=>by rw[z,sn] at q;cases q
 obtain⟨mA,d1,d2,_⟩:=(show cG P w _ s1.heap dx (.ext<|Xd dx fs) from I.hok dx _ (by rw[bD ne,bu])).1;obtain⟨od,_,_,dget,_⟩:=id d1;have nfd:dx∉e::frs (kW (CX1 P w) P w K mg base N qual scope f cd A outer s H E).stack:=λz=>by
  cases z with
  |head=>exact ne rfl
  |tail _ z=>have:=I.xR dx z;rw[bD ne,bu] at this;cases this
 refine Jz (B:=zv s1.heap (e::frs (kW (CX1 P w) P w K mg base N qual scope f cd A outer s H E).stack)) (L:=s.heap.objs.size) (l:=outer) I.ok.frames rfl (W.funFrames_hide I.stack hin) (hob▸hx) u1 (λb o q=>ve _ q) ?_ λh2 x1 x4=>?_
 ·exact W.hideAll_none _<|.head _
 have eq:∀b,b≠e->b≠dx->∀o,upd (upd H1 dx<|.ext<|Xd dx fs) e (.ext<|Raw e ob) b=o->upd H1 dx (.frz od<|.xd fs) b=o:=λb h1 h2 o z=>by
  rw[bD h1,bD h2] at z;rw[bD h2];exact z
 have off:∀b o,upd (upd H1 dx<|.ext<|Xd dx fs) e (.ext<|Raw e ob) b=o->(∀φ,o≠some (.ext φ))->upd H1 dx (.frz od<|.xd fs) b=o:=λb o z k=>by
  refine eq b (λw=>?_) (λw=>?_) o z
  ·rw[w,bu] at z;exact k _ z.symm
  ·rw[w,bD ne,bu] at z;exact k _ z.symm
 refine⟨e,ob,us,_,upd H1 dx<|.frz od<|.xd fs,⟨rfl,I.os,I.bare,x1,u2,λb o q n nb=>?_,λb o q hb=>?_,λb o q n=>?_,λb o q nb=>?_,λb xs q=>?_,λb o u q=>?_,λb p q=>?_,λb u q=>?_,sn,?_⟩,by rw[hd];exact hw od⟩
 ·exact kr _ (I.base.keep b o q n nb<|nx b)<|nfr b o q nb
 ·obtain⟨sl,e1⟩:=I.base.slot b o q (I.ok.frf b hb) hb<|nx b;obtain⟨_,o',ho',hnf⟩:=I.ok.rA.mem hb;have eo:o=o':=bX<|q.symm.trans ho';obtain⟨sl2,e2⟩:=x4 b _ e1 λv z=>hnf v (by rw[← eo];exact z);exact⟨sl2,e2⟩
 ·exact off b none (I.base.free b o q n<|nx b) λ_ z=>nomatch z
 ·obtain⟨o',e1⟩:=I.base.there b o q<|nx b;exact⟨o',kr _ e1<|nfr b o q nb⟩
 ·exact off b _ (I.base.tups b xs q) λ_ z=>nomatch z
 ·exact off b _ (I.base.frzs b o u q) λ_ z=>nomatch z
 ·obtain⟨m,z⟩:=I.base.tbls b p q;exact⟨m,off b _ z λ_ z=>nomatch z⟩
 ·by_cases hb:b=dx
  ·subst hb;rw[bu] at q;cases q
   have:=kr _ dget nfd
   exact⟨this,mA,d1.at λo z=>by rw[dget] at z;cases z;exact this,d2⟩
  ·rw[bD hb] at q;have be:b≠e:=λz=>by rw[z,n1] at q;cases q
   have q3:upd (upd H1 dx<|.ext<|Xd dx fs) e (.ext<|Raw e ob) b=some u:=by rw[bD be,bD hb];exact q
   refine(I.hok b u q3).stay (λc v hc z=>kr _ z λhm=>?_) (λc z=>off c _ z λ_ z=>nomatch z) λc xs z=>off c _ z λ_ z=>nomatch z
   have q4:∃v,upd (upd H1 dx<|.ext<|Xd dx fs) e (.ext<|Raw e ob) c=some v/\c≠e:=by
    rcases hc with hc|hc
    ·subst hc;exact⟨_,q3,be⟩
    ·exact⟨_,hc,λz=>by rw[z,bu] at hc;cases hc⟩
   obtain⟨v,q4,q5⟩:=q4;cases hm with
   |head=>exact q5 rfl
   |tail _ hm=>rw[I.xR c hm] at q4;cases q4
 ·rw[bD ne.symm];exact n1
end
end Hd
namespace F
open PySem PySem.Spec PyProof.Rows L2 Hd
def El:D->Bool
 | .tup ds=>ds.all flat
 |d=>flat d
theorem Eh {G:Gx}{O O':Zaa}{H:Hp}:∀{vs:List V} {ds:List D},ds.all flat=true->DVs G O H vs ds->DVs G O' H vs ds
 |_,_,_,.nil=>.nil
 |_,_,f,.cons h hs=>by
  simp only[k7,gL] at f;exact .cons (DV.flat f.1 h)<|Eh f.2 hs
theorem Vb {G:Gx}{O O':Zaa}{H:Hp}{v:V}{d:D}(f:El d=true)(h:DV G O H v d):DV G O' H v d:=by
 cases d with
 |tup ds=>cases h with|tup a b=>exact .tup a (Eh f b)
 |_=>exact DV.flat f h
theorem Ek {G:Gx}{O O':Zaa}{H:Hp}:∀{vs:List V} {ds:List D},ds.all El=true->DVs G O H vs ds->DVs G O' H vs ds
 |_,_,_,.nil=>.nil
 |_,_,f,.cons h hs=>by
  simp only[k7,gL] at f;exact .cons (Vb f.1 h)<|Ek f.2 hs
def tR (c:Str)(ns:List Str)(f:Zad):Zab:=λm=>(f m).bind λds=>if ds.length=ns.length/\ds.all El=true then .exc (c,ns,ds) else .stuck
structure XFn (P:bo)(w:dc)(K:bb)(mg:Zp)(base:Heap)(k:Nat)(x:Str)(ns:List Str):Prop where
 ex:∃C f fd ps,mg x=some (.ref C)/\MkX K C f/\XF K C/\oG P w K mg base (CX1 P w) k f fd ps (Qp C ns)/\Binds K fd ps []
section
variable {X:Cx}{E:XK}{e a:Expr}{es:List Expr}{fs:Zad}{fa:Zae}{x f:Str}{np ρ pos p:Pos}{j k:Nat}{ns:List Str}
theorem Mm {α β:Type}:∀{a:List α} {b:List β},b.length=a.length->(a.zip b).map (·.1)=a
 |[],_,_=>rfl
 |_::_,[],h=>nomatch h
 |x::a,y::b,h=>by simp[Mm (a:=a) (b:=b)<|by simpa using h]
theorem Mq {α β:Type}:∀{a:List α} {b:List β},b.length=a.length->(a.zip b).map (·.2)=b
 |[],[],_=>rfl
 |_::_,[],h=>nomatch h
 |x::a,y::b,h=>by simp[Mq (a:=a) (b:=b)<|by simpa using h]
theorem yC (Xf:XFn X.prog X.w X.K X.mg X.base k x ns)(hr:gw j X.A)(hx:Hb X E)(ha:FAE X E (e::es) fs)(hk:k+1<=j:=by decide)(hn:ns.length<=100:=by decide)(hg:Gl X x:=by rfl)
  (hdb:(x==("__debug__":Str))=false:=by decide) (he:ag (e::es) X.env=(false,eval e X.env)::ag es X.env:=by rfl) (ξ:(ia ρ<|ag es X.env).any (·.1)=false:=by rfl):
  FS X E (.Raise (some<|.Call (.Name x p) (e::es) [] ρ) none pos) (tR x ns fs):=by
 obtain⟨C,f,fd,ps,m,M,Z,F,b⟩:=Xf.ex;refine cU (QM M Z F (hr.mono hk) b hg m ha hx hn hdb he ξ) λW σ H ⟨O0,M0,H0,ow,m',R,q⟩=>⟨O0,M0,H0,ow,m',R.toRel,(Ss.pu R.toRel q).imp (aN.refl _) λds q vs H' g hv=>?_⟩;by_cases c:ds.length=ns.length/\ds.all El=true
 case neg=>rw[if_neg c] at q;exact q.elim
 rw[if_pos c] at q;have l:vs.length=ns.length:=(cu hv).trans c.1;refine⟨l,λdx o hd=>q (C,some dx) _ ⟨m,_,_,.inr ⟨dx,o,rfl,bu⟩,Mm l,rfl,λO=>?_⟩ λb o' e n=>?_⟩
 ·rw[Mq l];exact(Ek c.2 hv).mono (bO hd _)
 ·exact bO hd _ b o'<|g b o'<|R.keep b o' e n
def pQ (tab:Str->Bool)(f:Str)(fa:Zae):Zae:=λm=>(fa m).bind λd=>match d with
 | .exc c ns ds=>if tab c=true then ofO ((ns.zip ds).lookup f) else .stuck
 |_=>.stuck
theorem Nq {G:Gx}{O:Zaa}{H:Hp}{d:D}:∀{fs:List (Str×V)} {ds:List D},DVs G O H (fs.map (·.2)) ds->((fs.map (·.1)).zip ds).lookup f=some d->∃v,fs.lookup f=some v/\DV G O H v d
 |[],_,_,e=>by simp at e
 |(n,v)::r,_::_,.cons h hs,e=>by
  simp only[aT,List.zip_cons_cons,hZ] at e ⊢;split at e
  ·cases e;exact⟨v,rfl,h⟩
  ·exact Nq hs e
theorem mO {tab:Str->Bool}(ha:FB X E a fa)(ht:∀c C,tab c=true->X.mg c=some (.ref C)->XF X.K C/\cx X.K (.ref C) f=some none)(hb:h8 a f X.env (eval a X.env)=eval a X.env:=by rfl):
  FE X E (.Attribute a f pos) (pQ tab f fa):=by
 intro π s σ H Q I h;refine Wi hb<|thn (ha π s σ H (λv H1=>∃ea C ox fs dx q y,v=.ref ea/\XF X.K C/\cx X.K (.ref C) f=some none/\H1 ea=some (.frz ox<|.ext<|rO ea<|.ref C)/\ox.dict=some dx/\H1 dx=some (.frz q<|.xd fs)/\fs.lookup f=some y/\Q y H1) I ?_) λu s1 ⟨v,H1,I1,r,ea,C,ox,fs,dx,q,y,ev,Z,n,h1,h2,h3,h4,hq⟩=>?_
 ·obtain⟨O0,M0,H0,ow,m,R,q⟩:=h;refine⟨O0,M0,H0,ow,m,R,q.bind.imp (aN.refl _) λd q v H' g hv=>?_⟩;cases d with
  |exc c ns ds=>
   by_cases c1:tab c=true
   case neg=>simp only[if_neg c1] at q;exact q.elim
   simp only[if_pos c1] at q;obtain⟨d,hd,kk⟩:=q.ofO;rcases hv with hv|⟨_,_,_,hv⟩
   ·cases hv with
    |exc a1 a2 a3 a4 a5 a6=>
     subst a4 a5;obtain⟨y,y1,y2⟩:=Nq a6 hd;rcases a3 with⟨rfl,_⟩|⟨dx,o,b1,b2⟩
     ·cases y1
     ·obtain⟨z1,z2⟩:=ht c _ c1 a1;exact⟨_,_,_,_,dx,o,y,rfl,z1,z2,a2,b1,b2,y1,kk _ _ g y2⟩
   ·exact hv.elim
  |_=>exact q.elim
 ·subst ev;obtain rfl:u=bE ea:=r;obtain⟨e1,⟨o2,e2,e3,e4⟩,_⟩:=(show cG X.prog X.w H1 s1.heap ea (.frz ox<|.ext<|rO ea<|.ref C) from I1.hok ea _ h1);obtain⟨_,mA,m1,m2⟩:=(show cG X.prog X.w H1 s1.heap dx (.frz q<|.xd fs) from I1.hok dx _ h3);cases e1.symm.trans e2;obtain⟨u,hu,ru⟩:=vP.some_of (v:=y) (o:=mA f) (by rw[← h4];exact m2 f);obtain⟨hp,g,d,tk,os⟩:=s1;refine Yd I1.kIn Z e1 e3 e4 h2 m1 hu n (λid z=>?_) ⟨y,H1,I1.tok _,ru,hq⟩;subst z;cases y<;>first|(obtain⟨_,z⟩:=ru;cases z;done)|(cases ru;done)
end
structure QX (K:bb)(f:Addr)(q:Str)(st:Stmt):Prop where
 ex:∃fd,Fun K "__init__" q st f fd/\W.isFn K (.ref f)=true
theorem qx {K:bb}{q:Str}{st:Stmt}{f:Addr}{oc:av}{od an:Option Addr}{osl:Array (Option av)}{kV doc pm cdv ct:av}(i:W.isFn K (.ref f)=true)(l:K.lookup f=some ⟨oc,od,.func<|tP "__init__" q (nU st) (gW st) (aD st) .none kV doc pm an cdv ct,osl⟩)
  (c:Ap K cdv q=true) (k:lh K (.ref f)=true):QX K f q st:=⟨_,Rx l c k,i⟩
def R6:List D->Option D
 |[.lst ds]=>(yZ ds).bind λns=>match ns with
  |[]=>none
  |n::r=>some<|.int<|r.foldl max n
 |_=>none
theorem fold_max:∀(r:List Int) (n:Int),r.foldl max n∈n::r/\∀a∈n::r,a<=r.foldl max n
 |[],n=>⟨ar,λa h=>by simp at h;rw[h];exact Int.le_refl _⟩
 |x::r,n=>by
  obtain⟨h1,h2⟩:=fold_max r<|max n x;refine⟨?_,λa ha=>?_⟩
  ·rcases bq.mp h1 with e|e
   ·rw[kT,e];rcases Int.le_total n x with z|z
    ·rw[Int.max_eq_right z];simp
    ·rw[Int.max_eq_left z];simp
   ·exact ai _<|ai _ e
  ·have m:=h2 (max n x) ar;rcases bq.mp ha with e|e
   ·rw[e];exact Int.le_trans (Int.le_max_left n x) m
   ·rcases bq.mp e with e|e
    ·rw[e];exact Int.le_trans (Int.le_max_right n x) m
    ·exact h2 a<|ai _ e
theorem Lf {X:Cx}(hc:X.calm=true):fX X (.builtin "max") (rGC (gx X) R6):=by
 intro π s σ H xs us Q I r h;obtain⟨O,ds,d,m,hx,hr,q⟩:=h
 match ds,hr with
 |[.lst ds],hr=>
  obtain⟨ns,e1,hr⟩:=ix.mp hr;obtain⟨v,rfl,hv⟩:=tu hx;obtain⟨p,xs,rfl,hp,hd⟩:=iw hv
  have:=Hk hd e1
  subst this;obtain⟨u,rfl,rx⟩:=vals1 r;cases rx;obtain⟨χ,r',pl,hz⟩:=I.list hp;obtain⟨ys,e2,e3⟩:=ints_of r';cases ns with
  |nil=>cases hr
  |cons n rest=>
   cases hr;have hne:0<ys.size:=by have:=congrArg sM e3;simp at this;omega
   refine max_intList (I.ok.hd hc) (xs:=ys) (e2▸pl.isList) hne λv h' tk hv kp=>?_;obtain⟨t,rfl⟩:=intItems_at hv;obtain⟨h1,h2⟩:=argBest_gt (numAt ys)<|ys.size-1;have hn:∀j,numAt ys j=(n::rest).getD j 0:=λj=>by rw[numAt_eq,e3]
   have hs:ys.size=rest.length+1:=by have:=congrArg sM e3;simp at this;omega
   obtain⟨k1,k2⟩:=fold_max rest n;have ea:numAt ys (argBest (λi j=>decide<|numAt ys i>numAt ys j)<|ys.size-1)=rest.foldl max n:=by
    refine Int.le_antisymm (k2 _ ?_) ?_
    ·rw[hn];exact getD_mem (by rw[c8];omega)
    ·obtain⟨j,hj,e⟩:=mem_getD k1;rw[← e,← hn];exact h2 j (by rw[c8] at hj;omega)
   rw[ea];exact⟨.int _,H,I.kept kp,⟨t,rfl⟩,q _ _ (aN.refl _)<|.int _⟩
end F
namespace K14
open PySem L2 Hd F Pk Lw
section
def iR:Str->Option Bool:=λc=>if c = "Forgets" then some true else if c = "NoShares" then some false else if c = "TooGreat" then some false else if c = "Unlike" then some false else none
def jd:Str->Option Bool:=λc=>if c = "Forgets" then some false else if c = "NoShares" then some false else if c = "TooGreat" then some false else if c = "Unlike" then some false else none
def jP:Str->Option Bool:=λc=>if c = "Forgets" then some false else if c = "NoShares" then some false else if c = "TooGreat" then some false else if c = "Unlike" then some false else none
def ik:Str->Option Bool:=λc=>if c = "Forgets" then some false else if c = "NoShares" then some true else if c = "TooGreat" then some false else if c = "Unlike" then some false else none
def jT:Str->Option Bool:=λc=>if c = "Forgets" then some false else if c = "NoShares" then some false else if c = "TooGreat" then some false else if c = "Unlike" then some false else none
def ir:Str->Option Bool:=λc=>if c = "Forgets" then some false else if c = "NoShares" then some false else if c = "TooGreat" then some true else if c = "Unlike" then some false else none
def jV:Str->Option Bool:=λc=>if c = "Forgets" then some false else if c = "NoShares" then some false else if c = "TooGreat" then some false else if c = "Unlike" then some true else none
def fP:Str->Option Bool:=λc=>if c = "Forgets" then some true else if c = "NoShares" then some true else if c = "TooGreat" then some true else if c = "Unlike" then some true else none
def oA:Str->Bool:=λc=>c=="Forgets" || c=="Unlike"
def jn:Str->Bool:=λc=>c=="Forgets" || c=="Unlike"
def vy:Str->Bool:=λc=>c=="NoShares"
def dR:Str->Bool:=λc=>c=="Forgets" || c=="NoShares" || c=="TooGreat" || c=="Unlike"
def gF:Zae:=
 (qH gGt (aR dI<|aa (ak 0) aA)<|fC<|.int 12)
def gP:Zae:=
 (cA 2 [] (eE<|ak 1) (eN 2<|aU (hName 0)<|aU (hName 1) eO) gR gF)
def dC (φ_places_of:Zac)(l_2:Zae):Zab:=
 (aJ (bj 1<|fFn φ_places_of<|aa (aH 0) aA)
 (aJ (gIf (aL gGt (aR dI<|aa (ak 1) aA)<|fC<|.int 64) (lr "TooGreat" (fM<|fC<|.str "the game has too many places")) gNx)
 (gIf (fTv<|aR Vf<|aa l_2 aA) (lr "TooGreat" (fM<|fC<|.str "a way of the game is too long")) gNx)))
def dD:Zab:=
 (dC iQ gP)
def cM:Zac:=bc 2 1 dD
def cH:Zab:=
 (aJ (bj 2<|fFn vA<|aa (aH 0)<|aa (aH 1) aA)
 (aJ (gIf (aL gGt (aR dI<|aa (ak 2) aA)<|fC<|.int 8) (lr "TooGreat" (fM<|fC<|.str "a side sees too many names")) gNx)
 (gIf (aL gGt (fFn mH<|aa (aH 2) aA)<|fC<|.int 24) (lr "TooGreat" (fM<|fC<|.str "a side has too many words")) gNx)))
def iu:Zab:=
 (fB (jQ<|aM<|aa (fC<|.int 1)<|aa (fC<|.int 2) aA) (hName 1) cH)
def d7 (l_2:Zab):Zab:=
 l_2
def dX:Zab:=
 (d7 iu)
def cT:Zac:=bc 3 1 dX
def jc (φ_refuse_great_places:Zac)(φ_refuse_great_table:Zac):Zab:=
 (aJ (gEx<|fFn φ_refuse_great_places<|aa (aH 0) aA)
 (gEx<|fFn φ_refuse_great_table<|aa (aH 0) aA))
def iZ:Zab:=
 (jc cM cT)
def f9:Zac:=bc 1 1 iZ
def fJ:Zae:=
 (fFn ph<|aa (aH 0) aA)
def fQ:Zae:=
 (cA 1 [] (eE<|fFn cZ<|aa (aH 2) aA) (hName 0) gR fJ)
def dg:Zab:=
 (gIf (fTv<|aR Vf<|aa fQ aA) (lr "TooGreat" (fM<|fC<|.str "a fraction of the game is too great")) gNx)
def fG:Zab:=
 (fB (eE<|fFn iQ<|aa (aH 0) aA) (eN 2<|aU (hName 1)<|aU (hName 2) eO) dg)
def gq (l_4:Zab):Zab:=
 l_4
def gk:Zab:=
 (gq fG)
def dU:Zac:=bc 3 1 gk
def fL:Zab:=
 (aJ (gIf (aL gNe (aB gIx (ak 1)<|fC<|.int 2)<|aB gIx (ak 3)<|fC<|.int 2) (tR "Unlike" ["one", "other"] (aa (aH 2)<|aa (aH 0) aA)) gNx)
 (gIf (aL gNe (aB gIx (ak 1)<|fC<|.int 3)<|aB gIx (ak 3)<|fC<|.int 3) (tR "Forgets" ["one", "other"] (aa (aH 2)<|aa (aH 0) aA)) gNx))
def fK:Zab:=
 fL
def cB:Zac:=bc 4 4 fK
def bQ:Zab:=
 (aJ (gIf (fj (aL gEq (aB gIx (ak 3)<|fC<|.int 0)<|fC<|.str "deal")<|fD<|fTv<|fFn oh<|aa (fFn cZ<|aa (aH 3) aA) aA) (tR "NoShares" ["way"] (aa (aH 2) aA)) gNx)
 (gIf (aL gEq (aB gIx (ak 3)<|fC<|.int 0)<|fC<|.str "move") (aJ (bj 5<|fFn qQ<|aa (aH 3)<|aa (aH 4) aA)
 (aJ (wV 6<|xM 1 (aM<|aa (aB gIx (ak 3)<|fC<|.int 1)<|aa (aB gIx (ak 3)<|fC<|.int 2) aA)<|aM<|aa (aH 2)<|aa (aH 5) aA)
 (gEx<|fFn cB<|aa (aH 2)<|aa (aH 5)<|aa (aB gIx (ak 6)<|fC<|.int 0)<|aa (aB gIx (ak 6)<|fC<|.int 1) aA))) gNx))
def jN:Zab:=
 (fB (eE<|fFn cN<|aa (aH 0) aA) (eN 3<|aU (hName 2)<|aU (hName 3)<|aU (hName 4) eO) bQ)
def jl (l_2:Zab):Zab:=
 (aJ (gY 1 vh)
 l_2)
def jq:Zab:=
 (jl jN)
def gO:Zac:=bc 7 1 jq
def JK (φ_table_of:Zac)(φ_refuse_great_shape:Zac)(φ_refuse_great_fractions:Zac)(φ_refuse_unsound:Zac):Zab:=
 (aJ (gEx<|fFn φ_refuse_great_shape<|aa (aH 0) aA)
 (aJ (gEx<|fFn φ_refuse_great_fractions<|aa (aH 0) aA)
 (aJ (gEx<|fFn φ_refuse_unsound<|aa (aH 0) aA)
 (jy<|Zv φ_table_of<|aa (aH 0) aA))))
def K7:Zab:=
 (JK uc f9 dU gO)
def Hg:Zac:=bc 1 1 K7
def wA:Zae:=
 (cA 2 [] (jQ<|aB gIx (ak 0)<|fC<|.int 2) (eN 2<|aU (hName 0)<|aU (hName 1) eO) gR<|aH 0)
def rK (l_1:Zae):Zab:=
 (aJ (gIf (aL gEq (aB gIx (ak 0)<|fC<|.int 0)<|fC<|.str "end") (jy<|eG<|aa (aB gIx (ak 0)<|fC<|.int 1) aA) gNx)
 (aJ (gIf (aL gEq (aB gIx (ak 0)<|fC<|.int 0)<|fC<|.str "deal") (jy l_1) gNx)
 (jy<|eG aA)))
def qU:Zab:=
 (rK wA)
def jo:Zac:=bc 1 1 qU
def j4:Zae:=
 (aR dI<|aa (ak 0) aA)
def jY:Zae:=
 (cA 3 [] (eE<|ak 1) (eN 3<|aU (hName 0)<|aU (hName 1)<|aU (hName 2) eO) gR j4)
def dN:Zab:=
 (gIf (kO (aL gGe (aR yF<|aa (ak 5) aA)<|aB Fx (fC<|.int 10)<|fC<|.int 12)<|aL gGe (ak 6)<|fC<|.int 1000) (bz<|fC<|.bl true) gNx)
def o6:Zab:=
 (fB (eE<|fFn jo<|aa (aH 3) aA) (eN 2<|aU (hName 5)<|aU (hName 6) eO) dN)
def gV:Zab:=
 o6
def jW:Zab:=
 (fB (eE<|aH 1) (eN 3<|aU (hName 2)<|aU (hName 3)<|aU (hName 4) eO) gV)
def jX:Zae:=
 (aR dI<|aa (aB gIx (ak 0)<|fC<|.int 2) aA)
def jO:Zae:=
 (cA 1 [8] (eE<|ak 7) (hName 0) (aL gEq (aB gIx (ak 0)<|fC<|.int 0)<|ak 1) jX)
def dJ:Zab:=
 (aJ (bj 9 jO)
 (gIf (kO (aL gGt (aR dI<|aa (ak 9) aA)<|fC<|.int 8)<|aL gGt (aR Ph<|aa (ak 9) aA)<|fC<|.int 24) (bz<|fC<|.bl true) gNx))
def gA:Zab:=
 (fB (jQ<|aM<|aa (fC<|.int 1)<|aa (fC<|.int 2) aA) (hName 8) dJ)
def eX (φ__law_places:Zac)(φ__law_table:Zac)(l_2:Zae)(l_6:Zab)(l_10:Zab):Zab:=
 (aJ (bj 1<|fFn φ__law_places<|aa (aH 0) aA)
 (aJ (gIf (kO (aL gGt (aR dI<|aa (ak 1) aA)<|fC<|.int 64)<|aL gGt (aR R6<|aa l_2 aA)<|fC<|.int 12) (bz<|fC<|.bl true) gNx)
 (aJ l_6
 (aJ (bj 7<|fFn φ__law_table<|aa (aH 0) aA)
 (aJ l_10
 (bz<|fC<|.bl false))))))
def eZ:Zab:=
 (eX gm lB jY jW gA)
def dH:Zac:=bc 10 1 eZ
def d8:Zab:=
 (aJ (gIf (aL gLe (ak 3)<|fC<|.int 0) (bz<|fC<|.bl false) gNx)
 (aJ (bj 1<|aB cF (aB uI (ak 1)<|ak 4)<|aB uI (ak 3)<|ak 2)
 (bj 2<|aB uI (ak 2)<|ak 4)))
def iK:Zab:=
 (fB (eE<|aH 0) (eN 2<|aU (hName 3)<|aU (hName 4) eO) d8)
def j0 (l_2:Zab):Zab:=
 (aJ (bj 1<|fC<|.int 0)
 (aJ (bj 2<|fC<|.int 1)
 (aJ l_2
 (bz<|qH gEq (ak 1)<|ak 2))))
def j5:Zab:=
 (j0 iK)
def gU:Zac:=bc 5 1 j5
def tH:Zae:=
 (cA 2 [] (jQ<|aB gIx (ak 3)<|fC<|.int 2) (eN 2<|aU (hName 0)<|aU (hName 1) eO) gR<|aH 0)
def tZ:Zae:=
 (cA 2 [] (jQ<|aB gIx (ak 3)<|fC<|.int 3) (eN 2<|aU (hName 0)<|aU (hName 1) eO) gR<|aH 0)
def dm:Zab:=
 (aJ (gIf (fj (aL gEq (aB gIx (ak 3)<|fC<|.int 0)<|fC<|.str "deal")<|fD<|fTv<|fFn gU<|aa tH aA) (bz<|aM<|aa (fC<|.str "no shares")<|aa (aH 2) aA) gNx)
 (gIf (aL gEq (aB gIx (ak 3)<|fC<|.int 0)<|fC<|.str "move") (aJ (bj 5 tZ)
 (aJ (bj 6<|aM<|aa (aH 2)<|aa (aH 5)<|aa (aB gIx (ak 4)<|aB mj (aB gIx (ak 3)<|fC<|.int 1)<|fC<|.int 1) aA)
 (aJ (wV 7<|xM 1 (aM<|aa (aB gIx (ak 3)<|fC<|.int 1)<|aa (aB gIx (ak 3)<|fC<|.int 2) aA)<|aH 6)
 (aJ (gIf (aL gNe (aB gIx (ak 7)<|fC<|.int 1)<|ak 5) (bz<|aM<|aa (fC<|.str "unlike")<|aa (aB gIx (ak 7)<|fC<|.int 0)<|aa (aH 2) aA) gNx)
 (gIf (aL gNe (aB gIx (ak 7)<|fC<|.int 2)<|aB gIx (ak 6)<|fC<|.int 2) (bz<|aM<|aa (fC<|.str "forgets")<|aa (aB gIx (ak 7)<|fC<|.int 0)<|aa (aH 2) aA) gNx))))) gNx))
def su:Zab:=
 (fB (eE<|fFn gm<|aa (aH 0) aA) (eN 3<|aU (hName 2)<|aU (hName 3)<|aU (hName 4) eO) dm)
def oX (φ__law_table:Zac)(φ__law_too_great:Zac)(l_4:Zab):Zab:=
 (aJ (gIf (fTv<|fFn φ__law_too_great<|aa (aH 0) aA) (bz<|aM<|aa (fC<|.str "too great") aA) gNx)
 (aJ (gY 1 vh)
 (aJ l_4
 (bz<|aM<|aa (fC<|.str "table")<|aa (fFn φ__law_table<|aa (aH 0) aA) aA))))
def oR:Zab:=
 (oX lB dH su)
def lW:Zac:=bc 8 1 oR
def vW:Zab:=
 (gIf (kO (fD<|fTv<|uF "int" (ak 2))<|fTv<|uF "bool" (ak 2)) (bz<|fC<|.bl false) gNx)
def qI:Zab:=
 (fB (jQ<|aH 1) (hName 2) vW)
def mF:Zab:=
 (aJ (gIf (fD<|fTv<|uF "tuple" (ak 1)) (bz<|fC<|.bl false) gNx)
 qI)
def qz:Zab:=
 (fB (eE<|aH 0) (hName 1) mF)
def uZ (l_4:Zab):Zab:=
 (aJ l_4
 (bz<|fC<|.bl true))
def uM:Zab:=
 (uZ qz)
def eQ:Zac:=bc 3 1 uM
def iU (φ__law_ways:Zac):Zab:=
 (aJ (bj 1<|eG<|aa (CG ir<|ak 0)<|aa (CG ik<|ak 0)<|aa (CG jV<|ak 0)<|aa (CG iR<|ak 0) aA)
 (aJ (gIf (kO (fTv<|CG (Dj [jP,jT,jd])<|ak 0)<|kO (fD<|fTv<|Ea fP<|ak 0)<|aL gNe (aR HR<|aa (ak 1) aA)<|fC<|.int 1) (bz<|aM<|aa (fC<|.str "wrong") aA) gNx)
 (aJ (gIf (fTv<|aB gIx (ak 1)<|fC<|.int 0) (bz<|aM<|aa (fC<|.str "too great") aA) gNx)
 (aJ (gIf (fj (fTv<|aB gIx (ak 1)<|fC<|.int 1)<|fTv<|fFn φ__law_ways<|aa (eG<|aa (pQ vy "way" (ak 0)) aA) aA) (bz<|aM<|aa (fC<|.str "no shares")<|aa (pQ vy "way" (ak 0)) aA) gNx)
 (aJ (gIf (fj (fTv<|aB gIx (ak 1)<|fC<|.int 2)<|fTv<|fFn φ__law_ways<|aa (eG<|aa (pQ oA "one" (ak 0))<|aa (pQ jn "other" (ak 0)) aA) aA) (bz<|aM<|aa (fC<|.str "unlike")<|aa (pQ oA "one" (ak 0))<|aa (pQ jn "other" (ak 0)) aA) gNx)
 (aJ (gIf (fj (fTv<|aB gIx (ak 1)<|fC<|.int 3)<|fTv<|fFn φ__law_ways<|aa (eG<|aa (pQ oA "one" (ak 0))<|aa (pQ jn "other" (ak 0)) aA) aA) (bz<|aM<|aa (fC<|.str "forgets")<|aa (pQ oA "one" (ak 0))<|aa (pQ jn "other" (ak 0)) aA) gNx)
 (bz<|aM<|aa (fC<|.str "wrong") aA)))))))
def jf:Zab:=
 (iU eQ)
def cY:Zac:=bc 2 1 jf
def kh (φ_look:Zac)(φ__law_is_table:Zac)(φ__law_refusal:Zac):Zab:=
 (aJ (bj 1<|fC .non)
 (aJ (bj 2<|aM aA)
 (aJ (Qo 3 (dR) (Hx 1 φ_look<|aa (aH 0) aA)<|bj 2<|fFn φ__law_refusal<|aa (aH 3) aA)
 (aJ (gIf (aL gNe (ak 2)<|aM aA) (bz<|aH 2) gNx)
 (aJ (gIf (fD<|fTv<|fFn φ__law_is_table<|aa (aH 1) aA) (bz<|aM<|aa (fC<|.str "wrong") aA) gNx)
 (bz<|aM<|aa (fC<|.str "table")<|aa (aH 1) aA))))))
def vg:Zab:=
 (kh Hg jJ cY)
def pN:Zac:=bc 4 1 vg
def oZ:Zae:=
 (aM<|aa (aB gIx (ak 1)<|aB cz (aB cF (ak 2)<|ak 0)<|fC<|.int 9)<|aa (aM<|aa (fC<|.str "end")<|aa (aM<|aa (aB mj (ak 0)<|ak 2)<|aa (fC<|.int 1) aA) aA) aA)
def uN:Zae:=
 (cA 1 [1,4] (uH<|aa (aB gIx (ak 2)<|ak 4) aA) (hName 0) gR oZ)
def iM:Zab:=
 (aJ (bj 5 uN)
 (dq 3<|aM<|aa (aM<|aa (fC<|.int 1)<|aa (aR dI<|aa (ak 2) aA) aA)<|aa (aM<|aa (fC<|.str "move")<|aa (aH 0)<|aa (aB gIx (ak 1)<|ak 4)<|aa (aR jU<|aa (ak 5) aA) aA) aA))
def pA:Zab:=
 (fB (uH<|aa (aR dI<|aa (ak 2) aA) aA) (hName 4) iM)
def oF (l_4:Zab):Zab:=
 (aJ (gY 3<|eG aA)
 (aJ l_4
 (bz<|aM<|aa (fC<|.str "deal")<|aa (aB gIx (ak 1)<|fC<|.int 0)<|aa (aR jU<|aa (ak 3) aA) aA)))
def xK:Zab:=
 (oF pA)
def nZ:Zac:=bc 6 3 xK
def g8:Zab:=
 (aJ (bj 1<|aB dZ (ak 1)<|fC<|.int 2)
 (gIf (fj (aL gEq (aB cz (ak 1)<|fC<|.int 2)<|fC<|.int 1)<|aL gLt (ak 4)<|fC<|.int 8) (bj 3<|aM<|aa (fC<|.str "move")<|aa (aB cF (fC<|.int 1)<|aB cz (aB dZ (ak 1)<|fC<|.int 2)<|fC<|.int 2)<|aa (aB gIx (ak 2)<|ak 4)<|aa (aM<|aa (aM<|aa (aB gIx (ak 2)<|fC<|.int 0)<|aa (aH 3) aA) aA) aA)<|bj 3<|aM<|aa (fC<|.str "deal")<|aa (aB gIx (ak 2)<|fC<|.int 0)<|aa (aM<|aa (aM<|aa (aM<|aa (fC<|.int 1)<|aa (fC<|.int 1) aA)<|aa (aH 3) aA) aA) aA))
def tV:Zab:=
 (fB (uH<|aa (ak 0) aA) (hName 4) g8)
def sY (l_2:Zab):Zab:=
 (aJ (bj 3<|aM<|aa (fC<|.str "end")<|aa (aM<|aa (aB cz (ak 1)<|fC<|.int 7)<|aa (fC<|.int 1) aA) aA)
 (aJ l_2
 (bz<|aH 3)))
def Ao:Zab:=
 (sY tV)
def sJ:Zac:=bc 5 3 Ao
def qj:Zae:=
 (aM<|aa (aM<|aa (fC<|.int 1)<|aa (aH 1) aA)<|aa (aM<|aa (fC<|.str "end")<|aa (aM<|aa (aH 0)<|aa (fC<|.int 1) aA) aA) aA)
def v8:Zae:=
 (cA 1 [3] (uH<|aa (ak 3) aA) (hName 0) gR qj)
def bY (φ__law_lowest:Zac)(φ__law_named:Zac)(φ__law_row:Zac)(l_2:Zae):Zab:=
 (aJ (gIf (aL gEq (ak 0)<|fC<|.int 0) (aJ (bj 3<|aB cF (fC<|.int 61)<|aB cz (ak 1)<|fC<|.int 4)
 (bz<|aM<|aa (fC<|.str "deal")<|aa (aB gIx (ak 2)<|fC<|.int 0)<|aa (aR jU<|aa l_2 aA) aA)) gNx)
 (aJ (gIf (aL gEq (ak 0)<|fC<|.int 1) (bz<|fFn φ__law_row<|aa (aB cF (fC<|.int 10)<|aB cz (ak 1)<|fC<|.int 4)<|aa (aB dZ (ak 1)<|fC<|.int 4)<|aa (aH 2) aA) gNx)
 (aJ (gIf (aL gEq (ak 0)<|fC<|.int 2) (bz<|fFn φ__law_named<|aa (aB cF (fC<|.int 1)<|aB cz (ak 1)<|fC<|.int 2)<|aa (aH 2)<|aa (aB wj (eG<|aa (aB cF (fC<|.int 1)<|aB cz (aB dZ (ak 1)<|fC<|.int 6)<|fC<|.int 2) aA)<|aB cF (fC<|.int 7)<|aB cz (aB dZ (ak 1)<|fC<|.int 2)<|fC<|.int 3) aA) gNx)
 (aJ (gIf (aL gEq (ak 0)<|fC<|.int 3) (aJ (bj 4<|eG<|aa (eG<|aa (fC<|.int 6)<|aa (fC<|.int 6)<|aa (fC<|.int 6)<|aa (fC<|.int 5) aA)<|aa (eG<|aa (fC<|.int 6)<|aa (fC<|.int 6)<|aa (fC<|.int 6)<|aa (fC<|.int 6) aA)<|aa (eG<|aa (fC<|.int 6)<|aa (fC<|.int 6)<|aa (fC<|.int 6)<|aa (fC<|.int 6)<|aa (fC<|.int 1) aA)<|aa (aB wj (eG<|aa (fC<|.int 3) aA)<|fC<|.int 8)<|aa (aB cF (eG<|aa (fC<|.int 4) aA)<|aB wj (eG<|aa (fC<|.int 3) aA)<|fC<|.int 7)<|aa (eG<|aa (fC<|.int 6)<|aa (fC<|.int 6)<|aa (fC<|.int 6)<|aa (fC<|.int 6)<|aa (fC<|.int 2) aA) aA)
 (bz<|fFn φ__law_named<|aa (aB cF (fC<|.int 1)<|aB cz (ak 1)<|fC<|.int 2)<|aa (aH 2)<|aa (aB gIx (ak 4)<|aB cz (aB dZ (ak 1)<|fC<|.int 2)<|fC<|.int 6) aA)) gNx)
 (aJ (gIf (aL gEq (ak 0)<|fC<|.int 4) (aJ (bj 5<|aB gIx (eG<|aa (fC<|.int 999999999999)<|aa (fC<|.int 1000000000000)<|aa (aB mj (fC<|.int 0)<|fC<|.int 999999999999)<|aa (aB mj (fC<|.int 0)<|fC<|.int 1000000000000)<|aa (aB mj (fC<|.int 0)<|aB Fx (fC<|.int 10)<|fC<|.int 40)<|aa (aB cF (aB Fx (fC<|.int 10)<|fC<|.int 15)<|fC<|.int 1) aA)<|aB cz (ak 1)<|fC<|.int 6)
 (aJ (gIf (aL gEq (aB cz (aB dZ (ak 1)<|fC<|.int 6)<|fC<|.int 2)<|fC<|.int 1) (bz<|aM<|aa (fC<|.str "end")<|aa (fFn φ__law_lowest<|aa (aB cF (fC<|.int 1)<|aB cz (aB dZ (ak 1)<|fC<|.int 12)<|fC<|.int 100000)<|aa (aB cF (fC<|.int 998)<|aB cz (aB dZ (ak 1)<|fC<|.int 48)<|fC<|.int 4) aA) aA) gNx)
 (bz<|aM<|aa (fC<|.str "end")<|aa (aM<|aa (aH 5)<|aa (fC<|.int 1) aA) aA))) gNx)
 (aJ (gIf (aL gEq (ak 0)<|fC<|.int 5) (aJ (bj 6<|aB cF (fC<|.int 998)<|aB cz (ak 1)<|fC<|.int 4)
 (aJ (bj 7<|fFn φ__law_lowest<|aa (aB cF (fC<|.int 1)<|aB cz (aB dZ (ak 1)<|fC<|.int 4)<|fC<|.int 900)<|aa (aH 6) aA)
 (aJ (bj 8<|fFn φ__law_lowest<|aa (aB mj (aB mj (ak 6)<|fC<|.int 1)<|aB cz (aB dZ (ak 1)<|fC<|.int 4)<|fC<|.int 900)<|aa (aH 6) aA)
 (bz<|aM<|aa (fC<|.str "deal")<|aa (aB gIx (ak 2)<|fC<|.int 1)<|aa (aM<|aa (aM<|aa (aH 7)<|aa (aM<|aa (fC<|.str "end")<|aa (aM<|aa (fC<|.int 0)<|aa (fC<|.int 1) aA) aA) aA)<|aa (aM<|aa (aH 8)<|aa (aM<|aa (fC<|.str "end")<|aa (aM<|aa (fC<|.int 1)<|aa (fC<|.int 1) aA) aA) aA) aA) aA)))) gNx)
 (bz<|fFn φ__law_named<|aa (aB cF (fC<|.int 1)<|aB cz (ak 1)<|fC<|.int 2)<|aa (aH 2)<|aa (eG<|aa (fC<|.int 2)<|aa (fC<|.int 3) aA) aA)))))))
def zu:Zab:=
 (bY iD nZ sJ v8)
def mV:Zac:=bc 9 3 zu
def oK:Zae:=
 (aB cF (fSl (aB gIx (ak 1)<|fC<|.int 0) fO0<|fO1<|fC<|.int 7)<|aR aaW<|aa (ak 0) aA)
def lu:Zae:=
 (cA 1 [1] (uH<|aa (fC<|.int 9) aA) (hName 0) gR oK)
def jm (φ__law_cell_at:Zac)(φ__law_pool:Zac)(φ__law_near:Zac)(l_2:Zae):Zab:=
 (aJ (bj 1<|fFn φ__law_pool<|aa (fFn φ__law_cell_at<|aa (aH 0)<|aa (fC<|.int 0) aA)<|aa (fFn φ__law_cell_at<|aa (aH 0)<|aa (fC<|.int 1) aA) aA)
 (aJ (bj 2 l_2)
 (aJ (bj 3<|fFn φ__law_cell_at<|aa (aH 0)<|aa (fC<|.int 2) aA)
 (aJ (bj 4<|fFn φ__law_near<|aa (aB cz (ak 3)<|fC<|.int 7)<|aa (fFn φ__law_cell_at<|aa (aH 0)<|aa (fC<|.int 3) aA)<|aa (aH 2) aA)
 (aJ (bj 5<|fFn φ__law_cell_at<|aa (aH 0)<|aa (fC<|.int 4) aA)
 (aJ (gIf (aL gEq (aB cz (ak 5)<|fC<|.int 4)<|fC<|.int 1) (aJ (bj 6<|aM<|aa (fC<|.str "deal")<|aa (aB gIx (ak 2)<|fC<|.int 2)<|aa (aM<|aa (aM<|aa (aM<|aa (fC<|.int 1)<|aa (fC<|.int 2) aA)<|aa (aM<|aa (fC<|.str "end")<|aa (aM<|aa (fC<|.int 3)<|aa (fC<|.int 1) aA) aA) aA)<|aa (aM<|aa (aM<|aa (fC<|.int 1)<|aa (aB cF (fC<|.int 3)<|aB cz (aB dZ (ak 5)<|fC<|.int 4)<|fC<|.int 5) aA)<|aa (aM<|aa (fC<|.str "end")<|aa (aM<|aa (fC<|.int 0)<|aa (fC<|.int 1) aA) aA) aA) aA) aA)
 (bj 4<|aM<|aa (fC<|.str "move")<|aa (aB cF (fC<|.int 1)<|aB cz (aB dZ (ak 5)<|fC<|.int 20)<|fC<|.int 2)<|aa (aB cF (aB gIx (ak 1)<|fC<|.int 0)<|fSl (fC<|.str "x") fO0<|fO1<|aR KC<|aa (qH gLt (aR dI<|aa (aB gIx (ak 1)<|fC<|.int 0) aA)<|fC<|.int 8) aA)<|aa (aM<|aa (aM<|aa (aB gIx (ak 2)<|fC<|.int 0)<|aa (aH 4) aA)<|aa (aM<|aa (aB gIx (ak 2)<|fC<|.int 1)<|aa (aH 6) aA) aA) aA)) gNx)
 (aJ (gIf (aL gIn (aB cz (aB dZ (ak 3)<|fC<|.int 7)<|fC<|.int 4)<|aM<|aa (fC<|.int 1)<|aa (fC<|.int 2) aA) (bj 4<|aM<|aa (fC<|.str "deal")<|aa (aB gIx (ak 2)<|fC<|.int 3)<|aa (aM<|aa (aM<|aa (aM<|aa (fC<|.int 1)<|aa (fC<|.int 2) aA)<|aa (aM<|aa (fC<|.str "end")<|aa (aM<|aa (fC<|.int 1)<|aa (fC<|.int 2) aA) aA) aA)<|aa (aM<|aa (aM<|aa (fC<|.int 1)<|aa (fC<|.int 2) aA)<|aa (aH 4) aA) aA) aA) gNx)
 (aJ (gIf (aL gEq (aB cz (aB dZ (ak 3)<|fC<|.int 7)<|fC<|.int 4)<|fC<|.int 3) (bj 4<|aM<|aa (fC<|.str "move")<|aa (aB cF (fC<|.int 1)<|aB cz (aB dZ (ak 3)<|fC<|.int 28)<|fC<|.int 2)<|aa (aB gIx (ak 2)<|fC<|.int 8)<|aa (aM<|aa (aM<|aa (aB gIx (ak 2)<|fC<|.int 8)<|aa (aH 4) aA) aA) aA) gNx)
 (bz<|aH 4)))))))))
def xP:Zab:=
 (jm fH mY mV lu)
def tD:Zac:=bc 7 1 xP
def O6 (φ__law_due:Zac)(φ__law_told:Zac)(φ__law_drawn:Zac):Zab:=
 (aJ (bj 1<|fFn φ__law_drawn<|aa (aH 0) aA)
 (aJ (bj 2<|fFn φ__law_due<|aa (aH 1) aA)
 (bz<|Rn (qH gEq (fFn φ__law_told<|aa (aH 1) aA)<|ak 2)<|qH gEq (fFn φ__law_told<|aa (aH 1) aA)<|ak 2)))
def YF:Zab:=
 (O6 lW pN tD)
def Yo:Zac:=bc 3 1 YF
end
abbrev TG:Xn:=("TooGreat",[],[])
theorem Tz {α:Type}(b:α->Bool)(l:List α):Vf [.lst<|l.map λx=>D.bl<|b x]=some (.bl<|l.any b):=by
 have:=vH (f:=λx=>D.bl<|b x) (b:=b) l λ_ _=>rfl
 show(pR<|l.map _).map (λbs=>D.bl<|bs.any id)=_;rw[this];simp[rh]
def vV (g:Gm):Bool:=(plG [] g).any λp=>decide<|12<p.1.length
theorem rgp {g:Gm}(h:gD g)(hd:dp g<=50)(hz:szG g<=10000):cM [dG g]=if(decide (64<szG g)||vV g)=true then .exc TG else .ok (false,.non):=by
 have e:=places_eq h (by omega) (by omega);have hl:(plG [] g).length=szG g:=Af _ g;have ec:dY (eN 2<|aU (hName 0)<|aU (hName 1) eO) gR gF [.un,.un] ((plG [] g).map pD)=.ok ((plG [] g).map λp=>.bl<|decide<|12<p.1.length):=eV _ λp hp=>by
  refine⟨[.fz<|.tup<|p.1.map D.int,.fz<|dG p.2],rfl,rfl,?_⟩;have q:decide ((12:Int)<(p.1.length:Int))=decide (12<p.1.length):=decide_eq_decide.mpr (by omega);simp[gF,qH,aR,dI,aa,aA,ak,fC,gGt,q]
 have z1:(plG [] g).length<=16777216:=by omega
 have eq:gP [.fz<|dG g,.fz<|.lst<|(plG [] g).map pD]=.ok (.lst<|(plG [] g).map λp=>.bl<|decide<|12<p.1.length):=by
  simp[gP,cA,eE,ak,cMe,ec,z1]
 have ea:=Tz (λp:List Int×Gm=>decide<|12<p.1.length)<|plG [] g;by_cases q1:64<szG g
 ·have q2:(64:Int)<((plG [] g).length:Int):=by omega
  simp[cM,dD,dC,bc,aJ,bj,fFn,aa,aA,aH,e,gIf,aL,aR,dI,ak,fC,gGt,q1,q2,lr,fM]
 ·have q2:¬(64:Int)<((plG [] g).length:Int):=by omega
  by_cases q3:vV g=true
  ·have q4:=q3;unfold vV at q4;rw[q4] at ea;simp[cM,dD,dC,bc,aJ,bj,fFn,aa,aA,aH,e,gIf,aL,aR,dI,ak,fC,gGt,q1,q2,q3,lr,fM,gNx,fTv,eq,ea]
  ·have q4:vV g=false:=by simpa using q3
   have q5:=q4;unfold vV at q5;rw[q5] at ea;simp[cM,dD,dC,bc,aJ,bj,fFn,aa,aA,aH,e,gIf,aL,aR,dI,ak,fC,gGt,q1,q2,q4,lr,fM,gNx,fTv,eq,ea]
abbrev P (g:Gm):List Tr:=prG [] ([],[]) g
abbrev tb (g:Gm):List D:=(tbl<|P g).2
def nR (l:List D)(s:Int):Nat:=(l.filter λd=>decide<|sdD d=s).length
def nW (l:List D)(s:Int):Int:=((l.filter λd=>decide<|sdD d=s).map λd=>(wdD d:Int)).sum
def uC (l:List D)(s:Int):Bool:=decide (8<nR l s)||decide (24<nW l s)
theorem Mh (g:Gm):(tb g).length<=szG g:=by
 have:∀(l:List Tr) (T:Tb),(l.foldl tst T).2.length<=T.2.length+l.length:=by
  intro l;induction l with
  |nil=>intro T;simp
  |cons p l ih=>
   intro T
   have:=ih<|tst T p
   have q:(tst T p).2.length<=T.2.length+1:=by
    unfold tst;split
    ·split<;>simp
    ·omega
   simp only[kT,c8];omega
 have:=this (P g) ([],[])
 rw[uL] at this;have e:(tb g).length=((P g).foldl tst ([],[])).2.length:=rfl;rw[e];simpa using this
theorem Uo {g:Gm}{s:Int}{s2:Sl}(h:gD g)(hs:sdG g)(hd:dp g<=50)(hz:szG g<=10000):
  ∃s2',cH [.fz<|dG g,.fz<|.int s,s2]=if uC (tb g) s=true then .exc TG else .ok (.nx,[.fz<|dG g,.fz<|.int s,s2']):=by
 have e:=V7 (s:=s) h hs hd hz;have hq:nR (tb g) s=((tb g).filter λd=>decide<|sdD d=s).length:=rfl;have hw:nW (tb g) s=(((tb g).filter λd=>decide<|sdD d=s).map λd=>(wdD d:Int)).sum:=rfl;have ω:((tb g).filter λd=>decide<|sdD d=s).length<=10000:=cy (xy _ _)<|cy (Mh g) hz;unfold uC;generalize hl:((tb g).filter λd=>decide<|sdD d=s)=l at *;have hr:∀d∈l,Ri d:=λd hd=>by rw[← hl] at hd;exact GD (vc.mp hd).1
 have ec:=count_eq hr ω;refine⟨.fz<|.lst l,?_⟩;rw[hq,hw];by_cases q1:8<l.length
 ·have q2:(8:Int)<(l.length:Int):=by omega
  simp[cH,aJ,bj,fFn,aa,aA,aH,e,gIf,aL,aR,dI,ak,fC,gGt,q1,q2,lr,fM]
 ·have q2:¬(8:Int)<(l.length:Int):=by omega
  by_cases q3:(24:Int)<(l.map λd=>(wdD d:Int)).sum
  ·simp[cH,aJ,bj,fFn,aa,aA,aH,e,gIf,aL,aR,dI,ak,fC,gGt,q1,q2,q3,gNx,ec,lr,fM]
  ·simp[cH,aJ,bj,fFn,aa,aA,aH,e,gIf,aL,aR,dI,ak,fC,gGt,q1,q2,q3,gNx,ec,lr,fM]
theorem xG {h:Zba}{g:Zab}{d:D}{ds:List D}{m m1:Me}{c:Xn}(h1:h d m=some m1)(h2:g m1=.exc c):bL h g (d::ds) m=.exc c:=by
 unfold bL;rw[h1];simp only[];rw[h2]
theorem rgt {g:Gm}(h:gD g)(hs:sdG g)(hd:dp g<=50)(hz:szG g<=10000):cT [dG g]=if(uC (tb g) 1||uC (tb g) 2)=true then .exc TG else .ok (false,.non):=by
 obtain⟨a,e1⟩:=Uo (s:=1) (s2:=.un) h hs hd hz;have ei:jQ (aM<|aa (fC<|.int 1)<|aa (fC<|.int 2) aA) [.fz<|dG g,.un,.un]=.ok [.int 1,.int 2]:=rfl;have eL:iu [.fz<|dG g,.un,.un]=bL (hName 1) cH [.int 1,.int 2] [.fz<|dG g,.un,.un]:=by
  unfold iu fB;rw[ei];rfl
 by_cases q1:uC (tb g) 1=true
 ·rw[if_pos q1] at e1;rw[xG (m1:=[.fz<|dG g,.fz<|.int 1,.un]) rfl e1] at eL;simp[cT,dX,d7,bc,eL,q1]
 ·rw[if_neg q1] at e1;obtain⟨b,e2⟩:=Uo (s:=2) (s2:=a) h hs hd hz;rw[bI (m1:=[.fz<|dG g,.fz<|.int 1,.un]) rfl e1] at eL;by_cases q2:uC (tb g) 2=true
  ·rw[if_pos q2] at e2;rw[xG (m1:=[.fz<|dG g,.fz<|.int 2,a]) rfl e2] at eL;simp[cT,dX,d7,bc,eL,q2]
  ·rw[if_neg q2] at e2;rw[bI (m1:=[.fz<|dG g,.fz<|.int 2,a]) rfl e2] at eL;simp[cT,dX,d7,bc,eL,q1,q2,bL]
def grQ (d:Q2):Bool:=decide (999999999999<d.1.natAbs)||decide (999<d.2)
theorem RZ (d:Q2):ph [qD d]=.ok (false,.bl<|grQ d):=by
 have x0:∀a b:D,atI [a,b] 0=some a:=λ_ _=>rfl;have x1:∀a b:D,atI [a,b] 1=some b:=λ_ _=>rfl;unfold grQ;by_cases q1:999999999999<d.1.natAbs
 ·have q1':(999999999999:Int)<(if d.1<0 then -d.1 else d.1):=by split<;>omega
  simp[ph,ue,sy,bc,bz,Me.let,Sl.let,fOr,fTv,qH,aR,yF,aa,aA,aB,ak,fC,gIx,qD,x0,x1,gGt,q1,q1']
 ·have q1':¬(999999999999:Int)<(if d.1<0 then -d.1 else d.1):=by split<;>omega
  simp[ph,ue,sy,bc,bz,Me.let,Sl.let,fOr,fTv,qH,aR,yF,aa,aA,aB,ak,fC,gIx,qD,x0,x1,gGt,q1,q1']
def okW:Gm->Prop
 | .fin _=>True
 | .deal n ws=>Nm n/\∃l:List Rat,fY ws=l.map rD/\(∀x∈l,Sz 20 x)/\l.length<=66
 | .move _ n ws=>Nm n/\∃xs:List Str,fY ws=xs.map D.str/\∀x∈xs,Nm x
def lq:D->Q2
 | .tup [.int a,.int b]=>(a,b)
 |_=>(0,1)
def frs:Gm->List Q2
 | .fin d=>[d]
 | .deal _ ws=>(fY ws).map lq
 | .move _ _ _=>[]
def grG (g:Gm):Bool:=(frs g).any grQ
theorem R7 {g:Gm}(hw:okW g)(hl:gD g):cZ [dG g]=.ok (true,.lst<|(frs g).map qD)/\(frs g).length<=1000:=by
 cases g with
 |fin d=>exact⟨aa7,by simp[frs]⟩
 |deal n ws=>
  obtain⟨_,l,e,_,hz⟩:=hw;refine⟨?_,?_⟩
  ·rw[Ms hl.1,frs,e];simp only[fF];rfl
  ·simp[frs,e];omega
 |move s n ws=>exact⟨VD,by simp[frs]⟩
theorem aaF {g0:Sl}{w:D}{g:Gm}(hw:okW g)(hl:gD g):dg [g0,.fz w,.fz<|dG g]=if grG g=true then .exc TG else .ok (.nx,[g0,.fz w,.fz<|dG g]):=by
 obtain⟨e,hz⟩:=R7 hw hl;have ec:dY (hName 0) gR fJ [.un] ((frs g).map qD)=.ok ((frs g).map λd=>.bl<|grQ d):=eV _ λd hd=>by
  refine⟨[.fz<|qD d],rfl,rfl,?_⟩;simp[fJ,fFn,aa,aA,aH,RZ d]
 have z1:(frs g).length<=16777216:=by omega
 have eq:fQ [g0,.fz w,.fz<|dG g]=.ok (.lst<|(frs g).map λd=>.bl<|grQ d):=by
  simp[fQ,cA,eE,fFn,aa,aA,aH,e,cMe,ec,z1]
 have ea:=Tz grQ<|frs g;unfold grG;cases q:(frs g).any grQ<;>(rw[q] at ea;simp[dg,gIf,fTv,aR,aa,aA,eq,ea,gNx,lr,fM,fC])
theorem Q9 {g0:Sl}:∀(l:List (List Int×Gm)) (s1 s2:Sl),(∀p∈l,okW p.2/\gD p.2)->∃s1' s2',bL (eN 2<|aU (hName 1)<|aU (hName 2) eO) dg (l.map pD) [g0,s1,s2]=if l.any (λp=>grG p.2)=true then .exc TG else .ok (.nx,[g0,s1',s2'])
 |[],s1,s2,_=>⟨s1,s2,rfl⟩
 |p::l,s1,s2,h=>by
  obtain⟨h1,h2⟩:=h p ar;have e1:=aaF (g0:=g0) (w:=.tup<|p.1.map D.int) h1 h2;by_cases q:grG p.2=true
  ·rw[if_pos q] at e1;exact⟨s1,s2,by rw[aT,xG (m1:=[g0,.fz<|.tup<|p.1.map D.int,.fz<|dG p.2]) rfl e1];simp[q]⟩
  ·rw[if_neg q] at e1;obtain⟨a,b,e⟩:=Q9 l (.fz<|.tup<|p.1.map D.int) (.fz<|dG p.2) λq hq=>h q<|ai _ hq;exact⟨a,b,by rw[aT,bI (m1:=[g0,.fz<|.tup<|p.1.map D.int,.fz<|dG p.2]) rfl e1,e];rw[kB,(show grG p.2=false by simpa using q),tf]⟩
def grA (g:Gm):Bool:=(plG [] g).any λp=>grG p.2
theorem rgf {g:Gm}(h:gD g)(hd:dp g<=50)(hz:szG g<=10000)(hf:∀p∈plG [] g,okW p.2/\gD p.2):dU [dG g]=if grA g=true then .exc TG else .ok (false,.non):=by
 have e:=places_eq h hd (by omega);obtain⟨a,b,e2⟩:=Q9 (g0:=.fz<|dG g) (plG [] g) .un .un hf;have eL:fG [.fz<|dG g,.un,.un]=if grA g=true then .exc TG else .ok (.nx,[.fz<|dG g,a,b]):=by
  have e1:eE (fFn iQ<|aa (aH 0) aA) [.fz<|dG g,.un,.un]=.ok ((plG [] g).map pD):=by
   simp[eE,fFn,aa,aA,aH,e]
  unfold fG fB;rw[e1];exact e2
 cases q:grA g<;>(rw[q] at eL;simp[dU,gk,gq,bc,eL])
theorem rC {d e:D}{p q:oT}(h1:okD d=true)(h2:okD e=true)(d1:gJ d<=64)(d2:gJ e<=64)(e1:toPy d=some p)(e2:toPy e=some q):lV d e=some (fN p q):=by
 obtain⟨p',a1,a2,a3,_⟩:=w6 d h1;obtain⟨q',b1,b2,b3,_⟩:=w6 e h2;cases a1.symm.trans e1;cases b1.symm.trans e2;unfold lV;rw[e1,e2];have s1:gS p=true:=by unfold gS;rw[a2,decide_eq_true<|by omega];rfl
 have s2:gS q=true:=by unfold gS;rw[b2,decide_eq_true<|by omega];rfl
 simp[s1,s2]
theorem z9 {α:Type}[DecidableEq α](φ:α->oT)(h:∀a b,fN (φ a) (φ b)=decide (a=b)):∀as bs:List α,kG (as.map φ) (bs.map φ)=decide (as=bs)
 |[],[]=>rfl
 |[],_::_=>rfl
 |_::_,[]=>rfl
 |a::as,b::bs=>by
  simp only[aT,kG,h,z9 φ h as bs];by_cases q1:a=b<;>by_cases q2:as=bs<;>simp[q1,q2]
theorem wN {α:Type}{f:α->D}{φ:α->oT}(h:∀a,toPy (f a)=some (φ a)):∀as:List α,mU (as.map f)=some (as.map φ)
 |[]=>by simp[mU]
 |a::as=>by simp[mU,h,wN h as]
def prD (p:Str×Str):D:=.tup [.str p.1,.str p.2]
def prP (p:Str×Str):oT:=.tuple [.str p.1,.str p.2]
theorem Yu (p:Str×Str):toPy (prD p)=some (prP p):=by simp[prD,prP,toPy,mU]
theorem ZR (a b:Str×Str):fN (prP a) (prP b)=decide (a=b):=by
 obtain⟨a1,a2⟩:=a;obtain⟨b1,b2⟩:=b;simp only[prP,fN,kG,Bool.and_true];by_cases q1:a1=b1<;>by_cases q2:a2=b2<;>simp[q1,q2]
theorem Lz (a b:Str):fN (.str a) (.str b)=decide (a=b):=by simp[fN];rfl
theorem uU {α:Type}{f:α->D}:∀{as:List α},(∀a∈as,okD (f a)=true)->rn (as.map f)=true
 |[],_=>rfl
 |a::as,h=>by simp[rn,h a ar,uU λb hb=>h b<|ai _ hb]
theorem rH {α:Type}{f:α->D}{k:Nat}:∀{as:List α},(∀a∈as,gJ (f a)<=k)->ju (as.map f)<=k
 |[],_=>fS _
 |a::as,h=>by simp only[aT,ju];exact Nat.max_le.mpr ⟨h a ar,rH λb hb=>h b<|ai _ hb⟩
abbrev nms (xs:List Str):Prop:=∀x∈xs,Nm x
abbrev η (rc:List (Str×Str)):Prop:=∀p∈rc,Nm p.1/\Nm p.2
theorem okS {xs:List Str}(h:nms xs):rn (xs.map D.str)=true/\ju (xs.map D.str)<=0:=⟨uU λa ha=>by simp only[okD];exact h a ha,rH λa _=>by simp[gJ]⟩
theorem Va {rc:List (Str×Str)}(h:η rc):rn (rc.map prD)=true/\ju (rc.map prD)<=1:=
 ⟨uU λp hp=>by simp[prD,okD,rn,(show d5 p.1=true from(h p hp).1),(show d5 p.2=true from(h p hp).2)],rH λp _=>by simp[prD,gJ,ju]⟩
theorem abR {xs ys:List Str}(h1:nms xs)(h2:nms ys):gNe (.tup<|xs.map D.str) (.tup<|ys.map D.str)=some (decide<|xs≠ys):=by
 have e:=rC (d:=.tup<|xs.map D.str) (e:=.tup<|ys.map D.str) (p:=.tuple<|xs.map nK) (q:=.tuple<|ys.map nK) (by simpa[okD] using(okS h1).1) (by simpa[okD] using(okS h2).1) (by have:=(okS h1).2;simp[gJ];omega) (by have:=(okS h2).2;simp[gJ];omega)
  (by simp[toPy,wN (f:=D.str) (φ:=nK) (λ_=>by simp[toPy]) xs]) (by simp[toPy,wN (f:=D.str) (φ:=nK) (λ_=>by simp[toPy]) ys])
 show(lV _ _).map _=_;rw[e,fN,z9 _ Lz]
 simp
theorem Yt {xs ys:List Str}(h1:nms xs)(h2:nms ys):gNe (.lst<|xs.map D.str) (.lst<|ys.map D.str)=some (decide<|xs≠ys):=by
 have e:=rC (d:=.lst<|xs.map D.str) (e:=.lst<|ys.map D.str) (p:=.list<|xs.map nK) (q:=.list<|ys.map nK) (by simpa[okD] using(okS h1).1) (by simpa[okD] using(okS h2).1) (by have:=(okS h1).2;simp[gJ];omega) (by have:=(okS h2).2;simp[gJ];omega)
  (by simp[toPy,wN (f:=D.str) (φ:=nK) (λ_=>by simp[toPy]) xs]) (by simp[toPy,wN (f:=D.str) (φ:=nK) (λ_=>by simp[toPy]) ys])
 show(lV _ _).map _=_;rw[e,fN,z9 _ Lz]
 simp
theorem Ra {xs ys:List (Str×Str)}(h1:η xs)(h2:η ys):gNe (.tup<|xs.map prD) (.tup<|ys.map prD)=some (decide<|xs≠ys):=by
 have e:=rC (d:=.tup<|xs.map prD) (e:=.tup<|ys.map prD) (p:=.tuple<|xs.map prP) (q:=.tuple<|ys.map prP) (by simpa[okD] using(Va h1).1) (by simpa[okD] using(Va h2).1) (by have:=(Va h1).2;simp[gJ];omega) (by have:=(Va h2).2;simp[gJ];omega)
  (by simp[toPy,wN Yu xs]) (by simp[toPy,wN Yu ys])
 show(lV _ _).map _=_;rw[e,fN,z9 _ ZR]
 simp
def Lk (l:List Rat):Bool:=l.all (λx=>decide<|0<x.num)&&decide (l.sum=1)
theorem aaD {α:Type}(b:α->Bool)(l:List α):QG [.lst<|l.map λx=>D.bl<|b x]=some (.bl<|l.all b):=by
 have:=vH (f:=λx=>D.bl<|b x) (b:=b) l λ_ _=>rfl
 show(pR<|l.map _).map (λbs=>D.bl<|bs.all id)=_;rw[this];simp[List.all_map]
theorem aco (x y:Rat):gEq (rD x) (rD y)=some (decide<|x=y):=by
 have e:=rC (d:=.tup [.int x.num,.int x.den]) (e:=.tup [.int y.num,.int y.den]) (p:=.tuple [.int x.num,.int x.den]) (q:=.tuple [.int y.num,.int y.den]) (by simp[okD,rn]) (by simp[okD,rn]) (by simp[gJ,ju]) (by simp[gJ,ju]) (by simp[toPy,mU]) (by simp[toPy,mU]);show lV (.tup [.int x.num,.int x.den]) (.tup [.int y.num,.int y.den])=_;rw[e];simp only[fN,kG,Bool.and_true];by_cases q:x=y
 ·subst q;simp
 ·have:¬(x.num=y.num/\(x.den:Int)=y.den):=λz=>q (Rat.ext z.1<|by omega)
  simp only[decide_eq_false q];by_cases q1:x.num=y.num
  ·have q2:¬(x.den:Int)=y.den:=λz=>this ⟨q1,z⟩;simp[q1,q2]
  ·simp[q1]
theorem Qt {l:List Rat}(h:∀x∈l,Sz 20 x)(hz:l.length<=66):oh [.lst<|l.map rD]=.ok (false,.bl<|Lk l):=by
 have et:=Qz (k:=20) h (by omega) (by omega);have ec:dY (hName 0) gR pq [.un] (l.map rD)=.ok (l.map λx=>.bl<|decide<|0<x.num):=eV l λx hx=>by
  refine⟨[.fz<|rD x],rfl,rfl,?_⟩;have eu:=Qv M9 (h x hx) (by omega);have e0:rD 0=.tup [.int 0,.int 1]:=rfl;have q:decide ((0:Rat).num*x.den<x.num*(0:Rat).den)=decide (0<x.num):=decide_eq_decide.mpr (by
   show 0*(x.den:Int)<x.num*1↔_;omega)
  rw[e0,q] at eu;simp[pq,fFn,aa,aA,fC,aH,eu]
 have z1:l.length<=16777216:=by omega
 have eq:oO [.fz<|.lst<|l.map rD]=.ok (.lst<|l.map λx=>.bl<|decide<|0<x.num):=by
  simp[oO,cA,eE,ak,cMe,ec,z1]
 have ea:=aaD (λx:Rat=>decide<|0<x.num) l;have eg:=aco l.sum 1;have e1:rD 1=.tup [.int 1,.int 1]:=rfl;rw[e1] at eg;unfold Lk;cases q:l.all (λx=>decide<|0<x.num)<;>(rw[q] at ea;simp[oh,sU,tW,bc,bz,Me.let,Sl.let,Rn,fTv,aR,aa,aA,eq,ea,qH,fFn,aH,et,fC,eg])
def sS:D->Str
 | .str x=>x
 |_=>""
def prS:D->Str×Str
 | .tup [.str a,.str b]=>(a,b)
 |_=>("", "")
def wsS (ws:Ws):List Str:=(fY ws).map sS
def abb (ws:Ws):List Rat:=(fY ws).map λd=>c4 (lq d).1 (lq d).2
def wy (w:List Int):D:=.tup<|w.map D.int
structure Fi where
 s:Int
 n:Str
 w:List Int
 wd:List Str
 rc:List (Str×Str)
def fiK (f:Fi):List Kt:=kn f.s f.n
def fiD (f:Fi):D:=.tup [wy f.w,.tup [.int f.s,.str f.n,.tup<|f.wd.map D.str,.tup<|f.rc.map prD]]
def fiL (f:Fi):D:=.tup [wy f.w,.lst<|f.wd.map D.str,.tup<|f.rc.map prD]
def fd1 (F:List Fi)(s:Int)(n:Str):Option Fi:=F.find? λf=>decide<|f.s=s/\f.n=n
theorem T9 (φ:Fi->D)(s:Int)(n:Str):∀F:List Fi,dW (F.map fiK) (F.map φ) (kn s n)=(fd1 F s n).map φ
 |[]=>rfl
 |f::F=>by
  have ih:=T9 φ s n F;unfold fd1 at ih ⊢;simp only[aT,dW,ki];by_cases q:f.s=s/\f.n=n
  ·rw[decide_eq_true q,if_pos (by obtain⟨rfl,rfl⟩:=q;rfl)];rfl
  ·rw[decide_eq_false q,if_neg<|show ¬fiK f=kn s n from λz=>q<|Zm z];exact ih
theorem O4 {F:List Fi}{s:Int}{n:Str}{f:Fi}(h:fd1 F s n=some f):f∈F/\f.s=s/\f.n=n:=by
 have a:=List.mem_of_find?_eq_some h;have b:=List.find?_some h;exact⟨a,of_decide_eq_true b⟩
def Yc (s:Int)(n:Str)(ws:Ws)(w:List Int)(r:Rc):Fi:=⟨s,n,w,wsS ws,(xW r s).map prS⟩
def stp (p:Tr)(F:List Fi):Xn ⊕ List Fi:=match p.2.1 with
 | .fin _=>.inr F
 | .deal _ ws=>if Lk (abb ws)=true then .inr F else .inl ("NoShares",["way"],[wy p.1])
 | .move s n ws=>match fd1 F s n with
  |none=>.inr<|F++[Yc s n ws p.1 p.2.2]
  |some f=>if f.wd≠wsS ws then .inl ("Unlike",["one", "other"],[wy f.w,wy p.1]) else if f.rc≠(xW p.2.2 s).map prS then .inl ("Forgets",["one", "other"],[wy f.w,wy p.1]) else .inr F
def scan:List Tr->List Fi->Option Xn
 |[],_=>none
 |p::l,F=>match stp p F with
  | .inl x=>some x
  | .inr F'=>scan l F'
def rcG (r:Rc):Prop:=∃a b:List (Str×Str),r.1=a.map prD/\r.2=b.map prD/\η a/\η b
structure okQ (p:Tr):Prop where
 pp:okP p
 w:okW p.2.1
 l:gD p.2.1
 r:rcG p.2.2
def Qx (F:List Fi):Prop:=∀f∈F,nms f.wd/\η f.rc
theorem JF {ws:Ws}{xs:List Str}(e:fY ws=xs.map D.str):wsS ws=xs:=by
 unfold wsS;rw[e,fF];exact(md λ_ _=>rfl).trans (qh _)
theorem Gh (a:List (Str×Str)):(a.map prD).map prS=a:=by
 rw[fF];exact(md λ_ _=>rfl).trans (qh _)
theorem U7 {r:Rc}(h:rcG r)(s:Int):∃a,xW r s=a.map prD/\η a:=by
 obtain⟨a,b,e1,e2,h1,h2⟩:=h;unfold xW;split
 ·exact⟨a,e1,h1⟩
 ·exact⟨b,e2,h2⟩
theorem MF {ws:Ws}{l:List Rat}(e:fY ws=l.map rD):abb ws=l:=by
 unfold abb;rw[e,fF];refine(md λx _=>?_).trans (qh _);show c4 x.num (x.den:Int)=x;exact mw x
theorem Z8 {s:Int}{n:Str}{ws:Ws}{r:Rc}{w:List Int}(hw:okW (.move s n ws))(hr:rcG r):qu s n ws r=.tup [.int s,.str n,.tup<|(wsS ws).map D.str,.tup<|((xW r s).map prS).map prD]/\nms (wsS ws)/\η ((xW r s).map prS):=by
 obtain⟨_,xs,e,hx⟩:=hw;obtain⟨a,ea,ha⟩:=U7 hr s;rw[JF e,ea,Gh];unfold qu;rw[e,ea];exact⟨rfl,hx,ha⟩
theorem G8 (w:List Int):El (wy w)=true:=by
 unfold wy El;simp[flat]
theorem Ed {f:Fi}{w:List Int}{s:Int}{n:Str}{wd:List Str}{rc:List (Str×Str)}(h1:nms f.wd)(h2:η f.rc)(h3:nms wd)(h4:η rc):
  cB [wy w,.tup [.int s,.str n,.tup<|wd.map D.str,.tup<|rc.map prD],wy f.w,.tup [.int f.s,.str f.n,.tup<|f.wd.map D.str,.tup<|f.rc.map prD]] =
   if f.wd≠wd then .exc ("Unlike",["one", "other"],[wy f.w,wy w]) else if f.rc≠rc then .exc ("Forgets",["one", "other"],[wy f.w,wy w]) else .ok (false,.non):=by
 have x2:∀a b c d:D,atI [a,b,c,d] 2=some c:=λ_ _ _ _=>rfl;have x3:∀a b c d:D,atI [a,b,c,d] 3=some d:=λ_ _ _ _=>rfl;have e1:=abR h3 h1;have e2:=Ra h4 h2;by_cases q1:f.wd=wd
 ·by_cases q2:f.rc=rc
  ·have a1:decide (wd≠f.wd)=false:=by simp[q1]
   have a2:decide (rc≠f.rc)=false:=by simp[q2]
   rw[a1] at e1;rw[a2] at e2;rw[if_neg (by simp[q1]),if_neg<|by simp[q2]];simp[cB,fK,fL,bc,aJ,gIf,aL,aB,ak,fC,gIx,x2,x3,e1,e2,gNx]
  ·have a1:decide (wd≠f.wd)=false:=by simp[q1]
   have a2:decide (rc≠f.rc)=true:=by simp;exact λz=>q2 z.symm
   rw[a1] at e1;rw[a2] at e2;rw[if_neg (by simp[q1]),if_pos q2];simp[cB,fK,fL,bc,aJ,gIf,aL,aB,ak,fC,gIx,x2,x3,e1,e2,gNx,tR,aa,aA,aH,G8]
 ·have a1:decide (wd≠f.wd)=true:=by simp;exact λz=>q1 z.symm
  rw[a1] at e1;rw[if_pos q1];simp[cB,fK,fL,bc,aJ,gIf,aL,aB,ak,fC,gIx,x2,x3,e1,gNx,tR,aa,aA,aH,G8]
theorem abX {g0 s2 s3 s4 s5 s6:Sl}{F:List Fi}{p:Tr}(hz:F.length<=100000)(hp:okQ p)(hF:Qx F):
  ∃m1,eN 3 (aU (hName 2)<|aU (hName 3)<|aU (hName 4) eO) (trD p) [g0,.ow<|.dcu (F.map fiK)<|F.map fiD,s2,s3,s4,s5,s6]=some m1/\
   match stp p F with
   | .inl x=>bQ m1=.exc x
   | .inr F'=>Qx F'/\F'.length<=F.length+1/\∃s5' s6',bQ m1=.ok (.nx,[g0,.ow<|.dcu (F'.map fiK)<|F'.map fiD,.fz<|wy p.1,.fz<|dG p.2.1,.fz<|rD2 p.2.2,s5',s6']):=by
 obtain⟨w,g,r⟩:=p;have x20:∀a b:D,atI [a,b] 0=some a:=λ_ _=>rfl;have x21:∀a b:D,atI [a,b] 1=some b:=λ_ _=>rfl;have x30:∀a b c:D,atI [a,b,c] 0=some a:=λ_ _ _=>rfl;have x40:∀a b c d:D,atI [a,b,c,d] 0=some a:=λ_ _ _ _=>rfl;have x41:∀a b c d:D,atI [a,b,c,d] 1=some b:=λ_ _ _ _=>rfl;have x42:∀a b c d:D,atI [a,b,c,d] 2=some c:=λ_ _ _ _=>rfl;refine⟨_,rfl,?_⟩;cases g with
 |fin d=>
  refine⟨hF,by omega,s5,s6,?_⟩;simp[bQ,aJ,gIf,fj,aL,aB,ak,fC,gIx,dG,x20,gNx,wy]
 |deal n ws=>
  obtain⟨_,l,el,hl,hlz⟩:=hp.w;have e1:=Ms (n:=n) hp.l.1;have e2:=Qt hl hlz;rw[← el] at e2;simp only[dG] at e1;simp only[stp,MF el];cases q:Lk l with
  |true=>
   rw[q] at e2;refine⟨hF,by omega,s5,s6,?_⟩;simp[bQ,aJ,gIf,fj,aL,aB,ak,fC,gIx,dG,x30,gNx,fD,fTv,fFn,aa,aA,aH,e1,e2,wy]
  |false=>
   rw[q] at e2
   have:=G8 w
   unfold wy at this;simp[bQ,aJ,gIf,fj,aL,aB,ak,fC,gIx,dG,x30,gNx,fD,fTv,fFn,aa,aA,aH,e1,e2,tR,wy,this]
 |move s n ws=>
  have hpp:(s=1\/s=2)/\jz ws<=100:=hp.pp;have e:=Gu (n:=n) (r:=r) hpp.2 hpp.1;obtain⟨er,hx,hc⟩:=Z8 (w:=w) hp.w hp.r;have kk:vO (.tup [.int s,.str n])=some (kn s n):=rfl;have z1:F.length<16777216:=by omega
  have q:=T9 fiD s n F;rw[er] at e;simp only[dG] at e;simp only[stp];have er2:Yc s n ws w r=⟨s,n,w,wsS ws,(xW r s).map prS⟩:=rfl;generalize ewd:wsS ws=wd at *;generalize erc:(xW r s).map prS=rc at *;cases hf:fd1 F s n with
  |none=>
   rw[hf] at q;have eo:=Ed (f:=⟨s,n,w,wd,rc⟩) (w:=w) (s:=s) (n:=n) hx hc hx hc;rw[if_neg (by simp),if_neg<|by simp] at eo;refine⟨λf h=>?_,by simp,.fz<|.tup [.int s,.str n,.tup<|wd.map D.str,.tup<|rc.map prD],.fz<|fiD ⟨s,n,w,wd,rc⟩,?_⟩
   ·rcases cS.mp h with h|h
    ·exact hF f h
    ·rw[bP.mp h,er2];exact⟨hx,hc⟩
   ·simp only[wy] at eo;simp[bQ,aJ,gIf,fj,aL,aB,ak,fC,gIx,dG,x40,x41,x42,gNx,bj,fFn,aa,aA,aH,e,wV,xM,vM,aM,kk,z1,q,gEx,x20,x21,eo,pC,er2,fiD,fiK,wy]
  |some f=>
   rw[hf] at q;obtain⟨fm,rfl,rfl⟩:=O4 hf;obtain⟨f1,f2⟩:=hF f fm;have eo:=Ed (f:=f) (w:=w) (s:=f.s) (n:=f.n) f1 f2 hx hc;have eb:bQ [g0,.ow<|.dcu (F.map fiK)<|F.map fiD,.fz<|.tup<|w.map D.int,.fz<|dG<|.move f.s f.n ws,.fz<|rD2 r,s5,s6]=match(cB [wy w,.tup [.int f.s,.str f.n,.tup<|wd.map D.str,.tup<|rc.map prD],wy f.w,.tup [.int f.s,.str f.n,.tup<|f.wd.map D.str,.tup<|f.rc.map prD]]) with
     | .ok _=>.ok (.nx,[g0,.ow<|.dcu (F.map fiK)<|F.map fiD,.fz<|wy w,.fz<|dG<|.move f.s f.n ws,.fz<|rD2 r,.fz<|.tup [.int f.s,.str f.n,.tup<|wd.map D.str,.tup<|rc.map prD],.fz<|fiD f])
     | .exc c=>.exc c
     | .stuck=>.stuck:=by
    generalize eR:cB [wy w,.tup [.int f.s,.str f.n,.tup<|wd.map D.str,.tup<|rc.map prD],wy f.w,.tup [.int f.s,.str f.n,.tup<|f.wd.map D.str,.tup<|f.rc.map prD]]=R;simp only[wy] at eR;cases R<;>simp[bQ,aJ,gIf,fj,aL,aB,ak,fC,gIx,dG,x40,x41,x42,gNx,bj,fFn,aa,aA,aH,e,wV,xM,vM,aM,kk,z1,q,gEx,x20,x21,eR,fiD,wy]
   rw[eo] at eb;by_cases q1:f.wd=wd
   ·by_cases q2:f.rc=rc
    ·simp only[q1,q2,ne_eq,not_true_eq_false,if_false] at eb ⊢;exact⟨hF,by omega,_,_,eb⟩
    ·simp only[q1,q2,ne_eq,not_true_eq_false,if_false,not_false_eq_true,if_true] at eb ⊢;exact eb
   ·simp only[q1,ne_eq,not_false_eq_true,if_true] at eb ⊢;exact eb
mutual
def wfG:Gm->Prop
 | .fin _=>True
 | .deal n ws=>okW (.deal n ws)/\wfW ws
 | .move s n ws=>okW (.move s n ws)/\wfW ws
def wfW:Ws->Prop
 | .nil=>True
 | .cons _ g r=>wfG g/\wfW r
end
structure Wf (g:Gm):Prop where
 len:gD g
 sd:sdG g
 wf:wfG g
 dep:dp g<=20
 siz:szG g<=1000
theorem ZD {s:Int}{n:Str}{r:Rc}{x:Str}(h:rcG r)(hn:Nm n)(hx:Nm x):rcG (rbm s n r<|.str x):=by
 obtain⟨a,b,e1,e2,h1,h2⟩:=h;unfold rbm;have ad:∀{c:List (Str×Str)},η c->η (c++[(n,x)]):=λhc p hp=>by
  rcases cS.mp hp with z|z
  ·exact hc p z
  ·rw[bP.mp z];exact⟨hn,hx⟩
 split
 ·exact⟨a++[(n,x)],b,by simp[e1,prD],e2,ad h1,h2⟩
 ·exact⟨a,b++[(n,x)],e1,by simp[e2,prD],h1,ad h2⟩
mutual
theorem abi:∀(w:List Int) (r:Rc) (g:Gm),gD g->sdG g->wfG g->rcG r->∀p∈prG w r g,okQ p
 |w,r,.fin d,_,_,_,hr,p,hp=>by
  have:p=(w,.fin d,r):=by simpa[prG] using hp
  rw[this];exact⟨fg,fg,fg,hr⟩
 |w,r,.deal n ws,h,hs,hw,hr,p,hp=>by
  rcases bq.mp (show p∈(w,Gm.deal n ws,r)::prW w (λ_=>r) 0 ws from hp) with e|e
  ·rw[e];exact⟨fg,hw.1,h,hr⟩
  ·exact TV w _ 0 ws h.2 hs hw.2 (λ_ _=>hr) p e
 |w,r,.move s n ws,h,hs,hw,hr,p,hp=>by
  rcases bq.mp (show p∈(w,Gm.move s n ws,r)::prW w (rbm s n r) 0 ws from hp) with e|e
  ·rw[e];exact⟨⟨hs.1,h.1⟩,hw.1,h,hr⟩
  ·refine TV w _ 0 ws h.2 hs.2 hw.2 (λl hl=>?_) p e;obtain⟨hn,xs,el,hx⟩:=hw.1;rw[el] at hl;obtain⟨x,hx',rfl⟩:=dS.mp hl;exact ZD hr hn<|hx x hx'
theorem TV:∀(w:List Int) (f:D->Rc) (i:Nat) (ws:Ws),zq ws->sdW ws->wfW ws->(∀l∈fY ws,rcG<|f l)->∀p∈prW w f i ws,okQ p
 |w,f,i,.nil,_,_,_,_,p,hp=>by cases hp
 |w,f,i,.cons l g r,h,hs,hw,hf,p,hp=>by
  rcases cS.mp (show p∈prG (w++[(i:Int)]) (f l) g++prW w f (i+1) r from hp) with e|e
  ·exact abi _ _ g h.1 hs.1 hw.1 (hf l ar) p e
  ·exact TV w f (i+1) r h.2 hs.2 hw.2 (λl hl=>hf l<|ai _ hl) p e
end
theorem Wf.q {g:Gm}(W:Wf g):∀p∈P g,okQ p:=abi [] _ g W.len W.sd W.wf ⟨[],[],rfl,rfl,(λ_ z=>nomatch z),(λ_ z=>nomatch z)⟩
theorem Wf.pl {g:Gm}(W:Wf g):∀p∈plG [] g,okW p.2/\gD p.2:=λp hp=>by
 rw[← Dq [] ([],[]) g] at hp;obtain⟨q,hq,rfl⟩:=dS.mp hp;exact⟨(W.q q hq).w,(W.q q hq).l⟩
theorem YQ {g0:Sl}:∀(l:List Tr) (F:List Fi) (s2 s3 s4 s5 s6:Sl),F.length+l.length<=100000->(∀p∈l,okQ p)->Qx F->
  ∃m',bL (eN 3<|aU (hName 2)<|aU (hName 3)<|aU (hName 4) eO) bQ (l.map trD) [g0,.ow<|.dcu (F.map fiK)<|F.map fiD,s2,s3,s4,s5,s6]=match scan l F with
   |some x=>.exc x
   |none=>.ok (.nx,m')
 |[],F,s2,s3,s4,s5,s6,_,_,_=>⟨_,rfl⟩
 |p::l,F,s2,s3,s4,s5,s6,hz,hp,hF=>by
  have hz':F.length+(l.length+1)<=100000:=hz;obtain⟨m1,e1,e2⟩:=abX (g0:=g0) (s2:=s2) (s3:=s3) (s4:=s4) (s5:=s5) (s6:=s6) (by omega) (hp p ar) hF;rw[scan];cases q:stp p F with
  |inl x=>
   rw[q] at e2;exact⟨[],by rw[aT,xG e1 e2]⟩
  |inr F'=>
   rw[q] at e2;obtain⟨h1,h2,s5',s6',e2⟩:=e2;obtain⟨m',e⟩:=YQ (g0:=g0) l F' (.fz<|wy p.1) (.fz<|dG p.2.1) (.fz<|rD2 p.2.2) s5' s6' (by omega) (λq hq=>hp q<|ai _ hq) h1;exact⟨m',by rw[aT,bI e1 e2,e]⟩
theorem ru {g : Gm} (W : Wf g) : gO [dG g] = match scan (P g) [] with
      | some x => .exc x
      | none => .ok (false, .non) := by
  have e := U6 W.len W.sd (by have := W.dep;omega) (by have := W.siz;omega);obtain ⟨m', e2⟩ := YQ (g0 := .fz (dG g)) (P g) [] .un .un .un .un .un (by rw [uL];have := W.siz;simp;omega) W.q (λ_ z => nomatch z);have eL : jN [.fz (dG g), .ow (.dcu [] []), .un, .un, .un, .un, .un] = match scan (P g) [] with
      | some x => .exc x
      | none => .ok (.nx, m') := by
    have e1 : eE (fFn cN (aa (aH 0) aA)) [.fz (dG g), .ow (.dcu [] []), .un, .un, .un, .un, .un] = .ok ((P g).map trD) := by
      simp [eE, fFn, aa, aA, aH, e]
    unfold jN fB;rw [e1];exact e2
  cases q : scan (P g) [] with
  | some x => rw [q] at eL;simp [gO, jq, jl, bc, aJ, gY, vh, eL]
  | none => rw [q] at eL;simp [gO, jq, jl, bc, aJ, gY, vh, eL]
def JH (g:Gm):Bool:=(decide (64<szG g)||vV g)||(uC (tb g) 1||uC (tb g) 2)||grA g
theorem Xp {g : Gm} (W : Wf g) : Hg [dG g] = if JH g = true then .exc TG else match scan (P g) [] with
      | some x => .exc x
      | none => .ok (true, .lst (tb g)) := by
  have d1 := W.dep;have d2 := W.siz;have e1 := rgp W.len (by omega) (by omega);have e2 := rgt W.len W.sd (by omega) (by omega);have e3 := rgf W.len (by omega) (by omega) W.pl;have e4 := ru W;have e5 := table_eq W.len W.sd (by omega) (by omega);unfold JH;generalize (decide (64 < szG g) || vV g) = b1 at *;generalize (uC (tb g) 1 || uC (tb g) 2) = b2 at *;generalize grA g = b3 at *;generalize scan (P g) [] = o at *;have es : f9 [dG g] = if (b1 || b2) = true then .exc TG else .ok (false, .non) := by
    cases b1<;>cases b2<;>simp [f9, iZ, jc, bc, aJ, gEx, fFn, aa, aA, aH, e1, e2]
  cases b1<;>cases b2<;>cases b3<;>cases o<;>simp [isTup, Hg, K7, JK, bc, aJ, gEx, fFn, aa, aA, aH, es, e3, e4, jy, Me.let, Sl.let, Zv, e5]
theorem frL:jo=cZ:=rfl
theorem vz {h:Zba}{g:Zab}{d:D}{ds:List D}{m m1 m2:Me}{f:Bool}{v:D}(h1:h d m=some m1)(h2:g m1=.ok (.rt f v,m2)):bL h g (d::ds) m=.ok (.rt f v,m2):=by
 unfold bL;rw[h1];simp only[];rw[h2]
theorem acd (a b c d e s5 s6 s7 s8 s9:Sl)(q:Q2):dN [a,b,c,d,e,.fz<|.int q.1,.fz<|.int q.2,s7,s8,s9]=if grQ q=true then .ok (.rt false<|.bl true,Me.let [a,b,c,d,e,.fz<|.int q.1,.fz<|.int q.2,s7,s8,s9]) else .ok (.nx,[a,b,c,d,e,.fz<|.int q.1,.fz<|.int q.2,s7,s8,s9]):=by
 have ep:Fx (.int 10) (.int 12)=some (.int 1000000000000):=rfl;unfold grQ;by_cases q1:999999999999<q.1.natAbs
 ·have q1':(1000000000000:Int)<=(if q.1<0 then -q.1 else q.1):=by split<;>omega
  simp[dN,gIf,kO,aL,aR,yF,aa,aA,ak,aB,fC,gGe,ep,q1',q1,bz]
 ·have q1':¬(1000000000000:Int)<=(if q.1<0 then -q.1 else q.1):=by split<;>omega
  by_cases q2:999<q.2
  ·have q2':(1000:Int)<=q.2:=by omega
   simp[dN,gIf,kO,aL,aR,yF,aa,aA,ak,aB,fC,gGe,ep,q1',q2',q1,q2,bz]
  ·have q2':¬(1000:Int)<=q.2:=by omega
   simp[dN,gIf,kO,aL,aR,yF,aa,aA,ak,aB,fC,gGe,ep,q1',q2',q1,q2,gNx]
theorem YW (a b c d e s7 s8 s9:Sl):∀(l:List Q2) (s5 s6:Sl),∃s5' s6' m',bL (eN 2<|aU (hName 5)<|aU (hName 6) eO) dN (l.map qD) [a,b,c,d,e,s5,s6,s7,s8,s9]=if l.any grQ=true then .ok (.rt false<|.bl true,m') else .ok (.nx,[a,b,c,d,e,s5',s6',s7,s8,s9])
 |[],s5,s6=>⟨s5,s6,[],rfl⟩
 |q::l,s5,s6=>by
  have e1:=acd a b c d e s5 s6 s7 s8 s9 q;by_cases z:grQ q=true
  ·rw[if_pos z] at e1;exact⟨s5,s6,_,by rw[aT,vz (m1:=[a,b,c,d,e,.fz<|.int q.1,.fz<|.int q.2,s7,s8,s9]) rfl e1,if_pos<|by simp[z]]⟩
  ·rw[if_neg z] at e1;obtain⟨x,y,m',e2⟩:=YW a b c d e s7 s8 s9 l (.fz<|.int q.1)<|.fz<|.int q.2;exact⟨x,y,m',by rw[aT,bI (m1:=[a,b,c,d,e,.fz<|.int q.1,.fz<|.int q.2,s7,s8,s9]) rfl e1,e2,kB,(show grQ q=false by simpa using z),tf]⟩
theorem YZ (a b s7 s8 s9 : Sl) : ∀ (l : List Tr) (c d e s5 s6 : Sl), (∀ p ∈ l, okW p.2.1 ∧ gD p.2.1) → ∃ c' d' e' s5' s6' m', bL (eN 3 (aU (hName 2) (aU (hName 3) (aU (hName 4) eO)))) gV (l.map trD) [a, b, c, d, e, s5, s6, s7, s8, s9] =
      if l.any (λp => grG p.2.1) = true then .ok (.rt false (.bl true), m') else .ok (.nx, [a, b, c', d', e', s5', s6', s7, s8, s9])
  | [], c, d, e, s5, s6, _ => ⟨c, d, e, s5, s6, [], rfl⟩
  | p :: l, c, d, e, s5, s6, h => by
    obtain ⟨h1, h2⟩ := h p ar;obtain ⟨ef, _⟩ := R7 h1 h2;obtain ⟨x, y, m', e2⟩ := YW a b (.fz (wy p.1)) (.fz (dG p.2.1)) (.fz (rD2 p.2.2)) s7 s8 s9 (frs p.2.1) s5 s6;have eb : gV [a, b, .fz (wy p.1), .fz (dG p.2.1), .fz (rD2 p.2.2), s5, s6, s7, s8, s9] = if grG p.2.1 = true then .ok (.rt false (.bl true), m') else .ok (.nx, [a, b, .fz (wy p.1), .fz (dG p.2.1), .fz (rD2 p.2.2), x, y, s7, s8, s9]) := by
      unfold gV o6 fB;have ei : eE (fFn jo (aa (aH 3) aA)) [a, b, .fz (wy p.1), .fz (dG p.2.1), .fz (rD2 p.2.2), s5, s6, s7, s8, s9] = .ok ((frs p.2.1).map qD) := by
        rw [frL];simp [eE, fFn, aa, aA, aH, ef]
      rw [ei];exact e2
    by_cases z : grG p.2.1 = true
    · rw [if_pos z] at eb
      exact ⟨c, d, e, s5, s6, m', by rw [aT, vz (m1 := [a, b, .fz (wy p.1), .fz (dG p.2.1), .fz (rD2 p.2.2), s5, s6, s7, s8, s9]) rfl eb, if_pos (by simp [z])]⟩
    · rw [if_neg z] at eb
      obtain ⟨c', d', e', s5', s6', m2, e3⟩ := YZ a b s7 s8 s9 l (.fz (wy p.1)) (.fz (dG p.2.1)) (.fz (rD2 p.2.2)) x y λq hq => h q (ai _ hq);exact ⟨c', d', e', s5', s6', m2, by rw [aT, bI (m1 := [a, b, .fz (wy p.1), .fz (dG p.2.1), .fz (rD2 p.2.2), s5, s6, s7, s8, s9]) rfl eb, e3, kB, (show grG p.2.1 = false by simpa using z), tf]⟩
theorem Lq {h:Zba}{ft:Zaf}{fe:Zae}{m0:Me}(b:D->Bool)(φ:D->D):∀ds:List D,(∀d∈ds,∃m1,h d m0=some m1/\ft m1=.ok (b d)/\fe m1=.ok (φ d))->dY h ft fe m0 ds=.ok ((ds.filter b).map φ)
 |[],_=>rfl
 |d::ds,hd=>by
  obtain⟨m1,e1,e2,e3⟩:=hd d ar;have ih:=Lq b φ ds λx hx=>hd x<|ai _ hx;unfold dY;rw[e1];simp only[];rw[e2];cases q:b d
  ·simp[ih,q]
  ·simp[e3,ih,q]
theorem YX {g:Gm}{a b c d e s5 s6 s9:Sl}{s:Int}(hz:szG g<=10000):∃s9',dJ [a,b,c,d,e,s5,s6,.fz<|.lst<|tb g,.fz<|.int s,s9]=if uC (tb g) s=true then .ok (.rt false<|.bl true,Me.let [a,b,c,d,e,s5,s6,.fz<|.lst<|tb g,.fz<|.int s,s9']) else .ok (.nx,[a,b,c,d,e,s5,s6,.fz<|.lst<|tb g,.fz<|.int s,s9']):=by
 have ec:dY (hName 0) (aL gEq (aB gIx (ak 0)<|fC<|.int 0)<|ak 1) jX [.un,.fz<|.int s] (tb g)=.ok (((tb g).filter λd=>decide<|sdD d=s).map λd=>D.int (wdD d:Int)):=Lq _ _ _ λd hd=>by
  obtain⟨a,n,ws,r,rfl⟩:=GD hd;refine⟨[.fz<|qu a n ws r,.fz<|.int s],rfl,?_,?_⟩
  ·have x0:∀a b c d:D,atI [a,b,c,d] 0=some a:=λ_ _ _ _=>rfl;simp[aL,aB,ak,fC,gIx,qu,x0,sdD];exact decide_eq_decide.mpr Iff.rfl
  ·have x2:∀a b c d:D,atI [a,b,c,d] 2=some c:=λ_ _ _ _=>rfl;simp[jX,aR,dI,aa,aA,aB,ak,fC,gIx,qu,x2,wdD]
 have z0:((tb g).filter λd=>decide<|sdD d=s).length<=(tb g).length:=xy _ _;have z1:(tb g).length<=16777216:=by have:=Mh g;omega
 have hq:nR (tb g) s=((tb g).filter λd=>decide<|sdD d=s).length:=rfl;have hw:nW (tb g) s=(((tb g).filter λd=>decide<|sdD d=s).map λd=>(wdD d:Int)).sum:=rfl;have eq:jO [a,b,c,d,e,s5,s6,.fz<|.lst<|tb g,.fz<|.int s,s9]=.ok (.lst<|((tb g).filter λd=>decide<|sdD d=s).map λd=>D.int (wdD d:Int)):=by
  simp[jO,cA,eE,ak,cMe,Sl.bor,ec,z1]
 unfold uC;generalize hl:((tb g).filter λd=>decide<|sdD d=s)=l at *;have es:Ph [.lst<|l.map λd=>D.int (wdD d:Int)]=some (.int (l.map λd=>(wdD d:Int)).sum):=by
  show(yZ _).map _=_;rw[BJ];rfl
 refine⟨.fz<|.lst<|l.map λd=>D.int (wdD d:Int),?_⟩;rw[hq,hw];by_cases q1:8<l.length
 ·have q2:(8:Int)<(l.length:Int):=by omega
  simp[dJ,aJ,bj,eq,gIf,kO,aL,aR,dI,aa,aA,ak,fC,gGt,q1,q2,bz]
 ·have q2:¬(8:Int)<(l.length:Int):=by omega
  by_cases q3:(24:Int)<(l.map λd=>(wdD d:Int)).sum
  ·simp[dJ,aJ,bj,eq,gIf,kO,aL,aR,dI,aa,aA,ak,fC,gGt,q1,q2,q3,es,bz]
  ·simp[dJ,aJ,bj,eq,gIf,kO,aL,aR,dI,aa,aA,ak,fC,gGt,q1,q2,q3,es,gNx]
theorem ab3 {g:Gm}{a b c d e s5 s6:Sl}(hz:szG g<=10000):∃s9' m',gA [a,b,c,d,e,s5,s6,.fz<|.lst<|tb g,.un,.un]=if(uC (tb g) 1||uC (tb g) 2)=true then .ok (.rt false<|.bl true,m') else .ok (.nx,[a,b,c,d,e,s5,s6,.fz<|.lst<|tb g,.fz<|.int 2,s9']):=by
 have ei:jQ (aM<|aa (fC<|.int 1)<|aa (fC<|.int 2) aA) [a,b,c,d,e,s5,s6,.fz<|.lst<|tb g,.un,.un]=.ok [.int 1,.int 2]:=rfl;have eL:gA [a,b,c,d,e,s5,s6,.fz<|.lst<|tb g,.un,.un]=bL (hName 8) dJ [.int 1,.int 2] [a,b,c,d,e,s5,s6,.fz<|.lst<|tb g,.un,.un]:=by
  unfold gA fB;rw[ei];rfl
 obtain⟨x,e1⟩:=YX (g:=g) (a:=a) (b:=b) (c:=c) (d:=d) (e:=e) (s5:=s5) (s6:=s6) (s9:=.un) (s:=1) hz;by_cases q1:uC (tb g) 1=true
 ·rw[if_pos q1] at e1;rw[vz (m1:=[a,b,c,d,e,s5,s6,.fz<|.lst<|tb g,.fz<|.int 1,.un]) rfl e1] at eL;exact⟨.un,_,by rw[eL,if_pos<|by simp[q1]]⟩
 ·rw[if_neg q1] at e1;rw[bI (m1:=[a,b,c,d,e,s5,s6,.fz<|.lst<|tb g,.fz<|.int 1,.un]) rfl e1] at eL;obtain⟨y,e2⟩:=YX (g:=g) (a:=a) (b:=b) (c:=c) (d:=d) (e:=e) (s5:=s5) (s6:=s6) (s9:=x) (s:=2) hz;by_cases q2:uC (tb g) 2=true
  ·rw[if_pos q2] at e2;rw[vz (m1:=[a,b,c,d,e,s5,s6,.fz<|.lst<|tb g,.fz<|.int 2,x]) rfl e2] at eL;exact⟨.un,_,by rw[eL,if_pos<|by simp[q2]]⟩
  ·rw[if_neg q2] at e2;rw[bI (m1:=[a,b,c,d,e,s5,s6,.fz<|.lst<|tb g,.fz<|.int 2,x]) rfl e2] at eL;exact⟨y,[],by rw[eL,if_neg<|by simp[q1,q2]];rfl⟩
theorem aaw (n:Int)(r:List Int)(k:Int):decide (k<r.foldl max n)=(n::r).any λa=>decide (k<a):=by
 obtain⟨h1,h2⟩:=fold_max r n;by_cases q:k<r.foldl max n
 ·rw[decide_eq_true q];exact(List.any_eq_true.mpr ⟨_,h1,decide_eq_true q⟩).symm
 ·rw[decide_eq_false q];refine(Bool.eq_false_iff.mpr λz=>?_).symm;obtain⟨a,ha,hk⟩:=List.any_eq_true.mp z
  have:=h2 a ha
  have:=of_decide_eq_true hk
  omega
theorem VF (g:Gm):∃n:Int,R6 [.lst<|(P g).map λp=>D.int (p.1.length:Int)]=some (.int n)/\decide (12<n)=vV g:=by
 have e0:P g=(P g).head (by intro z;have e:(P g).length=szG g:=uL [] ([],[]) g;rw[z] at e;have:=pY g;simp at e;omega)::(P g).tail:=(List.cons_head_tail _).symm;have el:vV g=(P g).any λp=>decide ((12:Int)<(p.1.length:Int)):=by
  unfold vV;rw[← Dq [] ([],[]) g,rh];congr 1;funext p;exact decide_eq_decide.mpr (by simp;omega)
 generalize(P g).head _=a at e0;generalize(P g).tail=l at e0;have ei:yZ ((P g).map λp=>D.int (p.1.length:Int))=some ((P g).map λp=>(p.1.length:Int)):=by
  have:=Ig<|(P g).map λp=>(p.1.length:Int)
  rw[fF] at this;exact this
 refine⟨(l.map λp=>(p.1.length:Int)).foldl max (a.1.length:Int),?_,?_⟩
 ·show(yZ _).bind _=_;rw[ei,e0];rfl
 ·rw[aaw,el,e0];simp[rh];rfl
theorem aas {g:Gm}(W:Wf g):dH [dG g]=.ok (false,.bl<|JH g):=by
 have d1:=W.dep;have d2:=W.siz;have e1:=wD W.len W.sd (by omega) (by omega);have e2:=Dp W.len W.sd (by omega) (by omega);obtain⟨n,e3,e3'⟩:=VF g;have hl:(P g).length=szG g:=uL _ _ g;have ec:dY (eN 3<|aU (hName 0)<|aU (hName 1)<|aU (hName 2) eO) gR j4 [.un,.un,.un] ((P g).map trD)=.ok ((P g).map λp=>D.int (p.1.length:Int)):=eV _ λp hp=>by
  refine⟨[.fz<|wy p.1,.fz<|dG p.2.1,.fz<|rD2 p.2.2],rfl,rfl,?_⟩;simp[j4,aR,dI,aa,aA,ak,wy]
 have z1:(P g).length<=16777216:=by omega
 have eq:∀s2 s3 s4 s5 s6 s7 s8 s9:Sl,jY [.fz<|dG g,.fz<|.lst<|(P g).map trD,s2,s3,s4,s5,s6,s7,s8,s9]=.ok (.lst<|(P g).map λp=>D.int (p.1.length:Int)):=λs2 s3 s4 s5 s6 s7 s8 s9=>by
  simp[jY,cA,eE,ak,cMe,ec,z1]
 obtain⟨c',d',e',s5',s6',m',e4⟩:=YZ (.fz<|dG g) (.fz<|.lst<|(P g).map trD) .un .un .un (P g) .un .un .un .un .un λp hp=>⟨(W.q p hp).w,(W.q p hp).l⟩;have eA:(P g).any (λp=>grG p.2.1)=grA g:=by
  unfold grA;rw[← Dq [] ([],[]) g,rh];rfl
 rw[eA] at e4;have eL:jW [.fz<|dG g,.fz<|.lst<|(P g).map trD,.un,.un,.un,.un,.un,.un,.un,.un]=if grA g=true then .ok (.rt false<|.bl true,m') else .ok (.nx,[.fz<|dG g,.fz<|.lst<|(P g).map trD,c',d',e',s5',s6',.un,.un,.un]):=by
  unfold jW fB;have ei:eE (aH 1) [.fz<|dG g,.fz<|.lst<|(P g).map trD,.un,.un,.un,.un,.un,.un,.un,.un]=.ok ((P g).map trD):=by simp[eE,aH]
  rw[ei];exact e4
 obtain⟨s9',m2,e5⟩:=ab3 (g:=g) (a:=.fz<|dG g) (b:=.fz<|.lst<|(P g).map trD) (c:=c') (d:=d') (e:=e') (s5:=s5') (s6:=s6') (by omega);have q0:decide ((64:Int)<((P g).length:Int))=decide (64<szG g):=decide_eq_decide.mpr (by omega);unfold JH;rw[← e3'];generalize(uC (tb g) 1||uC (tb g) 2)=b2 at *;generalize grA g=b3 at *;by_cases q1:64<szG g
 ·rw[decide_eq_true q1] at q0;simp[dH,eZ,eX,bc,aJ,bj,fFn,aa,aA,aH,e1,gIf,kO,aL,aR,dI,ak,fC,gGt,q0,q1,bz]
 ·rw[decide_eq_false q1] at q0;by_cases q2:(12:Int)<n
  ·simp[dH,eZ,eX,bc,aJ,bj,fFn,aa,aA,aH,e1,gIf,kO,aL,aR,dI,ak,fC,gGt,q0,q1,eq,e3,q2,bz]
  ·cases b3
   ·cases b2<;>simp[dH,eZ,eX,bc,aJ,bj,fFn,aa,aA,aH,e1,gIf,kO,aL,aR,dI,ak,fC,gGt,q0,q1,eq,e3,q2,bz,gNx,eL,e2,e5]
   ·simp[dH,eZ,eX,bc,aJ,bj,fFn,aa,aA,aH,e1,gIf,kO,aL,aR,dI,ak,fC,gGt,q0,q1,eq,e3,q2,bz,gNx,eL]
theorem Jr {T B:Int}{x:Rat}(hB:0<B):c4 (T*(x.den:Int)+x.num*B) (B*(x.den:Int))=c4 T B+x:=by
 have hd:(x.den:Int)≠0:=by have:=x.den_pos;omega
 have e:=xt T x.num (d₁:=B) (d₂:=(x.den:Int)) (by omega) hd;rw[mw] at e;exact e.symm
theorem acM {L a b:Sl}{T B:Int}{x:Rat}{k:Nat}(hx:Sz 20 x)(hB:0<B)(hk:B.natAbs<2^k)(hk2:k<=3000):
  d8 [L,.fz<|.int T,.fz<|.int B,.fz<|.int x.num,.fz<|.int (x.den:Int)]=if 0<x.num then .ok (.nx,[L,.fz<|.int<|T*(x.den:Int)+x.num*B,.fz<|.int<|B*(x.den:Int),.fz<|.int x.num,.fz<|.int (x.den:Int)]) else .ok (.rt false<|.bl false,Me.let [L,.fz<|.int T,.fz<|.int B,.fz<|.int x.num,.fz<|.int (x.den:Int)]):=by
 have h1:((x.den:Int)).natAbs<2^62:=by have:=hx.2;simp;omega
 have b1:Bg B:=TJ<|sX hk (by omega);have b2:Bg x.num:=TJ<|sX hx.1 (by omega);have m1:uI (.int T) (.int (x.den:Int))=some (.int<|T*(x.den:Int)):=if_pos<|.inr h1;have m2:uI (.int x.num) (.int B)=some (.int<|x.num*B):=if_pos<|.inl ⟨b2,b1⟩;have m3:uI (.int B) (.int (x.den:Int))=some (.int<|B*(x.den:Int)):=if_pos<|.inr h1;by_cases q:0<x.num
 ·have q':¬x.num<=0:=by omega
  simp[d8,aJ,gIf,aL,ak,fC,gLe,q,q',gNx,bj,aB,m1,m2,m3,cF]
 ·have q':x.num<=0:=by omega
  simp[d8,aJ,gIf,aL,ak,fC,gLe,q,q',bz]
theorem Yw {L:Sl}:∀(l:List Rat) (T B:Int) (k:Nat) (a b:Sl),(∀x∈l,Sz 20 x)->0<B->B.natAbs<2^k->k+20*l.length<=3000->
  ∃T' B' a' b' m',bL (eN 2<|aU (hName 3)<|aU (hName 4) eO) d8 (l.map rD) [L,.fz<|.int T,.fz<|.int B,a,b]=(if l.all (λx=>decide<|0<x.num)=true then .ok (.nx,[L,.fz<|.int T',.fz<|.int B',a',b']) else .ok (.rt false<|.bl false,m'))/\0<B'/\c4 T' B'=c4 T B+l.sum
 |[],T,B,k,a,b,_,hB,_,_=>⟨T,B,a,b,[],rfl,hB,by rw[List.sum_nil,Rat.add_zero]⟩
 |x::l,T,B,k,a,b,hx,hB,hk,hz=>by
  have hz':k+20*(l.length+1)<=3000:=hz;have e1:=acM (L:=L) (a:=a) (b:=b) (T:=T) (hx x ar) hB hk (by omega);have hd:=x.den_pos;have hd2:=(hx x ar).2;have hB':0<B*(x.den:Int):=Int.mul_pos hB (by omega);have hk':(B*(x.den:Int)).natAbs<2^(k+20):=by
   rw[yB,Nat.pow_add];exact Nat.mul_lt_mul'' hk<|by simpa using hd2
  obtain⟨T',B',a',b',m',e2,p1,p2⟩:=Yw (L:=L) l (T*(x.den:Int)+x.num*B) (B*(x.den:Int)) (k+20) (.fz<|.int x.num) (.fz<|.int (x.den:Int)) (λy hy=>hx y<|ai _ hy) hB' hk' (by omega);refine⟨T',B',a',b',?_⟩;by_cases q:0<x.num
  ·rw[if_pos q] at e1;refine⟨m',?_,p1,?_⟩
   ·rw[aT,bI (m1:=[L,.fz<|.int T,.fz<|.int B,.fz<|.int x.num,.fz<|.int (x.den:Int)]) rfl e1,e2,k7,decide_eq_true q,Bool.true_and]
   ·rw[p2,Jr hB,AF,AG]
  ·rw[if_neg q] at e1;refine⟨Me.let [L,.fz<|.int T,.fz<|.int B,.fz<|.int x.num,.fz<|.int (x.den:Int)],?_,p1,?_⟩
   ·rw[aT,vz (m1:=[L,.fz<|.int T,.fz<|.int B,.fz<|.int x.num,.fz<|.int (x.den:Int)]) rfl e1,if_neg<|by simp[q]]
   ·rw[p2,Jr hB,AF,AG]
theorem aaS {l:List Rat}(h:∀x∈l,Sz 20 x)(hz:l.length<=66):gU [.lst<|l.map rD]=.ok (false,.bl<|Lk l):=by
 obtain⟨T,B,a,b,m',e,p1,p2⟩:=Yw (L:=.fz<|.lst<|l.map rD) l 0 1 1 .un .un h (by decide) (by decide) (by omega);have eL:iK [.fz<|.lst<|l.map rD,.fz<|.int 0,.fz<|.int 1,.un,.un]=if l.all (λx=>decide<|0<x.num)=true then .ok (.nx,[.fz<|.lst<|l.map rD,.fz<|.int T,.fz<|.int B,a,b]) else .ok (.rt false<|.bl false,m'):=by
  unfold iK fB;have ei:eE (aH 0) [.fz<|.lst<|l.map rD,.fz<|.int 0,.fz<|.int 1,.un,.un]=.ok (l.map rD):=by simp[eE,aH]
  rw[ei];exact e
 have q:decide (T=B)=decide (l.sum=1):=decide_eq_decide.mpr (by
  have z:c4 0 1=0:=rfl;rw[z,Rat.zero_add] at p2;rw[← p2];constructor
  ·intro e;rw[e];exact div_self p1
  ·intro e;have e1:(1:Rat)=c4 1 1:=rfl;rw[e1] at e
   have:=(sx (by omega)<|by omega).mp e
   omega)
 unfold Lk;cases qa:l.all (λx=>decide<|0<x.num)<;>(rw[qa] at eL;simp[gU,j5,j0,bc,aJ,bj,fC,eL,bz,Me.let,Sl.let,qH,ak,q])
def vd (x:Xn):D:=match x.2.2 with
 |[w]=>.tup [.str "no shares",w]
 |[a,b]=>if x.1 = "Unlike" then .tup [.str "unlike",a,b] else .tup [.str "forgets",a,b]
 |_=>.tup [.str "too great"]
theorem acA {g0 s2 s3 s4 s5 s6 s7:Sl}{F:List Fi}{p:Tr}(hz:F.length<=100000)(hp:okQ p)(hF:Qx F):
  ∃m1,eN 3 (aU (hName 2)<|aU (hName 3)<|aU (hName 4) eO) (trD p) [g0,.ow<|.dcu (F.map fiK)<|F.map fiL,s2,s3,s4,s5,s6,s7]=some m1/\
   match stp p F with
   | .inl x=>∃m',dm m1=.ok (.rt false<|vd x,m')
   | .inr F'=>Qx F'/\F'.length<=F.length+1/\∃s5' s6' s7',dm m1=.ok (.nx,[g0,.ow<|.dcu (F'.map fiK)<|F'.map fiL,.fz<|wy p.1,.fz<|dG p.2.1,.fz<|rD2 p.2.2,s5',s6',s7']):=by
 obtain⟨w,g,r⟩:=p;have x20:∀a b:D,atI [a,b] 0=some a:=λ_ _=>rfl;have x21:∀a b:D,atI [a,b] 1=some b:=λ_ _=>rfl;have x30:∀a b c:D,atI [a,b,c] 0=some a:=λ_ _ _=>rfl;have x31:∀a b c:D,atI [a,b,c] 1=some b:=λ_ _ _=>rfl;have x32:∀a b c:D,atI [a,b,c] 2=some c:=λ_ _ _=>rfl;have x40:∀a b c d:D,atI [a,b,c,d] 0=some a:=λ_ _ _ _=>rfl;have x41:∀a b c d:D,atI [a,b,c,d] 1=some b:=λ_ _ _ _=>rfl;have x42:∀a b c d:D,atI [a,b,c,d] 2=some c:=λ_ _ _ _=>rfl;have x43:∀a b c d:D,atI [a,b,c,d] 3=some d:=λ_ _ _ _=>rfl;refine⟨_,rfl,?_⟩;cases g with
 |fin d=>
  refine⟨hF,by omega,s5,s6,s7,?_⟩;simp[dm,aJ,gIf,fj,aL,aB,ak,fC,gIx,dG,x20,gNx,wy]
 |deal n ws=>
  obtain⟨_,l,el,hl,hlz⟩:=hp.w;have hz:(fY ws).length<=16777216:=by rw[lF];have:=hp.l.1;omega
  have hz2:(dWs ws).length<=16777216:=by rw[mJ];have:=hp.l.1;omega
  have e1:∀a b c d e f g:Sl,tH [a,b,c,.fz<|.tup [.str "deal",.str n,.tup<|dWs ws],d,e,f,g]=.ok (.lst<|fY ws):=λa b c d e f g=>by
   simp[tH,cA,jQ,aB,ak,fC,gIx,x32,cMe,oH,hz,hz2]
  have e2:=aaS hl hlz;rw[← el] at e2;simp only[stp,MF el];cases q:Lk l with
  |true=>
   rw[q] at e2;refine⟨hF,by omega,s5,s6,s7,?_⟩;simp[dm,aJ,gIf,fj,aL,aB,ak,fC,gIx,dG,x30,gNx,fD,fTv,fFn,aa,aA,aH,e1,e2,wy]
  |false=>
   rw[q] at e2;refine⟨Me.let [g0,.ow<|.dcu (F.map fiK)<|F.map fiL,.fz<|wy w,.fz<|dG<|.deal n ws,.fz<|rD2 r,s5,s6,s7],?_⟩;simp[dm,aJ,gIf,fj,aL,aB,ak,fC,gIx,dG,x30,gNx,fD,fTv,fFn,aa,aA,aH,e1,e2,bz,Me.let,Sl.let,aM,vd,wy]
 |move s n ws=>
  have hpp:(s=1\/s=2)/\jz ws<=100:=hp.pp;obtain⟨_,xs,el,hxs⟩:=hp.w;obtain⟨rc,erc,hrc⟩:=U7 hp.r s;have hz0:(fY ws).length<=16777216:=by rw[lF];omega
  have hz2:(dWs ws).length<=16777216:=by rw[mJ];omega
  have ew:∀a b c d e f g:Sl,tZ [a,b,c,.fz<|.tup [.str "move",.int s,.str n,.tup<|dWs ws],d,e,f,g]=.ok (.lst<|xs.map D.str):=λa b c d e f g=>by
   rw[← el];simp[tZ,cA,jQ,aB,ak,fC,gIx,x43,cMe,oH,hz0,hz2]
  have es:_root_.F.mj (.int s) (.int 1)=some (.int<|s-1):=rfl;have ei:atI [D.tup r.1,.tup r.2] (s-1)=some (.tup<|rc.map prD):=by
   rw[← erc];unfold xW;rcases hpp.1 with e|e
   ·subst e;rfl
   ·subst e;rfl
  have kk:vO (.tup [.int s,.str n])=some (kn s n):=rfl;have z1:F.length<16777216:=by omega
  have q:=T9 fiL s n F;have fo:Yc s n ws w r=⟨s,n,w,xs,rc⟩:=by unfold Yc;rw[JF el,erc,Gh]
  simp only[stp,JF el,erc,Gh,fo];cases hf:fd1 F s n with
  |none=>
   rw[hf] at q;have n1:=Yt hxs hxs;have n2:=Ra hrc hrc;have a1:decide (xs≠xs)=false:=by simp
   have a2:decide (rc≠rc)=false:=by simp
   rw[a1] at n1;rw[a2] at n2;refine⟨λf h=>?_,by simp,.fz<|.lst<|xs.map D.str,.fz<|fiL ⟨s,n,w,xs,rc⟩,.fz<|fiL ⟨s,n,w,xs,rc⟩,?_⟩
   ·rcases cS.mp h with h|h
    ·exact hF f h
    ·rw[bP.mp h];exact⟨hxs,hrc⟩
   ·simp[dm,aJ,gIf,fj,aL,aB,ak,fC,es,ei,rD2,dG,gIx,x40,x41,x42,gNx,bj,aa,aA,aH,ew,wV,xM,vM,aM,kk,z1,q,x30,x31,x32,n1,n2,pC,fiL,fiK,wy]
  |some f=>
   rw[hf] at q;obtain⟨fm,rfl,rfl⟩:=O4 hf;obtain⟨f1,f2⟩:=hF f fm;have n1:=Yt f1 hxs;have n2:=Ra f2 hrc;dsimp only;by_cases q1:f.wd=xs
   ·have a1:decide (f.wd≠xs)=false:=by simp[q1]
    rw[a1] at n1;rw[if_neg<|by simp[q1]];by_cases q2:f.rc=rc
    ·have a2:decide (f.rc≠rc)=false:=by simp[q2]
     rw[a2] at n2;rw[if_neg<|by simp[q2]];refine⟨hF,by omega,.fz<|.lst<|xs.map D.str,.fz<|fiL ⟨f.s,f.n,w,xs,rc⟩,.fz<|fiL f,?_⟩;simp[dm,aJ,gIf,fj,aL,aB,ak,fC,es,ei,rD2,dG,gIx,x40,x41,x42,gNx,bj,aa,aA,aH,ew,wV,xM,vM,aM,kk,z1,q,x30,x31,x32,n1,n2,fiL,wy]
    ·have a2:decide (f.rc≠rc)=true:=by simp[q2]
     rw[a2] at n2;rw[if_pos q2];refine⟨Me.let [g0,.ow<|.dcu (F.map fiK)<|F.map fiL,.fz<|wy w,.fz<|dG<|.move f.s f.n ws,.fz<|rD2 r,.fz<|.lst<|xs.map D.str,.fz<|fiL ⟨f.s,f.n,w,xs,rc⟩,.fz<|fiL f],?_⟩;simp[dm,aJ,gIf,fj,aL,aB,ak,fC,es,ei,rD2,dG,gIx,x40,x41,x42,gNx,bj,aa,aA,aH,ew,wV,xM,vM,aM,kk,z1,q,x30,x31,x32,n1,n2,fiL,wy,bz,Me.let,Sl.let,vd]
   ·have a1:decide (f.wd≠xs)=true:=by simp[q1]
    rw[a1] at n1;rw[if_pos q1];refine⟨Me.let [g0,.ow<|.dcu (F.map fiK)<|F.map fiL,.fz<|wy w,.fz<|dG<|.move f.s f.n ws,.fz<|rD2 r,.fz<|.lst<|xs.map D.str,.fz<|fiL ⟨f.s,f.n,w,xs,rc⟩,.fz<|fiL f],?_⟩;simp[dm,aJ,gIf,fj,aL,aB,ak,fC,es,ei,rD2,dG,gIx,x40,x41,x42,gNx,bj,aa,aA,aH,ew,wV,xM,vM,aM,kk,z1,q,x30,x31,x32,n1,n2,fiL,wy,bz,Me.let,Sl.let,vd]
theorem Yi {g0:Sl}:∀(l:List Tr) (F:List Fi) (s2 s3 s4 s5 s6 s7:Sl),F.length+l.length<=100000->(∀p∈l,okQ p)->Qx F->
  ∃m' F' s2' s3' s4' s5' s6' s7',bL (eN 3<|aU (hName 2)<|aU (hName 3)<|aU (hName 4) eO) dm (l.map trD) [g0,.ow<|.dcu (F.map fiK)<|F.map fiL,s2,s3,s4,s5,s6,s7]=match scan l F with
   |some x=>.ok (.rt false<|vd x,m')
   |none=>.ok (.nx,[g0,.ow<|.dcu (List.map fiK F')<|F'.map fiL,s2',s3',s4',s5',s6',s7'])
 |[],F,s2,s3,s4,s5,s6,s7,_,_,_=>⟨[],F,s2,s3,s4,s5,s6,s7,rfl⟩
 |p::l,F,s2,s3,s4,s5,s6,s7,hz,hp,hF=>by
  have hz':F.length+(l.length+1)<=100000:=hz;obtain⟨m1,e1,e2⟩:=acA (g0:=g0) (s2:=s2) (s3:=s3) (s4:=s4) (s5:=s5) (s6:=s6) (s7:=s7) (by omega) (hp p ar) hF;rw[scan];cases q:stp p F with
  |inl x=>
   rw[q] at e2;obtain⟨m',e2⟩:=e2;exact⟨m',[],.un,.un,.un,.un,.un,.un,by rw[aT,vz e1 e2]⟩
  |inr F'=>
   rw[q] at e2;obtain⟨h1,h2,s5',s6',s7',e2⟩:=e2;obtain⟨m',F2,b2,b3,b4,b5,b6,b7,e⟩:=Yi (g0:=g0) l F' (.fz<|wy p.1) (.fz<|dG p.2.1) (.fz<|rD2 p.2.2) s5' s6' s7' (by omega) (λq hq=>hp q<|ai _ hq) h1;exact⟨m',F2,b2,b3,b4,b5,b6,b7,by rw[aT,bI e1 e2,e]⟩
def vG (g:Gm):D:=if JH g=true then .tup [.str "too great"] else match scan (P g) [] with
 |some x=>vd x
 |none=>.tup [.str "table",.lst<|tb g]
theorem aa8 {g:Gm}(W:Wf g):lW [dG g]=.ok (false,vG g):=by
 have d1:=W.dep;have d2:=W.siz;have e1:=aas W;have e2:=wD W.len W.sd (by omega) (by omega);have e3:=Dp W.len W.sd (by omega) (by omega);obtain⟨m',F',b2,b3,b4,b5,b6,b7,e4⟩:=Yi (g0:=.fz<|dG g) (P g) [] .un .un .un .un .un .un (by rw[uL];simp;omega) W.q λ_ z=>nomatch z;have eL:su [.fz<|dG g,.ow<|.dcu [] [],.un,.un,.un,.un,.un,.un]=match scan (P g) [] with
   |some x=>.ok (.rt false<|vd x,m')
   |none=>.ok (.nx,[.fz<|dG g,.ow<|.dcu (List.map fiK F')<|F'.map fiL,b2,b3,b4,b5,b6,b7]):=by
  have ei:eE (fFn gm<|aa (aH 0) aA) [.fz<|dG g,.ow<|.dcu [] [],.un,.un,.un,.un,.un,.un]=.ok ((P g).map trD):=by
   simp[eE,fFn,aa,aA,aH,e2]
  unfold su fB;rw[ei];exact e4
 unfold vG;cases q:JH g
 ·rw[q] at e1;cases q2:scan (P g) [] with
  |some x=>
   rw[q2] at eL;simp[lW,oR,oX,bc,aJ,gIf,fTv,fFn,aa,aA,aH,e1,gNx,gY,vh,eL]
  |none=>
   rw[q2] at eL;simp[lW,oR,oX,bc,aJ,gIf,fTv,fFn,aa,aA,aH,e1,gNx,gY,vh,eL,bz,Me.let,Sl.let,aM,fC,e3]
 ·rw[q] at e1;simp[lW,oR,oX,bc,aJ,gIf,fTv,fFn,aa,aA,aH,e1,bz,Me.let,Sl.let,aM,fC]
theorem Y4 {a b:Sl}:∀(w:List Int) (s:Sl),∃s',bL (hName 2) vW (w.map D.int) [a,b,s]=.ok (.nx,[a,b,s'])
 |[],s=>⟨s,rfl⟩
 |i::w,s=>by
  obtain⟨s',e⟩:=Y4 (a:=a) (b:=b) w<|.fz<|.int i;exact⟨s',by rw[aT,bI (m1:=[a,b,.fz<|.int i]) rfl (m2:=[a,b,.fz<|.int i]) rfl,e]⟩
theorem abZ {a s:Sl}(w:List Int):∃s',mF [a,.fz<|wy w,s]=.ok (.nx,[a,.fz<|wy w,s']):=by
 obtain⟨s',e⟩:=Y4 (a:=a) (b:=.fz<|wy w) w s;have eL:qI [a,.fz<|wy w,s]=.ok (.nx,[a,.fz<|wy w,s']):=by
  unfold qI fB;have ei:jQ (aH 1) [a,.fz<|wy w,s]=.ok (w.map D.int):=by simp[jQ,aH,wy]
  rw[ei];exact e
 refine⟨s',?_⟩;have e1:gIf (fD<|fTv<|uF "tuple" (ak 1)) (bz<|fC<|.bl false) gNx [a,.fz<|wy w,s]=.ok (.nx,[a,.fz<|wy w,s]):=rfl;unfold mF;rw[gs e1];exact eL
theorem MN {a:Sl}:∀(ws:List (List Int)) (b s:Sl),∃b' s',bL (hName 1) mF (ws.map wy) [a,b,s]=.ok (.nx,[a,b',s'])
 |[],b,s=>⟨b,s,rfl⟩
 |w::ws,b,s=>by
  obtain⟨s1,e1⟩:=abZ (a:=a) (s:=s) w;obtain⟨b',s',e⟩:=MN (a:=a) ws (.fz<|wy w) s1;exact⟨b',s',by rw[aT,bI (m1:=[a,.fz<|wy w,s]) rfl e1,e]⟩
theorem Fe (ws:List (List Int)):eQ [.lst<|ws.map wy]=.ok (false,.bl true):=by
 obtain⟨b,s,e⟩:=MN (a:=.fz<|.lst<|ws.map wy) ws .un .un;have eL:qz [.fz<|.lst<|ws.map wy,.un,.un]=.ok (.nx,[.fz<|.lst<|ws.map wy,b,s]):=by
  unfold qz fB;have ei:eE (aH 0) [.fz<|.lst<|ws.map wy,.un,.un]=.ok (ws.map wy):=by simp[eE,aH]
  rw[ei];exact e
 simp[eQ,uM,uZ,bc,aJ,eL,bz,Me.let,Sl.let,fC]
abbrev xS (w:List Int):Xn:=("NoShares",["way"],[wy w])
abbrev xU (a b:List Int):Xn:=("Unlike",["one", "other"],[wy a,wy b])
abbrev xF (a b:List Int):Xn:=("Forgets",["one", "other"],[wy a,wy b])
theorem aaU:cY [.exc "TooGreat" [] []]=.ok (false,.tup [.str "too great"]):=by rfl
theorem ZF {a b c d:D}:atI [a,b,c,d] 0=some a:=rfl
theorem aaB {a b c d:D}:atI [a,b,c,d] 1=some b:=rfl
theorem abT {a b c d:D}:atI [a,b,c,d] 2=some c:=rfl
theorem adf {a b c d:D}:atI [a,b,c,d] 3=some d:=rfl
theorem lk2 {a b:D}:hZ (cf "other") [(cf "one",a),(cf "other",b)]=some b:=rfl
theorem abU (w:List Int):cY [.exc "NoShares" ["way"] [wy w]]=.ok (false,vd<|xS w):=by
 have e':eQ [.lst [wy w]]=.ok (false,.bl true):=Fe [w];show _=Res.ok (false,D.tup [.str "no shares",wy w]);unfold cY jf;generalize eQ=φ at e' ⊢;generalize wy w=d at e' ⊢;simp[iU,bc,aJ,bj,eG,aa,aA,CG,ir,ik,jV,iR,ak,gIf,kO,fTv,Dj,jP,jT,jd,fD,Ea,fP,aL,aR,HR,pR,fC,gNx,aB,gIx,fj,fFn,pQ,vy,e',bz,Me.let,Sl.let,aM,ZF,aaB]
theorem acV (u v:List Int):cY [.exc "Unlike" ["one", "other"] [wy u,wy v]]=.ok (false,vd<|xU u v):=by
 show _=Res.ok (false,D.tup [.str "unlike",wy u,wy v]);have e':eQ [.lst [wy u,wy v]]=.ok (false,.bl true):=Fe [u,v];unfold cY jf;generalize eQ=φ at e' ⊢;generalize wy u=d at e' ⊢;generalize wy v=d' at e' ⊢;simp[iU,bc,aJ,bj,eG,aa,aA,CG,ir,ik,jV,iR,ak,gIf,kO,fTv,Dj,jP,jT,jd,fD,Ea,fP,aL,aR,HR,pR,fC,gNx,aB,gIx,fj,fFn,pQ,oA,jn,e',bz,Me.let,Sl.let,aM,ZF,aaB,abT,lk2]
theorem acz (u v:List Int):cY [.exc "Forgets" ["one", "other"] [wy u,wy v]]=.ok (false,vd<|xF u v):=by
 show _=Res.ok (false,D.tup [.str "forgets",wy u,wy v]);have e':eQ [.lst [wy u,wy v]]=.ok (false,.bl true):=Fe [u,v];unfold cY jf;generalize eQ=φ at e' ⊢;generalize wy u=d at e' ⊢;generalize wy v=d' at e' ⊢;simp[iU,bc,aJ,bj,eG,aa,aA,CG,ir,ik,jV,iR,ak,gIf,kO,fTv,Dj,jP,jT,jd,fD,Ea,fP,aL,aR,HR,pR,fC,gNx,aB,gIx,fj,fFn,pQ,oA,jn,e',bz,Me.let,Sl.let,aM,ZF,aaB,abT,adf,lk2]
def xk (x:Xn):Prop:=(∃w,x=xS w)\/(∃a b,x=xU a b)\/∃a b,x=xF a b
theorem abq {p:Tr}{F:List Fi}{x:Xn}(h:stp p F=.inl x):xk x:=by
 unfold stp at h;split at h
 ·cases h
 ·split at h
  ·cases h
  ·cases h;exact .inl ⟨_,rfl⟩
 ·split at h
  ·cases h
  ·split at h
   ·cases h;exact .inr<|.inl ⟨_,_,rfl⟩
   ·split at h
    ·cases h;exact .inr<|.inr ⟨_,_,rfl⟩
    ·cases h
theorem JX:∀{l:List Tr} {F:List Fi} {x:Xn},scan l F=some x->xk x
 |[],_,_,h=>nomatch h
 |p::l,F,x,h=>by
  rw[scan] at h;cases q:stp p F with
  |inl y=>rw[q] at h;cases h;exact abq q
  |inr F'=>rw[q] at h;exact JX h
theorem abk (w:List Int):okD (wy w)=true/\gJ (wy w)<=1:=by
 have h1:=uU (f:=D.int) (as:=w) λ_ _=>rfl;have h2:=rH (f:=D.int) (as:=w) (k:=0) λ_ _=>by simp[gJ]
 exact⟨by simpa[wy,okD] using h1,by simp[wy,gJ];omega⟩
theorem Yn {x:Xn}(h:xk x):∃d ds,vd x=.tup (d::ds)/\okD (vd x)=true/\gJ (vd x)<=2:=by
 have a:=abk;rcases h with⟨w,rfl⟩|⟨u,v,rfl⟩|⟨u,v,rfl⟩
 ·have:=a w
  exact⟨_,_,rfl,by simp[vd,okD,rn,this.1];decide +kernel,by simp[vd,gJ,ju];omega⟩
 ·have h1:=a u;have h2:=a v;have e:vd (xU u v)=.tup [.str "unlike",wy u,wy v]:=rfl;rw[e];exact⟨_,_,rfl,by simp[okD,rn,h1.1,h2.1];decide +kernel,by simp[gJ,ju];omega⟩
 ·have h1:=a u;have h2:=a v;have e:vd (xF u v)=.tup [.str "forgets",wy u,wy v]:=rfl;rw[e];exact⟨_,_,rfl,by simp[okD,rn,h1.1,h2.1];decide +kernel,by simp[gJ,ju];omega⟩
theorem ne_nil {d:D}{ds:List D}(h:okD (.tup (d::ds))=true)(hd:gJ (.tup (d::ds))<=64):gNe (.tup (d::ds)) (.tup [])=some true:=by
 obtain⟨p,e,_⟩:=w6 _ h;have e2:toPy (.tup [])=some (.tuple []):=by simp[toPy,mU]
 have e1:=rC h (e:=.tup []) rfl hd (by simp[gJ,ju]) e e2;show(lV _ _).map _=_;rw[e1]
 have:∃a as,p=.tuple (a::as):=by
  simp only[toPy,mU] at e;cases q1:toPy d with
  |none=>rw[q1] at e;cases e
  |some a=>
   rw[q1] at e;cases q2:mU ds with
   |none=>rw[q2] at e;cases e
   |some as=>rw[q2] at e;cases e;exact⟨a,as,rfl⟩
 obtain⟨a,as,rfl⟩:=this;simp[fN,kG]
theorem La {g:Gm}(W:Wf g):∀d∈tb g,JM d/\okD d=true/\gJ d<=3:=λd hd=>by
 rcases G6 (P g) ([],[]) d hd with e|⟨p,hp,s,n,ws,ep,rfl⟩
 ·cases e
 ·have hq:=W.q p hp;obtain⟨w,g',r⟩:=p;cases(show g'=.move s n ws from ep);obtain⟨hn,xs,el,hx⟩:=hq.w;obtain⟨rc,er,hr⟩:=U7 hq.r s;have e:qu s n ws r=.tup [.int s,.str n,.tup<|xs.map D.str,.tup<|rc.map prD]:=by unfold qu;rw[el,er]
  have o1:=okS hx;have o2:=Va hr;have hl:(fY ws).length<=100:=by rw[lF];exact hq.l.1
  rw[el] at hl;refine⟨⟨s,n,_,_,e,λx hx'=>?_,by omega,λx hx'=>?_⟩,?_,?_⟩
  ·obtain⟨y,_,rfl⟩:=dS.mp hx';exact⟨y,rfl⟩
  ·obtain⟨y,_,rfl⟩:=dS.mp hx';exact⟨y.1,y.2,rfl⟩
  ·show okD (qu s n ws r)=true;rw[e];simp[okD,rn,o1.1,o2.1,(show d5 n=true from hn)]
  ·show gJ (qu s n ws r)<=3;rw[e];simp[gJ,ju];omega
theorem abF {g:Gm}(W:Wf g):okD (vG g)=true/\gJ (vG g)<=64:=by
 unfold vG;split
 ·exact⟨by simp[okD,rn];decide +kernel,by simp[gJ,ju]⟩
 ·split
  ·rename_i x q;obtain⟨_,_,_,h1,h2⟩:=Yn<|JX q;exact⟨h1,by omega⟩
  ·have h1:=uU (f:=id) (as:=tb g) λd hd=>(La W d hd).2.1;have h2:=rH (f:=id) (as:=tb g) (k:=3) λd hd=>(La W d hd).2.2;rw[qh] at h1 h2;exact⟨by simp[okD,rn,h1];decide +kernel,by simp[gJ,ju];omega⟩
theorem Jy {φ ψ τ:Zac}{g d:D}{c:Xn}{e:D}{es:List D}(h1:φ [g]=.exc c)(h2:dR c.1=true)(h3:ψ [.exc c.1 c.2.1 c.2.2]=.ok (false,.tup (e::es)))(h4:gNe (.tup (e::es)) (.tup [])=some true):
  bc 4 1 (kh φ τ ψ) [g]=.ok (false,.tup (e::es)):=by
 simp[kh,bc,aJ,bj,fC,aM,aA,Qo,Hx,aa,aH,h1,h2,fFn,h3,gIf,aL,ak,h4,bz,Me.let,Sl.let]
theorem Ro {φ ψ τ:Zac}{g d:D}(h1:φ [g]=.ok (true,d))(h2:τ [d]=.ok (false,.bl true)):bc 4 1 (kh φ τ ψ) [g]=.ok (false,.tup [.str "table",d]):=by
 have h4:gNe (.tup []) (.tup [])=some false:=SX rfl (by simp[gJ,ju]);simp[kh,bc,aJ,bj,fC,aM,aA,Qo,Hx,aa,aH,h1,h2,fFn,gIf,aL,ak,h4,gNx,fD,fTv,bz,Me.let,Sl.let]
theorem Wq {g:Gm}(W:Wf g):pN [dG g]=.ok (false,vG g):=by
 have e:=Xp W;unfold pN vg vG;cases q:JH g
 ·rw[q] at e;simp only[gv,if_false] at e ⊢;cases q2:scan (P g) [] with
  |none=>
   rw[q2] at e;exact Ro e<|Vk λd hd=>(La W d hd).1
  |some x=>
   rw[q2] at e;have hk:=JX q2;obtain⟨d,ds,ed,o1,o2⟩:=Yn hk;simp only;rw[ed] at o1 o2 ⊢;refine Jy (d:=d) e ?_ ?_<|ne_nil o1<|by omega
   ·rcases hk with⟨w,rfl⟩|⟨u,v,rfl⟩|⟨u,v,rfl⟩
    ·exact(show dR "NoShares" = true by decide +kernel)
    ·exact(show dR "Unlike" = true by decide +kernel)
    ·exact(show dR "Forgets" = true by decide +kernel)
   ·rw[← ed];rcases hk with⟨w,rfl⟩|⟨u,v,rfl⟩|⟨u,v,rfl⟩
    ·exact abU w
    ·exact acV u v
    ·exact acz u v
 ·rw[q] at e;simp only[if_true] at e ⊢;refine Jy (d:=.non) e (by decide +kernel) aaU (ne_nil ?_ ?_)
  ·simp[okD,rn];decide +kernel
  ·simp[gJ,ju]
structure Wg (g:Gm)(d n:Nat):Prop where
 len:gD g
 sd:sdG g
 wf:wfG g
 dep:dp g<=d
 siz:szG g<=n
theorem Wg.mono {g:Gm}{d n d' n':Nat}(h:Wg g d n)(hd:d<=d')(hn:n<=n'):Wg g d' n':=⟨h.len,h.sd,h.wf,cy h.dep hd,cy h.siz hn⟩
theorem Wg.ok {g:Gm}{d n:Nat}(h:Wg g d n)(hd:d<=20)(hn:n<=1000):Wf g:=⟨h.len,h.sd,h.wf,cy h.dep hd,cy h.siz hn⟩
theorem qM (q:Q2):Wg (.fin q) 0 1:=⟨fg,fg,fg,aI _,aI _⟩
theorem JV:∀L:List (D×Gm),(∀p∈L,wfG p.2)->wfW (ofL L)
 |[],_=>fg
 |p::L,h=>⟨h p ar,JV L λq hq=>h q<|ai _ hq⟩
theorem K3 {n:Nat}:∀L:List (D×Gm),(∀p∈L,szG p.2<=n)->szL L<=L.length*n
 |[],_=>by simp[szL]
 |p::L,h=>by
  have e:=K3 L λq hq=>h q<|ai _ hq
  have:=h p ar
  rw[show szL (p::L)=szG p.2+szL L by simp[szL],c8,Nat.add_mul];omega
theorem vK {nm:Str}{L:List (D×Gm)}{d n:Nat}(hn:Nm nm)(hl:L.length<=66)(h:∀p∈L,Wg p.2 d n/\∃x:Rat,p.1=rD x/\Sz 20 x):Wg (.deal nm<|ofL L) (d+1) (L.length*n+1) where
 len:=⟨by rw[Gp];omega,BV L λp hp=>(h p hp).1.len⟩
 sd:=K9 L λp hp=>(h p hp).1.sd
 wf:=⟨⟨hn,by
  have:∃l:List Rat,L.map (·.1)=l.map rD/\(∀x∈l,Sz 20 x)/\l.length=L.length:=by
   clear hl;induction L with
   |nil=>exact⟨[],rfl,λ_ z=>(nomatch z),rfl⟩
   |cons p L ih=>
    obtain⟨l,e1,e2,e3⟩:=ih λq hq=>h q<|ai _ hq;obtain⟨x,hx,hs⟩:=(h p ar).2;exact⟨x::l,by simp[e1,hx],λy hy=>by
     rcases bq.mp hy with rfl|z
     ·exact hs
     ·exact e2 y z,by simp[e3]⟩
  obtain⟨l,e1,e2,e3⟩:=this;exact⟨l,by rw[Ge,e1],e2,by omega⟩⟩,JV L λp hp=>(h p hp).1.wf⟩
 dep:=oC<|Ke L λp hp=>(h p hp).1.dep
 siz:=oC (by rw[Kq];exact K3 L λp hp=>(h p hp).1.siz)
theorem zX {s:Int}{nm:Str}{L:List (D×Gm)}{d n:Nat}(hs:s=1\/s=2)(hn:Nm nm)(hl:L.length<=66)(h:∀p∈L,Wg p.2 d n/\∃x:Str,p.1=.str x/\Nm x):Wg (.move s nm<|ofL L) (d+1) (L.length*n+1) where
 len:=⟨by rw[Gp];omega,BV L λp hp=>(h p hp).1.len⟩
 sd:=⟨hs,K9 L λp hp=>(h p hp).1.sd⟩
 wf:=⟨⟨hn,by
  have:∃l:List Str,L.map (·.1)=l.map D.str/\(∀x∈l,Nm x):=by
   clear hl;induction L with
   |nil=>exact⟨[],rfl,λ_ z=>(nomatch z)⟩
   |cons p L ih=>
    obtain⟨l,e1,e2⟩:=ih λq hq=>h q<|ai _ hq;obtain⟨x,hx,hs⟩:=(h p ar).2;exact⟨x::l,by simp[e1,hx],λy hy=>by
     rcases bq.mp hy with rfl|z
     ·exact hs
     ·exact e2 y z⟩
  obtain⟨l,e1,e2⟩:=this;exact⟨l,by rw[Ge,e1],e2⟩⟩,JV L λp hp=>(h p hp).1.wf⟩
 dep:=oC<|Ke L λp hp=>(h p hp).1.dep
 siz:=oC (by rw[Kq];exact K3 L λp hp=>(h p hp).1.siz)
def iv (n:Nat):Rat:=⟨1,n+1,by omega,by simp⟩
theorem Bw {n:Nat}(h:n<=1000):Sz 20 (iv n):=⟨by show 1<2^20;decide,kP (show n+1<=1001 by omega) (by decide)⟩
structure rM (ns:List Str):Prop where
 n9:ns.length=9
 ok:∀x∈ns,Nm x
def nn (ns:List Str)(i:Nat):Str:=ns.getD i ⟨#[]⟩
theorem pX {ns:List Str}(N:rM ns)(i:Nat):Nm (nn ns i):=by
 unfold nn;rw[eS];cases e:ns[i]? with
 |none=>exact CK (cs:=[]) (λ_ z=>nomatch z)
 |some x=>exact N.ok x (oP e)
theorem uv {ns:List Str}(N:rM ns){i:Nat}(h:i<9):atI (ns.map D.str) (i:Int)=some (.str<|nn ns i):=by
 have hl:=N.n9;refine mD ?_;rw[cp,bS<|by omega];unfold nn;rw[eS,bS<|by omega];rfl
theorem Hr {z:Str}(h:d5 z=true)(lo hi:Option Int):d5 (l3 z lo hi)=true:=by
 show d5 (nz z lo hi)=true;unfold nz;split
 ·exact h
 ·unfold d5 at *;simp only[ui,uj,Array.all_eq_true,decide_eq_true_eq,ib] at *;rintro c ⟨i,_,hi⟩;obtain⟨hl,e⟩:=eP.mp hi
  have:=h i hl
  rwa [e] at this
theorem qP {k:Nat}{cap:List Nat}{fi:Zad}{h:Zba}{ft:Zaf}{fe:Zae}{m:Me}{ds ys:List D}(h1:fi m=.ok ds)(hz:ds.length<=100000)(h2:dY h ft fe (cMe k cap m) ds=.ok ys):cA k cap fi h ft fe m=.ok (.lst ys):=by
 have z:ds.length<=16777216:=by omega
 simp[cA,h1,z,h2]
theorem Wk:∀k:Fin 9,(cf<|toString ((k.val:Nat):Int)).length<=1:=by decide +kernel
theorem aa2 {p:List Str}(P:Ko p){a b c d e f:Sl}:∃ns:List Str,lu [a,.fz<|.lst<|p.map D.str,b,c,d,e,f]=.ok (.lst<|ns.map D.str)/\rM ns:=by
 have hl:=P.p8;obtain⟨w,p',rfl⟩:∃w p',p=w::p':=by
  cases p with
  |nil=>simp at hl
  |cons w p'=>exact⟨w,p',rfl⟩
 have hw:=P.len w ar;have ok:=P.ok w ar;have sl:=A1 w none<|some 7;have e0:atI ((w::p').map D.str) 0=some (.str w):=mD (j:=0) rfl
 let φ:Nat->Str:=λk=>l3 w none (some 7)++cf (toString ((k:Nat):Int))
 refine⟨(cm 9).map φ,?_,by simp,λx hx=>?_⟩
 ·have e2:=Ib (f:=aa (fC<|.int 9) aA) (m:=[a,.fz<|.lst<|(w::p').map D.str,b,c,d,e,f]) (j:=9) rfl (by decide) (by decide);have ec:dY (hName 0) gR oK [.un,.fz<|.lst<|(w::p').map D.str] ((cm 9).map λ(k:Nat)=>D.int k)=.ok ((cm 9).map λk=>D.str<|φ k):=eV _ λk hk=>by
   have hk:=i8.mp hk;refine⟨[.fz<|.int k,.fz<|.lst<|(w::p').map D.str],rfl,rfl,?_⟩;have d1:=Wk ⟨k,hk⟩;have d1:(cf<|toString (k:Int)).length<=1:=d1;have g1:gSl (.str w) none (some 7)=some (.str<|l3 w none<|some 7):=if_pos (by rw[QZ];omega);have g2:aaW [.int (k:Int)]=some (.str<|cf<|toString (k:Int)):=if_pos (by
    have:(k:Int).natAbs.log2<=8:=cy (Nat.log2_le_self _)<|by omega
    omega)
   have g3:cF (.str<|l3 w none<|some 7) (.str<|cf<|toString (k:Int))=some (.str<|φ k):=if_pos (by rw[QZ];omega);generalize D.str (φ k)=Z at *;generalize D.str (cf<|toString (k:Int))=Z1 at *;generalize(w::p').map D.str=Z2 at *;simp[oK,aB,fSl,ak,fC,gIx,e0,fO0,fO1,g1,aR,aa,aA,g2,g3]
  refine(qP e2 (by simp) ec).trans ?_;rw[fF];rfl
 ·obtain⟨k,_,rfl⟩:=dS.mp hx;exact Fb (Hr ok _ _)<|Be _
def wys (ns:List Str)(k z:Nat):List (D×Gm):=(cm z).map λ(j:Nat)=>(.str<|nn ns<|(k+j)%9,.fin ((j:Int)-k,1))
def prt (s:Int)(ns:List Str)(l:Nat)(k z:Nat):D×Gm:=(rD<|iv l,.move s (nn ns k)<|ofL<|wys ns k z)
theorem aaZ {s:Sl}{ns:List Str}{zs:List Int}(N:rM ns){k z:Nat}{p s5:Sl}(hz:z<=100)(e:atI (zs.map D.int) (k:Int)=some (.int (z:Int))):uN [s,.fz<|.lst<|ns.map D.str,.fz<|.lst<|zs.map D.int,p,.fz<|.int (k:Int),s5]=.ok (.lst<|dWs<|ofL<|wys ns k z):=by
 have e1:(aa (aB gIx (ak 2)<|ak 4) aA) [s,.fz<|.lst<|ns.map D.str,.fz<|.lst<|zs.map D.int,p,.fz<|.int (k:Int),s5]=.ok [.int (z:Int)]:=by
  simp[aa,aA,aB,ak,gIx,e]
 have e2:=Ib e1 (by omega) (by omega);have ec:dY (hName 0) gR oZ [.un,.fz<|.lst<|ns.map D.str,.fz<|.int (k:Int)] ((cm z).map λ(k:Nat)=>D.int k)=.ok ((cm z).map λ(j:Nat)=>.tup [.str<|nn ns<|(k+j)%9,dG<|.fin ((j:Int)-k,1)]):=eV _ λj hj=>by
  refine⟨[.fz<|.int j,.fz<|.lst<|ns.map D.str,.fz<|.int (k:Int)],rfl,rfl,?_⟩;have e3:=uv N (i:=(k+j)%9) (by omega);have e4:(((k+j)%9:Nat):Int)=((k:Int)+j)%9:=by omega
  rw[e4] at e3;generalize ns.map D.str=Z2 at *;generalize(nn ns<|(k+j)%9)=Z at *;simp[oZ,aM,aa,aA,aB,ak,fC,gIx,cz,cF,mdI,e3,F.mj,dG,qD]
 refine(qP e2 (by simp;omega) ec).trans ?_;rw[Gz,wys,fF];rfl
theorem acO {s:D}{ns:List Str}{zs:List Int}(N:rM ns){k z:Nat}{s5:Sl}{P:List D}{n:Int}{s':Int}(es:s=.int s'){l:Nat}(hl:zs.length=l+1)(hk:k<9)(hz:z<=100)(hP:P.length<=1000)(e:atI (zs.map D.int) (k:Int)=some (.int (z:Int))):∃s5',iM [.fz s,.fz<|.lst<|ns.map D.str,.fz<|.lst<|zs.map D.int,.ow<|.lst P,.fz<|.int (k:Int),s5]=.ok (.nx,[.fz s,.fz<|.lst<|ns.map D.str,.fz<|.lst<|zs.map D.int,.ow<|.lst<|P++[Km<|prt s' ns l k z],.fz<|.int (k:Int),s5']):=by
 subst es;have e1:=aaZ (s:=.fz<|.int s') (p:=.ow<|.lst P) (s5:=s5) N hz e;have e3:=uv N hk;have z1:P.length<16777216:=by omega
 have hd:Km (prt s' ns l k z)=.tup [.tup [.int 1,.int ((zs.length:Nat):Int)],.tup [.str "move",.int s',.str<|nn ns k,.tup<|dWs<|ofL<|wys ns k z]]:=by rw[hl];rfl
 rw[hd];generalize ns.map D.str=Z2 at *;generalize dWs (ofL<|wys ns k z)=Z3 at *;generalize nn ns k=Z at *;exact⟨.fz<|.lst Z3,by simp[iM,aJ,bj,e1,dq,rN,putL,aM,aa,aA,fC,aR,dI,ak,aH,aB,gIx,e3,jU,z1]⟩
theorem YB {s:Int}{ns:List Str}{zs:List Int}(N:rM ns){l:Nat}(hl:zs.length=l+1)(h9:l<9):∀(ys:List Nat) (i:Nat) (P:List D) (s4 s5:Sl),P.length+ys.length<=1000->(∀z∈ys,z<=100)->zs.drop i=ys.map (λz:Nat=>(z:Int))->∃s4' s5',bL (hName 4) iM ((qf i ys.length).map λ(k:Nat)=>D.int k) [.fz<|.int s,.fz<|.lst<|ns.map D.str,.fz<|.lst<|zs.map D.int,.ow<|.lst P,s4,s5]=.ok (.nx,[.fz<|.int s,.fz<|.lst<|ns.map D.str,.fz<|.lst<|zs.map D.int,.ow<|.lst<|P++(ys.zipIdx i).map λq=>Km<|prt s ns l q.2 q.1,s4',s5'])
 |[],i,P,s4,s5,_,_,_=>⟨s4,s5,by simp;rfl⟩
 |z::ys,i,P,s4,s5,hP,hz,hd=>by
  have hP:P.length+(ys.length+1)<=1000:=hP;have hi:zs[i]? = some (z:Int):=by
   have:=congrArg (·[0]?) hd
   simpa using this
  have e:atI (zs.map D.int) (i:Int)=some (.int (z:Int)):=mD (by rw[cp,hi];rfl);have hk:i<zs.length:=(d3.mp hi).1;obtain⟨s5',st⟩:=acO (s5:=s5) (P:=P) N (s:=.int s) (n:=0) rfl hl (k:=i) (by omega) (hz z ar) (by omega) e;obtain⟨s4',s5'',e2⟩:=YB N (s:=s) hl h9 ys (i+1) (P++[Km<|prt s ns l i z]) (.fz<|.int (i:Int)) s5' (by simp;omega) (λz hz'=>hz z<|ai _ hz') (by
   rw[← List.drop_drop (i:=1) (j:=i),hd];rfl)
  refine⟨s4',s5'',?_⟩;rw[c8,l7,aT,bI rfl st,e2]
  simp
theorem PQ {L:Zab}{s z:D}{n:List D}{r:List D}{x:D}{s4 s5:Sl}(e0:atI n 0=some x)(eL:L [.fz s,.fz<|.lst n,.fz z,.ow<|.lst [],.un,.un]=.ok (.nx,[.fz s,.fz<|.lst n,.fz z,.ow<|.lst r,s4,s5])):bc 6 3 (oF L) [s,.lst n,z]=.ok (false,.tup [.str "deal",x,.tup r]):=by
 simp[bc,oF,aJ,gY,eG,aA,eL,bz,Me.let,Sl.let,aM,aa,fC,aB,ak,gIx,e0,aR,jU]
theorem named_eq {s:Int}{ns:List Str}(N:rM ns)(hs:s=1\/s=2){zs:List Nat}(h1:1<=zs.length)(h9:zs.length<=9)(hz:∀z∈zs,z<=6):∃g,nZ [.int s,.lst<|ns.map D.str,.lst (zs.map λz:Nat=>D.int z)]=.ok (false,dG g)/\Wg g 2 100:=by
 obtain⟨l,hl⟩:∃l,zs.length=l+1:=⟨zs.length-1,by omega⟩
 let L:List (D×Gm):=(zs.zipIdx 0).map λq=>prt s ns l q.2 q.1
 refine⟨.deal (nn ns 0)<|ofL L,?_,?_⟩
 ·have e0:=uv N (i:=0) (by decide);obtain⟨s4,s5,e⟩:=YB (s:=s) N (zs:=zs.map λz:Nat=>(z:Int)) (l:=l) (by simp[hl]) (by omega) zs 0 [] .un .un (by simp;omega) (λz hz'=>cy (hz z hz')<|by decide) (by simp);rw[fF] at e;have hm:(zs.map (D.int∘λz:Nat=>(z:Int)))=zs.map λz:Nat=>D.int z:=rfl;rw[hm] at e;have eL:pA [.fz<|.int s,.fz<|.lst<|ns.map D.str,.fz<|.lst (zs.map λz:Nat=>D.int z),.ow<|.lst [],.un,.un]=.ok (.nx,[.fz<|.int s,.fz<|.lst<|ns.map D.str,.fz<|.lst (zs.map λz:Nat=>D.int z),.ow<|.lst<|dWs<|ofL L,s4,s5]):=by
   have e1:(aa (aR dI<|aa (ak 2) aA) aA) [.fz<|.int s,.fz<|.lst<|ns.map D.str,.fz<|.lst (zs.map λz:Nat=>D.int z),.ow<|.lst [],.un,.un]=.ok [.int (zs.length:Int)]:=by
    simp[aa,aA,aR,ak,dI]
   have e2:=Ib e1 (by omega) (by omega);unfold pA fB;rw[e2];show bL (hName 4) iM ((cm zs.length).map λ(k:Nat)=>D.int k) _=_;rw[ja,e,Gz];simp[L,Km]
  exact PQ e0 eL
 ·refine(vK (n:=7) (pX N 0) (L:=L) (d:=1) (by simp[L];omega) λp hp=>?_).mono (by decide) (by simp[L];omega);obtain⟨q,hq,rfl⟩:=dS.mp hp;have hz:=hz q.1<|List.fst_mem_of_mem_zipIdx hq;refine⟨(zX (d:=0) (n:=1) hs (pX N q.2) (L:=wys ns q.2 q.1) (by simp[wys];omega) λp hp=>?_).mono (by decide) (by simp[wys];omega),_,rfl,Bw<|by omega⟩;obtain⟨j,hj,rfl⟩:=dS.mp hp;exact⟨qM _,_,rfl,pX N _⟩
theorem QL (x:Int):1+x%2=1\/1+x%2=2:=by omega
theorem aaH {a:Sl}{ns:List Str}(N:rM ns){c:Int}{k:Nat}{g:Gm}{d n:Nat}(G:Wg g d n):∃(c':Int) (g':Gm),g8 [a,.fz<|.int c,.fz<|.lst<|ns.map D.str,.fz<|dG g,.fz<|.int (k:Int)]=.ok (.nx,[a,.fz<|.int c',.fz<|.lst<|ns.map D.str,.fz<|dG g',.fz<|.int (k:Int)])/\Wg g' (d+1) (n+1):=by
 have e0:=uv N (i:=0) (by decide);have e0:atI (ns.map D.str) 0=some (.str<|nn ns 0):=e0;have b2:Bq 2:=bgS (by decide);by_cases h:c/2%2=1/\k<8
 ·have e1:=uv N (i:=k) (by omega);have hk:(k:Int)<8:=by omega
  refine⟨c/2,.move (1+c/2/2%2) (nn ns k)<|ofL [(.str<|nn ns 0,g)],?_,(zX (d:=d) (n:=n) (QL _) (pX N k) (by simp) λp hp=>?_).mono (aI _)<|by simp⟩
  ·show _=Res.ok (Fl.nx,[a,.fz<|.int<|c/2,.fz<|.lst<|ns.map D.str,.fz<|.tup [.str "move",.int<|1+c/2/2%2,.str<|nn ns k,.tup [.tup [.str<|nn ns 0,dG g]]],.fz<|.int (k:Int)]);generalize ns.map D.str=Z2 at *;generalize dG g=Z3 at *;generalize nn ns 0=Z0 at *;generalize nn ns k=Z1 at *;simp[g8,aJ,bj,aB,ak,fC,dZ,dvI,b2,gIf,fj,aL,cz,mdI,h.1,hk,gLt,aM,aa,aA,aH,cF,gIx,e0,e1]
  ·rw[bP.mp hp];exact⟨G,_,rfl,pX N 0⟩
 ·refine⟨c/2,.deal (nn ns 0)<|ofL [(rD<|iv 0,g)],?_,(vK (d:=d) (n:=n) (pX N 0) (by simp) λp hp=>?_).mono (aI _)<|by simp⟩
  ·show _=Res.ok (Fl.nx,[a,.fz<|.int<|c/2,.fz<|.lst<|ns.map D.str,.fz<|.tup [.str "deal",.str<|nn ns 0,.tup [.tup [.tup [.int 1,.int 1],dG g]]],.fz<|.int (k:Int)]);generalize ns.map D.str=Z2 at *;generalize dG g=Z3 at *;generalize nn ns 0=Z0 at *;by_cases h1:c/2%2=1
   ·have hk:¬(k:Int)<8:=by omega
    simp[g8,aJ,bj,aB,ak,fC,dZ,dvI,b2,gIf,fj,aL,cz,mdI,h1,hk,gLt,aM,aa,aA,aH,cF,gIx,e0]
   ·simp[g8,aJ,bj,aB,ak,fC,dZ,dvI,b2,gIf,fj,aL,cz,mdI,h1,gLt,aM,aa,aA,aH,cF,gIx,e0]
  ·rw[bP.mp hp];exact⟨G,_,rfl,Bw<|by decide⟩
theorem R5 {a:Sl}{ns:List Str}(N:rM ns):∀(l i:Nat) (c:Int) (g:Gm) (d n:Nat) (s4:Sl),Wg g d n->∃(c':Int) (g':Gm) (s4':Sl),bL (hName 4) g8 ((qf i l).map λ(k:Nat)=>D.int k) [a,.fz<|.int c,.fz<|.lst<|ns.map D.str,.fz<|dG g,s4]=.ok (.nx,[a,.fz<|.int c',.fz<|.lst<|ns.map D.str,.fz<|dG g',s4'])/\Wg g' (d+l) (n+l)
 |0,i,c,g,d,n,s4,G=>⟨c,g,s4,rfl,G⟩
 |l+1,i,c,g,d,n,s4,G=>by
  obtain⟨c1,g1,e1,G1⟩:=aaH (a:=a) (c:=c) (k:=i) N G;obtain⟨c2,g2,s,e2,G2⟩:=R5 N l (i+1) c1 g1 (d+1) (n+1) (.fz<|.int (i:Int)) G1;exact⟨c2,g2,s,by rw[l7,aT,bI rfl e1,e2],G2.mono (by omega)<|by omega⟩
theorem Wj {L:Zab}{l n r:D}{c:Int}{m1 m2 m3:Sl}(eL:L [.fz l,.fz<|.int c,.fz n,.fz<|.tup [.str "end",.tup [.int<|c%7,.int 1]],.un]=.ok (.nx,[m1,m2,.fz n,.fz r,m3]))(h1:∀x,m1=.fz x->True):bc 5 3 (sY L) [l,.int c,n]=.ok (false,r):=by
 simp[bc,sY,aJ,bj,aM,aa,aA,fC,aB,ak,cz,mdI,eL,bz,Me.let,Sl.let,aH]
theorem Gu {ns:List Str}(N:rM ns){l c:Int}(h:0<=l/\l<=13):∃g,sJ [.int l,.int c,.lst<|ns.map D.str]=.ok (false,dG g)/\Wg g 13 100:=by
 obtain⟨k,hk⟩:∃k:Nat,(k:Int)=l:=⟨l.toNat,by omega⟩;subst hk;obtain⟨c',g',s4,e,G⟩:=R5 (a:=.fz<|.int (k:Int)) N k 0 c (.fin (c%7,1)) 0 1 .un<|qM _;refine⟨g',?_,G.mono (by omega)<|by omega⟩;refine Wj (L:=tV) (m1:=.fz<|.int (k:Int)) (m2:=.fz<|.int c') (m3:=s4) ?_ λ_ _=>fg;have e1:(aa (ak 0) aA) [.fz<|.int (k:Int),.fz<|.int c,.fz<|.lst<|ns.map D.str,.fz<|.tup [.str "end",.tup [.int<|c%7,.int 1]],.un]=.ok [.int (k:Int)]:=by simp[aa,aA,ak]
 have e2:=Ib e1 (by omega) (by omega);unfold tV fB;rw[e2];show bL (hName 4) g8 ((cm k).map λ(k:Nat)=>D.int k) _=_;rw[ja];exact e
theorem iz {t:Zaf}{A k:Zab}{m:Me}(h:t m=.ok false):aJ (gIf t A gNx) k m=k m:=by simp[aJ,gIf,h,gNx]
theorem yS {t:Zaf}{A k:Zab}{m m':Me}{f:Bool}{d:D}(h:t m=.ok true)(hA:A m=.ok (.rt f d,m')):aJ (gIf t A gNx) k m=.ok (.rt f d,m'):=by simp[aJ,gIf,h,hA]
def nS (k c:Int)(Z:List D):Me:=[.fz<|.int k,.fz<|.int c,.fz<|.lst Z,.un,.un,.un,.un,.un,.un]
theorem cq {k c j:Int}{Z:List D}{b:Bool}(h:decide (k=j)=b):aL gEq (ak 0) (fC<|.int j) (nS k c Z)=.ok b:=by simp[aL,ak,fC,nS,h]
theorem Cd {g:Zab}{k c:Int}{Z:List D}{d:D}{m':Me}(e:g (nS k c Z)=.ok (.rt false d,m')):bc 9 3 g [.int k,.int c,.lst Z]=.ok (false,d):=by
 have e:g [.fz<|.int k,.fz<|.int c,.fz<|.lst Z,.un,.un,.un,.un,.un,.un]=.ok (.rt false d,m'):=e;simp[bc,e]
section
variable {φl φn φr:Zac}{l2:Zae}{c:Int}{Z:List D}{d x:D}
theorem acT (e0:atI Z 0=some x){r:List D}(e:l2 [.fz<|.int 0,.fz<|.int c,.fz<|.lst Z,.fz<|.int<|61+c%4,.un,.un,.un,.un,.un]=.ok (.lst r)):bc 9 3 (bY φl φn φr l2) [.int 0,.int c,.lst Z]=.ok (false,.tup [.str "deal",x,.tup r]):=by
 refine Cd (m':=[.fz<|.int 0,.fz<|.int c,.fz<|.lst Z,.fz<|.int<|61+c%4,.un,.un,.un,.un,.un]) ?_;unfold bY;refine yS (cq rfl) ?_;simp[nS,aJ,bj,aB,fC,cF,ak,cz,mdI,bz,Me.let,Sl.let,aM,aa,aA,gIx,e0,aR,e,jU]
theorem aci (e:φr [.int<|10+c%4,.int<|c/4,.lst Z]=.ok (false,d)):bc 9 3 (bY φl φn φr l2) [.int 1,.int c,.lst Z]=.ok (false,d):=by
 have b4:Bq 4:=bgS (by decide);refine Cd (m':=nS 1 c Z) ?_;unfold bY;refine(iz<|cq rfl).trans (yS (cq rfl) ?_);simp[nS,aB,fC,cF,ak,aH,cz,mdI,dZ,dvI,b4,bz,Me.let,Sl.let,aa,aA,fFn,e]
theorem abM {r:D}(hm:wj (.lst [.int<|1+c/6%2]) (.int<|7+c/2%3)=some r)(e:φn [.int<|1+c%2,.lst Z,r]=.ok (false,d)):bc 9 3 (bY φl φn φr l2) [.int 2,.int c,.lst Z]=.ok (false,d):=by
 have b2:Bq 2:=bgS (by decide);have b6:Bq 6:=bgS (by decide);refine Cd (m':=nS 2 c Z) ?_;unfold bY;refine(iz<|cq rfl).trans ((iz<|cq rfl).trans<|yS (cq rfl) ?_);simp[nS,aB,fC,cF,ak,aH,cz,mdI,dZ,dvI,b2,b6,bz,Me.let,Sl.let,aa,aA,fFn,eG,hm,e]
def SZ:List (List Nat):=[[6,6,6,5],[6,6,6,6],[6,6,6,6,1],[3,3,3,3,3,3,3,3],[4,3,3,3,3,3,3,3],[6,6,6,6,2]]
def zD (z:List Nat):D:=.lst (z.map λn:Nat=>D.int n)
theorem Lj {ds:List D}{k:Int}(h:0<=k)(h1:k<1000)(h2:ds.length*k.toNat<=10000):wj (.lst ds) (.int k)=some (.lst (br k.toNat ds).flatten):=by
 have a:k<2^63:=Int.lt_trans h1 (by decide);have b:ds.length*k.toNat<=ay:=cy h2 (by decide);unfold wj;exact if_pos ⟨h,a,b⟩
theorem m8:wj (.lst [.int 3]) (.int 8)=some (.lst [.int 3,.int 3,.int 3,.int 3,.int 3,.int 3,.int 3,.int 3]):=Lj (by decide) (by decide)<|by decide
theorem m7:wj (.lst [.int 3]) (.int 7)=some (.lst [.int 3,.int 3,.int 3,.int 3,.int 3,.int 3,.int 3]):=Lj (by decide) (by decide)<|by decide
theorem ack {r:D}(hr:atI (SZ.map zD) (c/2%6)=some r)(e:φn [.int<|1+c%2,.lst Z,r]=.ok (false,d)):bc 9 3 (bY φl φn φr l2) [.int 3,.int c,.lst Z]=.ok (false,d):=by
 have b2:Bq 2:=bgS (by decide);refine Cd (m':=[.fz<|.int 3,.fz<|.int c,.fz<|.lst Z,.un,.fz<|.lst<|SZ.map zD,.un,.un,.un,.un]) ?_;unfold bY;refine(iz<|cq rfl).trans ((iz<|cq rfl).trans<|(iz<|cq rfl).trans<|yS (cq rfl) ?_);refine(gs (m1:=[.fz<|.int 3,.fz<|.int c,.fz<|.lst Z,.un,.fz<|.lst<|SZ.map zD,.un,.un,.un,.un]) ?_).trans ?_
 ·simp[nS,bj,eG,aa,aA,fC,aB,m8,m7,cF,SZ,zD]
 ·generalize SZ.map zD=Z3 at *;simp[aB,fC,cF,ak,aH,cz,mdI,dZ,dvI,b2,bz,Me.let,Sl.let,aa,aA,fFn,gIx,hr,e]
theorem ac0 (e:φn [.int<|1+c%2,.lst Z,.lst [.int 2,.int 3]]=.ok (false,d)):bc 9 3 (bY φl φn φr l2) [.int 6,.int c,.lst Z]=.ok (false,d):=by
 refine Cd (m':=nS 6 c Z) ?_;unfold bY;refine(iz<|cq rfl).trans ((iz<|cq rfl).trans<|(iz<|cq rfl).trans<|(iz<|cq rfl).trans<|(iz<|cq rfl).trans<|(iz<|cq rfl).trans ?_);simp[nS,aB,fC,cF,ak,aH,cz,mdI,bz,Me.let,Sl.let,aa,aA,fFn,eG,e]
theorem at6 {a0 a1 a2 a3 a4 a5:Int}{i:Int}(h0:0<=i)(h6:i<6):∃v,atI [.int a0,.int a1,.int a2,.int a3,.int a4,.int a5] i=some (D.int v):=by
 obtain⟨k,rfl⟩:∃k:Nat,i=k:=⟨i.toNat,by omega⟩
 match k,h6 with
 |0,_=>exact⟨_,rfl⟩
 |1,_=>exact⟨_,rfl⟩
 |2,_=>exact⟨_,rfl⟩
 |3,_=>exact⟨_,rfl⟩
 |4,_=>exact⟨_,rfl⟩
 |5,_=>exact⟨_,rfl⟩
 |k+6,h=>exact absurd h (by omega)
theorem p40:∃v,Fx (.int 10) (.int 40)=some (.int v):=⟨_,by unfold Fx;exact if_pos<|by decide⟩
theorem p15:∃v,Fx (.int 10) (.int 15)=some (.int v):=⟨_,by unfold Fx;exact if_pos<|by decide⟩
theorem abJ (e:φl [.int<|1+c/12%100000,.int<|998+c/48%4]=.ok (false,d)):∃r,bc 9 3 (bY φl φn φr l2) [.int 4,.int c,.lst Z]=.ok (false,.tup [.str "end",r])/\(r=d\/∃v,r=.tup [.int v,.int 1]):=by
 obtain⟨v40,h40⟩:=p40;obtain⟨v15,h15⟩:=p15;have b6:Bq 6:=bgS (by decide);have b12:Bq 12:=bgS (by decide);have b48:Bq 48:=bgS (by decide);obtain⟨v,hv⟩:=at6 (a0:=999999999999) (a1:=1000000000000) (a2:=0-999999999999) (a3:=0-1000000000000) (a4:=0-v40) (a5:=v15+1) (i:=c%6) (by omega) (by omega);have hv:atI [.int 999999999999,.int 1000000000000,.int (-999999999999),.int (-1000000000000),.int (-v40),.int<|v15+1] (c%6)=some (D.int v):=by
  rw[← hv];simp
 refine⟨if c/6%2=1 then d else .tup [.int v,.int 1],Cd (m':=[.fz<|.int 4,.fz<|.int c,.fz<|.lst Z,.un,.un,.fz<|.int v,.un,.un,.un]) ?_,?_⟩
 ·unfold bY;refine(iz<|cq rfl).trans ((iz<|cq rfl).trans<|(iz<|cq rfl).trans<|(iz<|cq rfl).trans<|yS (cq rfl) ?_);refine(gs (m1:=[.fz<|.int 4,.fz<|.int c,.fz<|.lst Z,.un,.un,.fz<|.int v,.un,.un,.un]) ?_).trans ?_
  ·simp[nS,bj,eG,aa,aA,fC,aB,F.mj,h40,h15,cF,gIx,ak,cz,mdI,hv]
  ·by_cases h:c/6%2=1
   ·simp[aJ,gIf,aL,aB,fC,ak,cz,mdI,dZ,dvI,b6,h,bz,Me.let,Sl.let,aM,aa,aA,fFn,cF,b12,b48,e]
   ·simp[aJ,gIf,aL,aB,fC,ak,aH,cz,mdI,dZ,dvI,b6,h,gNx,bz,Me.let,Sl.let,aM,aa,aA]
 ·by_cases h:c/6%2=1
  ·exact .inl<|if_pos h
  ·exact .inr ⟨v,if_neg h⟩
theorem abp {u v:D}(e1:atI Z 1=some x)(eu:φl [.int<|1+c/4%900,.int<|998+c%4]=.ok (false,u))(ev:φl [.int<|998+c%4-1-c/4%900,.int<|998+c%4]=.ok (false,v)):bc 9 3 (bY φl φn φr l2) [.int 5,.int c,.lst Z]=.ok (false,.tup [.str "deal",x,.tup [.tup [u,.tup [.str "end",.tup [.int 0,.int 1]]],.tup [v,.tup [.str "end",.tup [.int 1,.int 1]]]]]):=by
 have b4:Bq 4:=bgS (by decide);refine Cd (m':=[.fz<|.int 5,.fz<|.int c,.fz<|.lst Z,.un,.un,.un,.fz<|.int<|998+c%4,.fz u,.fz v]) ?_;unfold bY;refine(iz<|cq rfl).trans ((iz<|cq rfl).trans<|(iz<|cq rfl).trans<|(iz<|cq rfl).trans<|(iz<|cq rfl).trans<|yS (cq rfl) ?_);simp[nS,aJ,bj,aB,fC,cF,ak,aH,cz,mdI,dZ,dvI,b4,fFn,aa,aA,eu,F.mj,ev,bz,Me.let,Sl.let,aM,gIx,e1]
end
theorem S5 {t b:Int}(h:0<b/\b<=100000):iD [.int t,.int b]=.ok (false,rD<|c4 t b):=Zd h.1<|bgS<|by omega
theorem Vz {ns:List Str}(N:rM ns)(k c:Int):∃g,mV [.int<|k%7,.int c,.lst<|ns.map D.str]=.ok (false,dG g)/\Wg g 13 100:=by
 have e0:atI (ns.map D.str) 0=some (.str<|nn ns 0):=uv N (i:=0) (by decide);have e1:atI (ns.map D.str) 1=some (.str<|nn ns 1):=uv N (i:=1) (by decide);rcases(show k%7=0\/k%7=1\/k%7=2\/k%7=3\/k%7=4\/k%7=5\/k%7=6 by omega) with h|h|h|h|h|h|h<;>rw[h]
 ·obtain⟨j,hj⟩:∃j:Nat,((j+1:Nat):Int)=61+c%4:=⟨(60+c%4).toNat,by omega⟩
  let L:List (D×Gm):=(cm<|j+1).map λ(i:Nat)=>(rD<|iv j,.fin ((i:Int),1))
  refine⟨.deal (nn ns 0)<|ofL L,?_,(vK (n:=1) (d:=0) (pX N 0) (L:=L) (by simp[L];omega) λp hp=>?_).mono (by decide) (by simp[L];omega)⟩
  ·refine acT e0 ?_;rw[← hj];have e1:(aa (ak 3) aA) [.fz<|.int 0,.fz<|.int c,.fz<|.lst<|ns.map D.str,.fz<|.int ((j+1:Nat):Int),.un,.un,.un,.un,.un]=.ok [.int ((j+1:Nat):Int)]:=by
    generalize((j+1:Nat):Int)=J;simp[aa,aA,ak]
   have e2:=Ib e1 (by omega) (by omega);have ec:dY (hName 0) gR qj [.un,.fz<|.int ((j+1:Nat):Int)] ((cm<|j+1).map λ(k:Nat)=>D.int k)=.ok ((cm<|j+1).map λ(i:Nat)=>Km (rD<|iv j,.fin ((i:Int),1))):=eV _ λi _=>by
    refine⟨[.fz<|.int i,.fz<|.int ((j+1:Nat):Int)],rfl,rfl,?_⟩;show _=Res.ok (D.tup [.tup [.int 1,.int ((j+1:Nat):Int)],.tup [.str "end",.tup [.int i,.int 1]]]);generalize((j+1:Nat):Int)=J;simp[qj,aM,aa,aA,fC,aH]
   refine(qP e2 (by simp;omega) ec).trans ?_;rw[Gz];simp[L,Km]
  ·obtain⟨i,_,rfl⟩:=dS.mp hp;exact⟨qM _,_,rfl,Bw<|by omega⟩
 ·obtain⟨g,e,G⟩:=Gu N (l:=10+c%4) (c:=c/4) (by omega);exact⟨g,aci e,G⟩
 ·obtain⟨z,hz⟩:∃z:Nat,(z:Int)=1+c/6%2:=⟨(1+c/6%2).toNat,by omega⟩;obtain⟨n,hn⟩:∃n:Nat,(n:Int)=7+c/2%3:=⟨(7+c/2%3).toNat,by omega⟩;obtain⟨g,e,G⟩:=named_eq N (QL c) (zs:=br n z) (by simp;omega) (by simp;omega) (λy hy=>by rw[(List.mem_replicate.mp hy).2];omega);refine⟨g,abM ?_ e,G.mono (by decide)<|aI _⟩;rw[← hz,← hn];refine(Lj (by omega) (by omega) (by simp;omega)).trans ?_
  simp
 ·obtain⟨i,hi⟩:∃i:Nat,(i:Int)=c/2%6:=⟨(c/2%6).toNat,by omega⟩;have hl:i<SZ.length:=by show i<6;omega
  have hm:SZ[i]∈SZ:=List.getElem_mem hl;have hp:∀z∈SZ,(1<=z.length/\z.length<=9)/\∀y∈z,y<=6:=by decide
  have hp:=hp _ hm;obtain⟨g,e,G⟩:=named_eq N (QL c) (zs:=SZ[i]) hp.1.1 hp.1.2 hp.2;refine⟨g,ack ?_ e,G.mono (by decide)<|aI _⟩;rw[← hi];refine mD ?_;rw[cp,bS hl];rfl
 ·obtain⟨r,e,hr⟩:=abJ (φl:=iD) (φn:=nZ) (φr:=sJ) (l2:=v8) (Z:=ns.map D.str)<|S5 (t:=1+c/12%100000) (b:=998+c/48%4) (by omega);rcases hr with rfl|⟨v,rfl⟩
  ·exact⟨.fin<|rq<|c4 (1+c/12%100000)<|998+c/48%4,e,(qM _).mono (by decide)<|by decide⟩
  ·exact⟨.fin (v,1),e,(qM _).mono (by decide)<|by decide⟩
 ·have p20:(2000:Nat)<2^20:=by decide
  refine⟨.deal (nn ns 1)<|ofL [(rD<|c4 (1+c/4%900)<|998+c%4,.fin (0,1)),(rD<|c4 (998+c%4-1-c/4%900)<|998+c%4,.fin (1,1))],abp e1 (S5<|by omega)<|S5 (by omega),(vK (n:=1) (d:=0) (pX N 1) (by simp) λp hp=>?_).mono (by decide)<|by simp⟩;rcases bq.mp hp with rfl|hp
  ·exact⟨qM _,_,rfl,JZ (by omega) (kP (by omega) p20)<|kP (by omega) p20⟩
  ·rw[bP.mp hp];exact⟨qM _,_,rfl,JZ (by omega) (kP (by omega) p20)<|kP (by omega) p20⟩
 ·obtain⟨g,e,G⟩:=named_eq N (QL c) (zs:=[2,3]) (by decide) (by decide) (by decide);exact⟨g,ac0 e,G.mono (by decide)<|aI _⟩
def dIf:Zab:=
 (gIf (aL gEq (aB cz (ak 5)<|fC<|.int 4)<|fC<|.int 1) (aJ (bj 6<|aM<|aa (fC<|.str "deal")<|aa (aB gIx (ak 2)<|fC<|.int 2)<|aa (aM<|aa (aM<|aa (aM<|aa (fC<|.int 1)<|aa (fC<|.int 2) aA)<|aa (aM<|aa (fC<|.str "end")<|aa (aM<|aa (fC<|.int 3)<|aa (fC<|.int 1) aA) aA) aA)<|aa (aM<|aa (aM<|aa (fC<|.int 1)<|aa (aB cF (fC<|.int 3)<|aB cz (aB dZ (ak 5)<|fC<|.int 4)<|fC<|.int 5) aA)<|aa (aM<|aa (fC<|.str "end")<|aa (aM<|aa (fC<|.int 0)<|aa (fC<|.int 1) aA) aA) aA) aA) aA)
 (bj 4<|aM<|aa (fC<|.str "move")<|aa (aB cF (fC<|.int 1)<|aB cz (aB dZ (ak 5)<|fC<|.int 20)<|fC<|.int 2)<|aa (aB cF (aB gIx (ak 1)<|fC<|.int 0)<|fSl (fC<|.str "x") fO0<|fO1<|aR KC<|aa (qH gLt (aR dI<|aa (aB gIx (ak 1)<|fC<|.int 0) aA)<|fC<|.int 8) aA)<|aa (aM<|aa (aM<|aa (aB gIx (ak 2)<|fC<|.int 0)<|aa (aH 4) aA)<|aa (aM<|aa (aB gIx (ak 2)<|fC<|.int 1)<|aa (aH 6) aA) aA) aA)) gNx)
def dTl:Zab:=
 (aJ (gIf (aL gIn (aB cz (aB dZ (ak 3)<|fC<|.int 7)<|fC<|.int 4)<|aM<|aa (fC<|.int 1)<|aa (fC<|.int 2) aA) (bj 4<|aM<|aa (fC<|.str "deal")<|aa (aB gIx (ak 2)<|fC<|.int 3)<|aa (aM<|aa (aM<|aa (aM<|aa (fC<|.int 1)<|aa (fC<|.int 2) aA)<|aa (aM<|aa (fC<|.str "end")<|aa (aM<|aa (fC<|.int 1)<|aa (fC<|.int 2) aA) aA) aA)<|aa (aM<|aa (aM<|aa (fC<|.int 1)<|aa (fC<|.int 2) aA)<|aa (aH 4) aA) aA) aA) gNx)
 (aJ (gIf (aL gEq (aB cz (aB dZ (ak 3)<|fC<|.int 7)<|fC<|.int 4)<|fC<|.int 3) (bj 4<|aM<|aa (fC<|.str "move")<|aa (aB cF (fC<|.int 1)<|aB cz (aB dZ (ak 3)<|fC<|.int 28)<|fC<|.int 2)<|aa (aB gIx (ak 2)<|fC<|.int 8)<|aa (aM<|aa (aM<|aa (aB gIx (ak 2)<|fC<|.int 8)<|aa (aH 4) aA) aA) aA) gNx)
 (bz<|aH 4)))
theorem aaX (q:Int):gIn (.int q) (.tup [.int 1,.int 2])=some (decide (q=1)||decide (q=2)):=by
 have h1:((1:Int)==q)=decide (q=1):=by rw[kR];simp;exact eq_comm
 have h2:((2:Int)==q)=decide (q=2):=by rw[kR];simp;exact eq_comm
 simp[gIn,inD,flat,vOf,inV,eqV,h1,h2]
theorem adx {t:Zaf}{A k:Zab}{m:Me}(h:t m=.ok true):gIf t A k m=A m:=by simp[gIf,h]
theorem Y5 {t:Zaf}{A k:Zab}{m m1:Me}(h:t m=.ok true)(hA:A m=.ok (.nx,m1)):aJ (gIf t A gNx) k m=k m1:=by simp[aJ,gIf,h,hA]
def dM (sc:D)(P Z:List D)(f:Int)(g:Gm)(t:Int)(s:Sl):Me:=[.fz sc,.fz<|.lst P,.fz<|.lst Z,.fz<|.int f,.fz<|dG g,.fz<|.int t,s]
theorem abE {sc:D}{P:List D}{ns:List Str}{f t:Int}{g:Gm}{d n:Nat}{s:Sl}(N:rM ns)(G:Wg g d n):∃g',(∃m',dTl (dM sc P (ns.map D.str) f g t s)=.ok (.rt false<|dG g',m'))/\Wg g' (d+1) (2*n+1):=by
 have e3:atI (ns.map D.str) 3=some (.str<|nn ns 3):=uv N (i:=3) (by decide);have e8:atI (ns.map D.str) 8=some (.str<|nn ns 8):=uv N (i:=8) (by decide);have b7:Bq 7:=bgS (by decide);have b28:Bq 28:=bgS (by decide);have n1:=cy (pY g) G.siz;by_cases h:f/7%4=1\/f/7%4=2
 ·refine⟨.deal (nn ns 3)<|ofL [(rD<|iv 1,.fin (1,2)),(rD<|iv 1,g)],?_,(vK (d:=d) (n:=n) (pX N 3) (by simp) λp hp=>?_).mono (aI _)<|by simp⟩
  ·show ∃m',dTl _=Res.ok (Fl.rt false<|.tup [.str "deal",.str<|nn ns 3,.tup [.tup [.tup [.int 1,.int 2],.tup [.str "end",.tup [.int 1,.int 2]]],.tup [.tup [.int 1,.int 2],dG g]]],m');have h3:¬f/7%4=3:=by omega
   have hb:(decide (f/7%4=1)||decide (f/7%4=2))=true:=by simpa using h
   unfold dM;generalize ns.map D.str=Z2 at *;generalize dG g=Z3 at *;generalize nn ns 3=Z0 at *;rw[dTl,Y5 (m1:=[.fz sc,.fz<|.lst P,.fz<|.lst Z2,.fz<|.int f,.fz<|.tup [.str "deal",.str Z0,.tup [.tup [.tup [.int 1,.int 2],.tup [.str "end",.tup [.int 1,.int 2]]],.tup [.tup [.int 1,.int 2],Z3]]],.fz<|.int t,s])
    (by simp[aL,aB,ak,fC,dZ,dvI,b7,cz,mdI,aM,aa,aA,aaX,hb])
    (by simp[bj,aM,aa,aA,fC,aB,ak,aH,gIx,e3]),
    iz (by simp[aL,aB,ak,fC,dZ,dvI,b7,cz,mdI,h3])]
   simp[bz,aH,Me.let,Sl.let]
  ·rcases bq.mp hp with rfl|hp
   ·exact⟨(qM _).mono (fS _) n1,_,rfl,Bw<|by decide⟩
   ·rw[bP.mp hp];exact⟨G,_,rfl,Bw<|by decide⟩
 ·have hb:(decide (f/7%4=1)||decide (f/7%4=2))=false:=by simpa using h
  by_cases h3:f/7%4=3
  ·refine⟨.move (1+f/28%2) (nn ns 8)<|ofL [(.str<|nn ns 8,g)],?_,(zX (d:=d) (n:=n) (QL _) (pX N 8) (by simp) λp hp=>?_).mono (aI _) (by simp;omega)⟩
   ·show ∃m',dTl _=Res.ok (Fl.rt false<|.tup [.str "move",.int<|1+f/28%2,.str<|nn ns 8,.tup [.tup [.str<|nn ns 8,dG g]]],m');unfold dM;generalize ns.map D.str=Z2 at *;generalize dG g=Z3 at *;generalize nn ns 8=Z0 at *;rw[dTl,iz (by simp[aL,aB,ak,fC,dZ,dvI,b7,cz,mdI,aM,aa,aA,aaX,hb]),
     Y5 (m1:=[.fz sc,.fz<|.lst P,.fz<|.lst Z2,.fz<|.int f,.fz<|.tup [.str "move",.int<|1+f/28%2,.str Z0,.tup [.tup [.str Z0,Z3]]],.fz<|.int t,s])
     (by simp[aL,aB,ak,fC,dZ,dvI,b7,cz,mdI,h3])
     (by simp[bj,aM,aa,aA,fC,aB,ak,aH,gIx,e8,cF,cz,mdI,dZ,dvI,b28])]
    simp[bz,aH,Me.let,Sl.let]
   ·rw[bP.mp hp];exact⟨G,_,rfl,pX N 8⟩
  ·refine⟨g,?_,G.mono (by omega)<|by omega⟩;unfold dM;generalize ns.map D.str=Z2 at *;generalize dG g=Z3 at *;rw[dTl,iz (by simp[aL,aB,ak,fC,dZ,dvI,b7,cz,mdI,aM,aa,aA,aaX,hb]),iz<|by simp[aL,aB,ak,fC,dZ,dvI,b7,cz,mdI,h3]];simp[bz,aH,Me.let,Sl.let]
theorem acY (b:Bool):∃z:Str,gSl (.str "x") none (some<|if b then 1 else 0)=some (.str z)/\z.length<=1/\Nm z:=
 ⟨l3 "x" none (some<|if b then 1 else 0),by unfold gSl;exact if_pos (by decide +kernel),cy (A1 _ _ _) (by decide +kernel),Hr (by decide +kernel) _ _⟩
theorem acx {sc:D}{p ns:List Str}(P:Ko p){f t:Int}{g:Gm}{d n:Nat}{s:Sl}(N:rM ns)(G:Wg g d n):∃g' s',dIf (dM sc (p.map D.str) (ns.map D.str) f g t s)=.ok (.nx,dM sc (p.map D.str) (ns.map D.str) f g' t s')/\Wg g' (d+2) (2*n+7):=by
 have e0:atI (ns.map D.str) 0=some (.str<|nn ns 0):=uv N (i:=0) (by decide);have e1:atI (ns.map D.str) 1=some (.str<|nn ns 1):=uv N (i:=1) (by decide);have e2:atI (ns.map D.str) 2=some (.str<|nn ns 2):=uv N (i:=2) (by decide);have b4:Bq 4:=bgS (by decide);have b20:Bq 20:=bgS (by decide);by_cases h:t%4=1
 ·have hl:=P.p8;obtain⟨w,p',rfl⟩:∃w p',p=w::p':=by
   cases p with
   |nil=>simp at hl
   |cons w p'=>exact⟨w,p',rfl⟩
  have hw:=P.len w ar;have ok:=P.ok w ar;have ew:atI ((w::p').map D.str) 0=some (.str w):=mD (j:=0) rfl;obtain⟨z,hz,zl,zn⟩:=acY<|decide<|(w.length:Int)<8;have ga:cF (.str w) (.str z)=some (.str<|w++z):=if_pos (by rw[QZ];omega);obtain⟨j,hj⟩:∃j:Nat,((j+1:Nat):Int)=3+t/4%5:=⟨(2+t/4%5).toNat,by omega⟩
  let B:Gm:=.deal (nn ns 2)<|ofL [(rD<|iv 1,.fin (3,1)),(rD<|iv j,.fin (0,1))]
  have WB:Wg B 1 3:=(vK (d:=0) (n:=1) (pX N 2) (by simp) λp hp=>by
   rcases bq.mp hp with rfl|hp
   ·exact⟨qM _,_,rfl,Bw<|by decide⟩
   ·rw[bP.mp hp];exact⟨qM _,_,rfl,Bw<|by omega⟩).mono (by decide) (by simp)
  refine⟨.move (1+t/20%2) (w++z)<|ofL [(.str<|nn ns 0,g),(.str<|nn ns 1,B)],.fz<|dG B,?_,(zX (d:=d+1) (n:=n+3) (QL _) (Fb ok zn) (by simp) λp hp=>?_).mono (aI _) (by simp;omega)⟩
  ·have eB:dG B=.tup [.str "deal",.str<|nn ns 2,.tup [.tup [.tup [.int 1,.int 2],.tup [.str "end",.tup [.int 3,.int 1]]],.tup [.tup [.int 1,.int<|3+t/4%5],.tup [.str "end",.tup [.int 0,.int 1]]]]]:=by rw[← hj];rfl
   show _=Res.ok (Fl.nx,([.fz sc,.fz<|.lst<|(w::p').map D.str,.fz<|.lst<|ns.map D.str,.fz<|.int f,.fz<|.tup [.str "move",.int<|1+t/20%2,.str<|w++z,.tup [.tup [.str<|nn ns 0,dG g],.tup [.str<|nn ns 1,dG B]]],.fz<|.int t,.fz<|dG B]:Me));rw[eB];unfold dM;generalize(w::p').map D.str=Z1 at *;generalize ns.map D.str=Z2 at *;generalize dG g=Z3 at *;generalize nn ns 0=Z0 at *;generalize nn ns 1=Z4 at *;generalize nn ns 2=Z5 at *;generalize w++z=Z6 at *;have hx:∀m:Me,m[1]? = some (.fz<|.lst Z1)->(fSl (fC<|.str "x") fO0<|fO1<|aR KC<|aa (qH gLt (aR dI<|aa (aB gIx (ak 1)<|fC<|.int 0) aA)<|fC<|.int 8) aA) m=.ok (.str z):=λm hm=>by
    generalize D.str "x" = X at *;have zl:w.length<=16777216:=by omega
    simp only[decide_eq_true_eq] at hz;simp[fSl,fC,fO0,fO1,aR,aa,aA,qH,aB,ak,hm,gIx,ew,dI,gLt,KC,zl,hz]
   unfold dIf;generalize fSl (fC<|.str "x") fO0 (fO1<|aR KC<|aa (qH gLt (aR dI<|aa (aB gIx (ak 1)<|fC<|.int 0) aA)<|fC<|.int 8) aA)=FX at hx ⊢;refine(adx<|by simp[aL,aB,ak,fC,cz,mdI,h]).trans ((gs (m1:=[.fz sc,.fz<|.lst Z1,.fz<|.lst Z2,.fz<|.int f,.fz Z3,.fz<|.int t,.fz<|.tup [.str "deal",.str Z5,.tup [.tup [.tup [.int 1,.int 2],.tup [.str "end",.tup [.int 3,.int 1]]],.tup [.tup [.int 1,.int<|3+t/4%5],.tup [.str "end",.tup [.int 0,.int 1]]]]]])<|by simp[bj,aM,aa,aA,fC,aB,ak,gIx,e2,cF,cz,mdI,dZ,dvI,b4]).trans ?_);generalize(D.tup [.str "deal",.str Z5,.tup [.tup [.tup [.int 1,.int 2],.tup [.str "end",.tup [.int 3,.int 1]]],.tup [.tup [.int 1,.int<|3+t/4%5],.tup [.str "end",.tup [.int 0,.int 1]]]]])=Z7;have hx:=hx [.fz sc,.fz<|.lst Z1,.fz<|.lst Z2,.fz<|.int f,.fz Z3,.fz<|.int t,.fz Z7] rfl;have gn:cF (.int 1) (.int<|t/20%2)=some (.int<|1+t/20%2):=rfl;simp[bj,aM,aa,aA,fC,aB,ak,aH,gIx,e0,e1,ew,hx,ga,gn,cz,mdI,dZ,dvI,b20]
  ·rcases bq.mp hp with rfl|hp
   ·exact⟨G.mono (by omega) (by omega),_,rfl,pX N 0⟩
   ·rw[bP.mp hp];exact⟨WB.mono (by omega) (by omega),_,rfl,pX N 1⟩
 ·refine⟨g,s,?_,G.mono (by omega)<|by omega⟩;unfold dM;simp[dIf,gIf,aL,aB,ak,fC,cz,mdI,h,gNx]
theorem aav {φc φp φn:Zac}{l2:Zae}{sc:D}{c0 c1 f c3 t:Int}{P Z:List D}{G:D}(h0:φc [sc,.int 0]=.ok (false,.int c0))(h1:φc [sc,.int 1]=.ok (false,.int c1))(h2:φc [sc,.int 2]=.ok (false,.int f))(h3:φc [sc,.int 3]=.ok (false,.int c3))(h4:φc [sc,.int 4]=.ok (false,.int t))
  (hp:φp [.int c0,.int c1]=.ok (true,.lst P)) (hl:l2 [.fz sc,.fz<|.lst P,.un,.un,.un,.un,.un]=.ok (.lst Z)) (hn:φn [.int<|f%7,.int c3,.lst Z]=.ok (false,G)):
  jm φc φp φn l2 [.fz sc,.un,.un,.un,.un,.un,.un]=aJ dIf dTl [.fz sc,.fz<|.lst P,.fz<|.lst Z,.fz<|.int f,.fz G,.fz<|.int t,.un]:=by
 unfold jm;refine(gs (m1:=[.fz sc,.fz<|.lst P,.un,.un,.un,.un,.un])<|by simp[bj,fFn,aa,aA,aH,fC,h0,h1,hp]).trans ?_;refine(gs (m1:=[.fz sc,.fz<|.lst P,.fz<|.lst Z,.un,.un,.un,.un])<|by simp[bj,hl]).trans ?_;refine(gs (m1:=[.fz sc,.fz<|.lst P,.fz<|.lst Z,.fz<|.int f,.un,.un,.un])<|by simp[bj,fFn,aa,aA,aH,fC,h2]).trans ?_;refine(gs (m1:=[.fz sc,.fz<|.lst P,.fz<|.lst Z,.fz<|.int f,.fz G,.un,.un])<|by simp[bj,fFn,aa,aA,aH,ak,aB,cz,mdI,fC,h3,hn]).trans ?_;exact gs (m1:=[.fz sc,.fz<|.lst P,.fz<|.lst Z,.fz<|.int f,.fz G,.fz<|.int t,.un])<|by simp[bj,fFn,aa,aA,aH,fC,h4]
theorem RP (ns:List Int)(hz:ns.length<=1000):∃g,tD [.lst<|ns.map D.int]=.ok (false,dG g)/\Wf g:=by
 obtain⟨c0,h0⟩:=cell_eq ns 0 hz;obtain⟨c1,h1⟩:=cell_eq ns 1 hz;obtain⟨f,h2⟩:=cell_eq ns 2 hz;obtain⟨c3,h3⟩:=cell_eq ns 3 hz;obtain⟨t,h4⟩:=cell_eq ns 4 hz;obtain⟨p,ep,P⟩:=Wv c0 c1;obtain⟨zs,ez,N⟩:=aa2 P (a:=.fz<|.lst<|ns.map D.int) (b:=.un) (c:=.un) (d:=.un) (e:=.un) (f:=.un);obtain⟨g,eg,G⟩:=Vz N f c3;obtain⟨g1,s1,e1,G1⟩:=acx (sc:=.lst<|ns.map D.int) (f:=f) (t:=t) (s:=.un) P N G;obtain⟨g2,⟨m2,e2⟩,G2⟩:=abE (sc:=.lst<|ns.map D.int) (P:=p.map D.str) (f:=f) (t:=t) (s:=s1) N G1;refine⟨g2,?_,G2.ok (by decide)<|by decide⟩;have e:jm fH mY mV lu [.fz<|.lst<|ns.map D.int,.un,.un,.un,.un,.un,.un]=.ok (.rt false<|dG g2,m2):=
  (aav h0 h1 h2 h3 h4 ep ez eg).trans ((gs e1).trans e2)
 show bc 7 1 (jm fH mY mV lu) _=_;simp[bc,e]
theorem Wy {φd φt φw:Zac}{sc g v:D}(h0:φw [sc]=.ok (false,g))(h1:φd [g]=.ok (false,v))(h2:φt [g]=.ok (false,v))(h3:gEq v v=some true):bc 3 1 (O6 φd φt φw) [sc]=.ok (false,.bl true):=by
 simp[bc,O6,aJ,bj,fFn,aa,aA,aH,h0,h1,bz,Me.let,Sl.let,Rn,fTv,qH,ak,h2,h3]
theorem U8 (ns:List Int)(h:ns.length<=63):∃fr,Yo [.lst<|ns.map D.int]=.ok (fr,.bl true):=by
 obtain⟨g,e,W⟩:=RP ns (by omega);obtain⟨o1,o2⟩:=abF W;exact⟨false,Wy e (aa8 W) (Wq W)<|Hw o1 o2⟩
end K14
namespace F
open PySem L2 Hd
section
variable {A:Type}{p:List A->Prop}
theorem xb1 (h:∀a,p [a])(us:List A)(e:us.length=1):p us:=by
 cases us with
 |nil=>cases e
 |cons a t=>cases t with
  |nil=>exact h a
  |cons _ _=>cases e
theorem xb0 (h:∀a t,t.length=n->p (a::t))(us:List A)(e:us.length=n+1):p us:=by
 cases us with
 |nil=>cases e
 |cons a t=>exact h a t (Nat.succ.inj e)
theorem xb2 (h:∀a b,p [a,b]):∀us:List A,us.length=2->p us:=xb0 λa=>xb1 (p:=λt=>p (a::t))<|h a
theorem xb3 (h:∀a b c,p [a,b,c]):∀us:List A,us.length=3->p us:=xb0 λa=>xb2 (p:=λt=>p (a::t))<|h a
theorem xb4 (h:∀a b c d,p [a,b,c,d]):∀us:List A,us.length=4->p us:=xb0 λa=>xb3 (p:=λt=>p (a::t))<|h a
end
structure QD (K:bb)(x:Str)(st:Stmt):Prop where
 ex:∃f fd,Fun K x x st f fd/\oo K cK x=some (some (.ref f))
section
variable {P:bo}{w:dc}{K:bb}{mg:Zp}{base h:Heap}{x q c:Str}{st:Stmt}{ps:List Str}{C f:Addr}{oc:av}{od an:Option Addr}{osl:Array (Option av)}{kV doc pm cdv ct:av}{k:Nat}{sp:Sp}
theorem qd (a:oo K cK x=some (some<|.ref f))(l:K.lookup f=some ⟨oc,od,.func<|tP x x (nU st) (gW st) (aD st) .none kV doc pm an cdv ct,osl⟩)(c:Ap K cdv x=true)(k:lh K (.ref f)=true):QD K x st:=⟨f,_,Rx l c k,a⟩
theorem QD.df (Q:QD K x st)(X:K.In h)(G:h.Ns cK mg)(hb:∀(kV doc pm:av) (an:Option Addr) (cdv ct:av) (us:List av),us.length=ps.length->bindArgs (tP x x (nU st) (gW st) (aD st) .none kV doc pm an cdv ct) ⟨us,[]⟩=pure (ps.zip us)):Df K mg x st ps:=by
 obtain⟨f,fd,F,a⟩:=Q.ex;exact⟨f,fd,F,F.binds hb,kH X G a⟩
end
section
variable {X:Cx}{E:XK}{e a b tg iter:Expr}{body:List Stmt}{f fa fb:Zae}{fi:Zad}{g:Zab}{h:Zba}{pos pos':Pos}{i:Nat}{x:Str}
theorem aK (ha:FB X E a fa)(hb:FB X E b fb)(hs:zZ b:=by exact λ_ _=>rfl):FE X E (.Subscript a b pos) (aB gIx fa fb):=Ym Bs ha hb hs
theorem c7 (hN:X.N.Nodup)(he:FE X E e f)(hi:X.N[i]? = some x:=by rfl)(hx:Loc X.env.scope x:=by first|exact .inl rfl|exact .inr rfl)(hs:fR e (some<|.Name x pos') pos.line X.env=pure false:=by rfl)
  (hf:X.fn x=true\/X.env.scope.names.lookup x=some .local:=by first|exact .inl rfl|exact .inr rfl|assumption):FS X E (.Assign [.Name x pos'] e pos) (bj i f):=Rh hN hi hx he hs hf
theorem pP (hN:X.N.Nodup)(he:FN X E e f)(hi:X.N[i]? = some x:=by rfl)(hx:Loc X.env.scope x:=by first|exact .inl rfl|exact .inr rfl)(hs:fR e (some<|.Name x pos') pos.line X.env=pure false:=by rfl)
  (hf:X.fn x=true\/X.env.scope.names.lookup x=some .local:=by first|exact .inl rfl|exact .inr rfl|assumption):FS X E (.Assign [.Name x pos'] e pos) (gY i f):=S6 hN hi hx he hs hf
theorem bB {k:Nat}(hN:X.N.Nodup)(hi:X.N[i]? = some x:=by rfl)(hx:Loc X.env.scope x:=by first|exact .inl rfl|exact .inr rfl)(hk:i<k:=by decide)
  (hf:X.fn x=true\/X.env.scope.names.lookup x=some .local:=by first|exact .inl rfl|exact .inr rfl|assumption):FG X k (.Name x pos) (hName i):=Wo hN hi hx hk hf
theorem jB (hi:FI X E tg iter fi)(hg:FG X 1000 tg h)(hb:FSs X E body g)(hp:vv (b9 X.prog X.w) X.A X.env X.xe:=by exact iE)(hc:X.calm=true:=by rfl)
  (hs:∀x,gN iter X.env x=pure x:=by intro _;rfl):FS X E (.For tg iter body [] pos) (fB fi h g):=ZP hp hc hi hg hb hs
end
theorem nds {N:List Str}(h:decide N.Nodup=true):N.Nodup:=of_decide_eq_true h
abbrev NO (K:bb)(x:Str):Prop:=oo K cK x=some none
structure Cb (K:bb)(mg:Zp)(base:Heap):Prop where
 X:K.In base
 N:base.Ns cK mg
structure Ck (K:bb)(x:Str)(i j:Int):Prop where
 ex:∃C nn sl t u,oo K cK x=some (some (.ref C))/\K.lookup C=some ⟨.type "tuple",none,.seq #[.int i t,.int j u] nn,sl⟩
section
variable {P:bo}{w:dc}{K:bb}{mg:Zp}{base:Heap}{x:Str}{st:Stmt}{N ps:List Str}{k:Nat}{g:Zab}{i j:Int}
theorem ck {C:Addr}{nn:Nat}{sl:Array (Option av)}{t u:Tok}(a:oo K cK x=some (some<|.ref C))(b:K.lookup C=some ⟨.type "tuple",none,.seq #[.int i t,.int j u] nn,sl⟩):Ck K x i j:=⟨_,_,_,_,_,a,b⟩
theorem Cb.no (C:Cb K mg base)(h:NO K x):mg x=none:=W.mg_none_of C.X C.N h
theorem Cb.cn {X:Cx}{E:XK}{pos:Pos}(B:Cb X.K X.mg X.base)(c:Ck X.K x i j)(hg:Gl X x:=by rfl)(hd:(x==("__debug__":Str))=false:=by decide):FE X E (.Name x pos) (fC<|.tup [.int i,.int j]):=by
 obtain⟨C,_,_,t,u,a,b⟩:=c.ex;exact Oi hg (kH B.X B.N a) (v:=.ref C) rfl (λ_ _=>.tup (xs:=[.int i,.int j]) (.inr ⟨_,_,_,b,rfl,⟨rfl,rfl⟩,(show 2<=ay by decide),(.cons ⟨t,rfl⟩<|.cons ⟨u,rfl⟩ .nil)⟩) (.cons (.int i)<|.cons (.int j) .nil)) hd
abbrev Bds (x:Str)(st:Stmt)(ps:List Str):Prop:=∀(kV doc pm:av) (an:Option Addr) (cdv ct:av) (us:List av),us.length=ps.length->bindArgs (tP x x (nU st) (gW st) (aD st) .none kV doc pm an cdv ct) ⟨us,[]⟩=pure (ps.zip us)
theorem QD.ff {sp:Sp}(Q:QD K x st)(C:Cb K mg base)(hk:∀f fd,Fun K x x st f fd->oG P w K mg base (CX1 P w) k f fd ps sp)
  (hb:Bds x st ps:=by first|exact λ_ _ _ _ _ _=>xb1 λ_=>rfl|exact λ_ _ _ _ _ _=>xb2 λ_ _=>rfl|exact λ_ _ _ _ _ _=>xb3 λ_ _ _=>rfl|exact λ_ _ _ _ _ _=>xb4 λ_ _ _ _=>rfl|exact λ_ _ _ _ _ _=>xb5 λ_ _ _ _ _=>rfl|exact λ_ _ _ _ _ _=>xb6 λ_ _ _ _ _ _=>rfl):Hd.Fn P w K mg base k x ps sp:=(Q.df C.X C.N hb).fn hk
end
open PySem PySem.Spec PyProof.Rows L2 Hd
structure Ci (K:bb)(x:Str)(i:Int):Prop where
 ex:∃t,oo K cK x=some (some (.int i t))
section
variable {K:bb}{x:Str}{i:Int}
theorem ci {t:Tok}(a:oo K cK x=some (some<|.int i t)):Ci K x i:=⟨_,a⟩
theorem Cb.ci {X:Cx}{E:XK}{pos:Pos}(B:Cb X.K X.mg X.base)(c:Ci X.K x i)(hg:Gl X x:=by rfl)(hd:(x==("__debug__":Str))=false:=by decide):FE X E (.Name x pos) (fC<|.int i):=by
 obtain⟨t,a⟩:=c.ex;exact Oi hg (kH B.X B.N a) (v:=.int i) ⟨t,rfl⟩ (λ_ _=>.int i) hd
end
end F
namespace K14
open PySem L2 Hd F Pk Lw
def clsAt (s:Stmt)(j:Nat):Stmt:=match s with
 | .ClassDef _ _ _ b ..=>b.getD j<|.Pass ⟨0,0,0,0⟩
 |_=>.Pass ⟨0,0,0,0⟩
local macro_rules | `(tactic| trivial)=>`(tactic| first|exact⟨rfl,rfl,rfl,by decide +kernel,rfl,by decide +kernel,by decide +kernel⟩|exact⟨rfl,by decide +kernel,by decide +kernel,by decide +kernel,by decide +kernel⟩)
noncomputable def top (i:Nat):Stmt:=PySem.Challenge.pw_hushduel_k14_too_great.main.body.getD i<|.Pass ⟨0,0,0,0⟩
theorem CT:b0 "ValueError" = some (.type "ValueError"):=by decide +kernel
theorem BK:b0 "abs" = some (.builtin "abs"):=by decide +kernel
theorem Tn:b0 "all" = some (.builtin "all"):=by decide +kernel
theorem Ui:b0 "any" = some (.builtin "any"):=by decide +kernel
theorem Mt:b0 "bool" = some (.type "bool"):=by decide +kernel
theorem Kl:b0 "int" = some (.type "int"):=by decide +kernel
theorem bH:b0 "isinstance" = some (.builtin "isinstance"):=by decide +kernel
theorem iJ:b0 "len" = some (.builtin "len"):=by decide +kernel
theorem yc:b0 "list" = some (.type "list"):=by decide +kernel
theorem aar:b0 "max" = some (.builtin "max"):=by decide +kernel
theorem Rf:b0 "str" = some (.type "str"):=by decide +kernel
theorem KJ:b0 "sum" = some (.builtin "sum"):=by decide +kernel
theorem jb:b0 "tuple" = some (.type "tuple"):=by decide +kernel
abbrev pH:Stmt:=clsAt (top 8) 0
abbrev nQ:Stmt:=clsAt (top 6) 0
abbrev qb:Stmt:=clsAt (top 7) 0
abbrev rP:Stmt:=top 12
abbrev Ik:Stmt:=top 13
abbrev Vo:Stmt:=top 14
abbrev Og:Stmt:=top 15
abbrev Ly:Stmt:=top 16
abbrev qm:Stmt:=top 18
abbrev uQ:Stmt:=top 19
abbrev wM:Stmt:=top 27
abbrev qY:Stmt:=top 28
abbrev lL:Stmt:=top 29
abbrev Jh:Stmt:=top 30
abbrev Aq:Stmt:=top 31
abbrev yu:Stmt:=top 32
abbrev qF:Stmt:=top 33
abbrev pF:Stmt:=top 34
abbrev Cz:Stmt:=top 35
abbrev iI:Stmt:=top 36
abbrev mW:Stmt:=top 37
abbrev m9:Stmt:=top 38
abbrev gj:Stmt:=top 39
abbrev rT:Stmt:=top 40
abbrev pG:Stmt:=top 41
abbrev qR:Stmt:=top 42
abbrev Ry:Stmt:=top 43
abbrev uK:Stmt:=top 45
abbrev wg:Stmt:=top 46
abbrev qg:Stmt:=top 47
abbrev qp:Stmt:=top 48
abbrev rQ:Stmt:=top 49
abbrev uW:Stmt:=top 50
abbrev qW:Stmt:=top 51
abbrev nH:Stmt:=top 52
abbrev lX:Stmt:=top 53
abbrev jk:Stmt:=top 54
abbrev oU:Stmt:=top 55
abbrev tK:Stmt:=top 56
abbrev zz:Stmt:=top 57
abbrev vq:Stmt:=top 58
abbrev zj:Stmt:=top 59
abbrev tU:Stmt:=top 60
abbrev BP:Stmt:=top 61
abbrev uG:Stmt:=top 62
abbrev sG:Stmt:=top 63
abbrev Dw:Stmt:=top 64
structure Qs (K:bb):Prop where
 q0:QD K "common_divisor" rP
 q1:QD K "lowest" Ik
 q2:QD K "plus" Vo
 q3:QD K "under" Og
 q4:QD K "total" Ly
 q5:QD K "branches_of" qm
 q6:QD K "places_of" uQ
 q7:QD K "words_at" wM
 q8:QD K "records_behind" qY
 q9:QD K "places_with_records" lL
 q10:QD K "row_at" Jh
 q11:QD K "table_of" Aq
 q12:QD K "rows_of" yu
 q13:QD K "count_words" qF
 q14:QD K "fractions_at" pF
 q15:QD K "is_great" Cz
 q16:QD K "refuse_great_places" iI
 q17:QD K "refuse_great_table" mW
 q18:QD K "refuse_great_shape" m9
 q19:QD K "refuse_great_fractions" gj
 q20:QD K "are_shares" rT
 q21:QD K "refuse_other_row" pG
 q22:QD K "refuse_unsound" qR
 q23:QD K "look" Ry
 q24:QD K "_law_cell_at" uK
 q25:QD K "_law_lowest" wg
 q26:QD K "_law_pool" qg
 q27:QD K "_law_places" qp
 q28:QD K "_law_table" rQ
 q29:QD K "_law_is_text" uW
 q30:QD K "_law_is_record" qW
 q31:QD K "_law_is_table" nH
 q32:QD K "_law_fractions" lX
 q33:QD K "_law_too_great" jk
 q34:QD K "_law_come_to_one" oU
 q35:QD K "_law_due" tK
 q36:QD K "_law_ways" zz
 q37:QD K "_law_refusal" vq
 q38:QD K "_law_told" zj
 q39:QD K "_law_named" tU
 q40:QD K "_law_row" BP
 q41:QD K "_law_near" uG
 q42:QD K "_law_drawn" sG
 q43:QD K "law" Dw
 n0:NO K "ValueError"
 n1:NO K "abs"
 n2:NO K "all"
 n3:NO K "any"
 n4:NO K "bool"
 n5:NO K "enumerate"
 n6:NO K "int"
 n7:NO K "isinstance"
 n8:NO K "len"
 n9:NO K "list"
 n10:NO K "max"
 n11:NO K "range"
 n12:NO K "reversed"
 n13:NO K "str"
 n14:NO K "sum"
 n15:NO K "tuple"
 c0:Ck K "NOUGHT" 0 1
 c1:Ck K "ONE" 1 1
 i0:Ci K "MOST_PLACES" 64
 i1:Ci K "MOST_BRANCHES" 12
 i2:Ci K "MOST_NAMES" 8
 i3:Ci K "MOST_WORDS_SEEN" 24
 i4:Ci K "GREATEST_TOP" 999999999999
 i5:Ci K "GREATEST_BOTTOM" 999
structure ExT (K:bb)(mg:Zp):Prop where
 TooGreat:∃C,mg "TooGreat" = some (.ref C)/\BD K C [.type "ValueError",.type "Exception",.type "BaseException",.type "object"] "ValueError.__new__" = true
structure XcT (K:bb)(mg:Zp):Prop where
 c_DuelError:∃C,mg "DuelError" = some (.ref C)/\∀c D,dR c=true->mg c=some (.ref D)->rf K (.ref D) (.ref C)=some true
 i_Forgets:ICl K mg "Forgets" iR
 i_NoPlace:ICl K mg "NoPlace" jd
 i_NoPlan:ICl K mg "NoPlan" jP
 i_NoShares:ICl K mg "NoShares" ik
 i_NoText:ICl K mg "NoText" jT
 i_TooGreat:ICl K mg "TooGreat" ir
 i_Unlike:ICl K mg "Unlike" jV
 i_ValueError:mg "ValueError" = none/\∀c D b,fP c=some b->mg c=some (.ref D)->XC K D/\bt K (.ref D) (.type "ValueError")=some b
 f_one:∀c C,oA c=true->mg c=some (.ref C)->XF K C/\cx K (.ref C) "one" = some none
 f_other:∀c C,jn c=true->mg c=some (.ref C)->XF K C/\cx K (.ref C) "other" = some none
 f_way:∀c C,vy c=true->mg c=some (.ref C)->XF K C/\cx K (.ref C) "way" = some none
structure XfT (P:bo)(w:dc)(K:bb)(mg:Zp)(base:Heap):Prop where
 x_Forgets:XFn P w K mg base 1 "Forgets" ["one", "other"]
 x_NoShares:XFn P w K mg base 1 "NoShares" ["way"]
 x_Unlike:XFn P w K mg base 1 "Unlike" ["one", "other"]
structure Bt (P:bo)(w:dc)(K:bb)(mg:Zp)(base:Heap):Prop where
 c:Cb K mg base
 q:Qs K
 e:ExT K mg
 x:XcT K mg
 f:XfT P w K mg base
theorem wF:aY ["self", "one", "other"] ["self", "one", "other"] (aD pH):=by trivial
theorem vL:aY ["self", "way"] ["self", "way"] (aD nQ):=by trivial
theorem yr:aY ["self", "one", "other"] ["self", "one", "other"] (aD qb):=by trivial
theorem eU:aY ["first", "second", "great", "small", "rest"] ["first", "second"] (aD rP):=by trivial
theorem Bh:aY ["top", "bottom", "divisor"] ["top", "bottom"] (aD Ik):=by trivial
theorem aaA:aY ["first", "second"] ["first", "second"] (aD Vo):=by trivial
theorem W6:aY ["first", "second"] ["first", "second"] (aD Og):=by trivial
theorem zV:aY ["some", "result", "each"] ["some"] (aD Ly):=by trivial
theorem CW:aY ["game"] ["game"] (aD qm):=by trivial
theorem m6:aY ["game", "places", "waiting", "place", "behind"] ["game"] (aD uQ):=by trivial
theorem Kh:aY ["move"] ["move"] (aD wM):=by trivial
theorem rJ:aY ["place", "records", "number", "pair"] ["place", "records", "number"] (aD qY):=by trivial
theorem cJ:aY ["game", "known", "found", "way", "place", "number"] ["game"] (aD lL):=by trivial
theorem S9:aY ["move", "records"] ["move", "records"] (aD Jh):=by trivial
theorem pI:aY ["game", "rows", "way", "place", "records"] ["game"] (aD Aq):=by trivial
theorem Pj:aY ["game", "side"] ["game", "side"] (aD yu):=by trivial
theorem CQ:aY ["rows"] ["rows"] (aD qF):=by trivial
theorem Bj:aY ["place"] ["place"] (aD pF):=by trivial
theorem JC:aY ["fraction"] ["fraction"] (aD Cz):=by trivial
theorem lJ:aY ["game", "places"] ["game"] (aD iI):=by trivial
theorem iY:aY ["game", "side", "rows"] ["game"] (aD mW):=by trivial
theorem uO:aY ["game"] ["game"] (aD m9):=by trivial
theorem gf:aY ["game", "way", "place"] ["game"] (aD gj):=by trivial
theorem GK:aY ["shares"] ["shares"] (aD rT):=by trivial
theorem wQ:aY ["way", "row", "first_way", "first_row"] ["way", "row", "first_way", "first_row"] (aD pG):=by trivial
theorem dF:aY ["game", "firsts", "way", "place", "records", "row", "first"] ["game"] (aD qR):=by trivial
theorem aaG:aY ["game"] ["game"] (aD Ry):=by trivial
theorem Ax:aY ["_law_script", "_law_k"] ["_law_script", "_law_k"] (aD uK):=by trivial
theorem mK:aY ["_law_top", "_law_bottom", "_law_one", "_law_other"] ["_law_top", "_law_bottom"] (aD wg):=by trivial
theorem du:aY ["_law_cell", "_law_turn", "_law_signs", "_law_size", "_law_places_here", "_law_k", "_law_word", "_law_at", "_law_found", "_law_sign"] ["_law_cell", "_law_turn"] (aD qg):=by trivial
theorem cD:aY ["_law_game", "_law_found", "_law_waiting", "_law_way", "_law_place", "_law_records", "_law_parts", "_law_word", "_law_part", "_law_others", "_law_k"] ["_law_game"] (aD qp):=by trivial
theorem ie:aY ["_law_game", "_law_rows", "_law_known", "_law_way", "_law_place", "_law_records", "_law_words"] ["_law_game"] (aD rQ):=by trivial
theorem Az:aY ["_law_found"] ["_law_found"] (aD uW):=by trivial
theorem rE:aY ["_law_found", "_law_pair"] ["_law_found"] (aD qW):=by trivial
theorem uh:aY ["_law_found", "_law_row_here"] ["_law_found"] (aD nH):=by trivial
theorem yL:aY ["_law_place"] ["_law_place"] (aD lX):=by trivial
theorem bW:aY ["_law_game", "_law_places_here", "_law_way", "_law_place", "_law_records", "_law_top", "_law_bottom", "_law_rows", "_law_side", "_law_many"] ["_law_game"] (aD jk):=by trivial
theorem cP:aY ["_law_shares", "_law_top", "_law_bottom", "_law_one", "_law_other"] ["_law_shares"] (aD oU):=by trivial
theorem jg:aY ["_law_game", "_law_firsts", "_law_way", "_law_place", "_law_records", "_law_words", "_law_mine", "_law_first"] ["_law_game"] (aD tK):=by trivial
theorem uJ:aY ["_law_some", "_law_way", "_law_k"] ["_law_some"] (aD zz):=by trivial
theorem uE:aY ["_law_e", "_law_kinds"] ["_law_e"] (aD vq):=by trivial
theorem kJ:aY ["_law_game", "_law_found", "_law_kind", "_law_e"] ["_law_game"] (aD zj):=by trivial
theorem nT:aY ["_law_side", "_law_names", "_law_sizes", "_law_parts", "_law_k", "_law_ways_here"] ["_law_side", "_law_names", "_law_sizes"] (aD tU):=by trivial
theorem lY:aY ["_law_long", "_law_cell", "_law_names", "_law_game", "_law_k"] ["_law_long", "_law_cell", "_law_names"] (aD BP):=by trivial
theorem iV:aY ["_law_kind", "_law_cell", "_law_names", "_law_many", "_law_sizes", "_law_top", "_law_bottom", "_law_part", "_law_other"] ["_law_kind", "_law_cell", "_law_names"] (aD uG):=by trivial
theorem dO:aY ["_law_script", "_law_pool_here", "_law_names", "_law_first", "_law_game", "_law_turn", "_law_bad"] ["_law_script"] (aD sG):=by trivial
theorem Uu:aY ["_law_script", "_law_game", "_law_due_here"] ["_law_script"] (aD Dw):=by trivial
section
variable {P:bo}{w:dc}{K:bb}{mg:Zp}{base:Heap}(B:Bt P w K mg base)
include B
theorem xx:FF P w K mg base 1 "common_divisor" ["first", "second"] ji:=B.2.q0.ff B.1 λ_ _ Fu=>
 bF Fu eU λ_ _ _ _ _ _ hr=>by
 have hu:=hr.units;unfold mq lR;exact(aC (c7 eU.nd<|bJ rF rfl (B.1.no B.2.n1) BK<|aQ (aq 0) bf)
  (aC (c7 eU.nd<|bJ rF rfl (B.1.no B.2.n1) BK<|aQ (aq 1) bf)
  (aC (xf iE (bK (o7 hu) (aq 3) (au ao)<|bx _)
  (aC (c7 eU.nd<|aO bU (aq 2)<|aq 3)
  (aC (c7 eU.nd<|aG 3)
  (aF<|c7 eU.nd<|aG 4))))
  (aF<|bG<|aG 2))))
theorem Qa:FF P w K mg base 2 "lowest" ["top", "bottom"] rm:=B.2.q1.ff B.1 λ_ _ Fu=>
 bF Fu Bh λ_ _ _ _ _ _ hr=>by
 have hu:=hr.units;unfold yh xj;exact(aC (c7 Bh.nd<|bM (xx B) hr aX<|aj (aG 0)<|aj (aG 1) az)
  (aC (cg (bK (Cg hu) (aq 1) (au ao)<|bx _)
  (aF<|c7 Bh.nd<|MT Ai<|aq 2)
  aZ)
  (aF<|bG<|aW<|aj (aO dh (aq 0)<|aq 2)<|aj (aO dh (aq 1)<|aq 2) az)))
theorem X3:FF P w K mg base 3 "plus" ["first", "second"] Fv:=B.2.q2.ff B.1 λ_ _ Fu=>
 bF Fu aaA λ_ _ _ _ _ _ hr=>by
 unfold Kd J2;exact(aF<|bG<|bM (Qa B) hr aX<|aj (aO bT (au<|aO oE (au<|aK (aq 0)<|au ao)<|au<|aK (aq 1)<|au ao)<|au<|aO oE (au<|aK (aq 1)<|au ao)<|au<|aK (aq 0)<|au ao)<|aj (aO oE (au<|aK (aq 0)<|au ao)<|au<|aK (aq 1)<|au ao) az)
theorem S7:FF P w K mg base 1 "under" ["first", "second"] Ah:=B.2.q3.ff B.1 λ_ _ Fu=>
 bF Fu W6 λ_ _ _ _ _ _ hr=>by
 have hu:=hr.units;unfold FZ Fw;exact(aF<|bG<|rW (Cg hu) (au<|aO oE (au<|aK (aq 0)<|au ao)<|au<|aK (aq 1)<|au ao) (au<|aO oE (au<|aK (aq 1)<|au ao)<|au<|aK (aq 0)<|au ao)<|bx _)
theorem T7:FF P w K mg base 4 "total" ["some"] zR:=B.2.q4.ff B.1 λ_ _ Fu=>
 bF Fu zV λ_ _ _ _ _ _ hr=>by
 unfold Ha Gy;exact(aC (c7 zV.nd<|B.1.cn B.2.c0)
  (aC (jB (lE<|aG 0) (bB zV.nd)
  (aF<|c7 zV.nd<|bM (X3 B) hr aX<|aj (aG 1)<|aj (aG 2) az))
  (aF<|bG<|aG 1)))
theorem uR:FF P w K mg base 1 "branches_of" ["game"] jA:=B.2.q5.ff B.1 λ_ _ Fu=>
 bF Fu CW λ_ _ _ _ _ _ hr=>by
 have hu:=hr.units;unfold wz iG;exact(aC (cg (bK (cO hu) (au<|aK (aq 0)<|au ao) (au bC)<|bx _)
  (aF<|jG<|gr az)
  aZ)
  (aF<|jG<|gB (aD qm) ["lead", "branch"] [] 2 [] rfl (by trivial) .nil (my<|lO<|aK (aq 0)<|au<|MT Ai<|au ao) (λ_ _ _ _ _ _=>(fV rfl<|aV (bB<|nds rfl)<|aV (bB<|nds rfl) dB)) (λ_ _ _ _ _ _=>cR) λ_ _ _ _ _ _=>(aG 1)))
theorem sO:FF P w K mg base 2 "places_of" ["game"] iQ:=B.2.q6.ff B.1 λ_ _ Fu=>
 bF Fu m6 λ_ _ _ _ _ _ hr=>by
 unfold za pO;exact(aC (pP m6.nd<|gr az)
  (aC (pP m6.nd<|gr<|aj (aW<|aj (aW az)<|aj (aG 0) az) az)
  (aC (xf iE (bK nD (au<|bJ cL rfl (B.1.no B.2.n8) iJ<|aQ (aq 2) bf) (au ao)<|bx _)
  (aC (Qf 3 2 m6.nd rfl<|fA rfl)
  (aC (jr 1<|aG 3)
  (aC (oY (i:=4) (aD uQ) ["number", "branch", "place"] ["place"] 2 [3] m6.nd rfl (d4 rfl) rfl (by trivial) (.cons rfl .nil) (Ve rfl (B.1.no B.2.n5)<|aQ (au<|bM (uR B) hr aX<|aj (aK (aq 3)<|au ao) az) bf) (λ_ _ _ _ _ _=>(fV rfl<|aV (bB<|nds rfl)<|aV (bB<|nds rfl) dB)) (λ_ _ _ _ _ _=>cR) λ_ _ _ _ _ _=>(aW<|aj (aO bT (au<|aK (aq 2)<|au ao)<|au<|aW<|aj (aG 0) az)<|aj (aG 1) az))
  (aF<|Pr 2<|V1 rfl rfl (B.1.no B.2.n9) rfl (B.1.no B.2.n12)<|aQ (aq 4) bf)))))
  (aF<|yq 1))))
theorem Jx:FF P w K mg base 1 "words_at" ["move"] rR:=B.2.q7.ff B.1 λ_ _ Fu=>
 bF Fu Kh λ_ _ _ _ _ _ hr=>by
 unfold wJ wI;exact(aF<|bG<|kj j7 rfl (B.1.no B.2.n15) jb<|aQ (au<|iT<|gB (aD wM) ["word", "branch"] [] 2 [] rfl (by trivial) .nil (my<|lO<|aK (aq 0)<|au ao) (λ_ _ _ _ _ _=>(fV rfl<|aV (bB<|nds rfl)<|aV (bB<|nds rfl) dB)) (λ_ _ _ _ _ _=>cR) λ_ _ _ _ _ _=>(aG 0)) bf)
theorem xY:FF P w K mg base 1 "records_behind" ["place", "records", "number"] eY:=B.2.q8.ff B.1 λ_ _ Fu=>
 bF Fu rJ λ_ _ _ _ _ _ hr=>by
 have hu:=hr.units;unfold gM gG;exact(aC (cg (bK (o7 hu) (au<|aK (aq 0)<|au ao) (au bC)<|bx _)
  (aF<|bG<|aG 1)
  aZ)
  (aC (c7 rJ.nd<|aW<|aj (aK (aq 0)<|au ao)<|aj (aK (au<|aK (au<|aK (aq 0)<|au ao)<|aq 2)<|au ao) az)
  (aC (cg (bK (cO hu) (au<|aK (aq 0)<|au ao) (au ao)<|bx _)
  (aF<|bG<|aW<|aj (aO bT (au<|aK (aq 1)<|au ao)<|au<|aW<|aj (aG 3) az)<|aj (aK (aq 1)<|au ao) az)
  aZ)
  (aF<|bG<|aW<|aj (aK (aq 1)<|au ao)<|aj (aO bT (au<|aK (aq 1)<|au ao)<|au<|aW<|aj (aG 3) az) az))))
theorem lC:FF P w K mg base 3 "places_with_records" ["game"] cN:=B.2.q9.ff B.1 λ_ _ Fu=>
 bF Fu cJ λ_ _ _ _ _ _ hr=>by
 unfold lH fU;refine Wr.out ?_;exact(eF (YH (i:=1) cJ.nd rfl (d4 rfl)<|Wr.mk<|S8 hr (aW az)<|aW<|aj (aW az)<|aj (aW az) az)<|eF (YH (i:=2) cJ.nd rfl (d4 rfl)<|vU<|Wr.mk az)<|eF (Wr.mk<|jB (lE<|bM (sO B) hr aX<|aj (aG 0) az) (fV rfl<|aV (bB cJ.nd)<|aV (bB cJ.nd) dB)<|aC (jr 2<|aW<|aj (aG 3)<|aj (aG 4)<|aj (Oa hr (aq 1) (aq 3) λ_ _=>rfl) az)<|aF<|jB (km rfl (B.1.no B.2.n11)<|aQ (au<|bJ cL rfl (B.1.no B.2.n8) iJ<|aQ (au<|bM (uR B) hr aX<|aj (aG 4) az) bf) bf) (bB cJ.nd)<|aF<|Ny 1 hr (bM (xY B) hr aX<|aj (aG 4)<|aj (Oa hr (aq 1) (aq 3) λ_ _=>rfl)<|aj (aG 5) az)<|aO bT (aq 3)<|au<|aW<|aj (aG 5) az)<|rB<|Wr.mk<|yq 2)
theorem Ds:FF P w K mg base 2 "row_at" ["move", "records"] qQ:=B.2.q10.ff B.1 λ_ _ Fu=>
 bF Fu S9 λ_ _ _ _ _ _ hr=>by
 unfold yj ye;exact(aF<|bG<|aW<|aj (aK (aq 0)<|au ao)<|aj (aK (aq 0)<|au ao)<|aj (bM (Jx B) hr aX<|aj (aG 0) az)<|aj (aK (aq 1)<|au<|aO jM (au<|aK (aq 0)<|au ao)<|au ao) az)
theorem zy:FF P w K mg base 4 "table_of" ["game"] uc:=B.2.q11.ff B.1 λ_ _ Fu=>
 bF Fu pI λ_ _ _ _ _ _ hr=>by
 have hu:=hr.units;unfold Cj tQ;exact(aC (pP pI.nd zO)
  (aC (jB (lE<|bM (lC B) hr aX<|aj (aG 0) az) (fV rfl<|aV (bB pI.nd)<|aV (bB pI.nd)<|aV (bB pI.nd) dB)
  (aF (cg (bK (cO hu) (au<|aK (aq 3)<|au ao) (au bC)<|bx _)
  (aF<|aaO 1 hr (aW<|aj (aK (aq 3)<|au ao)<|aj (aK (aq 3)<|au ao) az) (bM (Ds B) hr aX<|aj (aG 3)<|aj (aG 4) az) ⟨rfl,rfl,rfl,rfl⟩)
  aZ)))
  (aF<|jG<|TX rfl rfl (B.1.no B.2.n9)<|aq 1)))
theorem K4:FF P w K mg base 5 "rows_of" ["game", "side"] vA:=B.2.q12.ff B.1 λ_ _ Fu=>
 bF Fu Pj λ_ _ _ _ _ _ hr=>by
 have hu:=hr.units;unfold yP yW;exact(aF<|jG<|gB (aD yu) ["row", "side"] ["side"] 1 [1] rfl (by trivial) (.cons rfl .nil) (mX<|au<|bM (zy B) hr aX<|aj (aG 0) az) (λ_ _ _ _ _ _=>(bB<|nds rfl)) (λ_ _ _ _ _ _=>(Ht<|bK (cO hu) (au<|aK (aq 0)<|au ao) (aq 1)<|bx _)) λ_ _ _ _ _ _=>(aG 0))
theorem An:FF P w K mg base 1 "count_words" ["rows"] mH:=B.2.q13.ff B.1 λ_ _ Fu=>
 bF Fu CQ λ_ _ _ _ _ _ hr=>by
 unfold ql qK;exact(aF<|bG<|bJ (Dm rfl) rfl (B.1.no B.2.n14) KJ<|aQ (au<|iT<|gB (aD qF) ["row"] [] 1 [] rfl (by trivial) .nil (mX<|aq 0) (λ_ _ _ _ _ _=>(bB<|nds rfl)) (λ_ _ _ _ _ _=>cR) λ_ _ _ _ _ _=>(bJ cL rfl (B.1.no B.2.n8) iJ<|aQ (au<|aK (aq 0)<|au ao) bf)) bf)
theorem uq:FF P w K mg base 1 "fractions_at" ["place"] cZ:=B.2.q14.ff B.1 λ_ _ Fu=>
 bF Fu Bj λ_ _ _ _ _ _ hr=>by
 have hu:=hr.units;unfold pK oW;exact(aC (cg (bK (cO hu) (au<|aK (aq 0)<|au ao) (au bC)<|bx _)
  (aF<|jG<|gr<|aj (aK (aq 0)<|au ao) az)
  aZ)
  (aC (cg (bK (cO hu) (au<|aK (aq 0)<|au ao) (au bC)<|bx _)
  (aF<|jG<|gB (aD pF) ["share", "branch"] [] 2 [] rfl (by trivial) .nil (my<|lO<|aK (aq 0)<|au ao) (λ_ _ _ _ _ _=>(fV rfl<|aV (bB<|nds rfl)<|aV (bB<|nds rfl) dB)) (λ_ _ _ _ _ _=>cR) λ_ _ _ _ _ _=>(aG 0))
  aZ)
  (aF<|jG<|gr az)))
theorem Jf:FF P w K mg base 1 "is_great" ["fraction"] ph:=B.2.q15.ff B.1 λ_ _ Fu=>
 bF Fu JC λ_ _ _ _ _ _ hr=>by
 unfold ue sy;exact(aF<|bG<|abr (rW nD (au<|bJ rF rfl (B.1.no B.2.n1) BK<|aQ (au<|aK (aq 0)<|au ao) bf) (au<|B.1.ci B.2.i4)<|bx _)<|JB<|rW nD (au<|aK (aq 0)<|au ao) (au<|B.1.ci B.2.i5)<|bx _)
theorem tL:FF P w K mg base 3 "refuse_great_places" ["game"] cM:=B.2.q16.ff B.1 λ_ _ Fu=>
 bF Fu lJ λ_ _ _ _ _ _ hr=>by
 unfold dD dC;exact(aC (c7 lJ.nd<|bM (sO B) hr aX<|aj (aG 0) az)
  (aC (cg (bK nD (au<|bJ cL rfl (B.1.no B.2.n8) iJ<|aQ (aq 1) bf) (au<|B.1.ci B.2.i0)<|bx _)
  (aF<|qX B.3.TooGreat rfl hr.hd (Je bC) λ_ _ _ _ _ _ _ _ I mk q=>vm I mk q)
  aZ)
  (aF (cg (cV<|bJ (Ej rfl) rfl (B.1.no B.2.n3) Ui<|aQ (au<|iT<|gB (aD iI) ["way", "place"] [] 2 [] rfl (by trivial) .nil (mX<|aq 1) (λ_ _ _ _ _ _=>(fV rfl<|aV (bB<|nds rfl)<|aV (bB<|nds rfl) dB)) (λ_ _ _ _ _ _=>cR) λ_ _ _ _ _ _=>(rW nD (au<|bJ cL rfl (B.1.no B.2.n8) iJ<|aQ (aq 0) bf) (au<|B.1.ci B.2.i1)<|bx _)) bf)
  (aF<|qX B.3.TooGreat rfl hr.hd (Je bC) λ_ _ _ _ _ _ _ _ I mk q=>vm I mk q)
  aZ))))
theorem uA:FF P w K mg base 6 "refuse_great_table" ["game"] cT:=B.2.q17.ff B.1 λ_ _ Fu=>
 bF Fu iY λ_ _ _ _ _ _ hr=>by
 unfold dX d7;exact(aF (jB (lO<|aW<|aj ao<|aj ao az) (bB iY.nd)
  (aC (c7 iY.nd<|bM (K4 B) hr aX<|aj (aG 0)<|aj (aG 1) az)
  (aC (cg (bK nD (au<|bJ cL rfl (B.1.no B.2.n8) iJ<|aQ (aq 2) bf) (au<|B.1.ci B.2.i2)<|bx _)
  (aF<|qX B.3.TooGreat rfl hr.hd (Je bC) λ_ _ _ _ _ _ _ _ I mk q=>vm I mk q)
  aZ)
  (aF (cg (bK nD (au<|bM (An B) hr aX<|aj (aG 2) az) (au<|B.1.ci B.2.i3)<|bx _)
  (aF<|qX B.3.TooGreat rfl hr.hd (Je bC) λ_ _ _ _ _ _ _ _ I mk q=>vm I mk q)
  aZ))))))
theorem uB:FF P w K mg base 7 "refuse_great_shape" ["game"] f9:=B.2.q18.ff B.1 λ_ _ Fu=>
 bF Fu uO λ_ _ _ _ _ _ hr=>by
 unfold iZ jc;exact(aC (vI<|bM (tL B) hr aX<|aj (aG 0) az)
  (aF<|vI<|bM (uA B) hr aX<|aj (aG 0) az))
theorem pM:FF P w K mg base 3 "refuse_great_fractions" ["game"] dU:=B.2.q19.ff B.1 λ_ _ Fu=>
 bF Fu gf λ_ _ _ _ _ _ hr=>by
 unfold gk gq;exact(aF (jB (lE<|bM (sO B) hr aX<|aj (aG 0) az) (fV rfl<|aV (bB gf.nd)<|aV (bB gf.nd) dB)
  (aF (cg (cV<|bJ (Ej rfl) rfl (B.1.no B.2.n3) Ui<|aQ (au<|iT<|gB (aD gj) ["fraction"] [] 1 [] rfl (by trivial) .nil (mX<|au<|bM (uq B) hr aX<|aj (aG 2) az) (λ_ _ _ _ _ _=>(bB<|nds rfl)) (λ_ _ _ _ _ _=>cR) λ_ _ _ _ _ _=>(bM (Jf B) hr Ji<|aj (aG 0) az)) bf)
  (aF<|qX B.3.TooGreat rfl hr.hd (Je bC) λ_ _ _ _ _ _ _ _ I mk q=>vm I mk q)
  aZ))))
theorem De:FF P w K mg base 5 "are_shares" ["shares"] oh:=B.2.q20.ff B.1 λ_ _ Fu=>
 bF Fu GK λ_ _ _ _ _ _ hr=>by
 have hu:=hr.units;unfold sU tW;exact(aF<|bG<|Vm (bJ (Ei rfl) rfl (B.1.no B.2.n2) Tn<|aQ (au<|iT<|gB (aD rT) ["share"] [] 1 [] rfl (by trivial) .nil (mX<|aq 0) (λ_ _ _ _ _ _=>(bB<|nds rfl)) (λ_ _ _ _ _ _=>cR) λ_ _ _ _ _ _=>(bM (S7 B) hr Ji<|aj (B.1.cn B.2.c0)<|aj (aG 0) az)) bf)<|JB<|rW (cO hu) (au<|bM (T7 B) hr aX<|aj (aG 0) az) (au<|B.1.cn B.2.c1)<|bx _)
theorem vN:FF P w K mg base 3 "refuse_other_row" ["way", "row", "first_way", "first_row"] cB:=B.2.q21.ff B.1 λ_ _ Fu=>
 bF Fu wQ λ_ _ _ _ _ _ hr=>by
 have hu:=hr.units;unfold fK fL;exact(aC (cg (bK (o7 hu) (au<|aK (aq 1)<|au ao) (au<|aK (aq 3)<|au ao)<|bx _)
  (aF<|yC B.5.x_Unlike hr yM<|aj (aG 2)<|aj (aG 0) az)
  aZ)
  (aF (cg (bK (o7 hu) (au<|aK (aq 1)<|au ao) (au<|aK (aq 3)<|au ao)<|bx _)
  (aF<|yC B.5.x_Forgets hr yM<|aj (aG 2)<|aj (aG 0) az)
  aZ)))
theorem xg:FF P w K mg base 6 "refuse_unsound" ["game"] gO:=B.2.q22.ff B.1 λ_ _ Fu=>
 bF Fu dF λ_ _ _ _ _ _ hr=>by
 have hu:=hr.units;unfold jq jl;exact(aC (pP dF.nd zO)
  (aF (jB (lE<|bM (lC B) hr aX<|aj (aG 0) az) (fV rfl<|aV (bB dF.nd)<|aV (bB dF.nd)<|aV (bB dF.nd) dB)
  (aC (cg (wU<|wC (bK (cO hu) (au<|aK (aq 3)<|au ao) (au bC)<|bx _)<|sH<|iW<|cV<|bM (De B) hr aX<|aj (bM (uq B) hr aX<|aj (aG 3) az) az)
  (aF<|yC B.5.x_NoShares hr yM<|aj (aG 2) az)
  aZ)
  (aF (cg (bK (cO hu) (au<|aK (aq 3)<|au ao) (au bC)<|bx _)
  (aC (c7 dF.nd<|bM (Ds B) hr aX<|aj (aG 3)<|aj (aG 4) az)
  (aC (Nb (i:=6) dF.nd rfl (d4 rfl)<|Ut 1 hr (aW<|aj (aK (aq 3)<|au ao)<|aj (aK (aq 3)<|au ao) az) (aW<|aj (aG 2)<|aj (aG 5) az) ⟨rfl,rfl,rfl,rfl⟩)
  (aF<|vI<|bM (vN B) hr aX<|aj (aG 2)<|aj (aG 5)<|aj (aK (aq 6)<|au ao)<|aj (aK (aq 6)<|au ao) az)))
  aZ))))))
theorem WK:FF P w K mg base 8 "look" ["game"] Hg:=B.2.q23.ff B.1 λ_ _ Fu=>
 bF Fu aaG λ_ _ _ _ _ _ hr=>by
 unfold K7 JK;exact(aC (vI<|bM (uB B) hr aX<|aj (aG 0) az)
  (aC (vI<|bM (pM B) hr aX<|aj (aG 0) az)
  (aC (vI<|bM (xg B) hr aX<|aj (aG 0) az)
  (aF<|jG<|acS (zy B) hr aX<|aj (aG 0) az))))
theorem iB:FF P w K mg base 1 "_law_cell_at" ["_law_script", "_law_k"] fH:=B.2.q24.ff B.1 λ_ _ Fu=>
 bF Fu Ax λ_ _ _ _ _ _ hr=>by
 have hu:=hr.units;unfold lA kZ;exact(aC (cg (bK (Cg hu) (aq 1) (au<|bJ cL rfl (B.1.no B.2.n8) iJ<|aQ (aq 0) bf)<|bx _)
  (aF<|bG<|aK (aq 0)<|aq 1)
  aZ)
  (aF<|bG ao))
theorem oJ:FF P w K mg base 1 "_law_lowest" ["_law_top", "_law_bottom"] iD:=B.2.q25.ff B.1 λ_ _ Fu=>
 bF Fu mK λ_ _ _ _ _ _ hr=>by
 have hu:=hr.units;unfold qL qG;exact(aC (c7 mK.nd<|bJ rF rfl (B.1.no B.2.n1) BK<|aQ (aq 0) bf)
  (aC (c7 mK.nd<|aG 1)
  (aC (xf iE (bK (o7 hu) (aq 3) (au ao)<|bx _)
  (aF<|aaY (i:=2) (j:=3) rfl mK.nd rfl rfl (by decide) rfl rfl<|aj (aG 3)<|aj (aO bU (aq 2)<|aq 3) az))
  (aF<|bG<|aW<|aj (aO dh (aq 0)<|aq 2)<|aj (aO dh (aq 1)<|aq 2) az))))
theorem FP:FF P w K mg base 1 "_law_pool" ["_law_cell", "_law_turn"] mY:=B.2.q26.ff B.1 λ_ _ Fu=>
 bF Fu du λ_ _ _ _ _ _ hr=>by
 have hu:=hr.units;unfold zg j8;exact(aC (c7 du.nd bC)
  (aC (c7 du.nd<|aO bT (au ao)<|au<|aO bU (aq 0)<|au ao)
  (aC (c7 du.nd<|aO dh (aq 0)<|au ao)
  (aC (pP du.nd<|gr az)
  (aC (jB (km rfl (B.1.no B.2.n11)<|aQ (aq 3) bf) (bB du.nd)
  (aC (jr 4<|aO bU (aq 0)<|au ao)
  (aF<|c7 du.nd<|aO dh (aq 0)<|au ao)))
  (aC (c7 du.nd<|acH PySem.F.plainAttrs_str PySem.F.slot_str_join PySem.F.type_str_join Uw (au bC)<|aQ (au<|iT<|gB (aD qg) ["_law_k", "_law_signs"] ["_law_signs"] 1 [2] rfl (by trivial) (.cons rfl .nil) (mX<|aq 4) (λ_ _ _ _ _ _=>(bB<|nds rfl)) (λ_ _ _ _ _ _=>cR) λ_ _ _ _ _ _=>(aK (aq 1)<|aq 0)) bf)
  (aC (cg (bK (cO hu) (au<|aO bU (au<|aO dh (aq 1)<|au ao)<|au ao) (au ao)<|bx _)
  (aF<|jG<|gB (aD qg) ["_law_k", "_law_word"] ["_law_word"] 1 [6] rfl (by trivial) (.cons rfl .nil) (my<|O7 rfl (B.1.no B.2.n11)<|aQ (au ao)<|aQ (au ao) bf) (λ_ _ _ _ _ _=>(bB<|nds rfl)) (λ_ _ _ _ _ _=>cR) λ_ _ _ _ _ _=>(uT (au<|aO SJ (au ao)<|aq 1) xn<|xX<|aq 0))
  aZ)
  (aC (c7 du.nd<|aO bU (aq 1)<|aq 3)
  (aC (pP du.nd<|gr az)
  (aC (jB (km rfl (B.1.no B.2.n11)<|aQ (au ao) bf) (bB du.nd)
  (aC (c7 du.nd<|aK (aq 2)<|au<|aO bU (au<|aO bT (au<|aK (aq 4)<|aq 7)<|au<|aO oE (au ao)<|aq 5)<|au ao)
  (aF<|jr 8<|aO bT (au<|aO bT (au<|uT (aq 6) xn<|xX<|aq 7)<|aq 9)<|au<|uT (aq 6) (xX<|au<|aO bT (aq 7)<|au ao) xn)))
  (aF<|yq 8)))))))))))
theorem oM:FF P w K mg base 1 "_law_places" ["_law_game"] gm:=B.2.q27.ff B.1 λ_ _ Fu=>
 bF Fu cD λ_ _ _ _ _ _ hr=>by
 have hu:=hr.units;unfold wk mL;exact(aC (pP cD.nd<|gr az)
  (aC (pP cD.nd<|gr<|aj (aW<|aj (aW az)<|aj (aG 0)<|aj (aW<|aj (aW az)<|aj (aW az) az) az) az)
  (aC (xf iE (bK nD (au<|bJ cL rfl (B.1.no B.2.n8) iJ<|aQ (aq 2) bf) (au ao)<|bx _)
  (aC (WW (k:=1000) (ZM 2)<|fV rfl<|aV (bB cD.nd)<|aV (bB cD.nd)<|aV (bB cD.nd) dB)
  (aC (jr 1<|aW<|aj (aG 3)<|aj (aG 4)<|aj (aG 5) az)
  (aC (pP cD.nd<|gr az)
  (aC (cg (bK (cO hu) (au<|aK (aq 4)<|au ao) (au bC)<|bx _)
  (aF<|Kw (i:=6) (aD qp) ["_law_share", "_law_part", "_law_records"] ["_law_records"] 2 [5] cD.nd rfl (d4 rfl) rfl (by trivial) (.cons rfl .nil) (my<|lO<|aK (aq 4)<|au ao) (λ_ _ _ _ _ _=>(fV rfl<|aV (bB<|nds rfl)<|aV (bB<|nds rfl) dB)) (λ_ _ _ _ _ _=>cR) λ_ _ _ _ _ _=>(aW<|aj (aG 1)<|aj (aG 2) az))
  aZ)
  (aC (cg (bK (cO hu) (au<|aK (aq 4)<|au ao) (au bC)<|bx _)
  (aF (jB (lO<|aK (aq 4)<|au ao) (fV rfl<|aV (bB cD.nd)<|aV (bB cD.nd) dB)
  (aC (pP cD.nd<|QQ Kg rfl (B.1.no B.2.n9) yc<|aQ (aq 5) bf)
  (aC (UT 9 (aO bT (au<|aK (aq 9)<|au<|aO jM (au<|aK (aq 4)<|au ao)<|au ao)<|au<|aW<|aj (aW<|aj (aK (aq 4)<|au ao)<|aj (aG 7) az) az)<|aO jM (au<|aK (aq 4)<|au ao)<|au ao)
  (aF<|jr 6<|aW<|aj (aG 8)<|aj (kj j7 rfl (B.1.no B.2.n15) jb<|aQ (aq 9) bf) az)))))
  aZ)
  (aF (jB (WT rfl (B.1.no B.2.n11)<|aQ (au<|aO jM (au<|bJ cL rfl (B.1.no B.2.n8) iJ<|aQ (aq 6) bf)<|au ao)<|aQ (au<|MT Ai<|au ao)<|aQ (au<|MT Ai<|au ao) bf) (bB cD.nd)
  (aF<|jr 2<|aW<|aj (aO bT (aq 3)<|au<|aW<|aj (aG 10) az)<|aj (aK (au<|aK (aq 6)<|aq 10)<|au ao)<|aj (aK (au<|aK (aq 6)<|aq 10)<|au ao) az)))))))))
  (aF<|yq 1))))
theorem vY:FF P w K mg base 2 "_law_table" ["_law_game"] lB:=B.2.q28.ff B.1 λ_ _ Fu=>
 bF Fu ie λ_ _ _ _ _ _ hr=>by
 have hu:=hr.units;unfold sW ud;exact(aC (pP ie.nd<|gr az)
  (aC (pP ie.nd zO)
  (aC (jB (lE<|bM (oM B) hr aX<|aj (aG 0) az) (fV rfl<|aV (bB ie.nd)<|aV (bB ie.nd)<|aV (bB ie.nd) dB)
  (aF (cg (wU<|wC (bK (cO hu) (au<|aK (aq 4)<|au ao) (au bC)<|bx _)<|sH<|bK (We hr) (au<|aW<|aj (aK (aq 4)<|au ao)<|aj (aK (aq 4)<|au ao) az) (aq 2)<|by with_unfolding_all rfl)
  (aC (Ny 2 hr m5<|aW<|aj (aK (aq 4)<|au ao)<|aj (aK (aq 4)<|au ao) az)
  (aC (c7 ie.nd<|kj j7 rfl (B.1.no B.2.n15) jb<|aQ (au<|iT<|gB (aD rQ) ["_law_word", "_law_part"] [] 2 [] rfl (by trivial) .nil (my<|lO<|aK (aq 4)<|au ao) (λ_ _ _ _ _ _=>(fV rfl<|aV (bB<|nds rfl)<|aV (bB<|nds rfl) dB)) (λ_ _ _ _ _ _=>cR) λ_ _ _ _ _ _=>(aG 0)) bf)
  (aF<|jr 1<|aW<|aj (aK (aq 4)<|au ao)<|aj (aK (aq 4)<|au ao)<|aj (aG 6)<|aj (aK (aq 5)<|au<|aO jM (au<|aK (aq 4)<|au ao)<|au ao) az)))
  aZ)))
  (aF<|yq 1))))
theorem jL:FF P w K mg base 1 "_law_is_text" ["_law_found"] gK:=B.2.q29.ff B.1 λ_ _ Fu=>
 bF Fu Az λ_ _ _ _ _ _ hr=>by
 unfold uP uD;exact(aF<|bG<|o8 (x:="") (aq 0) rfl (B.1.no B.2.n7) bH rfl (B.1.no B.2.n13) Rf)
theorem w5:FF P w K mg base 2 "_law_is_record" ["_law_found"] jh:=B.2.q30.ff B.1 λ_ _ Fu=>
 bF Fu rE λ_ _ _ _ _ _ hr=>by
 have hu:=hr.units;unfold lN lZ;exact(aC (cg (iW<|cV<|o8 (x:="") (aq 0) rfl (B.1.no B.2.n7) bH rfl (B.1.no B.2.n15) jb)
  (aF<|bG m5)
  aZ)
  (aC (jB (lO<|aG 0) (bB rE.nd)
  (aF (cg (wU<|pW (iW<|cV<|o8 (x:="") (aq 1) rfl (B.1.no B.2.n7) bH rfl (B.1.no B.2.n15) jb)<|pW (bK (o7 hu) (au<|bJ cL rfl (B.1.no B.2.n8) iJ<|aQ (aq 1) bf) (au ao)<|bx _)<|pW (iW<|cV<|bM (jL B) hr aX<|aj (aK (aq 1)<|au ao) az)<|vf<|iW<|cV<|bM (jL B) hr aX<|aj (aK (aq 1)<|au ao) az)
  (aF<|bG m5)
  aZ)))
  (aF<|bG m5)))
theorem yG:FF P w K mg base 3 "_law_is_table" ["_law_found"] jJ:=B.2.q31.ff B.1 λ_ _ Fu=>
 bF Fu uh λ_ _ _ _ _ _ hr=>by
 have hu:=hr.units;unfold nC nM;exact(aC (cg (iW<|cV<|o8 (x:="") (aq 0) rfl (B.1.no B.2.n7) bH rfl (B.1.no B.2.n9) yc)
  (aF<|bG m5)
  aZ)
  (aC (jB (lE<|aG 0) (bB uh.nd)
  (aC (cg (wU<|pW (iW<|cV<|o8 (x:="") (aq 1) rfl (B.1.no B.2.n7) bH rfl (B.1.no B.2.n15) jb)<|pW (bK (o7 hu) (au<|bJ cL rfl (B.1.no B.2.n8) iJ<|aQ (aq 1) bf) (au ao)<|bx _)<|pW (iW<|cV<|o8 (x:="") (au<|aK (aq 1)<|au ao) rfl (B.1.no B.2.n7) bH rfl (B.1.no B.2.n6) Kl)<|vf<|cV<|o8 (x:="") (au<|aK (aq 1)<|au ao) rfl (B.1.no B.2.n7) bH rfl (B.1.no B.2.n4) Mt)
  (aF<|bG m5)
  aZ)
  (aC (cg (wU<|pW (iW<|cV<|bM (jL B) hr aX<|aj (aK (aq 1)<|au ao) az)<|pW (iW<|cV<|o8 (x:="") (au<|aK (aq 1)<|au ao) rfl (B.1.no B.2.n7) bH rfl (B.1.no B.2.n15) jb)<|vf<|iW<|cV<|bM (w5 B) hr aX<|aj (aK (aq 1)<|au ao) az)
  (aF<|bG m5)
  aZ)
  (aF (cg (iW<|cV<|bJ (Ei rfl) rfl (B.1.no B.2.n2) Tn<|aQ (au<|iT<|gB (aD nH) ["_law_word"] [] 1 [] rfl (by trivial) .nil (my<|lO<|aK (aq 1)<|au ao) (λ_ _ _ _ _ _=>(bB<|nds rfl)) (λ_ _ _ _ _ _=>cR) λ_ _ _ _ _ _=>(bM (jL B) hr Ji<|aj (aG 0) az)) bf)
  (aF<|bG m5)
  aZ)))))
  (aF<|bG m5)))
theorem xQ:FF P w K mg base 1 "_law_fractions" ["_law_place"] jo:=B.2.q32.ff B.1 λ_ _ Fu=>
 bF Fu yL λ_ _ _ _ _ _ hr=>by
 have hu:=hr.units;unfold qU rK;exact(aC (cg (bK (cO hu) (au<|aK (aq 0)<|au ao) (au bC)<|bx _)
  (aF<|jG<|gr<|aj (aK (aq 0)<|au ao) az)
  aZ)
  (aC (cg (bK (cO hu) (au<|aK (aq 0)<|au ao) (au bC)<|bx _)
  (aF<|jG<|gB (aD lX) ["_law_share", "_law_part"] [] 2 [] rfl (by trivial) .nil (my<|lO<|aK (aq 0)<|au ao) (λ_ _ _ _ _ _=>(fV rfl<|aV (bB<|nds rfl)<|aV (bB<|nds rfl) dB)) (λ_ _ _ _ _ _=>cR) λ_ _ _ _ _ _=>(aG 0))
  aZ)
  (aF<|jG<|gr az)))
theorem yf:FF P w K mg base 3 "_law_too_great" ["_law_game"] dH:=B.2.q33.ff B.1 λ_ _ Fu=>
 bF Fu bW λ_ _ _ _ _ _ hr=>by
 have hu:=hr.units;unfold eZ eX;exact(aC (c7 bW.nd<|bM (oM B) hr aX<|aj (aG 0) az)
  (aC (cg (wU<|pW (bK nD (au<|bJ cL rfl (B.1.no B.2.n8) iJ<|aQ (aq 1) bf) (au ao)<|bx _)<|vf<|bK nD (au<|bJ (Lf rfl) rfl (B.1.no B.2.n10) aar<|aQ (au<|iT<|gB (aD jk) ["_law_way", "_law_place", "_law_records"] [] 3 [] rfl (by trivial) .nil (mX<|aq 1) (λ_ _ _ _ _ _=>(fV rfl<|aV (bB<|nds rfl)<|aV (bB<|nds rfl)<|aV (bB<|nds rfl) dB)) (λ_ _ _ _ _ _=>cR) λ_ _ _ _ _ _=>(bJ cL rfl (B.1.no B.2.n8) iJ<|aQ (aq 0) bf)) bf) (au ao)<|bx _)
  (aF<|bG m5)
  aZ)
  (aC (jB (lE<|aG 1) (fV rfl<|aV (bB bW.nd)<|aV (bB bW.nd)<|aV (bB bW.nd) dB)
  (aF (jB (lE<|bM (xQ B) hr aX<|aj (aG 3) az) (fV rfl<|aV (bB bW.nd)<|aV (bB bW.nd) dB)
  (aF (cg (wU<|pW (bK TQ (au<|bJ rF rfl (B.1.no B.2.n1) BK<|aQ (aq 5) bf) (au<|aO GR (au ao)<|au ao)<|bx _)<|vf<|bK TQ (aq 6) (au ao)<|bx _)
  (aF<|bG m5)
  aZ)))))
  (aC (c7 bW.nd<|bM (vY B) hr aX<|aj (aG 0) az)
  (aC (jB (lO<|aW<|aj ao<|aj ao az) (bB bW.nd)
  (aC (oY (i:=9) (aD jk) ["_law_row_here", "_law_side"] ["_law_side"] 1 [8] bW.nd rfl (d4 rfl) rfl (by trivial) (.cons rfl .nil) (mX<|aq 7) (λ_ _ _ _ _ _=>(bB<|nds rfl)) (λ_ _ _ _ _ _=>(Ht<|bK (cO hu) (au<|aK (aq 0)<|au ao) (aq 1)<|bx _)) λ_ _ _ _ _ _=>(bJ cL rfl (B.1.no B.2.n8) iJ<|aQ (au<|aK (aq 0)<|au ao) bf))
  (aF (cg (wU<|pW (bK nD (au<|bJ cL rfl (B.1.no B.2.n8) iJ<|aQ (aq 9) bf) (au ao)<|bx _)<|vf<|bK nD (au<|bJ (Dm rfl) rfl (B.1.no B.2.n14) KJ<|aQ (aq 9) bf) (au ao)<|bx _)
  (aF<|bG m5)
  aZ))))
  (aF<|bG m5))))))
theorem vQ:FF P w K mg base 1 "_law_come_to_one" ["_law_shares"] gU:=B.2.q34.ff B.1 λ_ _ Fu=>
 bF Fu cP λ_ _ _ _ _ _ hr=>by
 have hu:=hr.units;unfold j5 j0;exact(aC (c7 cP.nd ao)
  (aC (c7 cP.nd ao)
  (aC (jB (lE<|aG 0) (fV rfl<|aV (bB cP.nd)<|aV (bB cP.nd) dB)
  (aC (cg (bK aaP (aq 3) (au ao)<|bx _)
  (aF<|bG m5)
  aZ)
  (aC (c7 cP.nd<|aO bT (au<|aO oE (aq 1)<|aq 4)<|au<|aO oE (aq 3)<|aq 2)
  (aF<|c7 cP.nd<|aO oE (aq 2)<|aq 4))))
  (aF<|bG<|rW (cO hu) (aq 1) (aq 2)<|bx _))))
theorem Im:FF P w K mg base 4 "_law_due" ["_law_game"] lW:=B.2.q35.ff B.1 λ_ _ Fu=>
 bF Fu jg λ_ _ _ _ _ _ hr=>by
 have hu:=hr.units;unfold oR oX;exact(aC (cg (cV<|bM (yf B) hr aX<|aj (aG 0) az)
  (aF<|bG<|aW<|aj bC az)
  aZ)
  (aC (pP jg.nd zO)
  (aC (jB (lE<|bM (oM B) hr aX<|aj (aG 0) az) (fV rfl<|aV (bB jg.nd)<|aV (bB jg.nd)<|aV (bB jg.nd) dB)
  (aC (cg (wU<|wC (bK (cO hu) (au<|aK (aq 3)<|au ao) (au bC)<|bx _)<|sH<|iW<|cV<|bM (vQ B) hr aX<|aj (iT<|gB (aD tK) ["_law_share", "_law_part"] [] 2 [] rfl (by trivial) .nil (my<|lO<|aK (aq 3)<|au ao) (λ_ _ _ _ _ _=>(fV rfl<|aV (bB<|nds rfl)<|aV (bB<|nds rfl) dB)) (λ_ _ _ _ _ _=>cR) λ_ _ _ _ _ _=>(aG 0)) az)
  (aF<|bG<|aW<|aj bC<|aj (aG 2) az)
  aZ)
  (aF (cg (bK (cO hu) (au<|aK (aq 3)<|au ao) (au bC)<|bx _)
  (aC (oY (i:=5) (aD tK) ["_law_word", "_law_part"] [] 2 [] jg.nd rfl (d4 rfl) rfl (by trivial) .nil (my<|lO<|aK (aq 3)<|au ao) (λ_ _ _ _ _ _=>(fV rfl<|aV (bB<|nds rfl)<|aV (bB<|nds rfl) dB)) (λ_ _ _ _ _ _=>cR) λ_ _ _ _ _ _=>(aG 0))
  (aC (c7 jg.nd<|aW<|aj (aG 2)<|aj (aG 5)<|aj (aK (aq 4)<|au<|aO jM (au<|aK (aq 3)<|au ao)<|au ao) az)
  (aC (Nb (i:=7) jg.nd rfl (d4 rfl)<|Ut 1 hr (aW<|aj (aK (aq 3)<|au ao)<|aj (aK (aq 3)<|au ao) az) (aG 6) ⟨rfl,rfl,rfl,rfl⟩)
  (aC (cg (bK (o7 hu) (au<|aK (aq 7)<|au ao) (aq 5)<|bx _)
  (aF<|bG<|aW<|aj bC<|aj (aK (aq 7)<|au ao)<|aj (aG 2) az)
  aZ)
  (aF (cg (bK (o7 hu) (au<|aK (aq 7)<|au ao) (au<|aK (aq 6)<|au ao)<|bx _)
  (aF<|bG<|aW<|aj bC<|aj (aK (aq 7)<|au ao)<|aj (aG 2) az)
  aZ))))))
  aZ))))
  (aF<|bG<|aW<|aj bC<|aj (bM (vY B) hr aX<|aj (aG 0) az) az))))
theorem sZ:FFH P w K mg base 1 "_law_ways" ["_law_some"] eQ:=DfH (B.2.q36.df B.1.X B.1.N λ_ _ _ _ _ _=>xb1 λ_=>rfl) λ_ _ Fu=>
 Ie Fu uJ λ_ _ _ _ _ _ hr hh=>by
 unfold uM uZ;exact(aC (FQ (Cm:=HS) (k:=1000) iE hh (Rz<|aG 0) (bB uJ.nd)
  (aC (cg (iW<|cV<|o8 (x:="") (aq 1) rfl (B.1.no B.2.n7) bH rfl (B.1.no B.2.n15) jb)
  (aF<|bG m5)
  aZ)
  (aF (FQ (Cm:=HS) (k:=1000) iE hh (XR<|aG 1) (bB uJ.nd)
  (aF (cg (wU<|pW (iW<|cV<|o8 (x:="") (aq 2) rfl (B.1.no B.2.n7) bH rfl (B.1.no B.2.n6) Kl)<|vf<|cV<|o8 (x:="") (aq 2) rfl (B.1.no B.2.n7) bH rfl (B.1.no B.2.n4) Mt)
  (aF<|bG m5)
  aZ))))))
  (aF<|bG m5))
theorem zG:FFH P w K mg base 2 "_law_refusal" ["_law_e"] cY:=DfH (B.2.q37.df B.1.X B.1.N λ_ _ _ _ _ _=>xb1 λ_=>rfl) λ_ _ Fu=>
 Ie Fu uE λ_ _ _ _ _ _ hr hh=>by
 have hu:=Zh hr;unfold jf iU;exact(aC (c7 uE.nd<|iT<|gr<|aj (GZ (aq 0) rfl (B.1.no B.2.n7) bH rfl B.4.i_TooGreat)<|aj (GZ (aq 0) rfl (B.1.no B.2.n7) bH rfl B.4.i_NoShares)<|aj (GZ (aq 0) rfl (B.1.no B.2.n7) bH rfl B.4.i_Unlike)<|aj (GZ (aq 0) rfl (B.1.no B.2.n7) bH rfl B.4.i_Forgets) az)
  (aC (cg (wU<|pW (cV<|Xj (aq 0) rfl (B.1.no B.2.n7) bH<|Bd B.4.i_NoPlan<|Bd B.4.i_NoText<|Bd B.4.i_NoPlace WX)<|pW (iW<|cV<|VN (aq 0) rfl (B.1.no B.2.n7) bH rfl B.4.i_ValueError CT)<|vf<|bK (o7 hu) (au<|bJ (JR hh) rfl (B.1.no B.2.n14) KJ<|aQ (aq 1) bf) (au ao)<|bx _)
  (aF<|bG<|aW<|aj bC az)
  aZ)
  (aC (cg (cV<|aK (aq 1)<|au ao)
  (aF<|bG<|aW<|aj bC az)
  aZ)
  (aC (cg (wU<|wC (cV<|aK (aq 1)<|au ao)<|sH<|cV<|JW (sZ B) hr hh BL<|aj (iT<|gr<|aj (mO (aq 0) B.4.f_way) az) az)
  (aF<|bG<|aW<|aj bC<|aj (mO (aq 0) B.4.f_way) az)
  aZ)
  (aC (cg (wU<|wC (cV<|aK (aq 1)<|au ao)<|sH<|cV<|JW (sZ B) hr hh BL<|aj (iT<|gr<|aj (mO (aq 0) B.4.f_one)<|aj (mO (aq 0) B.4.f_other) az) az)
  (aF<|bG<|aW<|aj bC<|aj (mO (aq 0) B.4.f_one)<|aj (mO (aq 0) B.4.f_other) az)
  aZ)
  (aC (cg (wU<|wC (cV<|aK (aq 1)<|au ao)<|sH<|cV<|JW (sZ B) hr hh BL<|aj (iT<|gr<|aj (mO (aq 0) B.4.f_one)<|aj (mO (aq 0) B.4.f_other) az) az)
  (aF<|bG<|aW<|aj bC<|aj (mO (aq 0) B.4.f_one)<|aj (mO (aq 0) B.4.f_other) az)
  aZ)
  (aF<|bG<|aW<|aj bC az)))))))
theorem xq:FF P w K mg base 9 "_law_told" ["_law_game"] pN:=B.2.q38.ff B.1 λ_ _ Fu=>
 bF Fu kJ λ_ _ _ _ _ _ hr=>by
 have hu:=hr.units;unfold vg kh;exact(aC (c7 kJ.nd aag)
  (aC (c7 kJ.nd<|aW az)
  (aC (Ww (i:=3) (dR) rfl rfl (Vu (i:=1) (WK B) hr kJ.nd rfl (d4 rfl)<|aj (aG 0) az) kJ.nd rfl rfl rfl B.4.c_DuelError λea=>Xm (i:=2) (zG B) (aan hr) kJ.nd rfl (d4 rfl)<|aj (aG 3) az)
  (aC (cg (bK (o7 hu) (aq 2) (au<|aW az)<|bx _)
  (aF<|bG<|aG 2)
  aZ)
  (aC (cg (iW<|cV<|bM (yG B) hr aX<|aj (aG 1) az)
  (aF<|bG<|aW<|aj bC az)
  aZ)
  (aF<|bG<|aW<|aj bC<|aj (aG 1) az))))))
theorem qy:FF P w K mg base 1 "_law_named" ["_law_side", "_law_names", "_law_sizes"] nZ:=B.2.q39.ff B.1 λ_ _ Fu=>
 bF Fu nT λ_ _ _ _ _ _ hr=>by
 unfold xK oF;exact(aC (pP nT.nd<|gr az)
  (aC (jB (km rfl (B.1.no B.2.n11)<|aQ (au<|bJ cL rfl (B.1.no B.2.n8) iJ<|aQ (aq 2) bf) bf) (bB nT.nd)
  (aC (oY (i:=5) (aD tU) ["_law_j", "_law_names", "_law_k"] ["_law_names", "_law_k"] 1 [1,4] nT.nd rfl (d4 rfl) rfl (by trivial) (.cons rfl<|.cons rfl .nil) (my<|km rfl (B.1.no B.2.n11)<|aQ (au<|aK (aq 2)<|aq 4) bf) (λ_ _ _ _ _ _=>(bB<|nds rfl)) (λ_ _ _ _ _ _=>cR) λ_ _ _ _ _ _=>(aW<|aj (aK (aq 1)<|au<|aO bU (au<|aO bT (aq 2)<|aq 0)<|au ao)<|aj (aW<|aj bC<|aj (aW<|aj (aO jM (aq 0)<|aq 2)<|aj ao az) az) az))
  (aF<|jr 3<|aW<|aj (aW<|aj ao<|aj (bJ cL rfl (B.1.no B.2.n8) iJ<|aQ (aq 2) bf) az)<|aj (aW<|aj bC<|aj (aG 0)<|aj (aK (aq 1)<|aq 4)<|aj (kj j7 rfl (B.1.no B.2.n15) jb<|aQ (aq 5) bf) az) az)))
  (aF<|bG<|aW<|aj bC<|aj (aK (aq 1)<|au ao)<|aj (kj j7 rfl (B.1.no B.2.n15) jb<|aQ (aq 3) bf) az)))
theorem Hz:FF P w K mg base 1 "_law_row" ["_law_long", "_law_cell", "_law_names"] sJ:=B.2.q40.ff B.1 λ_ _ Fu=>
 bF Fu lY λ_ _ _ _ _ _ hr=>by
 have hu:=hr.units;unfold Ao sY;exact(aC (c7 lY.nd<|aW<|aj bC<|aj (aW<|aj (aO bU (aq 1)<|au ao)<|aj ao az) az)
  (aC (jB (km rfl (B.1.no B.2.n11)<|aQ (aq 0) bf) (bB lY.nd)
  (aC (c7 lY.nd<|aO dh (aq 1)<|au ao)
  (aF (cg (wU<|wC (bK (cO hu) (au<|aO bU (aq 1)<|au ao) (au ao)<|bx _)<|sH<|bK (Cg hu) (aq 4) (au ao)<|bx _)
  (aF<|c7 lY.nd<|aW<|aj bC<|aj (aO bT (au ao)<|au<|aO bU (au<|aO dh (aq 1)<|au ao)<|au ao)<|aj (aK (aq 2)<|aq 4)<|aj (aW<|aj (aW<|aj (aK (aq 2)<|au ao)<|aj (aG 3) az) az) az)
  (aF<|c7 lY.nd<|aW<|aj bC<|aj (aK (aq 2)<|au ao)<|aj (aW<|aj (aW<|aj (aW<|aj ao<|aj ao az)<|aj (aG 3) az) az) az)))))
  (aF<|bG<|aG 3)))
theorem Gd:FF P w K mg base 2 "_law_near" ["_law_kind", "_law_cell", "_law_names"] mV:=B.2.q41.ff B.1 λ_ _ Fu=>
 bF Fu iV λ_ _ _ _ _ _ hr=>by
 have hu:=hr.units;unfold zu bY;refine Wr.out ?_;exact(eF (Dc (v5 (cO hu) (Wr.mk<|aq 0) (bV<|Wr.mk ao)<|bx _) (eF (qe (i:=3) iV.nd rfl (fA rfl)<|fO bT (bV<|Wr.mk ao)<|bV<|fO bU (Wr.mk<|aq 1)<|bV<|Wr.mk ao)<|rB<|wX<|dw<|aP (Wr.mk bC)<|aP (Dd Bs (Wr.mk<|aq 2) (bV<|Wr.mk ao) λ_ _=>rfl)<|aP (acq j7 rfl (B.1.no B.2.n15) jb<|acF (bV<|wu<|Wr.mk<|gB (aD uG) ["_law_k", "_law_many" ] ["_law_many"] 1 [3] rfl (by trivial) (.cons rfl .nil) (my<|km rfl (B.1.no B.2.n11)<|aQ (aq 3) bf) (λ_ _ _ _ _ _=>(bB<|nds rfl)) (λ_ _ _ _ _ _=>cR) λ_ _ _ _ _ _=>(aW<|aj (aW<|aj ao<|aj (aG 1) az)<|aj (aW<|aj bC<|aj (aW<|aj (aG 0)<|aj ao az) az) az))<|Wr.mk bf)<|Wr.mk az)<|Wr.mk aZ)<|eF (Dc (v5 (cO hu) (Wr.mk<|aq 0) (bV<|Wr.mk ao)<|bx _) (rB<|wX<|Wr.mk<|bM (Hz B) hr aX<|aj (aO bT (au ao)<|au<|aO bU (aq 1)<|au ao)<|aj (aO dh (aq 1)<|au ao)<|aj (aG 2) az)<|Wr.mk aZ)<|eF (Dc (v5 (cO hu) (Wr.mk<|aq 0) (bV<|Wr.mk ao)<|bx _) (rB<|wX<|Wr.mk<|bM (qy B) hr aX<|aj (aO bT (au ao)<|au<|aO bU (aq 1)<|au ao)<|aj (aG 2)<|aj (aO Bf (au<|iT<|gr<|aj (aO bT (au ao)<|au<|aO bU (au<|aO dh (aq 1)<|au ao)<|au ao) az)<|au<|aO bT (au ao)<|au<|aO bU (au<|aO dh (aq 1)<|au ao)<|au ao) az)<|Wr.mk aZ)<|eF (Dc (v5 (cO hu) (Wr.mk<|aq 0) (bV<|Wr.mk ao)<|bx _) (eF (qe (i:=4) iV.nd rfl (d4 rfl)<|wu<|vU<|aP (wu<|vU<|aP (Wr.mk ao)<|aP (Wr.mk ao)<|aP (Wr.mk ao)<|aP (Wr.mk ao)<|Wr.mk az)<|aP (wu<|vU<|aP (Wr.mk ao)<|aP (Wr.mk ao)<|aP (Wr.mk ao)<|aP (Wr.mk ao)<|Wr.mk az)<|aP (wu<|vU<|aP (Wr.mk ao)<|aP (Wr.mk ao)<|aP (Wr.mk ao)<|aP (Wr.mk ao)<|aP (Wr.mk ao)<|Wr.mk az)<|aP (fO Bf (bV<|wu<|vU<|aP (Wr.mk ao)<|Wr.mk az)<|bV<|Wr.mk ao)<|aP (fO bT (bV<|wu<|vU<|aP (Wr.mk ao)<|Wr.mk az)<|bV<|fO Bf (bV<|wu<|vU<|aP (Wr.mk ao)<|Wr.mk az)<|bV<|Wr.mk ao)<|aP (wu<|vU<|aP (Wr.mk ao)<|aP (Wr.mk ao)<|aP (Wr.mk ao)<|aP (Wr.mk ao)<|aP (Wr.mk ao)<|Wr.mk az)<|Wr.mk az)<|rB<|wX<|Wr.mk<|bM (qy B) hr aX<|aj (aO bT (au ao)<|au<|aO bU (aq 1)<|au ao)<|aj (aG 2)<|aj (aK (aq 4)<|au<|aO bU (au<|aO dh (aq 1)<|au ao)<|au ao) az)<|Wr.mk aZ)<|eF (Dc (v5 (cO hu) (Wr.mk<|aq 0) (bV<|Wr.mk ao)<|bx _) (eF (qe (i:=5) iV.nd rfl (d4 rfl)<|Dd Bs (bV<|wu<|vU<|aP (Wr.mk ao)<|aP (Wr.mk ao)<|aP (fO jM (bV<|Wr.mk ao)<|bV<|Wr.mk ao)<|aP (fO jM (bV<|Wr.mk ao)<|bV<|Wr.mk ao)<|aP (fO jM (bV<|Wr.mk ao)<|bV<|fO GR (bV<|Wr.mk ao)<|bV<|Wr.mk ao)<|aP (fO bT (bV<|fO GR (bV<|Wr.mk ao)<|bV<|Wr.mk ao)<|bV<|Wr.mk ao)<|Wr.mk az) (bV<|fO bU (Wr.mk<|aq 1)<|bV<|Wr.mk ao) λ_ _=>rfl)<|eF (Dc (v5 (cO hu) (bV<|fO bU (bV<|fO dh (Wr.mk<|aq 1)<|bV<|Wr.mk ao)<|bV<|Wr.mk ao) (bV<|Wr.mk ao)<|bx _) (rB<|wX<|dw<|aP (Wr.mk bC)<|aP (Wr.mk<|bM (oJ B) hr aX<|aj (aO bT (au ao)<|au<|aO bU (au<|aO dh (aq 1)<|au ao)<|au ao)<|aj (aO bT (au ao)<|au<|aO bU (au<|aO dh (aq 1)<|au ao)<|au ao) az)<|Wr.mk az)<|Wr.mk aZ)<|rB<|wX<|dw<|aP (Wr.mk bC)<|aP (dw<|aP (Wr.mk<|aG 5)<|aP (Wr.mk ao)<|Wr.mk az)<|Wr.mk az)<|Wr.mk aZ)<|eF (Dc (v5 (cO hu) (Wr.mk<|aq 0) (bV<|Wr.mk ao)<|bx _) (eF (qe (i:=6) iV.nd rfl (d4 rfl)<|fO bT (bV<|Wr.mk ao)<|bV<|fO bU (Wr.mk<|aq 1)<|bV<|Wr.mk ao)<|eF (qe (i:=7) iV.nd rfl (d4 rfl)<|Wr.mk<|bM (oJ B) hr aX<|aj (aO bT (au ao)<|au<|aO bU (au<|aO dh (aq 1)<|au ao)<|au ao)<|aj (aG 6) az)<|eF (qe (i:=8) iV.nd rfl (d4 rfl)<|Wr.mk<|bM (oJ B) hr aX<|aj (aO jM (au<|aO jM (aq 6)<|au ao)<|au<|aO bU (au<|aO dh (aq 1)<|au ao)<|au ao)<|aj (aG 6) az)<|rB<|wX<|dw<|aP (Wr.mk bC)<|aP (Dd Bs (Wr.mk<|aq 2) (bV<|Wr.mk ao) λ_ _=>rfl)<|aP (dw<|aP (dw<|aP (Wr.mk<|aG 7)<|aP (dw<|aP (Wr.mk bC)<|aP (dw<|aP (Wr.mk ao)<|aP (Wr.mk ao)<|Wr.mk az)<|Wr.mk az)<|Wr.mk az)<|aP (dw<|aP (Wr.mk<|aG 8)<|aP (dw<|aP (Wr.mk bC)<|aP (dw<|aP (Wr.mk ao)<|aP (Wr.mk ao)<|Wr.mk az)<|Wr.mk az)<|Wr.mk az)<|Wr.mk az)<|Wr.mk az)<|Wr.mk aZ)<|rB<|wX<|Wr.mk<|bM (qy B) hr aX<|aj (aO bT (au ao)<|au<|aO bU (aq 1)<|au ao)<|aj (aG 2)<|aj (iT<|gr<|aj ao<|aj ao az) az)
theorem CP:FF P w K mg base 3 "_law_drawn" ["_law_script"] tD:=B.2.q42.ff B.1 λ_ _ Fu=>
 bF Fu dO λ_ _ _ _ _ _ hr=>by
 have hu:=hr.units;unfold xP jm;refine Wr.out ?_;exact(eF (qe (i:=1) dO.nd rfl (fA rfl)<|Wr.mk<|bM (FP B) hr aX<|aj (bM (iB B) hr aX<|aj (aG 0)<|aj ao az)<|aj (bM (iB B) hr aX<|aj (aG 0)<|aj ao az) az)<|eF (Wr.mk<|oY (i:=2) (aD sG) ["_law_k", "_law_pool_here" ] ["_law_pool_here"] 1 [1] dO.nd rfl (d4 rfl) rfl (by trivial) (.cons rfl .nil) (my<|km rfl (B.1.no B.2.n11)<|aQ (au ao) bf) (λ_ _ _ _ _ _=>(bB<|nds rfl)) (λ_ _ _ _ _ _=>cR) λ_ _ _ _ _ _=>(aO bT (au<|uT (au<|aK (aq 1)<|au ao) xn<|xX<|au ao)<|au<|kj Qi rfl (B.1.no B.2.n13) Rf<|aQ (aq 0) bf))<|eF (qe (i:=3) dO.nd rfl (d4 rfl)<|Wr.mk<|bM (iB B) hr aX<|aj (aG 0)<|aj ao az)<|eF (qe (i:=4) dO.nd rfl (d4 rfl)<|Wr.mk<|bM (Gd B) hr aX<|aj (aO bU (aq 3)<|au ao)<|aj (bM (iB B) hr aX<|aj (aG 0)<|aj ao az)<|aj (aG 2) az)<|eF (qe (i:=5) dO.nd rfl (d4 rfl)<|Wr.mk<|bM (iB B) hr aX<|aj (aG 0)<|aj ao az)<|eF (Dc (v5 (cO hu) (bV<|fO bU (Wr.mk<|aq 5)<|bV<|Wr.mk ao) (bV<|Wr.mk ao)<|bx _) (eF (qe (i:=6) dO.nd rfl (d4 rfl)<|dw<|aP (Wr.mk bC)<|aP (Dd Bs (Wr.mk<|aq 2) (bV<|Wr.mk ao) λ_ _=>rfl)<|aP (dw<|aP (dw<|aP (dw<|aP (Wr.mk ao)<|aP (Wr.mk ao)<|Wr.mk az)<|aP (dw<|aP (Wr.mk bC)<|aP (dw<|aP (Wr.mk ao)<|aP (Wr.mk ao)<|Wr.mk az)<|Wr.mk az)<|Wr.mk az)<|aP (dw<|aP (dw<|aP (Wr.mk ao)<|aP (fO bT (bV<|Wr.mk ao)<|bV<|fO bU (bV<|fO dh (Wr.mk<|aq 5)<|bV<|Wr.mk ao)<|bV<|Wr.mk ao)<|Wr.mk az)<|aP (dw<|aP (Wr.mk bC)<|aP (dw<|aP (Wr.mk ao)<|aP (Wr.mk ao)<|Wr.mk az)<|Wr.mk az)<|Wr.mk az)<|Wr.mk az)<|Wr.mk az)<|rB<|qe (i:=4) dO.nd rfl (d4 rfl)<|dw<|aP (Wr.mk bC)<|aP (fO bT (bV<|Wr.mk ao)<|bV<|fO bU (bV<|fO dh (Wr.mk<|aq 5)<|bV<|Wr.mk ao)<|bV<|Wr.mk ao)<|aP (fO bT (bV<|Dd Bs (Wr.mk<|aq 1) (bV<|Wr.mk ao) λ_ _=>rfl)<|bV<|Wr.mk<|uT (au bC) xn<|xX<|au<|kj Q3 rfl (B.1.no B.2.n6) Kl<|aQ (au<|rW (Cg hu) (au<|bJ cL rfl (B.1.no B.2.n8) iJ<|aQ (au<|aK (aq 1)<|au ao) bf) (au ao)<|bx _) bf)<|aP (dw<|aP (dw<|aP (Dd Bs (Wr.mk<|aq 2) (bV<|Wr.mk ao) λ_ _=>rfl)<|aP (Wr.mk<|aG 4)<|Wr.mk az)<|aP (dw<|aP (Dd Bs (Wr.mk<|aq 2) (bV<|Wr.mk ao) λ_ _=>rfl)<|aP (Wr.mk<|aG 6)<|Wr.mk az)<|Wr.mk az)<|Wr.mk az)<|Wr.mk aZ)<|eF (Dc (v5 Y6 (bV<|fO bU (bV<|fO dh (Wr.mk<|aq 3)<|bV<|Wr.mk ao)<|bV<|Wr.mk ao) (bV<|dw<|aP (Wr.mk ao)<|aP (Wr.mk ao)<|Wr.mk az)<|by with_unfolding_all rfl) (rB<|qe (i:=4) dO.nd rfl (d4 rfl)<|dw<|aP (Wr.mk bC)<|aP (Dd Bs (Wr.mk<|aq 2) (bV<|Wr.mk ao) λ_ _=>rfl)<|aP (dw<|aP (dw<|aP (dw<|aP (Wr.mk ao)<|aP (Wr.mk ao)<|Wr.mk az)<|aP (dw<|aP (Wr.mk bC)<|aP (dw<|aP (Wr.mk ao)<|aP (Wr.mk ao)<|Wr.mk az)<|Wr.mk az)<|Wr.mk az)<|aP (dw<|aP (dw<|aP (Wr.mk ao)<|aP (Wr.mk ao)<|Wr.mk az)<|aP (Wr.mk<|aG 4)<|Wr.mk az)<|Wr.mk az)<|Wr.mk az)<|Wr.mk aZ)<|eF (Dc (v5 (cO hu) (bV<|fO bU (bV<|fO dh (Wr.mk<|aq 3)<|bV<|Wr.mk ao)<|bV<|Wr.mk ao) (bV<|Wr.mk ao)<|bx _) (rB<|qe (i:=4) dO.nd rfl (d4 rfl)<|dw<|aP (Wr.mk bC)<|aP (fO bT (bV<|Wr.mk ao)<|bV<|fO bU (bV<|fO dh (Wr.mk<|aq 3)<|bV<|Wr.mk ao)<|bV<|Wr.mk ao)<|aP (Dd Bs (Wr.mk<|aq 2) (bV<|Wr.mk ao) λ_ _=>rfl)<|aP (dw<|aP (dw<|aP (Dd Bs (Wr.mk<|aq 2) (bV<|Wr.mk ao) λ_ _=>rfl)<|aP (Wr.mk<|aG 4)<|Wr.mk az)<|Wr.mk az)<|Wr.mk az)<|Wr.mk aZ)<|rB<|wX<|Wr.mk<|aG 4)
theorem aad {f:Addr}{fd:hG}(Fu:Fun K "law" "law" Dw f fd):
  oG P w K mg base (CX1 P w) 10 f fd ["_law_script"] (spF ⟨K,mg⟩ Yo):=
 bF Fu Uu λ_ _ _ _ _ _ hr=>by
 have hu:=hr.units;unfold YF O6;exact(aC (c7 Uu.nd<|bM (CP B) hr aX<|aj (aG 0) az)
  (aC (c7 Uu.nd<|bM (Im B) hr aX<|aj (aG 1) az)
  (aF<|bG<|Vm (rW (cO hu) (au<|bM (xq B) hr aX<|aj (aG 1) az) (aq 2)<|bx _)<|JB<|rW (cO hu) (au<|bM (xq B) hr aX<|aj (aG 1) az) (aq 2)<|bx _)))
end
theorem all_mk {l:W.OpenLaw}{w:dc}{K:bb}{h:Heap}{mg:Zp}{fa:Addr}(X:K.In h)(G:h.Ns cK mg)(hfa:mg "law" = some (.ref fa))(Q:Qs K)
  {CDuelError:Addr} (nDuelError:oo K cK "DuelError" = some (some<|.ref CDuelError))
  {CForgets:Addr} (nForgets:oo K cK "Forgets" = some (some<|.ref CForgets))
  {CNoPlace:Addr} (nNoPlace:oo K cK "NoPlace" = some (some<|.ref CNoPlace))
  {CNoPlan:Addr} (nNoPlan:oo K cK "NoPlan" = some (some<|.ref CNoPlan))
  {CNoShares:Addr} (nNoShares:oo K cK "NoShares" = some (some<|.ref CNoShares))
  {CNoText:Addr} (nNoText:oo K cK "NoText" = some (some<|.ref CNoText))
  {CTooGreat:Addr} (nTooGreat:oo K cK "TooGreat" = some (some<|.ref CTooGreat))
  {CUnlike:Addr} (nUnlike:oo K cK "Unlike" = some (some<|.ref CUnlike))
  (eTooGreat:BD K CTooGreat [.type "ValueError",.type "Exception",.type "BaseException",.type "object"] "ValueError.__new__" = true)
  (xForgets0:cx K (.ref CForgets) "__getattribute__" = some (some<|.builtin "BaseException.__getattribute__"))
  (xForgets1:cx K (.ref CForgets) "__getattr__" = some none)
  (xForgets2:cx K (.ref CForgets) "__class__" = some (some<|.builtin "object.__class__"))
  (xForgets3:sQ K (.ref CForgets) (.type "BaseException")=some true)
  (xForgets4:sQ K (.ref CForgets) (.type "object")=some true)
  (xForgets5:pE K CForgets=true)
  (xNoShares0:cx K (.ref CNoShares) "__getattribute__" = some (some<|.builtin "BaseException.__getattribute__"))
  (xNoShares1:cx K (.ref CNoShares) "__getattr__" = some none)
  (xNoShares2:cx K (.ref CNoShares) "__class__" = some (some<|.builtin "object.__class__"))
  (xNoShares3:sQ K (.ref CNoShares) (.type "BaseException")=some true)
  (xNoShares4:sQ K (.ref CNoShares) (.type "object")=some true)
  (xNoShares5:pE K CNoShares=true)
  (xTooGreat0:cx K (.ref CTooGreat) "__getattribute__" = some (some<|.builtin "BaseException.__getattribute__"))
  (xTooGreat1:cx K (.ref CTooGreat) "__getattr__" = some none)
  (xTooGreat2:cx K (.ref CTooGreat) "__class__" = some (some<|.builtin "object.__class__"))
  (xTooGreat3:sQ K (.ref CTooGreat) (.type "BaseException")=some true)
  (xTooGreat4:sQ K (.ref CTooGreat) (.type "object")=some true)
  (xTooGreat5:pE K CTooGreat=true)
  (xUnlike0:cx K (.ref CUnlike) "__getattribute__" = some (some<|.builtin "BaseException.__getattribute__"))
  (xUnlike1:cx K (.ref CUnlike) "__getattr__" = some none)
  (xUnlike2:cx K (.ref CUnlike) "__class__" = some (some<|.builtin "object.__class__"))
  (xUnlike3:sQ K (.ref CUnlike) (.type "BaseException")=some true)
  (xUnlike4:sQ K (.ref CUnlike) (.type "object")=some true)
  (xUnlike5:pE K CUnlike=true)
  (uDuelErrorForgets:rf K (.ref CForgets) (.ref CDuelError)=some true)
  (uDuelErrorNoShares:rf K (.ref CNoShares) (.ref CDuelError)=some true)
  (uDuelErrorTooGreat:rf K (.ref CTooGreat) (.ref CDuelError)=some true)
  (uDuelErrorUnlike:rf K (.ref CUnlike) (.ref CDuelError)=some true)
  (wForgetsForgets:bt K (.ref CForgets) (.ref CForgets)=some true)
  (wForgetsNoShares:bt K (.ref CNoShares) (.ref CForgets)=some false)
  (wForgetsTooGreat:bt K (.ref CTooGreat) (.ref CForgets)=some false)
  (wForgetsUnlike:bt K (.ref CUnlike) (.ref CForgets)=some false)
  (vForgets:bt K (.type "NoneType") (.ref CForgets)=some false)
  (wNoPlaceForgets:bt K (.ref CForgets) (.ref CNoPlace)=some false)
  (wNoPlaceNoShares:bt K (.ref CNoShares) (.ref CNoPlace)=some false)
  (wNoPlaceTooGreat:bt K (.ref CTooGreat) (.ref CNoPlace)=some false)
  (wNoPlaceUnlike:bt K (.ref CUnlike) (.ref CNoPlace)=some false)
  (vNoPlace:bt K (.type "NoneType") (.ref CNoPlace)=some false)
  (wNoPlanForgets:bt K (.ref CForgets) (.ref CNoPlan)=some false)
  (wNoPlanNoShares:bt K (.ref CNoShares) (.ref CNoPlan)=some false)
  (wNoPlanTooGreat:bt K (.ref CTooGreat) (.ref CNoPlan)=some false)
  (wNoPlanUnlike:bt K (.ref CUnlike) (.ref CNoPlan)=some false)
  (vNoPlan:bt K (.type "NoneType") (.ref CNoPlan)=some false)
  (wNoSharesForgets:bt K (.ref CForgets) (.ref CNoShares)=some false)
  (wNoSharesNoShares:bt K (.ref CNoShares) (.ref CNoShares)=some true)
  (wNoSharesTooGreat:bt K (.ref CTooGreat) (.ref CNoShares)=some false)
  (wNoSharesUnlike:bt K (.ref CUnlike) (.ref CNoShares)=some false)
  (vNoShares:bt K (.type "NoneType") (.ref CNoShares)=some false)
  (wNoTextForgets:bt K (.ref CForgets) (.ref CNoText)=some false)
  (wNoTextNoShares:bt K (.ref CNoShares) (.ref CNoText)=some false)
  (wNoTextTooGreat:bt K (.ref CTooGreat) (.ref CNoText)=some false)
  (wNoTextUnlike:bt K (.ref CUnlike) (.ref CNoText)=some false)
  (vNoText:bt K (.type "NoneType") (.ref CNoText)=some false)
  (wTooGreatForgets:bt K (.ref CForgets) (.ref CTooGreat)=some false)
  (wTooGreatNoShares:bt K (.ref CNoShares) (.ref CTooGreat)=some false)
  (wTooGreatTooGreat:bt K (.ref CTooGreat) (.ref CTooGreat)=some true)
  (wTooGreatUnlike:bt K (.ref CUnlike) (.ref CTooGreat)=some false)
  (vTooGreat:bt K (.type "NoneType") (.ref CTooGreat)=some false)
  (wUnlikeForgets:bt K (.ref CForgets) (.ref CUnlike)=some false)
  (wUnlikeNoShares:bt K (.ref CNoShares) (.ref CUnlike)=some false)
  (wUnlikeTooGreat:bt K (.ref CTooGreat) (.ref CUnlike)=some false)
  (wUnlikeUnlike:bt K (.ref CUnlike) (.ref CUnlike)=some true)
  (vUnlike:bt K (.type "NoneType") (.ref CUnlike)=some false)
  (wValueErrorForgets:bt K (.ref CForgets) (.type "ValueError")=some true)
  (wValueErrorNoShares:bt K (.ref CNoShares) (.type "ValueError")=some true)
  (wValueErrorTooGreat:bt K (.ref CTooGreat) (.type "ValueError")=some true)
  (wValueErrorUnlike:bt K (.ref CUnlike) (.type "ValueError")=some true)
  (xnForgetsone:cx K (.ref CForgets) "one" = some none)
  (xnForgetsother:cx K (.ref CForgets) "other" = some none)
  (xsForgets:cx K (.ref CForgets) "__setattr__" = some (some<|.builtin "object.__setattr__"))
  (xkForgets:lh K (.ref CForgets)=true)
  {IForgets:Addr} (xiForgets:cx K (.ref CForgets) "__init__" = some (some<|.ref IForgets))
  (xoForgets:(rV K CForgets).any (λcd=>Dz cd.mro)=true)
  (xeForgets:DR K CForgets IForgets [.type "ValueError",.type "Exception",.type "BaseException",.type "object"] "ValueError.__new__" = true)
  (xqForgets:QX K IForgets "Forgets.__init__" pH)
  (xnNoSharesway:cx K (.ref CNoShares) "way" = some none)
  (xsNoShares:cx K (.ref CNoShares) "__setattr__" = some (some<|.builtin "object.__setattr__"))
  (xkNoShares:lh K (.ref CNoShares)=true)
  {INoShares:Addr} (xiNoShares:cx K (.ref CNoShares) "__init__" = some (some<|.ref INoShares))
  (xoNoShares:(rV K CNoShares).any (λcd=>Dz cd.mro)=true)
  (xeNoShares:DR K CNoShares INoShares [.type "ValueError",.type "Exception",.type "BaseException",.type "object"] "ValueError.__new__" = true)
  (xqNoShares:QX K INoShares "NoShares.__init__" nQ)
  (xnUnlikeone:cx K (.ref CUnlike) "one" = some none)
  (xnUnlikeother:cx K (.ref CUnlike) "other" = some none)
  (xsUnlike:cx K (.ref CUnlike) "__setattr__" = some (some<|.builtin "object.__setattr__"))
  (xkUnlike:lh K (.ref CUnlike)=true)
  {IUnlike:Addr} (xiUnlike:cx K (.ref CUnlike) "__init__" = some (some<|.ref IUnlike))
  (xoUnlike:(rV K CUnlike).any (λcd=>Dz cd.mro)=true)
  (xeUnlike:DR K CUnlike IUnlike [.type "ValueError",.type "Exception",.type "BaseException",.type "object"] "ValueError.__new__" = true)
  (xqUnlike:QX K IUnlike "Unlike.__init__" qb):
  ∃fd:hG,(∀(s:aS) (v:av),AM s fd ⟨[v],[]⟩ [("_law_script",v)])/\∀base:Heap,K.In base->base.Ns cK mg->oG l.prog w K mg base (CX1 l.prog w) 10 fa fd ["_law_script"] (Oz K):=by
 obtain⟨f,fd,F0,a⟩:=Q.q43.ex;have e:=hfa.symm.trans<|kH X G a;cases e;obtain⟨oc,od,kV,doc,pm,an,cdv,ct,osl,rfl,lk,hcd⟩:=F0.ex;refine⟨tP "law" "law" (nU Dw) (gW Dw) (aD Dw) .none kV doc pm an cdv ct,λs v=>.of_eq rfl,λbase kb nb=>?_⟩;have Ex:ExT K mg:=⟨⟨CTooGreat,kH X G nTooGreat,eTooGreat⟩⟩;have yForgets:(rV K CForgets).isSome=true:=by
  obtain⟨cd,hc,_⟩:=nE xForgets5;rw[hc];rfl
 have ZForgets:XC K CForgets:=⟨xForgets0,xForgets1,xForgets2,xForgets3,xForgets4,yForgets⟩;have MForgets:∀{D:Addr},mg "Forgets" = some (.ref D)->D=CForgets:=λh=>by rw[kH X G nForgets] at h;cases h;rfl
 have yNoShares:(rV K CNoShares).isSome=true:=by
  obtain⟨cd,hc,_⟩:=nE xNoShares5;rw[hc];rfl
 have ZNoShares:XC K CNoShares:=⟨xNoShares0,xNoShares1,xNoShares2,xNoShares3,xNoShares4,yNoShares⟩;have MNoShares:∀{D:Addr},mg "NoShares" = some (.ref D)->D=CNoShares:=λh=>by rw[kH X G nNoShares] at h;cases h;rfl
 have yTooGreat:(rV K CTooGreat).isSome=true:=by
  obtain⟨cd,hc,_⟩:=nE xTooGreat5;rw[hc];rfl
 have ZTooGreat:XC K CTooGreat:=⟨xTooGreat0,xTooGreat1,xTooGreat2,xTooGreat3,xTooGreat4,yTooGreat⟩;have MTooGreat:∀{D:Addr},mg "TooGreat" = some (.ref D)->D=CTooGreat:=λh=>by rw[kH X G nTooGreat] at h;cases h;rfl
 have yUnlike:(rV K CUnlike).isSome=true:=by
  obtain⟨cd,hc,_⟩:=nE xUnlike5;rw[hc];rfl
 have ZUnlike:XC K CUnlike:=⟨xUnlike0,xUnlike1,xUnlike2,xUnlike3,xUnlike4,yUnlike⟩;have MUnlike:∀{D:Addr},mg "Unlike" = some (.ref D)->D=CUnlike:=λh=>by rw[kH X G nUnlike] at h;cases h;rfl
 have sDuelError:∀c D,dR c=true->mg c=some (.ref D)->rf K (.ref D) (.ref CDuelError)=some true:=by
  intro c D hs hm;simp only[dR,mr,beq_iff_eq] at hs;rcases hs with((rfl|rfl)|rfl)|rfl
  ·rw[MForgets hm];exact uDuelErrorForgets
  ·rw[MNoShares hm];exact uDuelErrorNoShares
  ·rw[MTooGreat hm];exact uDuelErrorTooGreat
  ·rw[MUnlike hm];exact uDuelErrorUnlike
 have iForgets:∀c D b,iR c=some b->mg c=some (.ref D)->XC K D/\bt K (.ref D) (.ref CForgets)=some b:=by
  intro c D b hs hm;simp only[iR] at hs;by_cases qForgets:c = "Forgets"
  ·rw[if_pos qForgets] at hs;cases hs;subst qForgets;rw[MForgets hm];exact⟨ZForgets,wForgetsForgets⟩
  rw[if_neg qForgets] at hs;by_cases qNoShares:c = "NoShares"
  ·rw[if_pos qNoShares] at hs;cases hs;subst qNoShares;rw[MNoShares hm];exact⟨ZNoShares,wForgetsNoShares⟩
  rw[if_neg qNoShares] at hs;by_cases qTooGreat:c = "TooGreat"
  ·rw[if_pos qTooGreat] at hs;cases hs;subst qTooGreat;rw[MTooGreat hm];exact⟨ZTooGreat,wForgetsTooGreat⟩
  rw[if_neg qTooGreat] at hs;by_cases qUnlike:c = "Unlike"
  ·rw[if_pos qUnlike] at hs;cases hs;subst qUnlike;rw[MUnlike hm];exact⟨ZUnlike,wForgetsUnlike⟩
  rw[if_neg qUnlike] at hs;cases hs
 have iNoPlace:∀c D b,jd c=some b->mg c=some (.ref D)->XC K D/\bt K (.ref D) (.ref CNoPlace)=some b:=by
  intro c D b hs hm;simp only[jd] at hs;by_cases qForgets:c = "Forgets"
  ·rw[if_pos qForgets] at hs;cases hs;subst qForgets;rw[MForgets hm];exact⟨ZForgets,wNoPlaceForgets⟩
  rw[if_neg qForgets] at hs;by_cases qNoShares:c = "NoShares"
  ·rw[if_pos qNoShares] at hs;cases hs;subst qNoShares;rw[MNoShares hm];exact⟨ZNoShares,wNoPlaceNoShares⟩
  rw[if_neg qNoShares] at hs;by_cases qTooGreat:c = "TooGreat"
  ·rw[if_pos qTooGreat] at hs;cases hs;subst qTooGreat;rw[MTooGreat hm];exact⟨ZTooGreat,wNoPlaceTooGreat⟩
  rw[if_neg qTooGreat] at hs;by_cases qUnlike:c = "Unlike"
  ·rw[if_pos qUnlike] at hs;cases hs;subst qUnlike;rw[MUnlike hm];exact⟨ZUnlike,wNoPlaceUnlike⟩
  rw[if_neg qUnlike] at hs;cases hs
 have iNoPlan:∀c D b,jP c=some b->mg c=some (.ref D)->XC K D/\bt K (.ref D) (.ref CNoPlan)=some b:=by
  intro c D b hs hm;simp only[jP] at hs;by_cases qForgets:c = "Forgets"
  ·rw[if_pos qForgets] at hs;cases hs;subst qForgets;rw[MForgets hm];exact⟨ZForgets,wNoPlanForgets⟩
  rw[if_neg qForgets] at hs;by_cases qNoShares:c = "NoShares"
  ·rw[if_pos qNoShares] at hs;cases hs;subst qNoShares;rw[MNoShares hm];exact⟨ZNoShares,wNoPlanNoShares⟩
  rw[if_neg qNoShares] at hs;by_cases qTooGreat:c = "TooGreat"
  ·rw[if_pos qTooGreat] at hs;cases hs;subst qTooGreat;rw[MTooGreat hm];exact⟨ZTooGreat,wNoPlanTooGreat⟩
  rw[if_neg qTooGreat] at hs;by_cases qUnlike:c = "Unlike"
  ·rw[if_pos qUnlike] at hs;cases hs;subst qUnlike;rw[MUnlike hm];exact⟨ZUnlike,wNoPlanUnlike⟩
  rw[if_neg qUnlike] at hs;cases hs
 have iNoShares:∀c D b,ik c=some b->mg c=some (.ref D)->XC K D/\bt K (.ref D) (.ref CNoShares)=some b:=by
  intro c D b hs hm;simp only[ik] at hs;by_cases qForgets:c = "Forgets"
  ·rw[if_pos qForgets] at hs;cases hs;subst qForgets;rw[MForgets hm];exact⟨ZForgets,wNoSharesForgets⟩
  rw[if_neg qForgets] at hs;by_cases qNoShares:c = "NoShares"
  ·rw[if_pos qNoShares] at hs;cases hs;subst qNoShares;rw[MNoShares hm];exact⟨ZNoShares,wNoSharesNoShares⟩
  rw[if_neg qNoShares] at hs;by_cases qTooGreat:c = "TooGreat"
  ·rw[if_pos qTooGreat] at hs;cases hs;subst qTooGreat;rw[MTooGreat hm];exact⟨ZTooGreat,wNoSharesTooGreat⟩
  rw[if_neg qTooGreat] at hs;by_cases qUnlike:c = "Unlike"
  ·rw[if_pos qUnlike] at hs;cases hs;subst qUnlike;rw[MUnlike hm];exact⟨ZUnlike,wNoSharesUnlike⟩
  rw[if_neg qUnlike] at hs;cases hs
 have iNoText:∀c D b,jT c=some b->mg c=some (.ref D)->XC K D/\bt K (.ref D) (.ref CNoText)=some b:=by
  intro c D b hs hm;simp only[jT] at hs;by_cases qForgets:c = "Forgets"
  ·rw[if_pos qForgets] at hs;cases hs;subst qForgets;rw[MForgets hm];exact⟨ZForgets,wNoTextForgets⟩
  rw[if_neg qForgets] at hs;by_cases qNoShares:c = "NoShares"
  ·rw[if_pos qNoShares] at hs;cases hs;subst qNoShares;rw[MNoShares hm];exact⟨ZNoShares,wNoTextNoShares⟩
  rw[if_neg qNoShares] at hs;by_cases qTooGreat:c = "TooGreat"
  ·rw[if_pos qTooGreat] at hs;cases hs;subst qTooGreat;rw[MTooGreat hm];exact⟨ZTooGreat,wNoTextTooGreat⟩
  rw[if_neg qTooGreat] at hs;by_cases qUnlike:c = "Unlike"
  ·rw[if_pos qUnlike] at hs;cases hs;subst qUnlike;rw[MUnlike hm];exact⟨ZUnlike,wNoTextUnlike⟩
  rw[if_neg qUnlike] at hs;cases hs
 have iTooGreat:∀c D b,ir c=some b->mg c=some (.ref D)->XC K D/\bt K (.ref D) (.ref CTooGreat)=some b:=by
  intro c D b hs hm;simp only[ir] at hs;by_cases qForgets:c = "Forgets"
  ·rw[if_pos qForgets] at hs;cases hs;subst qForgets;rw[MForgets hm];exact⟨ZForgets,wTooGreatForgets⟩
  rw[if_neg qForgets] at hs;by_cases qNoShares:c = "NoShares"
  ·rw[if_pos qNoShares] at hs;cases hs;subst qNoShares;rw[MNoShares hm];exact⟨ZNoShares,wTooGreatNoShares⟩
  rw[if_neg qNoShares] at hs;by_cases qTooGreat:c = "TooGreat"
  ·rw[if_pos qTooGreat] at hs;cases hs;subst qTooGreat;rw[MTooGreat hm];exact⟨ZTooGreat,wTooGreatTooGreat⟩
  rw[if_neg qTooGreat] at hs;by_cases qUnlike:c = "Unlike"
  ·rw[if_pos qUnlike] at hs;cases hs;subst qUnlike;rw[MUnlike hm];exact⟨ZUnlike,wTooGreatUnlike⟩
  rw[if_neg qUnlike] at hs;cases hs
 have iUnlike:∀c D b,jV c=some b->mg c=some (.ref D)->XC K D/\bt K (.ref D) (.ref CUnlike)=some b:=by
  intro c D b hs hm;simp only[jV] at hs;by_cases qForgets:c = "Forgets"
  ·rw[if_pos qForgets] at hs;cases hs;subst qForgets;rw[MForgets hm];exact⟨ZForgets,wUnlikeForgets⟩
  rw[if_neg qForgets] at hs;by_cases qNoShares:c = "NoShares"
  ·rw[if_pos qNoShares] at hs;cases hs;subst qNoShares;rw[MNoShares hm];exact⟨ZNoShares,wUnlikeNoShares⟩
  rw[if_neg qNoShares] at hs;by_cases qTooGreat:c = "TooGreat"
  ·rw[if_pos qTooGreat] at hs;cases hs;subst qTooGreat;rw[MTooGreat hm];exact⟨ZTooGreat,wUnlikeTooGreat⟩
  rw[if_neg qTooGreat] at hs;by_cases qUnlike:c = "Unlike"
  ·rw[if_pos qUnlike] at hs;cases hs;subst qUnlike;rw[MUnlike hm];exact⟨ZUnlike,wUnlikeUnlike⟩
  rw[if_neg qUnlike] at hs;cases hs
 have iValueError:∀c D b,fP c=some b->mg c=some (.ref D)->XC K D/\bt K (.ref D) (.type "ValueError")=some b:=by
  intro c D b hs hm;simp only[fP] at hs;by_cases qForgets:c = "Forgets"
  ·rw[if_pos qForgets] at hs;cases hs;subst qForgets;rw[MForgets hm];exact⟨ZForgets,wValueErrorForgets⟩
  rw[if_neg qForgets] at hs;by_cases qNoShares:c = "NoShares"
  ·rw[if_pos qNoShares] at hs;cases hs;subst qNoShares;rw[MNoShares hm];exact⟨ZNoShares,wValueErrorNoShares⟩
  rw[if_neg qNoShares] at hs;by_cases qTooGreat:c = "TooGreat"
  ·rw[if_pos qTooGreat] at hs;cases hs;subst qTooGreat;rw[MTooGreat hm];exact⟨ZTooGreat,wValueErrorTooGreat⟩
  rw[if_neg qTooGreat] at hs;by_cases qUnlike:c = "Unlike"
  ·rw[if_pos qUnlike] at hs;cases hs;subst qUnlike;rw[MUnlike hm];exact⟨ZUnlike,wValueErrorUnlike⟩
  rw[if_neg qUnlike] at hs;cases hs
 have XFForgets:XF K CForgets:=⟨ZForgets,xsForgets,xoForgets,xForgets5⟩;have XFNoShares:XF K CNoShares:=⟨ZNoShares,xsNoShares,xoNoShares,xNoShares5⟩;have XFUnlike:XF K CUnlike:=⟨ZUnlike,xsUnlike,xoUnlike,xUnlike5⟩;have fone:∀c C,oA c=true->mg c=some (.ref C)->XF K C/\cx K (.ref C) "one" = some none:=by
  intro c C hs hm;simp only[oA,mr,beq_iff_eq] at hs;rcases hs with rfl|rfl
  ·rw[MForgets hm];exact⟨XFForgets,xnForgetsone⟩
  ·rw[MUnlike hm];exact⟨XFUnlike,xnUnlikeone⟩
 have fother:∀c C,jn c=true->mg c=some (.ref C)->XF K C/\cx K (.ref C) "other" = some none:=by
  intro c C hs hm;simp only[jn,mr,beq_iff_eq] at hs;rcases hs with rfl|rfl
  ·rw[MForgets hm];exact⟨XFForgets,xnForgetsother⟩
  ·rw[MUnlike hm];exact⟨XFUnlike,xnUnlikeother⟩
 have fway:∀c C,vy c=true->mg c=some (.ref C)->XF K C/\cx K (.ref C) "way" = some none:=by
  intro c C hs hm;simp only[vy,mr,beq_iff_eq] at hs;subst hs;rw[MNoShares hm];exact⟨XFNoShares,xnNoSharesway⟩
 have Xc:XcT K mg:=⟨⟨CDuelError,kH X G nDuelError,sDuelError⟩,⟨CForgets,kH X G nForgets,iForgets,vForgets⟩,⟨CNoPlace,kH X G nNoPlace,iNoPlace,vNoPlace⟩,⟨CNoPlan,kH X G nNoPlan,iNoPlan,vNoPlan⟩,⟨CNoShares,kH X G nNoShares,iNoShares,vNoShares⟩,⟨CNoText,kH X G nNoText,iNoText,vNoText⟩,⟨CTooGreat,kH X G nTooGreat,iTooGreat,vTooGreat⟩,⟨CUnlike,kH X G nUnlike,iUnlike,vUnlike⟩,⟨(⟨kb,nb⟩:Cb K mg base).no Q.n0,iValueError⟩,fone,fother,fway⟩;obtain⟨fdForgets,FForgets,iForgetsx⟩:=xqForgets.ex;obtain⟨fdNoShares,FNoShares,iNoSharesx⟩:=xqNoShares.ex;obtain⟨fdUnlike,FUnlike,iUnlikex⟩:=xqUnlike.ex;have Xf:XfT l.prog w K mg base:=⟨⟨⟨CForgets,IForgets,_,_,kH X G nForgets,⟨xeForgets,iForgetsx,xkForgets⟩,XFForgets,YD FForgets XFForgets xnForgetsone xnForgetsother (by decide) wF rfl,FForgets.binds λ_ _ _ _ _ _=>xb3 λ_ _ _=>rfl⟩⟩,⟨⟨CNoShares,INoShares,_,_,kH X G nNoShares,⟨xeNoShares,iNoSharesx,xkNoShares⟩,XFNoShares,abv FNoShares XFNoShares xnNoSharesway vL rfl,FNoShares.binds λ_ _ _ _ _ _=>xb2 λ_ _=>rfl⟩⟩,⟨⟨CUnlike,IUnlike,_,_,kH X G nUnlike,⟨xeUnlike,iUnlikex,xkUnlike⟩,XFUnlike,YD FUnlike XFUnlike xnUnlikeone xnUnlikeother (by decide) yr rfl,FUnlike.binds λ_ _ _ _ _ _=>xb3 λ_ _ _=>rfl⟩⟩⟩;exact Xo U8<|aad ⟨⟨kb,nb⟩,Q,Ex,Xc,Xf⟩ F0
theorem walk {l:W.OpenLaw}{q:bo}{loose:List Str}{XP:(Zp)->Heap->Prop}{YP:dc->Heap->Prop}{d:DefRec}{K:Params->bb}(hn:l.most=some 63)(hdf:d.params.defaults=[])
  (hY:∀(w:dc) (h:Heap),YP w h->(K w.params).In h)
  (F:∀(w:dc) (mg:Zp) (fa:Addr) (h:Heap),(K w.params).In h->h.Ns cK mg->mg d.name=some (.ref fa)->
   ∃fd:hG,(∀(s:aS) (u:av),AM s fd ⟨[u],[]⟩ [("_law_script",u)])/\∀base:Heap,(K w.params).In base->base.Ns cK mg->oG l.prog w (K w.params) mg base (CX1 l.prog w) 10 fa fd ["_law_script"] (Oz<|K w.params)):
  W.WalkO q loose XP YP l.row.toRowW d [] (λf vs=>BB f vs):=
 L2.Wa (n:=63) (k:=10) (x:="_law_script") (CX:=λw=>CX1 l.prog w) (sp:=λw=>Oz<|K w.params) hn (by decide) hdf ⟨rfl,by decide,by decide,rfl⟩ hY F (λ_ _ a ns hl _ hS=>⟨a,ns,rfl,hS,hl,λ_=>rfl⟩) λ_ _ _ _ _ ⟨_,_,_,_,_,_,z⟩=>z.elim
end K14
namespace PySem.W.Fast
theorem tw2229890492570416115:True:=⟨⟩
theorem tw17650036436919704068:True:=⟨⟩
theorem tw108320719576480499:True:=⟨⟩
theorem tw11700953272233232958:True:=⟨⟩
theorem tw15913756271994809001:True:=⟨⟩
theorem tw15723672091850409145:True:=⟨⟩
theorem tw1181201923485408235:True:=⟨⟩
theorem tw2841442043995674534:True:=⟨⟩
theorem tw8882897088310500184:True:=⟨⟩
theorem tw12209061962023041107:True:=⟨⟩
theorem tw13954318396921812730:True:=⟨⟩
theorem tw10728086343210778166:True:=⟨⟩
theorem tw8383250544919264758:True:=⟨⟩
theorem tw4123777224284559993:True:=⟨⟩
theorem tw7526224552764762834:True:=⟨⟩
theorem tw14833051112251879513:True:=⟨⟩
theorem tw2991628603329867724:True:=⟨⟩
theorem tw4263953209225353349:True:=⟨⟩
theorem tw11617489274243566539:True:=⟨⟩
theorem tw15835857213239595240:True:=⟨⟩
theorem tw10848822036890680950:True:=⟨⟩
theorem tw7193818989231844264:True:=⟨⟩
theorem tw5763460999272887153:True:=⟨⟩
theorem tw11373532588785767291:True:=⟨⟩
theorem tw2428786328153829265:True:=⟨⟩
theorem tw6726026362185912807:True:=⟨⟩
theorem tw12110748391910875179:True:=⟨⟩
theorem tw12862571982206557404:True:=⟨⟩
theorem tw162688191850483932:True:=⟨⟩
theorem tw2028373297488608517:True:=⟨⟩
theorem tw12330615063787133999:True:=⟨⟩
theorem tw9030553212833078477:True:=⟨⟩
theorem tw9475373388696416668:True:=⟨⟩
theorem tw10055834991743101146:True:=⟨⟩
theorem tw10113787243678344703:True:=⟨⟩
theorem tw2018974548279292236:True:=⟨⟩
theorem tw11930262304591481467:True:=⟨⟩
theorem tw7076940372353394311:True:=⟨⟩
theorem tw12272598929383423378:True:=⟨⟩
theorem tw130004808600997732:True:=⟨⟩
theorem tw2476821757564613913:True:=⟨⟩
theorem tw6686857067679927236:True:=⟨⟩
theorem tw1970700022452389285:True:=⟨⟩
theorem tw15531496278373290763:True:=⟨⟩
theorem tw2962955539494300805:True:=⟨⟩
theorem tw9414754089242774832:True:=⟨⟩
theorem tw10982702511020407205:True:=⟨⟩
theorem tw18121429838887418238:True:=⟨⟩
theorem tw10331516994697804776:True:=⟨⟩
theorem tw6634261252684057757:True:=⟨⟩
theorem tw2287128905679673982:True:=⟨⟩
theorem tw14301680213621889785:True:=⟨⟩
theorem tw16247251895701450222:True:=⟨⟩
theorem tw8127256246307120488:True:=⟨⟩
theorem tw12470628405453769800:True:=⟨⟩
theorem tw6525764883319488005:True:=⟨⟩
theorem tw13708675331434972918:True:=⟨⟩
theorem tw13111068211592484068:True:=⟨⟩
theorem tw6204002402863688260:True:=⟨⟩
theorem tw8243279360733436297:True:=⟨⟩
theorem tw2092141463092685514:True:=⟨⟩
theorem tw5224350237549282221:True:=⟨⟩
theorem tw14540812028848324620:True:=⟨⟩
theorem tw16858571586857042329:True:=⟨⟩
theorem tw13151068117736264177:True:=⟨⟩
theorem tw1341612211404412575:True:=⟨⟩
theorem tw10162380304151289799:True:=⟨⟩
theorem tw10285748563276465138:True:=⟨⟩
theorem tw18293830353040063771:True:=⟨⟩
theorem tw8789645232414213087:True:=⟨⟩
theorem tw18025794721152016009:True:=⟨⟩
theorem tw4038973251528459969:True:=⟨⟩
theorem tw8166647104835246943:True:=⟨⟩
theorem tw815133461778585841:True:=⟨⟩
theorem tw11711427702525546733:True:=⟨⟩
theorem tw6039249394724287455:True:=⟨⟩
theorem tw5082679731381795589:True:=⟨⟩
theorem tw7105696625651158383:True:=⟨⟩
theorem tw14688398063053164228:True:=⟨⟩
theorem tw12194462111738121707:True:=⟨⟩
theorem tw18250319751333803952:True:=⟨⟩
theorem tw3473034450354273458:True:=⟨⟩
theorem tw14144410522255459423:True:=⟨⟩
theorem tw10942950523608864091:True:=⟨⟩
theorem tw16081494355668089652:True:=⟨⟩
theorem tw6162908478392833170:True:=⟨⟩
theorem tw14700371431126067764:True:=⟨⟩
theorem tw6777621832466330731:True:=⟨⟩
theorem tw3108050712550874323:True:=⟨⟩
theorem tw18117303678826686688:True:=⟨⟩
theorem tw3450482050505045131:True:=⟨⟩
theorem tw32819943437194393:True:=⟨⟩
theorem tw1593774213013677007:True:=⟨⟩
theorem tw17959784079719768567:True:=⟨⟩
theorem tw15436117073494091523:True:=⟨⟩
theorem tw5997476056045715123:True:=⟨⟩
theorem tw18356149157725088792:True:=⟨⟩
theorem tw4906136817552824926:True:=⟨⟩
theorem tw10652480141502347752:True:=⟨⟩
theorem tw11074988362891444997:True:=⟨⟩
theorem tw15648136896372219355:True:=⟨⟩
theorem tw9800968157303628264:True:=⟨⟩
theorem tw7605378985338546751:True:=⟨⟩
theorem tw7572894308999472122:True:=⟨⟩
theorem tw14772969720973709818:True:=⟨⟩
theorem tw7043878232670347096:True:=⟨⟩
theorem tw10798819241697216098:True:=⟨⟩
theorem tw17488031122073493322:True:=⟨⟩
theorem tw14862705087577476254:True:=⟨⟩
theorem tw3003438895572398051:True:=⟨⟩
theorem tw305195235674442051:True:=⟨⟩
theorem tw2486620983544686799:True:=⟨⟩
theorem tw11969203051564926049:True:=⟨⟩
theorem tw13703371879126020637:True:=⟨⟩
theorem tw6486850701505512645:True:=⟨⟩
theorem tw2862034798505064024:True:=⟨⟩
theorem tw1019709059386468085:True:=⟨⟩
theorem tw11908973055503577057:True:=⟨⟩
theorem tw11369121812547495839:True:=⟨⟩
theorem tw7422284514430064524:True:=⟨⟩
theorem tw10987433494914309507:True:=⟨⟩
theorem tw9938106290247612742:True:=⟨⟩
theorem tw18400371682678996306:True:=⟨⟩
theorem tw17014894720529903033:True:=⟨⟩
theorem tw8429454455034387936:True:=⟨⟩
theorem tw4559911991824760812:True:=⟨⟩
theorem tw7818569870233738798:True:=⟨⟩
theorem tw13531764576302571290:True:=⟨⟩
theorem tw3957723199487551934:True:=⟨⟩
theorem tw13503726936041787141:True:=⟨⟩
theorem tw12625319738660234214:True:=⟨⟩
theorem tw2315110670439553754:True:=⟨⟩
theorem tw3860341569143459783:True:=⟨⟩
theorem tw2722937657138972329:True:=⟨⟩
theorem tw14476551920492976263:True:=⟨⟩
theorem tw12620855679486378988:True:=⟨⟩
theorem tw8690118148267528856:True:=⟨⟩
theorem tw7943812063310915390:True:=⟨⟩
theorem tw6144476264285672211:True:=⟨⟩
theorem tw5909680083489226548:True:=⟨⟩
theorem tw18016000768351664889:True:=⟨⟩
theorem tw3599892632046357094:True:=⟨⟩
theorem tw15540882014936165249:True:=⟨⟩
theorem tw13229280052998156333:True:=⟨⟩
theorem tw16815300947767500015:True:=⟨⟩
theorem tw14486806058673802738:True:=⟨⟩
theorem tw15674418596902659500:True:=⟨⟩
theorem tw16413223176509027796:True:=⟨⟩
theorem tw562068367015391854:True:=⟨⟩
theorem tw4132205146841460160:True:=⟨⟩
theorem tw8946343229437928730:True:=⟨⟩
theorem tw11170769420524659633:True:=⟨⟩
theorem tw1777038012230034480:True:=⟨⟩
theorem tw13366326301094823064:True:=⟨⟩
theorem tw16525711406943722057:True:=⟨⟩
theorem tw9321137616710082095:True:=⟨⟩
theorem tw9285798744095715592:True:=⟨⟩
theorem tw9086334711305571807:True:=⟨⟩
theorem tw7898967986248919917:True:=⟨⟩
theorem tw17059097828869200826:True:=⟨⟩
theorem tw14214737673271994973:True:=⟨⟩
theorem tw14985833744788935640:True:=⟨⟩
theorem tw10796486894411789839:True:=⟨⟩
theorem tw2331333062588402399:True:=⟨⟩
theorem tw2961468171727355492:True:=⟨⟩
theorem tw18353520663386067515:True:=⟨⟩
theorem tw2152479837543301632:True:=⟨⟩
theorem tw10343436007231948127:True:=⟨⟩
theorem tw13594873672627949304:True:=⟨⟩
theorem tw10495906188410340176:True:=⟨⟩
theorem tw11406098558119806805:True:=⟨⟩
theorem tw9981162480305790614:True:=⟨⟩
theorem tw9305304766924567782:True:=⟨⟩
theorem tw18288830130288811329:True:=⟨⟩
theorem tw13070532456938716700:True:=⟨⟩
theorem tw10382421542577781575:True:=⟨⟩
theorem tw12166854261474087665:True:=⟨⟩
theorem tw12754898526882438725:True:=⟨⟩
theorem tw12111193208163500268:True:=⟨⟩
theorem tw16805454148842109179:True:=⟨⟩
theorem tw13019255051045462518:True:=⟨⟩
theorem tw15042966399342752757:True:=⟨⟩
theorem tw4162612406214816152:True:=⟨⟩
theorem tw10119718492380827415:True:=⟨⟩
theorem tw11292672451223816116:True:=⟨⟩
theorem tw14541588997448500036:True:=⟨⟩
theorem tw7997399637079171594:True:=⟨⟩
theorem tw6699639775576414213:True:=⟨⟩
theorem tw5282036159717458982:True:=⟨⟩
theorem tw17509972387517858847:True:=⟨⟩
theorem tw16585515294215284544:True:=⟨⟩
theorem tw1645922674707774215:True:=⟨⟩
theorem tw15663778232527220702:True:=⟨⟩
theorem tw15443388447434034297:True:=⟨⟩
theorem tw15387537545929253690:True:=⟨⟩
theorem tw14835227683355392259:True:=⟨⟩
theorem tw14322492794659184260:True:=⟨⟩
theorem tw14256885302626765016:True:=⟨⟩
theorem tw14043023405078014628:True:=⟨⟩
theorem tw12742173913197263265:True:=⟨⟩
theorem tw12369879244058852465:True:=⟨⟩
theorem tw11409931064530553188:True:=⟨⟩
theorem tw11204330853298015483:True:=⟨⟩
theorem tw9506554752397424534:True:=⟨⟩
theorem tw7362067683272924706:True:=⟨⟩
theorem tw5259360018863542027:True:=⟨⟩
theorem tw1940638333733847864:True:=⟨⟩
theorem tw16824986490570806709:True:=⟨⟩
theorem tw16299357411690892344:True:=⟨⟩
theorem tw14826185535870103761:True:=⟨⟩
theorem tw13946322863083168126:True:=⟨⟩
theorem tw13524471749218497715:True:=⟨⟩
theorem tw12722128559675710734:True:=⟨⟩
theorem tw9576547050907159231:True:=⟨⟩
theorem tw9237871222541245786:True:=⟨⟩
theorem tw8961205163979793149:True:=⟨⟩
theorem tw7552910560785180636:True:=⟨⟩
theorem tw7511017743858820688:True:=⟨⟩
theorem tw7454194893935892624:True:=⟨⟩
theorem tw69654073833974628:True:=⟨⟩
theorem tw6591988043626383072:True:=⟨⟩
theorem tw5499220533678717440:True:=⟨⟩
theorem tw5244507719681595609:True:=⟨⟩
theorem tw4977727445980926453:True:=⟨⟩
theorem tw4659777031782371664:True:=⟨⟩
theorem tw4643734925035916139:True:=⟨⟩
theorem tw4490612818613915764:True:=⟨⟩
theorem tw4193288121040880057:True:=⟨⟩
theorem tw4032421757447535271:True:=⟨⟩
theorem tw3406289052729697861:True:=⟨⟩
theorem tw3398398408861586055:True:=⟨⟩
theorem tw2947198425476537947:True:=⟨⟩
theorem tw2696201755813588288:True:=⟨⟩
theorem tw2643578502372741852:True:=⟨⟩
theorem tw2430100076631117275:True:=⟨⟩
theorem tw2031503415981844143:True:=⟨⟩
theorem tw1968088921747949658:True:=⟨⟩
theorem tw11411354840708332074:True:=⟨⟩
theorem tw17279096876287892378:True:=⟨⟩
theorem tw16160676681665181913:True:=⟨⟩
theorem tw12650579616539137226:True:=⟨⟩
theorem tw904448692199403214:True:=⟨⟩
theorem tw1251818650881635293:True:=⟨⟩
theorem tw10041292021429667688:True:=⟨⟩
theorem tw719468150225442408:True:=⟨⟩
theorem tw658536387508725141:True:=⟨⟩
theorem tw2964170601445651129:True:=⟨⟩
theorem tw2888193437571204827:True:=⟨⟩
theorem tw188066832304265655:True:=⟨⟩
theorem tw1762381076141785058:True:=⟨⟩
theorem tw7415529757338659249:True:=⟨⟩
theorem tw17972417903460138836:True:=⟨⟩
theorem tw1616377407248645463:True:=⟨⟩
theorem tw8270609807216332804:True:=⟨⟩
theorem tw13736974039379033543:True:=⟨⟩
theorem tw12130714366114737999:True:=⟨⟩
theorem tw3197537786361756057:True:=⟨⟩
theorem tw2200354871117568648:True:=⟨⟩
theorem tw16602627890126520435:True:=⟨⟩
theorem tw13970439619482526941:True:=⟨⟩
theorem tw15565303205739548172:True:=⟨⟩
theorem tw8741222845622735390:True:=⟨⟩
theorem tw6998213477087177092:True:=⟨⟩
theorem tw6222040792762834384:True:=⟨⟩
theorem tw594974090958721145:True:=⟨⟩
theorem tw4263460652620523412:True:=⟨⟩
theorem tw2179275672723576535:True:=⟨⟩
theorem tw17649953152598176655:True:=⟨⟩
theorem tw8468986877931741590:True:=⟨⟩
theorem tw794943483079503490:True:=⟨⟩
theorem tw3444053221358424172:True:=⟨⟩
theorem tw2150123087282278193:True:=⟨⟩
theorem tw18135950952105067924:True:=⟨⟩
theorem tw17451790015068076378:True:=⟨⟩
theorem tw17123681991319326041:True:=⟨⟩
theorem tw10284611794451039419:True:=⟨⟩
theorem tw12635041574378275816:True:=⟨⟩
theorem tw10409531613404511939:True:=⟨⟩
theorem tw7216095574299034490:True:=⟨⟩
theorem tw5814480000091529718:True:=⟨⟩
theorem tw5120391224494056746:True:=⟨⟩
theorem tw1804200674380182170:True:=⟨⟩
theorem tw15277519718260139067:True:=⟨⟩
theorem tw1402961559655949713:True:=⟨⟩
theorem tw13725126712239878121:True:=⟨⟩
theorem tw12966981293126321080:True:=⟨⟩
theorem tw12784343066948433488:True:=⟨⟩
theorem tw10786817731215984869:True:=⟨⟩
theorem tw10397574291678435876:True:=⟨⟩
theorem tw9596247213871039897:True:=⟨⟩
theorem tw9206354957949396512:True:=⟨⟩
theorem tw8737016375293247097:True:=⟨⟩
theorem tw8663592408320422481:True:=⟨⟩
theorem tw8605367866685807093:True:=⟨⟩
theorem tw852663589614650919:True:=⟨⟩
theorem tw8304681888310521506:True:=⟨⟩
theorem tw8166575939814628448:True:=⟨⟩
theorem tw8152874852198484100:True:=⟨⟩
theorem tw7932347863337372889:True:=⟨⟩
theorem tw7857110072670157905:True:=⟨⟩
theorem tw7707056198193077415:True:=⟨⟩
theorem tw7628052602229166187:True:=⟨⟩
theorem tw7608379989589385497:True:=⟨⟩
theorem tw7340932621604408095:True:=⟨⟩
theorem tw707567764901717897:True:=⟨⟩
theorem tw698372843320192656:True:=⟨⟩
theorem tw6936112051455816542:True:=⟨⟩
theorem tw6871125509057014801:True:=⟨⟩
theorem tw679116252661407130:True:=⟨⟩
theorem tw6725562346418120873:True:=⟨⟩
theorem tw6270240889023193698:True:=⟨⟩
theorem tw610177507533216925:True:=⟨⟩
theorem tw5903711364943944822:True:=⟨⟩
theorem tw5886119430494678241:True:=⟨⟩
theorem tw5801820183115428994:True:=⟨⟩
theorem tw5586975142464033140:True:=⟨⟩
theorem tw5544358456731357697:True:=⟨⟩
theorem tw5473093588927595607:True:=⟨⟩
theorem tw5089055965079303308:True:=⟨⟩
theorem tw4465723126165168765:True:=⟨⟩
theorem tw4296709135409535436:True:=⟨⟩
theorem tw4192615981710353284:True:=⟨⟩
theorem tw389563722742239391:True:=⟨⟩
theorem tw3738061609363692455:True:=⟨⟩
theorem tw3602168655545707254:True:=⟨⟩
theorem tw352318604930310812:True:=⟨⟩
theorem tw3194295883946619260:True:=⟨⟩
theorem tw304542928631995708:True:=⟨⟩
theorem tw2610998946600191526:True:=⟨⟩
theorem tw2598313193472854850:True:=⟨⟩
theorem tw2429981273630452039:True:=⟨⟩
theorem tw2373875427473803969:True:=⟨⟩
theorem tw2274826222769035497:True:=⟨⟩
theorem tw1930092866323524064:True:=⟨⟩
theorem tw18377379632101048265:True:=⟨⟩
theorem tw18362910539885443513:True:=⟨⟩
theorem tw18263961143439889337:True:=⟨⟩
theorem tw18022230059005633794:True:=⟨⟩
theorem tw1800846842532884883:True:=⟨⟩
theorem tw17817320278475521697:True:=⟨⟩
theorem tw17657211593681368980:True:=⟨⟩
theorem tw1751616225803908435:True:=⟨⟩
theorem tw17465833142076559095:True:=⟨⟩
theorem tw17296666753666497119:True:=⟨⟩
theorem tw17072968304383178835:True:=⟨⟩
theorem tw17049784585008246774:True:=⟨⟩
theorem tw16933256634269625606:True:=⟨⟩
theorem tw16865035211823003154:True:=⟨⟩
theorem tw16597008839061054918:True:=⟨⟩
theorem tw16575986150797541606:True:=⟨⟩
theorem tw16523547826707879049:True:=⟨⟩
theorem tw16321216763334710180:True:=⟨⟩
theorem tw16285068601247410969:True:=⟨⟩
theorem tw16222809155282151417:True:=⟨⟩
theorem tw16220258274141436898:True:=⟨⟩
theorem tw16114070249688175087:True:=⟨⟩
theorem tw16101150234034974876:True:=⟨⟩
theorem tw15856742799645282976:True:=⟨⟩
theorem tw15748971458435942832:True:=⟨⟩
theorem tw15609833046597949122:True:=⟨⟩
theorem tw15584565242028465872:True:=⟨⟩
theorem tw15569992847095850086:True:=⟨⟩
theorem tw15561921699791048891:True:=⟨⟩
theorem tw15443681045813025806:True:=⟨⟩
theorem tw14994776564115693849:True:=⟨⟩
theorem tw14369395596008967089:True:=⟨⟩
theorem tw14308038740984554703:True:=⟨⟩
theorem tw14130796640129703173:True:=⟨⟩
theorem tw14043897225895773422:True:=⟨⟩
theorem tw13872329270409962659:True:=⟨⟩
theorem tw13545016471992641893:True:=⟨⟩
theorem tw1344566559068538088:True:=⟨⟩
theorem tw13116118480295607297:True:=⟨⟩
theorem tw13110074200751119642:True:=⟨⟩
theorem tw12793099797119298873:True:=⟨⟩
theorem tw12725672237417205427:True:=⟨⟩
theorem tw12651123678237966624:True:=⟨⟩
theorem tw12646301041069665804:True:=⟨⟩
theorem tw12639295876461693118:True:=⟨⟩
theorem tw12417870956146420112:True:=⟨⟩
theorem tw12375047795572940128:True:=⟨⟩
theorem tw12251389853761617381:True:=⟨⟩
theorem tw12139354211299419537:True:=⟨⟩
theorem tw11930242615416047080:True:=⟨⟩
theorem tw11888023895976251784:True:=⟨⟩
theorem tw11750483004942562099:True:=⟨⟩
theorem tw11382870516827170941:True:=⟨⟩
theorem tw11350203749513170569:True:=⟨⟩
end PySem.W.Fast
open PySem PySem.W PyProof.Rows
set_option maxRecDepth 100000 in
set_option maxHeartbeats 0 in
theorem PySem.Challenge.cw_hushduel_k14_too_great_holds : PySem.Challenge.rw_hushduel_k14_too_great.Holds := by
 w_on;o_law;k_head;(case hw=>w_witness2)
 k_fill
 refine K14.walk (l:=PySem.Challenge.rw_hushduel_k14_too_great) rfl rfl (λw h Y=>PySem.W.kIn_of Y) ?F
 case F=>
  intro w mg fa h KX G hmg;refine' K14.all_mk KX G hmg ⟨?_,?_,?_,?_,?_,?_,?_,?_,?_,?_,?_,?_,?_,?_,?_,?_,?_,?_,?_,?_,?_,?_,?_,?_,?_,?_,?_,?_,?_,?_,?_,?_,?_,?_,?_,?_,?_,?_,?_,?_,?_,?_,?_,?_,?_,?_,?_,?_,?_,?_,?_,?_,?_,?_,?_,?_,?_,?_,?_,?_,?_,?_,?_,?_,?_,?_,?_,?_⟩ ?_ ?_ ?_ ?_ ?_ ?_ ?_ ?_ ?eTooGreat ?_ ?_ ?_ ?_ ?_ ?_ ?_ ?_ ?_ ?_ ?_ ?_ ?_ ?_ ?_ ?_ ?_ ?_ ?_ ?_ ?_ ?_ ?_ ?_ ?uDuelErrorForgets ?uDuelErrorNoShares ?uDuelErrorTooGreat ?uDuelErrorUnlike ?wForgetsForgets ?wForgetsNoShares ?wForgetsTooGreat ?wForgetsUnlike ?vForgets ?wNoPlaceForgets ?wNoPlaceNoShares ?wNoPlaceTooGreat ?wNoPlaceUnlike ?vNoPlace ?wNoPlanForgets ?wNoPlanNoShares ?wNoPlanTooGreat ?wNoPlanUnlike ?vNoPlan ?wNoSharesForgets ?wNoSharesNoShares ?wNoSharesTooGreat ?wNoSharesUnlike ?vNoShares ?wNoTextForgets ?wNoTextNoShares ?wNoTextTooGreat ?wNoTextUnlike ?vNoText ?wTooGreatForgets ?wTooGreatNoShares ?wTooGreatTooGreat ?wTooGreatUnlike ?vTooGreat ?wUnlikeForgets ?wUnlikeNoShares ?wUnlikeTooGreat ?wUnlikeUnlike ?vUnlike ?wValueErrorForgets ?wValueErrorNoShares ?wValueErrorTooGreat ?wValueErrorUnlike ?_ ?_ ?_ ?_ ?_ ?xoForgets ?xeForgets ?xqForgets ?_ ?_ ?_ ?_ ?xoNoShares ?xeNoShares ?xqNoShares ?_ ?_ ?_ ?_ ?_ ?xoUnlike ?xeUnlike ?xqUnlike
  all_goals try first | (refine' F.qd ?a ?l ?c ?k;(case a=>k_is);(case l=>k_is);(case c=>k_is);(case k=>k_is)) | (refine' F.ck ?a ?b;(case a=>k_is);(case b=>k_is)) | (refine' F.ci ?a;(case a=>k_is)) | (unfold F.NO;k_is) | k_is
  (case eTooGreat=>k_exc)
  (case uDuelErrorForgets=>kts_exm)
  (case uDuelErrorNoShares=>kts_exm)
  (case uDuelErrorTooGreat=>kts_exm)
  (case uDuelErrorUnlike=>kts_exm)
  (case wForgetsForgets=>(first | kit_is | (unfold a8;rw [if_pos (by simp)])))
  (case wForgetsNoShares=>(first | kit_is | (unfold a8;rw [if_pos (by simp)])))
  (case wForgetsTooGreat=>(first | kit_is | (unfold a8;rw [if_pos (by simp)])))
  (case wForgetsUnlike=>(first | kit_is | (unfold a8;rw [if_pos (by simp)])))
  (case vForgets=>(first | kit_is | (unfold a8;rw [if_neg (by simp)];k_is) | k_is))
  (case wNoPlaceForgets=>(first | kit_is | (unfold a8;rw [if_pos (by simp)])))
  (case wNoPlaceNoShares=>(first | kit_is | (unfold a8;rw [if_pos (by simp)])))
  (case wNoPlaceTooGreat=>(first | kit_is | (unfold a8;rw [if_pos (by simp)])))
  (case wNoPlaceUnlike=>(first | kit_is | (unfold a8;rw [if_pos (by simp)])))
  (case vNoPlace=>(first | kit_is | (unfold a8;rw [if_neg (by simp)];k_is) | k_is))
  (case wNoPlanForgets=>(first | kit_is | (unfold a8;rw [if_pos (by simp)])))
  (case wNoPlanNoShares=>(first | kit_is | (unfold a8;rw [if_pos (by simp)])))
  (case wNoPlanTooGreat=>(first | kit_is | (unfold a8;rw [if_pos (by simp)])))
  (case wNoPlanUnlike=>(first | kit_is | (unfold a8;rw [if_pos (by simp)])))
  (case vNoPlan=>(first | kit_is | (unfold a8;rw [if_neg (by simp)];k_is) | k_is))
  (case wNoSharesForgets=>(first | kit_is | (unfold a8;rw [if_pos (by simp)])))
  (case wNoSharesNoShares=>(first | kit_is | (unfold a8;rw [if_pos (by simp)])))
  (case wNoSharesTooGreat=>(first | kit_is | (unfold a8;rw [if_pos (by simp)])))
  (case wNoSharesUnlike=>(first | kit_is | (unfold a8;rw [if_pos (by simp)])))
  (case vNoShares=>(first | kit_is | (unfold a8;rw [if_neg (by simp)];k_is) | k_is))
  (case wNoTextForgets=>(first | kit_is | (unfold a8;rw [if_pos (by simp)])))
  (case wNoTextNoShares=>(first | kit_is | (unfold a8;rw [if_pos (by simp)])))
  (case wNoTextTooGreat=>(first | kit_is | (unfold a8;rw [if_pos (by simp)])))
  (case wNoTextUnlike=>(first | kit_is | (unfold a8;rw [if_pos (by simp)])))
  (case vNoText=>(first | kit_is | (unfold a8;rw [if_neg (by simp)];k_is) | k_is))
  (case wTooGreatForgets=>(first | kit_is | (unfold a8;rw [if_pos (by simp)])))
  (case wTooGreatNoShares=>(first | kit_is | (unfold a8;rw [if_pos (by simp)])))
  (case wTooGreatTooGreat=>(first | kit_is | (unfold a8;rw [if_pos (by simp)])))
  (case wTooGreatUnlike=>(first | kit_is | (unfold a8;rw [if_pos (by simp)])))
  (case vTooGreat=>(first | kit_is | (unfold a8;rw [if_neg (by simp)];k_is) | k_is))
  (case wUnlikeForgets=>(first | kit_is | (unfold a8;rw [if_pos (by simp)])))
  (case wUnlikeNoShares=>(first | kit_is | (unfold a8;rw [if_pos (by simp)])))
  (case wUnlikeTooGreat=>(first | kit_is | (unfold a8;rw [if_pos (by simp)])))
  (case wUnlikeUnlike=>(first | kit_is | (unfold a8;rw [if_pos (by simp)])))
  (case vUnlike=>(first | kit_is | (unfold a8;rw [if_neg (by simp)];k_is) | k_is))
  (case wValueErrorForgets=>(first | kit_is | (unfold a8;rw [if_pos (by simp)])))
  (case wValueErrorNoShares=>(first | kit_is | (unfold a8;rw [if_pos (by simp)])))
  (case wValueErrorTooGreat=>(first | kit_is | (unfold a8;rw [if_pos (by simp)])))
  (case wValueErrorUnlike=>(first | kit_is | (unfold a8;rw [if_pos (by simp)])))
  (case xoForgets=>kernel_rfl)
  (case xeForgets=>kernel_rfl)
  (case xqForgets=>(refine' F.qx ?i ?l ?c ?k;(case i=>k_is);(case l=>k_is);(case c=>k_is);(case k=>k_is)))
  (case xoNoShares=>kernel_rfl)
  (case xeNoShares=>kernel_rfl)
  (case xqNoShares=>(refine' F.qx ?i ?l ?c ?k;(case i=>k_is);(case l=>k_is);(case c=>k_is);(case k=>k_is)))
  (case xoUnlike=>kernel_rfl)
  (case xeUnlike=>kernel_rfl)
  (case xqUnlike=>(refine' F.qx ?i ?l ?c ?k;(case i=>k_is);(case l=>k_is);(case c=>k_is);(case k=>k_is)))
