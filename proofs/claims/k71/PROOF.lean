import PyProof.Rows.All
import Wide.All
import OpenK.AllK
import Wide.FinOn
import Lean
import PyProof.EqAt
import PyProof.EqKinds
import PyProof.TupleCall
import PyProof.TupleKey
import PyProof.Rows.Catch
import KE.KRevSl
import PyProof.P3Eq
import KE.LcSums
import PyProof.EnumMake
import PyProof.StrWalks
import PyProof.Conv_int_bool
import KE.KIntText
import PyProof.Rows.StrNews2
import PyProof.StrBlock2
import PyProof.Rows.StrNews
import PyProof.StrLawsRepr
import PyProof.ReprStr
import PyProof.ReprRoads
import PyProof.DictIter
import PyProof.Rows.SetFrom
import KE.KDictList
import KE.KDictOf
import PyProof.AttrMissHeap
import KE.KEqDict
import PyProof.DictItems
import KE.KPairComp
import PyProof.Rows.Range3
import KE.IntTextText
import PyProof.StrLawsFirst
import PyProof.ReprBulk
import PyProof.ZipIter
import PyProof.Rows.ZipGen
import PyProof.TupleIter
import PyProof.ListRange
import PyProof.NeKinds
import PyProof.StrLawsTight
import PyProof.StrLawsChain
import PyProof.Draws
import PyProof.Rows.MatchSeqLen
import PyProof.SumAnyB
import PyProof.ExcInit
import PyProof.InstStoreFacts
import PySem.Challenge.RW_hushduel_k71_no_plans
set_option compiler.extract_closed false
set_option genSizeOf false
noncomputable section
open PySem renaming wpAny_bind->ae,wpAny_pure->ah,sizeLine->ai,starEach->av,Value->ay,Shared->aI,mainGlobals->bp,Program->bq,wpAny->br,model->b0,bootBuiltins->ck,Around->cK,World->dc,compareOp->dk,wpAny_mono->d3,wpAny_newObj_type->ef,wpAny_field->eB,Paired->eP,foldedSetIterable->eR,wpAny_holding->fw,wpAny_call_entry->fS,FuncData->gc,swapsWith->gs,sysModules->gy,wpAny_Call_Name_kw->hG,wpAny_typeNameOfWhole_valiter->hV,binaryOp->h7,wpAny_callSpecial?_slot->h8,wpAny_setField->ij,backTo->iq,assignEach->iN,behindInMarks->iP,attributeBase->iX,wpAny_specialOf->ja,wpAny_truthy_bool->js,wpAny_passesOwn->jv,wpAny_typeNameOf_valiter->kc,mem_of_lookup->ki,wpAny_execs_nil->kF,wpAny_isOneOf_valiter->kN,wpAny_loadPart_at->kX,wpAny_isInstance->lI,Scope->l0,wpAny_comprehension_free->me,cLine->mn,noteFrame->mE,rawInt->nc,wpAny_pyIter_list->nE,sliceBounds->nK,call_meets->nL,wpAny_dictEntries->nN,GenState->n5,reprText->og,wpAny_notOrdered_dict->oy,wpAny_standAt->pj,typeIs_str->pw,codeAny->pS,keywordEach->p9,Keyword->qc,wpAny_newFunctionEnv_cells->qB,codeAny_mono->rh,wpAny_seqItems->ro,wpAny_fieldsOf->r6,firstArgMember->r9,wpAny_rule->sj,NameKind->sF,compEnvC->sM,wpAny_attempt->sP,wpAny_execs_cons->tj,noFill_tuple_add->tq,PyData->tw,pyNext->t9,letOwnedTupleGo->ua,concat_meets->ub,wpAny_typeOf->ui,codeAny_builtin->u7,valueAt->va,wpAny_dictEpoch->vt,typeLookup->vT,recursionLimit->wt,dictSetDefault->w9,isSubtype_stop->xa,getItem->xc,subscripted->xh,Builtin->xk,strIterType->xy,PassesOwn->x6,cellsFrom->x8,seq_tuple_add->ya,backToKw->yi,compPost->yn,strValues->yy,plainId_quiet->yA,BindsTo->y4,leaving->y6,callerA->y8,assign->zk,IsPart->zt,passOn->zC,atKey->zD,evalEach->z4,pyIter->AA,call->AB,merged->AD,again->AH,bindL->AI,bindC->AJ
open PySem.Str renaming ofString->af,empty->iS,ofString_eq_toList->nB
open PySem.Heap renaming get?_push_of_some->ag,lt_size->ar,get?_push_size->aS,get?_update_other->b5,get?_update_self->eK,SameBut->h9,get?_update_ne->l8,get?_push_ne->n4,MadeExcOf->rS,size_push->rV,ExtBut->xA
open Bool renaming false_ne_true->aw,false_eq_true->g7,and_eq_true->ku,eq_iff_iff->pE
open Nat renaming le_refl->aE,ne_of_lt->a5,lt_of_lt_of_le->bg,zero_le->eC,lt_irrefl->eD,le_trans->fT,add_assoc->kR,ne_of_gt->l9,exists_eq_add_of_le->mP,lt_succ_of_lt->nX,lt_trans->oq,lt_succ_self->oI,pow_le_pow_right->pe,strongRecOn->qk,toDigits->vx,le_of_ble_eq_true->vE,le_succ->xw,le_of_dvd->yB,zero_add->ze,le_of_lt->zh,le_of_eq->zv,gcd_comm->zw,Coprime->Au
open List renaming replicate->aT,size_toArray->a8,length_append->a9,mem_cons_of_mem->be,map_cons->bo,mem_cons->bP,mem_singleton->b4,getElem?_append_left->b6,getElem?_cons_zero->b9,getElem?_cons_succ->cb,mem_append_right->cm,getElem?_eq_getElem->cn,length_map->cp,append_nil->cw,mem_cons_self->cy,getElem?_append_right->cE,lookup_cons->cS,getElem?_set_self->dn,getElem?_set_ne->dA,getElem?_map->dP,getElem?_eq_some_iff->dS,length_singleton->eJ,map_append->eM,getElem?_replicate->eS,length_cons->fq,mem_of_getElem?->fN,Nodup->fR,take_of_length_le->gu,append_assoc->gE,mem_append->gT,getElem?_drop->hJ,range_eq_range'->hZ,range->ip,getD_eq_getElem?_getD->iL,drop_eq_getElem_cons->i9,mem_filterMap->kC,length_replicate->kH,find?_cons->kK,reverse_cons->kU,length_take->lP,not_mem_nil->lT,filterMap_cons->l6,range'->l7,map_map->ml,mem_map->oB,length_drop->oD,drop_length->oP,range'_succ->oT,any_cons->pf,nodup_cons->pT,of_mem_zip->pV,length_nil->qf,zipIdx_map_fst->qq,all_cons->sC,length->sL,length_eq_zero_iff->tf,map_nil->uj,forIn_cons->vc,dropLast_eq_take->vi,mem_append_left->wc,drop_drop->xb,lookup->xo,getElem?_range->xt,mem_map_of_mem->xB
open PySem.W renaming Frag->a6,kitOne->cf,kitOne->cx,mg_none_of->eW,kia_one->ix,nsIn->i6,mg_of->kr,hideAll_get->kT,findIn->n9,hideAll->om,of_hideAll->rf,keepIn->sD,cellsFrom_some->tm,exmOne->v3,fnOf->w4,looks_findIn->w8,excIn->y9,callWith_K->zo,codeIn->z0,subIn->Ap,clsIn->AE
open Or renaming inl->a7,inr->j3
open PySem.Value renaming ref->bE,none->dy,builtin->mo,int->xC,str->xD,bool->y3
open Option.some renaming inj->bX
open PySem.Builtin.Str renaming occurrences->cq,strKind->gN,strSub->hU,partsBetween->mf
open Array renaming getElem?_eq_some_iff->dE,length_toList->pz,append_assoc->rg,getElem?_eq_getElem->rX,forIn_toList->xS,toList->zi
open PySem.Txt renaming partition->dQ,startswith->fA,slice->ka,split->lj
open PySem.F renaming slot_dict_valueiterator_next->d4,plainAttrs_str->gv,slot_str_split->iF,slot_list_getattribute->kd,slot_tuple_hash->kg,args_dict_valueiterator_next_1->k6,entry_dict_valueiterator_next->k9,args_tuple_add_2->ma,args_str_split_2->mh,entry_tuple_add->mx,plainAttrs_list->mI,entry_str_split->mM,slot_tuple_iterator_next->mT,slot_tuple_add->nh,typeOf_object_class->oo,slot_dict_values_iter->oQ,slot_dict_setdefault->pk,slot_str_partition->qS,slot_dict_values->sx,plainAttrs_dict->sN,type_str_split->tP,slot_str_join->vF,type_str_join->vS,slot_gs_get->yk
open Option renaming bind_eq_some_iff->d5,map_some->gX,map_eq_some_iff->iE,isSome_map->zd
open PySem.PassesOwn renaming leaving->eA
open Int renaming emod_lt_of_pos->eI,emod_nonneg->fm,natAbs_dvd_natAbs->i5,mul_comm->kP,mul_assoc->k7,fdiv_eq_ediv_of_nonneg->k8,toNat_natCast->nV,eq_of_mul_eq_mul_right->qV,gcd->si,eq_ofNat_of_zero_le->sR
open PySem.NameKind renaming free->eT,cell->ko
open False renaming elim->ff
open PySem.Builtin.Tuple renaming tupleHashOf->fg,tupleExact->jS,tupleItemsOf->qr
open PyProof.Rows renaming callWith_type1->fF,slot_tuple_getitem->jI,envOfC->rj,AllBare->rL,kindOf->so,subscriptTail->yb,IsTup->AG
open PySem.Heap.SameBut renaming update->gL
open True renaming intro->g9
open PySem.SeqAt renaming shaped->ia,EqAt->y2
open PySem.Builtin.Int renaming intBits->iA,intTooBig->uk
open Rat renaming divInt->iO
open PySem.Obj renaming mapFields->i0,data_mapFields->mB,isFreed_of_fields->uu,data_mapDictKeys->wm,mapSeq->y7
open Classical renaming choose_spec->i4,em->ve,choose->zI
open Ne renaming symm->i7
open PySem.Builtin.Slice renaming slicePlaces->i8,sliceAdjust->lh,sliceApplied->qE
open PySem.PyData renaming eqv->kA,canLay0->ly,depth->oz,canLayAll0->sA,eqvAll->sT,depthAll->vv
open Char renaming toNat->kB
open PySem.Builtin.Dict_items renaming ownsTuple->kD
open PySem.Builtin.List renaming listExtendWith->kL,listTooLong->md,listSameRef->sv,listItems->tF
open PySem.StrLaws renaming strSub_toList->kQ,occ_head->tz,sliceText_from->tJ,subAt_eq->zS
open PySem.Paired renaming length->kS
open PySem.Calls renaming spliced_cons->mw,callWith_builtin->nv,evalArgs_plain->pd,Name_function_global->qA,spliced_nil->sk
open ForInStep renaming yield->qh
open PySem.Builtin.Dict renaming updateFrom->sQ,showsAll->vj
open PySem.Around renaming frames_deeper->we,under_plainId->wq
open PySem.EntryCells renaming newEntry->xi
open PySem.SeqAt.EqAt renaming int_str->xE,str_int->xI,int_int->x9,same->z5
open Sum renaming inl->yT,inr->yY
open PySem.Heap.DictOf renaming new->As
open Prod renaming fst->AF
abbrev Zaa:=PySem.Addr->Prop
abbrev Zp:=PySem.Str->Option PySem.Value
abbrev Zl:=List<|PySem.Addr×PySem.Obj
abbrev Zs:=PySem.Value->PySem.Shared->Prop
theorem xq5 {A B C D E:Sort _}{R Q:A->B->C->D->E->Prop}{P:Prop}(h:∃a b c d e,R a b c d e/\Q a b c d e)(k:∀a b c d e,R a b c d e->Q a b c d e->P):P:=by
 obtain⟨a,b,c,d,e,r,q⟩:=h;exact k a b c d e r q
theorem xq7 {A B C D E F G:Sort _}{R Q S T:A->B->C->D->E->F->G->Prop}{P:Prop}(h:∃a b c d e f g,R a b c d e f g/\Q a b c d e f g/\S a b c d e f g/\T a b c d e f g)(k:∀a b c d e f g,R a b c d e f g->Q a b c d e f g->S a b c d e f g->T a b c d e f g->P):P:=by
 obtain⟨a,b,c,d,e,f,g,r,q,s,t⟩:=h;exact k a b c d e f g r q s t
theorem xq2 {A B:Sort _}{R Q S:A->B->Prop}{P:Prop}(h:∃a b,R a b/\Q a b/\S a b)(k:∀a b,R a b->Q a b->S a b->P):P:=by
 obtain⟨a,b,r,q,s⟩:=h;exact k a b r q s
theorem xl1 {A:Type _}{us:List A}(h:us.length=1):∃a,us=[a]:=by
 cases us with
 |nil=>cases h
 |cons a t=>cases t with
  |nil=>exact⟨a,rfl⟩
  |cons _ _=>cases h
theorem xl0 {A:Type _}{us:List A}{n:Nat}(h:us.length=n+1):∃a t,us=a::t/\t.length=n:=by
 cases us with
 |nil=>cases h
 |cons a t=>exact⟨a,t,rfl,Nat.succ.inj h⟩
theorem xl2 {A:Type _}{us:List A}(h:us.length=2):∃a b,us=[a,b]:=by
 obtain⟨a,t,rfl,h'⟩:=xl0 (n:=1) h;obtain⟨b,rfl⟩:=xl1 h';exact⟨a,b,rfl⟩
theorem xl3 {A:Type _}{us:List A}(h:us.length=3):∃a b c,us=[a,b,c]:=by
 obtain⟨a,t,rfl,h'⟩:=xl0 (n:=2) h;obtain⟨b,c,rfl⟩:=xl2 h';exact⟨a,b,c,rfl⟩
theorem xl4 {A:Type _}{us:List A}(h:us.length=4):∃a b c d,us=[a,b,c,d]:=by
 obtain⟨a,t,rfl,h'⟩:=xl0 (n:=3) h;obtain⟨b,c,d,rfl⟩:=xl3 h';exact⟨a,b,c,d,rfl⟩
set_option Elab.async false
set_option linter.all false
set_option maxRecDepth 100000
theorem K6 {P0 P1 P2 P3 P4:Prop}{Z:Prop}(h:P0/\P1/\P2/\P3/\P4)(z:P0->P1->P2->P3->P4->Z):Z:=by
 obtain⟨h0,h1,h2,h3,h4⟩:=h;exact z h0 h1 h2 h3 h4
theorem oZ {P0 P1 P2 P3 P4 P5:Prop}{Z:Prop}(h:P0/\P1/\P2/\P3/\P4/\P5)(z:P0->P1->P2->P3->P4->P5->Z):Z:=by
 obtain⟨h0,h1,h2,h3,h4,h5⟩:=h;exact z h0 h1 h2 h3 h4 h5
theorem aaW {Ta Tb Tc Td Te Tf Tg Th Ti Tj:Sort _}{P0 P1:Ta->Tb->Tc->Td->Te->Tf->Tg->Th->Ti->Tj->Prop}{Z:Prop}(h:∃a b c d e f g h i j,P0 a b c d e f g h i j/\P1 a b c d e f g h i j)(z:∀a,∀b,∀c,∀d,∀e,∀f,∀g,∀h,∀i,∀j,P0 a b c d e f g h i j->P1 a b c d e f g h i j->Z):Z:=by
 obtain⟨a,b,c,d,e,f,g,h,i,j,h0,h1⟩:=h;exact z a b c d e f g h i j h0 h1
theorem abu {Ta Tb Tc Td Te Tf Tg Th Ti Tj Tk Tl:Sort _}{P0 P1:Ta->Tb->Tc->Td->Te->Tf->Tg->Th->Ti->Tj->Tk->Tl->Prop}{Z:Prop}(h:∃a b c d e f g h i j k l,P0 a b c d e f g h i j k l/\P1 a b c d e f g h i j k l)(z:∀a,∀b,∀c,∀d,∀e,∀f,∀g,∀h,∀i,∀j,∀k,∀l,P0 a b c d e f g h i j k l->P1 a b c d e f g h i j k l->Z):Z:=by
 obtain⟨a,b,c,d,e,f,g,h,i,j,k,l,h0,h1⟩:=h;exact z a b c d e f g h i j k l h0 h1
theorem xJ {Ta:Sort _}{P0 P1 P2 P3:Ta->Prop}{Z:Prop}(h:∃a,P0 a/\P1 a/\P2 a/\P3 a)(z:∀a,P0 a->P1 a->P2 a->P3 a->Z):Z:=by
 obtain⟨a,h0,h1,h2,h3⟩:=h;exact z a h0 h1 h2 h3
theorem Ny {Ta:Sort _}{P0 P1 P2 P3 P4:Ta->Prop}{Z:Prop}(h:∃a,P0 a/\P1 a/\P2 a/\P3 a/\P4 a)(z:∀a,P0 a->P1 a->P2 a->P3 a->P4 a->Z):Z:=by
 obtain⟨a,h0,h1,h2,h3,h4⟩:=h;exact z a h0 h1 h2 h3 h4
theorem Ge {Ta Tb:Sort _}{P0 P1 P2:Ta->Tb->Prop}{Z:Prop}(h:∃a b,P0 a b/\P1 a b/\P2 a b)(z:∀a,∀b,P0 a b->P1 a b->P2 a b->Z):Z:=by
 obtain⟨a,b,h0,h1,h2⟩:=h;exact z a b h0 h1 h2
theorem rO {Ta Tb:Sort _}{P0 P1 P2 P3:Ta->Tb->Prop}{Z:Prop}(h:∃a b,P0 a b/\P1 a b/\P2 a b/\P3 a b)(z:∀a,∀b,P0 a b->P1 a b->P2 a b->P3 a b->Z):Z:=by
 obtain⟨a,b,h0,h1,h2,h3⟩:=h;exact z a b h0 h1 h2 h3
theorem Ak {Ta Tb:Sort _}{P0 P1 P2 P3 P4:Ta->Tb->Prop}{Z:Prop}(h:∃a b,P0 a b/\P1 a b/\P2 a b/\P3 a b/\P4 a b)(z:∀a,∀b,P0 a b->P1 a b->P2 a b->P3 a b->P4 a b->Z):Z:=by
 obtain⟨a,b,h0,h1,h2,h3,h4⟩:=h;exact z a b h0 h1 h2 h3 h4
theorem Rg {Ta Tb:Sort _}{P0 P1 P2 P3 P4 P5:Ta->Tb->Prop}{Z:Prop}(h:∃a b,P0 a b/\P1 a b/\P2 a b/\P3 a b/\P4 a b/\P5 a b)(z:∀a,∀b,P0 a b->P1 a b->P2 a b->P3 a b->P4 a b->P5 a b->Z):Z:=by
 obtain⟨a,b,h0,h1,h2,h3,h4,h5⟩:=h;exact z a b h0 h1 h2 h3 h4 h5
theorem xn {Ta Tb Tc:Sort _}{P0 P1:Ta->Tb->Tc->Prop}{Z:Prop}(h:∃a b c,P0 a b c/\P1 a b c)(z:∀a,∀b,∀c,P0 a b c->P1 a b c->Z):Z:=by
 obtain⟨a,b,c,h0,h1⟩:=h;exact z a b c h0 h1
theorem JD {Ta Tb Tc:Sort _}{P0 P1 P2:Ta->Tb->Tc->Prop}{Z:Prop}(h:∃a b c,P0 a b c/\P1 a b c/\P2 a b c)(z:∀a,∀b,∀c,P0 a b c->P1 a b c->P2 a b c->Z):Z:=by
 obtain⟨a,b,c,h0,h1,h2⟩:=h;exact z a b c h0 h1 h2
theorem KR {Ta Tb Tc:Sort _}{P0 P1 P2 P3:Ta->Tb->Tc->Prop}{Z:Prop}(h:∃a b c,P0 a b c/\P1 a b c/\P2 a b c/\P3 a b c)(z:∀a,∀b,∀c,P0 a b c->P1 a b c->P2 a b c->P3 a b c->Z):Z:=by
 obtain⟨a,b,c,h0,h1,h2,h3⟩:=h;exact z a b c h0 h1 h2 h3
theorem Qy {Ta Tb Tc:Sort _}{P0 P1 P2 P3 P4:Ta->Tb->Tc->Prop}{Z:Prop}(h:∃a b c,P0 a b c/\P1 a b c/\P2 a b c/\P3 a b c/\P4 a b c)(z:∀a,∀b,∀c,P0 a b c->P1 a b c->P2 a b c->P3 a b c->P4 a b c->Z):Z:=by
 obtain⟨a,b,c,h0,h1,h2,h3,h4⟩:=h;exact z a b c h0 h1 h2 h3 h4
theorem zR {Ta Tb Tc:Sort _}{P0 P1 P2 P3 P4 P5:Ta->Tb->Tc->Prop}{Z:Prop}(h:∃a b c,P0 a b c/\P1 a b c/\P2 a b c/\P3 a b c/\P4 a b c/\P5 a b c)(z:∀a,∀b,∀c,P0 a b c->P1 a b c->P2 a b c->P3 a b c->P4 a b c->P5 a b c->Z):Z:=by
 obtain⟨a,b,c,h0,h1,h2,h3,h4,h5⟩:=h;exact z a b c h0 h1 h2 h3 h4 h5
theorem abI {Ta Tb Tc Td:Sort _}{P0:Ta->Tb->Tc->Td->Prop}{Z:Prop}(h:∃a b c d,P0 a b c d)(z:∀a,∀b,∀c,∀d,P0 a b c d->Z):Z:=by
 obtain⟨a,b,c,d,h0⟩:=h;exact z a b c d h0
theorem Wj {Ta Tb Tc Td:Sort _}{P0 P1:Ta->Tb->Tc->Td->Prop}{Z:Prop}(h:∃a b c d,P0 a b c d/\P1 a b c d)(z:∀a,∀b,∀c,∀d,P0 a b c d->P1 a b c d->Z):Z:=by
 obtain⟨a,b,c,d,h0,h1⟩:=h;exact z a b c d h0 h1
theorem Y6 {Ta Tb Tc Td:Sort _}{P0 P1 P2:Ta->Tb->Tc->Td->Prop}{Z:Prop}(h:∃a b c d,P0 a b c d/\P1 a b c d/\P2 a b c d)(z:∀a,∀b,∀c,∀d,P0 a b c d->P1 a b c d->P2 a b c d->Z):Z:=by
 obtain⟨a,b,c,d,h0,h1,h2⟩:=h;exact z a b c d h0 h1 h2
theorem jU {Ta Tb Tc Td:Sort _}{P0 P1 P2 P3 P4:Ta->Tb->Tc->Td->Prop}{Z:Prop}(h:∃a b c d,P0 a b c d/\P1 a b c d/\P2 a b c d/\P3 a b c d/\P4 a b c d)(z:∀a,∀b,∀c,∀d,P0 a b c d->P1 a b c d->P2 a b c d->P3 a b c d->P4 a b c d->Z):Z:=by
 obtain⟨a,b,c,d,h0,h1,h2,h3,h4⟩:=h;exact z a b c d h0 h1 h2 h3 h4
theorem abK {Ta Tb Tc Td Te:Sort _}{P0:Ta->Tb->Tc->Td->Te->Prop}{Z:Prop}(h:∃a b c d e,P0 a b c d e)(z:∀a,∀b,∀c,∀d,∀e,P0 a b c d e->Z):Z:=by
 obtain⟨a,b,c,d,e,h0⟩:=h;exact z a b c d e h0
theorem Ah {Ta Tb Tc Td Te:Sort _}{P0 P1:Ta->Tb->Tc->Td->Te->Prop}{Z:Prop}(h:∃a b c d e,P0 a b c d e/\P1 a b c d e)(z:∀a,∀b,∀c,∀d,∀e,P0 a b c d e->P1 a b c d e->Z):Z:=by
 obtain⟨a,b,c,d,e,h0,h1⟩:=h;exact z a b c d e h0 h1
theorem abH {Ta Tb Tc Td Te:Sort _}{P0 P1 P2 P3 P4 P5 P6:Ta->Tb->Tc->Td->Te->Prop}{Z:Prop}(h:∃a b c d e,P0 a b c d e/\P1 a b c d e/\P2 a b c d e/\P3 a b c d e/\P4 a b c d e/\P5 a b c d e/\P6 a b c d e)(z:∀a,∀b,∀c,∀d,∀e,P0 a b c d e->P1 a b c d e->P2 a b c d e->P3 a b c d e->P4 a b c d e->P5 a b c d e->P6 a b c d e->Z):Z:=by
 obtain⟨a,b,c,d,e,h0,h1,h2,h3,h4,h5,h6⟩:=h;exact z a b c d e h0 h1 h2 h3 h4 h5 h6
theorem abJ {Ta Tb Tc Td Te Tf:Sort _}{P0:Ta->Tb->Tc->Td->Te->Tf->Prop}{Z:Prop}(h:∃a b c d e f,P0 a b c d e f)(z:∀a,∀b,∀c,∀d,∀e,∀f,P0 a b c d e f->Z):Z:=by
 obtain⟨a,b,c,d,e,f,h0⟩:=h;exact z a b c d e f h0
namespace L2
open PySem PySem.Spec PyProof.Rows
abbrev Key:=Sum Int Str
noncomputable def vJ:Key->ay->Bool
 | .inl k,v=>Value.isInt k v
 | .inr x,v=>Value.isStrOf x v
noncomputable def Z1 (w:dc):Key->Int
 | .inl k=>hashInt k
 | .inr x=>hashStr w x
theorem bV:∀{k:Key} {v:ay},vJ k v=true->(∃i t,k=yT i/\v=xC i t)\/(∃x t,k=yY x/\v=xD x t)
 | .inl i,v,h=>by
  obtain⟨t,e⟩:=Value.isInt_shape (k:=i) (v:=v) h;exact .inl ⟨i,t,rfl,e⟩
 | .inr x,v,h=>by
  obtain⟨t,e⟩:=Value.isStrOf_shape (x:=x) (v:=v) h;exact .inr ⟨x,t,rfl,e⟩
theorem Mi (i:Int)(t:Tok):vJ (.inl i) (.int i t)=true:=by simp[vJ,Value.isInt]
theorem Mg (x:Str)(t:Tok):vJ (.inr x) (.str x t)=true:=by simp[vJ,Value.isStrOf]
theorem Xy (a b:Int):decide ((yT a:Key)=yT b)=(a==b):=by
 by_cases e:a=b
 ·subst e;simp
 ·have h:¬(yT a:Key)=yT b:=λq=>e<|Sum.inl.inj q;rw[decide_eq_false h];exact(beq_eq_false_iff_ne.mpr e).symm
theorem Xg (a b:Str):decide ((yY a:Key)=yY b)=decide (a=b):=by
 by_cases e:a=b
 ·subst e;simp
 ·have h:¬(yY a:Key)=yY b:=λq=>e<|Sum.inr.inj q;rw[decide_eq_false h,decide_eq_false e]
theorem WY (a:Int)(b:Str):decide ((yT a:Key)=yY b)=false:=decide_eq_false λq=>nomatch q
theorem Yk (a:Str)(b:Int):decide ((yY a:Key)=yT b)=false:=decide_eq_false λq=>nomatch q
def gj (prog:bq)(w:dc):PySem.KeyKind prog w Key where
 is:=vJ
 hash:=Z1 w
 inj:=λv a b ha hb=>by
  rcases bV ha with⟨i,t,rfl,rfl⟩|⟨x,t,rfl,rfl⟩
  ·rcases bV hb with⟨j,u,rfl,e⟩|⟨y,u,rfl,e⟩
   ·injection e with e1 _;rw[e1]
   ·exact nomatch e
  ·rcases bV hb with⟨j,u,rfl,e⟩|⟨y,u,rfl,e⟩
   ·exact nomatch e
   ·injection e with e1 _;rw[e1]
 byValue:=λk v h=>by
  rcases bV h with⟨i,t,rfl,rfl⟩|⟨x,t,rfl,rfl⟩<;>rfl
 pyHash:=λhv h=>by
  rcases bV hv with⟨i,t,rfl,rfl⟩|⟨x,t,rfl,rfl⟩
  ·exact wpAny_pyHash_int h
  ·exact wpAny_pyHash_str h
 eqBool:=λhu hv h=>by
  rcases bV hu with⟨i,t,rfl,rfl⟩|⟨x,t,rfl,rfl⟩
  ·rcases bV hv with⟨j,u,rfl,rfl⟩|⟨y,u,rfl,rfl⟩
   ·rw[Xy] at h;exact wpAny_eqBool_int h
   ·rw[WY] at h;exact xE i t y u _ _ _ _ h
  ·rcases bV hv with⟨j,u,rfl,rfl⟩|⟨y,u,rfl,rfl⟩
   ·rw[Yk] at h;exact xI x t j u _ _ _ _ h
   ·rw[Xg] at h;exact wpAny_eqBool_str h
 «strs»:=λk x t v h=>by
  rcases bV h with⟨i,u,rfl,e⟩|⟨y,u,rfl,e⟩
  ·exact nomatch e
  ·injection e with e1 _
   subst e1;cases v<;>rfl
theorem Fq (prog:bq)(w:dc)(i:Int)(t:Tok):(gj prog w).is (.inl i) (.int i t)=true:=Mi i t
theorem Ed (prog:bq)(w:dc)(x:Str)(t:Tok):(gj prog w).is (.inr x) (.str x t)=true:=Mg x t
inductive Kt where
 |k (x:Key)|t (xs:List Kt)
mutual
def Kt.dec:(a b:Kt)->Decidable (a=b)
 | .k x,.k y=>if h:x=y then .isTrue (by rw[h]) else .isFalse λe=>h<|by injection e
 | .t xs,.t ys=>match Kt.decs xs ys with
  | .isTrue h=>.isTrue<|by rw[h]
  | .isFalse h=>.isFalse λe=>h<|by injection e
 | .k _,.t _=>.isFalse λe=>nomatch e
 | .t _,.k _=>.isFalse λe=>nomatch e
def Kt.decs:(a b:List Kt)->Decidable (a=b)
 |[],[]=>.isTrue rfl
 |[],_::_=>.isFalse λe=>nomatch e
 |_::_,[]=>.isFalse λe=>nomatch e
 |x::xs,y::ys=>match Kt.dec x y,Kt.decs xs ys with
  | .isTrue h,.isTrue g=>.isTrue<|by rw[h,g]
  | .isFalse h,_=>.isFalse λe=>h<|by injection e
  |_,.isFalse g=>.isFalse λe=>g<|by injection e
end
instance:DecidableEq Kt:=Kt.dec
mutual
def rZ (w:dc):Kt->Int
 | .k x=>Z1 w x
 | .t xs=>reduceHash<|fg<|kZ w xs
def kZ (w:dc):List Kt->List Int
 |[]=>[]
 |x::xs=>rZ w x::kZ w xs
end
mutual
def qy:Kt->Nat
 | .k _=>1
 | .t xs=>eE xs+1
def eE:List Kt->Nat
 |[]=>0
 |x::xs=>qy x+eE xs
end
def jQ (h:Heap):Nat->Kt->ay->Prop
 |_,.k x,v=>vJ x v=true
 |0,.t _,_=>False
 |n+1,.t xs,v=>∃a o items m,v=.ref a/\h.get? a=some o/\o.cls=.type "tuple"/\o.data=.seq items m/\eP (jQ h n) xs items.toList
theorem jz:jQ h (n+1) (.t xs) v↔∃a o items m,v=.ref a/\h.get? a=some o/\o.cls=.type "tuple"/\o.data=.seq items m/\eP (jQ h n) xs items.toList:=by rw[jQ]
theorem mF:jQ h n (.k x) v↔vJ x v=true:=by cases n<;>rw[jQ]
theorem wL {α β:Type}{F G:α->β->Prop}(f:∀a b,F a b->G a b):∀{l:List α} {m:List β},eP F l m->eP G l m
 |_,_,.nil=>.nil
 |_,_,.cons r t=>.cons (f _ _ r)<|wL f t
theorem xg {α β:Type}{F:α->β->Prop}(f:∀x y b,F x b->F y b->x=y):∀{l l':List α} {m:List β},eP F l m->eP F l' m->l=l'
 |_,_,_,.nil,.nil=>rfl
 |_,_,_,.cons r t,.cons r' t'=>by rw[f _ _ _ r r',xg f t t']
theorem xu {h:Heap}:∀(n:Nat) (x y:Kt) (v:ay),jQ h n x v->jQ h n y v->x=y
 |n,.k x,.k y,v,hx,hy=>by
  rw[mF] at hx hy;rcases bV hx with⟨i,t,rfl,rfl⟩|⟨z,t,rfl,rfl⟩
  ·rcases bV hy with⟨j,u,rfl,e⟩|⟨y,u,rfl,e⟩
   ·injection e with e1 _;rw[e1]
   ·exact nomatch e
  ·rcases bV hy with⟨j,u,rfl,e⟩|⟨y,u,rfl,e⟩
   ·exact nomatch e
   ·injection e with e1 _;rw[e1]
 |0,.t _,_,_,hx,_=>by rw[jQ] at hx;exact hx.elim
 |0,.k _,.t _,_,_,hy=>by rw[jQ] at hy;exact hy.elim
 |n+1,.k x,.t ys,v,hx,hy=>by
  rw[mF] at hx;refine Wj (jz.mp hy) λa _ _ _ e _=>?_;subst e;rcases bV hx with⟨_,_,_,e⟩|⟨_,_,_,e⟩<;>exact nomatch e
 |n+1,.t xs,.k y,v,hx,hy=>by
  rw[mF] at hy;refine Wj (jz.mp hx) λa _ _ _ e _=>?_;subst e;rcases bV hy with⟨_,_,_,e⟩|⟨_,_,_,e⟩<;>exact nomatch e
 |n+1,.t xs,.t ys,v,hx,hy=>by
  refine jU (jz.mp hx) λa o it m e g _ d p=>?_;refine jU (jz.mp hy) λa' o' it' m' e' g' _ d' p'=>?_;subst e;injection e' with e'
  subst e';cases g.symm.trans g';rw[d] at d';injection d' with d' _
  subst d';rw[xg (xu n) p p']
theorem xR {h h':Heap}{d:Addr}{o:Obj}{es ep}(ho:h.get? d=some o)(hd:o.data=.dict es ep)(hs:h9 d h h'):∀(n:Nat) (x:Kt) (v:ay),jQ h n x v->jQ h' n x v
 |n,.k x,v,hx=>by rw[mF] at hx ⊢;exact hx
 |0,.t _,_,hx=>by rw[jQ] at hx;exact hx.elim
 |n+1,.t xs,v,hx=>by
  refine jU (jz.mp hx) λa o' it m e g c dd p=>?_;have ne:a≠d:=by
   rintro rfl;cases g.symm.trans ho;rw[hd] at dd;cases dd
  exact jz.mpr ⟨a,o',it,m,e,(hs.2 a ne).trans g,c,dd,wL (xR ho hd hs n) p⟩
section
theorem vK (w:dc):∀xs:List Kt,kZ w xs=xs.map (rZ w)
 |[]=>by rw[kZ];rfl
 |x::xs=>by rw[kZ,vK w xs];rfl
theorem t8:∀xs ys:List Kt,eE (xs++ys)=eE xs+eE ys
 |[],ys=>by rw[List.nil_append,eE,ze]
 |x::xs,ys=>by rw[List.cons_append,eE,eE,t8 xs ys,kR]
theorem Bf (x:Kt):eE [x]=qy x:=by rw[eE,eE,Nat.add_zero]
theorem Aj:∀(n:Nat) {A:cK} {s:aI} {x:Kt} {v:ay} {Q:Int->aI->Prop},A.units+n<mn->jQ s.heap n x v->Q (rZ wo x) { s with toks:=s.toks+qy x }->br (b0 pr wo) A (pyHash v) Q E s
 |n,A,s,.k x,v,Q,hu,hx,q=>by
  rw[mF] at hx;rw[rZ,qy] at q;exact(gj pr wo).pyHash hx q
 |0,_,_,.t _,_,_,_,hx,_=>by rw[jQ] at hx;exact hx.elim
 |n+1,A,s,.t xs,v,Q,hu,hx,h=>by
  refine jU (jz.mp hx) λa o items m e ho hc hd hi=>?_;subst e;have hT:s.TypeIs (.ref a) "tuple":=⟨o,ho,hc⟩;rw[rZ,qy] at h;unfold pyHash
  first|unfold pyHashByItsType|skip
  first|refine ae (wpAny_cRoomFor_or (.inr<|by lia) ?_)|skip
  refine ae<|ja hT kg.lookup ?_;show br _ _ (if(some (mo "tuple.__hash__")==some dy)=true then _ else _) Q E s;rw[if_neg (by rw[beq_builtin_none];exact aw)];refine ae<|ja hT kg.lookup ?_;show br _ _ (callSpecialIfBoundUnlessNone? (.ref a) "__hash__" _ >>= _) Q E s;refine ae<|wpAny_callSpecialIfBoundUnlessNone?_slot hT kg<|fS kg hT PySem.F.entry_tuple_hash ?_<|PySem.F.args_tuple_hash_1 _;show br _ _ (qr (.ref a) >>= _) _ _ s;refine ae<|wpAny_tupleItemsOf ho hd ?_;refine ae ?_;rw[← xS];refine wpAny_forIn_list _
   (λrest (b:Array Int) s'=>∃done left,xs=done++left/\eP (jQ s.heap n) left rest/\b.toList=done.map (rZ wo)/\s'={ s with toks:=s.toks+eE done })
   _ ?_ ?_ _ _ ⟨[],xs,rfl,hi,rfl,by rw[eE];rfl⟩
  ·rintro x rest b s' ⟨done,left,rfl,hl,hb,rfl⟩;cases hl with
   | @cons k _ ks' _ h1 hl'=>
    refine ae<|Aj n (A:=A.in1) (show A.units+1+n<mn by lia) (s:={ s with toks:=s.toks+eE done }) h1 ?_;refine ah ⟨done++[k],ks',by simp,hl',by simp[hb],?_⟩;rw[t8,Bf,kR]
  ·rintro b s' ⟨done,left,rfl,hl,hb,rfl⟩;cases hl;rw[cw] at h;show br _ _ (retInt<|fg b.toList) _ _ _;rw[hb,← vK];refine wpAny_ret_mkInt ?_;show br _ _ (if(decide (-(2:Int)^63<=fg (kZ wo done))&&decide (fg (kZ wo done)<2^63))=true then _ else _) Q E _;unfold reduceHash at h;by_cases hr:(decide (-(2:Int)^63<=fg (kZ wo done))&&decide (fg (kZ wo done)<2^63))=true
   ·rw[if_pos hr];rw[if_pos hr] at h;exact ah<|by simpa[kR] using h
   ·rw[if_neg hr];rw[if_neg hr] at h;exact ae<|sj<|ah<|by simpa[kR] using h
noncomputable def pN (xs ys:List Kt)(j:Nat):Bool:=match xs[j]?,ys[j]? with
 |some x,some y=>decide<|x=y
 |_,_=>true
theorem yx:∀xs ys:List Kt,((ip<|min xs.length ys.length).all (pN xs ys)&&xs.length==ys.length)=decide (xs=ys)
 |[],[]=>by simp
 |[],_::_=>by simp
 |_::_,[]=>by simp
 |x::xs,y::ys=>by
  have ih:=yx xs ys;rw[fq,fq,Nat.succ_min_succ,List.range_succ_eq_map,sC,List.all_map];have e:(pN (x::xs) (y::ys)∘Nat.succ)=pN xs ys:=by funext j;simp[pN]
  rw[e];have e0:pN (x::xs) (y::ys) 0=decide (x=y):=by simp[pN]
  rw[e0,Bool.and_assoc];have e1:((xs.length+1==ys.length+1):Bool)=(xs.length==ys.length):=by simp
  rw[e1,ih];by_cases a:x=y<;>by_cases b:xs=ys<;>simp[a,b]
theorem u9:∀{l:List α} {m:List β} (j:Nat) (h:j<m.length),eP F l m->∃a,l[j]? = some a/\F a m[j]
 |_,_,j,h,.nil=>absurd h<|Nat.not_lt_zero _
 |_,_,0,_,.cons r _=>⟨_,rfl,r⟩
 |_,_,j+1,h,.cons _ t=>by
  obtain⟨a,h1,h2⟩:=u9 j (by simpa using h) t;exact⟨a,by simpa using h1,by simpa using h2⟩
theorem JS:∀(n:Nat) (A:cK) (s:aI) (x y:Kt) (v u:ay),A.units+n<mn->jQ s.heap n x v->jQ s.heap n y u->y2 A s v u (decide<|x=y)
 |n,A,s,.k x,.k y,v,u,hu,hx,hy=>by
  rw[mF] at hx hy;intro pr wo E Q q;refine(gj pr wo).eqBool (a:=x) (b:=y) hx hy ?_;have e:decide (Kt.k x=Kt.k y)=decide (x=y):=decide_eq_decide.mpr ⟨λe=>by injection e,λe=>by rw[e]⟩;rw[← e];exact q
 |0,_,_,.t _,_,_,_,_,hx,_=>by rw[jQ] at hx;exact hx.elim
 |0,_,_,.k _,.t _,_,_,_,_,hy=>by rw[jQ] at hy;exact hy.elim
 |n+1,A,s,.k x,.t ys,v,u,hu,hx,hy=>by
  rw[mF] at hx;refine jU (jz.mp hy) λa o it m e g c d _=>?_;subst e;have hl:s.heap.IsTuple a it:=⟨o,g,c,m,d⟩;rw[show decide (Kt.k x=Kt.t ys)=false from decide_eq_false λe=>nomatch e];rcases bV hx with⟨i,t,rfl,rfl⟩|⟨z,t,rfl,rfl⟩
  ·exact SeqAt.EqAt.int_tuple i t hl<|by lia
  ·exact SeqAt.EqAt.str_tuple z t hl<|by lia
 |n+1,A,s,.t xs,.k y,v,u,hu,hx,hy=>by
  rw[mF] at hy;refine jU (jz.mp hx) λa o it m e g c d _=>?_;subst e;have hl:s.heap.IsTuple a it:=⟨o,g,c,m,d⟩;rw[show decide (Kt.t xs=Kt.k y)=false from decide_eq_false λe=>nomatch e];rcases bV hy with⟨i,t,rfl,rfl⟩|⟨z,t,rfl,rfl⟩
  ·exact SeqAt.EqAt.tuple_int i t hl<|by lia
  ·exact SeqAt.EqAt.tuple_str z t hl<|by lia
 |n+1,A,s,.t xs,.t ys,v,u,hu,hx,hy=>by
  have hx':=hx;have hy':=hy;refine jU (jz.mp hx) λa o it m e g c d p=>?_;refine jU (jz.mp hy) λa' o' it' m' e' g' c' d' p'=>?_;subst e e';by_cases ne:a=a'
  ·subst ne;rw[xu _ _ _ _ hx' hy',decide_eq_true rfl];exact z5 _
  ·have hl:s.heap.IsTuple a it:=⟨o,g,c,m,d⟩;have hl':s.heap.IsTuple a' it':=⟨o',g',c',m',d'⟩;have n1:it.size=xs.length:=by have:=kS p;simpa using this.symm
   have n2:it'.size=ys.length:=by have:=kS p';simpa using this.symm
   have e2:decide (Kt.t xs=Kt.t ys)=decide (xs=ys):=decide_eq_decide.mpr ⟨λe=>by injection e,λe=>by rw[e]⟩;rw[e2,← yx xs ys,← n1,← n2];refine SeqAt.EqAt.of_refs ne<|SeqAt.RcAt.tuples hl hl' (by lia) λj j1 j2=>?_;obtain⟨b,q1,q2⟩:=u9 j (by simpa using j1) p;obtain⟨b',r1,r2⟩:=u9 j (by simpa using j2) p'
   have:pN xs ys j=decide (b=b'):=by unfold pN;rw[q1,r1]
   rw[this];exact JS n A.in1 s b b' _ _ (show A.units+1+n<mn by lia) (by simpa using q2) (by simpa using r2)
theorem JW:∀(n:Nat) {A:cK} {s:aI} {x:Kt} {v:ay} {Q:Bool->aI->Prop},jQ s.heap n x v->Q true s->br (b0 pr wo) A (eqIsQuiet n v) Q E s
 |n,A,s,.k x,v,Q,hx,q=>by
  rw[mF] at hx;rw[eqIsQuiet_byValue _<|(gj pr wo).byValue _ _ hx];exact ah q
 |0,_,_,.t _,_,_,hx,_=>by rw[jQ] at hx;exact hx.elim
 |n+1,A,s,.t xs,v,Q,hx,h=>by
  refine jU (jz.mp hx) λa o items m e ho hc hd hi=>?_;subst e;have hT:s.TypeIs (.ref a) "tuple":=⟨o,ho,hc⟩;unfold eqIsQuiet;refine ae<|ja hT PySem.F.slot_tuple_eq.lookup ?_;show br _ _ (isInstance (.ref a) (.type "tuple") >>= _) _ _ s;refine ae<|lI hT isSubtype_tuple_tuple ?_;simp only[Bool.not_true,g7,if_false];refine ae<|ro ho hd<|ae ?_;show br _ _ (forIn items _ _) _ _ s;rw[← xS];refine wpAny_forIn_list _ (λrest r s'=>r.1=none/\s'=s/\∃ks,eP (jQ s.heap n) ks rest) _ ?_ ?_ _ _ ⟨rfl,rfl,xs,hi⟩
  ·rintro v rest r s' ⟨hr,rfl,ks,al⟩;cases al with
   |cons h1 al'=>
    refine ae<|JW n h1 ?_;simp only[Bool.not_true,g7,if_false];exact ah ⟨rfl,rfl,_,al'⟩
  ·rintro⟨r1,r2⟩ s' ⟨hr,rfl,_⟩;simp only at hr;subst hr;exact ah h
end
def iY (pr:bq)(wo:dc):HeapKind pr wo (List Kt) where
 is:=λh ks a=>jQ h 8 (.t ks)<|.ref a
 hash:=λks=>rZ wo<|.t ks
 draws:=λks=>qy<|.t ks
 room:=λA=>A.units+8<mn
 inj:=λa b=>by have:=xu _ _ _ _ a b;injection this
 keeps:=λx a b c=>xR a b c _ _ _ x
 pyHash:=λa b c=>Aj 8 a b c
 eqBool:=λ{A E s x y a b Q} h1 h2 h3 h4=>by
  refine JS 8 A s _ _ _ _ h1 h2 h3 _ _ _ _ ?_;rw[show decide (Kt.t x=Kt.t y)=decide (x=y) from decide_eq_decide.mpr ⟨λe=>by injection e,λe=>by rw[e]⟩];exact h4
 quiet:=λa b=>JW 8 a b
inductive V where
 |non|bl (b:Bool)|int (i:Int)|str (x:Str)|byt (b:Array UInt8)|flt (b:UInt64)|ref (a:Addr)|ty (n:String)
 deriving DecidableEq
def RelV:V->ay->Prop
 | .non,u=>u=dy
 | .bl b,u=>u=y3 b
 | .int i,u=>∃t,u=xC i t
 | .str x,u=>∃t,u=xD x t
 | .byt b,u=>∃t,u=Value.bytes b t
 | .flt b,u=>∃t,u=Value.float b t
 | .ref a,u=>u=bE a
 | .ty n,u=>u=Value.type n
abbrev Vals:List V->List ay->Prop:=eP RelV
theorem Vals.length (r:Vals xs us):xs.length=us.length:=kS r
theorem Vals.get:∀{xs:List V} {us:List ay} {i:Nat} {x:V},Vals xs us->xs[i]? = some x->∃u,us[i]? = some u/\RelV x u
 |_,_,_,_,.nil,e=>by simp at e
 |_,_,0,_,.cons r _,e=>by simp at e;subst e;exact⟨_,rfl,r⟩
 |_,_,i+1,x,.cons _ t,e=>by
  obtain⟨u,h1,h2⟩:=Vals.get (i:=i) (x:=x) t (by simpa using e);exact⟨u,by simpa using h1,h2⟩
theorem Vals.append:∀{xs ys:List V} {us ws:List ay},Vals xs us->Vals ys ws->Vals (xs++ys) (us++ws)
 |_,_,_,_,.nil,s=>s
 |_,_,_,_,.cons r t,s=>.cons r<|Vals.append t s
theorem Vals.take:∀{xs:List V} {us:List ay} (n:Nat),Vals xs us->Vals (xs.take n) (us.take n)
 |_,_,0,_=>.nil
 |_,_,_+1,.nil=>.nil
 |_,_,n+1,.cons r t=>.cons r<|Vals.take n t
theorem Vals.drop:∀{xs:List V} {us:List ay} (n:Nat),Vals xs us->Vals (xs.drop n) (us.drop n)
 |_,_,0,r=>r
 |_,_,_+1,.nil=>.nil
 |_,_,n+1,.cons _ t=>Vals.drop n t
def yh:Option V->Option ay->Prop
 |some v,some u=>RelV v u
 |none,none=>True
 |_,_=>False
def KV {κ:Type}:List (κ×V)->List (κ×ay)->Prop:=eP λ(p:κ×V) (q:κ×ay)=>p.1=q.1/\RelV p.2 q.2
noncomputable def kV:Key->V
 | .inl i=>.int i
 | .inr x=>.str x
inductive HO where
  |lst (xs:List V)
  |tup (xs:List V)
  |dK (ι:List (Key×V))|dT (T:Addr->List V->Prop) (ι:List (List Kt×V))
  |set (S:Int->Bool) (n:Nat)
  |ins (C dx:Addr) (fs:List (Str×V))
  |own (x:Addr)
  |xd (fs:List (Str×V))
  |met (f x:Addr)
  |rng (lo hi:Int)
  |frz (o:Obj) (u:HO)
  |tbl (ps:Array ay)
  |ext (φ:Heap->Prop)
abbrev Hp:=Addr->Option HO
noncomputable def upd (H:Hp)(a:Addr)(o:HO):Hp:=λb=>if b=a then some o else H b
theorem bu:upd H a o a=some o:=by unfold upd;rw[if_pos rfl]
theorem bT (h:b≠a):upd H a o b=H b:=by unfold upd;rw[if_neg h]
theorem Ol {H:Hp}{a b:Addr}{o u:HO}(h:H a=some o)(h':H b=some u)(d:o≠u):a≠b:=by
 intro e;subst e;rw[h] at h';exact d<|bX h'
theorem jD {H:Hp}{a b:Addr}{o:HO}(h:H a=some o)(h':H b=none):a≠b:=by
 intro e;subst e;rw[h] at h';cases h'
mutual
inductive vW (T:Addr->List V->Prop)(H:Hp):Nat->V->Kt->Prop where
 |k {n:Nat} {x:Key}:vW T H n (kV x) (.k x)
 |t {n:Nat} {b:Addr} {vs:List V} {ks:List Kt}:(H b=some (.tup vs)\/T b vs)->pq T H n vs ks->vW T H (n+1) (.ref b) (.t ks)
inductive pq (T:Addr->List V->Prop)(H:Hp):Nat->List V->List Kt->Prop where
 |nil {n:Nat}:pq T H n [] []
 |cons {n:Nat} {v:V} {vs:List V} {k:Kt} {ks:List Kt}:vW T H n v k->pq T H n vs ks->pq T H n (v::vs) (k::ks)
end
def TrT (T:Addr->List V->Prop)(H:Hp)(b:Addr)(ks:List Kt):Prop:=∃vs,(H b=some (.tup vs)\/T b vs)/\pq T H 7 vs ks
section
mutual
theorem vW.imp (ht:∀b xs,H b=some (.tup xs)->H' b=some (.tup xs)):∀{n:Nat} {v:V} {k:Kt},vW T H n v k->vW T H' n v k
 |_,_,_,.k=>.k
 |_,_,_,.t h hs=>.t (h.imp (ht _ _) id)<|pq.imp ht hs
theorem pq.imp (ht:∀b xs,H b=some (.tup xs)->H' b=some (.tup xs)):∀{n:Nat} {vs:List V} {ks:List Kt},pq T H n vs ks->pq T H' n vs ks
 |_,_,_,.nil=>.nil
 |_,_,_,.cons h hs=>.cons (vW.imp ht h)<|pq.imp ht hs
end
theorem TrT.imp (h:TrT T H b ks)(ht:∀b xs,H b=some (.tup xs)->H' b=some (.tup xs)):TrT T H' b ks:=
 let⟨vs,h1,h2⟩:=h;⟨vs,h1.imp (ht _ _) id,h2.imp ht⟩
end
section
variable (P:bq)(w:dc)
def CG (h:Heap)(a:Addr)(its:Array ay):Prop:=∃o,h.get? a=some o/\o.cls=.type "tuple"/\∃n,o.data=.seq its n/\o.dict=none
theorem CG.tup {h:Heap}{a:Addr}{its:Array ay}(x:CG h a its):AG h a its:=let⟨o,e,c,n,d,_⟩:=x;⟨o,e,c,n,d⟩
theorem CG.new (h:Heap)(its:Array ay):CG (h.push { cls:=.type "tuple",data:=.seq its }) h.objs.size its:=⟨_,aS _ rfl,rfl,_,rfl,rfl⟩
def cO (H:Hp)(h:Heap)(a:Addr):HO->Prop
 | .lst xs=>xs.length<=ai/\∃(its:List ay) (n:Nat),Vals xs its/\h.get? a=some { cls:=.type "list",data:=.seq its.toArray n }
 | .tup xs=>xs.length<=ai/\∃its:List ay,Vals xs its/\CG h a its.toArray
 | .dK ι=>ι.length<=ai/\(a==gy)=false/\∃vs,KV ι vs/\h.DictOf (gj P w) a vs
 | .dT T ι=>ι.length<=ai/\(a==gy)=false/\∃xs:List (List Kt×Addr×ay),
   eP (λ(p:List Kt×V) (q:List Kt×Addr×ay)=>p.1=q.1/\TrT T H q.2.1 p.1/\RelV p.2 q.2.2) ι xs/\
   ∃o es ep,h.get? a=some o/\o.ExactDict/\o.data=.dict es ep/\es.toList=xs.map (entryOfKey<|iY P w)/\(xs.map (·.1)).Nodup
 | .set S n=>h.SetOf (intKind P w) a S n
 | .ins C dx fs=>H dx=some (.own a)/\fs.length<=1000/\dx≠a/\h.get? a=some (W.instObj C dx)/\
   ∃mA,h.Ns1 dx mA/\(∀f,yh (fs.lookup f)<|mA f)/\PySem.Within mA (fs.map (·.1))
 | .own _=>∃o,h.get? a=some o
 | .xd fs=>∃mA,h.Ns1 a mA/\∀f,yh (fs.lookup f)<|mA f
 | .rng lo hi=>∃t u v,h.get? a=some { cls:=.type "range",data:=.fields #[.int lo t,.int hi u,.int 1 v] }
 | .frz o u=>h.get? a=some o/\cO H h a u
 | .tbl ps=>h.get? a=some { cls:=.none,data:=.fields ps }
 | .met f x=>h.get? a=some (W.methodObj (.ref f)<|.ref x)
 | .ext φ=>φ h/\(∃o,h.get? a=some o)/\∀h1 h2:Heap,φ h1->(∀o,h1.get? a=some o->h2.get? a=some o)->φ h2
def HOk (H:Hp)(h:Heap):Prop:=∀a o,H a=some o->cO P w H h a o
end
section
variable {P:bq}{w:dc}{H H':Hp}{h h':Heap}{a:Addr}{o:HO}
theorem cO.lt (x:cO P w H h a o):a<h.objs.size:=by
 cases o with
 |lst xs=>obtain⟨_,_,_,_,e⟩:=x;exact ar e
 |tup xs=>obtain⟨_,_,_,p⟩:=x;exact p.tup.lt
 |dK ι=>obtain⟨_,_,_,_,o,_,_,e,_⟩:=x;exact ar e
 |dT T ι=>obtain⟨_,_,_,_,o,_,_,e,_⟩:=x;exact ar e
 |set S n=>obtain⟨o,_,_,_,e,_⟩:=x;exact ar e
 |ins C dx fs=>obtain⟨_,_,_,e,_⟩:=x;exact ar e
 |own y=>obtain⟨_,e⟩:=x;exact ar e
 |xd fs=>obtain⟨_,⟨_,_,_,e,_⟩,_⟩:=x;exact ar e
 |rng lo hi=>obtain⟨_,_,_,e⟩:=x;exact ar e
 |frz ob u=>obtain⟨e,_⟩:=x;exact ar e
 |tbl ps=>exact ar (show h.get? a=some _ from x)
 |met f y=>exact ar (show h.get? a=some _ from x)
 |ext φ=>obtain⟨_,⟨_,e⟩,_⟩:=x;exact ar e
theorem eP.Wx:∀{l₁:List α} {l₂:List β},eP F l₁ l₂->(∀a b,F a b->G a b)->eP G l₁ l₂
 |_,_,.nil,_=>.nil
 |_,_,.cons r t,f=>.cons (f _ _ r)<|eP.Wx t f
theorem cO.stay (x:cO P w H h a o)(k:∀b u,(b=a\/H b=some (.own a))->h.get? b=some u->h'.get? b=some u)
  (ho:∀b,H b=some (.own a)->H' b=some (.own a)) (ht:∀b xs,H b=some (.tup xs)->H' b=some (.tup xs)):cO P w H' h' a o:=by
 induction o with
 |lst xs=>obtain⟨z,its,n,r,e⟩:=x;exact⟨z,its,n,r,k _ _ (.inl rfl) e⟩
 |tup xs=>obtain⟨z,its,r,ob,e,c⟩:=x;exact⟨z,its,r,ob,k _ _ (.inl rfl) e,c⟩
 |dK ι=>obtain⟨z,y,vs,r,ob,es,ep,e,c⟩:=x;exact⟨z,y,vs,r,ob,es,ep,k _ _ (.inl rfl) e,c⟩
 |dT T ι=>
  obtain⟨z,y,xs,r,ob,es,ep,e,c⟩:=x;exact⟨z,y,xs,eP.Wx r λp q z=>⟨z.1,z.2.1.imp ht,z.2.2⟩,ob,es,ep,k _ _ (.inl rfl) e,c⟩
 |set S n=>obtain⟨ob,es,ep,t,e,c⟩:=x;exact⟨ob,es,ep,t,k _ _ (.inl rfl) e,c⟩
 |ins C dx fs=>
  obtain⟨d,z,ne,e,mA,⟨od,es,ep,e2,c⟩,r⟩:=x;exact⟨ho _ d,z,ne,k _ _ (.inl rfl) e,mA,⟨od,es,ep,k _ _ (.inr d) e2,c⟩,r⟩
 |own y=>obtain⟨ob,e⟩:=x;exact⟨ob,k _ _ (.inl rfl) e⟩
 |xd fs=>obtain⟨mA,⟨od,es,ep,e,c⟩,r⟩:=x;exact⟨mA,⟨od,es,ep,k _ _ (.inl rfl) e,c⟩,r⟩
 |rng lo hi=>obtain⟨t,u,v,e⟩:=x;exact⟨t,u,v,k _ _ (.inl rfl) e⟩
 |frz ob u ih=>obtain⟨e,q⟩:=x;exact⟨k _ _ (.inl rfl) e,ih q⟩
 |tbl ps=>
  have e:h.get? a=some { cls:=.none,data:=.fields ps }:=x;show h'.get? a=some { cls:=.none,data:=.fields ps };exact k a _ (.inl rfl) e
 |met f y=>
  have e:h.get? a=some (W.methodObj (.ref f)<|.ref y):=x;show h'.get? a=some (W.methodObj (.ref f)<|.ref y);exact k a _ (.inl rfl) e
 |ext φ=>obtain⟨p,⟨o,e⟩,st⟩:=x;exact⟨st _ _ p λo q=>k _ _ (.inl rfl) q,⟨o,k _ _ (.inl rfl) e⟩,st⟩
theorem HOk.lt (x:HOk P w H h)(e:H a=some o):a<h.objs.size:=(x a o e).lt
theorem HOk.fresh (x:HOk P w H h)(e:h.objs.size<=a):H a=none:=by
 cases q:H a with
 |none=>rfl
 |some u=>exact absurd (bg (x.lt q) e) (eD _)
theorem HOk.kept (x:HOk P w H h)(k:∀b u,h.get? b=some u->h'.get? b=some u):HOk P w H h':=λa o e=>
 (x a o e).stay (λb u _ q=>k b u q) (λ_ q=>q) λ_ _ q=>q
theorem HOk.laid (x:HOk P w H h)(k:∀b u,h.get? b=some u->h'.get? b=some u)(hp:h.objs.size<=a)(new:cO P w (upd H a o) h' a o):HOk P w (upd H a o) h':=λb u e=>by
 have hn:=x.fresh hp;by_cases hb:b=a
 ·subst hb;rw[bu] at e;cases e;exact new
 ·rw[bT hb] at e;exact(x b u e).stay (λc v _ q=>k c v q) (λc q=>by rw[bT<|jD q hn];exact q) λc xs q=>by rw[bT<|jD q hn];exact q
end
def Rd (H:Hp)(a:Addr)(u:HO):Prop:=H a=some u\/∃o,H a=some (.frz o u)
theorem Rd.ok (r:Rd H a u)(x:HOk P w H h):cO P w H h a u:=by
 rcases r with r|⟨o,r⟩
 ·exact x a u r
 ·obtain⟨_,q⟩:=x a _ r;exact q
def Mut:Option HO->Prop
 |some (.lst _)=>True
 |some (.dK _)=>True
 |some (.dT _ _)=>True
 |some (.set _ _)=>True
 |some (.ins _ _ _)=>True
 |some (.ext _)=>True
 |_=>False
section
theorem HOk.write (ok:HOk P w H h)(mu:Mut (H x))(he:e=x\/H e=some (.own x))(k:∀b u,b≠e->h.get? b=some u->h'.get? b=some u)(heo:∃u,h'.get? e=some u)
  (new:cO P w (upd H x o') h' x o'):HOk P w (upd H x o') h':=λb u q=>by
 have nown:∀c y,H c=some (.own y)->c≠x:=λc y r z=>by subst z;rw[r] at mu;exact mu
 have ntup:∀c xs,H c=some (.tup xs)->c≠x:=λc xs r z=>by subst z;rw[r] at mu;exact mu
 by_cases hb:b=x
 ·subst hb;rw[bu] at q;cases q;exact new
 ·rw[bT hb] at q;by_cases hbe:b=e
  ·have q':H b=some (.own x):=by
    rcases he with z|z
    ·exact absurd (hbe.trans z) hb
    ·rw[hbe];exact z
   rw[q] at q';cases q';obtain⟨v,hv⟩:=heo;exact⟨v,by rw[hbe];exact hv⟩
  ·refine(ok b u q).stay (λc v hc r=>k c v ?_ r) (λc r=>by rw[bT<|nown c b r];exact r) λc xs r=>by rw[bT<|ntup c xs r];exact r
   rcases hc with rfl|hc
   ·exact hbe
   ·rintro rfl;rcases he with z|z
    ·exact nown c b hc z
    ·rw[hc] at z;cases z;exact hb rfl
end
structure Un (fs ex:List Addr)(H H':Hp)(h h':Heap):Prop where
 keep:∀b o,h.get? b=some o->H b=none->b∉fs->b∉ex->h'.get? b=some o
 slot:∀b o,h.get? b=some o->H b=none->b∈fs->b∉ex->∃sl,h'.get? b=some { o with slots:=sl }
 free:∀b o,h.get? b=some o->H b=none->b∉ex->H' b=none
 there:∀b o,h.get? b=some o->b∉ex->∃o',h'.get? b=some o'
 tups:∀b xs,H b=some (.tup xs)->H' b=some (.tup xs)
 frzs:∀b o u,H b=some (.frz o u)->H' b=some (.frz o u)
 tbls:∀b ps,H b=some (.tbl ps)->∃more,H' b=some (.tbl (ps++more))
section
variable {fs fs' ex ex':List Addr}{H H1 H2:Hp}{h h1 h2 h':Heap}{a x e:Addr}{o:HO}
theorem Un.any (u:Un fs ex H H1 h h1){b:Addr}{ob:Obj}(q:h.get? b=some ob)(n:H b=none)(hx:b∉ex):∃sl,h1.get? b=some { ob with slots:=sl }:=by
 by_cases hb:b∈fs
 ·exact u.slot b ob q n hb hx
 ·exact⟨ob.slots,u.keep b ob q n hb hx⟩
theorem Un.kept (k:∀b u,h.get? b=some u->h'.get? b=some u):Un fs ex H H h h':=
 ⟨λb ob q _ _ _=>k b ob q,λb ob q _ _ _=>⟨ob.slots,k b ob q⟩,λ_ _ _ n _=>n,λb ob q _=>⟨ob,k b ob q⟩,λ_ _ q=>q,λ_ _ _ q=>q,λ_ ps q=>⟨#[],by rw[q];simp⟩⟩
theorem Un.refl:Un fs ex H H h h:=Un.kept λ_ _ q=>q
theorem Un.laid (k:∀b u,h.get? b=some u->h'.get? b=some u)(hp:h.objs.size<=a)(hn:H a=none):Un fs ex H (upd H a o) h h' where
 keep:=λb u q _ _ _=>k b u q
 slot:=λb u q _ _ _=>⟨u.slots,k b u q⟩
 free:=λb u q n _=>by rw[bT<|a5<|bg (ar q) hp];exact n
 there:=λb u q _=>⟨u,k b u q⟩
 tups:=λb xs q=>by rw[bT<|jD q hn];exact q
 frzs:=λb u xs q=>by rw[bT<|jD q hn];exact q
 tbls:=λb ps q=>⟨#[],by rw[bT<|jD q hn,q];simp⟩
theorem Un.write (mu:Mut (H x))(he:e=x\/H e=some (.own x))(k:∀b u,b≠e->h.get? b=some u->h'.get? b=some u)(heo:∃u,h'.get? e=some u):Un fs ex H (upd H x o) h h':=by
 have hx:∀b,H b=none->b≠x:=λb n z=>by subst z;rw[n] at mu;exact mu
 have hb:∀b,H b=none->b≠e:=λb n z=>by
  subst z;rcases he with r|r
  ·exact hx b n r
  ·rw[n] at r;cases r
 have hm:∀b u,H b=some u->¬Mut (some u)->b≠x:=λb u q nm z=>by subst z;rw[q] at mu;exact nm mu
 refine⟨λb u q n _ _=>k b u (hb b n) q,λb u q n _ _=>⟨u.slots,k b u (hb b n) q⟩,λb u q n _=>by rw[bT<|hx b n];exact n,λb u q _=>?_,
  λb xs q=>by rw[bT<|hm b _ q λz=>z];exact q,λb u xs q=>by rw[bT<|hm b _ q λz=>z];exact q,λb ps q=>⟨#[],by rw[bT<|hm b _ q λz=>z,q];simp⟩⟩
 by_cases hbe:b=e
 ·subst hbe;exact heo
 ·exact⟨u,k b u hbe q⟩
end
noncomputable def trk (h:Heap)(H:Hp):List Addr:=(ip h.objs.size).filter λa=>(H a).isSome
def Di (h:Heap)(H:Hp):Heap:=om h<|trk h H
theorem Mj (h:Heap)(H:Hp):(Di h H).objs.size=h.objs.size:=W.hideAll_size _ _
theorem QS (e:h.get? b=some o)(n:H b=none):(Di h H).get? b=some o:=
 kT _ e λhm=>by
  have q:(H b).isSome=true:=(List.mem_filter.mp hm).2;rw[n] at q;simp at q
theorem Vp (e:(Di h H).get? b=some o):h.get? b=some o/\H b=none:=by
 have e':h.get? b=some o:=rf (trk h H) e;refine⟨e',?_⟩;cases q:H b with
 |none=>rfl
 |some x=>
  have hm:b∈trk h H:=List.mem_filter.mpr ⟨List.mem_range.mpr<|ar e',by simp[q]⟩;have z:(Di h H).get? b=none:=W.hideAll_none (trk h H) hm;rw[z] at e;cases e
structure Mod (K:a6)(mg:Zp)(base:Heap):Prop where
 kin:K.In base
 glob:base.Ns bp mg
 blt:∃mb,base.Ns builtinsNs mb/\∀x:Str,x≠"__name__"->mb x=ck x
 nolimit:base.NoLimit
structure Cx where
 prog:bq
 w:dc
 K:a6
 mg:Zp
 base:Heap
 A:cK
 N:List Str
 s₀:aI
 H₀:Hp
 env:Env
 outer:List Env
 stack:List Env
 ex:List Addr
 fn:Str->Bool
 calm:Bool
 pn:Zl
 xe:Zs
noncomputable def frs (l:List Env):List Addr:=l.filterMap (·.frame)
abbrev Cx.fs (X:Cx):List Addr:=frs X.outer
def Vis (sc:l0)(x:Str):Prop:=sc.names.lookup x=some .local\/sc.names.lookup x=some .cell\/sc.names.lookup x=some .free
def Loc (sc:l0)(x:Str):Prop:=sc.names.lookup x=some .local\/sc.names.lookup x=some .cell
def Look (env:Env)(h:Heap)(m:Zp)(x:Str)(u:ay):Prop:=
 (env.kindOf x=some .local/\m x=some u)\/((env.kindOf x=some .cell\/env.kindOf x=some .free)/\∃c,env.cells.lookup x=some c/\h.IsCell c (some u))
structure Cx.Ok (X:Cx):Prop where
 mod:Mod X.K X.mg X.base
 kind:X.env.scope.kind=.function
 glob:X.env.globals=bp
 blt:X.env.builtins=builtinsNs
 above:X.s₀.heap.objs.size<=X.env.locals
 inj:∀x y c,X.env.cells.lookup x=some c->X.env.cells.lookup y=some c->x=y
 has:∀x,(X.env.kindOf x=some .cell\/X.env.kindOf x=some .free)->∃c,X.env.cells.lookup x=some c
 cab:∀x c,X.fn x=true->X.env.cells.lookup x=some c->X.s₀.heap.objs.size<=c
 hd:X.calm=true->X.A.handled=none
 frames:X.A.frames=some X.stack
 stk:X.stack=X.outer\/(X.stack=X.env::X.outer/\X.env.frame=some X.env.locals)
 exf:∀b∈X.ex,b≠X.env.locals/\∀x c,X.env.cells.lookup x=some c->c≠b
 bs:∀b o,X.base.get? b=some o->X.s₀.heap.get? b=some o/\X.H₀ b=none
 bsz:X.base.objs.size<=X.s₀.heap.objs.size
 noex:∀b o,X.base.get? b=some o->b∉X.ex
 exfs:∀b∈X.ex,b∉X.fs
 ni:X.s₀.heap.FunFrames X.base X.outer
 frf:∀b∈X.fs,X.H₀ b=none
structure Inv (X:Cx)(π:Zl)(σ:List (Option V))(H:Hp)(s:aI):Prop where
 ok:X.Ok
 os:s.os=X.s₀.os
 bare:rL s.gens
 base:Un X.fs X.ex X.H₀ H X.s₀.heap s.heap
 loc:∃m,s.heap.Ns X.env.locals m/\∀(i:Nat) (x:Str) (v:V),X.N[i]? = some x->σ[i]? = some (some v)->Vis X.env.scope x->∃u,RelV v u/\Look X.env s.heap m x u
 cell:∀x c,X.env.cells.lookup x=some c->∃v,s.heap.IsCell c v
 free:H X.env.locals=none
 freeC:∀x c,X.env.cells.lookup x=some c->H c=none
 pin:∀p∈X.pn++π,s.heap.get? p.1=some p.2/\H p.1=none/\p.1≠X.env.locals/\p.1∉X.fs/\∀v,p.2.data≠.cell v
 hok:HOk X.prog X.w H s.heap
 len:σ.length=X.N.length
section
variable {X:Cx}{π:Zl}{σ:List (Option V)}{H H':Hp}{s:aI}{h':Heap}
theorem Cx.Ok.aaT (ok:X.Ok){b:Addr}{o:Obj}(e:X.base.get? b=some o):b∉X.fs:=λhb=>by
 have:=(ok.ni.mem hb).1
 rw[e] at this;cases this
theorem Inv.bs (I:Inv X π σ H s):∀b o,X.base.get? b=some o->s.heap.get? b=some o/\H b=none:=λb o e=>
 ⟨I.base.keep b o (I.ok.bs b o e).1 (I.ok.bs b o e).2 (I.ok.aaT e)<|I.ok.noex b o e,I.base.free b o (I.ok.bs b o e).1 (I.ok.bs b o e).2<|I.ok.noex b o e⟩
theorem Inv.bk (I:Inv X π σ H s):∀b o,X.base.get? b=some o->s.heap.get? b=some o:=λb o e=>(I.bs b o e).1
theorem Inv.mod (I:Inv X π σ H s):Mod X.K X.mg X.base:=I.ok.mod
theorem Inv.kIn (I:Inv X π σ H s):X.K.In s.heap:=I.ok.mod.kin.keeps I.bk
theorem Inv.lt (I:Inv X π σ H s):X.env.locals<s.heap.objs.size:=let⟨_,hn,_⟩:=I.loc;hn.lt
theorem Inv.sz (I:Inv X π σ H s):X.s₀.heap.objs.size<=s.heap.objs.size:=fT I.ok.above<|zh I.lt
theorem Inv.abC (I:Inv X π σ H s){a:Addr}(h:s.heap.objs.size<=a):a∉X.fs:=λhb=>by
 obtain⟨_,o,ho,_⟩:=I.ok.ni.mem hb;exact absurd (bg (ar ho)<|fT I.sz h)<|eD _
theorem Inv.cne (I:Inv X π σ H s):∀x c,X.env.cells.lookup x=some c->c≠X.env.locals:=λx c e z=>by
 obtain⟨v,o,ho,hd⟩:=I.cell x c e;obtain⟨m,⟨o',es,ep,ho',hd',_⟩,_⟩:=I.loc;rw[z,ho'] at ho;cases ho;rw[hd'] at hd;cases hd
theorem Inv.ni (I:Inv X π σ H s):s.heap.FunFrames X.base X.outer:=by
 have all:∀(l:List Env),(∀b∈frs l,b∈X.fs)->X.s₀.heap.FunFrames X.base l->s.heap.FunFrames X.base l:=by
  intro l;induction l with
  |nil=>intro _ _;trivial
  |cons env r ih=>
   intro hs hl;obtain⟨hk,⟨L,o,hf,hn,ho,hd⟩,hr⟩:=hl;have hL:L∈X.fs:=hs L (by unfold frs;rw[l6,hf];exact cy);obtain⟨sl,e⟩:=I.base.slot L o ho (I.ok.frf L hL) hL λz=>I.ok.exfs L z hL;exact⟨hk,⟨L,_,hf,hn,e,hd⟩,ih (λb hb=>hs b (by unfold frs;rw[l6,hf];exact be _ hb)) hr⟩
 exact all X.outer (λ_ hb=>hb) I.ok.ni
theorem Inv.stack (I:Inv X π σ H s):s.heap.FunFrames X.base X.stack:=by
 rcases I.ok.stk with e|⟨e,hf⟩
 ·rw[e];exact I.ni
 ·rw[e];obtain⟨m,hn,_⟩:=I.loc;refine .cons (by rw[I.ok.kind];decide) hf hn ?_ I.ni;exact Heap.get?_none_of_le<|fT I.ok.bsz I.ok.above
theorem Inv.Dm (I:Inv X π σ H s):∀b∈frs X.stack,b∈X.env.locals::X.fs:=λb hb=>by
 rcases I.ok.stk with e|⟨e,hf⟩
 ·rw[e] at hb;exact be _ hb
 ·rw[e] at hb;unfold frs at hb;rw[l6,hf] at hb;exact hb
theorem Inv.BR (I:Inv X π σ H s):∀b∈frs X.stack,H b=none:=λb hb=>by
 rcases bP.mp (I.Dm b hb) with e|hb
 ·rw[e];exact I.free
 ·obtain⟨_,o,ho,_⟩:=I.ok.ni.mem hb;exact I.base.free b o ho (I.ok.frf b hb) λz=>I.ok.exfs b z hb
theorem Inv.step {g':Array n5}{t':Nat}{d':Drawn}{ch:List Addr}(I:Inv X π σ H s)
  (hch:∀b∈ch,(b∈X.ex\/X.s₀.heap.objs.size<=b)/\b≠X.env.locals/\(∀x c,X.env.cells.lookup x=some c->c≠b)/\∀p∈X.pn++π,p.1≠b)
  (keep:∀b o,b≠X.env.locals->b∉X.fs->b∉ch->s.heap.get? b=some o->H b=none->h'.get? b=some o)
  (slot:∀b o,b≠X.env.locals->b∈X.fs->b∉ch->s.heap.get? b=some o->H b=none->∃sl,h'.get? b=some { o with slots:=sl }) (free:∀b o,b∉ch->s.heap.get? b=some o->H b=none->H' b=none)
  (there:∀b o,b∉ch->s.heap.get? b=some o->∃o',h'.get? b=some o')
  (tups:∀b xs,H b=some (.tup xs)->H' b=some (.tup xs)) (frzs:∀b o u,H b=some (.frz o u)->H' b=some (.frz o u)) (tbls:∀b ps,H b=some (.tbl ps)->∃more,H' b=some (.tbl<|ps++more))
  (ns:∀m,s.heap.Ns X.env.locals m->h'.Ns X.env.locals m) (hok:HOk X.prog X.w H' h') (hg:rL g'):
  Inv X π σ H' { s with heap:=h',gens:=g',drawn:=d',toks:=t' }:=by
 have neL:∀b o,X.s₀.heap.get? b=some o->b≠X.env.locals:=λb o e=>a5<|bg (ar e) I.ok.above;have neC:∀b o,X.s₀.heap.get? b=some o->b∉X.ex->b∉ch:=λb o e hx hb=>by
  rcases(hch b hb).1 with z|z
  ·exact hx z
  ·exact absurd (bg (ar e) z)<|eD _
 have cellK:∀x c,X.env.cells.lookup x=some c->∀v,s.heap.IsCell c v->h'.IsCell c v:=λx c e v ⟨o,ho,hd⟩=>by
  have nch:c∉ch:=λz=>(hch c z).2.2.1 x c e rfl;by_cases hc:c∈X.fs
  ·obtain⟨sl,q⟩:=slot c o (I.cne x c e) hc nch ho<|I.freeC x c e;exact⟨_,q,hd⟩
  ·exact⟨o,keep c o (I.cne x c e) hc nch ho<|I.freeC x c e,hd⟩
 refine⟨I.ok,I.os,hg,⟨λb o e n hb hx=>?_,λb o e n hb hx=>?_,λb o e n hx=>?_,λb o e hx=>?_,λb xs e=>tups b xs<|I.base.tups b xs e,λb o xs e=>frzs b o xs<|I.base.frzs b o xs e,λb ps e=>?_⟩,?_,λx c e=>?_,?_,λx c e=>?_,λp hp=>?_,hok,I.len⟩
 ·exact keep b o (neL b o e) hb (neC b o e hx) (I.base.keep b o e n hb hx)<|I.base.free b o e n hx
 ·obtain⟨sl,e1⟩:=I.base.slot b o e n hb hx;obtain⟨sl',e2⟩:=slot b _ (neL b o e) hb (neC b o e hx) e1<|I.base.free b o e n hx;exact⟨sl',e2⟩
 ·obtain⟨o',e1⟩:=I.base.there b o e hx;exact free b o' (neC b o e hx) e1<|I.base.free b o e n hx
 ·obtain⟨o',e1⟩:=I.base.there b o e hx;exact there b o' (neC b o e hx) e1
 ·obtain⟨m1,e1⟩:=I.base.tbls b ps e;obtain⟨m2,e2⟩:=tbls b _ e1;exact⟨m1++m2,by rw[e2,rg]⟩
 ·obtain⟨m,hn,hl⟩:=I.loc;refine⟨m,ns m hn,λi x v e1 e2 e3=>?_⟩;obtain⟨u,r,l⟩:=hl i x v e1 e2 e3;refine⟨u,r,?_⟩;rcases l with l|⟨k,c,e,z⟩
  ·exact .inl l
  ·exact .inr ⟨k,c,e,cellK x c e _ z⟩
 ·obtain⟨v,z⟩:=I.cell x c e;exact⟨v,cellK x c e v z⟩
 ·obtain⟨m,⟨o,_,_,ho,_⟩,_⟩:=I.loc;exact free _ o (λz=>(hch _ z).2.1 rfl) ho I.free
 ·obtain⟨v,o,ho,hd⟩:=I.cell x c e;exact free c o (λz=>(hch c z).2.2.1 x c e rfl) ho<|I.freeC x c e
 ·refine K6 (I.pin p hp) λe n ne nf d=>?_;have nch:p.1∉ch:=λz=>(hch p.1 z).2.2.2 p hp rfl;exact⟨keep p.1 p.2 ne nf nch e n,free p.1 p.2 nch e n,ne,nf,d⟩
theorem Inv.un {t':Nat}(I:Inv X π σ H s)(u:Un X.fs [] H H' s.heap h')(hok:HOk X.prog X.w H' h'):Inv X π σ H' { s with heap:=h',toks:=t' }:=by
 obtain⟨m,⟨o,es,ep,ho,r⟩,_⟩:=id I.loc;obtain⟨sl,hL⟩:=u.any ho I.free (by simp);exact I.step (g':=s.gens) (d':=s.drawn) (ch:=[]) (λ_ z=>nomatch z) (λb o _ hb _ e n=>u.keep b o e n hb<|by simp) (λb o _ hb _ e n=>u.slot b o e n hb<|by simp) (λb o _ e n=>u.free b o e n<|by simp) (λb o _ e=>u.there b o e<|by simp) u.tups u.frzs u.tbls (λm' hm=>by
  refine xn hm λo' es' ep' ho' r'=>?_;rw[ho] at ho';cases ho';exact⟨_,es',ep',hL,r'⟩) hok I.bare
theorem Inv.call {g':Array n5}{t':Nat}{d':Drawn}{ch:List Addr}(I:Inv X π σ H s)(u:Un (frs X.stack) ch H H' s.heap h')(hok:HOk X.prog X.w H' h')(hg:rL g')
  (hch:∀b∈ch,(b∈X.ex\/X.s₀.heap.objs.size<=b)/\b≠X.env.locals/\(∀x c,X.env.cells.lookup x=some c->c≠b)/\∀p∈X.pn++π,p.1≠b):
  Inv X π σ H' { s with heap:=h',gens:=g',drawn:=d',toks:=t' }:=by
 obtain⟨m,⟨o,es,ep,ho,r⟩,_⟩:=id I.loc;obtain⟨sl,hL⟩:=u.any ho I.free λz=>(hch _ z).2.1 rfl;exact I.step (ch:=ch) hch (λb o hL hb hc e n=>u.keep b o e n (λz=>(bP.mp<|I.Dm b z).elim hL hb) hc) (λb o _ _ hc e n=>u.any e n hc) (λb o hc e n=>u.free b o e n hc) (λb o hc e=>u.there b o e hc) u.tups u.frzs u.tbls (λm' hm=>by
  refine xn hm λo' es' ep' ho' r'=>?_;rw[ho] at ho';cases ho';exact⟨_,es',ep',hL,r'⟩) hok hg
theorem Inv.turned {t':Nat}{it:Addr}(I:Inv X π σ H s)(k:∀b o,b≠it->s.heap.get? b=some o->h'.get? b=some o)(hn:H it=none)(hL:it≠X.env.locals)
  (h1:it∈X.ex\/X.s₀.heap.objs.size<=it) (h2:∀x c,X.env.cells.lookup x=some c->c≠it) (h3:∀p∈X.pn++π,p.1≠it):Inv X π σ H { s with heap:=h',toks:=t' }:=by
 have nit:∀b u,H b=some u->b≠it:=λb u e z=>by rw[z,hn] at e;cases e
 refine I.step (g':=s.gens) (d':=s.drawn) (ch:=[it]) (λb hb=>?_) (λb o _ _ hc e _=>k b o (λz=>hc<|by simp[z]) e) (λb o _ _ hc e _=>⟨o.slots,k b o (λz=>hc<|by simp[z]) e⟩) (λ_ _ _ _ n=>n)
  (λb o hc e=>⟨o,k b o (λz=>hc<|by simp[z]) e⟩) (λ_ _ e=>e) (λ_ _ _ e=>e) (λb ps e=>⟨#[],by rw[e];simp⟩) (λm hm=>?_) (λb u e=>?_) I.bare
 ·have e:b=it:=by simpa using hb
  subst e;exact⟨h1,hL,h2,h3⟩
 ·refine xn hm λo es ep ho r=>?_;exact⟨o,es,ep,k _ o (i7 hL) ho,r⟩
 ·refine(I.hok b u e).stay (λc v hc q=>k c v ?_ q) (λ_ q=>q) λ_ _ q=>q;rcases hc with z|z
  ·rw[z];exact nit b u e
  ·exact nit c _ z
theorem Inv.tok (I:Inv X π σ H s)(t:Nat):Inv X π σ H { s with toks:=t }:=I.un (h':=s.heap) (t':=t) Un.refl I.hok
theorem Inv.kept (I:Inv X π σ H s)(k:∀b u,s.heap.get? b=some u->h'.get? b=some u):Inv X π σ H { s with heap:=h',toks:=t' }:=I.un (Un.kept k)<|I.hok.kept k
theorem Inv.laid (I:Inv X π σ H s)(k:∀b u,s.heap.get? b=some u->h'.get? b=some u)(hp:s.heap.objs.size<=a)(new:cO X.prog X.w (upd H a o) h' a o):
  Inv X π σ (upd H a o) { s with heap:=h',toks:=t' }:=I.un (Un.laid k hp<|I.hok.fresh hp)<|I.hok.laid k hp new
theorem Inv.write (I:Inv X π σ H s)(mu:Mut (H x))(he:e=x\/H e=some (.own x))(k:∀b u,b≠e->s.heap.get? b=some u->h'.get? b=some u)(heo:∃u,h'.get? e=some u)
  (new:cO X.prog X.w (upd H x o) h' x o):Inv X π σ (upd H x o) { s with heap:=h',toks:=t' }:=I.un (Un.write mu he k heo)<|I.hok.write mu he k heo new
theorem Inv.weak (I:Inv X π σ H s)(hl:σ'.length=σ.length)(w:∀(i:Nat) v,σ'[i]? = some (some v)->σ[i]? = some (some v)):Inv X π σ' H s:=
 ⟨I.ok,I.os,I.bare,I.base,let⟨m,hn,hl'⟩:=I.loc;⟨m,hn,λi x v e1 e2 e3=>hl' i x v e1 (w i v e2) e3⟩,I.cell,I.free,I.freeC,I.pin,I.hok,hl.trans I.len⟩
theorem Inv.Jz (I:Inv X π σ H s)(h:∀p∈pins',s.heap.get? p.1=some p.2/\H p.1=none/\p.1≠X.env.locals/\p.1∉X.fs/\∀v,p.2.data≠.cell v):Inv X pins' σ H s:=
 ⟨I.ok,I.os,I.bare,I.base,I.loc,I.cell,I.free,I.freeC,λp hp=>(gT.mp hp).elim (λz=>I.pin p<|wc _ z)<|h p,I.hok,I.len⟩
theorem ym {N:List Str}(hN:N.Nodup){i j:Nat}{x:Str}(a:N[i]? = some x)(b:N[j]? = some x):i=j:=by
 obtain⟨h1,e1⟩:=dS.mp a;obtain⟨h2,e2⟩:=dS.mp b;exact(List.getElem_inj hN).mp (e1.trans e2.symm)
theorem z9 (I:Inv X π σ H s)(hN:X.N.Nodup)(hi:X.N[i]? = some x)(hx:Loc X.env.scope x)(r:RelV v u)
  (h:∀s',Inv X π (σ.set i<|some v) H s'->(∃a,h9 a s.heap s'.heap/\(a=X.env.locals\/X.env.cells.lookup x=some a))->Q () s') (hf:X.fn x=true\/X.env.scope.names.lookup x=some .local:=by first|exact .inl rfl|exact .inr rfl|assumption):br M A (storeName X.env x u) Q E s:=by
 obtain⟨m,hn,hl⟩:=id I.loc;have hcls:(X.env.scope.kind==.class||(X.env.scope.kind==.module&&X.env.locals != X.env.globals))=false:=by rw[I.ok.kind];rfl
 have hiσ:i<σ.length:=by rw[I.len];exact(dS.mp hi).1
 have cne:=I.cne;have tracked:∀{a:Addr} {h':Heap},(∃o,s.heap.get? a=some o/\H a=none)->h9 a s.heap h'->HOk X.prog X.w H h':=λ{a h'} ha hs b ob e=>by
  obtain⟨_,_,hfree⟩:=ha;refine(I.hok b ob e).stay (λc w' hc q=>(hs.2 c ?_).trans q) (λ_ q=>q) λ_ _ q=>q;rintro rfl;rcases hc with rfl|hc
  ·rw[hfree] at e;cases e
  ·rw[hfree] at hc;cases hc
 rcases hx with hk|hk
 ·refine wpAny_storeName_local hk hn (λh' hn' hs=>?_) hcls;refine xn (id hn) λoL _ _ hoL _=>?_;refine h _ ⟨I.ok,I.os,I.bare,⟨λb o e n hb hx=>?_,λb o e n hb hx=>?_,I.base.free,λb o e hx=>?_,I.base.tups,I.base.frzs,I.base.tbls⟩,⟨_,hn',λj y v' e1 e2 e3=>?_⟩,λy c e=>?_,I.free,I.freeC,λp hp=>?_,tracked ⟨oL,hoL,I.free⟩ hs,by simpa using I.len⟩ ⟨_,hs,.inl rfl⟩
  ·exact(hs.2 b<|a5<|bg (ar e) I.ok.above).trans (I.base.keep b o e n hb hx)
  ·obtain⟨sl,e1⟩:=I.base.slot b o e n hb hx;exact⟨sl,(hs.2 b<|a5<|bg (ar e) I.ok.above).trans e1⟩
  ·obtain⟨o',e1⟩:=I.base.there b o e hx;exact⟨o',(hs.2 b<|a5<|bg (ar e) I.ok.above).trans e1⟩
  ·by_cases hj:j=i
   ·subst hj;rw[hi] at e1;cases e1;rw[dn hiσ] at e2;cases e2;exact⟨u,r,.inl ⟨hk,by simp⟩⟩
   ·rw[dA<|i7 hj] at e2;obtain⟨u',r',q⟩:=hl j y v' e1 e2 e3;refine⟨u',r',?_⟩;rcases q with⟨k,e⟩|⟨k,c,e,z⟩
    ·refine .inl ⟨k,?_⟩
     have:y≠x:=λe=>hj<|ym hN e1<|e▸hi
     simp[this,e]
    ·exact .inr ⟨k,c,e,z.sameBut hs<|cne y c e⟩
  ·obtain⟨w',z⟩:=I.cell y c e;exact⟨w',z.sameBut hs<|cne y c e⟩
  ·refine K6 (I.pin p hp) λe n ne nf d=>?_;exact⟨(hs.2 p.1 ne).trans e,n,ne,nf,d⟩
 ·have hfn:X.fn x=true:=by
   rcases hf with z|z
   ·exact z
   ·rw[z] at hk;cases hk
  obtain⟨c,hc⟩:=I.ok.has x<|.inl hk;obtain⟨w',z⟩:=I.cell x c hc;refine wpAny_storeName_cell I.ok.kind hk hc z λh' hc' hs=>?_;obtain⟨oc,hoc,hocd⟩:=id z;refine h { s with heap:=h' } ⟨I.ok,I.os,I.bare,⟨λb o e n hb hx=>?_,λb o e n hb hx=>?_,I.base.free,λb o e hx=>?_,I.base.tups,I.base.frzs,I.base.tbls⟩,⟨m,hn.sameBut hs<|i7<|cne x c hc,λj y v' e1 e2 e3=>?_⟩,λy c' e=>?_,I.free,I.freeC,λp hp=>?_,tracked ⟨oc,hoc,I.freeC x c hc⟩ hs,by simpa using I.len⟩ ⟨c,hs,.inr hc⟩
  ·exact(hs.2 b<|a5<|bg (ar e)<|I.ok.cab x c hfn hc).trans (I.base.keep b o e n hb hx)
  ·obtain⟨sl,e1⟩:=I.base.slot b o e n hb hx;exact⟨sl,(hs.2 b<|a5<|bg (ar e)<|I.ok.cab x c hfn hc).trans e1⟩
  ·obtain⟨o',e1⟩:=I.base.there b o e hx;exact⟨o',(hs.2 b<|a5<|bg (ar e)<|I.ok.cab x c hfn hc).trans e1⟩
  ·by_cases hj:j=i
   ·subst hj;rw[hi] at e1;cases e1;rw[dn hiσ] at e2;cases e2;exact⟨u,r,.inr ⟨.inl hk,c,hc,hc'⟩⟩
   ·rw[dA<|i7 hj] at e2;obtain⟨u',r',q⟩:=hl j y v' e1 e2 e3;refine⟨u',r',?_⟩;rcases q with q|⟨k,c',e,z'⟩
    ·exact .inl q
    ·refine .inr ⟨k,c',e,z'.sameBut hs ?_⟩;rintro rfl;exact hj<|ym hN e1<|I.ok.inj _ _ _ e hc▸hi
  ·by_cases hcc:c'=c
   ·subst hcc;exact⟨_,hc'⟩
   ·obtain⟨w2,z2⟩:=I.cell y c' e;exact⟨w2,z2.sameBut hs hcc⟩
  ·refine K6 (I.pin p hp) λe n ne nf d=>?_;refine⟨(hs.2 p.1 ?_).trans e,n,ne,nf,d⟩;intro q;rw[q,hoc] at e;have q':oc=p.2:=bX e;exact d w' (by rw[← q'];exact hocd)
theorem ye (I:Inv X π σ H s)(hN:X.N.Nodup)(hi:X.N[i]? = some x)(hx:Loc X.env.scope x)(r:RelV v u)
  (h:∀s',Inv X π (σ.set i<|some v) H s'->Q () s') (hf:X.fn x=true\/X.env.scope.names.lookup x=some .local:=by first|exact .inl rfl|exact .inr rfl|assumption):br M A (storeName X.env x u) Q E s:=
 z9 I hN hi hx r (λs' I' _=>h s' I') hf
theorem Inv.call' (I:Inv X π σ H s)(ho:s'.os=s.os)(u:Un (frs X.stack) ch H H' s.heap s'.heap)(hok:HOk X.prog X.w H' s'.heap)(hg:rL s'.gens)
  (hch:∀b∈ch,(b∈X.ex\/X.s₀.heap.objs.size<=b)/\b≠X.env.locals/\(∀x c,X.env.cells.lookup x=some c->c≠b)/\∀p∈X.pn++π,p.1≠b):Inv X π σ H' s':=by
 obtain⟨h',g',d',t',o'⟩:=s';have e:o'=s.os:=ho;subst e;exact I.call (g':=g') (t':=t') (d':=d') u hok hg hch
end
abbrev XK:=ay->Option Addr->Hp->Prop
abbrev St:=List<|Option V
abbrev VK:=V->Hp->Prop
abbrev TE:=St->Hp->VK->Prop
abbrev TT:=St->Hp->(Bool->Hp->Prop)->Prop
abbrev TA:=St->Hp->(List V->Hp->Prop)->Prop
structure Ends where
 nx:St->Hp->Prop
 rt:VK
 bk:St->Hp->Prop:=λ_ _=>False
 ct:St->Hp->Prop:=λ_ _=>False
abbrev TS:=Ends->St->Hp->Prop
def EP (X:Cx)(π:Zl)(σ:St)(Q:VK)(u:ay)(s':aI):Prop:=∃v H',Inv X π σ H' s'/\RelV v u/\Q v H'
def TP (X:Cx)(π:Zl)(σ:St)(Q:Bool->Hp->Prop)(b:Bool)(s':aI):Prop:=∃H',Inv X π σ H' s'/\Q b H'
def AP (X:Cx)(π:Zl)(σ:St)(Q:List V->Hp->Prop)(us:List ay)(s':aI):Prop:=∃vs H',Inv X π σ H' s'/\Vals vs us/\Q vs H'
def SP (X:Cx)(π:Zl)(D:Ends)(f:Flow)(s':aI):Prop:=
 match f with
 | .next=>∃σ' H',Inv X π σ' H' s'/\D.nx σ' H'
 | .brk=>∃σ' H',Inv X π σ' H' s'/\D.bk σ' H'
 | .cont=>∃σ' H',Inv X π σ' H' s'/\D.ct σ' H'
 | .ret u=>∃v σ' H',Inv X π σ' H' s'/\RelV v u/\D.rt v H'
def PE (X:Cx)(e:Expr)(t:TE):Prop:=
 ∀(π:Zl) (s:aI) (σ:St) (H:Hp) (Q:VK),Inv X π σ H s->t σ H Q->br (b0 X.prog X.w) X.A (eval e X.env) (EP X π σ Q) X.xe s
def PT (X:Cx)(e:Expr)(t:TT):Prop:=
 ∀(π:Zl) (s:aI) (σ:St) (H:Hp) (Q:Bool->Hp->Prop),Inv X π σ H s->t σ H Q->br (b0 X.prog X.w) X.A (isTrue e X.env<|eval e X.env) (TP X π σ Q) X.xe s
def PW (X:Cx)(e:Expr)(t:TT):Prop:=
 ∀(whole:Sem ay) (π:Zl) (s:aI) (σ:St) (H:Hp) (Q:Bool->Hp->Prop),Inv X π σ H s->t σ H Q->br (b0 X.prog X.w) X.A (isTrue e X.env whole) (TP X π σ Q) X.xe s
theorem PW.pt (h:PW X e t):PT X e t:=h _
def PA (X:Cx)(es:List Expr)(t:TA):Prop:=
 ∀(pos:Pos) (π:Zl) (s:aI) (σ:St) (H:Hp) (Q:List V->Hp->Prop),Inv X π σ H s->t σ H Q->br (b0 X.prog X.w) X.A (spliced<|iq pos<|av es X.env) (AP X π σ Q) X.xe s
def PS (X:Cx)(st:Stmt)(t:TS):Prop:=
 ∀(π:Zl) (s:aI) (σ:St) (H:Hp) (D:Ends),Inv X π σ H s->t D σ H->br (b0 X.prog X.w) X.A (exec st X.env) (SP X π D) X.xe s
def PSs (X:Cx)(st:List Stmt)(t:TS):Prop:=
 ∀(π:Zl) (s:aI) (σ:St) (H:Hp) (D:Ends),Inv X π σ H s->t D σ H->br (b0 X.prog X.w) X.A (execs st X.env) (SP X π D) X.xe s
theorem thn (h:br M A t Q E s)(hQ:∀a s,Q a s->Q' a s):br M A t Q' E s:=d3 h hQ λ_ _ x=>x
section
variable {X:Cx}
def abe (i:Nat):TE:=λσ H Q=>∃v,σ[i]? = some (some v)/\Q v H
def tC (v:V):TE:=λ_ H Q=>Q v H
theorem qx (hN:X.N[i]? = some x)(hv:Vis X.env.scope x)(hd:(x==("__debug__":Str))=false:=by decide)(hcd:(x==("__classdict__":Str))=false:=by decide):PE X (.Name x pos) (abe i):=by
 intro π s σ H Q I h;obtain⟨v,e,h⟩:=h;obtain⟨m,hn,hl⟩:=I.loc;obtain⟨u,r,l⟩:=hl i x v hN e hv;have fin:EP X π σ Q u s:=⟨v,H,I,r,h⟩;rcases l with⟨hk,hm⟩|⟨hk,c,hc,hcell⟩
 ·exact wpAny_Name (wpAny_loadName_local I.ok.kind hk hn hm fin) hd
 ·rcases hk with hk|hk
  ·exact wpAny_Name (wpAny_loadName_cell I.ok.kind hk hc hcell fin) hd
  ·exact wpAny_Name (wpAny_loadName_free I.ok.kind hk hc hcell fin hcd) hd
theorem Xv:PE X (.Constant (.int i) j pos) (tC<|.int i):=λ_ _ _ H _ I h=>wpAny_Constant_int ⟨.int i,H,I.tok _,⟨_,rfl⟩,h⟩
theorem ZR:PE X (.Constant (.bool b) j pos) (tC<|.bl b):=λ_ _ _ H _ I h=>Constant_bool ⟨.bl b,H,I,rfl,h⟩
theorem Yb:PE X (.Constant .none j pos) (tC .non):=λ_ _ _ H _ I h=>Constant_none ⟨.non,H,I,rfl,h⟩
theorem Xi:PE X (.Constant (.str x) j pos) (tC<|.str x):=λ_ _ _ H _ I h=>Calls.Constant_str ⟨.str x,H,I.tok _,⟨_,rfl⟩,h⟩
def Gl (X:Cx)(x:Str):Prop:=X.env.kindOf x=some .globalImplicit
theorem qQ (I:Inv X π σ H s)(hg:Gl X x)(hm:X.mg x=some u)(h:Q u s)
  (hd:(x==("__debug__":Str))=false:=by decide):br (b0 X.prog X.w) X.A (eval (.Name x pos) X.env) Q E s:=
 qA I.ok.kind hg (Calls.loadGlobal_global (by rw[I.ok.glob];exact I.mod.glob.keeps I.bk) hm h) hd
theorem sy (I:Inv X π σ H s)(hg:Gl X x)(hm:X.mg x=none)(hv:ck x=some u)(h:Q u s)
  (hn:x≠"__name__":=by decide) (hd:(x==("__debug__":Str))=false:=by decide):br (b0 X.prog X.w) X.A (eval (.Name x pos) X.env) Q E s:=by
 obtain⟨mb,h1,h2⟩:=I.mod.blt;exact qA I.ok.kind hg (Calls.loadGlobal_builtin (by rw[I.ok.glob];exact I.mod.glob.keeps I.bk) hm (by rw[I.ok.blt];exact h1.keeps I.bk) ((h2 x hn).trans hv) h) hd
theorem Jh (hg:Gl X x)(hm:X.mg x=some u)(r:RelV v u)(hd:(x==("__debug__":Str))=false:=by decide):PE X (.Name x pos) (tC v):=
 λ_ _ _ H _ I h=>qQ I hg hm ⟨v,H,I,r,h⟩ hd
theorem J2 (hg:Gl X x)(hm:X.mg x=none)(hv:ck x=some u)(r:RelV v u)(hn:x≠"__name__":=by decide)(hd:(x==("__debug__":Str))=false:=by decide):PE X (.Name x pos) (tC v):=
 λ_ _ _ H _ I h=>sy I hg hm hv ⟨v,H,I,r,h⟩ hn hd
variable {a b:Expr}{ta tb:TE}{pos:Pos}
def PC (X:Cx)(op:CmpOp)(a b:Expr)(t:TE):Prop:=
 ∀(π:Zl) (s:aI) (σ:St) (H:Hp) (Q:VK),Inv X π σ H s->t σ H Q->
  br (b0 X.prog X.w) X.A (eval a X.env) (λv s₁=>br (b0 X.prog X.w) X.A (eval b X.env) (λu s₂=>br (b0 X.prog X.w) X.A (dk op v u) (EP X π σ Q) X.xe s₂) X.xe s₁) X.xe s
theorem Zr (b:Expr){op:CmpOp}(h:op≠.In)(h2:op≠.NotIn):iP op b=false:=by
 have e1:(op==CmpOp.In)=false:=by cases op<;>first|rfl|exact absurd rfl h
 have e2:(op==CmpOp.NotIn)=false:=by cases op<;>first|rfl|exact absurd rfl h2
 cases b<;>simp[iP,e1,e2]
def tB (t:TE):TT:=λσ H Q=>t σ H λx H1=>∃c,x=.bl c/\Q c H1
theorem WX (h:PE X e t)(he:∀whole,isTrue e X.env whole=(do let v←whole;standAt e.pos;holding [v] (truthy v)):=by intro _;rfl):PT X e (tB t):=by
 intro π s σ H Q I hw;refine isTrue_plain (thn (h π s σ H _ I hw) λv s1 hE=>xq2 hE λx H1 I1 r1 q1=>?_)<|he _;obtain⟨d,rfl,q⟩:=q1;cases r1;exact js ⟨H1,I1,q⟩
variable {tA tB':TT}{rest:List Expr}
def aaK (t u:TT):TT:=λσ H Q=>t σ H λc H1=>if c=true then u σ H1 Q else Q false H1
def tOr (t u:TT):TT:=λσ H Q=>t σ H λc H1=>if c=true then Q true H1 else u σ H1 Q
def abv (t:TT):TT:=λσ H Q=>t σ H λc H1=>Q (!c) H1
theorem RV (ha:PT X a tA):PW X (.BoolOp .And [a] pos) tA:=by
 intro wh π s σ H Q I h;refine isTrue_and<|thn (ha π s σ H Q I h) λc s1 e=>?_;cases c with
 |true=>exact isTrue_and_nil e
 |false=>exact e
theorem YD (ha:PT X a tA):PW X (.BoolOp .Or [a] pos) tA:=by
 intro wh π s σ H Q I h;refine isTrue_or<|thn (ha π s σ H Q I h) λc s1 e=>?_;cases c with
 |false=>exact isTrue_or_nil e
 |true=>exact e
theorem WL (ha:PT X a tA)(hb:PW X (.BoolOp .And (b::rest) pos) tB'):PW X (.BoolOp .And (a::b::rest) pos) (aaK tA tB'):=by
 intro wh π s σ H Q I h;refine isTrue_and<|thn (ha π s σ H _ I h) λc s1 ⟨H1,I1,q1⟩=>?_;cases c with
 |true=>exact hb wh π s1 σ H1 Q I1 q1
 |false=>exact⟨H1,I1,q1⟩
theorem aaB (ha:PT X a tA)(hb:PW X (.BoolOp .Or (b::rest) pos) tB'):PW X (.BoolOp .Or (a::b::rest) pos) (tOr tA tB'):=by
 intro wh π s σ H Q I h;refine isTrue_or<|thn (ha π s σ H _ I h) λc s1 ⟨H1,I1,q1⟩=>?_;cases c with
 |true=>exact⟨H1,I1,q1⟩
 |false=>exact hb wh π s1 σ H1 Q I1 q1
theorem YB (ha:PT X a tA):PT X (.UnaryOp .Not a pos) (abv tA):=by
 intro π s σ H Q I h;exact isTrue_not<|ha π s σ H (λc H1=>Q (!c) H1) I h
def Z6 (ta tb:TE):TE:=λσ H Q=>ta σ H λx H1=>∃c,x=.bl c/\if c=true then tb σ H1 Q else Q (.bl false) H1
def aaj (ta:TE):TE:=λσ H Q=>ta σ H λx H1=>∃c,x=.bl c/\Q (.bl<|!c) H1
theorem W2 (h:PE X a t):PE X (.BoolOp op [a] pos) t:=λπ s σ H Q I hw=>BoolOp_one<|h π s σ H Q I hw
theorem XS (ha:PE X a ta)(hb:PE X (.BoolOp .And (b::rest) pos) tb):PE X (.BoolOp .And (a::b::rest) pos) (Z6 ta tb):=by
 intro π s σ H Q I h;refine BoolOp_and<|thn (ha π s σ H _ I h) λv s1 hE=>xq2 hE λx H1 I1 r1 q1=>?_;obtain⟨c,rfl,q1⟩:=q1;cases r1;refine js ?_;cases c with
 |true=>exact hb π s1 σ H1 Q I1 q1
 |false=>exact⟨.bl false,H1,I1,rfl,q1⟩
theorem W9 (ha:PE X a ta):PE X (.UnaryOp .Not a pos) (aaj ta):=by
 intro π s σ H Q I h;refine UnaryOp_<|thn (ha π s σ H _ I h) λv s1 hE=>xq2 hE λx H1 I1 r1 q1=>?_;obtain⟨c,rfl,q1⟩:=q1;cases r1;exact not_of<|js ⟨.bl<|!c,H1,I1,rfl,q1⟩
def tIf (t:TT)(ta tb:TE):TE:=λσ H Q=>t σ H λc H1=>if c=true then ta σ H1 Q else tb σ H1 Q
theorem O5 (hc:PT X c tA)(ha:PE X a ta)(hb:PE X b tb):PE X (.IfExp c a b pos) (tIf tA ta tb):=by
 intro π s σ H Q I h;refine wpAny_IfExp<|thn (hc π s σ H _ I h) λd s1 ⟨H1,I1,q1⟩=>?_;cases d with
 |true=>exact ha π s1 σ H1 Q I1 q1
 |false=>exact hb π s1 σ H1 Q I1 q1
end
def SqL (K:a6)(H:Hp)(a:Addr)(xs:List V):Prop:=
 Rd H a (.lst xs) ∨
  ∃(o:Obj) (its:Array ay) (n:Nat),K.lookup a=some o/\o.cls=.type "list"/\o.dict=none/\o.data=.seq its n/\its.size<=ai/\Vals xs its.toList
def SqT (K:a6)(H:Hp)(a:Addr)(xs:List V):Prop:=
 Rd H a (.tup xs) ∨
  ∃(o:Obj) (its:Array ay) (n:Nat),K.lookup a=some o/\o.cls=.type "tuple"/\(o.data=.seq its n/\o.dict=none)/\its.size<=ai/\Vals xs its.toList
abbrev KTp (K:a6)(a:Addr)(xs:List V):Prop:=
  ∃(o:Obj) (its:Array ay) (n:Nat),K.lookup a=some o/\o.cls=.type "tuple"/\(o.data=.seq its n/\o.dict=none)/\its.size<=ai/\Vals xs its.toList
def SqU (K:a6)(H:Hp)(a:Addr)(xs:List V):Prop:=H a=some (.tup xs)\/KTp K a xs
theorem SqU.sq {K:a6}{H:Hp}{a:Addr}{xs:List V}(h:SqU K H a xs):SqT K H a xs:=h.elim (λe=>.inl<|.inl e) .inr
theorem SqU.of {K:a6}{H:Hp}{a:Addr}{xs:List V}(h:H a=some (.tup xs)):SqU K H a xs:=.inl h
noncomputable def aaV:ay->Option V
 | .none=>some .non
 | .bool b=>some<|.bl b
 | .int i _=>some<|.int i
 | .str x _=>some<|.str x
 | .bytes b _=>some<|.byt b
 | .float b _=>some<|.flt b
 | .ref a=>some<|.ref a
 | .type n=>some<|.ty n
 |_=>none
theorem RelV.abs (r:RelV x u):aaV u=some x:=by
 cases x with
 |non=>cases r;rfl
 |bl _=>cases r;rfl
 |int _=>obtain⟨t,rfl⟩:=r;rfl
 |str _=>obtain⟨t,rfl⟩:=r;rfl
 |byt _=>obtain⟨t,rfl⟩:=r;rfl
 |flt _=>obtain⟨t,rfl⟩:=r;rfl
 |ref _=>cases r;rfl
 |ty _=>cases r;rfl
theorem RelV.inj (r:RelV x u)(q:RelV y u):x=y:=bX<|r.abs.symm.trans q.abs
theorem Vals.inj:∀{xs ys:List V} {us:List ay},Vals xs us->Vals ys us->xs=ys
 |_,_,_,.nil,.nil=>rfl
 |_,_,_,.cons r t,.cons r' t'=>by rw[r.inj r',Vals.inj t t']
section
variable {X:Cx}{π:Zl}{σ:St}{H:Hp}{s:aI}{a:Addr}{xs ys:List V}
theorem SqL.of {K:a6}(h:H a=some (.lst xs)):SqL K H a xs:=.inl<|.inl h
theorem Inv.list (I:Inv X π σ H s)(h:SqL X.K H a xs):∃its:List ay,Vals xs its/\PlainL s.heap a its.toArray/\xs.length<=ai:=by
 rcases h with h|⟨o,its,n,hk,hc,hd,hs,hz,r⟩
 ·obtain⟨z,its,n,r,e⟩:=h.ok I.hok;exact⟨its,r,⟨_,n,e,rfl,rfl,rfl⟩,z⟩
 ·refine⟨its.toList,r,⟨o,n,I.kIn a o hk,hc,hd,by simpa using hs⟩,?_⟩;have e:=r.length;simp only[pz] at e
  lia
theorem Inv.tuple (I:Inv X π σ H s)(h:SqT X.K H a xs):∃its:List ay,Vals xs its/\AG s.heap a its.toArray/\xs.length<=ai:=by
 rcases h with h|⟨o,its,n,hk,hc,hs,hz,r⟩
 ·obtain⟨z,its,r,p⟩:=h.ok I.hok;exact⟨its,r,p.tup,z⟩
 ·refine⟨its.toList,r,⟨o,I.kIn a o hk,hc,n,by simpa using hs.1⟩,?_⟩;have e:=r.length;simp only[pz] at e
  lia
theorem Inv.yo (I:Inv X π σ H s)(h:SqL X.K H a xs)(h':SqL X.K H a ys):xs=ys:=by
 obtain⟨its,r,⟨o,n,e,_,_,d⟩,_⟩:=I.list h;obtain⟨its',r',⟨o',n',e',_,_,d'⟩,_⟩:=I.list h';rw[e] at e';cases e';rw[d] at d';injection d' with d1 _
 have:its=its':=by simpa using congrArg zi d1
 subst this;exact r.inj r'
theorem Inv.Ln (I:Inv X π σ H s)(h:SqT X.K H a xs)(h':SqT X.K H a ys):xs=ys:=by
 obtain⟨its,r,⟨o,e,_,n,d⟩,_⟩:=I.tuple h;obtain⟨its',r',⟨o',e',_,n',d'⟩,_⟩:=I.tuple h';rw[e] at e';cases e';rw[d] at d';injection d' with d1 _
 have:its=its':=by simpa using congrArg zi d1
 subst this;exact r.inj r'
end
abbrev Cx.wish (X:Cx)(E:Zs):Cx:={ X with xe:=E }
abbrev Cx.nox (X:Cx):Cx:=X.wish λ_ _=>False
theorem Cx.Ok.wish {X:Cx}(ok:X.Ok)(E:Zs):(X.wish E).Ok:=
 ⟨ok.mod,ok.kind,ok.glob,ok.blt,ok.above,ok.inj,ok.has,ok.cab,ok.hd,ok.frames,ok.stk,ok.exf,ok.bs,ok.bsz,ok.noex,ok.exfs,ok.ni,ok.frf⟩
theorem Cx.Ok.uB {X:Cx}(ok:(X.wish E).Ok):X.Ok:=
 ⟨ok.mod,ok.kind,ok.glob,ok.blt,ok.above,ok.inj,ok.has,ok.cab,ok.hd,ok.frames,ok.stk,ok.exf,ok.bs,ok.bsz,ok.noex,ok.exfs,ok.ni,ok.frf⟩
section
variable {X:Cx}{π:Zl}{σ:St}{H:Hp}{s:aI}{E:Zs}
theorem Inv.wish (I:Inv X π σ H s)(E:Zs):Inv (X.wish E) π σ H s:=⟨I.ok.wish E,I.os,I.bare,I.base,I.loc,I.cell,I.free,I.freeC,I.pin,I.hok,I.len⟩
theorem Inv.uB (I:Inv (X.wish E) π σ H s):Inv X π σ H s:=⟨I.ok.uB,I.os,I.bare,I.base,I.loc,I.cell,I.free,I.freeC,I.pin,I.hok,I.len⟩
end
section
variable {X:Cx}{st:Stmt}{rest:List Stmt}{t u:TS}{e:Expr}{te:TE}{pos:Pos}
def aah:TS:=λD σ H=>D.nx σ H
def aas (t u:TS):TS:=λD σ H=>t { D with nx:=u D } σ H
theorem R8:PSs X [] aah:=λ_ _ σ H _ I h=>kF ⟨σ,H,I,h⟩
theorem Qq (h1:PS X st t)(h2:PSs X rest u):PSs X (st::rest) (aas t u):=by
 intro π s σ H D I h;refine tj<|thn (h1 π s σ H { D with nx:=u D } I h) λf s1 q=>?_;cases f with
 |next=>
  obtain⟨σ',H',I',q⟩:=q;exact h2 π s1 σ' H' D I' q
 |ret v=>exact q
 |brk=>exact q
 |cont=>exact q
theorem JN (h1:PS X st t):PSs X [st] t:=by
 intro π s σ H D I h;refine tj<|thn (h1 π s σ H D I h) λf s1 q=>?_;cases f with
 |next=>exact kF q
 |ret v=>exact q
 |brk=>exact q
 |cont=>exact q
theorem Inv.quiet (I:Inv X π σ H s):interactive X.env=false:=by simp[interactive,I.ok.kind]
def aam (te:TE):TS:=λD σ H=>te σ H λ_ H1=>D.nx σ H1
theorem v9 (he:PE X e te)(hs:gs e none pos.line X.env=pure false:=by rfl):PS X (.Expr e pos) (aam te):=by
 intro π s σ H D I h;exact wpAny_Expr_any (thn (he π s σ H _ I h) λv s1 hE=>xq2 hE λx H1 I1 r1 q1=>⟨σ,H1,I1,q1⟩) I.quiet hs
def abF (te:TE):TS:=λD σ H=>te σ H D.rt
theorem Hj (he:PE X e te):PS X (.Return (some e) pos) (abF te):=by
 intro π s σ H D I h;exact wpAny_Return_some<|thn (he π s σ H _ I h) λv s1 hE=>xq2 hE λx H1 I1 r1 q1=>⟨x,σ,H1,I1,r1,q1⟩
def aaX (c:TT)(t u:TS):TS:=λD σ H=>c σ H λb H1=>if b=true then t D σ H1 else u D σ H1
theorem ZK (hc:PT X c tc)(ha:PSs X a t)(hb:PSs X b u):PS X (.If c a b pos) (aaX tc t u):=by
 intro π s σ H D I h;refine wpAny_If<|thn (hc π s σ H _ I h) λd s1 ⟨H1,I1,q1⟩=>?_;cases d with
 |true=>exact ha π s1 σ H1 D I1 q1
 |false=>exact hb π s1 σ H1 D I1 q1
end
abbrev TG:=V->St->Hp->(St->Hp->Prop)->Prop
abbrev TGs:=List V->St->Hp->(St->Hp->Prop)->Prop
def PG (X:Cx)(target:Expr)(t:TG):Prop:=
 ∀(π:Zl) (s:aI) (σ:St) (H:Hp) (v:V) (u:ay) (Q:St->Hp->Prop),Inv X π σ H s->RelV v u->t v σ H Q->
  br (b0 X.prog X.w) X.A (zk target X.env u) (λ_ s'=>∃σ' H',Inv X π σ' H' s'/\Q σ' H') X.xe s
def PGs (X:Cx)(ts:List Expr)(t:TGs):Prop:=
 ∀(π:Zl) (s:aI) (σ:St) (H:Hp) (vs:List V) (us:List ay) (Q:St->Hp->Prop),Inv X π σ H s->Vals vs us->t vs σ H Q->
  br (b0 X.prog X.w) X.A (assignInOrder ((iN ts X.env).map (·.2)) us) (λ_ s'=>∃σ' H',Inv X π σ' H' s'/\Q σ' H') X.xe s
section
def zJ (i:Nat):TG:=λv σ H Q=>Q (σ.set i<|some v) H
theorem SJ (hN:X.N.Nodup)(hi:X.N[i]? = some x)(hx:Loc X.env.scope x)(hf:X.fn x=true\/X.env.scope.names.lookup x=some .local:=by first|exact .inl rfl|exact .inr rfl|assumption):PG X (.Name x pos) (zJ i):=by
 intro π s σ H v u Q I r h;exact wpAny_assign_Name<|ye I hN hi hx r (λs' I'=>⟨_,H,I',h⟩) hf
def abl:TGs:=λvs σ H Q=>vs=[]/\Q σ H
def aal (t:TG)(u:TGs):TGs:=λvs σ H Q=>∃v r,vs=v::r/\t v σ H λσ' H'=>u r σ' H' Q
theorem U5:PGs X [] abl:=by
 intro π s σ H vs us Q I r h;obtain⟨e,h⟩:=h;subst e;cases r;exact assignInOrder_nil ⟨σ,H,I,h⟩
theorem Q4 (h1:PG X e t)(h2:PGs X es u)
  (hs:(iN (e::es) X.env).map (·.2)=zk e X.env::(iN es X.env).map (·.2):=by rfl):PGs X (e::es) (aal t u):=by
 intro π s σ H vs us Q I r h;obtain⟨v,vr,e1,h⟩:=h;subst e1;cases r with
 |cons r rr=>
  rw[hs];refine assignInOrder_cons<|thn (h1 π s σ H _ _ _ I r h) λ_ s1 hE=>?_;obtain⟨σ1,H1,I1,q1⟩:=hE;exact h2 π s1 σ1 H1 _ _ Q I1 rr q1
def aaN (K:a6)(n:Nat)(t:TGs):TG:=λv σ H Q=>∃a xs,v=.ref a/\SqT K H a xs/\xs.length=n/\t xs σ H Q
theorem Yu (hc:X.calm=true)(h:PGs X es t)
  (hn:(iN es X.env).length=n:=by rfl) (hst:(iN es X.env).findIdx? (·.1)=none:=by rfl):PG X (.Tuple es k pos) (aaN X.K n t):=by
 intro π s σ H v u Q I r hw;obtain⟨a,xs,e1,hq,hl,hw⟩:=hw;subst e1;cases r;obtain⟨its,rv,ht,hz⟩:=I.tuple hq;refine assign_Tuple_tuple (I.ok.hd hc) ht (by simp[hn,← hl,rv.length]) hst λh' hx=>?_;have I1:Inv X π σ H { s with heap:=h' }:=I.kept (t':=s.toks) λb o e=>hx b o (a5<|ar e) e;exact h π _ σ H xs _ Q I1 (by simpa using rv) hw
def NP (te:TE)(g:TG):TS:=λD σ H=>te σ H λx H1=>g x σ H1 D.nx
theorem X8 (he:PE X e te)(hg:PG X tg g)(hs:swapsWithSole [tg] e pos.line X.env=pure false:=by rfl)(hw:swappedStores [tg] e X.env=pure none:=by rfl)
  (h1:(iN [tg] X.env).map (·.2)=[zk tg X.env]:=by rfl):PS X (.Assign [tg] e pos) (NP te g):=by
 intro π s σ H D I h;refine wpAny_Assign_stores (thn (he π s σ H _ I h) λv s1 hE=>xq2 hE λx H1 I1 r1 q1=>?_) hs hw;rw[h1];exact thn (hg π s1 σ H1 x v _ I1 r1 q1) λ_ s2 q=>q
theorem Ao (hN:X.N.Nodup)(hi:X.N[i]? = some x)(hx:Loc X.env.scope x)(he:PE X e te)(hs:gs e (some<|.Name x pos') pos.line X.env=pure false:=by rfl)(hf:X.fn x=true\/X.env.scope.names.lookup x=some .local:=by first|exact .inl rfl|exact .inr rfl|assumption):
  PS X (.Assign [.Name x pos'] e pos) (NP te<|zJ i):=by
 intro π s σ H D I h;refine wpAny_Assign_Name (thn (he π s σ H _ I h) λv s1 hE=>xq2 hE λy H1 I1 r1 q1=>?_) hs;exact ye I1 hN hi hx r1 (λs2 I2=>⟨_,H1,I2,q1⟩) hf
end
section
def Wy (c:TT)(tb:TS):TS:=λD σ H=>∃W:Nat->St->Hp->Prop,(∃m,W m σ H)/\∀m σ H,W m σ H->
 c σ H λb H1=>if b=true then ∃N:St->Hp->Prop,(∀σ' H',N σ' H'->∃m',m'<m/\W m' σ' H')/\tb { D with nx:=N,ct:=N,bk:=D.nx } σ H1 else D.nx σ H1
theorem OD (hp:x6 (b0 X.prog X.w) X.A X.env X.xe)(hc:PT X c tc)(hb:PSs X body tb):PS X (.While c body [] pos) (Wy tc tb):=by
 intro π s σ H D I h;obtain⟨W,⟨m0,w0⟩,turn⟩:=h;refine wpAny_While<|codeAny_whileLoop (λn s'=>∃σ' H',Inv X π σ' H' s'/\W n σ' H') ?_ m0 ⟨σ,H,I,w0⟩;rintro n s1 ⟨σ1,H1,I1,w1⟩;refine jv hp<|thn (hc π s1 σ1 H1 _ I1<|turn n σ1 H1 w1) λb s2 ⟨H2,I2,q2⟩=>?_;cases b with
 |true=>
  obtain⟨N,hN,q2⟩:=q2;rw[if_pos rfl];refine jv hp<|thn (hb π s2 σ1 H2 _ I2 q2) λf s3 q3=>?_;cases f with
  |next=>
   obtain⟨σ3,H3,I3,n3⟩:=q3;obtain⟨m',hm,w3⟩:=hN σ3 H3 n3;exact⟨m',hm,σ3,H3,I3,w3⟩
  |cont=>
   obtain⟨σ3,H3,I3,n3⟩:=q3;obtain⟨m',hm,w3⟩:=hN σ3 H3 n3;exact⟨m',hm,σ3,H3,I3,w3⟩
  |brk=>exact q3
  |ret v=>exact q3
 |false=>
  rw[if_neg aw];exact kF ⟨σ1,H2,I2,q2⟩
end
structure It where
 go:Nat->Hp->Prop
 yld:Nat->Hp->V->Hp->Prop
 stop:Nat->Hp->Prop
def pC (X:Cx)(π:Zl)(H:Hp)(b:Addr):Prop:=
 H b=none/\b≠X.env.locals/\b∉X.fs/\(b∈X.ex\/X.s₀.heap.objs.size<=b)/\(∀x c,X.env.cells.lookup x=some c->c≠b)/\∀p∈X.pn++π,p.1≠b
theorem Inv.Mf (I:Inv X π σ H s)(hb:s.heap.objs.size<=b)(hn:H' b=none):pC X π H' b:=by
 refine⟨hn,l9<|bg I.lt hb,I.abC hb,.inr<|fT I.sz hb,λx c e z=>?_,λp hp z=>?_⟩
 ·obtain⟨v,q⟩:=I.cell x c e;exact absurd (bg q.lt (by rw[z];exact hb))<|eD _
 ·exact absurd (bg (ar (I.pin p hp).1) (by rw[z];exact hb))<|eD _
abbrev Calm (X:Cx):Prop:=X.calm=true
structure Turn (Cm:Cx->Prop)(P:bq)(w:dc)(K:a6)(tg:Expr)(J:It)(fp:List Addr)(it:Addr)(tn:Nat->Heap->Prop):Prop where
 mem:it∈fp
 obj:∀i h,tn i h->∀b∈fp,∃o,h.get? b=some o/\∀v,o.data≠.cell v
 keep:∀i h h',tn i h->(∀b∈fp,∀o,h.get? b=some o->h'.get? b=some o)->tn i h'
 item:∀(X:Cx),X.prog=P->X.w=w->X.K=K->Cm X->∀(i:Nat) (π:Zl) (s:aI) (σ:St) (H:Hp) (E:Zs),Inv X π σ H s->(∀b∈fp,pC X π H b)->tn i s.heap->J.go i H->
  br (b0 P w) X.A (t9 (.ref it)) (λr s1=>∃u,r=some u/\
   br (b0 P w) X.A (ua tg (.ref it) u) (λ_ s2=>∃x H',Inv X π σ H' s2/\RelV x u/\J.yld i H x H'/\tn (i+1) s2.heap/\∀b∈fp,H' b=none) E s1) E s
 done:∀(X:Cx),X.prog=P->X.w=w->X.K=K->Cm X->∀(i:Nat) (π:Zl) (s:aI) (σ:St) (H:Hp) (E:Zs),Inv X π σ H s->(∀b∈fp,pC X π H b)->tn i s.heap->J.stop i H->
  br (b0 P w) X.A (t9 (.ref it)) (λr s1=>r=none/\Inv X π σ H s1) E s
 self:∀(A:cK) (i:Nat) (s:aI) (Q:Zs) (E:Zs),tn i s.heap->Q (.ref it) s->br (b0 P w) A (AA (.ref it)) Q E s
abbrev TI:=St->Hp->(It->Hp->Prop)->Prop
def PIE (Cm:Cx->Prop)(X:Cx)(π:Zl)(σ:St)(tg:Expr)(R:It->Hp->Prop)(itv:ay)(s2:aI):Prop:=
 ∃(it:Addr) (fp:List Addr) (tn:Nat->Heap->Prop) (J:It) (H':Hp),itv=.ref it/\Inv X π σ H' s2/\Turn Cm X.prog X.w X.K tg J fp it tn/\tn 0 s2.heap/\(∀b∈fp,pC X π H' b)/\R J H'
def PI (Cm:Cx->Prop)(X:Cx)(tg iter:Expr)(wi:TI):Prop:=
 ∀(π:Zl) (s:aI) (σ:St) (H:Hp) (R:It->Hp->Prop),Inv X π σ H s->wi σ H R->
  br (b0 X.prog X.w) X.A (eval iter X.env) (λv s1=>br (b0 X.prog X.w) X.A (AA v) (PIE Cm X π σ tg R) X.xe s1) X.xe s
theorem Fb (ho : s.heap.get? it = some o) (hc : o.cls = .type n) (hd : o.data = .fields vs)
    (hn : ["enumerate", "zip", "dict_itemiterator", "dict_reverseitemiterator", "odict_iterator", "itertools.zip_longest", "itertools.pairwise"].contains n = false) (hQ : Q () s) : br M A (ua tg (.ref it) u) Q E s := by
  unfold ua;cases tg<;>first
    | exact ah hQ
    | (cases u<;>first
        | exact ah hQ
        | (refine ae (wpAny_load ho ?_)
           rw [hc, hd];show br M A (if (["enumerate", "zip", "dict_itemiterator", "dict_reverseitemiterator", "odict_iterator", "itertools.zip_longest", "itertools.pairwise"].contains n && vs[0]? == some (nc _)) = true then _ else _) Q E s;rw [if_neg (by intro h;rw [hn, Bool.false_and] at h;cases h)];exact ah hQ))
def Itl (K:a6)(a:Addr):It:=
 ⟨λi H=>∃xs x,SqL K H a xs/\xs[i]? = some x,λi H x H'=>H'=H/\∀xs,SqL K H a xs->xs[i]? = some x,λi H=>∃xs,SqL K H a xs/\xs.length<=i⟩
def Itt (K:a6)(a:Addr):It:=
 ⟨λi H=>∃xs x,SqT K H a xs/\xs[i]? = some x,λi H x H'=>H'=H/\∀xs,SqT K H a xs->xs[i]? = some x,λi H=>∃xs,SqT K H a xs/\xs.length<=i⟩
def Itr (lo:Int)(n:Nat):It:=⟨λi _=>i<n,λi H x H'=>H'=H/\x=.int (lo+i),λi _=>n<=i⟩
theorem Lb {P:bq}{w:dc}{K:a6}{tg:Expr}(a it:Addr):Turn Calm P w K tg (Itl K a) [it] it (λi h=>h.IsListIter it a i) where
 mem:=by simp
 obj:=λi h st b hb=>by
  have e:b=it:=by simpa using hb
  subst e;obtain⟨o,e,c,d⟩:=st;exact⟨o,e,λv z=>by rw[d] at z;cases z⟩
 keep:=λi h h' st k=>st.at λo e=>k it (by simp) o e
 item:=by
  intro X hP hw hK hc i π s σ H E I hf st hg;subst hP hw hK;obtain⟨xs,x,hq,hx⟩:=hg;obtain⟨its,rv,p,hz⟩:=I.list hq;obtain⟨u,hu,ru⟩:=rv.get hx;refine oZ (hf it<|by simp) λf0 f1 f2 f3 f4 f5=>?_;refine wpAny_pyNext_list_item st p.isList (x:=u) (by simpa using hu) λh' st' sb=>?_;have I1:Inv X π σ H { s with heap:=h' }:=I.turned (t':=s.toks) (λb o hb e=>(sb.2 b hb).trans e) f0 f1 f3 f4 f5;obtain⟨o,e,c,d⟩:=id st';exact⟨u,rfl,Fb (s:={ s with heap:=h' }) e c d (by decide) ⟨x,H,I1,ru,⟨rfl,λys hy=>by rw[I.yo hy hq];exact hx⟩,st',λb hb=>(hf b hb).1⟩⟩
 done:=by
  intro X hP hw hK hc i π s σ H E I hf st hg;subst hP hw hK;obtain⟨xs,hq,hx⟩:=hg;obtain⟨its,rv,p,hz⟩:=I.list hq;refine oZ (hf it<|by simp) λf0 f1 f2 f3 f4 f5=>?_;have hl:=rv.length;exact wpAny_pyNext_list_end (I.ok.hd hc) st p.isList (by simp;lia) λh' eb=>⟨rfl,I.turned (t':=s.toks) (λb o hb e=>eb b o hb e) f0 f1 f3 f4 f5⟩
 self:=λ_ _ _ _ _ st h=>wpAny_pyIter_listiter st h
theorem GC {P:bq}{w:dc}{K:a6}{tg:Expr}(a it:Addr):Turn Calm P w K tg (Itt K a) [it] it (λi h=>h.IsTupleIter it a i) where
 mem:=by simp
 obj:=λi h st b hb=>by
  have e:b=it:=by simpa using hb
  subst e;obtain⟨o,e,c,d⟩:=st;exact⟨o,e,λv z=>by rw[d] at z;cases z⟩
 keep:=λi h h' st k=>st.at λo e=>k it (by simp) o e
 item:=by
  intro X hP hw hK hc i π s σ H E I hf st hg;subst hP hw hK;obtain⟨xs,x,hq,hx⟩:=hg;obtain⟨its,rv,p,hz⟩:=I.tuple hq;obtain⟨u,hu,ru⟩:=rv.get hx;refine oZ (hf it<|by simp) λf0 f1 f2 f3 f4 f5=>?_;refine wpAny_pyNext_tuple_item st (show s.heap.IsTuple a its.toArray from p) (x:=u) (by simpa using hu) λh' st' sb=>?_;have I1:Inv X π σ H { s with heap:=h' }:=I.turned (t':=s.toks) (λb o hb e=>(sb.2 b hb).trans e) f0 f1 f3 f4 f5;obtain⟨o,e,c,d⟩:=id st';exact⟨u,rfl,Fb (s:={ s with heap:=h' }) e c d (by decide) ⟨x,H,I1,ru,⟨rfl,λys hy=>by rw[I.Ln hy hq];exact hx⟩,st',λb hb=>(hf b hb).1⟩⟩
 done:=by
  intro X hP hw hK hc i π s σ H E I hf st hg;subst hP hw hK;obtain⟨xs,hq,hx⟩:=hg;obtain⟨its,rv,p,hz⟩:=I.tuple hq;refine oZ (hf it<|by simp) λf0 f1 f2 f3 f4 f5=>?_;have hl:=rv.length;exact wpAny_pyNext_tuple_end (I.ok.hd hc) st (show s.heap.IsTuple a its.toArray from p) (by simp;lia) λh' eb=>⟨rfl,I.turned (t':=s.toks) (λb o hb e=>eb b o hb e) f0 f1 f3 f4 f5⟩
 self:=λ_ _ _ _ _ st h=>wpAny_pyIter_tupleiter st h
theorem HB {P:bq}{w:dc}{K:PySem.W.Frag}{tg:Expr}(it:Addr)(lo:Int)(n:Nat):Turn Calm P w K tg (Itr lo n) [it] it (λi h=>IsRangeIter h it (lo+(i:Nat)*1) ((n:Int)-(i:Nat)) 1) where
 mem:=by simp
 obj:=λi h st b hb=>by
  have e:b=it:=by simpa using hb
  subst e;exact⟨_,st,λv z=>by
   have z':Data.fields _=Data.cell v:=z;cases z'⟩
 keep:=λi h h' st k=>k it (by simp) _ st
 item:=by
  intro X hP hw hK hc i π s σ H E I hf st hg;subst hP hw hK;refine oZ (hf it<|by simp) λf0 f1 f2 f3 f4 f5=>?_;have W:=Walks.range (prog:=X.prog) (w:=X.w) (I.ok.hd hc) it lo 1 n;refine W.item i s _ _ hg st λv h' tk hv st' kk=>?_;obtain⟨t,rfl⟩:=hv;have I1:Inv X π σ H { s with heap:=h',toks:=tk }:=I.turned (λb o hb e=>kk b o (by simpa using hb) e) f0 f1 f3 f4 f5;refine⟨_,rfl,Fb (s:={ s with heap:=h',toks:=tk }) (n:="range_iterator") st' rfl rfl (by decide) ⟨.int<|lo+i,H,I1,⟨t,?_⟩,⟨rfl,rfl⟩,st',λb hb=>(hf b hb).1⟩⟩;rw[Int.mul_one]
 done:=by
  intro X hP hw hK hc i π s σ H E I hf st hg;subst hP hw hK;refine oZ (hf it<|by simp) λf0 f1 f2 f3 f4 f5=>?_;exact wpAny_pyNext_range_end (I.ok.hd hc) st (by have:n<=i:=hg;lia) λh' eb=>⟨rfl,I.turned (t':=s.toks) (λb o hb e=>eb b o hb e) f0 f1 f3 f4 f5⟩
 self:=λ_ _ _ _ _ st h=>wpAny_pyIter_rangeiter st h
section
variable {X:Cx}{tg:Expr}
def VJ (K:a6)(tl:TE):TI:=λσ H R=>tl σ H λx H1=>∃a,x=.ref a/\(∃xs,SqL K H1 a xs)/\R (Itl K a) H1
def aa8 (K:a6)(tl:TE):TI:=λσ H R=>tl σ H λx H1=>∃a,x=.ref a/\(∃xs,SqT K H1 a xs)/\R (Itt K a) H1
theorem Jv {l:Expr}{tl:TE}(hl:PE X l tl):PI Calm X tg l (VJ X.K tl):=by
 intro π s σ H R I h;refine thn (hl π s σ H _ I h) λv s1 hE=>xq2 hE λx H1 I1 r1 q1=>?_;obtain⟨a,e,⟨xs,hq⟩,q⟩:=q1;subst e;cases r1;obtain⟨its,rv,p,hz⟩:=I1.list hq;refine nE p.isList ?_;refine⟨s1.heap.objs.size,[s1.heap.objs.size],_,_,H1,rfl,I1.kept (t':=s1.toks) λb o e=>ag _ e,Lb a _,⟨_,aS _ rfl,rfl,rfl⟩,λb hb=>?_,q⟩;have e:b=s1.heap.objs.size:=by simpa using hb
 subst e;exact I1.Mf (aE _)<|I1.hok.fresh<|aE _
theorem Xj {l:Expr}{tl:TE}(hl:PE X l tl):PI Calm X tg l (aa8 X.K tl):=by
 intro π s σ H R I h;refine thn (hl π s σ H _ I h) λv s1 hE=>xq2 hE λx H1 I1 r1 q1=>?_;obtain⟨a,e,⟨xs,hq⟩,q⟩:=q1;subst e;cases r1;obtain⟨its,rv,p,hz⟩:=I1.tuple hq;refine wpAny_pyIter_tuple (show s1.heap.IsTuple a its.toArray from p) ?_;refine⟨s1.heap.objs.size,[s1.heap.objs.size],_,_,H1,rfl,I1.kept (t':=s1.toks) λb o e=>ag _ e,GC a _,⟨_,aS _ rfl,rfl,rfl⟩,λb hb=>?_,q⟩;have e:b=s1.heap.objs.size:=by simpa using hb
 subst e;exact I1.Mf (aE _)<|I1.hok.fresh<|aE _
theorem QK {π:Zl}{σ:St}{H:Hp}{s:aI}{R:It->Hp->Prop}{E:Zs}{lo hi:Int}{t u v:Tok}{tk:Nat}(I:Inv X π σ H s)(h1:-(2^62)<=lo)(h2:lo<2^62)(h3:-(2^62)<=hi)(h4:hi<2^62)
  (q:R (Itr lo (hi-lo).toNat) H):br (b0 X.prog X.w) X.A (AA<|.ref s.heap.objs.size) (PIE Calm X π σ tg R) E { s with heap:=s.heap.push { cls:=.type "range",data:=.fields #[.int lo t,.int hi u,.int 1 v] },toks:=tk }:=by
 refine wpAny_pyIter_range (IsRange.new ..) (small_one h1 h2 h3 h4) ?_;have I1:Inv X π σ H { s with heap:=s.heap.push { cls:=.type "range",data:=.fields #[.int lo t,.int hi u,.int 1 v] },toks:=tk }:=I.kept λb o e=>ag _ e;refine⟨(s.heap.push { cls:=.type "range",data:=.fields #[.int lo t,.int hi u,.int 1 v] }).objs.size,[(s.heap.push { cls:=.type "range",data:=.fields #[.int lo t,.int hi u,.int 1 v] }).objs.size],_,_,H,rfl,
  I1.kept (t':=tk) λb o e=>ag _ e,HB _ lo (hi-lo).toNat,?_,λb hb=>?_,q⟩
 ·have e1:lo+((0:Nat):Int)*1=lo:=by simp
  have e2:(((hi-lo).toNat:Nat):Int)-((0:Nat):Int)=Builtin.Range.rangeSize lo hi 1:=by rw[rangeSize_one];split<;>lia
  show IsRangeIter _ _ (lo+((0:Nat):Int)*1) ((((hi-lo).toNat:Nat):Int)-((0:Nat):Int)) 1;rw[e1,e2];exact aS _ rfl
 ·have e:b=(s.heap.push { cls:=.type "range",data:=.fields #[.int lo t,.int hi u,.int 1 v] }).objs.size:=by simpa using hb
  subst e;exact I1.Mf (aE _)<|I1.hok.fresh<|aE _
def ZJ (ta:TA):TI:=λσ H R=>ta σ H λvs H1=>∃j:Int,vs=[.int j]/\-(2^62)<=j/\j<2^62/\R (Itr 0 j.toNat) H1
theorem LQ (hg:Gl X "range")(hm:X.mg "range" = none)(ha:PA X [a] ta)(hs:av [a] X.env=[(false,eval a X.env)]:=by rfl):PI Calm X tg (.Call (.Name "range" p) [a] [] pos) (ZJ ta):=by
 intro π s σ H R I h;refine Call_<|sy I hg hm boot_range<|fF (thn (ha pos π s σ H _ I h) λus s1 hE=>xq2 hE λvs H1 I1 r1 q1=>?_) hs rfl;obtain⟨j,e,q1,q2,q⟩:=q1;subst e;cases r1 with
 |cons r rr=>
  cases rr;obtain⟨t,rfl⟩:=r;exact call_range_1<|QK I1 (by lia) (by lia) q1 q2<|by simpa using q
def aaY (wi:TI)(g:TG)(tb:TS):TS:=λD σ H=>wi σ H λJ H1=>∃W:Nat->Nat->St->Hp->Prop,(∃m,W 0 m σ H1)/\∀i m σ H,W i m σ H->
 (J.stop i H/\D.nx σ H)\/(J.go i H/\∃N:St->Hp->Prop,(∀σ' H',N σ' H'->∃m',m'<m/\W (i+1) m' σ' H')/\∀x H',J.yld i H x H'->g x σ H' λσ2 H2=>tb { D with nx:=N,ct:=N,bk:=D.nx } σ2 H2)
noncomputable def mJ (fp:List Addr)(h:Heap):Zl:=fp.filterMap λb=>(h.get? b).map λo=>(b,o)
theorem jG (hb:b∈fp)(e:h.get? b=some o):(b,o)∈mJ fp h:=kC.mpr ⟨b,hb,by rw[e];rfl⟩
theorem MK (hp:p∈mJ fp h):p.1∈fp/\h.get? p.1=some p.2:=by
 obtain⟨b,hb,e⟩:=kC.mp hp;cases q:h.get? b with
 |none=>rw[q] at e;cases e
 |some o=>
  rw[q] at e;have e':(b,o)=p:=bX e;subst e';exact⟨hb,q⟩
theorem Inv.pinned (I:Inv X π σ H s)(hf:∀b∈fp,pC X π H b)(ho:∀b∈fp,∃o,s.heap.get? b=some o/\∀v,o.data≠.cell v):Inv X (π++mJ fp s.heap) σ H s:=
 I.Jz λp hp=>(gT.mp hp).elim (λz=>I.pin p<|cm _ z) λz=>by
  obtain⟨hb,e⟩:=MK z;obtain⟨f0,f1,f2,_⟩:=hf p.1 hb;obtain⟨o,e',d⟩:=ho p.1 hb;rw[e] at e';cases e';exact⟨e,f0,f1,f2,d⟩
theorem Inv.pL (I:Inv X (π++pl) σ H s):Inv X π σ H s:=I.Jz λp hp=>I.pin p<|cm _<|wc _ hp
theorem Wn (hp:x6 (b0 X.prog X.w) X.A X.env X.xe){Cm:Cx->Prop}(hc:Cm X)(hi:PI Cm X tg iter wi)(hg:PG X tg g)(hb:PSs X body tb)
  (hs:∀x,eR iter X.env x=pure x:=by intro _;rfl):PS X (.For tg iter body [] pos) (aaY wi g tb):=by
 intro π s σ H D I h;refine wpAny_For (thn (hi π s σ H _ I h) λv s1 h1=>thn h1 λitv s2 h2=>?_) hs;obtain⟨it,fp,tn,J,H2,e,I2,T,st2,f2,W,⟨m0,w0⟩,turn⟩:=h2;subst e;have stat:∀{H':Hp},(∀b∈fp,H' b=none)->∀b∈fp,pC X π H' b:=λhn b hb=>⟨hn b hb,(f2 b hb).2⟩;refine codeAny_forLoop_any (λn s'=>∃i σ' H',Inv X π σ' H' s'/\tn i s'.heap/\(∀b∈fp,H' b=none)/\W i n σ' H') ?_ m0 ⟨0,σ,H2,I2,st2,λb hb=>(f2 b hb).1,w0⟩;rintro n s3 ⟨i,σ3,H3,I3,st3,fr3,w3⟩;rcases turn i n σ3 H3 w3 with⟨stop,qn⟩|⟨go,N,hN,step⟩
 ·refine jv hp<|thn (T.done X rfl rfl rfl hc i π s3 σ3 H3 X.xe I3 (stat fr3) st3 stop) λr s4 ⟨hr,I4⟩=>?_;subst hr;exact kF ⟨σ3,H3,I4,qn⟩
 ·refine jv hp<|thn (T.item X rfl rfl rfl hc i π s3 σ3 H3 X.xe I3 (stat fr3) st3 go) λr s4 ⟨u,hr,h4⟩=>?_;subst hr;refine jv hp<|thn h4 λ_ s5 hE=>?_;refine Ak hE λx H5 I5 r5 y5 st5 fr5=>?_;have I5':=I5.pinned (stat fr5)<|T.obj _ _ st5;refine jv hp<|thn (hg _ s5 σ3 H5 x u _ I5' r5<|step x H5 y5) λ_ s6 hE=>?_;obtain⟨σ6,H6,I6,q6⟩:=hE;refine jv hp<|thn (hb _ s6 σ6 H6 _ I6 q6) λf s7 q7=>?_;have AH:∀{σ7:St} {H7:Hp},Inv X (π++mJ fp s5.heap) σ7 H7 s7->N σ7 H7->∃m,m<n/\∃i σ' H',Inv X π σ' H' s7/\tn i s7.heap/\(∀b∈fp,H' b=none)/\W i m σ' H':=λ{σ7 H7} I7 n7=>by
   obtain⟨m',hm,w7⟩:=hN σ7 H7 n7;refine⟨m',hm,i+1,σ7,H7,I7.pL,T.keep _ _ _ st5 λb hb o e=>(I7.pin (b,o)<|cm _<|cm _<|jG hb e).1,λb hb=>?_,w7⟩;obtain⟨o,e,d⟩:=T.obj _ _ st5 b hb;exact(I7.pin (b,o)<|cm _<|cm _<|jG hb e).2.1
  cases f with
  |next=>obtain⟨σ7,H7,I7,n7⟩:=q7;exact AH I7 n7
  |cont=>obtain⟨σ7,H7,I7,n7⟩:=q7;exact AH I7 n7
  |brk=>obtain⟨σ7,H7,I7,q7⟩:=q7;exact⟨σ7,H7,I7.pL,q7⟩
  |ret v=>obtain⟨x7,σ7,H7,I7,r7,q7⟩:=q7;exact⟨x7,σ7,H7,I7.pL,r7,q7⟩
end
abbrev R2:=V->V->Hp->VK->Prop
def OpR (X:Cx)(f:ay->ay->Sem ay)(r:R2):Prop:=
 ∀(π:Zl) (s:aI) (σ:St) (H:Hp) (x y:V) (v u:ay) (Q:VK),Inv X π σ H s->RelV x v->RelV y u->r x y H Q->
  br (b0 X.prog X.w) X.A (f v u) (EP X π σ Q) X.xe s
def UnR (X:Cx)(f:ay->Sem ay)(r:V->Hp->VK->Prop):Prop:=
 ∀(π:Zl) (s:aI) (σ:St) (H:Hp) (x:V) (v:ay) (Q:VK),Inv X π σ H s->RelV x v->r x H Q->
  br (b0 X.prog X.w) X.A (f v) (EP X π σ Q) X.xe s
def fL (X:Cx)(f:ay)(r:List V->Hp->VK->Prop):Prop:=
 ∀(π:Zl) (s:aI) (σ:St) (H:Hp) (xs:List V) (us:List ay) (Q:VK),Inv X π σ H s->Vals xs us->r xs H Q->
  br (b0 X.prog X.w) X.A (call f us) (EP X π σ Q) X.xe s
def tOp (r:R2)(ta tb:TE):TE:=λσ H Q=>ta σ H λx H1=>tb σ H1 λy H2=>r x y H2 Q
def tUn (r:V->Hp->VK->Prop)(ta:TE):TE:=λσ H Q=>ta σ H λx H1=>r x H1 Q
def rI (C:Int->Int->Prop)(g:Int->Int->V):R2:=λx y H Q=>∃i j,x=.int i/\y=.int j/\C i j/\Q (g i j) H
def rI0 (g:Int->Int->V):R2:=λx y H Q=>∃i j,x=.int i/\y=.int j/\Q (g i j) H
def rU (g:Int->V):V->Hp->VK->Prop:=λx H Q=>∃i,x=.int i/\Q (g i) H
section
variable {X:Cx}{a b c:Expr}{ta tb tc:TE}{pos:Pos}
theorem Yv (ha:PE X a ta)(hb:PE X b tb){π:Zl}{s:aI}{σ:St}{H:Hp}{R:V->V->Hp->Prop}(I:Inv X π σ H s)
  (h:ta σ H λx H1=>tb σ H1 λy H2=>R x y H2) {Q:Zs} {f:ay->ay->Sem ay}
  (hf:∀v u s2 x y H2,Inv X π σ H2 s2->RelV x v->RelV y u->R x y H2->br (b0 X.prog X.w) X.A (f v u) Q X.xe s2):
  br (b0 X.prog X.w) X.A (eval a X.env) (λv s₁=>br (b0 X.prog X.w) X.A (eval b X.env) (λu s₂=>br (b0 X.prog X.w) X.A (f v u) Q X.xe s₂) X.xe s₁) X.xe s:=by
 refine thn (ha π s σ H _ I h) λv s1 hE=>xq2 hE λx H1 I1 r1 q1=>?_;refine thn (hb π s1 σ H1 _ I1 q1) λu s2 hE=>xq2 hE λy H2 I2 r2 q2=>?_;exact hf v u s2 x y H2 I2 r1 r2 q2
theorem Wb (ho:OpR X (h7 op) r)(ha:PE X a ta)(hb:PE X b tb):PE X (.BinOp a op b pos) (tOp r ta tb):=by
 intro π s σ H Q I h;exact wpAny_BinOp<|Yv ha hb I h λv u s2 x y H2 I2 rx ry q=>ho π s2 σ H2 x y v u Q I2 rx ry q
theorem Y8 (ho:UnR X (unaryOp op) r)(ha:PE X a ta):PE X (.UnaryOp op a pos) (tUn r ta):=by
 intro π s σ H Q I h;exact UnaryOp_<|thn (ha π s σ H _ I h) λv s1 hE=>xq2 hE λx H1 I1 r1 q1=>ho π s1 σ H1 x v Q I1 r1 q1
theorem opI {f:ay->ay->Sem ay}{C:Int->Int->Prop}{g:Int->Int->Int}
  (rule:∀(i j:Int) (t u:Tok) (s:aI) (Q:Zs) (E:Zs),C i j->Q (.int (g i j) s.toks) { s with toks:=s.toks+1 }->br (b0 X.prog X.w) X.A (f (.int i t)<|.int j u) Q E s):
  OpR X f (rI C λi j=>.int<|g i j):=by
 intro π s σ H x y v u Q I rx ry h;obtain⟨i,j,rfl,rfl,hc,q⟩:=h;obtain⟨t,rfl⟩:=rx;obtain⟨t',rfl⟩:=ry;exact rule i j t t' s _ _ hc ⟨.int<|g i j,H,I.tok _,⟨_,rfl⟩,q⟩
theorem Zj {f:ay->ay->Sem ay}{g:Int->Int->Int}
  (rule:∀(i j:Int) (t u:Tok) (s:aI) (Q:Zs) (E:Zs),Q (.int (g i j) s.toks) { s with toks:=s.toks+1 }->br (b0 X.prog X.w) X.A (f (.int i t)<|.int j u) Q E s):
  OpR X f (rI0 λi j=>.int<|g i j):=by
 intro π s σ H x y v u Q I rx ry h;obtain⟨i,j,rfl,rfl,q⟩:=h;obtain⟨t,rfl⟩:=rx;obtain⟨t',rfl⟩:=ry;exact rule i j t t' s _ _ ⟨.int<|g i j,H,I.tok _,⟨_,rfl⟩,q⟩
theorem Vb {f:ay->ay->Sem ay}{g:Int->Int->Bool}
  (rule:∀(i j:Int) (t u:Tok) (s:aI) (Q:Zs) (E:Zs),Q (.bool<|g i j) s->br (b0 X.prog X.w) X.A (f (.int i t)<|.int j u) Q E s):
  OpR X f (rI0 λi j=>.bl<|g i j):=by
 intro π s σ H x y v u Q I rx ry h;obtain⟨i,j,rfl,rfl,q⟩:=h;obtain⟨t,rfl⟩:=rx;obtain⟨t',rfl⟩:=ry;exact rule i j t t' s _ _ ⟨.bl<|g i j,H,I,rfl,q⟩
theorem Xu:OpR X (h7 .Add) (rI0 λi j=>.int<|i+j):=Zj λ_ _ _ _ _ _ _ q=>add_int q
theorem W7:OpR X (h7 .Sub) (rI0 λi j=>.int<|i-j):=Zj λ_ _ _ _ _ _ _ q=>sub_int q
theorem Uq:OpR X (h7 .Mod) (rI (λ_ j=>j≠0) λi j=>.int<|i.fmod j):=opI λ_ _ _ _ _ _ _ hc q=>mod_int' hc q
theorem unI {f:ay->Sem ay}{g:Int->Int}
  (rule:∀(i:Int) (t:Tok) (s:aI) (Q:Zs) (E:Zs),Q (.int (g i) s.toks) { s with toks:=s.toks+1 }->br (b0 X.prog X.w) X.A (f<|.int i t) Q E s):
  UnR X f (rU λi=>.int<|g i):=by
 intro π s σ H x v Q I rx h;obtain⟨i,rfl,q⟩:=h;obtain⟨t,rfl⟩:=rx;exact rule i t s _ _ ⟨.int<|g i,H,I.tok _,⟨_,rfl⟩,q⟩
theorem Yn:UnR X (unaryOp .USub) (rU λi=>.int (-i)):=unI λ_ _ _ _ _ q=>neg_int q
end
noncomputable def Zn:V->V->Bool
 | .non,.non=>true|.non,.int _=>true|.int _,.non=>true|.non,.bl _=>true|.bl _,.non=>true|.non,.str _=>true|.str _,.non=>true
 | .int _,.int _=>true|.bl _,.bl _=>true|.str _,.str _=>true|.byt _,.byt _=>true
 | .int _,.str _=>true|.str _,.int _=>true|.bl _,.str _=>true|.str _,.bl _=>true
 |_,_=>false
def rEq:R2:=λx y H Q=>Zn x y=true/\Q (.bl<|decide<|x=y) H
def rNe:R2:=λx y H Q=>Zn x y=true/\Q (.bl<|!decide (x=y)) H
theorem Ka:decide (V.int i=V.int j)=(i==j):=by
 rw[pE]
 simp
theorem Rm:decide (V.bl i=V.bl j)=(i==j):=by
 rw[pE]
 simp
theorem JC:decide (V.str i=V.str j)=(i==j):=by
 rw[pE]
 simp
theorem IV:decide (V.byt i=V.byt j)=(i.toList==j.toList):=by
 rw[pE];cases i;cases j
 simp
section
theorem cg (I:Inv X π σ H s)(q:Q (.bl k) H)(e:k=k'):EP X π σ Q (.bool k') s:=by
 subst e;exact⟨.bl k,H,I,rfl,q⟩
theorem Jb:OpR X (dk .Eq) rEq:=by
 intro π s σ H x y v u Q I rx ry h;obtain⟨hs,q⟩:=h;cases x with
 |non=>
  cases rx;cases y with
  |non=>cases ry;exact PySem.EqNone.eq_none_none<|cg I q<|by simp
  |bl j=>cases ry;exact PySem.EqNone.eq_none_bool<|cg I q<|by simp
  |int j=>obtain⟨t',rfl⟩:=ry;exact PySem.EqNone.eq_none_int<|cg I q<|by simp
  |str j=>obtain⟨t',rfl⟩:=ry;exact PySem.EqNone.eq_none_str<|cg I q<|by simp
  |_=>exact absurd (show false=true from hs) aw
 |bl i=>
  cases rx;cases y with
  |non=>cases ry;exact PySem.EqNone.eq_bool_none<|cg I q<|by simp
  |bl j=>cases ry;exact eq_bool<|cg I q Rm
  |str j=>obtain⟨t',rfl⟩:=ry;exact PySem.EqMixed.eq_bool_str<|cg I q<|by simp
  |_=>exact absurd (show false=true from hs) aw
 |int i=>
  obtain⟨t,rfl⟩:=rx;cases y with
  |non=>cases ry;exact PySem.EqNone.eq_int_none<|cg I q<|by simp
  |int j=>obtain⟨t',rfl⟩:=ry;exact eq_int<|cg I q Ka
  |str j=>obtain⟨t',rfl⟩:=ry;exact PySem.EqMixed.eq_int_str<|cg I q<|by simp
  |_=>exact absurd (show false=true from hs) aw
 |str i=>
  obtain⟨t,rfl⟩:=rx;cases y with
  |non=>cases ry;exact PySem.EqNone.eq_str_none<|cg I q<|by simp
  |bl j=>cases ry;exact PySem.EqMixed.eq_str_bool<|cg I q<|by simp
  |int j=>obtain⟨t',rfl⟩:=ry;exact PySem.EqMixed.eq_str_int<|cg I q<|by simp
  |str j=>obtain⟨t',rfl⟩:=ry;exact eq_str<|cg I q JC
  |_=>exact absurd (show false=true from hs) aw
 |byt i=>
  obtain⟨t,rfl⟩:=rx;cases y with
  |byt j=>obtain⟨t',rfl⟩:=ry;exact W.eq_bytes<|cg I q IV
  |_=>exact absurd (show false=true from hs) aw
 |_=>cases y<;>exact absurd (show false=true from hs) aw
theorem Ku:OpR X (dk .NotEq) rNe:=by
 intro π s σ H x y v u Q I rx ry h;obtain⟨hs,q⟩:=h;cases x with
 |non=>
  cases rx;cases y with
  |non=>cases ry;exact PySem.EqNone.ne_none_none<|cg I q<|by simp
  |bl j=>cases ry;exact PySem.EqNone.ne_none_bool<|cg I q<|by simp
  |int j=>obtain⟨t',rfl⟩:=ry;exact PySem.EqNone.ne_none_int<|cg I q<|by simp
  |str j=>obtain⟨t',rfl⟩:=ry;exact PySem.EqNone.ne_none_str<|cg I q<|by simp
  |_=>exact absurd (show false=true from hs) aw
 |bl i=>
  cases rx;cases y with
  |non=>cases ry;exact PySem.EqNone.ne_bool_none<|cg I q<|by simp
  |bl j=>cases ry;exact ne_bool<|cg I q<|congrArg not Rm
  |str j=>obtain⟨t',rfl⟩:=ry;exact PySem.EqMixed.ne_bool_str<|cg I q<|by simp
  |_=>exact absurd (show false=true from hs) aw
 |int i=>
  obtain⟨t,rfl⟩:=rx;cases y with
  |non=>cases ry;exact PySem.EqNone.ne_int_none<|cg I q<|by simp
  |int j=>obtain⟨t',rfl⟩:=ry;exact ne_int<|cg I q<|congrArg not Ka
  |str j=>obtain⟨t',rfl⟩:=ry;exact PySem.EqMixed.ne_int_str<|cg I q<|by simp
  |_=>exact absurd (show false=true from hs) aw
 |str i=>
  obtain⟨t,rfl⟩:=rx;cases y with
  |non=>cases ry;exact PySem.EqNone.ne_str_none<|cg I q<|by simp
  |bl j=>cases ry;exact PySem.EqMixed.ne_str_bool<|cg I q<|by simp
  |int j=>obtain⟨t',rfl⟩:=ry;exact PySem.EqMixed.ne_str_int<|cg I q<|by simp
  |str j=>obtain⟨t',rfl⟩:=ry;exact ne_str<|cg I q<|congrArg not JC
  |_=>exact absurd (show false=true from hs) aw
 |byt i=>
  obtain⟨t,rfl⟩:=rx;cases y with
  |byt j=>obtain⟨t',rfl⟩:=ry;exact W.ne_bytes<|cg I q<|congrArg not IV
  |_=>exact absurd (show false=true from hs) aw
 |_=>cases y<;>exact absurd (show false=true from hs) aw
theorem aar:OpR X (dk .Lt) (rI0 λi j=>.bl<|decide<|i<j):=Vb λ_ _ _ _ _ _ _ q=>lt_int q
theorem Y0:OpR X (dk .LtE) (rI0 λi j=>.bl<|decide<|i<=j):=Vb λ_ _ _ _ _ _ _ q=>le_int q
theorem Zt:OpR X (dk .Gt) (rI0 λi j=>.bl<|decide<|j<i):=Vb λ_ _ _ _ _ _ _ q=>gt_int q
theorem ZG:OpR X (dk .GtE) (rI0 λi j=>.bl<|decide<|j<=i):=Vb λ_ _ _ _ _ _ _ q=>ge_int q
theorem Nb:OpR X (dk .In) (λx y H Q=>∃i j,x=.str i/\y=.str j/\Q (.bl<|!(cq j i 0 j.length 1).isEmpty) H):=by
 intro π s σ H x y v u Q I rx ry h;obtain⟨i,j,rfl,rfl,q⟩:=h;obtain⟨t,rfl⟩:=rx;obtain⟨t',rfl⟩:=ry;exact in_str<|cg I q rfl
theorem cM (b:Expr){op:CmpOp}(h:op≠.In:=by decide)(h2:op≠.NotIn:=by decide):iP op b=false:=by
 have e1:(op==CmpOp.In)=false:=by cases op<;>first|rfl|exact absurd rfl h
 have e2:(op==CmpOp.NotIn)=false:=by cases op<;>first|rfl|exact absurd rfl h2
 cases b<;>simp[iP,e1,e2]
theorem Sh (ho:OpR X (dk op) r)(ha:PE X a ta)(hb:PE X b tb)(hm:iP op b=false):PE X (.Compare a [op] [b] pos) (tOp r ta tb):=by
 intro π s σ H Q I h;exact wpAny_Compare1 (Yv ha hb I h λv u s2 x y H2 I2 rx ry q=>ho π s2 σ H2 x y v u Q I2 rx ry q) hm
def ZP (t:TE):TT:=λσ H Q=>t σ H λx H'=>∃k,x=.bl k/\Q k H'
theorem Vu (ho:OpR X (dk op) r)(ha:PE X a ta)(hb:PE X b tb)(hm:iP op b=false):PT X (.Compare a [op] [b] pos) (ZP<|tOp r ta tb):=by
 intro π s σ H Q I h;refine wpAny_isTrue_Compare1 (thn (ha π s σ H _ I h) λv s1 hE=>xq2 hE λx H1 I1 r1 q1=>thn (hb π s1 σ H1 _ I1 q1) λu s2 hE=>xq2 hE λy H2 I2 r2 q2=>
  thn (ho π s2 σ H2 x y v u _ I2 r1 r2 q2) λc s3 ⟨z,H3,I3,r3,k,e,q3⟩=>?_) hm
 subst e;cases r3;exact js ⟨H3,I3,q3⟩
def Qv (r r':R2)(ta tb tc:TE):TE:=λσ H Q=>ta σ H λx H1=>tb σ H1 λy H2=>r x y H2 λz H3=>∃k,z=.bl k/\
 (if k=true then tc σ H3 λw' H4=>r' y w' H4 Q else Q (.bl false) H3)
theorem Pn (ho:OpR X (dk op) r)(ho':OpR X (dk op') r')(ha:PE X a ta)(hb:PE X b tb)(hc:PE X c tc)
  (hm:lastMarks [op,op'] [b,c]=false:=by with_unfolding_all rfl):PE X (.Compare a [op,op'] [b,c] pos) (Qv r r' ta tb tc):=by
 intro π s σ H Q I h;refine Compare_chain (thn (ha π s σ H _ I h) λv s1 hE=>xq2 hE λx H1 I1 r1 q1=>chain_link (thn (hb π s1 σ H1 _ I1 q1) λu s2 hE=>xq2 hE λy H2 I2 r2 q2=>
  thn (ho π s2 σ H2 x y v u _ I2 r1 r2 q2) λd s3 ⟨z,H3,I3,r3,k,e,q3⟩=>?_)) hm
 subst e;cases r3;refine js ?_;cases k with
 |false=>exact ite_ff ⟨.bl false,H3,I3,rfl,q3⟩
 |true=>exact ite_tt (chain_last (thn (hc π s3 σ H3 _ I3 q3) λw' s4 hE=>by obtain⟨z',H4,I4,r4,q4⟩:=hE;exact ho' π s4 σ H4 y z' u w' Q I4 r2 r4 q4))
theorem w6:(ai:Nat)<2^63:=by rw[sizeLine_eq];decide
theorem G8:OpR X (h7 .Add) (λx y H Q=>∃i j,x=.str i/\y=.str j/\i.length+j.length<=ai/\Q (.str<|i++j) H):=by
 intro π s σ H x y v u Q I rx ry h;obtain⟨i,j,rfl,rfl,hz,q⟩:=h;obtain⟨t,rfl⟩:=rx;obtain⟨t',rfl⟩:=ry;exact add_str (λt' tk=>⟨.str<|i++j,H,I.tok _,⟨_,rfl⟩,q⟩) hz
theorem vals1 (r:Vals [x] us):∃u,us=[u]/\RelV x u:=by
 cases r with
 |cons r1 r2=>cases r2;exact⟨_,rfl,r1⟩
theorem vals2 (r:Vals [x,y] us):∃u w',us=[u,w']/\RelV x u/\RelV y w':=by
 cases r with
 |cons r1 r2=>
  cases r2 with
  |cons r3 r4=>cases r4;exact⟨_,_,rfl,r1,r3⟩
theorem Og:fL X (.builtin "abs") (λxs H Q=>∃i,xs=[.int i]/\Q (.int<|if i<0 then -i else i) H):=by
 intro π s σ H xs us Q I r h;obtain⟨i,rfl,q⟩:=h;obtain⟨u,rfl,t,rfl⟩:=vals1 r;exact call_abs_int λu tk=>⟨.int<|if i<0 then -i else i,H,I.tok _,⟨_,rfl⟩,q⟩
theorem Ci:fL X (.type "str") (λxs H Q=>∃i,xs=[.int i]/\i.natAbs.log2<1920/\Q (.str<|toString i) H):=by
 intro π s σ H xs us Q I r h;obtain⟨i,rfl,hz,q⟩:=h;obtain⟨u,rfl,t,rfl⟩:=vals1 r;exact PySem.P.str_of_int hz ⟨.str _,H,I.tok _,⟨_,rfl⟩,q⟩
end
structure Yw (h:Heap)(x dx C:Addr)(mA:Zp):Prop where
 obj:h.get? x=some (W.instObj C dx)
 ns:h.Ns1 dx mA
 ne:dx≠x
theorem LC {h:Heap}(n:h.Ns1 dx mA):∃od,h.get? dx=some od/\∀name,W.lookIn name od=some (mA name):=by
 refine Qy n λo es ep ho hd hk _ hm=>?_;refine⟨o,ho,λname=>?_⟩;have e:=hm name;unfold nsFind findBy at e;rw[← Array.find?_toList] at e;unfold W.lookIn;rw[hd];dsimp only;split
 ·rename_i y q;rw[q] at e;exact congrArg some e
 ·rename_i q;rw[q] at e;have a:es.toList.any (·.refKey)=false:=by
   rw[List.any_eq_false];intro y hy;obtain⟨z,t,hkey⟩:=hk y<|Array.mem_toList_iff.mp hy;simp[DictEntry.refKey,hkey]
  have a':¬es.toList.any (·.refKey)=true:=by rw[a];exact aw
  rw[if_neg a'];exact congrArg some e
theorem Yw.look (I:Yw h x dx C mA):∃od,W.InstAt h x (W.instObj C dx) C (some od)/\∀name,W.lookIn name od=some (mA name):=
 let⟨od,ho,hl⟩:=LC I.ns
 ⟨od,⟨I.obj,rfl,rfl,ho⟩,hl⟩
section
variable {prog:bq}{w:dc}{A:cK}{E:Zs}{s:aI}{K:a6}{x dx C f:Addr}{mA:Zp}{name:Str}{v:ay}
end
theorem yh.some_of (r:yh (some v) o):∃u,o=some u/\RelV v u:=by
 cases o with
 |none=>exact(show False from r).elim
 |some u=>exact⟨u,rfl,r⟩
section
theorem RK (hok:HOk P w H h)(e:H a=some (.ins C dx fs)):∃mA,Yw h a dx C mA/\(∀f,yh (fs.lookup f)<|mA f)/\PySem.Within mA (fs.map (·.1))/\fs.length<=1000/\H dx=some (.own a):=by
 obtain⟨d,z,ne,ob,mA,n,r,q⟩:=(show cO P w H h a (.ins C dx fs) from hok a _ e);exact⟨mA,⟨ob,n,ne⟩,r,q,z,d⟩
end
structure Cls (K:a6)(C:Addr):Prop where
 pg:W.plainGet K C iS=true
 hd:W.hasDictIn K C=true
 po:W.plainOver K C=true
 sa:n9 K (.ref C) "__setattr__" = some (some (.builtin "object.__setattr__"))
theorem Cls.get {K:a6}{C:Addr}(c:Cls K C)(f:Str):W.plainGet K C f=true:=c.pg
section
variable {X:Cx}{π:Zl}{σ:St}{H:Hp}{s:aI}{a C dx:Addr}{fs:List (Str×V)}{f:Str}{v:V}{A:cK}{E:Zs}
end
section
end
section
inductive uN (K:a6)(H:Hp):V->ay->Prop where
 |non:uN K H .non (.type "NoneType")
 |bl (x:Bool):uN K H (.bl x) (.type "bool")
 |int (i:Int):uN K H (.int i) (.type "int")
 |str (x:Str):uN K H (.str x) (.type "str")
 |flt (x:UInt64):uN K H (.flt x) (.type "float")
 |lst {a:Addr} {xs:List V} (e:H a=some (.lst xs)):uN K H (.ref a) (.type "list")
 |frz {a:Addr} {o:Obj} {xs:List V} (e:H a=some (.frz o (.lst xs))):uN K H (.ref a) (.type "list")
 |tup {a:Addr} {xs:List V} (e:H a=some (.tup xs)):uN K H (.ref a) (.type "tuple")
 |dK {a:Addr} {ι:List (Key×V)} (e:Rd H a (.dK ι)):uN K H (.ref a) (.type "dict")
 |dT {a:Addr} {T:Addr->List V->Prop} {ι:List (List Kt×V)} (e:H a=some (.dT T ι)):uN K H (.ref a) (.type "dict")
 |ins {a C dx:Addr} {fs:List (Str×V)} (e:H a=some (.ins C dx fs)) (cl:Cls K C) (ha:n9 K (.ref C) "__class__" = some (some (.builtin "object.__class__")))
   (hn:W.specialIn K (.builtin "object.__class__") "__get__" = some (some (.builtin "getset_descriptor.__get__"))) (htk:W.takesIn K (.builtin "object.__class__")=some true)
   (hm:W.mroIn K C (.type "object")=some true):uN K H (.ref a) (.ref C)
theorem Ld (I:Inv X π σ H s)(rx:RelV x u)(ty:uN X.K H x t)(e:cx X.K t c=some b)(h:∀tk,Q (.bool b) { s with toks:=tk }):
  br (b0 X.prog X.w) A (call (.builtin "isinstance") [u,c]) Q E s:=by
 cases ty with
 |non=>cases(show u=dy from rx);exact ix W.kitx_none I.kIn g9 e (λz=>nomatch z) h
 |bl y=>cases(show u=y3 y from rx);exact ix W.kitx_bool I.kIn g9 e (λz=>nomatch z) h
 |int i=>obtain⟨t,q⟩:=(show ∃t,u=xC i t from rx);cases q;exact ix W.kitx_int I.kIn g9 e (λz=>nomatch z) h
 |str y=>obtain⟨t,q⟩:=(show ∃t,u=xD y t from rx);cases q;exact ix W.kitx_str I.kIn g9 e (λz=>nomatch z) h
 |flt y=>obtain⟨t,q⟩:=(show ∃t,u=Value.float y t from rx);cases q;exact ix W.kitx_float I.kIn g9 e (λz=>nomatch z) h
 | @lst a xs ea=>
  cases(show u=bE a from rx);obtain⟨_,_,n,_,h1⟩:=(show cO X.prog X.w H s.heap a (.lst xs) from I.hok a _ ea);exact ix W.kitx_list I.kIn ⟨_,h1,rfl⟩ e (λz=>nomatch z) h
 | @frz a ob xs ea=>
  cases(show u=bE a from rx);obtain⟨_,_,_,n,_,h1⟩:=(show cO X.prog X.w H s.heap a (.frz ob<|.lst xs) from I.hok a _ ea);exact ix W.kitx_list I.kIn ⟨_,h1,rfl⟩ e (λz=>nomatch z) h
 | @tup a xs ea=>
  cases(show u=bE a from rx);obtain⟨_,_,_,p⟩:=(show cO X.prog X.w H s.heap a (.tup xs) from I.hok a _ ea);obtain⟨o,h1,h2,_⟩:=p;exact ix W.kitx_tuple I.kIn ⟨o,h1,h2⟩ e (λz=>nomatch z) h
 | @dK a ι ea=>
  cases(show u=bE a from rx);obtain⟨_,_,vs,_,p⟩:=(show cO X.prog X.w H s.heap a (.dK ι) from ea.ok I.hok);refine JD p λo es ep h1 h2 _=>?_;exact ix W.kitx_dict I.kIn ⟨o,h1,h2.1⟩ e (λz=>nomatch z) h
 | @dT a T ι ea=>
  cases(show u=bE a from rx);obtain⟨_,_,xs,_,o,es,ep,h1,h2,_⟩:=(show cO X.prog X.w H s.heap a (.dT T ι) from I.hok a _ ea);exact ix W.kitx_dict I.kIn ⟨o,h1,h2.1⟩ e (λz=>nomatch z) h
 | @ins a C dx fs ea cl ha hn htk hm=>
  cases(show u=bE a from rx);obtain⟨mA,O,_⟩:=RK I.hok ea;obtain⟨od,J,_⟩:=O.look;exact ix (W.kitx_own (cl.get _) cl.hd ha hn htk hm) I.kIn J e (λz=>nomatch z) h
end
structure fB (k:Nat)(A:cK):Prop where
 hd:A.handled=none
 dp:A.depth+3*k+5<wt
 un:A.units+16*k+200<mn
 gd:A.guards=some []
theorem fB.mono (r:fB k A)(h:j<=k):fB j A:=⟨r.hd,by have:=r.dp;lia,by have:=r.un;lia,r.gd⟩
theorem fB.deeper (r:fB (k+1) A)(env:Env):fB k (A.deeper env):=
 ⟨r.hd,by have:=r.dp;show A.depth+1+3*k+5<_;lia,by have:=r.un;show A.units+3+16*k+200<_;lia,r.gd⟩
theorem fB.depth (r:fB k A):A.depth<wt:=by have:=r.dp;lia
theorem fB.units (r:fB k A):A.units+64<mn:=by have:=r.un;lia
theorem fB.PQ (r:fB k A):A.units<mn:=by have:=r.un;lia
def aaf:TA:=λ_ H Q=>Q [] H
def Q8 (ta:TE)(tr:TA):TA:=λσ H Q=>ta σ H λx H1=>tr σ H1 λxs H2=>Q (x::xs) H2
section
theorem oW:PA X [] aaf:=λ_ _ _ _ H Q I h=>sk ⟨[],H,I,.nil,h⟩
theorem iG (ha:PE X e te)(hr:PA X es t)(hs:av (e::es) X.env=(false,eval e X.env)::av es X.env:=by rfl):PA X (e::es) (Q8 te t):=by
 intro pos π s σ H Q I h;rw[hs];show br _ _ (spliced ((false,eval e X.env)::iq pos (av es X.env))) _ _ s;refine mw<|thn (ha π s σ H _ I h) λu s1 hE=>xq2 hE λx H1 I1 r1 q1=>?_;exact thn (hr pos π s1 σ H1 _ I1 q1) λus s2 hE=>xq2 hE λxs H2 I2 r2 q2=>⟨x::xs,H2,I2,.cons r1 r2,q2⟩
def aa2 (t:TA):TE:=λσ H Q=>t σ H λxs H1=>xs.length<=ai/\∀p,H1 p=none->Q (.ref p) (upd H1 p<|.tup xs)
def abz (t:TA):TE:=λσ H Q=>t σ H λxs H1=>xs.length<=ai/\∀p,H1 p=none->Q (.ref p) (upd H1 p<|.lst xs)
theorem YF (h:PA X es t):PE X (.Tuple es x1 pos) (aa2 t):=by
 intro π s σ H Q I hq;refine wpAny_Tuple_spliced<|thn (h pos π s σ H _ I hq) λus s1 ⟨xs,H1,I1,r,z,q⟩=>⟨by rw[← r.length];exact z,?_⟩;have hf:H1 s1.heap.objs.size=none:=I1.hok.fresh<|aE _;refine⟨.ref s1.heap.objs.size,upd H1 s1.heap.objs.size<|.tup xs,I1.laid (t':=s1.toks) (λb u e=>ag _ e) (aE _) ?_,rfl,q _ hf⟩;exact⟨z,us,r,⟨_,aS _ rfl,rfl,_,rfl,rfl⟩⟩
theorem YG (h:PA X es t):PE X (.List es pos) (abz t):=by
 intro π s σ H Q I hq;refine wpAny_List_spliced<|thn (h pos π s σ H _ I hq) λus s1 ⟨xs,H1,I1,r,z,q⟩=>⟨by rw[← r.length];exact z,?_⟩;have hf:H1 s1.heap.objs.size=none:=I1.hok.fresh<|aE _;refine⟨.ref s1.heap.objs.size,upd H1 s1.heap.objs.size<|.lst xs,I1.laid (t':=s1.toks) (λb u e=>ag _ e) (aE _) ?_,rfl,q _ hf⟩;exact⟨z,us,0,r,aS _ rfl⟩
end
abbrev Sp:=List V->Hp->VK->XK->Prop
abbrev CXT:=List Env->Hp->aI->XK->Zs
structure Hh (P:bq)(w:dc)(K:a6)(mg:Zp)(base:Heap)(A:cK)(outer:List Env)(s:aI)(H:Hp):Prop where
 frames:A.frames=some outer
 mod:Mod K mg base
 bs:∀b o,base.get? b=some o->s.heap.get? b=some o/\H b=none
 bsz:base.objs.size<=s.heap.objs.size
 ni:s.heap.FunFrames base outer
 frf:∀b∈frs outer,H b=none
 hok:HOk P w H s.heap
 bare:rL s.gens
def CE (outer:List Env)(P:bq)(w:dc)(H:Hp)(s:aI)(Q:VK)(u:ay)(s':aI):Prop:=
 ∃v H',s'.os=s.os/\rL s'.gens/\Un (frs outer) [] H H' s.heap s'.heap/\HOk P w H' s'.heap/\RelV v u/\Q v H'
def CR (CX:CXT)(outer:List Env)(P:bq)(w:dc)(H:Hp)(s:aI)(Q:VK)(E:XK)(r:Result)(s':aI):Prop:=
 match r with
 | .ok (.ret u)=>CE outer P w H s Q u s'
 | .ok _=>False
 | .error e=>CX outer H s E e s'
structure dF (P:bq)(w:dc)(K:a6)(mg:Zp)(base:Heap)(CX:CXT)(k:Nat)(f:Addr)(fd:gc)(ps:List Str)(sp:Sp):Prop where
 len:∀vs H Q E,sp vs H Q E->vs.length=ps.length
 run:∀(A:cK) (outer:List Env) (s:aI) (H:Hp) (args:Args) (us:List ay) (vs:List V) (Q:VK) (E:XK),fB k A->Hh P w K mg base A outer s H->y4 s fd args (ps.zip us)->Vals vs us->sp vs H Q E->
  pS (b0 P w) A (.call (.ref f) args) (CR CX outer P w H s Q E) s
theorem dF.imp {P:bq}{w:dc}{K:a6}{mg:Zp}{base:Heap}{CX:CXT}{k:Nat}{f:Addr}{fd:gc}{ps:List Str}{sp sp':Sp}(F:dF P w K mg base CX k f fd ps sp)
  (h:∀vs H Q E,sp' vs H Q E->sp vs H Q E):dF P w K mg base CX k f fd ps sp':=
 ⟨λvs H Q E q=>F.len vs H Q E<|h _ _ _ _ q,λA outer s H args us vs Q E hr he hb hv hs=>F.run A outer s H args us vs Q E hr he hb hv<|h _ _ _ _ hs⟩
section
theorem Inv.env0 (I:Inv X π σ H s):Hh X.prog X.w X.K X.mg X.base X.A X.stack s H:=
 ⟨I.ok.frames,I.ok.mod,I.bs,fT I.ok.bsz I.sz,I.stack,I.BR,I.hok,I.bare⟩
theorem Inv.after (I:Inv X π σ H s)(h:CE X.stack X.prog X.w H s Q u s'):EP X π σ Q u s':=by
 refine Rg h λv H' os bare un hok r q=>?_;obtain⟨hh,g,d,t,os'⟩:=s';obtain rfl:os'=s.os:=os;exact⟨v,H',I.call (h':=hh) (g':=g) (d':=d) (t':=t) (ch:=[]) un hok bare λb z=>absurd z (by simp),r,q⟩
end
def Y4 (sp:Sp)(dvs:List V)(E:XK)(t:TA):TE:=λσ H Q=>t σ H λvs H1=>sp (vs++dvs) H1 Q E
def Binds (K:a6)(fd:gc)(ps:List Str)(ds:List ay):Prop:=
 ∀(s:aI) (us:List ay),K.In s.heap->(us++ds).length=ps.length->y4 s fd ⟨us,[]⟩ (ps.zip<|us++ds)
theorem Binds.all {K:a6}{fd:gc}{ps:List Str}(h:∀us:List ay,us.length=ps.length->bindArgs fd ⟨us,[]⟩=pure (ps.zip us)):Binds K fd ps []:=λs us _ hl=>by
 rw[cw] at hl ⊢;exact .of_eq<|h us hl
def Passes (CX:CXT)(X:Cx)(E:XK):Prop:=∀(π:Zl) (σ:St) (H:Hp) (s:aI) (e:ay) (s':aI),Inv X π σ H s->CX X.stack H s E e s'->X.xe e s'
section
variable {X:Cx}{CX:CXT}{k:Nat}{f C:Addr}{fd:gc}{ps:List Str}{sp:Sp}{dvs:List V}{ds:List ay}{E:XK}{x m:Str}{p pos apos:Pos}{e o:Expr}{es:List Expr}{ta:TE}{t:TA}
theorem Yd (F:dF X.prog X.w X.K X.mg X.base CX k f fd ps sp)(hr:fB k X.A)(hb:Binds X.K fd ps ds)(hd:Vals dvs ds)(hx:Passes CX X E)
  (I:Inv X π σ H s) (r:Vals vs us) (h:sp (vs++dvs) H Q E):br (b0 X.prog X.w) X.A (call (.ref f) us) (EP X π σ Q) X.xe s:=by
 have r2:Vals (vs++dvs) (us++ds):=r.append hd;have hl:(us++ds).length=ps.length:=by rw[← r2.length];exact F.len _ _ _ _ h
 refine wpAny_call<|rh (F.run X.A X.stack s H ⟨us,[]⟩ (us++ds) (vs++dvs) Q E hr I.env0 (hb s us I.kIn hl) r2 h) λr s' hq=>?_;cases r with
 |error e=>exact hx π σ H s e s' I hq
 |ok fl=>
  cases fl with
  |ret u=>exact I.after hq
  |next=>exact ff hq
  |brk=>exact ff hq
  |cont=>exact ff hq
theorem IK (F:dF X.prog X.w X.K X.mg X.base CX k f fd ps sp)(hr:fB k X.A)(hg:Gl X x)(hm:X.mg x=some (.ref f))(hk:sD X.K (.ref f)=true)(hb:Binds X.K fd ps ds)(hd:Vals dvs ds)(hx:Passes CX X E)
  (ha:PA X (e::es) t) (hdb:(x==("__debug__":Str))=false:=by decide) (he:av (e::es) X.env=(false,eval e X.env)::av es X.env:=by rfl) (ζ:(iq pos<|av es X.env).any (·.1)=false:=by rfl):
  PE X (.Call (.Name x p) (e::es) [] pos) (Y4 sp dvs E t):=by
 intro π s σ H Q I h;refine hG<|qQ I hg hm ?_ hdb;refine zo (h₀:=X.base) I.ok.mod.kin hk (thn (ha pos π s σ H _ I h) λus s1 hE=>xq2 hE λvs H1 I1 r q=>⟨I1.kIn,?_⟩) he ζ;exact Yd F hr hb hd hx I1 r q
end
section
end
structure bx (N P:List Str)(sc:l0):Prop where
 kind:sc.kind=.function
 co:sc.isCoroutine=false
 gen:sc.isGenerator=false
 nd:N.Nodup
 pre:N.take P.length=P
 par:∀x∈P,sc.names.lookup x=some .local\/sc.names.lookup x=some .cell
 nofree:∀y∈sc.names,y.2≠.free
theorem Am {so:Str->Option sF}{x:Str}:∀{binds:List (Str×ay)} {m:Zp},(∀v,(x,v)∉binds)->AI so binds m x=m x
 |[],_,_=>rfl
 |(n,v)::r,m,h=>by
  unfold AI;rw[Am λw hw=>h w<|be _ hw];split
  ·have:x≠n:=by rintro rfl;exact h v cy
   simp[this]
  ·rfl
theorem zH {so:Str->Option sF}{x:Str}:∀{binds:List (Str×ay)} {m:Zp},(∀v,(x,v)∉binds)->AJ so binds m x=m x
 |[],_,_=>rfl
 |(n,v)::r,m,h=>by
  unfold AJ;rw[zH λw hw=>h w<|be _ hw];split
  ·rfl
  ·have:x≠n:=by rintro rfl;exact h v cy
   simp[this]
theorem Ae {so:Str->Option sF}{x:Str}{v:ay}:∀{P:List Str} {vs:List ay} {i:Nat} {m:Zp},P.Nodup->P[i]? = some x->vs[i]? = some v->so x=some .local->
  AI so (P.zip vs) m x=some v
 |[],_,_,_,_,h,_,_=>by simp at h
 |_::_,[],_,_,_,_,h,_=>by simp at h
 |p::P,w::vs,0,m,nd,h1,h2,hk=>by
  simp at h1 h2;subst h1;subst h2;show AI so ((p,w)::P.zip vs) m p=_;unfold AI;rw[Am λv hv=>(pT.mp nd).1 (pV hv).1,if_pos hk]
  simp
 |p::P,w::vs,i+1,m,nd,h1,h2,hk=>by
  show AI so ((p,w)::P.zip vs) m x=_;unfold AI;exact Ae (i:=i) (pT.mp nd).2 (by simpa using h1) (by simpa using h2) hk
theorem zM {so:Str->Option sF}{x:Str}{v:ay}:∀{P:List Str} {vs:List ay} {i:Nat} {m:Zp},P.Nodup->P[i]? = some x->vs[i]? = some v->so x≠some .local->
  AJ so (P.zip vs) m x=some v
 |[],_,_,_,_,h,_,_=>by simp at h
 |_::_,[],_,_,_,_,h,_=>by simp at h
 |p::P,w::vs,0,m,nd,h1,h2,hk=>by
  simp at h1 h2;subst h1;subst h2;show AJ so ((p,w)::P.zip vs) m p=_;unfold AJ;rw[zH λv hv=>(pT.mp nd).1 (pV hv).1,if_neg hk]
  simp
 |p::P,w::vs,i+1,m,nd,h1,h2,hk=>by
  show AJ so ((p,w)::P.zip vs) m x=_;unfold AJ;exact zM (i:=i) (pT.mp nd).2 (by simpa using h1) (by simpa using h2) hk
noncomputable def start (N:List Str)(vs:List V):St:=vs.map some++aT (N.length-vs.length) none
noncomputable def j7 (CX:CXT)(P:bq)(w:dc)(K:a6)(mg:Zp)(base:Heap)(N:List Str)(qual:Str)(scope:l0)(f:Addr)(cd:ay)(A:cK)(outer:List Env)(s:aI)(H:Hp)(E:XK):Cx where
 prog:=P
 w:=w
 K:=K
 mg:=mg
 base:=base
 A:=A.deeper<|rj qual scope s.heap.objs.size f cd
 N:=N
 s₀:=s
 H₀:=H
 env:=rj qual scope s.heap.objs.size f cd
 outer:=outer
 stack:=rj qual scope s.heap.objs.size f cd::outer
 ex:=[]
 calm:=true
 fn:=λ_=>true
 pn:=[]
 xe:=λe s'=>br (b0 P w) (A.deeper<|rj qual scope s.heap.objs.size f cd) (y6 (rj qual scope s.heap.objs.size f cd) e) (λ_ s''=>CX outer H s E e s'') (λe' s''=>CX outer H s E e' s'') s'
theorem Gg {sc:l0}(h:sc.names.lookup x=some .cell):∃c,(x8 n sc.names []).lookup x=some c:=by
 have q:=tm sc.names n []<|.inl h;exact Option.isSome_iff_exists.mp q
theorem zX {CX:CXT}{P:bq}{w:dc}{K:a6}{mg:Zp}{base:Heap}{N ps:List Str}{qual:Str}{scope:l0}{f:Addr}{cd:ay}{A:cK}{outer:List Env}{s s1:aI}{H:Hp}{E:XK}{us:List ay}{vs:List V}
  (S:bx N ps scope) (hd:A.handled=none) (e0:Hh P w K mg base A outer s H) (hl:vs.length=ps.length) (r:Vals vs us)
  (x:InCallC s s.heap.objs.size (AI (rj qual scope s.heap.objs.size f cd).kindOf (ps.zip us) λ_=>none) (x8 (s.heap.objs.size+1) scope.names []) (AJ (rj qual scope s.heap.objs.size f cd).kindOf (ps.zip us) λ_=>none) s1):
  Inv (j7 CX P w K mg base N qual scope f cd A outer s H E) [] (start N vs) H s1:=by
 have ζ:ps.length<=N.length:=by have:=congrArg sL S.pre;rw[lP] at this;lia
 obtain⟨h1,tk,rfl,hk⟩:=x.done;have noA:∀b:Addr,b∉(j7 CX P w K mg base N qual scope f cd A outer s H E).ex:=λb z=>absurd (show b∈([]:List Addr) from z) (by simp);refine⟨⟨e0.mod,S.kind,rfl,rfl,aE _,λy z c h1 h2=>?_,λy hy=>?_,λy c _ h=>?_,λ_=>hd,we e0.frames,.inr ⟨rfl,rfl⟩,λb z=>absurd z<|noA b,e0.bs,e0.bsz,λb _ _=>noA b,λb z=>absurd z<|noA b,e0.ni,e0.frf⟩,
  rfl,e0.bare,Un.kept hk,⟨_,x.toInCall.ns,λi y v h1 h2 h3=>?_⟩,λy c h=>⟨_,x.cell y c h⟩,e0.hok.fresh<|aE _,λy c h=>?_,λp hp=>absurd (show p∈([]:Zl) from hp) (by simp),e0.hok.kept hk,?_⟩
 ·exact name_of_addr x.apart (ki h1)<|ki h2
 ·have hy:scope.names.lookup y=some .cell\/scope.names.lookup y=some .free:=hy;rcases hy with hy|hy
  ·exact Gg hy
  ·exact absurd rfl<|S.nofree _<|ki hy
 ·exact zh<|x.above y c<|ki h
 ·have hi:i<vs.length:=by
   unfold start at h2;by_cases hi:i<vs.length
   ·exact hi
   ·rw[cE<|by simpa using hi] at h2;rw[eS] at h2;split at h2<;>cases h2
  have ha:vs[i]? = some v:=by
   unfold start at h2;rw[b6 (by simpa using hi),dP] at h2;cases e:vs[i]? with
   |none=>rw[e] at h2;cases h2
   |some a=>rw[e] at h2;cases h2;rfl
  obtain⟨u,hu,rv⟩:=r.get ha;have hp:ps[i]? = some y:=by
   rw[← S.pre,List.getElem?_take_of_lt<|by lia];exact h1
  have ndP:ps.Nodup:=by rw[← S.pre];exact S.nd.sublist<|List.take_sublist _ _
  refine⟨u,rv,?_⟩;rcases S.par y (fN hp) with k|k
  ·exact .inl ⟨k,Ae ndP hp hu k⟩
  ·obtain⟨c,e⟩:=Gg (n:=s.heap.objs.size+1) k;refine .inr ⟨.inl k,c,e,?_⟩;have q:=x.cell y c e;rw[zM ndP hp hu (by show scope.names.lookup y≠_;rw[k];decide)] at q;exact q
 ·exact e0.hok.fresh<|zh<|x.above y c<|ki h
 ·unfold start;show _=N.length;rw[a9,cp,kH]
  lia
theorem Z0 {CX:CXT}{P:bq}{w:dc}{K:a6}{mg:Zp}{base:Heap}{k:Nat}{f:Addr}{name qual:Str}{params:Arguments}{body:List Stmt}{scope:l0}{dV kV doc pm cdv ct oc:ay}{an od:Option Addr}
  {osl:Array (Option ay)} {N ps:List Str} {sp:Sp} (lk:K.lookup f=some ⟨oc,od,.func<|w4 name qual params body scope dV kV doc pm an cdv ct,osl⟩) (hcd:z0 K cdv qual=true) (S:bx N ps scope)
  (len:∀vs H Q E,sp vs H Q E->vs.length=ps.length)
  (hbody:∀(A:cK) (outer:List Env) (s:aI) (H:Hp) (vs:List V) (Q:VK) (E:XK),fB k (A.deeper<|rj qual scope s.heap.objs.size f cdv)->sp vs H Q E->
   ∃t,PSs (j7 CX P w K mg base N qual scope f cdv A outer s H E) body t/\t { nx:=λ_ H'=>Q .non H',rt:=Q } (start N vs) H):
  dF P w K mg base CX (k+1) f (w4 name qual params body scope dV kV doc pm an cdv ct) ps sp:=by
 refine⟨len,λA outer s H args us vs Q E hr e0 hb r hsp=>?_⟩;have hl:=len _ _ _ _ hsp;have KX:K.In s.heap:=e0.mod.kin.keeps λb o e=>(e0.bs b o e).1;have lim:s.heap.NoLimit:=e0.mod.nolimit.keeps λb o e=>(e0.bs b o e).1;have hkind:∀y∈ps.zip us,scope.names.lookup y.1=some .local\/(scope.names.lookup y.1=some .cell/\((x8 (s.heap.objs.size+1) scope.names []).lookup y.1).isSome=true):=λ⟨n,v⟩ hy=>by
  rcases S.par n (pV hy).1 with q|q
  ·exact .inl q
  ·exact .inr ⟨q,tm _ _ _<|.inl q⟩
 refine codeAny_call_function hr.depth (KX _ _ lk) rfl S.co S.gen rfl (W.codeRec_of KX hcd)<|hb _ _ _ _ ?_;refine qB S.kind hkind λenv he s1 x=>?_;subst he;refine⟨lim.keeps x.toInCall.keep,codeAny_func ?_⟩;obtain⟨t,ht,hq⟩:=hbody A outer s H vs Q E (hr.deeper _) hsp;have I:Inv (j7 CX P w K mg base N qual scope f cdv A outer s H E) [] (start N vs) H s1:=zX S hr.hd e0 hl r x;refine d3 (ht [] s1 (start N vs) H _ I hq) (λfl s' hs=>?_) λe s' hs=>hs;have fin:∀{σ':St} {H':Hp} {v:V} {u:ay},Inv (j7 CX P w K mg base N qual scope f cdv A outer s H E) [] σ' H' s'->RelV v u->Q v H'->CE outer P w H s Q u s':=
  λ{σ' H' v u} J rv q=>⟨v,H',J.os,J.bare,J.base,J.hok,rv,q⟩
 cases fl with
 |ret u=>
  refine JD hs λv σ' H' J rv q=>?_;exact fin J rv q
 |next=>
  obtain⟨σ',H',J,q⟩:=hs;exact fin (v:=V.non) (u:=dy) J rfl q
 |brk=>
  obtain⟨_,_,_,q⟩:=hs;exact ff q
 |cont=>
  obtain⟨_,_,_,q⟩:=hs;exact ff q
section
variable {X:Cx}{x:Str}{p pos:Pos}{e:Expr}{es:List Expr}{t:TA}{id T:String}{r:List V->Hp->VK->Prop}
def tCB (r:List V->Hp->VK->Prop)(t:TA):TE:=λσ H Q=>t σ H λvs H1=>r vs H1 Q
theorem t7 (hc:fL X (.builtin id) r)(hg:Gl X x)(hm:X.mg x=none)(hv:ck x=some (.builtin id))(ha:PA X (e::es) t)(hn:x≠"__name__":=by decide)(hdb:(x==("__debug__":Str))=false:=by decide)
  (he:av (e::es) X.env=(false,eval e X.env)::av es X.env:=by rfl) (ζ:(iq pos<|av es X.env).any (·.1)=false:=by rfl):PE X (.Call (.Name x p) (e::es) [] pos) (tCB r t):=by
 intro π s σ H Q I h;refine hG<|sy I hg hm hv ?_ hn hdb;exact PyProof.Rows.callWith_builtin1 (thn (ha pos π s σ H _ I h) λus s1 hE=>xq2 hE λvs H1 I1 r1 q1=>hc π s1 σ H1 vs us Q I1 r1 q1) he ζ
theorem uT (hc:fL X (.type T) r)(hg:Gl X x)(hm:X.mg x=none)(hv:ck x=some (.type T))(ha:PA X (e::es) t)(hn:x≠"__name__":=by decide)(hdb:(x==("__debug__":Str))=false:=by decide)
  (he:av (e::es) X.env=(false,eval e X.env)::av es X.env:=by rfl) (ζ:(iq pos<|av es X.env).any (·.1)=false:=by rfl):PE X (.Call (.Name x p) (e::es) [] pos) (tCB r t):=by
 intro π s σ H Q I h;refine hG<|sy I hg hm hv ?_ hn hdb;exact fF (thn (ha pos π s σ H _ I h) λus s1 hE=>xq2 hE λvs H1 I1 r1 q1=>hc π s1 σ H1 vs us Q I1 r1 q1) he ζ
end
end L2
namespace HT
open PySem PyProof.Rows
theorem aau (A:cK)(s:aI)(a:Int)(t:Tok)(c:Int)(u:Tok):∃e,y2 A s (.int a t) (.int c u) e/\(e=true↔a=c):=
 ⟨(a==c),x9 a t c u,by simp⟩
theorem Zy (A:cK)(s:aI)(a:Int)(t:Tok)(c:Int)(u:Tok)(prog:bq)(w:dc)(E:Zs)(Q:Zs)(h:Q (.bool<|decide<|a<c) s):
  br (b0 prog w) A (richCompare .Lt (.int a t)<|.int c u) Q E s:=
 (PyProof.Rows.lt_int h:br (b0 prog w) A (dk .Lt (.int a t)<|.int c u) Q E s)
section
open PySem.SeqAt
open PySem.AutoSeq1 (wpAny_loadPart')
open PySem.MeetsSeq PySem.MeetsSeq2 PySem.MeetsSeq3
end
section
variable {prog:bq}{w:dc}{A:cK}{E:Zs}{s:aI}
theorem R7 (ht:AG s.heap t vs.toArray)(hb:AG s.heap b ws.toArray)(hv:vs≠[])
  (h1:ws=[]->Q (.ref t) s) (h2:ws≠[]->Q (.ref s.heap.objs.size) { s with heap:=s.heap.push { cls:=.type "tuple",data:=.seq (vs++ws).toArray } })
  (hsz:vs.length+ws.length<=ai):br (b0 prog w) A (h7 .Add (.ref t)<|.ref b) Q E s:=by
 obtain⟨⟨cls,dd,data,sl⟩,ho,hc,n,hd⟩:=id ht;obtain⟨⟨cls2,dd2,data2,sl2⟩,ho2,hc2,n2,hd2⟩:=id hb;simp only at hc hd hc2 hd2;subst hc hd hc2 hd2;have e:vs.toArray++ws.toArray=(vs++ws).toArray:=by simp
 by_cases hw:ws=[]
 ·exact ub ⟨_,ho,rfl⟩ ⟨_,ho2,rfl⟩ tq ya nh mx (ma _ _)
   (tuple_addW1 t b vs.toArray ws.toArray n n2 dd dd2 sl sl2 (by simpa using hv) (by simp[hw])) ⟨ho,ho2,h1 hw⟩
 ·refine ub ⟨_,ho,rfl⟩ ⟨_,ho2,rfl⟩ tq ya nh mx (ma _ _)
   (tuple_addW2 t b vs.toArray ws.toArray n n2 dd dd2 sl sl2 (by simpa using hv) (by simpa using hw) (by rw[a8,a8];exact hsz)) ⟨ho,ho2,?_⟩
  rw[e];exact h2 hw
noncomputable def sIx (n d:Nat):Option Int->Nat
 |none=>d
 |some v=>if v<0 then(v+(n:Int)).toNat else min v.toNat n
theorem WW (n d:Nat)(hd:d<=n)(o:Option Int):sIx n d o<=n:=by
 cases o with
 |none=>exact hd
 |some v=>
  show(if v<0 then(v+(n:Int)).toNat else min v.toNat n)<=n;by_cases hv:v<0
  ·rw[if_pos hv];lia
  ·rw[if_neg hv];exact Nat.min_le_right _ _
theorem JT (v:Int)(n d:Nat):(if v<0 then max (v+(n:Int)) 0 else min v (n:Int))=((sIx n d (some v):Nat):Int):=by
 show(if v<0 then max (v+(n:Int)) 0 else min v (n:Int))=(((if v<0 then(v+(n:Int)).toNat else min v.toNat n):Nat):Int);by_cases hv:v<0
 ·simp only[if_pos hv];lia
 ·simp only[if_neg hv];lia
theorem Gz (lo hi:Option Int)(n:Nat):lh lo hi 1 (n:Int)=(((sIx n 0 lo:Nat):Int),((sIx n n hi:Nat):Int)):=by
 have h1:¬((1:Int)<0):=by lia
 unfold lh;simp only[h1,if_false];refine Prod.ext ?_ ?_
 ·cases lo with
  |none=>rfl
  |some v=>exact JT v n 0
 ·cases hi with
  |none=>rfl
  |some v=>exact JT v n n
theorem Hv (i j:Nat):i8 (i:Int) (j:Int) 1=j-i:=by
 unfold i8;have h1:(1:Int)>0:=by lia
 simp only[h1,if_true,Int.ediv_one];split<;>lia
theorem yz (p:zt v o)(h:Q o s):br (b0 prog w) A (Builtin.Slice.slicePartIndex v) Q E s:=by
 cases p with
 |none=>exact slicePart_none h
 |int i t=>exact slicePart_int h
theorem uV {sl:Addr}{vl vu:ay}{lo hi:Option Int}{n:Nat}{Q:Int×Int×Nat->aI->Prop}(hs:s.heap.IsSliceOf sl vl vu .none)(pl:zt vl lo)(pu:zt vu hi)
  (h:Q (((sIx n 0 lo:Nat):Int),1,sIx n n hi-sIx n 0 lo) s):br (b0 prog w) A (qE (.ref sl)<|pure (n:Int)) Q E s:=by
 obtain⟨os,hos,hcs,hds⟩:=id hs;unfold qE Builtin.Slice.sliceFields;refine ae<|ae<|eB hos hds (x:=vl) rfl<|ae<|eB hos hds (x:=vu) rfl<|ae<|eB hos hds (x:=.none) rfl<|ah ?_;refine ae<|slicePart_none ?_;show br _ _ (if((1:Int)==0)=true then _ else _) _ _ s;rw[if_neg<|by decide];refine ae<|yz pl<|ae<|yz pu<|ae<|ah ?_;show br _ _ (match lh lo hi 1 (n:Int) with|(lo,hi)=>pure (lo,(1:Int),i8 lo hi 1)) _ _ s;rw[Gz lo hi n];show br _ _ (pure (((sIx n 0 lo:Nat):Int),(1:Int),i8 ((sIx n 0 lo:Nat):Int) ((sIx n n hi:Nat):Int) 1)) _ _ s;rw[Hv];exact ah h
theorem QH (xs:Array ay)(i k:Nat):((ip k).filterMap λ(m:Nat)=>xs[((i:Int)+(m:Int)*1).toNat]?).toArray=((xs.toList.drop i).take k).toArray:=by
 have e:(λ(m:Nat)=>xs[((i:Int)+(m:Int)*1).toNat]?)=λm=>xs[i+m]?:=by
  funext m
  have:((i:Int)+(m:Int)*1).toNat=i+m:=by lia
  rw[this]
 rw[e]
 have:=pick_run xs i k
 rw[List.filterMap_map] at this;have e2:((λx=>xs[x]?)∘λx=>i+x)=λm=>xs[i+m]?:=rfl;rw[e2] at this;rw[this]
theorem uz {t sl:Addr}{items:Array ay}{vl vu:ay}{lo hi:Option Int}{Q:Zs}(ht:AG s.heap t items)(hs:s.heap.IsSliceOf sl vl vu .none)(pl:zt vl lo)(pu:zt vu hi)
  (hw:¬(sIx items.size 0 lo=0/\sIx items.size items.size hi=items.size))
  (h:Q (.ref s.heap.objs.size) { s with heap:=s.heap.push { cls:=.type "tuple",data:=.seq ((items.toList.drop<|sIx items.size 0 lo).take<|sIx items.size items.size hi-sIx items.size 0 lo).toArray } })
  (hsz:items.size<=ai):br (b0 prog w) A (xc (.ref t)<|.ref sl) Q E s:=by
 have htake:sizeOk (.seq ((items.toList.drop<|sIx items.size 0 lo).take<|sIx items.size items.size hi-sIx items.size 0 lo).toArray):=by
  show((items.toList.drop<|sIx items.size 0 lo).take<|sIx items.size items.size hi-sIx items.size 0 lo).toArray.size<=ai;rw[a8,lP,oD,pz]
  lia
 have hj:sIx items.size items.size hi<=items.size:=WW _ _ (aE _) hi;obtain⟨os,hos,hcs,hds⟩:=id hs;have hTs:s.TypeIs (.ref sl) "slice":=⟨os,hos,hcs⟩;unfold xc
 try with_reducible refine fw ?_
 first|refine ae (ah ?_)|skip
 refine ae<|wpAny_sequenceKey ht.typeIs (by decide) ?_;refine ae (h8 (name:=af "__getitem__") ht.typeIs jI
  (fS jI ht.typeIs entry_tuple_getitem ?_<|args_tuple_getitem _ _))
 show br _ _ (qr (.ref t) >>= _) _ _ s;refine ae<|tupleItemsOf_ ht ?_;refine ae<|ui hTs ?_;rw[if_pos<|by decide];refine ae<|uV hs pl pu ?_;have hno:¬((((sIx items.size 0 lo:Nat):Int)==0&&(1:Int)==1&&(sIx items.size items.size hi-sIx items.size 0 lo)==items.size)=true):=by
  intro q;rw[ku,ku] at q;have q1:((sIx items.size 0 lo:Nat):Int)=0:=eq_of_beq q.1.1;have q2:sIx items.size items.size hi-sIx items.size 0 lo=items.size:=eq_of_beq q.2;exact hw ⟨by lia,by lia⟩
 show br _ _ (if(((sIx items.size 0 lo:Nat):Int)==0&&(1:Int)==1&&(sIx items.size items.size hi-sIx items.size 0 lo)==items.size)=true then _ else _) _ _ s;rw[if_neg hno,QH]
 first
  |exact ae (m:=jS _) (ef (ah ⟨_,rfl,ah h⟩) htake)
  |exact ae (m:=jS _) (ef (ae<|ah<|ah ⟨_,rfl,ah h⟩) htake)
  |exact ae (ae (m:=jS _)<|ef (ah<|ah ⟨_,rfl,ah h⟩) htake)
  |exact ae (ae (m:=jS _)<|ef (ah ⟨_,rfl,ah h⟩) htake)
end
end HT
namespace L2
open PySem PySem.Spec PyProof.Rows
abbrev TO:=St->Hp->(Option Int->Hp->Prop)->Prop
def PO (X:Cx)(e:Option Expr)(t:TO):Prop:=
 ∀(π:Zl) (s:aI) (σ:St) (H:Hp) (Q:Option Int->Hp->Prop),Inv X π σ H s->t σ H Q->
  br (b0 X.prog X.w) X.A (evalPart e X.env) (λu s'=>∃o H',Inv X π σ H' s'/\zt u o/\Q o H') X.xe s
def Vw:TO:=λ_ H Q=>Q none H
def aat (t:TE):TO:=λσ H Q=>t σ H λx H1=>∃i,x=.int i/\Q (some i) H1
section
variable {X:Cx}{e:Expr}{te:TE}{lo hi:Option Expr}{tl th:TO}{pos p2:Pos}
theorem T9:PO X none Vw:=by
 intro π s σ H Q I h;rw[evalPart_none];exact ah ⟨none,H,I,.none,h⟩
theorem Sq (h:PE X e te):PO X (some e) (aat te):=by
 intro π s σ H Q I hw;rw[evalPart_some];refine thn (h π s σ H _ I hw) λu s1 hE=>xq2 hE λx H1 I1 r1 q1=>?_;obtain⟨i,rfl,q⟩:=q1;obtain⟨t,rfl⟩:=r1;exact⟨some i,H1,I1,.int i t,q⟩
def SlR (X:Cx)(r:V->Option Int->Option Int->Hp->VK->Prop):Prop:=
 ∀(π:Zl) (s:aI) (σ:St) (H:Hp) (x:V) (v vl vu:ay) (lo hi:Option Int) (sl:Addr) (Q:VK),Inv X π σ H s->RelV x v->s.heap.IsSliceOf sl vl vu .none->zt vl lo->zt vu hi->r x lo hi H Q->
  ∃T id,vT (.type T) "__getitem__" = pure (some<|.builtin id)/\s.TypeIs v T/\br (b0 X.prog X.w) X.A (xc v<|.ref sl) (EP X π σ Q) X.xe s
def tSl (r:V->Option Int->Option Int->Hp->VK->Prop)(te:TE)(tl th:TO):TE:=λσ H Q=>te σ H λx H1=>tl σ H1 λl H2=>th σ H2 λu H3=>r x l u H3 Q
theorem NQ (hr:SlR X r)(he:PE X e te)(hl:PO X lo tl)(hu:PO X hi th):PE X (.Subscript e (.Slice lo hi none p2) pos) (tSl r te tl th):=by
 intro π s σ H Q I h;refine Subscript_<|thn (he π s σ H _ I h) λv s1 hE=>xq2 hE λx H1 I1 r1 q1=>?_;refine wpAny_Slice<|thn (hl π s1 σ H1 _ I1 q1) λvl s2 ⟨l,H2,I2,pl,q2⟩=>thn (hu π s2 σ H2 _ I2 q2) λvu s3 hE=>?_;refine Ge hE λu H3 I3 pu q3=>?_;rw[evalPart_none];refine ah ?_;have I4:Inv X π σ H3 { s3 with heap:=s3.heap.push { cls:=.type "slice",data:=.fields #[vl,vu,.none] } }:=I3.kept (t':=s3.toks) λb ob q=>ag _ q;refine Ge (hr π { s3 with heap:=s3.heap.push { cls:=.type "slice",data:=.fields #[vl,vu,.none] } } σ H3 x v vl vu l u s3.heap.objs.size Q I4 r1 (Heap.IsSliceOf.new ..) pl pu q3) λT id hT ht hg=>?_;show br (b0 X.prog X.w) X.A (yb e (.Slice lo hi none p2) v<|.ref s3.heap.objs.size) (EP X π σ Q) X.xe { s3 with heap:=s3.heap.push { cls:=.type "slice",data:=.fields #[vl,vu,.none] } };exact tail_any (ops:=[.ref s3.heap.objs.size,v]) ht hT hg<|by with_unfolding_all rfl
def Gp (xs:List V)(lo hi:Option Int):List V:=(xs.drop<|HT.sIx xs.length 0 lo).take<|HT.sIx xs.length xs.length hi-HT.sIx xs.length 0 lo
theorem vC (xs:List V)(lo hi:Option Int):(Gp xs lo hi).length<=xs.length:=by
 unfold Gp;rw[lP,oD]
 lia
def abn (K:a6):V->Option Int->Option Int->Hp->VK->Prop:=λx lo hi H Q=>∃a xs,x=.ref a/\SqT K H a xs/\
 ¬(HT.sIx xs.length 0 lo=0/\HT.sIx xs.length xs.length hi=xs.length)/\∀p,H p=none->Q (.ref p) (upd H p<|.tup<|Gp xs lo hi)
theorem XQ:SlR X (abn X.K):=by
 intro π s σ H x v vl vu lo hi sl Q I rx hs pl pu h;obtain⟨a,xs,rfl,hx,hw,q⟩:=h;cases rx;obtain⟨its,r,ht,hz⟩:=I.tuple hx;have ρ:its.toArray.size=xs.length:=by rw[a8];exact r.length.symm
 refine⟨"tuple",_,jI.lookup,ht.typeIs,?_⟩;refine HT.uz ht hs pl pu (by rw[ρ];exact hw) ?_ (by rw[ρ];exact hz);rw[ρ];refine⟨.ref s.heap.objs.size,_,I.laid (t':=s.toks) (o:=.tup<|Gp xs lo hi) (λb ob q=>ag _ q) (aE _) ?_,rfl,q _<|I.hok.fresh<|aE _⟩;exact⟨fT (vC xs lo hi) hz,_,(r.drop<|HT.sIx xs.length 0 lo).take<|HT.sIx xs.length xs.length hi-HT.sIx xs.length 0 lo,CG.new _ _⟩
def Zm (K:a6):R2:=λx y H Q=>∃a b xs ys,x=.ref a/\y=.ref b/\SqT K H a xs/\SqT K H b ys/\xs≠[]/\xs.length+ys.length<=ai/\
 (ys=[]->Q (.ref a) H)/\(ys≠[]->∀p,H p=none->Q (.ref p) (upd H p<|.tup<|xs++ys))
theorem Vals.CP (r:Vals xs us):us=[]↔xs=[]:=by
 cases r with
 |nil=>simp
 |cons _ _=>simp
theorem Ur:OpR X (h7 .Add) (Zm X.K):=by
 intro π s σ H x y v u Q I rx ry h;obtain⟨a,b,xs,ys,rfl,rfl,ha,hb,hx,hz,q1,q2⟩:=h;cases rx;cases ry;obtain⟨its,r1,p1,_⟩:=I.tuple ha;obtain⟨its2,r2,p2,_⟩:=I.tuple hb;refine HT.R7 p1 p2 (λz=>hx<|r1.CP.mp z) (λz=>⟨.ref a,H,I,rfl,q1<|r2.CP.mp z⟩) (λz=>?_) (by rw[← r1.length,← r2.length];exact hz);refine⟨.ref s.heap.objs.size,_,I.laid (t':=s.toks) (o:=.tup<|xs++ys) (λb ob q=>ag _ q) (aE _) ?_,rfl,q2 (λw=>z<|r2.CP.mpr w) _<|I.hok.fresh<|aE _⟩;exact⟨by rw[a9];exact hz,_,r1.append r2,CG.new _ _⟩
end
noncomputable def ixN (n:Nat)(i:Int):Option Nat:=if 0<=i then(if i<n then some i.toNat else none) else if -(n:Int)<=i then some (i+n).toNat else none
def atI {α:Type}(xs:List α)(i:Int):Option α:=(ixN xs.length i).bind λj=>xs[j]?
theorem RP (h:ixN n i=some j):seqIndex? i n=some j/\j<n/\-(n:Int)<=i/\i<n:=by
 unfold ixN at h;by_cases h0:0<=i
 ·rw[if_pos h0] at h;by_cases h1:i<n
  ·rw[if_pos h1] at h;have e:i.toNat=j:=bX h;exact⟨by rw[seqIndex_of h0 h1,e],by lia,by lia,h1⟩
  ·rw[if_neg h1] at h;cases h
 ·rw[if_neg h0] at h;by_cases h1:-(n:Int)<=i
  ·rw[if_pos h1] at h;have e:(i+n).toNat=j:=bX h;exact⟨by rw[seqIndex_neg (by lia) h1,e],by lia,h1,by lia⟩
  ·rw[if_neg h1] at h;cases h
theorem Cv (h:atI xs i=some v):∃j,seqIndex? i xs.length=some j/\xs[j]? = some v/\j<xs.length/\-(xs.length:Int)<=i/\i<xs.length:=by
 unfold atI at h;cases e:ixN xs.length i with
 |none=>rw[e] at h;cases h
 |some j=>
  rw[e] at h;obtain⟨h1,h2,h3,h4⟩:=RP e;exact⟨j,h1,h,h2,h3,h4⟩
theorem BL {α:Type}{xs:List α}{j:Nat}{v:α}(h:xs[j]? = some v):atI xs (j:Int)=some v:=by
 have hj:j<xs.length:=(dS.mp h).1;have e:ixN xs.length (j:Int)=some j:=by
  unfold ixN;rw[if_pos (by lia),if_pos<|by lia];simp
 unfold atI;rw[e];exact h
def BJ (b:Expr):Prop:=∀o i,xh b false o i=operate [o,i] (xc o i)
def IxR (X:Cx)(r:R2):Prop:=
 ∀(value slice:Expr) (π:Zl) (s:aI) (σ:St) (H:Hp) (x y:V) (v u:ay) (Q:VK),Inv X π σ H s->RelV x v->RelV y u->r x y H Q->
  xh slice false v u=operate [v,u] (xc v u)->br (b0 X.prog X.w) X.A (yb value slice v u) (EP X π σ Q) X.xe s
def MtR (X:Cx)(id:String)(r:V->List V->Hp->VK->Prop):Prop:=
 ∀(π:Zl) (s:aI) (σ:St) (H:Hp) (x:V) (xs:List V) (v:ay) (us:List ay) (Q:VK),Inv X π σ H s->RelV x v->Vals xs us->r x xs H Q->
  br (b0 X.prog X.w) X.A (call (.builtin id) (v::us)) (EP X π σ Q) X.xe s
section
variable {X:Cx}{a b:Expr}{ta tb:TE}{pos:Pos}
theorem Y5 (hr:IxR X r)(ha:PE X a ta)(hb:PE X b tb)(hs:BJ b):PE X (.Subscript a b pos) (tOp r ta tb):=by
 intro π s σ H Q I h;exact Subscript_<|Yv ha hb I h λv u s2 x y H2 I2 rx ry q=>hr a b π s2 σ H2 x y v u Q I2 rx ry q<|hs _ _
def abj (K:a6):R2:=λx y H Q=>∃p xs i v,x=.ref p/\y=.int i/\SqL K H p xs/\atI xs i=some v/\Q v H
def aby (K:a6):R2:=λx y H Q=>∃p xs i v,x=.ref p/\y=.int i/\SqT K H p xs/\atI xs i=some v/\Q v H
def aaM:R2:=λx y H Q=>∃z i c,x=.str z/\y=.int i/\z.length<=ai/\atI z.cps.toList i=some c/\Q (.str ⟨#[c]⟩) H
theorem Vf:IxR X (abj X.K):=by
 intro value slice π s σ H x y v u Q I rx ry h hs;obtain⟨p,xs,i,z,rfl,rfl,hq,he,q⟩:=h;cases rx;obtain⟨t,rfl⟩:=ry;obtain⟨its,r,pl,hz⟩:=I.list hq;refine Ny (Cv he) λj h1 h2 h3 h4 h5=>?_;obtain⟨w,ew,rw'⟩:=r.get h2;have hl:=r.length;have hn:=w6;have fin:EP X π σ Q w s:=⟨z,H,I,rw',q⟩;by_cases h0:0<=i
 ·have hj:i.toNat=j:=by
   rw[seqIndex_of h0 h5] at h1;exact bX h1
  exact item_listR pl.isList h0 (by lia) (by rw[hj];simpa using ew) fin hs
 ·have hj:(i+(its.toArray.size:Int)).toNat=j:=by
   rw[seqIndex_neg (by lia) h4] at h1;rw[a8,← hl];exact bX h1
  exact subscriptTail_builtinR (x:=w) pl.isList.typeIs slot_list_getitem.lookup
   (wpAny_getItem_list_neg (Q:=λr s'=>r=w/\EP X π σ Q r s') pl.isList (by lia) (by rw[a8]<;>lia) (by lia) (by rw[hj];simpa using ew) ⟨rfl,fin⟩) hs
theorem XN:IxR X (aby X.K):=by
 intro value slice π s σ H x y v u Q I rx ry h hs;obtain⟨p,xs,i,z,rfl,rfl,hq,he,q⟩:=h;cases rx;obtain⟨t,rfl⟩:=ry;obtain⟨its,r,pl,hz⟩:=I.tuple hq;refine Ny (Cv he) λj h1 h2 h3 h4 h5=>?_;obtain⟨w,ew,rw'⟩:=r.get h2;have hl:=r.length;have hn:=w6;have fin:EP X π σ Q w s:=⟨z,H,I,rw',q⟩;exact subscriptTail_builtinR (x:=w) pl.typeIs slot_tuple_getitem.lookup
  (getItem_tuple (j:=j) (Q:=λr s'=>r=w/\EP X π σ Q r s') pl (by lia) (by lia) (by rw[a8,← hl];exact h1) (by simpa using ew) ⟨rfl,fin⟩) hs
theorem Xp:IxR X aaM:=by
 intro value slice π s σ H x y v u Q I rx ry h hs;obtain⟨z,i,c,rfl,rfl,hz,he,q⟩:=h;obtain⟨t,rfl⟩:=rx;obtain⟨t',rfl⟩:=ry;refine Ny (Cv he) λj h1 h2 h3 h4 h5=>?_;have hl:z.cps.toList.length=z.length:=by simp[Str.length]
 rw[hl] at h1 h4 h5;have hn:=w6;exact tail_any (pw s z t) slot_str_getitem.lookup (getItem_str (c:=c) (by
  have e1:decide (i < -(2^63:Int))=false:=decide_eq_false (by lia);have e2:decide (i≥2^63)=false:=decide_eq_false (by lia);rw[e1,e2,Bool.or_false]) (by rw[h1];simpa using h2) ⟨.str ⟨#[c]⟩,H,I.tok _,⟨_,rfl⟩,q⟩) hs
theorem Av (lo hi:Option Int)(n:Nat):(nK lo hi none n).1=((HT.sIx n 0 lo:Nat):Int)/\(nK lo hi none n).2.1=((HT.sIx n n hi:Nat):Int)/\(nK lo hi none n).2.2=1:=by
 refine⟨?_,?_,rfl⟩
 ·cases lo with
  |none=>simp[nK,HT.sIx]
  |some i=>
   simp only[nK,HT.sIx,Option.getD_none,show(1:Int)>0 by decide,if_true];by_cases h:i<0
   ·simp only[h,if_true]<;>lia
   ·simp only[h,if_false]<;>lia
 ·cases hi with
  |none=>simp[nK,HT.sIx]
  |some i=>
   simp only[nK,HT.sIx,Option.getD_none,show(1:Int)>0 by decide,if_true];by_cases h:i<0
   ·simp only[h,if_true]<;>lia
   ·simp only[h,if_false]<;>lia
theorem yW (its:List ay)(lo hi:Option Int):slicePick its.toArray lo hi none=((its.drop<|HT.sIx its.length 0 lo).take<|HT.sIx its.length its.length hi-HT.sIx its.length 0 lo).toArray:=by
 obtain⟨h1,h2,h3⟩:=Av lo hi its.toArray.size;unfold slicePick;rw[h1,h2,h3];simp only[sliceRange_one,pick_run,a8]<;>rfl
def aaS (K:a6):V->Option Int->Option Int->Hp->VK->Prop:=λx lo hi H Q=>∃a xs,x=.ref a/\SqL K H a xs/\∀p,H p=none->Q (.ref p) (upd H p<|.lst<|Gp xs lo hi)
theorem UG:SlR X (aaS X.K):=by
 intro π s σ H x v vl vu lo hi sl Q I rx hs pl pu h;obtain⟨a,xs,rfl,hx,q⟩:=h;cases rx;obtain⟨its,r,ht,hz⟩:=I.list hx;have ρ:=r.length;refine⟨"list",_,slot_list_getitem.lookup,ht.isList.typeIs,?_⟩;refine wpAny_getItem_list_slice ht.isList hs pl pu .none (by simp) ?_ (by rw[a8]<;>lia);rw[yW,← ρ];refine⟨.ref s.heap.objs.size,_,I.laid (t':=s.toks) (o:=.lst<|Gp xs lo hi) (λb ob q=>ag _ q) (aE _) ?_,rfl,q _<|I.hok.fresh<|aE _⟩;exact⟨fT (vC xs lo hi) hz,_,0,(r.drop<|HT.sIx xs.length 0 lo).take<|HT.sIx xs.length xs.length hi-HT.sIx xs.length 0 lo,aS _ rfl⟩
def rm:V->Bool
 | .non=>true
 | .bl _=>true
 | .int _=>true
 | .str _=>true
 |_=>false
def eqV:V->V->Bool
 | .non,.non=>true
 | .bl a,.bl b=>a==b
 | .bl a,.int b=>(if a then 1 else 0)==b
 | .int a,.bl b=>a==(if b then 1 else 0)
 | .int a,.int b=>a==b
 | .str a,.str b=>a==b
 |_,_=>false
theorem W4 (ry:RelV y u)(rx:RelV x v)(fy:rm y=true)(fx:rm x=true):y2 A s u v (eqV y x):=by
 cases y with
 |non=>
  cases ry;cases x with
  |non=>cases rx;exact z5 _
  |bl b=>cases rx;exact SeqAt.EqAt.none_bool b
  |int b=>obtain⟨t,rfl⟩:=rx;exact SeqAt.EqAt.none_int b t
  |str b=>obtain⟨t,rfl⟩:=rx;exact SeqAt.EqAt.none_str b t
  |_=>exact absurd (show false=true from fx) aw
 |bl a=>
  cases ry;cases x with
  |non=>cases rx;exact SeqAt.EqAt.bool_none a
  |bl b=>cases rx;exact SeqAt.EqAt.bool_bool a b
  |int b=>obtain⟨t,rfl⟩:=rx;exact SeqAt.EqAt.bool_int a b t
  |str b=>obtain⟨t,rfl⟩:=rx;exact SeqAt.EqAt.bool_str a b t
  |_=>exact absurd (show false=true from fx) aw
 |int a=>
  obtain⟨t',rfl⟩:=ry;cases x with
  |non=>cases rx;exact SeqAt.EqAt.int_none a t'
  |bl b=>cases rx;exact SeqAt.EqAt.int_bool a t' b
  |int b=>obtain⟨t,rfl⟩:=rx;exact x9 a t' b t
  |str b=>obtain⟨t,rfl⟩:=rx;exact xE a t' b t
  |_=>exact absurd (show false=true from fx) aw
 |str a=>
  obtain⟨t',rfl⟩:=ry;cases x with
  |non=>cases rx;exact SeqAt.EqAt.str_none a t'
  |bl b=>cases rx;exact SeqAt.EqAt.str_bool a t' b
  |int b=>obtain⟨t,rfl⟩:=rx;exact xI a t' b t
  |str b=>obtain⟨t,rfl⟩:=rx;exact SeqAt.EqAt.str_str a t' b t
  |_=>exact absurd (show false=true from fx) aw
 |_=>exact absurd (show false=true from fy) aw
def eqU (x:V)(u:ay):Bool:=match u with
 | .none=>eqV .non x
 | .bool b=>eqV (.bl b) x
 | .int i _=>eqV (.int i) x
 | .str z _=>eqV (.str z) x
 |_=>false
theorem Qh (r:RelV y u)(f:rm y=true):eqU x u=eqV y x:=by
 cases y with
 |non=>cases r;rfl
 |bl b=>cases r;rfl
 |int i=>obtain⟨t,rfl⟩:=r;rfl
 |str z=>obtain⟨t,rfl⟩:=r;rfl
 |_=>exact absurd (show false=true from f) aw
theorem Ax:∀{xs:List V} {us:List ay},Vals xs us->xs.all rm=true->us.any (eqU x)=xs.any λy=>eqV y x
 |_,_,.nil,_=>rfl
 |y::xs,u::us,.cons r t,f=>by
  rw[sC,ku] at f;rw[pf,pf,Qh r f.1,Ax t f.2]
theorem yG (rx:RelV x v)(fx:rm x=true):∀{xs:List V} {us:List ay},Vals xs us->xs.all rm=true->∀u∈us,y2 A s u v (eqU x u)
 |_,_,.nil,_=>λu hu=>by cases hu
 |y::xs,u::us,.cons r t,f=>λu' hu=>by
  rw[sC,ku] at f;rcases bP.mp hu with rfl|hu
  ·rw[Qh r f.1];exact W4 r rx f.1 fx
  ·exact yG rx fx t f.2 u' hu
def inV (x:V)(xs:List V):Bool:=xs.any λy=>eqV y x
def rIn (K:a6)(neg:Bool):R2:=λx y H Q=>∃p xs,y=.ref p/\(SqL K H p xs\/SqT K H p xs)/\rm x=true/\xs.all rm=true/\Q (.bl<|if neg then !inV x xs else inV x xs) H
theorem zU:OpR X (dk .In) (rIn X.K false):=by
 intro π s σ H x y v u Q I rx ry h;obtain⟨p,xs,rfl,hq,fx,fs,q⟩:=h;cases ry;rcases hq with hq|hq
 ·obtain⟨its,r,pl,hz⟩:=I.list hq;refine SeqAt.in_listAt (eqU x) pl.isList (λw hw=>yG rx fx r fs w<|by simpa using hw) ⟨.bl _,H,I,rfl,?_⟩;rw[show its.toArray.any (eqU x)=its.any (eqU x) by simp,Ax r fs];exact q
 ·obtain⟨its,r,pl,hz⟩:=I.tuple hq;refine SeqAt.in_tupleAt (eqU x) pl (λw hw=>yG rx fx r fs w<|by simpa using hw) ⟨.bl _,H,I,rfl,?_⟩;rw[show its.toArray.any (eqU x)=its.any (eqU x) by simp,Ax r fs];exact q
theorem tR:fL X (.builtin "len") (λxs H Q=>∃p ys,xs=[.ref p]/\(SqL X.K H p ys\/SqT X.K H p ys)/\Q (.int ys.length) H):=by
 intro π s σ H xs us Q I r h;obtain⟨p,ys,rfl,hq,q⟩:=h;obtain⟨u,rfl,rx⟩:=vals1 r;cases rx;have hn:=w6;rcases hq with hq|hq
 ·obtain⟨its,r',pl,hz⟩:=I.list hq;have ρ:=r'.length;exact Calls.call_len_list pl.isList (by simp only[a8]<;>lia) ⟨.int ys.length,H,I.tok _,⟨s.toks+1,by rw[a8,ρ]⟩,q⟩
 ·obtain⟨its,r',pl,hz⟩:=I.tuple hq;have ρ:=r'.length;exact len_tuple pl (by simp only[a8]<;>lia) ⟨.int ys.length,H,I.tok _,⟨s.toks+1,by rw[a8,ρ]⟩,q⟩
theorem Cw:fL X (.builtin "len") (λxs H Q=>∃z,xs=[.str z]/\z.length<=ai/\Q (.int z.length) H):=by
 intro π s σ H xs us Q I r h;obtain⟨z,rfl,hz,q⟩:=h;obtain⟨u,rfl,t,rfl⟩:=vals1 r;have hn:=w6;exact len_str (by lia) ⟨.int z.length,H,I.tok _,⟨_,rfl⟩,q⟩
theorem BZ:fL X (.type "list") (λxs H Q=>∃p ys,xs=[.ref p]/\(SqL X.K H p ys\/SqT X.K H p ys)/\∀l,H l=none->Q (.ref l) (upd H l<|.lst ys)):=by
 intro π s σ H xs us Q I r h;obtain⟨p,ys,rfl,hq,q⟩:=h;obtain⟨u,rfl,rx⟩:=vals1 r;cases rx;have fin:∀(its:List ay),Vals ys its->ys.length<=ai->∀(h':Heap) (c':Nat),(∀b o',s.heap.get? b=some o'->h'.get? b=some o')->
   h'.get? s.heap.objs.size=some { cls:=.type "list",dict:=none,data:=.seq its.toArray c',slots:=#[] }->EP X π σ Q (.ref s.heap.objs.size) { s with heap:=h' }:=λits r' hz h' c' kp e=>
  ⟨.ref s.heap.objs.size,_,I.laid (t':=s.toks) kp (aE _)<|show cO X.prog X.w _ h' _ (.lst ys) from⟨hz,its,c',r',e⟩,rfl,q _<|I.hok.fresh<|aE _⟩
 rcases hq with hq|hq
 ·obtain⟨its,r',pl,hz⟩:=I.list hq;have ρ:=r'.length;obtain⟨o,ho,hc,n,hd⟩:=pl.isList;exact call_list_seq p (.inl rfl) ho hc hd (λh' c' kp e=>fin its r' hz h' c' kp e) (by simp only[a8]<;>lia)
 ·obtain⟨its,r',pl,hz⟩:=I.tuple hq;have ρ:=r'.length;obtain⟨o,ho,hc,n,hd⟩:=pl;exact call_list_seq p (.inr rfl) ho hc hd (λh' c' kp e=>fin its r' hz h' c' kp e) (by simp only[a8]<;>lia)
theorem rH:fL X (.type "tuple") (λxs H Q=>∃p ys,xs=[.ref p]/\((SqL X.K H p ys/\∀l,H l=none->Q (.ref l) (upd H l<|.tup ys))\/(SqT X.K H p ys/\Q (.ref p) H))):=by
 intro π s σ H xs us Q I r h;obtain⟨p,ys,rfl,h⟩:=h;obtain⟨u,rfl,rx⟩:=vals1 r;cases rx;rcases h with⟨hq,q⟩|⟨hq,q⟩
 ·obtain⟨its,r',pl,hz⟩:=I.list hq;have ρ:=r'.length;refine call_tuple_list pl.isList (λh' kp=>?_) (by simp only[a8]<;>lia);have I1:Inv X π σ H { s with heap:=h' }:=I.kept (t':=s.toks) kp;have I2:Inv X π σ (upd H h'.objs.size<|.tup ys) { s with heap:=h'.push { cls:=.type "tuple",data:=.seq its.toArray } }:=
   I1.laid (t':=s.toks) (λb o e=>ag _ e) (aE _) (show cO X.prog X.w _ _ _ (.tup ys) from⟨hz,its,r',CG.new _ _⟩)
  exact⟨.ref h'.objs.size,_,I2,rfl,q _<|I1.hok.fresh<|aE _⟩
 ·obtain⟨its,r',pl,hz⟩:=I.tuple hq;exact call_tuple_same pl ⟨.ref p,H,I,rfl,q⟩
def tyV (K:a6)(T:String)(x:V)(H:Hp):Prop:=match x with
 | .str _=>T = "str"
 | .int _=>T = "int"
 | .ref p=>(T = "list"/\∃xs,SqL K H p xs)\/(T = "tuple"/\∃o,K.lookup p=some o/\o.cls=.type "tuple"/\o.dict=none) ∨
   (T = "dict"/\((∃ι,Rd H p<|.dK ι)\/∃T ι,Rd H p<|.dT T ι))\/(T = "set"/\∃S n,H p=some (.set S n))
 |_=>False
theorem QW (I:Inv X π σ H s)(r:RelV x v)(ty:tyV X.K T x H):
  s.TypeIs v T/\∀a,v=.ref a->∃ob,s.heap.get? a=some ob/\ob.dict=none:=by
 cases x with
 |str z=>
  obtain⟨t,rfl⟩:=r;cases(show T = "str" from ty);exact⟨pw s z t,λ_ e=>nomatch e⟩
 |int i=>
  obtain⟨t,rfl⟩:=r;cases(show T = "int" from ty);exact⟨typeIs_int s i t,λ_ e=>nomatch e⟩
 |ref p=>
  cases r;rcases ty with⟨rfl,xs,hq⟩|⟨rfl,o,hk,hc,hd⟩|⟨rfl,hk⟩|⟨rfl,S,n,hk⟩
  ·obtain⟨its,_,pl,_⟩:=I.list hq;refine⟨pl.isList.typeIs,λa e=>?_⟩;cases e;refine rO pl λo n e c hd _=>?_;exact⟨o,e,hd⟩
  ·refine⟨⟨o,I.kIn p o hk,hc⟩,λa e=>?_⟩;cases e;exact⟨o,I.kIn _ o hk,hd⟩
  ·have z:∃o,s.heap.get? p=some o/\o.ExactDict:=by
    rcases hk with⟨ι,hk⟩|⟨_,ι,hk⟩
    ·obtain⟨_,_,_,_,o,_,_,e,ex,_⟩:=(show cO X.prog X.w H s.heap p (.dK ι) from hk.ok I.hok);exact⟨o,e,ex⟩
    ·obtain⟨_,_,_,_,o,_,_,e,ex,_⟩:=(show cO X.prog X.w H s.heap p (.dT _ ι) from hk.ok I.hok);exact⟨o,e,ex⟩
   obtain⟨o,e,ex⟩:=z;refine⟨⟨o,e,ex.1⟩,λa e2=>?_⟩;cases e2;exact⟨o,e,ex.2.1⟩
  ·refine Y6 (I.hok p _ hk) λo _ _ _ e ex _=>?_;refine⟨⟨o,e,ex.1⟩,λa e2=>?_⟩;cases e2;exact⟨o,e,ex.2.1⟩
 |_=>exact ff ty
def aaO (K:a6)(T:String)(r:V->List V->Hp->VK->Prop)(to:TE):TE:=λσ H Q=>to σ H λx H1=>tyV K T x H1/\r x [] H1 Q
def tBM (K:a6)(T:String)(r:V->List V->Hp->VK->Prop)(to:TE)(t:TA):TE:=λσ H Q=>to σ H λx H1=>tyV K T x H1/\t σ H1 λxs H2=>r x xs H2 Q
variable {o e:Expr}{es:List Expr}{to:TE}{t:TA}{name:Str}{apos χ:Pos}{T id:String}{r:V->List V->Hp->VK->Prop}
theorem OJ (pa:PlainAttrs T)(slot:Slot T name id)(hty:typeOf (.builtin id)=pure (.type "method_descriptor"))(hm:MtR X id r)(ho:PE X o to)
  (ω:iX o name X.env (eval o X.env)=eval o X.env:=by rfl) (η:(apos.endLine==χ.line)=true:=by rfl):PE X (.Call (.Attribute o name apos) [] [] χ) (aaO X.K T r to):=by
 intro π s σ H Q I h;refine wpAny_Call_method0_late ω η<|thn (ho π s σ H _ I h) λv s1 hE=>?_;refine rO hE λx H1 I1 r1 ty q1=>?_;obtain⟨h1,h2⟩:=QW I1 r1 ty;exact⟨T,id,pa,slot,hty,h1,h2,nv rfl<|PySem.evalArgs_none<|hm π s1 σ H1 x [] v [] Q I1 r1 .nil q1⟩
theorem QC (pa:PlainAttrs T)(slot:Slot T name id)(hty:typeOf (.builtin id)=pure (.type "method_descriptor"))(hm:MtR X id r)(ho:PE X o to)(ha:PA X (e::es) t)
  (ω:iX o name X.env (eval o X.env)=eval o X.env:=by rfl)
  (ν:((iq χ<|av (e::es) X.env).all (λx=>!x.1)&&(yi χ<|p9 [] X.env).all (λx=>x.1.isSome)
   && decide ((e::es).length+([]:List qc).length+(if([]:List qc).isEmpty then 0 else 1)<30))=true:=by rfl)
  (η:(apos.endLine==χ.line)=true:=by rfl) (hs:av (e::es) X.env=(false,eval e X.env)::av es X.env:=by rfl) (hplain:(iq χ<|av es X.env).any (·.1)=false:=by rfl):
  PE X (.Call (.Attribute o name apos) (e::es) [] χ) (tBM X.K T r to t):=by
 intro π s σ H Q I h;refine wpAny_Call_method_late ω ν η rfl<|thn (ho π s σ H _ I h) λv s1 hE=>?_;refine rO hE λx H1 I1 r1 ty q1=>?_;obtain⟨h1,h2⟩:=QW I1 r1 ty;refine⟨T,id,pa,slot,hty,h1,h2,?_⟩;have hA:=ha χ π s1 σ H1 _ I1 q1;rw[hs] at hA ⊢;refine nv (by show(false||(iq χ<|av es X.env).any (·.1))=false;rw[hplain]<;>rfl)<|pd ?_;exact thn hA λus s2 hE=>xq2 hE λvs H2 I2 r2 q2=>hm π s2 σ H2 x vs v us Q I2 r1 r2 q2
end
def MtM (X:Cx)(id:String)(r:V->List V->Hp->VK->Prop):Prop:=
 ∀(π:Zl) (s:aI) (σ:St) (H:Hp) (x:V) (xs:List V) (v:ay) (us:List ay) (Q:VK),Inv X π σ H s->RelV x v->Vals xs us->r x xs H Q->
  br (b0 X.prog X.w) X.A (call (.builtin id) (v::us)) (EP X π σ Q) X.xe s
theorem Vals.one:∀{x:V} {us:List ay},Vals [x] us->∃u,us=[u]/\RelV x u
 |_,_,.cons r .nil=>⟨_,rfl,r⟩
theorem Vals.zero:∀{us:List ay},Vals [] us->us=[]
 |_,.nil=>rfl
theorem Vals.dropLast (h:Vals xs us):Vals xs.dropLast us.dropLast:=by
 induction h with
 |nil=>exact .nil
 |cons r t ih=>
  cases t with
  |nil=>exact .nil
  |cons q t'=>exact .cons r ih
theorem Vals.reverse (h:Vals xs us):Vals xs.reverse us.reverse:=by
 induction h with
 |nil=>exact .nil
 |cons r t ih=>rw[kU,kU];exact Vals.append ih<|.cons r .nil
theorem Ih (l:List α):l.eraseIdx (l.length-1)=l.dropLast:=by
 induction l with
 |nil=>rfl
 |cons a r ih=>
  cases r with
  |nil=>rfl
  |cons b r=>
   have e:(a::b::r).length-1=((b::r).length-1)+1:=by
    have h1:(a::b::r).length=r.length+2:=rfl;have h2:(b::r).length=r.length+1:=rfl
    lia
   rw[e,List.eraseIdx_cons_succ,ih]
   all_goals rfl
section
variable {X:Cx}{π:Zl}{σ:St}{H:Hp}{s:aI}{l b:Addr}{xs ys zs:List V}
theorem Inv.Wz {its its':List ay}(I:Inv X π σ H s)(hH:H l=some (.lst xs))
  (e:s.heap.get? l=some { cls:=.type "list",data:=.seq its.toArray n }) (hf:f its.toArray=its'.toArray) (hv:Vals ys its') (hz:ys.length<=ai):
  Inv X π σ (upd H l<|.lst ys) { s with heap:=s.heap.update l<|y7 f,toks:=t' }:=by
 have q:=PySem.IsL.update e f;rw[hf] at q;refine I.write (x:=l) (e:=l) (by rw[hH];exact trivial) (.inl rfl) (λb' u hb hu=>(b5 s.heap (y7 f)<|i7 hb).trans hu) ⟨_,q⟩ ?_;exact⟨hz,its',_,hv,q⟩
theorem Inv.Uz (I:Inv X π σ H s)(hH:H l=some (.lst xs)):xs.length<=ai/\∃(its:List ay) (n:Nat),Vals xs its/\xs.length=its.length/\s.heap.get? l=some { cls:=.type "list",data:=.seq its.toArray n }:=by
 obtain⟨z,its,n,r,e⟩:=I.hok l _ hH;exact⟨z,its,n,r,r.length,e⟩
theorem Q0 (h:n<=ai):md n=false:=by
 unfold md;exact decide_eq_false<|by lia
end
section
variable {X:Cx}
def Ue:V->List V->Hp->VK->Prop:=λx vs H Q=>∃l xs y,x=.ref l/\vs=[y]/\H l=some (.lst xs)/\xs.length<ai/\Q .non (upd H l<|.lst<|xs++[y])
theorem vm:MtM X "list.append" Ue:=by
 intro π s σ H x vs v us Q I rx rv h;obtain⟨l,xs,y,rfl,rfl,hH,hz,q⟩:=h;cases rx;obtain⟨u,rfl,ru⟩:=rv.one;obtain⟨z,its,n,r,hl,e⟩:=I.Uz hH;refine nL F.slot_list_append ⟨_,e,rfl⟩ F.entry_list_append (F.args_list_append_2 _ _) (PySem.list_append l its.toArray n u (by rw[a8];lia)) ⟨e,?_⟩;refine⟨.non,_,I.Wz (its':=its++[u]) hH e (by simp) (r.append<|.cons ru .nil) ?_,rfl,q⟩;rw[a9,eJ]
 lia
def R9:V->List V->Hp->VK->Prop:=λx vs H Q=>∃l b xs zs,x=.ref l/\vs=[.ref b]/\H l=some (.lst xs)/\H b=some (.lst zs)/\xs.length+zs.length<=ai/\Q .non (upd H l<|.lst<|xs++zs)
theorem Lj:MtM X "list.extend" R9:=by
 intro π s σ H x vs v us Q I rx rv h;obtain⟨l,b,xs,zs,rfl,rfl,hH,hB,hz,q⟩:=h;cases rx;obtain⟨u,rfl,ru⟩:=rv.one;cases ru;obtain⟨z,its,n,r,hl,e⟩:=I.Uz hH;obtain⟨z2,its2,n2,r2,hl2,e2⟩:=I.Uz hB;have hsz:its.toArray.size+its2.toArray.size<=ai:=by rw[a8,a8];lia
 have hlong:¬(!its.toArray.isEmpty&&md (its.toArray.size+its2.toArray.size))=true:=by
  rw[Q0 hsz,Bool.and_false];exact aw
 refine nL F.slot_list_extend ⟨_,e,rfl⟩ F.entry_list_extend (F.args_list_extend_2 _ _)
  (AutoSeq1.list_extend_list_list_0 l its.toArray n b its2.toArray n2 hlong (by rw[a8];lia)<|by lia) ⟨e,e2,?_⟩
 refine⟨.non,_,I.Wz (its':=its++its2) hH e (by simp) (r.append r2) ?_,rfl,q⟩;rw[a9]
 lia
def aa3:V->List V->Hp->VK->Prop:=λx vs H Q=>∃l xs y,x=.ref l/\vs=[]/\H l=some (.lst xs)/\xs[xs.length-1]? = some y/\Q y (upd H l<|.lst xs.dropLast)
theorem W5:MtM X "list.pop" aa3:=by
 intro π s σ H x vs v us Q I rx rv h;obtain⟨l,xs,y,rfl,rfl,hH,hy,q⟩:=h;cases rx;have hus:=rv.zero;subst hus;obtain⟨z,its,n,r,hl,e⟩:=I.Uz hH;obtain⟨u,hu,ru⟩:=r.get hy;have hy':its.toArray[its.toArray.size-1]? = some u:=by
  show its.toArray[its.length-1]? = some u;rw[← Array.getElem?_toList,← hl];exact hu
 refine nL F.slot_list_pop ⟨_,e,rfl⟩ F.entry_list_pop (F.args_list_pop_1 _) (MeetsSeq.list_pop_last l its.toArray n u hy' (by rw[a8];lia)) ⟨e,?_⟩;refine⟨y,_,I.Wz (its':=its.dropLast) hH e ?_ r.dropLast ?_,ru,q⟩
 ·show its.toArray.eraseIdxIfInBounds (its.toArray.size-1)=its.dropLast.toArray;rw[a8,List.eraseIdxIfInBounds_toArray,Ih]
 ·rw[List.length_dropLast]
  lia
end
section
variable {prog:bq}{w:dc}{A:cK}{E:Zs}{s:aI}
end
section
end
end L2
namespace Att
open PySem PySem.W PySem.Calls PyProof.Rows
theorem vX:∀(ns:List Int) (vs:List ay),WellAll P h vs (ns.map WData.int)->IntsAre vs ns:=by
 intro ns;induction ns with
 |nil=>
  intro vs w;rw[uj] at w;cases w;exact .nil
 |cons n ns ih=>
  intro vs w;rw[bo] at w;cases w with
  |cons a b=>
   cases a;exact .cons _ _<|ih _ b
theorem Lz {l:OpenLaw}(hn:l.most=some n){P:Params}{h:Heap}{args:List WData}{vals:List ay}
  (hpre:l.row.toRowW.claim.pre args=true) (hwl:WellAll P h vals args):
  ∃a vs ns,vals=[bE a]/\args=[WData.list<|ns.map WData.int]/\h.get? a=some { cls:=.type "list",data:=.seq vs.toArray }/\IntsAre vs ns/\ns.length<=n:=by
 have hsh:WShape.hasAll [] args [.list .int]=true:=(pre_splitW hpre).1;have hc:l.pre.holds [] { args:=args }=true:=(pre_splitW hpre).2;obtain⟨d,r,rfl,h1,h2⟩:=hasAllW_cons hsh;obtain rfl:=hasAllW_nil h2;obtain⟨xs,rfl,h3⟩:=hasW_list h1;obtain⟨ns,rfl⟩:=items_int h3;have ρ:ns.length<=n:=by
  unfold OpenLaw.pre at hc;have h4:(WTm.not<|.lt (.lit<|.int (n:Int))<|.len<|.arg 0).holds [] { args:=[.list<|ns.map .int] }=true:=by
   have h4:=(holds_andW hc).1;rw[hn] at h4;exact h4
  have h5:=condW_of h4<|w_not<|w_lt w_lit<|w_len_list<|w_arg rfl;rw[cp] at h5;refine Nat.le_of_not_lt λq=>?_;have q':(n:Int)<((ns.length:Nat):Int):=by lia
  first
   |(rw[decide_eq_true q'] at h5;exact absurd h5<|by decide)
   |(simp at h5;lia)
 cases hwl with
 |cons w1 w2=>
  cases w2;cases w1 with
  |list ho hall=>exact⟨_,_,ns,rfl,rfl,ho,vX ns _ hall,ρ⟩
theorem Mm (l:OpenLaw)(args:List WData):l.row.toRowW.claim.post args (.bool true) args=true:=
 postW_of (r:=l.row.toRowW) (X:=(true==true))
  (show WShape.has [] (.bool true) .bool=true by first|rfl|decide|simp[WShape.has,WShape.arms,WShape.armsAll])
  (show(WTm.eq .res<|.lit<|.bool true).value [] { args:=args,res:=some<|.bool true,after:=args }=some (.bool<|true==true) from w_eq_bool (w_res rfl) w_lit) rfl
theorem Ea {l:OpenLaw}{d:DefRec}
  (hn:l.most=some n) (hdf:d.params.defaults=[])
  (call:∀(w:dc) (s₀ s₁:aI) (mg mb:Zp) (fa:Addr) (o:Obj) (pm cd doc:ay) (a:Addr) (vs:List ay) (ns:List Int),
   Ground q loose [] XP w s₀ mg mb s₁.heap->YP w s₁.heap->
   s₁.heap.get? fa=some o->o.data=.func (docDef d.name d.params d.body d.scope pm cd doc)->s₁.heap.CodeRec cd d.name->mg d.name=some (.ref fa)->
   s₁.heap.get? a=some { cls:=.type "list",data:=.seq vs.toArray }->IntsAre vs ns->ns.length<=n->s₁.gens=#[]->
   pS (b0 l.prog w) y8 (.call (.ref fa) ⟨[.ref a],[]⟩) (λr s'=>r=.ok (.ret<|.bool true)/\OldK s₁.heap s'.heap/\s'.os=s₁.os/\rL s'.gens) s₁):
  WalkO q loose XP YP l.row.toRowW d [] (λf vs=>AB f vs):=by
 intro w s₀ s₁ mg mb G Y fa o pm cd doc dV kV ho hd hcd hD hmg hg args vals as hpre hlay hrd hwl hlo;obtain rfl:dV=.none:=Dflts.none hD hdf;obtain rfl:kV=.none:=Dflts.noKw hD;obtain⟨a,vs,ns,rfl,rfl,hobj,hints,ρ⟩:=Lz hn hpre hwl;refine enter_call<|rh (call w s₀ s₁ mg mb fa o pm cd doc a vs ns G Y ho (fd_plain hd) hcd hmg hobj hints ρ hg) λr s' hq=>?_;obtain⟨rfl,h2,h3,h4⟩:=hq;exact⟨.inl ⟨.bool true,.bool true,[],rfl,λ_=>rfl,.bool true,Mm l _,λ_=>⟨List.Pairwise.nil,λ_ hm=>(nomatch hm)⟩⟩,h2,h3,h4⟩
section
variable {prog:bq}{w:dc}{A:cK}{E:Zs}{s:aI}{K:Frag}
end
end Att
namespace L2
open PySem PySem.Spec PyProof.Rows
theorem zY:∀{vs:List ay} {ns:List Int},IntsAre vs ns->Vals (ns.map V.int) vs
 |_,_,.nil=>.nil
 |_,_,.cons n t h=>.cons ⟨t,rfl⟩<|zY h
def Only (H:Hp):Prop:=∀b,H b=none\/∃o xs,H b=some (.frz o<|.lst xs)
theorem Qc {K:a6}{s₁:aI}{vs:List ay}{ns:List Int}
  (KX:K.In s₁.heap) (hns:s₁.heap.Ns bp mg) (hb:s₁.heap.Ns builtinsNs mb) (hbb:∀x:Str,x≠"__name__"->mb x=ck x) (hlim:s₁.heap.NoLimit) (hg:s₁.gens=#[])
  (ha:s₁.heap.get? a=some { cls:=.type "list",data:=.seq vs.toArray }) (hi:IntsAre vs ns) (hl:ns.length<=ai) (hr:fB k y8)
  (F:∀base:Heap,K.In base->base.Ns bp mg->dF P w K mg base CX k fa fd [x] sp) (hbind:∀(s:aI) (u:ay),y4 s fd ⟨[u],[]⟩ [(x,u)])
  (hsp:∀H:Hp,Only H->SqL K H a (ns.map V.int)->sp [.ref a] H (λv _=>v=.bl true) λ_ _ _=>False)
  (hCX:∀H e s',CX [] H s₁ (λ_ _ _=>False) e s'->False):
  pS (b0 P w) y8 (.call (.ref fa) ⟨[.ref a],[]⟩) (λr s'=>r=.ok (.ret<|.bool true)/\OldK s₁.heap s'.heap/\s'.os=s₁.os/\rL s'.gens) s₁:=by
 have rv:=zY hi;have lenV:=hi.length;have core:∀H:Hp,Only H->SqL K H a (ns.map V.int)->HOk P w H s₁.heap->(∀b,H b≠none->b=a)->(H a≠none->K.lookup a=none)->
   pS (b0 P w) y8 (.call (.ref fa) ⟨[.ref a],[]⟩) (λr s'=>r=.ok (.ret<|.bool true)/\OldK s₁.heap s'.heap/\s'.os=s₁.os/\rL s'.gens) s₁:=by
  intro H hO hS hok hA hK;have base_of:∀{b:Addr} {o:Obj},s₁.heap.get? b=some o->H b=none->(Di s₁.heap H).get? b=some o:=λe n=>QS e n;have noA:∀{b:Addr} {o:Obj} {es:Array DictEntry} {ep:Nat},s₁.heap.get? b=some o->o.data=.dict es ep->H b=none:=λ{b o es ep} e d=>by
   cases q:H b with
   |none=>rfl
   |some u=>
    have e':b=a:=hA b (by rw[q];simp);subst e';rw[ha] at e;cases e;have d':Data.seq vs.toArray _=Data.dict es ep:=d;cases d'
  have nsK:∀{b:Addr} {m:Zp},s₁.heap.Ns b m->(Di s₁.heap H).Ns b m:=λ{b m} ⟨o,es,ep,e,d,r⟩=>⟨o,es,ep,base_of e<|noA e d,d,r⟩;have hKb:K.In (Di s₁.heap H):=λb o e=>base_of (KX b o e) (by
   cases q:H b with
   |none=>rfl
   |some u=>
    have e':b=a:=hA b (by rw[q];simp);subst e';rw[hK (by rw[q];simp)] at e;cases e)
  have hM:Mod K mg (Di s₁.heap H):=⟨hKb,nsK hns,⟨mb,nsK hb,hbb⟩,let⟨mc,h1,h2⟩:=hlim;⟨mc,nsK h1,h2⟩⟩;have e0:Hh P w K mg (Di s₁.heap H) y8 [] s₁ H:=⟨rfl,hM,λb o e=>Vp e,zv<|Mj _ _,trivial,λb hb=>absurd (show b∈([]:List Addr) from hb) (by simp),hok,.of_eq hg⟩;refine rh ((F _ hKb<|nsK hns).run y8 [] s₁ H ⟨[.ref a],[]⟩ [.ref a] [.ref a] _ _ hr e0 (hbind s₁<|.ref a) (.cons rfl .nil)<|hsp H hO hS) λr s' h=>?_;cases r with
  |error e=>exact(hCX H e s' h).elim
  |ok fl=>
   cases fl with
   |next=>exact ff h
   |brk=>exact ff h
   |cont=>exact ff h
   |ret u=>
    refine Rg h λv H' os bare un hok' r' q=>?_;have q':v=.bl true:=q;subst q';obtain rfl:u=y3 true:=r';refine⟨rfl,OldK.of_keep λb o e=>?_,os,bare⟩;cases q:H b with
    |none=>exact un.keep b o e q (by intro z;exact absurd (show b∈([]:List Addr) from z) (by simp)) (by simp)
    |some u=>
     rcases hO b with z|⟨ob,xs,z⟩
     ·rw[q] at z;cases z
     ·have z2:=un.frzs b ob _ z;obtain⟨e1,_⟩:=hok b _ z;obtain⟨e2,_⟩:=hok' b _ z2;rw[e] at e1;cases e1;exact e2
 cases hk:K.lookup a with
 |some o=>
  have e:=KX a o hk;rw[ha] at e;cases e;refine core (λ_=>none) (λ_=>.inl rfl) (.inr ⟨_,vs.toArray,_,hk,rfl,rfl,rfl,by rw[a8,lenV];exact hl,by simpa using rv⟩) (λb u z=>by have z':(none:Option HO)=some u:=z;cases z') (λb z=>absurd rfl z) λz=>absurd rfl z
 |none=>
  refine core (λb=>if b=a then some (.frz { cls:=.type "list",data:=.seq vs.toArray }<|.lst<|ns.map V.int) else none) (λb=>?_) (.inl<|.inr ⟨{ cls:=.type "list",data:=.seq vs.toArray },if_pos rfl⟩) (λb u z=>?_) (λb z=>?_) λ_=>hk
  ·by_cases hb:b=a
   ·exact .inr ⟨_,_,if_pos hb⟩
   ·exact .inl<|if_neg hb
  ·by_cases hb:b=a
   ·have z':=(if_pos hb).symm.trans z;cases z';subst hb;exact⟨ha,by rw[cp];exact hl,vs,_,rv,ha⟩
   ·have z':=(if_neg hb).symm.trans z;cases z'
  ·by_cases hb:b=a
   ·exact hb
   ·exact absurd (if_neg hb) z
theorem Ve {l:W.OpenLaw}{n k:Nat}{q:bq}{loose:List Str}{XP:(Zp)->Heap->Prop}{YP:dc->Heap->Prop}{d:DefRec}{K:Params->a6}{CX:dc->CXT}{sp:dc->Sp}{x:Str}
  (hn:l.most=some n) (hn2:n<=ai) (hdf:d.params.defaults=[]) (hr:fB k y8)
  (hY:∀(w:dc) (h:Heap),YP w h->(K w.params).In h)
  (F:∀(w:dc) (mg:Zp) (fa:Addr) (h:Heap),(K w.params).In h->h.Ns bp mg->mg d.name=some (.ref fa)->
   ∃fd:gc,(∀(s:aI) (u:ay),y4 s fd ⟨[u],[]⟩ [(x,u)])/\
    ∀base:Heap,(K w.params).In base->base.Ns bp mg->dF l.prog w (K w.params) mg base (CX w) k fa fd [x] (sp w))
  (hsp:∀(w:dc) (H:Hp) (a:Addr) (ns:List Int),ns.length<=n->Only H->SqL (K w.params) H a (ns.map V.int)->sp w [.ref a] H (λv _=>v=.bl true) λ_ _ _=>False)
  (hCX:∀(w:dc) (H:Hp) (s:aI) (e:ay) (s':aI),CX w [] H s (λ_ _ _=>False) e s'->False):
  W.WalkO q loose XP YP l.row.toRowW d [] (λf vs=>AB f vs):=by
 refine Att.Ea hn hdf λw s₀ s₁ mg mb fa o pm cd doc a vs ns G Y ho hd hcd hmg hobj hints ρ hg=>?_;have KX:=hY w _ Y;obtain⟨fd,hb,hF⟩:=F w mg fa _ KX G.T.g hmg;exact Qc KX G.T.g G.T.b G.T.builtins G.T.nolimit hg hobj hints (fT ρ hn2) hr hF hb (λH hO hS=>hsp w H a ns ρ hO hS) λH e s'=>hCX w H s₁ e s'
noncomputable def oK (s:Stmt):Arguments:=match s with
 | .FunctionDef _ a _ _ _ _ _ _ _ _=>a
 |_=>{ posonlyargs:=[],args:=[],vararg:=none,kwonlyargs:=[],kw_defaults:=[],kwarg:=none,defaults:=[] }
def jf (s:Stmt):List Stmt:=match s with
 | .FunctionDef _ _ b _ _ _ _ _ _ _=>b
 |_=>[]
noncomputable def aK (s:Stmt):l0:=match s with
 | .FunctionDef _ _ _ _ _ _ sc _ _ _=>sc
 |_=>{ kind:=.function,names:=[],isGenerator:=false,isCoroutine:=false }
abbrev E0:XK:=λ_ _ _=>False
structure Fun (K:a6)(x qual:Str)(st:Stmt)(f:Addr)(fd:gc):Prop where
 ex:∃(oc:ay) (od:Option Addr) (kV doc pm:ay) (an:Option Addr) (cdv ct:ay) (osl:Array (Option ay)),
  fd=w4 x qual (oK st) (jf st) (aK st) .none kV doc pm an cdv ct/\K.lookup f=some ⟨oc,od,.func fd,osl⟩/\z0 K cdv qual=true
 kp:sD K (.ref f)=true
section
variable {P:bq}{w:dc}{K:a6}{mg:Zp}{base:Heap}
theorem Fun.binds {x qual:Str}{st:Stmt}{f:Addr}{fd:gc}{ps:List Str}(F:Fun K x qual st f fd)
  (h:∀(kV doc pm:ay) (an:Option Addr) (cdv ct:ay) (us:List ay),us.length=ps.length->bindArgs (w4 x qual (oK st) (jf st) (aK st) .none kV doc pm an cdv ct) ⟨us,[]⟩=pure (ps.zip us)):Binds K fd ps []:=by
 obtain⟨oc,od,kV,doc,pm,an,cdv,ct,osl,rfl,lk,hcd⟩:=F.ex;exact .all<|h kV doc pm an cdv ct
theorem Ym {x qual:Str}{st:Stmt}{f:Addr}{oc:ay}{od an:Option Addr}{osl:Array (Option ay)}{kV doc pm cdv ct:ay}(l:K.lookup f=some ⟨oc,od,.func<|w4 x qual (oK st) (jf st) (aK st) .none kV doc pm an cdv ct,osl⟩)
  (c:z0 K cdv qual=true) (k:sD K (.ref f)=true):Fun K x qual st f (w4 x qual (oK st) (jf st) (aK st) .none kV doc pm an cdv ct):=⟨⟨oc,od,kV,doc,pm,an,cdv,ct,osl,rfl,l,c⟩,k⟩
end
section
end
def aH (H H':Hp):Prop:=∀b o,H b=some o->H' b=some o
theorem aH.refl (H:Hp):aH H H:=λ_ _ h=>h
theorem aH.trans (a:aH H H1)(b:aH H1 H2):aH H H2:=λc o h=>b c o<|a c o h
theorem aH.free (e:aH H H'){l:Addr}(h:H' l=Option.none):H l=Option.none:=by
 cases q:H l with
 |none=>rfl
 |some o=>
  rw[e l o q] at h;cases h
end L2
set_option maxHeartbeats 4000000
namespace Hd
open PySem PySem.Spec PyProof.Rows L2
abbrev St:=L2.St
theorem Hr (h:n<2^k)(hk:0<k):n.log2<k:=by
 by_cases z:n=0
 ·rw[z];exact hk
 ·exact(Nat.log2_lt z).mpr h
@[irreducible] def lmM:Nat:=2^60000
@[irreducible] def lmD:Nat:=2^8900
theorem RC:lmM=2^60000:=by unfold lmM;rfl
theorem Gs:lmD=2^8900:=by unfold lmD;rfl
theorem bits_le (h:i.natAbs<lmM):iA i<=60000:=by
 unfold iA;split
 ·exact eC _
 ·rw[RC] at h;exact Hr (k:=60000) h<|by decide
def aab (_ j:Int):Prop:=j≠0/\j.natAbs<lmD
def Rf (i j:Int):Prop:=i.natAbs<lmM/\j.natAbs<lmM
theorem Rf.ok (h:Rf i j):IntMulOk i j:=by
 have h1:=bits_le h.1;have h2:=bits_le h.2;have hb:bitsLine=134217728:=rfl;have z:uk (iA i+iA j)=false:=by
  unfold uk;refine decide_eq_false ?_
  lia
 unfold IntMulOk;rw[z]
 simp
section
theorem S8 {i:Int}(h:i.natAbs<2^62):iA i<=64:=by
 unfold iA;split
 ·exact eC _
 ·have:=Hr h (by decide)
  omega
theorem Tu:OpR X (h7 .Mult) (rI (λ_ j=>j.natAbs<2^62) λi j=>.int<|i*j):=opI λ_ _ _ _ _ _ _ hc q=>mul_int q<|IntMulOk.of_right<|S8 hc
theorem Rv:OpR X (h7 .FloorDiv) (rI aab λi j=>.int<|i.fdiv j):=
 opI λ_ _ _ _ _ _ _ hc q=>floordiv_int hc.1 q<|.inl<|PyProof.noPylong_of_log2<|bg (Hr (k:=8900) (Gs▸hc.2)<|by decide)<|by decide
theorem Tq:OpR X (h7 .Mult) (rI Rf λi j=>.int<|i*j):=opI λ_ _ _ _ _ _ _ hc q=>mul_int q hc.ok
end
mutual
inductive DV (K:a6)(H:Hp):V->tw->Prop where
 |non:DV K H .non .none
 |bl (b:Bool):DV K H (.bl b) (.bool b)
 |int (i:Int):DV K H (.int i) (.int i)
 |str (x:Str):DV K H (.str x) (.str x)
 |tup {a:Addr} {xs:List V} {ds:List tw}:SqT K H a xs->DVs K H xs ds->DV K H (.ref a) (.tuple ds)
 |lst {a:Addr} {xs:List V} {ds:List tw}:SqL K H a xs->DVs K H xs ds->DV K H (.ref a) (.list ds)
inductive DVs (K:a6)(H:Hp):List V->List tw->Prop where
 |nil:DVs K H [] []
 |cons {v:V} {vs:List V} {d:tw} {ds:List tw}:DV K H v d->DVs K H vs ds->DVs K H (v::vs) (d::ds)
end
section
mutual
theorem DV.reads (I:Inv X π σ H s):∀{v:V} {d:tw} {u:ay},DV X.K H v d->RelV v u->∃as,Reads s.heap u d as
 |_,_,u,.non,r=>by cases(show u=dy from r);exact⟨_,.none⟩
 |_,_,u,.bl b,r=>by cases(show u=y3 b from r);exact⟨_,.bool b⟩
 |_,_,u,.int i,r=>by obtain⟨t,e⟩:=(show ∃t,u=xC i t from r);subst e;exact⟨_,.int i t⟩
 |_,_,u,.str x,r=>by obtain⟨t,e⟩:=(show ∃t,u=xD x t from r);subst e;exact⟨_,.str x t⟩
 |_,_,u,.tup (a:=a) h hs,r=>by
  cases(show u=bE a from r);obtain⟨its,rv,⟨o,ho,hc,n,hd⟩,_⟩:=I.tuple h;obtain⟨as,ra⟩:=DVs.reads I hs rv;exact⟨as,.tuple ho hc hd<|by simpa using ra⟩
 |_,_,u,.lst (a:=a) h hs,r=>by
  cases(show u=bE a from r);obtain⟨its,rv,⟨o,n,ho,hc,_,hd⟩,_⟩:=I.list h;obtain⟨as,ra⟩:=DVs.reads I hs rv;exact⟨a::as,.list ho hc hd<|by simpa using ra⟩
theorem DVs.reads (I:Inv X π σ H s):∀{vs:List V} {ds:List tw} {us:List ay},DVs X.K H vs ds->Vals vs us->∃as,ReadsAll s.heap us ds as
 |_,_,_,.nil,.nil=>⟨[],.nil⟩
 |_,_,_,.cons h hs,.cons r rs=>by
  obtain⟨as,ra⟩:=DV.reads I h r;obtain⟨bs,rb⟩:=DVs.reads I hs rs;exact⟨as++bs,.cons ra rb⟩
end
end
section
def aaL (K:a6):R2:=λx y H Q=>∃d e,DV K H x d/\DV K H y e/\ia d=true/\ia e=true/\Q (.bl<|kA d e) H
def aa4 (K:a6):R2:=λx y H Q=>∃d e,DV K H x d/\DV K H y e/\ia d=true/\ia e=true/\Q (.bl<|!PyData.eqv d e) H
theorem Wl (hu:X.A.units+64<mn):OpR X (dk .Eq) (aaL X.K):=by
 intro π s σ H x y v u Q I rx ry h;refine Ak h λd e hd he sd se q=>?_;obtain⟨as,ra⟩:=hd.reads I rx;obtain⟨bs,rb⟩:=he.reads I ry;exact eq_dataH ra rb sd se hu<|cg I q rfl
theorem WK (hu:X.A.units+64<mn):OpR X (dk .NotEq) (aa4 X.K):=by
 intro π s σ H x y v u Q I rx ry h;refine Ak h λd e hd he sd se q=>?_;obtain⟨as,ra⟩:=hd.reads I rx;obtain⟨bs,rb⟩:=he.reads I ry;exact ne_dataH ra rb sd se hu<|cg I q rfl
end
section
noncomputable def Vl:V->Option ay
 | .ty n=>some<|.type n
 | .ref a=>some<|.ref a
 |_=>none
theorem FP (e:Vl c=some cv)(r:RelV c u):u=cv:=by
 cases c with
 |ty n=>cases e;exact r
 |ref a=>cases e;exact r
 |_=>cases e
end
section
end
def Tr (B:Heap)(e:Addr)(o:Obj)(us:Array ay)(fl:ay)(h:Heap):Prop:=
 1<us.size/\∃T q ts,h.get? e=some { o with data:=.fields (us.setIfInBounds 1<|.ref T) }/\B.get? T=none/\T≠e/\h.get? T=some q/\q.data=.fields ts/\ts[3]? = some fl
def Fy (B:Heap)(l:List Env)(e:Addr)(o:Obj)(us:Array ay)(fl:ay)(h:Heap):Prop:=B.StaysIn h/\B.get? e=none/\h.FunFrames B l/\Tr B e o us fl h
section
variable {M:Model}{A:cK}{E:Zs}{s:aI}{B:Heap}{env:Env}{l:List Env}{L e:Addr}{o:Obj}{us vs:Array ay}{Q:Unit->aI->Prop}{fl:ay}
theorem Im {head:ay}{nx:Bool}(hA:A.frames=some (env::l))(hf:env.frame=some L)(hl:s.heap.FunFrames B (env::l))(he:s.heap.get? e=some { o with data:=.fields us })(hz:1<us.size)(kb:B.StaysIn s.heap)(hn:B.get? e=none)
  (q:∀h',Fy B (env::l) e o us (nc L) h'->s.heap.UpToSlots h'->Q () { s with heap:=h' }):
  br M A (do let a←frameOf env;let pl←entryPlaceOf L nx;let b←xi head a .none (nc L) .none pl;setField (.ref e) 1 b) Q E s:=by
 have ne:e∉(env::l).filterMap (·.frame):=λz=>by
  obtain⟨_,x,hx,nf⟩:=hl.mem z;rw[he] at hx;cases hx;exact nf us rfl
 refine ae<|wpAny_frameOf_fun hA hl hf λh1 k1=>ae<|wpAny_entryPlaceOf λpl hp=>?_;unfold xi newFields;refine ae<|ef ?_<|hp.sizeOk5 _ _ _ _ _;have e1:=(k1.2.1 e ne).trans he;have b1:B.StaysIn h1:=λb x hb=>(k1.2.1 b λz=>by rw[(hl.mem z).1] at hb;cases hb).trans (kb b x hb);refine ij (ag _ e1) rfl hz<|q _ ?_ ?_
 all_goals
  have te:h1.objs.size≠e:=l9<|ar e1
 ·refine⟨λb x hb=>?_,hn,hl.of_keeps λb x hb nf=>?_,hz,h1.objs.size,_,_,eK _ (ag _ e1) rfl,b1.fresh,te,(b5 _ _ te.symm).trans<|aS h1 rfl,rfl,?_⟩
  ·exact(b5 _ _ λz=>by rw[z,hb] at hn;cases hn).trans (ag _<|b1 b x hb)
  ·obtain⟨sl,z⟩:=k1.2.2 b x hb;exact⟨_,(b5 _ _ λw=>by rw[← w,he] at hb;cases hb;exact nf us rfl).trans (ag _ z),rfl⟩
  ·rcases hp with rfl|⟨_,_,_,_,_,_,_,rfl⟩<;>simp
 ·intro b x hb nf;obtain⟨sl,z⟩:=k1.2.2 b x hb;exact⟨sl,(b5 _ _ λw=>by rw[← w,he] at hb;cases hb;exact nf us rfl).trans (ag _ z)⟩
theorem Z3 {a b:ay}:(us.setIfInBounds 1 a).setIfInBounds 1 b=us.setIfInBounds 1 b:=by simp
theorem Ba {x:ay}(g:Fy B l e o us fl s.heap):∀T q ts,s.heap.get? T=some q->q.data=.fields ts->ts[3]? = some fl->B.get? T=none->T≠e->s.heap.get? e=some { o with data:=.fields (us.setIfInBounds 1<|.ref T) }->
  Fy B l e o us x (s.heap.update T<|i0 (·.setIfInBounds 3 x))/\s.heap.UpToSlots (s.heap.update T<|i0 (·.setIfInBounds 3 x)):=by
 intro T q ts hT hd h3 hb ne he;have ot:∀b,b≠T->(s.heap.update T<|i0 (·.setIfInBounds 3 x)).get? b=s.heap.get? b:=λb z=>b5 _ _ z.symm;have nr:∀b y,s.heap.get? b=some y->(∀vs,y.data≠.fields vs)->b≠T:=λb y z nf w=>by rw[w,hT] at z;cases z;exact nf ts hd
 obtain⟨g1,g2,g3,gz,_⟩:=g;refine⟨⟨λb y z=>(ot b λw=>by rw[w,hb] at z;cases z).trans (g1 b y z),g2,g3.of_keeps λb y z nf=>⟨y,(ot b<|nr b y z nf).trans z,rfl⟩,gz,T,_,_,(ot e ne.symm).trans he,hb,ne,eK _ hT<|uu<|mB hd _,mB hd _,?_⟩,λb y z nf=>⟨y.slots,(ot b<|nr b y z nf).trans z⟩⟩
 have:=(dE.mp h3).1
 simp[this]
theorem sX (g:Fy B l e o us fl s.heap)(q:∀h',Fy B l e o us .none h'->s.heap.UpToSlots h'->Q () { s with heap:=h' }):br M A (setFlight (.ref e) none) Q E s:=by
 obtain⟨_,_,_,z,T,y,ts,he,hb,ne,hT,hd,h3⟩:=id g;unfold setFlight;refine ae<|eB he rfl (x:=.ref T) (by simp[z]) ?_;rw[if_pos<|show(bE T != dy)=true from by simp]
 have:=Ba (x:=.none) g T y ts hT hd h3 hb ne he
 exact ij hT hd (dE.mp h3).1<|q _ this.1 this.2
theorem CV (hA:A.frames=some (env::l))(hf:env.frame=some L)(g:Fy B (env::l) e o us .none s.heap)(q:∀h',Fy B (env::l) e o us (nc L) h'->s.heap.UpToSlots h'->Q () { s with heap:=h' }):br M A (mE (.ref e) env) Q E s:=by
 obtain⟨_,_,_,z,T,y,ts,he,hb,ne,hT,hd,h3⟩:=id g;unfold mE;simp only[hf];refine ae<|eB he rfl (x:=.ref T) (by simp[z]) ?_;rw[if_pos<|show(bE T != dy)=true from by simp];refine ae<|eB hT hd h3 ?_;rw[if_neg<|show ¬((dy==nc L)=true) from by simp[nc]];obtain⟨g',u'⟩:=Ba (x:=.none) g T y ts hT hd h3 hb ne he;refine ae<|ij hT hd (dE.mp h3).1 ?_;have he':=(b5 s.heap (i0 (·.setIfInBounds 3 dy)) ne).trans he;refine Im (us:=us.setIfInBounds 1<|.ref T) hA hf g'.2.2.1 he' (by simpa using z) g'.1 g.2.1 λh2 g2 u2=>q h2 ?_<|u'.trans u2;obtain⟨a,b,c,z',T',r⟩:=g2;rw[Z3] at r;exact⟨a,b,c,z,T',r⟩
theorem QB (hf:env.frame=some L)(g:Fy B (env::l) e o us (nc L) s.heap)(q:Q () s):br M A (mE (.ref e) env) Q E s:=by
 obtain⟨_,_,_,z,T,y,ts,he,hb,ne,hT,hd,h3⟩:=id g;unfold mE;simp only[hf];refine ae<|eB he rfl (x:=.ref T) (by simp[z]) ?_;rw[if_pos<|show(bE T != dy)=true from by simp];refine ae<|eB hT hd h3 ?_;rw[if_pos<|show(nc L==nc L)=true from by simp];exact ah q
theorem Fy.tail (g:Fy B (env::l) e o us fl h):Fy B l e o us fl h:=let⟨a,b,⟨_,_,c⟩,d⟩:=g;⟨a,b,c,d⟩
theorem NZ (hA:A.frames=some (env::l))(hf:env.frame=some L)(g:Fy B (env::l) e o us .none s.heap)(q:∀h',Fy B l e o us .none h'->s.heap.UpToSlots h'->Q () { s with heap:=h' }):br M A (y6 env<|.ref e) Q E s:=by
 unfold y6;exact ae<|CV hA hf g λh1 g1 u1=>sX g1 λh2 g2 u2=>q h2 g2.tail<|u1.trans u2
theorem Nr (hA:A.frames=some (env::l))(hf:env.frame=some L)(hl:s.heap.FunFrames B (env::l))(he:s.heap.get? e=some { o with data:=.fields us })(h1:us[1]? = some .none)(kb:B.StaysIn s.heap)(hn:B.get? e=none)
  (q:∀h',Fy B l e o us .none h'->s.heap.UpToSlots h'->Q () { s with heap:=h' }):br M A (y6 env<|.ref e) Q E s:=by
 unfold y6 mE;simp only[hf];refine ae<|ae<|eB he rfl h1 ?_;rw[if_neg<|by decide];exact Im hA hf hl he (dE.mp h1).1 kb hn λh2 g2 u2=>sX g2 λh3 g3 u3=>q h3 g3.tail<|u2.trans u3
end
theorem cO.at' {P:bq}{w:dc}{H:Hp}{h:Heap}{a:Addr}{o:HO}(x:cO P w H h a o):∃u,h.get? a=some u:=by
 cases o with
 |lst xs=>obtain⟨_,_,_,_,e⟩:=x;exact⟨_,e⟩
 |tup xs=>obtain⟨_,_,_,o,e,_⟩:=x;exact⟨_,e⟩
 |dK ι=>obtain⟨_,_,_,_,o,_,_,e,_⟩:=x;exact⟨_,e⟩
 |dT ι=>obtain⟨_,_,_,_,o,_,_,e,_⟩:=x;exact⟨_,e⟩
 |set S n=>obtain⟨o,_,_,_,e,_⟩:=x;exact⟨_,e⟩
 |ins C dx fs=>obtain⟨_,_,_,e,_⟩:=x;exact⟨_,e⟩
 |own y=>exact x
 |xd fs=>obtain⟨_,⟨_,_,_,e,_⟩,_⟩:=x;exact⟨_,e⟩
 |rng lo hi=>obtain⟨_,_,_,e⟩:=x;exact⟨_,e⟩
 |frz ob u=>obtain⟨e,_⟩:=x;exact⟨_,e⟩
 |tbl ps=>exact⟨_,(show h.get? a=some _ from x)⟩
 |met f y=>exact⟨_,(show h.get? a=some _ from x)⟩
 |ext φ=>obtain⟨_,e,_⟩:=x;exact e
structure Fly (P:bq)(w:dc)(outer:List Env)(H:Hp)(s:aI)(e:ay)(s':aI)(ea:Addr)(ob:Obj)(us:Array ay)(B:Heap)(H':Hp):Prop where
 is:e=.ref ea
 os:s'.os=s.os
 bare:rL s'.gens
 fly:Fy B outer ea ob us .none s'.heap
 ctx:us[2]? = some .none
 keep:∀b o,s.heap.get? b=some o->H b=none->b∉frs outer->B.get? b=some o
 slot:∀b o,s.heap.get? b=some o->b∈frs outer->∃sl,s'.heap.get? b=some { o with slots:=sl }
 free:∀b o,s.heap.get? b=some o->H b=none->H' b=none
 there:∀b o,s.heap.get? b=some o->b∉frs outer->∃o',B.get? b=some o'
 tups:∀b xs,H b=some (.tup xs)->H' b=some (.tup xs)
 frzs:∀b o u,H b=some (.frz o u)->H' b=some (.frz o u)
 tbls:∀b ps,H b=some (.tbl ps)->∃more,H' b=some (.tbl (ps++more))
 hok:HOk P w H' B
 new:s.heap.get? ea=none
 nin:H' ea=none
def CX1 (P:bq)(w:dc):CXT:=λouter H s E e s'=>∃ea ob us B H',Fly P w outer H s e s' ea ob us B H'/\E ob.cls ob.dict H'
theorem yC {env:Env}{l:List Env}{L b:Addr}(hf:env.frame=some L)(h:b∈frs (env::l)):b=L\/b∈frs l:=by
 unfold frs at h;rw[l6,hf] at h;rcases bP.mp h with z|z
 ·exact .inl z
 ·exact .inr z
theorem Ez {env:Env}{l:List Env}{b:Addr}(h:b∈frs l):b∈frs (env::l):=by
 unfold frs at h ⊢;obtain⟨e,he,hf⟩:=kC.mp h;exact kC.mpr ⟨e,be _ he,hf⟩
section
variable {P:bq}{w:dc}{K:a6}{mg:Zp}{base:Heap}{N:List Str}{qual:Str}{scope:l0}{f:Addr}{cd:ay}{A:cK}{outer:List Env}{s:aI}{H:Hp}{E:XK}
theorem Lk {π:Zl}{σ:St}{H1:Hp}{s1:aI}{h':Heap}{ea:Addr}{ob:Obj}{us:Array ay}
  (I:Inv (j7 (CX1 P w) P w K mg base N qual scope f cd A outer s H E) π σ H1 s1) (kp:∀b o,s1.heap.get? b=some o->h'.get? b=some o) (new:s1.heap.get? ea=none) (he:h'.get? ea=some { ob with data:=.fields us }) (u1:us[1]? = some .none) (u2:us[2]? = some .none) (hw:E ob.cls ob.dict H1):
  (j7 (CX1 P w) P w K mg base N qual scope f cd A outer s H E).xe (.ref ea) { s1 with heap:=h' }:=by
 have hin:∀env∈(j7 (CX1 P w) P w K mg base N qual scope f cd A outer s H E).stack,∀b,env.frame=some b->b∈(j7 (CX1 P w) P w K mg base N qual scope f cd A outer s H E).stack.filterMap (·.frame):=
  λenv he b hb=>kC.mpr ⟨env,he,hb⟩
 have nfr:∀b o,s.heap.get? b=some o->b∉frs outer->b∉(j7 (CX1 P w) P w K mg base N qual scope f cd A outer s H E).stack.filterMap (·.frame):=λb o q nb hb=>by
  rcases yC (L:=s.heap.objs.size) rfl hb with z|z
  ·exact absurd (ar q) (by rw[z];exact eD _)
  ·exact nb z
 have nx:∀b:Addr,b∉(j7 (CX1 P w) P w K mg base N qual scope f cd A outer s H E).ex:=λb z=>absurd (show b∈([]:List Addr) from z) (by simp);have nb:(om s1.heap<|frs (j7 (CX1 P w) P w K mg base N qual scope f cd A outer s H E).stack).get? ea=none:=by
  cases q:(om s1.heap<|frs (j7 (CX1 P w) P w K mg base N qual scope f cd A outer s H E).stack).get? ea with
  |none=>rfl
  |some o=>have:=rf _ q;rw[new] at this;cases this
 refine Nr (B:=om s1.heap<|frs (j7 (CX1 P w) P w K mg base N qual scope f cd A outer s H E).stack) (L:=s.heap.objs.size) (l:=outer) I.ok.frames rfl ((W.funFrames_hide I.stack hin).of_keeps λb o q _=>⟨o,kp b o q,rfl⟩) he u1 (λb o q=>kp b o<|rf _ q) nb λh2 x1 x4=>?_;refine⟨ea,ob,us,_,H1,⟨rfl,I.os,I.bare,x1,u2,λb o q n nb=>?_,λb o q hb=>?_,λb o q n=>I.base.free b o q n<|nx b,λb o q nb=>?_,I.base.tups,I.base.frzs,I.base.tbls,λb u e=>?_,?_,?_⟩,hw⟩
 ·exact kT _ (I.base.keep b o q n nb<|nx b)<|nfr b o q nb
 ·obtain⟨sl,e1⟩:=I.base.slot b o q (I.ok.frf b hb) hb<|nx b;obtain⟨_,o',ho',hnf⟩:=I.ok.ni.mem hb;have eo:o=o':=bX<|q.symm.trans ho';obtain⟨sl2,e2⟩:=x4 b _ (kp _ _ e1) λv z=>hnf v (by rw[← eo];exact z);exact⟨sl2,e2⟩
 ·obtain⟨o',e1⟩:=I.base.there b o q<|nx b;exact⟨o',kT _ e1<|nfr b o q nb⟩
 ·refine(I.hok b u e).stay (λc v hc q=>kT _ q λhm=>?_) (λ_ q=>q) λ_ _ q=>q;have z:=I.BR c hm;rcases hc with hc|hc
  ·rw[hc,e] at z;cases z
  ·rw[hc] at z;cases z
 ·cases q:s.heap.get? ea with
  |none=>rfl
  |some o=>
   obtain⟨o',e1⟩:=I.base.there ea o q<|nx ea;rw[new] at e1;cases e1
 ·cases q:H1 ea with
  |none=>rfl
  |some o=>
   obtain⟨o',e1⟩:=cO.at'<|I.hok ea o q;rw[new] at e1;cases e1
theorem lE {π:Zl}{σ:St}{H1:Hp}{s1:aI}{h':Heap}{ea:Addr}{cls:ay}{vs:List ay}
  (I:Inv (j7 (CX1 P w) P w K mg base N qual scope f cd A outer s H E) π σ H1 s1) (hx:rS s1.heap h' ea cls vs) (hw:E cls none H1):
  (j7 (CX1 P w) P w K mg base N qual scope f cd A outer s H E).xe (.ref ea) { s1 with heap:=h' }:=by
 obtain⟨t,he,_⟩:=hx.there;exact Lk (ob:={ cls:=cls }) I hx.keeps hx.new he rfl rfl hw
theorem bF:Passes (CX1 P w) (j7 (CX1 P w) P w K mg base N qual scope f cd A outer s H E) E:=by
 intro π σ H1 s1 e s' I h;obtain⟨ea,ob,us,B,H',F,hw⟩:=h;obtain rfl:=F.is;have nfr:∀b o,s.heap.get? b=some o->b∉frs outer->b∉frs (j7 (CX1 P w) P w K mg base N qual scope f cd A outer s H E).stack:=λb o q nb hb=>by
  rcases yC (L:=s.heap.objs.size) rfl hb with z|z
  ·exact absurd (ar q) (by rw[z];exact eD _)
  ·exact nb z
 have nx:∀b:Addr,b∉(j7 (CX1 P w) P w K mg base N qual scope f cd A outer s H E).ex:=λb z=>absurd (show b∈([]:List Addr) from z) (by simp);refine NZ (B:=B) (l:=outer) (L:=s.heap.objs.size) I.ok.frames rfl F.fly λh2 x1 x2=>?_;refine⟨ea,ob,us,B,H',⟨rfl,F.os.trans I.os,F.bare,x1,F.ctx,λb o q n nb=>?_,λb o q hb=>?_,λb o q n=>?_,λb o q nb=>?_,λb xs q=>F.tups b xs<|I.base.tups b xs q,λb o u q=>F.frzs b o u<|I.base.frzs b o u q,λb ps q=>?_,F.hok,?_,F.nin⟩,hw⟩
 ·exact F.keep b o (I.base.keep b o q n nb<|nx b) (I.base.free b o q n<|nx b)<|nfr b o q nb
 ·obtain⟨sl,e1⟩:=I.base.slot b o q (I.ok.frf b hb) hb<|nx b;obtain⟨_,o',ho',hnf⟩:=I.ok.ni.mem hb;have eo:o=o':=bX<|q.symm.trans ho';obtain⟨sl1,e2⟩:=F.slot b _ e1<|Ez hb;obtain⟨sl2,e3⟩:=x2 b _ e2 λv z=>hnf v (by rw[← eo];exact z);exact⟨sl2,e3⟩
 ·obtain⟨o',e1⟩:=I.base.there b o q<|nx b;exact F.free b o' e1<|I.base.free b o q n<|nx b
 ·obtain⟨o',e1⟩:=I.base.there b o q<|nx b;exact F.there b o' e1<|nfr b o q nb
 ·obtain⟨m1,e1⟩:=I.base.tbls b ps q;obtain⟨m2,e2⟩:=F.tbls b _ e1;exact⟨m1++m2,by rw[e2,rg]⟩
 ·cases q:s.heap.get? ea with
  |none=>rfl
  |some o=>
   obtain⟨o',e1⟩:=I.base.there ea o q<|nx ea;rw[F.new] at e1;cases e1
end
theorem Es {P:bq}{w:dc}{X:Cx}:Passes (CX1 P w) X E0:=λ_ _ _ _ _ _ _ ⟨_,_,_,_,_,_,z⟩=>z.elim
def rK (ea:Addr)(cls:ay)(h:Heap):Prop:=∃o,h.get? ea=some o/\o.cls=cls/\∃vs,o.data=.fields vs
section
variable {X:Cx}{π:Zl}{σ:St}{H H':Hp}{s s':aI}{e:ay}{ea:Addr}{ob:Obj}{us:Array ay}{B:Heap}
theorem Fly.inv (F:Fly X.prog X.w X.stack H s e s' ea ob us B H')(I:Inv X π σ H s){h2:Heap}{tk:Nat}(k1:B.StaysIn h2)(k2:s'.heap.UpToSlots h2):Inv X π σ H' { s' with heap:=h2,toks:=tk }:=by
 have nf:∀b∈frs X.stack,∀o,s.heap.get? b=some o->∀vs,o.data≠.fields vs:=λb hb o q=>by
  obtain⟨_,o',ho',hnf⟩:=I.stack.mem hb;have eo:o=o':=bX<|q.symm.trans ho';rw[eo];exact hnf
 refine I.call' (s':={ s' with heap:=h2,toks:=tk }) (ch:=[]) F.os ⟨λb o q n hb _=>k1 b o<|F.keep b o q n hb,λb o q n hb _=>?_,λb o q n _=>F.free b o q n,λb o q _=>?_,F.tups,F.frzs,F.tbls⟩ (F.hok.kept k1) F.bare (λb z=>nomatch z)
 ·obtain⟨sl,e1⟩:=F.slot b o q hb;obtain⟨sl2,e2⟩:=k2 b _ e1<|nf b hb o q;exact⟨sl2,e2⟩
 ·by_cases hb:b∈frs X.stack
  ·obtain⟨sl,e1⟩:=F.slot b o q hb;obtain⟨sl2,e2⟩:=k2 b _ e1<|nf b hb o q;exact⟨_,e2⟩
  ·obtain⟨o',e1⟩:=F.there b o q hb;exact⟨o',k1 b o' e1⟩
end
section
variable {X:Cx}{π:Zl}{σ:St}{H H':Hp}{s s':aI}{e:ay}{ea:Addr}{ob:Obj}{us:Array ay}{B:Heap}
theorem Fly.aa7 (F:Fly X.prog X.w X.stack H s e s' ea ob us B H')(I:Inv X π σ H s){h2:Heap}{tk:Nat}{ox:Obj}(k1:B.StaysIn h2)(k2:s'.heap.UpToSlots h2)(kx:h2.get? ea=some ox)(kf:∃vs,ox.data=.fields vs):
  Inv X π σ (upd H' ea<|.frz ox<|.ext<|rK ea ox.cls) { s' with heap:=h2,toks:=tk }:=by
 have J:=F.inv I (tk:=tk) k1 k2;have nf:∀b∈frs X.stack,∀o,s.heap.get? b=some o->∀vs,o.data≠.fields vs:=λb hb o q=>by
  obtain⟨_,o',ho',hnf⟩:=I.stack.mem hb;have eo:o=o':=bX<|q.symm.trans ho';rw[eo];exact hnf
 have ne:∀b o,s.heap.get? b=some o->b≠ea:=λb o q z=>by rw[z,F.new] at q;cases q
 have ne':∀b u,H' b=some u->b≠ea:=λb u q z=>by rw[z,F.nin] at q;cases q
 refine I.call' (s':={ s' with heap:=h2,toks:=tk }) (ch:=[]) F.os ⟨λb o q n hb _=>k1 b o<|F.keep b o q n hb,λb o q n hb _=>?_,λb o q n _=>?_,λb o q _=>?_,λb xs q=>?_,λb o u q=>?_,λb ps q=>?_⟩ (λb u q=>?_) F.bare (λb z=>nomatch z)
 ·obtain⟨sl,e1⟩:=F.slot b o q hb;obtain⟨sl2,e2⟩:=k2 b _ e1<|nf b hb o q;exact⟨sl2,e2⟩
 ·rw[bT<|ne b o q];exact F.free b o q n
 ·by_cases hb:b∈frs X.stack
  ·obtain⟨sl,e1⟩:=F.slot b o q hb;obtain⟨sl2,e2⟩:=k2 b _ e1<|nf b hb o q;exact⟨_,e2⟩
  ·obtain⟨o',e1⟩:=F.there b o q hb;exact⟨o',k1 b o' e1⟩
 ·have z:=F.tups b xs q;rw[bT<|ne' b _ z];exact z
 ·have z:=F.frzs b o u q;rw[bT<|ne' b _ z];exact z
 ·obtain⟨m,z⟩:=F.tbls b ps q;exact⟨m,by rw[bT<|ne' b _ z];exact z⟩
 ·by_cases hb:b=ea
  ·subst hb;rw[bu] at q;cases q;exact⟨kx,⟨ox,kx,rfl,kf⟩,⟨ox,kx⟩,λh1 h3 ⟨o1,ho1,r1⟩ k=>⟨o1,k o1 ho1,r1⟩⟩
  ·rw[bT hb] at q;refine(F.hok.kept k1 b u q).stay (λ_ _ _ z=>z) (λc z=>?_) λc xs z=>?_
   ·rw[bT<|ne' c _ z];exact z
   ·rw[bT<|ne' c _ z];exact z
theorem Hg {i:Nat}{n:Str}{h2:Heap}{tk:Nat}{m:Zp}{v:Option ay}(I:Inv X π σ H s)(hN:X.N.Nodup)(hi:X.N[i]? = some n)
  (hl:∀(j:Nat) (y:Str) (v:V),X.N[j]? = some y->σ[j]? = some (some v)->Vis X.env.scope y->∃u,RelV v u/\Look X.env s.heap m y u)
  (hn:h2.Ns X.env.locals (λy=>if y=n then v else m y)) (hs:h9 X.env.locals s.heap h2):Inv X π (σ.set i none) H { s with heap:=h2,toks:=tk }:=by
 have hiσ:i<σ.length:=by rw[I.len];exact(dS.mp hi).1
 have neL:∀b o,X.s₀.heap.get? b=some o->b≠X.env.locals:=λb o q=>a5<|bg (ar q) I.ok.above;have neT:∀b u,H b=some u->b≠X.env.locals:=λb u q z=>by rw[z,I.free] at q;cases q
 refine⟨I.ok,I.os,I.bare,⟨λb o q n' hb hx=>?_,λb o q n' hb hx=>?_,I.base.free,λb o q hx=>?_,I.base.tups,I.base.frzs,I.base.tbls⟩,⟨_,hn,λj y w' e1 e2 e3=>?_⟩,λy c q=>?_,I.free,I.freeC,λp hp=>?_,λb u q=>?_,by simpa using I.len⟩
 ·exact(hs.2 b<|neL b o q).trans (I.base.keep b o q n' hb hx)
 ·obtain⟨sl,e1⟩:=I.base.slot b o q n' hb hx;exact⟨sl,(hs.2 b<|neL b o q).trans e1⟩
 ·obtain⟨o',e1⟩:=I.base.there b o q hx;exact⟨o',(hs.2 b<|neL b o q).trans e1⟩
 ·by_cases hj:j=i
  ·subst hj;rw[dn hiσ] at e2;cases e2
  ·rw[dA<|i7 hj] at e2;obtain⟨u,r,l⟩:=hl j y w' e1 e2 e3;refine⟨u,r,?_⟩;rcases l with⟨k,z⟩|⟨k,c,z,z2⟩
   ·refine .inl ⟨k,?_⟩;have ny:y≠n:=λq=>hj<|ym hN e1<|q▸hi;show(if y=n then v else m y)=some u;rw[if_neg ny];exact z
   ·exact .inr ⟨k,c,z,z2.sameBut hs<|I.cne y c z⟩
 ·obtain⟨w',z⟩:=I.cell y c q;exact⟨w',z.sameBut hs<|I.cne y c q⟩
 ·obtain⟨e1,n1,ne1,nf1,d1⟩:=I.pin p hp;exact⟨(hs.2 p.1 ne1).trans e1,n1,ne1,nf1,d1⟩
 ·refine(I.hok b u q).stay (λc w' hc z=>(hs.2 c ?_).trans z) (λ_ z=>z) λ_ _ z=>z;rcases hc with hc|hc
  ·rw[hc];exact neT b u q
  ·exact neT c _ hc
def Hi (A:cK)(H:Hp):Prop:=∃x o u vs,A.handled=some (.ref x)/\H x=some (.frz o u)/\o.data=.fields vs/\vs[2]? = some .none
def inh (X:Cx)(ea:Addr):Cx:={ X with A:=X.A.mark<|some<|.ref ea,calm:=false,xe:=λ_ _=>False }
theorem Yi (ok:X.Ok)(ea:Addr):(inh X ea).Ok:=
 ⟨ok.mod,ok.kind,ok.glob,ok.blt,ok.above,ok.inj,ok.has,ok.cab,λz=>(by cases(show false=true from z)),ok.frames,ok.stk,ok.exf,ok.bs,ok.bsz,ok.noex,ok.exfs,ok.ni,ok.frf⟩
theorem JR (I:Inv X π σ H s)(ea:Addr):Inv (inh X ea) π σ H s:=⟨Yi I.ok ea,I.os,I.bare,I.base,I.loc,I.cell,I.free,I.freeC,I.pin,I.hok,I.len⟩
theorem Lh (I:Inv (inh X ea) π σ H s)(ok:X.Ok):Inv X π σ H s:=⟨ok,I.os,I.bare,I.base,I.loc,I.cell,I.free,I.freeC,I.pin,I.hok,I.len⟩
end
def PEx (X:Cx)(e:Expr)(t:St->Hp->VK->XK->Prop):Prop:=
 ∀(π:Zl) (s:aI) (σ:St) (H:Hp) (Q:VK) (E:XK),Inv X π σ H s->t σ H Q E->
  br (b0 X.prog X.w) X.A (eval e X.env) (EP X π σ Q) (λx s'=>∃H1 s1,Inv X π σ H1 s1/\CX1 X.prog X.w X.stack H1 s1 E x s') s
def PSx (X:Cx)(sts:List Stmt)(t:Ends->(St->XK)->St->Hp->Prop):Prop:=
 ∀(π:Zl) (s:aI) (σ:St) (H:Hp) (D:Ends) (E:St->XK),Inv X π σ H s->t D E σ H->
  br (b0 X.prog X.w) X.A (execs sts X.env) (SP X π D) (λx s'=>∃σ1 H1 s1,Inv X π σ1 H1 s1/\CX1 X.prog X.w X.stack H1 s1 (E σ1) x s') s
section
variable {X:Cx}{k:Nat}{f:Addr}{fd:gc}{ps:List Str}{sp:Sp}{x:Str}{p pos pos':Pos}{e:Expr}{es:List Expr}{t:TA}
theorem SN (F:dF X.prog X.w X.K X.mg X.base (CX1 X.prog X.w) k f fd ps sp)(hr:fB k X.A)(hg:Gl X x)(hm:X.mg x=some (.ref f))(hk:sD X.K (.ref f)=true)(hb:Binds X.K fd ps [])
  (ha:PA X.nox (e::es) t) (hdb:(x==("__debug__":Str))=false:=by decide) (he:av (e::es) X.env=(false,eval e X.env)::av es X.env:=by rfl) (ζ:(iq pos<|av es X.env).any (·.1)=false:=by rfl):
  PEx X (.Call (.Name x p) (e::es) [] pos) (λσ H Q E=>t σ H λvs H1=>sp vs H1 Q E):=by
 intro π s σ H Q E I h;refine hG<|qQ I hg hm ?_ hdb;refine zo (h₀:=X.base) I.ok.mod.kin hk (d3 (ha pos π s σ H _ (I.wish _) h) (λus s1 hE=>xq2 hE λvs H1 I1 r q=>⟨I1.uB.kIn,?_⟩) λ_ _ z=>ff z) he ζ;have I2:=I1.uB;have hl:(us++[]).length=ps.length:=by rw[cw,← r.length];exact F.len _ _ _ _ q
 have hbs:=hb s1 us I2.kIn hl;rw[cw] at hbs;refine wpAny_call<|rh (F.run X.A X.stack s1 H1 ⟨us,[]⟩ us vs Q E hr I2.env0 hbs r q) λr s' hq=>?_;cases r with
 |error e=>exact⟨H1,s1,I2,hq⟩
 |ok fl=>
  cases fl with
  |ret u=>exact I2.after hq
  |next=>exact ff hq
  |brk=>exact ff hq
  |cont=>exact ff hq
theorem Yj {st:Stmt}{t:Ends->(St->XK)->St->Hp->Prop}
  (h:∀(π:Zl) (s:aI) (σ:St) (H:Hp) (D:Ends) (E:St->XK),Inv X π σ H s->t D E σ H->
   br (b0 X.prog X.w) X.A (exec st X.env) (SP X π D) (λx s'=>∃σ1 H1 s1,Inv X π σ1 H1 s1/\CX1 X.prog X.w X.stack H1 s1 (E σ1) x s') s):PSx X [st] t:=by
 intro π s σ H D E I hq;refine tj<|thn (h π s σ H D E I hq) λfl s1 q=>?_;cases fl with
 |next=>exact kF q
 |ret v=>exact q
 |brk=>exact q
 |cont=>exact q
theorem Tz {te:St->Hp->VK->XK->Prop}(he:PEx X e te)(hs:gs e none pos.line X.env=pure false:=by rfl):PSx X [.Expr e pos] (λD E σ H=>te σ H (λ_ H1=>D.nx σ H1)<|E σ):=
 Yj λπ s σ H D E I h=>
  wpAny_Expr_any (d3 (he π s σ H _ _ I h) (λ_ _ ⟨_,H1,I1,_,q1⟩=>⟨σ,H1,I1,q1⟩) λ_ _ ⟨H1,s1,J,c⟩=>⟨σ,H1,s1,J,c⟩) I.quiet hs
end
def Wg (i:Nat)(D:Ends):Ends:={ nx:=λσ H=>D.nx (σ.set i none) H,rt:=D.rt,bk:=λσ H=>D.bk (σ.set i none) H,ct:=λσ H=>D.ct (σ.set i none) H }
def abm (K:a6)(DC:Addr)(i:Nat)(tb:Ends->(St->XK)->St->Hp->Prop)(ts:Addr->TS):TS:=λD σ H=>
 tb D (λσ1 cls od H'=>v3 K cls (.ref DC)=some true/\∀ea ox,H' ea=none->ox.cls=cls->ox.dict=od->(∃vs,ox.data=.fields vs/\vs[2]? = some .none)->ts ea (Wg i D) (σ1.set i<|some<|.ref ea) (upd H' ea<|.frz ox<|.ext<|rK ea cls)) σ H
theorem XF {X:Cx}{body suite:List Stmt}{b₀:Stmt}{x n:Str}{np hpos pos:Pos}{i:Nat}{DC:Addr}{tb:Ends->(St->XK)->St->Hp->Prop}{ts:Addr->TS}
  (hst:X.stack=X.env::X.outer) (hfr:X.env.frame=some X.env.locals) (hb:PSx X body tb) (hN:X.N.Nodup) (hi:X.N[i]? = some n) (hn:X.env.scope.names.lookup n=some .local)
  (hg:Gl X x) (hm:X.mg x=some (.ref DC)) (hs:∀ea,PSs (inh X ea) (b₀::suite)<|ts ea) (hd:(x==("__debug__":Str))=false:=by decide):
  PS X (.Try body [.ExceptHandler (some<|.Name x np) (some n) (b₀::suite) hpos] [] [] pos) (abm X.K DC i tb ts):=by
 intro π s σ H D I h;refine wpAny_Try_except<|d3 (hb π s σ H D _ I h) (λfl s1 q=>?_) λx' s' ⟨σ1,H1,s1,J,c⟩=>?_
 ·cases fl with
  |next=>exact kF q
  |ret v=>exact q
  |brk=>exact q
  |cont=>exact q
 ·obtain⟨ea,ob,us,B,H',F,hx,hw⟩:=c;obtain rfl:=F.is;have hcls:(X.env.scope.kind==.class||(X.env.scope.kind==.module&&X.env.locals != X.env.globals))=false:=by rw[J.ok.kind];rfl
  have hfly:=F.fly;rw[hst] at hfly;have hA:=J.ok.frames;rw[hst] at hA;refine CV hA hfr hfly λh4 g4 u4=>?_;refine sX g4 λh5 g5 u5=>?_;have J5:=F.inv J (tk:=s'.toks) g5.1<|u4.trans u5;have JI5:=JR J5 ea;have x5:∀{hh:Heap},Fy B (X.env::X.outer) ea ob us .none hh->∃o,hh.get? ea=some o/\o.cls=ob.cls:=λ⟨_,_,_,_,_,_,_,q,_⟩=>⟨_,q,rfl⟩;refine wpAny_handleBy_cons (codeAny_handlers_test<|qQ (X:=inh X ea) JI5 hg hm ?_ hd) (by intro q;cases q);obtain⟨o5,e5,c5⟩:=x5 g5;have LT:W.Looks (b0 X.prog X.w) h5 (typeOf<|.ref ea) ob.cls:=c5▸(W.Looks.ld e5).andThen .now;refine(W.exm_one (M:=b0 X.prog X.w) J5.kIn LT hx).here ?_;refine codeAny_handlers_suite_as ?_;refine sX g5 λh6 g6 u6=>?_;obtain⟨_,_,_,z6,T6,_,_,e6,_⟩:=id g6;have c6:(us.setIfInBounds 1<|.ref T6)[2]? = some dy:=by rw[Array.getElem?_setIfInBounds_ne<|by decide];exact F.ctx
  have J6:=F.aa7 J (tk:=s'.toks) g6.1 ((u4.trans u5).trans u6) e6 ⟨_,rfl⟩;refine ye (X:=inh X ea) (JR J6 ea) hN hi (.inl hn) (show RelV (.ref ea) (.ref ea) from rfl) (λs7 J7=>?_) (.inr hn);refine d3 (hs ea π s7 _ _ (Wg i D) J7<|hw ea _ F.nin rfl rfl ⟨_,rfl,c6⟩) (λfl s8 q=>?_) λ_ _ z=>ff z;have go:∀{σ8:St} {H8:Hp},Inv (inh X ea) π σ8 H8 s8->(∀{s9:aI},Inv X π (σ8.set i none) H8 s9->SP X π D fl s9)->
    br (b0 X.prog X.w) X.A (do bindName X.env n .none;unbindBehindTheSuite X.env n hpos) (λ_ s9=>SP X π D fl s9) X.xe s8:=λJ8 k=>by
   have J9:=Lh J8 J.ok;obtain⟨m,hm',hl⟩:=J9.loc;exact wpAny_nameGoes_keeps (m:=m) hn hm' hcls λh9 v hn9 hs9=>k<|Hg J9 hN hi hl hn9 hs9
  cases fl with
  |next=>obtain⟨σ8,H8,J8,q⟩:=q;exact go J8 λJ9=>⟨_,H8,J9,q⟩
  |brk=>obtain⟨σ8,H8,J8,q⟩:=q;exact go J8 λJ9=>⟨_,H8,J9,q⟩
  |cont=>obtain⟨σ8,H8,J8,q⟩:=q;exact go J8 λJ9=>⟨_,H8,J9,q⟩
  |ret u=>obtain⟨v,σ8,H8,J8,r,q⟩:=q;exact go J8 λJ9=>⟨v,_,H8,J9,r,q⟩
theorem U0 {K:a6}{h:Heap}(X:K.In h)(q:y9 K C bmB newId=true):
  ∃bm N nm qn bs hdct sn sub ab col dd k0 k1 k2 k3 k5 mN,h.get? C=some (excClassObj nm qn C N bs bm hdct sn sub ab col dd k0 k1 k2 k3 k5 newId)/\h.Ns N mN/\mN "__init__" = none/\OwnTail h bmB bm:=by
 unfold y9 at q;split at q
 case h_2=>cases q
 case h_1 dd cd sl ho=>
  split at q
  case h_2=>cases q
  case h_1 C' bm k0 k1 k2 k3 n k5 hm hs=>
   simp only[beq_iff_eq,ku,Bool.not_eq_true'] at q;obtain⟨⟨⟨⟨⟨z1,z2⟩,hdel⟩,ht⟩,hok⟩,hni⟩:=q;subst z1;subst z2;obtain⟨nm,bs,mro,ns,qn,hd,sn,sub,ab,col,del⟩:=cd;have hm':mro=.ref C'::bm:=hm;have hdel':del=false:=hdel;subst hm';subst hdel';obtain⟨l⟩:=sl;have hs':l=[k0,k1,k2,k3,some<|.builtin n,k5]:=hs;subst hs';exact⟨bm,ns,nm,qn,bs,hd,sn,sub,ab,col,dd,k0,k1,k2,k3,k5,_,X _ _ ho,.of_isNs<|W.isNs_of_in X hok,W.nsMap_none_of_in X hok hni,W.tail_of_in X ht⟩
section
variable {X:Cx}{x:Str}{e₀:Expr}{np χ pos:Pos}{te:TE}{C:Addr}{bmB:List ay}{B newId initId:String}
theorem Oe {W:XK}(FB:ExcBaseFacts B newId initId bmB)(hq:PySem.W.excIn X.K C bmB newId=true)(hg:Gl X x)(hm:X.mg x=some (.ref C))(hh:X.A.handled=none)(he:PE X e₀ te)
  (hx:∀(π:Zl) (σ:St) (H:Hp) (s:aI) (h':Heap) (ea:Addr) (vs:List ay),Inv X π σ H s->rS s.heap h' ea (.ref C) vs->W (.ref C) none H->X.xe (.ref ea) { s with heap:=h' })
  (hd:(x==("__debug__":Str))=false:=by decide) (hs:av [e₀] X.env=(false,eval e₀ X.env)::av [] X.env:=by rfl):
  PS X (.Raise (some<|.Call (.Name x np) [e₀] [] χ) none pos) (λ_ σ H=>te σ H λv H1=>[v].length=1/\W (.ref C) none H1):=by
 intro π s σ H D I h;obtain⟨bm,N,nm,qn,bs,hdct,sn,sub,ab,col,dd,k0,k1,k2,k3,k5,mN,hC,hN,hni,T⟩:=U0 I.ok.mod.kin hq;refine wpAny_Raise_call_subT (C:=C) (N:=N) (nm:=nm) (q:=qn) (bs:=bs) (bm:=bm) (hdct:=hdct) (sn:=sn) (sub:=sub) (ab:=ab) (col:=col) (dd:=dd) (k0:=k0) (k1:=k1) (k2:=k2) (k3:=k3) (k5:=k5) FB (T.hasType FB.hasBase) hh (by rw[hs];rfl) hni<|qQ I hg hm ⟨rfl,?_⟩ hd;have pa:=iG he oW hs χ π s σ H (λvs H1=>vs.length=1/\W (.ref C) none H1) I h;rw[hs] at pa ⊢;refine pd<|thn pa λus s2 hE=>xq2 hE λvs H2 I2 r q=>⟨rfl,?_,I2.bk _ _ hC,hN.keeps I2.bk,T.keeps I2.bk,λh' ea mk=>hx π σ H2 s2 h' ea us I2 mk q.2⟩;rw[← r.length,q.1];decide
end
structure Fn (P:bq)(w:dc)(K:a6)(mg:Zp)(base:Heap)(k:Nat)(x:Str)(ps:List Str)(sp:Sp):Prop where
 ex:∃f fd,dF P w K mg base (CX1 P w) k f fd ps sp/\Binds K fd ps []/\sD K (.ref f)=true/\mg x=some (.ref f)
section
theorem ZS (F:Fn X.prog X.w X.K X.mg X.base k x ps sp)(hr:fB j X.A)(ha:PA X.nox (e::es) t)(hk:k<=j:=by decide)(hg:Gl X x:=by rfl)
  (hdb:(x==("__debug__":Str))=false:=by decide) (he:av (e::es) X.env=(false,eval e X.env)::av es X.env:=by rfl) (ζ:(iq pos<|av es X.env).any (·.1)=false:=by rfl):
  PEx X (.Call (.Name x p) (e::es) [] pos) (λσ H Q E=>t σ H λvs H1=>sp vs H1 Q E):=by
 refine rO F.ex λf fd G b kp m=>?_;exact SN G (hr.mono hk) hg m kp b ha hdb he ζ
end
section
variable {P:bq}{w:dc}{K:a6}{mg:Zp}{base:Heap}
theorem U9 {x qual:Str}{st:Stmt}{f:Addr}{fd:gc}{N ps:List Str}{k:Nat}{sp:Sp}(F:Fun K x qual st f fd)(S:bx N ps (aK st))(len:∀vs H Q E,sp vs H Q E->vs.length=ps.length)
  (hbody:∀(cdv:ay) (A:cK) (outer:List Env) (s:aI) (H:Hp) (vs:List V) (Q:VK) (E:XK),fB k (A.deeper<|rj qual (aK st) s.heap.objs.size f cdv)->sp vs H Q E->
   ∃t,PSs (j7 (CX1 P w) P w K mg base N qual (aK st) f cdv A outer s H E) (jf st) t/\t { nx:=λ_ H'=>Q .non H',rt:=Q } (start N vs) H):dF P w K mg base (CX1 P w) (k+1) f fd ps sp:=by
 obtain⟨oc,od,kV,doc,pm,an,cdv,ct,osl,rfl,lk,hcd⟩:=F.ex;refine Z0 lk hcd S len λA outer s H vs Q E hr hsp=>?_;obtain⟨t,h,q⟩:=hbody cdv A outer s H vs Q E hr hsp;exact⟨t,h,q⟩
end
structure Df (K:a6)(mg:Zp)(x:Str)(st:Stmt)(ps:List Str):Prop where
 ex:∃f fd,Fun K x x st f fd/\Binds K fd ps []/\mg x=some (.ref f)
theorem Df.fn {P:bq}{w:dc}{K:a6}{mg:Zp}{base:Heap}{x:Str}{st:Stmt}{ps:List Str}{k:Nat}{sp:Sp}(D:Df K mg x st ps)
  (h:∀f fd,Fun K x x st f fd->dF P w K mg base (CX1 P w) k f fd ps sp):Fn P w K mg base k x ps sp:=by
 refine Ge D.ex λf fd F b m=>?_;exact⟨f,fd,h f fd F,b,F.kp,m⟩
structure XC (K:a6)(C:Addr):Prop where
 ga:n9 K (.ref C) "__getattribute__" = some (some (.builtin "BaseException.__getattribute__"))
 no:n9 K (.ref C) "__getattr__" = some none
 cl:n9 K (.ref C) "__class__" = some (some (.builtin "object.__class__"))
 bs:Ap K (.ref C) (.type "BaseException")=some true
 ob:Ap K (.ref C) (.type "object")=some true
 is:(AE K C).isSome=true
section
variable {prog:bq}{w:dc}{A:cK}{E:Zs}{h:Heap}{g:Array n5}{d:Drawn}{t:Nat}{os:OsState}{a C:Addr}{o:Obj}{K:a6}
theorem Ww {R:Result->aI->Prop}(X:K.In h)(Z:XC K C)(hx:h.get? a=some o)(hc:o.cls=.ref C)(hq:R (.ok<|.ret<|.ref C) ⟨h,g,d,t,os⟩):
  pS (b0 prog w) A (.call (.builtin "getset_descriptor.__get__") ⟨[.builtin "object.__class__",.ref a,.ref C],[]⟩) R ⟨h,g,d,t,os⟩:=by
 have hT5:(⟨h,g,d,t,os⟩:aI).TypeIs (.builtin "object.__class__") "getset_descriptor":=oo;have L8:W.Looks (b0 prog w) h (isSubtype (.ref C)<|.type<|".".intercalate ("object.__class__".cutAt '.').dropLast) true:=by
  rw[F.owner_object_class];exact W.looks_subIn X Z.ob
 refine codeAny_call_builtin yk.plain F.entry_gs_get<|yk.check _ _ _ _ _ _ _ _ hT5 (F.args_gs_get _ _ _) ?_
 repeat (any_goals (first|assumption|(with_reducible refine kX hx ?_;rw[hc])|with_reducible refine L8.at ?_|wp_step))
 refine⟨Code.quiet_builtin _ (by decide +kernel),u7 F.entry_object_class ?_⟩
 repeat (any_goals (first|assumption|(with_reducible refine kX hx ?_;rw[hc])|wp_step))
theorem Rt {tk:Tok}{Q:Fin->aI->Prop}(X:K.In h)(Z:XC K C)(hx:h.get? a=some o)(hc:o.cls=.ref C)(hq:Q (.done<|.ret<|.ref C) ⟨h,g,d,t,os⟩):
  br (b0 prog w) A (xk.«object.__getattribute__» ⟨[.ref a,.str "__class__" tk],[]⟩) Q E ⟨h,g,d,t,os⟩:=by
 have hT5:(⟨h,g,d,t,os⟩:aI).TypeIs (.builtin "object.__class__") "getset_descriptor":=oo;have f5:=oo;have f6:=yk.lookup;have f7:=F.slot_gs_set.lookup;have L4:=w8 (M:=b0 prog w) X Z.cl
 repeat (any_goals (first|assumption|(with_reducible refine kX hx ?_;rw[hc])|with_reducible refine L4.at ?_|wp_step))
 refine Ww X Z hx hc ?_
 repeat (any_goals (first|assumption|wp_step))
theorem Qi {nameV:ay}{Q:Unit->aI->Prop}(X:K.In h)(Z:XC K C)(hx:h.get? a=some o)(hc:o.cls=.ref C)(hq:Q () ⟨h,g,d,t,os⟩):
  br (b0 prog w) A (checkBuiltinCall "BaseException.__getattribute__" ⟨[.ref a,nameV],[]⟩) Q E ⟨h,g,d,t,os⟩:=by
 have hk:builtinKind "BaseException.__getattribute__" = some .slot:=by decide +kernel
 have hsp:splitId "BaseException.__getattribute__" = some ("BaseException", "__getattribute__"):=by decide +kernel
 have ha:=F.args_bexc_ga (.ref a) nameV;have L8:=W.looks_subIn (M:=b0 prog w) X Z.bs;simp only[checkBuiltinCall,hk,hsp];refine ae ?_;unfold isInstance
 repeat (first|(with_reducible refine kX hx ?_;rw[hc])|with_reducible refine L8.at ?_|wp_step)
 exact hq
theorem ZQ {tk:Tok}{Q:Zs}(X:K.In h)(Z:XC K C)(hx:h.get? a=some o)(hc:o.cls=.ref C)(hq:Q (.ref C) ⟨h,g,d,t,os⟩):
  br (b0 prog w) A (getAttrBy (.ref a) (.str "__class__" tk) false) Q E ⟨h,g,d,t,os⟩:=by
 have f3:=F.excAttr_ValueError.ga.bind<|.ref a;have L1:=w8 (M:=b0 prog w) X Z.ga;have L2:=w8 (M:=b0 prog w) X Z.no;have n1:(mo "BaseException.__getattribute__"==mo "object.__getattribute__")=false:=by decide +kernel
 have n2:(onTheHeap (bE C)&&mo "BaseException.__getattribute__"==mo "object.__getattribute__")=false:=by rw[n1];rfl
 repeat (any_goals (first|assumption|(with_reducible refine kX hx ?_;rw[hc])|with_reducible refine L1.at ?_|with_reducible refine L2.at ?_|wp_step))
 refine codeAny_call_builtin F.excAttr_ValueError.ga.plain F.entry_bexc_ga<|Qi X Z hx hc<|Rt X Z hx hc ?_
 repeat (any_goals (first|assumption|wp_step))
theorem Tn {Q:Option ay->aI->Prop}(X:K.In h)(Z:XC K C)(hx:h.get? a=some o)(hc:o.cls=.ref C)(hq:Q (some<|.ref C) ⟨h,g,d,t+1,os⟩):
  br (b0 prog w) A (getAttr? (.ref a) "__class__") Q E ⟨h,g,d,t,os⟩:=by
 unfold getAttr? getAttrBy?
 repeat (any_goals (first|assumption|with_reducible apply ZQ X Z hx hc|wp_step))
def XAt (a C:Addr)(h:Heap):Prop:=∃o,h.get? a=some o/\o.cls=.ref C
theorem Ew (Z:XC K C):W.KitX K (.ref a) (.ref C) (XAt a C) where
 ty:=λ_ _ _ ⟨_,hx,hc⟩=>hc▸(W.Looks.ld hx).andThen .now
 it:=λ_ _ X _=>by
  have z:=Z.is;unfold AE at z;split at z
  ·rename_i ho;intro A' Q' E' s' k q;unfold isType loadHead;exact ae<|wpAny_loadPart (k _ _<|X _ _ ho)<|ah q
  ·cases z
 ne:=λh tp dd its n sl X htp=>by
  have z:=Z.is;refine Bool.eq_false_iff.mpr λq=>?_;have e:C=tp:=Value.ref.inj<|beq_iff_eq.mp q;subst e;unfold AE at z;split at z
  ·rename_i ho;have z2:=(X _ _ ho).symm.trans htp;cases z2
  ·cases z
 ca:=λ{_ _ _ _ _ s} X ⟨_,hx,hc⟩ k=>by
  obtain⟨h,g,d,t,os⟩:=s;exact Tn X Z hx hc k
end
section
variable {X:Cx}
def Wk (K:a6):List V->Hp->VK->Prop:=λxs H Q=>∃ea C c cv b,xs=[.ref ea,c]/\Vl c=some cv/\(∃ox,H ea=some (.frz ox<|.ext<|rK ea<|.ref C))/\XC K C/\cx K (.ref C) cv=some b/\Q (.bl b) H
theorem Mh:fL X (.builtin "isinstance") (Wk X.K):=by
 intro π s σ H xs us Q I r h;obtain⟨ea,C,c,cv,b,rfl,rc,⟨ox,he⟩,Z,e,q⟩:=h;obtain⟨u,w',rfl,ru,rw'⟩:=vals2 r;have z:=FP rc rw';subst z;cases(show u=bE ea from ru);obtain⟨_,⟨o,ho,hc,_⟩,_⟩:=(show cO X.prog X.w H s.heap ea (.frz ox<|.ext<|rK ea<|.ref C) from I.hok ea _ he);exact ix (Ew Z) I.kIn ⟨o,ho,hc⟩ e (λz=>nomatch z) λtk=>⟨.bl b,H,I.tok _,rfl,q⟩
end
end Hd
namespace L2
open PySem PySem.Spec PyProof.Rows
section
variable {κ:Type}[DecidableEq κ]
noncomputable def lL (ι:List (κ×V))(k:κ):Option V:=(ι.find? λkv=>decide<|kv.1=k).map (·.2)
noncomputable def putK (ι:List (κ×V))(k:κ)(v:V):List (κ×V):=
 if(ι.any λkv=>decide<|kv.1=k)=true then ι.map (λkv=>if kv.1=k then(kv.1,v) else kv) else ι++[(k,v)]
theorem qt {p:κ×V}(e:p.1=k):lL (p::r) k=some p.2:=by simp[lL,kK,e]
theorem pU {p:κ×V}(e:¬p.1=k):lL (p::r) k=lL r k:=by simp[lL,kK,e]
theorem yc (k:κ):∀ι:List (κ×V),(ι.any λkv=>decide<|kv.1=k)=(lL ι k).isSome
 |[]=>rfl
 |p::r=>by
  rw[pf];by_cases e:p.1=k
  ·simp only[qt e,decide_eq_true e,Bool.true_or,Option.isSome_some]
  ·rw[pU e,decide_eq_false e,Bool.false_or];exact yc k r
theorem pM (ι:List (κ×V))(k:κ)(v:V):(putK ι k v).length<=ι.length+1:=by grind[cp,a9,fq,qf,putK]
theorem Nv {ι:List (κ×V)}{k:κ}(v:V)(h:lL ι k=none):putK ι k v=ι++[(k,v)]:=by simp_all[yc,putK]
theorem yh.uQ (r:yh o u):o.isSome=u.isSome:=by
 cases o with
 |none=>cases u with
  |none=>rfl
  |some _=>exact(show False from r).elim
 |some _=>cases u with
  |none=>exact(show False from r).elim
  |some _=>rfl
theorem KV.val (r:KV ι vs)(k:κ):yh (lL ι k) (va vs k):=by
 unfold KV at r;induction r with
 |nil=>exact g9
 | @cons p q ps qs h t ih=>
  obtain⟨h1,h2⟩:=h;by_cases e:p.1=k
  ·have e':q.1=k:=h1.symm.trans e;have b:va (q::qs) k=some q.2:=by simp[va,kK,e']
   rw[qt e,b];exact h2
  ·have e':¬q.1=k:=λz=>e<|h1.trans z;have b:va (q::qs) k=va qs k:=by simp[va,kK,e']
   rw[pU e,b];exact ih
theorem KV.any (r:KV ι vs)(k:κ):(ι.any λkv=>decide<|kv.1=k)=vs.any λkv=>decide (kv.1=k):=by
 unfold KV at r;induction r with
 |nil=>rfl
 |cons h t ih=>rw[pf,pf,ih,h.1]
theorem KV.repl (r:KV ι vs)(k:κ){y:V}{u:ay}(ry:RelV y u):
  KV (ι.map λkv=>if kv.1=k then(kv.1,y) else kv) (vs.map λkv=>if kv.1=k then(kv.1,u) else kv):=by
 unfold KV at r ⊢;induction r with
 |nil=>exact .nil
 | @cons p q ps qs h t ih=>
  rw[bo,bo];refine .cons ?_ ih;obtain⟨h1,h2⟩:=h;by_cases e:p.1=k
  ·rw[if_pos e,if_pos<|h1.symm.trans e];exact⟨h1,ry⟩
  ·rw[if_neg e,if_neg λz=>e<|h1.trans z];exact⟨h1,h2⟩
theorem KV.put (r:KV ι vs)(k:κ){y:V}{u:ay}(ry:RelV y u):KV (putK ι k y) (stored vs k u):=by
 unfold putK stored;rw[r.any k];by_cases e:(vs.any λkv=>decide<|kv.1=k)=true
 ·rw[if_pos e,if_pos e];exact r.repl k ry
 ·rw[if_neg e,if_neg e];exact Paired.snoc r ⟨rfl,ry⟩
theorem KV.length (r:KV ι vs):ι.length=vs.length:=kS r
end
theorem zE (r:RelV (kV k) u):(gj P w).is k u=true:=by
 cases k with
 |inl i=>obtain⟨t,e⟩:=(show ∃t,u=xC i t from r);subst e;exact Fq P w i t
 |inr x=>obtain⟨t,e⟩:=(show ∃t,u=xD x t from r);subst e;exact Ed P w x t
theorem Yq (e:kV a=kV b):a=b:=by
 cases a with
 |inl i=>cases b with
  |inl j=>have e':V.int i=V.int j:=e;injection e' with e';rw[e']
  |inr y=>exact nomatch (show V.int i=V.str y from e)
 |inr x=>cases b with
  |inl j=>exact nomatch (show V.str x=V.int j from e)
  |inr y=>have e':V.str x=V.str y:=e;injection e' with e';rw[e']
abbrev KT (T:Addr->List V->Prop)(H:Hp):List (List Kt×V)->List (List Kt×Addr×ay)->Prop:=eP λp q=>p.1=q.1/\TrT T H q.2.1 p.1/\RelV p.2 q.2.2
theorem KT.val (r:KT T H ι xs)(k:List Kt):yh (lL ι k) ((zD xs k).map (·.2)):=by
 induction r with
 |nil=>exact g9
 | @cons p q ps qs h t ih=>
  obtain⟨h1,_,h2⟩:=h;by_cases e:p.1=k
  ·have e':q.1=k:=h1.symm.trans e;have b:zD (q::qs) k=some q.2:=by simp[zD,kK,e']
   rw[qt e,b];exact h2
  ·have e':¬q.1=k:=λz=>e<|h1.trans z;have b:zD (q::qs) k=zD qs k:=by simp[zD,kK,e']
   rw[pU e,b];exact ih
theorem KT.repl (r:KT T H ι xs)(k:List Kt){y:V}{u:ay}(ry:RelV y u):
  KT T H (ι.map λkv=>if kv.1=k then(kv.1,y) else kv) (xs.map<|putAt k u):=by
 induction r with
 |nil=>exact .nil
 | @cons p q ps qs h t ih=>
  rw[bo,bo];refine .cons ?_ ih;obtain⟨h1,h2,h3⟩:=h;unfold putAt;by_cases e:p.1=k
  ·rw[if_pos e,if_pos<|h1.symm.trans e];exact⟨h1,h2,ry⟩
  ·rw[if_neg e,if_neg λz=>e<|h1.trans z];exact⟨h1,h2,h3⟩
theorem KT.put (r:KT T H ι xs)(k:List Kt){b:Addr}{y:V}{u:ay}(hb:TrT T H b k)(ry:RelV y u):
  KT T H (putK ι k y) (storedH xs k b u):=by
 have e:(ι.any λkv=>decide<|kv.1=k)=(zD xs k).isSome:=by
  rw[yc,(r.val k).uQ,zd]
 unfold putK storedH;rw[e];by_cases q:(zD xs k).isSome=true
 ·rw[if_pos q,if_pos q];exact r.repl k ry
 ·rw[if_neg q,if_neg q];exact Paired.snoc r ⟨rfl,hb,ry⟩
theorem KT.keeps (r:KT T H ι xs)(ht:∀b ys,H b=some (.tup ys)->H' b=some (.tup ys)):KT T H' ι xs:=
 eP.Wx r λ_ _ z=>⟨z.1,z.2.1.imp ht,z.2.2⟩
section
theorem rF (ok:HOk P w H h)(e:Rd H a u):cO P w H h a u:=e.ok ok
theorem rN (ok:HOk P w H h)(e:Rd H a (.dK ι)):ι.length<=ai/\(a==gy)=false/\∃vs,KV ι vs/\h.DictOf (gj P w) a vs:=
 show cO P w H h a (.dK ι) from rF ok e
theorem VP (ok:HOk P w H h)(e:H a=some (.dK ι)):ι.length<=ai/\(a==gy)=false/\∃vs,KV ι vs/\h.DictOf (gj P w) a vs:=rN ok<|.inl e
theorem Gf (hT:∀b ks,TrT T H b ks->(iY P w).is h ks b)(ok:HOk P w H h)(e:Rd H a (.dT T ι)):ι.length<=ai/\(a==gy)=false/\
  ∃xs,KT T H ι xs/\h.DictOfH (iY P w) a xs:=by
 obtain⟨z,y,xs,r,o,es,ep,h1,h2,h3,h4,h5⟩:=(show cO P w H h a (.dT T ι) from rF ok e);refine⟨z,y,xs,r,o,es,ep,h1,h2,h3,h4,λx hx=>?_,h5⟩;have all:∀{l:List (List Kt×V)} {m:List (List Kt×Addr×ay)},KT T H l m->∀x∈m,(iY P w).is h x.1 x.2.1:=by
  intro l m q;induction q with
  |nil=>intro x hx;exact nomatch hx
  | @cons p q ps qs hq t ih=>
   intro x hx;rcases bP.mp hx with e|hx
   ·subst e;rw[← hq.1];exact hT _ _ hq.2.1
   ·exact ih x hx
 exact all r x hx
theorem Qx (hT:∀b ks,TrT T H b ks->(iY P w).is h ks b)(ok:HOk P w H h)(e:H a=some (.dT T ι)):ι.length<=ai/\(a==gy)=false/\
  ∃xs,KT T H ι xs/\h.DictOfH (iY P w) a xs:=Gf hT ok<|.inl e
end
def Il (K:a6)(H:Hp)(a:Addr)(y:V)(r:Option V):Prop:=
 (∃ι k,Rd H a (.dK ι)/\y=kV k/\r=lL ι k)\/∃ι k b,Rd H a (.dT (KTp K) ι)/\y=.ref b/\TrT (KTp K) H b k/\r=lL ι k
def Ox (K:a6)(H:Hp)(a:Addr)(y v:V)(H':Hp):Prop:=
 (∃ι k,H a=some (.dK ι)/\y=kV k/\ι.length<ai/\H'=upd H a (.dK<|putK ι k v)) ∨
 ∃ι k b,H a=some (.dT (KTp K) ι)/\y=.ref b/\TrT (KTp K) H b k/\ι.length<ai/\H'=upd H a (.dT (KTp K)<|putK ι k v)
theorem Ox.t {K:a6}{H:Hp}{a b:Addr}{ι:List (List Kt×V)}{k:List Kt}{v:V}(e:H a=some (.dT (KTp K) ι))(eb:TrT (KTp K) H b k)(hl:ι.length<ai):
  Ox K H a (.ref b) v (upd H a<|.dT (KTp K)<|putK ι k v):=.inr ⟨ι,k,b,e,rfl,eb,hl,rfl⟩
section
variable {X:Cx}{π:Zl}{σ:St}{H:Hp}{s:aI}{a:Addr}{y v:V}{u r:ay}{o:Option V}{A:cK}{E:Zs}
theorem Inv.big (I:Inv X π σ H s):gy<s.heap.objs.size:=by
 have h:bp<s.heap.objs.size:=(I.mod.glob.keeps I.bk).lt;exact oq (by decide) h
mutual
theorem Jw (I:Inv X π σ H s):∀{n:Nat} {v:V} {k:Kt} {u:ay},vW (KTp X.K) H n v k->RelV v u->jQ s.heap n k u
 |n,_,_,u,.k (x:=x),r=>by rw[mF];exact zE (P:=X.prog) (w:=X.w) r
 |_,_,_,u,.t (b:=b) h hs,r=>by
  cases(show u=bE b from r);obtain⟨its,rv,⟨o,ho,hc,m,hd⟩,_⟩:=I.tuple<|SqU.sq h;exact jz.mpr ⟨b,o,its.toArray,m,rfl,ho,hc,hd,by simpa using DQ I hs rv⟩
theorem DQ (I:Inv X π σ H s):∀{n:Nat} {vs:List V} {ks:List Kt} {us:List ay},pq (KTp X.K) H n vs ks->Vals vs us->eP (jQ s.heap n) ks us
 |_,_,_,_,.nil,.nil=>.nil
 |_,_,_,_,.cons h hs,.cons r rs=>.cons (Jw I h r)<|DQ I hs rs
end
theorem vd (I:Inv X π σ H s)(e:TrT (KTp X.K) H b ks):(iY X.prog X.w).is s.heap ks b:=by
 obtain⟨vs,h,hs⟩:=e;exact Jw I (.t h hs) rfl
theorem wR (I:Inv X π σ H s):∀b ks,TrT (KTp X.K) H b ks->(iY X.prog X.w).is s.heap ks b:=λb ks e=>vd I e
theorem qL (hu:A.units+16<mn):(iY X.prog X.w).room A.in1:=by
 show A.units+1+8<mn
 lia
theorem K9 (hu:A.units+16<mn)(I:Inv X π σ H s)(g:Il X.K H a y (some v))(ry:RelV y u)(h:∀w' s',Inv X π σ H s'->RelV v w'->Q w' s'):
  br (b0 X.prog X.w) A (xc (.ref a) u) Q E s:=by
 rcases g with⟨ι,k,e,ey,l⟩|⟨ι,k,b,e,ey,eb,l⟩
 ·subst ey;obtain⟨z,hd,vs,rel,dd⟩:=rN I.hok e;obtain⟨w',hw,rw'⟩:=yh.some_of (v:=v) (o:=va vs k) (by rw[l];exact rel.val k);exact wpAny_getItem_of (zE ry) dd.mapOf hw<|h w' _ (I.tok _) rw'
 ·subst ey;cases(show u=bE b from ry);obtain⟨z,hd,xs,rel,dd⟩:=Gf (wR I) I.hok e;obtain⟨w',hw,rw'⟩:=yh.some_of (v:=v) (o:=(zD xs k).map (·.2)) (by rw[l];exact rel.val k);obtain⟨p,hp,hp2⟩:=iE.mp hw;refine wpAny_getItem_heap (qL hu) (vd I eb) dd hp ?_;rw[hp2];exact h w' _ (I.tok _) rw'
theorem abb (hu:A.units+16<mn)(I:Inv X π σ H s)(g:Il X.K H a y o)(ry:RelV y u)(h:∀s',Inv X π σ H s'->Q (.bool o.isSome) s'):
  br (b0 X.prog X.w) A (dk .In u<|.ref a) Q E s:=by
 rcases g with⟨ι,k,e,ey,l⟩|⟨ι,k,b,e,ey,eb,l⟩
 ·subst ey;obtain⟨z,hd,vs,rel,dd⟩:=rN I.hok e;refine wpAny_in_of (zE ry) hd dd.mapOf ?_;rw[← (rel.val k).uQ,← l];exact h _<|I.tok _
 ·subst ey;cases(show u=bE b from ry);obtain⟨z,hd,xs,rel,dd⟩:=Gf (wR I) I.hok e;refine wpAny_in_heap (qL hu) (vd I eb) hd dd ?_;have q:=(rel.val k).uQ;rw[zd] at q;rw[← q,← l];exact h _<|I.tok _
theorem ux (I:Inv X π σ H s)(mu:Mut (H a))(hs:h9 a s.heap h')(he:∃q,h'.get? a=some q)(new:cO X.prog X.w (upd H a ob) h' a ob):
  Inv X π σ (upd H a ob) { s with heap:=h',toks:=t' }:=
 I.write (x:=a) (e:=a) mu (.inl rfl) (λb q hb z=>(hs.2 b hb).trans z) he new
theorem PL (z:ι.length<=ai)(hd:(a==gy)=false)(rel:KV ι vs)(dd:h'.DictOf (gj P w) a vs):
  cO P w H' h' a (.dK ι):=⟨z,hd,vs,rel,dd⟩
theorem Ms (hu:A.units+16<mn)(I:Inv X π σ H s)(g:Ox X.K H a y v H')(ry:RelV y u)(rv:RelV v r)(h:∀s',Inv X π σ H' s'->Q () s'):
  br (b0 X.prog X.w) A (setItem (.ref a) u r) Q E s:=by
 rcases g with⟨ι,k,e,ey,l,eH⟩|⟨ι,k,b,e,ey,eb,l,eH⟩
 ·subst ey eH;obtain⟨z,hd,vs,rel,dd⟩:=VP I.hok e;have hz:vs.length<=ai:=by rw[← rel.length];exact z
  have hl:(putK ι k v).length<=ai:=by have:=pM ι k v;lia
  refine wpAny_setItem_pairs (hsz:=hz) (zE ry) dd λh' dd' hs=>h _ ?_;have he:∃q,h'.get? a=some q:=let⟨q,_,_,hq,_⟩:=dd';⟨q,hq⟩
  exact ux I (by rw[e];exact g9) hs he<|PL hl hd (rel.put k rv) dd'
 ·subst ey eH;cases(show u=bE b from ry);obtain⟨z,hd,xs,rel,dd⟩:=Qx (wR I) I.hok e;have hz:xs.length<=ai:=by rw[← kS rel];exact z
  have hl:(putK ι k v).length<=ai:=by have:=pM ι k v;lia
  refine wpAny_setItem_heap (hsz:=hz) (qL hu) (vd I eb) dd λh' dd' hs=>h _ ?_;refine zR dd' λq es ep hq h2 h3 h4 _ h5=>?_;refine ux I (by rw[e];exact g9) hs ⟨q,hq⟩ ⟨hl,hd,_,(rel.put k eb rv).keeps λc ys ec=>?_,q,es,ep,hq,h2,h3,h4,h5⟩;rw[bT<|Ol ec e λz=>nomatch z];exact ec
end
section
theorem YX (I:Inv X π σ H s)(e:Rd H a (.dK ι))(h:∀t s',Inv X π σ H s'->Q (.int ι.length t) s'):br (b0 X.prog X.w) A (call (.builtin "len") [.ref a]) Q E s:=by
 obtain⟨z,hd,vs,rel,dd⟩:=rN I.hok e;refine call_len_dict hd dd (by rw[← rel.length];rw[sizeLine_eq] at z;lia) ?_;rw[← rel.length];exact h _ _<|I.tok _
end
def RX (i:Expr):Prop:=∀ov iv,xh i false ov iv=operate [ov,iv] (xc ov iv)
theorem TY {prog:bq}{w:dc}{A:cK}{E:Zs}{s:aI}{env:Env}{value slice:Expr}{pos:Pos}{T id:String}{Q:Zs}
  (hl:vT (.type T) "__getitem__" = pure (some<|.builtin id)) (hs:RX slice)
  (h:br (b0 prog w) A (eval value env) (λo s₁=>br (b0 prog w) A (eval slice env) (λi s₂=>s₂.TypeIs o T/\br (b0 prog w) A (xc o i) Q E s₂) E s₁) E s):
  br (b0 prog w) A (eval (.Subscript value slice pos) env) Q E s:=by
 refine Subscript_<|d3 h (λo s₁ h₁=>d3 h₁ (λi s₂ h₂=>?_) λ_ _ x=>x) λ_ _ x=>x;obtain⟨hT,h₂⟩:=h₂;unfold yb;refine ae ?_;rw[getitemInPython_of_ne hT.not_modules];refine ae<|ja hT hl ?_;have fin:br (b0 prog w) A (xh slice false o i) (λr s₃=>br (b0 prog w) A (letTemporaryGo value o r >>= λ_=>pure r) Q E s₃) E s₂:=by
  rw[hs o i];exact wpAny_operating<|d3 h₂ (λr s₃ h₃=>ae<|wpAny_letTemporaryGo<|ah h₃) λ_ _ x=>x
 first
  |exact ah (ae fin)
  |exact ae (ah<|ae fin)
  |exact ae fin
theorem FZ (I:Inv X π σ H s)(g:Il X.K H a y o):s.TypeIs (.ref a) "dict":=by
 rcases g with⟨ι,k,e,_,_⟩|⟨ι,k,b,e,_,_,_⟩
 ·obtain⟨_,_,vs,_,dd⟩:=rN I.hok e;exact dd.typeIs
 ·obtain⟨_,_,xs,_,dd⟩:=Gf (wR I) I.hok e;exact dd.typeIs
def aae (K:a6)(td ty:TE):TE:=λσ H Q=>td σ H λx H1=>ty σ H1 λy H2=>∃a v,x=.ref a/\Il K H2 a y (some v)/\Q v H2
def Za (K:a6)(td ty tv:TE):TS:=λD σ H=>tv σ H λv H1=>td σ H1 λx H2=>ty σ H2 λy H3=>∃a H4,x=.ref a/\Ox K H3 a y v H4/\D.nx σ H4
section
theorem JQ (hu:X.A.units+16<mn)(ho:PE X o td)(hi:PE X i ty)(hs:RX i):PE X (.Subscript o i pos) (aae X.K td ty):=by
 intro π s σ H Q I h;refine TY PySem.F.slot_dict_getitem.lookup hs<|thn (ho π s σ H _ I h) λu s1 ⟨x,H1,I1,rx,q1⟩=>thn (hi π s1 σ H1 _ I1 q1) λiv s2 hE=>?_;obtain⟨y,H2,I2,ry,a,v,ex,g,q2⟩:=hE;subst ex;obtain rfl:u=bE a:=rx;exact⟨FZ I2 g,K9 hu I2 g ry λw' s3 I3 rw'=>⟨v,H2,I3,rw',q2⟩⟩
theorem Tt (hu:X.A.units+16<mn)(ho:PE X o td)(hi:PE X i ty)(hv:PE X value tv)(hs:gs value (some<|.Subscript o i pos') pos.line X.env=pure false):
  PS X (.Assign [.Subscript o i pos'] value pos) (Za X.K td ty tv):=by
 intro π s σ H D I h;refine wpAny_Assign_Subscript (thn (hv π s σ H _ I h) λr s1 ⟨v,H1,I1,rv,q1⟩=>thn (ho π s1 σ H1 _ I1 q1) λu s2 ⟨x,H2,I2,rx,q2⟩=>thn (hi π s2 σ H2 _ I2 q2) λiv s3 ⟨y,H3,I3,ry,a,H4,ex,g,q3⟩=>?_) hs;subst ex;obtain rfl:u=bE a:=rx;exact Ms hu I3 g ry rv λs4 I4=>⟨σ,H4,I4,q3⟩
end
theorem Ei (h:Heap)(hb:gy<h.objs.size):cO P w H (h.push { cls:=.type "dict",data:=.dict #[] }) h.objs.size (.dK []):=
 ⟨eC _,beq_eq_false_iff_ne.mpr<|i7<|a5 hb,[],.nil,As h⟩
theorem Gi (h:Heap)(hb:gy<h.objs.size):cO P w H (h.push { cls:=.type "dict",data:=.dict #[] }) h.objs.size (.dT T []):=
 ⟨eC _,beq_eq_false_iff_ne.mpr<|i7<|a5 hb,[],.nil,_,#[],0,aS _ rfl,⟨rfl,rfl,rfl⟩,rfl,rfl,List.nodup_nil⟩
def W8:TE:=λ_ H Q=>∀p,H p=none->Q (.ref p) (upd H p<|.dK [])
def Yh (K:a6):TE:=λ_ H Q=>∀p,H p=none->Q (.ref p) (upd H p<|.dT (KTp K) [])
section
theorem Nk:PE X (.Dict [] [] pos) W8:=λπ s σ H Q I h=>
 wpAny_Dict_empty ⟨.ref s.heap.objs.size,_,I.laid (a:=s.heap.objs.size) (o:=.dK []) (t':=s.toks) (λ_ _ q=>ag _ q) (aE _)<|Ei s.heap I.big,rfl,h _<|I.hok.fresh<|aE _⟩
theorem Ng:PE X (.Dict [] [] pos) (Yh X.K):=λπ s σ H Q I h=>
 wpAny_Dict_empty ⟨.ref s.heap.objs.size,_,I.laid (a:=s.heap.objs.size) (o:=.dT (KTp X.K) []) (t':=s.toks) (λ_ _ q=>ag _ q) (aE _)<|Gi s.heap I.big,rfl,h _<|I.hok.fresh<|aE _⟩
end
def Ay:List (TE×TE)->St->Hp->(List (V×V)->Hp->Prop)->Prop
 |[],_,H,Q=>Q [] H
 |(tk,tv)::r,σ,H,Q=>tk σ H λx H1=>tv σ H1 λy H2=>Ay r σ H2 λps H3=>Q ((x,y)::ps) H3
abbrev VV:List (V×V)->List (ay×ay)->Prop:=eP λp q=>RelV p.1 q.1/\RelV p.2 q.2
def PPs (X:Cx)(pos:Pos)(keys:List (Option Expr))(values:List Expr)(trs:List (TE×TE)):Prop:=
 ∀(π:Zl) (s:aI) (σ:St) (H:Hp) (Q:List (V×V)->Hp->Prop),Inv X π σ H s->Ay trs σ H Q->
  br (b0 X.prog X.w) X.A (evalPairs<|pairTrees keys values X.env pos) (λvs s'=>∃ps H',Inv X π σ H' s'/\VV ps vs/\Q ps H') X.xe s
theorem iH:PPs X pos [] [] []:=λπ s σ H Q I h=>pairTrees_nil_walk ⟨[],H,I,.nil,h⟩
theorem bW (hk:PE X k tk)(hv:PE X v tv)(hr:PPs X pos ks vs trs):
  PPs X pos (some k::ks) (v::vs) ((tk,tv)::trs):=λπ s σ H Q I h=>
 pairTrees_cons_walk (thn (hk π s σ H _ I h) λu s1 ⟨x,H1,I1,rx,q1⟩=>thn (hv π s1 σ H1 _ I1 q1) λw2 s2 hE=>xq2 hE λy H2 I2 ry q2=>
  thn (hr π s2 σ H2 _ I2 q2) λws s3 hE=>by obtain⟨ps,H3,I3,rel,q3⟩:=hE;exact⟨(x,y)::ps,H3,I3,.cons ⟨rx,ry⟩ rel,q3⟩)
def mU (ι more:List (Key×V)):List (Key×V):=more.foldl (λacc kv=>putK acc kv.1 kv.2) ι
theorem KV.merge:∀{more:List (Key×V)} {rs:List (Key×ay)} {ι:List (Key×V)} {vs:List (Key×ay)},KV more rs->KV ι vs->KV (mU ι more) (AD vs rs):=by
 intro more rs ι vs r;unfold KV at r;induction r generalizing ι vs with
 |nil=>intro q;exact q
 | @cons p q ps qs h t ih=>
  intro r0;have e:KV (putK ι p.1 p.2) (stored vs q.1 q.2):=by
   have:=r0.put p.1 h.2
   rw[← h.1];exact this
  exact ih e
theorem mQ:∀(more ι:List (Key×V)),(mU ι more).length<=ι.length+more.length
 |[],ι=>by show ι.length<=ι.length+0;lia
 |p::r,ι=>by
  have h1:=mQ r<|putK ι p.1 p.2;have h2:=pM ι p.1 p.2;show(mU (putK ι p.1 p.2) r).length<=_;rw[fq];lia
theorem yI:∀{ι:List (Key×V)} {ws:List (ay×ay)},VV (ι.map λkv=>(kV kv.1,kv.2)) ws->∃rs,Carries (gj P w) ws rs/\KV ι rs
 |[],_,r=>by rw[uj] at r;cases r;exact⟨[],g9,.nil⟩
 |p::ι,_,r=>by
  rw[bo] at r;cases r with
  | @cons a b as bs h t=>
   obtain⟨rs,c,q⟩:=yI (P:=P) (w:=w) t;obtain⟨b1,b2⟩:=b;exact⟨(p.1,b2)::rs,⟨zE h.1,rfl,c⟩,.cons ⟨rfl,h.2⟩ q⟩
def aag (trs:List (TE×TE)):TE:=λσ H Q=>∀p,H p=none->Ay trs σ (upd H p<|.dK []) λps H2=>H2 p=some (.dK [])/\∃ι:List (Key×V),ps=ι.map (λkv=>(kV kv.1,kv.2))/\ι.length<=15/\Q (.ref p) (upd H2 p<|.dK<|mU [] ι)
theorem Ub (h:PPs X pos keys values trs)(hall:keys.all (·.isSome)=true)(hl:keys.length=values.length)(h0:keys≠[])
  (h15:keys.length<=15):PE X (.Dict keys values pos) (aag trs):=by
 intro π s σ H Q I q;have hn:=I.hok.fresh<|aE s.heap.objs.size;have I1:=I.laid (a:=s.heap.objs.size) (o:=.dK []) (h':=s.heap.push { cls:=.type "dict",data:=.dict #[] }) (t':=s.toks) (λ_ _ q=>ag _ q) (aE _)<|Ei s.heap I.big;refine wpAny_Dict_walk (knd:=gj X.prog X.w) hall hl h0 h15<|thn (h π _ σ _ _ I1<|q _ hn) λws s2 hE=>?_;obtain⟨ps,H2,I2,rel,e,ι,ep,lk,q2⟩:=hE;subst ep;obtain⟨rs,c,rk⟩:=yI (P:=X.prog) (w:=X.w) rel;obtain⟨z,hd,vs0,r0,dd⟩:=VP I2.hok e;cases r0;refine⟨rs,c,dd,λh' dd' hs=>⟨.ref s.heap.objs.size,_,?_,rfl,q2⟩⟩;have hz:(mU [] ι).length<=ai:=by
  have h1:=mQ ι [];rw[qf] at h1;rw[sizeLine_eq];lia
 have he:∃q,h'.get? s.heap.objs.size=some q:=let⟨q,_,_,hq,_⟩:=dd';⟨q,hq⟩
 exact ux I2 (by rw[e];exact g9) hs he<|PL hz hd (rk.merge .nil) dd'
structure M2 (X:Cx)(o:Expr)(m:Str)(apos:Pos)(e f:Expr)(χ:Pos):Prop where
 base:iX o m X.env (eval o X.env)=eval o X.env
 few:((iq χ (av [e,f] X.env)).all (λx=>!x.1)&&(yi χ (p9 [] X.env)).all (λx=>x.1.isSome)
  && decide (([e,f]:List Expr).length+([]:List qc).length+(if([]:List qc).isEmpty then 0 else 1)<30))=true
 line:(apos.endLine==χ.line)=true
 trees:iq χ (av [e,f] X.env)=[(false,eval e X.env),(false,eval f X.env)]
def IsD (K:a6)(H:Hp)(a:Addr):Prop:=(∃ι,Rd H a<|.dK ι)\/∃ι,Rd H a<|.dT (KTp K) ι
theorem Wm (I:Inv X π σ H s)(d:IsD X.K H a):
  s.TypeIs (.ref a) "dict"/\(∀b,bE a=.ref b->∃ob,s.heap.get? b=some ob/\ob.dict=none)/\(a==gy)=false:=by
 rcases d with⟨ι,e⟩|⟨ι,e⟩
 ·obtain⟨_,hd,vs,_,dd⟩:=rN I.hok e;refine⟨dd.typeIs,λb q=>?_,hd⟩;cases q;refine JD dd λob _ _ h1 h2 _=>?_;exact⟨ob,h1,h2.2.1⟩
 ·obtain⟨_,hd,xs,_,dd⟩:=Gf (wR I) I.hok e;refine⟨dd.typeIs,λb q=>?_,hd⟩;cases q;refine JD dd λob _ _ h1 h2 _=>?_;exact⟨ob,h1,h2.2.1⟩
section
end
section
end
section
end
section
end
section
end
section
variable {κ:Type}[DecidableEq κ]
end
end L2
namespace Hd
open PySem PySem.Spec PyProof.Rows L2
theorem bB (h:H p=none)(o:HO):aH H (upd H p o):=λb u q=>by
 rw[bT<|jD q h];exact q
section
theorem bA (h:PE X e T)(k:∀σ H Q,T' σ H Q->T σ H Q):PE X e T':=λπ s σ H Q I q=>h π s σ H Q I<|k σ H Q q
def clA (t:TA):TA:=λσ H Q=>∃R,t σ H R/\∀xs H1,R xs H1->Q xs H1
theorem Wc (h:PA X es t):PA X es (clA t):=λpos π s σ H Q I ⟨R,hR,k⟩=>thn (h pos π s σ H R I hR) λ_ _ hE=>xq2 hE λvs H1 I1 r q=>⟨vs,H1,I1,r,k _ _ q⟩
def Zb (t:TA):TE:=λσ H Q=>t σ H λxs H1=>xs.length<=ai/\∀p H',aH H1 H'->H' p=some (.tup xs)->Q (.ref p) H'
theorem RZ (h:PA X es t):PE X (.Tuple es x1 pos) (Zb t):=
 bA (YF<|Wc h) λ_ _ _ q=>⟨_,q,λ_ _ ⟨z,k⟩=>⟨z,λp hp=>k p _ (bB hp _) bu⟩⟩
end
abbrev cX (X:Cx)(N':List Str)(scope:l0)(cl:List (Str×Addr))(C:Addr)(sE:aI)(HE:Hp)(fp:List Addr)(π:Zl):Cx:=
 { X with N:=N',s₀:=sE,H₀:=HE,env:=sM scope cl C X.env,outer:=X.stack,ex:=fp,fn:=λ_=>false,pn:=X.pn++π,xe:=λ_ _=>False }
structure CSc (sc scope:l0)(caps:List Str):Prop where
 kind:scope.kind=.function
 nocell:∀y∈scope.names,y.2≠.cell
 loc:∀y∈scope.names,y.2=.local->scope.names.lookup y.1=some .local
 free:∀y∈scope.names,y.2=.free->sc.names.lookup y.1=some .cell\/sc.names.lookup y.1=some .free
 caps:∀x∈caps,scope.names.lookup x=some .free/\(sc.names.lookup x=some .cell\/sc.names.lookup x=some .free)
theorem mem_of_lookup:∀{l:List (Str×β)} {x:Str} {k:β},l.lookup x=some k->(x,k)∈l
 |[],_,_,h=>by simp at h
 |(n,k')::r,x,k,h=>by
  rw[cS] at h;split at h
  ·rename_i e;have e':x=n:=by simpa using e
   cases h;rw[e'];exact cy
  ·exact be _<|mem_of_lookup h
theorem tK {env:Env}:∀{names:List (Str×sF)} {x:Str},names.lookup x=some .free->
  (names.map λ(n,k)=>if(k==eT&&env.scope.kind==.function&&env.kindOf n==some .cell) then(n,ko) else(n,k)).lookup x=some .cell ∨
  (names.map λ(n,k)=>if(k==eT&&env.scope.kind==.function&&env.kindOf n==some .cell) then(n,ko) else(n,k)).lookup x=some .free
 |[],_,h=>by simp at h
 |(n,k)::r,x,h=>by
  have ih:=@tK env r x;show xo x ((if(k==eT&&env.scope.kind==.function&&env.kindOf n==some .cell)=true then(n,ko) else(n,k))::_)=_\/xo x ((if(k==eT&&env.scope.kind==.function&&env.kindOf n==some .cell)=true then(n,ko) else(n,k))::_)=_;cases hx:x==n with
  |true=>
   simp only[cS,hx] at h;cases h;by_cases hc:(eT==eT&&env.scope.kind==.function&&env.kindOf n==some .cell)=true
   ·rw[if_pos hc];simp only[cS,hx];exact .inl trivial
   ·rw[if_neg hc];simp only[cS,hx];exact .inr trivial
  |false=>
   simp only[cS,hx] at h;by_cases hc:(k==eT&&env.scope.kind==.function&&env.kindOf n==some .cell)=true
   ·rw[if_pos hc];simp only[cS,hx];exact ih h
   ·rw[if_neg hc];simp only[cS,hx];exact ih h
theorem xx {env:Env}:∀{names:List (Str×sF)} {x:Str},(∀y∈names,y.2≠.cell)->
  ((names.map λ(n,k)=>if(k==eT&&env.scope.kind==.function&&env.kindOf n==some .cell) then(n,ko) else(n,k)).lookup x=some .cell ∨
  (names.map λ(n,k)=>if(k==eT&&env.scope.kind==.function&&env.kindOf n==some .cell) then(n,ko) else(n,k)).lookup x=some .free)->names.lookup x=some .free
 |[],_,_,h=>by simp at h
 |(n,k)::r,x,hn,h=>by
  have ih:=@xx env r x λy hy=>hn y<|be _ hy;have h':xo x ((if(k==eT&&env.scope.kind==.function&&env.kindOf n==some .cell)=true then(n,ko) else(n,k))::_)=some .cell\/xo x ((if(k==eT&&env.scope.kind==.function&&env.kindOf n==some .cell)=true then(n,ko) else(n,k))::_)=some .free:=h;have hk:k≠.cell:=hn (n,k) cy;by_cases hc:(k==eT&&env.scope.kind==.function&&env.kindOf n==some .cell)=true
  ·rw[if_pos hc] at h';have kf:k=.free:=by
    simp only[ku,beq_iff_eq] at hc;exact hc.1.1
   subst kf;cases hx:x==n with
   |true=>simp only[cS,hx]
   |false=>
    simp only[cS,hx] at h' ⊢;exact ih h'
  ·rw[if_neg hc] at h';cases hx:x==n with
   |true=>
    simp only[cS,hx] at h' ⊢;rcases h' with z|z
    ·exact absurd (bX z) hk
    ·exact z
   |false=>
    simp only[cS,hx] at h' ⊢;exact ih h'
theorem rP:∀(names:List (Str×sF)) (acc:List (Str×Addr)),(∀y∈names,y.2=.free->∃c,env.cells.lookup y.1=some c)->
  ∃cl,(forIn names acc λ(y:Str×sF) (cs:List (Str×Addr))=>(if y.2==.free then do let c←cellOf env y.1;pure (qh ((y.1,c)::cs)) else pure (qh cs):Sem (ForInStep<|List<|Str×Addr)))=pure cl/\
   (∀x c,cl.lookup x=some c->acc.lookup x=some c\/env.cells.lookup x=some c)/\(∀x c,acc.lookup x=some c->∃c',cl.lookup x=some c')/\∀y∈names,y.2=.free->∃c,cl.lookup y.1=some c
 |[],acc,_=>⟨acc,rfl,λ_ _ e=>.inl e,λ_ c e=>⟨c,e⟩,λ_ z=>nomatch z⟩
 |(n,k)::r,acc,h=>by
  have hr:∀y∈r,y.2=.free->∃c,env.cells.lookup y.1=some c:=λy hy=>h y<|be _ hy;by_cases hk:(k==eT)=true
  ·obtain⟨c,hc⟩:=h (n,k) cy (by simpa using hk);refine xJ (rP r ((n,c)::acc) hr) λcl e h1 h2 h3=>?_;refine⟨cl,?_,λx d q=>?_,λx d q=>?_,λy hy q=>?_⟩
   ·have ec:cellOf env n=pure c:=by unfold cellOf;rw[show env.cells.lookup n=some c from hc]
    rw[vc];simp only[hk,if_true,ec,pure_bind];exact e
   ·rcases h1 x d q with z|z
    ·rw[cS] at z;split at z
     ·rename_i e1;have e1':x=n:=by simpa using e1
      cases z;rw[e1'];exact .inr hc
     ·exact .inl z
    ·exact .inr z
   ·by_cases e1:(x==n)=true
    ·exact h2 x c<|by rw[cS,e1]
    ·exact h2 x d (by rw[cS];simp only[Bool.not_eq_true] at e1;rw[e1];exact q)
   ·rcases bP.mp hy with z|z
    ·subst z;exact h2 n c (by rw[cS];simp)
    ·exact h3 y z q
  ·refine xJ (rP r acc hr) λcl e h1 h2 h3=>?_;refine⟨cl,?_,h1,h2,λy hy q=>?_⟩
   ·rw[vc];simp only[hk,if_false,pure_bind,g7];exact e
   ·rcases bP.mp hy with z|z
    ·subst z;exact absurd (show(k==eT)=true by simpa using q) hk
    ·exact h3 y z q
theorem pG (h:∀y∈scope.names,y.2=.free->∃c,env.cells.lookup y.1=some c):
  ∃cl,closureFor scope env=pure cl/\(∀x c,cl.lookup x=some c->env.cells.lookup x=some c)/\∀y∈scope.names,y.2=.free->∃c,cl.lookup y.1=some c:=by
 refine xJ (rP scope.names [] h) λcl e h1 _ h3=>?_;refine⟨cl,?_,λx c q=>(h1 x c q).elim (λz=>by simp at z) id,h3⟩;unfold closureFor;simp only[bind_pure];refine Eq.trans ?_ e;rfl
section
variable {X:Cx}{π:Zl}{σ:St}{HE:Hp}{sE:aI}{N':List Str}{scope sc:l0}{cl:List (Str×Addr)}{fp:List Addr}{caps:List Str}
theorem TF (I:Inv X π σ HE sE)(S:CSc sc scope caps)(hfp:∀b∈fp,pC X π HE b/\b<sE.heap.objs.size)
  (hc1:∀x c,cl.lookup x=some c->X.env.cells.lookup x=some c) (hc2:∀y∈scope.names,y.2=.free->∃c,cl.lookup y.1=some c):
  (cX X N' scope cl sE.heap.objs.size sE HE fp π).Ok where
 mod:=I.ok.mod
 kind:=S.kind
 glob:=I.ok.glob
 blt:=I.ok.blt
 above:=aE _
 inj:=λx y c h1 h2=>I.ok.inj x y c (hc1 x c h1)<|hc1 y c h2
 has:=λx h=>hc2 (x,.free) (mem_of_lookup<|xx S.nocell h) rfl
 cab:=λx c h=>nomatch h
 hd:=I.ok.hd
 frames:=I.ok.frames
 stk:=.inl rfl
 exf:=λb hb=>⟨a5 (hfp b hb).2,λx c h=>(hfp b hb).1.2.2.2.2.1 x c<|hc1 x c h⟩
 bs:=I.bs
 bsz:=fT I.ok.bsz I.sz
 noex:=λb o e hb=>by
  rcases(hfp b hb).1.2.2.2.1 with z|z
  ·exact I.ok.noex b o e z
  ·exact absurd (bg (ar e)<|fT I.ok.bsz z)<|eD _
 exfs:=λb hb hz=>by
  rcases bP.mp (I.Dm b hz) with z|z
  ·exact(hfp b hb).1.2.1 z
  ·exact(hfp b hb).1.2.2.1 z
 ni:=I.stack
 frf:=I.BR
theorem Ff {cap:List Nat}{h':Heap}(I:Inv X π σ HE sE)(S:CSc sc scope caps)(hsc:X.env.scope=sc)(hfp:∀b∈fp,pC X π HE b/\b<sE.heap.objs.size)
  (hc1:∀x c,cl.lookup x=some c->X.env.cells.lookup x=some c) (hc2:∀y∈scope.names,y.2=.free->∃c,cl.lookup y.1=some c)
  (hN:N'.drop k=caps) (hk:k<=N'.length) (hcap:eP (λj x=>X.N[j]? = some x) cap caps) {m:Zp}
  (kp:∀b o,sE.heap.get? b=some o->h'.get? b=some o) (hns:h'.Ns sE.heap.objs.size m) (tk:Nat):
  Inv (cX X N' scope cl sE.heap.objs.size sE HE fp π) [] (aT k none++cap.map λj=>(σ[j]?).join) HE { sE with heap:=h',toks:=tk } where
 ok:=TF I S hfp hc1 hc2
 os:=rfl
 bare:=I.bare
 base:=Un.kept kp
 loc:=by
  refine⟨m,hns,λi x v e1 e2 e3=>?_⟩;have hik:k<=i:=by
   by_cases z:k<=i
   ·exact z
   ·rw[b6 (by simp;lia),eS] at e2;rw[if_pos<|by lia] at e2;cases e2
  obtain⟨j',rfl⟩:∃j',i=k+j':=⟨i-k,by lia⟩;rw[cE (by simp),kH,Nat.add_sub_cancel_left,dP] at e2;have hx:caps[j']? = some x:=by rw[← hN,hJ];exact e1
  have:∀{l:List Nat} {l':List Str} {i:Nat},eP (λj x=>X.N[j]? = some x) l l'->l'[i]? = some x->∃j,l[i]? = some j/\X.N[j]? = some x:=by
   intro l l' i p;induction p generalizing i with
   |nil=>intro z;simp at z
   |cons a _ ih=>
    intro z;cases i with
    |zero=>simp at z;subst z;exact⟨_,rfl,a⟩
    |succ i=>exact ih (by simpa using z)
  obtain⟨j,hj,hNj⟩:=this hcap hx;rw[hj] at e2;have e2':σ[j]? = some (some v):=by
   cases q:σ[j]? with
   |none=>rw[gX,q] at e2;cases e2
   |some o=>
    rw[gX,q] at e2
    have:o=some v:=bX e2
    rw[this]
  obtain⟨hxf,hxo⟩:=S.caps x<|fN hx;rw[← hsc] at hxo;obtain⟨m0,_,hl⟩:=I.loc;obtain⟨u,r,L⟩:=hl j x v hNj e2'<|hxo.elim (λz=>.inr<|.inl z) λz=>.inr<|.inr z;refine⟨u,r,.inr ⟨tK hxf,?_⟩⟩;rcases L with⟨z,_⟩|⟨_,c,hc,hcell⟩
  ·have z':X.env.scope.names.lookup x=some .local:=z;rcases hxo with q|q<;>rw[z'] at q<;>cases q
  ·obtain⟨c',hc'⟩:=hc2 (x,.free) (mem_of_lookup hxf) rfl;have e:=hc1 x c' hc';rw[hc] at e;cases e;obtain⟨o,ho,hd⟩:=hcell;exact⟨c,hc',o,kp c o ho,hd⟩
 cell:=λx c e=>by
  obtain⟨v,o,ho,hd⟩:=I.cell x c<|hc1 x c e;exact⟨v,o,kp c o ho,hd⟩
 free:=I.hok.fresh<|aE _
 freeC:=λx c e=>I.freeC x c<|hc1 x c e
 pin:=λp hp=>by
  rw[cw] at hp;refine K6 (I.pin p hp) λe n ne nf d=>?_;refine⟨kp _ _ e,n,a5<|ar e,λz=>?_,d⟩;rcases bP.mp (I.Dm p.1 z) with q|q
  ·exact ne q
  ·exact nf q
 hok:=I.hok.kept kp
 len:=by
  show(aT k none++cap.map λj=>(σ[j]?).join).length=N'.length
  have:=hcap.length
  rw[← hN,oD] at this
  simp
  lia
theorem comp_back (I:Inv X π σ HE sE)(hfp:∀b∈fp,pC X π HE b/\b<sE.heap.objs.size)
  (I':Inv (cX X N' scope cl sE.heap.objs.size sE HE fp π) p' σ' H' s'):Inv X π σ H' s':=
 I.call' (ch:=fp) I'.os I'.base I'.hok I'.bare λb hb=>⟨(hfp b hb).1.2.2.2.1,(hfp b hb).1.2.1,(hfp b hb).1.2.2.2.2.1,(hfp b hb).1.2.2.2.2.2⟩
end
theorem yK (I:Inv X π σ HE sE)(I':Inv X π σ' H' s')(hn:H' sE.heap.objs.size=none)
  (hs:h9 sE.heap.objs.size s'.heap h'):Inv X π σ' H' { s' with heap:=h' }:=by
 refine I'.turned (t':=s'.toks) (λb o hb e=>(hs.2 b hb).trans e) hn (l9 I.lt) (.inr I.sz) (λx c e z=>?_) λp hp z=>?_
 ·obtain⟨v,q⟩:=I.cell x c e;exact absurd q.lt (by rw[z];exact eD _)
 ·exact absurd (ar (I.pin p hp).1) (by rw[z];exact eD _)
def El (X:Cx)(ifs:List Expr)(t:TT):Prop:=
 ∀(π:Zl) (s:aI) (σ:St) (H:Hp) (Q:Bool->Hp->Prop),Inv X π σ H s->t σ H Q->
  br (b0 X.prog X.w) X.A (forIn ifs true λc r=>if r=true then do let ok←isTrue c X.env (eval c X.env);pure (qh ok) else pure (qh r)) (TP X π σ Q) X.xe s
def abo:TT:=λ_ H Q=>Q true H
theorem Vv:El X [] abo:=λ_ _ _ H _ I q=>wpAny_tests_nil ⟨H,I,q⟩
theorem Um (h:PT X c t):El X [c] t:=λπ s σ H Q I q=>wpAny_tests_one<|h π s σ H Q I q
noncomputable def cSt (k:Nat)(cap:List Nat)(σ:St):St:=aT k none++cap.map λj=>(σ[j]?).join
def YS (J:It)(k:Nat)(cap:List Nat)(g:TG)(tt:TT)(te:TE)(σ:St)(H1:Hp)(l:Addr)(Q:VK):Prop:=
 ∃W:Nat->Nat->List V->Hp->Prop,(∃m,W 0 m []<|upd H1 l<|.lst [])/\∀i m ys H,W i m ys H->
  (J.stop i H/\Q (.ref l) H)\/(J.go i H/\∀x H',J.yld i H x H'->g x (cSt k cap σ) H' λσ2 H3=>σ2.drop k=(cSt k cap σ).drop k/\tt σ2 H3 λb H4=>
   if b=true then te σ2 H4 λy H5=>H5 l=some (.lst ys)/\ys.length<ai/\∃m',m'<m/\W (i+1) m' (ys++[y]) (upd H5 l<|.lst<|ys++[y])
   else ∃m',m'<m/\W (i+1) m' ys H4)
def wU (k:Nat)(cap:List Nat)(wi:TI)(g:TG)(tt:TT)(te:TE):TE:=λσ H Q=>wi σ H λJ H1=>∀l,H1 l=none->YS J k cap g tt te σ H1 l Q
section
theorem Er (hcalm:X.calm=true)(S:CSc sc scope caps)(hsc:X.env.scope=sc)(hN:N'.drop k=caps)(hk:k<=N'.length)(hcap:eP (λj x=>X.N[j]? = some x) cap caps)
  (hi:PI Calm X tg iter wi) (hg:∀cl C sE HE fp π,PG (cX X N' scope cl C sE HE fp π) tg g) (ht:∀cl C sE HE fp π,El (cX X N' scope cl C sE HE fp π) ifs tt) (he:∀cl C sE HE fp π,PE (cX X N' scope cl C sE HE fp π) elt te)
  (I:Inv X π σ H s) (h:wU k cap wi g tt te σ H Q) {cl:List (Str×Addr)} (hc1:∀x c,cl.lookup x=some c->X.env.cells.lookup x=some c) (hc2:∀y∈scope.names,y.2=.free->∃c,cl.lookup y.1=some c)
  {RR:ay->Addr->Result->aI->Prop}
  (hRR:∀l sE HE H' s' m,Inv X π σ HE sE->Inv X π σ H' s'->H' sE.heap.objs.size=none->s'.heap.Ns sE.heap.objs.size m->Q (.ref l) H'->RR (.ref l) sE.heap.objs.size (.ok .next) s'):
  br (b0 X.prog X.w) X.A (eval iter X.env) (λxv s₁=>br (b0 X.prog X.w) X.A (AA xv) (λit s₂=>br (b0 X.prog X.w) X.A (newList []) (λacc s₃=>
   br (b0 X.prog X.w) X.A (newFunctionEnv scope X.env.globals cl [] X.env.qual none .none<|some X.env) (λcenv s₄=>
    pS (b0 X.prog X.w) X.A (.compStart (.ListComp elt [⟨tg,iter,ifs,0⟩] scope pos) 0 it acc { cenv with scope:=relabel scope X.env }) (RR acc cenv.locals) s₄) X.xe s₃) X.xe s₂) X.xe s₁) X.xe s:=by
 refine thn (hi π s σ H _ I h) λv s1 h1=>thn h1 λitv s2 h2=>?_;obtain⟨it,fp,tn,J,H1,e,I1,T,st1,f1,q1⟩:=h2;subst e;refine wpAny_newList ?_;have hfree:H1 s2.heap.objs.size=none:=I1.hok.fresh<|aE _;have fpl:∀b∈fp,b<s2.heap.objs.size:=λb hb=>by
  obtain⟨o,e,_⟩:=T.obj _ _ st1 b hb;exact ar e
 generalize hE:({ s2 with heap:=s2.heap.push { cls:=.type "list",data:=.seq ([]:List ay).toArray } }:aI)=sE;have k2:∀b o,s2.heap.get? b=some o->sE.heap.get? b=some o:=λb o e=>by rw[← hE];exact ag _ e
 have szE:s2.heap.objs.size<sE.heap.objs.size:=by rw[← hE];show _<(s2.heap.push _).objs.size;rw[rV];exact oI _
 have IE:Inv X π σ (upd H1 s2.heap.objs.size<|.lst []) sE:=by
  rw[← hE];refine I1.laid (t':=s2.toks) (λb o e=>ag _ e) (aE _) ?_;exact⟨eC _,[],0,.nil,aS _ rfl⟩
 have fE:∀b∈fp,pC X π (upd H1 s2.heap.objs.size<|.lst []) b/\b<sE.heap.objs.size:=λb hb=>
  ⟨⟨by rw[bT<|a5<|fpl b hb];exact(f1 b hb).1,(f1 b hb).2⟩,oq (fpl b hb) szE⟩
 obtain⟨W,⟨m0,w0⟩,turn⟩:=q1 _ hfree;generalize hl:s2.heap.objs.size=l at *;clear hl;generalize hHE:upd H1 l (.lst [])=HE at *;refine wpAny_newFunctionEnv S.nocell (by intro y hy;simp at hy) (λh₁ hns₁ hsb₁=>?_) S.kind;have kE:∀b o,sE.heap.get? b=some o->h₁.get? b=some o:=λb o e=>(hsb₁.2 b<|a5<|ar e).trans<|ag _ e;have I0:=Ff (k:=k) (cap:=cap) (N':=N') IE S hsc fE hc1 hc2 hN hk hcap kE hns₁<|sE.toks+([]:List (Str×ay)).length;have st0:tn 0 h₁:=T.keep _ _ _ st1 λb hb o e=>kE b o<|k2 b o e;have hX:∀{H':Hp},(∀b∈fp,H' b=none)->∀b∈fp,pC (cX X N' scope cl sE.heap.objs.size sE HE fp π) [] H' b:=λhn b hb=>
  ⟨hn b hb,(I0.ok.exf b hb).1,I0.ok.exfs b hb,.inl hb,(I0.ok.exf b hb).2,λp hp=>by
   rw[cw] at hp;exact(fE b hb).1.2.2.2.2.2 p hp⟩
 have loop:∀s₃:aI,s₃={ sE with heap:=h₁,toks:=sE.toks+([]:List (Str×ay)).length }->
   pS (b0 X.prog X.w) X.A (.compLoop (.ListComp elt [⟨tg,iter,ifs,0⟩] scope pos) 0 (.ref it) (.ref l)<|sM scope cl sE.heap.objs.size X.env) (RR (.ref l) sE.heap.objs.size) s₃:=by
  rintro s₃ rfl;refine codeAny_loop rfl (λn s'=>∃i ys H',Inv (cX X N' scope cl sE.heap.objs.size sE HE fp π) [] (cSt k cap σ) H' s'/\tn i s'.heap/\(∀b∈fp,H' b=none)/\W i n ys H') (λn s3 hI=>?_) m0
   ⟨0,[],HE,I0,st0,λb hb=>(fE b hb).1.1,w0⟩
  refine KR hI λi ys H3 I3 st3 fr3 w3=>?_;show br _ X.A ((compTurn (.ListComp elt [⟨tg,iter,ifs,0⟩] scope pos) 0 (.ref it) (.ref l)<|sM scope cl sE.heap.objs.size X.env).onRaise (λx=>do mE x (sM scope cl sE.heap.objs.size X.env);theTreesLotGoes x)) _ _ s3;refine wpAny_noted ?_;rw[compTurn_list];refine ae<|pj<|ae ?_;rcases turn i n ys H3 w3 with⟨stop,qn⟩|⟨go,step⟩
  ·refine d3 (T.done (cX X N' scope cl sE.heap.objs.size sE HE fp π) rfl rfl rfl hcalm i [] s3 _ H3 (λ_ _=>False) I3 (hX fr3) st3 stop) (λr s4 ⟨hr,I4⟩=>?_) λ_ _ z=>z.elim;subst hr;obtain⟨m4,hn4,_⟩:=I4.loc;exact ah<|hRR l sE HE H3 s4 m4 IE (comp_back IE fE I4) I4.free hn4 qn
  ·refine d3 (T.item (cX X N' scope cl sE.heap.objs.size sE HE fp π) rfl rfl rfl hcalm i [] s3 _ H3 (λ_ _=>False) I3 (hX fr3) st3 go) (λr s4 ⟨u,hr,h4⟩=>?_) λ_ _ z=>z.elim;subst hr;refine ae<|d3 h4 (λ_ s5 ⟨x,H5,I5,r5,y5,st5,fr5⟩=>?_) λ_ _ z=>z.elim;have I5':=I5.pinned (hX fr5)<|T.obj _ _ st5;refine ae<|d3 (hg _ _ _ _ _ _ _ s5 _ H5 x u _ I5' r5<|step x H5 y5) (λ_ s6 ⟨σ6,H6,I6,q6⟩=>?_) λ_ _ z=>z.elim;obtain⟨d6,q6⟩:=q6;have weak:∀{H7 s7},Inv (cX X N' scope cl sE.heap.objs.size sE HE fp π) ([]++mJ fp s5.heap) σ6 H7 s7->Inv (cX X N' scope cl sE.heap.objs.size sE HE fp π) ([]++mJ fp s5.heap) (cSt k cap σ) H7 s7:=λ{H7 s7} I7=>by
    refine I7.weak (I0.len.trans I7.len.symm) λj v e=>?_;by_cases z:k<=j
    ·obtain⟨j',rfl⟩:∃j',j=k+j':=⟨j-k,by lia⟩;rw[← hJ] at e ⊢;rw[d6];exact e
    ·unfold cSt at e;rw[b6 (by simp;lia),eS,if_pos<|by lia] at e;cases e
   have AH:∀{H7:Hp} {s7:aI} {zs:List V},Inv (cX X N' scope cl sE.heap.objs.size sE HE fp π) ([]++mJ fp s5.heap) σ6 H7 s7->(∃m',m'<n/\W (i+1) m' zs H7)->
     ∃m,m<n/\∃i ys H',Inv (cX X N' scope cl sE.heap.objs.size sE HE fp π) [] (cSt k cap σ) H' s7/\tn i s7.heap/\(∀b∈fp,H' b=none)/\W i m ys H':=λ{H7 s7 zs} I7 ⟨m',hm,w7⟩=>by
    refine⟨m',hm,i+1,zs,H7,(weak I7).pL,T.keep _ _ _ st5 λb hb o e=>(I7.pin (b,o)<|cm _<|cm _<|jG hb e).1,λb hb=>?_,w7⟩;obtain⟨o,e,d⟩:=T.obj _ _ st5 b hb;exact(I7.pin (b,o)<|cm _<|cm _<|jG hb e).2.1
   refine ae<|d3 (ht _ _ _ _ _ _ _ s6 σ6 H6 _ I6 q6) (λb s7 ⟨H7,I7,q7⟩=>?_) λ_ _ z=>z.elim;cases b with
   |false=>
    rw[if_neg aw] at q7;exact ah ⟨rfl,AH I7 q7⟩
   |true=>
    rw[if_pos rfl] at q7;refine ae<|ae<|d3 (he _ _ _ _ _ _ _ s7 σ6 H7 _ I7 q7) (λyv s8 ⟨y,H8,I8,r8,hl8,hz8,q8⟩=>?_) λ_ _ z=>z.elim;refine ae (d3 (vm (X:=cX X N' scope cl sE.heap.objs.size sE HE fp π) _ s8 σ6 H8 (.ref l) [y] (.ref l) [yv] (λ_ H9=>H9=upd H8 l (.lst<|ys++[y])) I8 rfl (.cons r8 .nil) ⟨l,ys,y,rfl,rfl,hl8,hz8,rfl⟩)
     (λ_ s9 ⟨_,H9,I9,_,e9⟩=>?_) λ_ _ z=>z.elim)
    subst e9;exact ah<|ah ⟨rfl,AH I9 q8⟩
 exact codeAny_compStart_list (loop _ rfl)<|T.self _ 0 _ _ _ st0<|loop _ rfl
theorem UJ (sc:l0)(N' caps:List Str)(k:Nat)(cap:List Nat)(hcalm:X.calm=true)(S:CSc sc scope caps)(hcap:eP (λj x=>X.N[j]? = some x) cap caps)
  (hi:PI Calm X tg iter wi) (hg:∀cl C sE HE fp π,PG (cX X N' scope cl C sE HE fp π) tg g) (ht:∀cl C sE HE fp π,El (cX X N' scope cl C sE HE fp π) ifs tt) (he:∀cl C sE HE fp π,PE (cX X N' scope cl C sE HE fp π) elt te)
  (hsc:X.env.scope=sc:=by rfl) (hN:N'.drop k=caps:=by rfl) (hk:k<=N'.length:=by decide) (hs:∀x,eR iter X.env x=pure x:=by intro _;rfl):
  PE X (.ListComp elt [⟨tg,iter,ifs,0⟩] scope pos) (wU k cap wi g tt te):=by
 intro π s σ H Q I h;obtain⟨cl,hcl,hc1,hc2⟩:=pG (scope:=scope) (env:=X.env) λy hy e=>I.ok.has y.1 (by
  have z:=S.free y hy e;rw[← hsc] at z;exact z)
 rw[eval_ListComp];refine me (use:=none) rfl hs hcl S.kind S.loc<|Er (RR:=λacc C=>yn (b0 X.prog X.w) X.A X.xe none (EP X π σ Q) acc C) hcalm S hsc hN hk hcap hi hg ht he I h hc1 hc2 ?_;intro l sE HE H' s' m IE I' hn hns q;exact⟨m,hns,λh' hs'=>⟨.ref l,H',yK IE I' hn hs',rfl,q⟩⟩
theorem Hk (sc:l0)(N' caps:List Str)(k:Nat)(cap:List Nat)(hnd:X.N.Nodup)(hi':X.N[i]? = some y)(hy:Loc X.env.scope y)(hcalm:X.calm=true)(S:CSc sc scope caps)(hcap:eP (λj x=>X.N[j]? = some x) cap caps)
  (hi:PI Calm X tg iter wi) (hg:∀cl C sE HE fp π,PG (cX X N' scope cl C sE HE fp π) tg g) (ht:∀cl C sE HE fp π,El (cX X N' scope cl C sE HE fp π) ifs tt) (he:∀cl C sE HE fp π,PE (cX X N' scope cl C sE HE fp π) elt te)
  (θ:gs (.ListComp elt [⟨tg,iter,ifs,0⟩] scope pos) (some<|.Name y py) spos.line X.env=pure true:=by rfl)
  (hsc:X.env.scope=sc:=by rfl) (hN:N'.drop k=caps:=by rfl) (hk:k<=N'.length:=by decide) (hs:∀x,eR iter X.env x=pure x:=by intro _;rfl)
  (hf:X.fn y=true\/X.env.scope.names.lookup y=some .local:=by first|exact .inl rfl|exact .inr rfl|assumption):
  PS X (.Assign [.Name y py] (.ListComp elt [⟨tg,iter,ifs,0⟩] scope pos) spos) (NP (wU k cap wi g tt te)<|zJ i):=by
 intro π s σ H D I h;obtain⟨cl,hcl,hc1,hc2⟩:=pG (scope:=scope) (env:=X.env) λy hy e=>I.ok.has y.1 (by
  have z:=S.free y hy e;rw[← hsc] at z;exact z)
 rw[exec_Assign_Name_used _ _ _ _ θ];refine ae<|pj<|ae ?_;show br _ X.A (do let _←comprehension (.ListComp elt [⟨tg,iter,ifs,0⟩] scope pos) scope X.env _ (newList []) false (eval iter X.env) (some<|zk (.Name y py) X.env)) _ _ s;refine ae (d3 (me (use:=some<|zk (.Name y py) X.env) (Q:=λ_ s'=>SP X π D .next s') rfl hs hcl S.kind S.loc
  (Er (RR:=λacc C=>yn (b0 X.prog X.w) X.A X.xe (some<|zk (.Name y py) X.env) (λ_ s'=>SP X π D .next s') acc C) hcalm S hsc hN hk hcap hi hg ht he I h hc1 hc2 ?_)) (λ_ s' hq=>ah<|ah hq) λ_ _ e=>e)
 intro l sE HE H' s' m IE I' hn hns q;show br _ X.A (zk (.Name y py) X.env<|.ref l) _ _ _;refine wpAny_assign_Name<|z9 I' hnd hi' hy (v:=.ref l) rfl (λs2 I2 hb=>?_) hf;obtain⟨a,hsb,ha⟩:=hb;have hne:sE.heap.objs.size≠a:=λz=>by
  rcases ha with e|e
  ·exact absurd IE.lt (by rw[← e,← z];exact eD _)
  ·obtain⟨v,q⟩:=IE.cell y a e;exact absurd q.lt (by rw[z];exact eD _)
 exact⟨m,hns.sameBut hsb hne,λh' hs'=>⟨_,H',yK IE I2 hn hs',q⟩⟩
end
inductive TyK (K:a6)(H:Hp):V->ay->Prop where
 |of {v:V} {t:ay}:uN K H v t->TyK K H v t
 |tup {a:Addr} {xs:List V}:SqT K H a xs->TyK K H (.ref a) (.type "tuple")
 |lst {a:Addr} {xs:List V}:SqL K H a xs->TyK K H (.ref a) (.type "list")
section
def Zv (K:a6):List V->Hp->VK->Prop:=λxs H Q=>∃x c t cv b,xs=[x,c]/\Vl c=some cv/\TyK K H x t/\cx K t cv=some b/\Q (.bl b) H
theorem Mq:fL X (.builtin "isinstance") (Zv X.K):=by
 intro π s σ H xs us Q I r h;obtain⟨x,c,t,cv,b,rfl,rc,ty,e,q⟩:=h;obtain⟨u,w',rfl,ru,rw'⟩:=vals2 r;have z:=FP rc rw';subst z;cases ty with
 |of ty=>exact Ld I ru ty e λtk=>⟨.bl b,H,I.tok _,rfl,q⟩
 | @tup a xs hs=>
  cases(show u=bE a from ru);obtain⟨its,_,⟨o,h1,h2,_⟩,_⟩:=I.tuple hs;exact ix W.kitx_tuple I.kIn ⟨o,h1,h2⟩ e (λz=>nomatch z) λtk=>⟨.bl b,H,I.tok _,rfl,q⟩
 | @lst a xs hs=>
  cases(show u=bE a from ru);obtain⟨its,_,⟨o,n,h1,h2,_⟩,_⟩:=I.list hs;exact ix W.kitx_list I.kIn ⟨o,h1,h2⟩ e (λz=>nomatch z) λtk=>⟨.bl b,H,I.tok _,rfl,q⟩
end
theorem Rd.mono (h:Rd H a u)(g:aH H H'):Rd H' a u:=h.elim (λe=>.inl<|g _ _ e) λ⟨o,e⟩=>.inr ⟨o,g _ _ e⟩
theorem Ft {K:a6}{H H':Hp}{a:Addr}{xs:List V}(h:SqL K H a xs)(g:aH H H'):SqL K H' a xs:=h.elim (λe=>.inl<|Rd.mono e g) .inr
def SameBut (l:Addr)(H H':Hp):Prop:=∀b u,b≠l->H b=some u->H' b=some u
theorem PX (g:aH H H'):SameBut l H H':=λb u _ e=>g b u e
theorem Hc:SameBut l H (upd H l o):=λb u n e=>by rw[bT n];exact e
theorem SameBut.trans (a:SameBut l H H1)(b:SameBut l H1 H2):SameBut l H H2:=λc u n e=>b c u n<|a c u n e
theorem Bx (g:SameBut l H H')(n:H l=none):aH H H':=λb u e=>g b u (λz=>by rw[z,n] at e;cases e) e
section
end
section
end
section
def rJoin (K:a6):V->List V->Hp->VK->Prop:=λx vs H Q=>∃z l zs,x=.str z/\vs=[.ref l]/\SqL K H l (zs.map V.str)/\JoinOk z zs=true/\Q (.str<|Txt.join z zs) H
theorem Fg:∀{zs:List Str} {us:List ay},Vals (zs.map V.str) us->∃l:List (Str×Tok),us=yy l/\l.map (·.1)=zs
 |[],_,.nil=>⟨[],rfl,rfl⟩
 |z::zs,_,.cons r t=>by
  obtain⟨tk,rfl⟩:=r;obtain⟨l,rfl,e⟩:=Fg t;exact⟨(z,tk)::l,rfl,by rw[bo,e]⟩
theorem Vy (K:a6)(hK:X.K=K:=by rfl):MtM X "str.join" (rJoin K):=by
 subst hK;intro π s σ H x vs v us Q I rx rv h;obtain⟨z,l,zs,rfl,rfl,hL,ok,q⟩:=h;obtain⟨t,rfl⟩:=rx;obtain⟨u,rfl,ru⟩:=rv.one;cases ru;obtain⟨its,r,hp,_⟩:=I.list hL;obtain⟨ls,rfl,e⟩:=Fg r;exact SC.join hp.isList e ok λt' k=>⟨.str _,H,I.tok _,⟨t',rfl⟩,q⟩
end
end Hd
namespace F
open PySem PySem.Spec PyProof.Rows L2 Hd
inductive D where
 |non|bl (b:Bool)|int (i:Int)|str (x:Str)|exc (c:Str) (ns:List Str) (ds:List D)
 |tup (xs:List D)|lst (xs:List D)
 |dct (ks:List Key) (vs:List D)|dcu (ks:List (List Kt)) (vs:List D)
  |dcf (ks:List (List Kt)) (vs:List D)
  |adr (a:Addr)
  |ins (c:Str) (ns:List Str) (vs:List D)
abbrev Xn:=Str×List Str×List D
inductive Res (α:Type) where
 |ok (a:α)|exc (c:Xn)|stuck
def Res.bind {α β:Type}(r:Res α)(f:α->Res β):Res β:=match r with
 | .ok a=>f a
 | .exc c=>.exc c
 | .stuck=>.stuck
@[simp] theorem Res.aaD {α β:Type}(a:α)(f:α->Res β):(Res.ok a).bind f=f a:=rfl
@[simp] theorem Res.YM {α β:Type}(c:Xn)(f:α->Res β):(Res.exc c:Res α).bind f=.exc c:=rfl
@[simp] theorem Res.WT {α β:Type}(f:α->Res β):(Res.stuck:Res α).bind f=.stuck:=rfl
def ofO {α:Type}:Option α->Res α
 |some a=>.ok a
 |none=>.stuck
@[simp] theorem Z9 {α:Type}(a:α):ofO (some a)=.ok a:=rfl
@[simp] theorem aak {α:Type}:ofO (none:Option α)=.stuck:=rfl
structure Gx where
 K:a6
 mg:Zp
abbrev gx (X:Cx):Gx:=⟨X.K,X.mg⟩
def aaU (K:a6)(a:Addr)(xs:List V):Prop:=
 ∃(o:Obj) (its:Array ay) (n:Nat),K.lookup a=some o/\o.cls=.type "list"/\o.dict=none/\o.data=.seq its n/\its.size<=ai/\Vals xs its.toList
def LstAt (K:a6)(O:Zaa)(H:Hp)(a:Addr)(xs:List V):Prop:=(¬O a/\Rd H a (.lst xs))\/aaU K a xs
def XO (H:Hp)(od:Option Addr)(fs:List (Str×V)):Prop:=(fs=[]/\od=none)\/∃dx q,od=some dx/\H dx=some (.frz q<|.xd fs)
mutual
inductive DV (G:Gx)(O:Zaa)(H:Hp):V->D->Prop where
 |non:DV G O H .non .non
 |bl (b:Bool):DV G O H (.bl b) (.bl b)
 |int (i:Int):DV G O H (.int i) (.int i)
 |str (x:Str):DV G O H (.str x) (.str x)
 |adr (a:Addr):DV G O H (.ref a) (.adr a)
 |ins {a C dx:Addr} {c:Str} {ι:List (Str×V)} {ns:List Str} {vs:List V} {ds:List D}:¬O a->G.mg c=some (.ref C)->H a=some (.ins C dx ι)->ι.map (·.1)=ns->ι.map (·.2)=vs->DVs G O H vs ds->DV G O H (.ref a) (.ins c ns ds)
 |exc {a C:Addr} {c:Str} {ox:Obj} {fs:List (Str×V)} {ns:List Str} {vs:List V} {ds:List D}:G.mg c=some (.ref C)->H a=some (.frz ox (.ext (rK a (.ref C))))->XO H ox.dict fs->fs.map (·.1)=ns->fs.map (·.2)=vs->DVs G O H vs ds->DV G O H (.ref a) (.exc c ns ds)
 |tup {a:Addr} {xs:List V} {ds:List D}:SqU G.K H a xs->DVs G O H xs ds->DV G O H (.ref a) (.tup ds)
 |lst {a:Addr} {xs:List V} {ds:List D}:LstAt G.K O H a xs->DVs G O H xs ds->DV G O H (.ref a) (.lst ds)
 |dct {a:Addr} {ι:List (Key×V)} {ks:List Key} {vs:List V} {ds:List D}:¬O a->Rd H a (.dK ι)->ι.map (·.1)=ks->ι.map (·.2)=vs->DVs G O H vs ds->DV G O H (.ref a) (.dct ks ds)
 |dcu {a:Addr} {ι:List (List Kt×V)} {ks:List (List Kt)} {vs:List V} {ds:List D}:¬O a->H a=some (.dT (KTp G.K) ι)->ι.map (·.1)=ks->ι.map (·.2)=vs->DVs G O H vs ds->DV G O H (.ref a) (.dcu ks ds)
 |dcf {a:Addr} {o:Obj} {ι:List (List Kt×V)} {ks:List (List Kt)} {vs:List V} {ds:List D}:H a=some (.frz o (.dT (KTp G.K) ι))->ι.map (·.1)=ks->ι.map (·.2)=vs->DVs G O H vs ds->DV G O H (.ref a) (.dcf ks ds)
inductive DVs (G:Gx)(O:Zaa)(H:Hp):List V->List D->Prop where
 |nil:DVs G O H [] []
 |cons {v:V} {vs:List V} {d:D} {ds:List D}:DV G O H v d->DVs G O H vs ds->DVs G O H (v::vs) (d::ds)
end
def XP (G:Gx)(H:Hp)(c:Xn)(C:Addr×Option Addr):Prop:=G.mg c.1=some (.ref C.1)/\∃fs vs,XO H C.2 fs/\fs.map (·.1)=c.2.1/\fs.map (·.2)=vs/\∀O,DVs G O H vs c.2.2
def OV (G:Gx)(O:Zaa)(H:Hp)(a:Addr):D->Prop
 | .lst ds=>∃xs,H a=some (.lst xs)/\DVs G O H xs ds
 | .dct ks ds=>∃ι vs,H a=some (.dK ι)/\ι.map (·.1)=ks/\ι.map (·.2)=vs/\DVs G O H vs ds
 | .dcu ks ds=>∃ι vs,H a=some (.dT (KTp G.K) ι)/\ι.map (·.1)=ks/\ι.map (·.2)=vs/\DVs G O H vs ds
 | .ins c ns ds=>∃C dx ι vs,G.mg c=some (.ref C)/\H a=some (.ins C dx ι)/\ι.map (·.1)=ns/\ι.map (·.2)=vs/\DVs G O H vs ds
 |_=>False
def DW (G:Gx)(O:Zaa)(H:Hp)(v:V)(d:D):Prop:=DV G O H v d\/∃a,v=.ref a/\O a/\OV G O H a d
inductive DWs (G:Gx)(O:Zaa)(H:Hp):List V->List D->Prop where
 |nil:DWs G O H [] []
 |cons {v:V} {vs:List V} {d:D} {ds:List D}:DW G O H v d->DWs G O H vs ds->DWs G O H (v::vs) (d::ds)
def gM (o:Option HO):Prop:=(∃xs,o=some (.lst xs))\/(∃k,o=some (.dK k))\/(∃k:(Addr->List V->Prop)×List (List Kt×V),o=some (.dT k.1 k.2))\/∃k:Addr×Addr×List (Str×V),o=some (.ins k.1 k.2.1 k.2.2)
def Kp (O:Zaa)(H H':Hp):Prop:=∀b o,H b=some o->¬O b->H' b=some o
theorem Wf {O:Zaa}{H H':Hp}{a:Addr}{u:HO}(g:Kp O H H')(n:¬O a)(e:Rd H a u):Rd H' a u:=e.imp (λe=>g _ _ e n) λ⟨o,e⟩=>⟨o,g _ _ e n⟩
theorem aaa {H H':Hp}{a:Addr}{u:HO}(g:aH H H')(e:Rd H a u):Rd H' a u:=e.imp (g _ _) λ⟨o,e⟩=>⟨o,g _ _ e⟩
theorem V6 {H:Hp}{a:Addr}{u:HO}(e:Rd H a u)(z:H a=none):False:=by rcases e with e|⟨_,e⟩<;>(rw[z] at e;cases e)
theorem Kp.of {O:Zaa}{H H':Hp}(g:aH H H'):Kp O H H':=λb o e _=>g b o e
theorem kh {O:Zaa}{H:Hp}(m:∀b,O b->gM (H b)){a:Addr}{o:HO}(e:H a=some o)(n:¬gM (some o)):¬O a:=λz=>n<|e▸m a z
theorem KD {xs:List V}:¬gM (some<|.tup xs):=by rintro(⟨_,e⟩|⟨_,e⟩|⟨_,e⟩|⟨_,e⟩)<;>cases e
theorem nO {o:Obj}{u:HO}:¬gM (some<|.frz o u):=by rintro(⟨_,e⟩|⟨_,e⟩|⟨_,e⟩|⟨_,e⟩)<;>cases e
theorem X6 {K:a6}{O:Zaa}{H H':Hp}{a:Addr}{xs:List V}(m:∀b,O b->gM (H b))(g:Kp O H H')(h:SqT K H a xs):SqT K H' a xs:=by
 rcases h with(e|⟨o,e⟩)|h
 ·exact .inl<|.inl<|g a _ e<|kh m e KD
 ·exact .inl<|.inr ⟨o,g a _ e<|kh m e nO⟩
 ·exact .inr h
theorem Qj {K:a6}{O:Zaa}{H H':Hp}{a:Addr}{xs:List V}(m:∀b,O b->gM (H b))(g:Kp O H H')(h:SqU K H a xs):SqU K H' a xs:=by
 rcases h with e|h
 ·exact .inl<|g a _ e<|kh m e KD
 ·exact .inr h
theorem QG {K:a6}{H H':Hp}{a:Addr}{xs:List V}(h:SqU K H a xs)(g:aH H H'):SqU K H' a xs:=h.imp (g _ _) id
theorem um {K:a6}{O:Zaa}{H H':Hp}{a:Addr}{xs:List V}(g:Kp O H H')(h:LstAt K O H a xs):LstAt K O H' a xs:=by
 rcases h with⟨n,e|⟨o,e⟩⟩|h
 ·exact .inl ⟨n,.inl<|g a _ e n⟩
 ·exact .inl ⟨n,.inr ⟨o,g a _ e n⟩⟩
 ·exact .inr h
theorem LstAt.sq {K:a6}{O:Zaa}{H:Hp}{a:Addr}{xs:List V}(h:LstAt K O H a xs):SqL K H a xs:=h.elim (λz=>.inl z.2) .inr
section
variable {G:Gx}{O O':Zaa}{H H':Hp}
mutual
theorem DV.kp (m:∀b,O b->gM (H b))(g:Kp O H H'):∀{v:V} {d:D},DV G O H v d->DV G O H' v d
 |_,_,.non=>.non
 |_,_,.bl b=>.bl b
 |_,_,.int i=>.int i
 |_,_,.str x=>.str x
 |_,_,.adr a=>.adr a
 |_,_,.exc h e x a b hs=>.exc h (g _ _ e<|kh m e nO) (x.imp id λ⟨d,q,z,y⟩=>⟨d,q,z,g _ _ y<|kh m y nO⟩) a b<|DVs.kp m g hs
 |_,_,.tup h hs=>.tup (Qj m g h)<|DVs.kp m g hs
 |_,_,.lst h hs=>.lst (um g h)<|DVs.kp m g hs
 |_,_,.dct n e a b hs=>.dct n (Wf g n e) a b<|DVs.kp m g hs
 |_,_,.dcu n e a b hs=>.dcu n (g _ _ e n) a b<|DVs.kp m g hs
 |_,_,.dcf e a b hs=>.dcf (g _ _ e<|kh m e nO) a b<|DVs.kp m g hs
 |_,_,.ins n c e a b hs=>.ins n c (g _ _ e n) a b<|DVs.kp m g hs
theorem DVs.kp (m:∀b,O b->gM (H b))(g:Kp O H H'):∀{vs:List V} {ds:List D},DVs G O H vs ds->DVs G O H' vs ds
 |_,_,.nil=>.nil
 |_,_,.cons h hs=>.cons (DV.kp m g h)<|DVs.kp m g hs
end
mutual
theorem DV.mono (g:aH H H'):∀{v:V} {d:D},DV G O H v d->DV G O H' v d
 |_,_,.non=>.non
 |_,_,.bl b=>.bl b
 |_,_,.int i=>.int i
 |_,_,.str x=>.str x
 |_,_,.adr a=>.adr a
 |_,_,.exc h e x a b hs=>.exc h (g _ _ e) (x.imp id λ⟨d,q,z,y⟩=>⟨d,q,z,g _ _ y⟩) a b<|DVs.mono g hs
 |_,_,.tup h hs=>.tup (QG h g)<|DVs.mono g hs
 |_,_,.lst h hs=>.lst (um (.of g) h)<|DVs.mono g hs
 |_,_,.dct n e a b hs=>.dct n (aaa g e) a b<|DVs.mono g hs
 |_,_,.dcu n e a b hs=>.dcu n (g _ _ e) a b<|DVs.mono g hs
 |_,_,.dcf e a b hs=>.dcf (g _ _ e) a b<|DVs.mono g hs
 |_,_,.ins n c e a b hs=>.ins n c (g _ _ e) a b<|DVs.mono g hs
theorem DVs.mono (g:aH H H'):∀{vs:List V} {ds:List D},DVs G O H vs ds->DVs G O H' vs ds
 |_,_,.nil=>.nil
 |_,_,.cons h hs=>.cons (DV.mono g h)<|DVs.mono g hs
end
mutual
theorem DV.cL (s:∀b,O' b->O b\/H b=none):∀{v:V} {d:D},DV G O H v d->DV G O' H v d
 |_,_,.non=>.non
 |_,_,.bl b=>.bl b
 |_,_,.int i=>.int i
 |_,_,.str x=>.str x
 |_,_,.adr a=>.adr a
 |_,_,.exc h e x a b hs=>.exc h e x a b<|DVs.cL s hs
 |_,_,.tup h hs=>.tup h<|DVs.cL s hs
 |_,_,.lst h hs=>.lst (h.elim (λz=>.inl ⟨λo=>(s _ o).elim z.1 λn=>by rcases z.2 with e|⟨_,e⟩<;>(rw[n] at e;cases e),z.2⟩) .inr) (DVs.cL s hs)
 |_,_,.dct n e a b hs=>.dct (λo=>(s _ o).elim n λz=>V6 e z) e a b<|DVs.cL s hs
 |_,_,.dcu n e a b hs=>.dcu (λo=>(s _ o).elim n λz=>by rw[z] at e;cases e) e a b (DVs.cL s hs)
 |_,_,.dcf e a b hs=>.dcf e a b<|DVs.cL s hs
 |_,_,.ins n c e a b hs=>.ins (λo=>(s _ o).elim n λz=>by rw[z] at e;cases e) c e a b (DVs.cL s hs)
theorem DVs.cL (s:∀b,O' b->O b\/H b=none):∀{vs:List V} {ds:List D},DVs G O H vs ds->DVs G O' H vs ds
 |_,_,.nil=>.nil
 |_,_,.cons h hs=>.cons (DV.cL s h)<|DVs.cL s hs
end
def Ev (O:Zaa)(H:Hp)(O':Zaa)(H':Hp):Prop:=(∀b,O' b->O b\/H b=none)/\Kp O H H'
mutual
theorem DV.go (m:∀b,O b->gM (H b))(g:Ev O H O' H'):∀{v:V} {d:D},DV G O H v d->DV G O' H' v d
 |_,_,.non=>.non
 |_,_,.bl b=>.bl b
 |_,_,.int i=>.int i
 |_,_,.str x=>.str x
 |_,_,.adr a=>.adr a
 |_,_,.exc h e x a b hs=>.exc h (g.2 _ _ e<|kh m e nO) (x.imp id λ⟨d,q,z,y⟩=>⟨d,q,z,g.2 _ _ y<|kh m y nO⟩) a b<|DVs.go m g hs
 |_,_,.tup h hs=>.tup (Qj m g.2 h)<|DVs.go m g hs
 |_,_,.lst h hs=>.lst (h.elim (λz=>.inl ⟨λo=>(g.1 _ o).elim z.1 λn=>by rcases z.2 with e|⟨_,e⟩<;>(rw[n] at e;cases e),(um g.2 (.inl z):LstAt G.K O H' _ _).elim (λy=>y.2) λy=>z.2.elim (λe=>.inl<|g.2 _ _ e z.1) λ⟨o,e⟩=>.inr ⟨o,g.2 _ _ e z.1⟩⟩) .inr) (DVs.go m g hs)
 |_,_,.dct n e a b hs=>.dct (λo=>(g.1 _ o).elim n λz=>V6 e z) (Wf g.2 n e) a b<|DVs.go m g hs
 |_,_,.dcu n e a b hs=>.dcu (λo=>(g.1 _ o).elim n λz=>by rw[z] at e;cases e) (g.2 _ _ e n) a b (DVs.go m g hs)
 |_,_,.dcf e a b hs=>.dcf (g.2 _ _ e<|kh m e nO) a b<|DVs.go m g hs
 |_,_,.ins n c e a b hs=>.ins (λo=>(g.1 _ o).elim n λz=>by rw[z] at e;cases e) c (g.2 _ _ e n) a b (DVs.go m g hs)
theorem DVs.go (m:∀b,O b->gM (H b))(g:Ev O H O' H'):∀{vs:List V} {ds:List D},DVs G O H vs ds->DVs G O' H' vs ds
 |_,_,.nil=>.nil
 |_,_,.cons h hs=>.cons (DV.go m g h)<|DVs.go m g hs
end
theorem OV.cL {a:Addr}{d:D}(s:∀b,O' b->O b\/H b=none)(h:OV G O H a d):OV G O' H a d:=by
 cases d with
 |lst ds=>obtain⟨xs,e,hs⟩:=h;exact⟨xs,e,hs.cL s⟩
 |dct ks ds=>obtain⟨k,v,e,a1,a2,hs⟩:=h;exact⟨k,v,e,a1,a2,hs.cL s⟩
 |dcu ks ds=>obtain⟨k,v,e,a1,a2,hs⟩:=h;exact⟨k,v,e,a1,a2,hs.cL s⟩
 |ins c ns ds=>obtain⟨C,dx,k,v,ec,e,a1,a2,hs⟩:=h;exact⟨C,dx,k,v,ec,e,a1,a2,hs.cL s⟩
 |_=>exact h.elim
theorem OV.mono {a:Addr}{d:D}(g:aH H H')(h:OV G O H a d):OV G O H' a d:=by
 cases d with
 |lst ds=>obtain⟨xs,e,hs⟩:=h;exact⟨xs,g _ _ e,hs.mono g⟩
 |dct ks ds=>obtain⟨k,v,e,a1,a2,hs⟩:=h;exact⟨k,v,g _ _ e,a1,a2,hs.mono g⟩
 |dcu ks ds=>obtain⟨k,v,e,a1,a2,hs⟩:=h;exact⟨k,v,g _ _ e,a1,a2,hs.mono g⟩
 |ins c ns ds=>obtain⟨C,dx,k,v,ec,e,a1,a2,hs⟩:=h;exact⟨C,dx,k,v,ec,g _ _ e,a1,a2,hs.mono g⟩
 |_=>exact h.elim
theorem OV.kp {a:Addr}{d:D}(m:∀b,O b->gM (H b))(g:Kp O H H')(e':H' a=H a)(h:OV G O H a d):OV G O H' a d:=by
 cases d with
 |lst ds=>obtain⟨xs,e,hs⟩:=h;exact⟨xs,e'.trans e,hs.kp m g⟩
 |dct ks ds=>obtain⟨k,v,e,a1,a2,hs⟩:=h;exact⟨k,v,e'.trans e,a1,a2,hs.kp m g⟩
 |dcu ks ds=>obtain⟨k,v,e,a1,a2,hs⟩:=h;exact⟨k,v,e'.trans e,a1,a2,hs.kp m g⟩
 |ins c ns ds=>obtain⟨C,dx,k,v,ec,e,a1,a2,hs⟩:=h;exact⟨C,dx,k,v,ec,e'.trans e,a1,a2,hs.kp m g⟩
 |_=>exact h.elim
theorem OV.mut {a:Addr}{d:D}(h:OV G O H a d):gM (H a):=by
 cases d with
 |lst ds=>obtain⟨xs,e,hs⟩:=h;exact .inl ⟨xs,e⟩
 |dct ks ds=>obtain⟨k,v,e,_⟩:=h;exact .inr<|.inl ⟨k,e⟩
 |dcu ks ds=>obtain⟨k,v,e,_⟩:=h;exact .inr<|.inr<|.inl ⟨(_,k),e⟩
 |ins c ns ds=>obtain⟨C,dx,k,v,_,e,_⟩:=h;exact .inr<|.inr<|.inr ⟨(C,dx,k),e⟩
 |_=>exact h.elim
theorem OV.dv {a:Addr}{d:D}(n:¬O a)(h:OV G O H a d):DV G O H (.ref a) d:=by
 cases d with
 |lst ds=>obtain⟨xs,e,hs⟩:=h;exact .lst (.inl ⟨n,.inl e⟩) hs
 |dct ks ds=>obtain⟨k,v,e,a1,a2,hs⟩:=h;exact .dct n (.inl e) a1 a2 hs
 |dcu ks ds=>obtain⟨k,v,e,a1,a2,hs⟩:=h;exact .dcu n e a1 a2 hs
 |ins c ns ds=>obtain⟨C,dx,k,v,ec,e,a1,a2,hs⟩:=h;exact .ins n ec e a1 a2 hs
 |_=>exact h.elim
theorem DW.mono {v:V}{d:D}(g:aH H H')(h:DW G O H v d):DW G O H' v d:=h.elim (λz=>.inl<|z.mono g) λ⟨a,e,o,z⟩=>.inr ⟨a,e,o,z.mono g⟩
theorem DW.any {v:V}{d:D}(h:DW G O H v d):DV G (λ_=>False) H v d:=by
 rcases h with h|⟨a,e,_,h⟩
 ·exact h.cL λ_ z=>z.elim
 ·subst e;exact(h.cL (O':=λ_=>False) λ_ z=>z.elim).dv id
theorem DWs.any:∀{vs:List V} {ds:List D},DWs G O H vs ds->DVs G (λ_=>False) H vs ds
 |_,_,.nil=>.nil
 |_,_,.cons h hs=>.cons h.any<|DWs.any hs
end
section
variable {G:Gx}{O:Zaa}{H:Hp}{v:V}
theorem uH (h:DW G O H v .non):v=.non:=by
 rcases h with h|⟨_,_,_,h⟩
 ·cases h;rfl
 ·exact h.elim
theorem Gk {b:Bool}(h:DW G O H v (.bl b)):v=.bl b:=by
 rcases h with h|⟨_,_,_,h⟩
 ·cases h;rfl
 ·exact h.elim
theorem bY {i:Int}(h:DW G O H v (.int i)):v=.int i:=by
 rcases h with h|⟨_,_,_,h⟩
 ·cases h;rfl
 ·exact h.elim
theorem dH {x:Str}(h:DW G O H v (.str x)):v=.str x:=by
 rcases h with h|⟨_,_,_,h⟩
 ·cases h;rfl
 ·exact h.elim
theorem QR {c:Str}{ns:List Str}{es:List D}(h:DW G O H v (.exc c ns es)):∃a C,v=.ref a/\G.mg c=some (.ref C)/\∃ox,H a=some (.frz ox<|.ext<|rK a<|.ref C):=by
 rcases h with h|⟨_,_,_,h⟩
 ·cases h with
  |exc h e=>exact⟨_,_,rfl,h,_,e⟩
 ·exact h.elim
theorem rQ {ds:List D}(h:DW G O H v (.tup ds)):∃a xs,v=.ref a/\SqT G.K H a xs/\DVs G O H xs ds:=by
 rcases h with h|⟨_,_,_,h⟩
 ·cases h with
  |tup h hs=>exact⟨_,_,rfl,h.sq,hs⟩
 ·exact h.elim
theorem wz {ds:List D}(h:DW G O H v (.tup ds)):∃a xs,v=.ref a/\SqU G.K H a xs/\DVs G O H xs ds:=by
 rcases h with h|⟨_,_,_,h⟩
 ·cases h with
  |tup h hs=>exact⟨_,_,rfl,h,hs⟩
 ·exact h.elim
theorem iI {ds:List D}(h:DW G O H v (.lst ds)):∃a xs,v=.ref a/\SqL G.K H a xs/\DVs G O H xs ds:=by
 rcases h with h|⟨a,e,_,h⟩
 ·cases h with
  |lst h hs=>exact⟨_,_,rfl,h.sq,hs⟩
 ·obtain⟨xs,e',hs⟩:=h;exact⟨a,xs,e,.inl<|.inl e',hs⟩
theorem QJ {K:a6}{a:Addr}{ι:List (Key×V)}{k:Key}(e:Rd H a (.dK ι)):Il K H a (kV k) (lL ι k):=.inl ⟨ι,k,e,rfl,rfl⟩
theorem uD {ks:List Key}{ds:List D}(h:DW G O H v (.dct ks ds)):∃a ι vs,v=.ref a/\Rd H a (.dK ι)/\ι.map (·.1)=ks/\ι.map (·.2)=vs/\DVs G O H vs ds:=by
 rcases h with h|⟨a,e,_,h⟩
 ·cases h with
  |dct n e a b hs=>exact⟨_,_,_,rfl,e,a,b,hs⟩
 ·obtain⟨k,w,e',a1,a2,hs⟩:=h;exact⟨a,k,w,e,.inl e',a1,a2,hs⟩
theorem Oj {ks:List (List Kt)}{ds:List D}(h:DW G O H v (.dcu ks ds)):∃a ι vs,v=.ref a/\H a=some (.dT (KTp G.K) ι)/\ι.map (·.1)=ks/\ι.map (·.2)=vs/\DVs G O H vs ds:=by
 rcases h with h|⟨a,e,_,h⟩
 ·cases h with
  |dcu n e a b hs=>exact⟨_,_,_,rfl,e,a,b,hs⟩
 ·obtain⟨k,w,e',a1,a2,hs⟩:=h;exact⟨a,k,w,e,e',a1,a2,hs⟩
theorem cB:∀{vs:List V} {ds:List D},DVs G O H vs ds->vs.length=ds.length
 |_,_,.nil=>rfl
 |_,_,.cons _ hs=>by rw[fq,fq,cB hs]
theorem jg:∀{vs us:List V} {ds es:List D},DVs G O H vs ds->DVs G O H us es->DVs G O H (vs++us) (ds++es)
 |_,_,_,_,.nil,h=>h
 |_,_,_,_,.cons a t,h=>.cons a<|jg t h
theorem uh:∀{vs:List V} {ds:List D} {i:Nat} {x:V},DVs G O H vs ds->vs[i]? = some x->∃d,ds[i]? = some d/\DV G O H x d
 |_,_,_,_,.nil,e=>by simp at e
 |_,_,0,_,.cons a _,e=>by simp at e;subst e;exact⟨_,rfl,a⟩
 |_,_,i+1,x,.cons _ t,e=>by
  obtain⟨d,h1,h2⟩:=uh (i:=i) (x:=x) t (by simpa using e);exact⟨d,by simpa using h1,h2⟩
theorem CJ:∀{vs:List V} {ds:List D} {i:Nat} {d:D},DVs G O H vs ds->ds[i]? = some d->∃x,vs[i]? = some x/\DV G O H x d
 |_,_,_,_,.nil,e=>by simp at e
 |_,_,0,_,.cons a _,e=>by simp at e;subst e;exact⟨_,rfl,a⟩
 |_,_,i+1,d,.cons _ t,e=>by
  obtain⟨x,h1,h2⟩:=CJ (i:=i) (d:=d) t (by simpa using e);exact⟨x,by simpa using h1,h2⟩
theorem yJ:∀{vs:List V} {ds:List D} (n:Nat),DVs G O H vs ds->DVs G O H (vs.take n) (ds.take n)
 |_,_,0,_=>by simp only[List.take_zero];exact .nil
 |_,_,_+1,.nil=>.nil
 |_,_,n+1,.cons a t=>.cons a<|yJ n t
theorem Et:∀{vs:List V} {ds:List D} (n:Nat),DVs G O H vs ds->DVs G O H (vs.drop n) (ds.drop n)
 |_,_,0,h=>h
 |_,_,_+1,.nil=>.nil
 |_,_,n+1,.cons _ t=>Et n t
theorem Iw:∀{vs:List V} {ds:List D},DVs G O H vs ds->DVs G O H vs.reverse ds.reverse
 |_,_,.nil=>.nil
 |_,_,.cons a t=>by rw[kU,kU];exact jg (Iw t)<|.cons a .nil
noncomputable def flat:D->Bool
 | .non|.bl _|.int _|.str _=>true
 |_=>false
theorem DV.flat {O':Zaa}{H':Hp}{d:D}(f:flat d=true)(h:DV G O H v d):DV G O' H' v d:=by
 cases h with
 |non=>exact .non
 |bl b=>exact .bl b
 |int i=>exact .int i
 |str x=>exact .str x
 |_=>cases f
end
inductive Sl where
  |un|fz (d:D)|ow (d:D)|io (d:D)|bw (d:D)
  |hd (w:Bool) (a:Addr) (d:D)
abbrev Me:=List Sl
abbrev Os:=Nat->Option Addr
def Ow (O0:Zaa)(ow:Os):Zaa:=λb=>O0 b\/∃i,ow i=some b
def Op (O:Zaa)(p:Addr):Zaa:=λb=>O b\/b=p
noncomputable def owS (ow:Os)(i:Nat)(x:Option Addr):Os:=λj=>if j=i then x else ow j
theorem f9 {ow:Os}{i:Nat}{x:Option Addr}:owS ow i x i=x:=by unfold owS;rw[if_pos rfl]
theorem eU {ow:Os}{i j:Nat}{x:Option Addr}(h:j≠i):owS ow i x j=ow j:=by unfold owS;rw[if_neg h]
def GR (G:Gx)(O M0:Zaa)(H0:Hp)(oi:Option Addr)(v:Option (Option V))(H:Hp):Sl->Prop
 | .un=>oi=none
 | .fz d=>oi=none/\∃x,v=some (some x)/\DV G O H x d
 | .ow d=>∃a,oi=some a/\H0 a=none/\v=some (some<|.ref a)/\OV G O H a d
 | .io d=>∃a,oi=some a/\M0 a/\v=some (some<|.ref a)/\OV G O H a d
 | .bw d=>oi=none/\∃x,v=some (some x)/\DW G O H x d
 | .hd w a d=>oi=some a/\(w=true->H0 a=none)/\(w=false->M0 a)/\OV G O H a d
structure Rel (G:Gx)(O0 M0:Zaa)(H0:Hp)(ow:Os)(σ:L2.St)(H:Hp)(m:Me):Prop where
 len:σ.length=m.length
 keep:Kp M0 H0 H
 m0:∀b,M0 b->H b≠none
 mutk:∀b,Ow O0 ow b->gM (H b)
 no0:∀i a,ow i=some a->¬O0 a
 inj:∀i j a,ow i=some a->ow j=some a->i=j
 out:∀i,m.length<=i->ow i=none
 slot:∀i s,m[i]? = some s->GR G (Ow O0 ow) M0 H0 (ow i) (σ[i]?) H s
structure fX (G:Gx)(O0 M0:Zaa)(H0:Hp)(ow:Os)(σ:L2.St)(H:Hp)(m:Me):Prop extends Rel G O0 M0 H0 ow σ H m where
 nb:∀(j:Nat) (d:D),m[j]?≠some (Sl.bw d)
structure Go (O0:Zaa)(ow:Os)(H:Hp)(ow':Os)(H':Hp):Prop where
 keep:Kp (Ow O0 ow) H H'
 new:∀i a,ow' i=some a->Ow O0 ow a\/H a=none
 dom:∀b,H b≠none->H' b≠none
theorem Go.refl {O0:Zaa}{ow:Os}{H H':Hp}(g:aH H H'):Go O0 ow H ow H':=
 ⟨.of g,λi a e=>.inl<|.inr ⟨i,e⟩,λb n z=>by
  cases q:H b with
  |none=>exact n q
  |some o=>rw[g b o q] at z;cases z⟩
theorem Go.trans {O0:Zaa}{ow ow1 ow2:Os}{H H1 H2:Hp}(a:Go O0 ow H ow1 H1)(b:Go O0 ow1 H1 ow2 H2):Go O0 ow H ow2 H2 where
 keep:=λc o e n=>b.keep c o (a.keep c o e n) λz=>by
  rcases z with z|⟨i,z⟩
  ·exact n<|.inl z
  ·rcases a.new i c z with y|y
   ·exact n y
   ·rw[y] at e;cases e
 new:=λi c e=>by
  rcases b.new i c e with(z|⟨j,z⟩)|z
  ·exact .inl<|.inl z
  ·exact a.new j c z
  ·refine .inr ?_;cases q:H c with
   |none=>rfl
   |some o=>exact absurd z (a.dom c (by rw[q];simp))
 dom:=λc n=>b.dom c<|a.dom c n
theorem Go.ev {O0:Zaa}{ow ow':Os}{H H':Hp}(g:Go O0 ow H ow' H'):Ev (Ow O0 ow) H (Ow O0 ow') H':=
 ⟨λb z=>z.elim (λz=>.inl<|.inl z) λ⟨i,e⟩=>g.new i b e,g.keep⟩
theorem oF (O:Zaa):Ow O (λ_=>none)=O:=by
 funext b;exact propext ⟨λz=>z.elim id λ⟨_,e⟩=>(by cases e),a7⟩
section
variable {G:Gx}{O0 M0:Zaa}{H0 H H':Hp}{ow:Os}{σ:L2.St}{m:Me}
theorem GR.mono {O:Zaa}{oi:Option Addr}{v:Option (Option V)}{s:Sl}(g:aH H H')(h:GR G O M0 H0 oi v H s):GR G O M0 H0 oi v H' s:=by
 cases s with
 |un=>exact h
 |fz d=>obtain⟨a,x,e,q⟩:=h;exact⟨a,x,e,q.mono g⟩
 |ow d=>obtain⟨a,x,e,f,q⟩:=h;exact⟨a,x,e,f,q.mono g⟩
 |io d=>obtain⟨a,x,e,f,q⟩:=h;exact⟨a,x,e,f,q.mono g⟩
 |bw d=>obtain⟨a,x,e,q⟩:=h;exact⟨a,x,e,q.mono g⟩
 |hd w a d=>obtain⟨x,e,f,q⟩:=h;exact⟨x,e,f,q.mono g⟩
theorem qR {b:Addr}(g:aH H H')(h:gM (H b)):gM (H' b):=by
 rcases h with⟨x,e⟩|⟨x,e⟩|⟨x,e⟩|⟨x,e⟩
 ·exact .inl ⟨x,g _ _ e⟩
 ·exact .inr<|.inl ⟨x,g _ _ e⟩
 ·exact .inr<|.inr<|.inl ⟨x,g _ _ e⟩
 ·exact .inr<|.inr<|.inr ⟨x,g _ _ e⟩
theorem Rel.mono (R:Rel G O0 M0 H0 ow σ H m)(g:aH H H'):Rel G O0 M0 H0 ow σ H' m:=
 ⟨R.len,λb o e n=>g b o<|R.keep b o e n,λb z q=>R.m0 b z<|aH.free g q,λb z=>qR g<|R.mutk b z,R.no0,R.inj,R.out,λi s e=>(R.slot i s e).mono g⟩
theorem GR.cL {O O':Zaa}{oi:Option Addr}{v:Option (Option V)}{s:Sl}(sub:∀b,O' b->O b\/H b=none)(h:GR G O M0 H0 oi v H s)(hb:∀d,s=.bw d->∀b,O b->O' b\/¬O' b):GR G O' M0 H0 oi v H s:=by
 cases s with
 |un=>exact h
 |fz d=>obtain⟨a,x,e,q⟩:=h;exact⟨a,x,e,q.cL sub⟩
 |ow d=>obtain⟨a,x,e,f,q⟩:=h;exact⟨a,x,e,f,q.cL sub⟩
 |io d=>obtain⟨a,x,e,f,q⟩:=h;exact⟨a,x,e,f,q.cL sub⟩
 |bw d=>
  obtain⟨a,x,e,q⟩:=h;refine⟨a,x,e,?_⟩;rcases q with q|⟨b,e1,o,q⟩
  ·exact .inl<|q.cL sub
  ·rcases hb d rfl b o with w|w
   ·exact .inr ⟨b,e1,w,q.cL sub⟩
   ·subst e1;exact .inl<|(q.cL sub).dv w
 |hd w a d=>obtain⟨x,e,f,q⟩:=h;exact⟨x,e,f,q.cL sub⟩
theorem Ow.sub {i:Nat}{b:Addr}(z:Ow O0 (owS ow i none) b):Ow O0 ow b:=by
 rcases z with z|⟨j,e⟩
 ·exact .inl z
 ·by_cases q:j=i
  ·subst q;rw[f9] at e;cases e
  ·rw[eU q] at e;exact .inr ⟨j,e⟩
theorem Aq {α:Type}{l:List α}{i:Nat}{x:α}(e:l[i]? = some x):i<l.length:=(dS.mp e).1
theorem Rel.set {i:Nat}{v:V}{d:D}(R:Rel G O0 M0 H0 ow σ H m)(h:DV G (Ow O0 ow) H v d):
  Rel G O0 M0 H0 (owS ow i none) (σ.set i<|some v) H (m.set i<|.fz d):=by
 have sub:∀b,Ow O0 (owS ow i none) b->Ow O0 ow b\/H b=none:=λb z=>.inl z.sub;refine⟨by simp[R.len],R.keep,R.m0,λb z=>R.mutk b z.sub,λj a e=>?_,λj k a e1 e2=>?_,λj hj=>?_,λj s e=>?_⟩
 ·by_cases q:j=i
  ·subst q;rw[f9] at e;cases e
  ·rw[eU q] at e;exact R.no0 j a e
 ·by_cases q:j=i
  ·subst q;rw[f9] at e1;cases e1
  ·by_cases q':k=i
   ·subst q';rw[f9] at e2;cases e2
   ·rw[eU q] at e1;rw[eU q'] at e2;exact R.inj j k a e1 e2
 ·by_cases q:j=i
  ·subst q;exact f9
  ·rw[eU q];exact R.out j<|by simpa using hj
 ·by_cases q:j=i
  ·subst q;have hj:j<m.length:=by simpa using Aq e
   rw[dn hj] at e;cases e;rw[f9,dn (by rw[R.len];exact hj)];exact⟨rfl,v,rfl,h.cL sub⟩
  ·rw[dA<|i7 q] at e;rw[eU q,dA<|i7 q];exact(R.slot j s e).cL sub λ_ _ b _=>ve _
theorem Go.set {i:Nat}:Go O0 ow H (owS ow i none) H:=
 ⟨λ_ _ e _=>e,λj a e=>.inl (by
  by_cases q:j=i
  ·subst q;rw[f9] at e;cases e
  ·rw[eU q] at e;exact .inr ⟨j,e⟩),λ_ n=>n⟩
theorem Rel.VH (R:Rel G O0 M0 H0 ow σ H m){p:Addr}(n:H p=none):H0 p=none:=by
 cases q:H0 p with
 |none=>rfl
 |some o=>
  by_cases z:M0 p
  ·exact absurd n<|R.m0 p z
  ·rw[R.keep p o q z] at n;cases n
theorem Rel.Oq (R:Rel G O0 M0 H0 ow σ H m){p:Addr}(n:H p=none):¬Ow O0 ow p:=λz=>by
 have:=R.mutk p z
 rw[n] at this;rcases this with⟨_,e⟩|⟨_,e⟩|⟨_,e⟩|⟨_,e⟩<;>cases e
theorem Ow.new {i:Nat}{b p:Addr}(z:Ow O0 (owS ow i<|some p) b):Ow O0 ow b\/b=p:=by
 rcases z with z|⟨j,e⟩
 ·exact .inl<|.inl z
 ·by_cases q:j=i
  ·subst q;rw[f9] at e;cases e;exact .inr rfl
  ·rw[eU q] at e;exact .inl<|.inr ⟨j,e⟩
theorem Rel.own {i:Nat}{p:Addr}{d:D}(R:Rel G O0 M0 H0 ow σ H m)(g:aH H H')(n:H p=none)(n0:H0 p=none)(h:OV G (Op (Ow O0 ow) p) H' p d)(hi:i<m.length):
  Rel G O0 M0 H0 (owS ow i<|some p) (σ.set i<|some<|.ref p) H' (m.set i<|.ow d):=by
 have np:=R.Oq n;have sub:∀b,Ow O0 (owS ow i<|some p) b->Ow O0 ow b\/H b=none:=λb z=>z.new.elim .inl λe=>.inr (by rw[e];exact n);refine⟨by simp[R.len],(R.mono g).keep,(R.mono g).m0,λb z=>?_,λj a e=>?_,λj k a e1 e2=>?_,λj hj=>?_,λj s e=>?_⟩
 ·rcases z.new with z|z
  ·exact(R.mono g).mutk b z
  ·rw[z];exact h.mut
 ·by_cases q:j=i
  ·subst q;rw[f9] at e;cases e;exact λz=>np<|.inl z
  ·rw[eU q] at e;exact R.no0 j a e
 ·by_cases q:j=i
  ·subst q;rw[f9] at e1;cases e1;by_cases q':k=j
   ·exact q'.symm
   ·rw[eU q'] at e2;exact absurd (.inr ⟨k,e2⟩) np
  ·rw[eU q] at e1;by_cases q':k=i
   ·subst q';rw[f9] at e2;cases e2;exact absurd (.inr ⟨j,e1⟩) np
   ·rw[eU q'] at e2;exact R.inj j k a e1 e2
 ·have hj':m.length<=j:=by simpa using hj
  rw[eU<|by omega];exact R.out j hj'
 ·by_cases q:j=i
  ·subst q;rw[dn hi] at e;cases e;rw[f9,dn (by rw[R.len];exact hi)];exact⟨p,rfl,n0,rfl,h.cL λb z=>.inl<|z.new.elim .inl .inr⟩
  ·rw[dA<|i7 q] at e;rw[eU q,dA<|i7 q];exact((R.slot j s e).cL sub λ_ _ b _=>ve _).mono g
theorem Go.own {i:Nat}{p:Addr}(g:aH H H')(n:H p=none):Go O0 ow H (owS ow i<|some p) H':=
 ⟨.of g,λj a e=>by
  by_cases q:j=i
  ·subst q;rw[f9] at e;cases e;exact .inr n
  ·rw[eU q] at e;exact .inl<|.inr ⟨j,e⟩,(Go.refl (O0:=O0) (ow:=ow) g).dom⟩
theorem xM {i:Nat}{s:Sl}(nb:∀(j:Nat) (d:D),m[j]?≠some (Sl.bw d))(hs:∀d,s≠.bw d):∀(j:Nat) (d:D),(m.set i s)[j]?≠some (Sl.bw d):=λj d e=>by
 by_cases q:j=i
 ·subst q;have hj:j<m.length:=by simpa using Aq e
  rw[dn hj] at e;exact hs d<|bX e
 ·rw[dA<|i7 q] at e;exact nb j d e
theorem fX.mono (R:fX G O0 M0 H0 ow σ H m)(g:aH H H'):fX G O0 M0 H0 ow σ H' m:=⟨R.toRel.mono g,R.nb⟩
theorem fX.set {i:Nat}{v:V}{d:D}(R:fX G O0 M0 H0 ow σ H m)(h:DV G (Ow O0 ow) H v d):fX G O0 M0 H0 (owS ow i none) (σ.set i<|some v) H (m.set i<|.fz d):=
 ⟨R.toRel.set h,xM R.nb λ_ z=>by cases z⟩
theorem fX.own {i:Nat}{p:Addr}{d:D}(R:fX G O0 M0 H0 ow σ H m)(g:aH H H')(n:H p=none)(n0:H0 p=none)(h:OV G (Op (Ow O0 ow) p) H' p d)(hi:i<m.length):
  fX G O0 M0 H0 (owS ow i<|some p) (σ.set i<|some<|.ref p) H' (m.set i<|.ow d):=⟨R.toRel.own g n n0 h hi,xM R.nb λ_ z=>by cases z⟩
noncomputable def Sl.let:Sl->Sl
 | .ow d=>.fz d
 |s=>s
noncomputable def Me.let (m:Me):Me:=m.map Sl.let
theorem fX.let (R:fX G O0 M0 H0 ow σ H m):∃ow',fX G O0 M0 H0 ow' σ H m.let/\Go O0 ow H ow' H:=by
 let ow':Os:=λi=>match m[i]? with
  |some (.io _)=>ow i
  |some (.hd _ _ _)=>ow i
  |_=>none
 have le:∀i a,ow' i=some a->ow i=some a/\∀d,m[i]?≠some (.ow d):=λi a e=>by
  simp only[ow'] at e;split at e
  ·rename_i d q;exact⟨e,λd z=>by rw[q] at z;cases z⟩
  ·rename_i w b d q;exact⟨e,λd z=>by rw[q] at z;cases z⟩
  ·cases e
 have sub:∀b,Ow O0 ow' b->Ow O0 ow b\/H b=none:=λb z=>.inl<|z.elim .inl λ⟨i,e⟩=>.inr ⟨i,(le i b e).1⟩;refine⟨ow',⟨⟨by simp[Me.let,R.len],R.keep,R.m0,λb z=>?_,λi a e=>R.no0 i a (le i a e).1,λi j a e1 e2=>R.inj i j a (le i a e1).1 (le j a e2).1,λi hi=>?_,λi s e=>?_⟩,λj d e=>?_⟩,λb o e n=>e,λi a e=>.inl<|.inr ⟨i,(le i a e).1⟩,λ_ n=>n⟩
 ·exact R.mutk b<|z.elim .inl λ⟨i,e⟩=>.inr ⟨i,(le i b e).1⟩
 ·have hi':m.length<=i:=by simpa[Me.let] using hi
  simp only[ow'];rw[List.getElem?_eq_none hi']
 ·unfold Me.let at e;rw[dP] at e;cases q:m[i]? with
  |none=>rw[q] at e;cases e
  |some s0=>
   rw[q] at e;cases e;have z:=R.slot i s0 q;cases s0 with
   |un=>exact(show ow' i=none by simp only[ow',q])
   |fz d=>obtain⟨_,x,e,h⟩:=z;exact⟨(show ow' i=none by simp only[ow',q]),x,e,h.cL sub⟩
   |ow d=>
    obtain⟨a,e1,e2,e3,h⟩:=z;refine⟨(show ow' i=none by simp only[ow',q]),.ref a,e3,(h.cL sub).dv λw=>?_⟩;rcases w with w|⟨j,w⟩
    ·exact R.no0 i a e1 w
    ·obtain⟨w1,w2⟩:=le j a w
     have:=R.inj i j a e1 w1
     subst this;exact w2 d q
   |io d=>
    obtain⟨a,e1,e2,e3,h⟩:=z;exact⟨a,(show ow' i=some a by simp only[ow',q];exact e1),e2,e3,h.cL sub⟩
   |bw d=>exact(R.nb i d q).elim
   |hd w a d=>
    obtain⟨e1,e2,e3,h⟩:=z;exact⟨(show ow' i=some a by simp only[ow',q];exact e1),e2,e3,h.cL sub⟩
 ·unfold Me.let at e;rw[dP] at e;cases q:m[j]? with
  |none=>rw[q] at e;cases e
  |some s0=>
   rw[q] at e;cases s0 with
   |bw d'=>exact R.nb j d' q
   |_=>cases e
end
def Pu (G:Gx)(E:XK){α:Type}(r:Res α)(H:Hp)(k:α->Prop):Prop:=match r with
 | .ok a=>k a
 | .exc c=>∀C H',XP G H' c C->aH H H'->E (.ref C.1) C.2 H'
 | .stuck=>False
theorem Pu.bind {G:Gx}{E:XK}{α β:Type}{r:Res α}{f:α->Res β}{H:Hp}{k:β->Prop}(h:Pu G E (r.bind f) H k):Pu G E r H λa=>Pu G E (f a) H k:=by
 cases r with
 |ok a=>exact h
 |exc c=>exact h
 |stuck=>exact h
theorem Pu.imp {G:Gx}{E:XK}{α:Type}{r:Res α}{H H':Hp}{k k':α->Prop}(h:Pu G E r H k)(g:aH H H')(hk:∀a,k a->k' a):Pu G E r H' k':=by
 cases r with
 |ok a=>exact hk a h
 |exc c=>exact λC H1 e g1=>h C H1 e<|g.trans g1
 |stuck=>exact h
theorem Pu.ofO {G:Gx}{E:XK}{α:Type}{r:Option α}{H:Hp}{k:α->Prop}(h:Pu G E (ofO r) H k):∃a,r=some a/\k a:=by
 cases r with
 |some a=>exact⟨a,rfl,h⟩
 |none=>exact h.elim
noncomputable def tE (G:Gx)(E:XK)(f:Me->Res D):TE:=λσ H Q=>∃O0 M0 H0 ow m,Rel G O0 M0 H0 ow σ H m/\Pu G E (f m) H λd=>∀v H',aH H H'->DV G (Ow O0 ow) H' v d->Q v H'
def tB (G:Gx)(E:XK)(f:Me->Res D):TE:=λσ H Q=>∃O0 M0 H0 ow m,Rel G O0 M0 H0 ow σ H m/\Pu G E (f m) H λd=>∀v H',aH H H'->DW G (Ow O0 ow) H' v d->Q v H'
def tN (G:Gx)(E:XK)(f:Me->Res D):TE:=λσ H Q=>∃O0 M0 H0 ow m,Rel G O0 M0 H0 ow σ H m/\Pu G E (f m) H λd=>∀p H',aH H H'->H p=none->OV G (Op (Ow O0 ow) p) H' p d->Q (.ref p) H'
def tT (G:Gx)(E:XK)(f:Me->Res Bool):TT:=λσ H Q=>∃O0 M0 H0 ow m,Rel G O0 M0 H0 ow σ H m/\Pu G E (f m) H λb=>∀H',aH H H'->Q b H'
def tAE (G:Gx)(E:XK)(f:Me->Res (List D)):TA:=λσ H Q=>∃O0 M0 H0 ow m,Rel G O0 M0 H0 ow σ H m/\Pu G E (f m) H λds=>∀vs H',aH H H'->DVs G (Ow O0 ow) H' vs ds->Q vs H'
def tAB (G:Gx)(E:XK)(f:Me->Res (List D)):TA:=λσ H Q=>∃O0 M0 H0 ow m,Rel G O0 M0 H0 ow σ H m/\Pu G E (f m) H λds=>∀vs H',aH H H'->DWs G (Ow O0 ow) H' vs ds->Q vs H'
abbrev FE (X:Cx)(E:XK)(e:Expr)(f:Me->Res D):Prop:=PE X e<|tE (gx X) E f
abbrev FB (X:Cx)(E:XK)(e:Expr)(f:Me->Res D):Prop:=PE X e<|tB (gx X) E f
abbrev FN (X:Cx)(E:XK)(e:Expr)(f:Me->Res D):Prop:=PE X e<|tN (gx X) E f
abbrev FT (X:Cx)(E:XK)(e:Expr)(f:Me->Res Bool):Prop:=PT X e<|tT (gx X) E f
abbrev FW (X:Cx)(E:XK)(e:Expr)(f:Me->Res Bool):Prop:=PW X e<|tT (gx X) E f
abbrev FAE (X:Cx)(E:XK)(es:List Expr)(f:Me->Res (List D)):Prop:=PA X es<|tAE (gx X) E f
abbrev FAB (X:Cx)(E:XK)(es:List Expr)(f:Me->Res (List D)):Prop:=PA X es<|tAB (gx X) E f
theorem Bd {X:Cx}{e:Expr}{T T':TT}(h:PT X e T)(k:∀σ H Q,T' σ H Q->T σ H Q):PT X e T':=λπ s σ H Q I q=>h π s σ H Q I<|k σ H Q q
theorem KH {X:Cx}{e:Expr}{T T':TT}(h:PW X e T)(k:∀σ H Q,T' σ H Q->T σ H Q):PW X e T':=λwh π s σ H Q I q=>h wh π s σ H Q I<|k σ H Q q
theorem wA {X:Cx}{es:List Expr}{T T':TA}(h:PA X es T)(k:∀σ H Q,T' σ H Q->T σ H Q):PA X es T':=λpos π s σ H Q I q=>h pos π s σ H Q I<|k σ H Q q
section
variable {X:Cx}{E:XK}{e a b c:Expr}{es:List Expr}{f fa fb fc:Me->Res D}{fs:Me->Res (List D)}{ft fu:Me->Res Bool}{pos:Pos}
theorem aD (h:FE X E e f):FB X E e f:=bA h λ_ _ _ hE=>xq5 hE λO0 M0 H0 ow m R q=>⟨O0,M0,H0,ow,m,R,q.imp (aH.refl _) λ_ k v H' g d=>k v H' g<|.inl d⟩
theorem eX (h:FN X E e f):FE X E e f:=bA h λ_ _ _ hE=>xq5 hE λO0 M0 H0 ow m R q=>⟨O0,M0,H0,ow,m,R,q.imp (aH.refl _) λ_ k p H' g n o=>
 k _ H' g ((o.cL λb z=>.inl<|.inl z).dv<|R.Oq n)⟩
noncomputable def aC (i:Nat):Me->Res D:=λm=>match m[i]? with
 |some (.fz d)=>.ok d
 |_=>.stuck
noncomputable def ak (i:Nat):Me->Res D:=λm=>match m[i]? with
 |some (.fz d)=>.ok d
 |some (.ow d)=>.ok d
 |some (.io d)=>.ok d
 |some (.bw d)=>.ok d
 |_=>.stuck
theorem aF (i:Nat){x:Str}(hN:X.N[i]? = some x:=by rfl)(hv:Vis X.env.scope x:=by first|exact a7 rfl|exact j3 (a7 rfl)|exact j3 (j3 rfl))(hd:(x==("__debug__":Str))=false:=by decide)
  (hcd:(x==("__classdict__":Str))=false:=by decide):FE X E (.Name x pos) (aC i):=bA (qx hN hv hd hcd) λσ H Q hE=>xq5 hE λO0 M0 H0 ow m R q=>by
 unfold aC at q;cases e:m[i]? with
 |none=>rw[e] at q;exact q.elim
 |some s=>
  rw[e] at q;cases s with
  |fz d=>
   obtain⟨_,x,h1,h2⟩:=R.slot i _ e;exact⟨x,h1,q x H (aH.refl _) h2⟩
  |_=>exact q.elim
theorem aq (i:Nat){x:Str}(hN:X.N[i]? = some x:=by rfl)(hv:Vis X.env.scope x:=by first|exact a7 rfl|exact j3 (a7 rfl)|exact j3 (j3 rfl))(hd:(x==("__debug__":Str))=false:=by decide)
  (hcd:(x==("__classdict__":Str))=false:=by decide):FB X E (.Name x pos) (ak i):=bA (qx hN hv hd hcd) λσ H Q hE=>xq5 hE λO0 M0 H0 ow m R q=>by
 unfold ak at q;cases e:m[i]? with
 |none=>rw[e] at q;exact q.elim
 |some s=>
  rw[e] at q;cases s with
  |fz d=>
   obtain⟨_,x,h1,h2⟩:=R.slot i _ e;exact⟨x,h1,q x H (aH.refl _)<|.inl h2⟩
  |bw d=>
   obtain⟨_,x,h1,h2⟩:=R.slot i _ e;exact⟨x,h1,q x H (aH.refl _) h2⟩
  |ow d=>
   obtain⟨a,h1,h2,h3,h4⟩:=R.slot i _ e;exact⟨_,h3,q _ H (aH.refl _)<|.inr ⟨a,rfl,.inr ⟨i,h1⟩,h4⟩⟩
  |io d=>
   obtain⟨a,h1,h2,h3,h4⟩:=R.slot i _ e;exact⟨_,h3,q _ H (aH.refl _)<|.inr ⟨a,rfl,.inr ⟨i,h1⟩,h4⟩⟩
  |un=>exact q.elim
  |hd _ _ _=>exact q.elim
def fC (d:D):Me->Res D:=λ_=>.ok d
theorem Qu {d:D}{v:V}(h:PE X e (tC v))(hd:∀O H,DV (gx X) O H v d):FE X E e (fC d):=bA h λσ H Q hE=>xq5 hE λO0 M0 H0 ow m R q=>q v H (aH.refl _)<|hd _ _
theorem aB {i j pos}:FE X E (.Constant (.int i) j pos) (fC<|.int i):=Qu Xv λ_ _=>.int i
theorem lB {b j pos}:FE X E (.Constant (.bool b) j pos) (fC<|.bl b):=Qu ZR λ_ _=>.bl b
theorem Hl {j pos}:FE X E (.Constant .none j pos) (fC .non):=Qu Yb λ_ _=>.non
theorem aM {x j pos}:FE X E (.Constant (.str x) j pos) (fC<|.str x):=Qu Xi λ_ _=>.str x
theorem qK {x:Str}{v:V}{u:ay}{d:D}(hg:Gl X x)(hm:X.mg x=some u)(r:RelV v u)(hd:∀O H,DV (gx X) O H v d)(hdb:(x==("__debug__":Str))=false:=by decide):FE X E (.Name x pos) (fC d):=Qu (Jh hg hm r hdb) hd
def rG (G:Gx)(g:D->D->Option D):R2:=λx y H Q=>∃O d e r,(∀b,O b->gM (H b))/\DW G O H x d/\DW G O H y e/\g d e=some r/\∀v H',aH H H'->DV G O H' v r->Q v H'
def rGB (G:Gx)(g:D->D->Option Bool):R2:=λx y H Q=>∃O d e r,(∀b,O b->gM (H b))/\DW G O H x d/\DW G O H y e/\g d e=some r/\Q (.bl r) H
def rG1 (G:Gx)(g:D->Option D):V->Hp->VK->Prop:=λx H Q=>∃O d r,(∀b,O b->gM (H b))/\DW G O H x d/\g d=some r/\∀v H',aH H H'->DV G O H' v r->Q v H'
def rGC (G:Gx)(g:List D->Option D):List V->Hp->VK->Prop:=λxs H Q=>∃O ds r,(∀b,O b->gM (H b))/\DWs G O H xs ds/\g ds=some r/\∀v H',aH H H'->DV G O H' v r->Q v H'
def Vx (G:Gx)(g:List D->Option D):List V->Hp->VK->Prop:=λxs H Q=>∃O ds r,(∀b,O b->gM (H b))/\DWs G O H xs ds/\g ds=some r/\∀p H',aH H H'->H p=none->OV G (Op O p) H' p r->Q (.ref p) H'
def rGM (G:Gx)(g:D->List D->Option D):V->List V->Hp->VK->Prop:=λx xs H Q=>∃O d ds r,(∀b,O b->gM (H b))/\DW G O H x d/\DWs G O H xs ds/\g d ds=some r/\∀v H',aH H H'->DV G O H' v r->Q v H'
noncomputable def aA (g:D->D->Option D)(fa fb:Me->Res D):Me->Res D:=λm=>(fa m).bind λx=>(fb m).bind λy=>ofO<|g x y
noncomputable def lM (g:D->D->Option Bool)(fa fb:Me->Res D):Me->Res D:=λm=>(fa m).bind λx=>(fb m).bind λy=>ofO<|(g x y).map D.bl
noncomputable def aY (g:D->D->Option Bool)(fa fb:Me->Res D):Me->Res Bool:=λm=>(fa m).bind λx=>(fb m).bind λy=>ofO<|g x y
noncomputable def fUn (g:D->Option D)(fa:Me->Res D):Me->Res D:=λm=>(fa m).bind λx=>ofO<|g x
theorem two {G:Gx}{σ:L2.St}{H:Hp}{Q:VK}{r:R2}{O0 M0:Zaa}{H0:Hp}{ow:Os}{m:Me}{β:Type}{g:D->D->Res β}{K:β->Hp->Prop}(R:Rel G O0 M0 H0 ow σ H m)(h:Pu G E ((fa m).bind λx=>(fb m).bind λy=>g x y) H λz=>K z H)
  (hm:∀z H',K z H->aH H H'->K z H')
  (k:∀x y d e H',aH H H'->DW G (Ow O0 ow) H' x d->DW G (Ow O0 ow) H' y e->Pu G E (g d e) H' (λz=>K z H')->Rel G O0 M0 H0 ow σ H' m->r x y H' Q):tOp r (tB G E fa) (tB G E fb) σ H Q:=by
 refine⟨O0,M0,H0,ow,m,R,h.bind.imp (aH.refl _) λd q x H1 g1 hx=>⟨O0,M0,H0,ow,m,R.mono g1,q.bind.imp g1 λe q2 y H2 g2 hy=>?_⟩⟩;exact k x y d e H2 (g1.trans g2) (hx.mono g2) hy (q2.imp (g1.trans g2) λz kz=>hm z _ kz<|g1.trans g2)<|R.mono<|g1.trans g2
theorem b7 {g:D->D->Option D}{op:Operator}(ho:OpR X (h7 op) (rG (gx X) g))(ha:FB X E a fa)(hb:FB X E b fb):FE X E (.BinOp a op b pos) (aA g fa fb):=
 bA (Wb ho ha hb) λσ H Q hE=>xq5 hE λO0 M0 H0 ow m R q=>two R (K:=λz H=>∀v H',aH H H'->DV (gx X) (Ow O0 ow) H' v z->Q v H') q (λ_ _ k g v H' g' d=>k v H' (g.trans g') d) λx y d e H' g hx hy q' R'=>by
  obtain⟨r,hr,k⟩:=q'.ofO;exact⟨_,d,e,r,R'.mutk,hx,hy,hr,k⟩
theorem bM {g:D->D->Option D}(ho:IxR X (rG (gx X) g))(ha:FB X E a fa)(hb:FB X E b fb)(hs:BJ b):FE X E (.Subscript a b pos) (aA g fa fb):=
 bA (Y5 ho ha hb hs) λσ H Q hE=>xq5 hE λO0 M0 H0 ow m R q=>two R (K:=λz H=>∀v H',aH H H'->DV (gx X) (Ow O0 ow) H' v z->Q v H') q (λ_ _ k g v H' g' d=>k v H' (g.trans g') d) λx y d e H' g hx hy q' R'=>by
  obtain⟨r,hr,k⟩:=q'.ofO;exact⟨_,d,e,r,R'.mutk,hx,hy,hr,k⟩
theorem omap {α β:Type}{o:Option α}{f:α->β}{r:β}(h:o.map f=some r):∃a,o=some a/\f a=r:=by
 cases o with
 |none=>cases h
 |some a=>exact⟨a,rfl,bX h⟩
theorem nU {g:D->D->Option Bool}{op:CmpOp}(ho:OpR X (dk op) (rGB (gx X) g))(ha:FB X E a fa)(hb:FB X E b fb)(hm:iP op b=false):FE X E (.Compare a [op] [b] pos) (lM g fa fb):=
 bA (Sh ho ha hb hm) λσ H Q hE=>xq5 hE λO0 M0 H0 ow m R q=>two R (K:=λz H=>∀v H',aH H H'->DV (gx X) (Ow O0 ow) H' v z->Q v H') q (λ_ _ k g v H' g' d=>k v H' (g.trans g') d) λx y d e H' g hx hy q' R'=>by
  obtain⟨r,hr,k⟩:=q'.ofO;obtain⟨c,hc,rfl⟩:=omap hr;exact⟨_,d,e,c,R'.mutk,hx,hy,hc,k _ _ (aH.refl _)<|.bl c⟩
theorem d7 {g:D->D->Option Bool}{op:CmpOp}(ho:OpR X (dk op) (rGB (gx X) g))(ha:FB X E a fa)(hb:FB X E b fb)(hm:iP op b=false):FT X E (.Compare a [op] [b] pos) (aY g fa fb):=
 Bd (Vu ho ha hb hm) λσ H Q hE=>xq5 hE λO0 M0 H0 ow m R q=>two R (K:=λz H=>∀H',aH H H'->Q z H') q (λ_ _ k g H' g'=>k H'<|g.trans g') λx y d e H' g hx hy q' R'=>by
  obtain⟨c,hc,k⟩:=q'.ofO;exact⟨_,d,e,c,R'.mutk,hx,hy,hc,c,rfl,k _<|aH.refl _⟩
theorem Qt {g:D->Option D}{op:UnaryOp}(ho:UnR X (unaryOp op) (rG1 (gx X) g))(ha:FB X E a fa):FE X E (.UnaryOp op a pos) (fUn g fa):=
 bA (Y8 ho ha) λσ H Q hE=>xq5 hE λO0 M0 H0 ow m R q=>⟨O0,M0,H0,ow,m,R,q.bind.imp (aH.refl _) λd q x H1 g1 hx=>by
  obtain⟨r,hr,k⟩:=q.ofO;exact⟨_,d,r,(R.mono g1).mutk,hx,hr,λv H' g d=>k v H' (g1.trans g) d⟩⟩
def oA (g g':D->D->Option Bool)(fa fb fc:Me->Res D):Me->Res D:=λm=>(fa m).bind λx=>(fb m).bind λy=>(ofO<|g x y).bind λc=>if c then(fc m).bind λz=>ofO ((g' y z).map D.bl) else .ok (.bl false)
theorem Qz {r:R2}{g g':D->D->Option Bool}{β:Type}{w:Bool->β}{O0 M0:Zaa}{H0:Hp}{ow:Os}{m:Me}{σ:L2.St}{H:Hp}{Q:VK}{K:β->Hp->Prop}(R:Rel (gx X) O0 M0 H0 ow σ H m)
  (h:Pu (gx X) E ((fa m).bind λx=>(fb m).bind λy=>(ofO<|g x y).bind λc=>if c then(fc m).bind λz=>ofO ((g' y z).map w) else .ok (w false)) H λz=>K z H) (hm:∀z H',K z H->aH H H'->K z H') (kq:∀z H',K (w z) H'->Q (.bl z) H'):
  Qv (rGB (gx X) g) (rGB (gx X) g') (tB (gx X) E fa) (tB (gx X) E fb) (tB (gx X) E fc) σ H Q:=by
 refine⟨O0,M0,H0,ow,m,R,h.bind.imp (aH.refl _) λd q x H1 g1 hx=>⟨O0,M0,H0,ow,m,R.mono g1,q.bind.imp g1 λe q2 y H2 g2 hy=>?_⟩⟩;obtain⟨c,hc,q3⟩:=q2.bind.ofO;have G2:=g1.trans g2;refine⟨_,d,e,c,(R.mono G2).mutk,hx.mono g2,hy,hc,c,rfl,?_⟩;cases c with
 |true=>
  rw[if_pos rfl] at q3 ⊢;refine⟨O0,M0,H0,ow,m,R.mono G2,q3.bind.imp G2 λz q4 u H3 g3 hu=>?_⟩;obtain⟨r',hr,k⟩:=q4.ofO;obtain⟨c',hc',rfl⟩:=omap hr;exact⟨_,e,z,c',(R.mono<|G2.trans g3).mutk,hy.mono g3,hu,hc',kq c' H3<|hm _ _ k<|G2.trans g3⟩
 |false=>
  rw[if_neg aw] at q3 ⊢;exact kq _ _<|hm _ _ q3 G2
theorem Ec {g g':D->D->Option Bool}{op op':CmpOp}(ho:OpR X (dk op) (rGB (gx X) g))(ho':OpR X (dk op') (rGB (gx X) g'))(ha:FB X E a fa)(hb:FB X E b fb)(hc:FB X E c fc)(hm:lastMarks [op,op'] [b,c]=false:=by with_unfolding_all rfl):
  FE X E (.Compare a [op,op'] [b,c] pos) (oA g g' fa fb fc):=bA (Pn ho ho' ha hb hc hm) λσ H Q hE=>xq5 hE λO0 M0 H0 ow m R q=>
 Qz (w:=D.bl) (r:=rGB (gx X) g) R (K:=λz H=>∀v H',aH H H'->DV (gx X) (Ow O0 ow) H' v z->Q v H') q (λ_ _ k g v H' g' d=>k v H' (g.trans g') d) λz H' k=>k _ _ (aH.refl _)<|.bl z
noncomputable def fTv (fa:Me->Res D):Me->Res Bool:=λm=>(fa m).bind λx=>match x with
 | .bl b=>.ok b
 |_=>.stuck
theorem iM (h:FE X E e f)(he:∀whole,isTrue e X.env whole=(do let v←whole;standAt e.pos;holding [v] (truthy v)):=by intro _;rfl):FT X E e (fTv f):=
 Bd (WX h he) λσ H Q hE=>xq5 hE λO0 M0 H0 ow m R q=>⟨O0,M0,H0,ow,m,R,q.bind.imp (aH.refl _) λd q v H' g hv=>by
  cases d with
  |bl b=>cases hv;exact⟨b,rfl,q H' g⟩
  |_=>exact q.elim⟩
noncomputable def cC (ft:Me->Res Bool):Me->Res Bool:=λm=>(ft m).bind λc=>.ok<|!c
noncomputable def Ag (ft fu:Me->Res Bool):Me->Res Bool:=λm=>(ft m).bind λc=>if c then fu m else .ok false
noncomputable def jr (ft fu:Me->Res Bool):Me->Res Bool:=λm=>(ft m).bind λc=>if c then .ok true else fu m
theorem jw (h:FT X E a ft):FT X E (.UnaryOp .Not a pos) (cC ft):=Bd (YB h) λσ H Q hE=>xq5 hE λO0 M0 H0 ow m R q=>⟨O0,M0,H0,ow,m,R,q.bind.imp (aH.refl _) λb q H' g=>q H' g⟩
theorem Ug (h:FT X E a ft):FW X E (.BoolOp .And [a] pos) ft:=RV h
theorem uZ (h:FT X E a ft):FW X E (.BoolOp .Or [a] pos) ft:=YD h
theorem Xk (ha:FT X E a ft)(hb:FW X E (.BoolOp .And (b::es) pos) fu):FW X E (.BoolOp .And (a::b::es) pos) (Ag ft fu):=
 KH (WL ha hb) λσ H Q hE=>xq5 hE λO0 M0 H0 ow m R q=>⟨O0,M0,H0,ow,m,R,q.bind.imp (aH.refl _) λb q H' g=>by
  cases b with
  |true=>rw[if_pos rfl] at q ⊢;exact⟨O0,M0,H0,ow,m,R.mono g,q.imp g λ_ k H1 g1=>k H1<|g.trans g1⟩
  |false=>rw[if_neg aw] at q ⊢;exact q H' g⟩
theorem wH (ha:FT X E a ft)(hb:FW X E (.BoolOp .Or (b::es) pos) fu):FW X E (.BoolOp .Or (a::b::es) pos) (jr ft fu):=
 KH (aaB ha hb) λσ H Q hE=>xq5 hE λO0 M0 H0 ow m R q=>⟨O0,M0,H0,ow,m,R,q.bind.imp (aH.refl _) λb q H' g=>by
  cases b with
  |false=>rw[if_neg aw] at q ⊢;exact⟨O0,M0,H0,ow,m,R.mono g,q.imp g λ_ k H1 g1=>k H1<|g.trans g1⟩
  |true=>rw[if_pos rfl] at q ⊢;exact q H' g⟩
theorem Ie (h:FW X E e ft):FT X E e ft:=L2.PW.pt h
def Uy (fa:Me->Res D):Me->Res D:=λm=>(fTv fa m).bind λc=>.ok<|.bl !c
def m6 (fa fb:Me->Res D):Me->Res D:=λm=>(fTv fa m).bind λc=>if c then fb m else .ok (.bl false)
theorem Ni {G:Gx}{O:Zaa}{m:Me}{H:Hp}{k:Bool->Prop}(h:Pu G E (fTv fa m) H k):Pu G E (fa m) H λd=>∃b,d=.bl b/\k b:=by
 refine h.bind.imp (aH.refl _) λd q=>?_;cases d with
 |bl b=>exact⟨b,rfl,q⟩
 |_=>exact q.elim
theorem uY {op}(h:FE X E a fa):FE X E (.BoolOp op [a] pos) fa:=W2 h
theorem uU (ha:FE X E a fa)(hb:FE X E (.BoolOp .And (b::es) pos) fb):FE X E (.BoolOp .And (a::b::es) pos) (m6 fa fb):=
 bA (XS ha hb) λσ H Q hE=>xq5 hE λO0 M0 H0 ow m R q=>⟨O0,M0,H0,ow,m,R,(Ni (O:=O0) q.bind).imp (aH.refl _) λd ⟨b,e,q⟩ v H' g hv=>by
  subst e;cases hv;refine⟨b,rfl,?_⟩;cases b with
  |true=>rw[if_pos rfl] at q ⊢;exact⟨O0,M0,H0,ow,m,R.mono g,q.imp g λ_ k v H1 g1=>k v H1<|g.trans g1⟩
  |false=>rw[if_neg aw] at q ⊢;exact q _ H' g<|.bl false⟩
theorem Q3 (ha:FE X E a fa):FE X E (.UnaryOp .Not a pos) (Uy fa):=
 bA (W9 ha) λσ H Q hE=>xq5 hE λO0 M0 H0 ow m R q=>⟨O0,M0,H0,ow,m,R,(Ni (O:=O0) q.bind).imp (aH.refl _) λd ⟨b,e,q⟩ v H' g hv=>by
  subst e;cases hv;exact⟨b,rfl,q _ H' g<|.bl _⟩⟩
def fIf (ft:Me->Res Bool)(fa fb:Me->Res D):Me->Res D:=λm=>(ft m).bind λc=>if c then fa m else fb m
theorem Rq (hc:FT X E c ft)(ha:FE X E a fa)(hb:FE X E b fb):FE X E (.IfExp c a b pos) (fIf ft fa fb):=
 bA (O5 hc ha hb) λσ H Q hE=>xq5 hE λO0 M0 H0 ow m R q=>⟨O0,M0,H0,ow,m,R,q.bind.imp (aH.refl _) λb q H' g=>by
  cases b with
  |false=>rw[if_neg aw] at q ⊢;exact⟨O0,M0,H0,ow,m,R.mono g,q.imp g λ_ k v H1 g1=>k v H1<|g.trans g1⟩
  |true=>rw[if_pos rfl] at q ⊢;exact⟨O0,M0,H0,ow,m,R.mono g,q.imp g λ_ k v H1 g1=>k v H1<|g.trans g1⟩⟩
def au:Me->Res (List D):=λ_=>.ok []
noncomputable def aj (fa:Me->Res D)(fs:Me->Res (List D)):Me->Res (List D):=λm=>(fa m).bind λx=>(fs m).bind λxs=>.ok (x::xs)
theorem az:FAE X E [] au:=wA oW λσ H Q hE=>xq5 hE λO0 M0 H0 ow m R q=>q [] H (aH.refl _) .nil
theorem aZ:FAB X E [] au:=wA oW λσ H Q hE=>xq5 hE λO0 M0 H0 ow m R q=>q [] H (aH.refl _) .nil
theorem ao (ha:FE X E e fa)(hr:FAE X E es fs)(hs:av (e::es) X.env=(false,eval e X.env)::av es X.env:=by rfl):FAE X E (e::es) (aj fa fs):=
 wA (iG ha hr hs) λσ H Q hE=>xq5 hE λO0 M0 H0 ow m R q=>⟨O0,M0,H0,ow,m,R,q.bind.imp (aH.refl _) λd q v H1 g1 hv=>⟨O0,M0,H0,ow,m,R.mono g1,q.bind.imp g1 λds q vs H2 g2 hvs=>q _ H2 (g1.trans g2)<|.cons (hv.mono g2) hvs⟩⟩
theorem aQ (ha:FB X E e fa)(hr:FAB X E es fs)(hs:av (e::es) X.env=(false,eval e X.env)::av es X.env:=by rfl):FAB X E (e::es) (aj fa fs):=
 wA (iG ha hr hs) λσ H Q hE=>xq5 hE λO0 M0 H0 ow m R q=>⟨O0,M0,H0,ow,m,R,q.bind.imp (aH.refl _) λd q v H1 g1 hv=>⟨O0,M0,H0,ow,m,R.mono g1,q.bind.imp g1 λds q vs H2 g2 hvs=>q _ H2 (g1.trans g2)<|.cons (hv.mono g2) hvs⟩⟩
noncomputable def aL (fs:Me->Res (List D)):Me->Res D:=λm=>(fs m).bind λds=>if ds.length<=ai then .ok (.tup ds) else .stuck
noncomputable def bI (fs:Me->Res (List D)):Me->Res D:=λm=>(fs m).bind λds=>if ds.length<=ai then .ok (.lst ds) else .stuck
theorem Fz {G:Gx}{α:Type}{c:Prop}[Decidable c]{r:α}{H:Hp}{k:α->Prop}(h:Pu G E (if c then .ok r else .stuck) H k):c/\k r:=by
 by_cases z:c
 ·rw[if_pos z] at h;exact⟨z,h⟩
 ·rw[if_neg z] at h;exact h.elim
theorem bD {x1}(h:FAE X E es fs):FE X E (.Tuple es x1 pos) (aL fs):=bA (RZ h) λσ H Q hE=>xq5 hE λO0 M0 H0 ow m R q=>⟨O0,M0,H0,ow,m,R,q.bind.imp (aH.refl _) λds q vs H1 g1 hv=>by
 obtain⟨hz,k⟩:=Fz q;exact⟨by rw[cB hv];exact hz,λp H' g e=>k _ H' (g1.trans g)<|.tup (SqU.of e)<|hv.mono g⟩⟩
theorem je (h:FAE X E es fs):FN X E (.List es pos) (bI fs):=bA (YG<|Wc h) λσ H Q hE=>xq5 hE λO0 M0 H0 ow m R q=>⟨λvs H1=>aH H H1/\∃ds,DVs (gx X) (Ow O0 ow) H1 vs ds/\ds.length<=ai/\∀p H',aH H H'->H p=none->OV (gx X) (Op (Ow O0 ow) p) H' p (.lst ds)->Q (.ref p) H',⟨O0,M0,H0,ow,m,R,q.bind.imp (aH.refl _) λds q vs H1 g1 hv=>⟨g1,ds,hv,Fz q⟩⟩,λvs H1 ⟨g1,ds,hv,hz,k⟩=>
 ⟨by rw[cB hv];exact hz,λp hp=>k p _ (g1.trans<|bB hp _) (g1.free hp) ⟨vs,bu,(hv.cL λb z=>z.elim .inl λe=>.inr (by rw[e];exact hp)).mono<|bB hp _⟩⟩⟩
noncomputable def aV (g:List D->Option D)(fs:Me->Res (List D)):Me->Res D:=λm=>(fs m).bind λds=>ofO<|g ds
theorem Kv {g:List D->Option D}{σ:L2.St}{H:Hp}{Q:VK}(h:tE (gx X) E (aV g fs) σ H Q):tCB (rGC (gx X) g) (tAB (gx X) E fs) σ H Q:=by
 obtain⟨O0,M0,H0,ow,m,R,q⟩:=h;refine⟨O0,M0,H0,ow,m,R,q.bind.imp (aH.refl _) λds q vs H1 g1 hv=>?_⟩;obtain⟨r,hr,k⟩:=q.ofO;exact⟨_,ds,r,(R.mono g1).mutk,hv,hr,λv H' g d=>k v H' (g1.trans g) d⟩
theorem RB {g:List D->Option D}{σ:L2.St}{H:Hp}{Q:VK}(h:tN (gx X) E (aV g fs) σ H Q):tCB (Vx (gx X) g) (tAB (gx X) E fs) σ H Q:=by
 obtain⟨O0,M0,H0,ow,m,R,q⟩:=h;refine⟨O0,M0,H0,ow,m,R,q.bind.imp (aH.refl _) λds q vs H1 g1 hv=>?_⟩;obtain⟨r,hr,k⟩:=q.ofO;exact⟨_,ds,r,(R.mono g1).mutk,hv,hr,λp H' g n d=>k p H' (g1.trans g) (g1.free n) d⟩
section
variable {x:Str}{p:Pos}{id T:String}{g:List D->Option D}
theorem cH (hc:fL X (.builtin id) (rGC (gx X) g))(hg:Gl X x)(hm:X.mg x=none)(hv:ck x=some (.builtin id))(ha:FAB X E (e::es) fs)(hn:x≠"__name__":=by decide)(hdb:(x==("__debug__":Str))=false:=by decide)
  (he:av (e::es) X.env=(false,eval e X.env)::av es X.env:=by rfl) (ζ:(iq pos<|av es X.env).any (·.1)=false:=by rfl):FE X E (.Call (.Name x p) (e::es) [] pos) (aV g fs):=
 bA (t7 hc hg hm hv ha hn hdb he ζ) λ_ _ _ h=>Kv h
theorem gU (hc:fL X (.type T) (rGC (gx X) g))(hg:Gl X x)(hm:X.mg x=none)(hv:ck x=some (.type T))(ha:FAB X E (e::es) fs)(hn:x≠"__name__":=by decide)(hdb:(x==("__debug__":Str))=false:=by decide)
  (he:av (e::es) X.env=(false,eval e X.env)::av es X.env:=by rfl) (ζ:(iq pos<|av es X.env).any (·.1)=false:=by rfl):FE X E (.Call (.Name x p) (e::es) [] pos) (aV g fs):=
 bA (uT hc hg hm hv ha hn hdb he ζ) λ_ _ _ h=>Kv h
theorem zT (hc:fL X (.type T) (Vx (gx X) g))(hg:Gl X x)(hm:X.mg x=none)(hv:ck x=some (.type T))(ha:FAB X E (e::es) fs)(hn:x≠"__name__":=by decide)(hdb:(x==("__debug__":Str))=false:=by decide)
  (he:av (e::es) X.env=(false,eval e X.env)::av es X.env:=by rfl) (ζ:(iq pos<|av es X.env).any (·.1)=false:=by rfl):FN X E (.Call (.Name x p) (e::es) [] pos) (aV g fs):=
 bA (uT hc hg hm hv ha hn hdb he ζ) λ_ _ _ h=>RB h
end
noncomputable def tyD:String->D->Bool
 | "str",.str _=>true
 | "list",.lst _=>true
 | "dict",.dct _ _=>true
 | "dict",.dcu _ _=>true
 |_,_=>false
theorem Z4 {G:Gx}{O:Zaa}{H:Hp}{v:V}{d:D}{T:String}(h:DW G O H v d)(t:tyD T d=true):tyV G.K T v H:=by
 unfold tyD at t;split at t
 ·cases dH h;rfl
 ·obtain⟨a,xs,rfl,hx,_⟩:=iI h;exact .inl ⟨rfl,xs,hx⟩
 ·obtain⟨a,ι,vs,rfl,hx,_⟩:=uD h;exact .inr<|.inr<|.inl ⟨rfl,.inl ⟨ι,hx⟩⟩
 ·obtain⟨a,ι,vs,rfl,hx,_⟩:=Oj h;exact .inr<|.inr<|.inl ⟨rfl,.inr ⟨_,ι,.inl hx⟩⟩
 ·cases t
def jk (T:String)(g:D->List D->Option D)(fo:Me->Res D)(fs:Me->Res (List D)):Me->Res D:=λm=>(fo m).bind λd=>if tyD T d=true then(fs m).bind λds=>ofO (g d ds) else .stuck
theorem pO {G:Gx}{α:Type}{c:Prop}[Decidable c]{r:Res α}{H:Hp}{k:α->Prop}(h:Pu G E (if c then r else .stuck) H k):c/\Pu G E r H k:=by
 by_cases z:c
 ·rw[if_pos z] at h;exact⟨z,h⟩
 ·rw[if_neg z] at h;exact h.elim
section
variable {o:Expr}{name:Str}{apos χ:Pos}{T id:String}{g:D->List D->Option D}
theorem Ab (pa:PlainAttrs T)(slot:Slot T name id)(hty:typeOf (.builtin id)=pure (.type "method_descriptor"))(hm:MtR X id (rGM (gx X) g))(ho:FB X E o fa)(ha:FAB X E (e::es) fs)
  (ω:iX o name X.env (eval o X.env)=eval o X.env:=by rfl)
  (ν:((iq χ<|av (e::es) X.env).all (λx=>!x.1)&&(yi χ<|p9 [] X.env).all (λx=>x.1.isSome)
   && decide ((e::es).length+([]:List qc).length+(if([]:List qc).isEmpty then 0 else 1)<30))=true:=by rfl)
  (η:(apos.endLine==χ.line)=true:=by rfl) (hs:av (e::es) X.env=(false,eval e X.env)::av es X.env:=by rfl) (hplain:(iq χ<|av es X.env).any (·.1)=false:=by rfl):
  FE X E (.Call (.Attribute o name apos) (e::es) [] χ) (jk T g fa fs):=
 bA (QC pa slot hty hm ho ha ω ν η hs hplain) λσ H Q hE=>xq5 hE λO0 M0 H0 ow m R q=>⟨O0,M0,H0,ow,m,R,q.bind.imp (aH.refl _) λd q v H1 g1 hv=>by
  obtain⟨t,q⟩:=pO q;refine⟨Z4 hv t,O0,M0,H0,ow,m,R.mono g1,q.bind.imp g1 λds q vs H2 g2 hvs=>?_⟩;obtain⟨r,hr,k⟩:=q.ofO;exact⟨_,d,ds,r,(R.mono<|g1.trans g2).mutk,hv.mono g2,hvs,hr,λv H' g d=>k v H' ((g1.trans g2).trans g) d⟩⟩
end
end
inductive Fl where
 |nx|bk|ct|rt (fr:Bool) (d:D)
abbrev Zba:=D->Me->Option Me
abbrev Zaf:=Me->Res Bool
abbrev Zae:=Me->Res D
abbrev Zad:=Me->Res (List D)
abbrev Zac:=List D->Res (Bool×D)
abbrev Zab:=Me->Res (Fl×Me)
mutual
def V3:D->Bool
 | .non|.bl _|.int _|.str _=>true
 | .tup ds=>HY ds
 |_=>false
def HY:List D->Bool
 |[]=>true
 |d::ds=>V3 d&&HY ds
end
section
variable {G:Gx}{O O':Zaa}{H:Hp}
end
inductive Mr (G:Gx)(H0 H':Hp):List Addr->List V->List D->Prop where
 |nil:Mr G H0 H' [] [] []
 |flat {v:V} {d:D} {vs:List V} {ds:List D} {qs:List Addr}:DV G (λ_=>False) H' v d->V3 d=true->Mr G H0 H' qs vs ds->Mr G H0 H' qs (v::vs) (d::ds)
 |new {q:Addr} {xs:List V} {es:List D} {vs:List V} {ds:List D} {qs:List Addr}:H0 q=none->H' q=some (.lst xs)->DVs G (λ_=>False) H' xs es->HY es=true->q∉qs->Mr G H0 H' qs vs ds->Mr G H0 H' (q::qs) (.ref q::vs) (.lst es::ds)
def Fr (G:Gx)(O:Zaa)(H0:Hp)(v:V)(H':Hp)(d:D):Prop:=(∃p,v=.ref p/\H0 p=none/\OV G (Op O p) H' p d)\/∃p xs ds qs,d=.tup ds/\v=.ref p/\SqU G.K H' p xs/\Mr G H0 H' qs xs ds
def Ss (G:Gx)(E:XK)(O0 M0:Zaa)(H0:Hp)(ow:Os)(H:Hp)(W:Ends)(r:Res (Fl×Me)):Prop:=match r with
 | .ok (.nx,m')=>∀ow' σ' H',fX G O0 M0 H0 ow' σ' H' m'->Go O0 ow H ow' H'->W.nx σ' H'
 | .ok (.bk,m')=>∀ow' σ' H',fX G O0 M0 H0 ow' σ' H' m'->Go O0 ow H ow' H'->W.bk σ' H'
 | .ok (.ct,m')=>∀ow' σ' H',fX G O0 M0 H0 ow' σ' H' m'->Go O0 ow H ow' H'->W.ct σ' H'
 | .ok (.rt fr d,m')=>∀v ow' σ' H',fX G O0 M0 H0 ow' σ' H' m'->Go O0 ow H ow' H'->DV G (Ow O0 ow') H' v d->(fr=true->Fr G (Ow O0 ow') H0 v H' d)->W.rt v H'
 | .exc c=>∀C H',XP G H' c C->Kp M0 H0 H'->E (.ref C.1) C.2 H'
 | .stuck=>False
def tS (G:Gx)(E:XK)(g:Zab):TS:=λW σ H=>∃O0 M0 H0 ow m,fX G O0 M0 H0 ow σ H m/\Ss G E O0 M0 H0 ow H W (g m)
abbrev FS (X:Cx)(E:XK)(st:Stmt)(g:Zab):Prop:=PS X st<|tS (gx X) E g
abbrev FSs (X:Cx)(E:XK)(st:List Stmt)(g:Zab):Prop:=PSs X st<|tS (gx X) E g
theorem dJ {X:Cx}{st:Stmt}{T T':TS}(h:PS X st T)(k:∀W σ H,T' W σ H->T W σ H):PS X st T':=λπ s σ H W I q=>h π s σ H W I<|k W σ H q
theorem Ep {X:Cx}{st:List Stmt}{T T':TS}(h:PSs X st T)(k:∀W σ H,T' W σ H->T W σ H):PSs X st T':=λπ s σ H W I q=>h π s σ H W I<|k W σ H q
section
variable {G:Gx}{E:XK}{O0 M0:Zaa}{H0 H H':Hp}{ow ow':Os}{σ:L2.St}{m:Me}{W:Ends}{r:Res (Fl×Me)}
theorem Ss.pu {α:Type}{x:Res α}{k:α->Res (Fl×Me)}(R:Rel G O0 M0 H0 ow σ H m)(h:Ss G E O0 M0 H0 ow H W (x.bind k)):Pu G E x H λa=>Ss G E O0 M0 H0 ow H W (k a):=by
 cases x with
 |ok a=>exact h
 |exc c=>exact λC H' e g=>h C H' e λb o e n=>g b o<|R.keep b o e n
 |stuck=>exact h
theorem Ss.go (h:Ss G E O0 M0 H0 ow H W r)(g:Go O0 ow H ow' H'):Ss G E O0 M0 H0 ow' H' W r:=by
 cases r with
 |ok a=>
  obtain⟨f,m'⟩:=a;cases f with
  |nx=>exact λow1 σ1 H1 R g1=>h ow1 σ1 H1 R<|g.trans g1
  |bk=>exact λow1 σ1 H1 R g1=>h ow1 σ1 H1 R<|g.trans g1
  |ct=>exact λow1 σ1 H1 R g1=>h ow1 σ1 H1 R<|g.trans g1
  |rt fr d=>exact λv ow1 σ1 H1 R g1=>h v ow1 σ1 H1 R<|g.trans g1
 |exc c=>exact h
 |stuck=>exact h
theorem Ss.ofO {α:Type}{x:Option α}{k:α->Res (Fl×Me)}(h:Ss G E O0 M0 H0 ow H W ((ofO x).bind k)):∃a,x=some a/\Ss G E O0 M0 H0 ow H W (k a):=by
 cases x with
 |some a=>exact⟨a,rfl,h⟩
 |none=>exact h.elim
end
def gNx:Zab:=λm=>.ok (.nx,m)
noncomputable def aP (g k:Zab):Zab:=λm=>match g m with
 | .ok (.nx,m')=>k m'
 |r=>r
noncomputable def aX (i:Nat)(f:Zae):Zab:=λm=>(f m).bind λd=>.ok (.nx,m.set i<|.fz d)
noncomputable def dO (i:Nat)(f:Zae):Zab:=λm=>(f m).bind λd=>if i<m.length then .ok (.nx,m.set i<|.ow d) else .stuck
noncomputable def gEx (f:Zae):Zab:=λm=>(f m).bind λ_=>.ok (.nx,m)
def bC (f:Zae):Zab:=λm=>(f m.let).bind λd=>.ok (.rt false d,m.let)
def rC (f:Zae):Zab:=λm=>(f m.let).bind λd=>.ok (.rt true d,m.let)
def rA (i:Nat):Zab:=λm=>match m[i]? with
 |some (.ow d)=>.ok (.rt true d,m.let)
 |some (.fz d)=>.ok (.rt false d,m.let)
 |_=>.stuck
noncomputable def gIf (t:Zaf)(g k:Zab):Zab:=λm=>(t m).bind λc=>if c then g m else k m
section
variable {X:Cx}{E:XK}{e c:Expr}{es:List Expr}{st:Stmt}{rest sa sb:List Stmt}{f:Zae}{ft:Zaf}{g k ga gb:Zab}{pos pos':Pos}{i:Nat}{x:Str}
theorem cJ:FSs X E [] gNx:=Ep R8 λW σ H hE=>xq5 hE λO0 M0 H0 ow m R q=>q ow σ H R<|Go.refl<|aH.refl _
theorem X3 {G:Gx}{W:Ends}{σ:L2.St}{H:Hp}(h:tS G E (aP g k) W σ H):aas (tS G E g) (tS G E k) W σ H:=by
 obtain⟨O0,M0,H0,ow,m,R,q⟩:=h;refine⟨O0,M0,H0,ow,m,R,?_⟩;unfold aP at q;cases z:g m with
 |ok a=>
  obtain⟨f,m'⟩:=a;rw[z] at q;cases f with
  |nx=>exact λow' σ' H' R' g'=>⟨O0,M0,H0,ow',m',R',Ss.go q g'⟩
  |bk=>exact q
  |ct=>exact q
  |rt fr d=>exact q
 |exc c=>rw[z] at q;exact q
 |stuck=>rw[z] at q;exact q
theorem aO (h1:FS X E st g)(h2:FSs X E rest k):FSs X E (st::rest) (aP g k):=Ep (Qq h1 h2) λW σ H h=>X3 h
theorem aR (h1:FS X E st g):FSs X E [st] g:=JN h1
theorem Hw {G:Gx}{W:Ends}{σ:L2.St}{H:Hp}(h:tS G E (aX i f) W σ H):NP (tE G E f) (zJ i) W σ H:=by
 obtain⟨O0,M0,H0,ow,m,R,q⟩:=h;refine⟨O0,M0,H0,ow,m,R.toRel,(Ss.pu R.toRel q).imp (aH.refl _) λd q v H' g' hv=>?_⟩;exact q _ _ _ ((R.mono g').set hv)<|(Go.refl g').trans Go.set
theorem W0 {G:Gx}{W:Ends}{σ:L2.St}{H:Hp}(h:tS G E (dO i f) W σ H):NP (tN G E f) (zJ i) W σ H:=by
 obtain⟨O0,M0,H0,ow,m,R,q⟩:=h;refine⟨O0,M0,H0,ow,m,R.toRel,(Ss.pu R.toRel q).imp (aH.refl _) λd q p H' g' n hv=>?_⟩;by_cases hi:i<m.length
 ·rw[if_pos hi] at q;exact q _ _ _ (R.own g' n (R.toRel.VH n) hv hi)<|Go.own g' n
 ·rw[if_neg hi] at q;exact q.elim
theorem cQ (hN:X.N.Nodup)(hi:X.N[i]? = some x)(hx:Loc X.env.scope x)(he:FE X E e f)(hs:gs e (some<|.Name x pos') pos.line X.env=pure false:=by rfl)
  (hf:X.fn x=true\/X.env.scope.names.lookup x=some .local:=by first|exact .inl rfl|exact .inr rfl|assumption):FS X E (.Assign [.Name x pos'] e pos) (aX i f):=dJ (Ao hN hi hx he hs hf) λ_ _ _ h=>Hw h
theorem uP (hN:X.N.Nodup)(hi:X.N[i]? = some x)(hx:Loc X.env.scope x)(he:FN X E e f)(hs:gs e (some<|.Name x pos') pos.line X.env=pure false:=by rfl)
  (hf:X.fn x=true\/X.env.scope.names.lookup x=some .local:=by first|exact .inl rfl|exact .inr rfl|assumption):FS X E (.Assign [.Name x pos'] e pos) (dO i f):=dJ (Ao hN hi hx he hs hf) λ_ _ _ h=>W0 h
theorem KQ (he:FE X E e f)(hs:gs e none pos.line X.env=pure false:=by rfl):FS X E (.Expr e pos) (gEx f):=dJ (v9 he hs) λW σ H hE=>xq5 hE λO0 M0 H0 ow m R q=>
 ⟨O0,M0,H0,ow,m,R.toRel,(Ss.pu R.toRel q).imp (aH.refl _) λd q v H' g' hv=>q _ _ _ (R.mono g')<|Go.refl g'⟩
theorem cu (he:FE X E e f):FS X E (.Return (some e) pos) (bC f):=dJ (Hj he) λW σ H hE=>xq5 hE λO0 M0 H0 ow m R q=>by
 obtain⟨ow',R',g1⟩:=R.let;exact⟨O0,M0,H0,ow',m.let,R'.toRel,(Ss.pu R'.toRel<|Ss.go q g1).imp (aH.refl _) λd q v H' g' hv=>q v ow' σ H' (R'.mono g') (Go.refl g') hv λz=>by cases z⟩
theorem wC (he:FN X E e f):FS X E (.Return (some e) pos) (rC f):=dJ (Hj he) λW σ H hE=>xq5 hE λO0 M0 H0 ow m R q=>by
 obtain⟨ow',R',g1⟩:=R.let;exact⟨O0,M0,H0,ow',m.let,R'.toRel,(Ss.pu R'.toRel<|Ss.go q g1).imp (aH.refl _) λd q p H' g' n hv=>
  q _ ow' σ H' (R'.mono g') (Go.refl g') ((hv.cL λb z=>.inl<|.inl z).dv<|R'.toRel.Oq n) λ_=>.inl ⟨p,rfl,R'.toRel.VH n,hv⟩⟩
theorem v8 (i:Nat)(hN:X.N[i]? = some x:=by rfl)(hv:Vis X.env.scope x:=by first|exact a7 rfl|exact j3 (a7 rfl)|exact j3 (j3 rfl))(hd:(x==("__debug__":Str))=false:=by decide)
  (hcd:(x==("__classdict__":Str))=false:=by decide):FS X E (.Return (some<|.Name x pos') pos) (rA i):=dJ (Hj<|qx hN hv hd hcd) λW σ H hE=>xq5 hE λO0 M0 H0 ow m R q=>by
 obtain⟨ow',R',g1⟩:=R.let;unfold rA at q;cases z:m[i]? with
 |none=>rw[z] at q;exact q.elim
 |some s=>
  rw[z] at q;have zl:m.let[i]? = some s.let:=by unfold Me.let;rw[dP,z];rfl
  cases s with
  |fz d=>
   obtain⟨_,v,e,hv⟩:=R'.slot i _ zl;exact⟨v,e,q v ow' σ H R' g1 hv λz=>by cases z⟩
  |ow d=>
   obtain⟨_,v,e,hv⟩:=R'.slot i _ zl;obtain⟨a,h1,h2,h3,h4⟩:=R.slot i _ z;rw[h3] at e;cases e;refine⟨_,h3,q _ ow' σ H R' g1 hv λ_=>.inl ⟨a,rfl,h2,h4.cL λb w=>.inl ?_⟩⟩;rcases w with w|w
   ·rcases w with w|⟨j,w⟩
    ·exact .inl w
    ·rcases g1.new j b w with w'|w'
     ·exact w'
     ·have:=R'.mutk b (.inr ⟨j,w⟩)
      rw[w'] at this;rcases this with⟨_,e⟩|⟨_,e⟩|⟨_,e⟩|⟨_,e⟩<;>cases e
   ·rw[w];exact .inr ⟨i,h1⟩
  |_=>exact q.elim
theorem iu (hc:FT X E c ft)(ha:FSs X E sa ga)(hb:FSs X E sb gb):FS X E (.If c sa sb pos) (gIf ft ga gb):=dJ (ZK hc ha hb) λW σ H hE=>xq5 hE λO0 M0 H0 ow m R q=>
 ⟨O0,M0,H0,ow,m,R.toRel,(Ss.pu R.toRel q).imp (aH.refl _) λb q H' g'=>by
  cases b with
  |true=>rw[if_pos rfl] at q ⊢;exact⟨O0,M0,H0,ow,m,R.mono g',Ss.go q<|Go.refl g'⟩
  |false=>rw[if_neg aw] at q ⊢;exact⟨O0,M0,H0,ow,m,R.mono g',Ss.go q<|Go.refl g'⟩⟩
noncomputable def wh (t:Zaf)(b:Zab):Nat->Me->Option (Res<|Fl×Me)
 |0,_=>none
 |n+1,m=>match t m with
  | .ok true=>match b m with
   | .ok (.nx,m')=>wh t b n m'
   | .ok (.ct,m')=>wh t b n m'
   | .ok (.bk,m')=>some<|.ok (.nx,m')
   | .ok (.rt fr d,m')=>some<|.ok (.rt fr d,m')
   | .exc c=>some<|.exc c
   | .stuck=>some .stuck
  | .ok false=>some<|.ok (.nx,m)
  | .exc c=>some<|.exc c
  | .stuck=>some .stuck
theorem Je {t:Zaf}{b:Zab}:∀{n:Nat} {m:Me} {r:Res (Fl×Me)},wh t b n m=some r->wh t b (n+1) m=some r
 |0,_,_,h=>by cases h
 |n+1,m,r,h=>by
  have ih:=@Je t b n;unfold wh at h ⊢;split
  ·rename_i e;rw[e] at h;split
   ·rename_i m' e2;rw[e2] at h;exact ih h
   ·rename_i m' e2;rw[e2] at h;exact ih h
   ·rename_i m' e2;rw[e2] at h;exact h
   ·rename_i fr d m' e2;rw[e2] at h;exact h
   ·rename_i c e2;rw[e2] at h;exact h
   ·rename_i e2;rw[e2] at h;exact h
  ·rename_i e;rw[e] at h;exact h
  ·rename_i e;rw[e] at h;exact h
  ·rename_i e;rw[e] at h;exact h
theorem Hz {t:Zaf}{b:Zab}{n:Nat}{m:Me}{r:Res (Fl×Me)}(h:wh t b n m=some r):∀k,wh t b (n+k) m=some r
 |0=>h
 |k+1=>Je<|Hz h k
open Classical in
def nH (t:Zaf)(b:Zab):Zab:=λm=>
 if h:∃n r,wh t b n m=some r then zI (i4 h) else .stuck
theorem Mu {t:Zaf}{b:Zab}{m:Me}(h:nH t b m≠.stuck):∃n,wh t b n m=some (nH t b m):=by
 unfold nH at h ⊢;split at h
 ·rename_i q;rw[dif_pos q];exact⟨_,i4<|i4 q⟩
 ·exact absurd rfl h
theorem Af {t:Zaf}{b:Zab}{m:Me}{r:Res (Fl×Me)}(n:Nat)(h:wh t b n m=some r):nH t b m=r:=by
 unfold nH;have q:∃n r,wh t b n m=some r:=⟨n,r,h⟩;rw[dif_pos q];have z:=i4<|i4 q;have a:=Hz z n;have b':=Hz h<|zI q;rw[Nat.add_comm] at b';rw[a] at b';exact bX b'
theorem DX {body:List Stmt}(hp:x6 (b0 X.prog X.w) X.A X.env X.xe)(hc:FT X E c ft)(hb:FSs X E body g):FS X E (.While c body [] pos) (nH ft g):=dJ (OD hp hc hb) λW σ H hE=>xq5 hE λO0 M0 H0 ow m R q=>by
 obtain⟨n,hn⟩:=Mu (t:=ft) (b:=g) (m:=m) (λz=>by rw[z] at q;exact q);generalize nH ft g m=r at *;refine⟨λn σ' H'=>∃ow' m',fX (gx X) O0 M0 H0 ow' σ' H' m'/\Go O0 ow H ow' H'/\wh ft g n m'=some r,⟨n,ow,m,R,Go.refl<|aH.refl _,hn⟩,?_⟩;rintro n σ1 H1 ⟨ow1,m1,R1,g1,h1⟩;cases n with
 |zero=>cases h1
 |succ n=>
  refine⟨O0,M0,H0,ow1,m1,R1.toRel,?_⟩;unfold wh at h1;cases e:ft m1 with
  |exc c=>
   rw[e] at h1;cases h1;exact λC H' e g'=>q C H' e λb o e n=>g' b o<|R1.keep b o e n
  |stuck=>rw[e] at h1;cases h1;exact q.elim
  |ok t=>
   rw[e] at h1;intro H2 g2;have R2:=R1.mono g2;have G2:=g1.trans<|Go.refl g2;cases t with
   |false=>
    cases h1;rw[if_neg aw];exact q _ _ _ R2 G2
   |true=>
    rw[if_pos rfl];have h1:(match g m1 with
     | .ok (.nx,m')=>wh ft g n m'
     | .ok (.ct,m')=>wh ft g n m'
     | .ok (.bk,m')=>some<|.ok (.nx,m')
     | .ok (.rt fr d,m')=>some<|.ok (.rt fr d,m')
     | .exc c=>some<|.exc c
     | .stuck=>some .stuck)=some r:=h1
    refine⟨λσ' H'=>∃ow' m',fX (gx X) O0 M0 H0 ow' σ' H' m'/\Go O0 ow H ow' H'/\wh ft g n m'=some r,λσ' H' z=>⟨n,oI _,z⟩,O0,M0,H0,ow1,m1,R2,?_⟩;cases e2:g m1 with
    |exc c=>rw[e2] at h1;cases h1;exact q
    |stuck=>rw[e2] at h1;cases h1;exact q
    |ok a=>
     obtain⟨f2,m2⟩:=a;rw[e2] at h1;cases f2 with
     |nx=>exact λow' σ' H' R' g'=>⟨ow',m2,R',G2.trans g',h1⟩
     |ct=>exact λow' σ' H' R' g'=>⟨ow',m2,R',G2.trans g',h1⟩
     |bk=>cases h1;exact λow' σ' H' R' g'=>q ow' σ' H' R'<|G2.trans g'
     |rt fr d=>cases h1;exact λv ow' σ' H' R' g'=>q v ow' σ' H' R'<|G2.trans g'
end
def NbP (m m':Me):Prop:=(∀(j:Nat) (d:D),m[j]?≠some (Sl.bw d))->∀(j:Nat) (d:D),m'[j]?≠some (Sl.bw d)
def tG (G:Gx)(k:Nat)(h:Zba):TG:=λv σ H Q=>∃O0 M0 H0 ow m d m',Rel G O0 M0 H0 ow σ H m/\DV G (Ow O0 ow) H v d/\h d m=some m'/\
 ∀ow' σ',Rel G O0 M0 H0 ow' σ' H m'->Go O0 ow H ow' H->NbP m m'->σ'.drop k=σ.drop k->Q σ' H
def tGs (G:Gx)(k:Nat)(h:List D->Me->Option Me):TGs:=λvs σ H Q=>∃O0 M0 H0 ow m ds m',Rel G O0 M0 H0 ow σ H m/\DVs G (Ow O0 ow) H vs ds/\h ds m=some m'/\
 ∀ow' σ',Rel G O0 M0 H0 ow' σ' H m'->Go O0 ow H ow' H->NbP m m'->σ'.drop k=σ.drop k->Q σ' H
abbrev FG (X:Cx)(k:Nat)(tg:Expr)(h:Zba):Prop:=PG X tg<|tG (gx X) k h
abbrev FGs (X:Cx)(k:Nat)(tgs:List Expr)(h:List D->Me->Option Me):Prop:=PGs X tgs<|tGs (gx X) k h
theorem Kw {X:Cx}{e:Expr}{T T':TG}(h:PG X e T)(k:∀v σ H Q,T' v σ H Q->T v σ H Q):PG X e T':=λπ s σ H v u Q I r q=>h π s σ H v u Q I r<|k v σ H Q q
theorem Gn {X:Cx}{es:List Expr}{T T':TGs}(h:PGs X es T)(k:∀v σ H Q,T' v σ H Q->T v σ H Q):PGs X es T':=λπ s σ H v u Q I r q=>h π s σ H v u Q I r<|k v σ H Q q
noncomputable def hName (i:Nat):Zba:=λd m=>some<|m.set i<|.fz d
noncomputable def pF:List D->Me->Option Me
 |[],m=>some m
 |_,_=>none
noncomputable def du (h:Zba)(hs:List D->Me->Option Me):List D->Me->Option Me
 |d::ds,m=>(h d m).bind λm'=>hs ds m'
 |_,_=>none
noncomputable def ou (n:Nat)(hs:List D->Me->Option Me):Zba
 | .tup ds,m=>if ds.length=n then hs ds m else none
 |_,_=>none
section
variable {X:Cx}{pos:Pos}{k:Nat}{e:Expr}{es:List Expr}{h:Zba}{hs:List D->Me->Option Me}
theorem bQ {i:Nat}{x:Str}(hN:X.N.Nodup)(hi:X.N[i]? = some x)(hx:Loc X.env.scope x)(hk:i<k:=by decide)(hf:X.fn x=true\/X.env.scope.names.lookup x=some .local:=by first|exact .inl rfl|exact .inr rfl|assumption):FG X k (.Name x pos) (hName i):=
 Kw (SJ hN hi hx hf) λv σ H Q hE=>xq7 hE λO0 M0 H0 ow m d m' R hv e q=>by
  cases e;refine q _ _ (R.set hv) Go.set (λnb=>xM nb λ_ z=>by cases z) ?_;rw[List.drop_set,if_pos<|by omega]
theorem oG:FGs X k [] pF:=Gn U5 λvs σ H Q hE=>xq7 hE λO0 M0 H0 ow m ds m' R hv e q=>by
 cases hv with
 |nil=>cases e;exact⟨rfl,q _ _ R (Go.refl<|aH.refl _) id rfl⟩
 |cons a t=>cases e
theorem dU (h1:FG X k e h)(h2:FGs X k es hs)(hst:(iN (e::es) X.env).map (·.2)=zk e X.env::(iN es X.env).map (·.2):=by rfl):FGs X k (e::es) (du h hs):=
 Gn (Q4 h1 h2 hst) λvs σ H Q hE=>xq7 hE λO0 M0 H0 ow m ds m' R hv e q=>by
  cases hv with
  |nil=>cases e
  | @cons v vs' d ds' a t=>
   have e':(h d m).bind (λm'=>hs ds' m')=some m':=e;cases e1:h d m with
   |none=>rw[e1] at e';cases e'
   |some m1=>
    rw[e1] at e';exact⟨v,vs',rfl,O0,M0,H0,ow,m,d,m1,R,a,e1,λow' σ' R' g' nb hd=>⟨O0,M0,H0,ow',m1,ds',m',R',t.go R.mutk g'.ev,e',λow2 σ2 R2 g2 nb2 hd2=>q ow2 σ2 R2 (g'.trans g2) (λz=>nb2<|nb z)<|hd2.trans hd⟩⟩
theorem uK {j n:Nat}(hc:X.calm=true)(h:FGs X k es hs)(hn:(iN es X.env).length=n:=by rfl)(hst:(iN es X.env).findIdx? (·.1)=none:=by rfl):FG X k (.Tuple es j pos) (ou n hs):=
 Kw (Yu hc h hn hst) λv σ H Q hE=>xq7 hE λO0 M0 H0 ow m d m' R hv e q=>by
  cases d with
  |tup ds=>
   obtain⟨a,xs,rfl,hx,hd⟩:=rQ<|.inl hv;have e':(if ds.length=n then hs ds m else none)=some m':=e;by_cases z:ds.length=n
   ·rw[if_pos z] at e';exact⟨a,xs,rfl,hx,by rw[cB hd];exact z,O0,M0,H0,ow,m,ds,m',R,hd,e',q⟩
   ·rw[if_neg z] at e';cases e'
  |_=>cases e
end
noncomputable def Up (f:Zae)(h:Zba):Zab:=λm=>(f m).bind λd=>(ofO<|h d m).bind λm'=>.ok (.nx,m')
theorem Yg {X:Cx}{E:XK}{tg e:Expr}{f:Zae}{k:Nat}{h:Zba}{pos:Pos}(he:FE X E e f)(hg:FG X k tg h)(hs:swapsWithSole [tg] e pos.line X.env=pure false:=by rfl)(hw:swappedStores [tg] e X.env=pure none:=by rfl)
  (h1:(iN [tg] X.env).map (·.2)=[zk tg X.env]:=by rfl):FS X E (.Assign [tg] e pos) (Up f h):=dJ (X8 he hg hs hw h1) λW σ H hE=>xq5 hE λO0 M0 H0 ow m R q=>
 ⟨O0,M0,H0,ow,m,R.toRel,(Ss.pu R.toRel q).imp (aH.refl _) λd q v H' g' hv=>by
  obtain⟨m',e,q⟩:=Ss.ofO q;exact⟨O0,M0,H0,ow,m,d,m',(R.mono g').toRel,hv,e,λow' σ' R' g2 nb _=>q _ _ _ ⟨R',nb R.nb⟩<|(Go.refl g').trans g2⟩⟩
def xK (G:Gx)(J:It)(ds:List D)(P:(Zaa)->Hp->Prop):Prop:=∀O H,P O H->
 (∀i,i<ds.length->J.go i H)/\(∀i x H',i<ds.length->J.yld i H x H'->aH H H'/\∃d,ds[i]? = some d/\DV G O H' x d)/\J.stop ds.length H
def tI (G:Gx)(E:XK)(f:Zad):TI:=λσ H R=>∃O0 M0 H0 ow m,Rel G O0 M0 H0 ow σ H m/\Pu G E (f m) H λds=>∀J H',aH H H'->xK G J ds (λO H2=>Ev (Ow O0 ow) H' O H2)->R J H'
def tIw (G:Gx)(E:XK)(f:Zad):TI:=λσ H R=>∃O0 M0 H0 ow m,Rel G O0 M0 H0 ow σ H m/\Pu G E (f m) H λds=>∀J H',aH H H'->xK G J ds (λO H2=>(∀b,O b->Ow O0 ow b\/H' b=none)/\aH H' H2)->R J H'
abbrev FI (X:Cx)(E:XK)(tg e:Expr)(f:Zad):Prop:=PI Calm X tg e<|tI (gx X) E f
abbrev FIw (X:Cx)(E:XK)(tg e:Expr)(f:Zad):Prop:=PI Calm X tg e<|tIw (gx X) E f
theorem oN {X:Cx}{tg e:Expr}{T T':TI}(h:PI Calm X tg e T)(k:∀σ H R,T' σ H R->T σ H R):PI Calm X tg e T':=λπ s σ H R I q=>h π s σ H R I<|k σ H R q
noncomputable def kY (f:Zae):Zad:=λm=>(f m).bind λd=>match d with
 | .lst ds=>.ok ds
 |_=>.stuck
noncomputable def CK (f:Zae):Zad:=λm=>(f m).bind λd=>match d with
 | .tup ds=>.ok ds
 |_=>.stuck
noncomputable def lV (f:Zad):Zad:=λm=>(f m).bind λd=>match d with
 |[.int j]=>if -(2^62)<=j/\j<2^62 then .ok ((ip j.toNat).map λ(i:Nat)=>D.int i) else .stuck
 |_=>.stuck
theorem Kf {G:Gx}{O:Zaa}{H:Hp}{a:Addr}{xs:List V}{ds:List D}(m:∀b,O b->gM (H b))(hl:LstAt G.K O H a xs)(hd:DVs G O H xs ds):xK G (Itl G.K a) ds (λO' H2=>Ev O H O' H2):=by
 intro O' H2 ev;have hq:SqL G.K H2 a xs:=(um ev.2 hl).sq;have hd2:=hd.go m ev;have ρ:=cB hd;refine⟨λi hi=>⟨xs,xs[i]'(by omega),hq,by simp⟩,λi x H' hi y=>?_,xs,hq,by omega⟩;obtain⟨e,y⟩:=y;subst e;obtain⟨d,h1,h2⟩:=uh hd2<|y xs hq;exact⟨aH.refl _,d,h1,h2⟩
theorem Od {G:Gx}{O:Zaa}{H:Hp}{a:Addr}{xs:List V}{ds:List D}(m:∀b,O b->gM (H b))(hl:SqL G.K H a xs)(hd:DVs G O H xs ds):xK G (Itl G.K a) ds (λO' H2=>(∀b,O' b->O b\/H b=none)/\aH H H2):=by
 intro O' H2 ⟨sub,g⟩;have hq:SqL G.K H2 a xs:=Ft hl g;have hd2:=hd.go m ⟨sub,.of g⟩;have ρ:=cB hd;refine⟨λi hi=>⟨xs,xs[i]'(by omega),hq,by simp⟩,λi x H' hi y=>?_,xs,hq,by omega⟩;obtain⟨e,y⟩:=y;subst e;obtain⟨d,h1,h2⟩:=uh hd2<|y xs hq;exact⟨aH.refl _,d,h1,h2⟩
theorem Wv {G:Gx}{O:Zaa}{H:Hp}{a:Addr}{xs:List V}{ds:List D}(m:∀b,O b->gM (H b))(hl:SqT G.K H a xs)(hd:DVs G O H xs ds):xK G (Itt G.K a) ds (λO' H2=>Ev O H O' H2):=by
 intro O' H2 ev;have hq:SqT G.K H2 a xs:=X6 m ev.2 hl;have hd2:=hd.go m ev;have ρ:=cB hd;refine⟨λi hi=>⟨xs,xs[i]'(by omega),hq,by simp⟩,λi x H' hi y=>?_,xs,hq,by omega⟩;obtain⟨e,y⟩:=y;subst e;obtain⟨d,h1,h2⟩:=uh hd2<|y xs hq;exact⟨aH.refl _,d,h1,h2⟩
theorem xK.weak {G:Gx}{J:It}{ds:List D}{O:Zaa}{H:Hp}(h:xK G J ds (λO' H2=>Ev O H O' H2)):xK G J ds (λO' H2=>(∀b,O' b->O b\/H b=none)/\aH H H2):=
 λO' H2 ⟨s,g⟩=>h O' H2 ⟨s,.of g⟩
theorem NK {G:Gx}{lo:Int}{n:Nat}{P:(Zaa)->Hp->Prop}:xK G (Itr lo n) ((ip n).map λ(k:Nat)=>D.int<|lo+k) P:=by
 intro O H _;refine⟨λi hi=>(show i<n by simpa using hi),λi x H' hi y=>?_,by show n<=_;simp⟩;obtain⟨e,y⟩:=y;subst e y;have hi':i<n:=by simpa using hi
 exact⟨aH.refl _,_,by simp[dP,xt hi'],.int _⟩
section
variable {X:Cx}{E:XK}{tg e a b:Expr}{f:Zae}{fs:Zad}{p pos:Pos}
theorem Bu (h:FE X E e f):FI X E tg e (kY f):=oN (Jv h) λσ H R hE=>xq5 hE λO0 M0 H0 ow m Re q=>⟨O0,M0,H0,ow,m,Re,q.bind.imp (aH.refl _) λd q v H' g hv=>by
 cases d with
 |lst ds=>
  cases hv with
  |lst hl hd=>exact⟨_,rfl,⟨_,hl.sq⟩,q _ H' g<|Kf (Re.mono g).mutk hl hd⟩
 |_=>exact q.elim⟩
theorem CQ (h:FE X E e f):FI X E tg e (CK f):=oN (Xj h) λσ H R hE=>xq5 hE λO0 M0 H0 ow m Re q=>⟨O0,M0,H0,ow,m,Re,q.bind.imp (aH.refl _) λd q v H' g hv=>by
 cases d with
 |tup ds=>
  cases hv with
  |tup hl hd=>exact⟨_,rfl,⟨_,hl.sq⟩,q _ H' g<|Wv (Re.mono g).mutk hl.sq hd⟩
 |_=>exact q.elim⟩
theorem pJ (h:FB X E e f):FIw X E tg e (kY f):=oN (Jv h) λσ H R hE=>xq5 hE λO0 M0 H0 ow m Re q=>⟨O0,M0,H0,ow,m,Re,q.bind.imp (aH.refl _) λd q v H' g hv=>by
 cases d with
 |lst ds=>
  obtain⟨a,xs,rfl,hl,hd⟩:=iI hv;exact⟨a,rfl,⟨_,hl⟩,q _ H' g<|Od (Re.mono g).mutk hl hd⟩
 |_=>exact q.elim⟩
theorem uG {fl:Zad}(h:FI X E tg e fl):FIw X E tg e fl:=oN h λσ H R hE=>xq5 hE λO0 M0 H0 ow m Re q=>⟨O0,M0,H0,ow,m,Re,q.imp (aH.refl _) λds q J H' g hi=>q J H' g hi.weak⟩
theorem lg (hg:Gl X "range")(hm:X.mg "range" = none)(ha:FAB X E [a] fs)(hs:av [a] X.env=[(false,eval a X.env)]:=by rfl):FI X E tg (.Call (.Name "range" p) [a] [] pos) (lV fs):=
 oN (LQ hg hm ha hs) λσ H R hE=>xq5 hE λO0 M0 H0 ow m Re q=>⟨O0,M0,H0,ow,m,Re,q.bind.imp (aH.refl _) λds q vs H' g hv=>by
  cases hv with
  |nil=>exact q.elim
  | @cons v vs d ds h1 h2=>
   cases h2 with
   |cons _ _=>cases d<;>exact q.elim
   |nil=>
    cases d with
    |int j=>
     cases bY h1;obtain⟨⟨z1,z2⟩,k⟩:=Fz q;refine⟨j,rfl,z1,z2,k _ H' g ?_⟩
     have:=NK (G:=gx X) (lo:=0) (n:=j.toNat) (P:=λO H2=>Ev (Ow O0 ow) H' O H2)
     simpa using this
    |_=>exact q.elim⟩
end
noncomputable def cV (h:Zba)(g:Zab):List D->Zab
 |[],m=>.ok (.nx,m)
 |d::ds,m=>match h d m with
  |none=>.stuck
  |some m1=>match g m1 with
   | .ok (.nx,m2)=>cV h g ds m2
   | .ok (.ct,m2)=>cV h g ds m2
   | .ok (.bk,m2)=>.ok (.nx,m2)
   | .ok (.rt fr v,m2)=>.ok (.rt fr v,m2)
   | .exc c=>.exc c
   | .stuck=>.stuck
def mZ (fi:Zad)(h:Zba)(g:Zab):Zab:=λm=>(fi m).bind λds=>cV h g ds m
theorem Va {Cm:Cx->Prop}{X:Cx}{E:XK}{tg iter:Expr}{body:List Stmt}{fi:Zad}{k:Nat}{h:Zba}{g:Zab}{pos:Pos}(hp:x6 (b0 X.prog X.w) X.A X.env X.xe)(hc:Cm X)(hi:PI Cm X tg iter (tI (gx X) E fi))(hg:FG X k tg h)(hb:FSs X E body g)
  (hs:∀x,eR iter X.env x=pure x:=by intro _;rfl):FS X E (.For tg iter body [] pos) (mZ fi h g):=dJ (Wn hp hc hi hg hb hs) λW σ H hE=>xq5 hE λO0 M0 H0 ow m R q=>
 ⟨O0,M0,H0,ow,m,R.toRel,(Ss.pu R.toRel q).imp (aH.refl _) λds q J H1 g1 it=>by
  have R1:=R.mono g1;have q1:=Ss.go q<|Go.refl g1;generalize hr:cV h g ds m=r at *;refine⟨λi n σ' H'=>∃ow' m',fX (gx X) O0 M0 H0 ow' σ' H' m'/\Go O0 ow H1 ow' H'/\n=ds.length-i/\i<=ds.length/\cV h g (ds.drop i) m'=r,⟨_,ow,m,R1,Go.refl<|aH.refl _,rfl,eC _,hr⟩,?_⟩;rintro i n σ2 H2 ⟨ow2,m2,R2,g2,rfl,hi,e2⟩;obtain⟨i1,i2,i3⟩:=it _ H2 g2.ev;by_cases hlt:i<ds.length
  ·refine .inr ⟨i1 i hlt,λσ' H'=>∃ow' m',fX (gx X) O0 M0 H0 ow' σ' H' m'/\Go O0 ow H1 ow' H'/\cV h g (ds.drop<|i+1) m'=r,λσ' H' ⟨ow',m',R',g',e'⟩=>⟨ds.length-(i+1),by omega,ow',m',R',g',rfl,hlt,e'⟩,λx H3 y=>?_⟩;obtain⟨s3,d,hd,dv⟩:=i2 i x H3 hlt y;have ed:ds.drop i=d::ds.drop (i+1):=by
    rw[i9 hlt];rw[cn hlt] at hd;cases hd;rfl
   rw[ed] at e2;unfold cV at e2;cases eh:h d m2 with
   |none=>rw[eh] at e2;subst e2;exact q1.elim
   |some m3=>
    rw[eh] at e2;refine⟨O0,M0,H0,ow2,m2,d,m3,(R2.mono s3).toRel,dv,eh,λow' σ' R' g' nb _=>?_⟩;have G3:=(g2.trans<|Go.refl s3).trans g';refine⟨O0,M0,H0,ow',m3,⟨R',nb R2.nb⟩,?_⟩;cases eg:g m3 with
    |exc c=>simp only[eg] at e2;subst e2;exact q1
    |stuck=>simp only[eg] at e2;subst e2;exact q1
    |ok a=>
     obtain⟨f4,m4⟩:=a;simp only[eg] at e2;cases f4 with
     |nx=>exact λow4 σ4 H4 R4 g4=>⟨ow4,m4,R4,G3.trans g4,e2⟩
     |ct=>exact λow4 σ4 H4 R4 g4=>⟨ow4,m4,R4,G3.trans g4,e2⟩
     |bk=>subst e2;exact λow4 σ4 H4 R4 g4=>q1 ow4 σ4 H4 R4<|G3.trans g4
     |rt fr v=>subst e2;exact λv ow4 σ4 H4 R4 g4=>q1 v ow4 σ4 H4 R4<|G3.trans g4
  ·have e:i=ds.length:=by omega
   subst e;rw[oP] at e2;unfold cV at e2;subst e2;exact .inl ⟨i3,q1 ow2 σ2 H2 R2 g2⟩⟩
theorem oX {X:Cx}{E:XK}{tg iter:Expr}{body:List Stmt}{fi:Zad}{k:Nat}{h:Zba}{g:Zab}{pos:Pos}(hp:x6 (b0 X.prog X.w) X.A X.env X.xe)(hc:X.calm=true)(hi:FI X E tg iter fi)(hg:FG X k tg h)(hb:FSs X E body g)
  (hs:∀x,eR iter X.env x=pure x:=by intro _;rfl):FS X E (.For tg iter body [] pos) (mZ fi h g):=Va (Cm:=Calm) hp hc hi hg hb hs
noncomputable def Sl.bor:Sl->Sl
 | .ow d=>.bw d
 | .io d=>.bw d
 | .hd _ _ _=>.un
 |s=>s
def cMe (k:Nat)(cap:List Nat)(m:Me):Me:=aT k .un++cap.map λj=>(m.getD j .un).bor
noncomputable def ig (h:Zba)(ft:Zaf)(fe:Zae)(m0:Me):List D->Res (List D)
 |[]=>.ok []
 |d::ds=>match h d m0 with
  |none=>.stuck
  |some m1=>match ft m1 with
   | .ok true=>match fe m1 with
    | .ok y=>match ig h ft fe m0 ds with
     | .ok ys=>.ok (y::ys)
     |_=>.stuck
    |_=>.stuck
   | .ok false=>ig h ft fe m0 ds
   |_=>.stuck
def gW (k:Nat)(cap:List Nat)(fi:Zad)(h:Zba)(ft:Zaf)(fe:Zae):Zae:=λm=>(fi m).bind λds=>
 if ds.length<=ai then match ig h ft fe (cMe k cap m) ds with
  | .ok ys=>.ok<|.lst ys
  |_=>.stuck
 else .stuck
abbrev Ma (X:Cx)(E:XK)(ifs:List Expr)(f:Zaf):Prop:=El X ifs<|tT (gx X) E f
def fY:Zaf:=λ_=>.ok true
theorem gC:Ma X E [] fY:=λπ s σ H Q I hE=>xq5 hE λO0 M0 H0 ow m R q=>Vv π s σ H Q I<|q H<|aH.refl _
theorem Fd (h:FT X E c f):Ma X E [c] f:=Um h
section
theorem xW (R:Rel G O0 M0 H0 ow σ H m)(g:aH H H2)(hl:H l=none)(hz:H2 l=some (.lst zs)):
  Rel G (Op (Ow O0 ow) l) (λ_=>False) (λ_=>none) (λ_=>none) (cSt k cap σ) H2 (cMe k cap m):=by
 have sub:∀b,Ow (Op (Ow O0 ow) l) (λ_=>none) b->Ow O0 ow b\/H b=none:=λb z=>by
  rw[oF] at z;exact z.elim .inl λe=>.inr (by rw[e];exact hl)
 have sup:∀b,Ow O0 ow b->Ow (Op (Ow O0 ow) l) (λ_=>none) b:=λb z=>.inl<|.inl z;refine⟨by simp[cSt,cMe],λb o e _=>(by cases e),λb z=>z.elim,λb z=>?_,λi a e=>(by cases e),λi j a e=>(by cases e),λ_ _=>rfl,λi s e=>?_⟩
 ·rw[oF] at z;rcases z with z|z
  ·exact qR g<|R.mutk b z
  ·rw[z,hz];exact .inl ⟨zs,rfl⟩
 ·unfold cMe at e;by_cases hi:i<k
  ·rw[b6 (by simpa using hi),eS,if_pos hi] at e;cases e;rfl
  ·rw[cE (by simp;lia),kH,dP] at e;have eσ:(cSt k cap σ)[i]? = (cap[i-k]?).map λj=>(σ[j]?).join:=by
    unfold cSt;rw[cE (by simp;lia),kH,dP]
   cases ec:cap[i-k]? with
   |none=>rw[ec] at e;cases e
   |some j=>
    rw[ec] at e eσ;rw[eσ];cases ej:m[j]? with
    |none=>
     have:m.getD j .un=.un:=by simp[List.getD,ej]
     rw[gX,this] at e;cases e;rfl
    |some s0=>
     have:m.getD j .un=s0:=by simp[List.getD,ej]
     rw[gX,this] at e;cases e;have z:=R.slot j s0 ej;cases s0 with
     |un=>rfl
     |fz d=>
      obtain⟨_,x,e1,hv⟩:=z;exact⟨rfl,x,by rw[gX,e1];rfl,(hv.cL sub).mono g⟩
     |ow d=>
      refine xJ z λa h1 h2 h3 h4=>?_;exact⟨rfl,.ref a,by rw[gX,h3];rfl,.inr ⟨a,rfl,sup a<|.inr ⟨j,h1⟩,(h4.cL sub).mono g⟩⟩
     |io d=>
      refine xJ z λa h1 h2 h3 h4=>?_;exact⟨rfl,.ref a,by rw[gX,h3];rfl,.inr ⟨a,rfl,sup a<|.inr ⟨j,h1⟩,(h4.cL sub).mono g⟩⟩
     |bw d=>
      obtain⟨_,x,e1,hv⟩:=z;refine⟨rfl,x,by rw[gX,e1];rfl,?_⟩;rcases hv with hv|⟨a,e2,o,hv⟩
      ·exact .inl<|(hv.cL sub).mono g
      ·exact .inr ⟨a,e2,sup a o,(hv.cL sub).mono g⟩
     |hd w a d=>rfl
theorem Jr (hq:tN (gx X) E (gW k cap fi h ft fe) σ H Q):wU k cap (tIw (gx X) E fi) (tG (gx X) k h) (tT (gx X) E0 ft) (tE (gx X) E0 fe) σ H Q:=by
 refine Ah hq λO0 M0 H0 ow m R q=>?_;refine⟨O0,M0,H0,ow,m,R,q.bind.imp (aH.refl _) λds q J H1 g1 it l hl=>?_⟩;obtain⟨hz,q⟩:=pO q;cases hc:ig h ft fe (cMe k cap m) ds with
 |exc c=>rw[hc] at q;exact q.elim
 |stuck=>rw[hc] at q;exact q.elim
 |ok ys=>
  rw[hc] at q;have hlH:H l=none:=g1.free hl;have mk1:∀b,Op (Ow O0 ow) l b->Ow O0 ow b\/H1 b=none:=λb z=>z.elim .inl λe=>.inr (by rw[e];exact hl);refine⟨λi n zs H'=>n=ds.length-i/\i<=ds.length/\zs.length<=i/\aH H1 H'/\H' l=some (.lst zs)/\∃es rest,DVs (gx X) (Op (Ow O0 ow) l) H' zs es/\ig h ft fe (cMe k cap m) (ds.drop i)=.ok rest/\es++rest=ys,
   ⟨ds.length,by simp,eC _,aE _,bB hl _,bu,[],ys,.nil,hc,rfl⟩,?_⟩
  rintro i n zs H' ⟨rfl,hi,hzi,g2,hH,es,rest,hes,hcr,hys⟩;obtain⟨i1,i2,i3⟩:=it (Op (Ow O0 ow) l) H' ⟨mk1,g2⟩;by_cases hlt:i<ds.length
  ·refine .inr ⟨i1 i hlt,λx H2 y=>?_⟩;obtain⟨g3,d,hd,dv⟩:=i2 i x H2 hlt y;have ed:ds.drop i=d::ds.drop (i+1):=by
    rw[i9 hlt];rw[cn hlt] at hd;cases hd;rfl
   rw[ed] at hcr;unfold ig at hcr;cases eh:h d (cMe k cap m) with
   |none=>rw[eh] at hcr;cases hcr
   |some m1=>
    rw[eh] at hcr;have G2:aH H H2:=(g1.trans g2).trans g3;have R2:=xW (k:=k) (cap:=cap) (l:=l) (zs:=zs) R G2 hlH<|g3 _ _ hH;refine⟨_,_,_,_,_,d,m1,R2,by rw[oF];exact dv,eh,λow' σ' R' g' nb hdr=>⟨hdr,_,_,_,ow',m1,R',?_⟩⟩;simp only[] at hcr;cases et:ft m1 with
    |exc c=>rw[et] at hcr;cases hcr
    |stuck=>rw[et] at hcr;cases hcr
    |ok t=>
     rw[et] at hcr;intro H3 g4;cases t with
     |false=>
      rw[if_neg aw];exact⟨ds.length-(i+1),by lia,rfl,hlt,by lia,(g2.trans g3).trans g4,g4 _ _<|g3 _ _ hH,es,rest,hes.mono<|g3.trans g4,hcr,hys⟩
     |true=>
      rw[if_pos rfl];refine⟨_,_,_,ow',m1,R'.mono g4,?_⟩;simp only[] at hcr;cases ee:fe m1 with
      |exc c=>rw[ee] at hcr;cases hcr
      |stuck=>rw[ee] at hcr;cases hcr
      |ok y'=>
       rw[ee] at hcr;intro v H5 g5 hv;simp only[] at hcr;cases er:ig h ft fe (cMe k cap m) (ds.drop<|i+1) with
       |exc c=>rw[er] at hcr;cases hcr
       |stuck=>rw[er] at hcr;cases hcr
       |ok rest'=>
        rw[er] at hcr;cases hcr;have G5:aH H' H5:=(g3.trans g4).trans g5;have mk5:∀b,Op (Ow O0 ow) l b->gM (H5 b):=λb z=>by
         rcases z with z|z
         ·exact qR (((g1.trans g2).trans G5))<|R.mutk b z
         ·rw[z,G5 _ _ hH];exact .inl ⟨zs,rfl⟩
        have kp5:Kp (Op (Ow O0 ow) l) H5 (upd H5 l<|.lst<|zs++[v]):=λb o e n=>by
         rw[bT<|show b≠l from λz=>n<|.inr z];exact e
        refine⟨G5 _ _ hH,by lia,ds.length-(i+1),by lia,rfl,hlt,by rw[a9,eJ];lia,?_,bu,es++[y'],rest',?_,er,by rw[gE];exact hys⟩
        ·exact Bx ((PX<|g2.trans G5).trans Hc) hl
        ·exact jg ((hes.mono G5).kp mk5 kp5)<|.cons ((hv.cL λb z=>.inl<|.inl z).kp mk5 kp5) .nil
  ·have e:i=ds.length:=by lia
   subst e;rw[oP] at hcr;cases hcr;rw[cw] at hys;subst hys;exact .inl ⟨i3,q l H' (g1.trans g2) hlH ⟨zs,hH,hes⟩⟩
section
theorem lY (sc:l0)(N' caps:List Str)(k:Nat)(cap:List Nat)(hcalm:X.calm=true)(S:CSc sc scope caps)(hcap:eP (λj x=>X.N[j]? = some x) cap caps)
  (hi:FIw X E tg iter fi) (hg:∀cl C sE HE fp π,FG (cX X N' scope cl C sE HE fp π) k tg h) (ht:∀cl C sE HE fp π,Ma (cX X N' scope cl C sE HE fp π) E0 ifs ft) (he:∀cl C sE HE fp π,FE (cX X N' scope cl C sE HE fp π) E0 elt fe)
  (hsc:X.env.scope=sc:=by rfl) (hN:N'.drop k=caps:=by rfl) (hk:k<=N'.length:=by decide) (hs:∀x,eR iter X.env x=pure x:=by intro _;rfl):
  FN X E (.ListComp elt [⟨tg,iter,ifs,0⟩] scope pos) (gW k cap fi h ft fe):=bA (UJ sc N' caps k cap hcalm S hcap hi hg ht he hsc hN hk hs) λ_ _ _ q=>Jr q
theorem yu (sc:l0)(N' caps:List Str)(k:Nat)(cap:List Nat)(hnd:X.N.Nodup)(hi':X.N[i]? = some y)(hy:Loc X.env.scope y)(hcalm:X.calm=true)(S:CSc sc scope caps)(hcap:eP (λj x=>X.N[j]? = some x) cap caps)
  (hi:FIw X E tg iter fi) (hg:∀cl C sE HE fp π,FG (cX X N' scope cl C sE HE fp π) k tg h) (ht:∀cl C sE HE fp π,Ma (cX X N' scope cl C sE HE fp π) E0 ifs ft) (he:∀cl C sE HE fp π,FE (cX X N' scope cl C sE HE fp π) E0 elt fe)
  (θ:gs (.ListComp elt [⟨tg,iter,ifs,0⟩] scope pos) (some<|.Name y py) spos.line X.env=pure true:=by rfl)
  (hsc:X.env.scope=sc:=by rfl) (hN:N'.drop k=caps:=by rfl) (hk:k<=N'.length:=by decide) (hs:∀x,eR iter X.env x=pure x:=by intro _;rfl)
  (hf:X.fn y=true\/X.env.scope.names.lookup y=some .local:=by first|exact .inl rfl|exact .inr rfl|assumption):
  FS X E (.Assign [.Name y py] (.ListComp elt [⟨tg,iter,ifs,0⟩] scope pos) spos) (aX i<|gW k cap fi h ft fe):=
 dJ (Hk sc N' caps k cap hnd hi' hy hcalm S hcap hi hg ht he θ hsc hN hk hs hf) λW σ H q=>by
  refine Jr (h:=h) (ft:=ft) (fe:=fe) (Q:=λx H1=>zJ i x σ H1 W.nx) ?_;refine Ah (Hw q) λO0 M0 H0 ow m R q=>?_;exact⟨O0,M0,H0,ow,m,R,q.imp (aH.refl _) λ_ k p H' g n o=>k _ H' g<|(o.cL λb z=>.inl<|.inl z).dv<|R.Oq n⟩
end
end
def spF (G:Gx)(Φ:Zac):Sp:=λvs H Q E=>∃O ds,(∀b,O b->gM (H b))/\DVs G O H vs ds/\Pu G E (Φ ds) H λr=>∀v H',aH H H'->DV G O H' v r.2->(r.1=true->Fr G O H v H' r.2)->Q v H'
noncomputable def aW (N n:Nat)(g:Zab):Zac:=λds=>if ds.length=n then match g (ds.map Sl.fz++aT (N-n) Sl.un) with
  | .ok (.rt fr d,_)=>.ok (fr,d)
  | .ok (.nx,_)=>.ok (false,.non)
  | .exc c=>.exc c
  |_=>.stuck
 else .stuck
abbrev FF (P:bq)(w:dc)(K:a6)(mg:Zp)(base:Heap)(k:Nat)(x:Str)(ps:List Str)(Φ:Zac):Prop:=Hd.Fn P w K mg base k x ps<|spF ⟨K,mg⟩ Φ
theorem z8 (hm:∀b,O b->gM (H b))(hd:DVs G O H vs ds)(hn:ds.length=n):
  fX G O (λ_=>False) H (λ_=>none) (L2.start N vs) H (ds.map Sl.fz++aT (N.length-n) Sl.un):=by
 have hl:=cB hd;refine⟨⟨by simp[L2.start,hl,hn],λb o e _=>e,λb z=>z.elim,λb z=>by rw[oF] at z;exact hm b z,λi a e=>(by cases e),λi j a e=>(by cases e),λ_ _=>rfl,λi s e=>?_⟩,λj d e=>?_⟩
 ·by_cases hi:i<ds.length
  ·rw[b6 (by simpa using hi),dP] at e;cases ed:ds[i]? with
   |none=>rw[ed] at e;cases e
   |some d=>
    rw[ed] at e;cases e;obtain⟨x,hx,dx⟩:=CJ hd ed;refine⟨rfl,x,?_,by rw[oF];exact dx⟩;unfold L2.start;rw[b6 (by simpa[hl] using hi),dP,hx];rfl
  ·rw[cE (by simp;lia),eS] at e;split at e
   ·cases e;rfl
   ·cases e
 ·by_cases hi:j<ds.length
  ·rw[b6 (by simpa using hi),dP] at e;cases ed:ds[j]? with
   |none=>rw[ed] at e;cases e
   |some d=>rw[ed] at e;cases e
  ·rw[cE (by simp;lia),eS] at e;split at e<;>cases e
section
variable {P:bq}{w:dc}{K:a6}{mg:Zp}{base:Heap}
theorem bL {x qual:Str}{st:Stmt}{f:Addr}{fd:gc}{N ps:List Str}{k:Nat}{g:Zab}(Fu:Fun K x qual st f fd)(S:bx N ps (aK st))
  (hbody:∀(cdv:ay) (A:cK) (outer:List Env) (s:aI) (H:Hp) (E:XK),fB k (A.deeper<|rj qual (aK st) s.heap.objs.size f cdv)->
   FSs (j7 (CX1 P w) P w K mg base N qual (aK st) f cdv A outer s H E) E (jf st) g):dF P w K mg base (CX1 P w) (k+1) f fd ps (spF ⟨K,mg⟩<|aW N.length ps.length g):=by
 refine U9 Fu S (λvs H Q E h=>?_) λcdv A outer s H vs Q E hr h=>?_
 ·refine Ge h λO ds _ hd q=>?_;rw[cB hd];unfold aW at q;exact(pO q).1
 ·refine Ge h λO ds hm hd q=>?_;unfold aW at q;obtain⟨hn,q⟩:=pO q;refine⟨_,hbody cdv A outer s H E hr,O,λ_=>False,H,λ_=>none,_,z8 hm hd hn,?_⟩;have sm:∀{ow' σ' H' m'},fX (⟨K,mg⟩:Gx) O (λ_=>False) H ow' σ' H' m'->aH H H':=λR b o e=>R.keep b o e id;cases z:g (ds.map Sl.fz++aT (N.length-ps.length) Sl.un) with
  |exc c=>rw[z] at q;exact λC H' e kp=>q C H' e λb o e=>kp b o e id
  |stuck=>rw[z] at q;exact q.elim
  |ok a=>
   obtain⟨fl,m'⟩:=a;rw[z] at q;cases fl with
   |bk=>exact q.elim
   |ct=>exact q.elim
   |nx=>exact λow' σ' H' R' _=>q _ H' (sm R') .non λz=>by cases z
   |rt fr d=>
    intro v ow' σ' H' R' _ hv hf;refine q v H' (sm R') (hv.cL λb z=>.inl<|.inl z) λz=>?_;rcases hf z with⟨p,e1,e2,e3⟩|t
    ·exact .inl ⟨p,e1,e2,e3.cL λb z=>.inl<|z.elim (λy=>.inl<|.inl y) .inr⟩
    ·exact .inr t
end
noncomputable def fFn (Φ:Zac)(fs:Zad):Zae:=λm=>(fs m).bind λds=>(Φ ds).bind λr=>.ok r.2
def T7 (Φ:Zac)(fs:Zad):Zae:=λm=>(fs m).bind λds=>(Φ ds).bind λr=>if flat r.2=true then .ok r.2 else .stuck
section
theorem cA (Fh:FF X.prog X.w X.K X.mg X.base k x ps Φ)(hr:fB j X.A)(hx:Passes (CX1 X.prog X.w) X E)(ha:FAE X E (e::es) fs)(hk:k<=j:=by decide)(hg:Gl X x:=by rfl)
  (hdb:(x==("__debug__":Str))=false:=by decide) (he:av (e::es) X.env=(false,eval e X.env)::av es X.env:=by rfl) (ζ:(iq pos<|av es X.env).any (·.1)=false:=by rfl):
  FE X E (.Call (.Name x p) (e::es) [] pos) (fFn Φ fs):=by
 refine rO Fh.ex λf fd G b kp m=>?_;refine bA (IK G (hr.mono hk) hg m kp b .nil hx ha hdb he ζ) λσ H Q hE=>xq5 hE λO0 M0 H0 ow m R q=>⟨O0,M0,H0,ow,m,R,q.bind.imp (aH.refl _) λds q vs H1 g1 hv=>?_⟩;show spF _ _ (vs++[]) _ _ _;rw[cw];exact⟨_,ds,(R.mono g1).mutk,hv,q.bind.imp g1 λr q v H' g2 hv' _=>q v H' (g1.trans g2) hv'⟩
theorem Xw (Fh:FF X.prog X.w X.K X.mg X.base k x ps Φ)(hr:fB j X.A)(hx:Passes (CX1 X.prog X.w) X E)(ha:FAB X E (e::es) fs)(hk:k<=j:=by decide)(hg:Gl X x:=by rfl)
  (hdb:(x==("__debug__":Str))=false:=by decide) (he:av (e::es) X.env=(false,eval e X.env)::av es X.env:=by rfl) (ζ:(iq pos<|av es X.env).any (·.1)=false:=by rfl):
  FE X E (.Call (.Name x p) (e::es) [] pos) (T7 Φ fs):=by
 refine rO Fh.ex λf fd G b kp m=>?_;refine bA (IK G (hr.mono hk) hg m kp b .nil hx ha hdb he ζ) λσ H Q hE=>xq5 hE λO0 M0 H0 ow m R q=>⟨O0,M0,H0,ow,m,R,q.bind.imp (aH.refl _) λds q vs H1 g1 hv=>?_⟩;show spF _ _ (vs++[]) _ _ _;rw[cw];refine⟨_,ds,λ_ z=>z.elim,hv.any,q.bind.imp g1 λr q v H' g2 hv' _=>?_⟩;obtain⟨hf,q⟩:=Fz q;exact q v H' (g1.trans g2)<|hv'.flat hf
end
def Bg (i:Int):Prop:=i.natAbs<lmM
instance (i:Int):Decidable (Bg i):=inferInstanceAs<|Decidable<|_<_
def Bq (i:Int):Prop:=i.natAbs<lmD
instance (i:Int):Decidable (Bq i):=inferInstanceAs<|Decidable<|_<_
theorem aax {i:Int}(h:i.natAbs<2^60000):Bg i:=by unfold Bg;rw[RC];exact h
theorem Iu {i:Int}(h:i.natAbs<2^8900):Bq i:=by unfold Bq;rw[Gs];exact h
@[simp] theorem YK {i:Int}(h:Bq i):Bg i:=by
 unfold Bq at h;rw[Gs] at h;exact aax<|bg h<|pe (by decide)<|by decide
noncomputable def dvI (i j:Int):Int:=if 0<j then i/j else i.fdiv j
noncomputable def mdI (i j:Int):Int:=if 0<j then i%j else i.fmod j
noncomputable def aJ:D->D->Option D
 | .int i,.int j=>some<|.int<|i+j
 | .str a,.str b=>if a.length+b.length<=ai then some (.str<|a++b) else none
 | .lst a,.lst b=>if a.length+b.length<=ai then some (.lst<|a++b) else none
 | .tup a,.tup b=>if a.length+b.length<=ai then some (.tup<|a++b) else none
 |_,_=>none
noncomputable def yw:D->D->Option D
 | .int i,.int j=>some<|.int<|i-j
 |_,_=>none
noncomputable def jX:D->D->Option D
 | .int i,.int j=>if Bg i/\Bg j\/j.natAbs<2^62 then some (.int<|i*j) else none
 |_,_=>none
def qT:D->D->Option D
 | .int i,.int j=>if j≠0/\Bq j then some (.int<|dvI i j) else none
 |_,_=>none
def ir:D->D->Option D
 | .int i,.int j=>if j≠0 then some (.int<|mdI i j) else none
 |_,_=>none
noncomputable def wJ:D->Option D
 | .int i=>some<|.int (-i)
 |_=>none
section
variable {X:Cx}
theorem oif {c:Prop}[Decidable c]{α:Type}{a r:α}(h:(if c then some a else none)=some r):c/\a=r:=by
 by_cases z:c
 ·rw[if_pos z] at h;exact⟨z,bX h⟩
 ·rw[if_neg z] at h;cases h
theorem Jl {π:Zl}{σ:L2.St}{H:Hp}{s:aI}{Q:VK}{O:Zaa}{i:Str}{t:Tok}{tk:Nat}(I:Inv X π σ H s)(q:∀v H',aH H H'->DV (gx X) O H' v (.str i)->Q v H'):EP X π σ Q (.str i t) { s with toks:=tk }:=
 ⟨.str i,H,I.tok _,⟨t,rfl⟩,q _ _ (aH.refl _)<|.str i⟩
theorem Uw {π:Zl}{σ:L2.St}{H:Hp}{s:aI}{Q:VK}{O:Zaa}{xs:List V}{ds:List D}{its:List ay}{h':Heap}{tk:Nat}(I:Inv X π σ H s)(m:∀b,O b->gM (H b))(hd:DVs (gx X) O H xs ds)(r:Vals xs its)(hz:xs.length<=ai)
  (kp:∀b o,s.heap.get? b=some o->h'.get? b=some o) (e:∃n,h'.get? s.heap.objs.size=some { cls:=.type "list",data:=.seq its.toArray n }) (q:∀p H',aH H H'->H p=none->OV (gx X) (Op O p) H' p (.lst ds)->Q (.ref p) H'):EP X π σ Q (.ref s.heap.objs.size) { s with heap:=h',toks:=tk }:=by
 have hf:H s.heap.objs.size=none:=I.hok.fresh<|aE _;obtain⟨n,e⟩:=e;refine⟨.ref s.heap.objs.size,upd H s.heap.objs.size<|.lst xs,I.laid kp (aE _) ⟨hz,its,n,r,e⟩,rfl,q _ _ (bB hf _) hf ⟨xs,bu,?_⟩⟩;exact(hd.cL λb z=>z.elim .inl λe=>.inr (by rw[e];exact hf)).mono (bB hf _)
theorem Hx {G:Gx}{O:Zaa}{H:Hp}{r:D}{Q:VK}(m:∀b,O b->gM (H b))(q:∀v H',aH H H'->DV G O H' v r->Q v H'):∀p H',aH H H'->H p=none->OV G (Op O p) H' p r->Q (.ref p) H':=λp H' g n o=>
 q _ H' g ((o.cL λb z=>.inl<|.inl z).dv λz=>by
  have:=m p z
  rw[n] at this;rcases this with⟨_,e⟩|⟨_,e⟩|⟨_,e⟩|⟨_,e⟩<;>cases e)
def Y9 (G:Gx):R2:=λx y H Q=>∃O ds es,(∀b,O b->gM (H b))/\DW G O H x (.lst ds)/\DW G O H y (.lst es)/\ds.length+es.length<=ai/\∀p H',aH H H'->H p=none->OV G (Op O p) H' p (.lst<|ds++es)->Q (.ref p) H'
theorem KY:OpR X (h7 .Add) (Y9<|gx X):=by
 intro π s σ H x y v u Q I rx ry h;obtain⟨O,ds,es,m,hx,hy,hz,q⟩:=h;obtain⟨a,xs,rfl,ha,hd⟩:=iI hx;obtain⟨b,ys,rfl,hb,he⟩:=iI hy;cases rx;cases ry;obtain⟨its,r1,p1,_⟩:=I.list ha;obtain⟨its2,r2,p2,_⟩:=I.list hb;have l1:=cB hd;have l2:=cB he;have k1:=r1.length;have k2:=r2.length;obtain⟨⟨cls,dd,data,sl⟩,ho,hc,n,hdt⟩:=id p1.isList;obtain⟨⟨cls2,dd2,data2,sl2⟩,ho2,hc2,n2,hd2⟩:=id p2.isList;simp only at hc hdt hc2 hd2;subst hc hdt hc2 hd2;refine ub ⟨_,ho,rfl⟩ ⟨_,ho2,rfl⟩ noFill_list_add seq_list_add PySem.F.slot_list_add PySem.F.entry_list_add (PySem.F.args_list_add_2 _ _) (list_addW a b its.toArray its2.toArray n n2 dd dd2 sl sl2 (by simp;omega)) ⟨ho,ho2,?_⟩;rw[show its.toArray++its2.toArray=(its++its2).toArray by simp];exact Uw (tk:=s.toks) I m (jg hd he) (r1.append r2) (by rw[a9];omega) (λb o e=>ag _ e) ⟨0,aS _ rfl⟩ q
theorem O2:OpR X (h7 .Add) (λx y H Q=>∃O ds es,DW (gx X) O H x (.tup ds)/\DW (gx X) O H y (.tup es)/\ds.length+es.length<=ai/\∀v H',aH H H'->DV (gx X) O H' v (.tup<|ds++es)->Q v H'):=by
 intro π s σ H x y v u Q I rx ry h;obtain⟨O,ds,es,hx,hy,hz,q⟩:=h;obtain⟨a,xs,rfl,ha,hd⟩:=wz hx;obtain⟨b,ys,rfl,hb,he⟩:=wz hy;have l1:=cB hd;have l2:=cB he;by_cases hx0:xs=[]
 ·subst hx0;cases hd;cases rx;cases ry;obtain⟨its,r1,p1,_⟩:=I.tuple ha.sq;obtain⟨its2,r2,p2,_⟩:=I.tuple hb.sq;cases r1;obtain⟨⟨cls,dd,data,sl⟩,ho,hc,n,hdt⟩:=id p1;obtain⟨⟨cls2,dd2,data2,sl2⟩,ho2,hc2,n2,hd2⟩:=id p2;simp only at hc hdt hc2 hd2;subst hc hdt hc2 hd2;exact ub ⟨_,ho,rfl⟩ ⟨_,ho2,rfl⟩ tq ya nh mx (ma _ _)
   (tuple_addW0 a b ([]:List ay).toArray its2.toArray n n2 dd dd2 sl sl2<|by rfl) ⟨ho,ho2,⟨.ref b,H,I,rfl,q _ _ (aH.refl _)<|.tup hb he⟩⟩
 ·refine Ur π s σ H _ _ v u Q I rx ry ⟨a,b,xs,ys,rfl,rfl,ha.sq,hb.sq,hx0,by omega,λz=>?_,λz p hp=>?_⟩
  ·subst z;cases he;exact q _ _ (aH.refl _) (by rw[cw];exact .tup ha hd)
  ·exact q _ _ (bB hp _)<|.tup (SqU.of bu)<|(jg hd he).mono<|bB hp _
theorem aN:OpR X (h7 .Add) (rG (gx X) aJ):=by
 intro π s σ H x y v u Q I rx ry h;obtain⟨O,d,e,r,m,hx,hy,hr,q⟩:=h
 match d,e,hr with
 | .int i,.int j,hr=>
  cases hr;exact Xu π s σ H x y v u Q I rx ry ⟨i,j,bY hx,bY hy,q _ _ (aH.refl _)<|.int _⟩
 | .str i,.str j,hr=>
  obtain⟨z,rfl⟩:=oif hr;exact G8 π s σ H x y v u Q I rx ry ⟨i,j,dH hx,dH hy,z,q _ _ (aH.refl _)<|.str _⟩
 | .lst ds,.lst es,hr=>
  obtain⟨z,rfl⟩:=oif hr;exact KY π s σ H x y v u Q I rx ry ⟨O,ds,es,m,hx,hy,z,Hx m q⟩
 | .tup ds,.tup es,hr=>
  obtain⟨z,rfl⟩:=oif hr;exact O2 π s σ H x y v u Q I rx ry ⟨O,ds,es,hx,hy,z,q⟩
theorem v7:OpR X (h7 .Sub) (rG (gx X) yw):=by
 intro π s σ H x y v u Q I rx ry h;obtain⟨O,d,e,r,m,hx,hy,hr,q⟩:=h
 match d,e,hr with
 | .int i,.int j,hr=>
  cases hr;exact W7 π s σ H x y v u Q I rx ry ⟨i,j,bY hx,bY hy,q _ _ (aH.refl _)<|.int _⟩
theorem gO:OpR X (h7 .Mult) (rG (gx X) jX):=by
 intro π s σ H x y v u Q I rx ry h;obtain⟨O,d,e,r,m,hx,hy,hr,q⟩:=h
 match d,e,hr with
 | .int i,.int j,hr=>
  obtain⟨z,rfl⟩:=oif hr;rcases z with z|z
  ·exact Tq π s σ H x y v u Q I rx ry ⟨i,j,bY hx,bY hy,z,q _ _ (aH.refl _)<|.int _⟩
  ·exact Tu π s σ H x y v u Q I rx ry ⟨i,j,bY hx,bY hy,z,q _ _ (aH.refl _)<|.int _⟩
theorem nY:OpR X (h7 .FloorDiv) (rG (gx X) qT):=by
 intro π s σ H x y v u Q I rx ry h;obtain⟨O,d,e,r,m,hx,hy,hr,q⟩:=h
 match d,e,hr with
 | .int i,.int j,hr=>
  obtain⟨z,rfl⟩:=oif hr;refine Rv π s σ H x y v u Q I rx ry ⟨i,j,bY hx,bY hy,z,?_⟩;have e:i.fdiv j=dvI i j:=by
   unfold dvI;split
   ·rw[k8 i<|by omega]
   ·rfl
  show Q (.int<|i.fdiv j) H;rw[e];exact q _ _ (aH.refl _)<|.int _
theorem gr:OpR X (h7 .Mod) (rG (gx X) ir):=by
 intro π s σ H x y v u Q I rx ry h;obtain⟨O,d,e,r,m,hx,hy,hr,q⟩:=h
 match d,e,hr with
 | .int i,.int j,hr=>
  obtain⟨z,rfl⟩:=oif hr;refine Uq π s σ H x y v u Q I rx ry ⟨i,j,bY hx,bY hy,z,?_⟩;have e:i.fmod j=mdI i j:=by
   unfold mdI;split
   ·rw[Int.fmod_eq_emod_of_nonneg i<|by omega]
   ·rfl
  show Q (.int<|i.fmod j) H;rw[e];exact q _ _ (aH.refl _)<|.int _
theorem Cg:UnR X (unaryOp .USub) (rG1 (gx X) wJ):=by
 intro π s σ H x v Q I rx h;obtain⟨O,d,r,m,hx,hr,q⟩:=h
 match d,hr with
 | .int i,hr=>
  cases hr;exact Yn π s σ H x v Q I rx ⟨i,bY hx,q _ _ (aH.refl _)<|.int _⟩
mutual
def toPy:D->Option tw
 | .non=>some .none
 | .bl b=>some<|.bool b
 | .int i=>some<|.int i
 | .str x=>some<|.str x
 | .tup xs=>(sV xs).map .tuple
 | .lst xs=>(sV xs).map .list
 | .exc _ _ _=>none
 | .dct _ _=>none
 | .dcu _ _=>none
 | .adr _=>none
 | .ins _ _ _=>none
 | .dcf _ _=>none
def sV:List D->Option (List tw)
 |[]=>some []
 |d::ds=>(toPy d).bind λp=>(sV ds).map λps=>p::ps
end
mutual
theorem Jc {G:Gx}{O:Zaa}{H:Hp}:∀{v:V} {d:D} {p:tw},DV G O H v d->toPy d=some p->Hd.DV G.K H v p
 |_,_,_,.non,e=>by cases e;exact .non
 |_,_,_,.bl b,e=>by cases e;exact .bl b
 |_,_,_,.int i,e=>by cases e;exact .int i
 |_,_,_,.str x,e=>by cases e;exact .str x
 |_,_,_,.exc ..,e=>by cases e
 |_,_,_,.tup h hs,e=>by
  obtain⟨ps,e1,rfl⟩:=omap (by simpa[toPy] using e);exact .tup h.sq<|yq hs e1
 |_,_,_,.lst h hs,e=>by
  obtain⟨ps,e1,rfl⟩:=omap (by simpa[toPy] using e);exact .lst h.sq<|yq hs e1
 |_,_,_,.dct _ _ _ _ _,e=>by cases e
 |_,_,_,.dcu _ _ _ _ _,e=>by cases e
 |_,_,_,.adr _,e=>by cases e
 |_,_,_,.ins _ _ _ _ _ _,e=>by cases e
 |_,_,_,.dcf _ _ _ _,e=>by cases e
theorem yq {G:Gx}{O:Zaa}{H:Hp}:∀{vs:List V} {ds:List D} {ps:List tw},DVs G O H vs ds->sV ds=some ps->Hd.DVs G.K H vs ps
 |_,_,_,.nil,e=>by cases e;exact .nil
 |_,_,_,.cons (d:=d) (ds:=ds) h hs,e=>by
  unfold sV at e;cases e1:toPy d with
  |none=>rw[e1] at e;cases e
  |some p=>
   rw[e1] at e;obtain⟨ps,e2,rfl⟩:=omap e;exact .cons (Jc h e1)<|yq hs e2
end
theorem qM {G:Gx}{O:Zaa}{H:Hp}{v:V}{d:D}{p:tw}(h:DW G O H v d)(e:toPy d=some p):Hd.DV G.K H v p:=Jc h.any e
noncomputable def mH (d e:D):Option Bool:=match toPy d,toPy e with
 |some p,some q=>if ia p=true/\ia q=true then some (kA p q) else none
 |_,_=>none
def gEq:D->D->Option Bool
 | .int i,.int j=>some<|decide<|i=j
 | .str i,.str j=>some<|decide<|i=j
 | .bl i,.bl j=>some<|decide<|i=j
 | .non,.non=>some true
 |d,e=>mH d e
def gNe (d e:D):Option Bool:=(gEq d e).map (!·)
theorem uW {d e:D}{b:Bool}(h:mH d e=some b):∃p q,toPy d=some p/\toPy e=some q/\ia p=true/\ia q=true/\kA p q=b:=by
 unfold mH at h;cases e1:toPy d with
 |none=>rw[e1] at h;cases h
 |some p=>
  cases e2:toPy e with
  |none=>rw[e1,e2] at h;cases h
  |some q=>
   rw[e1,e2] at h;obtain⟨⟨z1,z2⟩,rfl⟩:=oif h;exact⟨p,q,rfl,rfl,z1,z2,rfl⟩
theorem zP {d e:D}{b:Bool}(h:gEq d e=some b):(∃i j,d=.int i/\e=.int j/\b=decide (i=j))\/(∃i j,d=.str i/\e=.str j/\b=decide (i=j))\/(∃i j,d=.bl i/\e=.bl j/\b=decide (i=j))\/(d=.non/\e=.non/\b=true)\/mH d e=some b:=by
 unfold gEq at h;split at h
 ·cases h;exact .inl ⟨_,_,rfl,rfl,rfl⟩
 ·cases h;exact .inr<|.inl ⟨_,_,rfl,rfl,rfl⟩
 ·cases h;exact .inr<|.inr<|.inl ⟨_,_,rfl,rfl,rfl⟩
 ·cases h;exact .inr<|.inr<|.inr<|.inl ⟨rfl,rfl,rfl⟩
 ·exact .inr<|.inr<|.inr<|.inr h
theorem iW (hu:X.A.units+64<mn):OpR X (dk .Eq) (rGB (gx X) gEq):=by
 intro π s σ H x y v u Q I rx ry h;obtain⟨O,d,e,r,m,hx,hy,hr,q⟩:=h;rcases zP hr with⟨i,j,rfl,rfl,rfl⟩|⟨i,j,rfl,rfl,rfl⟩|⟨i,j,rfl,rfl,rfl⟩|⟨rfl,rfl,rfl⟩|h
 ·cases bY hx;cases bY hy;exact Jb π s σ H _ _ v u Q I rx ry ⟨rfl,by simpa using q⟩
 ·cases dH hx;cases dH hy;exact Jb π s σ H _ _ v u Q I rx ry ⟨rfl,by simpa using q⟩
 ·cases Gk hx;cases Gk hy;exact Jb π s σ H _ _ v u Q I rx ry ⟨rfl,by simpa using q⟩
 ·cases uH hx;cases uH hy;exact Jb π s σ H _ _ v u Q I rx ry ⟨rfl,by simpa using q⟩
 ·obtain⟨p,p',e1,e2,z1,z2,rfl⟩:=uW h;exact Wl hu π s σ H x y v u Q I rx ry ⟨p,p',qM hx e1,qM hy e2,z1,z2,q⟩
theorem nF (hu:X.A.units+64<mn):OpR X (dk .NotEq) (rGB (gx X) gNe):=by
 intro π s σ H x y v u Q I rx ry h;obtain⟨O,d,e,r,m,hx,hy,hr,q⟩:=h;obtain⟨c,hc,rfl⟩:=omap hr;rcases zP hc with⟨i,j,rfl,rfl,rfl⟩|⟨i,j,rfl,rfl,rfl⟩|⟨i,j,rfl,rfl,rfl⟩|⟨rfl,rfl,rfl⟩|h
 ·cases bY hx;cases bY hy;exact Ku π s σ H _ _ v u Q I rx ry ⟨rfl,by simpa using q⟩
 ·cases dH hx;cases dH hy;exact Ku π s σ H _ _ v u Q I rx ry ⟨rfl,by simpa using q⟩
 ·cases Gk hx;cases Gk hy;exact Ku π s σ H _ _ v u Q I rx ry ⟨rfl,by simpa using q⟩
 ·cases uH hx;cases uH hy;exact Ku π s σ H _ _ v u Q I rx ry ⟨rfl,by simpa using q⟩
 ·obtain⟨p,p',e1,e2,z1,z2,rfl⟩:=uW h;exact WK hu π s σ H x y v u Q I rx ry ⟨p,p',qM hx e1,qM hy e2,z1,z2,q⟩
noncomputable def Xl:List D->Option (List Int)
 |[]=>some []
 | .int i::ds=>(Xl ds).map (i::·)
 |_::_=>none
theorem Uc {G:Gx}{O:Zaa}{H:Hp}:∀{vs:List V} {ds:List D} {ns:List Int},DVs G O H vs ds->Xl ds=some ns->vs=ns.map V.int
 |_,_,_,.nil,e=>by cases e;rfl
 |_,_,_,.cons (d:=d) h hs,e=>by
  cases d with
  |int i=>
   obtain⟨ns,e1,rfl⟩:=omap (by simpa[Xl] using e);cases h;rw[Uc hs e1];rfl
  |_=>cases e
noncomputable def gLt:D->D->Option Bool
 | .int i,.int j=>some<|decide<|i<j
 |_,_=>none
def gLe:D->D->Option Bool
 | .int i,.int j=>some<|decide<|i<=j
 |_,_=>none
noncomputable def gGt:D->D->Option Bool
 | .int i,.int j=>some<|decide<|j<i
 |_,_=>none
noncomputable def gGe:D->D->Option Bool
 | .int i,.int j=>some<|decide<|j<=i
 |_,_=>none
theorem Bs (hu:X.A.units+64<mn):OpR X (dk .Lt) (rGB (gx X) gLt):=by
 intro π s σ H x y v u Q I rx ry h;obtain⟨O,d,e,r,m,hx,hy,hr,q⟩:=h;unfold gLt at hr;split at hr
 ·rename_i i j;cases hr;exact aar π s σ H x y v u Q I rx ry ⟨i,j,bY hx,bY hy,q⟩
 ·cases hr
theorem Bv:OpR X (dk .LtE) (rGB (gx X) gLe):=by
 intro π s σ H x y v u Q I rx ry h;obtain⟨O,d,e,r,m,hx,hy,hr,q⟩:=h
 match d,e,hr with
 | .int i,.int j,hr=>cases hr;exact Y0 π s σ H x y v u Q I rx ry ⟨i,j,bY hx,bY hy,q⟩
theorem Xd:OpR X (dk .Gt) (rGB (gx X) gGt):=by
 intro π s σ H x y v u Q I rx ry h;obtain⟨O,d,e,r,m,hx,hy,hr,q⟩:=h
 match d,e,hr with
 | .int i,.int j,hr=>cases hr;exact Zt π s σ H x y v u Q I rx ry ⟨i,j,bY hx,bY hy,q⟩
theorem Xe:OpR X (dk .GtE) (rGB (gx X) gGe):=by
 intro π s σ H x y v u Q I rx ry h;obtain⟨O,d,e,r,m,hx,hy,hr,q⟩:=h
 match d,e,hr with
 | .int i,.int j,hr=>cases hr;exact ZG π s σ H x y v u Q I rx ry ⟨i,j,bY hx,bY hy,q⟩
end
section
variable {X:Cx}{E:XK}{e a b:Expr}{es:List Expr}{f fa:Zae}{fs:Zad}{pos p:Pos}
noncomputable def gIx:D->D->Option D
 | .lst ds,.int i=>atI ds i
 | .tup ds,.int i=>atI ds i
 | .str z,.int i=>if z.length<=ai then(atI z.cps.toList i).map λc=>.str ⟨#[c]⟩ else none
 |_,_=>none
theorem Jt {G:Gx}{O:Zaa}{H:Hp}{xs:List V}{ds:List D}{i:Int}{d:D}(h:DVs G O H xs ds)(e:atI ds i=some d):∃x,atI xs i=some x/\DV G O H x d:=by
 unfold atI at e ⊢;rw[cB h];cases q:ixN ds.length i with
 |none=>rw[q] at e;cases e
 |some j=>rw[q] at e;exact CJ h e
theorem b8:IxR X (rG (gx X) gIx):=by
 intro value slice π s σ H x y v u Q I rx ry h hs;obtain⟨O,d,e,r,m,hx,hy,hr,q⟩:=h
 match d,e,hr with
 | .lst ds,.int i,hr=>
  cases bY hy;obtain⟨p,xs,rfl,hp,hd⟩:=iI hx;obtain⟨z,hz,dz⟩:=Jt hd hr;exact Vf value slice π s σ H _ _ v u Q I rx ry ⟨p,xs,i,z,rfl,rfl,hp,hz,q _ _ (aH.refl _) dz⟩ hs
 | .tup ds,.int i,hr=>
  cases bY hy;obtain⟨p,xs,rfl,hp,hd⟩:=rQ hx;obtain⟨z,hz,dz⟩:=Jt hd hr;exact XN value slice π s σ H _ _ v u Q I rx ry ⟨p,xs,i,z,rfl,rfl,hp,hz,q _ _ (aH.refl _) dz⟩ hs
 | .str z,.int i,hr=>
  cases bY hy;cases dH hx;have hr':(if z.length<=ai then(atI z.cps.toList i).map λc=>D.str ⟨#[c]⟩ else none)=some r:=hr;by_cases hz:z.length<=ai
  ·rw[if_pos hz] at hr';obtain⟨c,hc,rfl⟩:=omap hr';exact Xp value slice π s σ H _ _ v u Q I rx ry ⟨z,i,c,rfl,rfl,hz,hc,q _ _ (aH.refl _)<|.str _⟩ hs
  ·rw[if_neg hz] at hr';cases hr'
def tO (G:Gx)(E:XK)(f:Me->Res (Option Int)):TO:=λσ H Q=>∃O0 M0 H0 ow m,Rel G O0 M0 H0 ow σ H m/\Pu G E (f m) H λo=>∀H',aH H H'->Q o H'
abbrev FO (X:Cx)(E:XK)(e:Option Expr)(f:Me->Res (Option Int)):Prop:=PO X e<|tO (gx X) E f
theorem Jx {e:Option Expr}{T T':TO}(h:PO X e T)(k:∀σ H Q,T' σ H Q->T σ H Q):PO X e T':=λπ s σ H Q I q=>h π s σ H Q I<|k σ H Q q
noncomputable def fO0:Me->Res (Option Int):=λ_=>.ok none
noncomputable def fO1 (f:Zae):Me->Res (Option Int):=λm=>(f m).bind λd=>match d with
 | .int i=>.ok<|some i
 |_=>.stuck
theorem wF:FO X E none fO0:=Jx T9 λσ H Q hE=>xq5 hE λO0 M0 H0 ow m R q=>q H<|aH.refl _
theorem qG (h:FB X E e f):FO X E (some e) (fO1 f):=Jx (Sq h) λσ H Q hE=>xq5 hE λO0 M0 H0 ow m R q=>⟨O0,M0,H0,ow,m,R,q.bind.imp (aH.refl _) λd q v H' g hv=>by
 cases d with
 |int i=>cases bY hv;exact⟨i,rfl,q H' g⟩
 |_=>exact q.elim⟩
def cut {α:Type}(xs:List α)(lo hi:Option Int):List α:=(xs.drop<|HT.sIx xs.length 0 lo).take<|HT.sIx xs.length xs.length hi-HT.sIx xs.length 0 lo
def gSl:D->Option Int->Option Int->Option D
 | .lst ds,lo,hi=>some<|.lst<|cut ds lo hi
 | .tup ds,lo,hi=>if HT.sIx ds.length 0 lo=0/\HT.sIx ds.length ds.length hi=ds.length then none else some (.tup<|cut ds lo hi)
 | .str z,lo,hi=>if z.length<=ai then some (.str<|ka z lo hi) else none
 |_,_,_=>none
def rSl (G:Gx):V->Option Int->Option Int->Hp->VK->Prop:=λx lo hi H Q=>∃O d r,(∀b,O b->gM (H b))/\DW G O H x d/\gSl d lo hi=some r/\∀v H',aH H H'->DV G O H' v r->Q v H'
noncomputable def abd:D->Option Int->Option Int->Option D
 | .lst ds,lo,hi=>some<|.lst<|cut ds lo hi
 |_,_,_=>none
def abk (G:Gx):V->Option Int->Option Int->Hp->VK->Prop:=λx lo hi H Q=>∃O d r,(∀b,O b->gM (H b))/\DW G O H x d/\abd d lo hi=some r/\∀p H',aH H H'->H p=none->OV G (Op O p) H' p r->Q (.ref p) H'
theorem Jg {G:Gx}{O:Zaa}{H:Hp}{xs:List V}{ds:List D}{lo hi:Option Int}(h:DVs G O H xs ds):DVs G O H (Gp xs lo hi) (cut ds lo hi):=by
 unfold Gp cut;rw[cB h];exact yJ _<|Et _ h
theorem Zf:SlR X (abk<|gx X):=by
 intro π s σ H x v vl vu lo hi sl Q I rx hs pl pu h;obtain⟨O,d,r,m,hx,hr,q⟩:=h
 match d,hr with
 | .lst ds,hr=>
  cases hr;obtain⟨p,xs,rfl,hp,hd⟩:=iI hx;exact UG π s σ H _ v vl vu lo hi sl Q I rx hs pl pu ⟨p,xs,rfl,hp,λp hp'=>q p _ (bB hp' _) hp' ⟨_,bu,((Jg hd).cL λb z=>z.elim .inl λe=>.inr (by rw[e];exact hp')).mono<|bB hp' _⟩⟩
theorem Ph {u:ay}{o:Option Int}(h:zt u o):∃l:Option (Int×Tok),u=partValue l/\l.map (·.1)=o:=by
 cases h with
 |none=>exact⟨none,rfl,rfl⟩
 |int i t=>exact⟨some (i,t),rfl,rfl⟩
theorem aaQ:SlR X (rSl<|gx X):=by
 intro π s σ H x v vl vu lo hi sl Q I rx hs pl pu h;obtain⟨O,d,r,m,hx,hr,q⟩:=h
 match d,hr with
 | .lst ds,hr=>exact Zf π s σ H x v vl vu lo hi sl Q I rx hs pl pu ⟨O,.lst ds,r,m,hx,hr,Hx m q⟩
 | .tup ds,hr=>
  obtain⟨p,xs,rfl,hp,hd⟩:=rQ hx;have hr':(if HT.sIx ds.length 0 lo=0/\HT.sIx ds.length ds.length hi=ds.length then none else some (D.tup<|cut ds lo hi))=some r:=hr;by_cases z:HT.sIx ds.length 0 lo=0/\HT.sIx ds.length ds.length hi=ds.length
  ·rw[if_pos z] at hr';cases hr'
  ·rw[if_neg z] at hr';cases hr';exact XQ π s σ H _ v vl vu lo hi sl Q I rx hs pl pu ⟨p,xs,rfl,hp,by rw[cB hd];exact z,λp hp'=>q _ _ (bB hp' _)<|.tup (SqU.of bu)<|(Jg hd).mono<|bB hp' _⟩
 | .str z,hr=>
  cases dH hx;obtain⟨t,rfl⟩:=rx;obtain⟨hz,rfl⟩:=oif hr;obtain⟨l,rfl,rfl⟩:=Ph pl;obtain⟨u,rfl,rfl⟩:=Ph pu;refine⟨"str",_,PySem.F.slot_str_getitem.lookup,pw _ _ _,wpAny_getItem_str_slice (l:=l) (u:=u) (st:=none) hs rfl<|post_val_or_str ⟨fT (Txt.slice_le z _ _) hz,λt' k=>Jl (tk:=k) I q⟩⟩
def fSl (f:Zae)(lo hi:Me->Res (Option Int)):Zae:=λm=>(f m).bind λd=>(lo m).bind λl=>(hi m).bind λu=>ofO<|gSl d l u
variable {lo hi:Option Expr}{fl fh:Me->Res (Option Int)}{p2:Pos}
theorem pH (he:FB X E e f)(hl:FO X E lo fl)(hu:FO X E hi fh):FE X E (.Subscript e (.Slice lo hi none p2) pos) (fSl f fl fh):=
 bA (NQ aaQ he hl hu) λσ H Q hE=>xq5 hE λO0 M0 H0 ow m R q=>⟨O0,M0,H0,ow,m,R,q.bind.imp (aH.refl _) λd q v H1 g1 hv=>⟨O0,M0,H0,ow,m,R.mono g1,q.bind.imp g1 λl q H2 g2=>⟨O0,M0,H0,ow,m,R.mono<|g1.trans g2,q.bind.imp (g1.trans g2) λu q H3 g3=>by
  obtain⟨r,hr,k⟩:=q.ofO;exact⟨_,d,r,(R.mono<|(g1.trans g2).trans g3).mutk,hv.mono<|g2.trans g3,hr,λv H' g d=>k v H' (((g1.trans g2).trans g3).trans g) d⟩⟩⟩⟩
def fD:D->D->Option D
 | .lst a,.lst b=>if a.length+b.length<=ai then some (.lst<|a++b) else none
 |_,_=>none
theorem Xf {fb:Zae}(ha:FB X E a fa)(hb:FB X E b fb):FN X E (.BinOp a .Add b pos) (aA fD fa fb):=
 bA (Wb KY ha hb) λσ H Q hE=>xq5 hE λO0 M0 H0 ow m R q=>two R (K:=λz H1=>aH H H1/\∀p H',aH H1 H'->H1 p=none->OV (gx X) (Op (Ow O0 ow) p) H' p z->Q (.ref p) H') (q.imp (aH.refl _) λ_ k=>⟨aH.refl _,k⟩) (λ_ _ k g=>⟨k.1.trans g,λp H' g' n d=>k.2 p H' (g.trans g') (g.free n) d⟩) λx y d e H' g hx hy q' R'=>by
  obtain⟨r,hr,k⟩:=q'.ofO
  match d,e,hr with
  | .lst ds,.lst es,hr=>
   obtain⟨z,rfl⟩:=oif hr;exact⟨_,ds,es,R'.mutk,hx,hy,z,k.2⟩
noncomputable def cZ:List D->Option D
 |[.lst ds]=>some<|.int ds.length
 |[.tup ds]=>some<|.int ds.length
 |[.str z]=>if z.length<=ai then some (.int z.length) else none
 |[.dct ks _]=>some<|.int ks.length
 |_=>none
theorem oH {G:Gx}{O:Zaa}{H:Hp}{vs:List V}{d:D}(h:DWs G O H vs [d]):∃v,vs=[v]/\DW G O H v d:=by
 cases h with
 |cons a t=>cases t;exact⟨_,rfl,a⟩
theorem Lq:fL X (.builtin "len") (λxs H Q=>∃a ι,xs=[V.ref a]/\Rd H a (.dK ι)/\Q (.int ι.length) H):=by
 intro π s σ H xs us Q I r h;obtain⟨a,ι,rfl,e,q⟩:=h;obtain⟨u,rfl,rx⟩:=vals1 r;cases rx;exact YX I e λt s' I'=>⟨.int ι.length,H,I',⟨t,rfl⟩,q⟩
theorem dm:fL X (.builtin "len") (rGC (gx X) cZ):=by
 intro π s σ H xs us Q I r h;obtain⟨O,ds,d,m,hx,hr,q⟩:=h
 match ds,hr with
 |[.lst ds],hr=>
  cases hr;obtain⟨v,rfl,hv⟩:=oH hx;obtain⟨p,xs,rfl,hp,hd⟩:=iI hv;exact tR π s σ H _ us Q I r ⟨p,xs,rfl,.inl hp,by rw[cB hd];exact q _ _ (aH.refl _)<|.int _⟩
 |[.tup ds],hr=>
  cases hr;obtain⟨v,rfl,hv⟩:=oH hx;obtain⟨p,xs,rfl,hp,hd⟩:=rQ hv;exact tR π s σ H _ us Q I r ⟨p,xs,rfl,.inr hp,by rw[cB hd];exact q _ _ (aH.refl _)<|.int _⟩
 |[.str z],hr=>
  obtain⟨hz,rfl⟩:=oif hr;obtain⟨v,rfl,hv⟩:=oH hx;cases dH hv;exact Cw π s σ H _ us Q I r ⟨z,rfl,hz,q _ _ (aH.refl _)<|.int _⟩
 |[.dct ks vs],hr=>
  cases hr;obtain⟨v,rfl,hv⟩:=oH hx;obtain⟨p,ι,ws,rfl,hp,e1,e2,hd⟩:=uD hv;exact Lq π s σ H _ us Q I r ⟨p,ι,rfl,hp,by rw[show ι.length=ks.length by rw[← e1,cp]];exact q _ _ (aH.refl _)<|.int _⟩
noncomputable def R0:List D->Option D
 |[.int i]=>some<|.int<|if i<0 then -i else i
 |_=>none
theorem Ac:fL X (.builtin "abs") (rGC (gx X) R0):=by
 intro π s σ H xs us Q I r h;obtain⟨O,ds,d,m,hx,hr,q⟩:=h
 match ds,hr with
 |[.int i],hr=>
  cases hr;obtain⟨v,rfl,hv⟩:=oH hx;cases bY hv;exact Og π s σ H _ us Q I r ⟨i,rfl,q _ _ (aH.refl _)<|.int _⟩
def vP:List D->Option D
 |[.int i]=>if i.natAbs.log2<1920 then some (.str (toString i:String)) else none
 |_=>none
theorem qC:fL X (.type "str") (rGC (gx X) vP):=by
 intro π s σ H xs us Q I r h;obtain⟨O,ds,d,m,hx,hr,q⟩:=h
 match ds,hr with
 |[.int i],hr=>
  obtain⟨hz,rfl⟩:=oif hr;obtain⟨v,rfl,hv⟩:=oH hx;cases bY hv;exact Ci π s σ H _ us Q I r ⟨i,rfl,hz,q _ _ (aH.refl _)<|.str _⟩
noncomputable def oO:List D->Option D
 |[.lst ds]=>some<|.tup ds
 |[.tup ds]=>some<|.tup ds
 |_=>none
theorem lQ:fL X (.type "tuple") (rGC (gx X) oO):=by
 intro π s σ H xs us Q I r h;obtain⟨O,ds,d,m,hx,hr,q⟩:=h
 match ds,hr with
 |[.lst ds],hr=>
  cases hr;obtain⟨v,rfl,hv⟩:=oH hx;obtain⟨p,xs,rfl,hp,hd⟩:=iI hv;exact rH π s σ H _ us Q I r ⟨p,xs,rfl,.inl ⟨hp,λl hl=>q _ _ (bB hl _)<|.tup (SqU.of bu)<|hd.mono<|bB hl _⟩⟩
 |[.tup ds],hr=>
  cases hr;obtain⟨v,rfl,hv⟩:=oH hx;obtain⟨p,xs,rfl,hp,hd⟩:=wz hv;exact rH π s σ H _ us Q I r ⟨p,xs,rfl,.inr ⟨hp.sq,q _ _ (aH.refl _)<|.tup hp hd⟩⟩
noncomputable def Q9:List D->Option D
 |[.lst ds]=>some<|.lst ds
 |[.tup ds]=>some<|.lst ds
 |_=>none
theorem G4:fL X (.type "list") (Vx (gx X) Q9):=by
 intro π s σ H xs us Q I r h;obtain⟨O,ds,d,m,hx,hr,q⟩:=h;have go:∀{p:Addr} {ys:List V} {ds:List D},(SqL X.K H p ys\/SqT X.K H p ys)->DVs (gx X) O H ys ds->(∀p H',aH H H'->H p=none->OV (gx X) (Op O p) H' p (.lst ds)->Q (.ref p) H')->Vals [V.ref p] us->br (b0 X.prog X.w) X.A (call (.type "list") us) (EP X π σ Q) X.xe s:=
  λhp hd q r=>BZ π s σ H _ us Q I r ⟨_,_,rfl,hp,λl hl=>q _ _ (bB hl _) hl ⟨_,bu,(hd.cL λb z=>z.elim .inl λe=>.inr (by rw[e];exact hl)).mono<|bB hl _⟩⟩
 match ds,hr with
 |[.lst ds],hr=>
  cases hr;obtain⟨v,rfl,hv⟩:=oH hx;obtain⟨p,xs,rfl,hp,hd⟩:=iI hv;exact go (.inl hp) hd q r
 |[.tup ds],hr=>
  cases hr;obtain⟨v,rfl,hv⟩:=oH hx;obtain⟨p,xs,rfl,hp,hd⟩:=rQ hv;exact go (.inr hp) hd q r
noncomputable def iw:D->String
 | .non=>"NoneType"
 | .bl _=>"bool"
 | .int _=>"int"
 | .str _=>"str"
 | .tup _=>"tuple"
 | .lst _=>"list"
 | .dct _ _=>"dict"
 | .dcu _ _=>"dict"
 | .exc _ _ _=>""
 | .dcf _ _=>""
 | .adr _=>""
 | .ins _ _ _=>""
noncomputable def BK (t T:String):Bool:=t==T||(t=="bool" && T=="int")
noncomputable def kinds:List String:=["NoneType", "bool", "int", "str", "tuple", "list", "dict"]
theorem Sy {K:a6}{t:String}:cx K (.type t) (.type t)=some true:=by unfold cx;rw[if_pos<|by simp]
theorem TQ {K:a6}:∀t∈kinds,∀T∈kinds,cx K (.type t) (.type T)=some (BK t T):=by
 intro t ht T hT;simp only[kinds,bP,lT,or_false] at ht hT;rcases ht with rfl|rfl|rfl|rfl|rfl|rfl|rfl<;>rcases hT with rfl|rfl|rfl|rfl|rfl|rfl|rfl<;>first|exact Sy|kernel_rfl
theorem O1 {G:Gx}{O:Zaa}{H:Hp}{v:V}{d:D}(h:DW G O H v d)(n:iw d≠""):iw d∈kinds/\TyK G.K H v (.type<|iw d):=by
 have z:=h.any;cases z with
 |non=>exact⟨by simp[iw,kinds],.of .non⟩
 |bl b=>exact⟨by simp[iw,kinds],.of<|.bl b⟩
 |int b=>exact⟨by simp[iw,kinds],.of<|.int b⟩
 |str b=>exact⟨by simp[iw,kinds],.of<|.str b⟩
 |exc _ _=>exact absurd rfl n
 |dcf _ _ _ _=>exact absurd rfl n
 |adr _=>exact absurd rfl n
 |ins _ _ _ _ _ _=>exact absurd rfl n
 |tup hq _=>exact⟨by simp[iw,kinds],.tup hq.sq⟩
 |lst hq _=>exact⟨by simp[iw,kinds],.lst hq.sq⟩
 |dct _ e _ _ _=>exact⟨by simp[iw,kinds],.of<|.dK e⟩
 |dcu _ e _ _ _=>exact⟨by simp[iw,kinds],.of<|.dT e⟩
def gY (T:String)(f:Zae):Zae:=λm=>(f m).bind λd=>if iw d = "" then .stuck else .ok (.bl<|BK (iw d) T)
theorem pZ {x y:Str}{py:Pos}{T:String}(ha:FB X E a fa)(hg:Gl X "isinstance")(hm:X.mg "isinstance" = none)(hv:ck "isinstance" = some (.builtin "isinstance"))(hgy:Gl X y)(hmy:X.mg y=none)(hvy:ck y=some (.type T))(hT:T∈kinds:=by decide)
  (hny:y≠"__name__":=by decide) (hdy:(y==("__debug__":Str))=false:=by decide)
  (he:av [a,.Name y py] X.env=(false,eval a X.env)::av [.Name y py] X.env:=by rfl) (he2:av [.Name y py] X.env=(false,eval (.Name y py) X.env)::av [] X.env:=by rfl) (ζ:(iq pos<|av [.Name y py] X.env).any (·.1)=false:=by rfl):
  FE X E (.Call (.Name "isinstance" p) [a,.Name y py] [] pos) (gY T fa):=
 bA (t7 Mq hg hm hv (iG ha (iG (J2 (v:=.ty T) hgy hmy hvy rfl hny hdy) oW he2) he) (by decide) (by decide) he ζ) λσ H Q hE=>xq5 hE λO0 M0 H0 ow m R q=>⟨O0,M0,H0,ow,m,R,q.bind.imp (aH.refl _) λd q v H' g hv=>by
  by_cases n:iw d = ""
  ·rw[if_pos n] at q;exact q.elim
  ·rw[if_neg n] at q;obtain⟨k1,k2⟩:=O1 hv n;exact⟨v,.ty T,_,_,_,rfl,rfl,k2,TQ _ k1 T hT,q _ _ g<|.bl _⟩⟩
end
section
theorem fX.chg (R:fX G O0 M0 H0 ow σ H m)(ho:ow i=some a)(g:Kp (· = a) H H')(h:OV G (Ow O0 ow) H' a d')
  (hs:(m[i]? = some (.ow d)/\s'=.ow d')\/(m[i]? = some (.io d)/\s'=.io d')):fX G O0 M0 H0 ow σ H' (m.set i s'):=by
 have oa:Ow O0 ow a:=.inr ⟨i,ho⟩;have kp:Kp (Ow O0 ow) H H':=λb u e n=>g b u e λz=>n<|z▸oa;have hi:i<m.length:=by rcases hs with⟨e,_⟩|⟨e,_⟩<;>exact Aq e
 have ne:∀b o,H b=some o->b≠a->H' b=H b:=λb o e n=>by rw[e];exact g b o e n
 refine⟨⟨by simp[R.len],λb u e n=>?_,λb z=>?_,λb z=>?_,R.no0,R.inj,λj hj=>R.out j (by simpa using hj),λj s e=>?_⟩,xM R.nb λ_ z=>by rcases hs with⟨_,w⟩|⟨_,w⟩<;>(rw[w] at z;cases z)⟩
 ·refine g b u (R.keep b u e n) λz=>?_;subst z;rcases hs with⟨q,_⟩|⟨q,_⟩
  ·obtain⟨a',e1,e2,_⟩:=R.slot i _ q;rw[ho] at e1;cases e1;rw[e2] at e;cases e
  ·obtain⟨a',e1,e2,_⟩:=R.slot i _ q;rw[ho] at e1;cases e1;exact n e2
 ·by_cases q:b=a
  ·rw[q]
   have:=h.mut
   intro w;rw[w] at this;rcases this with⟨_,e⟩|⟨_,e⟩|⟨_,e⟩|⟨_,e⟩<;>cases e
  ·cases w:H b with
   |none=>exact absurd w (R.m0 b z)
   |some o=>rw[g b o w q];simp
 ·by_cases q:b=a
  ·rw[q];exact h.mut
  ·have:=R.mutk b z
   rcases this with⟨_,e⟩|⟨_,e⟩|⟨_,e⟩|⟨_,e⟩
   ·rw[ne b _ e q];exact .inl ⟨_,e⟩
   ·rw[ne b _ e q];exact .inr<|.inl ⟨_,e⟩
   ·rw[ne b _ e q];exact .inr<|.inr<|.inl ⟨_,e⟩
   ·rw[ne b _ e q];exact .inr<|.inr<|.inr ⟨_,e⟩
 ·by_cases q:j=i
  ·subst q;rw[dn hi] at e;cases e;rcases hs with⟨q,rfl⟩|⟨q,rfl⟩
   ·refine xJ (R.slot j _ q) λa' e1 e2 e3 _=>?_;rw[ho] at e1;cases e1;exact⟨a,ho,e2,e3,h⟩
   ·refine xJ (R.slot j _ q) λa' e1 e2 e3 _=>?_;rw[ho] at e1;cases e1;exact⟨a,ho,e2,e3,h⟩
  ·rw[dA<|i7 q] at e;have z:=R.slot j s e;have other:∀{b:Addr} {d:D},ow j=some b->OV G (Ow O0 ow) H b d->OV G (Ow O0 ow) H' b d:=λ{b d} e1 h1=>by
    have nb:b≠a:=λw=>q<|R.inj j i b e1<|w▸ho;rcases h1.mut with⟨_,e⟩|⟨_,e⟩|⟨_,e⟩|⟨_,e⟩<;>exact h1.kp R.mutk kp (ne b _ e nb)
   cases s with
   |un=>exact z
   |fz d=>obtain⟨b,x,e,q⟩:=z;exact⟨b,x,e,q.kp R.mutk kp⟩
   |ow d=>obtain⟨b,x,e,f,q'⟩:=z;exact⟨b,x,e,f,other x q'⟩
   |io d=>obtain⟨b,x,e,f,q'⟩:=z;exact⟨b,x,e,f,other x q'⟩
   |bw d=>exact(R.nb j d e).elim
   |hd w b d=>obtain⟨x,e,f,q'⟩:=z;exact⟨x,e,f,other x q'⟩
theorem Go.chg (ho:ow i=some a)(g:Kp (· = a) H H')(h:OV G (Ow O0 ow) H' a d):Go O0 ow H ow H':=
 ⟨λb u e n=>g b u e λz=>n<|z▸.inr ⟨i,ho⟩,λj b e=>.inl<|.inr ⟨j,e⟩,λb n=>by
  by_cases q:b=a
  ·rw[q]
   have:=h.mut
   intro w;rw[w] at this;rcases this with⟨_,e⟩|⟨_,e⟩|⟨_,e⟩|⟨_,e⟩<;>cases e
  ·cases w:H b with
   |none=>exact absurd w n
   |some o=>rw[g b o w q];simp⟩
theorem vg:Kp (· = a) H (L2.upd H a o):=λb u e n=>by rw[L2.bT n];exact e
noncomputable def xV (m:Me)(i:Nat):Option (Bool×List D):=match m[i]? with
 |some (.ow<|.lst ds)=>some (true,ds)
 |some (.io<|.lst ds)=>some (false,ds)
 |_=>none
noncomputable def putL (m:Me)(i:Nat)(k:Bool)(ds:List D):Me:=m.set i<|if k then .ow (.lst ds) else .io (.lst ds)
theorem Ca (R:Rel G O0 M0 H0 ow σ H m){i:Nat}{k:Bool}{ds:List D}(e:xV m i=some (k,ds)):∃a xs,ow i=some a/\σ[i]? = some (some<|.ref a)/\H a=some (.lst xs)/\DVs G (Ow O0 ow) H xs ds/\((m[i]? = some (.ow<|.lst ds)/\k=true)\/(m[i]? = some (.io<|.lst ds)/\k=false)):=by
 unfold xV at e;split at e
 ·rename_i q;cases e;obtain⟨a,e1,e2,e3,xs,e4,e5⟩:=R.slot i _ q;exact⟨a,xs,e1,e3,e4,e5,.inl ⟨q,rfl⟩⟩
 ·rename_i q;cases e;obtain⟨a,e1,e2,e3,xs,e4,e5⟩:=R.slot i _ q;exact⟨a,xs,e1,e3,e4,e5,.inr ⟨q,rfl⟩⟩
 ·cases e
theorem fX.put (R:fX G O0 M0 H0 ow σ H m)(ho:ow i=some a)(hm:(m[i]? = some (.ow<|.lst ds)/\k=true)\/(m[i]? = some (.io<|.lst ds)/\k=false))(hd:DVs G (Ow O0 ow) H ys es):
  fX G O0 M0 H0 ow σ (L2.upd H a<|.lst ys) (putL m i k es)/\Go O0 ow H ow (L2.upd H a<|.lst ys):=by
 have oa:Ow O0 ow a:=.inr ⟨i,ho⟩;have kp:Kp (Ow O0 ow) H (L2.upd H a<|.lst ys):=λb u e n=>vg b u e λz=>n<|z▸oa;have ov:OV G (Ow O0 ow) (L2.upd H a<|.lst ys) a (.lst es):=⟨ys,L2.bu,hd.kp R.mutk kp⟩;refine⟨R.chg (d:=.lst ds) (d':=.lst es) ho vg ov ?_,Go.chg ho vg ov⟩;rcases hm with⟨e,rfl⟩|⟨e,rfl⟩
 ·exact .inl ⟨e,rfl⟩
 ·exact .inr ⟨e,rfl⟩
end
section
def eF (i:Nat)(f:Zae):Zab:=λm=>(ofO<|xV m i).bind λo=>(f m).bind λd=>if o.2.length<ai then .ok (.nx,putL m i o.1<|o.2++[d]) else .stuck
theorem uO (i:Nat)(he:FE X E e f)(hN:X.N[i]? = some x:=by rfl)(hv:Vis X.env.scope x:=by first|exact a7 rfl|exact j3 (a7 rfl)|exact j3 (j3 rfl))(hd:(x==("__debug__":Str))=false:=by decide)(hcd:(x==("__classdict__":Str))=false:=by decide)
  (ω:iX (.Name x np) "append" X.env (eval (.Name x np) X.env)=eval (.Name x np) X.env:=by rfl)
  (ν:((iq χ<|av [e] X.env).all (λx=>!x.1)&&(yi χ<|p9 [] X.env).all (λx=>x.1.isSome)&&decide ([e].length+([]:List qc).length+(if([]:List qc).isEmpty then 0 else 1)<30))=true:=by rfl)
  (η:(apos.endLine==χ.line)=true:=by rfl) (hs:av [e] X.env=(false,eval e X.env)::av [] X.env:=by rfl) (hplain:(iq χ<|av [] X.env).any (·.1)=false:=by rfl)
  (θ:gs (.Call (.Attribute (.Name x np) "append" apos) [e] [] χ) none pos.line X.env=pure false:=by rfl):
  FS X E (.Expr (.Call (.Attribute (.Name x np) "append" apos) [e] [] χ) pos) (eF i f):=
 dJ (v9 (QC mI PySem.F.slot_list_append PySem.F.type_list_append vm (qx hN hv hd hcd) (iG he oW hs) ω ν η hs hplain) θ) λW σ H hE=>xq5 hE λO0 M0 H0 ow m R q=>by
  obtain⟨o,ho,q⟩:=Ss.ofO q;obtain⟨k,ds⟩:=o;refine Ak (Ca R.toRel ho) λa xs e1 e2 e3 e4 e5=>?_;refine⟨_,e2,.inl ⟨rfl,xs,SqL.of e3⟩,O0,M0,H0,ow,m,R.toRel,(Ss.pu R.toRel q).imp (aH.refl _) λd q v H1 g1 hv=>?_⟩;have R1:=R.mono g1;by_cases hz:ds.length<ai
  ·rw[if_pos hz] at q;obtain⟨R2,g2⟩:=R1.put (es:=ds++[d]) (ys:=xs++[v]) e1 e5<|jg (e4.mono g1)<|.cons hv .nil;exact⟨a,xs,v,rfl,rfl,g1 _ _ e3,by rw[cB e4];exact hz,q _ _ _ R2<|(Go.refl g1).trans g2⟩
  ·rw[if_neg hz] at q;exact q.elim
def Aw (i:Nat)(f:Zae):Zab:=λm=>(ofO<|xV m i).bind λo=>(f m).bind λd=>match d with
 | .lst es=>if o.2.length+es.length<=ai then .ok (.nx,putL m i o.1<|o.2++es) else .stuck
 |_=>.stuck
theorem Mt (i:Nat)(he:FN X E e f)(hN:X.N[i]? = some x:=by rfl)(hv:Vis X.env.scope x:=by first|exact a7 rfl|exact j3 (a7 rfl)|exact j3 (j3 rfl))(hd:(x==("__debug__":Str))=false:=by decide)(hcd:(x==("__classdict__":Str))=false:=by decide)
  (ω:iX (.Name x np) "extend" X.env (eval (.Name x np) X.env)=eval (.Name x np) X.env:=by rfl)
  (ν:((iq χ<|av [e] X.env).all (λx=>!x.1)&&(yi χ<|p9 [] X.env).all (λx=>x.1.isSome)&&decide ([e].length+([]:List qc).length+(if([]:List qc).isEmpty then 0 else 1)<30))=true:=by rfl)
  (η:(apos.endLine==χ.line)=true:=by rfl) (hs:av [e] X.env=(false,eval e X.env)::av [] X.env:=by rfl) (hplain:(iq χ<|av [] X.env).any (·.1)=false:=by rfl)
  (θ:gs (.Call (.Attribute (.Name x np) "extend" apos) [e] [] χ) none pos.line X.env=pure false:=by rfl):
  FS X E (.Expr (.Call (.Attribute (.Name x np) "extend" apos) [e] [] χ) pos) (Aw i f):=
 dJ (v9 (QC mI PySem.F.slot_list_extend PySem.F.type_list_extend Lj (qx hN hv hd hcd) (iG he oW hs) ω ν η hs hplain) θ) λW σ H hE=>xq5 hE λO0 M0 H0 ow m R q=>by
  obtain⟨o,ho,q⟩:=Ss.ofO q;obtain⟨k,ds⟩:=o;refine Ak (Ca R.toRel ho) λa xs e1 e2 e3 e4 e5=>?_;refine⟨_,e2,.inl ⟨rfl,xs,SqL.of e3⟩,O0,M0,H0,ow,m,R.toRel,(Ss.pu R.toRel q).imp (aH.refl _) λd q p H1 g1 n hv=>?_⟩;have R1:=R.mono g1;cases d with
  |lst es=>
   have q:Ss (gx X) E O0 M0 H0 ow H W (if ds.length+es.length<=ai then .ok (.nx,putL m i k<|ds++es) else .stuck):=q;obtain⟨zs,h1,h2⟩:=hv;by_cases hz:ds.length+es.length<=ai
   ·rw[if_pos hz] at q;have h2':DVs (gx X) (Ow O0 ow) H1 zs es:=h2.cL λb z=>.inl<|.inl z;obtain⟨R2,g2⟩:=R1.put (es:=ds++es) (ys:=xs++zs) e1 e5<|jg (e4.mono g1) h2';exact⟨a,p,xs,zs,rfl,rfl,g1 _ _ e3,h1,by rw[cB e4,cB h2];exact hz,q _ _ _ R2<|(Go.refl g1).trans g2⟩
   ·rw[if_neg hz] at q;exact q.elim
  |_=>exact q.elim
def Cz (j i:Nat):Zab:=λm=>(ofO<|xV m i).bind λo=>(ofO<|o.2[o.2.length-1]?).bind λd=>.ok (.nx,(putL m i o.1 o.2.dropLast).set j<|.fz d)
theorem Bo (h:DVs G O H xs ds):DVs G O H xs.dropLast ds.dropLast:=by
 rw[vi,vi,cB h];exact yJ _ h
theorem M7 (j i:Nat)(hnd:X.N.Nodup)(hj:X.N[j]? = some y)(hy:Loc X.env.scope y)(hN:X.N[i]? = some x:=by rfl)(hv:Vis X.env.scope x:=by first|exact a7 rfl|exact j3 (a7 rfl)|exact j3 (j3 rfl))(hd:(x==("__debug__":Str))=false:=by decide)(hcd:(x==("__classdict__":Str))=false:=by decide)
  (ω:iX (.Name x np) "pop" X.env (eval (.Name x np) X.env)=eval (.Name x np) X.env:=by rfl) (η:(apos.endLine==χ.line)=true:=by rfl) {yp:Pos}
  (θ:gs (.Call (.Attribute (.Name x np) "pop" apos) [] [] χ) (some<|.Name y yp) pos.line X.env=pure false:=by rfl) (hf:X.fn y=true\/X.env.scope.names.lookup y=some .local:=by first|exact .inl rfl|exact .inr rfl|assumption):
  FS X E (.Assign [.Name y yp] (.Call (.Attribute (.Name x np) "pop" apos) [] [] χ) pos) (Cz j i):=
 dJ (Ao hnd hj hy (OJ mI PySem.F.slot_list_pop PySem.F.type_list_pop W5 (qx hN hv hd hcd) ω η) θ hf) λW σ H hE=>xq5 hE λO0 M0 H0 ow m R q=>by
  obtain⟨o,ho,q⟩:=Ss.ofO q;obtain⟨k,ds⟩:=o;obtain⟨d,hd',q⟩:=Ss.ofO q;refine Ak (Ca R.toRel ho) λa xs e1 e2 e3 e4 e5=>?_;obtain⟨v,hv,dv⟩:=CJ e4 hd';obtain⟨R2,g2⟩:=R.put (es:=ds.dropLast) (ys:=xs.dropLast) e1 e5<|Bo e4;have dv2:=dv.go R.mutk g2.ev;exact⟨_,e2,.inl ⟨rfl,xs,SqL.of e3⟩,a,xs,v,rfl,rfl,e3,by rw[cB e4];exact hv,q _ _ _ (R2.set dv2)<|g2.trans Go.set⟩
end
section
variable {G:Gx}{E:XK}{O0 M0:Zaa}{H0 H H1:Hp}{ow:Os}{σ:L2.St}{m:Me}
end
section
variable {X:Cx}{E:XK}{e:Expr}{es:List Expr}{f:Zae}{fa:Me->Res (D×Me)}{fs:Me->Res (List D×Me)}{pos:Pos}{i:Nat}{x:Str}
end
section
variable {P:bq}{w:dc}{K:a6}{mg:Zp}{base:Heap}
end
section
end
section
variable {G:Gx}{O0 M0:Zaa}{H0 H H':Hp}{ow:Os}{σ:L2.St}{m:Me}{k:Nat}{cap:List Nat}
end
section
variable {X:Cx}{E:XK}{k:Nat}{cap:List Nat}{fi:Zad}{h:Zba}{fe:Me->Res (D×Me)}
theorem V7 {O0:Zaa}{ow:Os}{l b:Addr}(z:Ow (Op O0 l) ow b):Ow O0 ow b\/b=l:=z.elim (λy=>y.elim (λw=>.inl<|.inl w) .inr) λy=>.inl<|.inr y
end
def tM (G:Gx)(E:XK)(f:Me->Res Unit):TE:=λσ H Q=>∃O0 M0 H0 ow m,Rel G O0 M0 H0 ow σ H m/\Pu G E (f m) H λ_=>∀v H',aH H H'->Q v H'
abbrev FM (X:Cx)(E:XK)(e:Expr)(f:Me->Res Unit):Prop:=PE X e<|tM (gx X) E f
def fM (f:Zae):Me->Res Unit:=λm=>(f m).bind λ_=>.ok ()
def g8 (c:Str)(f:Me->Res Unit):Zab:=λm=>(f m).bind λ_=>.exc (c,[],[])
section
variable {X:Cx}{E:XK}{e:Expr}{f:Zae}{fu:Me->Res Unit}{x:Str}{np χ pos:Pos}{C:Addr}{bmB:List ay}{B newId initId:String}
theorem yj (h:FE X E e f):FM X E e (fM f):=bA h λσ H Q hE=>xq5 hE λO0 M0 H0 ow m R q=>⟨O0,M0,H0,ow,m,R,q.bind.imp (aH.refl _) λd k v H' g _=>k v H' g⟩
theorem Nq (FB:ExcBaseFacts B newId initId bmB)(hq:PySem.W.excIn X.K C bmB newId=true)(hg:Gl X x)(hm:X.mg x=some (.ref C))(hh:X.A.handled=none)(he:FM X E e fu)
  (hx:∀(π:Zl) (σ:L2.St) (H:Hp) (s:aI) (h':Heap) (ea:Addr) (vs:List ay),Inv X π σ H s->rS s.heap h' ea (.ref C) vs->E (.ref C) none H->X.xe (.ref ea) { s with heap:=h' })
  (hd:(x==("__debug__":Str))=false:=by decide) (hs:av [e] X.env=(false,eval e X.env)::av [] X.env:=by rfl):
  FS X E (.Raise (some<|.Call (.Name x np) [e] [] χ) none pos) (g8 x fu):=dJ (Oe (W:=E) FB hq hg hm hh he hx hd hs) λW σ H hE=>xq5 hE λO0 M0 H0 ow m R q=>
 ⟨O0,M0,H0,ow,m,R.toRel,(Ss.pu R.toRel q).imp (aH.refl _) λ_ q v H' g=>⟨rfl,q (C,none) H' ⟨hm,[],[],.inl ⟨rfl,rfl⟩,rfl,rfl,λ_=>.nil⟩ λb o e n=>g b o<|R.keep b o e n⟩⟩
end
def tSx (G:Gx)(g:Zab):Ends->(L2.St->XK)->L2.St->Hp->Prop:=λW Ex σ H=>∃O0 M0 H0 ow m,fX G O0 M0 H0 ow σ H m/\match g m with
 | .exc c=>∀C H',XP G H' c C->aH H H'->Ex σ (.ref C.1) C.2 H'
 |r=>Ss G E0 O0 M0 H0 ow H W r
abbrev FSx (X:Cx)(st:List Stmt)(g:Zab):Prop:=PSx X st<|tSx (gx X) g
def Ik (i:Nat)(sub:Str->Bool)(b h:Zab):Zab:=λm=>match b m with
 | .exc c=>if sub c.1=true then match h (m.set i<|.fz<|.exc c.1 c.2.1 c.2.2) with
   | .ok (fl,m')=>.ok (fl,m'.set i .un)
   |_=>.stuck
  else .stuck
 |r=>r
theorem QF {X:Cx}{st:List Stmt}{T T':Ends->(L2.St->XK)->L2.St->Hp->Prop}(h:PSx X st T)(k:∀W E σ H,T' W E σ H->T W E σ H):PSx X st T':=λπ s σ H W E I q=>h π s σ H W E I<|k W E σ H q
section
variable {X:Cx}{j k:Nat}{x y:Str}{ps:List Str}{Φ:Zac}{p pos χ pos':Pos}{e:Expr}{es:List Expr}{fs:Zad}{i:Nat}
def uC (Φ:Zac)(fs:Zad):Zab:=λm=>match fs m with
 | .ok ds=>(Φ ds).bind λ_=>.ok (.nx,m)
 |_=>.stuck
theorem DG (Fh:FF X.prog X.w X.K X.mg X.base k x ps Φ)(hr:fB j X.A)(ha:FAE X.nox E0 (e::es) fs)(hk:k<=j:=by decide)(hg:Gl X x:=by rfl)(hdb:(x==("__debug__":Str))=false:=by decide)
  (he:av (e::es) X.env=(false,eval e X.env)::av es X.env:=by rfl) (ζ:(iq χ<|av es X.env).any (·.1)=false:=by rfl) (hs:gs (.Call (.Name x p) (e::es) [] χ) none pos.line X.env=pure false:=by rfl):
  FSx X [.Expr (.Call (.Name x p) (e::es) [] χ) pos] (uC Φ fs):=QF (Tz (ZS Fh hr ha hk hg hdb he ζ) hs) λW Ex σ H hE=>xq5 hE λO0 M0 H0 ow m R q=>by
 refine⟨O0,M0,H0,ow,m,R.toRel,?_⟩;unfold uC at q;cases z:fs m with
 |exc c=>rw[z] at q;exact q.elim
 |stuck=>rw[z] at q;exact q.elim
 |ok ds=>
  rw[z] at q;intro vs H1 g1 hv;refine⟨Ow O0 ow,ds,(R.mono g1).mutk,hv,?_⟩;cases w:Φ ds with
  |exc c=>simp only[w] at q;exact λC H' e g=>q C H' e<|g1.trans g
  |stuck=>simp only[w] at q;exact q.elim
  |ok r=>simp only[w] at q;exact λv H' g hv' _=>q ow σ H' (R.mono<|g1.trans g)<|Go.refl<|g1.trans g
theorem fX.unset {G:Gx}{O0 M0:Zaa}{H0 H:Hp}{ow:Os}{σ:L2.St}{m:Me}(i:Nat)(R:fX G O0 M0 H0 ow σ H m):fX G O0 M0 H0 (owS ow i none) (σ.set i none) H (m.set i .un):=by
 have sub:∀b,Ow O0 (owS ow i none) b->Ow O0 ow b\/H b=none:=λb z=>.inl z.sub;refine⟨⟨by simp[R.len],R.keep,R.m0,λb z=>R.mutk b z.sub,λj a e=>?_,λj k a e1 e2=>?_,λj hj=>?_,λj s e=>?_⟩,xM R.nb λ_ z=>by cases z⟩
 ·by_cases q:j=i
  ·subst q;rw[f9] at e;cases e
  ·rw[eU q] at e;exact R.no0 j a e
 ·by_cases q:j=i
  ·subst q;rw[f9] at e1;cases e1
  ·by_cases q':k=i
   ·subst q';rw[f9] at e2;cases e2
   ·rw[eU q] at e1;rw[eU q'] at e2;exact R.inj j k a e1 e2
 ·by_cases q:j=i
  ·subst q;exact f9
  ·rw[eU q];exact R.out j<|by simpa using hj
 ·by_cases q:j=i
  ·subst q;have hj:j<m.length:=by simpa using Aq e
   rw[dn hj] at e;cases e;exact f9
  ·rw[dA<|i7 q] at e;rw[eU q,dA<|i7 q];exact(R.slot j s e).cL sub λ_ _ b _=>ve _
def tSA (X:Cx)(g:Zab):TS:=λW σ H=>Hi X.A H/\tS (gx X) E0 g W σ H
theorem Xh {E:XK}{body suite:List Stmt}{b₀:Stmt}{n:Str}{np hpos:Pos}{DC:Addr}{gb gh:Zab}(sub:Str->Bool)
  (hst:X.stack=X.env::X.outer) (hfr:X.env.frame=some X.env.locals) (hb:FSx X body gb) (hN:X.N.Nodup) (hi:X.N[i]? = some n) (hn:X.env.scope.names.lookup n=some .local)
  (hg:Gl X x) (hm:X.mg x=some (.ref DC)) (hsub:∀c C,sub c=true->X.mg c=some (.ref C)->v3 X.K (.ref C) (.ref DC)=some true) (hs:∀ea,PSs (inh X ea) (b₀::suite)<|tSA (inh X ea) gh) (hd:(x==("__debug__":Str))=false:=by decide):
  FS X E (.Try body [.ExceptHandler (some<|.Name x np) (some n) (b₀::suite) hpos] [] [] pos) (Ik i sub gb gh):=dJ (XF (ts:=λea=>tSA (inh X ea) gh) hst hfr hb hN hi hn hg hm (λea=>hs ea) hd) λW σ H hE=>xq5 hE λO0 M0 H0 ow m R q=>by
 refine⟨O0,M0,H0,ow,m,R,?_⟩;unfold Ik at q;cases z:gb m with
 |ok a=>
  obtain⟨fl,m'⟩:=a;rw[z] at q;cases fl<;>exact q
 |stuck=>rw[z] at q;exact q.elim
 |exc c=>
  rw[z] at q;intro C H' hc g;by_cases hsc:sub c.1=true
  case neg=>simp only[if_neg hsc] at q;exact q.elim
  simp only[if_pos hsc] at q;obtain⟨hc,fs,vs,x1,x2,x3,x4⟩:=hc;refine⟨hsub c.1 C.1 hsc hc,λea ox hea o1 o2 o3=>?_⟩;have R':=R.mono g;have g2:aH H' (upd H' ea<|.frz ox<|.ext<|rK ea<|.ref C.1):=bB hea _;have R2:=(R'.mono g2).set (i:=i) (v:=.ref ea) (d:=.exc c.1 c.2.1 c.2.2)<|.exc hc bu (o2▸x1.imp id λ⟨d,q,z,y⟩=>⟨d,q,z,g2 _ _ y⟩) x2 x3<|(x4 _).mono g2;obtain⟨ws,o3,o4⟩:=o3;refine⟨⟨ea,ox,_,ws,rfl,bu,o3,o4⟩,O0,M0,H0,_,_,R2,?_⟩;have G2:Go O0 ow H (owS ow i none) (upd H' ea<|.frz ox<|.ext<|rK ea<|.ref C.1):=(Go.refl<|g.trans g2).trans Go.set;cases w:gh (m.set i<|.fz<|.exc c.1 c.2.1 c.2.2) with
  |exc c'=>rw[w] at q;exact q.elim
  |stuck=>rw[w] at q;exact q.elim
  |ok a=>
   obtain⟨fl,m'⟩:=a;rw[w] at q;cases fl with
   |nx=>exact λow' σ' H2 R3 g3=>q _ _ H2 (R3.unset i)<|(G2.trans g3).trans Go.set
   |bk=>exact λow' σ' H2 R3 g3=>q _ _ H2 (R3.unset i)<|(G2.trans g3).trans Go.set
   |ct=>exact λow' σ' H2 R3 g3=>q _ _ H2 (R3.unset i)<|(G2.trans g3).trans Go.set
   |rt fr d=>
    intro v ow' σ' H2 R3 g3 hv hf;refine q v _ _ H2 (R3.unset i) ((G2.trans g3).trans Go.set) (hv.cL λb z=>.inl z.sub) λz=>?_;rcases hf z with⟨p,e1,e2,e3⟩|t
    ·exact .inl ⟨p,e1,e2,e3.cL λb z=>.inl<|z.elim (λy=>.inl y.sub) .inr⟩
    ·exact .inr t
end
theorem Rel.more {G:Gx}{O0 M0:Zaa}{H0 H H1:Hp}{ow:Os}{σ:L2.St}{m:Me}{l:Addr}(R:Rel G O0 M0 H0 ow σ H m)(g:aH H H1)(hl:H l=none)(ho:gM (H1 l)):Rel G (Op O0 l) M0 H0 ow σ H1 m:=by
 have nl:=R.Oq hl;have sub':∀b,Ow (Op O0 l) ow b->Ow O0 ow b\/H b=none:=λb z=>(V7 z).elim .inl λe=>.inr (by rw[e];exact hl);have R':=R.mono g;refine⟨R.len,R'.keep,R'.m0,λb z=>?_,λi a e z=>?_,R.inj,R.out,λi s e=>?_⟩
 ·rcases V7 z with z|z
  ·exact R'.mutk b z
  ·rw[z];exact ho
 ·rcases z with z|z
  ·exact R.no0 i a e z
  ·exact nl<|z▸.inr ⟨i,e⟩
 ·exact((R.slot i s e).cL sub' λ_ _ b _=>ve _).mono g
section
noncomputable def LR:List D->Option (List Str)
 |[]=>some []
 | .str x::ds=>(LR ds).map (x::·)
 |_::_=>none
theorem K4:∀{vs:List V} {ds:List D} {zs:List Str},DVs G O H vs ds->LR ds=some zs->vs=zs.map V.str
 |_,_,_,.nil,e=>by cases e;rfl
 |_,_,_,.cons (d:=d) h hs,e=>by
  cases d with
  |str i=>
   obtain⟨ns,e1,rfl⟩:=omap (by simpa[LR] using e);cases h;rw[K4 hs e1];rfl
  |_=>cases e
def Ks:D->List D->Option D
 | .str z,[.lst es]=>match LR es with
  |some zs=>if JoinOk z zs=true then some (.str<|Txt.join z zs) else none
  |none=>none
 |_,_=>none
theorem Gb:MtR X "str.join" (rGM (gx X) Ks):=by
 intro π s σ H x vs v us Q I rx rv h;refine jU h λO d ds r m hx hy hr q=>?_;unfold Ks at hr;split at hr
 ·rename_i z es;cases dH hx;obtain⟨y,rfl,hy2⟩:=oH hy;obtain⟨p,xs,rfl,hp,hd⟩:=iI hy2;have hr:(match LR es with|some zs=>if JoinOk z zs=true then some (D.str<|Txt.join z zs) else none|none=>none)=some r:=hr;cases e1:LR es with
  |none=>rw[e1] at hr;cases hr
  |some zs=>
   rw[e1] at hr;obtain⟨ok,rfl⟩:=oif hr
   have:=K4 hd e1
   subst this;exact Vy X.K rfl π s σ H _ _ v us Q I rx rv ⟨z,p,zs,rfl,rfl,hp,ok,q _ _ (aH.refl _)<|.str _⟩
 ·cases hr
end
def JZ (K:a6):Sp:=λvs H Q _=>∃(a:Addr) (ns:List Int),vs=[.ref a]/\SqL K H a (ns.map V.int)/\ns.length<=63/\∀H',Q (.bl true) H'
theorem Ga:∀ns:List Int,DVs G O H (ns.map V.int) (ns.map D.int)
 |[]=>.nil
 |n::ns=>.cons (.int n)<|Ga ns
theorem SX {P:bq}{w:dc}{K:a6}{mg:Zp}{base:Heap}{CX:CXT}{k:Nat}{f:Addr}{fd:gc}{ps:List Str}{Φ:Zac}(h:∀ns:List Int,ns.length<=63->∃fr,Φ [.lst<|ns.map D.int]=.ok (fr,.bl true))
  (F:dF P w K mg base CX k f fd ps (spF ⟨K,mg⟩ Φ)):dF P w K mg base CX k f fd ps (JZ K):=F.imp λvs H Q E hE=>by
 refine rO hE λa ns e hS hl q=>?_;subst e;obtain⟨fr,e⟩:=h ns hl;refine⟨λ_=>False,[.lst<|ns.map D.int],λ_ z=>z.elim,.cons (.lst (hS.elim (λz=>.inl ⟨id,z⟩) .inr)<|Ga ns) .nil,?_⟩;rw[e];intro v H' _ hv _;cases hv;exact q H'
section
variable {X:Cx}{E:XK}{e a:Expr}{f fa:Zae}{fu:Me->Res Unit}{x y:Str}{np χ pos p py:Pos}{i:Nat}
theorem jB (Ex:∃C,X.mg x=some (.ref C)/\y9 X.K C [.type "ValueError",.type "Exception",.type "BaseException",.type "object"] "ValueError.__new__" = true)(hg:Gl X x)(hh:X.A.handled=none)(he:FM X E e fu)
  (hx:∀(C:Addr) (π:Zl) (σ:L2.St) (H:Hp) (s:aI) (h':Heap) (ea:Addr) (vs:List ay),Inv X π σ H s->rS s.heap h' ea (.ref C) vs->E (.ref C) none H->X.xe (.ref ea) { s with heap:=h' })
  (hd:(x==("__debug__":Str))=false:=by decide) (hs:av [e] X.env=(false,eval e X.env)::av [] X.env:=by rfl):
  FS X E (.Raise (some<|.Call (.Name x np) [e] [] χ) none pos) (g8 x fu):=by
 obtain⟨C,hm,hq⟩:=Ex;exact Nq PySem.F.excBase_ValueError hq hg hm hh he (hx C) hd hs
theorem Ko {body suite:List Stmt}{b₀:Stmt}{n:Str}{hpos:Pos}{gb gh:Zab}(sub:Str->Bool)
  (hst:X.stack=X.env::X.outer) (hfr:X.env.frame=some X.env.locals) (hb:FSx X body gb) (hN:X.N.Nodup) (hi:X.N[i]? = some n) (hn:X.env.scope.names.lookup n=some .local)
  (hg:Gl X x) (Xc:∃C,X.mg x=some (.ref C)/\∀c D,sub c=true->X.mg c=some (.ref D)->v3 X.K (.ref D) (.ref C)=some true) (hs:∀ea,PSs (inh X ea) (b₀::suite)<|tSA (inh X ea) gh) (hd:(x==("__debug__":Str))=false:=by decide):
  FS X E (.Try body [.ExceptHandler (some<|.Name x np) (some n) (b₀::suite) hpos] [] [] pos) (Ik i sub gb gh):=by
 obtain⟨C,hm,hq⟩:=Xc;exact Xh sub hst hfr hb hN hi hn hg hm hq hs hd
def NB (tab:Str->Option Bool)(f:Zae):Zae:=λm=>(f m).bind λd=>match d with
 | .exc c _ _=>ofO<|(tab c).map D.bl
 |_=>.stuck
theorem Vn {tab:Str->Option Bool}{c:V}{cv:ay}{σ:L2.St}{H:Hp}{Q:VK}(hc:Vl c=some cv)(ht:∀c D b,tab c=some b->X.mg c=some (.ref D)->XC X.K D/\cx X.K (.ref D) cv=some b)
  (h:tE (gx X) E (NB tab fa) σ H Q):tCB (Wk X.K) (Q8 (tB (gx X) E fa)<|Q8 (tC c) aaf) σ H Q:=by
 obtain⟨O0,M0,H0,ow,m,R,q⟩:=h;refine⟨O0,M0,H0,ow,m,R,q.bind.imp (aH.refl _) λd q v H' g hv=>?_⟩;cases d with
 |exc k _ _=>
  obtain⟨r,hr,kk⟩:=q.ofO;obtain⟨b,hb,rfl⟩:=omap hr;obtain⟨ea,C,rfl,hC,hH⟩:=QR hv;obtain⟨z1,z2⟩:=ht k C b hb hC;exact⟨ea,C,c,cv,b,rfl,hc,hH,z1,z2,kk _ _ g<|.bl _⟩
 |_=>exact q.elim
theorem S9 {tab:Str->Option Bool}{T:String}(ha:FB X E a fa)(hg:Gl X "isinstance")(hm:X.mg "isinstance" = none)(hv:ck "isinstance" = some (.builtin "isinstance"))(hgy:Gl X y)(ht:X.mg y=none/\∀c D b,tab c=some b->X.mg c=some (.ref D)->XC X.K D/\cx X.K (.ref D) (.type T)=some b)(hvy:ck y=some (.type T))
  (hny:y≠"__name__":=by decide) (hdy:(y==("__debug__":Str))=false:=by decide) (he:av [a,.Name y py] X.env=(false,eval a X.env)::av [.Name y py] X.env:=by rfl) (he2:av [.Name y py] X.env=(false,eval (.Name y py) X.env)::av [] X.env:=by rfl) (ζ:(iq pos<|av [.Name y py] X.env).any (·.1)=false:=by rfl):
  FE X E (.Call (.Name "isinstance" p) [a,.Name y py] [] pos) (NB tab fa):=
 bA (t7 Mh hg hm hv (iG ha (iG (J2 (v:=.ty T) hgy ht.1 hvy rfl hny hdy) oW he2) he) (by decide) (by decide) he ζ) λ_ _ _ h=>Vn (c:=.ty T) (cv:=.type T) rfl ht.2 h
end
section
variable {X:Cx}
def vOf:D->V
 | .bl b=>.bl b
 | .int i=>.int i
 | .str x=>.str x
 |_=>.non
theorem Nx {G:Gx}{O:Zaa}{H:Hp}{v:V}{d:D}(f:flat d=true)(h:DW G O H v d):v=vOf d:=by
 cases d with
 |non=>exact uH h
 |bl b=>exact Gk h
 |int i=>exact bY h
 |str x=>exact dH h
 |_=>cases f
theorem Eb {d:D}(f:flat d=true):rm (vOf d)=true:=by cases d<;>first|rfl|cases f
theorem K7 {G:Gx}{O:Zaa}{H:Hp}:∀{vs:List V} {ds:List D},DVs G O H vs ds->ds.all flat=true->vs=ds.map vOf
 |_,_,.nil,_=>rfl
 |_,_,.cons (d:=d) (ds:=ds) h hs,f=>by
  have f':flat d=true/\ds.all flat=true:=by simpa using f
  rw[Nx f'.1<|.inl h,K7 hs f'.2];rfl
def inD (x:D)(ds:List D):Option Bool:=if flat x=true/\ds.all flat=true then some (inV (vOf x)<|ds.map vOf) else none
def gIn:D->D->Option Bool
 | .str i,.str j=>some<|!(cq j i 0 j.length 1).isEmpty
 |x,.lst ds=>inD x ds
 |x,.tup ds=>inD x ds
 |_,_=>none
theorem QM (ds:List D):ds.all flat=true->(ds.map vOf).all rm=true:=by
 induction ds with
 |nil=>intro;rfl
 |cons d ds ih=>
  intro h;have h':flat d=true/\ds.all flat=true:=by simpa using h
  rw[bo,sC,Eb h'.1,ih h'.2];rfl
theorem Q5 {O:Zaa}{H:Hp}{x y:V}{d:D}{b:Bool}{ds:List D}{neg:Bool}{Q:VK}(hx:DW (gx X) O H x d)(hy:(∃p xs,y=.ref p/\(SqL X.K H p xs\/SqT X.K H p xs)/\DVs (gx X) O H xs ds))(h:inD d ds=some b)(q:Q (.bl<|if neg then !b else b) H):rIn X.K neg x y H Q:=by
 obtain⟨p,xs,rfl,hp,hd⟩:=hy;obtain⟨⟨f1,f2⟩,rfl⟩:=oif h;rw[Nx f1 hx]
 have:=K7 hd f2
 subst this;exact⟨p,_,rfl,hp,Eb f1,QM _ f2,q⟩
theorem Rx:OpR X (dk .In) (rGB (gx X) gIn):=by
 intro π s σ H x y v u Q I rx ry h;obtain⟨O,d,e,r,m,hx,hy,hr,q⟩:=h;unfold gIn at hr;split at hr
 ·cases hr;exact Nb π s σ H x y v u Q I rx ry ⟨_,_,dH hx,dH hy,q⟩
 ·obtain⟨p,xs,rfl,hp,hd⟩:=iI hy;exact zU π s σ H x _ v u Q I rx ry<|Q5 (neg:=false) hx ⟨p,xs,rfl,.inl hp,hd⟩ hr q
 ·obtain⟨p,xs,rfl,hp,hd⟩:=rQ hy;exact zU π s σ H x _ v u Q I rx ry<|Q5 (neg:=false) hx ⟨p,xs,rfl,.inr hp,hd⟩ hr q
 ·cases hr
noncomputable def wI:List D->Option (List Bool)
 |[]=>some []
 | .bl b::ds=>(wI ds).map (b::·)
 |_::_=>none
theorem Du {G:Gx}{O:Zaa}{H:Hp}:∀{vs:List V} {ds:List D} {bs:List Bool},DVs G O H vs ds->wI ds=some bs->vs=bs.map V.bl
 |_,_,_,.nil,e=>by cases e;rfl
 |_,_,_,.cons (d:=d) h hs,e=>by
  cases d with
  |bl b=>
   obtain⟨bs,e1,rfl⟩:=omap (by simpa[wI] using e);cases h;rw[Du hs e1];rfl
  |_=>cases e
def xQ:List D->Option D
 |[.lst ds]=>(wI ds).map λbs=>.bl<|bs.all id
 |_=>none
end
section
theorem Fx:∀{bs:List Bool} {us:List ay},Vals (bs.map V.bl) us->LSm.BoolsAre us bs
 |[],_,.nil=>.nil
 |b::bs,_,.cons r t=>by cases r;exact .cons b<|Fx t
theorem qI (hc:X.calm=true):fL X (.builtin "all") (rGC (gx X) xQ):=by
 intro π s σ H xs us Q I r h;refine KR h λO ds d m hx hr q=>?_;unfold xQ at hr;split at hr
 ·rename_i ds;obtain⟨bs,e1,rfl⟩:=omap hr;obtain⟨v,rfl,hv⟩:=oH hx;obtain⟨p,xs,rfl,hp,hd⟩:=iI hv
  have:=Du hd e1
  subst this;obtain⟨u,rfl,rx⟩:=vals1 r;cases rx;obtain⟨wa,r',pl,hz⟩:=I.list hp;have ba:=Fx r';have li:=pl.isList;have lt1:p<s.heap.objs.size:=by obtain⟨_,e,_⟩:=li;exact ar e
  refine call_all_walk<|nE li ?_;refine⟨s.heap.objs.size,[s.heap.objs.size,p],[s.heap.objs.size],wa.toArray.size,_,_,λi=>(bs[i]?).getD true,rfl,Walks.list (A:=X.A.in1) (I.ok.hd hc) _ p (a5 lt1) wa.toArray,
   ⟨⟨_,aS _ rfl,rfl,rfl⟩,li.push _⟩,λi v sn Qn En pv qv=>?_,λh' tk kp=>?_⟩
  ·obtain⟨b,e,rfl⟩:=ba.get i v (by simpa using pv);simp only[e,Option.getD_some] at qv;exact js qv
  ·have e:((ip wa.toArray.size).all λi=>(bs[i]?).getD true)=bs.all id:=by
    rw[a8,ba.length];exact LSm.range_all bs
   rw[e];exact⟨.bl _,H,I.kept<|LSm.kept_iter kp,rfl,q _ _ (aH.refl _)<|.bl _⟩
 ·cases hr
end
def Ite (K:a6)(a:Addr):It:=
 ⟨λi H=>∃xs x,SqL K H a xs/\xs[i]? = some x,λi H x H'=>∃y l,(∀xs,SqL K H a xs->xs[i]? = some y)/\x=.ref l/\H l=none/\H'=upd H l (.tup [.int i,y]),λi H=>∃xs,SqL K H a xs/\xs.length<=i⟩
theorem Gr {X:Cx}{π:Zl}{σ:L2.St}{H:Hp}{s:aI}{e it:Addr}{h':Heap}{oe oi:Obj}(I:Inv X π σ H s)(fe:pC X π H e)(fi:pC X π H it)(hne:e≠it)
  (he:∃o,s.heap.get? e=some o) (hi:∃o,s.heap.get? it=some o) (he':h'.get? e=some oe) (hi':h'.get? it=some oi) (de:oe.isFreed=false) (di:oi.isFreed=false)
  (k:∀b o,b≠e->b≠it->s.heap.get? b=some o->h'.get? b=some o):∃h1,Inv X π σ H { s with heap:=h1 }/\h1.objs.size=s.heap.objs.size/\∀b u,h1.get? b=some u->h'.get? b=some u:=by
 obtain⟨o1,he⟩:=he;obtain⟨o2,hi⟩:=hi;refine oZ fe λf0 f1 f2 f3 f4 f5=>?_;refine oZ fi λg0 g1 g2 g3 g4 g5=>?_;have I1:Inv X π σ H { s with heap:=s.heap.update e λ_=>oe }:=I.turned (t':=s.toks) (λb o hb x=>(b5 _ _<|i7 hb).trans x) f0 f1 f3 f4 f5;have I2:Inv X π σ H { s with heap:=(s.heap.update e λ_=>oe).update it λ_=>oi }:=I1.turned (t':=s.toks) (λb o hb x=>(b5 _ _<|i7 hb).trans x) g0 g1 g3 g4 g5;refine⟨_,I2,?_,λb u x=>?_⟩
 ·rw[(gL _ _ _).1,(gL _ _ _).1]
 ·by_cases z:b=it
  ·subst z;rw[eK (λ_=>oi) ((b5 _ _ hne).trans hi) di] at x;cases x;exact hi'
  ·rw[b5 _ _<|i7 z] at x;by_cases y:b=e
   ·subst y;rw[eK (λ_=>oe) he de] at x;cases x;exact he'
   ·rw[b5 _ _<|i7 y] at x;exact k b u y z x
theorem O3 {o:Obj}{vs:Array ay}(d:o.data=.fields vs):o.isFreed=false:=by
 obtain⟨c,dd,da,sl⟩:=o;cases(show da=.fields vs from d);rfl
theorem Mp {P:bq}{w:dc}{K:a6}{elts:List Expr}{x1}{pos:Pos}(a e it:Addr)(hne:e≠it):
  Turn Calm P w K (.Tuple elts x1 pos) (Ite K a) [e,it] e (λi h=>(∃old,IsEnum h e it i old)/\h.IsListIter it a i) where
 mem:=by simp
 obj:=λi h st b hb=>by
  obtain⟨⟨old,q1⟩,q2⟩:=st;have eb:b=e\/b=it:=by simpa using hb
  rcases eb with rfl|rfl
  ·exact⟨_,q1,λv z=>by cases(show Data.fields _=Data.cell v from z)⟩
  ·obtain⟨o,e',c,d⟩:=q2;exact⟨o,e',λv z=>by rw[d] at z;cases z⟩
 keep:=λi h h' st k=>by
  obtain⟨⟨old,q1⟩,q2⟩:=st;exact⟨⟨old,k e (by simp) _ q1⟩,q2.at λo x=>k it (by simp) o x⟩
 item:=by
  intro X hP hw hK hc i π s σ H E I hf st hg;subst hP hw hK;obtain⟨xs,x,hq,hx⟩:=hg;obtain⟨⟨old,q1⟩,q2⟩:=st;obtain⟨its,rv,p,hz⟩:=I.list hq;obtain⟨u,hu,ru⟩:=rv.get hx;have fe:=hf e (by simp);have fi:=hf it (by simp);refine wpAny_pyNext_enum_item q1 q2 p.isList (x:=u) (by simpa using hu) hne λh' eo il ht hsz k=>?_;obtain⟨oi,ei,ci,di⟩:=id il;obtain⟨oj,ej,cj,dj⟩:=id q2;obtain⟨h1,I1,z1,k1⟩:=Gr I fe fi hne ⟨_,q1⟩ ⟨_,ej⟩ eo ei rfl (O3 di) k;have I2:Inv X π σ (upd H s.heap.objs.size<|.tup [.int i,x]) { s with heap:=h',toks:=s.toks+1 }:=
   I1.laid (t':=s.toks+1) k1 (zv z1) (show cO X.prog X.w _ _ _ (.tup [.int i,x]) from⟨(show 2<=ai by decide),[.int i s.toks,u],.cons ⟨s.toks,rfl⟩<|.cons ru .nil,⟨_,ht,rfl,_,rfl,rfl⟩⟩)
  have fr:H s.heap.objs.size=none:=I.hok.fresh<|aE _;have ne1:e≠s.heap.objs.size:=a5<|ar q1;have ne2:it≠s.heap.objs.size:=a5<|ar ej;have nn:∀b,b≠s.heap.objs.size->H b=none->upd H s.heap.objs.size (.tup [.int i,x]) b=none:=λb z y=>by rw[bT z];exact y
  refine⟨_,rfl,wpAny_letOwnedTupleGo_enum eo λh2 e2 sb=>?_⟩;refine oZ fe λf0 f1 f2 f3 f4 f5=>?_;refine⟨.ref s.heap.objs.size,_,I2.turned (t':=s.toks+1) (λb o hb y=>(sb.2 b hb).trans y) (nn e ne1 f0) f1 f3 f4 f5,rfl,⟨x,_,λys hy=>by rw[I.yo hy hq];exact hx,rfl,fr,rfl⟩,⟨⟨_,e2⟩,il.at λo y=>(sb.2 it<|i7 hne).trans y⟩,λb hb=>?_⟩;have eb:b=e\/b=it:=by simpa using hb
  rcases eb with rfl|rfl
  ·exact nn _ ne1 f0
  ·exact nn _ ne2 fi.1
 done:=by
  intro X hP hw hK hc i π s σ H E I hf st hg;subst hP hw hK;obtain⟨xs,hq,hx⟩:=hg;obtain⟨⟨old,q1⟩,q2⟩:=st;obtain⟨its,rv,p,hz⟩:=I.list hq;refine oZ (hf it<|by simp) λf0 f1 f2 f3 f4 f5=>?_;have hl:=rv.length;exact wpAny_pyNext_enum_end (I.ok.hd hc) q1 q2 p.isList (by simp;lia) λh' eb=>⟨rfl,I.turned (t':=s.toks) (λb o hb y=>eb b o hb y) f0 f1 f3 f4 f5⟩
 self:=λ_ _ _ _ _ st h=>by
  obtain⟨⟨old,q1⟩,q2⟩:=st;exact wpAny_pyIter_enum q1 h
section
variable {X:Cx}{tg:Expr}
def ZZ (K:a6)(ta:TA):TI:=λσ H R=>ta σ H λvs H1=>∃p,vs=[.ref p]/\(∃xs,SqL K H1 p xs)/\R (Ite K p) H1
theorem UW {elts:List Expr}{x1}{pt:Pos}{a:Expr}{ta:TA}{p pos:Pos}(hg:Gl X "enumerate")(hm:X.mg "enumerate" = none)(ha:PA X [a] ta)(hs:av [a] X.env=[(false,eval a X.env)]:=by rfl):PI Calm X (.Tuple elts x1 pt) (.Call (.Name "enumerate" p) [a] [] pos) (ZZ X.K ta):=by
 intro π s σ H R I h;refine Call_<|sy I hg hm boot_enumerate<|fF (thn (ha pos π s σ H _ I h) λus s1 hE=>xq2 hE λvs H1 I1 r1 q1=>?_) hs rfl;obtain⟨l,e,⟨xs,hq⟩,q⟩:=q1;subst e;obtain⟨u,rfl,rx⟩:=vals1 r1;cases rx;obtain⟨its,rv,pl,hz⟩:=I1.list hq;refine call_enumerate_list pl.isList λh' e1 e2 sz k=>?_;have I2:Inv X π σ H1 { s1 with heap:=h' }:=I1.kept (t':=s1.toks) k;refine wpAny_pyIter_enum (s:={ s1 with heap:=h' }) e1 ?_;refine⟨_,[s1.heap.objs.size+1,s1.heap.objs.size],_,_,H1,rfl,I2,Mp l _ _<|Nat.succ_ne_self _,⟨⟨_,e1⟩,e2⟩,λb hb=>?_,q⟩;have eb:b=s1.heap.objs.size+1\/b=s1.heap.objs.size:=by simpa using hb
 have hb':s1.heap.objs.size<=b:=eb.elim (λz=>by rw[z];exact xw _) λz=>zv z.symm;exact I1.Mf hb'<|I1.hok.fresh hb'
noncomputable def wO (ds:List D):List D:=ds.mapIdx λi d=>.tup [.int i,d]
theorem zN (ds:List D):(wO ds).length=ds.length:=by simp[wO]
theorem Vm {G:Gx}{H:Hp}{a:Addr}{ds:List D}{P:(Zaa)->Hp->Prop}(h:∀O' H2,P O' H2->∃xs,SqL G.K H2 a xs/\DVs G O' H2 xs ds):xK G (Ite G.K a) (wO ds) P:=by
 intro O' H2 ev;obtain⟨xs,hq,hd⟩:=h O' H2 ev;have ρ:=cB hd;refine⟨λi hi=>⟨xs,xs[i]'(by rw[zN] at hi;lia),hq,by simp⟩,λi x H' hi y=>?_,xs,hq,by rw[zN];lia⟩;obtain⟨y,l,h1,rfl,fr,rfl⟩:=y;obtain⟨d,e1,e2⟩:=uh hd<|h1 xs hq;exact⟨bB fr _,.tup [.int i,d],by simp[wO,List.getElem?_mapIdx,e1],.tup (SqU.of bu)<|.cons (.int _)<|.cons (e2.mono<|bB fr _) .nil⟩
def XD (f:Zad):Zad:=λm=>(f m).bind λd=>match d with
 |[.lst ds]=>.ok<|wO ds
 |_=>.stuck
theorem Ou {E:XK}{fs:Zad}{elts:List Expr}{x1}{pt:Pos}{a:Expr}{p pos:Pos}(hg:Gl X "enumerate")(hm:X.mg "enumerate" = none)(ha:FAB X E [a] fs)(hs:av [a] X.env=[(false,eval a X.env)]:=by rfl):FIw X E (.Tuple elts x1 pt) (.Call (.Name "enumerate" p) [a] [] pos) (XD fs):=
 oN (UW hg hm ha hs) λσ H R hE=>xq5 hE λO0 M0 H0 ow m Re q=>⟨O0,M0,H0,ow,m,Re,q.bind.imp (aH.refl _) λds q vs H' g hv=>by
  have z:∃xs,ds=[.lst xs]:=by
   cases ds with
   |nil=>exact q.elim
   |cons d ds=>cases d with
    |lst xs=>cases ds with
     |nil=>exact⟨xs,rfl⟩
     |cons _ _=>exact q.elim
    |_=>exact q.elim
  obtain⟨ds,rfl⟩:=z;cases hv with
  |cons h1 h2=>
   cases h2;obtain⟨l,xs,rfl,hl,hd⟩:=iI h1;exact⟨_,rfl,⟨_,hl⟩,q _ H' g<|Vm (H:=H') λO' H2 ⟨sub,g2⟩=>⟨_,Ft hl g2,hd.go (Re.mono g).mutk ⟨sub,.of g2⟩⟩⟩⟩
end
theorem QZ:vT (.type "list_reverseiterator") "__len__" = pure none:=by rfl
theorem Sx:vT (.type "list_reverseiterator") "__length_hint__" = pure (some<|.builtin "list_reverseiterator.__length_hint__"):=by rfl
section
variable {pr:bq}{wo:dc}{A:cK}{s:aI}{R:Result->aI->Prop}
variable {St:Nat->aI->Prop}{P:Nat->ay->Prop}{n:Nat}{I:Addr}{fp wr:List Addr}{G:Array n5->Array n5->Prop}
theorem Vc (W:WalksS pr wo A.in1 I fp wr G n P St)(ty:∀i s,St i s->s.TypeIs (.ref I) "list_reverseiterator")(S:Addr)(res:ay)(c:Nat)(st:St 0 s)(nf:S∉fp)(mi:I∈fp)
  (oS:s.heap.get? S=some { cls:=.type "list",data:=.seq #[] c })
  (fin:∀s' ac c',Moved (S::wr) G s s'->s'.heap.get? S=some { cls:=.type "list",dict:=none,data:=.seq ac c',slots:=#[] }->ItemsOf P ac n->R (.ok<|.ret res) s') (hn:n<=ai):
  br (b0 pr wo) A.in1 (kL (.ref S) (.ref I) res)
   (λf t=>match f with|.done f=>R (.ok f) t|.again c'=>c'.quiet=true/\pS (b0 pr wo) A c' R t) (λe t=>R (.error e) t) s:=by
 have ne:S≠I:=λe=>nf<|e▸mi;have sr:sv (.ref S) (.ref I)=false:=by simp[sv,ne]
 unfold kL;refine ae<|ui (ty 0 _ st) ?_;rw[if_neg (by rw[sr];decide)];refine ae<|W.self 0 _ _ _ st<|ae<|fw ?_;unfold Builtin.List.listLengthHint;refine ae<|ja (ty 0 _ st) QZ ?_;show br (b0 pr wo) A.in1 (specialOf (bE I) (af "__length_hint__") >>= _) _ _ _;refine ae<|ja (ty 0 _ st) Sx ?_;generalize hid:("list_reverseiterator.__length_hint__":String)=id0
 wp_delta
 rw[show splitId id0=some ("list_reverseiterator", "__length_hint__") from by subst hid;decide +kernel];subst hid;refine ae<|lI (b:=true) (ty 0 _ st) (by rw[isSubtype_type];kernel_rfl)<|ah ?_;rw[if_neg<|by decide];exact ah ⟨yA F.plain_extend_loop _,codeAny_extend_loopS W hn _ nf _ n 0 _ _ _ rfl (eC _) st oS (ItemsOf.nil P) fin⟩
end
section
theorem Mw {items:Array ay}(h:ItemsOf (λi v=>items[items.size-1-i]? = some v) ac items.size):ac=items.reverse:=by
 obtain⟨z,h⟩:=h;refine Array.ext (by simp[z]) λi h1 h2=>?_
 have:=h i ac[i]<|by simp
 rw[Array.getElem_reverse];obtain⟨_,e⟩:=dE.mp this;exact e.symm
theorem yV {items:Array ay}(hh:A.handled=none)(li:s.heap.IsList l items)(ri:s.heap.IsRevIter I l ((items.size:Int)-1))(ne:l≠I)(hn:items.size<=ai)
  (fin:∀t tk c,(∀b o,b≠I->s.heap.get? b=some o->t.get? b=some o)->t.get? s.heap.objs.size=some { cls:=.type "list",dict:=none,data:=.seq items.reverse c,slots:=#[] }->Q (.ref s.heap.objs.size) { s with heap:=t,toks:=tk }):
  br (b0 pr wo) A (call (.type "list") [.ref I]) Q E s:=by
 obtain⟨oi,ei,ci,di⟩:=id ri;obtain⟨ol,el,cl⟩:=id li;have ltI:I<s.heap.objs.size:=ar ei;have ltl:l<s.heap.objs.size:=ar el;have nf:s.heap.objs.size∉[I,l]:=λhm=>by
  rcases bP.mp hm with z|z
  ·exact l9 ltI z
  ·exact l9 ltl<|b4.mp z
 have W:=(Walks.listRev (prog:=pr) (w:=wo) (A:=A.in1.in1) hh I l ne items).toS;refine callType_codes (Q₁:=λo t=>o=.ref s.heap.objs.size/\t={ s with heap:=s.heap.push { cls:=.type "list",data:=.seq #[] } }) F.called_list (F.typeCall_list_1 _) F.entry_list_init (code_list_new _ ⟨rfl,rfl⟩) λo t ht=>?_;obtain⟨rfl,rfl⟩:=ht;have oS:(s.heap.push { cls:=.type "list",data:=.seq #[] }).get? s.heap.objs.size=some { cls:=.type "list",data:=.seq #[] }:=aS _ rfl;refine⟨⟨_,oS,rfl⟩,F.args_list_init_2 _ _,?_⟩;show br (b0 pr wo) A.in1.in1 (do let old←tF (.ref s.heap.objs.size);Builtin.List.listUpdate (.ref s.heap.objs.size) (λ_=>#[]);letGo old.toList.reverse;kL (.ref s.heap.objs.size) (.ref I) .none) _ _ _;refine ae ?_;unfold tF;refine ae<|ro oS rfl<|ah ?_;refine ae (m:=updateSeq s.heap.objs.size λ_=>#[])<|wpAny_updateSeq oS rfl ?_;have oS2:=eK (y7 λ_=>(#[]:Array ay)) oS rfl;refine ae<|wpAny_letGo ?_;have kp:∀b o,b≠s.heap.objs.size->s.heap.get? b=some o->((s.heap.push { cls:=.type "list",data:=.seq #[] }).update s.heap.objs.size<|y7 λ_=>(#[]:Array ay)).get? b=some o:=
  λb o hb e=>(b5 _ _<|i7 hb).trans<|ag _ e
 have st0:(0:Nat)<=items.size/\s.heap.IsRevIter I l ((items.size:Int)-1-((0:Nat):Int))/\s.heap.IsList l items:=⟨eC _,by simpa using ri,li⟩;refine Vc W (λi t x=>x.2.1.typeIs) _ .none _ ⟨st0.1,st0.2.1.at λo e=>kp I o (a5 ltI) e,st0.2.2.at λo e=>kp l o (a5 ltl) e⟩ nf (by simp) oS2 (λt ac c mv oS3 it=>?_) hn;refine⟨rfl,?_⟩;rw[Moved.eq_with mv];rw[Mw it] at oS3;exact fin _ _ c (λb o hb e=>mv.heap b o (λhm=>by
  rcases bP.mp hm with z|hm
  ·exact eD _<|z▸ar e
  ·exact hb<|b4.mp hm) (kp b o (a5<|ar e) e)) oS3
end
section
theorem wD:ck "list" = some (.type "list"):=by decide +kernel
theorem Ys:ck "reversed" = some (.type "reversed"):=by decide +kernel
def Ze (K:a6):List V->Hp->VK->Prop:=λxs H Q=>∃p ys,xs=[.ref p]/\SqL K H p ys/\∀l,H l=none->Q (.ref l) (upd H l<|.lst ys.reverse)
theorem R5 (hc:X.calm=true)(hg:Gl X "list")(hm:X.mg "list" = none)(hg':Gl X "reversed")(hm':X.mg "reversed" = none)(ha:PA X [e] ta)
  (hs:av [e] X.env=[(false,eval e X.env)]:=by rfl) (hs':av [.Call (.Name "reversed" p') [e] [] pos'] X.env=[(false,eval (.Call (.Name "reversed" p') [e] [] pos') X.env)]:=by rfl):
  PE X (.Call (.Name "list" p) [.Call (.Name "reversed" p') [e] [] pos'] [] pos) (tCB (Ze X.K) ta):=by
 intro π s σ H Q I h;refine hG<|sy I hg hm wD<|fF ?_ hs' rfl;rw[hs'];refine mw<|hG<|sy I hg' hm' Ys<|fF (thn (ha pos' π s σ H _ I h) λus s1 hE=>xq2 hE λvs H1 I1 r1 q1=>?_) hs rfl;obtain⟨l,ys,rfl,hq,q⟩:=q1;obtain⟨u,rfl,rx⟩:=vals1 r1;cases rx;obtain⟨its,rv,pl,hz⟩:=I1.list hq;have ρ:=rv.length;refine call_reversed_list pl.isList<|sk ?_;have el:l<s1.heap.objs.size:=by obtain⟨_,e,_⟩:=pl.isList;exact ar e
 refine yV (s:={ s1 with heap:=s1.heap.push (revObj l<|(its.toArray.size:Int)-1) }) (I1.ok.hd hc) (pl.isList.push _) ⟨_,aS _ rfl,rfl,rfl⟩ (a5 el) (by simp only[a8]<;>lia) λt tk c kp oS=>?_;have sz:s1.heap.objs.size<=(s1.heap.push<|revObj l<|(its.toArray.size:Int)-1).objs.size:=by rw[rV];exact xw _
 refine⟨.ref _,_,I1.laid (t':=tk) (λb o e=>kp b o (a5<|ar e)<|ag _ e) sz<|show cO X.prog X.w _ t _ (.lst ys.reverse) from⟨by simp;lia,its.reverse,c,rv.reverse,by simpa using oS⟩,rfl,q _<|I1.hok.fresh sz⟩
noncomputable def Qw:List D->Option D
 |[.lst ds]=>some<|.lst ds.reverse
 |_=>none
theorem U6 (hc:X.calm=true)(hg:Gl X "list")(hm:X.mg "list" = none)(hg':Gl X "reversed")(hm':X.mg "reversed" = none)(ha:FAB X E [e] fs)
  (hs:av [e] X.env=[(false,eval e X.env)]:=by rfl) (hs':av [.Call (.Name "reversed" p') [e] [] pos'] X.env=[(false,eval (.Call (.Name "reversed" p') [e] [] pos') X.env)]:=by rfl):
  FN X E (.Call (.Name "list" p) [.Call (.Name "reversed" p') [e] [] pos'] [] pos) (aV Qw fs):=
 bA (R5 hc hg hm hg' hm' ha hs hs') λσ H Q h=>by
  refine Ah h λO0 M0 H0 ow m R q=>?_;refine⟨O0,M0,H0,ow,m,R,q.bind.imp (aH.refl _) λds q vs H1 g1 hv=>?_⟩;obtain⟨r,hr,k⟩:=q.ofO
  match ds,hr with
  |[.lst ds],hr=>
   cases hr;obtain⟨v,rfl,hw⟩:=oH hv;obtain⟨l,xs,rfl,hp,hd⟩:=iI hw;exact⟨l,xs,rfl,hp,λb hb=>k b _ (g1.trans<|bB hb _) (g1.free hb) ⟨_,bu,((Iw hd).cL λc z=>z.elim .inl λe=>.inr (by rw[e];exact hb)).mono<|bB hb _⟩⟩
end
def signs (z:Str):List D:=z.cps.toList.map λc=>.str ⟨#[c]⟩
def Its (z:Str):It:=⟨λi _=>i<z.cps.size,λi H v H'=>H'=H/\∃c,z.cps[i]? = some c/\v=.str ⟨#[c]⟩,λi _=>i=z.cps.size⟩
theorem Fi {P:bq}{w:dc}{K:a6}{tg:Expr}{ty:String}(it:Addr)(z:Str)(t:Tok)
  (wk:∀A:cK,A.handled=none->Walks P w A it [it] [it] z.cps.size (SignAt z) (λi h=>h.IsStrIter it ty z t i))
  (sf:∀(A:cK) (i:Nat) (s:aI) (Q:Zs) (E:Zs),s.heap.IsStrIter it ty z t i->Q (.ref it) s->br (b0 P w) A (AA<|.ref it) Q E s)
  (hn:["enumerate", "zip", "dict_itemiterator", "dict_reverseitemiterator", "odict_iterator", "itertools.zip_longest", "itertools.pairwise"].contains ty=false):Turn Calm P w K tg (Its z) [it] it (λi h=>h.IsStrIter it ty z t i) where
 mem:=by simp
 obj:=λi h st b hb=>by
  cases b4.mp hb;obtain⟨o,e,c,d⟩:=st;exact⟨o,e,λv y=>by rw[d] at y;cases y⟩
 keep:=λi h h' st k=>by
  obtain⟨o,e,r⟩:=st;exact⟨o,k it (by simp) o e,r⟩
 item:=by
  intro X hP hw hK hc i π s σ H E I hf st hg;subst hP hw hK;refine oZ (hf it<|by simp) λf0 f1 f2 f3 f4 f5=>?_;refine(wk X.A<|I.ok.hd hc).item i s _ _ hg st λv h' tk hv st' kk=>?_;obtain⟨c,u,e1,rfl⟩:=hv;have I1:Inv X π σ H { s with heap:=h',toks:=tk }:=I.turned (λb o hb e=>kk b o (by simpa using hb) e) f0 f1 f3 f4 f5;obtain⟨o,e,cl,d⟩:=id st';exact⟨_,rfl,Fb (s:={ s with heap:=h',toks:=tk }) (n:=ty) e cl d hn ⟨.str ⟨#[c]⟩,H,I1,⟨u,rfl⟩,⟨rfl,c,e1,rfl⟩,st',λb hb=>(hf b hb).1⟩⟩
 done:=by
  intro X hP hw hK hc i π s σ H E I hf st hg;subst hP hw hK;cases(show i=z.cps.size from hg);refine oZ (hf it<|by simp) λf0 f1 f2 f3 f4 f5=>?_;exact(wk X.A<|I.ok.hd hc).done s _ _ st λh' tk kk=>⟨rfl,I.turned (λb o hb e=>kk b o (by simpa using hb) e) f0 f1 f3 f4 f5⟩
 self:=λA i s Q E st h=>sf A i s Q E st h
section
def aa5 (tl:TE):TI:=λσ H R=>tl σ H λx H1=>∃z,x=.str z/\R (Its z) H1
theorem Yc (hl:PE X l tl):PI Calm X tg l (aa5 tl):=by
 intro π s σ H R I h;refine thn (hl π s σ H _ I h) λv s1 hE=>xq2 hE λx H1 I1 r1 q1=>?_;obtain⟨z,rfl,q⟩:=q1;obtain⟨t,rfl⟩:=r1;refine wpAny_pyIter_strU ?_;have fp:∀b∈[s1.heap.objs.size],pC X π H1 b:=λb hb=>by
  cases b4.mp hb;exact I1.Mf (aE _)<|I1.hok.fresh<|aE _
 have st:(s1.heap.push { cls:=.type<|xy z,data:=.fields #[.str z t,.int 0 0] }).IsStrIter s1.heap.objs.size (xy z) z t 0:=⟨_,aS _ rfl,rfl,rfl⟩;refine⟨s1.heap.objs.size,[s1.heap.objs.size],(λi h=>h.IsStrIter s1.heap.objs.size (xy z) z t i),Its z,H1,rfl,I1.kept (t':=s1.toks) λb o e=>ag _ e,?_,st,fp,q⟩;unfold xy;split
 ·exact Fi _ z t (λA hA=>Walks.strAscii hA _ z t) (λ_ _ _ _ _ a b=>wpAny_pyIter_striter_ascii a b)<|by decide
 ·exact Fi _ z t (λA hA=>Walks.strWide hA _ z t) (λ_ _ _ _ _ a b=>wpAny_pyIter_striter_wide a b)<|by decide
theorem WN:xK G (Its z) (signs z) P:=by
 intro O H _;refine⟨λi hi=>(show i<z.cps.size by simpa[signs] using hi),λi x H' hi y=>?_,show _=_ by simp[signs]⟩;obtain⟨rfl,c,e,rfl⟩:=y;have e':z.cps.toList[i]? = some c:=by simpa using e
 exact⟨aH.refl _,.str ⟨#[c]⟩,by simp[signs,e],.str _⟩
def NT (f:Zae):Zad:=λm=>(f m).bind λd=>match d with
 | .str z=>.ok<|signs z
 |_=>.stuck
theorem Rk (h:FE X E e f):FI X E tg e (NT f):=oN (Yc h) λσ H R hE=>xq5 hE λO0 M0 H0 ow m Re q=>⟨O0,M0,H0,ow,m,Re,q.bind.imp (aH.refl _) λd q v H' g hv=>by
 cases d with
 |str z=>
  cases hv with
  |str=>exact⟨_,rfl,q _ H' g WN⟩
 |_=>exact q.elim⟩
end
section
end
section
end
noncomputable def nR:D->Option Key
 | .int i=>some<|.inl i
 | .str z=>some<|.inr z
 |_=>none
noncomputable def qW:List Key->List D->Key->Option D
 |k'::ks,d::ds,k=>if k'=k then some d else qW ks ds k
 |_,_,_=>none
noncomputable def Eu:List Key->List D->Key->D->List D
 |k'::ks,d'::ds,k,d=>(if k'=k then d else d')::Eu ks ds k d
 |_,_,_,_=>[]
def putD (ks:List Key)(ds:List D)(k:Key)(d:D):List Key×List D:=if ks.any (λx=>decide<|x=k)=true then(ks,Eu ks ds k d) else(ks++[k],ds++[d])
theorem Bj (h:DW G O H v d)(e:nR d=some k):v=kV k:=by
 cases d with
 |int i=>cases e;cases bY h;rfl
 |str z=>cases e;cases dH h;rfl
 |_=>cases e
theorem vZ:∀{ι:List (Key×V)} {ds:List D},DVs G O H (ι.map (·.2)) ds->
  (∃v d,lL ι k=some v/\qW (ι.map (·.1)) ds k=some d/\DV G O H v d)\/(lL ι k=none/\qW (ι.map (·.1)) ds k=none)
 |[],_,.nil=>.inr ⟨rfl,rfl⟩
 |(k',v)::ι,_,.cons (d:=d) h hs=>by
  by_cases q:k'=k
  ·exact .inl ⟨v,d,qt q,by simp[qW,q],h⟩
  ·rw[pU (p:=(k',v)) q];simp only[bo,qW,if_neg q];exact vZ hs
section
def Eg:D->D->Option D
 | .dct ks ds,k=>(nR k).bind<|qW ks ds
 |_,_=>none
def HF:D->D->Option Bool
 |k,.dct ks ds=>(nR k).map λk=>(qW ks ds k).isSome
 |_,_=>none
theorem m9 (r:fB j A):A.units+16<mn:=by have:=r.un;lia
theorem Yy (hr:fB j X.A):OpR X (dk .In) (rGB (gx X) HF):=by
 intro π s σ H x y v u Q I rx ry h;refine jU h λO d e r m hx hy e1 q=>?_;unfold HF at e1;split at e1
 ·rename_i d ks ds;obtain⟨k,e2,rfl⟩:=omap e1;obtain⟨p,ι,ws,rfl,hp,rfl,rfl,hd⟩:=uD hy;cases Bj hx e2;cases ry;have fin:(lL ι k).isSome=(qW (ι.map (·.1)) ds k).isSome:=by
   rcases vZ (k:=k) hd with⟨_,_,a,b,_⟩|⟨a,b⟩<;>simp[a,b]
  refine abb (m9 hr) I (QJ (k:=k) hp) rx λs' I'=>⟨.bl _,H,I',rfl,?_⟩;rw[fin];exact q
 ·cases e1
theorem JK (hr:fB j X.A)(ha:FB X E a fa)(hb:FB X E b fb)(hs:RX b):FE X E (.Subscript a b pos) (aA Eg fa fb):=
 bA (JQ (m9 hr) ha hb hs) λσ H Q hE=>xq5 hE λO0 M0 H0 ow m R q=>two (r:=λx y H Q=>∃a v,x=.ref a/\Il X.K H a y (some v)/\Q v H) R (K:=λz H=>∀v H',aH H H'->DV (gx X) (Ow O0 ow) H' v z->Q v H') q (λ_ _ k g v H' g' d=>k v H' (g.trans g') d) λx y d e H' g hx hy q' R'=>by
  obtain⟨r,hr,k⟩:=q'.ofO
  match d,hr with
  | .dct ks ds,hr=>
   obtain⟨p,ι,ws,rfl,hp,rfl,rfl,hd⟩:=uD hx;obtain⟨ky,e2,e3⟩:=d5.mp hr;cases Bj hy e2;rcases vZ (k:=ky) hd with⟨v,d,a,b,c⟩|⟨a,b⟩
   ·rw[b] at e3;cases e3;exact⟨p,v,rfl,a▸QJ hp,k _ _ (aH.refl _) c⟩
   ·rw[b] at e3;cases e3
noncomputable def pY:Zae:=λ_=>.ok<|.dct [] []
theorem J4:FN X E (.Dict [] [] pos) pY:=bA Nk λσ H Q ⟨O0,M0,H0,ow,m,R,q⟩ p hp=>q p _ (bB hp _) hp ⟨[],[],bu,rfl,rfl,.nil⟩
end
theorem zF (k:Key)(v:V):∀ι:List (Key×V),(ι.map λkv=>if kv.1=k then(kv.1,v) else kv).map (·.1)=ι.map (·.1)
 |[]=>rfl
 |p::ι=>by
  rw[bo,bo,bo,zF k v ι];split<;>rfl
theorem vy (h:DV G O H v d):∀{ι:List (Key×V)} {ds:List D},DVs G O H (ι.map (·.2)) ds->DVs G O H ((ι.map λkv=>if kv.1=k then(kv.1,v) else kv).map (·.2)) (Eu (ι.map (·.1)) ds k d)
 |[],_,.nil=>.nil
 |(k',v')::ι,_,.cons h1 hs=>by
  simp only[bo,Eu];split
  ·exact .cons h<|vy h hs
  ·exact .cons h1<|vy h hs
theorem S5 (h:DV G O H v d)(hs:DVs G O H (ι.map (·.2)) ds):
  (putK ι k v).map (·.1)=(putD (ι.map (·.1)) ds k d).1/\DVs G O H ((putK ι k v).map (·.2)) (putD (ι.map (·.1)) ds k d).2:=by
 have e:(ι.any λkv=>decide<|kv.1=k)=(ι.map (·.1)).any λx=>decide (x=k):=by rw[List.any_map];rfl
 unfold putK putD;rw[e];split
 ·exact⟨zF k v ι,vy h hs⟩
 ·exact⟨by simp,by rw[eM];exact jg hs<|.cons h .nil⟩
section
end
section
end
def zf:D->Option D
 | .str z=>if z.length<=ai then some (.str z) else none
 | .int i=>if i.natAbs.log2<1920 then some (.str (toString i:String)) else none
 |_=>none
section
theorem Ii (h:FB X E e f):FE X E (.FormattedValue e (-1) none pos) (fUn zf f):=by
 intro π s σ H Q I ⟨O0,M0,H0,ow,m,R,q⟩;refine FormattedValue_plain<|thn (h π s σ H (λx H1=>aH H H1/\∃d r,DW (gx X) (Ow O0 ow) H1 x d/\zf d=some r/\∀v H',aH H H'->DV (gx X) (Ow O0 ow) H' v r->Q v H') I ⟨O0,M0,H0,ow,m,R,q.bind.imp (aH.refl _) λd q x H1 g1 hx=>?_⟩) λu s1 ⟨x,H1,I1,rx,g1,d,r,hx,e1,k⟩=>?_
 ·obtain⟨r,hr,k⟩:=q.ofO;exact⟨g1,d,r,hx,hr,k⟩
 ·match d,e1 with
  | .str z,e1=>
   obtain⟨hz,rfl⟩:=oif e1;cases dH hx;obtain⟨t,rfl⟩:=rx;exact formatField_str (λt' tk=>⟨.str z,H1,I1.tok _,⟨t',rfl⟩,k _ _ g1<|.str z⟩) hz
  | .int i,e1=>
   obtain⟨hz,rfl⟩:=oif e1;cases bY hx;obtain⟨t,rfl⟩:=rx;exact formatField_int_small hz ⟨.str _,H1,I1.tok _,⟨_,rfl⟩,k _ _ g1<|.str _⟩
def FJ (X:Cx)(E:XK)(es:List Expr)(f:Str->Me->Res Str):Prop:=∀(π:Zl) (s:aI) (σ:L2.St) (H:Hp) (Q:VK) (out:Str),Inv X π σ H s->
 (∃O0 M0 H0 ow m,Rel (gx X) O0 M0 H0 ow σ H m/\Pu (gx X) E (f out m) H λz=>∀H',aH H H'->Q (.str z) H')->br (b0 X.prog X.w) X.A (joinParts out<|z4 es X.env) (EP X π σ Q) X.xe s
def sW:Str->Me->Res Str:=λout _=>if out.length<=ai then .ok out else .stuck
def ik (f:Zae)(g:Str->Me->Res Str):Str->Me->Res Str:=λout m=>(f m).bind λd=>match d with
 | .str y=>if(out++y).length<=ai then g (out++y) m else .stuck
 |_=>.stuck
theorem xX:FJ X E [] sW:=by
 intro π s σ H Q out I ⟨O0,M0,H0,ow,m,R,q⟩;obtain⟨hz,k⟩:=Fz q;exact joinParts_nil ⟨.str out,H,I.tok _,⟨_,rfl⟩,k H<|aH.refl _⟩ hz
theorem iZ (h:FE X E e f)(hr:FJ X E es g)(hs:z4 (e::es) X.env=eval e X.env::z4 es X.env:=by rfl):FJ X E (e::es) (ik f g):=by
 intro π s σ H Q out I ⟨O0,M0,H0,ow,m,R,q⟩;rw[hs];refine joinParts_cons<|thn (h π s σ H (λx H1=>∃y,x=.str y/\(out++y).length<=ai/\∃O0 M0 H0 ow m,Rel (gx X) O0 M0 H0 ow σ H1 m/\Pu (gx X) E (g (out++y) m) H1 λz=>∀H',aH H1 H'->Q (.str z) H') I ⟨O0,M0,H0,ow,m,R,q.bind.imp (aH.refl _) λd q x H1 g1 hx=>?_⟩) λu s1 ⟨x,H1,I1,rx,y,ex,hz,q1⟩=>?_
 ·cases d with
  |str y=>
   cases hx;by_cases hz:(out++y).length<=ai
   ·simp only[if_pos hz] at q;exact⟨y,rfl,hz,O0,M0,H0,ow,m,R.mono g1,q.imp g1 λz k H' g'=>k H'<|g1.trans g'⟩
   ·simp only[if_neg hz] at q;exact q.elim
  |_=>exact q.elim
 ·subst ex;obtain⟨t,rfl⟩:=rx;exact⟨hz,hr π s1 σ H1 Q (out++y) I1 q1⟩
def gw (g:Str->Me->Res Str):Zae:=λm=>(g iS m).bind λz=>.ok<|.str z
theorem m7 (h:FJ X E (v₁::v₂::es) g)(hs:z4 (v₁::v₂::es) X.env=eval v₁ X.env::eval v₂ X.env::z4 es X.env:=by rfl):FE X E (.JoinedStr (v₁::v₂::es) pos) (gw g):=by
 intro π s σ H Q I ⟨O0,M0,H0,ow,m,R,q⟩;refine JoinedStr_many ?_;rw[← hs];exact h π s σ H Q iS I ⟨O0,M0,H0,ow,m,R,q.bind.imp (aH.refl _) λz k H' g=>k _ H' g<|.str z⟩
end
noncomputable def abL:List D->Option D
 |[.int i,.int j]=>some<|.int<|if j<i then j else i
 |_=>none
section
noncomputable def pW:List D->Option D
 |[.bl b]=>some<|.int<|if b then 1 else 0
 |[.str x]=>if x.length<=640 then(PySem.intText? x).map D.int else none
 |_=>none
theorem qF:fL X (.type "int") (rGC (gx X) pW):=by
 intro π s σ H xs us Q I r h;refine KR h λO ds d m hx hr q=>?_;unfold pW at hr;split at hr
 ·rename_i b;cases hr;obtain⟨v,rfl,hv⟩:=oH hx;have e:v=.bl b:=by
   rcases hv with hv|⟨_,_,_,z⟩
   ·cases hv;rfl
   ·exact z.elim
  subst e;obtain⟨u,rfl,rx⟩:=vals1 r;cases rx;exact call_int_bool ⟨.int _,H,I.tok _,⟨_,rfl⟩,q _ _ (aH.refl _)<|.int _⟩
 ·rename_i x;obtain⟨v,rfl,hv⟩:=oH hx;cases dH hv;have hr:(if x.length<=640 then(PySem.intText? x).map D.int else none)=some d:=hr;by_cases hl:x.length<=640
  ·rw[if_pos hl] at hr;obtain⟨n,hn,rfl⟩:=omap hr;obtain⟨u,rfl,rx⟩:=vals1 r;obtain⟨t,rfl⟩:=rx;exact W.KIN.call_text hn hl ⟨.int n,H,I.tok _,⟨_,rfl⟩,q _ _ (aH.refl _)<|.int _⟩
  ·rw[if_neg hl] at hr;cases hr
 ·cases hr
end
section
def jK:D->List D->Option D
 | .str z,[.str y]=>some<|.bl<|fA z y
 |_,_=>none
theorem Ia:MtR X "str.startswith" (rGM (gx X) jK):=by
 intro π s σ H x vs v us Q I rx rv h;refine jU h λO d ds r m hx hy hr q=>?_;unfold jK at hr;split at hr
 ·rename_i z y;cases hr;cases dH hx;obtain⟨w,rfl,hw⟩:=oH hy;cases dH hw;obtain⟨t,rfl⟩:=rx;obtain⟨u,rfl,ru⟩:=rv.one;obtain⟨t2,rfl⟩:=ru;exact SC.startswith ⟨.bl _,H,I,rfl,q _ _ (aH.refl _)<|.bl _⟩
 ·cases hr
def iT:D->List D->Option D
 | .str z,[.str y]=>if z.length<=ai/\(y.length==0)=false then some (.tup [.str (dQ z y).1,.str (dQ z y).2.1,.str (dQ z y).2.2]) else none
 |_,_=>none
theorem yU:MtR X "str.partition" (rGM (gx X) iT):=by
 intro π s σ H x vs v us Q I rx rv h;refine jU h λO d ds r m hx hy hr q=>?_;unfold iT at hr;split at hr
 ·rename_i z y;obtain ⟨⟨h1,h2⟩,rfl⟩:=oif hr;cases dH hx;obtain ⟨w,rfl,hw⟩:=oH hy;cases dH hw;obtain ⟨t,rfl⟩:=rx;obtain ⟨u,rfl,ru⟩:=rv.one;obtain ⟨t2,rfl⟩:=ru;refine nL qS (pw _ _ _) PySem.F.entry_str_partition (PySem.F.args_str_partition_2 _ _) (meets_str_partition z y t t2 h2 h1) ?_;have go:∀(a b c:Str) (ta tb tc tk:Tok),(∀v H',aH H H'->DV (gx X) O H' v (.tup [.str a,.str b,.str c])->Q v H')->
    EP X π σ Q (.ref s.heap.objs.size) { s with toks:=tk,heap:=s.heap.push { cls:=.type "tuple",data:=.seq [.str a ta,.str b tb,.str c tc].toArray } }:=by
   intro a b c ta tb tc tk q;have I2:Inv X π σ (upd H s.heap.objs.size (.tup [.str a,.str b,.str c])) { s with toks:=tk,heap:=s.heap.push { cls:=.type "tuple",data:=.seq [.str a ta,.str b tb,.str c tc].toArray } }:=
    I.laid (t':=tk) (λb o e=>ag _ e) (aE _) (show cO X.prog X.w _ _ _ (.tup [.str a,.str b,.str c]) from ⟨by show 3<=ai;decide,[.str a ta,.str b tb,.str c tc],.cons ⟨ta,rfl⟩ (.cons ⟨tb,rfl⟩ (.cons ⟨tc,rfl⟩ .nil)),CG.new _ _⟩)
   exact ⟨.ref s.heap.objs.size,_,I2,rfl,q _ _ (bB (I.hok.fresh (aE _)) _) (.tup (SqU.of bu) (.cons (.str _) (.cons (.str _) (.cons (.str _) .nil))))⟩
  unfold dQ at q
  revert q
  cases cq z y 0 z.length 1 with
  |nil=>intro q;exact go _ _ _ _ _ _ _ q
  |cons i r=>intro q;exact go _ _ _ _ _ _ _ q
 ·cases hr
end
section
def uw:D->Option D
 | .str z=>if(og z).length<=ai then some (.str<|og z) else none
 |_=>none
theorem Be (h:FB X E e f):FE X E (.FormattedValue e 114 none pos) (fUn uw f):=by
 intro π s σ H Q I ⟨O0,M0,H0,ow,m,R,q⟩;refine wpAny_FormattedValue_repr<|thn (h π s σ H (λx H1=>aH H H1/\∃d r,DW (gx X) (Ow O0 ow) H1 x d/\uw d=some r/\∀v H',aH H H'->DV (gx X) (Ow O0 ow) H' v r->Q v H') I ⟨O0,M0,H0,ow,m,R,q.bind.imp (aH.refl _) λd q x H1 g1 hx=>?_⟩) λu s1 ⟨x,H1,I1,rx,g1,d,r,hx,e1,k⟩=>?_
 ·obtain⟨r,hr,k⟩:=q.ofO;exact⟨g1,d,r,hx,hr,k⟩
 ·match d,e1 with
  | .str z,e1=>
   obtain⟨hz,rfl⟩:=oif e1;cases dH hx;obtain⟨t,rfl⟩:=rx;exact wpAny_pyReprObj_str (formatField_str (λt' tk=>⟨.str<|og z,H1,I1.tok _,⟨t',rfl⟩,k _ _ g1<|.str _⟩) hz) hz
noncomputable def nD:D->List D->Option D
 | .str z,[.str y]=>if z.length+2<=ai/\(y.length==0)=false then some (.lst<|(lj z y).map D.str) else none
 |_,_=>none
theorem DY:∀zs:List Str,DVs G O H (zs.map V.str) (zs.map D.str)
 |[]=>.nil
 |z::zs=>.cons (.str z)<|DY zs
theorem zK:∀l:List (Str×Tok),Vals ((l.map (·.1)).map V.str) (yy l)
 |[]=>.nil
 |p::l=>.cons ⟨p.2,rfl⟩<|zK l
theorem An:MtR X "str.split" (rGM (gx X) nD):=by
 intro π s σ H x vs v us Q I rx rv h;refine jU h λO d ds r m hx hy hr q=>?_;unfold nD at hr;split at hr
 ·rename_i z y;obtain⟨⟨h1,h2⟩,rfl⟩:=oif hr;cases dH hx;obtain⟨w,rfl,hw⟩:=oH hy;cases dH hw;obtain⟨t,rfl⟩:=rx;obtain⟨u,rfl,ru⟩:=rv.one;obtain⟨t2,rfl⟩:=ru;have hn:(mf z (cq z y 0 z.length<|z.length+1) y.length).length<=ai:=by
   have e1:=StrLaws.occ_length_le z y 0 z.length<|z.length+1;rw[length_partsBetween];lia
  have go:∀(l:List (Str×Tok)) (tk:Nat),l.map (·.1)=lj z y->l.length<=ai->
    EP X π σ Q (.ref s.heap.objs.size) { s with toks:=tk,heap:=s.heap.push { cls:=.type "list",data:=.seq (yy l).toArray } }:=by
   intro l tk hl hz;rw[← hl] at q;have hz':((l.map (·.1)).map V.str).length<=ai:=by rw[cp,cp];exact hz
   have I2:=I.laid (t':=tk) (h':=s.heap.push { cls:=.type "list",data:=.seq (yy l).toArray }) (λb o e=>ag _ e) (aE _)<|show cO X.prog X.w _ _ _ (.lst<|(l.map (·.1)).map V.str) from⟨hz',yy l,_,zK l,aS _ rfl⟩;have hf:H s.heap.objs.size=none:=I.hok.fresh<|aE _;exact⟨.ref s.heap.objs.size,_,I2,rfl,Hx m q _ _ (bB hf _) hf ⟨_,bu,DY _⟩⟩
  cases c1:(decide (z.length<y.length)||decide (gN z<gN y))
  ·cases c2:(cq z y 0 z.length<|z.length+1).isEmpty
   ·refine nL iF (pw _ _ _) mM (mh _ _) (meets_str_split_sep z y t t2 c1 h2 c2 (by lia) hn) ?_;rw[strsFrom_eq];exact go (numbered s.toks _) _ ((numbered_texts _ _).trans ((if_neg<|ne_true_of_eq_false c1).trans<|if_neg<|ne_true_of_eq_false c2).symm) (by have:=congrArg sL<|numbered_texts s.toks<|mf z (cq z y 0 z.length<|z.length+1) y.length;rw[cp] at this;lia)
   ·exact nL iF (pw _ _ _) mM (mh _ _) (meets_str_split_not_found z y t t2 c1 h2 c2)<|go [(z,t)] s.toks ((if_neg<|ne_true_of_eq_false c1).trans<|if_pos c2).symm<|show 1<=ai by decide
  ·exact nL iF (pw _ _ _) mM (mh _ _) (meets_str_split_cannot_occur z y t t2 c1)<|go [(z,t)] s.toks (if_pos c1).symm<|show 1<=ai by decide
 ·cases hr
def Dr:D->D->Option D
 | .str z,.int n=>if 0<=n/\n<=1000/\z.length<=1000 then some (.str<|Txt.mul z n) else none
 |_,_=>none
theorem mulOk_of (h0:0<=n)(h1:n<=1000)(hz:z.length<=1000):MulOk z n:=by
 refine⟨by simp;lia,λp _=>?_,λp _=>?_⟩
 ·have:(1000:Int)<=(2^63-1)/n:=by
   rw[Int.le_ediv_iff_mul_le<|by lia]
   lia
  lia
 ·have:z.length*n.toNat<=1000*1000:=Nat.mul_le_mul hz (by lia)
  have e:ai=16777216:=by decide
  simp[Builtin.Str.tooLong,e]
  lia
theorem Rr:OpR X (h7 .Mult) (rG (gx X) Dr):=by
 intro π s σ H x y v u Q I rx ry h;refine jU h λO d e r m hx hy hr q=>?_;unfold Dr at hr;split at hr
 ·rename_i z n;obtain⟨⟨h0,h1,hz⟩,rfl⟩:=oif hr;cases dH hx;cases bY hy;obtain⟨t,rfl⟩:=rx;obtain⟨t2,rfl⟩:=ry;exact SB.mul (mulOk_of h0 h1 hz) λt' k=>Jl (tk:=k) I q
 ·cases hr
end
noncomputable def oM (f:D->Option Kt):List D->Option (List Kt)
 |[]=>some []
 |d::ds=>(f d).bind λk=>(oM f ds).map λks=>k::ks
def ktD:Nat->D->Option Kt
 |_,.int i=>some<|.k<|.inl i
 |_,.str x=>some<|.k<|.inr x
 |n+1,.tup ds=>(oM (ktD n) ds).map .t
 |_,_=>none
def yt:D->Option (List Kt)
 | .tup ds=>oM (ktD 7) ds
 |_=>none
noncomputable def eN:List (List Kt)->List D->List Kt->Option D
 |k'::ks,d::ds,k=>if k'=k then some d else eN ks ds k
 |_,_,_=>none
noncomputable def qZ:List (List Kt)->List D->List Kt->D->List D
 |k'::ks,d'::ds,k,d=>(if k'=k then d else d')::qZ ks ds k d
 |_,_,_,_=>[]
def qU (ks:List (List Kt))(ds:List D)(k:List Kt)(d:D):List (List Kt)×List D:=if ks.any (λx=>decide<|x=k)=true then(ks,qZ ks ds k d) else(ks++[k],ds++[d])
theorem CN {G:Gx}{O:Zaa}{H:Hp}{n:Nat}{f:D->Option Kt}(hf:∀{v d k},DV G O H v d->f d=some k->vW (KTp G.K) H n v k):∀{vs:List V} {ds:List D} {ks:List Kt},DVs G O H vs ds->oM f ds=some ks->pq (KTp G.K) H n vs ks
 |_,_,_,.nil,e=>by cases e;exact .nil
 |_,_,_,.cons (d:=d) (ds:=ds) h hs,e=>by
  have e:(f d).bind (λk=>(oM f ds).map λks=>k::ks)=some _:=e;obtain⟨k,e1,e2⟩:=d5.mp e;obtain⟨ks,e3,rfl⟩:=omap e2;exact .cons (hf h e1)<|CN hf hs e3
theorem VR {G:Gx}{O:Zaa}{H:Hp}:∀(n:Nat) {v:V} {d:D} {k:Kt},DV G O H v d->ktD n d=some k->vW (KTp G.K) H n v k
 |n,_,_,k,.int i,e=>by
  have:k=.k (.inl i):=by cases n<;>(rw[ktD] at e;exact(bX e).symm)
  subst this;exact vW.k (x:=.inl i)
 |n,_,_,k,.str x,e=>by
  have:k=.k (.inr x):=by cases n<;>(rw[ktD] at e;exact(bX e).symm)
  subst this;exact vW.k (x:=.inr x)
 |n+1,_,_,k,.tup h hs,e=>by
  rw[ktD] at e;obtain⟨ks,e3,rfl⟩:=omap e;exact .t h<|CN (λh e=>VR n h e) hs e3
 |0,_,_,k,.tup h hs,e=>by simp[ktD] at e
 |n,_,_,k,.non,e=>by cases n<;>simp[ktD] at e
 |n,_,_,k,.bl _,e=>by cases n<;>simp[ktD] at e
 |n,_,_,k,.adr _,e=>by cases n<;>simp[ktD] at e
 |n,_,_,k,.ins _ _ _ _ _ _,e=>by cases n<;>simp[ktD] at e
 |n,_,_,k,.exc ..,e=>by cases n<;>simp[ktD] at e
 |n,_,_,k,.lst _ _,e=>by cases n<;>simp[ktD] at e
 |n,_,_,k,.dct _ _ _ _ _,e=>by cases n<;>simp[ktD] at e
 |n,_,_,k,.dcu _ _ _ _ _,e=>by cases n<;>simp[ktD] at e
 |n,_,_,k,.dcf _ _ _ _,e=>by cases n<;>simp[ktD] at e
theorem wj {G:Gx}{O:Zaa}{H:Hp}{v:V}{d:D}{k:List Kt}(h:DW G O H v d)(e:yt d=some k):∃b,v=.ref b/\TrT (KTp G.K) H b k:=by
 cases d with
 |tup ds=>
  obtain⟨b,xs,rfl,hq,hd⟩:=wz h;exact⟨b,rfl,xs,hq,CN (λh e=>VR 7 h e) hd e⟩
 |_=>cases e
theorem Bh {G:Gx}{O:Zaa}{H:Hp}{k:List Kt}:∀{ι:List (List Kt×V)} {ds:List D},DVs G O H (ι.map (·.2)) ds->
  (∃v d,lL ι k=some v/\eN (ι.map (·.1)) ds k=some d/\DV G O H v d)\/(lL ι k=none/\eN (ι.map (·.1)) ds k=none)
 |[],_,.nil=>.inr ⟨rfl,rfl⟩
 |(k',v)::ι,_,.cons (d:=d) h hs=>by
  by_cases q:k'=k
  ·exact .inl ⟨v,d,qt q,by simp[eN,q],h⟩
  ·rw[pU (p:=(k',v)) q];simp only[bo,eN,if_neg q];exact Bh hs
noncomputable def dcK:D->Option (List (List Kt)×List D)
 | .dcu ks ds=>some (ks,ds)
 | .dcf ks ds=>some (ks,ds)
 |_=>none
theorem Ye {G:Gx}{O:Zaa}{H:Hp}{v:V}{d:D}{ks:List (List Kt)}{ds:List D}(h:DW G O H v d)(e:dcK d=some (ks,ds)):∃a ι,v=.ref a/\Rd H a (.dT (KTp G.K) ι)/\ι.map (·.1)=ks/\DVs G O H (ι.map (·.2)) ds:=by
 cases d with
 |dcu ks' ds'=>
  cases e;obtain⟨p,ι,ws,rfl,hp,e1,rfl,hd⟩:=Oj h;exact⟨p,ι,rfl,.inl hp,e1,hd⟩
 |dcf ks' ds'=>
  cases e;rcases h with h|⟨_,_,_,h⟩
  ·cases h with
   |dcf e1 e2 e3 hs=>subst e3;exact⟨_,_,rfl,.inr ⟨_,e1⟩,e2,hs⟩
  ·exact h.elim
 |_=>cases e
section
variable {X:Cx}{E:XK}
def DK (d k:D):Option D:=(dcK d).bind λc=>(yt k).bind<|eN c.1 c.2
theorem Ui {G:Gx}{O:Zaa}{H:Hp}{k:List Kt}{ι:List (List Kt×V)}{ds:List D}(hd:DVs G O H (ι.map (·.2)) ds):(lL ι k).isSome=(eN (ι.map (·.1)) ds k).isSome:=by
 rcases Bh (k:=k) hd with⟨_,_,a,b,_⟩|⟨a,b⟩<;>simp[a,b]
variable {a b:Expr}{fa fb:Zae}{pos:Pos}
theorem Ja {j:Nat}(hr:fB j X.A)(ha:FB X E a fa)(hb:FB X E b fb)(hs:RX b):FE X E (.Subscript a b pos) (aA DK fa fb):=
 bA (JQ (m9 hr) ha hb hs) λσ H Q hE=>xq5 hE λO0 M0 H0 ow m R q=>two (r:=λx y H Q=>∃a v,x=.ref a/\Il X.K H a y (some v)/\Q v H) R (K:=λz H=>∀v H',aH H H'->DV (gx X) (Ow O0 ow) H' v z->Q v H') q (λ_ _ k g v H' g' d=>k v H' (g.trans g') d) λx y d e H' g hx hy q' R'=>by
  obtain⟨r,hr,k⟩:=q'.ofO;obtain⟨⟨ks,ds⟩,ec,hr⟩:=d5.mp hr;obtain⟨ky,e2,e3⟩:=d5.mp hr;obtain⟨p,ι,rfl,hp,rfl,hd⟩:=Ye hx ec;obtain⟨b,rfl,hb⟩:=wj hy e2;rcases Bh (k:=ky) hd with⟨v,d,a,c,dv⟩|⟨a,c⟩
  ·have e3:eN (ι.map (·.1)) ds ky=some r:=e3;rw[c] at e3;cases e3;exact⟨p,v,rfl,.inr ⟨ι,ky,b,hp,rfl,hb,a.symm⟩,k _ _ (aH.refl _) dv⟩
  ·have e3:eN (ι.map (·.1)) ds ky=some r:=e3;rw[c] at e3;cases e3
noncomputable def Q6:Zae:=λ_=>.ok<|.dcu [] []
theorem RM:FN X E (.Dict [] [] pos) Q6:=bA Ng λσ H Q ⟨O0,M0,H0,ow,m,R,q⟩ p hp=>q p _ (bB hp _) hp ⟨[],[],bu,rfl,rfl,.nil⟩
end
theorem wW (k:List Kt)(v:V):∀ι:List (List Kt×V),(ι.map λkv=>if kv.1=k then(kv.1,v) else kv).map (·.1)=ι.map (·.1)
 |[]=>rfl
 |p::ι=>by
  rw[bo,bo,bo,wW k v ι];split<;>rfl
theorem sO {G:Gx}{O:Zaa}{H:Hp}{k:List Kt}{v:V}{d:D}(h:DV G O H v d):∀{ι:List (List Kt×V)} {ds:List D},DVs G O H (ι.map (·.2)) ds->DVs G O H ((ι.map λkv=>if kv.1=k then(kv.1,v) else kv).map (·.2)) (qZ (ι.map (·.1)) ds k d)
 |[],_,.nil=>.nil
 |(k',v')::ι,_,.cons h1 hs=>by
  simp only[bo,qZ];split
  ·exact .cons h<|sO h hs
  ·exact .cons h1<|sO h hs
theorem Tv {G:Gx}{O:Zaa}{H:Hp}{k:List Kt}{v:V}{d:D}{ι:List (List Kt×V)}{ds:List D}(h:DV G O H v d)(hs:DVs G O H (ι.map (·.2)) ds):
  (putK ι k v).map (·.1)=(qU (ι.map (·.1)) ds k d).1/\DVs G O H ((putK ι k v).map (·.2)) (qU (ι.map (·.1)) ds k d).2:=by
 have e:(ι.any λkv=>decide<|kv.1=k)=(ι.map (·.1)).any λx=>decide (x=k):=by rw[List.any_map];rfl
 unfold putK qU;rw[e];split
 ·exact⟨wW k v ι,sO h hs⟩
 ·exact⟨by simp,by rw[eM];exact jg hs<|.cons h .nil⟩
noncomputable def HR (m:Me)(i:Nat):Option (Bool×List (List Kt)×List D):=match m[i]? with
 |some (.ow<|.dcu ks ds)=>some (true,ks,ds)
 |some (.io<|.dcu ks ds)=>some (false,ks,ds)
 |_=>none
noncomputable def sY (m:Me)(i:Nat)(k:Bool)(ks:List (List Kt))(ds:List D):Me:=m.set i<|if k then .ow (.dcu ks ds) else .io (.dcu ks ds)
section
variable {G:Gx}{O0 M0:Zaa}{H0:Hp}{ow:Os}{σ:L2.St}{H:Hp}{m:Me}
theorem Iv (R:Rel G O0 M0 H0 ow σ H m){i:Nat}{k:Bool}{ks:List (List Kt)}{ds:List D}(e:HR m i=some (k,ks,ds)):∃a ι,ow i=some a/\σ[i]? = some (some<|.ref a)/\H a=some (.dT (KTp G.K) ι)/\ι.map (·.1)=ks/\DVs G (Ow O0 ow) H (ι.map (·.2)) ds/\((m[i]? = some (.ow<|.dcu ks ds)/\k=true)\/(m[i]? = some (.io<|.dcu ks ds)/\k=false)):=by
 unfold HR at e;split at e
 ·rename_i q;cases e;obtain⟨a,e1,e2,e3,ι,vs,e4,e5,rfl,e6⟩:=R.slot i _ q;exact⟨a,ι,e1,e3,e4,e5,e6,.inl ⟨q,rfl⟩⟩
 ·rename_i q;cases e;obtain⟨a,e1,e2,e3,ι,vs,e4,e5,rfl,e6⟩:=R.slot i _ q;exact⟨a,ι,e1,e3,e4,e5,e6,.inr ⟨q,rfl⟩⟩
 ·cases e
theorem fX.sY {i:Nat}{k:Bool}{a:Addr}{ks ls:List (List Kt)}{ds es:List D}{ι:List (List Kt×V)}(R:fX G O0 M0 H0 ow σ H m)(ho:ow i=some a)(hm:(m[i]? = some (.ow<|.dcu ks ds)/\k=true)\/(m[i]? = some (.io<|.dcu ks ds)/\k=false))
  (hk:ι.map (·.1)=ls) (hd:DVs G (Ow O0 ow) H (ι.map (·.2)) es):fX G O0 M0 H0 ow σ (L2.upd H a<|.dT (KTp G.K) ι) (F.sY m i k ls es)/\Go O0 ow H ow (L2.upd H a<|.dT (KTp G.K) ι):=by
 have oa:Ow O0 ow a:=.inr ⟨i,ho⟩;have kp:Kp (Ow O0 ow) H (L2.upd H a<|.dT (KTp G.K) ι):=λb u e n=>vg b u e λz=>n<|z▸oa;have ov:OV G (Ow O0 ow) (L2.upd H a<|.dT (KTp G.K) ι) a (.dcu ls es):=⟨ι,_,L2.bu,hk,rfl,hd.kp R.mutk kp⟩;refine⟨R.chg (d:=.dcu ks ds) (d':=.dcu ls es) ho vg ov ?_,Go.chg ho vg ov⟩;rcases hm with⟨e,rfl⟩|⟨e,rfl⟩
 ·exact .inl ⟨e,rfl⟩
 ·exact .inr ⟨e,rfl⟩
end
def Pj (i:Nat)(fk fv:Zae):Zab:=λm=>(fv m).bind λd=>(ofO<|HR m i).bind λo=>(fk m).bind λk=>(ofO<|yt k).bind λk=>
 if o.2.1.length<ai then .ok (.nx,sY m i o.1 (qU o.2.1 o.2.2 k d).1 (qU o.2.1 o.2.2 k d).2) else .stuck
section
variable {X:Cx}{E:XK}{e ke:Expr}{f fk:Zae}{pos spos np:Pos}{x:Str}
theorem Ux {jj:Nat}(i:Nat)(hr:fB jj X.A)(he:FE X E e f)(hk:FE X E ke fk)(hN:X.N[i]? = some x:=by rfl)(hv:Vis X.env.scope x:=by first|exact a7 rfl|exact j3 (a7 rfl)|exact j3 (j3 rfl))(hd:(x==("__debug__":Str))=false:=by decide)(hcd:(x==("__classdict__":Str))=false:=by decide)
  (hs:gs e (some<|.Subscript (.Name x np) ke spos) pos.line X.env=pure false:=by rfl):FS X E (.Assign [.Subscript (.Name x np) ke spos] e pos) (Pj i fk f):=
 dJ (Tt (m9 hr) (qx hN hv hd hcd) hk he hs) λW σ H hE=>xq5 hE λO0 M0 H0 ow m R q=>
  ⟨O0,M0,H0,ow,m,R.toRel,(Ss.pu R.toRel q).imp (aH.refl _) λd q v H1 g1 hv=>by
   obtain⟨o,ho,q⟩:=Ss.ofO q;obtain⟨k,ks,ds⟩:=o;have R1:=R.mono g1;obtain⟨a,ι,e1,e2,e3,e4,e5,e6⟩:=Iv R1.toRel ho;refine⟨_,e2,O0,M0,H0,ow,m,R1.toRel,(Ss.pu R1.toRel<|q.go<|Go.refl g1).imp (aH.refl _) λdk q vk H2 g2 hvk=>?_⟩;obtain⟨ky,h1,q⟩:=Ss.ofO q;obtain⟨b,rfl,hb⟩:=wj (.inl hvk) h1;by_cases hz:ks.length<ai
   ·rw[if_pos hz] at q;have R2:=R1.mono g2;obtain⟨p1,p2⟩:=Tv (k:=ky) (hv.mono g2)<|e5.mono g2;rw[e4] at p1 p2;obtain⟨R3,g3⟩:=R2.sY e1 e6 p1 p2;exact⟨a,_,rfl,Ox.t (g2 _ _ e3) hb (by rw[← cp (f:=(·.1)),e4];exact hz),q _ _ _ R3<|(Go.refl g2).trans g3⟩
   ·rw[if_neg hz] at q;exact q.elim⟩
end
section
end
section
end
section
variable {X:Cx}{E:XK}{rest:List Stmt}{k:Zab}
end
section
variable {X:Cx}{tg:Expr}
end
section
end
section
variable {pr:bq}{wo:dc}{A:cK}{R:Result->aI->Prop}{I:Addr}{fp wr:List Addr}{G:Array n5->Array n5->Prop}{n:Nat}{P:Nat->ay->Prop}{St:Nat->aI->Prop}
end
section
end
section
end
structure Wr (p:Prop):Prop where
 out:p
section
variable {X:Cx}{E:XK}{e a b c ke:Expr}{es:List Expr}{st:Stmt}{rest sa sb:List Stmt}{f fa fb fk:Zae}{fs:Zad}{ft:Zaf}{gg k ga gb:Zab}{pos pos' apos χ np spos p:Pos}{i:Nat}{x:Str}
theorem bH (h1:Wr (FS X E st gg))(h2:Wr (FSs X E rest k)):Wr (FSs X E (st::rest)<|aP gg k):=⟨aO h1.out h2.out⟩
theorem j5 (h1:Wr (FS X E st gg)):Wr (FSs X E [st] gg):=⟨aR h1.out⟩
theorem Qs (hc:Wr (FT X E c ft))(ha:Wr (FSs X E sa ga))(hb:Wr (FSs X E sb gb)):Wr (FS X E (.If c sa sb pos)<|gIf ft ga gb):=⟨iu hc.out ha.out hb.out⟩
theorem gA (hN:X.N.Nodup)(hi:X.N[i]? = some x)(hx:Loc X.env.scope x)(he:Wr (FE X E e f))(hs:gs e (some<|.Name x pos') pos.line X.env=pure false:=by rfl)
  (hf:X.fn x=true\/X.env.scope.names.lookup x=some .local:=by first|exact .inl rfl|exact .inr rfl|assumption):Wr (FS X E (.Assign [.Name x pos'] e pos)<|aX i f):=⟨cQ hN hi hx he.out hs hf⟩
theorem pA (hN:X.N.Nodup)(hi:X.N[i]? = some x)(hx:Loc X.env.scope x)(he:Wr (FN X E e f))(hs:gs e (some<|.Name x pos') pos.line X.env=pure false:=by rfl)
  (hf:X.fn x=true\/X.env.scope.names.lookup x=some .local:=by first|exact .inl rfl|exact .inr rfl|assumption):Wr (FS X E (.Assign [.Name x pos'] e pos)<|dO i f):=⟨uP hN hi hx he.out hs hf⟩
theorem ue (he:Wr (FE X E e f)):Wr (FS X E (.Return (some e) pos)<|bC f):=⟨cu he.out⟩
theorem Jo (i:Nat)(he:Wr (FE X E e f))(hN:X.N[i]? = some x:=by rfl)(hv:Vis X.env.scope x:=by first|exact a7 rfl|exact j3 (a7 rfl)|exact j3 (j3 rfl))(hd:(x==("__debug__":Str))=false:=by decide)(hcd:(x==("__classdict__":Str))=false:=by decide)
  (ω:iX (.Name x np) "append" X.env (eval (.Name x np) X.env)=eval (.Name x np) X.env:=by rfl)
  (ν:((iq χ<|av [e] X.env).all (λx=>!x.1)&&(yi χ<|p9 [] X.env).all (λx=>x.1.isSome)&&decide ([e].length+([]:List qc).length+(if([]:List qc).isEmpty then 0 else 1)<30))=true:=by rfl)
  (η:(apos.endLine==χ.line)=true:=by rfl) (hs:av [e] X.env=(false,eval e X.env)::av [] X.env:=by rfl) (hplain:(iq χ<|av [] X.env).any (·.1)=false:=by rfl)
  (θ:gs (.Call (.Attribute (.Name x np) "append" apos) [e] [] χ) none pos.line X.env=pure false:=by rfl):
  Wr (FS X E (.Expr (.Call (.Attribute (.Name x np) "append" apos) [e] [] χ) pos)<|eF i f):=⟨uO i he.out hN hv hd hcd ω ν η hs hplain θ⟩
theorem aG (ha:Wr (FE X E e fa))(hr:Wr (FAE X E es fs))(hs:av (e::es) X.env=(false,eval e X.env)::av es X.env:=by rfl):Wr (FAE X E (e::es)<|aj fa fs):=⟨ao ha.out hr.out hs⟩
theorem Jq (ha:Wr (FB X E e fa))(hr:Wr (FAB X E es fs))(hs:av (e::es) X.env=(false,eval e X.env)::av es X.env:=by rfl):Wr (FAB X E (e::es)<|aj fa fs):=⟨aQ ha.out hr.out hs⟩
theorem bZ (h:Wr (FAE X E es fs)):Wr (FE X E (.Tuple es x1 pos)<|aL fs):=⟨bD h.out⟩
theorem fP (h:Wr (FAE X E es fs)):Wr (FN X E (.List es pos)<|bI fs):=⟨je h.out⟩
theorem wZ (ha:Wr (FB X E a fa))(hb:Wr (FB X E b fb)):Wr (FN X E (.BinOp a .Add b pos)<|aA fD fa fb):=⟨Xf ha.out hb.out⟩
theorem dC (h:Wr (FN X E e f)):Wr (FE X E e f):=⟨eX h.out⟩
theorem aU (h:Wr (FE X E e f)):Wr (FB X E e f):=⟨aD h.out⟩
theorem bf (ho:OpR X (h7 op) (rG (gx X) g))(ha:Wr (FB X E a fa))(hb:Wr (FB X E b fb)):Wr (FE X E (.BinOp a op b pos)<|aA g fa fb):=⟨b7 ho ha.out hb.out⟩
theorem sI (ho:IxR X (rG (gx X) g))(ha:Wr (FB X E a fa))(hb:Wr (FB X E b fb))(hs:BJ b):Wr (FE X E (.Subscript a b pos)<|aA g fa fb):=⟨bM ho ha.out hb.out hs⟩
theorem KJ (ho:OpR X (dk op) (rGB (gx X) g))(ha:Wr (FB X E a fa))(hb:Wr (FB X E b fb))(hm:iP op b=false):Wr (FT X E (.Compare a [op] [b] pos)<|aY g fa fb):=⟨d7 ho ha.out hb.out hm⟩
theorem Jy (hc:fL X (.type T) (rGC (gx X) g))(hg:Gl X x)(hm:X.mg x=none)(hv:ck x=some (.type T))(ha:Wr (FAB X E (e::es) fs))(hn:x≠"__name__":=by decide)(hdb:(x==("__debug__":Str))=false:=by decide)
  (he:av (e::es) X.env=(false,eval e X.env)::av es X.env:=by rfl) (ζ:(iq pos<|av es X.env).any (·.1)=false:=by rfl):Wr (FE X E (.Call (.Name x p) (e::es) [] pos)<|aV g fs):=⟨gU hc hg hm hv ha.out hn hdb he ζ⟩
end
section
variable {pr:bq}{wo:dc}{A:cK}{E:Zs}{s:aI}{κ:Type}[DecidableEq κ]{kn:HeapKind pr wo κ}
theorem RQ (hu:kn.room A)(hk:kn.is s.heap k a)(hm:s.heap.DictOfH kn d xs)(hz:xs.length<=ai)
  (old:∀p,zD xs k=some p->Q p.2 { s with toks:=s.toks+kn.draws k })
  (new:zD xs k=none->∀h',h'.DictOfH kn d (xs++[(k,a,v)])->h9 d s.heap h'->Q v { s with heap:=h',toks:=s.toks+kn.draws k }):
  br (b0 pr wo) A (w9 d (.ref a) v) Q E s:=by
 refine zR (id hm) λo es ep ho hc hd he hi hn=>?_;unfold w9;refine fw<|ae<|kn.pyHash hu hk<|ae<|wpAny_dictFind_heap (s:={ s with toks:=s.toks+kn.draws k }) hu hk ho hd he hi hn (λno=>?_) λj p hj=>?_
 ·have h0:=atKey_none_of_get no;have nk:=not_mem_keys_of_get no;have es1:=size_of_entries he;refine ae (sj<|ae<|wpAny_updateDictKeys (hz:=by lia) (s:={ s with toks:=s.toks+kn.draws k }) ho hd (ah<|new h0 _ ⟨_,_,ep+1,eK _ ho<|Obj.isFreed_of_dict<|wm hd _,hc.mapDictKeys _,wm hd _,?_,λy hy=>?_,?_⟩<|gL ..))
  ·simp[he,entryOfKey]
  ·rcases gT.mp hy with z|z
   ·exact kn.keeps (hi y z) ho hd<|gL ..
   ·rw[b4.mp z];exact kn.keeps hk ho hd<|gL ..
  ·rw[eM,List.nodup_append];refine⟨hn,by simp,λy hy z hz' e=>nk ?_⟩;have e2:z=k:=b4.mp hz';rw[← e2,← e];exact hy
 ·refine ae<|nN (s:={ s with toks:=s.toks+kn.draws k }) ho hd ?_;rw[entry_at he j,hj];exact ae<|sj<|ah<|old p<|atKey_of_get hn hj
theorem O7 (hu:kn.room A.in1)(hk:kn.is s.heap k a)(hm:s.heap.DictOfH kn d xs)(hz:xs.length<=ai)(hd:(d==gy)=false)
  (old:∀p,zD xs k=some p->Q p.2 { s with toks:=s.toks+kn.draws k })
  (new:zD xs k=none->∀h',h'.DictOfH kn d (xs++[(k,a,v)])->h9 d s.heap h'->Q v { s with heap:=h',toks:=s.toks+kn.draws k }):
  br (b0 pr wo) A (call (.builtin "dict.setdefault") [.ref d,.ref a,v]) Q E s:=by
 refine fS pk hm.typeIs PySem.F.entry_dict_setdefault ?_<|PySem.F.args_dict_setdefault_3 _ _ _;unfold xk.«dict.setdefault»;refine ae ?_;unfold Builtin.Dict.keyAndDefault;refine ae<|oy hm.typeIs ?_;show br _ _ (pure (d,bE a,some v)) _ _ s;refine ah ?_;show br _ _ (if(d==gy)=true then _ else(w9 d (.ref a) v >>= _)) _ _ s;rw[if_neg (by rw[hd];exact aw)];exact ae<|RQ hu hk hm hz (λp e=>ah ⟨p.2,rfl,old p e⟩) λe h' x y=>ah ⟨v,rfl,new e h' x y⟩
end
def aaJ (K:a6)(td ty tx:TE):TE:=λσ H Q=>td σ H λx H1=>∃a,x=.ref a/\IsD K H1 a/\ty σ H1 λy H2=>tx σ H2 λz H3=>∃ι k b,H3 a=some (.dT (KTp K) ι)/\y=.ref b/\TrT (KTp K) H3 b k/\ι.length<ai/\
 (∀v,lL ι k=some v->Q v H3)/\(lL ι k=none->Q z (upd H3 a<|.dT (KTp K)<|ι++[(k,z)]))
section
theorem W6 (hu:X.A.units+16<mn)(ho:PE X o td)(he:PE X e ty)(hf:PE X f tx)(m:M2 X o "setdefault" apos e f χ):PE X (.Call (.Attribute o "setdefault" apos) [e,f] [] χ) (aaJ X.K td ty tx):=by
 intro π s σ H Q I h;refine wpAny_Call_method m.base m.few m.line sN pk PySem.F.type_dict_setdefault<|thn (ho π s σ H _ I h) λu s1 hE=>?_;obtain⟨x,H1,I1,rx,a,ex,d,q1⟩:=hE;subst ex;cases(show u=bE a from rx);obtain⟨t1,t2,_⟩:=Wm I1 d;refine⟨t1,t2,?_⟩;rw[m.trees];refine nv rfl (pd (mw (thn (he π s1 σ H1 _ I1 q1) λiv s2 hE=>xq2 hE λy H2 I2 ry q2=>
  mw (thn (hf π s2 σ H2 _ I2 q2) λfv s3 hE=>sk ?_))))
 obtain⟨z,H3,I3,rz,ι,k,b,e3,ey,eb,l,q3,q4⟩:=hE;subst ey;cases(show iv=bE b from ry);obtain⟨sz,hd,xs,rel,dd⟩:=Qx (wR I3) I3.hok e3;have hz:xs.length<=ai:=by rw[← kS rel];exact sz
 have rv:=rel.val k;refine O7 (qL hu) (vd I3 eb) dd hz hd (λp hp=>?_) λhn h' dd' hs=>?_
 ·rw[hp] at rv;cases ev:lL ι k with
  |none=>rw[ev] at rv;cases rv
  |some v=>
   rw[ev] at rv;exact⟨v,H3,I3.tok _,rv,q3 v ev⟩
 ·rw[hn] at rv;cases ev:lL ι k with
  |some v=>rw[ev] at rv;cases rv
  |none=>
   have rp:=rel.put k eb rz;rw[Nv _ ev,storedH_new hn] at rp;refine zR dd' λq es ep hq h2 h3 h4 _ h5=>?_;refine⟨z,upd H3 a<|.dT (KTp X.K)<|ι++[(k,z)],ux I3 (by rw[e3];exact g9) hs ⟨q,hq⟩ ⟨by rw[a9,eJ];lia,hd,_,rp.keeps λc ys ec=>?_,q,es,ep,hq,h2,h3,h4,h5⟩,rz,q4 ev⟩;rw[bT<|Ol ec e3 λz=>nomatch z];exact ec
end
def U8 (i:Nat)(fk fv:Zae):Zab:=λm=>(ofO<|HR m i).bind λo=>(fk m).bind λk=>(fv m).bind λd=>(ofO<|yt k).bind λk=>
 if o.2.1.length<ai then .ok (.nx,if(eN o.2.1 o.2.2 k).isSome then m else sY m i o.1 (o.2.1++[k]) (o.2.2++[d])) else .stuck
section
theorem Xq (i:Nat)(hr:fB jj X.A)(hk:FE X E ke fk)(he:FE X E e f)(hm:M2 X (.Name x np) "setdefault" apos ke e χ)(hN:X.N[i]? = some x:=by rfl)(hv:Vis X.env.scope x:=by first|exact a7 rfl|exact j3 (a7 rfl)|exact j3 (j3 rfl))(hd:(x==("__debug__":Str))=false:=by decide)(hcd:(x==("__classdict__":Str))=false:=by decide)
  (θ:gs (.Call (.Attribute (.Name x np) "setdefault" apos) [ke,e] [] χ) none pos.line X.env=pure false:=by rfl):FS X E (.Expr (.Call (.Attribute (.Name x np) "setdefault" apos) [ke,e] [] χ) pos) (U8 i fk f):=
 dJ (v9 (W6 (m9 hr) (qx hN hv hd hcd) hk he hm) θ) λW σ H hE=>xq5 hE λO0 M0 H0 ow m R q=>by
  obtain⟨o,ho,q⟩:=Ss.ofO q;obtain⟨k,ks,ds⟩:=o;refine Rg (Iv R.toRel ho) λa ι e1 e2 e3 e4 e5 e6=>?_;refine⟨_,e2,a,rfl,.inr ⟨ι,.inl e3⟩,O0,M0,H0,ow,m,R.toRel,(Ss.pu R.toRel q).imp (aH.refl _) λdk q vk H1 g1 hvk=>?_⟩;have R1:=R.mono g1;refine⟨O0,M0,H0,ow,m,R1.toRel,(Ss.pu R1.toRel<|q.go<|Go.refl g1).imp (aH.refl _) λd q v H2 g2 hv=>?_⟩;obtain⟨ky,h1,q⟩:=Ss.ofO q;obtain⟨b,rfl,hb⟩:=wj (.inl<|hvk.mono g2) h1;have R2:=R1.mono g2;have e3':=g2 _ _<|g1 _ _ e3;have e5':=(e5.mono g1).mono g2;have uf:=Ui (k:=ky) e5';rw[e4] at uf;by_cases hz:ks.length<ai
  ·rw[if_pos hz] at q;refine⟨ι,ky,b,e3',rfl,hb,by rw[← cp (f:=(·.1)),e4];exact hz,λv' ev=>?_,λev=>?_⟩
   ·rw[ev] at uf;rw[← uf] at q;exact q _ _ _ R2<|Go.refl g2
   ·rw[ev] at uf;rw[← uf] at q;obtain⟨R3,g3⟩:=R2.sY (ls:=ks++[ky]) (es:=ds++[d]) (ι:=ι++[(ky,v)]) e1 e6 (by simp[e4]) (by rw[eM];exact jg e5'<|.cons hv .nil);exact q _ _ _ R3<|(Go.refl g2).trans g3
  ·rw[if_neg hz] at q;exact q.elim
end
def vQ (h:Heap)(d:Addr)(es:Array DictEntry)(ep:Nat):Prop:=∃o,h.get? d=some o/\o.ExactDict/\o.data=.dict es ep
section
variable {prog:bq}{w:dc}{A:cK}{E:Zs}{s:aI}{d it v:Addr}{es:Array DictEntry}{ep i:Nat}
theorem vQ.ty (x:vQ s.heap d es ep):s.TypeIs (.ref d) "dict":=let⟨o,h,c,_⟩:=x;⟨o,h,c.1⟩
theorem vQ.up (x:vQ h d es ep)(k:∀o,h.get? d=some o->h'.get? d=some o):vQ h' d es ep:=let⟨o,e,r⟩:=x;⟨o,k o e,r⟩
theorem O4 (nd:(d==gy)=false)(x:vQ s.heap d es ep)
  (k:Q (.ref s.heap.objs.size) { s with heap:=s.heap.push { cls:=.type "dict_values",data:=.fields #[.ref d] } }):br (b0 prog w) A (call (.builtin "dict.values") [.ref d]) Q E s:=by
 refine fS sx x.ty PySem.F.entry_dict_values ?_<|PySem.F.args_dict_values_1 _;refine ae ?_;unfold Builtin.Dict.noArgs;refine ae<|oy x.ty<|show br _ _ (pure d) _ _ s from ah ?_;show br _ _ (vj d >>= _) _ _ s;unfold vj;rw[if_neg (λz=>by rw[nd] at z;cases z)];exact ae<|ah<|ae<|ef<|ah ⟨_,rfl,k⟩
theorem Z8 (hv:s.heap.IsValuesView v d)(x:vQ s.heap d es ep)
  (k:Q (.ref s.heap.objs.size) { s with heap:=s.heap.push { cls:=.type "dict_valueiterator",data:=.fields #[.ref d,.int 0 0,.int es.size 0,.int ep 0] } }):br (b0 prog w) A (AA<|.ref v) Q E s:=by
 obtain⟨q,hq,hc,hf⟩:=id hv;obtain⟨o,ho,hx,ht⟩:=id x;have no:kD "dict_valueiterator" = false:=by decide
 refine wpAny_pyIter_slot hv.typeIs oQ<|fS oQ hv.typeIs PySem.F.entry_dict_values_iter ?_<|PySem.F.args_dict_values_iter_1 _;unfold xk.«dict_values.__iter__»;refine ae<|ah<|ae ?_;unfold Builtin.Dict_items.dictOf;refine ae<|eB hq hf (x:=.ref d) rfl<|ah<|ae ?_;unfold Builtin.Dict_items.newIterator;refine ae<|nN ho ht<|ae<|vt ho ht ?_;simp only[no,g7,if_false];exact ef<|ah ⟨_,rfl, "dict_valueiterator",_,⟨_,aS _ rfl,rfl⟩,d4.lookup,by simpa[nc] using k⟩
theorem aaq (hit:s.heap.IsValIter it d i es.size ep)(x:vQ s.heap d es ep)
  (lt:i<es.size) (go:∀h',h'.IsValIter it d (i+1) es.size ep->h9 it s.heap h'->Q (some es[i].val) { s with heap:=h' }):br (b0 prog w) A (t9<|.ref it) Q E s:=by
 obtain⟨q,hq,hc,hf⟩:=id hit;obtain⟨o,ho,hx,ht⟩:=id x;have ty:=hit.typeIs;have e1:es[i]? = some es[i]:=rX lt;have no:kD "dict_valueiterator" = false:=by decide
 have turned:(s.heap.update it<|i0 (·.setIfInBounds 1 (nc<|(i:Int)+1))).IsValIter it d (i+1) es.size ep:=
  ⟨_,eK _ hq<|uu<|mB hf _,(Obj.cls_mapFields ..).trans hc,by rw[mB hf];simp[nc]⟩
 have fin:=go _ turned<|gL ..;unfold t9;refine ae<|sP<|h8 (name:=af "__next__") ty d4<|fS d4 ty k9 ?_<|k6 _;refine ae<|ah<|ae<|ae ?_
 first
 |refine ae (hV ty<|ah<|ae<|r6 hq hf ?_)
 |refine ae (kc ty<|ah<|ae<|r6 hq hf ?_)
 simp only[no,g7,if_false];show br _ _ (if(bE d==dy)=true then _ else _) _ _ s;rw[if_neg λz=>by cases(show false=true from z)];refine ae<|ah<|ae<|nN ho ht ?_;rw[if_neg<|by simp];refine ae<|ah<|ae<|vt ho ht ?_;rw[if_neg<|by simp];refine ah ?_;simp only[show ¬((i:Int)<0) by lia,if_false,nV,e1];refine ae ?_
 first
 |refine ae (hV ty<|ah<|ae<|kN ty ?_)
 |refine ae (kc ty<|ah<|ae<|kN ty ?_)
 show br _ _ (setField (.ref it) 1 (nc<|(i:Int)+1) >>= _) _ _ s;refine ae<|ij hq hf (by simp)<|ae<|fw ?_;refine ae<|kN (s:={ s with heap:=s.heap.update it (i0 (·.setIfInBounds 1 (nc<|(i:Int)+1))) }) turned.typeIs ?_;refine ae<|kN (s:={ s with heap:=s.heap.update it (i0 (·.setIfInBounds 1 (nc<|(i:Int)+1))) }) turned.typeIs ?_;exact(show br _ _ (pure es[i].val) _ _ _ from ah (ah ⟨_,rfl,ah fin⟩))
theorem Li (hh:A.handled=none)(hit:s.heap.IsValIter it d es.size es.size ep)(x:vQ s.heap d es ep)
  (go:∀h',xA it s.heap h'->Q none { s with heap:=h' }):br (b0 prog w) A (t9<|.ref it) Q E s:=by
 obtain⟨q,hq,hc,hf⟩:=id hit;obtain⟨o,ho,hx,ht⟩:=id x;have ty:=hit.typeIs;have e1:es[es.size]? = none:=Array.getElem?_eq_none<|aE _;have no:kD "dict_valueiterator" = false:=by decide
 unfold t9;refine ae<|sP<|h8 (name:=af "__next__") ty d4<|fS d4 ty k9 ?_<|k6 _;refine ae<|ah<|ae<|ae ?_
 first
 |refine ae (hV ty<|ah<|ae<|r6 hq hf ?_)
 |refine ae (kc ty<|ah<|ae<|r6 hq hf ?_)
 simp only[no,g7,if_false];show br _ _ (if(bE d==dy)=true then _ else _) _ _ s;rw[if_neg λz=>by cases(show false=true from z)];refine ae<|ah<|ae<|nN ho ht ?_;rw[if_neg<|by simp];refine ae<|ah<|ae<|vt ho ht ?_;rw[if_neg<|by simp];refine ah ?_;simp only[show ¬((es.size:Int)<0) by lia,if_false,nV,e1];refine ae ?_
 first
 |refine ae (hV ty<|ah ?_)
 |refine ae (kc ty<|ah ?_)
 show br _ _ (setField (.ref it) 0 .none >>= _) _ _ s;refine ae<|ij hq hf (by simp)<|show br _ _ (newExc (.type "StopIteration") [] >>= _) _ _ _ from ae ?_;simp only[newExc,newTuple];refine ae<|ef (ae (m:=r9 _ _)<|wpAny_of_eq (a:=dy) (by first|rfl|(simp only[r9];rfl))<|ef ?_<|by size_fits) (by size_fits);simp only[raiseNew];refine ae<|wpAny_handled ?_;rw[show A.in1.handled=none from hh];refine ae<|ah<|wpAny_throw<|ae ?_;refine lI (T:="StopIteration") (b:=true) ⟨_,aS _ rfl,rfl⟩ xa<|ah ?_;exact go _<|((gL ..).extBut.push _).push _
theorem ZM (hh:A.handled=none)(ne:d≠it):Walks prog w A it [it,d] [it] es.size (λi v=>∃e,es[i]? = some e/\v=e.val) (λi h=>h.IsValIter it d i es.size ep/\vQ h d es ep) where
 sub:=λb hb=>by simp at hb;simp[hb]
 frame:=λ_ _ _ st hk=>⟨let⟨o,e,r⟩:=st.1;⟨o,hk it (by simp) o e,r⟩,st.2.up λo e=>hk d (by simp) o e⟩
 item:=λi s Q E hi st go=>aaq st.1 st.2 hi λh' a b=>go _ h' s.toks ⟨_,rX hi,rfl⟩ ⟨a,st.2.up λo e=>(b.2 d ne).trans e⟩ λc o hc e=>(b.2 c λz=>hc<|by simp[z]).trans e
 done:=λs Q E st go=>Li hh st.1 st.2 λh' a=>go h' s.toks λc o hc e=>a c o (λz=>hc<|by simp[z]) e
 self:=λ_ _ _ _ st k=>wpAny_pyIter_valiter st.1 k
end
section
variable {X:Cx}
def Az (p a:Addr)(h:Heap):Prop:=h.IsValuesView p a
theorem Rn (I:Inv X π σ H s)(e:H a=some (.dT T ι)):
  ι.length<=ai/\(a==gy)=false/\∃es ep,vQ s.heap a es ep/\es.size=ι.length/\Vals (ι.map (·.2)) (es.toList.map (·.val)):=by
 obtain⟨hz,hd,xs,rel,o,es,ep,ho,hx,ht,he,nd⟩:=I.hok a _ e;refine⟨hz,hd,es,ep,⟨o,ho,hx,ht⟩,?_,?_⟩
 ·rw[size_of_entries he,kS rel]
 ·rw[he,ml];clear he hz hd nd e;induction rel with
  |nil=>exact .nil
  |cons h _ ih=>exact .cons h.2.2 ih
def Zk (X:Cx):V->List V->Hp->VK->Prop:=λx vs H Q=>∃a ι,x=.ref a/\vs=[]/\H a=some (.dT (KTp X.K) ι)/\∀p,H p=none->Q (.ref p) (upd H p<|.ext<|Az p a)
theorem Vs:MtR X "dict.values" (Zk X):=by
 intro π s σ H x vs v us Q I rx rv h;obtain⟨a,ι,rfl,rfl,e,q⟩:=h;cases rx;have hus:=rv.zero;subst hus;obtain⟨hz,hd,es,ep,x,_⟩:=Rn I e;refine O4 hd x ?_;refine⟨.ref _,_,I.laid (t':=s.toks) (λb o e=>ag _ e) (aE _)<|show cO X.prog X.w _ _ _ (.ext<|Az s.heap.objs.size a) from⟨⟨_,aS _ rfl,rfl,rfl⟩,⟨_,aS _ rfl⟩,λh1 h2 ⟨o,e,r⟩ k=>⟨o,k o e,r⟩⟩,rfl,q _<|I.hok.fresh<|aE _⟩
theorem abE {es:Array DictEntry}:W.KdlSrc X.prog X.w "dict_values" r d es.size (λi v=>∃e,es[i]? = some e/\v=e.val) (λh=>h.IsValuesView r d/\vQ h d es ep) where
 type:=λ_ m=>m.1.typeIs
 there:=λ_ m=>⟨let⟨_,e,_⟩:=m.1;ar e,let⟨_,e,_⟩:=m.2;ar e⟩
 keep:=λ_ _ m k=>⟨let⟨o,e,x⟩:=m.1;⟨o,k r (.inl rfl) o e,x⟩,m.2.up λo e=>k d (.inr rfl) o e⟩
 notList:=by decide
 notTuple:=by decide
 hint:=λ_ _ _ _ m q=>W.kdl_hint_values m.1.typeIs q
 iter:=λ_ _ hh m=>⟨_,_,(λ_ _ q=>Z8 m.1 m.2 q),ZM hh (let⟨_,e,_⟩:=m.2;a5 (ar e)),⟨⟨_,aS _ rfl,rfl,rfl⟩,m.2.up λo e=>ag _ e⟩⟩
def rLV (X:Cx):List V->Hp->VK->Prop:=λxs H Q=>∃p a ι,xs=[.ref p]/\H p=some (.ext<|Az p a)/\H a=some (.dT (KTp X.K) ι)/\∀l,H l=none->Q (.ref l) (upd H l<|.lst<|ι.map (·.2))
theorem HW (hc:X.calm=true):fL X (.type "list") (rLV X):=by
 intro π s σ H xs us Q I r h;obtain⟨p,a,ι,rfl,hp,e,q⟩:=h;obtain⟨u,rfl,rx⟩:=vals1 r;cases rx;obtain⟨hz,hd,es,ep,x,sz,rel⟩:=Rn I e;obtain⟨vw,_⟩:=I.hok p _ hp;refine W.kdl_call (abE (ep:=ep)) (I.ok.hd hc) ⟨vw,x⟩ (by lia) λh' tk acc c kp oS it=>?_;have ea:acc.toList=es.toList.map (·.val):=by
  obtain⟨z,h⟩:=it;refine List.ext_getElem (by simp[z]) λi h1 h2=>?_;obtain⟨y,ey,ev⟩:=h i acc[i] (by simp at h1;simp[h1]);obtain⟨lt,ey⟩:=dE.mp ey;simp only[Array.getElem_toList,List.getElem_map];rw[ev,ey]
 refine⟨.ref _,_,I.laid (t':=tk) kp (aE _)<|show cO X.prog X.w _ h' _ (.lst<|ι.map (·.2)) from⟨by rw[cp];exact hz,es.toList.map (·.val),c,rel,?_⟩,rfl,q _<|I.hok.fresh<|aE _⟩;rw[← ea];simpa using oS
end
noncomputable def Ho (fo:Zae):Zae:=λm=>(fo m).bind λd=>match d with
 | .dcu _ ds=>.ok<|.lst ds
 |_=>.stuck
section
theorem Rz (hc:X.calm=true)(hg:Gl X "list")(hm:X.mg "list" = none)(ho:FB X E o fo)(ω:iX o "values" X.env (eval o X.env)=eval o X.env:=by rfl)(η:(apos.endLine==χ.line)=true:=by rfl)
  (hs:av [.Call (.Attribute o "values" apos) [] [] χ] X.env=(false,eval (.Call (.Attribute o "values" apos) [] [] χ) X.env)::av [] X.env:=by rfl):
  FN X E (.Call (.Name "list" p) [.Call (.Attribute o "values" apos) [] [] χ] [] pos) (Ho fo):=
 bA (uT (HW hc) hg hm wD (iG (OJ sN sx PySem.F.type_dict_values Vs ho ω η) oW hs) (by decide) (by decide) hs rfl) λσ H Q h=>by
  refine Ah h λO0 M0 H0 ow m R q=>?_;refine⟨O0,M0,H0,ow,m,R,q.bind.imp (aH.refl _) λd q v H1 g1 hv=>?_⟩;cases d with
  |dcu ks ds=>
   obtain⟨a,ι,rfl,e,e1,hd⟩:∃a ι,v=.ref a/\H1 a=some (.dT (KTp X.K) ι)/\ι.map (·.1)=ks/\DVs (gx X) (Ow O0 ow) H1 (ι.map (·.2)) ds:=by
    rcases hv with hv|⟨a,rfl,_,hv⟩
    ·cases hv with
     |dcu n e a b hs=>subst b;exact⟨_,_,rfl,e,a,hs⟩
    ·refine rO hv λι vs e a1 b1 hs=>?_;subst b1;exact⟨a,ι,rfl,e,a1,hs⟩
   refine⟨.inr<|.inr<|.inl ⟨rfl,.inr ⟨_,ι,.inl e⟩⟩,a,ι,rfl,rfl,e,λb hb=>?_⟩;have ne:a≠b:=λz=>by rw[z,hb] at e;cases e
   refine⟨b,a,ι,rfl,bu,by rw[bT ne];exact e,λl hl=>?_⟩;have nb:l≠b:=λz=>by rw[z,bu] at hl;cases hl
   have hl1:H1 l=none:=by rw[bT nb] at hl;exact hl
   have gg:aH H1 (upd (upd H1 b<|.ext<|Az b a) l<|.lst<|ι.map (·.2)):=(bB hb _).trans<|bB hl _;exact q l _ (g1.trans gg) (g1.free hl1) ⟨_,bu,(hd.cL λc z=>z.elim .inl λe=>.inr (by rw[e];exact hl1)).mono gg⟩
  |_=>exact q.elim
end
def WQ (K:a6)(tk tv:TE):TE:=λσ H Q=>∀p,H p=none->tk σ (upd H p<|.dT (KTp K) []) λx H1=>tv σ H1 λy H2=>
 H2 p=some (.dT (KTp K) [])/\∃ks b,x=.ref b/\TrT (KTp K) H2 b ks/\Q (.ref p) (upd H2 p<|.dT (KTp K) [(ks,y)])
section
theorem Ry (hu:X.A.units+16<mn)(hk:PE X k tk)(hv:PE X v tv):PE X (.Dict [some k] [v] pos) (WQ X.K tk tv):=by
 intro π s σ H Q I q;have hn:=I.hok.fresh<|aE s.heap.objs.size;have I1:=I.laid (a:=s.heap.objs.size) (o:=.dT (KTp X.K) []) (h':=s.heap.push { cls:=.type "dict",data:=.dict #[] }) (t':=s.toks) (λ_ _ q=>ag _ q) (aE _)<|Gi s.heap I.big;have pl:(pairTrees [some k] [v] X.env pos).length=1:=pairTrees_length [some k] [v] X.env pos rfl rfl;rw[arm_eval_Dict,zip_pairTrees [some k] [v] X.env pos rfl rfl,dictDisplay_pairs _ (λz=>by rw[z] at pl;cases pl) (by rw[pl];decide)];refine ae<|pj<|ae ?_;unfold subDict;refine ae<|wpAny_alloc<|ae<|fw ?_;rw[if_pos (by rw[pl];decide)];refine ae<|pairTrees_cons_walk<|thn (hk π _ σ _ _ I1<|q _ hn) λu s1 ⟨x,H1,J1,rx,q1⟩=>thn (hv π s1 σ H1 _ J1 q1) λr s2 hE=>pairTrees_nil_walk<|fw ?_;obtain⟨y,H2,I2,ry,e,ks,b,ex,eb,q2⟩:=hE;subst ex;cases(show u=bE b from rx);obtain⟨z,hd,xs,rel,dd⟩:=Qx (wR I2) I2.hok e;cases rel;rw[vc];refine ae<|ae ?_;show br _ _ (dictSet s.heap.objs.size (.ref b) r >>= _) _ _ s2;refine(ae<|wpAny_dictSet_heap (hsz:=eC _) (show X.A.units+8<mn by lia) (vd I2 eb) dd λh' dd' hs=>ah ?_);dsimp only;rw[List.forIn_nil];refine ah<|ah<|ah<|ah ?_;refine zR dd' λqo es ep hq h2 h3 h4 _ h5=>?_;refine⟨.ref s.heap.objs.size,upd H2 s.heap.objs.size<|.dT (KTp X.K) [(ks,y)],ux I2 (by rw[e];exact g9) hs ⟨qo,hq⟩ ⟨by show 1<=_;decide,hd,_,?_,qo,es,ep,hq,h2,h3,h4,h5⟩,rfl,q2⟩;refine KT.keeps (H:=H2) (Paired.cons ⟨rfl,eb,ry⟩ .nil) λc ys ec=>?_;rw[bT<|Ol ec e λz=>nomatch z];exact ec
end
def Io (fk fv:Zae):Zae:=λm=>(fk m).bind λk=>(fv m).bind λd=>(ofO<|yt k).bind λks=>.ok<|.dcu [ks] [d]
section
theorem Ob (hr:fB j X.A)(hk:FE X E k fk)(hv:FE X E v fv):FN X E (.Dict [some k] [v] pos) (Io fk fv):=
 bA (Ry (m9 hr) hk hv) λσ H Q hE p hp=>by
  refine Ah hE λO0 M0 H0 ow m R q=>?_;have g0:aH H (upd H p<|.dT (KTp X.K) []):=bB hp _;have R1:=R.more g0 hp (by rw[bu];exact .inr<|.inr<|.inl ⟨(KTp X.K,[]),rfl⟩);refine⟨Op O0 p,M0,H0,ow,m,R1,q.bind.imp g0 λkd q x H1 g1 hx=>⟨Op O0 p,M0,H0,ow,m,R1.mono g1,q.bind.imp (g0.trans g1) λd q y H2 g2 hy=>?_⟩⟩;obtain⟨ks,h1,q⟩:=q.bind.ofO;obtain⟨b,rfl,hb⟩:=wj (.inl<|hx.mono g2) h1;have e2:H2 p=some (.dT (KTp X.K) []):=g2 _ _<|g1 _ _ bu;have R2:=(R1.mono g1).mono g2;have kp:Kp (Ow (Op O0 p) ow) H2 (upd H2 p<|.dT (KTp X.K) [(ks,y)]):=λc o e n=>by rw[bT λz=>n<|.inl<|.inr z];exact e
  refine⟨e2,ks,b,rfl,hb,q p _ (λc o e=>?_) hp ⟨_,_,bu,rfl,rfl,.cons ((hy.kp R2.mutk kp).cL λc z=>.inl ?_) .nil⟩⟩
  ·rw[bT (λz=>by rw[z,hp] at e;cases e)];exact g2 _ _<|g1 _ _<|g0 _ _ e
  ·rcases z with(z|z)|z
   ·exact .inl<|.inl z
   ·exact .inr z
   ·exact .inl<|.inr z
end
noncomputable def oR:List ((Zae)×(Zae))->Me->Res (List<|D×D)
 |[],_=>.ok []
 |f::r,m=>(f.1 m).bind λk=>(f.2 m).bind λd=>(oR r m).bind λl=>.ok ((k,d)::l)
inductive DPs (G:Gx)(O:Zaa)(H:Hp):List (V×V)->List (D×D)->Prop where
 |nil:DPs G O H [] []
 |cons {x y:V} {k d:D} {ps:List (V×V)} {l:List (D×D)}:DV G O H x k->DV G O H y d->DPs G O H ps l->DPs G O H ((x,y)::ps) ((k,d)::l)
def sS:List Key->List D->List (D×D)->Option (List Key×List D)
 |ks,ds,[]=>some (ks,ds)
 |ks,ds,p::r=>(nR p.1).bind λk=>sS (putD ks ds k p.2).1 (putD ks ds k p.2).2 r
def dR (fs:List ((Zae)×(Zae))):Zae:=λm=>(oR fs m).bind λl=>if l.length<=15 then(ofO<|sS [] [] l).bind λr=>.ok (.dct r.1 r.2) else .stuck
abbrev V8 (X:Cx)(E:XK)(fs:List ((Zae)×(Zae))):List (TE×TE):=fs.map λf=>(tE (gx X) E f.1,tE (gx X) E f.2)
section
theorem Eh:∀(fs:List ((Zae)×(Zae))) {H:Hp} {K:List (D×D)->Prop} {Q:List (V×V)->Hp->Prop},aH Hb H->Rel (gx X) O0 M0 H0 ow σ H m->Pu (gx X) E (oR fs m) Hb K->
  (∀l ps H',K l->aH H H'->DPs (gx X) (Ow O0 ow) H' ps l->Q ps H')->Ay (V8 X E fs) σ H Q
 |[],H,K,Q,_,R,q,f=>f [] [] H q (aH.refl _) .nil
 |g::r,H,K,Q,gb,R,q,f=>by
  refine⟨O0,M0,H0,ow,m,R,q.bind.imp gb λkd q x H1 g1 hx=>⟨O0,M0,H0,ow,m,R.mono g1,q.bind.imp (gb.trans g1) λd q y H2 g2 hy=>?_⟩⟩;refine Eh r ((gb.trans g1).trans g2) ((R.mono g1).mono g2) q.bind λl ps H3 k g3 hl=>?_;exact f _ _ _ k ((g1.trans g2).trans g3)<|.cons ((hx.mono g2).mono g3) (hy.mono g3) hl
theorem GP:∀{l:List (D×D)} {ps:List (V×V)} {ks rk:List Key} {ds rd:List D} {acc:List (Key×V)},DPs G O H ps l->sS ks ds l=some (rk,rd)->acc.map (·.1)=ks->DVs G O H (acc.map (·.2)) ds->
  ∃ι:List (Key×V),ps=ι.map (λkv=>(kV kv.1,kv.2))/\(mU acc ι).map (·.1)=rk/\DVs G O H ((mU acc ι).map (·.2)) rd
 |_,_,ks,rk,ds,rd,acc,.nil,e,e1,e2=>by cases e;exact⟨[],rfl,e1,e2⟩
 |_,_,ks,rk,ds,rd,acc,.cons (x:=x) (y:=y) a b r,e,e1,e2=>by
  obtain⟨k,hk,e⟩:=d5.mp e;have ex:=Bj (.inl a) hk;obtain⟨p1,p2⟩:=S5 (k:=k) b e2;rw[e1] at p1 p2;obtain⟨ι,q1,q2,q3⟩:=GP (acc:=putK acc k y) r e p1 p2;exact⟨(k,y)::ι,by rw[bo,← q1,ex],q2,q3⟩
theorem DPs.len:∀{ps:List (V×V)} {l:List (D×D)},DPs G O H ps l->ps.length=l.length
 |_,_,.nil=>rfl
 |_,_,.cons _ _ r=>by rw[fq,fq,r.len]
theorem iB (h:PPs X pos keys values (V8 X E fs))(hall:keys.all (·.isSome)=true)(hl:keys.length=values.length)(h0:keys≠[])(h15:keys.length<=15):
  FN X E (.Dict keys values pos) (dR fs):=
 bA (Ub h hall hl h0 h15) λσ H Q hE p hp=>by
  refine Ah hE λO0 M0 H0 ow m R q=>?_;have g0:aH H (upd H p<|.dK []):=bB hp _;have R1:=R.more g0 hp (by rw[bu];exact .inr<|.inl ⟨[],rfl⟩);refine Eh fs g0 R1 q.bind λl ps H2 q g2 hl2=>?_;obtain⟨hz,q⟩:=pO q;obtain⟨r,h1,q⟩:=q.bind.ofO;have R2:=R1.mono g2;have e2:H2 p=some (.dK []):=g2 _ _ bu;obtain⟨ι,q1,q2,q3⟩:=GP (acc:=[]) hl2 h1 rfl .nil;have len:=hl2.len;rw[q1,cp] at len;have kp:Kp (Ow (Op O0 p) ow) H2 (upd H2 p<|.dK<|mU [] ι):=λc o e n=>by rw[bT λz=>n<|.inl<|.inr z];exact e
  refine⟨e2,ι,q1,by lia,q p _ (λc o e=>?_) hp ⟨_,_,bu,q2,rfl,(q3.kp R2.mutk kp).cL λc z=>.inl ?_⟩⟩
  ·rw[bT (λz=>by rw[z,hp] at e;cases e)];exact g2 _ _<|g0 _ _ e
  ·rcases z with(z|z)|z
   ·exact .inl<|.inl z
   ·exact .inr z
   ·exact .inl<|.inr z
end
theorem JP:entryFor table "dict.update.loop" = some xk.«dict.update.loop»:=entryFor_of_tree<|by kernel_rfl
theorem CZ:plainId "dict.update.loop" = true:=by decide +kernel
theorem Bw:vT (.type "list") "keys" = pure none:=by rfl
section
theorem LK (hx:s.heap.get? a=some { cls:=.type "list",dict:=none,data:=.seq its n,slots:=sl })(hA:A.handled=none)
  (k:∀h' tk,(∀b o,s.heap.get? b=some o->h'.get? b=some o)->Q none { s with heap:=h',toks:=tk }):br (b0 pr wo) A (getAttr? (.ref a) "keys") Q E s:=by
 obtain⟨hp,g,d,tk,os⟩:=s;have hT:∀t,(⟨hp,g,d,t,os⟩:aI).TypeIs (.ref a) "list":=λ_=>⟨_,hx,rfl⟩;have f1:=sub_AttributeError;have f3:=kd.lookup;have f4:=kd.bind<|.ref a;have f5:=am_list_getattr_none;unfold getAttr? getAttrBy? getAttrBy
 repeat (any_goals (first|(assumption)|exact hT _|((with_reducible show br _ _ (call (mo "list.__getattribute__") _ _) _ _ _);refine nL kd (hT _) am_entry_list_getattribute (PySem.F.args_list_getattribute_2 _ _) (meets_getattribute_miss_list a its n sl "keys" _ Bw (by decide +kernel) (by decide +kernel)) ⟨hx,hA,λh' t' e ne=>?_⟩)|(wp_step)))
 obtain⟨t2,u2,he⟩:=ne.there;show br _ _ (getattributeRaised _ _ _ _ _ _ _) _ _ _;unfold getattributeRaised
 repeat (any_goals (first|(assumption)|(wp_step)))
 exact k _ _ ne.keeps
end
section
variable {pr:bq}{wo:dc}{κ:Type}[DecidableEq κ]{kn:KeyKind pr wo κ}{A:cK}{R:Result->aI->Prop}{I:Addr}{fp wr:List Addr}{G:Array n5->Array n5->Prop}{n:Nat}{P:Nat->ay->Prop}{St:Nat->aI->Prop}
theorem Vt (W:WalksS pr wo A.in1 I fp wr G n P St)(S:Addr)(nf:S∉fp)(ι:List (κ×ay))(h0:Heap)(hn:n<=ai)
  (hP:∀i v,P i v->∃b k u kv,v=.ref b/\ι[i]? = some (k,u)/\b∉S::wr/\AG h0 b #[kv,u]/\kn.is k kv=true):
  ∀(j i:Nat) (s:aI) (t0:Tok),n-i=j->i<=n->St i s->(∀b o,b∉S::wr->h0.get? b=some o->s.heap.get? b=some o)->s.heap.DictOf kn S (AD []<|ι.take i)->
   (∀t,Moved (S::wr) G s t->t.heap.DictOf kn S (AD []<|ι.take n)->R (.ok<|.ret .none) t)->
   pS (b0 pr wo) A (.builtin "dict.update.loop" ⟨[.ref S,.ref I,.int (i:Int) t0,.none],[]⟩) R s:=by
 have nw:S∉wr:=λz=>nf<|W.sub _ z;have up:∀b∈wr,b∈S::wr:=λb z=>.tail _ z;have at_:∀{h h':Heap} {l:List (κ×ay)},h.DictOf kn S l->(∀o,h.get? S=some o->h'.get? S=some o)->h'.DictOf kn S l:=λx k=>by
  refine xn x λo es ep e r=>?_;exact⟨o,es,ep,k _ e,r⟩
 intro j;induction j with
 |zero=>
  intro i s t0 ej hi st kp x fin;obtain rfl:i=n:=by lia
  refine u7 JP ?_;rw[wq CZ _];show br (b0 pr wo) A.in1 (t9 (.ref I) >>= _) _ _ _;refine ae<|W.done s _ _ st λt mv=>?_;show br (b0 pr wo) A.in1 (Builtin.Dict.addKeywords S [] >>= _) _ _ t;exact ae<|ah<|ah<|fin t (mv.mono up)<|at_ x λo e=>mv.heap S o nw e
 |succ j ih=>
  intro i s t0 ej hi st kp x fin;have lt:i<n:=by lia
  refine u7 JP ?_;rw[wq CZ _];show br (b0 pr wo) A.in1 (t9 (.ref I) >>= _) _ _ _;refine ae<|W.item i s _ _ lt st λv t hv st' mv=>?_;obtain⟨b,k,u,kv,rfl,ek,nb,tu,hk⟩:=hP i v hv;have x':=at_ (h':=t.heap) x λo e=>mv.heap S o nw e;have kp':∀c o,c∉S::wr->h0.get? c=some o->t.heap.get? c=some o:=λc o hc e=>mv.heap c o (λz=>hc<|up c z)<|kp c o hc e;obtain⟨o,ho,hc,m,hd⟩:=tu;have hot:=kp' b o nb ho;show br (b0 pr wo) A.in1 (holding [bE b] _ >>= _) _ _ t;refine ae<|fw<|ae<|wpAny_tryCatch ?_;unfold Builtin.Dict.pairItems;refine ae<|ui (T:="tuple") ⟨o,hot,hc⟩ ?_;rw[if_pos<|by decide];obtain⟨c0,d0,dt0,sl0⟩:=o;simp only at hc hd;subst hc hd;refine ae ?_;unfold seqItems?;refine ae<|wpAny_load hot ?_;refine ah<|ah ?_;show br (b0 pr wo) A.in1 (holding [kv,u]<|dictSet S kv u) _ _ t;have len:(AD []<|ι.take i).length<=ai:=by
   have h1:∀(l acc:List (κ×ay)),(AD acc l).length<=acc.length+l.length:=by
    intro l;induction l with
    |nil=>intro acc;exact aE _
    |cons p l ih2=>
     intro acc;have h2:=ih2<|stored acc p.1 p.2;have h3:=stored_length_le acc p.1 p.2;show(AD (stored acc p.1 p.2) l).length<=_;rw[fq]
     lia
   have h2:=h1 (ι.take i) [];rw[lP,qf] at h2
   lia
  refine fw<|wpAny_dictSet_pairs (hsz:=len) hk x' λh' x2 sb=>?_;rw[← merged_take_succ [] ι i (k,u) ek] at x2;refine ah ⟨yA CZ _,ih (i+1) _ 0 (by lia) lt (W.frame _ t _ _ st' (xw _) λc hc o e=>?_) (λc o hc e=>?_) x2 λt2 mv2 x4=>?_⟩
  ·rw[sb.2 c λz=>nf<|z▸hc];exact e
  ·rw[sb.2 c λz=>hc<|z▸.head _];exact kp' c o hc e
  ·refine fin t2 (Moved.trans W.gtrans ((mv.mono up).then_heap (xw _) λc o hc e=>?_) mv2) x4;rw[sb.2 c λz=>hc<|z▸.head _];exact e
end
section
variable {pr:bq}{wo:dc}{κ:Type}[DecidableEq κ]{kn:KeyKind pr wo κ}{A:cK}{E:Zs}{s:aI}
theorem Hq (hh:A.handled=none)(li:∃n sl,s.heap.get? l=some { cls:=.type "list",dict:=none,data:=.seq its n,slots:=sl })(hz:its.size<=ai)(hl:ι.length=its.size)
  (hP:∀(i:Nat) (v:ay),its[i]? = some v->∃b k u kv,v=bE b/\ι[i]? = some (k,u)/\AG s.heap b #[kv,u]/\kn.is k kv=true)
  (fin:∀(h':Heap) (tk:Nat),h'.DictOf kn s.heap.objs.size (AD [] ι)->(∀b o,s.heap.get? b=some o->h'.get? b=some o)->Q (.ref s.heap.objs.size) { s with heap:=h',toks:=tk }):
  br (b0 pr wo) A (call (.type "dict") [.ref l]) Q E s:=by
 obtain⟨n,sl,ol⟩:=li;have ltl:l<s.heap.objs.size:=ar ol;refine callType_codes (Q₁:=λo t=>o=.ref s.heap.objs.size/\t={ s with heap:=s.heap.push { cls:=.type "dict",data:=.dict #[] } }) PySem.F.kt_called_dict (PySem.F.kt_typeCall_dict_1 _) PySem.F.entry_dict_init (kt_code_dict_new _ ⟨rfl,rfl⟩) λo t ht=>?_;obtain⟨rfl,rfl⟩:=ht;have x0:(s.heap.push { cls:=.type "dict",data:=.dict #[] }).DictOf kn s.heap.objs.size []:=As s.heap;have ol':=ag { cls:=.type "dict",data:=.dict #[] } ol;refine⟨x0.typeIs,PySem.F.args_dict_init_2 _ _,?_⟩;unfold xk.«dict.__init__»;refine ae ?_;unfold Builtin.Dict.selfAndRest;refine ae<|oy x0.typeIs ?_;show br _ _ (pure (s.heap.objs.size,[bE l])) _ _ _;refine ah ?_;show br _ _ (sQ "dict.__init__" s.heap.objs.size (.ref l) [] .none) _ _ _;unfold sQ;refine ae<|ui (T:="list") ⟨_,ol',rfl⟩ ?_;rw[if_pos<|by decide];refine ae<|LK ol' hh λh1 t1 k1=>?_;rw[if_pos<|by decide];refine ae<|sj<|ae ?_;have ol1:=k1 _ _ ol';have li1:h1.IsList l its:=⟨_,ol1,rfl,n,rfl⟩;refine nE (s:={ s with heap:=h1,toks:=t1 }) li1 ?_;have szS:s.heap.objs.size<(s.heap.push { cls:=.type "dict",data:=.dict #[] }).objs.size:=by rw[rV];exact oI _
 have lt1:s.heap.objs.size<h1.objs.size:=by
  refine xn x0 λoS _ _ e _=>?_;exact ar<|k1 _ _ e
 have ltl1:l<h1.objs.size:=oq ltl lt1;refine ah ⟨yA CZ _,?_⟩;have W:=(Walks.list (prog:=pr) (w:=wo) (A:=A.in1.in1) (show A.in1.in1.handled=none from hh) h1.objs.size l (a5 ltl1) its).toS;refine Vt (A:=A.in1) (kn:=kn) W s.heap.objs.size ?_ ι (h1.push _) hz (λi v hv=>?_) its.size 0 _ 0 rfl (eC _) ⟨⟨_,aS _ rfl,rfl,rfl⟩,li1.push _⟩ (λb o _ e=>e) ?_ λt mv x=>?_
 ·intro m;rcases bP.mp m with z|z
  ·exact a5 lt1 z
  ·exact l9 ltl<|b4.mp z
 ·obtain⟨b,k,u,kv,rfl,e1,⟨ob,hb,rest⟩,e2⟩:=hP i v hv;have ltb:=ar hb;refine⟨b,k,u,kv,rfl,e1,λm=>?_,⟨ob,ag _<|k1 _ _<|ag _ hb,rest⟩,e2⟩;rcases bP.mp m with z|z
  ·exact a5 ltb z
  ·exact a5 (oq ltb lt1)<|b4.mp z
 ·refine xn x0 λoS es ep e r=>?_;exact⟨oS,es,ep,ag _<|k1 _ _ e,r⟩
 ·rw[gu<|by lia] at x;refine⟨rfl,?_⟩;rw[Moved.eq_with mv];refine fin _ _ x λb o e=>mv.heap b o (λm=>?_)<|ag _<|k1 _ _<|ag _ e;have ltb:=ar e;rcases bP.mp m with z|z
  ·exact a5 ltb z
  ·exact a5 (oq ltb lt1)<|b4.mp z
end
def Hs:List D->Option (List<|D×D)
 |[]=>some []
 | .tup [k,v]::r=>(Hs r).map ((k,v)::·)
 |_=>none
def iJ:List D->Option D
 |[.lst ds]=>(Hs ds).bind λl=>(sS [] [] l).map λr=>.dct r.1 r.2
 |_=>none
theorem FQ:∀{l:List (D×D)} {ks rk:List Key} {ds rd:List D},sS ks ds l=some (rk,rd)->∀p∈l,∃k,nR p.1=some k
 |p::r,ks,rk,ds,rd,e,q,hq=>by
  obtain⟨k,hk,e⟩:=d5.mp e;rcases bP.mp hq with z|z
  ·exact⟨k,z▸hk⟩
  ·exact FQ e q z
section
theorem Oi (I:Inv X π σ H s){O:Zaa}:∀{ds:List D} {xs:List V} {its:List ay} {l:List (D×D)},DVs (gx X) O H xs ds->Vals xs its->Hs ds=some l->(∀p∈l,∃k,nR p.1=some k)->
  ∃(kv:List (Key×V)) (kw:List (Key×ay)),KV kv kw/\kw.length=its.length/\DPs (gx X) O H (kv.map λp=>(kV p.1,p.2)) l/\
   ∀(i:Nat) (v:ay),its[i]? = some v->∃b k u kl,v=bE b/\kw[i]? = some (k,u)/\AG s.heap b #[kl,u]/\(gj X.prog X.w).is k kl=true
 |[],_,_,_,.nil,.nil,e,_=>by cases e;exact⟨[],[],.nil,rfl,.nil,λi v z=>by cases z⟩
 |d::ds,_,_,l,.cons a r,.cons (b:=u0) ra rr,e,hk=>by
  match d,e with
  | .tup [k,v],e=>
   obtain⟨l',e',rfl⟩:=iE.mp e;refine rO (Oi I r rr e' λp hp=>hk p<|be _ hp) λkv kw q1 q2 q3 q4=>?_;obtain⟨ky,hky⟩:=hk (k,v) cy;cases a with
   |tup sq hs=>
    cases hs with
    |cons a1 r1=>
     cases r1 with
     |cons a2 r2=>
      cases r2;rename_i b x1 x2;have ex:=Bj (.inl a1) hky;subst ex;obtain⟨ts,rt,pt,_⟩:=I.tuple sq.sq;cases rt with
      |cons t1 rt=>
       cases rt with
       |cons t2 rt=>
        cases rt;rename_i u1 u2;cases(show u0=bE b from ra);refine⟨(ky,x2)::kv,(ky,u2)::kw,.cons ⟨rfl,t2⟩ q1,by simp[q2],.cons a1 a2 q3,λi v hv=>?_⟩;cases i with
        |zero=>cases hv;exact⟨b,ky,u2,u1,rfl,rfl,pt,zE t1⟩
        |succ i=>exact q4 i v hv
theorem Dw (hc:X.calm=true):fL X (.type "dict") (Vx (gx X) iJ):=by
 intro π s σ H xs us Q I r h;refine KR h λO ds d m hx hr q=>?_;unfold iJ at hr;split at hr
 ·rename_i ds;obtain⟨l,e1,e2⟩:=d5.mp hr;obtain⟨⟨rk,rd⟩,e3,rfl⟩:=iE.mp e2;obtain⟨v,rfl,hv⟩:=oH hx;obtain⟨a,ys,rfl,hp,hd⟩:=iI hv;obtain⟨u,rfl,rx⟩:=vals1 r;cases rx;obtain⟨its,rv,⟨o,n,ho,hc1,hd1,hs1⟩,hz⟩:=I.list hp;obtain⟨c0,d0,dt0,sl0⟩:=o;simp only at hc1 hd1 hs1;subst hc1 hd1 hs1;have ll:=rv.length;refine rO (Oi I hd rv e1<|FQ e3) λkv kw q1 q2 q3 q4=>?_;obtain⟨kv',z1,z2,z3⟩:=GP (acc:=[]) q3 e3 rfl .nil;have ek:kv=kv':=(List.map_inj_right λp p' e=>by
   have e':=Prod.mk.inj e;exact Prod.ext (Yq e'.1) e'.2).mp z1
  subst ek;refine Hq (kn:=gj X.prog X.w) (I.ok.hd hc) ⟨n,sl0,ho⟩ (by simp only[a8];lia) (by simpa using q2) (λi v hv=>q4 i v<|by simpa using hv) λh' tk x kp=>?_;have hf:H s.heap.objs.size=none:=I.hok.fresh<|aE _;have hm:=q1.merge (ι:=[]) (vs:=[]) .nil;have lz:(mU [] kv).length<=ai:=by
   have h1:=mQ kv [];have h2:=q1.length;rw[qf] at h1
   lia
  have hns:(s.heap.objs.size==gy)=false:=by
   have:=I.big
   simpa using l9 this
  refine⟨.ref _,_,I.laid (t':=tk) kp (aE _)<|show cO X.prog X.w _ h' _ (.dK<|mU [] kv) from⟨lz,hns,_,hm,x⟩,rfl,q _ _ (bB hf _) hf ⟨_,_,bu,z2,rfl,?_⟩⟩;exact(z3.cL λc z=>z.elim .inl λe=>.inr (by rw[e];exact hf)).mono (bB hf _)
 ·cases hr
end
def vO (ls:List Key)(us:List D):List Key->List D->Option Bool
 |[],[]=>some true
 |k::ks,d::ds=>match qW ls us k with
  |none=>some false
  |some y=>(mH d y).bind λe=>(vO ls us ks ds).map (e && ·)
 |_,_=>none
def Cr:D->D->Option Bool
 | .dct ks vs,.dct ls us=>if ks.length=ls.length then vO ls us ks vs else some false
 |_,_=>none
def O8 (d e:D):Option Bool:=(Cr d e).map (!·)
section
theorem KZ (I:Inv X π σ H s){O:Zaa}{A:cK}(hu:A.in1.units+64<mn){kvb:List (Key×V)}{kwb:List (Key×ay)}{us:List D}(rb:KV kvb kwb)(hb:DVs (gx X) O H (kvb.map (·.2)) us):
  ∀{kva:List (Key×V)} {kwa:List (Key×ay)} {vs:List D} {r:Bool},KV kva kwa->DVs (gx X) O H (kva.map (·.2)) vs->vO (kvb.map (·.1)) us (kva.map (·.1)) vs=some r->W.KeqHits A.in1 s kwb kwa r:=by
 intro kva kwa vs r ra;unfold KV at ra;induction ra generalizing vs r with
 |nil=>intro h e;cases h;cases e;exact .nil
 | @cons p q ps qs h t ih=>
  intro hd e;cases hd with
  |cons a rest=>
   obtain⟨k,x⟩:=p;obtain⟨k',w⟩:=q;obtain⟨e1,e2⟩:=h;simp only at e1 e2;subst e1;have vb:=vZ (k:=k) hb;have rv:=rb.val k;rw[bo,vO] at e;rcases vb with⟨v,d,b1,b2,b3⟩|⟨b1,b2⟩
   ·rw[b2] at e;obtain⟨c,h1,h2⟩:=d5.mp e;obtain⟨r',h3,rfl⟩:=iE.mp h2;obtain⟨pa,pb,t1,t2,z1,z2,rfl⟩:=uW h1;rw[b1] at rv;cases ev:va kwb k with
    |none=>rw[ev] at rv;cases rv
    |some y=>
     rw[ev] at rv;obtain⟨as,r1⟩:=(qM (.inl a) t1).reads I e2;obtain⟨bs,r2⟩:=(qM (.inl b3) t2).reads I rv;exact .hit ev (W.keq_at r1 r2 z1 z2 hu)<|ih rest h3
   ·rw[b2] at e;cases e;rw[b1] at rv;cases ev:va kwb k with
    |none=>exact .miss ev
    |some y=>rw[ev] at rv;cases rv
theorem JV (hx:DW (gx X) O H x d)(hy:DW (gx X) O H y e)(hr:Cr d e=some r):
  ∃a b kva kvb vs us,x=.ref a/\y=.ref b/\Rd H a (.dK kva)/\Rd H b (.dK kvb)/\DVs (gx X) O H (kva.map (·.2)) vs/\DVs (gx X) O H (kvb.map (·.2)) us/\
   ((kva.length=kvb.length/\vO (kvb.map (·.1)) us (kva.map (·.1)) vs=some r)\/(¬kva.length=kvb.length/\r=false)):=by
 match d,e,hr with
 | .dct ks vs,.dct ls us,hr=>
  obtain⟨a,kva,wa,rfl,ha,rfl,rfl,hda⟩:=uD hx;obtain⟨b,kvb,wb,rfl,hb,rfl,rfl,hdb⟩:=uD hy;refine⟨a,b,kva,kvb,vs,us,rfl,rfl,ha,hb,hda,hdb,?_⟩;unfold Cr at hr;simp only[cp] at hr;by_cases z:kva.length=kvb.length
  ·rw[if_pos z] at hr;exact .inl ⟨z,hr⟩
  ·rw[if_neg z] at hr;cases hr;exact .inr ⟨z,rfl⟩
theorem Ul (hr0:fB j X.A):OpR X (dk .Eq) (rGB (gx X) Cr):=by
 intro π s σ H x y v u Q I rx ry h;refine jU h λO d e r m hx hy hr q=>?_;obtain⟨a,b,kva,kvb,vs,us,rfl,rfl,ha,hb,hda,hdb,hz⟩:=JV hx hy hr;cases(show v=bE a from rx);cases(show u=bE b from ry);obtain⟨za,na,kwa,ra,da⟩:=rN I.hok ha;obtain⟨zb,nb,kwb,rb,db⟩:=rN I.hok hb;have hu:X.A.in1.units+64<mn:=by have:=hr0.un;show X.A.units+1+64<mn;lia
 have la:=ra.length;have lb:=rb.length;refine W.keq_eq (r:=r) na nb da db hr0.PQ (λz=>?_) ?_
 ·rcases hz with⟨_,hh⟩|⟨n,_⟩
  ·exact KZ I hu rb hdb ra hda hh
  ·exact absurd (by lia) n
 ·refine cg I q ?_;rcases hz with⟨z,_⟩|⟨n,rfl⟩
  ·rw[show(kwa.length==kwb.length)=true by simpa using(by lia:kwa.length=kwb.length)];rfl
  ·simp
theorem Ud (hr0:fB j X.A):OpR X (dk .NotEq) (rGB (gx X) O8):=by
 intro π s σ H x y v u Q I rx ry h;refine jU h λO d e r' m hx hy hr' q=>?_;obtain⟨r,hr,rfl⟩:=iE.mp hr';obtain⟨a,b,kva,kvb,vs,us,rfl,rfl,ha,hb,hda,hdb,hz⟩:=JV hx hy hr;cases(show v=bE a from rx);cases(show u=bE b from ry);obtain⟨za,na,kwa,ra,da⟩:=rN I.hok ha;obtain⟨zb,nb,kwb,rb,db⟩:=rN I.hok hb;have hu:X.A.in1.units+64<mn:=by have:=hr0.un;show X.A.units+1+64<mn;lia
 have la:=ra.length;have lb:=rb.length;refine W.keq_ne (r:=r) na nb da db hr0.PQ (λz=>?_) ?_
 ·rcases hz with⟨_,hh⟩|⟨n,_⟩
  ·exact KZ I hu rb hdb ra hda hh
  ·exact absurd (by lia) n
 ·refine cg I q ?_;rcases hz with⟨z,_⟩|⟨n,rfl⟩
  ·rw[show(kwa.length==kwb.length)=true by simpa using(by lia:kwa.length=kwb.length)];rfl
  ·simp
end
section
end
section
end
section
variable {X:Cx}
end
section
end
section
end
section
variable {G:Gx}{O0 M0:Zaa}{H0:Hp}{ow:Os}{σ:L2.St}{H:Hp}{m:Me}
end
section
variable {P:bq}{w:dc}{K:a6}{mg:Zp}{base:Heap}
end
section
variable {X:Cx}{E:XK}{e:Expr}{es:List Expr}{fa:Zae}{fs:Zad}{i p:Nat}{y:Str}{np:Pos}
end
section
variable {G:Gx}{O0 M0:Zaa}{H0 H H':Hp}{ow:Os}{σ:L2.St}{m m':Me}
end
section
variable {X:Cx}{E:XK}{e b ke:Expr}{f fb fk:Zae}{pos spos:Pos}
end
section
variable {P:bq}{w:dc}{K:a6}{mg:Zp}{base:Heap}
end
section
end
section
variable {X:Cx}{E:XK}
end
section
end
end F
namespace L2
open PySem PySem.Spec PyProof.Rows
section
variable {X:Cx}{tg:Expr}
end
end L2
namespace F
open PySem PySem.Spec PyProof.Rows L2 Hd
section
variable {X:Cx}{E:XK}{tg e a b c:Expr}{f:Zae}{fs:Zad}{fa:Me->Res (D×Me)}{p pos:Pos}
end
section
end
end F
namespace L2
open PySem PySem.Spec PyProof.Rows
section
variable {X:Cx}{e st:Expr}{te:TE}{tst:TO}{p2 pos:Pos}
end
end L2
namespace F
open PySem PySem.Spec PyProof.Rows L2 Hd
section
variable {X:Cx}{E:XK}{e st:Expr}{f:Zae}{fk:Me->Res (Option Int)}{p2 pos:Pos}
end
end F
namespace Pk
open PySem L2 Hd F
section
def iR:Zaf:=
 (aY gNe (ak 3)<|fC<|.int 0)
def iQ:Zab:=
 (aP (aX 4<|aA ir (ak 2)<|ak 3)
 (aP (aX 2<|aC 3)
 (aX 3<|aC 4)))
def lK:Zab:=
 (nH iR iQ)
def jx (l_3:Zab):Zab:=
 (aP (aX 2<|aV R0<|aj (ak 0) au)
 (aP (aX 3<|aV R0<|aj (ak 1) au)
 (aP l_3
 (bC<|aC 2))))
def jE:Zab:=
 (jx lK)
def dh:Zac:=aW 5 2 jE
def ud (φ_common_divisor:Zac):Zab:=
 (aP (aX 2<|fFn φ_common_divisor<|aj (aC 0)<|aj (aC 1) au)
 (aP (gIf (aY gLt (ak 1)<|fC<|.int 0) (aX 2<|fUn wJ<|ak 2) gNx)
 (bC<|aL<|aj (aA qT (ak 0)<|ak 2)<|aj (aA qT (ak 1)<|ak 2) au)))
def ug:Zab:=
 (ud dh)
def fO:Zac:=aW 3 2 ug
def Ha (φ_lowest:Zac):Zab:=
 (bC<|fFn φ_lowest<|aj (aA aJ (aA jX (aA gIx (ak 0)<|fC<|.int 0)<|aA gIx (ak 1)<|fC<|.int 1)<|aA jX (aA gIx (ak 1)<|fC<|.int 0)<|aA gIx (ak 0)<|fC<|.int 1)<|aj (aA jX (aA gIx (ak 0)<|fC<|.int 1)<|aA gIx (ak 1)<|fC<|.int 1) au)
def Ip:Zab:=
 (Ha fO)
def xf:Zac:=aW 2 2 Ip
def Cy:Zab:=
 (bC<|lM gLt (aA jX (aA gIx (ak 0)<|fC<|.int 0)<|aA gIx (ak 1)<|fC<|.int 1)<|aA jX (aA gIx (ak 1)<|fC<|.int 0)<|aA gIx (ak 0)<|fC<|.int 1)
def Ck:Zab:=
 Cy
def uv:Zac:=aW 2 2 Ck
def vo:Zab:=
 (aX 1<|fFn xf<|aj (aC 1)<|aj (aC 2) au)
def zW:Zab:=
 (mZ (kY<|aC 0) (hName 2) vo)
def Ce (l_2:Zab):Zab:=
 (aP (aX 1<|fC<|.tup [(.int 0),(.int 1)])
 (aP l_2
 (bC<|aC 1)))
def BX:Zab:=
 (Ce zW)
def nZ:Zac:=aW 3 1 BX
def jZ:Zae:=
 (gW 2 [] (CK<|aA gIx (ak 0)<|fUn wJ<|fC<|.int 1) (ou 2<|du (hName 0)<|du (hName 1) pF) fY<|aC 1)
def fW (l_1:Zae):Zab:=
 (aP (gIf (aY gEq (aA gIx (ak 0)<|fC<|.int 0)<|fC<|.str "end") (rC<|bI au) gNx)
 (rC l_1))
def rJ:Zab:=
 (fW jZ)
def eG:Zac:=aW 1 1 rJ
def mO:Zae:=
 (aL<|aj (aA aJ (aA gIx (ak 2)<|fC<|.int 0)<|aL<|aj (aC 0) au)<|aj (aC 1) au)
def jP:Zae:=
 (gW 2 [3] (XD<|aj (fFn eG<|aj (aA gIx (ak 3)<|fC<|.int 1) au) au) (ou 2<|du (hName 0)<|du (hName 1) pF) fY mO)
def jL:Zaf:=
 (aY gGt (aV cZ<|aj (ak 2) au)<|fC<|.int 0)
def jN:Zab:=
 (aP (Cz 3 2)
 (aP (eF 1<|aC 3)
 (aP (aX 4 jP)
 (Aw 2<|aV Qw<|aj (ak 4) au))))
def zA:Zab:=
 (nH jL jN)
def lR (l_5:Zab):Zab:=
 (aP (dO 1<|bI au)
 (aP (dO 2<|bI<|aj (aL<|aj (aL au)<|aj (aC 0) au) au)
 (aP l_5
 (rA 1))))
def vM:Zab:=
 (lR zA)
def jR:Zac:=aW 5 1 vM
def nW:Zae:=
 (gW 2 [] (CK<|aA gIx (ak 0)<|fC<|.int 3) (ou 2<|du (hName 0)<|du (hName 1) pF) fY<|aC 0)
def su (l_1:Zae):Zab:=
 (bC<|aV oO<|aj l_1 au)
def rW:Zab:=
 (su nW)
def lH:Zac:=aW 1 1 rW
def eV:Zab:=
 (aP (gIf (aY gNe (aA gIx (ak 0)<|fC<|.int 0)<|fC<|.str "move") (bC<|aC 1) gNx)
 (aP (aX 3<|aL<|aj (aA gIx (ak 0)<|fC<|.int 2)<|aj (aA gIx (aA gIx (aA gIx (ak 0)<|fC<|.int 3)<|ak 2)<|fC<|.int 0) au)
 (aP (gIf (aY gEq (aA gIx (ak 0)<|fC<|.int 1)<|fC<|.int 1) (bC<|aL<|aj (aA aJ (aA gIx (ak 1)<|fC<|.int 0)<|aL<|aj (aC 3) au)<|aj (aA gIx (ak 1)<|fC<|.int 1) au) gNx)
 (bC<|aL<|aj (aA gIx (ak 1)<|fC<|.int 0)<|aj (aA aJ (aA gIx (ak 1)<|fC<|.int 1)<|aL<|aj (aC 3) au) au))))
def eY:Zab:=
 eV
def dq:Zac:=aW 4 3 eY
def cN:Zab:=
 (Pj 1 (aA aJ (ak 3)<|aL<|aj (aC 5) au)<|fFn dq<|aj (aC 4)<|aj (aA DK (ak 1)<|ak 3)<|aj (aC 5) au)
def eZ:Zab:=
 (mZ (lV<|aj (aV cZ<|aj (fFn eG<|aj (aC 4) au) au) au) (hName 5) cN)
def bj:Zab:=
 (aP (eF 2<|aL<|aj (aC 3)<|aj (aC 4)<|aj (aA DK (ak 1)<|ak 3) au)
 eZ)
def iV:Zab:=
 (mZ (kY<|fFn jR<|aj (aC 0) au) (ou 2<|du (hName 3)<|du (hName 4) pF) bj)
def dZ (l_4:Zab):Zab:=
 (aP (dO 1<|Io (aL au)<|aL<|aj (aL au)<|aj (aL au) au)
 (aP (dO 2<|bI au)
 (aP l_4
 (rA 2))))
def jt:Zab:=
 (dZ iV)
def cY:Zac:=aW 6 1 jt
def uo (φ_words_at:Zac):Zab:=
 (bC<|aL<|aj (aA gIx (ak 0)<|fC<|.int 1)<|aj (aA gIx (ak 0)<|fC<|.int 2)<|aj (fFn φ_words_at<|aj (aC 0) au)<|aj (aA gIx (ak 1)<|aA yw (aA gIx (ak 0)<|fC<|.int 1)<|fC<|.int 1) au)
def uA:Zab:=
 (uo lH)
def mY:Zac:=aW 2 2 uA
def fK:Zab:=
 (gIf (aY gEq (aA gIx (ak 3)<|fC<|.int 0)<|fC<|.str "move") (U8 1 (aL<|aj (aA gIx (ak 3)<|fC<|.int 1)<|aj (aA gIx (ak 3)<|fC<|.int 2) au)<|fFn mY<|aj (aC 3)<|aj (aC 4) au) gNx)
def tZ:Zab:=
 (mZ (kY<|fFn cY<|aj (aC 0) au) (ou 3<|du (hName 2)<|du (hName 3)<|du (hName 4) pF) fK)
def nA (l_2:Zab):Zab:=
 (aP (dO 1 Q6)
 (aP l_2
 (rC<|Ho<|ak 1)))
def xN:Zab:=
 (nA tZ)
def oY:Zac:=aW 5 1 xN
def qe:Zae:=
 (gW 1 [1] (kY<|fFn oY<|aj (aC 0) au) (hName 0) (aY gEq (aA gIx (ak 0)<|fC<|.int 0)<|ak 1)<|aC 0)
def uR (l_1:Zae):Zab:=
 (rC l_1)
def uF:Zab:=
 (uR qe)
def fU:Zac:=aW 2 2 uF
end
end Pk
namespace Hd
noncomputable def gI (a b:Int):Int:=(si a b:Nat)
theorem S7 (ha:0<=a)(hb:0<b):gI b (a%b)=gI a b:=by
 unfold gI si;have e:(a%b).natAbs=a.natAbs%b.natAbs:=by
  obtain⟨n,rfl⟩:=sR ha;obtain⟨m,rfl⟩:=sR<|Int.le_of_lt hb;rfl
 rw[e,zw a.natAbs b.natAbs,Nat.gcd_rec b.natAbs a.natAbs,zw]
theorem Sw (ha:0<=a):gI a 0=a:=by
 unfold gI;rw[Int.gcd_zero_right]
 lia
theorem Wo (a b:Int):gI (if a<0 then -a else a) (if b<0 then -b else b)=gI a b:=by
 unfold gI si;have h:∀x:Int,(if x<0 then -x else x).natAbs=x.natAbs:=λx=>by split<;>lia
 rw[h,h]
theorem Zq (a b:Int):0<=gI a b:=Int.natCast_nonneg _
theorem HH (hb:b≠0):0<gI a b:=by
 have:0<si a b:=Nat.pos_of_ne_zero λh=>hb (Int.gcd_eq_zero_iff.mp h).2
 unfold gI;lia
theorem IW (a b:Int):gI a b ∣ a:=Int.gcd_dvd_left a b
theorem wV (a b:Int):gI a b ∣ b:=Int.gcd_dvd_right a b
theorem YJ (hb:b≠0):(gI a b).natAbs<=b.natAbs:=by
 have h:(gI a b).natAbs ∣ b.natAbs:=i5.mpr<|wV a b;exact yB (by lia) h
def dv (t b:Int):Int:=if b<0 then -gI t b else gI t b
theorem JB (hb:b≠0):dv t b≠0:=by
 have:=HH (a:=t) hb
 unfold dv;split<;>lia
theorem Oc (t b:Int):(dv t b).natAbs=(gI t b).natAbs:=by unfold dv;split<;>lia
def lt (t b:Int):Int:=t.fdiv<|dv t b
def lb (t b:Int):Int:=b.fdiv<|dv t b
theorem yF {a d q:Int}(hd:d≠0)(h:a=d*q):a.fdiv d=q:=by simp_all
theorem UT (t b:Int):dv t b ∣ t:=by
 unfold dv;split
 ·exact Int.neg_dvd.mpr<|IW t b
 ·exact IW t b
theorem PK (t b:Int):dv t b ∣ b:=by
 unfold dv;split
 ·exact Int.neg_dvd.mpr<|wV t b
 ·exact wV t b
theorem lt_mul (hb:b≠0):dv t b*lt t b=t:=by
 obtain⟨q,hq⟩:=UT t b;have e:lt t b=q:=yF (JB hb) hq;rw[e];exact hq.symm
theorem Cq (hb:b≠0):dv t b*lb t b=b:=by
 obtain⟨q,hq⟩:=PK t b;have e:lb t b=q:=yF (JB hb) hq;rw[e];exact hq.symm
theorem Ql (hb:b≠0):1<=lb t b:=by
 have e:=Cq (t:=t) hb;have g:=HH (a:=t) hb;by_cases h:lb t b<=0
 ·exfalso;unfold dv at e;split at e
  ·have:0<=-gI t b*lb t b:=Int.mul_nonneg_of_nonpos_of_nonpos (by lia) h
   lia
  ·have:gI t b*lb t b<=0:=Int.mul_nonpos_of_nonneg_of_nonpos (by lia) h
   lia
 ·lia
theorem Kr (hb:b≠0):gI (lt t b) (lb t b)=1:=by
 have e1:=lt_mul (t:=t) hb;have e2:=Cq (t:=t) hb;have g:=HH (a:=t) hb;have q:gI t b=(dv t b).natAbs*gI (lt t b) (lb t b):=by
  have:si (dv t b*lt t b) (dv t b*lb t b)=(dv t b).natAbs*si (lt t b) (lb t b):=Int.gcd_mul_left ..
  rw[e1,e2] at this;unfold gI;rw[this];push_cast;rfl
 have ed:((dv t b).natAbs:Int)=gI t b:=by rw[Oc];have:=Zq t b;lia
 rw[ed] at q;have h:gI t b*gI (lt t b) (lb t b)=gI t b*1:=by rw[Int.mul_one];exact q.symm
 exact Int.eq_of_mul_eq_mul_left (by lia) h
theorem Ad (hb:b≠0):lt t b*b=t*lb t b:=by
 have e1:=lt_mul (t:=t) hb;have e2:=Cq (t:=t) hb
 calc lt t b*b=lt t b*(dv t b*lb t b):=by rw[e2]
  _=(dv t b*lt t b)*lb t b:=by rw[← k7,kP (lt t b)<|dv t b]
  _=t*lb t b:=by rw[e1]
theorem Z2 (hb:b≠0):(lt t b).natAbs<=t.natAbs:=by
 have e:=lt_mul (t:=t) hb;have h:(lt t b).natAbs ∣ t.natAbs:=i5.mpr ⟨dv t b,by rw[kP];exact e.symm⟩;by_cases z:t=0
 ·have:lt t b=0:=by
   have e':dv t b*lt t b=0:=e.trans z;rcases Int.mul_eq_zero.mp e' with h|h
   ·exact absurd h<|JB hb
   ·exact h
  rw[this];exact eC _
 ·exact yB (by lia) h
theorem Zi (hb:b≠0):(lb t b).natAbs<=b.natAbs:=by
 have e:=Cq (t:=t) hb;have h:(lb t b).natAbs ∣ b.natAbs:=i5.mpr ⟨dv t b,by rw[kP];exact e.symm⟩;exact yB (by lia) h
theorem ph (c:si p q=1)(h:q ∣ p*s):q ∣ s:=by
 have h2:q.natAbs ∣ p.natAbs*s.natAbs:=by rw[← Int.natAbs_mul];exact i5.mpr h
 have c2:Au q.natAbs p.natAbs:=by unfold Au;rw[zw];exact c
 exact i5.mp<|Nat.Coprime.dvd_of_dvd_mul_left c2 h2
theorem xH (hq:1<=q)(hs:1<=s)(g1:gI p q=1)(g2:gI r s=1)(h:p*s=r*q):p=r/\q=s:=by
 have c1:si p q=1:=by unfold gI at g1;lia
 have c2:si r s=1:=by unfold gI at g2;lia
 have d1:q ∣ s:=by
  have:q ∣ p*s:=⟨r,by rw[h,kP]⟩
  exact ph c1 this
 have d2:s ∣ q:=by
  have:s ∣ r*q:=⟨p,by rw[← h,kP]⟩
  exact ph c2 this
 have e:q=s:=Int.dvd_antisymm (by lia) (by lia) d1 d2;subst e;exact⟨qV (by lia) h,rfl⟩
theorem UL (hq:1<=q)(g:gI p q=1):lt p q=p/\lb p q=q:=by
 have hb:q≠0:=by lia
 exact xH (Ql hb) hq (Kr hb) g<|by rw[Ad hb]
theorem Br {a b:Int}(ha:a.natAbs<2^m)(hb:b.natAbs<2^n):(a*b).natAbs<2^(m+n):=by
 rw[Int.natAbs_mul,Nat.pow_add];exact Nat.mul_lt_mul'' ha hb
theorem X4 {a b:Int}(ha:a.natAbs<2^m)(hb:b.natAbs<2^m):(a+b).natAbs<2^(m+1):=by
 rw[Nat.pow_succ]
 lia
theorem tL (h:n<2^m)(hk:m<=k):n<2^k:=bg h<|pe (by decide) hk
theorem WD (hu:u≠0)(hq:1<=q)(g:gI p q=1)(h:t*q=p*u):lt t u=p/\lb t u=q:=by
 refine xH (Ql hu) hq (Kr hu) g ?_;have e:=Ad (t:=t) hu;have e2:lt t u*q*u=p*lb t u*u:=by
  calc lt t u*q*u=lt t u*u*q:=by rw[k7,kP q u,← k7]
   _=t*lb t u*q:=by rw[e]
   _=t*q*lb t u:=by rw[k7,kP (lb t u) q,← k7]
   _=p*u*lb t u:=by rw[h]
   _=p*lb t u*u:=by rw[k7,kP u,← k7]
 exact qV hu e2
abbrev Q2:=Int×Int
end Hd
namespace F
open PySem L2 Hd
@[simp] theorem szl:ai=16777216:=by decide
theorem qX:∀{a b:List Char},a.map kB=b.map kB->a=b
 |[],[],_=>rfl
 |[],_::_,h=>by simp at h
 |_::_,[],h=>by simp at h
 |x::a,y::b,h=>by
  have h':x.toNat=y.toNat/\a.map kB=b.map kB:=by simpa using h
  rw[Char.toNat_inj.mp h'.1,qX h'.2]
@[simp] theorem aaI {a b:String}:(af a=af b)↔a=b:=by
 constructor
 ·intro h;rw[nB,nB] at h;have h2:(a.toList.map kB).toArray=(b.toList.map kB).toArray:=congrArg Str.cps h;have h3:a.toList.map kB=b.toList.map kB:=by simpa using congrArg zi h2
  exact String.toList_inj.mp<|qX h3
 ·intro h;rw[h]
mutual
def okD:D->Bool
 | .non|.bl _|.int _=>true
 | .str x=>PyData.strOk x
 | .tup xs=>M3 xs
 | .lst xs=>M3 xs
 | .exc _ _ _|.dct _ _|.dcu _ _|.dcf _ _|.adr _|.ins _ _ _=>false
def M3:List D->Bool
 |[]=>true
 |x::xs=>okD x&&M3 xs
end
mutual
def yl:D->Nat
 | .non|.bl _|.int _|.str _=>0
 | .tup xs=>z7 xs+1
 | .lst xs=>z7 xs+1
 | .exc _ _ _|.dct _ _|.dcu _ _|.dcf _ _|.adr _|.ins _ _ _=>0
def z7:List D->Nat
 |[]=>0
 |x::xs=>max (yl x)<|z7 xs
end
mutual
theorem Jd:∀d:D,okD d=true->∃p,toPy d=some p/\p.canLay0=true/\p.depth=yl d/\kA p p=true
 | .non,_=>⟨.none,by simp[toPy],by simp[ly],by simp[oz,yl],by simp[kA]⟩
 | .bl b,_=>⟨.bool b,by simp[toPy],by simp[ly],by simp[oz,yl],by simp[kA]⟩
 | .int b,_=>⟨.int b,by simp[toPy],by simp[ly],by simp[oz,yl],by simp[kA]⟩
 | .str b,h=>⟨.str b,by simp[toPy],by simpa[ly,okD] using h,by simp[oz,yl],by simp[kA]⟩
 | .tup xs,h=>by
  obtain⟨ps,h1,h2,h3,h4⟩:=wY xs (by simpa[okD] using h);exact⟨.tuple ps,by simp[toPy,h1],by simpa[ly] using h2,by simp[oz,yl,h3],by simpa[kA] using h4⟩
 | .lst xs,h=>by
  obtain⟨ps,h1,h2,h3,h4⟩:=wY xs (by simpa[okD] using h);exact⟨.list ps,by simp[toPy,h1],by simpa[ly] using h2,by simp[oz,yl,h3],by simpa[kA] using h4⟩
 | .exc _ _ _,h=>by simp[okD] at h
 | .dct _ _,h=>by simp[okD] at h
 | .dcu _ _,h=>by simp[okD] at h
 | .adr _,h=>by simp[okD] at h
 | .ins _ _ _,h=>by simp[okD] at h
 | .dcf _ _,h=>by simp[okD] at h
theorem wY:∀ds:List D,M3 ds=true->∃ps,sV ds=some ps/\sA ps=true/\vv ps=z7 ds/\sT ps ps=true
 |[],_=>⟨[],by simp[sV],by simp[sA],by simp[vv,z7],by simp[sT]⟩
 |d::ds,h=>by
  have h':okD d=true/\M3 ds=true:=by simpa[M3] using h
  obtain⟨p,h1,h2,h3,h4⟩:=Jd d h'.1;obtain⟨ps,k1,k2,k3,k4⟩:=wY ds h'.2;exact⟨p::ps,by simp[sV,h1,k1],by simp[sA,h2,k2],by simp[vv,z7,h3,k3],by simp[sT,h4,k4]⟩
end
theorem mq {d:D}(h:okD d=true)(hd:yl d<=64):mH d d=some true:=by
 obtain⟨p,h1,h2,h3,h4⟩:=Jd d h;unfold mH;rw[h1]
 have:ia p=true:=by unfold ia;rw[h2,decide_eq_true<|by omega];rfl
 simp[this,h4]
theorem Rw {d:D}(h:okD d=true)(hd:yl d<=64):gEq d d=some true:=by
 cases d with
 |non=>rfl
 |bl b=>simp[gEq]
 |int b=>simp[gEq]
 |str b=>simp[gEq]
 |tup xs=>exact mq h hd
 |lst xs=>exact mq h hd
 |exc c _ _=>simp[okD] at h
 |dct _ _=>simp[okD] at h
 |dcu _ _=>simp[okD] at h
 |adr _=>simp[okD] at h
 |ins _ _ _=>simp[okD] at h
 |dcf _ _=>simp[okD] at h
theorem Dq {d:D}(h:okD d=true)(hd:yl d<=64):gNe d d=some false:=by unfold gNe;rw[Rw h hd];rfl
@[simp] theorem aaF (i j:Int):gEq (.int i) (.int j)=some (decide<|i=j):=rfl
@[simp] theorem aaG (i j:Str):gEq (.str i) (.str j)=some (decide<|i=j):=rfl
@[simp] theorem abt (i j:Bool):gEq (.bl i) (.bl j)=some (decide<|i=j):=rfl
@[simp] theorem aaE (i j:Int):gNe (.int i) (.int j)=some (!decide (i=j)):=rfl
@[simp] theorem aaH (i j:Str):gNe (.str i) (.str j)=some (!decide (i=j)):=rfl
@[simp] theorem aa1 (i j:Bool):gNe (.bl i) (.bl j)=some (!decide (i=j)):=rfl
noncomputable def qD (d:Q2):D:=.tup [.int d.1,.int d.2]
mutual
inductive Gm where
 |fin (d:Q2)
 |deal (n:Str) (ws:Ws)
 |move (s:Int) (n:Str) (ws:Ws)
inductive Ws where
 |nil
 |cons (l:D) (g:Gm) (r:Ws)
end
mutual
def dG:Gm->D
 | .fin d=>.tup [.str "end",qD d]
 | .deal n ws=>.tup [.str "deal",.str n,.tup<|dWs ws]
 | .move s n ws=>.tup [.str "move",.int s,.str n,.tup<|dWs ws]
def dWs:Ws->List D
 | .nil=>[]
 | .cons l g r=>.tup [l,dG g]::dWs r
end
mutual
def dp:Gm->Nat
 | .fin _=>0
 | .deal _ ws=>dpW ws+1
 | .move _ _ ws=>dpW ws+1
def dpW:Ws->Nat
 | .nil=>0
 | .cons _ g r=>max (dp g)<|dpW r
end
noncomputable def km:Ws->Nat
 | .nil=>0
 | .cons _ _ r=>km r+1
theorem v5:∀ws:Ws,(dWs ws).length=km ws
 | .nil=>rfl
 | .cons l g r=>by show(dWs r).length+1=_;rw[v5 r];rfl
mutual
def kI:Gm->Prop
 | .fin _=>True
 | .deal _ ws=>km ws<=100/\w5 ws
 | .move _ _ ws=>km ws<=100/\w5 ws
def w5:Ws->Prop
 | .nil=>True
 | .cons _ g r=>kI g/\w5 r
end
theorem Lx (h:f m=.ok [.int j])(h1:-1000000000<=j)(h2:j<=1000000000):lV f m=.ok ((ip j.toNat).map λ(i:Nat)=>D.int i):=by
 unfold lV;rw[h];show(if -(2^62)<=j/\j<2^62 then _ else _)=_;rw[if_pos ⟨by lia,by lia⟩]
open PySem PySem.NumText
def dg (n:Nat):List Nat:=(vx 10 n).map kB
def sg (i:Int):List Nat:=(if i<0 then[45] else[])++dg i.natAbs
def tx (l:List Nat):Str:=⟨l.toArray⟩
theorem dY (l:List Nat):(tx l).cps.toList=l:=rfl
theorem bK (l:List Nat):(tx l).length=l.length:=by rfl
theorem tV (h:x.cps.toList=l):x=tx l:=by
 cases x with
 |mk a=>subst h;unfold tx;simp
theorem mz (a b:List Nat):tx a++tx b=tx (a++b):=tV (by show(a.toArray++b.toArray).toList=_;simp)
theorem gZ:tx a=tx b↔a=b:=⟨λh=>by have:=congrArg (λz:Str=>z.cps.toList) h;exact this,λh=>by rw[h]⟩
theorem m5:∀d:Nat,d<10->dg d=[48+d]:=by decide
theorem wy (h:10<=n):dg n=dg (n/10)++[48+n%10]:=by
 have hm:n%10<10:=Nat.mod_lt n (by decide);have t:vx 10 (n/10)++vx 10 (n%10)=vx 10 (10*(n/10)+n%10):=Nat.toDigits_append_toDigits (by decide) (by lia) hm;rw[Nat.div_add_mod] at t;have e:=m5 _ hm;unfold dg at e ⊢;rw[← t,eM,e]
theorem uJ (n:Nat):AllDigits (dg n):=by
 induction n using qk with
 |_ n ih=>
  by_cases h:n<10
  ·rw[m5 n h];intro c hc;rw[b4.mp hc]
   lia
  ·rw[wy<|by lia];intro c hc;rcases gT.mp hc with w|w
   ·exact ih (n/10) (by lia) c w
   ·rw[b4.mp w]
    lia
theorem Nh (n:Nat):dg n≠[]:=by
 by_cases h:n<10
 ·rw[m5 n h];exact List.cons_ne_nil _ _
 ·rw[wy<|by lia];simp
theorem Q7 (n:Nat):digitsVal (dg n)=n:=by
 induction n using qk with
 |_ n ih=>
  by_cases h:n<10
  ·rw[m5 n h];show 0*10+(48+n-48)=n
   lia
  ·rw[wy (by lia),digitsVal_snoc,ih (n/10)<|by lia]
   lia
theorem wX:∀(k n:Nat),n<10^(k+1)->(dg n).length<=k+1
 |0,n,h=>by rw[m5 n<|by simpa using h];exact aE _
 |k+1,n,h=>by
  by_cases z:n<10
  ·rw[m5 n z];simp
  ·rw[wy (by lia),a9]
   have:=wX k (n/10) (by rw[Nat.pow_succ] at h;lia)
   simp
   lia
theorem Iz (n:Nat):1<=(dg n).length:=by
 have:=Nh n
 cases h:dg n with
 |nil=>exact absurd h this
 |cons a b=>simp
theorem YH (i:Int):af (toString i)=tx (sg i):=by
 rw[nB];unfold tx sg dg;congr 2
 match i with
 | .ofNat m=>
  show(Nat.repr m).toList.map kB=_;rw[Nat.toList_repr];rfl
 | .negSucc m=>
  show("-"++Nat.repr (m+1)).toList.map kB=_;rw[String.toList_append,Nat.toList_repr];rw[if_pos<|Int.negSucc_lt_zero m];rfl
theorem QL (h:i.natAbs<10^30):intText? (tx<|sg i)=some i/\(tx<|sg i).length<=31:=by
 have hl:=wX 29 i.natAbs h;have hz:(tx<|sg i).length<=31:=by
  rw[bK];unfold sg;rw[a9];split<;>simp<;>lia
 refine⟨?_,hz⟩;by_cases n:i<0
 ·have e:sg i=45::dg i.natAbs:=by unfold sg;rw[if_pos n];rfl
  rw[intText_neg (x:=tx<|sg i) (cs:=dg i.natAbs) (by rw[dY,e]) (uJ _) (Nh _) (by lia),Q7];congr 1
  lia
 ·have e:sg i=dg i.natAbs:=by unfold sg;rw[if_neg n];rfl
  rw[intText_digits (x:=tx<|sg i) (by rw[dY,e];exact uJ _) (by rw[dY,e];exact Nh _) (by lia),dY,e,Q7];congr 1
  lia
theorem xT:StrLaws.At x ⟨#[c]⟩ x.length i↔x.cps.toList[i]? = some c:=StrLaws.subAt_one x c i
theorem Ra (h:c∉l):cq (tx l) ⟨#[c]⟩ 0 (tx l).length 1=[]:=by
 rcases tz (tx l) ⟨#[c]⟩ 1 (aE 1) with⟨h0,_⟩|⟨i,r,h0,hi,hn⟩
 ·exact h0
 ·have:=xT.mp hi
  exact absurd (fN this) h
theorem Vi (h:c∈l):(cq (tx l) ⟨#[c]⟩ 0 (tx l).length 1).isEmpty=false:=by
 rcases tz (tx l) ⟨#[c]⟩ 1 (aE 1) with⟨h0,hn⟩|⟨i,r,h0,hi,hn⟩
 ·obtain⟨j,hj⟩:=List.getElem?_of_mem h;exact absurd (xT.mpr hj)<|hn j
 ·rw[h0];rfl
theorem X7 (h:c∉a):∃r,cq (tx (a++c::b)) ⟨#[c]⟩ 0 (tx (a++c::b)).length 1=a.length::r:=by
 rcases tz (tx (a++c::b)) ⟨#[c]⟩ 1 (aE 1) with⟨h0,hn⟩|⟨i,r,h0,hi,hn⟩
 ·exact absurd (xT.mpr<|show(a++c::b)[a.length]? = some c by simp) (hn a.length)
 ·refine⟨r,?_⟩;have e:i=a.length:=by
   by_cases z:i<a.length
   ·have:=xT.mp hi
    have w:(a++c::b)[i]? = some c:=this;rw[b6 z] at w;exact absurd (fN w) h
   ·by_cases y:a.length<i
    ·exact absurd (xT.mpr<|show(a++c::b)[a.length]? = some c by simp) (hn _ y)
    ·lia
  rw[h0,e]
end F
namespace Pk
open PySem L2 Hd F
noncomputable def jn:Ws->List Gm
 | .nil=>[]
 | .cons _ g r=>g::jn r
def kids:Gm->List Gm
 | .fin _=>[]
 | .deal _ ws=>jn ws
 | .move _ _ ws=>jn ws
mutual
def szG:Gm->Nat
 | .fin _=>1
 | .deal _ ws=>szW ws+1
 | .move _ _ ws=>szW ws+1
def szW:Ws->Nat
 | .nil=>0
 | .cons _ g r=>szG g+szW r
end
theorem wu (g:Gm):1<=szG g:=by cases g<;>simp[szG]
mutual
def plG:List Int->Gm->List (List Int×Gm)
 |w,.fin d=>[(w,.fin d)]
 |w,.deal n ws=>(w,.deal n ws)::plW w 0 ws
 |w,.move s n ws=>(w,.move s n ws)::plW w 0 ws
def plW:List Int->Nat->Ws->List (List Int×Gm)
 |_,_,.nil=>[]
 |w,i,.cons _ g r=>plG (w++[(i:Int)]) g++plW w (i+1) r
end
def pD (p:List Int×Gm):D:=.tup [.tup<|p.1.map .int,dG p.2]
def bh (w:List Int)(g:Gm):List (List Int×Gm):=(kids g).zipIdx.map λp=>(w++[(p.2:Int)],p.1)
theorem HX (w:List Int):∀(i:Nat) (ws:Ws),plW w i ws=(((jn ws).zipIdx i).map λp=>(w++[(p.2:Int)],p.1)).flatMap λp=>plG p.1 p.2
 |i,.nil=>rfl
 |i,.cons l g r=>by
  show plG (w++[(i:Int)]) g++plW w (i+1) r=_;rw[HX w (i+1) r];rfl
theorem Wu (w:List Int)(g:Gm):plG w g=(w,g)::(bh w g).flatMap λp=>plG p.1 p.2:=by
 cases g with
 |fin d=>rfl
 |deal n ws=>show(w,Gm.deal n ws)::plW w 0 ws=_;rw[HX];rfl
 |move s n ws=>show(w,Gm.move s n ws)::plW w 0 ws=_;rw[HX];rfl
theorem vq:∀ws:Ws,szW ws=((jn ws).map szG).sum
 | .nil=>rfl
 | .cons l g r=>by show szG g+szW r=_;rw[vq r];rfl
theorem X5 (g:Gm):szG g=((kids g).map szG).sum+1:=by
 cases g with
 |fin d=>rfl
 |deal n ws=>show szW ws+1=_;rw[vq];rfl
 |move s n ws=>show szW ws+1=_;rw[vq];rfl
theorem gQ:∀ws:Ws,(jn ws).length=km ws
 | .nil=>rfl
 | .cons l g r=>by show(jn r).length+1=_;rw[gQ r];rfl
theorem sH:∀{ws:Ws} {g:Gm},w5 ws->g∈jn ws->kI g
 | .cons l k r,g,h,hg=>by
  rcases bP.mp hg with w|w
  ·rw[w];exact h.1
  ·exact sH h.2 w
theorem M9 (h:kI g)(hk:k∈kids g):kI k/\(kids g).length<=100:=by
 cases g with
 |fin d=>cases hk
 |deal n ws=>exact⟨sH h.2 hk,by show(jn ws).length<=100;rw[gQ];exact h.1⟩
 |move s n ws=>exact⟨sH h.2 hk,by show(jn ws).length<=100;rw[gQ];exact h.1⟩
theorem yH (h:kI g):(kids g).length<=100:=by
 cases g with
 |fin d=>exact eC _
 |deal n ws=>show(jn ws).length<=100;rw[gQ];exact h.1
 |move s n ws=>show(jn ws).length<=100;rw[gQ];exact h.1
theorem vf:∀ws:Ws,ig (ou 2<|du (hName 0)<|du (hName 1) pF) fY (aC 1) [.un,.un] (dWs ws)=.ok ((jn ws).map dG)
 | .nil=>rfl
 | .cons l g r=>by
  have ih:=vf r;have e:aC 1 [.fz l,.fz<|dG g]=.ok (dG g):=rfl;unfold dWs ig;simp[ou,du,hName,pF,fY,e,ih,jn]
theorem Bm (q:Q [.fz<|dG g]=.ok (.lst<|(kids g).map dG)\/kids g=[]/\∃d,g=.fin d):aW 1 1 (fW Q) [dG g]=.ok (true,.lst<|(kids g).map dG):=by
 have x2:∀a b:D,atI [a,b] 0=some a:=λ_ _=>rfl;have x3:∀a b c:D,atI [a,b,c] 0=some a:=λ_ _ _=>rfl;have x4:∀a b c d:D,atI [a,b,c,d] 0=some a:=λ_ _ _ _=>rfl;cases g with
 |fin d=>simp[aW,fW,aP,gIf,aY,aA,ak,fC,gIx,dG,x2,rC,Me.let,Sl.let,bI,au,kids]
 |deal n ws=>
  rcases q with q|⟨_,d,e⟩
  ·have q':=q;simp only[dG] at q';simp[aW,fW,aP,gIf,aY,aA,ak,fC,gIx,dG,x3,rC,Me.let,Sl.let,q',gNx]
  ·cases e
 |move s n ws=>
  rcases q with q|⟨_,d,e⟩
  ·have q':=q;simp only[dG] at q';simp[aW,fW,aP,gIf,aY,aA,ak,fC,gIx,dG,x4,rC,Me.let,Sl.let,q',gNx]
  ·cases e
theorem vA (h:kI g):eG [dG g]=.ok (true,.lst<|(kids g).map dG):=by
 have x3:∀a b c:D,atI [a,b,c] (-1)=some c:=λ_ _ _=>rfl;have x4:∀a b c d:D,atI [a,b,c,d] (-1)=some d:=λ_ _ _ _=>rfl;refine Bm ?_;cases g with
 |fin d=>exact .inr ⟨rfl,d,rfl⟩
 |deal n ws=>
  have hz:(dWs ws).length<=16777216:=by rw[v5];have:=h.1;lia
  left;simp[jZ,gW,CK,aA,ak,fUn,wJ,fC,gIx,dG,x3,cMe,hz,vf,kids]
 |move s n ws=>
  have hz:(dWs ws).length<=16777216:=by rw[v5];have:=h.1;lia
  left;simp[jZ,gW,CK,aA,ak,fUn,wJ,fC,gIx,dG,x4,cMe,hz,vf,kids]
theorem Ml (ks:List Gm):wO (ks.map dG)=ks.zipIdx.map λp=>D.tup [.int (p.2:Int),dG p.1]:=by
 unfold wO;rw[List.mapIdx_eq_zipIdx_map,List.zipIdx_map,ml];rfl
theorem qO:∀l:List α,(∀c∈l,∃m1,h (g c) m0=some m1/\ft m1=.ok true/\fe m1=.ok (f c))->ig h ft fe m0 (l.map g)=.ok (l.map f)
 |[],_=>rfl
 |d::ds,H=>by
  obtain⟨m1,e1,e2,e3⟩:=H d cy;have ih:=qO ds λd hd=>H d<|be _ hd;rw[bo];unfold ig;simp only[e1,e2,e3,ih,bo]
theorem Le (h:kI g)(hw:w.length<=1000):jP [a,s1,s2,.fz<|pD (w,g),s4]=.ok (.lst<|(bh w g).map pD):=by
 have hb:=vA h;have hl:=yH h;have x0:∀a b:D,atI [a,b] 0=some a:=λ_ _=>rfl;have x1:∀a b:D,atI [a,b] 1=some b:=λ_ _=>rfl;have e:ig (ou 2<|du (hName 0)<|du (hName 1) pF) fY mO [.un,.un,.fz<|pD (w,g)] ((kids g).zipIdx.map λp=>D.tup [.int (p.2:Int),dG p.1])=.ok ((kids g).zipIdx.map λp=>pD (w++[(p.2:Int)],p.1)):=qO _ λp hp=>by
  refine⟨[.fz<|.int (p.2:Int),.fz<|dG p.1,.fz<|pD (w,g)],rfl,rfl,?_⟩;have hz:(w.map D.int).length+1<=16777216:=by rw[cp];lia
  have hz':w.length+1<=16777216:=by lia
  simp[mO,aL,aj,au,aA,ak,aC,fC,gIx,pD,x0,aJ,hz']
 have hz:(kids g).length<=16777216:=by lia
 have e':((bh w g).map pD)=(kids g).zipIdx.map λp=>pD (w++[(p.2:Int)],p.1):=by unfold bh;rw[ml];rfl
 rw[e'];simp only[pD] at e ⊢;simp[jP,gW,XD,aj,au,fFn,aA,ak,fC,gIx,x1,hb,Ml,cMe,Sl.bor,hz,e]
noncomputable def szS (st:List (List Int×Gm)):Nat:=(st.map λp=>szG p.2).sum
theorem XX (w:List Int)(g:Gm):szS (bh w g)+1=szG g:=by
 rw[X5];unfold szS bh;rw[ml];congr 2
 have:((λp:List Int×Gm=>szG p.2)∘λp:Gm×Nat=>(w++[(p.2:Int)],p.1))=szG∘AF:=rfl
 rw[this,← ml,qq]
theorem JF:∀st:List (List Int×Gm),st.length<=szS st
 |[]=>eC _
 |p::st=>by
  have:=JF st
  have:=wu p.2
  show st.length+1<=szG p.2+szS st
  lia
theorem K8 (a b:List (List Int×Gm)):szS (a++b)=szS a+szS b:=by unfold szS;rw[eM,List.sum_append]
theorem Ji (h1:t m=.ok true)(h2:b m=.ok (.nx,m'))(h3:wh t b n m'=some r):wh t b (n+1) m=some r:=by
 unfold wh;rw[h1,h2];exact h3
theorem Kl (h1:t m=.ok false):wh t b 1 m=some (.ok (.nx,m)):=by
 unfold wh;rw[h1]
theorem Tp (h:kI g)(hw:w.length<=1000)(hz:done.length+st.length<=10000000):
  jN [a,.ow<|.lst<|done.map pD,.ow<|.lst<|(((w,g)::st).map pD).reverse,s3,s4]=.ok (.nx,[a,.ow<|.lst<|(done++[(w,g)]).map pD,.ow<|.lst<|((bh w g++st).map pD).reverse,.fz<|pD (w,g),.fz<|.lst<|(bh w g).map pD]):=by
 have hl:=yH h;have hb:(bh w g).length=(kids g).length:=by unfold bh;simp
 have q:∀s1 s2 s4,jP [a,s1,s2,.fz<|pD (w,g),s4]=.ok (.lst<|(bh w g).map pD):=λs1 s2 s4=>Le h hw;have l1:((st.map pD).reverse++[pD (w,g)]).length-1=(st.map pD).reverse.length:=by simp
 have g1:((st.map pD).reverse++[pD (w,g)])[((st.map pD).reverse++[pD (w,g)]).length-1]? = some (pD (w,g)):=by rw[l1];simp
 have d1:((st.map pD).reverse++[pD (w,g)]).dropLast=(st.map pD).reverse:=List.dropLast_concat;have z1:done.length<16777216:=by lia
 have z2:st.length+(bh w g).length<=16777216:=by rw[hb];lia
 rw[bo,kU];generalize hS:(st.map pD).reverse=S at *;have lS:S.length=st.length:=by rw[← hS];simp
 have e2:((bh w g++st).map pD).reverse=S++((bh w g).map pD).reverse:=by rw[eM,List.reverse_append,hS]
 rw[e2];have g1':(S++[pD (w,g)])[S.length]? = some (pD (w,g)):=by simp
 simp[jN,aP,Cz,xV,putL,eF,aC,aX,q,Aw,aV,aj,au,ak,Qw,z1,lS,z2]
theorem Tw (h:kI g):∀p∈bh w g,kI p.2/\p.1.length=w.length+1:=λp hp=>by
 unfold bh at hp;obtain⟨q,hq,rfl⟩:=oB.mp hp
 have:q.1∈kids g:=by have:=xB (f:=AF) hq;rwa [qq] at this
 exact⟨(M9 h this).1,by simp⟩
theorem RT (hk:k∈kids g):dp k<dp g:=by
 have aux:∀{ws:Ws},k∈jn ws->dp k<=dpW ws:=by
  intro ws;induction ws using Ws.rec (motive_1:=λ_=>True) with
  |nil=>intro h;cases h
  |cons l g r _ ih=>
   intro h;show dp k<=max (dp g) (dpW r);rcases bP.mp h with w|w
   ·rw[w];exact Nat.le_max_left _ _
   ·exact fT (ih w)<|Nat.le_max_right _ _
  |fin=>trivial
  |deal=>trivial
  |move=>trivial
 cases g with
 |fin d=>cases hk
 |deal n ws=>exact Nat.lt_succ_of_le (aux hk)
 |move s n ws=>exact Nat.lt_succ_of_le (aux hk)
theorem ZV:∀p∈bh w g,dp p.2<dp g:=λp hp=>by
 unfold bh at hp;obtain⟨q,hq,rfl⟩:=oB.mp hp
 have:q.1∈kids g:=by have:=xB (f:=AF) hq;rwa [qq] at this
 exact RT this
theorem Uh (a:Sl):∀(N:Nat) (done st:List (List Int×Gm)) (s3 s4:Sl),szS st=N->(∀p∈st,kI p.2/\p.1.length+dp p.2<=100)->done.length+szS st<=10000000->
  ∃k s3' s4',wh jL jN k [a,.ow<|.lst<|done.map pD,.ow<|.lst<|(st.map pD).reverse,s3,s4]=some (.ok (.nx,[a,.ow<|.lst<|(done++st.flatMap λp=>plG p.1 p.2).map pD,.ow<|.lst [],s3',s4'])):=by
 intro N;induction N using qk with
 |_ N ih=>
  intro done st s3 s4 hN hs hz;cases st with
  |nil=>
   refine⟨1,s3,s4,?_⟩;simp only[uj,List.reverse_nil,List.flatMap_nil,cw];exact Kl<|by simp[jL,aY,aV,cZ,aj,au,ak,fC,gGt]
  |cons p st=>
   obtain⟨w,g⟩:=p;have h1:kI g/\w.length+dp g<=100:=hs (w,g) (by simp);have sb:=XX w g;have hsum:szS ((w,g)::st)=szG g+szS st:=rfl;have ls:=JF st;have gp:=wu g;obtain⟨k,t3,t4,e⟩:=ih (szS<|bh w g++st) (by rw[K8];lia) (done++[(w,g)]) (bh w g++st) (.fz<|pD (w,g)) (.fz<|.lst<|(bh w g).map pD) rfl (λp hp=>by
    rcases gT.mp hp with v|v
    ·have v1:=Tw h1.1 p v;have v2:=ZV p v;exact⟨v1.1,by lia⟩
    ·exact hs p<|by simp[v]) (by rw[K8,a9];simp;lia)
   refine⟨k+1,t3,t4,?_⟩;have e3:done++((w,g)::st).flatMap (λp=>plG p.1 p.2)=done++[(w,g)]++(bh w g++st).flatMap λp=>plG p.1 p.2:=by
    rw[List.flatMap_cons,List.flatMap_append,Wu]
    simp
   rw[e3];refine Ji ?_ (Tp h1.1 (by lia)<|by lia) e;simp[jL,aY,aV,cZ,aj,au,ak,fC,gGt]
theorem GD (e:L [.fz d,.ow<|.lst [],.ow<|.lst [.tup [.tup [],d]],.un,.un]=.ok (.nx,[.fz d,.ow<|.lst ps,.ow<|.lst [],s3,s4])):aW 5 1 (lR L) [d]=.ok (true,.lst ps):=by
 simp[aW,lR,aP,dO,bI,aj,au,aL,aC,e,rA]
theorem places_eq (h:kI g)(hd:dp g<=50)(hz:szG g<=10000000):jR [dG g]=.ok (true,.lst<|(plG [] g).map pD):=by
 obtain⟨k,s3,s4,e⟩:=Uh (.fz<|dG g) _ [] [([],g)] .un .un rfl (λp hp=>by rw[b4.mp hp];exact⟨h,by simp;lia⟩) (by show 0+(szG g+0)<=_;lia);have e2:=Af k e;simp only[List.nil_append,List.flatMap_cons,List.flatMap_nil,cw] at e2;exact GD (s3:=s3) (s4:=s4) e2
noncomputable def kw (w:List Int):List Kt:=w.map λi=>.k<|.inl i
theorem Bp:∀{v w:List Int},kw v=kw w->v=w
 |[],[],_=>rfl
 |[],_::_,h=>by cases h
 |_::_,[],h=>by cases h
 |a::v,b::w,h=>by
  have h:(Kt.k (.inl a):Kt)::kw v=Kt.k (.inl b)::kw w:=h;injection h with h1 h2
  injection h1 with h1
  injection h1 with h1
  rw[h1,Bp h2]
theorem Wd:∀w:List Int,oM (ktD 7) (w.map D.int)=some (kw w)
 |[]=>rfl
 |a::w=>by
  show((ktD 7<|.int a).bind λk=>(oM (ktD 7)<|w.map D.int).map λks=>k::ks)=_;rw[Wd w];rfl
theorem Nu (w:List Int):yt (.tup<|w.map D.int)=some (kw w):=Wd w
theorem Ey:∀{ks:List (List Kt)} {ds:List D},ks.length=ds.length->k∈ks->eN ks (qZ ks ds k d) k'=if k=k' then some d else eN ks ds k'
 |[],_,_,h=>by cases h
 |a::ks,[],h,_=>by simp at h
 |a::ks,x::ds,h,hk=>by
  have hl:ks.length=ds.length:=by simpa using h
  unfold qZ eN;by_cases h1:a=k'
  ·rw[if_pos h1,if_pos h1];by_cases h2:a=k
   ·rw[if_pos h2,if_pos<|h2▸h1]
   ·rw[if_neg h2,if_neg λe=>h2<|by rw[h1,e]]
  ·rw[if_neg h1,if_neg h1];by_cases h2:k∈ks
   ·exact Ey hl h2
   ·have h3:a=k:=by
     rcases bP.mp hk with e|e
     ·exact e.symm
     ·exact absurd e h2
    have h4:k≠k':=λe=>h1 (by rw[h3,e]);rw[if_neg h4];have e:∀{ks:List (List Kt)} {ds:List D},k∉ks->ks.length=ds.length->qZ ks ds k d=ds:=by
     intro ks;induction ks with
     |nil=>intro ds _ hl;cases ds with
      |nil=>rfl
      |cons _ _=>simp at hl
     |cons b ks ih=>intro ds hn hl;cases ds with
      |nil=>simp at hl
      |cons y ds=>
       unfold qZ;rw[if_neg λ(e:b=k)=>hn<|e▸cy,ih (λe=>hn<|be _ e)<|by simpa using hl]
    rw[e h2 hl]
theorem Kh:∀{ks:List (List Kt)} {ds:List D},ks.length=ds.length->k∉ks->eN (ks++[k]) (ds++[d]) k'=if k=k' then some d else eN ks ds k'
 |[],[],_,_=>by simp[eN]
 |[],_::_,h,_=>by simp at h
 |a::ks,[],h,_=>by simp at h
 |a::ks,x::ds,h,hk=>by
  have ih:=Kh (k:=k) (k':=k') (d:=d) (ks:=ks) (ds:=ds) (by simpa using h) λe=>hk<|be _ e;have hn:a≠k:=λe=>hk<|e▸cy;show eN (a::(ks++[k])) (x::(ds++[d])) k'=_;unfold eN;rw[ih];by_cases h1:a=k'
  ·rw[if_pos h1,if_neg λe=>hn (by rw[h1,e]),if_pos h1]
  ·rw[if_neg h1,if_neg h1]
theorem K1 {ks:List (List Kt)}:ks.any (λx=>decide<|x=k)=true↔k∈ks:=by simp_all
theorem DN:∀{ks:List (List Kt)} {ds:List D},ks.length=ds.length->(qZ ks ds k d).length=ks.length
 |[],[],_=>rfl
 |[],_::_,h=>by simp at h
 |a::ks,[],h=>by simp at h
 |a::ks,x::ds,h=>by
  have:=DN (k:=k) (d:=d) (ks:=ks) (ds:=ds)<|by simpa using h
  simp[qZ,this]
theorem Dl {ks:List (List Kt)}{ds:List D}(hl:ks.length=ds.length):eN (qU ks ds k d).1 (qU ks ds k d).2 k'=if k=k' then some d else eN ks ds k':=by
 unfold qU;by_cases h:ks.any (λx=>decide<|x=k)=true
 ·rw[if_pos h];exact Ey hl<|K1.mp h
 ·rw[if_neg h];exact Kh hl λz=>h<|K1.mpr z
theorem RL (hl:ks.length=ds.length):(qU ks ds k d).1.length=(qU ks ds k d).2.length/\(qU ks ds k d).1.length<=ks.length+1:=by
 unfold qU;by_cases h:ks.any (λx=>decide<|x=k)=true
 ·rw[if_pos h];exact⟨(DN hl).symm,by simp⟩
 ·rw[if_neg h];exact⟨by simp[hl],by simp⟩
theorem dM (h1:h d m=some m1)(h2:g m1=.ok (.nx,m2)):cV h g (d::ds) m=cV h g ds m2:=by
 rw[cV,h1];simp only[h2]
abbrev Rc:=List D×List D
noncomputable def rD2 (r:Rc):D:=.tup [.tup r.1,.tup r.2]
noncomputable def rbm (s:Int)(n:Str)(r:Rc)(l:D):Rc:=if s=1 then(r.1++[.tup [.str n,l]],r.2) else(r.1,r.2++[.tup [.str n,l]])
noncomputable def ju:Ws->List D
 | .nil=>[]
 | .cons l _ r=>l::ju r
def rbg:Gm->Rc->D->Rc
 | .move s n _,r,l=>rbm s n r l
 |_,r,_=>r
noncomputable def vV:Gm->Ws
 | .fin _=>.nil
 | .deal _ ws=>ws
 | .move _ _ ws=>ws
mutual
def prG:List Int->Rc->Gm->List (List Int×Gm×Rc)
 |w,r,.fin d=>[(w,.fin d,r)]
 |w,r,.deal n ws=>(w,.deal n ws,r)::prW w (λ_=>r) 0 ws
 |w,r,.move s n ws=>(w,.move s n ws,r)::prW w (rbm s n r) 0 ws
def prW:List Int->(D->Rc)->Nat->Ws->List (List Int×Gm×Rc)
 |_,_,_,.nil=>[]
 |w,f,i,.cons l g r=>prG (w++[(i:Int)]) (f l) g++prW w f (i+1) r
end
mutual
theorem Nt:∀(w:List Int) (r:Rc) (g:Gm),(prG w r g).map (λp=>(p.1,p.2.1))=plG w g
 |w,r,.fin d=>rfl
 |w,r,.deal n ws=>by
  show(w,Gm.deal n ws)::(prW w (λ_=>r) 0 ws).map _=(w,Gm.deal n ws)::plW w 0 ws;rw[Hn w _ 0 ws]
 |w,r,.move s n ws=>by
  show(w,Gm.move s n ws)::(prW w (rbm s n r) 0 ws).map _=(w,Gm.move s n ws)::plW w 0 ws;rw[Hn w _ 0 ws]
theorem Hn:∀(w:List Int) (f:D->Rc) (i:Nat) (ws:Ws),(prW w f i ws).map (λp=>(p.1,p.2.1))=plW w i ws
 |w,f,i,.nil=>rfl
 |w,f,i,.cons l g r=>by
  show(prG (w++[(i:Int)]) (f l) g++prW w f (i+1) r).map _=plG (w++[(i:Int)]) g++plW w (i+1) r;rw[eM,Nt _ _ g,Hn w f (i+1) r]
end
def trD (p:List Int×Gm×Rc):D:=.tup [.tup<|p.1.map D.int,dG p.2.1,rD2 p.2.2]
theorem Ky:∀(ws:Ws) (k:Nat) (l:D),(ju ws)[k]? = some l->∃g,(dWs ws)[k]? = some (.tup [l,g])
 | .nil,k,l,h=>by simp[ju] at h
 | .cons a g r,0,l,h=>by
  have:a=l:=by simpa[ju] using h
  exact⟨dG g,by simp[dWs,this]⟩
 | .cons a g r,k+1,l,h=>by
  obtain⟨x,e⟩:=Ky r k l (by simpa[ju] using h);exact⟨x,by simpa[dWs] using e⟩
theorem tH:∀ws:Ws,(ju ws).length=km ws
 | .nil=>rfl
 | .cons _ _ r=>by simp[ju,km,tH r]
theorem YT {g:Gm}{r:Rc}{k:Nat}{l:D}(hl:(ju<|vV g)[k]? = some l)(hg:kI g)(hr:r.1.length<=1000/\r.2.length<=1000)(hs:∀s n ws,g=.move s n ws->s=1\/s=2):
  dq [dG g,rD2 r,.int (k:Int)]=.ok (false,rD2<|rbg g r l):=by
 have x30:∀a b c:D,atI [a,b,c] 0=some a:=λ_ _ _=>rfl;have x40:∀a b c d:D,atI [a,b,c,d] 0=some a:=λ_ _ _ _=>rfl;have x41:∀a b c d:D,atI [a,b,c,d] 1=some b:=λ_ _ _ _=>rfl;have x42:∀a b c d:D,atI [a,b,c,d] 2=some c:=λ_ _ _ _=>rfl;have x43:∀a b c d:D,atI [a,b,c,d] 3=some d:=λ_ _ _ _=>rfl;have x20:∀a b:D,atI [a,b] 0=some a:=λ_ _=>rfl;have x21:∀a b:D,atI [a,b] 1=some b:=λ_ _=>rfl;cases g with
 |fin d=>simp[vV,ju] at hl
 |deal n ws=>simp[dq,eY,eV,aW,aP,gIf,aY,aA,ak,fC,gIx,dG,x30,bC,aC,Me.let,Sl.let,rbg]
 |move s n ws=>
  obtain⟨y,ey⟩:=Ky ws k l hl;have ez:=BL ey;have z1:r.1.length+1<=16777216:=by lia
  have z2:r.2.length+1<=16777216:=by lia
  rcases hs s n ws rfl with rfl|rfl
  ·simp[dq,eY,eV,aW,aP,gIf,aY,aA,ak,fC,gIx,dG,x40,x41,x42,x43,bC,aC,Me.let,Sl.let,rbg,gNx,aX,aL,aj,au,ez,x20,x21,rD2,aJ,z1,rbm]
  ·simp[dq,eY,eV,aW,aP,gIf,aY,aA,ak,fC,gIx,dG,x40,x41,x42,x43,bC,aC,Me.let,Sl.let,rbg,gNx,aX,aL,aj,au,ez,x20,x21,rD2,aJ,z2,rbm]
theorem Zz (w:List Int)(j:Int):kw (w++[j])≠kw w:=λh=>by
 have:=Bp h
 have:=congrArg sL this
 simp at this
theorem XR (h:i≠j):kw (w++[i])≠kw (w++[j]):=λe=>h<|by simpa using Bp e
theorem QX {g0 s2 s5:Sl}{ks:List (List Kt)}{ds:List D}{w:List Int}{g:Gm}{r:Rc}{k:Nat}{l:D}(hv:eN ks ds (kw w)=some (rD2 r))(hk:(ju<|vV g)[k]? = some l)(hg:kI g)(hr:r.1.length<=1000/\r.2.length<=1000)
  (hs:∀s n ws,g=.move s n ws->s=1\/s=2) (hz:ks.length<=10000000) (hw:w.length<=1000):
  cN [g0,.ow<|.dcu ks ds,s2,.fz<|.tup<|w.map D.int,.fz<|dG g,.fz<|.int (k:Int)]=.ok (.nx,[g0,.ow<|.dcu (qU ks ds (kw<|w++[(k:Int)])<|rD2<|rbg g r l).1 (qU ks ds (kw<|w++[(k:Int)])<|rD2<|rbg g r l).2,s2,.fz<|.tup<|w.map D.int,.fz<|dG g,.fz<|.int (k:Int)]):=by
 have e:=YT hk hg hr hs;have z1:ks.length<16777216:=by lia
 have z2:w.length+1<=16777216:=by lia
 have kk:yt (.tup<|w.map D.int++[.int (k:Int)])=some (kw<|w++[(k:Int)]):=by
  rw[← Nu];simp
 have kk2:yt (.tup<|w.map D.int)=some (kw w):=Nu w;simp[cN,Pj,fFn,aj,au,aC,aA,ak,DK,dcK,kk2,hv,e,HR,aL,aJ,z2,kk,z1,sY]
theorem Dt {g0 s2:Sl}{w:List Int}{g:Gm}{r:Rc}(hg:kI g)(hr:r.1.length<=1000/\r.2.length<=1000)(hs:∀s n ws,g=.move s n ws->s=1\/s=2)(hw:w.length<=1000):
  ∀(c i:Nat) (ks:List (List Kt)) (ds:List D) (s5:Sl),i+c=(ju<|vV g).length->ks.length=ds.length->eN ks ds (kw w)=some (rD2 r)->ks.length+c<=1000000->
   ∃ks' ds' s5',cV (hName 5) cN ((l7 i c).map λ(k:Nat)=>D.int k) [g0,.ow<|.dcu ks ds,s2,.fz<|.tup<|w.map D.int,.fz<|dG g,s5]=.ok (.nx,[g0,.ow<|.dcu ks' ds',s2,.fz<|.tup<|w.map D.int,.fz<|dG g,s5'])/\ks'.length=ds'.length/\ks'.length<=ks.length+c/\
    (∀j l,i<=j->(ju<|vV g)[j]? = some l->eN ks' ds' (kw<|w++[(j:Int)])=some (rD2<|rbg g r l))/\(∀k',(∀j:Nat,i<=j->k'≠kw (w++[(j:Int)]))->eN ks' ds' k'=eN ks ds k')
 |0,i,ks,ds,s5,hc,hl,hv,hz=>⟨ks,ds,s5,rfl,hl,by lia,λj l h1 h2=>by
   have:=(dS.mp h2).1
   lia,λ_ _=>rfl⟩
 |c+1,i,ks,ds,s5,hc,hl,hv,hz=>by
  have hi:i<(ju<|vV g).length:=by lia
  obtain⟨l,el⟩:∃l,(ju<|vV g)[i]? = some l:=⟨_,cn hi⟩;have st:=QX (g0:=g0) (s2:=s2) (s5:=s5) hv el hg hr hs (by lia) hw;have hv1:eN (qU ks ds (kw<|w++[(i:Int)])<|rD2<|rbg g r l).1 (qU ks ds (kw<|w++[(i:Int)])<|rD2<|rbg g r l).2 (kw w)=some (rD2 r):=by rw[Dl hl,if_neg<|Zz w i];exact hv
  obtain⟨l1,l2⟩:=RL (k:=kw<|w++[(i:Int)]) (d:=rD2<|rbg g r l) hl;refine Qy (Dt (g0:=g0) (s2:=s2) (w:=w) (g:=g) (r:=r) hg hr hs hw c (i+1) _ _ (.fz<|.int (i:Int)) (by lia) l1 hv1<|by lia) λks' ds' s5' e a1 a2 a3 a4=>?_;refine⟨ks',ds',s5',?_,a1,by lia,λj l' h1 h2=>?_,λk' h=>?_⟩
  ·rw[oT,bo];rw[dM (m1:=[g0,.ow<|.dcu ks ds,s2,.fz<|.tup<|w.map D.int,.fz<|dG g,.fz<|.int (i:Int)]) rfl st];exact e
  ·by_cases q:i=j
   ·subst q;rw[a4 _ λj hj=>XR (by lia),Dl hl,if_pos rfl];rw[el] at h2;cases h2;rfl
   ·exact a3 j l' (by lia) h2
  ·rw[a4 k' λj hj=>h j (by lia),Dl hl,if_neg λq=>h i (aE _) q.symm]
mutual
def sdG:Gm->Prop
 | .fin _=>True
 | .deal _ ws=>sdW ws
 | .move s _ ws=>(s=1\/s=2)/\sdW ws
def sdW:Ws->Prop
 | .nil=>True
 | .cons _ g r=>sdG g/\sdW r
end
abbrev hPl:Zba:=ou 2<|du (hName 3)<|du (hName 4) pF
theorem Uv (g:Gm):kids g=jn (vV g):=by cases g<;>rfl
theorem yr (hl:ks.length=ds.length)(hv:eN ks ds (kw w)=some (rD2 r))(hg:kI g)(hr:r.1.length<=1000/\r.2.length<=1000)
  (hs:∀s n ws,g=.move s n ws->s=1\/s=2) (hz:ks.length<=100000) (hf:found.length<=100000) (hw:w.length<=1000):
  ∃ks' ds' s5',(hPl (pD (w,g)) [g0,.ow<|.dcu ks ds,.ow<|.lst found,s3,s4,s5]=some [g0,.ow<|.dcu ks ds,.ow<|.lst found,.fz<|.tup<|w.map D.int,.fz<|dG g,s5])/\
   bj [g0,.ow<|.dcu ks ds,.ow<|.lst found,.fz<|.tup<|w.map D.int,.fz<|dG g,s5]=.ok (.nx,[g0,.ow<|.dcu ks' ds',.ow<|.lst<|found++[trD (w,g,r)],.fz<|.tup<|w.map D.int,.fz<|dG g,s5'])/\ks'.length=ds'.length/\ks'.length<=ks.length+km (vV g)/\
    (∀(j:Nat) (l:D),(ju<|vV g)[j]? = some l->eN ks' ds' (kw<|w++[(j:Int)])=some (rD2<|rbg g r l))/\(∀k',(∀j:Nat,k'≠kw (w++[(j:Int)]))->eN ks' ds' k'=eN ks ds k'):=by
 have hb:=vA hg;have hk:=yH hg;have ek:(kids g).length=(ju<|vV g).length:=by rw[Uv,gQ,tH]
 refine Qy (Dt (g0:=g0) (s2:=.ow<|.lst<|found++[trD (w,g,r)]) (w:=w) (g:=g) (r:=r) hg hr hs hw (kids g).length 0 ks ds s5 (by lia) hl hv<|by lia) λks' ds' s5' e a1 a2 a3 a4=>?_;refine⟨ks',ds',s5',rfl,?_,a1,by rw[← tH,← ek];exact a2,λj l h=>a3 j l (eC _) h,λk' h=>a4 k' λj _=>h j⟩;have z1:found.length<16777216:=by lia
 have z3:((kids g).length:Int)<4611686018427387904:=by lia
 have kk2:yt (.tup<|w.map D.int)=some (kw w):=Nu w;have eL:eZ [g0,.ow<|.dcu ks ds,.ow<|.lst<|found++[trD (w,g,r)],.fz<|.tup<|w.map D.int,.fz<|dG g,s5]=.ok (.nx,[g0,.ow<|.dcu ks' ds',.ow<|.lst<|found++[trD (w,g,r)],.fz<|.tup<|w.map D.int,.fz<|dG g,s5']):=by
  have e1:(aj (aV cZ<|aj (fFn eG<|aj (aC 4) au) au) au) [g0,.ow<|.dcu ks ds,.ow<|.lst<|found++[trD (w,g,r)],.fz<|.tup<|w.map D.int,.fz<|dG g,s5]=.ok [.int ((kids g).length:Int)]:=by
   simp[aV,cZ,fFn,aj,au,aC,hb]
  have e2:=Lx e1 (by lia) (by lia);unfold eZ mZ;rw[e2];show cV (hName 5) cN ((ip (kids g).length).map λ(k:Nat)=>D.int k) _=_;rw[hZ];exact e
 simp only[trD] at eL ⊢;simp[bj,aP,eF,aL,aj,au,aC,aA,ak,DK,dcK,kk2,hv,xV,putL,z1,eL]
theorem Cp (ws:Ws):(jn ws).length<=((jn ws).map szG).sum:=by
 induction jn ws with
 |nil=>exact eC _
 |cons g l ih=>have:=wu g;simp;lia
mutual
theorem De:∀(w:List Int) (g:Gm),(plG w g).length=szG g
 |w,.fin d=>rfl
 |w,.deal n ws=>by show(plW w 0 ws).length+1=szW ws+1;rw[By w 0 ws]
 |w,.move s n ws=>by show(plW w 0 ws).length+1=szW ws+1;rw[By w 0 ws]
theorem By:∀(w:List Int) (i:Nat) (ws:Ws),(plW w i ws).length=szW ws
 |w,i,.nil=>rfl
 |w,i,.cons l g r=>by show(plG (w++[(i:Int)]) g++plW w (i+1) r).length=szG g+szW r;rw[a9,De _ g,By w (i+1) r]
end
mutual
theorem O6 (g0:Sl):∀(g:Gm) (w:List Int) (r:Rc) (ks:List (List Kt)) (ds found:List D) (s3 s4 s5:Sl) (rest:List D),ks.length=ds.length->eN ks ds (kw w)=some (rD2 r)->kI g->sdG g->r.1.length+dp g<=1000->r.2.length+dp g<=1000->w.length+dp g<=1000->
  ks.length+szG g<=100001->found.length+szG g<=100000->
  ∃ks' ds' s3' s4' s5',cV hPl bj ((plG w g).map pD++rest) [g0,.ow<|.dcu ks ds,.ow<|.lst found,s3,s4,s5]=cV hPl bj rest [g0,.ow<|.dcu ks' ds',.ow<|.lst<|found++(prG w r g).map trD,s3',s4',s5']/\ks'.length=ds'.length/\ks'.length+1<=ks.length+szG g/\
   (∀k',(∀u:List Int,u≠[]->k'≠kw (w++u))->eN ks' ds' k'=eN ks ds k')
 | .fin d,w,r,ks,ds,found,s3,s4,s5,rest,hl,hv,hg,hs,r1,r2,hw,hz,hf=>by
  have hsz:szG (.fin d)=1:=rfl;refine zR (yr (g0:=g0) (s3:=s3) (s4:=s4) (s5:=s5) (found:=found) (g:=.fin d) hl hv hg ⟨by lia,by lia⟩ (λ_ _ _ z=>by cases z) (by lia) (by lia) (by lia)) λks' ds' s5' e1 e2 a1 a2 a3 a4=>?_;refine⟨ks',ds',.fz<|.tup<|w.map D.int,.fz<|dG<|.fin d,s5',?_,a1,by simpa[vV,km,szG] using a2,λk' h=>a4 k' λj=>h [(j:Int)]<|by simp⟩;show cV hPl bj (pD (w,.fin d)::rest) _=_;rw[dM e1 e2];rfl
 | .deal n ws,w,r,ks,ds,found,s3,s4,s5,rest,hl,hv,hg,hs,r1,r2,hw,hz,hf=>by
  have hsz:szG (.deal n ws)=szW ws+1:=rfl;have hdp:dp (.deal n ws)=dpW ws+1:=rfl;have hlw:km ws<=szW ws:=by rw[← gQ,vq];exact Cp ws
  refine zR (yr (g0:=g0) (s3:=s3) (s4:=s4) (s5:=s5) (found:=found) (g:=.deal n ws) hl hv hg ⟨by lia,by lia⟩ (λ_ _ _ z=>by cases z) (by lia) (by lia) (by lia)) λks' ds' s5' e1 e2 a1 a2 a3 a4=>?_;have a2:ks'.length<=ks.length+km ws:=a2;obtain⟨kt,dt,t3,t4,t5,e,b1,b2,b3⟩:=GJ g0 ws w (λ_=>r) 0 ks' ds' (found++[trD (w,.deal n ws,r)]) (.fz<|.tup<|w.map D.int) (.fz<|dG<|.deal n ws) s5' rest a1 (λj l h=>by rw[ze];exact a3 j l h) hg.2 hs (λl=>by lia) (λl=>by lia) (by lia) (by lia) (by rw[a9,eJ];lia);refine⟨kt,dt,t3,t4,t5,?_,b1,by lia,λk' h=>?_⟩
  ·show cV hPl bj (pD (w,.deal n ws)::((plW w 0 ws).map pD++rest)) _=_;rw[dM e1 e2,e];show cV _ _ _ [_,_,.ow<|.lst<|found++[trD (w,.deal n ws,r)]++(prW w (λ_=>r) 0 ws).map trD,_,_,_]=cV _ _ _ [_,_,.ow<|.lst<|found++(trD (w,.deal n ws,r)::(prW w (λ_=>r) 0 ws).map trD),_,_,_];rw[gE];rfl
  ·rw[b3 k' λj u hu=>h _ (by simp),a4 k' λj=>h [(j:Int)]<|by simp]
 | .move s n ws,w,r,ks,ds,found,s3,s4,s5,rest,hl,hv,hg,hs,r1,r2,hw,hz,hf=>by
  have hsz:szG (.move s n ws)=szW ws+1:=rfl;have hdp:dp (.move s n ws)=dpW ws+1:=rfl;have hlw:km ws<=szW ws:=by rw[← gQ,vq];exact Cp ws
  obtain⟨ks',ds',s5',e1,e2,a1,a2,a3,a4⟩:=yr (g0:=g0) (s3:=s3) (s4:=s4) (s5:=s5) (found:=found) (g:=.move s n ws) hl hv hg ⟨by lia,by lia⟩ (λ_ _ _ z=>by cases z;exact hs.1) (by lia) (by lia) (by lia);have a2:ks'.length<=ks.length+km ws:=a2;have rl:∀l,(rbm s n r l).1.length<=r.1.length+1/\(rbm s n r l).2.length<=r.2.length+1:=λl=>by
   unfold rbm;split<;>simp
  obtain⟨kt,dt,t3,t4,t5,e,b1,b2,b3⟩:=GJ g0 ws w (rbm s n r) 0 ks' ds' (found++[trD (w,.move s n ws,r)]) (.fz<|.tup<|w.map D.int) (.fz<|dG<|.move s n ws) s5' rest a1 (λj l h=>by rw[ze];exact a3 j l h) hg.2 hs.2 (λl=>by have:=(rl l).1;lia) (λl=>by have:=(rl l).2;lia) (by lia) (by lia) (by rw[a9,eJ];lia);refine⟨kt,dt,t3,t4,t5,?_,b1,by lia,λk' h=>?_⟩
  ·show cV hPl bj (pD (w,.move s n ws)::((plW w 0 ws).map pD++rest)) _=_;rw[dM e1 e2,e];show cV _ _ _ [_,_,.ow<|.lst<|found++[trD (w,.move s n ws,r)]++(prW w (rbm s n r) 0 ws).map trD,_,_,_]=cV _ _ _ [_,_,.ow<|.lst<|found++(trD (w,.move s n ws,r)::(prW w (rbm s n r) 0 ws).map trD),_,_,_];rw[gE];rfl
  ·rw[b3 k' λj u hu=>h _ (by simp),a4 k' λj=>h [(j:Int)]<|by simp]
theorem GJ (g0:Sl):∀(ws:Ws) (w:List Int) (f:D->Rc) (i:Nat) (ks:List (List Kt)) (ds found:List D) (s3 s4 s5:Sl) (rest:List D),ks.length=ds.length->(∀(j:Nat) (l:D),(ju ws)[j]? = some l->eN ks ds (kw<|w++[((i+j:Nat):Int)])=some (rD2<|f l))->w5 ws->sdW ws->
  (∀l,(f l).1.length+dpW ws<=1000)->(∀l,(f l).2.length+dpW ws<=1000)->w.length+1+dpW ws<=1000->ks.length+szW ws<=100000+km ws->found.length+szW ws<=100000->
  ∃ks' ds' s3' s4' s5',cV hPl bj ((plW w i ws).map pD++rest) [g0,.ow<|.dcu ks ds,.ow<|.lst found,s3,s4,s5]=cV hPl bj rest [g0,.ow<|.dcu ks' ds',.ow<|.lst<|found++(prW w f i ws).map trD,s3',s4',s5']/\ks'.length=ds'.length/\ks'.length+km ws<=ks.length+szW ws/\
   (∀k',(∀(j:Nat) (u:List Int),u≠[]->k'≠kw (w++((i+j:Nat):Int)::u))->eN ks' ds' k'=eN ks ds k')
 | .nil,w,f,i,ks,ds,found,s3,s4,s5,rest,hl,hv,hg,hs,r1,r2,hw,hz,hf=>⟨ks,ds,s3,s4,s5,by simp[plW,prW],hl,by simp[km,szW],λ_ _=>rfl⟩
 | .cons l g r,w,f,i,ks,ds,found,s3,s4,s5,rest,hl,hv,hg,hs,r1,r2,hw,hz,hf=>by
  have hsz:szW (.cons l g r)=szG g+szW r:=rfl;have hdp:dpW (.cons l g r)=max (dp g) (dpW r):=rfl;have hlw:km (.cons l g r)=km r+1:=rfl;have hl2:km r<=szW r:=by rw[← gQ,vq];exact Cp r
  have hp:=wu g;have q1:=r1 l;have q2:=r2 l;obtain⟨ks',ds',t3,t4,t5,e,a1,a2,a3⟩:=O6 g0 g (w++[(i:Int)]) (f l) ks ds found s3 s4 s5 ((plW w (i+1) r).map pD++rest) hl (hv 0 l rfl) hg.1 hs.1 (by lia) (by lia) (by rw[a9,eJ];lia) (by lia) (by lia);have pl:(prG (w++[(i:Int)]) (f l) g).length=szG g:=by rw[← cp (f:=λp=>(p.1,p.2.1)),Nt];exact De _ g
  obtain⟨kt,dt,u3,u4,u5,e',b1,b2,b3⟩:=GJ g0 r w f (i+1) ks' ds' (found++(prG (w++[(i:Int)]) (f l) g).map trD) t3 t4 t5 rest a1 (λj l' h=>by
   rw[a3 _ λu hu z=>?_,← hv (j+1) l' (by simpa[ju] using h),show i+(j+1)=i+1+j by lia]
   have:=Bp z
   simp at this
   lia) hg.2 hs.2 (λl=>by have:=r1 l;lia) (λl=>by have:=r2 l;lia) (by lia) (by lia) (by rw[a9,cp,pl];lia)
  refine⟨kt,dt,u3,u4,u5,?_,b1,by lia,λk' h=>?_⟩
  ·show cV _ _ ((plG (w++[(i:Int)]) g++plW w (i+1) r).map pD++rest) _=_;rw[eM,gE,e,e'];show _=cV _ _ _ [_,_,.ow<|.lst<|found++(prG (w++[(i:Int)]) (f l) g++prW w f (i+1) r).map trD,_,_,_];rw[eM,gE]
  ·rw[b3 k' λj u hu=>by have:=h (j+1) u hu;rw[show i+(j+1)=i+1+j by lia] at this;exact this];refine a3 k' λu hu=>?_
   have:=h 0 u hu
   simpa using this
end
theorem Uj (e:L [.fz d,.ow<|.dcu [[]] [rD2 ([],[])],.ow<|.lst [],.un,.un,.un]=.ok (.nx,[.fz d,a,.ow<|.lst ps,s3,s4,s5])):aW 6 1 (dZ L) [d]=.ok (true,.lst ps):=by
 have k0:yt (.tup [])=some []:=rfl;simp only[rD2] at e;simp[aW,dZ,aP,dO,Io,aL,au,aj,k0,bI,e,rA]
theorem Xr (h:kI g)(hs:sdG g)(hd:dp g<=50)(hz:szG g<=10000):cY [dG g]=.ok (true,.lst<|(prG [] ([],[]) g).map trD):=by
 have e:=places_eq h hd (by lia);obtain⟨ks',ds',s3',s4',s5',e2,_⟩:=O6 (.fz<|dG g) g [] ([],[]) [[]] [rD2 ([],[])] [] .un .un .un [] rfl (by simp[eN,kw]) h hs (by simp;lia) (by simp;lia) (by simp;lia) (by simp;lia) (by simp;lia);refine Uj (a:=.ow<|.dcu ks' ds') (s3:=s3') (s4:=s4') (s5:=s5') ?_;have e1:kY (fFn jR<|aj (aC 0) au) [.fz<|dG g,.ow<|.dcu [[]] [rD2 ([],[])],.ow<|.lst [],.un,.un,.un]=.ok ((plG [] g).map pD):=by
  simp[kY,fFn,aj,au,aC,e]
 unfold iV mZ;rw[e1];rw[cw] at e2;exact e2
noncomputable def Bl (r:Rc)(s:Int):List D:=if s=1 then r.1 else r.2
def xO (s:Int)(n:Str)(ws:Ws)(r:Rc):D:=.tup [.int s,.str n,.tup<|ju ws,.tup<|Bl r s]
theorem zO:∀ws:Ws,ig (ou 2<|du (hName 0)<|du (hName 1) pF) fY (aC 0) [.un,.un] (dWs ws)=.ok (ju ws)
 | .nil=>rfl
 | .cons l g r=>by
  have ih:=zO r;have e:aC 0 [.fz l,.fz<|dG g]=.ok l:=rfl;unfold dWs ig;simp[ou,du,hName,pF,fY,e,ih,ju]
theorem Nj (h:km ws<=100):lH [dG<|.move s n ws]=.ok (false,.tup<|ju ws):=by
 have x4:∀a b c d:D,atI [a,b,c,d] 3=some d:=λ_ _ _ _=>rfl;have hz:(ju ws).length<=16777216:=by rw[tH];lia
 have hz2:(dWs ws).length<=16777216:=by rw[v5];lia
 have e:nW [.fz<|dG<|.move s n ws]=.ok (.lst<|ju ws):=by
  simp[nW,gW,CK,aA,ak,fC,gIx,dG,x4,cMe,zO,hz,hz2]
 simp[lH,rW,su,aW,bC,aV,aj,au,Me.let,Sl.let,e,oO,hz]
theorem Xm (h:km ws<=100)(hs:s=1\/s=2):mY [dG<|.move s n ws,rD2 r]=.ok (false,xO s n ws r):=by
 have e:=Nj (s:=s) (n:=n) h;have x1:∀a b c d:D,atI [a,b,c,d] 1=some b:=λ_ _ _ _=>rfl;have x2:∀a b c d:D,atI [a,b,c,d] 2=some c:=λ_ _ _ _=>rfl;have y0:∀a b:D,atI [a,b] 0=some a:=λ_ _=>rfl;have y1:∀a b:D,atI [a,b] 1=some b:=λ_ _=>rfl;simp only[dG] at e;rcases hs with rfl|rfl
 ·simp[mY,uA,uo,aW,bC,Me.let,Sl.let,aL,aj,au,aA,ak,fC,gIx,dG,x1,x2,fFn,aC,e,rD2,F.yw,y0,y1,xO,Bl]
 ·simp[mY,uA,uo,aW,bC,Me.let,Sl.let,aL,aj,au,aA,ak,fC,gIx,dG,x1,x2,fFn,aC,e,rD2,F.yw,y0,y1,xO,Bl]
abbrev Tb:=List (List Kt)×List D
noncomputable def kn (s:Int)(n:Str):List Kt:=[.k<|.inl s,.k<|.inr n]
def tst (T:Tb)(p:List Int×Gm×Rc):Tb:=match p.2.1 with
 | .move s n ws=>if(eN T.1 T.2<|kn s n).isSome then T else(T.1++[kn s n],T.2++[xO s n ws p.2.2])
 |_=>T
def tbl (l:List (List Int×Gm×Rc)):Tb:=l.foldl tst ([],[])
theorem U4 (T:Tb)(p:List Int×Gm×Rc):(tst T p).1.length<=T.1.length+1:=by grind[tst]
def okP (p:List Int×Gm×Rc):Prop:=match p.2.1 with
 | .move s _ ws=>(s=1\/s=2)/\km ws<=100
 |_=>True
theorem Om (hp:okP p)(hz:T.1.length<=100000):∃m1,ou 3 (du (hName 2)<|du (hName 3)<|du (hName 4) pF) (trD p) [g0,.ow<|.dcu T.1 T.2,s2,s3,s4]=some m1/\
  fK m1=.ok (.nx,[g0,.ow<|.dcu (tst T p).1 (tst T p).2,.fz<|.tup<|p.1.map D.int,.fz<|dG p.2.1,.fz<|rD2 p.2.2]):=by
 refine⟨[g0,.ow<|.dcu T.1 T.2,.fz<|.tup<|p.1.map D.int,.fz<|dG p.2.1,.fz<|rD2 p.2.2],rfl,?_⟩;obtain⟨w,g,r⟩:=p;have x20:∀a b:D,atI [a,b] 0=some a:=λ_ _=>rfl;have x30:∀a b c:D,atI [a,b,c] 0=some a:=λ_ _ _=>rfl;have x40:∀a b c d:D,atI [a,b,c,d] 0=some a:=λ_ _ _ _=>rfl;have x41:∀a b c d:D,atI [a,b,c,d] 1=some b:=λ_ _ _ _=>rfl;have x42:∀a b c d:D,atI [a,b,c,d] 2=some c:=λ_ _ _ _=>rfl;cases g with
 |fin d=>simp[fK,gIf,aY,aA,ak,fC,gIx,dG,x20,gNx,tst]
 |deal n ws=>simp[fK,gIf,aY,aA,ak,fC,gIx,dG,x30,gNx,tst]
 |move s n ws=>
  have hp:(s=1\/s=2)/\km ws<=100:=hp;have e:=Xm (n:=n) (r:=r) hp.2 hp.1;simp only[dG] at e;have kk:yt (.tup [.int s,.str n])=some (kn s n):=rfl;have z1:T.1.length<16777216:=by lia
  by_cases q:(eN T.1 T.2<|kn s n).isSome=true
  ·simp[fK,gIf,aY,aA,ak,fC,gIx,dG,x40,x41,x42,U8,HR,aL,aj,au,fFn,aC,e,kk,z1,tst,q,sY]
  ·simp[fK,gIf,aY,aA,ak,fC,gIx,dG,x40,x41,x42,U8,HR,aL,aj,au,fFn,aC,e,kk,z1,tst,q,sY]
theorem Gh:∀(l:List (List Int×Gm×Rc)) (T:Tb) (s2 s3 s4:Sl),(∀p∈l,okP p)->T.1.length+l.length<=100000->∃s2' s3' s4',cV (ou 3<|du (hName 2)<|du (hName 3)<|du (hName 4) pF) fK (l.map trD) [g0,.ow<|.dcu T.1 T.2,s2,s3,s4]=.ok (.nx,[g0,.ow<|.dcu (l.foldl tst T).1 (l.foldl tst T).2,s2',s3',s4'])
 |[],T,s2,s3,s4,_,_=>⟨s2,s3,s4,rfl⟩
 |p::l,T,s2,s3,s4,hp,hz=>by
  have hz':T.1.length+(l.length+1)<=100000:=hz;obtain⟨m1,e1,e2⟩:=Om (g0:=g0) (s2:=s2) (s3:=s3) (s4:=s4) (T:=T) (hp p cy)<|by lia
  have:=U4 T p
  obtain⟨a,b,c,e⟩:=Gh l (tst T p) (.fz<|.tup<|p.1.map D.int) (.fz<|dG p.2.1) (.fz<|rD2 p.2.2) (λq hq=>hp q<|be _ hq) (by lia);exact⟨a,b,c,by rw[bo,dM e1 e2,e];rfl⟩
theorem tab_run (e:L [.fz d,.ow<|.dcu [] [],.un,.un,.un]=.ok (.nx,[.fz d,.ow<|.dcu ks ds,s2,s3,s4])):aW 5 1 (nA L) [d]=.ok (true,.lst ds):=by
 simp[aW,nA,aP,dO,Q6,e,rC,Me.let,Sl.let,Ho,ak]
mutual
theorem VD:∀(w:List Int) (r:Rc) (g:Gm),kI g->sdG g->∀p∈prG w r g,okP p
 |w,r,.fin d,_,_,p,hp=>by
  have:p=(w,.fin d,r):=by simpa[prG] using hp
  rw[this];exact g9
 |w,r,.deal n ws,h,hs,p,hp=>by
  rcases bP.mp (show p∈(w,Gm.deal n ws,r)::prW w (λ_=>r) 0 ws from hp) with e|e
  ·rw[e];exact g9
  ·exact GK w _ 0 ws h.2 hs p e
 |w,r,.move s n ws,h,hs,p,hp=>by
  rcases bP.mp (show p∈(w,Gm.move s n ws,r)::prW w (rbm s n r) 0 ws from hp) with e|e
  ·rw[e];exact⟨hs.1,h.1⟩
  ·exact GK w _ 0 ws h.2 hs.2 p e
theorem GK:∀(w:List Int) (f:D->Rc) (i:Nat) (ws:Ws),w5 ws->sdW ws->∀p∈prW w f i ws,okP p
 |w,f,i,.nil,_,_,p,hp=>by cases hp
 |w,f,i,.cons l g r,h,hs,p,hp=>by
  rcases gT.mp (show p∈prG (w++[(i:Int)]) (f l) g++prW w f (i+1) r from hp) with e|e
  ·exact VD _ _ g h.1 hs.1 p e
  ·exact GK w f (i+1) r h.2 hs.2 p e
end
theorem Qd (w:List Int)(r:Rc)(g:Gm):(prG w r g).length=szG g:=by rw[← cp (f:=λp=>(p.1,p.2.1)),Nt];exact De _ g
theorem table_eq (h:kI g)(hs:sdG g)(hd:dp g<=50)(hz:szG g<=10000):oY [dG g]=.ok (true,.lst (tbl<|prG [] ([],[]) g).2):=by
 have e:=Xr h hs hd hz;obtain⟨a,b,c,e2⟩:=Gh (g0:=.fz<|dG g) (prG [] ([],[]) g) ([],[]) .un .un .un (VD _ _ g h hs) (by rw[Qd];simp;lia);refine tab_run (ks:=(tbl<|prG [] ([],[]) g).1) (s2:=a) (s3:=b) (s4:=c) ?_;have e1:kY (fFn cY<|aj (aC 0) au) [.fz<|dG g,.ow<|.dcu [] [],.un,.un,.un]=.ok ((prG [] ([],[]) g).map trD):=by
  simp[kY,fFn,aj,au,aC,e]
 unfold tZ mZ;rw[e1];exact e2
end Pk
namespace F
open PySem L2 Hd
noncomputable def rq (r:Rat):Q2:=(r.num,(r.den:Int))
def rD (r:Rat):D:=qD<|rq r
theorem KC (r:Rat):rD r=.tup [.int r.num,.int r.den]:=rfl
theorem n8 (r:Rat):1<=(r.den:Int):=by have:=r.den_pos;lia
theorem PB (r:Rat):gI r.num r.den=1:=by
 unfold gI
 have:=r.reduced
 unfold Au at this;show((si r.num (r.den:Int):Nat):Int)=1;unfold si;simp[this]
theorem Ru (hb:b≠0):(lt t b,lb t b)=rq (iO t b):=by
 have h:=Rat.num_divInt_den<|iO t b;have hd:((iO t b).den:Int)≠0:=by have:=n8<|iO t b;lia
 have h2:=(Rat.divInt_eq_divInt_iff hd hb).mp h;obtain⟨z1,z2⟩:=WD hb (n8<|iO t b) (PB<|iO t b) (t:=t) h2.symm;exact Prod.ext z1 z2
theorem Nm (r:Rat):iO r.num r.den=r:=Rat.num_divInt_den r
theorem V1 (a b:Rat):iO (a.num*b.den+b.num*a.den) (a.den*b.den)=a+b:=by
 have ha:=n8 a;have hb:=n8 b;rw[← Rat.divInt_add_divInt _ _ (by lia) (by lia),Nm,Nm]
def Sz (k:Nat)(r:Rat):Prop:=r.num.natAbs<2^k/\r.den<2^k
theorem Xz (hb:b≠0)(h1:t.natAbs<2^k)(h2:b.natAbs<2^k):Sz k (iO t b):=by
 have e:=Ru (t:=t) hb;have e1:=congrArg AF e;have e2:=congrArg Prod.snd e;have e1:lt t b=(iO t b).num:=e1;have e2:lb t b=((iO t b).den:Int):=e2;have l1:=Z2 (t:=t) hb;have l2:=Zi (t:=t) hb;rw[e1] at l1;rw[e2] at l2;exact⟨by lia,by lia⟩
theorem Yx (ha:Sz k a)(hb:Sz l b):Sz (k+l+1) (a+b):=by
 rw[← V1];have pa:=n8 a;have pb:=n8 b;have h1:(a.num*b.den).natAbs<2^(k+l):=Br ha.1 (by simpa using hb.2);have h2:(b.num*a.den).natAbs<2^(k+l):=by rw[Nat.add_comm];exact Br hb.1<|by simpa using ha.2
 have h3:((a.den:Int)*b.den).natAbs<2^(k+l):=Br (by simpa using ha.2) (by simpa using hb.2);refine Xz ?_ (X4 h1 h2)<|tL h3 (by lia);exact Int.mul_ne_zero (by lia)<|by lia
theorem Jf:Sz 1 0:=⟨by decide,by decide⟩
theorem Km (h:Sz k r)(hk:k<=4000):Bq r.num/\Bq (r.den:Int):=⟨Iu<|tL h.1 (by lia),Iu<|tL (by simpa using h.2) (by lia)⟩
theorem Yr (h:Sz k a)(g:Sz l b)(hk:k+l<=4000):Bq ((a.den:Int)*b.den):=Iu<|tL (Br (by simpa using h.2) (by simpa using g.2)) (by lia)
theorem QV (a b:Rat):(a.den:Int)*b.den≠0:=Int.mul_ne_zero (by have:=n8 a;lia) (by have:=n8 b;lia)
end F
namespace Pk
open PySem L2 Hd F
theorem RG (x y:Sl):∀(n:Nat) (a b:Int) (z:Sl),b.toNat=n->0<=a->0<=b->∃k z',wh iR iQ k [x,y,.fz<|.int a,.fz<|.int b,z] =
  some (.ok (.nx,[x,y,.fz<|.int<|gI a b,.fz<|.int 0,z'])):=by
 intro n;induction n using qk with
 |_ n ih=>
  intro a b z hn ha hb;by_cases h0:b=0
  ·subst h0;refine⟨1,z,?_⟩;rw[Sw ha];exact Kl rfl
  ·have hb':0<b:=by lia
   have hm:=eI a hb';have hm0:=fm a h0;obtain⟨k,z',e⟩:=ih (a%b).toNat (by lia) b (a%b) (.fz<|.int<|a%b) rfl hb hm0;rw[S7 ha hb'] at e;refine⟨k+1,z',Ji (m':=[x,y,.fz<|.int b,.fz<|.int<|a%b,.fz<|.int<|a%b]) ?_ ?_ e⟩
   ·simp[iR,aY,ak,fC,h0]
   ·simp[iQ,aP,aX,aA,ak,aC,ir,mdI,h0,hb']
theorem eQ (a b:Int):dh [.int a,.int b]=.ok (false,.int<|gI a b):=by
 obtain⟨k,z',e⟩:=RG (.fz<|.int a) (.fz<|.int b) _ (if a<0 then -a else a) (if b<0 then -b else b) .un rfl (by split<;>lia) (by split<;>lia);rw[Wo] at e;have e2:=Af k e;simp[dh,aW,jE,jx,lK,aP,aX,aV,aj,au,ak,R0,e2,bC,Me.let,Sl.let,aC]
theorem Px (h:i.natAbs<2^k)(hk:k<=4000:=by decide):Bq i:=Iu<|tL h<|by lia
theorem pI (hb:b≠0)(hB:Bq b):fO [.int t,.int b]=.ok (false,.tup [.int<|lt t b,.int<|lb t b]):=by
 have hd:=JB (t:=t) hb;have hB':Bq (dv t b):=by
  have h1:=YJ (a:=t) hb;have h2:=Oc t b;unfold Bq at hB ⊢
  lia
 have e1:dvI t (dv t b)=lt t b:=by
  unfold dvI lt;split
  ·rw[k8 t<|by lia]
  ·rfl
 have e2:dvI b (dv t b)=lb t b:=by
  unfold dvI lb;split
  ·rw[k8 b<|by lia]
  ·rfl
 by_cases h:b<0
 ·have e:dv t b=-gI t b:=if_pos h;rw[e] at e1 e2 hd hB';have hg:gI t b≠0:=by lia
  simp[hg,fO,aW,ug,ud,aP,aX,fFn,aj,au,aC,ak,eQ,gIf,aY,fC,gLt,h,fUn,wJ,bC,Me.let,Sl.let,aL,aA,qT,hB',e1,e2]
 ·have e:dv t b=gI t b:=if_neg h;rw[e] at e1 e2 hd hB';have hg:gI t b≠0:=by lia
  simp[hg,fO,aW,ug,ud,aP,aX,fFn,aj,au,aC,ak,eQ,gIf,aY,fC,gLt,h,gNx,bC,Me.let,Sl.let,aL,aA,qT,hB',e1,e2,hd]
theorem ix0:atI [a,b] 0=some a:=rfl
theorem ix1:atI [a,b] 1=some b:=rfl
theorem HQ (hb:b≠0)(hB:Bq b):fO [.int t,.int b]=.ok (false,rD<|iO t b):=by
 rw[pI hb hB];have e:=Ru (t:=t) hb;show _=Res.ok (false,qD<|rq<|iO t b);rw[← e];rfl
theorem QT (ha:Sz k a)(hb:Sz l b)(hk:k+l<=4000):xf [rD a,rD b]=.ok (false,rD<|a+b):=by
 obtain⟨a1,a2⟩:=Km ha (by lia);obtain⟨b1,b2⟩:=Km hb (by lia);have e:=HQ (t:=a.num*b.den+b.num*a.den) (QV a b)<|Yr ha hb hk;rw[V1] at e;simp[xf,aW,Ip,Ha,bC,Me.let,Sl.let,fFn,aj,au,aA,ak,fC,gIx,KC,ix0,ix1,jX,aJ,a1,a2,b1,b2];rw[e];simp[KC]
theorem La (ha:Sz k a)(hb:Sz l b)(hk:k+l<=4000):uv [rD a,rD b]=.ok (false,.bl<|decide<|a.num*b.den<b.num*a.den):=by
 obtain⟨a1,a2⟩:=Km ha (by lia);obtain⟨b1,b2⟩:=Km hb (by lia);simp[uv,aW,Ck,Cy,bC,Me.let,Sl.let,lM,aj,au,aA,ak,fC,gIx,KC,ix0,ix1,jX,a1,a2,b1,b2,gLt]
theorem Fj (k:Nat):∀(l:List Rat) (q:Rat) (j:Nat) (s2:Sl),Sz j q->(∀x∈l,Sz k x)->j+l.length*(k+1)<=2000->k<=2000->
  ∃s2',cV (hName 2) vo (l.map rD) [a,.fz<|rD q,s2]=.ok (.nx,[a,.fz<|rD<|q+l.sum,s2'])
 |[],q,j,s2,_,_,_,_=>⟨s2,by simp[cV,Rat.add_zero]⟩
 |x::l,q,j,s2,hq,hl,hj,hk=>by
  have hx:=hl x cy;have hj':j+(l.length+1)*(k+1)<=2000:=hj;rw[Nat.add_mul] at hj';have e:=QT hq hx (by lia);obtain⟨s2',e'⟩:=Fj k l (q+x) (j+k+1) (.fz<|rD x) (Yx hq hx) (λy hy=>hl y<|be _ hy) (by lia) hk;refine⟨s2',?_⟩;rw[bo,dM (m1:=[a,.fz<|rD q,.fz<|rD x]) (m2:=[a,.fz<|rD<|q+x,.fz<|rD x]) rfl (by simp[vo,aX,fFn,aj,au,aC,e]),e',List.sum_cons,Rat.add_assoc]
theorem Ly {l:List Rat}(hl:∀x∈l,Sz k x)(hj:1+l.length*(k+1)<=2000)(hk:k<=2000):nZ [.lst<|l.map rD]=.ok (false,rD l.sum):=by
 obtain⟨s2',e⟩:=Fj (a:=.fz<|.lst<|l.map rD) k l 0 1 .un Jf hl hj hk;have e0:rD 0=.tup [.int 0,.int 1]:=rfl;rw[Rat.zero_add,e0] at e;simp[nZ,aW,BX,Ce,zW,aP,aX,fC,mZ,kY,aC,ak,e,bC,Me.let,Sl.let]
noncomputable def sdD:D->Int
 | .tup [.int s,_,_,_]=>s
 |_=>0
def ZD (d:D):Prop:=∃s n ws r,d=xO s n ws r
theorem vz {h:Zba}{ft:Zaf}{fe:Zae}{m0:Me}(P:D->Bool):∀ds:List D,(∀d∈ds,∃m1,h d m0=some m1/\ft m1=.ok (P d)/\fe m1=.ok d)->ig h ft fe m0 ds=.ok (ds.filter P)
 |[],_=>rfl
 |d::ds,H=>by
  obtain⟨m1,e1,e2,e3⟩:=H d cy;have ih:=vz P ds λd hd=>H d<|be _ hd;unfold ig;rw[List.filter_cons];by_cases q:P d=true
  ·simp only[e1,e2,q,e3,ih,if_pos]
  ·have q':P d=false:=by simpa using q
   simp only[e1,e2,q',ih]
   simp
theorem Kz:∀(l:List (List Int×Gm×Rc)) (T:Tb) (d:D),d∈(l.foldl tst T).2->d∈T.2\/∃p∈l,∃s n ws,p.2.1=.move s n ws/\d=xO s n ws p.2.2
 |[],T,d,h=>.inl h
 |p::l,T,d,h=>by
  rcases Kz l (tst T p) d h with e|⟨q,hq,e⟩
  ·unfold tst at e;split at e
   ·rename_i s n ws ep;split at e
    ·exact .inl e
    ·rcases gT.mp e with e|e
     ·exact .inl e
     ·exact .inr ⟨p,cy,s,n,ws,ep,by simpa using e⟩
   ·exact .inl e
  ·exact .inr ⟨q,be _ hq,e⟩
theorem RJ {l:List (List Int×Gm×Rc)}{d:D}(h:d∈(tbl l).2):ZD d:=by
 rcases Kz l ([],[]) d h with e|⟨p,_,s,n,ws,_,e⟩
 ·cases e
 ·exact⟨s,n,ws,p.2.2,e⟩
theorem Uo {g:Gm}{s:Int}(h:kI g)(hs:sdG g)(hd:dp g<=50)(hz:szG g<=10000):fU [dG g,.int s]=.ok (true,.lst<|(tbl<|prG [] ([],[]) g).2.filter λd=>decide<|sdD d=s):=by
 have e:=table_eq h hs hd hz;have ec:ig (hName 0) (aY gEq (aA gIx (ak 0)<|fC<|.int 0)<|ak 1) (aC 0) [.un,.fz<|.int s] (tbl<|prG [] ([],[]) g).2=.ok ((tbl<|prG [] ([],[]) g).2.filter λd=>decide<|sdD d=s):=vz _ _ λd hd=>by
  obtain⟨a,n,ws,r,rfl⟩:=RJ hd;refine⟨[.fz<|xO a n ws r,.fz<|.int s],rfl,?_,rfl⟩;have x0:∀a b c d:D,atI [a,b,c,d] 0=some a:=λ_ _ _ _=>rfl;simp[aY,aA,ak,fC,gIx,xO,x0,sdD];exact decide_eq_decide.mpr Iff.rfl
 have z1:(tbl<|prG [] ([],[]) g).2.length<=16777216:=by
  have:∀(l:List (List Int×Gm×Rc)) (T:Tb),(l.foldl tst T).2.length<=T.2.length+l.length:=by
   intro l;induction l with
   |nil=>intro T;simp
   |cons p l ih=>
    intro T
    have:=ih<|tst T p
    have q:(tst T p).2.length<=T.2.length+1:=by
     unfold tst;split
     ·split<;>simp
     ·lia
    simp only[List.foldl_cons,fq]
    lia
  have:=this (prG [] ([],[]) g) ([],[])
  rw[Qd] at this;simp at this;have e:tbl (prG [] ([],[]) g)=(prG [] ([],[]) g).foldl tst ([],[]):=rfl;rw[e]
  lia
 have eq:qe [.fz<|dG g,.fz<|.int s]=.ok (.lst<|(tbl<|prG [] ([],[]) g).2.filter λd=>decide<|sdD d=s):=by
  simp[qe,gW,kY,fFn,aj,au,aC,e,cMe,Sl.bor,ec,z1]
 simp[fU,uF,uR,aW,rC,Me.let,Sl.let,eq]
end Pk
namespace Lw
open PySem L2 Hd F Pk
section
def jh:Zab:=
 (aP (gIf (aY gLt (ak 1)<|aV cZ<|aj (ak 0) au) (bC<|aA gIx (ak 0)<|ak 1) gNx)
 (bC<|fC<|.int 0))
def jo:Zab:=
 jh
def bR:Zac:=aW 2 2 jo
end
section
variable {e:En}{A:Addr×Addr}{a r dep:Nat}{N:Nd}{m:Int×Int}{rc:Rc}
end
section
variable {e:En}{A:Addr×Addr}{a r dep:Nat}{N:Nd}{m:Int×Int}{rc:Rc}{x y:Int}
end
theorem cell_eq (ns:List Int)(k:Nat)(hz:ns.length<=1000):∃v:Int,bR [.lst<|ns.map D.int,.int (k:Int)]=.ok (false,.int v):=by
 by_cases h:k<ns.length
 ·have e1:atI (ns.map D.int) (k:Int)=some (.int ns[k]):=BL (by rw[dP,cn h];rfl);have h':(k:Int)<(ns.length:Int):=by lia
  exact⟨ns[k],by simp[bR,jo,jh,aW,aP,gIf,aY,ak,aV,cZ,aj,au,gLt,h,h',bC,Me.let,Sl.let,aA,gIx,e1]⟩
 ·have h':¬(k:Int)<(ns.length:Int):=by lia
  exact⟨0,by simp[bR,jo,jh,aW,aP,gIf,aY,ak,aV,cZ,aj,au,gLt,h,h',bC,Me.let,Sl.let,gNx,fC]⟩
noncomputable def ss:List Nat:=[97,98,99,100,101,102,103,104,105,106,107,108,109,110,111,112,113,114,115,116,117,118,119,120,121,122,48,49,50,51,52,53,54,55,56,57]
theorem YC:af "abcdefghijklmnopqrstuvwxyz0123456789" = tx ss:=by decide +kernel
theorem aad:ss.Nodup:=by decide
def sgn (i:Int):Nat:=ss.getD i.toNat 0
theorem Kq (h:0<=i/\i<36):sgn i∈ss:=by
 have hl:i.toNat<ss.length:=by show i.toNat<36;lia
 unfold sgn;rw[iL,cn hl];exact List.getElem_mem hl
theorem Kc (h:0<=i/\i<36)(h':0<=j/\j<36)(e:sgn i=sgn j):i=j:=by
 have hl:i.toNat<ss.length:=by show i.toNat<36;lia
 have hl':j.toNat<ss.length:=by show j.toNat<36;lia
 unfold sgn at e;rw[iL,cn hl,iL,cn hl'] at e
 have:=(List.getElem_inj (h₀:=hl) (h₁:=hl') aad).mp e
 lia
theorem Wh (h:0<=i/\i<36):gIx (.str "abcdefghijklmnopqrstuvwxyz0123456789") (.int i)=some (.str<|tx [sgn i]):=by
 show gIx (.str<|af "abcdefghijklmnopqrstuvwxyz0123456789") _=_;rw[YC];have hl:i.toNat<ss.length:=by show i.toNat<36;lia
 have e:atI ss i=some (sgn i):=by
  have:=BL (xs:=ss) (j:=i.toNat)<|cn hl
  rw[show((i.toNat:Nat):Int)=i by lia] at this;rw[this];unfold sgn;rw[iL,cn hl];rfl
 show(if(tx ss).length<=ai then(atI (tx ss).cps.toList i).map λc=>D.str ⟨#[c]⟩ else none)=_;rw[if_pos (by rw[bK];decide),dY,e];rfl
end Lw
namespace F
open PySem PySem.Spec PyProof.Rows L2 Hd
section
end
section
variable {X:Cx}{E:XK}{j k:Nat}{c m:Str}{ps:List Str}{Φ:Zac}{apos pos:Pos}{o e:Expr}{es:List Expr}{f0:Zae}{fs:Zad}{pl:Sem Bool}
end
section
variable {P:bq}{w:dc}{K:a6}{mg:Zp}{base:Heap}
end
section
end
section
variable {X:Cx}{E:XK}{e:Expr}{g:Zae}{k:Zab}{c f x kn vn:Str}{fs:List Str}{pos pos' pos2 pos3 spos np np2 kp vp:Pos}{rest:List Stmt}
end
section
variable {X:Cx}{E:XK}{e:Expr}{g:Zae}{c f x:Str}{fs:List Str}{pos pos' np:Pos}
end
section
variable {P:bq}{w:dc}{K:a6}{mg:Zp}{base:Heap}
end
section
end
section
variable {X:Cx}{E:XK}{jj k:Nat}{c f y:Str}{ps:List Str}{Φ:List D->Res (List Str×List D×D)}{py pos χ np:Pos}{e:Expr}{es:List Expr}{fs:Zad}{rest:List Stmt}{kk:Zab}
end
end F
namespace Hd
open PySem L2
end Hd
namespace F
open PySem L2 Hd
section
variable {X:Cx}{E:XK}{es:List Expr}{b:Expr}{fs:Zad}{fa fb:Zae}{pos:Pos}
end
open PySem PySem.Spec PyProof.Rows L2 Hd
section
end
section
end
section
end
section
end
section
variable {X:Cx}{E:XK}{jj k:Nat}{x y:Str}{ps:List Str}{Φ:Zac}{py pos χ np:Pos}{e:Expr}{es:List Expr}{fs:Zad}{rest:List Stmt}{kk:Zab}
end
section
end
section
end
section
end
section
end
section
end
section
end
section
end
section
end
section
end
section
variable {X:Cx}{E:XK}{y:Str}{py pos lp:Pos}{es:List Expr}{fs:Zad}{rest:List Stmt}{kk:Zab}
end
section
variable {X:Cx}
theorem vals2 (r:Vals [a,b] us):∃u v,us=[u,v]/\RelV a u/\RelV b v:=by
 cases r with
 |cons r1 r2=>
  cases r2 with
  |cons r2 r3=>cases r3;exact⟨_,_,rfl,r1,r2⟩
end
section
variable {pr:bq}{wo:dc}{Ar:cK}{Ex:Zs}{st:aI}
end
section
variable {pr:bq}{wo:dc}{Ar:cK}{Ex:Zs}{st:aI}
end
theorem mm4 {α:Type}{P:α->Prop}{a b c d:α}(h1:P a)(h2:P b)(h3:P c)(h4:P d):∀x∈[a,b,c,d],P x:=by simp[h1,h2,h3,h4]
theorem mm5 {α:Type}{P:α->Prop}{a b c d e:α}(h0:P e)(h1:P a)(h2:P b)(h3:P c)(h4:P d):∀x∈[e,a,b,c,d],P x:=by simp[h0,h1,h2,h3,h4]
theorem abN {α:Type}{x a b c d:α}(h:x∉[a,b,c,d]):x≠a/\x≠b/\x≠c/\x≠d:=by simpa using h
theorem abM {α:Type}{a b c d e:α}:∀x∈[e,b,c,d],x∈[e,a,b,c,d]:=mm4 (by simp) (by simp) (by simp)<|by simp
section
variable {X:Cx}
end
end F
namespace Pk
open PySem L2 Hd F
section
def wQ:Zab:=
 (bC<|m6 (gY "int" (ak 0))<|Uy<|gY "bool" (ak 0))
def xm:Zab:=
 wQ
def lF:Zac:=aW 1 1 xm
def lG (φ_is_whole:Zac)(φ_common_divisor:Zac):Zab:=
 (aP (gIf (jr (cC<|fTv<|gY "tuple" (ak 0))<|aY gNe (aV cZ<|aj (ak 0) au)<|fC<|.int 2) (bC<|fC<|.bl false) gNx)
 (aP (gIf (jr (cC<|fTv<|fFn φ_is_whole<|aj (aA gIx (ak 0)<|fC<|.int 0) au)<|cC<|fTv<|fFn φ_is_whole<|aj (aA gIx (ak 0)<|fC<|.int 1) au) (bC<|fC<|.bl false) gNx)
 (bC<|m6 (lM gGe (aA gIx (ak 0)<|fC<|.int 1)<|fC<|.int 1)<|lM gEq (fFn φ_common_divisor<|aj (aA gIx (ak 0)<|fC<|.int 0)<|aj (aA gIx (ak 0)<|fC<|.int 1) au)<|fC<|.int 1)))
def lC:Zab:=
 (lG lF dh)
def dX:Zac:=aW 1 1 lC
def bN:Zae:=
 (m6 (fFn dX<|aj (aC 0) au)<|Uy<|fFn uv<|aj (aC 0)<|aj (fC<|.tup [(.int 0),(.int 1)]) au)
def eO:Zae:=
 (gW 1 [] (CK<|aC 0) (hName 0) fY bN)
def cz (φ_total:Zac)(l_2:Zae):Zab:=
 (aP (gIf (jr (cC<|fTv<|gY "tuple" (ak 0))<|aY gNe (aV cZ<|aj (ak 0) au)<|ak 1) (bC<|fC<|.bl false) gNx)
 (aP (gIf (cC<|fTv<|aV xQ<|aj l_2 au) (bC<|fC<|.bl false) gNx)
 (bC<|lM gEq (fFn φ_total<|aj (aV Q9<|aj (ak 0) au) au)<|fC<|.tup [(.int 1),(.int 1)])))
def gk:Zab:=
 (cz nZ eO)
def bz:Zac:=aW 2 2 gk
def iC:Zae:=
 (m6 (lM HF (aA gIx (ak 0)<|fC<|.int 1)<|ak 1)<|fFn bz<|aj (aA Eg (ak 1)<|aA gIx (ak 0)<|fC<|.int 1)<|aj (aV cZ<|aj (aA gIx (ak 0)<|fC<|.int 2) au) au)
def jY:Zae:=
 (gW 1 [1] (kY<|ak 0) (hName 0) fY iC)
def ie (l_2:Zae):Zab:=
 (aP (gIf (jr (cC<|fTv<|gY "dict" (ak 1))<|aY gNe (aV cZ<|aj (ak 1) au)<|aV cZ<|aj (ak 0) au) (bC<|fC<|.bl false) gNx)
 (bC<|aV xQ<|aj l_2 au))
def iy:Zab:=
 (ie jY)
def cG:Zac:=aW 2 2 iy
def qH (φ_rows_of:Zac)(φ_is_plan_for:Zac):Zab:=
 (bC<|fFn φ_is_plan_for<|aj (fFn φ_rows_of<|aj (aC 0)<|aj (aC 1) au)<|aj (aC 2) au)
def qP:Zab:=
 (qH fU cG)
def jF:Zac:=aW 3 3 qP
end
theorem aaw (a b c d:Int):gEq (.tup [.int a,.int b]) (.tup [.int c,.int d])=some (decide (a=c)&&decide (b=d)):=by
 have s:∀x y:Int,ia (.tuple [.int x,.int y])=true:=λ_ _=>rfl;simp[gEq,mH,toPy,sV,s,kA,sT];rfl
theorem Y7 (x y:Rat):gEq (rD x) (rD y)=some (decide<|x=y):=by
 show gEq (.tup [.int x.num,.int x.den]) (.tup [.int y.num,.int y.den])=_;rw[aaw];congr 1;by_cases h:x=y
 ·subst h;simp
 ·rw[decide_eq_false h];cases e:(decide (x.num=y.num)&&decide ((x.den:Int)=y.den)) with
  |false=>rfl
  |true=>
   simp at e;exact absurd (Rat.ext e.1<|by exact_mod_cast e.2) h
theorem GX:dX [rD x]=.ok (false,.bl true):=by
 have x0:∀a b:D,atI [a,b] 0=some a:=λ_ _=>rfl;have x1:∀a b:D,atI [a,b] 1=some b:=λ_ _=>rfl;have w:∀i:Int,lF [.int i]=.ok (false,.bl true):=λ_=>rfl;have e:=eQ x.num x.den;rw[PB] at e;have g1:=n8 x;have l2:cZ [.tup [.int x.num,.int x.den]]=some (.int 2):=rfl;have it:gY "tuple" (ak 0) [.fz<|.tup [.int x.num,.int x.den]]=.ok (.bl true):=rfl;rw[KC];simp[dX,aW,lC,lG,aP,gIf,jr,cC,fTv,it,aY,aV,aj,au,ak,l2,fC,gNe,gNx,fFn,aA,gIx,x0,x1,w,bC,Me.let,Sl.let,m6,lM,gGe,g1,e]
abbrev rowsOf (g:Gm)(s:Int):List D:=(tbl<|prG [] ([],[]) g).2.filter λd=>decide<|sdD d=s
end Pk
namespace Lw
open PySem L2 Hd F Pk
section
end
end Lw
namespace F
open PySem PySem.Spec PyProof.Rows L2 Hd
section
end
section
end
section
variable {A:Type}{p:List A->Prop}
theorem xb1 (h:∀a,p [a])(us:List A)(e:us.length=1):p us:=by
 cases us with
 |nil=>cases e
 |cons a t=>cases t with
  |nil=>exact h a
  |cons _ _=>cases e
theorem xb0 (h:∀a t,t.length=n->p (a::t))(us:List A)(e:us.length=n+1):p us:=by
 cases us with
 |nil=>cases e
 |cons a t=>exact h a t (Nat.succ.inj e)
theorem xb2 (h:∀a b,p [a,b]):∀us:List A,us.length=2->p us:=xb0 λa=>xb1 (p:=λt=>p (a::t))<|h a
theorem xb3 (h:∀a b c,p [a,b,c]):∀us:List A,us.length=3->p us:=xb0 λa=>xb2 (p:=λt=>p (a::t))<|h a
end
structure QD (K:a6)(x:Str)(st:Stmt):Prop where
 ex:∃f fd,Fun K x x st f fd/\i6 K bp x=some (some (.ref f))
section
variable {P:bq}{w:dc}{K:a6}{mg:Zp}{base h:Heap}{x q c:Str}{st:Stmt}{ps:List Str}{C f:Addr}{oc:ay}{od an:Option Addr}{osl:Array (Option ay)}{kV doc pm cdv ct:ay}{k:Nat}{sp:Sp}
theorem qd (a:i6 K bp x=some (some<|.ref f))(l:K.lookup f=some ⟨oc,od,.func<|w4 x x (oK st) (jf st) (aK st) .none kV doc pm an cdv ct,osl⟩)(c:z0 K cdv x=true)(k:sD K (.ref f)=true):QD K x st:=⟨f,_,Ym l c k,a⟩
theorem QD.df (Q:QD K x st)(X:K.In h)(G:h.Ns bp mg)(hb:∀(kV doc pm:ay) (an:Option Addr) (cdv ct:ay) (us:List ay),us.length=ps.length->bindArgs (w4 x x (oK st) (jf st) (aK st) .none kV doc pm an cdv ct) ⟨us,[]⟩=pure (ps.zip us)):Df K mg x st ps:=by
 obtain⟨f,fd,F,a⟩:=Q.ex;exact⟨f,fd,F,F.binds hb,kr X G a⟩
end
section
variable {X:Cx}{E:XK}{e a b tg iter:Expr}{body:List Stmt}{f fa fb:Zae}{fi:Zad}{g:Zab}{h:Zba}{pos pos':Pos}{i:Nat}{x:Str}
end
section
variable {P:bq}{w:dc}{K:a6}{mg:Zp}{base:Heap}{x:Str}{st:Stmt}{N ps:List Str}{k:Nat}{g:Zab}{i j:Int}
end
section
end
section
end
end F
namespace Pk
open PySem L2 Hd F
section
end
end Pk
namespace F
open PySem PySem.NumText Hd
def jl (s:List Nat):List (List Nat)->List Nat
 |[]=>[]
 |[a]=>a
 |a::b::r=>a++s++jl s (b::r)
theorem Kd (s:List Nat):∀l:List (List Nat),Str.join (tx s) (l.map tx)=tx (jl s l)
 |[]=>rfl
 |[a]=>rfl
 |a::b::r=>by
  have ih:=Kd s (b::r);show tx a++tx s++Str.join (tx s) ((b::r).map tx)=_;rw[ih,mz,mz];rfl
theorem Js {c:Nat}:∀{a a' b b':List Nat},c∉a->c∉a'->a++c::b=a'++c::b'->a=a'/\b=b'
 |[],[],_,_,_,_,e=>⟨rfl,by simpa using e⟩
 |[],x::_,_,_,_,h,e=>by
  have:c=x:=by simpa using congrArg List.head? e
  exact absurd (by rw[this];simp) h
 |x::_,[],_,_,h,_,e=>by
  have:x=c:=by simpa using congrArg List.head? e
  exact absurd (by rw[this];simp) h
 |x::a,y::a',b,b',h,h',e=>by
  have e2:x=y/\a++c::b=a'++c::b':=by simpa using e
  obtain⟨r1,r2⟩:=Js (a:=a) (a':=a') (λz=>h<|be _ z) (λz=>h'<|be _ z) e2.2;exact⟨by rw[e2.1,r1],r2⟩
theorem Jk {c:Nat}:∀{ps qs:List (List Nat)},ps≠[]->qs≠[]->(∀p∈ps,c∉p)->(∀q∈qs,c∉q)->jl [c] ps=jl [c] qs->ps=qs
 |[],_,h,_,_,_,_=>absurd rfl h
 |_,[],_,h,_,_,_=>absurd rfl h
 |[a],[b],_,_,_,_,e=>by rw[show a=b from e]
 |[a],b::b'::r,_,_,h1,_,e=>by
  exfalso;refine h1 a (by simp) ?_;rw[show a=b++[c]++jl [c] (b'::r) from e]
  simp
 |a::a'::r,[b],_,_,_,h2,e=>by
  exfalso;refine h2 b (by simp) ?_;rw[← show a++[c]++jl [c] (a'::r)=b from e]
  simp
 |a::a'::r,b::b'::t,_,_,h1,h2,e=>by
  have e1:a++c::jl [c] (a'::r)=b++c::jl [c] (b'::t):=by
   have:a++[c]++jl [c] (a'::r)=b++[c]++jl [c] (b'::t):=e
   simpa using this
  obtain⟨x,y⟩:=Js (h1 a<|by simp) (h2 b<|by simp) e1
  have:=Jk (ps:=a'::r) (qs:=b'::t) (by simp) (by simp) (λp hp=>h1 p<|be _ hp) (λq hq=>h2 q<|be _ hq) y
  rw[x,this]
theorem Qa (x y:Str):lj x y≠[]:=by
 unfold lj;split
 ·simp
 ·split
  ·simp
  ·unfold mf;cases cq x y 0 x.length (x.length+1)<;>simp
theorem Ov {c:Nat}{qs:List (List Nat)}(h0:qs≠[])(hq:∀q∈qs,c∉q):lj (tx<|jl [c] qs) (tx [c])=qs.map tx:=by
 have hf:=StrLaws.split_free (tx<|jl [c] qs) c;have hj:=StrLaws.join_split (tx<|jl [c] qs)<|tx [c];have hn:=Qa (tx<|jl [c] qs)<|tx [c];have conv:∀zs:List Str,∃ps:List (List Nat),zs=ps.map tx:=by
  intro zs;induction zs with
  |nil=>exact⟨[],rfl⟩
  |cons z zs ih=>obtain⟨ps,e⟩:=ih;exact⟨z.cps.toList::ps,by rw[e,bo,← tV (x:=z) rfl]⟩
 obtain⟨ps,e⟩:=conv<|lj (tx<|jl [c] qs)<|tx [c]
 rw[e] at hj hn ⊢;rw[Kd] at hj;have free:∀p∈ps,c∉p:=λp hp=>hf (tx p) (by
  show tx p∈lj _ (tx [c]);rw[e];exact oB.mpr ⟨p,hp,rfl⟩)
 rw[Jk (λz=>hn (by rw[z];rfl)) h0 free hq<|gZ.mp hj]
theorem kind_le {l:List Nat}{c d:Nat}(hc:c<128)(hd:d<128):¬gN (tx l)<gN (tx [c,d]):=by
 have e:gN (tx [c,d])=1:=by
  unfold gN;rw[if_pos];simp[tx];omega
 rw[e];unfold gN;split
 ·omega
 ·split<;>omega
open PySem PySem.Spec PyProof.Rows L2 Hd
section
variable {X:Cx}{tg:Expr}
end
def KX (K:a6)(H:Hp)(x:V)(t:ay):Prop:=(x=.non/\t=.type "NoneType")\/∃ea C,x=.ref ea/\t=.ref C/\(∃ox,H ea=some (.frz ox<|.ext<|rK ea<|.ref C))/\XC K C
def abf (K:a6):List V->Hp->VK->Prop:=λxs H Q=>∃x t C b,xs=[x,.ref C]/\KX K H x t/\cx K t (.ref C)=some b/\Q (.bl b) H
section
variable {X:Cx}
theorem Oh:fL X (.builtin "isinstance") (abf X.K):=by
 intro π s σ H xs us Q I r h;obtain⟨x,t,C,b,rfl,hk,e,q⟩:=h;obtain⟨u,w',rfl,ru,rw'⟩:=vals2 r;cases(show w'=bE C from rw');rcases hk with⟨rfl,rfl⟩|⟨ea,D,rfl,rfl,⟨ox,he⟩,Z⟩
 ·cases(show u=dy from ru);exact ix W.kitx_none I.kIn trivial e (λz=>nomatch z) λtk=>⟨.bl b,H,I.tok _,rfl,q⟩
 ·cases(show u=bE ea from ru);obtain⟨_,⟨o,ho,hc,_⟩,_⟩:=(show cO X.prog X.w H s.heap ea (.frz ox<|.ext<|rK ea<|.ref D) from I.hok ea _ he);exact ix (Ew Z) I.kIn ⟨o,ho,hc⟩ e (λz=>nomatch z) λtk=>⟨.bl b,H,I.tok _,rfl,q⟩
end
def ICl (K:a6)(mg:Zp)(y:Str)(tab:Str->Option Bool):Prop:=∃C,mg y=some (.ref C)/\(∀c D b,tab c=some b->mg c=some (.ref D)->XC K D/\cx K (.ref D) (.ref C)=some b)/\cx K (.type "NoneType") (.ref C)=some false
def DP (tab:Str->Option Bool)(f:Zae):Zae:=λm=>(f m).bind λd=>match d with
 | .exc c _ _=>ofO<|(tab c).map D.bl
 | .non=>.ok<|.bl false
 |_=>.stuck
section
variable {X:Cx}{E:XK}{a:Expr}{fa:Zae}{y:Str}{pos p py:Pos}
theorem rY {tab:Str->Option Bool}(ha:FB X E a fa)(hg:Gl X "isinstance")(hm:X.mg "isinstance" = none)(hv:ck "isinstance" = some (.builtin "isinstance"))(hgy:Gl X y)(ht:ICl X.K X.mg y tab)
  (hdy:(y==("__debug__":Str))=false:=by decide) (he:av [a,.Name y py] X.env=(false,eval a X.env)::av [.Name y py] X.env:=by rfl) (he2:av [.Name y py] X.env=(false,eval (.Name y py) X.env)::av [] X.env:=by rfl) (ζ:(iq pos<|av [.Name y py] X.env).any (·.1)=false:=by rfl):
  FE X E (.Call (.Name "isinstance" p) [a,.Name y py] [] pos) (DP tab fa):=by
 obtain⟨C,hC,ht,hn⟩:=ht;refine bA (t7 Oh hg hm hv (iG ha (iG (Jh (v:=.ref C) hgy hC rfl hdy) oW he2) he) (by decide) (by decide) he ζ) λσ H Q h=>?_;obtain⟨O0,M0,H0,ow,m,R,q⟩:=h;refine⟨O0,M0,H0,ow,m,R,q.bind.imp (aH.refl _) λd q v H' g hv=>?_⟩;cases d with
 |exc k=>
  obtain⟨r,hr,kk⟩:=q.ofO;obtain⟨b,hb,rfl⟩:=omap hr;obtain⟨ea,D,rfl,hD,hH⟩:=QR hv;obtain⟨z1,z2⟩:=ht k D b hb hD;exact⟨_,_,C,b,rfl,.inr ⟨ea,D,rfl,rfl,hH,z1⟩,z2,kk _ _ g<|.bl _⟩
 |non=>
  cases uH hv;exact⟨_,_,C,false,rfl,.inl ⟨rfl,rfl⟩,hn,q _ _ g<|.bl _⟩
 |_=>exact q.elim
end
end F
namespace Hd
open PySem PySem.Spec PyProof.Rows L2
section
variable {X:Cx}{i j k:Nat}{x:Str}{ps:List Str}{sp:Sp}{p pos:Pos}{e:Expr}{es:List Expr}{t:TA}{f:Addr}{fd:gc}
end
end Hd
namespace F
open PySem PySem.Spec PyProof.Rows L2 Hd
section
variable {X:Cx}{E:XK}{i j k l:Nat}{x y z:Str}{ps qs:List Str}{p pos χ:Pos}{e:Expr}{es:List Expr}{fs:Zad}{Φ Ψ:Zac}{a b:Addr}
end
section
variable {X:Cx}{tg:Expr}
end
section
variable {G:Gx}{O:Zaa}{H H':Hp}{a:Addr}{ι:List (Key×V)}
end
section
variable {X:Cx}{π:Zl}{s:aI}{σ:L2.St}{H:Hp}{a:Addr}{ι:List (Key×V)}{o:Obj}
end
section
variable {G:Gx}{E:XK}{O0 M0:Zaa}{H0 H:Hp}{ow:Os}{a:Addr}{o:Obj}{ι:List (Key×V)}{W:Ends}
end
section
variable {prog:bq}{w:dc}{κ:Type}[DecidableEq κ]{kn:HeapKind prog w κ}{A:cK}{E:Zs}{s:aI}
end
section
variable {X:Cx}{π:Zl}{σ:L2.St}{H:Hp}{s:aI}
end
section
variable {X:Cx}{tg:Expr}
end
section
variable {prog:bq}{w:dc}{A:cK}{E:Zs}{s:aI}
def Hdl (A:cK)(h:Heap):Prop:=∃x o vs,A.handled=some (.ref x)/\h.get? x=some o/\o.data=.fields vs/\vs[2]? = some .none
theorem zj:entryFor table "proto.unchain" = some xk.«proto.unchain»:=entryFor_of_tree<|by kernel_rfl
theorem Dy {v x:ay}{a:Addr}{o:Obj}{vs:Array ay}{Q:Fin->aI->Prop}(ho:s.heap.get? a=some o)(hd:o.data=.fields vs)(h2:vs[2]? = some .none)(k:Q (.done<|.ret .none) s):
  br (b0 prog w) A (xk.«proto.unchain» ⟨[v,.ref a,x,.bool false],[]⟩) Q E s:=by
 unfold xk.«proto.unchain»;refine ae<|eB ho hd h2 ?_;show br _ _ (if(dy==dy)=true then _ else _) _ _ s;rw[if_pos<|show(dy==dy)=true from rfl];exact ah k
theorem U3 {α:Type}{Q:α->aI->Prop}{x e:Addr}{o oe:Obj}{vs ves:Array ay}(hh:A.handled=some (.ref x))(ne:x≠e)(ho:s.heap.get? x=some o)(hd:o.data=.fields vs)(h2:vs[2]? = some .none)
  (he:s.heap.get? e=some oe) (hde:oe.data=.fields ves) (hz:2<ves.size) (k:E (.ref e) { s with heap:=s.heap.update e (i0 (·.setIfInBounds 2 (.ref x))) }):br (b0 prog w) A (raiseNew (.ref e):Sem α) Q E s:=by
 simp only[raiseNew];refine ae<|wpAny_handled ?_;rw[hh];have n1:(bE x != bE e)=true:=by simp[bne,ne]
 simp only[n1,if_true];refine ae<|fw<|runValue_entry zj<|Dy ho hd h2 ⟨_,rfl,?_⟩;unfold updateField;refine ae<|ae<|wpAny_load he ?_;rw[hde];simp only[hz,if_true];exact wpAny_update he<|wpAny_throw k
theorem Rb {α:Type}{Q:α->aI->Prop}(H:Hdl A s.heap)
  (k:∀h' e,(∀b o,s.heap.get? b=some o->h'.get? b=some o)->(∃o,h'.get? e=some o/\o.cls=.type "StopIteration")->E (.ref e) { s with heap:=h' }):
  br (b0 prog w) A (do let e←newExc (.type "StopIteration") [];raiseNew e:Sem α) Q E s:=by
 obtain⟨x,o,vs,hh,ho,hd,h2⟩:=H;refine ae ?_;simp only[newExc,newTuple];refine ae<|ef ?_ (by size_fits);refine ae (m:=r9 _ _)<|wpAny_of_eq (a:=dy) (by first|rfl|(simp only[r9];rfl)) ?_;refine ef ?_ (by size_fits);have xl:x<s.heap.objs.size:=ar ho;have e1:(s.heap.push { cls:=.type "tuple",data:=.seq [].toArray }).objs.size=s.heap.objs.size+1:=by simp[Heap.push]
 refine U3 hh (by rw[e1];exact a5<|nX xl) ((n4 _ _ _ (by rw[e1];exact a5<|nX xl)).trans<|(n4 _ _ _<|a5 xl).trans ho) hd h2 (aS _ rfl) rfl (by simp[ownMembersOf])<|k _ _ (λb q hb=>?_) ?_
 ·have bl:b<s.heap.objs.size:=ar hb;rw[l8 _ _ _ _ (by rw[e1];exact a5<|nX bl),n4 _ _ _ (by rw[e1];exact a5<|nX bl),n4 _ _ _<|a5 bl];exact hb
 ·exact⟨_,eK _ (aS _ rfl) rfl,rfl⟩
theorem Hdl.upd {it:Addr}{f:Obj->Obj}{oi:Obj}{us:Array ay}(H:Hdl A s.heap)(hi:s.heap.get? it=some oi)(hd:oi.data=.fields us)(hz:us[2]? = none):Hdl A (s.heap.update it f):=by
 obtain⟨x,o,vs,hh,ho,hv,h2⟩:=H;refine⟨x,o,vs,hh,(l8 _ _ _ _ λz=>?_).trans ho,hv,h2⟩;subst z;cases hi.symm.trans ho;cases hd.symm.trans hv;rw[hz] at h2;cases h2
theorem MJ {it l:Addr}{i:Nat}{items:Array ay}{Q:Option ay->aI->Prop}(H:Hdl A s.heap)(hit:s.heap.IsListIter it l i)(hl:s.heap.IsList l items)(hx:items[i]? = none)
  (hQ:∀h',xA it s.heap h'->Q none { s with heap:=h' }):br (b0 prog w) A (t9<|.ref it) Q E s:=by
 obtain⟨o,ho,hc,hd⟩:=id hit;obtain⟨ol,hol,_,nl,hdl⟩:=hl;unfold t9;refine ae<|sP<|h8 (name:=af "__next__") hit.typeIs slot_listiter_next<|fS slot_listiter_next hit.typeIs entry_listiter_next ?_<|args_listiter_next _;show br _ _ (field (.ref it) 0 >>= _) _ _ s;refine ae<|eB ho hd (x:=.ref l) rfl ?_;show br _ _ (if(bE l==dy)=true then _ else _) _ _ s;rw[if_neg λz=>by cases(show false=true from z)];show br _ _ (field (.ref it) 1 >>= _) _ _ s;refine ae<|eB ho hd (x:=.int i 0) rfl<|show br _ _ (seqItems? (.ref l) >>= _) _ _ s from ae (ro hol hdl ?_);simp only[nV,hx];refine ae<|sj<|ae<|ij ho hd (by simp) ?_;refine Rb (A:=A.in1) (s:={ s with heap:=_ }) (Hdl.upd (A:=A.in1) H ho hd rfl) λh' e kp ⟨oe,he,ce⟩=>?_;refine ae<|lI (T:="StopIteration") (b:=true) ⟨oe,he,ce⟩ xa ?_;exact ah<|hQ _ λb q nb hb=>kp b q<|(l8 _ _ _ _ nb).trans hb
theorem Gu {it l:Addr}{i:Nat}{items:Array ay}{Q:Option ay->aI->Prop}(H:Hdl A s.heap)(hit:s.heap.IsTupleIter it l i)(hl:s.heap.IsTuple l items)(hx:items[i]? = none)
  (hQ:∀h',xA it s.heap h'->Q none { s with heap:=h' }):br (b0 prog w) A (t9<|.ref it) Q E s:=by
 obtain⟨o,ho,hc,hd⟩:=id hit;obtain⟨ol,hol,_,nl,hdl⟩:=hl;unfold t9;refine ae<|sP<|h8 (name:=af "__next__") hit.typeIs mT<|fS mT hit.typeIs PySem.F.entry_tuple_iterator_next ?_<|PySem.F.args_tuple_iterator_next_1 _;show br _ _ (field (.ref it) 0 >>= _) _ _ s;refine ae<|eB ho hd (x:=.ref l) rfl ?_;show br _ _ (if(bE l==dy)=true then _ else _) _ _ s;rw[if_neg λz=>by cases(show false=true from z)];show br _ _ (field (.ref it) 1 >>= _) _ _ s;refine ae<|eB ho hd (x:=.int i 0) rfl<|show br _ _ (seqItems? (.ref l) >>= _) _ _ s from ae (ro hol hdl ?_);simp only[nV,hx];refine ae<|sj<|ae<|ij ho hd (by simp) ?_;refine Rb (A:=A.in1) (s:={ s with heap:=_ }) (Hdl.upd (A:=A.in1) H ho hd rfl) λh' e kp ⟨oe,he,ce⟩=>?_;refine ae<|lI (T:="StopIteration") (b:=true) ⟨oe,he,ce⟩ xa ?_;exact ah<|hQ _ λb q nb hb=>kp b q<|(l8 _ _ _ _ nb).trans hb
end
def HS (X:Cx):Prop:=∃x o u vs,X.A.handled=some (.ref x)/\X.H₀ x=some (.frz o u)/\o.data=.fields vs/\vs[2]? = some .none
theorem Qo {X:Cx}{π:Zl}{σ:L2.St}{H:Hp}{s:aI}(h:HS X)(I:Inv X π σ H s):Hdl X.A s.heap:=by
 obtain⟨x,o,u,vs,h1,h2,h3,h4⟩:=h;exact⟨x,o,vs,h1,(I.hok x _<|I.base.frzs x o u h2).1,h3,h4⟩
theorem G6 {P:bq}{w:dc}{K:a6}{tg:Expr}(a it:Addr):Turn HS P w K tg (Itl K a) [it] it (λi h=>h.IsListIter it a i) where
 mem:=by simp
 obj:=λi h st b hb=>by
  have e:b=it:=by simpa using hb
  subst e;obtain⟨o,e,c,d⟩:=st;exact⟨o,e,λv z=>by rw[d] at z;cases z⟩
 keep:=λi h h' st k=>st.at λo e=>k it (by simp) o e
 item:=by
  intro X hP hw hK hc i π s σ H E I hf st hg;subst hP hw hK;obtain⟨xs,x,hq,hx⟩:=hg;obtain⟨its,rv,p,hz⟩:=I.list hq;obtain⟨u,hu,ru⟩:=rv.get hx;obtain⟨f0,f1,f2,f3,f4,f5⟩:=hf it (by simp);refine wpAny_pyNext_list_item st p.isList (x:=u) (by simpa using hu) λh' st' sb=>?_;have I1:Inv X π σ H { s with heap:=h' }:=I.turned (t':=s.toks) (λb o hb e=>(sb.2 b hb).trans e) f0 f1 f3 f4 f5;obtain⟨o,e,c,d⟩:=id st';exact⟨u,rfl,Fb (s:={ s with heap:=h' }) e c d (by decide) ⟨x,H,I1,ru,⟨rfl,λys hy=>by rw[I.yo hy hq];exact hx⟩,st',λb hb=>(hf b hb).1⟩⟩
 done:=by
  intro X hP hw hK hc i π s σ H E I hf st hg;subst hP hw hK;obtain⟨xs,hq,hx⟩:=hg;obtain⟨its,rv,p,hz⟩:=I.list hq;obtain⟨f0,f1,f2,f3,f4,f5⟩:=hf it (by simp);have hl:=rv.length;exact MJ (Qo hc I) st p.isList (by simp;omega) λh' eb=>⟨rfl,I.turned (t':=s.toks) (λb o hb e=>eb b o hb e) f0 f1 f3 f4 f5⟩
 self:=λ_ _ _ _ _ st h=>wpAny_pyIter_listiter st h
section
variable {X:Cx}{tg:Expr}
theorem N5 {l:Expr}{tl:TE}(hl:PE X l tl):PI HS X tg l (VJ X.K tl):=by
 intro π s σ H R I h;refine thn (hl π s σ H _ I h) λv s1 hE=>xq2 hE λx H1 I1 r1 q1=>?_;obtain⟨a,e,⟨xs,hq⟩,q⟩:=q1;subst e;cases r1;obtain⟨its,rv,p,hz⟩:=I1.list hq;refine nE p.isList ?_;refine⟨s1.heap.objs.size,[s1.heap.objs.size],_,_,H1,rfl,I1.kept (t':=s1.toks) λb o e=>ag _ e,G6 a _,⟨_,aS _ rfl,rfl,rfl⟩,λb hb=>?_,q⟩;have e:b=s1.heap.objs.size:=by simpa using hb
 subst e;exact I1.Mf (aE _)<|I1.hok.fresh<|aE _
theorem Ek {Cm:Cx->Prop}{e:Expr}{T T':TI}(h:PI Cm X tg e T)(k:∀σ H R,T' σ H R->T σ H R):PI Cm X tg e T':=λπ s σ H R I q=>h π s σ H R I<|k σ H R q
end
section
variable {X:Cx}{E:XK}{tg e:Expr}{f:Zae}
theorem O9 (h:FE X E e f):PI HS X tg e (tI (gx X) E<|kY f):=Ek (N5 h) λσ H R hE=>xq5 hE λO0 M0 H0 ow m Re q=>⟨O0,M0,H0,ow,m,Re,q.bind.imp (aH.refl _) λd q v H' g hv=>by
 cases d with
 |lst ds=>
  cases hv with
  |lst hl hd=>exact⟨_,rfl,⟨_,hl.sq⟩,q _ H' g<|Kf (Re.mono g).mutk hl hd⟩
 |_=>exact q.elim⟩
end
def A0 (A:cK):cK:={ A with handled:=none }
def ji (k:Nat)(A:cK):Prop:=fB k<|A0 A
theorem ji.depth {k:Nat}{A:cK}(r:ji k A):A.depth<wt:=(fB.depth (A:=A0 A) r)
theorem ji.deeper {k:Nat}{A:cK}(r:ji (k+1) A)(env:Env):ji k (A.deeper env):=(fB.deeper (A:=A0 A) r env)
theorem ji.mono {j k:Nat}{A:cK}(r:ji k A)(h:j<=k):ji j A:=fB.mono (A:=A0 A) r h
def cxH (CX:CXT)(P:bq)(w:dc)(K:a6)(mg:Zp)(base:Heap)(N:List Str)(qual:Str)(scope:l0)(f:Addr)(cd:ay)(A:cK)(outer:List Env)(s:aI)(H:Hp)(E:XK):Cx:=
 { j7 CX P w K mg base N qual scope f cd A outer s H E with calm:=false }
structure vG (P:bq)(w:dc)(K:a6)(mg:Zp)(base:Heap)(CX:CXT)(k:Nat)(f:Addr)(fd:gc)(ps:List Str)(sp:Sp):Prop where
 len:∀vs H Q E,sp vs H Q E->vs.length=ps.length
 run:∀(A:cK) (outer:List Env) (s:aI) (H:Hp) (args:Args) (us:List ay) (vs:List V) (Q:VK) (E:XK),ji k A->Hi A H->Hh P w K mg base A outer s H->y4 s fd args (ps.zip us)->Vals vs us->sp vs H Q E->
  pS (b0 P w) A (.call (.ref f) args) (CR CX outer P w H s Q E) s
theorem Hu {CX:CXT}{P:bq}{w:dc}{K:a6}{mg:Zp}{base:Heap}{N ps:List Str}{qual:Str}{scope:l0}{f:Addr}{cd:ay}{A:cK}{outer:List Env}{s s1:aI}{H:Hp}{E:XK}{us:List ay}{vs:List V}
  (S:bx N ps scope) (e0:Hh P w K mg base A outer s H) (hl:vs.length=ps.length) (r:Vals vs us)
  (x:InCallC s s.heap.objs.size (AI (rj qual scope s.heap.objs.size f cd).kindOf (ps.zip us) λ_=>none) (x8 (s.heap.objs.size+1) scope.names []) (AJ (rj qual scope s.heap.objs.size f cd).kindOf (ps.zip us) λ_=>none) s1):
  Inv (cxH CX P w K mg base N qual scope f cd A outer s H E) [] (L2.start N vs) H s1:=by
 have e1:Hh P w K mg base (A0 A) outer s H:=⟨e0.frames,e0.mod,e0.bs,e0.bsz,e0.ni,e0.frf,e0.hok,e0.bare⟩;have I:=zX (CX:=CX) (qual:=qual) (f:=f) (cd:=cd) (E:=E) (A:=A0 A) S rfl e1 hl r x;have ok:=I.ok;exact⟨⟨ok.mod,ok.kind,ok.glob,ok.blt,ok.above,ok.inj,ok.has,ok.cab,λz=>(by cases(show false=true from z)),we e0.frames,ok.stk,ok.exf,ok.bs,ok.bsz,ok.noex,ok.exfs,ok.ni,ok.frf⟩,I.os,I.bare,I.base,I.loc,I.cell,I.free,I.freeC,I.pin,I.hok,I.len⟩
theorem Yo {CX:CXT}{P:bq}{w:dc}{K:a6}{mg:Zp}{base:Heap}{k:Nat}{f:Addr}{name qual:Str}{params:Arguments}{body:List Stmt}{scope:l0}{dV kV doc pm cdv ct oc:ay}{an od:Option Addr}
  {osl:Array (Option ay)} {N ps:List Str} {sp:Sp} (lk:K.lookup f=some ⟨oc,od,.func<|w4 name qual params body scope dV kV doc pm an cdv ct,osl⟩) (hcd:z0 K cdv qual=true) (S:bx N ps scope)
  (len:∀vs H Q E,sp vs H Q E->vs.length=ps.length)
  (hbody:∀(A:cK) (outer:List Env) (s:aI) (H:Hp) (vs:List V) (Q:VK) (E:XK),ji k (A.deeper<|rj qual scope s.heap.objs.size f cdv)->HS (cxH CX P w K mg base N qual scope f cdv A outer s H E)->sp vs H Q E->
   ∃t,PSs (cxH CX P w K mg base N qual scope f cdv A outer s H E) body t/\t { nx:=λ_ H'=>Q .non H',rt:=Q } (start N vs) H):
  vG P w K mg base CX (k+1) f (w4 name qual params body scope dV kV doc pm an cdv ct) ps sp:=by
 refine⟨len,λA outer s H args us vs Q E hr hh e0 hb r hsp=>?_⟩;have hl:=len _ _ _ _ hsp;have KX:K.In s.heap:=e0.mod.kin.keeps λb o e=>(e0.bs b o e).1;have lim:s.heap.NoLimit:=e0.mod.nolimit.keeps λb o e=>(e0.bs b o e).1;have hkind:∀y∈ps.zip us,scope.names.lookup y.1=some .local\/(scope.names.lookup y.1=some .cell/\((x8 (s.heap.objs.size+1) scope.names []).lookup y.1).isSome=true):=λ⟨n,v⟩ hy=>by
  rcases S.par n (pV hy).1 with q|q
  ·exact .inl q
  ·exact .inr ⟨q,tm _ _ _<|.inl q⟩
 refine codeAny_call_function (ji.depth hr) (KX _ _ lk) rfl S.co S.gen rfl (W.codeRec_of KX hcd)<|hb _ _ _ _ ?_;refine qB S.kind hkind λenv he s1 x=>?_;subst he;refine⟨lim.keeps x.toInCall.keep,codeAny_func ?_⟩;obtain⟨t,ht,hq⟩:=hbody A outer s H vs Q E (ji.deeper hr _) hh hsp;have I:Inv (cxH CX P w K mg base N qual scope f cdv A outer s H E) [] (start N vs) H s1:=Hu S e0 hl r x;refine d3 (ht [] s1 (start N vs) H _ I hq) (λfl s' hs=>?_) λe s' hs=>hs;have fin:∀{σ':L2.St} {H':Hp} {v:V} {u:ay},Inv (cxH CX P w K mg base N qual scope f cdv A outer s H E) [] σ' H' s'->RelV v u->Q v H'->CE outer P w H s Q u s':=
  λ{σ' H' v u} J rv q=>⟨v,H',J.os,J.bare,J.base,J.hok,rv,q⟩
 cases fl with
 |ret u=>
  obtain⟨v,σ',H',J,rv,q⟩:=hs;exact fin J rv q
 |next=>
  obtain⟨σ',H',J,q⟩:=hs;exact fin (v:=V.non) (u:=dy) J rfl q
 |brk=>
  obtain⟨_,_,_,q⟩:=hs;exact ff q
 |cont=>
  obtain⟨_,_,_,q⟩:=hs;exact ff q
section
variable {P:bq}{w:dc}{K:a6}{mg:Zp}{base:Heap}
theorem Rj {x qual:Str}{st:Stmt}{f:Addr}{fd:gc}{N ps:List Str}{k:Nat}{sp:Sp}(F:Fun K x qual st f fd)(S:bx N ps (aK st))(len:∀vs H Q E,sp vs H Q E->vs.length=ps.length)
  (hbody:∀(cdv:ay) (A:cK) (outer:List Env) (s:aI) (H:Hp) (vs:List V) (Q:VK) (E:XK),ji k (A.deeper<|rj qual (aK st) s.heap.objs.size f cdv)->HS (cxH (CX1 P w) P w K mg base N qual (aK st) f cdv A outer s H E)->sp vs H Q E->
   ∃t,PSs (cxH (CX1 P w) P w K mg base N qual (aK st) f cdv A outer s H E) (jf st) t/\t { nx:=λ_ H'=>Q .non H',rt:=Q } (L2.start N vs) H):vG P w K mg base (CX1 P w) (k+1) f fd ps sp:=by
 obtain⟨oc,od,kV,doc,pm,an,cdv,ct,osl,rfl,lk,hcd⟩:=F.ex;refine Yo lk hcd S len λA outer s H vs Q E hr hh hsp=>?_;obtain⟨t,h,q⟩:=hbody cdv A outer s H vs Q E hr hh hsp;exact⟨t,h,q⟩
theorem RD {x qual:Str}{st:Stmt}{f:Addr}{fd:gc}{N ps:List Str}{k:Nat}{g:Zab}(Fu:Fun K x qual st f fd)(S:bx N ps (aK st))
  (hbody:∀(cdv:ay) (A:cK) (outer:List Env) (s:aI) (H:Hp) (E:XK),ji k (A.deeper<|rj qual (aK st) s.heap.objs.size f cdv)->HS (cxH (CX1 P w) P w K mg base N qual (aK st) f cdv A outer s H E)->
   FSs (cxH (CX1 P w) P w K mg base N qual (aK st) f cdv A outer s H E) E (jf st) g):vG P w K mg base (CX1 P w) (k+1) f fd ps (spF ⟨K,mg⟩<|aW N.length ps.length g):=by
 refine Rj Fu S (λvs H Q E h=>?_) λcdv A outer s H vs Q E hr hh h=>?_
 ·obtain⟨O,ds,_,hd,q⟩:=h;rw[cB hd];unfold aW at q;exact(pO q).1
 ·obtain⟨O,ds,hm,hd,q⟩:=h;unfold aW at q;obtain⟨hn,q⟩:=pO q;refine⟨_,hbody cdv A outer s H E hr hh,O,λ_=>False,H,λ_=>none,_,z8 hm hd hn,?_⟩;have sm:∀{ow' σ' H' m'},fX (⟨K,mg⟩:Gx) O (λ_=>False) H ow' σ' H' m'->aH H H':=λR b o e=>R.keep b o e id;cases z:g (ds.map Sl.fz++aT (N.length-ps.length) Sl.un) with
  |exc c=>rw[z] at q;exact λC H' e kp=>q C H' e λb o e=>kp b o e id
  |stuck=>rw[z] at q;exact q.elim
  |ok a=>
   obtain⟨fl,m'⟩:=a;rw[z] at q;cases fl with
   |bk=>exact q.elim
   |ct=>exact q.elim
   |nx=>exact λow' σ' H' R' _=>q _ H' (sm R') .non λz=>by cases z
   |rt fr d=>
    intro v ow' σ' H' R' _ hv hf;refine q v H' (sm R') (hv.cL λb z=>.inl<|.inl z) λz=>?_;rcases hf z with⟨p,e1,e2,e3⟩|t
    ·exact .inl ⟨p,e1,e2,e3.cL λb z=>.inl<|z.elim (λy=>.inl<|.inl y) .inr⟩
    ·exact .inr t
end
structure FnH (P:bq)(w:dc)(K:a6)(mg:Zp)(base:Heap)(k:Nat)(x:Str)(ps:List Str)(sp:Sp):Prop where
 ex:∃f fd,vG P w K mg base (CX1 P w) k f fd ps sp/\Binds K fd ps []/\sD K (.ref f)=true/\mg x=some (.ref f)
abbrev FFH (P:bq)(w:dc)(K:a6)(mg:Zp)(base:Heap)(k:Nat)(x:Str)(ps:List Str)(Φ:Zac):Prop:=FnH P w K mg base k x ps<|spF ⟨K,mg⟩ Φ
theorem DfH {P:bq}{w:dc}{K:a6}{mg:Zp}{base:Heap}{x:Str}{st:Stmt}{ps:List Str}{k:Nat}{sp:Sp}(D:Df K mg x st ps)
  (h:∀f fd,Fun K x x st f fd->vG P w K mg base (CX1 P w) k f fd ps sp):FnH P w K mg base k x ps sp:=by
 obtain⟨f,fd,F,b,m⟩:=D.ex;exact⟨f,fd,h f fd F,b,F.kp,m⟩
section
variable {X:Cx}{CX:CXT}{j k:Nat}{f:Addr}{fd:gc}{ps:List Str}{sp:Sp}{dvs:List V}{ds:List ay}{E:XK}{x:Str}{p pos:Pos}{e:Expr}{es:List Expr}{t:TA}{Φ:Zac}{fs:Zad}
theorem Vj {π:Zl}{σ:L2.St}{H:Hp}{s:aI}{Q:VK}{us:List ay}{vs:List V}(F:vG X.prog X.w X.K X.mg X.base CX k f fd ps sp)(hr:ji k X.A)(hh:Hi X.A H)(hb:Binds X.K fd ps ds)(hd:Vals dvs ds)(hx:Passes CX X E)
  (I:Inv X π σ H s) (r:Vals vs us) (h:sp (vs++dvs) H Q E):br (b0 X.prog X.w) X.A (call (.ref f) us) (EP X π σ Q) X.xe s:=by
 have r2:Vals (vs++dvs) (us++ds):=r.append hd;have hl:(us++ds).length=ps.length:=by rw[← r2.length];exact F.len _ _ _ _ h
 refine wpAny_call<|rh (F.run X.A X.stack s H ⟨us,[]⟩ (us++ds) (vs++dvs) Q E hr hh I.env0 (hb s us I.kIn hl) r2 h) λr s' hq=>?_;cases r with
 |error e=>exact hx π σ H s e s' I hq
 |ok fl=>
  cases fl with
  |ret u=>exact I.after hq
  |next=>exact ff hq
  |brk=>exact ff hq
  |cont=>exact ff hq
end
section
variable {P:bq}{w:dc}{K:a6}{mg:Zp}{base:Heap}{N:List Str}{qual:Str}{scope:l0}{f:Addr}{cd:ay}{A:cK}{outer:List Env}{s:aI}{H:Hp}{E:XK}
end
section
variable {X:Cx}{CX:CXT}{i j k:Nat}{f:Addr}{fd:gc}{ps:List Str}{sp:Sp}{dvs:List V}{ds:List ay}{E:XK}{x y:Str}{p pos pos' χ:Pos}{e:Expr}{es:List Expr}{t:TA}{Φ:Zac}{fs:Zad}
theorem Py (Fo:vG X.prog X.w X.K X.mg X.base CX k f fd ps sp)(hr:ji k X.A)(hg:Gl X x)(hm:X.mg x=some (.ref f))(hk:sD X.K (.ref f)=true)(hb:Binds X.K fd ps ds)(hd:Vals dvs ds)(hx:Passes CX X E)
  (ha:PA X (e::es) t) (hdb:(x==("__debug__":Str))=false:=by decide) (he:av (e::es) X.env=(false,eval e X.env)::av es X.env:=by rfl) (ζ:(iq pos<|av es X.env).any (·.1)=false:=by rfl):
  PE X (.Call (.Name x p) (e::es) [] pos) (λσ H Q=>t σ H λvs H1=>Hi X.A H1/\sp (vs++dvs) H1 Q E):=by
 intro π s σ H Q I h;refine hG<|qQ I hg hm ?_ hdb;refine zo (h₀:=X.base) I.ok.mod.kin hk (thn (ha pos π s σ H _ I h) λus s1 hE=>xq2 hE λvs H1 I1 r q=>⟨I1.kIn,?_⟩) he ζ;exact Vj Fo hr q.1 hb hd hx I1 r q.2
theorem M5 {A:cK}{H H':Hp}(h:Hi A H)(g:aH H H'):Hi A H':=let⟨x,o,u,vs,a,b,c⟩:=h;⟨x,o,u,vs,a,g _ _ b,c⟩
theorem JL (Fh:FFH X.prog X.w X.K X.mg X.base k x ps Φ)(hr:ji j X.A)(hN:X.N.Nodup)(hi:X.N[i]? = some y)(hy:Loc X.env.scope y)(ha:FAE X E0 (e::es) fs)(hk:k<=j:=by decide)(hg:Gl X x:=by rfl)
  (hdb:(x==("__debug__":Str))=false:=by decide) (he:av (e::es) X.env=(false,eval e X.env)::av es X.env:=by rfl) (ζ:(iq χ<|av es X.env).any (·.1)=false:=by rfl)
  (hs:gs (.Call (.Name x p) (e::es) [] χ) (some<|.Name y pos') pos.line X.env=pure false:=by rfl) (hf:X.fn y=true\/X.env.scope.names.lookup y=some .local:=by first|exact .inl rfl|exact .inr rfl|assumption):
  PSs X [.Assign [.Name y pos'] (.Call (.Name x p) (e::es) [] χ) pos] (tSA X<|aX i<|fFn Φ fs):=by
 obtain⟨f,fd,G,b,kp,m⟩:=Fh.ex;have c:PE X (.Call (.Name x p) (e::es) [] χ) (λσ H Q=>Hi X.A H/\tE (gx X) E0 (fFn Φ fs) σ H Q):=bA (Py G (hr.mono hk) hg m kp b .nil (Es) ha hdb he ζ) λσ H Q ⟨z,O0,M0,H0,ow,m,R,q⟩=>⟨O0,M0,H0,ow,m,R,q.bind.imp (aH.refl _) λds q vs H1 g1 hv=>⟨M5 z g1,by
  show spF _ _ (vs++[]) _ _ _;rw[cw];exact⟨_,ds,(R.mono g1).mutk,hv,q.bind.imp g1 λr q v H' g2 hv' _=>q v H' (g1.trans g2) hv'⟩⟩⟩
 exact JN<|dJ (Ao hN hi hy c hs hf) λW σ H ⟨z,h⟩=>⟨z,Hw h⟩
theorem Ro {ea:Addr}(hr:fB k X.A):ji k (inh X ea).A:=⟨rfl,hr.dp,hr.un,hr.gd⟩
end
theorem Yl {k:Nat}{A:cK}(r:ji k A):A.units+64<mn:=fB.units (A:=A0 A) r
section
variable {prog:bq}{w:dc}{A:cK}{E:Zs}{s:aI}
end
end F
namespace Hd
open PySem PySem.Spec PyProof.Rows L2
section
variable {prog:bq}{w:dc}{A:cK}{E:Zs}{h:Heap}{g:Array n5}{d:Drawn}{t:Nat}{os:OsState}
variable {nm q:Str}{C N fI:Addr}{bs bm bmB:List ay}{hdct:Bool}{sn:List Str}{sub:List ay}{ab:Bool}{col:Option Bool}{dd:Option Addr}{k0 k1 k2 k3 k5:Option ay}{B newId initId:String}
end
section
variable {prog:bq}{w:dc}{A:cK}{E:Zs}{s:aI}{x C:Addr}{ox:Obj}{od:Option Obj}{K:a6}{f:Str}{v:ay}{Q:Unit->aI->Prop}
end
section
variable {prog:bq}{w:dc}{A:cK}{E:Zs}{h:Heap}{g:Array n5}{d:Drawn}{t:Nat}{os:OsState}{a C dx:Addr}{o:Obj}{K:a6}{f:Str}{v:ay}{mA:Zp}
end
section
variable {P:bq}{w:dc}{H:Hp}{h:Heap}{e dx:Addr}{ob:Obj}{fs:List (Str×V)}
end
section
variable {X:Cx}{π:Zl}{σ:St}{H:Hp}{s:aI}{e dx C fI:Addr}{ob:Obj}{fs:List (Str×V)}{φ:Heap->Prop}{f:Str}{v:V}{u:ay}{A:cK}{E:Zs}{Q:Unit->aI->Prop}
end
section
variable {X:Cx}{o value:Expr}{f:Str}{pos pos':Pos}{ta tv:TE}
end
section
variable {P:bq}{w:dc}{K:a6}{mg:Zp}{base:Heap}{q a b:Str}{st:Stmt}{f C:Addr}{fd:gc}{p1 p2 p3 p4 p5 p6 p7 p8:Pos}
end
section
variable {X:Cx}{k:Nat}{f C:Addr}{fd:gc}{ps ns:List Str}{x:Str}{p pos χ:Pos}{e:Expr}{es:List Expr}{t:TA}
end
section
variable {P:bq}{w:dc}{K:a6}{mg:Zp}{base:Heap}{N:List Str}{qual:Str}{scope:l0}{f:Addr}{cd:ay}{A:cK}{outer:List Env}{s:aI}{H:Hp}{E:XK}
end
end Hd
namespace F
open PySem PySem.Spec PyProof.Rows L2 Hd
section
variable {X:Cx}{E:XK}{e a:Expr}{es:List Expr}{fs:Zad}{fa:Zae}{x f:Str}{np χ pos p:Pos}{j k:Nat}{ns:List Str}
end
end F
namespace Hd
open PySem PySem.Spec PyProof.Rows L2
section
variable {M:Model}{A:cK}{E:Zs}{s:aI}{B:Heap}{env:Env}{l:List Env}{L e:Addr}{o:Obj}{us vs:Array ay}{Q:Unit->aI->Prop}{fl:ay}
theorem Pr (hA:A.frames=some (env::l))(hf:env.frame=some L)(g:Fy B (env::l) e o us fl s.heap)(q:∀h',Fy B (env::l) e o us (nc L) h'->s.heap.UpToSlots h'->Q () { s with heap:=h' }):br M A (mE (.ref e) env) Q E s:=by
 by_cases hfl:fl=nc L
 ·subst hfl;exact QB hf g<|q _ g λb o h _=>⟨o.slots,h⟩
 obtain⟨_,_,_,z,T,y,ts,he,hb,ne,hT,hd,h3⟩:=id g;unfold mE;simp only[hf];refine ae<|eB he rfl (x:=.ref T) (by simp[z]) ?_;rw[if_pos<|show(bE T != dy)=true from by simp];refine ae<|eB hT hd h3 ?_;rw[if_neg<|show ¬((fl==nc L)=true) from by simpa using hfl];obtain⟨g',u'⟩:=Ba (x:=.none) g T y ts hT hd h3 hb ne he;refine ae<|ij hT hd (dE.mp h3).1 ?_;have he':=(b5 s.heap (i0 (·.setIfInBounds 3 dy)) ne).trans he;refine Im (us:=us.setIfInBounds 1<|.ref T) hA hf g'.2.2.1 he' (by simpa using z) g'.1 g.2.1 λh2 g2 u2=>q h2 ?_<|u'.trans u2;obtain⟨a,b,c,z',T',r⟩:=g2;rw[Z3] at r;exact⟨a,b,c,z,T',r⟩
theorem MP (hA:A.frames=some (env::l))(hf:env.frame=some L)(g:Fy B (env::l) e o us fl s.heap)(q:∀h',Fy B l e o us .none h'->s.heap.UpToSlots h'->Q () { s with heap:=h' }):br M A (y6 env<|.ref e) Q E s:=by
 unfold y6;exact ae<|Pr hA hf g λh1 g1 u1=>sX g1 λh2 g2 u2=>q h2 g2.tail<|u1.trans u2
theorem My {α:Type}{what:String}{Q:α->aI->Prop}(g:Fy B l e o us fl s.heap)(q:∀h' fl',Fy B l e o us fl' h'->s.heap.UpToSlots h'->E (.ref e) { s with heap:=h' }):br M A (zC what (.ref e) env:Sem α) Q E s:=by
 obtain⟨_,_,_,z,T,y,ts,he,hb,ne,hT,hd,h3⟩:=id g;unfold zC setFlight;refine ae<|eB he rfl (x:=.ref T) (by simp[z]) ?_;rw[if_neg<|show ¬((bE T==dy)=true) from by simp];refine ae<|ae<|eB he rfl (x:=.ref T) (by simp[z]) ?_;rw[if_pos<|show(bE T != dy)=true from by simp]
 have:=Ba (x:=env.frame.elim .none λf=>nc f) g T y ts hT hd h3 hb ne he
 exact ij hT hd (dE.mp h3).1<|wpAny_throw<|q _ _ this.1 this.2
theorem Fy.hide {h h':Heap}{C:Addr}{ob:Obj}(g:Fy B l e o us fl h)(hC:B.get? C=some ob)(sb:h9 C h h'):Fy (om B [C]) l e o us fl h':=by
 obtain⟨g1,g2,g3,z,T,y,ts,he,hb,ne,hT,hd,h3⟩:=g;have nC:∀{b:Addr} {x:Obj},(om B [C]).get? b=some x->b≠C:=λ{b x} q e=>by
  rw[e,W.hideAll_none [C]<|b4.mpr rfl] at q;cases q
 have hn:∀b,B.get? b=none->(om B [C]).get? b=none:=λb q=>by
  cases w:(om B [C]).get? b with
  |none=>rfl
  |some x=>rw[rf [C] w] at q;cases q
 have ot:∀b,B.get? b=none->b≠C:=λb q e=>by rw[e,hC] at q;cases q
 refine⟨λb x q=>(sb.2 b<|nC q).trans<|g1 b x<|rf [C] q,hn _ g2,?_,z,T,y,ts,(sb.2 e<|ot e g2).trans he,hn _ hb,ne,(sb.2 T<|ot T hb).trans hT,hd,h3⟩;clear g1 g2 he hb ne hT hd h3
 revert g3
 induction l with
 |nil=>exact λ_=>trivial
 |cons env r ih=>exact λ⟨a,⟨L,x,p,q,s,t⟩,c⟩=>⟨a,⟨L,x,p,hn _ q,(sb.2 L<|ot L q).trans s,t⟩,ih c⟩
end
structure Z7 (P:bq)(w:dc)(stk:List Env)(fl:ay)(outer:List Env)(H:Hp)(s:aI)(e:ay)(s':aI)(ea:Addr)(ob:Obj)(us:Array ay)(B:Heap)(H':Hp):Prop where
 is:e=.ref ea
 os:s'.os=s.os
 bare:rL s'.gens
 fly:Fy B stk ea ob us fl s'.heap
 ctx:us[2]? = some .none
 keep:∀b o,s.heap.get? b=some o->H b=none->b∉frs outer->B.get? b=some o
 slot:∀b o,s.heap.get? b=some o->b∈frs outer->∃sl,s'.heap.get? b=some { o with slots:=sl }
 free:∀b o,s.heap.get? b=some o->H b=none->H' b=none
 there:∀b o,s.heap.get? b=some o->b∉frs outer->∃o',B.get? b=some o'
 tups:∀b xs,H b=some (.tup xs)->H' b=some (.tup xs)
 frzs:∀b o u,H b=some (.frz o u)->H' b=some (.frz o u)
 tbls:∀b ps,H b=some (.tbl ps)->∃more,H' b=some (.tbl (ps++more))
 hok:HOk P w H' B
 new:s.heap.get? ea=none
 nin:H' ea=none
def sZ (X:Cx)(E:XK):Prop:=X.stack=X.env::X.outer/\X.ex=[]/\∀(π:Zl) (σ:St) (H:Hp) (s:aI) (e:ay) (s':aI) (ea:Addr) (ob:Obj) (us:Array ay) (B:Heap) (H':Hp) (fl:ay),
 Inv X π σ H s->Z7 X.prog X.w X.stack fl X.outer X.H₀ X.s₀ e s' ea ob us B H'->E ob.cls ob.dict H'->X.xe e s'
theorem zV (c:Bool){P:bq}{w:dc}{K:a6}{mg:Zp}{base:Heap}{N:List Str}{qual:Str}{scope:l0}{f:Addr}{cd:ay}{A:cK}{outer:List Env}{s:aI}{H:Hp}{E:XK}:
  sZ { j7 (CX1 P w) P w K mg base N qual scope f cd A outer s H E with calm:=c } E:=by
 refine⟨rfl,rfl,λπ σ H1 s1 e s' ea ob us B H' fl I F hw=>?_⟩;obtain rfl:=F.is;refine MP (B:=B) (l:=outer) (L:=s.heap.objs.size) I.ok.frames rfl F.fly λh2 x1 x2=>?_;refine⟨ea,ob,us,B,H',⟨rfl,F.os,F.bare,x1,F.ctx,F.keep,λb o q hb=>?_,F.free,F.there,F.tups,F.frzs,F.tbls,F.hok,F.new,F.nin⟩,hw⟩;obtain⟨_,o',ho',hnf⟩:=I.ok.ni.mem hb;have eo:o=o':=bX<|q.symm.trans ho';obtain⟨sl1,e2⟩:=F.slot b _ q hb;obtain⟨sl2,e3⟩:=x2 b _ e2 λv z=>hnf v (by rw[← eo];exact z);exact⟨sl2,e3⟩
theorem Dz {P:bq}{w:dc}{K:a6}{mg:Zp}{base:Heap}{N:List Str}{qual:Str}{scope:l0}{f:Addr}{cd:ay}{A:cK}{outer:List Env}{s:aI}{H:Hp}{E:XK}:sZ (j7 (CX1 P w) P w K mg base N qual scope f cd A outer s H E) E:=zV true
theorem Ls {P:bq}{w:dc}{K:a6}{mg:Zp}{base:Heap}{N:List Str}{qual:Str}{scope:l0}{f:Addr}{cd:ay}{A:cK}{outer:List Env}{s:aI}{H:Hp}{E:XK}:sZ (F.cxH (CX1 P w) P w K mg base N qual scope f cd A outer s H E) E:=zV false
abbrev bU (E:XK)(X:Cx)(N':List Str)(scope:l0)(cl:List (Str×Addr))(C:Addr)(sE:aI)(HE:Hp)(fp:List Addr)(π:Zl):Cx:=
 (cX X N' scope cl C sE HE fp π).wish λe s'=>∀σ,Inv X π σ HE sE->(∀b∈fp,pC X π HE b/\b<sE.heap.objs.size)->C=sE.heap.objs.size->sZ X E->
  ∃ea ob us B H',Z7 X.prog X.w X.stack .none X.outer X.H₀ X.s₀ e s' ea ob us B H'/\E ob.cls ob.dict H'/\(∃m,B.Ns C m)/\H' C=none
section
variable {X:Cx}{E:XK}{N' caps:List Str}{scope sc:l0}{cl:List (Str×Addr)}{C:Addr}{sE:aI}{HE:Hp}{fp:List Addr}{π:Zl}
theorem wN:Passes (CX1 X.prog X.w) (bU E X N' scope cl C sE HE fp π) E:=by
 intro p' σ' H1 s1 e s' I' h σ IE fE hC PM;obtain⟨hst,hex,_⟩:=PM;subst hC;obtain⟨ea,ob,us,B,H',F,hw⟩:=h;have I:Inv X π σ H1 s1:=comp_back IE fE I'.uB;have nx:∀b:Addr,b∉X.ex:=λb z=>by rw[hex] at z;cases z
 have hfr:X.env.frame=some X.env.locals:=by
  rcases I.ok.stk with z|z
  ·rw[hst] at z;exact absurd (congrArg sL z)<|by simp
  ·exact z.2
 have F':Fly X.prog X.w X.stack H1 s1 e s' ea ob us B H':=F;have nfr:∀b o,X.s₀.heap.get? b=some o->b∉frs X.outer->b∉frs X.stack:=λb o q nb hb=>by
  rw[hst] at hb;rcases yC hfr hb with z|z
  ·exact absurd (ar q) (by rw[z];exact Nat.not_lt.mpr I.ok.above)
  ·exact nb z
 have nC:sE.heap.objs.size∉frs X.stack:=λz=>by
  obtain⟨_,o,ho,_⟩:=I'.ok.ni.mem z;exact absurd (ar ho)<|eD _
 obtain⟨m,⟨oC,es,ep,hoC,hd,hk,hm⟩,_⟩:=I'.loc;have hfC:H1 sE.heap.objs.size=none:=I'.free;refine⟨ea,ob,us,B,H',⟨F'.is,F'.os.trans I.os,F'.bare,F'.fly,F'.ctx,λb o q n nb=>?_,λb o q hb=>?_,λb o q n=>?_,λb o q nb=>?_,λb xs q=>F'.tups b xs<|I.base.tups b xs q,λb o u q=>F'.frzs b o u<|I.base.frzs b o u q,λb ps q=>?_,F'.hok,?_,F'.nin⟩,hw,⟨m,oC,es,ep,F'.keep _ _ hoC hfC nC,hd,hk,hm⟩,F'.free _ _ hoC hfC⟩
 ·exact F'.keep b o (I.base.keep b o q n nb<|nx b) (I.base.free b o q n<|nx b)<|nfr b o q nb
 ·obtain⟨sl,e1⟩:=I.base.slot b o q (I.ok.frf b hb) hb<|nx b;obtain⟨sl1,e2⟩:=F'.slot b _ e1 (by rw[hst];exact Ez hb);exact⟨sl1,e2⟩
 ·obtain⟨o',e1⟩:=I.base.there b o q<|nx b;exact F'.free b o' e1<|I.base.free b o q n<|nx b
 ·obtain⟨o',e1⟩:=I.base.there b o q<|nx b;exact F'.there b o' e1<|nfr b o q nb
 ·obtain⟨m1,e1⟩:=I.base.tbls b ps q;obtain⟨m2,e2⟩:=F'.tbls b _ e1;exact⟨m1++m2,by rw[e2,rg]⟩
 ·cases q:X.s₀.heap.get? ea with
  |none=>rfl
  |some o=>
   obtain⟨o',e1⟩:=I.base.there ea o q<|nx ea;rw[F'.new] at e1;cases e1
theorem GZ {σ:St}{use:Option (ay->Sem Unit)}{Q:Zs}{acc e:ay}{s':aI}(IE:Inv X π σ HE sE)(fE:∀b∈fp,pC X π HE b/\b<sE.heap.objs.size)(PM:sZ X E)
  (h:(bU E X N' scope cl sE.heap.objs.size sE HE fp π).xe e s'):
  notedBy (b0 X.prog X.w) X.A (sM scope cl sE.heap.objs.size X.env) (λx s''=>yn (b0 X.prog X.w) X.A X.xe use Q acc sE.heap.objs.size (.error x) s'') e s':=by
 obtain⟨ea,ob,us,B,H',F,hw,⟨m,oC,es,ep,hoC,hd,hk,hm⟩,hfC⟩:=h σ IE fE rfl PM;obtain⟨hst,hex,hP⟩:=id PM;obtain rfl:=F.is;have hfr:X.env.frame=some X.env.locals:=by
  rcases IE.ok.stk with z|z
  ·rw[hst] at z;exact absurd (congrArg sL z)<|by simp
  ·exact z.2
 have hA:X.A.frames=some (X.env::X.outer):=by rw[IE.ok.frames,hst]
 have F0:=F.fly;rw[hst] at F0;show br (b0 X.prog X.w) X.A (mE (.ref ea) X.env) _ _ s';refine CV hA hfr F0 λh1 g1 u1=>?_;have e1:h1.get? sE.heap.objs.size=some oC:=g1.1 _ _ hoC;have goal:∃m,h1.Ns sE.heap.objs.size m/\∀h',h9 sE.heap.objs.size h1 h'->∀cenv:Env,cenv.locals=sE.heap.objs.size->br (b0 X.prog X.w) X.A (zC "comprehension.variables-let-go" (.ref ea) cenv:Sem ay) (λ_ _=>False) X.xe { s' with heap:=h' }:=by
  refine⟨m,⟨oC,es,ep,e1,hd,hk,hm⟩,λh2 sb cenv _=>?_⟩;have g2:=g1.hide hoC sb;refine My (s:={ s' with heap:=h2 }) g2 λh3 fl' g3 u3=>?_;have old:∀{b:Addr} {o:Obj},X.s₀.heap.get? b=some o->b∉[sE.heap.objs.size]:=λ{b o} q z=>by
   obtain⟨o',e'⟩:=IE.base.there b o q (λz=>by rw[hex] at z;cases z);rw[b4.mp z] at e';exact absurd (ar e')<|eD _
  refine hP π σ HE sE _ _ ea ob us (om B [sE.heap.objs.size]) H' fl' IE ⟨rfl,F.os,F.bare,by rw[hst];exact g3,F.ctx,λb o q n nb=>?_,λb o q hb=>?_,F.free,λb o q nb=>?_,F.tups,F.frzs,F.tbls,λb u q=>?_,F.new,F.nin⟩ hw
  ·exact kT _ (F.keep b o q n nb)<|old q
  ·obtain⟨_,o',ho',hnf⟩:=IE.ok.ni.mem hb;have eo:o=o':=bX<|q.symm.trans ho';have nf:∀vs,o.data≠.fields vs:=λv z=>hnf v (by rw[← eo];exact z);obtain⟨sl1,e2⟩:=F.slot b _ q hb;obtain⟨sl2,e3⟩:=u1 b _ e2 nf;have e4:=(sb.2 b λz=>old q<|b4.mpr z).trans e3;obtain⟨sl3,e5⟩:=u3 b _ e4 nf;exact⟨sl3,e5⟩
  ·obtain⟨o',z⟩:=F.there b o q nb;exact⟨o',kT _ z<|old q⟩
  ·refine(F.hok b u q).stay (λc v hc z=>kT _ z λhm=>?_) (λ_ z=>z) λ_ _ z=>z;rcases hc with hc|hc
   ·rw[hc] at hm;rw[b4.mp hm,hfC] at q;cases q
   ·rw[b4.mp hm,hfC] at hc;cases hc
 cases use<;>exact goal
end
section
variable {X:Cx}{Cm:Cx->Prop}{E:XK}{tg iter elt:Expr}{ifs:List Expr}{sc scope:l0}{caps N':List Str}{cap:List Nat}{k:Nat}{wi:TI}{g:TG}{tt:TT}{te:TE}{pos:Pos}
theorem M6 {π:Zl}{s:aI}{σ:St}{H:Hp}{Q:VK}(hcm:∀π σ cl C sE HE fp,Inv X π σ HE sE->Cm (bU E X N' scope cl C sE HE fp π))(S:CSc sc scope caps)(hsc:X.env.scope=sc)(hN:N'.drop k=caps)(hk:k<=N'.length)(hcap:eP (λj x=>X.N[j]? = some x) cap caps)
  (hi:PI Cm X tg iter wi) (hg:∀cl C sE HE fp π,Cm (bU E X N' scope cl C sE HE fp π)->PG (bU E X N' scope cl C sE HE fp π) tg g) (ht:∀cl C sE HE fp π,El (bU E X N' scope cl C sE HE fp π) ifs tt) (he:∀cl C sE HE fp π,PE (bU E X N' scope cl C sE HE fp π) elt te)
  (I:Inv X π σ H s) (h:wU k cap wi g tt te σ H Q) {cl:List (Str×Addr)} (hc1:∀x c,cl.lookup x=some c->X.env.cells.lookup x=some c) (hc2:∀y∈scope.names,y.2=.free->∃c,cl.lookup y.1=some c)
  {use:Option (ay->Sem Unit)} {QQ:Zs} (PM:sZ X E)
  (hRR:∀l sE HE H' s' m,Inv X π σ HE sE->Inv X π σ H' s'->H' sE.heap.objs.size=none->s'.heap.Ns sE.heap.objs.size m->Q (.ref l) H'->yn (b0 X.prog X.w) X.A X.xe use QQ (.ref l) sE.heap.objs.size (.ok .next) s'):
  br (b0 X.prog X.w) X.A (eval iter X.env) (λxv s₁=>br (b0 X.prog X.w) X.A (AA xv) (λit s₂=>br (b0 X.prog X.w) X.A (newList []) (λacc s₃=>
   br (b0 X.prog X.w) X.A (newFunctionEnv scope X.env.globals cl [] X.env.qual none .none<|some X.env) (λcenv s₄=>
    pS (b0 X.prog X.w) X.A (.compStart (.ListComp elt [⟨tg,iter,ifs,0⟩] scope pos) 0 it acc { cenv with scope:=relabel scope X.env }) (yn (b0 X.prog X.w) X.A X.xe use QQ acc cenv.locals) s₄) X.xe s₃) X.xe s₂) X.xe s₁) X.xe s:=by
 refine thn (hi π s σ H _ I h) λv s1 h1=>thn h1 λitv s2 h2=>?_;obtain⟨it,fp,tn,J,H1,e,I1,T,st1,f1,q1⟩:=h2;subst e;refine wpAny_newList ?_;have hfree:H1 s2.heap.objs.size=none:=I1.hok.fresh<|aE _;have fpl:∀b∈fp,b<s2.heap.objs.size:=λb hb=>by
  obtain⟨o,e,_⟩:=T.obj _ _ st1 b hb;exact ar e
 generalize hE:({ s2 with heap:=s2.heap.push { cls:=.type "list",data:=.seq ([]:List ay).toArray } }:aI)=sE;have k2:∀b o,s2.heap.get? b=some o->sE.heap.get? b=some o:=λb o e=>by rw[← hE];exact ag _ e
 have szE:s2.heap.objs.size<sE.heap.objs.size:=by rw[← hE];show _<(s2.heap.push _).objs.size;rw[rV];exact oI _
 have IE:Inv X π σ (upd H1 s2.heap.objs.size<|.lst []) sE:=by
  rw[← hE];refine I1.laid (t':=s2.toks) (λb o e=>ag _ e) (aE _) ?_;exact⟨eC _,[],0,.nil,aS _ rfl⟩
 have fE:∀b∈fp,pC X π (upd H1 s2.heap.objs.size<|.lst []) b/\b<sE.heap.objs.size:=λb hb=>
  ⟨⟨by rw[bT<|a5<|fpl b hb];exact(f1 b hb).1,(f1 b hb).2⟩,oq (fpl b hb) szE⟩
 obtain⟨W,⟨m0,w0⟩,turn⟩:=q1 _ hfree;generalize hl:s2.heap.objs.size=l at *;clear hl;generalize hHE:upd H1 l (.lst [])=HE at *;refine wpAny_newFunctionEnv S.nocell (by intro y hy;simp at hy) (λh₁ hns₁ hsb₁=>?_) S.kind;have kE:∀b o,sE.heap.get? b=some o->h₁.get? b=some o:=λb o e=>(hsb₁.2 b<|a5<|ar e).trans<|ag _ e;have I0:Inv (bU E X N' scope cl sE.heap.objs.size sE HE fp π) [] (aT k none++cap.map λj=>(σ[j]?).join) HE { sE with heap:=h₁,toks:=sE.toks+([]:List (Str×ay)).length }:=(Ff (k:=k) (cap:=cap) (N':=N') IE S hsc fE hc1 hc2 hN hk hcap kE hns₁<|sE.toks+([]:List (Str×ay)).length).wish _;have out:=λe s' z=>GZ (E:=E) (N':=N') (scope:=scope) (cl:=cl) (use:=use) (Q:=QQ) (acc:=.ref l) (e:=e) (s':=s') IE fE PM z;have st0:tn 0 h₁:=T.keep _ _ _ st1 λb hb o e=>kE b o<|k2 b o e;have hX:∀{H':Hp},(∀b∈fp,H' b=none)->∀b∈fp,pC (bU E X N' scope cl sE.heap.objs.size sE HE fp π) [] H' b:=λhn b hb=>
  ⟨hn b hb,(I0.ok.exf b hb).1,I0.ok.exfs b hb,.inl hb,(I0.ok.exf b hb).2,λp hp=>by
   rw[cw] at hp;exact(fE b hb).1.2.2.2.2.2 p hp⟩
 have loop:∀s₃:aI,s₃={ sE with heap:=h₁,toks:=sE.toks+([]:List (Str×ay)).length }->
   pS (b0 X.prog X.w) X.A (.compLoop (.ListComp elt [⟨tg,iter,ifs,0⟩] scope pos) 0 (.ref it) (.ref l)<|sM scope cl sE.heap.objs.size X.env) (yn (b0 X.prog X.w) X.A X.xe use QQ (.ref l) sE.heap.objs.size) s₃:=by
  rintro s₃ rfl;refine codeAny_loop rfl (λn s'=>∃i ys H',Inv (bU E X N' scope cl sE.heap.objs.size sE HE fp π) [] (cSt k cap σ) H' s'/\tn i s'.heap/\(∀b∈fp,H' b=none)/\W i n ys H') (λn s3 hI=>?_) m0
   ⟨0,[],HE,I0,st0,λb hb=>(fE b hb).1.1,w0⟩
  obtain⟨i,ys,H3,I3,st3,fr3,w3⟩:=hI;show br _ X.A ((compTurn (.ListComp elt [⟨tg,iter,ifs,0⟩] scope pos) 0 (.ref it) (.ref l)<|sM scope cl sE.heap.objs.size X.env).onRaise (λx=>do mE x (sM scope cl sE.heap.objs.size X.env);theTreesLotGoes x)) _ _ s3;refine wpAny_noted ?_;rw[compTurn_list];refine ae<|pj<|ae ?_;rcases turn i n ys H3 w3 with⟨stop,qn⟩|⟨go,step⟩
  ·refine d3 (T.done (bU E X N' scope cl sE.heap.objs.size sE HE fp π) rfl rfl rfl (hcm _ _ _ _ _ _ _ IE) i [] s3 _ H3 (λ_ _=>False) I3 (hX fr3) st3 stop) (λr s4 ⟨hr,I4⟩=>?_) λ_ _ z=>z.elim;subst hr;obtain⟨m4,hn4,_⟩:=I4.loc;exact ah<|hRR l sE HE H3 s4 m4 IE (comp_back IE fE I4.uB) I4.free hn4 qn
  ·refine d3 (T.item (bU E X N' scope cl sE.heap.objs.size sE HE fp π) rfl rfl rfl (hcm _ _ _ _ _ _ _ IE) i [] s3 _ H3 (λ_ _=>False) I3 (hX fr3) st3 go) (λr s4 ⟨u,hr,h4⟩=>?_) λ_ _ z=>z.elim;subst hr;refine ae<|d3 h4 (λ_ s5 ⟨x,H5,I5,r5,y5,st5,fr5⟩=>?_) λ_ _ z=>z.elim;have I5':=I5.pinned (hX fr5)<|T.obj _ _ st5;refine ae<|d3 (hg _ _ _ _ _ _ (hcm _ _ _ _ _ _ _ IE) _ s5 _ H5 x u _ I5' r5<|step x H5 y5) (λ_ s6 ⟨σ6,H6,I6,q6⟩=>?_) out;obtain⟨d6,q6⟩:=q6;have weak:∀{H7 s7},Inv (bU E X N' scope cl sE.heap.objs.size sE HE fp π) ([]++mJ fp s5.heap) σ6 H7 s7->Inv (bU E X N' scope cl sE.heap.objs.size sE HE fp π) ([]++mJ fp s5.heap) (cSt k cap σ) H7 s7:=λ{H7 s7} I7=>by
    refine I7.weak (I0.len.trans I7.len.symm) λj v e=>?_;by_cases z:k<=j
    ·obtain⟨j',rfl⟩:∃j',j=k+j':=⟨j-k,by omega⟩;rw[← hJ] at e ⊢;rw[d6];exact e
    ·unfold cSt at e;rw[b6 (by simp;omega),eS,if_pos<|by omega] at e;cases e
   have AH:∀{H7:Hp} {s7:aI} {zs:List V},Inv (bU E X N' scope cl sE.heap.objs.size sE HE fp π) ([]++mJ fp s5.heap) σ6 H7 s7->(∃m',m'<n/\W (i+1) m' zs H7)->
     ∃m,m<n/\∃i ys H',Inv (bU E X N' scope cl sE.heap.objs.size sE HE fp π) [] (cSt k cap σ) H' s7/\tn i s7.heap/\(∀b∈fp,H' b=none)/\W i m ys H':=λ{H7 s7 zs} I7 ⟨m',hm,w7⟩=>by
    refine⟨m',hm,i+1,zs,H7,(weak I7).pL,T.keep _ _ _ st5 λb hb o e=>(I7.pin (b,o)<|cm _<|cm _<|jG hb e).1,λb hb=>?_,w7⟩;obtain⟨o,e,d⟩:=T.obj _ _ st5 b hb;exact(I7.pin (b,o)<|cm _<|cm _<|jG hb e).2.1
   refine ae<|d3 (ht _ _ _ _ _ _ _ s6 σ6 H6 _ I6 q6) (λb s7 ⟨H7,I7,q7⟩=>?_) out;cases b with
   |false=>
    rw[if_neg aw] at q7;exact ah ⟨rfl,AH I7 q7⟩
   |true=>
    rw[if_pos rfl] at q7;refine ae<|ae<|d3 (he _ _ _ _ _ _ _ s7 σ6 H7 _ I7 q7) (λyv s8 ⟨y,H8,I8,r8,hl8,hz8,q8⟩=>?_) out;refine ae (d3 (vm (X:=bU E X N' scope cl sE.heap.objs.size sE HE fp π) _ s8 σ6 H8 (.ref l) [y] (.ref l) [yv] (λ_ H9=>H9=upd H8 l (.lst<|ys++[y])) I8 rfl (.cons r8 .nil) ⟨l,ys,y,rfl,rfl,hl8,hz8,rfl⟩)
     (λ_ s9 ⟨_,H9,I9,_,e9⟩=>?_) out)
    subst e9;exact ah<|ah ⟨rfl,AH I9 q8⟩
 exact codeAny_compStart_list (loop _ rfl)<|T.self _ 0 _ _ _ st0<|loop _ rfl
theorem Ej (sc:l0)(N' caps:List Str)(k:Nat)(cap:List Nat)(hcm:∀π σ cl C sE HE fp,Inv X π σ HE sE->Cm (bU E X N' scope cl C sE HE fp π))(PM:sZ X E)(S:CSc sc scope caps)(hcap:eP (λj x=>X.N[j]? = some x) cap caps)
  (hi:PI Cm X tg iter wi) (hg:∀cl C sE HE fp π,Cm (bU E X N' scope cl C sE HE fp π)->PG (bU E X N' scope cl C sE HE fp π) tg g) (ht:∀cl C sE HE fp π,El (bU E X N' scope cl C sE HE fp π) ifs tt) (he:∀cl C sE HE fp π,PE (bU E X N' scope cl C sE HE fp π) elt te)
  (hsc:X.env.scope=sc:=by rfl) (hN:N'.drop k=caps:=by rfl) (hk:k<=N'.length:=by decide) (hs:∀x,eR iter X.env x=pure x:=by intro _;rfl):
  PE X (.ListComp elt [⟨tg,iter,ifs,0⟩] scope pos) (wU k cap wi g tt te):=by
 intro π s σ H Q I h;obtain⟨cl,hcl,hc1,hc2⟩:=pG (scope:=scope) (env:=X.env) λy hy e=>I.ok.has y.1 (by
  have z:=S.free y hy e;rw[← hsc] at z;exact z)
 rw[eval_ListComp];refine me (use:=none) rfl hs hcl S.kind S.loc<|M6 (use:=none) (QQ:=EP X π σ Q) hcm S hsc hN hk hcap hi hg ht he I h hc1 hc2 PM ?_;intro l sE HE H' s' m IE I' hn hns q;exact⟨m,hns,λh' hs'=>⟨.ref l,H',yK IE I' hn hs',rfl,q⟩⟩
end
end Hd
namespace F
open PySem PySem.Spec PyProof.Rows L2 Hd
def cW (h:Zba)(ft:Zaf)(fe:Zae)(m0:Me):List D->Res (List D)
 |[]=>.ok []
 |d::ds=>match h d m0 with
  |none=>.stuck
  |some m1=>match ft m1 with
   | .ok true=>match fe m1 with
    | .ok y=>match cW h ft fe m0 ds with
     | .ok ys=>.ok (y::ys)
     | .exc c=>.exc c
     | .stuck=>.stuck
    | .exc c=>.exc c
    | .stuck=>.stuck
   | .ok false=>cW h ft fe m0 ds
   |_=>.stuck
def mL (k:Nat)(cap:List Nat)(fi:Zad)(h:Zba)(ft:Zaf)(fe:Zae):Zae:=λm=>(fi m).bind λds=>
 if ds.length<=ai then match cW h ft fe (cMe k cap m) ds with
  | .ok ys=>.ok<|.lst ys
  | .exc c=>.exc c
  | .stuck=>.stuck
 else .stuck
section
variable {X:Cx}{E:XK}{k:Nat}{cap:List Nat}{fi:Zad}{h:Zba}{ft:Zaf}{fe:Zae}
theorem Fv {σ:L2.St}{H:Hp}{Q:VK}(hq:tN (gx X) E (mL k cap fi h ft fe) σ H Q):wU k cap (tIw (gx X) E fi) (tG (gx X) k h) (tT (gx X) E0 ft) (tE (gx X) E fe) σ H Q:=by
 obtain⟨O0,M0,H0,ow,m,R,q⟩:=hq;refine⟨O0,M0,H0,ow,m,R,q.bind.imp (aH.refl _) λds q J H1 g1 it l hl=>?_⟩;obtain⟨hz,q⟩:=pO q;cases hc:cW h ft fe (cMe k cap m) ds with
 |stuck=>rw[hc] at q;exact q.elim
 |exc c=>
  rw[hc] at q;have hlH:H l=none:=g1.free hl;have mk1:∀b,Op (Ow O0 ow) l b->Ow O0 ow b\/H1 b=none:=λb z=>z.elim .inl λe=>.inr (by rw[e];exact hl);refine⟨λi n zs H'=>n=ds.length-i/\i<=ds.length/\zs.length<=i/\aH H1 H'/\H' l=some (.lst zs)/\cW h ft fe (cMe k cap m) (ds.drop i)=.exc c,
   ⟨ds.length,by simp,eC _,aE _,bB hl _,bu,hc⟩,?_⟩
  rintro i n zs H' ⟨rfl,hi,hzi,g2,hH,hcr⟩;obtain⟨i1,i2,i3⟩:=it (Op (Ow O0 ow) l) H' ⟨mk1,g2⟩;by_cases hlt:i<ds.length
  ·refine .inr ⟨i1 i hlt,λx H2 y=>?_⟩;obtain⟨g3,d,hd,dv⟩:=i2 i x H2 hlt y;have ed:ds.drop i=d::ds.drop (i+1):=by
    rw[i9 hlt];rw[cn hlt] at hd;cases hd;rfl
   rw[ed] at hcr;unfold cW at hcr;cases eh:h d (cMe k cap m) with
   |none=>rw[eh] at hcr;cases hcr
   |some m1=>
    rw[eh] at hcr;have G2:aH H H2:=(g1.trans g2).trans g3;have R2:=xW (k:=k) (cap:=cap) (l:=l) (zs:=zs) R G2 hlH<|g3 _ _ hH;refine⟨_,_,_,_,_,d,m1,R2,by rw[oF];exact dv,eh,λow' σ' R' g' nb hdr=>⟨hdr,_,_,_,ow',m1,R',?_⟩⟩;simp only[] at hcr;cases et:ft m1 with
    |exc c=>rw[et] at hcr;cases hcr
    |stuck=>rw[et] at hcr;cases hcr
    |ok t=>
     rw[et] at hcr;intro H3 g4;cases t with
     |false=>
      rw[if_neg aw];exact⟨ds.length-(i+1),by omega,rfl,hlt,by omega,(g2.trans g3).trans g4,g4 _ _<|g3 _ _ hH,hcr⟩
     |true=>
      rw[if_pos rfl];refine⟨_,_,_,ow',m1,R'.mono g4,?_⟩;simp only[] at hcr;cases ee:fe m1 with
      |stuck=>rw[ee] at hcr;cases hcr
      |exc c'=>
       rw[ee] at hcr;cases hcr;exact λC H5 xp g5=>q C H5 xp<|(G2.trans g4).trans g5
      |ok y'=>
       rw[ee] at hcr;intro v H5 g5 hv;simp only[] at hcr;cases er:cW h ft fe (cMe k cap m) (ds.drop<|i+1) with
       |ok ys=>rw[er] at hcr;cases hcr
       |stuck=>rw[er] at hcr;cases hcr
       |exc c'=>
        rw[er] at hcr;cases hcr;have G5:aH H' H5:=(g3.trans g4).trans g5;refine⟨G5 _ _ hH,by omega,ds.length-(i+1),by omega,rfl,hlt,by rw[a9,eJ];omega,?_,bu,er⟩;exact Bx ((PX<|g2.trans G5).trans Hc) hl
  ·have e:i=ds.length:=by omega
   subst e;rw[oP] at hcr;cases hcr
 |ok ys=>
  rw[hc] at q;have hlH:H l=none:=g1.free hl;have mk1:∀b,Op (Ow O0 ow) l b->Ow O0 ow b\/H1 b=none:=λb z=>z.elim .inl λe=>.inr (by rw[e];exact hl);refine⟨λi n zs H'=>n=ds.length-i/\i<=ds.length/\zs.length<=i/\aH H1 H'/\H' l=some (.lst zs)/\∃es rest,DVs (gx X) (Op (Ow O0 ow) l) H' zs es/\cW h ft fe (cMe k cap m) (ds.drop i)=.ok rest/\es++rest=ys,
   ⟨ds.length,by simp,eC _,aE _,bB hl _,bu,[],ys,.nil,hc,rfl⟩,?_⟩
  rintro i n zs H' ⟨rfl,hi,hzi,g2,hH,es,rest,hes,hcr,hys⟩;obtain⟨i1,i2,i3⟩:=it (Op (Ow O0 ow) l) H' ⟨mk1,g2⟩;by_cases hlt:i<ds.length
  ·refine .inr ⟨i1 i hlt,λx H2 y=>?_⟩;obtain⟨g3,d,hd,dv⟩:=i2 i x H2 hlt y;have ed:ds.drop i=d::ds.drop (i+1):=by
    rw[i9 hlt];rw[cn hlt] at hd;cases hd;rfl
   rw[ed] at hcr;unfold cW at hcr;cases eh:h d (cMe k cap m) with
   |none=>rw[eh] at hcr;cases hcr
   |some m1=>
    rw[eh] at hcr;have G2:aH H H2:=(g1.trans g2).trans g3;have R2:=xW (k:=k) (cap:=cap) (l:=l) (zs:=zs) R G2 hlH<|g3 _ _ hH;refine⟨_,_,_,_,_,d,m1,R2,by rw[oF];exact dv,eh,λow' σ' R' g' nb hdr=>⟨hdr,_,_,_,ow',m1,R',?_⟩⟩;simp only[] at hcr;cases et:ft m1 with
    |exc c=>rw[et] at hcr;cases hcr
    |stuck=>rw[et] at hcr;cases hcr
    |ok t=>
     rw[et] at hcr;intro H3 g4;cases t with
     |false=>
      rw[if_neg aw];exact⟨ds.length-(i+1),by omega,rfl,hlt,by omega,(g2.trans g3).trans g4,g4 _ _<|g3 _ _ hH,es,rest,hes.mono<|g3.trans g4,hcr,hys⟩
     |true=>
      rw[if_pos rfl];refine⟨_,_,_,ow',m1,R'.mono g4,?_⟩;simp only[] at hcr;cases ee:fe m1 with
      |exc c=>rw[ee] at hcr;cases hcr
      |stuck=>rw[ee] at hcr;cases hcr
      |ok y'=>
       rw[ee] at hcr;intro v H5 g5 hv;simp only[] at hcr;cases er:cW h ft fe (cMe k cap m) (ds.drop<|i+1) with
       |exc c=>rw[er] at hcr;cases hcr
       |stuck=>rw[er] at hcr;cases hcr
       |ok rest'=>
        rw[er] at hcr;cases hcr;have G5:aH H' H5:=(g3.trans g4).trans g5;have mk5:∀b,Op (Ow O0 ow) l b->gM (H5 b):=λb z=>by
         rcases z with z|z
         ·exact qR (((g1.trans g2).trans G5))<|R.mutk b z
         ·rw[z,G5 _ _ hH];exact .inl ⟨zs,rfl⟩
        have kp5:Kp (Op (Ow O0 ow) l) H5 (upd H5 l<|.lst<|zs++[v]):=λb o e n=>by
         rw[bT<|show b≠l from λz=>n<|.inr z];exact e
        refine⟨G5 _ _ hH,by omega,ds.length-(i+1),by omega,rfl,hlt,by rw[a9,eJ];omega,?_,bu,es++[y'],rest',?_,er,by rw[gE];exact hys⟩
        ·exact Bx ((PX<|g2.trans G5).trans Hc) hl
        ·exact jg ((hes.mono G5).kp mk5 kp5)<|.cons ((hv.cL λb z=>.inl<|.inl z).kp mk5 kp5) .nil
  ·have e:i=ds.length:=by omega
   subst e;rw[oP] at hcr;cases hcr;rw[cw] at hys;subst hys;exact .inl ⟨i3,q l H' (g1.trans g2) hlH ⟨zs,hH,hes⟩⟩
section
variable {tg iter elt:Expr}{ifs:List Expr}{scope:l0}{pos:Pos}
theorem Dp (sc:l0)(N' caps:List Str)(k:Nat)(cap:List Nat)(PM:sZ X E)(hcalm:X.calm=true)(S:CSc sc scope caps)(hcap:eP (λj x=>X.N[j]? = some x) cap caps)
  (hi:FIw X E tg iter fi) (hg:∀cl C sE HE fp π,FG (bU E X N' scope cl C sE HE fp π) k tg h) (ht:∀cl C sE HE fp π,Ma (bU E X N' scope cl C sE HE fp π) E0 ifs ft) (he:∀cl C sE HE fp π,FE (bU E X N' scope cl C sE HE fp π) E elt fe)
  (hsc:X.env.scope=sc:=by rfl) (hN:N'.drop k=caps:=by rfl) (hk:k<=N'.length:=by decide) (hs:∀x,eR iter X.env x=pure x:=by intro _;rfl):
  FN X E (.ListComp elt [⟨tg,iter,ifs,0⟩] scope pos) (mL k cap fi h ft fe):=bA (Ej (Cm:=Calm) sc N' caps k cap (λ_ _ _ _ _ _ _ _=>hcalm) PM S hcap hi (λa b c d e f _=>hg a b c d e f) ht he hsc hN hk hs) λ_ _ _ q=>Fv q
theorem Su {N':List Str}{π:Zl}{σ:L2.St}{cl:List (Str×Addr)}{C:Addr}{sE:aI}{HE:Hp}{fp:List Addr}(h:HS X)(I:Inv X π σ HE sE):HS (bU E X N' scope cl C sE HE fp π):=by
 obtain⟨x,o,u,vs,h1,h2,h3,h4⟩:=h;exact⟨x,o,u,vs,h1,I.base.frzs x o u h2,h3,h4⟩
theorem Pz (sc:l0)(N' caps:List Str)(k:Nat)(cap:List Nat)(PM:sZ X E)(hh:HS X)(S:CSc sc scope caps)(hcap:eP (λj x=>X.N[j]? = some x) cap caps)
  (hi:PI HS X tg iter (tIw (gx X) E fi)) (hg:∀cl C sE HE fp π,HS (bU E X N' scope cl C sE HE fp π)->FG (bU E X N' scope cl C sE HE fp π) k tg h) (ht:∀cl C sE HE fp π,Ma (bU E X N' scope cl C sE HE fp π) E0 ifs ft) (he:∀cl C sE HE fp π,FE (bU E X N' scope cl C sE HE fp π) E elt fe)
  (hsc:X.env.scope=sc:=by rfl) (hN:N'.drop k=caps:=by rfl) (hk:k<=N'.length:=by decide) (hs:∀x,eR iter X.env x=pure x:=by intro _;rfl):
  FN X E (.ListComp elt [⟨tg,iter,ifs,0⟩] scope pos) (mL k cap fi h ft fe):=bA (Ej (Cm:=HS) sc N' caps k cap (λ_ _ _ _ _ _ _ I=>Su hh I) PM S hcap hi hg ht he hsc hN hk hs) λ_ _ _ q=>Fv q
theorem MT {e:Expr}{f:Zae}(h:FE X E e f):PI HS X tg e (tIw (gx X) E<|kY f):=Ek (O9 h) λσ H R hE=>xq5 hE λO0 M0 H0 ow m Re q=>⟨O0,M0,H0,ow,m,Re,q.imp (aH.refl _) λds q J H' g hi=>q J H' g hi.weak⟩
end
end
section
variable {prog:bq}{w:dc}{A:cK}{E:Zs}{s:aI}
theorem Rh {t:Addr}{xs:Array ay}{tgs:List (Bool×(ay->Sem Unit))}{Q:Unit->aI->Prop}(H:Hdl A s.heap)(ht:AG s.heap t xs)(hn:tgs.length=xs.size)(hz:tgs.findIdx? (·.1)=none)
  (k:∀h',xA s.heap.objs.size s.heap h'->br (b0 prog w) A (assignInOrder (tgs.map (·.2)) xs.toList) Q E { s with heap:=h' }):br (b0 prog w) A (unpack (.ref t) tgs) Q E s:=by
 have nt:t≠s.heap.objs.size:=let⟨o,ho,_⟩:=ht;a5 (ar ho)
 unfold unpack unpackItems notIterableAtAll;rw[hn,hz];refine ae<|fw<|ae<|ae<|ja ht.typeIs slot_tuple_iter.lookup<|ah ?_;rw[if_neg<|by simp];refine ae<|fw<|iter_tuple ht<|ae<|fw<|draw_tuple nt xs.size 0 _ _ ⟨_,aS _ rfl,rfl,rfl⟩ (ht.push _) (by omega) λh1 it1 sb1=>?_;rw[show(xs.toList.drop 0).take xs.size=xs.toList from by rw[List.drop_zero];exact gu (by simp),if_neg<|by simp];have H1:Hdl A h1:=by
  obtain⟨x,o,vs,a,b,c,d⟩:=H;exact⟨x,o,vs,a,(sb1.2 x<|a5<|ar b).trans<|ag _ b,c,d⟩
 refine ae<|fw<|Gu (s:={ s with heap:=h1 }) H1 it1 ((ht.push _).extBut sb1.extBut nt) (by simp) λh2 e2=>?_;rw[if_neg<|by simp];exact ah<|k h2 λb o nb q=>e2 b o nb<|(sb1.2 b nb).trans<|ag _ q
end
section
variable {X:Cx}{k:Nat}{es:List Expr}{hs:List D->Me->Option Me}{pos:Pos}
theorem SQ {j n:Nat}(hh:HS X)(h:FGs X k es hs)(hn:(iN es X.env).length=n:=by rfl)(hst:(iN es X.env).findIdx? (·.1)=none:=by rfl):FG X k (.Tuple es j pos) (ou n hs):=by
 intro π s σ H v u Q I r ⟨O0,M0,H0,ow,m,d,m',R,hv,e,q⟩;cases d with
 |tup ds=>
  obtain⟨a,xs,rfl,hx,hd⟩:=rQ<|.inl hv;have e':(if ds.length=n then hs ds m else none)=some m':=e;by_cases z:ds.length=n
  ·rw[if_pos z] at e';cases r;obtain⟨its,rv,ht,_⟩:=I.tuple hx;rw[assign_Tuple];refine ae<|pj<|Rh (Qo hh I) ht (by rw[hn,← z,← cB hd,rv.length];simp) hst λh' he=>?_;have I1:Inv X π σ H { s with heap:=h' }:=I.kept (t':=s.toks) λb o q=>he b o (a5<|ar q) q;exact h π _ σ H xs _ Q I1 (by simpa using rv) ⟨O0,M0,H0,ow,m,ds,m',R,hd,e',q⟩
  ·rw[if_neg z] at e';cases e'
 |_=>cases e
end
end F
namespace K71
open PySem L2 Hd F Pk Lw
section
def oE:Str->Option Bool:=λc=>if c = "NoPlan" then some false else if c = "NoText" then some false else none
def j6:Str->Option Bool:=λc=>if c = "NoPlan" then some false else if c = "NoText" then some false else none
def nM:Str->Option Bool:=λc=>if c = "NoPlan" then some true else if c = "NoText" then some false else none
def qN:Str->Option Bool:=λc=>if c = "NoPlan" then some false else if c = "NoText" then some false else none
def oJ:Str->Option Bool:=λc=>if c = "NoPlan" then some false else if c = "NoText" then some true else none
def n6:Str->Option Bool:=λc=>if c = "NoPlan" then some false else if c = "NoText" then some false else none
def kW:Str->Option Bool:=λc=>if c = "NoPlan" then some false else if c = "NoText" then some false else none
def jd:Str->Option Bool:=λc=>if c = "NoPlan" then some true else if c = "NoText" then some true else none
def cF:Str->Bool:=λc=>c=="NoPlan" || c=="NoText"
def j8:Zab:=
 (aP (aX 1<|aV vP<|aj (aA gIx (ak 0)<|fC<|.int 0) au)
 (aP (gIf (aY gEq (aA gIx (ak 0)<|fC<|.int 1)<|fC<|.int 1) (bC<|aC 1) gNx)
 (aP (aX 2<|aV vP<|aj (aA gIx (ak 0)<|fC<|.int 1) au)
 (bC<|gw<|ik (fUn zf<|ak 1)<|ik (fC<|.str "/")<|ik (fUn zf<|ak 2) sW))))
def kJ:Zab:=
 j8
def dw:Zac:=aW 3 1 kJ
def jW:Zae:=
 (lM gIn (ak 0)<|fC<|.str "0123456789")
def pB:Zae:=
 (gW 1 [] (NT<|aC 0) (hName 0) fY jW)
def fV (l_2:Zae):Zab:=
 (bC<|m6 (oA gLe gLe (fC<|.int 1) (aV cZ<|aj (ak 0) au)<|fC<|.int 30)<|aV xQ<|aj l_2 au)
def rB:Zab:=
 (fV pB)
def fQ:Zac:=aW 1 1 rB
def cR (φ_lowest:Zac)(φ_show_ratio:Zac)(φ_are_figures:Zac):Zab:=
 (aP (gIf (cC<|fTv<|gY "str" (ak 0)) (g8 "NoText" (fM<|fC<|.str "a fraction is read from a text")) gNx)
 (aP (aX 1<|jk "str" iT (ak 0) (aj (fC<|.str "/") au))
 (aP (aX 2<|aA gIx (ak 1)<|fC<|.int 0)
 (aP (aX 3<|fIf (aY gEq (aA gIx (ak 1)<|fC<|.int 1)<|fC<|.str "/") (aA gIx (ak 1)<|fC<|.int 2)<|fC<|.str "1")
 (aP (aX 4<|fIf (fTv<|jk "str" jK (ak 2) (aj (fC<|.str "-") au)) (fSl (ak 2) (fO1<|fC<|.int 1) fO0)<|aC 2)
 (aP (gIf (jr (cC<|fTv<|fFn φ_are_figures<|aj (aC 4) au)<|jr (cC<|fTv<|fFn φ_are_figures<|aj (aC 3) au)<|aY gEq (aV pW<|aj (ak 3) au)<|fC<|.int 0) (g8 "NoText" (fM<|gw<|ik (fUn uw<|ak 0)<|ik (fC<|.str " is no fraction") sW)) gNx)
 (aP (aX 5<|fFn φ_lowest<|aj (aV pW<|aj (ak 2) au)<|aj (aV pW<|aj (ak 3) au) au)
 (aP (gIf (aY gNe (fFn φ_show_ratio<|aj (aC 5) au)<|ak 0) (g8 "NoText" (fM<|gw<|ik (fUn uw<|ak 0)<|ik (fC<|.str " is not how its fraction is shown") sW)) gNx)
 (bC<|aC 5)))))))))
def tQ:Zab:=
 (cR fO dw fQ)
def fH:Zac:=aW 6 1 tQ
def pR:Zae:=
 (lM gIn (ak 0)<|fC<|.str "abcdefghijklmnopqrstuvwxyz0123456789")
def qg:Zae:=
 (gW 1 [] (NT<|aC 0) (hName 0) fY pR)
def lq (l_2:Zae):Zab:=
 (aP (gIf (cC<|fTv<|gY "str" (ak 0)) (bC<|fC<|.bl false) gNx)
 (bC<|m6 (oA gLe gLe (fC<|.int 1) (aV cZ<|aj (ak 0) au)<|fC<|.int 8)<|aV xQ<|aj l_2 au))
def Al:Zab:=
 (lq qg)
def mW:Zac:=aW 1 1 Al
def fj (φ_is_plan:Zac):Zab:=
 (gIf (cC<|fTv<|fFn φ_is_plan<|aj (aC 0)<|aj (aC 1)<|aj (aC 2) au) (g8 "NoPlan" (fM<|gw<|ik (fC<|.str "this is no plan of side ")<|ik (fUn zf<|ak 1) sW)) gNx)
def jy:Zab:=
 (fj jF)
def bO:Zac:=aW 3 3 jy
def yQ:Zae:=
 (fFn dw<|aj (aC 0) au)
def zp:Zae:=
 (jk "str" Ks (fC<|.str " ") (aj (aA aJ (bI<|aj (aA gIx (ak 0)<|fC<|.int 1) au)<|gW 1 [] (CK<|aA Eg (ak 1)<|aA gIx (ak 0)<|fC<|.int 1) (hName 0) fY yQ) au))
def yP:Zae:=
 (gW 1 [2] (kY<|fFn fU<|aj (aC 0)<|aj (aC 1) au) (hName 0) fY zp)
def lX (φ_refuse_no_plan:Zac)(l_3:Zae):Zab:=
 (aP (gEx<|fFn φ_refuse_no_plan<|aj (aC 0)<|aj (aC 1)<|aj (aC 2) au)
 (aP (aX 3 l_3)
 (bC<|jk "str" Ks (fC<|.str "; ") (aj (ak 3) au))))
def vB:Zab:=
 (lX bO yP)
def qu:Zac:=aW 4 3 vB
def cI:Zae:=
 (fFn fH<|aj (aC 0) au)
def jm:Zae:=
 (mL 1 [] (kY<|fSl (ak 1) (fO1<|fC<|.int 1) fO0) (hName 0) fY cI)
def gB (φ_is_name:Zac)(l_2:Zae):Zab:=
 (aP (aX 1<|jk "str" nD (ak 0) (aj (fC<|.str " ") au))
 (aP (gIf (jr (cC<|fTv<|fFn φ_is_name<|aj (aA gIx (ak 1)<|fC<|.int 0) au)<|aY gEq (aV cZ<|aj (ak 1) au)<|fC<|.int 1) (g8 "NoText" (fM<|gw<|ik (fUn uw<|ak 0)<|ik (fC<|.str " is no name with fractions") sW)) gNx)
 (bC<|aL<|aj (aA gIx (ak 1)<|fC<|.int 0)<|aj (aV oO<|aj l_2 au) au)))
def wM:Zab:=
 (gB mW jm)
def gD:Zac:=aW 2 1 wM
def dB:Zae:=
 (fFn gD<|aj (aC 0) au)
def mD:Zae:=
 (mL 1 [] (kY<|jk "str" nD (ak 0) (aj (fC<|.str "; ") au)) (hName 0) fY dB)
def gF (l_2:Zae):Zab:=
 (bC<|fIf (aY gEq (ak 0)<|fC<|.str "") (bI au) l_2)
def qi:Zab:=
 (gF mD)
def gG:Zac:=aW 1 1 qi
def cU (φ_refuse_no_plan:Zac)(φ_read_rows:Zac):Zab:=
 (aP (gIf (cC<|fTv<|gY "str" (ak 2)) (g8 "NoText" (fM<|fC<|.str "a plan is read from a text")) gNx)
 (aP (aX 3<|fFn φ_read_rows<|aj (aC 2) au)
 (aP (dO 4<|aV iJ<|aj (ak 3) au)
 (aP (gIf (aY gLt (aV cZ<|aj (ak 4) au)<|aV cZ<|aj (ak 3) au) (g8 "NoText" (fM<|fC<|.str "a name stands there twice")) gNx)
 (aP (gEx<|T7 φ_refuse_no_plan<|aj (ak 0)<|aj (ak 1)<|aj (ak 4) au)
 (rA 4))))))
def vL:Zab:=
 (cU bO gG)
def cP:Zac:=aW 5 3 vL
def gH:Zab:=
 (aX 8<|aA aJ (ak 8)<|aA gIx (ak 3)<|aA ir (aA aJ (aA aJ (aA qT (ak 0)<|aA aJ (ak 9)<|fC<|.int 1)<|aA jX (ak 9)<|ak 9)<|aA jX (aA aJ (ak 7)<|fC<|.int 1)<|aV pW<|aj (lM gEq (ak 9)<|ak 5) au)<|fC<|.int 36)
def lr:Zab:=
 (mZ (lV<|aj (ak 4) au) (hName 9) gH)
def jb:Zab:=
 (aP (aX 8<|fC<|.str "")
 (aP lr
 (eF 6<|aC 8)))
def qw:Zab:=
 (mZ (lV<|aj (ak 2) au) (hName 7) jb)
def j9 (l_4:Zab):Zab:=
 (aP (aX 3<|fC<|.str "abcdefghijklmnopqrstuvwxyz0123456789")
 (aP (aX 4<|aA aJ (fC<|.int 1)<|aA ir (ak 0)<|fC<|.int 8)
 (aP (aX 5<|aA ir (ak 1)<|ak 4)
 (aP (dO 6<|bI au)
 (aP l_4
 (rA 6))))))
def ur:Zab:=
 (j9 qw)
def fJ:Zac:=aW 10 3 ur
def mC:Zab:=
 (aP (aX 7<|aA gIx (bI<|aj (fC<|.str "all")<|aj (aA aJ (fC<|.str "all")<|aV vP<|aj (ak 6) au)<|aj (aA aJ (fC<|.str "all")<|aV vP<|aj (ak 4) au) au)<|ak 2)
 (aP (aX 8<|aL<|aj (fC<|.str "move")<|aj (aA yw (fC<|.int 3)<|ak 0)<|aj (aC 7)<|aj (aL<|aj (aL<|aj (fC<|.str "c")<|aj (aL<|aj (fC<|.str "end")<|aj (aL<|aj (aA aJ (ak 4)<|ak 6)<|aj (fC<|.int 1) au) au) au)<|aj (aL<|aj (fC<|.str "d")<|aj (aL<|aj (fC<|.str "end")<|aj (aL<|aj (aA yw (ak 4)<|ak 6)<|aj (aA aJ (aA jX (fC<|.int 2)<|ak 6)<|fC<|.int 1) au) au) au) au) au)
 (aP (gIf (Ag (aY gEq (ak 6)<|fC<|.int 1)<|aY gEq (ak 4)<|fC<|.int 1) (aX 8<|aL<|aj (fC<|.str "move")<|aj (aA yw (fC<|.int 3)<|ak 0)<|aj (aC 7)<|aj (aL<|aj (aL<|aj (fC<|.str "c")<|aj (aL<|aj (fC<|.str "end")<|aj (aL<|aj (fC<|.int 0)<|aj (fC<|.int 1) au) au) au)<|aj (aL<|aj (fC<|.str "d")<|aj (aL<|aj (fC<|.str "end")<|aj (aL<|aj (fC<|.int 5)<|aj (fC<|.int 1) au) au) au) au) au) gNx)
 (eF 5<|aL<|aj (aA gIx (bI<|aj (fC<|.str "a")<|aj (fC<|.str "b") au)<|ak 6)<|aj (aC 8) au))))
def mV:Zab:=
 (mZ (lV<|aj (fC<|.int 2) au) (hName 6) mC)
def mG:Zab:=
 (aP (dO 5<|bI au)
 (aP mV
 (eF 3<|aL<|aj (aL<|aj (fC<|.int 1)<|aj (fC<|.int 2) au)<|aj (aL<|aj (fC<|.str "move")<|aj (aC 0)<|aj (aA gIx (ak 1)<|ak 4)<|aj (aV oO<|aj (ak 5) au) au) au)))
def rE:Zab:=
 (mZ (lV<|aj (fC<|.int 2) au) (hName 4) mG)
def lZ (l_4:Zab):Zab:=
 (aP (dO 3<|bI au)
 (aP l_4
 (bC<|aL<|aj (fC<|.str "deal")<|aj (fC<|.str "coin")<|aj (aV oO<|aj (ak 3) au) au)))
def vI:Zab:=
 (lZ rE)
def iU:Zac:=aW 11 3 vI
def iD:Zab:=
 (aP (aX 2<|aA gIx (ak 0)<|fC<|.int 0)
 (aP (aX 3<|aA gIx (ak 0)<|fC<|.int 1)
 (aP (aX 4<|aA aJ (ak 2)<|fC<|.str " 1/2 1/2")
 (aP (aX 5<|aA aJ (ak 3)<|fC<|.str " 1/3 2/3")
 (aP (aX 6<|aA ir (aA qT (ak 1)<|fC<|.int 32)<|aV cZ<|aj (ak 2) au)
 (aP (dO 7<|bI<|aj (aL<|aj (aA aJ (aA aJ (ak 4)<|fC<|.str "; ")<|ak 4)<|aj (fC<|.str "text") au)<|aj (aL<|aj (aA aJ (aA aJ (ak 4)<|fC<|.str ";")<|ak 5)<|aj (fC<|.str "text") au)<|aj (aL<|aj (aA aJ (aA aJ (aA aJ (ak 4)<|fC<|.str "; ")<|ak 5)<|fC<|.str " ")<|aj (fC<|.str "text") au) au)
 (aP (dO 7<|aA fD (ak 7)<|bI<|aj (aL<|aj (aA aJ (aA aJ (ak 2)<|fC<|.str "  1/2 1/2; ")<|ak 5)<|aj (fC<|.str "text") au)<|aj (aL<|aj (aA aJ (aA aJ (ak 2)<|fC<|.str " 2/4 1/2; ")<|ak 5)<|aj (fC<|.str "text") au) au)
 (aP (dO 7<|aA fD (ak 7)<|bI<|aj (aL<|aj (aA aJ (aA aJ (aA aJ (ak 4)<|fC<|.str "; ")<|ak 3)<|fC<|.str " 1/3,2/3")<|aj (fC<|.str "text") au) au)
 (aP (dO 7<|aA fD (ak 7)<|bI<|aj (aL<|aj (aA aJ (aA aJ (aA aJ (aA aJ (fSl (ak 2) fO0<|fO1<|ak 6)<|fC<|.str "A")<|fSl (ak 2) (fO1<|aA aJ (ak 6)<|fC<|.int 1) fO0)<|fC<|.str " 1/2 1/2; ")<|ak 5)<|aj (fC<|.str "text") au)<|aj (aL<|aj (aA aJ (aA aJ (aA aJ (fC<|.str " ")<|ak 4)<|fC<|.str "; ")<|ak 5)<|aj (fC<|.str "text") au) au)
 (aP (dO 7<|aA fD (ak 7)<|bI<|aj (aL<|aj (aC 4)<|aj (fC<|.str "plan") au)<|aj (aL<|aj (aA aJ (aA aJ (aA aJ (aA aJ (aA aJ (ak 4)<|fC<|.str "; ")<|ak 5)<|fC<|.str "; ")<|aA gIx (ak 0)<|fC<|.int 2)<|fC<|.str " 1")<|aj (fC<|.str "plan") au)<|aj (aL<|aj (fC<|.str "")<|aj (fC<|.str "plan") au) au)
 (aP (dO 7<|aA fD (ak 7)<|bI<|aj (aL<|aj (aA aJ (aA aJ (aA aJ (ak 4)<|fC<|.str "; ")<|aA gIx (ak 0)<|fC<|.int 2)<|fC<|.str " 1/3 2/3")<|aj (fC<|.str "plan") au) au)
 (aP (dO 7<|aA fD (ak 7)<|bI<|aj (aL<|aj (aA aJ (aA aJ (ak 2)<|fC<|.str " 1/2 1/3; ")<|ak 5)<|aj (fC<|.str "plan") au)<|aj (aL<|aj (aA aJ (aA aJ (ak 2)<|fC<|.str " 3/2 -1/2; ")<|ak 5)<|aj (fC<|.str "plan") au) au)
 (aP (dO 7<|aA fD (ak 7)<|bI<|aj (aL<|aj (aA aJ (aA aJ (ak 2)<|fC<|.str " 1; ")<|ak 5)<|aj (fC<|.str "plan") au) au)
 (aP (eF 7<|aL<|aj (aA aJ (aA aJ (aA aJ (aA aJ (ak 2)<|fC<|.str " ")<|aA Dr (fC<|.str "1")<|fC<|.int 31)<|fC<|.str " 0; ")<|ak 5)<|aj (fC<|.str "text") au)
 (bC<|aA gIx (aA aJ (ak 7)<|bI<|aj (aL<|aj (aA aJ (aA aJ (ak 2)<|fC<|.str " 1/2 1/4 1/4; ")<|ak 5)<|aj (fC<|.str "plan") au) au)<|aA ir (ak 1)<|fC<|.int 17)))))))))))))))
def o9:Zab:=
 iD
def d8:Zac:=aW 8 2 o9
def iz:Zab:=
 (aP (aX 2<|aA gIx (ak 0)<|fC<|.int 0)
 (aP (aX 3<|aA gIx (ak 0)<|fC<|.int 1)
 (aP (aX 4<|aL<|aj (aL<|aj (fC<|.int 1)<|aj (fC<|.int 2) au)<|aj (aL<|aj (fC<|.int 1)<|aj (fC<|.int 2) au) au)
 (aP (aX 5<|bI<|aj (dR [((aC 2),(aC 4))])<|aj (dR [((aC 2),(aC 4)),((aC 3),(aC 4)),((aA gIx (ak 0)<|fC<|.int 2),(aC 4))])<|aj (dR [((aC 2),(aC 4)),((aC 3),(aL<|aj (aL<|aj (fC<|.int 1)<|aj (fC<|.int 1) au) au))]) au)
 (aP (aX 5<|aA aJ (ak 5)<|bI<|aj (dR [((aC 2),(aC 4)),((aC 3),(bI<|aj (aL<|aj (fC<|.int 1)<|aj (fC<|.int 1) au)<|aj (aL<|aj (fC<|.int 0)<|aj (fC<|.int 1) au) au))]) au)
 (aP (aX 5<|aA aJ (ak 5)<|bI<|aj (dR [((aC 2),(aC 4)),((aC 3),(aL<|aj (aL<|aj (fC<|.int 1)<|aj (fC<|.int 2) au)<|aj (aL<|aj (fC<|.int 1)<|aj (fC<|.int 3) au) au))])<|aj (dR [((aC 2),(aC 4)),((aC 3),(aL<|aj (aL<|aj (fC<|.int 3)<|aj (fC<|.int 2) au)<|aj (aL<|aj (fUn wJ<|fC<|.int 1)<|aj (fC<|.int 2) au) au))])<|aj pY<|aj (fC .non)<|aj (bI<|aj (aC 2)<|aj (aC 3) au) au)
 (aP (aX 5<|aA aJ (ak 5)<|bI<|aj (dR [((aC 2),(aC 4)),((aC 3),(aL<|aj (aL<|aj (fC<|.int 2)<|aj (fC<|.int 4) au)<|aj (aL<|aj (fC<|.int 1)<|aj (fC<|.int 2) au) au))])<|aj (dR [((aC 2),(aC 4)),((aC 3),(fC .non))])<|aj (fC<|.str "plan")<|aj (aL<|aj (aL<|aj (aC 2)<|aj (aC 4) au)<|aj (aL<|aj (aC 3)<|aj (aC 4) au) au) au)
 (bC<|aA gIx (aA aJ (ak 5)<|bI<|aj (dR [((aC 2),(aC 4)),((aC 3),(aL<|aj (fC<|.int 1)<|aj (fC<|.int 0) au))])<|aj (dR [((aC 2),(aC 4)),((fC<|.int 7),(aC 4))])<|aj (dR [((aC 2),(aC 4)),((aC 3),(aL<|aj (aL<|aj (fC<|.bl true)<|aj (fC<|.int 1) au)<|aj (aL<|aj (fC<|.int 0)<|aj (fC<|.int 1) au) au))]) au)<|aA ir (ak 1)<|fC<|.int 16))))))))
def o6:Zab:=
 iz
def d9:Zac:=aW 6 2 o6
def uI:Zae:=
 (mL 2 [] (kY<|aC 1) (ou 2<|du (hName 0)<|du (hName 1) pF) (fTv<|aC 0)<|aC 1)
def qp (l_1:Zae):Zab:=
 (aP (aX 1<|bI<|aj (aL<|aj (DP oJ<|ak 0)<|aj (fC<|.str "text") au)<|aj (aL<|aj (DP nM<|ak 0)<|aj (fC<|.str "plan") au)<|aj (aL<|aj (DP qN<|ak 0)<|aj (fC<|.str "row") au) au)
 (aP (aX 1<|aA aJ (ak 1)<|bI<|aj (aL<|aj (DP oE<|ak 0)<|aj (fC<|.str "name") au)<|aj (aL<|aj (DP j6<|ak 0)<|aj (fC<|.str "number") au) au)
 (aP (aX 1<|aA aJ (ak 1)<|bI<|aj (aL<|aj (DP n6<|ak 0)<|aj (fC<|.str "word") au)<|aj (aL<|aj (DP kW<|ak 0)<|aj (fC<|.str "bounds") au) au)
 (bC<|aA aJ l_1<|bI<|aj (NB jd<|ak 0) au))))
def pX:Zab:=
 (qp uI)
def dW:Zac:=aW 2 1 pX
def lN (φ_read_plan:Zac)(φ__law_classes:Zac):Zab:=
 (aP (aX 3<|bI au)
 (aP (Ik 4 (cF) (uC φ_read_plan<|aj (aC 0)<|aj (aC 1)<|aj (aC 2) au)<|aX 3<|fFn φ__law_classes<|aj (aC 4) au)
 (bC<|aC 3)))
def vD:Zab:=
 (lN cP dW)
def dD:Zac:=aW 5 3 vD
def kj (φ_show_plan:Zac)(φ__law_classes:Zac):Zab:=
 (aP (aX 3<|bI au)
 (aP (Ik 4 (cF) (uC φ_show_plan<|aj (aC 0)<|aj (aC 1)<|aj (aC 2) au)<|aX 3<|fFn φ__law_classes<|aj (aC 4) au)
 (bC<|aC 3)))
def uq:Zab:=
 (kj qu dW)
def gP:Zac:=aW 5 3 uq
def wB:Zab:=
 (aP (aX 8<|aA ir (aA jX (aA aJ (aA aJ (aA aJ (aA ir (aA gIx (ak 0)<|aA aJ (fC<|.int 3)<|ak 7)<|fC<|.int 1000000007)<|aA jX (aA jX (fC<|.int 59)<|ak 7)<|ak 7)<|aA jX (fC<|.int 29)<|ak 7)<|fC<|.int 7)<|fC<|.int 30323)<|fC<|.int 1000003)
 (aP (Up (fFn d8<|aj (aC 3)<|aj (aC 8) au)<|ou 2<|du (hName 9)<|du (hName 10) pF)
 (aP (gIf (aY gNe (fFn dD<|aj (aC 4)<|aj (aC 2)<|aj (aC 9) au)<|bI<|aj (aC 10)<|aj (fC<|.bl true) au) (bC<|fC<|.bl false) gNx)
 (aP (gIf (aY gNe (fFn gP<|aj (aC 4)<|aj (aC 2)<|aj (fFn d9<|aj (aC 3)<|aj (aA qT (ak 8)<|fC<|.int 16) au) au)<|bI<|aj (fC<|.str "plan")<|aj (fC<|.bl true) au) (bC<|fC<|.bl false) gNx)
 (aP (aX 11<|aA gIx (bI<|aj (fC .non)<|aj (fC<|.int 5)<|aj (fC<|.bl true)<|aj (bI<|aj (aC 5) au)<|aj (aL<|aj (aC 5) au)<|aj (aC 6)<|aj (aL<|aj (aL<|aj (fC<|.int 1)<|aj (fC<|.int 2) au) au)<|aj pY au)<|aA ir (aA qT (ak 8)<|fC<|.int 7)<|fC<|.int 8)
 (gIf (aY gNe (fFn dD<|aj (aC 4)<|aj (aC 2)<|aj (aC 11) au)<|bI<|aj (fC<|.str "text")<|aj (fC<|.bl true) au) (bC<|fC<|.bl false) gNx))))))
def Dd:Zab:=
 (mZ (lV<|aj (aV cZ<|aj (fSl (ak 0) (fO1<|fC<|.int 3)<|fO1<|fC<|.int 23) au) au) (hName 7) wB)
def Oz (φ_read_plan:Zac)(φ__law_cell_at:Zac)(φ__law_names:Zac)(φ__law_game:Zac)(l_2:Zab):Zab:=
 (aP (aX 1<|aA ir (aA jX (aA ir (fFn φ__law_cell_at<|aj (aC 0)<|aj (fC<|.int 0) au)<|fC<|.int 1000000007)<|fC<|.int 48271)<|fC<|.int 1000003)
 (aP (aX 2<|aA aJ (fC<|.int 1)<|aA ir (fFn φ__law_cell_at<|aj (aC 0)<|aj (fC<|.int 1) au)<|fC<|.int 2)
 (aP (aX 3<|fFn φ__law_names<|aj (aC 1)<|aj (aA qT (ak 1)<|fC<|.int 9)<|aj (fC<|.int 3) au)
 (aP (aX 4<|fFn φ__law_game<|aj (aC 2)<|aj (aC 3)<|aj (aA ir (fFn φ__law_cell_at<|aj (aC 0)<|aj (fC<|.int 2) au)<|fC<|.int 3) au)
 (aP (aX 5<|aA aJ (aA aJ (aA aJ (aA gIx (ak 3)<|fC<|.int 1)<|fC<|.str " 1/3 2/3; ")<|aA gIx (ak 3)<|fC<|.int 0)<|fC<|.str " 1/2 1/2")
 (aP (aX 6<|dR [((aA gIx (ak 3)<|fC<|.int 0),(aL<|aj (aL<|aj (fC<|.int 1)<|aj (fC<|.int 2) au)<|aj (aL<|aj (fC<|.int 1)<|aj (fC<|.int 2) au) au)),((aA gIx (ak 3)<|fC<|.int 1),(aL<|aj (aL<|aj (fC<|.int 1)<|aj (fC<|.int 3) au)<|aj (aL<|aj (fC<|.int 2)<|aj (fC<|.int 3) au) au))])
 (aP (gIf (aY O8 (fFn φ_read_plan<|aj (aC 4)<|aj (aC 2)<|aj (aC 5) au)<|ak 6) (bC<|fC<|.bl false) gNx)
 (aP l_2
 (bC<|lM Cr (fFn φ_read_plan<|aj (aC 4)<|aj (aC 2)<|aj (aC 5) au)<|ak 6)))))))))
def J3:Zab:=
 (Oz cP bR fJ iU Dd)
def VM:Zac:=aW 12 1 J3
end
open PySem PySem.NumText L2 Hd F Pk
open L2 (atI ixN Key)
theorem gV:af "/" = ⟨#[47]⟩:=by decide +kernel
theorem Ke:af "-" = ⟨#[45]⟩:=by decide +kernel
theorem Dj:af "" = tx []:=by decide +kernel
theorem Vo:iS=tx []:=by decide +kernel
theorem WM:af "0123456789" = tx [48,49,50,51,52,53,54,55,56,57]:=by decide +kernel
theorem Nf:af "1" = tx [49]:=by decide +kernel
theorem Ir {l:List Nat}{c:Nat}(h:c∉l):dQ (tx l) ⟨#[c]⟩=(tx l,tx [],tx []):=by
 unfold dQ;rw[Ra h];rfl
theorem JH {a b:List Nat}{c:Nat}(h:c∉a):dQ (tx (a++c::b)) ⟨#[c]⟩=(tx a,⟨#[c]⟩,tx b):=by
 unfold dQ;obtain⟨r,e⟩:=X7 (b:=b) h;rw[e];have e1:hU (tx (a++c::b)) 0 a.length=tx a:=tV (by rw[kQ,dY];simp);have e2:hU (tx (a++c::b)) (a.length+1) (tx (a++c::b)).length=tx b:=tV (by
  rw[kQ,dY,bK]
  have:(a++c::b).drop (a.length+1)=b:=by rw[← xb,List.drop_left];rfl
  rw[this];exact gu (by simp;omega))
 show(_,_,hU (tx (a++c::b)) (a.length+1) _)=_;rw[e1,e2]
theorem yd {l:List Nat}{c:Nat}:fA (tx l) ⟨#[c]⟩=decide (l.head? = some c):=by
 unfold fA;rw[zS,dY,bK];cases l with
 |nil=>rfl
 |cons a r=>
  show(decide (0+1<=(a::r).length)&&([a]==[c]))=decide (some a=some c);by_cases h:a=c
  ·subst h;simp
  ·simp[h]
theorem Mz {a:Nat}{l:List Nat}:ka (tx (a::l)) (some 1) none=tx l:=by
 have:=tJ (x:=tx (a::l)) (i:=1) ⟨by decide,by rw[dY];simp;omega⟩
 refine(show ka (tx (a::l)) (some 1) none=_ from this).trans ?_;refine tV ?_;rw[dY];show(l.take _)=l;exact gu<|by simp
def sh (t b:Int):List Nat:=sg t++if b=1 then[] else 47::dg b.natAbs
theorem Kg {i:Int}(h:i.natAbs<10^30):vP [.int i]=some (.str<|tx<|sg i):=by
 have:i.natAbs.log2<1920:=by
  by_cases z:i.natAbs=0
  ·rw[z];decide
  ·have e:(10:Nat)^30<=2^100:=by decide
   exact(Nat.log2_lt z).mpr (bg (bg h e)<|pe (by decide)<|by decide)
 show(if i.natAbs.log2<1920 then some (D.str<|af<|toString i) else none)=_;rw[if_pos this,YH]
theorem Dk {i:Int}(h:i.natAbs<10^30):(sg i).length<=31:=by
 have:=(QL h).2
 rwa [bK] at this
theorem GF {i:Int}(h:0<=i):sg i=dg i.natAbs:=by unfold sg;rw[if_neg<|by omega];rfl
theorem CT {t b:Int}(ht:t.natAbs<10^30)(hb:b.natAbs<10^30)(h1:1<=b):dw [qD (t,b)]=.ok (false,.str<|tx<|sh t b):=by
 have e1:=Kg ht;have e2:=Kg hb;by_cases z:b=1
 ·have e:sh t b=sg t:=by unfold sh;rw[if_pos z];simp
  rw[e];simp[dw,aW,kJ,j8,aP,aX,aV,aj,au,aA,ak,fC,gIx,qD,ix0,ix1,e1,gIf,aY,z,bC,Me.let,Sl.let,aC]
 ·have e:tx (sg t)++(⟨#[47]⟩:Str)++tx (sg b)=tx (sh t b):=by
   rw[show(⟨#[47]⟩:Str)=tx [47] from rfl,mz,mz];unfold sh;rw[if_neg z,GF (i:=b)<|by omega]
   simp
  have l1:=Dk ht;have l2:=Dk hb;have f1:zf (.str<|tx<|sg t)=some (.str<|tx<|sg t):=if_pos (by rw[bK,szl];omega);have f2:zf (.str<|tx<|sg b)=some (.str<|tx<|sg b):=if_pos (by rw[bK,szl];omega);have l4:(tx<|sg t).length<=16777216:=by rw[bK];omega
  have l5:(tx (sg t)++af "/").length<=16777216:=by rw[gV,show(⟨#[47]⟩:Str)=tx [47] from rfl,mz,bK];simp;omega
  have e3:iS++tx (sg t)=tx (sg t):=by rw[Vo,mz];rfl
  have e4:tx (sg t)++(af "/")++tx (sg b)=tx (sh t b):=by rw[gV];exact e
  have l3:(tx<|sh t b).length<=16777216:=by rw[← e4,gV,show(⟨#[47]⟩:Str)=tx [47] from rfl,mz,mz,bK];simp;omega
  simp[dw,aW,kJ,j8,aP,aX,aV,aj,au,aA,ak,fC,gIx,qD,ix0,ix1,e1,e2,gIf,aY,z,gNx,bC,Me.let,Sl.let,gw,ik,sW,fUn,f1,f2,e3,e4,l3,l4,l5]
def inB (ks:List Nat)(c:Nat):Bool:=decide<|c∈ks
theorem aaz {ks:List Nat}{S:Str}(hS:S=tx ks)(c:Nat):gIn (.str ⟨#[c]⟩) (.str S)=some (inB ks c):=by
 subst hS;show some (!(cq _ _ 0 _ 1).isEmpty)=_;unfold inB;by_cases h:c∈ks
 ·rw[Vi h,decide_eq_true h];rfl
 ·rw[Ra h,decide_eq_false h];rfl
theorem Ai (p:Nat->Bool):∀l:List Nat,wI (l.map λc=>D.bl<|p c)=some (l.map p)
 |[]=>rfl
 |c::l=>by simp[wI,Ai p l]
abbrev fks:List Nat:=[48,49,50,51,52,53,54,55,56,57]
abbrev nks:List Nat:=(l7 97 26)++l7 48 10
def okB (ks:List Nat)(n:Nat)(l:List Nat):Bool:=decide (1<=l.length)&&decide (l.length<=n)&&l.all (inB ks)
theorem Pg {ks l:List Nat}:xQ [.lst<|l.map λc=>D.bl<|inB ks c]=some (.bl<|l.all<|inB ks):=by
 show(wI _).map _=_;rw[Ai]
 simp
theorem N6 {Q:Zae}{l:List Nat}(hl:l.length<=1000)(hq:Q [.fz<|.str<|tx l]=.ok (.lst<|l.map λc=>D.bl<|inB fks c)):aW 1 1 (fV Q) [.str<|tx l]=.ok (false,.bl<|okB fks 30 l):=by
 have hz2:(tx l).length<=16777216:=by rw[bK];omega
 have e3:=Pg (ks:=fks) (l:=l);unfold okB;generalize l.all (inB fks)=A at *;by_cases g1:1<=l.length
 ·have g1':(1:Int)<=((tx l).length:Int):=by rw[bK];omega
  by_cases g2:l.length<=30
  ·have g2':((tx l).length:Int)<=30:=by rw[bK];omega
   simp[aW,fV,bC,Me.let,Sl.let,m6,fTv,oA,fC,aV,aj,au,ak,cZ,hz2,gLe,g1',g2',hq,e3,g1,g2]
  ·have g2':¬((tx l).length:Int)<=30:=by rw[bK];omega
   simp[aW,fV,bC,Me.let,Sl.let,m6,fTv,oA,fC,aV,aj,au,ak,cZ,hz2,gLe,g1',g2',hq,e3,g1,g2]
 ·have g1':¬(1:Int)<=((tx l).length:Int):=by rw[bK];omega
  simp[aW,fV,bC,Me.let,Sl.let,m6,fTv,oA,fC,aV,aj,au,ak,cZ,hz2,gLe,g1',hq,e3,g1]
theorem xU {l:List Nat}(hl:l.length<=1000):fQ [.str<|tx l]=.ok (false,.bl<|okB fks 30 l):=by
 refine N6 hl ?_;have e:ig (hName 0) fY jW [.un] (l.map λc=>D.str ⟨#[c]⟩)=.ok (l.map λc=>D.bl<|inB fks c):=qO l λc hc=>by
  refine⟨_,rfl,rfl,?_⟩;have hi:=aaz WM c;simp[jW,lM,ak,fC,hi]
 have hs:signs (tx l)=l.map λc=>D.str ⟨#[c]⟩:=rfl;have hz:l.length<=16777216:=by omega
 have hz2:(tx l).length<=16777216:=by rw[bK];omega
 simp[pB,gW,NT,aC,cMe,hz2,hz,hs,e]
theorem Dg {l:List Nat}(h:AllDigits l)(h1:1<=l.length)(h2:l.length<=30):fQ [.str<|tx l]=.ok (false,.bl true):=by
 rw[xU<|by omega]
 have:l.all (inB fks)=true:=List.all_eq_true.mpr λc hc=>by
  have:=h c hc
  unfold inB;simp only[bP,lT,or_false,decide_eq_true_eq];omega
 simp[okB,h1,h2,this]
theorem Zu:af "abcdefghijklmnopqrstuvwxyz0123456789" = tx nks:=by decide +kernel
theorem Fe {l:List Nat}(hl:l.length<=1000):mW [.str<|tx l]=.ok (false,.bl<|okB nks 8 l):=by
 have hz2:(tx l).length<=16777216:=by rw[bK];omega
 have hz:l.length<=16777216:=by omega
 have e3:=Pg (ks:=nks) (l:=l);have e:ig (hName 0) fY pR [.un] (l.map λc=>D.str ⟨#[c]⟩)=.ok (l.map λc=>D.bl<|inB nks c):=qO l λc hc=>by
  refine⟨_,rfl,rfl,?_⟩;have hi:=aaz Zu c;generalize inB nks c=ic at *;simp[pR,lM,ak,fC,hi]
 have hs:signs (tx l)=l.map λc=>D.str ⟨#[c]⟩:=rfl;have q:qg [.fz<|.str<|tx l]=.ok (.lst<|l.map λc=>D.bl<|inB nks c):=by
  generalize inB nks=ib at *;simp[qg,gW,NT,aC,cMe,hz2,hz,hs,e]
 have it:gY "str" (ak 0) [.fz<|.str<|tx l]=.ok (.bl true):=rfl;unfold okB;have c:∀(Q:Zae) (ib:Nat->Bool),Q [.fz<|.str<|tx l]=.ok (.lst<|l.map λc=>D.bl<|ib c)->xQ [.lst<|l.map λc=>D.bl<|ib c]=some (.bl<|l.all ib)->aW 1 1 (lq Q) [.str<|tx l]=.ok (false,.bl<|decide (1<=l.length)&&decide (l.length<=8)&&l.all ib):=by
  intro Q ib hq e3;generalize l.all ib=A at *;by_cases g1:1<=l.length
  ·have g1':(1:Int)<=((tx l).length:Int):=by rw[bK];omega
   by_cases g2:l.length<=8
   ·have g2':((tx l).length:Int)<=8:=by rw[bK];omega
    simp[aW,lq,aP,gIf,cC,it,gNx,bC,Me.let,Sl.let,m6,fTv,oA,fC,aV,aj,au,ak,cZ,hz2,gLe,g1',g2',hq,e3,g1,g2]
   ·have g2':¬((tx l).length:Int)<=8:=by rw[bK];omega
    simp[aW,lq,aP,gIf,cC,it,gNx,bC,Me.let,Sl.let,m6,fTv,oA,fC,aV,aj,au,ak,cZ,hz2,gLe,g1',g2',hq,e3,g1,g2]
  ·have g1':¬(1:Int)<=((tx l).length:Int):=by rw[bK];omega
   simp[aW,lq,aP,gIf,cC,it,gNx,bC,Me.let,Sl.let,m6,fTv,oA,fC,aV,aj,au,ak,cZ,hz2,gLe,g1',hq,e3,g1]
 exact c _ _ q e3
structure Nam (l:List Nat):Prop where
 lo:1<=l.length
 hi:l.length<=8
 sg:∀c∈l,97<=c/\c<=122\/48<=c/\c<=57
theorem Nam.no {l:List Nat}(h:Nam l){c:Nat}(hc:c=32\/c=59):c∉l:=λz=>by
 have:=h.sg c z
 omega
theorem DR {l:List Nat}(h:Nam l):mW [.str<|tx l]=.ok (false,.bl true):=by
 have h1:=h.lo;have h2:=h.hi;rw[Fe<|by omega]
 have:l.all (inB nks)=true:=List.all_eq_true.mpr λc hc=>by
  have:=h.sg c hc
  unfold inB;rw[decide_eq_true_eq,gT,List.mem_range'_1,List.mem_range'_1];omega
 simp[okB,h1,h2,this]
theorem Gd {φl φs φa:Zac}{z p1 p2 p3 bt bare:Str}{ti bi:Int}{r:D}
  (hp:iT (.str z) [.str<|af "/"]=some (.tup [.str p1,.str p2,.str p3])) (hl:p1.length<=16777216)
  (hb:(if p2=af "/" then p3 else af "1")=bt) (hs:(if fA p1 (af "-")=true then ka p1 (some 1) none else p1)=bare)
  (f1:φa [.str bare]=.ok (false,.bl true)) (f2:φa [.str bt]=.ok (false,.bl true)) (i1:pW [.str p1]=some (.int ti)) (i2:pW [.str bt]=some (.int bi)) (nz:bi≠0)
  (l:φl [.int ti,.int bi]=.ok (false,r)) (s:φs [r]=.ok (false,.str z)):aW 6 1 (cR φl φs φa) [.str z]=.ok (false,r):=by
 have x0:∀a b c:D,atI [a,b,c] 0=some a:=λ_ _ _=>rfl;have x1:∀a b c:D,atI [a,b,c] 1=some b:=λ_ _ _=>rfl;have x2:∀a b c:D,atI [a,b,c] 2=some c:=λ_ _ _=>rfl;subst hb;subst hs;by_cases c1:p2=af "/"
 ·rw[if_pos c1] at f2 i2;by_cases c2:fA p1 (af "-")=true
  ·rw[if_pos c2] at f1;simp[aW,cR,aP,gIf,cC,fTv,gY,ak,iw,BK,gNx,aX,jk,tyD,aj,au,fC,hp,aA,gIx,x0,x1,x2,fIf,aY,c1,jK,c2,fSl,fO1,fO0,gSl,hl,jr,fFn,aC,f1,f2,aV,i1,i2,nz,l,s,bC,Me.let,Sl.let]
  ·rw[if_neg c2] at f1;simp[aW,cR,aP,gIf,cC,fTv,gY,ak,iw,BK,gNx,aX,jk,tyD,aj,au,fC,hp,aA,gIx,x0,x1,x2,fIf,aY,c1,jK,c2,fSl,fO1,fO0,gSl,hl,jr,fFn,aC,f1,f2,aV,i1,i2,nz,l,s,bC,Me.let,Sl.let]
 ·rw[if_neg c1] at f2 i2;by_cases c2:fA p1 (af "-")=true
  ·rw[if_pos c2] at f1;simp[aW,cR,aP,gIf,cC,fTv,gY,ak,iw,BK,gNx,aX,jk,tyD,aj,au,fC,hp,aA,gIx,x0,x1,x2,fIf,aY,c1,jK,c2,fSl,fO1,fO0,gSl,hl,jr,fFn,aC,f1,f2,aV,i1,i2,nz,l,s,bC,Me.let,Sl.let]
  ·rw[if_neg c2] at f1;simp[aW,cR,aP,gIf,cC,fTv,gY,ak,iw,BK,gNx,aX,jk,tyD,aj,au,fC,hp,aA,gIx,x0,x1,x2,fIf,aY,c1,jK,c2,fSl,fO1,fO0,gSl,hl,jr,fFn,aC,f1,f2,aV,i1,i2,nz,l,s,bC,Me.let,Sl.let]
theorem Pb {n:Nat}:47∉dg n:=λh=>by have:=uJ n 47 h;omega
theorem zQ {i:Int}:47∉sg i:=λh=>by
 unfold sg at h;rcases gT.mp h with w|w
 ·split at w
  ·simp at w
  ·cases w
 ·exact Pb w
theorem PN {n:Nat}:¬(dg n).head? = some 45:=λh=>by
 cases e:dg n with
 |nil=>rw[e] at h;cases h
 |cons a r=>rw[e] at h;cases h;have:=uJ n 45 (by rw[e];simp);omega
theorem uM {i:Int}(h:i.natAbs<10^30):pW [.str<|tx<|sg i]=some (.int i):=by
 obtain⟨h1,h2⟩:=QL h;show(if(tx<|sg i).length<=640 then(intText?<|tx<|sg i).map D.int else none)=_;rw[if_pos (by omega),h1];rfl
theorem TV {t b:Int}(ht:t.natAbs<10^30)(hb:b.natAbs<10^30)(h1:1<=b)(hg:gI t b=1):fH [.str<|tx<|sh t b]=.ok (false,qD (t,b)):=by
 have lt1:=Dk ht;have lb1:=Dk hb;have low:fO [.int t,.int b]=.ok (false,qD (t,b)):=by
  obtain⟨z1,z2⟩:=UL h1 hg;have hB:Bq b:=Px (k:=100)<|bg hb (by decide);rw[pI (by omega) hB,z1,z2];rfl
 have zl:(tx<|sh t b).length<=16777216:=by
  rw[bK];unfold sh;rw[a9]
  have:=wX 29 b.natAbs hb
  split<;>simp<;>omega
 have bare:∃bs,(if fA (tx<|sg t) (af "-")=true then ka (tx<|sg t) (some 1) none else tx (sg t))=tx bs/\fQ [.str<|tx bs]=.ok (false,.bl true):=by
  refine⟨dg t.natAbs,?_,Dg (uJ _) (Iz _)<|wX 29 _ ht⟩;rw[Ke,yd];by_cases n:t<0
  ·have e:sg t=45::dg t.natAbs:=by unfold sg;rw[if_pos n];rfl
   rw[e,if_pos (by simp),Mz]
  ·have e:sg t=dg t.natAbs:=GF (by omega);rw[e,if_neg<|by simpa using PN]
 obtain⟨bs,hbare,hfig⟩:=bare;have pl:(tx<|sg t).length<=16777216:=by rw[bK];omega
 by_cases z:b=1
 ·have e:sh t b=sg t:=by unfold sh;rw[if_pos z];simp
  refine Gd (p1:=tx<|sg t) (p2:=tx []) (p3:=tx []) (bt:=af "1") (bare:=tx bs) (ti:=t) (bi:=b) ?_ pl ?_ hbare hfig ?_ (uM ht) ?_ (by omega) low<|CT ht hb h1
  ·show(if _ then some (D.tup [.str (dQ (tx<|sh t b)<|af "/").1,.str (dQ (tx<|sh t b)<|af "/").2.1,.str (dQ (tx<|sh t b)<|af "/").2.2]) else none)=_;rw[if_pos ⟨by rw[szl];exact zl,by rw[gV];rfl⟩,gV,e,Ir zQ]
  ·rw[if_neg (by rw[gV,show(⟨#[47]⟩:Str)=tx [47] from rfl,gZ];decide)]
  ·rw[Nf];exact Dg (by intro c hc;rw[b4.mp hc];decide) (by decide) (by decide)
  ·rw[z,Nf];exact uM (i:=1)<|by decide
 ·have e:sh t b=sg t++47::dg b.natAbs:=by unfold sh;rw[if_neg z]
  have eb:sg b=dg b.natAbs:=GF (by omega);refine Gd (p1:=tx<|sg t) (p2:=⟨#[47]⟩) (p3:=tx<|sg b) (bt:=tx<|sg b) (bare:=tx bs) (ti:=t) (bi:=b) ?_ pl ?_ hbare hfig ?_ (uM ht) (uM hb) (by omega) low<|CT ht hb h1
  ·show(if _ then some (D.tup [.str (dQ (tx<|sh t b)<|af "/").1,.str (dQ (tx<|sh t b)<|af "/").2.1,.str (dQ (tx<|sh t b)<|af "/").2.2]) else none)=_;rw[if_pos ⟨by rw[szl];exact zl,by rw[gV];rfl⟩,gV,e,JH zQ,eb]
  ·rw[if_pos gV.symm]
  ·rw[eb];exact Dg (uJ _) (Iz _)<|wX 29 _ hb
abbrev nT:Xn:=("NoText",[],[])
abbrev nP:Xn:=("NoPlan",[],[])
theorem Oo {φl φs φa:Zac}{z p1 p2 p3 bt bare w:Str}{A B:Bool}{ti bi:Int}{r:D}
  (hp:iT (.str z) [.str<|af "/"]=some (.tup [.str p1,.str p2,.str p3])) (hl:p1.length<=16777216)
  (hb:(if p2=af "/" then p3 else af "1")=bt) (hs:(if fA p1 (af "-")=true then ka p1 (some 1) none else p1)=bare)
  (m0:(og z).length<=16777216) (m1:(iS++og z).length<=16777216) (m2:(iS++og z++af " is no fraction").length<=16777216) (m3:(iS++og z++af " is not how its fraction is shown").length<=16777216)
  (f1:φa [.str bare]=.ok (false,.bl A)) (f2:φa [.str bt]=.ok (false,.bl B)) (i1:A=true->B=true->pW [.str bt]=some (.int bi)/\bi≠0/\pW [.str p1]=some (.int ti)/\φl [.int ti,.int bi]=.ok (false,r)/\φs [r]=.ok (false,.str w)/\w≠z):
  aW 6 1 (cR φl φs φa) [.str z]=.exc nT:=by
 have x0:∀a b c:D,atI [a,b,c] 0=some a:=λ_ _ _=>rfl;have x1:∀a b c:D,atI [a,b,c] 1=some b:=λ_ _ _=>rfl;have x2:∀a b c:D,atI [a,b,c] 2=some c:=λ_ _ _=>rfl;subst hb;subst hs;by_cases c1:p2=af "/"<;>by_cases c2:fA p1 (af "-")=true
 all_goals
  simp only[c1,c2,if_true,if_false,g7] at f1 f2 i1;cases A
  ·simp[aW,cR,aP,gIf,cC,fTv,gY,ak,iw,BK,gNx,aX,jk,tyD,aj,au,fC,hp,aA,gIx,x0,x1,x2,fIf,aY,c1,jK,c2,fSl,fO1,fO0,gSl,hl,jr,fFn,aC,f1,g8,fM,gw,ik,sW,fUn,uw,m0,m1,m2]
  ·cases B
   ·simp[aW,cR,aP,gIf,cC,fTv,gY,ak,iw,BK,gNx,aX,jk,tyD,aj,au,fC,hp,aA,gIx,x0,x1,x2,fIf,aY,c1,jK,c2,fSl,fO1,fO0,gSl,hl,jr,fFn,aC,f1,f2,g8,fM,gw,ik,sW,fUn,uw,m0,m1,m2]
   ·obtain⟨i2,nz,i1,l,s,ne⟩:=i1 rfl rfl;simp[aW,cR,aP,gIf,cC,fTv,gY,ak,iw,BK,gNx,aX,jk,tyD,aj,au,fC,hp,aA,gIx,x0,x1,x2,fIf,aY,c1,jK,c2,fSl,fO1,fO0,gSl,hl,jr,fFn,aC,f1,f2,aV,i1,i2,nz,l,s,ne,g8,fM,gw,ik,sW,fUn,uw,m0,m1,m3]
theorem lO (a b:Str):(a++b).length=a.length+b.length:=by show(a.cps++b.cps).size=_;rw[Array.size_append];rfl
theorem JM {l:List Nat}(hl:l.length<=200)(hc:∀c∈l,c<128):(og<|tx l).length<=2002:=by
 have:=StrLaws.reprText_len (tx l) λc h=>by have:=hc c h;exact bg this<|by decide
 rw[bK] at this;omega
theorem K5 {l a bs b:List Nat}{p2 p3:Str}{ti bi:Int}{r:D}{w:Str}(hl:l.length<=200)(hc:∀c∈l,c<128)(la:a.length<=200)(lb:b.length<=200)(lc:bs.length<=200)
  (hp:iT (.str<|tx l) [.str<|af "/"]=some (.tup [.str<|tx a,.str p2,.str p3])) (hb:(if p2=af "/" then p3 else af "1")=tx b) (hs:(if fA (tx a) (af "-")=true then ka (tx a) (some 1) none else tx a)=tx bs)
  (i:okB fks 30 bs=true->okB fks 30 b=true->pW [.str<|tx b]=some (.int bi)/\bi≠0/\pW [.str<|tx a]=some (.int ti)/\fO [.int ti,.int bi]=.ok (false,r)/\dw [r]=.ok (false,.str w)/\w≠tx l):fH [.str<|tx l]=.exc nT:=by
 have m0:=JM hl hc;have e0:iS.length=0:=rfl;have e1:(af " is no fraction").length=15:=by decide +kernel
 have e2:(af " is not how its fraction is shown").length=33:=by decide +kernel
 exact Oo hp (by rw[bK];omega) hb hs (by omega) (by rw[lO];omega) (by rw[lO,lO];omega) (by rw[lO,lO];omega) (xU<|by omega) (xU<|by omega) i
end K71
namespace F
open PySem PySem.NumText PySem.StrLaws Hd
def Np (c d:Nat)(l:List Nat):Prop:=∀i,l[i]? = some c->l[i+1]?≠some d
theorem Np.of {c d:Nat}{l:List Nat}(h:c∉l):Np c d l:=λ_ z=>absurd (fN z) h
theorem Hy {T:List Nat}{c d k:Nat}:At (tx T) (tx [c,d]) (tx T).length k↔T[k]? = some c/\T[k+1]? = some d:=by
 unfold At;rw[zS,dY,dY,bK,bK];have e:(T.drop k).take 2=[c,d]↔T[k]? = some c/\T[k+1]? = some d:=by
  rw[← hJ (i:=k) (j:=1),show T[k]? = (T.drop k)[0]? by simp];cases T.drop k with
  |nil=>simp
  |cons a r=>cases r<;>simp
 constructor
 ·rintro⟨_,h⟩;exact e.mp<|by simpa using h
 ·intro h;refine⟨?_,by simpa using e.mpr h⟩
  have:=(dS.mp h.2).1
  show k+2<=T.length;omega
theorem Qp {T:List Nat}{a:Nat}:hU (tx T) a (tx T).length=tx (T.drop a):=tV (by
 rw[kQ,dY,bK];exact gu<|by simp)
theorem xF {T:List Nat}{c d:Nat}(hd:d≠c):∀(qs:List (List Nat)) (q:List Nat) (a:Nat) (cuts:List Nat) (f:Nat),T.drop a=jl [c,d] (q::qs)->ChainG (tx T) (tx [c,d]) (tx T).length a cuts f->(∀k,f<=k->¬At (tx T) (tx [c,d]) (tx T).length k)->(∀p∈q::qs,Np c d p)->
  partsFrom (tx T) 2 a cuts=(q::qs).map tx
 |[],q,a,cuts,f,e,ch,hf,hp=>by
  have e:T.drop a=q:=e;cases cuts with
  |nil=>
   show[hU (tx T) a (tx T).length]=[tx q];rw[Qp,e]
  |cons c0 r=>
   obtain⟨h1,h2,_⟩:=ch;rw[Hy] at h2;refine absurd h2.2 ?_;obtain⟨j,rfl⟩:=mP h1
   have:=hp q (by simp) j (by rw[← e,hJ];exact h2.1)
   rwa [← e,hJ] at this
 |q'::qs,q,a,cuts,f,e,ch,hf,hp=>by
  have e:T.drop a=q++[c,d]++jl [c,d] (q'::qs):=e;have g:∀j,T[a+j]? = (q++[c,d]++jl [c,d] (q'::qs))[j]?:=λj=>by rw[← e,hJ]
  have p0:At (tx T) (tx [c,d]) (tx T).length (a+q.length):=by
   rw[Hy,kR,g,g]
   simp
  cases cuts with
  |nil=>
   have:f=a:=ch
   exact absurd p0<|hf _<|by omega
  |cons c0 r=>
   obtain⟨h1,h2,h3,h4⟩:=ch;have ec:c0=a+q.length:=by
    by_cases z:c0=a+q.length
    ·exact z
    ·exfalso;by_cases w:a+q.length<c0
     ·exact h3 _ (by omega) w p0
     ·rw[Hy] at h2;obtain⟨j,rfl⟩:=mP h1;have hj:j<q.length:=by omega
      rw[kR,g,g] at h2;rw[gE,b6 hj] at h2;by_cases y:j+1<q.length
      ·rw[b6 y] at h2;exact hp q (by simp) j h2.1 h2.2
      ·have:j+1=q.length:=by omega
       rw[this,cE<|aE _] at h2;simp at h2;exact hd h2.2.symm
   subst ec;have e2:T.drop (a+q.length+2)=jl [c,d] (q'::qs):=by
    rw[kR,← xb,e,gE,← xb,List.drop_left];rfl
   have ih:=xF hd qs q' (a+q.length+2) r f e2 h4 hf λp h=>hp p<|be _ h;show hU (tx T) a (a+q.length)::partsFrom (tx T) 2 (a+q.length+2) r=_;rw[ih,bo (l:=q'::qs)];congr 1;refine tV ?_;rw[kQ,dY,e]
   simp
theorem G7 {c d:Nat}(hd:d≠c)(h1:c<128)(h2:d<128){qs:List (List Nat)}(h0:qs≠[])(hp:∀p∈qs,Np c d p):lj (tx<|jl [c,d] qs) (tx [c,d])=qs.map tx:=by
 obtain⟨q,r,rfl⟩:=List.exists_cons_of_ne_nil h0;obtain⟨f,ch,hf⟩:=occ_tight (tx<|jl [c,d] (q::r)) (tx [c,d]) (by rw[bK];simp)
 have:=xF hd r q 0 _ f (by rw[List.drop_zero]) ch hf hp
 unfold lj;have k:=kind_le (l:=jl [c,d] (q::r)) h1 h2;split
 ·rename_i hs;rw[Bool.or_eq_true] at hs;rcases hs.symm with hs|hs
  ·exact absurd (by simpa using hs) k
  ·have hs:(tx<|jl [c,d] (q::r)).length<(tx [c,d]).length:=by simpa using hs
   rw[bK,bK] at hs;cases r with
   |nil=>rfl
   |cons q' r=>simp[jl] at hs;omega
 ·split
  ·rename_i ho;rw[List.isEmpty_iff.mp ho] at this;rw[← this];show[_]=[hU _ 0 _];rw[sub_whole]
  ·rw[StrLaws.partsBetween_eq];exact this
end F
namespace K71
open PySem PySem.NumText L2 Hd F Pk
open L2 (atI ixN Key)
abbrev RdY (p:List Nat)(q:Int×Int):Prop:=fH [.str<|tx p]=.ok (false,qD q)
abbrev RdN (p:List Nat):Prop:=fH [.str<|tx p]=.exc nT
theorem rF {t b:Int}{p:List Nat}(e:sh t b=p)(ht:t.natAbs<10^30)(hb:b.natAbs<10^30)(h1:1<=b)(hg:gI t b=1):RdY p (t,b):=e▸TV ht hb h1 hg
theorem Ot:RdY [49,47,50] (1,2):=rF (by decide +kernel) (by decide) (by decide) (by decide)<|by decide
theorem Wt:RdY [49,47,51] (1,3):=rF (by decide +kernel) (by decide) (by decide) (by decide)<|by decide
theorem Zx:RdY [50,47,51] (2,3):=rF (by decide +kernel) (by decide) (by decide) (by decide)<|by decide
theorem aai:RdY [49,47,52] (1,4):=rF (by decide +kernel) (by decide) (by decide) (by decide)<|by decide
theorem aa9:RdY [51,47,50] (3,2):=rF (by decide +kernel) (by decide) (by decide) (by decide)<|by decide
theorem abw:RdY [45,49,47,50] (-1,2):=rF (by decide +kernel) (by decide) (by decide) (by decide)<|by decide
theorem rd1:RdY [49] (1,1):=rF (by decide +kernel) (by decide) (by decide) (by decide)<|by decide
theorem VN {l:List Nat}(hl:l.length<=200){x:Str×Str×Str}(e:dQ (tx l) ⟨#[47]⟩=x):iT (.str<|tx l) [.str<|af "/"]=some (.tup [.str x.1,.str x.2.1,.str x.2.2]):=by
 show(if _ then some (D.tup [.str (dQ (tx l)<|af "/").1,.str (dQ (tx l)<|af "/").2.1,.str (dQ (tx l)<|af "/").2.2]) else none)=_;rw[if_pos ⟨by rw[szl,bK];omega,by rw[gV];rfl⟩,gV,e]
theorem Jm {a:List Nat}(h:a.head?≠some 45):(if fA (tx a) (af "-")=true then ka (tx a) (some 1) none else tx a)=tx a:=by
 rw[Ke,yd,if_neg<|by simpa using h]
theorem V4 {l:List Nat}(hl:l.length<=200)(hc:∀c∈l,c<128)(h:47∉l)(hm:l.head?≠some 45)(hf:okB fks 30 l=false):RdN l:=by
 refine K5 (a:=l) (bs:=l) (b:=[49]) (p2:=tx []) (p3:=tx []) (ti:=0) (bi:=0) (r:=.non) (w:=tx []) hl hc hl (by decide) hl (VN hl<|Ir h) ?_ (Jm hm) λz=>absurd (z.symm.trans hf) (by decide);rw[if_neg (by rw[gV,show(⟨#[47]⟩:Str)=tx [47] from rfl,gZ];decide),Nf]
theorem Qk {a b:List Nat}(hl:(a++47::b).length<=200)(hc:∀c∈a++47::b,c<128)(h:47∉a)(hm:a.head?≠some 45){ti bi:Int}{r:D}{w:Str}
  (i:okB fks 30 a=true->okB fks 30 b=true->pW [.str<|tx b]=some (.int bi)/\bi≠0/\pW [.str<|tx a]=some (.int ti)/\fO [.int ti,.int bi]=.ok (false,r)/\dw [r]=.ok (false,.str w)/\w≠tx (a++47::b)):RdN (a++47::b):=by
 have hl':a.length<=200/\b.length<=200:=by simp at hl;omega
 exact K5 (p2:=⟨#[47]⟩) (p3:=tx b) hl hc hl'.1 hl'.2 hl'.1 (VN hl<|JH h) (by rw[if_pos gV.symm]) (Jm hm) i
theorem YL:RdN []:=V4 (by decide) (by decide) (by decide) (by decide)<|by decide
theorem abg:RdN (aT 31 49):=V4 (by decide) (by decide) (by decide) (by decide)<|by decide
theorem aa6:RdN [49,47,51,44,50,47,51]:=Qk (a:=[49]) (b:=[51,44,50,47,51]) (ti:=0) (bi:=0) (r:=.non) (w:=tx []) (by decide) (by decide) (by decide) (by decide) λ_ z=>absurd z<|by decide
theorem aa0:RdN [50,47,52]:=by
 refine Qk (a:=[50]) (b:=[52]) (ti:=2) (bi:=4) (r:=qD (1,2)) (w:=tx [49,47,50]) (by decide) (by decide) (by decide) (by decide) λ_ _=>⟨?_,by decide,?_,?_,?_,?_⟩
 ·have:=uM (i:=4) (by decide)
  rwa [show sg 4=[52] by decide +kernel] at this
 ·have:=uM (i:=2) (by decide)
  rwa [show sg 2=[50] by decide +kernel] at this
 ·rw[pI (by decide)<|Px (k:=100)<|by decide];rfl
 ·have:=CT (t:=1) (b:=2) (by decide) (by decide) (by decide)
  rwa [show sh 1 2=[49,47,50] by decide +kernel] at this
 ·rw[ne_eq,gZ];decide
theorem aba {n:List Nat}(h:Nam n):RdN ([49]++47::50::59::n):=by
 have h2:=h.hi;refine Qk (a:=[49]) (b:=50::59::n) (ti:=0) (bi:=0) (r:=.non) (w:=tx []) (by simp;omega) (λc hc=>?_) (by decide) (by decide) λ_ z=>?_
 ·simp at hc;rcases hc with rfl|rfl|rfl|rfl|hc
  ·decide
  ·decide
  ·decide
  ·decide
  ·have:=h.sg c hc;omega
 ·exfalso
  have:inB fks 59=false:=by decide
  simp[okB,this] at z
theorem lu {h:Zba}{fe:Zae}{m0:Me}{rest:List D}:∀{ds ys:List D},eP (λd y=>∃m1,h d m0=some m1/\fe m1=.ok y) ds ys->cW h fY fe m0 (ds++rest)=match cW h fY fe m0 rest with
  | .ok zs=>.ok<|ys++zs
  | .exc c=>.exc c
  | .stuck=>.stuck
 |_,_,.nil=>by
  show cW h fY fe m0 rest=_;cases cW h fY fe m0 rest<;>rfl
 |_,_,.cons ⟨m1,e1,e2⟩ p=>by
  have ih:=lu (rest:=rest) p;generalize cW h fY fe m0 rest=R at ih ⊢;rw[List.cons_append];unfold cW;simp only[e1,fY,e2,ih];cases R<;>rfl
theorem Zd {p:List Nat}{q:Int×Int}(h:RdY p q):∃m1,hName 0 (.str<|tx p) [.un]=some m1/\cI m1=.ok (qD q):=⟨[.fz<|.str<|tx p],rfl,by simp[cI,fFn,aj,au,aC,h]⟩
theorem YW {ps:List (List Nat)}{qs:List (Int×Int)}(h:eP RdY ps qs):cW (hName 0) fY cI [.un] (ps.map λp=>.str<|tx p)=.ok (qs.map qD):=by
 have:eP (λd y=>∃m1,hName 0 d [.un]=some m1/\cI m1=.ok y) (ps.map λp=>.str<|tx p) (qs.map qD):=by
  induction h with
  |nil=>exact .nil
  |cons a _ ih=>exact .cons (Zd a) ih
 have:=lu (rest:=[]) this
 rw[cw] at this;rw[this];simp[cW]
theorem Zc {ps rs:List (List Nat)}{p:List Nat}{qs:List (Int×Int)}(h:eP RdY ps qs)(hn:RdN p):cW (hName 0) fY cI [.un] ((ps++p::rs).map λp=>.str<|tx p)=.exc nT:=by
 have z:eP (λd y=>∃m1,hName 0 d [.un]=some m1/\cI m1=.ok y) (ps.map λp=>.str<|tx p) (qs.map qD):=by
  induction h with
  |nil=>exact .nil
  |cons a _ ih=>exact .cons (Zd a) ih
 have e:cW (hName 0) fY cI [.un] (.str (tx p)::rs.map λp=>.str<|tx p)=.exc nT:=by
  have e1:hName 0 (.str<|tx p) [.un]=some [.fz<|.str<|tx p]:=rfl;have e2:cI [.fz<|.str<|tx p]=.exc nT:=by simp[cI,fFn,aj,au,aC,hn]
  unfold cW;simp only[e1,fY,e2]
 rw[eM,bo,lu z,e]
theorem abG {a:D}{l:List D}:cut (a::l) (some 1) none=l:=by
 unfold cut;simp[HT.sIx]
theorem Zo {z a:D}{l:List D}:fSl (ak 1) (fO1<|fC<|.int 1) fO0 [.fz z,.fz<|.lst (a::l)]=.ok (.lst l):=by
 simp[fSl,ak,fO1,fC,fO0,gSl,abG]
theorem Z5 {z a:D}{l ys:List D}(hl:l.length<=100)(c:cW (hName 0) fY cI [.un] l=.ok ys):jm [.fz z,.fz<|.lst (a::l)]=.ok (.lst ys):=by
 have hz:l.length<=16777216:=by omega
 simp[jm,mL,kY,Zo,cMe,hz,c]
theorem Wq {z a:D}{l:List D}(hl:l.length<=100)(c:cW (hName 0) fY cI [.un] l=.exc nT):jm [.fz z,.fz<|.lst (a::l)]=.exc nT:=by
 have hz:l.length<=16777216:=by omega
 simp[jm,mL,kY,Zo,cMe,hz,c]
theorem XM {a:D}{l:List D}:gIx (.lst (a::l)) (.int 0)=some a:=by
 show atI (a::l) 0=_;unfold atI ixN
 simp
theorem Vk {φ:Zac}{Q:Zae}{z n:Str}{l rs:List D}(sp:nD (.str z) [.str<|af " "]=some (.lst (.str n::l)))(hl:l≠[])(h:φ [.str n]=.ok (false,.bl true))(q:Q [.fz<|.str z,.fz<|.lst (.str n::l)]=.ok (.lst rs)):
  aW 2 1 (gB φ Q) [.str z]=.ok (false,.tup [.str n,.tup rs]):=by
 have x0:gIx (.lst (.str n::l)) (.int 0)=some (.str n):=XM;have ln:cZ [.lst (.str n::l)]=some (.int (l.length+1:Nat)):=rfl;have ne:¬((l.length:Int)+1=1):=by
  have:l.length≠0:=λz=>hl<|tf.mp z
  omega
 have gt:oO [.lst rs]=some (.tup rs):=rfl;simp[aW,gB,aP,aX,jk,tyD,fC,aj,au,ak,sp,gIf,jr,cC,fTv,fFn,aA,x0,h,aY,aV,ln,ne,gNx,bC,Me.let,Sl.let,aL,q,gt]
theorem TX {φ:Zac}{Q:Zae}{z n:Str}{l:List D}(sp:nD (.str z) [.str<|af " "]=some (.lst (.str n::l)))(hl:l≠[])(h:φ [.str n]=.ok (false,.bl true))(q:Q [.fz<|.str z,.fz<|.lst (.str n::l)]=.exc nT):
  aW 2 1 (gB φ Q) [.str z]=.exc nT:=by
 have x0:gIx (.lst (.str n::l)) (.int 0)=some (.str n):=XM;have ln:cZ [.lst (.str n::l)]=some (.int (l.length+1:Nat)):=rfl;have ne:¬((l.length:Int)+1=1):=by
  have:l.length≠0:=λz=>hl<|tf.mp z
  omega
 simp[aW,gB,aP,aX,jk,tyD,fC,aj,au,ak,sp,gIf,jr,cC,fTv,fFn,aA,x0,h,aY,aV,ln,ne,gNx,bC,Me.let,Sl.let,aL,q]
theorem TJ {φ:Zac}{Q:Zae}{z n:Str}{l:List D}(sp:nD (.str z) [.str<|af " "]=some (.lst (.str n::l)))(h:φ [.str n]=.ok (false,.bl false))
  (m0:(og z).length<=16777216) (m1:(iS++og z).length<=16777216) (m2:(iS++og z++af " is no name with fractions").length<=16777216):aW 2 1 (gB φ Q) [.str z]=.exc nT:=by
 have x0:gIx (.lst (.str n::l)) (.int 0)=some (.str n):=XM;simp[aW,gB,aP,aX,jk,tyD,fC,aj,au,ak,sp,gIf,jr,cC,fTv,fFn,aA,x0,h,g8,fM,gw,ik,sW,fUn,uw,m0,m1,m2]
theorem Sd:af " " = tx [32]:=by decide +kernel
theorem Xo:af "; " = tx [59,32]:=by decide +kernel
theorem Cd {ps:List (List Nat)}(h0:ps≠[])(hp:∀p∈ps,32∉p)(hl:(jl [32] ps).length<=200):nD (.str<|tx<|jl [32] ps) [.str<|af " "]=some (.lst<|ps.map λp=>.str<|tx p):=by
 rw[Sd];show(if(tx<|jl [32] ps).length+2<=ai/\((tx [32]).length==0)=false then some (D.lst<|(lj (tx<|jl [32] ps)<|tx [32]).map D.str) else none)=_;have zl:ai=16777216:=rfl;rw[if_pos ⟨by rw[bK];omega,by rw[bK];rfl⟩,Ov h0 hp,ml];rfl
theorem ZC {n:List Nat}{ps:List (List Nat)}{qs:List (Int×Int)}(hn:Nam n)(h:eP RdY ps qs)(h0:ps≠[])(hp:∀p∈ps,32∉p)(hl:(jl [32] (n::ps)).length<=200)(h1:ps.length<=100):gD [.str<|tx<|jl [32] (n::ps)]=.ok (false,.tup [.str<|tx n,.tup<|qs.map qD]):=by
 refine Vk (l:=ps.map λp=>.str<|tx p) (Cd (by simp) (λp hm=>?_) hl) (by simpa using h0) (DR hn) ?_
 ·rcases bP.mp hm with rfl|hm
  ·exact hn.no<|.inl rfl
  ·exact hp p hm
 ·exact Z5 (by simpa using h1) (YW h)
theorem V5 {n p:List Nat}{ps rs:List (List Nat)}{qs:List (Int×Int)}(hn:Nam n)(h:eP RdY ps qs)(hr:RdN p)(hp:∀x∈ps++p::rs,32∉x)(hl:(jl [32] (n::(ps++p::rs))).length<=200)(h1:(ps++p::rs).length<=100):gD [.str<|tx<|jl [32] (n::(ps++p::rs))]=.exc nT:=by
 refine TX (l:=(ps++p::rs).map λp=>.str<|tx p) (Cd (by simp) (λp hm=>?_) hl) (by simp) (DR hn) ?_
 ·rcases bP.mp hm with rfl|hm
  ·exact hn.no<|.inl rfl
  ·exact hp _ hm
 ·exact Wq (by simpa using h1) (Zc h hr)
theorem We {n:List Nat}{ps:List (List Nat)}(hn:okB nks 8 n=false)(h32:32∉n)(hp:∀p∈ps,32∉p)(hl:(jl [32] (n::ps)).length<=200)(hnl:n.length<=200)(hc:∀c∈jl [32] (n::ps),c<128):gD [.str<|tx<|jl [32] (n::ps)]=.exc nT:=by
 have m0:=JM hl hc;have e0:iS.length=0:=rfl;have e1:(af " is no name with fractions").length=26:=by decide +kernel
 refine TJ (l:=ps.map λp=>.str<|tx p) (Cd (by simp) (λp hm=>?_) hl) ?_ (by omega) (by rw[lO];omega) (by rw[lO,lO];omega)
 ·rcases bP.mp hm with rfl|hm
  ·exact h32
  ·exact hp p hm
 ·rw[Fe (by omega),hn]
open L2 (atI ixN Key)
theorem Vq (t b:Int):dX [qD (t,b)]=.ok (false,.bl<|decide (1<=b)&&decide (gI t b=1)):=by
 have x0:∀a b:D,atI [a,b] 0=some a:=λ_ _=>rfl;have x1:∀a b:D,atI [a,b] 1=some b:=λ_ _=>rfl;have w:∀i:Int,lF [.int i]=.ok (false,.bl true):=λ_=>rfl;have e:=eQ t b;have l2:cZ [.tup [.int t,.int b]]=some (.int 2):=rfl;have it:gY "tuple" (ak 0) [.fz<|.tup [.int t,.int b]]=.ok (.bl true):=rfl;unfold qD;by_cases h:1<=b
 ·simp[dX,aW,lC,lG,aP,gIf,jr,cC,fTv,it,aY,aV,aj,au,ak,l2,fC,gNe,gNx,fFn,aA,gIx,x0,x1,w,bC,Me.let,Sl.let,m6,lM,gGe,h,e]
 ·simp[dX,aW,lC,lG,aP,gIf,jr,cC,fTv,it,aY,aV,aj,au,ak,l2,fC,gNe,gNx,fFn,aA,gIx,x0,x1,w,bC,Me.let,Sl.let,m6,lM,gGe,h]
theorem JX (i:Int):dX [.int i]=.ok (false,.bl false):=rfl
theorem Vd (i:D):dX [.tup [.bl true,i]]=.ok (false,.bl false):=rfl
theorem JG {d:D}(h:dX [d]=.ok (false,.bl false)):bN [.fz d]=.ok (.bl false):=by
 simp[bN,m6,fFn,aj,au,aC,h,fTv]
theorem MF {x:Rat}(h:Sz 10 x):bN [.fz<|rD x]=.ok (.bl<|!decide (x.num<0)):=by
 have eu:=La h Jf (by decide);have e0:rD 0=.tup [.int 0,.int 1]:=rfl;have q:(x.num*(0:Rat).den<(0:Rat).num*x.den)↔x.num<0:=by
  show x.num*1<0*(x.den:Int)↔_;omega
 have q':decide (x.num*(0:Rat).den<(0:Rat).num*x.den)=decide (x.num<0):=decide_eq_decide.mpr q;rw[e0,q'] at eu;have er:=GX (x:=x);simp[bN,m6,Uy,fFn,aj,au,fC,aC,eu,er,fTv]
theorem KN {d:D}(h:gY "tuple" (ak 0) [.fz d,.fz<|.int 2]=.ok (.bl false)):bz [d,.int 2]=.ok (false,.bl false):=by
 simp[bz,gk,cz,aW,aP,gIf,jr,cC,fTv,h,bC,Me.let,Sl.let,fC]
theorem PJ {ws:List D}(h:ws.length≠2):bz [.tup ws,.int 2]=.ok (false,.bl false):=by
 have it:gY "tuple" (ak 0) [.fz<|.tup ws,.fz<|.int 2]=.ok (.bl true):=rfl;have ln:cZ [.tup ws]=some (.int ws.length):=rfl;have ne:¬((ws.length:Int)=2):=by omega
 simp[bz,gk,cz,aW,aP,gIf,jr,cC,fTv,it,aY,aV,aj,au,ak,ln,gNe,ne,bC,Me.let,Sl.let,fC]
theorem aav {a b:D}{x y:Bool}(ha:bN [.fz a]=.ok (.bl x))(hb:bN [.fz b]=.ok (.bl y)):eO [.fz<|.tup [a,b],.fz<|.int 2]=.ok (.lst [.bl x,.bl y]):=by
 have h1:∀d:D,hName 0 d [.un]=some [.fz d]:=λ_=>rfl;simp[eO,gW,CK,aC,cMe,ig,h1,fY,ha,hb]
theorem K3 {a b:D}{x y:Bool}(ha:bN [.fz a]=.ok (.bl x))(hb:bN [.fz b]=.ok (.bl y))(h:(x&&y)=false):bz [.tup [a,b],.int 2]=.ok (false,.bl false):=by
 have q:=aav ha hb;have it:gY "tuple" (ak 0) [.fz<|.tup [a,b],.fz<|.int 2]=.ok (.bl true):=rfl;have ln:cZ [.tup [a,b]]=some (.int 2):=rfl;have ea:xQ [.lst [.bl x,.bl y]]=some (.bl false):=by cases x<;>cases y<;>first|rfl|cases h
 have run:∀Q:Zae,Q [.fz<|.tup [a,b],.fz<|.int 2]=.ok (.lst [.bl x,.bl y])->aW 2 2 (cz nZ Q) [.tup [a,b],.int 2]=.ok (false,.bl false):=λQ q=>by
  simp[cz,aW,aP,gIf,jr,cC,fTv,it,aY,aV,aj,au,ak,ln,gNe,gNx,q,ea,bC,Me.let,Sl.let,fC]
 exact run _ q
theorem HJ {x y:Rat}(hx:Sz 10 x)(hy:Sz 10 y)(px:¬x.num<0)(py:¬y.num<0):bz [.tup [rD x,rD y],.int 2]=.ok (false,.bl<|decide<|x+y=1):=by
 have q:=aav (MF hx)<|MF hy;rw[decide_eq_false px,decide_eq_false py] at q;have q:eO [.fz<|.tup [rD x,rD y],.fz<|.int 2]=.ok (.lst [.bl true,.bl true]):=q;have et:=Ly (l:=[x,y]) (k:=10) (λz hz=>by simp at hz;rcases hz with rfl|rfl<;>assumption) (by simp) (by decide);have es:[x,y].sum=x+y:=by simp[Rat.add_zero]
 rw[es] at et;have it:∀a b:D,gY "tuple" (ak 0) [.fz<|.tup [a,b],.fz<|.int 2]=.ok (.bl true):=λ_ _=>rfl;have ln:∀a b:D,cZ [.tup [a,b]]=some (.int 2):=λ_ _=>rfl;have gl:∀a b:D,Q9 [.tup [a,b]]=some (.lst [a,b]):=λ_ _=>rfl;have ea:xQ [.lst [.bl true,.bl true]]=some (.bl true):=rfl;have e1:rD 1=.tup [.int 1,.int 1]:=rfl;have eg:gEq (rD<|x+y) (.tup [.int 1,.int 1])=some (decide<|x+y=1):=by rw[← e1,Y7]
 have et:nZ [.lst [rD x,rD y]]=.ok (false,rD<|x+y):=et;have run:∀(Q:Zae) (a b s:D) (T:Zac),Q [.fz<|.tup [a,b],.fz<|.int 2]=.ok (.lst [.bl true,.bl true])->T [.lst [a,b]]=.ok (false,s)->gEq s (.tup [.int 1,.int 1])=some (decide<|x+y=1)->aW 2 2 (cz T Q) [.tup [a,b],.int 2]=.ok (false,.bl<|decide<|x+y=1):=λQ a b s T q et eg=>by
  generalize decide (x+y=1)=c at *;simp[cz,aW,aP,gIf,jr,cC,fTv,it,aY,aV,aj,au,ak,ln,gNe,gNx,q,ea,bC,Me.let,Sl.let,lM,fFn,gl,et,fC,eg]
 exact run _ _ _ _ _ q et eg
abbrev FsY (d:D):Prop:=bz [d,.int 2]=.ok (false,.bl true)
abbrev FsN (d:D):Prop:=bz [d,.int 2]=.ok (false,.bl false)
abbrev q12:Rat:=⟨1,2,by decide,by decide⟩
abbrev q13:Rat:=⟨1,3,by decide,by decide⟩
abbrev q23:Rat:=⟨2,3,by decide,by decide⟩
abbrev q32:Rat:=⟨3,2,by decide,by decide⟩
abbrev qm2:Rat:=⟨-1,2,by decide,by decide⟩
theorem qY {x:Rat}(h:x.num.natAbs<1024/\x.den<1024):Sz 10 x:=h
theorem Sv:FsY (.tup [qD (1,2),qD (1,2)]):=by
 have:=HJ (x:=q12) (y:=q12) (qY<|by decide) (qY<|by decide) (by decide)<|by decide
 rwa [decide_eq_true<|show q12+q12=1 by decide +kernel] at this
theorem Zg:FsY (.tup [qD (1,3),qD (2,3)]):=by
 have:=HJ (x:=q13) (y:=q23) (qY<|by decide) (qY<|by decide) (by decide)<|by decide
 rwa [decide_eq_true<|show q13+q23=1 by decide +kernel] at this
theorem ZX:FsN (.tup [qD (1,2),qD (1,3)]):=by
 have:=HJ (x:=q12) (y:=q13) (qY<|by decide) (qY<|by decide) (by decide)<|by decide
 rwa [decide_eq_false<|show ¬q12+q13=1 by decide +kernel] at this
theorem aac:FsN (.tup [qD (3,2),qD (-1,2)]):=K3 (MF (x:=q32)<|qY<|by decide) (MF (x:=qm2)<|qY<|by decide) rfl
theorem abh:FsN (.tup [qD (2,4),qD (1,2)]):=K3 (JG (by rw[Vq];rfl)) (MF (x:=q12)<|qY<|by decide) rfl
theorem abA:FsN (.tup [.int 1,.int 0]):=K3 (JG<|JX 1) (JG<|JX 0) rfl
theorem abr:FsN (.tup [.tup [.bl true,.int 1],.tup [.int 0,.int 1]]):=K3 (JG<|Vd _) (MF (x:=0)<|qY<|by decide) rfl
theorem Zw:FsN (.tup [qD (1,1)]):=PJ<|by decide
theorem aaR {a b c:D}:FsN (.tup [a,b,c]):=PJ<|by simp
theorem abi:FsN .non:=KN rfl
theorem abp {l:List D}:FsN (.lst l):=KN rfl
structure G2 (g:D)(s:Int)(n0 n1:List Nat):Prop where
 rows:∃a0 u0 v0 r0 a1 u1 v1 r1,fU [g,.int s]=.ok (true,.lst [.tup [a0,.str (tx n0),.tup [u0,v0],r0],.tup [a1,.str (tx n1),.tup [u1,v1],r1]])
 sd:s=1\/s=2
def Fnd (ks:List Key)(ds:List D)(n:List Nat)(b:Bool):Prop:=(∃d,qW ks ds (.inr<|tx n)=some d/\bz [d,.int 2]=.ok (false,.bl b))\/(qW ks ds (.inr<|tx n)=none/\b=false)
theorem V2 {ks:List Key}{ds:List D}{n:List Nat}{b:Bool}{a u v r:D}(h:Fnd ks ds n b):iC [.fz<|.tup [a,.str<|tx n,.tup [u,v],r],.fz<|.dct ks ds]=.ok (.bl b):=by
 have x1:∀a b c d:D,atI [a,b,c,d] 1=some b:=λ_ _ _ _=>rfl;have x2:∀a b c d:D,atI [a,b,c,d] 2=some c:=λ_ _ _ _=>rfl;have ln:cZ [.tup [u,v]]=some (.int 2):=rfl;rcases h with⟨d,h1,h2⟩|⟨h1,rfl⟩
 ·have gi:HF (.str<|tx n) (.dct ks ds)=some true:=by simp[HF,nR,h1]
  have gg:Eg (.dct ks ds) (.str<|tx n)=some d:=by simp[Eg,nR,h1]
  simp[iC,m6,lM,aA,ak,fC,gIx,x1,x2,gi,gg,fFn,aj,au,aV,ln,h2,fTv]
 ·have gi:HF (.str<|tx n) (.dct ks ds)=some false:=by simp[HF,nR,h1]
  simp[iC,m6,lM,aA,ak,fC,gIx,x1,gi,fTv]
theorem Qe {ks:List Key}{ds:List D}{n m:List Nat}{b c:Bool}{a u v r a' u' v' r':D}(hk:ks.length=2)(h:Fnd ks ds n b)(h':Fnd ks ds m c):cG [.lst [.tup [a,.str<|tx n,.tup [u,v],r],.tup [a',.str<|tx m,.tup [u',v'],r']],.dct ks ds]=.ok (false,.bl<|b&&c):=by
 have e1:=V2 (a:=a) (u:=u) (v:=v) (r:=r) h;have e2:=V2 (a:=a') (u:=u') (v:=v') (r:=r') h';have h1:∀d e:D,hName 0 d [.un,.fz e]=some [.fz d,.fz e]:=λ_ _=>rfl;generalize hp:D.tup [a,.str<|tx n,.tup [u,v],r]=R1 at *;generalize hp2:D.tup [a',.str<|tx m,.tup [u',v'],r']=R2 at *;have q:jY [.fz<|.lst [R1,R2],.fz<|.dct ks ds]=.ok (.lst [.bl b,.bl c]):=by
  simp[jY,gW,kY,ak,cMe,Sl.bor,ig,h1,fY,e1,e2]
 have l1:cZ [.dct ks ds]=some (.int 2):=by simp[cZ,hk]
 have l2:cZ [.lst [R1,R2]]=some (.int 2):=rfl;have ea:xQ [.lst [.bl b,.bl c]]=some (.bl<|b&&c):=by cases b<;>cases c<;>rfl
 have it:gY "dict" (ak 1) [.fz<|.lst [R1,R2],.fz<|.dct ks ds]=.ok (.bl true):=rfl;simp[cG,iy,ie,aW,aP,gIf,jr,cC,fTv,it,aY,aV,aj,au,ak,l1,l2,gNe,gNx,q,ea,bC,Me.let,Sl.let]
theorem RN {R:D}{d:D}(h:gY "dict" (ak 1) [.fz R,.fz d]=.ok (.bl false)):cG [R,d]=.ok (false,.bl false):=by
 simp[cG,iy,ie,aW,aP,gIf,jr,cC,fTv,h,bC,Me.let,Sl.let,fC]
theorem XJ {R1 R2:D}{ks:List Key}{ds:List D}(hk:ks.length≠2):cG [.lst [R1,R2],.dct ks ds]=.ok (false,.bl false):=by
 have l1:cZ [.dct ks ds]=some (.int ks.length):=by simp[cZ]
 have l2:cZ [.lst [R1,R2]]=some (.int 2):=rfl;have ne:¬((ks.length:Int)=2):=by omega
 have it:gY "dict" (ak 1) [.fz<|.lst [R1,R2],.fz<|.dct ks ds]=.ok (.bl true):=rfl;simp[cG,iy,ie,aW,aP,gIf,jr,cC,fTv,it,aY,aV,aj,au,ak,l1,l2,gNe,ne,bC,Me.let,Sl.let,fC]
inductive Ef (n0 n1:List Nat):D->Prop where
 |kind {d:D}:(∀R:D,gY "dict" (ak 1) [.fz R,.fz d]=.ok (.bl false))->Ef n0 n1 d
 |len {ks:List Key} {ds:List D}:ks.length≠2->Ef n0 n1 (.dct ks ds)
 |row {ks:List Key} {ds:List D} {b c:Bool}:ks.length=2->Fnd ks ds n0 b->Fnd ks ds n1 c->(b&&c)=false->Ef n0 n1 (.dct ks ds)
section
variable {g:D}{s:Int}{n0 n1:List Nat}
theorem Ut {φ:Zac}{g:D}{s:Int}{d:D}(hs:s=1\/s=2)(h:φ [g,.int s,d]=.ok (false,.bl false)):aW 3 3 (fj φ) [g,.int s,d]=.exc nP:=by
 have m:∀m:Me,ak 1 m=.ok (.int s)->∃z,gw (ik (fC<|.str "this is no plan of side ")<|ik (fUn zf<|ak 1) sW) m=.ok z:=λm hm=>by
  have l1:(iS++af "this is no plan of side ").length<=16777216:=by decide +kernel
  rcases hs with rfl|rfl
  ·have f:zf (.int 1)=some (.str<|af<|toString (1:Int)):=rfl;have l2:(iS++af "this is no plan of side "++af (toString (1:Int))).length<=16777216:=by decide +kernel
   exact⟨_,by simp only[gw,ik,sW,fC,fUn,hm,Res.bind,f,ofO];simp[l1,l2];rfl⟩
  ·have f:zf (.int 2)=some (.str<|af<|toString (2:Int)):=rfl;have l2:(iS++af "this is no plan of side "++af (toString (2:Int))).length<=16777216:=by decide +kernel
   exact⟨_,by simp only[gw,ik,sW,fC,fUn,hm,Res.bind,f,ofO];simp[l1,l2];rfl⟩
 obtain⟨z,e⟩:=m [.fz g,.fz<|.int s,.fz d] rfl;simp[fj,aW,gIf,cC,fTv,fFn,aj,au,aC,h,g8,fM,e]
theorem xZ {d:D}(G:G2 g s n0 n1)(h:Ef n0 n1 d):bO [g,.int s,d]=.exc nP:=by
 obtain⟨a0,u0,v0,r0,a1,u1,v1,r1,e⟩:=G.rows;refine Ut G.sd ?_;have run:∀R:D,fU [g,.int s]=.ok (true,R)->cG [R,d]=.ok (false,.bl false)->jF [g,.int s,d]=.ok (false,.bl false):=λR e1 e2=>by
  simp[jF,qP,qH,aW,bC,Me.let,Sl.let,fFn,aj,au,aC,e1,e2]
 refine run _ e ?_;cases h with
 |kind h=>exact RN (h _)
 |len h=>exact XJ h
 |row hk h h' hb=>rw[Qe hk h h',hb]
theorem S6 {ks:List Key}{ds:List D}(G:G2 g s n0 n1)(hk:ks.length=2)(h:Fnd ks ds n0 true)(h':Fnd ks ds n1 true):bO [g,.int s,.dct ks ds]=.ok (false,.non):=by
 obtain⟨a0,u0,v0,r0,a1,u1,v1,r1,e⟩:=G.rows;have e2:=Qe (a:=a0) (u:=u0) (v:=v0) (r:=r0) (a':=a1) (u':=u1) (v':=v1) (r':=r1) hk h h';have run:∀R:D,fU [g,.int s]=.ok (true,R)->cG [R,.dct ks ds]=.ok (false,.bl<|true&&true)->jF [g,.int s,.dct ks ds]=.ok (false,.bl true):=λR e1 e2=>by
  simp[jF,qP,qH,aW,bC,Me.let,Sl.let,fFn,aj,au,aC,e1,e2]
 have e3:=run _ e e2;simp[bO,jy,fj,aW,gIf,cC,fTv,fFn,aj,au,aC,e3,gNx]
end
open L2 (atI ixN Key)
abbrev RwY (r:List Nat)(d:D):Prop:=gD [.str<|tx r]=.ok (false,d)
abbrev RwN (r:List Nat):Prop:=gD [.str<|tx r]=.exc nT
theorem rw_y {p:List Nat}{d:D}(h:RwY p d):∃m1,hName 0 (.str<|tx p) [.un]=some m1/\dB m1=.ok d:=⟨[.fz<|.str<|tx p],rfl,by simp[dB,fFn,aj,au,aC,h]⟩
theorem rw_pr {ps:List (List Nat)}{ds:List D}(h:eP RwY ps ds):eP (λd y=>∃m1,hName 0 d [.un]=some m1/\dB m1=.ok y) (ps.map λp=>.str<|tx p) ds:=by
 induction h with
 |nil=>exact .nil
 |cons a _ ih=>exact .cons (rw_y a) ih
theorem YQ {ps:List (List Nat)}{ds:List D}(h:eP RwY ps ds):cW (hName 0) fY dB [.un] (ps.map λp=>.str<|tx p)=.ok ds:=by
 have:=lu (rest:=[])<|rw_pr h
 rw[cw] at this;rw[this];simp[cW]
theorem aaC {ps rs:List (List Nat)}{p:List Nat}{ds:List D}(h:eP RwY ps ds)(hn:RwN p):cW (hName 0) fY dB [.un] ((ps++p::rs).map λp=>.str<|tx p)=.exc nT:=by
 have e:cW (hName 0) fY dB [.un] (.str (tx p)::rs.map λp=>.str<|tx p)=.exc nT:=by
  have e1:hName 0 (.str<|tx p) [.un]=some [.fz<|.str<|tx p]:=rfl;have e2:dB [.fz<|.str<|tx p]=.exc nT:=by simp[dB,fFn,aj,au,aC,hn]
  unfold cW;simp only[e1,fY,e2]
 rw[eM,bo,lu<|rw_pr h,e]
theorem Pa {Q:Zae}{z:Str}{l:D}(hz:¬z=af "")(q:Q [.fz<|.str z]=.ok l):aW 1 1 (gF Q) [.str z]=.ok (false,l):=by
 simp[aW,gF,bC,Me.let,Sl.let,fIf,aY,ak,fC,gEq,hz,q]
theorem Mx {Q:Zae}{z:Str}(hz:¬z=af "")(q:Q [.fz<|.str z]=.exc nT):aW 1 1 (gF Q) [.str z]=.exc nT:=by
 simp[aW,gF,bC,Me.let,Sl.let,fIf,aY,ak,fC,gEq,hz,q]
theorem Yz:gG [.str<|af ""]=.ok (false,.lst []):=by
 simp[gG,qi,aW,gF,bC,Me.let,Sl.let,fIf,aY,ak,fC,gEq,bI,au]
theorem Jp {ps:List (List Nat)}(h0:ps≠[])(hp:∀p∈ps,Np 59 32 p)(hl:(jl [59,32] ps).length<=1000):nD (.str<|tx<|jl [59,32] ps) [.str<|af "; "]=some (.lst<|ps.map λp=>.str<|tx p):=by
 rw[Xo];show(if(tx<|jl [59,32] ps).length+2<=ai/\((tx [59,32]).length==0)=false then some (D.lst<|(lj (tx<|jl [59,32] ps)<|tx [59,32]).map D.str) else none)=_;have zl:ai=16777216:=rfl;rw[if_pos ⟨by rw[bK];omega,by rw[bK];rfl⟩,G7 (by decide) (by decide) (by decide) h0 hp,ml];rfl
structure RsT (ps:List (List Nat)):Prop where
 ne:ps≠[]
 np:∀p∈ps,Np 59 32 p
 ln:(jl [59,32] ps).length<=1000
 nn:jl [59,32] ps≠[]
 ct:ps.length<=100
theorem wG {ps:List (List Nat)}{ds:List D}(T:RsT ps)(h:eP RwY ps ds):gG [.str<|tx<|jl [59,32] ps]=.ok (false,.lst ds):=by
 refine Pa (λz=>T.nn<|gZ.mp<|z.trans Dj) ?_;have sp:=Jp T.ne T.np T.ln;have c:=YQ h;have hz:ps.length<=16777216:=by have:=T.ct;omega
 simp[mD,mL,kY,jk,tyD,fC,aj,au,ak,sp,cMe,c,hz]
theorem HD {ps rs:List (List Nat)}{p:List Nat}{ds:List D}(T:RsT (ps++p::rs))(h:eP RwY ps ds)(hn:RwN p):gG [.str<|tx<|jl [59,32] (ps++p::rs)]=.exc nT:=by
 refine Mx (λz=>T.nn<|gZ.mp<|z.trans Dj) ?_;have sp:=Jp T.ne T.np T.ln;have c:=aaC (rs:=rs) h hn;have hz:(ps++p::rs).length<=16777216:=by have:=T.ct;omega
 generalize ps++p::rs=L at *;simp[mD,mL,kY,jk,tyD,fC,aj,au,ak,sp,cMe,c,hz]
section
variable {φ ψ:Zac}{g s:D}{z:Str}{l:List D}{ks:List Key}{ds:List D}
theorem abD (r:ψ [.str z]=.ok (false,.lst l))(dl:iJ [.lst l]=some (.dct ks ds))(hk:ks.length=l.length)(h:φ [g,s,.dct ks ds]=.ok (false,.non)):aW 5 3 (cU φ ψ) [g,s,.str z]=.ok (true,.dct ks ds):=by
 have it:gY "str" (ak 2) [.fz g,.fz s,.fz<|.str z,.un,.un]=.ok (.bl true):=rfl;have l1:cZ [.dct ks ds]=some (.int l.length):=by simp[cZ,hk]
 have l2:cZ [.lst l]=some (.int l.length):=rfl;have fl:flat .non=true:=rfl;simp[aW,cU,aP,gIf,cC,fTv,it,gNx,aX,fFn,aj,au,aC,r,dO,aV,ak,dl,aY,l1,l2,gLt,gEx,T7,Sl.bor,h,fl,rA,Me.let,Sl.let]
theorem Vh (r:ψ [.str z]=.ok (false,.lst l))(dl:iJ [.lst l]=some (.dct ks ds))(hk:ks.length=l.length)(h:φ [g,s,.dct ks ds]=.exc nP):aW 5 3 (cU φ ψ) [g,s,.str z]=.exc nP:=by
 have it:gY "str" (ak 2) [.fz g,.fz s,.fz<|.str z,.un,.un]=.ok (.bl true):=rfl;have l1:cZ [.dct ks ds]=some (.int l.length):=by simp[cZ,hk]
 have l2:cZ [.lst l]=some (.int l.length):=rfl;simp[aW,cU,aP,gIf,cC,fTv,it,gNx,aX,fFn,aj,au,aC,r,dO,aV,ak,dl,aY,l1,l2,gLt,gEx,T7,Sl.bor,h]
theorem Xa (r:ψ [.str z]=.ok (false,.lst l))(dl:iJ [.lst l]=some (.dct ks ds))(hk:ks.length<l.length):aW 5 3 (cU φ ψ) [g,s,.str z]=.exc nT:=by
 have it:gY "str" (ak 2) [.fz g,.fz s,.fz<|.str z,.un,.un]=.ok (.bl true):=rfl;have l1:cZ [.dct ks ds]=some (.int ks.length):=by simp[cZ]
 have l2:cZ [.lst l]=some (.int l.length):=rfl;simp[aW,cU,aP,gIf,cC,fTv,it,gNx,aX,fFn,aj,au,aC,r,dO,aV,ak,dl,aY,l1,l2,gLt,hk,g8,fM,fC]
theorem WR (r:ψ [.str z]=.exc nT):aW 5 3 (cU φ ψ) [g,s,.str z]=.exc nT:=by
 have it:gY "str" (ak 2) [.fz g,.fz s,.fz<|.str z,.un,.un]=.ok (.bl true):=rfl;simp[aW,cU,aP,gIf,cC,fTv,it,gNx,aX,fFn,aj,au,aC,r]
theorem abq {d:D}(it:gY "str" (ak 2) [.fz g,.fz s,.fz d,.un,.un]=.ok (.bl false)):aW 5 3 (cU φ ψ) [g,s,d]=.exc nT:=by
 simp[aW,cU,aP,gIf,cC,fTv,it,g8,fM,fC]
theorem ZW {Q:Zae}{c:D}(h:φ [g,s,c]=.exc nP):aW 4 3 (lX φ Q) [g,s,c]=.exc nP:=by
 simp[aW,lX,aP,gEx,fFn,aj,au,aC,h]
end
theorem Wi:dW [.exc "NoText" [] []]=.ok (false,.lst [.str "text",.bl true]):=by rfl
theorem VB:dW [.exc "NoPlan" [] []]=.ok (false,.lst [.str "plan",.bl true]):=by rfl
open L2 (atI ixN Key)
theorem tA {a b:List Nat}(h:a.length+b.length<=1000):aJ (.str<|tx a) (.str<|tx b)=some (.str<|tx<|a++b):=by
 show(if(tx a).length+(tx b).length<=ai then some (D.str<|tx a++tx b) else none)=_;have z:ai=16777216:=rfl;rw[if_pos (by rw[bK,bK];omega),mz]
theorem Gq {N n:Nat}{g:Zab}{ds:List D}{m:Me}{fr:Bool}{d:D}(h1:ds.length=n)(h:g (ds.map Sl.fz++aT (N-n) Sl.un)=.ok (.rt fr d,m)):aW N n g ds=.ok (fr,d):=by
 unfold aW;rw[if_pos h1,h]
theorem lA {a b:List D}(h:a.length+b.length<=1000):aJ (.lst a) (.lst b)=some (.lst<|a++b):=by
 have z:a.length+b.length<=16777216:=by omega
 simp[aJ,z]
theorem bqS {i:Int}(h1:-1000000000000000000000000000000<=i)(h2:i<=1000000000000000000000000000000):Bq i:=by
 have e:(2:Nat)^100=1267650600228229401496703205376:=by decide
 exact Pk.Px (k:=100) (by rw[e];omega)
theorem bgT {i:Int}(h1:-1000000000000000000000000000000<=i)(h2:i<=1000000000000000000000000000000):Bg i:=YK<|bqS h1 h2
theorem o8 {a b:Int}(hb:0<b):ir (.int a) (.int b)=some (.int<|a%b):=by
 have:¬b=0:=by omega
 simp[ir,mdI,this,hb]
theorem Fw {a b:Int}(hb:0<b)(h2:b<=1000000000000):qT (.int a) (.int b)=some (.int<|a/b):=by
 have h3:¬b=0:=by omega
 have h4:=bqS (i:=b) (by omega) (by omega);simp[qT,dvI,hb,h3,h4]
theorem vH {a b:Int}(h1:-1000000000000000000000000000000<=a)(h2:a<=1000000000000000000000000000000)(h3:-1000000000000000000000000000000<=b)(h4:b<=1000000000000000000000000000000):jX (.int a) (.int b)=some (.int<|a*b):=by
 simp[jX,bgT h1 h2,bgT h3 h4]
theorem Jj (a b:Int):aJ (.int a) (.int b)=some (.int<|a+b):=rfl
theorem V0 (a b:Int):yw (.int a) (.int b)=some (.int<|a-b):=rfl
theorem c_0:af "; " = tx [59,32]:=by decide +kernel
theorem c_1:af ";" = tx [59]:=by decide +kernel
theorem c_2:af " " = tx [32]:=by decide +kernel
theorem c_3:af "  1/2 1/2; " = tx [32,32,49,47,50,32,49,47,50,59,32]:=by decide +kernel
theorem c_4:af " 2/4 1/2; " = tx [32,50,47,52,32,49,47,50,59,32]:=by decide +kernel
theorem c_5:af " 1/3,2/3" = tx [32,49,47,51,44,50,47,51]:=by decide +kernel
theorem c_6:af "A" = tx [65]:=by decide +kernel
theorem c_7:af " 1/2 1/2; " = tx [32,49,47,50,32,49,47,50,59,32]:=by decide +kernel
theorem c_8:af " 1" = tx [32,49]:=by decide +kernel
theorem c_9:af "" = tx []:=by decide +kernel
theorem yg:af " 1/3 2/3" = tx [32,49,47,51,32,50,47,51]:=by decide +kernel
theorem zq:af " 1/2 1/3; " = tx [32,49,47,50,32,49,47,51,59,32]:=by decide +kernel
theorem yX:af " 3/2 -1/2; " = tx [32,51,47,50,32,45,49,47,50,59,32]:=by decide +kernel
theorem yR:af " 1; " = tx [32,49,59,32]:=by decide +kernel
theorem yN:af "1" = tx [49]:=by decide +kernel
theorem zm:af " 0; " = tx [32,48,59,32]:=by decide +kernel
theorem zr:af " 1/2 1/4 1/4; " = tx [32,49,47,50,32,49,47,52,32,49,47,52,59,32]:=by decide +kernel
theorem wK:af " 1/2 1/2" = tx [32,49,47,50,32,49,47,50]:=by decide +kernel
abbrev gd (n:List Nat):List Nat:=n++[32,49,47,50,32,49,47,50]
abbrev mr (n:List Nat):List Nat:=n++[32,49,47,51,32,50,47,51]
theorem m31:Dr (.str<|tx [49]) (.int 31)=some (.str<|tx<|aT 31 49):=by
 have:Txt.mul (tx [49]) 31=tx (aT 31 49):=by decide +kernel
 show(if 0<=(31:Int)/\(31:Int)<=1000/\(tx [49]).length<=1000 then some (D.str<|Txt.mul (tx [49]) 31) else none)=_;rw[if_pos ⟨by decide,by decide,by decide⟩,this]
theorem tU {n:List Nat}{a:Nat}(h:a<=n.length)(hl:n.length<=100):gSl (.str<|tx n) none (some (a:Int))=some (.str<|tx<|n.take a):=by
 have:=StrLaws.sliceText_to (x:=tx n) (j:=a) ⟨by omega,by rw[dY];omega⟩
 have e:ka (tx n) none (some (a:Int))=tx (n.take a):=by
  refine(show ka (tx n) none (some (a:Int))=_ from this).trans ?_;refine tV ?_;rw[dY]
  simp
 show(if(tx n).length<=ai then some (D.str<|ka (tx n) none<|some (a:Int)) else none)=_;have z:ai=16777216:=rfl;rw[if_pos (by rw[bK];omega),e]
theorem uc {n:List Nat}{a:Nat}(h:a+1<=n.length)(hl:n.length<=100):gSl (.str<|tx n) (some<|(a:Int)+1) none=some (.str<|tx<|n.drop<|a+1):=by
 have:=tJ (x:=tx n) (i:=(a:Int)+1) ⟨by omega,by rw[dY];omega⟩
 have e:ka (tx n) (some<|(a:Int)+1) none=tx (n.drop<|a+1):=by
  refine(show ka (tx n) (some<|(a:Int)+1) none=_ from this).trans ?_;refine tV ?_;rw[dY,show((a:Int)+1).toNat=a+1 by omega];exact gu (by simp;omega)
 show(if(tx n).length<=ai then some (D.str<|ka (tx n) (some<|(a:Int)+1) none) else none)=_;have z:ai=16777216:=rfl;rw[if_pos (by rw[bK];omega),e]
abbrev en (t:List Nat)(w:Str):D:=.tup [.str<|tx t,.str w]
def bS (n0 n1 n2:List Nat)(x:Int)(a:Nat)(l:List D):Me:=[.fz<|.lst [.str<|tx n0,.str<|tx n1,.str<|tx n2],.fz<|.int x,.fz<|.str<|tx n0,.fz<|.str<|tx n1,.fz<|.str<|tx<|gd n0,.fz<|.str<|tx<|mr n1,.fz<|.int (a:Int),.ow<|.lst l]
section
variable {n0 n1 n2:List Nat}{x:Int}{a:Nat}{l:List D}
theorem b_0 (h0:n0.length<=8)(h1:n1.length<=8)(h2:n2.length<=8)(ha:a<n0.length)(hl:l.length<=100):(dO 7<|bI<|aj (aL<|aj (aA aJ (aA aJ (ak 4)<|fC<|.str "; ")<|ak 4)<|aj (fC<|.str "text") au)<|aj (aL<|aj (aA aJ (aA aJ (ak 4)<|fC<|.str ";")<|ak 5)<|aj (fC<|.str "text") au)<|aj (aL<|aj (aA aJ (aA aJ (aA aJ (ak 4)<|fC<|.str "; ")<|ak 5)<|fC<|.str " ")<|aj (fC<|.str "text") au) au) ([.fz<|.lst [.str<|tx n0,.str<|tx n1,.str<|tx n2],.fz<|.int x,.fz<|.str<|tx n0,.fz<|.str<|tx n1,.fz<|.str<|tx<|gd n0,.fz<|.str<|tx<|mr n1,.fz<|.int (a:Int),.un])=.ok (.nx,bS n0 n1 n2 x a [en (((gd n0)++([59,32]))++(gd n0)) "text",en (((gd n0)++([59]))++(mr n1)) "text",en ((((gd n0)++([59,32]))++(mr n1))++([32])) "text"]):=by
 have t0:aJ (.str<|tx<|gd n0) (.str<|tx<|[59,32])=some (.str<|tx<|(gd n0)++([59,32])):=tA (by simp;omega);have t1:aJ (.str<|tx<|(gd n0)++([59,32])) (.str<|tx<|gd n0)=some (.str<|tx<|((gd n0)++([59,32]))++(gd n0)):=tA (by simp;omega);have t2:aJ (.str<|tx<|gd n0) (.str<|tx<|[59])=some (.str<|tx<|(gd n0)++([59])):=tA (by simp;omega);have t3:aJ (.str<|tx<|(gd n0)++([59])) (.str<|tx<|mr n1)=some (.str<|tx<|((gd n0)++([59]))++(mr n1)):=tA (by simp;omega);have t4:aJ (.str<|tx<|(gd n0)++([59,32])) (.str<|tx<|mr n1)=some (.str<|tx<|((gd n0)++([59,32]))++(mr n1)):=tA (by simp;omega);have t5:aJ (.str<|tx<|((gd n0)++([59,32]))++(mr n1)) (.str<|tx<|[32])=some (.str<|tx<|(((gd n0)++([59,32]))++(mr n1))++([32])):=tA (by simp;omega);have z:l.length+3<=16777216:=by omega
 have tk:=tU (n:=n0) (a:=a) (by omega) (by omega);have dr:=uc (n:=n0) (a:=a) (by omega) (by omega);have ad:aJ (.int (a:Int)) (.int 1)=some (.int<|(a:Int)+1):=rfl;have x2:∀a b c:D,gIx (.lst [a,b,c]) (.int 2)=some c:=λ_ _ _=>rfl;have zz:l.length<16777216:=by omega
 have mm:=m31;unfold bS en;generalize tx ((gd n0)++([59,32]))=T0 at *;generalize tx (((gd n0)++([59,32]))++(gd n0))=T1 at *;generalize tx ((gd n0)++([59]))=T2 at *;generalize tx (((gd n0)++([59]))++(mr n1))=T3 at *;generalize tx (((gd n0)++([59,32]))++(mr n1))=T4 at *;generalize tx ((((gd n0)++([59,32]))++(mr n1))++([32]))=T5 at *;generalize tx (aT 31 49)=S31 at *;generalize tx (gd n0)=SG at *;generalize tx (mr n1)=SM at *;simp only[dO,aA,ak,aC,fC,bI,aL,aj,au,fSl,fO0,fO1,fD,c_0,c_1,c_2,c_3,c_4,c_5,c_6,c_7,c_8,c_9,yg,zq,yX,yR,yN,zm,zr,wK,mm,Res.bind,ofO,b9,cb];simp[t0,t1,t2,t3,t4,t5,tk,dr,ad,x2,z,zz]
theorem b_1 (h0:n0.length<=8)(h1:n1.length<=8)(h2:n2.length<=8)(ha:a<n0.length)(hl:l.length<=100):(dO 7<|aA fD (ak 7)<|bI<|aj (aL<|aj (aA aJ (aA aJ (ak 2)<|fC<|.str "  1/2 1/2; ")<|ak 5)<|aj (fC<|.str "text") au)<|aj (aL<|aj (aA aJ (aA aJ (ak 2)<|fC<|.str " 2/4 1/2; ")<|ak 5)<|aj (fC<|.str "text") au) au) (bS n0 n1 n2 x a l)=.ok (.nx,bS n0 n1 n2 x a<|l++[en (((n0)++([32,32,49,47,50,32,49,47,50,59,32]))++(mr n1)) "text",en (((n0)++([32,50,47,52,32,49,47,50,59,32]))++(mr n1)) "text"]):=by
 have t0:aJ (.str<|tx<|n0) (.str<|tx<|[32,32,49,47,50,32,49,47,50,59,32])=some (.str<|tx<|(n0)++([32,32,49,47,50,32,49,47,50,59,32])):=tA (by simp;omega);have t1:aJ (.str<|tx<|(n0)++([32,32,49,47,50,32,49,47,50,59,32])) (.str<|tx<|mr n1)=some (.str<|tx<|((n0)++([32,32,49,47,50,32,49,47,50,59,32]))++(mr n1)):=tA (by simp;omega);have t2:aJ (.str<|tx<|n0) (.str<|tx<|[32,50,47,52,32,49,47,50,59,32])=some (.str<|tx<|(n0)++([32,50,47,52,32,49,47,50,59,32])):=tA (by simp;omega);have t3:aJ (.str<|tx<|(n0)++([32,50,47,52,32,49,47,50,59,32])) (.str<|tx<|mr n1)=some (.str<|tx<|((n0)++([32,50,47,52,32,49,47,50,59,32]))++(mr n1)):=tA (by simp;omega);have z:l.length+2<=16777216:=by omega
 have tk:=tU (n:=n0) (a:=a) (by omega) (by omega);have dr:=uc (n:=n0) (a:=a) (by omega) (by omega);have ad:aJ (.int (a:Int)) (.int 1)=some (.int<|(a:Int)+1):=rfl;have x2:∀a b c:D,gIx (.lst [a,b,c]) (.int 2)=some c:=λ_ _ _=>rfl;have zz:l.length<16777216:=by omega
 have mm:=m31;unfold bS en;generalize tx ((n0)++([32,32,49,47,50,32,49,47,50,59,32]))=T0 at *;generalize tx (((n0)++([32,32,49,47,50,32,49,47,50,59,32]))++(mr n1))=T1 at *;generalize tx ((n0)++([32,50,47,52,32,49,47,50,59,32]))=T2 at *;generalize tx (((n0)++([32,50,47,52,32,49,47,50,59,32]))++(mr n1))=T3 at *;generalize tx (aT 31 49)=S31 at *;generalize tx (gd n0)=SG at *;generalize tx (mr n1)=SM at *;simp only[dO,aA,ak,aC,fC,bI,aL,aj,au,fSl,fO0,fO1,fD,c_0,c_1,c_2,c_3,c_4,c_5,c_6,c_7,c_8,c_9,yg,zq,yX,yR,yN,zm,zr,wK,mm,Res.bind,ofO,b9,cb];simp[t0,t1,t2,t3,tk,dr,ad,x2,z,zz]
theorem b_2 (h0:n0.length<=8)(h1:n1.length<=8)(h2:n2.length<=8)(ha:a<n0.length)(hl:l.length<=100):(dO 7<|aA fD (ak 7)<|bI<|aj (aL<|aj (aA aJ (aA aJ (aA aJ (ak 4)<|fC<|.str "; ")<|ak 3)<|fC<|.str " 1/3,2/3")<|aj (fC<|.str "text") au) au) (bS n0 n1 n2 x a l)=.ok (.nx,bS n0 n1 n2 x a<|l++[en ((((gd n0)++([59,32]))++(n1))++([32,49,47,51,44,50,47,51])) "text"]):=by
 have t0:aJ (.str<|tx<|gd n0) (.str<|tx<|[59,32])=some (.str<|tx<|(gd n0)++([59,32])):=tA (by simp;omega);have t1:aJ (.str<|tx<|(gd n0)++([59,32])) (.str<|tx<|n1)=some (.str<|tx<|((gd n0)++([59,32]))++(n1)):=tA (by simp;omega);have t2:aJ (.str<|tx<|((gd n0)++([59,32]))++(n1)) (.str<|tx<|[32,49,47,51,44,50,47,51])=some (.str<|tx<|(((gd n0)++([59,32]))++(n1))++([32,49,47,51,44,50,47,51])):=tA (by simp;omega);have z:l.length+1<=16777216:=by omega
 have tk:=tU (n:=n0) (a:=a) (by omega) (by omega);have dr:=uc (n:=n0) (a:=a) (by omega) (by omega);have ad:aJ (.int (a:Int)) (.int 1)=some (.int<|(a:Int)+1):=rfl;have x2:∀a b c:D,gIx (.lst [a,b,c]) (.int 2)=some c:=λ_ _ _=>rfl;have zz:l.length<16777216:=by omega
 have mm:=m31;unfold bS en;generalize tx ((gd n0)++([59,32]))=T0 at *;generalize tx (((gd n0)++([59,32]))++(n1))=T1 at *;generalize tx ((((gd n0)++([59,32]))++(n1))++([32,49,47,51,44,50,47,51]))=T2 at *;generalize tx (aT 31 49)=S31 at *;generalize tx (gd n0)=SG at *;generalize tx (mr n1)=SM at *;simp only[dO,aA,ak,aC,fC,bI,aL,aj,au,fSl,fO0,fO1,fD,c_0,c_1,c_2,c_3,c_4,c_5,c_6,c_7,c_8,c_9,yg,zq,yX,yR,yN,zm,zr,wK,mm,Res.bind,ofO,b9,cb];simp[t0,t1,t2,tk,dr,ad,x2,z,zz]
theorem b_3 (h0:n0.length<=8)(h1:n1.length<=8)(h2:n2.length<=8)(ha:a<n0.length)(hl:l.length<=100):(dO 7<|aA fD (ak 7)<|bI<|aj (aL<|aj (aA aJ (aA aJ (aA aJ (aA aJ (fSl (ak 2) fO0<|fO1<|ak 6)<|fC<|.str "A")<|fSl (ak 2) (fO1<|aA aJ (ak 6)<|fC<|.int 1) fO0)<|fC<|.str " 1/2 1/2; ")<|ak 5)<|aj (fC<|.str "text") au)<|aj (aL<|aj (aA aJ (aA aJ (aA aJ (fC<|.str " ")<|ak 4)<|fC<|.str "; ")<|ak 5)<|aj (fC<|.str "text") au) au) (bS n0 n1 n2 x a l)=.ok (.nx,bS n0 n1 n2 x a<|l++[en (((((n0.take a)++([65]))++(n0.drop<|a+1))++([32,49,47,50,32,49,47,50,59,32]))++(mr n1)) "text",en (((([32])++(gd n0))++([59,32]))++(mr n1)) "text"]):=by
 have t0:aJ (.str<|tx<|n0.take a) (.str<|tx<|[65])=some (.str<|tx<|(n0.take a)++([65])):=tA (by simp;omega);have t1:aJ (.str<|tx<|(n0.take a)++([65])) (.str<|tx<|n0.drop<|a+1)=some (.str<|tx<|((n0.take a)++([65]))++(n0.drop<|a+1)):=tA (by simp;omega);have t2:aJ (.str<|tx<|((n0.take a)++([65]))++(n0.drop<|a+1)) (.str<|tx<|[32,49,47,50,32,49,47,50,59,32])=some (.str<|tx<|(((n0.take a)++([65]))++(n0.drop<|a+1))++([32,49,47,50,32,49,47,50,59,32])):=tA (by simp;omega);have t3:aJ (.str<|tx<|(((n0.take a)++([65]))++(n0.drop<|a+1))++([32,49,47,50,32,49,47,50,59,32])) (.str<|tx<|mr n1)=some (.str<|tx<|((((n0.take a)++([65]))++(n0.drop<|a+1))++([32,49,47,50,32,49,47,50,59,32]))++(mr n1)):=tA (by simp;omega);have t4:aJ (.str<|tx<|[32]) (.str<|tx<|gd n0)=some (.str<|tx<|([32])++(gd n0)):=tA (by simp;omega);have t5:aJ (.str<|tx<|([32])++(gd n0)) (.str<|tx<|[59,32])=some (.str<|tx<|(([32])++(gd n0))++([59,32])):=tA (by simp;omega);have t6:aJ (.str<|tx<|(([32])++(gd n0))++([59,32])) (.str<|tx<|mr n1)=some (.str<|tx<|((([32])++(gd n0))++([59,32]))++(mr n1)):=tA (by simp;omega);have z:l.length+2<=16777216:=by omega
 have tk:=tU (n:=n0) (a:=a) (by omega) (by omega);have dr:=uc (n:=n0) (a:=a) (by omega) (by omega);have ad:aJ (.int (a:Int)) (.int 1)=some (.int<|(a:Int)+1):=rfl;have x2:∀a b c:D,gIx (.lst [a,b,c]) (.int 2)=some c:=λ_ _ _=>rfl;have zz:l.length<16777216:=by omega
 have mm:=m31;unfold bS en;generalize tx ((n0.take a)++([65]))=T0 at *;generalize tx (((n0.take a)++([65]))++(n0.drop<|a+1))=T1 at *;generalize tx ((((n0.take a)++([65]))++(n0.drop<|a+1))++([32,49,47,50,32,49,47,50,59,32]))=T2 at *;generalize tx (((((n0.take a)++([65]))++(n0.drop<|a+1))++([32,49,47,50,32,49,47,50,59,32]))++(mr n1))=T3 at *;generalize tx (([32])++(gd n0))=T4 at *;generalize tx ((([32])++(gd n0))++([59,32]))=T5 at *;generalize tx (((([32])++(gd n0))++([59,32]))++(mr n1))=T6 at *;generalize tx (aT 31 49)=S31 at *;generalize tx (gd n0)=SG at *;generalize tx (mr n1)=SM at *;simp only[dO,aA,ak,aC,fC,bI,aL,aj,au,fSl,fO0,fO1,fD,c_0,c_1,c_2,c_3,c_4,c_5,c_6,c_7,c_8,c_9,yg,zq,yX,yR,yN,zm,zr,wK,mm,Res.bind,ofO,b9,cb];simp[t0,t1,t2,t3,t4,t5,t6,tk,dr,ad,x2,z,zz]
theorem b_4 (h0:n0.length<=8)(h1:n1.length<=8)(h2:n2.length<=8)(ha:a<n0.length)(hl:l.length<=100):(dO 7<|aA fD (ak 7)<|bI<|aj (aL<|aj (aC 4)<|aj (fC<|.str "plan") au)<|aj (aL<|aj (aA aJ (aA aJ (aA aJ (aA aJ (aA aJ (ak 4)<|fC<|.str "; ")<|ak 5)<|fC<|.str "; ")<|aA gIx (ak 0)<|fC<|.int 2)<|fC<|.str " 1")<|aj (fC<|.str "plan") au)<|aj (aL<|aj (fC<|.str "")<|aj (fC<|.str "plan") au) au) (bS n0 n1 n2 x a l)=.ok (.nx,bS n0 n1 n2 x a<|l++[en (gd n0) "plan",en ((((((gd n0)++([59,32]))++(mr n1))++([59,32]))++(n2))++([32,49])) "plan",en ([]) "plan"]):=by
 have t0:aJ (.str<|tx<|gd n0) (.str<|tx<|[59,32])=some (.str<|tx<|(gd n0)++([59,32])):=tA (by simp;omega);have t1:aJ (.str<|tx<|(gd n0)++([59,32])) (.str<|tx<|mr n1)=some (.str<|tx<|((gd n0)++([59,32]))++(mr n1)):=tA (by simp;omega);have t2:aJ (.str<|tx<|((gd n0)++([59,32]))++(mr n1)) (.str<|tx<|[59,32])=some (.str<|tx<|(((gd n0)++([59,32]))++(mr n1))++([59,32])):=tA (by simp;omega);have t3:aJ (.str<|tx<|(((gd n0)++([59,32]))++(mr n1))++([59,32])) (.str<|tx<|n2)=some (.str<|tx<|((((gd n0)++([59,32]))++(mr n1))++([59,32]))++(n2)):=tA (by simp;omega);have t4:aJ (.str<|tx<|((((gd n0)++([59,32]))++(mr n1))++([59,32]))++(n2)) (.str<|tx<|[32,49])=some (.str<|tx<|(((((gd n0)++([59,32]))++(mr n1))++([59,32]))++(n2))++([32,49])):=tA (by simp;omega);have z:l.length+3<=16777216:=by omega
 have tk:=tU (n:=n0) (a:=a) (by omega) (by omega);have dr:=uc (n:=n0) (a:=a) (by omega) (by omega);have ad:aJ (.int (a:Int)) (.int 1)=some (.int<|(a:Int)+1):=rfl;have x2:∀a b c:D,gIx (.lst [a,b,c]) (.int 2)=some c:=λ_ _ _=>rfl;have zz:l.length<16777216:=by omega
 have mm:=m31;unfold bS en;generalize tx ((gd n0)++([59,32]))=T0 at *;generalize tx (((gd n0)++([59,32]))++(mr n1))=T1 at *;generalize tx ((((gd n0)++([59,32]))++(mr n1))++([59,32]))=T2 at *;generalize tx (((((gd n0)++([59,32]))++(mr n1))++([59,32]))++(n2))=T3 at *;generalize tx ((((((gd n0)++([59,32]))++(mr n1))++([59,32]))++(n2))++([32,49]))=T4 at *;generalize tx (aT 31 49)=S31 at *;generalize tx (gd n0)=SG at *;generalize tx (mr n1)=SM at *;simp only[dO,aA,ak,aC,fC,bI,aL,aj,au,fSl,fO0,fO1,fD,c_0,c_1,c_2,c_3,c_4,c_5,c_6,c_7,c_8,c_9,yg,zq,yX,yR,yN,zm,zr,wK,mm,Res.bind,ofO,b9,cb];simp[t0,t1,t2,t3,t4,tk,dr,ad,x2,z,zz]
theorem b_5 (h0:n0.length<=8)(h1:n1.length<=8)(h2:n2.length<=8)(ha:a<n0.length)(hl:l.length<=100):(dO 7<|aA fD (ak 7)<|bI<|aj (aL<|aj (aA aJ (aA aJ (aA aJ (ak 4)<|fC<|.str "; ")<|aA gIx (ak 0)<|fC<|.int 2)<|fC<|.str " 1/3 2/3")<|aj (fC<|.str "plan") au) au) (bS n0 n1 n2 x a l)=.ok (.nx,bS n0 n1 n2 x a<|l++[en ((((gd n0)++([59,32]))++(n2))++([32,49,47,51,32,50,47,51])) "plan"]):=by
 have t0:aJ (.str<|tx<|gd n0) (.str<|tx<|[59,32])=some (.str<|tx<|(gd n0)++([59,32])):=tA (by simp;omega);have t1:aJ (.str<|tx<|(gd n0)++([59,32])) (.str<|tx<|n2)=some (.str<|tx<|((gd n0)++([59,32]))++(n2)):=tA (by simp;omega);have t2:aJ (.str<|tx<|((gd n0)++([59,32]))++(n2)) (.str<|tx<|[32,49,47,51,32,50,47,51])=some (.str<|tx<|(((gd n0)++([59,32]))++(n2))++([32,49,47,51,32,50,47,51])):=tA (by simp;omega);have z:l.length+1<=16777216:=by omega
 have tk:=tU (n:=n0) (a:=a) (by omega) (by omega);have dr:=uc (n:=n0) (a:=a) (by omega) (by omega);have ad:aJ (.int (a:Int)) (.int 1)=some (.int<|(a:Int)+1):=rfl;have x2:∀a b c:D,gIx (.lst [a,b,c]) (.int 2)=some c:=λ_ _ _=>rfl;have zz:l.length<16777216:=by omega
 have mm:=m31;unfold bS en;generalize tx ((gd n0)++([59,32]))=T0 at *;generalize tx (((gd n0)++([59,32]))++(n2))=T1 at *;generalize tx ((((gd n0)++([59,32]))++(n2))++([32,49,47,51,32,50,47,51]))=T2 at *;generalize tx (aT 31 49)=S31 at *;generalize tx (gd n0)=SG at *;generalize tx (mr n1)=SM at *;simp only[dO,aA,ak,aC,fC,bI,aL,aj,au,fSl,fO0,fO1,fD,c_0,c_1,c_2,c_3,c_4,c_5,c_6,c_7,c_8,c_9,yg,zq,yX,yR,yN,zm,zr,wK,mm,Res.bind,ofO,b9,cb];simp[t0,t1,t2,tk,dr,ad,x2,z,zz]
theorem b_6 (h0:n0.length<=8)(h1:n1.length<=8)(h2:n2.length<=8)(ha:a<n0.length)(hl:l.length<=100):(dO 7<|aA fD (ak 7)<|bI<|aj (aL<|aj (aA aJ (aA aJ (ak 2)<|fC<|.str " 1/2 1/3; ")<|ak 5)<|aj (fC<|.str "plan") au)<|aj (aL<|aj (aA aJ (aA aJ (ak 2)<|fC<|.str " 3/2 -1/2; ")<|ak 5)<|aj (fC<|.str "plan") au) au) (bS n0 n1 n2 x a l)=.ok (.nx,bS n0 n1 n2 x a<|l++[en (((n0)++([32,49,47,50,32,49,47,51,59,32]))++(mr n1)) "plan",en (((n0)++([32,51,47,50,32,45,49,47,50,59,32]))++(mr n1)) "plan"]):=by
 have t0:aJ (.str<|tx<|n0) (.str<|tx<|[32,49,47,50,32,49,47,51,59,32])=some (.str<|tx<|(n0)++([32,49,47,50,32,49,47,51,59,32])):=tA (by simp;omega);have t1:aJ (.str<|tx<|(n0)++([32,49,47,50,32,49,47,51,59,32])) (.str<|tx<|mr n1)=some (.str<|tx<|((n0)++([32,49,47,50,32,49,47,51,59,32]))++(mr n1)):=tA (by simp;omega);have t2:aJ (.str<|tx<|n0) (.str<|tx<|[32,51,47,50,32,45,49,47,50,59,32])=some (.str<|tx<|(n0)++([32,51,47,50,32,45,49,47,50,59,32])):=tA (by simp;omega);have t3:aJ (.str<|tx<|(n0)++([32,51,47,50,32,45,49,47,50,59,32])) (.str<|tx<|mr n1)=some (.str<|tx<|((n0)++([32,51,47,50,32,45,49,47,50,59,32]))++(mr n1)):=tA (by simp;omega);have z:l.length+2<=16777216:=by omega
 have tk:=tU (n:=n0) (a:=a) (by omega) (by omega);have dr:=uc (n:=n0) (a:=a) (by omega) (by omega);have ad:aJ (.int (a:Int)) (.int 1)=some (.int<|(a:Int)+1):=rfl;have x2:∀a b c:D,gIx (.lst [a,b,c]) (.int 2)=some c:=λ_ _ _=>rfl;have zz:l.length<16777216:=by omega
 have mm:=m31;unfold bS en;generalize tx ((n0)++([32,49,47,50,32,49,47,51,59,32]))=T0 at *;generalize tx (((n0)++([32,49,47,50,32,49,47,51,59,32]))++(mr n1))=T1 at *;generalize tx ((n0)++([32,51,47,50,32,45,49,47,50,59,32]))=T2 at *;generalize tx (((n0)++([32,51,47,50,32,45,49,47,50,59,32]))++(mr n1))=T3 at *;generalize tx (aT 31 49)=S31 at *;generalize tx (gd n0)=SG at *;generalize tx (mr n1)=SM at *;simp only[dO,aA,ak,aC,fC,bI,aL,aj,au,fSl,fO0,fO1,fD,c_0,c_1,c_2,c_3,c_4,c_5,c_6,c_7,c_8,c_9,yg,zq,yX,yR,yN,zm,zr,wK,mm,Res.bind,ofO,b9,cb];simp[t0,t1,t2,t3,tk,dr,ad,x2,z,zz]
theorem b_7 (h0:n0.length<=8)(h1:n1.length<=8)(h2:n2.length<=8)(ha:a<n0.length)(hl:l.length<=100):(dO 7<|aA fD (ak 7)<|bI<|aj (aL<|aj (aA aJ (aA aJ (ak 2)<|fC<|.str " 1; ")<|ak 5)<|aj (fC<|.str "plan") au) au) (bS n0 n1 n2 x a l)=.ok (.nx,bS n0 n1 n2 x a<|l++[en (((n0)++([32,49,59,32]))++(mr n1)) "plan"]):=by
 have t0:aJ (.str<|tx<|n0) (.str<|tx<|[32,49,59,32])=some (.str<|tx<|(n0)++([32,49,59,32])):=tA (by simp;omega);have t1:aJ (.str<|tx<|(n0)++([32,49,59,32])) (.str<|tx<|mr n1)=some (.str<|tx<|((n0)++([32,49,59,32]))++(mr n1)):=tA (by simp;omega);have z:l.length+1<=16777216:=by omega
 have tk:=tU (n:=n0) (a:=a) (by omega) (by omega);have dr:=uc (n:=n0) (a:=a) (by omega) (by omega);have ad:aJ (.int (a:Int)) (.int 1)=some (.int<|(a:Int)+1):=rfl;have x2:∀a b c:D,gIx (.lst [a,b,c]) (.int 2)=some c:=λ_ _ _=>rfl;have zz:l.length<16777216:=by omega
 have mm:=m31;unfold bS en;generalize tx ((n0)++([32,49,59,32]))=T0 at *;generalize tx (((n0)++([32,49,59,32]))++(mr n1))=T1 at *;generalize tx (aT 31 49)=S31 at *;generalize tx (gd n0)=SG at *;generalize tx (mr n1)=SM at *;simp only[dO,aA,ak,aC,fC,bI,aL,aj,au,fSl,fO0,fO1,fD,c_0,c_1,c_2,c_3,c_4,c_5,c_6,c_7,c_8,c_9,yg,zq,yX,yR,yN,zm,zr,wK,mm,Res.bind,ofO,b9,cb];simp[t0,t1,tk,dr,ad,x2,z,zz]
theorem b_8 (h0:n0.length<=8)(h1:n1.length<=8)(h2:n2.length<=8)(ha:a<n0.length)(hl:l.length<=100):(eF 7<|aL<|aj (aA aJ (aA aJ (aA aJ (aA aJ (ak 2)<|fC<|.str " ")<|aA Dr (fC<|.str "1")<|fC<|.int 31)<|fC<|.str " 0; ")<|ak 5)<|aj (fC<|.str "text") au) (bS n0 n1 n2 x a l)=.ok (.nx,bS n0 n1 n2 x a<|l++[en (((((n0)++([32]))++(aT 31 49))++([32,48,59,32]))++(mr n1)) "text"]):=by
 have t0:aJ (.str<|tx<|n0) (.str<|tx<|[32])=some (.str<|tx<|(n0)++([32])):=tA (by simp;omega);have t1:aJ (.str<|tx<|(n0)++([32])) (.str<|tx<|aT 31 49)=some (.str<|tx<|((n0)++([32]))++(aT 31 49)):=tA (by simp;omega);have t2:aJ (.str<|tx<|((n0)++([32]))++(aT 31 49)) (.str<|tx<|[32,48,59,32])=some (.str<|tx<|(((n0)++([32]))++(aT 31 49))++([32,48,59,32])):=tA (by simp;omega);have t3:aJ (.str<|tx<|(((n0)++([32]))++(aT 31 49))++([32,48,59,32])) (.str<|tx<|mr n1)=some (.str<|tx<|((((n0)++([32]))++(aT 31 49))++([32,48,59,32]))++(mr n1)):=tA (by simp;omega);have z:l.length+1<=16777216:=by omega
 have tk:=tU (n:=n0) (a:=a) (by omega) (by omega);have dr:=uc (n:=n0) (a:=a) (by omega) (by omega);have ad:aJ (.int (a:Int)) (.int 1)=some (.int<|(a:Int)+1):=rfl;have x2:∀a b c:D,gIx (.lst [a,b,c]) (.int 2)=some c:=λ_ _ _=>rfl;have zz:l.length<16777216:=by omega
 have mm:=m31;unfold bS en;generalize tx ((n0)++([32]))=T0 at *;generalize tx (((n0)++([32]))++(aT 31 49))=T1 at *;generalize tx ((((n0)++([32]))++(aT 31 49))++([32,48,59,32]))=T2 at *;generalize tx (((((n0)++([32]))++(aT 31 49))++([32,48,59,32]))++(mr n1))=T3 at *;generalize tx (aT 31 49)=S31 at *;generalize tx (gd n0)=SG at *;generalize tx (mr n1)=SM at *;simp only[eF,xV,putL,dO,aA,ak,aC,fC,bI,aL,aj,au,fSl,fO0,fO1,fD,c_0,c_1,c_2,c_3,c_4,c_5,c_6,c_7,c_8,c_9,yg,zq,yX,yR,yN,zm,zr,wK,mm,Res.bind,ofO,b9,cb];simp[t0,t1,t2,t3,tk,dr,ad,x2,z,zz]
theorem p_0 (h0:n0.length<=8)(h1:n1.length<=8)(h2:n2.length<=8):(aX 2<|aA gIx (ak 0)<|fC<|.int 0) ([.fz<|.lst [.str<|tx n0,.str<|tx n1,.str<|tx n2],.fz<|.int x,.un,.un,.un,.un,.un,.un])=.ok (.nx,[.fz<|.lst [.str<|tx n0,.str<|tx n1,.str<|tx n2],.fz<|.int x,.fz<|.str<|tx n0,.un,.un,.un,.un,.un]):=by
 rfl
theorem p_1 (h0:n0.length<=8)(h1:n1.length<=8)(h2:n2.length<=8):(aX 3<|aA gIx (ak 0)<|fC<|.int 1) ([.fz<|.lst [.str<|tx n0,.str<|tx n1,.str<|tx n2],.fz<|.int x,.fz<|.str<|tx n0,.un,.un,.un,.un,.un])=.ok (.nx,[.fz<|.lst [.str<|tx n0,.str<|tx n1,.str<|tx n2],.fz<|.int x,.fz<|.str<|tx n0,.fz<|.str<|tx n1,.un,.un,.un,.un]):=by
 rfl
theorem p_2 (h0:n0.length<=8)(h1:n1.length<=8)(h2:n2.length<=8):(aX 4<|aA aJ (ak 2)<|fC<|.str " 1/2 1/2") ([.fz<|.lst [.str<|tx n0,.str<|tx n1,.str<|tx n2],.fz<|.int x,.fz<|.str<|tx n0,.fz<|.str<|tx n1,.un,.un,.un,.un])=.ok (.nx,[.fz<|.lst [.str<|tx n0,.str<|tx n1,.str<|tx n2],.fz<|.int x,.fz<|.str<|tx n0,.fz<|.str<|tx n1,.fz<|.str<|tx<|gd n0,.un,.un,.un]):=by
 have t:aJ (.str<|tx n0) (.str<|tx [32,49,47,50,32,49,47,50])=some (.str<|tx<|gd n0):=tA (by simp;omega);have tg:tx (gd n0)=tx (gd n0):=rfl;generalize tx (gd n0)=T at *;simp only[aX,aA,ak,fC,wK,Res.bind,ofO,b9,cb];simp[t]
theorem p_3 (h0:n0.length<=8)(h1:n1.length<=8)(h2:n2.length<=8):(aX 5<|aA aJ (ak 3)<|fC<|.str " 1/3 2/3") ([.fz<|.lst [.str<|tx n0,.str<|tx n1,.str<|tx n2],.fz<|.int x,.fz<|.str<|tx n0,.fz<|.str<|tx n1,.fz<|.str<|tx<|gd n0,.un,.un,.un])=.ok (.nx,[.fz<|.lst [.str<|tx n0,.str<|tx n1,.str<|tx n2],.fz<|.int x,.fz<|.str<|tx n0,.fz<|.str<|tx n1,.fz<|.str<|tx<|gd n0,.fz<|.str<|tx<|mr n1,.un,.un]):=by
 have t:aJ (.str<|tx n1) (.str<|tx [32,49,47,51,32,50,47,51])=some (.str<|tx<|mr n1):=tA (by simp;omega);have tg:tx (gd n0)=tx (gd n0):=rfl;generalize tx (mr n1)=T at *;simp only[aX,aA,ak,fC,yg,Res.bind,ofO,b9,cb];simp[t]
theorem p_4 (h0:n0.length<=8)(h1:n1.length<=8)(h2:n2.length<=8)(hp:1<=n0.length)(hx:0<=x)(ha:x/32%(n0.length:Int)=(a:Int)):(aX 6<|aA ir (aA qT (ak 1)<|fC<|.int 32)<|aV cZ<|aj (ak 2) au) ([.fz<|.lst [.str<|tx n0,.str<|tx n1,.str<|tx n2],.fz<|.int x,.fz<|.str<|tx n0,.fz<|.str<|tx n1,.fz<|.str<|tx<|gd n0,.fz<|.str<|tx<|mr n1,.un,.un])=.ok (.nx,[.fz<|.lst [.str<|tx n0,.str<|tx n1,.str<|tx n2],.fz<|.int x,.fz<|.str<|tx n0,.fz<|.str<|tx n1,.fz<|.str<|tx<|gd n0,.fz<|.str<|tx<|mr n1,.fz<|.int (a:Int),.un]):=by
 have d1:=Fw (a:=x) (b:=32) (by decide) (by decide);have ln:cZ [.str<|tx n0]=some (.int (n0.length:Int)):=by
  have z:(tx n0).length<=ai:=by rw[bK];exact fT h0<|by decide
  simp[cZ,bK];omega
 have d2:=o8 (a:=x/32) (b:=(n0.length:Int)) (by omega);rw[ha] at d2;generalize tx (gd n0)=SG at *;generalize tx (mr n1)=SM at *;simp[aX,aA,ak,fC,aV,aj,au,d1,ln,d2]
def BT (n0 n1 n2:List Nat)(a:Nat):List (List Nat×Str):=[(((gd n0)++([59,32]))++(gd n0), "text"),(((gd n0)++([59]))++(mr n1), "text"),((((gd n0)++([59,32]))++(mr n1))++([32]), "text"),(((n0)++([32,32,49,47,50,32,49,47,50,59,32]))++(mr n1), "text"),(((n0)++([32,50,47,52,32,49,47,50,59,32]))++(mr n1), "text"),((((gd n0)++([59,32]))++(n1))++([32,49,47,51,44,50,47,51]), "text"),(((((n0.take a)++([65]))++(n0.drop<|a+1))++([32,49,47,50,32,49,47,50,59,32]))++(mr n1), "text"),(((([32])++(gd n0))++([59,32]))++(mr n1), "text"),(gd n0, "plan"),((((((gd n0)++([59,32]))++(mr n1))++([59,32]))++(n2))++([32,49]), "plan"),([], "plan"),((((gd n0)++([59,32]))++(n2))++([32,49,47,51,32,50,47,51]), "plan"),(((n0)++([32,49,47,50,32,49,47,51,59,32]))++(mr n1), "plan"),(((n0)++([32,51,47,50,32,45,49,47,50,59,32]))++(mr n1), "plan"),(((n0)++([32,49,59,32]))++(mr n1), "plan"),(((((n0)++([32]))++(aT 31 49))++([32,48,59,32]))++(mr n1), "text"),(((n0)++([32,49,47,50,32,49,47,52,32,49,47,52,59,32]))++(mr n1), "plan")]
theorem J0 {L:List D}{i:Int}(h0:0<=i)(h1:i<L.length):∃e∈L,gIx (.lst L) (.int i)=some e:=by
 obtain⟨k,rfl⟩:∃k:Nat,i=k:=⟨i.toNat,by omega⟩;have hk:k<L.length:=by omega
 refine⟨L[k],List.getElem_mem hk,?_⟩;show atI L (k:Int)=_;have h':¬((k:Int)<0):=by omega
 unfold atI ixN;simp[h',hk]
theorem b_r (h0:n0.length<=8)(h1:n1.length<=8)(h2:n2.length<=8)(ha:a<n0.length)(hl:l.length=16){e:D}(he:gIx (.lst<|l++[en (((n0)++([32,49,47,50,32,49,47,52,32,49,47,52,59,32]))++(mr n1)) "plan"]) (.int<|x%17)=some e):∃m,(bC<|aA gIx (aA aJ (ak 7)<|bI<|aj (aL<|aj (aA aJ (aA aJ (ak 2)<|fC<|.str " 1/2 1/4 1/4; ")<|ak 5)<|aj (fC<|.str "plan") au) au)<|aA ir (ak 1)<|fC<|.int 17) (bS n0 n1 n2 x a l)=.ok (.rt false e,m):=by
 have t0:aJ (.str<|tx<|n0) (.str<|tx<|[32,49,47,50,32,49,47,52,32,49,47,52,59,32])=some (.str<|tx<|(n0)++([32,49,47,50,32,49,47,52,32,49,47,52,59,32])):=tA (by simp;omega);have t1:aJ (.str<|tx<|(n0)++([32,49,47,50,32,49,47,52,32,49,47,52,59,32])) (.str<|tx<|mr n1)=some (.str<|tx<|((n0)++([32,49,47,50,32,49,47,52,32,49,47,52,59,32]))++(mr n1)):=tA (by simp;omega);have la:∀e:D,aJ (.lst l) (.lst [e])=some (.lst<|l++[e]):=λe=>lA (by simp;omega);have d2:ir (.int x) (.int 17)=some (.int<|x%17):=by simp[ir,mdI]
 unfold bS;unfold en at he;generalize tx ((n0)++([32,49,47,50,32,49,47,52,32,49,47,52,59,32]))=T0 at *;generalize tx (((n0)++([32,49,47,50,32,49,47,52,32,49,47,52,59,32]))++(mr n1))=T1 at *;generalize tx (gd n0)=SG at *;generalize tx (mr n1)=SM at *;simp only[bC,Me.let,Sl.let,bo,uj,dO,aA,ak,aC,fC,bI,aL,aj,au,fSl,fO0,fO1,fD,c_0,c_1,c_2,c_3,c_4,c_5,c_6,c_7,c_8,c_9,yg,zq,yX,yR,yN,zm,zr,wK,Res.bind,ofO,b9,cb];simp[t0,t1,la,d2,he]
theorem aan (h0:n0.length<=8)(h1:n1.length<=8)(h2:n2.length<=8)(hp:1<=n0.length)(hx:0<=x):∃a<n0.length,∃p∈BT n0 n1 n2 a,d8 [.lst [.str<|tx n0,.str<|tx n1,.str<|tx n2],.int x]=.ok (false,en p.1 p.2):=by
 have g1:=fm (x/32) (b:=(n0.length:Int)) (by omega);have g2:=eI (x/32) (b:=(n0.length:Int)) (by omega);obtain⟨a,hq⟩:∃a:Nat,x/32%(n0.length:Int)=(a:Int):=⟨(x/32%(n0.length:Int)).toNat,by omega⟩;have ha:a<n0.length:=by omega
 refine⟨a,ha,?_⟩;have e0:=p_0 (n2:=n2) (x:=x) h0 h1 h2;have e1:=p_1 (n2:=n2) (x:=x) h0 h1 h2;have e2:=p_2 (n2:=n2) (x:=x) h0 h1 h2;have e3:=p_3 (n2:=n2) (x:=x) h0 h1 h2;have e4:=p_4 (n2:=n2) h0 h1 h2 hp hx hq;have f0:=b_0 (n2:=n2) (x:=x) (l:=[]) h0 h1 h2 ha (by simp);have f1:=b_1 (n2:=n2) (x:=x) (l:=[en (((gd n0)++([59,32]))++(gd n0)) "text",en (((gd n0)++([59]))++(mr n1)) "text",en ((((gd n0)++([59,32]))++(mr n1))++([32])) "text"]) h0 h1 h2 ha (by simp);have f2:=b_2 (n2:=n2) (x:=x) (l:=([en (((gd n0)++([59,32]))++(gd n0)) "text",en (((gd n0)++([59]))++(mr n1)) "text",en ((((gd n0)++([59,32]))++(mr n1))++([32])) "text"]++[en (((n0)++([32,32,49,47,50,32,49,47,50,59,32]))++(mr n1)) "text",en (((n0)++([32,50,47,52,32,49,47,50,59,32]))++(mr n1)) "text"])) h0 h1 h2 ha (by simp);have f3:=b_3 (n2:=n2) (x:=x) (l:=(([en (((gd n0)++([59,32]))++(gd n0)) "text",en (((gd n0)++([59]))++(mr n1)) "text",en ((((gd n0)++([59,32]))++(mr n1))++([32])) "text"]++[en (((n0)++([32,32,49,47,50,32,49,47,50,59,32]))++(mr n1)) "text",en (((n0)++([32,50,47,52,32,49,47,50,59,32]))++(mr n1)) "text"])++[en ((((gd n0)++([59,32]))++(n1))++([32,49,47,51,44,50,47,51])) "text"])) h0 h1 h2 ha (by simp);have f4:=b_4 (n2:=n2) (x:=x) (l:=((([en (((gd n0)++([59,32]))++(gd n0)) "text",en (((gd n0)++([59]))++(mr n1)) "text",en ((((gd n0)++([59,32]))++(mr n1))++([32])) "text"]++[en (((n0)++([32,32,49,47,50,32,49,47,50,59,32]))++(mr n1)) "text",en (((n0)++([32,50,47,52,32,49,47,50,59,32]))++(mr n1)) "text"])++[en ((((gd n0)++([59,32]))++(n1))++([32,49,47,51,44,50,47,51])) "text"])++[en (((((n0.take a)++([65]))++(n0.drop<|a+1))++([32,49,47,50,32,49,47,50,59,32]))++(mr n1)) "text",en (((([32])++(gd n0))++([59,32]))++(mr n1)) "text"])) h0 h1 h2 ha (by simp);have f5:=b_5 (n2:=n2) (x:=x) (l:=(((([en (((gd n0)++([59,32]))++(gd n0)) "text",en (((gd n0)++([59]))++(mr n1)) "text",en ((((gd n0)++([59,32]))++(mr n1))++([32])) "text"]++[en (((n0)++([32,32,49,47,50,32,49,47,50,59,32]))++(mr n1)) "text",en (((n0)++([32,50,47,52,32,49,47,50,59,32]))++(mr n1)) "text"])++[en ((((gd n0)++([59,32]))++(n1))++([32,49,47,51,44,50,47,51])) "text"])++[en (((((n0.take a)++([65]))++(n0.drop<|a+1))++([32,49,47,50,32,49,47,50,59,32]))++(mr n1)) "text",en (((([32])++(gd n0))++([59,32]))++(mr n1)) "text"])++[en (gd n0) "plan",en ((((((gd n0)++([59,32]))++(mr n1))++([59,32]))++(n2))++([32,49])) "plan",en ([]) "plan"])) h0 h1 h2 ha (by simp);have f6:=b_6 (n2:=n2) (x:=x) (l:=((((([en (((gd n0)++([59,32]))++(gd n0)) "text",en (((gd n0)++([59]))++(mr n1)) "text",en ((((gd n0)++([59,32]))++(mr n1))++([32])) "text"]++[en (((n0)++([32,32,49,47,50,32,49,47,50,59,32]))++(mr n1)) "text",en (((n0)++([32,50,47,52,32,49,47,50,59,32]))++(mr n1)) "text"])++[en ((((gd n0)++([59,32]))++(n1))++([32,49,47,51,44,50,47,51])) "text"])++[en (((((n0.take a)++([65]))++(n0.drop<|a+1))++([32,49,47,50,32,49,47,50,59,32]))++(mr n1)) "text",en (((([32])++(gd n0))++([59,32]))++(mr n1)) "text"])++[en (gd n0) "plan",en ((((((gd n0)++([59,32]))++(mr n1))++([59,32]))++(n2))++([32,49])) "plan",en ([]) "plan"])++[en ((((gd n0)++([59,32]))++(n2))++([32,49,47,51,32,50,47,51])) "plan"])) h0 h1 h2 ha (by simp);have f7:=b_7 (n2:=n2) (x:=x) (l:=(((((([en (((gd n0)++([59,32]))++(gd n0)) "text",en (((gd n0)++([59]))++(mr n1)) "text",en ((((gd n0)++([59,32]))++(mr n1))++([32])) "text"]++[en (((n0)++([32,32,49,47,50,32,49,47,50,59,32]))++(mr n1)) "text",en (((n0)++([32,50,47,52,32,49,47,50,59,32]))++(mr n1)) "text"])++[en ((((gd n0)++([59,32]))++(n1))++([32,49,47,51,44,50,47,51])) "text"])++[en (((((n0.take a)++([65]))++(n0.drop<|a+1))++([32,49,47,50,32,49,47,50,59,32]))++(mr n1)) "text",en (((([32])++(gd n0))++([59,32]))++(mr n1)) "text"])++[en (gd n0) "plan",en ((((((gd n0)++([59,32]))++(mr n1))++([59,32]))++(n2))++([32,49])) "plan",en ([]) "plan"])++[en ((((gd n0)++([59,32]))++(n2))++([32,49,47,51,32,50,47,51])) "plan"])++[en (((n0)++([32,49,47,50,32,49,47,51,59,32]))++(mr n1)) "plan",en (((n0)++([32,51,47,50,32,45,49,47,50,59,32]))++(mr n1)) "plan"])) h0 h1 h2 ha (by simp);have f8:=b_8 (n2:=n2) (x:=x) (l:=((((((([en (((gd n0)++([59,32]))++(gd n0)) "text",en (((gd n0)++([59]))++(mr n1)) "text",en ((((gd n0)++([59,32]))++(mr n1))++([32])) "text"]++[en (((n0)++([32,32,49,47,50,32,49,47,50,59,32]))++(mr n1)) "text",en (((n0)++([32,50,47,52,32,49,47,50,59,32]))++(mr n1)) "text"])++[en ((((gd n0)++([59,32]))++(n1))++([32,49,47,51,44,50,47,51])) "text"])++[en (((((n0.take a)++([65]))++(n0.drop<|a+1))++([32,49,47,50,32,49,47,50,59,32]))++(mr n1)) "text",en (((([32])++(gd n0))++([59,32]))++(mr n1)) "text"])++[en (gd n0) "plan",en ((((((gd n0)++([59,32]))++(mr n1))++([59,32]))++(n2))++([32,49])) "plan",en ([]) "plan"])++[en ((((gd n0)++([59,32]))++(n2))++([32,49,47,51,32,50,47,51])) "plan"])++[en (((n0)++([32,49,47,50,32,49,47,51,59,32]))++(mr n1)) "plan",en (((n0)++([32,51,47,50,32,45,49,47,50,59,32]))++(mr n1)) "plan"])++[en (((n0)++([32,49,59,32]))++(mr n1)) "plan"])) h0 h1 h2 ha (by simp);have m1:=fm x (b:=17) (by decide);have m2:=eI x (b:=17) (by decide);obtain⟨e,hm,he⟩:=J0 (L:=(((((((([en (((gd n0)++([59,32]))++(gd n0)) "text",en (((gd n0)++([59]))++(mr n1)) "text",en ((((gd n0)++([59,32]))++(mr n1))++([32])) "text"]++[en (((n0)++([32,32,49,47,50,32,49,47,50,59,32]))++(mr n1)) "text",en (((n0)++([32,50,47,52,32,49,47,50,59,32]))++(mr n1)) "text"])++[en ((((gd n0)++([59,32]))++(n1))++([32,49,47,51,44,50,47,51])) "text"])++[en (((((n0.take a)++([65]))++(n0.drop<|a+1))++([32,49,47,50,32,49,47,50,59,32]))++(mr n1)) "text",en (((([32])++(gd n0))++([59,32]))++(mr n1)) "text"])++[en (gd n0) "plan",en ((((((gd n0)++([59,32]))++(mr n1))++([59,32]))++(n2))++([32,49])) "plan",en ([]) "plan"])++[en ((((gd n0)++([59,32]))++(n2))++([32,49,47,51,32,50,47,51])) "plan"])++[en (((n0)++([32,49,47,50,32,49,47,51,59,32]))++(mr n1)) "plan",en (((n0)++([32,51,47,50,32,45,49,47,50,59,32]))++(mr n1)) "plan"])++[en (((n0)++([32,49,59,32]))++(mr n1)) "plan"])++[en (((((n0)++([32]))++(aT 31 49))++([32,48,59,32]))++(mr n1)) "text"])++[en (((n0)++([32,49,47,50,32,49,47,52,32,49,47,52,59,32]))++(mr n1)) "plan"]) (i:=x%17) m1 (by simp;omega);obtain⟨m,fr⟩:=b_r (n0:=n0) (n1:=n1) (n2:=n2) (x:=x) (a:=a) (l:=(((((((([en (((gd n0)++([59,32]))++(gd n0)) "text",en (((gd n0)++([59]))++(mr n1)) "text",en ((((gd n0)++([59,32]))++(mr n1))++([32])) "text"]++[en (((n0)++([32,32,49,47,50,32,49,47,50,59,32]))++(mr n1)) "text",en (((n0)++([32,50,47,52,32,49,47,50,59,32]))++(mr n1)) "text"])++[en ((((gd n0)++([59,32]))++(n1))++([32,49,47,51,44,50,47,51])) "text"])++[en (((((n0.take a)++([65]))++(n0.drop<|a+1))++([32,49,47,50,32,49,47,50,59,32]))++(mr n1)) "text",en (((([32])++(gd n0))++([59,32]))++(mr n1)) "text"])++[en (gd n0) "plan",en ((((((gd n0)++([59,32]))++(mr n1))++([59,32]))++(n2))++([32,49])) "plan",en ([]) "plan"])++[en ((((gd n0)++([59,32]))++(n2))++([32,49,47,51,32,50,47,51])) "plan"])++[en (((n0)++([32,49,47,50,32,49,47,51,59,32]))++(mr n1)) "plan",en (((n0)++([32,51,47,50,32,45,49,47,50,59,32]))++(mr n1)) "plan"])++[en (((n0)++([32,49,59,32]))++(mr n1)) "plan"])++[en (((((n0)++([32]))++(aT 31 49))++([32,48,59,32]))++(mr n1)) "text"])) h0 h1 h2 ha (by simp) he;have hm:e∈(BT n0 n1 n2 a).map λp=>en p.1 p.2:=hm;obtain⟨p,hp1,rfl⟩:=oB.mp hm;refine⟨p,hp1,?_⟩;have run:iD ([.fz<|.lst [.str<|tx n0,.str<|tx n1,.str<|tx n2],.fz<|.int x,.un,.un,.un,.un,.un,.un])=.ok (.rt false<|en p.1 p.2,m):=by
  unfold iD;simp only[aP,e0,e1,e2,e3,e4,f0,f1,f2,f3,f4,f5,f6,f7,f8];exact fr
 exact Gq rfl run
end
open L2 (atI ixN Key)
abbrev hf:List Nat:=[49,47,50]
abbrev th:List Nat:=[49,47,51]
abbrev tt:List Nat:=[50,47,51]
theorem Xb {c d x:Nat}{a b:List Nat}(ha:c∉a)(hx:x≠d)(hb:c∉x::b):Np c d (a++c::x::b):=λi h1 h2=>by
 by_cases z:i<a.length
 ·rw[b6 z] at h1;exact ha<|fN h1
 ·obtain⟨k,rfl⟩:=mP<|Nat.not_lt.mp z;rw[cE<|by omega] at h1;rw[cE<|by omega] at h2;cases k with
  |zero=>
   rw[show a.length+0+1-a.length=1 by omega] at h2;exact hx<|by simpa using h2
  |succ k=>
   rw[show a.length+(k+1)-a.length=k+1 by omega] at h1;exact hb<|fN<|by simpa using h1
structure N3 (n0 n1 n2:List Nat):Prop where
 a:Nam n0
 b:Nam n1
 c:Nam n2
 ab:n0≠n1
 ac:n0≠n2
 bc:n1≠n2
abbrev pr (n:List Nat)(d:D):D:=.tup [.str<|tx n,d]
abbrev ky (n:List Nat):Key:=.inr<|tx n
theorem aap {a:List Nat}{d:D}:iJ [.lst [pr a d]]=some (.dct [ky a] [d]):=by simp[iJ,Hs,sS,nR,putD]
theorem XH {a:List Nat}{d e:D}:iJ [.lst [pr a d,pr a e]]=some (.dct [ky a] [e]):=by simp[iJ,Hs,sS,nR,putD,Eu]
theorem VL {a b:List Nat}{d e:D}(h:a≠b):iJ [.lst [pr a d,pr b e]]=some (.dct [ky a,ky b] [d,e]):=by
 have n1:¬(tx a=tx b):=λz=>h<|gZ.mp z;simp[iJ,Hs,sS,nR,putD,n1]
theorem Uk {a b c:List Nat}{d e f:D}(h:a≠b)(h':a≠c)(h'':b≠c):iJ [.lst [pr a d,pr b e,pr c f]]=some (.dct [ky a,ky b,ky c] [d,e,f]):=by
 have n1:¬(tx a=tx b):=λz=>h<|gZ.mp z;have n2:¬(tx a=tx c):=λz=>h'<|gZ.mp z;have n3:¬(tx b=tx c):=λz=>h''<|gZ.mp z;simp[iJ,Hs,sS,nR,putD,n1,n2,n3]
theorem v_1 {a:List Nat}{ks:List Key}{d:D}{ds:List D}:qW (ky a::ks) (d::ds) (ky a)=some d:=if_pos rfl
theorem v_2 {a b:List Nat}{ks:List Key}{d:D}{ds:List D}(h:a≠b):qW (ky a::ks) (d::ds) (ky b)=qW ks ds (ky b):=if_neg λz=>h<|gZ.mp<|Sum.inr.inj z
section
variable {g:D}{s:Int}{n0 n1 n2:List Nat}
theorem Vz {d e:D}{b:Bool}(h:bz [d,.int 2]=.ok (false,.bl b)):Fnd [ky n0,ky n1] [d,e] n0 b:=.inl ⟨d,v_1,h⟩
theorem VF {d e:D}{b:Bool}(ab:n0≠n1)(h:bz [e,.int 2]=.ok (false,.bl b)):Fnd [ky n0,ky n1] [d,e] n1 b:=.inl ⟨e,(v_2 ab).trans v_1,h⟩
theorem r_y {n:List Nat}{ps:List (List Nat)}{qs:List (Int×Int)}(hn:Nam n)(h:eP RdY ps qs)(h0:ps≠[])(hp:∀p∈ps,32∉p)(hl:(jl [32] ([]::ps)).length<=100)(h1:ps.length<=100):RwY (jl [32] (n::ps)) (pr n<|.tup<|qs.map qD):=by
 refine ZC hn h h0 hp ?_ h1
 have:=hn.hi
 cases ps with
 |nil=>exact absurd rfl h0
 |cons p r=>simp[jl] at hl ⊢;omega
theorem r_n {n p:List Nat}{ps rs:List (List Nat)}{qs:List (Int×Int)}(hn:Nam n)(h:eP RdY ps qs)(hr:RdN p)(hp:∀x∈ps++p::rs,32∉x)(hl:(jl [32] ([]::(ps++p::rs))).length<=100)(h1:(ps++p::rs).length<=100):RwN (jl [32] (n::(ps++p::rs))):=by
 refine V5 hn h hr hp ?_ h1
 have:=hn.hi
 cases ps with
 |nil=>simp[jl] at hl ⊢;omega
 |cons p r=>simp[jl] at hl ⊢;omega
abbrev gR (n:List Nat):List Nat:=jl [32] [n,hf,hf]
abbrev mR (n:List Nat):List Nat:=jl [32] [n,th,tt]
theorem rG (h:Nam n0):RwY (gR n0) (pr n0<|.tup [qD (1,2),qD (1,2)]):=r_y h (.cons Ot<|.cons Ot .nil) (by simp) (by decide) (by decide)<|by decide
theorem rM (h:Nam n0):RwY (mR n0) (pr n0<|.tup [qD (1,3),qD (2,3)]):=r_y h (.cons Wt<|.cons Zx .nil) (by simp) (by decide) (by decide)<|by decide
def Rok (r:List Nat):Prop:=59∉r/\1<=r.length/\r.length<=100
theorem j4 {n:List Nat}{ps:List (List Nat)}(hn:Nam n)(hp:59∉jl [32] ([]::ps))(hl:(jl [32] ([]::ps)).length<=90):Rok (jl [32] (n::ps)):=by
 have h1:=hn.lo;have h2:=hn.hi;have h3:=hn.no (c:=59)<|.inr rfl;cases ps with
 |nil=>exact⟨h3,h1,by show n.length<=100;omega⟩
 |cons p r=>
  simp[jl] at hp hl;refine⟨by simp[jl,h3,hp],by simp[jl];omega,by simp[jl];omega⟩
theorem kG (h:Nam n0):Rok (gR n0):=j4 h (by decide)<|by decide
theorem kM (h:Nam n0):Rok (mR n0):=j4 h (by decide)<|by decide
theorem VG {r:List Nat}(h:Np 59 32 r)(h1:1<=r.length)(h2:r.length<=100):RsT [r]:=
 ⟨by simp,by simpa using h,by show r.length<=1000;omega,λz=>by rw[show r=[] from z] at h1;simp at h1,by simp⟩
theorem Fp {r r':List Nat}(h:Rok r)(h':Rok r'):RsT [r,r']:=by
 obtain⟨a,b,c⟩:=h;obtain⟨a',b',c'⟩:=h';refine⟨by simp,λp hp=>?_,by simp[jl];omega,by simp[jl],by simp⟩;simp at hp;rcases hp with rfl|rfl
 ·exact .of a
 ·exact .of a'
theorem Vg {r r' q:List Nat}(h:Rok r)(h':Rok r')(hq:Rok q):RsT [r,r',q]:=by
 obtain⟨a,b,c⟩:=h;obtain⟨a',b',c'⟩:=h';obtain⟨a2,b2,c2⟩:=hq;refine⟨by simp,λp hp=>?_,by simp[jl];omega,by simp[jl],by simp⟩;simp at hp;rcases hp with rfl|rfl|rfl
 ·exact .of a
 ·exact .of a'
 ·exact .of a2
abbrev gq (g:D)(s:Int)(l:List Nat)(w:Str):Prop:=(w = "text"/\cP [g,.int s,.str<|tx l]=.exc nT)\/(w = "plan"/\cP [g,.int s,.str<|tx l]=.exc nP)
theorem e_1 {r q:List Nat}(k:Rok r)(k':Rok q)(h:RwN r):gq g s (jl [59,32] [r,q]) "text":=.inl ⟨rfl,WR<|HD (ps:=[]) (rs:=[q]) (Fp k k') .nil h⟩
theorem e_2 {r q:List Nat}{d:D}(k:Rok r)(k':Rok q)(h':RwY r d)(h:RwN q):gq g s (jl [59,32] [r,q]) "text":=.inl ⟨rfl,WR<|HD (ps:=[r]) (rs:=[]) (Fp k k') (.cons h' .nil) h⟩
theorem e_p {a b r q:List Nat}{d e:D}(G:G2 g s n0 n1)(ab:a≠b)(k:Rok r)(k':Rok q)(h:RwY r (pr a d))(h':RwY q (pr b e))(np:Ef n0 n1 (.dct [ky a,ky b] [d,e])):gq g s (jl [59,32] [r,q]) "plan":=
 .inr ⟨rfl,Vh (wG (Fp k k')<|.cons h<|.cons h' .nil) (VL ab) rfl<|xZ G np⟩
theorem e_s {r:List Nat}{d:D}(G:G2 g s n0 n1)(N:N3 n0 n1 n2)(k:Rok r)(h:RwY r (pr n0 d))(f:FsN d):gq g s (jl [59,32] [r,mR n1]) "plan":=
 e_p G N.ab k (kM N.b) h (rM N.b) (.row rfl (Vz f) (VF N.ab Zg) rfl)
theorem U7 (G:G2 g s n0 n1)(N:N3 n0 n1 n2){a:Nat}(ha:a<n0.length):∀p∈BT n0 n1 n2 a,gq g s p.1 p.2:=by
 have L0:=N.a.hi;have c0:gq g s ((gd n0++[59,32])++gd n0) "text":=by
  have:cP [g,.int s,.str<|tx<|jl [59,32] [gR n0,gR n0]]=.exc nT:=Xa (wG (Fp (kG N.a)<|kG N.a)<|.cons (rG N.a)<|.cons (rG N.a) .nil) XH<|by simp
  refine .inl ⟨rfl,?_⟩;rw[show(gd n0++[59,32])++gd n0=jl [59,32] [gR n0,gR n0] by simp[jl]];exact this
 have c1:gq g s ((gd n0++[59])++mr n1) "text":=by
  have rn:RwN (jl [32] (n0::([hf]++([49]++47::50::59::n1)::[th,tt]))):=by
   refine V5 N.a (.cons Ot .nil) (aba N.b) (λx hx=>?_) ?_<|by simp
   ·simp at hx
    have:=N.b.no (c:=32)<|.inl rfl
    rcases hx with rfl|rfl|rfl|rfl
    ·decide
    ·simpa using this
    ·decide
    ·decide
   ·have:=N.b.hi
    simp[jl];omega
  obtain⟨x,n1',e1⟩:∃x n1',n1=x::n1':=by
   cases h:n1 with
   |nil=>have:=N.b.lo;rw[h] at this;simp at this
   |cons x r=>exact⟨x,r,rfl⟩
  have hx:x≠32:=λz=>N.b.no (c:=32) (.inl rfl) (by rw[e1,z];simp);have h59:59∉n1:=N.b.no<|.inr rfl;have h59':59∉n0:=N.a.no<|.inr rfl;have e2:jl [32] (n0::([hf]++([49]++47::50::59::n1)::[th,tt]))=gd n0++59::x::(n1'++[32,49,47,51,32,50,47,51]):=by simp[jl,e1]
  have np:Np 59 32 (jl [32] (n0::([hf]++([49]++47::50::59::n1)::[th,tt]))):=by
   rw[e2];refine Xb (by simp[h59']) hx ?_;rw[e1] at h59;simp at h59 ⊢;exact h59
  have T:=VG np (by simp[jl];omega) (by have:=N.b.hi;simp[jl];omega)
  have:=HD (ps:=[]) (rs:=[]) T .nil rn
  refine .inl ⟨rfl,?_⟩;rw[show(gd n0++[59])++mr n1=jl [59,32] ([]++jl [32] (n0::([hf]++([49]++47::50::59::n1)::[th,tt]))::[]) by simp[jl]];exact WR this
 have c2:gq g s (((gd n0++[59,32])++mr n1)++[32]) "text":=by
  have:=e_2 (g:=g) (s:=s) (kG N.a) (q:=jl [32] (n1::([th,tt]++[]::[]))) (j4 N.b (by decide)<|by decide) (rG N.a)<|r_n N.b (.cons Wt<|.cons Zx .nil) YL (by decide) (by decide)<|by decide
  simpa[jl] using this
 have c3:gq g s ((n0++[32,32,49,47,50,32,49,47,50,59,32])++mr n1) "text":=by
  have:=e_1 (g:=g) (s:=s) (r:=jl [32] (n0::([]++[]::[hf,hf]))) (j4 N.a (by decide)<|by decide) (kM N.b)<|r_n N.a .nil YL (by decide) (by decide)<|by decide
  simpa[jl] using this
 have c4:gq g s ((n0++[32,50,47,52,32,49,47,50,59,32])++mr n1) "text":=by
  have:=e_1 (g:=g) (s:=s) (r:=jl [32] (n0::([]++[50,47,52]::[hf]))) (j4 N.a (by decide)<|by decide) (kM N.b)<|r_n N.a .nil aa0 (by decide) (by decide)<|by decide
  simpa[jl] using this
 have c5:gq g s (((gd n0++[59,32])++n1)++[32,49,47,51,44,50,47,51]) "text":=by
  have:=e_2 (g:=g) (s:=s) (kG N.a) (q:=jl [32] (n1::([]++[49,47,51,44,50,47,51]::[]))) (j4 N.b (by decide)<|by decide) (rG N.a)<|r_n N.b .nil aa6 (by decide) (by decide)<|by decide
  simpa[jl] using this
 have c6:gq g s ((((n0.take a++[65])++n0.drop (a+1))++[32,49,47,50,32,49,47,50,59,32])++mr n1) "text":=by
  have hm:∀c∈n0.take a++[65]++n0.drop (a+1),c=65\/c∈n0:=λc hc=>by
   simp at hc;rcases hc with hc|hc|hc
   ·exact .inr<|List.mem_of_mem_take hc
   ·exact .inl hc
   ·exact .inr<|List.mem_of_mem_drop hc
  have ρ:(n0.take a++[65]++n0.drop (a+1)).length=n0.length:=by simp;omega
  have hs:∀c∈n0.take a++[65]++n0.drop (a+1),c=65\/97<=c/\c<=122\/48<=c/\c<=57:=λc hc=>(hm c hc).imp id<|N.a.sg c;have hok:okB nks 8 (n0.take a++[65]++n0.drop (a+1))=false:=by
   have:inB nks 65=false:=by decide
   simp[okB,this]
  generalize n0.take a++[65]++n0.drop (a+1)=n' at *;have rb:RwN (jl [32] (n'::[hf,hf])):=We hok (λz=>by have:=hs 32 z;omega) (by decide) (by simp[jl];omega) (by omega) (λc hc=>by
   simp[jl] at hc;rcases hc with hc|hc
   ·have:=hs c hc;omega
   ·omega)
  have k:Rok (jl [32] (n'::[hf,hf])):=⟨λz=>by
   simp[jl] at z
   have:=hs 59 z;omega,by simp[jl],by simp[jl];omega⟩
  have:=e_1 (g:=g) (s:=s) k (kM N.b) rb
  simpa[jl] using this
 have c7:gq g s ((([32]++gd n0)++[59,32])++mr n1) "text":=by
  have h59':59∉n0:=N.a.no<|.inr rfl;have h32:32∉n0:=N.a.no<|.inl rfl;have rb:RwN (jl [32] ([]::[n0,hf,hf])):=We (by decide) (by decide) (λp hp=>by
   simp at hp;rcases hp with rfl|rfl
   ·exact h32
   ·decide) (by simp[jl];omega) (by decide) (λc hc=>by
   simp[jl] at hc;rcases hc with hc|hc|hc
   ·omega
   ·have:=N.a.sg c hc;omega
   ·omega)
  have k:Rok (jl [32] ([]::[n0,hf,hf])):=⟨λz=>by simp[jl] at z;exact h59' z,by simp[jl],by simp[jl];omega⟩
  have:=e_1 (g:=g) (s:=s) k (kM N.b) rb
  simpa[jl] using this
 have c8:gq g s (gd n0) "plan":=by
  have T:RsT [gR n0]:=VG (.of (kG N.a).1) (kG N.a).2.1 (kG N.a).2.2
  have:=Vh (φ:=bO) (g:=g) (s:=.int s) (wG T<|.cons (rG N.a) .nil) aap rfl<|xZ G<|.len<|by simp
  refine .inr ⟨rfl,?_⟩;rw[show gd n0=jl [59,32] [gR n0] by simp[jl]];exact this
 have c9:gq g s (((((gd n0++[59,32])++mr n1)++[59,32])++n2)++[32,49]) "plan":=by
  have r3:RwY (jl [32] [n2,[49]]) (pr n2<|.tup [qD (1,1)]):=r_y N.c (.cons rd1 .nil) (by simp) (by decide) (by decide) (by decide);have k3:Rok (jl [32] [n2,[49]]):=j4 N.c (by decide)<|by decide
  have:=Vh (φ:=bO) (g:=g) (s:=.int s) (wG (Vg (kG N.a) (kM N.b) k3)<|.cons (rG N.a)<|.cons (rM N.b)<|.cons r3 .nil) (Uk N.ab N.ac N.bc) rfl<|xZ G<|.len<|by simp
  refine .inr ⟨rfl,?_⟩;rw[show((((gd n0++[59,32])++mr n1)++[59,32])++n2)++[32,49]=jl [59,32] [gR n0,mR n1,jl [32] [n2,[49]]] by simp[jl]];exact this
 have c10:gq g s [] "plan":=by
  have e:tx []=af "":=Dj.symm
  have:=Vh (φ:=bO) (g:=g) (s:=.int s) Yz (show iJ [.lst []]=some (.dct [] []) from rfl) rfl (xZ G<|.len<|by decide)
  refine .inr ⟨rfl,?_⟩;rw[e];exact this
 have c11:gq g s (((gd n0++[59,32])++n2)++[32,49,47,51,32,50,47,51]) "plan":=by
  have:=e_p G N.ac (kG N.a) (kM N.c) (rG N.a) (rM N.c)<|.row rfl (.inl ⟨_,v_1,Sv⟩) (.inr ⟨(v_2 N.ab).trans<|(v_2 N.bc.symm).trans rfl,rfl⟩) rfl
  simpa[jl] using this
 have c12:gq g s ((n0++[32,49,47,50,32,49,47,51,59,32])++mr n1) "plan":=by
  have:=e_s G N (r:=jl [32] [n0,hf,th]) (j4 N.a (by decide)<|by decide) (r_y N.a (.cons Ot<|.cons Wt .nil) (by simp) (by decide) (by decide)<|by decide) ZX
  simpa[jl] using this
 have c13:gq g s ((n0++[32,51,47,50,32,45,49,47,50,59,32])++mr n1) "plan":=by
  have:=e_s G N (r:=jl [32] [n0,[51,47,50],[45,49,47,50]]) (j4 N.a (by decide)<|by decide) (r_y N.a (.cons aa9<|.cons abw .nil) (by simp) (by decide) (by decide)<|by decide) aac
  simpa[jl] using this
 have c14:gq g s ((n0++[32,49,59,32])++mr n1) "plan":=by
  have:=e_s G N (r:=jl [32] [n0,[49]]) (j4 N.a (by decide)<|by decide) (r_y N.a (.cons rd1 .nil) (by simp) (by decide) (by decide)<|by decide) Zw
  simpa[jl] using this
 have c15:gq g s ((((n0++[32])++aT 31 49)++[32,48,59,32])++mr n1) "text":=by
  have:=e_1 (g:=g) (s:=s) (r:=jl [32] (n0::([]++aT 31 49::[[48]]))) (j4 N.a (by decide)<|by decide) (kM N.b)<|r_n N.a .nil abg (by decide) (by decide)<|by decide
  simpa[jl] using this
 have c16:gq g s ((n0++[32,49,47,50,32,49,47,52,32,49,47,52,59,32])++mr n1) "plan":=by
  have:=e_s G N (r:=jl [32] [n0,hf,[49,47,52],[49,47,52]]) (j4 N.a (by decide)<|by decide) (r_y N.a (.cons Ot<|.cons aai<|.cons aai .nil) (by simp) (by decide) (by decide)<|by decide) aaR
  simpa[jl] using this
 intro p hp;unfold BT at hp;simp only[bP,lT,or_false] at hp;rcases hp with rfl|rfl|rfl|rfl|rfl|rfl|rfl|rfl|rfl|rfl|rfl|rfl|rfl|rfl|rfl|rfl|rfl
 ·exact c0
 ·exact c1
 ·exact c2
 ·exact c3
 ·exact c4
 ·exact c5
 ·exact c6
 ·exact c7
 ·exact c8
 ·exact c9
 ·exact c10
 ·exact c11
 ·exact c12
 ·exact c13
 ·exact c14
 ·exact c15
 ·exact c16
end
open L2 (atI ixN Key)
abbrev hD:D:=.tup [.tup [.int 1,.int 2],.tup [.int 1,.int 2]]
def uS (n0 n1 n2:List Nat)(x:Int)(u:Sl):Me:=[.fz<|.lst [.str<|tx n0,.str<|tx n1,.str<|tx n2],.fz<|.int x,.fz<|.str<|tx n0,.fz<|.str<|tx n1,.fz hD,u]
section
variable {n0 n1 n2:List Nat}{x:Int}{l:List D}
def uE0 (n0 n1 n2:List Nat):List D:=[.dct [ky n0] [hD],.dct [ky n0,ky n1,ky n2] [hD,hD,hD],.dct [ky n0,ky n1] [hD,.tup [.tup [.int 1,.int 1]]]]
theorem ul0:(uE0 n0 n1 n2).length=3:=rfl
def uE1 (n0 n1 n2:List Nat):List D:=[.dct [ky n0,ky n1] [hD,.lst [.tup [.int 1,.int 1],.tup [.int 0,.int 1]]]]
theorem ul1:(uE1 n0 n1 n2).length=1:=rfl
def uE2 (n0 n1 n2:List Nat):List D:=[.dct [ky n0,ky n1] [hD,.tup [.tup [.int 1,.int 2],.tup [.int 1,.int 3]]],.dct [ky n0,ky n1] [hD,.tup [.tup [.int 3,.int 2],.tup [.int (-1),.int 2]]],.dct [] [],.non,.lst [.str<|tx n0,.str<|tx n1]]
theorem ul2:(uE2 n0 n1 n2).length=5:=rfl
def uE3 (n0 n1 n2:List Nat):List D:=[.dct [ky n0,ky n1] [hD,.tup [.tup [.int 2,.int 4],.tup [.int 1,.int 2]]],.dct [ky n0,ky n1] [hD,.non],.str "plan",.tup [.tup [.str<|tx n0,hD],.tup [.str<|tx n1,hD]]]
theorem ul3:(uE3 n0 n1 n2).length=4:=rfl
def uE4 (n0 n1 n2:List Nat):List D:=[.dct [ky n0,ky n1] [hD,.tup [.int 1,.int 0]],.dct [ky n0,.inl 7] [hD,hD],.dct [ky n0,ky n1] [hD,.tup [.tup [.bl true,.int 1],.tup [.int 0,.int 1]]]]
theorem ul4:(uE4 n0 n1 n2).length=3:=rfl
theorem u_0 (n1':¬tx n0=tx n1)(n2':¬tx n0=tx n2)(n3':¬tx n1=tx n2):(aX 5<|bI<|aj (dR [((aC 2),(aC 4))])<|aj (dR [((aC 2),(aC 4)),((aC 3),(aC 4)),((aA gIx (ak 0)<|fC<|.int 2),(aC 4))])<|aj (dR [((aC 2),(aC 4)),((aC 3),(aL<|aj (aL<|aj (fC<|.int 1)<|aj (fC<|.int 1) au) au))]) au) (uS n0 n1 n2 x .un)=.ok (.nx,uS n0 n1 n2 x<|.fz<|.lst<|uE0 n0 n1 n2):=by
 have x2:∀a b c:D,gIx (.lst [a,b,c]) (.int 2)=some c:=λ_ _ _=>rfl;unfold uS uE0;simp[aX,bI,aj,au,dR,oR,aC,ak,aA,fC,aL,fUn,pY,sS,putD,nR,x2,n1',n2',n3']
theorem u_1 (n1':¬tx n0=tx n1)(n2':¬tx n0=tx n2)(n3':¬tx n1=tx n2)(hl:l.length<=100):(aX 5<|aA aJ (ak 5)<|bI<|aj (dR [((aC 2),(aC 4)),((aC 3),(bI<|aj (aL<|aj (fC<|.int 1)<|aj (fC<|.int 1) au)<|aj (aL<|aj (fC<|.int 0)<|aj (fC<|.int 1) au) au))]) au) (uS n0 n1 n2 x<|.fz<|.lst l)=.ok (.nx,uS n0 n1 n2 x<|.fz<|.lst<|l++(uE1 n0 n1 n2)):=by
 have la:∀b:List D,b.length<=10->aJ (.lst l) (.lst b)=some (.lst<|l++b):=λb hb=>lA (by omega);have ng:wJ (.int 1)=some (.int (-1)):=rfl;unfold uS uE1;simp[aX,bI,aj,au,dR,oR,aC,ak,aA,fC,aL,fUn,pY,sS,putD,nR,ng,la,n1',n2',n3']
theorem u_2 (n1':¬tx n0=tx n1)(n2':¬tx n0=tx n2)(n3':¬tx n1=tx n2)(hl:l.length<=100):(aX 5<|aA aJ (ak 5)<|bI<|aj (dR [((aC 2),(aC 4)),((aC 3),(aL<|aj (aL<|aj (fC<|.int 1)<|aj (fC<|.int 2) au)<|aj (aL<|aj (fC<|.int 1)<|aj (fC<|.int 3) au) au))])<|aj (dR [((aC 2),(aC 4)),((aC 3),(aL<|aj (aL<|aj (fC<|.int 3)<|aj (fC<|.int 2) au)<|aj (aL<|aj (fUn wJ<|fC<|.int 1)<|aj (fC<|.int 2) au) au))])<|aj pY<|aj (fC .non)<|aj (bI<|aj (aC 2)<|aj (aC 3) au) au) (uS n0 n1 n2 x<|.fz<|.lst l)=.ok (.nx,uS n0 n1 n2 x<|.fz<|.lst<|l++(uE2 n0 n1 n2)):=by
 have la:∀b:List D,b.length<=10->aJ (.lst l) (.lst b)=some (.lst<|l++b):=λb hb=>lA (by omega);have ng:wJ (.int 1)=some (.int (-1)):=rfl;unfold uS uE2;simp[aX,bI,aj,au,dR,oR,aC,ak,aA,fC,aL,fUn,pY,sS,putD,nR,ng,la,n1',n2',n3']
theorem u_3 (n1':¬tx n0=tx n1)(n2':¬tx n0=tx n2)(n3':¬tx n1=tx n2)(hl:l.length<=100):(aX 5<|aA aJ (ak 5)<|bI<|aj (dR [((aC 2),(aC 4)),((aC 3),(aL<|aj (aL<|aj (fC<|.int 2)<|aj (fC<|.int 4) au)<|aj (aL<|aj (fC<|.int 1)<|aj (fC<|.int 2) au) au))])<|aj (dR [((aC 2),(aC 4)),((aC 3),(fC .non))])<|aj (fC<|.str "plan")<|aj (aL<|aj (aL<|aj (aC 2)<|aj (aC 4) au)<|aj (aL<|aj (aC 3)<|aj (aC 4) au) au) au) (uS n0 n1 n2 x<|.fz<|.lst l)=.ok (.nx,uS n0 n1 n2 x<|.fz<|.lst<|l++(uE3 n0 n1 n2)):=by
 have la:∀b:List D,b.length<=10->aJ (.lst l) (.lst b)=some (.lst<|l++b):=λb hb=>lA (by omega);have ng:wJ (.int 1)=some (.int (-1)):=rfl;unfold uS uE3;simp[aX,bI,aj,au,dR,oR,aC,ak,aA,fC,aL,fUn,pY,sS,putD,nR,ng,la,n1',n2',n3']
theorem u_r (n1':¬tx n0=tx n1)(n2':¬tx n0=tx n2)(n3':¬tx n1=tx n2)(hl:l.length=13){e:D}(he:gIx (.lst<|l++(uE4 n0 n1 n2)) (.int<|x%16)=some e):∃m,(bC<|aA gIx (aA aJ (ak 5)<|bI<|aj (dR [((aC 2),(aC 4)),((aC 3),(aL<|aj (fC<|.int 1)<|aj (fC<|.int 0) au))])<|aj (dR [((aC 2),(aC 4)),((fC<|.int 7),(aC 4))])<|aj (dR [((aC 2),(aC 4)),((aC 3),(aL<|aj (aL<|aj (fC<|.bl true)<|aj (fC<|.int 1) au)<|aj (aL<|aj (fC<|.int 0)<|aj (fC<|.int 1) au) au))]) au)<|aA ir (ak 1)<|fC<|.int 16) (uS n0 n1 n2 x<|.fz<|.lst l)=.ok (.rt false e,m):=by
 have la:∀b:List D,b.length<=10->aJ (.lst l) (.lst b)=some (.lst<|l++b):=λb hb=>lA (by omega);have d2:=o8 (a:=x) (b:=16) (by decide);unfold uE4 at he;unfold uS;simp[bC,Me.let,Sl.let,bI,aj,au,dR,oR,aC,ak,aA,fC,aL,fUn,pY,sS,putD,nR,la,n1',n2',n3',d2,he]
def BP (n0 n1 n2:List Nat):List D:=[.dct [ky n0] [hD],.dct [ky n0,ky n1,ky n2] [hD,hD,hD],.dct [ky n0,ky n1] [hD,.tup [.tup [.int 1,.int 1]]],.dct [ky n0,ky n1] [hD,.lst [.tup [.int 1,.int 1],.tup [.int 0,.int 1]]],.dct [ky n0,ky n1] [hD,.tup [.tup [.int 1,.int 2],.tup [.int 1,.int 3]]],.dct [ky n0,ky n1] [hD,.tup [.tup [.int 3,.int 2],.tup [.int (-1),.int 2]]],.dct [] [],.non,.lst [.str<|tx n0,.str<|tx n1],.dct [ky n0,ky n1] [hD,.tup [.tup [.int 2,.int 4],.tup [.int 1,.int 2]]],.dct [ky n0,ky n1] [hD,.non],.str "plan",.tup [.tup [.str<|tx n0,hD],.tup [.str<|tx n1,hD]],.dct [ky n0,ky n1] [hD,.tup [.int 1,.int 0]],.dct [ky n0,.inl 7] [hD,hD],.dct [ky n0,ky n1] [hD,.tup [.tup [.bl true,.int 1],.tup [.int 0,.int 1]]]]
theorem aao (N:N3 n0 n1 n2):∃e∈BP n0 n1 n2,d9 [.lst [.str<|tx n0,.str<|tx n1,.str<|tx n2],.int x]=.ok (false,e):=by
 have n1':¬tx n0=tx n1:=λz=>N.ab<|gZ.mp z;have n2':¬tx n0=tx n2:=λz=>N.ac<|gZ.mp z;have n3':¬tx n1=tx n2:=λz=>N.bc<|gZ.mp z;have m1:=fm x (b:=16) (by decide);have m2:=eI x (b:=16) (by decide);obtain⟨e,hm,he⟩:=J0 (L:=((((uE0 n0 n1 n2)++(uE1 n0 n1 n2))++(uE2 n0 n1 n2))++(uE3 n0 n1 n2))++(uE4 n0 n1 n2)) (i:=x%16) m1 (by simp only[a9,ul0,ul1,ul2,ul3,ul4];omega);obtain⟨m,fr⟩:=u_r (n0:=n0) (n1:=n1) (n2:=n2) (x:=x) (l:=((((uE0 n0 n1 n2)++(uE1 n0 n1 n2))++(uE2 n0 n1 n2))++(uE3 n0 n1 n2))) n1' n2' n3' (by simp only[a9,ul0,ul1,ul2,ul3]) he;have f0:=u_0 (x:=x) n1' n2' n3';have f1:=u_1 (x:=x) (l:=(uE0 n0 n1 n2)) n1' n2' n3' (by simp only[a9,ul0,ul1,ul2,ul3];omega);have f2:=u_2 (x:=x) (l:=((uE0 n0 n1 n2)++(uE1 n0 n1 n2))) n1' n2' n3' (by simp only[a9,ul0,ul1,ul2,ul3];omega);have f3:=u_3 (x:=x) (l:=(((uE0 n0 n1 n2)++(uE1 n0 n1 n2))++(uE2 n0 n1 n2))) n1' n2' n3' (by simp only[a9,ul0,ul1,ul2,ul3];omega);refine⟨e,hm,?_⟩;have e0:(aX 2<|aA gIx (ak 0)<|fC<|.int 0) [.fz<|.lst [.str<|tx n0,.str<|tx n1,.str<|tx n2],.fz<|.int x,.un,.un,.un,.un]=.ok (.nx,[.fz<|.lst [.str<|tx n0,.str<|tx n1,.str<|tx n2],.fz<|.int x,.fz<|.str<|tx n0,.un,.un,.un]):=rfl;have e1:(aX 3<|aA gIx (ak 0)<|fC<|.int 1) [.fz<|.lst [.str<|tx n0,.str<|tx n1,.str<|tx n2],.fz<|.int x,.fz<|.str<|tx n0,.un,.un,.un]=.ok (.nx,[.fz<|.lst [.str<|tx n0,.str<|tx n1,.str<|tx n2],.fz<|.int x,.fz<|.str<|tx n0,.fz<|.str<|tx n1,.un,.un]):=rfl;have e2:(aX 4<|aL<|aj (aL<|aj (fC<|.int 1)<|aj (fC<|.int 2) au)<|aj (aL<|aj (fC<|.int 1)<|aj (fC<|.int 2) au) au) [.fz<|.lst [.str<|tx n0,.str<|tx n1,.str<|tx n2],.fz<|.int x,.fz<|.str<|tx n0,.fz<|.str<|tx n1,.un,.un]=.ok (.nx,uS n0 n1 n2 x .un):=rfl;have run:iz [.fz<|.lst [.str<|tx n0,.str<|tx n1,.str<|tx n2],.fz<|.int x,.un,.un,.un,.un]=.ok (.rt false e,m):=by
  unfold iz;simp only[aP,e0,e1,e2,f0,f1,f2,f3];exact fr
 exact Gq rfl run
theorem Yt (N:N3 n0 n1 n2):∀e∈BP n0 n1 n2,Ef n0 n1 e:=by
 have two:∀{d:D},FsN d->Ef n0 n1 (.dct [ky n0,ky n1] [hD,d]):=λf=>.row rfl (Vz Sv) (VF N.ab f) rfl;intro e he;unfold BP at he;simp only[bP,lT,or_false] at he;rcases he with rfl|rfl|rfl|rfl|rfl|rfl|rfl|rfl|rfl|rfl|rfl|rfl|rfl|rfl|rfl|rfl
 ·exact .len<|by simp
 ·exact .len<|by simp
 ·exact two Zw
 ·exact two abp
 ·exact two ZX
 ·exact two aac
 ·exact .len<|by simp
 ·exact .kind λ_=>rfl
 ·exact .kind λ_=>rfl
 ·exact two abh
 ·exact two abi
 ·exact .kind λ_=>rfl
 ·exact .kind λ_=>rfl
 ·exact two abA
 ·exact .row rfl (.inl ⟨_,v_1,Sv⟩) (.inr ⟨(v_2 N.ab).trans rfl,rfl⟩) rfl
 ·exact two abr
end
open L2 (atI ixN Key)
open Lw (sgn Wh Kc Kq ss)
def szN (x:Int):Int:=1+x%8
def atN (x y:Int):Int:=y%szN x
def nI (x y:Int)(k j:Nat):Int:=(x/((j:Int)+1)+(j:Int)*j+((k:Int)+1)*(if(j:Int)=atN x y then 1 else 0))%36
def nS (x y:Int)(k:Nat):List Nat:=(ip (szN x).toNat).map λj=>sgn<|nI x y k j
def nst (x y:Int)(c l:Int)(N:List D)(k:Sl)(w j:Sl):Me:=[.fz<|.int x,.fz<|.int y,.fz<|.int c,.fz<|.str "abcdefghijklmnopqrstuvwxyz0123456789",.fz<|.int l,.fz<|.int<|atN x y,.ow<|.lst N,k,w,j]
theorem Mv {x y c l:Int}{N:List D}{acc:List Nat}{k j:Nat}(hk:k<=100)(hj:j<=8)(ha:acc.length<=100):
  gH (nst x y c l N (.fz<|.int k) (.fz<|.str<|tx acc)<|.fz<|.int (j:Int))=.ok (.nx,nst x y c l N (.fz<|.int k) (.fz<|.str<|tx<|acc++[sgn<|nI x y k j])<|.fz<|.int (j:Int)):=by
 have b1:0<=nI x y k j/\nI x y k j<36:=by unfold nI;omega
 have e1:=Wh b1;have e2:=vH (a:=(j:Int)) (b:=(j:Int)) (by omega) (by omega) (by omega) (by omega);have e3:=Fw (a:=x) (b:=(j:Int)+1) (by omega) (by omega);have e4:pW [.bl<|decide<|(j:Int)=atN x y]=some (.int<|if(j:Int)=atN x y then 1 else 0):=by simp[pW]
 have e5:=vH (a:=(k:Int)+1) (b:=if(j:Int)=atN x y then 1 else 0) (by omega) (by omega) (by split<;>omega) (by split<;>omega);have e6:ir (.int<|x/((j:Int)+1)+(j:Int)*j+((k:Int)+1)*(if(j:Int)=atN x y then 1 else 0)) (.int 36)=some (.int<|nI x y k j):=o8 (by decide);have e7:aJ (.str<|tx acc) (.str<|tx [sgn<|nI x y k j])=some (.str<|tx<|acc++[sgn<|nI x y k j]):=by
  show(if(tx acc).length+(tx [sgn<|nI x y k j]).length<=ai then some (D.str<|tx acc++tx [sgn<|nI x y k j]) else none)=_;rw[if_pos,mz];rw[bK,bK];have z:ai=16777216:=rfl
  simp
  omega
 have e8:gEq (.int (j:Int)) (.int<|atN x y)=some (decide<|(j:Int)=atN x y):=rfl;unfold nst;generalize(if(j:Int)=atN x y then(1:Int) else 0)=ii at *;generalize decide ((j:Int)=atN x y)=bb at *;generalize nI x y k j=nj at *;generalize atN x y=ax at *;generalize D.str "abcdefghijklmnopqrstuvwxyz0123456789" = Z at *;simp only[gH,aX,aA,ak,fC,aV,aj,au,lM];simp[e1,e2,Jj,e3,e4,e5,e6,e7,e8]
theorem zG {x y c l:Int}{N:List D}{k:Nat}(hk:k<=100):∀(d i:Nat) (acc:List Nat) (s:Sl),i+d<=8->acc.length+d<=100->∃s':Sl,
  cV (hName 9) gH ((l7 i d).map λ(j:Nat)=>D.int j) (nst x y c l N (.fz<|.int k) (.fz<|.str<|tx acc) s)=.ok (.nx,nst x y c l N (.fz<|.int k) (.fz<|.str<|tx<|acc++(l7 i d).map λj=>sgn<|nI x y k j) s')
 |0,i,acc,s,_,_=>⟨s,by simp[cV]⟩
 |d+1,i,acc,s,h1,h2=>by
  have st:=Mv (x:=x) (y:=y) (c:=c) (l:=l) (N:=N) (acc:=acc) (k:=k) (j:=i) hk (by omega) (by omega);obtain⟨s',e⟩:=zG hk d (i+1) (acc++[sgn<|nI x y k i]) (.fz<|.int (i:Int)) (by omega) (by simp;omega);refine⟨s',?_⟩;rw[oT,bo,dM (m1:=nst x y c l N (.fz<|.int k) (.fz<|.str<|tx acc)<|.fz<|.int (i:Int)) rfl st,e]
  simp
theorem Hf {x y c:Int}{N:List D}{k:Nat}{w s:Sl}(hk:k<=100)(hN:N.length<=100):∃w' s':Sl,jb (nst x y c (szN x) N (.fz<|.int k) w s)=.ok (.nx,nst x y c (szN x) (N++[.str<|tx<|nS x y k]) (.fz<|.int k) w' s'):=by
 have l1:1<=szN x/\szN x<=8:=by unfold szN;omega
 obtain⟨s',e⟩:=zG (x:=x) (y:=y) (c:=c) (l:=szN x) (N:=N) (k:=k) hk (szN x).toNat 0 [] s (by omega) (by simp;omega);refine⟨.fz<|.str<|tx<|nS x y k,s',?_⟩;have e:cV (hName 9) gH ((ip (szN x).toNat).map λ(j:Nat)=>D.int j) (nst x y c (szN x) N (.fz<|.int k) (.fz<|.str<|tx []) s)=.ok (.nx,nst x y c (szN x) N (.fz<|.int k) (.fz<|.str<|tx<|nS x y k) s'):=by
  rw[hZ,e];simp[nS,hZ]
 have hi:lV (aj (ak 4) au) (nst x y c (szN x) N (.fz<|.int k) (.fz<|.str<|tx []) s)=.ok ((ip (szN x).toNat).map λ(j:Nat)=>D.int j):=Lx rfl (by omega) (by omega);have el:lr (nst x y c (szN x) N (.fz<|.int k) (.fz<|.str<|tx []) s)=.ok (.nx,nst x y c (szN x) N (.fz<|.int k) (.fz<|.str<|tx<|nS x y k) s'):=by
  unfold lr mZ;rw[hi];exact e
 have ez:D.str (af "")=.str (tx []):=congrArg D.str Dj;have e0:aX 8 (fC<|.str "") (nst x y c (szN x) N (.fz<|.int k) w s)=.ok (.nx,nst x y c (szN x) N (.fz<|.int k) (.fz<|.str<|tx []) s):=by
  rw[← ez];rfl
 have ol:xV (nst x y c (szN x) N (.fz<|.int k) (.fz<|.str<|tx<|nS x y k) s') 6=some (true,N):=rfl;have hz:N.length<16777216:=by omega
 have ea:eF 6 (aC 8) (nst x y c (szN x) N (.fz<|.int k) (.fz<|.str<|tx<|nS x y k) s')=.ok (.nx,nst x y c (szN x) (N++[.str<|tx<|nS x y k]) (.fz<|.int k) (.fz<|.str<|tx<|nS x y k) s'):=by
  unfold eF;rw[ol]
  have:aC 8 (nst x y c (szN x) N (.fz<|.int k) (.fz<|.str<|tx<|nS x y k) s')=.ok (.str<|tx<|nS x y k):=rfl
  simp[this,hz];rfl
 simp[jb,aP,e0,el,ea]
theorem yE {x y c:Int}:∀(d i:Nat) (N:List D) (a w s:Sl),i+d<=100->N.length+d<=100->∃a' w' s':Sl,
  cV (hName 7) jb ((l7 i d).map λ(j:Nat)=>D.int j) (nst x y c (szN x) N a w s)=.ok (.nx,nst x y c (szN x) (N++(l7 i d).map λk=>.str<|tx<|nS x y k) a' w' s')
 |0,i,N,a,w,s,_,_=>⟨a,w,s,by simp[cV]⟩
 |d+1,i,N,a,w,s,h1,h2=>by
  obtain⟨w1,s1,st⟩:=Hf (x:=x) (y:=y) (c:=c) (N:=N) (k:=i) (w:=w) (s:=s) (by omega) (by omega);obtain⟨a',w',s',e⟩:=yE (x:=x) (y:=y) (c:=c) d (i+1) (N++[.str<|tx<|nS x y i]) (.fz<|.int (i:Int)) w1 s1 (by omega) (by simp;omega);refine⟨a',w',s',?_⟩;rw[oT,bo,dM (m1:=nst x y c (szN x) N (.fz<|.int (i:Int)) w s) rfl st,e]
  simp
theorem Lr {L:Zab}{x y c:Int}{N:List D}{a w s:Sl}(e:L (nst x y c (szN x) [] .un .un .un)=.ok (.nx,nst x y c (szN x) N a w s)):aW 10 3 (j9 L) [.int x,.int y,.int c]=.ok (true,.lst N):=by
 have e1:=o8 (a:=x) (b:=8) (by decide);have e2:aJ (.int 1) (.int<|x%8)=some (.int<|szN x):=rfl;have e4:ir (.int y) (.int<|szN x)=some (.int<|atN x y):=o8 (by unfold szN;omega);unfold aW j9;unfold nst at e;generalize szN x=lx at *;generalize atN x y=ax at *;generalize D.str "abcdefghijklmnopqrstuvwxyz0123456789" = Z at *;simp[aP,aX,fC,aA,ak,e1,e2,e4,dO,bI,au,e,rA]
theorem N8 {x y:Int}{c:Nat}(hc:c<=10):fJ [.int x,.int y,.int c]=.ok (true,.lst<|(ip c).map λk=>.str<|tx<|nS x y k):=by
 obtain⟨a,w,s,e⟩:=yE (x:=x) (y:=y) (c:=c) c 0 [] .un .un .un (by omega) (by simp;omega);refine Lr (a:=a) (w:=w) (s:=s) ?_;have hi:lV (aj (ak 2) au) (nst x y c (szN x) [] .un .un .un)=.ok ((ip (c:Int).toNat).map λ(j:Nat)=>D.int j):=Lx rfl (by omega) (by omega);unfold qw mZ;rw[hi]
 have:((c:Int)).toNat=c:=by omega
 rw[this,hZ];refine Eq.trans e ?_;simp[hZ]
theorem GQ (x y:Int)(k:Nat):Nam (nS x y k):=by
 have l1:1<=szN x/\szN x<=8:=by unfold szN;omega
 have l2:(nS x y k).length=(szN x).toNat:=by simp[nS]
 refine⟨by omega,by omega,λc hc=>?_⟩;obtain⟨j,_,rfl⟩:=oB.mp hc;have hm:=Kq (i:=nI x y k j) (by unfold nI;omega);have all:∀c∈ss,97<=c/\c<=122\/48<=c/\c<=57:=by decide
 exact all _ hm
theorem Qg {x y:Int}{k l:Nat}(hk:k<=20)(hl:l<=20)(h:nS x y k=nS x y l):k=l:=by
 have l1:1<=szN x/\szN x<=8:=by unfold szN;omega
 have a1:0<=atN x y/\atN x y<szN x:=by unfold atN;exact⟨fm _ (by omega),eI _<|by omega⟩
 have g:∀k,(nS x y k)[(atN x y).toNat]? = some (sgn<|nI x y k (atN x y).toNat):=λk=>by
  unfold nS;rw[dP,xt<|by omega];rfl
 have e2:sgn (nI x y k (atN x y).toNat)=sgn (nI x y l (atN x y).toNat):=by
  have:=g k
  rw[h,g l] at this;exact(bX this).symm
 have e3:=Kc (by unfold nI;omega) (by unfold nI;omega) e2;unfold nI at e3;have t:(((atN x y).toNat:Nat):Int)=atN x y:=by omega
 rw[t,if_pos rfl] at e3;generalize atN x y*atN x y=aa at *;omega
theorem names3 (x y:Int):fJ [.int x,.int y,.int 3]=.ok (true,.lst [.str<|tx<|nS x y 0,.str<|tx<|nS x y 1,.str<|tx<|nS x y 2]):=N8 (c:=3)<|by decide
theorem ZL (x y:Int):N3 (nS x y 0) (nS x y 1) (nS x y 2):=⟨GQ x y 0,GQ x y 1,GQ x y 2,λz=>absurd (Qg (by decide) (by decide) z) (by decide),λz=>absurd (Qg (by decide) (by decide) z) (by decide),λz=>absurd (Qg (by decide) (by decide) z)<|by decide⟩
open L2 (atI ixN Key)
def sn (v:Int)(k j:Nat):Str:=if v=0 then "all" else if(if v=1 then j else k)=0 then "all0" else "all1"
def qa (k j:Nat):Q2:=if k=1/\j=1 then(0,1) else((k:Int)+j,1)
def qb (k j:Nat):Q2:=if k=1/\j=1 then(5,1) else((k:Int)-j,2*(j:Int)+1)
def pK (fi v:Int)(k j:Nat):Gm:=.move (3-fi) (sn v k j)<|.cons (.str "c") (.fin<|qa k j)<|.cons (.str "d") (.fin<|qb k j) .nil
def wd (j:Nat):Str:=if j=0 then "a" else "b"
def mK (fi v:Int)(n:List Nat)(k:Nat):Gm:=.move fi (tx n)<|.cons (.str<|wd 0) (pK fi v k 0)<|.cons (.str<|wd 1) (pK fi v k 1) .nil
def gK (fi v:Int)(n0 n1:List Nat):Gm:=.deal (af "coin")<|.cons (qD (1,2)) (mK fi v n0 0)<|.cons (qD (1,2)) (mK fi v n1 1) .nil
abbrev nsD (n0 n1 n2:List Nat):D:=.lst [.str<|tx n0,.str<|tx n1,.str<|tx n2]
def gst (N:D)(fi v:Int)(W:List D)(k P j a b:Sl):Me:=[.fz<|.int fi,.fz N,.fz<|.int v,.ow<|.lst W,k,P,j,a,b,.un,.un]
theorem gf {f g:Zab}{m m':Me}(e:f m=.ok (.nx,m')):aP f g m=g m':=by simp[aP,e]
theorem Uu {N:D}{fi v:Int}{W:List D}{k j:Nat}{P a b:Sl}(hk:k<=1)(hj:j<=1)(h0:0<=v)(h1:v<3):
  aA gIx (bI<|aj (fC<|.str "all")<|aj (aA aJ (fC<|.str "all")<|aV vP<|aj (ak 6) au)<|aj (aA aJ (fC<|.str "all")<|aV vP<|aj (ak 4) au) au) (ak 2) (gst N fi v W (.fz<|.int (k:Int)) P (.fz<|.int (j:Int)) a b)=.ok (.str<|sn v k j):=by
 have g0:vP [.int 0]=some (.str "0"):=rfl;have g1:vP [.int 1]=some (.str "1"):=rfl;have a0:aJ (.str "all") (.str "0")=some (.str "all0"):=by rfl
 have a1:aJ (.str "all") (.str "1")=some (.str "all1"):=by rfl
 have hv:v=0\/v=1\/v=2:=by omega
 have hk:k=0\/k=1:=by omega
 have hj:j=0\/j=1:=by omega
 have x0:∀a b c:D,gIx (.lst [a,b,c]) (.int 0)=some a:=λ_ _ _=>rfl;have x1:∀a b c:D,gIx (.lst [a,b,c]) (.int 1)=some b:=λ_ _ _=>rfl;have x2:∀a b c:D,gIx (.lst [a,b,c]) (.int 2)=some c:=λ_ _ _=>rfl;unfold gst;rcases hv with rfl|rfl|rfl<;>rcases hk with rfl|rfl<;>rcases hj with rfl|rfl<;>simp[aA,bI,aj,au,fC,aV,ak,g0,g1,a0,a1,x0,x1,x2,sn]
theorem zL {N:D}{fi v:Int}{W Ps:List D}{k j:Nat}{a b:Sl}(hk:k<=1)(hj:j<=1)(h0:0<=v)(h1:v<3)(hP:Ps.length<=100):∃a' b',
  mC (gst N fi v W (.fz<|.int (k:Int)) (.ow<|.lst Ps) (.fz<|.int (j:Int)) a b)=.ok (.nx,gst N fi v W (.fz<|.int (k:Int)) (.ow<|.lst<|Ps++[.tup [.str<|wd j,dG<|pK fi v k j]]) (.fz<|.int (j:Int)) a' b'):=by
 have e1:=Uu (N:=N) (fi:=fi) (W:=W) (P:=.ow<|.lst Ps) (a:=a) (b:=b) hk hj h0 h1;have hz:Ps.length<16777216:=by omega
 have ol:∀(a b c d e f g h i j:Sl),xV [a,b,c,d,e,.ow<|.lst Ps,f,g,h,i,j] 5=some (true,Ps):=λ_ _ _ _ _ _ _ _ _ _=>rfl;have m2:=vH (a:=2) (b:=(j:Int)) (by decide) (by decide) (by omega) (by omega);have wx:gIx (.lst [.str "a",.str "b"]) (.int (j:Int))=some (.str<|wd j):=by
  have:j=0\/j=1:=by omega
  rcases this with rfl|rfl<;>rfl
 generalize hsn:sn v k j=S at *;have gp:dG (pK fi v k j)=.tup [.str "move",.int<|3-fi,.str S,.tup [.tup [.str "c",.tup [.str "end",qD<|qa k j]],.tup [.str "d",.tup [.str "end",qD<|qb k j]]]]:=by
  rw[← hsn];rfl
 rw[gp];have h1:aX 7 (aA gIx (bI<|aj (fC<|.str "all")<|aj (aA aJ (fC<|.str "all")<|aV vP<|aj (ak 6) au)<|aj (aA aJ (fC<|.str "all")<|aV vP<|aj (ak 4) au) au)<|ak 2) (gst N fi v W (.fz<|.int (k:Int)) (.ow<|.lst Ps) (.fz<|.int (j:Int)) a b)=.ok (.nx,gst N fi v W (.fz<|.int (k:Int)) (.ow<|.lst Ps) (.fz<|.int (j:Int)) (.fz<|.str S) b):=by
  unfold aX;rw[e1];rfl
 have h3:∀(q r:Q2) (b:Sl),eF 5 (aL<|aj (aA gIx (bI<|aj (fC<|.str "a")<|aj (fC<|.str "b") au)<|ak 6)<|aj (aC 8) au) (gst N fi v W (.fz<|.int (k:Int)) (.ow<|.lst Ps) (.fz<|.int (j:Int)) (.fz<|.str S)<|.fz<|.tup [.str "move",.int<|3-fi,.str S,.tup [.tup [.str "c",.tup [.str "end",qD q]],.tup [.str "d",.tup [.str "end",qD r]]]]) =
   .ok (.nx,gst N fi v W (.fz<|.int (k:Int)) (.ow<|.lst<|Ps++[.tup [.str<|wd j,.tup [.str "move",.int<|3-fi,.str S,.tup [.tup [.str "c",.tup [.str "end",qD q]],.tup [.str "d",.tup [.str "end",qD r]]]]]]) (.fz<|.int (j:Int)) (.fz<|.str S)<|.fz<|.tup [.str "move",.int<|3-fi,.str S,.tup [.tup [.str "c",.tup [.str "end",qD q]],.tup [.str "d",.tup [.str "end",qD r]]]]):=λq r b=>by
  generalize D.tup [.str "move",.int<|3-fi,.str S,.tup [.tup [.str "c",.tup [.str "end",qD q]],.tup [.str "d",.tup [.str "end",qD r]]]]=Y at *;unfold gst;simp[eF,ol,aL,aj,au,aA,bI,fC,ak,aC,wx,hz,putL]
 refine⟨.fz<|.str S,.fz<|.tup [.str "move",.int<|3-fi,.str S,.tup [.tup [.str "c",.tup [.str "end",qD<|qa k j]],.tup [.str "d",.tup [.str "end",qD<|qb k j]]]],?_⟩;unfold mC;rw[gf h1];have h2:∀kk jj:Int,jX (.int 2) (.int jj)=some (.int<|2*jj)->(aX 8<|aL<|aj (fC<|.str "move")<|aj (aA yw (fC<|.int 3)<|ak 0)<|aj (aC 7)<|aj (aL<|aj (aL<|aj (fC<|.str "c")<|aj (aL<|aj (fC<|.str "end")<|aj (aL<|aj (aA aJ (ak 4)<|ak 6)<|aj (fC<|.int 1) au) au) au)<|aj (aL<|aj (fC<|.str "d")<|aj (aL<|aj (fC<|.str "end")<|aj (aL<|aj (aA yw (ak 4)<|ak 6)<|aj (aA aJ (aA jX (fC<|.int 2)<|ak 6)<|fC<|.int 1) au) au) au) au) au) (gst N fi v W (.fz<|.int kk) (.ow<|.lst Ps) (.fz<|.int jj) (.fz<|.str S) b)=.ok (.nx,(gst N fi v W (.fz<|.int kk) (.ow<|.lst Ps) (.fz<|.int jj) (.fz<|.str S)<|.fz<|.tup [.str "move",.int<|3-fi,.str S,.tup [.tup [.str "c",.tup [.str "end",qD (kk+jj,1)]],.tup [.str "d",.tup [.str "end",qD (kk-jj,2*jj+1)]]]])):=λkk jj m=>by
  unfold gst qD;generalize(2*jj)=j2 at *;simp[aX,aL,aj,au,fC,aA,V0,Jj,ak,aC,m]
 have h4:∀(kk jj:Int) (Y:D),(gIf (Ag (aY gEq (ak 6)<|fC<|.int 1)<|aY gEq (ak 4)<|fC<|.int 1) (aX 8<|aL<|aj (fC<|.str "move")<|aj (aA yw (fC<|.int 3)<|ak 0)<|aj (aC 7)<|aj (aL<|aj (aL<|aj (fC<|.str "c")<|aj (aL<|aj (fC<|.str "end")<|aj (aL<|aj (fC<|.int 0)<|aj (fC<|.int 1) au) au) au)<|aj (aL<|aj (fC<|.str "d")<|aj (aL<|aj (fC<|.str "end")<|aj (aL<|aj (fC<|.int 5)<|aj (fC<|.int 1) au) au) au) au) au) gNx) (gst N fi v W (.fz<|.int kk) (.ow<|.lst Ps) (.fz<|.int jj) (.fz<|.str S)<|.fz Y)=.ok (.nx,(gst N fi v W (.fz<|.int kk) (.ow<|.lst Ps) (.fz<|.int jj) (.fz<|.str S)<|.fz<|if jj=1/\kk=1 then .tup [.str "move",.int<|3-fi,.str S,.tup [.tup [.str "c",.tup [.str "end",qD (0,1)]],.tup [.str "d",.tup [.str "end",qD (5,1)]]]] else Y)):=λkk jj Y=>by
  unfold gst qD;by_cases c1:jj=1
  ·by_cases c2:kk=1
   ·simp[gIf,Ag,aY,aA,ak,fC,c1,c2,aX,aL,aj,au,aC,V0]
   ·simp[gIf,Ag,aY,aA,ak,fC,c1,c2,gNx]
  ·simp[gIf,Ag,aY,aA,ak,fC,c1,gNx]
 rw[gf<|h2 k j m2,gf<|h4 k j _];by_cases c:k=1/\j=1
 ·have ea:qa k j=(0,1):=if_pos c;have eb:qb k j=(5,1):=if_pos c;have cc:(j:Int)=1/\(k:Int)=1:=by omega
  rw[ea,eb,if_pos cc];exact h3 (0,1) (5,1) b
 ·have ea:qa k j=((k:Int)+j,1):=if_neg c;have eb:qb k j=((k:Int)-j,2*(j:Int)+1):=if_neg c;have cc:¬((j:Int)=1/\(k:Int)=1):=by omega
  rw[ea,eb,if_neg cc];exact h3 ((k:Int)+j,1) ((k:Int)-j,2*(j:Int)+1) b
open L2 (atI ixN Key)
abbrev pr2 (fi v:Int)(k:Nat):List D:=[.tup [.str<|wd 0,dG<|pK fi v k 0],.tup [.str<|wd 1,dG<|pK fi v k 1]]
theorem G9 {N:D}{fi v:Int}{W:List D}{k:Nat}{j a b:Sl}(hk:k<=1)(h0:0<=v)(h1:v<3):∃j' a' b',
  mV (gst N fi v W (.fz<|.int (k:Int)) (.ow<|.lst []) j a b)=.ok (.nx,gst N fi v W (.fz<|.int (k:Int)) (.ow<|.lst<|pr2 fi v k) j' a' b'):=by
 obtain⟨a1,b1,e1⟩:=zL (N:=N) (fi:=fi) (W:=W) (Ps:=[]) (k:=k) (j:=0) (a:=a) (b:=b) hk (by decide) h0 h1 (by simp);obtain⟨a2,b2,e2⟩:=zL (N:=N) (fi:=fi) (W:=W) (Ps:=[.tup [.str<|wd 0,dG<|pK fi v k 0]]) (k:=k) (j:=1) (a:=a1) (b:=b1) hk (by decide) h0 h1 (by simp);refine⟨.fz<|.int (1:Nat),a2,b2,?_⟩;have hi:lV (aj (fC<|.int 2) au) (gst N fi v W (.fz<|.int (k:Int)) (.ow<|.lst []) j a b)=.ok [.int (0:Nat),.int (1:Nat)]:=(Lx (j:=2) rfl (by decide)<|by decide).trans rfl;unfold mV mZ;rw[hi];show cV _ _ _ _=_;rw[dM (m1:=gst N fi v W (.fz<|.int (k:Int)) (.ow<|.lst []) (.fz<|.int (0:Nat)) a b) rfl e1,dM (m1:=gst N fi v W (.fz<|.int (k:Int)) (.ow<|.lst [.tup [.str<|wd 0,dG<|pK fi v k 0]]) (.fz<|.int (1:Nat)) a1 b1) rfl e2];rfl
theorem Dn {n0 n1 n2 n:List Nat}{fi v:Int}{W:List D}{k:Nat}{P j a b:Sl}(hk:k<=1)(h0:0<=v)(h1:v<3)(hW:W.length<=100)(hn:gIx (nsD n0 n1 n2) (.int (k:Int))=some (.str<|tx n)):∃P' j' a' b',
  mG (gst (nsD n0 n1 n2) fi v W (.fz<|.int (k:Int)) P j a b)=.ok (.nx,gst (nsD n0 n1 n2) fi v (W++[.tup [qD (1,2),dG<|mK fi v n k]]) (.fz<|.int (k:Int)) P' j' a' b'):=by
 obtain⟨j',a',b',e⟩:=G9 (N:=nsD n0 n1 n2) (fi:=fi) (W:=W) (j:=j) (a:=a) (b:=b) hk h0 h1;refine⟨.ow<|.lst<|pr2 fi v k,j',a',b',?_⟩;have f1:dO 5 (bI au) (gst (nsD n0 n1 n2) fi v W (.fz<|.int (k:Int)) P j a b)=.ok (.nx,gst (nsD n0 n1 n2) fi v W (.fz<|.int (k:Int)) (.ow<|.lst []) j a b):=rfl;have gm:dG (mK fi v n k)=.tup [.str "move",.int fi,.str<|tx n,.tup<|pr2 fi v k]:=rfl;have ol:∀(a b c e f h i j k l:Sl),xV [a,b,c,.ow<|.lst W,e,f,h,i,j,k,l] 3=some (true,W):=λ_ _ _ _ _ _ _ _ _ _=>rfl;have hz:W.length<16777216:=by omega
 have gt:oO [.lst<|pr2 fi v k]=some (.tup<|pr2 fi v k):=rfl;unfold mG;rw[gf f1,gf e,gm];unfold gst qD;generalize pr2 fi v k=PP at *;generalize nsD n0 n1 n2=NN at *;simp[eF,ol,aL,aj,au,aA,aC,ak,fC,hn,aV,gt,hz,putL]
theorem Ri {L:Zab}{N:D}{fi v:Int}{W:List D}{k P j a b:Sl}(hL:L (gst N fi v [] .un .un .un .un .un)=.ok (.nx,gst N fi v W k P j a b)):
  aW 11 3 (lZ L) [.int fi,N,.int v]=.ok (false,.tup [.str "deal",.str<|af "coin",.tup W]):=by
 have gt:oO [.lst W]=some (.tup W):=rfl;unfold gst at hL;simp[aW,lZ,aP,dO,bI,au,hL,bC,Me.let,Sl.let,aL,aj,fC,aV,ak,gt]
theorem R6 {n0 n1 n2:List Nat}{fi v:Int}(h0:0<=v)(h1:v<3):iU [.int fi,nsD n0 n1 n2,.int v]=.ok (false,dG<|gK fi v n0 n1):=by
 obtain⟨P1,j1,a1,b1,e1⟩:=Dn (n0:=n0) (n1:=n1) (n2:=n2) (n:=n0) (fi:=fi) (W:=[]) (k:=0) (P:=.un) (j:=.un) (a:=.un) (b:=.un) (by decide) h0 h1 (by simp) rfl;obtain⟨P2,j2,a2,b2,e2⟩:=Dn (n0:=n0) (n1:=n1) (n2:=n2) (n:=n1) (fi:=fi) (W:=[.tup [qD (1,2),dG<|mK fi v n0 0]]) (k:=1) (P:=P1) (j:=j1) (a:=a1) (b:=b1) (by decide) h0 h1 (by simp) rfl;refine Ri (W:=[.tup [qD (1,2),dG<|mK fi v n0 0],.tup [qD (1,2),dG<|mK fi v n1 1]]) (k:=.fz<|.int (1:Nat)) (P:=P2) (j:=j2) (a:=a2) (b:=b2) ?_;have hi:lV (aj (fC<|.int 2) au) (gst (nsD n0 n1 n2) fi v [] .un .un .un .un .un)=.ok [.int (0:Nat),.int (1:Nat)]:=(Lx (j:=2) rfl (by decide)<|by decide).trans rfl;unfold rE mZ;rw[hi];show cV _ _ _ _=_;rw[dM (m1:=gst (nsD n0 n1 n2) fi v [] (.fz<|.int (0:Nat)) .un .un .un .un) rfl e1,dM (m1:=gst (nsD n0 n1 n2) fi v ([]++[.tup [qD (1,2),dG<|mK fi v n0 0]]) (.fz<|.int (1:Nat)) P1 j1 a1 b1) rfl e2];rfl
def gS (fi b:Int)(n0 n1:Str)(w0 w1:D)(P00 P01 P10 P11:Gm):Gm:=.deal (af "coin")<|.cons (qD (1,2)) (.move fi n0<|.cons w0 P00<|.cons w1 P01 .nil)<|.cons (qD (1,2)) (.move fi n1<|.cons w0 P10<|.cons w1 P11 .nil) .nil
def mS (s:Int)(m:Str)(q r:Q2):Gm:=.move s m<|.cons (.str "c") (.fin q)<|.cons (.str "d") (.fin r) .nil
def Dh (g:Gm)(a:Int)(n0 n1:Str)(w0 w1:D):Prop:=∃r0 r1,rowsOf g a=[.tup [.int a,.str n0,.tup [w0,w1],r0],.tup [.int a,.str n1,.tup [w0,w1],r1]]
section
variable {w0 w1:D}{q0 q1 q2 q3 q4 q5 q6 q7:Q2}{n0 n1 m0 m1:Str}{a b:Int}
variable (ab:¬a=b)(ba:¬b=a)(e1:¬n0=n1)(e2:¬n1=n0)(e3:¬m0=m1)(e4:¬m1=m0)
include ab ba e1 e2
theorem aaZ:Dh (gS a b n0 n1 w0 w1 (mS b m0 q0 q1) (mS b m0 q2 q3) (mS b m0 q4 q5)<|mS b m0 q6 q7) a n0 n1 w0 w1:=by
 refine⟨.tup<|Bl ([],[]) a,.tup<|Bl ([],[]) a,?_⟩;simp[ab,ba,e1,e2,rowsOf,gS,mS,prG,prW,tbl,tst,eN,kn,xO,sdD,ju]
include e3 e4
theorem abB:Dh (gS a b n0 n1 w0 w1 (mS b m0 q0 q1) (mS b m1 q2 q3) (mS b m0 q4 q5)<|mS b m1 q6 q7) a n0 n1 w0 w1:=by
 refine⟨.tup<|Bl ([],[]) a,.tup<|Bl ([],[]) a,?_⟩;simp[ab,ba,e1,e2,e3,e4,rowsOf,gS,mS,prG,prW,tbl,tst,eN,kn,xO,sdD,ju]
theorem aaP:Dh (gS a b n0 n1 w0 w1 (mS b m0 q0 q1) (mS b m0 q2 q3) (mS b m1 q4 q5)<|mS b m1 q6 q7) a n0 n1 w0 w1:=by
 refine⟨.tup<|Bl ([],[]) a,.tup<|Bl ([],[]) a,?_⟩;simp[ab,ba,e1,e2,e3,e4,rowsOf,gS,mS,prG,prW,tbl,tst,eN,kn,xO,sdD,ju]
end
theorem RW {fi v:Int}{n0 n1:List Nat}(hf:fi=1\/fi=2)(h0:0<=v)(h1:v<3)(ne:n0≠n1):Dh (gK fi v n0 n1) fi (tx n0) (tx n1) (.str<|wd 0) (.str<|wd 1):=by
 have ab:¬fi=3-fi:=by omega
 have ba:¬3-fi=fi:=by omega
 have e1:¬tx n0=tx n1:=λz=>ne<|gZ.mp z;have e2:¬tx n1=tx n0:=λz=>e1 z.symm;have e3:¬af "all0" = af "all1":=by decide +kernel
 have e4:¬af "all1" = af "all0":=λz=>e3 z.symm;have hv:v=0\/v=1\/v=2:=by omega
 rcases hv with rfl|rfl|rfl
 ·exact aaZ ab ba e1 e2 (m0:=af "all") (q0:=qa 0 0) (q1:=qb 0 0) (q2:=qa 0 1) (q3:=qb 0 1) (q4:=qa 1 0) (q5:=qb 1 0) (q6:=qa 1 1) (q7:=qb 1 1)
 ·exact abB ab ba e1 e2 e3 e4 (q0:=qa 0 0) (q1:=qb 0 0) (q2:=qa 0 1) (q3:=qb 0 1) (q4:=qa 1 0) (q5:=qb 1 0) (q6:=qa 1 1) (q7:=qb 1 1)
 ·exact aaP ab ba e1 e2 e3 e4 (q0:=qa 0 0) (q1:=qb 0 0) (q2:=qa 0 1) (q3:=qb 0 1) (q4:=qa 1 0) (q5:=qb 1 0) (q6:=qa 1 1) (q7:=qb 1 1)
theorem ZF {fi v:Int}{n0 n1:List Nat}(hf:fi=1\/fi=2):kI (gK fi v n0 n1)/\sdG (gK fi v n0 n1)/\dp (gK fi v n0 n1)<=50/\szG (gK fi v n0 n1)<=10000:=by
 have hg:3-fi=1\/3-fi=2:=by omega
 simp[gK,mK,pK,kI,w5,km,sdG,sdW,dp,dpW,szG,szW,hf,hg]
theorem aaA {fi v:Int}{n0 n1:List Nat}(hf:fi=1\/fi=2)(h0:0<=v)(h1:v<3)(ne:n0≠n1):G2 (dG<|gK fi v n0 n1) fi n0 n1:=by
 obtain⟨r0,r1,e⟩:=RW hf h0 h1 ne;obtain⟨k1,k2,k3,k4⟩:=ZF (v:=v) (n0:=n0) (n1:=n1) hf
 have:=Uo (s:=fi) k1 k2 k3 k4
 refine⟨⟨.int fi,.str<|wd 0,.str<|wd 1,r0,.int fi,.str<|wd 0,.str<|wd 1,r1,?_⟩,hf⟩;exact this.trans<|congrArg (λl=>Res.ok (true,D.lst l)) e
open L2 (atI ixN Key)
theorem HN {φ ψ:Zac}{g s d:D}{c:Str}{L:D}(h:φ [g,s,d]=.exc (c,[],[]))(hs:cF c=true)(k:ψ [.exc c [] []]=.ok (false,L)):aW 5 3 (lN φ ψ) [g,s,d]=.ok (false,L):=by
 simp[aW,lN,aP,aX,bI,au,Ik,uC,aj,aC,h,hs,fFn,k,bC,Me.let,Sl.let]
theorem ls_run {φ ψ:Zac}{g s d:D}{c:Str}{L:D}(h:φ [g,s,d]=.exc (c,[],[]))(hs:cF c=true)(k:ψ [.exc c [] []]=.ok (false,L)):aW 5 3 (kj φ ψ) [g,s,d]=.ok (false,L):=by
 simp[aW,kj,aP,aX,bI,au,Ik,uC,aj,aC,h,hs,fFn,k,bC,Me.let,Sl.let]
theorem Wa:cF "NoText" = true:=by rfl
theorem V9:cF "NoPlan" = true:=by rfl
section
variable {g:D}{s:Int}{n0 n1 n2:List Nat}
theorem Ua {l:List Nat}{w:Str}(h:gq g s l w):dD [g,.int s,.str<|tx l]=.ok (false,.lst [.str w,.bl true]):=by
 rcases h with⟨rfl,h⟩|⟨rfl,h⟩
 ·exact HN h Wa Wi
 ·exact HN h V9 VB
theorem Pq {d:D}(it:gY "str" (ak 2) [.fz g,.fz<|.int s,.fz d,.un,.un]=.ok (.bl false)):dD [g,.int s,d]=.ok (false,.lst [.str "text",.bl true]):=HN (abq it) Wa Wi
theorem Rp {d:D}(G:G2 g s n0 n1)(h:Ef n0 n1 d):gP [g,.int s,d]=.ok (false,.lst [.str "plan",.bl true]):=ls_run (ZW<|xZ G h) V9 VB
abbrev tD:D:=.tup [.tup [.int 1,.int 3],.tup [.int 2,.int 3]]
abbrev plD (n0 n1:List Nat):D:=.dct [ky n0,ky n1] [hD,tD]
theorem M8 (G:G2 g s n0 n1)(N:N3 n0 n1 n2):cP [g,.int s,.str<|tx<|jl [59,32] [mR n1,gR n0]]=.ok (true,.dct [ky n1,ky n0] [tD,hD]):=
 abD (wG (Fp (kM N.b)<|kG N.a)<|.cons (rM N.b)<|.cons (rG N.a) .nil) (VL N.ab.symm) rfl (S6 G rfl (.inl ⟨_,(v_2 N.ab.symm).trans v_1,Sv⟩)<|.inl ⟨_,v_1,Zg⟩)
theorem T8 (ab:n0≠n1):Cr (.dct [ky n1,ky n0] [tD,hD]) (plD n0 n1)=some true:=by
 have e1:mH hD hD=some true:=mq (by rfl) (by show(2:Nat)<=64;decide);have e2:mH tD tD=some true:=mq (by rfl) (by show(2:Nat)<=64;decide);have v1:qW [ky n0,ky n1] [hD,tD] (ky n1)=some tD:=(v_2 ab).trans v_1;have v2:qW [ky n0,ky n1] [hD,tD] (ky n0)=some hD:=v_1;have h:vO [ky n0,ky n1] [hD,tD] [ky n1,ky n0] [tD,hD]=some true:=by
  simp only[vO,v1,v2,e1,e2,Option.bind_some,gX,Bool.and_true]
 show(if([ky n1,ky n0]:List Key).length=([ky n0,ky n1]:List Key).length then vO [ky n0,ky n1] [hD,tD] [ky n1,ky n0] [tD,hD] else some false)=some true;rw[if_pos<|show([ky n1,ky n0]:List Key).length=([ky n0,ky n1]:List Key).length from rfl];exact h
end
open L2 (atI ixN Key)
def lS (ns:List Int)(x fi:Int)(N g T p:D)(k y t w z:Sl):Me:=[.fz<|.lst<|ns.map D.int,.fz<|.int x,.fz<|.int fi,.fz N,.fz g,.fz T,.fz p,k,y,t,w,z]
section
variable {ns:List Int}{x fi:Int}{N g T p:D}
theorem Zh:gNe (.lst [.str "text",.bl true]) (.lst [.str "text",.bl true])=some false:=Dq (by decide +kernel)<|vE rfl
theorem YZ:gNe (.lst [.str "plan",.bl true]) (.lst [.str "plan",.bl true])=some false:=Dq (by decide +kernel)<|vE rfl
theorem abx {g:D}{s:Int}{l:List Nat}{w:Str}(h:gq g s l w):gNe (.lst [.str w,.bl true]) (.lst [.str w,.bl true])=some false:=by
 rcases h with⟨rfl,_⟩|⟨rfl,_⟩
 ·exact Zh
 ·exact YZ
theorem l_y {v:Int}{k:Nat}{y t w z:Sl}(hk:k<=20)(hv:gIx (.lst<|ns.map D.int) (.int<|3+(k:Int))=some (.int v)):∃y':Int,0<=y'/\(aX 8<|aA ir (aA jX (aA aJ (aA aJ (aA aJ (aA ir (aA gIx (ak 0)<|aA aJ (fC<|.int 3)<|ak 7)<|fC<|.int 1000000007)<|aA jX (aA jX (fC<|.int 59)<|ak 7)<|ak 7)<|aA jX (fC<|.int 29)<|ak 7)<|fC<|.int 7)<|fC<|.int 30323)<|fC<|.int 1000003) (lS ns x fi N g T p (.fz<|.int (k:Int)) y t w z)=.ok (.nx,(lS ns x fi N g T p (.fz<|.int (k:Int)) (.fz<|.int y') t w z)):=by
 refine⟨(v%1000000007+59*k*k+29*k+7)*30323%1000003,fm _ (by decide),?_⟩;have d1:=o8 (a:=v) (b:=1000000007) (by decide);have m1:=vH (a:=59) (b:=(k:Int)) (by decide) (by decide) (by omega) (by omega);have kk:0<=59*(k:Int)*k/\59*(k:Int)*k<=100000:=by
  have h1:59*(k:Int)*k<=1180*20:=Int.mul_le_mul (by omega) (by omega) (by omega) (by omega);have h2:0<=59*(k:Int)*k:=Int.mul_nonneg (by omega) (by omega);omega
 have m2:=vH (a:=59*(k:Int)) (b:=(k:Int)) (by omega) (by omega) (by omega) (by omega);have m3:=vH (a:=29) (b:=(k:Int)) (by decide) (by decide) (by omega) (by omega);have hp:=fm v (b:=1000000007) (by decide);have hq:=eI v (b:=1000000007) (by decide);have m4:=vH (a:=v%1000000007+59*k*k+29*k+7) (b:=30323) (by omega) (by omega) (by decide) (by decide);have d2:=o8 (a:=(v%1000000007+59*k*k+29*k+7)*30323) (b:=1000003) (by decide);have a1:aJ (.int 3) (.int (k:Int))=some (.int<|3+(k:Int)):=rfl;unfold lS;generalize D.lst (ns.map D.int)=Z at *;generalize(3+(k:Int))=k3 at *;generalize(k:Int)=kz at *;simp[aX,aA,ak,fC,a1,hv,d1,m1,m2,m3,Jj,m4,d2]
theorem l_b {k:Nat}{y:Int}{t w z:Sl}{A W:D}(h:d8 [N,.int y]=.ok (false,.tup [A,W])):(Up (fFn d8<|aj (aC 3)<|aj (aC 8) au)<|ou 2<|du (hName 9)<|du (hName 10) pF) (lS ns x fi N g T p (.fz<|.int (k:Int)) (.fz<|.int y) t w z)=.ok (.nx,(lS ns x fi N g T p (.fz<|.int (k:Int)) (.fz<|.int y) (.fz A) (.fz W) z)):=by
 have ht:∀m:Me,ou 2 (du (hName 9)<|du (hName 10) pF) (.tup [A,W]) m=some ((m.set 9<|.fz A).set 10<|.fz W):=λm=>rfl;unfold lS;generalize(k:Int)=kz at *;simp[Up,fFn,aj,au,aC,h,ht]
theorem l_r {k:Nat}{y:Int}{z:Sl}{A:D}{W:Str}(hn:gNe (.lst [.str W,.bl true]) (.lst [.str W,.bl true])=some false)(h:dD [g,.int fi,A]=.ok (false,.lst [.str W,.bl true])):(gIf (aY gNe (fFn dD<|aj (aC 4)<|aj (aC 2)<|aj (aC 9) au)<|bI<|aj (aC 10)<|aj (fC<|.bl true) au) (bC<|fC<|.bl false) gNx) (lS ns x fi N g T p (.fz<|.int (k:Int)) (.fz<|.int y) (.fz A) (.fz<|.str W) z)=.ok (.nx,(lS ns x fi N g T p (.fz<|.int (k:Int)) (.fz<|.int y) (.fz A) (.fz<|.str W) z)):=by
 unfold lS;generalize(k:Int)=kz at *;simp[gIf,aY,fFn,aj,au,aC,h,bI,fC,hn,gNx]
theorem l_s {k:Nat}{y:Int}{t w z:Sl}{e:D}(hb:d9 [N,.int<|y/16]=.ok (false,e))(h:gP [g,.int fi,e]=.ok (false,.lst [.str "plan",.bl true])):(gIf (aY gNe (fFn gP<|aj (aC 4)<|aj (aC 2)<|aj (fFn d9<|aj (aC 3)<|aj (aA qT (ak 8)<|fC<|.int 16) au) au)<|bI<|aj (fC<|.str "plan")<|aj (fC<|.bl true) au) (bC<|fC<|.bl false) gNx) (lS ns x fi N g T p (.fz<|.int (k:Int)) (.fz<|.int y) t w z)=.ok (.nx,(lS ns x fi N g T p (.fz<|.int (k:Int)) (.fz<|.int y) t w z)):=by
 have hn:=YZ;have d1:=Fw (a:=y) (b:=16) (by decide) (by decide);unfold lS;generalize(k:Int)=kz at *;simp[gIf,aY,fFn,aj,au,aC,aA,ak,fC,d1,hb,h,bI,hn,gNx]
theorem l_t {k:Nat}{y:Int}{t w z:Sl}:∃e∈[.non,.int 5,.bl true,.lst [T],.tup [T],p,.tup [.tup [.int 1,.int 2]],.dct [] []],(aX 11<|aA gIx (bI<|aj (fC .non)<|aj (fC<|.int 5)<|aj (fC<|.bl true)<|aj (bI<|aj (aC 5) au)<|aj (aL<|aj (aC 5) au)<|aj (aC 6)<|aj (aL<|aj (aL<|aj (fC<|.int 1)<|aj (fC<|.int 2) au) au)<|aj pY au)<|aA ir (aA qT (ak 8)<|fC<|.int 7)<|fC<|.int 8) (lS ns x fi N g T p (.fz<|.int (k:Int)) (.fz<|.int y) t w z)=.ok (.nx,(lS ns x fi N g T p (.fz<|.int (k:Int)) (.fz<|.int y) t w<|.fz e)):=by
 have h0:=fm (y/7) (b:=8) (by decide);have h1:=eI (y/7) (b:=8) (by decide);obtain⟨e,he,hi⟩:=J0 (L:=[.non,.int 5,.bl true,.lst [T],.tup [T],p,.tup [.tup [.int 1,.int 2]],.dct [] []]) (i:=y/7%8) h0 h1;refine⟨e,he,?_⟩;have d1:=Fw (a:=y) (b:=7) (by decide) (by decide);have d2:=o8 (a:=y/7) (b:=8) (by decide);unfold lS;generalize(k:Int)=kz at *;simp[aX,aA,bI,aL,aj,au,fC,aC,ak,pY,d1,d2,hi]
theorem l_q {k:Nat}{y:Int}{t w:Sl}{e:D}(h:dD [g,.int fi,e]=.ok (false,.lst [.str "text",.bl true])):(gIf (aY gNe (fFn dD<|aj (aC 4)<|aj (aC 2)<|aj (aC 11) au)<|bI<|aj (fC<|.str "text")<|aj (fC<|.bl true) au) (bC<|fC<|.bl false) gNx) (lS ns x fi N g T p (.fz<|.int (k:Int)) (.fz<|.int y) t w<|.fz e)=.ok (.nx,(lS ns x fi N g T p (.fz<|.int (k:Int)) (.fz<|.int y) t w<|.fz e)):=by
 have hn:=Zh;unfold lS;generalize(k:Int)=kz at *;simp[gIf,aY,fFn,aj,au,aC,fC,h,bI,hn,gNx]
end
section
variable {ns:List Int}{x fi v:Int}{n0 n1 n2 tg:List Nat}
theorem body (G:G2 (dG<|gK fi v n0 n1) fi n0 n1)(N:N3 n0 n1 n2){k:Nat}{y t w z:Sl}{u:Int}(hk:k<=20)(hv:gIx (.lst<|ns.map D.int) (.int<|3+(k:Int))=some (.int u)):∃y' t' w' z',
  wB (lS ns x fi (nsD n0 n1 n2) (dG<|gK fi v n0 n1) (.str<|tx tg) (plD n0 n1) (.fz<|.int (k:Int)) y t w z)=.ok (.nx,lS ns x fi (nsD n0 n1 n2) (dG<|gK fi v n0 n1) (.str<|tx tg) (plD n0 n1) (.fz<|.int (k:Int)) y' t' w' z'):=by
 obtain⟨y',hy,e1⟩:=l_y (x:=x) (fi:=fi) (N:=nsD n0 n1 n2) (g:=dG<|gK fi v n0 n1) (T:=.str<|tx tg) (p:=plD n0 n1) (y:=y) (t:=t) (w:=w) (z:=z) hk hv;obtain⟨a,ha,q,hq,e2⟩:=aan (n2:=n2) (x:=y') N.a.hi N.b.hi N.c.hi N.a.lo hy;have rr:=U7 G N ha q hq;have r1:=Ua rr;obtain⟨e,he,e3⟩:=aao (x:=y'/16) N;have r2:=Rp G<|Yt N e he;obtain⟨f,hf,e4⟩:=l_t (ns:=ns) (x:=x) (fi:=fi) (N:=nsD n0 n1 n2) (g:=dG<|gK fi v n0 n1) (T:=.str<|tx tg) (p:=plD n0 n1) (k:=k) (y:=y') (t:=.fz<|.str<|tx q.1) (w:=.fz<|.str q.2) (z:=z);have r3:dD [dG<|gK fi v n0 n1,.int fi,f]=.ok (false,.lst [.str "text",.bl true]):=by
  refine Pq ?_;simp only[bP,lT,or_false] at hf;rcases hf with rfl|rfl|rfl|rfl|rfl|rfl|rfl|rfl<;>rfl
 refine⟨.fz<|.int y',.fz<|.str<|tx q.1,.fz<|.str q.2,.fz f,?_⟩;unfold wB;rw[gf e1,gf<|l_b e2,gf<|l_r (abx rr) r1,gf<|l_s e3 r2,gf e4];exact l_q r3
theorem loop (G:G2 (dG<|gK fi v n0 n1) fi n0 n1)(N:N3 n0 n1 n2):∀(d i:Nat) (k y t w z:Sl),i+d<=20->3+i+d<=ns.length\/d=0->∃k' y' t' w' z',
  cV (hName 7) wB ((l7 i d).map λ(j:Nat)=>D.int j) (lS ns x fi (nsD n0 n1 n2) (dG<|gK fi v n0 n1) (.str<|tx tg) (plD n0 n1) k y t w z)=.ok (.nx,lS ns x fi (nsD n0 n1 n2) (dG<|gK fi v n0 n1) (.str<|tx tg) (plD n0 n1) k' y' t' w' z')
 |0,i,k,y,t,w,z,_,_=>⟨k,y,t,w,z,by simp[cV]⟩
 |d+1,i,k,y,t,w,z,h1,h2=>by
  have h2:3+i+(d+1)<=ns.length:=by omega
  have hv:∃u,gIx (.lst<|ns.map D.int) (.int<|3+(i:Int))=some (.int u):=by
   obtain⟨e,he,hi⟩:=J0 (L:=ns.map D.int) (i:=3+(i:Int)) (by omega) (by rw[cp];omega);obtain⟨u,_,rfl⟩:=oB.mp he;exact⟨u,hi⟩
  obtain⟨u,hv⟩:=hv;obtain⟨y1,t1,w1,z1,e⟩:=body (x:=x) (tg:=tg) G N (y:=y) (t:=t) (w:=w) (z:=z) (k:=i) (by omega) hv;obtain⟨k',y',t',w',z',e2⟩:=loop G N d (i+1) (.fz<|.int (i:Int)) y1 t1 w1 z1 (by omega) (by omega);refine⟨k',y',t',w',z',?_⟩;rw[oT,bo,dM (m1:=lS ns x fi (nsD n0 n1 n2) (dG<|gK fi v n0 n1) (.str<|tx tg) (plD n0 n1) (.fz<|.int (i:Int)) y t w z) rfl e];exact e2
theorem aay (G:G2 (dG<|gK fi v n0 n1) fi n0 n1)(N:N3 n0 n1 n2)(hz:ns.length<=1000):∃k' y' t' w' z',
  Dd (lS ns x fi (nsD n0 n1 n2) (dG<|gK fi v n0 n1) (.str<|tx tg) (plD n0 n1) .un .un .un .un .un)=.ok (.nx,lS ns x fi (nsD n0 n1 n2) (dG<|gK fi v n0 n1) (.str<|tx tg) (plD n0 n1) k' y' t' w' z'):=by
 have lc:(cut (ns.map D.int) (some 3)<|some 23).length<=20/\(3+(cut (ns.map D.int) (some 3)<|some 23).length<=ns.length\/(cut (ns.map D.int) (some 3)<|some 23).length=0):=by
  unfold cut;rw[lP,oD,cp];simp only[HT.sIx];split<;>split<;>omega
 generalize hc:cut (ns.map D.int) (some 3) (some 23)=cs at *;obtain⟨k',y',t',w',z',e⟩:=loop (ns:=ns) (x:=x) (tg:=tg) G N cs.length 0 .un .un .un .un .un (by omega) (by omega);refine⟨k',y',t',w',z',?_⟩;have hi:lV (aj (aV cZ<|aj (fSl (ak 0) (fO1<|fC<|.int 3)<|fO1<|fC<|.int 23) au) au) (lS ns x fi (nsD n0 n1 n2) (dG<|gK fi v n0 n1) (.str<|tx tg) (plD n0 n1) .un .un .un .un .un)=.ok ((ip (cs.length:Int).toNat).map λ(j:Nat)=>D.int j):=by
  refine Lx ?_ (by omega) (by omega);unfold lS;have g1:gSl (.lst<|ns.map D.int) (some 3) (some 23)=some (.lst cs):=by rw[← hc];rfl
  have g2:cZ [.lst cs]=some (.int (cs.length:Int)):=rfl;generalize D.lst (ns.map D.int)=Z at *;simp[aj,au,aV,fSl,fO1,ak,fC,g1,g2]
 unfold Dd mZ;rw[hi]
 have:((cs.length:Int)).toNat=cs.length:=by omega
 rw[this,hZ];exact e
end
section
variable {ns:List Int}{x fi v:Int}{n0 n1 n2:List Nat}
theorem w_1 {c:Int}(h:Lw.bR [.lst<|ns.map D.int,.int 0]=.ok (false,.int c)):(aX 1<|aA ir (aA jX (aA ir (fFn Lw.bR<|aj (aC 0)<|aj (fC<|.int 0) au)<|fC<|.int 1000000007)<|fC<|.int 48271)<|fC<|.int 1000003) [.fz<|.lst<|ns.map D.int,.un,.un,.un,.un,.un,.un,.un,.un,.un,.un,.un]=.ok (.nx,[.fz<|.lst<|ns.map D.int,.fz<|.int<|c%1000000007*48271%1000003,.un,.un,.un,.un,.un,.un,.un,.un,.un,.un]):=by
 have d1:=o8 (a:=c) (b:=1000000007) (by decide);have hp:=fm c (b:=1000000007) (by decide);have hq:=eI c (b:=1000000007) (by decide);have m1:=vH (a:=c%1000000007) (b:=48271) (by omega) (by omega) (by decide) (by decide);have d2:=o8 (a:=c%1000000007*48271) (b:=1000003) (by decide);generalize D.lst (ns.map D.int)=Z at *;simp[aX,aA,fFn,aj,au,aC,fC,h,d1,m1,d2]
theorem w_2 {c:Int}(h:Lw.bR [.lst<|ns.map D.int,.int 1]=.ok (false,.int c)):(aX 2<|aA aJ (fC<|.int 1)<|aA ir (fFn Lw.bR<|aj (aC 0)<|aj (fC<|.int 1) au)<|fC<|.int 2) [.fz<|.lst<|ns.map D.int,.fz<|.int x,.un,.un,.un,.un,.un,.un,.un,.un,.un,.un]=.ok (.nx,[.fz<|.lst<|ns.map D.int,.fz<|.int x,.fz<|.int<|1+c%2,.un,.un,.un,.un,.un,.un,.un,.un,.un]):=by
 have d1:=o8 (a:=c) (b:=2) (by decide);generalize D.lst (ns.map D.int)=Z at *;simp[aX,aA,fFn,aj,au,aC,fC,h,d1,Jj]
theorem w_3 (h:fJ [.int x,.int<|x/9,.int 3]=.ok (true,nsD n0 n1 n2)):(aX 3<|fFn fJ<|aj (aC 1)<|aj (aA qT (ak 1)<|fC<|.int 9)<|aj (fC<|.int 3) au) [.fz<|.lst<|ns.map D.int,.fz<|.int x,.fz<|.int fi,.un,.un,.un,.un,.un,.un,.un,.un,.un]=.ok (.nx,[.fz<|.lst<|ns.map D.int,.fz<|.int x,.fz<|.int fi,.fz<|nsD n0 n1 n2,.un,.un,.un,.un,.un,.un,.un,.un]):=by
 have d1:=Fw (a:=x) (b:=9) (by decide) (by decide);generalize D.lst (ns.map D.int)=Z at *;generalize nsD n0 n1 n2=NN at *;simp[aX,aA,fFn,aj,au,aC,ak,fC,d1,h]
theorem w_4 {c:Int}(h:Lw.bR [.lst<|ns.map D.int,.int 2]=.ok (false,.int c))(hv:c%3=v)(hg:iU [.int fi,nsD n0 n1 n2,.int v]=.ok (false,dG<|gK fi v n0 n1)):(aX 4<|fFn iU<|aj (aC 2)<|aj (aC 3)<|aj (aA ir (fFn Lw.bR<|aj (aC 0)<|aj (fC<|.int 2) au)<|fC<|.int 3) au) [.fz<|.lst<|ns.map D.int,.fz<|.int x,.fz<|.int fi,.fz<|nsD n0 n1 n2,.un,.un,.un,.un,.un,.un,.un,.un]=.ok (.nx,[.fz<|.lst<|ns.map D.int,.fz<|.int x,.fz<|.int fi,.fz<|nsD n0 n1 n2,.fz<|dG<|gK fi v n0 n1,.un,.un,.un,.un,.un,.un,.un]):=by
 have d1:=o8 (a:=c) (b:=3) (by decide);rw[hv] at d1;generalize D.lst (ns.map D.int)=Z at *;generalize nsD n0 n1 n2=NN at *;generalize dG (gK fi v n0 n1)=GG at *;simp[aX,aA,fFn,aj,au,aC,fC,h,d1,hg]
theorem k_1:af " 1/3 2/3; " = tx [32,49,47,51,32,50,47,51,59,32]:=by decide +kernel
theorem k_2:af " 1/2 1/2" = tx [32,49,47,50,32,49,47,50]:=by decide +kernel
theorem w_5 (h0:n0.length<=8)(h1:n1.length<=8):(aX 5<|aA aJ (aA aJ (aA aJ (aA gIx (ak 3)<|fC<|.int 1)<|fC<|.str " 1/3 2/3; ")<|aA gIx (ak 3)<|fC<|.int 0)<|fC<|.str " 1/2 1/2") [.fz<|.lst<|ns.map D.int,.fz<|.int x,.fz<|.int fi,.fz<|nsD n0 n1 n2,.fz<|dG<|gK fi v n0 n1,.un,.un,.un,.un,.un,.un,.un]=.ok (.nx,[.fz<|.lst<|ns.map D.int,.fz<|.int x,.fz<|.int fi,.fz<|nsD n0 n1 n2,.fz<|dG<|gK fi v n0 n1,.fz<|.str<|tx<|jl [59,32] [mR n1,gR n0],.un,.un,.un,.un,.un,.un]):=by
 have t0:aJ (.str<|tx n1) (.str<|tx [32,49,47,51,32,50,47,51,59,32])=some (.str<|tx<|n1++[32,49,47,51,32,50,47,51,59,32]):=tA (by simp;omega);have t1:aJ (.str<|tx<|n1++[32,49,47,51,32,50,47,51,59,32]) (.str<|tx n0)=some (.str<|tx<|n1++[32,49,47,51,32,50,47,51,59,32]++n0):=tA (by simp;omega);have t2:aJ (.str<|tx<|n1++[32,49,47,51,32,50,47,51,59,32]++n0) (.str<|tx [32,49,47,50,32,49,47,50])=some (.str<|tx<|n1++[32,49,47,51,32,50,47,51,59,32]++n0++[32,49,47,50,32,49,47,50]):=tA (by simp;omega);rw[show n1++[32,49,47,51,32,50,47,51,59,32]++n0++[32,49,47,50,32,49,47,50]=jl [59,32] [mR n1,gR n0] by simp[jl]] at t2;have x0:∀a b c:D,gIx (.lst [a,b,c]) (.int 0)=some a:=λ_ _ _=>rfl;have x1:∀a b c:D,gIx (.lst [a,b,c]) (.int 1)=some b:=λ_ _ _=>rfl;generalize D.lst (ns.map D.int)=Z at *;generalize dG (gK fi v n0 n1)=GG at *;generalize tx (jl [59,32] [mR n1,gR n0])=TT at *;generalize tx (n1++[32,49,47,51,32,50,47,51,59,32]++n0)=T1 at *;generalize tx (n1++[32,49,47,51,32,50,47,51,59,32])=T0 at *;simp only[aX,aA,ak,fC,k_1,k_2,Res.bind,ofO,b9,cb];simp[x0,x1,t0,t1,t2]
theorem w_6 (ab:n0≠n1):(aX 6<|dR [((aA gIx (ak 3)<|fC<|.int 0),(aL<|aj (aL<|aj (fC<|.int 1)<|aj (fC<|.int 2) au)<|aj (aL<|aj (fC<|.int 1)<|aj (fC<|.int 2) au) au)),((aA gIx (ak 3)<|fC<|.int 1),(aL<|aj (aL<|aj (fC<|.int 1)<|aj (fC<|.int 3) au)<|aj (aL<|aj (fC<|.int 2)<|aj (fC<|.int 3) au) au))]) [.fz<|.lst<|ns.map D.int,.fz<|.int x,.fz<|.int fi,.fz<|nsD n0 n1 n2,.fz<|dG<|gK fi v n0 n1,.fz<|.str<|tx<|jl [59,32] [mR n1,gR n0],.un,.un,.un,.un,.un,.un]=.ok (.nx,[.fz<|.lst<|ns.map D.int,.fz<|.int x,.fz<|.int fi,.fz<|nsD n0 n1 n2,.fz<|dG<|gK fi v n0 n1,.fz<|.str<|tx<|jl [59,32] [mR n1,gR n0],.fz<|plD n0 n1,.un,.un,.un,.un,.un]):=by
 have x0:∀a b c:D,gIx (.lst [a,b,c]) (.int 0)=some a:=λ_ _ _=>rfl;have x1:∀a b c:D,gIx (.lst [a,b,c]) (.int 1)=some b:=λ_ _ _=>rfl;have n1':¬tx n0=tx n1:=λz=>ab<|gZ.mp z;generalize D.lst (ns.map D.int)=Z at *;generalize dG (gK fi v n0 n1)=GG at *;generalize tx (jl [59,32] [mR n1,gR n0])=TT at *;simp[aX,dR,oR,aL,aj,au,fC,aA,ak,x0,x1,sS,putD,nR,n1']
theorem w_7 {d:D}(h:cP [dG<|gK fi v n0 n1,.int fi,.str<|tx<|jl [59,32] [mR n1,gR n0]]=.ok (true,d))(e:Cr d (plD n0 n1)=some true):(gIf (aY O8 (fFn cP<|aj (aC 4)<|aj (aC 2)<|aj (aC 5) au)<|ak 6) (bC<|fC<|.bl false) gNx) [.fz<|.lst<|ns.map D.int,.fz<|.int x,.fz<|.int fi,.fz<|nsD n0 n1 n2,.fz<|dG<|gK fi v n0 n1,.fz<|.str<|tx<|jl [59,32] [mR n1,gR n0],.fz<|plD n0 n1,.un,.un,.un,.un,.un]=.ok (.nx,[.fz<|.lst<|ns.map D.int,.fz<|.int x,.fz<|.int fi,.fz<|nsD n0 n1 n2,.fz<|dG<|gK fi v n0 n1,.fz<|.str<|tx<|jl [59,32] [mR n1,gR n0],.fz<|plD n0 n1,.un,.un,.un,.un,.un]):=by
 have hn:O8 d (plD n0 n1)=some false:=by unfold O8;rw[e];rfl
 generalize D.lst (ns.map D.int)=Z at *;generalize dG (gK fi v n0 n1)=GG at *;generalize tx (jl [59,32] [mR n1,gR n0])=TT at *;generalize plD n0 n1=PP at *;simp[gIf,aY,fFn,aj,au,aC,ak,h,hn,gNx]
theorem w_9 {d:D}{k y t w z:Sl}(h:cP [dG<|gK fi v n0 n1,.int fi,.str<|tx<|jl [59,32] [mR n1,gR n0]]=.ok (true,d))(e:Cr d (plD n0 n1)=some true):∃m,(bC<|lM Cr (fFn cP<|aj (aC 4)<|aj (aC 2)<|aj (aC 5) au)<|ak 6) (lS ns x fi (nsD n0 n1 n2) (dG<|gK fi v n0 n1) (.str<|tx<|jl [59,32] [mR n1,gR n0]) (plD n0 n1) k y t w z)=.ok (.rt false<|.bl true,m):=by
 unfold lS;generalize D.lst (ns.map D.int)=Z at *;generalize dG (gK fi v n0 n1)=GG at *;generalize tx (jl [59,32] [mR n1,gR n0])=TT at *;generalize plD n0 n1=PP at *;simp[bC,Me.let,Sl.let,lM,fFn,aj,au,aC,ak,h,e]
end
theorem Nz (ns:List Int)(h:ns.length<=63):∃fr,VM [.lst<|ns.map D.int]=.ok (fr,.bl true):=by
 have hz:ns.length<=1000:=by omega
 obtain⟨c0,h0⟩:=Lw.cell_eq ns 0 hz;obtain⟨c1,h1⟩:=Lw.cell_eq ns 1 hz;obtain⟨c2,h2⟩:=Lw.cell_eq ns 2 hz;have f0:=fm c1 (b:=2) (by decide);have f1:=eI c1 (b:=2) (by decide);have hf:1+c1%2=1\/1+c1%2=2:=by omega
 have v0:=fm c2 (b:=3) (by decide);have v1:=eI c2 (b:=3) (by decide);generalize hx:c0%1000000007*48271%1000003=x;have e1:=w_1 h0;rw[hx] at e1;have N:=ZL x<|x/9;have e3:=names3 x<|x/9;generalize nS x (x/9) 0=n0 at *;generalize nS x (x/9) 1=n1 at *;generalize nS x (x/9) 2=n2 at *;have e2:=w_2 (x:=x) h1;generalize 1+c1%2=fi at *;generalize hv:c2%3=v at *;have G:=aaA (n0:=n0) (n1:=n1) hf v0 v1 N.ab;have rd:=M8 G N;have ge:=T8 N.ab;have e4:=w_4 (ns:=ns) (x:=x) (fi:=fi) h2 hv<|R6 (n0:=n0) (n1:=n1) (n2:=n2) v0 v1;have e5:=w_5 (ns:=ns) (x:=x) (fi:=fi) (v:=v) (n2:=n2) N.a.hi N.b.hi;have e6:=w_6 (ns:=ns) (x:=x) (fi:=fi) (v:=v) (n2:=n2) N.ab;have e7:=w_7 (ns:=ns) (x:=x) (n2:=n2) rd ge;obtain⟨k',y',t',w',z',e8⟩:=aay (ns:=ns) (x:=x) (tg:=jl [59,32] [mR n1,gR n0]) G N hz;obtain⟨m,e9⟩:=w_9 (ns:=ns) (x:=x) (n2:=n2) (k:=k') (y:=y') (t:=t') (w:=w') (z:=z') rd ge;have run:J3 [.fz<|.lst<|ns.map D.int,.un,.un,.un,.un,.un,.un,.un,.un,.un,.un,.un]=.ok (.rt false<|.bl true,m):=by
  unfold J3 Oz;rw[gf e1,gf e2,gf<|w_3 e3,gf e4,gf e5,gf e6,gf e7];exact(gf e8).trans e9
 exact⟨false,Gq rfl run⟩
open PySem L2 Hd F Pk Lw
noncomputable def top (i:Nat):Stmt:=PySem.Challenge.pw_hushduel_k71_no_plans.main.body.getD i<|.Pass ⟨0,0,0,0⟩
theorem zc:ck "ValueError" = some (.type "ValueError"):=by decide +kernel
theorem Oa:ck "abs" = some (.builtin "abs"):=by decide +kernel
theorem Bb:ck "all" = some (.builtin "all"):=by decide +kernel
theorem Us:ck "bool" = some (.type "bool"):=by decide +kernel
theorem Ju:ck "dict" = some (.type "dict"):=by decide +kernel
theorem yf:ck "int" = some (.type "int"):=by decide +kernel
theorem bJ:ck "isinstance" = some (.builtin "isinstance"):=by decide +kernel
theorem iK:ck "len" = some (.builtin "len"):=by decide +kernel
theorem wD:ck "list" = some (.type "list"):=by decide +kernel
theorem rT:ck "str" = some (.type "str"):=by decide +kernel
theorem m8:ck "tuple" = some (.type "tuple"):=by decide +kernel
structure Bt (mg:Zp):Prop where
 ValueError:mg "ValueError" = none
 abs:mg "abs" = none
 all:mg "all" = none
 bool:mg "bool" = none
 dict:mg "dict" = none
 enumerate:mg "enumerate" = none
 int:mg "int" = none
 isinstance:mg "isinstance" = none
 len:mg "len" = none
 list:mg "list" = none
 range:mg "range" = none
 reversed:mg "reversed" = none
 str:mg "str" = none
 tuple:mg "tuple" = none
structure CnT (K:a6)(mg:Zp):Prop where
 NOUGHT:∃v u,mg "NOUGHT" = some u/\RelV v u/\∀O H,DV ⟨K,mg⟩ O H v (.tup [(.int 0),(.int 1)])
 ONE:∃v u,mg "ONE" = some u/\RelV v u/\∀O H,DV ⟨K,mg⟩ O H v (.tup [(.int 1),(.int 1)])
 FIGURES:∃v u,mg "FIGURES" = some u/\RelV v u/\∀O H,DV ⟨K,mg⟩ O H v (.str "0123456789")
 MOST_FIGURES:∃v u,mg "MOST_FIGURES" = some u/\RelV v u/\∀O H,DV ⟨K,mg⟩ O H v (.int 30)
 NAME_SIGNS:∃v u,mg "NAME_SIGNS" = some u/\RelV v u/\∀O H,DV ⟨K,mg⟩ O H v (.str "abcdefghijklmnopqrstuvwxyz0123456789")
 MOST_SIGNS:∃v u,mg "MOST_SIGNS" = some u/\RelV v u/\∀O H,DV ⟨K,mg⟩ O H v (.int 8)
theorem zZ {X:Cx}{E:XK}{pos:Pos}(Cn:CnT X.K X.mg)(hg:Gl X "NOUGHT"):FE X E (.Name "NOUGHT" pos) (fC<|.tup [(.int 0),(.int 1)]):=by
 obtain⟨v,u,h1,h2,h3⟩:=Cn.NOUGHT;exact qK hg h1 h2 h3
theorem W3 {X:Cx}{E:XK}{pos:Pos}(Cn:CnT X.K X.mg)(hg:Gl X "ONE"):FE X E (.Name "ONE" pos) (fC<|.tup [(.int 1),(.int 1)]):=by
 obtain⟨v,u,h1,h2,h3⟩:=Cn.ONE;exact qK hg h1 h2 h3
theorem Ij {X:Cx}{E:XK}{pos:Pos}(Cn:CnT X.K X.mg)(hg:Gl X "FIGURES"):FE X E (.Name "FIGURES" pos) (fC<|.str "0123456789"):=by
 obtain⟨v,u,h1,h2,h3⟩:=Cn.FIGURES;exact qK hg h1 h2 h3
theorem vY {X:Cx}{E:XK}{pos:Pos}(Cn:CnT X.K X.mg)(hg:Gl X "MOST_FIGURES"):FE X E (.Name "MOST_FIGURES" pos) (fC<|.int 30):=by
 obtain⟨v,u,h1,h2,h3⟩:=Cn.MOST_FIGURES;exact qK hg h1 h2 h3
theorem zB {X:Cx}{E:XK}{pos:Pos}(Cn:CnT X.K X.mg)(hg:Gl X "NAME_SIGNS"):FE X E (.Name "NAME_SIGNS" pos) (fC<|.str "abcdefghijklmnopqrstuvwxyz0123456789"):=by
 obtain⟨v,u,h1,h2,h3⟩:=Cn.NAME_SIGNS;exact qK hg h1 h2 h3
theorem yS {X:Cx}{E:XK}{pos:Pos}(Cn:CnT X.K X.mg)(hg:Gl X "MOST_SIGNS"):FE X E (.Name "MOST_SIGNS" pos) (fC<|.int 8):=by
 obtain⟨v,u,h1,h2,h3⟩:=Cn.MOST_SIGNS;exact qK hg h1 h2 h3
structure ExT (K:a6)(mg:Zp):Prop where
 NoPlan:∃C,mg "NoPlan" = some (.ref C)/\y9 K C [.type "ValueError",.type "Exception",.type "BaseException",.type "object"] "ValueError.__new__" = true
 NoText:∃C,mg "NoText" = some (.ref C)/\y9 K C [.type "ValueError",.type "Exception",.type "BaseException",.type "object"] "ValueError.__new__" = true
structure XcT (K:a6)(mg:Zp):Prop where
 c_DuelError:∃C,mg "DuelError" = some (.ref C)/\∀c D,cF c=true->mg c=some (.ref D)->v3 K (.ref D) (.ref C)=some true
 i_NoName:ICl K mg "NoName" oE
 i_NoNumber:ICl K mg "NoNumber" j6
 i_NoPlan:ICl K mg "NoPlan" nM
 i_NoRow:ICl K mg "NoRow" qN
 i_NoText:ICl K mg "NoText" oJ
 i_NoWord:ICl K mg "NoWord" n6
 i_TooGreat:ICl K mg "TooGreat" kW
 i_ValueError:mg "ValueError" = none/\∀c D b,jd c=some b->mg c=some (.ref D)->XC K D/\cx K (.ref D) (.type "ValueError")=some b
abbrev sU:Stmt:=top 14
theorem Gw:bx ["thing"] ["thing"] (aK sU):=⟨rfl,rfl,rfl,by decide +kernel,rfl,by decide +kernel,by decide +kernel⟩
abbrev jH:Stmt:=top 15
theorem dN:bx ["first", "second", "great", "small", "rest"] ["first", "second"] (aK jH):=⟨rfl,rfl,rfl,by decide +kernel,rfl,by decide +kernel,by decide +kernel⟩
abbrev yL:Stmt:=top 16
theorem xr:bx ["top", "bottom", "divisor"] ["top", "bottom"] (aK yL):=⟨rfl,rfl,rfl,by decide +kernel,rfl,by decide +kernel,by decide +kernel⟩
abbrev rR:Stmt:=top 17
theorem Gy:bx ["thing"] ["thing"] (aK rR):=⟨rfl,rfl,rfl,by decide +kernel,rfl,by decide +kernel,by decide +kernel⟩
abbrev Gv:Stmt:=top 18
theorem Yp:bx ["first", "second"] ["first", "second"] (aK Gv):=⟨rfl,rfl,rfl,by decide +kernel,rfl,by decide +kernel,by decide +kernel⟩
abbrev Bc:Stmt:=top 19
theorem Sg:bx ["first", "second"] ["first", "second"] (aK Bc):=⟨rfl,rfl,rfl,by decide +kernel,rfl,by decide +kernel,by decide +kernel⟩
abbrev Cj:Stmt:=top 20
theorem wg:bx ["some", "result", "each"] ["some"] (aK Cj):=⟨rfl,rfl,rfl,by decide +kernel,rfl,by decide +kernel,by decide +kernel⟩
abbrev oU:Stmt:=top 21
theorem nu:bx ["first", "top", "bottom"] ["first"] (aK oU):=⟨rfl,rfl,rfl,by decide +kernel,rfl,by decide +kernel,by decide +kernel⟩
abbrev jM:Stmt:=top 22
theorem yO:bx ["text"] ["text"] (aK jM):=⟨rfl,rfl,rfl,by decide +kernel,rfl,by decide +kernel,by decide +kernel⟩
abbrev nQ:Stmt:=top 23
theorem gJ:bx ["text", "halves", "top", "bottom", "bare", "result"] ["text"] (aK nQ):=⟨rfl,rfl,rfl,by decide +kernel,rfl,by decide +kernel,by decide +kernel⟩
abbrev qJ:Stmt:=top 27
theorem M4:bx ["thing"] ["thing"] (aK qJ):=⟨rfl,rfl,rfl,by decide +kernel,rfl,by decide +kernel,by decide +kernel⟩
abbrev jJ:Stmt:=top 28
theorem yZ:bx ["game"] ["game"] (aK jJ):=⟨rfl,rfl,rfl,by decide +kernel,rfl,by decide +kernel,by decide +kernel⟩
abbrev lW:Stmt:=top 29
theorem jT:bx ["game", "places", "waiting", "place", "behind"] ["game"] (aK lW):=⟨rfl,rfl,rfl,by decide +kernel,rfl,by decide +kernel,by decide +kernel⟩
abbrev nG:Stmt:=top 31
theorem Hm:bx ["move"] ["move"] (aK nG):=⟨rfl,rfl,rfl,by decide +kernel,rfl,by decide +kernel,by decide +kernel⟩
abbrev jA:Stmt:=top 32
theorem mX:bx ["place", "records", "number", "pair"] ["place", "records", "number"] (aK jA):=⟨rfl,rfl,rfl,by decide +kernel,rfl,by decide +kernel,by decide +kernel⟩
abbrev fZ:Stmt:=top 33
theorem cD:bx ["game", "known", "found", "way", "place", "number"] ["game"] (aK fZ):=⟨rfl,rfl,rfl,by decide +kernel,rfl,by decide +kernel,by decide +kernel⟩
abbrev yD:Stmt:=top 34
theorem Qf:bx ["move", "records"] ["move", "records"] (aK yD):=⟨rfl,rfl,rfl,by decide +kernel,rfl,by decide +kernel,by decide +kernel⟩
abbrev sJ:Stmt:=top 35
theorem lJ:bx ["game", "rows", "way", "place", "records"] ["game"] (aK sJ):=⟨rfl,rfl,rfl,by decide +kernel,rfl,by decide +kernel,by decide +kernel⟩
abbrev qz:Stmt:=top 36
theorem Lp:bx ["game", "side"] ["game", "side"] (aK qz):=⟨rfl,rfl,rfl,by decide +kernel,rfl,by decide +kernel,by decide +kernel⟩
abbrev gn:Stmt:=top 38
theorem tY:bx ["thing", "count"] ["thing", "count"] (aK gn):=⟨rfl,rfl,rfl,by decide +kernel,rfl,by decide +kernel,by decide +kernel⟩
abbrev jO:Stmt:=top 39
theorem zy:bx ["rows", "thing"] ["rows", "thing"] (aK jO):=⟨rfl,rfl,rfl,by decide +kernel,rfl,by decide +kernel,by decide +kernel⟩
abbrev uL:Stmt:=top 40
theorem Lf:bx ["game", "side", "thing"] ["game", "side", "thing"] (aK uL):=⟨rfl,rfl,rfl,by decide +kernel,rfl,by decide +kernel,by decide +kernel⟩
abbrev jC:Stmt:=top 41
theorem uX:bx ["game", "side", "thing"] ["game", "side", "thing"] (aK jC):=⟨rfl,rfl,rfl,by decide +kernel,rfl,by decide +kernel,by decide +kernel⟩
abbrev my:Stmt:=top 43
theorem vN:bx ["game", "side", "plan", "shown_rows"] ["game", "side", "plan"] (aK my):=⟨rfl,rfl,rfl,by decide +kernel,rfl,by decide +kernel,by decide +kernel⟩
abbrev oh:Stmt:=top 44
theorem xG:bx ["text", "parts"] ["text"] (aK oh):=⟨rfl,rfl,rfl,by decide +kernel,rfl,by decide +kernel,by decide +kernel⟩
abbrev lU:Stmt:=top 45
theorem Em:bx ["text"] ["text"] (aK lU):=⟨rfl,rfl,rfl,by decide +kernel,rfl,by decide +kernel,by decide +kernel⟩
abbrev pQ:Stmt:=top 46
theorem ql:bx ["game", "side", "text", "rows", "plan"] ["game", "side", "text"] (aK pQ):=⟨rfl,rfl,rfl,by decide +kernel,rfl,by decide +kernel,by decide +kernel⟩
abbrev lD:Stmt:=top 48
theorem xq:bx ["_law_script", "_law_k"] ["_law_script", "_law_k"] (aK lD):=⟨rfl,rfl,rfl,by decide +kernel,rfl,by decide +kernel,by decide +kernel⟩
abbrev nJ:Stmt:=top 49
theorem dI:bx ["_law_x", "_law_y", "_law_many", "_law_signs", "_law_size", "_law_at", "_law_names_here", "_law_k", "_law_name", "_law_j"] ["_law_x", "_law_y", "_law_many"] (aK nJ):=⟨rfl,rfl,rfl,by decide +kernel,rfl,by decide +kernel,by decide +kernel⟩
abbrev qj:Stmt:=top 50
theorem fG:bx ["_law_first", "_law_names_here", "_law_form", "_law_ways", "_law_k", "_law_parts", "_law_j", "_law_seen", "_law_part", "%1", "%2"] ["_law_first", "_law_names_here", "_law_form"] (aK qj):=⟨rfl,rfl,rfl,by decide +kernel,rfl,by decide +kernel,by decide +kernel⟩
abbrev jV:Stmt:=top 51
theorem bG:bx ["_law_names_here", "_law_x", "_law_one", "_law_other", "_law_good", "_law_more", "_law_at", "_law_some"] ["_law_names_here", "_law_x"] (aK jV):=⟨rfl,rfl,rfl,by decide +kernel,rfl,by decide +kernel,by decide +kernel⟩
abbrev j0:Stmt:=top 52
theorem cT:bx ["_law_names_here", "_law_x", "_law_one", "_law_other", "_law_half", "_law_some"] ["_law_names_here", "_law_x"] (aK j0):=⟨rfl,rfl,rfl,by decide +kernel,rfl,by decide +kernel,by decide +kernel⟩
abbrev jc:Stmt:=top 53
theorem jq:bx ["_law_error", "_law_some"] ["_law_error"] (aK jc):=⟨rfl,rfl,rfl,by decide +kernel,rfl,by decide +kernel,by decide +kernel⟩
abbrev pP:Stmt:=top 54
theorem mj:bx ["_law_game_here", "_law_side", "_law_thing", "_law_found", "e"] ["_law_game_here", "_law_side", "_law_thing"] (aK pP):=⟨rfl,rfl,rfl,by decide +kernel,rfl,by decide +kernel,by decide +kernel⟩
abbrev nq:Stmt:=top 55
theorem kO:bx ["_law_game_here", "_law_side", "_law_thing", "_law_found", "e"] ["_law_game_here", "_law_side", "_law_thing"] (aK nq):=⟨rfl,rfl,rfl,by decide +kernel,rfl,by decide +kernel,by decide +kernel⟩
abbrev Aa:Stmt:=top 56
theorem o7:bx ["_law_script", "_law_x", "_law_first", "_law_names_here", "_law_game_here", "_law_good", "_law_plan", "_law_k", "_law_y", "_law_text", "_law_due", "_law_thing"] ["_law_script"] (aK Aa):=⟨rfl,rfl,rfl,by decide +kernel,rfl,by decide +kernel,by decide +kernel⟩
variable {P:bq}{w:dc}{K:a6}{mg:Zp}{base:Heap}{f:Addr}{fd:gc}
theorem Dv(B:Bt mg)(Fu:Fun K "is_whole" "is_whole" sU f fd)  :
  dF P w K mg base (CX1 P w) 1 f fd ["thing"] (spF ⟨K,mg⟩ lF):=
 bL Fu Gw λcdv A outer s H E hr=>by
 have hu:=hr.units;unfold xm wQ;exact(aR<|cu<|uU (pZ (x:="") (aq 0) rfl B.isinstance bJ rfl B.int yf)<|uY<|Q3<|pZ (x:="") (aq 0) rfl B.isinstance bJ rfl B.bool Us)
theorem tW(B:Bt mg)(Fu:Fun K "common_divisor" "common_divisor" jH f fd)  :
  dF P w K mg base (CX1 P w) 1 f fd ["first", "second"] (spF ⟨K,mg⟩ dh):=
 bL Fu dN λcdv A outer s H E hr=>by
 have hu:=hr.units;unfold jE jx;exact(aO (cQ (i:=2) dN.nd rfl (a7 rfl)<|cH Ac rfl B.abs Oa<|aQ (aq 0) aZ)
  (aO (cQ (i:=3) dN.nd rfl (a7 rfl)<|cH Ac rfl B.abs Oa<|aQ (aq 1) aZ)
  (aO (DX eA (d7 (nF hu) (aq 3) (aD aB)<|cM _)
  (aO (cQ (i:=4) dN.nd rfl (a7 rfl)<|b7 gr (aq 2)<|aq 3)
  (aO (cQ (i:=2) dN.nd rfl (a7 rfl)<|aF 3)
  (aR<|cQ (i:=3) dN.nd rfl (a7 rfl)<|aF 4))))
  (aR<|cu<|aF 2))))
theorem MN(B:Bt mg)(Fu:Fun K "lowest" "lowest" yL f fd)(Gcommon_divisor:FF P w K mg base 1 "common_divisor" ["first", "second"] dh):
  dF P w K mg base (CX1 P w) 2 f fd ["top", "bottom"] (spF ⟨K,mg⟩ fO):=
 bL Fu xr λcdv A outer s H E hr=>by
 have hu:=hr.units;unfold ug ud;exact(aO (cQ (i:=2) xr.nd rfl (a7 rfl)<|cA Gcommon_divisor hr bF<|ao (aF 0)<|ao (aF 1) az)
  (aO (iu (d7 (Bs hu) (aq 1) (aD aB)<|cM _)
  (aR<|cQ (i:=2) xr.nd rfl (a7 rfl)<|Qt Cg<|aq 2)
  cJ)
  (aR<|cu<|bD<|ao (b7 nY (aq 0)<|aq 2)<|ao (b7 nY (aq 1)<|aq 2) az)))
theorem EY(B:Bt mg)(Fu:Fun K "is_ratio" "is_ratio" rR f fd)(Gis_whole:FF P w K mg base 1 "is_whole" ["thing"] lF)(Gcommon_divisor:FF P w K mg base 1 "common_divisor" ["first", "second"] dh):
  dF P w K mg base (CX1 P w) 2 f fd ["thing"] (spF ⟨K,mg⟩ dX):=
 bL Fu Gy λcdv A outer s H E hr=>by
 have hu:=hr.units;unfold lC lG;exact(aO (iu (Ie<|wH (jw<|iM<|pZ (x:="") (aq 0) rfl B.isinstance bJ rfl B.tuple m8)<|uZ<|d7 (nF hu) (aD<|cH dm rfl B.len iK<|aQ (aq 0) aZ) (aD aB)<|cM _)
  (aR<|cu lB)
  cJ)
  (aO (iu (Ie<|wH (jw<|iM<|cA Gis_whole hr bF<|ao (bM b8 (aq 0) (aD aB) λ_ _=>rfl) az)<|uZ<|jw<|iM<|cA Gis_whole hr bF<|ao (bM b8 (aq 0) (aD aB) λ_ _=>rfl) az)
  (aR<|cu lB)
  cJ)
  (aR<|cu<|uU (nU Xe (aD<|bM b8 (aq 0) (aD aB) λ_ _=>rfl) (aD aB)<|cM _)<|uY<|nU (iW hu) (aD<|cA Gcommon_divisor hr bF<|ao (bM b8 (aq 0) (aD aB) λ_ _=>rfl)<|ao (bM b8 (aq 0) (aD aB) λ_ _=>rfl) az) (aD aB)<|cM _)))
theorem Vr(B:Bt mg)(Fu:Fun K "plus" "plus" Gv f fd)(Glowest:FF P w K mg base 2 "lowest" ["top", "bottom"] fO):
  dF P w K mg base (CX1 P w) 3 f fd ["first", "second"] (spF ⟨K,mg⟩ xf):=
 bL Fu Yp λcdv A outer s H E hr=>by
 have hu:=hr.units;unfold Ip Ha;exact(aR<|cu<|cA Glowest hr bF<|ao (b7 aN (aD<|b7 gO (aD<|bM b8 (aq 0) (aD aB) λ_ _=>rfl)<|aD<|bM b8 (aq 1) (aD aB) λ_ _=>rfl)<|aD<|b7 gO (aD<|bM b8 (aq 1) (aD aB) λ_ _=>rfl)<|aD<|bM b8 (aq 0) (aD aB) λ_ _=>rfl)<|ao (b7 gO (aD<|bM b8 (aq 0) (aD aB) λ_ _=>rfl)<|aD<|bM b8 (aq 1) (aD aB) λ_ _=>rfl) az)
theorem N7(B:Bt mg)(Fu:Fun K "under" "under" Bc f fd)  :
  dF P w K mg base (CX1 P w) 1 f fd ["first", "second"] (spF ⟨K,mg⟩ uv):=
 bL Fu Sg λcdv A outer s H E hr=>by
 have hu:=hr.units;unfold Ck Cy;exact(aR<|cu<|nU (Bs hu) (aD<|b7 gO (aD<|bM b8 (aq 0) (aD aB) λ_ _=>rfl)<|aD<|bM b8 (aq 1) (aD aB) λ_ _=>rfl) (aD<|b7 gO (aD<|bM b8 (aq 1) (aD aB) λ_ _=>rfl)<|aD<|bM b8 (aq 0) (aD aB) λ_ _=>rfl)<|cM _)
theorem Qm(B:Bt mg)(Cn:CnT K mg)(Fu:Fun K "total" "total" Cj f fd)(Gplus:FF P w K mg base 3 "plus" ["first", "second"] xf):
  dF P w K mg base (CX1 P w) 4 f fd ["some"] (spF ⟨K,mg⟩ nZ):=
 bL Fu wg λcdv A outer s H E hr=>by
 have hu:=hr.units;unfold BX Ce;exact(aO (cQ (i:=1) wg.nd rfl (a7 rfl)<|zZ Cn rfl)
  (aO (oX (k:=1000) eA rfl (Bu<|aF 0) (bQ (i:=2) wg.nd rfl<|a7 rfl)
  (aR<|cQ (i:=1) wg.nd rfl (a7 rfl)<|cA Gplus hr bF<|ao (aF 1)<|ao (aF 2) az))
  (aR<|cu<|aF 1)))
theorem yM(B:Bt mg)(Fu:Fun K "show_ratio" "show_ratio" oU f fd)  :
  dF P w K mg base (CX1 P w) 1 f fd ["first"] (spF ⟨K,mg⟩ dw):=
 bL Fu nu λcdv A outer s H E hr=>by
 have hu:=hr.units;unfold kJ j8;exact(aO (cQ (i:=1) nu.nd rfl (a7 rfl)<|gU qC rfl B.str rT<|aQ (aD<|bM b8 (aq 0) (aD aB) λ_ _=>rfl) aZ)
  (aO (iu (d7 (iW hu) (aD<|bM b8 (aq 0) (aD aB) λ_ _=>rfl) (aD aB)<|cM _)
  (aR<|cu<|aF 1)
  cJ)
  (aO (cQ (i:=2) nu.nd rfl (a7 rfl)<|gU qC rfl B.str rT<|aQ (aD<|bM b8 (aq 0) (aD aB) λ_ _=>rfl) aZ)
  (aR<|cu<|m7<|iZ (Ii<|aq 1)<|iZ aM<|iZ (Ii<|aq 2) xX))))
theorem xP(B:Bt mg)(Cn:CnT K mg)(Fu:Fun K "are_figures" "are_figures" jM f fd)  :
  dF P w K mg base (CX1 P w) 1 f fd ["text"] (spF ⟨K,mg⟩ fQ):=
 bL Fu yO λcdv A outer s H E hr=>by
 have hu:=hr.units;unfold rB fV;exact(aR<|cu<|uU (Ec Bv Bv (aD aB) (aD<|cH dm rfl B.len iK<|aQ (aq 0) aZ)<|aD<|vY Cn rfl)<|uY<|cH (qI rfl) rfl B.all Bb<|aQ (aD<|eX<|lY (aK jM) ["sign"] [] 1 [] rfl ⟨rfl,by decide +kernel,by decide +kernel,by decide +kernel,by decide +kernel⟩ .nil (uG<|Rk<|aF 0) (λ_ _ _ _ _ _=>(bQ (i:=0) (show fR (["sign"]:List Str) by decide) rfl (a7 rfl))) (λ_ _ _ _ _ _=>gC) (λ_ _ _ _ _ _=>(nU Rx (aq 0) (aD<|Ij Cn rfl)<|by with_unfolding_all rfl))) aZ)
theorem zu(B:Bt mg)(Ex:ExT K mg)(Xc:XcT K mg)(Fu:Fun K "read_ratio" "read_ratio" nQ f fd)(Glowest:FF P w K mg base 2 "lowest" ["top", "bottom"] fO)(Gshow_ratio:FF P w K mg base 1 "show_ratio" ["first"] dw)(Gare_figures:FF P w K mg base 1 "are_figures" ["text"] fQ):
  dF P w K mg base (CX1 P w) 3 f fd ["text"] (spF ⟨K,mg⟩ fH):=
 bL Fu gJ λcdv A outer s H E hr=>by
 have hu:=hr.units;unfold tQ cR;exact(aO (iu (jw<|iM<|pZ (x:="") (aq 0) rfl B.isinstance bJ rfl B.str rT)
  (aR<|jB Ex.NoText rfl hr.hd (yj aM) λ_ _ _ _ _ _ _ _ I mk q=>lE I mk q)
  cJ)
  (aO (cQ (i:=1) gJ.nd rfl (a7 rfl)<|Ab gv qS PySem.F.type_str_partition yU (aq 0)<|aQ (aD aM) aZ)
  (aO (cQ (i:=2) gJ.nd rfl (a7 rfl)<|bM b8 (aq 1) (aD aB) λ_ _=>rfl)
  (aO (cQ (i:=3) gJ.nd rfl (a7 rfl)<|Rq (d7 (iW hu) (aD<|bM b8 (aq 1) (aD aB) λ_ _=>rfl) (aD aM)<|cM _) (bM b8 (aq 1) (aD aB) λ_ _=>rfl) aM)
  (aO (cQ (i:=4) gJ.nd rfl (a7 rfl)<|Rq (iM<|Ab gv PySem.F.slot_str_startswith PySem.F.type_str_startswith Ia (aq 2)<|aQ (aD aM) aZ) (pH (aq 2) (qG<|aD aB) wF)<|aF 2)
  (aO (iu (Ie<|wH (jw<|iM<|cA Gare_figures hr bF<|ao (aF 4) az)<|wH (jw<|iM<|cA Gare_figures hr bF<|ao (aF 3) az)<|uZ<|d7 (iW hu) (aD<|gU qF rfl B.int yf<|aQ (aq 3) aZ) (aD aB)<|cM _)
  (aR<|jB Ex.NoText rfl hr.hd (yj<|m7<|iZ (Be<|aq 0)<|iZ aM xX) λ_ _ _ _ _ _ _ _ I mk q=>lE I mk q)
  cJ)
  (aO (cQ (i:=5) gJ.nd rfl (a7 rfl)<|cA Glowest hr bF<|ao (gU qF rfl B.int yf<|aQ (aq 2) aZ)<|ao (gU qF rfl B.int yf<|aQ (aq 3) aZ) az)
  (aO (iu (d7 (nF hu) (aD<|cA Gshow_ratio hr bF<|ao (aF 5) az) (aq 0)<|cM _)
  (aR<|jB Ex.NoText rfl hr.hd (yj<|m7<|iZ (Be<|aq 0)<|iZ aM xX) λ_ _ _ _ _ _ _ _ I mk q=>lE I mk q)
  cJ)
  (aR<|cu<|aF 5)))))))))
theorem Ib(B:Bt mg)(Cn:CnT K mg)(Fu:Fun K "is_name" "is_name" qJ f fd)  :
  dF P w K mg base (CX1 P w) 1 f fd ["thing"] (spF ⟨K,mg⟩ mW):=
 bL Fu M4 λcdv A outer s H E hr=>by
 have hu:=hr.units;unfold Al lq;exact(aO (iu (jw<|iM<|pZ (x:="") (aq 0) rfl B.isinstance bJ rfl B.str rT)
  (aR<|cu lB)
  cJ)
  (aR<|cu<|uU (Ec Bv Bv (aD aB) (aD<|cH dm rfl B.len iK<|aQ (aq 0) aZ)<|aD<|yS Cn rfl)<|uY<|cH (qI rfl) rfl B.all Bb<|aQ (aD<|eX<|lY (aK qJ) ["sign"] [] 1 [] rfl ⟨rfl,by decide +kernel,by decide +kernel,by decide +kernel,by decide +kernel⟩ .nil (uG<|Rk<|aF 0) (λ_ _ _ _ _ _=>(bQ (i:=0) (show fR (["sign"]:List Str) by decide) rfl (a7 rfl))) (λ_ _ _ _ _ _=>gC) (λ_ _ _ _ _ _=>(nU Rx (aq 0) (aD<|zB Cn rfl)<|by with_unfolding_all rfl))) aZ))
theorem xj(B:Bt mg)(Fu:Fun K "branches_of" "branches_of" jJ f fd)  :
  dF P w K mg base (CX1 P w) 1 f fd ["game"] (spF ⟨K,mg⟩ eG):=
 bL Fu yZ λcdv A outer s H E hr=>by
 have hu:=hr.units;unfold rJ fW;exact(aO (iu (d7 (iW hu) (aD<|bM b8 (aq 0) (aD aB) λ_ _=>rfl) (aD aM)<|cM _)
  (aR<|wC<|je az)
  cJ)
  (aR<|wC<|lY (aK jJ) ["lead", "branch"] [] 2 [] rfl ⟨rfl,by decide +kernel,by decide +kernel,by decide +kernel,by decide +kernel⟩ .nil (uG<|CQ<|bM b8 (aq 0) (aD<|Qt Cg<|aD aB) λ_ _=>rfl) (λ_ _ _ _ _ _=>(uK rfl<|dU (bQ (i:=0) (show fR (["lead", "branch"]:List Str) by decide) rfl (a7 rfl)) (dU (bQ (i:=1) (show fR (["lead", "branch"]:List Str) by decide) rfl (a7 rfl)) oG))) (λ_ _ _ _ _ _=>gC) (λ_ _ _ _ _ _=>(aF 1))))
theorem Bk(B:Bt mg)(Fu:Fun K "places_of" "places_of" lW f fd)(Gbranches_of:FF P w K mg base 1 "branches_of" ["game"] eG):
  dF P w K mg base (CX1 P w) 2 f fd ["game"] (spF ⟨K,mg⟩ jR):=
 bL Fu jT λcdv A outer s H E hr=>by
 have hu:=hr.units;unfold vM lR;exact(aO (uP (i:=1) jT.nd rfl (a7 rfl)<|je az)
  (aO (uP (i:=2) jT.nd rfl (a7 rfl)<|je<|ao (bD<|ao (bD az)<|ao (aF 0) az) az)
  (aO (DX eA (d7 Xd (aD<|cH dm rfl B.len iK<|aQ (aq 2) aZ) (aD aB)<|cM _)
  (aO (M7 3 2 jT.nd rfl<|j3 rfl)
  (aO (uO 1<|aF 3)
  (aO (yu (i:=4) (aK lW) ["number", "branch", "place"] ["place"] 2 [3] jT.nd rfl (a7 rfl) rfl ⟨rfl,by decide +kernel,by decide +kernel,by decide +kernel,by decide +kernel⟩ (.cons rfl .nil) (Ou rfl B.enumerate<|aQ (aD<|cA Gbranches_of hr bF<|ao (bM b8 (aq 3) (aD aB) λ_ _=>rfl) az) aZ) (λ_ _ _ _ _ _=>(uK rfl<|dU (bQ (i:=0) (show fR (["number", "branch", "place"]:List Str) by decide) rfl (a7 rfl)) (dU (bQ (i:=1) (show fR (["number", "branch", "place"]:List Str) by decide) rfl (a7 rfl)) oG))) (λ_ _ _ _ _ _=>gC) (λ_ _ _ _ _ _=>(bD<|ao (b7 aN (aD<|bM b8 (aq 2) (aD aB) λ_ _=>rfl)<|aD<|bD<|ao (aF 0) az)<|ao (aF 1) az)))
  (aR<|Mt 2<|U6 rfl rfl B.list rfl B.reversed<|aQ (aq 4) aZ)))))
  (aR<|v8 1))))
theorem Eo(B:Bt mg)(Fu:Fun K "words_at" "words_at" nG f fd)  :
  dF P w K mg base (CX1 P w) 1 f fd ["move"] (spF ⟨K,mg⟩ lH):=
 bL Fu Hm λcdv A outer s H E hr=>by
 have hu:=hr.units;unfold rW su;exact(aR<|cu<|gU lQ rfl B.tuple m8<|aQ (aD<|eX<|lY (aK nG) ["word", "branch"] [] 2 [] rfl ⟨rfl,by decide +kernel,by decide +kernel,by decide +kernel,by decide +kernel⟩ .nil (uG<|CQ<|bM b8 (aq 0) (aD aB) λ_ _=>rfl) (λ_ _ _ _ _ _=>(uK rfl<|dU (bQ (i:=0) (show fR (["word", "branch"]:List Str) by decide) rfl (a7 rfl)) (dU (bQ (i:=1) (show fR (["word", "branch"]:List Str) by decide) rfl (a7 rfl)) oG))) (λ_ _ _ _ _ _=>gC) (λ_ _ _ _ _ _=>(aF 0))) aZ)
theorem tX(B:Bt mg)(Fu:Fun K "records_behind" "records_behind" jA f fd)  :
  dF P w K mg base (CX1 P w) 1 f fd ["place", "records", "number"] (spF ⟨K,mg⟩ dq):=
 bL Fu mX λcdv A outer s H E hr=>by
 have hu:=hr.units;unfold eY eV;exact(aO (iu (d7 (nF hu) (aD<|bM b8 (aq 0) (aD aB) λ_ _=>rfl) (aD aM)<|cM _)
  (aR<|cu<|aF 1)
  cJ)
  (aO (cQ (i:=3) mX.nd rfl (a7 rfl)<|bD<|ao (bM b8 (aq 0) (aD aB) λ_ _=>rfl)<|ao (bM b8 (aD<|bM b8 (aD<|bM b8 (aq 0) (aD aB) λ_ _=>rfl) (aq 2) λ_ _=>rfl) (aD aB) λ_ _=>rfl) az)
  (aO (iu (d7 (iW hu) (aD<|bM b8 (aq 0) (aD aB) λ_ _=>rfl) (aD aB)<|cM _)
  (aR<|cu<|bD<|ao (b7 aN (aD<|bM b8 (aq 1) (aD aB) λ_ _=>rfl)<|aD<|bD<|ao (aF 3) az)<|ao (bM b8 (aq 1) (aD aB) λ_ _=>rfl) az)
  cJ)
  (aR<|cu<|bD<|ao (bM b8 (aq 1) (aD aB) λ_ _=>rfl)<|ao (b7 aN (aD<|bM b8 (aq 1) (aD aB) λ_ _=>rfl)<|aD<|bD<|ao (aF 3) az) az))))
theorem oV(B:Bt mg)(Fu:Fun K "places_with_records" "places_with_records" fZ f fd)(Gbranches_of:FF P w K mg base 1 "branches_of" ["game"] eG)(Gplaces_of:FF P w K mg base 2 "places_of" ["game"] jR)(Grecords_behind:FF P w K mg base 1 "records_behind" ["place", "records", "number"] dq):
  dF P w K mg base (CX1 P w) 3 f fd ["game"] (spF ⟨K,mg⟩ cY):=
 bL Fu cD λcdv A outer s H E hr=>by
 have hu:=hr.units;unfold jt dZ;refine Wr.out ?_;exact(bH (pA (i:=1) cD.nd rfl (a7 rfl)<|Wr.mk<|Ob hr (bD az)<|bD<|ao (bD az)<|ao (bD az) az)<|bH (pA (i:=2) cD.nd rfl (a7 rfl)<|fP<|Wr.mk az)<|bH (Wr.mk<|oX (k:=1000) eA rfl (Bu<|cA Gplaces_of hr bF<|ao (aF 0) az) (uK rfl<|dU (bQ (i:=3) cD.nd rfl<|a7 rfl)<|dU (bQ (i:=4) cD.nd rfl<|a7 rfl) oG)<|Wr.out<|bH (Jo 2<|bZ<|aG (Wr.mk<|aF 3)<|aG (Wr.mk<|aF 4)<|aG (Wr.mk<|Ja hr (aq 1) (aq 3) λ_ _=>rfl)<|Wr.mk az)<|j5<|Wr.mk<|oX (k:=1000) eA rfl (lg rfl B.range<|aQ (aD<|cH dm rfl B.len iK<|aQ (aD<|cA Gbranches_of hr bF<|ao (aF 4) az) aZ) aZ) (bQ (i:=5) cD.nd rfl<|a7 rfl)<|Wr.out<|j5<|Wr.mk<|Ux 1 hr (cA Grecords_behind hr bF<|ao (aF 4)<|ao (Ja hr (aq 1) (aq 3) λ_ _=>rfl)<|ao (aF 5) az)<|b7 aN (aq 3)<|aD<|bD<|ao (aF 5) az)<|j5<|Wr.mk<|v8 2)
theorem Lg(B:Bt mg)(Fu:Fun K "row_at" "row_at" yD f fd)(Gwords_at:FF P w K mg base 1 "words_at" ["move"] lH):
  dF P w K mg base (CX1 P w) 2 f fd ["move", "records"] (spF ⟨K,mg⟩ mY):=
 bL Fu Qf λcdv A outer s H E hr=>by
 have hu:=hr.units;unfold uA uo;exact(aR<|cu<|bD<|ao (bM b8 (aq 0) (aD aB) λ_ _=>rfl)<|ao (bM b8 (aq 0) (aD aB) λ_ _=>rfl)<|ao (cA Gwords_at hr bF<|ao (aF 0) az)<|ao (bM b8 (aq 1) (aD<|b7 v7 (aD<|bM b8 (aq 0) (aD aB) λ_ _=>rfl)<|aD aB) λ_ _=>rfl) az)
theorem Gj(B:Bt mg)(Fu:Fun K "table_of" "table_of" sJ f fd)(Gplaces_with_records:FF P w K mg base 3 "places_with_records" ["game"] cY)(Grow_at:FF P w K mg base 2 "row_at" ["move", "records"] mY):
  dF P w K mg base (CX1 P w) 4 f fd ["game"] (spF ⟨K,mg⟩ oY):=
 bL Fu lJ λcdv A outer s H E hr=>by
 have hu:=hr.units;unfold xN nA;exact(aO (uP (i:=1) lJ.nd rfl (a7 rfl) RM)
  (aO (oX (k:=1000) eA rfl (Bu<|cA Gplaces_with_records hr bF<|ao (aF 0) az) (uK rfl<|dU (bQ (i:=2) lJ.nd rfl<|a7 rfl)<|dU (bQ (i:=3) lJ.nd rfl<|a7 rfl)<|dU (bQ (i:=4) lJ.nd rfl<|a7 rfl) oG)
  (aR (iu (d7 (iW hu) (aD<|bM b8 (aq 3) (aD aB) λ_ _=>rfl) (aD aM)<|cM _)
  (aR<|Xq 1 hr (bD<|ao (bM b8 (aq 3) (aD aB) λ_ _=>rfl)<|ao (bM b8 (aq 3) (aD aB) λ_ _=>rfl) az) (cA Grow_at hr bF<|ao (aF 3)<|ao (aF 4) az) ⟨rfl,rfl,rfl,rfl⟩)
  cJ)))
  (aR<|wC<|Rz rfl rfl B.list<|aq 1)))
theorem Ig(B:Bt mg)(Fu:Fun K "rows_of" "rows_of" qz f fd)(Gtable_of:FF P w K mg base 4 "table_of" ["game"] oY):
  dF P w K mg base (CX1 P w) 5 f fd ["game", "side"] (spF ⟨K,mg⟩ fU):=
 bL Fu Lp λcdv A outer s H E hr=>by
 have hu:=hr.units;unfold uF uR;exact(aR<|wC<|lY (aK qz) ["row", "side"] ["side"] 1 [1] rfl ⟨rfl,by decide +kernel,by decide +kernel,by decide +kernel,by decide +kernel⟩ (.cons rfl .nil) (pJ<|aD<|cA Gtable_of hr bF<|ao (aF 0) az) (λ_ _ _ _ _ _=>(bQ (i:=0) (show fR (["row", "side"]:List Str) by decide) rfl (a7 rfl))) (λ_ _ _ _ _ _=>(Fd<|d7 (iW hu) (aD<|bM b8 (aq 0) (aD aB) λ_ _=>rfl) (aq 1)<|cM _)) (λ_ _ _ _ _ _=>(aF 0)))
theorem sG(B:Bt mg)(Cn:CnT K mg)(Fu:Fun K "are_full_shares" "are_full_shares" gn f fd)(Gis_ratio:FF P w K mg base 2 "is_ratio" ["thing"] dX)(Gunder:FF P w K mg base 1 "under" ["first", "second"] uv)(Gtotal:FF P w K mg base 4 "total" ["some"] nZ):
  dF P w K mg base (CX1 P w) 5 f fd ["thing", "count"] (spF ⟨K,mg⟩ bz):=
 bL Fu tY λcdv A outer s H E hr=>by
 have hu:=hr.units;unfold gk cz;exact(aO (iu (Ie<|wH (jw<|iM<|pZ (x:="") (aq 0) rfl B.isinstance bJ rfl B.tuple m8)<|uZ<|d7 (nF hu) (aD<|cH dm rfl B.len iK<|aQ (aq 0) aZ) (aq 1)<|cM _)
  (aR<|cu lB)
  cJ)
  (aO (iu (jw<|iM<|cH (qI rfl) rfl B.all Bb<|aQ (aD<|eX<|lY (aK gn) ["share"] [] 1 [] rfl ⟨rfl,by decide +kernel,by decide +kernel,by decide +kernel,by decide +kernel⟩ .nil (uG<|CQ<|aF 0) (λ_ _ _ _ _ _=>(bQ (i:=0) (show fR (["share"]:List Str) by decide) rfl (a7 rfl))) (λ_ _ _ _ _ _=>gC) (λ_ _ _ _ _ _=>(uU (cA Gis_ratio hr Es<|ao (aF 0) az)<|uY<|Q3<|cA Gunder hr Es<|ao (aF 0)<|ao (zZ Cn rfl) az))) aZ)
  (aR<|cu lB)
  cJ)
  (aR<|cu<|nU (iW hu) (aD<|cA Gtotal hr bF<|ao (eX<|zT G4 rfl B.list wD<|aQ (aq 0) aZ) az) (aD<|W3 Cn rfl)<|cM _)))
theorem xY(B:Bt mg)(Fu:Fun K "is_plan_for" "is_plan_for" jO f fd)(Gare_full_shares:FF P w K mg base 5 "are_full_shares" ["thing", "count"] bz):
  dF P w K mg base (CX1 P w) 6 f fd ["rows", "thing"] (spF ⟨K,mg⟩ cG):=
 bL Fu zy λcdv A outer s H E hr=>by
 have hu:=hr.units;unfold iy ie;exact(aO (iu (Ie<|wH (jw<|iM<|pZ (x:="") (aq 1) rfl B.isinstance bJ rfl B.dict Ju)<|uZ<|d7 (nF hu) (aD<|cH dm rfl B.len iK<|aQ (aq 1) aZ) (aD<|cH dm rfl B.len iK<|aQ (aq 0) aZ)<|cM _)
  (aR<|cu lB)
  cJ)
  (aR<|cu<|cH (qI rfl) rfl B.all Bb<|aQ (aD<|eX<|lY (aK jO) ["row", "thing"] ["thing"] 1 [1] rfl ⟨rfl,by decide +kernel,by decide +kernel,by decide +kernel,by decide +kernel⟩ (.cons rfl .nil) (pJ<|aq 0) (λ_ _ _ _ _ _=>(bQ (i:=0) (show fR (["row", "thing"]:List Str) by decide) rfl (a7 rfl))) (λ_ _ _ _ _ _=>gC) (λ_ _ _ _ _ _=>(uU (nU (Yy hr) (aD<|bM b8 (aq 0) (aD aB) λ_ _=>rfl) (aq 1)<|by with_unfolding_all rfl)<|uY<|cA Gare_full_shares hr Es<|ao (JK hr (aq 1) (aD<|bM b8 (aq 0) (aD aB) λ_ _=>rfl) λ_ _=>rfl)<|ao (cH dm rfl B.len iK<|aQ (aD<|bM b8 (aq 0) (aD aB) λ_ _=>rfl) aZ) az))) aZ))
theorem Ht(B:Bt mg)(Fu:Fun K "is_plan" "is_plan" uL f fd)(Grows_of:FF P w K mg base 5 "rows_of" ["game", "side"] fU)(Gis_plan_for:FF P w K mg base 6 "is_plan_for" ["rows", "thing"] cG):
  dF P w K mg base (CX1 P w) 7 f fd ["game", "side", "thing"] (spF ⟨K,mg⟩ jF):=
 bL Fu Lf λcdv A outer s H E hr=>by
 have hu:=hr.units;unfold qP qH;exact(aR<|cu<|cA Gis_plan_for hr bF<|ao (cA Grows_of hr bF<|ao (aF 0)<|ao (aF 1) az)<|ao (aF 2) az)
theorem uy(B:Bt mg)(Ex:ExT K mg)(Xc:XcT K mg)(Fu:Fun K "refuse_no_plan" "refuse_no_plan" jC f fd)(Gis_plan:FF P w K mg base 7 "is_plan" ["game", "side", "thing"] jF):
  dF P w K mg base (CX1 P w) 8 f fd ["game", "side", "thing"] (spF ⟨K,mg⟩ bO):=
 bL Fu uX λcdv A outer s H E hr=>by
 have hu:=hr.units;unfold jy fj;exact(aR (iu (jw<|iM<|cA Gis_plan hr bF<|ao (aF 0)<|ao (aF 1)<|ao (aF 2) az)
  (aR<|jB Ex.NoPlan rfl hr.hd (yj<|m7<|iZ aM<|iZ (Ii<|aq 1) xX) λ_ _ _ _ _ _ _ _ I mk q=>lE I mk q)
  cJ))
theorem Cu(B:Bt mg)(Fu:Fun K "show_plan" "show_plan" my f fd)(Gshow_ratio:FF P w K mg base 1 "show_ratio" ["first"] dw)(Grows_of:FF P w K mg base 5 "rows_of" ["game", "side"] fU)(Grefuse_no_plan:FF P w K mg base 8 "refuse_no_plan" ["game", "side", "thing"] bO):
  dF P w K mg base (CX1 P w) 9 f fd ["game", "side", "plan"] (spF ⟨K,mg⟩ qu):=
 bL Fu vN λcdv A outer s H E hr=>by
 have hu:=hr.units;unfold vB lX;refine Wr.out ?_;exact(bH (Wr.mk<|KQ<|cA Grefuse_no_plan hr bF<|ao (aF 0)<|ao (aF 1)<|ao (aF 2) az)<|bH (Wr.mk<|yu (i:=3) (aK my) ["row", "plan" ] ["plan"] 1 [2] vN.nd rfl (a7 rfl) rfl ⟨rfl,by decide +kernel,by decide +kernel,by decide +kernel,by decide +kernel⟩ (.cons rfl .nil) (pJ<|aD<|cA Grows_of hr bF<|ao (aF 0)<|ao (aF 1) az) (λ_ _ _ _ _ _=>(bQ (i:=0) (show fR (["row", "plan" ]:List Str) by decide) rfl (a7 rfl))) (λ_ _ _ _ _ _=>gC) (λ_ _ _ _ _ _=>(Ab gv vF vS Gb (aD aM)<|aQ (aD<|b7 aN (aD<|eX<|je<|ao (bM b8 (aq 0) (aD aB) λ_ _=>rfl) az)<|aD<|eX<|lY ({ kind:=.function,names:=[ (".0" ,.local) ,("row" ,.local) ,("plan" ,.cell) ],isGenerator:=false,isCoroutine:=false }:l0) ["share"] [] 1 [] rfl ⟨rfl,by decide +kernel,by decide +kernel,by decide +kernel,by decide +kernel⟩ .nil (uG<|CQ<|JK hr (aq 1) (aD<|bM b8 (aq 0) (aD aB) λ_ _=>rfl) λ_ _=>rfl) (λ_ _ _ _ _ _=>(bQ (i:=0) (show fR (["share"]:List Str) by decide) rfl (a7 rfl))) (λ_ _ _ _ _ _=>gC) (λ_ _ _ _ _ _=>(cA Gshow_ratio hr Es<|ao (aF 0) az))) aZ))) (j5<|ue<|Wr.mk<|Ab gv vF vS Gb (aD aM)<|aQ (aq 3) aZ))
theorem Ds(B:Bt mg)(Ex:ExT K mg)(Xc:XcT K mg)(Fu:Fun K "read_row" "read_row" oh f fd)(Gread_ratio:FF P w K mg base 3 "read_ratio" ["text"] fH)(Gis_name:FF P w K mg base 1 "is_name" ["thing"] mW):
  dF P w K mg base (CX1 P w) 4 f fd ["text"] (spF ⟨K,mg⟩ gD):=
 bL Fu xG λcdv A outer s H E hr=>by
 have hu:=hr.units;unfold wM gB;exact(aO (cQ (i:=1) xG.nd rfl (a7 rfl)<|Ab gv iF tP An (aq 0)<|aQ (aD aM) aZ)
  (aO (iu (Ie<|wH (jw<|iM<|cA Gis_name hr bF<|ao (bM b8 (aq 1) (aD aB) λ_ _=>rfl) az)<|uZ<|d7 (iW hu) (aD<|cH dm rfl B.len iK<|aQ (aq 1) aZ) (aD aB)<|cM _)
  (aR<|jB Ex.NoText rfl hr.hd (yj<|m7<|iZ (Be<|aq 0)<|iZ aM xX) λ_ _ _ _ _ _ _ _ I mk q=>lE I mk q)
  cJ)
  (aR<|cu<|bD<|ao (bM b8 (aq 1) (aD aB) λ_ _=>rfl)<|ao (gU lQ rfl B.tuple m8<|aQ (aD<|eX<|Dp (aK oh) ["part"] [] 1 [] Dz rfl ⟨rfl,by decide +kernel,by decide +kernel,by decide +kernel,by decide +kernel⟩ .nil (pJ<|aD<|pH (aq 1) (qG<|aD aB) wF) (λ_ _ _ _ _ _=>(bQ (i:=0) (show fR (["part"]:List Str) by decide) rfl (a7 rfl))) (λ_ _ _ _ _ _=>gC) (λ_ _ _ _ _ _=>(cA Gread_ratio hr wN<|ao (aF 0) az))) aZ) az)))
theorem BV(B:Bt mg)(Fu:Fun K "read_rows" "read_rows" lU f fd)(Gread_row:FF P w K mg base 4 "read_row" ["text"] gD):
  dF P w K mg base (CX1 P w) 5 f fd ["text"] (spF ⟨K,mg⟩ gG):=
 bL Fu Em λcdv A outer s H E hr=>by
 have hu:=hr.units;unfold qi gF;exact(aR<|cu<|Rq (d7 (iW hu) (aq 0) (aD aM)<|cM _) (eX<|je az)<|eX<|Dp (aK lU) ["part"] [] 1 [] Dz rfl ⟨rfl,by decide +kernel,by decide +kernel,by decide +kernel,by decide +kernel⟩ .nil (pJ<|aD<|Ab gv iF tP An (aq 0)<|aQ (aD aM) aZ) (λ_ _ _ _ _ _=>(bQ (i:=0) (show fR (["part"]:List Str) by decide) rfl (a7 rfl))) (λ_ _ _ _ _ _=>gC) (λ_ _ _ _ _ _=>(cA Gread_row hr wN<|ao (aF 0) az)))
theorem BW(B:Bt mg)(Ex:ExT K mg)(Xc:XcT K mg)(Fu:Fun K "read_plan" "read_plan" pQ f fd)(Grefuse_no_plan:FF P w K mg base 8 "refuse_no_plan" ["game", "side", "thing"] bO)(Gread_rows:FF P w K mg base 5 "read_rows" ["text"] gG):
  dF P w K mg base (CX1 P w) 9 f fd ["game", "side", "text"] (spF ⟨K,mg⟩ cP):=
 bL Fu ql λcdv A outer s H E hr=>by
 have hu:=hr.units;unfold vL cU;exact(aO (iu (jw<|iM<|pZ (x:="") (aq 2) rfl B.isinstance bJ rfl B.str rT)
  (aR<|jB Ex.NoText rfl hr.hd (yj aM) λ_ _ _ _ _ _ _ _ I mk q=>lE I mk q)
  cJ)
  (aO (cQ (i:=3) ql.nd rfl (a7 rfl)<|cA Gread_rows hr bF<|ao (aF 2) az)
  (aO (uP (i:=4) ql.nd rfl (a7 rfl)<|zT (Dw rfl) rfl B.dict Ju<|aQ (aq 3) aZ)
  (aO (iu (d7 (Bs hu) (aD<|cH dm rfl B.len iK<|aQ (aq 4) aZ) (aD<|cH dm rfl B.len iK<|aQ (aq 3) aZ)<|cM _)
  (aR<|jB Ex.NoText rfl hr.hd (yj aM) λ_ _ _ _ _ _ _ _ I mk q=>lE I mk q)
  cJ)
  (aO (KQ<|Xw Grefuse_no_plan hr bF<|aQ (aq 0)<|aQ (aq 1)<|aQ (aq 4) aZ)
  (aR<|v8 4))))))
theorem vU(B:Bt mg)(Fu:Fun K "_law_cell_at" "_law_cell_at" lD f fd)  :
  dF P w K mg base (CX1 P w) 1 f fd ["_law_script", "_law_k"] (spF ⟨K,mg⟩ bR):=
 bL Fu xq λcdv A outer s H E hr=>by
 have hu:=hr.units;unfold jo jh;exact(aO (iu (d7 (Bs hu) (aq 1) (aD<|cH dm rfl B.len iK<|aQ (aq 0) aZ)<|cM _)
  (aR<|cu<|bM b8 (aq 0) (aq 1) λ_ _=>rfl)
  cJ)
  (aR<|cu aB))
theorem zx(B:Bt mg)(Fu:Fun K "_law_names" "_law_names" nJ f fd)  :
  dF P w K mg base (CX1 P w) 1 f fd ["_law_x", "_law_y", "_law_many"] (spF ⟨K,mg⟩ fJ):=
 bL Fu dI λcdv A outer s H E hr=>by
 have hu:=hr.units;unfold ur j9;exact(aO (cQ (i:=3) dI.nd rfl (a7 rfl) aM)
  (aO (cQ (i:=4) dI.nd rfl (a7 rfl)<|b7 aN (aD aB)<|aD<|b7 gr (aq 0)<|aD aB)
  (aO (cQ (i:=5) dI.nd rfl (a7 rfl)<|b7 gr (aq 1)<|aq 4)
  (aO (uP (i:=6) dI.nd rfl (a7 rfl)<|je az)
  (aO (oX (k:=1000) eA rfl (lg rfl B.range<|aQ (aq 2) aZ) (bQ (i:=7) dI.nd rfl<|a7 rfl)
  (aO (cQ (i:=8) dI.nd rfl (a7 rfl) aM)
  (aO (oX (k:=1000) eA rfl (lg rfl B.range<|aQ (aq 4) aZ) (bQ (i:=9) dI.nd rfl<|a7 rfl)
  (aR<|cQ (i:=8) dI.nd rfl (a7 rfl)<|b7 aN (aq 8)<|aD<|bM b8 (aq 3) (aD<|b7 gr (aD<|b7 aN (aD<|b7 aN (aD<|b7 nY (aq 0)<|aD<|b7 aN (aq 9)<|aD aB)<|aD<|b7 gO (aq 9)<|aq 9)<|aD<|b7 gO (aD<|b7 aN (aq 7)<|aD aB)<|aD<|gU qF rfl B.int yf<|aQ (aD<|nU (iW hu) (aq 9) (aq 5)<|cM _) aZ)<|aD aB) λ_ _=>rfl))
  (aR<|uO 6<|aF 8))))
  (aR<|v8 6))))))
theorem CW(B:Bt mg)(Fu:Fun K "_law_game" "_law_game" qj f fd)  :
  dF P w K mg base (CX1 P w) 1 f fd ["_law_first", "_law_names_here", "_law_form"] (spF ⟨K,mg⟩ iU):=
 bL Fu fG λcdv A outer s H E hr=>by
 have hu:=hr.units;unfold vI lZ;refine Wr.out ?_;exact(bH (pA (i:=3) fG.nd rfl (a7 rfl)<|fP<|Wr.mk az)<|bH (Wr.mk<|oX (k:=1000) eA rfl (lg rfl B.range<|aQ (aD aB) aZ) (bQ (i:=4) fG.nd rfl<|a7 rfl)<|Wr.out<|bH (pA (i:=5) fG.nd rfl (a7 rfl)<|fP<|Wr.mk az)<|bH (Wr.mk<|oX (k:=1000) eA rfl (lg rfl B.range<|aQ (aD aB) aZ) (bQ (i:=6) fG.nd rfl<|a7 rfl)<|Wr.out<|bH (gA (i:=7) fG.nd rfl (a7 rfl)<|sI b8 (aU<|dC<|fP<|aG (Wr.mk aM)<|aG (bf aN (aU<|Wr.mk aM)<|aU<|Jy qC rfl B.str rT<|Jq (Wr.mk<|aq 6)<|Wr.mk aZ)<|aG (bf aN (aU<|Wr.mk aM)<|aU<|Jy qC rfl B.str rT<|Jq (Wr.mk<|aq 4)<|Wr.mk aZ)<|Wr.mk az) (Wr.mk<|aq 2) λ_ _=>rfl)<|bH (gA (i:=8) fG.nd rfl (a7 rfl)<|bZ<|aG (Wr.mk aM)<|aG (bf v7 (aU<|Wr.mk aB)<|Wr.mk<|aq 0)<|aG (Wr.mk<|aF 7)<|aG (bZ<|aG (bZ<|aG (Wr.mk aM)<|aG (bZ<|aG (Wr.mk aM)<|aG (bZ<|aG (bf aN (Wr.mk<|aq 4)<|Wr.mk<|aq 6)<|aG (Wr.mk aB)<|Wr.mk az)<|Wr.mk az)<|Wr.mk az)<|aG (bZ<|aG (Wr.mk aM)<|aG (bZ<|aG (Wr.mk aM)<|aG (bZ<|aG (bf v7 (Wr.mk<|aq 4)<|Wr.mk<|aq 6)<|aG (bf aN (aU<|bf gO (aU<|Wr.mk aB)<|Wr.mk<|aq 6)<|aU<|Wr.mk aB)<|Wr.mk az)<|Wr.mk az)<|Wr.mk az)<|Wr.mk az)<|Wr.mk az)<|bH (Qs (Wr.mk<|Ie<|Xk (d7 (iW hu) (aq 6) (aD aB)<|cM _)<|Ug<|d7 (iW hu) (aq 4) (aD aB)<|cM _) (j5<|gA (i:=8) fG.nd rfl (a7 rfl)<|bZ<|aG (Wr.mk aM)<|aG (bf v7 (aU<|Wr.mk aB)<|Wr.mk<|aq 0)<|aG (Wr.mk<|aF 7)<|aG (bZ<|aG (bZ<|aG (Wr.mk aM)<|aG (bZ<|aG (Wr.mk aM)<|aG (bZ<|aG (Wr.mk aB)<|aG (Wr.mk aB)<|Wr.mk az)<|Wr.mk az)<|Wr.mk az)<|aG (bZ<|aG (Wr.mk aM)<|aG (bZ<|aG (Wr.mk aM)<|aG (bZ<|aG (Wr.mk aB)<|aG (Wr.mk aB)<|Wr.mk az)<|Wr.mk az)<|Wr.mk az)<|Wr.mk az)<|Wr.mk az)<|Wr.mk cJ)<|j5<|Jo 5<|bZ<|aG (sI b8 (aU<|dC<|fP<|aG (Wr.mk aM)<|aG (Wr.mk aM)<|Wr.mk az) (Wr.mk<|aq 6) λ_ _=>rfl)<|aG (Wr.mk<|aF 8)<|Wr.mk az)<|j5<|Jo 3<|bZ<|aG (bZ<|aG (Wr.mk aB)<|aG (Wr.mk aB)<|Wr.mk az)<|aG (bZ<|aG (Wr.mk aM)<|aG (Wr.mk<|aF 0)<|aG (sI b8 (Wr.mk<|aq 1) (Wr.mk<|aq 4) λ_ _=>rfl)<|aG (Jy lQ rfl B.tuple m8<|Jq (Wr.mk<|aq 5)<|Wr.mk aZ)<|Wr.mk az)<|Wr.mk az)<|j5<|ue<|bZ<|aG (Wr.mk aM)<|aG (Wr.mk aM)<|aG (Jy lQ rfl B.tuple m8<|Jq (Wr.mk<|aq 3)<|Wr.mk aZ)<|Wr.mk az)
theorem uE(B:Bt mg)(Fu:Fun K "_law_bad_text" "_law_bad_text" jV f fd)  :
  dF P w K mg base (CX1 P w) 1 f fd ["_law_names_here", "_law_x"] (spF ⟨K,mg⟩ d8):=
 bL Fu bG λcdv A outer s H E hr=>by
 have hu:=hr.units;unfold o9 iD;refine Wr.out ?_;exact(bH (gA (i:=2) bG.nd rfl (a7 rfl)<|sI b8 (Wr.mk<|aq 0) (aU<|Wr.mk aB) λ_ _=>rfl)<|bH (gA (i:=3) bG.nd rfl (a7 rfl)<|sI b8 (Wr.mk<|aq 0) (aU<|Wr.mk aB) λ_ _=>rfl)<|bH (gA (i:=4) bG.nd rfl (a7 rfl)<|bf aN (Wr.mk<|aq 2)<|aU<|Wr.mk aM)<|bH (gA (i:=5) bG.nd rfl (a7 rfl)<|bf aN (Wr.mk<|aq 3)<|aU<|Wr.mk aM)<|bH (gA (i:=6) bG.nd rfl (a7 rfl)<|bf gr (aU<|bf nY (Wr.mk<|aq 1)<|aU<|Wr.mk aB)<|aU<|Wr.mk<|cH dm rfl B.len iK<|aQ (aq 2) aZ)<|bH (pA (i:=7) bG.nd rfl (a7 rfl)<|fP<|aG (bZ<|aG (bf aN (aU<|bf aN (Wr.mk<|aq 4)<|aU<|Wr.mk aM)<|Wr.mk<|aq 4)<|aG (Wr.mk aM)<|Wr.mk az)<|aG (bZ<|aG (bf aN (aU<|bf aN (Wr.mk<|aq 4)<|aU<|Wr.mk aM)<|Wr.mk<|aq 5)<|aG (Wr.mk aM)<|Wr.mk az)<|aG (bZ<|aG (bf aN (aU<|bf aN (aU<|bf aN (Wr.mk<|aq 4)<|aU<|Wr.mk aM)<|Wr.mk<|aq 5)<|aU<|Wr.mk aM)<|aG (Wr.mk aM)<|Wr.mk az)<|Wr.mk az)<|bH (pA (i:=7) bG.nd rfl (a7 rfl)<|wZ (Wr.mk<|aq 7)<|aU<|dC<|fP<|aG (bZ<|aG (bf aN (aU<|bf aN (Wr.mk<|aq 2)<|aU<|Wr.mk aM)<|Wr.mk<|aq 5)<|aG (Wr.mk aM)<|Wr.mk az)<|aG (bZ<|aG (bf aN (aU<|bf aN (Wr.mk<|aq 2)<|aU<|Wr.mk aM)<|Wr.mk<|aq 5)<|aG (Wr.mk aM)<|Wr.mk az)<|Wr.mk az)<|bH (pA (i:=7) bG.nd rfl (a7 rfl)<|wZ (Wr.mk<|aq 7)<|aU<|dC<|fP<|aG (bZ<|aG (bf aN (aU<|bf aN (aU<|bf aN (Wr.mk<|aq 4)<|aU<|Wr.mk aM)<|Wr.mk<|aq 3)<|aU<|Wr.mk aM)<|aG (Wr.mk aM)<|Wr.mk az)<|Wr.mk az)<|bH (pA (i:=7) bG.nd rfl (a7 rfl)<|wZ (Wr.mk<|aq 7)<|aU<|dC<|fP<|aG (bZ<|aG (bf aN (aU<|bf aN (aU<|bf aN (aU<|bf aN (aU<|Wr.mk<|pH (aq 2) wF<|qG<|aq 6)<|aU<|Wr.mk aM)<|aU<|Wr.mk<|pH (aq 2) (qG<|aD<|b7 aN (aq 6)<|aD aB) wF)<|aU<|Wr.mk aM)<|Wr.mk<|aq 5)<|aG (Wr.mk aM)<|Wr.mk az)<|aG (bZ<|aG (bf aN (aU<|bf aN (aU<|bf aN (aU<|Wr.mk aM)<|Wr.mk<|aq 4)<|aU<|Wr.mk aM)<|Wr.mk<|aq 5)<|aG (Wr.mk aM)<|Wr.mk az)<|Wr.mk az)<|bH (pA (i:=7) bG.nd rfl (a7 rfl)<|wZ (Wr.mk<|aq 7)<|aU<|dC<|fP<|aG (bZ<|aG (Wr.mk<|aF 4)<|aG (Wr.mk aM)<|Wr.mk az)<|aG (bZ<|aG (bf aN (aU<|bf aN (aU<|bf aN (aU<|bf aN (aU<|bf aN (Wr.mk<|aq 4)<|aU<|Wr.mk aM)<|Wr.mk<|aq 5)<|aU<|Wr.mk aM)<|aU<|sI b8 (Wr.mk<|aq 0) (aU<|Wr.mk aB) λ_ _=>rfl)<|aU<|Wr.mk aM)<|aG (Wr.mk aM)<|Wr.mk az)<|aG (bZ<|aG (Wr.mk aM)<|aG (Wr.mk aM)<|Wr.mk az)<|Wr.mk az)<|bH (pA (i:=7) bG.nd rfl (a7 rfl)<|wZ (Wr.mk<|aq 7)<|aU<|dC<|fP<|aG (bZ<|aG (bf aN (aU<|bf aN (aU<|bf aN (Wr.mk<|aq 4)<|aU<|Wr.mk aM)<|aU<|sI b8 (Wr.mk<|aq 0) (aU<|Wr.mk aB) λ_ _=>rfl)<|aU<|Wr.mk aM)<|aG (Wr.mk aM)<|Wr.mk az)<|Wr.mk az)<|bH (pA (i:=7) bG.nd rfl (a7 rfl)<|wZ (Wr.mk<|aq 7)<|aU<|dC<|fP<|aG (bZ<|aG (bf aN (aU<|bf aN (Wr.mk<|aq 2)<|aU<|Wr.mk aM)<|Wr.mk<|aq 5)<|aG (Wr.mk aM)<|Wr.mk az)<|aG (bZ<|aG (bf aN (aU<|bf aN (Wr.mk<|aq 2)<|aU<|Wr.mk aM)<|Wr.mk<|aq 5)<|aG (Wr.mk aM)<|Wr.mk az)<|Wr.mk az)<|bH (pA (i:=7) bG.nd rfl (a7 rfl)<|wZ (Wr.mk<|aq 7)<|aU<|dC<|fP<|aG (bZ<|aG (bf aN (aU<|bf aN (Wr.mk<|aq 2)<|aU<|Wr.mk aM)<|Wr.mk<|aq 5)<|aG (Wr.mk aM)<|Wr.mk az)<|Wr.mk az)<|bH (Jo 7<|bZ<|aG (bf aN (aU<|bf aN (aU<|bf aN (aU<|bf aN (Wr.mk<|aq 2)<|aU<|Wr.mk aM)<|aU<|bf Rr (aU<|Wr.mk aM)<|aU<|Wr.mk aB)<|aU<|Wr.mk aM)<|Wr.mk<|aq 5)<|aG (Wr.mk aM)<|Wr.mk az)<|j5<|ue<|sI b8 (aU<|bf aN (Wr.mk<|aq 7)<|aU<|dC<|fP<|aG (bZ<|aG (bf aN (aU<|bf aN (Wr.mk<|aq 2)<|aU<|Wr.mk aM)<|Wr.mk<|aq 5)<|aG (Wr.mk aM)<|Wr.mk az)<|Wr.mk az) (aU<|bf gr (Wr.mk<|aq 1)<|aU<|Wr.mk aB) λ_ _=>rfl)
theorem vh(B:Bt mg)(Fu:Fun K "_law_bad_plan" "_law_bad_plan" j0 f fd)  :
  dF P w K mg base (CX1 P w) 1 f fd ["_law_names_here", "_law_x"] (spF ⟨K,mg⟩ d9):=
 bL Fu cT λcdv A outer s H E hr=>by
 have hu:=hr.units;unfold o6 iz;refine Wr.out ?_;exact(bH (gA (i:=2) cT.nd rfl (a7 rfl)<|sI b8 (Wr.mk<|aq 0) (aU<|Wr.mk aB) λ_ _=>rfl)<|bH (gA (i:=3) cT.nd rfl (a7 rfl)<|sI b8 (Wr.mk<|aq 0) (aU<|Wr.mk aB) λ_ _=>rfl)<|bH (gA (i:=4) cT.nd rfl (a7 rfl)<|bZ<|aG (bZ<|aG (Wr.mk aB)<|aG (Wr.mk aB)<|Wr.mk az)<|aG (bZ<|aG (Wr.mk aB)<|aG (Wr.mk aB)<|Wr.mk az)<|Wr.mk az)<|bH (gA (i:=5) cT.nd rfl (a7 rfl)<|dC<|fP<|aG (dC<|Wr.mk<|iB (bW (aF 2) (aF 4) iH) rfl rfl (λz=>nomatch z)<|by decide)<|aG (dC<|Wr.mk<|iB (bW (aF 2) (aF 4)<|bW (aF 3) (aF 4)<|bW (bM b8 (aq 0) (aD aB) λ_ _=>rfl) (aF 4) iH) rfl rfl (λz=>nomatch z)<|by decide)<|aG (dC<|Wr.mk<|iB (bW (aF 2) (aF 4)<|bW (aF 3) (bD<|ao (bD<|ao aB<|ao aB az) az) iH) rfl rfl (λz=>nomatch z)<|by decide)<|Wr.mk az)<|bH (gA (i:=5) cT.nd rfl (a7 rfl)<|bf aN (Wr.mk<|aq 5)<|aU<|dC<|fP<|aG (dC<|Wr.mk<|iB (bW (aF 2) (aF 4)<|bW (aF 3) (eX<|je<|ao (bD<|ao aB<|ao aB az)<|ao (bD<|ao aB<|ao aB az) az) iH) rfl rfl (λz=>nomatch z)<|by decide)<|Wr.mk az)<|bH (gA (i:=5) cT.nd rfl (a7 rfl)<|bf aN (Wr.mk<|aq 5)<|aU<|dC<|fP<|aG (dC<|Wr.mk<|iB (bW (aF 2) (aF 4)<|bW (aF 3) (bD<|ao (bD<|ao aB<|ao aB az)<|ao (bD<|ao aB<|ao aB az) az) iH) rfl rfl (λz=>nomatch z)<|by decide)<|aG (dC<|Wr.mk<|iB (bW (aF 2) (aF 4)<|bW (aF 3) (bD<|ao (bD<|ao aB<|ao aB az)<|ao (bD<|ao (Qt Cg<|aD aB)<|ao aB az) az) iH) rfl rfl (λz=>nomatch z)<|by decide)<|aG (dC<|Wr.mk J4)<|aG (Wr.mk Hl)<|aG (dC<|fP<|aG (Wr.mk<|aF 2)<|aG (Wr.mk<|aF 3)<|Wr.mk az)<|Wr.mk az)<|bH (gA (i:=5) cT.nd rfl (a7 rfl)<|bf aN (Wr.mk<|aq 5)<|aU<|dC<|fP<|aG (dC<|Wr.mk<|iB (bW (aF 2) (aF 4)<|bW (aF 3) (bD<|ao (bD<|ao aB<|ao aB az)<|ao (bD<|ao aB<|ao aB az) az) iH) rfl rfl (λz=>nomatch z)<|by decide)<|aG (dC<|Wr.mk<|iB (bW (aF 2) (aF 4)<|bW (aF 3) Hl iH) rfl rfl (λz=>nomatch z)<|by decide)<|aG (Wr.mk aM)<|aG (bZ<|aG (bZ<|aG (Wr.mk<|aF 2)<|aG (Wr.mk<|aF 4)<|Wr.mk az)<|aG (bZ<|aG (Wr.mk<|aF 3)<|aG (Wr.mk<|aF 4)<|Wr.mk az)<|Wr.mk az)<|Wr.mk az)<|j5<|ue<|sI b8 (aU<|bf aN (Wr.mk<|aq 5)<|aU<|dC<|fP<|aG (dC<|Wr.mk<|iB (bW (aF 2) (aF 4)<|bW (aF 3) (bD<|ao aB<|ao aB az) iH) rfl rfl (λz=>nomatch z)<|by decide)<|aG (dC<|Wr.mk<|iB (bW (aF 2) (aF 4)<|bW aB (aF 4) iH) rfl rfl (λz=>nomatch z)<|by decide)<|aG (dC<|Wr.mk<|iB (bW (aF 2) (aF 4)<|bW (aF 3) (bD<|ao (bD<|ao lB<|ao aB az)<|ao (bD<|ao aB<|ao aB az) az) iH) rfl rfl (λz=>nomatch z)<|by decide)<|Wr.mk az) (aU<|bf gr (Wr.mk<|aq 1)<|aU<|Wr.mk aB) λ_ _=>rfl)
theorem vR(B:Bt mg)(Xc:XcT K mg)(Fu:Fun K "_law_classes" "_law_classes" jc f fd)  :
  vG P w K mg base (CX1 P w) 1 f fd ["_law_error"] (spF ⟨K,mg⟩ dW):=
 RD Fu jq λcdv A outer s H E hr hh=>by
 have hu:=Yl hr;unfold pX qp;exact(aO (cQ (i:=1) jq.nd rfl (a7 rfl)<|eX<|je<|ao (bD<|ao (rY (aq 0) rfl B.isinstance bJ rfl Xc.i_NoText)<|ao aM az)<|ao (bD<|ao (rY (aq 0) rfl B.isinstance bJ rfl Xc.i_NoPlan)<|ao aM az)<|ao (bD<|ao (rY (aq 0) rfl B.isinstance bJ rfl Xc.i_NoRow)<|ao aM az) az)
  (aO (cQ (i:=1) jq.nd rfl (a7 rfl)<|b7 aN (aq 1)<|aD<|eX<|je<|ao (bD<|ao (rY (aq 0) rfl B.isinstance bJ rfl Xc.i_NoName)<|ao aM az)<|ao (bD<|ao (rY (aq 0) rfl B.isinstance bJ rfl Xc.i_NoNumber)<|ao aM az) az)
  (aO (cQ (i:=1) jq.nd rfl (a7 rfl)<|b7 aN (aq 1)<|aD<|eX<|je<|ao (bD<|ao (rY (aq 0) rfl B.isinstance bJ rfl Xc.i_NoWord)<|ao aM az)<|ao (bD<|ao (rY (aq 0) rfl B.isinstance bJ rfl Xc.i_TooGreat)<|ao aM az) az)
  (aR<|cu<|b7 aN (aD<|eX<|Pz (aK jc) ["_law_good", "_law_word"] [] 2 [] Ls hh ⟨rfl,by decide +kernel,by decide +kernel,by decide +kernel,by decide +kernel⟩ .nil (MT<|aF 1) (λ_ _ _ _ _ _ hq=>(SQ hq<|dU (bQ (i:=0) (show fR (["_law_good", "_law_word"]:List Str) by decide) rfl (a7 rfl)) (dU (bQ (i:=1) (show fR (["_law_good", "_law_word"]:List Str) by decide) rfl (a7 rfl)) oG))) (λ_ _ _ _ _ _=>(Fd<|iM<|aF 0)) (λ_ _ _ _ _ _=>(aF 1))) (aD<|eX<|je<|ao (S9 (aq 0) rfl B.isinstance bJ rfl Xc.i_ValueError zc) az)))))
theorem Dc(B:Bt mg)(Xc:XcT K mg)(Fu:Fun K "_law_read" "_law_read" pP f fd)(Gread_plan:FF P w K mg base 9 "read_plan" ["game", "side", "text"] cP)(G_law_classes:FFH P w K mg base 1 "_law_classes" ["_law_error"] dW):
  dF P w K mg base (CX1 P w) 10 f fd ["_law_game_here", "_law_side", "_law_thing"] (spF ⟨K,mg⟩ dD):=
 bL Fu mj λcdv A outer s H E hr=>by
 have hu:=hr.units;unfold vD lN;exact(aO (cQ (i:=3) mj.nd rfl (a7 rfl)<|eX<|je az)
  (aO (Ko (i:=4) (cF) rfl rfl (DG Gread_plan hr<|ao (aF 0)<|ao (aF 1)<|ao (aF 2) az) mj.nd rfl rfl rfl Xc.c_DuelError λea=>JL (i:=3) G_law_classes (Ro hr) mj.nd rfl (a7 rfl)<|ao (aF 4) az)
  (aR<|cu<|aF 3)))
theorem zg(B:Bt mg)(Xc:XcT K mg)(Fu:Fun K "_law_shown" "_law_shown" nq f fd)(Gshow_plan:FF P w K mg base 9 "show_plan" ["game", "side", "plan"] qu)(G_law_classes:FFH P w K mg base 1 "_law_classes" ["_law_error"] dW):
  dF P w K mg base (CX1 P w) 10 f fd ["_law_game_here", "_law_side", "_law_thing"] (spF ⟨K,mg⟩ gP):=
 bL Fu kO λcdv A outer s H E hr=>by
 have hu:=hr.units;unfold uq kj;exact(aO (cQ (i:=3) kO.nd rfl (a7 rfl)<|eX<|je az)
  (aO (Ko (i:=4) (cF) rfl rfl (DG Gshow_plan hr<|ao (aF 0)<|ao (aF 1)<|ao (aF 2) az) kO.nd rfl rfl rfl Xc.c_DuelError λea=>JL (i:=3) G_law_classes (Ro hr) kO.nd rfl (a7 rfl)<|ao (aF 4) az)
  (aR<|cu<|aF 3)))
theorem Xx(B:Bt mg)(Fu:Fun K "law" "law" Aa f fd)(Gread_plan:FF P w K mg base 9 "read_plan" ["game", "side", "text"] cP)(G_law_cell_at:FF P w K mg base 1 "_law_cell_at" ["_law_script", "_law_k"] bR)(G_law_names:FF P w K mg base 1 "_law_names" ["_law_x", "_law_y", "_law_many"] fJ)(G_law_game:FF P w K mg base 1 "_law_game" ["_law_first", "_law_names_here", "_law_form"] iU)(G_law_bad_text:FF P w K mg base 1 "_law_bad_text" ["_law_names_here", "_law_x"] d8)(G_law_bad_plan:FF P w K mg base 1 "_law_bad_plan" ["_law_names_here", "_law_x"] d9)(G_law_read:FF P w K mg base 10 "_law_read" ["_law_game_here", "_law_side", "_law_thing"] dD)(G_law_shown:FF P w K mg base 10 "_law_shown" ["_law_game_here", "_law_side", "_law_thing"] gP):
  dF P w K mg base (CX1 P w) 11 f fd ["_law_script"] (spF ⟨K,mg⟩ VM):=
 bL Fu o7 λcdv A outer s H E hr=>by
 have hu:=hr.units;unfold J3 Oz;refine Wr.out ?_;exact(bH (gA (i:=1) o7.nd rfl (a7 rfl)<|bf gr (aU<|bf gO (aU<|bf gr (aU<|Wr.mk<|cA G_law_cell_at hr bF<|ao (aF 0)<|ao aB az)<|aU<|Wr.mk aB)<|aU<|Wr.mk aB)<|aU<|Wr.mk aB)<|bH (gA (i:=2) o7.nd rfl (a7 rfl)<|bf aN (aU<|Wr.mk aB)<|aU<|bf gr (aU<|Wr.mk<|cA G_law_cell_at hr bF<|ao (aF 0)<|ao aB az)<|aU<|Wr.mk aB)<|bH (gA (i:=3) o7.nd rfl (a7 rfl)<|Wr.mk<|cA G_law_names hr bF<|ao (aF 1)<|ao (b7 nY (aq 1)<|aD aB)<|ao aB az)<|bH (gA (i:=4) o7.nd rfl (a7 rfl)<|Wr.mk<|cA G_law_game hr bF<|ao (aF 2)<|ao (aF 3)<|ao (b7 gr (aD<|cA G_law_cell_at hr bF<|ao (aF 0)<|ao aB az)<|aD aB) az)<|bH (gA (i:=5) o7.nd rfl (a7 rfl)<|bf aN (aU<|bf aN (aU<|bf aN (aU<|sI b8 (Wr.mk<|aq 3) (aU<|Wr.mk aB) λ_ _=>rfl)<|aU<|Wr.mk aM)<|aU<|sI b8 (Wr.mk<|aq 3) (aU<|Wr.mk aB) λ_ _=>rfl)<|aU<|Wr.mk aM)<|bH (gA (i:=6) o7.nd rfl (a7 rfl)<|dC<|Wr.mk<|iB (bW (bM b8 (aq 3) (aD aB) λ_ _=>rfl) (bD<|ao (bD<|ao aB<|ao aB az)<|ao (bD<|ao aB<|ao aB az) az)<|bW (bM b8 (aq 3) (aD aB) λ_ _=>rfl) (bD<|ao (bD<|ao aB<|ao aB az)<|ao (bD<|ao aB<|ao aB az) az) iH) rfl rfl (λz=>nomatch z)<|by decide)<|bH (Qs (KJ (Ud hr) (aU<|Wr.mk<|cA Gread_plan hr bF<|ao (aF 4)<|ao (aF 2)<|ao (aF 5) az) (Wr.mk<|aq 6)<|cM _) (j5<|ue<|Wr.mk lB)<|Wr.mk cJ)<|bH (Wr.mk<|oX (k:=1000) eA rfl (lg rfl B.range<|aQ (aD<|cH dm rfl B.len iK<|aQ (aD<|pH (aq 0) (qG<|aD aB)<|qG<|aD aB) aZ) aZ) (bQ (i:=7) o7.nd rfl<|a7 rfl)<|Wr.out<|bH (gA (i:=8) o7.nd rfl (a7 rfl)<|bf gr (aU<|bf gO (aU<|bf aN (aU<|bf aN (aU<|bf aN (aU<|bf gr (aU<|sI b8 (Wr.mk<|aq 0) (aU<|bf aN (aU<|Wr.mk aB)<|Wr.mk<|aq 7) λ_ _=>rfl)<|aU<|Wr.mk aB)<|aU<|bf gO (aU<|bf gO (aU<|Wr.mk aB)<|Wr.mk<|aq 7)<|Wr.mk<|aq 7)<|aU<|bf gO (aU<|Wr.mk aB)<|Wr.mk<|aq 7)<|aU<|Wr.mk aB)<|aU<|Wr.mk aB)<|aU<|Wr.mk aB)<|bH (Wr.mk<|Yg (k:=1000) (cA G_law_bad_text hr bF<|ao (aF 3)<|ao (aF 8) az)<|uK rfl<|dU (bQ (i:=9) o7.nd rfl<|a7 rfl)<|dU (bQ (i:=10) o7.nd rfl<|a7 rfl) oG)<|bH (Qs (KJ (nF hu) (aU<|Wr.mk<|cA G_law_read hr bF<|ao (aF 4)<|ao (aF 2)<|ao (aF 9) az) (aU<|dC<|fP<|aG (Wr.mk<|aF 10)<|aG (Wr.mk lB)<|Wr.mk az)<|cM _) (j5<|ue<|Wr.mk lB)<|Wr.mk cJ)<|bH (Qs (KJ (nF hu) (aU<|Wr.mk<|cA G_law_shown hr bF<|ao (aF 4)<|ao (aF 2)<|ao (cA G_law_bad_plan hr bF<|ao (aF 3)<|ao (b7 nY (aq 8)<|aD aB) az) az) (aU<|dC<|fP<|aG (Wr.mk aM)<|aG (Wr.mk lB)<|Wr.mk az)<|cM _) (j5<|ue<|Wr.mk lB)<|Wr.mk cJ)<|bH (gA (i:=11) o7.nd rfl (a7 rfl)<|sI b8 (aU<|dC<|fP<|aG (Wr.mk Hl)<|aG (Wr.mk aB)<|aG (Wr.mk lB)<|aG (dC<|fP<|aG (Wr.mk<|aF 5)<|Wr.mk az)<|aG (bZ<|aG (Wr.mk<|aF 5)<|Wr.mk az)<|aG (Wr.mk<|aF 6)<|aG (bZ<|aG (bZ<|aG (Wr.mk aB)<|aG (Wr.mk aB)<|Wr.mk az)<|Wr.mk az)<|aG (dC<|Wr.mk J4)<|Wr.mk az) (aU<|bf gr (aU<|bf nY (Wr.mk<|aq 8)<|aU<|Wr.mk aB)<|aU<|Wr.mk aB) λ_ _=>rfl)<|j5<|Qs (KJ (nF hu) (aU<|Wr.mk<|cA G_law_read hr bF<|ao (aF 4)<|ao (aF 2)<|ao (aF 11) az) (aU<|dC<|fP<|aG (Wr.mk aM)<|aG (Wr.mk lB)<|Wr.mk az)<|cM _) (j5<|ue<|Wr.mk lB)<|Wr.mk cJ)<|j5<|ue<|Wr.mk<|nU (Ul hr) (aD<|cA Gread_plan hr bF<|ao (aF 4)<|ao (aF 2)<|ao (aF 5) az) (aq 6)<|cM _)
theorem all_mk {l:W.OpenLaw}{w:dc}{K:a6}{h:Heap}{mg:Zp}{fa:Addr}(X:K.In h)(G:h.Ns bp mg)(hfa:mg "law" = some (.ref fa))
  (q0:QD K "is_whole" sU)
  (q1:QD K "common_divisor" jH)
  (q2:QD K "lowest" yL)
  (q3:QD K "is_ratio" rR)
  (q4:QD K "plus" Gv)
  (q5:QD K "under" Bc)
  (q6:QD K "total" Cj)
  (q7:QD K "show_ratio" oU)
  (q8:QD K "are_figures" jM)
  (q9:QD K "read_ratio" nQ)
  (q10:QD K "is_name" qJ)
  (q11:QD K "branches_of" jJ)
  (q12:QD K "places_of" lW)
  (q13:QD K "words_at" nG)
  (q14:QD K "records_behind" jA)
  (q15:QD K "places_with_records" fZ)
  (q16:QD K "row_at" yD)
  (q17:QD K "table_of" sJ)
  (q18:QD K "rows_of" qz)
  (q19:QD K "are_full_shares" gn)
  (q20:QD K "is_plan_for" jO)
  (q21:QD K "is_plan" uL)
  (q22:QD K "refuse_no_plan" jC)
  (q23:QD K "show_plan" my)
  (q24:QD K "read_row" oh)
  (q25:QD K "read_rows" lU)
  (q26:QD K "read_plan" pQ)
  (q27:QD K "_law_cell_at" lD)
  (q28:QD K "_law_names" nJ)
  (q29:QD K "_law_game" qj)
  (q30:QD K "_law_bad_text" jV)
  (q31:QD K "_law_bad_plan" j0)
  (q32:QD K "_law_classes" jc)
  (q33:QD K "_law_read" pP)
  (q34:QD K "_law_shown" nq)
  (q35:QD K "law" Aa)
  {CDuelError:Addr} (nDuelError:i6 K bp "DuelError" = some (some<|.ref CDuelError))
  {CNoName:Addr} (nNoName:i6 K bp "NoName" = some (some<|.ref CNoName))
  {CNoNumber:Addr} (nNoNumber:i6 K bp "NoNumber" = some (some<|.ref CNoNumber))
  {CNoPlan:Addr} (nNoPlan:i6 K bp "NoPlan" = some (some<|.ref CNoPlan))
  {CNoRow:Addr} (nNoRow:i6 K bp "NoRow" = some (some<|.ref CNoRow))
  {CNoText:Addr} (nNoText:i6 K bp "NoText" = some (some<|.ref CNoText))
  {CNoWord:Addr} (nNoWord:i6 K bp "NoWord" = some (some<|.ref CNoWord))
  {CTooGreat:Addr} (nTooGreat:i6 K bp "TooGreat" = some (some<|.ref CTooGreat))
  (zValueError:i6 K bp "ValueError" = some none)
  (zabs:i6 K bp "abs" = some none)
  (zall:i6 K bp "all" = some none)
  (zbool:i6 K bp "bool" = some none)
  (zdict:i6 K bp "dict" = some none)
  (zenumerate:i6 K bp "enumerate" = some none)
  (zint:i6 K bp "int" = some none)
  (zisinstance:i6 K bp "isinstance" = some none)
  (zlen:i6 K bp "len" = some none)
  (zlist:i6 K bp "list" = some none)
  (zrange:i6 K bp "range" = some none)
  (zreversed:i6 K bp "reversed" = some none)
  (zstr:i6 K bp "str" = some none)
  (ztuple:i6 K bp "tuple" = some none)
  {CNOUGHT:Addr} (nNOUGHT:i6 K bp "NOUGHT" = some (some<|.ref CNOUGHT))
  {nnNOUGHT:Nat} {slNOUGHT:Array (Option ay)} {tNOUGHT0 tNOUGHT1:Tok} (vNOUGHT:K.lookup CNOUGHT=some ⟨.type "tuple",none,.seq #[.int 0 tNOUGHT0,.int 1 tNOUGHT1] nnNOUGHT,slNOUGHT⟩)
  {CONE:Addr} (nONE:i6 K bp "ONE" = some (some<|.ref CONE))
  {nnONE:Nat} {slONE:Array (Option ay)} {tONE0 tONE1:Tok} (vONE:K.lookup CONE=some ⟨.type "tuple",none,.seq #[.int 1 tONE0,.int 1 tONE1] nnONE,slONE⟩)
  {tFIGURES:Tok} (nFIGURES:i6 K bp "FIGURES" = some (some<|.str "0123456789" tFIGURES))
  {tMOST_FIGURES:Tok} (nMOST_FIGURES:i6 K bp "MOST_FIGURES" = some (some<|.int 30 tMOST_FIGURES))
  {tNAME_SIGNS:Tok} (nNAME_SIGNS:i6 K bp "NAME_SIGNS" = some (some<|.str "abcdefghijklmnopqrstuvwxyz0123456789" tNAME_SIGNS))
  {tMOST_SIGNS:Tok} (nMOST_SIGNS:i6 K bp "MOST_SIGNS" = some (some<|.int 8 tMOST_SIGNS))
  (eNoPlan:y9 K CNoPlan [.type "ValueError",.type "Exception",.type "BaseException",.type "object"] "ValueError.__new__" = true)
  (eNoText:y9 K CNoText [.type "ValueError",.type "Exception",.type "BaseException",.type "object"] "ValueError.__new__" = true)
  (xNoPlan0:n9 K (.ref CNoPlan) "__getattribute__" = some (some<|.builtin "BaseException.__getattribute__"))
  (xNoPlan1:n9 K (.ref CNoPlan) "__getattr__" = some none)
  (xNoPlan2:n9 K (.ref CNoPlan) "__class__" = some (some<|.builtin "object.__class__"))
  (xNoPlan3:Ap K (.ref CNoPlan) (.type "BaseException")=some true)
  (xNoPlan4:Ap K (.ref CNoPlan) (.type "object")=some true)
  (xNoPlan5:W.hasDictIn K CNoPlan=true)
  (xNoText0:n9 K (.ref CNoText) "__getattribute__" = some (some<|.builtin "BaseException.__getattribute__"))
  (xNoText1:n9 K (.ref CNoText) "__getattr__" = some none)
  (xNoText2:n9 K (.ref CNoText) "__class__" = some (some<|.builtin "object.__class__"))
  (xNoText3:Ap K (.ref CNoText) (.type "BaseException")=some true)
  (xNoText4:Ap K (.ref CNoText) (.type "object")=some true)
  (xNoText5:W.hasDictIn K CNoText=true)
  (uDuelErrorNoPlan:v3 K (.ref CNoPlan) (.ref CDuelError)=some true)
  (uDuelErrorNoText:v3 K (.ref CNoText) (.ref CDuelError)=some true)
  (wNoNameNoPlan:cx K (.ref CNoPlan) (.ref CNoName)=some false)
  (wNoNameNoText:cx K (.ref CNoText) (.ref CNoName)=some false)
  (vNoName:cx K (.type "NoneType") (.ref CNoName)=some false)
  (wNoNumberNoPlan:cx K (.ref CNoPlan) (.ref CNoNumber)=some false)
  (wNoNumberNoText:cx K (.ref CNoText) (.ref CNoNumber)=some false)
  (vNoNumber:cx K (.type "NoneType") (.ref CNoNumber)=some false)
  (wNoPlanNoPlan:cx K (.ref CNoPlan) (.ref CNoPlan)=some true)
  (wNoPlanNoText:cx K (.ref CNoText) (.ref CNoPlan)=some false)
  (vNoPlan:cx K (.type "NoneType") (.ref CNoPlan)=some false)
  (wNoRowNoPlan:cx K (.ref CNoPlan) (.ref CNoRow)=some false)
  (wNoRowNoText:cx K (.ref CNoText) (.ref CNoRow)=some false)
  (vNoRow:cx K (.type "NoneType") (.ref CNoRow)=some false)
  (wNoTextNoPlan:cx K (.ref CNoPlan) (.ref CNoText)=some false)
  (wNoTextNoText:cx K (.ref CNoText) (.ref CNoText)=some true)
  (vNoText:cx K (.type "NoneType") (.ref CNoText)=some false)
  (wNoWordNoPlan:cx K (.ref CNoPlan) (.ref CNoWord)=some false)
  (wNoWordNoText:cx K (.ref CNoText) (.ref CNoWord)=some false)
  (vNoWord:cx K (.type "NoneType") (.ref CNoWord)=some false)
  (wTooGreatNoPlan:cx K (.ref CNoPlan) (.ref CTooGreat)=some false)
  (wTooGreatNoText:cx K (.ref CNoText) (.ref CTooGreat)=some false)
  (vTooGreat:cx K (.type "NoneType") (.ref CTooGreat)=some false)
  (wValueErrorNoPlan:cx K (.ref CNoPlan) (.type "ValueError")=some true)
  (wValueErrorNoText:cx K (.ref CNoText) (.type "ValueError")=some true)
  : ∃fd:gc,(∀(s:aI) (v:ay),y4 s fd ⟨[v],[]⟩ [("_law_script",v)])/\∀base:Heap,K.In base->base.Ns bp mg->dF l.prog w K mg base (CX1 l.prog w) 11 fa fd ["_law_script"] (JZ K):=by
 obtain⟨f,fd,F0,a⟩:=q35.ex;have e:=hfa.symm.trans<|kr X G a;cases e;have D0:=q0.df (ps:=["thing"]) X G λ_ _ _ _ _ _=>xb1 λ_=>rfl;have D1:=q1.df (ps:=["first", "second"]) X G λ_ _ _ _ _ _=>xb2 λ_ _=>rfl;have D2:=q2.df (ps:=["top", "bottom"]) X G λ_ _ _ _ _ _=>xb2 λ_ _=>rfl;have D3:=q3.df (ps:=["thing"]) X G λ_ _ _ _ _ _=>xb1 λ_=>rfl;have D4:=q4.df (ps:=["first", "second"]) X G λ_ _ _ _ _ _=>xb2 λ_ _=>rfl;have D5:=q5.df (ps:=["first", "second"]) X G λ_ _ _ _ _ _=>xb2 λ_ _=>rfl;have D6:=q6.df (ps:=["some"]) X G λ_ _ _ _ _ _=>xb1 λ_=>rfl;have D7:=q7.df (ps:=["first"]) X G λ_ _ _ _ _ _=>xb1 λ_=>rfl;have D8:=q8.df (ps:=["text"]) X G λ_ _ _ _ _ _=>xb1 λ_=>rfl;have D9:=q9.df (ps:=["text"]) X G λ_ _ _ _ _ _=>xb1 λ_=>rfl;have D10:=q10.df (ps:=["thing"]) X G λ_ _ _ _ _ _=>xb1 λ_=>rfl;have D11:=q11.df (ps:=["game"]) X G λ_ _ _ _ _ _=>xb1 λ_=>rfl;have D12:=q12.df (ps:=["game"]) X G λ_ _ _ _ _ _=>xb1 λ_=>rfl;have D13:=q13.df (ps:=["move"]) X G λ_ _ _ _ _ _=>xb1 λ_=>rfl;have D14:=q14.df (ps:=["place", "records", "number"]) X G λ_ _ _ _ _ _=>xb3 λ_ _ _=>rfl;have D15:=q15.df (ps:=["game"]) X G λ_ _ _ _ _ _=>xb1 λ_=>rfl;have D16:=q16.df (ps:=["move", "records"]) X G λ_ _ _ _ _ _=>xb2 λ_ _=>rfl;have D17:=q17.df (ps:=["game"]) X G λ_ _ _ _ _ _=>xb1 λ_=>rfl;have D18:=q18.df (ps:=["game", "side"]) X G λ_ _ _ _ _ _=>xb2 λ_ _=>rfl;have D19:=q19.df (ps:=["thing", "count"]) X G λ_ _ _ _ _ _=>xb2 λ_ _=>rfl;have D20:=q20.df (ps:=["rows", "thing"]) X G λ_ _ _ _ _ _=>xb2 λ_ _=>rfl;have D21:=q21.df (ps:=["game", "side", "thing"]) X G λ_ _ _ _ _ _=>xb3 λ_ _ _=>rfl;have D22:=q22.df (ps:=["game", "side", "thing"]) X G λ_ _ _ _ _ _=>xb3 λ_ _ _=>rfl;have D23:=q23.df (ps:=["game", "side", "plan"]) X G λ_ _ _ _ _ _=>xb3 λ_ _ _=>rfl;have D24:=q24.df (ps:=["text"]) X G λ_ _ _ _ _ _=>xb1 λ_=>rfl;have D25:=q25.df (ps:=["text"]) X G λ_ _ _ _ _ _=>xb1 λ_=>rfl;have D26:=q26.df (ps:=["game", "side", "text"]) X G λ_ _ _ _ _ _=>xb3 λ_ _ _=>rfl;have D27:=q27.df (ps:=["_law_script", "_law_k"]) X G λ_ _ _ _ _ _=>xb2 λ_ _=>rfl;have D28:=q28.df (ps:=["_law_x", "_law_y", "_law_many"]) X G λ_ _ _ _ _ _=>xb3 λ_ _ _=>rfl;have D29:=q29.df (ps:=["_law_first", "_law_names_here", "_law_form"]) X G λ_ _ _ _ _ _=>xb3 λ_ _ _=>rfl;have D30:=q30.df (ps:=["_law_names_here", "_law_x"]) X G λ_ _ _ _ _ _=>xb2 λ_ _=>rfl;have D31:=q31.df (ps:=["_law_names_here", "_law_x"]) X G λ_ _ _ _ _ _=>xb2 λ_ _=>rfl;have D32:=q32.df (ps:=["_law_error"]) X G λ_ _ _ _ _ _=>xb1 λ_=>rfl;have D33:=q33.df (ps:=["_law_game_here", "_law_side", "_law_thing"]) X G λ_ _ _ _ _ _=>xb3 λ_ _ _=>rfl;have D34:=q34.df (ps:=["_law_game_here", "_law_side", "_law_thing"]) X G λ_ _ _ _ _ _=>xb3 λ_ _ _=>rfl;have B:Bt mg:=⟨eW X G zValueError,eW X G zabs,eW X G zall,eW X G zbool,eW X G zdict,eW X G zenumerate,eW X G zint,eW X G zisinstance,eW X G zlen,eW X G zlist,eW X G zrange,eW X G zreversed,eW X G zstr,eW X G ztuple⟩;have Cn:CnT K mg:=⟨⟨.ref CNOUGHT,_,kr X G nNOUGHT,rfl,λ_ _=>.tup (xs:=[.int 0,.int 1]) (.inr ⟨_,_,_,vNOUGHT,rfl,⟨rfl,rfl⟩,(show 2<=ai by decide),(.cons ⟨tNOUGHT0,rfl⟩<|.cons ⟨tNOUGHT1,rfl⟩ .nil)⟩) (.cons (.int 0)<|.cons (.int 1) .nil)⟩,⟨.ref CONE,_,kr X G nONE,rfl,λ_ _=>.tup (xs:=[.int 1,.int 1]) (.inr ⟨_,_,_,vONE,rfl,⟨rfl,rfl⟩,(show 2<=ai by decide),(.cons ⟨tONE0,rfl⟩<|.cons ⟨tONE1,rfl⟩ .nil)⟩) (.cons (.int 1)<|.cons (.int 1) .nil)⟩,⟨.str "0123456789",_,kr X G nFIGURES,⟨tFIGURES,rfl⟩,λ_ _=>.str "0123456789"⟩,⟨.int 30,_,kr X G nMOST_FIGURES,⟨tMOST_FIGURES,rfl⟩,λ_ _=>.int 30⟩,⟨.str "abcdefghijklmnopqrstuvwxyz0123456789",_,kr X G nNAME_SIGNS,⟨tNAME_SIGNS,rfl⟩,λ_ _=>.str "abcdefghijklmnopqrstuvwxyz0123456789"⟩,⟨.int 8,_,kr X G nMOST_SIGNS,⟨tMOST_SIGNS,rfl⟩,λ_ _=>.int 8⟩⟩;have Ex:ExT K mg:=⟨⟨CNoPlan,kr X G nNoPlan,eNoPlan⟩,⟨CNoText,kr X G nNoText,eNoText⟩⟩;have yNoPlan:(AE K CNoPlan).isSome=true:=by
  obtain⟨cd,hc,_⟩:=W.any_some xNoPlan5;rw[hc];rfl
 have ZNoPlan:XC K CNoPlan:=⟨xNoPlan0,xNoPlan1,xNoPlan2,xNoPlan3,xNoPlan4,yNoPlan⟩;have MNoPlan:∀{D:Addr},mg "NoPlan" = some (.ref D)->D=CNoPlan:=λh=>by rw[kr X G nNoPlan] at h;cases h;rfl
 have yNoText:(AE K CNoText).isSome=true:=by
  obtain⟨cd,hc,_⟩:=W.any_some xNoText5;rw[hc];rfl
 have ZNoText:XC K CNoText:=⟨xNoText0,xNoText1,xNoText2,xNoText3,xNoText4,yNoText⟩;have MNoText:∀{D:Addr},mg "NoText" = some (.ref D)->D=CNoText:=λh=>by rw[kr X G nNoText] at h;cases h;rfl
 have sDuelError:∀c D,cF c=true->mg c=some (.ref D)->v3 K (.ref D) (.ref CDuelError)=some true:=by
  intro c D hs hm;simp only[cF,Bool.or_eq_true,beq_iff_eq] at hs;rcases hs with rfl|rfl
  ·rw[MNoPlan hm];exact uDuelErrorNoPlan
  ·rw[MNoText hm];exact uDuelErrorNoText
 have iNoName:∀c D b,oE c=some b->mg c=some (.ref D)->XC K D/\cx K (.ref D) (.ref CNoName)=some b:=by
  intro c D b hs hm;simp only[oE] at hs;by_cases qNoPlan:c = "NoPlan"
  ·rw[if_pos qNoPlan] at hs;cases hs;subst qNoPlan;rw[MNoPlan hm];exact⟨ZNoPlan,wNoNameNoPlan⟩
  rw[if_neg qNoPlan] at hs;by_cases qNoText:c = "NoText"
  ·rw[if_pos qNoText] at hs;cases hs;subst qNoText;rw[MNoText hm];exact⟨ZNoText,wNoNameNoText⟩
  rw[if_neg qNoText] at hs;cases hs
 have iNoNumber:∀c D b,j6 c=some b->mg c=some (.ref D)->XC K D/\cx K (.ref D) (.ref CNoNumber)=some b:=by
  intro c D b hs hm;simp only[j6] at hs;by_cases qNoPlan:c = "NoPlan"
  ·rw[if_pos qNoPlan] at hs;cases hs;subst qNoPlan;rw[MNoPlan hm];exact⟨ZNoPlan,wNoNumberNoPlan⟩
  rw[if_neg qNoPlan] at hs;by_cases qNoText:c = "NoText"
  ·rw[if_pos qNoText] at hs;cases hs;subst qNoText;rw[MNoText hm];exact⟨ZNoText,wNoNumberNoText⟩
  rw[if_neg qNoText] at hs;cases hs
 have iNoPlan:∀c D b,nM c=some b->mg c=some (.ref D)->XC K D/\cx K (.ref D) (.ref CNoPlan)=some b:=by
  intro c D b hs hm;simp only[nM] at hs;by_cases qNoPlan:c = "NoPlan"
  ·rw[if_pos qNoPlan] at hs;cases hs;subst qNoPlan;rw[MNoPlan hm];exact⟨ZNoPlan,wNoPlanNoPlan⟩
  rw[if_neg qNoPlan] at hs;by_cases qNoText:c = "NoText"
  ·rw[if_pos qNoText] at hs;cases hs;subst qNoText;rw[MNoText hm];exact⟨ZNoText,wNoPlanNoText⟩
  rw[if_neg qNoText] at hs;cases hs
 have iNoRow:∀c D b,qN c=some b->mg c=some (.ref D)->XC K D/\cx K (.ref D) (.ref CNoRow)=some b:=by
  intro c D b hs hm;simp only[qN] at hs;by_cases qNoPlan:c = "NoPlan"
  ·rw[if_pos qNoPlan] at hs;cases hs;subst qNoPlan;rw[MNoPlan hm];exact⟨ZNoPlan,wNoRowNoPlan⟩
  rw[if_neg qNoPlan] at hs;by_cases qNoText:c = "NoText"
  ·rw[if_pos qNoText] at hs;cases hs;subst qNoText;rw[MNoText hm];exact⟨ZNoText,wNoRowNoText⟩
  rw[if_neg qNoText] at hs;cases hs
 have iNoText:∀c D b,oJ c=some b->mg c=some (.ref D)->XC K D/\cx K (.ref D) (.ref CNoText)=some b:=by
  intro c D b hs hm;simp only[oJ] at hs;by_cases qNoPlan:c = "NoPlan"
  ·rw[if_pos qNoPlan] at hs;cases hs;subst qNoPlan;rw[MNoPlan hm];exact⟨ZNoPlan,wNoTextNoPlan⟩
  rw[if_neg qNoPlan] at hs;by_cases qNoText:c = "NoText"
  ·rw[if_pos qNoText] at hs;cases hs;subst qNoText;rw[MNoText hm];exact⟨ZNoText,wNoTextNoText⟩
  rw[if_neg qNoText] at hs;cases hs
 have iNoWord:∀c D b,n6 c=some b->mg c=some (.ref D)->XC K D/\cx K (.ref D) (.ref CNoWord)=some b:=by
  intro c D b hs hm;simp only[n6] at hs;by_cases qNoPlan:c = "NoPlan"
  ·rw[if_pos qNoPlan] at hs;cases hs;subst qNoPlan;rw[MNoPlan hm];exact⟨ZNoPlan,wNoWordNoPlan⟩
  rw[if_neg qNoPlan] at hs;by_cases qNoText:c = "NoText"
  ·rw[if_pos qNoText] at hs;cases hs;subst qNoText;rw[MNoText hm];exact⟨ZNoText,wNoWordNoText⟩
  rw[if_neg qNoText] at hs;cases hs
 have iTooGreat:∀c D b,kW c=some b->mg c=some (.ref D)->XC K D/\cx K (.ref D) (.ref CTooGreat)=some b:=by
  intro c D b hs hm;simp only[kW] at hs;by_cases qNoPlan:c = "NoPlan"
  ·rw[if_pos qNoPlan] at hs;cases hs;subst qNoPlan;rw[MNoPlan hm];exact⟨ZNoPlan,wTooGreatNoPlan⟩
  rw[if_neg qNoPlan] at hs;by_cases qNoText:c = "NoText"
  ·rw[if_pos qNoText] at hs;cases hs;subst qNoText;rw[MNoText hm];exact⟨ZNoText,wTooGreatNoText⟩
  rw[if_neg qNoText] at hs;cases hs
 have iValueError:∀c D b,jd c=some b->mg c=some (.ref D)->XC K D/\cx K (.ref D) (.type "ValueError")=some b:=by
  intro c D b hs hm;simp only[jd] at hs;by_cases qNoPlan:c = "NoPlan"
  ·rw[if_pos qNoPlan] at hs;cases hs;subst qNoPlan;rw[MNoPlan hm];exact⟨ZNoPlan,wValueErrorNoPlan⟩
  rw[if_neg qNoPlan] at hs;by_cases qNoText:c = "NoText"
  ·rw[if_pos qNoText] at hs;cases hs;subst qNoText;rw[MNoText hm];exact⟨ZNoText,wValueErrorNoText⟩
  rw[if_neg qNoText] at hs;cases hs
 have Xc:XcT K mg:=⟨⟨CDuelError,kr X G nDuelError,sDuelError⟩,⟨CNoName,kr X G nNoName,iNoName,vNoName⟩,⟨CNoNumber,kr X G nNoNumber,iNoNumber,vNoNumber⟩,⟨CNoPlan,kr X G nNoPlan,iNoPlan,vNoPlan⟩,⟨CNoRow,kr X G nNoRow,iNoRow,vNoRow⟩,⟨CNoText,kr X G nNoText,iNoText,vNoText⟩,⟨CNoWord,kr X G nNoWord,iNoWord,vNoWord⟩,⟨CTooGreat,kr X G nTooGreat,iTooGreat,vTooGreat⟩,⟨eW X G zValueError,iValueError⟩⟩;obtain⟨oc,od,kV,doc,pm,an,cdv,ct,osl,rfl,lk,hcd⟩:=F0.ex;refine⟨w4 "law" "law" (oK Aa) (jf Aa) (aK Aa) .none kV doc pm an cdv ct,λs v=>.of_eq rfl,λbase kb nb=>?_⟩;have Gis_whole:=D0.fn (P:=l.prog) (w:=w) (base:=base) λf fd F=>Dv B F;have Gcommon_divisor:=D1.fn (P:=l.prog) (w:=w) (base:=base) λf fd F=>tW B F;have Glowest:=D2.fn (P:=l.prog) (w:=w) (base:=base) λf fd F=>MN B F Gcommon_divisor;have Gis_ratio:=D3.fn (P:=l.prog) (w:=w) (base:=base) λf fd F=>EY B F Gis_whole Gcommon_divisor;have Gplus:=D4.fn (P:=l.prog) (w:=w) (base:=base) λf fd F=>Vr B F Glowest;have Gunder:=D5.fn (P:=l.prog) (w:=w) (base:=base) λf fd F=>N7 B F;have Gtotal:=D6.fn (P:=l.prog) (w:=w) (base:=base) λf fd F=>Qm B Cn F Gplus;have Gshow_ratio:=D7.fn (P:=l.prog) (w:=w) (base:=base) λf fd F=>yM B F;have Gare_figures:=D8.fn (P:=l.prog) (w:=w) (base:=base) λf fd F=>xP B Cn F;have Gread_ratio:=D9.fn (P:=l.prog) (w:=w) (base:=base) λf fd F=>zu B Ex Xc F Glowest Gshow_ratio Gare_figures;have Gis_name:=D10.fn (P:=l.prog) (w:=w) (base:=base) λf fd F=>Ib B Cn F;have Gbranches_of:=D11.fn (P:=l.prog) (w:=w) (base:=base) λf fd F=>xj B F;have Gplaces_of:=D12.fn (P:=l.prog) (w:=w) (base:=base) λf fd F=>Bk B F Gbranches_of;have Gwords_at:=D13.fn (P:=l.prog) (w:=w) (base:=base) λf fd F=>Eo B F;have Grecords_behind:=D14.fn (P:=l.prog) (w:=w) (base:=base) λf fd F=>tX B F;have Gplaces_with_records:=D15.fn (P:=l.prog) (w:=w) (base:=base) λf fd F=>oV B F Gbranches_of Gplaces_of Grecords_behind;have Grow_at:=D16.fn (P:=l.prog) (w:=w) (base:=base) λf fd F=>Lg B F Gwords_at;have Gtable_of:=D17.fn (P:=l.prog) (w:=w) (base:=base) λf fd F=>Gj B F Gplaces_with_records Grow_at;have Grows_of:=D18.fn (P:=l.prog) (w:=w) (base:=base) λf fd F=>Ig B F Gtable_of;have Gare_full_shares:=D19.fn (P:=l.prog) (w:=w) (base:=base) λf fd F=>sG B Cn F Gis_ratio Gunder Gtotal;have Gis_plan_for:=D20.fn (P:=l.prog) (w:=w) (base:=base) λf fd F=>xY B F Gare_full_shares;have Gis_plan:=D21.fn (P:=l.prog) (w:=w) (base:=base) λf fd F=>Ht B F Grows_of Gis_plan_for;have Grefuse_no_plan:=D22.fn (P:=l.prog) (w:=w) (base:=base) λf fd F=>uy B Ex Xc F Gis_plan;have Gshow_plan:=D23.fn (P:=l.prog) (w:=w) (base:=base) λf fd F=>Cu B F Gshow_ratio Grows_of Grefuse_no_plan;have Gread_row:=D24.fn (P:=l.prog) (w:=w) (base:=base) λf fd F=>Ds B Ex Xc F Gread_ratio Gis_name;have Gread_rows:=D25.fn (P:=l.prog) (w:=w) (base:=base) λf fd F=>BV B F Gread_row;have Gread_plan:=D26.fn (P:=l.prog) (w:=w) (base:=base) λf fd F=>BW B Ex Xc F Grefuse_no_plan Gread_rows;have G_law_cell_at:=D27.fn (P:=l.prog) (w:=w) (base:=base) λf fd F=>vU B F;have G_law_names:=D28.fn (P:=l.prog) (w:=w) (base:=base) λf fd F=>zx B F;have G_law_game:=D29.fn (P:=l.prog) (w:=w) (base:=base) λf fd F=>CW B F;have G_law_bad_text:=D30.fn (P:=l.prog) (w:=w) (base:=base) λf fd F=>uE B F;have G_law_bad_plan:=D31.fn (P:=l.prog) (w:=w) (base:=base) λf fd F=>vh B F;have G_law_classes:=DfH (P:=l.prog) (w:=w) (base:=base) D32 λf fd F=>vR B Xc F;have G_law_read:=D33.fn (P:=l.prog) (w:=w) (base:=base) λf fd F=>Dc B Xc F Gread_plan G_law_classes;have G_law_shown:=D34.fn (P:=l.prog) (w:=w) (base:=base) λf fd F=>zg B Xc F Gshow_plan G_law_classes;exact SX Nz<|Xx B F0 Gread_plan G_law_cell_at G_law_names G_law_game G_law_bad_text G_law_bad_plan G_law_read G_law_shown
theorem walk {l:W.OpenLaw}{q:bq}{loose:List Str}{XP:(Zp)->Heap->Prop}{YP:dc->Heap->Prop}{d:DefRec}{K:Params->a6}(hn:l.most=some 63)(hdf:d.params.defaults=[])
  (hY:∀(w:dc) (h:Heap),YP w h->(K w.params).In h)
  (F:∀(w:dc) (mg:Zp) (fa:Addr) (h:Heap),(K w.params).In h->h.Ns bp mg->mg d.name=some (.ref fa)->
   ∃fd:gc,(∀(s:aI) (u:ay),y4 s fd ⟨[u],[]⟩ [("_law_script",u)])/\∀base:Heap,(K w.params).In base->base.Ns bp mg->dF l.prog w (K w.params) mg base (CX1 l.prog w) 11 fa fd ["_law_script"] (JZ<|K w.params)):
  W.WalkO q loose XP YP l.row.toRowW d [] (λf vs=>AB f vs):=
 L2.Ve (n:=63) (k:=11) (x:="_law_script") (CX:=λw=>CX1 l.prog w) (sp:=λw=>JZ<|K w.params) hn (by decide) hdf ⟨rfl,by decide,by decide,rfl⟩ hY F (λ_ _ a ns hl _ hS=>⟨a,ns,rfl,hS,hl,λ_=>rfl⟩) λ_ _ _ _ _ ⟨_,_,_,_,_,_,z⟩=>z.elim
end K71
namespace PySem.W.Fast
theorem tw12342226303837501996:True:=⟨⟩
theorem tw10353340024029848568:True:=⟨⟩
theorem tw2552251572340828609:True:=⟨⟩
theorem tw7928017462412762589:True:=⟨⟩
theorem tw17402916706530196611:True:=⟨⟩
theorem tw2017565577450650866:True:=⟨⟩
theorem tw4890168106899177235:True:=⟨⟩
theorem tw7671679947823424443:True:=⟨⟩
theorem tw9771769700168021202:True:=⟨⟩
theorem tw6562999067116346287:True:=⟨⟩
theorem tw8410702019225216845:True:=⟨⟩
theorem tw4534822372315101372:True:=⟨⟩
theorem tw18061862748872048470:True:=⟨⟩
theorem tw7807317608793349060:True:=⟨⟩
theorem tw15662680512965522182:True:=⟨⟩
theorem tw4446607167854479796:True:=⟨⟩
theorem tw5565478028843129077:True:=⟨⟩
theorem tw10040238304735765620:True:=⟨⟩
theorem tw11594936953920425520:True:=⟨⟩
theorem tw5536816935090905621:True:=⟨⟩
theorem tw10686203261858748826:True:=⟨⟩
theorem tw4064561036393035440:True:=⟨⟩
theorem tw1648990639897271891:True:=⟨⟩
theorem tw15510597392338316928:True:=⟨⟩
theorem tw10649402699855603728:True:=⟨⟩
theorem tw841295232543185399:True:=⟨⟩
theorem tw774902514091434299:True:=⟨⟩
theorem tw18095373379929821386:True:=⟨⟩
theorem tw15681794380205595661:True:=⟨⟩
theorem tw18159714273957994203:True:=⟨⟩
theorem tw16200265532741605050:True:=⟨⟩
theorem tw8414533570336634413:True:=⟨⟩
theorem tw7416199513475972918:True:=⟨⟩
theorem tw9478578457355959268:True:=⟨⟩
theorem tw8640662920459673061:True:=⟨⟩
theorem tw1023385352954612066:True:=⟨⟩
theorem tw14934807558755582258:True:=⟨⟩
theorem tw9186857903077308002:True:=⟨⟩
theorem tw3577502067367734843:True:=⟨⟩
theorem tw17107041275386064372:True:=⟨⟩
theorem tw18346598069417515391:True:=⟨⟩
theorem tw7186704001516388603:True:=⟨⟩
theorem tw4512878317861198456:True:=⟨⟩
theorem tw5199678350678860274:True:=⟨⟩
theorem tw5915100107289157374:True:=⟨⟩
theorem tw8962536137032791425:True:=⟨⟩
theorem tw10044701376582691195:True:=⟨⟩
theorem tw726427462060762826:True:=⟨⟩
theorem tw17420998870045053729:True:=⟨⟩
theorem tw271233572103303398:True:=⟨⟩
theorem tw3666583140601176134:True:=⟨⟩
theorem tw10859109409857517857:True:=⟨⟩
theorem tw17491395760064726604:True:=⟨⟩
theorem tw15706023905038451290:True:=⟨⟩
theorem tw8818078322828799124:True:=⟨⟩
theorem tw4045499167403030165:True:=⟨⟩
theorem tw3653492608592548751:True:=⟨⟩
theorem tw14188540090276704703:True:=⟨⟩
theorem tw17804069698928415755:True:=⟨⟩
theorem tw4814454245537182821:True:=⟨⟩
theorem tw8428857634691608615:True:=⟨⟩
theorem tw5975900156266155681:True:=⟨⟩
theorem tw4863666722471409339:True:=⟨⟩
theorem tw15281633860466772342:True:=⟨⟩
theorem tw16212716242719478011:True:=⟨⟩
theorem tw17885132052686269014:True:=⟨⟩
theorem tw12184171910911059219:True:=⟨⟩
theorem tw2454109820538350203:True:=⟨⟩
theorem tw8210067796773048591:True:=⟨⟩
theorem tw7909265635440038827:True:=⟨⟩
theorem tw13177704909175845535:True:=⟨⟩
theorem tw8510702069640432737:True:=⟨⟩
theorem tw18044569846478311412:True:=⟨⟩
theorem tw13479904125042432055:True:=⟨⟩
theorem tw7406156443613580412:True:=⟨⟩
theorem tw13178920362633873590:True:=⟨⟩
theorem tw9993378742755733517:True:=⟨⟩
theorem tw1505783941542197354:True:=⟨⟩
theorem tw17207924364940596152:True:=⟨⟩
theorem tw2335555779227078775:True:=⟨⟩
theorem tw14072808866190116638:True:=⟨⟩
theorem tw11036040186123464504:True:=⟨⟩
theorem tw4220963065608456100:True:=⟨⟩
theorem tw8363280929871139071:True:=⟨⟩
theorem tw2258192283465730957:True:=⟨⟩
theorem tw11600215006043795954:True:=⟨⟩
theorem tw3577133247727658637:True:=⟨⟩
theorem tw11979637592970173366:True:=⟨⟩
theorem tw317347749658733651:True:=⟨⟩
theorem tw16097560831118702625:True:=⟨⟩
theorem tw11577663661094655885:True:=⟨⟩
theorem tw10395879173840308267:True:=⟨⟩
theorem tw7890265186417804744:True:=⟨⟩
theorem tw242101930649830539:True:=⟨⟩
theorem tw14039721686471855239:True:=⟨⟩
theorem tw11716018819529687835:True:=⟨⟩
theorem tw13498648698446311318:True:=⟨⟩
theorem tw12469109627029510140:True:=⟨⟩
theorem tw4499756396537940155:True:=⟨⟩
theorem tw10229446249092835876:True:=⟨⟩
theorem tw15681586652051029503:True:=⟨⟩
theorem tw13291771013190892630:True:=⟨⟩
theorem tw14991005397367071016:True:=⟨⟩
theorem tw3682597783127312893:True:=⟨⟩
theorem tw10881847849929558588:True:=⟨⟩
theorem tw12500593746434897448:True:=⟨⟩
theorem tw2439040038120747243:True:=⟨⟩
theorem tw10035817855154154767:True:=⟨⟩
theorem tw12622778596512446203:True:=⟨⟩
theorem tw5311509390231896541:True:=⟨⟩
theorem tw2441261716295977069:True:=⟨⟩
theorem tw2408547306320326301:True:=⟨⟩
theorem tw18391403881208763949:True:=⟨⟩
theorem tw15835470479961465233:True:=⟨⟩
theorem tw13794045991136766820:True:=⟨⟩
theorem tw1161070150806315765:True:=⟨⟩
theorem tw16172493139230682217:True:=⟨⟩
theorem tw11678114884839638326:True:=⟨⟩
theorem tw6327547928871390654:True:=⟨⟩
theorem tw15211736843254456479:True:=⟨⟩
theorem tw15075650764201938853:True:=⟨⟩
theorem tw13494970265206727696:True:=⟨⟩
theorem tw12739262842953702812:True:=⟨⟩
theorem tw12160225974366519176:True:=⟨⟩
theorem tw15715222465195866998:True:=⟨⟩
theorem tw5237471419780031852:True:=⟨⟩
theorem tw16051974442051236044:True:=⟨⟩
theorem tw7271179944232256460:True:=⟨⟩
theorem tw13218590973159441227:True:=⟨⟩
theorem tw9866194282093473383:True:=⟨⟩
theorem tw9251770297612033577:True:=⟨⟩
theorem tw9048840212051977657:True:=⟨⟩
theorem tw18368921058155381821:True:=⟨⟩
theorem tw17087213464966465686:True:=⟨⟩
theorem tw16138745134209589813:True:=⟨⟩
theorem tw9888356966356798066:True:=⟨⟩
theorem tw4897027723211391560:True:=⟨⟩
theorem tw17430091042219877371:True:=⟨⟩
theorem tw17232283403099572027:True:=⟨⟩
theorem tw1658759226481342820:True:=⟨⟩
theorem tw14256537074515711853:True:=⟨⟩
theorem tw8195204015062691210:True:=⟨⟩
theorem tw6765883709871012081:True:=⟨⟩
theorem tw14609812133681985586:True:=⟨⟩
theorem tw13319464055524517257:True:=⟨⟩
theorem tw10079740805458423208:True:=⟨⟩
theorem tw7423599613500535106:True:=⟨⟩
theorem tw13222513501197327585:True:=⟨⟩
theorem tw5999110954889874752:True:=⟨⟩
theorem tw8835536813815466975:True:=⟨⟩
theorem tw10165521139052515180:True:=⟨⟩
theorem tw11893659105034729:True:=⟨⟩
theorem tw8877620556808875041:True:=⟨⟩
theorem tw344056502757145260:True:=⟨⟩
theorem tw2376561710181263459:True:=⟨⟩
theorem tw13570694973790677285:True:=⟨⟩
theorem tw7583529744904939631:True:=⟨⟩
theorem tw5645702939979217067:True:=⟨⟩
theorem tw4326694478647504942:True:=⟨⟩
theorem tw4214025464800458719:True:=⟨⟩
theorem tw17279739116429164832:True:=⟨⟩
theorem tw16619283846018382532:True:=⟨⟩
theorem tw11042059650606503861:True:=⟨⟩
theorem tw12012879199263570855:True:=⟨⟩
theorem tw11907571855503736836:True:=⟨⟩
theorem tw11870005539654067228:True:=⟨⟩
theorem tw10568786420641093425:True:=⟨⟩
theorem tw8914904160853811873:True:=⟨⟩
theorem tw8812523420053383768:True:=⟨⟩
theorem tw8126168357921159351:True:=⟨⟩
theorem tw8085308598778489375:True:=⟨⟩
theorem tw8051967421353899918:True:=⟨⟩
theorem tw7919659671809927958:True:=⟨⟩
theorem tw769179116775743743:True:=⟨⟩
theorem tw7420834652328997110:True:=⟨⟩
theorem tw7268630725804461440:True:=⟨⟩
theorem tw6905354920857423922:True:=⟨⟩
theorem tw6346291336234185299:True:=⟨⟩
theorem tw62001880617382239:True:=⟨⟩
theorem tw4734096999966423591:True:=⟨⟩
theorem tw4608735983284220625:True:=⟨⟩
theorem tw4340566883064879933:True:=⟨⟩
theorem tw4225641369467187982:True:=⟨⟩
theorem tw36647531015675869:True:=⟨⟩
theorem tw2890046212552056348:True:=⟨⟩
theorem tw2460121711169557935:True:=⟨⟩
theorem tw2355895953491098989:True:=⟨⟩
theorem tw2008494916659909251:True:=⟨⟩
theorem tw1832959076269702618:True:=⟨⟩
theorem tw16188095709656682349:True:=⟨⟩
theorem tw15311760560417238069:True:=⟨⟩
theorem tw15054729054956667308:True:=⟨⟩
theorem tw14289085402400148019:True:=⟨⟩
theorem tw14245820910077292156:True:=⟨⟩
theorem tw1411916259297198574:True:=⟨⟩
theorem tw1372372932610330608:True:=⟨⟩
theorem tw13067943640501535660:True:=⟨⟩
theorem tw12557903783017971361:True:=⟨⟩
theorem tw10063572595404665287:True:=⟨⟩
theorem tw10761750762594888859:True:=⟨⟩
theorem tw13317359742645781659:True:=⟨⟩
theorem tw9216112266749027512:True:=⟨⟩
theorem tw4163101798592198018:True:=⟨⟩
theorem tw12656793447272574456:True:=⟨⟩
theorem tw884668310505255319:True:=⟨⟩
theorem tw7757672591444610245:True:=⟨⟩
theorem tw4929950512624659131:True:=⟨⟩
theorem tw15647860950339384840:True:=⟨⟩
theorem tw6544469163440033390:True:=⟨⟩
theorem tw883036845215487145:True:=⟨⟩
theorem tw685026146758112469:True:=⟨⟩
theorem tw527024015378004515:True:=⟨⟩
theorem tw4177239293186486306:True:=⟨⟩
theorem tw10248349779409835128:True:=⟨⟩
theorem tw1476215316914956696:True:=⟨⟩
theorem tw1949685835439469843:True:=⟨⟩
theorem tw15816984431614619085:True:=⟨⟩
theorem tw3427826223611391984:True:=⟨⟩
theorem tw9653784991880352074:True:=⟨⟩
theorem tw8349945032606064530:True:=⟨⟩
theorem tw17424951568761209005:True:=⟨⟩
theorem tw16973644697443708395:True:=⟨⟩
theorem tw15579665513119699433:True:=⟨⟩
theorem tw14163598270691000229:True:=⟨⟩
theorem tw1338843315871162412:True:=⟨⟩
theorem tw7788297334335967061:True:=⟨⟩
theorem tw7655460842882374228:True:=⟨⟩
theorem tw6876870166515163086:True:=⟨⟩
theorem tw6487530808254633872:True:=⟨⟩
theorem tw6237077211120518886:True:=⟨⟩
theorem tw1626650731271793850:True:=⟨⟩
theorem tw16255738273785546515:True:=⟨⟩
theorem tw10028855858657538149:True:=⟨⟩
theorem tw10432799941463082678:True:=⟨⟩
theorem tw7731946563964781760:True:=⟨⟩
theorem tw7360248360796572323:True:=⟨⟩
theorem tw5958289297748561030:True:=⟨⟩
theorem tw4382130436773324607:True:=⟨⟩
theorem tw3027927100472675030:True:=⟨⟩
theorem tw1903403461437456986:True:=⟨⟩
theorem tw17649593904677031370:True:=⟨⟩
theorem tw15095739996461327093:True:=⟨⟩
theorem tw14999145191228393332:True:=⟨⟩
theorem tw1126853271650595244:True:=⟨⟩
theorem tw12153896113316630085:True:=⟨⟩
theorem tw12036521874691219705:True:=⟨⟩
theorem tw11052378950427452937:True:=⟨⟩
theorem tw10991227145790283297:True:=⟨⟩
theorem tw1073444651795082255:True:=⟨⟩
theorem tw10612113673198342829:True:=⟨⟩
theorem tw103792594415869199:True:=⟨⟩
theorem tw10333441281893684449:True:=⟨⟩
theorem tw10197752760993867026:True:=⟨⟩
theorem tw10069719486312680593:True:=⟨⟩
theorem tw9666647947674008897:True:=⟨⟩
theorem tw9549528318880330811:True:=⟨⟩
theorem tw9538216155248632788:True:=⟨⟩
theorem tw9538108644651946803:True:=⟨⟩
theorem tw9467562579337797412:True:=⟨⟩
theorem tw9402204227646383728:True:=⟨⟩
theorem tw9379405004657584697:True:=⟨⟩
theorem tw9261377838092704982:True:=⟨⟩
theorem tw9189438336321014677:True:=⟨⟩
theorem tw9105827588752001427:True:=⟨⟩
theorem tw9011460790564029812:True:=⟨⟩
theorem tw8943590120326134917:True:=⟨⟩
theorem tw8701599867266892242:True:=⟨⟩
theorem tw8641094563505154099:True:=⟨⟩
theorem tw8305284896287644728:True:=⟨⟩
theorem tw8269388730516676526:True:=⟨⟩
theorem tw8145058236514236904:True:=⟨⟩
theorem tw8123382329978925172:True:=⟨⟩
theorem tw8071296986991033964:True:=⟨⟩
theorem tw7593380009220348384:True:=⟨⟩
theorem tw7336420263544125979:True:=⟨⟩
theorem tw732724331687692227:True:=⟨⟩
theorem tw6982839190314252679:True:=⟨⟩
theorem tw6702453054325482330:True:=⟨⟩
theorem tw6689454456239523638:True:=⟨⟩
theorem tw6425889660616020807:True:=⟨⟩
theorem tw6236164268018439112:True:=⟨⟩
theorem tw5559119553372140667:True:=⟨⟩
theorem tw5349403422033011944:True:=⟨⟩
theorem tw5116299341554542771:True:=⟨⟩
theorem tw4921207475219808848:True:=⟨⟩
theorem tw4892943230607865322:True:=⟨⟩
theorem tw4802183541126281344:True:=⟨⟩
theorem tw4776936761594789710:True:=⟨⟩
theorem tw4642881950668973197:True:=⟨⟩
theorem tw4603481644768618769:True:=⟨⟩
theorem tw4390979543025745787:True:=⟨⟩
theorem tw4148365207271205144:True:=⟨⟩
theorem tw3440170819146179528:True:=⟨⟩
theorem tw3044579104486462104:True:=⟨⟩
theorem tw2711573421395036226:True:=⟨⟩
theorem tw2595004153006171117:True:=⟨⟩
theorem tw18300566847019740332:True:=⟨⟩
theorem tw18074571073913466781:True:=⟨⟩
theorem tw18068364876361424415:True:=⟨⟩
theorem tw17912790208468927246:True:=⟨⟩
theorem tw17616781492626088326:True:=⟨⟩
theorem tw17554111787669954237:True:=⟨⟩
theorem tw17032208334618294697:True:=⟨⟩
theorem tw16919451063997089956:True:=⟨⟩
theorem tw16828614392748147885:True:=⟨⟩
theorem tw16821597220399004887:True:=⟨⟩
theorem tw16811106032988188884:True:=⟨⟩
theorem tw16767849182231094667:True:=⟨⟩
theorem tw16668740603696772172:True:=⟨⟩
theorem tw16314583275351152900:True:=⟨⟩
theorem tw16002735204686422055:True:=⟨⟩
theorem tw15876435337315847996:True:=⟨⟩
theorem tw15711458877002383141:True:=⟨⟩
theorem tw15098233360478739747:True:=⟨⟩
theorem tw15048966769081825860:True:=⟨⟩
theorem tw14834089097577706553:True:=⟨⟩
theorem tw14756936194449414858:True:=⟨⟩
theorem tw14676373594866514342:True:=⟨⟩
theorem tw14457912791348914548:True:=⟨⟩
theorem tw14447306255186072277:True:=⟨⟩
theorem tw1443050567694369937:True:=⟨⟩
theorem tw13741990429429553987:True:=⟨⟩
theorem tw13725904854071939776:True:=⟨⟩
theorem tw13690786232171297963:True:=⟨⟩
theorem tw13445179359171784362:True:=⟨⟩
theorem tw13228400502884335186:True:=⟨⟩
theorem tw13193620174795610144:True:=⟨⟩
theorem tw13159995607243519220:True:=⟨⟩
theorem tw13115218065689793325:True:=⟨⟩
theorem tw13112393085258871006:True:=⟨⟩
theorem tw12463374180888484981:True:=⟨⟩
theorem tw11931027415340943660:True:=⟨⟩
theorem tw10737931827333390200:True:=⟨⟩
end PySem.W.Fast
open PySem PySem.W PyProof.Rows
set_option maxRecDepth 100000 in
set_option maxHeartbeats 0 in
theorem PySem.Challenge.cw_hushduel_k71_no_plans_holds : PySem.Challenge.rw_hushduel_k71_no_plans.Holds := by
 w_on;o_law;k_head;(case hw=>w_witness2)
 k_fill
 refine K71.walk (l:=PySem.Challenge.rw_hushduel_k71_no_plans) rfl rfl (λw h Y=>PySem.W.kIn_of Y) ?F
 case F=>
  intro w mg fa h KX G hmg;refine' K71.all_mk KX G hmg ?_ ?_ ?_ ?_ ?_ ?_ ?_ ?_ ?_ ?_ ?_ ?_ ?_ ?_ ?_ ?_ ?_ ?_ ?_ ?_ ?_ ?_ ?_ ?_ ?_ ?_ ?_ ?_ ?_ ?_ ?_ ?_ ?_ ?_ ?_ ?_ ?_ ?_ ?_ ?_ ?_ ?_ ?_ ?_ ?_ ?_ ?_ ?_ ?_ ?_ ?_ ?_ ?_ ?_ ?_ ?_ ?_ ?_ ?_ ?_ ?_ ?_ ?_ ?_ ?_ ?_ ?eNoPlan ?eNoText ?_ ?_ ?_ ?_ ?_ ?_ ?_ ?_ ?_ ?_ ?_ ?_ ?uDuelErrorNoPlan ?uDuelErrorNoText ?wNoNameNoPlan ?wNoNameNoText ?vNoName ?wNoNumberNoPlan ?wNoNumberNoText ?vNoNumber ?wNoPlanNoPlan ?wNoPlanNoText ?vNoPlan ?wNoRowNoPlan ?wNoRowNoText ?vNoRow ?wNoTextNoPlan ?wNoTextNoText ?vNoText ?wNoWordNoPlan ?wNoWordNoText ?vNoWord ?wTooGreatNoPlan ?wTooGreatNoText ?vTooGreat ?wValueErrorNoPlan ?wValueErrorNoText
  all_goals try first | (refine' F.qd ?a ?l ?c ?k;(case a=>k_is);(case l=>k_is);(case c=>k_is);(case k=>k_is)) | (refine' F.qm ?a ?i ?l ?c ?k;(case a=>k_is);(case i=>k_is);(case l=>k_is);(case c=>k_is);(case k=>k_is)) | k_is
  (case eNoPlan=>k_exc)
  (case eNoText=>k_exc)
  (case uDuelErrorNoPlan=>kts_exm)
  (case uDuelErrorNoText=>kts_exm)
  (case wNoNameNoPlan=>(first | kit_is | (unfold cf;rw [if_pos (by simp)])))
  (case wNoNameNoText=>(first | kit_is | (unfold cf;rw [if_pos (by simp)])))
  (case vNoName=>(first | kit_is | (unfold cf;rw [if_neg (by simp)];k_is) | k_is))
  (case wNoNumberNoPlan=>(first | kit_is | (unfold cf;rw [if_pos (by simp)])))
  (case wNoNumberNoText=>(first | kit_is | (unfold cf;rw [if_pos (by simp)])))
  (case vNoNumber=>(first | kit_is | (unfold cf;rw [if_neg (by simp)];k_is) | k_is))
  (case wNoPlanNoPlan=>(first | kit_is | (unfold cf;rw [if_pos (by simp)])))
  (case wNoPlanNoText=>(first | kit_is | (unfold cf;rw [if_pos (by simp)])))
  (case vNoPlan=>(first | kit_is | (unfold cf;rw [if_neg (by simp)];k_is) | k_is))
  (case wNoRowNoPlan=>(first | kit_is | (unfold cf;rw [if_pos (by simp)])))
  (case wNoRowNoText=>(first | kit_is | (unfold cf;rw [if_pos (by simp)])))
  (case vNoRow=>(first | kit_is | (unfold cf;rw [if_neg (by simp)];k_is) | k_is))
  (case wNoTextNoPlan=>(first | kit_is | (unfold cf;rw [if_pos (by simp)])))
  (case wNoTextNoText=>(first | kit_is | (unfold cf;rw [if_pos (by simp)])))
  (case vNoText=>(first | kit_is | (unfold cf;rw [if_neg (by simp)];k_is) | k_is))
  (case wNoWordNoPlan=>(first | kit_is | (unfold cf;rw [if_pos (by simp)])))
  (case wNoWordNoText=>(first | kit_is | (unfold cf;rw [if_pos (by simp)])))
  (case vNoWord=>(first | kit_is | (unfold cf;rw [if_neg (by simp)];k_is) | k_is))
  (case wTooGreatNoPlan=>(first | kit_is | (unfold cf;rw [if_pos (by simp)])))
  (case wTooGreatNoText=>(first | kit_is | (unfold cf;rw [if_pos (by simp)])))
  (case vTooGreat=>(first | kit_is | (unfold cf;rw [if_neg (by simp)];k_is) | k_is))
  (case wValueErrorNoPlan=>(first | kit_is | (unfold cf;rw [if_pos (by simp)])))
  (case wValueErrorNoText=>(first | kit_is | (unfold cf;rw [if_pos (by simp)])))
