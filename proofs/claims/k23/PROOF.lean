import PyProof.Rows.All
import Wide.All
import OpenK.AllK
import Wide.FinOn
import Lean
import PyProof.EqAt
import PyProof.EqKinds
import PyProof.TupleCall
import PyProof.TupleKey
import KE.KRevSl
import PyProof.P3Eq
import KE.LcSums
import PyProof.EnumMake
import PyProof.StrWalks
import PyProof.Conv_int_bool
import KE.KIntText
import PyProof.Rows.StrNews2
import PyProof.StrBlock2
import PyProof.Rows.StrNews
import PyProof.StrLawsRepr
import PyProof.ReprStr
import PyProof.ReprRoads
import PyProof.DictIter
import PyProof.Rows.SetFrom
import KE.KDictList
import KE.KDictOf
import PyProof.AttrMissHeap
import KE.KEqDict
import PyProof.DictItems
import KE.KPairComp
import PyProof.Rows.Range3
import KE.IntTextText
import PyProof.StrLawsFirst
import PyProof.ReprBulk
import PyProof.ZipIter
import PyProof.Rows.ZipGen
import PyProof.TupleIter
import PyProof.ListRange
import PyProof.NeKinds
import PySem.Challenge.RW_hushduel_k23_whole_mixes_bring_the_same
set_option compiler.extract_closed false
set_option genSizeOf false
noncomputable section
open PySem renaming wpAny_bind->ab,wpAny_pure->ai,sizeLine->av,starEach->aS,Value->a9,Shared->bE,wpAny->b9,Program->cS,bootBuiltins->dQ,model->eB,wpAny_newObj_type->eC,wpAny_call_entry->eI,wpAny_callSpecial?_slot->eW,wpAny_setField_rec->fx,wpAny_field->fF,compareOp->fN,World->gu,mainGlobals->gy,swapsWith->gX,sysModules->h9,foldedSetIterable->iq,wpAny_seqItems->iE,attributeBase->iF,wpAny_typeNameOfWhole_itemiter->iX,Around->i7,wpAny_typeNameOfWhole_valiter->ja,wpAny_holding->jv,wpAny_dictEntries->kc,binaryOp->kd,wpAny_mono->ki,assignEach->kl,Paired->ko,wpAny_typeNameOf_itemiter->kF,FuncData->kK,wpAny_passesOwn->kL,wpAny_typeNameOf_valiter->kS,behindInMarks->lh,mem_of_lookup->ll,backTo->l7,wpAny_Call_Name_kw->l9,wpAny_specialOf->ma,wpAny_dictEpoch->ml,wpAny_isOneOf_valiter->mo,cLine->mE,wpAny_truthy_bool->mI,IsPair->mP,wpAny_fieldsOf->nh,firstArgMember->nt,wpAny_isInstance->nE,swapsWithSole->oy,swappedStores->oz,wpAny_pyIter_tuple->oB,wpAny_attempt->oQ,rawInt->pf,wpAny_isOneOf_itemiter->pz,sliceBounds->pS,IsItemIter->pT,wpAny_setField->qh,wpAny_notOrdered_dict->qq,wpAny_updateSeq_pair->rh,wpAny_standAt->rL,wpAny_rule->rX,wpAny_execs_nil->sf,keywordEach->sj,Keyword->so,GenState->sQ,holding->tq,assign->ua,pyNext->ub,wpAny_pyIter_list->ui,typeIs_str->uu,wpAny_comprehension_free->va,NameKind->v3,wpAny_letGo->wx,wpAny_onRaise->xb,noFill_tuple_add->xi,PyData->xk,letOwnedTupleGo->x6,concat_meets->ya,valueAt->yi,size_of_entries->yB,Scope->zd,dictSetDefault->zo,isSubtype_stop->zt,IsRangeIter->zw,sizeLine_eq->zD,getItem->zI,subscripted->zS,IsZip->AE,assignInOrder->AJ,PassesOwn->AK,seq_tuple_add->AM,backToKw->AO,DictEntry->AQ,wpAny_handled->AU,IsItemIterOut->AV,ZipApart->AZ,codeAny->A1,typeLookup->A2,callerA->A3,Builtin->A4,IsPart->A8,atKey->BA,BindsTo->BH,pyIter->BQ,call->BS,JoinOk->BU
open List renaming mem_cons_of_mem->ae,mem_cons_self->af,map_cons->ah,mem_map->aw,getElem?_eq_getElem->ax,mem_cons->aE,length_append->a8,size_toArray->bb,mem_singleton->bg,getD_eq_getElem?_getD->bo,range->bp,getElem?_map->bt,getElem?_set_self->bP,map_append->bX,sum_cons->cb,mem_append_right->cf,length_map->cm,getElem?_set_ne->cp,mem_append->cq,length_cons->cw,map_map->cy,getElem?_append_left->c8,getElem?_append_right->dn,mem_append_left->dy,replicate->dA,length_singleton->dS,append_assoc->eD,lookup_cons->eJ,map_congr_left->eS,append_nil->eT,range_eq_range'->fm,mem_filter->fq,mem_flatMap->fR,getElem?_eq_some_iff->fT,nil_append->gv,length_replicate->gE,getElem?_replicate->gL,pairwise_map->gS,nodup_cons->hC,range'_succ->ia,mem_of_getElem?->js,mem_range->jS,nodup_append->ka,getElem?_eq_none->kA,range'->kH,reverse_cons->kQ,find?_cons->kR,length_take->lP,map_nil->me,sum_append->mr,length_drop->nI,filterMap_cons->nK,zipIdx_map_fst->nV,mem_map_of_mem->nX,length_nil->oD,forIn_cons->oI,take_of_length_le->pk,flatMap_cons->p9,nodup_nil->qf,flatMap_nil->qS,filter_cons->qV,length->si,foldl_cons->sx,reverse_append->sA,getElem?_drop->tf,drop_eq_getElem_cons->tw,pairwise_iff_getElem->tJ,mem_or_eq_of_mem_set->tP,getElem?_take_of_lt->uk,any_cons->wm,ext_getElem->xl,getElem_map->xo,getElem_mem->xp,nodup_range->xt,range_succ_eq_map->xy,of_mem_zip->x8,dropLast_eq_take->yn,mem_of_mem_take->zk,forIn_nil->zv,lookup->Ap,getElem?_range->As,flatMap_append->AD,sum_nil->Bz,map_id->BO
open PySem.Heap renaming get?_push_of_some->ag,get?_push_size->ay,lt_size->aT,get?_update_other->cK,get?_update_self->fy,SameBut->hJ,size_push->iL,ExtBut->BI
open Rat renaming divInt->ar,divInt_mul_divInt->mw,add_zero->oq,num_divInt_den->tm,zero_add->tp,divInt_eq_divInt_iff->vE,divInt_eq_div->vF,div_def->xa,add_assoc->AY
open Nat renaming le_refl->aI,lt_of_lt_of_le->cx,ne_of_lt->c6,zero_le->f6,le_trans->gz,lt_irrefl->hV,ne_of_gt->ku,lt_of_le_of_lt->oT,le_add_right->rf,strongRecOn->sC,le_of_eq->sT,add_assoc->vS,pow_le_pow_right->ze,le_of_dvd->AW,zero_add->A6,le_of_lt->A7,gcd_comm->Bi,lt_or_ge->Bn,Coprime->BM
open Bool renaming false_ne_true->be,false_eq_true->kr,and_eq_true->qB,eq_iff_iff->sg
open PySem.W renaming Frag->bq,kia_one->lI,fnOf->AL,kitOne->BB,keepIn->BC
open Option renaming bind_eq_some_iff->cE,map_some->iP,map_eq_some_iff->kg,isSome_map->uS,bind_some->xw
open PySem.Value renaming ref->c9,none->ij,int->AF,str->AG,bool->A0
open PySem.Str renaming ofString->dc,ofString_eq_toList->xD,empty->BG
open Option.some renaming inj->dE
open Ne renaming symm->eK
open PyProof.Rows renaming callWith_type1->eP,slot_tuple_getitem->kM,assignInOrder_cons->sR,kindOf->uj,AllBare->vT,envOfC->x9,subscriptTail->AN
open PySem.Heap.SameBut renaming update->eR
open PySem.Builtin.SmallTypes renaming nextOf->fg,ownedTupleIsFree->hG,ownedTupleHandOut->nB
open PySem.F renaming slot_dict_valueiterator_next->fw,slot_dict_itemiterator_next->fI,slot_tuple_iterator_next->ib,plainAttrs_list->jI,slot_tuple_hash->k9,plainAttrs_dict->lx,slot_zip_next->mB,args_dict_valueiterator_next_1->mM,entry_dict_valueiterator_next->mS,args_dict_itemiterator_next_1->mT,entry_dict_itemiterator_next->ny,args_tuple_add_2->om,args_tuple_iterator_next_1->ox,entry_tuple_add->oC,entry_tuple_iterator_next->pd,slot_tuple_add->pj,slot_dict_get->qk,slot_dict_values_iter->qE,slot_dict_setdefault->rS,slot_dict_items_iter->rV,slot_list_append->ve,type_list_append->vi,slot_dict_values->vv,args_dict_get_3->wq,slot_dict_items->w8,args_zip_next_1->xc,entry_dict_get->xA,entry_zip_next->xE,slot_list_pop->yy,type_list_pop->yA,slot_int_mul->zi
open Classical renaming choose_spec->fA,choose->lT,em->tj
open PySem.Builtin.Dict_items renaming ownsTuple->f7,ownedTupleFields->nN,ownedTupleIsFree->nS,pairFromOwner->pe,newIterator->qr,dictOf->tz
open PySem.NameKind renaming free->gN,cell->ly
open PySem.Builtin.Tuple renaming tupleHashOf->gT,tupleExact->kP,tupleItemsOf->sF
open PySem.PyData renaming strOk->hU,eqvAll->iN,eqv->i8,canLay0->nz,depth->qA,canLayAll0->vx,depthAll->yY
open Or renaming inr->hZ,inl->iS
open Int renaming fdiv_eq_ediv_of_nonneg->ic,emod_lt_of_pos->i9,natAbs_dvd_natAbs->kB,mul_comm->kC,toNat_natCast->kT,emod_nonneg->kU,mul_assoc->mN,mul_ne_zero->sD,eq_of_mul_eq_mul_right->sP,gcd->tF,eq_ofNat_of_zero_le->w9,le_of_lt->A9,mul_pos->BN
open True renaming intro->iA
open PySem.SeqAt renaming shaped->iO
open PySem.Paired renaming length->kq
open PySem.Calls renaming spliced_cons->kx,callWith_builtin->l0,spliced_nil->pE,evalArgs_plain->rg,Name_function_global->sL
open PySem.Builtin.Slice renaming slicePlaces->kD,sliceAdjust->nc,sliceApplied->sM
open List.Nodup renaming idxOf_getElem->kX
open PySem.Builtin.Range renaming rangeSize->lj,small->AB
open PySem.Builtin.List renaming listExtendWith->mf,listTooLong->oo,listSameRef->vj,listItems->xB
open PySem.Builtin.Dict renaming showsAll->mh,noArgs->AA
open Array renaming getElem?_eq_getElem->ng,length_toList->r9,getElem?_eq_some_iff->sN,getElem?_eq_none->xC,toList->x5,forIn_toList->AH,append_assoc->AI
open PySem.Builtin.Int renaming intBits->nL,intTooBig->yb
open False renaming elim->og
open PySem.Obj renaming data_mapFields->oP,mapSeq->r6,isFreed_of_fields->yT,data_mapDictKeys->zh,mapFields->AS
open Char renaming toNat->pV
open PySem.PassesOwn renaming leaving->qc
open ForInStep renaming yield->sv
open Prod.mk renaming inj->xh
open Sum renaming inl->xI,inr->xS
open PySem.Txt renaming slice->yk,join->AR,mul->B0
open PySem.Data renaming fields->zC,cell->BF
open PySem.Builtin.Str renaming tooLong->Au
open Prod renaming fst->AX,ext->BY
open PySem.StrLaws renaming sliceText->A5
open Sum.inl renaming inj->BD
open PyProof.Rows.IsTup renaming new->BE
abbrev Zaa:=PySem.Addr->Prop
abbrev Zp:=PySem.Str->Option PySem.Value
abbrev Zl:=List<|PySem.Addr×PySem.Obj
abbrev Zs:=PySem.Value->PySem.Shared->Prop
theorem xq5 {A B C D E:Sort _}{R Q:A->B->C->D->E->Prop}{P:Prop}(h:∃a b c d e,R a b c d e/\Q a b c d e)(k:∀a b c d e,R a b c d e->Q a b c d e->P):P:=by
 obtain⟨a,b,c,d,e,r,q⟩:=h;exact k a b c d e r q
theorem xq7 {A B C D E F G:Sort _}{R Q S T:A->B->C->D->E->F->G->Prop}{P:Prop}(h:∃a b c d e f g,R a b c d e f g/\Q a b c d e f g/\S a b c d e f g/\T a b c d e f g)(k:∀a b c d e f g,R a b c d e f g->Q a b c d e f g->S a b c d e f g->T a b c d e f g->P):P:=by
 obtain⟨a,b,c,d,e,f,g,r,q,s,t⟩:=h;exact k a b c d e f g r q s t
theorem xq2 {A B:Sort _}{R Q S:A->B->Prop}{P:Prop}(h:∃a b,R a b/\Q a b/\S a b)(k:∀a b,R a b->Q a b->S a b->P):P:=by
 obtain⟨a,b,r,q,s⟩:=h;exact k a b r q s
theorem xl1 {A:Type _}{us:List A}(h:us.length=1):∃a,us=[a]:=by
 cases us with
 |nil=>cases h
 |cons a t=>cases t with
  |nil=>exact⟨a,rfl⟩
  |cons _ _=>cases h
theorem xl0 {A:Type _}{us:List A}{n:Nat}(h:us.length=n+1):∃a t,us=a::t/\t.length=n:=by
 cases us with
 |nil=>cases h
 |cons a t=>exact⟨a,t,rfl,Nat.succ.inj h⟩
theorem xl2 {A:Type _}{us:List A}(h:us.length=2):∃a b,us=[a,b]:=by
 obtain⟨a,t,rfl,h'⟩:=xl0 (n:=1) h;obtain⟨b,rfl⟩:=xl1 h';exact⟨a,b,rfl⟩
theorem xl3 {A:Type _}{us:List A}(h:us.length=3):∃a b c,us=[a,b,c]:=by
 obtain⟨a,t,rfl,h'⟩:=xl0 (n:=2) h;obtain⟨b,c,rfl⟩:=xl2 h';exact⟨a,b,c,rfl⟩
theorem xl4 {A:Type _}{us:List A}(h:us.length=4):∃a b c d,us=[a,b,c,d]:=by
 obtain⟨a,t,rfl,h'⟩:=xl0 (n:=3) h;obtain⟨b,c,d,rfl⟩:=xl3 h';exact⟨a,b,c,d,rfl⟩
set_option Elab.async false
set_option linter.all false
set_option maxRecDepth 100000
theorem Ci {P0 P1 P2 P3 P4:Prop}{Z:Prop}(h:P0/\P1/\P2/\P3/\P4)(z:P0->P1->P2->P3->P4->Z):Z:=by
 obtain⟨h0,h1,h2,h3,h4⟩:=h;exact z h0 h1 h2 h3 h4
theorem lO {P0 P1 P2 P3 P4 P5:Prop}{Z:Prop}(h:P0/\P1/\P2/\P3/\P4/\P5)(z:P0->P1->P2->P3->P4->P5->Z):Z:=by
 obtain⟨h0,h1,h2,h3,h4,h5⟩:=h;exact z h0 h1 h2 h3 h4 h5
theorem iy {Ta:Sort _}{P0 P1 P2 P3:Ta->Prop}{Z:Prop}(h:∃a,P0 a/\P1 a/\P2 a/\P3 a)(z:∀a,P0 a->P1 a->P2 a->P3 a->Z):Z:=by
 obtain⟨a,h0,h1,h2,h3⟩:=h;exact z a h0 h1 h2 h3
theorem X7 {Ta:Sort _}{P0 P1 P2 P3 P4:Ta->Prop}{Z:Prop}(h:∃a,P0 a/\P1 a/\P2 a/\P3 a/\P4 a)(z:∀a,P0 a->P1 a->P2 a->P3 a->P4 a->Z):Z:=by
 obtain⟨a,h0,h1,h2,h3,h4⟩:=h;exact z a h0 h1 h2 h3 h4
theorem wy {Ta Tb:Sort _}{P0 P1 P2:Ta->Tb->Prop}{Z:Prop}(h:∃a b,P0 a b/\P1 a b/\P2 a b)(z:∀a,∀b,P0 a b->P1 a b->P2 a b->Z):Z:=by
 obtain⟨a,b,h0,h1,h2⟩:=h;exact z a b h0 h1 h2
theorem vO {Ta Tb:Sort _}{P0 P1 P2 P3:Ta->Tb->Prop}{Z:Prop}(h:∃a b,P0 a b/\P1 a b/\P2 a b/\P3 a b)(z:∀a,∀b,P0 a b->P1 a b->P2 a b->P3 a b->Z):Z:=by
 obtain⟨a,b,h0,h1,h2,h3⟩:=h;exact z a b h0 h1 h2 h3
theorem uU {Ta Tb:Sort _}{P0 P1 P2 P3 P4:Ta->Tb->Prop}{Z:Prop}(h:∃a b,P0 a b/\P1 a b/\P2 a b/\P3 a b/\P4 a b)(z:∀a,∀b,P0 a b->P1 a b->P2 a b->P3 a b->P4 a b->Z):Z:=by
 obtain⟨a,b,h0,h1,h2,h3,h4⟩:=h;exact z a b h0 h1 h2 h3 h4
theorem LC {Ta Tb:Sort _}{P0 P1 P2 P3 P4 P5:Ta->Tb->Prop}{Z:Prop}(h:∃a b,P0 a b/\P1 a b/\P2 a b/\P3 a b/\P4 a b/\P5 a b)(z:∀a,∀b,P0 a b->P1 a b->P2 a b->P3 a b->P4 a b->P5 a b->Z):Z:=by
 obtain⟨a,b,h0,h1,h2,h3,h4,h5⟩:=h;exact z a b h0 h1 h2 h3 h4 h5
theorem HN {Ta Tb Tc:Sort _}{P0 P1:Ta->Tb->Tc->Prop}{Z:Prop}(h:∃a b c,P0 a b c/\P1 a b c)(z:∀a,∀b,∀c,P0 a b c->P1 a b c->Z):Z:=by
 obtain⟨a,b,c,h0,h1⟩:=h;exact z a b c h0 h1
theorem Gi {Ta Tb Tc:Sort _}{P0 P1 P2:Ta->Tb->Tc->Prop}{Z:Prop}(h:∃a b c,P0 a b c/\P1 a b c/\P2 a b c)(z:∀a,∀b,∀c,P0 a b c->P1 a b c->P2 a b c->Z):Z:=by
 obtain⟨a,b,c,h0,h1,h2⟩:=h;exact z a b c h0 h1 h2
theorem sW {Ta Tb Tc:Sort _}{P0 P1 P2 P3:Ta->Tb->Tc->Prop}{Z:Prop}(h:∃a b c,P0 a b c/\P1 a b c/\P2 a b c/\P3 a b c)(z:∀a,∀b,∀c,P0 a b c->P1 a b c->P2 a b c->P3 a b c->Z):Z:=by
 obtain⟨a,b,c,h0,h1,h2,h3⟩:=h;exact z a b c h0 h1 h2 h3
theorem Tt {Ta Tb Tc:Sort _}{P0 P1 P2 P3 P4:Ta->Tb->Tc->Prop}{Z:Prop}(h:∃a b c,P0 a b c/\P1 a b c/\P2 a b c/\P3 a b c/\P4 a b c)(z:∀a,∀b,∀c,P0 a b c->P1 a b c->P2 a b c->P3 a b c->P4 a b c->Z):Z:=by
 obtain⟨a,b,c,h0,h1,h2,h3,h4⟩:=h;exact z a b c h0 h1 h2 h3 h4
theorem Dt {Ta Tb Tc:Sort _}{P0 P1 P2 P3 P4 P5:Ta->Tb->Tc->Prop}{Z:Prop}(h:∃a b c,P0 a b c/\P1 a b c/\P2 a b c/\P3 a b c/\P4 a b c/\P5 a b c)(z:∀a,∀b,∀c,P0 a b c->P1 a b c->P2 a b c->P3 a b c->P4 a b c->P5 a b c->Z):Z:=by
 obtain⟨a,b,c,h0,h1,h2,h3,h4,h5⟩:=h;exact z a b c h0 h1 h2 h3 h4 h5
theorem acn {Ta Tb Tc Td:Sort _}{P0 P1:Ta->Tb->Tc->Td->Prop}{Z:Prop}(h:∃a b c d,P0 a b c d/\P1 a b c d)(z:∀a,∀b,∀c,∀d,P0 a b c d->P1 a b c d->Z):Z:=by
 obtain⟨a,b,c,d,h0,h1⟩:=h;exact z a b c d h0 h1
theorem afH {Ta Tb Tc Td:Sort _}{P0 P1 P2:Ta->Tb->Tc->Td->Prop}{Z:Prop}(h:∃a b c d,P0 a b c d/\P1 a b c d/\P2 a b c d)(z:∀a,∀b,∀c,∀d,P0 a b c d->P1 a b c d->P2 a b c d->Z):Z:=by
 obtain⟨a,b,c,d,h0,h1,h2⟩:=h;exact z a b c d h0 h1 h2
theorem fQ {Ta Tb Tc Td:Sort _}{P0 P1 P2 P3 P4:Ta->Tb->Tc->Td->Prop}{Z:Prop}(h:∃a b c d,P0 a b c d/\P1 a b c d/\P2 a b c d/\P3 a b c d/\P4 a b c d)(z:∀a,∀b,∀c,∀d,P0 a b c d->P1 a b c d->P2 a b c d->P3 a b c d->P4 a b c d->Z):Z:=by
 obtain⟨a,b,c,d,h0,h1,h2,h3,h4⟩:=h;exact z a b c d h0 h1 h2 h3 h4
theorem uX {Ta Tb Tc Td Te:Sort _}{P0 P1:Ta->Tb->Tc->Td->Te->Prop}{Z:Prop}(h:∃a b c d e,P0 a b c d e/\P1 a b c d e)(z:∀a,∀b,∀c,∀d,∀e,P0 a b c d e->P1 a b c d e->Z):Z:=by
 obtain⟨a,b,c,d,e,h0,h1⟩:=h;exact z a b c d e h0 h1
theorem K6 {Ta Tb Tc Td Te:Sort _}{P0 P1 P2 P3 P4 P5 P6:Ta->Tb->Tc->Td->Te->Prop}{Z:Prop}(h:∃a b c d e,P0 a b c d e/\P1 a b c d e/\P2 a b c d e/\P3 a b c d e/\P4 a b c d e/\P5 a b c d e/\P6 a b c d e)(z:∀a,∀b,∀c,∀d,∀e,P0 a b c d e->P1 a b c d e->P2 a b c d e->P3 a b c d e->P4 a b c d e->P5 a b c d e->P6 a b c d e->Z):Z:=by
 obtain⟨a,b,c,d,e,h0,h1,h2,h3,h4,h5,h6⟩:=h;exact z a b c d e h0 h1 h2 h3 h4 h5 h6
namespace L2
open PySem PySem.Spec PyProof.Rows
abbrev Key:=Sum Int Str
noncomputable def Cd:Key->a9->Bool
 | .inl k,v=>Value.isInt k v
 | .inr x,v=>Value.isStrOf x v
noncomputable def agk (w:gu):Key->Int
 | .inl k=>hashInt k
 | .inr x=>hashStr w x
theorem bK:∀{k:Key} {v:a9},Cd k v=true->(∃i t,k=xI i/\v=AF i t)\/(∃x t,k=xS x/\v=AG x t)
 | .inl i,v,h=>by
  obtain⟨t,e⟩:=Value.isInt_shape (k:=i) (v:=v) h;exact .inl ⟨i,t,rfl,e⟩
 | .inr x,v,h=>by
  obtain⟨t,e⟩:=Value.isStrOf_shape (x:=x) (v:=v) h;exact .inr ⟨x,t,rfl,e⟩
theorem Vt (i:Int)(t:Tok):Cd (.inl i) (.int i t)=true:=by simp[Cd,Value.isInt]
theorem Vs (x:Str)(t:Tok):Cd (.inr x) (.str x t)=true:=by simp[Cd,Value.isStrOf]
theorem aeC (a b:Int):decide ((xI a:Key)=xI b)=(a==b):=by
 by_cases e:a=b
 ·subst e;simp
 ·have h:¬(xI a:Key)=xI b:=λq=>e<|BD q;rw[decide_eq_false h];exact(beq_eq_false_iff_ne.mpr e).symm
theorem adU (a b:Str):decide ((xS a:Key)=xS b)=decide (a=b):=by
 by_cases e:a=b
 ·subst e;simp
 ·have h:¬(xS a:Key)=xS b:=λq=>e<|Sum.inr.inj q;rw[decide_eq_false h,decide_eq_false e]
theorem adi (a:Int)(b:Str):decide ((xI a:Key)=xS b)=false:=decide_eq_false λq=>nomatch q
theorem ac0 (a:Str)(b:Int):decide ((xS a:Key)=xI b)=false:=decide_eq_false λq=>nomatch q
def ji (prog:cS)(w:gu):PySem.KeyKind prog w Key where
 is:=Cd
 hash:=agk w
 inj:=λv a b ha hb=>by
  rcases bK ha with⟨i,t,rfl,rfl⟩|⟨x,t,rfl,rfl⟩
  ·rcases bK hb with⟨j,u,rfl,e⟩|⟨y,u,rfl,e⟩
   ·injection e with e1 _;rw[e1]
   ·exact nomatch e
  ·rcases bK hb with⟨j,u,rfl,e⟩|⟨y,u,rfl,e⟩
   ·exact nomatch e
   ·injection e with e1 _;rw[e1]
 byValue:=λk v h=>by
  rcases bK h with⟨i,t,rfl,rfl⟩|⟨x,t,rfl,rfl⟩<;>rfl
 pyHash:=λhv h=>by
  rcases bK hv with⟨i,t,rfl,rfl⟩|⟨x,t,rfl,rfl⟩
  ·exact wpAny_pyHash_int h
  ·exact wpAny_pyHash_str h
 eqBool:=λhu hv h=>by
  rcases bK hu with⟨i,t,rfl,rfl⟩|⟨x,t,rfl,rfl⟩
  ·rcases bK hv with⟨j,u,rfl,rfl⟩|⟨y,u,rfl,rfl⟩
   ·rw[aeC] at h;exact wpAny_eqBool_int h
   ·rw[adi] at h;exact SeqAt.EqAt.int_str i t y u _ _ _ _ h
  ·rcases bK hv with⟨j,u,rfl,rfl⟩|⟨y,u,rfl,rfl⟩
   ·rw[ac0] at h;exact SeqAt.EqAt.str_int x t j u _ _ _ _ h
   ·rw[adU] at h;exact wpAny_eqBool_str h
 «strs»:=λk x t v h=>by
  rcases bK h with⟨i,u,rfl,e⟩|⟨y,u,rfl,e⟩
  ·exact nomatch e
  ·injection e with e1 _
   subst e1;cases v<;>rfl
theorem Mr (prog:cS)(w:gu)(i:Int)(t:Tok):(ji prog w).is (.inl i) (.int i t)=true:=Vt i t
theorem Lh (prog:cS)(w:gu)(x:Str)(t:Tok):(ji prog w).is (.inr x) (.str x t)=true:=Vs x t
inductive Kt where
 |k (x:Key)|t (xs:List Kt)
mutual
def Kt.dec:(a b:Kt)->Decidable (a=b)
 | .k x,.k y=>if h:x=y then .isTrue (by rw[h]) else .isFalse λe=>h<|by injection e
 | .t xs,.t ys=>match Kt.decs xs ys with
  | .isTrue h=>.isTrue<|by rw[h]
  | .isFalse h=>.isFalse λe=>h<|by injection e
 | .k _,.t _=>.isFalse λe=>nomatch e
 | .t _,.k _=>.isFalse λe=>nomatch e
def Kt.decs:(a b:List Kt)->Decidable (a=b)
 |[],[]=>.isTrue rfl
 |[],_::_=>.isFalse λe=>nomatch e
 |_::_,[]=>.isFalse λe=>nomatch e
 |x::xs,y::ys=>match Kt.dec x y,Kt.decs xs ys with
  | .isTrue h,.isTrue g=>.isTrue<|by rw[h,g]
  | .isFalse h,_=>.isFalse λe=>h<|by injection e
  |_,.isFalse g=>.isFalse λe=>g<|by injection e
end
instance:DecidableEq Kt:=Kt.dec
mutual
def xT (w:gu):Kt->Int
 | .k x=>agk w x
 | .t xs=>reduceHash<|gT<|pP w xs
def pP (w:gu):List Kt->List Int
 |[]=>[]
 |x::xs=>xT w x::pP w xs
end
mutual
def wH:Kt->Nat
 | .k _=>1
 | .t xs=>fK xs+1
def fK:List Kt->Nat
 |[]=>0
 |x::xs=>wH x+fK xs
end
def oR (h:Heap):Nat->Kt->a9->Prop
 |_,.k x,v=>Cd x v=true
 |0,.t _,_=>False
 |n+1,.t xs,v=>∃a o items m,v=.ref a/\h.get? a=some o/\o.cls=.type "tuple"/\o.data=.seq items m/\ko (oR h n) xs items.toList
theorem nA:oR h (n+1) (.t xs) v↔∃a o items m,v=.ref a/\h.get? a=some o/\o.cls=.type "tuple"/\o.data=.seq items m/\ko (oR h n) xs items.toList:=by rw[oR]
theorem rK:oR h n (.k x) v↔Cd x v=true:=by cases n<;>rw[oR]
theorem Es {α β:Type}{F G:α->β->Prop}(f:∀a b,F a b->G a b):∀{l:List α} {m:List β},ko F l m->ko G l m
 |_,_,.nil=>.nil
 |_,_,.cons r t=>.cons (f _ _ r)<|Es f t
theorem FQ {α β:Type}{F:α->β->Prop}(f:∀x y b,F x b->F y b->x=y):∀{l l':List α} {m:List β},ko F l m->ko F l' m->l=l'
 |_,_,_,.nil,.nil=>rfl
 |_,_,_,.cons r t,.cons r' t'=>by rw[f _ _ _ r r',FQ f t t']
theorem GP {h:Heap}:∀(n:Nat) (x y:Kt) (v:a9),oR h n x v->oR h n y v->x=y
 |n,.k x,.k y,v,hx,hy=>by
  rw[rK] at hx hy;rcases bK hx with⟨i,t,rfl,rfl⟩|⟨z,t,rfl,rfl⟩
  ·rcases bK hy with⟨j,u,rfl,e⟩|⟨y,u,rfl,e⟩
   ·injection e with e1 _;rw[e1]
   ·exact nomatch e
  ·rcases bK hy with⟨j,u,rfl,e⟩|⟨y,u,rfl,e⟩
   ·exact nomatch e
   ·injection e with e1 _;rw[e1]
 |0,.t _,_,_,hx,_=>by rw[oR] at hx;exact hx.elim
 |0,.k _,.t _,_,_,hy=>by rw[oR] at hy;exact hy.elim
 |n+1,.k x,.t ys,v,hx,hy=>by
  rw[rK] at hx;refine acn (nA.mp hy) λa _ _ _ e _=>?_;subst e;rcases bK hx with⟨_,_,_,e⟩|⟨_,_,_,e⟩<;>exact nomatch e
 |n+1,.t xs,.k y,v,hx,hy=>by
  rw[rK] at hy;refine acn (nA.mp hx) λa _ _ _ e _=>?_;subst e;rcases bK hy with⟨_,_,_,e⟩|⟨_,_,_,e⟩<;>exact nomatch e
 |n+1,.t xs,.t ys,v,hx,hy=>by
  refine fQ (nA.mp hx) λa o it m e g _ d p=>?_;refine fQ (nA.mp hy) λa' o' it' m' e' g' _ d' p'=>?_;subst e;injection e' with e'
  subst e';cases g.symm.trans g';rw[d] at d';injection d' with d' _
  subst d';rw[FQ (GP n) p p']
theorem Gj {h h':Heap}{d:Addr}{o:Obj}{es ep}(ho:h.get? d=some o)(hd:o.data=.dict es ep)(hs:hJ d h h'):∀(n:Nat) (x:Kt) (v:a9),oR h n x v->oR h' n x v
 |n,.k x,v,hx=>by rw[rK] at hx ⊢;exact hx
 |0,.t _,_,hx=>by rw[oR] at hx;exact hx.elim
 |n+1,.t xs,v,hx=>by
  refine fQ (nA.mp hx) λa o' it m e g c dd p=>?_;have ne:a≠d:=by
   rintro rfl;cases g.symm.trans ho;rw[hd] at dd;cases dd
  exact nA.mpr ⟨a,o',it,m,e,(hs.2 a ne).trans g,c,dd,Es (Gj ho hd hs n) p⟩
section
theorem Bx (w:gu):∀xs:List Kt,pP w xs=xs.map (xT w)
 |[]=>by rw[pP];rfl
 |x::xs=>by rw[pP,Bx w xs];rfl
theorem zH:∀xs ys:List Kt,fK (xs++ys)=fK xs+fK ys
 |[],ys=>by rw[gv,fK,A6]
 |x::xs,ys=>by rw[List.cons_append,fK,fK,zH xs ys,vS]
theorem Ks (x:Kt):fK [x]=wH x:=by rw[fK,fK,Nat.add_zero]
theorem IW:∀(n:Nat) {A:i7} {s:bE} {x:Kt} {v:a9} {Q:Int->bE->Prop},A.units+n<mE->oR s.heap n x v->Q (xT wo x) { s with toks:=s.toks+wH x }->b9 (eB pr wo) A (pyHash v) Q E s
 |n,A,s,.k x,v,Q,hu,hx,q=>by
  rw[rK] at hx;rw[xT,wH] at q;exact(ji pr wo).pyHash hx q
 |0,_,_,.t _,_,_,_,hx,_=>by rw[oR] at hx;exact hx.elim
 |n+1,A,s,.t xs,v,Q,hu,hx,h=>by
  refine fQ (nA.mp hx) λa o items m e ho hc hd hi=>?_;subst e;have hT:s.TypeIs (.ref a) "tuple":=⟨o,ho,hc⟩;rw[xT,wH] at h;unfold pyHash
  first|unfold pyHashByItsType|skip
  first|refine ab (wpAny_cRoomFor_or (.inr<|by lia) ?_)|skip
  refine ab<|ma hT k9.lookup ?_;show b9 _ _ (if(some (Value.builtin "tuple.__hash__")==some ij)=true then _ else _) Q E s;rw[if_neg (by rw[beq_builtin_none];exact be)];refine ab<|ma hT k9.lookup ?_;show b9 _ _ (callSpecialIfBoundUnlessNone? (.ref a) "__hash__" _ >>= _) Q E s;refine ab<|wpAny_callSpecialIfBoundUnlessNone?_slot hT k9<|eI k9 hT PySem.F.entry_tuple_hash ?_<|PySem.F.args_tuple_hash_1 _;show b9 _ _ (sF (.ref a) >>= _) _ _ s;refine ab<|wpAny_tupleItemsOf ho hd ?_;refine ab ?_;rw[← AH];refine wpAny_forIn_list _
   (λrest (b:Array Int) s'=>∃done left,xs=done++left/\ko (oR s.heap n) left rest/\b.toList=done.map (xT wo)/\s'={ s with toks:=s.toks+fK done })
   _ ?_ ?_ _ _ ⟨[],xs,rfl,hi,rfl,by rw[fK];rfl⟩
  ·rintro x rest b s' ⟨done,left,rfl,hl,hb,rfl⟩;cases hl with
   | @cons k _ ks' _ h1 hl'=>
    refine ab<|IW n (A:=A.in1) (show A.units+1+n<mE by lia) (s:={ s with toks:=s.toks+fK done }) h1 ?_;refine ai ⟨done++[k],ks',by simp,hl',by simp[hb],?_⟩;rw[zH,Ks,vS]
  ·rintro b s' ⟨done,left,rfl,hl,hb,rfl⟩;cases hl;rw[eT] at h;show b9 _ _ (retInt<|gT b.toList) _ _ _;rw[hb,← Bx];refine wpAny_ret_mkInt ?_;show b9 _ _ (if(decide (-(2:Int)^63<=gT (pP wo done))&&decide (gT (pP wo done)<2^63))=true then _ else _) Q E _;unfold reduceHash at h;by_cases hr:(decide (-(2:Int)^63<=gT (pP wo done))&&decide (gT (pP wo done)<2^63))=true
   ·rw[if_pos hr];rw[if_pos hr] at h;exact ai<|by simpa[vS] using h
   ·rw[if_neg hr];rw[if_neg hr] at h;exact ab<|rX<|ai<|by simpa[vS] using h
noncomputable def vP (xs ys:List Kt)(j:Nat):Bool:=match xs[j]?,ys[j]? with
 |some x,some y=>decide<|x=y
 |_,_=>true
theorem Fq:∀xs ys:List Kt,((bp<|min xs.length ys.length).all (vP xs ys)&&xs.length==ys.length)=decide (xs=ys)
 |[],[]=>by simp
 |[],_::_=>by simp
 |_::_,[]=>by simp
 |x::xs,y::ys=>by
  have ih:=Fq xs ys;rw[cw,cw,Nat.succ_min_succ,xy,List.all_cons,List.all_map];have e:(vP (x::xs) (y::ys)∘Nat.succ)=vP xs ys:=by funext j;simp[vP]
  rw[e];have e0:vP (x::xs) (y::ys) 0=decide (x=y):=by simp[vP]
  rw[e0,Bool.and_assoc];have e1:((xs.length+1==ys.length+1):Bool)=(xs.length==ys.length):=by simp
  rw[e1,ih];by_cases a:x=y<;>by_cases b:xs=ys<;>simp[a,b]
theorem zZ:∀{l:List α} {m:List β} (j:Nat) (h:j<m.length),ko F l m->∃a,l[j]? = some a/\F a m[j]
 |_,_,j,h,.nil=>absurd h<|Nat.not_lt_zero _
 |_,_,0,_,.cons r _=>⟨_,rfl,r⟩
 |_,_,j+1,h,.cons _ t=>by
  obtain⟨a,h1,h2⟩:=zZ j (by simpa using h) t;exact⟨a,by simpa using h1,by simpa using h2⟩
theorem RZ:∀(n:Nat) (A:i7) (s:bE) (x y:Kt) (v u:a9),A.units+n<mE->oR s.heap n x v->oR s.heap n y u->SeqAt.EqAt A s v u (decide<|x=y)
 |n,A,s,.k x,.k y,v,u,hu,hx,hy=>by
  rw[rK] at hx hy;intro pr wo E Q q;refine(ji pr wo).eqBool (a:=x) (b:=y) hx hy ?_;have e:decide (Kt.k x=Kt.k y)=decide (x=y):=decide_eq_decide.mpr ⟨λe=>by injection e,λe=>by rw[e]⟩;rw[← e];exact q
 |0,_,_,.t _,_,_,_,_,hx,_=>by rw[oR] at hx;exact hx.elim
 |0,_,_,.k _,.t _,_,_,_,_,hy=>by rw[oR] at hy;exact hy.elim
 |n+1,A,s,.k x,.t ys,v,u,hu,hx,hy=>by
  rw[rK] at hx;refine fQ (nA.mp hy) λa o it m e g c d _=>?_;subst e;have hl:s.heap.IsTuple a it:=⟨o,g,c,m,d⟩;rw[show decide (Kt.k x=Kt.t ys)=false from decide_eq_false λe=>nomatch e];rcases bK hx with⟨i,t,rfl,rfl⟩|⟨z,t,rfl,rfl⟩
  ·exact SeqAt.EqAt.int_tuple i t hl<|by lia
  ·exact SeqAt.EqAt.str_tuple z t hl<|by lia
 |n+1,A,s,.t xs,.k y,v,u,hu,hx,hy=>by
  rw[rK] at hy;refine fQ (nA.mp hx) λa o it m e g c d _=>?_;subst e;have hl:s.heap.IsTuple a it:=⟨o,g,c,m,d⟩;rw[show decide (Kt.t xs=Kt.k y)=false from decide_eq_false λe=>nomatch e];rcases bK hy with⟨i,t,rfl,rfl⟩|⟨z,t,rfl,rfl⟩
  ·exact SeqAt.EqAt.tuple_int i t hl<|by lia
  ·exact SeqAt.EqAt.tuple_str z t hl<|by lia
 |n+1,A,s,.t xs,.t ys,v,u,hu,hx,hy=>by
  have hx':=hx;have hy':=hy;refine fQ (nA.mp hx) λa o it m e g c d p=>?_;refine fQ (nA.mp hy) λa' o' it' m' e' g' c' d' p'=>?_;subst e e';by_cases ne:a=a'
  ·subst ne;rw[GP _ _ _ _ hx' hy',decide_eq_true rfl];exact SeqAt.EqAt.same _
  ·have hl:s.heap.IsTuple a it:=⟨o,g,c,m,d⟩;have hl':s.heap.IsTuple a' it':=⟨o',g',c',m',d'⟩;have n1:it.size=xs.length:=by have:=kq p;simpa using this.symm
   have n2:it'.size=ys.length:=by have:=kq p';simpa using this.symm
   have e2:decide (Kt.t xs=Kt.t ys)=decide (xs=ys):=decide_eq_decide.mpr ⟨λe=>by injection e,λe=>by rw[e]⟩;rw[e2,← Fq xs ys,← n1,← n2];refine SeqAt.EqAt.of_refs ne<|SeqAt.RcAt.tuples hl hl' (by lia) λj j1 j2=>?_;obtain⟨b,q1,q2⟩:=zZ j (by simpa using j1) p;obtain⟨b',r1,r2⟩:=zZ j (by simpa using j2) p'
   have:vP xs ys j=decide (b=b'):=by unfold vP;rw[q1,r1]
   rw[this];exact RZ n A.in1 s b b' _ _ (show A.units+1+n<mE by lia) (by simpa using q2) (by simpa using r2)
theorem RV:∀(n:Nat) {A:i7} {s:bE} {x:Kt} {v:a9} {Q:Bool->bE->Prop},oR s.heap n x v->Q true s->b9 (eB pr wo) A (eqIsQuiet n v) Q E s
 |n,A,s,.k x,v,Q,hx,q=>by
  rw[rK] at hx;rw[eqIsQuiet_byValue _<|(ji pr wo).byValue _ _ hx];exact ai q
 |0,_,_,.t _,_,_,hx,_=>by rw[oR] at hx;exact hx.elim
 |n+1,A,s,.t xs,v,Q,hx,h=>by
  refine fQ (nA.mp hx) λa o items m e ho hc hd hi=>?_;subst e;have hT:s.TypeIs (.ref a) "tuple":=⟨o,ho,hc⟩;unfold eqIsQuiet;refine ab<|ma hT PySem.F.slot_tuple_eq.lookup ?_;show b9 _ _ (isInstance (.ref a) (.type "tuple") >>= _) _ _ s;refine ab<|nE hT isSubtype_tuple_tuple ?_;simp only[Bool.not_true,kr,if_false];refine ab<|iE ho hd<|ab ?_;show b9 _ _ (forIn items _ _) _ _ s;rw[← AH];refine wpAny_forIn_list _ (λrest r s'=>r.1=none/\s'=s/\∃ks,ko (oR s.heap n) ks rest) _ ?_ ?_ _ _ ⟨rfl,rfl,xs,hi⟩
  ·rintro v rest r s' ⟨hr,rfl,ks,al⟩;cases al with
   |cons h1 al'=>
    refine ab<|RV n h1 ?_;simp only[Bool.not_true,kr,if_false];exact ai ⟨rfl,rfl,_,al'⟩
  ·rintro⟨r1,r2⟩ s' ⟨hr,rfl,_⟩;simp only at hr;subst hr;exact ai h
end
def jd (pr:cS)(wo:gu):HeapKind pr wo (List Kt) where
 is:=λh ks a=>oR h 8 (.t ks)<|.ref a
 hash:=λks=>xT wo<|.t ks
 draws:=λks=>wH<|.t ks
 room:=λA=>A.units+8<mE
 inj:=λa b=>by have:=GP _ _ _ _ a b;injection this
 keeps:=λx a b c=>Gj a b c _ _ _ x
 pyHash:=λa b c=>IW 8 a b c
 eqBool:=λ{A E s x y a b Q} h1 h2 h3 h4=>by
  refine RZ 8 A s _ _ _ _ h1 h2 h3 _ _ _ _ ?_;rw[show decide (Kt.t x=Kt.t y)=decide (x=y) from decide_eq_decide.mpr ⟨λe=>by injection e,λe=>by rw[e]⟩];exact h4
 quiet:=λa b=>RV 8 a b
inductive V where
 |non|bl (b:Bool)|int (i:Int)|str (x:Str)|byt (b:Array UInt8)|flt (b:UInt64)|ref (a:Addr)|ty (n:String)
 deriving DecidableEq
def RelV:V->a9->Prop
 | .non,u=>u=ij
 | .bl b,u=>u=A0 b
 | .int i,u=>∃t,u=AF i t
 | .str x,u=>∃t,u=AG x t
 | .byt b,u=>∃t,u=Value.bytes b t
 | .flt b,u=>∃t,u=Value.float b t
 | .ref a,u=>u=c9 a
 | .ty n,u=>u=Value.type n
abbrev Vals:List V->List a9->Prop:=ko RelV
theorem Vals.length (r:Vals xs us):xs.length=us.length:=kq r
theorem Vals.get:∀{xs:List V} {us:List a9} {i:Nat} {x:V},Vals xs us->xs[i]? = some x->∃u,us[i]? = some u/\RelV x u
 |_,_,_,_,.nil,e=>by simp at e
 |_,_,0,_,.cons r _,e=>by simp at e;subst e;exact⟨_,rfl,r⟩
 |_,_,i+1,x,.cons _ t,e=>by
  obtain⟨u,h1,h2⟩:=Vals.get (i:=i) (x:=x) t (by simpa using e);exact⟨u,by simpa using h1,h2⟩
theorem Vals.set (r:RelV x u):∀{xs:List V} {us:List a9} (i:Nat),Vals xs us->Vals (xs.set i x) (us.set i u)
 |_,_,_,.nil=>.nil
 |_,_,0,.cons _ t=>.cons r t
 |_,_,i+1,.cons q t=>.cons q<|Vals.set r i t
theorem Vals.append:∀{xs ys:List V} {us ws:List a9},Vals xs us->Vals ys ws->Vals (xs++ys) (us++ws)
 |_,_,_,_,.nil,s=>s
 |_,_,_,_,.cons r t,s=>.cons r<|Vals.append t s
theorem Vals.take:∀{xs:List V} {us:List a9} (n:Nat),Vals xs us->Vals (xs.take n) (us.take n)
 |_,_,0,_=>.nil
 |_,_,_+1,.nil=>.nil
 |_,_,n+1,.cons r t=>.cons r<|Vals.take n t
theorem Vals.drop:∀{xs:List V} {us:List a9} (n:Nat),Vals xs us->Vals (xs.drop n) (us.drop n)
 |_,_,0,r=>r
 |_,_,_+1,.nil=>.nil
 |_,_,n+1,.cons _ t=>Vals.drop n t
def Bj:Option V->Option a9->Prop
 |some v,some u=>RelV v u
 |none,none=>True
 |_,_=>False
def KV {κ:Type}:List (κ×V)->List (κ×a9)->Prop:=ko λ(p:κ×V) (q:κ×a9)=>p.1=q.1/\RelV p.2 q.2
noncomputable def kV:Key->V
 | .inl i=>.int i
 | .inr x=>.str x
inductive HO where
  |lst (xs:List V)
  |tup (xs:List V)
  |dK (ι:List (Key×V))|dT (T:Addr->List V->Prop) (ι:List (List Kt×V))
  |set (S:Int->Bool) (n:Nat)
  |ins (C dx:Addr) (fs:List (Str×V))
  |own (x:Addr)
  |xd (fs:List (Str×V))
  |met (f x:Addr)
  |rng (lo hi:Int)
  |frz (o:Obj) (u:HO)
  |tbl (ps:Array a9)
  |ext (φ:Heap->Prop)
abbrev Hp:=Addr->Option HO
noncomputable def upd (H:Hp)(a:Addr)(o:HO):Hp:=λb=>if b=a then some o else H b
theorem aM:upd H a o a=some o:=by unfold upd;rw[if_pos rfl]
theorem bz (h:b≠a):upd H a o b=H b:=by unfold upd;rw[if_neg h]
theorem K7 {H:Hp}{a b:Addr}{o u:HO}(h:H a=some o)(h':H b=some u)(d:o≠u):a≠b:=by
 intro e;subst e;rw[h] at h';exact d<|dE h'
theorem m9 {H:Hp}{a b:Addr}{o:HO}(h:H a=some o)(h':H b=none):a≠b:=by
 intro e;subst e;rw[h] at h';cases h'
mutual
inductive Bc (T:Addr->List V->Prop)(H:Hp):Nat->V->Kt->Prop where
 |k {n:Nat} {x:Key}:Bc T H n (kV x) (.k x)
 |t {n:Nat} {b:Addr} {vs:List V} {ks:List Kt}:(H b=some (.tup vs)\/T b vs)->tD T H n vs ks->Bc T H (n+1) (.ref b) (.t ks)
inductive tD (T:Addr->List V->Prop)(H:Hp):Nat->List V->List Kt->Prop where
 |nil {n:Nat}:tD T H n [] []
 |cons {n:Nat} {v:V} {vs:List V} {k:Kt} {ks:List Kt}:Bc T H n v k->tD T H n vs ks->tD T H n (v::vs) (k::ks)
end
def TrT (T:Addr->List V->Prop)(H:Hp)(b:Addr)(ks:List Kt):Prop:=∃vs,(H b=some (.tup vs)\/T b vs)/\tD T H 7 vs ks
section
mutual
theorem Bc.imp (ht:∀b xs,H b=some (.tup xs)->H' b=some (.tup xs)):∀{n:Nat} {v:V} {k:Kt},Bc T H n v k->Bc T H' n v k
 |_,_,_,.k=>.k
 |_,_,_,.t h hs=>.t (h.imp (ht _ _) id)<|tD.imp ht hs
theorem tD.imp (ht:∀b xs,H b=some (.tup xs)->H' b=some (.tup xs)):∀{n:Nat} {vs:List V} {ks:List Kt},tD T H n vs ks->tD T H' n vs ks
 |_,_,_,.nil=>.nil
 |_,_,_,.cons h hs=>.cons (Bc.imp ht h)<|tD.imp ht hs
end
theorem TrT.imp (h:TrT T H b ks)(ht:∀b xs,H b=some (.tup xs)->H' b=some (.tup xs)):TrT T H' b ks:=
 let⟨vs,h1,h2⟩:=h;⟨vs,h1.imp (ht _ _) id,h2.imp ht⟩
end
section
variable (P:cS)(w:gu)
def cU (H:Hp)(h:Heap)(a:Addr):HO->Prop
 | .lst xs=>xs.length<=av/\∃(χ:List a9) (n:Nat),Vals xs χ/\h.get? a=some { cls:=.type "list",data:=.seq χ.toArray n }
 | .tup xs=>xs.length<=av/\∃χ:List a9,Vals xs χ/\IsTup h a χ.toArray
 | .dK ι=>ι.length<=av/\(a==h9)=false/\∃vs,KV ι vs/\h.DictOf (ji P w) a vs
 | .dT T ι=>ι.length<=av/\(a==h9)=false/\∃xs:List (List Kt×Addr×a9),
   ko (λ(p:List Kt×V) (q:List Kt×Addr×a9)=>p.1=q.1/\TrT T H q.2.1 p.1/\RelV p.2 q.2.2) ι xs/\
   ∃o es ep,h.get? a=some o/\o.ExactDict/\o.data=.dict es ep/\es.toList=xs.map (entryOfKey<|jd P w)/\(xs.map (·.1)).Nodup
 | .set S n=>h.SetOf (intKind P w) a S n
 | .ins C dx fs=>H dx=some (.own a)/\fs.length<=1000/\dx≠a/\h.get? a=some (W.instObj C dx)/\
   ∃mA,h.Ns1 dx mA/\(∀f,Bj (fs.lookup f)<|mA f)/\PySem.Within mA (fs.map (·.1))
 | .own _=>∃o,h.get? a=some o
 | .xd fs=>∃mA,h.Ns1 a mA/\∀f,Bj (fs.lookup f)<|mA f
 | .rng lo hi=>∃t u v,h.get? a=some { cls:=.type "range",data:=.fields #[.int lo t,.int hi u,.int 1 v] }
 | .frz o u=>h.get? a=some o/\cU H h a u
 | .tbl ps=>h.get? a=some { cls:=.none,data:=.fields ps }
 | .met f x=>h.get? a=some (W.methodObj (.ref f)<|.ref x)
 | .ext φ=>φ h/\(∃o,h.get? a=some o)/\∀h1 h2:Heap,φ h1->(∀o,h1.get? a=some o->h2.get? a=some o)->φ h2
def HOk (H:Hp)(h:Heap):Prop:=∀a o,H a=some o->cU P w H h a o
end
section
variable {P:cS}{w:gu}{H H':Hp}{h h':Heap}{a:Addr}{o:HO}
theorem cU.lt (x:cU P w H h a o):a<h.objs.size:=by
 cases o with
 |lst xs=>obtain⟨_,_,_,_,e⟩:=x;exact aT e
 |tup xs=>obtain⟨_,_,_,p⟩:=x;exact p.lt
 |dK ι=>obtain⟨_,_,_,_,o,_,_,e,_⟩:=x;exact aT e
 |dT T ι=>obtain⟨_,_,_,_,o,_,_,e,_⟩:=x;exact aT e
 |set S n=>obtain⟨o,_,_,_,e,_⟩:=x;exact aT e
 |ins C dx fs=>obtain⟨_,_,_,e,_⟩:=x;exact aT e
 |own y=>obtain⟨_,e⟩:=x;exact aT e
 |xd fs=>obtain⟨_,⟨_,_,_,e,_⟩,_⟩:=x;exact aT e
 |rng lo hi=>obtain⟨_,_,_,e⟩:=x;exact aT e
 |frz ob u=>obtain⟨e,_⟩:=x;exact aT e
 |tbl ps=>exact aT (show h.get? a=some _ from x)
 |met f y=>exact aT (show h.get? a=some _ from x)
 |ext φ=>obtain⟨_,⟨_,e⟩,_⟩:=x;exact aT e
theorem ko.adx:∀{l₁:List α} {l₂:List β},ko F l₁ l₂->(∀a b,F a b->G a b)->ko G l₁ l₂
 |_,_,.nil,_=>.nil
 |_,_,.cons r t,f=>.cons (f _ _ r)<|ko.adx t f
theorem cU.stay (x:cU P w H h a o)(k:∀b u,(b=a\/H b=some (.own a))->h.get? b=some u->h'.get? b=some u)
  (ho:∀b,H b=some (.own a)->H' b=some (.own a)) (ht:∀b xs,H b=some (.tup xs)->H' b=some (.tup xs)):cU P w H' h' a o:=by
 induction o with
 |lst xs=>obtain⟨z,χ,n,r,e⟩:=x;exact⟨z,χ,n,r,k _ _ (.inl rfl) e⟩
 |tup xs=>obtain⟨z,χ,r,ob,e,c⟩:=x;exact⟨z,χ,r,ob,k _ _ (.inl rfl) e,c⟩
 |dK ι=>obtain⟨z,y,vs,r,ob,es,ep,e,c⟩:=x;exact⟨z,y,vs,r,ob,es,ep,k _ _ (.inl rfl) e,c⟩
 |dT T ι=>
  obtain⟨z,y,xs,r,ob,es,ep,e,c⟩:=x;exact⟨z,y,xs,ko.adx r λp q z=>⟨z.1,z.2.1.imp ht,z.2.2⟩,ob,es,ep,k _ _ (.inl rfl) e,c⟩
 |set S n=>obtain⟨ob,es,ep,t,e,c⟩:=x;exact⟨ob,es,ep,t,k _ _ (.inl rfl) e,c⟩
 |ins C dx fs=>
  obtain⟨d,z,ne,e,mA,⟨od,es,ep,e2,c⟩,r⟩:=x;exact⟨ho _ d,z,ne,k _ _ (.inl rfl) e,mA,⟨od,es,ep,k _ _ (.inr d) e2,c⟩,r⟩
 |own y=>obtain⟨ob,e⟩:=x;exact⟨ob,k _ _ (.inl rfl) e⟩
 |xd fs=>obtain⟨mA,⟨od,es,ep,e,c⟩,r⟩:=x;exact⟨mA,⟨od,es,ep,k _ _ (.inl rfl) e,c⟩,r⟩
 |rng lo hi=>obtain⟨t,u,v,e⟩:=x;exact⟨t,u,v,k _ _ (.inl rfl) e⟩
 |frz ob u ih=>obtain⟨e,q⟩:=x;exact⟨k _ _ (.inl rfl) e,ih q⟩
 |tbl ps=>
  have e:h.get? a=some { cls:=.none,data:=.fields ps }:=x;show h'.get? a=some { cls:=.none,data:=.fields ps };exact k a _ (.inl rfl) e
 |met f y=>
  have e:h.get? a=some (W.methodObj (.ref f)<|.ref y):=x;show h'.get? a=some (W.methodObj (.ref f)<|.ref y);exact k a _ (.inl rfl) e
 |ext φ=>obtain⟨p,⟨o,e⟩,st⟩:=x;exact⟨st _ _ p λo q=>k _ _ (.inl rfl) q,⟨o,k _ _ (.inl rfl) e⟩,st⟩
theorem HOk.lt (x:HOk P w H h)(e:H a=some o):a<h.objs.size:=(x a o e).lt
theorem HOk.fresh (x:HOk P w H h)(e:h.objs.size<=a):H a=none:=by
 cases q:H a with
 |none=>rfl
 |some u=>exact absurd (cx (x.lt q) e) (hV _)
theorem HOk.kept (x:HOk P w H h)(k:∀b u,h.get? b=some u->h'.get? b=some u):HOk P w H h':=λa o e=>
 (x a o e).stay (λb u _ q=>k b u q) (λ_ q=>q) λ_ _ q=>q
theorem HOk.laid (x:HOk P w H h)(k:∀b u,h.get? b=some u->h'.get? b=some u)(hp:h.objs.size<=a)(new:cU P w (upd H a o) h' a o):HOk P w (upd H a o) h':=λb u e=>by
 have hn:=x.fresh hp;by_cases hb:b=a
 ·subst hb;rw[aM] at e;cases e;exact new
 ·rw[bz hb] at e;exact(x b u e).stay (λc v _ q=>k c v q) (λc q=>by rw[bz<|m9 q hn];exact q) λc xs q=>by rw[bz<|m9 q hn];exact q
end
def Rd (H:Hp)(a:Addr)(u:HO):Prop:=H a=some u\/∃o,H a=some (.frz o u)
theorem Rd.ok (r:Rd H a u)(x:HOk P w H h):cU P w H h a u:=by
 rcases r with r|⟨o,r⟩
 ·exact x a u r
 ·obtain⟨_,q⟩:=x a _ r;exact q
def Mut:Option HO->Prop
 |some (.lst _)=>True
 |some (.dK _)=>True
 |some (.dT _ _)=>True
 |some (.set _ _)=>True
 |some (.ins _ _ _)=>True
 |some (.ext _)=>True
 |_=>False
section
theorem HOk.write (ok:HOk P w H h)(mu:Mut (H x))(he:e=x\/H e=some (.own x))(k:∀b u,b≠e->h.get? b=some u->h'.get? b=some u)(heo:∃u,h'.get? e=some u)
  (new:cU P w (upd H x o') h' x o'):HOk P w (upd H x o') h':=λb u q=>by
 have nown:∀c y,H c=some (.own y)->c≠x:=λc y r z=>by subst z;rw[r] at mu;exact mu
 have ntup:∀c xs,H c=some (.tup xs)->c≠x:=λc xs r z=>by subst z;rw[r] at mu;exact mu
 by_cases hb:b=x
 ·subst hb;rw[aM] at q;cases q;exact new
 ·rw[bz hb] at q;by_cases hbe:b=e
  ·have q':H b=some (.own x):=by
    rcases he with z|z
    ·exact absurd (hbe.trans z) hb
    ·rw[hbe];exact z
   rw[q] at q';cases q';obtain⟨v,hv⟩:=heo;exact⟨v,by rw[hbe];exact hv⟩
  ·refine(ok b u q).stay (λc v hc r=>k c v ?_ r) (λc r=>by rw[bz<|nown c b r];exact r) λc xs r=>by rw[bz<|ntup c xs r];exact r
   rcases hc with rfl|hc
   ·exact hbe
   ·rintro rfl;rcases he with z|z
    ·exact nown c b hc z
    ·rw[hc] at z;cases z;exact hb rfl
end
structure Un (fs ex:List Addr)(H H':Hp)(h h':Heap):Prop where
 keep:∀b o,h.get? b=some o->H b=none->b∉fs->b∉ex->h'.get? b=some o
 slot:∀b o,h.get? b=some o->H b=none->b∈fs->b∉ex->∃sl,h'.get? b=some { o with slots:=sl }
 free:∀b o,h.get? b=some o->H b=none->b∉ex->H' b=none
 there:∀b o,h.get? b=some o->b∉ex->∃o',h'.get? b=some o'
 tups:∀b xs,H b=some (.tup xs)->H' b=some (.tup xs)
 frzs:∀b o u,H b=some (.frz o u)->H' b=some (.frz o u)
 tbls:∀b ps,H b=some (.tbl ps)->∃more,H' b=some (.tbl (ps++more))
section
variable {fs fs' ex ex':List Addr}{H H1 H2:Hp}{h h1 h2 h':Heap}{a x e:Addr}{o:HO}
theorem Un.any (u:Un fs ex H H1 h h1){b:Addr}{ob:Obj}(q:h.get? b=some ob)(n:H b=none)(hx:b∉ex):∃sl,h1.get? b=some { ob with slots:=sl }:=by
 by_cases hb:b∈fs
 ·exact u.slot b ob q n hb hx
 ·exact⟨ob.slots,u.keep b ob q n hb hx⟩
theorem Un.kept (k:∀b u,h.get? b=some u->h'.get? b=some u):Un fs ex H H h h':=
 ⟨λb ob q _ _ _=>k b ob q,λb ob q _ _ _=>⟨ob.slots,k b ob q⟩,λ_ _ _ n _=>n,λb ob q _=>⟨ob,k b ob q⟩,λ_ _ q=>q,λ_ _ _ q=>q,λ_ ps q=>⟨#[],by rw[q];simp⟩⟩
theorem Un.refl:Un fs ex H H h h:=Un.kept λ_ _ q=>q
theorem Un.laid (k:∀b u,h.get? b=some u->h'.get? b=some u)(hp:h.objs.size<=a)(hn:H a=none):Un fs ex H (upd H a o) h h' where
 keep:=λb u q _ _ _=>k b u q
 slot:=λb u q _ _ _=>⟨u.slots,k b u q⟩
 free:=λb u q n _=>by rw[bz<|c6<|cx (aT q) hp];exact n
 there:=λb u q _=>⟨u,k b u q⟩
 tups:=λb xs q=>by rw[bz<|m9 q hn];exact q
 frzs:=λb u xs q=>by rw[bz<|m9 q hn];exact q
 tbls:=λb ps q=>⟨#[],by rw[bz<|m9 q hn,q];simp⟩
theorem Un.write (mu:Mut (H x))(he:e=x\/H e=some (.own x))(k:∀b u,b≠e->h.get? b=some u->h'.get? b=some u)(heo:∃u,h'.get? e=some u):Un fs ex H (upd H x o) h h':=by
 have hx:∀b,H b=none->b≠x:=λb n z=>by subst z;rw[n] at mu;exact mu
 have hb:∀b,H b=none->b≠e:=λb n z=>by
  subst z;rcases he with r|r
  ·exact hx b n r
  ·rw[n] at r;cases r
 have hm:∀b u,H b=some u->¬Mut (some u)->b≠x:=λb u q nm z=>by subst z;rw[q] at mu;exact nm mu
 refine⟨λb u q n _ _=>k b u (hb b n) q,λb u q n _ _=>⟨u.slots,k b u (hb b n) q⟩,λb u q n _=>by rw[bz<|hx b n];exact n,λb u q _=>?_,
  λb xs q=>by rw[bz<|hm b _ q λz=>z];exact q,λb u xs q=>by rw[bz<|hm b _ q λz=>z];exact q,λb ps q=>⟨#[],by rw[bz<|hm b _ q λz=>z,q];simp⟩⟩
 by_cases hbe:b=e
 ·subst hbe;exact heo
 ·exact⟨u,k b u hbe q⟩
end
noncomputable def trk (h:Heap)(H:Hp):List Addr:=(bp h.objs.size).filter λa=>(H a).isSome
def KN (h:Heap)(H:Hp):Heap:=W.hideAll h<|trk h H
theorem VH (h:Heap)(H:Hp):(KN h H).objs.size=h.objs.size:=W.hideAll_size _ _
theorem YF (e:h.get? b=some o)(n:H b=none):(KN h H).get? b=some o:=
 W.hideAll_get _ e λhm=>by
  have q:(H b).isSome=true:=(fq.mp hm).2;rw[n] at q;simp at q
theorem aa7 (e:(KN h H).get? b=some o):h.get? b=some o/\H b=none:=by
 have e':h.get? b=some o:=W.of_hideAll (trk h H) e;refine⟨e',?_⟩;cases q:H b with
 |none=>rfl
 |some x=>
  have hm:b∈trk h H:=fq.mpr ⟨jS.mpr<|aT e',by simp[q]⟩;have z:(KN h H).get? b=none:=W.hideAll_none (trk h H) hm;rw[z] at e;cases e
structure Mod (K:bq)(mg:Zp)(base:Heap):Prop where
 kin:K.In base
 glob:base.Ns gy mg
 blt:∃mb,base.Ns builtinsNs mb/\∀x:Str,x≠"__name__"->mb x=dQ x
 nolimit:base.NoLimit
structure Cx where
 prog:cS
 w:gu
 K:bq
 mg:Zp
 base:Heap
 A:i7
 N:List Str
 s₀:bE
 H₀:Hp
 env:Env
 outer:List Env
 stack:List Env
 ex:List Addr
 fn:Str->Bool
 calm:Bool
 pn:Zl
 xe:Zs
noncomputable def frs (l:List Env):List Addr:=l.filterMap (·.frame)
abbrev Cx.fs (X:Cx):List Addr:=frs X.outer
def Vis (sc:zd)(x:Str):Prop:=sc.names.lookup x=some .local\/sc.names.lookup x=some .cell\/sc.names.lookup x=some .free
def Loc (sc:zd)(x:Str):Prop:=sc.names.lookup x=some .local\/sc.names.lookup x=some .cell
def Look (env:Env)(h:Heap)(m:Zp)(x:Str)(u:a9):Prop:=
 (env.kindOf x=some .local/\m x=some u)\/((env.kindOf x=some .cell\/env.kindOf x=some .free)/\∃c,env.cells.lookup x=some c/\h.IsCell c (some u))
structure Cx.Ok (X:Cx):Prop where
 mod:Mod X.K X.mg X.base
 kind:X.env.scope.kind=.function
 glob:X.env.globals=gy
 blt:X.env.builtins=builtinsNs
 above:X.s₀.heap.objs.size<=X.env.locals
 inj:∀x y c,X.env.cells.lookup x=some c->X.env.cells.lookup y=some c->x=y
 has:∀x,(X.env.kindOf x=some .cell\/X.env.kindOf x=some .free)->∃c,X.env.cells.lookup x=some c
 cab:∀x c,X.fn x=true->X.env.cells.lookup x=some c->X.s₀.heap.objs.size<=c
 hd:X.calm=true->X.A.handled=none
 frames:X.A.frames=some X.stack
 stk:X.stack=X.outer\/(X.stack=X.env::X.outer/\X.env.frame=some X.env.locals)
 exf:∀b∈X.ex,b≠X.env.locals/\∀x c,X.env.cells.lookup x=some c->c≠b
 bs:∀b o,X.base.get? b=some o->X.s₀.heap.get? b=some o/\X.H₀ b=none
 bsz:X.base.objs.size<=X.s₀.heap.objs.size
 noex:∀b o,X.base.get? b=some o->b∉X.ex
 exfs:∀b∈X.ex,b∉X.fs
 G7:X.s₀.heap.FunFrames X.base X.outer
 frf:∀b∈X.fs,X.H₀ b=none
structure Inv (X:Cx)(π:Zl)(σ:List (Option V))(H:Hp)(s:bE):Prop where
 ok:X.Ok
 os:s.os=X.s₀.os
 bare:vT s.gens
 base:Un X.fs X.ex X.H₀ H X.s₀.heap s.heap
 loc:∃m,s.heap.Ns X.env.locals m/\∀(i:Nat) (x:Str) (v:V),X.N[i]? = some x->σ[i]? = some (some v)->Vis X.env.scope x->∃u,RelV v u/\Look X.env s.heap m x u
 cell:∀x c,X.env.cells.lookup x=some c->∃v,s.heap.IsCell c v
 free:H X.env.locals=none
 freeC:∀x c,X.env.cells.lookup x=some c->H c=none
 pin:∀p∈X.pn++π,s.heap.get? p.1=some p.2/\H p.1=none/\p.1≠X.env.locals/\p.1∉X.fs/\∀v,p.2.data≠.cell v
 hok:HOk X.prog X.w H s.heap
 len:σ.length=X.N.length
section
variable {X:Cx}{π:Zl}{σ:List (Option V)}{H H':Hp}{s:bE}{h':Heap}
theorem Cx.Ok.agX (ok:X.Ok){b:Addr}{o:Obj}(e:X.base.get? b=some o):b∉X.fs:=λhb=>by
 have:=(ok.G7.mem hb).1
 rw[e] at this;cases this
theorem Inv.bs (I:Inv X π σ H s):∀b o,X.base.get? b=some o->s.heap.get? b=some o/\H b=none:=λb o e=>
 ⟨I.base.keep b o (I.ok.bs b o e).1 (I.ok.bs b o e).2 (I.ok.agX e)<|I.ok.noex b o e,I.base.free b o (I.ok.bs b o e).1 (I.ok.bs b o e).2<|I.ok.noex b o e⟩
theorem Inv.bk (I:Inv X π σ H s):∀b o,X.base.get? b=some o->s.heap.get? b=some o:=λb o e=>(I.bs b o e).1
theorem Inv.mod (I:Inv X π σ H s):Mod X.K X.mg X.base:=I.ok.mod
theorem Inv.kIn (I:Inv X π σ H s):X.K.In s.heap:=I.ok.mod.kin.keeps I.bk
theorem Inv.lt (I:Inv X π σ H s):X.env.locals<s.heap.objs.size:=let⟨_,hn,_⟩:=I.loc;hn.lt
theorem Inv.sz (I:Inv X π σ H s):X.s₀.heap.objs.size<=s.heap.objs.size:=gz I.ok.above<|A7 I.lt
theorem Inv.ahq (I:Inv X π σ H s){a:Addr}(h:s.heap.objs.size<=a):a∉X.fs:=λhb=>by
 obtain⟨_,o,ho,_⟩:=I.ok.G7.mem hb;exact absurd (cx (aT ho)<|gz I.sz h)<|hV _
theorem Inv.cne (I:Inv X π σ H s):∀x c,X.env.cells.lookup x=some c->c≠X.env.locals:=λx c e z=>by
 obtain⟨v,o,ho,hd⟩:=I.cell x c e;obtain⟨m,⟨o',es,ep,ho',hd',_⟩,_⟩:=I.loc;rw[z,ho'] at ho;cases ho;rw[hd'] at hd;cases hd
theorem Inv.G7 (I:Inv X π σ H s):s.heap.FunFrames X.base X.outer:=by
 have all:∀(l:List Env),(∀b∈frs l,b∈X.fs)->X.s₀.heap.FunFrames X.base l->s.heap.FunFrames X.base l:=by
  intro l;induction l with
  |nil=>intro _ _;trivial
  |cons env r ih=>
   intro hs hl;obtain⟨hk,⟨L,o,hf,hn,ho,hd⟩,hr⟩:=hl;have hL:L∈X.fs:=hs L (by unfold frs;rw[nK,hf];exact af);obtain⟨sl,e⟩:=I.base.slot L o ho (I.ok.frf L hL) hL λz=>I.ok.exfs L z hL;exact⟨hk,⟨L,_,hf,hn,e,hd⟩,ih (λb hb=>hs b (by unfold frs;rw[nK,hf];exact ae _ hb)) hr⟩
 exact all X.outer (λ_ hb=>hb) I.ok.G7
theorem Inv.stack (I:Inv X π σ H s):s.heap.FunFrames X.base X.stack:=by
 rcases I.ok.stk with e|⟨e,hf⟩
 ·rw[e];exact I.G7
 ·rw[e];obtain⟨m,hn,_⟩:=I.loc;refine .cons (by rw[I.ok.kind];decide) hf hn ?_ I.G7;exact Heap.get?_none_of_le<|gz I.ok.bsz I.ok.above
theorem Inv.J4 (I:Inv X π σ H s):∀b∈frs X.stack,b∈X.env.locals::X.fs:=λb hb=>by
 rcases I.ok.stk with e|⟨e,hf⟩
 ·rw[e] at hb;exact ae _ hb
 ·rw[e] at hb;unfold frs at hb;rw[nK,hf] at hb;exact hb
theorem Inv.Ua (I:Inv X π σ H s):∀b∈frs X.stack,H b=none:=λb hb=>by
 rcases aE.mp (I.J4 b hb) with e|hb
 ·rw[e];exact I.free
 ·obtain⟨_,o,ho,_⟩:=I.ok.G7.mem hb;exact I.base.free b o ho (I.ok.frf b hb) λz=>I.ok.exfs b z hb
theorem Inv.step {g':Array sQ}{t':Nat}{d':Drawn}{ch:List Addr}(I:Inv X π σ H s)
  (hch:∀b∈ch,(b∈X.ex\/X.s₀.heap.objs.size<=b)/\b≠X.env.locals/\(∀x c,X.env.cells.lookup x=some c->c≠b)/\∀p∈X.pn++π,p.1≠b)
  (keep:∀b o,b≠X.env.locals->b∉X.fs->b∉ch->s.heap.get? b=some o->H b=none->h'.get? b=some o)
  (slot:∀b o,b≠X.env.locals->b∈X.fs->b∉ch->s.heap.get? b=some o->H b=none->∃sl,h'.get? b=some { o with slots:=sl }) (free:∀b o,b∉ch->s.heap.get? b=some o->H b=none->H' b=none)
  (there:∀b o,b∉ch->s.heap.get? b=some o->∃o',h'.get? b=some o')
  (tups:∀b xs,H b=some (.tup xs)->H' b=some (.tup xs)) (frzs:∀b o u,H b=some (.frz o u)->H' b=some (.frz o u)) (tbls:∀b ps,H b=some (.tbl ps)->∃more,H' b=some (.tbl<|ps++more))
  (ns:∀m,s.heap.Ns X.env.locals m->h'.Ns X.env.locals m) (hok:HOk X.prog X.w H' h') (hg:vT g'):
  Inv X π σ H' { s with heap:=h',gens:=g',drawn:=d',toks:=t' }:=by
 have neL:∀b o,X.s₀.heap.get? b=some o->b≠X.env.locals:=λb o e=>c6<|cx (aT e) I.ok.above;have neC:∀b o,X.s₀.heap.get? b=some o->b∉X.ex->b∉ch:=λb o e hx hb=>by
  rcases(hch b hb).1 with z|z
  ·exact hx z
  ·exact absurd (cx (aT e) z)<|hV _
 have cellK:∀x c,X.env.cells.lookup x=some c->∀v,s.heap.IsCell c v->h'.IsCell c v:=λx c e v ⟨o,ho,hd⟩=>by
  have nch:c∉ch:=λz=>(hch c z).2.2.1 x c e rfl;by_cases hc:c∈X.fs
  ·obtain⟨sl,q⟩:=slot c o (I.cne x c e) hc nch ho<|I.freeC x c e;exact⟨_,q,hd⟩
  ·exact⟨o,keep c o (I.cne x c e) hc nch ho<|I.freeC x c e,hd⟩
 refine⟨I.ok,I.os,hg,⟨λb o e n hb hx=>?_,λb o e n hb hx=>?_,λb o e n hx=>?_,λb o e hx=>?_,λb xs e=>tups b xs<|I.base.tups b xs e,λb o xs e=>frzs b o xs<|I.base.frzs b o xs e,λb ps e=>?_⟩,?_,λx c e=>?_,?_,λx c e=>?_,λp hp=>?_,hok,I.len⟩
 ·exact keep b o (neL b o e) hb (neC b o e hx) (I.base.keep b o e n hb hx)<|I.base.free b o e n hx
 ·obtain⟨sl,e1⟩:=I.base.slot b o e n hb hx;obtain⟨sl',e2⟩:=slot b _ (neL b o e) hb (neC b o e hx) e1<|I.base.free b o e n hx;exact⟨sl',e2⟩
 ·obtain⟨o',e1⟩:=I.base.there b o e hx;exact free b o' (neC b o e hx) e1<|I.base.free b o e n hx
 ·obtain⟨o',e1⟩:=I.base.there b o e hx;exact there b o' (neC b o e hx) e1
 ·obtain⟨m1,e1⟩:=I.base.tbls b ps e;obtain⟨m2,e2⟩:=tbls b _ e1;exact⟨m1++m2,by rw[e2,AI]⟩
 ·obtain⟨m,hn,hl⟩:=I.loc;refine⟨m,ns m hn,λi x v e1 e2 e3=>?_⟩;obtain⟨u,r,l⟩:=hl i x v e1 e2 e3;refine⟨u,r,?_⟩;rcases l with l|⟨k,c,e,z⟩
  ·exact .inl l
  ·exact .inr ⟨k,c,e,cellK x c e _ z⟩
 ·obtain⟨v,z⟩:=I.cell x c e;exact⟨v,cellK x c e v z⟩
 ·obtain⟨m,⟨o,_,_,ho,_⟩,_⟩:=I.loc;exact free _ o (λz=>(hch _ z).2.1 rfl) ho I.free
 ·obtain⟨v,o,ho,hd⟩:=I.cell x c e;exact free c o (λz=>(hch c z).2.2.1 x c e rfl) ho<|I.freeC x c e
 ·refine Ci (I.pin p hp) λe n ne nf d=>?_;have nch:p.1∉ch:=λz=>(hch p.1 z).2.2.2 p hp rfl;exact⟨keep p.1 p.2 ne nf nch e n,free p.1 p.2 nch e n,ne,nf,d⟩
theorem Inv.un {t':Nat}(I:Inv X π σ H s)(u:Un X.fs [] H H' s.heap h')(hok:HOk X.prog X.w H' h'):Inv X π σ H' { s with heap:=h',toks:=t' }:=by
 obtain⟨m,⟨o,es,ep,ho,r⟩,_⟩:=id I.loc;obtain⟨sl,hL⟩:=u.any ho I.free (by simp);exact I.step (g':=s.gens) (d':=s.drawn) (ch:=[]) (λ_ z=>nomatch z) (λb o _ hb _ e n=>u.keep b o e n hb<|by simp) (λb o _ hb _ e n=>u.slot b o e n hb<|by simp) (λb o _ e n=>u.free b o e n<|by simp) (λb o _ e=>u.there b o e<|by simp) u.tups u.frzs u.tbls (λm' hm=>by
  refine HN hm λo' es' ep' ho' r'=>?_;rw[ho] at ho';cases ho';exact⟨_,es',ep',hL,r'⟩) hok I.bare
theorem Inv.call {g':Array sQ}{t':Nat}{d':Drawn}{ch:List Addr}(I:Inv X π σ H s)(u:Un (frs X.stack) ch H H' s.heap h')(hok:HOk X.prog X.w H' h')(hg:vT g')
  (hch:∀b∈ch,(b∈X.ex\/X.s₀.heap.objs.size<=b)/\b≠X.env.locals/\(∀x c,X.env.cells.lookup x=some c->c≠b)/\∀p∈X.pn++π,p.1≠b):
  Inv X π σ H' { s with heap:=h',gens:=g',drawn:=d',toks:=t' }:=by
 obtain⟨m,⟨o,es,ep,ho,r⟩,_⟩:=id I.loc;obtain⟨sl,hL⟩:=u.any ho I.free λz=>(hch _ z).2.1 rfl;exact I.step (ch:=ch) hch (λb o hL hb hc e n=>u.keep b o e n (λz=>(aE.mp<|I.J4 b z).elim hL hb) hc) (λb o _ _ hc e n=>u.any e n hc) (λb o hc e n=>u.free b o e n hc) (λb o hc e=>u.there b o e hc) u.tups u.frzs u.tbls (λm' hm=>by
  refine HN hm λo' es' ep' ho' r'=>?_;rw[ho] at ho';cases ho';exact⟨_,es',ep',hL,r'⟩) hok hg
theorem Inv.turned {t':Nat}{it:Addr}(I:Inv X π σ H s)(k:∀b o,b≠it->s.heap.get? b=some o->h'.get? b=some o)(hn:H it=none)(hL:it≠X.env.locals)
  (h1:it∈X.ex\/X.s₀.heap.objs.size<=it) (h2:∀x c,X.env.cells.lookup x=some c->c≠it) (h3:∀p∈X.pn++π,p.1≠it):Inv X π σ H { s with heap:=h',toks:=t' }:=by
 have nit:∀b u,H b=some u->b≠it:=λb u e z=>by rw[z,hn] at e;cases e
 refine I.step (g':=s.gens) (d':=s.drawn) (ch:=[it]) (λb hb=>?_) (λb o _ _ hc e _=>k b o (λz=>hc<|by simp[z]) e) (λb o _ _ hc e _=>⟨o.slots,k b o (λz=>hc<|by simp[z]) e⟩) (λ_ _ _ _ n=>n)
  (λb o hc e=>⟨o,k b o (λz=>hc<|by simp[z]) e⟩) (λ_ _ e=>e) (λ_ _ _ e=>e) (λb ps e=>⟨#[],by rw[e];simp⟩) (λm hm=>?_) (λb u e=>?_) I.bare
 ·have e:b=it:=by simpa using hb
  subst e;exact⟨h1,hL,h2,h3⟩
 ·refine HN hm λo es ep ho r=>?_;exact⟨o,es,ep,k _ o (eK hL) ho,r⟩
 ·refine(I.hok b u e).stay (λc v hc q=>k c v ?_ q) (λ_ q=>q) λ_ _ q=>q;rcases hc with z|z
  ·rw[z];exact nit b u e
  ·exact nit c _ z
theorem Inv.tok (I:Inv X π σ H s)(t:Nat):Inv X π σ H { s with toks:=t }:=I.un (h':=s.heap) (t':=t) Un.refl I.hok
theorem Inv.kept (I:Inv X π σ H s)(k:∀b u,s.heap.get? b=some u->h'.get? b=some u):Inv X π σ H { s with heap:=h',toks:=t' }:=I.un (Un.kept k)<|I.hok.kept k
theorem Inv.laid (I:Inv X π σ H s)(k:∀b u,s.heap.get? b=some u->h'.get? b=some u)(hp:s.heap.objs.size<=a)(new:cU X.prog X.w (upd H a o) h' a o):
  Inv X π σ (upd H a o) { s with heap:=h',toks:=t' }:=I.un (Un.laid k hp<|I.hok.fresh hp)<|I.hok.laid k hp new
theorem Inv.write (I:Inv X π σ H s)(mu:Mut (H x))(he:e=x\/H e=some (.own x))(k:∀b u,b≠e->s.heap.get? b=some u->h'.get? b=some u)(heo:∃u,h'.get? e=some u)
  (new:cU X.prog X.w (upd H x o) h' x o):Inv X π σ (upd H x o) { s with heap:=h',toks:=t' }:=I.un (Un.write mu he k heo)<|I.hok.write mu he k heo new
theorem Inv.weak (I:Inv X π σ H s)(hl:σ'.length=σ.length)(w:∀(i:Nat) v,σ'[i]? = some (some v)->σ[i]? = some (some v)):Inv X π σ' H s:=
 ⟨I.ok,I.os,I.bare,I.base,let⟨m,hn,hl'⟩:=I.loc;⟨m,hn,λi x v e1 e2 e3=>hl' i x v e1 (w i v e2) e3⟩,I.cell,I.free,I.freeC,I.pin,I.hok,hl.trans I.len⟩
theorem Inv.RW (I:Inv X π σ H s)(h:∀p∈pins',s.heap.get? p.1=some p.2/\H p.1=none/\p.1≠X.env.locals/\p.1∉X.fs/\∀v,p.2.data≠.cell v):Inv X pins' σ H s:=
 ⟨I.ok,I.os,I.bare,I.base,I.loc,I.cell,I.free,I.freeC,λp hp=>(cq.mp hp).elim (λz=>I.pin p<|dy _ z)<|h p,I.hok,I.len⟩
theorem Mj {N:List Str}(hN:N.Nodup){i j:Nat}{x:Str}(a:N[i]? = some x)(b:N[j]? = some x):i=j:=by
 obtain⟨h1,e1⟩:=fT.mp a;obtain⟨h2,e2⟩:=fT.mp b;exact(List.getElem_inj hN).mp (e1.trans e2.symm)
theorem HX (I:Inv X π σ H s)(hN:X.N.Nodup)(hi:X.N[i]? = some x)(hx:Loc X.env.scope x)(r:RelV v u)
  (h:∀s',Inv X π (σ.set i<|some v) H s'->(∃a,hJ a s.heap s'.heap/\(a=X.env.locals\/X.env.cells.lookup x=some a))->Q () s') (hf:X.fn x=true\/X.env.scope.names.lookup x=some .local:=by first|exact .inl rfl|exact .inr rfl|assumption):b9 M A (storeName X.env x u) Q E s:=by
 obtain⟨m,hn,hl⟩:=id I.loc;have hcls:(X.env.scope.kind==.class||(X.env.scope.kind==.module&&X.env.locals != X.env.globals))=false:=by rw[I.ok.kind];rfl
 have hiσ:i<σ.length:=by rw[I.len];exact(fT.mp hi).1
 have cne:=I.cne;have tracked:∀{a:Addr} {h':Heap},(∃o,s.heap.get? a=some o/\H a=none)->hJ a s.heap h'->HOk X.prog X.w H h':=λ{a h'} ha hs b ob e=>by
  obtain⟨_,_,hfree⟩:=ha;refine(I.hok b ob e).stay (λc w' hc q=>(hs.2 c ?_).trans q) (λ_ q=>q) λ_ _ q=>q;rintro rfl;rcases hc with rfl|hc
  ·rw[hfree] at e;cases e
  ·rw[hfree] at hc;cases hc
 rcases hx with hk|hk
 ·refine wpAny_storeName_local hk hn (λh' hn' hs=>?_) hcls;refine HN (id hn) λoL _ _ hoL _=>?_;refine h _ ⟨I.ok,I.os,I.bare,⟨λb o e n hb hx=>?_,λb o e n hb hx=>?_,I.base.free,λb o e hx=>?_,I.base.tups,I.base.frzs,I.base.tbls⟩,⟨_,hn',λj y v' e1 e2 e3=>?_⟩,λy c e=>?_,I.free,I.freeC,λp hp=>?_,tracked ⟨oL,hoL,I.free⟩ hs,by simpa using I.len⟩ ⟨_,hs,.inl rfl⟩
  ·exact(hs.2 b<|c6<|cx (aT e) I.ok.above).trans (I.base.keep b o e n hb hx)
  ·obtain⟨sl,e1⟩:=I.base.slot b o e n hb hx;exact⟨sl,(hs.2 b<|c6<|cx (aT e) I.ok.above).trans e1⟩
  ·obtain⟨o',e1⟩:=I.base.there b o e hx;exact⟨o',(hs.2 b<|c6<|cx (aT e) I.ok.above).trans e1⟩
  ·by_cases hj:j=i
   ·subst hj;rw[hi] at e1;cases e1;rw[bP hiσ] at e2;cases e2;exact⟨u,r,.inl ⟨hk,by simp⟩⟩
   ·rw[cp<|eK hj] at e2;obtain⟨u',r',q⟩:=hl j y v' e1 e2 e3;refine⟨u',r',?_⟩;rcases q with⟨k,e⟩|⟨k,c,e,z⟩
    ·refine .inl ⟨k,?_⟩
     have:y≠x:=λe=>hj<|Mj hN e1<|e▸hi
     simp[this,e]
    ·exact .inr ⟨k,c,e,z.sameBut hs<|cne y c e⟩
  ·obtain⟨w',z⟩:=I.cell y c e;exact⟨w',z.sameBut hs<|cne y c e⟩
  ·refine Ci (I.pin p hp) λe n ne nf d=>?_;exact⟨(hs.2 p.1 ne).trans e,n,ne,nf,d⟩
 ·have hfn:X.fn x=true:=by
   rcases hf with z|z
   ·exact z
   ·rw[z] at hk;cases hk
  obtain⟨c,hc⟩:=I.ok.has x<|.inl hk;obtain⟨w',z⟩:=I.cell x c hc;refine wpAny_storeName_cell I.ok.kind hk hc z λh' hc' hs=>?_;obtain⟨oc,hoc,hocd⟩:=id z;refine h { s with heap:=h' } ⟨I.ok,I.os,I.bare,⟨λb o e n hb hx=>?_,λb o e n hb hx=>?_,I.base.free,λb o e hx=>?_,I.base.tups,I.base.frzs,I.base.tbls⟩,⟨m,hn.sameBut hs<|eK<|cne x c hc,λj y v' e1 e2 e3=>?_⟩,λy c' e=>?_,I.free,I.freeC,λp hp=>?_,tracked ⟨oc,hoc,I.freeC x c hc⟩ hs,by simpa using I.len⟩ ⟨c,hs,.inr hc⟩
  ·exact(hs.2 b<|c6<|cx (aT e)<|I.ok.cab x c hfn hc).trans (I.base.keep b o e n hb hx)
  ·obtain⟨sl,e1⟩:=I.base.slot b o e n hb hx;exact⟨sl,(hs.2 b<|c6<|cx (aT e)<|I.ok.cab x c hfn hc).trans e1⟩
  ·obtain⟨o',e1⟩:=I.base.there b o e hx;exact⟨o',(hs.2 b<|c6<|cx (aT e)<|I.ok.cab x c hfn hc).trans e1⟩
  ·by_cases hj:j=i
   ·subst hj;rw[hi] at e1;cases e1;rw[bP hiσ] at e2;cases e2;exact⟨u,r,.inr ⟨.inl hk,c,hc,hc'⟩⟩
   ·rw[cp<|eK hj] at e2;obtain⟨u',r',q⟩:=hl j y v' e1 e2 e3;refine⟨u',r',?_⟩;rcases q with q|⟨k,c',e,z'⟩
    ·exact .inl q
    ·refine .inr ⟨k,c',e,z'.sameBut hs ?_⟩;rintro rfl;exact hj<|Mj hN e1<|I.ok.inj _ _ _ e hc▸hi
  ·by_cases hcc:c'=c
   ·subst hcc;exact⟨_,hc'⟩
   ·obtain⟨w2,z2⟩:=I.cell y c' e;exact⟨w2,z2.sameBut hs hcc⟩
  ·refine Ci (I.pin p hp) λe n ne nf d=>?_;refine⟨(hs.2 p.1 ?_).trans e,n,ne,nf,d⟩;intro q;rw[q,hoc] at e;have q':oc=p.2:=dE e;exact d w' (by rw[← q'];exact hocd)
theorem yR (I:Inv X π σ H s)(hN:X.N.Nodup)(hi:X.N[i]? = some x)(hx:Loc X.env.scope x)(r:RelV v u)
  (h:∀s',Inv X π (σ.set i<|some v) H s'->Q () s') (hf:X.fn x=true\/X.env.scope.names.lookup x=some .local:=by first|exact .inl rfl|exact .inr rfl|assumption):b9 M A (storeName X.env x u) Q E s:=
 HX I hN hi hx r (λs' I' _=>h s' I') hf
theorem Inv.call' (I:Inv X π σ H s)(ho:s'.os=s.os)(u:Un (frs X.stack) ch H H' s.heap s'.heap)(hok:HOk X.prog X.w H' s'.heap)(hg:vT s'.gens)
  (hch:∀b∈ch,(b∈X.ex\/X.s₀.heap.objs.size<=b)/\b≠X.env.locals/\(∀x c,X.env.cells.lookup x=some c->c≠b)/\∀p∈X.pn++π,p.1≠b):Inv X π σ H' s':=by
 obtain⟨h',g',d',t',o'⟩:=s';have e:o'=s.os:=ho;subst e;exact I.call (g':=g') (t':=t') (d':=d') u hok hg hch
end
abbrev XK:=a9->Option Addr->Hp->Prop
abbrev St:=List<|Option V
abbrev VK:=V->Hp->Prop
abbrev TE:=St->Hp->VK->Prop
abbrev TT:=St->Hp->(Bool->Hp->Prop)->Prop
abbrev TA:=St->Hp->(List V->Hp->Prop)->Prop
structure Ends where
 nx:St->Hp->Prop
 rt:VK
 bk:St->Hp->Prop:=λ_ _=>False
 ct:St->Hp->Prop:=λ_ _=>False
abbrev TS:=Ends->St->Hp->Prop
def EP (X:Cx)(π:Zl)(σ:St)(Q:VK)(u:a9)(s':bE):Prop:=∃v H',Inv X π σ H' s'/\RelV v u/\Q v H'
def TP (X:Cx)(π:Zl)(σ:St)(Q:Bool->Hp->Prop)(b:Bool)(s':bE):Prop:=∃H',Inv X π σ H' s'/\Q b H'
def AP (X:Cx)(π:Zl)(σ:St)(Q:List V->Hp->Prop)(us:List a9)(s':bE):Prop:=∃vs H',Inv X π σ H' s'/\Vals vs us/\Q vs H'
def SP (X:Cx)(π:Zl)(D:Ends)(f:Flow)(s':bE):Prop:=
 match f with
 | .next=>∃σ' H',Inv X π σ' H' s'/\D.nx σ' H'
 | .brk=>∃σ' H',Inv X π σ' H' s'/\D.bk σ' H'
 | .cont=>∃σ' H',Inv X π σ' H' s'/\D.ct σ' H'
 | .ret u=>∃v σ' H',Inv X π σ' H' s'/\RelV v u/\D.rt v H'
def PE (X:Cx)(e:Expr)(t:TE):Prop:=
 ∀(π:Zl) (s:bE) (σ:St) (H:Hp) (Q:VK),Inv X π σ H s->t σ H Q->b9 (eB X.prog X.w) X.A (eval e X.env) (EP X π σ Q) X.xe s
def PT (X:Cx)(e:Expr)(t:TT):Prop:=
 ∀(π:Zl) (s:bE) (σ:St) (H:Hp) (Q:Bool->Hp->Prop),Inv X π σ H s->t σ H Q->b9 (eB X.prog X.w) X.A (isTrue e X.env<|eval e X.env) (TP X π σ Q) X.xe s
def PW (X:Cx)(e:Expr)(t:TT):Prop:=
 ∀(whole:Sem a9) (π:Zl) (s:bE) (σ:St) (H:Hp) (Q:Bool->Hp->Prop),Inv X π σ H s->t σ H Q->b9 (eB X.prog X.w) X.A (isTrue e X.env whole) (TP X π σ Q) X.xe s
theorem PW.pt (h:PW X e t):PT X e t:=h _
def PA (X:Cx)(es:List Expr)(t:TA):Prop:=
 ∀(pos:Pos) (π:Zl) (s:bE) (σ:St) (H:Hp) (Q:List V->Hp->Prop),Inv X π σ H s->t σ H Q->b9 (eB X.prog X.w) X.A (spliced<|l7 pos<|aS es X.env) (AP X π σ Q) X.xe s
def PS (X:Cx)(st:Stmt)(t:TS):Prop:=
 ∀(π:Zl) (s:bE) (σ:St) (H:Hp) (D:Ends),Inv X π σ H s->t D σ H->b9 (eB X.prog X.w) X.A (exec st X.env) (SP X π D) X.xe s
def PSs (X:Cx)(st:List Stmt)(t:TS):Prop:=
 ∀(π:Zl) (s:bE) (σ:St) (H:Hp) (D:Ends),Inv X π σ H s->t D σ H->b9 (eB X.prog X.w) X.A (execs st X.env) (SP X π D) X.xe s
theorem thn (h:b9 M A t Q E s)(hQ:∀a s,Q a s->Q' a s):b9 M A t Q' E s:=ki h hQ λ_ _ x=>x
section
variable {X:Cx}
def ahb (i:Nat):TE:=λσ H Q=>∃v,σ[i]? = some (some v)/\Q v H
def tC (v:V):TE:=λ_ H Q=>Q v H
theorem m8 (hN:X.N[i]? = some x)(hv:Vis X.env.scope x)(hd:(x==("__debug__":Str))=false:=by decide)(hcd:(x==("__classdict__":Str))=false:=by decide):PE X (.Name x pos) (ahb i):=by
 intro π s σ H Q I h;obtain⟨v,e,h⟩:=h;obtain⟨m,hn,hl⟩:=I.loc;obtain⟨u,r,l⟩:=hl i x v hN e hv;have fin:EP X π σ Q u s:=⟨v,H,I,r,h⟩;rcases l with⟨hk,hm⟩|⟨hk,c,hc,hcell⟩
 ·exact wpAny_Name (wpAny_loadName_local I.ok.kind hk hn hm fin) hd
 ·rcases hk with hk|hk
  ·exact wpAny_Name (wpAny_loadName_cell I.ok.kind hk hc hcell fin) hd
  ·exact wpAny_Name (wpAny_loadName_free I.ok.kind hk hc hcell fin hcd) hd
theorem adH:PE X (.Constant (.int i) j pos) (tC<|.int i):=λ_ _ _ H _ I h=>wpAny_Constant_int ⟨.int i,H,I.tok _,⟨_,rfl⟩,h⟩
theorem afh:PE X (.Constant (.bool b) j pos) (tC<|.bl b):=λ_ _ _ H _ I h=>Constant_bool ⟨.bl b,H,I,rfl,h⟩
theorem aeB:PE X (.Constant (.str x) j pos) (tC<|.str x):=λ_ _ _ H _ I h=>Calls.Constant_str ⟨.str x,H,I.tok _,⟨_,rfl⟩,h⟩
def Gl (X:Cx)(x:Str):Prop:=X.env.kindOf x=some .globalImplicit
theorem Rz (I:Inv X π σ H s)(hg:Gl X x)(hm:X.mg x=some u)(h:Q u s)
  (hd:(x==("__debug__":Str))=false:=by decide):b9 (eB X.prog X.w) X.A (eval (.Name x pos) X.env) Q E s:=
 sL I.ok.kind hg (Calls.loadGlobal_global (by rw[I.ok.glob];exact I.mod.glob.keeps I.bk) hm h) hd
theorem sH (I:Inv X π σ H s)(hg:Gl X x)(hm:X.mg x=none)(hv:dQ x=some u)(h:Q u s)
  (hn:x≠"__name__":=by decide) (hd:(x==("__debug__":Str))=false:=by decide):b9 (eB X.prog X.w) X.A (eval (.Name x pos) X.env) Q E s:=by
 obtain⟨mb,h1,h2⟩:=I.mod.blt;exact sL I.ok.kind hg (Calls.loadGlobal_builtin (by rw[I.ok.glob];exact I.mod.glob.keeps I.bk) hm (by rw[I.ok.blt];exact h1.keeps I.bk) ((h2 x hn).trans hv) h) hd
theorem ZG (hg:Gl X x)(hm:X.mg x=some u)(r:RelV v u)(hd:(x==("__debug__":Str))=false:=by decide):PE X (.Name x pos) (tC v):=
 λ_ _ _ H _ I h=>Rz I hg hm ⟨v,H,I,r,h⟩ hd
theorem aay (hg:Gl X x)(hm:X.mg x=none)(hv:dQ x=some u)(r:RelV v u)(hn:x≠"__name__":=by decide)(hd:(x==("__debug__":Str))=false:=by decide):PE X (.Name x pos) (tC v):=
 λ_ _ _ H _ I h=>sH I hg hm hv ⟨v,H,I,r,h⟩ hn hd
variable {a b:Expr}{ta tb:TE}{pos:Pos}
def PC (X:Cx)(op:CmpOp)(a b:Expr)(t:TE):Prop:=
 ∀(π:Zl) (s:bE) (σ:St) (H:Hp) (Q:VK),Inv X π σ H s->t σ H Q->
  b9 (eB X.prog X.w) X.A (eval a X.env) (λv s₁=>b9 (eB X.prog X.w) X.A (eval b X.env) (λu s₂=>b9 (eB X.prog X.w) X.A (fN op v u) (EP X π σ Q) X.xe s₂) X.xe s₁) X.xe s
theorem agn (b:Expr){op:CmpOp}(h:op≠.In)(h2:op≠.NotIn):lh op b=false:=by
 have e1:(op==CmpOp.In)=false:=by cases op<;>first|rfl|exact absurd rfl h
 have e2:(op==CmpOp.NotIn)=false:=by cases op<;>first|rfl|exact absurd rfl h2
 cases b<;>simp[lh,e1,e2]
def tB (t:TE):TT:=λσ H Q=>t σ H λx H1=>∃c,x=.bl c/\Q c H1
theorem aet (h:PE X e t)(he:∀whole,isTrue e X.env whole=(do let v←whole;standAt e.pos;tq [v] (truthy v)):=by intro _;rfl):PT X e (tB t):=by
 intro π s σ H Q I hw;refine isTrue_plain (thn (h π s σ H _ I hw) λv s1 hE=>xq2 hE λx H1 I1 r1 q1=>?_)<|he _;obtain⟨d,rfl,q⟩:=q1;cases r1;exact mI ⟨H1,I1,q⟩
variable {tA tB':TT}{rest:List Expr}
def ahi (t u:TT):TT:=λσ H Q=>t σ H λc H1=>if c=true then u σ H1 Q else Q false H1
def tOr (t u:TT):TT:=λσ H Q=>t σ H λc H1=>if c=true then Q true H1 else u σ H1 Q
def ahI (t:TT):TT:=λσ H Q=>t σ H λc H1=>Q (!c) H1
theorem acd (ha:PT X a tA):PW X (.BoolOp .And [a] pos) tA:=by
 intro wh π s σ H Q I h;refine isTrue_and<|thn (ha π s σ H Q I h) λc s1 e=>?_;cases c with
 |true=>exact isTrue_and_nil e
 |false=>exact e
theorem ad2 (ha:PT X a tA):PW X (.BoolOp .Or [a] pos) tA:=by
 intro wh π s σ H Q I h;refine isTrue_or<|thn (ha π s σ H Q I h) λc s1 e=>?_;cases c with
 |false=>exact isTrue_or_nil e
 |true=>exact e
theorem ac6 (ha:PT X a tA)(hb:PW X (.BoolOp .And (b::rest) pos) tB'):PW X (.BoolOp .And (a::b::rest) pos) (ahi tA tB'):=by
 intro wh π s σ H Q I h;refine isTrue_and<|thn (ha π s σ H _ I h) λc s1 ⟨H1,I1,q1⟩=>?_;cases c with
 |true=>exact hb wh π s1 σ H1 Q I1 q1
 |false=>exact⟨H1,I1,q1⟩
theorem agf (ha:PT X a tA)(hb:PW X (.BoolOp .Or (b::rest) pos) tB'):PW X (.BoolOp .Or (a::b::rest) pos) (tOr tA tB'):=by
 intro wh π s σ H Q I h;refine isTrue_or<|thn (ha π s σ H _ I h) λc s1 ⟨H1,I1,q1⟩=>?_;cases c with
 |true=>exact⟨H1,I1,q1⟩
 |false=>exact hb wh π s1 σ H1 Q I1 q1
theorem aeU (ha:PT X a tA):PT X (.UnaryOp .Not a pos) (ahI tA):=by
 intro π s σ H Q I h;exact isTrue_not<|ha π s σ H (λc H1=>Q (!c) H1) I h
def ago (ta tb:TE):TE:=λσ H Q=>ta σ H λx H1=>∃c,x=.bl c/\if c=true then tb σ H1 Q else Q (.bl false) H1
def agc (ta:TE):TE:=λσ H Q=>ta σ H λx H1=>∃c,x=.bl c/\Q (.bl<|!c) H1
theorem aeZ (h:PE X a t):PE X (.BoolOp op [a] pos) t:=λπ s σ H Q I hw=>BoolOp_one<|h π s σ H Q I hw
theorem aeQ (ha:PE X a ta)(hb:PE X (.BoolOp .And (b::rest) pos) tb):PE X (.BoolOp .And (a::b::rest) pos) (ago ta tb):=by
 intro π s σ H Q I h;refine BoolOp_and<|thn (ha π s σ H _ I h) λv s1 hE=>xq2 hE λx H1 I1 r1 q1=>?_;obtain⟨c,rfl,q1⟩:=q1;cases r1;refine mI ?_;cases c with
 |true=>exact hb π s1 σ H1 Q I1 q1
 |false=>exact⟨.bl false,H1,I1,rfl,q1⟩
theorem adW (ha:PE X a ta):PE X (.UnaryOp .Not a pos) (agc ta):=by
 intro π s σ H Q I h;refine UnaryOp_<|thn (ha π s σ H _ I h) λv s1 hE=>xq2 hE λx H1 I1 r1 q1=>?_;obtain⟨c,rfl,q1⟩:=q1;cases r1;exact not_of<|mI ⟨.bl<|!c,H1,I1,rfl,q1⟩
def tIf (t:TT)(ta tb:TE):TE:=λσ H Q=>t σ H λc H1=>if c=true then ta σ H1 Q else tb σ H1 Q
theorem Yc (hc:PT X c tA)(ha:PE X a ta)(hb:PE X b tb):PE X (.IfExp c a b pos) (tIf tA ta tb):=by
 intro π s σ H Q I h;refine wpAny_IfExp<|thn (hc π s σ H _ I h) λd s1 ⟨H1,I1,q1⟩=>?_;cases d with
 |true=>exact ha π s1 σ H1 Q I1 q1
 |false=>exact hb π s1 σ H1 Q I1 q1
end
def SqL (K:bq)(H:Hp)(a:Addr)(xs:List V):Prop:=
 Rd H a (.lst xs) ∨
  ∃(o:Obj) (χ:Array a9) (n:Nat),K.lookup a=some o/\o.cls=.type "list"/\o.dict=none/\o.data=.seq χ n/\χ.size<=av/\Vals xs χ.toList
def SqT (K:bq)(H:Hp)(a:Addr)(xs:List V):Prop:=
 Rd H a (.tup xs) ∨
  ∃(o:Obj) (χ:Array a9) (n:Nat),K.lookup a=some o/\o.cls=.type "tuple"/\o.data=.seq χ n/\χ.size<=av/\Vals xs χ.toList
abbrev KTp (K:bq)(a:Addr)(xs:List V):Prop:=
  ∃(o:Obj) (χ:Array a9) (n:Nat),K.lookup a=some o/\o.cls=.type "tuple"/\o.data=.seq χ n/\χ.size<=av/\Vals xs χ.toList
def SqU (K:bq)(H:Hp)(a:Addr)(xs:List V):Prop:=H a=some (.tup xs)\/KTp K a xs
theorem SqU.sq {K:bq}{H:Hp}{a:Addr}{xs:List V}(h:SqU K H a xs):SqT K H a xs:=h.elim (λe=>.inl<|.inl e) .inr
theorem SqU.of {K:bq}{H:Hp}{a:Addr}{xs:List V}(h:H a=some (.tup xs)):SqU K H a xs:=.inl h
noncomputable def agZ:a9->Option V
 | .none=>some .non
 | .bool b=>some<|.bl b
 | .int i _=>some<|.int i
 | .str x _=>some<|.str x
 | .bytes b _=>some<|.byt b
 | .float b _=>some<|.flt b
 | .ref a=>some<|.ref a
 | .type n=>some<|.ty n
 |_=>none
theorem RelV.abs (r:RelV x u):agZ u=some x:=by
 cases x with
 |non=>cases r;rfl
 |bl _=>cases r;rfl
 |int _=>obtain⟨t,rfl⟩:=r;rfl
 |str _=>obtain⟨t,rfl⟩:=r;rfl
 |byt _=>obtain⟨t,rfl⟩:=r;rfl
 |flt _=>obtain⟨t,rfl⟩:=r;rfl
 |ref _=>cases r;rfl
 |ty _=>cases r;rfl
theorem RelV.inj (r:RelV x u)(q:RelV y u):x=y:=dE<|r.abs.symm.trans q.abs
theorem Vals.inj:∀{xs ys:List V} {us:List a9},Vals xs us->Vals ys us->xs=ys
 |_,_,_,.nil,.nil=>rfl
 |_,_,_,.cons r t,.cons r' t'=>by rw[r.inj r',Vals.inj t t']
section
variable {X:Cx}{π:Zl}{σ:St}{H:Hp}{s:bE}{a:Addr}{xs ys:List V}
theorem SqL.of {K:bq}(h:H a=some (.lst xs)):SqL K H a xs:=.inl<|.inl h
theorem Inv.list (I:Inv X π σ H s)(h:SqL X.K H a xs):∃χ:List a9,Vals xs χ/\PlainL s.heap a χ.toArray/\xs.length<=av:=by
 rcases h with h|⟨o,χ,n,hk,hc,hd,hs,hz,r⟩
 ·obtain⟨z,χ,n,r,e⟩:=h.ok I.hok;exact⟨χ,r,⟨_,n,e,rfl,rfl,rfl⟩,z⟩
 ·refine⟨χ.toList,r,⟨o,n,I.kIn a o hk,hc,hd,by simpa using hs⟩,?_⟩;have e:=r.length;simp only[r9] at e
  lia
theorem Inv.tuple (I:Inv X π σ H s)(h:SqT X.K H a xs):∃χ:List a9,Vals xs χ/\IsTup s.heap a χ.toArray/\xs.length<=av:=by
 rcases h with h|⟨o,χ,n,hk,hc,hs,hz,r⟩
 ·obtain⟨z,χ,r,p⟩:=h.ok I.hok;exact⟨χ,r,p,z⟩
 ·refine⟨χ.toList,r,⟨o,I.kIn a o hk,hc,n,by simpa using hs⟩,?_⟩;have e:=r.length;simp only[r9] at e
  lia
theorem Inv.Oc (I:Inv X π σ H s)(h:SqL X.K H a xs)(h':SqL X.K H a ys):xs=ys:=by
 obtain⟨χ,r,⟨o,n,e,_,_,d⟩,_⟩:=I.list h;obtain⟨its',r',⟨o',n',e',_,_,d'⟩,_⟩:=I.list h';rw[e] at e';cases e';rw[d] at d';injection d' with d1 _
 have:χ=its':=by simpa using congrArg x5 d1
 subst this;exact r.inj r'
theorem Inv.Bl (I:Inv X π σ H s)(h:SqT X.K H a xs)(h':SqT X.K H a ys):xs=ys:=by
 obtain⟨χ,r,⟨o,e,_,n,d⟩,_⟩:=I.tuple h;obtain⟨its',r',⟨o',e',_,n',d'⟩,_⟩:=I.tuple h';rw[e] at e';cases e';rw[d] at d';injection d' with d1 _
 have:χ=its':=by simpa using congrArg x5 d1
 subst this;exact r.inj r'
end
section
variable {X:Cx}{π:Zl}{σ:St}{H:Hp}{s:bE}{E:Zs}
end
section
variable {X:Cx}{st:Stmt}{rest:List Stmt}{t u:TS}{e:Expr}{te:TE}{pos:Pos}
def agG:TS:=λD σ H=>D.nx σ H
def agb (t u:TS):TS:=λD σ H=>t { D with nx:=u D } σ H
theorem aae:PSs X [] agG:=λ_ _ σ H _ I h=>sf ⟨σ,H,I,h⟩
theorem Mu (h1:PS X st t)(h2:PSs X rest u):PSs X (st::rest) (agb t u):=by
 intro π s σ H D I h;refine wpAny_execs_cons<|thn (h1 π s σ H { D with nx:=u D } I h) λf s1 q=>?_;cases f with
 |next=>
  obtain⟨σ',H',I',q⟩:=q;exact h2 π s1 σ' H' D I' q
 |ret v=>exact q
 |brk=>exact q
 |cont=>exact q
theorem ZR (h1:PS X st t):PSs X [st] t:=by
 intro π s σ H D I h;refine wpAny_execs_cons<|thn (h1 π s σ H D I h) λf s1 q=>?_;cases f with
 |next=>exact sf q
 |ret v=>exact q
 |brk=>exact q
 |cont=>exact q
theorem Inv.quiet (I:Inv X π σ H s):interactive X.env=false:=by simp[interactive,I.ok.kind]
def agF (te:TE):TS:=λD σ H=>te σ H λ_ H1=>D.nx σ H1
theorem yO (he:PE X e te)(hs:gX e none pos.line X.env=pure false:=by rfl):PS X (.Expr e pos) (agF te):=by
 intro π s σ H D I h;exact wpAny_Expr_any (thn (he π s σ H _ I h) λv s1 hE=>xq2 hE λx H1 I1 r1 q1=>⟨σ,H1,I1,q1⟩) I.quiet hs
def ag9 (te:TE):TS:=λD σ H=>te σ H D.rt
theorem Ka (he:PE X e te):PS X (.Return (some e) pos) (ag9 te):=by
 intro π s σ H D I h;exact wpAny_Return_some<|thn (he π s σ H _ I h) λv s1 hE=>xq2 hE λx H1 I1 r1 q1=>⟨x,σ,H1,I1,r1,q1⟩
def agW (c:TT)(t u:TS):TS:=λD σ H=>c σ H λb H1=>if b=true then t D σ H1 else u D σ H1
theorem afm (hc:PT X c tc)(ha:PSs X a t)(hb:PSs X b u):PS X (.If c a b pos) (agW tc t u):=by
 intro π s σ H D I h;refine wpAny_If<|thn (hc π s σ H _ I h) λd s1 ⟨H1,I1,q1⟩=>?_;cases d with
 |true=>exact ha π s1 σ H1 D I1 q1
 |false=>exact hb π s1 σ H1 D I1 q1
end
abbrev TG:=V->St->Hp->(St->Hp->Prop)->Prop
abbrev TGs:=List V->St->Hp->(St->Hp->Prop)->Prop
def PG (X:Cx)(target:Expr)(t:TG):Prop:=
 ∀(π:Zl) (s:bE) (σ:St) (H:Hp) (v:V) (u:a9) (Q:St->Hp->Prop),Inv X π σ H s->RelV v u->t v σ H Q->
  b9 (eB X.prog X.w) X.A (ua target X.env u) (λ_ s'=>∃σ' H',Inv X π σ' H' s'/\Q σ' H') X.xe s
def PGs (X:Cx)(ts:List Expr)(t:TGs):Prop:=
 ∀(π:Zl) (s:bE) (σ:St) (H:Hp) (vs:List V) (us:List a9) (Q:St->Hp->Prop),Inv X π σ H s->Vals vs us->t vs σ H Q->
  b9 (eB X.prog X.w) X.A (AJ ((kl ts X.env).map (·.2)) us) (λ_ s'=>∃σ' H',Inv X π σ' H' s'/\Q σ' H') X.xe s
abbrev af1:=V->V->V->Hp->(Hp->Prop)->Prop
def afC (X:Cx)(t:af1):Prop:=
 ∀(π:Zl) (s:bE) (σ:St) (H:Hp) (o i v:V) (ov iv u:a9) (Q:Hp->Prop),Inv X π σ H s->RelV o ov->RelV i iv->RelV v u->t o i v H Q->
  b9 (eB X.prog X.w) X.A (setItem ov iv u) (λ_ s'=>∃H',Inv X π σ H' s'/\Q H') X.xe s
section
def Ep (i:Nat):TG:=λv σ H Q=>Q (σ.set i<|some v) H
theorem abU (hN:X.N.Nodup)(hi:X.N[i]? = some x)(hx:Loc X.env.scope x)(hf:X.fn x=true\/X.env.scope.names.lookup x=some .local:=by first|exact .inl rfl|exact .inr rfl|assumption):PG X (.Name x pos) (Ep i):=by
 intro π s σ H v u Q I r h;exact wpAny_assign_Name<|yR I hN hi hx r (λs' I'=>⟨_,H,I',h⟩) hf
def ahf:TGs:=λvs σ H Q=>vs=[]/\Q σ H
def agA (t:TG)(u:TGs):TGs:=λvs σ H Q=>∃v r,vs=v::r/\t v σ H λσ' H'=>u r σ' H' Q
theorem aaw:PGs X [] ahf:=by
 intro π s σ H vs us Q I r h;obtain⟨e,h⟩:=h;subst e;cases r;exact assignInOrder_nil ⟨σ,H,I,h⟩
theorem Zw (h1:PG X e t)(h2:PGs X es u)
  (hs:(kl (e::es) X.env).map (·.2)=ua e X.env::(kl es X.env).map (·.2):=by rfl):PGs X (e::es) (agA t u):=by
 intro π s σ H vs us Q I r h;obtain⟨v,vr,e1,h⟩:=h;subst e1;cases r with
 |cons r rr=>
  rw[hs];refine sR<|thn (h1 π s σ H _ _ _ I r h) λ_ s1 hE=>?_;obtain⟨σ1,H1,I1,q1⟩:=hE;exact h2 π s1 σ1 H1 _ _ Q I1 rr q1
def ag4 (K:bq)(n:Nat)(t:TGs):TG:=λv σ H Q=>∃a xs,v=.ref a/\SqT K H a xs/\xs.length=n/\t xs σ H Q
theorem aec (hc:X.calm=true)(h:PGs X es t)
  (hn:(kl es X.env).length=n:=by rfl) (hst:(kl es X.env).findIdx? (·.1)=none:=by rfl):PG X (.Tuple es k pos) (ag4 X.K n t):=by
 intro π s σ H v u Q I r hw;obtain⟨a,xs,e1,hq,hl,hw⟩:=hw;subst e1;cases r;obtain⟨χ,rv,ht,hz⟩:=I.tuple hq;refine assign_Tuple_tuple (I.ok.hd hc) ht (by simp[hn,← hl,rv.length]) hst λh' hx=>?_;have I1:Inv X π σ H { s with heap:=h' }:=I.kept (t':=s.toks) λb o e=>hx b o (c6<|aT e) e;exact h π _ σ H xs _ Q I1 (by simpa using rv) hw
noncomputable def cO (to ti:TE)(t:af1):TG:=λv σ H Q=>to σ H λo H1=>ti σ H1 λi H2=>t o i v H2 λH3=>Q σ H3
theorem Yz (ho:PE X o to)(hi:PE X i ti)(hs:afC X t)
  (ha:∀v,ua (.Subscript o i pos) X.env v=(do
   let ov←tq [v] (eval o X.env)
   let iv←tq [v,ov] (eval i X.env)
   standAt pos
   tq [v,ov,iv] (setItem ov iv v)
   release [v,ov,iv] []):=by intro _;rfl):PG X (.Subscript o i pos) (cO to ti t):=by
 intro π s σ H v u Q I r h;rw[ha];refine ab<|jv<|thn (ho π s σ H _ I h) λov s1 hE=>xq2 hE λx H1 I1 r1 q1=>?_;refine ab<|jv<|thn (hi π s1 σ H1 _ I1 q1) λiv s2 hE=>xq2 hE λy H2 I2 r2 q2=>?_;refine ab<|rL<|ab<|jv<|thn (hs π s2 σ H2 x y v ov iv u _ I2 r1 r2 r q2) λ_ s3 ⟨H3,I3,q3⟩=>?_;exact wpAny_release ⟨σ,H3,I3,q3⟩
def Wf (te:TE)(g:TG):TS:=λD σ H=>te σ H λx H1=>g x σ H1 D.nx
theorem PL (he:PE X e te)(hg:PG X tg g)(hs:oy [tg] e pos.line X.env=pure false:=by rfl)(hw:oz [tg] e X.env=pure none:=by rfl)
  (h1:(kl [tg] X.env).map (·.2)=[ua tg X.env]:=by rfl):PS X (.Assign [tg] e pos) (Wf te g):=by
 intro π s σ H D I h;refine wpAny_Assign_stores (thn (he π s σ H _ I h) λv s1 hE=>xq2 hE λx H1 I1 r1 q1=>?_) hs hw;rw[h1];exact thn (hg π s1 σ H1 x v _ I1 r1 q1) λ_ s2 q=>q
theorem GX (hN:X.N.Nodup)(hi:X.N[i]? = some x)(hx:Loc X.env.scope x)(he:PE X e te)(hs:gX e (some<|.Name x pos') pos.line X.env=pure false:=by rfl)(hf:X.fn x=true\/X.env.scope.names.lookup x=some .local:=by first|exact .inl rfl|exact .inr rfl|assumption):
  PS X (.Assign [.Name x pos'] e pos) (Wf te<|Ep i):=by
 intro π s σ H D I h;refine wpAny_Assign_Name (thn (he π s σ H _ I h) λv s1 hE=>xq2 hE λy H1 I1 r1 q1=>?_) hs;exact yR I1 hN hi hx r1 (λs2 I2=>⟨_,H1,I2,q1⟩) hf
def aha (i j:Nat)(ta:TA):TS:=λD σ H=>ta σ H λvs H1=>∃v w,vs=[v,w]/\D.nx ((σ.set i<|some v).set j<|some w) H1
theorem aeJ (hc:X.calm=true)(hN:X.N.Nodup)(hi:X.N[i]? = some x)(hj:X.N[j]? = some y)(hij:i≠j)
  (hx:X.env.scope.names.lookup x=some .local) (hy:X.env.scope.names.lookup y=some .local) (ha:PA X [a,b] ta)
  (hw:oz [.Tuple [.Name x px,.Name y py] kt pt] (.Tuple [a,b] k2 pt2) X.env=pure (some [x,y]))
  (hs:oy [.Tuple [.Name x px,.Name y py] kt pt] (.Tuple [a,b] k2 pt2) pos.line X.env=pure false:=by rfl):
  PS X (.Assign [.Tuple [.Name x px,.Name y py] kt pt] (.Tuple [a,b] k2 pt2) pos) (aha i j ta):=by
 intro π s σ H D I h;rw[exec_Assign_arm];refine ab<|rL ?_;rw[hs];refine ab<|ai ?_;rw[if_neg<|by decide];refine ab<|Tuple_<|thn (ha _ π s σ H _ I h) λus s1 hE=>xq2 hE λvs H1 I1 r1 q1=>?_;obtain⟨v,w,e1,q1⟩:=q1;subst e1;obtain⟨u1,u2,rfl,rv,rw'⟩:∃u1 u2,us=[u1,u2]/\RelV v u1/\RelV w u2:=by
  cases r1 with
  |cons p q=>
   cases q with
   |cons p' q'=>
    cases q';exact⟨_,_,rfl,p,p'⟩
 refine eC ?_ (by show 2<=av;decide);have I2:Inv X π σ H1 { s1 with heap:=s1.heap.push { cls:=.type "tuple",data:=.seq [u1,u2].toArray } }:=I1.kept (t':=s1.toks) λb o e=>ag _ e;rw[hw];refine ab<|ai ?_;show b9 (eB X.prog X.w) X.A (do rule "assign.swapped-stores";let items←unpackItems (.ref s1.heap.objs.size) 2 none;AJ [λv=>bindName X.env y v,λv=>bindName X.env x v] items.reverse;pure Flow.next) _ _ _;refine ab<|rX<|ab<|unpackItems_tuple (items:=#[u1,u2]) (I.ok.hd hc) (BE s1.heap _) λh' hx'=>?_;have I3:=I2.kept (h':=h') (t':=s1.toks) λb o e=>hx' b o (c6<|aT e) e;show b9 _ _ (AJ [λv=>bindName X.env y v,λv=>bindName X.env x v] [u2,u1] >>= λ_=>pure Flow.next) _ _ _;refine ab<|sR<|wpAny_bindName<|yR I3 hN hj (.inl hy) rw' (λs2 I4=>?_)<|.inr hy;refine sR<|wpAny_bindName<|yR I4 hN hi (.inl hx) rv (λs3 I5=>assignInOrder_nil<|ai ?_)<|.inr hx;rw[List.set_comm _ _<|eK hij] at I5;exact⟨_,H1,I5,q1⟩
end
section
def adk (c:TT)(tb:TS):TS:=λD σ H=>∃W:Nat->St->Hp->Prop,(∃m,W m σ H)/\∀m σ H,W m σ H->
 c σ H λb H1=>if b=true then ∃N:St->Hp->Prop,(∀σ' H',N σ' H'->∃m',m'<m/\W m' σ' H')/\tb { D with nx:=N,ct:=N,bk:=D.nx } σ H1 else D.nx σ H1
theorem Xg (hp:AK (eB X.prog X.w) X.A X.env X.xe)(hc:PT X c tc)(hb:PSs X body tb):PS X (.While c body [] pos) (adk tc tb):=by
 intro π s σ H D I h;obtain⟨W,⟨m0,w0⟩,turn⟩:=h;refine wpAny_While<|codeAny_whileLoop (λn s'=>∃σ' H',Inv X π σ' H' s'/\W n σ' H') ?_ m0 ⟨σ,H,I,w0⟩;rintro n s1 ⟨σ1,H1,I1,w1⟩;refine kL hp<|thn (hc π s1 σ1 H1 _ I1<|turn n σ1 H1 w1) λb s2 ⟨H2,I2,q2⟩=>?_;cases b with
 |true=>
  obtain⟨N,hN,q2⟩:=q2;rw[if_pos rfl];refine kL hp<|thn (hb π s2 σ1 H2 _ I2 q2) λf s3 q3=>?_;cases f with
  |next=>
   obtain⟨σ3,H3,I3,n3⟩:=q3;obtain⟨m',hm,w3⟩:=hN σ3 H3 n3;exact⟨m',hm,σ3,H3,I3,w3⟩
  |cont=>
   obtain⟨σ3,H3,I3,n3⟩:=q3;obtain⟨m',hm,w3⟩:=hN σ3 H3 n3;exact⟨m',hm,σ3,H3,I3,w3⟩
  |brk=>exact q3
  |ret v=>exact q3
 |false=>
  rw[if_neg be];exact sf ⟨σ1,H2,I2,q2⟩
end
structure It where
 go:Nat->Hp->Prop
 yld:Nat->Hp->V->Hp->Prop
 stop:Nat->Hp->Prop
def vU (X:Cx)(π:Zl)(H:Hp)(b:Addr):Prop:=
 H b=none/\b≠X.env.locals/\b∉X.fs/\(b∈X.ex\/X.s₀.heap.objs.size<=b)/\(∀x c,X.env.cells.lookup x=some c->c≠b)/\∀p∈X.pn++π,p.1≠b
theorem Inv.My (I:Inv X π σ H s)(hb:s.heap.objs.size<=b)(hn:H' b=none):vU X π H' b:=by
 refine⟨hn,ku<|cx I.lt hb,I.ahq hb,.inr<|gz I.sz hb,λx c e z=>?_,λp hp z=>?_⟩
 ·obtain⟨v,q⟩:=I.cell x c e;exact absurd (cx q.lt (by rw[z];exact hb))<|hV _
 ·exact absurd (cx (aT (I.pin p hp).1) (by rw[z];exact hb))<|hV _
structure Turn (P:cS)(w:gu)(K:bq)(tg:Expr)(J:It)(fp:List Addr)(it:Addr)(tn:Nat->Heap->Prop):Prop where
 mem:it∈fp
 obj:∀i h,tn i h->∀b∈fp,∃o,h.get? b=some o/\∀v,o.data≠.cell v
 keep:∀i h h',tn i h->(∀b∈fp,∀o,h.get? b=some o->h'.get? b=some o)->tn i h'
 item:∀(X:Cx),X.prog=P->X.w=w->X.K=K->X.calm=true->∀(i:Nat) (π:Zl) (s:bE) (σ:St) (H:Hp) (E:Zs),Inv X π σ H s->(∀b∈fp,vU X π H b)->tn i s.heap->J.go i H->
  b9 (eB P w) X.A (ub (.ref it)) (λr s1=>∃u,r=some u/\
   b9 (eB P w) X.A (x6 tg (.ref it) u) (λ_ s2=>∃x H',Inv X π σ H' s2/\RelV x u/\J.yld i H x H'/\tn (i+1) s2.heap/\∀b∈fp,H' b=none) E s1) E s
 done:∀(X:Cx),X.prog=P->X.w=w->X.K=K->X.calm=true->∀(i:Nat) (π:Zl) (s:bE) (σ:St) (H:Hp) (E:Zs),Inv X π σ H s->(∀b∈fp,vU X π H b)->tn i s.heap->J.stop i H->
  b9 (eB P w) X.A (ub (.ref it)) (λr s1=>r=none/\Inv X π σ H s1) E s
 self:∀(A:i7) (i:Nat) (s:bE) (Q:Zs) (E:Zs),tn i s.heap->Q (.ref it) s->b9 (eB P w) A (BQ (.ref it)) Q E s
abbrev TI:=St->Hp->(It->Hp->Prop)->Prop
def PIE (X:Cx)(π:Zl)(σ:St)(tg:Expr)(R:It->Hp->Prop)(itv:a9)(s2:bE):Prop:=
 ∃(it:Addr) (fp:List Addr) (tn:Nat->Heap->Prop) (J:It) (H':Hp),itv=.ref it/\Inv X π σ H' s2/\Turn X.prog X.w X.K tg J fp it tn/\tn 0 s2.heap/\(∀b∈fp,vU X π H' b)/\R J H'
def PI (X:Cx)(tg iter:Expr)(wi:TI):Prop:=
 ∀(π:Zl) (s:bE) (σ:St) (H:Hp) (R:It->Hp->Prop),Inv X π σ H s->wi σ H R->
  b9 (eB X.prog X.w) X.A (eval iter X.env) (λv s1=>b9 (eB X.prog X.w) X.A (BQ v) (PIE X π σ tg R) X.xe s1) X.xe s
theorem Q0 (ho : s.heap.get? it = some o) (hc : o.cls = .type n) (hd : o.data = .fields vs)
    (hn : ["enumerate", "zip", "dict_itemiterator", "dict_reverseitemiterator", "odict_iterator", "itertools.zip_longest", "itertools.pairwise"].contains n = false) (hQ : Q () s) : b9 M A (x6 tg (.ref it) u) Q E s := by
  unfold x6;cases tg<;>first
    | exact ai hQ
    | (cases u<;>first
        | exact ai hQ
        | (refine ab (wpAny_load ho ?_)
           rw [hc, hd];show b9 M A (if (["enumerate", "zip", "dict_itemiterator", "dict_reverseitemiterator", "odict_iterator", "itertools.zip_longest", "itertools.pairwise"].contains n && vs[0]? == some (pf _)) = true then _ else _) Q E s;rw [if_neg (by intro h;rw [hn, Bool.false_and] at h;cases h)];exact ai hQ))
def Itl (K:bq)(a:Addr):It:=
 ⟨λi H=>∃xs x,SqL K H a xs/\xs[i]? = some x,λi H x H'=>H'=H/\∀xs,SqL K H a xs->xs[i]? = some x,λi H=>∃xs,SqL K H a xs/\xs.length<=i⟩
def Itt (K:bq)(a:Addr):It:=
 ⟨λi H=>∃xs x,SqT K H a xs/\xs[i]? = some x,λi H x H'=>H'=H/\∀xs,SqT K H a xs->xs[i]? = some x,λi H=>∃xs,SqT K H a xs/\xs.length<=i⟩
def Itr (lo:Int)(n:Nat):It:=⟨λi _=>i<n,λi H x H'=>H'=H/\x=.int (lo+i),λi _=>n<=i⟩
theorem HS {P:cS}{w:gu}{K:bq}{tg:Expr}(a it:Addr):Turn P w K tg (Itl K a) [it] it (λi h=>h.IsListIter it a i) where
 mem:=by simp
 obj:=λi h st b hb=>by
  have e:b=it:=by simpa using hb
  subst e;obtain⟨o,e,c,d⟩:=st;exact⟨o,e,λv z=>by rw[d] at z;cases z⟩
 keep:=λi h h' st k=>st.at λo e=>k it (by simp) o e
 item:=by
  intro X hP hw hK hc i π s σ H E I hf st hg;subst hP hw hK;obtain⟨xs,x,hq,hx⟩:=hg;obtain⟨χ,rv,p,hz⟩:=I.list hq;obtain⟨u,hu,ru⟩:=rv.get hx;refine lO (hf it<|by simp) λf0 f1 f2 f3 f4 f5=>?_;refine wpAny_pyNext_list_item st p.isList (x:=u) (by simpa using hu) λh' st' sb=>?_;have I1:Inv X π σ H { s with heap:=h' }:=I.turned (t':=s.toks) (λb o hb e=>(sb.2 b hb).trans e) f0 f1 f3 f4 f5;obtain⟨o,e,c,d⟩:=id st';exact⟨u,rfl,Q0 (s:={ s with heap:=h' }) e c d (by decide) ⟨x,H,I1,ru,⟨rfl,λys hy=>by rw[I.Oc hy hq];exact hx⟩,st',λb hb=>(hf b hb).1⟩⟩
 done:=by
  intro X hP hw hK hc i π s σ H E I hf st hg;subst hP hw hK;obtain⟨xs,hq,hx⟩:=hg;obtain⟨χ,rv,p,hz⟩:=I.list hq;refine lO (hf it<|by simp) λf0 f1 f2 f3 f4 f5=>?_;have hl:=rv.length;exact wpAny_pyNext_list_end (I.ok.hd hc) st p.isList (by simp;lia) λh' eb=>⟨rfl,I.turned (t':=s.toks) (λb o hb e=>eb b o hb e) f0 f1 f3 f4 f5⟩
 self:=λ_ _ _ _ _ st h=>wpAny_pyIter_listiter st h
theorem Fd {P:cS}{w:gu}{K:bq}{tg:Expr}(a it:Addr):Turn P w K tg (Itt K a) [it] it (λi h=>h.IsTupleIter it a i) where
 mem:=by simp
 obj:=λi h st b hb=>by
  have e:b=it:=by simpa using hb
  subst e;obtain⟨o,e,c,d⟩:=st;exact⟨o,e,λv z=>by rw[d] at z;cases z⟩
 keep:=λi h h' st k=>st.at λo e=>k it (by simp) o e
 item:=by
  intro X hP hw hK hc i π s σ H E I hf st hg;subst hP hw hK;obtain⟨xs,x,hq,hx⟩:=hg;obtain⟨χ,rv,p,hz⟩:=I.tuple hq;obtain⟨u,hu,ru⟩:=rv.get hx;refine lO (hf it<|by simp) λf0 f1 f2 f3 f4 f5=>?_;refine wpAny_pyNext_tuple_item st (show s.heap.IsTuple a χ.toArray from p) (x:=u) (by simpa using hu) λh' st' sb=>?_;have I1:Inv X π σ H { s with heap:=h' }:=I.turned (t':=s.toks) (λb o hb e=>(sb.2 b hb).trans e) f0 f1 f3 f4 f5;obtain⟨o,e,c,d⟩:=id st';exact⟨u,rfl,Q0 (s:={ s with heap:=h' }) e c d (by decide) ⟨x,H,I1,ru,⟨rfl,λys hy=>by rw[I.Bl hy hq];exact hx⟩,st',λb hb=>(hf b hb).1⟩⟩
 done:=by
  intro X hP hw hK hc i π s σ H E I hf st hg;subst hP hw hK;obtain⟨xs,hq,hx⟩:=hg;obtain⟨χ,rv,p,hz⟩:=I.tuple hq;refine lO (hf it<|by simp) λf0 f1 f2 f3 f4 f5=>?_;have hl:=rv.length;exact wpAny_pyNext_tuple_end (I.ok.hd hc) st (show s.heap.IsTuple a χ.toArray from p) (by simp;lia) λh' eb=>⟨rfl,I.turned (t':=s.toks) (λb o hb e=>eb b o hb e) f0 f1 f3 f4 f5⟩
 self:=λ_ _ _ _ _ st h=>wpAny_pyIter_tupleiter st h
theorem Ou {P:cS}{w:gu}{K:PySem.W.Frag}{tg:Expr}(it:Addr)(lo:Int)(n:Nat):Turn P w K tg (Itr lo n) [it] it (λi h=>zw h it (lo+(i:Nat)*1) ((n:Int)-(i:Nat)) 1) where
 mem:=by simp
 obj:=λi h st b hb=>by
  have e:b=it:=by simpa using hb
  subst e;exact⟨_,st,λv z=>by
   have z':zC _=BF v:=z;cases z'⟩
 keep:=λi h h' st k=>k it (by simp) _ st
 item:=by
  intro X hP hw hK hc i π s σ H E I hf st hg;subst hP hw hK;refine lO (hf it<|by simp) λf0 f1 f2 f3 f4 f5=>?_;have W:=Walks.range (prog:=X.prog) (w:=X.w) (I.ok.hd hc) it lo 1 n;refine W.item i s _ _ hg st λv h' tk hv st' kk=>?_;obtain⟨t,rfl⟩:=hv;have I1:Inv X π σ H { s with heap:=h',toks:=tk }:=I.turned (λb o hb e=>kk b o (by simpa using hb) e) f0 f1 f3 f4 f5;refine⟨_,rfl,Q0 (s:={ s with heap:=h',toks:=tk }) (n:="range_iterator") st' rfl rfl (by decide) ⟨.int<|lo+i,H,I1,⟨t,?_⟩,⟨rfl,rfl⟩,st',λb hb=>(hf b hb).1⟩⟩;rw[Int.mul_one]
 done:=by
  intro X hP hw hK hc i π s σ H E I hf st hg;subst hP hw hK;refine lO (hf it<|by simp) λf0 f1 f2 f3 f4 f5=>?_;exact wpAny_pyNext_range_end (I.ok.hd hc) st (by have:n<=i:=hg;lia) λh' eb=>⟨rfl,I.turned (t':=s.toks) (λb o hb e=>eb b o hb e) f0 f1 f3 f4 f5⟩
 self:=λ_ _ _ _ _ st h=>wpAny_pyIter_rangeiter st h
section
variable {X:Cx}{tg:Expr}
def afW (K:bq)(tl:TE):TI:=λσ H R=>tl σ H λx H1=>∃a,x=.ref a/\(∃xs,SqL K H1 a xs)/\R (Itl K a) H1
def ag3 (K:bq)(tl:TE):TI:=λσ H R=>tl σ H λx H1=>∃a,x=.ref a/\(∃xs,SqT K H1 a xs)/\R (Itt K a) H1
theorem T9 {l:Expr}{tl:TE}(hl:PE X l tl):PI X tg l (afW X.K tl):=by
 intro π s σ H R I h;refine thn (hl π s σ H _ I h) λv s1 hE=>xq2 hE λx H1 I1 r1 q1=>?_;obtain⟨a,e,⟨xs,hq⟩,q⟩:=q1;subst e;cases r1;obtain⟨χ,rv,p,hz⟩:=I1.list hq;refine ui p.isList ?_;refine⟨s1.heap.objs.size,[s1.heap.objs.size],_,_,H1,rfl,I1.kept (t':=s1.toks) λb o e=>ag _ e,HS a _,⟨_,ay _ rfl,rfl,rfl⟩,λb hb=>?_,q⟩;have e:b=s1.heap.objs.size:=by simpa using hb
 subst e;exact I1.My (aI _)<|I1.hok.fresh<|aI _
theorem ado {l:Expr}{tl:TE}(hl:PE X l tl):PI X tg l (ag3 X.K tl):=by
 intro π s σ H R I h;refine thn (hl π s σ H _ I h) λv s1 hE=>xq2 hE λx H1 I1 r1 q1=>?_;obtain⟨a,e,⟨xs,hq⟩,q⟩:=q1;subst e;cases r1;obtain⟨χ,rv,p,hz⟩:=I1.tuple hq;refine oB (show s1.heap.IsTuple a χ.toArray from p) ?_;refine⟨s1.heap.objs.size,[s1.heap.objs.size],_,_,H1,rfl,I1.kept (t':=s1.toks) λb o e=>ag _ e,Fd a _,⟨_,ay _ rfl,rfl,rfl⟩,λb hb=>?_,q⟩;have e:b=s1.heap.objs.size:=by simpa using hb
 subst e;exact I1.My (aI _)<|I1.hok.fresh<|aI _
theorem Lx {π:Zl}{σ:St}{H:Hp}{s:bE}{R:It->Hp->Prop}{E:Zs}{lo hi:Int}{t u v:Tok}{tk:Nat}(I:Inv X π σ H s)(h1:-(2^62)<=lo)(h2:lo<2^62)(h3:-(2^62)<=hi)(h4:hi<2^62)
  (q:R (Itr lo (hi-lo).toNat) H):b9 (eB X.prog X.w) X.A (BQ<|.ref s.heap.objs.size) (PIE X π σ tg R) E { s with heap:=s.heap.push { cls:=.type "range",data:=.fields #[.int lo t,.int hi u,.int 1 v] },toks:=tk }:=by
 refine wpAny_pyIter_range (IsRange.new ..) (small_one h1 h2 h3 h4) ?_;have I1:Inv X π σ H { s with heap:=s.heap.push { cls:=.type "range",data:=.fields #[.int lo t,.int hi u,.int 1 v] },toks:=tk }:=I.kept λb o e=>ag _ e;refine⟨(s.heap.push { cls:=.type "range",data:=.fields #[.int lo t,.int hi u,.int 1 v] }).objs.size,[(s.heap.push { cls:=.type "range",data:=.fields #[.int lo t,.int hi u,.int 1 v] }).objs.size],_,_,H,rfl,
  I1.kept (t':=tk) λb o e=>ag _ e,Ou _ lo (hi-lo).toNat,?_,λb hb=>?_,q⟩
 ·have e1:lo+((0:Nat):Int)*1=lo:=by simp
  have e2:(((hi-lo).toNat:Nat):Int)-((0:Nat):Int)=lj lo hi 1:=by rw[rangeSize_one];split<;>lia
  show zw _ _ (lo+((0:Nat):Int)*1) ((((hi-lo).toNat:Nat):Int)-((0:Nat):Int)) 1;rw[e1,e2];exact ay _ rfl
 ·have e:b=(s.heap.push { cls:=.type "range",data:=.fields #[.int lo t,.int hi u,.int 1 v] }).objs.size:=by simpa using hb
  subst e;exact I1.My (aI _)<|I1.hok.fresh<|aI _
def agt (ta:TA):TI:=λσ H R=>ta σ H λvs H1=>∃j:Int,vs=[.int j]/\-(2^62)<=j/\j<2^62/\R (Itr 0 j.toNat) H1
def afB (ta:TA):TI:=λσ H R=>ta σ H λvs H1=>∃i j:Int,vs=[.int i,.int j]/\(-(2^62)<=i/\i<2^62/\-(2^62)<=j/\j<2^62)/\R (Itr i (j-i).toNat) H1
theorem Vx (hg:Gl X "range")(hm:X.mg "range" = none)(ha:PA X [a] ta)(hs:aS [a] X.env=[(false,eval a X.env)]:=by rfl):PI X tg (.Call (.Name "range" p) [a] [] pos) (agt ta):=by
 intro π s σ H R I h;refine Call_<|sH I hg hm boot_range<|eP (thn (ha pos π s σ H _ I h) λus s1 hE=>xq2 hE λvs H1 I1 r1 q1=>?_) hs rfl;obtain⟨j,e,q1,q2,q⟩:=q1;subst e;cases r1 with
 |cons r rr=>
  cases rr;obtain⟨t,rfl⟩:=r;exact call_range_1<|Lx I1 (by lia) (by lia) q1 q2<|by simpa using q
theorem Vw (hg:Gl X "range")(hm:X.mg "range" = none)(ha:PA X [a,b] ta)(hs:aS [a,b] X.env=[(false,eval a X.env),(false,eval b X.env)]:=by rfl)(hs2:aS [b] X.env=[(false,eval b X.env)]:=by rfl):
  PI X tg (.Call (.Name "range" p) [a,b] [] pos) (afB ta):=by
 intro π s σ H R I h;refine Call_<|sH I hg hm boot_range<|eP (thn (ha pos π s σ H _ I h) λus s1 hE=>xq2 hE λvs H1 I1 r1 q1=>?_) (by rw[hs,hs2]) (by rw[hs2];rfl);obtain⟨i,j,e,⟨q1,q2,q3,q4⟩,q⟩:=q1;subst e;cases r1 with
 |cons r rr=>
  cases rr with
  |cons r' rr=>
   cases rr;obtain⟨t,rfl⟩:=r;obtain⟨t',rfl⟩:=r';exact call_range_2<|Lx I1 q1 q2 q3 q4 q
def ahk (wi:TI)(g:TG)(tb:TS):TS:=λD σ H=>wi σ H λJ H1=>∃W:Nat->Nat->St->Hp->Prop,(∃m,W 0 m σ H1)/\∀i m σ H,W i m σ H->
 (J.stop i H/\D.nx σ H)\/(J.go i H/\∃N:St->Hp->Prop,(∀σ' H',N σ' H'->∃m',m'<m/\W (i+1) m' σ' H')/\∀x H',J.yld i H x H'->g x σ H' λσ2 H2=>tb { D with nx:=N,ct:=N,bk:=D.nx } σ2 H2)
noncomputable def xQ (fp:List Addr)(h:Heap):Zl:=fp.filterMap λb=>(h.get? b).map λo=>(b,o)
theorem uH (hb:b∈fp)(e:h.get? b=some o):(b,o)∈xQ fp h:=List.mem_filterMap.mpr ⟨b,hb,by rw[e];rfl⟩
theorem U9 (hp:p∈xQ fp h):p.1∈fp/\h.get? p.1=some p.2:=by
 obtain⟨b,hb,e⟩:=List.mem_filterMap.mp hp;cases q:h.get? b with
 |none=>rw[q] at e;cases e
 |some o=>
  rw[q] at e;have e':(b,o)=p:=dE e;subst e';exact⟨hb,q⟩
theorem Inv.pinned (I:Inv X π σ H s)(hf:∀b∈fp,vU X π H b)(ho:∀b∈fp,∃o,s.heap.get? b=some o/\∀v,o.data≠.cell v):Inv X (π++xQ fp s.heap) σ H s:=
 I.RW λp hp=>(cq.mp hp).elim (λz=>I.pin p<|cf _ z) λz=>by
  obtain⟨hb,e⟩:=U9 z;obtain⟨f0,f1,f2,_⟩:=hf p.1 hb;obtain⟨o,e',d⟩:=ho p.1 hb;rw[e] at e';cases e';exact⟨e,f0,f1,f2,d⟩
theorem Inv.yU (I:Inv X (π++pl) σ H s):Inv X π σ H s:=I.RW λp hp=>I.pin p<|cf _<|dy _ hp
theorem acZ (hp:AK (eB X.prog X.w) X.A X.env X.xe)(hc:X.calm=true)(hi:PI X tg iter wi)(hg:PG X tg g)(hb:PSs X body tb)
  (hs:∀x,iq iter X.env x=pure x:=by intro _;rfl):PS X (.For tg iter body [] pos) (ahk wi g tb):=by
 intro π s σ H D I h;refine wpAny_For (thn (hi π s σ H _ I h) λv s1 h1=>thn h1 λitv s2 h2=>?_) hs;obtain⟨it,fp,tn,J,H2,e,I2,T,st2,f2,W,⟨m0,w0⟩,turn⟩:=h2;subst e;have stat:∀{H':Hp},(∀b∈fp,H' b=none)->∀b∈fp,vU X π H' b:=λhn b hb=>⟨hn b hb,(f2 b hb).2⟩;refine codeAny_forLoop_any (λn s'=>∃i σ' H',Inv X π σ' H' s'/\tn i s'.heap/\(∀b∈fp,H' b=none)/\W i n σ' H') ?_ m0 ⟨0,σ,H2,I2,st2,λb hb=>(f2 b hb).1,w0⟩;rintro n s3 ⟨i,σ3,H3,I3,st3,fr3,w3⟩;rcases turn i n σ3 H3 w3 with⟨stop,qn⟩|⟨go,N,hN,step⟩
 ·refine kL hp<|thn (T.done X rfl rfl rfl hc i π s3 σ3 H3 X.xe I3 (stat fr3) st3 stop) λr s4 ⟨hr,I4⟩=>?_;subst hr;exact sf ⟨σ3,H3,I4,qn⟩
 ·refine kL hp<|thn (T.item X rfl rfl rfl hc i π s3 σ3 H3 X.xe I3 (stat fr3) st3 go) λr s4 ⟨u,hr,h4⟩=>?_;subst hr;refine kL hp<|thn h4 λ_ s5 hE=>?_;refine uU hE λx H5 I5 r5 y5 st5 fr5=>?_;have I5':=I5.pinned (stat fr5)<|T.obj _ _ st5;refine kL hp<|thn (hg _ s5 σ3 H5 x u _ I5' r5<|step x H5 y5) λ_ s6 hE=>?_;obtain⟨σ6,H6,I6,q6⟩:=hE;refine kL hp<|thn (hb _ s6 σ6 H6 _ I6 q6) λf s7 q7=>?_;have again:∀{σ7:St} {H7:Hp},Inv X (π++xQ fp s5.heap) σ7 H7 s7->N σ7 H7->∃m,m<n/\∃i σ' H',Inv X π σ' H' s7/\tn i s7.heap/\(∀b∈fp,H' b=none)/\W i m σ' H':=λ{σ7 H7} I7 n7=>by
   obtain⟨m',hm,w7⟩:=hN σ7 H7 n7;refine⟨m',hm,i+1,σ7,H7,I7.yU,T.keep _ _ _ st5 λb hb o e=>(I7.pin (b,o)<|cf _<|cf _<|uH hb e).1,λb hb=>?_,w7⟩;obtain⟨o,e,d⟩:=T.obj _ _ st5 b hb;exact(I7.pin (b,o)<|cf _<|cf _<|uH hb e).2.1
  cases f with
  |next=>obtain⟨σ7,H7,I7,n7⟩:=q7;exact again I7 n7
  |cont=>obtain⟨σ7,H7,I7,n7⟩:=q7;exact again I7 n7
  |brk=>obtain⟨σ7,H7,I7,q7⟩:=q7;exact⟨σ7,H7,I7.yU,q7⟩
  |ret v=>obtain⟨x7,σ7,H7,I7,r7,q7⟩:=q7;exact⟨x7,σ7,H7,I7.yU,r7,q7⟩
end
abbrev R2:=V->V->Hp->VK->Prop
def OpR (X:Cx)(f:a9->a9->Sem a9)(r:R2):Prop:=
 ∀(π:Zl) (s:bE) (σ:St) (H:Hp) (x y:V) (v u:a9) (Q:VK),Inv X π σ H s->RelV x v->RelV y u->r x y H Q->
  b9 (eB X.prog X.w) X.A (f v u) (EP X π σ Q) X.xe s
def UnR (X:Cx)(f:a9->Sem a9)(r:V->Hp->VK->Prop):Prop:=
 ∀(π:Zl) (s:bE) (σ:St) (H:Hp) (x:V) (v:a9) (Q:VK),Inv X π σ H s->RelV x v->r x H Q->
  b9 (eB X.prog X.w) X.A (f v) (EP X π σ Q) X.xe s
def lC (X:Cx)(f:a9)(r:List V->Hp->VK->Prop):Prop:=
 ∀(π:Zl) (s:bE) (σ:St) (H:Hp) (xs:List V) (us:List a9) (Q:VK),Inv X π σ H s->Vals xs us->r xs H Q->
  b9 (eB X.prog X.w) X.A (call f us) (EP X π σ Q) X.xe s
def tOp (r:R2)(ta tb:TE):TE:=λσ H Q=>ta σ H λx H1=>tb σ H1 λy H2=>r x y H2 Q
def tUn (r:V->Hp->VK->Prop)(ta:TE):TE:=λσ H Q=>ta σ H λx H1=>r x H1 Q
def rI (C:Int->Int->Prop)(g:Int->Int->V):R2:=λx y H Q=>∃i j,x=.int i/\y=.int j/\C i j/\Q (g i j) H
def rI0 (g:Int->Int->V):R2:=λx y H Q=>∃i j,x=.int i/\y=.int j/\Q (g i j) H
def rU (g:Int->V):V->Hp->VK->Prop:=λx H Q=>∃i,x=.int i/\Q (g i) H
section
variable {X:Cx}{a b c:Expr}{ta tb tc:TE}{pos:Pos}
theorem aes (ha:PE X a ta)(hb:PE X b tb){π:Zl}{s:bE}{σ:St}{H:Hp}{R:V->V->Hp->Prop}(I:Inv X π σ H s)
  (h:ta σ H λx H1=>tb σ H1 λy H2=>R x y H2) {Q:Zs} {f:a9->a9->Sem a9}
  (hf:∀v u s2 x y H2,Inv X π σ H2 s2->RelV x v->RelV y u->R x y H2->b9 (eB X.prog X.w) X.A (f v u) Q X.xe s2):
  b9 (eB X.prog X.w) X.A (eval a X.env) (λv s₁=>b9 (eB X.prog X.w) X.A (eval b X.env) (λu s₂=>b9 (eB X.prog X.w) X.A (f v u) Q X.xe s₂) X.xe s₁) X.xe s:=by
 refine thn (ha π s σ H _ I h) λv s1 hE=>xq2 hE λx H1 I1 r1 q1=>?_;refine thn (hb π s1 σ H1 _ I1 q1) λu s2 hE=>xq2 hE λy H2 I2 r2 q2=>?_;exact hf v u s2 x y H2 I2 r1 r2 q2
theorem agy (ho:OpR X (kd op) r)(ha:PE X a ta)(hb:PE X b tb):PE X (.BinOp a op b pos) (tOp r ta tb):=by
 intro π s σ H Q I h;exact wpAny_BinOp<|aes ha hb I h λv u s2 x y H2 I2 rx ry q=>ho π s2 σ H2 x y v u Q I2 rx ry q
theorem afo (ho:UnR X (unaryOp op) r)(ha:PE X a ta):PE X (.UnaryOp op a pos) (tUn r ta):=by
 intro π s σ H Q I h;exact UnaryOp_<|thn (ha π s σ H _ I h) λv s1 hE=>xq2 hE λx H1 I1 r1 q1=>ho π s1 σ H1 x v Q I1 r1 q1
theorem opI {f:a9->a9->Sem a9}{C:Int->Int->Prop}{g:Int->Int->Int}
  (rule:∀(i j:Int) (t u:Tok) (s:bE) (Q:Zs) (E:Zs),C i j->Q (.int (g i j) s.toks) { s with toks:=s.toks+1 }->b9 (eB X.prog X.w) X.A (f (.int i t)<|.int j u) Q E s):
  OpR X f (rI C λi j=>.int<|g i j):=by
 intro π s σ H x y v u Q I rx ry h;obtain⟨i,j,rfl,rfl,hc,q⟩:=h;obtain⟨t,rfl⟩:=rx;obtain⟨t',rfl⟩:=ry;exact rule i j t t' s _ _ hc ⟨.int<|g i j,H,I.tok _,⟨_,rfl⟩,q⟩
theorem afv {f:a9->a9->Sem a9}{g:Int->Int->Int}
  (rule:∀(i j:Int) (t u:Tok) (s:bE) (Q:Zs) (E:Zs),Q (.int (g i j) s.toks) { s with toks:=s.toks+1 }->b9 (eB X.prog X.w) X.A (f (.int i t)<|.int j u) Q E s):
  OpR X f (rI0 λi j=>.int<|g i j):=by
 intro π s σ H x y v u Q I rx ry h;obtain⟨i,j,rfl,rfl,q⟩:=h;obtain⟨t,rfl⟩:=rx;obtain⟨t',rfl⟩:=ry;exact rule i j t t' s _ _ ⟨.int<|g i j,H,I.tok _,⟨_,rfl⟩,q⟩
theorem ad6 {f:a9->a9->Sem a9}{g:Int->Int->Bool}
  (rule:∀(i j:Int) (t u:Tok) (s:bE) (Q:Zs) (E:Zs),Q (.bool<|g i j) s->b9 (eB X.prog X.w) X.A (f (.int i t)<|.int j u) Q E s):
  OpR X f (rI0 λi j=>.bl<|g i j):=by
 intro π s σ H x y v u Q I rx ry h;obtain⟨i,j,rfl,rfl,q⟩:=h;obtain⟨t,rfl⟩:=rx;obtain⟨t',rfl⟩:=ry;exact rule i j t t' s _ _ ⟨.bl<|g i j,H,I,rfl,q⟩
theorem ac5:OpR X (kd .Add) (rI0 λi j=>.int<|i+j):=afv λ_ _ _ _ _ _ _ q=>add_int q
theorem aeS:OpR X (kd .Sub) (rI0 λi j=>.int<|i-j):=afv λ_ _ _ _ _ _ _ q=>sub_int q
theorem aal:OpR X (kd .Mod) (rI (λ_ j=>j≠0) λi j=>.int<|i.fmod j):=opI λ_ _ _ _ _ _ _ hc q=>mod_int' hc q
theorem unI {f:a9->Sem a9}{g:Int->Int}
  (rule:∀(i:Int) (t:Tok) (s:bE) (Q:Zs) (E:Zs),Q (.int (g i) s.toks) { s with toks:=s.toks+1 }->b9 (eB X.prog X.w) X.A (f<|.int i t) Q E s):
  UnR X f (rU λi=>.int<|g i):=by
 intro π s σ H x v Q I rx h;obtain⟨i,rfl,q⟩:=h;obtain⟨t,rfl⟩:=rx;exact rule i t s _ _ ⟨.int<|g i,H,I.tok _,⟨_,rfl⟩,q⟩
theorem adp:UnR X (unaryOp .USub) (rU λi=>.int (-i)):=unI λ_ _ _ _ _ q=>neg_int q
end
noncomputable def agi:V->V->Bool
 | .non,.non=>true|.non,.int _=>true|.int _,.non=>true|.non,.bl _=>true|.bl _,.non=>true|.non,.str _=>true|.str _,.non=>true
 | .int _,.int _=>true|.bl _,.bl _=>true|.str _,.str _=>true|.byt _,.byt _=>true
 | .int _,.str _=>true|.str _,.int _=>true|.bl _,.str _=>true|.str _,.bl _=>true
 |_,_=>false
def rEq:R2:=λx y H Q=>agi x y=true/\Q (.bl<|decide<|x=y) H
def rNe:R2:=λx y H Q=>agi x y=true/\Q (.bl<|!decide (x=y)) H
theorem Su:decide (V.int i=V.int j)=(i==j):=by
 rw[sg]
 simp
theorem Xu:decide (V.bl i=V.bl j)=(i==j):=by
 rw[sg]
 simp
theorem UJ:decide (V.str i=V.str j)=(i==j):=by
 rw[sg]
 simp
theorem Ui:decide (V.byt i=V.byt j)=(i.toList==j.toList):=by
 rw[sg];cases i;cases j
 simp
section
theorem bL (I:Inv X π σ H s)(q:Q (.bl k) H)(e:k=k'):EP X π σ Q (.bool k') s:=by
 subst e;exact⟨.bl k,H,I,rfl,q⟩
theorem S7:OpR X (fN .Eq) rEq:=by
 intro π s σ H x y v u Q I rx ry h;obtain⟨hs,q⟩:=h;cases x with
 |non=>
  cases rx;cases y with
  |non=>cases ry;exact PySem.EqNone.eq_none_none<|bL I q<|by simp
  |bl j=>cases ry;exact PySem.EqNone.eq_none_bool<|bL I q<|by simp
  |int j=>obtain⟨t',rfl⟩:=ry;exact PySem.EqNone.eq_none_int<|bL I q<|by simp
  |str j=>obtain⟨t',rfl⟩:=ry;exact PySem.EqNone.eq_none_str<|bL I q<|by simp
  |_=>exact absurd (show false=true from hs) be
 |bl i=>
  cases rx;cases y with
  |non=>cases ry;exact PySem.EqNone.eq_bool_none<|bL I q<|by simp
  |bl j=>cases ry;exact eq_bool<|bL I q Xu
  |str j=>obtain⟨t',rfl⟩:=ry;exact PySem.EqMixed.eq_bool_str<|bL I q<|by simp
  |_=>exact absurd (show false=true from hs) be
 |int i=>
  obtain⟨t,rfl⟩:=rx;cases y with
  |non=>cases ry;exact PySem.EqNone.eq_int_none<|bL I q<|by simp
  |int j=>obtain⟨t',rfl⟩:=ry;exact eq_int<|bL I q Su
  |str j=>obtain⟨t',rfl⟩:=ry;exact PySem.EqMixed.eq_int_str<|bL I q<|by simp
  |_=>exact absurd (show false=true from hs) be
 |str i=>
  obtain⟨t,rfl⟩:=rx;cases y with
  |non=>cases ry;exact PySem.EqNone.eq_str_none<|bL I q<|by simp
  |bl j=>cases ry;exact PySem.EqMixed.eq_str_bool<|bL I q<|by simp
  |int j=>obtain⟨t',rfl⟩:=ry;exact PySem.EqMixed.eq_str_int<|bL I q<|by simp
  |str j=>obtain⟨t',rfl⟩:=ry;exact eq_str<|bL I q UJ
  |_=>exact absurd (show false=true from hs) be
 |byt i=>
  obtain⟨t,rfl⟩:=rx;cases y with
  |byt j=>obtain⟨t',rfl⟩:=ry;exact W.eq_bytes<|bL I q Ui
  |_=>exact absurd (show false=true from hs) be
 |_=>cases y<;>exact absurd (show false=true from hs) be
theorem Tw:OpR X (fN .NotEq) rNe:=by
 intro π s σ H x y v u Q I rx ry h;obtain⟨hs,q⟩:=h;cases x with
 |non=>
  cases rx;cases y with
  |non=>cases ry;exact PySem.EqNone.ne_none_none<|bL I q<|by simp
  |bl j=>cases ry;exact PySem.EqNone.ne_none_bool<|bL I q<|by simp
  |int j=>obtain⟨t',rfl⟩:=ry;exact PySem.EqNone.ne_none_int<|bL I q<|by simp
  |str j=>obtain⟨t',rfl⟩:=ry;exact PySem.EqNone.ne_none_str<|bL I q<|by simp
  |_=>exact absurd (show false=true from hs) be
 |bl i=>
  cases rx;cases y with
  |non=>cases ry;exact PySem.EqNone.ne_bool_none<|bL I q<|by simp
  |bl j=>cases ry;exact ne_bool<|bL I q<|congrArg not Xu
  |str j=>obtain⟨t',rfl⟩:=ry;exact PySem.EqMixed.ne_bool_str<|bL I q<|by simp
  |_=>exact absurd (show false=true from hs) be
 |int i=>
  obtain⟨t,rfl⟩:=rx;cases y with
  |non=>cases ry;exact PySem.EqNone.ne_int_none<|bL I q<|by simp
  |int j=>obtain⟨t',rfl⟩:=ry;exact ne_int<|bL I q<|congrArg not Su
  |str j=>obtain⟨t',rfl⟩:=ry;exact PySem.EqMixed.ne_int_str<|bL I q<|by simp
  |_=>exact absurd (show false=true from hs) be
 |str i=>
  obtain⟨t,rfl⟩:=rx;cases y with
  |non=>cases ry;exact PySem.EqNone.ne_str_none<|bL I q<|by simp
  |bl j=>cases ry;exact PySem.EqMixed.ne_str_bool<|bL I q<|by simp
  |int j=>obtain⟨t',rfl⟩:=ry;exact PySem.EqMixed.ne_str_int<|bL I q<|by simp
  |str j=>obtain⟨t',rfl⟩:=ry;exact ne_str<|bL I q<|congrArg not UJ
  |_=>exact absurd (show false=true from hs) be
 |byt i=>
  obtain⟨t,rfl⟩:=rx;cases y with
  |byt j=>obtain⟨t',rfl⟩:=ry;exact W.ne_bytes<|bL I q<|congrArg not Ui
  |_=>exact absurd (show false=true from hs) be
 |_=>cases y<;>exact absurd (show false=true from hs) be
theorem afy:OpR X (fN .Lt) (rI0 λi j=>.bl<|decide<|i<j):=ad6 λ_ _ _ _ _ _ _ q=>lt_int q
theorem afk:OpR X (fN .Gt) (rI0 λi j=>.bl<|decide<|j<i):=ad6 λ_ _ _ _ _ _ _ q=>gt_int q
theorem afr:OpR X (fN .GtE) (rI0 λi j=>.bl<|decide<|j<=i):=ad6 λ_ _ _ _ _ _ _ q=>ge_int q
theorem lY (b:Expr){op:CmpOp}(h:op≠.In:=by decide)(h2:op≠.NotIn:=by decide):lh op b=false:=by
 have e1:(op==CmpOp.In)=false:=by cases op<;>first|rfl|exact absurd rfl h
 have e2:(op==CmpOp.NotIn)=false:=by cases op<;>first|rfl|exact absurd rfl h2
 cases b<;>simp[lh,e1,e2]
theorem aaG (ho:OpR X (fN op) r)(ha:PE X a ta)(hb:PE X b tb)(hm:lh op b=false):PE X (.Compare a [op] [b] pos) (tOp r ta tb):=by
 intro π s σ H Q I h;exact wpAny_Compare1 (aes ha hb I h λv u s2 x y H2 I2 rx ry q=>ho π s2 σ H2 x y v u Q I2 rx ry q) hm
def afT (t:TE):TT:=λσ H Q=>t σ H λx H'=>∃k,x=.bl k/\Q k H'
theorem aat (ho:OpR X (fN op) r)(ha:PE X a ta)(hb:PE X b tb)(hm:lh op b=false):PT X (.Compare a [op] [b] pos) (afT<|tOp r ta tb):=by
 intro π s σ H Q I h;refine wpAny_isTrue_Compare1 (thn (ha π s σ H _ I h) λv s1 hE=>xq2 hE λx H1 I1 r1 q1=>thn (hb π s1 σ H1 _ I1 q1) λu s2 hE=>xq2 hE λy H2 I2 r2 q2=>
  thn (ho π s2 σ H2 x y v u _ I2 r1 r2 q2) λc s3 ⟨z,H3,I3,r3,k,e,q3⟩=>?_) hm
 subst e;cases r3;exact mI ⟨H3,I3,q3⟩
theorem Al:(av:Nat)<2^63:=by rw[zD];decide
theorem Om:OpR X (kd .Add) (λx y H Q=>∃i j,x=.str i/\y=.str j/\i.length+j.length<=av/\Q (.str<|i++j) H):=by
 intro π s σ H x y v u Q I rx ry h;obtain⟨i,j,rfl,rfl,hz,q⟩:=h;obtain⟨t,rfl⟩:=rx;obtain⟨t',rfl⟩:=ry;exact add_str (λt' tk=>⟨.str<|i++j,H,I.tok _,⟨_,rfl⟩,q⟩) hz
theorem vals1 (r:Vals [x] us):∃u,us=[u]/\RelV x u:=by
 cases r with
 |cons r1 r2=>cases r2;exact⟨_,rfl,r1⟩
theorem vals2 (r:Vals [x,y] us):∃u w',us=[u,w']/\RelV x u/\RelV y w':=by
 cases r with
 |cons r1 r2=>
  cases r2 with
  |cons r3 r4=>cases r4;exact⟨_,_,rfl,r1,r3⟩
theorem W9:lC X (.builtin "abs") (λxs H Q=>∃i,xs=[.int i]/\Q (.int<|if i<0 then -i else i) H):=by
 intro π s σ H xs us Q I r h;obtain⟨i,rfl,q⟩:=h;obtain⟨u,rfl,t,rfl⟩:=vals1 r;exact call_abs_int λu tk=>⟨.int<|if i<0 then -i else i,H,I.tok _,⟨_,rfl⟩,q⟩
end
structure adF (h:Heap)(x dx C:Addr)(mA:Zp):Prop where
 obj:h.get? x=some (W.instObj C dx)
 ns:h.Ns1 dx mA
 ne:dx≠x
theorem Vq {h:Heap}(n:h.Ns1 dx mA):∃od,h.get? dx=some od/\∀name,W.lookIn name od=some (mA name):=by
 refine Tt n λo es ep ho hd hk _ hm=>?_;refine⟨o,ho,λname=>?_⟩;have e:=hm name;unfold nsFind findBy at e;rw[← Array.find?_toList] at e;unfold W.lookIn;rw[hd];dsimp only;split
 ·rename_i y q;rw[q] at e;exact congrArg some e
 ·rename_i q;rw[q] at e;have a:es.toList.any (·.refKey)=false:=by
   rw[List.any_eq_false];intro y hy;obtain⟨z,t,hkey⟩:=hk y<|Array.mem_toList_iff.mp hy;simp[DictEntry.refKey,hkey]
  have a':¬es.toList.any (·.refKey)=true:=by rw[a];exact be
  rw[if_neg a'];exact congrArg some e
theorem adF.look (I:adF h x dx C mA):∃od,W.InstAt h x (W.instObj C dx) C (some od)/\∀name,W.lookIn name od=some (mA name):=
 let⟨od,ho,hl⟩:=Vq I.ns
 ⟨od,⟨I.obj,rfl,rfl,ho⟩,hl⟩
section
variable {prog:cS}{w:gu}{A:i7}{E:Zs}{s:bE}{K:bq}{x dx C f:Addr}{mA:Zp}{name:Str}{v:a9}
end
theorem Bj.some_of (r:Bj (some v) o):∃u,o=some u/\RelV v u:=by
 cases o with
 |none=>exact(show False from r).elim
 |some u=>exact⟨u,rfl,r⟩
section
theorem Z8 (hok:HOk P w H h)(e:H a=some (.ins C dx fs)):∃mA,adF h a dx C mA/\(∀f,Bj (fs.lookup f)<|mA f)/\PySem.Within mA (fs.map (·.1))/\fs.length<=1000/\H dx=some (.own a):=by
 obtain⟨d,z,ne,ob,mA,n,r,q⟩:=(show cU P w H h a (.ins C dx fs) from hok a _ e);exact⟨mA,⟨ob,n,ne⟩,r,q,z,d⟩
end
structure Cls (K:bq)(C:Addr):Prop where
 pg:W.plainGet K C BG=true
 hd:W.hasDictIn K C=true
 po:W.plainOver K C=true
 sa:W.findIn K (.ref C) "__setattr__" = some (some (.builtin "object.__setattr__"))
theorem Cls.get {K:bq}{C:Addr}(c:Cls K C)(f:Str):W.plainGet K C f=true:=c.pg
section
variable {X:Cx}{π:Zl}{σ:St}{H:Hp}{s:bE}{a C dx:Addr}{fs:List (Str×V)}{f:Str}{v:V}{A:i7}{E:Zs}
end
section
end
section
inductive Ag (K:bq)(H:Hp):V->a9->Prop where
 |non:Ag K H .non (.type "NoneType")
 |bl (x:Bool):Ag K H (.bl x) (.type "bool")
 |int (i:Int):Ag K H (.int i) (.type "int")
 |str (x:Str):Ag K H (.str x) (.type "str")
 |flt (x:UInt64):Ag K H (.flt x) (.type "float")
 |lst {a:Addr} {xs:List V} (e:H a=some (.lst xs)):Ag K H (.ref a) (.type "list")
 |frz {a:Addr} {o:Obj} {xs:List V} (e:H a=some (.frz o (.lst xs))):Ag K H (.ref a) (.type "list")
 |tup {a:Addr} {xs:List V} (e:H a=some (.tup xs)):Ag K H (.ref a) (.type "tuple")
 |dK {a:Addr} {ι:List (Key×V)} (e:Rd H a (.dK ι)):Ag K H (.ref a) (.type "dict")
 |dT {a:Addr} {T:Addr->List V->Prop} {ι:List (List Kt×V)} (e:H a=some (.dT T ι)):Ag K H (.ref a) (.type "dict")
 |ins {a C dx:Addr} {fs:List (Str×V)} (e:H a=some (.ins C dx fs)) (cl:Cls K C) (ha:W.findIn K (.ref C) "__class__" = some (some (.builtin "object.__class__")))
   (hn:W.specialIn K (.builtin "object.__class__") "__get__" = some (some (.builtin "getset_descriptor.__get__"))) (htk:W.takesIn K (.builtin "object.__class__")=some true)
   (hm:W.mroIn K C (.type "object")=some true):Ag K H (.ref a) (.ref C)
theorem Vz (I:Inv X π σ H s)(rx:RelV x u)(ty:Ag X.K H x t)(e:BB X.K t c=some b)(h:∀tk,Q (.bool b) { s with toks:=tk }):
  b9 (eB X.prog X.w) A (call (.builtin "isinstance") [u,c]) Q E s:=by
 cases ty with
 |non=>cases(show u=ij from rx);exact lI W.kitx_none I.kIn iA e (λz=>nomatch z) h
 |bl y=>cases(show u=A0 y from rx);exact lI W.kitx_bool I.kIn iA e (λz=>nomatch z) h
 |int i=>obtain⟨t,q⟩:=(show ∃t,u=AF i t from rx);cases q;exact lI W.kitx_int I.kIn iA e (λz=>nomatch z) h
 |str y=>obtain⟨t,q⟩:=(show ∃t,u=AG y t from rx);cases q;exact lI W.kitx_str I.kIn iA e (λz=>nomatch z) h
 |flt y=>obtain⟨t,q⟩:=(show ∃t,u=Value.float y t from rx);cases q;exact lI W.kitx_float I.kIn iA e (λz=>nomatch z) h
 | @lst a xs ea=>
  cases(show u=c9 a from rx);obtain⟨_,_,n,_,h1⟩:=(show cU X.prog X.w H s.heap a (.lst xs) from I.hok a _ ea);exact lI W.kitx_list I.kIn ⟨_,h1,rfl⟩ e (λz=>nomatch z) h
 | @frz a ob xs ea=>
  cases(show u=c9 a from rx);obtain⟨_,_,_,n,_,h1⟩:=(show cU X.prog X.w H s.heap a (.frz ob<|.lst xs) from I.hok a _ ea);exact lI W.kitx_list I.kIn ⟨_,h1,rfl⟩ e (λz=>nomatch z) h
 | @tup a xs ea=>
  cases(show u=c9 a from rx);obtain⟨_,_,_,p⟩:=(show cU X.prog X.w H s.heap a (.tup xs) from I.hok a _ ea);obtain⟨o,h1,h2,_⟩:=p;exact lI W.kitx_tuple I.kIn ⟨o,h1,h2⟩ e (λz=>nomatch z) h
 | @dK a ι ea=>
  cases(show u=c9 a from rx);obtain⟨_,_,vs,_,p⟩:=(show cU X.prog X.w H s.heap a (.dK ι) from ea.ok I.hok);refine Gi p λo es ep h1 h2 _=>?_;exact lI W.kitx_dict I.kIn ⟨o,h1,h2.1⟩ e (λz=>nomatch z) h
 | @dT a T ι ea=>
  cases(show u=c9 a from rx);obtain⟨_,_,xs,_,o,es,ep,h1,h2,_⟩:=(show cU X.prog X.w H s.heap a (.dT T ι) from I.hok a _ ea);exact lI W.kitx_dict I.kIn ⟨o,h1,h2.1⟩ e (λz=>nomatch z) h
 | @ins a C dx fs ea cl ha hn htk hm=>
  cases(show u=c9 a from rx);obtain⟨mA,O,_⟩:=Z8 I.hok ea;obtain⟨od,J,_⟩:=O.look;exact lI (W.kitx_own (cl.get _) cl.hd ha hn htk hm) I.kIn J e (λz=>nomatch z) h
end
structure eE (k:Nat)(A:i7):Prop where
 hd:A.handled=none
 dp:A.depth+3*k+5<recursionLimit
 un:A.units+16*k+200<mE
 gd:A.guards=some []
theorem eE.mono (r:eE k A)(h:j<=k):eE j A:=⟨r.hd,by have:=r.dp;lia,by have:=r.un;lia,r.gd⟩
theorem eE.deeper (r:eE (k+1) A)(env:Env):eE k (A.deeper env):=
 ⟨r.hd,by have:=r.dp;show A.depth+1+3*k+5<_;lia,by have:=r.un;show A.units+3+16*k+200<_;lia,r.gd⟩
theorem eE.depth (r:eE k A):A.depth<recursionLimit:=by have:=r.dp;lia
theorem eE.units (r:eE k A):A.units+64<mE:=by have:=r.un;lia
theorem eE.W6 (r:eE k A):A.units<mE:=by have:=r.un;lia
def ahu:TA:=λ_ H Q=>Q [] H
def afs (ta:TE)(tr:TA):TA:=λσ H Q=>ta σ H λx H1=>tr σ H1 λxs H2=>Q (x::xs) H2
section
theorem vD:PA X [] ahu:=λ_ _ _ _ H Q I h=>pE ⟨[],H,I,.nil,h⟩
theorem lQ (ha:PE X e te)(hr:PA X es t)(hs:aS (e::es) X.env=(false,eval e X.env)::aS es X.env:=by rfl):PA X (e::es) (afs te t):=by
 intro pos π s σ H Q I h;rw[hs];show b9 _ _ (spliced ((false,eval e X.env)::l7 pos (aS es X.env))) _ _ s;refine kx<|thn (ha π s σ H _ I h) λu s1 hE=>xq2 hE λx H1 I1 r1 q1=>?_;exact thn (hr pos π s1 σ H1 _ I1 q1) λus s2 hE=>xq2 hE λxs H2 I2 r2 q2=>⟨x::xs,H2,I2,.cons r1 r2,q2⟩
def ahl (t:TA):TE:=λσ H Q=>t σ H λxs H1=>xs.length<=av/\∀p,H1 p=none->Q (.ref p) (upd H1 p<|.tup xs)
def ag7 (t:TA):TE:=λσ H Q=>t σ H λxs H1=>xs.length<=av/\∀p,H1 p=none->Q (.ref p) (upd H1 p<|.lst xs)
theorem ae0 (h:PA X es t):PE X (.Tuple es x1 pos) (ahl t):=by
 intro π s σ H Q I hq;refine wpAny_Tuple_spliced<|thn (h pos π s σ H _ I hq) λus s1 ⟨xs,H1,I1,r,z,q⟩=>⟨by rw[← r.length];exact z,?_⟩;have hf:H1 s1.heap.objs.size=none:=I1.hok.fresh<|aI _;refine⟨.ref s1.heap.objs.size,upd H1 s1.heap.objs.size<|.tup xs,I1.laid (t':=s1.toks) (λb u e=>ag _ e) (aI _) ?_,rfl,q _ hf⟩;exact⟨z,us,r,⟨_,ay _ rfl,rfl,_,rfl⟩⟩
theorem aen (h:PA X es t):PE X (.List es pos) (ag7 t):=by
 intro π s σ H Q I hq;refine wpAny_List_spliced<|thn (h pos π s σ H _ I hq) λus s1 ⟨xs,H1,I1,r,z,q⟩=>⟨by rw[← r.length];exact z,?_⟩;have hf:H1 s1.heap.objs.size=none:=I1.hok.fresh<|aI _;refine⟨.ref s1.heap.objs.size,upd H1 s1.heap.objs.size<|.lst xs,I1.laid (t':=s1.toks) (λb u e=>ag _ e) (aI _) ?_,rfl,q _ hf⟩;exact⟨z,us,0,r,ay _ rfl⟩
end
abbrev Sp:=List V->Hp->VK->XK->Prop
abbrev CXT:=List Env->Hp->bE->XK->Zs
structure abr (P:cS)(w:gu)(K:bq)(mg:Zp)(base:Heap)(A:i7)(outer:List Env)(s:bE)(H:Hp):Prop where
 frames:A.frames=some outer
 mod:Mod K mg base
 bs:∀b o,base.get? b=some o->s.heap.get? b=some o/\H b=none
 bsz:base.objs.size<=s.heap.objs.size
 G7:s.heap.FunFrames base outer
 frf:∀b∈frs outer,H b=none
 hok:HOk P w H s.heap
 bare:vT s.gens
def CE (outer:List Env)(P:cS)(w:gu)(H:Hp)(s:bE)(Q:VK)(u:a9)(s':bE):Prop:=
 ∃v H',s'.os=s.os/\vT s'.gens/\Un (frs outer) [] H H' s.heap s'.heap/\HOk P w H' s'.heap/\RelV v u/\Q v H'
def CR (CX:CXT)(outer:List Env)(P:cS)(w:gu)(H:Hp)(s:bE)(Q:VK)(E:XK)(r:Result)(s':bE):Prop:=
 match r with
 | .ok (.ret u)=>CE outer P w H s Q u s'
 | .ok _=>False
 | .error e=>CX outer H s E e s'
structure rT (P:cS)(w:gu)(K:bq)(mg:Zp)(base:Heap)(CX:CXT)(k:Nat)(f:Addr)(fd:kK)(ps:List Str)(sp:Sp):Prop where
 len:∀vs H Q E,sp vs H Q E->vs.length=ps.length
 run:∀(A:i7) (outer:List Env) (s:bE) (H:Hp) (args:Args) (us:List a9) (vs:List V) (Q:VK) (E:XK),eE k A->abr P w K mg base A outer s H->BH s fd args (ps.zip us)->Vals vs us->sp vs H Q E->
  A1 (eB P w) A (.call (.ref f) args) (CR CX outer P w H s Q E) s
theorem rT.imp {P:cS}{w:gu}{K:bq}{mg:Zp}{base:Heap}{CX:CXT}{k:Nat}{f:Addr}{fd:kK}{ps:List Str}{sp sp':Sp}(F:rT P w K mg base CX k f fd ps sp)
  (h:∀vs H Q E,sp' vs H Q E->sp vs H Q E):rT P w K mg base CX k f fd ps sp':=
 ⟨λvs H Q E q=>F.len vs H Q E<|h _ _ _ _ q,λA outer s H args us vs Q E hr he hb hv hs=>F.run A outer s H args us vs Q E hr he hb hv<|h _ _ _ _ hs⟩
section
theorem Inv.env0 (I:Inv X π σ H s):abr X.prog X.w X.K X.mg X.base X.A X.stack s H:=
 ⟨I.ok.frames,I.ok.mod,I.bs,gz I.ok.bsz I.sz,I.stack,I.Ua,I.hok,I.bare⟩
theorem Inv.after (I:Inv X π σ H s)(h:CE X.stack X.prog X.w H s Q u s'):EP X π σ Q u s':=by
 refine LC h λv H' os bare un hok r q=>?_;obtain⟨hh,g,d,t,os'⟩:=s';obtain rfl:os'=s.os:=os;exact⟨v,H',I.call (h':=hh) (g':=g) (d':=d) (t':=t) (ch:=[]) un hok bare λb z=>absurd z (by simp),r,q⟩
end
def afE (sp:Sp)(dvs:List V)(E:XK)(t:TA):TE:=λσ H Q=>t σ H λvs H1=>sp (vs++dvs) H1 Q E
def Binds (K:bq)(fd:kK)(ps:List Str)(ds:List a9):Prop:=
 ∀(s:bE) (us:List a9),K.In s.heap->(us++ds).length=ps.length->BH s fd ⟨us,[]⟩ (ps.zip<|us++ds)
theorem Binds.all {K:bq}{fd:kK}{ps:List Str}(h:∀us:List a9,us.length=ps.length->bindArgs fd ⟨us,[]⟩=pure (ps.zip us)):Binds K fd ps []:=λs us _ hl=>by
 rw[eT] at hl ⊢;exact .of_eq<|h us hl
def Passes (CX:CXT)(X:Cx)(E:XK):Prop:=∀(π:Zl) (σ:St) (H:Hp) (s:bE) (e:a9) (s':bE),Inv X π σ H s->CX X.stack H s E e s'->X.xe e s'
section
variable {X:Cx}{CX:CXT}{k:Nat}{f C:Addr}{fd:kK}{ps:List Str}{sp:Sp}{dvs:List V}{ds:List a9}{E:XK}{x m:Str}{p pos apos:Pos}{e o:Expr}{es:List Expr}{ta:TE}{t:TA}
theorem aeV (F:rT X.prog X.w X.K X.mg X.base CX k f fd ps sp)(hr:eE k X.A)(hb:Binds X.K fd ps ds)(hd:Vals dvs ds)(hx:Passes CX X E)
  (I:Inv X π σ H s) (r:Vals vs us) (h:sp (vs++dvs) H Q E):b9 (eB X.prog X.w) X.A (call (.ref f) us) (EP X π σ Q) X.xe s:=by
 have r2:Vals (vs++dvs) (us++ds):=r.append hd;have hl:(us++ds).length=ps.length:=by rw[← r2.length];exact F.len _ _ _ _ h
 refine wpAny_call<|codeAny_mono (F.run X.A X.stack s H ⟨us,[]⟩ (us++ds) (vs++dvs) Q E hr I.env0 (hb s us I.kIn hl) r2 h) λr s' hq=>?_;cases r with
 |error e=>exact hx π σ H s e s' I hq
 |ok fl=>
  cases fl with
  |ret u=>exact I.after hq
  |next=>exact og hq
  |brk=>exact og hq
  |cont=>exact og hq
theorem J6 (F:rT X.prog X.w X.K X.mg X.base CX k f fd ps sp)(hr:eE k X.A)(hg:Gl X x)(hm:X.mg x=some (.ref f))(hk:BC X.K (.ref f)=true)(hb:Binds X.K fd ps ds)(hd:Vals dvs ds)(hx:Passes CX X E)
  (ha:PA X (e::es) t) (hdb:(x==("__debug__":Str))=false:=by decide) (he:aS (e::es) X.env=(false,eval e X.env)::aS es X.env:=by rfl) (υ:(l7 pos<|aS es X.env).any (·.1)=false:=by rfl):
  PE X (.Call (.Name x p) (e::es) [] pos) (afE sp dvs E t):=by
 intro π s σ H Q I h;refine l9<|Rz I hg hm ?_ hdb;refine W.callWith_K (h₀:=X.base) I.ok.mod.kin hk (thn (ha pos π s σ H _ I h) λus s1 hE=>xq2 hE λvs H1 I1 r q=>⟨I1.kIn,?_⟩) he υ;exact aeV F hr hb hd hx I1 r q
end
section
end
structure aG (N P:List Str)(sc:zd):Prop where
 kind:sc.kind=.function
 co:sc.isCoroutine=false
 gen:sc.isGenerator=false
 nd:N.Nodup
 pre:N.take P.length=P
 par:∀x∈P,sc.names.lookup x=some .local\/sc.names.lookup x=some .cell
 nofree:∀y∈sc.names,y.2≠.free
theorem Ij {uj:Str->Option v3}{x:Str}:∀{binds:List (Str×a9)} {m:Zp},(∀v,(x,v)∉binds)->bindL uj binds m x=m x
 |[],_,_=>rfl
 |(n,v)::r,m,h=>by
  unfold bindL;rw[Ij λw hw=>h w<|ae _ hw];split
  ·have:x≠n:=by rintro rfl;exact h v af
   simp[this]
  ·rfl
theorem Hw {uj:Str->Option v3}{x:Str}:∀{binds:List (Str×a9)} {m:Zp},(∀v,(x,v)∉binds)->bindC uj binds m x=m x
 |[],_,_=>rfl
 |(n,v)::r,m,h=>by
  unfold bindC;rw[Hw λw hw=>h w<|ae _ hw];split
  ·rfl
  ·have:x≠n:=by rintro rfl;exact h v af
   simp[this]
theorem Ig {uj:Str->Option v3}{x:Str}{v:a9}:∀{P:List Str} {vs:List a9} {i:Nat} {m:Zp},P.Nodup->P[i]? = some x->vs[i]? = some v->uj x=some .local->
  bindL uj (P.zip vs) m x=some v
 |[],_,_,_,_,h,_,_=>by simp at h
 |_::_,[],_,_,_,_,h,_=>by simp at h
 |p::P,w::vs,0,m,nd,h1,h2,hk=>by
  simp at h1 h2;subst h1;subst h2;show bindL uj ((p,w)::P.zip vs) m p=_;unfold bindL;rw[Ij λv hv=>(hC.mp nd).1 (x8 hv).1,if_pos hk]
  simp
 |p::P,w::vs,i+1,m,nd,h1,h2,hk=>by
  show bindL uj ((p,w)::P.zip vs) m x=_;unfold bindL;exact Ig (i:=i) (hC.mp nd).2 (by simpa using h1) (by simpa using h2) hk
theorem Ib {uj:Str->Option v3}{x:Str}{v:a9}:∀{P:List Str} {vs:List a9} {i:Nat} {m:Zp},P.Nodup->P[i]? = some x->vs[i]? = some v->uj x≠some .local->
  bindC uj (P.zip vs) m x=some v
 |[],_,_,_,_,h,_,_=>by simp at h
 |_::_,[],_,_,_,_,h,_=>by simp at h
 |p::P,w::vs,0,m,nd,h1,h2,hk=>by
  simp at h1 h2;subst h1;subst h2;show bindC uj ((p,w)::P.zip vs) m p=_;unfold bindC;rw[Hw λv hv=>(hC.mp nd).1 (x8 hv).1,if_neg hk]
  simp
 |p::P,w::vs,i+1,m,nd,h1,h2,hk=>by
  show bindC uj ((p,w)::P.zip vs) m x=_;unfold bindC;exact Ib (i:=i) (hC.mp nd).2 (by simpa using h1) (by simpa using h2) hk
noncomputable def start (N:List Str)(vs:List V):St:=vs.map some++dA (N.length-vs.length) none
noncomputable def Cy (CX:CXT)(P:cS)(w:gu)(K:bq)(mg:Zp)(base:Heap)(N:List Str)(qual:Str)(scope:zd)(f:Addr)(cd:a9)(A:i7)(outer:List Env)(s:bE)(H:Hp)(E:XK):Cx where
 prog:=P
 w:=w
 K:=K
 mg:=mg
 base:=base
 A:=A.deeper<|x9 qual scope s.heap.objs.size f cd
 N:=N
 s₀:=s
 H₀:=H
 env:=x9 qual scope s.heap.objs.size f cd
 outer:=outer
 stack:=x9 qual scope s.heap.objs.size f cd::outer
 ex:=[]
 calm:=true
 fn:=λ_=>true
 pn:=[]
 xe:=λe s'=>b9 (eB P w) (A.deeper<|x9 qual scope s.heap.objs.size f cd) (leaving (x9 qual scope s.heap.objs.size f cd) e) (λ_ s''=>CX outer H s E e s'') (λe' s''=>CX outer H s E e' s'') s'
theorem K5 {sc:zd}(h:sc.names.lookup x=some .cell):∃c,(cellsFrom n sc.names []).lookup x=some c:=by
 have q:=W.cellsFrom_some sc.names n []<|.inl h;exact Option.isSome_iff_exists.mp q
theorem Vi {CX:CXT}{P:cS}{w:gu}{K:bq}{mg:Zp}{base:Heap}{N ps:List Str}{qual:Str}{scope:zd}{f:Addr}{cd:a9}{A:i7}{outer:List Env}{s s1:bE}{H:Hp}{E:XK}{us:List a9}{vs:List V}
  (S:aG N ps scope) (hd:A.handled=none) (e0:abr P w K mg base A outer s H) (hl:vs.length=ps.length) (r:Vals vs us)
  (x:InCallC s s.heap.objs.size (bindL (x9 qual scope s.heap.objs.size f cd).kindOf (ps.zip us) λ_=>none) (cellsFrom (s.heap.objs.size+1) scope.names []) (bindC (x9 qual scope s.heap.objs.size f cd).kindOf (ps.zip us) λ_=>none) s1):
  Inv (Cy CX P w K mg base N qual scope f cd A outer s H E) [] (start N vs) H s1:=by
 have υ:ps.length<=N.length:=by have:=congrArg si S.pre;rw[lP] at this;lia
 obtain⟨h1,tk,rfl,hk⟩:=x.done;have noA:∀b:Addr,b∉(Cy CX P w K mg base N qual scope f cd A outer s H E).ex:=λb z=>absurd (show b∈([]:List Addr) from z) (by simp);refine⟨⟨e0.mod,S.kind,rfl,rfl,aI _,λy z c h1 h2=>?_,λy hy=>?_,λy c _ h=>?_,λ_=>hd,Around.frames_deeper e0.frames,.inr ⟨rfl,rfl⟩,λb z=>absurd z<|noA b,e0.bs,e0.bsz,λb _ _=>noA b,λb z=>absurd z<|noA b,e0.G7,e0.frf⟩,
  rfl,e0.bare,Un.kept hk,⟨_,x.toInCall.ns,λi y v h1 h2 h3=>?_⟩,λy c h=>⟨_,x.cell y c h⟩,e0.hok.fresh<|aI _,λy c h=>?_,λp hp=>absurd (show p∈([]:Zl) from hp) (by simp),e0.hok.kept hk,?_⟩
 ·exact name_of_addr x.apart (ll h1)<|ll h2
 ·have hy:scope.names.lookup y=some .cell\/scope.names.lookup y=some .free:=hy;rcases hy with hy|hy
  ·exact K5 hy
  ·exact absurd rfl<|S.nofree _<|ll hy
 ·exact A7<|x.above y c<|ll h
 ·have hi:i<vs.length:=by
   unfold start at h2;by_cases hi:i<vs.length
   ·exact hi
   ·rw[dn<|by simpa using hi] at h2;rw[gL] at h2;split at h2<;>cases h2
  have ha:vs[i]? = some v:=by
   unfold start at h2;rw[c8 (by simpa using hi),bt] at h2;cases e:vs[i]? with
   |none=>rw[e] at h2;cases h2
   |some a=>rw[e] at h2;cases h2;rfl
  obtain⟨u,hu,rv⟩:=r.get ha;have hp:ps[i]? = some y:=by
   rw[← S.pre,uk<|by lia];exact h1
  have ndP:ps.Nodup:=by rw[← S.pre];exact S.nd.sublist<|List.take_sublist _ _
  refine⟨u,rv,?_⟩;rcases S.par y (js hp) with k|k
  ·exact .inl ⟨k,Ig ndP hp hu k⟩
  ·obtain⟨c,e⟩:=K5 (n:=s.heap.objs.size+1) k;refine .inr ⟨.inl k,c,e,?_⟩;have q:=x.cell y c e;rw[Ib ndP hp hu (by show scope.names.lookup y≠_;rw[k];decide)] at q;exact q
 ·exact e0.hok.fresh<|A7<|x.above y c<|ll h
 ·unfold start;show _=N.length;rw[a8,cm,gE]
  lia
theorem afA {CX:CXT}{P:cS}{w:gu}{K:bq}{mg:Zp}{base:Heap}{k:Nat}{f:Addr}{name qual:Str}{params:Arguments}{body:List Stmt}{scope:zd}{dV kV doc pm cdv ct oc:a9}{an od:Option Addr}
  {osl:Array (Option a9)} {N ps:List Str} {sp:Sp} (lk:K.lookup f=some ⟨oc,od,.func<|AL name qual params body scope dV kV doc pm an cdv ct,osl⟩) (hcd:W.codeIn K cdv qual=true) (S:aG N ps scope)
  (len:∀vs H Q E,sp vs H Q E->vs.length=ps.length)
  (hbody:∀(A:i7) (outer:List Env) (s:bE) (H:Hp) (vs:List V) (Q:VK) (E:XK),eE k (A.deeper<|x9 qual scope s.heap.objs.size f cdv)->sp vs H Q E->
   ∃t,PSs (Cy CX P w K mg base N qual scope f cdv A outer s H E) body t/\t { nx:=λ_ H'=>Q .non H',rt:=Q } (start N vs) H):
  rT P w K mg base CX (k+1) f (AL name qual params body scope dV kV doc pm an cdv ct) ps sp:=by
 refine⟨len,λA outer s H args us vs Q E hr e0 hb r hsp=>?_⟩;have hl:=len _ _ _ _ hsp;have KX:K.In s.heap:=e0.mod.kin.keeps λb o e=>(e0.bs b o e).1;have lim:s.heap.NoLimit:=e0.mod.nolimit.keeps λb o e=>(e0.bs b o e).1;have hkind:∀y∈ps.zip us,scope.names.lookup y.1=some .local\/(scope.names.lookup y.1=some .cell/\((cellsFrom (s.heap.objs.size+1) scope.names []).lookup y.1).isSome=true):=λ⟨n,v⟩ hy=>by
  rcases S.par n (x8 hy).1 with q|q
  ·exact .inl q
  ·exact .inr ⟨q,W.cellsFrom_some _ _ _<|.inl q⟩
 refine codeAny_call_function hr.depth (KX _ _ lk) rfl S.co S.gen rfl (W.codeRec_of KX hcd)<|hb _ _ _ _ ?_;refine wpAny_newFunctionEnv_cells S.kind hkind λenv he s1 x=>?_;subst he;refine⟨lim.keeps x.toInCall.keep,codeAny_func ?_⟩;obtain⟨t,ht,hq⟩:=hbody A outer s H vs Q E (hr.deeper _) hsp;have I:Inv (Cy CX P w K mg base N qual scope f cdv A outer s H E) [] (start N vs) H s1:=Vi S hr.hd e0 hl r x;refine ki (ht [] s1 (start N vs) H _ I hq) (λfl s' hs=>?_) λe s' hs=>hs;have fin:∀{σ':St} {H':Hp} {v:V} {u:a9},Inv (Cy CX P w K mg base N qual scope f cdv A outer s H E) [] σ' H' s'->RelV v u->Q v H'->CE outer P w H s Q u s':=
  λ{σ' H' v u} J rv q=>⟨v,H',J.os,J.bare,J.base,J.hok,rv,q⟩
 cases fl with
 |ret u=>
  refine Gi hs λv σ' H' J rv q=>?_;exact fin J rv q
 |next=>
  obtain⟨σ',H',J,q⟩:=hs;exact fin (v:=V.non) (u:=ij) J rfl q
 |brk=>
  obtain⟨_,_,_,q⟩:=hs;exact og q
 |cont=>
  obtain⟨_,_,_,q⟩:=hs;exact og q
section
variable {X:Cx}{x:Str}{p pos:Pos}{e:Expr}{es:List Expr}{t:TA}{id T:String}{r:List V->Hp->VK->Prop}
def tCB (r:List V->Hp->VK->Prop)(t:TA):TE:=λσ H Q=>t σ H λvs H1=>r vs H1 Q
theorem Ml (hc:lC X (.builtin id) r)(hg:Gl X x)(hm:X.mg x=none)(hv:dQ x=some (.builtin id))(ha:PA X (e::es) t)(hn:x≠"__name__":=by decide)(hdb:(x==("__debug__":Str))=false:=by decide)
  (he:aS (e::es) X.env=(false,eval e X.env)::aS es X.env:=by rfl) (υ:(l7 pos<|aS es X.env).any (·.1)=false:=by rfl):PE X (.Call (.Name x p) (e::es) [] pos) (tCB r t):=by
 intro π s σ H Q I h;refine l9<|sH I hg hm hv ?_ hn hdb;exact PyProof.Rows.callWith_builtin1 (thn (ha pos π s σ H _ I h) λus s1 hE=>xq2 hE λvs H1 I1 r1 q1=>hc π s1 σ H1 vs us Q I1 r1 q1) he υ
theorem Ah (hc:lC X (.type T) r)(hg:Gl X x)(hm:X.mg x=none)(hv:dQ x=some (.type T))(ha:PA X (e::es) t)(hn:x≠"__name__":=by decide)(hdb:(x==("__debug__":Str))=false:=by decide)
  (he:aS (e::es) X.env=(false,eval e X.env)::aS es X.env:=by rfl) (υ:(l7 pos<|aS es X.env).any (·.1)=false:=by rfl):PE X (.Call (.Name x p) (e::es) [] pos) (tCB r t):=by
 intro π s σ H Q I h;refine l9<|sH I hg hm hv ?_ hn hdb;exact eP (thn (ha pos π s σ H _ I h) λus s1 hE=>xq2 hE λvs H1 I1 r1 q1=>hc π s1 σ H1 vs us Q I1 r1 q1) he υ
end
end L2
namespace HT
open PySem PyProof.Rows
theorem afM (A:i7)(s:bE)(a:Int)(t:Tok)(c:Int)(u:Tok):∃e,SeqAt.EqAt A s (.int a t) (.int c u) e/\(e=true↔a=c):=
 ⟨(a==c),SeqAt.EqAt.int_int a t c u,by simp⟩
theorem afb (A:i7)(s:bE)(a:Int)(t:Tok)(c:Int)(u:Tok)(prog:cS)(w:gu)(E:Zs)(Q:Zs)(h:Q (.bool<|decide<|a<c) s):
  b9 (eB prog w) A (richCompare .Lt (.int a t)<|.int c u) Q E s:=
 (PyProof.Rows.lt_int h:b9 (eB prog w) A (fN .Lt (.int a t)<|.int c u) Q E s)
section
open PySem.SeqAt
open PySem.AutoSeq1 (wpAny_loadPart')
open PySem.MeetsSeq PySem.MeetsSeq2 PySem.MeetsSeq3
end
section
variable {prog:cS}{w:gu}{A:i7}{E:Zs}{s:bE}
theorem aaz (ht:IsTup s.heap t vs.toArray)(hb:IsTup s.heap b ws.toArray)(hv:vs≠[])
  (h1:ws=[]->Q (.ref t) s) (h2:ws≠[]->Q (.ref s.heap.objs.size) { s with heap:=s.heap.push { cls:=.type "tuple",data:=.seq (vs++ws).toArray } })
  (hsz:vs.length+ws.length<=av):b9 (eB prog w) A (kd .Add (.ref t)<|.ref b) Q E s:=by
 obtain⟨⟨cls,dd,data,sl⟩,ho,hc,n,hd⟩:=id ht;obtain⟨⟨cls2,dd2,data2,sl2⟩,ho2,hc2,n2,hd2⟩:=id hb;simp only at hc hd hc2 hd2;subst hc hd hc2 hd2;have e:vs.toArray++ws.toArray=(vs++ws).toArray:=by simp
 by_cases hw:ws=[]
 ·exact ya ⟨_,ho,rfl⟩ ⟨_,ho2,rfl⟩ xi AM pj oC (om _ _)
   (tuple_addW1 t b vs.toArray ws.toArray n n2 dd dd2 sl sl2 (by simpa using hv) (by simp[hw])) ⟨ho,ho2,h1 hw⟩
 ·refine ya ⟨_,ho,rfl⟩ ⟨_,ho2,rfl⟩ xi AM pj oC (om _ _)
   (tuple_addW2 t b vs.toArray ws.toArray n n2 dd dd2 sl sl2 (by simpa using hv) (by simpa using hw) (by rw[bb,bb];exact hsz)) ⟨ho,ho2,?_⟩
  rw[e];exact h2 hw
noncomputable def sIx (n d:Nat):Option Int->Nat
 |none=>d
 |some v=>if v<0 then(v+(n:Int)).toNat else min v.toNat n
theorem adL (n d:Nat)(hd:d<=n)(o:Option Int):sIx n d o<=n:=by
 cases o with
 |none=>exact hd
 |some v=>
  show(if v<0 then(v+(n:Int)).toNat else min v.toNat n)<=n;by_cases hv:v<0
  ·rw[if_pos hv];lia
  ·rw[if_neg hv];exact Nat.min_le_right _ _
theorem Ro (v:Int)(n d:Nat):(if v<0 then max (v+(n:Int)) 0 else min v (n:Int))=((sIx n d (some v):Nat):Int):=by
 show(if v<0 then max (v+(n:Int)) 0 else min v (n:Int))=(((if v<0 then(v+(n:Int)).toNat else min v.toNat n):Nat):Int);by_cases hv:v<0
 ·simp only[if_pos hv];lia
 ·simp only[if_neg hv];lia
theorem Qc (lo hi:Option Int)(n:Nat):nc lo hi 1 (n:Int)=(((sIx n 0 lo:Nat):Int),((sIx n n hi:Nat):Int)):=by
 have h1:¬((1:Int)<0):=by lia
 unfold nc;simp only[h1,if_false];refine BY ?_ ?_
 ·cases lo with
  |none=>rfl
  |some v=>exact Ro v n 0
 ·cases hi with
  |none=>rfl
  |some v=>exact Ro v n n
theorem Ox (i j:Nat):kD (i:Int) (j:Int) 1=j-i:=by
 unfold kD;have h1:(1:Int)>0:=by lia
 simp only[h1,if_true,Int.ediv_one];split<;>lia
theorem Dy (p:A8 v o)(h:Q o s):b9 (eB prog w) A (Builtin.Slice.slicePartIndex v) Q E s:=by
 cases p with
 |none=>exact slicePart_none h
 |int i t=>exact slicePart_int h
theorem Am {sl:Addr}{vl vu:a9}{lo hi:Option Int}{n:Nat}{Q:Int×Int×Nat->bE->Prop}(hs:s.heap.IsSliceOf sl vl vu .none)(pl:A8 vl lo)(pu:A8 vu hi)
  (h:Q (((sIx n 0 lo:Nat):Int),1,sIx n n hi-sIx n 0 lo) s):b9 (eB prog w) A (sM (.ref sl)<|pure (n:Int)) Q E s:=by
 obtain⟨os,hos,hcs,hds⟩:=id hs;unfold sM Builtin.Slice.sliceFields;refine ab<|ab<|fF hos hds (x:=vl) rfl<|ab<|fF hos hds (x:=vu) rfl<|ab<|fF hos hds (x:=.none) rfl<|ai ?_;refine ab<|slicePart_none ?_;show b9 _ _ (if((1:Int)==0)=true then _ else _) _ _ s;rw[if_neg<|by decide];refine ab<|Dy pl<|ab<|Dy pu<|ab<|ai ?_;show b9 _ _ (match nc lo hi 1 (n:Int) with|(lo,hi)=>pure (lo,(1:Int),kD lo hi 1)) _ _ s;rw[Qc lo hi n];show b9 _ _ (pure (((sIx n 0 lo:Nat):Int),(1:Int),kD ((sIx n 0 lo:Nat):Int) ((sIx n n hi:Nat):Int) 1)) _ _ s;rw[Ox];exact ai h
theorem Zk (xs:Array a9)(i k:Nat):((bp k).filterMap λ(m:Nat)=>xs[((i:Int)+(m:Int)*1).toNat]?).toArray=((xs.toList.drop i).take k).toArray:=by
 have e:(λ(m:Nat)=>xs[((i:Int)+(m:Int)*1).toNat]?)=λm=>xs[i+m]?:=by
  funext m
  have:((i:Int)+(m:Int)*1).toNat=i+m:=by lia
  rw[this]
 rw[e]
 have:=pick_run xs i k
 rw[List.filterMap_map] at this;have e2:((λx=>xs[x]?)∘λx=>i+x)=λm=>xs[i+m]?:=rfl;rw[e2] at this;rw[this]
theorem zc {t sl:Addr}{items:Array a9}{vl vu:a9}{lo hi:Option Int}{Q:Zs}(ht:IsTup s.heap t items)(hs:s.heap.IsSliceOf sl vl vu .none)(pl:A8 vl lo)(pu:A8 vu hi)
  (hw:¬(sIx items.size 0 lo=0/\sIx items.size items.size hi=items.size))
  (h:Q (.ref s.heap.objs.size) { s with heap:=s.heap.push { cls:=.type "tuple",data:=.seq ((items.toList.drop<|sIx items.size 0 lo).take<|sIx items.size items.size hi-sIx items.size 0 lo).toArray } })
  (hsz:items.size<=av):b9 (eB prog w) A (zI (.ref t)<|.ref sl) Q E s:=by
 have htake:sizeOk (.seq ((items.toList.drop<|sIx items.size 0 lo).take<|sIx items.size items.size hi-sIx items.size 0 lo).toArray):=by
  show((items.toList.drop<|sIx items.size 0 lo).take<|sIx items.size items.size hi-sIx items.size 0 lo).toArray.size<=av;rw[bb,lP,nI,r9]
  lia
 have hj:sIx items.size items.size hi<=items.size:=adL _ _ (aI _) hi;obtain⟨os,hos,hcs,hds⟩:=id hs;have hTs:s.TypeIs (.ref sl) "slice":=⟨os,hos,hcs⟩;unfold zI
 try with_reducible refine jv ?_
 first|refine ab (ai ?_)|skip
 refine ab<|wpAny_sequenceKey ht.typeIs (by decide) ?_;refine ab (eW (name:=dc "__getitem__") ht.typeIs kM
  (eI kM ht.typeIs entry_tuple_getitem ?_<|args_tuple_getitem _ _))
 show b9 _ _ (sF (.ref t) >>= _) _ _ s;refine ab<|tupleItemsOf_ ht ?_;refine ab<|wpAny_typeOf hTs ?_;rw[if_pos<|by decide];refine ab<|Am hs pl pu ?_;have hno:¬((((sIx items.size 0 lo:Nat):Int)==0&&(1:Int)==1&&(sIx items.size items.size hi-sIx items.size 0 lo)==items.size)=true):=by
  intro q;rw[qB,qB] at q;have q1:((sIx items.size 0 lo:Nat):Int)=0:=eq_of_beq q.1.1;have q2:sIx items.size items.size hi-sIx items.size 0 lo=items.size:=eq_of_beq q.2;exact hw ⟨by lia,by lia⟩
 show b9 _ _ (if(((sIx items.size 0 lo:Nat):Int)==0&&(1:Int)==1&&(sIx items.size items.size hi-sIx items.size 0 lo)==items.size)=true then _ else _) _ _ s;rw[if_neg hno,Zk]
 first
  |exact ab (m:=kP _) (eC (ai ⟨_,rfl,ai h⟩) htake)
  |exact ab (m:=kP _) (eC (ab<|ai<|ai ⟨_,rfl,ai h⟩) htake)
  |exact ab (ab (m:=kP _)<|eC (ai<|ai ⟨_,rfl,ai h⟩) htake)
  |exact ab (ab (m:=kP _)<|eC (ai ⟨_,rfl,ai h⟩) htake)
end
end HT
namespace L2
open PySem PySem.Spec PyProof.Rows
abbrev TO:=St->Hp->(Option Int->Hp->Prop)->Prop
def PO (X:Cx)(e:Option Expr)(t:TO):Prop:=
 ∀(π:Zl) (s:bE) (σ:St) (H:Hp) (Q:Option Int->Hp->Prop),Inv X π σ H s->t σ H Q->
  b9 (eB X.prog X.w) X.A (evalPart e X.env) (λu s'=>∃o H',Inv X π σ H' s'/\A8 u o/\Q o H') X.xe s
def abO:TO:=λ_ H Q=>Q none H
def afZ (t:TE):TO:=λσ H Q=>t σ H λx H1=>∃i,x=.int i/\Q (some i) H1
section
variable {X:Cx}{e:Expr}{te:TE}{lo hi:Option Expr}{tl th:TO}{pos p2:Pos}
theorem aav:PO X none abO:=by
 intro π s σ H Q I h;rw[evalPart_none];exact ai ⟨none,H,I,.none,h⟩
theorem aby (h:PE X e te):PO X (some e) (afZ te):=by
 intro π s σ H Q I hw;rw[evalPart_some];refine thn (h π s σ H _ I hw) λu s1 hE=>xq2 hE λx H1 I1 r1 q1=>?_;obtain⟨i,rfl,q⟩:=q1;obtain⟨t,rfl⟩:=r1;exact⟨some i,H1,I1,.int i t,q⟩
def SlR (X:Cx)(r:V->Option Int->Option Int->Hp->VK->Prop):Prop:=
 ∀(π:Zl) (s:bE) (σ:St) (H:Hp) (x:V) (v vl vu:a9) (lo hi:Option Int) (sl:Addr) (Q:VK),Inv X π σ H s->RelV x v->s.heap.IsSliceOf sl vl vu .none->A8 vl lo->A8 vu hi->r x lo hi H Q->
  ∃T id,A2 (.type T) "__getitem__" = pure (some<|.builtin id)/\s.TypeIs v T/\b9 (eB X.prog X.w) X.A (zI v<|.ref sl) (EP X π σ Q) X.xe s
def tSl (r:V->Option Int->Option Int->Hp->VK->Prop)(te:TE)(tl th:TO):TE:=λσ H Q=>te σ H λx H1=>tl σ H1 λl H2=>th σ H2 λu H3=>r x l u H3 Q
theorem Wh (hr:SlR X r)(he:PE X e te)(hl:PO X lo tl)(hu:PO X hi th):PE X (.Subscript e (.Slice lo hi none p2) pos) (tSl r te tl th):=by
 intro π s σ H Q I h;refine Subscript_<|thn (he π s σ H _ I h) λv s1 hE=>xq2 hE λx H1 I1 r1 q1=>?_;refine wpAny_Slice<|thn (hl π s1 σ H1 _ I1 q1) λvl s2 ⟨l,H2,I2,pl,q2⟩=>thn (hu π s2 σ H2 _ I2 q2) λvu s3 hE=>?_;refine wy hE λu H3 I3 pu q3=>?_;rw[evalPart_none];refine ai ?_;have I4:Inv X π σ H3 { s3 with heap:=s3.heap.push { cls:=.type "slice",data:=.fields #[vl,vu,.none] } }:=I3.kept (t':=s3.toks) λb ob q=>ag _ q;refine wy (hr π { s3 with heap:=s3.heap.push { cls:=.type "slice",data:=.fields #[vl,vu,.none] } } σ H3 x v vl vu l u s3.heap.objs.size Q I4 r1 (Heap.IsSliceOf.new ..) pl pu q3) λT id hT ht hg=>?_;show b9 (eB X.prog X.w) X.A (AN e (.Slice lo hi none p2) v<|.ref s3.heap.objs.size) (EP X π σ Q) X.xe { s3 with heap:=s3.heap.push { cls:=.type "slice",data:=.fields #[vl,vu,.none] } };exact tail_any (ops:=[.ref s3.heap.objs.size,v]) ht hT hg<|by with_unfolding_all rfl
def MF (xs:List V)(lo hi:Option Int):List V:=(xs.drop<|HT.sIx xs.length 0 lo).take<|HT.sIx xs.length xs.length hi-HT.sIx xs.length 0 lo
theorem BJ (xs:List V)(lo hi:Option Int):(MF xs lo hi).length<=xs.length:=by
 unfold MF;rw[lP,nI]
 lia
def ahA (K:bq):V->Option Int->Option Int->Hp->VK->Prop:=λx lo hi H Q=>∃a xs,x=.ref a/\SqT K H a xs/\
 ¬(HT.sIx xs.length 0 lo=0/\HT.sIx xs.length xs.length hi=xs.length)/\∀p,H p=none->Q (.ref p) (upd H p<|.tup<|MF xs lo hi)
theorem aeY:SlR X (ahA X.K):=by
 intro π s σ H x v vl vu lo hi sl Q I rx hs pl pu h;obtain⟨a,xs,rfl,hx,hw,q⟩:=h;cases rx;obtain⟨χ,r,ht,hz⟩:=I.tuple hx;have ν:χ.toArray.size=xs.length:=by rw[bb];exact r.length.symm
 refine⟨"tuple",_,kM.lookup,ht.typeIs,?_⟩;refine HT.zc ht hs pl pu (by rw[ν];exact hw) ?_ (by rw[ν];exact hz);rw[ν];refine⟨.ref s.heap.objs.size,_,I.laid (t':=s.toks) (o:=.tup<|MF xs lo hi) (λb ob q=>ag _ q) (aI _) ?_,rfl,q _<|I.hok.fresh<|aI _⟩;exact⟨gz (BJ xs lo hi) hz,_,(r.drop<|HT.sIx xs.length 0 lo).take<|HT.sIx xs.length xs.length hi-HT.sIx xs.length 0 lo,BE _ _⟩
def agB (K:bq):R2:=λx y H Q=>∃a b xs ys,x=.ref a/\y=.ref b/\SqT K H a xs/\SqT K H b ys/\xs≠[]/\xs.length+ys.length<=av/\
 (ys=[]->Q (.ref a) H)/\(ys≠[]->∀p,H p=none->Q (.ref p) (upd H p<|.tup<|xs++ys))
theorem Vals.K3 (r:Vals xs us):us=[]↔xs=[]:=by
 cases r with
 |nil=>simp
 |cons _ _=>simp
theorem aar:OpR X (kd .Add) (agB X.K):=by
 intro π s σ H x y v u Q I rx ry h;obtain⟨a,b,xs,ys,rfl,rfl,ha,hb,hx,hz,q1,q2⟩:=h;cases rx;cases ry;obtain⟨χ,r1,p1,_⟩:=I.tuple ha;obtain⟨its2,r2,p2,_⟩:=I.tuple hb;refine HT.aaz p1 p2 (λz=>hx<|r1.K3.mp z) (λz=>⟨.ref a,H,I,rfl,q1<|r2.K3.mp z⟩) (λz=>?_) (by rw[← r1.length,← r2.length];exact hz);refine⟨.ref s.heap.objs.size,_,I.laid (t':=s.toks) (o:=.tup<|xs++ys) (λb ob q=>ag _ q) (aI _) ?_,rfl,q2 (λw=>z<|r2.K3.mpr w) _<|I.hok.fresh<|aI _⟩;exact⟨by rw[a8];exact hz,_,r1.append r2,BE _ _⟩
end
noncomputable def ixN (n:Nat)(i:Int):Option Nat:=if 0<=i then(if i<n then some i.toNat else none) else if -(n:Int)<=i then some (i+n).toNat else none
def atI {α:Type}(xs:List α)(i:Int):Option α:=(ixN xs.length i).bind λj=>xs[j]?
theorem Rk (h:ixN n i=some j):seqIndex? i n=some j/\j<n/\-(n:Int)<=i/\i<n:=by
 unfold ixN at h;by_cases h0:0<=i
 ·rw[if_pos h0] at h;by_cases h1:i<n
  ·rw[if_pos h1] at h;have e:i.toNat=j:=dE h;exact⟨by rw[seqIndex_of h0 h1,e],by lia,by lia,h1⟩
  ·rw[if_neg h1] at h;cases h
 ·rw[if_neg h0] at h;by_cases h1:-(n:Int)<=i
  ·rw[if_pos h1] at h;have e:(i+n).toNat=j:=dE h;exact⟨by rw[seqIndex_neg (by lia) h1,e],by lia,h1,by lia⟩
  ·rw[if_neg h1] at h;cases h
theorem Jh (h:atI xs i=some v):∃j,seqIndex? i xs.length=some j/\xs[j]? = some v/\j<xs.length/\-(xs.length:Int)<=i/\i<xs.length:=by
 unfold atI at h;cases e:ixN xs.length i with
 |none=>rw[e] at h;cases h
 |some j=>
  rw[e] at h;obtain⟨h1,h2,h3,h4⟩:=Rk e;exact⟨j,h1,h,h2,h3,h4⟩
theorem jN {α:Type}{xs:List α}{j:Nat}{v:α}(h:xs[j]? = some v):atI xs (j:Int)=some v:=by
 have hj:j<xs.length:=(fT.mp h).1;have e:ixN xs.length (j:Int)=some j:=by
  unfold ixN;rw[if_pos (by lia),if_pos<|by lia];simp
 unfold atI;rw[e];exact h
theorem Wx (xs:List α)(v:α):atI (xs++[v]) (-1)=some v:=by
 have hl:(xs++[v]).length=xs.length+1:=by simp
 have e:ixN (xs++[v]).length (-1)=some xs.length:=by
  unfold ixN;rw[hl,if_neg (by decide),if_pos<|by lia];congr 1
  lia
 unfold atI;rw[e];show(xs++[v])[xs.length]? = some v
 simp
def JT (b:Expr):Prop:=∀o i,zS b false o i=operate [o,i] (zI o i)
def IxR (X:Cx)(r:R2):Prop:=
 ∀(value slice:Expr) (π:Zl) (s:bE) (σ:St) (H:Hp) (x y:V) (v u:a9) (Q:VK),Inv X π σ H s->RelV x v->RelV y u->r x y H Q->
  zS slice false v u=operate [v,u] (zI v u)->b9 (eB X.prog X.w) X.A (AN value slice v u) (EP X π σ Q) X.xe s
def MtR (X:Cx)(id:String)(r:V->List V->Hp->VK->Prop):Prop:=
 ∀(π:Zl) (s:bE) (σ:St) (H:Hp) (x:V) (xs:List V) (v:a9) (us:List a9) (Q:VK),Inv X π σ H s->RelV x v->Vals xs us->r x xs H Q->
  b9 (eB X.prog X.w) X.A (call (.builtin id) (v::us)) (EP X π σ Q) X.xe s
section
variable {X:Cx}{a b:Expr}{ta tb:TE}{pos:Pos}
theorem afz (hr:IxR X r)(ha:PE X a ta)(hb:PE X b tb)(hs:JT b):PE X (.Subscript a b pos) (tOp r ta tb):=by
 intro π s σ H Q I h;exact Subscript_<|aes ha hb I h λv u s2 x y H2 I2 rx ry q=>hr a b π s2 σ H2 x y v u Q I2 rx ry q<|hs _ _
def ahz (K:bq):R2:=λx y H Q=>∃p xs i v,x=.ref p/\y=.int i/\SqL K H p xs/\atI xs i=some v/\Q v H
def ahc (K:bq):R2:=λx y H Q=>∃p xs i v,x=.ref p/\y=.int i/\SqT K H p xs/\atI xs i=some v/\Q v H
def ahG:R2:=λx y H Q=>∃z i c,x=.str z/\y=.int i/\z.length<=av/\atI z.cps.toList i=some c/\Q (.str ⟨#[c]⟩) H
theorem ZQ:IxR X (ahz X.K):=by
 intro value slice π s σ H x y v u Q I rx ry h hs;obtain⟨p,xs,i,z,rfl,rfl,hq,he,q⟩:=h;cases rx;obtain⟨t,rfl⟩:=ry;obtain⟨χ,r,pl,hz⟩:=I.list hq;refine X7 (Jh he) λj h1 h2 h3 h4 h5=>?_;obtain⟨w,ew,rw'⟩:=r.get h2;have hl:=r.length;have hn:=Al;have fin:EP X π σ Q w s:=⟨z,H,I,rw',q⟩;by_cases h0:0<=i
 ·have hj:i.toNat=j:=by
   rw[seqIndex_of h0 h5] at h1;exact dE h1
  exact item_listR pl.isList h0 (by lia) (by rw[hj];simpa using ew) fin hs
 ·have hj:(i+(χ.toArray.size:Int)).toNat=j:=by
   rw[seqIndex_neg (by lia) h4] at h1;rw[bb,← hl];exact dE h1
  exact subscriptTail_builtinR (x:=w) pl.isList.typeIs slot_list_getitem.lookup
   (wpAny_getItem_list_neg (Q:=λr s'=>r=w/\EP X π σ Q r s') pl.isList (by lia) (by rw[bb]<;>lia) (by lia) (by rw[hj];simpa using ew) ⟨rfl,fin⟩) hs
theorem ad5:IxR X (ahc X.K):=by
 intro value slice π s σ H x y v u Q I rx ry h hs;obtain⟨p,xs,i,z,rfl,rfl,hq,he,q⟩:=h;cases rx;obtain⟨t,rfl⟩:=ry;obtain⟨χ,r,pl,hz⟩:=I.tuple hq;refine X7 (Jh he) λj h1 h2 h3 h4 h5=>?_;obtain⟨w,ew,rw'⟩:=r.get h2;have hl:=r.length;have hn:=Al;have fin:EP X π σ Q w s:=⟨z,H,I,rw',q⟩;exact subscriptTail_builtinR (x:=w) pl.typeIs slot_tuple_getitem.lookup
  (getItem_tuple (j:=j) (Q:=λr s'=>r=w/\EP X π σ Q r s') pl (by lia) (by lia) (by rw[bb,← hl];exact h1) (by simpa using ew) ⟨rfl,fin⟩) hs
theorem aeA:IxR X ahG:=by
 intro value slice π s σ H x y v u Q I rx ry h hs;obtain⟨z,i,c,rfl,rfl,hz,he,q⟩:=h;obtain⟨t,rfl⟩:=rx;obtain⟨t',rfl⟩:=ry;refine X7 (Jh he) λj h1 h2 h3 h4 h5=>?_;have hl:z.cps.toList.length=z.length:=by simp[Str.length]
 rw[hl] at h1 h4 h5;have hn:=Al;exact tail_any (uu s z t) slot_str_getitem.lookup (getItem_str (c:=c) (by
  have e1:decide (i < -(2^63:Int))=false:=decide_eq_false (by lia);have e2:decide (i≥2^63)=false:=decide_eq_false (by lia);rw[e1,e2,Bool.or_false]) (by rw[h1];simpa using h2) ⟨.str ⟨#[c]⟩,H,I.tok _,⟨_,rfl⟩,q⟩) hs
theorem Qt (χ:List a9)(n j:Nat)(u:a9):r6 (·.setIfInBounds j u) { cls:=.type "list",data:=.seq χ.toArray n }={ cls:=.type "list",data:=.seq (χ.set j u).toArray n }:=by
 simp[r6]
theorem Inv.lst (I:Inv X π σ H s)(h:H p=some (.lst xs)):
  ∃(χ:List a9) (n:Nat),Vals xs χ/\s.heap.get? p=some { cls:=.type "list",data:=.seq χ.toArray n }/\xs.length<=av:=by
 obtain⟨z,χ,n,r,e⟩:=I.hok p _ h;exact⟨χ,n,r,e,z⟩
theorem Inv.adZ {s:bE}{xs ys:List V}{χ its':List a9}(I:Inv X π σ H s)(h:H p=some (.lst xs))
  (ho:s.heap.get? p=some { cls:=.type "list",data:=.seq χ.toArray n }) (hf:f { cls:=.type "list",data:=.seq χ.toArray n }={ cls:=.type "list",data:=.seq its'.toArray n' }) (r:Vals ys its') (hz:ys.length<=av) (t:Nat):
  Inv X π σ (upd H p<|.lst ys) { s with heap:=s.heap.update p f,toks:=t }:=by
 have e:(s.heap.update p f).get? p=some { cls:=.type "list",data:=.seq its'.toArray n' }:=by
  rw[fy f ho (by rw[hf]<;>rfl),hf]
 refine I.write (x:=p) (e:=p) (by rw[h];trivial) (.inl rfl) (λb u hb q=>(cK _ _<|eK hb).trans q) ⟨_,e⟩ ?_;exact⟨hz,its',n',r,e⟩
def afK:V->V->V->Hp->(Hp->Prop)->Prop:=λo i v H Q=>∃p xs k j,o=.ref p/\i=.int k/\H p=some (.lst xs)/\ixN xs.length k=some j/\Q (upd H p<|.lst<|xs.set j v)
theorem set_list:afC X afK:=by
 intro π s σ H o i v ov iv u Q I ro ri rv h;obtain⟨p,xs,k,j,rfl,rfl,hp,hj,q⟩:=h;cases ro;obtain⟨t,rfl⟩:=ri;refine wy (I.lst hp) λχ n r ho hz=>?_;obtain⟨h1,h2,h3,h4⟩:=Rk hj;have hl:=r.length;have hn:=Al;have I':Inv X π σ (upd H p<|.lst<|xs.set j v) { s with heap:=s.heap.update p (r6 (·.setIfInBounds j u)) }:=
  I.adZ hp ho (Qt χ n j u) (r.set rv j) (by rw[List.length_set];exact hz) s.toks
 by_cases h0:0<=k
 ·have hk:k.toNat=j:=by
   rw[seqIndex_of h0 h4] at h1;exact dE h1
  exact W.ki_setAt ho h0 (by lia) (by rw[bb,← hl];exact h4) (by rw[hk];exact⟨_,I',q⟩)
 ·have hk:(k+(χ.toArray.size:Int)).toNat=j:=by
   rw[seqIndex_neg (by lia) h3] at h1;rw[bb,← hl];exact dE h1
  exact W.ki_setBack ho (by lia) (by rw[bb,← hl];exact h3) (by lia) (by rw[hk];exact⟨_,I',q⟩)
theorem Kv (lo hi:Option Int)(n:Nat):(pS lo hi none n).1=((HT.sIx n 0 lo:Nat):Int)/\(pS lo hi none n).2.1=((HT.sIx n n hi:Nat):Int)/\(pS lo hi none n).2.2=1:=by
 refine⟨?_,?_,rfl⟩
 ·cases lo with
  |none=>simp[pS,HT.sIx]
  |some i=>
   simp only[pS,HT.sIx,Option.getD_none,show(1:Int)>0 by decide,if_true];by_cases h:i<0
   ·simp only[h,if_true]<;>lia
   ·simp only[h,if_false]<;>lia
 ·cases hi with
  |none=>simp[pS,HT.sIx]
  |some i=>
   simp only[pS,HT.sIx,Option.getD_none,show(1:Int)>0 by decide,if_true];by_cases h:i<0
   ·simp only[h,if_true]<;>lia
   ·simp only[h,if_false]<;>lia
theorem Hc (χ:List a9)(lo hi:Option Int):slicePick χ.toArray lo hi none=((χ.drop<|HT.sIx χ.length 0 lo).take<|HT.sIx χ.length χ.length hi-HT.sIx χ.length 0 lo).toArray:=by
 obtain⟨h1,h2,h3⟩:=Kv lo hi χ.toArray.size;unfold slicePick;rw[h1,h2,h3];simp only[sliceRange_one,pick_run,bb]<;>rfl
def aht (K:bq):V->Option Int->Option Int->Hp->VK->Prop:=λx lo hi H Q=>∃a xs,x=.ref a/\SqL K H a xs/\∀p,H p=none->Q (.ref p) (upd H p<|.lst<|MF xs lo hi)
theorem ab3:SlR X (aht X.K):=by
 intro π s σ H x v vl vu lo hi sl Q I rx hs pl pu h;obtain⟨a,xs,rfl,hx,q⟩:=h;cases rx;obtain⟨χ,r,ht,hz⟩:=I.list hx;have ν:=r.length;refine⟨"list",_,slot_list_getitem.lookup,ht.isList.typeIs,?_⟩;refine wpAny_getItem_list_slice ht.isList hs pl pu .none (by simp) ?_ (by rw[bb]<;>lia);rw[Hc,← ν];refine⟨.ref s.heap.objs.size,_,I.laid (t':=s.toks) (o:=.lst<|MF xs lo hi) (λb ob q=>ag _ q) (aI _) ?_,rfl,q _<|I.hok.fresh<|aI _⟩;exact⟨gz (BJ xs lo hi) hz,_,0,(r.drop<|HT.sIx xs.length 0 lo).take<|HT.sIx xs.length xs.length hi-HT.sIx xs.length 0 lo,ay _ rfl⟩
theorem zB:lC X (.builtin "len") (λxs H Q=>∃p ys,xs=[.ref p]/\(SqL X.K H p ys\/SqT X.K H p ys)/\Q (.int ys.length) H):=by
 intro π s σ H xs us Q I r h;obtain⟨p,ys,rfl,hq,q⟩:=h;obtain⟨u,rfl,rx⟩:=vals1 r;cases rx;have hn:=Al;rcases hq with hq|hq
 ·obtain⟨χ,r',pl,hz⟩:=I.list hq;have ν:=r'.length;exact Calls.call_len_list pl.isList (by simp only[bb]<;>lia) ⟨.int ys.length,H,I.tok _,⟨s.toks+1,by rw[bb,ν]⟩,q⟩
 ·obtain⟨χ,r',pl,hz⟩:=I.tuple hq;have ν:=r'.length;exact len_tuple pl (by simp only[bb]<;>lia) ⟨.int ys.length,H,I.tok _,⟨s.toks+1,by rw[bb,ν]⟩,q⟩
theorem J7:lC X (.builtin "len") (λxs H Q=>∃z,xs=[.str z]/\z.length<=av/\Q (.int z.length) H):=by
 intro π s σ H xs us Q I r h;obtain⟨z,rfl,hz,q⟩:=h;obtain⟨u,rfl,t,rfl⟩:=vals1 r;have hn:=Al;exact len_str (by lia) ⟨.int z.length,H,I.tok _,⟨_,rfl⟩,q⟩
theorem Kw:lC X (.type "list") (λxs H Q=>∃p ys,xs=[.ref p]/\(SqL X.K H p ys\/SqT X.K H p ys)/\∀l,H l=none->Q (.ref l) (upd H l<|.lst ys)):=by
 intro π s σ H xs us Q I r h;obtain⟨p,ys,rfl,hq,q⟩:=h;obtain⟨u,rfl,rx⟩:=vals1 r;cases rx;have fin:∀(χ:List a9),Vals ys χ->ys.length<=av->∀(h':Heap) (c':Nat),(∀b o',s.heap.get? b=some o'->h'.get? b=some o')->
   h'.get? s.heap.objs.size=some { cls:=.type "list",dict:=none,data:=.seq χ.toArray c',slots:=#[] }->EP X π σ Q (.ref s.heap.objs.size) { s with heap:=h' }:=λχ r' hz h' c' kp e=>
  ⟨.ref s.heap.objs.size,_,I.laid (t':=s.toks) kp (aI _)<|show cU X.prog X.w _ h' _ (.lst ys) from⟨hz,χ,c',r',e⟩,rfl,q _<|I.hok.fresh<|aI _⟩
 rcases hq with hq|hq
 ·obtain⟨χ,r',pl,hz⟩:=I.list hq;have ν:=r'.length;obtain⟨o,ho,hc,n,hd⟩:=pl.isList;exact call_list_seq p (.inl rfl) ho hc hd (λh' c' kp e=>fin χ r' hz h' c' kp e) (by simp only[bb]<;>lia)
 ·obtain⟨χ,r',pl,hz⟩:=I.tuple hq;have ν:=r'.length;obtain⟨o,ho,hc,n,hd⟩:=pl;exact call_list_seq p (.inr rfl) ho hc hd (λh' c' kp e=>fin χ r' hz h' c' kp e) (by simp only[bb]<;>lia)
theorem wN:lC X (.type "tuple") (λxs H Q=>∃p ys,xs=[.ref p]/\((SqL X.K H p ys/\∀l,H l=none->Q (.ref l) (upd H l<|.tup ys))\/(SqT X.K H p ys/\Q (.ref p) H))):=by
 intro π s σ H xs us Q I r h;obtain⟨p,ys,rfl,h⟩:=h;obtain⟨u,rfl,rx⟩:=vals1 r;cases rx;rcases h with⟨hq,q⟩|⟨hq,q⟩
 ·obtain⟨χ,r',pl,hz⟩:=I.list hq;have ν:=r'.length;refine call_tuple_list pl.isList (λh' kp=>?_) (by simp only[bb]<;>lia);have I1:Inv X π σ H { s with heap:=h' }:=I.kept (t':=s.toks) kp;have I2:Inv X π σ (upd H h'.objs.size<|.tup ys) { s with heap:=h'.push { cls:=.type "tuple",data:=.seq χ.toArray } }:=
   I1.laid (t':=s.toks) (λb o e=>ag _ e) (aI _) (show cU X.prog X.w _ _ _ (.tup ys) from⟨hz,χ,r',BE _ _⟩)
  exact⟨.ref h'.objs.size,_,I2,rfl,q _<|I1.hok.fresh<|aI _⟩
 ·obtain⟨χ,r',pl,hz⟩:=I.tuple hq;exact call_tuple_same pl ⟨.ref p,H,I,rfl,q⟩
def tyV (K:bq)(T:String)(x:V)(H:Hp):Prop:=match x with
 | .str _=>T = "str"
 | .int _=>T = "int"
 | .ref p=>(T = "list"/\∃xs,SqL K H p xs)\/(T = "tuple"/\∃o,K.lookup p=some o/\o.cls=.type "tuple"/\o.dict=none) ∨
   (T = "dict"/\((∃ι,Rd H p<|.dK ι)\/∃T ι,Rd H p<|.dT T ι))\/(T = "set"/\∃S n,H p=some (.set S n))
 |_=>False
theorem WW (I:Inv X π σ H s)(r:RelV x v)(ty:tyV X.K T x H):
  s.TypeIs v T/\∀a,v=.ref a->∃ob,s.heap.get? a=some ob/\ob.dict=none:=by
 cases x with
 |str z=>
  obtain⟨t,rfl⟩:=r;cases(show T = "str" from ty);exact⟨uu s z t,λ_ e=>nomatch e⟩
 |int i=>
  obtain⟨t,rfl⟩:=r;cases(show T = "int" from ty);exact⟨typeIs_int s i t,λ_ e=>nomatch e⟩
 |ref p=>
  cases r;rcases ty with⟨rfl,xs,hq⟩|⟨rfl,o,hk,hc,hd⟩|⟨rfl,hk⟩|⟨rfl,S,n,hk⟩
  ·obtain⟨χ,_,pl,_⟩:=I.list hq;refine⟨pl.isList.typeIs,λa e=>?_⟩;cases e;refine vO pl λo n e c hd _=>?_;exact⟨o,e,hd⟩
  ·refine⟨⟨o,I.kIn p o hk,hc⟩,λa e=>?_⟩;cases e;exact⟨o,I.kIn _ o hk,hd⟩
  ·have z:∃o,s.heap.get? p=some o/\o.ExactDict:=by
    rcases hk with⟨ι,hk⟩|⟨_,ι,hk⟩
    ·obtain⟨_,_,_,_,o,_,_,e,ex,_⟩:=(show cU X.prog X.w H s.heap p (.dK ι) from hk.ok I.hok);exact⟨o,e,ex⟩
    ·obtain⟨_,_,_,_,o,_,_,e,ex,_⟩:=(show cU X.prog X.w H s.heap p (.dT _ ι) from hk.ok I.hok);exact⟨o,e,ex⟩
   obtain⟨o,e,ex⟩:=z;refine⟨⟨o,e,ex.1⟩,λa e2=>?_⟩;cases e2;exact⟨o,e,ex.2.1⟩
  ·refine afH (I.hok p _ hk) λo _ _ _ e ex _=>?_;refine⟨⟨o,e,ex.1⟩,λa e2=>?_⟩;cases e2;exact⟨o,e,ex.2.1⟩
 |_=>exact og ty
def ahx (K:bq)(T:String)(r:V->List V->Hp->VK->Prop)(to:TE):TE:=λσ H Q=>to σ H λx H1=>tyV K T x H1/\r x [] H1 Q
def tBM (K:bq)(T:String)(r:V->List V->Hp->VK->Prop)(to:TE)(t:TA):TE:=λσ H Q=>to σ H λx H1=>tyV K T x H1/\t σ H1 λxs H2=>r x xs H2 Q
variable {o e:Expr}{es:List Expr}{to:TE}{t:TA}{name:Str}{apos η:Pos}{T id:String}{r:V->List V->Hp->VK->Prop}
theorem Kr (pa:PlainAttrs T)(slot:Slot T name id)(hty:typeOf (.builtin id)=pure (.type "method_descriptor"))(hm:MtR X id r)(ho:PE X o to)
  (ξ:iF o name X.env (eval o X.env)=eval o X.env:=by rfl) (θ:(apos.endLine==η.line)=true:=by rfl):PE X (.Call (.Attribute o name apos) [] [] η) (ahx X.K T r to):=by
 intro π s σ H Q I h;refine wpAny_Call_method0_late ξ θ<|thn (ho π s σ H _ I h) λv s1 hE=>?_;refine vO hE λx H1 I1 r1 ty q1=>?_;obtain⟨h1,h2⟩:=WW I1 r1 ty;exact⟨T,id,pa,slot,hty,h1,h2,l0 rfl<|PySem.evalArgs_none<|hm π s1 σ H1 x [] v [] Q I1 r1 .nil q1⟩
theorem UT (pa:PlainAttrs T)(slot:Slot T name id)(hty:typeOf (.builtin id)=pure (.type "method_descriptor"))(hm:MtR X id r)(ho:PE X o to)(ha:PA X (e::es) t)
  (ξ:iF o name X.env (eval o X.env)=eval o X.env:=by rfl)
  (τ:((l7 η<|aS (e::es) X.env).all (λx=>!x.1)&&(AO η<|sj [] X.env).all (λx=>x.1.isSome)
   && decide ((e::es).length+([]:List so).length+(if([]:List so).isEmpty then 0 else 1)<30))=true:=by rfl)
  (θ:(apos.endLine==η.line)=true:=by rfl) (hs:aS (e::es) X.env=(false,eval e X.env)::aS es X.env:=by rfl) (hplain:(l7 η<|aS es X.env).any (·.1)=false:=by rfl):
  PE X (.Call (.Attribute o name apos) (e::es) [] η) (tBM X.K T r to t):=by
 intro π s σ H Q I h;refine wpAny_Call_method_late ξ τ θ rfl<|thn (ho π s σ H _ I h) λv s1 hE=>?_;refine vO hE λx H1 I1 r1 ty q1=>?_;obtain⟨h1,h2⟩:=WW I1 r1 ty;refine⟨T,id,pa,slot,hty,h1,h2,?_⟩;have hA:=ha η π s1 σ H1 _ I1 q1;rw[hs] at hA ⊢;refine l0 (by show(false||(l7 η<|aS es X.env).any (·.1))=false;rw[hplain]<;>rfl)<|rg ?_;exact thn hA λus s2 hE=>xq2 hE λvs H2 I2 r2 q2=>hm π s2 σ H2 x vs v us Q I2 r1 r2 q2
end
def MtM (X:Cx)(id:String)(r:V->List V->Hp->VK->Prop):Prop:=
 ∀(π:Zl) (s:bE) (σ:St) (H:Hp) (x:V) (xs:List V) (v:a9) (us:List a9) (Q:VK),Inv X π σ H s->RelV x v->Vals xs us->r x xs H Q->
  b9 (eB X.prog X.w) X.A (call (.builtin id) (v::us)) (EP X π σ Q) X.xe s
theorem Vals.one:∀{x:V} {us:List a9},Vals [x] us->∃u,us=[u]/\RelV x u
 |_,_,.cons r .nil=>⟨_,rfl,r⟩
theorem Vals.zero:∀{us:List a9},Vals [] us->us=[]
 |_,.nil=>rfl
theorem Vals.dropLast (h:Vals xs us):Vals xs.dropLast us.dropLast:=by
 induction h with
 |nil=>exact .nil
 |cons r t ih=>
  cases t with
  |nil=>exact .nil
  |cons q t'=>exact .cons r ih
theorem Vals.reverse (h:Vals xs us):Vals xs.reverse us.reverse:=by
 induction h with
 |nil=>exact .nil
 |cons r t ih=>rw[kQ,kQ];exact Vals.append ih<|.cons r .nil
theorem QF (l:List α):l.eraseIdx (l.length-1)=l.dropLast:=by
 induction l with
 |nil=>rfl
 |cons a r ih=>
  cases r with
  |nil=>rfl
  |cons b r=>
   have e:(a::b::r).length-1=((b::r).length-1)+1:=by
    have h1:(a::b::r).length=r.length+2:=rfl;have h2:(b::r).length=r.length+1:=rfl
    lia
   rw[e,List.eraseIdx_cons_succ,ih]
   all_goals rfl
section
variable {X:Cx}{π:Zl}{σ:St}{H:Hp}{s:bE}{l b:Addr}{xs ys zs:List V}
theorem Inv.adI {χ its':List a9}(I:Inv X π σ H s)(hH:H l=some (.lst xs))
  (e:s.heap.get? l=some { cls:=.type "list",data:=.seq χ.toArray n }) (hf:f χ.toArray=its'.toArray) (hv:Vals ys its') (hz:ys.length<=av):
  Inv X π σ (upd H l<|.lst ys) { s with heap:=s.heap.update l<|r6 f,toks:=t' }:=by
 have q:=PySem.IsL.update e f;rw[hf] at q;refine I.write (x:=l) (e:=l) (by rw[hH];exact trivial) (.inl rfl) (λb' u hb hu=>(cK s.heap (r6 f)<|eK hb).trans hu) ⟨_,q⟩ ?_;exact⟨hz,its',_,hv,q⟩
theorem Inv.abJ (I:Inv X π σ H s)(hH:H l=some (.lst xs)):xs.length<=av/\∃(χ:List a9) (n:Nat),Vals xs χ/\xs.length=χ.length/\s.heap.get? l=some { cls:=.type "list",data:=.seq χ.toArray n }:=by
 obtain⟨z,χ,n,r,e⟩:=I.hok l _ hH;exact⟨z,χ,n,r,r.length,e⟩
theorem XM (h:n<=av):oo n=false:=by
 unfold oo;exact decide_eq_false<|by lia
end
section
variable {X:Cx}
def abD:V->List V->Hp->VK->Prop:=λx vs H Q=>∃l xs y,x=.ref l/\vs=[y]/\H l=some (.lst xs)/\xs.length<av/\Q .non (upd H l<|.lst<|xs++[y])
theorem Ao:MtM X "list.append" abD:=by
 intro π s σ H x vs v us Q I rx rv h;obtain⟨l,xs,y,rfl,rfl,hH,hz,q⟩:=h;cases rx;obtain⟨u,rfl,ru⟩:=rv.one;obtain⟨z,χ,n,r,hl,e⟩:=I.abJ hH;refine call_meets F.slot_list_append ⟨_,e,rfl⟩ F.entry_list_append (F.args_list_append_2 _ _) (PySem.list_append l χ.toArray n u (by rw[bb];lia)) ⟨e,?_⟩;refine⟨.non,_,I.adI (its':=χ++[u]) hH e (by simp) (r.append<|.cons ru .nil) ?_,rfl,q⟩;rw[a8,dS]
 lia
def ZJ:V->List V->Hp->VK->Prop:=λx vs H Q=>∃l b xs zs,x=.ref l/\vs=[.ref b]/\H l=some (.lst xs)/\H b=some (.lst zs)/\xs.length+zs.length<=av/\Q .non (upd H l<|.lst<|xs++zs)
theorem U5:MtM X "list.extend" ZJ:=by
 intro π s σ H x vs v us Q I rx rv h;obtain⟨l,b,xs,zs,rfl,rfl,hH,hB,hz,q⟩:=h;cases rx;obtain⟨u,rfl,ru⟩:=rv.one;cases ru;obtain⟨z,χ,n,r,hl,e⟩:=I.abJ hH;obtain⟨z2,its2,n2,r2,hl2,e2⟩:=I.abJ hB;have hsz:χ.toArray.size+its2.toArray.size<=av:=by rw[bb,bb];lia
 have hlong:¬(!χ.toArray.isEmpty&&oo (χ.toArray.size+its2.toArray.size))=true:=by
  rw[XM hsz,Bool.and_false];exact be
 refine call_meets F.slot_list_extend ⟨_,e,rfl⟩ F.entry_list_extend (F.args_list_extend_2 _ _)
  (AutoSeq1.list_extend_list_list_0 l χ.toArray n b its2.toArray n2 hlong (by rw[bb];lia)<|by lia) ⟨e,e2,?_⟩
 refine⟨.non,_,I.adI (its':=χ++its2) hH e (by simp) (r.append r2) ?_,rfl,q⟩;rw[a8]
 lia
def ahn:V->List V->Hp->VK->Prop:=λx vs H Q=>∃l xs y,x=.ref l/\vs=[]/\H l=some (.lst xs)/\xs[xs.length-1]? = some y/\Q y (upd H l<|.lst xs.dropLast)
theorem YX:MtM X "list.pop" ahn:=by
 intro π s σ H x vs v us Q I rx rv h;obtain⟨l,xs,y,rfl,rfl,hH,hy,q⟩:=h;cases rx;have hus:=rv.zero;subst hus;obtain⟨z,χ,n,r,hl,e⟩:=I.abJ hH;obtain⟨u,hu,ru⟩:=r.get hy;have hy':χ.toArray[χ.toArray.size-1]? = some u:=by
  show χ.toArray[χ.length-1]? = some u;rw[← Array.getElem?_toList,← hl];exact hu
 refine call_meets F.slot_list_pop ⟨_,e,rfl⟩ F.entry_list_pop (F.args_list_pop_1 _) (MeetsSeq.list_pop_last l χ.toArray n u hy' (by rw[bb];lia)) ⟨e,?_⟩;refine⟨y,_,I.adI (its':=χ.dropLast) hH e ?_ r.dropLast ?_,ru,q⟩
 ·show χ.toArray.eraseIdxIfInBounds (χ.toArray.size-1)=χ.dropLast.toArray;rw[bb,List.eraseIdxIfInBounds_toArray,QF]
 ·rw[List.length_dropLast]
  lia
end
section
variable {prog:cS}{w:gu}{A:i7}{E:Zs}{s:bE}
end
section
end
end L2
namespace Att
open PySem PySem.W PySem.Calls PyProof.Rows
theorem Cw:∀(ns:List Int) (vs:List a9),WellAll P h vs (ns.map WData.int)->IntsAre vs ns:=by
 intro ns;induction ns with
 |nil=>
  intro vs w;rw[me] at w;cases w;exact .nil
 |cons n ns ih=>
  intro vs w;rw[ah] at w;cases w with
  |cons a b=>
   cases a;exact .cons _ _<|ih _ b
theorem U6 {l:OpenLaw}(hn:l.most=some n){P:Params}{h:Heap}{args:List WData}{vals:List a9}
  (hpre:l.row.toRowW.claim.pre args=true) (hwl:WellAll P h vals args):
  ∃a vs ns,vals=[c9 a]/\args=[WData.list<|ns.map WData.int]/\h.get? a=some { cls:=.type "list",data:=.seq vs.toArray }/\IntsAre vs ns/\ns.length<=n:=by
 have hsh:WShape.hasAll [] args [.list .int]=true:=(pre_splitW hpre).1;have hc:l.pre.holds [] { args:=args }=true:=(pre_splitW hpre).2;obtain⟨d,r,rfl,h1,h2⟩:=hasAllW_cons hsh;obtain rfl:=hasAllW_nil h2;obtain⟨xs,rfl,h3⟩:=hasW_list h1;obtain⟨ns,rfl⟩:=items_int h3;have ν:ns.length<=n:=by
  unfold OpenLaw.pre at hc;have h4:(WTm.not<|.lt (.lit<|.int (n:Int))<|.len<|.arg 0).holds [] { args:=[.list<|ns.map .int] }=true:=by
   have h4:=(holds_andW hc).1;rw[hn] at h4;exact h4
  have h5:=condW_of h4<|w_not<|w_lt w_lit<|w_len_list<|w_arg rfl;rw[cm] at h5;refine Nat.le_of_not_lt λq=>?_;have q':(n:Int)<((ns.length:Nat):Int):=by lia
  first
   |(rw[decide_eq_true q'] at h5;exact absurd h5<|by decide)
   |(simp at h5;lia)
 cases hwl with
 |cons w1 w2=>
  cases w2;cases w1 with
  |list ho hall=>exact⟨_,_,ns,rfl,rfl,ho,Cw ns _ hall,ν⟩
theorem Vp (l:OpenLaw)(args:List WData):l.row.toRowW.claim.post args (.bool true) args=true:=
 postW_of (r:=l.row.toRowW) (X:=(true==true))
  (show WShape.has [] (.bool true) .bool=true by first|rfl|decide|simp[WShape.has,WShape.arms,WShape.armsAll])
  (show(WTm.eq .res<|.lit<|.bool true).value [] { args:=args,res:=some<|.bool true,after:=args }=some (.bool<|true==true) from w_eq_bool (w_res rfl) w_lit) rfl
theorem NP {l:OpenLaw}{d:DefRec}
  (hn:l.most=some n) (hdf:d.params.defaults=[])
  (call:∀(w:gu) (s₀ s₁:bE) (mg mb:Zp) (fa:Addr) (o:Obj) (pm cd doc:a9) (a:Addr) (vs:List a9) (ns:List Int),
   Ground q loose [] XP w s₀ mg mb s₁.heap->YP w s₁.heap->
   s₁.heap.get? fa=some o->o.data=.func (docDef d.name d.params d.body d.scope pm cd doc)->s₁.heap.CodeRec cd d.name->mg d.name=some (.ref fa)->
   s₁.heap.get? a=some { cls:=.type "list",data:=.seq vs.toArray }->IntsAre vs ns->ns.length<=n->s₁.gens=#[]->
   A1 (eB l.prog w) A3 (.call (.ref fa) ⟨[.ref a],[]⟩) (λr s'=>r=.ok (.ret<|.bool true)/\OldK s₁.heap s'.heap/\s'.os=s₁.os/\vT s'.gens) s₁):
  WalkO q loose XP YP l.row.toRowW d [] (λf vs=>BS f vs):=by
 intro w s₀ s₁ mg mb G Y fa o pm cd doc dV kV ho hd hcd hD hmg hg args vals as hpre hlay hrd hwl hlo;obtain rfl:dV=.none:=Dflts.none hD hdf;obtain rfl:kV=.none:=Dflts.noKw hD;obtain⟨a,vs,ns,rfl,rfl,hobj,hints,ν⟩:=U6 hn hpre hwl;refine enter_call<|codeAny_mono (call w s₀ s₁ mg mb fa o pm cd doc a vs ns G Y ho (fd_plain hd) hcd hmg hobj hints ν hg) λr s' hq=>?_;obtain⟨rfl,h2,h3,h4⟩:=hq;exact⟨.inl ⟨.bool true,.bool true,[],rfl,λ_=>rfl,.bool true,Vp l _,λ_=>⟨List.Pairwise.nil,λ_ hm=>(nomatch hm)⟩⟩,h2,h3,h4⟩
section
variable {prog:cS}{w:gu}{A:i7}{E:Zs}{s:bE}{K:Frag}
end
end Att
namespace L2
open PySem PySem.Spec PyProof.Rows
theorem Ik:∀{vs:List a9} {ns:List Int},IntsAre vs ns->Vals (ns.map V.int) vs
 |_,_,.nil=>.nil
 |_,_,.cons n t h=>.cons ⟨t,rfl⟩<|Ik h
def Only (H:Hp):Prop:=∀b,H b=none\/∃o xs,H b=some (.frz o<|.lst xs)
theorem Wo {K:bq}{s₁:bE}{vs:List a9}{ns:List Int}
  (KX:K.In s₁.heap) (hns:s₁.heap.Ns gy mg) (hb:s₁.heap.Ns builtinsNs mb) (hbb:∀x:Str,x≠"__name__"->mb x=dQ x) (hlim:s₁.heap.NoLimit) (hg:s₁.gens=#[])
  (ha:s₁.heap.get? a=some { cls:=.type "list",data:=.seq vs.toArray }) (hi:IntsAre vs ns) (hl:ns.length<=av) (hr:eE k A3)
  (F:∀base:Heap,K.In base->base.Ns gy mg->rT P w K mg base CX k fa fd [x] sp) (hbind:∀(s:bE) (u:a9),BH s fd ⟨[u],[]⟩ [(x,u)])
  (hsp:∀H:Hp,Only H->SqL K H a (ns.map V.int)->sp [.ref a] H (λv _=>v=.bl true) λ_ _ _=>False)
  (hCX:∀H e s',CX [] H s₁ (λ_ _ _=>False) e s'->False):
  A1 (eB P w) A3 (.call (.ref fa) ⟨[.ref a],[]⟩) (λr s'=>r=.ok (.ret<|.bool true)/\OldK s₁.heap s'.heap/\s'.os=s₁.os/\vT s'.gens) s₁:=by
 have rv:=Ik hi;have lenV:=hi.length;have core:∀H:Hp,Only H->SqL K H a (ns.map V.int)->HOk P w H s₁.heap->(∀b,H b≠none->b=a)->(H a≠none->K.lookup a=none)->
   A1 (eB P w) A3 (.call (.ref fa) ⟨[.ref a],[]⟩) (λr s'=>r=.ok (.ret<|.bool true)/\OldK s₁.heap s'.heap/\s'.os=s₁.os/\vT s'.gens) s₁:=by
  intro H hO hS hok hA hK;have base_of:∀{b:Addr} {o:Obj},s₁.heap.get? b=some o->H b=none->(KN s₁.heap H).get? b=some o:=λe n=>YF e n;have noA:∀{b:Addr} {o:Obj} {es:Array AQ} {ep:Nat},s₁.heap.get? b=some o->o.data=.dict es ep->H b=none:=λ{b o es ep} e d=>by
   cases q:H b with
   |none=>rfl
   |some u=>
    have e':b=a:=hA b (by rw[q];simp);subst e';rw[ha] at e;cases e;have d':Data.seq vs.toArray _=Data.dict es ep:=d;cases d'
  have nsK:∀{b:Addr} {m:Zp},s₁.heap.Ns b m->(KN s₁.heap H).Ns b m:=λ{b m} ⟨o,es,ep,e,d,r⟩=>⟨o,es,ep,base_of e<|noA e d,d,r⟩;have hKb:K.In (KN s₁.heap H):=λb o e=>base_of (KX b o e) (by
   cases q:H b with
   |none=>rfl
   |some u=>
    have e':b=a:=hA b (by rw[q];simp);subst e';rw[hK (by rw[q];simp)] at e;cases e)
  have hM:Mod K mg (KN s₁.heap H):=⟨hKb,nsK hns,⟨mb,nsK hb,hbb⟩,let⟨mc,h1,h2⟩:=hlim;⟨mc,nsK h1,h2⟩⟩;have e0:abr P w K mg (KN s₁.heap H) A3 [] s₁ H:=⟨rfl,hM,λb o e=>aa7 e,sT<|VH _ _,trivial,λb hb=>absurd (show b∈([]:List Addr) from hb) (by simp),hok,.of_eq hg⟩;refine codeAny_mono ((F _ hKb<|nsK hns).run A3 [] s₁ H ⟨[.ref a],[]⟩ [.ref a] [.ref a] _ _ hr e0 (hbind s₁<|.ref a) (.cons rfl .nil)<|hsp H hO hS) λr s' h=>?_;cases r with
  |error e=>exact(hCX H e s' h).elim
  |ok fl=>
   cases fl with
   |next=>exact og h
   |brk=>exact og h
   |cont=>exact og h
   |ret u=>
    refine LC h λv H' os bare un hok' r' q=>?_;have q':v=.bl true:=q;subst q';obtain rfl:u=A0 true:=r';refine⟨rfl,OldK.of_keep λb o e=>?_,os,bare⟩;cases q:H b with
    |none=>exact un.keep b o e q (by intro z;exact absurd (show b∈([]:List Addr) from z) (by simp)) (by simp)
    |some u=>
     rcases hO b with z|⟨ob,xs,z⟩
     ·rw[q] at z;cases z
     ·have z2:=un.frzs b ob _ z;obtain⟨e1,_⟩:=hok b _ z;obtain⟨e2,_⟩:=hok' b _ z2;rw[e] at e1;cases e1;exact e2
 cases hk:K.lookup a with
 |some o=>
  have e:=KX a o hk;rw[ha] at e;cases e;refine core (λ_=>none) (λ_=>.inl rfl) (.inr ⟨_,vs.toArray,_,hk,rfl,rfl,rfl,by rw[bb,lenV];exact hl,by simpa using rv⟩) (λb u z=>by have z':(none:Option HO)=some u:=z;cases z') (λb z=>absurd rfl z) λz=>absurd rfl z
 |none=>
  refine core (λb=>if b=a then some (.frz { cls:=.type "list",data:=.seq vs.toArray }<|.lst<|ns.map V.int) else none) (λb=>?_) (.inl<|.inr ⟨{ cls:=.type "list",data:=.seq vs.toArray },if_pos rfl⟩) (λb u z=>?_) (λb z=>?_) λ_=>hk
  ·by_cases hb:b=a
   ·exact .inr ⟨_,_,if_pos hb⟩
   ·exact .inl<|if_neg hb
  ·by_cases hb:b=a
   ·have z':=(if_pos hb).symm.trans z;cases z';subst hb;exact⟨ha,by rw[cm];exact hl,vs,_,rv,ha⟩
   ·have z':=(if_neg hb).symm.trans z;cases z'
  ·by_cases hb:b=a
   ·exact hb
   ·exact absurd (if_neg hb) z
theorem abC {l:W.OpenLaw}{n k:Nat}{q:cS}{loose:List Str}{XP:(Zp)->Heap->Prop}{YP:gu->Heap->Prop}{d:DefRec}{K:Params->bq}{CX:gu->CXT}{sp:gu->Sp}{x:Str}
  (hn:l.most=some n) (hn2:n<=av) (hdf:d.params.defaults=[]) (hr:eE k A3)
  (hY:∀(w:gu) (h:Heap),YP w h->(K w.params).In h)
  (F:∀(w:gu) (mg:Zp) (fa:Addr) (h:Heap),(K w.params).In h->h.Ns gy mg->mg d.name=some (.ref fa)->
   ∃fd:kK,(∀(s:bE) (u:a9),BH s fd ⟨[u],[]⟩ [(x,u)])/\
    ∀base:Heap,(K w.params).In base->base.Ns gy mg->rT l.prog w (K w.params) mg base (CX w) k fa fd [x] (sp w))
  (hsp:∀(w:gu) (H:Hp) (a:Addr) (ns:List Int),ns.length<=n->Only H->SqL (K w.params) H a (ns.map V.int)->sp w [.ref a] H (λv _=>v=.bl true) λ_ _ _=>False)
  (hCX:∀(w:gu) (H:Hp) (s:bE) (e:a9) (s':bE),CX w [] H s (λ_ _ _=>False) e s'->False):
  W.WalkO q loose XP YP l.row.toRowW d [] (λf vs=>BS f vs):=by
 refine Att.NP hn hdf λw s₀ s₁ mg mb fa o pm cd doc a vs ns G Y ho hd hcd hmg hobj hints ν hg=>?_;have KX:=hY w _ Y;obtain⟨fd,hb,hF⟩:=F w mg fa _ KX G.T.g hmg;exact Wo KX G.T.g G.T.b G.T.builtins G.T.nolimit hg hobj hints (gz ν hn2) hr hF hb (λH hO hS=>hsp w H a ns ν hO hS) λH e s'=>hCX w H s₁ e s'
noncomputable def qN (s:Stmt):Arguments:=match s with
 | .FunctionDef _ a _ _ _ _ _ _ _ _=>a
 |_=>{ posonlyargs:=[],args:=[],vararg:=none,kwonlyargs:=[],kw_defaults:=[],kwarg:=none,defaults:=[] }
def jQ (s:Stmt):List Stmt:=match s with
 | .FunctionDef _ _ b _ _ _ _ _ _ _=>b
 |_=>[]
noncomputable def az (s:Stmt):zd:=match s with
 | .FunctionDef _ _ _ _ _ _ sc _ _ _=>sc
 |_=>{ kind:=.function,names:=[],isGenerator:=false,isCoroutine:=false }
abbrev E0:XK:=λ_ _ _=>False
structure Fun (K:bq)(x qual:Str)(st:Stmt)(f:Addr)(fd:kK):Prop where
 ex:∃(oc:a9) (od:Option Addr) (kV doc pm:a9) (an:Option Addr) (cdv ct:a9) (osl:Array (Option a9)),
  fd=AL x qual (qN st) (jQ st) (az st) .none kV doc pm an cdv ct/\K.lookup f=some ⟨oc,od,.func fd,osl⟩/\W.codeIn K cdv qual=true
 kp:BC K (.ref f)=true
section
variable {P:cS}{w:gu}{K:bq}{mg:Zp}{base:Heap}
theorem Fun.binds {x qual:Str}{st:Stmt}{f:Addr}{fd:kK}{ps:List Str}(F:Fun K x qual st f fd)
  (h:∀(kV doc pm:a9) (an:Option Addr) (cdv ct:a9) (us:List a9),us.length=ps.length->bindArgs (AL x qual (qN st) (jQ st) (az st) .none kV doc pm an cdv ct) ⟨us,[]⟩=pure (ps.zip us)):Binds K fd ps []:=by
 obtain⟨oc,od,kV,doc,pm,an,cdv,ct,osl,rfl,lk,hcd⟩:=F.ex;exact .all<|h kV doc pm an cdv ct
theorem aep {x qual:Str}{st:Stmt}{f:Addr}{oc:a9}{od an:Option Addr}{osl:Array (Option a9)}{kV doc pm cdv ct:a9}(l:K.lookup f=some ⟨oc,od,.func<|AL x qual (qN st) (jQ st) (az st) .none kV doc pm an cdv ct,osl⟩)
  (c:W.codeIn K cdv qual=true) (k:BC K (.ref f)=true):Fun K x qual st f (AL x qual (qN st) (jQ st) (az st) .none kV doc pm an cdv ct):=⟨⟨oc,od,kV,doc,pm,an,cdv,ct,osl,rfl,l,c⟩,k⟩
end
section
end
def aC (H H':Hp):Prop:=∀b o,H b=some o->H' b=some o
theorem aC.refl (H:Hp):aC H H:=λ_ _ h=>h
theorem aC.trans (a:aC H H1)(b:aC H1 H2):aC H H2:=λc o h=>b c o<|a c o h
theorem aC.free (e:aC H H'){l:Addr}(h:H' l=Option.none):H l=Option.none:=by
 cases q:H l with
 |none=>rfl
 |some o=>
  rw[e l o q] at h;cases h
end L2
set_option maxHeartbeats 4000000
namespace Hd
open PySem PySem.Spec PyProof.Rows L2
abbrev St:=L2.St
theorem Zc (h:n<2^k)(hk:0<k):n.log2<k:=by
 by_cases z:n=0
 ·rw[z];exact hk
 ·exact(Nat.log2_lt z).mpr h
@[irreducible] def lmM:Nat:=2^60000
@[irreducible] def lmD:Nat:=2^8900
theorem Yn:lmM=2^60000:=by unfold lmM;rfl
theorem QC:lmD=2^8900:=by unfold lmD;rfl
theorem bits_le (h:i.natAbs<lmM):nL i<=60000:=by
 unfold nL;split
 ·exact f6 _
 ·rw[Yn] at h;exact Zc (k:=60000) h<|by decide
def af3 (_ j:Int):Prop:=j≠0/\j.natAbs<lmD
def Yi (i j:Int):Prop:=i.natAbs<lmM/\j.natAbs<lmM
theorem Yi.ok (h:Yi i j):IntMulOk i j:=by
 have h1:=bits_le h.1;have h2:=bits_le h.2;have hb:bitsLine=134217728:=rfl;have z:yb (nL i+nL j)=false:=by
  unfold yb;refine decide_eq_false ?_
  lia
 unfold IntMulOk;rw[z]
 simp
section
theorem Yu:OpR X (kd .FloorDiv) (rI af3 λi j=>.int<|i.fdiv j):=
 opI λ_ _ _ _ _ _ _ hc q=>floordiv_int hc.1 q<|.inl<|PyProof.noPylong_of_log2<|cx (Zc (k:=8900) (QC▸hc.2)<|by decide)<|by decide
theorem aac:OpR X (kd .Mult) (rI Yi λi j=>.int<|i*j):=opI λ_ _ _ _ _ _ _ hc q=>mul_int q hc.ok
end
mutual
inductive DV (K:bq)(H:Hp):V->xk->Prop where
 |non:DV K H .non .none
 |bl (b:Bool):DV K H (.bl b) (.bool b)
 |int (i:Int):DV K H (.int i) (.int i)
 |str (x:Str):DV K H (.str x) (.str x)
 |tup {a:Addr} {xs:List V} {ds:List xk}:SqT K H a xs->DVs K H xs ds->DV K H (.ref a) (.tuple ds)
 |lst {a:Addr} {xs:List V} {ds:List xk}:SqL K H a xs->DVs K H xs ds->DV K H (.ref a) (.list ds)
inductive DVs (K:bq)(H:Hp):List V->List xk->Prop where
 |nil:DVs K H [] []
 |cons {v:V} {vs:List V} {d:xk} {ds:List xk}:DV K H v d->DVs K H vs ds->DVs K H (v::vs) (d::ds)
end
section
mutual
theorem DV.reads (I:Inv X π σ H s):∀{v:V} {d:xk} {u:a9},DV X.K H v d->RelV v u->∃as,Reads s.heap u d as
 |_,_,u,.non,r=>by cases(show u=ij from r);exact⟨_,.none⟩
 |_,_,u,.bl b,r=>by cases(show u=A0 b from r);exact⟨_,.bool b⟩
 |_,_,u,.int i,r=>by obtain⟨t,e⟩:=(show ∃t,u=AF i t from r);subst e;exact⟨_,.int i t⟩
 |_,_,u,.str x,r=>by obtain⟨t,e⟩:=(show ∃t,u=AG x t from r);subst e;exact⟨_,.str x t⟩
 |_,_,u,.tup (a:=a) h hs,r=>by
  cases(show u=c9 a from r);obtain⟨χ,rv,⟨o,ho,hc,n,hd⟩,_⟩:=I.tuple h;obtain⟨as,ra⟩:=DVs.reads I hs rv;exact⟨as,.tuple ho hc hd<|by simpa using ra⟩
 |_,_,u,.lst (a:=a) h hs,r=>by
  cases(show u=c9 a from r);obtain⟨χ,rv,⟨o,n,ho,hc,_,hd⟩,_⟩:=I.list h;obtain⟨as,ra⟩:=DVs.reads I hs rv;exact⟨a::as,.list ho hc hd<|by simpa using ra⟩
theorem DVs.reads (I:Inv X π σ H s):∀{vs:List V} {ds:List xk} {us:List a9},DVs X.K H vs ds->Vals vs us->∃as,ReadsAll s.heap us ds as
 |_,_,_,.nil,.nil=>⟨[],.nil⟩
 |_,_,_,.cons h hs,.cons r rs=>by
  obtain⟨as,ra⟩:=DV.reads I h r;obtain⟨bs,rb⟩:=DVs.reads I hs rs;exact⟨as++bs,.cons ra rb⟩
end
end
section
def ag8 (K:bq):R2:=λx y H Q=>∃d e,DV K H x d/\DV K H y e/\iO d=true/\iO e=true/\Q (.bl<|i8 d e) H
def ahw (K:bq):R2:=λx y H Q=>∃d e,DV K H x d/\DV K H y e/\iO d=true/\iO e=true/\Q (.bl<|!PyData.eqv d e) H
theorem aeu (hu:X.A.units+64<mE):OpR X (fN .Eq) (ag8 X.K):=by
 intro π s σ H x y v u Q I rx ry h;refine uU h λd e hd he sd se q=>?_;obtain⟨as,ra⟩:=hd.reads I rx;obtain⟨bs,rb⟩:=he.reads I ry;exact eq_dataH ra rb sd se hu<|bL I q rfl
theorem adv (hu:X.A.units+64<mE):OpR X (fN .NotEq) (ahw X.K):=by
 intro π s σ H x y v u Q I rx ry h;refine uU h λd e hd he sd se q=>?_;obtain⟨as,ra⟩:=hd.reads I rx;obtain⟨bs,rb⟩:=he.reads I ry;exact ne_dataH ra rb sd se hu<|bL I q rfl
end
section
noncomputable def af9:V->Option a9
 | .ty n=>some<|.type n
 | .ref a=>some<|.ref a
 |_=>none
theorem YL (e:af9 c=some cv)(r:RelV c u):u=cv:=by
 cases c with
 |ty n=>cases e;exact r
 |ref a=>cases e;exact r
 |_=>cases e
end
section
end
structure Fly (P:cS)(w:gu)(outer:List Env)(H:Hp)(s:bE)(e:a9)(s':bE)(ea t:Addr)(cls:a9)(B:Heap)(H':Hp):Prop where
 is:e=.ref ea
 os:s'.os=s.os
 bare:vT s'.gens
 fly:Heap.FlyingW B outer ea cls (.ref t) s'.heap
 keep:∀b o,s.heap.get? b=some o->H b=none->b∉frs outer->B.get? b=some o
 slot:∀b o,s.heap.get? b=some o->b∈frs outer->∃sl,s'.heap.get? b=some { o with slots:=sl }
 free:∀b o,s.heap.get? b=some o->H b=none->H' b=none
 there:∀b o,s.heap.get? b=some o->b∉frs outer->∃o',B.get? b=some o'
 tups:∀b xs,H b=some (.tup xs)->H' b=some (.tup xs)
 frzs:∀b o u,H b=some (.frz o u)->H' b=some (.frz o u)
 tbls:∀b ps,H b=some (.tbl ps)->∃more,H' b=some (.tbl (ps++more))
 hok:HOk P w H' B
 new:s.heap.get? ea=none
 nin:H' ea=none
def CX1 (P:cS)(w:gu):CXT:=λouter H s E e s'=>∃ea t cls B H',Fly P w outer H s e s' ea t cls B H'/\E cls none H'
theorem Ys (hf:env.frame=some L)(h:b∈frs (env::l)):b=L\/b∈frs l:=by simp_all[nK,frs]
theorem W8 (h:b∈frs l):b∈frs (env::l):=by simp_all[frs]
section
variable {P:cS}{w:gu}{K:bq}{mg:Zp}{base:Heap}{N:List Str}{qual:Str}{scope:zd}{f:Addr}{cd:a9}{A:i7}{outer:List Env}{s:bE}{H:Hp}{E:XK}
theorem fB:Passes (CX1 P w) (Cy (CX1 P w) P w K mg base N qual scope f cd A outer s H E) E:=by
 intro π σ H1 s1 e s' I h;refine uX h λea t cls B H' F hw=>?_;obtain rfl:=F.is;have nfr:∀b o,s.heap.get? b=some o->b∉frs outer->b∉frs (Cy (CX1 P w) P w K mg base N qual scope f cd A outer s H E).stack:=λb o q nb hb=>by
  rcases Ys (L:=s.heap.objs.size) rfl hb with z|z
  ·exact absurd (aT q) (by rw[z];exact hV _)
  ·exact nb z
 have nx:∀b:Addr,b∉(Cy (CX1 P w) P w K mg base N qual scope f cd A outer s H E).ex:=λb z=>absurd (show b∈([]:List Addr) from z) (by simp);refine wpAny_leaves_onW (base:=B) (outer:=outer) (L:=s.heap.objs.size) I.ok.frames rfl F.fly λh2 x1 x2=>?_;refine⟨ea,t,cls,B,H',⟨rfl,F.os.trans I.os,F.bare,x1,λb o q n nb=>?_,λb o q hb=>?_,λb o q n=>?_,λb o q nb=>?_,λb xs q=>F.tups b xs<|I.base.tups b xs q,λb o u q=>F.frzs b o u<|I.base.frzs b o u q,λb ps q=>?_,F.hok,?_,F.nin⟩,hw⟩
 ·exact F.keep b o (I.base.keep b o q n nb<|nx b) (I.base.free b o q n<|nx b)<|nfr b o q nb
 ·obtain⟨sl,e1⟩:=I.base.slot b o q (I.ok.frf b hb) hb<|nx b;obtain⟨_,o',ho',hnf⟩:=I.ok.G7.mem hb;have eo:o=o':=dE<|q.symm.trans ho';obtain⟨sl1,e2⟩:=F.slot b _ e1<|W8 hb;obtain⟨sl2,e3⟩:=x2 b _ e2 λv z=>hnf v (by rw[← eo];exact z);exact⟨sl2,e3⟩
 ·obtain⟨o',e1⟩:=I.base.there b o q<|nx b;exact F.free b o' e1<|I.base.free b o q n<|nx b
 ·obtain⟨o',e1⟩:=I.base.there b o q<|nx b;exact F.there b o' e1<|nfr b o q nb
 ·obtain⟨m1,e1⟩:=I.base.tbls b ps q;obtain⟨m2,e2⟩:=F.tbls b _ e1;exact⟨m1++m2,by rw[e2,AI]⟩
 ·cases q:s.heap.get? ea with
  |none=>rfl
  |some o=>
   obtain⟨o',e1⟩:=I.base.there ea o q<|nx ea;rw[F.new] at e1;cases e1
end
theorem acA:Passes (CX1 P w) X E0:=λ_ _ _ _ _ _ _ ⟨_,_,_,_,_,_,z⟩=>z.elim
def ae9 (ea:Addr)(cls:a9)(h:Heap):Prop:=∃o,h.get? ea=some o/\o.cls=cls/\∃vs,o.data=.fields vs
section
end
section
end
section
variable {X:Cx}{k:Nat}{f:Addr}{fd:kK}{ps:List Str}{sp:Sp}{x:Str}{p pos pos':Pos}{e:Expr}{es:List Expr}{t:TA}
end
section
variable {X:Cx}{x:Str}{e₀:Expr}{np η pos:Pos}{te:TE}{C:Addr}{bmB:List a9}{B newId initId:String}
end
structure Fn (P:cS)(w:gu)(K:bq)(mg:Zp)(base:Heap)(k:Nat)(x:Str)(ps:List Str)(sp:Sp):Prop where
 ex:∃f fd,rT P w K mg base (CX1 P w) k f fd ps sp/\Binds K fd ps []/\BC K (.ref f)=true/\mg x=some (.ref f)
section
end
section
variable {P:cS}{w:gu}{K:bq}{mg:Zp}{base:Heap}
theorem Q7 {x qual:Str}{st:Stmt}{f:Addr}{fd:kK}{N ps:List Str}{k:Nat}{sp:Sp}(F:Fun K x qual st f fd)(S:aG N ps (az st))(len:∀vs H Q E,sp vs H Q E->vs.length=ps.length)
  (hbody:∀(cdv:a9) (A:i7) (outer:List Env) (s:bE) (H:Hp) (vs:List V) (Q:VK) (E:XK),eE k (A.deeper<|x9 qual (az st) s.heap.objs.size f cdv)->sp vs H Q E->
   ∃t,PSs (Cy (CX1 P w) P w K mg base N qual (az st) f cdv A outer s H E) (jQ st) t/\t { nx:=λ_ H'=>Q .non H',rt:=Q } (start N vs) H):rT P w K mg base (CX1 P w) (k+1) f fd ps sp:=by
 obtain⟨oc,od,kV,doc,pm,an,cdv,ct,osl,rfl,lk,hcd⟩:=F.ex;refine afA lk hcd S len λA outer s H vs Q E hr hsp=>?_;obtain⟨t,h,q⟩:=hbody cdv A outer s H vs Q E hr hsp;exact⟨t,h,q⟩
end
structure Df (K:bq)(mg:Zp)(x:Str)(st:Stmt)(ps:List Str):Prop where
 ex:∃f fd,Fun K x x st f fd/\Binds K fd ps []/\mg x=some (.ref f)
theorem Df.fn {P:cS}{w:gu}{K:bq}{mg:Zp}{base:Heap}{x:Str}{st:Stmt}{ps:List Str}{k:Nat}{sp:Sp}(D:Df K mg x st ps)
  (h:∀f fd,Fun K x x st f fd->rT P w K mg base (CX1 P w) k f fd ps sp):Fn P w K mg base k x ps sp:=by
 refine wy D.ex λf fd F b m=>?_;exact⟨f,fd,h f fd F,b,F.kp,m⟩
section
variable {prog:cS}{w:gu}{A:i7}{E:Zs}{h:Heap}{g:Array sQ}{d:Drawn}{t:Nat}{os:OsState}{a C:Addr}{o:Obj}{K:bq}
end
section
end
end Hd
namespace L2
open PySem PySem.Spec PyProof.Rows
section
variable {κ:Type}[DecidableEq κ]
noncomputable def p6 (ι:List (κ×V))(k:κ):Option V:=(ι.find? λkv=>decide<|kv.1=k).map (·.2)
noncomputable def putK (ι:List (κ×V))(k:κ)(v:V):List (κ×V):=
 if(ι.any λkv=>decide<|kv.1=k)=true then ι.map (λkv=>if kv.1=k then(kv.1,v) else kv) else ι++[(k,v)]
theorem vh {p:κ×V}(e:p.1=k):p6 (p::r) k=some p.2:=by simp[p6,kR,e]
theorem vQ {p:κ×V}(e:¬p.1=k):p6 (p::r) k=p6 r k:=by simp[p6,kR,e]
theorem Er (k:κ):∀ι:List (κ×V),(ι.any λkv=>decide<|kv.1=k)=(p6 ι k).isSome
 |[]=>rfl
 |p::r=>by
  rw[wm];by_cases e:p.1=k
  ·simp only[vh e,decide_eq_true e,Bool.true_or,Option.isSome_some]
  ·rw[vQ e,decide_eq_false e,Bool.false_or];exact Er k r
theorem vI (ι:List (κ×V))(k:κ)(v:V):(putK ι k v).length<=ι.length+1:=by grind[cm,a8,cw,oD,putK]
theorem Xv {ι:List (κ×V)}{k:κ}(v:V)(h:p6 ι k=none):putK ι k v=ι++[(k,v)]:=by simp_all[Er,putK]
theorem Bj.sZ (r:Bj o u):o.isSome=u.isSome:=by
 cases o with
 |none=>cases u with
  |none=>rfl
  |some _=>exact(show False from r).elim
 |some _=>cases u with
  |none=>exact(show False from r).elim
  |some _=>rfl
theorem Bj.getD (r:Bj o u)(rd:RelV d d'):RelV (o.getD d) (u.getD d'):=by
 cases o with
 |none=>cases u with
  |none=>exact rd
  |some _=>exact(show False from r).elim
 |some _=>cases u with
  |none=>exact(show False from r).elim
  |some _=>exact r
theorem KV.val (r:KV ι vs)(k:κ):Bj (p6 ι k) (yi vs k):=by
 unfold KV at r;induction r with
 |nil=>exact iA
 | @cons p q ps qs h t ih=>
  obtain⟨h1,h2⟩:=h;by_cases e:p.1=k
  ·have e':q.1=k:=h1.symm.trans e;have b:yi (q::qs) k=some q.2:=by simp[yi,kR,e']
   rw[vh e,b];exact h2
  ·have e':¬q.1=k:=λz=>e<|h1.trans z;have b:yi (q::qs) k=yi qs k:=by simp[yi,kR,e']
   rw[vQ e,b];exact ih
theorem KV.any (r:KV ι vs)(k:κ):(ι.any λkv=>decide<|kv.1=k)=vs.any λkv=>decide (kv.1=k):=by
 unfold KV at r;induction r with
 |nil=>rfl
 |cons h t ih=>rw[wm,wm,ih,h.1]
theorem KV.repl (r:KV ι vs)(k:κ){y:V}{u:a9}(ry:RelV y u):
  KV (ι.map λkv=>if kv.1=k then(kv.1,y) else kv) (vs.map λkv=>if kv.1=k then(kv.1,u) else kv):=by
 unfold KV at r ⊢;induction r with
 |nil=>exact .nil
 | @cons p q ps qs h t ih=>
  rw[ah,ah];refine .cons ?_ ih;obtain⟨h1,h2⟩:=h;by_cases e:p.1=k
  ·rw[if_pos e,if_pos<|h1.symm.trans e];exact⟨h1,ry⟩
  ·rw[if_neg e,if_neg λz=>e<|h1.trans z];exact⟨h1,h2⟩
theorem KV.put (r:KV ι vs)(k:κ){y:V}{u:a9}(ry:RelV y u):KV (putK ι k y) (stored vs k u):=by
 unfold putK stored;rw[r.any k];by_cases e:(vs.any λkv=>decide<|kv.1=k)=true
 ·rw[if_pos e,if_pos e];exact r.repl k ry
 ·rw[if_neg e,if_neg e];exact Paired.snoc r ⟨rfl,ry⟩
theorem KV.length (r:KV ι vs):ι.length=vs.length:=kq r
end
theorem FP (r:RelV (kV k) u):(ji P w).is k u=true:=by
 cases k with
 |inl i=>obtain⟨t,e⟩:=(show ∃t,u=AF i t from r);subst e;exact Mr P w i t
 |inr x=>obtain⟨t,e⟩:=(show ∃t,u=AG x t from r);subst e;exact Lh P w x t
abbrev KT (T:Addr->List V->Prop)(H:Hp):List (List Kt×V)->List (List Kt×Addr×a9)->Prop:=ko λp q=>p.1=q.1/\TrT T H q.2.1 p.1/\RelV p.2 q.2.2
theorem KT.val (r:KT T H ι xs)(k:List Kt):Bj (p6 ι k) ((BA xs k).map (·.2)):=by
 induction r with
 |nil=>exact iA
 | @cons p q ps qs h t ih=>
  obtain⟨h1,_,h2⟩:=h;by_cases e:p.1=k
  ·have e':q.1=k:=h1.symm.trans e;have b:BA (q::qs) k=some q.2:=by simp[BA,kR,e']
   rw[vh e,b];exact h2
  ·have e':¬q.1=k:=λz=>e<|h1.trans z;have b:BA (q::qs) k=BA qs k:=by simp[BA,kR,e']
   rw[vQ e,b];exact ih
theorem KT.repl (r:KT T H ι xs)(k:List Kt){y:V}{u:a9}(ry:RelV y u):
  KT T H (ι.map λkv=>if kv.1=k then(kv.1,y) else kv) (xs.map<|putAt k u):=by
 induction r with
 |nil=>exact .nil
 | @cons p q ps qs h t ih=>
  rw[ah,ah];refine .cons ?_ ih;obtain⟨h1,h2,h3⟩:=h;unfold putAt;by_cases e:p.1=k
  ·rw[if_pos e,if_pos<|h1.symm.trans e];exact⟨h1,h2,ry⟩
  ·rw[if_neg e,if_neg λz=>e<|h1.trans z];exact⟨h1,h2,h3⟩
theorem KT.put (r:KT T H ι xs)(k:List Kt){b:Addr}{y:V}{u:a9}(hb:TrT T H b k)(ry:RelV y u):
  KT T H (putK ι k y) (storedH xs k b u):=by
 have e:(ι.any λkv=>decide<|kv.1=k)=(BA xs k).isSome:=by
  rw[Er,(r.val k).sZ,uS]
 unfold putK storedH;rw[e];by_cases q:(BA xs k).isSome=true
 ·rw[if_pos q,if_pos q];exact r.repl k ry
 ·rw[if_neg q,if_neg q];exact Paired.snoc r ⟨rfl,hb,ry⟩
theorem KT.keeps (r:KT T H ι xs)(ht:∀b ys,H b=some (.tup ys)->H' b=some (.tup ys)):KT T H' ι xs:=
 ko.adx r λ_ _ z=>⟨z.1,z.2.1.imp ht,z.2.2⟩
section
theorem acC (ok:HOk P w H h)(e:Rd H a u):cU P w H h a u:=e.ok ok
theorem uP (ok:HOk P w H h)(e:Rd H a (.dK ι)):ι.length<=av/\(a==h9)=false/\∃vs,KV ι vs/\h.DictOf (ji P w) a vs:=
 show cU P w H h a (.dK ι) from acC ok e
theorem acN (ok:HOk P w H h)(e:H a=some (.dK ι)):ι.length<=av/\(a==h9)=false/\∃vs,KV ι vs/\h.DictOf (ji P w) a vs:=uP ok<|.inl e
theorem Gy (hT:∀b ks,TrT T H b ks->(jd P w).is h ks b)(ok:HOk P w H h)(e:Rd H a (.dT T ι)):ι.length<=av/\(a==h9)=false/\
  ∃xs,KT T H ι xs/\h.DictOfH (jd P w) a xs:=by
 obtain⟨z,y,xs,r,o,es,ep,h1,h2,h3,h4,h5⟩:=(show cU P w H h a (.dT T ι) from acC ok e);refine⟨z,y,xs,r,o,es,ep,h1,h2,h3,h4,λx hx=>?_,h5⟩;have all:∀{l:List (List Kt×V)} {m:List (List Kt×Addr×a9)},KT T H l m->∀x∈m,(jd P w).is h x.1 x.2.1:=by
  intro l m q;induction q with
  |nil=>intro x hx;exact nomatch hx
  | @cons p q ps qs hq t ih=>
   intro x hx;rcases aE.mp hx with e|hx
   ·subst e;rw[← hq.1];exact hT _ _ hq.2.1
   ·exact ih x hx
 exact all r x hx
theorem WX (hT:∀b ks,TrT T H b ks->(jd P w).is h ks b)(ok:HOk P w H h)(e:H a=some (.dT T ι)):ι.length<=av/\(a==h9)=false/\
  ∃xs,KT T H ι xs/\h.DictOfH (jd P w) a xs:=Gy hT ok<|.inl e
end
def Hk (K:bq)(H:Hp)(a:Addr)(y:V)(r:Option V):Prop:=
 (∃ι k,Rd H a (.dK ι)/\y=kV k/\r=p6 ι k)\/∃ι k b,Rd H a (.dT (KTp K) ι)/\y=.ref b/\TrT (KTp K) H b k/\r=p6 ι k
def Kg (K:bq)(H:Hp)(a:Addr)(y v:V)(H':Hp):Prop:=
 (∃ι k,H a=some (.dK ι)/\y=kV k/\ι.length<av/\H'=upd H a (.dK<|putK ι k v)) ∨
 ∃ι k b,H a=some (.dT (KTp K) ι)/\y=.ref b/\TrT (KTp K) H b k/\ι.length<av/\H'=upd H a (.dT (KTp K)<|putK ι k v)
theorem Kg.k {K:bq}{H:Hp}{a:Addr}{ι:List (Key×V)}{k:Key}{v:V}(e:H a=some (.dK ι))(hl:ι.length<av):Kg K H a (kV k) v (upd H a<|.dK<|putK ι k v):=.inl ⟨ι,k,e,rfl,hl,rfl⟩
theorem Kg.t {K:bq}{H:Hp}{a b:Addr}{ι:List (List Kt×V)}{k:List Kt}{v:V}(e:H a=some (.dT (KTp K) ι))(eb:TrT (KTp K) H b k)(hl:ι.length<av):
  Kg K H a (.ref b) v (upd H a<|.dT (KTp K)<|putK ι k v):=.inr ⟨ι,k,b,e,rfl,eb,hl,rfl⟩
section
variable {X:Cx}{π:Zl}{σ:St}{H:Hp}{s:bE}{a:Addr}{y v:V}{u r:a9}{o:Option V}{A:i7}{E:Zs}
theorem Inv.big (I:Inv X π σ H s):h9<s.heap.objs.size:=by
 have h:gy<s.heap.objs.size:=(I.mod.glob.keeps I.bk).lt;exact Nat.lt_trans (by decide) h
mutual
theorem Ub (I:Inv X π σ H s):∀{n:Nat} {v:V} {k:Kt} {u:a9},Bc (KTp X.K) H n v k->RelV v u->oR s.heap n k u
 |n,_,_,u,.k (x:=x),r=>by rw[rK];exact FP (P:=X.prog) (w:=X.w) r
 |_,_,_,u,.t (b:=b) h hs,r=>by
  cases(show u=c9 b from r);obtain⟨χ,rv,⟨o,ho,hc,m,hd⟩,_⟩:=I.tuple<|SqU.sq h;exact nA.mpr ⟨b,o,χ.toArray,m,rfl,ho,hc,hd,by simpa using LK I hs rv⟩
theorem LK (I:Inv X π σ H s):∀{n:Nat} {vs:List V} {ks:List Kt} {us:List a9},tD (KTp X.K) H n vs ks->Vals vs us->ko (oR s.heap n) ks us
 |_,_,_,_,.nil,.nil=>.nil
 |_,_,_,_,.cons h hs,.cons r rs=>.cons (Ub I h r)<|LK I hs rs
end
theorem vM (I:Inv X π σ H s)(e:TrT (KTp X.K) H b ks):(jd X.prog X.w).is s.heap ks b:=by
 obtain⟨vs,h,hs⟩:=e;exact Ub I (.t h hs) rfl
theorem zN (I:Inv X π σ H s):∀b ks,TrT (KTp X.K) H b ks->(jd X.prog X.w).is s.heap ks b:=λb ks e=>vM I e
theorem pR (hu:A.units+16<mE):(jd X.prog X.w).room A.in1:=by
 show A.units+1+8<mE
 lia
theorem Vo (hu:A.units+16<mE)(I:Inv X π σ H s)(g:Hk X.K H a y (some v))(ry:RelV y u)(h:∀w' s',Inv X π σ H s'->RelV v w'->Q w' s'):
  b9 (eB X.prog X.w) A (zI (.ref a) u) Q E s:=by
 rcases g with⟨ι,k,e,ey,l⟩|⟨ι,k,b,e,ey,eb,l⟩
 ·subst ey;obtain⟨z,hd,vs,rel,dd⟩:=uP I.hok e;obtain⟨w',hw,rw'⟩:=Bj.some_of (v:=v) (o:=yi vs k) (by rw[l];exact rel.val k);exact wpAny_getItem_of (FP ry) dd.mapOf hw<|h w' _ (I.tok _) rw'
 ·subst ey;cases(show u=c9 b from ry);obtain⟨z,hd,xs,rel,dd⟩:=Gy (zN I) I.hok e;obtain⟨w',hw,rw'⟩:=Bj.some_of (v:=v) (o:=(BA xs k).map (·.2)) (by rw[l];exact rel.val k);obtain⟨p,hp,hp2⟩:=kg.mp hw;refine wpAny_getItem_heap (pR hu) (vM I eb) dd hp ?_;rw[hp2];exact h w' _ (I.tok _) rw'
theorem agY (hu:A.units+16<mE)(I:Inv X π σ H s)(g:Hk X.K H a y o)(ry:RelV y u)(h:∀s',Inv X π σ H s'->Q (.bool o.isSome) s'):
  b9 (eB X.prog X.w) A (fN .In u<|.ref a) Q E s:=by
 rcases g with⟨ι,k,e,ey,l⟩|⟨ι,k,b,e,ey,eb,l⟩
 ·subst ey;obtain⟨z,hd,vs,rel,dd⟩:=uP I.hok e;refine wpAny_in_of (FP ry) hd dd.mapOf ?_;rw[← (rel.val k).sZ,← l];exact h _<|I.tok _
 ·subst ey;cases(show u=c9 b from ry);obtain⟨z,hd,xs,rel,dd⟩:=Gy (zN I) I.hok e;refine wpAny_in_heap (pR hu) (vM I eb) hd dd ?_;have q:=(rel.val k).sZ;rw[uS] at q;rw[← q,← l];exact h _<|I.tok _
theorem aaE (hu:A.units+16<mE)(I:Inv X π σ H s)(g:Hk X.K H a y o)(ry:RelV y u)(h:∀s',Inv X π σ H s'->Q (.bool<|!o.isSome) s'):
  b9 (eB X.prog X.w) A (fN .NotIn u<|.ref a) Q E s:=by
 rcases g with⟨ι,k,e,ey,l⟩|⟨ι,k,b,e,ey,eb,l⟩
 ·subst ey;obtain⟨z,hd,vs,rel,dd⟩:=uP I.hok e;refine wpAny_notIn_of (FP ry) hd dd.mapOf ?_;rw[← (rel.val k).sZ,← l];exact h _<|I.tok _
 ·subst ey;cases(show u=c9 b from ry);obtain⟨z,hd,xs,rel,dd⟩:=Gy (zN I) I.hok e;refine wpAny_notIn_heap (pR hu) (vM I eb) hd dd ?_;have q:=(rel.val k).sZ;rw[uS] at q;rw[← q,← l];exact h _<|I.tok _
theorem yG (I:Inv X π σ H s)(mu:Mut (H a))(hs:hJ a s.heap h')(he:∃q,h'.get? a=some q)(new:cU X.prog X.w (upd H a ob) h' a ob):
  Inv X π σ (upd H a ob) { s with heap:=h',toks:=t' }:=
 I.write (x:=a) (e:=a) mu (.inl rfl) (λb q hb z=>(hs.2 b hb).trans z) he new
theorem YC (z:ι.length<=av)(hd:(a==h9)=false)(rel:KV ι vs)(dd:h'.DictOf (ji P w) a vs):
  cU P w H' h' a (.dK ι):=⟨z,hd,vs,rel,dd⟩
theorem VD (hu:A.units+16<mE)(I:Inv X π σ H s)(g:Kg X.K H a y v H')(ry:RelV y u)(rv:RelV v r)(h:∀s',Inv X π σ H' s'->Q () s'):
  b9 (eB X.prog X.w) A (setItem (.ref a) u r) Q E s:=by
 rcases g with⟨ι,k,e,ey,l,eH⟩|⟨ι,k,b,e,ey,eb,l,eH⟩
 ·subst ey eH;obtain⟨z,hd,vs,rel,dd⟩:=acN I.hok e;have hz:vs.length<=av:=by rw[← rel.length];exact z
  have hl:(putK ι k v).length<=av:=by have:=vI ι k v;lia
  refine wpAny_setItem_pairs (hsz:=hz) (FP ry) dd λh' dd' hs=>h _ ?_;have he:∃q,h'.get? a=some q:=let⟨q,_,_,hq,_⟩:=dd';⟨q,hq⟩
  exact yG I (by rw[e];exact iA) hs he<|YC hl hd (rel.put k rv) dd'
 ·subst ey eH;cases(show u=c9 b from ry);obtain⟨z,hd,xs,rel,dd⟩:=WX (zN I) I.hok e;have hz:xs.length<=av:=by rw[← kq rel];exact z
  have hl:(putK ι k v).length<=av:=by have:=vI ι k v;lia
  refine wpAny_setItem_heap (hsz:=hz) (pR hu) (vM I eb) dd λh' dd' hs=>h _ ?_;refine Dt dd' λq es ep hq h2 h3 h4 _ h5=>?_;refine yG I (by rw[e];exact iA) hs ⟨q,hq⟩ ⟨hl,hd,_,(rel.put k eb rv).keeps λc ys ec=>?_,q,es,ep,hq,h2,h3,h4,h5⟩;rw[bz<|K7 ec e λz=>nomatch z];exact ec
end
section
theorem agI (I:Inv X π σ H s)(e:Rd H a (.dK ι))(h:∀t s',Inv X π σ H s'->Q (.int ι.length t) s'):b9 (eB X.prog X.w) A (call (.builtin "len") [.ref a]) Q E s:=by
 obtain⟨z,hd,vs,rel,dd⟩:=uP I.hok e;refine call_len_dict hd dd (by rw[← rel.length];rw[zD] at z;lia) ?_;rw[← rel.length];exact h _ _<|I.tok _
end
def abu (i:Expr):Prop:=∀ov iv,zS i false ov iv=operate [ov,iv] (zI ov iv)
theorem aaq {prog:cS}{w:gu}{A:i7}{E:Zs}{s:bE}{env:Env}{value slice:Expr}{pos:Pos}{T id:String}{Q:Zs}
  (hl:A2 (.type T) "__getitem__" = pure (some<|.builtin id)) (hs:abu slice)
  (h:b9 (eB prog w) A (eval value env) (λo s₁=>b9 (eB prog w) A (eval slice env) (λi s₂=>s₂.TypeIs o T/\b9 (eB prog w) A (zI o i) Q E s₂) E s₁) E s):
  b9 (eB prog w) A (eval (.Subscript value slice pos) env) Q E s:=by
 refine Subscript_<|ki h (λo s₁ h₁=>ki h₁ (λi s₂ h₂=>?_) λ_ _ x=>x) λ_ _ x=>x;obtain⟨hT,h₂⟩:=h₂;unfold AN;refine ab ?_;rw[getitemInPython_of_ne hT.not_modules];refine ab<|ma hT hl ?_;have fin:b9 (eB prog w) A (zS slice false o i) (λr s₃=>b9 (eB prog w) A (letTemporaryGo value o r >>= λ_=>pure r) Q E s₃) E s₂:=by
  rw[hs o i];exact wpAny_operating<|ki h₂ (λr s₃ h₃=>ab<|wpAny_letTemporaryGo<|ai h₃) λ_ _ x=>x
 first
  |exact ai (ab fin)
  |exact ab (ai<|ab fin)
  |exact ab fin
theorem Oa (I:Inv X π σ H s)(g:Hk X.K H a y o):s.TypeIs (.ref a) "dict":=by
 rcases g with⟨ι,k,e,_,_⟩|⟨ι,k,b,e,_,_,_⟩
 ·obtain⟨_,_,vs,_,dd⟩:=uP I.hok e;exact dd.typeIs
 ·obtain⟨_,_,xs,_,dd⟩:=Gy (zN I) I.hok e;exact dd.typeIs
def agp (K:bq)(td ty:TE):TE:=λσ H Q=>td σ H λx H1=>ty σ H1 λy H2=>∃a v,x=.ref a/\Hk K H2 a y (some v)/\Q v H2
def aga (K:bq)(td ty tv:TE):TS:=λD σ H=>tv σ H λv H1=>td σ H1 λx H2=>ty σ H2 λy H3=>∃a H4,x=.ref a/\Kg K H3 a y v H4/\D.nx σ H4
section
theorem Rf (hu:X.A.units+16<mE)(ho:PE X o td)(hi:PE X i ty)(hs:abu i):PE X (.Subscript o i pos) (agp X.K td ty):=by
 intro π s σ H Q I h;refine aaq PySem.F.slot_dict_getitem.lookup hs<|thn (ho π s σ H _ I h) λu s1 ⟨x,H1,I1,rx,q1⟩=>thn (hi π s1 σ H1 _ I1 q1) λiv s2 hE=>?_;obtain⟨y,H2,I2,ry,a,v,ex,g,q2⟩:=hE;subst ex;obtain rfl:u=c9 a:=rx;exact⟨Oa I2 g,Vo hu I2 g ry λw' s3 I3 rw'=>⟨v,H2,I3,rw',q2⟩⟩
theorem Kl (hu:X.A.units+16<mE)(ho:PE X o td)(hi:PE X i ty)(hv:PE X value tv)(hs:gX value (some<|.Subscript o i pos') pos.line X.env=pure false):
  PS X (.Assign [.Subscript o i pos'] value pos) (aga X.K td ty tv):=by
 intro π s σ H D I h;refine wpAny_Assign_Subscript (thn (hv π s σ H _ I h) λr s1 ⟨v,H1,I1,rv,q1⟩=>thn (ho π s1 σ H1 _ I1 q1) λu s2 ⟨x,H2,I2,rx,q2⟩=>thn (hi π s2 σ H2 _ I2 q2) λiv s3 ⟨y,H3,I3,ry,a,H4,ex,g,q3⟩=>?_) hs;subst ex;obtain rfl:u=c9 a:=rx;exact VD hu I3 g ry rv λs4 I4=>⟨σ,H4,I4,q3⟩
end
theorem Ln (h:Heap)(hb:h9<h.objs.size):cU P w H (h.push { cls:=.type "dict",data:=.dict #[] }) h.objs.size (.dK []):=
 ⟨f6 _,beq_eq_false_iff_ne.mpr<|eK<|c6 hb,[],.nil,Heap.DictOf.new h⟩
theorem Ms (h:Heap)(hb:h9<h.objs.size):cU P w H (h.push { cls:=.type "dict",data:=.dict #[] }) h.objs.size (.dT T []):=
 ⟨f6 _,beq_eq_false_iff_ne.mpr<|eK<|c6 hb,[],.nil,_,#[],0,ay _ rfl,⟨rfl,rfl,rfl⟩,rfl,rfl,qf⟩
def adE:TE:=λ_ H Q=>∀p,H p=none->Q (.ref p) (upd H p<|.dK [])
def acV (K:bq):TE:=λ_ H Q=>∀p,H p=none->Q (.ref p) (upd H p<|.dT (KTp K) [])
section
theorem Yd:PE X (.Dict [] [] pos) adE:=λπ s σ H Q I h=>
 wpAny_Dict_empty ⟨.ref s.heap.objs.size,_,I.laid (a:=s.heap.objs.size) (o:=.dK []) (t':=s.toks) (λ_ _ q=>ag _ q) (aI _)<|Ln s.heap I.big,rfl,h _<|I.hok.fresh<|aI _⟩
theorem Xq:PE X (.Dict [] [] pos) (acV X.K):=λπ s σ H Q I h=>
 wpAny_Dict_empty ⟨.ref s.heap.objs.size,_,I.laid (a:=s.heap.objs.size) (o:=.dT (KTp X.K) []) (t':=s.toks) (λ_ _ q=>ag _ q) (aI _)<|Ms s.heap I.big,rfl,h _<|I.hok.fresh<|aI _⟩
end
def z9:List (TE×TE)->St->Hp->(List (V×V)->Hp->Prop)->Prop
 |[],_,H,Q=>Q [] H
 |(tk,tv)::r,σ,H,Q=>tk σ H λx H1=>tv σ H1 λy H2=>z9 r σ H2 λps H3=>Q ((x,y)::ps) H3
abbrev VV:List (V×V)->List (a9×a9)->Prop:=ko λp q=>RelV p.1 q.1/\RelV p.2 q.2
def PPs (X:Cx)(pos:Pos)(keys:List (Option Expr))(values:List Expr)(trs:List (TE×TE)):Prop:=
 ∀(π:Zl) (s:bE) (σ:St) (H:Hp) (Q:List (V×V)->Hp->Prop),Inv X π σ H s->z9 trs σ H Q->
  b9 (eB X.prog X.w) X.A (evalPairs<|pairTrees keys values X.env pos) (λvs s'=>∃ps H',Inv X π σ H' s'/\VV ps vs/\Q ps H') X.xe s
theorem RM:PPs X pos [] [] []:=λπ s σ H Q I h=>pairTrees_nil_walk ⟨[],H,I,.nil,h⟩
theorem pU (hk:PE X k tk)(hv:PE X v tv)(hr:PPs X pos ks vs trs):
  PPs X pos (some k::ks) (v::vs) ((tk,tv)::trs):=λπ s σ H Q I h=>
 pairTrees_cons_walk (thn (hk π s σ H _ I h) λu s1 ⟨x,H1,I1,rx,q1⟩=>thn (hv π s1 σ H1 _ I1 q1) λw2 s2 hE=>xq2 hE λy H2 I2 ry q2=>
  thn (hr π s2 σ H2 _ I2 q2) λws s3 hE=>by obtain⟨ps,H3,I3,rel,q3⟩:=hE;exact⟨(x,y)::ps,H3,I3,.cons ⟨rx,ry⟩ rel,q3⟩)
def nC (ι more:List (Key×V)):List (Key×V):=more.foldl (λacc kv=>putK acc kv.1 kv.2) ι
theorem KV.merge:∀{more:List (Key×V)} {rs:List (Key×a9)} {ι:List (Key×V)} {vs:List (Key×a9)},KV more rs->KV ι vs->KV (nC ι more) (merged vs rs):=by
 intro more rs ι vs r;unfold KV at r;induction r generalizing ι vs with
 |nil=>intro q;exact q
 | @cons p q ps qs h t ih=>
  intro r0;have e:KV (putK ι p.1 p.2) (stored vs q.1 q.2):=by
   have:=r0.put p.1 h.2
   rw[← h.1];exact this
  exact ih e
theorem w5:∀(more ι:List (Key×V)),(nC ι more).length<=ι.length+more.length
 |[],ι=>by show ι.length<=ι.length+0;lia
 |p::r,ι=>by
  have h1:=w5 r<|putK ι p.1 p.2;have h2:=vI ι p.1 p.2;show(nC (putK ι p.1 p.2) r).length<=_;rw[cw];lia
theorem G6:∀{ι:List (Key×V)} {ws:List (a9×a9)},VV (ι.map λkv=>(kV kv.1,kv.2)) ws->∃rs,Carries (ji P w) ws rs/\KV ι rs
 |[],_,r=>by rw[me] at r;cases r;exact⟨[],iA,.nil⟩
 |p::ι,_,r=>by
  rw[ah] at r;cases r with
  | @cons a b as bs h t=>
   obtain⟨rs,c,q⟩:=G6 (P:=P) (w:=w) t;obtain⟨b1,b2⟩:=b;exact⟨(p.1,b2)::rs,⟨FP h.1,rfl,c⟩,.cons ⟨rfl,h.2⟩ q⟩
def ags (trs:List (TE×TE)):TE:=λσ H Q=>∀p,H p=none->z9 trs σ (upd H p<|.dK []) λps H2=>H2 p=some (.dK [])/\∃ι:List (Key×V),ps=ι.map (λkv=>(kV kv.1,kv.2))/\ι.length<=15/\Q (.ref p) (upd H2 p<|.dK<|nC [] ι)
theorem Uy (h:PPs X pos keys values trs)(hall:keys.all (·.isSome)=true)(hl:keys.length=values.length)(h0:keys≠[])
  (h15:keys.length<=15):PE X (.Dict keys values pos) (ags trs):=by
 intro π s σ H Q I q;have hn:=I.hok.fresh<|aI s.heap.objs.size;have I1:=I.laid (a:=s.heap.objs.size) (o:=.dK []) (h':=s.heap.push { cls:=.type "dict",data:=.dict #[] }) (t':=s.toks) (λ_ _ q=>ag _ q) (aI _)<|Ln s.heap I.big;refine wpAny_Dict_walk (knd:=ji X.prog X.w) hall hl h0 h15<|thn (h π _ σ _ _ I1<|q _ hn) λws s2 hE=>?_;obtain⟨ps,H2,I2,rel,e,ι,ep,lk,q2⟩:=hE;subst ep;obtain⟨rs,c,rk⟩:=G6 (P:=X.prog) (w:=X.w) rel;obtain⟨z,hd,vs0,r0,dd⟩:=acN I2.hok e;cases r0;refine⟨rs,c,dd,λh' dd' hs=>⟨.ref s.heap.objs.size,_,?_,rfl,q2⟩⟩;have hz:(nC [] ι).length<=av:=by
  have h1:=w5 ι [];rw[oD] at h1;rw[zD];lia
 have he:∃q,h'.get? s.heap.objs.size=some q:=let⟨q,_,_,hq,_⟩:=dd';⟨q,hq⟩
 exact yG I2 (by rw[e];exact iA) hs he<|YC hz hd (rk.merge .nil) dd'
structure M2 (X:Cx)(o:Expr)(m:Str)(apos:Pos)(e f:Expr)(η:Pos):Prop where
 base:iF o m X.env (eval o X.env)=eval o X.env
 few:((l7 η (aS [e,f] X.env)).all (λx=>!x.1)&&(AO η (sj [] X.env)).all (λx=>x.1.isSome)
  && decide (([e,f]:List Expr).length+([]:List so).length+(if([]:List so).isEmpty then 0 else 1)<30))=true
 line:(apos.endLine==η.line)=true
 trees:l7 η (aS [e,f] X.env)=[(false,eval e X.env),(false,eval f X.env)]
def IsD (K:bq)(H:Hp)(a:Addr):Prop:=(∃ι,Rd H a<|.dK ι)\/∃ι,Rd H a<|.dT (KTp K) ι
theorem Xh (I:Inv X π σ H s)(d:IsD X.K H a):
  s.TypeIs (.ref a) "dict"/\(∀b,c9 a=.ref b->∃ob,s.heap.get? b=some ob/\ob.dict=none)/\(a==h9)=false:=by
 rcases d with⟨ι,e⟩|⟨ι,e⟩
 ·obtain⟨_,hd,vs,_,dd⟩:=uP I.hok e;refine⟨dd.typeIs,λb q=>?_,hd⟩;cases q;refine Gi dd λob _ _ h1 h2 _=>?_;exact⟨ob,h1,h2.2.1⟩
 ·obtain⟨_,hd,xs,_,dd⟩:=Gy (zN I) I.hok e;refine⟨dd.typeIs,λb q=>?_,hd⟩;cases q;refine Gi dd λob _ _ h1 h2 _=>?_;exact⟨ob,h1,h2.2.1⟩
section
theorem adX (hu:A.units+16<mE)(I:Inv X π σ H s)(g:Hk X.K H a y o)(ry:RelV y u)(rd:RelV d r)(h:∀w' s',Inv X π σ H s'->RelV (o.getD d) w'->Q w' s'):
  b9 (eB X.prog X.w) A (call (.builtin "dict.get") [.ref a,u,r]) Q E s:=by
 rcases g with⟨ι,k,e,ey,l⟩|⟨ι,k,b,e,ey,eb,l⟩
 ·subst ey;obtain⟨z,hd,vs,rel,dd⟩:=uP I.hok e;refine call_meetsIn qk dd.typeIs xA (wq _ _ _) (meets_dict_get_default (ji X.prog X.w) a (FP ry) hd r) ⟨_,dd.mapOf,h _ _ (I.tok _) ?_⟩;rw[l];exact(rel.val k).getD rd
 ·subst ey;cases(show u=c9 b from ry);obtain⟨z,hd,xs,rel,dd⟩:=Gy (zN I) I.hok e;refine call_meetsIn qk dd.typeIs xA (wq _ _ _) (meetsH_dict_get_default (jd X.prog X.w) a b hd r) ⟨pR hu,k,xs,vM I eb,dd,h _ _ (I.tok _) ?_⟩;rw[l];exact(rel.val k).getD rd
end
def adR (K:bq)(td ty tx:TE):TE:=λσ H Q=>td σ H λx H1=>∃a,x=.ref a/\IsD K H1 a/\ty σ H1 λy H2=>tx σ H2 λz H3=>∃o,Hk K H3 a y o/\Q (o.getD z) H3
section
theorem XN (hu:X.A.units+16<mE)(ho:PE X o td)(he:PE X e ty)(hf:PE X f tx)(m:M2 X o "get" apos e f η):PE X (.Call (.Attribute o "get" apos) [e,f] [] η) (adR X.K td ty tx):=by
 intro π s σ H Q I h;refine wpAny_Call_method m.base m.few m.line lx qk PySem.F.type_dict_get<|thn (ho π s σ H _ I h) λu s1 hE=>?_;obtain⟨x,H1,I1,rx,a,ex,d,q1⟩:=hE;subst ex;obtain rfl:u=c9 a:=rx;obtain⟨t1,t2,_⟩:=Xh I1 d;refine⟨t1,t2,?_⟩;rw[m.trees];refine l0 rfl (rg (kx (thn (he π s1 σ H1 _ I1 q1) λiv s2 hE=>xq2 hE λy H2 I2 ry q2=>
  kx (thn (hf π s2 σ H2 _ I2 q2) λfv s3 hE=>pE ?_))))
 obtain⟨z,H3,I3,rz,ov,g,q3⟩:=hE;exact adX hu I3 g ry rz λw' s4 I4 rw'=>⟨_,H3,I4,rw',q3⟩
end
section
end
section
end
section
end
section
variable {κ:Type}[DecidableEq κ]
end
end L2
namespace Hd
open PySem PySem.Spec PyProof.Rows L2
theorem aV (h:H p=none)(o:HO):aC H (upd H p o):=λb u q=>by
 rw[bz<|m9 q h];exact q
section
theorem aX (h:PE X e T)(k:∀σ H Q,T' σ H Q->T σ H Q):PE X e T':=λπ s σ H Q I q=>h π s σ H Q I<|k σ H Q q
def clA (t:TA):TA:=λσ H Q=>∃R,t σ H R/\∀xs H1,R xs H1->Q xs H1
theorem acs (h:PA X es t):PA X es (clA t):=λpos π s σ H Q I ⟨R,hR,k⟩=>thn (h pos π s σ H R I hR) λ_ _ hE=>xq2 hE λvs H1 I1 r q=>⟨vs,H1,I1,r,k _ _ q⟩
def afd (t:TA):TE:=λσ H Q=>t σ H λxs H1=>xs.length<=av/\∀p H',aC H1 H'->H' p=some (.tup xs)->Q (.ref p) H'
theorem T3 (h:PA X es t):PE X (.Tuple es x1 pos) (afd t):=
 aX (ae0<|acs h) λ_ _ _ q=>⟨_,q,λ_ _ ⟨z,k⟩=>⟨z,λp hp=>k p _ (aV hp _) aM⟩⟩
end
abbrev cI (X:Cx)(N':List Str)(scope:zd)(cl:List (Str×Addr))(C:Addr)(sE:bE)(HE:Hp)(fp:List Addr)(π:Zl):Cx:=
 { X with N:=N',s₀:=sE,H₀:=HE,env:=compEnvC scope cl C X.env,outer:=X.stack,ex:=fp,fn:=λ_=>false,pn:=X.pn++π,xe:=λ_ _=>False }
structure CSc (sc scope:zd)(caps:List Str):Prop where
 kind:scope.kind=.function
 nocell:∀y∈scope.names,y.2≠.cell
 loc:∀y∈scope.names,y.2=.local->scope.names.lookup y.1=some .local
 free:∀y∈scope.names,y.2=.free->sc.names.lookup y.1=some .cell\/sc.names.lookup y.1=some .free
 caps:∀x∈caps,scope.names.lookup x=some .free/\(sc.names.lookup x=some .cell\/sc.names.lookup x=some .free)
theorem mem_of_lookup:∀{l:List (Str×β)} {x:Str} {k:β},l.lookup x=some k->(x,k)∈l
 |[],_,_,h=>by simp at h
 |(n,k')::r,x,k,h=>by
  rw[eJ] at h;split at h
  ·rename_i e;have e':x=n:=by simpa using e
   cases h;rw[e'];exact af
  ·exact ae _<|mem_of_lookup h
theorem yZ {env:Env}:∀{names:List (Str×v3)} {x:Str},names.lookup x=some .free->
  (names.map λ(n,k)=>if(k==gN&&env.scope.kind==.function&&env.kindOf n==some .cell) then(n,ly) else(n,k)).lookup x=some .cell ∨
  (names.map λ(n,k)=>if(k==gN&&env.scope.kind==.function&&env.kindOf n==some .cell) then(n,ly) else(n,k)).lookup x=some .free
 |[],_,h=>by simp at h
 |(n,k)::r,x,h=>by
  have ih:=@yZ env r x;show Ap x ((if(k==gN&&env.scope.kind==.function&&env.kindOf n==some .cell)=true then(n,ly) else(n,k))::_)=_\/Ap x ((if(k==gN&&env.scope.kind==.function&&env.kindOf n==some .cell)=true then(n,ly) else(n,k))::_)=_;cases hx:x==n with
  |true=>
   simp only[eJ,hx] at h;cases h;by_cases hc:(gN==gN&&env.scope.kind==.function&&env.kindOf n==some .cell)=true
   ·rw[if_pos hc];simp only[eJ,hx];exact .inl trivial
   ·rw[if_neg hc];simp only[eJ,hx];exact .inr trivial
  |false=>
   simp only[eJ,hx] at h;by_cases hc:(k==gN&&env.scope.kind==.function&&env.kindOf n==some .cell)=true
   ·rw[if_pos hc];simp only[eJ,hx];exact ih h
   ·rw[if_neg hc];simp only[eJ,hx];exact ih h
theorem DR {env:Env}:∀{names:List (Str×v3)} {x:Str},(∀y∈names,y.2≠.cell)->
  ((names.map λ(n,k)=>if(k==gN&&env.scope.kind==.function&&env.kindOf n==some .cell) then(n,ly) else(n,k)).lookup x=some .cell ∨
  (names.map λ(n,k)=>if(k==gN&&env.scope.kind==.function&&env.kindOf n==some .cell) then(n,ly) else(n,k)).lookup x=some .free)->names.lookup x=some .free
 |[],_,_,h=>by simp at h
 |(n,k)::r,x,hn,h=>by
  have ih:=@DR env r x λy hy=>hn y<|ae _ hy;have h':Ap x ((if(k==gN&&env.scope.kind==.function&&env.kindOf n==some .cell)=true then(n,ly) else(n,k))::_)=some .cell\/Ap x ((if(k==gN&&env.scope.kind==.function&&env.kindOf n==some .cell)=true then(n,ly) else(n,k))::_)=some .free:=h;have hk:k≠.cell:=hn (n,k) af;by_cases hc:(k==gN&&env.scope.kind==.function&&env.kindOf n==some .cell)=true
  ·rw[if_pos hc] at h';have kf:k=.free:=by
    simp only[qB,beq_iff_eq] at hc;exact hc.1.1
   subst kf;cases hx:x==n with
   |true=>simp only[eJ,hx]
   |false=>
    simp only[eJ,hx] at h' ⊢;exact ih h'
  ·rw[if_neg hc] at h';cases hx:x==n with
   |true=>
    simp only[eJ,hx] at h' ⊢;rcases h' with z|z
    ·exact absurd (dE z) hk
    ·exact z
   |false=>
    simp only[eJ,hx] at h' ⊢;exact ih h'
theorem ye:∀(names:List (Str×v3)) (acc:List (Str×Addr)),(∀y∈names,y.2=.free->∃c,env.cells.lookup y.1=some c)->
  ∃cl,(forIn names acc λ(y:Str×v3) (cs:List (Str×Addr))=>(if y.2==.free then do let c←cellOf env y.1;pure (sv ((y.1,c)::cs)) else pure (sv cs):Sem (ForInStep<|List<|Str×Addr)))=pure cl/\
   (∀x c,cl.lookup x=some c->acc.lookup x=some c\/env.cells.lookup x=some c)/\(∀x c,acc.lookup x=some c->∃c',cl.lookup x=some c')/\∀y∈names,y.2=.free->∃c,cl.lookup y.1=some c
 |[],acc,_=>⟨acc,rfl,λ_ _ e=>.inl e,λ_ c e=>⟨c,e⟩,λ_ z=>nomatch z⟩
 |(n,k)::r,acc,h=>by
  have hr:∀y∈r,y.2=.free->∃c,env.cells.lookup y.1=some c:=λy hy=>h y<|ae _ hy;by_cases hk:(k==gN)=true
  ·obtain⟨c,hc⟩:=h (n,k) af (by simpa using hk);refine iy (ye r ((n,c)::acc) hr) λcl e h1 h2 h3=>?_;refine⟨cl,?_,λx d q=>?_,λx d q=>?_,λy hy q=>?_⟩
   ·have ec:cellOf env n=pure c:=by unfold cellOf;rw[show env.cells.lookup n=some c from hc]
    rw[oI];simp only[hk,if_true,ec,pure_bind];exact e
   ·rcases h1 x d q with z|z
    ·rw[eJ] at z;split at z
     ·rename_i e1;have e1':x=n:=by simpa using e1
      cases z;rw[e1'];exact .inr hc
     ·exact .inl z
    ·exact .inr z
   ·by_cases e1:(x==n)=true
    ·exact h2 x c<|by rw[eJ,e1]
    ·exact h2 x d (by rw[eJ];simp only[Bool.not_eq_true] at e1;rw[e1];exact q)
   ·rcases aE.mp hy with z|z
    ·subst z;exact h2 n c (by rw[eJ];simp)
    ·exact h3 y z q
  ·refine iy (ye r acc hr) λcl e h1 h2 h3=>?_;refine⟨cl,?_,h1,h2,λy hy q=>?_⟩
   ·rw[oI];simp only[hk,if_false,pure_bind,kr];exact e
   ·rcases aE.mp hy with z|z
    ·subst z;exact absurd (show(k==gN)=true by simpa using q) hk
    ·exact h3 y z q
theorem Bo (h:∀y∈scope.names,y.2=.free->∃c,env.cells.lookup y.1=some c):
  ∃cl,closureFor scope env=pure cl/\(∀x c,cl.lookup x=some c->env.cells.lookup x=some c)/\∀y∈scope.names,y.2=.free->∃c,cl.lookup y.1=some c:=by
 refine iy (ye scope.names [] h) λcl e h1 _ h3=>?_;refine⟨cl,?_,λx c q=>(h1 x c q).elim (λz=>by simp at z) id,h3⟩;unfold closureFor;simp only[bind_pure];refine Eq.trans ?_ e;rfl
section
variable {X:Cx}{π:Zl}{σ:St}{HE:Hp}{sE:bE}{N':List Str}{scope sc:zd}{cl:List (Str×Addr)}{fp:List Addr}{caps:List Str}
theorem Z6 (I:Inv X π σ HE sE)(S:CSc sc scope caps)(hfp:∀b∈fp,vU X π HE b/\b<sE.heap.objs.size)
  (hc1:∀x c,cl.lookup x=some c->X.env.cells.lookup x=some c) (hc2:∀y∈scope.names,y.2=.free->∃c,cl.lookup y.1=some c):
  (cI X N' scope cl sE.heap.objs.size sE HE fp π).Ok where
 mod:=I.ok.mod
 kind:=S.kind
 glob:=I.ok.glob
 blt:=I.ok.blt
 above:=aI _
 inj:=λx y c h1 h2=>I.ok.inj x y c (hc1 x c h1)<|hc1 y c h2
 has:=λx h=>hc2 (x,.free) (mem_of_lookup<|DR S.nocell h) rfl
 cab:=λx c h=>nomatch h
 hd:=I.ok.hd
 frames:=I.ok.frames
 stk:=.inl rfl
 exf:=λb hb=>⟨c6 (hfp b hb).2,λx c h=>(hfp b hb).1.2.2.2.2.1 x c<|hc1 x c h⟩
 bs:=I.bs
 bsz:=gz I.ok.bsz I.sz
 noex:=λb o e hb=>by
  rcases(hfp b hb).1.2.2.2.1 with z|z
  ·exact I.ok.noex b o e z
  ·exact absurd (cx (aT e)<|gz I.ok.bsz z)<|hV _
 exfs:=λb hb hz=>by
  rcases aE.mp (I.J4 b hz) with z|z
  ·exact(hfp b hb).1.2.1 z
  ·exact(hfp b hb).1.2.2.1 z
 G7:=I.stack
 frf:=I.Ua
theorem WT {cap:List Nat}{h':Heap}(I:Inv X π σ HE sE)(S:CSc sc scope caps)(hsc:X.env.scope=sc)(hfp:∀b∈fp,vU X π HE b/\b<sE.heap.objs.size)
  (hc1:∀x c,cl.lookup x=some c->X.env.cells.lookup x=some c) (hc2:∀y∈scope.names,y.2=.free->∃c,cl.lookup y.1=some c)
  (hN:N'.drop k=caps) (hk:k<=N'.length) (hcap:ko (λj x=>X.N[j]? = some x) cap caps) {m:Zp}
  (kp:∀b o,sE.heap.get? b=some o->h'.get? b=some o) (hns:h'.Ns sE.heap.objs.size m) (tk:Nat):
  Inv (cI X N' scope cl sE.heap.objs.size sE HE fp π) [] (dA k none++cap.map λj=>(σ[j]?).join) HE { sE with heap:=h',toks:=tk } where
 ok:=Z6 I S hfp hc1 hc2
 os:=rfl
 bare:=I.bare
 base:=Un.kept kp
 loc:=by
  refine⟨m,hns,λi x v e1 e2 e3=>?_⟩;have hik:k<=i:=by
   by_cases z:k<=i
   ·exact z
   ·rw[c8 (by simp;lia),gL] at e2;rw[if_pos<|by lia] at e2;cases e2
  obtain⟨j',rfl⟩:∃j',i=k+j':=⟨i-k,by lia⟩;rw[dn (by simp),gE,Nat.add_sub_cancel_left,bt] at e2;have hx:caps[j']? = some x:=by rw[← hN,tf];exact e1
  have:∀{l:List Nat} {l':List Str} {i:Nat},ko (λj x=>X.N[j]? = some x) l l'->l'[i]? = some x->∃j,l[i]? = some j/\X.N[j]? = some x:=by
   intro l l' i p;induction p generalizing i with
   |nil=>intro z;simp at z
   |cons a _ ih=>
    intro z;cases i with
    |zero=>simp at z;subst z;exact⟨_,rfl,a⟩
    |succ i=>exact ih (by simpa using z)
  obtain⟨j,hj,hNj⟩:=this hcap hx;rw[hj] at e2;have e2':σ[j]? = some (some v):=by
   cases q:σ[j]? with
   |none=>rw[iP,q] at e2;cases e2
   |some o=>
    rw[iP,q] at e2
    have:o=some v:=dE e2
    rw[this]
  obtain⟨hxf,hxo⟩:=S.caps x<|js hx;rw[← hsc] at hxo;obtain⟨m0,_,hl⟩:=I.loc;obtain⟨u,r,L⟩:=hl j x v hNj e2'<|hxo.elim (λz=>.inr<|.inl z) λz=>.inr<|.inr z;refine⟨u,r,.inr ⟨yZ hxf,?_⟩⟩;rcases L with⟨z,_⟩|⟨_,c,hc,hcell⟩
  ·have z':X.env.scope.names.lookup x=some .local:=z;rcases hxo with q|q<;>rw[z'] at q<;>cases q
  ·obtain⟨c',hc'⟩:=hc2 (x,.free) (mem_of_lookup hxf) rfl;have e:=hc1 x c' hc';rw[hc] at e;cases e;obtain⟨o,ho,hd⟩:=hcell;exact⟨c,hc',o,kp c o ho,hd⟩
 cell:=λx c e=>by
  obtain⟨v,o,ho,hd⟩:=I.cell x c<|hc1 x c e;exact⟨v,o,kp c o ho,hd⟩
 free:=I.hok.fresh<|aI _
 freeC:=λx c e=>I.freeC x c<|hc1 x c e
 pin:=λp hp=>by
  rw[eT] at hp;refine Ci (I.pin p hp) λe n ne nf d=>?_;refine⟨kp _ _ e,n,c6<|aT e,λz=>?_,d⟩;rcases aE.mp (I.J4 p.1 z) with q|q
  ·exact ne q
  ·exact nf q
 hok:=I.hok.kept kp
 len:=by
  show(dA k none++cap.map λj=>(σ[j]?).join).length=N'.length
  have:=hcap.length
  rw[← hN,nI] at this
  simp
  lia
theorem comp_back (I:Inv X π σ HE sE)(hfp:∀b∈fp,vU X π HE b/\b<sE.heap.objs.size)
  (I':Inv (cI X N' scope cl sE.heap.objs.size sE HE fp π) p' σ' H' s'):Inv X π σ H' s':=
 I.call' (ch:=fp) I'.os I'.base I'.hok I'.bare λb hb=>⟨(hfp b hb).1.2.2.2.1,(hfp b hb).1.2.1,(hfp b hb).1.2.2.2.2.1,(hfp b hb).1.2.2.2.2.2⟩
end
theorem Ls (I:Inv X π σ HE sE)(I':Inv X π σ' H' s')(hn:H' sE.heap.objs.size=none)
  (hs:hJ sE.heap.objs.size s'.heap h'):Inv X π σ' H' { s' with heap:=h' }:=by
 refine I'.turned (t':=s'.toks) (λb o hb e=>(hs.2 b hb).trans e) hn (ku I.lt) (.inr I.sz) (λx c e z=>?_) λp hp z=>?_
 ·obtain⟨v,q⟩:=I.cell x c e;exact absurd q.lt (by rw[z];exact hV _)
 ·exact absurd (aT (I.pin p hp).1) (by rw[z];exact hV _)
def Vf (X:Cx)(ifs:List Expr)(t:TT):Prop:=
 ∀(π:Zl) (s:bE) (σ:St) (H:Hp) (Q:Bool->Hp->Prop),Inv X π σ H s->t σ H Q->
  b9 (eB X.prog X.w) X.A (forIn ifs true λc r=>if r=true then do let ok←isTrue c X.env (eval c X.env);pure (sv ok) else pure (sv r)) (TP X π σ Q) X.xe s
def ahh:TT:=λ_ H Q=>Q true H
theorem ab7:Vf X [] ahh:=λ_ _ _ H _ I q=>wpAny_tests_nil ⟨H,I,q⟩
theorem aau (h:PT X c t):Vf X [c] t:=λπ s σ H Q I q=>wpAny_tests_one<|h π s σ H Q I q
noncomputable def cSt (k:Nat)(cap:List Nat)(σ:St):St:=dA k none++cap.map λj=>(σ[j]?).join
def agE (J:It)(k:Nat)(cap:List Nat)(g:TG)(tt:TT)(te:TE)(σ:St)(H1:Hp)(l:Addr)(Q:VK):Prop:=
 ∃W:Nat->Nat->List V->Hp->Prop,(∃m,W 0 m []<|upd H1 l<|.lst [])/\∀i m ys H,W i m ys H->
  (J.stop i H/\Q (.ref l) H)\/(J.go i H/\∀x H',J.yld i H x H'->g x (cSt k cap σ) H' λσ2 H3=>σ2.drop k=(cSt k cap σ).drop k/\tt σ2 H3 λb H4=>
   if b=true then te σ2 H4 λy H5=>H5 l=some (.lst ys)/\ys.length<av/\∃m',m'<m/\W (i+1) m' (ys++[y]) (upd H5 l<|.lst<|ys++[y])
   else ∃m',m'<m/\W (i+1) m' ys H4)
def TJ (k:Nat)(cap:List Nat)(wi:TI)(g:TG)(tt:TT)(te:TE):TE:=λσ H Q=>wi σ H λJ H1=>∀l,H1 l=none->agE J k cap g tt te σ H1 l Q
section
theorem Ni (hcalm:X.calm=true)(S:CSc sc scope caps)(hsc:X.env.scope=sc)(hN:N'.drop k=caps)(hk:k<=N'.length)(hcap:ko (λj x=>X.N[j]? = some x) cap caps)
  (hi:PI X tg iter wi) (hg:∀cl C sE HE fp π,PG (cI X N' scope cl C sE HE fp π) tg g) (ht:∀cl C sE HE fp π,Vf (cI X N' scope cl C sE HE fp π) ifs tt) (he:∀cl C sE HE fp π,PE (cI X N' scope cl C sE HE fp π) elt te)
  (I:Inv X π σ H s) (h:TJ k cap wi g tt te σ H Q) {cl:List (Str×Addr)} (hc1:∀x c,cl.lookup x=some c->X.env.cells.lookup x=some c) (hc2:∀y∈scope.names,y.2=.free->∃c,cl.lookup y.1=some c)
  {RR:a9->Addr->Result->bE->Prop}
  (hRR:∀l sE HE H' s' m,Inv X π σ HE sE->Inv X π σ H' s'->H' sE.heap.objs.size=none->s'.heap.Ns sE.heap.objs.size m->Q (.ref l) H'->RR (.ref l) sE.heap.objs.size (.ok .next) s'):
  b9 (eB X.prog X.w) X.A (eval iter X.env) (λxv s₁=>b9 (eB X.prog X.w) X.A (BQ xv) (λit s₂=>b9 (eB X.prog X.w) X.A (newList []) (λacc s₃=>
   b9 (eB X.prog X.w) X.A (newFunctionEnv scope X.env.globals cl [] X.env.qual none .none<|some X.env) (λcenv s₄=>
    A1 (eB X.prog X.w) X.A (.compStart (.ListComp elt [⟨tg,iter,ifs,0⟩] scope pos) 0 it acc { cenv with scope:=relabel scope X.env }) (RR acc cenv.locals) s₄) X.xe s₃) X.xe s₂) X.xe s₁) X.xe s:=by
 refine thn (hi π s σ H _ I h) λv s1 h1=>thn h1 λitv s2 h2=>?_;obtain⟨it,fp,tn,J,H1,e,I1,T,st1,f1,q1⟩:=h2;subst e;refine wpAny_newList ?_;have hfree:H1 s2.heap.objs.size=none:=I1.hok.fresh<|aI _;have fpl:∀b∈fp,b<s2.heap.objs.size:=λb hb=>by
  obtain⟨o,e,_⟩:=T.obj _ _ st1 b hb;exact aT e
 generalize hE:({ s2 with heap:=s2.heap.push { cls:=.type "list",data:=.seq ([]:List a9).toArray } }:bE)=sE;have k2:∀b o,s2.heap.get? b=some o->sE.heap.get? b=some o:=λb o e=>by rw[← hE];exact ag _ e
 have szE:s2.heap.objs.size<sE.heap.objs.size:=by rw[← hE];show _<(s2.heap.push _).objs.size;rw[iL];exact Nat.lt_succ_self _
 have IE:Inv X π σ (upd H1 s2.heap.objs.size<|.lst []) sE:=by
  rw[← hE];refine I1.laid (t':=s2.toks) (λb o e=>ag _ e) (aI _) ?_;exact⟨f6 _,[],0,.nil,ay _ rfl⟩
 have fE:∀b∈fp,vU X π (upd H1 s2.heap.objs.size<|.lst []) b/\b<sE.heap.objs.size:=λb hb=>
  ⟨⟨by rw[bz<|c6<|fpl b hb];exact(f1 b hb).1,(f1 b hb).2⟩,Nat.lt_trans (fpl b hb) szE⟩
 obtain⟨W,⟨m0,w0⟩,turn⟩:=q1 _ hfree;generalize hl:s2.heap.objs.size=l at *;clear hl;generalize hHE:upd H1 l (.lst [])=HE at *;refine wpAny_newFunctionEnv S.nocell (by intro y hy;simp at hy) (λh₁ hns₁ hsb₁=>?_) S.kind;have kE:∀b o,sE.heap.get? b=some o->h₁.get? b=some o:=λb o e=>(hsb₁.2 b<|c6<|aT e).trans<|ag _ e;have I0:=WT (k:=k) (cap:=cap) (N':=N') IE S hsc fE hc1 hc2 hN hk hcap kE hns₁<|sE.toks+([]:List (Str×a9)).length;have st0:tn 0 h₁:=T.keep _ _ _ st1 λb hb o e=>kE b o<|k2 b o e;have hX:∀{H':Hp},(∀b∈fp,H' b=none)->∀b∈fp,vU (cI X N' scope cl sE.heap.objs.size sE HE fp π) [] H' b:=λhn b hb=>
  ⟨hn b hb,(I0.ok.exf b hb).1,I0.ok.exfs b hb,.inl hb,(I0.ok.exf b hb).2,λp hp=>by
   rw[eT] at hp;exact(fE b hb).1.2.2.2.2.2 p hp⟩
 have loop:∀s₃:bE,s₃={ sE with heap:=h₁,toks:=sE.toks+([]:List (Str×a9)).length }->
   A1 (eB X.prog X.w) X.A (.compLoop (.ListComp elt [⟨tg,iter,ifs,0⟩] scope pos) 0 (.ref it) (.ref l)<|compEnvC scope cl sE.heap.objs.size X.env) (RR (.ref l) sE.heap.objs.size) s₃:=by
  rintro s₃ rfl;refine codeAny_loop rfl (λn s'=>∃i ys H',Inv (cI X N' scope cl sE.heap.objs.size sE HE fp π) [] (cSt k cap σ) H' s'/\tn i s'.heap/\(∀b∈fp,H' b=none)/\W i n ys H') (λn s3 hI=>?_) m0
   ⟨0,[],HE,I0,st0,λb hb=>(fE b hb).1.1,w0⟩
  refine sW hI λi ys H3 I3 st3 fr3 w3=>?_;show b9 _ X.A ((compTurn (.ListComp elt [⟨tg,iter,ifs,0⟩] scope pos) 0 (.ref it) (.ref l)<|compEnvC scope cl sE.heap.objs.size X.env).onRaise (λx=>do noteFrame x (compEnvC scope cl sE.heap.objs.size X.env);theTreesLotGoes x)) _ _ s3;refine wpAny_noted ?_;rw[compTurn_list];refine ab<|rL<|ab ?_;rcases turn i n ys H3 w3 with⟨stop,qn⟩|⟨go,step⟩
  ·refine ki (T.done (cI X N' scope cl sE.heap.objs.size sE HE fp π) rfl rfl rfl hcalm i [] s3 _ H3 (λ_ _=>False) I3 (hX fr3) st3 stop) (λr s4 ⟨hr,I4⟩=>?_) λ_ _ z=>z.elim;subst hr;obtain⟨m4,hn4,_⟩:=I4.loc;exact ai<|hRR l sE HE H3 s4 m4 IE (comp_back IE fE I4) I4.free hn4 qn
  ·refine ki (T.item (cI X N' scope cl sE.heap.objs.size sE HE fp π) rfl rfl rfl hcalm i [] s3 _ H3 (λ_ _=>False) I3 (hX fr3) st3 go) (λr s4 ⟨u,hr,h4⟩=>?_) λ_ _ z=>z.elim;subst hr;refine ab<|ki h4 (λ_ s5 ⟨x,H5,I5,r5,y5,st5,fr5⟩=>?_) λ_ _ z=>z.elim;have I5':=I5.pinned (hX fr5)<|T.obj _ _ st5;refine ab<|ki (hg _ _ _ _ _ _ _ s5 _ H5 x u _ I5' r5<|step x H5 y5) (λ_ s6 ⟨σ6,H6,I6,q6⟩=>?_) λ_ _ z=>z.elim;obtain⟨d6,q6⟩:=q6;have weak:∀{H7 s7},Inv (cI X N' scope cl sE.heap.objs.size sE HE fp π) ([]++xQ fp s5.heap) σ6 H7 s7->Inv (cI X N' scope cl sE.heap.objs.size sE HE fp π) ([]++xQ fp s5.heap) (cSt k cap σ) H7 s7:=λ{H7 s7} I7=>by
    refine I7.weak (I0.len.trans I7.len.symm) λj v e=>?_;by_cases z:k<=j
    ·obtain⟨j',rfl⟩:∃j',j=k+j':=⟨j-k,by lia⟩;rw[← tf] at e ⊢;rw[d6];exact e
    ·unfold cSt at e;rw[c8 (by simp;lia),gL,if_pos<|by lia] at e;cases e
   have again:∀{H7:Hp} {s7:bE} {zs:List V},Inv (cI X N' scope cl sE.heap.objs.size sE HE fp π) ([]++xQ fp s5.heap) σ6 H7 s7->(∃m',m'<n/\W (i+1) m' zs H7)->
     ∃m,m<n/\∃i ys H',Inv (cI X N' scope cl sE.heap.objs.size sE HE fp π) [] (cSt k cap σ) H' s7/\tn i s7.heap/\(∀b∈fp,H' b=none)/\W i m ys H':=λ{H7 s7 zs} I7 ⟨m',hm,w7⟩=>by
    refine⟨m',hm,i+1,zs,H7,(weak I7).yU,T.keep _ _ _ st5 λb hb o e=>(I7.pin (b,o)<|cf _<|cf _<|uH hb e).1,λb hb=>?_,w7⟩;obtain⟨o,e,d⟩:=T.obj _ _ st5 b hb;exact(I7.pin (b,o)<|cf _<|cf _<|uH hb e).2.1
   refine ab<|ki (ht _ _ _ _ _ _ _ s6 σ6 H6 _ I6 q6) (λb s7 ⟨H7,I7,q7⟩=>?_) λ_ _ z=>z.elim;cases b with
   |false=>
    rw[if_neg be] at q7;exact ai ⟨rfl,again I7 q7⟩
   |true=>
    rw[if_pos rfl] at q7;refine ab<|ab<|ki (he _ _ _ _ _ _ _ s7 σ6 H7 _ I7 q7) (λyv s8 ⟨y,H8,I8,r8,hl8,hz8,q8⟩=>?_) λ_ _ z=>z.elim;refine ab (ki (Ao (X:=cI X N' scope cl sE.heap.objs.size sE HE fp π) _ s8 σ6 H8 (.ref l) [y] (.ref l) [yv] (λ_ H9=>H9=upd H8 l (.lst<|ys++[y])) I8 rfl (.cons r8 .nil) ⟨l,ys,y,rfl,rfl,hl8,hz8,rfl⟩)
     (λ_ s9 ⟨_,H9,I9,_,e9⟩=>?_) λ_ _ z=>z.elim)
    subst e9;exact ai<|ai ⟨rfl,again I9 q8⟩
 exact codeAny_compStart_list (loop _ rfl)<|T.self _ 0 _ _ _ st0<|loop _ rfl
theorem aa4 (sc:zd)(N' caps:List Str)(k:Nat)(cap:List Nat)(hcalm:X.calm=true)(S:CSc sc scope caps)(hcap:ko (λj x=>X.N[j]? = some x) cap caps)
  (hi:PI X tg iter wi) (hg:∀cl C sE HE fp π,PG (cI X N' scope cl C sE HE fp π) tg g) (ht:∀cl C sE HE fp π,Vf (cI X N' scope cl C sE HE fp π) ifs tt) (he:∀cl C sE HE fp π,PE (cI X N' scope cl C sE HE fp π) elt te)
  (hsc:X.env.scope=sc:=by rfl) (hN:N'.drop k=caps:=by rfl) (hk:k<=N'.length:=by decide) (hs:∀x,iq iter X.env x=pure x:=by intro _;rfl):
  PE X (.ListComp elt [⟨tg,iter,ifs,0⟩] scope pos) (TJ k cap wi g tt te):=by
 intro π s σ H Q I h;obtain⟨cl,hcl,hc1,hc2⟩:=Bo (scope:=scope) (env:=X.env) λy hy e=>I.ok.has y.1 (by
  have z:=S.free y hy e;rw[← hsc] at z;exact z)
 rw[eval_ListComp];refine va (use:=none) rfl hs hcl S.kind S.loc<|Ni (RR:=λacc C=>compPost (eB X.prog X.w) X.A X.xe none (EP X π σ Q) acc C) hcalm S hsc hN hk hcap hi hg ht he I h hc1 hc2 ?_;intro l sE HE H' s' m IE I' hn hns q;exact⟨m,hns,λh' hs'=>⟨.ref l,H',Ls IE I' hn hs',rfl,q⟩⟩
theorem Em (sc:zd)(N' caps:List Str)(k:Nat)(cap:List Nat)(hnd:X.N.Nodup)(hi':X.N[i]? = some y)(hy:Loc X.env.scope y)(hcalm:X.calm=true)(S:CSc sc scope caps)(hcap:ko (λj x=>X.N[j]? = some x) cap caps)
  (hi:PI X tg iter wi) (hg:∀cl C sE HE fp π,PG (cI X N' scope cl C sE HE fp π) tg g) (ht:∀cl C sE HE fp π,Vf (cI X N' scope cl C sE HE fp π) ifs tt) (he:∀cl C sE HE fp π,PE (cI X N' scope cl C sE HE fp π) elt te)
  (μ:gX (.ListComp elt [⟨tg,iter,ifs,0⟩] scope pos) (some<|.Name y py) spos.line X.env=pure true:=by rfl)
  (hsc:X.env.scope=sc:=by rfl) (hN:N'.drop k=caps:=by rfl) (hk:k<=N'.length:=by decide) (hs:∀x,iq iter X.env x=pure x:=by intro _;rfl)
  (hf:X.fn y=true\/X.env.scope.names.lookup y=some .local:=by first|exact .inl rfl|exact .inr rfl|assumption):
  PS X (.Assign [.Name y py] (.ListComp elt [⟨tg,iter,ifs,0⟩] scope pos) spos) (Wf (TJ k cap wi g tt te)<|Ep i):=by
 intro π s σ H D I h;obtain⟨cl,hcl,hc1,hc2⟩:=Bo (scope:=scope) (env:=X.env) λy hy e=>I.ok.has y.1 (by
  have z:=S.free y hy e;rw[← hsc] at z;exact z)
 rw[exec_Assign_Name_used _ _ _ _ μ];refine ab<|rL<|ab ?_;show b9 _ X.A (do let _←comprehension (.ListComp elt [⟨tg,iter,ifs,0⟩] scope pos) scope X.env _ (newList []) false (eval iter X.env) (some<|ua (.Name y py) X.env)) _ _ s;refine ab (ki (va (use:=some<|ua (.Name y py) X.env) (Q:=λ_ s'=>SP X π D .next s') rfl hs hcl S.kind S.loc
  (Ni (RR:=λacc C=>compPost (eB X.prog X.w) X.A X.xe (some<|ua (.Name y py) X.env) (λ_ s'=>SP X π D .next s') acc C) hcalm S hsc hN hk hcap hi hg ht he I h hc1 hc2 ?_)) (λ_ s' hq=>ai<|ai hq) λ_ _ e=>e)
 intro l sE HE H' s' m IE I' hn hns q;show b9 _ X.A (ua (.Name y py) X.env<|.ref l) _ _ _;refine wpAny_assign_Name<|HX I' hnd hi' hy (v:=.ref l) rfl (λs2 I2 hb=>?_) hf;obtain⟨a,hsb,ha⟩:=hb;have hne:sE.heap.objs.size≠a:=λz=>by
  rcases ha with e|e
  ·exact absurd IE.lt (by rw[← e,← z];exact hV _)
  ·obtain⟨v,q⟩:=IE.cell y a e;exact absurd q.lt (by rw[z];exact hV _)
 exact⟨m,hns.sameBut hsb hne,λh' hs'=>⟨_,H',Ls IE I2 hn hs',q⟩⟩
end
inductive TyK (K:bq)(H:Hp):V->a9->Prop where
 |of {v:V} {t:a9}:Ag K H v t->TyK K H v t
 |tup {a:Addr} {xs:List V}:SqT K H a xs->TyK K H (.ref a) (.type "tuple")
 |lst {a:Addr} {xs:List V}:SqL K H a xs->TyK K H (.ref a) (.type "list")
section
def afL (K:bq):List V->Hp->VK->Prop:=λxs H Q=>∃x c t cv b,xs=[x,c]/\af9 c=some cv/\TyK K H x t/\BB K t cv=some b/\Q (.bl b) H
theorem Vn:lC X (.builtin "isinstance") (afL X.K):=by
 intro π s σ H xs us Q I r h;obtain⟨x,c,t,cv,b,rfl,rc,ty,e,q⟩:=h;obtain⟨u,w',rfl,ru,rw'⟩:=vals2 r;have z:=YL rc rw';subst z;cases ty with
 |of ty=>exact Vz I ru ty e λtk=>⟨.bl b,H,I.tok _,rfl,q⟩
 | @tup a xs hs=>
  cases(show u=c9 a from ru);obtain⟨χ,_,⟨o,h1,h2,_⟩,_⟩:=I.tuple hs;exact lI W.kitx_tuple I.kIn ⟨o,h1,h2⟩ e (λz=>nomatch z) λtk=>⟨.bl b,H,I.tok _,rfl,q⟩
 | @lst a xs hs=>
  cases(show u=c9 a from ru);obtain⟨χ,_,⟨o,n,h1,h2,_⟩,_⟩:=I.list hs;exact lI W.kitx_list I.kIn ⟨o,h1,h2⟩ e (λz=>nomatch z) λtk=>⟨.bl b,H,I.tok _,rfl,q⟩
end
theorem Rd.mono (h:Rd H a u)(g:aC H H'):Rd H' a u:=h.elim (λe=>.inl<|g _ _ e) λ⟨o,e⟩=>.inr ⟨o,g _ _ e⟩
theorem Nu {K:bq}{H H':Hp}{a:Addr}{xs:List V}(h:SqL K H a xs)(g:aC H H'):SqL K H' a xs:=h.elim (λe=>.inl<|Rd.mono e g) .inr
def SameBut (l:Addr)(H H':Hp):Prop:=∀b u,b≠l->H b=some u->H' b=some u
theorem agg (g:aC H H'):SameBut l H H':=λb u _ e=>g b u e
theorem acW:SameBut l H (upd H l o):=λb u n e=>by rw[bz n];exact e
theorem SameBut.trans (a:SameBut l H H1)(b:SameBut l H1 H2):SameBut l H H2:=λc u n e=>b c u n<|a c u n e
theorem aaR (g:SameBut l H H')(n:H l=none):aC H H':=λb u e=>g b u (λz=>by rw[z,n] at e;cases e) e
section
end
section
end
section
def rJoin (K:bq):V->List V->Hp->VK->Prop:=λx vs H Q=>∃z l zs,x=.str z/\vs=[.ref l]/\SqL K H l (zs.map V.str)/\BU z zs=true/\Q (.str<|AR z zs) H
theorem LR:∀{zs:List Str} {us:List a9},Vals (zs.map V.str) us->∃l:List (Str×Tok),us=strValues l/\l.map (·.1)=zs
 |[],_,.nil=>⟨[],rfl,rfl⟩
 |z::zs,_,.cons r t=>by
  obtain⟨tk,rfl⟩:=r;obtain⟨l,rfl,e⟩:=LR t;exact⟨(z,tk)::l,rfl,by rw[ah,e]⟩
theorem aaY (K:bq)(hK:X.K=K:=by rfl):MtM X "str.join" (rJoin K):=by
 subst hK;intro π s σ H x vs v us Q I rx rv h;obtain⟨z,l,zs,rfl,rfl,hL,ok,q⟩:=h;obtain⟨t,rfl⟩:=rx;obtain⟨u,rfl,ru⟩:=rv.one;cases ru;obtain⟨χ,r,hp,_⟩:=I.list hL;obtain⟨ls,rfl,e⟩:=LR r;exact SC.join hp.isList e ok λt' k=>⟨.str _,H,I.tok _,⟨t',rfl⟩,q⟩
end
end Hd
namespace F
open PySem PySem.Spec PyProof.Rows L2 Hd
inductive D where
 |non|bl (b:Bool)|int (i:Int)|str (x:Str)|exc (c:Str)
 |tup (xs:List D)|lst (xs:List D)
 |dct (ks:List Key) (vs:List D)|dcu (ks:List (List Kt)) (vs:List D)
  |dcf (ks:List (List Kt)) (vs:List D)
  |adr (a:Addr)
  |ins (c:Str) (ns:List Str) (vs:List D)
inductive Res (α:Type) where
 |ok (a:α)|exc (c:Str)|stuck
def Res.bind {α β:Type}(r:Res α)(f:α->Res β):Res β:=match r with
 | .ok a=>f a
 | .exc c=>.exc c
 | .stuck=>.stuck
@[simp] theorem Res.wI (a:α)(f:α->Res β):(Res.ok a).bind f=f a:=rfl
@[simp] theorem Res.agx (c:Str)(f:α->Res β):(Res.exc c:Res α).bind f=.exc c:=rfl
@[simp] theorem Res.adq (f:α->Res β):(Res.stuck:Res α).bind f=.stuck:=rfl
def ofO {α:Type}:Option α->Res α
 |some a=>.ok a
 |none=>.stuck
@[simp] theorem tL (a:α):ofO (some a)=.ok a:=rfl
@[simp] theorem agO:ofO (none:Option α)=.stuck:=rfl
structure Gx where
 K:bq
 mg:Zp
abbrev gx (X:Cx):Gx:=⟨X.K,X.mg⟩
def ahs (K:bq)(a:Addr)(xs:List V):Prop:=
 ∃(o:Obj) (χ:Array a9) (n:Nat),K.lookup a=some o/\o.cls=.type "list"/\o.dict=none/\o.data=.seq χ n/\χ.size<=av/\Vals xs χ.toList
def LstAt (K:bq)(O:Zaa)(H:Hp)(a:Addr)(xs:List V):Prop:=(¬O a/\Rd H a (.lst xs))\/ahs K a xs
mutual
inductive DV (G:Gx)(O:Zaa)(H:Hp):V->D->Prop where
 |non:DV G O H .non .non
 |bl (b:Bool):DV G O H (.bl b) (.bl b)
 |int (i:Int):DV G O H (.int i) (.int i)
 |str (x:Str):DV G O H (.str x) (.str x)
 |adr (a:Addr):DV G O H (.ref a) (.adr a)
 |ins {a C dx:Addr} {c:Str} {ι:List (Str×V)} {ns:List Str} {vs:List V} {ds:List D}:¬O a->G.mg c=some (.ref C)->H a=some (.ins C dx ι)->ι.map (·.1)=ns->ι.map (·.2)=vs->DVs G O H vs ds->DV G O H (.ref a) (.ins c ns ds)
 |exc {a C:Addr} {c:Str}:G.mg c=some (.ref C)->H a=some (.ext (ae9 a (.ref C)))->DV G O H (.ref a) (.exc c)
 |tup {a:Addr} {xs:List V} {ds:List D}:SqU G.K H a xs->DVs G O H xs ds->DV G O H (.ref a) (.tup ds)
 |lst {a:Addr} {xs:List V} {ds:List D}:LstAt G.K O H a xs->DVs G O H xs ds->DV G O H (.ref a) (.lst ds)
 |dct {a:Addr} {ι:List (Key×V)} {ks:List Key} {vs:List V} {ds:List D}:¬O a->Rd H a (.dK ι)->ι.map (·.1)=ks->ι.map (·.2)=vs->DVs G O H vs ds->DV G O H (.ref a) (.dct ks ds)
 |dcu {a:Addr} {ι:List (List Kt×V)} {ks:List (List Kt)} {vs:List V} {ds:List D}:¬O a->H a=some (.dT (KTp G.K) ι)->ι.map (·.1)=ks->ι.map (·.2)=vs->DVs G O H vs ds->DV G O H (.ref a) (.dcu ks ds)
 |dcf {a:Addr} {o:Obj} {ι:List (List Kt×V)} {ks:List (List Kt)} {vs:List V} {ds:List D}:H a=some (.frz o (.dT (KTp G.K) ι))->ι.map (·.1)=ks->ι.map (·.2)=vs->DVs G O H vs ds->DV G O H (.ref a) (.dcf ks ds)
inductive DVs (G:Gx)(O:Zaa)(H:Hp):List V->List D->Prop where
 |nil:DVs G O H [] []
 |cons {v:V} {vs:List V} {d:D} {ds:List D}:DV G O H v d->DVs G O H vs ds->DVs G O H (v::vs) (d::ds)
end
def OV (G:Gx)(O:Zaa)(H:Hp)(a:Addr):D->Prop
 | .lst ds=>∃xs,H a=some (.lst xs)/\DVs G O H xs ds
 | .dct ks ds=>∃ι vs,H a=some (.dK ι)/\ι.map (·.1)=ks/\ι.map (·.2)=vs/\DVs G O H vs ds
 | .dcu ks ds=>∃ι vs,H a=some (.dT (KTp G.K) ι)/\ι.map (·.1)=ks/\ι.map (·.2)=vs/\DVs G O H vs ds
 | .ins c ns ds=>∃C dx ι vs,G.mg c=some (.ref C)/\H a=some (.ins C dx ι)/\ι.map (·.1)=ns/\ι.map (·.2)=vs/\DVs G O H vs ds
 |_=>False
def DW (G:Gx)(O:Zaa)(H:Hp)(v:V)(d:D):Prop:=DV G O H v d\/∃a,v=.ref a/\O a/\OV G O H a d
inductive DWs (G:Gx)(O:Zaa)(H:Hp):List V->List D->Prop where
 |nil:DWs G O H [] []
 |cons {v:V} {vs:List V} {d:D} {ds:List D}:DW G O H v d->DWs G O H vs ds->DWs G O H (v::vs) (d::ds)
def eN (o:Option HO):Prop:=(∃xs,o=some (.lst xs))\/(∃k,o=some (.dK k))\/(∃k:(Addr->List V->Prop)×List (List Kt×V),o=some (.dT k.1 k.2))\/∃k:Addr×Addr×List (Str×V),o=some (.ins k.1 k.2.1 k.2.2)
def Kp (O:Zaa)(H H':Hp):Prop:=∀b o,H b=some o->¬O b->H' b=some o
theorem aci (g:Kp O H H')(n:¬O a)(e:Rd H a u):Rd H' a u:=e.imp (λe=>g _ _ e n) λ⟨o,e⟩=>⟨o,g _ _ e n⟩
theorem afV (g:aC H H')(e:Rd H a u):Rd H' a u:=e.imp (g _ _) λ⟨o,e⟩=>⟨o,g _ _ e⟩
theorem acG (e:Rd H a u)(z:H a=none):False:=by rcases e with e|⟨_,e⟩<;>(rw[z] at e;cases e)
theorem Kp.of (g:aC H H'):Kp O H H':=λb o e _=>g b o e
theorem pQ {O:Zaa}{H:Hp}(m:∀b,O b->eN (H b)){a:Addr}{o:HO}(e:H a=some o)(n:¬eN (some o)):¬O a:=λz=>n<|e▸m a z
theorem J8:¬eN (some<|.tup xs):=by rintro(⟨_,e⟩|⟨_,e⟩|⟨_,e⟩|⟨_,e⟩)<;>cases e
theorem CG:¬eN (some<|.frz o u):=by rintro(⟨_,e⟩|⟨_,e⟩|⟨_,e⟩|⟨_,e⟩)<;>cases e
theorem QR:¬eN (some<|.ext φ):=by rintro(⟨_,e⟩|⟨_,e⟩|⟨_,e⟩|⟨_,e⟩)<;>cases e
theorem Qe {K:bq}{O:Zaa}{H H':Hp}{a:Addr}{xs:List V}(m:∀b,O b->eN (H b))(g:Kp O H H')(h:SqT K H a xs):SqT K H' a xs:=by
 rcases h with(e|⟨o,e⟩)|h
 ·exact .inl<|.inl<|g a _ e<|pQ m e J8
 ·exact .inl<|.inr ⟨o,g a _ e<|pQ m e CG⟩
 ·exact .inr h
theorem YJ {K:bq}{O:Zaa}{H H':Hp}{a:Addr}{xs:List V}(m:∀b,O b->eN (H b))(g:Kp O H H')(h:SqU K H a xs):SqU K H' a xs:=by
 rcases h with e|h
 ·exact .inl<|g a _ e<|pQ m e J8
 ·exact .inr h
theorem Xz {K:bq}{H H':Hp}{a:Addr}{xs:List V}(h:SqU K H a xs)(g:aC H H'):SqU K H' a xs:=h.imp (g _ _) id
theorem zf {K:bq}{O:Zaa}{H H':Hp}{a:Addr}{xs:List V}(g:Kp O H H')(h:LstAt K O H a xs):LstAt K O H' a xs:=by
 rcases h with⟨n,e|⟨o,e⟩⟩|h
 ·exact .inl ⟨n,.inl<|g a _ e n⟩
 ·exact .inl ⟨n,.inr ⟨o,g a _ e n⟩⟩
 ·exact .inr h
theorem LstAt.sq {K:bq}{O:Zaa}{H:Hp}{a:Addr}{xs:List V}(h:LstAt K O H a xs):SqL K H a xs:=h.elim (λz=>.inl z.2) .inr
section
variable {G:Gx}{O O':Zaa}{H H':Hp}
mutual
theorem DV.kp (m:∀b,O b->eN (H b))(g:Kp O H H'):∀{v:V} {d:D},DV G O H v d->DV G O H' v d
 |_,_,.non=>.non
 |_,_,.bl b=>.bl b
 |_,_,.int i=>.int i
 |_,_,.str x=>.str x
 |_,_,.adr a=>.adr a
 |_,_,.exc h e=>.exc h<|g _ _ e<|pQ m e QR
 |_,_,.tup h hs=>.tup (YJ m g h)<|DVs.kp m g hs
 |_,_,.lst h hs=>.lst (zf g h)<|DVs.kp m g hs
 |_,_,.dct n e a b hs=>.dct n (aci g n e) a b<|DVs.kp m g hs
 |_,_,.dcu n e a b hs=>.dcu n (g _ _ e n) a b<|DVs.kp m g hs
 |_,_,.dcf e a b hs=>.dcf (g _ _ e<|pQ m e CG) a b<|DVs.kp m g hs
 |_,_,.ins n c e a b hs=>.ins n c (g _ _ e n) a b<|DVs.kp m g hs
theorem DVs.kp (m:∀b,O b->eN (H b))(g:Kp O H H'):∀{vs:List V} {ds:List D},DVs G O H vs ds->DVs G O H' vs ds
 |_,_,.nil=>.nil
 |_,_,.cons h hs=>.cons (DV.kp m g h)<|DVs.kp m g hs
end
mutual
theorem DV.mono (g:aC H H'):∀{v:V} {d:D},DV G O H v d->DV G O H' v d
 |_,_,.non=>.non
 |_,_,.bl b=>.bl b
 |_,_,.int i=>.int i
 |_,_,.str x=>.str x
 |_,_,.adr a=>.adr a
 |_,_,.exc h e=>.exc h<|g _ _ e
 |_,_,.tup h hs=>.tup (Xz h g)<|DVs.mono g hs
 |_,_,.lst h hs=>.lst (zf (.of g) h)<|DVs.mono g hs
 |_,_,.dct n e a b hs=>.dct n (afV g e) a b<|DVs.mono g hs
 |_,_,.dcu n e a b hs=>.dcu n (g _ _ e) a b<|DVs.mono g hs
 |_,_,.dcf e a b hs=>.dcf (g _ _ e) a b<|DVs.mono g hs
 |_,_,.ins n c e a b hs=>.ins n c (g _ _ e) a b<|DVs.mono g hs
theorem DVs.mono (g:aC H H'):∀{vs:List V} {ds:List D},DVs G O H vs ds->DVs G O H' vs ds
 |_,_,.nil=>.nil
 |_,_,.cons h hs=>.cons (DV.mono g h)<|DVs.mono g hs
end
mutual
theorem DV.bI (s:∀b,O' b->O b\/H b=none):∀{v:V} {d:D},DV G O H v d->DV G O' H v d
 |_,_,.non=>.non
 |_,_,.bl b=>.bl b
 |_,_,.int i=>.int i
 |_,_,.str x=>.str x
 |_,_,.adr a=>.adr a
 |_,_,.exc h e=>.exc h e
 |_,_,.tup h hs=>.tup h<|DVs.bI s hs
 |_,_,.lst h hs=>.lst (h.elim (λz=>.inl ⟨λo=>(s _ o).elim z.1 λn=>by rcases z.2 with e|⟨_,e⟩<;>(rw[n] at e;cases e),z.2⟩) .inr) (DVs.bI s hs)
 |_,_,.dct n e a b hs=>.dct (λo=>(s _ o).elim n λz=>acG e z) e a b<|DVs.bI s hs
 |_,_,.dcu n e a b hs=>.dcu (λo=>(s _ o).elim n λz=>by rw[z] at e;cases e) e a b (DVs.bI s hs)
 |_,_,.dcf e a b hs=>.dcf e a b<|DVs.bI s hs
 |_,_,.ins n c e a b hs=>.ins (λo=>(s _ o).elim n λz=>by rw[z] at e;cases e) c e a b (DVs.bI s hs)
theorem DVs.bI (s:∀b,O' b->O b\/H b=none):∀{vs:List V} {ds:List D},DVs G O H vs ds->DVs G O' H vs ds
 |_,_,.nil=>.nil
 |_,_,.cons h hs=>.cons (DV.bI s h)<|DVs.bI s hs
end
def Ev (O:Zaa)(H:Hp)(O':Zaa)(H':Hp):Prop:=(∀b,O' b->O b\/H b=none)/\Kp O H H'
mutual
theorem DV.go (m:∀b,O b->eN (H b))(g:Ev O H O' H'):∀{v:V} {d:D},DV G O H v d->DV G O' H' v d
 |_,_,.non=>.non
 |_,_,.bl b=>.bl b
 |_,_,.int i=>.int i
 |_,_,.str x=>.str x
 |_,_,.adr a=>.adr a
 |_,_,.exc h e=>.exc h<|g.2 _ _ e<|pQ m e QR
 |_,_,.tup h hs=>.tup (YJ m g.2 h)<|DVs.go m g hs
 |_,_,.lst h hs=>.lst (h.elim (λz=>.inl ⟨λo=>(g.1 _ o).elim z.1 λn=>by rcases z.2 with e|⟨_,e⟩<;>(rw[n] at e;cases e),(zf g.2 (.inl z):LstAt G.K O H' _ _).elim (λy=>y.2) λy=>z.2.elim (λe=>.inl<|g.2 _ _ e z.1) λ⟨o,e⟩=>.inr ⟨o,g.2 _ _ e z.1⟩⟩) .inr) (DVs.go m g hs)
 |_,_,.dct n e a b hs=>.dct (λo=>(g.1 _ o).elim n λz=>acG e z) (aci g.2 n e) a b<|DVs.go m g hs
 |_,_,.dcu n e a b hs=>.dcu (λo=>(g.1 _ o).elim n λz=>by rw[z] at e;cases e) (g.2 _ _ e n) a b (DVs.go m g hs)
 |_,_,.dcf e a b hs=>.dcf (g.2 _ _ e<|pQ m e CG) a b<|DVs.go m g hs
 |_,_,.ins n c e a b hs=>.ins (λo=>(g.1 _ o).elim n λz=>by rw[z] at e;cases e) c (g.2 _ _ e n) a b (DVs.go m g hs)
theorem DVs.go (m:∀b,O b->eN (H b))(g:Ev O H O' H'):∀{vs:List V} {ds:List D},DVs G O H vs ds->DVs G O' H' vs ds
 |_,_,.nil=>.nil
 |_,_,.cons h hs=>.cons (DV.go m g h)<|DVs.go m g hs
end
theorem OV.bI (s:∀b,O' b->O b\/H b=none)(h:OV G O H a d):OV G O' H a d:=by
 cases d with
 |lst ds=>obtain⟨xs,e,hs⟩:=h;exact⟨xs,e,hs.bI s⟩
 |dct ks ds=>obtain⟨k,v,e,a1,a2,hs⟩:=h;exact⟨k,v,e,a1,a2,hs.bI s⟩
 |dcu ks ds=>obtain⟨k,v,e,a1,a2,hs⟩:=h;exact⟨k,v,e,a1,a2,hs.bI s⟩
 |ins c ns ds=>obtain⟨C,dx,k,v,ec,e,a1,a2,hs⟩:=h;exact⟨C,dx,k,v,ec,e,a1,a2,hs.bI s⟩
 |_=>exact h.elim
theorem OV.mono (g:aC H H')(h:OV G O H a d):OV G O H' a d:=by
 cases d with
 |lst ds=>obtain⟨xs,e,hs⟩:=h;exact⟨xs,g _ _ e,hs.mono g⟩
 |dct ks ds=>obtain⟨k,v,e,a1,a2,hs⟩:=h;exact⟨k,v,g _ _ e,a1,a2,hs.mono g⟩
 |dcu ks ds=>obtain⟨k,v,e,a1,a2,hs⟩:=h;exact⟨k,v,g _ _ e,a1,a2,hs.mono g⟩
 |ins c ns ds=>obtain⟨C,dx,k,v,ec,e,a1,a2,hs⟩:=h;exact⟨C,dx,k,v,ec,g _ _ e,a1,a2,hs.mono g⟩
 |_=>exact h.elim
theorem OV.kp (m:∀b,O b->eN (H b))(g:Kp O H H')(e':H' a=H a)(h:OV G O H a d):OV G O H' a d:=by
 cases d with
 |lst ds=>obtain⟨xs,e,hs⟩:=h;exact⟨xs,e'.trans e,hs.kp m g⟩
 |dct ks ds=>obtain⟨k,v,e,a1,a2,hs⟩:=h;exact⟨k,v,e'.trans e,a1,a2,hs.kp m g⟩
 |dcu ks ds=>obtain⟨k,v,e,a1,a2,hs⟩:=h;exact⟨k,v,e'.trans e,a1,a2,hs.kp m g⟩
 |ins c ns ds=>obtain⟨C,dx,k,v,ec,e,a1,a2,hs⟩:=h;exact⟨C,dx,k,v,ec,e'.trans e,a1,a2,hs.kp m g⟩
 |_=>exact h.elim
theorem OV.mut (h:OV G O H a d):eN (H a):=by
 cases d with
 |lst ds=>obtain⟨xs,e,hs⟩:=h;exact .inl ⟨xs,e⟩
 |dct ks ds=>obtain⟨k,v,e,_⟩:=h;exact .inr<|.inl ⟨k,e⟩
 |dcu ks ds=>obtain⟨k,v,e,_⟩:=h;exact .inr<|.inr<|.inl ⟨(_,k),e⟩
 |ins c ns ds=>obtain⟨C,dx,k,v,_,e,_⟩:=h;exact .inr<|.inr<|.inr ⟨(C,dx,k),e⟩
 |_=>exact h.elim
theorem OV.dv (n:¬O a)(h:OV G O H a d):DV G O H (.ref a) d:=by
 cases d with
 |lst ds=>obtain⟨xs,e,hs⟩:=h;exact .lst (.inl ⟨n,.inl e⟩) hs
 |dct ks ds=>obtain⟨k,v,e,a1,a2,hs⟩:=h;exact .dct n (.inl e) a1 a2 hs
 |dcu ks ds=>obtain⟨k,v,e,a1,a2,hs⟩:=h;exact .dcu n e a1 a2 hs
 |ins c ns ds=>obtain⟨C,dx,k,v,ec,e,a1,a2,hs⟩:=h;exact .ins n ec e a1 a2 hs
 |_=>exact h.elim
theorem DW.mono (g:aC H H')(h:DW G O H v d):DW G O H' v d:=h.elim (λz=>.inl<|z.mono g) λ⟨a,e,o,z⟩=>.inr ⟨a,e,o,z.mono g⟩
theorem DW.any (h:DW G O H v d):DV G (λ_=>False) H v d:=by
 rcases h with h|⟨a,e,_,h⟩
 ·exact h.bI λ_ z=>z.elim
 ·subst e;exact(h.bI (O':=λ_=>False) λ_ z=>z.elim).dv id
end
section
variable {G:Gx}{O:Zaa}{H:Hp}{v:V}
theorem JM (h:DW G O H v .non):v=.non:=by
 rcases h with h|⟨_,_,_,h⟩
 ·cases h;rfl
 ·exact h.elim
theorem Tq (h:DW G O H v (.bl b)):v=.bl b:=by
 rcases h with h|⟨_,_,_,h⟩
 ·cases h;rfl
 ·exact h.elim
theorem bR (h:DW G O H v (.int i)):v=.int i:=by
 rcases h with h|⟨_,_,_,h⟩
 ·cases h;rfl
 ·exact h.elim
theorem lJ (h:DW G O H v (.str x)):v=.str x:=by
 rcases h with h|⟨_,_,_,h⟩
 ·cases h;rfl
 ·exact h.elim
theorem yt (h:DW G O H v (.tup ds)):∃a xs,v=.ref a/\SqT G.K H a xs/\DVs G O H xs ds:=by
 rcases h with h|⟨_,_,_,h⟩
 ·cases h with
  |tup h hs=>exact⟨_,_,rfl,h.sq,hs⟩
 ·exact h.elim
theorem Dh (h:DW G O H v (.tup ds)):∃a xs,v=.ref a/\SqU G.K H a xs/\DVs G O H xs ds:=by
 rcases h with h|⟨_,_,_,h⟩
 ·cases h with
  |tup h hs=>exact⟨_,_,rfl,h,hs⟩
 ·exact h.elim
theorem jr (h:DW G O H v (.lst ds)):∃a xs,v=.ref a/\SqL G.K H a xs/\DVs G O H xs ds:=by
 rcases h with h|⟨a,e,_,h⟩
 ·cases h with
  |lst h hs=>exact⟨_,_,rfl,h.sq,hs⟩
 ·obtain⟨xs,e',hs⟩:=h;exact⟨a,xs,e,.inl<|.inl e',hs⟩
theorem WL {K:bq}{a:Addr}{ι:List (Key×V)}{k:Key}(e:Rd H a (.dK ι)):Hk K H a (kV k) (p6 ι k):=.inl ⟨ι,k,e,rfl,rfl⟩
theorem Bm (h:DW G O H v (.dct ks ds)):∃a ι vs,v=.ref a/\Rd H a (.dK ι)/\ι.map (·.1)=ks/\ι.map (·.2)=vs/\DVs G O H vs ds:=by
 rcases h with h|⟨a,e,_,h⟩
 ·cases h with
  |dct n e a b hs=>exact⟨_,_,_,rfl,e,a,b,hs⟩
 ·refine vO h λk w e' a1 a2 hs=>?_;exact⟨a,k,w,e,.inl e',a1,a2,hs⟩
theorem Wd (h:DW G O H v (.dcu ks ds)):∃a ι vs,v=.ref a/\H a=some (.dT (KTp G.K) ι)/\ι.map (·.1)=ks/\ι.map (·.2)=vs/\DVs G O H vs ds:=by
 rcases h with h|⟨a,e,_,h⟩
 ·cases h with
  |dcu n e a b hs=>exact⟨_,_,_,rfl,e,a,b,hs⟩
 ·refine vO h λk w e' a1 a2 hs=>?_;exact⟨a,k,w,e,e',a1,a2,hs⟩
theorem bj:∀{vs:List V} {ds:List D},DVs G O H vs ds->vs.length=ds.length
 |_,_,.nil=>rfl
 |_,_,.cons _ hs=>by rw[cw,cw,bj hs]
theorem mq:∀{vs us:List V} {ds es:List D},DVs G O H vs ds->DVs G O H us es->DVs G O H (vs++us) (ds++es)
 |_,_,_,_,.nil,h=>h
 |_,_,_,_,.cons a t,h=>.cons a<|mq t h
theorem qZ:∀{vs:List V} {ds:List D} {i:Nat} {x:V},DVs G O H vs ds->vs[i]? = some x->∃d,ds[i]? = some d/\DV G O H x d
 |_,_,_,_,.nil,e=>by simp at e
 |_,_,0,_,.cons a _,e=>by simp at e;subst e;exact⟨_,rfl,a⟩
 |_,_,i+1,x,.cons _ t,e=>by
  obtain⟨d,h1,h2⟩:=qZ (i:=i) (x:=x) t (by simpa using e);exact⟨d,by simpa using h1,h2⟩
theorem yf:∀{vs:List V} {ds:List D} {i:Nat} {d:D},DVs G O H vs ds->ds[i]? = some d->∃x,vs[i]? = some x/\DV G O H x d
 |_,_,_,_,.nil,e=>by simp at e
 |_,_,0,_,.cons a _,e=>by simp at e;subst e;exact⟨_,rfl,a⟩
 |_,_,i+1,d,.cons _ t,e=>by
  obtain⟨x,h1,h2⟩:=yf (i:=i) (d:=d) t (by simpa using e);exact⟨x,by simpa using h1,h2⟩
theorem G4:∀{vs:List V} {ds:List D} (n:Nat),DVs G O H vs ds->DVs G O H (vs.take n) (ds.take n)
 |_,_,0,_=>by simp only[List.take_zero];exact .nil
 |_,_,_+1,.nil=>.nil
 |_,_,n+1,.cons a t=>.cons a<|G4 n t
theorem NT:∀{vs:List V} {ds:List D} (n:Nat),DVs G O H vs ds->DVs G O H (vs.drop n) (ds.drop n)
 |_,_,0,h=>h
 |_,_,_+1,.nil=>.nil
 |_,_,n+1,.cons _ t=>NT n t
theorem Uj:∀{vs:List V} {ds:List D},DVs G O H vs ds->DVs G O H vs.reverse ds.reverse
 |_,_,.nil=>.nil
 |_,_,.cons a t=>by rw[kQ,kQ];exact mq (Uj t)<|.cons a .nil
end
inductive Sl where
  |un|fz (d:D)|ow (d:D)|io (d:D)|bw (d:D)
  |hd (w:Bool) (a:Addr) (d:D)
abbrev Me:=List Sl
abbrev Os:=Nat->Option Addr
noncomputable def Ow (O0:Zaa)(ow:Os):Zaa:=λb=>O0 b\/∃i,ow i=some b
def Op (O:Zaa)(p:Addr):Zaa:=λb=>O b\/b=p
noncomputable def owS (ow:Os)(i:Nat)(x:Option Addr):Os:=λj=>if j=i then x else ow j
theorem gU:owS ow i x i=x:=by unfold owS;rw[if_pos rfl]
theorem fM (h:j≠i):owS ow i x j=ow j:=by unfold owS;rw[if_neg h]
def Og (G:Gx)(O M0:Zaa)(H0:Hp)(oi:Option Addr)(v:Option (Option V))(H:Hp):Sl->Prop
 | .un=>oi=none
 | .fz d=>oi=none/\∃x,v=some (some x)/\DV G O H x d
 | .ow d=>∃a,oi=some a/\H0 a=none/\v=some (some<|.ref a)/\OV G O H a d
 | .io d=>∃a,oi=some a/\M0 a/\v=some (some<|.ref a)/\OV G O H a d
 | .bw d=>oi=none/\∃x,v=some (some x)/\DW G O H x d
 | .hd w a d=>oi=some a/\(w=true->H0 a=none)/\(w=false->M0 a)/\OV G O H a d
structure Rel (G:Gx)(O0 M0:Zaa)(H0:Hp)(ow:Os)(σ:L2.St)(H:Hp)(m:Me):Prop where
 len:σ.length=m.length
 keep:Kp M0 H0 H
 m0:∀b,M0 b->H b≠none
 mutk:∀b,Ow O0 ow b->eN (H b)
 no0:∀i a,ow i=some a->¬O0 a
 inj:∀i j a,ow i=some a->ow j=some a->i=j
 out:∀i,m.length<=i->ow i=none
 slot:∀i s,m[i]? = some s->Og G (Ow O0 ow) M0 H0 (ow i) (σ[i]?) H s
structure cR (G:Gx)(O0 M0:Zaa)(H0:Hp)(ow:Os)(σ:L2.St)(H:Hp)(m:Me):Prop extends Rel G O0 M0 H0 ow σ H m where
 nb:∀(j:Nat) (d:D),m[j]?≠some (Sl.bw d)
structure Go (O0:Zaa)(ow:Os)(H:Hp)(ow':Os)(H':Hp):Prop where
 keep:Kp (Ow O0 ow) H H'
 new:∀i a,ow' i=some a->Ow O0 ow a\/H a=none
 dom:∀b,H b≠none->H' b≠none
theorem Go.refl (g:aC H H'):Go O0 ow H ow H':=
 ⟨.of g,λi a e=>.inl<|.inr ⟨i,e⟩,λb n z=>by
  cases q:H b with
  |none=>exact n q
  |some o=>rw[g b o q] at z;cases z⟩
theorem Go.trans (a:Go O0 ow H ow1 H1)(b:Go O0 ow1 H1 ow2 H2):Go O0 ow H ow2 H2 where
 keep:=λc o e n=>b.keep c o (a.keep c o e n) λz=>by
  rcases z with z|⟨i,z⟩
  ·exact n<|.inl z
  ·rcases a.new i c z with y|y
   ·exact n y
   ·rw[y] at e;cases e
 new:=λi c e=>by
  rcases b.new i c e with(z|⟨j,z⟩)|z
  ·exact .inl<|.inl z
  ·exact a.new j c z
  ·refine .inr ?_;cases q:H c with
   |none=>rfl
   |some o=>exact absurd z (a.dom c (by rw[q];simp))
 dom:=λc n=>b.dom c<|a.dom c n
theorem Go.ev (g:Go O0 ow H ow' H'):Ev (Ow O0 ow) H (Ow O0 ow') H':=
 ⟨λb z=>z.elim (λz=>.inl<|.inl z) λ⟨i,e⟩=>g.new i b e,g.keep⟩
theorem yN (O:Zaa):Ow O (λ_=>none)=O:=by
 funext b;exact propext ⟨λz=>z.elim id λ⟨_,e⟩=>(by cases e),iS⟩
section
variable {G:Gx}{O0 M0:Zaa}{H0 H H':Hp}{ow:Os}{σ:L2.St}{m:Me}
theorem Og.mono (g:aC H H')(h:Og G O M0 H0 oi v H s):Og G O M0 H0 oi v H' s:=by
 cases s with
 |un=>exact h
 |fz d=>obtain⟨a,x,e,q⟩:=h;exact⟨a,x,e,q.mono g⟩
 |ow d=>obtain⟨a,x,e,f,q⟩:=h;exact⟨a,x,e,f,q.mono g⟩
 |io d=>obtain⟨a,x,e,f,q⟩:=h;exact⟨a,x,e,f,q.mono g⟩
 |bw d=>obtain⟨a,x,e,q⟩:=h;exact⟨a,x,e,q.mono g⟩
 |hd w a d=>obtain⟨x,e,f,q⟩:=h;exact⟨x,e,f,q.mono g⟩
theorem zX (g:aC H H')(h:eN (H b)):eN (H' b):=by
 rcases h with⟨x,e⟩|⟨x,e⟩|⟨x,e⟩|⟨x,e⟩
 ·exact .inl ⟨x,g _ _ e⟩
 ·exact .inr<|.inl ⟨x,g _ _ e⟩
 ·exact .inr<|.inr<|.inl ⟨x,g _ _ e⟩
 ·exact .inr<|.inr<|.inr ⟨x,g _ _ e⟩
theorem Rel.mono (R:Rel G O0 M0 H0 ow σ H m)(g:aC H H'):Rel G O0 M0 H0 ow σ H' m:=
 ⟨R.len,λb o e n=>g b o<|R.keep b o e n,λb z q=>R.m0 b z<|aC.free g q,λb z=>zX g<|R.mutk b z,R.no0,R.inj,R.out,λi s e=>(R.slot i s e).mono g⟩
theorem Og.bI (sub:∀b,O' b->O b\/H b=none)(h:Og G O M0 H0 oi v H s)(hb:∀d,s=.bw d->∀b,O b->O' b\/¬O' b):Og G O' M0 H0 oi v H s:=by
 cases s with
 |un=>exact h
 |fz d=>obtain⟨a,x,e,q⟩:=h;exact⟨a,x,e,q.bI sub⟩
 |ow d=>obtain⟨a,x,e,f,q⟩:=h;exact⟨a,x,e,f,q.bI sub⟩
 |io d=>obtain⟨a,x,e,f,q⟩:=h;exact⟨a,x,e,f,q.bI sub⟩
 |bw d=>
  obtain⟨a,x,e,q⟩:=h;refine⟨a,x,e,?_⟩;rcases q with q|⟨b,e1,o,q⟩
  ·exact .inl<|q.bI sub
  ·rcases hb d rfl b o with w|w
   ·exact .inr ⟨b,e1,w,q.bI sub⟩
   ·subst e1;exact .inl<|(q.bI sub).dv w
 |hd w a d=>obtain⟨x,e,f,q⟩:=h;exact⟨x,e,f,q.bI sub⟩
theorem Ow.sub (z:Ow O0 (owS ow i none) b):Ow O0 ow b:=by
 rcases z with z|⟨j,e⟩
 ·exact .inl z
 ·by_cases q:j=i
  ·subst q;rw[gU] at e;cases e
  ·rw[fM q] at e;exact .inr ⟨j,e⟩
theorem vH {l:List α}(e:l[i]? = some x):i<l.length:=(fT.mp e).1
theorem Rel.set (R:Rel G O0 M0 H0 ow σ H m)(h:DV G (Ow O0 ow) H v d):
  Rel G O0 M0 H0 (owS ow i none) (σ.set i<|some v) H (m.set i<|.fz d):=by
 have sub:∀b,Ow O0 (owS ow i none) b->Ow O0 ow b\/H b=none:=λb z=>.inl z.sub;refine⟨by simp[R.len],R.keep,R.m0,λb z=>R.mutk b z.sub,λj a e=>?_,λj k a e1 e2=>?_,λj hj=>?_,λj s e=>?_⟩
 ·by_cases q:j=i
  ·subst q;rw[gU] at e;cases e
  ·rw[fM q] at e;exact R.no0 j a e
 ·by_cases q:j=i
  ·subst q;rw[gU] at e1;cases e1
  ·by_cases q':k=i
   ·subst q';rw[gU] at e2;cases e2
   ·rw[fM q] at e1;rw[fM q'] at e2;exact R.inj j k a e1 e2
 ·by_cases q:j=i
  ·subst q;exact gU
  ·rw[fM q];exact R.out j<|by simpa using hj
 ·by_cases q:j=i
  ·subst q;have hj:j<m.length:=by simpa using vH e
   rw[bP hj] at e;cases e;rw[gU,bP (by rw[R.len];exact hj)];exact⟨rfl,v,rfl,h.bI sub⟩
  ·rw[cp<|eK q] at e;rw[fM q,cp<|eK q];exact(R.slot j s e).bI sub λ_ _ b _=>tj _
theorem Go.set:Go O0 ow H (owS ow i none) H:=
 ⟨λ_ _ e _=>e,λj a e=>.inl (by
  by_cases q:j=i
  ·subst q;rw[gU] at e;cases e
  ·rw[fM q] at e;exact .inr ⟨j,e⟩),λ_ n=>n⟩
theorem Rel.M8 (R:Rel G O0 M0 H0 ow σ H m){p:Addr}(n:H p=none):H0 p=none:=by
 cases q:H0 p with
 |none=>rfl
 |some o=>
  by_cases z:M0 p
  ·exact absurd n<|R.m0 p z
  ·rw[R.keep p o q z] at n;cases n
theorem Rel.NB (R:Rel G O0 M0 H0 ow σ H m){p:Addr}(n:H p=none):¬Ow O0 ow p:=λz=>by
 have:=R.mutk p z
 rw[n] at this;rcases this with⟨_,e⟩|⟨_,e⟩|⟨_,e⟩|⟨_,e⟩<;>cases e
theorem Ow.new (z:Ow O0 (owS ow i<|some p) b):Ow O0 ow b\/b=p:=by
 rcases z with z|⟨j,e⟩
 ·exact .inl<|.inl z
 ·by_cases q:j=i
  ·subst q;rw[gU] at e;cases e;exact .inr rfl
  ·rw[fM q] at e;exact .inl<|.inr ⟨j,e⟩
theorem Rel.own (R:Rel G O0 M0 H0 ow σ H m)(g:aC H H')(n:H p=none)(n0:H0 p=none)(h:OV G (Op (Ow O0 ow) p) H' p d)(hi:i<m.length):
  Rel G O0 M0 H0 (owS ow i<|some p) (σ.set i<|some<|.ref p) H' (m.set i<|.ow d):=by
 have np:=R.NB n;have sub:∀b,Ow O0 (owS ow i<|some p) b->Ow O0 ow b\/H b=none:=λb z=>z.new.elim .inl λe=>.inr (by rw[e];exact n);refine⟨by simp[R.len],(R.mono g).keep,(R.mono g).m0,λb z=>?_,λj a e=>?_,λj k a e1 e2=>?_,λj hj=>?_,λj s e=>?_⟩
 ·rcases z.new with z|z
  ·exact(R.mono g).mutk b z
  ·rw[z];exact h.mut
 ·by_cases q:j=i
  ·subst q;rw[gU] at e;cases e;exact λz=>np<|.inl z
  ·rw[fM q] at e;exact R.no0 j a e
 ·by_cases q:j=i
  ·subst q;rw[gU] at e1;cases e1;by_cases q':k=j
   ·exact q'.symm
   ·rw[fM q'] at e2;exact absurd (.inr ⟨k,e2⟩) np
  ·rw[fM q] at e1;by_cases q':k=i
   ·subst q';rw[gU] at e2;cases e2;exact absurd (.inr ⟨j,e1⟩) np
   ·rw[fM q'] at e2;exact R.inj j k a e1 e2
 ·have hj':m.length<=j:=by simpa using hj
  rw[fM<|by lia];exact R.out j hj'
 ·by_cases q:j=i
  ·subst q;rw[bP hi] at e;cases e;rw[gU,bP (by rw[R.len];exact hi)];exact⟨p,rfl,n0,rfl,h.bI λb z=>.inl<|z.new.elim .inl .inr⟩
  ·rw[cp<|eK q] at e;rw[fM q,cp<|eK q];exact((R.slot j s e).bI sub λ_ _ b _=>tj _).mono g
theorem Go.own (g:aC H H')(n:H p=none):Go O0 ow H (owS ow i<|some p) H':=
 ⟨.of g,λj a e=>by
  by_cases q:j=i
  ·subst q;rw[gU] at e;cases e;exact .inr n
  ·rw[fM q] at e;exact .inl<|.inr ⟨j,e⟩,(Go.refl (O0:=O0) (ow:=ow) g).dom⟩
theorem Fj {i:Nat}{s:Sl}(nb:∀(j:Nat) (d:D),m[j]?≠some (Sl.bw d))(hs:∀d,s≠.bw d):∀(j:Nat) (d:D),(m.set i s)[j]?≠some (Sl.bw d):=λj d e=>by
 by_cases q:j=i
 ·subst q;have hj:j<m.length:=by simpa using vH e
  rw[bP hj] at e;exact hs d<|dE e
 ·rw[cp<|eK q] at e;exact nb j d e
theorem cR.mono (R:cR G O0 M0 H0 ow σ H m)(g:aC H H'):cR G O0 M0 H0 ow σ H' m:=⟨R.toRel.mono g,R.nb⟩
theorem cR.set {i:Nat}{v:V}{d:D}(R:cR G O0 M0 H0 ow σ H m)(h:DV G (Ow O0 ow) H v d):cR G O0 M0 H0 (owS ow i none) (σ.set i<|some v) H (m.set i<|.fz d):=
 ⟨R.toRel.set h,Fj R.nb λ_ z=>by cases z⟩
theorem cR.own {i:Nat}{p:Addr}{d:D}(R:cR G O0 M0 H0 ow σ H m)(g:aC H H')(n:H p=none)(n0:H0 p=none)(h:OV G (Op (Ow O0 ow) p) H' p d)(hi:i<m.length):
  cR G O0 M0 H0 (owS ow i<|some p) (σ.set i<|some<|.ref p) H' (m.set i<|.ow d):=⟨R.toRel.own g n n0 h hi,Fj R.nb λ_ z=>by cases z⟩
noncomputable def Sl.let:Sl->Sl
 | .ow d=>.fz d
 |s=>s
noncomputable def Me.let (m:Me):Me:=m.map Sl.let
theorem cR.let (R:cR G O0 M0 H0 ow σ H m):∃ow',cR G O0 M0 H0 ow' σ H m.let/\Go O0 ow H ow' H:=by
 let ow':Os:=λi=>match m[i]? with
  |some (.io _)=>ow i
  |some (.hd _ _ _)=>ow i
  |_=>none
 have le:∀i a,ow' i=some a->ow i=some a/\∀d,m[i]?≠some (.ow d):=λi a e=>by
  simp only[ow'] at e;split at e
  ·rename_i d q;exact⟨e,λd z=>by rw[q] at z;cases z⟩
  ·rename_i w b d q;exact⟨e,λd z=>by rw[q] at z;cases z⟩
  ·cases e
 have sub:∀b,Ow O0 ow' b->Ow O0 ow b\/H b=none:=λb z=>.inl<|z.elim .inl λ⟨i,e⟩=>.inr ⟨i,(le i b e).1⟩;refine⟨ow',⟨⟨by simp[Me.let,R.len],R.keep,R.m0,λb z=>?_,λi a e=>R.no0 i a (le i a e).1,λi j a e1 e2=>R.inj i j a (le i a e1).1 (le j a e2).1,λi hi=>?_,λi s e=>?_⟩,λj d e=>?_⟩,λb o e n=>e,λi a e=>.inl<|.inr ⟨i,(le i a e).1⟩,λ_ n=>n⟩
 ·exact R.mutk b<|z.elim .inl λ⟨i,e⟩=>.inr ⟨i,(le i b e).1⟩
 ·have hi':m.length<=i:=by simpa[Me.let] using hi
  simp only[ow'];rw[kA hi']
 ·unfold Me.let at e;rw[bt] at e;cases q:m[i]? with
  |none=>rw[q] at e;cases e
  |some s0=>
   rw[q] at e;cases e;have z:=R.slot i s0 q;cases s0 with
   |un=>exact(show ow' i=none by simp only[ow',q])
   |fz d=>obtain⟨_,x,e,h⟩:=z;exact⟨(show ow' i=none by simp only[ow',q]),x,e,h.bI sub⟩
   |ow d=>
    refine iy z λa e1 e2 e3 h=>?_;refine⟨(show ow' i=none by simp only[ow',q]),.ref a,e3,(h.bI sub).dv λw=>?_⟩;rcases w with w|⟨j,w⟩
    ·exact R.no0 i a e1 w
    ·obtain⟨w1,w2⟩:=le j a w
     have:=R.inj i j a e1 w1
     subst this;exact w2 d q
   |io d=>
    refine iy z λa e1 e2 e3 h=>?_;exact⟨a,(show ow' i=some a by simp only[ow',q];exact e1),e2,e3,h.bI sub⟩
   |bw d=>exact(R.nb i d q).elim
   |hd w a d=>
    obtain⟨e1,e2,e3,h⟩:=z;exact⟨(show ow' i=some a by simp only[ow',q];exact e1),e2,e3,h.bI sub⟩
 ·unfold Me.let at e;rw[bt] at e;cases q:m[j]? with
  |none=>rw[q] at e;cases e
  |some s0=>
   rw[q] at e;cases s0 with
   |bw d'=>exact R.nb j d' q
   |_=>cases e
end
def Pu (G:Gx)(E:XK){α:Type}(r:Res α)(H:Hp)(k:α->Prop):Prop:=match r with
 | .ok a=>k a
 | .exc c=>∀C H',G.mg c=some (.ref C)->aC H H'->E (.ref C) none H'
 | .stuck=>False
theorem Pu.bind {G:Gx}{E:XK}{α β:Type}{r:Res α}{f:α->Res β}{H:Hp}{k:β->Prop}(h:Pu G E (r.bind f) H k):Pu G E r H λa=>Pu G E (f a) H k:=by
 cases r with
 |ok a=>exact h
 |exc c=>exact h
 |stuck=>exact h
theorem Pu.imp {G:Gx}{E:XK}{α:Type}{r:Res α}{H H':Hp}{k k':α->Prop}(h:Pu G E r H k)(g:aC H H')(hk:∀a,k a->k' a):Pu G E r H' k':=by
 cases r with
 |ok a=>exact hk a h
 |exc c=>exact λC H1 e g1=>h C H1 e<|g.trans g1
 |stuck=>exact h
theorem Pu.ofO {G:Gx}{E:XK}{α:Type}{r:Option α}{H:Hp}{k:α->Prop}(h:Pu G E (ofO r) H k):∃a,r=some a/\k a:=by
 cases r with
 |some a=>exact⟨a,rfl,h⟩
 |none=>exact h.elim
def tE (G:Gx)(E:XK)(f:Me->Res D):TE:=λσ H Q=>∃O0 M0 H0 ow m,Rel G O0 M0 H0 ow σ H m/\Pu G E (f m) H λd=>∀v H',aC H H'->DV G (Ow O0 ow) H' v d->Q v H'
def tB (G:Gx)(E:XK)(f:Me->Res D):TE:=λσ H Q=>∃O0 M0 H0 ow m,Rel G O0 M0 H0 ow σ H m/\Pu G E (f m) H λd=>∀v H',aC H H'->DW G (Ow O0 ow) H' v d->Q v H'
def tN (G:Gx)(E:XK)(f:Me->Res D):TE:=λσ H Q=>∃O0 M0 H0 ow m,Rel G O0 M0 H0 ow σ H m/\Pu G E (f m) H λd=>∀p H',aC H H'->H p=none->OV G (Op (Ow O0 ow) p) H' p d->Q (.ref p) H'
def tT (G:Gx)(E:XK)(f:Me->Res Bool):TT:=λσ H Q=>∃O0 M0 H0 ow m,Rel G O0 M0 H0 ow σ H m/\Pu G E (f m) H λb=>∀H',aC H H'->Q b H'
def tAE (G:Gx)(E:XK)(f:Me->Res (List D)):TA:=λσ H Q=>∃O0 M0 H0 ow m,Rel G O0 M0 H0 ow σ H m/\Pu G E (f m) H λds=>∀vs H',aC H H'->DVs G (Ow O0 ow) H' vs ds->Q vs H'
def tAB (G:Gx)(E:XK)(f:Me->Res (List D)):TA:=λσ H Q=>∃O0 M0 H0 ow m,Rel G O0 M0 H0 ow σ H m/\Pu G E (f m) H λds=>∀vs H',aC H H'->DWs G (Ow O0 ow) H' vs ds->Q vs H'
abbrev FE (X:Cx)(E:XK)(e:Expr)(f:Me->Res D):Prop:=PE X e<|tE (gx X) E f
abbrev FB (X:Cx)(E:XK)(e:Expr)(f:Me->Res D):Prop:=PE X e<|tB (gx X) E f
abbrev FN (X:Cx)(E:XK)(e:Expr)(f:Me->Res D):Prop:=PE X e<|tN (gx X) E f
abbrev FT (X:Cx)(E:XK)(e:Expr)(f:Me->Res Bool):Prop:=PT X e<|tT (gx X) E f
abbrev FW (X:Cx)(E:XK)(e:Expr)(f:Me->Res Bool):Prop:=PW X e<|tT (gx X) E f
abbrev FAE (X:Cx)(E:XK)(es:List Expr)(f:Me->Res (List D)):Prop:=PA X es<|tAE (gx X) E f
abbrev FAB (X:Cx)(E:XK)(es:List Expr)(f:Me->Res (List D)):Prop:=PA X es<|tAB (gx X) E f
theorem Jg {X:Cx}{e:Expr}{T T':TT}(h:PT X e T)(k:∀σ H Q,T' σ H Q->T σ H Q):PT X e T':=λπ s σ H Q I q=>h π s σ H Q I<|k σ H Q q
theorem Rb {X:Cx}{e:Expr}{T T':TT}(h:PW X e T)(k:∀σ H Q,T' σ H Q->T σ H Q):PW X e T':=λwh π s σ H Q I q=>h wh π s σ H Q I<|k σ H Q q
theorem rA {X:Cx}{es:List Expr}{T T':TA}(h:PA X es T)(k:∀σ H Q,T' σ H Q->T σ H Q):PA X es T':=λpos π s σ H Q I q=>h pos π s σ H Q I<|k σ H Q q
section
variable {X:Cx}{E:XK}{e a b c:Expr}{es:List Expr}{f fa fb fc:Me->Res D}{fs:Me->Res (List D)}{ft fu:Me->Res Bool}{pos:Pos}
theorem dI (h:FE X E e f):FB X E e f:=aX h λ_ _ _ hE=>xq5 hE λO0 M0 H0 ow m R q=>⟨O0,M0,H0,ow,m,R,q.imp (aC.refl _) λ_ k v H' g d=>k v H' g<|.inl d⟩
theorem iM (h:FN X E e f):FE X E e f:=aX h λ_ _ _ hE=>xq5 hE λO0 M0 H0 ow m R q=>⟨O0,M0,H0,ow,m,R,q.imp (aC.refl _) λ_ k p H' g n o=>
 k _ H' g ((o.bI λb z=>.inl<|.inl z).dv<|R.NB n)⟩
noncomputable def au (i:Nat):Me->Res D:=λm=>match m[i]? with
 |some (.fz d)=>.ok d
 |_=>.stuck
noncomputable def aj (i:Nat):Me->Res D:=λm=>match m[i]? with
 |some (.fz d)=>.ok d
 |some (.ow d)=>.ok d
 |some (.io d)=>.ok d
 |some (.bw d)=>.ok d
 |_=>.stuck
theorem bN (i:Nat){x:Str}(hN:X.N[i]? = some x:=by rfl)(hv:Vis X.env.scope x:=by first|exact iS rfl|exact hZ (iS rfl)|exact hZ (hZ rfl))(hd:(x==("__debug__":Str))=false:=by decide)
  (hcd:(x==("__classdict__":Str))=false:=by decide):FE X E (.Name x pos) (au i):=aX (m8 hN hv hd hcd) λσ H Q hE=>xq5 hE λO0 M0 H0 ow m R q=>by
 unfold au at q;cases e:m[i]? with
 |none=>rw[e] at q;exact q.elim
 |some s=>
  rw[e] at q;cases s with
  |fz d=>
   obtain⟨_,x,h1,h2⟩:=R.slot i _ e;exact⟨x,h1,q x H (aC.refl _) h2⟩
  |_=>exact q.elim
theorem bH (i:Nat){x:Str}(hN:X.N[i]? = some x:=by rfl)(hv:Vis X.env.scope x:=by first|exact iS rfl|exact hZ (iS rfl)|exact hZ (hZ rfl))(hd:(x==("__debug__":Str))=false:=by decide)
  (hcd:(x==("__classdict__":Str))=false:=by decide):FB X E (.Name x pos) (aj i):=aX (m8 hN hv hd hcd) λσ H Q hE=>xq5 hE λO0 M0 H0 ow m R q=>by
 unfold aj at q;cases e:m[i]? with
 |none=>rw[e] at q;exact q.elim
 |some s=>
  rw[e] at q;cases s with
  |fz d=>
   obtain⟨_,x,h1,h2⟩:=R.slot i _ e;exact⟨x,h1,q x H (aC.refl _)<|.inl h2⟩
  |bw d=>
   obtain⟨_,x,h1,h2⟩:=R.slot i _ e;exact⟨x,h1,q x H (aC.refl _) h2⟩
  |ow d=>
   refine iy (R.slot i _ e) λa h1 h2 h3 h4=>?_;exact⟨_,h3,q _ H (aC.refl _)<|.inr ⟨a,rfl,.inr ⟨i,h1⟩,h4⟩⟩
  |io d=>
   refine iy (R.slot i _ e) λa h1 h2 h3 h4=>?_;exact⟨_,h3,q _ H (aC.refl _)<|.inr ⟨a,rfl,.inr ⟨i,h1⟩,h4⟩⟩
  |un=>exact q.elim
  |hd _ _ _=>exact q.elim
def fC (d:D):Me->Res D:=λ_=>.ok d
theorem acb {d:D}{v:V}(h:PE X e (tC v))(hd:∀O H,DV (gx X) O H v d):FE X E e (fC d):=aX h λσ H Q hE=>xq5 hE λO0 M0 H0 ow m R q=>q v H (aC.refl _)<|hd _ _
theorem uo {i j pos}:FE X E (.Constant (.int i) j pos) (fC<|.int i):=acb adH λ_ _=>.int i
theorem uT {b j pos}:FE X E (.Constant (.bool b) j pos) (fC<|.bl b):=acb afh λ_ _=>.bl b
theorem mY {x j pos}:FE X E (.Constant (.str x) j pos) (fC<|.str x):=acb aeB λ_ _=>.str x
theorem aaF {x:Str}{v:V}{u:a9}{d:D}(hg:Gl X x)(hm:X.mg x=some u)(r:RelV v u)(hd:∀O H,DV (gx X) O H v d)(hdb:(x==("__debug__":Str))=false:=by decide):FE X E (.Name x pos) (fC d):=acb (ZG hg hm r hdb) hd
def rG (G:Gx)(g:D->D->Option D):R2:=λx y H Q=>∃O d e r,(∀b,O b->eN (H b))/\DW G O H x d/\DW G O H y e/\g d e=some r/\∀v H',aC H H'->DV G O H' v r->Q v H'
def rGB (G:Gx)(g:D->D->Option Bool):R2:=λx y H Q=>∃O d e r,(∀b,O b->eN (H b))/\DW G O H x d/\DW G O H y e/\g d e=some r/\Q (.bl r) H
def rG1 (G:Gx)(g:D->Option D):V->Hp->VK->Prop:=λx H Q=>∃O d r,(∀b,O b->eN (H b))/\DW G O H x d/\g d=some r/\∀v H',aC H H'->DV G O H' v r->Q v H'
def rGC (G:Gx)(g:List D->Option D):List V->Hp->VK->Prop:=λxs H Q=>∃O ds r,(∀b,O b->eN (H b))/\DWs G O H xs ds/\g ds=some r/\∀v H',aC H H'->DV G O H' v r->Q v H'
def aeF (G:Gx)(g:List D->Option D):List V->Hp->VK->Prop:=λxs H Q=>∃O ds r,(∀b,O b->eN (H b))/\DWs G O H xs ds/\g ds=some r/\∀p H',aC H H'->H p=none->OV G (Op O p) H' p r->Q (.ref p) H'
def rGM (G:Gx)(g:D->List D->Option D):V->List V->Hp->VK->Prop:=λx xs H Q=>∃O d ds r,(∀b,O b->eN (H b))/\DW G O H x d/\DWs G O H xs ds/\g d ds=some r/\∀v H',aC H H'->DV G O H' v r->Q v H'
noncomputable def ak (g:D->D->Option D)(fa fb:Me->Res D):Me->Res D:=λm=>(fa m).bind λx=>(fb m).bind λy=>ofO<|g x y
noncomputable def oZ (g:D->D->Option Bool)(fa fb:Me->Res D):Me->Res D:=λm=>(fa m).bind λx=>(fb m).bind λy=>ofO<|(g x y).map D.bl
noncomputable def aB (g:D->D->Option Bool)(fa fb:Me->Res D):Me->Res Bool:=λm=>(fa m).bind λx=>(fb m).bind λy=>ofO<|g x y
noncomputable def fUn (g:D->Option D)(fa:Me->Res D):Me->Res D:=λm=>(fa m).bind λx=>ofO<|g x
theorem two {G:Gx}{σ:L2.St}{H:Hp}{Q:VK}{r:R2}{O0 M0:Zaa}{H0:Hp}{ow:Os}{m:Me}{β:Type}{g:D->D->Res β}{K:β->Hp->Prop}(R:Rel G O0 M0 H0 ow σ H m)(h:Pu G E ((fa m).bind λx=>(fb m).bind λy=>g x y) H λz=>K z H)
  (hm:∀z H',K z H->aC H H'->K z H')
  (k:∀x y d e H',aC H H'->DW G (Ow O0 ow) H' x d->DW G (Ow O0 ow) H' y e->Pu G E (g d e) H' (λz=>K z H')->Rel G O0 M0 H0 ow σ H' m->r x y H' Q):tOp r (tB G E fa) (tB G E fb) σ H Q:=by
 refine⟨O0,M0,H0,ow,m,R,h.bind.imp (aC.refl _) λd q x H1 g1 hx=>⟨O0,M0,H0,ow,m,R.mono g1,q.bind.imp g1 λe q2 y H2 g2 hy=>?_⟩⟩;exact k x y d e H2 (g1.trans g2) (hx.mono g2) hy (q2.imp (g1.trans g2) λz kz=>hm z _ kz<|g1.trans g2)<|R.mono<|g1.trans g2
theorem pY {g:D->D->Option D}{op:Operator}(ho:OpR X (kd op) (rG (gx X) g))(ha:FB X E a fa)(hb:FB X E b fb):FE X E (.BinOp a op b pos) (ak g fa fb):=
 aX (agy ho ha hb) λσ H Q hE=>xq5 hE λO0 M0 H0 ow m R q=>two R (K:=λz H=>∀v H',aC H H'->DV (gx X) (Ow O0 ow) H' v z->Q v H') q (λ_ _ k g v H' g' d=>k v H' (g.trans g') d) λx y d e H' g hx hy q' R'=>by
  obtain⟨r,hr,k⟩:=q'.ofO;exact⟨_,d,e,r,R'.mutk,hx,hy,hr,k⟩
theorem afR {g:D->D->Option D}(ho:IxR X (rG (gx X) g))(ha:FB X E a fa)(hb:FB X E b fb)(hs:JT b):FE X E (.Subscript a b pos) (ak g fa fb):=
 aX (afz ho ha hb hs) λσ H Q hE=>xq5 hE λO0 M0 H0 ow m R q=>two R (K:=λz H=>∀v H',aC H H'->DV (gx X) (Ow O0 ow) H' v z->Q v H') q (λ_ _ k g v H' g' d=>k v H' (g.trans g') d) λx y d e H' g hx hy q' R'=>by
  obtain⟨r,hr,k⟩:=q'.ofO;exact⟨_,d,e,r,R'.mutk,hx,hy,hr,k⟩
theorem omap {α β:Type}{o:Option α}{f:α->β}{r:β}(h:o.map f=some r):∃a,o=some a/\f a=r:=by simp_all
theorem wk {g:D->D->Option Bool}{op:CmpOp}(ho:OpR X (fN op) (rGB (gx X) g))(ha:FB X E a fa)(hb:FB X E b fb)(hm:lh op b=false):FE X E (.Compare a [op] [b] pos) (oZ g fa fb):=
 aX (aaG ho ha hb hm) λσ H Q hE=>xq5 hE λO0 M0 H0 ow m R q=>two R (K:=λz H=>∀v H',aC H H'->DV (gx X) (Ow O0 ow) H' v z->Q v H') q (λ_ _ k g v H' g' d=>k v H' (g.trans g') d) λx y d e H' g hx hy q' R'=>by
  obtain⟨r,hr,k⟩:=q'.ofO;obtain⟨c,hc,rfl⟩:=omap hr;exact⟨_,d,e,c,R'.mutk,hx,hy,hc,k _ _ (aC.refl _)<|.bl c⟩
theorem rZ {g:D->D->Option Bool}{op:CmpOp}(ho:OpR X (fN op) (rGB (gx X) g))(ha:FB X E a fa)(hb:FB X E b fb)(hm:lh op b=false):FT X E (.Compare a [op] [b] pos) (aB g fa fb):=
 Jg (aat ho ha hb hm) λσ H Q hE=>xq5 hE λO0 M0 H0 ow m R q=>two R (K:=λz H=>∀H',aC H H'->Q z H') q (λ_ _ k g H' g'=>k H'<|g.trans g') λx y d e H' g hx hy q' R'=>by
  obtain⟨c,hc,k⟩:=q'.ofO;exact⟨_,d,e,c,R'.mutk,hx,hy,hc,c,rfl,k _<|aC.refl _⟩
theorem agm {g:D->Option D}{op:UnaryOp}(ho:UnR X (unaryOp op) (rG1 (gx X) g))(ha:FB X E a fa):FE X E (.UnaryOp op a pos) (fUn g fa):=
 aX (afo ho ha) λσ H Q hE=>xq5 hE λO0 M0 H0 ow m R q=>⟨O0,M0,H0,ow,m,R,q.bind.imp (aC.refl _) λd q x H1 g1 hx=>by
  obtain⟨r,hr,k⟩:=q.ofO;exact⟨_,d,r,(R.mono g1).mutk,hx,hr,λv H' g d=>k v H' (g1.trans g) d⟩⟩
noncomputable def fTv (fa:Me->Res D):Me->Res Bool:=λm=>(fa m).bind λx=>match x with
 | .bl b=>.ok b
 |_=>.stuck
theorem vo (h:FE X E e f)(he:∀whole,isTrue e X.env whole=(do let v←whole;standAt e.pos;tq [v] (truthy v)):=by intro _;rfl):FT X E e (fTv f):=
 Jg (aet h he) λσ H Q hE=>xq5 hE λO0 M0 H0 ow m R q=>⟨O0,M0,H0,ow,m,R,q.bind.imp (aC.refl _) λd q v H' g hv=>by
  cases d with
  |bl b=>cases hv;exact⟨b,rfl,q H' g⟩
  |_=>exact q.elim⟩
noncomputable def lM (ft:Me->Res Bool):Me->Res Bool:=λm=>(ft m).bind λc=>.ok<|!c
noncomputable def pA (ft fu:Me->Res Bool):Me->Res Bool:=λm=>(ft m).bind λc=>if c then fu m else .ok false
noncomputable def ql (ft fu:Me->Res Bool):Me->Res Bool:=λm=>(ft m).bind λc=>if c then .ok true else fu m
theorem vV (h:FT X E a ft):FT X E (.UnaryOp .Not a pos) (lM ft):=Jg (aeU h) λσ H Q hE=>xq5 hE λO0 M0 H0 ow m R q=>⟨O0,M0,H0,ow,m,R,q.bind.imp (aC.refl _) λb q H' g=>q H' g⟩
theorem JV (h:FT X E a ft):FW X E (.BoolOp .And [a] pos) ft:=acd h
theorem yo (h:FT X E a ft):FW X E (.BoolOp .Or [a] pos) ft:=ad2 h
theorem Pq (ha:FT X E a ft)(hb:FW X E (.BoolOp .And (b::es) pos) fu):FW X E (.BoolOp .And (a::b::es) pos) (pA ft fu):=
 Rb (ac6 ha hb) λσ H Q hE=>xq5 hE λO0 M0 H0 ow m R q=>⟨O0,M0,H0,ow,m,R,q.bind.imp (aC.refl _) λb q H' g=>by
  cases b with
  |true=>rw[if_pos rfl] at q ⊢;exact⟨O0,M0,H0,ow,m,R.mono g,q.imp g λ_ k H1 g1=>k H1<|g.trans g1⟩
  |false=>rw[if_neg be] at q ⊢;exact q H' g⟩
theorem BL (ha:FT X E a ft)(hb:FW X E (.BoolOp .Or (b::es) pos) fu):FW X E (.BoolOp .Or (a::b::es) pos) (ql ft fu):=
 Rb (agf ha hb) λσ H Q hE=>xq5 hE λO0 M0 H0 ow m R q=>⟨O0,M0,H0,ow,m,R,q.bind.imp (aC.refl _) λb q H' g=>by
  cases b with
  |false=>rw[if_neg be] at q ⊢;exact⟨O0,M0,H0,ow,m,R.mono g,q.imp g λ_ k H1 g1=>k H1<|g.trans g1⟩
  |true=>rw[if_pos rfl] at q ⊢;exact q H' g⟩
theorem Hf (h:FW X E e ft):FT X E e ft:=L2.PW.pt h
def abL (fa:Me->Res D):Me->Res D:=λm=>(fTv fa m).bind λc=>.ok<|.bl !c
def Fv (fa fb:Me->Res D):Me->Res D:=λm=>(fTv fa m).bind λc=>if c then fb m else .ok (.bl false)
theorem Zh {G:Gx}{O:Zaa}{m:Me}{H:Hp}{k:Bool->Prop}(h:Pu G E (fTv fa m) H k):Pu G E (fa m) H λd=>∃b,d=.bl b/\k b:=by
 refine h.bind.imp (aC.refl _) λd q=>?_;cases d with
 |bl b=>exact⟨b,rfl,q⟩
 |_=>exact q.elim
theorem Be {op}(h:FE X E a fa):FE X E (.BoolOp op [a] pos) fa:=aeZ h
theorem Aq (ha:FE X E a fa)(hb:FE X E (.BoolOp .And (b::es) pos) fb):FE X E (.BoolOp .And (a::b::es) pos) (Fv fa fb):=
 aX (aeQ ha hb) λσ H Q hE=>xq5 hE λO0 M0 H0 ow m R q=>⟨O0,M0,H0,ow,m,R,(Zh (O:=O0) q.bind).imp (aC.refl _) λd ⟨b,e,q⟩ v H' g hv=>by
  subst e;cases hv;refine⟨b,rfl,?_⟩;cases b with
  |true=>rw[if_pos rfl] at q ⊢;exact⟨O0,M0,H0,ow,m,R.mono g,q.imp g λ_ k v H1 g1=>k v H1<|g.trans g1⟩
  |false=>rw[if_neg be] at q ⊢;exact q _ H' g<|.bl false⟩
theorem Y9 (ha:FE X E a fa):FE X E (.UnaryOp .Not a pos) (abL fa):=
 aX (adW ha) λσ H Q hE=>xq5 hE λO0 M0 H0 ow m R q=>⟨O0,M0,H0,ow,m,R,(Zh (O:=O0) q.bind).imp (aC.refl _) λd ⟨b,e,q⟩ v H' g hv=>by
  subst e;cases hv;exact⟨b,rfl,q _ H' g<|.bl _⟩⟩
def fIf (ft:Me->Res Bool)(fa fb:Me->Res D):Me->Res D:=λm=>(ft m).bind λc=>if c then fa m else fb m
theorem afU (hc:FT X E c ft)(ha:FE X E a fa)(hb:FE X E b fb):FE X E (.IfExp c a b pos) (fIf ft fa fb):=
 aX (Yc hc ha hb) λσ H Q hE=>xq5 hE λO0 M0 H0 ow m R q=>⟨O0,M0,H0,ow,m,R,q.bind.imp (aC.refl _) λb q H' g=>by
  cases b with
  |false=>rw[if_neg be] at q ⊢;exact⟨O0,M0,H0,ow,m,R.mono g,q.imp g λ_ k v H1 g1=>k v H1<|g.trans g1⟩
  |true=>rw[if_pos rfl] at q ⊢;exact⟨O0,M0,H0,ow,m,R.mono g,q.imp g λ_ k v H1 g1=>k v H1<|g.trans g1⟩⟩
def ao:Me->Res (List D):=λ_=>.ok []
noncomputable def aa (fa:Me->Res D)(fs:Me->Res (List D)):Me->Res (List D):=λm=>(fa m).bind λx=>(fs m).bind λxs=>.ok (x::xs)
theorem iW:FAE X E [] ao:=rA vD λσ H Q hE=>xq5 hE λO0 M0 H0 ow m R q=>q [] H (aC.refl _) .nil
theorem eY:FAB X E [] ao:=rA vD λσ H Q hE=>xq5 hE λO0 M0 H0 ow m R q=>q [] H (aC.refl _) .nil
theorem bY (ha:FE X E e fa)(hr:FAE X E es fs)(hs:aS (e::es) X.env=(false,eval e X.env)::aS es X.env:=by rfl):FAE X E (e::es) (aa fa fs):=
 rA (lQ ha hr hs) λσ H Q hE=>xq5 hE λO0 M0 H0 ow m R q=>⟨O0,M0,H0,ow,m,R,q.bind.imp (aC.refl _) λd q v H1 g1 hv=>⟨O0,M0,H0,ow,m,R.mono g1,q.bind.imp g1 λds q vs H2 g2 hvs=>q _ H2 (g1.trans g2)<|.cons (hv.mono g2) hvs⟩⟩
theorem cZ (ha:FB X E e fa)(hr:FAB X E es fs)(hs:aS (e::es) X.env=(false,eval e X.env)::aS es X.env:=by rfl):FAB X E (e::es) (aa fa fs):=
 rA (lQ ha hr hs) λσ H Q hE=>xq5 hE λO0 M0 H0 ow m R q=>⟨O0,M0,H0,ow,m,R,q.bind.imp (aC.refl _) λd q v H1 g1 hv=>⟨O0,M0,H0,ow,m,R.mono g1,q.bind.imp g1 λds q vs H2 g2 hvs=>q _ H2 (g1.trans g2)<|.cons (hv.mono g2) hvs⟩⟩
noncomputable def aN (fs:Me->Res (List D)):Me->Res D:=λm=>(fs m).bind λds=>if ds.length<=av then .ok (.tup ds) else .stuck
noncomputable def cP (fs:Me->Res (List D)):Me->Res D:=λm=>(fs m).bind λds=>if ds.length<=av then .ok (.lst ds) else .stuck
theorem Ih {G:Gx}{α:Type}{c:Prop}[Decidable c]{r:α}{H:Hp}{k:α->Prop}(h:Pu G E (if c then .ok r else .stuck) H k):c/\k r:=by
 by_cases z:c
 ·rw[if_pos z] at h;exact⟨z,h⟩
 ·rw[if_neg z] at h;exact h.elim
theorem xK {x1}(h:FAE X E es fs):FE X E (.Tuple es x1 pos) (aN fs):=aX (T3 h) λσ H Q hE=>xq5 hE λO0 M0 H0 ow m R q=>⟨O0,M0,H0,ow,m,R,q.bind.imp (aC.refl _) λds q vs H1 g1 hv=>by
 obtain⟨hz,k⟩:=Ih q;exact⟨by rw[bj hv];exact hz,λp H' g e=>k _ H' (g1.trans g)<|.tup (SqU.of e)<|hv.mono g⟩⟩
theorem WD (h:FAE X E es fs):FN X E (.List es pos) (cP fs):=aX (aen<|acs h) λσ H Q hE=>xq5 hE λO0 M0 H0 ow m R q=>⟨λvs H1=>aC H H1/\∃ds,DVs (gx X) (Ow O0 ow) H1 vs ds/\ds.length<=av/\∀p H',aC H H'->H p=none->OV (gx X) (Op (Ow O0 ow) p) H' p (.lst ds)->Q (.ref p) H',⟨O0,M0,H0,ow,m,R,q.bind.imp (aC.refl _) λds q vs H1 g1 hv=>⟨g1,ds,hv,Ih q⟩⟩,λvs H1 ⟨g1,ds,hv,hz,k⟩=>
 ⟨by rw[bj hv];exact hz,λp hp=>k p _ (g1.trans<|aV hp _) (g1.free hp) ⟨vs,aM,(hv.bI λb z=>z.elim .inl λe=>.inr (by rw[e];exact hp)).mono<|aV hp _⟩⟩⟩
noncomputable def aF (g:List D->Option D)(fs:Me->Res (List D)):Me->Res D:=λm=>(fs m).bind λds=>ofO<|g ds
theorem Rr {g:List D->Option D}{σ:L2.St}{H:Hp}{Q:VK}(h:tE (gx X) E (aF g fs) σ H Q):tCB (rGC (gx X) g) (tAB (gx X) E fs) σ H Q:=by
 refine uX h λO0 M0 H0 ow m R q=>?_;refine⟨O0,M0,H0,ow,m,R,q.bind.imp (aC.refl _) λds q vs H1 g1 hv=>?_⟩;obtain⟨r,hr,k⟩:=q.ofO;exact⟨_,ds,r,(R.mono g1).mutk,hv,hr,λv H' g d=>k v H' (g1.trans g) d⟩
theorem WY {g:List D->Option D}{σ:L2.St}{H:Hp}{Q:VK}(h:tN (gx X) E (aF g fs) σ H Q):tCB (aeF (gx X) g) (tAB (gx X) E fs) σ H Q:=by
 refine uX h λO0 M0 H0 ow m R q=>?_;refine⟨O0,M0,H0,ow,m,R,q.bind.imp (aC.refl _) λds q vs H1 g1 hv=>?_⟩;obtain⟨r,hr,k⟩:=q.ofO;exact⟨_,ds,r,(R.mono g1).mutk,hv,hr,λp H' g n d=>k p H' (g1.trans g) (g1.free n) d⟩
section
variable {x:Str}{p:Pos}{id T:String}{g:List D->Option D}
theorem mj (hc:lC X (.builtin id) (rGC (gx X) g))(hg:Gl X x)(hm:X.mg x=none)(hv:dQ x=some (.builtin id))(ha:FAB X E (e::es) fs)(hn:x≠"__name__":=by decide)(hdb:(x==("__debug__":Str))=false:=by decide)
  (he:aS (e::es) X.env=(false,eval e X.env)::aS es X.env:=by rfl) (υ:(l7 pos<|aS es X.env).any (·.1)=false:=by rfl):FE X E (.Call (.Name x p) (e::es) [] pos) (aF g fs):=
 aX (Ml hc hg hm hv ha hn hdb he υ) λ_ _ _ h=>Rr h
theorem iD (hc:lC X (.type T) (rGC (gx X) g))(hg:Gl X x)(hm:X.mg x=none)(hv:dQ x=some (.type T))(ha:FAB X E (e::es) fs)(hn:x≠"__name__":=by decide)(hdb:(x==("__debug__":Str))=false:=by decide)
  (he:aS (e::es) X.env=(false,eval e X.env)::aS es X.env:=by rfl) (υ:(l7 pos<|aS es X.env).any (·.1)=false:=by rfl):FE X E (.Call (.Name x p) (e::es) [] pos) (aF g fs):=
 aX (Ah hc hg hm hv ha hn hdb he υ) λ_ _ _ h=>Rr h
theorem tZ (hc:lC X (.type T) (aeF (gx X) g))(hg:Gl X x)(hm:X.mg x=none)(hv:dQ x=some (.type T))(ha:FAB X E (e::es) fs)(hn:x≠"__name__":=by decide)(hdb:(x==("__debug__":Str))=false:=by decide)
  (he:aS (e::es) X.env=(false,eval e X.env)::aS es X.env:=by rfl) (υ:(l7 pos<|aS es X.env).any (·.1)=false:=by rfl):FN X E (.Call (.Name x p) (e::es) [] pos) (aF g fs):=
 aX (Ah hc hg hm hv ha hn hdb he υ) λ_ _ _ h=>WY h
end
noncomputable def tyD:String->D->Bool
 | "str",.str _=>true
 | "list",.lst _=>true
 | "dict",.dct _ _=>true
 | "dict",.dcu _ _=>true
 |_,_=>false
theorem agz {G:Gx}{O:Zaa}{H:Hp}{v:V}{d:D}{T:String}(h:DW G O H v d)(t:tyD T d=true):tyV G.K T v H:=by
 unfold tyD at t;split at t
 ·cases lJ h;rfl
 ·obtain⟨a,xs,rfl,hx,_⟩:=jr h;exact .inl ⟨rfl,xs,hx⟩
 ·obtain⟨a,ι,vs,rfl,hx,_⟩:=Bm h;exact .inr<|.inr<|.inl ⟨rfl,.inl ⟨ι,hx⟩⟩
 ·obtain⟨a,ι,vs,rfl,hx,_⟩:=Wd h;exact .inr<|.inr<|.inl ⟨rfl,.inr ⟨_,ι,.inl hx⟩⟩
 ·cases t
def T5 (T:String)(g:D->List D->Option D)(fo:Me->Res D)(fs:Me->Res (List D)):Me->Res D:=λm=>(fo m).bind λd=>if tyD T d=true then(fs m).bind λds=>ofO (g d ds) else .stuck
theorem GD {G:Gx}{α:Type}{c:Prop}[Decidable c]{r:Res α}{H:Hp}{k:α->Prop}(h:Pu G E (if c then r else .stuck) H k):c/\Pu G E r H k:=by
 by_cases z:c
 ·rw[if_pos z] at h;exact⟨z,h⟩
 ·rw[if_neg z] at h;exact h.elim
section
variable {o:Expr}{name:Str}{apos η:Pos}{T id:String}{g:D->List D->Option D}
theorem afx (pa:PlainAttrs T)(slot:Slot T name id)(hty:typeOf (.builtin id)=pure (.type "method_descriptor"))(hm:MtR X id (rGM (gx X) g))(ho:FB X E o fa)(ha:FAB X E (e::es) fs)
  (ξ:iF o name X.env (eval o X.env)=eval o X.env:=by rfl)
  (τ:((l7 η<|aS (e::es) X.env).all (λx=>!x.1)&&(AO η<|sj [] X.env).all (λx=>x.1.isSome)
   && decide ((e::es).length+([]:List so).length+(if([]:List so).isEmpty then 0 else 1)<30))=true:=by rfl)
  (θ:(apos.endLine==η.line)=true:=by rfl) (hs:aS (e::es) X.env=(false,eval e X.env)::aS es X.env:=by rfl) (hplain:(l7 η<|aS es X.env).any (·.1)=false:=by rfl):
  FE X E (.Call (.Attribute o name apos) (e::es) [] η) (T5 T g fa fs):=
 aX (UT pa slot hty hm ho ha ξ τ θ hs hplain) λσ H Q hE=>xq5 hE λO0 M0 H0 ow m R q=>⟨O0,M0,H0,ow,m,R,q.bind.imp (aC.refl _) λd q v H1 g1 hv=>by
  obtain⟨t,q⟩:=GD q;refine⟨agz hv t,O0,M0,H0,ow,m,R.mono g1,q.bind.imp g1 λds q vs H2 g2 hvs=>?_⟩;obtain⟨r,hr,k⟩:=q.ofO;exact⟨_,d,ds,r,(R.mono<|g1.trans g2).mutk,hv.mono g2,hvs,hr,λv H' g d=>k v H' ((g1.trans g2).trans g) d⟩⟩
end
end
inductive Fl where
 |nx|bk|ct|rt (fr:Bool) (d:D)
abbrev Zba:=D->Me->Option Me
abbrev Zaf:=Me->Res Bool
abbrev Zae:=Me->Res D
abbrev Zad:=Me->Res (List D)
abbrev Zac:=List D->Res (Bool×D)
abbrev Zab:=Me->Res (Fl×Me)
mutual
def acJ:D->Bool
 | .non|.bl _|.int _|.str _=>true
 | .tup ds=>Px ds
 |_=>false
def Px:List D->Bool
 |[]=>true
 |d::ds=>acJ d&&Px ds
end
section
end
inductive Ve (G:Gx)(H0 H':Hp):List Addr->List V->List D->Prop where
 |nil:Ve G H0 H' [] [] []
 |flat {v:V} {d:D} {vs:List V} {ds:List D} {qs:List Addr}:DV G (λ_=>False) H' v d->acJ d=true->Ve G H0 H' qs vs ds->Ve G H0 H' qs (v::vs) (d::ds)
 |new {q:Addr} {xs:List V} {es:List D} {vs:List V} {ds:List D} {qs:List Addr}:H0 q=none->H' q=some (.lst xs)->DVs G (λ_=>False) H' xs es->Px es=true->q∉qs->Ve G H0 H' qs vs ds->Ve G H0 H' (q::qs) (.ref q::vs) (.lst es::ds)
def Fr (G:Gx)(O:Zaa)(H0:Hp)(v:V)(H':Hp)(d:D):Prop:=(∃p,v=.ref p/\H0 p=none/\OV G (Op O p) H' p d)\/∃p xs ds qs,d=.tup ds/\v=.ref p/\SqU G.K H' p xs/\Ve G H0 H' qs xs ds
def isTup:D->Bool
 | .tup _=>true
 |_=>false
theorem Fr.lst (h:Fr G O H0 v H' d)(ht:isTup d=false):∃p,v=.ref p/\H0 p=none/\OV G (Op O p) H' p d:=by
 rcases h with h|⟨p,xs,ds,qs,e,_⟩
 ·exact h
 ·rw[e] at ht;cases ht
def Ss (G:Gx)(E:XK)(O0 M0:Zaa)(H0:Hp)(ow:Os)(H:Hp)(W:Ends)(r:Res (Fl×Me)):Prop:=match r with
 | .ok (.nx,m')=>∀ow' σ' H',cR G O0 M0 H0 ow' σ' H' m'->Go O0 ow H ow' H'->W.nx σ' H'
 | .ok (.bk,m')=>∀ow' σ' H',cR G O0 M0 H0 ow' σ' H' m'->Go O0 ow H ow' H'->W.bk σ' H'
 | .ok (.ct,m')=>∀ow' σ' H',cR G O0 M0 H0 ow' σ' H' m'->Go O0 ow H ow' H'->W.ct σ' H'
 | .ok (.rt fr d,m')=>∀v ow' σ' H',cR G O0 M0 H0 ow' σ' H' m'->Go O0 ow H ow' H'->DV G (Ow O0 ow') H' v d->(fr=true->Fr G (Ow O0 ow') H0 v H' d)->W.rt v H'
 | .exc c=>∀C H',G.mg c=some (.ref C)->Kp M0 H0 H'->E (.ref C) none H'
 | .stuck=>False
def tS (G:Gx)(E:XK)(g:Zab):TS:=λW σ H=>∃O0 M0 H0 ow m,cR G O0 M0 H0 ow σ H m/\Ss G E O0 M0 H0 ow H W (g m)
abbrev FS (X:Cx)(E:XK)(st:Stmt)(g:Zab):Prop:=PS X st<|tS (gx X) E g
abbrev FSs (X:Cx)(E:XK)(st:List Stmt)(g:Zab):Prop:=PSs X st<|tS (gx X) E g
theorem cB {X:Cx}{st:Stmt}{T T':TS}(h:PS X st T)(k:∀W σ H,T' W σ H->T W σ H):PS X st T':=λπ s σ H W I q=>h π s σ H W I<|k W σ H q
theorem zL {X:Cx}{st:List Stmt}{T T':TS}(h:PSs X st T)(k:∀W σ H,T' W σ H->T W σ H):PSs X st T':=λπ s σ H W I q=>h π s σ H W I<|k W σ H q
section
theorem Ss.pu (R:Rel G O0 M0 H0 ow σ H m)(h:Ss G E O0 M0 H0 ow H W (x.bind k)):Pu G E x H λa=>Ss G E O0 M0 H0 ow H W (k a):=by
 cases x with
 |ok a=>exact h
 |exc c=>exact λC H' e g=>h C H' e λb o e n=>g b o<|R.keep b o e n
 |stuck=>exact h
theorem Ss.go (h:Ss G E O0 M0 H0 ow H W r)(g:Go O0 ow H ow' H'):Ss G E O0 M0 H0 ow' H' W r:=by
 cases r with
 |ok a=>
  obtain⟨f,m'⟩:=a;cases f with
  |nx=>exact λow1 σ1 H1 R g1=>h ow1 σ1 H1 R<|g.trans g1
  |bk=>exact λow1 σ1 H1 R g1=>h ow1 σ1 H1 R<|g.trans g1
  |ct=>exact λow1 σ1 H1 R g1=>h ow1 σ1 H1 R<|g.trans g1
  |rt fr d=>exact λv ow1 σ1 H1 R g1=>h v ow1 σ1 H1 R<|g.trans g1
 |exc c=>exact h
 |stuck=>exact h
theorem Ss.ofO (h:Ss G E O0 M0 H0 ow H W ((ofO x).bind k)):∃a,x=some a/\Ss G E O0 M0 H0 ow H W (k a):=by
 cases x with
 |some a=>exact⟨a,rfl,h⟩
 |none=>exact h.elim
end
def gNx:Zab:=λm=>.ok (.nx,m)
noncomputable def aA (g k:Zab):Zab:=λm=>match g m with
 | .ok (.nx,m')=>k m'
 |r=>r
noncomputable def aK (i:Nat)(f:Zae):Zab:=λm=>(f m).bind λd=>.ok (.nx,m.set i<|.fz d)
noncomputable def cC (i:Nat)(f:Zae):Zab:=λm=>(f m).bind λd=>if i<m.length then .ok (.nx,m.set i<|.ow d) else .stuck
noncomputable def gEx (f:Zae):Zab:=λm=>(f m).bind λ_=>.ok (.nx,m)
def aU (f:Zae):Zab:=λm=>(f m.let).bind λd=>.ok (.rt false d,m.let)
def jc (f:Zae):Zab:=λm=>(f m.let).bind λd=>.ok (.rt true d,m.let)
def dY (i:Nat):Zab:=λm=>match m[i]? with
 |some (.ow d)=>.ok (.rt true d,m.let)
 |some (.fz d)=>.ok (.rt false d,m.let)
 |_=>.stuck
noncomputable def gIf (t:Zaf)(g k:Zab):Zab:=λm=>(t m).bind λc=>if c then g m else k m
noncomputable def Xy (i:Nat)(k:Zab):Zab:=λm=>match m[i]? with
 |some (.ow d)=>k<|m.set i<|.fz d
 |_=>k m
section
variable {X:Cx}{E:XK}{e c:Expr}{es:List Expr}{st:Stmt}{rest sa sb:List Stmt}{f:Zae}{ft:Zaf}{g k ga gb:Zab}{pos pos':Pos}{i:Nat}{x:Str}
theorem bT:FSs X E [] gNx:=zL aae λW σ H hE=>xq5 hE λO0 M0 H0 ow m R q=>q ow σ H R<|Go.refl<|aC.refl _
theorem adO (h:tS G E (aA g k) W σ H):agb (tS G E g) (tS G E k) W σ H:=by
 refine uX h λO0 M0 H0 ow m R q=>?_;refine⟨O0,M0,H0,ow,m,R,?_⟩;unfold aA at q;cases z:g m with
 |ok a=>
  obtain⟨f,m'⟩:=a;rw[z] at q;cases f with
  |nx=>exact λow' σ' H' R' g'=>⟨O0,M0,H0,ow',m',R',Ss.go q g'⟩
  |bk=>exact q
  |ct=>exact q
  |rt fr d=>exact q
 |exc c=>rw[z] at q;exact q
 |stuck=>rw[z] at q;exact q
theorem aq (h1:FS X E st g)(h2:FSs X E rest k):FSs X E (st::rest) (aA g k):=zL (Mu h1 h2) λW σ H h=>adO h
theorem aD (h1:FS X E st g):FSs X E [st] g:=ZR h1
theorem abv (i:Nat)(h:FSs X E rest k):FSs X E rest (Xy i k):=zL h λW σ H hE=>xq5 hE λO0 M0 H0 ow m R q=>by
 unfold Xy at q;cases z:m[i]? with
 |none=>rw[z] at q;exact⟨O0,M0,H0,ow,m,R,q⟩
 |some s=>
  rw[z] at q;cases s with
  |ow d=>
   refine iy (R.slot i _ z) λa h1 h2 h3 h4=>?_;have na:¬Ow O0 (owS ow i none) a:=λw=>by
    rcases w with w|⟨j,w⟩
    ·exact R.no0 i a h1 w
    ·by_cases e:j=i
     ·subst e;rw[gU] at w;cases w
     ·rw[fM e] at w;exact e<|R.inj j i a w h1
   have sub:∀b,Ow O0 (owS ow i none) b->Ow O0 ow b\/H b=none:=λb z=>.inl z.sub;have hi:=vH z;have R2:cR (gx X) O0 M0 H0 (owS ow i none) σ H (m.set i<|.fz d):=by
    refine⟨⟨by simp[R.len],R.keep,R.m0,λb z=>R.mutk b z.sub,λj b e=>?_,λj k b e1 e2=>?_,λj hj=>?_,λj s e=>?_⟩,Fj R.nb λ_ z=>by cases z⟩
    ·by_cases q:j=i
     ·subst q;rw[gU] at e;cases e
     ·rw[fM q] at e;exact R.no0 j b e
    ·by_cases q:j=i
     ·subst q;rw[gU] at e1;cases e1
     ·by_cases q':k=i
      ·subst q';rw[gU] at e2;cases e2
      ·rw[fM q] at e1;rw[fM q'] at e2;exact R.inj j k b e1 e2
    ·by_cases q:j=i
     ·subst q;exact gU
     ·rw[fM q];exact R.out j<|by simpa using hj
    ·by_cases q:j=i
     ·subst q;rw[bP hi] at e;cases e;rw[gU];exact⟨rfl,.ref a,h3,(h4.bI sub).dv na⟩
     ·rw[cp<|eK q] at e;rw[fM q];exact(R.slot j s e).bI sub λ_ _ b _=>tj _
   exact⟨O0,M0,H0,_,_,R2,Ss.go q Go.set⟩
  |_=>exact⟨O0,M0,H0,ow,m,R,q⟩
theorem Xb (h:tS G E (aK i f) W σ H):Wf (tE G E f) (Ep i) W σ H:=by
 refine uX h λO0 M0 H0 ow m R q=>?_;refine⟨O0,M0,H0,ow,m,R.toRel,(Ss.pu R.toRel q).imp (aC.refl _) λd q v H' g' hv=>?_⟩;exact q _ _ _ ((R.mono g').set hv)<|(Go.refl g').trans Go.set
theorem YQ (h:tS G E (cC i f) W σ H):Wf (tN G E f) (Ep i) W σ H:=by
 refine uX h λO0 M0 H0 ow m R q=>?_;refine⟨O0,M0,H0,ow,m,R.toRel,(Ss.pu R.toRel q).imp (aC.refl _) λd q p H' g' n hv=>?_⟩;by_cases hi:i<m.length
 ·rw[if_pos hi] at q;exact q _ _ _ (R.own g' n (R.toRel.M8 n) hv hi)<|Go.own g' n
 ·rw[if_neg hi] at q;exact q.elim
theorem ae1 (hN:X.N.Nodup)(hi:X.N[i]? = some x)(hx:Loc X.env.scope x)(he:FE X E e f)(hs:gX e (some<|.Name x pos') pos.line X.env=pure false:=by rfl)
  (hf:X.fn x=true\/X.env.scope.names.lookup x=some .local:=by first|exact .inl rfl|exact .inr rfl|assumption):FS X E (.Assign [.Name x pos'] e pos) (aK i f):=cB (GX hN hi hx he hs hf) λ_ _ _ h=>Xb h
theorem We (hN:X.N.Nodup)(hi:X.N[i]? = some x)(hx:Loc X.env.scope x)(he:FN X E e f)(hs:gX e (some<|.Name x pos') pos.line X.env=pure false:=by rfl)
  (hf:X.fn x=true\/X.env.scope.names.lookup x=some .local:=by first|exact .inl rfl|exact .inr rfl|assumption):FS X E (.Assign [.Name x pos'] e pos) (cC i f):=cB (GX hN hi hx he hs hf) λ_ _ _ h=>YQ h
theorem Ra (he:FE X E e f)(hs:gX e none pos.line X.env=pure false:=by rfl):FS X E (.Expr e pos) (gEx f):=cB (yO he hs) λW σ H hE=>xq5 hE λO0 M0 H0 ow m R q=>
 ⟨O0,M0,H0,ow,m,R.toRel,(Ss.pu R.toRel q).imp (aC.refl _) λd q v H' g' hv=>q _ _ _ (R.mono g')<|Go.refl g'⟩
theorem dR (he:FE X E e f):FS X E (.Return (some e) pos) (aU f):=cB (Ka he) λW σ H hE=>xq5 hE λO0 M0 H0 ow m R q=>by
 obtain⟨ow',R',g1⟩:=R.let;exact⟨O0,M0,H0,ow',m.let,R'.toRel,(Ss.pu R'.toRel<|Ss.go q g1).imp (aC.refl _) λd q v H' g' hv=>q v ow' σ H' (R'.mono g') (Go.refl g') hv λz=>by cases z⟩
theorem qL (he:FN X E e f):FS X E (.Return (some e) pos) (jc f):=cB (Ka he) λW σ H hE=>xq5 hE λO0 M0 H0 ow m R q=>by
 obtain⟨ow',R',g1⟩:=R.let;exact⟨O0,M0,H0,ow',m.let,R'.toRel,(Ss.pu R'.toRel<|Ss.go q g1).imp (aC.refl _) λd q p H' g' n hv=>
  q _ ow' σ H' (R'.mono g') (Go.refl g') ((hv.bI λb z=>.inl<|.inl z).dv<|R'.toRel.NB n) λ_=>.inl ⟨p,rfl,R'.toRel.M8 n,hv⟩⟩
theorem iY (i:Nat)(hN:X.N[i]? = some x:=by rfl)(hv:Vis X.env.scope x:=by first|exact iS rfl|exact hZ (iS rfl)|exact hZ (hZ rfl))(hd:(x==("__debug__":Str))=false:=by decide)
  (hcd:(x==("__classdict__":Str))=false:=by decide):FS X E (.Return (some<|.Name x pos') pos) (dY i):=cB (Ka<|m8 hN hv hd hcd) λW σ H hE=>xq5 hE λO0 M0 H0 ow m R q=>by
 obtain⟨ow',R',g1⟩:=R.let;unfold dY at q;cases z:m[i]? with
 |none=>rw[z] at q;exact q.elim
 |some s=>
  rw[z] at q;have zl:m.let[i]? = some s.let:=by unfold Me.let;rw[bt,z];rfl
  cases s with
  |fz d=>
   obtain⟨_,v,e,hv⟩:=R'.slot i _ zl;exact⟨v,e,q v ow' σ H R' g1 hv λz=>by cases z⟩
  |ow d=>
   obtain⟨_,v,e,hv⟩:=R'.slot i _ zl;refine iy (R.slot i _ z) λa h1 h2 h3 h4=>?_;rw[h3] at e;cases e;refine⟨_,h3,q _ ow' σ H R' g1 hv λ_=>.inl ⟨a,rfl,h2,h4.bI λb w=>.inl ?_⟩⟩;rcases w with w|w
   ·rcases w with w|⟨j,w⟩
    ·exact .inl w
    ·rcases g1.new j b w with w'|w'
     ·exact w'
     ·have:=R'.mutk b (.inr ⟨j,w⟩)
      rw[w'] at this;rcases this with⟨_,e⟩|⟨_,e⟩|⟨_,e⟩|⟨_,e⟩<;>cases e
   ·rw[w];exact .inr ⟨i,h1⟩
  |_=>exact q.elim
theorem eU (hc:FT X E c ft)(ha:FSs X E sa ga)(hb:FSs X E sb gb):FS X E (.If c sa sb pos) (gIf ft ga gb):=cB (afm hc ha hb) λW σ H hE=>xq5 hE λO0 M0 H0 ow m R q=>
 ⟨O0,M0,H0,ow,m,R.toRel,(Ss.pu R.toRel q).imp (aC.refl _) λb q H' g'=>by
  cases b with
  |true=>rw[if_pos rfl] at q ⊢;exact⟨O0,M0,H0,ow,m,R.mono g',Ss.go q<|Go.refl g'⟩
  |false=>rw[if_neg be] at q ⊢;exact⟨O0,M0,H0,ow,m,R.mono g',Ss.go q<|Go.refl g'⟩⟩
noncomputable def wh (t:Zaf)(b:Zab):Nat->Me->Option (Res<|Fl×Me)
 |0,_=>none
 |n+1,m=>match t m with
  | .ok true=>match b m with
   | .ok (.nx,m')=>wh t b n m'
   | .ok (.ct,m')=>wh t b n m'
   | .ok (.bk,m')=>some<|.ok (.nx,m')
   | .ok (.rt fr d,m')=>some<|.ok (.rt fr d,m')
   | .exc c=>some<|.exc c
   | .stuck=>some .stuck
  | .ok false=>some<|.ok (.nx,m)
  | .exc c=>some<|.exc c
  | .stuck=>some .stuck
theorem UW:∀{n:Nat} {m:Me} {r:Res (Fl×Me)},wh t b n m=some r->wh t b (n+1) m=some r
 |0,_,_,h=>by cases h
 |n+1,m,r,h=>by
  have ih:=@UW t b n;unfold wh at h ⊢;split
  ·rename_i e;rw[e] at h;split
   ·rename_i m' e2;rw[e2] at h;exact ih h
   ·rename_i m' e2;rw[e2] at h;exact ih h
   ·rename_i m' e2;rw[e2] at h;exact h
   ·rename_i fr d m' e2;rw[e2] at h;exact h
   ·rename_i c e2;rw[e2] at h;exact h
   ·rename_i e2;rw[e2] at h;exact h
  ·rename_i e;rw[e] at h;exact h
  ·rename_i e;rw[e] at h;exact h
  ·rename_i e;rw[e] at h;exact h
theorem PQ (h:wh t b n m=some r):∀k,wh t b (n+k) m=some r
 |0=>h
 |k+1=>UW<|PQ h k
open Classical in
def oX (t:Zaf)(b:Zab):Zab:=λm=>
 if h:∃n r,wh t b n m=some r then lT (fA h) else .stuck
theorem U8 (h:oX t b m≠.stuck):∃n,wh t b n m=some (oX t b m):=by
 unfold oX at h ⊢;split at h
 ·rename_i q;rw[dif_pos q];exact⟨_,fA<|fA q⟩
 ·exact absurd rfl h
theorem wF (n:Nat)(h:wh t b n m=some r):oX t b m=r:=by
 unfold oX;have q:∃n r,wh t b n m=some r:=⟨n,r,h⟩;rw[dif_pos q];have z:=fA<|fA q;have a:=PQ z n;have b':=PQ h<|lT q;rw[Nat.add_comm] at b';rw[a] at b';exact dE b'
theorem zz {body:List Stmt}(hp:AK (eB X.prog X.w) X.A X.env X.xe)(hc:FT X E c ft)(hb:FSs X E body g):FS X E (.While c body [] pos) (oX ft g):=cB (Xg hp hc hb) λW σ H hE=>xq5 hE λO0 M0 H0 ow m R q=>by
 obtain⟨n,hn⟩:=U8 (t:=ft) (b:=g) (m:=m) (λz=>by rw[z] at q;exact q);generalize oX ft g m=r at *;refine⟨λn σ' H'=>∃ow' m',cR (gx X) O0 M0 H0 ow' σ' H' m'/\Go O0 ow H ow' H'/\wh ft g n m'=some r,⟨n,ow,m,R,Go.refl<|aC.refl _,hn⟩,?_⟩;rintro n σ1 H1 ⟨ow1,m1,R1,g1,h1⟩;cases n with
 |zero=>cases h1
 |succ n=>
  refine⟨O0,M0,H0,ow1,m1,R1.toRel,?_⟩;unfold wh at h1;cases e:ft m1 with
  |exc c=>
   rw[e] at h1;cases h1;exact λC H' e g'=>q C H' e λb o e n=>g' b o<|R1.keep b o e n
  |stuck=>rw[e] at h1;cases h1;exact q.elim
  |ok t=>
   rw[e] at h1;intro H2 g2;have R2:=R1.mono g2;have G2:=g1.trans<|Go.refl g2;cases t with
   |false=>
    cases h1;rw[if_neg be];exact q _ _ _ R2 G2
   |true=>
    rw[if_pos rfl];have h1:(match g m1 with
     | .ok (.nx,m')=>wh ft g n m'
     | .ok (.ct,m')=>wh ft g n m'
     | .ok (.bk,m')=>some<|.ok (.nx,m')
     | .ok (.rt fr d,m')=>some<|.ok (.rt fr d,m')
     | .exc c=>some<|.exc c
     | .stuck=>some .stuck)=some r:=h1
    refine⟨λσ' H'=>∃ow' m',cR (gx X) O0 M0 H0 ow' σ' H' m'/\Go O0 ow H ow' H'/\wh ft g n m'=some r,λσ' H' z=>⟨n,Nat.lt_succ_self _,z⟩,O0,M0,H0,ow1,m1,R2,?_⟩;cases e2:g m1 with
    |exc c=>rw[e2] at h1;cases h1;exact q
    |stuck=>rw[e2] at h1;cases h1;exact q
    |ok a=>
     obtain⟨f2,m2⟩:=a;rw[e2] at h1;cases f2 with
     |nx=>exact λow' σ' H' R' g'=>⟨ow',m2,R',G2.trans g',h1⟩
     |ct=>exact λow' σ' H' R' g'=>⟨ow',m2,R',G2.trans g',h1⟩
     |bk=>cases h1;exact λow' σ' H' R' g'=>q ow' σ' H' R'<|G2.trans g'
     |rt fr d=>cases h1;exact λv ow' σ' H' R' g'=>q v ow' σ' H' R'<|G2.trans g'
end
def NbP (m m':Me):Prop:=(∀(j:Nat) (d:D),m[j]?≠some (Sl.bw d))->∀(j:Nat) (d:D),m'[j]?≠some (Sl.bw d)
def tG (G:Gx)(k:Nat)(h:Zba):TG:=λv σ H Q=>∃O0 M0 H0 ow m d m',Rel G O0 M0 H0 ow σ H m/\DV G (Ow O0 ow) H v d/\h d m=some m'/\
 ∀ow' σ',Rel G O0 M0 H0 ow' σ' H m'->Go O0 ow H ow' H->NbP m m'->σ'.drop k=σ.drop k->Q σ' H
def tGs (G:Gx)(k:Nat)(h:List D->Me->Option Me):TGs:=λvs σ H Q=>∃O0 M0 H0 ow m ds m',Rel G O0 M0 H0 ow σ H m/\DVs G (Ow O0 ow) H vs ds/\h ds m=some m'/\
 ∀ow' σ',Rel G O0 M0 H0 ow' σ' H m'->Go O0 ow H ow' H->NbP m m'->σ'.drop k=σ.drop k->Q σ' H
abbrev FG (X:Cx)(k:Nat)(tg:Expr)(h:Zba):Prop:=PG X tg<|tG (gx X) k h
abbrev FGs (X:Cx)(k:Nat)(tgs:List Expr)(h:List D->Me->Option Me):Prop:=PGs X tgs<|tGs (gx X) k h
theorem Tv (h:PG X e T)(k:∀v σ H Q,T' v σ H Q->T v σ H Q):PG X e T':=λπ s σ H v u Q I r q=>h π s σ H v u Q I r<|k v σ H Q q
theorem Lk (h:PGs X es T)(k:∀v σ H Q,T' v σ H Q->T v σ H Q):PGs X es T':=λπ s σ H v u Q I r q=>h π s σ H v u Q I r<|k v σ H Q q
noncomputable def hName (i:Nat):Zba:=λd m=>some<|m.set i<|.fz d
noncomputable def dw:List D->Me->Option Me
 |[],m=>some m
 |_,_=>none
noncomputable def aJ (h:Zba)(hs:List D->Me->Option Me):List D->Me->Option Me
 |d::ds,m=>(h d m).bind λm'=>hs ds m'
 |_,_=>none
noncomputable def du (n:Nat)(hs:List D->Me->Option Me):Zba
 | .tup ds,m=>if ds.length=n then hs ds m else none
 |_,_=>none
section
theorem abf (hN:X.N.Nodup)(hi:X.N[i]? = some x)(hx:Loc X.env.scope x)(hk:i<k:=by decide)(hf:X.fn x=true\/X.env.scope.names.lookup x=some .local:=by first|exact .inl rfl|exact .inr rfl|assumption):FG X k (.Name x pos) (hName i):=
 Tv (abU hN hi hx hf) λv σ H Q hE=>xq7 hE λO0 M0 H0 ow m d m' R hv e q=>by
  cases e;refine q _ _ (R.set hv) Go.set (λnb=>Fj nb λ_ z=>by cases z) ?_;rw[List.drop_set,if_pos<|by lia]
theorem Us:FGs X k [] dw:=Lk aaw λvs σ H Q hE=>xq7 hE λO0 M0 H0 ow m ds m' R hv e q=>by
 cases hv with
 |nil=>cases e;exact⟨rfl,q _ _ R (Go.refl<|aC.refl _) id rfl⟩
 |cons a t=>cases e
theorem Et (h1:FG X k e h)(h2:FGs X k es hs)(hst:(kl (e::es) X.env).map (·.2)=ua e X.env::(kl es X.env).map (·.2):=by rfl):FGs X k (e::es) (aJ h hs):=
 Lk (Zw h1 h2 hst) λvs σ H Q hE=>xq7 hE λO0 M0 H0 ow m ds m' R hv e q=>by
  cases hv with
  |nil=>cases e
  | @cons v vs' d ds' a t=>
   have e':(h d m).bind (λm'=>hs ds' m')=some m':=e;cases e1:h d m with
   |none=>rw[e1] at e';cases e'
   |some m1=>
    rw[e1] at e';exact⟨v,vs',rfl,O0,M0,H0,ow,m,d,m1,R,a,e1,λow' σ' R' g' nb hd=>⟨O0,M0,H0,ow',m1,ds',m',R',t.go R.mutk g'.ev,e',λow2 σ2 R2 g2 nb2 hd2=>q ow2 σ2 R2 (g'.trans g2) (λz=>nb2<|nb z)<|hd2.trans hd⟩⟩
theorem Yg (hc:X.calm=true)(h:FGs X k es hs)(hn:(kl es X.env).length=n:=by rfl)(hst:(kl es X.env).findIdx? (·.1)=none:=by rfl):FG X k (.Tuple es j pos) (du n hs):=
 Tv (aec hc h hn hst) λv σ H Q hE=>xq7 hE λO0 M0 H0 ow m d m' R hv e q=>by
  cases d with
  |tup ds=>
   obtain⟨a,xs,rfl,hx,hd⟩:=yt<|.inl hv;have e':(if ds.length=n then hs ds m else none)=some m':=e;by_cases z:ds.length=n
   ·rw[if_pos z] at e';exact⟨a,xs,rfl,hx,by rw[bj hd];exact z,O0,M0,H0,ow,m,ds,m',R,hd,e',q⟩
   ·rw[if_neg z] at e';cases e'
  |_=>cases e
end
def Ai (G:Gx)(J:It)(ds:List D)(P:(Zaa)->Hp->Prop):Prop:=∀O H,P O H->
 (∀i,i<ds.length->J.go i H)/\(∀i x H',i<ds.length->J.yld i H x H'->aC H H'/\∃d,ds[i]? = some d/\DV G O H' x d)/\J.stop ds.length H
def tI (G:Gx)(E:XK)(f:Zad):TI:=λσ H R=>∃O0 M0 H0 ow m,Rel G O0 M0 H0 ow σ H m/\Pu G E (f m) H λds=>∀J H',aC H H'->Ai G J ds (λO H2=>Ev (Ow O0 ow) H' O H2)->R J H'
def tIw (G:Gx)(E:XK)(f:Zad):TI:=λσ H R=>∃O0 M0 H0 ow m,Rel G O0 M0 H0 ow σ H m/\Pu G E (f m) H λds=>∀J H',aC H H'->Ai G J ds (λO H2=>(∀b,O b->Ow O0 ow b\/H' b=none)/\aC H' H2)->R J H'
abbrev FI (X:Cx)(E:XK)(tg e:Expr)(f:Zad):Prop:=PI X tg e<|tI (gx X) E f
abbrev FIw (X:Cx)(E:XK)(tg e:Expr)(f:Zad):Prop:=PI X tg e<|tIw (gx X) E f
theorem mK (h:PI X tg e T)(k:∀σ H R,T' σ H R->T σ H R):PI X tg e T':=λπ s σ H R I q=>h π s σ H R I<|k σ H R q
noncomputable def cg (f:Zae):Zad:=λm=>(f m).bind λd=>match d with
 | .lst ds=>.ok ds
 |_=>.stuck
noncomputable def oU (f:Zae):Zad:=λm=>(f m).bind λd=>match d with
 | .tup ds=>.ok ds
 |_=>.stuck
noncomputable def jo (f:Zad):Zad:=λm=>(f m).bind λd=>match d with
 |[.int j]=>if -(2^62)<=j/\j<2^62 then .ok ((bp j.toNat).map λ(i:Nat)=>D.int i) else .stuck
 |_=>.stuck
noncomputable def Rt (f:Zad):Zad:=λm=>(f m).bind λd=>match d with
 |[.int i,.int j]=>if -(2^62)<=i/\i<2^62/\-(2^62)<=j/\j<2^62 then .ok ((bp (j-i).toNat).map λ(k:Nat)=>D.int<|i+k) else .stuck
 |_=>.stuck
theorem QK (m:∀b,O b->eN (H b))(hl:LstAt G.K O H a xs)(hd:DVs G O H xs ds):Ai G (Itl G.K a) ds (λO' H2=>Ev O H O' H2):=by
 intro O' H2 ev;have hq:SqL G.K H2 a xs:=(zf ev.2 hl).sq;have hd2:=hd.go m ev;have ν:=bj hd;refine⟨λi hi=>⟨xs,xs[i]'(by lia),hq,by simp⟩,λi x H' hi y=>?_,xs,hq,by lia⟩;obtain⟨e,y⟩:=y;subst e;obtain⟨d,h1,h2⟩:=qZ hd2<|y xs hq;exact⟨aC.refl _,d,h1,h2⟩
theorem Zu (m:∀b,O b->eN (H b))(hl:SqL G.K H a xs)(hd:DVs G O H xs ds):Ai G (Itl G.K a) ds (λO' H2=>(∀b,O' b->O b\/H b=none)/\aC H H2):=by
 intro O' H2 ⟨sub,g⟩;have hq:SqL G.K H2 a xs:=Nu hl g;have hd2:=hd.go m ⟨sub,.of g⟩;have ν:=bj hd;refine⟨λi hi=>⟨xs,xs[i]'(by lia),hq,by simp⟩,λi x H' hi y=>?_,xs,hq,by lia⟩;obtain⟨e,y⟩:=y;subst e;obtain⟨d,h1,h2⟩:=qZ hd2<|y xs hq;exact⟨aC.refl _,d,h1,h2⟩
theorem Zb (m:∀b,O b->eN (H b))(hl:SqT G.K H a xs)(hd:DVs G O H xs ds):Ai G (Itt G.K a) ds (λO' H2=>Ev O H O' H2):=by
 intro O' H2 ev;have hq:SqT G.K H2 a xs:=Qe m ev.2 hl;have hd2:=hd.go m ev;have ν:=bj hd;refine⟨λi hi=>⟨xs,xs[i]'(by lia),hq,by simp⟩,λi x H' hi y=>?_,xs,hq,by lia⟩;obtain⟨e,y⟩:=y;subst e;obtain⟨d,h1,h2⟩:=qZ hd2<|y xs hq;exact⟨aC.refl _,d,h1,h2⟩
theorem Ai.weak (h:Ai G J ds (λO' H2=>Ev O H O' H2)):Ai G J ds (λO' H2=>(∀b,O' b->O b\/H b=none)/\aC H H2):=
 λO' H2 ⟨s,g⟩=>h O' H2 ⟨s,.of g⟩
theorem Le {G:Gx}{lo:Int}{n:Nat}{P:(Zaa)->Hp->Prop}:Ai G (Itr lo n) ((bp n).map λ(k:Nat)=>D.int<|lo+k) P:=by
 intro O H _;refine⟨λi hi=>(show i<n by simpa using hi),λi x H' hi y=>?_,by show n<=_;simp⟩;obtain⟨e,y⟩:=y;subst e y;have hi':i<n:=by simpa using hi
 exact⟨aC.refl _,_,by simp[bt,As hi'],.int _⟩
section
variable {X:Cx}{E:XK}{tg e a b:Expr}{f:Zae}{fs:Zad}{p pos:Pos}
theorem qJ (h:FE X E e f):FI X E tg e (cg f):=mK (T9 h) λσ H R hE=>xq5 hE λO0 M0 H0 ow m Re q=>⟨O0,M0,H0,ow,m,Re,q.bind.imp (aC.refl _) λd q v H' g hv=>by
 cases d with
 |lst ds=>
  cases hv with
  |lst hl hd=>exact⟨_,rfl,⟨_,hl.sq⟩,q _ H' g<|QK (Re.mono g).mutk hl hd⟩
 |_=>exact q.elim⟩
theorem adB (h:FE X E e f):FI X E tg e (oU f):=mK (ado h) λσ H R hE=>xq5 hE λO0 M0 H0 ow m Re q=>⟨O0,M0,H0,ow,m,Re,q.bind.imp (aC.refl _) λd q v H' g hv=>by
 cases d with
 |tup ds=>
  cases hv with
  |tup hl hd=>exact⟨_,rfl,⟨_,hl.sq⟩,q _ H' g<|Zb (Re.mono g).mutk hl.sq hd⟩
 |_=>exact q.elim⟩
theorem jH (h:FB X E e f):FIw X E tg e (cg f):=mK (T9 h) λσ H R hE=>xq5 hE λO0 M0 H0 ow m Re q=>⟨O0,M0,H0,ow,m,Re,q.bind.imp (aC.refl _) λd q v H' g hv=>by
 cases d with
 |lst ds=>
  obtain⟨a,xs,rfl,hl,hd⟩:=jr hv;exact⟨a,rfl,⟨_,hl⟩,q _ H' g<|Zu (Re.mono g).mutk hl hd⟩
 |_=>exact q.elim⟩
theorem Qd (h:FI X E tg e fl):FIw X E tg e fl:=mK h λσ H R hE=>xq5 hE λO0 M0 H0 ow m Re q=>⟨O0,M0,H0,ow,m,Re,q.imp (aC.refl _) λds q J H' g hi=>q J H' g hi.weak⟩
theorem HY (hg:Gl X "range")(hm:X.mg "range" = none)(ha:FAB X E [a] fs)(hs:aS [a] X.env=[(false,eval a X.env)]:=by rfl):FI X E tg (.Call (.Name "range" p) [a] [] pos) (jo fs):=
 mK (Vx hg hm ha hs) λσ H R hE=>xq5 hE λO0 M0 H0 ow m Re q=>⟨O0,M0,H0,ow,m,Re,q.bind.imp (aC.refl _) λds q vs H' g hv=>by
  cases hv with
  |nil=>exact q.elim
  | @cons v vs d ds h1 h2=>
   cases h2 with
   |cons _ _=>cases d<;>exact q.elim
   |nil=>
    cases d with
    |int j=>
     cases bR h1;obtain⟨⟨z1,z2⟩,k⟩:=Ih q;refine⟨j,rfl,z1,z2,k _ H' g ?_⟩
     have:=Le (G:=gx X) (lo:=0) (n:=j.toNat) (P:=λO H2=>Ev (Ow O0 ow) H' O H2)
     simpa using this
    |_=>exact q.elim⟩
theorem V0 (hg:Gl X "range")(hm:X.mg "range" = none)(ha:FAB X E [a,b] fs)(hs:aS [a,b] X.env=[(false,eval a X.env),(false,eval b X.env)]:=by rfl)(hs2:aS [b] X.env=[(false,eval b X.env)]:=by rfl):FI X E tg (.Call (.Name "range" p) [a,b] [] pos) (Rt fs):=
 mK (Vw hg hm ha hs hs2) λσ H R hE=>xq5 hE λO0 M0 H0 ow m Re q=>⟨O0,M0,H0,ow,m,Re,q.bind.imp (aC.refl _) λds q vs H' g hv=>by
  split at q
  ·cases hv with
   |cons h1 t=>cases t with
    |cons h2 t=>
     cases t;cases bR h1;cases bR h2;obtain⟨⟨z1,z2,z3,z4⟩,k⟩:=Ih q;exact⟨_,_,rfl,⟨z1,z2,z3,z4⟩,k _ H' g Le⟩
  ·exact q.elim⟩
end
noncomputable def aL (h:Zba)(g:Zab):List D->Zab
 |[],m=>.ok (.nx,m)
 |d::ds,m=>match h d m with
  |none=>.stuck
  |some m1=>match g m1 with
   | .ok (.nx,m2)=>aL h g ds m2
   | .ok (.ct,m2)=>aL h g ds m2
   | .ok (.bk,m2)=>.ok (.nx,m2)
   | .ok (.rt fr v,m2)=>.ok (.rt fr v,m2)
   | .exc c=>.exc c
   | .stuck=>.stuck
def cz (fi:Zad)(h:Zba)(g:Zab):Zab:=λm=>(fi m).bind λds=>aL h g ds m
theorem aeh (hp:AK (eB X.prog X.w) X.A X.env X.xe)(hc:X.calm=true)(hi:FI X E tg iter fi)(hg:FG X k tg h)(hb:FSs X E body g)
  (hs:∀x,iq iter X.env x=pure x:=by intro _;rfl):FS X E (.For tg iter body [] pos) (cz fi h g):=cB (acZ hp hc hi hg hb hs) λW σ H hE=>xq5 hE λO0 M0 H0 ow m R q=>
 ⟨O0,M0,H0,ow,m,R.toRel,(Ss.pu R.toRel q).imp (aC.refl _) λds q J H1 g1 it=>by
  have R1:=R.mono g1;have q1:=Ss.go q<|Go.refl g1;generalize hr:aL h g ds m=r at *;refine⟨λi n σ' H'=>∃ow' m',cR (gx X) O0 M0 H0 ow' σ' H' m'/\Go O0 ow H1 ow' H'/\n=ds.length-i/\i<=ds.length/\aL h g (ds.drop i) m'=r,⟨_,ow,m,R1,Go.refl<|aC.refl _,rfl,f6 _,hr⟩,?_⟩;rintro i n σ2 H2 ⟨ow2,m2,R2,g2,rfl,hi,e2⟩;obtain⟨i1,i2,i3⟩:=it _ H2 g2.ev;by_cases hlt:i<ds.length
  ·refine .inr ⟨i1 i hlt,λσ' H'=>∃ow' m',cR (gx X) O0 M0 H0 ow' σ' H' m'/\Go O0 ow H1 ow' H'/\aL h g (ds.drop<|i+1) m'=r,λσ' H' hE=>by obtain⟨ow',m',R',g',e'⟩:=hE;exact⟨ds.length-(i+1),by lia,ow',m',R',g',rfl,hlt,e'⟩,λx H3 y=>?_⟩;obtain⟨s3,d,hd,dv⟩:=i2 i x H3 hlt y;have ed:ds.drop i=d::ds.drop (i+1):=by
    rw[tw hlt];rw[ax hlt] at hd;cases hd;rfl
   rw[ed] at e2;unfold aL at e2;cases eh:h d m2 with
   |none=>rw[eh] at e2;subst e2;exact q1.elim
   |some m3=>
    rw[eh] at e2;refine⟨O0,M0,H0,ow2,m2,d,m3,(R2.mono s3).toRel,dv,eh,λow' σ' R' g' nb _=>?_⟩;have G3:=(g2.trans<|Go.refl s3).trans g';refine⟨O0,M0,H0,ow',m3,⟨R',nb R2.nb⟩,?_⟩;cases eg:g m3 with
    |exc c=>simp only[eg] at e2;subst e2;exact q1
    |stuck=>simp only[eg] at e2;subst e2;exact q1
    |ok a=>
     obtain⟨f4,m4⟩:=a;simp only[eg] at e2;cases f4 with
     |nx=>exact λow4 σ4 H4 R4 g4=>⟨ow4,m4,R4,G3.trans g4,e2⟩
     |ct=>exact λow4 σ4 H4 R4 g4=>⟨ow4,m4,R4,G3.trans g4,e2⟩
     |bk=>subst e2;exact λow4 σ4 H4 R4 g4=>q1 ow4 σ4 H4 R4<|G3.trans g4
     |rt fr v=>subst e2;exact λv ow4 σ4 H4 R4 g4=>q1 v ow4 σ4 H4 R4<|G3.trans g4
  ·have e:i=ds.length:=by lia
   subst e;rw[List.drop_length] at e2;unfold aL at e2;subst e2;exact .inl ⟨i3,q1 ow2 σ2 H2 R2 g2⟩⟩
noncomputable def Sl.bor:Sl->Sl
 | .ow d=>.bw d
 | .io d=>.bw d
 | .hd _ _ _=>.un
 |s=>s
def cMe (k:Nat)(cap:List Nat)(m:Me):Me:=dA k .un++cap.map λj=>(m.getD j .un).bor
noncomputable def cA (h:Zba)(ft:Zaf)(fe:Zae)(m0:Me):List D->Res (List D)
 |[]=>.ok []
 |d::ds=>match h d m0 with
  |none=>.stuck
  |some m1=>match ft m1 with
   | .ok true=>match fe m1 with
    | .ok y=>match cA h ft fe m0 ds with
     | .ok ys=>.ok (y::ys)
     |_=>.stuck
    |_=>.stuck
   | .ok false=>cA h ft fe m0 ds
   |_=>.stuck
def bC (k:Nat)(cap:List Nat)(fi:Zad)(h:Zba)(ft:Zaf)(fe:Zae):Zae:=λm=>(fi m).bind λds=>
 if ds.length<=av then match cA h ft fe (cMe k cap m) ds with
  | .ok ys=>.ok<|.lst ys
  |_=>.stuck
 else .stuck
abbrev Vy (X:Cx)(E:XK)(ifs:List Expr)(f:Zaf):Prop:=Vf X ifs<|tT (gx X) E f
def cQ:Zaf:=λ_=>.ok true
theorem bO:Vy X E [] cQ:=λπ s σ H Q I hE=>xq5 hE λO0 M0 H0 ow m R q=>ab7 π s σ H Q I<|q H<|aC.refl _
theorem Zn (h:FT X E c f):Vy X E [c] f:=aau h
section
theorem Zm (R:Rel G O0 M0 H0 ow σ H m)(g:aC H H2)(hl:H l=none)(hz:H2 l=some (.lst zs)):
  Rel G (Op (Ow O0 ow) l) (λ_=>False) (λ_=>none) (λ_=>none) (cSt k cap σ) H2 (cMe k cap m):=by
 have sub:∀b,Ow (Op (Ow O0 ow) l) (λ_=>none) b->Ow O0 ow b\/H b=none:=λb z=>by
  rw[yN] at z;exact z.elim .inl λe=>.inr (by rw[e];exact hl)
 have sup:∀b,Ow O0 ow b->Ow (Op (Ow O0 ow) l) (λ_=>none) b:=λb z=>.inl<|.inl z;refine⟨by simp[cSt,cMe],λb o e _=>(by cases e),λb z=>z.elim,λb z=>?_,λi a e=>(by cases e),λi j a e=>(by cases e),λ_ _=>rfl,λi s e=>?_⟩
 ·rw[yN] at z;rcases z with z|z
  ·exact zX g<|R.mutk b z
  ·rw[z,hz];exact .inl ⟨zs,rfl⟩
 ·unfold cMe at e;by_cases hi:i<k
  ·rw[c8 (by simpa using hi),gL,if_pos hi] at e;cases e;rfl
  ·rw[dn (by simp;lia),gE,bt] at e;have eσ:(cSt k cap σ)[i]? = (cap[i-k]?).map λj=>(σ[j]?).join:=by
    unfold cSt;rw[dn (by simp;lia),gE,bt]
   cases ec:cap[i-k]? with
   |none=>rw[ec] at e;cases e
   |some j=>
    rw[ec] at e eσ;rw[eσ];cases ej:m[j]? with
    |none=>
     have:m.getD j .un=.un:=by simp[List.getD,ej]
     rw[iP,this] at e;cases e;rfl
    |some s0=>
     have:m.getD j .un=s0:=by simp[List.getD,ej]
     rw[iP,this] at e;cases e;have z:=R.slot j s0 ej;cases s0 with
     |un=>rfl
     |fz d=>
      obtain⟨_,x,e1,hv⟩:=z;exact⟨rfl,x,by rw[iP,e1];rfl,(hv.bI sub).mono g⟩
     |ow d=>
      refine iy z λa h1 h2 h3 h4=>?_;exact⟨rfl,.ref a,by rw[iP,h3];rfl,.inr ⟨a,rfl,sup a<|.inr ⟨j,h1⟩,(h4.bI sub).mono g⟩⟩
     |io d=>
      refine iy z λa h1 h2 h3 h4=>?_;exact⟨rfl,.ref a,by rw[iP,h3];rfl,.inr ⟨a,rfl,sup a<|.inr ⟨j,h1⟩,(h4.bI sub).mono g⟩⟩
     |bw d=>
      obtain⟨_,x,e1,hv⟩:=z;refine⟨rfl,x,by rw[iP,e1];rfl,?_⟩;rcases hv with hv|⟨a,e2,o,hv⟩
      ·exact .inl<|(hv.bI sub).mono g
      ·exact .inr ⟨a,e2,sup a o,(hv.bI sub).mono g⟩
     |hd w a d=>rfl
theorem J2 (hq:tN (gx X) E (bC k cap fi h ft fe) σ H Q):TJ k cap (tIw (gx X) E fi) (tG (gx X) k h) (tT (gx X) E0 ft) (tE (gx X) E0 fe) σ H Q:=by
 refine uX hq λO0 M0 H0 ow m R q=>?_;refine⟨O0,M0,H0,ow,m,R,q.bind.imp (aC.refl _) λds q J H1 g1 it l hl=>?_⟩;obtain⟨hz,q⟩:=GD q;cases hc:cA h ft fe (cMe k cap m) ds with
 |exc c=>rw[hc] at q;exact q.elim
 |stuck=>rw[hc] at q;exact q.elim
 |ok ys=>
  rw[hc] at q;have hlH:H l=none:=g1.free hl;have mk1:∀b,Op (Ow O0 ow) l b->Ow O0 ow b\/H1 b=none:=λb z=>z.elim .inl λe=>.inr (by rw[e];exact hl);refine⟨λi n zs H'=>n=ds.length-i/\i<=ds.length/\zs.length<=i/\aC H1 H'/\H' l=some (.lst zs)/\∃es rest,DVs (gx X) (Op (Ow O0 ow) l) H' zs es/\cA h ft fe (cMe k cap m) (ds.drop i)=.ok rest/\es++rest=ys,
   ⟨ds.length,by simp,f6 _,aI _,aV hl _,aM,[],ys,.nil,hc,rfl⟩,?_⟩
  rintro i n zs H' ⟨rfl,hi,hzi,g2,hH,es,rest,hes,hcr,hys⟩;obtain⟨i1,i2,i3⟩:=it (Op (Ow O0 ow) l) H' ⟨mk1,g2⟩;by_cases hlt:i<ds.length
  ·refine .inr ⟨i1 i hlt,λx H2 y=>?_⟩;obtain⟨g3,d,hd,dv⟩:=i2 i x H2 hlt y;have ed:ds.drop i=d::ds.drop (i+1):=by
    rw[tw hlt];rw[ax hlt] at hd;cases hd;rfl
   rw[ed] at hcr;unfold cA at hcr;cases eh:h d (cMe k cap m) with
   |none=>rw[eh] at hcr;cases hcr
   |some m1=>
    rw[eh] at hcr;have G2:aC H H2:=(g1.trans g2).trans g3;have R2:=Zm (k:=k) (cap:=cap) (l:=l) (zs:=zs) R G2 hlH<|g3 _ _ hH;refine⟨_,_,_,_,_,d,m1,R2,by rw[yN];exact dv,eh,λow' σ' R' g' nb hdr=>⟨hdr,_,_,_,ow',m1,R',?_⟩⟩;simp only[] at hcr;cases et:ft m1 with
    |exc c=>rw[et] at hcr;cases hcr
    |stuck=>rw[et] at hcr;cases hcr
    |ok t=>
     rw[et] at hcr;intro H3 g4;cases t with
     |false=>
      rw[if_neg be];exact⟨ds.length-(i+1),by lia,rfl,hlt,by lia,(g2.trans g3).trans g4,g4 _ _<|g3 _ _ hH,es,rest,hes.mono<|g3.trans g4,hcr,hys⟩
     |true=>
      rw[if_pos rfl];refine⟨_,_,_,ow',m1,R'.mono g4,?_⟩;simp only[] at hcr;cases ee:fe m1 with
      |exc c=>rw[ee] at hcr;cases hcr
      |stuck=>rw[ee] at hcr;cases hcr
      |ok y'=>
       rw[ee] at hcr;intro v H5 g5 hv;simp only[] at hcr;cases er:cA h ft fe (cMe k cap m) (ds.drop<|i+1) with
       |exc c=>rw[er] at hcr;cases hcr
       |stuck=>rw[er] at hcr;cases hcr
       |ok rest'=>
        rw[er] at hcr;cases hcr;have G5:aC H' H5:=(g3.trans g4).trans g5;have mk5:∀b,Op (Ow O0 ow) l b->eN (H5 b):=λb z=>by
         rcases z with z|z
         ·exact zX (((g1.trans g2).trans G5))<|R.mutk b z
         ·rw[z,G5 _ _ hH];exact .inl ⟨zs,rfl⟩
        have kp5:Kp (Op (Ow O0 ow) l) H5 (upd H5 l<|.lst<|zs++[v]):=λb o e n=>by
         rw[bz<|show b≠l from λz=>n<|.inr z];exact e
        refine⟨G5 _ _ hH,by lia,ds.length-(i+1),by lia,rfl,hlt,by rw[a8,dS];lia,?_,aM,es++[y'],rest',?_,er,by rw[eD];exact hys⟩
        ·exact aaR ((agg<|g2.trans G5).trans acW) hl
        ·exact mq ((hes.mono G5).kp mk5 kp5)<|.cons ((hv.bI λb z=>.inl<|.inl z).kp mk5 kp5) .nil
  ·have e:i=ds.length:=by lia
   subst e;rw[List.drop_length] at hcr;cases hcr;rw[eT] at hys;subst hys;exact .inl ⟨i3,q l H' (g1.trans g2) hlH ⟨zs,hH,hes⟩⟩
section
theorem dC (sc:zd)(N' caps:List Str)(k:Nat)(cap:List Nat)(hcalm:X.calm=true)(S:CSc sc scope caps)(hcap:ko (λj x=>X.N[j]? = some x) cap caps)
  (hi:FIw X E tg iter fi) (hg:∀cl C sE HE fp π,FG (cI X N' scope cl C sE HE fp π) k tg h) (ht:∀cl C sE HE fp π,Vy (cI X N' scope cl C sE HE fp π) E0 ifs ft) (he:∀cl C sE HE fp π,FE (cI X N' scope cl C sE HE fp π) E0 elt fe)
  (hsc:X.env.scope=sc:=by rfl) (hN:N'.drop k=caps:=by rfl) (hk:k<=N'.length:=by decide) (hs:∀x,iq iter X.env x=pure x:=by intro _;rfl):
  FN X E (.ListComp elt [⟨tg,iter,ifs,0⟩] scope pos) (bC k cap fi h ft fe):=aX (aa4 sc N' caps k cap hcalm S hcap hi hg ht he hsc hN hk hs) λ_ _ _ q=>J2 q
theorem xR (sc:zd)(N' caps:List Str)(k:Nat)(cap:List Nat)(hnd:X.N.Nodup)(hi':X.N[i]? = some y)(hy:Loc X.env.scope y)(hcalm:X.calm=true)(S:CSc sc scope caps)(hcap:ko (λj x=>X.N[j]? = some x) cap caps)
  (hi:FIw X E tg iter fi) (hg:∀cl C sE HE fp π,FG (cI X N' scope cl C sE HE fp π) k tg h) (ht:∀cl C sE HE fp π,Vy (cI X N' scope cl C sE HE fp π) E0 ifs ft) (he:∀cl C sE HE fp π,FE (cI X N' scope cl C sE HE fp π) E0 elt fe)
  (μ:gX (.ListComp elt [⟨tg,iter,ifs,0⟩] scope pos) (some<|.Name y py) spos.line X.env=pure true:=by rfl)
  (hsc:X.env.scope=sc:=by rfl) (hN:N'.drop k=caps:=by rfl) (hk:k<=N'.length:=by decide) (hs:∀x,iq iter X.env x=pure x:=by intro _;rfl)
  (hf:X.fn y=true\/X.env.scope.names.lookup y=some .local:=by first|exact .inl rfl|exact .inr rfl|assumption):
  FS X E (.Assign [.Name y py] (.ListComp elt [⟨tg,iter,ifs,0⟩] scope pos) spos) (aK i<|bC k cap fi h ft fe):=
 cB (Em sc N' caps k cap hnd hi' hy hcalm S hcap hi hg ht he μ hsc hN hk hs hf) λW σ H q=>by
  refine J2 (h:=h) (ft:=ft) (fe:=fe) (Q:=λx H1=>Ep i x σ H1 W.nx) ?_;refine uX (Xb q) λO0 M0 H0 ow m R q=>?_;exact⟨O0,M0,H0,ow,m,R,q.imp (aC.refl _) λ_ k p H' g n o=>k _ H' g<|(o.bI λb z=>.inl<|.inl z).dv<|R.NB n⟩
theorem Qi (sc:zd)(N' caps:List Str)(k:Nat)(cap:List Nat)(hnd:X.N.Nodup)(hi':X.N[i]? = some y)(hy:Loc X.env.scope y)(hcalm:X.calm=true)(S:CSc sc scope caps)(hcap:ko (λj x=>X.N[j]? = some x) cap caps)
  (hi:FIw X E tg iter fi) (hg:∀cl C sE HE fp π,FG (cI X N' scope cl C sE HE fp π) k tg h) (ht:∀cl C sE HE fp π,Vy (cI X N' scope cl C sE HE fp π) E0 ifs ft) (he:∀cl C sE HE fp π,FE (cI X N' scope cl C sE HE fp π) E0 elt fe)
  (μ:gX (.ListComp elt [⟨tg,iter,ifs,0⟩] scope pos) (some<|.Name y py) spos.line X.env=pure true:=by rfl)
  (hsc:X.env.scope=sc:=by rfl) (hN:N'.drop k=caps:=by rfl) (hk:k<=N'.length:=by decide) (hs:∀x,iq iter X.env x=pure x:=by intro _;rfl)
  (hf:X.fn y=true\/X.env.scope.names.lookup y=some .local:=by first|exact .inl rfl|exact .inr rfl|assumption):
  FS X E (.Assign [.Name y py] (.ListComp elt [⟨tg,iter,ifs,0⟩] scope pos) spos) (cC i<|bC k cap fi h ft fe):=
 cB (Em sc N' caps k cap hnd hi' hy hcalm S hcap hi hg ht he μ hsc hN hk hs hf) λW σ H q=>J2 (Q:=λx H1=>Ep i x σ H1 W.nx)<|YQ q
end
end
def spF (G:Gx)(Φ:Zac):Sp:=λvs H Q E=>∃O ds,(∀b,O b->eN (H b))/\DVs G O H vs ds/\Pu G E (Φ ds) H λr=>∀v H',aC H H'->DV G O H' v r.2->(r.1=true->Fr G O H v H' r.2)->Q v H'
noncomputable def aH (N n:Nat)(g:Zab):Zac:=λds=>if ds.length=n then match g (ds.map Sl.fz++dA (N-n) Sl.un) with
  | .ok (.rt fr d,_)=>.ok (fr,d)
  | .ok (.nx,_)=>.ok (false,.non)
  | .exc c=>.exc c
  |_=>.stuck
 else .stuck
abbrev FF (P:cS)(w:gu)(K:bq)(mg:Zp)(base:Heap)(k:Nat)(x:Str)(ps:List Str)(Φ:Zac):Prop:=Hd.Fn P w K mg base k x ps<|spF ⟨K,mg⟩ Φ
theorem V5 (hm:∀b,O b->eN (H b))(hd:DVs G O H vs ds)(hn:ds.length=n):
  cR G O (λ_=>False) H (λ_=>none) (L2.start N vs) H (ds.map Sl.fz++dA (N.length-n) Sl.un):=by
 have hl:=bj hd;refine⟨⟨by simp[L2.start,hl,hn],λb o e _=>e,λb z=>z.elim,λb z=>by rw[yN] at z;exact hm b z,λi a e=>(by cases e),λi j a e=>(by cases e),λ_ _=>rfl,λi s e=>?_⟩,λj d e=>?_⟩
 ·by_cases hi:i<ds.length
  ·rw[c8 (by simpa using hi),bt] at e;cases ed:ds[i]? with
   |none=>rw[ed] at e;cases e
   |some d=>
    rw[ed] at e;cases e;obtain⟨x,hx,dx⟩:=yf hd ed;refine⟨rfl,x,?_,by rw[yN];exact dx⟩;unfold L2.start;rw[c8 (by simpa[hl] using hi),bt,hx];rfl
  ·rw[dn (by simp;lia),gL] at e;split at e
   ·cases e;rfl
   ·cases e
 ·by_cases hi:j<ds.length
  ·rw[c8 (by simpa using hi),bt] at e;cases ed:ds[j]? with
   |none=>rw[ed] at e;cases e
   |some d=>rw[ed] at e;cases e
  ·rw[dn (by simp;lia),gL] at e;split at e<;>cases e
section
variable {P:cS}{w:gu}{K:bq}{mg:Zp}{base:Heap}
theorem aZ {x qual:Str}{st:Stmt}{f:Addr}{fd:kK}{N ps:List Str}{k:Nat}{g:Zab}(Fu:Fun K x qual st f fd)(S:aG N ps (az st))
  (hbody:∀(cdv:a9) (A:i7) (outer:List Env) (s:bE) (H:Hp) (E:XK),eE k (A.deeper<|x9 qual (az st) s.heap.objs.size f cdv)->
   FSs (Cy (CX1 P w) P w K mg base N qual (az st) f cdv A outer s H E) E (jQ st) g):rT P w K mg base (CX1 P w) (k+1) f fd ps (spF ⟨K,mg⟩<|aH N.length ps.length g):=by
 refine Q7 Fu S (λvs H Q E h=>?_) λcdv A outer s H vs Q E hr h=>?_
 ·refine wy h λO ds _ hd q=>?_;rw[bj hd];unfold aH at q;exact(GD q).1
 ·refine wy h λO ds hm hd q=>?_;unfold aH at q;obtain⟨hn,q⟩:=GD q;refine⟨_,hbody cdv A outer s H E hr,O,λ_=>False,H,λ_=>none,_,V5 hm hd hn,?_⟩;have sm:∀{ow' σ' H' m'},cR (⟨K,mg⟩:Gx) O (λ_=>False) H ow' σ' H' m'->aC H H':=λR b o e=>R.keep b o e id;cases z:g (ds.map Sl.fz++dA (N.length-ps.length) Sl.un) with
  |exc c=>rw[z] at q;exact λC H' e kp=>q C H' e λb o e=>kp b o e id
  |stuck=>rw[z] at q;exact q.elim
  |ok a=>
   obtain⟨fl,m'⟩:=a;rw[z] at q;cases fl with
   |bk=>exact q.elim
   |ct=>exact q.elim
   |nx=>exact λow' σ' H' R' _=>q _ H' (sm R') .non λz=>by cases z
   |rt fr d=>
    intro v ow' σ' H' R' _ hv hf;refine q v H' (sm R') (hv.bI λb z=>.inl<|.inl z) λz=>?_;rcases hf z with⟨p,e1,e2,e3⟩|t
    ·exact .inl ⟨p,e1,e2,e3.bI λb z=>.inl<|z.elim (λy=>.inl<|.inl y) .inr⟩
    ·exact .inr t
theorem acp {k:Nat}{f:Addr}{fd:kK}{ps:List Str}:rT P w K mg base (CX1 P w) k f fd ps (spF ⟨K,mg⟩ λ_=>.stuck):=
 ⟨λ_ _ _ _ hE=>by obtain⟨_,_,_,_,q⟩:=hE;exact q.elim,λ_ _ _ _ _ _ _ _ _ _ _ _ _ ⟨_,_,_,_,q⟩=>q.elim⟩
end
noncomputable def fFn (Φ:Zac)(fs:Zad):Zae:=λm=>(fs m).bind λds=>(Φ ds).bind λr=>.ok r.2
def Xe (Φ:Zac)(fs:Zad):Zae:=λm=>(fs m).bind λds=>(Φ ds).bind λr=>if(r.1&&!isTup r.2)=true then .ok r.2 else .stuck
section
theorem vY (Fh:FF X.prog X.w X.K X.mg X.base k x ps Φ)(hr:eE j X.A)(hx:Passes (CX1 X.prog X.w) X E)(ha:FAE X E (e::es) fs)(hk:k<=j:=by decide)(hg:Gl X x:=by rfl)
  (hdb:(x==("__debug__":Str))=false:=by decide) (he:aS (e::es) X.env=(false,eval e X.env)::aS es X.env:=by rfl) (υ:(l7 pos<|aS es X.env).any (·.1)=false:=by rfl):
  FE X E (.Call (.Name x p) (e::es) [] pos) (fFn Φ fs):=by
 refine vO Fh.ex λf fd G b kp m=>?_;refine aX (J6 G (hr.mono hk) hg m kp b .nil hx ha hdb he υ) λσ H Q hE=>xq5 hE λO0 M0 H0 ow m R q=>⟨O0,M0,H0,ow,m,R,q.bind.imp (aC.refl _) λds q vs H1 g1 hv=>?_⟩;show spF _ _ (vs++[]) _ _ _;rw[eT];exact⟨_,ds,(R.mono g1).mutk,hv,q.bind.imp g1 λr q v H' g2 hv' _=>q v H' (g1.trans g2) hv'⟩
theorem afw (Fh:FF X.prog X.w X.K X.mg X.base k x ps Φ)(hr:eE j X.A)(hx:Passes (CX1 X.prog X.w) X E)(ha:FAE X E (e::es) fs)(hk:k<=j:=by decide)(hg:Gl X x:=by rfl)
  (hdb:(x==("__debug__":Str))=false:=by decide) (he:aS (e::es) X.env=(false,eval e X.env)::aS es X.env:=by rfl) (υ:(l7 pos<|aS es X.env).any (·.1)=false:=by rfl):
  FN X E (.Call (.Name x p) (e::es) [] pos) (Xe Φ fs):=by
 refine vO Fh.ex λf fd G b kp m=>?_;refine aX (J6 G (hr.mono hk) hg m kp b .nil hx ha hdb he υ) λσ H Q hE=>xq5 hE λO0 M0 H0 ow m R q=>⟨O0,M0,H0,ow,m,R,q.bind.imp (aC.refl _) λds q vs H1 g1 hv=>?_⟩;show spF _ _ (vs++[]) _ _ _;rw[eT];refine⟨_,ds,(R.mono g1).mutk,hv,q.bind.imp g1 λr q v H' g2 hv' fr=>?_⟩;obtain⟨hf,q⟩:=Ih q;obtain⟨hf1,hf2⟩:=Bool.and_eq_true_iff.mp hf;obtain⟨p,rfl,n,o⟩:=(fr hf1).lst (by simpa using hf2);exact q p H' (g1.trans g2) (g1.free n) o
end
def Bg (i:Int):Prop:=i.natAbs<lmM
instance (i:Int):Decidable (Bg i):=inferInstanceAs<|Decidable<|_<_
def Bq (i:Int):Prop:=i.natAbs<lmD
instance (i:Int):Decidable (Bq i):=inferInstanceAs<|Decidable<|_<_
theorem agN (h:i.natAbs<2^60000):Bg i:=by unfold Bg;rw[Yn];exact h
theorem eV (h:i.natAbs<2^8900):Bq i:=by unfold Bq;rw[QC];exact h
@[simp] theorem ahM (h:Bq i):Bg i:=by
 unfold Bq at h;rw[QC] at h;exact agN<|cx h<|ze (by decide)<|by decide
noncomputable def dvI (i j:Int):Int:=if 0<j then i/j else i.fdiv j
noncomputable def mdI (i j:Int):Int:=if 0<j then i%j else i.fmod j
noncomputable def bc:D->D->Option D
 | .int i,.int j=>some<|.int<|i+j
 | .str a,.str b=>if a.length+b.length<=av then some (.str<|a++b) else none
 | .lst a,.lst b=>if a.length+b.length<=av then some (.lst<|a++b) else none
 | .tup a,.tup b=>if a.length+b.length<=av then some (.tup<|a++b) else none
 |_,_=>none
noncomputable def cO:D->D->Option D
 | .int i,.int j=>some<|.int<|i-j
 |_,_=>none
noncomputable def dO:D->D->Option D
 | .int i,.int j=>if Bg i/\Bg j then some (.int<|i*j) else none
 |_,_=>none
def cV:D->D->Option D
 | .int i,.int j=>if j≠0/\Bq j then some (.int<|dvI i j) else none
 |_,_=>none
def aY:D->D->Option D
 | .int i,.int j=>if j≠0 then some (.int<|mdI i j) else none
 |_,_=>none
noncomputable def qj:D->Option D
 | .int i=>some<|.int (-i)
 |_=>none
section
variable {X:Cx}
theorem oif [Decidable c]{α:Type}{a r:α}(h:(if c then some a else none)=some r):c/\a=r:=by simp_all
theorem Sg (I:Inv X π σ H s)(q:∀v H',aC H H'->DV (gx X) O H' v (.str i)->Q v H'):EP X π σ Q (.str i t) { s with toks:=tk }:=
 ⟨.str i,H,I.tok _,⟨t,rfl⟩,q _ _ (aC.refl _)<|.str i⟩
theorem aa6 (I:Inv X π σ H s)(m:∀b,O b->eN (H b))(hd:DVs (gx X) O H xs ds)(r:Vals xs χ)(hz:xs.length<=av)
  (kp:∀b o,s.heap.get? b=some o->h'.get? b=some o) (e:∃n,h'.get? s.heap.objs.size=some { cls:=.type "list",data:=.seq χ.toArray n }) (q:∀p H',aC H H'->H p=none->OV (gx X) (Op O p) H' p (.lst ds)->Q (.ref p) H'):EP X π σ Q (.ref s.heap.objs.size) { s with heap:=h',toks:=tk }:=by
 have hf:H s.heap.objs.size=none:=I.hok.fresh<|aI _;obtain⟨n,e⟩:=e;refine⟨.ref s.heap.objs.size,upd H s.heap.objs.size<|.lst xs,I.laid kp (aI _) ⟨hz,χ,n,r,e⟩,rfl,q _ _ (aV hf _) hf ⟨xs,aM,?_⟩⟩;exact(hd.bI λb z=>z.elim .inl λe=>.inr (by rw[e];exact hf)).mono (aV hf _)
theorem Wq {G:Gx}{O:Zaa}{H:Hp}{r:D}{Q:VK}(m:∀b,O b->eN (H b))(q:∀v H',aC H H'->DV G O H' v r->Q v H'):∀p H',aC H H'->H p=none->OV G (Op O p) H' p r->Q (.ref p) H':=λp H' g n o=>
 q _ H' g ((o.bI λb z=>.inl<|.inl z).dv λz=>by
  have:=m p z
  rw[n] at this;rcases this with⟨_,e⟩|⟨_,e⟩|⟨_,e⟩|⟨_,e⟩<;>cases e)
def agD (G:Gx):R2:=λx y H Q=>∃O ds es,(∀b,O b->eN (H b))/\DW G O H x (.lst ds)/\DW G O H y (.lst es)/\ds.length+es.length<=av/\∀p H',aC H H'->H p=none->OV G (Op O p) H' p (.lst<|ds++es)->Q (.ref p) H'
theorem ZL:OpR X (kd .Add) (agD<|gx X):=by
 intro π s σ H x y v u Q I rx ry h;refine Tt h λO ds es m hx hy hz q=>?_;obtain⟨a,xs,rfl,ha,hd⟩:=jr hx;obtain⟨b,ys,rfl,hb,he⟩:=jr hy;cases rx;cases ry;obtain⟨χ,r1,p1,_⟩:=I.list ha;obtain⟨its2,r2,p2,_⟩:=I.list hb;have l1:=bj hd;have l2:=bj he;have k1:=r1.length;have k2:=r2.length;obtain⟨⟨cls,dd,data,sl⟩,ho,hc,n,hdt⟩:=id p1.isList;obtain⟨⟨cls2,dd2,data2,sl2⟩,ho2,hc2,n2,hd2⟩:=id p2.isList;simp only at hc hdt hc2 hd2;subst hc hdt hc2 hd2;refine ya ⟨_,ho,rfl⟩ ⟨_,ho2,rfl⟩ noFill_list_add seq_list_add PySem.F.slot_list_add PySem.F.entry_list_add (PySem.F.args_list_add_2 _ _) (list_addW a b χ.toArray its2.toArray n n2 dd dd2 sl sl2 (by simp;lia)) ⟨ho,ho2,?_⟩;rw[show χ.toArray++its2.toArray=(χ++its2).toArray by simp];exact aa6 (tk:=s.toks) I m (mq hd he) (r1.append r2) (by rw[a8];lia) (λb o e=>ag _ e) ⟨0,ay _ rfl⟩ q
theorem Y5:OpR X (kd .Add) (λx y H Q=>∃O ds es,DW (gx X) O H x (.tup ds)/\DW (gx X) O H y (.tup es)/\ds.length+es.length<=av/\∀v H',aC H H'->DV (gx X) O H' v (.tup<|ds++es)->Q v H'):=by
 intro π s σ H x y v u Q I rx ry h;refine sW h λO ds es hx hy hz q=>?_;obtain⟨a,xs,rfl,ha,hd⟩:=Dh hx;obtain⟨b,ys,rfl,hb,he⟩:=Dh hy;have l1:=bj hd;have l2:=bj he;by_cases hx0:xs=[]
 ·subst hx0;cases hd;cases rx;cases ry;obtain⟨χ,r1,p1,_⟩:=I.tuple ha.sq;obtain⟨its2,r2,p2,_⟩:=I.tuple hb.sq;cases r1;obtain⟨⟨cls,dd,data,sl⟩,ho,hc,n,hdt⟩:=id p1;obtain⟨⟨cls2,dd2,data2,sl2⟩,ho2,hc2,n2,hd2⟩:=id p2;simp only at hc hdt hc2 hd2;subst hc hdt hc2 hd2;exact ya ⟨_,ho,rfl⟩ ⟨_,ho2,rfl⟩ xi AM pj oC (om _ _)
   (tuple_addW0 a b ([]:List a9).toArray its2.toArray n n2 dd dd2 sl sl2<|by rfl) ⟨ho,ho2,⟨.ref b,H,I,rfl,q _ _ (aC.refl _)<|.tup hb he⟩⟩
 ·refine aar π s σ H _ _ v u Q I rx ry ⟨a,b,xs,ys,rfl,rfl,ha.sq,hb.sq,hx0,by lia,λz=>?_,λz p hp=>?_⟩
  ·subst z;cases he;exact q _ _ (aC.refl _) (by rw[eT];exact .tup ha hd)
  ·exact q _ _ (aV hp _)<|.tup (SqU.of aM)<|(mq hd he).mono<|aV hp _
theorem wB:OpR X (kd .Add) (rG (gx X) bc):=by
 intro π s σ H x y v u Q I rx ry h;refine fQ h λO d e r m hx hy hr q=>?_;unfold bc at hr;split at hr
 ·rename_i i j;cases hr;exact ac5 π s σ H x y v u Q I rx ry ⟨i,j,bR hx,bR hy,q _ _ (aC.refl _)<|.int _⟩
 ·rename_i i j;obtain⟨z,rfl⟩:=oif hr;exact Om π s σ H x y v u Q I rx ry ⟨i,j,lJ hx,lJ hy,z,q _ _ (aC.refl _)<|.str _⟩
 ·rename_i ds es;obtain⟨z,rfl⟩:=oif hr;exact ZL π s σ H x y v u Q I rx ry ⟨O,ds,es,m,hx,hy,z,Wq m q⟩
 ·rename_i ds es;obtain⟨z,rfl⟩:=oif hr;exact Y5 π s σ H x y v u Q I rx ry ⟨O,ds,es,hx,hy,z,q⟩
 ·cases hr
theorem aaa:OpR X (kd .Sub) (rG (gx X) cO):=by
 intro π s σ H x y v u Q I rx ry h;refine fQ h λO d e r m hx hy hr q=>?_;unfold cO at hr;split at hr
 ·rename_i i j;cases hr;exact aeS π s σ H x y v u Q I rx ry ⟨i,j,bR hx,bR hy,q _ _ (aC.refl _)<|.int _⟩
 ·cases hr
theorem ab6:OpR X (kd .Mult) (rG (gx X) dO):=by
 intro π s σ H x y v u Q I rx ry h;refine fQ h λO d e r m hx hy hr q=>?_;unfold dO at hr;split at hr
 ·rename_i i j;obtain⟨z,rfl⟩:=oif hr;exact aac π s σ H x y v u Q I rx ry ⟨i,j,bR hx,bR hy,z,q _ _ (aC.refl _)<|.int _⟩
 ·cases hr
theorem ZD:OpR X (kd .FloorDiv) (rG (gx X) cV):=by
 intro π s σ H x y v u Q I rx ry h;refine fQ h λO d e r m hx hy hr q=>?_;unfold cV at hr;split at hr
 ·rename_i i j;obtain⟨z,rfl⟩:=oif hr;refine Yu π s σ H x y v u Q I rx ry ⟨i,j,bR hx,bR hy,z,?_⟩;have e:i.fdiv j=dvI i j:=by
   unfold dvI;split
   ·rw[ic i<|by lia]
   ·rfl
  show Q (.int<|i.fdiv j) H;rw[e];exact q _ _ (aC.refl _)<|.int _
 ·cases hr
theorem aaQ:OpR X (kd .Mod) (rG (gx X) aY):=by
 intro π s σ H x y v u Q I rx ry h;refine fQ h λO d e r m hx hy hr q=>?_;unfold aY at hr;split at hr
 ·rename_i i j;obtain⟨z,rfl⟩:=oif hr;refine aal π s σ H x y v u Q I rx ry ⟨i,j,bR hx,bR hy,z,?_⟩;have e:i.fmod j=mdI i j:=by
   unfold mdI;split
   ·rw[Int.fmod_eq_emod_of_nonneg i<|by lia]
   ·rfl
  show Q (.int<|i.fmod j) H;rw[e];exact q _ _ (aC.refl _)<|.int _
 ·cases hr
theorem aa8:UnR X (unaryOp .USub) (rG1 (gx X) qj):=by
 intro π s σ H x v Q I rx h;refine sW h λO d r m hx hr q=>?_
 match d,hr with
 | .int i,hr=>
  cases hr;exact adp π s σ H x v Q I rx ⟨i,bR hx,q _ _ (aC.refl _)<|.int _⟩
mutual
def toPy:D->Option xk
 | .non=>some .none
 | .bl b=>some<|.bool b
 | .int i=>some<|.int i
 | .str x=>some<|.str x
 | .tup xs=>(tu xs).map .tuple
 | .lst xs=>(tu xs).map .list
 | .exc _=>none
 | .dct _ _=>none
 | .dcu _ _=>none
 | .adr _=>none
 | .ins _ _ _=>none
 | .dcf _ _=>none
def tu:List D->Option (List xk)
 |[]=>some []
 |d::ds=>(toPy d).bind λp=>(tu ds).map λps=>p::ps
end
mutual
theorem Rh:∀{v:V} {d:D} {p:xk},DV G O H v d->toPy d=some p->Hd.DV G.K H v p
 |_,_,_,.non,e=>by cases e;exact .non
 |_,_,_,.bl b,e=>by cases e;exact .bl b
 |_,_,_,.int i,e=>by cases e;exact .int i
 |_,_,_,.str x,e=>by cases e;exact .str x
 |_,_,_,.exc _ _,e=>by cases e
 |_,_,_,.tup h hs,e=>by
  obtain⟨ps,e1,rfl⟩:=omap (by simpa[toPy] using e);exact .tup h.sq<|Gw hs e1
 |_,_,_,.lst h hs,e=>by
  obtain⟨ps,e1,rfl⟩:=omap (by simpa[toPy] using e);exact .lst h.sq<|Gw hs e1
 |_,_,_,.dct _ _ _ _ _,e=>by cases e
 |_,_,_,.dcu _ _ _ _ _,e=>by cases e
 |_,_,_,.adr _,e=>by cases e
 |_,_,_,.ins _ _ _ _ _ _,e=>by cases e
 |_,_,_,.dcf _ _ _ _,e=>by cases e
theorem Gw:∀{vs:List V} {ds:List D} {ps:List xk},DVs G O H vs ds->tu ds=some ps->Hd.DVs G.K H vs ps
 |_,_,_,.nil,e=>by cases e;exact .nil
 |_,_,_,.cons (d:=d) (ds:=ds) h hs,e=>by
  unfold tu at e;cases e1:toPy d with
  |none=>rw[e1] at e;cases e
  |some p=>
   rw[e1] at e;obtain⟨ps,e2,rfl⟩:=omap e;exact .cons (Rh h e1)<|Gw hs e2
end
theorem qP (h:DW G O H v d)(e:toPy d=some p):Hd.DV G.K H v p:=Rh h.any e
noncomputable def rP (d e:D):Option Bool:=match toPy d,toPy e with
 |some p,some q=>if iO p=true/\iO q=true then some (i8 p q) else none
 |_,_=>none
def gEq:D->D->Option Bool
 | .int i,.int j=>some<|decide<|i=j
 | .str i,.str j=>some<|decide<|i=j
 | .bl i,.bl j=>some<|decide<|i=j
 | .non,.non=>some true
 |d,e=>rP d e
def gNe (d e:D):Option Bool:=(gEq d e).map (!·)
theorem tV (h:rP d e=some b):∃p q,toPy d=some p/\toPy e=some q/\iO p=true/\iO q=true/\i8 p q=b:=by grind[rP]
theorem Hy (h:gEq d e=some b):(∃i j,d=.int i/\e=.int j/\b=decide (i=j))\/(∃i j,d=.str i/\e=.str j/\b=decide (i=j))\/(∃i j,d=.bl i/\e=.bl j/\b=decide (i=j))\/(d=.non/\e=.non/\b=true)\/rP d e=some b:=by
 unfold gEq at h;split at h
 ·cases h;exact .inl ⟨_,_,rfl,rfl,rfl⟩
 ·cases h;exact .inr<|.inl ⟨_,_,rfl,rfl,rfl⟩
 ·cases h;exact .inr<|.inr<|.inl ⟨_,_,rfl,rfl,rfl⟩
 ·cases h;exact .inr<|.inr<|.inr<|.inl ⟨rfl,rfl,rfl⟩
 ·exact .inr<|.inr<|.inr<|.inr h
theorem Pz (hu:X.A.units+64<mE):OpR X (fN .Eq) (rGB (gx X) gEq):=by
 intro π s σ H x y v u Q I rx ry h;refine fQ h λO d e r m hx hy hr q=>?_;rcases Hy hr with⟨i,j,rfl,rfl,rfl⟩|⟨i,j,rfl,rfl,rfl⟩|⟨i,j,rfl,rfl,rfl⟩|⟨rfl,rfl,rfl⟩|h
 ·cases bR hx;cases bR hy;exact S7 π s σ H _ _ v u Q I rx ry ⟨rfl,by simpa using q⟩
 ·cases lJ hx;cases lJ hy;exact S7 π s σ H _ _ v u Q I rx ry ⟨rfl,by simpa using q⟩
 ·cases Tq hx;cases Tq hy;exact S7 π s σ H _ _ v u Q I rx ry ⟨rfl,by simpa using q⟩
 ·cases JM hx;cases JM hy;exact S7 π s σ H _ _ v u Q I rx ry ⟨rfl,by simpa using q⟩
 ·obtain⟨p,p',e1,e2,z1,z2,rfl⟩:=tV h;exact aeu hu π s σ H x y v u Q I rx ry ⟨p,p',qP hx e1,qP hy e2,z1,z2,q⟩
theorem WM (hu:X.A.units+64<mE):OpR X (fN .NotEq) (rGB (gx X) gNe):=by
 intro π s σ H x y v u Q I rx ry h;refine fQ h λO d e r m hx hy hr q=>?_;obtain⟨c,hc,rfl⟩:=omap hr;rcases Hy hc with⟨i,j,rfl,rfl,rfl⟩|⟨i,j,rfl,rfl,rfl⟩|⟨i,j,rfl,rfl,rfl⟩|⟨rfl,rfl,rfl⟩|h
 ·cases bR hx;cases bR hy;exact Tw π s σ H _ _ v u Q I rx ry ⟨rfl,by simpa using q⟩
 ·cases lJ hx;cases lJ hy;exact Tw π s σ H _ _ v u Q I rx ry ⟨rfl,by simpa using q⟩
 ·cases Tq hx;cases Tq hy;exact Tw π s σ H _ _ v u Q I rx ry ⟨rfl,by simpa using q⟩
 ·cases JM hx;cases JM hy;exact Tw π s σ H _ _ v u Q I rx ry ⟨rfl,by simpa using q⟩
 ·obtain⟨p,p',e1,e2,z1,z2,rfl⟩:=tV h;exact adv hu π s σ H x y v u Q I rx ry ⟨p,p',qP hx e1,qP hy e2,z1,z2,q⟩
noncomputable def QG:List D->Option (List Int)
 |[]=>some []
 | .int i::ds=>(QG ds).map (i::·)
 |_::_=>none
theorem Ur:∀{vs:List V} {ds:List D} {ns:List Int},DVs G O H vs ds->QG ds=some ns->vs=ns.map V.int
 |_,_,_,.nil,e=>by cases e;rfl
 |_,_,_,.cons (d:=d) h hs,e=>by
  cases d with
  |int i=>
   obtain⟨ns,e1,rfl⟩:=omap (by simpa[QG] using e);cases h;rw[Ur hs e1];rfl
  |_=>cases e
noncomputable def gLt:D->D->Option Bool
 | .int i,.int j=>some<|decide<|i<j
 |_,_=>none
noncomputable def gGt:D->D->Option Bool
 | .int i,.int j=>some<|decide<|j<i
 |_,_=>none
noncomputable def gGe:D->D->Option Bool
 | .int i,.int j=>some<|decide<|j<=i
 |_,_=>none
theorem Xj (hu:X.A.units+64<mE):OpR X (fN .Lt) (rGB (gx X) gLt):=by
 intro π s σ H x y v u Q I rx ry h;refine fQ h λO d e r m hx hy hr q=>?_;unfold gLt at hr;split at hr
 ·rename_i i j;cases hr;exact afy π s σ H x y v u Q I rx ry ⟨i,j,bR hx,bR hy,q⟩
 ·cases hr
theorem Wt:OpR X (fN .Gt) (rGB (gx X) gGt):=by
 intro π s σ H x y v u Q I rx ry h;refine fQ h λO d e r m hx hy hr q=>?_;unfold gGt at hr;split at hr
 ·rename_i i j;cases hr;exact afk π s σ H x y v u Q I rx ry ⟨i,j,bR hx,bR hy,q⟩
 ·cases hr
theorem Ye:OpR X (fN .GtE) (rGB (gx X) gGe):=by
 intro π s σ H x y v u Q I rx ry h;refine fQ h λO d e r m hx hy hr q=>?_;unfold gGe at hr;split at hr
 ·rename_i i j;cases hr;exact afr π s σ H x y v u Q I rx ry ⟨i,j,bR hx,bR hy,q⟩
 ·cases hr
end
section
variable {X:Cx}{E:XK}{e a b:Expr}{es:List Expr}{f fa:Zae}{fs:Zad}{pos p:Pos}
noncomputable def gIx:D->D->Option D
 | .lst ds,.int i=>atI ds i
 | .tup ds,.int i=>atI ds i
 | .str z,.int i=>if z.length<=av then(atI z.cps.toList i).map λc=>.str ⟨#[c]⟩ else none
 |_,_=>none
theorem Tz {G:Gx}{O:Zaa}{H:Hp}{xs:List V}{ds:List D}{i:Int}{d:D}(h:DVs G O H xs ds)(e:atI ds i=some d):∃x,atI xs i=some x/\DV G O H x d:=by
 unfold atI at e ⊢;rw[bj h];cases q:ixN ds.length i with
 |none=>rw[q] at e;cases e
 |some j=>rw[q] at e;exact yf h e
theorem ahv:IxR X (rG (gx X) gIx):=by
 intro value slice π s σ H x y v u Q I rx ry h hs;refine fQ h λO d e r m hx hy hr q=>?_
 match d,e,hr with
 | .lst ds,.int i,hr=>
  cases bR hy;obtain⟨p,xs,rfl,hp,hd⟩:=jr hx;obtain⟨z,hz,dz⟩:=Tz hd hr;exact ZQ value slice π s σ H _ _ v u Q I rx ry ⟨p,xs,i,z,rfl,rfl,hp,hz,q _ _ (aC.refl _) dz⟩ hs
 | .tup ds,.int i,hr=>
  cases bR hy;obtain⟨p,xs,rfl,hp,hd⟩:=yt hx;obtain⟨z,hz,dz⟩:=Tz hd hr;exact ad5 value slice π s σ H _ _ v u Q I rx ry ⟨p,xs,i,z,rfl,rfl,hp,hz,q _ _ (aC.refl _) dz⟩ hs
 | .str z,.int i,hr=>
  cases bR hy;cases lJ hx;have hr':(if z.length<=av then(atI z.cps.toList i).map λc=>D.str ⟨#[c]⟩ else none)=some r:=hr;by_cases hz:z.length<=av
  ·rw[if_pos hz] at hr';obtain⟨c,hc,rfl⟩:=omap hr';exact aeA value slice π s σ H _ _ v u Q I rx ry ⟨z,i,c,rfl,rfl,hz,hc,q _ _ (aC.refl _)<|.str _⟩ hs
  ·rw[if_neg hz] at hr';cases hr'
def tO (G:Gx)(E:XK)(f:Me->Res (Option Int)):TO:=λσ H Q=>∃O0 M0 H0 ow m,Rel G O0 M0 H0 ow σ H m/\Pu G E (f m) H λo=>∀H',aC H H'->Q o H'
abbrev FO (X:Cx)(E:XK)(e:Option Expr)(f:Me->Res (Option Int)):Prop:=PO X e<|tO (gx X) E f
theorem Ug {e:Option Expr}{T T':TO}(h:PO X e T)(k:∀σ H Q,T' σ H Q->T σ H Q):PO X e T':=λπ s σ H Q I q=>h π s σ H Q I<|k σ H Q q
noncomputable def fO0:Me->Res (Option Int):=λ_=>.ok none
noncomputable def fO1 (f:Zae):Me->Res (Option Int):=λm=>(f m).bind λd=>match d with
 | .int i=>.ok<|some i
 |_=>.stuck
theorem Jr:FO X E none fO0:=Ug aav λσ H Q hE=>xq5 hE λO0 M0 H0 ow m R q=>q H<|aC.refl _
theorem zO (h:FB X E e f):FO X E (some e) (fO1 f):=Ug (aby h) λσ H Q hE=>xq5 hE λO0 M0 H0 ow m R q=>⟨O0,M0,H0,ow,m,R,q.bind.imp (aC.refl _) λd q v H' g hv=>by
 cases d with
 |int i=>cases bR hv;exact⟨i,rfl,q H' g⟩
 |_=>exact q.elim⟩
def cut {α:Type}(xs:List α)(lo hi:Option Int):List α:=(xs.drop<|HT.sIx xs.length 0 lo).take<|HT.sIx xs.length xs.length hi-HT.sIx xs.length 0 lo
def gSl:D->Option Int->Option Int->Option D
 | .lst ds,lo,hi=>some<|.lst<|cut ds lo hi
 | .tup ds,lo,hi=>if HT.sIx ds.length 0 lo=0/\HT.sIx ds.length ds.length hi=ds.length then none else some (.tup<|cut ds lo hi)
 | .str z,lo,hi=>if z.length<=av then some (.str<|yk z lo hi) else none
 |_,_,_=>none
def rSl (G:Gx):V->Option Int->Option Int->Hp->VK->Prop:=λx lo hi H Q=>∃O d r,(∀b,O b->eN (H b))/\DW G O H x d/\gSl d lo hi=some r/\∀v H',aC H H'->DV G O H' v r->Q v H'
noncomputable def ahm:D->Option Int->Option Int->Option D
 | .lst ds,lo,hi=>some<|.lst<|cut ds lo hi
 |_,_,_=>none
def ahr (G:Gx):V->Option Int->Option Int->Hp->VK->Prop:=λx lo hi H Q=>∃O d r,(∀b,O b->eN (H b))/\DW G O H x d/\ahm d lo hi=some r/\∀p H',aC H H'->H p=none->OV G (Op O p) H' p r->Q (.ref p) H'
theorem RK {G:Gx}{O:Zaa}{H:Hp}{xs:List V}{ds:List D}{lo hi:Option Int}(h:DVs G O H xs ds):DVs G O H (MF xs lo hi) (cut ds lo hi):=by
 unfold MF cut;rw[bj h];exact G4 _<|NT _ h
theorem afn:SlR X (ahr<|gx X):=by
 intro π s σ H x v vl vu lo hi sl Q I rx hs pl pu h;refine sW h λO d r m hx hr q=>?_
 match d,hr with
 | .lst ds,hr=>
  cases hr;obtain⟨p,xs,rfl,hp,hd⟩:=jr hx;exact ab3 π s σ H _ v vl vu lo hi sl Q I rx hs pl pu ⟨p,xs,rfl,hp,λp hp'=>q p _ (aV hp' _) hp' ⟨_,aM,((RK hd).bI λb z=>z.elim .inl λe=>.inr (by rw[e];exact hp')).mono<|aV hp' _⟩⟩
theorem Wl {u:a9}{o:Option Int}(h:A8 u o):∃l:Option (Int×Tok),u=partValue l/\l.map (·.1)=o:=by
 cases h with
 |none=>exact⟨none,rfl,rfl⟩
 |int i t=>exact⟨some (i,t),rfl,rfl⟩
theorem ahB:SlR X (rSl<|gx X):=by
 intro π s σ H x v vl vu lo hi sl Q I rx hs pl pu h;refine sW h λO d r m hx hr q=>?_
 match d,hr with
 | .lst ds,hr=>exact afn π s σ H x v vl vu lo hi sl Q I rx hs pl pu ⟨O,.lst ds,r,m,hx,hr,Wq m q⟩
 | .tup ds,hr=>
  obtain⟨p,xs,rfl,hp,hd⟩:=yt hx;have hr':(if HT.sIx ds.length 0 lo=0/\HT.sIx ds.length ds.length hi=ds.length then none else some (D.tup<|cut ds lo hi))=some r:=hr;by_cases z:HT.sIx ds.length 0 lo=0/\HT.sIx ds.length ds.length hi=ds.length
  ·rw[if_pos z] at hr';cases hr'
  ·rw[if_neg z] at hr';cases hr';exact aeY π s σ H _ v vl vu lo hi sl Q I rx hs pl pu ⟨p,xs,rfl,hp,by rw[bj hd];exact z,λp hp'=>q _ _ (aV hp' _)<|.tup (SqU.of aM)<|(RK hd).mono<|aV hp' _⟩
 | .str z,hr=>
  cases lJ hx;obtain⟨t,rfl⟩:=rx;obtain⟨hz,rfl⟩:=oif hr;obtain⟨l,rfl,rfl⟩:=Wl pl;obtain⟨u,rfl,rfl⟩:=Wl pu;refine⟨"str",_,PySem.F.slot_str_getitem.lookup,uu _ _ _,wpAny_getItem_str_slice (l:=l) (u:=u) (st:=none) hs rfl<|post_val_or_str ⟨gz (Txt.slice_le z _ _) hz,λt' k=>Sg (tk:=k) I q⟩⟩
def fSl (f:Zae)(lo hi:Me->Res (Option Int)):Zae:=λm=>(f m).bind λd=>(lo m).bind λl=>(hi m).bind λu=>ofO<|gSl d l u
variable {lo hi:Option Expr}{fl fh:Me->Res (Option Int)}{p2:Pos}
theorem zr (he:FB X E e f)(hl:FO X E lo fl)(hu:FO X E hi fh):FE X E (.Subscript e (.Slice lo hi none p2) pos) (fSl f fl fh):=
 aX (Wh ahB he hl hu) λσ H Q hE=>xq5 hE λO0 M0 H0 ow m R q=>⟨O0,M0,H0,ow,m,R,q.bind.imp (aC.refl _) λd q v H1 g1 hv=>⟨O0,M0,H0,ow,m,R.mono g1,q.bind.imp g1 λl q H2 g2=>⟨O0,M0,H0,ow,m,R.mono<|g1.trans g2,q.bind.imp (g1.trans g2) λu q H3 g3=>by
  obtain⟨r,hr,k⟩:=q.ofO;exact⟨_,d,r,(R.mono<|(g1.trans g2).trans g3).mutk,hv.mono<|g2.trans g3,hr,λv H' g d=>k v H' (((g1.trans g2).trans g3).trans g) d⟩⟩⟩⟩
noncomputable def cu:List D->Option D
 |[.lst ds]=>some<|.int ds.length
 |[.tup ds]=>some<|.int ds.length
 |[.str z]=>if z.length<=av then some (.int z.length) else none
 |[.dct ks _]=>some<|.int ks.length
 |_=>none
theorem xx {G:Gx}{O:Zaa}{H:Hp}{vs:List V}{d:D}(h:DWs G O H vs [d]):∃v,vs=[v]/\DW G O H v d:=by
 cases h with
 |cons a t=>cases t;exact⟨_,rfl,a⟩
theorem Vb:lC X (.builtin "len") (λxs H Q=>∃a ι,xs=[V.ref a]/\Rd H a (.dK ι)/\Q (.int ι.length) H):=by
 intro π s σ H xs us Q I r h;obtain⟨a,ι,rfl,e,q⟩:=h;obtain⟨u,rfl,rx⟩:=vals1 r;cases rx;exact agI I e λt s' I'=>⟨.int ι.length,H,I',⟨t,rfl⟩,q⟩
theorem IK:lC X (.builtin "len") (rGC (gx X) cu):=by
 intro π s σ H xs us Q I r h;refine sW h λO ds d m hx hr q=>?_
 match ds,hr with
 |[.lst ds],hr=>
  cases hr;obtain⟨v,rfl,hv⟩:=xx hx;obtain⟨p,xs,rfl,hp,hd⟩:=jr hv;exact zB π s σ H _ us Q I r ⟨p,xs,rfl,.inl hp,by rw[bj hd];exact q _ _ (aC.refl _)<|.int _⟩
 |[.tup ds],hr=>
  cases hr;obtain⟨v,rfl,hv⟩:=xx hx;obtain⟨p,xs,rfl,hp,hd⟩:=yt hv;exact zB π s σ H _ us Q I r ⟨p,xs,rfl,.inr hp,by rw[bj hd];exact q _ _ (aC.refl _)<|.int _⟩
 |[.str z],hr=>
  obtain⟨hz,rfl⟩:=oif hr;obtain⟨v,rfl,hv⟩:=xx hx;cases lJ hv;exact J7 π s σ H _ us Q I r ⟨z,rfl,hz,q _ _ (aC.refl _)<|.int _⟩
 |[.dct ks vs],hr=>
  cases hr;obtain⟨v,rfl,hv⟩:=xx hx;obtain⟨p,ι,ws,rfl,hp,e1,e2,hd⟩:=Bm hv;exact Vb π s σ H _ us Q I r ⟨p,ι,rfl,hp,by rw[show ι.length=ks.length by rw[← e1,cm]];exact q _ _ (aC.refl _)<|.int _⟩
noncomputable def Oo:List D->Option D
 |[.int i]=>some<|.int<|if i<0 then -i else i
 |_=>none
theorem VG:lC X (.builtin "abs") (rGC (gx X) Oo):=by
 intro π s σ H xs us Q I r h;refine sW h λO ds d m hx hr q=>?_
 match ds,hr with
 |[.int i],hr=>
  cases hr;obtain⟨v,rfl,hv⟩:=xx hx;cases bR hv;exact W9 π s σ H _ us Q I r ⟨i,rfl,q _ _ (aC.refl _)<|.int _⟩
noncomputable def cH:List D->Option D
 |[.lst ds]=>some<|.tup ds
 |[.tup ds]=>some<|.tup ds
 |_=>none
theorem fH:lC X (.type "tuple") (rGC (gx X) cH):=by
 intro π s σ H xs us Q I r h;refine sW h λO ds d m hx hr q=>?_
 match ds,hr with
 |[.lst ds],hr=>
  cases hr;obtain⟨v,rfl,hv⟩:=xx hx;obtain⟨p,xs,rfl,hp,hd⟩:=jr hv;exact wN π s σ H _ us Q I r ⟨p,xs,rfl,.inl ⟨hp,λl hl=>q _ _ (aV hl _)<|.tup (SqU.of aM)<|hd.mono<|aV hl _⟩⟩
 |[.tup ds],hr=>
  cases hr;obtain⟨v,rfl,hv⟩:=xx hx;obtain⟨p,xs,rfl,hp,hd⟩:=Dh hv;exact wN π s σ H _ us Q I r ⟨p,xs,rfl,.inr ⟨hp.sq,q _ _ (aC.refl _)<|.tup hp hd⟩⟩
noncomputable def uN:List D->Option D
 |[.lst ds]=>some<|.lst ds
 |[.tup ds]=>some<|.lst ds
 |_=>none
theorem pX:lC X (.type "list") (aeF (gx X) uN):=by
 intro π s σ H xs us Q I r h;refine sW h λO ds d m hx hr q=>?_;have go:∀{p:Addr} {ys:List V} {ds:List D},(SqL X.K H p ys\/SqT X.K H p ys)->DVs (gx X) O H ys ds->(∀p H',aC H H'->H p=none->OV (gx X) (Op O p) H' p (.lst ds)->Q (.ref p) H')->Vals [V.ref p] us->b9 (eB X.prog X.w) X.A (call (.type "list") us) (EP X π σ Q) X.xe s:=
  λhp hd q r=>Kw π s σ H _ us Q I r ⟨_,_,rfl,hp,λl hl=>q _ _ (aV hl _) hl ⟨_,aM,(hd.bI λb z=>z.elim .inl λe=>.inr (by rw[e];exact hl)).mono<|aV hl _⟩⟩
 match ds,hr with
 |[.lst ds],hr=>
  cases hr;obtain⟨v,rfl,hv⟩:=xx hx;obtain⟨p,xs,rfl,hp,hd⟩:=jr hv;exact go (.inl hp) hd q r
 |[.tup ds],hr=>
  cases hr;obtain⟨v,rfl,hv⟩:=xx hx;obtain⟨p,xs,rfl,hp,hd⟩:=yt hv;exact go (.inr hp) hd q r
noncomputable def qz:D->String
 | .non=>"NoneType"
 | .bl _=>"bool"
 | .int _=>"int"
 | .str _=>"str"
 | .tup _=>"tuple"
 | .lst _=>"list"
 | .dct _ _=>"dict"
 | .dcu _ _=>"dict"
 | .exc _=>""
 | .dcf _ _=>""
 | .adr _=>""
 | .ins _ _ _=>""
noncomputable def aft (t T:String):Bool:=t==T||(t=="bool" && T=="int")
noncomputable def kinds:List String:=["NoneType", "bool", "int", "str", "tuple", "list", "dict"]
theorem abX {K:bq}{t:String}:BB K (.type t) (.type t)=some true:=by unfold BB;rw[if_pos<|by simp]
theorem ZK {K:bq}:∀t∈kinds,∀T∈kinds,BB K (.type t) (.type T)=some (aft t T):=by
 intro t ht T hT;simp only[kinds,aE,List.not_mem_nil,or_false] at ht hT;rcases ht with rfl|rfl|rfl|rfl|rfl|rfl|rfl<;>rcases hT with rfl|rfl|rfl|rfl|rfl|rfl|rfl<;>first|exact abX|kernel_rfl
theorem Xl {G:Gx}{O:Zaa}{H:Hp}{v:V}{d:D}(h:DW G O H v d)(n:qz d≠""):qz d∈kinds/\TyK G.K H v (.type<|qz d):=by
 have z:=h.any;cases z with
 |non=>exact⟨by simp[qz,kinds],.of .non⟩
 |bl b=>exact⟨by simp[qz,kinds],.of<|.bl b⟩
 |int b=>exact⟨by simp[qz,kinds],.of<|.int b⟩
 |str b=>exact⟨by simp[qz,kinds],.of<|.str b⟩
 |exc _ _=>exact absurd rfl n
 |dcf _ _ _ _=>exact absurd rfl n
 |adr _=>exact absurd rfl n
 |ins _ _ _ _ _ _=>exact absurd rfl n
 |tup hq _=>exact⟨by simp[qz,kinds],.tup hq.sq⟩
 |lst hq _=>exact⟨by simp[qz,kinds],.lst hq.sq⟩
 |dct _ e _ _ _=>exact⟨by simp[qz,kinds],.of<|.dK e⟩
 |dcu _ e _ _ _=>exact⟨by simp[qz,kinds],.of<|.dT e⟩
def Cr (T:String)(f:Zae):Zae:=λm=>(f m).bind λd=>if qz d = "" then .stuck else .ok (.bl<|aft (qz d) T)
theorem yc {x y:Str}{py:Pos}{T:String}(ha:FB X E a fa)(hg:Gl X "isinstance")(hm:X.mg "isinstance" = none)(hv:dQ "isinstance" = some (.builtin "isinstance"))(hgy:Gl X y)(hmy:X.mg y=none)(hvy:dQ y=some (.type T))(hT:T∈kinds:=by decide)
  (hny:y≠"__name__":=by decide) (hdy:(y==("__debug__":Str))=false:=by decide)
  (he:aS [a,.Name y py] X.env=(false,eval a X.env)::aS [.Name y py] X.env:=by rfl) (he2:aS [.Name y py] X.env=(false,eval (.Name y py) X.env)::aS [] X.env:=by rfl) (υ:(l7 pos<|aS [.Name y py] X.env).any (·.1)=false:=by rfl):
  FE X E (.Call (.Name "isinstance" p) [a,.Name y py] [] pos) (Cr T fa):=
 aX (Ml Vn hg hm hv (lQ ha (lQ (aay (v:=.ty T) hgy hmy hvy rfl hny hdy) vD he2) he) (by decide) (by decide) he υ) λσ H Q hE=>xq5 hE λO0 M0 H0 ow m R q=>⟨O0,M0,H0,ow,m,R,q.bind.imp (aC.refl _) λd q v H' g hv=>by
  by_cases n:qz d = ""
  ·rw[if_pos n] at q;exact q.elim
  ·rw[if_neg n] at q;obtain⟨k1,k2⟩:=Xl hv n;exact⟨v,.ty T,_,_,_,rfl,rfl,k2,ZK _ k1 T hT,q _ _ g<|.bl _⟩⟩
end
section
theorem cR.chg (R:cR G O0 M0 H0 ow σ H m)(ho:ow i=some a)(g:Kp (· = a) H H')(h:OV G (Ow O0 ow) H' a d')
  (hs:(m[i]? = some (.ow d)/\s'=.ow d')\/(m[i]? = some (.io d)/\s'=.io d')):cR G O0 M0 H0 ow σ H' (m.set i s'):=by
 have oa:Ow O0 ow a:=.inr ⟨i,ho⟩;have kp:Kp (Ow O0 ow) H H':=λb u e n=>g b u e λz=>n<|z▸oa;have hi:i<m.length:=by rcases hs with⟨e,_⟩|⟨e,_⟩<;>exact vH e
 have ne:∀b o,H b=some o->b≠a->H' b=H b:=λb o e n=>by rw[e];exact g b o e n
 refine⟨⟨by simp[R.len],λb u e n=>?_,λb z=>?_,λb z=>?_,R.no0,R.inj,λj hj=>R.out j (by simpa using hj),λj s e=>?_⟩,Fj R.nb λ_ z=>by rcases hs with⟨_,w⟩|⟨_,w⟩<;>(rw[w] at z;cases z)⟩
 ·refine g b u (R.keep b u e n) λz=>?_;subst z;rcases hs with⟨q,_⟩|⟨q,_⟩
  ·obtain⟨a',e1,e2,_⟩:=R.slot i _ q;rw[ho] at e1;cases e1;rw[e2] at e;cases e
  ·obtain⟨a',e1,e2,_⟩:=R.slot i _ q;rw[ho] at e1;cases e1;exact n e2
 ·by_cases q:b=a
  ·rw[q]
   have:=h.mut
   intro w;rw[w] at this;rcases this with⟨_,e⟩|⟨_,e⟩|⟨_,e⟩|⟨_,e⟩<;>cases e
  ·cases w:H b with
   |none=>exact absurd w (R.m0 b z)
   |some o=>rw[g b o w q];simp
 ·by_cases q:b=a
  ·rw[q];exact h.mut
  ·have:=R.mutk b z
   rcases this with⟨_,e⟩|⟨_,e⟩|⟨_,e⟩|⟨_,e⟩
   ·rw[ne b _ e q];exact .inl ⟨_,e⟩
   ·rw[ne b _ e q];exact .inr<|.inl ⟨_,e⟩
   ·rw[ne b _ e q];exact .inr<|.inr<|.inl ⟨_,e⟩
   ·rw[ne b _ e q];exact .inr<|.inr<|.inr ⟨_,e⟩
 ·by_cases q:j=i
  ·subst q;rw[bP hi] at e;cases e;rcases hs with⟨q,rfl⟩|⟨q,rfl⟩
   ·refine iy (R.slot j _ q) λa' e1 e2 e3 _=>?_;rw[ho] at e1;cases e1;exact⟨a,ho,e2,e3,h⟩
   ·refine iy (R.slot j _ q) λa' e1 e2 e3 _=>?_;rw[ho] at e1;cases e1;exact⟨a,ho,e2,e3,h⟩
  ·rw[cp<|eK q] at e;have z:=R.slot j s e;have other:∀{b:Addr} {d:D},ow j=some b->OV G (Ow O0 ow) H b d->OV G (Ow O0 ow) H' b d:=λ{b d} e1 h1=>by
    have nb:b≠a:=λw=>q<|R.inj j i b e1<|w▸ho;rcases h1.mut with⟨_,e⟩|⟨_,e⟩|⟨_,e⟩|⟨_,e⟩<;>exact h1.kp R.mutk kp (ne b _ e nb)
   cases s with
   |un=>exact z
   |fz d=>obtain⟨b,x,e,q⟩:=z;exact⟨b,x,e,q.kp R.mutk kp⟩
   |ow d=>obtain⟨b,x,e,f,q'⟩:=z;exact⟨b,x,e,f,other x q'⟩
   |io d=>obtain⟨b,x,e,f,q'⟩:=z;exact⟨b,x,e,f,other x q'⟩
   |bw d=>exact(R.nb j d e).elim
   |hd w b d=>obtain⟨x,e,f,q'⟩:=z;exact⟨x,e,f,other x q'⟩
theorem Go.chg (ho:ow i=some a)(g:Kp (· = a) H H')(h:OV G (Ow O0 ow) H' a d):Go O0 ow H ow H':=
 ⟨λb u e n=>g b u e λz=>n<|z▸.inr ⟨i,ho⟩,λj b e=>.inl<|.inr ⟨j,e⟩,λb n=>by
  by_cases q:b=a
  ·rw[q]
   have:=h.mut
   intro w;rw[w] at this;rcases this with⟨_,e⟩|⟨_,e⟩|⟨_,e⟩|⟨_,e⟩<;>cases e
  ·cases w:H b with
   |none=>exact absurd w n
   |some o=>rw[g b o w q];simp⟩
theorem qb:Kp (· = a) H (L2.upd H a o):=λb u e n=>by rw[L2.bz n];exact e
noncomputable def kY (m:Me)(i:Nat):Option (Bool×List D):=match m[i]? with
 |some (.ow<|.lst ds)=>some (true,ds)
 |some (.io<|.lst ds)=>some (false,ds)
 |_=>none
noncomputable def putL (m:Me)(i:Nat)(k:Bool)(ds:List D):Me:=m.set i<|if k then .ow (.lst ds) else .io (.lst ds)
theorem uM (R:Rel G O0 M0 H0 ow σ H m){i:Nat}{k:Bool}{ds:List D}(e:kY m i=some (k,ds)):∃a xs,ow i=some a/\σ[i]? = some (some<|.ref a)/\H a=some (.lst xs)/\DVs G (Ow O0 ow) H xs ds/\((m[i]? = some (.ow<|.lst ds)/\k=true)\/(m[i]? = some (.io<|.lst ds)/\k=false)):=by
 unfold kY at e;split at e
 ·rename_i q;cases e;obtain⟨a,e1,e2,e3,xs,e4,e5⟩:=R.slot i _ q;exact⟨a,xs,e1,e3,e4,e5,.inl ⟨q,rfl⟩⟩
 ·rename_i q;cases e;obtain⟨a,e1,e2,e3,xs,e4,e5⟩:=R.slot i _ q;exact⟨a,xs,e1,e3,e4,e5,.inr ⟨q,rfl⟩⟩
 ·cases e
theorem cR.put (R:cR G O0 M0 H0 ow σ H m)(ho:ow i=some a)(hm:(m[i]? = some (.ow<|.lst ds)/\k=true)\/(m[i]? = some (.io<|.lst ds)/\k=false))(hd:DVs G (Ow O0 ow) H ys es):
  cR G O0 M0 H0 ow σ (L2.upd H a<|.lst ys) (putL m i k es)/\Go O0 ow H ow (L2.upd H a<|.lst ys):=by
 have oa:Ow O0 ow a:=.inr ⟨i,ho⟩;have kp:Kp (Ow O0 ow) H (L2.upd H a<|.lst ys):=λb u e n=>qb b u e λz=>n<|z▸oa;have ov:OV G (Ow O0 ow) (L2.upd H a<|.lst ys) a (.lst es):=⟨ys,L2.aM,hd.kp R.mutk kp⟩;refine⟨R.chg (d:=.lst ds) (d':=.lst es) ho qb ov ?_,Go.chg ho qb ov⟩;rcases hm with⟨e,rfl⟩|⟨e,rfl⟩
 ·exact .inl ⟨e,rfl⟩
 ·exact .inr ⟨e,rfl⟩
end
section
def bD (i:Nat)(f:Zae):Zab:=λm=>(ofO<|kY m i).bind λo=>(f m).bind λd=>if o.2.length<av then .ok (.nx,putL m i o.1<|o.2++[d]) else .stuck
theorem Bh (i:Nat)(he:FE X E e f)(hN:X.N[i]? = some x:=by rfl)(hv:Vis X.env.scope x:=by first|exact iS rfl|exact hZ (iS rfl)|exact hZ (hZ rfl))(hd:(x==("__debug__":Str))=false:=by decide)(hcd:(x==("__classdict__":Str))=false:=by decide)
  (ξ:iF (.Name x np) "append" X.env (eval (.Name x np) X.env)=eval (.Name x np) X.env:=by rfl)
  (τ:((l7 η<|aS [e] X.env).all (λx=>!x.1)&&(AO η<|sj [] X.env).all (λx=>x.1.isSome)&&decide ([e].length+([]:List so).length+(if([]:List so).isEmpty then 0 else 1)<30))=true:=by rfl)
  (θ:(apos.endLine==η.line)=true:=by rfl) (hs:aS [e] X.env=(false,eval e X.env)::aS [] X.env:=by rfl) (hplain:(l7 η<|aS [] X.env).any (·.1)=false:=by rfl)
  (μ:gX (.Call (.Attribute (.Name x np) "append" apos) [e] [] η) none pos.line X.env=pure false:=by rfl):
  FS X E (.Expr (.Call (.Attribute (.Name x np) "append" apos) [e] [] η) pos) (bD i f):=
 cB (yO (UT jI ve vi Ao (m8 hN hv hd hcd) (lQ he vD hs) ξ τ θ hs hplain) μ) λW σ H hE=>xq5 hE λO0 M0 H0 ow m R q=>by
  obtain⟨o,ho,q⟩:=Ss.ofO q;obtain⟨k,ds⟩:=o;refine uU (uM R.toRel ho) λa xs e1 e2 e3 e4 e5=>?_;refine⟨_,e2,.inl ⟨rfl,xs,SqL.of e3⟩,O0,M0,H0,ow,m,R.toRel,(Ss.pu R.toRel q).imp (aC.refl _) λd q v H1 g1 hv=>?_⟩;have R1:=R.mono g1;by_cases hz:ds.length<av
  ·rw[if_pos hz] at q;obtain⟨R2,g2⟩:=R1.put (es:=ds++[d]) (ys:=xs++[v]) e1 e5<|mq (e4.mono g1)<|.cons hv .nil;exact⟨a,xs,v,rfl,rfl,g1 _ _ e3,by rw[bj e4];exact hz,q _ _ _ R2<|(Go.refl g1).trans g2⟩
  ·rw[if_neg hz] at q;exact q.elim
def JS (i:Nat)(f:Zae):Zab:=λm=>(ofO<|kY m i).bind λo=>(f m).bind λd=>match d with
 | .lst es=>if o.2.length+es.length<=av then .ok (.nx,putL m i o.1<|o.2++es) else .stuck
 |_=>.stuck
theorem Vr (i:Nat)(he:FN X E e f)(hN:X.N[i]? = some x:=by rfl)(hv:Vis X.env.scope x:=by first|exact iS rfl|exact hZ (iS rfl)|exact hZ (hZ rfl))(hd:(x==("__debug__":Str))=false:=by decide)(hcd:(x==("__classdict__":Str))=false:=by decide)
  (ξ:iF (.Name x np) "extend" X.env (eval (.Name x np) X.env)=eval (.Name x np) X.env:=by rfl)
  (τ:((l7 η<|aS [e] X.env).all (λx=>!x.1)&&(AO η<|sj [] X.env).all (λx=>x.1.isSome)&&decide ([e].length+([]:List so).length+(if([]:List so).isEmpty then 0 else 1)<30))=true:=by rfl)
  (θ:(apos.endLine==η.line)=true:=by rfl) (hs:aS [e] X.env=(false,eval e X.env)::aS [] X.env:=by rfl) (hplain:(l7 η<|aS [] X.env).any (·.1)=false:=by rfl)
  (μ:gX (.Call (.Attribute (.Name x np) "extend" apos) [e] [] η) none pos.line X.env=pure false:=by rfl):
  FS X E (.Expr (.Call (.Attribute (.Name x np) "extend" apos) [e] [] η) pos) (JS i f):=
 cB (yO (UT jI PySem.F.slot_list_extend PySem.F.type_list_extend U5 (m8 hN hv hd hcd) (lQ he vD hs) ξ τ θ hs hplain) μ) λW σ H hE=>xq5 hE λO0 M0 H0 ow m R q=>by
  obtain⟨o,ho,q⟩:=Ss.ofO q;obtain⟨k,ds⟩:=o;refine uU (uM R.toRel ho) λa xs e1 e2 e3 e4 e5=>?_;refine⟨_,e2,.inl ⟨rfl,xs,SqL.of e3⟩,O0,M0,H0,ow,m,R.toRel,(Ss.pu R.toRel q).imp (aC.refl _) λd q p H1 g1 n hv=>?_⟩;have R1:=R.mono g1;cases d with
  |lst es=>
   have q:Ss (gx X) E O0 M0 H0 ow H W (if ds.length+es.length<=av then .ok (.nx,putL m i k<|ds++es) else .stuck):=q;obtain⟨zs,h1,h2⟩:=hv;by_cases hz:ds.length+es.length<=av
   ·rw[if_pos hz] at q;have h2':DVs (gx X) (Ow O0 ow) H1 zs es:=h2.bI λb z=>.inl<|.inl z;obtain⟨R2,g2⟩:=R1.put (es:=ds++es) (ys:=xs++zs) e1 e5<|mq (e4.mono g1) h2';exact⟨a,p,xs,zs,rfl,rfl,g1 _ _ e3,h1,by rw[bj e4,bj h2];exact hz,q _ _ _ R2<|(Go.refl g1).trans g2⟩
   ·rw[if_neg hz] at q;exact q.elim
  |_=>exact q.elim
def Jz (j i:Nat):Zab:=λm=>(ofO<|kY m i).bind λo=>(ofO<|o.2[o.2.length-1]?).bind λd=>.ok (.nx,(putL m i o.1 o.2.dropLast).set j<|.fz d)
theorem yz (h:DVs G O H xs ds):DVs G O H xs.dropLast ds.dropLast:=by
 rw[yn,yn,bj h];exact G4 _ h
theorem Vd (j i:Nat)(hnd:X.N.Nodup)(hj:X.N[j]? = some y)(hy:Loc X.env.scope y)(hN:X.N[i]? = some x:=by rfl)(hv:Vis X.env.scope x:=by first|exact iS rfl|exact hZ (iS rfl)|exact hZ (hZ rfl))(hd:(x==("__debug__":Str))=false:=by decide)(hcd:(x==("__classdict__":Str))=false:=by decide)
  (ξ:iF (.Name x np) "pop" X.env (eval (.Name x np) X.env)=eval (.Name x np) X.env:=by rfl) (θ:(apos.endLine==η.line)=true:=by rfl) {yp:Pos}
  (μ:gX (.Call (.Attribute (.Name x np) "pop" apos) [] [] η) (some<|.Name y yp) pos.line X.env=pure false:=by rfl) (hf:X.fn y=true\/X.env.scope.names.lookup y=some .local:=by first|exact .inl rfl|exact .inr rfl|assumption):
  FS X E (.Assign [.Name y yp] (.Call (.Attribute (.Name x np) "pop" apos) [] [] η) pos) (Jz j i):=
 cB (GX hnd hj hy (Kr jI yy yA YX (m8 hN hv hd hcd) ξ θ) μ hf) λW σ H hE=>xq5 hE λO0 M0 H0 ow m R q=>by
  obtain⟨o,ho,q⟩:=Ss.ofO q;obtain⟨k,ds⟩:=o;obtain⟨d,hd',q⟩:=Ss.ofO q;refine uU (uM R.toRel ho) λa xs e1 e2 e3 e4 e5=>?_;obtain⟨v,hv,dv⟩:=yf e4 hd';obtain⟨R2,g2⟩:=R.put (es:=ds.dropLast) (ys:=xs.dropLast) e1 e5<|yz e4;have dv2:=dv.go R.mutk g2.ev;exact⟨_,e2,.inl ⟨rfl,xs,SqL.of e3⟩,a,xs,v,rfl,rfl,e3,by rw[bj e4];exact hv,q _ _ _ (R2.set dv2)<|g2.trans Go.set⟩
def kZ (i:Nat)(fk fv:Zae):Zab:=λm=>(fv m).bind λd=>(ofO<|kY m i).bind λo=>(fk m).bind λk=>match k with
 | .int n=>(ofO<|ixN o.2.length n).bind λj=>.ok (.nx,putL m i o.1<|o.2.set j d)
 |_=>.stuck
end
def Xs (G:Gx)(E:XK){α:Type}(O0 M0:Zaa)(H0:Hp)(ow:Os)(σ:L2.St)(H:Hp)(r:Res (α×Me))(k:α->Hp->Prop):Prop:=match r with
 | .ok (a,m')=>∀H',cR G O0 M0 H0 ow σ H' m'->Go O0 ow H ow H'->k a H'
 | .exc c=>∀C H',G.mg c=some (.ref C)->Kp M0 H0 H'->E (.ref C) none H'
 | .stuck=>False
def tX (G:Gx)(E:XK)(f:Me->Res (D×Me)):TE:=λσ H Q=>∃O0 M0 H0 ow m,cR G O0 M0 H0 ow σ H m/\Xs G E O0 M0 H0 ow σ H (f m) λd H'=>∀v,DV G (Ow O0 ow) H' v d->Q v H'
def tXA (G:Gx)(E:XK)(f:Me->Res (List D×Me)):TA:=λσ H Q=>∃O0 M0 H0 ow m,cR G O0 M0 H0 ow σ H m/\Xs G E O0 M0 H0 ow σ H (f m) λds H'=>∀vs,DVs G (Ow O0 ow) H' vs ds->Q vs H'
abbrev FX (X:Cx)(E:XK)(e:Expr)(f:Me->Res (D×Me)):Prop:=PE X e<|tX (gx X) E f
abbrev FXA (X:Cx)(E:XK)(es:List Expr)(f:Me->Res (List D×Me)):Prop:=PA X es<|tXA (gx X) E f
section
variable {G:Gx}{E:XK}{O0 M0:Zaa}{H0 H H1:Hp}{ow:Os}{σ:L2.St}{m:Me}
theorem Xs.imp (h:Xs G E O0 M0 H0 ow σ H r k)(g:Go O0 ow H ow H1)(hk:∀a H' m',cR G O0 M0 H0 ow σ H' m'->Go O0 ow H1 ow H'->r=.ok (a,m')->k a H'->k' a H'):Xs G E O0 M0 H0 ow σ H1 r k':=by
 cases r with
 |ok a=>obtain⟨a,m'⟩:=a;exact λH' R g'=>hk a H' m' R g' rfl<|h H' R<|g.trans g'
 |exc c=>exact h
 |stuck=>exact h
theorem Xs.bind {α β:Type}{r:Res (α×Me)}{f:α->Me->Res (β×Me)}{k:β->Hp->Prop}(h:Xs G E O0 M0 H0 ow σ H (r.bind λp=>f p.1 p.2) k):
  Xs G E O0 M0 H0 ow σ H r λa H'=>∀m',r=.ok (a,m')->cR G O0 M0 H0 ow σ H' m'->Xs G E O0 M0 H0 ow σ H' (f a m') k:=by
 cases r with
 |ok a=>
  obtain⟨a,m1⟩:=a;intro H' R g m' e R';cases e;have h:Xs G E O0 M0 H0 ow σ H (f a m1) k:=h;cases z:f a m1 with
  |ok b=>obtain⟨b,m2⟩:=b;rw[z] at h;exact λH2 R2 g2=>h H2 R2<|g.trans g2
  |exc c=>rw[z] at h;exact h
  |stuck=>rw[z] at h;exact h
 |exc c=>exact h
 |stuck=>exact h
theorem Xs.pu (R:Rel G O0 M0 H0 ow σ H m)(h:Xs G E O0 M0 H0 ow σ H (r.bind f) k):Pu G E r H λa=>Xs G E O0 M0 H0 ow σ H (f a) k:=by
 cases r with
 |ok a=>exact h
 |exc c=>exact λC H' e g=>h C H' e λb o e n=>g b o<|R.keep b o e n
 |stuck=>exact h
end
noncomputable def fX (f:Zae):Me->Res (D×Me):=λm=>(f m).bind λd=>.ok (d,m)
def Ie:Me->Res (List D×Me):=λm=>.ok ([],m)
noncomputable def vm (fa:Me->Res (D×Me))(fs:Me->Res (List D×Me)):Me->Res (List D×Me):=λm=>(fa m).bind λp=>(fs p.2).bind λq=>.ok (p.1::q.1,q.2)
noncomputable def Hv (fs:Me->Res (List D×Me)):Me->Res (D×Me):=λm=>(fs m).bind λq=>if q.1.length<=av then .ok (.tup q.1,q.2) else .stuck
section
variable {X:Cx}{E:XK}{e:Expr}{es:List Expr}{f:Zae}{fa:Me->Res (D×Me)}{fs:Me->Res (List D×Me)}{pos:Pos}{i:Nat}{x:Str}
theorem acv (h:FE X E e f):FX X E e (fX f):=aX h λσ H Q hE=>xq5 hE λO0 M0 H0 ow m R q=>⟨O0,M0,H0,ow,m,R.toRel,(Xs.pu R.toRel q).imp (aC.refl _) λd q v H' g hv=>q H' (R.mono g) (Go.refl g) v hv⟩
theorem Tu:FXA X E [] Ie:=rA vD λσ H Q hE=>xq5 hE λO0 M0 H0 ow m R q=>q H R (Go.refl<|aC.refl _) [] .nil
theorem yM (ha:FX X E e fa)(hr:FXA X E es fs)(hs:aS (e::es) X.env=(false,eval e X.env)::aS es X.env:=by rfl):FXA X E (e::es) (vm fa fs):=
 rA (lQ ha hr hs) λσ H Q hE=>xq5 hE λO0 M0 H0 ow m R q=>⟨O0,M0,H0,ow,m,R,(Xs.bind (f:=λd m1=>(fs m1).bind λq=>.ok (d::q.1,q.2)) q).imp (Go.refl<|aC.refl _) λd H1 m1 R1 g1 e1 q v hv=>⟨O0,M0,H0,ow,m1,R1,?_⟩⟩
where finally
 refine(Xs.bind (f:=λds m2=>.ok (d::ds,m2))<|q m1 e1 R1).imp (Go.refl<|aC.refl _) λds H2 m2 R2 g2 e2 q vs hvs=>?_;exact q m2 e2 R2 H2 R2 (Go.refl<|aC.refl _) (v::vs)<|.cons (hv.go R1.mutk g2.ev) hvs
theorem WR {x1}(h:FXA X E es fs):FX X E (.Tuple es x1 pos) (Hv fs):=aX (T3 h) λσ H Q hE=>xq5 hE λO0 M0 H0 ow m R q=>by
 refine⟨O0,M0,H0,ow,m,R,(Xs.bind (f:=λds m'=>if ds.length<=av then .ok (D.tup ds,m') else .stuck) q).imp (Go.refl<|aC.refl _) λds H1 m1 R1 g1 e1 q vs hv=>?_⟩;have q:=q m1 e1 R1;by_cases hz:ds.length<=av
 ·rw[if_pos hz] at q;exact⟨by rw[bj hv];exact hz,λp H' g e=>q H' (R1.mono g) (Go.refl g) _<|.tup (SqU.of e)<|hv.mono g⟩
 ·rw[if_neg hz] at q;exact q.elim
noncomputable def Uq (i:Nat)(f:Me->Res (D×Me)):Zab:=λm=>(f m).bind λp=>.ok (.nx,p.2.set i<|.fz p.1)
theorem Xs.ss {G:Gx}{O0 M0:Zaa}{H0 H:Hp}{ow:Os}{σ:L2.St}{W:Ends}{r:Res (D×Me)}{k:D->Zab}(h:Ss G E O0 M0 H0 ow H W (r.bind λp=>k p.1 p.2)):
  Xs G E O0 M0 H0 ow σ H r λd H'=>∀m',r=.ok (d,m')->cR G O0 M0 H0 ow σ H' m'->Ss G E O0 M0 H0 ow H' W (k d m'):=by
 cases r with
 |ok a=>
  obtain⟨d,m1⟩:=a;intro H' R g m' e R';cases e;exact Ss.go h g
 |exc c=>exact h
 |stuck=>exact h
theorem abg {pos':Pos}(hN:X.N.Nodup)(hi:X.N[i]? = some x)(hx:Loc X.env.scope x)(he:FX X E e fa)(hs:gX e (some<|.Name x pos') pos.line X.env=pure false:=by rfl)
  (hf:X.fn x=true\/X.env.scope.names.lookup x=some .local:=by first|exact .inl rfl|exact .inr rfl|assumption):FS X E (.Assign [.Name x pos'] e pos) (Uq i fa):=cB (GX hN hi hx he hs hf) λW σ H hE=>xq5 hE λO0 M0 H0 ow m R q=>by
 refine⟨O0,M0,H0,ow,m,R,(Xs.ss (k:=λd m'=>.ok (.nx,m'.set i<|.fz d)) q).imp (Go.refl<|aC.refl _) λd H1 m1 R1 g1 e1 q v hv=>?_⟩;exact q m1 e1 R1 _ _ _ (R1.set hv) Go.set
end
section
variable {P:cS}{w:gu}{K:bq}{mg:Zp}{base:Heap}
end
section
end
section
variable {G:Gx}{O0 M0:Zaa}{H0 H H':Hp}{ow:Os}{σ:L2.St}{m:Me}{k:Nat}{cap:List Nat}
end
section
theorem Wn (z:Ow (Op O0 l) ow b):Ow O0 ow b\/b=l:=z.elim (λy=>y.elim (λw=>.inl<|.inl w) .inr) λy=>.inl<|.inr y
end
section
end
section
variable {X:Cx}{j k:Nat}{x y:Str}{ps:List Str}{Φ:Zac}{p pos η pos':Pos}{e:Expr}{es:List Expr}{fs:Zad}{i:Nat}
end
theorem Rel.more (R:Rel G O0 M0 H0 ow σ H m)(g:aC H H1)(hl:H l=none)(ho:eN (H1 l)):Rel G (Op O0 l) M0 H0 ow σ H1 m:=by
 have nl:=R.NB hl;have sub':∀b,Ow (Op O0 l) ow b->Ow O0 ow b\/H b=none:=λb z=>(Wn z).elim .inl λe=>.inr (by rw[e];exact hl);have R':=R.mono g;refine⟨R.len,R'.keep,R'.m0,λb z=>?_,λi a e z=>?_,R.inj,R.out,λi s e=>?_⟩
 ·rcases Wn z with z|z
  ·exact R'.mutk b z
  ·rw[z];exact ho
 ·rcases z with z|z
  ·exact R.no0 i a e z
  ·exact nl<|z▸.inr ⟨i,e⟩
 ·exact((R.slot i s e).bI sub' λ_ _ b _=>tj _).mono g
section
noncomputable def JG:List D->Option (List Str)
 |[]=>some []
 | .str x::ds=>(JG ds).map (x::·)
 |_::_=>none
theorem Uw:∀{vs:List V} {ds:List D} {zs:List Str},DVs G O H vs ds->JG ds=some zs->vs=zs.map V.str
 |_,_,_,.nil,e=>by cases e;rfl
 |_,_,_,.cons (d:=d) h hs,e=>by
  cases d with
  |str i=>
   obtain⟨ns,e1,rfl⟩:=omap (by simpa[JG] using e);cases h;rw[Uw hs e1];rfl
  |_=>cases e
def HR:D->List D->Option D
 | .str z,[.lst es]=>match JG es with
  |some zs=>if BU z zs=true then some (.str<|AR z zs) else none
  |none=>none
 |_,_=>none
theorem Yw:MtR X "str.join" (rGM (gx X) HR):=by
 intro π s σ H x vs v us Q I rx rv h;refine fQ h λO d ds r m hx hy hr q=>?_;unfold HR at hr;split at hr
 ·rename_i z es;cases lJ hx;obtain⟨y,rfl,hy2⟩:=xx hy;obtain⟨p,xs,rfl,hp,hd⟩:=jr hy2;have hr:(match JG es with|some zs=>if BU z zs=true then some (D.str<|AR z zs) else none|none=>none)=some r:=hr;cases e1:JG es with
  |none=>rw[e1] at hr;cases hr
  |some zs=>
   rw[e1] at hr;obtain⟨ok,rfl⟩:=oif hr
   have:=Uw hd e1
   subst this;exact aaY X.K rfl π s σ H _ _ v us Q I rx rv ⟨z,p,zs,rfl,rfl,hp,ok,q _ _ (aC.refl _)<|.str _⟩
 ·cases hr
end
def Sy (K:bq):Sp:=λvs H Q _=>∃(a:Addr) (ns:List Int),vs=[.ref a]/\SqL K H a (ns.map V.int)/\ns.length<=63/\∀H',Q (.bl true) H'
theorem Nx:∀ns:List Int,DVs G O H (ns.map V.int) (ns.map D.int)
 |[]=>.nil
 |n::ns=>.cons (.int n)<|Nx ns
theorem abp {P:cS}{w:gu}{K:bq}{mg:Zp}{base:Heap}{CX:CXT}{k:Nat}{f:Addr}{fd:kK}{ps:List Str}{Φ:Zac}(h:∀ns:List Int,ns.length<=63->∃fr,Φ [.lst<|ns.map D.int]=.ok (fr,.bl true))
  (F:rT P w K mg base CX k f fd ps (spF ⟨K,mg⟩ Φ)):rT P w K mg base CX k f fd ps (Sy K):=F.imp λvs H Q E hE=>by
 refine vO hE λa ns e hS hl q=>?_;subst e;obtain⟨fr,e⟩:=h ns hl;refine⟨λ_=>False,[.lst<|ns.map D.int],λ_ z=>z.elim,.cons (.lst (hS.elim (λz=>.inl ⟨id,z⟩) .inr)<|Nx ns) .nil,?_⟩;rw[e];intro v H' _ hv _;cases hv;exact q H'
section
end
section
noncomputable def Ed:List D->Option (List Bool)
 |[]=>some []
 | .bl b::ds=>(Ed ds).map (b::·)
 |_::_=>none
theorem Mw:∀{vs:List V} {ds:List D} {bs:List Bool},DVs G O H vs ds->Ed ds=some bs->vs=bs.map V.bl
 |_,_,_,.nil,e=>by cases e;rfl
 |_,_,_,.cons (d:=d) h hs,e=>by
  cases d with
  |bl b=>
   obtain⟨bs,e1,rfl⟩:=omap (by simpa[Ed] using e);cases h;rw[Mw hs e1];rfl
  |_=>cases e
def Eb:List D->Option D
 |[.lst ds]=>(Ed ds).map λbs=>.bl<|bs.all id
 |_=>none
end
section
theorem Nr:∀{bs:List Bool} {us:List a9},Vals (bs.map V.bl) us->LSm.BoolsAre us bs
 |[],_,.nil=>.nil
 |b::bs,_,.cons r t=>by cases r;exact .cons b<|Nr t
theorem tY (hc:X.calm=true):lC X (.builtin "all") (rGC (gx X) Eb):=by
 intro π s σ H xs us Q I r h;refine sW h λO ds d m hx hr q=>?_;unfold Eb at hr;split at hr
 ·rename_i ds;obtain⟨bs,e1,rfl⟩:=omap hr;obtain⟨v,rfl,hv⟩:=xx hx;obtain⟨p,xs,rfl,hp,hd⟩:=jr hv
  have:=Mw hd e1
  subst this;obtain⟨u,rfl,rx⟩:=vals1 r;cases rx;obtain⟨wa,r',pl,hz⟩:=I.list hp;have ba:=Nr r';have li:=pl.isList;have lt1:p<s.heap.objs.size:=by obtain⟨_,e,_⟩:=li;exact aT e
  refine call_all_walk<|ui li ?_;refine⟨s.heap.objs.size,[s.heap.objs.size,p],[s.heap.objs.size],wa.toArray.size,_,_,λi=>(bs[i]?).getD true,rfl,Walks.list (A:=X.A.in1) (I.ok.hd hc) _ p (c6 lt1) wa.toArray,
   ⟨⟨_,ay _ rfl,rfl,rfl⟩,li.push _⟩,λi v sn Qn En pv qv=>?_,λh' tk kp=>?_⟩
  ·obtain⟨b,e,rfl⟩:=ba.get i v (by simpa using pv);simp only[e,Option.getD_some] at qv;exact mI qv
  ·have e:((bp wa.toArray.size).all λi=>(bs[i]?).getD true)=bs.all id:=by
    rw[bb,ba.length];exact LSm.range_all bs
   rw[e];exact⟨.bl _,H,I.kept<|LSm.kept_iter kp,rfl,q _ _ (aC.refl _)<|.bl _⟩
 ·cases hr
end
def Ite (K:bq)(a:Addr):It:=
 ⟨λi H=>∃xs x,SqL K H a xs/\xs[i]? = some x,λi H x H'=>∃y l,(∀xs,SqL K H a xs->xs[i]? = some y)/\x=.ref l/\H l=none/\H'=upd H l (.tup [.int i,y]),λi H=>∃xs,SqL K H a xs/\xs.length<=i⟩
theorem Qj {X:Cx}{π:Zl}{σ:L2.St}{H:Hp}{s:bE}{e it:Addr}{h':Heap}{oe oi:Obj}(I:Inv X π σ H s)(fe:vU X π H e)(fi:vU X π H it)(hne:e≠it)
  (he:∃o,s.heap.get? e=some o) (hi:∃o,s.heap.get? it=some o) (he':h'.get? e=some oe) (hi':h'.get? it=some oi) (de:oe.isFreed=false) (di:oi.isFreed=false)
  (k:∀b o,b≠e->b≠it->s.heap.get? b=some o->h'.get? b=some o):∃h1,Inv X π σ H { s with heap:=h1 }/\h1.objs.size=s.heap.objs.size/\∀b u,h1.get? b=some u->h'.get? b=some u:=by
 obtain⟨o1,he⟩:=he;obtain⟨o2,hi⟩:=hi;refine lO fe λf0 f1 f2 f3 f4 f5=>?_;refine lO fi λg0 g1 g2 g3 g4 g5=>?_;have I1:Inv X π σ H { s with heap:=s.heap.update e λ_=>oe }:=I.turned (t':=s.toks) (λb o hb x=>(cK _ _<|eK hb).trans x) f0 f1 f3 f4 f5;have I2:Inv X π σ H { s with heap:=(s.heap.update e λ_=>oe).update it λ_=>oi }:=I1.turned (t':=s.toks) (λb o hb x=>(cK _ _<|eK hb).trans x) g0 g1 g3 g4 g5;refine⟨_,I2,?_,λb u x=>?_⟩
 ·rw[(eR _ _ _).1,(eR _ _ _).1]
 ·by_cases z:b=it
  ·subst z;rw[fy (λ_=>oi) ((cK _ _ hne).trans hi) di] at x;cases x;exact hi'
  ·rw[cK _ _<|eK z] at x;by_cases y:b=e
   ·subst y;rw[fy (λ_=>oe) he de] at x;cases x;exact he'
   ·rw[cK _ _<|eK y] at x;exact k b u y z x
theorem zM {o:Obj}{vs:Array a9}(d:o.data=.fields vs):o.isFreed=false:=by
 obtain⟨c,dd,da,sl⟩:=o;cases(show da=.fields vs from d);rfl
theorem V9 {P:cS}{w:gu}{K:bq}{elts:List Expr}{x1}{pos:Pos}(a e it:Addr)(hne:e≠it):
  Turn P w K (.Tuple elts x1 pos) (Ite K a) [e,it] e (λi h=>(∃old,IsEnum h e it i old)/\h.IsListIter it a i) where
 mem:=by simp
 obj:=λi h st b hb=>by
  obtain⟨⟨old,q1⟩,q2⟩:=st;have eb:b=e\/b=it:=by simpa using hb
  rcases eb with rfl|rfl
  ·exact⟨_,q1,λv z=>by cases(show zC _=BF v from z)⟩
  ·obtain⟨o,e',c,d⟩:=q2;exact⟨o,e',λv z=>by rw[d] at z;cases z⟩
 keep:=λi h h' st k=>by
  obtain⟨⟨old,q1⟩,q2⟩:=st;exact⟨⟨old,k e (by simp) _ q1⟩,q2.at λo x=>k it (by simp) o x⟩
 item:=by
  intro X hP hw hK hc i π s σ H E I hf st hg;subst hP hw hK;obtain⟨xs,x,hq,hx⟩:=hg;obtain⟨⟨old,q1⟩,q2⟩:=st;obtain⟨χ,rv,p,hz⟩:=I.list hq;obtain⟨u,hu,ru⟩:=rv.get hx;have fe:=hf e (by simp);have fi:=hf it (by simp);refine wpAny_pyNext_enum_item q1 q2 p.isList (x:=u) (by simpa using hu) hne λh' eo il ht hsz k=>?_;obtain⟨oi,ei,ci,di⟩:=id il;obtain⟨oj,ej,cj,dj⟩:=id q2;obtain⟨h1,I1,z1,k1⟩:=Qj I fe fi hne ⟨_,q1⟩ ⟨_,ej⟩ eo ei rfl (zM di) k;have I2:Inv X π σ (upd H s.heap.objs.size<|.tup [.int i,x]) { s with heap:=h',toks:=s.toks+1 }:=
   I1.laid (t':=s.toks+1) k1 (sT z1) (show cU X.prog X.w _ _ _ (.tup [.int i,x]) from⟨(show 2<=av by decide),[.int i s.toks,u],.cons ⟨s.toks,rfl⟩<|.cons ru .nil,⟨_,ht,rfl,_,rfl⟩⟩)
  have fr:H s.heap.objs.size=none:=I.hok.fresh<|aI _;have ne1:e≠s.heap.objs.size:=c6<|aT q1;have ne2:it≠s.heap.objs.size:=c6<|aT ej;have nn:∀b,b≠s.heap.objs.size->H b=none->upd H s.heap.objs.size (.tup [.int i,x]) b=none:=λb z y=>by rw[bz z];exact y
  refine⟨_,rfl,wpAny_letOwnedTupleGo_enum eo λh2 e2 sb=>?_⟩;refine lO fe λf0 f1 f2 f3 f4 f5=>?_;refine⟨.ref s.heap.objs.size,_,I2.turned (t':=s.toks+1) (λb o hb y=>(sb.2 b hb).trans y) (nn e ne1 f0) f1 f3 f4 f5,rfl,⟨x,_,λys hy=>by rw[I.Oc hy hq];exact hx,rfl,fr,rfl⟩,⟨⟨_,e2⟩,il.at λo y=>(sb.2 it<|eK hne).trans y⟩,λb hb=>?_⟩;have eb:b=e\/b=it:=by simpa using hb
  rcases eb with rfl|rfl
  ·exact nn _ ne1 f0
  ·exact nn _ ne2 fi.1
 done:=by
  intro X hP hw hK hc i π s σ H E I hf st hg;subst hP hw hK;obtain⟨xs,hq,hx⟩:=hg;obtain⟨⟨old,q1⟩,q2⟩:=st;obtain⟨χ,rv,p,hz⟩:=I.list hq;refine lO (hf it<|by simp) λf0 f1 f2 f3 f4 f5=>?_;have hl:=rv.length;exact wpAny_pyNext_enum_end (I.ok.hd hc) q1 q2 p.isList (by simp;lia) λh' eb=>⟨rfl,I.turned (t':=s.toks) (λb o hb y=>eb b o hb y) f0 f1 f3 f4 f5⟩
 self:=λ_ _ _ _ _ st h=>by
  obtain⟨⟨old,q1⟩,q2⟩:=st;exact wpAny_pyIter_enum q1 h
section
variable {X:Cx}{tg:Expr}
def agJ (K:bq)(ta:TA):TI:=λσ H R=>ta σ H λvs H1=>∃p,vs=[.ref p]/\(∃xs,SqL K H1 p xs)/\R (Ite K p) H1
theorem Z2 {elts:List Expr}{x1}{pt:Pos}{a:Expr}{ta:TA}{p pos:Pos}(hg:Gl X "enumerate")(hm:X.mg "enumerate" = none)(ha:PA X [a] ta)(hs:aS [a] X.env=[(false,eval a X.env)]:=by rfl):PI X (.Tuple elts x1 pt) (.Call (.Name "enumerate" p) [a] [] pos) (agJ X.K ta):=by
 intro π s σ H R I h;refine Call_<|sH I hg hm boot_enumerate<|eP (thn (ha pos π s σ H _ I h) λus s1 hE=>xq2 hE λvs H1 I1 r1 q1=>?_) hs rfl;obtain⟨l,e,⟨xs,hq⟩,q⟩:=q1;subst e;obtain⟨u,rfl,rx⟩:=vals1 r1;cases rx;obtain⟨χ,rv,pl,hz⟩:=I1.list hq;refine call_enumerate_list pl.isList λh' e1 e2 sz k=>?_;have I2:Inv X π σ H1 { s1 with heap:=h' }:=I1.kept (t':=s1.toks) k;refine wpAny_pyIter_enum (s:={ s1 with heap:=h' }) e1 ?_;refine⟨_,[s1.heap.objs.size+1,s1.heap.objs.size],_,_,H1,rfl,I2,V9 l _ _<|Nat.succ_ne_self _,⟨⟨_,e1⟩,e2⟩,λb hb=>?_,q⟩;have eb:b=s1.heap.objs.size+1\/b=s1.heap.objs.size:=by simpa using hb
 have hb':s1.heap.objs.size<=b:=eb.elim (λz=>by rw[z];exact Nat.le_succ _) λz=>sT z.symm;exact I1.My hb'<|I1.hok.fresh hb'
noncomputable def GK (ds:List D):List D:=ds.mapIdx λi d=>.tup [.int i,d]
theorem Ip (ds:List D):(GK ds).length=ds.length:=by simp[GK]
theorem ZP {G:Gx}{H:Hp}{a:Addr}{ds:List D}{P:(Zaa)->Hp->Prop}(h:∀O' H2,P O' H2->∃xs,SqL G.K H2 a xs/\DVs G O' H2 xs ds):Ai G (Ite G.K a) (GK ds) P:=by
 intro O' H2 ev;obtain⟨xs,hq,hd⟩:=h O' H2 ev;have ν:=bj hd;refine⟨λi hi=>⟨xs,xs[i]'(by rw[Ip] at hi;lia),hq,by simp⟩,λi x H' hi y=>?_,xs,hq,by rw[Ip];lia⟩;obtain⟨y,l,h1,rfl,fr,rfl⟩:=y;obtain⟨d,e1,e2⟩:=qZ hd<|h1 xs hq;exact⟨aV fr _,.tup [.int i,d],by simp[GK,List.getElem?_mapIdx,e1],.tup (SqU.of aM)<|.cons (.int _)<|.cons (e2.mono<|aV fr _) .nil⟩
def adf (f:Zad):Zad:=λm=>(f m).bind λd=>match d with
 |[.lst ds]=>.ok<|GK ds
 |_=>.stuck
theorem Ww {E:XK}{fs:Zad}{elts:List Expr}{x1}{pt:Pos}{a:Expr}{p pos:Pos}(hg:Gl X "enumerate")(hm:X.mg "enumerate" = none)(ha:FAB X E [a] fs)(hs:aS [a] X.env=[(false,eval a X.env)]:=by rfl):FIw X E (.Tuple elts x1 pt) (.Call (.Name "enumerate" p) [a] [] pos) (adf fs):=
 mK (Z2 hg hm ha hs) λσ H R hE=>xq5 hE λO0 M0 H0 ow m Re q=>⟨O0,M0,H0,ow,m,Re,q.bind.imp (aC.refl _) λds q vs H' g hv=>by
  have z:∃xs,ds=[.lst xs]:=by
   cases ds with
   |nil=>exact q.elim
   |cons d ds=>cases d with
    |lst xs=>cases ds with
     |nil=>exact⟨xs,rfl⟩
     |cons _ _=>exact q.elim
    |_=>exact q.elim
  obtain⟨ds,rfl⟩:=z;cases hv with
  |cons h1 h2=>
   cases h2;obtain⟨l,xs,rfl,hl,hd⟩:=jr h1;exact⟨_,rfl,⟨_,hl⟩,q _ H' g<|ZP (H:=H') λO' H2 ⟨sub,g2⟩=>⟨_,Nu hl g2,hd.go (Re.mono g).mutk ⟨sub,.of g2⟩⟩⟩⟩
end
theorem Yv:A2 (.type "list_reverseiterator") "__len__" = pure none:=by rfl
theorem abI:A2 (.type "list_reverseiterator") "__length_hint__" = pure (some<|.builtin "list_reverseiterator.__length_hint__"):=by rfl
section
variable {pr:cS}{wo:gu}{A:i7}{s:bE}{R:Result->bE->Prop}
variable {St:Nat->bE->Prop}{P:Nat->a9->Prop}{n:Nat}{I:Addr}{fp wr:List Addr}{G:Array sQ->Array sQ->Prop}
theorem aaM (W:WalksS pr wo A.in1 I fp wr G n P St)(ty:∀i s,St i s->s.TypeIs (.ref I) "list_reverseiterator")(S:Addr)(res:a9)(c:Nat)(st:St 0 s)(nf:S∉fp)(mi:I∈fp)
  (oS:s.heap.get? S=some { cls:=.type "list",data:=.seq #[] c })
  (fin:∀s' ac c',Moved (S::wr) G s s'->s'.heap.get? S=some { cls:=.type "list",dict:=none,data:=.seq ac c',slots:=#[] }->ItemsOf P ac n->R (.ok<|.ret res) s') (hn:n<=av):
  b9 (eB pr wo) A.in1 (mf (.ref S) (.ref I) res)
   (λf t=>match f with|.done f=>R (.ok f) t|.again c'=>c'.quiet=true/\A1 (eB pr wo) A c' R t) (λe t=>R (.error e) t) s:=by
 have ne:S≠I:=λe=>nf<|e▸mi;have sr:vj (.ref S) (.ref I)=false:=by simp[vj,ne]
 unfold mf;refine ab<|wpAny_typeOf (ty 0 _ st) ?_;rw[if_neg (by rw[sr];decide)];refine ab<|W.self 0 _ _ _ st<|ab<|jv ?_;unfold Builtin.List.listLengthHint;refine ab<|ma (ty 0 _ st) Yv ?_;show b9 (eB pr wo) A.in1 (specialOf (c9 I) (dc "__length_hint__") >>= _) _ _ _;refine ab<|ma (ty 0 _ st) abI ?_;generalize hid:("list_reverseiterator.__length_hint__":String)=id0
 wp_delta
 rw[show splitId id0=some ("list_reverseiterator", "__length_hint__") from by subst hid;decide +kernel];subst hid;refine ab<|nE (b:=true) (ty 0 _ st) (by rw[isSubtype_type];kernel_rfl)<|ai ?_;rw[if_neg<|by decide];exact ai ⟨plainId_quiet F.plain_extend_loop _,codeAny_extend_loopS W hn _ nf _ n 0 _ _ _ rfl (f6 _) st oS (ItemsOf.nil P) fin⟩
end
section
theorem Vm {items:Array a9}(h:ItemsOf (λi v=>items[items.size-1-i]? = some v) ac items.size):ac=items.reverse:=by
 obtain⟨z,h⟩:=h;refine Array.ext (by simp[z]) λi h1 h2=>?_
 have:=h i ac[i]<|by simp
 rw[Array.getElem_reverse];obtain⟨_,e⟩:=sN.mp this;exact e.symm
theorem Hi {items:Array a9}(hh:A.handled=none)(li:s.heap.IsList l items)(ri:s.heap.IsRevIter I l ((items.size:Int)-1))(ne:l≠I)(hn:items.size<=av)
  (fin:∀t tk c,(∀b o,b≠I->s.heap.get? b=some o->t.get? b=some o)->t.get? s.heap.objs.size=some { cls:=.type "list",dict:=none,data:=.seq items.reverse c,slots:=#[] }->Q (.ref s.heap.objs.size) { s with heap:=t,toks:=tk }):
  b9 (eB pr wo) A (call (.type "list") [.ref I]) Q E s:=by
 obtain⟨oi,ei,ci,di⟩:=id ri;obtain⟨ol,el,cl⟩:=id li;have ltI:I<s.heap.objs.size:=aT ei;have ltl:l<s.heap.objs.size:=aT el;have nf:s.heap.objs.size∉[I,l]:=λhm=>by
  rcases aE.mp hm with z|z
  ·exact ku ltI z
  ·exact ku ltl<|bg.mp z
 have W:=(Walks.listRev (prog:=pr) (w:=wo) (A:=A.in1.in1) hh I l ne items).toS;refine callType_codes (Q₁:=λo t=>o=.ref s.heap.objs.size/\t={ s with heap:=s.heap.push { cls:=.type "list",data:=.seq #[] } }) F.called_list (F.typeCall_list_1 _) F.entry_list_init (code_list_new _ ⟨rfl,rfl⟩) λo t ht=>?_;obtain⟨rfl,rfl⟩:=ht;have oS:(s.heap.push { cls:=.type "list",data:=.seq #[] }).get? s.heap.objs.size=some { cls:=.type "list",data:=.seq #[] }:=ay _ rfl;refine⟨⟨_,oS,rfl⟩,F.args_list_init_2 _ _,?_⟩;show b9 (eB pr wo) A.in1.in1 (do let old←xB (.ref s.heap.objs.size);Builtin.List.listUpdate (.ref s.heap.objs.size) (λ_=>#[]);letGo old.toList.reverse;mf (.ref s.heap.objs.size) (.ref I) .none) _ _ _;refine ab ?_;unfold xB;refine ab<|iE oS rfl<|ai ?_;refine ab (m:=updateSeq s.heap.objs.size λ_=>#[])<|wpAny_updateSeq oS rfl ?_;have oS2:=fy (r6 λ_=>(#[]:Array a9)) oS rfl;refine ab<|wx ?_;have kp:∀b o,b≠s.heap.objs.size->s.heap.get? b=some o->((s.heap.push { cls:=.type "list",data:=.seq #[] }).update s.heap.objs.size<|r6 λ_=>(#[]:Array a9)).get? b=some o:=
  λb o hb e=>(cK _ _<|eK hb).trans<|ag _ e
 have st0:(0:Nat)<=items.size/\s.heap.IsRevIter I l ((items.size:Int)-1-((0:Nat):Int))/\s.heap.IsList l items:=⟨f6 _,by simpa using ri,li⟩;refine aaM W (λi t x=>x.2.1.typeIs) _ .none _ ⟨st0.1,st0.2.1.at λo e=>kp I o (c6 ltI) e,st0.2.2.at λo e=>kp l o (c6 ltl) e⟩ nf (by simp) oS2 (λt ac c mv oS3 it=>?_) hn;refine⟨rfl,?_⟩;rw[Moved.eq_with mv];rw[Vm it] at oS3;exact fin _ _ c (λb o hb e=>mv.heap b o (λhm=>by
  rcases aE.mp hm with z|hm
  ·exact hV _<|z▸aT e
  ·exact hb<|bg.mp hm) (kp b o (c6<|aT e) e)) oS3
end
section
theorem pH:dQ "list" = some (.type "list"):=by decide +kernel
theorem aei:dQ "reversed" = some (.type "reversed"):=by decide +kernel
def afl (K:bq):List V->Hp->VK->Prop:=λxs H Q=>∃p ys,xs=[.ref p]/\SqL K H p ys/\∀l,H l=none->Q (.ref l) (upd H l<|.lst ys.reverse)
theorem ab4 (hc:X.calm=true)(hg:Gl X "list")(hm:X.mg "list" = none)(hg':Gl X "reversed")(hm':X.mg "reversed" = none)(ha:PA X [e] ta)
  (hs:aS [e] X.env=[(false,eval e X.env)]:=by rfl) (hs':aS [.Call (.Name "reversed" p') [e] [] pos'] X.env=[(false,eval (.Call (.Name "reversed" p') [e] [] pos') X.env)]:=by rfl):
  PE X (.Call (.Name "list" p) [.Call (.Name "reversed" p') [e] [] pos'] [] pos) (tCB (afl X.K) ta):=by
 intro π s σ H Q I h;refine l9<|sH I hg hm pH<|eP ?_ hs' rfl;rw[hs'];refine kx<|l9<|sH I hg' hm' aei<|eP (thn (ha pos' π s σ H _ I h) λus s1 hE=>xq2 hE λvs H1 I1 r1 q1=>?_) hs rfl;obtain⟨l,ys,rfl,hq,q⟩:=q1;obtain⟨u,rfl,rx⟩:=vals1 r1;cases rx;obtain⟨χ,rv,pl,hz⟩:=I1.list hq;have ν:=rv.length;refine call_reversed_list pl.isList<|pE ?_;have el:l<s1.heap.objs.size:=by obtain⟨_,e,_⟩:=pl.isList;exact aT e
 refine Hi (s:={ s1 with heap:=s1.heap.push (revObj l<|(χ.toArray.size:Int)-1) }) (I1.ok.hd hc) (pl.isList.push _) ⟨_,ay _ rfl,rfl,rfl⟩ (c6 el) (by simp only[bb]<;>lia) λt tk c kp oS=>?_;have sz:s1.heap.objs.size<=(s1.heap.push<|revObj l<|(χ.toArray.size:Int)-1).objs.size:=by rw[iL];exact Nat.le_succ _
 refine⟨.ref _,_,I1.laid (t':=tk) (λb o e=>kp b o (c6<|aT e)<|ag _ e) sz<|show cU X.prog X.w _ t _ (.lst ys.reverse) from⟨by simp;lia,χ.reverse,c,rv.reverse,by simpa using oS⟩,rfl,q _<|I1.hok.fresh sz⟩
noncomputable def Yj:List D->Option D
 |[.lst ds]=>some<|.lst ds.reverse
 |_=>none
theorem aaA (hc:X.calm=true)(hg:Gl X "list")(hm:X.mg "list" = none)(hg':Gl X "reversed")(hm':X.mg "reversed" = none)(ha:FAB X E [e] fs)
  (hs:aS [e] X.env=[(false,eval e X.env)]:=by rfl) (hs':aS [.Call (.Name "reversed" p') [e] [] pos'] X.env=[(false,eval (.Call (.Name "reversed" p') [e] [] pos') X.env)]:=by rfl):
  FN X E (.Call (.Name "list" p) [.Call (.Name "reversed" p') [e] [] pos'] [] pos) (aF Yj fs):=
 aX (ab4 hc hg hm hg' hm' ha hs hs') λσ H Q h=>by
  refine uX h λO0 M0 H0 ow m R q=>?_;refine⟨O0,M0,H0,ow,m,R,q.bind.imp (aC.refl _) λds q vs H1 g1 hv=>?_⟩;obtain⟨r,hr,k⟩:=q.ofO
  match ds,hr with
  |[.lst ds],hr=>
   cases hr;obtain⟨v,rfl,hw⟩:=xx hv;obtain⟨l,xs,rfl,hp,hd⟩:=jr hw;exact⟨l,xs,rfl,hp,λb hb=>k b _ (g1.trans<|aV hb _) (g1.free hb) ⟨_,aM,((Uj hd).bI λc z=>z.elim .inl λe=>.inr (by rw[e];exact hb)).mono<|aV hb _⟩⟩
end
section
end
theorem ints_of:∀{ns:List Int} {us:List a9},Vals (ns.map V.int) us->∃xs:Array (Int×Tok),us.toArray=intItems xs/\xs.toList.map (·.1)=ns
 |[],_,.nil=>⟨#[],by simp[intItems],rfl⟩
 |n::ns,_,.cons r t=>by
  obtain⟨xs,e1,e2⟩:=ints_of t;obtain⟨k,rfl⟩:=r;refine⟨#[(n,k)]++xs,?_,by simp[e2]⟩;have e3:=congrArg x5 e1;apply Array.toList_inj.mp;simp[intItems] at e3 ⊢;exact e3
def Je:List D->Option D
 |[.lst ds]=>(QG ds).map λns=>.int ns.sum
 |_=>none
section
theorem VF (hc:X.calm=true):lC X (.builtin "sum") (rGC (gx X) Je):=by
 intro π s σ H xs us Q I r h;refine sW h λO ds d m hx hr q=>?_;unfold Je at hr;split at hr
 ·rename_i ds;obtain⟨ns,e1,rfl⟩:=omap hr;obtain⟨v,rfl,hv⟩:=xx hx;obtain⟨p,xs,rfl,hp,hd⟩:=jr hv
  have:=Ur hd e1
  subst this;obtain⟨u,rfl,rx⟩:=vals1 r;cases rx;obtain⟨χ,r',pl,hz⟩:=I.list hp;obtain⟨ys,e2,e3⟩:=ints_of r';refine sum_intListG (I.ok.hd hc) (xs:=ys) (e2▸pl.isList) λh' tk t' kp=>?_;have e4:preSum (numAt ys) ys.size=ns.sum:=by rw[preSum_eq,pk (by simp),e3]
  rw[e4];exact⟨.int _,H,I.kept kp,⟨t',rfl⟩,q _ _ (aC.refl _)<|.int _⟩
 ·cases hr
end
theorem Aj (h:DV G O H v d):∀{vs:List V} {ds:List D} (j:Nat),DVs G O H vs ds->DVs G O H (vs.set j v) (ds.set j d)
 |_,_,_,.nil=>.nil
 |_,_,0,.cons _ t=>.cons h t
 |_,_,j+1,.cons a t=>.cons a<|Aj h j t
section
theorem zK (i:Nat)(he:FE X E e f)(hk:FE X E ke fk)(hN:X.N[i]? = some x:=by rfl)(hv:Vis X.env.scope x:=by first|exact iS rfl|exact hZ (iS rfl)|exact hZ (hZ rfl))(hd:(x==("__debug__":Str))=false:=by decide)(hcd:(x==("__classdict__":Str))=false:=by decide)
  (ha:∀v,ua (.Subscript (.Name x np) ke spos) X.env v=(do
   let ov←tq [v] (eval (.Name x np) X.env)
   let iv←tq [v,ov] (eval ke X.env)
   standAt spos
   tq [v,ov,iv] (setItem ov iv v)
   release [v,ov,iv] []):=by intro _;rfl)
  (hs:oy [.Subscript (.Name x np) ke spos] e pos.line X.env=pure false:=by rfl) (hw:oz [.Subscript (.Name x np) ke spos] e X.env=pure none:=by rfl)
  (h1:(kl [.Subscript (.Name x np) ke spos] X.env).map (·.2)=[ua (.Subscript (.Name x np) ke spos) X.env]:=by rfl):FS X E (.Assign [.Subscript (.Name x np) ke spos] e pos) (kZ i fk f):=
 cB (PL he (Yz (m8 hN hv hd hcd) hk set_list ha) hs hw h1) λW σ H hE=>xq5 hE λO0 M0 H0 ow m R q=>
  ⟨O0,M0,H0,ow,m,R.toRel,(Ss.pu R.toRel q).imp (aC.refl _) λd q v H1 g1 hv=>by
   obtain⟨o,ho,q⟩:=Ss.ofO q;obtain⟨k,ds⟩:=o;have R1:=R.mono g1;refine uU (uM R1.toRel ho) λa xs e1 e2 e3 e4 e5=>?_;refine⟨_,e2,O0,M0,H0,ow,m,R1.toRel,(Ss.pu R1.toRel<|q.go<|Go.refl g1).imp (aC.refl _) λdk q vk H2 g2 hvk=>?_⟩;cases dk with
   |int n=>
    cases hvk;obtain⟨j,hj,q⟩:=Ss.ofO q;have R2:=R1.mono g2;obtain⟨R3,g3⟩:=R2.put (es:=ds.set j d) (ys:=xs.set j v) e1 e5<|Aj (hv.mono g2) j<|e4.mono g2;exact⟨a,xs,n,j,rfl,rfl,g2 _ _ e3,by rw[bj e4];exact hj,q _ _ _ R3<|(Go.refl g2).trans g3⟩
   |_=>exact q.elim⟩
end
noncomputable def tH:D->Option Key
 | .int i=>some<|.inl i
 | .str z=>some<|.inr z
 |_=>none
noncomputable def Ba:List Key->List D->Key->Option D
 |k'::ks,d::ds,k=>if k'=k then some d else Ba ks ds k
 |_,_,_=>none
noncomputable def Ht:List Key->List D->Key->D->List D
 |k'::ks,d'::ds,k,d=>(if k'=k then d else d')::Ht ks ds k d
 |_,_,_,_=>[]
def putD (ks:List Key)(ds:List D)(k:Key)(d:D):List Key×List D:=if ks.any (λx=>decide<|x=k)=true then(ks,Ht ks ds k d) else(ks++[k],ds++[d])
theorem Jo (h:DW G O H v d)(e:tH d=some k):v=kV k:=by
 cases d with
 |int i=>cases e;cases bR h;rfl
 |str z=>cases e;cases lJ h;rfl
 |_=>cases e
theorem Dm:∀{ι:List (Key×V)} {ds:List D},DVs G O H (ι.map (·.2)) ds->
  (∃v d,p6 ι k=some v/\Ba (ι.map (·.1)) ds k=some d/\DV G O H v d)\/(p6 ι k=none/\Ba (ι.map (·.1)) ds k=none)
 |[],_,.nil=>.inr ⟨rfl,rfl⟩
 |(k',v)::ι,_,.cons (d:=d) h hs=>by
  by_cases q:k'=k
  ·exact .inl ⟨v,d,vh q,by simp[Ba,q],h⟩
  ·rw[vQ (p:=(k',v)) q];simp only[ah,Ba,if_neg q];exact Dm hs
section
def bu:D->D->Option D
 | .dct ks ds,k=>(tH k).bind<|Ba ks ds
 |_,_=>none
def WN:D->D->Option Bool
 |k,.dct ks ds=>(tH k).map λk=>(Ba ks ds k).isSome
 |_,_=>none
theorem jG (r:eE j A):A.units+16<mE:=by have:=r.un;lia
theorem aer (hr:eE j X.A):OpR X (fN .In) (rGB (gx X) WN):=by
 intro π s σ H x y v u Q I rx ry h;refine fQ h λO d e r m hx hy e1 q=>?_;unfold WN at e1;split at e1
 ·rename_i d ks ds;obtain⟨k,e2,rfl⟩:=omap e1;obtain⟨p,ι,ws,rfl,hp,rfl,rfl,hd⟩:=Bm hy;cases Jo hx e2;cases ry;have fin:(p6 ι k).isSome=(Ba (ι.map (·.1)) ds k).isSome:=by
   rcases Dm (k:=k) hd with⟨_,_,a,b,_⟩|⟨a,b⟩<;>simp[a,b]
  refine agY (jG hr) I (WL (k:=k) hp) rx λs' I'=>⟨.bl _,H,I',rfl,?_⟩;rw[fin];exact q
 ·cases e1
theorem aai (hr:eE j X.A)(ha:FB X E a fa)(hb:FB X E b fb)(hs:abu b):FE X E (.Subscript a b pos) (ak bu fa fb):=
 aX (Rf (jG hr) ha hb hs) λσ H Q hE=>xq5 hE λO0 M0 H0 ow m R q=>two (r:=λx y H Q=>∃a v,x=.ref a/\Hk X.K H a y (some v)/\Q v H) R (K:=λz H=>∀v H',aC H H'->DV (gx X) (Ow O0 ow) H' v z->Q v H') q (λ_ _ k g v H' g' d=>k v H' (g.trans g') d) λx y d e H' g hx hy q' R'=>by
  obtain⟨r,hr,k⟩:=q'.ofO
  match d,hr with
  | .dct ks ds,hr=>
   obtain⟨p,ι,ws,rfl,hp,rfl,rfl,hd⟩:=Bm hx;obtain⟨ky,e2,e3⟩:=cE.mp hr;cases Jo hy e2;rcases Dm (k:=ky) hd with⟨v,d,a,b,c⟩|⟨a,b⟩
   ·rw[b] at e3;cases e3;exact⟨p,v,rfl,a▸WL hp,k _ _ (aC.refl _) c⟩
   ·rw[b] at e3;cases e3
noncomputable def wW:Zae:=λ_=>.ok<|.dct [] []
theorem yK:FN X E (.Dict [] [] pos) wW:=aX Yd λσ H Q ⟨O0,M0,H0,ow,m,R,q⟩ p hp=>q p _ (aV hp _) hp ⟨[],[],aM,rfl,rfl,.nil⟩
end
theorem Hr (k:Key)(v:V):∀ι:List (Key×V),(ι.map λkv=>if kv.1=k then(kv.1,v) else kv).map (·.1)=ι.map (·.1)
 |[]=>rfl
 |p::ι=>by
  rw[ah,ah,ah,Hr k v ι];split<;>rfl
theorem Az (h:DV G O H v d):∀{ι:List (Key×V)} {ds:List D},DVs G O H (ι.map (·.2)) ds->DVs G O H ((ι.map λkv=>if kv.1=k then(kv.1,v) else kv).map (·.2)) (Ht (ι.map (·.1)) ds k d)
 |[],_,.nil=>.nil
 |(k',v')::ι,_,.cons h1 hs=>by
  simp only[ah,Ht];split
  ·exact .cons h<|Az h hs
  ·exact .cons h1<|Az h hs
theorem Tj (h:DV G O H v d)(hs:DVs G O H (ι.map (·.2)) ds):
  (putK ι k v).map (·.1)=(putD (ι.map (·.1)) ds k d).1/\DVs G O H ((putK ι k v).map (·.2)) (putD (ι.map (·.1)) ds k d).2:=by
 have e:(ι.any λkv=>decide<|kv.1=k)=(ι.map (·.1)).any λx=>decide (x=k):=by rw[List.any_map];rfl
 unfold putK putD;rw[e];split
 ·exact⟨Hr k v ι,Az h hs⟩
 ·exact⟨by simp,by rw[bX];exact mq hs<|.cons h .nil⟩
noncomputable def zj (m:Me)(i:Nat):Option (Bool×List Key×List D):=match m[i]? with
 |some (.ow<|.dct ks ds)=>some (true,ks,ds)
 |some (.io<|.dct ks ds)=>some (false,ks,ds)
 |_=>none
noncomputable def zR (m:Me)(i:Nat)(k:Bool)(ks:List Key)(ds:List D):Me:=m.set i<|if k then .ow (.dct ks ds) else .io (.dct ks ds)
section
theorem aaX (R:Rel G O0 M0 H0 ow σ H m){i:Nat}{k:Bool}{ks:List Key}{ds:List D}(e:zj m i=some (k,ks,ds)):∃a ι,ow i=some a/\σ[i]? = some (some<|.ref a)/\H a=some (.dK ι)/\ι.map (·.1)=ks/\DVs G (Ow O0 ow) H (ι.map (·.2)) ds/\((m[i]? = some (.ow<|.dct ks ds)/\k=true)\/(m[i]? = some (.io<|.dct ks ds)/\k=false)):=by
 unfold zj at e;split at e
 ·rename_i q;cases e;obtain⟨a,e1,e2,e3,ι,vs,e4,e5,rfl,e6⟩:=R.slot i _ q;exact⟨a,ι,e1,e3,e4,e5,e6,.inl ⟨q,rfl⟩⟩
 ·rename_i q;cases e;obtain⟨a,e1,e2,e3,ι,vs,e4,e5,rfl,e6⟩:=R.slot i _ q;exact⟨a,ι,e1,e3,e4,e5,e6,.inr ⟨q,rfl⟩⟩
 ·cases e
theorem cR.zR (R:cR G O0 M0 H0 ow σ H m)(ho:ow i=some a)(hm:(m[i]? = some (.ow<|.dct ks ds)/\k=true)\/(m[i]? = some (.io<|.dct ks ds)/\k=false))
  (hk:ι.map (·.1)=ls) (hd:DVs G (Ow O0 ow) H (ι.map (·.2)) es):cR G O0 M0 H0 ow σ (L2.upd H a<|.dK ι) (F.zR m i k ls es)/\Go O0 ow H ow (L2.upd H a<|.dK ι):=by
 have oa:Ow O0 ow a:=.inr ⟨i,ho⟩;have kp:Kp (Ow O0 ow) H (L2.upd H a<|.dK ι):=λb u e n=>qb b u e λz=>n<|z▸oa;have ov:OV G (Ow O0 ow) (L2.upd H a<|.dK ι) a (.dct ls es):=⟨ι,_,L2.aM,hk,rfl,hd.kp R.mutk kp⟩;refine⟨R.chg (d:=.dct ks ds) (d':=.dct ls es) ho qb ov ?_,Go.chg ho qb ov⟩;rcases hm with⟨e,rfl⟩|⟨e,rfl⟩
 ·exact .inl ⟨e,rfl⟩
 ·exact .inr ⟨e,rfl⟩
end
def dB (i:Nat)(fk fv:Zae):Zab:=λm=>(fv m).bind λd=>(ofO<|zj m i).bind λo=>(fk m).bind λk=>(ofO<|tH k).bind λk=>
 if o.2.1.length<av then .ok (.nx,zR m i o.1 (putD o.2.1 o.2.2 k d).1 (putD o.2.1 o.2.2 k d).2) else .stuck
section
theorem nZ (i:Nat)(hr:eE jj X.A)(he:FE X E e f)(hk:FE X E ke fk)(hN:X.N[i]? = some x:=by rfl)(hv:Vis X.env.scope x:=by first|exact iS rfl|exact hZ (iS rfl)|exact hZ (hZ rfl))(hd:(x==("__debug__":Str))=false:=by decide)(hcd:(x==("__classdict__":Str))=false:=by decide)
  (hs:gX e (some<|.Subscript (.Name x np) ke spos) pos.line X.env=pure false:=by rfl):FS X E (.Assign [.Subscript (.Name x np) ke spos] e pos) (dB i fk f):=
 cB (Kl (jG hr) (m8 hN hv hd hcd) hk he hs) λW σ H hE=>xq5 hE λO0 M0 H0 ow m R q=>
  ⟨O0,M0,H0,ow,m,R.toRel,(Ss.pu R.toRel q).imp (aC.refl _) λd q v H1 g1 hv=>by
   obtain⟨o,ho,q⟩:=Ss.ofO q;obtain⟨k,ks,ds⟩:=o;have R1:=R.mono g1;refine LC (aaX R1.toRel ho) λa ι e1 e2 e3 e4 e5 e6=>?_;refine⟨_,e2,O0,M0,H0,ow,m,R1.toRel,(Ss.pu R1.toRel<|q.go<|Go.refl g1).imp (aC.refl _) λdk q vk H2 g2 hvk=>?_⟩;obtain⟨ky,h1,q⟩:=Ss.ofO q;cases Jo (.inl hvk) h1;by_cases hz:ks.length<av
   ·rw[if_pos hz] at q;have R2:=R1.mono g2;obtain⟨p1,p2⟩:=Tj (k:=ky) (hv.mono g2)<|e5.mono g2;rw[e4] at p1 p2;obtain⟨R3,g3⟩:=R2.zR e1 e6 p1 p2;exact⟨a,_,rfl,Kg.k (g2 _ _ e3) (by rw[← cm (f:=(·.1)),e4];exact hz),q _ _ _ R3<|(Go.refl g2).trans g3⟩
   ·rw[if_neg hz] at q;exact q.elim⟩
end
section
end
noncomputable def ahN:List D->Option D
 |[.int i,.int j]=>some<|.int<|if j<i then j else i
 |_=>none
section
noncomputable def VR:List D->Option D
 |[.bl b]=>some<|.int<|if b then 1 else 0
 |[.str x]=>if x.length<=640 then(PySem.intText? x).map D.int else none
 |_=>none
theorem VM:lC X (.type "int") (rGC (gx X) VR):=by
 intro π s σ H xs us Q I r h;refine sW h λO ds d m hx hr q=>?_;unfold VR at hr;split at hr
 ·rename_i b;cases hr;obtain⟨v,rfl,hv⟩:=xx hx;have e:v=.bl b:=by
   rcases hv with hv|⟨_,_,_,z⟩
   ·cases hv;rfl
   ·exact z.elim
  subst e;obtain⟨u,rfl,rx⟩:=vals1 r;cases rx;exact call_int_bool ⟨.int _,H,I.tok _,⟨_,rfl⟩,q _ _ (aC.refl _)<|.int _⟩
 ·rename_i x;obtain⟨v,rfl,hv⟩:=xx hx;cases lJ hv;have hr:(if x.length<=640 then(PySem.intText? x).map D.int else none)=some d:=hr;by_cases hl:x.length<=640
  ·rw[if_pos hl] at hr;obtain⟨n,hn,rfl⟩:=omap hr;obtain⟨u,rfl,rx⟩:=vals1 r;obtain⟨t,rfl⟩:=rx;exact W.KIN.call_text hn hl ⟨.int n,H,I.tok _,⟨_,rfl⟩,q _ _ (aC.refl _)<|.int _⟩
  ·rw[if_neg hl] at hr;cases hr
 ·cases hr
end
section
end
section
theorem mulOk_of (h0:0<=n)(h1:n<=1000)(hz:z.length<=1000):MulOk z n:=by
 refine⟨by simp;lia,λp _=>?_,λp _=>?_⟩
 ·have:(1000:Int)<=(2^63-1)/n:=by
   rw[Int.le_ediv_iff_mul_le<|by lia]
   lia
  lia
 ·have:z.length*n.toNat<=1000*1000:=Nat.mul_le_mul hz (by lia)
  have e:av=16777216:=by decide
  simp[Au,e]
  lia
end
noncomputable def nH (f:D->Option Kt):List D->Option (List Kt)
 |[]=>some []
 |d::ds=>(f d).bind λk=>(nH f ds).map λks=>k::ks
def ktD:Nat->D->Option Kt
 |_,.int i=>some<|.k<|.inl i
 |_,.str x=>some<|.k<|.inr x
 |n+1,.tup ds=>(nH (ktD n) ds).map .t
 |_,_=>none
def vf:D->Option (List Kt)
 | .tup ds=>nH (ktD 7) ds
 |_=>none
noncomputable def bJ:List (List Kt)->List D->List Kt->Option D
 |k'::ks,d::ds,k=>if k'=k then some d else bJ ks ds k
 |_,_,_=>none
noncomputable def uY:List (List Kt)->List D->List Kt->D->List D
 |k'::ks,d'::ds,k,d=>(if k'=k then d else d')::uY ks ds k d
 |_,_,_,_=>[]
def iu (ks:List (List Kt))(ds:List D)(k:List Kt)(d:D):List (List Kt)×List D:=if ks.any (λx=>decide<|x=k)=true then(ks,uY ks ds k d) else(ks++[k],ds++[d])
theorem JD (hf:∀{v d k},DV G O H v d->f d=some k->Bc (KTp G.K) H n v k):∀{vs:List V} {ds:List D} {ks:List Kt},DVs G O H vs ds->nH f ds=some ks->tD (KTp G.K) H n vs ks
 |_,_,_,.nil,e=>by cases e;exact .nil
 |_,_,_,.cons (d:=d) (ds:=ds) h hs,e=>by
  have e:(f d).bind (λk=>(nH f ds).map λks=>k::ks)=some _:=e;obtain⟨k,e1,e2⟩:=cE.mp e;obtain⟨ks,e3,rfl⟩:=omap e2;exact .cons (hf h e1)<|JD hf hs e3
theorem acI:∀(n:Nat) {v:V} {d:D} {k:Kt},DV G O H v d->ktD n d=some k->Bc (KTp G.K) H n v k
 |n,_,_,k,.int i,e=>by
  have:k=.k (.inl i):=by cases n<;>(rw[ktD] at e;exact(dE e).symm)
  subst this;exact Bc.k (x:=.inl i)
 |n,_,_,k,.str x,e=>by
  have:k=.k (.inr x):=by cases n<;>(rw[ktD] at e;exact(dE e).symm)
  subst this;exact Bc.k (x:=.inr x)
 |n+1,_,_,k,.tup h hs,e=>by
  rw[ktD] at e;obtain⟨ks,e3,rfl⟩:=omap e;exact .t h<|JD (λh e=>acI n h e) hs e3
 |0,_,_,k,.tup h hs,e=>by simp[ktD] at e
 |n,_,_,k,.non,e=>by cases n<;>simp[ktD] at e
 |n,_,_,k,.bl _,e=>by cases n<;>simp[ktD] at e
 |n,_,_,k,.adr _,e=>by cases n<;>simp[ktD] at e
 |n,_,_,k,.ins _ _ _ _ _ _,e=>by cases n<;>simp[ktD] at e
 |n,_,_,k,.exc _ _,e=>by cases n<;>simp[ktD] at e
 |n,_,_,k,.lst _ _,e=>by cases n<;>simp[ktD] at e
 |n,_,_,k,.dct _ _ _ _ _,e=>by cases n<;>simp[ktD] at e
 |n,_,_,k,.dcu _ _ _ _ _,e=>by cases n<;>simp[ktD] at e
 |n,_,_,k,.dcf _ _ _ _,e=>by cases n<;>simp[ktD] at e
theorem uK (h:DW G O H v d)(e:vf d=some k):∃b,v=.ref b/\TrT (KTp G.K) H b k:=by
 cases d with
 |tup ds=>
  obtain⟨b,xs,rfl,hq,hd⟩:=Dh h;exact⟨b,rfl,xs,hq,JD (λh e=>acI 7 h e) hd e⟩
 |_=>cases e
theorem Ds:∀{ι:List (List Kt×V)} {ds:List D},DVs G O H (ι.map (·.2)) ds->
  (∃v d,p6 ι k=some v/\bJ (ι.map (·.1)) ds k=some d/\DV G O H v d)\/(p6 ι k=none/\bJ (ι.map (·.1)) ds k=none)
 |[],_,.nil=>.inr ⟨rfl,rfl⟩
 |(k',v)::ι,_,.cons (d:=d) h hs=>by
  by_cases q:k'=k
  ·exact .inl ⟨v,d,vh q,by simp[bJ,q],h⟩
  ·rw[vQ (p:=(k',v)) q];simp only[ah,bJ,if_neg q];exact Ds hs
noncomputable def dcK:D->Option (List (List Kt)×List D)
 | .dcu ks ds=>some (ks,ds)
 | .dcf ks ds=>some (ks,ds)
 |_=>none
theorem O4 (h:DW G O H v d)(e:dcK d=some (ks,ds)):∃a ι,v=.ref a/\Rd H a (.dT (KTp G.K) ι)/\ι.map (·.1)=ks/\DVs G O H (ι.map (·.2)) ds:=by
 cases d with
 |dcu ks' ds'=>
  cases e;obtain⟨p,ι,ws,rfl,hp,e1,rfl,hd⟩:=Wd h;exact⟨p,ι,rfl,.inl hp,e1,hd⟩
 |dcf ks' ds'=>
  cases e;rcases h with h|⟨_,_,_,h⟩
  ·cases h with
   |dcf e1 e2 e3 hs=>subst e3;exact⟨_,_,rfl,.inr ⟨_,e1⟩,e2,hs⟩
  ·exact h.elim
 |_=>cases e
theorem SX (g:aC H H')(h:Rd H a u):Rd H' a u:=h.imp (g _ _) λ⟨o,e⟩=>⟨o,g _ _ e⟩
section
def pF (d k:D):Option D:=(dcK d).bind λc=>(vf k).bind<|bJ c.1 c.2
def VB (k d:D):Option Bool:=(dcK d).bind λc=>(vf k).map λk=>(bJ c.1 c.2 k).isSome
def Bv (d e:D):Option Bool:=(VB d e).map (!·)
theorem T8 (hd:DVs G O H (ι.map (·.2)) ds):(p6 ι k).isSome=(bJ (ι.map (·.1)) ds k).isSome:=by
 rcases Ds (k:=k) hd with⟨_,_,a,b,_⟩|⟨a,b⟩<;>simp[a,b]
theorem RQ (hr:eE j X.A):OpR X (fN .NotIn) (rGB (gx X) Bv):=by
 intro π s σ H x y v u Q I rx ry h;refine fQ h λO d e r m hx hy e1 q=>?_;obtain⟨c,e0,rfl⟩:=omap e1;obtain⟨⟨ks,ds⟩,ec,e3⟩:=cE.mp e0;obtain⟨k,e2,rfl⟩:=omap e3;obtain⟨p,ι,rfl,hp,rfl,hd⟩:=O4 hy ec;obtain⟨b,rfl,hb⟩:=uK hx e2;cases ry;refine aaE (jG hr) I (.inr ⟨ι,k,b,hp,rfl,hb,rfl⟩) rx λs' I'=>⟨.bl _,H,I',rfl,?_⟩;rw[T8 hd];exact q
theorem CQ (hr:eE j X.A)(ha:FB X E a fa)(hb:FB X E b fb)(hs:abu b):FE X E (.Subscript a b pos) (ak pF fa fb):=
 aX (Rf (jG hr) ha hb hs) λσ H Q hE=>xq5 hE λO0 M0 H0 ow m R q=>two (r:=λx y H Q=>∃a v,x=.ref a/\Hk X.K H a y (some v)/\Q v H) R (K:=λz H=>∀v H',aC H H'->DV (gx X) (Ow O0 ow) H' v z->Q v H') q (λ_ _ k g v H' g' d=>k v H' (g.trans g') d) λx y d e H' g hx hy q' R'=>by
  obtain⟨r,hr,k⟩:=q'.ofO;obtain⟨⟨ks,ds⟩,ec,hr⟩:=cE.mp hr;obtain⟨ky,e2,e3⟩:=cE.mp hr;obtain⟨p,ι,rfl,hp,rfl,hd⟩:=O4 hx ec;obtain⟨b,rfl,hb⟩:=uK hy e2;rcases Ds (k:=ky) hd with⟨v,d,a,c,dv⟩|⟨a,c⟩
  ·have e3:bJ (ι.map (·.1)) ds ky=some r:=e3;rw[c] at e3;cases e3;exact⟨p,v,rfl,.inr ⟨ι,ky,b,hp,rfl,hb,a.symm⟩,k _ _ (aC.refl _) dv⟩
  ·have e3:bJ (ι.map (·.1)) ds ky=some r:=e3;rw[c] at e3;cases e3
def Ol (fa fb fc:Zae):Zae:=λm=>(fa m).bind λc=>(ofO<|dcK c).bind λc=>(fb m).bind λk=>(fc m).bind λx=>ofO<|(vf k).map λk=>(bJ c.1 c.2 k).getD x
theorem Xd (hr:eE j X.A)(ha:FB X E a fa)(hb:FB X E b fb)(hc:FE X E c fc)(hm:M2 X a "get" apos b c η):FE X E (.Call (.Attribute a "get" apos) [b,c] [] η) (Ol fa fb fc):=
 aX (XN (jG hr) ha hb hc hm) λσ H Q hE=>xq5 hE λO0 M0 H0 ow m R q=>⟨O0,M0,H0,ow,m,R,q.bind.imp (aC.refl _) λd q x H1 g1 hx=>by
  obtain⟨⟨ks,ds⟩,ec,q⟩:=q.bind.ofO;obtain⟨p,ι,rfl,hp,rfl,hd⟩:=O4 hx ec;refine⟨p,rfl,.inr ⟨ι,hp⟩,O0,M0,H0,ow,m,R.mono g1,q.bind.imp g1 λe q y H2 g2 hy=>⟨O0,M0,H0,ow,m,R.mono<|g1.trans g2,q.bind.imp (g1.trans g2) λe3 q z H3 g3 hz=>?_⟩⟩;obtain⟨r,hr,k⟩:=q.ofO;obtain⟨ky,e2,rfl⟩:=omap hr;obtain⟨b,rfl,hb⟩:=uK (hy.mono g3) e2;refine⟨p6 ι ky,.inr ⟨ι,ky,b,SX g3<|SX g2 hp,rfl,hb,rfl⟩,?_⟩;rcases Ds (k:=ky) ((hd.mono g2).mono g3) with⟨v,d,a,c,dv⟩|⟨a,c⟩
  ·rw[a];exact k _ _ (g1.trans<|g2.trans g3) (by show DV _ _ _ v ((bJ (ι.map (·.1)) ds ky).getD e3);rw[c];exact dv)
  ·rw[a];exact k _ _ (g1.trans<|g2.trans g3) (by show DV _ _ _ _ ((bJ (ι.map (·.1)) ds ky).getD e3);rw[c];exact hz)⟩
noncomputable def tM:Zae:=λ_=>.ok<|.dcu [] []
theorem ud:FN X E (.Dict [] [] pos) tM:=aX Xq λσ H Q ⟨O0,M0,H0,ow,m,R,q⟩ p hp=>q p _ (aV hp _) hp ⟨[],[],aM,rfl,rfl,.nil⟩
end
theorem Ei (k:List Kt)(v:V):∀ι:List (List Kt×V),(ι.map λkv=>if kv.1=k then(kv.1,v) else kv).map (·.1)=ι.map (·.1)
 |[]=>rfl
 |p::ι=>by
  rw[ah,ah,ah,Ei k v ι];split<;>rfl
theorem yh (h:DV G O H v d):∀{ι:List (List Kt×V)} {ds:List D},DVs G O H (ι.map (·.2)) ds->DVs G O H ((ι.map λkv=>if kv.1=k then(kv.1,v) else kv).map (·.2)) (uY (ι.map (·.1)) ds k d)
 |[],_,.nil=>.nil
 |(k',v')::ι,_,.cons h1 hs=>by
  simp only[ah,uY];split
  ·exact .cons h<|yh h hs
  ·exact .cons h1<|yh h hs
theorem QJ (h:DV G O H v d)(hs:DVs G O H (ι.map (·.2)) ds):
  (putK ι k v).map (·.1)=(iu (ι.map (·.1)) ds k d).1/\DVs G O H ((putK ι k v).map (·.2)) (iu (ι.map (·.1)) ds k d).2:=by
 have e:(ι.any λkv=>decide<|kv.1=k)=(ι.map (·.1)).any λx=>decide (x=k):=by rw[List.any_map];rfl
 unfold putK iu;rw[e];split
 ·exact⟨Ei k v ι,yh h hs⟩
 ·exact⟨by simp,by rw[bX];exact mq hs<|.cons h .nil⟩
noncomputable def Cp (m:Me)(i:Nat):Option (Bool×List (List Kt)×List D):=match m[i]? with
 |some (.ow<|.dcu ks ds)=>some (true,ks,ds)
 |some (.io<|.dcu ks ds)=>some (false,ks,ds)
 |_=>none
noncomputable def qu (m:Me)(i:Nat)(k:Bool)(ks:List (List Kt))(ds:List D):Me:=m.set i<|if k then .ow (.dcu ks ds) else .io (.dcu ks ds)
section
theorem Sq (R:Rel G O0 M0 H0 ow σ H m){i:Nat}{k:Bool}{ks:List (List Kt)}{ds:List D}(e:Cp m i=some (k,ks,ds)):∃a ι,ow i=some a/\σ[i]? = some (some<|.ref a)/\H a=some (.dT (KTp G.K) ι)/\ι.map (·.1)=ks/\DVs G (Ow O0 ow) H (ι.map (·.2)) ds/\((m[i]? = some (.ow<|.dcu ks ds)/\k=true)\/(m[i]? = some (.io<|.dcu ks ds)/\k=false)):=by
 unfold Cp at e;split at e
 ·rename_i q;cases e;obtain⟨a,e1,e2,e3,ι,vs,e4,e5,rfl,e6⟩:=R.slot i _ q;exact⟨a,ι,e1,e3,e4,e5,e6,.inl ⟨q,rfl⟩⟩
 ·rename_i q;cases e;obtain⟨a,e1,e2,e3,ι,vs,e4,e5,rfl,e6⟩:=R.slot i _ q;exact⟨a,ι,e1,e3,e4,e5,e6,.inr ⟨q,rfl⟩⟩
 ·cases e
theorem cR.qu (R:cR G O0 M0 H0 ow σ H m)(ho:ow i=some a)(hm:(m[i]? = some (.ow<|.dcu ks ds)/\k=true)\/(m[i]? = some (.io<|.dcu ks ds)/\k=false))
  (hk:ι.map (·.1)=ls) (hd:DVs G (Ow O0 ow) H (ι.map (·.2)) es):cR G O0 M0 H0 ow σ (L2.upd H a<|.dT (KTp G.K) ι) (F.qu m i k ls es)/\Go O0 ow H ow (L2.upd H a<|.dT (KTp G.K) ι):=by
 have oa:Ow O0 ow a:=.inr ⟨i,ho⟩;have kp:Kp (Ow O0 ow) H (L2.upd H a<|.dT (KTp G.K) ι):=λb u e n=>qb b u e λz=>n<|z▸oa;have ov:OV G (Ow O0 ow) (L2.upd H a<|.dT (KTp G.K) ι) a (.dcu ls es):=⟨ι,_,L2.aM,hk,rfl,hd.kp R.mutk kp⟩;refine⟨R.chg (d:=.dcu ks ds) (d':=.dcu ls es) ho qb ov ?_,Go.chg ho qb ov⟩;rcases hm with⟨e,rfl⟩|⟨e,rfl⟩
 ·exact .inl ⟨e,rfl⟩
 ·exact .inr ⟨e,rfl⟩
end
def uZ (i:Nat)(fk fv:Zae):Zab:=λm=>(fv m).bind λd=>(ofO<|Cp m i).bind λo=>(fk m).bind λk=>(ofO<|vf k).bind λk=>
 if o.2.1.length<av then .ok (.nx,qu m i o.1 (iu o.2.1 o.2.2 k d).1 (iu o.2.1 o.2.2 k d).2) else .stuck
section
theorem yX (i:Nat)(hr:eE jj X.A)(he:FE X E e f)(hk:FE X E ke fk)(hN:X.N[i]? = some x:=by rfl)(hv:Vis X.env.scope x:=by first|exact iS rfl|exact hZ (iS rfl)|exact hZ (hZ rfl))(hd:(x==("__debug__":Str))=false:=by decide)(hcd:(x==("__classdict__":Str))=false:=by decide)
  (hs:gX e (some<|.Subscript (.Name x np) ke spos) pos.line X.env=pure false:=by rfl):FS X E (.Assign [.Subscript (.Name x np) ke spos] e pos) (uZ i fk f):=
 cB (Kl (jG hr) (m8 hN hv hd hcd) hk he hs) λW σ H hE=>xq5 hE λO0 M0 H0 ow m R q=>
  ⟨O0,M0,H0,ow,m,R.toRel,(Ss.pu R.toRel q).imp (aC.refl _) λd q v H1 g1 hv=>by
   obtain⟨o,ho,q⟩:=Ss.ofO q;obtain⟨k,ks,ds⟩:=o;have R1:=R.mono g1;refine LC (Sq R1.toRel ho) λa ι e1 e2 e3 e4 e5 e6=>?_;refine⟨_,e2,O0,M0,H0,ow,m,R1.toRel,(Ss.pu R1.toRel<|q.go<|Go.refl g1).imp (aC.refl _) λdk q vk H2 g2 hvk=>?_⟩;obtain⟨ky,h1,q⟩:=Ss.ofO q;obtain⟨b,rfl,hb⟩:=uK (.inl hvk) h1;by_cases hz:ks.length<av
   ·rw[if_pos hz] at q;have R2:=R1.mono g2;obtain⟨p1,p2⟩:=QJ (k:=ky) (hv.mono g2)<|e5.mono g2;rw[e4] at p1 p2;obtain⟨R3,g3⟩:=R2.qu e1 e6 p1 p2;exact⟨a,_,rfl,Kg.t (g2 _ _ e3) hb (by rw[← cm (f:=(·.1)),e4];exact hz),q _ _ _ R3<|(Go.refl g2).trans g3⟩
   ·rw[if_neg hz] at q;exact q.elim⟩
end
section
end
section
end
section
variable {X:Cx}{E:XK}{rest:List Stmt}{k:Zab}
theorem aaU (I:Inv X π σ H s)(e:H a=some (.dT (KTp X.K) ι)):∃o,Inv X π σ (L2.upd H a<|.frz o<|.dT (KTp X.K) ι) s:=by
 have ok:=I.hok a _ e;obtain⟨z,y,xs,r,o,es,ep,h1,rest⟩:=id ok;refine⟨o,I.write (x:=a) (e:=a) (t':=s.toks) (h':=s.heap) (by rw[e];exact iA) (.inl rfl) (λb u _ q=>q) ⟨o,h1⟩ ⟨h1,?_⟩⟩;refine ok.stay (λ_ _ _ q=>q) (λb q=>?_) λb ys q=>?_
 ·rw[bz<|K7 q e λz=>nomatch z];exact q
 ·rw[bz<|K7 q e λz=>nomatch z];exact q
end
theorem JB:∀{vs:List V} {us:List a9} {i:Nat} {u:a9},Vals vs us->us[i]? = some u->∃v,vs[i]? = some v/\RelV v u
 |_,_,_,_,.nil,e=>by simp at e
 |_,_,0,_,.cons r _,e=>by simp at e;subst e;exact⟨_,rfl,r⟩
 |_,_,i+1,_,.cons _ t,e=>by
  obtain⟨v,h1,h2⟩:=JB (i:=i) t (by simpa using e);exact⟨v,by simpa using h1,h2⟩
def keyV:Key->D
 | .inl i=>.int i
 | .inr z=>.str z
mutual
def ktV:Kt->D
 | .k x=>keyV x
 | .t xs=>.tup<|U7 xs
def U7:List Kt->List D
 |[]=>[]
 |x::xs=>ktV x::U7 xs
end
def tupK (k:List Kt):D:=.tup<|U7 k
theorem aa0:∀k:Key,DV G O H (kV k) (keyV k)
 | .inl i=>.int i
 | .inr z=>.str z
mutual
theorem aeI:∀{n:Nat} {v:V} {k:Kt},Bc (KTp G.K) H n v k->DV G O H v (ktV k)
 |_,_,_,.k (x:=x)=>by rw[ktV];exact aa0 x
 |_,_,_,.t h hs=>by rw[ktV];exact .tup h<|DQ hs
theorem DQ:∀{n:Nat} {vs:List V} {ks:List Kt},tD (KTp G.K) H n vs ks->DVs G O H vs (U7 ks)
 |_,_,_,.nil=>by rw[U7];exact .nil
 |_,_,_,.cons h hs=>by rw[U7];exact .cons (aeI h)<|DQ hs
end
theorem abd (h:TrT (KTp G.K) H b k):DV G O H (.ref b) (tupK k):=let⟨_,h1,h2⟩:=h;.tup h1 (DQ h2)
theorem adY {K:bq}{O:Zaa}{H H':Hp}{b:Addr}{k:List Kt}(m:∀b,O b->eN (H b))(g:Kp O H H')(h:TrT (KTp K) H b k):TrT (KTp K) H' b k:=h.imp λb xs e=>g b _ e<|pQ m e J8
def KeysOf (K:bq)(H:Hp):List (List Kt×V)->List V->Prop:=ko λp v=>∃b,v=.ref b/\TrT (KTp K) H b p.1
theorem KeysOf.len {K:bq}{H:Hp}{ι:List (List Kt×V)}{keys:List V}(h:KeysOf K H ι keys):keys.length=ι.length:=(kq h).symm
theorem KeysOf.at {K:bq}{H:Hp}:∀{ι:List (List Kt×V)} {keys:List V} {i:Nat} {v:V},KeysOf K H ι keys->keys[i]? = some v->∃p b,ι[i]? = some p/\v=.ref b/\TrT (KTp K) H b p.1
 |_,_,_,_,.nil,e=>by simp at e
 |_,_,0,_,.cons ⟨b,h1,h2⟩ _,e=>by simp at e;subst e;exact⟨_,b,rfl,h1,h2⟩
 |_,_,i+1,_,.cons _ t,e=>by
  refine wy (KeysOf.at (i:=i) t<|by simpa using e) λp b q1 q2 q3=>?_;exact⟨p,b,by simpa using q1,q2,q3⟩
theorem Ry {K:bq}{H:Hp}:∀{ι:List (List Kt×V)} {xs:List (List Kt×Addr×a9)},KT (KTp K) H ι xs->KeysOf K H ι (xs.map λq=>V.ref q.2.1)
 |_,_,.nil=>.nil
 |_,_,.cons h t=>.cons ⟨_,rfl,h.2.1⟩<|Ry t
theorem Ii:∀xs:List (List Kt×Addr×a9),Vals (xs.map λq=>V.ref q.2.1) ((xs.map<|entryOfKey<|jd P w).map (·.key))
 |[]=>.nil
 |q::xs=>.cons rfl<|Ii xs
section
variable {X:Cx}{tg:Expr}
theorem Ue {K:bq}{O:Zaa}{H H':Hp}(m:∀b,O b->eN (H b))(g:Kp O H H'):∀{ι:List (List Kt×V)} {keys:List V},KeysOf K H ι keys->KeysOf K H' ι keys
 |_,_,.nil=>.nil
 |_,_,.cons ⟨b,h1,h2⟩ t=>.cons ⟨b,h1,adY m g h2⟩<|Ue m g t
end
section
end
section
variable {pr:cS}{wo:gu}{A:i7}{R:Result->bE->Prop}{I:Addr}{fp wr:List Addr}{G:Array sQ->Array sQ->Prop}{n:Nat}{P:Nat->a9->Prop}{St:Nat->bE->Prop}
end
section
end
section
end
structure Wr (p:Prop):Prop where
 out:p
section
variable {X:Cx}{E:XK}{e a b c ke:Expr}{es:List Expr}{st:Stmt}{rest sa sb:List Stmt}{f fa fb fk:Zae}{fs:Zad}{ft:Zaf}{gg k ga gb:Zab}{pos pos' apos η np spos p:Pos}{i:Nat}{x:Str}
theorem Qm (h1:Wr (FS X E st gg))(h2:Wr (FSs X E rest k)):Wr (FSs X E (st::rest)<|aA gg k):=⟨aq h1.out h2.out⟩
theorem afG (h1:Wr (FS X E st gg)):Wr (FSs X E [st] gg):=⟨aD h1.out⟩
theorem ace (hN:X.N.Nodup)(hi:X.N[i]? = some x)(hx:Loc X.env.scope x)(he:Wr (FN X E e f))(hs:gX e (some<|.Name x pos') pos.line X.env=pure false:=by rfl)
  (hf:X.fn x=true\/X.env.scope.names.lookup x=some .local:=by first|exact .inl rfl|exact .inr rfl|assumption):Wr (FS X E (.Assign [.Name x pos'] e pos)<|cC i f):=⟨We hN hi hx he.out hs hf⟩
theorem afc (h:Wr (FAE X E es fs)):Wr (FN X E (.List es pos)<|cP fs):=⟨WD h.out⟩
end
section
variable {pr:cS}{wo:gu}{A:i7}{E:Zs}{s:bE}{κ:Type}[DecidableEq κ]{kn:HeapKind pr wo κ}
theorem ab1 (hu:kn.room A)(hk:kn.is s.heap k a)(hm:s.heap.DictOfH kn d xs)(hz:xs.length<=av)
  (old:∀p,BA xs k=some p->Q p.2 { s with toks:=s.toks+kn.draws k })
  (new:BA xs k=none->∀h',h'.DictOfH kn d (xs++[(k,a,v)])->hJ d s.heap h'->Q v { s with heap:=h',toks:=s.toks+kn.draws k }):
  b9 (eB pr wo) A (zo d (.ref a) v) Q E s:=by
 refine Dt (id hm) λo es ep ho hc hd he hi hn=>?_;unfold zo;refine jv<|ab<|kn.pyHash hu hk<|ab<|wpAny_dictFind_heap (s:={ s with toks:=s.toks+kn.draws k }) hu hk ho hd he hi hn (λno=>?_) λj p hj=>?_
 ·have h0:=atKey_none_of_get no;have nk:=not_mem_keys_of_get no;have es1:=yB he;refine ab (rX<|ab<|wpAny_updateDictKeys (hz:=by lia) (s:={ s with toks:=s.toks+kn.draws k }) ho hd (ai<|new h0 _ ⟨_,_,ep+1,fy _ ho<|Obj.isFreed_of_dict<|zh hd _,hc.mapDictKeys _,zh hd _,?_,λy hy=>?_,?_⟩<|eR ..))
  ·simp[he,entryOfKey]
  ·rcases cq.mp hy with z|z
   ·exact kn.keeps (hi y z) ho hd<|eR ..
   ·rw[bg.mp z];exact kn.keeps hk ho hd<|eR ..
  ·rw[bX,ka];refine⟨hn,by simp,λy hy z hz' e=>nk ?_⟩;have e2:z=k:=bg.mp hz';rw[← e2,← e];exact hy
 ·refine ab<|kc (s:={ s with toks:=s.toks+kn.draws k }) ho hd ?_;rw[entry_at he j,hj];exact ab<|rX<|ai<|old p<|atKey_of_get hn hj
theorem Yx (hu:kn.room A.in1)(hk:kn.is s.heap k a)(hm:s.heap.DictOfH kn d xs)(hz:xs.length<=av)(hd:(d==h9)=false)
  (old:∀p,BA xs k=some p->Q p.2 { s with toks:=s.toks+kn.draws k })
  (new:BA xs k=none->∀h',h'.DictOfH kn d (xs++[(k,a,v)])->hJ d s.heap h'->Q v { s with heap:=h',toks:=s.toks+kn.draws k }):
  b9 (eB pr wo) A (call (.builtin "dict.setdefault") [.ref d,.ref a,v]) Q E s:=by
 refine eI rS hm.typeIs PySem.F.entry_dict_setdefault ?_<|PySem.F.args_dict_setdefault_3 _ _ _;unfold A4.«dict.setdefault»;refine ab ?_;unfold Builtin.Dict.keyAndDefault;refine ab<|qq hm.typeIs ?_;show b9 _ _ (pure (d,c9 a,some v)) _ _ s;refine ai ?_;show b9 _ _ (if(d==h9)=true then _ else(zo d (.ref a) v >>= _)) _ _ s;rw[if_neg (by rw[hd];exact be)];exact ab<|ab1 hu hk hm hz (λp e=>ai ⟨p.2,rfl,old p e⟩) λe h' x y=>ai ⟨v,rfl,new e h' x y⟩
end
def ag0 (K:bq)(td ty tx:TE):TE:=λσ H Q=>td σ H λx H1=>∃a,x=.ref a/\IsD K H1 a/\ty σ H1 λy H2=>tx σ H2 λz H3=>∃ι k b,H3 a=some (.dT (KTp K) ι)/\y=.ref b/\TrT (KTp K) H3 b k/\ι.length<av/\
 (∀v,p6 ι k=some v->Q v H3)/\(p6 ι k=none->Q z (upd H3 a<|.dT (KTp K)<|ι++[(k,z)]))
section
theorem adz (hu:X.A.units+16<mE)(ho:PE X o td)(he:PE X e ty)(hf:PE X f tx)(m:M2 X o "setdefault" apos e f η):PE X (.Call (.Attribute o "setdefault" apos) [e,f] [] η) (ag0 X.K td ty tx):=by
 intro π s σ H Q I h;refine wpAny_Call_method m.base m.few m.line lx rS PySem.F.type_dict_setdefault<|thn (ho π s σ H _ I h) λu s1 hE=>?_;obtain⟨x,H1,I1,rx,a,ex,d,q1⟩:=hE;subst ex;cases(show u=c9 a from rx);obtain⟨t1,t2,_⟩:=Xh I1 d;refine⟨t1,t2,?_⟩;rw[m.trees];refine l0 rfl (rg (kx (thn (he π s1 σ H1 _ I1 q1) λiv s2 hE=>xq2 hE λy H2 I2 ry q2=>
  kx (thn (hf π s2 σ H2 _ I2 q2) λfv s3 hE=>pE ?_))))
 obtain⟨z,H3,I3,rz,ι,k,b,e3,ey,eb,l,q3,q4⟩:=hE;subst ey;cases(show iv=c9 b from ry);obtain⟨sz,hd,xs,rel,dd⟩:=WX (zN I3) I3.hok e3;have hz:xs.length<=av:=by rw[← kq rel];exact sz
 have rv:=rel.val k;refine Yx (pR hu) (vM I3 eb) dd hz hd (λp hp=>?_) λhn h' dd' hs=>?_
 ·rw[hp] at rv;cases ev:p6 ι k with
  |none=>rw[ev] at rv;cases rv
  |some v=>
   rw[ev] at rv;exact⟨v,H3,I3.tok _,rv,q3 v ev⟩
 ·rw[hn] at rv;cases ev:p6 ι k with
  |some v=>rw[ev] at rv;cases rv
  |none=>
   have rp:=rel.put k eb rz;rw[Xv _ ev,storedH_new hn] at rp;refine Dt dd' λq es ep hq h2 h3 h4 _ h5=>?_;refine⟨z,upd H3 a<|.dT (KTp X.K)<|ι++[(k,z)],yG I3 (by rw[e3];exact iA) hs ⟨q,hq⟩ ⟨by rw[a8,dS];lia,hd,_,rp.keeps λc ys ec=>?_,q,es,ep,hq,h2,h3,h4,h5⟩,rz,q4 ev⟩;rw[bz<|K7 ec e3 λz=>nomatch z];exact ec
end
def abH (i:Nat)(fk fv:Zae):Zab:=λm=>(ofO<|Cp m i).bind λo=>(fk m).bind λk=>(fv m).bind λd=>(ofO<|vf k).bind λk=>
 if o.2.1.length<av then .ok (.nx,if(bJ o.2.1 o.2.2 k).isSome then m else qu m i o.1 (o.2.1++[k]) (o.2.2++[d])) else .stuck
section
theorem adg (i:Nat)(hr:eE jj X.A)(hk:FE X E ke fk)(he:FE X E e f)(hm:M2 X (.Name x np) "setdefault" apos ke e η)(hN:X.N[i]? = some x:=by rfl)(hv:Vis X.env.scope x:=by first|exact iS rfl|exact hZ (iS rfl)|exact hZ (hZ rfl))(hd:(x==("__debug__":Str))=false:=by decide)(hcd:(x==("__classdict__":Str))=false:=by decide)
  (μ:gX (.Call (.Attribute (.Name x np) "setdefault" apos) [ke,e] [] η) none pos.line X.env=pure false:=by rfl):FS X E (.Expr (.Call (.Attribute (.Name x np) "setdefault" apos) [ke,e] [] η) pos) (abH i fk f):=
 cB (yO (adz (jG hr) (m8 hN hv hd hcd) hk he hm) μ) λW σ H hE=>xq5 hE λO0 M0 H0 ow m R q=>by
  obtain⟨o,ho,q⟩:=Ss.ofO q;obtain⟨k,ks,ds⟩:=o;refine LC (Sq R.toRel ho) λa ι e1 e2 e3 e4 e5 e6=>?_;refine⟨_,e2,a,rfl,.inr ⟨ι,.inl e3⟩,O0,M0,H0,ow,m,R.toRel,(Ss.pu R.toRel q).imp (aC.refl _) λdk q vk H1 g1 hvk=>?_⟩;have R1:=R.mono g1;refine⟨O0,M0,H0,ow,m,R1.toRel,(Ss.pu R1.toRel<|q.go<|Go.refl g1).imp (aC.refl _) λd q v H2 g2 hv=>?_⟩;obtain⟨ky,h1,q⟩:=Ss.ofO q;obtain⟨b,rfl,hb⟩:=uK (.inl<|hvk.mono g2) h1;have R2:=R1.mono g2;have e3':=g2 _ _<|g1 _ _ e3;have e5':=(e5.mono g1).mono g2;have uf:=T8 (k:=ky) e5';rw[e4] at uf;by_cases hz:ks.length<av
  ·rw[if_pos hz] at q;refine⟨ι,ky,b,e3',rfl,hb,by rw[← cm (f:=(·.1)),e4];exact hz,λv' ev=>?_,λev=>?_⟩
   ·rw[ev] at uf;rw[← uf] at q;exact q _ _ _ R2<|Go.refl g2
   ·rw[ev] at uf;rw[← uf] at q;obtain⟨R3,g3⟩:=R2.qu (ls:=ks++[ky]) (es:=ds++[d]) (ι:=ι++[(ky,v)]) e1 e6 (by simp[e4]) (by rw[bX];exact mq e5'<|.cons hv .nil);exact q _ _ _ R3<|(Go.refl g2).trans g3
  ·rw[if_neg hz] at q;exact q.elim
end
def wg (h:Heap)(d:Addr)(es:Array AQ)(ep:Nat):Prop:=∃o,h.get? d=some o/\o.ExactDict/\o.data=.dict es ep
section
variable {prog:cS}{w:gu}{A:i7}{E:Zs}{s:bE}{d it v:Addr}{es:Array AQ}{ep i:Nat}
theorem wg.ty (x:wg s.heap d es ep):s.TypeIs (.ref d) "dict":=let⟨o,h,c,_⟩:=x;⟨o,h,c.1⟩
theorem wg.up (x:wg h d es ep)(k:∀o,h.get? d=some o->h'.get? d=some o):wg h' d es ep:=let⟨o,e,r⟩:=x;⟨o,k o e,r⟩
theorem W4 (nd:(d==h9)=false)(x:wg s.heap d es ep)
  (k:Q (.ref s.heap.objs.size) { s with heap:=s.heap.push { cls:=.type "dict_values",data:=.fields #[.ref d] } }):b9 (eB prog w) A (call (.builtin "dict.values") [.ref d]) Q E s:=by
 refine eI vv x.ty PySem.F.entry_dict_values ?_<|PySem.F.args_dict_values_1 _;refine ab ?_;unfold AA;refine ab<|qq x.ty<|show b9 _ _ (pure d) _ _ s from ai ?_;show b9 _ _ (mh d >>= _) _ _ s;unfold mh;rw[if_neg (λz=>by rw[nd] at z;cases z)];exact ab<|ai<|ab<|eC<|ai ⟨_,rfl,k⟩
theorem agL (hv:s.heap.IsValuesView v d)(x:wg s.heap d es ep)
  (k:Q (.ref s.heap.objs.size) { s with heap:=s.heap.push { cls:=.type "dict_valueiterator",data:=.fields #[.ref d,.int 0 0,.int es.size 0,.int ep 0] } }):b9 (eB prog w) A (BQ<|.ref v) Q E s:=by
 obtain⟨q,hq,hc,hf⟩:=id hv;obtain⟨o,ho,hx,ht⟩:=id x;have no:f7 "dict_valueiterator" = false:=by decide
 refine wpAny_pyIter_slot hv.typeIs qE<|eI qE hv.typeIs PySem.F.entry_dict_values_iter ?_<|PySem.F.args_dict_values_iter_1 _;unfold A4.«dict_values.__iter__»;refine ab<|ai<|ab ?_;unfold tz;refine ab<|fF hq hf (x:=.ref d) rfl<|ai<|ab ?_;unfold qr;refine ab<|kc ho ht<|ab<|ml ho ht ?_;simp only[no,kr,if_false];exact eC<|ai ⟨_,rfl, "dict_valueiterator",_,⟨_,ay _ rfl,rfl⟩,fw.lookup,by simpa[pf] using k⟩
theorem af0 (hit:s.heap.IsValIter it d i es.size ep)(x:wg s.heap d es ep)
  (lt:i<es.size) (go:∀h',h'.IsValIter it d (i+1) es.size ep->hJ it s.heap h'->Q (some es[i].val) { s with heap:=h' }):b9 (eB prog w) A (ub<|.ref it) Q E s:=by
 obtain⟨q,hq,hc,hf⟩:=id hit;obtain⟨o,ho,hx,ht⟩:=id x;have ty:=hit.typeIs;have e1:es[i]? = some es[i]:=ng lt;have no:f7 "dict_valueiterator" = false:=by decide
 have turned:(s.heap.update it<|AS (·.setIfInBounds 1 (pf<|(i:Int)+1))).IsValIter it d (i+1) es.size ep:=
  ⟨_,fy _ hq<|yT<|oP hf _,(Obj.cls_mapFields ..).trans hc,by rw[oP hf];simp[pf]⟩
 have fin:=go _ turned<|eR ..;unfold ub;refine ab<|oQ<|eW (name:=dc "__next__") ty fw<|eI fw ty mS ?_<|mM _;refine ab<|ai<|ab<|ab ?_
 first
 |refine ab (ja ty<|ai<|ab<|nh hq hf ?_)
 |refine ab (kS ty<|ai<|ab<|nh hq hf ?_)
 simp only[no,kr,if_false];show b9 _ _ (if(c9 d==ij)=true then _ else _) _ _ s;rw[if_neg λz=>by cases(show false=true from z)];refine ab<|ai<|ab<|kc ho ht ?_;rw[if_neg<|by simp];refine ab<|ai<|ab<|ml ho ht ?_;rw[if_neg<|by simp];refine ai ?_;simp only[show ¬((i:Int)<0) by lia,if_false,kT,e1];refine ab ?_
 first
 |refine ab (ja ty<|ai<|ab<|mo ty ?_)
 |refine ab (kS ty<|ai<|ab<|mo ty ?_)
 show b9 _ _ (setField (.ref it) 1 (pf<|(i:Int)+1) >>= _) _ _ s;refine ab<|qh hq hf (by simp)<|ab<|jv ?_;refine ab<|mo (s:={ s with heap:=s.heap.update it (AS (·.setIfInBounds 1 (pf<|(i:Int)+1))) }) turned.typeIs ?_;refine ab<|mo (s:={ s with heap:=s.heap.update it (AS (·.setIfInBounds 1 (pf<|(i:Int)+1))) }) turned.typeIs ?_;exact(show b9 _ _ (pure es[i].val) _ _ _ from ai (ai ⟨_,rfl,ai fin⟩))
theorem VN (hh:A.handled=none)(hit:s.heap.IsValIter it d es.size es.size ep)(x:wg s.heap d es ep)
  (go:∀h',BI it s.heap h'->Q none { s with heap:=h' }):b9 (eB prog w) A (ub<|.ref it) Q E s:=by
 obtain⟨q,hq,hc,hf⟩:=id hit;obtain⟨o,ho,hx,ht⟩:=id x;have ty:=hit.typeIs;have e1:es[es.size]? = none:=xC<|aI _;have no:f7 "dict_valueiterator" = false:=by decide
 unfold ub;refine ab<|oQ<|eW (name:=dc "__next__") ty fw<|eI fw ty mS ?_<|mM _;refine ab<|ai<|ab<|ab ?_
 first
 |refine ab (ja ty<|ai<|ab<|nh hq hf ?_)
 |refine ab (kS ty<|ai<|ab<|nh hq hf ?_)
 simp only[no,kr,if_false];show b9 _ _ (if(c9 d==ij)=true then _ else _) _ _ s;rw[if_neg λz=>by cases(show false=true from z)];refine ab<|ai<|ab<|kc ho ht ?_;rw[if_neg<|by simp];refine ab<|ai<|ab<|ml ho ht ?_;rw[if_neg<|by simp];refine ai ?_;simp only[show ¬((es.size:Int)<0) by lia,if_false,kT,e1];refine ab ?_
 first
 |refine ab (ja ty<|ai ?_)
 |refine ab (kS ty<|ai ?_)
 show b9 _ _ (setField (.ref it) 0 .none >>= _) _ _ s;refine ab<|qh hq hf (by simp)<|show b9 _ _ (newExc (.type "StopIteration") [] >>= _) _ _ _ from ab ?_;simp only[newExc,newTuple];refine ab<|eC (ab (m:=nt _ _)<|wpAny_of_eq (a:=ij) (by first|rfl|(simp only[nt];rfl))<|eC ?_<|by size_fits) (by size_fits);simp only[raiseNew];refine ab<|AU ?_;rw[show A.in1.handled=none from hh];refine ab<|ai<|wpAny_throw<|ab ?_;refine nE (T:="StopIteration") (b:=true) ⟨_,ay _ rfl,rfl⟩ zt<|ai ?_;exact go _<|((eR ..).extBut.push _).push _
theorem agP (hh:A.handled=none)(ne:d≠it):Walks prog w A it [it,d] [it] es.size (λi v=>∃e,es[i]? = some e/\v=e.val) (λi h=>h.IsValIter it d i es.size ep/\wg h d es ep) where
 sub:=λb hb=>by simp at hb;simp[hb]
 frame:=λ_ _ _ st hk=>⟨let⟨o,e,r⟩:=st.1;⟨o,hk it (by simp) o e,r⟩,st.2.up λo e=>hk d (by simp) o e⟩
 item:=λi s Q E hi st go=>af0 st.1 st.2 hi λh' a b=>go _ h' s.toks ⟨_,ng hi,rfl⟩ ⟨a,st.2.up λo e=>(b.2 d ne).trans e⟩ λc o hc e=>(b.2 c λz=>hc<|by simp[z]).trans e
 done:=λs Q E st go=>VN hh st.1 st.2 λh' a=>go h' s.toks λc o hc e=>a c o (λz=>hc<|by simp[z]) e
 self:=λ_ _ _ _ st k=>wpAny_pyIter_valiter st.1 k
end
section
variable {X:Cx}
def JF (p a:Addr)(h:Heap):Prop:=h.IsValuesView p a
theorem XS (I:Inv X π σ H s)(e:H a=some (.dT T ι)):
  ι.length<=av/\(a==h9)=false/\∃es ep,wg s.heap a es ep/\es.size=ι.length/\Vals (ι.map (·.2)) (es.toList.map (·.val)):=by
 obtain⟨hz,hd,xs,rel,o,es,ep,ho,hx,ht,he,nd⟩:=I.hok a _ e;refine⟨hz,hd,es,ep,⟨o,ho,hx,ht⟩,?_,?_⟩
 ·rw[yB he,kq rel]
 ·rw[he,cy];clear he hz hd nd e;induction rel with
  |nil=>exact .nil
  |cons h _ ih=>exact .cons h.2.2 ih
def af8 (X:Cx):V->List V->Hp->VK->Prop:=λx vs H Q=>∃a ι,x=.ref a/\vs=[]/\H a=some (.dT (KTp X.K) ι)/\∀p,H p=none->Q (.ref p) (upd H p<|.ext<|JF p a)
theorem abi:MtR X "dict.values" (af8 X):=by
 intro π s σ H x vs v us Q I rx rv h;obtain⟨a,ι,rfl,rfl,e,q⟩:=h;cases rx;have hus:=rv.zero;subst hus;obtain⟨hz,hd,es,ep,x,_⟩:=XS I e;refine W4 hd x ?_;refine⟨.ref _,_,I.laid (t':=s.toks) (λb o e=>ag _ e) (aI _)<|show cU X.prog X.w _ _ _ (.ext<|JF s.heap.objs.size a) from⟨⟨_,ay _ rfl,rfl,rfl⟩,⟨_,ay _ rfl⟩,λh1 h2 ⟨o,e,r⟩ k=>⟨o,k o e,r⟩⟩,rfl,q _<|I.hok.fresh<|aI _⟩
theorem ag2 {es:Array AQ}:W.KdlSrc X.prog X.w "dict_values" r d es.size (λi v=>∃e,es[i]? = some e/\v=e.val) (λh=>h.IsValuesView r d/\wg h d es ep) where
 type:=λ_ m=>m.1.typeIs
 there:=λ_ m=>⟨let⟨_,e,_⟩:=m.1;aT e,let⟨_,e,_⟩:=m.2;aT e⟩
 keep:=λ_ _ m k=>⟨let⟨o,e,x⟩:=m.1;⟨o,k r (.inl rfl) o e,x⟩,m.2.up λo e=>k d (.inr rfl) o e⟩
 notList:=by decide
 notTuple:=by decide
 hint:=λ_ _ _ _ m q=>W.kdl_hint_values m.1.typeIs q
 iter:=λ_ _ hh m=>⟨_,_,(λ_ _ q=>agL m.1 m.2 q),agP hh (let⟨_,e,_⟩:=m.2;c6 (aT e)),⟨⟨_,ay _ rfl,rfl,rfl⟩,m.2.up λo e=>ag _ e⟩⟩
def rLV (X:Cx):List V->Hp->VK->Prop:=λxs H Q=>∃p a ι,xs=[.ref p]/\H p=some (.ext<|JF p a)/\H a=some (.dT (KTp X.K) ι)/\∀l,H l=none->Q (.ref l) (upd H l<|.lst<|ι.map (·.2))
theorem O2 (hc:X.calm=true):lC X (.type "list") (rLV X):=by
 intro π s σ H xs us Q I r h;obtain⟨p,a,ι,rfl,hp,e,q⟩:=h;obtain⟨u,rfl,rx⟩:=vals1 r;cases rx;obtain⟨hz,hd,es,ep,x,sz,rel⟩:=XS I e;obtain⟨vw,_⟩:=I.hok p _ hp;refine W.kdl_call (ag2 (ep:=ep)) (I.ok.hd hc) ⟨vw,x⟩ (by lia) λh' tk acc c kp oS it=>?_;have ea:acc.toList=es.toList.map (·.val):=by
  obtain⟨z,h⟩:=it;refine xl (by simp[z]) λi h1 h2=>?_;obtain⟨y,ey,ev⟩:=h i acc[i] (by simp at h1;simp[h1]);obtain⟨lt,ey⟩:=sN.mp ey;simp only[Array.getElem_toList,xo];rw[ev,ey]
 refine⟨.ref _,_,I.laid (t':=tk) kp (aI _)<|show cU X.prog X.w _ h' _ (.lst<|ι.map (·.2)) from⟨by rw[cm];exact hz,es.toList.map (·.val),c,rel,?_⟩,rfl,q _<|I.hok.fresh<|aI _⟩;rw[← ea];simpa using oS
end
noncomputable def Qw (fo:Zae):Zae:=λm=>(fo m).bind λd=>match d with
 | .dcu _ ds=>.ok<|.lst ds
 |_=>.stuck
section
theorem YK (hc:X.calm=true)(hg:Gl X "list")(hm:X.mg "list" = none)(ho:FB X E o fo)(ξ:iF o "values" X.env (eval o X.env)=eval o X.env:=by rfl)(θ:(apos.endLine==η.line)=true:=by rfl)
  (hs:aS [.Call (.Attribute o "values" apos) [] [] η] X.env=(false,eval (.Call (.Attribute o "values" apos) [] [] η) X.env)::aS [] X.env:=by rfl):
  FN X E (.Call (.Name "list" p) [.Call (.Attribute o "values" apos) [] [] η] [] pos) (Qw fo):=
 aX (Ah (O2 hc) hg hm pH (lQ (Kr lx vv PySem.F.type_dict_values abi ho ξ θ) vD hs) (by decide) (by decide) hs rfl) λσ H Q h=>by
  refine uX h λO0 M0 H0 ow m R q=>?_;refine⟨O0,M0,H0,ow,m,R,q.bind.imp (aC.refl _) λd q v H1 g1 hv=>?_⟩;cases d with
  |dcu ks ds=>
   obtain⟨a,ι,rfl,e,e1,hd⟩:∃a ι,v=.ref a/\H1 a=some (.dT (KTp X.K) ι)/\ι.map (·.1)=ks/\DVs (gx X) (Ow O0 ow) H1 (ι.map (·.2)) ds:=by
    rcases hv with hv|⟨a,rfl,_,hv⟩
    ·cases hv with
     |dcu n e a b hs=>subst b;exact⟨_,_,rfl,e,a,hs⟩
    ·refine vO hv λι vs e a1 b1 hs=>?_;subst b1;exact⟨a,ι,rfl,e,a1,hs⟩
   refine⟨.inr<|.inr<|.inl ⟨rfl,.inr ⟨_,ι,.inl e⟩⟩,a,ι,rfl,rfl,e,λb hb=>?_⟩;have ne:a≠b:=λz=>by rw[z,hb] at e;cases e
   refine⟨b,a,ι,rfl,aM,by rw[bz ne];exact e,λl hl=>?_⟩;have nb:l≠b:=λz=>by rw[z,aM] at hl;cases hl
   have hl1:H1 l=none:=by rw[bz nb] at hl;exact hl
   have gg:aC H1 (upd (upd H1 b<|.ext<|JF b a) l<|.lst<|ι.map (·.2)):=(aV hb _).trans<|aV hl _;exact q l _ (g1.trans gg) (g1.free hl1) ⟨_,aM,(hd.bI λc z=>z.elim .inl λe=>.inr (by rw[e];exact hl1)).mono gg⟩
  |_=>exact q.elim
end
def aev (K:bq)(tk tv:TE):TE:=λσ H Q=>∀p,H p=none->tk σ (upd H p<|.dT (KTp K) []) λx H1=>tv σ H1 λy H2=>
 H2 p=some (.dT (KTp K) [])/\∃ks b,x=.ref b/\TrT (KTp K) H2 b ks/\Q (.ref p) (upd H2 p<|.dT (KTp K) [(ks,y)])
section
theorem Xc (hu:X.A.units+16<mE)(hk:PE X k tk)(hv:PE X v tv):PE X (.Dict [some k] [v] pos) (aev X.K tk tv):=by
 intro π s σ H Q I q;have hn:=I.hok.fresh<|aI s.heap.objs.size;have I1:=I.laid (a:=s.heap.objs.size) (o:=.dT (KTp X.K) []) (h':=s.heap.push { cls:=.type "dict",data:=.dict #[] }) (t':=s.toks) (λ_ _ q=>ag _ q) (aI _)<|Ms s.heap I.big;have pl:(pairTrees [some k] [v] X.env pos).length=1:=pairTrees_length [some k] [v] X.env pos rfl rfl;rw[arm_eval_Dict,zip_pairTrees [some k] [v] X.env pos rfl rfl,dictDisplay_pairs _ (λz=>by rw[z] at pl;cases pl) (by rw[pl];decide)];refine ab<|rL<|ab ?_;unfold subDict;refine ab<|wpAny_alloc<|ab<|jv ?_;rw[if_pos (by rw[pl];decide)];refine ab<|pairTrees_cons_walk<|thn (hk π _ σ _ _ I1<|q _ hn) λu s1 ⟨x,H1,J1,rx,q1⟩=>thn (hv π s1 σ H1 _ J1 q1) λr s2 hE=>pairTrees_nil_walk<|jv ?_;obtain⟨y,H2,I2,ry,e,ks,b,ex,eb,q2⟩:=hE;subst ex;cases(show u=c9 b from rx);obtain⟨z,hd,xs,rel,dd⟩:=WX (zN I2) I2.hok e;cases rel;rw[oI];refine ab<|ab ?_;show b9 _ _ (dictSet s.heap.objs.size (.ref b) r >>= _) _ _ s2;refine(ab<|wpAny_dictSet_heap (hsz:=f6 _) (show X.A.units+8<mE by lia) (vM I2 eb) dd λh' dd' hs=>ai ?_);dsimp only;rw[zv];refine ai<|ai<|ai<|ai ?_;refine Dt dd' λqo es ep hq h2 h3 h4 _ h5=>?_;refine⟨.ref s.heap.objs.size,upd H2 s.heap.objs.size<|.dT (KTp X.K) [(ks,y)],yG I2 (by rw[e];exact iA) hs ⟨qo,hq⟩ ⟨by show 1<=_;decide,hd,_,?_,qo,es,ep,hq,h2,h3,h4,h5⟩,rfl,q2⟩;refine KT.keeps (H:=H2) (Paired.cons ⟨rfl,eb,ry⟩ .nil) λc ys ec=>?_;rw[bz<|K7 ec e λz=>nomatch z];exact ec
end
def PK (fk fv:Zae):Zae:=λm=>(fk m).bind λk=>(fv m).bind λd=>(ofO<|vf k).bind λks=>.ok<|.dcu [ks] [d]
section
theorem XR (hr:eE j X.A)(hk:FE X E k fk)(hv:FE X E v fv):FN X E (.Dict [some k] [v] pos) (PK fk fv):=
 aX (Xc (jG hr) hk hv) λσ H Q hE p hp=>by
  refine uX hE λO0 M0 H0 ow m R q=>?_;have g0:aC H (upd H p<|.dT (KTp X.K) []):=aV hp _;have R1:=R.more g0 hp (by rw[aM];exact .inr<|.inr<|.inl ⟨(KTp X.K,[]),rfl⟩);refine⟨Op O0 p,M0,H0,ow,m,R1,q.bind.imp g0 λkd q x H1 g1 hx=>⟨Op O0 p,M0,H0,ow,m,R1.mono g1,q.bind.imp (g0.trans g1) λd q y H2 g2 hy=>?_⟩⟩;obtain⟨ks,h1,q⟩:=q.bind.ofO;obtain⟨b,rfl,hb⟩:=uK (.inl<|hx.mono g2) h1;have e2:H2 p=some (.dT (KTp X.K) []):=g2 _ _<|g1 _ _ aM;have R2:=(R1.mono g1).mono g2;have kp:Kp (Ow (Op O0 p) ow) H2 (upd H2 p<|.dT (KTp X.K) [(ks,y)]):=λc o e n=>by rw[bz λz=>n<|.inl<|.inr z];exact e
  refine⟨e2,ks,b,rfl,hb,q p _ (λc o e=>?_) hp ⟨_,_,aM,rfl,rfl,.cons ((hy.kp R2.mutk kp).bI λc z=>.inl ?_) .nil⟩⟩
  ·rw[bz (λz=>by rw[z,hp] at e;cases e)];exact g2 _ _<|g1 _ _<|g0 _ _ e
  ·rcases z with(z|z)|z
   ·exact .inl<|.inl z
   ·exact .inr z
   ·exact .inl<|.inr z
end
noncomputable def Ac:List ((Zae)×(Zae))->Me->Res (List<|D×D)
 |[],_=>.ok []
 |f::r,m=>(f.1 m).bind λk=>(f.2 m).bind λd=>(Ac r m).bind λl=>.ok ((k,d)::l)
inductive DPs (G:Gx)(O:Zaa)(H:Hp):List (V×V)->List (D×D)->Prop where
 |nil:DPs G O H [] []
 |cons {x y:V} {k d:D} {ps:List (V×V)} {l:List (D×D)}:DV G O H x k->DV G O H y d->DPs G O H ps l->DPs G O H ((x,y)::ps) ((k,d)::l)
theorem DPs.mono (g:aC H H'):∀{ps:List (V×V)} {l:List (D×D)},DPs G O H ps l->DPs G O H' ps l
 |_,_,.nil=>.nil
 |_,_,.cons a b r=>.cons (a.mono g) (b.mono g)<|r.mono g
def Ku:List Key->List D->List (D×D)->Option (List Key×List D)
 |ks,ds,[]=>some (ks,ds)
 |ks,ds,p::r=>(tH p.1).bind λk=>Ku (putD ks ds k p.2).1 (putD ks ds k p.2).2 r
def Ul (fs:List ((Zae)×(Zae))):Zae:=λm=>(Ac fs m).bind λl=>if l.length<=15 then(ofO<|Ku [] [] l).bind λr=>.ok (.dct r.1 r.2) else .stuck
abbrev Mm (X:Cx)(E:XK)(fs:List ((Zae)×(Zae))):List (TE×TE):=fs.map λf=>(tE (gx X) E f.1,tE (gx X) E f.2)
section
theorem MK:∀(fs:List ((Zae)×(Zae))) {H:Hp} {K:List (D×D)->Prop} {Q:List (V×V)->Hp->Prop},aC Hb H->Rel (gx X) O0 M0 H0 ow σ H m->Pu (gx X) E (Ac fs m) Hb K->
  (∀l ps H',K l->aC H H'->DPs (gx X) (Ow O0 ow) H' ps l->Q ps H')->z9 (Mm X E fs) σ H Q
 |[],H,K,Q,_,R,q,f=>f [] [] H q (aC.refl _) .nil
 |g::r,H,K,Q,gb,R,q,f=>by
  refine⟨O0,M0,H0,ow,m,R,q.bind.imp gb λkd q x H1 g1 hx=>⟨O0,M0,H0,ow,m,R.mono g1,q.bind.imp (gb.trans g1) λd q y H2 g2 hy=>?_⟩⟩;refine MK r ((gb.trans g1).trans g2) ((R.mono g1).mono g2) q.bind λl ps H3 k g3 hl=>?_;exact f _ _ _ k ((g1.trans g2).trans g3)<|.cons ((hx.mono g2).mono g3) (hy.mono g3) hl
theorem Qg:∀{l:List (D×D)} {ps:List (V×V)} {ks rk:List Key} {ds rd:List D} {acc:List (Key×V)},DPs G O H ps l->Ku ks ds l=some (rk,rd)->acc.map (·.1)=ks->DVs G O H (acc.map (·.2)) ds->
  ∃ι:List (Key×V),ps=ι.map (λkv=>(kV kv.1,kv.2))/\(nC acc ι).map (·.1)=rk/\DVs G O H ((nC acc ι).map (·.2)) rd
 |_,_,ks,rk,ds,rd,acc,.nil,e,e1,e2=>by cases e;exact⟨[],rfl,e1,e2⟩
 |_,_,ks,rk,ds,rd,acc,.cons (x:=x) (y:=y) a b r,e,e1,e2=>by
  obtain⟨k,hk,e⟩:=cE.mp e;have ex:=Jo (.inl a) hk;obtain⟨p1,p2⟩:=Tj (k:=k) b e2;rw[e1] at p1 p2;obtain⟨ι,q1,q2,q3⟩:=Qg (acc:=putK acc k y) r e p1 p2;exact⟨(k,y)::ι,by rw[ah,← q1,ex],q2,q3⟩
theorem DPs.bI (s:∀b,O' b->O b\/H b=none):∀{ps:List (V×V)} {l:List (D×D)},DPs G O H ps l->DPs G O' H ps l
 |_,_,.nil=>.nil
 |_,_,.cons a b r=>.cons (a.bI s) (b.bI s)<|r.bI s
theorem DPs.len:∀{ps:List (V×V)} {l:List (D×D)},DPs G O H ps l->ps.length=l.length
 |_,_,.nil=>rfl
 |_,_,.cons _ _ r=>by rw[cw,cw,r.len]
theorem abT (h:PPs X pos keys values (Mm X E fs))(hall:keys.all (·.isSome)=true)(hl:keys.length=values.length)(h0:keys≠[])(h15:keys.length<=15):
  FN X E (.Dict keys values pos) (Ul fs):=
 aX (Uy h hall hl h0 h15) λσ H Q hE p hp=>by
  refine uX hE λO0 M0 H0 ow m R q=>?_;have g0:aC H (upd H p<|.dK []):=aV hp _;have R1:=R.more g0 hp (by rw[aM];exact .inr<|.inl ⟨[],rfl⟩);refine MK fs g0 R1 q.bind λl ps H2 q g2 hl2=>?_;obtain⟨hz,q⟩:=GD q;obtain⟨r,h1,q⟩:=q.bind.ofO;have R2:=R1.mono g2;have e2:H2 p=some (.dK []):=g2 _ _ aM;obtain⟨ι,q1,q2,q3⟩:=Qg (acc:=[]) hl2 h1 rfl .nil;have len:=hl2.len;rw[q1,cm] at len;have kp:Kp (Ow (Op O0 p) ow) H2 (upd H2 p<|.dK<|nC [] ι):=λc o e n=>by rw[bz λz=>n<|.inl<|.inr z];exact e
  refine⟨e2,ι,q1,by lia,q p _ (λc o e=>?_) hp ⟨_,_,aM,q2,rfl,(q3.kp R2.mutk kp).bI λc z=>.inl ?_⟩⟩
  ·rw[bz (λz=>by rw[z,hp] at e;cases e)];exact g2 _ _<|g0 _ _ e
  ·rcases z with(z|z)|z
   ·exact .inl<|.inl z
   ·exact .inr z
   ·exact .inl<|.inr z
end
section
end
section
variable {pr:cS}{wo:gu}{κ:Type}[DecidableEq κ]{kn:KeyKind pr wo κ}{A:i7}{R:Result->bE->Prop}{I:Addr}{fp wr:List Addr}{G:Array sQ->Array sQ->Prop}{n:Nat}{P:Nat->a9->Prop}{St:Nat->bE->Prop}
end
section
variable {pr:cS}{wo:gu}{κ:Type}[DecidableEq κ]{kn:KeyKind pr wo κ}{A:i7}{E:Zs}{s:bE}
end
section
end
def Bs (ls:List Key)(us:List D):List Key->List D->Option Bool
 |[],[]=>some true
 |k::ks,d::ds=>match Ba ls us k with
  |none=>some false
  |some y=>(rP d y).bind λe=>(Bs ls us ks ds).map (e && ·)
 |_,_=>none
def Hq:D->D->Option Bool
 | .dct ks vs,.dct ls us=>if ks.length=ls.length then Bs ls us ks vs else some false
 |_,_=>none
def Xk (d e:D):Option Bool:=(Hq d e).map (!·)
section
theorem RB (I:Inv X π σ H s){O:Zaa}{A:i7}(hu:A.in1.units+64<mE){kvb:List (Key×V)}{kwb:List (Key×a9)}{us:List D}(rb:KV kvb kwb)(hb:DVs (gx X) O H (kvb.map (·.2)) us):
  ∀{kva:List (Key×V)} {kwa:List (Key×a9)} {vs:List D} {r:Bool},KV kva kwa->DVs (gx X) O H (kva.map (·.2)) vs->Bs (kvb.map (·.1)) us (kva.map (·.1)) vs=some r->W.KeqHits A.in1 s kwb kwa r:=by
 intro kva kwa vs r ra;unfold KV at ra;induction ra generalizing vs r with
 |nil=>intro h e;cases h;cases e;exact .nil
 | @cons p q ps qs h t ih=>
  intro hd e;cases hd with
  |cons a rest=>
   obtain⟨k,x⟩:=p;obtain⟨k',w⟩:=q;obtain⟨e1,e2⟩:=h;simp only at e1 e2;subst e1;have vb:=Dm (k:=k) hb;have rv:=rb.val k;rw[ah,Bs] at e;rcases vb with⟨v,d,b1,b2,b3⟩|⟨b1,b2⟩
   ·rw[b2] at e;obtain⟨c,h1,h2⟩:=cE.mp e;obtain⟨r',h3,rfl⟩:=kg.mp h2;obtain⟨pa,pb,t1,t2,z1,z2,rfl⟩:=tV h1;rw[b1] at rv;cases ev:yi kwb k with
    |none=>rw[ev] at rv;cases rv
    |some y=>
     rw[ev] at rv;obtain⟨as,r1⟩:=(qP (.inl a) t1).reads I e2;obtain⟨bs,r2⟩:=(qP (.inl b3) t2).reads I rv;exact .hit ev (W.keq_at r1 r2 z1 z2 hu)<|ih rest h3
   ·rw[b2] at e;cases e;rw[b1] at rv;cases ev:yi kwb k with
    |none=>exact .miss ev
    |some y=>rw[ev] at rv;cases rv
theorem SJ (hx:DW (gx X) O H x d)(hy:DW (gx X) O H y e)(hr:Hq d e=some r):
  ∃a b kva kvb vs us,x=.ref a/\y=.ref b/\Rd H a (.dK kva)/\Rd H b (.dK kvb)/\DVs (gx X) O H (kva.map (·.2)) vs/\DVs (gx X) O H (kvb.map (·.2)) us/\
   ((kva.length=kvb.length/\Bs (kvb.map (·.1)) us (kva.map (·.1)) vs=some r)\/(¬kva.length=kvb.length/\r=false)):=by
 match d,e,hr with
 | .dct ks vs,.dct ls us,hr=>
  obtain⟨a,kva,wa,rfl,ha,rfl,rfl,hda⟩:=Bm hx;obtain⟨b,kvb,wb,rfl,hb,rfl,rfl,hdb⟩:=Bm hy;refine⟨a,b,kva,kvb,vs,us,rfl,rfl,ha,hb,hda,hdb,?_⟩;unfold Hq at hr;simp only[cm] at hr;by_cases z:kva.length=kvb.length
  ·rw[if_pos z] at hr;exact .inl ⟨z,hr⟩
  ·rw[if_neg z] at hr;cases hr;exact .inr ⟨z,rfl⟩
theorem abo (hr0:eE j X.A):OpR X (fN .Eq) (rGB (gx X) Hq):=by
 intro π s σ H x y v u Q I rx ry h;refine fQ h λO d e r m hx hy hr q=>?_;obtain⟨a,b,kva,kvb,vs,us,rfl,rfl,ha,hb,hda,hdb,hz⟩:=SJ hx hy hr;cases(show v=c9 a from rx);cases(show u=c9 b from ry);obtain⟨za,na,kwa,ra,da⟩:=uP I.hok ha;obtain⟨zb,nb,kwb,rb,db⟩:=uP I.hok hb;have hu:X.A.in1.units+64<mE:=by have:=hr0.un;show X.A.units+1+64<mE;lia
 have la:=ra.length;have lb:=rb.length;refine W.keq_eq (r:=r) na nb da db hr0.W6 (λz=>?_) ?_
 ·rcases hz with⟨_,hh⟩|⟨n,_⟩
  ·exact RB I hu rb hdb ra hda hh
  ·exact absurd (by lia) n
 ·refine bL I q ?_;rcases hz with⟨z,_⟩|⟨n,rfl⟩
  ·rw[show(kwa.length==kwb.length)=true by simpa using(by lia:kwa.length=kwb.length)];rfl
  ·simp
theorem aaf (hr0:eE j X.A):OpR X (fN .NotEq) (rGB (gx X) Xk):=by
 intro π s σ H x y v u Q I rx ry h;refine fQ h λO d e r' m hx hy hr' q=>?_;obtain⟨r,hr,rfl⟩:=kg.mp hr';obtain⟨a,b,kva,kvb,vs,us,rfl,rfl,ha,hb,hda,hdb,hz⟩:=SJ hx hy hr;cases(show v=c9 a from rx);cases(show u=c9 b from ry);obtain⟨za,na,kwa,ra,da⟩:=uP I.hok ha;obtain⟨zb,nb,kwb,rb,db⟩:=uP I.hok hb;have hu:X.A.in1.units+64<mE:=by have:=hr0.un;show X.A.units+1+64<mE;lia
 have la:=ra.length;have lb:=rb.length;refine W.keq_ne (r:=r) na nb da db hr0.W6 (λz=>?_) ?_
 ·rcases hz with⟨_,hh⟩|⟨n,_⟩
  ·exact RB I hu rb hdb ra hda hh
  ·exact absurd (by lia) n
 ·refine bL I q ?_;rcases hz with⟨z,_⟩|⟨n,rfl⟩
  ·rw[show(kwa.length==kwb.length)=true by simpa using(by lia:kwa.length=kwb.length)];rfl
  ·simp
end
section
theorem Vu (nd:(d==h9)=false)(x:wg s.heap d es ep)
  (k:Q (.ref s.heap.objs.size) { s with heap:=s.heap.push { cls:=.type "dict_items",data:=.fields #[.ref d] } }):b9 (eB prog w) A (call (.builtin "dict.items") [.ref d]) Q E s:=by
 refine eI w8 x.ty PySem.F.entry_dict_items ?_<|PySem.F.args_dict_items_1 _;unfold A4.«dict.items»;refine ab ?_;unfold AA;refine ab<|qq x.ty<|show b9 _ _ (pure d) _ _ s from ai ?_;show b9 _ _ (mh d >>= _) _ _ s;unfold mh;rw[if_neg (λz=>by rw[nd] at z;cases z)];exact ab<|ai<|ab<|eC<|ai ⟨_,rfl,k⟩
theorem agd (hv:s.heap.IsItemsView v d)(x:wg s.heap d es ep)
  (hQ:Q (.ref s.heap.objs.size) { s with heap:=s.heap.push { cls:=.type "dict_itemiterator",data:=.fields #[.none,.bool false,.ref d,.int 0 0,.int es.size 0,.int ep 0,.none,.none] } }):
  b9 (eB prog w) A (BQ<|.ref v) Q E s:=by
 obtain⟨ov,hov,hcv,hdv⟩:=id hv;obtain⟨o,ho,hc,hdat⟩:=id x;refine wpAny_pyIter_slot hv.typeIs rV<|eI rV hv.typeIs PySem.F.entry_dict_items_iter ?_<|PySem.F.args_dict_items_iter_1 _;unfold A4.«dict_items.__iter__»;refine ab<|ai ?_;refine ab ?_;unfold tz;refine ab<|fF hov hdv (x:=.ref d) rfl<|ai ?_;refine ab ?_;unfold qr;refine ab<|kc ho hdat ?_;refine ab<|ml ho hdat ?_;have hown:f7 "dict_itemiterator" = true:=by decide
 simp only[hown,if_true];refine eC (ai ⟨_,rfl, "dict_itemiterator",_,⟨_,ay _ rfl,rfl⟩,fI.lookup,?_⟩)
  (by simp only[sizeOk,nN,bb,a8,cw,oD,zD];lia)
 simpa[pf,nN] using hQ
theorem agu (hit:pT s.heap it d i es.size ep ok ov)(x:wg s.heap d es ep)(lt:i<es.size)
  (hQ:∀h',AV h' it d (i+1) es.size ep es[i].key es[i].val s.heap.objs.size->
   h'.get? s.heap.objs.size=some { cls:=.type "tuple",data:=.seq #[es[i].key,es[i].val] }->h'.objs.size=s.heap.objs.size+1->
   (∀b o,b≠it->s.heap.get? b=some o->h'.get? b=some o)->Q (some<|.ref s.heap.objs.size) { s with heap:=h' }):
  b9 (eB prog w) A (ub<|.ref it) Q E s:=by
 obtain⟨hp,g,dr,tk,os⟩:=s;obtain⟨od,hod,hcd,hdd⟩:=id x;have hT:Shared.TypeIs ⟨hp,g,dr,tk,os⟩ (.ref it) "dict_itemiterator":=⟨_,hit,rfl⟩;unfold ub;refine ab (oQ (eW (name:=dc "__next__") hT fI
  (eI fI hT ny ?_<|mT _)))
 refine ab<|ai ?_;refine ab ?_;refine ab ?_
 first|refine ab (iX hT<|ai ?_)|refine ab (kF hT<|ai ?_)
 refine ab<|nh hit rfl ?_;have hown:f7 "dict_itemiterator" = true:=by decide
 simp only[hown,if_true];show b9 _ _ (if(c9 d==ij)=true then _ else _) _ _ _;rw[if_neg<|show ¬((c9 d==ij)=true) from be];refine ab<|ai ?_;refine ab<|kc hod hdd ?_;rw[if_neg<|by simp];refine ab<|ai ?_;refine ab<|ml hod hdd ?_;rw[if_neg<|by simp];refine ai ?_;simp only[show ¬((i:Int)<0) from by lia,if_false,kT,ng lt];refine ab ?_
 first|refine ab (iX hT<|ai ?_)|refine ab (kF hT<|ai ?_)
 refine ab<|pz hT ?_;show b9 _ _ (setField (.ref it) 3 (pf<|(i:Int)+1) >>= _) _ _ ⟨hp,g,dr,tk,os⟩;refine ab<|fx hit (by simp) λh₁ he₁ hs₁=>?_
 replace hs₁:hJ it hp h₁:=hs₁
 replace he₁:pT h₁ it d (i+1) es.size ep ok ov:=by
  have e:((i+1:Nat):Int)=(i:Int)+1:=by lia
  unfold pT;rw[e];simpa[pf] using he₁
 have hT₁:Shared.TypeIs ⟨h₁,g,dr,tk,os⟩ (.ref it) "dict_itemiterator":=⟨_,he₁,rfl⟩;refine ab<|jv ?_;refine ab<|pz hT₁ ?_;refine ab<|pz hT₁ ?_;show b9 _ _ (pe (.ref it) 6 es[i].key es[i].val) _ _ ⟨h₁,g,dr,tk,os⟩;unfold pe;refine ab<|wpAny_newTuple ?_;have he₂:pT (h₁.push { cls:=.type "tuple",data:=.seq #[es[i].key,es[i].val] }) it d (i+1) es.size ep ok ov:=ag _ he₁;generalize hh₂:h₁.push { cls:=.type "tuple",data:=.seq #[es[i].key,es[i].val] }=h₂ at he₂;have hz₁:h₁.objs.size=hp.objs.size:=hs₁.1;have hil:it<hp.objs.size:=aT hit;have ht₂:h₂.get? hp.objs.size=some { cls:=.type "tuple",data:=.seq #[es[i].key,es[i].val] }:=by rw[← hh₂,← hz₁];exact ay _ rfl
 have hz₂:h₂.objs.size=hp.objs.size+1:=by rw[← hh₂,iL,hz₁]
 have hk₂:∀b o,b≠it->hp.get? b=some o->h₂.get? b=some o:=λb o hb e=>by rw[← hh₂];exact ag _<|hs₁.extBut b o hb e
 show b9 _ _ (nS (.ref it) >>= _) _ _ ⟨h₂,g,dr,tk,os⟩;rw[hz₁];clear hh₂ he₁ hs₁ hT₁ hz₁ h₁;refine ab ?_;unfold nS;refine ab<|fF he₂ rfl (x:=.none) rfl<|ai ?_;simp only[if_true];refine ab<|fF he₂ rfl (x:=ok) rfl ?_;refine ab<|fF he₂ rfl (x:=ov) rfl ?_;refine ab<|fx he₂ (by simp) λh₃ he₃ hs₃=>?_
 replace hs₃:hJ it h₂ h₃:=hs₃
 replace he₃:pT h₃ it d (i+1) es.size ep es[i].key ov:=he₃
 refine ab<|fx he₃ (by simp) λh₄ he₄ hs₄=>?_
 replace hs₄:hJ it h₃ h₄:=hs₄
 replace he₄:pT h₄ it d (i+1) es.size ep es[i].key es[i].val:=he₄
 refine ab<|fx he₄ (by simp) λh₅ he₅ hs₅=>?_
 replace hs₅:hJ it h₄ h₅:=hs₅
 replace he₅:AV h₅ it d (i+1) es.size ep es[i].key es[i].val hp.objs.size:=he₅
 refine ab<|fx he₅ (by simp) λh₆ he₆ hs₆=>?_
 replace hs₆:hJ it h₅ h₆:=hs₆
 replace he₆:AV h₆ it d (i+1) es.size ep es[i].key es[i].val hp.objs.size:=he₆
 refine ab<|wx<|ai<|ai ⟨_,rfl,ai<|hQ h₆ he₆ ?_ ?_ ?_⟩
 ·exact hs₆.extBut _ _ (ku hil)<|hs₅.extBut _ _ (ku hil)<|hs₄.extBut _ _ (ku hil)<|hs₃.extBut _ _ (ku hil) ht₂
 ·show h₆.objs.size=hp.objs.size+1;rw[hs₆.1,hs₅.1,hs₄.1,hs₃.1,hz₂]
 ·exact λb o hb e=>hs₆.extBut b o hb<|hs₅.extBut b o hb<|hs₄.extBut b o hb<|hs₃.extBut b o hb<|hk₂ b o hb e
theorem V1 (hh:A.handled=none)(hit:pT s.heap it d i es.size ep ok ov)(x:wg s.heap d es ep)(hge:es.size<=i)
  (hQ:∀h',BI it s.heap h'->Q none { s with heap:=h' }):b9 (eB prog w) A (ub<|.ref it) Q E s:=by
 obtain⟨od,hod,hcd,hdd⟩:=id x;have hT:s.TypeIs (.ref it) "dict_itemiterator":=⟨_,hit,rfl⟩;unfold ub;refine ab (oQ (eW (name:=dc "__next__") hT fI
  (eI fI hT ny ?_<|mT _)))
 refine ab<|ai ?_;refine ab ?_;refine ab ?_
 first|refine ab (iX hT<|ai ?_)|refine ab (kF hT<|ai ?_)
 refine ab<|nh hit rfl ?_;have hown:f7 "dict_itemiterator" = true:=by decide
 simp only[hown,if_true];show b9 _ _ (if(c9 d==ij)=true then _ else _) _ _ s;rw[if_neg<|show ¬((c9 d==ij)=true) from be];refine ab<|ai ?_;refine ab<|kc hod hdd ?_;rw[if_neg<|by simp];refine ab<|ai ?_;refine ab<|ml hod hdd ?_;rw[if_neg<|by simp];refine ai ?_;simp only[show ¬((i:Int)<0) from by lia,if_false,kT,xC hge];refine ab ?_
 first|refine ab (iX hT<|ai ?_)|refine ab (kF hT<|ai ?_)
 show b9 _ _ (setField (.ref it) 2 .none >>= _) _ _ s;refine ab<|qh hit rfl (by simp) ?_;show b9 _ _ (newExc (.type "StopIteration") [] >>= _) _ _ _;refine ab ?_;simp only[newExc,newTuple];refine ab<|eC ?_ (by size_fits);refine ab (m:=nt _ _)<|wpAny_of_eq (a:=ij) (by first|rfl|(simp only[nt];rfl)) ?_;refine eC ?_ (by size_fits);simp only[raiseNew];refine ab<|AU ?_;rw[show A.in1.handled=none from hh];refine ab<|ai<|wpAny_throw ?_;refine ab<|nE (T:="StopIteration") (b:=true) ⟨_,ay _ rfl,rfl⟩ zt ?_;exact ai<|hQ _<|((eR ..).extBut.push _).push _
end
def Itm (d:Addr)(o:Obj)(u:HO)(keys vals:List V):It:=⟨λi H=>H d=some (.frz o u)/\i<keys.length,λi H x H'=>∃y z l,keys[i]? = some y/\vals[i]? = some z/\x=.ref l/\H l=none/\H'=upd H l (.tup [y,z]),λi H=>H d=some (.frz o u)/\i=keys.length⟩
theorem OJ {P:cS}{w:gu}{K:bq}{elts:List Expr}{x1}{pos:Pos}(it d:Addr)(o:Obj)(u:HO)(es:Array AQ)(ep:Nat)(keys vals:List V)(hx:o.ExactDict)(ht:o.data=.dict es ep)(hv:Vals keys (es.toList.map (·.key)))(hw:Vals vals (es.toList.map (·.val))):
  Turn P w K (.Tuple elts x1 pos) (Itm d o u keys vals) [it] it (λi h=>∃ok ov,pT h it d i es.size ep ok ov) where
 mem:=by simp
 obj:=λi h st b hb=>by
  cases bg.mp hb;obtain⟨_,_,e⟩:=st;exact⟨_,e,λv z=>by cases(show zC _=BF v from z)⟩
 keep:=λi h h' st k=>by
  obtain⟨a,b,e⟩:=st;exact⟨a,b,k it (by simp) _ e⟩
 item:=by
  intro X hP hw' hK hc i π s σ H E I hf st hg;subst hP hw' hK;have fe:=hf it (by simp);refine lO fe λf0 f1 f2 f3 f4 f5=>?_;obtain⟨hd,hl⟩:=hg;obtain⟨ho,_⟩:=I.hok d _ hd;have ν:keys.length=es.size:=by have:=hv.length;simpa using this
  have lt:i<es.size:=by lia
  obtain⟨ok,ov,st⟩:=st;obtain⟨y,y1,y2⟩:=JB (i:=i) (u:=es[i].key) hv (by simp[lt]);obtain⟨z,z1,z2⟩:=JB (i:=i) (u:=es[i].val) hw (by simp[lt]);refine agu st ⟨o,ho,hx,ht⟩ lt λh' eo htu hsz kk=>?_;obtain⟨vs,fe'⟩:∃vs,(⟨.type "dict_itemiterator",none,.fields #[pf s.heap.objs.size,.bool false,.ref d,.int (i+1:Nat) 0,.int es.size 0,.int ep 0,es[i].key,es[i].val],#[]⟩:Obj).data=.fields vs:=⟨_,rfl⟩;have I1:Inv X π σ H { s with heap:=s.heap.update it λ_=>⟨.type "dict_itemiterator",none,.fields #[pf s.heap.objs.size,.bool false,.ref d,.int (i+1:Nat) 0,.int es.size 0,.int ep 0,es[i].key,es[i].val],#[]⟩ }:=
   I.turned (t':=s.toks) (λb o hb x=>(cK _ _<|eK hb).trans x) f0 f1 f3 f4 f5
  have k1:∀b u,(s.heap.update it λ_=>⟨.type "dict_itemiterator",none,.fields #[pf s.heap.objs.size,.bool false,.ref d,.int (i+1:Nat) 0,.int es.size 0,.int ep 0,es[i].key,es[i].val],#[]⟩).get? b=some u->h'.get? b=some u:=λb u x=>by
   by_cases q:b=it
   ·subst q;rw[fy _ st<|zM fe'] at x;cases x;exact eo
   ·rw[cK _ _<|eK q] at x;exact kk b u q x
  have sz1:(s.heap.update it λ_=>⟨.type "dict_itemiterator",none,.fields #[pf s.heap.objs.size,.bool false,.ref d,.int (i+1:Nat) 0,.int es.size 0,.int ep 0,es[i].key,es[i].val],#[]⟩).objs.size=s.heap.objs.size:=(eR _ _ _).1;have I2:Inv X π σ (upd H s.heap.objs.size<|.tup [y,z]) { s with heap:=h' }:=
   I1.laid (t':=s.toks) k1 (sT sz1) (show cU X.prog X.w _ _ _ (.tup [y,z]) from⟨(show 2<=av by decide),[es[i].key,es[i].val],.cons y2<|.cons z2 .nil,⟨_,htu,rfl,_,rfl⟩⟩)
  have fr:H s.heap.objs.size=none:=I.hok.fresh<|aI _;have ne1:it≠s.heap.objs.size:=c6<|aT st;refine⟨_,rfl,wpAny_letOwnedTupleGo_items (s:={ s with heap:=h' }) eo λh2 e2 sb=>?_⟩;refine⟨.ref s.heap.objs.size,_,I2.turned (t':=s.toks) (λb o hb y=>(sb.2 b hb).trans y) (by rw[bz ne1];exact f0) f1 f3 f4 f5,rfl,⟨y,z,_,y1,z1,rfl,fr,rfl⟩,⟨_,_,e2⟩,λb hb=>?_⟩;cases bg.mp hb;rw[bz ne1];exact f0
 done:=by
  intro X hP hw' hK hc i π s σ H E I hf st hg;subst hP hw' hK;refine lO (hf it<|by simp) λf0 f1 f2 f3 f4 f5=>?_;obtain⟨hd,hl⟩:=hg;obtain⟨ho,_⟩:=I.hok d _ hd;have ν:keys.length=es.size:=by have:=hv.length;simpa using this
  obtain⟨ok,ov,st⟩:=st;exact V1 (I.ok.hd hc) st ⟨o,ho,hx,ht⟩ (by lia) λh' kk=>⟨rfl,I.turned (t':=s.toks) (λb q hb e=>kk b q hb e) f0 f1 f3 f4 f5⟩
 self:=λA i s Q E st h=>let⟨_,_,st⟩:=st;W.kcp_self st h
section
end
theorem ahd (I:Inv X π σ H s)(e:Rd H a (.dT T ι)):
  ι.length<=av/\(a==h9)=false/\∃es ep,wg s.heap a es ep/\es.size=ι.length:=by
 obtain⟨hz,hd,xs,rel,o,es,ep,ho,hx,ht,he,nd⟩:=(show cU X.prog X.w H s.heap a (.dT T ι) from e.ok I.hok);exact⟨hz,hd,es,ep,⟨o,ho,hx,ht⟩,by rw[yB he,kq rel]⟩
def ahL:List D->Option D
 |[d]=>(dcK d).map λp=>.int p.1.length
 |_=>none
section
variable {X:Cx}
def ahp:List D->Option D
 |[.dcf ks _]=>some<|.lst<|ks.map tupK
 |_=>none
end
section
end
section
def CN (p a:Addr)(h:Heap):Prop:=h.IsItemsView p a
def ad1 (X:Cx):V->List V->Hp->VK->Prop:=λx vs H Q=>∃a o ι,x=.ref a/\vs=[]/\H a=some (.frz o<|.dT (KTp X.K) ι)/\∀p,H p=none->Q (.ref p) (upd H p<|.ext<|CN p a)
theorem Yh:MtR X "dict.items" (ad1 X):=by
 intro π s σ H x vs v us Q I rx rv h;obtain⟨a,o,ι,rfl,rfl,e,q⟩:=h;cases rx;have hus:=rv.zero;subst hus;obtain⟨hz,hd,es,ep,x,_⟩:=ahd I<|.inr ⟨_,e⟩;refine Vu hd x ?_;exact⟨.ref _,_,I.laid (t':=s.toks) (λb o e=>ag _ e) (aI _)<|show cU X.prog X.w _ _ _ (.ext<|CN s.heap.objs.size a) from⟨⟨_,ay _ rfl,rfl,rfl⟩,⟨_,ay _ rfl⟩,λh1 h2 ⟨o,e,r⟩ k=>⟨o,k o e,r⟩⟩,rfl,q _<|I.hok.fresh<|aI _⟩
def ac4 (K:bq)(tl:TE):TI:=λσ H R=>tl σ H λx H1=>∃p d o ι,x=.ref p/\H1 p=some (.ext<|CN p d)/\H1 d=some (.frz o<|.dT (KTp K) ι)/\∀keys,KeysOf K H1 ι keys->R (Itm d o (.dT (KTp K) ι) keys<|ι.map (·.2)) H1
theorem W7 (hl:PE X l tl):PI X (.Tuple elts x1 pt) l (ac4 X.K tl):=by
 intro π s σ H R I h;refine thn (hl π s σ H _ I h) λv s1 hE=>xq2 hE λx H1 I1 r1 q1=>?_;obtain⟨p,d,o,ι,rfl,ep,e,q⟩:=q1;cases r1;obtain⟨ho,z,y,xs,r,o',es,ep',h1,h2,h3,h4,h5⟩:=I1.hok d _ e;cases ho.symm.trans h1;obtain⟨vw,_⟩:=I1.hok p _ ep;have fp:∀b∈[s1.heap.objs.size],vU X π H1 b:=λb hb=>by
  cases bg.mp hb;exact I1.My (aI _)<|I1.hok.fresh<|aI _
 refine agd vw ⟨o,ho,h2,h3⟩ ?_;refine⟨s1.heap.objs.size,[s1.heap.objs.size],_,_,H1,rfl,I1.kept (t':=s1.toks) λb o e=>ag _ e,OJ _ d o _ es ep' (xs.map λq=>V.ref q.2.1) (ι.map (·.2)) h2 h3 ?_ ?_,⟨_,_,ay _ rfl⟩,fp,q _<|Ry r⟩
 ·rw[h4];exact Ii xs
 ·rw[h4,cy];clear h4 h5 q e z ho h1;induction r with
  |nil=>exact .nil
  |cons h _ ih=>exact .cons h.2.2 ih
def rH:List (List Kt)->List D->List D
 |k::ks,d::ds=>.tup [tupK k,d]::rH ks ds
 |_,_=>[]
theorem GC:∀{ks:List (List Kt)} {ds:List D},ks.length=ds.length->(rH ks ds).length=ks.length
 |[],[],_=>rfl
 |_::ks,_::ds,h=>by simp[rH];exact GC<|by simpa using h
theorem Ir:∀{ks:List (List Kt)} {ds:List D} {i:Nat} {k:List Kt} {d:D},ks[i]? = some k->ds[i]? = some d->(rH ks ds)[i]? = some (.tup [tupK k,d])
 |[],_,_,_,_,h,_=>by simp at h
 |_::_,[],_,_,_,_,h=>by simp at h
 |k::ks,d::ds,0,_,_,h,g=>by simp at h g;subst h g;rfl
 |k::ks,d::ds,i+1,_,_,h,g=>by simpa[rH] using Ir (i:=i) (by simpa using h) (by simpa using g)
def abb (f:Zae):Zad:=λm=>(f m).bind λd=>match d with
 | .dcf ks ds=>.ok<|rH ks ds
 |_=>.stuck
theorem Zf (m:∀b,O b->eN (H b))(e:H d=some (.frz o<|.dT (KTp G.K) ι))(hk:KeysOf G.K H ι keys)(hd:DVs G O H (ι.map (·.2)) ds):
  Ai G (Itm d o (.dT (KTp G.K) ι) keys<|ι.map (·.2)) (rH (ι.map (·.1)) ds) (λO' H2=>Ev O H O' H2):=by
 intro O' H2 ev;have e2:H2 d=some (.frz o<|.dT (KTp G.K) ι):=ev.2 _ _ e<|pQ m e CG;have hl:=hk.len;have hl2:=bj hd;have hln:(rH (ι.map (·.1)) ds).length=ι.length:=by rw[GC<|by simpa using hl2];simp
 refine⟨λi hi=>⟨e2,by rw[hln] at hi;lia⟩,λi x H' hi y=>?_,e2,by rw[hln];lia⟩;obtain⟨y,z,l,h1,h2,rfl,fr,rfl⟩:=y;obtain⟨p,b,q1,rfl,q3⟩:=(Ue m ev.2 hk).at h1;obtain⟨d',w1,w2⟩:=qZ (hd.go m ev) h2;exact⟨aV fr _,.tup [tupK p.1,d'],Ir (by simp[q1]) w1,.tup (SqU.of aM)<|.cons ((abd q3).mono<|aV fr _)<|.cons (w2.mono<|aV fr _) .nil⟩
theorem Y6 (h:FE X E o f)(ξ:iF o "items" X.env (eval o X.env)=eval o X.env:=by rfl)(θ:(apos.endLine==η.line)=true:=by rfl):
  FI X E (.Tuple elts x1 pt) (.Call (.Attribute o "items" apos) [] [] η) (abb f):=
 mK (W7<|Kr lx w8 PySem.F.type_dict_items Yh h ξ θ) λσ H R hE=>xq5 hE λO0 M0 H0 ow m Re q=>⟨O0,M0,H0,ow,m,Re,q.bind.imp (aC.refl _) λd q v H' g hv=>by
  cases d with
  |dcf ks ds=>
   cases hv with
   | @dcf a ob ι _ _ _ e1 e2 e3 hs=>
    subst e2 e3;refine⟨.inr<|.inr<|.inl ⟨rfl,.inr ⟨_,ι,.inr ⟨ob,e1⟩⟩⟩,a,ob,ι,rfl,rfl,e1,λb hb=>?_⟩;have ne:a≠b:=λz=>by rw[z,hb] at e1;cases e1
    have gb:=aV (o:=.ext<|CN b a) hb;refine⟨b,a,ob,ι,rfl,aM,by rw[bz ne];exact e1,λkeys hk=>?_⟩;exact q _ _ (g.trans gb)<|Zf ((Re.mono<|g.trans gb).mutk) (by rw[bz ne];exact e1) hk<|hs.mono gb
  |_=>exact q.elim⟩
end
noncomputable def Kz (m:Me)(i:Nat):Option (Bool×D):=match m[i]? with
 |some (.ow d)=>some (true,d)
 |some (.io d)=>some (false,d)
 |_=>none
noncomputable def Cv (m:Me)(i:Nat)(k:Bool)(d:D):Me:=m.set i<|if k then .ow d else .io d
section
theorem abK (R:Rel G O0 M0 H0 ow σ H m){i:Nat}{k:Bool}{d:D}(e:Kz m i=some (k,d)):∃a,ow i=some a/\σ[i]? = some (some<|.ref a)/\OV G (Ow O0 ow) H a d/\((m[i]? = some (.ow d)/\k=true)\/(m[i]? = some (.io d)/\k=false)):=by
 unfold Kz at e;split at e
 ·rename_i q;cases e;refine iy (R.slot i _ q) λa e1 e2 e3 e4=>?_;exact⟨a,e1,e3,e4,.inl ⟨q,rfl⟩⟩
 ·rename_i q;cases e;refine iy (R.slot i _ q) λa e1 e2 e3 e4=>?_;exact⟨a,e1,e3,e4,.inr ⟨q,rfl⟩⟩
 ·cases e
end
def ni {α:Type}(p:Nat)(x:α)(l:List α):List α:=l.take p++x::l.drop p
theorem Gf:(ni p x l).length=l.length+1:=by
 simp[ni];lia
theorem Ux (h:p<=l.length):(ni p x l)[p]? = some x:=by simp_all[dn,Nat.min_eq_left,ni]
theorem QS (h:i<p)(hp:p<=l.length):(ni p x l)[i]? = l[i]?:=by
 unfold ni;rw[c8 (by simp;lia),uk h]
theorem Rq (h:p<=i)(hp:p<=l.length):(ni p x l)[i+1]? = l[i]?:=by grind[dn,Nat.min_eq_left,List.getElem?_cons_succ,tf,ni]
noncomputable def uQ (m:Me)(p:Nat):Option D:=match m[p]? with
 |some (.io d)=>some d
 |_=>none
theorem X6 (h:uQ m p=some d):m[p]? = some (.io d):=by grind[uQ]
section
variable {P:cS}{w:gu}{K:bq}{mg:Zp}{base:Heap}
end
def tAH (G:Gx)(E:XK)(i p:Nat)(f:Zad):TA:=λσ H Q=>∃O0 M0 H0 ow m a,Rel G O0 M0 H0 ow σ H m/\σ[i]? = some (some<|.ref a)/\Pu G E (f m) H λds=>p<=ds.length/\∀us H',aC H H'->DVs G (Ow O0 ow) H' us ds->Q (ni p (.ref a) us) H'
abbrev FAH (X:Cx)(E:XK)(es:List Expr)(i p:Nat)(f:Zad):Prop:=PA X es<|tAH (gx X) E i p f
section
theorem vJ (ha:FAE X E es fs)(hN:X.N[i]? = some y:=by rfl)(hv:Vis X.env.scope y:=by first|exact iS rfl|exact hZ (iS rfl)|exact hZ (hZ rfl))(hd:(y==("__debug__":Str))=false:=by decide)(hcd:(y==("__classdict__":Str))=false:=by decide)
  (he:aS (.Name y np::es) X.env=(false,eval (.Name y np) X.env)::aS es X.env:=by rfl):FAH X E (.Name y np::es) i 0 fs:=
 rA (lQ (m8 hN hv hd hcd) ha he) λσ H Q ⟨O0,M0,H0,ow,m,a,R,ea,q⟩=>
  ⟨_,ea,O0,M0,H0,ow,m,R,q.imp (aC.refl _) λds q vs H' g hv=>q.2 vs H' g hv⟩
theorem yP (ha:FE X E e fa)(hr:FAH X E es i p fs)(he:aS (e::es) X.env=(false,eval e X.env)::aS es X.env:=by rfl):FAH X E (e::es) i (p+1) (aa fa fs):=
 rA (lQ ha hr he) λσ H Q ⟨O0,M0,H0,ow,m,a,R,ea,q⟩=>⟨O0,M0,H0,ow,m,R,q.bind.imp (aC.refl _) λd q v H1 g1 hv=>
  ⟨O0,M0,H0,ow,m,a,R.mono g1,ea,q.bind.imp g1 λds q=>⟨by have:=q.1;simpa using this,λus H2 g2 hus=>q.2 _ H2 (g1.trans g2)<|.cons (hv.mono g2) hus⟩⟩⟩
end
theorem Xs.at (h:Xs G E O0 M0 H0 ow σ H r k)(g:aC H H1):Xs G E O0 M0 H0 ow σ H1 r k:=h.imp (Go.refl g) λ_ _ _ _ _ _ q=>q
noncomputable def adK (i j:Nat)(fs:Zad):Zab:=λm=>(fs m).bind λds=>match ds with
 |[d,e]=>.ok (.nx,(m.set i<|.fz d).set j<|.fz e)
 |_=>.stuck
theorem aeX (hc:X.calm=true)(hN:X.N.Nodup)(hi:X.N[i]? = some x)(hj:X.N[j]? = some y)(hij:i≠j)
  (hx:X.env.scope.names.lookup x=some .local) (hy:X.env.scope.names.lookup y=some .local) (ha:FAE X E [a,b] fs)
  (hw:oz [.Tuple [.Name x px,.Name y py] kt pt] (.Tuple [a,b] k2 pt2) X.env=pure (some [x,y]):=by rfl)
  (hs:oy [.Tuple [.Name x px,.Name y py] kt pt] (.Tuple [a,b] k2 pt2) pos.line X.env=pure false:=by rfl):
  FS X E (.Assign [.Tuple [.Name x px,.Name y py] kt pt] (.Tuple [a,b] k2 pt2) pos) (adK i j fs):=
 cB (aeJ hc hN hi hj hij hx hy ha hw hs) λW σ H hE=>xq5 hE λO0 M0 H0 ow m R q=>⟨O0,M0,H0,ow,m,R.toRel,(Ss.pu R.toRel q).imp (aC.refl _) λds q vs H' g hv=>by
  have z:∃d e,ds=[d,e]:=by
   cases ds with
   |nil=>exact q.elim
   |cons d ds=>cases ds with
    |nil=>exact q.elim
    |cons e ds=>cases ds with
     |nil=>exact⟨d,e,rfl⟩
     |cons _ _=>exact q.elim
  obtain⟨d,e,rfl⟩:=z;cases hv with
  |cons h1 h3=>cases h3 with
  |cons h2 h4=>
   cases h4;refine⟨_,_,rfl,?_⟩;have R1:=(R.mono g).set (i:=i) h1;have R2:=R1.set (i:=j)<|h2.bI λb z=>.inl z.sub;exact q _ _ _ R2<|((Go.refl g).trans Go.set).trans Go.set⟩
section
variable {G:Gx}{O0 M0:Zaa}{H0 H H':Hp}{ow:Os}{σ:L2.St}{m m':Me}
theorem cR.many {ch:Nat->Prop}(R:cR G O0 M0 H0 ow σ H m)(hl:m'.length=m.length)(old:∀i,¬ch i->m'[i]? = m[i]?)(g:Kp (λb=>∃i,ch i/\ow i=some b) H H')
  (new:∀i s,ch i->m'[i]? = some s->Og G (Ow O0 ow) M0 H0 (ow i) (σ[i]?) H' s/\∀d,s≠.bw d) (mu:∀i b,ch i->ow i=some b->eN (H' b)/\(H0 b=none\/M0 b)):cR G O0 M0 H0 ow σ H' m'/\Go O0 ow H ow H':=by
 have mn:∀b,eN (H' b)->H' b≠none:=λb z w=>by rw[w] at z;rcases z with⟨_,e⟩|⟨_,e⟩|⟨_,e⟩|⟨_,e⟩<;>cases e
 have kp:Kp (Ow O0 ow) H H':=λb u e n=>g b u e λ⟨i,_,z⟩=>n<|.inr ⟨i,z⟩;have dom:∀b,H b≠none->H' b≠none:=λb n=>by
  by_cases q:∃i,ch i/\ow i=some b
  ·obtain⟨i,c,e⟩:=q;exact mn b (mu i b c e).1
  ·cases w:H b with
   |none=>exact absurd w n
   |some o=>rw[g b o w q];simp
 refine⟨⟨⟨by rw[hl];exact R.len,λb u e n=>?_,λb z=>dom b<|R.m0 b z,λb z=>?_,R.no0,R.inj,λj hj=>R.out j (by lia),λj s e=>?_⟩,λj d e=>?_⟩,kp,λj b e=>.inl<|.inr ⟨j,e⟩,dom⟩
 ·refine g b u (R.keep b u e n) λ⟨i,c,z⟩=>?_;rcases(mu i b c z).2 with w|w
  ·rw[w] at e;cases e
  ·exact n w
 ·by_cases q:∃i,ch i/\ow i=some b
  ·obtain⟨i,c,e⟩:=q;exact(mu i b c e).1
  ·have:=R.mutk b z
   rcases this with⟨_,e⟩|⟨_,e⟩|⟨_,e⟩|⟨_,e⟩
   ·exact .inl ⟨_,g b _ e q⟩
   ·exact .inr<|.inl ⟨_,g b _ e q⟩
   ·exact .inr<|.inr<|.inl ⟨_,g b _ e q⟩
   ·exact .inr<|.inr<|.inr ⟨_,g b _ e q⟩
 ·by_cases c:ch j
  ·exact(new j s c e).1
  ·rw[old j c] at e;have z:=R.slot j s e;have other:∀{b:Addr} {d:D},ow j=some b->OV G (Ow O0 ow) H b d->OV G (Ow O0 ow) H' b d:=λ{b d} e1 h1=>by
    have nb:¬ ∃i,ch i/\ow i=some b:=λ⟨i,ci,ei⟩=>c<|R.inj j i b e1 ei▸ci;rcases h1.mut with⟨_,e⟩|⟨_,e⟩|⟨_,e⟩|⟨_,e⟩<;>exact h1.kp R.mutk kp (by rw[e];exact g b _ e nb)
   cases s with
   |un=>exact z
   |fz d=>obtain⟨b,x,e,q⟩:=z;exact⟨b,x,e,q.kp R.mutk kp⟩
   |ow d=>obtain⟨b,x,e,f,q'⟩:=z;exact⟨b,x,e,f,other x q'⟩
   |io d=>obtain⟨b,x,e,f,q'⟩:=z;exact⟨b,x,e,f,other x q'⟩
   |bw d=>exact(R.nb j d e).elim
   |hd w b d=>obtain⟨x,e,f,q'⟩:=z;exact⟨x,e,f,other x q'⟩
 ·by_cases c:ch j
  ·exact(new j _ c e).2 d rfl
  ·rw[old j c] at e;exact R.nb j d e
end
noncomputable def OD (j:Nat)(f:Zae):Zae:=λm=>(f m).bind λd=>match d,m[j]? with
 | .adr a,some (.hd _ b d')=>if a=b then .ok d' else .stuck
 |_,_=>.stuck
section
variable {X:Cx}{E:XK}{e b ke:Expr}{f fb fk:Zae}{pos spos:Pos}
theorem adw {m:Me}{j:Nat}{d r:D}(h:(match d,m[j]? with|.adr a,some (.hd _ b d')=>if a=b then Res.ok d' else .stuck|_,_=>.stuck)=.ok r):∃w a,d=.adr a/\m[j]? = some (.hd w a r):=by grind
theorem Vc {m:Me}{j:Nat}{d:D}{c:Str}:(match d,m[j]? with|.adr a,some (.hd _ b d')=>if a=b then Res.ok d' else .stuck|_,_=>.stuck)≠.exc c:=by grind
theorem JL (j:Nat)(h:FE X E e f):FB X E e (OD j f):=aX h λσ H Q hE=>xq5 hE λO0 M0 H0 ow m R q=>⟨O0,M0,H0,ow,m,R,q.bind.imp (aC.refl _) λd q v H' g hv=>by
 cases z:(match d,m[j]? with|.adr a,some (.hd _ b d')=>if a=b then Res.ok d' else .stuck|_,_=>.stuck) with
 |ok r=>
  rw[z] at q;obtain⟨w,a,rfl,e⟩:=adw z;cases hv;obtain⟨x1,x2,x3,x4⟩:=(R.mono g).slot j _ e;exact q _ H' g<|.inr ⟨a,rfl,.inr ⟨j,x1⟩,x4⟩
 |exc c=>exact(Vc z).elim
 |stuck=>rw[z] at q;exact q.elim⟩
noncomputable def zT (m:Me)(j:Nat):Option (Bool×Addr×D):=match m[j]? with
 |some (.hd w a d)=>some (w,a,d)
 |_=>none
theorem Dj (h:zT m j=some (w,a,d)):m[j]? = some (.hd w a d):=by grind[zT]
theorem cR.af2 {G:Gx}{O0 M0:Zaa}{H0 H:Hp}{ow:Os}{σ:L2.St}{m:Me}{j:Nat}{w:Bool}{a:Addr}{d d':D}{o:HO}(R:cR G O0 M0 H0 ow σ H m)(e:m[j]? = some (.hd w a d))(hm:eN (some o))
  (h:Kp (Ow O0 ow) H (L2.upd H a o)->OV G (Ow O0 ow) (L2.upd H a o) a d'):cR G O0 M0 H0 ow σ (L2.upd H a o) (m.set j<|.hd w a d')/\Go O0 ow H ow (L2.upd H a o):=by
 obtain⟨x1,x2,x3,x4⟩:=R.slot j _ e;have kp:Kp (Ow O0 ow) H (L2.upd H a o):=λb u eb n=>qb b u eb λz=>n<|z▸.inr ⟨j,x1⟩;refine R.many (ch:=(· = j)) (by simp) (λi n=>cp<|eK n) (λb u eb n=>qb b u eb λz=>n ⟨j,rfl,by rw[x1,z]⟩) (λi s c es=>?_) λi b c eb=>?_
 ·subst c;rw[bP<|vH e] at es;cases es;exact⟨⟨x1,x2,x3,h kp⟩,λd z=>by cases z⟩
 ·subst c;rw[x1] at eb;cases eb;refine⟨by rw[L2.aM];exact hm,?_⟩;cases w with
  |true=>exact .inl (x2 rfl)
  |false=>exact .inr (x3 rfl)
def DY (j:Nat)(fb fk fv:Zae):Zab:=λm=>(fv m).bind λd=>(fb m).bind λc=>(ofO<|zT m j).bind λo=>(fk m).bind λk=>(ofO<|vf k).bind λk=>match c,o.2.2 with
 | .adr a,.dcu ks ds=>if a=o.2.1/\ks.length<av then .ok (.nx,m.set j<|.hd o.1 a<|.dcu (iu ks ds k d).1 (iu ks ds k d).2) else .stuck
 |_,_=>.stuck
theorem Pg (j:Nat)(hr:eE jj X.A)(he:FE X E e f)(hb:FE X E b fb)(hk:FE X E ke fk)
  (hs:gX e (some<|.Subscript b ke spos) pos.line X.env=pure false:=by rfl):FS X E (.Assign [.Subscript b ke spos] e pos) (DY j fb fk f):=
 cB (Kl (jG hr) hb hk he hs) λW σ H hE=>xq5 hE λO0 M0 H0 ow m R q=>
  ⟨O0,M0,H0,ow,m,R.toRel,(Ss.pu R.toRel q).imp (aC.refl _) λd q v H1 g1 hv=>by
   have R1:=R.mono g1;refine⟨O0,M0,H0,ow,m,R1.toRel,(Ss.pu R1.toRel<|q.go<|Go.refl g1).imp (aC.refl _) λc q vc H2 g2 hc=>?_⟩;have R2:=R1.mono g2;obtain⟨o,ho,q⟩:=Ss.ofO q;obtain⟨w,a,dd⟩:=o;have ho:=Dj ho;refine⟨O0,M0,H0,ow,m,R2.toRel,(Ss.pu R2.toRel<|q.go<|Go.refl g2).imp (aC.refl _) λdk q vk H3 g3 hvk=>?_⟩;obtain⟨ky,h1,q⟩:=Ss.ofO q;obtain⟨b,rfl,hb⟩:=uK (.inl hvk) h1;have R3:=R2.mono g3;cases c with
   |adr a'=>
    cases hc;cases dd with
    |dcu ks ds=>
     by_cases hz:a'=a/\ks.length<av
     ·have q':Ss (gx X) E O0 M0 H0 ow H2 W (if a'=a/\ks.length<av then .ok (.nx,m.set j<|.hd w a'<|.dcu (iu ks ds ky d).1 (iu ks ds ky d).2) else .stuck):=q;rw[if_pos hz] at q';clear q;obtain⟨rfl,hz⟩:=hz;obtain⟨x1,x2,x3,ι,vs,e4,e5,rfl,e6⟩:=R3.slot j _ ho;obtain⟨p1,p2⟩:=QJ (k:=ky) (hv.mono<|g2.trans g3) e6;rw[e5] at p1 p2;obtain⟨R4,g4⟩:=R3.af2 (o:=.dT (KTp X.K)<|putK ι ky v) (d':=.dcu (iu ks ds ky d).1 (iu ks ds ky d).2) ho (.inr<|.inr<|.inl ⟨(_,_),rfl⟩) λkp=>⟨_,_,L2.aM,p1,rfl,p2.kp R3.mutk kp⟩;exact⟨a',_,rfl,Kg.t e4 hb (by rw[← cm (f:=(·.1)),e5];exact hz),q' _ _ _ R4<|(Go.refl g3).trans g4⟩
     ·have q:Ss (gx X) E O0 M0 H0 ow H2 W (if a'=a/\ks.length<av then .ok (.nx,m.set j<|.hd w a'<|.dcu (iu ks ds ky d).1 (iu ks ds ky d).2) else .stuck):=q;rw[if_neg hz] at q;exact q.elim
    |_=>exact q.elim
   |_=>exact q.elim⟩
def Ay (j:Nat)(fb fk fv:Zae):Zab:=λm=>(fv m).bind λd=>(fb m).bind λc=>(ofO<|zT m j).bind λo=>(fk m).bind λk=>match c,o.2.2,k with
 | .adr a,.lst ds,.int n=>if a=o.2.1 then(ofO<|ixN ds.length n).bind λi=>.ok (.nx,m.set j<|.hd o.1 a<|.lst<|ds.set i d) else .stuck
 |_,_,_=>.stuck
theorem NK (j:Nat)(he:FE X E e f)(hb:FE X E b fb)(hk:FE X E ke fk)
  (ha:∀v,ua (.Subscript b ke spos) X.env v=(do
   let ov←tq [v] (eval b X.env)
   let iv←tq [v,ov] (eval ke X.env)
   standAt spos
   tq [v,ov,iv] (setItem ov iv v)
   release [v,ov,iv] []):=by intro _;rfl)
  (hs:oy [.Subscript b ke spos] e pos.line X.env=pure false:=by rfl) (hw:oz [.Subscript b ke spos] e X.env=pure none:=by rfl)
  (h1:(kl [.Subscript b ke spos] X.env).map (·.2)=[ua (.Subscript b ke spos) X.env]:=by rfl):FS X E (.Assign [.Subscript b ke spos] e pos) (Ay j fb fk f):=
 cB (PL he (Yz hb hk set_list ha) hs hw h1) λW σ H hE=>xq5 hE λO0 M0 H0 ow m R q=>
  ⟨O0,M0,H0,ow,m,R.toRel,(Ss.pu R.toRel q).imp (aC.refl _) λd q v H1 g1 hv=>by
   have R1:=R.mono g1;refine⟨O0,M0,H0,ow,m,R1.toRel,(Ss.pu R1.toRel<|q.go<|Go.refl g1).imp (aC.refl _) λc q vc H2 g2 hc=>?_⟩;have R2:=R1.mono g2;obtain⟨o,ho,q⟩:=Ss.ofO q;obtain⟨w,a,dd⟩:=o;have ho:=Dj ho;refine⟨O0,M0,H0,ow,m,R2.toRel,(Ss.pu R2.toRel<|q.go<|Go.refl g2).imp (aC.refl _) λdk q vk H3 g3 hvk=>?_⟩;have R3:=R2.mono g3;cases c with
   |adr a'=>
    cases hc;cases dd with
    |lst ds=>
     cases dk with
     |int n=>
      cases hvk;have q':Ss (gx X) E O0 M0 H0 ow H2 W (if a'=a then(ofO<|ixN ds.length n).bind λi=>.ok (.nx,m.set j<|.hd w a'<|.lst<|ds.set i d) else .stuck):=q;by_cases hz:a'=a
      ·rw[if_pos hz] at q';clear q;subst hz;obtain⟨i,hi,q⟩:=Ss.ofO q';obtain⟨x1,x2,x3,xs,e4,e5⟩:=R3.slot j _ ho;obtain⟨R4,g4⟩:=R3.af2 (o:=.lst<|xs.set i v) (d':=.lst<|ds.set i d) ho (.inl ⟨_,rfl⟩) λkp=>⟨_,L2.aM,(Aj (hv.mono<|g2.trans g3) i e5).kp R3.mutk kp⟩;exact⟨a',xs,n,i,rfl,rfl,e4,by rw[bj e5];exact hi,q _ _ _ R4<|(Go.refl g3).trans g4⟩
      ·rw[if_neg hz] at q';exact q'.elim
     |_=>exact q.elim
    |_=>exact q.elim
   |_=>exact q.elim⟩
end
def XD (G:Gx)(p:Nat)(Φ:List D->D->Addr×D->Addr×D->Res (D×D×D×D)):Sp:=λvs H Q E=>∃O a us ds d x y,vs=ni p (.ref a) us/\p<=ds.length/\(∀b,O b->eN (H b))/\(O a/\OV G O H a d)/\(O x.1/\OV G O H x.1 x.2)/\(O y.1/\OV G O H y.1 y.2)/\(a≠x.1/\a≠y.1/\x.1≠y.1)/\DVs G O H us ds/\match Φ ds d x y with
 | .ok (r,d',e,f)=>∀v H',Kp (λb=>b=a\/b=x.1\/b=y.1) H H'->OV G O H' a d'->OV G O H' x.1 e->OV G O H' y.1 f->DV G O H' v r->Q v H'
 | .exc c=>∀C H',G.mg c=some (.ref C)->Kp (λb=>b=a\/b=x.1\/b=y.1) H H'->E (.ref C) none H'
 | .stuck=>False
noncomputable def mR (m:Me)(j:Nat)(a:Addr):Option D:=match m[j]? with
 |some (.hd false b d)=>if a=b then some d else none
 |_=>none
theorem Th (h:mR m j a=some d):m[j]? = some (.hd false a d):=by grind[mR]
def runST (p N n:Nat)(g:Zab):List D->D->Addr×D->Addr×D->Res (D×D×D×D):=λds d x y=>if ds.length+1=n then match g (ni p (.io d) (ds.map Sl.fz)++(dA (N-n-2) Sl.un++[.hd false x.1 x.2,.hd false y.1 y.2])) with
  | .ok (.rt _ r,m')=>(ofO<|uQ m' p).bind λd'=>(ofO<|mR m' (N-2) x.1).bind λe=>(ofO<|mR m' (N-1) y.1).bind λf=>.ok (r,d',e,f)
  | .ok (.nx,m')=>(ofO<|uQ m' p).bind λd'=>(ofO<|mR m' (N-2) x.1).bind λe=>(ofO<|mR m' (N-1) y.1).bind λf=>.ok (.non,d',e,f)
  | .exc c=>.exc c
  |_=>.stuck
 else .stuck
abbrev FST (P:cS)(w:gu)(K:bq)(mg:Zp)(base:Heap)(k:Nat)(x:Str)(ps:List Str)(p:Nat)(Φ:List D->D->Addr×D->Addr×D->Res (D×D×D×D)):Prop:=Hd.Fn P w K mg base k x ps<|XD ⟨K,mg⟩ p Φ
noncomputable def ow3 (i j1 j2:Nat)(a a1 a2:Addr):Os:=λk=>if k=i then some a else if k=j1 then some a1 else if k=j2 then some a2 else none
theorem ae8 (h:O a)(h1:O a1)(h2:O a2)(n1:i≠j1)(n2:i≠j2)(n3:j1≠j2):Ow (λb=>O b/\b≠a/\b≠a1/\b≠a2) (ow3 i j1 j2 a a1 a2)=O:=by
 funext b;refine propext ⟨λz=>?_,λz=>?_⟩
 ·rcases z with z|⟨k,e⟩
  ·exact z.1
  ·unfold ow3 at e;split at e
   ·cases e;exact h
   ·split at e
    ·cases e;exact h1
    ·split at e
     ·cases e;exact h2
     ·cases e
 ·by_cases q:b=a
  ·exact .inr ⟨i,by unfold ow3;rw[if_pos rfl,q]⟩
  ·by_cases q1:b=a1
   ·exact .inr ⟨j1,by unfold ow3;rw[if_neg<|eK n1,if_pos rfl,q1]⟩
   ·by_cases q2:b=a2
    ·exact .inr ⟨j2,by unfold ow3;rw[if_neg<|eK n2,if_neg<|eK n3,if_pos rfl,q2]⟩
    ·exact .inl ⟨z,q,q1,q2⟩
theorem Xp {N:List Str}{ds:List D}{x y:Addr×D}(hp:p<=ds.length)(hm:∀b,O b->eN (H b))(ho:O a/\OV G O H a d)(hx:O x.1/\OV G O H x.1 x.2)(hy:O y.1/\OV G O H y.1 y.2)(nd:a≠x.1/\a≠y.1/\x.1≠y.1)(hd:DVs G O H us ds)(hn:ds.length+1=n)(hN:n+2<=N.length):
  cR G (λb=>O b/\b≠a/\b≠x.1/\b≠y.1) (λb=>b=a\/b=x.1\/b=y.1) H (ow3 p (N.length-2) (N.length-1) a x.1 y.1) (L2.start N<|ni p (.ref a) us) H (ni p (.io d) (ds.map Sl.fz)++(dA (N.length-n-2) Sl.un++[.hd false x.1 x.2,.hd false y.1 y.2])):=by
 have hl:=bj hd;have n1:p≠N.length-2:=by lia
 have n2:p≠N.length-1:=by lia
 have n3:N.length-2≠N.length-1:=by lia
 have eO:=ae8 ho.1 hx.1 hy.1 n1 n2 n3;have ν:(ni p (V.ref a) us).length=n:=by rw[Gf,hl];exact hn
 have hst:∀i v,(ni p (V.ref a) us)[i]? = some v->(L2.start N<|ni p (.ref a) us)[i]? = some (some v):=λi v e=>by
  have hi:i<(ni p (V.ref a) us).length:=(fT.mp e).1;unfold L2.start;rw[c8 (by simpa using hi),bt,e];rfl
 have hml:(ni p (Sl.io d)<|ds.map Sl.fz).length=n:=by rw[Gf,cm];exact hn
 have op:ow3 p (N.length-2) (N.length-1) a x.1 y.1 p=some a:=if_pos rfl;have o1:ow3 p (N.length-2) (N.length-1) a x.1 y.1 (N.length-2)=some x.1:=by unfold ow3;rw[if_neg<|eK n1,if_pos rfl]
 have o2:ow3 p (N.length-2) (N.length-1) a x.1 y.1 (N.length-1)=some y.1:=by unfold ow3;rw[if_neg<|eK n2,if_neg<|eK n3,if_pos rfl]
 have on:∀i,i≠p->i≠N.length-2->i≠N.length-1->ow3 p (N.length-2) (N.length-1) a x.1 y.1 i=none:=λi h1 h2 h3=>by unfold ow3;rw[if_neg h1,if_neg h2,if_neg h3]
 have key:∀(i:Nat) (s:Sl),(ni p (Sl.io d) (ds.map Sl.fz)++(dA (N.length-n-2) Sl.un++[.hd false x.1 x.2,.hd false y.1 y.2]))[i]? = some s->
   (i=p/\s=.io d)\/(i≠p/\i<n/\∃d1 v,s=.fz d1/\DV G O H v d1/\(ni p (V.ref a) us)[i]? = some v)\/(n<=i/\i<N.length-2/\s=.un)\/(i=N.length-2/\s=.hd false x.1 x.2)\/(i=N.length-1/\s=.hd false y.1 y.2):=λi s e=>by
  by_cases hi:i<n
  ·rw[c8 (by rw[hml];exact hi)] at e;by_cases q:i=p
   ·subst q;rw[Ux<|by simpa using hp] at e;cases e;exact .inl ⟨rfl,rfl⟩
   ·refine .inr<|.inl ⟨q,hi,?_⟩;by_cases lt:i<p
    ·rw[QS lt (by simpa using hp),bt] at e;cases ed:ds[i]? with
     |none=>rw[ed] at e;cases e
     |some d1=>
      rw[ed] at e;cases e;obtain⟨v,hv,dx⟩:=yf hd ed;exact⟨d1,v,rfl,dx,by rw[QS lt<|by lia];exact hv⟩
    ·obtain⟨j,rfl⟩:∃j,i=j+1:=⟨i-1,by lia⟩;rw[Rq (by lia) (by simpa using hp),bt] at e;cases ed:ds[j]? with
     |none=>rw[ed] at e;cases e
     |some d1=>
      rw[ed] at e;cases e;obtain⟨v,hv,dx⟩:=yf hd ed;exact⟨d1,v,rfl,dx,by rw[Rq (by lia)<|by lia];exact hv⟩
  ·rw[dn (by rw[hml];lia),hml] at e;by_cases hi2:i-n<N.length-n-2
   ·rw[c8 (by simpa using hi2),gL,if_pos hi2] at e;cases e;exact .inr<|.inr<|.inl ⟨by lia,by lia,rfl⟩
   ·rw[dn (by simpa using hi2),gE] at e;rcases(show i-n-(N.length-n-2)=0\/i-n-(N.length-n-2)=1\/2<=i-n-(N.length-n-2) by lia) with z|z|z
    ·rw[z] at e;cases e;exact .inr<|.inr<|.inr<|.inl ⟨by lia,rfl⟩
    ·rw[z] at e;cases e;exact .inr<|.inr<|.inr<|.inr ⟨by lia,rfl⟩
    ·rw[kA<|by simpa using z] at e;cases e
 refine⟨⟨?_,λb o e _=>e,λb z=>?_,λb z=>by rw[eO] at z;exact hm b z,λi b e=>?_,λi j b e1 e2=>?_,λi hi=>?_,λi s e=>?_⟩,λj d' e=>?_⟩
 ·rw[a8,hml,a8,gE];unfold L2.start;rw[a8,cm,ν,gE]
  simp
  lia
 ·have mn:∀b,eN (H b)->H b≠none:=λb z w=>by rw[w] at z;rcases z with⟨_,e⟩|⟨_,e⟩|⟨_,e⟩|⟨_,e⟩<;>cases e
  rcases z with z|z|z
  ·rw[z];exact mn _ ho.2.mut
  ·rw[z];exact mn _ hx.2.mut
  ·rw[z];exact mn _ hy.2.mut
 ·intro z;unfold ow3 at e;split at e
  ·cases e;exact z.2.1 rfl
  ·split at e
   ·cases e;exact z.2.2.1 rfl
   ·split at e
    ·cases e;exact z.2.2.2 rfl
    ·cases e
 ·have inv:∀k b,ow3 p (N.length-2) (N.length-1) a x.1 y.1 k=some b->(k=p/\b=a)\/(k=N.length-2/\b=x.1)\/(k=N.length-1/\b=y.1):=λk b e=>by
   unfold ow3 at e;split at e
   ·rename_i q;cases e;exact .inl ⟨q,rfl⟩
   ·split at e
    ·rename_i q;cases e;exact .inr<|.inl ⟨q,rfl⟩
    ·split at e
     ·rename_i q;cases e;exact .inr<|.inr ⟨q,rfl⟩
     ·cases e
  obtain⟨d1,d2,d3⟩:=nd;rcases inv i b e1 with⟨u1,u2⟩|⟨u1,u2⟩|⟨u1,u2⟩<;>rcases inv j b e2 with⟨w1,w2⟩|⟨w1,w2⟩|⟨w1,w2⟩
  ·rw[u1,w1]
  ·exact absurd (u2.symm.trans w2) d1
  ·exact absurd (u2.symm.trans w2) d2
  ·exact absurd (w2.symm.trans u2) d1
  ·rw[u1,w1]
  ·exact absurd (u2.symm.trans w2) d3
  ·exact absurd (w2.symm.trans u2) d2
  ·exact absurd (w2.symm.trans u2) d3
  ·rw[u1,w1]
 ·rw[a8,hml,a8,gE] at hi;simp at hi;exact on i (by lia) (by lia)<|by lia
 ·rw[eO];rcases key i s e with⟨rfl,rfl⟩|⟨q,hi,d1,v,rfl,dx,hv⟩|⟨q1,q2,rfl⟩|⟨rfl,rfl⟩|⟨rfl,rfl⟩
  ·exact⟨a,op,.inl rfl,hst _ _<|Ux (by lia),ho.2⟩
  ·exact⟨on i q (by lia) (by lia),v,hst _ _ hv,dx⟩
  ·exact on i (by lia) (by lia)<|by lia
  ·exact⟨o1,(λz=>by cases z),λ_=>.inr<|.inl rfl,hx.2⟩
  ·exact⟨o2,(λz=>by cases z),λ_=>.inr<|.inr rfl,hy.2⟩
 ·rcases key j _ e with⟨_,z⟩|⟨_,_,_,_,z,_⟩|⟨_,_,z⟩|⟨_,z⟩|⟨_,z⟩<;>cases z
section
variable {P:cS}{w:gu}{K:bq}{mg:Zp}{base:Heap}
theorem Dw {x qual:Str}{st:Stmt}{f:Addr}{fd:kK}{N ps:List Str}{k:Nat}(p:Nat){g:Zab}(Fu:Fun K x qual st f fd)(S:aG N ps (az st))(hN:ps.length+2<=N.length)
  (hbody:∀(cdv:a9) (A:i7) (outer:List Env) (s:bE) (H:Hp) (E:XK),eE k (A.deeper<|x9 qual (az st) s.heap.objs.size f cdv)->
   FSs (Cy (CX1 P w) P w K mg base N qual (az st) f cdv A outer s H E) E (jQ st) g):rT P w K mg base (CX1 P w) (k+1) f fd ps (XD ⟨K,mg⟩ p<|runST p N.length ps.length g):=by
 have cond:∀{ds:List D} {d:D} {u v:Addr×D},runST p N.length ps.length g ds d u v≠.stuck->ds.length+1=ps.length:=λ{ds d u v} h=>by
  by_cases z:ds.length+1=ps.length
  ·exact z
  ·unfold runST at h;rw[if_neg z] at h;exact absurd rfl h
 refine Q7 Fu S (λvs H Q E h=>?_) λcdv A outer s H vs Q E hr h=>?_
 ·obtain⟨O,a,us,ds,d,u,v,rfl,_,_,_,_,_,_,hd,q⟩:=h;rw[Gf,bj hd];exact cond λz=>by rw[z] at q;exact q
 ·obtain⟨O,a,us,ds,d,u,v,rfl,hp,hm,ho,hu,hv,nd,hd,q⟩:=h;have hn:=cond (ds:=ds) (d:=d) λz=>by rw[z] at q;exact q
  unfold runST at q;rw[if_pos hn] at q;refine⟨_,hbody cdv A outer s H E hr,_,_,H,_,_,Xp hp hm ho hu hv nd hd hn hN,?_⟩;have fin:∀{ow' σ' H' m' d' e' f'},cR (⟨K,mg⟩:Gx) (λb=>O b/\b≠a/\b≠u.1/\b≠v.1) (λb=>b=a\/b=u.1\/b=v.1) H ow' σ' H' m'->uQ m' p=some d'->mR m' (N.length-2) u.1=some e'->mR m' (N.length-1) v.1=some f'->
    Kp (λb=>b=a\/b=u.1\/b=v.1) H H'/\OV ⟨K,mg⟩ O H' a d'/\OV ⟨K,mg⟩ O H' u.1 e'/\OV ⟨K,mg⟩ O H' v.1 f'/\∀z r,DV (⟨K,mg⟩:Gx) (Ow (λb=>O b/\b≠a/\b≠u.1/\b≠v.1) ow') H' z r->DV ⟨K,mg⟩ O H' z r:=λ{ow' σ' H' m' d' e' f'} R e0 e1 e2=>by
   refine iy (R.slot p _<|X6 e0) λa' k1 k2 k3 k4=>?_;obtain⟨x1,x2,x3,x4⟩:=R.slot _ _<|Th e1;obtain⟨y1,y2,y3,y4⟩:=R.slot _ _<|Th e2;have ea:a'=a:=by
    rcases k2 with z|z|z
    ·exact z
    ·have:=R.inj p _ _ k1<|z▸x1;lia
    ·have:=R.inj p _ _ k1<|z▸y1;lia
   subst ea;have sub:∀b,O b->Ow (λb=>O b/\b≠a'/\b≠u.1/\b≠v.1) ow' b\/H' b=none:=λb z=>by
    by_cases q:b=a'
    ·exact .inl<|.inr ⟨p,by rw[q];exact k1⟩
    ·by_cases q1:b=u.1
     ·exact .inl<|.inr ⟨_,by rw[q1];exact x1⟩
     ·by_cases q2:b=v.1
      ·exact .inl<|.inr ⟨_,by rw[q2];exact y1⟩
      ·exact .inl<|.inl ⟨z,q,q1,q2⟩
   exact⟨R.keep,k4.bI sub,x4.bI sub,y4.bI sub,λz r h=>h.bI sub⟩
  cases z:g (ni p (.io d) (ds.map Sl.fz)++(dA (N.length-ps.length-2) Sl.un++[.hd false u.1 u.2,.hd false v.1 v.2])) with
  |exc c=>rw[z] at q;exact λC H' e kp=>q C H' e kp
  |stuck=>rw[z] at q;exact q.elim
  |ok b=>
   obtain⟨fl,m'⟩:=b;rw[z] at q;cases fl with
   |bk=>exact q.elim
   |ct=>exact q.elim
   |nx=>
    intro ow' σ' H' R' _;cases e0:uQ m' p with
    |none=>simp only[e0] at q;exact q.elim
    |some d'=>
     cases e1:mR m' (N.length-2) u.1 with
     |none=>simp only[e0,e1,tL,Res.wI] at q;exact q.elim
     |some e'=>
      cases e2:mR m' (N.length-1) v.1 with
      |none=>simp only[e0,e1,e2,tL,Res.wI] at q;exact q.elim
      |some f'=>
       simp only[e0,e1,e2] at q;refine Ci (fin R' e0 e1 e2) λk1 k2 k3 k4 k5=>?_;exact q _ H' k1 k2 k3 k4 .non
   |rt fr r=>
    intro v' ow' σ' H' R' _ hv' _;cases e0:uQ m' p with
    |none=>simp only[e0] at q;exact q.elim
    |some d'=>
     cases e1:mR m' (N.length-2) u.1 with
     |none=>simp only[e0,e1,tL,Res.wI] at q;exact q.elim
     |some e'=>
      cases e2:mR m' (N.length-1) v.1 with
      |none=>simp only[e0,e1,e2,tL,Res.wI] at q;exact q.elim
      |some f'=>
       simp only[e0,e1,e2] at q;refine Ci (fin R' e0 e1 e2) λk1 k2 k3 k4 k5=>?_;exact q v' H' k1 k2 k3 k4<|k5 _ _ hv'
theorem afN {k p:Nat}{f:Addr}{fd:kK}{ps:List Str}:rT P w K mg base (CX1 P w) k f fd ps (XD ⟨K,mg⟩ p λ_ _ _ _=>.stuck):=
 have n:∀{vs H Q E},¬XD ⟨K,mg⟩ p (λ_ _ _ _=>.stuck) vs H Q E:=λh=>by
  obtain⟨_,_,_,_,_,_,_,_,_,_,_,_,_,_,_,q⟩:=h;exact q
 ⟨λ_ _ _ _ h=>(n h).elim,λ_ _ _ _ _ _ _ _ _ _ _ _ _ h=>(n h).elim⟩
end
def xV (Φ:List D->D->Addr×D->Addr×D->Res (D×D×D×D))(i p j1 j2:Nat)(fs:Zad):Me->Res (D×Me):=λm=>(ofO<|Kz m i).bind λo=>(ofO<|zT m j1).bind λh1=>(ofO<|zT m j2).bind λh2=>(fs m).bind λds=>if p<=ds.length then(Φ ds o.2 h1.2 h2.2).bind λr=>.ok (r.1,((Cv m i o.1 r.2.1).set j1<|.hd h1.1 h1.2.1 r.2.2.1).set j2<|.hd h2.1 h2.2.1 r.2.2.2) else .stuck
theorem M6 (i j1 j2:Nat)(Fh:FST X.prog X.w X.K X.mg X.base k x ps p Φ)(hr:eE j X.A)(hx:Passes (CX1 X.prog X.w) X E)(ha:FAH X E (e0::es) i p fs)(hk:k<=j:=by decide)(hg:Gl X x:=by rfl)
  (hj:j1≠j2:=by decide) (hdb:(x==("__debug__":Str))=false:=by decide) (he:aS (e0::es) X.env=(false,eval e0 X.env)::aS es X.env:=by rfl) (υ:(l7 pos<|aS es X.env).any (·.1)=false:=by rfl):
  FX X E (.Call (.Name x pp) (e0::es) [] pos) (xV Φ i p j1 j2 fs):=by
 refine vO Fh.ex λf fd G b kp m=>?_;refine aX (J6 G (hr.mono hk) hg m kp b .nil hx ha hdb he υ) λσ H Q hE=>xq5 hE λO0 M0 H0 ow m R q=>?_;obtain⟨o,ho,q⟩:=(Xs.pu R.toRel q).ofO;obtain⟨h1,hh1,q⟩:=(Xs.pu R.toRel q).ofO;obtain⟨h2,hh2,q⟩:=(Xs.pu R.toRel q).ofO;obtain⟨kk,d0⟩:=o;obtain⟨w1,a1,d1⟩:=h1;obtain⟨w2,a2,d2⟩:=h2;refine iy (abK R.toRel ho) λa e1 e2 e4 e5=>?_;have g1:=Dj hh1;have g2:=Dj hh2;obtain⟨x1,x2,x3,x4⟩:=R.slot j1 _ g1;obtain⟨y1,y2,y3,y4⟩:=R.slot j2 _ g2;have ni1:i≠j1:=λz=>by subst z;rcases e5 with⟨s,_⟩|⟨s,_⟩<;>(rw[g1] at s;cases s)
 have ni2:i≠j2:=λz=>by subst z;rcases e5 with⟨s,_⟩|⟨s,_⟩<;>(rw[g2] at s;cases s)
 have na1:a≠a1:=λz=>ni1<|R.inj i j1 a e1<|z▸x1;have na2:a≠a2:=λz=>ni2<|R.inj i j2 a e1<|z▸y1;have na3:a1≠a2:=λz=>hj<|R.inj j1 j2 a1 x1<|z▸y1;refine⟨O0,M0,H0,ow,m,a,R.toRel,e2,(Xs.pu R.toRel q).imp (aC.refl _) λds q=>?_⟩;by_cases hp:p<=ds.length
 case neg=>rw[if_neg hp] at q;exact q.elim
 rw[if_pos hp] at q;refine⟨hp,λus H1 g3 hus=>?_⟩;have R1:=R.mono g3;have q:Xs (gx X) E O0 M0 H0 ow σ H1 ((Φ ds d0 (a1,d1) (a2,d2)).bind λr=>.ok (r.1,((Cv m i kk r.2.1).set j1<|.hd w1 a1 r.2.2.1).set j2<|.hd w2 a2 r.2.2.2)) _:=q.at g3;show XD _ _ _ (ni p (V.ref a) us++[]) _ _ _;rw[eT];refine⟨Ow O0 ow,a,us,ds,d0,(a1,d1),(a2,d2),rfl,hp,R1.mutk,⟨.inr ⟨i,e1⟩,e4.mono g3⟩,⟨.inr ⟨j1,x1⟩,x4.mono g3⟩,⟨.inr ⟨j2,y1⟩,y4.mono g3⟩,⟨na1,na2,na3⟩,hus,?_⟩;have m0a:H0 a=none\/M0 a:=by
  rcases e5 with⟨s,_⟩|⟨s,_⟩
  ·obtain⟨a',s1,s2,_⟩:=R.slot i _ s;rw[e1] at s1;cases s1;exact .inl s2
  ·obtain⟨a',s1,s2,_⟩:=R.slot i _ s;rw[e1] at s1;cases s1;exact .inr s2
 have m01:H0 a1=none\/M0 a1:=by cases w1 with
  |true=>exact .inl (x2 rfl)
  |false=>exact .inr (x3 rfl)
 have m02:H0 a2=none\/M0 a2:=by cases w2 with
  |true=>exact .inl (y2 rfl)
  |false=>exact .inr (y3 rfl)
 cases z:Φ ds d0 (a1,d1) (a2,d2) with
 |stuck=>rw[z] at q;exact q.elim
 |exc c=>
  rw[z] at q;refine λC H' e g=>q C H' e λb o e n=>?_;refine g b o (R1.keep b o e n) λw=>?_;rcases w with rfl|rfl|rfl
  ·rcases m0a with w|w
   ·rw[w] at e;cases e
   ·exact n w
  ·rcases m01 with w|w
   ·rw[w] at e;cases e
   ·exact n w
  ·rcases m02 with w|w
   ·rw[w] at e;cases e
   ·exact n w
 |ok r=>
  obtain⟨rr,d',e',f'⟩:=r;rw[z] at q;intro v H' g ov1 ov2 ov3 hv;have hi:i<m.length:=by rcases e5 with⟨s,_⟩|⟨s,_⟩<;>exact vH s
  have ex:∀c,(((Cv m i kk d').set j1<|.hd w1 a1 e').set j2<|.hd w2 a2 f')[c]? = if c=j2 then some (.hd w2 a2 f') else if c=j1 then some (.hd w1 a1 e') else if c=i then some (if kk then .ow d' else .io d') else m[c]?:=λc=>by
   have l1:=vH g1;have l2:=vH g2;unfold Cv;by_cases c2:c=j2
   ·subst c2;rw[if_pos rfl,bP<|by simpa using l2]
   ·rw[if_neg c2,cp<|eK c2];by_cases c1:c=j1
    ·subst c1;rw[if_pos rfl,bP<|by simpa using l1]
    ·rw[if_neg c1,cp<|eK c1];by_cases c0:c=i
     ·subst c0;rw[if_pos rfl,bP hi]
     ·rw[if_neg c0,cp<|eK c0]
  obtain⟨R2,G2⟩:=R1.many (m':=((Cv m i kk d').set j1<|.hd w1 a1 e').set j2<|.hd w2 a2 f') (ch:=λc=>c=i\/c=j1\/c=j2) (by simp[Cv]) (λc n=>by
    rw[ex,if_neg λz=>n<|.inr<|.inr z,if_neg λz=>n<|.inr<|.inl z,if_neg λz=>n<|.inl z]) (λb o eb n=>g b o eb λw=>n (by
    rcases w with rfl|rfl|rfl
    ·exact⟨i,.inl rfl,e1⟩
    ·exact⟨j1,.inr<|.inl rfl,x1⟩
    ·exact⟨j2,.inr<|.inr rfl,y1⟩)) (λc s cc es=>by
    rw[ex] at es;rcases cc with rfl|rfl|rfl
    ·rw[if_neg ni2,if_neg ni1,if_pos rfl] at es;cases es;rcases e5 with⟨s,rfl⟩|⟨s,rfl⟩
     ·refine iy (R.slot c _ s) λa' s1 s2 s3 _=>?_;rw[e1] at s1;cases s1;exact⟨⟨a,e1,s2,s3,ov1⟩,λd z=>by cases z⟩
     ·refine iy (R.slot c _ s) λa' s1 s2 s3 _=>?_;rw[e1] at s1;cases s1;exact⟨⟨a,e1,s2,s3,ov1⟩,λd z=>by cases z⟩
    ·rw[if_neg hj,if_pos rfl] at es;cases es;exact⟨⟨x1,x2,x3,ov2⟩,λd z=>by cases z⟩
    ·rw[if_pos rfl] at es;cases es;exact⟨⟨y1,y2,y3,ov3⟩,λd z=>by cases z⟩) (λc b cc eb=>by
    rcases cc with rfl|rfl|rfl
    ·rw[e1] at eb;cases eb;exact⟨ov1.mut,m0a⟩
    ·rw[x1] at eb;cases eb;exact⟨ov2.mut,m01⟩
    ·rw[y1] at eb;cases eb;exact⟨ov3.mut,m02⟩)
  exact q H' R2 G2 v hv
open Classical in
def aaL (h:Addr->Addr->Res (Fl×Me))(m:Me):Res (Fl×Me):=
 if H:∃p:Bool×D,∀a1 a2:Addr,a1≠a2->∃m',h a1 a2=.ok (.rt p.1 p.2,m')/\m'.length=m.length then .ok (.rt (lT H).1 (lT H).2,m.map λ_=>.un) else .stuck
theorem aah (H:∀a1 a2:Addr,a1≠a2->∃m',h a1 a2=.ok (.rt fr d,m')/\m'.length=m.length):aaL h m=.ok (.rt fr d,m.map λ_=>.un):=by
 have Hx:∃p:Bool×D,∀a1 a2:Addr,a1≠a2->∃m',h a1 a2=.ok (.rt p.1 p.2,m')/\m'.length=m.length:=⟨(fr,d),H⟩;have e:=fA Hx;obtain⟨m1,e1,_⟩:=e 0 1 (by decide);obtain⟨m2,e2,_⟩:=H 0 1 (by decide);rw[e1] at e2;unfold aaL;rw[dif_pos Hx];injection e2 with e2
 injection e2 with e2 _
 injection e2 with e3 e4
 rw[e3,e4]
section
theorem cR.forget (R:cR G O0 M0 H0 ow σ H m){m':Me}(hl:m'.length=m.length):cR G O0 M0 H0 (λ_=>none) σ H (m'.map λ_=>Sl.un)/\Go O0 ow H (λ_=>none) H:=by
 refine⟨⟨⟨by rw[cm,hl];exact R.len,R.keep,R.m0,λb z=>R.mutk b (z.elim .inl λ⟨_,e⟩=>by cases e),λi a e=>(by cases e),λi j a e _=>(by cases e),λi _=>rfl,λi s e=>?_⟩,λj d e=>?_⟩,λb o e _=>e,λi a e=>(by cases e),λ_ n=>n⟩
 ·rw[bt] at e;cases q:m'[i]? with
  |none=>rw[q] at e;cases e
  |some s0=>rw[q] at e;cases e;rfl
 ·rw[bt] at e;cases q:m'[j]? with
  |none=>rw[q] at e;cases e
  |some s0=>rw[q] at e;cases e
noncomputable def Av (ow:Os)(i j1 j2:Nat)(a a1 a2:Addr):Os:=λk=>if k=i then some a else if k=j1 then some a1 else if k=j2 then some a2 else ow k
theorem cR.aho (R:cR G O0 M0 H0 ow σ H m)(g:aC H H')(n:H p=none)(n1:H p1=none)(n2:H p2=none)(np1:p≠p1)(np2:p≠p2)(np3:p1≠p2)(hi:i<m.length)(h1:j1<m.length)(h2:j2<m.length)(ij1:i≠j1)(ij2:i≠j2)(jj:j1≠j2)
  (o:OV G (λb=>Ow O0 ow b\/b=p\/b=p1\/b=p2) H' p d) (o1:OV G (λb=>Ow O0 ow b\/b=p\/b=p1\/b=p2) H' p1 d1) (o2:OV G (λb=>Ow O0 ow b\/b=p\/b=p1\/b=p2) H' p2 d2):
  cR G O0 M0 H0 (Av ow i j1 j2 p p1 p2) (σ.set i<|some<|.ref p) H' (((m.set i<|.ow d).set j1<|.hd true p1 d1).set j2<|.hd true p2 d2)/\Go O0 ow H (Av ow i j1 j2 p p1 p2) H':=by
 have q0:=R.toRel.NB n;have q1:=R.toRel.NB n1;have q2:=R.toRel.NB n2;have inv:∀k b,Av ow i j1 j2 p p1 p2 k=some b->(k=i/\b=p)\/(k=j1/\b=p1)\/(k=j2/\b=p2)\/(k≠i/\k≠j1/\k≠j2/\ow k=some b):=λk b e=>by
  unfold Av at e;split at e
  ·rename_i q;cases e;exact .inl ⟨q,rfl⟩
  ·split at e
   ·rename_i q;cases e;exact .inr<|.inl ⟨q,rfl⟩
   ·split at e
    ·rename_i q;cases e;exact .inr<|.inr<|.inl ⟨q,rfl⟩
    ·rename_i a b c;exact .inr<|.inr<|.inr ⟨a,b,c,e⟩
 have out:∀b,Ow O0 (Av ow i j1 j2 p p1 p2) b->Ow O0 ow b\/b=p\/b=p1\/b=p2:=λb z=>by
  rcases z with z|⟨k,e⟩
  ·exact .inl<|.inl z
  ·rcases inv k b e with⟨_,z⟩|⟨_,z⟩|⟨_,z⟩|⟨_,_,_,z⟩
   ·exact .inr<|.inl z
   ·exact .inr<|.inr<|.inl z
   ·exact .inr<|.inr<|.inr z
   ·exact .inl<|.inr ⟨k,z⟩
 have sub:∀b,Ow O0 (Av ow i j1 j2 p p1 p2) b->Ow O0 ow b\/H b=none:=λb z=>by
  rcases out b z with z|z|z|z
  ·exact .inl z
  ·rw[z];exact .inr n
  ·rw[z];exact .inr n1
  ·rw[z];exact .inr n2
 have R':=R.mono g;have e0:Av ow i j1 j2 p p1 p2 i=some p:=if_pos rfl;have e1:Av ow i j1 j2 p p1 p2 j1=some p1:=by unfold Av;rw[if_neg<|eK ij1,if_pos rfl]
 have e2:Av ow i j1 j2 p p1 p2 j2=some p2:=by unfold Av;rw[if_neg<|eK ij2,if_neg<|eK jj,if_pos rfl]
 have en:∀k,k≠i->k≠j1->k≠j2->Av ow i j1 j2 p p1 p2 k=ow k:=λk a b c=>by unfold Av;rw[if_neg a,if_neg b,if_neg c]
 have ex:∀c,(((m.set i<|.ow d).set j1<|.hd true p1 d1).set j2<|.hd true p2 d2)[c]? = if c=j2 then some (.hd true p2 d2) else if c=j1 then some (.hd true p1 d1) else if c=i then some (.ow d) else m[c]?:=λc=>by
  by_cases c2:c=j2
  ·subst c2;rw[if_pos rfl,bP<|by simpa using h2]
  ·rw[if_neg c2,cp<|eK c2];by_cases c1:c=j1
   ·subst c1;rw[if_pos rfl,bP<|by simpa using h1]
   ·rw[if_neg c1,cp<|eK c1];by_cases c0:c=i
    ·subst c0;rw[if_pos rfl,bP hi]
    ·rw[if_neg c0,cp<|eK c0]
 refine⟨⟨⟨by simp[R.len],R'.keep,R'.m0,λb z=>?_,λk a e=>?_,λk l a a1 a2=>?_,λk hk=>?_,λk s e=>?_⟩,λk dd e=>?_⟩,.of g,λk a e=>?_,(Go.refl (O0:=O0) (ow:=ow) g).dom⟩
 ·rcases out b z with z|z|z|z
  ·exact R'.mutk b z
  ·rw[z];exact o.mut
  ·rw[z];exact o1.mut
  ·rw[z];exact o2.mut
 ·rcases inv k a e with⟨_,z⟩|⟨_,z⟩|⟨_,z⟩|⟨_,_,_,z⟩
  ·rw[z];exact λw=>q0<|.inl w
  ·rw[z];exact λw=>q1<|.inl w
  ·rw[z];exact λw=>q2<|.inl w
  ·exact R.no0 k a z
 ·rcases inv k a a1 with⟨u,z⟩|⟨u,z⟩|⟨u,z⟩|⟨_,_,_,z⟩<;>rcases inv l a a2 with⟨v,y⟩|⟨v,y⟩|⟨v,y⟩|⟨_,_,_,y⟩
  ·rw[u,v]
  ·exact absurd (z.symm.trans y) np1
  ·exact absurd (z.symm.trans y) np2
  ·exact absurd (.inr ⟨l,z▸y⟩) q0
  ·exact absurd (y.symm.trans z) np1
  ·rw[u,v]
  ·exact absurd (z.symm.trans y) np3
  ·exact absurd (.inr ⟨l,z▸y⟩) q1
  ·exact absurd (y.symm.trans z) np2
  ·exact absurd (y.symm.trans z) np3
  ·rw[u,v]
  ·exact absurd (.inr ⟨l,z▸y⟩) q2
  ·exact absurd (.inr ⟨k,y▸z⟩) q0
  ·exact absurd (.inr ⟨k,y▸z⟩) q1
  ·exact absurd (.inr ⟨k,y▸z⟩) q2
  ·exact R.inj k l a z y
 ·have hk':m.length<=k:=by simpa using hk
  rw[en k (by lia) (by lia)<|by lia];exact R.out k hk'
 ·rw[ex] at e;by_cases c2:k=j2
  ·rw[if_pos c2] at e;cases e;rw[c2];exact⟨e2,λ_=>R.toRel.M8 n2,(λz=>by cases z),o2.bI λb z=>.inl<|out b z⟩
  ·rw[if_neg c2] at e;by_cases c1:k=j1
   ·rw[if_pos c1] at e;cases e;rw[c1];exact⟨e1,λ_=>R.toRel.M8 n1,(λz=>by cases z),o1.bI λb z=>.inl<|out b z⟩
   ·rw[if_neg c1] at e;by_cases c0:k=i
    ·rw[if_pos c0] at e;cases e;rw[c0];exact⟨p,e0,R.toRel.M8 n,by rw[bP (by rw[R.len];exact hi)],o.bI λb z=>.inl<|out b z⟩
    ·rw[if_neg c0] at e;rw[en k c0 c1 c2,cp<|eK c0];exact((R.slot k s e).bI sub λ_ _ b _=>tj _).mono g
 ·rw[ex] at e;split at e
  ·cases e
  ·split at e
   ·cases e
   ·split at e
    ·cases e
    ·exact R.nb k dd e
 ·rcases inv k a e with⟨_,z⟩|⟨_,z⟩|⟨_,z⟩|⟨_,_,_,z⟩
  ·rw[z];exact .inr n
  ·rw[z];exact .inr n1
  ·rw[z];exact .inr n2
  ·exact .inl<|.inr ⟨k,z⟩
end
def acM (i j1 j2:Nat)(fs1:List ((Zae)×(Zae)))(k1 f1 k2 f2:Zae)(fs2:List ((Zae)×(Zae)))(k:Zab):Zab:=λm=>
 (Ac fs1 m).bind λl1=>(k1 m).bind λc1=>(f1 m).bind λd1=>(k2 m).bind λc2=>(f2 m).bind λd2=>(Ac fs2 m).bind λl2=>
  if l1.length+2+l2.length<=15/\i<m.length/\j1<m.length/\j2<m.length then
   aaL (λa1 a2=>(ofO<|Ku [] [] (l1++(c1,.adr a1)::(c2,.adr a2)::l2)).bind λr=>k<|((m.set i<|.ow<|.dct r.1 r.2).set j1<|.hd true a1 d1).set j2<|.hd true a2 d2) m
  else .stuck
theorem DPs.app:∀{ps qs:List (V×V)} {l r:List (D×D)},DPs G O H ps l->DPs G O H qs r->DPs G O H (ps++qs) (l++r)
 |_,_,_,_,.nil,h=>h
 |_,_,_,_,.cons a b t,h=>.cons a b<|DPs.app t h
section
variable {X:Cx}{E:XK}
theorem Gb (rest:List (TE×TE)):∀(fs:List ((Zae)×(Zae))) {H:Hp} {K:List (D×D)->Prop} {Q:List (V×V)->Hp->Prop},aC Hb H->Rel (gx X) O0 M0 H0 ow σ H m->Pu (gx X) E (Ac fs m) Hb K->
  (∀l ps H',K l->aC H H'->DPs (gx X) (Ow O0 ow) H' ps l->z9 rest σ H' λqs H2=>Q (ps++qs) H2)->z9 (Mm X E fs++rest) σ H Q
 |[],H,K,Q,_,R,q,f=>f [] [] H q (aC.refl _) .nil
 |g::r,H,K,Q,gb,R,q,f=>by
  refine⟨O0,M0,H0,ow,m,R,q.bind.imp gb λkd q x H1 g1 hx=>⟨O0,M0,H0,ow,m,R.mono g1,q.bind.imp (gb.trans g1) λd q y H2 g2 hy=>?_⟩⟩;refine Gb rest r ((gb.trans g1).trans g2) ((R.mono g1).mono g2) q.bind λl ps H3 k g3 hl=>?_;exact f _ ((x,y)::ps) _ k ((g1.trans g2).trans g3)<|.cons ((hx.mono g2).mono g3) (hy.mono g3) hl
theorem YW {i j1 j2:Nat}{y:Str}{py pos dpos:Pos}{keys:List (Option Expr)}{values:List Expr}{rest:List Stmt}{fs1 fs2:List ((Zae)×(Zae))}{k1 f1 k2 f2:Zae}{k:Zab}
  (hN:X.N.Nodup) (hi:X.N[i]? = some y) (hy:Loc X.env.scope y)
  (h:PPs X dpos keys values (Mm X E fs1++(tE (gx X) E k1,tN (gx X) E f1)::(tE (gx X) E k2,tN (gx X) E f2)::(Mm X E fs2++[]))) (hr:FSs X E rest k)
  (hall:keys.all (·.isSome)=true:=by rfl) (hl:keys.length=values.length:=by rfl) (h0:keys≠[]:=by exact(λz=>nomatch z)) (h15:keys.length<=15:=by decide) (ij1:i≠j1:=by decide) (ij2:i≠j2:=by decide) (jj:j1≠j2:=by decide)
  (hs:gX (.Dict keys values dpos) (some<|.Name y py) pos.line X.env=pure false:=by rfl)
  (hf:X.fn y=true\/X.env.scope.names.lookup y=some .local:=by first|exact .inl rfl|exact .inr rfl|assumption):
  FSs X E (.Assign [.Name y py] (.Dict keys values dpos) pos::rest) (acM i j1 j2 fs1 k1 f1 k2 f2 fs2 k):=by
 refine zL (Mu (GX hN hi hy (Uy h hall hl h0 h15) hs hf) hr) λW σ H hE=>xq5 hE λO0 M0 H0 ow m R q=>?_;intro p hp;have g0:aC H (upd H p<|.dK []):=aV hp _;have R1:=R.toRel.more g0 hp (by rw[aM];exact .inr<|.inl ⟨[],rfl⟩);have ow_of:∀{O1:Zaa} {b:Addr} {l:Addr},Ow (Op O1 l) ow b->Ow O1 ow b\/b=l:=λz=>Wn z;refine Gb _ fs1 g0 R1 (Ss.pu R.toRel q) λl1 ps1 H2 q g2 hl1=>?_;have R2:=R1.mono g2;have hq:=Ss.pu R.toRel q;refine⟨_,_,_,_,_,R2,hq.imp (g0.trans g2) λc1 q x1 H3 g3 hx1=>?_⟩;have R3:=R2.mono g3;have hq:=Ss.pu R.toRel q;refine⟨_,_,_,_,_,R3,hq.imp ((g0.trans g2).trans g3) λd1 q p1 H4 g4 n1 ov1=>?_⟩;have R4:=R3.more g4 n1 ov1.mut;have hq:=Ss.pu R.toRel q;refine⟨_,_,_,_,_,R4,hq.imp (((g0.trans g2).trans g3).trans g4) λc2 q x2 H5 g5 hx2=>?_⟩;have R5:=R4.mono g5;have hq:=Ss.pu R.toRel q;refine⟨_,_,_,_,_,R5,hq.imp ((((g0.trans g2).trans g3).trans g4).trans g5) λd2 q p2 H6 g6 n2 ov2=>?_⟩;have R6:=R5.more g6 n2 ov2.mut;have hq:=Ss.pu R.toRel q;refine Gb [] fs2 (((((g0.trans g2).trans g3).trans g4).trans g5).trans g6) R6 hq λl2 ps2 H7 q g7 hl2=>?_;have R7:=R6.mono g7;by_cases hc:l1.length+2+l2.length<=15/\i<m.length/\j1<m.length/\j2<m.length
 case neg=>rw[if_neg hc] at q;exact q.elim
 rw[if_pos hc] at q;obtain⟨ν,li,lj1,lj2⟩:=hc;unfold aaL at q;split at q
 case isFalse=>exact q.elim
 rename_i HU;have sp:=fA HU;generalize hfd:lT HU=fd at sp q;obtain⟨fr,dd⟩:=fd;have gA:aC H H7:=((((((g0.trans g2).trans g3).trans g4).trans g5).trans g6).trans g7);have np1:p≠p1:=λz=>by
  have:H3 p=some (.dK []):=g3 _ _<|g2 _ _ aM
  rw[z,n1] at this;cases this
 have np2:p≠p2:=λz=>by
  have:H5 p=some (.dK []):=g5 _ _<|g4 _ _<|g3 _ _<|g2 _ _ aM
  rw[z,n2] at this;cases this
 have np3:p1≠p2:=λz=>by
  have m1:=ov1.mut
  have:H5 p1≠none:=λw=>by
   have w4:H4 p1=none:=g5.free w;rw[w4] at m1;rcases m1 with⟨_,e⟩|⟨_,e⟩|⟨_,e⟩|⟨_,e⟩<;>cases e
  exact this<|z▸n2
 have hp1:H p1=none:=(g0.trans<|g2.trans g3).free n1;have hp2:H p2=none:=(g0.trans<|g2.trans<|g3.trans<|g4.trans g5).free n2;obtain⟨m',eq,hlm⟩:=sp p1 p2 np3;have eq:((ofO<|Ku [] [] (l1++(c1,.adr p1)::(c2,.adr p2)::l2)).bind λr=>k<|((m.set i<|.ow<|.dct r.1 r.2).set j1<|.hd true p1 d1).set j2<|.hd true p2 d2)=.ok (.rt fr dd,m'):=eq;cases em:Ku [] [] (l1++(c1,.adr p1)::(c2,.adr p2)::l2) with
 |none=>rw[em] at eq;cases eq
 |some r=>
  rw[em] at eq;simp only[tL,Res.wI] at eq
  let OO:Zaa:=λb=>Ow O0 ow b\/b=p\/b=p1\/b=p2
  have toOO:∀b,OO b->Ow (Op (Op (Op O0 p) p1) p2) ow b:=λb z=>by
   rcases z with(z|z)|z|z|z
   ·exact .inl<|.inl<|.inl<|.inl z
   ·exact .inr z
   ·exact .inl<|.inl<|.inl<|.inr z
   ·exact .inl<|.inl<|.inr z
   ·exact .inl<|.inr z
  have fromOO:∀b,Ow (Op (Op (Op O0 p) p1) p2) ow b->OO b:=λb z=>by
   rcases z with(((z|z)|z)|z)|z
   ·exact .inl<|.inl z
   ·exact .inr<|.inl z
   ·exact .inr<|.inr<|.inl z
   ·exact .inr<|.inr<|.inr z
   ·exact .inl<|.inr z
  have a1:DPs (gx X) OO H7 ps1 l1:=(hl1.bI (O':=OO) (λb z=>by
   rcases z with z|z|z|z
   ·exact .inl<|z.elim (λw=>.inl<|.inl w) .inr
   ·exact .inl<|.inl<|.inr z
   ·exact .inr (by rw[z];exact g3.free n1)
   ·exact .inr (by rw[z];exact(g3.trans<|g4.trans g5).free n2))).mono (g3.trans<|g4.trans<|g5.trans<|g6.trans g7)
  have a2:DV (gx X) OO H7 x1 c1:=(hx1.bI (O':=OO) (λb z=>by
   rcases z with z|z|z|z
   ·exact .inl<|z.elim (λw=>.inl<|.inl w) .inr
   ·exact .inl<|.inl<|.inr z
   ·exact .inr (by rw[z];exact n1)
   ·exact .inr (by rw[z];exact(g4.trans g5).free n2))).mono (g4.trans<|g5.trans<|g6.trans g7)
  have a3:DV (gx X) OO H7 x2 c2:=(hx2.bI (O':=OO) (λb z=>by
   rcases z with z|z|z|z
   ·exact .inl<|z.elim (λw=>.inl<|.inl<|.inl w) .inr
   ·exact .inl<|.inl<|.inl<|.inr z
   ·exact .inl<|.inl<|.inr z
   ·exact .inr (by rw[z];exact n2))).mono (g6.trans g7)
  have a4:DPs (gx X) OO H7 ps2 l2:=hl2.bI λb z=>.inl<|toOO b z;have dps:DPs (gx X) OO H7 (ps1++(x1,.ref p1)::(x2,.ref p2)::ps2) (l1++(c1,.adr p1)::(c2,.adr p2)::l2):=a1.app<|.cons a2 (.adr p1)<|.cons a3 (.adr p2) a4;obtain⟨ι,e1,e2,e3⟩:=Qg (acc:=[]) dps em rfl .nil;have len:=dps.len;rw[e1,cm] at len;have len2:ι.length<=15:=by simp at len;lia
  have e7:H7 p=some (.dK []):=g7 _ _<|g6 _ _<|g5 _ _<|g4 _ _<|g3 _ _<|g2 _ _ aM;refine⟨e7,ι,by rw[eT] at *;exact e1,len2,?_⟩;have mOO:∀b,OO b->eN (H7 b):=λb z=>R7.mutk b<|toOO b z;have kp:Kp OO H7 (upd H7 p<|.dK<|nC [] ι):=λc o e n=>by rw[bz λz=>n<|.inr<|.inl z];exact e
  have gB:aC H (upd H7 p<|.dK<|nC [] ι):=λc o e=>by
   rw[bz (λz=>by rw[z,hp] at e;cases e)];exact gA _ _ e
  have b1:OV (gx X) OO (upd H7 p<|.dK<|nC [] ι) p (.dct r.1 r.2):=⟨_,_,aM,e2,rfl,e3.kp mOO kp⟩;have b2:OV (gx X) OO (upd H7 p<|.dK<|nC [] ι) p1 d1:=by
   refine OV.kp mOO kp (bz<|eK np1) ?_;refine(ov1.bI (O':=OO) λb z=>?_).mono (g5.trans<|g6.trans g7);rcases z with z|z|z|z
   ·exact .inl<|.inl<|z.elim (λw=>.inl<|.inl w) .inr
   ·exact .inl<|.inl<|.inl<|.inr z
   ·exact .inl<|.inr z
   ·exact .inr (by rw[z];exact g5.free n2)
  have b3:OV (gx X) OO (upd H7 p<|.dK<|nC [] ι) p2 d2:=by
   refine OV.kp mOO kp (bz<|eK np2) ?_;refine(ov2.mono g7).bI (O':=OO) λb z=>.inl ?_;rcases z with z|z|z|z
   ·exact .inl<|z.elim (λw=>.inl<|.inl<|.inl w) .inr
   ·exact .inl<|.inl<|.inl<|.inr z
   ·exact .inl<|.inl<|.inr z
   ·exact .inr z
  obtain⟨R8,g8⟩:=R.aho gB hp hp1 hp2 np1 np2 np3 li lj1 lj2 ij1 ij2 jj b1 b2 b3;refine⟨O0,M0,H0,_,_,R8,?_⟩;rw[eq];intro v ow' σ' H' R9 g9 hv hfr;obtain⟨R10,g10⟩:=R9.forget (m':=m) hlm.symm;refine q v _ σ' H' R10 ((g8.trans g9).trans g10) (hv.bI λb z=>.inl<|z.elim .inl λ⟨_,e⟩=>by cases e) λz=>?_;rcases hfr z with⟨p0,u1,u2,u3⟩|t
  ·exact .inl ⟨p0,u1,u2,u3.bI λb z=>.inl<|z.elim (λw=>.inl<|w.elim .inl λ⟨_,e⟩=>by cases e) .inr⟩
  ·exact .inr t
end
section
def sY (i:Nat)(f:Me->Res (D×Me)):Zab:=λm=>(ofO<|kY m i).bind λ_=>(f m).bind λp=>(ofO<|kY p.2 i).bind λo=>if o.2.length<av then .ok (.nx,putL p.2 i o.1<|o.2++[p.1]) else .stuck
theorem Fi (i:Nat)(he:FX X E e fa)(hN:X.N[i]? = some x:=by rfl)(hv:Vis X.env.scope x:=by first|exact iS rfl|exact hZ (iS rfl)|exact hZ (hZ rfl))(hd:(x==("__debug__":Str))=false:=by decide)(hcd:(x==("__classdict__":Str))=false:=by decide)
  (ξ:iF (.Name x np) "append" X.env (eval (.Name x np) X.env)=eval (.Name x np) X.env:=by rfl)
  (τ:((l7 η<|aS [e] X.env).all (λx=>!x.1)&&(AO η<|sj [] X.env).all (λx=>x.1.isSome)&&decide ([e].length+([]:List so).length+(if([]:List so).isEmpty then 0 else 1)<30))=true:=by rfl)
  (θ:(apos.endLine==η.line)=true:=by rfl) (hs:aS [e] X.env=(false,eval e X.env)::aS [] X.env:=by rfl) (hplain:(l7 η<|aS [] X.env).any (·.1)=false:=by rfl)
  (μ:gX (.Call (.Attribute (.Name x np) "append" apos) [e] [] η) none pos.line X.env=pure false:=by rfl):
  FS X E (.Expr (.Call (.Attribute (.Name x np) "append" apos) [e] [] η) pos) (sY i fa):=
 cB (yO (UT jI ve vi Ao (m8 hN hv hd hcd) (lQ he vD hs) ξ τ θ hs hplain) μ) λW σ H hE=>xq5 hE λO0 M0 H0 ow m R q=>by
  obtain⟨o,ho,q⟩:=Ss.ofO q;obtain⟨k,ds⟩:=o;refine uU (uM R.toRel ho) λa xs e1 e2 e3 e4 e5=>?_;refine⟨_,e2,.inl ⟨rfl,xs,SqL.of e3⟩,O0,M0,H0,ow,m,R,(Xs.ss (k:=λd m'=>(ofO<|kY m' i).bind λo=>if o.2.length<av then .ok (.nx,putL m' i o.1<|o.2++[d]) else .stuck) q).imp (Go.refl<|aC.refl _) λd H1 m1 R1 g1 em q v hv=>?_⟩;have q:=q m1 em R1;obtain⟨o,ho,q⟩:=Ss.ofO q;obtain⟨k',ds'⟩:=o;refine uU (uM R1.toRel ho) λa' xs' f1 f2 f3 f4 f5=>?_;rw[e1] at f1;cases f1;by_cases hz:ds'.length<av
  ·have q:Ss (gx X) E O0 M0 H0 ow H1 W (if ds'.length<av then .ok (.nx,putL m1 i k'<|ds'++[d]) else .stuck):=q;rw[if_pos hz] at q;obtain⟨R2,g2⟩:=R1.put (es:=ds'++[d]) (ys:=xs'++[v]) e1 f5<|mq f4<|.cons hv .nil;exact⟨a,xs',v,rfl,rfl,f3,by rw[bj f4];exact hz,q _ _ _ R2 g2⟩
  ·have q:Ss (gx X) E O0 M0 H0 ow H1 W (if ds'.length<av then .ok (.nx,putL m1 i k'<|ds'++[d]) else .stuck):=q;rw[if_neg hz] at q;exact q.elim
noncomputable def xW (f:Me->Res (D×Me)):Zab:=λm=>(f m).bind λp=>.ok (.rt false p.1,p.2)
theorem MP (he:FX X E e fa):FS X E (.Return (some e) pos) (xW fa):=cB (Ka he) λW σ H hE=>xq5 hE λO0 M0 H0 ow m R q=>by
 refine⟨O0,M0,H0,ow,m,R,(Xs.ss (k:=λd m'=>.ok (.rt false d,m')) q).imp (Go.refl<|aC.refl _) λd H1 m1 R1 g1 e1 q v hv=>?_⟩;exact q m1 e1 R1 v ow σ H1 R1 (Go.refl<|aC.refl _) hv λz=>by cases z
end
end F
namespace L2
open PySem PySem.Spec PyProof.Rows
def Itd (hi:Int)(n:Nat):It:=⟨λi _=>i<n,λi H x H'=>H'=H/\x=.int (hi-i),λi _=>n<=i⟩
theorem Wb {P:cS}{w:gu}{K:PySem.W.Frag}{tg:Expr}(it:Addr)(hi:Int)(n:Nat):Turn P w K tg (Itd hi n) [it] it (λi h=>zw h it (hi+(i:Nat)*(-1)) ((n:Int)-(i:Nat)) (-1)) where
 mem:=by simp
 obj:=λi h st b hb=>by
  have e:b=it:=by simpa using hb
  subst e;exact⟨_,st,λv z=>by
   have z':zC _=BF v:=z;cases z'⟩
 keep:=λi h h' st k=>k it (by simp) _ st
 item:=by
  intro X hP hw hK hc i π s σ H E I hf st hg;subst hP hw hK;refine lO (hf it<|by simp) λf0 f1 f2 f3 f4 f5=>?_;have W:=Walks.range (prog:=X.prog) (w:=X.w) (I.ok.hd hc) it hi (-1) n;refine W.item i s _ _ hg st λv h' tk hv st' kk=>?_;obtain⟨t,rfl⟩:=hv;have I1:Inv X π σ H { s with heap:=h',toks:=tk }:=I.turned (λb o hb e=>kk b o (by simpa using hb) e) f0 f1 f3 f4 f5;refine⟨_,rfl,Q0 (s:={ s with heap:=h',toks:=tk }) (n:="range_iterator") st' rfl rfl (by decide) ⟨.int<|hi-i,H,I1,⟨t,?_⟩,⟨rfl,rfl⟩,st',λb hb=>(hf b hb).1⟩⟩;rw[show hi+(i:Int)*(-1)=hi-i by lia]
 done:=by
  intro X hP hw hK hc i π s σ H E I hf st hg;subst hP hw hK;refine lO (hf it<|by simp) λf0 f1 f2 f3 f4 f5=>?_;exact wpAny_pyNext_range_end (I.ok.hd hc) st (by have:n<=i:=hg;lia) λh' eb=>⟨rfl,I.turned (t':=s.toks) (λb o hb e=>eb b o hb e) f0 f1 f3 f4 f5⟩
 self:=λ_ _ _ _ _ st h=>wpAny_pyIter_rangeiter st h
theorem Hz (a b:Int):lj a b (-1)=((a-b).toNat:Int):=by
 unfold lj;rw[if_neg<|by decide];split
 ·rw[show -(-1:Int)=1 by decide,Int.ediv_one];lia
 ·lia
theorem small_down (ha:-1000000000<=a)(ha':a<=1000000000)(hb:-1000000000<=b)(hb':b<=1000000000):AB a b (-1)=true:=by
 unfold AB;rw[Hz];simp only[Builtin.Range.rangeFitsLong,qB,Bool.or_eq_true,decide_eq_true_eq,beq_iff_eq,show ¬(-1:Int)>0 by decide,if_false]
 lia
section
variable {X:Cx}{tg:Expr}
theorem Yl {π:Zl}{σ:St}{H:Hp}{s:bE}{R:It->Hp->Prop}{E:Zs}{hi lo:Int}{t u v:Tok}{tk:Nat}(I:Inv X π σ H s)(h1:-1000000000<=hi)(h2:hi<=1000000000)(h3:-1000000000<=lo)(h4:lo<=1000000000)
  (q:R (Itd hi (hi-lo).toNat) H):b9 (eB X.prog X.w) X.A (BQ<|.ref s.heap.objs.size) (PIE X π σ tg R) E { s with heap:=s.heap.push { cls:=.type "range",data:=.fields #[.int hi t,.int lo u,.int (-1) v] },toks:=tk }:=by
 refine wpAny_pyIter_range (IsRange.new ..) (small_down h1 h2 h3 h4) ?_;have I1:Inv X π σ H { s with heap:=s.heap.push { cls:=.type "range",data:=.fields #[.int hi t,.int lo u,.int (-1) v] },toks:=tk }:=I.kept λb o e=>ag _ e;refine⟨(s.heap.push { cls:=.type "range",data:=.fields #[.int hi t,.int lo u,.int (-1) v] }).objs.size,[(s.heap.push { cls:=.type "range",data:=.fields #[.int hi t,.int lo u,.int (-1) v] }).objs.size],_,_,H,rfl,
  I1.kept (t':=tk) λb o e=>ag _ e,Wb _ hi (hi-lo).toNat,?_,λb hb=>?_,q⟩
 ·have e1:hi+((0:Nat):Int)*(-1)=hi:=by simp
  have e2:(((hi-lo).toNat:Nat):Int)-((0:Nat):Int)=lj hi lo (-1):=by rw[Hz];lia
  show zw _ _ (hi+((0:Nat):Int)*(-1)) ((((hi-lo).toNat:Nat):Int)-((0:Nat):Int)) (-1);rw[e1,e2];exact ay _ rfl
 ·have e:b=(s.heap.push { cls:=.type "range",data:=.fields #[.int hi t,.int lo u,.int (-1) v] }).objs.size:=by simpa using hb
  subst e;exact I1.My (aI _)<|I1.hok.fresh<|aI _
def afg (ta:TA):TI:=λσ H R=>ta σ H λvs H1=>∃i j:Int,vs=[.int i,.int j,.int (-1)]/\(-1000000000<=i/\i<=1000000000/\-1000000000<=j/\j<=1000000000)/\R (Itd i (i-j).toNat) H1
theorem Vv (hg:Gl X "range")(hm:X.mg "range" = none)(ha:PA X [a,b,c] ta)(hs:aS [a,b,c] X.env=[(false,eval a X.env),(false,eval b X.env),(false,eval c X.env)]:=by rfl)(hs2:aS [b,c] X.env=[(false,eval b X.env),(false,eval c X.env)]:=by rfl):
  PI X tg (.Call (.Name "range" p) [a,b,c] [] pos) (afg ta):=by
 intro π s σ H R I h;refine Call_<|sH I hg hm boot_range<|eP (thn (ha pos π s σ H _ I h) λus s1 hE=>xq2 hE λvs H1 I1 r1 q1=>?_) (by rw[hs,hs2]) (by rw[hs2];rfl);obtain⟨i,j,e,⟨q1,q2,q3,q4⟩,q⟩:=q1;subst e;cases r1 with
 |cons r rr=>
  cases rr with
  |cons r' rr=>
   cases rr with
   |cons r'' rr=>
    cases rr;obtain⟨t,rfl⟩:=r;obtain⟨t',rfl⟩:=r';obtain⟨t'',rfl⟩:=r'';exact call_range_3 (by decide) (Yl (tk:=s1.toks) I1 q1 q2 q3 q4 q)<|iS<|PyProof.noPylong_small<|by lia
end
end L2
namespace F
open PySem PySem.Spec PyProof.Rows L2 Hd
noncomputable def aao (f:Zad):Zad:=λm=>(f m).bind λd=>match d with
 |[.int i,.int j,.int (-1)]=>if -1000000000<=i/\i<=1000000000/\-1000000000<=j/\j<=1000000000 then .ok ((bp (i-j).toNat).map λ(k:Nat)=>D.int<|i-k) else .stuck
 |_=>.stuck
theorem aap:Ai G (Itd hi n) ((bp n).map λ(k:Nat)=>D.int<|hi-k) P:=by
 intro O H _;refine⟨λi hi=>(show i<n by simpa using hi),λi x H' hi y=>?_,by show n<=_;simp⟩;obtain⟨e,y⟩:=y;subst e y;have hi':i<n:=by simpa using hi
 exact⟨aC.refl _,_,by simp[bt,As hi'],.int _⟩
section
variable {X:Cx}{E:XK}{tg e a b c:Expr}{f:Zae}{fs:Zad}{fa:Me->Res (D×Me)}{p pos:Pos}
theorem ZZ (hg:Gl X "range")(hm:X.mg "range" = none)(ha:FAB X E [a,b,c] fs)(hs:aS [a,b,c] X.env=[(false,eval a X.env),(false,eval b X.env),(false,eval c X.env)]:=by rfl)(hs2:aS [b,c] X.env=[(false,eval b X.env),(false,eval c X.env)]:=by rfl):FI X E tg (.Call (.Name "range" p) [a,b,c] [] pos) (aao fs):=
 mK (Vv hg hm ha hs hs2) λσ H R hE=>xq5 hE λO0 M0 H0 ow m Re q=>⟨O0,M0,H0,ow,m,Re,q.bind.imp (aC.refl _) λds q vs H' g hv=>by
  split at q
  ·cases hv with
   |cons h1 t=>cases t with
    |cons h2 t=>cases t with
     |cons h3 t=>
      cases t;cases bR h1;cases bR h2;cases bR h3;obtain⟨⟨z1,z2,z3,z4⟩,k⟩:=Ih q;exact⟨_,_,rfl,⟨z1,z2,z3,z4⟩,k _ H' g aap⟩
  ·exact q.elim⟩
def JC:Zab:=λ_=>.stuck
theorem DK {st:Stmt}:FS X E st JC:=λ_ _ _ _ _ _ ⟨_,_,_,_,_,_,z⟩=>z.elim
noncomputable def MT (f:Me->Res (D×Me))(h:Zba):Zab:=λm=>(f m).bind λp=>(ofO<|h p.1 p.2).bind λm'=>.ok (.nx,m')
theorem ab0 (he:FX X E e fa)(hg:FG X k tg h)(hs:oy [tg] e pos.line X.env=pure false:=by rfl)(hw:oz [tg] e X.env=pure none:=by rfl)
  (h1:(kl [tg] X.env).map (·.2)=[ua tg X.env]:=by rfl):FS X E (.Assign [tg] e pos) (MT fa h):=cB (PL he hg hs hw h1) λW σ H hE=>xq5 hE λO0 M0 H0 ow m R q=>by
 refine⟨O0,M0,H0,ow,m,R,(Xs.ss (k:=λd m'=>(ofO<|h d m').bind λm'=>.ok (.nx,m')) q).imp (Go.refl<|aC.refl _) λd H1 m1 R1 g1 e1 q v hv=>?_⟩;obtain⟨m',e,q⟩:=Ss.ofO<|q m1 e1 R1;exact⟨O0,M0,H0,ow,m1,d,m',R1.toRel,hv,e,λow' σ' R' g2 nb _=>q _ _ _ ⟨R',nb R1.nb⟩ g2⟩
def Lg (i:Nat):Me->Res (D×Me):=λm=>(ofO<|kY m i).bind λo=>(ofO<|o.2[o.2.length-1]?).bind λd=>.ok (d,putL m i o.1 o.2.dropLast)
theorem adD (i:Nat)(hN:X.N[i]? = some x:=by rfl)(hv:Vis X.env.scope x:=by first|exact iS rfl|exact hZ (iS rfl)|exact hZ (hZ rfl))(hd:(x==("__debug__":Str))=false:=by decide)(hcd:(x==("__classdict__":Str))=false:=by decide)
  (ξ:iF (.Name x np) "pop" X.env (eval (.Name x np) X.env)=eval (.Name x np) X.env:=by rfl) (θ:(apos.endLine==η.line)=true:=by rfl):
  FX X E (.Call (.Attribute (.Name x np) "pop" apos) [] [] η) (Lg i):=
 aX (Kr jI yy yA YX (m8 hN hv hd hcd) ξ θ) λσ H Q hE=>xq5 hE λO0 M0 H0 ow m R q=>by
  obtain⟨o,ho,q⟩:=(Xs.pu R.toRel q).ofO;obtain⟨k,ds⟩:=o;obtain⟨d,hd',q⟩:=(Xs.pu R.toRel q).ofO;refine uU (uM R.toRel ho) λa xs e1 e2 e3 e4 e5=>?_;obtain⟨v,hv,dv⟩:=yf e4 hd';obtain⟨R2,g2⟩:=R.put (es:=ds.dropLast) (ys:=xs.dropLast) e1 e5<|yz e4;have dv2:=dv.go R.mutk g2.ev;exact⟨_,e2,.inl ⟨rfl,xs,SqL.of e3⟩,a,xs,v,rfl,rfl,e3,by rw[bj e4];exact hv,q _ R2 g2 _ dv2⟩
end
section
theorem ZM:seqRepeat? (.type "int")=pure none:=by rfl
theorem Wc (hok:MulOk x n)(h:∀t' k,Q (.str (B0 x n) t') { s with toks:=k }):
  b9 (eB prog w) A (kd .Mult (.int n u)<|.str x t) Q E s:=by
 have post:(if n<1 then Made.str BG else if(n==1||x.length==0)=true then Made.val (.str x t) else Made.str ⟨(dA n.toNat x.cps).foldl (· ++ ·) #[]⟩).post Q s:=by
  unfold B0 at h;by_cases h1:n<1
  ·rw[if_pos h1];have h':=h s.toks<|s.toks+1;rw[if_pos h1] at h';exact⟨by decide,h'⟩
  ·rw[if_neg h1];refine post_val_or_made (λhc=>fits_reps<|hok.2.2 h1<|by simpa using hc) λt' k=>?_;have h':=h t' k;rw[if_neg h1] at h';exact h'
 exact lm_binaryOp_repeat_right (T:="str") (U:="int") (by decide) (λs'=>typeIs_int s' n u) (uu s x t) PySem.F.fills_int_mul noFill_str_mul zi ZM repeat_str PySem.F.slot_int_index.lookup
  (call_gives zi (typeIs_int s n u) PySem.F.entry_int_mul (PySem.F.args_int_mul_2 _ _) (AutoIntG3.int___mul___int_str_0 n u x t) ⟨rfl,uu _ x t,call_gives PySem.F.slot_str_mul (uu _ x t) PySem.F.entry_str_mul (PySem.F.args_str_mul_2 _ _) (gives_str_mul x n t u hok.1 hok.2.1 hok.2.2) post⟩)
noncomputable def TQ:D->D->Option D
 | .int n,.str z=>if 0<=n/\n<=1000/\z.length<=1000 then some (.str<|B0 z n) else none
 |_,_=>none
theorem YB:OpR X (kd .Mult) (rG (gx X) TQ):=by
 intro π s σ H x y v u Q I rx ry h;refine fQ h λO d e r m hx hy hr q=>?_;unfold TQ at hr;split at hr
 ·rename_i n z;obtain⟨⟨h0,h1,hz⟩,rfl⟩:=oif hr;cases bR hx;cases lJ hy;obtain⟨t,rfl⟩:=rx;obtain⟨t2,rfl⟩:=ry;exact Wc (mulOk_of h0 h1 hz) λt' k=>Sg (tk:=k) I q
 ·cases hr
end
end F
namespace L2
open PySem PySem.Spec PyProof.Rows
section
variable {X:Cx}{e st:Expr}{te:TE}{tst:TO}{p2 pos:Pos}
end
end L2
namespace F
open PySem PySem.Spec PyProof.Rows L2 Hd
section
variable {X:Cx}{E:XK}{e st:Expr}{f:Zae}{fk:Me->Res (Option Int)}{p2 pos:Pos}
end
end F
namespace Pk
open PySem L2 Hd F
section
def gQ:Zaf:=
 (aB gNe (aj 3)<|fC<|.int 0)
def gR:Zab:=
 (aA (aK 4<|ak aY (aj 2)<|aj 3)
 (aA (aK 2<|au 3)
 (aK 3<|au 4)))
def kJ:Zab:=
 (oX gQ gR)
def m5 (l_3:Zab):Zab:=
 (aA (aK 2<|aF Oo<|aa (aj 0) ao)
 (aA (aK 3<|aF Oo<|aa (aj 1) ao)
 (aA l_3
 (aU<|au 2))))
def nq:Zab:=
 (m5 kJ)
def gH:Zac:=aH 5 2 nq
def zG (φ_common_divisor:Zac):Zab:=
 (aA (aK 2<|fFn φ_common_divisor<|aa (au 0)<|aa (au 1) ao)
 (aA (gIf (aB gLt (aj 1)<|fC<|.int 0) (aK 2<|fUn qj<|aj 2) gNx)
 (aU<|aN<|aa (ak cV (aj 0)<|aj 2)<|aa (ak cV (aj 1)<|aj 2) ao)))
def yu:Zab:=
 (zG gH)
def oM:Zac:=aH 3 2 yu
def JP (φ_lowest:Zac):Zab:=
 (aU<|fFn φ_lowest<|aa (ak bc (ak dO (ak gIx (aj 0)<|fC<|.int 0)<|ak gIx (aj 1)<|fC<|.int 1)<|ak dO (ak gIx (aj 1)<|fC<|.int 0)<|ak gIx (aj 0)<|fC<|.int 1)<|aa (ak dO (ak gIx (aj 0)<|fC<|.int 1)<|ak gIx (aj 1)<|fC<|.int 1) ao)
def KC:Zab:=
 (JP oM)
def vK:Zac:=aH 2 2 KC
def Jt:Zab:=
 (aU<|oZ gLt (ak dO (ak gIx (aj 0)<|fC<|.int 0)<|ak gIx (aj 1)<|fC<|.int 1)<|ak dO (ak gIx (aj 1)<|fC<|.int 0)<|ak gIx (aj 0)<|fC<|.int 1)
def JK:Zab:=
 Jt
def CV:Zac:=aH 2 2 JK
def wA:Zab:=
 (aK 1<|fFn vK<|aa (au 1)<|aa (au 2) ao)
def An:Zab:=
 (cz (cg<|au 0) (hName 2) wA)
def JW (l_2:Zab):Zab:=
 (aA (aK 1<|fC<|.tup [(.int 0),(.int 1)])
 (aA l_2
 (aU<|au 1)))
def JR:Zab:=
 (JW An)
def zx:Zac:=aH 3 1 JR
def jX:Zae:=
 (bC 2 [] (oU<|ak gIx (aj 0)<|fUn qj<|fC<|.int 1) (du 2<|aJ (hName 0)<|aJ (hName 1) dw) cQ<|au 1)
def iI (l_1:Zae):Zab:=
 (aA (gIf (aB gEq (ak gIx (aj 0)<|fC<|.int 0)<|fC<|.str "end") (jc<|cP ao) gNx)
 (jc l_1))
def xj:Zab:=
 (iI jX)
def jz:Zac:=aH 1 1 xj
def nP:Zae:=
 (aN<|aa (ak bc (ak gIx (aj 2)<|fC<|.int 0)<|aN<|aa (au 0) ao)<|aa (au 1) ao)
def jx:Zae:=
 (bC 2 [3] (adf<|aa (fFn jz<|aa (ak gIx (aj 3)<|fC<|.int 1) ao) ao) (du 2<|aJ (hName 0)<|aJ (hName 1) dw) cQ nP)
def jF:Zaf:=
 (aB gGt (aF cu<|aa (aj 2) ao)<|fC<|.int 0)
def jA:Zab:=
 (aA (Jz 3 2)
 (aA (bD 1<|au 3)
 (aA (aK 4 jx)
 (JS 2<|aF Yj<|aa (aj 4) ao))))
def wY:Zab:=
 (oX jF jA)
def qH (l_5:Zab):Zab:=
 (aA (cC 1<|cP ao)
 (aA (cC 2<|cP<|aa (aN<|aa (aN ao)<|aa (au 0) ao) ao)
 (aA l_5
 (dY 1))))
def Bu:Zab:=
 (qH wY)
def qQ:Zac:=aH 5 1 Bu
def pM:Zae:=
 (bC 2 [] (oU<|ak gIx (aj 0)<|fC<|.int 3) (du 2<|aJ (hName 0)<|aJ (hName 1) dw) cQ<|au 0)
def yg (l_1:Zae):Zab:=
 (aU<|aF cH<|aa l_1 ao)
def xY:Zab:=
 (yg pM)
def ue:Zac:=aH 1 1 xY
def gD:Zab:=
 (aA (gIf (aB gNe (ak gIx (aj 0)<|fC<|.int 0)<|fC<|.str "move") (aU<|au 1) gNx)
 (aA (aK 3<|aN<|aa (ak gIx (aj 0)<|fC<|.int 2)<|aa (ak gIx (ak gIx (ak gIx (aj 0)<|fC<|.int 3)<|aj 2)<|fC<|.int 0) ao)
 (aA (gIf (aB gEq (ak gIx (aj 0)<|fC<|.int 1)<|fC<|.int 1) (aU<|aN<|aa (ak bc (ak gIx (aj 1)<|fC<|.int 0)<|aN<|aa (au 3) ao)<|aa (ak gIx (aj 1)<|fC<|.int 1) ao) gNx)
 (aU<|aN<|aa (ak gIx (aj 1)<|fC<|.int 0)<|aa (ak bc (ak gIx (aj 1)<|fC<|.int 1)<|aN<|aa (au 3) ao) ao))))
def gF:Zab:=
 gD
def dN:Zac:=aH 4 3 gF
def cF:Zab:=
 (uZ 1 (ak bc (aj 3)<|aN<|aa (au 5) ao)<|fFn dN<|aa (au 4)<|aa (ak pF (aj 1)<|aj 3)<|aa (au 5) ao)
def gw:Zab:=
 (cz (jo<|aa (aF cu<|aa (fFn jz<|aa (au 4) ao) ao) ao) (hName 5) cF)
def aP:Zab:=
 (aA (bD 2<|aN<|aa (au 3)<|aa (au 4)<|aa (ak pF (aj 1)<|aj 3) ao)
 gw)
def lA:Zab:=
 (cz (cg<|fFn qQ<|aa (au 0) ao) (du 2<|aJ (hName 3)<|aJ (hName 4) dw) aP)
def d7 (l_4:Zab):Zab:=
 (aA (cC 1<|PK (aN ao)<|aN<|aa (aN ao)<|aa (aN ao) ao)
 (aA (cC 2<|cP ao)
 (aA l_4
 (dY 2))))
def mV:Zab:=
 (d7 lA)
def d8:Zac:=aH 6 1 mV
def yS (φ_words_at:Zac):Zab:=
 (aU<|aN<|aa (ak gIx (aj 0)<|fC<|.int 1)<|aa (ak gIx (aj 0)<|fC<|.int 2)<|aa (fFn φ_words_at<|aa (au 0) ao)<|aa (ak gIx (aj 1)<|ak cO (ak gIx (aj 0)<|fC<|.int 1)<|fC<|.int 1) ao)
def yH:Zab:=
 (yS ue)
def vR:Zac:=aH 2 2 yH
def fG:Zab:=
 (gIf (aB gEq (ak gIx (aj 3)<|fC<|.int 0)<|fC<|.str "move") (abH 1 (aN<|aa (ak gIx (aj 3)<|fC<|.int 1)<|aa (ak gIx (aj 3)<|fC<|.int 2) ao)<|fFn vR<|aa (au 3)<|aa (au 4) ao) gNx)
def uB:Zab:=
 (cz (cg<|fFn d8<|aa (au 0) ao) (du 3<|aJ (hName 2)<|aJ (hName 3)<|aJ (hName 4) dw) fG)
def uF (l_2:Zab):Zab:=
 (aA (cC 1 tM)
 (aA l_2
 (jc<|Qw<|aj 1)))
def G8:Zab:=
 (uF uB)
def xN:Zac:=aH 5 1 G8
def qK:Zae:=
 (bC 1 [1] (cg<|fFn xN<|aa (au 0) ao) (hName 0) (aB gEq (ak gIx (aj 0)<|fC<|.int 0)<|aj 1)<|au 0)
def Bk (l_1:Zae):Zab:=
 (jc l_1)
def Ax:Zab:=
 (Bk qK)
def tK:Zac:=aH 2 2 Ax
end
end Pk
namespace Hd
noncomputable def gI (a b:Int):Int:=(tF a b:Nat)
theorem Rm (ha:0<=a)(hb:0<b):gI b (a%b)=gI a b:=by
 unfold gI tF;have e:(a%b).natAbs=a.natAbs%b.natAbs:=by
  obtain⟨n,rfl⟩:=w9 ha;obtain⟨m,rfl⟩:=w9<|A9 hb;rfl
 rw[e,Bi a.natAbs b.natAbs,Nat.gcd_rec b.natAbs a.natAbs,Bi]
theorem RD (ha:0<=a):gI a 0=a:=by
 unfold gI;rw[Int.gcd_zero_right]
 lia
theorem Y8 (a b:Int):gI (if a<0 then -a else a) (if b<0 then -b else b)=gI a b:=by
 unfold gI tF;have h:∀x:Int,(if x<0 then -x else x).natAbs=x.natAbs:=λx=>by split<;>lia
 rw[h,h]
theorem afS (a b:Int):0<=gI a b:=Int.natCast_nonneg _
theorem KD (hb:b≠0):0<gI a b:=by
 have:0<tF a b:=Nat.pos_of_ne_zero λh=>hb (Int.gcd_eq_zero_iff.mp h).2
 unfold gI;lia
theorem TV (a b:Int):gI a b ∣ a:=Int.gcd_dvd_left a b
theorem Gp (a b:Int):gI a b ∣ b:=Int.gcd_dvd_right a b
theorem acK (hb:b≠0):(gI a b).natAbs<=b.natAbs:=by
 have h:(gI a b).natAbs ∣ b.natAbs:=kB.mpr<|Gp a b;exact AW (by lia) h
def dv (t b:Int):Int:=if b<0 then -gI t b else gI t b
theorem Sv (hb:b≠0):dv t b≠0:=by
 have:=KD (a:=t) hb
 unfold dv;split<;>lia
theorem YT (t b:Int):(dv t b).natAbs=(gI t b).natAbs:=by unfold dv;split<;>lia
def lt (t b:Int):Int:=t.fdiv<|dv t b
def lb (t b:Int):Int:=b.fdiv<|dv t b
theorem Eu {a d q:Int}(hd:d≠0)(h:a=d*q):a.fdiv d=q:=by simp_all
theorem aaC (t b:Int):dv t b ∣ t:=by
 unfold dv;split
 ·exact Int.neg_dvd.mpr<|TV t b
 ·exact TV t b
theorem XF (t b:Int):dv t b ∣ b:=by
 unfold dv;split
 ·exact Int.neg_dvd.mpr<|Gp t b
 ·exact Gp t b
theorem lt_mul (hb:b≠0):dv t b*lt t b=t:=by
 obtain⟨q,hq⟩:=aaC t b;have e:lt t b=q:=Eu (Sv hb) hq;rw[e];exact hq.symm
theorem Jv (hb:b≠0):dv t b*lb t b=b:=by
 obtain⟨q,hq⟩:=XF t b;have e:lb t b=q:=Eu (Sv hb) hq;rw[e];exact hq.symm
theorem ada (hb:b≠0):1<=lb t b:=by
 have e:=Jv (t:=t) hb;have g:=KD (a:=t) hb;by_cases h:lb t b<=0
 ·exfalso;unfold dv at e;split at e
  ·have:0<=-gI t b*lb t b:=Int.mul_nonneg_of_nonpos_of_nonpos (by lia) h
   lia
  ·have:gI t b*lb t b<=0:=Int.mul_nonpos_of_nonneg_of_nonpos (by lia) h
   lia
 ·lia
theorem ab5 (hb:b≠0):gI (lt t b) (lb t b)=1:=by
 have e1:=lt_mul (t:=t) hb;have e2:=Jv (t:=t) hb;have g:=KD (a:=t) hb;have q:gI t b=(dv t b).natAbs*gI (lt t b) (lb t b):=by
  have:tF (dv t b*lt t b) (dv t b*lb t b)=(dv t b).natAbs*tF (lt t b) (lb t b):=Int.gcd_mul_left ..
  rw[e1,e2] at this;unfold gI;rw[this];push_cast;rfl
 have ed:((dv t b).natAbs:Int)=gI t b:=by rw[YT];have:=afS t b;lia
 rw[ed] at q;have h:gI t b*gI (lt t b) (lb t b)=gI t b*1:=by rw[Int.mul_one];exact q.symm
 exact Int.eq_of_mul_eq_mul_left (by lia) h
theorem V4 (hb:b≠0):lt t b*b=t*lb t b:=by
 have e1:=lt_mul (t:=t) hb;have e2:=Jv (t:=t) hb
 calc lt t b*b=lt t b*(dv t b*lb t b):=by rw[e2]
  _=(dv t b*lt t b)*lb t b:=by rw[← mN,kC (lt t b)<|dv t b]
  _=t*lb t b:=by rw[e1]
theorem ack (hb:b≠0):(lt t b).natAbs<=t.natAbs:=by
 have e:=lt_mul (t:=t) hb;have h:(lt t b).natAbs ∣ t.natAbs:=kB.mpr ⟨dv t b,by rw[kC];exact e.symm⟩;by_cases z:t=0
 ·have:lt t b=0:=by
   have e':dv t b*lt t b=0:=e.trans z;rcases Int.mul_eq_zero.mp e' with h|h
   ·exact absurd h<|Sv hb
   ·exact h
  rw[this];exact f6 _
 ·exact AW (by lia) h
theorem acB (hb:b≠0):(lb t b).natAbs<=b.natAbs:=by
 have e:=Jv (t:=t) hb;have h:(lb t b).natAbs ∣ b.natAbs:=kB.mpr ⟨dv t b,by rw[kC];exact e.symm⟩;exact AW (by lia) h
theorem uR (c:tF p q=1)(h:q ∣ p*s):q ∣ s:=by
 have h2:q.natAbs ∣ p.natAbs*s.natAbs:=by rw[← Int.natAbs_mul];exact kB.mpr h
 have c2:BM q.natAbs p.natAbs:=by unfold BM;rw[Bi];exact c
 exact kB.mp<|Nat.Coprime.dvd_of_dvd_mul_left c2 h2
theorem Qy (hq:1<=q)(hs:1<=s)(g1:gI p q=1)(g2:gI r s=1)(h:p*s=r*q):p=r/\q=s:=by
 have c1:tF p q=1:=by unfold gI at g1;lia
 have c2:tF r s=1:=by unfold gI at g2;lia
 have d1:q ∣ s:=by
  have:q ∣ p*s:=⟨r,by rw[h,kC]⟩
  exact uR c1 this
 have d2:s ∣ q:=by
  have:s ∣ r*q:=⟨p,by rw[← h,kC]⟩
  exact uR c2 this
 have e:q=s:=Int.dvd_antisymm (by lia) (by lia) d1 d2;subst e;exact⟨sP (by lia) h,rfl⟩
theorem p7 {a b:Int}(ha:a.natAbs<2^m)(hb:b.natAbs<2^n):(a*b).natAbs<2^(m+n):=by
 rw[Int.natAbs_mul,Nat.pow_add];exact Nat.mul_lt_mul'' ha hb
theorem ac3 {a b:Int}(ha:a.natAbs<2^m)(hb:b.natAbs<2^m):(a+b).natAbs<2^(m+1):=by
 rw[Nat.pow_succ]
 lia
theorem bB (h:n<2^m)(hk:m<=k):n<2^k:=cx h<|ze (by decide) hk
theorem adu (hu:u≠0)(hq:1<=q)(g:gI p q=1)(h:t*q=p*u):lt t u=p/\lb t u=q:=by
 refine Qy (ada hu) hq (ab5 hu) g ?_;have e:=V4 (t:=t) hu;have e2:lt t u*q*u=p*lb t u*u:=by
  calc lt t u*q*u=lt t u*u*q:=by rw[mN,kC q u,← mN]
   _=t*lb t u*q:=by rw[e]
   _=t*q*lb t u:=by rw[mN,kC (lb t u) q,← mN]
   _=p*u*lb t u:=by rw[h]
   _=p*lb t u*u:=by rw[mN,kC u,← mN]
 exact sP hu e2
abbrev Q2:=Int×Int
end Hd
namespace F
open PySem L2 Hd
@[simp] theorem szl:av=16777216:=by decide
theorem wX:∀{a b:List Char},a.map pV=b.map pV->a=b
 |[],[],_=>rfl
 |[],_::_,h=>by simp at h
 |_::_,[],h=>by simp at h
 |x::a,y::b,h=>by
  have h':x.toNat=y.toNat/\a.map pV=b.map pV:=by simpa using h
  rw[Char.toNat_inj.mp h'.1,wX h'.2]
@[simp] theorem agQ:(dc a=dc b)↔a=b:=by
 constructor
 ·intro h;rw[xD,xD] at h;have h2:(a.toList.map pV).toArray=(b.toList.map pV).toArray:=congrArg Str.cps h;have h3:a.toList.map pV=b.toList.map pV:=by simpa using congrArg x5 h2
  exact String.toList_inj.mp<|wX h3
 ·intro h;rw[h]
mutual
def okD:D->Bool
 | .non|.bl _|.int _=>true
 | .str x=>hU x
 | .tup xs=>uG xs
 | .lst xs=>uG xs
 | .exc _|.dct _ _|.dcu _ _|.dcf _ _|.adr _|.ins _ _ _=>false
def uG:List D->Bool
 |[]=>true
 |x::xs=>okD x&&uG xs
end
mutual
def wK:D->Nat
 | .non|.bl _|.int _|.str _=>0
 | .tup xs=>qY xs+1
 | .lst xs=>qY xs+1
 | .exc _|.dct _ _|.dcu _ _|.dcf _ _|.adr _|.ins _ _ _=>0
def qY:List D->Nat
 |[]=>0
 |x::xs=>max (wK x)<|qY xs
end
mutual
theorem TX:∀d:D,okD d=true->∃p,toPy d=some p/\p.canLay0=true/\p.depth=wK d/\i8 p p=true
 | .non,_=>⟨.none,by simp[toPy],by simp[nz],by simp[qA,wK],by simp[i8]⟩
 | .bl b,_=>⟨.bool b,by simp[toPy],by simp[nz],by simp[qA,wK],by simp[i8]⟩
 | .int b,_=>⟨.int b,by simp[toPy],by simp[nz],by simp[qA,wK],by simp[i8]⟩
 | .str b,h=>⟨.str b,by simp[toPy],by simpa[nz,okD] using h,by simp[qA,wK],by simp[i8]⟩
 | .tup xs,h=>by
  refine iy (GR xs<|by simpa[okD] using h) λps h1 h2 h3 h4=>?_;exact⟨.tuple ps,by simp[toPy,h1],by simpa[nz] using h2,by simp[qA,wK,h3],by simpa[i8] using h4⟩
 | .lst xs,h=>by
  refine iy (GR xs<|by simpa[okD] using h) λps h1 h2 h3 h4=>?_;exact⟨.list ps,by simp[toPy,h1],by simpa[nz] using h2,by simp[qA,wK,h3],by simpa[i8] using h4⟩
 | .exc _,h=>by simp[okD] at h
 | .dct _ _,h=>by simp[okD] at h
 | .dcu _ _,h=>by simp[okD] at h
 | .adr _,h=>by simp[okD] at h
 | .ins _ _ _,h=>by simp[okD] at h
 | .dcf _ _,h=>by simp[okD] at h
theorem GR:∀ds:List D,uG ds=true->∃ps,tu ds=some ps/\vx ps=true/\yY ps=qY ds/\iN ps ps=true
 |[],_=>⟨[],by simp[tu],by simp[vx],by simp[yY,qY],by simp[iN]⟩
 |d::ds,h=>by
  have h':okD d=true/\uG ds=true:=by simpa[uG] using h
  refine iy (TX d h'.1) λp h1 h2 h3 h4=>?_;refine iy (GR ds h'.2) λps k1 k2 k3 k4=>?_;exact⟨p::ps,by simp[tu,h1,k1],by simp[vx,h2,k2],by simp[yY,qY,h3,k3],by simp[iN,h4,k4]⟩
end
@[simp] theorem agU (i j:Int):gEq (.int i) (.int j)=some (decide<|i=j):=rfl
@[simp] theorem agR (i j:Str):gEq (.str i) (.str j)=some (decide<|i=j):=rfl
@[simp] theorem ahD (i j:Bool):gEq (.bl i) (.bl j)=some (decide<|i=j):=rfl
@[simp] theorem agS (i j:Int):gNe (.int i) (.int j)=some (!decide (i=j)):=rfl
@[simp] theorem agT (i j:Str):gNe (.str i) (.str j)=some (!decide (i=j)):=rfl
@[simp] theorem ahF (i j:Bool):gNe (.bl i) (.bl j)=some (!decide (i=j)):=rfl
noncomputable def qD (d:Q2):D:=.tup [.int d.1,.int d.2]
mutual
inductive Gm where
 |fin (d:Q2)
 |deal (n:Str) (ws:Ws)
 |move (s:Int) (n:Str) (ws:Ws)
inductive Ws where
 |nil
 |cons (l:D) (g:Gm) (r:Ws)
end
mutual
def dG:Gm->D
 | .fin d=>.tup [.str "end",qD d]
 | .deal n ws=>.tup [.str "deal",.str n,.tup<|dWs ws]
 | .move s n ws=>.tup [.str "move",.int s,.str n,.tup<|dWs ws]
def dWs:Ws->List D
 | .nil=>[]
 | .cons l g r=>.tup [l,dG g]::dWs r
end
mutual
def dp:Gm->Nat
 | .fin _=>0
 | .deal _ ws=>dpW ws+1
 | .move _ _ ws=>dpW ws+1
def dpW:Ws->Nat
 | .nil=>0
 | .cons _ g r=>max (dp g)<|dpW r
end
noncomputable def dF:Ws->Nat
 | .nil=>0
 | .cons _ _ r=>dF r+1
theorem pG:∀ws:Ws,(dWs ws).length=dF ws
 | .nil=>rfl
 | .cons l g r=>by show(dWs r).length+1=_;rw[pG r];rfl
mutual
def jm:Gm->Prop
 | .fin _=>True
 | .deal _ ws=>dF ws<=100/\Bw ws
 | .move _ _ ws=>dF ws<=100/\Bw ws
def Bw:Ws->Prop
 | .nil=>True
 | .cons _ g r=>jm g/\Bw r
end
def Cm (zs:List Str):List Nat:=zs.flatMap λz=>z.cps.toList
theorem V3:(dc "").cps=#[]:=by decide +kernel
theorem SM:∀(zs:List Str) (acc:Array Nat),(zs.foldl (λacc p=>acc++(dc "").cps++p.cps) acc).toList=acc.toList++Cm zs
 |[],acc=>by simp[Cm]
 |z::zs,acc=>by
  rw[sx,SM zs,V3];simp[Cm]
theorem XQ (zs:List Str):(AR (dc "") zs).cps.toList=Cm zs:=by
 show((zs.drop 1).foldl (λacc p=>acc++(dc "").cps++p.cps) (zs.headD BG).cps).toList=_;rw[SM];cases zs with
 |nil=>simp[Cm,BG]
 |cons z zs=>simp[Cm]
theorem Jb:∀(zs:List Str) (n:Nat),zs.foldl (λn z=>n+z.length+(dc "").length) n=n+(Cm zs).length
 |[],n=>by simp[Cm]
 |z::zs,n=>by
  rw[sx,Jb zs]
  have:(dc "").length=0:=by decide +kernel
  rw[this];simp[Cm,Str.length]
  lia
theorem joinOk_of (h:(Cm zs).length<=16777216):BU (dc "") zs=true:=by
 unfold BU;rw[List.foldl_toArray,Jb];simp[Au]
 lia
theorem Va (cs:List Nat):Cm (cs.map λc=>(⟨#[c]⟩:Str))=cs:=by
 induction cs with
 |nil=>rfl
 |cons c cs ih=>simp[Cm] at ih ⊢;exact ih
theorem Nf {cs:List Nat}(h:∀c∈cs,c<128):hU ⟨cs.toArray⟩=true:=by
 unfold hU;simp only[List.all_toArray,List.all_eq_true,decide_eq_true_eq];intro c hc
 have:=h c hc
 lia
theorem Cu (h:f m=.ok [.int j])(h1:-1000000000<=j)(h2:j<=1000000000):jo f m=.ok ((bp j.toNat).map λ(i:Nat)=>D.int i):=by
 unfold jo;rw[h];show(if -(2^62)<=j/\j<2^62 then _ else _)=_;rw[if_pos ⟨by lia,by lia⟩]
theorem ahC (h:f m=.ok [.int i,.int j])(h1:-1000000000<=i)(h2:i<=1000000000)(h3:-1000000000<=j)(h4:j<=1000000000):Rt f m=.ok ((bp (j-i).toNat).map λ(k:Nat)=>D.int<|i+k):=by
 unfold Rt;rw[h];show(if -(2^62)<=i/\i<2^62/\-(2^62)<=j/\j<2^62 then _ else _)=_;rw[if_pos ⟨by lia,by lia,by lia,by lia⟩]
open PySem PySem.NumText
def tx (l:List Nat):Str:=⟨l.toArray⟩
theorem De (l:List Nat):(tx l).cps.toList=l:=rfl
theorem xZ (l:List Nat):(tx l).length=l.length:=by rfl
theorem Ud (h:x.cps.toList=l):x=tx l:=by
 cases x with
 |mk a=>subst h;unfold tx;simp
theorem adh (a b:List Nat):tx a++tx b=tx (a++b):=Ud (by show(a.toArray++b.toArray).toList=_;simp)
theorem Yp:tx a=tx b↔a=b:=⟨λh=>by have:=congrArg (λz:Str=>z.cps.toList) h;exact this,λh=>by rw[h]⟩
end F
namespace Pk
open PySem L2 Hd F
noncomputable def jD:Ws->List Gm
 | .nil=>[]
 | .cons _ g r=>g::jD r
def kids:Gm->List Gm
 | .fin _=>[]
 | .deal _ ws=>jD ws
 | .move _ _ ws=>jD ws
mutual
def szG:Gm->Nat
 | .fin _=>1
 | .deal _ ws=>szW ws+1
 | .move _ _ ws=>szW ws+1
def szW:Ws->Nat
 | .nil=>0
 | .cons _ g r=>szG g+szW r
end
theorem wz (g:Gm):1<=szG g:=by cases g<;>simp[szG]
mutual
def plG:List Int->Gm->List (List Int×Gm)
 |w,.fin d=>[(w,.fin d)]
 |w,.deal n ws=>(w,.deal n ws)::plW w 0 ws
 |w,.move s n ws=>(w,.move s n ws)::plW w 0 ws
def plW:List Int->Nat->Ws->List (List Int×Gm)
 |_,_,.nil=>[]
 |w,i,.cons _ g r=>plG (w++[(i:Int)]) g++plW w (i+1) r
end
def pD (p:List Int×Gm):D:=.tup [.tup<|p.1.map .int,dG p.2]
def bh (w:List Int)(g:Gm):List (List Int×Gm):=(kids g).zipIdx.map λp=>(w++[(p.2:Int)],p.1)
theorem O9 (w:List Int):∀(i:Nat) (ws:Ws),plW w i ws=(((jD ws).zipIdx i).map λp=>(w++[(p.2:Int)],p.1)).flatMap λp=>plG p.1 p.2
 |i,.nil=>rfl
 |i,.cons l g r=>by
  show plG (w++[(i:Int)]) g++plW w (i+1) r=_;rw[O9 w (i+1) r];rfl
theorem adC (w:List Int)(g:Gm):plG w g=(w,g)::(bh w g).flatMap λp=>plG p.1 p.2:=by
 cases g with
 |fin d=>rfl
 |deal n ws=>show(w,Gm.deal n ws)::plW w 0 ws=_;rw[O9];rfl
 |move s n ws=>show(w,Gm.move s n ws)::plW w 0 ws=_;rw[O9];rfl
theorem zU:∀ws:Ws,szW ws=((jD ws).map szG).sum
 | .nil=>rfl
 | .cons l g r=>by show szG g+szW r=_;rw[zU r];rfl
theorem Zx (g:Gm):szG g=((kids g).map szG).sum+1:=by
 cases g with
 |fin d=>rfl
 |deal n ws=>show szW ws+1=_;rw[zU];rfl
 |move s n ws=>show szW ws+1=_;rw[zU];rfl
theorem iK:∀ws:Ws,(jD ws).length=dF ws
 | .nil=>rfl
 | .cons l g r=>by show(jD r).length+1=_;rw[iK r];rfl
theorem xP:∀{ws:Ws} {g:Gm},Bw ws->g∈jD ws->jm g
 | .cons l k r,g,h,hg=>by
  rcases aE.mp hg with w|w
  ·rw[w];exact h.1
  ·exact xP h.2 w
theorem Iv (h:jm g)(hk:k∈kids g):jm k/\(kids g).length<=100:=by
 cases g with
 |fin d=>cases hk
 |deal n ws=>exact⟨xP h.2 hk,by show(jD ws).length<=100;rw[iK];exact h.1⟩
 |move s n ws=>exact⟨xP h.2 hk,by show(jD ws).length<=100;rw[iK];exact h.1⟩
theorem yI (h:jm g):(kids g).length<=100:=by
 cases g with
 |fin d=>exact f6 _
 |deal n ws=>show(jD ws).length<=100;rw[iK];exact h.1
 |move s n ws=>show(jD ws).length<=100;rw[iK];exact h.1
theorem zW:∀ws:Ws,cA (du 2<|aJ (hName 0)<|aJ (hName 1) dw) cQ (au 1) [.un,.un] (dWs ws)=.ok ((jD ws).map dG)
 | .nil=>rfl
 | .cons l g r=>by
  have ih:=zW r;have e:au 1 [.fz l,.fz<|dG g]=.ok (dG g):=rfl;unfold dWs cA;simp[du,aJ,hName,dw,cQ,e,ih,jD]
theorem J9 (q:Q [.fz<|dG g]=.ok (.lst<|(kids g).map dG)\/kids g=[]/\∃d,g=.fin d):aH 1 1 (iI Q) [dG g]=.ok (true,.lst<|(kids g).map dG):=by
 have x2:∀a b:D,atI [a,b] 0=some a:=λ_ _=>rfl;have x3:∀a b c:D,atI [a,b,c] 0=some a:=λ_ _ _=>rfl;have x4:∀a b c d:D,atI [a,b,c,d] 0=some a:=λ_ _ _ _=>rfl;cases g with
 |fin d=>simp[aH,iI,aA,gIf,aB,ak,aj,fC,gIx,dG,x2,jc,Me.let,Sl.let,cP,ao,kids]
 |deal n ws=>
  rcases q with q|⟨_,d,e⟩
  ·have q':=q;simp only[dG] at q';simp[aH,iI,aA,gIf,aB,ak,aj,fC,gIx,dG,x3,jc,Me.let,Sl.let,q',gNx]
  ·cases e
 |move s n ws=>
  rcases q with q|⟨_,d,e⟩
  ·have q':=q;simp only[dG] at q';simp[aH,iI,aA,gIf,aB,ak,aj,fC,gIx,dG,x4,jc,Me.let,Sl.let,q',gNx]
  ·cases e
theorem BP (h:jm g):jz [dG g]=.ok (true,.lst<|(kids g).map dG):=by
 have x3:∀a b c:D,atI [a,b,c] (-1)=some c:=λ_ _ _=>rfl;have x4:∀a b c d:D,atI [a,b,c,d] (-1)=some d:=λ_ _ _ _=>rfl;refine J9 ?_;cases g with
 |fin d=>exact .inr ⟨rfl,d,rfl⟩
 |deal n ws=>
  have hz:(dWs ws).length<=16777216:=by rw[pG];have:=h.1;lia
  left;simp[jX,bC,oU,ak,aj,fUn,qj,fC,gIx,dG,x3,cMe,hz,zW,kids]
 |move s n ws=>
  have hz:(dWs ws).length<=16777216:=by rw[pG];have:=h.1;lia
  left;simp[jX,bC,oU,ak,aj,fUn,qj,fC,gIx,dG,x4,cMe,hz,zW,kids]
theorem V6 (ks:List Gm):GK (ks.map dG)=ks.zipIdx.map λp=>D.tup [.int (p.2:Int),dG p.1]:=by
 unfold GK;rw[List.mapIdx_eq_zipIdx_map,List.zipIdx_map,cy];rfl
theorem bV:∀l:List α,(∀c∈l,∃m1,h (g c) m0=some m1/\ft m1=.ok true/\fe m1=.ok (f c))->cA h ft fe m0 (l.map g)=.ok (l.map f)
 |[],_=>rfl
 |d::ds,H=>by
  obtain⟨m1,e1,e2,e3⟩:=H d af;have ih:=bV ds λd hd=>H d<|ae _ hd;rw[ah];unfold cA;simp only[e1,e2,e3,ih,ah]
theorem Wa (h:jm g)(hw:w.length<=1000):jx [a,s1,s2,.fz<|pD (w,g),s4]=.ok (.lst<|(bh w g).map pD):=by
 have hb:=BP h;have hl:=yI h;have x0:∀a b:D,atI [a,b] 0=some a:=λ_ _=>rfl;have x1:∀a b:D,atI [a,b] 1=some b:=λ_ _=>rfl;have e:cA (du 2<|aJ (hName 0)<|aJ (hName 1) dw) cQ nP [.un,.un,.fz<|pD (w,g)] ((kids g).zipIdx.map λp=>D.tup [.int (p.2:Int),dG p.1])=.ok ((kids g).zipIdx.map λp=>pD (w++[(p.2:Int)],p.1)):=bV _ λp hp=>by
  refine⟨[.fz<|.int (p.2:Int),.fz<|dG p.1,.fz<|pD (w,g)],rfl,rfl,?_⟩;have hz:(w.map D.int).length+1<=16777216:=by rw[cm];lia
  have hz':w.length+1<=16777216:=by lia
  simp[nP,aN,aa,ao,ak,aj,au,fC,gIx,pD,x0,bc,hz']
 have hz:(kids g).length<=16777216:=by lia
 have e':((bh w g).map pD)=(kids g).zipIdx.map λp=>pD (w++[(p.2:Int)],p.1):=by unfold bh;rw[cy];rfl
 rw[e'];simp only[pD] at e ⊢;simp[jx,bC,adf,aa,ao,fFn,ak,aj,fC,gIx,x1,hb,V6,cMe,Sl.bor,hz,e]
noncomputable def szS (st:List (List Int×Gm)):Nat:=(st.map λp=>szG p.2).sum
theorem aem (w:List Int)(g:Gm):szS (bh w g)+1=szG g:=by
 rw[Zx];unfold szS bh;rw[cy];congr 2
 have:((λp:List Int×Gm=>szG p.2)∘λp:Gm×Nat=>(w++[(p.2:Int)],p.1))=szG∘AX:=rfl
 rw[this,← cy,nV]
theorem RT:∀st:List (List Int×Gm),st.length<=szS st
 |[]=>f6 _
 |p::st=>by
  have:=RT st
  have:=wz p.2
  show st.length+1<=szG p.2+szS st
  lia
theorem Uh (a b:List (List Int×Gm)):szS (a++b)=szS a+szS b:=by unfold szS;rw[bX,mr]
theorem CT (h1:t m=.ok true)(h2:b m=.ok (.nx,m'))(h3:wh t b n m'=some r):wh t b (n+1) m=some r:=by
 unfold wh;rw[h1,h2];exact h3
theorem CZ (h1:t m=.ok false):wh t b 1 m=some (.ok (.nx,m)):=by
 unfold wh;rw[h1]
theorem KJ (h:jm g)(hw:w.length<=1000)(hz:done.length+st.length<=10000000):
  jA [a,.ow<|.lst<|done.map pD,.ow<|.lst<|(((w,g)::st).map pD).reverse,s3,s4]=.ok (.nx,[a,.ow<|.lst<|(done++[(w,g)]).map pD,.ow<|.lst<|((bh w g++st).map pD).reverse,.fz<|pD (w,g),.fz<|.lst<|(bh w g).map pD]):=by
 have hl:=yI h;have hb:(bh w g).length=(kids g).length:=by unfold bh;simp
 have q:∀s1 s2 s4,jx [a,s1,s2,.fz<|pD (w,g),s4]=.ok (.lst<|(bh w g).map pD):=λs1 s2 s4=>Wa h hw;have l1:((st.map pD).reverse++[pD (w,g)]).length-1=(st.map pD).reverse.length:=by simp
 have g1:((st.map pD).reverse++[pD (w,g)])[((st.map pD).reverse++[pD (w,g)]).length-1]? = some (pD (w,g)):=by rw[l1];simp
 have d1:((st.map pD).reverse++[pD (w,g)]).dropLast=(st.map pD).reverse:=List.dropLast_concat;have z1:done.length<16777216:=by lia
 have z2:st.length+(bh w g).length<=16777216:=by rw[hb];lia
 rw[ah,kQ];generalize hS:(st.map pD).reverse=S at *;have lS:S.length=st.length:=by rw[← hS];simp
 have e2:((bh w g++st).map pD).reverse=S++((bh w g).map pD).reverse:=by rw[bX,sA,hS]
 rw[e2];have g1':(S++[pD (w,g)])[S.length]? = some (pD (w,g)):=by simp
 simp[jA,aA,Jz,kY,putL,bD,au,aK,q,JS,aF,aa,ao,aj,Yj,z1,lS,z2]
theorem aa2 (h:jm g):∀p∈bh w g,jm p.2/\p.1.length=w.length+1:=λp hp=>by
 unfold bh at hp;obtain⟨q,hq,rfl⟩:=aw.mp hp
 have:q.1∈kids g:=by have:=nX (f:=AX) hq;rwa [nV] at this
 exact⟨(Iv h this).1,by simp⟩
theorem QT (hk:k∈kids g):dp k<dp g:=by
 have aux:∀{ws:Ws},k∈jD ws->dp k<=dpW ws:=by
  intro ws;induction ws using Ws.rec (motive_1:=λ_=>True) with
  |nil=>intro h;cases h
  |cons l g r _ ih=>
   intro h;show dp k<=max (dp g) (dpW r);rcases aE.mp h with w|w
   ·rw[w];exact Nat.le_max_left _ _
   ·exact gz (ih w)<|Nat.le_max_right _ _
  |fin=>trivial
  |deal=>trivial
  |move=>trivial
 cases g with
 |fin d=>cases hk
 |deal n ws=>exact Nat.lt_succ_of_le (aux hk)
 |move s n ws=>exact Nat.lt_succ_of_le (aux hk)
theorem af6:∀p∈bh w g,dp p.2<dp g:=λp hp=>by
 unfold bh at hp;obtain⟨q,hq,rfl⟩:=aw.mp hp
 have:q.1∈kids g:=by have:=nX (f:=AX) hq;rwa [nV] at this
 exact QT this
theorem Dc (a:Sl):∀(N:Nat) (done st:List (List Int×Gm)) (s3 s4:Sl),szS st=N->(∀p∈st,jm p.2/\p.1.length+dp p.2<=100)->done.length+szS st<=10000000->
  ∃k s3' s4',wh jF jA k [a,.ow<|.lst<|done.map pD,.ow<|.lst<|(st.map pD).reverse,s3,s4]=some (.ok (.nx,[a,.ow<|.lst<|(done++st.flatMap λp=>plG p.1 p.2).map pD,.ow<|.lst [],s3',s4'])):=by
 intro N;induction N using sC with
 |_ N ih=>
  intro done st s3 s4 hN hs hz;cases st with
  |nil=>
   refine⟨1,s3,s4,?_⟩;simp only[me,List.reverse_nil,qS,eT];exact CZ<|by simp[jF,aB,aF,cu,aa,ao,aj,fC,gGt]
  |cons p st=>
   obtain⟨w,g⟩:=p;have h1:jm g/\w.length+dp g<=100:=hs (w,g) (by simp);have sb:=aem w g;have hsum:szS ((w,g)::st)=szG g+szS st:=rfl;have ls:=RT st;have gp:=wz g;obtain⟨k,t3,t4,e⟩:=ih (szS<|bh w g++st) (by rw[Uh];lia) (done++[(w,g)]) (bh w g++st) (.fz<|pD (w,g)) (.fz<|.lst<|(bh w g).map pD) rfl (λp hp=>by
    rcases cq.mp hp with v|v
    ·have v1:=aa2 h1.1 p v;have v2:=af6 p v;exact⟨v1.1,by lia⟩
    ·exact hs p<|by simp[v]) (by rw[Uh,a8];simp;lia)
   refine⟨k+1,t3,t4,?_⟩;have e3:done++((w,g)::st).flatMap (λp=>plG p.1 p.2)=done++[(w,g)]++(bh w g++st).flatMap λp=>plG p.1 p.2:=by
    rw[p9,AD,adC]
    simp
   rw[e3];refine CT ?_ (KJ h1.1 (by lia)<|by lia) e;simp[jF,aB,aF,cu,aa,ao,aj,fC,gGt]
theorem Qo (e:L [.fz d,.ow<|.lst [],.ow<|.lst [.tup [.tup [],d]],.un,.un]=.ok (.nx,[.fz d,.ow<|.lst ps,.ow<|.lst [],s3,s4])):aH 5 1 (qH L) [d]=.ok (true,.lst ps):=by
 simp[aH,qH,aA,cC,cP,aa,ao,aN,au,e,dY]
theorem places_eq (h:jm g)(hd:dp g<=50)(hz:szG g<=10000000):qQ [dG g]=.ok (true,.lst<|(plG [] g).map pD):=by
 obtain⟨k,s3,s4,e⟩:=Dc (.fz<|dG g) _ [] [([],g)] .un .un rfl (λp hp=>by rw[bg.mp hp];exact⟨h,by simp;lia⟩) (by show 0+(szG g+0)<=_;lia);have e2:=wF k e;simp only[gv,p9,qS,eT] at e2;exact Qo (s3:=s3) (s4:=s4) e2
noncomputable def kw (w:List Int):List Kt:=w.map λi=>.k<|.inl i
theorem Jl:∀{v w:List Int},kw v=kw w->v=w
 |[],[],_=>rfl
 |[],_::_,h=>by cases h
 |_::_,[],h=>by cases h
 |a::v,b::w,h=>by
  have h:(Kt.k (.inl a):Kt)::kw v=Kt.k (.inl b)::kw w:=h;injection h with h1 h2
  injection h1 with h1
  injection h1 with h1
  rw[h1,Jl h2]
theorem ach:∀w:List Int,nH (ktD 7) (w.map D.int)=some (kw w)
 |[]=>rfl
 |a::w=>by
  show((ktD 7<|.int a).bind λk=>(nH (ktD 7)<|w.map D.int).map λks=>k::ks)=_;rw[ach w];rfl
theorem Wy (w:List Int):vf (.tup<|w.map D.int)=some (kw w):=ach w
theorem Zq:∀{ks:List (List Kt)} {ds:List D},k∉ks->bJ ks ds k=none
 |[],_,_=>by simp[bJ]
 |a::ks,[],_=>by simp[bJ]
 |a::ks,d::ds,h=>by
  have h1:a≠k:=λe=>h<|e▸af;have h2:k∉ks:=λe=>h<|ae _ e;unfold bJ;rw[if_neg h1,Zq h2]
theorem Od:∀{ks:List (List Kt)} {ds:List D},ks.length=ds.length->k∈ks->bJ ks (uY ks ds k d) k'=if k=k' then some d else bJ ks ds k'
 |[],_,_,h=>by cases h
 |a::ks,[],h,_=>by simp at h
 |a::ks,x::ds,h,hk=>by
  have hl:ks.length=ds.length:=by simpa using h
  unfold uY bJ;by_cases h1:a=k'
  ·rw[if_pos h1,if_pos h1];by_cases h2:a=k
   ·rw[if_pos h2,if_pos<|h2▸h1]
   ·rw[if_neg h2,if_neg λe=>h2<|by rw[h1,e]]
  ·rw[if_neg h1,if_neg h1];by_cases h2:k∈ks
   ·exact Od hl h2
   ·have h3:a=k:=by
     rcases aE.mp hk with e|e
     ·exact e.symm
     ·exact absurd e h2
    have h4:k≠k':=λe=>h1 (by rw[h3,e]);rw[if_neg h4];have e:∀{ks:List (List Kt)} {ds:List D},k∉ks->ks.length=ds.length->uY ks ds k d=ds:=by
     intro ks;induction ks with
     |nil=>intro ds _ hl;cases ds with
      |nil=>rfl
      |cons _ _=>simp at hl
     |cons b ks ih=>intro ds hn hl;cases ds with
      |nil=>simp at hl
      |cons y ds=>
       unfold uY;rw[if_neg λ(e:b=k)=>hn<|e▸af,ih (λe=>hn<|ae _ e)<|by simpa using hl]
    rw[e h2 hl]
theorem Rp:∀{ks:List (List Kt)} {ds:List D},ks.length=ds.length->k∉ks->bJ (ks++[k]) (ds++[d]) k'=if k=k' then some d else bJ ks ds k'
 |[],[],_,_=>by simp[bJ]
 |[],_::_,h,_=>by simp at h
 |a::ks,[],h,_=>by simp at h
 |a::ks,x::ds,h,hk=>by
  have ih:=Rp (k:=k) (k':=k') (d:=d) (ks:=ks) (ds:=ds) (by simpa using h) λe=>hk<|ae _ e;have hn:a≠k:=λe=>hk<|e▸af;show bJ (a::(ks++[k])) (x::(ds++[d])) k'=_;unfold bJ;rw[ih];by_cases h1:a=k'
  ·rw[if_pos h1,if_neg λe=>hn (by rw[h1,e]),if_pos h1]
  ·rw[if_neg h1,if_neg h1]
theorem Jp {ks:List (List Kt)}:ks.any (λx=>decide<|x=k)=true↔k∈ks:=by simp_all
theorem Ny:∀{ks:List (List Kt)} {ds:List D},ks.length=ds.length->(uY ks ds k d).length=ks.length
 |[],[],_=>rfl
 |[],_::_,h=>by simp at h
 |a::ks,[],h=>by simp at h
 |a::ks,x::ds,h=>by
  have:=Ny (k:=k) (d:=d) (ks:=ks) (ds:=ds)<|by simpa using h
  simp[uY,this]
theorem yx {ks:List (List Kt)}{ds:List D}(hl:ks.length=ds.length):bJ (iu ks ds k d).1 (iu ks ds k d).2 k'=if k=k' then some d else bJ ks ds k':=by
 unfold iu;by_cases h:ks.any (λx=>decide<|x=k)=true
 ·rw[if_pos h];exact Od hl<|Jp.mp h
 ·rw[if_neg h];exact Rp hl λz=>h<|Jp.mpr z
theorem J0 (hl:ks.length=ds.length):(iu ks ds k d).1.length=(iu ks ds k d).2.length/\(iu ks ds k d).1.length<=ks.length+1:=by
 unfold iu;by_cases h:ks.any (λx=>decide<|x=k)=true
 ·rw[if_pos h];exact⟨(Ny hl).symm,by simp⟩
 ·rw[if_neg h];exact⟨by simp[hl],by simp⟩
theorem aW (h1:h d m=some m1)(h2:g m1=.ok (.nx,m2)):aL h g (d::ds) m=aL h g ds m2:=by
 rw[aL,h1];simp only[h2]
abbrev Rc:=List D×List D
noncomputable def rD2 (r:Rc):D:=.tup [.tup r.1,.tup r.2]
noncomputable def rbm (s:Int)(n:Str)(r:Rc)(l:D):Rc:=if s=1 then(r.1++[.tup [.str n,l]],r.2) else(r.1,r.2++[.tup [.str n,l]])
noncomputable def bZ:Ws->List D
 | .nil=>[]
 | .cons l _ r=>l::bZ r
def rbg:Gm->Rc->D->Rc
 | .move s n _,r,l=>rbm s n r l
 |_,r,_=>r
noncomputable def zY:Gm->Ws
 | .fin _=>.nil
 | .deal _ ws=>ws
 | .move _ _ ws=>ws
mutual
def prG:List Int->Rc->Gm->List (List Int×Gm×Rc)
 |w,r,.fin d=>[(w,.fin d,r)]
 |w,r,.deal n ws=>(w,.deal n ws,r)::prW w (λ_=>r) 0 ws
 |w,r,.move s n ws=>(w,.move s n ws,r)::prW w (rbm s n r) 0 ws
def prW:List Int->(D->Rc)->Nat->Ws->List (List Int×Gm×Rc)
 |_,_,_,.nil=>[]
 |w,f,i,.cons l g r=>prG (w++[(i:Int)]) (f l) g++prW w f (i+1) r
end
mutual
theorem Zo:∀(w:List Int) (r:Rc) (g:Gm),(prG w r g).map (λp=>(p.1,p.2.1))=plG w g
 |w,r,.fin d=>rfl
 |w,r,.deal n ws=>by
  show(w,Gm.deal n ws)::(prW w (λ_=>r) 0 ws).map _=(w,Gm.deal n ws)::plW w 0 ws;rw[Pa w _ 0 ws]
 |w,r,.move s n ws=>by
  show(w,Gm.move s n ws)::(prW w (rbm s n r) 0 ws).map _=(w,Gm.move s n ws)::plW w 0 ws;rw[Pa w _ 0 ws]
theorem Pa:∀(w:List Int) (f:D->Rc) (i:Nat) (ws:Ws),(prW w f i ws).map (λp=>(p.1,p.2.1))=plW w i ws
 |w,f,i,.nil=>rfl
 |w,f,i,.cons l g r=>by
  show(prG (w++[(i:Int)]) (f l) g++prW w f (i+1) r).map _=plG (w++[(i:Int)]) g++plW w (i+1) r;rw[bX,Zo _ _ g,Pa w f (i+1) r]
end
def trD (p:List Int×Gm×Rc):D:=.tup [.tup<|p.1.map D.int,dG p.2.1,rD2 p.2.2]
theorem Ri:∀(ws:Ws) (k:Nat) (l:D),(bZ ws)[k]? = some l->∃g,(dWs ws)[k]? = some (.tup [l,g])
 | .nil,k,l,h=>by simp[bZ] at h
 | .cons a g r,0,l,h=>by
  have:a=l:=by simpa[bZ] using h
  exact⟨dG g,by simp[dWs,this]⟩
 | .cons a g r,k+1,l,h=>by
  obtain⟨x,e⟩:=Ri r k l (by simpa[bZ] using h);exact⟨x,by simpa[dWs] using e⟩
theorem oW:∀ws:Ws,(bZ ws).length=dF ws
 | .nil=>rfl
 | .cons _ _ r=>by simp[bZ,dF,oW r]
theorem agh {g:Gm}{r:Rc}{k:Nat}{l:D}(hl:(bZ<|zY g)[k]? = some l)(hg:jm g)(hr:r.1.length<=1000/\r.2.length<=1000)(hs:∀s n ws,g=.move s n ws->s=1\/s=2):
  dN [dG g,rD2 r,.int (k:Int)]=.ok (false,rD2<|rbg g r l):=by
 have x30:∀a b c:D,atI [a,b,c] 0=some a:=λ_ _ _=>rfl;have x40:∀a b c d:D,atI [a,b,c,d] 0=some a:=λ_ _ _ _=>rfl;have x41:∀a b c d:D,atI [a,b,c,d] 1=some b:=λ_ _ _ _=>rfl;have x42:∀a b c d:D,atI [a,b,c,d] 2=some c:=λ_ _ _ _=>rfl;have x43:∀a b c d:D,atI [a,b,c,d] 3=some d:=λ_ _ _ _=>rfl;have x20:∀a b:D,atI [a,b] 0=some a:=λ_ _=>rfl;have x21:∀a b:D,atI [a,b] 1=some b:=λ_ _=>rfl;cases g with
 |fin d=>simp[zY,bZ] at hl
 |deal n ws=>simp[dN,gF,gD,aH,aA,gIf,aB,ak,aj,fC,gIx,dG,x30,aU,au,Me.let,Sl.let,rbg]
 |move s n ws=>
  obtain⟨y,ey⟩:=Ri ws k l hl;have ez:=jN ey;have z1:r.1.length+1<=16777216:=by lia
  have z2:r.2.length+1<=16777216:=by lia
  rcases hs s n ws rfl with rfl|rfl
  ·simp[dN,gF,gD,aH,aA,gIf,aB,ak,aj,fC,gIx,dG,x40,x41,x42,x43,aU,au,Me.let,Sl.let,rbg,gNx,aK,aN,aa,ao,ez,x20,x21,rD2,bc,z1,rbm]
  ·simp[dN,gF,gD,aH,aA,gIf,aB,ak,aj,fC,gIx,dG,x40,x41,x42,x43,aU,au,Me.let,Sl.let,rbg,gNx,aK,aN,aa,ao,ez,x20,x21,rD2,bc,z2,rbm]
theorem afp (w:List Int)(j:Int):kw (w++[j])≠kw w:=λh=>by
 have:=Jl h
 have:=congrArg si this
 simp at this
theorem aef (h:i≠j):kw (w++[i])≠kw (w++[j]):=λe=>h<|by simpa using Jl e
theorem Yy {g0 s2 s5:Sl}{ks:List (List Kt)}{ds:List D}{w:List Int}{g:Gm}{r:Rc}{k:Nat}{l:D}(hv:bJ ks ds (kw w)=some (rD2 r))(hk:(bZ<|zY g)[k]? = some l)(hg:jm g)(hr:r.1.length<=1000/\r.2.length<=1000)
  (hs:∀s n ws,g=.move s n ws->s=1\/s=2) (hz:ks.length<=10000000) (hw:w.length<=1000):
  cF [g0,.ow<|.dcu ks ds,s2,.fz<|.tup<|w.map D.int,.fz<|dG g,.fz<|.int (k:Int)]=.ok (.nx,[g0,.ow<|.dcu (iu ks ds (kw<|w++[(k:Int)])<|rD2<|rbg g r l).1 (iu ks ds (kw<|w++[(k:Int)])<|rD2<|rbg g r l).2,s2,.fz<|.tup<|w.map D.int,.fz<|dG g,.fz<|.int (k:Int)]):=by
 have e:=agh hk hg hr hs;have z1:ks.length<16777216:=by lia
 have z2:w.length+1<=16777216:=by lia
 have kk:vf (.tup<|w.map D.int++[.int (k:Int)])=some (kw<|w++[(k:Int)]):=by
  rw[← Wy];simp
 have kk2:vf (.tup<|w.map D.int)=some (kw w):=Wy w;simp[cF,uZ,fFn,aa,ao,au,ak,aj,pF,dcK,kk2,hv,e,Cp,aN,bc,z2,kk,z1,qu]
theorem LQ {g0 s2:Sl}{w:List Int}{g:Gm}{r:Rc}(hg:jm g)(hr:r.1.length<=1000/\r.2.length<=1000)(hs:∀s n ws,g=.move s n ws->s=1\/s=2)(hw:w.length<=1000):
  ∀(c i:Nat) (ks:List (List Kt)) (ds:List D) (s5:Sl),i+c=(bZ<|zY g).length->ks.length=ds.length->bJ ks ds (kw w)=some (rD2 r)->ks.length+c<=1000000->
   ∃ks' ds' s5',aL (hName 5) cF ((kH i c).map λ(k:Nat)=>D.int k) [g0,.ow<|.dcu ks ds,s2,.fz<|.tup<|w.map D.int,.fz<|dG g,s5]=.ok (.nx,[g0,.ow<|.dcu ks' ds',s2,.fz<|.tup<|w.map D.int,.fz<|dG g,s5'])/\ks'.length=ds'.length/\ks'.length<=ks.length+c/\
    (∀j l,i<=j->(bZ<|zY g)[j]? = some l->bJ ks' ds' (kw<|w++[(j:Int)])=some (rD2<|rbg g r l))/\(∀k',(∀j:Nat,i<=j->k'≠kw (w++[(j:Int)]))->bJ ks' ds' k'=bJ ks ds k')
 |0,i,ks,ds,s5,hc,hl,hv,hz=>⟨ks,ds,s5,rfl,hl,by lia,λj l h1 h2=>by
   have:=(fT.mp h2).1
   lia,λ_ _=>rfl⟩
 |c+1,i,ks,ds,s5,hc,hl,hv,hz=>by
  have hi:i<(bZ<|zY g).length:=by lia
  obtain⟨l,el⟩:∃l,(bZ<|zY g)[i]? = some l:=⟨_,ax hi⟩;have st:=Yy (g0:=g0) (s2:=s2) (s5:=s5) hv el hg hr hs (by lia) hw;have hv1:bJ (iu ks ds (kw<|w++[(i:Int)])<|rD2<|rbg g r l).1 (iu ks ds (kw<|w++[(i:Int)])<|rD2<|rbg g r l).2 (kw w)=some (rD2 r):=by rw[yx hl,if_neg<|afp w i];exact hv
  obtain⟨l1,l2⟩:=J0 (k:=kw<|w++[(i:Int)]) (d:=rD2<|rbg g r l) hl;refine Tt (LQ (g0:=g0) (s2:=s2) (w:=w) (g:=g) (r:=r) hg hr hs hw c (i+1) _ _ (.fz<|.int (i:Int)) (by lia) l1 hv1<|by lia) λks' ds' s5' e a1 a2 a3 a4=>?_;refine⟨ks',ds',s5',?_,a1,by lia,λj l' h1 h2=>?_,λk' h=>?_⟩
  ·rw[ia,ah];rw[aW (m1:=[g0,.ow<|.dcu ks ds,s2,.fz<|.tup<|w.map D.int,.fz<|dG g,.fz<|.int (i:Int)]) rfl st];exact e
  ·by_cases q:i=j
   ·subst q;rw[a4 _ λj hj=>aef (by lia),yx hl,if_pos rfl];rw[el] at h2;cases h2;rfl
   ·exact a3 j l' (by lia) h2
  ·rw[a4 k' λj hj=>h j (by lia),yx hl,if_neg λq=>h i (aI _) q.symm]
mutual
def sdG:Gm->Prop
 | .fin _=>True
 | .deal _ ws=>sdW ws
 | .move s _ ws=>(s=1\/s=2)/\sdW ws
def sdW:Ws->Prop
 | .nil=>True
 | .cons _ g r=>sdG g/\sdW r
end
abbrev hPl:Zba:=du 2<|aJ (hName 3)<|aJ (hName 4) dw
theorem Cz (g:Gm):kids g=jD (zY g):=by cases g<;>rfl
theorem Ge (hl:ks.length=ds.length)(hv:bJ ks ds (kw w)=some (rD2 r))(hg:jm g)(hr:r.1.length<=1000/\r.2.length<=1000)
  (hs:∀s n ws,g=.move s n ws->s=1\/s=2) (hz:ks.length<=100000) (hf:found.length<=100000) (hw:w.length<=1000):
  ∃ks' ds' s5',(hPl (pD (w,g)) [g0,.ow<|.dcu ks ds,.ow<|.lst found,s3,s4,s5]=some [g0,.ow<|.dcu ks ds,.ow<|.lst found,.fz<|.tup<|w.map D.int,.fz<|dG g,s5])/\
   aP [g0,.ow<|.dcu ks ds,.ow<|.lst found,.fz<|.tup<|w.map D.int,.fz<|dG g,s5]=.ok (.nx,[g0,.ow<|.dcu ks' ds',.ow<|.lst<|found++[trD (w,g,r)],.fz<|.tup<|w.map D.int,.fz<|dG g,s5'])/\ks'.length=ds'.length/\ks'.length<=ks.length+dF (zY g)/\
    (∀(j:Nat) (l:D),(bZ<|zY g)[j]? = some l->bJ ks' ds' (kw<|w++[(j:Int)])=some (rD2<|rbg g r l))/\(∀k',(∀j:Nat,k'≠kw (w++[(j:Int)]))->bJ ks' ds' k'=bJ ks ds k'):=by
 have hb:=BP hg;have hk:=yI hg;have ek:(kids g).length=(bZ<|zY g).length:=by rw[Cz,iK,oW]
 refine Tt (LQ (g0:=g0) (s2:=.ow<|.lst<|found++[trD (w,g,r)]) (w:=w) (g:=g) (r:=r) hg hr hs hw (kids g).length 0 ks ds s5 (by lia) hl hv<|by lia) λks' ds' s5' e a1 a2 a3 a4=>?_;refine⟨ks',ds',s5',rfl,?_,a1,by rw[← oW,← ek];exact a2,λj l h=>a3 j l (f6 _) h,λk' h=>a4 k' λj _=>h j⟩;have z1:found.length<16777216:=by lia
 have z3:((kids g).length:Int)<4611686018427387904:=by lia
 have kk2:vf (.tup<|w.map D.int)=some (kw w):=Wy w;have eL:gw [g0,.ow<|.dcu ks ds,.ow<|.lst<|found++[trD (w,g,r)],.fz<|.tup<|w.map D.int,.fz<|dG g,s5]=.ok (.nx,[g0,.ow<|.dcu ks' ds',.ow<|.lst<|found++[trD (w,g,r)],.fz<|.tup<|w.map D.int,.fz<|dG g,s5']):=by
  have e1:(aa (aF cu<|aa (fFn jz<|aa (au 4) ao) ao) ao) [g0,.ow<|.dcu ks ds,.ow<|.lst<|found++[trD (w,g,r)],.fz<|.tup<|w.map D.int,.fz<|dG g,s5]=.ok [.int ((kids g).length:Int)]:=by
   simp[aF,cu,fFn,aa,ao,au,hb]
  have e2:=Cu e1 (by lia) (by lia);unfold gw cz;rw[e2];show aL (hName 5) cF ((bp (kids g).length).map λ(k:Nat)=>D.int k) _=_;rw[fm];exact e
 simp only[trD] at eL ⊢;simp[aP,aA,bD,aN,aa,ao,au,ak,aj,pF,dcK,kk2,hv,kY,putL,z1,eL]
theorem Kq (ws:Ws):(jD ws).length<=((jD ws).map szG).sum:=by
 induction jD ws with
 |nil=>exact f6 _
 |cons g l ih=>have:=wz g;simp;lia
mutual
theorem Jx:∀(w:List Int) (g:Gm),(plG w g).length=szG g
 |w,.fin d=>rfl
 |w,.deal n ws=>by show(plW w 0 ws).length+1=szW ws+1;rw[Js w 0 ws]
 |w,.move s n ws=>by show(plW w 0 ws).length+1=szW ws+1;rw[Js w 0 ws]
theorem Js:∀(w:List Int) (i:Nat) (ws:Ws),(plW w i ws).length=szW ws
 |w,i,.nil=>rfl
 |w,i,.cons l g r=>by show(plG (w++[(i:Int)]) g++plW w (i+1) r).length=szG g+szW r;rw[a8,Jx _ g,Js w (i+1) r]
end
mutual
theorem Zi (g0:Sl):∀(g:Gm) (w:List Int) (r:Rc) (ks:List (List Kt)) (ds found:List D) (s3 s4 s5:Sl) (rest:List D),ks.length=ds.length->bJ ks ds (kw w)=some (rD2 r)->jm g->sdG g->r.1.length+dp g<=1000->r.2.length+dp g<=1000->w.length+dp g<=1000->
  ks.length+szG g<=100001->found.length+szG g<=100000->
  ∃ks' ds' s3' s4' s5',aL hPl aP ((plG w g).map pD++rest) [g0,.ow<|.dcu ks ds,.ow<|.lst found,s3,s4,s5]=aL hPl aP rest [g0,.ow<|.dcu ks' ds',.ow<|.lst<|found++(prG w r g).map trD,s3',s4',s5']/\ks'.length=ds'.length/\ks'.length+1<=ks.length+szG g/\
   (∀k',(∀u:List Int,u≠[]->k'≠kw (w++u))->bJ ks' ds' k'=bJ ks ds k')
 | .fin d,w,r,ks,ds,found,s3,s4,s5,rest,hl,hv,hg,hs,r1,r2,hw,hz,hf=>by
  have hsz:szG (.fin d)=1:=rfl;refine Dt (Ge (g0:=g0) (s3:=s3) (s4:=s4) (s5:=s5) (found:=found) (g:=.fin d) hl hv hg ⟨by lia,by lia⟩ (λ_ _ _ z=>by cases z) (by lia) (by lia) (by lia)) λks' ds' s5' e1 e2 a1 a2 a3 a4=>?_;refine⟨ks',ds',.fz<|.tup<|w.map D.int,.fz<|dG<|.fin d,s5',?_,a1,by simpa[zY,dF,szG] using a2,λk' h=>a4 k' λj=>h [(j:Int)]<|by simp⟩;show aL hPl aP (pD (w,.fin d)::rest) _=_;rw[aW e1 e2];rfl
 | .deal n ws,w,r,ks,ds,found,s3,s4,s5,rest,hl,hv,hg,hs,r1,r2,hw,hz,hf=>by
  have hsz:szG (.deal n ws)=szW ws+1:=rfl;have hdp:dp (.deal n ws)=dpW ws+1:=rfl;have hlw:dF ws<=szW ws:=by rw[← iK,zU];exact Kq ws
  refine Dt (Ge (g0:=g0) (s3:=s3) (s4:=s4) (s5:=s5) (found:=found) (g:=.deal n ws) hl hv hg ⟨by lia,by lia⟩ (λ_ _ _ z=>by cases z) (by lia) (by lia) (by lia)) λks' ds' s5' e1 e2 a1 a2 a3 a4=>?_;have a2:ks'.length<=ks.length+dF ws:=a2;obtain⟨kt,dt,t3,t4,t5,e,b1,b2,b3⟩:=Qz g0 ws w (λ_=>r) 0 ks' ds' (found++[trD (w,.deal n ws,r)]) (.fz<|.tup<|w.map D.int) (.fz<|dG<|.deal n ws) s5' rest a1 (λj l h=>by rw[A6];exact a3 j l h) hg.2 hs (λl=>by lia) (λl=>by lia) (by lia) (by lia) (by rw[a8,dS];lia);refine⟨kt,dt,t3,t4,t5,?_,b1,by lia,λk' h=>?_⟩
  ·show aL hPl aP (pD (w,.deal n ws)::((plW w 0 ws).map pD++rest)) _=_;rw[aW e1 e2,e];show aL _ _ _ [_,_,.ow<|.lst<|found++[trD (w,.deal n ws,r)]++(prW w (λ_=>r) 0 ws).map trD,_,_,_]=aL _ _ _ [_,_,.ow<|.lst<|found++(trD (w,.deal n ws,r)::(prW w (λ_=>r) 0 ws).map trD),_,_,_];rw[eD];rfl
  ·rw[b3 k' λj u hu=>h _ (by simp),a4 k' λj=>h [(j:Int)]<|by simp]
 | .move s n ws,w,r,ks,ds,found,s3,s4,s5,rest,hl,hv,hg,hs,r1,r2,hw,hz,hf=>by
  have hsz:szG (.move s n ws)=szW ws+1:=rfl;have hdp:dp (.move s n ws)=dpW ws+1:=rfl;have hlw:dF ws<=szW ws:=by rw[← iK,zU];exact Kq ws
  obtain⟨ks',ds',s5',e1,e2,a1,a2,a3,a4⟩:=Ge (g0:=g0) (s3:=s3) (s4:=s4) (s5:=s5) (found:=found) (g:=.move s n ws) hl hv hg ⟨by lia,by lia⟩ (λ_ _ _ z=>by cases z;exact hs.1) (by lia) (by lia) (by lia);have a2:ks'.length<=ks.length+dF ws:=a2;have rl:∀l,(rbm s n r l).1.length<=r.1.length+1/\(rbm s n r l).2.length<=r.2.length+1:=λl=>by
   unfold rbm;split<;>simp
  obtain⟨kt,dt,t3,t4,t5,e,b1,b2,b3⟩:=Qz g0 ws w (rbm s n r) 0 ks' ds' (found++[trD (w,.move s n ws,r)]) (.fz<|.tup<|w.map D.int) (.fz<|dG<|.move s n ws) s5' rest a1 (λj l h=>by rw[A6];exact a3 j l h) hg.2 hs.2 (λl=>by have:=(rl l).1;lia) (λl=>by have:=(rl l).2;lia) (by lia) (by lia) (by rw[a8,dS];lia);refine⟨kt,dt,t3,t4,t5,?_,b1,by lia,λk' h=>?_⟩
  ·show aL hPl aP (pD (w,.move s n ws)::((plW w 0 ws).map pD++rest)) _=_;rw[aW e1 e2,e];show aL _ _ _ [_,_,.ow<|.lst<|found++[trD (w,.move s n ws,r)]++(prW w (rbm s n r) 0 ws).map trD,_,_,_]=aL _ _ _ [_,_,.ow<|.lst<|found++(trD (w,.move s n ws,r)::(prW w (rbm s n r) 0 ws).map trD),_,_,_];rw[eD];rfl
  ·rw[b3 k' λj u hu=>h _ (by simp),a4 k' λj=>h [(j:Int)]<|by simp]
theorem Qz (g0:Sl):∀(ws:Ws) (w:List Int) (f:D->Rc) (i:Nat) (ks:List (List Kt)) (ds found:List D) (s3 s4 s5:Sl) (rest:List D),ks.length=ds.length->(∀(j:Nat) (l:D),(bZ ws)[j]? = some l->bJ ks ds (kw<|w++[((i+j:Nat):Int)])=some (rD2<|f l))->Bw ws->sdW ws->
  (∀l,(f l).1.length+dpW ws<=1000)->(∀l,(f l).2.length+dpW ws<=1000)->w.length+1+dpW ws<=1000->ks.length+szW ws<=100000+dF ws->found.length+szW ws<=100000->
  ∃ks' ds' s3' s4' s5',aL hPl aP ((plW w i ws).map pD++rest) [g0,.ow<|.dcu ks ds,.ow<|.lst found,s3,s4,s5]=aL hPl aP rest [g0,.ow<|.dcu ks' ds',.ow<|.lst<|found++(prW w f i ws).map trD,s3',s4',s5']/\ks'.length=ds'.length/\ks'.length+dF ws<=ks.length+szW ws/\
   (∀k',(∀(j:Nat) (u:List Int),u≠[]->k'≠kw (w++((i+j:Nat):Int)::u))->bJ ks' ds' k'=bJ ks ds k')
 | .nil,w,f,i,ks,ds,found,s3,s4,s5,rest,hl,hv,hg,hs,r1,r2,hw,hz,hf=>⟨ks,ds,s3,s4,s5,by simp[plW,prW],hl,by simp[dF,szW],λ_ _=>rfl⟩
 | .cons l g r,w,f,i,ks,ds,found,s3,s4,s5,rest,hl,hv,hg,hs,r1,r2,hw,hz,hf=>by
  have hsz:szW (.cons l g r)=szG g+szW r:=rfl;have hdp:dpW (.cons l g r)=max (dp g) (dpW r):=rfl;have hlw:dF (.cons l g r)=dF r+1:=rfl;have hl2:dF r<=szW r:=by rw[← iK,zU];exact Kq r
  have hp:=wz g;have q1:=r1 l;have q2:=r2 l;obtain⟨ks',ds',t3,t4,t5,e,a1,a2,a3⟩:=Zi g0 g (w++[(i:Int)]) (f l) ks ds found s3 s4 s5 ((plW w (i+1) r).map pD++rest) hl (hv 0 l rfl) hg.1 hs.1 (by lia) (by lia) (by rw[a8,dS];lia) (by lia) (by lia);have pl:(prG (w++[(i:Int)]) (f l) g).length=szG g:=by rw[← cm (f:=λp=>(p.1,p.2.1)),Zo];exact Jx _ g
  obtain⟨kt,dt,u3,u4,u5,e',b1,b2,b3⟩:=Qz g0 r w f (i+1) ks' ds' (found++(prG (w++[(i:Int)]) (f l) g).map trD) t3 t4 t5 rest a1 (λj l' h=>by
   rw[a3 _ λu hu z=>?_,← hv (j+1) l' (by simpa[bZ] using h),show i+(j+1)=i+1+j by lia]
   have:=Jl z
   simp at this
   lia) hg.2 hs.2 (λl=>by have:=r1 l;lia) (λl=>by have:=r2 l;lia) (by lia) (by lia) (by rw[a8,cm,pl];lia)
  refine⟨kt,dt,u3,u4,u5,?_,b1,by lia,λk' h=>?_⟩
  ·show aL _ _ ((plG (w++[(i:Int)]) g++plW w (i+1) r).map pD++rest) _=_;rw[bX,eD,e,e'];show _=aL _ _ _ [_,_,.ow<|.lst<|found++(prG (w++[(i:Int)]) (f l) g++prW w f (i+1) r).map trD,_,_,_];rw[bX,eD]
  ·rw[b3 k' λj u hu=>by have:=h (j+1) u hu;rw[show i+(j+1)=i+1+j by lia] at this;exact this];refine a3 k' λu hu=>?_
   have:=h 0 u hu
   simpa using this
end
theorem Z7 (e:L [.fz d,.ow<|.dcu [[]] [rD2 ([],[])],.ow<|.lst [],.un,.un,.un]=.ok (.nx,[.fz d,a,.ow<|.lst ps,s3,s4,s5])):aH 6 1 (d7 L) [d]=.ok (true,.lst ps):=by
 have k0:vf (.tup [])=some []:=rfl;simp only[rD2] at e;simp[aH,d7,aA,cC,PK,aN,ao,aa,k0,cP,e,dY]
theorem aeO (h:jm g)(hs:sdG g)(hd:dp g<=50)(hz:szG g<=10000):d8 [dG g]=.ok (true,.lst<|(prG [] ([],[]) g).map trD):=by
 have e:=places_eq h hd (by lia);obtain⟨ks',ds',s3',s4',s5',e2,_⟩:=Zi (.fz<|dG g) g [] ([],[]) [[]] [rD2 ([],[])] [] .un .un .un [] rfl (by simp[bJ,kw]) h hs (by simp;lia) (by simp;lia) (by simp;lia) (by simp;lia) (by simp;lia);refine Z7 (a:=.ow<|.dcu ks' ds') (s3:=s3') (s4:=s4') (s5:=s5') ?_;have e1:cg (fFn qQ<|aa (au 0) ao) [.fz<|dG g,.ow<|.dcu [[]] [rD2 ([],[])],.ow<|.lst [],.un,.un,.un]=.ok ((plG [] g).map pD):=by
  simp[cg,fFn,aa,ao,au,e]
 unfold lA cz;rw[e1];rw[eT] at e2;exact e2
noncomputable def eF (r:Rc)(s:Int):List D:=if s=1 then r.1 else r.2
def dU (s:Int)(n:Str)(ws:Ws)(r:Rc):D:=.tup [.int s,.str n,.tup<|bZ ws,.tup<|eF r s]
theorem Aw:∀ws:Ws,cA (du 2<|aJ (hName 0)<|aJ (hName 1) dw) cQ (au 0) [.un,.un] (dWs ws)=.ok (bZ ws)
 | .nil=>rfl
 | .cons l g r=>by
  have ih:=Aw r;have e:au 0 [.fz l,.fz<|dG g]=.ok l:=rfl;unfold dWs cA;simp[du,aJ,hName,dw,cQ,e,ih,bZ]
theorem YM (h:dF ws<=100):ue [dG<|.move s n ws]=.ok (false,.tup<|bZ ws):=by
 have x4:∀a b c d:D,atI [a,b,c,d] 3=some d:=λ_ _ _ _=>rfl;have hz:(bZ ws).length<=16777216:=by rw[oW];lia
 have hz2:(dWs ws).length<=16777216:=by rw[pG];lia
 have e:pM [.fz<|dG<|.move s n ws]=.ok (.lst<|bZ ws):=by
  simp[pM,bC,oU,ak,aj,fC,gIx,dG,x4,cMe,Aw,hz,hz2]
 simp[ue,xY,yg,aH,aU,aF,aa,ao,Me.let,Sl.let,e,cH,hz]
theorem aey (h:dF ws<=100)(hs:s=1\/s=2):vR [dG<|.move s n ws,rD2 r]=.ok (false,dU s n ws r):=by
 have e:=YM (s:=s) (n:=n) h;have x1:∀a b c d:D,atI [a,b,c,d] 1=some b:=λ_ _ _ _=>rfl;have x2:∀a b c d:D,atI [a,b,c,d] 2=some c:=λ_ _ _ _=>rfl;have y0:∀a b:D,atI [a,b] 0=some a:=λ_ _=>rfl;have y1:∀a b:D,atI [a,b] 1=some b:=λ_ _=>rfl;simp only[dG] at e;rcases hs with rfl|rfl
 ·simp[vR,yH,yS,aH,aU,Me.let,Sl.let,aN,aa,ao,ak,aj,fC,gIx,dG,x1,x2,fFn,au,e,rD2,F.cO,y0,y1,dU,eF]
 ·simp[vR,yH,yS,aH,aU,Me.let,Sl.let,aN,aa,ao,ak,aj,fC,gIx,dG,x1,x2,fFn,au,e,rD2,F.cO,y0,y1,dU,eF]
abbrev Tb:=List (List Kt)×List D
noncomputable def kn (s:Int)(n:Str):List Kt:=[.k<|.inl s,.k<|.inr n]
def tst (T:Tb)(p:List Int×Gm×Rc):Tb:=match p.2.1 with
 | .move s n ws=>if(bJ T.1 T.2<|kn s n).isSome then T else(T.1++[kn s n],T.2++[dU s n ws p.2.2])
 |_=>T
def tbl (l:List (List Int×Gm×Rc)):Tb:=l.foldl tst ([],[])
theorem RN (T:Tb)(p:List Int×Gm×Rc):(tst T p).1.length<=T.1.length+1:=by grind[tst]
def okP (p:List Int×Gm×Rc):Prop:=match p.2.1 with
 | .move s _ ws=>(s=1\/s=2)/\dF ws<=100
 |_=>True
theorem ZC (hp:okP p)(hz:T.1.length<=100000):∃m1,du 3 (aJ (hName 2)<|aJ (hName 3)<|aJ (hName 4) dw) (trD p) [g0,.ow<|.dcu T.1 T.2,s2,s3,s4]=some m1/\
  fG m1=.ok (.nx,[g0,.ow<|.dcu (tst T p).1 (tst T p).2,.fz<|.tup<|p.1.map D.int,.fz<|dG p.2.1,.fz<|rD2 p.2.2]):=by
 refine⟨[g0,.ow<|.dcu T.1 T.2,.fz<|.tup<|p.1.map D.int,.fz<|dG p.2.1,.fz<|rD2 p.2.2],rfl,?_⟩;obtain⟨w,g,r⟩:=p;have x20:∀a b:D,atI [a,b] 0=some a:=λ_ _=>rfl;have x30:∀a b c:D,atI [a,b,c] 0=some a:=λ_ _ _=>rfl;have x40:∀a b c d:D,atI [a,b,c,d] 0=some a:=λ_ _ _ _=>rfl;have x41:∀a b c d:D,atI [a,b,c,d] 1=some b:=λ_ _ _ _=>rfl;have x42:∀a b c d:D,atI [a,b,c,d] 2=some c:=λ_ _ _ _=>rfl;cases g with
 |fin d=>simp[fG,gIf,aB,ak,aj,fC,gIx,dG,x20,gNx,tst]
 |deal n ws=>simp[fG,gIf,aB,ak,aj,fC,gIx,dG,x30,gNx,tst]
 |move s n ws=>
  have hp:(s=1\/s=2)/\dF ws<=100:=hp;have e:=aey (n:=n) (r:=r) hp.2 hp.1;simp only[dG] at e;have kk:vf (.tup [.int s,.str n])=some (kn s n):=rfl;have z1:T.1.length<16777216:=by lia
  by_cases q:(bJ T.1 T.2<|kn s n).isSome=true
  ·simp[fG,gIf,aB,ak,aj,fC,gIx,dG,x40,x41,x42,abH,Cp,aN,aa,ao,fFn,au,e,kk,z1,tst,q,qu]
  ·simp[fG,gIf,aB,ak,aj,fC,gIx,dG,x40,x41,x42,abH,Cp,aN,aa,ao,fFn,au,e,kk,z1,tst,q,qu]
theorem Mf:∀(l:List (List Int×Gm×Rc)) (T:Tb) (s2 s3 s4:Sl),(∀p∈l,okP p)->T.1.length+l.length<=100000->∃s2' s3' s4',aL (du 3<|aJ (hName 2)<|aJ (hName 3)<|aJ (hName 4) dw) fG (l.map trD) [g0,.ow<|.dcu T.1 T.2,s2,s3,s4]=.ok (.nx,[g0,.ow<|.dcu (l.foldl tst T).1 (l.foldl tst T).2,s2',s3',s4'])
 |[],T,s2,s3,s4,_,_=>⟨s2,s3,s4,rfl⟩
 |p::l,T,s2,s3,s4,hp,hz=>by
  have hz':T.1.length+(l.length+1)<=100000:=hz;obtain⟨m1,e1,e2⟩:=ZC (g0:=g0) (s2:=s2) (s3:=s3) (s4:=s4) (T:=T) (hp p af)<|by lia
  have:=RN T p
  obtain⟨a,b,c,e⟩:=Mf l (tst T p) (.fz<|.tup<|p.1.map D.int) (.fz<|dG p.2.1) (.fz<|rD2 p.2.2) (λq hq=>hp q<|ae _ hq) (by lia);exact⟨a,b,c,by rw[ah,aW e1 e2,e];rfl⟩
theorem tab_run (e:L [.fz d,.ow<|.dcu [] [],.un,.un,.un]=.ok (.nx,[.fz d,.ow<|.dcu ks ds,s2,s3,s4])):aH 5 1 (uF L) [d]=.ok (true,.lst ds):=by
 simp[aH,uF,aA,cC,tM,e,jc,Me.let,Sl.let,Qw,aj]
mutual
theorem HH:∀(w:List Int) (r:Rc) (g:Gm),jm g->sdG g->∀p∈prG w r g,okP p
 |w,r,.fin d,_,_,p,hp=>by
  have:p=(w,.fin d,r):=by simpa[prG] using hp
  rw[this];exact iA
 |w,r,.deal n ws,h,hs,p,hp=>by
  rcases aE.mp (show p∈(w,Gm.deal n ws,r)::prW w (λ_=>r) 0 ws from hp) with e|e
  ·rw[e];exact iA
  ·exact Py w _ 0 ws h.2 hs p e
 |w,r,.move s n ws,h,hs,p,hp=>by
  rcases aE.mp (show p∈(w,Gm.move s n ws,r)::prW w (rbm s n r) 0 ws from hp) with e|e
  ·rw[e];exact⟨hs.1,h.1⟩
  ·exact Py w _ 0 ws h.2 hs.2 p e
theorem Py:∀(w:List Int) (f:D->Rc) (i:Nat) (ws:Ws),Bw ws->sdW ws->∀p∈prW w f i ws,okP p
 |w,f,i,.nil,_,_,p,hp=>by cases hp
 |w,f,i,.cons l g r,h,hs,p,hp=>by
  rcases cq.mp (show p∈prG (w++[(i:Int)]) (f l) g++prW w f (i+1) r from hp) with e|e
  ·exact HH _ _ g h.1 hs.1 p e
  ·exact Py w f (i+1) r h.2 hs.2 p e
end
theorem KH (w:List Int)(r:Rc)(g:Gm):(prG w r g).length=szG g:=by rw[← cm (f:=λp=>(p.1,p.2.1)),Zo];exact Jx _ g
theorem table_eq (h:jm g)(hs:sdG g)(hd:dp g<=50)(hz:szG g<=10000):xN [dG g]=.ok (true,.lst (tbl<|prG [] ([],[]) g).2):=by
 have e:=aeO h hs hd hz;obtain⟨a,b,c,e2⟩:=Mf (g0:=.fz<|dG g) (prG [] ([],[]) g) ([],[]) .un .un .un (HH _ _ g h hs) (by rw[KH];simp;lia);refine tab_run (ks:=(tbl<|prG [] ([],[]) g).1) (s2:=a) (s3:=b) (s4:=c) ?_;have e1:cg (fFn d8<|aa (au 0) ao) [.fz<|dG g,.ow<|.dcu [] [],.un,.un,.un]=.ok ((prG [] ([],[]) g).map trD):=by
  simp[cg,fFn,aa,ao,au,e]
 unfold uB cz;rw[e1];exact e2
end Pk
namespace F
open PySem L2 Hd
noncomputable def rq (r:Rat):Q2:=(r.num,(r.den:Int))
def rD (r:Rat):D:=qD<|rq r
theorem oK (r:Rat):rD r=.tup [.int r.num,.int r.den]:=rfl
theorem jg (r:Rat):1<=(r.den:Int):=by have:=r.den_pos;lia
theorem Ze (r:Rat):gI r.num r.den=1:=by
 unfold gI
 have:=r.reduced
 unfold BM at this;show((tF r.num (r.den:Int):Nat):Int)=1;unfold tF;simp[this]
theorem J5 (hb:b≠0):(lt t b,lb t b)=rq (ar t b):=by
 have h:=tm<|ar t b;have hd:((ar t b).den:Int)≠0:=by have:=jg<|ar t b;lia
 have h2:=(vE hd hb).mp h;obtain⟨z1,z2⟩:=adu hb (jg<|ar t b) (Ze<|ar t b) (t:=t) h2.symm;exact BY z1 z2
theorem yl (r:Rat):ar r.num r.den=r:=tm r
theorem Tf (a b:Rat):ar (a.num*b.den+b.num*a.den) (a.den*b.den)=a+b:=by
 have ha:=jg a;have hb:=jg b;rw[← Rat.divInt_add_divInt _ _ (by lia) (by lia),yl,yl]
theorem Y7 (a b:Rat):ar (a.num*b.num) (a.den*b.den)=a*b:=by
 rw[← mw,yl,yl]
def Sz (k:Nat)(r:Rat):Prop:=r.num.natAbs<2^k/\r.den<2^k
theorem Sz.mono (h:Sz k r)(e:k<=l):Sz l r:=⟨bB h.1 e,bB h.2 e⟩
theorem o8 (hb:b≠0)(h1:t.natAbs<2^k)(h2:b.natAbs<2^k):Sz k (ar t b):=by
 have e:=J5 (t:=t) hb;have e1:=congrArg AX e;have e2:=congrArg Prod.snd e;have e1:lt t b=(ar t b).num:=e1;have e2:lb t b=((ar t b).den:Int):=e2;have l1:=ack (t:=t) hb;have l2:=acB (t:=t) hb;rw[e1] at l1;rw[e2] at l2;exact⟨by lia,by lia⟩
theorem Gq (ha:Sz k a)(hb:Sz l b):Sz (k+l+1) (a+b):=by
 rw[← Tf];have pa:=jg a;have pb:=jg b;have h1:(a.num*b.den).natAbs<2^(k+l):=p7 ha.1 (by simpa using hb.2);have h2:(b.num*a.den).natAbs<2^(k+l):=by rw[Nat.add_comm];exact p7 hb.1<|by simpa using ha.2
 have h3:((a.den:Int)*b.den).natAbs<2^(k+l):=p7 (by simpa using ha.2) (by simpa using hb.2);refine o8 ?_ (ac3 h1 h2)<|bB h3 (by lia);exact sD (by lia)<|by lia
theorem vX (ha:Sz k a)(hb:Sz l b):Sz (k+l) (a*b):=by
 rw[← Y7];have pa:=jg a;have pb:=jg b;refine o8 (sD (by lia)<|by lia) (p7 ha.1 hb.1)<|p7 (by simpa using ha.2) (by simpa using hb.2)
theorem jJ:Sz 1 0:=⟨by decide,by decide⟩
theorem Yr:Sz 1 1:=⟨by decide,by decide⟩
theorem Ru (h:Sz k r)(hk:k<=4000):Bq r.num/\Bq (r.den:Int):=⟨eV<|bB h.1 (by lia),eV<|bB (by simpa using h.2) (by lia)⟩
theorem aed (h:Sz k a)(g:Sz l b)(hk:k+l<=4000):Bq ((a.den:Int)*b.den):=eV<|bB (p7 (by simpa using h.2) (by simpa using g.2)) (by lia)
theorem Ez (a b:Rat):(a.den:Int)*b.den≠0:=sD (by have:=jg a;lia) (by have:=jg b;lia)
end F
namespace Pk
open PySem L2 Hd F
theorem abz (x y:Sl):∀(n:Nat) (a b:Int) (z:Sl),b.toNat=n->0<=a->0<=b->∃k z',wh gQ gR k [x,y,.fz<|.int a,.fz<|.int b,z] =
  some (.ok (.nx,[x,y,.fz<|.int<|gI a b,.fz<|.int 0,z'])):=by
 intro n;induction n using sC with
 |_ n ih=>
  intro a b z hn ha hb;by_cases h0:b=0
  ·subst h0;refine⟨1,z,?_⟩;rw[RD ha];exact CZ rfl
  ·have hb':0<b:=by lia
   have hm:=i9 a hb';have hm0:=kU a h0;obtain⟨k,z',e⟩:=ih (a%b).toNat (by lia) b (a%b) (.fz<|.int<|a%b) rfl hb hm0;rw[Rm ha hb'] at e;refine⟨k+1,z',CT (m':=[x,y,.fz<|.int b,.fz<|.int<|a%b,.fz<|.int<|a%b]) ?_ ?_ e⟩
   ·simp[gQ,aB,aj,fC,h0]
   ·simp[gR,aA,aK,ak,aj,au,aY,mdI,h0,hb']
theorem jt (a b:Int):gH [.int a,.int b]=.ok (false,.int<|gI a b):=by
 obtain⟨k,z',e⟩:=abz (.fz<|.int a) (.fz<|.int b) _ (if a<0 then -a else a) (if b<0 then -b else b) .un rfl (by split<;>lia) (by split<;>lia);rw[Y8] at e;have e2:=wF k e;simp[gH,aH,nq,m5,kJ,aA,aK,aF,aa,ao,aj,Oo,e2,aU,Me.let,Sl.let,au]
theorem afe (h:i.natAbs<2^k)(hk:k<=4000:=by decide):Bq i:=eV<|bB h<|by lia
theorem M5 (hb:b≠0)(hB:Bq b):oM [.int t,.int b]=.ok (false,.tup [.int<|lt t b,.int<|lb t b]):=by
 have hd:=Sv (t:=t) hb;have hB':Bq (dv t b):=by
  have h1:=acK (a:=t) hb;have h2:=YT t b;unfold Bq at hB ⊢
  lia
 have e1:dvI t (dv t b)=lt t b:=by
  unfold dvI lt;split
  ·rw[ic t<|by lia]
  ·rfl
 have e2:dvI b (dv t b)=lb t b:=by
  unfold dvI lb;split
  ·rw[ic b<|by lia]
  ·rfl
 by_cases h:b<0
 ·have e:dv t b=-gI t b:=if_pos h;rw[e] at e1 e2 hd hB';have hg:gI t b≠0:=by lia
  simp[hg,oM,aH,yu,zG,aA,aK,fFn,aa,ao,au,aj,jt,gIf,aB,fC,gLt,h,fUn,qj,aU,Me.let,Sl.let,aN,ak,cV,hB',e1,e2]
 ·have e:dv t b=gI t b:=if_neg h;rw[e] at e1 e2 hd hB';have hg:gI t b≠0:=by lia
  simp[hg,oM,aH,yu,zG,aA,aK,fFn,aa,ao,au,aj,jt,gIf,aB,fC,gLt,h,gNx,aU,Me.let,Sl.let,aN,ak,cV,hB',e1,e2,hd]
theorem ix0:atI [a,b] 0=some a:=rfl
theorem ix1:atI [a,b] 1=some b:=rfl
theorem uE (hb:b≠0)(hB:Bq b):oM [.int t,.int b]=.ok (false,rD<|ar t b):=by
 rw[M5 hb hB];have e:=J5 (t:=t) hb;show _=Res.ok (false,qD<|rq<|ar t b);rw[← e];rfl
theorem Zj (ha:Sz k a)(hb:Sz l b)(hk:k+l<=4000):vK [rD a,rD b]=.ok (false,rD<|a+b):=by
 obtain⟨a1,a2⟩:=Ru ha (by lia);obtain⟨b1,b2⟩:=Ru hb (by lia);have e:=uE (t:=a.num*b.den+b.num*a.den) (Ez a b)<|aed ha hb hk;rw[Tf] at e;simp[vK,aH,KC,JP,aU,Me.let,Sl.let,fFn,aa,ao,ak,aj,fC,gIx,oK,ix0,ix1,dO,bc,a1,a2,b1,b2];rw[e];simp[oK]
theorem Vg (ha:Sz k a)(hb:Sz l b)(hk:k+l<=4000):CV [rD a,rD b]=.ok (false,.bl<|decide<|a.num*b.den<b.num*a.den):=by
 obtain⟨a1,a2⟩:=Ru ha (by lia);obtain⟨b1,b2⟩:=Ru hb (by lia);simp[CV,aH,JK,Jt,aU,Me.let,Sl.let,oZ,aa,ao,ak,aj,fC,gIx,oK,ix0,ix1,dO,a1,a2,b1,b2,gLt]
theorem Mg (k:Nat):∀(l:List Rat) (q:Rat) (j:Nat) (s2:Sl),Sz j q->(∀x∈l,Sz k x)->j+l.length*(k+1)<=2000->k<=2000->
  ∃s2',aL (hName 2) wA (l.map rD) [a,.fz<|rD q,s2]=.ok (.nx,[a,.fz<|rD<|q+l.sum,s2'])
 |[],q,j,s2,_,_,_,_=>⟨s2,by simp[aL,oq]⟩
 |x::l,q,j,s2,hq,hl,hj,hk=>by
  have hx:=hl x af;have hj':j+(l.length+1)*(k+1)<=2000:=hj;rw[Nat.add_mul] at hj';have e:=Zj hq hx (by lia);obtain⟨s2',e'⟩:=Mg k l (q+x) (j+k+1) (.fz<|rD x) (Gq hq hx) (λy hy=>hl y<|ae _ hy) (by lia) hk;refine⟨s2',?_⟩;rw[ah,aW (m1:=[a,.fz<|rD q,.fz<|rD x]) (m2:=[a,.fz<|rD<|q+x,.fz<|rD x]) rfl (by simp[wA,aK,fFn,aa,ao,au,e]),e',cb,AY]
theorem Il {l:List Rat}(hl:∀x∈l,Sz k x)(hj:1+l.length*(k+1)<=2000)(hk:k<=2000):zx [.lst<|l.map rD]=.ok (false,rD l.sum):=by
 obtain⟨s2',e⟩:=Mg (a:=.fz<|.lst<|l.map rD) k l 0 1 .un jJ hl hj hk;have e0:rD 0=.tup [.int 0,.int 1]:=rfl;rw[tp,e0] at e;simp[zx,aH,JR,JW,An,aA,aK,fC,cz,cg,au,aj,e,aU,Me.let,Sl.let]
theorem HW {α:Type}{f:α->D}{b:α->Bool}:∀l:List α,(∀x∈l,f x=.bl (b x))->Ed (l.map f)=some (l.map b)
 |[],_=>rfl
 |x::l,h=>by
  have ih:=HW l λy hy=>h y<|ae _ hy;simp[Ed,h x af,ih]
noncomputable def sdD:D->Int
 | .tup [.int s,_,_,_]=>s
 |_=>0
noncomputable def wdD:D->Nat
 | .tup [_,_,.tup ws,_]=>ws.length
 |_=>0
def NQ (d:D):Prop:=∃s n ws r,d=dU s n ws r
theorem BK {h:Zba}{ft:Zaf}{fe:Zae}{m0:Me}(P:D->Bool):∀ds:List D,(∀d∈ds,∃m1,h d m0=some m1/\ft m1=.ok (P d)/\fe m1=.ok d)->cA h ft fe m0 ds=.ok (ds.filter P)
 |[],_=>rfl
 |d::ds,H=>by
  obtain⟨m1,e1,e2,e3⟩:=H d af;have ih:=BK P ds λd hd=>H d<|ae _ hd;unfold cA;rw[qV];by_cases q:P d=true
  ·simp only[e1,e2,q,e3,ih,if_pos]
  ·have q':P d=false:=by simpa using q
   simp only[e1,e2,q',ih]
   simp
theorem yF:∀(l:List (List Int×Gm×Rc)) (T:Tb) (d:D),d∈(l.foldl tst T).2->d∈T.2\/∃p∈l,∃s n ws,p.2.1=.move s n ws/\d=dU s n ws p.2.2
 |[],T,d,h=>.inl h
 |p::l,T,d,h=>by
  rcases yF l (tst T p) d h with e|⟨q,hq,e⟩
  ·unfold tst at e;split at e
   ·rename_i s n ws ep;split at e
    ·exact .inl e
    ·rcases cq.mp e with e|e
     ·exact .inl e
     ·exact .inr ⟨p,af,s,n,ws,ep,by simpa using e⟩
   ·exact .inl e
  ·exact .inr ⟨q,ae _ hq,e⟩
theorem zF {l:List (List Int×Gm×Rc)}{d:D}(h:d∈(tbl l).2):NQ d:=by
 rcases yF l ([],[]) d h with e|⟨p,_,s,n,ws,_,e⟩
 ·cases e
 ·exact⟨s,n,ws,p.2.2,e⟩
theorem QZ {g:Gm}{s:Int}(h:jm g)(hs:sdG g)(hd:dp g<=50)(hz:szG g<=10000):tK [dG g,.int s]=.ok (true,.lst<|(tbl<|prG [] ([],[]) g).2.filter λd=>decide<|sdD d=s):=by
 have e:=table_eq h hs hd hz;have ec:cA (hName 0) (aB gEq (ak gIx (aj 0)<|fC<|.int 0)<|aj 1) (au 0) [.un,.fz<|.int s] (tbl<|prG [] ([],[]) g).2=.ok ((tbl<|prG [] ([],[]) g).2.filter λd=>decide<|sdD d=s):=BK _ _ λd hd=>by
  obtain⟨a,n,ws,r,rfl⟩:=zF hd;refine⟨[.fz<|dU a n ws r,.fz<|.int s],rfl,?_,rfl⟩;have x0:∀a b c d:D,atI [a,b,c,d] 0=some a:=λ_ _ _ _=>rfl;simp[aB,ak,aj,fC,gIx,dU,x0,sdD];exact decide_eq_decide.mpr Iff.rfl
 have z1:(tbl<|prG [] ([],[]) g).2.length<=16777216:=by
  have:∀(l:List (List Int×Gm×Rc)) (T:Tb),(l.foldl tst T).2.length<=T.2.length+l.length:=by
   intro l;induction l with
   |nil=>intro T;simp
   |cons p l ih=>
    intro T
    have:=ih<|tst T p
    have q:(tst T p).2.length<=T.2.length+1:=by
     unfold tst;split
     ·split<;>simp
     ·lia
    simp only[sx,cw]
    lia
  have:=this (prG [] ([],[]) g) ([],[])
  rw[KH] at this;simp at this;have e:tbl (prG [] ([],[]) g)=(prG [] ([],[]) g).foldl tst ([],[]):=rfl;rw[e]
  lia
 have eq:qK [.fz<|dG g,.fz<|.int s]=.ok (.lst<|(tbl<|prG [] ([],[]) g).2.filter λd=>decide<|sdD d=s):=by
  simp[qK,bC,cg,fFn,aa,ao,au,e,cMe,Sl.bor,ec,z1]
 simp[tK,Ax,Bk,aH,jc,Me.let,Sl.let,eq]
def okT (l:List D)(s:Int):Prop:=(l.filter λd=>decide<|sdD d=s).length<=8/\((l.filter λd=>decide<|sdD d=s).map λd=>(wdD d:Int)).sum<=24
def smQ (d:Q2):Prop:=d.1.natAbs<=999999999999/\d.2<=999
def aeb (ws:Ws):Prop:=∃l:List Rat,bZ ws=l.map rD/\(∀x∈l,Sz 20 x/\smQ (rq x)/\0<x.num)/\l.length<=3/\l.sum=1
def okF (g:Gm):Prop:=match g with
 | .fin d=>smQ d
 | .deal _ ws=>aeb ws
 |_=>True
theorem zE {α:Type}{f:α->D}{l:List α}(h:∀x∈l,f x=.bl true):Eb [.lst<|l.map f]=some (.bl true):=by
 have:=HW (b:=λ_=>true) l h
 show(Ed<|l.map f).map (λbs=>D.bl<|bs.all id)=_;rw[this]
 simp
def okR (d:D):Prop:=okD d=true/\wK d<=20
theorem aeR (h:kn s n=kn t m):s=t/\n=m:=by
 unfold kn at h;injection h with h1 h2
 injection h1 with h1
 injection h1 with h1
 injection h2 with h2
 injection h2 with h2
 injection h2 with h2
 exact⟨h1,h2⟩
def ag1 (ρ:Int->Str->D)(p:List Int×Gm×Rc):Prop:=∀s n ws,p.2.1=.move s n ws->dU s n ws p.2.2=ρ s n/\okR (ρ s n)
structure Gd (g:Gm):Prop where
 len:jm g
 sd:sdG g
 dep:dp g<=12
 sz:szG g<=64
 row:∃ρ,∀p∈prG [] ([],[]) g,ag1 ρ p
 fr:∀p∈prG [] ([],[]) g,okF p.2.1/\jm p.2.1
 t1:okT (tbl (prG [] ([],[]) g)).2 1
 t2:okT (tbl (prG [] ([],[]) g)).2 2
end Pk
namespace Lw
open PySem L2 Hd F Pk
section
def lV:Zab:=
 (aA (gIf (aB gLt (aj 1)<|aF cu<|aa (aj 0) ao) (aU<|ak gIx (aj 0)<|aj 1) gNx)
 (aU<|fC<|.int 0))
def lG:Zab:=
 lV
def gJ:Zac:=aH 2 2 lG
def j9:Zaf:=
 (aB gNe (aj 3)<|fC<|.int 0)
def kh:Zab:=
 (adK 2 3<|aa (au 3)<|aa (ak aY (aj 2)<|aj 3) ao)
def ph:Zab:=
 (oX j9 kh)
def rM (l_3:Zab):Zab:=
 (aA (aK 2<|aF Oo<|aa (aj 0) ao)
 (aA (aK 3<|au 1)
 (aA l_3
 (aU<|aN<|aa (ak cV (aj 0)<|aj 2)<|aa (ak cV (aj 1)<|aj 2) ao))))
def sy:Zab:=
 (rM ph)
def dH:Zac:=aH 4 2 sy
def iG:Zab:=
 (aA (bD 4<|ak aY (aj 0)<|fC<|.int 36)
 (aK 0<|ak cV (aj 0)<|fC<|.int 36))
def nJ:Zab:=
 (cz (jo<|aa (aj 3) ao) (hName 5) iG)
def nU:Zae:=
 (ak gIx (aj 1)<|aj 0)
def oH:Zae:=
 (bC 1 [2] (cg<|aj 4) (hName 0) cQ nU)
def jC:Zae:=
 (fSl (ak TQ (fC<|.int 8)<|aj 1) fO0<|fO1<|aj 0)
def nT:Zae:=
 (bC 1 [6] (Rt<|aa (fC<|.int 1)<|aa (fC<|.int 9) ao) (hName 0) cQ jC)
def iC:Zab:=
 (aA (aK 9<|ak gIx (aj 2)<|ak aY (ak bc (ak gIx (aj 4)<|aj 7)<|ak dO (fC<|.int 4)<|aj 5)<|fC<|.int 36)
 (bD 8<|ak bc (ak bc (fSl (aj 6) fO0<|fO1<|aj 7)<|aj 9)<|fSl (aj 6) (fO1<|ak bc (aj 7)<|fC<|.int 1) fO0))
def sG:Zab:=
 (cz (jo<|aa (fC<|.int 8) ao) (hName 5) iC)
def lq (l_2:Zab)(l_4:Zae)(l_6:Zae)(l_8:Zab):Zab:=
 (aA (aK 2<|fC<|.str "abcdefghijklmnopqrstuvwxyz0123456789")
 (aA (aK 3<|ak bc (fC<|.int 1)<|ak aY (aj 0)<|fC<|.int 8)
 (aA (aK 0<|ak cV (aj 0)<|fC<|.int 8)
 (aA (cC 4<|cP ao)
 (aA l_2
 (aA (aK 6<|T5 "str" HR (fC<|.str "") (aa l_4 ao))
 (aA (gIf (aB gEq (ak aY (ak cV (aj 1)<|fC<|.int 8)<|fC<|.int 3)<|fC<|.int 1) (jc l_6) gNx)
 (aA (aK 7<|ak aY (aj 1)<|aj 3)
 (aA (cC 8<|cP ao)
 (aA l_8
 (dY 8)))))))))))
def Cg:Zab:=
 (lq nJ oH nT sG)
def qR:Zac:=aH 10 2 Cg
def pK (φ__law_lowest:Zac):Zab:=
 (aA (gIf (aB gEq (ak aY (aj 0)<|fC<|.int 8)<|fC<|.int 3) (aU<|fFn φ__law_lowest<|aa (ak cO (ak aY (ak dO (aj 0)<|fC<|.int 48271)<|fC<|.int 1999999999999)<|fC<|.int 999999999999)<|aa (ak bc (fC<|.int 1)<|ak aY (ak cV (aj 0)<|fC<|.int 8)<|fC<|.int 999) ao) gNx)
 (aU<|fFn φ__law_lowest<|aa (ak cO (ak aY (ak cV (aj 0)<|fC<|.int 8)<|fC<|.int 13)<|fC<|.int 6)<|aa (ak bc (fC<|.int 1)<|ak aY (ak cV (aj 0)<|fC<|.int 104)<|fC<|.int 3) ao))
def pL:Zab:=
 (pK dH)
def bM:Zac:=aH 1 1 pL
def dm:Zab:=
 (aA (bD 2<|ak bc (ak bc (fC<|.int 1)<|ak aY (aj 0)<|fC<|.int 4)<|ak dO (ak cV (ak aY (ak cV (aj 0)<|fC<|.int 4)<|fC<|.int 8)<|fC<|.int 7)<|ak aY (ak cV (aj 0)<|fC<|.int 32)<|fC<|.int 200)
 (aK 0<|ak aY (ak dO (aj 0)<|fC<|.int 48271)<|fC<|.int 2147483647))
def iB:Zab:=
 (cz (jo<|aa (aj 1) ao) (hName 3) dm)
def jZ:Zae:=
 (fFn dH<|aa (au 0)<|aa (aF Je<|aa (aj 1) ao) ao)
def jU:Zae:=
 (bC 1 [2] (cg<|aj 2) (hName 0) cQ jZ)
def nW (l_2:Zab)(l_4:Zae):Zab:=
 (aA (cC 2<|cP ao)
 (aA l_2
 (jc l_4)))
def wZ:Zab:=
 (nW iB jU)
def nG:Zac:=aH 4 2 wZ
def xU:Zab:=
 (aU<|ak aY (ak dO (ak bc (ak aY (aj 0)<|fC<|.int 2147483647)<|fC<|.int 1)<|ak bc (fC<|.int 48271)<|ak dO (fC<|.int 7)<|aj 1)<|fC<|.int 2147483647)
def yq:Zab:=
 xU
def bF:Zac:=aH 2 2 yq
def gO:Zab:=
 (aA (aK 5<|aN<|aa (au 1)<|aa (au 2)<|aa (au 3)<|aa (au 4) ao)
 (aA (gIf (aB Bv (aj 5)<|OD 6<|ak bu (aj 0)<|fC<|.str "names") (aA (DY 6 (ak bu (aj 0)<|fC<|.str "names") (au 5)<|ak gIx (OD 7<|ak bu (aj 0)<|fC<|.str "many")<|ak cO (aj 1)<|fC<|.int 1)
 (Ay 7 (ak bu (aj 0)<|fC<|.str "many") (ak cO (aj 1)<|fC<|.int 1)<|ak bc (ak gIx (OD 7<|ak bu (aj 0)<|fC<|.str "many")<|ak cO (aj 1)<|fC<|.int 1)<|fC<|.int 1)) gNx)
 (aU<|ak pF (OD 6<|ak bu (aj 0)<|fC<|.str "names")<|aj 5)))
def gW:Zab:=
 gO
def cY:List D->D->Addr×D->Addr×D->Res (D×D×D×D):=runST 0 8 5 gW
def fP (Φb:List D->D->Addr×D->Addr×D->Res (D×D×D×D)):Zab:=
 (aA (aK 12<|ak gIx (aj 8)<|ak aY (ak bc (ak bc (ak dO (fC<|.int 3)<|aj 7)<|aj 11)<|ak cV (ak bu (aj 1)<|fC<|.str "turn")<|fC<|.int 8)<|fC<|.int 8)
 (aA (cC 13<|aF uN<|aa (aj 3) ao)
 (aA (kZ 13 (ak cO (aj 5)<|fC<|.int 1)<|ak bc (ak gIx (aj 13)<|ak cO (aj 5)<|fC<|.int 1)<|aN<|aa (aN<|aa (au 9)<|aa (au 12) ao) ao)
 (Xy 13<|sY 10<|Hv<|vm (fX<|au 12)<|vm (xV Φb 1 1 14 15<|aa (au 0)<|aa (ak cO (aj 2)<|fC<|.int 1)<|aa (au 13) ao) Ie))))
def jB (Φb:List D->D->Addr×D->Addr×D->Res (D×D×D×D)):Zab:=
 (cz (jo<|aa (aj 6) ao) (hName 11)<|fP Φb)
def lu (φ__law_stake:Zac)(φ__law_name_number:List D->D->Addr×D->Addr×D->Res (D×D×D×D))(l_2:Zab):Zab:=
 (aA (aK 5<|ak bc (fC<|.int 1)<|ak aY (aj 4)<|fC<|.int 2)
 (aA (aK 6<|ak bc (fC<|.int 1)<|ak aY (ak cV (aj 4)<|fC<|.int 16)<|fC<|.int 3)
 (aA (Uq 7<|xV φ__law_name_number 1 0 14 15<|aa (au 5)<|aa (ak gIx (aj 3)<|ak cO (aj 5)<|fC<|.int 1)<|aa (au 6)<|aa (ak aY (ak cV (aj 4)<|fC<|.int 48)<|fC<|.int 2) ao)
 (aA (gIf (aB gGe (aj 7)<|fC<|.int 8) (aU<|aN<|aa (fC<|.str "end")<|aa (fFn φ__law_stake<|aa (au 4) ao) ao) gNx)
 (aA (dB 1 (fC<|.str "room")<|ak cO (ak bu (aj 1)<|fC<|.str "room")<|aj 6)
 (aA (aK 8<|ak bu (aj 1)<|fC<|.str "pool")
 (aA (aK 9<|ak gIx (aj 8)<|ak aY (ak bc (aj 7)<|ak bu (aj 1)<|fC<|.str "turn")<|fC<|.int 8)
 (aA (cC 10<|cP ao)
 (aA l_2
 (aU<|aN<|aa (fC<|.str "move")<|aa (au 5)<|aa (au 9)<|aa (aF cH<|aa (aj 10) ao) ao))))))))))
def oV (Φb:List D->D->Addr×D->Addr×D->Res (D×D×D×D)):List D->D->Addr×D->Addr×D->Res (D×D×D×D):=runST 1 16 5<|(lu bM cY<|jB Φb)
def iZ (Φ:List D->D->Addr×D->Addr×D->Res (D×D×D×D)):Zab:=
 (sY 8<|Hv<|vm (fX<|au 9)<|vm (xV Φ 1 1 10 11<|aa (au 0)<|aa (ak cO (aj 2)<|fC<|.int 1)<|aa (au 3) ao) Ie)
def dZ (Φ:List D->D->Addr×D->Addr×D->Res (D×D×D×D)):Zab:=
 (cz (cg<|fFn nG<|aa (au 5)<|aa (au 7) ao) (hName 9)<|iZ Φ)
def dD (φ__law_stake:Zac)(φ__law_mix:Zac)(φ__law_built:List D->D->Addr×D->Addr×D->Res (D×D×D×D))(l_2:Zab):Zab:=
 (aA (aK 4<|ak bu (aj 1)<|fC<|.str "at")
 (aA (dB 1 (fC<|.str "at")<|ak bc (aj 4)<|fC<|.int 1)
 (aA (gIf (aB gGe (aj 4)<|aF cu<|aa (aj 0) ao) (aU<|aN<|aa (fC<|.str "end")<|aa (fFn φ__law_stake<|aa (fFn φ__law_mix<|aa (ak bc (ak gIx (aj 0)<|fUn qj<|fC<|.int 1)<|ak dO (aj 4)<|aj 4)<|aa (au 4) ao) ao) ao) gNx)
 (aA (aK 5<|fFn φ__law_mix<|aa (ak gIx (aj 0)<|aj 4)<|aa (au 4) ao)
 (aA (aK 6<|au 5)
 (aA (gIf (fTv<|ak bu (aj 1)<|fC<|.str "level") (aK 6<|ak bc (ak cO (aj 5)<|ak aY (aj 5)<|fC<|.int 48)<|ak aY (fFn φ__law_mix<|aa (ak gIx (aj 0)<|ak aY (aj 2)<|aF cu<|aa (aj 0) ao)<|aa (au 2) ao)<|fC<|.int 48) gNx)
 (aA (gIf (ql (aB gEq (aj 2)<|fC<|.int 0)<|ql (aB gLt (ak bu (aj 1)<|fC<|.str "room")<|fC<|.int 3)<|pA (aB gEq (ak aY (aj 6)<|fC<|.int 8)<|fC<|.int 0)<|aB gGt (aj 4)<|fC<|.int 0) (aU<|aN<|aa (fC<|.str "end")<|aa (fFn φ__law_stake<|aa (au 5) ao) ao) gNx)
 (aA (gIf (aB gGt (ak aY (aj 6)<|fC<|.int 8)<|fC<|.int 2) (xW<|xV (oV φ__law_built) 1 1 10 11<|aa (au 0)<|aa (au 2)<|aa (au 3)<|aa (au 6) ao) gNx)
 (aA (aK 7<|ak bc (fC<|.int 1)<|ak aY (ak cV (aj 6)<|fC<|.int 16)<|fC<|.int 3)
 (aA (dB 1 (fC<|.str "room")<|ak cO (ak bu (aj 1)<|fC<|.str "room")<|aj 7)
 (aA (cC 8<|cP ao)
 (aA l_2
 (aU<|aN<|aa (fC<|.str "deal")<|aa (ak gIx (ak bu (aj 1)<|fC<|.str "pool")<|ak aY (ak cV (aj 5)<|fC<|.int 48)<|fC<|.int 8)<|aa (aF cH<|aa (aj 8) ao) ao)))))))))))))
def aQ:Nat->List D->D->Addr×D->Addr×D->Res (D×D×D×D)
 |0=>λ_ _ _ _=>.stuck
 |n+1=>runST 1 12 4
   (dD bM bF (aQ n)<|dZ<|aQ n)
def qM (φ__law_built:List D->D->Addr×D->Addr×D->Res (D×D×D×D)):Zab:=
 (acM 5 6 7 [((fC<|.str "at"),(fC<|.int 0)),((fC<|.str "room"),(au 3))] (fC<|.str "names") tM (fC<|.str "many") (cP<|aa (fC<|.int 0)<|aa (fC<|.int 0) ao) [((fC<|.str "pool"),(au 4))]
 (aA (dB 5 (fC<|.str "turn")<|ak aY (aj 1)<|fC<|.int 64)
 (aA (dB 5 (fC<|.str "level")<|oZ gEq (ak aY (ak cV (aj 1)<|fC<|.int 64)<|fC<|.int 2)<|fC<|.int 1)
 (xW<|xV φ__law_built 5 1 6 7<|aa (au 0)<|aa (au 2)<|aa (cP<|aa (aN ao)<|aa (aN ao) ao) ao))))
def BV:Zab:=
 (qM<|aQ 13)
def qO:Zac:=aH 8 5 BV
def jY:Zae:=
 (aN<|aa (au 1)<|aa (au 2) ao)
def jM:Zae:=
 (bC 2 [5] (oU<|ak gIx (aj 4)<|fC<|.int 2) (du 2<|aJ (hName 0)<|aJ (hName 1) dw) cQ jY)
def eG:Zab:=
 (aA (cC 9<|aF uN<|aa (aj 5) ao)
 (aA (kZ 9 (ak cO (ak gIx (aj 4)<|fC<|.int 1)<|fC<|.int 1)<|ak bc (ak gIx (aj 9)<|ak cO (ak gIx (aj 4)<|fC<|.int 1)<|fC<|.int 1)<|aN<|aa (aN<|aa (ak gIx (aj 4)<|fC<|.int 2)<|aa (au 7) ao) ao)
 (bD 6<|aN<|aa (au 8)<|aa (aF cH<|aa (aj 9) ao) ao)))
def jP:Zab:=
 (cz (oU<|ak gIx (aj 4)<|fC<|.int 3) (du 2<|aJ (hName 7)<|aJ (hName 8) dw) eG)
def ir:Zab:=
 (bD 2<|aN<|aa (ak bc (aj 3)<|aN<|aa (au 10) ao)<|aa (ak gIx (ak gIx (aj 6)<|aj 10)<|fC<|.int 0)<|aa (ak gIx (ak gIx (aj 6)<|aj 10)<|fC<|.int 1) ao)
def jW:Zab:=
 (cz (aao<|aa (ak cO (aF cu<|aa (aj 6) ao)<|fC<|.int 1)<|aa (fUn qj<|fC<|.int 1)<|aa (fUn qj<|fC<|.int 1) ao) (hName 10) ir)
def ie:Zaf:=
 (aB gGt (aF cu<|aa (aj 2) ao)<|fC<|.int 0)
def dh:Zab:=
 (aA (MT (Lg 2)<|du 3<|aJ (hName 3)<|aJ (hName 4)<|aJ (hName 5) dw)
 (aA (bD 1<|aN<|aa (au 3)<|aa (au 4)<|aa (au 5) ao)
 (aA (cC 6<|cP ao)
 (aA (gIf (aB gEq (ak gIx (aj 4)<|fC<|.int 0)<|fC<|.str "deal") (cC 6 jM) gNx)
 (aA (gIf (aB gEq (ak gIx (aj 4)<|fC<|.int 0)<|fC<|.str "move") jP gNx)
 jW)))))
def uO:Zab:=
 (oX ie dh)
def nY (l_9:Zab):Zab:=
 (aA (cC 1<|cP ao)
 (aA (cC 2<|cP<|aa (aN<|aa (aN ao)<|aa (au 0)<|aa (aN<|aa (aN ao)<|aa (aN ao) ao) ao) ao)
 (aA l_9
 (dY 1))))
def w6:Zab:=
 (nY uO)
def oF:Zac:=aH 11 1 w6
def lR:Zae:=
 (bC 2 [] (oU<|ak gIx (aj 4)<|fC<|.int 3) (du 2<|aJ (hName 0)<|aJ (hName 1) dw) cQ<|au 0)
def cL:Zab:=
 (gIf (pA (aB gEq (ak gIx (aj 4)<|fC<|.int 0)<|fC<|.str "move")<|aB Bv (aN<|aa (ak gIx (aj 4)<|fC<|.int 1)<|aa (ak gIx (aj 4)<|fC<|.int 2) ao)<|aj 2) (aA (uZ 2 (aN<|aa (ak gIx (aj 4)<|fC<|.int 1)<|aa (ak gIx (aj 4)<|fC<|.int 2) ao)<|fC<|.bl true)
 (aA (aK 6<|aF cH<|aa lR ao)
 (bD 1<|aN<|aa (ak gIx (aj 4)<|fC<|.int 1)<|aa (ak gIx (aj 4)<|fC<|.int 2)<|aa (au 6)<|aa (ak gIx (aj 5)<|ak cO (ak gIx (aj 4)<|fC<|.int 1)<|fC<|.int 1) ao))) gNx)
def my:Zab:=
 (cz (cg<|fFn oF<|aa (au 0) ao) (du 3<|aJ (hName 3)<|aJ (hName 4)<|aJ (hName 5) dw) cL)
def uA (l_3:Zab):Zab:=
 (aA (cC 1<|cP ao)
 (aA (cC 2 tM)
 (aA l_3
 (dY 1))))
def uD:Zab:=
 (uA my)
def lD:Zac:=aH 7 1 uD
end
theorem itD (h:f m=.ok [.int i,.int j,.int (-1)])(h1:-1000000000<=i)(h2:i<=1000000000)(h3:-1000000000<=j)(h4:j<=1000000000):aao f m=.ok ((bp (i-j).toNat).map λ(k:Nat)=>D.int<|i-k):=by simp_all[if_pos,aao]
noncomputable def ptW (f:D->Rc):Ws->List (Gm×Rc)
 | .nil=>[]
 | .cons l g r=>(g,f l)::ptW f r
def ptG (g:Gm)(r:Rc):List (Gm×Rc):=ptW (rbg g r)<|zY g
def jq (p:Gm×Rc):D:=.tup [dG p.1,rD2 p.2]
noncomputable def ch (w:List Int)(L:List (Gm×Rc))(i:Nat):List (List Int×Gm×Rc):=(L.zipIdx i).map λp=>(w++[(p.2:Int)],p.1.1,p.1.2)
theorem Oi (w:List Int)(f:D->Rc):∀(i:Nat) (ws:Ws),prW w f i ws=(ch w (ptW f ws) i).flatMap λp=>prG p.1 p.2.2 p.2.1
 |i,.nil=>rfl
 |i,.cons l g r=>by
  show prG (w++[(i:Int)]) (f l) g++prW w f (i+1) r=_;rw[Oi w f (i+1) r];rfl
theorem ae2 (w:List Int)(r:Rc)(g:Gm):prG w r g=(w,g,r)::(ch w (ptG g r) 0).flatMap λp=>prG p.1 p.2.2 p.2.1:=by
 cases g with
 |fin d=>rfl
 |deal n ws=>show(w,Gm.deal n ws,r)::prW w (λ_=>r) 0 ws=_;rw[Oi];rfl
 |move s n ws=>show(w,Gm.move s n ws,r)::prW w (rbm s n r) 0 ws=_;rw[Oi];rfl
theorem Um (f:D->Rc):∀ws:Ws,(ptW f ws).length=dF ws
 | .nil=>rfl
 | .cons l g r=>by show(ptW f r).length+1=_;rw[Um f r];rfl
theorem Jy (f:D->Rc):∀ws:Ws,(ptW f ws).map (·.1)=jD ws
 | .nil=>rfl
 | .cons l g r=>by show g::(ptW f r).map (·.1)=_;rw[Jy f r];rfl
theorem Ey {n:Str}{r:Rc}:∀ws:Ws,cA (du 2<|aJ (hName 0)<|aJ (hName 1) dw) cQ jY [.un,.un,.fz<|rD2 r] (dWs ws)=.ok ((ptW (λ_=>r) ws).map jq)
 | .nil=>rfl
 | .cons l g rr=>by
  have ih:=Ey (n:=n) (r:=r) rr;have e:jY [.fz l,.fz<|dG g,.fz<|rD2 r]=.ok (jq (g,r)):=rfl;unfold dWs cA;simp[du,aJ,hName,dw,cQ,e,ih,ptW]
theorem Dv (hs:s=1\/s=2)(hr:r.1.length<=1000/\r.2.length<=1000):∀(ws:Ws) (P:List D) (s7 s8 s9:Sl),P.length+dF ws<=1000->
  ∃s7' s8' s9',aL (du 2<|aJ (hName 7)<|aJ (hName 8) dw) eG (dWs ws) [g0,s1,s2,s3,.fz<|.tup [.str "move",.int s,.str n,W],.fz<|rD2 r,.ow<|.lst P,s7,s8,s9,s10]=.ok (.nx,[g0,s1,s2,s3,.fz<|.tup [.str "move",.int s,.str n,W],.fz<|rD2 r,.ow<|.lst<|P++(ptW (rbm s n r) ws).map jq,s7',s8',s9',s10])
 | .nil,P,s7,s8,s9,_=>⟨s7,s8,s9,by simp[dWs,aL,ptW]⟩
 | .cons l g rr,P,s7,s8,s9,hz=>by
  have hz':P.length+(dF rr+1)<=1000:=hz;obtain⟨a,b,c,e⟩:=Dv (g0:=g0) (s1:=s1) (s2:=s2) (s3:=s3) (s10:=s10) (s:=s) (n:=n) (W:=W) (r:=r) hs hr rr (P++[jq (g,rbm s n r l)]) (.fz l) (.fz<|dG g) (.ow<|.lst [.tup (rbm s n r l).1,.tup (rbm s n r l).2]) (by rw[a8,dS];lia);refine⟨a,b,c,?_⟩;have x41:∀a b c d:D,atI [a,b,c,d] 1=some b:=λ_ _ _ _=>rfl;have x42:∀a b c d:D,atI [a,b,c,d] 2=some c:=λ_ _ _ _=>rfl;have x20:∀a b:D,atI [a,b] 0=some a:=λ_ _=>rfl;have x21:∀a b:D,atI [a,b] 1=some b:=λ_ _=>rfl;have n0:ixN 2 0=some 0:=rfl;have n1:ixN 2 1=some 1:=rfl;have z1:r.1.length+1<=16777216:=by lia
  have z2:r.2.length+1<=16777216:=by lia
  have z3:P.length<16777216:=by lia
  have st:eG [g0,s1,s2,s3,.fz<|.tup [.str "move",.int s,.str n,W],.fz<|rD2 r,.ow<|.lst P,.fz l,.fz<|dG g,s9,s10]=.ok (.nx,[g0,s1,s2,s3,.fz<|.tup [.str "move",.int s,.str n,W],.fz<|rD2 r,.ow<|.lst<|P++[jq (g,rbm s n r l)],.fz l,.fz<|dG g,.ow<|.lst [.tup (rbm s n r l).1,.tup (rbm s n r l).2],s10]):=by
   rcases hs with rfl|rfl
   ·simp[eG,aA,cC,aF,uN,aa,ao,aj,rD2,kZ,ak,gIx,x41,x42,fC,F.cO,x20,x21,kY,putL,aN,au,bc,z1,n0,bD,cH,z3,jq,rbm]
   ·simp[eG,aA,cC,aF,uN,aa,ao,aj,rD2,kZ,ak,gIx,x41,x42,fC,F.cO,x20,x21,kY,putL,aN,au,bc,z2,n1,bD,cH,z3,jq,rbm]
  show aL _ _ (.tup [l,dG g]::dWs rr) _=_;rw[aW (m1:=[g0,s1,s2,s3,.fz<|.tup [.str "move",.int s,.str n,W],.fz<|rD2 r,.ow<|.lst P,.fz l,.fz<|dG g,s9,s10]) rfl st,e];rw[eD];rfl
theorem Fy (hw:w.length<=1000):∀(c:Nat) (S:List D) (s10:Sl),c<=L.length->S.length+c<=100000->
  ∃s10',aL (hName 10) ir ((bp c).map λ(k:Nat)=>D.int<|(c:Int)-1-k) [g0,s1,.ow<|.lst S,.fz<|.tup<|w.map D.int,s4,s5,.ow<|.lst<|L.map jq,s7,s8,s9,s10]=.ok (.nx,[g0,s1,.ow<|.lst<|S++(((ch w L 0).take c).map trD).reverse,.fz<|.tup<|w.map D.int,s4,s5,.ow<|.lst<|L.map jq,s7,s8,s9,s10'])
 |0,S,s10,_,_=>⟨s10,by simp[aL]⟩
 |c+1,S,s10,hc,hz=>by
  have hi:c<L.length:=by lia
  obtain⟨a,e⟩:=Fy (g0:=g0) (s1:=s1) (s4:=s4) (s5:=s5) (s7:=s7) (s8:=s8) (s9:=s9) (L:=L) hw c (S++[trD (w++[(c:Int)],L[c].1,L[c].2)]) (.fz<|.int (c:Int)) (by lia) (by rw[a8,dS];lia);refine⟨a,?_⟩;have el:(L.map jq)[c]? = some (jq L[c]):=by rw[bt,ax hi];rfl
  have ea:=jN el;have x20:∀a b:D,atI [a,b] 0=some a:=λ_ _=>rfl;have x21:∀a b:D,atI [a,b] 1=some b:=λ_ _=>rfl;have z1:w.length+1<=16777216:=by lia
  have z2:S.length<16777216:=by lia
  have st:ir [g0,s1,.ow<|.lst S,.fz<|.tup<|w.map D.int,s4,s5,.ow<|.lst<|L.map jq,s7,s8,s9,.fz<|.int (c:Int)]=.ok (.nx,[g0,s1,.ow<|.lst<|S++[trD (w++[(c:Int)],L[c].1,L[c].2)],.fz<|.tup<|w.map D.int,s4,s5,.ow<|.lst<|L.map jq,s7,s8,s9,.fz<|.int (c:Int)]):=by
   simp[ir,bD,kY,putL,aN,aa,ao,ak,aj,au,bc,z1,gIx,ea,jq,x20,x21,fC,z2,trD]
  have er:(bp<|c+1).map (λ(k:Nat)=>D.int<|((c+1:Nat):Int)-1-k)=D.int (c:Int)::(bp c).map λ(k:Nat)=>D.int ((c:Int)-1-k):=by
   rw[xy,ah,cy];congr 1
   ·congr 1;lia
   ·refine eS λk _=>?_;show D.int _=D.int _;congr 1;simp only[Nat.succ_eq_add_one]
    lia
  rw[er,aW (m1:=[g0,s1,.ow<|.lst S,.fz<|.tup<|w.map D.int,s4,s5,.ow<|.lst<|L.map jq,s7,s8,s9,.fz<|.int (c:Int)]) rfl st,e];have et:(ch w L 0).take (c+1)=(ch w L 0).take c++[(w++[(c:Int)],L[c].1,L[c].2)]:=by
   have hl:c<(ch w L 0).length:=by unfold ch;simp;exact hi
   rw[List.take_succ_eq_append_getElem hl];congr 1;simp[ch]
  rw[et,bX,sA]
  simp
theorem Z4 {g0 s3 s4 s5 s6 s7 s8 s9 s10:Sl}{F0 S:List D}{w:List Int}{g:Gm}{r:Rc}(h:jm g)(hs:∀s n ws,g=.move s n ws->s=1\/s=2)(hr:r.1.length<=1000/\r.2.length<=1000)(hw:w.length<=1000)(hf:F0.length<=100000)(hS:S.length<=90000):
  ∃t3 t4 t5 t6 t7 t8 t9 t10,dh [g0,.ow<|.lst F0,.ow<|.lst<|S++[trD (w,g,r)],s3,s4,s5,s6,s7,s8,s9,s10]=.ok (.nx,[g0,.ow<|.lst<|F0++[trD (w,g,r)],.ow<|.lst<|S++((ch w (ptG g r) 0).map trD).reverse,t3,t4,t5,t6,t7,t8,t9,t10]):=by
 have x20:∀a b:D,atI [a,b] 0=some a:=λ_ _=>rfl;have x30:∀a b c:D,atI [a,b,c] 0=some a:=λ_ _ _=>rfl;have x32:∀a b c:D,atI [a,b,c] 2=some c:=λ_ _ _=>rfl;have x40:∀a b c d:D,atI [a,b,c,d] 0=some a:=λ_ _ _ _=>rfl;have x43:∀a b c d:D,atI [a,b,c,d] 3=some d:=λ_ _ _ _=>rfl;have z1:F0.length<16777216:=by lia
 have main:∀(P:List (Gm×Rc)) (u7 u8 u9:Sl),P=ptG g r->P.length<=100->∃t10,jW [g0,.ow<|.lst<|F0++[trD (w,g,r)],.ow<|.lst S,.fz<|.tup<|w.map D.int,.fz<|dG g,.fz<|rD2 r,.ow<|.lst<|P.map jq,u7,u8,u9,s10] =
   .ok (.nx,[g0,.ow<|.lst<|F0++[trD (w,g,r)],.ow<|.lst<|S++((ch w (ptG g r) 0).map trD).reverse,.fz<|.tup<|w.map D.int,.fz<|dG g,.fz<|rD2 r,.ow<|.lst<|P.map jq,u7,u8,u9,t10]):=λP u7 u8 u9 hP hl=>by
  obtain⟨t10,e⟩:=Fy (g0:=g0) (s1:=.ow<|.lst<|F0++[trD (w,g,r)]) (s4:=.fz<|dG g) (s5:=.fz<|rD2 r) (s7:=u7) (s8:=u8) (s9:=u9) (w:=w) (L:=P) hw P.length S s10 (aI _) (by lia);refine⟨t10,?_⟩;have e1:(aa (ak cO (aF cu<|aa (aj 6) ao)<|fC<|.int 1)<|aa (fUn qj<|fC<|.int 1)<|aa (fUn qj<|fC<|.int 1) ao) [g0,.ow<|.lst<|F0++[trD (w,g,r)],.ow<|.lst S,.fz<|.tup<|w.map D.int,.fz<|dG g,.fz<|rD2 r,.ow<|.lst<|P.map jq,u7,u8,u9,s10]=.ok [.int<|(P.length:Int)-1,.int (-1),.int (-1)]:=by
   simp[aa,ao,ak,aF,cu,aj,fC,F.cO,fUn,qj]
  have e2:=itD e1 (by lia) (by lia) (by lia) (by lia);unfold jW cz;rw[e2];have e3:((P.length:Int)-1 - -1).toNat=P.length:=by lia
  rw[e3];have e4:(ch w P 0).take P.length=ch w P 0:=pk (by unfold ch;simp);rw[e4,hP] at e;rw[hP];exact e
 have hlp:(ptG g r).length<=100:=by
  unfold ptG;rw[Um,← iK,← Cz];exact yI h
 cases g with
 |fin d=>
  obtain⟨t10,e⟩:=main [] s7 s8 s9 rfl (by simp);refine⟨.fz<|.tup<|w.map D.int,.fz<|dG<|.fin d,.fz<|rD2 r,.ow<|.lst [],s7,s8,s9,t10,?_⟩;simp only[trD,dG,me] at e ⊢;simp[dh,aA,MT,Lg,kY,putL,du,aJ,hName,dw,bD,aN,aa,ao,au,z1,cC,cP,gIf,aB,ak,aj,fC,gIx,x20,gNx,e]
 |deal n ws=>
  obtain⟨t10,e⟩:=main (ptW (λ_=>r) ws) s7 s8 s9 rfl hlp;have ec:=Ey (n:=n) (r:=r) ws;have hz2:(dWs ws).length<=16777216:=by rw[pG];have:=h.1;lia
  have eq:∀a b c,jM [g0,a,b,c,.fz<|dG<|.deal n ws,.fz<|rD2 r,.ow<|.lst [],s7,s8,s9,s10]=.ok (.lst<|(ptW (λ_=>r) ws).map jq):=λa b c=>by
   simp[jM,bC,oU,ak,aj,fC,gIx,dG,x32,cMe,Sl.bor,ec,hz2]
  refine⟨.fz<|.tup<|w.map D.int,.fz<|dG<|.deal n ws,.fz<|rD2 r,.ow<|.lst<|(ptW (λ_=>r) ws).map jq,s7,s8,s9,t10,?_⟩;simp only[trD,dG] at e eq ⊢;simp[dh,aA,MT,Lg,kY,putL,du,aJ,hName,dw,bD,aN,aa,ao,au,z1,cC,cP,gIf,aB,ak,aj,fC,gIx,x30,gNx,eq,e]
 |move s n ws=>
  obtain⟨u7,u8,u9,em⟩:=Dv (g0:=g0) (s1:=.ow<|.lst<|F0++[trD (w,.move s n ws,r)]) (s2:=.ow<|.lst S) (s3:=.fz<|.tup<|w.map D.int) (s10:=s10) (n:=n) (W:=.tup<|dWs ws) (hs s n ws rfl) hr ws [] s7 s8 s9 (by have:=h.1;simp;lia);obtain⟨t10,e⟩:=main (ptW (rbm s n r) ws) u7 u8 u9 rfl hlp;have hz2:(dWs ws).length<=16777216:=by rw[pG];have:=h.1;lia
  have eL:jP [g0,.ow<|.lst<|F0++[trD (w,.move s n ws,r)],.ow<|.lst S,.fz<|.tup<|w.map D.int,.fz<|dG<|.move s n ws,.fz<|rD2 r,.ow<|.lst [],s7,s8,s9,s10]=.ok (.nx,[g0,.ow<|.lst<|F0++[trD (w,.move s n ws,r)],.ow<|.lst S,.fz<|.tup<|w.map D.int,.fz<|dG<|.move s n ws,.fz<|rD2 r,.ow<|.lst<|(ptW (rbm s n r) ws).map jq,u7,u8,u9,s10]):=by
   have ei:oU (ak gIx (aj 4)<|fC<|.int 3) [g0,.ow<|.lst<|F0++[trD (w,.move s n ws,r)],.ow<|.lst S,.fz<|.tup<|w.map D.int,.fz<|dG<|.move s n ws,.fz<|rD2 r,.ow<|.lst [],s7,s8,s9,s10]=.ok (dWs ws):=by
    simp[oU,ak,aj,fC,gIx,dG,x43]
   unfold jP cz;rw[ei];rw[gv] at em;exact em
  refine⟨.fz<|.tup<|w.map D.int,.fz<|dG<|.move s n ws,.fz<|rD2 r,.ow<|.lst<|(ptW (rbm s n r) ws).map jq,u7,u8,u9,t10,?_⟩;simp only[trD,dG] at e eL ⊢;simp[dh,aA,MT,Lg,kY,putL,du,aJ,hName,dw,bD,aN,aa,ao,au,z1,cC,cP,gIf,aB,ak,aj,fC,gIx,x40,gNx,eL,e]
abbrev Tr:=List Int×Gm×Rc
noncomputable def szT (st:List Tr):Nat:=(st.map λp=>szG p.2.1).sum
theorem ad8 (w:List Int)(g:Gm)(r:Rc):szT (ch w (ptG g r) 0)+1=szG g:=by
 have e:∀(i:Nat) (L:List (Gm×Rc)),(ch w L i).map (λp=>szG p.2.1)=L.map λp=>szG p.1:=by
  intro i L;induction L generalizing i with
  |nil=>rfl
  |cons x L ih=>
   show szG x.1::((ch w L<|i+1).map λp=>szG p.2.1)=_;rw[ih];rfl
 unfold szT;rw[e,Zx,Cz,← Jy (rbg g r),cy];rfl
theorem RG:∀st:List Tr,st.length<=szT st
 |[]=>f6 _
 |p::st=>by
  have:=RG st
  have:=wz p.2.1
  show st.length+1<=szG p.2.1+szT st
  lia
theorem S8 (a b:List Tr):szT (a++b)=szT a+szT b:=by unfold szT;rw[bX,mr]
def wt (p:Tr):Prop:=jm p.2.1/\sdG p.2.1/\p.1.length+dp p.2.1<=100/\p.2.2.1.length+dp p.2.1<=100/\p.2.2.2.length+dp p.2.1<=100
theorem Ek:∀{ws:Ws} {k:Gm},sdW ws->k∈jD ws->sdG k
 | .cons l g r,k,h,hk=>by
  rcases aE.mp hk with e|e
  ·rw[e];exact h.1
  ·exact Ek h.2 e
theorem abW (h:sdG g)(hk:k∈kids g):sdG k:=by
 cases g with
 |fin d=>cases hk
 |deal n ws=>exact Ek h hk
 |move s n ws=>exact Ek h.2 hk
theorem Q3 (f:D->Rc):∀{ws:Ws} {p:Gm×Rc},p∈ptW f ws->∃l,p.2=f l
 | .cons l g r,p,h=>by
  rcases aE.mp h with e|e
  ·exact⟨l,by rw[e]⟩
  ·exact Q3 f e
theorem abn (g:Gm)(r:Rc)(l:D):(rbg g r l).1.length<=r.1.length+1/\(rbg g r l).2.length<=r.2.length+1:=by
 cases g with
 |fin d=>exact⟨by simp[rbg],by simp[rbg]⟩
 |deal n ws=>exact⟨by simp[rbg],by simp[rbg]⟩
 |move s n ws=>by_cases hs:s=1<;>simp[rbg,rbm,hs]
theorem af5 (h:wt (w,g,r)):∀p∈ch w (ptG g r) 0,wt p:=λp hp=>by
 unfold ch at hp;obtain⟨q,hq,rfl⟩:=aw.mp hp;have h1:q.1∈ptG g r:=by have:=nX (f:=AX) hq;rwa [nV] at this
 have h2:q.1.1∈kids g:=by
  rw[Cz,← Jy (rbg g r)];exact nX h1
 obtain⟨l,el⟩:=Q3 _ h1;have hd:=QT h2;refine Ci h λa b c d e=>?_;have rl:=abn g r l;simp only at a b c d e;refine⟨(Iv a h2).1,abW b h2,?_,?_,?_⟩
 ·show(w++[_]).length+dp q.1.1<=100;rw[a8,dS]
  lia
 ·show q.1.2.1.length+dp q.1.1<=100;rw[el]
  lia
 ·show q.1.2.2.length+dp q.1.1<=100;rw[el]
  lia
theorem abM (a:Sl):∀(N:Nat) (done st:List Tr) (s3 s4 s5 s6 s7 s8 s9 s10:Sl),szT st=N->(∀p∈st,wt p)->done.length+szT st<=50000->
  ∃k m',wh ie dh k [a,.ow<|.lst<|done.map trD,.ow<|.lst<|(st.map trD).reverse,s3,s4,s5,s6,s7,s8,s9,s10]=some (.ok (.nx,a::.ow (.lst<|(done++st.flatMap λp=>prG p.1 p.2.2 p.2.1).map trD)::m')):=by
 intro N;induction N using sC with
 |_ N ih=>
  intro done st s3 s4 s5 s6 s7 s8 s9 s10 hN hs hz;cases st with
  |nil=>
   refine⟨1,[.ow<|.lst [],s3,s4,s5,s6,s7,s8,s9,s10],?_⟩;simp only[me,List.reverse_nil,qS,eT];exact CZ<|by simp[ie,aB,aF,cu,aa,ao,aj,fC,gGt]
  |cons p st=>
   obtain⟨w,g,r⟩:=p;have h1:wt (w,g,r):=hs _ (by simp);have sb:=ad8 w g r;have hsum:szT ((w,g,r)::st)=szG g+szT st:=rfl;have ls:=RG st;have gp:=wz g;refine Ci h1 λwa wb wc wd we=>?_;simp only at wa wb wc wd we;obtain⟨t3,t4,t5,t6,t7,t8,t9,t10,e1⟩:=Z4 (g0:=a) (s3:=s3) (s4:=s4) (s5:=s5) (s6:=s6) (s7:=s7) (s8:=s8) (s9:=s9) (s10:=s10) (F0:=done.map trD) (S:=(st.map trD).reverse) (w:=w) (g:=g) (r:=r) wa (λs n ws e=>by rw[e] at wb;exact wb.1) ⟨by lia,by lia⟩ (by lia) (by simp;lia) (by simp;lia);obtain⟨k,m',e⟩:=ih (szT<|ch w (ptG g r) 0++st) (by rw[S8];lia) (done++[(w,g,r)]) (ch w (ptG g r) 0++st) t3 t4 t5 t6 t7 t8 t9 t10 rfl (λp hp=>by
    rcases cq.mp hp with v|v
    ·exact af5 ⟨wa,wb,wc,wd,we⟩ p v
    ·exact hs p<|by simp[v]) (by rw[S8,a8];simp;lia)
   refine⟨k+1,m',?_⟩;have e3:done++((w,g,r)::st).flatMap (λp=>prG p.1 p.2.2 p.2.1)=done++[(w,g,r)]++(ch w (ptG g r) 0++st).flatMap λp=>prG p.1 p.2.2 p.2.1:=by
    rw[p9,AD,ae2]
    simp
   rw[e3];refine CT (m':=[a,.ow<|.lst<|(done++[(w,g,r)]).map trD,.ow<|.lst<|((ch w (ptG g r) 0++st).map trD).reverse,t3,t4,t5,t6,t7,t8,t9,t10]) ?_ ?_ e
   ·simp[ie,aB,aF,cu,aa,ao,aj,fC,gGt]
   ·rw[ah,kQ,e1,bX,bX,sA];rfl
theorem Lp (e:L [.fz d,.ow<|.lst [],.ow<|.lst [.tup [.tup [],d,.tup [.tup [],.tup []]]],.un,.un,.un,.un,.un,.un,.un,.un]=.ok (.nx,.fz d::.ow (.lst ps)::m')):aH 11 1 (nY L) [d]=.ok (true,.lst ps):=by
 simp[aH,nY,aA,cC,cP,aa,ao,aN,au,e,dY]
theorem Qh (h:jm g)(hs:sdG g)(hd:dp g<=50)(hz:szG g<=10000):oF [dG g]=.ok (true,.lst<|(prG [] ([],[]) g).map trD):=by
 obtain⟨k,m',e⟩:=abM (.fz<|dG g) _ [] [([],g,([],[]))] .un .un .un .un .un .un .un .un rfl (λp hp=>by rw[bg.mp hp];exact⟨h,hs,by simp;lia,by simp;lia,by simp;lia⟩) (by show 0+(szG g+0)<=_;lia);have e2:=wF k e;simp only[gv,p9,qS,eT] at e2;exact Lp e2
noncomputable def tru (ks:List (List Kt)):List D:=ks.map λ_=>.bl true
theorem Rg:∀{ks:List (List Kt)} {ds:List D},ks.length=ds.length->(bJ ks (tru ks) k).isSome=(bJ ks ds k).isSome
 |[],[],_=>rfl
 |[],_::_,h=>by simp at h
 |_::_,[],h=>by simp at h
 |a::ks,d::ds,h=>by
  show(bJ (a::ks) (.bl true::tru ks) k).isSome=_;unfold bJ;split
  ·rfl
  ·exact Rg<|by simpa using h
theorem aaI (h:(bJ ks (tru ks) k).isSome=false):iu ks (tru ks) k (.bl true)=(ks++[k],tru<|ks++[k]):=by
 have hn:k∉ks:=λhk=>by
  have:∀{ks:List (List Kt)},k∈ks->(bJ ks (tru ks) k).isSome=true:=by
   intro ks;induction ks with
   |nil=>intro h;cases h
   |cons a ks ih=>
    intro h;show(bJ (a::ks) (.bl true::tru ks) k).isSome=true;unfold bJ;split
    ·rfl
    ·rename_i q;rcases aE.mp h with e|e
     ·exact absurd e.symm q
     ·exact ih e
  rw[this hk] at h;cases h
 unfold iu;rw[if_neg λz=>hn<|Jp.mp z];simp[tru]
theorem abw (hp:okP p)(hl:T.1.length=T.2.length)(hz:T.1.length<=100000):∃m1 s6',du 3 (aJ (hName 3)<|aJ (hName 4)<|aJ (hName 5) dw) (trD p) [g0,.ow<|.lst T.2,.ow<|.dcu T.1<|tru T.1,s3,s4,s5,s6]=some m1/\
  cL m1=.ok (.nx,[g0,.ow<|.lst (tst T p).2,.ow<|.dcu (tst T p).1<|tru (tst T p).1,.fz<|.tup<|p.1.map D.int,.fz<|dG p.2.1,.fz<|rD2 p.2.2,s6'])/\(tst T p).1.length=(tst T p).2.length:=by
 obtain⟨w,g,r⟩:=p;have x20:∀a b:D,atI [a,b] 0=some a:=λ_ _=>rfl;have x21:∀a b:D,atI [a,b] 1=some b:=λ_ _=>rfl;have x30:∀a b c:D,atI [a,b,c] 0=some a:=λ_ _ _=>rfl;have x40:∀a b c d:D,atI [a,b,c,d] 0=some a:=λ_ _ _ _=>rfl;have x41:∀a b c d:D,atI [a,b,c,d] 1=some b:=λ_ _ _ _=>rfl;have x42:∀a b c d:D,atI [a,b,c,d] 2=some c:=λ_ _ _ _=>rfl;have x43:∀a b c d:D,atI [a,b,c,d] 3=some d:=λ_ _ _ _=>rfl;cases g with
 |fin d=>exact⟨_,s6,rfl,by simp[cL,gIf,pA,aB,ak,aj,fC,gIx,dG,x20,gNx,tst],by simpa[tst] using hl⟩
 |deal n ws=>exact⟨_,s6,rfl,by simp[cL,gIf,pA,aB,ak,aj,fC,gIx,dG,x30,gNx,tst],by simpa[tst] using hl⟩
 |move s n ws=>
  have hp:(s=1\/s=2)/\dF ws<=100:=hp;have kk:vf (.tup [.int s,.str n])=some (kn s n):=rfl;have z1:T.1.length<16777216:=by lia
  have z2:T.2.length<16777216:=by lia
  have hz1:(bZ ws).length<=16777216:=by rw[oW];lia
  have hz2:(dWs ws).length<=16777216:=by rw[pG];lia
  have vt:=Rg (k:=kn s n) hl;have eq:∀a b c,lR [g0,a,b,c,.fz<|dG<|.move s n ws,.fz<|rD2 r,s6]=.ok (.lst<|bZ ws):=λa b c=>by
   simp[lR,bC,oU,ak,aj,fC,gIx,dG,x43,cMe,Aw,hz1,hz2]
  simp only[dG,rD2] at eq;by_cases q:(bJ T.1 T.2<|kn s n).isSome=true
  ·rw[q] at vt;refine⟨_,s6,rfl,?_,by simp[tst,q,hl]⟩;simp[cL,gIf,pA,aB,ak,aj,fC,gIx,dG,x40,x41,x42,gNx,tst,q,Bv,VB,dcK,aN,aa,ao,kk,vt]
  ·have q':(bJ T.1 T.2<|kn s n).isSome=false:=by simpa using q
   rw[q'] at vt;have pt:=aaI vt;refine⟨_,.fz<|.tup<|bZ ws,rfl,?_,by simp[tst,q',hl]⟩;rcases hp.1 with rfl|rfl
   ·simp[cL,gIf,pA,aB,ak,aj,fC,gIx,dG,x40,x41,x42,aA,uZ,Cp,qu,tst,q',Bv,VB,dcK,aN,aa,ao,kk,vt,z1,pt,aK,aF,cH,eq,hz1,bD,kY,putL,z2,au,rD2,F.cO,x20,x21,dU,eF]
   ·simp[cL,gIf,pA,aB,ak,aj,fC,gIx,dG,x40,x41,x42,aA,uZ,Cp,qu,tst,q',Bv,VB,dcK,aN,aa,ao,kk,vt,z1,pt,aK,aF,cH,eq,hz1,bD,kY,putL,z2,au,rD2,F.cO,x20,x21,dU,eF]
theorem RJ:∀(l:List Tr) (T:Tb) (s3 s4 s5 s6:Sl),(∀p∈l,okP p)->T.1.length=T.2.length->T.1.length+l.length<=100000->∃m',aL (du 3<|aJ (hName 3)<|aJ (hName 4)<|aJ (hName 5) dw) cL (l.map trD) [g0,.ow<|.lst T.2,.ow<|.dcu T.1<|tru T.1,s3,s4,s5,s6]=.ok (.nx,g0::.ow (.lst (l.foldl tst T).2)::m')
 |[],T,s3,s4,s5,s6,_,_,_=>⟨_,rfl⟩
 |p::l,T,s3,s4,s5,s6,hp,hl,hz=>by
  have hz':T.1.length+(l.length+1)<=100000:=hz;refine wy (abw (g0:=g0) (s3:=s3) (s4:=s4) (s5:=s5) (s6:=s6) (T:=T) (hp p af) hl<|by lia) λm1 s6' e1 e2 e3=>?_
  have:=RN T p
  obtain⟨m',e⟩:=RJ l (tst T p) (.fz<|.tup<|p.1.map D.int) (.fz<|dG p.2.1) (.fz<|rD2 p.2.2) s6' (λq hq=>hp q<|ae _ hq) e3 (by lia);exact⟨m',by rw[ah,aW e1 e2,e];rfl⟩
theorem V8 (h:jm g)(hs:sdG g)(hd:dp g<=50)(hz:szG g<=10000):lD [dG g]=.ok (true,.lst (tbl<|prG [] ([],[]) g).2):=by
 have e:=Qh h hs hd hz;obtain⟨m',e2⟩:=RJ (g0:=.fz<|dG g) (prG [] ([],[]) g) ([],[]) .un .un .un .un (HH _ _ g h hs) rfl (by rw[KH];simp;lia);have eL:my [.fz<|dG g,.ow<|.lst [],.ow<|.dcu [] [],.un,.un,.un,.un]=.ok (.nx,.fz (dG g)::.ow (.lst (tbl<|prG [] ([],[]) g).2)::m'):=by
  have e1:cg (fFn oF<|aa (au 0) ao) [.fz<|dG g,.ow<|.lst [],.ow<|.dcu [] [],.un,.un,.un,.un]=.ok ((prG [] ([],[]) g).map trD):=by
   simp[cg,fFn,aa,ao,au,e]
  unfold my cz;rw[e1];exact e2
 simp[lD,uD,uA,aH,aA,cC,cP,ao,tM,eL,dY]
def prd (d:D):Prop:=∃a b:Str,d=.tup [.str a,.str b]
theorem aaO (x y:Sl):∀(n:Nat) (a b:Int),b.toNat=n->0<=a->0<=b->∃k,wh j9 kh k [x,y,.fz<|.int a,.fz<|.int b] =
  some (.ok (.nx,[x,y,.fz<|.int<|gI a b,.fz<|.int 0])):=by
 intro n;induction n using sC with
 |_ n ih=>
  intro a b hn ha hb;by_cases h0:b=0
  ·subst h0;refine⟨1,?_⟩;rw[RD ha];exact CZ rfl
  ·have hb':0<b:=by lia
   have hm:=i9 a hb';have hm0:=kU a h0;obtain⟨k,e⟩:=ih (a%b).toNat (by lia) b (a%b) rfl hb hm0;rw[Rm ha hb'] at e;refine⟨k+1,CT (m':=[x,y,.fz<|.int b,.fz<|.int<|a%b]) ?_ ?_ e⟩
   ·simp[j9,aB,aj,fC,h0]
   ·simp[kh,adK,aa,ao,ak,aj,au,aY,mdI,h0,hb']
theorem Bd (hb:0<b)(hB:Bq b):dH [.int t,.int b]=.ok (false,rD<|ar t b):=by
 obtain⟨k,e⟩:=aaO (.fz<|.int t) (.fz<|.int b) _ (if t<0 then -t else t) b rfl (by split<;>lia) (by lia);have eb:(if b<0 then -b else b)=b:=if_neg (by lia);have ga:=Y8 t b;rw[eb] at ga;rw[ga] at e;have e2:=wF k e;have hg:=KD (a:=t) (show b≠0 by lia);have hdv:dv t b=gI t b:=if_neg (by lia);have hB':Bq (gI t b):=by
  have h1:=acK (a:=t) (show b≠0 by lia);unfold Bq at hB ⊢
  lia
 have e3:dvI t (gI t b)=lt t b:=by
  unfold dvI lt;rw[if_pos hg,hdv,ic t<|by lia]
 have e4:dvI b (gI t b)=lb t b:=by
  unfold dvI lb;rw[if_pos hg,hdv,ic b<|by lia]
 have el:=J5 (t:=t) (show b≠0 by lia);have hr:rD (ar t b)=.tup [.int<|lt t b,.int<|lb t b]:=by
  show qD (rq<|ar t b)=_;rw[← el];rfl
 have hne:gI t b≠0:=by lia
 rw[hr];simp[dH,sy,rM,aH,ph,aA,aK,aF,Oo,aa,ao,aj,au,e2,aU,Me.let,Sl.let,aN,ak,cV,hne,hB',e3,e4]
theorem Aa (hb:0<b)(h1:t.natAbs<=999999999999)(h2:b<=999):smQ (rq<|ar t b):=by
 have e:=J5 (t:=t) (show b≠0 by lia);have e1:lt t b=(ar t b).num:=congrArg AX e;have e2:lb t b=((ar t b).den:Int):=congrArg Prod.snd e;have l1:=ack (t:=t) (show b≠0 by lia);have l2:=acB (t:=t) (show b≠0 by lia);rw[e1] at l1;rw[e2] at l2;exact⟨by show(ar t b).num.natAbs<=_;lia,by show((ar t b).den:Int)<=_;lia⟩
theorem bgS (h:i.natAbs<=10000000000000):Bq i:=by
 refine afe (k:=50) ?_
 have:(2:Nat)^50=1125899906842624:=by decide
 lia
def sm (x:Int):Prop:=0<=x/\x<2147483647
theorem Gu (h:0<=x/\x<=9000000000):∃q:Rat,bM [.int x]=.ok (false,rD q)/\smQ (rq q):=by
 obtain⟨h0,h1⟩:=h;have b1:Bq x:=bgS (by lia);have b2:Bq 48271:=bgS (by decide);have b3:Bq 8:=bgS (by decide);have b4:Bq 104:=bgS (by decide);by_cases q:x%8=3
 ·have hb:0<1+x/8%999:=by lia
  have hb2:1+x/8%999<=999:=by lia
  have e:=Bd (t:=x*48271%1999999999999-999999999999) hb<|bgS (by lia);refine⟨_,?_,Aa hb (t:=x*48271%1999999999999-999999999999) (by lia) hb2⟩;simp[bM,pL,pK,aH,aA,gIf,aB,ak,aj,fC,aY,mdI,q,aU,Me.let,Sl.let,fFn,aa,ao,dO,b1,b2,F.cO,bc,cV,dvI,b3,e]
 ·have hb:0<1+x/104%3:=by lia
  have hb2:1+x/104%3<=999:=by lia
  have e:=Bd (t:=x/8%13-6) hb<|bgS (by lia);refine⟨_,?_,Aa hb (t:=x/8%13-6) (by lia) hb2⟩;simp[bM,pL,pK,aH,aA,gIf,aB,ak,aj,fC,aY,mdI,q,gNx,aU,Me.let,Sl.let,fFn,aa,ao,F.cO,bc,cV,dvI,b3,b4,e]
theorem yd (c k:Int)(hk:0<=k/\k<=1000):∃x,bF [.int c,.int k]=.ok (false,.int x)/\sm x:=by
 have b1:Bq (c%2147483647+1):=bgS (by lia);have b2:Bq (48271+7*k):=bgS (by lia);have b3:Bq 7:=bgS (by decide);have b4:Bq k:=bgS (by lia);refine⟨(c%2147483647+1)*(48271+7*k)%2147483647,?_,by constructor<;>lia⟩;simp[bF,yq,xU,aH,aU,Me.let,Sl.let,ak,aj,fC,aY,mdI,dO,bc,b1,b2,b3,b4]
noncomputable def pt (x:Int):Int:=1+x%4+x/4%8/7*(x/32%200)
theorem agM (x:Int):1<=pt x/\pt x<=203:=by
 unfold pt;have h1:x/4%8/7=0\/x/4%8/7=1:=by lia
 rcases h1 with h|h<;>rw[h]<;>lia
theorem abj (h:sm x)(hP:P.length<=100):dm [.fz<|.int x,s1,.ow<|.lst P,s3]=.ok (.nx,[.fz<|.int<|x*48271%2147483647,s1,.ow<|.lst<|P++[.int<|pt x],s3]):=by
 obtain⟨h0,h1⟩:=h;have b1:Bq x:=bgS (by lia);have b2:Bq 48271:=bgS (by decide);have b3:Bq 4:=bgS (by decide);have b4:Bq 7:=bgS (by decide);have b5:Bq 32:=bgS (by decide);have b6:Bq (x/4%8/7):=bgS (by lia);have b7:Bq (x/32%200):=bgS (by lia);have z1:P.length<16777216:=by lia
 simp[dm,aA,bD,kY,putL,ak,aj,fC,bc,aY,mdI,dO,cV,dvI,b1,b2,b3,b4,b5,b6,b7,z1,aK,pt]
theorem Rw:∀(c i:Nat) (x:Int) (P:List Int) (s3:Sl),sm x->P.length+c<=100->(∀p∈P,1<=p/\p<=203)->∃(x' s3':Sl) (Q:List Int),aL (hName 3) dm ((kH i c).map λ(k:Nat)=>D.int k) [.fz<|.int x,s1,.ow<|.lst<|P.map D.int,s3]=.ok (.nx,[x',s1,.ow<|.lst<|Q.map D.int,s3'])/\Q.length=P.length+c/\∀p∈Q,1<=p/\p<=203
 |0,i,x,P,s3,_,_,hp=>⟨_,s3,P,rfl,rfl,hp⟩
 |c+1,i,x,P,s3,hx,hz,hp=>by
  have st:=abj (s1:=s1) (s3:=.fz<|.int (i:Int)) (P:=P.map D.int) hx (by simp;lia);obtain⟨x',s',Q,e,l,h⟩:=Rw (s1:=s1) c (i+1) (x*48271%2147483647) (P++[pt x]) (.fz<|.int (i:Int)) (by constructor<;>lia) (by simp;lia) λp hp'=>by
   rcases cq.mp hp' with e|e
   ·exact hp p e
   ·rw[bg.mp e];exact agM x
  refine⟨x',s',Q,?_,by rw[l];simp;lia,h⟩;rw[ia,ah,aW (m1:=[.fz<|.int x,s1,.ow<|.lst<|P.map D.int,.fz<|.int (i:Int)]) rfl st];rw[bX] at e;exact e
theorem qy (S:Int):∀Q:List Int,(Q.map λp=>ar p S).sum=ar Q.sum S
 |[]=>by simp
 |p::Q=>by
  rw[ah,cb,cb,qy S Q,vF,vF,vF,xa,xa,xa,← Rat.add_mul,Rat.intCast_add]
theorem div_self (h:0<S):ar S S=1:=by
 rw[Rat.divInt_self'<|by lia]
theorem div_pos (hp:0<p)(h:0<S):0<(ar p S).num:=by
 have hd:0<((ar p S).den:Int):=by have:=jg<|ar p S;lia
 have h2:=(vE (by lia)<|by lia).mp<|tm<|ar p S;have h3:0<p*((ar p S).den:Int):=BN hp hd;rw[← h2] at h3;exact Int.pos_of_mul_pos_left h3 h
theorem X3:∀Q:List Int,(∀p∈Q,1<=p/\p<=203)->(Q.length:Int)<=Q.sum/\Q.sum<=203*Q.length
 |[],_=>by simp
 |p::Q,h=>by
  have:=X3 Q λx hx=>h x<|ae _ hx
  have:=h p af
  simp only[cb,cw]
  lia
theorem Nq:∀Q:List Int,QG (Q.map D.int)=some Q
 |[]=>rfl
 |p::Q=>by simp[QG,Nq Q]
theorem Dg (Q:List Int):Je [.lst<|Q.map D.int]=some (.int Q.sum):=by
 show(QG _).map _=_;rw[Nq];rfl
theorem aea {Q:List Int}(hS:0<Q.sum)(hS2:Q.sum<=609)(z1:Q.length<=1000):jU [u,.fz<|.int c,.fz<|.lst<|Q.map D.int,v]=.ok (.lst<|Q.map λp=>rD<|ar p Q.sum):=by
 have bS:Bq Q.sum:=bgS (by lia);have ec':cA (hName 0) cQ jZ [.un,.fz<|.lst<|Q.map D.int] (Q.map D.int)=.ok (Q.map λp=>rD<|ar p Q.sum):=bV Q λp hp=>by
  refine⟨[.fz<|.int p,.fz<|.lst<|Q.map D.int],rfl,rfl,?_⟩;have el:=Bd (t:=p) hS bS;simp[jZ,fFn,aa,ao,au,aF,aj,Dg Q,el]
 have z2:Q.length<=16777216:=by lia
 simp[jU,bC,cg,aj,cMe,Sl.bor,ec',z2]
theorem ac7 {Q:List Int}(hc:c<=3)(e:aL (hName 3) dm ((kH 0 c).map λ(k:Nat)=>D.int k) [.fz<|.int x,.fz<|.int (c:Int),.ow<|.lst [],.un]=.ok (.nx,[x',.fz<|.int (c:Int),.ow<|.lst<|Q.map D.int,s'])):
  iB [.fz<|.int x,.fz<|.int (c:Int),.ow<|.lst [],.un]=.ok (.nx,[x',.fz<|.int (c:Int),.ow<|.lst<|Q.map D.int,s']):=by
 have e1:(aa (aj 1) ao) [.fz<|.int x,.fz<|.int (c:Int),.ow<|.lst [],.un]=.ok [.int (c:Int)]:=by simp[aa,aj,ao]
 have e2:=Cu e1 (by lia) (by lia);unfold iB cz;rw[e2];show aL (hName 3) dm ((bp c).map λ(k:Nat)=>D.int k) _=_;rw[fm];exact e
theorem O6 (eL:L [.fz x,.fz c,.ow<|.lst [],.un]=.ok (.nx,[x',.fz c,.ow l,s']))(eq:∀u v:Sl,QQ [u,.fz c,.fz l,v]=.ok r):aH 4 2 (nW L QQ) [x,c]=.ok (true,r):=by
 simp[aH,nW,aA,cC,cP,ao,eL,jc,Me.let,Sl.let,eq]
theorem aew {Q:List Int}(hS:0<Q.sum)(hS2:Q.sum<=609)(z1:Q.length<=1000)(eL:iB [.fz<|.int x,.fz<|.int (c:Int),.ow<|.lst [],.un]=.ok (.nx,[x',.fz<|.int (c:Int),.ow<|.lst<|Q.map D.int,s'])):
  nG [.int x,.int (c:Int)]=.ok (true,.lst<|Q.map λp=>rD<|ar p Q.sum):=
 O6 eL λu v=>aea hS hS2 z1
theorem Qp {x:Int}{c:Nat}(h:sm x)(hc:1<=c/\c<=3):∃l:List Rat,nG [.int x,.int (c:Int)]=.ok (true,.lst<|l.map rD)/\(∀q∈l,Sz 20 q/\smQ (rq q)/\0<q.num)/\l.length=c/\l.sum=1:=by
 obtain⟨x',s',Q,e,hl,hQ⟩:=Rw (s1:=.fz<|.int (c:Int)) c 0 x [] .un h (by simp;lia) (λ_ z=>by cases z);have hl:Q.length=c:=by simpa using hl
 have sb:=X3 Q hQ;have hS:0<Q.sum:=by lia
 have hS2:Q.sum<=609:=by lia
 refine⟨Q.map λp=>ar p Q.sum,?_,λq hq=>?_,by simp[hl],by rw[qy,div_self hS]⟩
 ·rw[cy];exact aew hS hS2 (by lia)<|ac7 hc.2 e
 ·obtain⟨p,hp,rfl⟩:=aw.mp hq;have hb:=hQ p hp;have p20:(1000:Nat)<2^20:=by decide
  exact⟨o8 (by lia) (oT (show p.natAbs<=1000 by lia) p20) (oT (show Q.sum.natAbs<=1000 by lia) p20),Aa hS (by lia) (by lia),div_pos (by lia) hS⟩
structure En where
 cells:List Int
 pool:List Str
 turn:Int
 lev:Bool
noncomputable def sk (x:String):Key:=.inr<|dc x
def Vh:List Key:=[sk "at",sk "room",sk "names",sk "many",sk "pool",sk "turn",sk "level"]
def stD (e:En)(A:Addr×Addr)(at_ room:Int):D:=.dct Vh [.int at_,.int room,.adr A.1,.adr A.2,.lst<|e.pool.map D.str,.int e.turn,.bl e.lev]
theorem ahK (e:En)(A:Addr×Addr)(a r:Int):bu (stD e A a r) (.str "at")=some (.int a):=by rfl
theorem Kd (e:En)(A:Addr×Addr)(a r:Int):bu (stD e A a r) (.str "room")=some (.int r):=by rfl
theorem Ng (e:En)(A:Addr×Addr)(a r:Int):bu (stD e A a r) (.str "names")=some (.adr A.1):=by rfl
theorem T7 (e:En)(A:Addr×Addr)(a r:Int):bu (stD e A a r) (.str "many")=some (.adr A.2):=by rfl
theorem Ti (e:En)(A:Addr×Addr)(a r:Int):bu (stD e A a r) (.str "pool")=some (.lst<|e.pool.map D.str):=by rfl
theorem Uo (e:En)(A:Addr×Addr)(a r:Int):bu (stD e A a r) (.str "turn")=some (.int e.turn):=by rfl
theorem YZ (e:En)(A:Addr×Addr)(a r:Int):bu (stD e A a r) (.str "level")=some (.bl e.lev):=by rfl
theorem ahg (h:m[i]? = some (.io<|stD e A a r))(hk:fk m=.ok (.str "at"))(hv:fv m=.ok (.int a')):dB i fk fv m=.ok (.nx,m.set i<|.io<|stD e A a' r):=by
 have ho:zj m i=some (false,Vh,[.int a,.int r,.adr A.1,.adr A.2,.lst<|e.pool.map D.str,.int e.turn,.bl e.lev]):=by
  unfold zj;rw[h];rfl
 unfold dB;rw[hv,ho];simp[hk,tH,zR,putD,Vh,sk,Ht,stD]
theorem Lf (h:m[i]? = some (.io<|stD e A a r))(hk:fk m=.ok (.str "room"))(hv:fv m=.ok (.int r')):dB i fk fv m=.ok (.nx,m.set i<|.io<|stD e A a r'):=by
 have ho:zj m i=some (false,Vh,[.int a,.int r,.adr A.1,.adr A.2,.lst<|e.pool.map D.str,.int e.turn,.bl e.lev]):=by
  unfold zj;rw[h];rfl
 unfold dB;rw[hv,ho];simp[hk,tH,zR,putD,Vh,sk,Ht,stD]
noncomputable def kp:D->Kt
 | .tup [.str a,.str b]=>.t [.k<|.inr a,.k<|.inr b]
 |_=>.t []
def kN (s:Int)(rc:List D)(c b:Int):List Kt:=[.k<|.inl s,.t<|rc.map kp,.k<|.inl c,.k<|.inl b]
abbrev Pr (rc:List D):Prop:=∀d∈rc,prd d
theorem aco:∀{rc:List D},Pr rc->nH (ktD<|n+1) rc=some (rc.map kp)
 |[],_=>rfl
 |d::rc,h=>by
  obtain⟨a,b,rfl⟩:=h d af;have ih:=aco (n:=n) λx hx=>h x<|ae _ hx;have e:ktD (n+1) (.tup [.str a,.str b])=some (.t [.k<|.inr a,.k<|.inr b]):=by
   cases n<;>rfl
  show((ktD (n+1)<|.tup [.str a,.str b]).bind λk=>(nH (ktD<|n+1) rc).map λks=>k::ks)=_;rw[e,ih];rfl
theorem afD (h:Pr rc):vf (.tup [.int s,.tup rc,.int c,.int b])=some (kN s rc c b):=by
 have e:ktD 7 (.tup rc)=some (.t<|rc.map kp):=by
  show(nH (ktD 6) rc).map Kt.t=_;rw[aco h];rfl
 show((ktD 7<|.int s).bind λk=>((ktD 7<|.tup rc).bind λk=>((ktD 7<|.int c).bind λk=>((ktD 7<|.int b).bind λk=>(some []).map λks=>k::ks).map λks=>k::ks).map λks=>k::ks).map λks=>k::ks)=_;rw[e];rfl
theorem xH:∀{r r':List D},Pr r->Pr r'->r.map kp=r'.map kp->r=r'
 |[],[],_,_,_=>rfl
 |[],_::_,_,_,h=>by cases h
 |_::_,[],_,_,h=>by cases h
 |d::r,d'::r',h1,h2,h=>by
  obtain⟨a,b,rfl⟩:=h1 d af;obtain⟨a',b',rfl⟩:=h2 d' af;have h:Kt.t [.k<|.inr a,.k<|.inr b]::r.map kp=Kt.t [.k<|.inr a',.k<|.inr b']::r'.map kp:=h;injection h with e1 e2
  injection e1 with e1
  injection e1 with e3 e4
  injection e3 with e3
  injection e3 with e3
  injection e4 with e4 _
  injection e4 with e4
  injection e4 with e4
  rw[e3,e4,xH (λx hx=>h1 x<|ae _ hx) (λx hx=>h2 x<|ae _ hx) e2]
theorem Jw (h1:Pr r)(h2:Pr r')(h:kN s r c b=kN s' r' c' b'):s=s'/\r=r'/\c=c'/\b=b':=by
 unfold kN at h;injection h with e1 h
 injection h with e2 h
 injection h with e3 h
 injection h with e4 _
 injection e1 with e1
 injection e1 with e1
 injection e2 with e2
 injection e3 with e3
 injection e3 with e3
 injection e4 with e4
 injection e4 with e4
 exact⟨e1,xH h1 h2 e2,e3,e4⟩
abbrev Nd:=List (List Kt)×List D
noncomputable def mOf (m:Int×Int)(s:Int):Int:=if s=1 then m.1 else m.2
structure qm (N:Nd)(m:Int×Int):Prop where
 len:N.1.length=N.2.length
 sz:N.1.length<=1000
 nn:0<=m.1/\0<=m.2
 num:∀s rc c b d,(s=1\/s=2)->Pr rc->bJ N.1 N.2 (kN s rc c b)=some d->∃n:Int,d=.int n/\0<=n/\n<mOf m s
 inj:∀s rc c b rc' c' b' d,(s=1\/s=2)->Pr rc->Pr rc'->bJ N.1 N.2 (kN s rc c b)=some d->bJ N.1 N.2 (kN s rc' c' b')=some d->rc=rc'/\c=c'
def Sub (N N':Nd):Prop:=∀k d,bJ N.1 N.2 k=some d->bJ N'.1 N'.2 k=some d
noncomputable def upM (m:Int×Int)(s:Int):Int×Int:=if s=1 then(m.1+1,m.2) else(m.1,m.2+1)
theorem ade (I:qm N m)(hs:s=1\/s=2)(hr:Pr rc)(hz:N.1.length<1000)(hn:bJ N.1 N.2 (kN s rc c b)=none):
  qm (iu N.1 N.2 (kN s rc c b)<|.int<|mOf m s) (upM m s)/\Sub N (iu N.1 N.2 (kN s rc c b)<|.int<|mOf m s):=by
 have hp:=λk'=>yx (ks:=N.1) (ds:=N.2) (k:=kN s rc c b) (k':=k') (d:=.int<|mOf m s) I.len;obtain⟨l1,l2⟩:=J0 (ks:=N.1) (ds:=N.2) (k:=kN s rc c b) (d:=.int<|mOf m s) I.len;have nn:=I.nn;have m0:0<=mOf m s:=by unfold mOf;split<;>lia
 have mle:∀t,mOf m t<=mOf (upM m s) t:=λt=>by
  unfold mOf upM;by_cases q:s=1<;>by_cases q2:t=1<;>simp[q,q2]<;>lia
 have mlt:mOf m s<mOf (upM m s) s:=by
  unfold mOf upM;by_cases q:s=1<;>simp[q]<;>lia
 refine⟨⟨l1,by lia,?_,?_,?_⟩,?_⟩
 ·unfold upM;split<;>simp<;>lia
 ·intro t r c' b' d ht hr' h;rw[hp] at h;by_cases q:kN s rc c b=kN t r c' b'
  ·rw[if_pos q] at h;cases h;obtain⟨rfl,_⟩:=Jw hr hr' q;exact⟨_,rfl,m0,mlt⟩
  ·rw[if_neg q] at h;obtain⟨n,e,h0,h1⟩:=I.num t r c' b' d ht hr' h;exact⟨n,e,h0,Int.lt_of_lt_of_le h1<|mle t⟩
 ·intro t r c1 b1 r' c2 b2 d ht h1 h2 e1 e2;rw[hp] at e1 e2;by_cases q1:kN s rc c b=kN t r c1 b1
  ·rw[if_pos q1] at e1;cases e1;obtain⟨rfl,rfl,rfl,rfl⟩:=Jw hr h1 q1;by_cases q2:kN s rc c b=kN s r' c2 b2
   ·obtain⟨_,rfl,rfl,_⟩:=Jw hr h2 q2;exact⟨rfl,rfl⟩
   ·rw[if_neg q2] at e2;obtain⟨n,e,_,h⟩:=I.num s r' c2 b2 _ ht h2 e2;cases e
    lia
  ·rw[if_neg q1] at e1;by_cases q2:kN s rc c b=kN t r' c2 b2
   ·rw[if_pos q2] at e2;cases e2;obtain⟨rfl,rfl,rfl,rfl⟩:=Jw hr h2 q2;obtain⟨n,e,_,h⟩:=I.num s r c1 b1 _ ht h1 e1;cases e
    lia
   ·rw[if_neg q2] at e2;exact I.inj t r c1 b1 r' c2 b2 d ht h1 h2 e1 e2
 ·intro k d h;rw[hp,if_neg λq=>by rw[← q,hn] at h;cases h];exact h
theorem V2 (I:qm N m)(hs:s=1\/s=2)(hr:Pr rc)(hz:N.1.length<1000):
  ∃(n:Int) (N':Nd) (m':Int×Int),(∀A:Addr×Addr,cY [.int s,.tup rc,.int c,.int b] (stD e A a r) (A.1,.dcu N.1 N.2) (A.2,.lst [.int m.1,.int m.2])=.ok (.int n,stD e A a r,.dcu N'.1 N'.2,.lst [.int m'.1,.int m'.2]))/\
   0<=n/\bJ N'.1 N'.2 (kN s rc c b)=some (.int n)/\qm N' m'/\Sub N N'/\N'.1.length<=N.1.length+1:=by
 have kk:=afD (s:=s) (c:=c) (b:=b) hr;have z1:N.1.length<16777216:=by lia
 have x0:∀a b:D,atI [a,b] 0=some a:=λ_ _=>rfl;have x1:∀a b:D,atI [a,b] 1=some b:=λ_ _=>rfl;have n0:ixN 2 0=some 0:=rfl;have n1:ixN 2 1=some 1:=rfl;cases q:bJ N.1 N.2 (kN s rc c b) with
 |some d=>
  obtain⟨n,rfl,h0,h1⟩:=I.num s rc c b d hs hr q;refine⟨n,N,m,λA=>?_,h0,q,I,λ_ _ h=>h,by lia⟩;have g1:=Ng e A a r;have g2:=T7 e A a r;generalize hst:stD e A a r=ST at *;simp[cY,gW,gO,F.runST,ni,aA,aK,aN,aa,ao,au,gIf,aB,aj,OD,ak,fC,g1,g2,Bv,VB,pF,dcK,kk,q,gNx,aU,Me.let,Sl.let,uQ,mR]
 |none=>
  obtain⟨I',S'⟩:=ade I hs hr hz q;have l2:=(J0 (ks:=N.1) (ds:=N.2) (k:=kN s rc c b) (d:=.int<|mOf m s) I.len).2;have hv:bJ (iu N.1 N.2 (kN s rc c b)<|.int<|mOf m s).1 (iu N.1 N.2 (kN s rc c b)<|.int<|mOf m s).2 (kN s rc c b)=some (.int<|mOf m s):=by rw[yx I.len,if_pos rfl]
  have m0:0<=mOf m s:=by have:=I.nn;unfold mOf;split<;>lia
  refine⟨mOf m s,iu N.1 N.2 (kN s rc c b)<|.int<|mOf m s,upM m s,λA=>?_,m0,hv,I',S',l2⟩;have g1:=Ng e A a r;have g2:=T7 e A a r;generalize hst:stD e A a r=ST at *;obtain⟨k,k1,k2,k3⟩:∃k,ixN 2 (s-1)=some k/\atI [.int m.1,.int m.2] (s-1)=some (D.int<|mOf m s)/\[D.int m.1,.int m.2].set k (.int<|mOf m s+1)=[.int (upM m s).1,.int (upM m s).2]:=by
   rcases hs with rfl|rfl
   ·exact⟨0,rfl,rfl,rfl⟩
   ·exact⟨1,rfl,rfl,rfl⟩
  generalize mOf m s=M at *;generalize upM m s=U at *;simp[cY,gW,gO,F.runST,ni,aA,aK,aN,aa,ao,au,gIf,aB,aj,OD,ak,fC,g1,g2,Bv,VB,pF,dcK,kk,q,aU,Me.let,Sl.let,uQ,mR,DY,Ay,zT,gIx,F.cO,k1,k2,k3,z1,bc,hv]
noncomputable def nameAt (e:En)(n:Int):Str:=e.pool.getD ((n+e.turn)%8).toNat ⟨#[]⟩
noncomputable def wordAt (e:En)(n k:Int):Str:=e.pool.getD ((3*n+k+e.turn/8)%8).toNat ⟨#[]⟩
structure pO (e:En):Prop where
 c1:1<=e.cells.length
 c2:e.cells.length<=100
 p8:e.pool.length=8
 t0:0<=e.turn/\e.turn<64
 pok:∀x∈e.pool,hU x=true
theorem Kf (E:pO e){i:Int}(h:0<=i/\i<8):atI (e.pool.map D.str) i=some (.str<|e.pool.getD i.toNat ⟨#[]⟩):=by
 have hl:i.toNat<e.pool.length:=by rw[E.p8];lia
 have e1:(e.pool.map D.str)[i.toNat]? = some (.str<|e.pool.getD i.toNat ⟨#[]⟩):=by
  rw[bt,ax hl,bo,ax hl];rfl
 have:=jN e1
 rwa [show((i.toNat:Nat):Int)=i by lia] at this
theorem CW (E:pO e)(i:Nat)(h:i<8):hU (e.pool.getD i ⟨#[]⟩)=true:=by
 have hl:i<e.pool.length:=by rw[E.p8];exact h
 rw[bo,ax hl];exact E.pok _<|xp hl
def Row (e:En)(N:Nd)(s:Int)(nm:Str)(d:D):Prop:=∃(rc:List D) (c:Nat) (b n:Int),Pr rc/\uG rc=true/\bJ N.1 N.2 (kN s rc (c:Int) b)=some (.int n)/\0<=n/\n<8/\(1<=c/\c<=3)/\nm=nameAt e n/\d=.tup [.int s,.str nm,.tup<|(bp c).map λ(k:Nat)=>.str<|wordAt e n k,.tup rc]
theorem Row.mono (h:Row e N s nm d)(S:Sub N N'):Row e N' s nm d:=by
 obtain⟨rc,c,b,n,h1,h2,h3,h4⟩:=h;exact⟨rc,c,b,n,h1,h2,S _ _ h3,h4⟩
def Zz (e:En)(N:Nd)(p:Tr):Prop:=match p.2.1 with
 | .fin d=>smQ d/\∃q:Rat,d=rq q
 | .deal n ws=>aeb ws/\n∈e.pool
 | .move s n ws=>Row e N s n<|dU s n ws p.2.2
theorem Zz.mono (h:Zz e N p)(S:Sub N N'):Zz e N' p:=by
 obtain⟨w,g,r⟩:=p;cases g with
 |fin d=>exact h
 |deal n ws=>exact h
 |move s n ws=>exact Row.mono h S
structure Grw (e:En)(N:Nd)(rc:Rc)(g:Gm)(dep:Nat):Prop where
 len:jm g
 sd:sdG g
 dep:dp g<=dep
 pl:∀w,∀p∈prG w rc g,Zz e N p
theorem Grw.mono {e:En}{N N':Nd}{rc:Rc}{g:Gm}{dep:Nat}(h:Grw e N rc g dep)(S:Sub N N'):Grw e N' rc g dep:=⟨h.len,h.sd,h.dep,λw p hp=>(h.pl w p hp).mono S⟩
abbrev Bf:=List D->D->Addr×D->Addr×D->Res (D×D×D×D)
def Lq (rc:Rc)(dep:Nat):Prop:=Pr rc.1/\Pr rc.2/\uG rc.1=true/\uG rc.2=true/\rc.1.length+dep<=12/\rc.2.length+dep<=12
noncomputable def cD (e:En):D:=.lst<|e.cells.map D.int
noncomputable def rcD (rc:Rc):D:=.lst [.tup rc.1,.tup rc.2]
noncomputable def nD (N:Nd):D:=.dcu N.1 N.2
noncomputable def mD (m:Int×Int):D:=.lst [.int m.1,.int m.2]
def Gives (e:En)(R:Addr×Addr->Res (D×D×D×D))(a r:Nat)(N:Nd)(rc:Rc)(dep:Nat):Prop:=∃(g:Gm) (a' r':Nat) (N':Nd) (m':Int×Int),(∀A,R A=.ok (dG g,stD e A a' r',nD N',mD m'))/\qm N' m'/\Sub N N'/\N'.1.length<=a'/\r'+szG g=r+1/\a'+r'=a+r+1/\Grw e N' rc g dep
def SpB (e:En)(Φ:Bf)(dep:Nat):Prop:=∀(a r:Nat) (N:Nd) (m:Int×Int) (rc:Rc),qm N m->N.1.length<=a->a+r<=63->Lq rc dep->Gives e (λA=>Φ [cD e,.int (dep:Int),rcD rc] (stD e A a r) (A.1,nD N) (A.2,mD m)) a r N rc dep
noncomputable def ofL:List (D×Gm)->Ws
 |[]=>.nil
 |p::l=>.cons p.1 p.2<|ofL l
theorem Qk:∀l:List (D×Gm),dWs (ofL l)=l.map λp=>.tup [p.1,dG p.2]
 |[]=>rfl
 |p::l=>by show _::dWs (ofL l)=_;rw[Qk l];rfl
theorem JX:∀l:List (D×Gm),bZ (ofL l)=l.map (·.1)
 |[]=>rfl
 |p::l=>by show _::bZ (ofL l)=_;rw[JX l];rfl
def mvM (e:En)(A:Addr×Addr)(a r:Int)(N:Nd)(m:Int×Int)(rc:Rc)(dep draw s c n:Int)(seen:Str)(ζ:List D)(s11 s12 s13:Sl):Me:=
 [.fz<|cD e,.io<|stD e A a r,.fz<|.int dep,.fz<|rcD rc,.fz<|.int draw,.fz<|.int s,.fz<|.int c,.fz<|.int n,.fz<|.lst<|e.pool.map D.str,.fz<|.str seen,.ow<|.lst ζ,s11,s12,s13,.hd false A.1<|nD N,.hd false A.2<|mD m]
theorem acU (h:Lq rc (dep+1))(hn:hU n=true)(hx:hU x=true):Lq (rbm s n rc<|.str x) dep:=by
 refine lO h λh1 h2 h3 h4 h5 h6=>?_;have app:∀l:List D,uG l=true->uG (l++[.tup [.str n,.str x]])=true:=by
  intro l;induction l with
  |nil=>intro _;simp[uG,okD,hn,hx]
  |cons d l ih=>intro h;simp[uG] at h ⊢;exact⟨h.1,ih h.2⟩
 have prp:∀l:List D,Pr l->Pr (l++[.tup [.str n,.str x]]):=λl h d hd=>by
  rcases cq.mp hd with e|e
  ·exact h d e
  ·exact⟨n,x,bg.mp e⟩
 unfold rbm;split
 ·exact⟨prp _ h1,h2,app _ h3,h4,by simp;lia,by simp;lia⟩
 ·exact⟨h1,prp _ h2,h3,app _ h4,by simp;lia,by simp;lia⟩
theorem abY (E:pO e){Φ:Bf}{dep:Nat}(hΦ:SpB e Φ dep){a r:Nat}{N:Nd}{m:Int×Int}{rc:Rc}{draw s c n k:Int}{seen:Str}{ζ:List D}{s12 s13:Sl}(I:qm N m)(hN:N.1.length<=a)(har:a+r<=63)(hr:Lq rc (dep+1))(hs:s=1\/s=2)(hn:0<=n/\n<8)(hk:0<=k/\k<3)(hse:hU seen=true)(hw:ζ.length<=100):
  ∃(g:Gm) (a' r':Nat) (N':Nd) (m':Int×Int) (t12 t13:Sl),(∀A:Addr×Addr,fP Φ (mvM e A a r N m rc (dep+1:Nat) draw s c n seen ζ (.fz<|.int k) s12 s13)=.ok (.nx,mvM e A a' r' N' m' rc (dep+1:Nat) draw s c n seen (ζ++[.tup [.str<|wordAt e n k,dG g]]) (.fz<|.int k) t12 t13))/\
   qm N' m'/\Sub N N'/\N'.1.length<=a'/\r'+szG g=r+1/\a'+r'=a+r+1/\Grw e N' (rbm s seen rc<|.str<|wordAt e n k) g dep:=by
 have t0:=E.t0;have hwok:hU (wordAt e n k)=true:=CW E _ (by lia);refine K6 (hΦ a r N m _ I hN har<|acU (s:=s) hr hse hwok) λg a' r' N' m' e1 i1 i2 i3 i4 i5 i6=>?_;refine⟨g,a',r',N',m',.fz<|.str<|wordAt e n k,.fz<|rcD<|rbm s seen rc<|.str<|wordAt e n k,λA=>?_,i1,i2,i3,i4,i5,i6⟩;have e1:Φ [cD e,.int (dep:Int),rcD<|rbm s seen rc<|.str<|wordAt e n k] (stD e A a r) (A.1,nD N) (A.2,mD m)=.ok (dG g,stD e A a' r',nD N',mD m'):=e1 A;have pa:=Kf E (i:=(3*n+k+e.turn/8)%8) (by lia);have b3:Bq 3:=bgS (by decide);have bn:Bq n:=bgS (by lia);have b8:Bq 8:=bgS (by decide);have gt:=Uo e A a r;have x0:∀a b:D,atI [a,b] 0=some a:=λ_ _=>rfl;have x1:∀a b:D,atI [a,b] 1=some b:=λ_ _=>rfl;have n0:ixN 2 0=some 0:=rfl;have n1:ixN 2 1=some 1:=rfl;have z1:rc.1.length+1<=16777216:=by have:=hr.2.2.2.2.1;lia
 have z2:rc.2.length+1<=16777216:=by have:=hr.2.2.2.2.2;lia
 have z3:ζ.length<16777216:=by lia
 have ed:((dep+1:Nat):Int)-1=(dep:Int):=by lia
 have wd:wordAt e n k=e.pool.getD ((3*n+k+e.turn/8)%8).toNat ⟨#[]⟩:=rfl;rw[← wd] at pa;simp only[mvM];generalize wordAt e n k=X at *;generalize hst:stD e A a r=ST at *;generalize hst':stD e A (a':Int) (r':Int)=ST' at *;generalize cD e=C at *;generalize nD N=NN at *;generalize nD N'=NN' at *;generalize mD m=MM at *;generalize mD m'=MM' at *;generalize hdp:((dep+1:Nat):Int)=DP at *;rcases hs with rfl|rfl
 ·simp only[rbm,rcD,if_pos] at e1;simp[fP,aA,aK,ak,aj,gIx,aY,mdI,bc,dO,fC,gt,cV,dvI,b3,bn,b8,hst,hst',pa,cC,aF,uN,aa,ao,rcD,kZ,F.cO,x0,x1,kY,putL,n0,n1,aN,au,z1,z2,Xy,sY,Hv,vm,fX,xV,Kz,zT,ed,e1,Cv,Ie,z3,rbm]
 ·simp only[rbm,rcD,show((2:Int)=1)=False by simp,if_false] at e1;simp[fP,aA,aK,ak,aj,gIx,aY,mdI,bc,dO,fC,gt,cV,dvI,b3,bn,b8,hst,hst',pa,cC,aF,uN,aa,ao,rcD,kZ,F.cO,x0,x1,kY,putL,n0,n1,aN,au,z1,z2,Xy,sY,Hv,vm,fX,xV,Kz,zT,ed,e1,Cv,Ie,z3,rbm]
noncomputable def szL (L:List (D×Gm)):Nat:=(L.map λp=>szG p.2).sum
def Qq (p:D×Gm):D:=.tup [p.1,dG p.2]
theorem Sub.refl (N:Nd):Sub N N:=λ_ _ h=>h
theorem Sub.trans (h:Sub A B)(k:Sub B C):Sub A C:=λx d z=>k x d<|h x d z
theorem QM (E:pO e){Φ:Bf}{dep:Nat}(hΦ:SpB e Φ dep){rc:Rc}{draw s cc n:Int}{seen:Str}(hr:Lq rc (dep+1))(hs:s=1\/s=2)(hn:0<=n/\n<8)(hse:hU seen=true):
  ∀(c i a r:Nat) (N:Nd) (m:Int×Int) (ζ:List D) (s11 s12 s13:Sl),qm N m->N.1.length<=a->a+r+c<=64->i+c<=3->ζ.length+c<=100->
  ∃(L:List (D×Gm)) (a' r':Nat) (N':Nd) (m':Int×Int) (t11 t12 t13:Sl),(∀A:Addr×Addr,aL (hName 11) (fP Φ) ((kH i c).map λ(k:Nat)=>D.int k) (mvM e A a r N m rc (dep+1:Nat) draw s cc n seen ζ s11 s12 s13)=.ok (.nx,mvM e A a' r' N' m' rc (dep+1:Nat) draw s cc n seen (ζ++L.map Qq) t11 t12 t13))/\
   qm N' m'/\Sub N N'/\N'.1.length<=a'/\r'+szL L=r+c/\a'+r'=a+r+c/\L.map (·.1)=(kH i c).map (λ(k:Nat)=>D.str<|wordAt e n k)/\∀p∈L,Grw e N' (rbm s seen rc p.1) p.2 dep
 |0,i,a,r,N,m,ζ,s11,s12,s13,I,hN,har,hi,hw=>⟨[],a,r,N,m,s11,s12,s13,λA=>by simp[aL],I,Sub.refl N,hN,by simp[szL],by lia,rfl,λ_ z=>by cases z⟩
 |c+1,i,a,r,N,m,ζ,s11,s12,s13,I,hN,har,hi,hw=>by
  obtain⟨g,a1,r1,N1,m1,t12,t13,e1,i1,i2,i3,i4,i5,i6⟩:=(abY E hΦ (a:=a) (r:=r) (draw:=draw) (c:=cc) (s12:=s12) (s13:=s13) (k:=(i:Int)) I hN (by lia) hr hs hn (by lia) hse (by lia:ζ.length<=100));obtain⟨L,a',r',N',m',u11,u12,u13,e2,j1,j2,j3,j4,j5,j6,j7⟩:=QM E hΦ (draw:=draw) (cc:=cc) (n:=n) (seen:=seen) hr hs hn hse c (i+1) a1 r1 N1 m1 (ζ++[.tup [.str<|wordAt e n i,dG g]]) (.fz<|.int (i:Int)) t12 t13 i1 i3 (by lia) (by lia) (by simp;lia);refine⟨(.str<|wordAt e n i,g)::L,a',r',N',m',u11,u12,u13,λA=>?_,j1,i2.trans j2,j3,?_,by lia,?_,λp hp=>?_⟩
  ·rw[ia,ah,aW (m1:=mvM e A a r N m rc (dep+1:Nat) draw s cc n seen ζ (.fz<|.int (i:Int)) s12 s13) rfl<|e1 A,e2 A,eD];rfl
  ·show r'+(szG g+szL L)=r+(c+1)
   lia
  ·rw[ia,ah,ah,j6]
  ·rcases aE.mp hp with q|q
   ·rw[q];exact i6.mono j2
   ·exact j7 p q
theorem O3:∀L:List (D×Gm),szW (ofL L)=szL L
 |[]=>rfl
 |p::L=>by show szG p.2+szW (ofL L)=szG p.2+szL L;rw[O3 L]
theorem Jk:∀L:List (D×Gm),dF (ofL L)=L.length
 |[]=>rfl
 |p::L=>by show dF (ofL L)+1=_;rw[Jk L];rfl
theorem Ew:∀L:List (D×Gm),(∀p∈L,jm p.2)->Bw (ofL L)
 |[],_=>trivial
 |p::L,h=>⟨h p af,Ew L λq hq=>h q<|ae _ hq⟩
theorem Oq:∀L:List (D×Gm),(∀p∈L,sdG p.2)->sdW (ofL L)
 |[],_=>trivial
 |p::L,h=>⟨h p af,Oq L λq hq=>h q<|ae _ hq⟩
theorem O7:∀L:List (D×Gm),(∀p∈L,dp p.2<=k)->dpW (ofL L)<=k
 |[],_=>f6 _
 |p::L,h=>Nat.max_le.mpr ⟨h p af,O7 L λq hq=>h q<|ae _ hq⟩
theorem Pn:∀(L:List (D×Gm)) (i:Nat) (p:Tr),p∈prW w f i (ofL L)->∃q∈L,∃w',p∈prG w' (f q.1) q.2
 |[],i,p,h=>by cases h
 |q::L,i,p,h=>by
  rcases cq.mp (show p∈prG (w++[(i:Int)]) (f q.1) q.2++prW w f (i+1) (ofL L) from h) with z|z
  ·exact⟨q,af,_,z⟩
  ·obtain⟨q',h1,h2⟩:=Pn L (i+1) p z;exact⟨q',ae _ h1,h2⟩
theorem WK (hs:s=1\/s=2)(hl:L.length<=3)(h:∀p∈L,Grw e N (rbm s nm rc p.1) p.2 dep)(hrow:Row e N s nm (dU s nm (ofL L) rc)):Grw e N rc (.move s nm<|ofL L) (dep+1) where
 len:=⟨by rw[Jk];lia,Ew L λp hp=>(h p hp).len⟩
 sd:=⟨hs,Oq L λp hp=>(h p hp).sd⟩
 dep:=Nat.succ_le_succ<|O7 L λp hp=>(h p hp).dep
 pl:=λw p hp=>by
  rcases aE.mp (show p∈(w,Gm.move s nm<|ofL L,rc)::prW w (rbm s nm rc) 0 (ofL L) from hp) with z|z
  ·rw[z];exact hrow
  ·obtain⟨q,hq,w',h2⟩:=Pn L 0 p z;exact(h q hq).pl w' p h2
theorem Wi (hl:L.length<=3)(h:∀p∈L,Grw e N rc p.2 dep)(hsh:aeb (ofL L))(hnm:nm∈e.pool):Grw e N rc (.deal nm<|ofL L) (dep+1) where
 len:=⟨by rw[Jk];lia,Ew L λp hp=>(h p hp).len⟩
 sd:=Oq L λp hp=>(h p hp).sd
 dep:=Nat.succ_le_succ<|O7 L λp hp=>(h p hp).dep
 pl:=λw p hp=>by
  rcases aE.mp (show p∈(w,Gm.deal nm<|ofL L,rc)::prW w (λ_=>rc) 0 (ofL L) from hp) with z|z
  ·rw[z];exact⟨hsh,hnm⟩
  ·obtain⟨q,hq,w',h2⟩:=Pn L 0 p z;exact(h q hq).pl w' p h2
theorem Q9 (h:smQ (rq q)):Grw e N rc (.fin<|rq q) dep where
 len:=trivial
 sd:=trivial
 dep:=f6 _
 pl:=λw p hp=>by
  have:p=(w,.fin<|rq q,rc):=by simpa[prG] using hp
  rw[this];exact⟨h,q,rfl⟩
theorem gs (h:g m=.ok (.nx,m1)):aA g k m=k m1:=by unfold aA;rw[h]
theorem QL (h:g m=.ok (.rt f d,m1)):aA g k m=.ok (.rt f d,m1):=by unfold aA;rw[h]
theorem Gk (hl:ds.length+1=n)(h0:ni p (.io d) (ds.map Sl.fz)++(dA (N-n-2) Sl.un++[.hd false x.1 x.2,.hd false y.1 y.2])=m0)(hg:g m0=.ok (.rt fr r,m'))(h1:uQ m' p=some d')(h2:mR m' (N-2) x.1=some e)(h3:mR m' (N-1) y.1=some f):
  F.runST p N n g ds d x y=.ok (r,d',e,f):=by simp_all[if_pos,F.runST]
def mx (e:En)(A:Addr×Addr)(a r:Int)(N:Nd)(m:Int×Int)(rc:Rc)(dep draw:Int)(s5 s6 s7 s8 s9 s10 s11 s12 s13:Sl):Me:=
 [.fz<|cD e,.io<|stD e A a r,.fz<|.int dep,.fz<|rcD rc,.fz<|.int draw,s5,s6,s7,s8,s9,s10,s11,s12,s13,.hd false A.1<|nD N,.hd false A.2<|mD m]
theorem Y0 {φs:Zac}{φn:Bf}{L:Zab}{e:En}{A:Addr×Addr}{a r:Nat}{N N1:Nd}{m m1:Int×Int}{rc:Rc}{DP draw s c b n:Int}(E:pO e)
  (hs:s=1+draw%2) (hc:c=1+draw/16%3) (hb:b=draw/48%2) (en:φn [.int s,.tup<|eF rc s,.int c,.int b] (stD e A a r) (A.1,nD N) (A.2,mD m)=.ok (.int n,stD e A a r,nD N1,mD m1)):
  (8<=n->∀q,φs [.int draw]=.ok (false,q)->F.runST 1 16 5 (lu φs φn L) [cD e,.int DP,rcD rc,.int draw] (stD e A a r) (A.1,nD N) (A.2,mD m)=.ok (.tup [.str "end",q],stD e A a r,nD N1,mD m1))/\
  (0<=n->n<8->∀(a' r':Nat) (N':Nd) (m':Int×Int) (ws:List D) (t11 t12 t13:Sl),ws.length<=100->L (mvM e A a ((r:Int)-c) N1 m1 rc DP draw s c n (nameAt e n) [] .un .un .un)=.ok (.nx,mvM e A a' r' N' m' rc DP draw s c n (nameAt e n) ws t11 t12 t13)->
   F.runST 1 16 5 (lu φs φn L) [cD e,.int DP,rcD rc,.int draw] (stD e A a r) (A.1,nD N) (A.2,mD m)=.ok (.tup [.str "move",.int s,.str<|nameAt e n,.tup ws],stD e A a' r',nD N',mD m')):=by
 have b16:Bq 16:=bgS (by decide);have b48:Bq 48:=bgS (by decide);have x0:∀a b:D,atI [a,b] 0=some a:=λ_ _=>rfl;have x1:∀a b:D,atI [a,b] 1=some b:=λ_ _=>rfl;have hs1:s=1\/s=2:=by lia
 have ex:gIx (rcD rc) (.int<|s-1)=some (.tup<|eF rc s):=by
  rcases hs1 with q|q
  ·rw[q];exact x0 _ _
  ·rw[q];exact x1 _ _
 have e1:∀k,aA (aK 5<|ak bc (fC<|.int 1)<|ak aY (aj 4)<|fC<|.int 2) k (mx e A a r N m rc DP draw .un .un .un .un .un .un .un .un .un)=k (mx e A a r N m rc DP draw (.fz<|.int s) .un .un .un .un .un .un .un .un):=λk=>gs (by
  simp[mx,aK,ak,fC,aj,aY,mdI,bc,hs])
 have e2:∀k,aA (aK 6<|ak bc (fC<|.int 1)<|ak aY (ak cV (aj 4)<|fC<|.int 16)<|fC<|.int 3) k (mx e A a r N m rc DP draw (.fz<|.int s) .un .un .un .un .un .un .un .un)=k (mx e A a r N m rc DP draw (.fz<|.int s) (.fz<|.int c) .un .un .un .un .un .un .un):=λk=>gs (by
  simp[mx,aK,ak,fC,aj,aY,mdI,bc,cV,dvI,b16,hc])
 have e3:∀k,aA (Uq 7<|xV φn 1 0 14 15<|aa (au 5)<|aa (ak gIx (aj 3)<|ak cO (aj 5)<|fC<|.int 1)<|aa (au 6)<|aa (ak aY (ak cV (aj 4)<|fC<|.int 48)<|fC<|.int 2) ao) k (mx e A a r N m rc DP draw (.fz<|.int s) (.fz<|.int c) .un .un .un .un .un .un .un)=k (mx e A a r N1 m1 rc DP draw (.fz<|.int s) (.fz<|.int c) (.fz<|.int n) .un .un .un .un .un .un):=λk=>gs (by
  rw[hb] at en;simp[mx,Uq,xV,Kz,zT,aa,ao,au,ak,aj,fC,F.cO,ex,aY,mdI,cV,dvI,b48,en,Cv])
 have start:ni 1 (.io<|stD e A a r) ([cD e,.int DP,rcD rc,.int draw].map Sl.fz)++(dA (16-5-2) Sl.un++[.hd false A.1<|nD N,.hd false A.2<|mD m])=mx e A a r N m rc DP draw .un .un .un .un .un .un .un .un .un:=rfl;constructor
 ·intro h8 q eq;have e4:∀k,aA (gIf (aB gGe (aj 7)<|fC<|.int 8) (aU<|aN<|aa (fC<|.str "end")<|aa (fFn φs<|aa (au 4) ao) ao) gNx) k (mx e A a r N1 m1 rc DP draw (.fz<|.int s) (.fz<|.int c) (.fz<|.int n) .un .un .un .un .un .un)=.ok (.rt false<|.tup [.str "end",q],mx e A a r N1 m1 rc DP draw (.fz<|.int s) (.fz<|.int c) (.fz<|.int n) .un .un .un .un .un .un):=λk=>QL (by
   have:n≥8:=h8
   simp[mx,gIf,aB,aj,fC,gGe,this,aU,Me.let,Sl.let,aN,aa,ao,fFn,au,eq])
  refine Gk (m0:=mx e A a r N m rc DP draw .un .un .un .un .un .un .un .un .un) (m':=mx e A a r N1 m1 rc DP draw (.fz<|.int s) (.fz<|.int c) (.fz<|.int n) .un .un .un .un .un .un) (fr:=false) rfl start ?_ rfl (by simp[mx,mR]) (by simp[mx,mR]);unfold lu;rw[e1,e2,e3,e4]
 ·intro h0 h8 a' r' N' m' ws t11 t12 t13 hw eL;have t0:=E.t0;have pa:=Kf E (i:=(n+e.turn)%8) (by lia);have wd:nameAt e n=e.pool.getD ((n+e.turn)%8).toNat ⟨#[]⟩:=rfl;rw[← wd] at pa;have gt:=Uo e A a<|(r:Int)-c;have gp:=Ti e A a<|(r:Int)-c;have gr:=Kd e A a r;have e4:∀k,aA (gIf (aB gGe (aj 7)<|fC<|.int 8) (aU<|aN<|aa (fC<|.str "end")<|aa (fFn φs<|aa (au 4) ao) ao) gNx) k (mx e A a r N1 m1 rc DP draw (.fz<|.int s) (.fz<|.int c) (.fz<|.int n) .un .un .un .un .un .un)=k (mx e A a r N1 m1 rc DP draw (.fz<|.int s) (.fz<|.int c) (.fz<|.int n) .un .un .un .un .un .un):=λk=>gs (by
   have:¬n≥8:=by lia
   simp[mx,gIf,aB,aj,fC,gGe,this,gNx])
  have e5:∀k,aA (dB 1 (fC<|.str "room")<|ak cO (ak bu (aj 1)<|fC<|.str "room")<|aj 6) k (mx e A a r N1 m1 rc DP draw (.fz<|.int s) (.fz<|.int c) (.fz<|.int n) .un .un .un .un .un .un)=k (mx e A a ((r:Int)-c) N1 m1 rc DP draw (.fz<|.int s) (.fz<|.int c) (.fz<|.int n) .un .un .un .un .un .un):=λk=>gs (Lf (e:=e) (A:=A) (a:=a) (r:=r) rfl rfl (by
   simp[mx,ak,aj,fC,gr,F.cO]))
  have e6:∀k,aA (aK 8<|ak bu (aj 1)<|fC<|.str "pool") k (mx e A a ((r:Int)-c) N1 m1 rc DP draw (.fz<|.int s) (.fz<|.int c) (.fz<|.int n) .un .un .un .un .un .un)=k (mx e A a ((r:Int)-c) N1 m1 rc DP draw (.fz<|.int s) (.fz<|.int c) (.fz<|.int n) (.fz<|.lst<|e.pool.map D.str) .un .un .un .un .un):=λk=>gs (by
   simp[mx,aK,ak,aj,fC,gp])
  have e7:∀k,aA (aK 9<|ak gIx (aj 8)<|ak aY (ak bc (aj 7)<|ak bu (aj 1)<|fC<|.str "turn")<|fC<|.int 8) k (mx e A a ((r:Int)-c) N1 m1 rc DP draw (.fz<|.int s) (.fz<|.int c) (.fz<|.int n) (.fz<|.lst<|e.pool.map D.str) .un .un .un .un .un)=k (mx e A a ((r:Int)-c) N1 m1 rc DP draw (.fz<|.int s) (.fz<|.int c) (.fz<|.int n) (.fz<|.lst<|e.pool.map D.str) (.fz<|.str<|nameAt e n) .un .un .un .un):=λk=>gs (by
   simp[mx,aK,ak,aj,fC,gt,gIx,aY,mdI,bc,pa])
  have e8:∀k,aA (cC 10<|cP ao) k (mx e A a ((r:Int)-c) N1 m1 rc DP draw (.fz<|.int s) (.fz<|.int c) (.fz<|.int n) (.fz<|.lst<|e.pool.map D.str) (.fz<|.str<|nameAt e n) .un .un .un .un)=k (mvM e A a ((r:Int)-c) N1 m1 rc DP draw s c n (nameAt e n) [] .un .un .un):=λk=>gs (by
   simp[mx,mvM,cC,cP,ao])
  have e9:∀k,aA L k (mvM e A a ((r:Int)-c) N1 m1 rc DP draw s c n (nameAt e n) [] .un .un .un)=k (mvM e A a' r' N' m' rc DP draw s c n (nameAt e n) ws t11 t12 t13):=λk=>gs eL;have z1:ws.length<=16777216:=by lia
  refine Gk (m0:=mx e A a r N m rc DP draw .un .un .un .un .un .un .un .un .un) (m':=Me.let<|mvM e A a' r' N' m' rc DP draw s c n (nameAt e n) ws t11 t12 t13) (fr:=false) rfl start ?_ rfl (by simp[mvM,mR,Me.let,Sl.let]) (by simp[mvM,mR,Me.let,Sl.let]);unfold lu;rw[e1,e2,e3,e4,e5,e6,e7,e8,e9];simp[mvM,aU,Me.let,Sl.let,aN,aa,ao,fC,au,aF,aj,cH,z1]
theorem aaT (E:pO e){Φ:Bf}{dep:Nat}(hΦ:SpB e Φ dep){a r:Nat}{N:Nd}{m:Int×Int}{rc:Rc}{draw:Int}(I:qm N m)(hN:N.1.length+1<=a)(har:a+r<=64)(h3:3<=r)(hr:Lq rc (dep+1))(hd:0<=draw/\draw<=9000000000):
  ∃(g:Gm) (a' r':Nat) (N':Nd) (m':Int×Int),(∀A:Addr×Addr,oV Φ [cD e,.int ((dep+1:Nat):Int),rcD rc,.int draw] (stD e A a r) (A.1,nD N) (A.2,mD m)=.ok (dG g,stD e A a' r',nD N',mD m'))/\qm N' m'/\Sub N N'/\N'.1.length<=a'/\r'+szG g=r+1/\a'+r'=a+r/\Grw e N' rc g (dep+1):=by
 obtain⟨cN,hcN⟩:∃cN:Nat,(cN:Int)=1+draw/16%3:=⟨(1+draw/16%3).toNat,by lia⟩;have hs:1+draw%2=1\/1+draw%2=2:=by lia
 have hpr:Pr (eF rc<|1+draw%2)/\uG (eF rc<|1+draw%2)=true:=by
  unfold eF;split
  ·exact⟨hr.1,hr.2.2.1⟩
  ·exact⟨hr.2.1,hr.2.2.2.1⟩
 have hsz:N.1.length<1000:=by lia
 refine Dt (V2 (e:=e) (a:=a) (r:=r) (c:=(cN:Int)) (b:=draw/48%2) I hs hpr.1 hsz) λn N1 m1 en n0 nv I1 S1 l1=>?_;have W:=λA:Addr×Addr=>Y0 (A:=A) (φs:=bM) (φn:=cY) (L:=jB Φ) (DP:=((dep+1:Nat):Int)) E rfl hcN rfl<|en A;by_cases h8:8<=n
 ·obtain⟨q,eq,hq⟩:=Gu (x:=draw) hd;exact⟨.fin<|rq q,a,r,N1,m1,λA=>(W A).1 h8 _ eq,I1,S1,by lia,rfl,rfl,Q9 hq⟩
 ·have h8':n<8:=by lia
  have hsub:(r:Int)-(cN:Int)=((r-cN:Nat):Int):=by lia
  have t0:=E.t0;obtain⟨L,a',r',N',m',t11,t12,t13,eL,j1,j2,j3,j4,j5,j6,j7⟩:=QM E hΦ (rc:=rc) (draw:=draw) (cc:=(cN:Int)) (seen:=nameAt e n) hr hs ⟨n0,h8'⟩ (CW E _<|by lia) cN 0 a (r-cN) N1 m1 [] .un .un .un I1 (by lia) (by lia) (by lia) (by simp;lia);have hL:L.length=cN:=by
   have:=congrArg si j6
   simpa using this
  have eL2:∀A:Addr×Addr,jB Φ (mvM e A a ((r:Int)-(cN:Int)) N1 m1 rc ((dep+1:Nat):Int) draw (1+draw%2) (cN:Int) n (nameAt e n) [] .un .un .un)=.ok (.nx,mvM e A a' r' N' m' rc ((dep+1:Nat):Int) draw (1+draw%2) (cN:Int) n (nameAt e n) (L.map Qq) t11 t12 t13):=λA=>by
   have e1:(aa (aj 6) ao) (mvM e A a ((r:Int)-(cN:Int)) N1 m1 rc ((dep+1:Nat):Int) draw (1+draw%2) (cN:Int) n (nameAt e n) [] .un .un .un)=.ok [.int (cN:Int)]:=by simp[mvM,aa,ao,aj]
   have e2:=Cu e1 (by lia) (by lia);unfold jB cz;rw[e2];show aL (hName 11) (fP Φ) ((bp cN).map λ(k:Nat)=>D.int k) _=_;rw[fm,hsub];exact eL A
  have hw:=λA:Addr×Addr=>(W A).2 n0 h8' a' r' N' m' (L.map Qq) t11 t12 t13 (by simp;lia)<|eL2 A;refine⟨.move (1+draw%2) (nameAt e n)<|ofL L,a',r',N',m',λA=>?_,j1,S1.trans j2,j3,?_,by lia,WK hs (by lia) j7 ?_⟩
  ·have:dG (.move (1+draw%2) (nameAt e n)<|ofL L)=.tup [.str "move",.int<|1+draw%2,.str<|nameAt e n,.tup<|L.map Qq]:=by
    show D.tup [_,_,_,.tup<|dWs<|ofL L]=_;rw[Qk];rfl
   rw[this];exact hw A
  ·show r'+(szW (ofL L)+1)=r+1;rw[O3];lia
  ·refine⟨eF rc<|1+draw%2,cN,draw/48%2,n,hpr.1,hpr.2,j2 _ _ nv,n0,h8',by lia,rfl,?_⟩;show D.tup [_,_,.tup<|bZ<|ofL L,_]=_;rw[JX,j6,fm]
def bm (e:En)(A:Addr×Addr)(a r:Int)(N:Nd)(m:Int×Int)(rc:Rc)(dep:Int)(s4 s5 s6 s7 s8 s9:Sl):Me:=
 [.fz<|cD e,.io<|stD e A a r,.fz<|.int dep,.fz<|rcD rc,s4,s5,s6,s7,s8,s9,.hd false A.1<|nD N,.hd false A.2<|mD m]
theorem dl_step (hΦ:SpB e Φ dep){a r:Nat}{N:Nd}{m:Int×Int}{rc:Rc}{s4 s5 s6 s7:Sl}{l:D}{ζ:List D}(I:qm N m)(hN:N.1.length<=a)(har:a+r<=63)(hr:Lq rc (dep+1))(hw:ζ.length<=100):
  ∃(g:Gm) (a' r':Nat) (N':Nd) (m':Int×Int),(∀A:Addr×Addr,iZ Φ (bm e A a r N m rc (dep+1:Nat) s4 s5 s6 s7 (.ow<|.lst ζ)<|.fz l)=.ok (.nx,bm e A a' r' N' m' rc (dep+1:Nat) s4 s5 s6 s7 (.ow<|.lst<|ζ++[.tup [l,dG g]])<|.fz l))/\
   qm N' m'/\Sub N N'/\N'.1.length<=a'/\r'+szG g=r+1/\a'+r'=a+r+1/\Grw e N' rc g dep:=by
 refine lO hr λh1 h2 h3 h4 h5 h6=>?_;refine K6 (hΦ a r N m rc I hN har ⟨h1,h2,h3,h4,by lia,by lia⟩) λg a' r' N' m' e1 i1 i2 i3 i4 i5 i6=>?_;refine⟨g,a',r',N',m',λA=>?_,i1,i2,i3,i4,i5,i6⟩;have e1:Φ [cD e,.int (dep:Int),rcD rc] (stD e A a r) (A.1,nD N) (A.2,mD m)=.ok (dG g,stD e A a' r',nD N',mD m'):=e1 A;have z3:ζ.length<16777216:=by lia
 have ed:((dep+1:Nat):Int)-1=(dep:Int):=by lia
 simp only[bm];generalize hst:stD e A a r=ST at *;generalize hst':stD e A (a':Int) (r':Int)=ST' at *;generalize cD e=C at *;generalize nD N=NN at *;generalize nD N'=NN' at *;generalize mD m=MM at *;generalize mD m'=MM' at *;generalize rcD rc=RC at *;generalize hdp:((dep+1:Nat):Int)=DP at *;simp[iZ,sY,kY,putL,Hv,vm,fX,au,xV,Kz,zT,aa,ao,ak,aj,fC,F.cO,ed,e1,Cv,Ie,z3]
theorem Rn (hΦ:SpB e Φ dep){rc:Rc}{s4 s5 s6 s7:Sl}(hr:Lq rc (dep+1)):
  ∀(ls:List D) (a r:Nat) (N:Nd) (m:Int×Int) (ζ:List D) (s9:Sl),qm N m->N.1.length<=a->a+r+ls.length<=64->ζ.length+ls.length<=100->
  ∃(L:List (D×Gm)) (a' r':Nat) (N':Nd) (m':Int×Int) (t9:Sl),(∀A:Addr×Addr,aL (hName 9) (iZ Φ) ls (bm e A a r N m rc (dep+1:Nat) s4 s5 s6 s7 (.ow<|.lst ζ) s9)=.ok (.nx,bm e A a' r' N' m' rc (dep+1:Nat) s4 s5 s6 s7 (.ow<|.lst<|ζ++L.map Qq) t9))/\
   qm N' m'/\Sub N N'/\N'.1.length<=a'/\r'+szL L=r+ls.length/\a'+r'=a+r+ls.length/\L.map (·.1)=ls/\∀p∈L,Grw e N' rc p.2 dep
 |[],a,r,N,m,ζ,s9,I,hN,har,hw=>⟨[],a,r,N,m,s9,λA=>by simp[aL],I,Sub.refl N,hN,by simp[szL],by simp,rfl,λ_ z=>by cases z⟩
 |l::ls,a,r,N,m,ζ,s9,I,hN,har,hw=>by
  have har':a+r+(ls.length+1)<=64:=har;have hw':ζ.length+(ls.length+1)<=100:=hw;refine K6 (dl_step hΦ (a:=a) (r:=r) (s4:=s4) (s5:=s5) (s6:=s6) (s7:=s7) (l:=l) I hN (by lia) hr (by lia:ζ.length<=100)) λg a1 r1 N1 m1 e1 i1 i2 i3 i4 i5 i6=>?_;obtain⟨L,a',r',N',m',u9,e2,j1,j2,j3,j4,j5,j6,j7⟩:=Rn hΦ (s4:=s4) (s5:=s5) (s6:=s6) (s7:=s7) hr ls a1 r1 N1 m1 (ζ++[.tup [l,dG g]]) (.fz l) i1 i3 (by lia) (by simp;lia);refine⟨(l,g)::L,a',r',N',m',u9,λA=>?_,j1,i2.trans j2,j3,?_,by simp;lia,by rw[ah,j6],λp hp=>?_⟩
  ·rw[aW (m1:=bm e A a r N m rc (dep+1:Nat) s4 s5 s6 s7 (.ow<|.lst ζ)<|.fz l) rfl<|e1 A,e2 A,eD];rfl
  ·show r'+(szG g+szL L)=r+(ls.length+1)
   lia
  ·rcases aE.mp hp with q|q
   ·rw[q];exact i6.mono j2
   ·exact j7 p q
theorem Vj (E:pO e):∃v:Int,atI (e.cells.map D.int) (-1)=some (.int v):=by
 have h:=E.c1;have hne:e.cells≠[]:=λz=>by rw[z] at h;simp at h
 refine⟨e.cells.getLast hne,?_⟩
 have:=Wx (e.cells.dropLast.map D.int)<|D.int<|e.cells.getLast hne
 rwa [← List.map_singleton,← bX,List.dropLast_concat_getLast hne] at this
theorem Lb {e:En}(h:i<e.cells.length):∃v:Int,atI (e.cells.map D.int) (i:Int)=some (.int v):=by
 refine⟨e.cells[i],jN ?_⟩;rw[bt,ax h];rfl
theorem Xx {e:En}{i:Int}(h0:0<=i)(h:i<e.cells.length):∃v:Int,atI (e.cells.map D.int) i=some (.int v):=by
 obtain⟨v,hv⟩:=Lb (e:=e) (i:=i.toNat) (by lia);exact⟨v,by rwa [show((i.toNat:Nat):Int)=i by lia] at hv⟩
section
variable {e:En}{A:Addr×Addr}{a r dep:Nat}{N:Nd}{m:Int×Int}{rc:Rc}
theorem bs1 (k:Zab):aA (aK 4<|ak bu (aj 1)<|fC<|.str "at") k (bm e A a r N m rc dep .un .un .un .un .un .un)=k (bm e A a r N m rc dep (.fz<|.int a) .un .un .un .un .un):=by rfl
theorem bs2 (k:Zab):aA (dB 1 (fC<|.str "at")<|ak bc (aj 4)<|fC<|.int 1) k (bm e A a r N m rc dep (.fz<|.int a) .un .un .un .un .un)=k (bm e A (a+1:Nat) r N m rc dep (.fz<|.int a) .un .un .un .un .un):=by rfl
theorem bs3 (E:pO e)(ha:a<=64)(h:e.cells.length<=a):∃q:Rat,smQ (rq q)/\∀(A:Addr×Addr) k,aA (gIf (aB gGe (aj 4)<|aF cu<|aa (aj 0) ao) (aU<|aN<|aa (fC<|.str "end")<|aa (fFn bM<|aa (fFn bF<|aa (ak bc (ak gIx (aj 0)<|fUn qj<|fC<|.int 1)<|ak dO (aj 4)<|aj 4)<|aa (au 4) ao) ao) ao) gNx) k (bm e A (a+1:Nat) r N m rc dep (.fz<|.int a) .un .un .un .un .un)=.ok (.rt false<|dG<|.fin<|rq q,bm e A (a+1:Nat) r N m rc dep (.fz<|.int a) .un .un .un .un .un):=by
 obtain⟨v,hv⟩:=Vj E;obtain⟨x,ex,hx⟩:=yd (v+(a:Int)*a) a (by lia);obtain⟨q,eq,hq⟩:=Gu (x:=x) ⟨hx.1,by have:=hx.2;lia⟩;refine⟨q,hq,λA k=>QL ?_⟩;have ba:Bq (a:Int):=bgS (by lia);have hge:(a:Int)≥(e.cells.length:Int):=by lia
 have en:-(1:Int)=-1:=rfl;show _=Res.ok (Fl.rt false<|.tup [.str "end",rD q],_);simp only[bm];generalize stD e A ((a+1:Nat):Int) (r:Int)=ST;generalize bM=FS at *;generalize bF=FM at *;simp[cD,gIf,aB,aj,aF,cu,aa,ao,gGe,hge,aU,Me.let,Sl.let,aN,fC,fFn,ak,fUn,qj,gIx,hv,dO,ba,bc,au,ex,eq]
theorem aeN (k:Zab){X:Zab}(h:a<e.cells.length):aA (gIf (aB gGe (aj 4)<|aF cu<|aa (aj 0) ao) X gNx) k (bm e A (a+1:Nat) r N m rc dep (.fz<|.int a) .un .un .un .un .un)=k (bm e A (a+1:Nat) r N m rc dep (.fz<|.int a) .un .un .un .un .un):=gs (by
 have hge:¬(a:Int)≥(e.cells.length:Int):=by lia
 simp only[bm];generalize stD e A ((a+1:Nat):Int) (r:Int)=ST;simp[cD,gIf,aB,aj,aF,cu,aa,ao,gGe,hge,gNx])
theorem bs4 (h:a<e.cells.length)(ha:a<=64):∃x,sm x/\∀(A:Addr×Addr) k,aA (aK 5<|fFn bF<|aa (ak gIx (aj 0)<|aj 4)<|aa (au 4) ao) k (bm e A (a+1:Nat) r N m rc dep (.fz<|.int a) .un .un .un .un .un)=k (bm e A (a+1:Nat) r N m rc dep (.fz<|.int a) (.fz<|.int x) .un .un .un .un):=by
 obtain⟨v,hv⟩:=Lb h;obtain⟨x,ex,hx⟩:=yd v a (by lia);refine⟨x,hx,λA k=>gs ?_⟩;simp only[bm];generalize stD e A ((a+1:Nat):Int) (r:Int)=ST;generalize bF=FM at *;simp[cD,aK,fFn,aa,ao,ak,gIx,aj,au,hv,ex]
theorem bs5 (k:Zab){x:Int}:aA (aK 6<|au 5) k (bm e A (a+1:Nat) r N m rc dep (.fz<|.int a) (.fz<|.int x) .un .un .un .un)=k (bm e A (a+1:Nat) r N m rc dep (.fz<|.int a) (.fz<|.int x) (.fz<|.int x) .un .un .un):=gs rfl
theorem bs6 (E:pO e)(hd:dep<=12){x:Int}(hx:sm x):∃y:Int,(0<=y/\y<=9000000000)/\∀(A:Addr×Addr) k,aA (gIf (fTv<|ak bu (aj 1)<|fC<|.str "level") (aK 6<|ak bc (ak cO (aj 5)<|ak aY (aj 5)<|fC<|.int 48)<|ak aY (fFn bF<|aa (ak gIx (aj 0)<|ak aY (aj 2)<|aF cu<|aa (aj 0) ao)<|aa (au 2) ao)<|fC<|.int 48) gNx) k (bm e A (a+1:Nat) r N m rc dep (.fz<|.int a) (.fz<|.int x) (.fz<|.int x) .un .un .un)=k (bm e A (a+1:Nat) r N m rc dep (.fz<|.int a) (.fz<|.int x) (.fz<|.int y) .un .un .un):=by
 have gl:=λA:Addr×Addr=>YZ e A ((a+1:Nat):Int) r;cases hl:e.lev with
 |false=>
  rw[hl] at gl;refine⟨x,⟨hx.1,by have:=hx.2;lia⟩,λA k=>gs ?_⟩
  replace gl:=gl A
  simp only[bm];generalize stD e A ((a+1:Nat):Int) (r:Int)=ST at *;simp[gIf,fTv,ak,aj,fC,gl,gNx]
 |true=>
  rw[hl] at gl;have hc:=E.c1;have hpos:(0:Int)<(e.cells.length:Int):=by lia
  obtain⟨v,hv⟩:=Xx (e:=e) (i:=(dep:Int)%(e.cells.length:Int)) (kU _<|by lia)<|i9 _ hpos;obtain⟨y,ey,hy⟩:=yd v dep (by lia);have hne:(e.cells.length:Int)≠0:=by lia
  have hne2:e.cells.length≠0:=by lia
  have hne3:e.cells≠[]:=λz=>by rw[z] at hc;simp at hc
  have hc':0<e.cells.length:=by lia
  refine⟨x-x%48+y%48,⟨by have:=hx.1;lia,by have:=hx.2;lia⟩,λA k=>gs ?_⟩
  replace gl:=gl A
  simp only[bm];generalize stD e A ((a+1:Nat):Int) (r:Int)=ST at *;generalize bF=FM at *;simp[cD,gIf,fTv,ak,aj,fC,gl,aK,aY,mdI,bc,F.cO,fFn,aa,ao,gIx,aF,cu,hne,hne2,hne3,hpos,hc',hv,au,ey]
end
section
variable {e:En}{A:Addr×Addr}{a r dep:Nat}{N:Nd}{m:Int×Int}{rc:Rc}{x y:Int}
abbrev BR:Zaf:=(ql (aB gEq (aj 2)<|fC<|.int 0)<|ql (aB gLt (ak bu (aj 1)<|fC<|.str "room")<|fC<|.int 3)<|pA (aB gEq (ak aY (aj 6)<|fC<|.int 8)<|fC<|.int 0)<|aB gGt (aj 4)<|fC<|.int 0)
theorem c7:BR (bm e A (a+1:Nat) r N m rc dep (.fz<|.int a) (.fz<|.int x) (.fz<|.int y) .un .un .un)=.ok (decide<|dep=0\/r<3\/(y%8=0/\0<a)):=by
 have gr:=Kd e A ((a+1:Nat):Int) r;simp only[bm];generalize stD e A ((a+1:Nat):Int) (r:Int)=ST at *;by_cases h1:dep=0
 ·simp[BR,ql,aB,aj,fC,h1]
 ·have h1':¬(dep:Int)=0:=by lia
  by_cases h2:r<3
  ·have h2':(r:Int)<3:=by lia
   simp[BR,ql,aB,aj,fC,h1,h1',ak,gr,gLt,h2,h2']
  ·have h2':¬(r:Int)<3:=by lia
   by_cases h3:y%8=0
   ·have h3':y.emod 8=0:=h3;by_cases h4:0<a
    ·have h4':(a:Int)>0:=by lia
     simp[BR,ql,pA,aB,aj,fC,h1,h1',ak,gr,gLt,h2,h2',aY,mdI,h3,gGt,h4,h4']
    ·have h4':¬(a:Int)>0:=by lia
     simp[BR,ql,pA,aB,aj,fC,h1,h1',ak,gr,gLt,h2,h2',aY,mdI,h3,gGt,h4,h4']
   ·simp[BR,ql,pA,aB,aj,fC,h1,h1',ak,gr,gLt,h2,h2',aY,mdI,h3]
theorem bs7 (hx:sm x)(h:dep=0\/r<3\/(y%8=0/\0<a)):∃q:Rat,smQ (rq q)/\∀(A:Addr×Addr) k,aA (gIf BR (aU<|aN<|aa (fC<|.str "end")<|aa (fFn bM<|aa (au 5) ao) ao) gNx) k (bm e A (a+1:Nat) r N m rc dep (.fz<|.int a) (.fz<|.int x) (.fz<|.int y) .un .un .un)=.ok (.rt false<|dG<|.fin<|rq q,bm e A (a+1:Nat) r N m rc dep (.fz<|.int a) (.fz<|.int x) (.fz<|.int y) .un .un .un):=by
 obtain⟨q,eq,hq⟩:=Gu (x:=x) ⟨hx.1,by have:=hx.2;lia⟩;refine⟨q,hq,λA k=>QL ?_⟩;have c:=c7 (e:=e) (A:=A) (a:=a) (r:=r) (dep:=dep) (N:=N) (m:=m) (rc:=rc) (x:=x) (y:=y);rw[decide_eq_true h] at c;unfold gIf;rw[c];show aU _ _=Res.ok (Fl.rt false<|.tup [.str "end",rD q],_);simp only[bm];generalize stD e A ((a+1:Nat):Int) (r:Int)=ST;generalize bM=FS at *;simp[aU,Me.let,Sl.let,aN,aa,ao,fC,fFn,au,eq]
theorem afi (k:Zab){X:Zab}(h:¬(dep=0\/r<3\/(y%8=0/\0<a))):aA (gIf BR X gNx) k (bm e A (a+1:Nat) r N m rc dep (.fz<|.int a) (.fz<|.int x) (.fz<|.int y) .un .un .un)=k (bm e A (a+1:Nat) r N m rc dep (.fz<|.int a) (.fz<|.int x) (.fz<|.int y) .un .un .un):=gs (by
 have c:=c7 (e:=e) (A:=A) (a:=a) (r:=r) (dep:=dep) (N:=N) (m:=m) (rc:=rc) (x:=x) (y:=y);rw[decide_eq_false h] at c;unfold gIf;rw[c];rfl)
theorem bs8 (h:y%8>2){Ψ:Bf}{d:D}{a' r':Nat}{N':Nd}{m':Int×Int}(eΨ:Ψ [cD e,.int (dep:Int),rcD rc,.int y] (stD e A (a+1:Nat) r) (A.1,nD N) (A.2,mD m)=.ok (d,stD e A a' r',nD N',mD m'))(k:Zab):
  aA (gIf (aB gGt (ak aY (aj 6)<|fC<|.int 8)<|fC<|.int 2) (xW<|xV Ψ 1 1 10 11<|aa (au 0)<|aa (au 2)<|aa (au 3)<|aa (au 6) ao) gNx) k (bm e A (a+1:Nat) r N m rc dep (.fz<|.int a) (.fz<|.int x) (.fz<|.int y) .un .un .un)=.ok (.rt false d,bm e A a' r' N' m' rc dep (.fz<|.int a) (.fz<|.int x) (.fz<|.int y) .un .un .un):=QL (by
 simp only[bm];generalize stD e A ((a+1:Nat):Int) (r:Int)=ST at *;generalize stD e A (a':Int) (r':Int)=ST' at *;generalize cD e=C at *;generalize nD N=NN at *;generalize nD N'=NN' at *;generalize mD m=MM at *;generalize mD m'=MM' at *;generalize rcD rc=RC at *;simp[gIf,aB,ak,aj,fC,aY,mdI,gGt,h,xW,xV,Kz,zT,aa,ao,au,eΨ,Cv])
theorem ag5 (h:¬y%8>2){X:Zab}(k:Zab):
  aA (gIf (aB gGt (ak aY (aj 6)<|fC<|.int 8)<|fC<|.int 2) X gNx) k (bm e A (a+1:Nat) r N m rc dep (.fz<|.int a) (.fz<|.int x) (.fz<|.int y) .un .un .un)=k (bm e A (a+1:Nat) r N m rc dep (.fz<|.int a) (.fz<|.int x) (.fz<|.int y) .un .un .un):=gs (by
 simp only[bm];generalize stD e A ((a+1:Nat):Int) (r:Int)=ST at *;simp[gIf,aB,ak,aj,fC,aY,mdI,gGt,h,gNx])
theorem bs9 {c:Int}(hc:c=1+y/16%3)(k:Zab):aA (aK 7<|ak bc (fC<|.int 1)<|ak aY (ak cV (aj 6)<|fC<|.int 16)<|fC<|.int 3) k (bm e A (a+1:Nat) r N m rc dep (.fz<|.int a) (.fz<|.int x) (.fz<|.int y) .un .un .un)=k (bm e A (a+1:Nat) r N m rc dep (.fz<|.int a) (.fz<|.int x) (.fz<|.int y) (.fz<|.int c) .un .un):=gs (by
 have b16:Bq 16:=bgS (by decide);simp only[bm];generalize stD e A ((a+1:Nat):Int) (r:Int)=ST at *;simp[aK,ak,aj,fC,aY,mdI,bc,cV,dvI,b16,hc])
theorem ahy {c:Int}{r1:Nat}(hr:(r:Int)-c=r1)(k:Zab):aA (dB 1 (fC<|.str "room")<|ak cO (ak bu (aj 1)<|fC<|.str "room")<|aj 7) k (bm e A (a+1:Nat) r N m rc dep (.fz<|.int a) (.fz<|.int x) (.fz<|.int y) (.fz<|.int c) .un .un)=k (bm e A (a+1:Nat) r1 N m rc dep (.fz<|.int a) (.fz<|.int x) (.fz<|.int y) (.fz<|.int c) .un .un):=gs (by
 have gr:=Kd e A ((a+1:Nat):Int) r
 have:=Lf (e:=e) (A:=A) (a:=((a+1:Nat):Int)) (r:=r) (r':=(r1:Int)) (fk:=fC<|.str "room") (fv:=ak cO (ak bu (aj 1)<|fC<|.str "room")<|aj 7) (i:=1) (m:=bm e A (a+1:Nat) r N m rc dep (.fz<|.int a) (.fz<|.int x) (.fz<|.int y) (.fz<|.int c) .un .un) rfl rfl (by simp only[bm];generalize stD e A ((a+1:Nat):Int) (r:Int)=ST at *;simp[ak,aj,fC,gr,F.cO,hr])
 exact this)
theorem ahH {c:Int}(k:Zab):aA (cC 8<|cP ao) k (bm e A (a+1:Nat) r N m rc dep (.fz<|.int a) (.fz<|.int x) (.fz<|.int y) (.fz<|.int c) .un .un)=k (bm e A (a+1:Nat) r N m rc dep (.fz<|.int a) (.fz<|.int x) (.fz<|.int y) (.fz<|.int c) (.ow<|.lst []) .un):=gs rfl
theorem ahE (E:pO e){ws:List D}{s4 s6 s7 s9:Sl}(hw:ws.length<=100):aU (aN<|aa (fC<|.str "deal")<|aa (ak gIx (ak bu (aj 1)<|fC<|.str "pool")<|ak aY (ak cV (aj 5)<|fC<|.int 48)<|fC<|.int 8)<|aa (aF cH<|aa (aj 8) ao) ao) (bm e A a r N m rc dep s4 (.fz<|.int y) s6 s7 (.ow<|.lst ws) s9)=.ok (.rt false<|.tup [.str "deal",.str<|e.pool.getD (y/48%8).toNat ⟨#[]⟩,.tup ws],Me.let<|bm e A a r N m rc dep s4 (.fz<|.int y) s6 s7 (.ow<|.lst ws) s9):=by
 have gp:=Ti e A a r;have pa:=Kf E (i:=y/48%8) (by lia);have b48:Bq 48:=bgS (by decide);have z1:ws.length<=16777216:=by lia
 generalize e.pool.getD (y/48%8).toNat ⟨#[]⟩=Z at *;simp only[bm];generalize stD e A (a:Int) (r:Int)=ST at *;simp[aU,Me.let,Sl.let,aN,aa,ao,fC,ak,aj,gp,gIx,aY,mdI,cV,dvI,b48,pa,aF,cH,z1]
end
theorem Ab {e:En}{A:Addr×Addr}{a r:Int}{N:Nd}{m:Int×Int}{rc:Rc}{dep:Int}{s4 s5 s6 s7 s8 s9:Sl}:uQ (bm e A a r N m rc dep s4 s5 s6 s7 s8 s9) 1=some (stD e A a r)/\mR (bm e A a r N m rc dep s4 s5 s6 s7 s8 s9) (12-2) A.1=some (nD N)/\mR (bm e A a r N m rc dep s4 s5 s6 s7 s8 s9) (12-1) A.2=some (mD m):=⟨rfl,by simp[bm,mR],by simp[bm,mR]⟩
theorem KY {e:En}{A:Addr×Addr}{a r:Int}{N:Nd}{m:Int×Int}{rc:Rc}{dep:Int}{s4 s5 s6 s7 s8 s9:Sl}:uQ (Me.let<|bm e A a r N m rc dep s4 s5 s6 s7 s8 s9) 1=some (stD e A a r)/\mR (Me.let<|bm e A a r N m rc dep s4 s5 s6 s7 s8 s9) (12-2) A.1=some (nD N)/\mR (Me.let<|bm e A a r N m rc dep s4 s5 s6 s7 s8 s9) (12-1) A.2=some (mD m):=⟨rfl,by simp[bm,mR,Me.let,Sl.let],by simp[bm,mR,Me.let,Sl.let]⟩
theorem aag {FS:Zac}{B:Zab}{e:En}{A:Addr×Addr}{a r:Int}{N:Nd}{m:Int×Int}{rc:Rc}{dep:Int}{s4 s6 s8 s9:Sl}{x c:D}{ls:List D}{R:Res (Fl×Me)}(h:FS [x,c]=.ok (true,.lst ls))(k:aL (hName 9) B ls (bm e A a r N m rc dep s4 (.fz x) s6 (.fz c) s8 s9)=R):
  cz (cg<|fFn FS<|aa (au 5)<|aa (au 7) ao) (hName 9) B (bm e A a r N m rc dep s4 (.fz x) s6 (.fz c) s8 s9)=R:=by
 have e1:cg (fFn FS<|aa (au 5)<|aa (au 7) ao) (bm e A a r N m rc dep s4 (.fz x) s6 (.fz c) s8 s9)=.ok ls:=by
  simp only[bm];generalize stD e A a r=ST;simp[cg,fFn,aa,ao,au,h]
 unfold cz;rw[e1];exact k
theorem Pj (n:Nat):aQ (n+1)=F.runST 1 12 4 (dD bM bF (aQ n)<|dZ<|aQ n):=by rw[aQ]
theorem Ql {e:En}(E:pO e){n dep:Nat}(hd:dep<=12)(ih:∀d,d+1=dep->SpB e (aQ n) d):SpB e (aQ<|n+1) dep:=by
 rw[Pj];intro a r N m rc I hN har hr;have start:∀A:Addr×Addr,ni 1 (.io<|stD e A a r) ([cD e,.int (dep:Int),rcD rc].map Sl.fz)++(dA (12-4-2) Sl.un++[.hd false (A.1,nD N).1 (A.1,nD N).2,.hd false (A.2,mD m).1 (A.2,mD m).2])=bm e A a r N m rc dep .un .un .un .un .un .un:=λ_=>rfl;have fin:∀(q:Rat) (s4 s5 s6 s7 s8 s9:Sl),smQ (rq q)->(∀A:Addr×Addr,(dD bM bF (aQ n)<|dZ<|aQ n) (bm e A a r N m rc dep .un .un .un .un .un .un)=.ok (.rt false<|dG<|.fin<|rq q,bm e A (a+1:Nat) r N m rc dep s4 s5 s6 s7 s8 s9))->Gives e (λA=>F.runST 1 12 4 (dD bM bF (aQ n)<|dZ<|aQ n) [cD e,.int (dep:Int),rcD rc] (stD e A a r) (A.1,nD N) (A.2,mD m)) a r N rc dep:=λq s4 s5 s6 s7 s8 s9 hq eq=>
  ⟨.fin<|rq q,a+1,r,N,m,λA=>Gk rfl (start A) (eq A) Ab.1 Ab.2.1 Ab.2.2,I,Sub.refl N,by lia,rfl,by lia,Q9 hq⟩
 by_cases h1:e.cells.length<=a
 ·obtain⟨q,hq,eq⟩:=bs3 (r:=r) (N:=N) (m:=m) (rc:=rc) (dep:=dep) E (by lia) h1;refine fin q (.fz<|.int a) .un .un .un .un .un hq λA=>?_;unfold dD;rw[bs1,bs2,eq]
 have h1:a<e.cells.length:=by lia
 obtain⟨x,hx,e4⟩:=bs4 (r:=r) (N:=N) (m:=m) (rc:=rc) (dep:=dep) h1 (by lia);obtain⟨y,hy,e6⟩:=bs6 (a:=a) (r:=r) (N:=N) (m:=m) (rc:=rc) E hd hx;by_cases h7:dep=0\/r<3\/(y%8=0/\0<a)
 ·obtain⟨q,hq,eq⟩:=bs7 (e:=e) (N:=N) (m:=m) (rc:=rc) hx h7;refine fin q (.fz<|.int a) (.fz<|.int x) (.fz<|.int y) .un .un .un hq λA=>?_;unfold dD;rw[bs1,bs2,aeN _ h1,e4,bs5,e6,eq]
 obtain⟨dep,rfl⟩:∃d,dep=d+1:=⟨dep-1,by lia⟩;have hΦ:=ih dep rfl;by_cases h8:y%8>2
 ·refine K6 (aaT E hΦ (a:=a+1) (r:=r) (draw:=y) I (by lia) (by lia) (by lia) hr hy) λg a' r' N' m' em j1 j2 j3 j4 j5 j6=>?_;refine⟨g,a',r',N',m',λA=>Gk (fr:=false) (m':=bm e A a' r' N' m' rc ((dep+1:Nat):Int) (.fz<|.int a) (.fz<|.int x) (.fz<|.int y) .un .un .un) rfl (start A) ?_ Ab.1 Ab.2.1 Ab.2.2,j1,j2,j3,j4,by lia,j6⟩;unfold dD;rw[bs1,bs2,aeN _ h1,e4,bs5,e6,afi _ h7,bs8 h8<|em A]
 obtain⟨cN,hcN⟩:∃cN:Nat,(cN:Int)=1+y/16%3:=⟨(1+y/16%3).toNat,by lia⟩;refine iy (Qp (x:=x) (c:=cN) hx<|by lia) λl el hl hl2 hl3=>?_;obtain⟨L,a',r',N',m',t9,eL,j1,j2,j3,j4,j5,j6,j7⟩:=Rn hΦ (rc:=rc) (s4:=.fz<|.int a) (s5:=.fz<|.int x) (s6:=.fz<|.int y) (s7:=.fz<|.int (cN:Int)) hr (l.map rD) (a+1) (r-cN) N m [] .un I (by lia) (by simp;lia) (by simp;lia);rw[cm,hl2] at j4 j5;have hL:L.length=cN:=by
  have:=congrArg si j6
  simpa[hl2] using this
 have eL2:∀A:Addr×Addr,dZ (aQ n) (bm e A (a+1:Nat) (r-cN:Nat) N m rc ((dep+1:Nat):Int) (.fz<|.int a) (.fz<|.int x) (.fz<|.int y) (.fz<|.int (cN:Int)) (.ow<|.lst []) .un)=.ok (.nx,bm e A a' r' N' m' rc ((dep+1:Nat):Int) (.fz<|.int a) (.fz<|.int x) (.fz<|.int y) (.fz<|.int (cN:Int)) (.ow<|.lst<|L.map Qq) t9):=λA=>by
  unfold dZ;exact aag el<|eL A
 refine⟨.deal (e.pool.getD (x/48%8).toNat ⟨#[]⟩)<|ofL L,a',r',N',m',λA=>Gk (fr:=false) (m':=Me.let<|bm e A a' r' N' m' rc ((dep+1:Nat):Int) (.fz<|.int a) (.fz<|.int x) (.fz<|.int y) (.fz<|.int (cN:Int)) (.ow<|.lst<|L.map Qq) t9) rfl (start A) ?_ KY.1 KY.2.1 KY.2.2,j1,j2,j3,?_,by lia,Wi (by lia) j7 ?_ ?_⟩
 ·unfold dD;rw[bs1,bs2,aeN _ h1,e4,bs5,e6,afi _ h7,ag5 h8,bs9 hcN,ahy (r1:=r-cN) (by lia),ahH,gs<|eL2 A,ahE E (by simp;lia)];show _=Res.ok (Fl.rt false<|D.tup [_,_,.tup<|dWs<|ofL L],_);rw[Qk];rfl
 ·show r'+(szW (ofL L)+1)=r+1;rw[O3];lia
 ·exact⟨l,by rw[JX,j6],hl,by lia,hl3⟩
 ·have hlt:(x/48%8).toNat<e.pool.length:=by rw[E.p8];lia
  rw[bo,ax hlt];exact xp hlt
theorem K8 {e:En}(E:pO e):∀(n dep:Nat),dep+1<=n->dep<=12->SpB e (aQ n) dep
 |0,dep,h,_=>by lia
 |n+1,dep,h,hd=>Ql E hd λd hd'=>K8 E n d (by lia)<|by lia
theorem getD_inj {l:List Str}(nd:l.Nodup){i j:Nat}{d:Str}(hi:i<l.length)(hj:j<l.length)(h:l.getD i d=l.getD j d):i=j:=by
 rw[bo,bo,ax hi,ax hj] at h;have h:l[i]=l[j]:=h;rcases Nat.lt_trichotomy i j with q|q|q
 ·exact absurd h<|(tJ.mp nd) i j hi hj q
 ·exact q
 ·exact absurd h.symm<|(tJ.mp nd) j i hj hi q
theorem ZV {e:En}(E:pO e)(nd:e.pool.Nodup){N:Nd}{m:Int×Int}(I:qm N m){s:Int}{nm:Str}{d d':D}(hs:s=1\/s=2)(h:Row e N s nm d)(h':Row e N s nm d'):d=d':=by
 obtain⟨rc,c,b,n,h1,h2,h3,h4,h5,h6,h7,rfl⟩:=h;obtain⟨rc',c',b',n',k1,k2,k3,k4,k5,k6,k7,rfl⟩:=h';have hn:nameAt e n=nameAt e n':=by rw[← h7,← k7]
 have p8:=E.p8
 have:=getD_inj nd (by rw[p8];lia) (by rw[p8];lia) hn
 have t0:=E.t0;have e1:n=n':=by lia
 subst e1;obtain⟨q1,q2⟩:=I.inj s rc c b rc' c' b' _ hs h1 k1 h3 k3;have q2:c=c':=by lia
 subst q1 q2;rfl
theorem Gs (E:pO e)(n:Int):∀l:List Nat,uG (l.map λ(k:Nat)=>D.str<|wordAt e n k)=true/\qY (l.map λ(k:Nat)=>D.str<|wordAt e n k)=0
 |[]=>⟨rfl,rfl⟩
 |k::l=>by
  obtain⟨h1,h2⟩:=Gs E n l;have hw:hU (wordAt e n k)=true:=CW E _ (by have:=E.t0;lia);exact⟨by simp[uG,okD,hw,h1],by simp[qY,wK,h2]⟩
theorem Xa:∀{rc:List D},Pr rc->qY rc<=1
 |[],_=>f6 _
 |d::rc,h=>by
  obtain⟨a,b,rfl⟩:=h d af
  have:=Xa λx hx=>h x<|ae _ hx
  simp[qY,wK]
  lia
theorem aaD (E:pO e)(n:Int):hU (nameAt e n)=true:=CW E _ (by have:=E.t0;lia)
theorem aeP (E:pO e){N:Nd}{s:Int}{nm:Str}{d:D}(h:Row e N s nm d):okR d:=by
 obtain⟨rc,c,b,n,h1,h2,h3,h4,h5,h6,rfl,rfl⟩:=h;obtain⟨w1,w2⟩:=Gs E n<|bp c;have hp:=Xa h1;have hn:=aaD E n;refine⟨by simp[okD,uG,hn,w1,h2],?_⟩;simp only[wK,qY,w2]
 lia
mutual
theorem Tp:∀(w:List Int) (r:Rc) (g:Gm),jm g->∀p∈prG w r g,jm p.2.1
 |w,r,.fin d,h,p,hp=>by
  have:p=(w,.fin d,r):=by simpa[prG] using hp
  rw[this];exact h
 |w,r,.deal n ws,h,p,hp=>by
  rcases aE.mp (show p∈(w,Gm.deal n ws,r)::prW w (λ_=>r) 0 ws from hp) with e|e
  ·rw[e];exact h
  ·exact JZ w _ 0 ws h.2 p e
 |w,r,.move s n ws,h,p,hp=>by
  rcases aE.mp (show p∈(w,Gm.move s n ws,r)::prW w (rbm s n r) 0 ws from hp) with e|e
  ·rw[e];exact h
  ·exact JZ w _ 0 ws h.2 p e
theorem JZ:∀(w:List Int) (f:D->Rc) (i:Nat) (ws:Ws),Bw ws->∀p∈prW w f i ws,jm p.2.1
 |w,f,i,.nil,_,p,hp=>by cases hp
 |w,f,i,.cons l g r,h,p,hp=>by
  rcases cq.mp (show p∈prG (w++[(i:Int)]) (f l) g++prW w f (i+1) r from hp) with e|e
  ·exact Tp _ _ g h.1 p e
  ·exact JZ w f (i+1) r h.2 p e
end
noncomputable def nmD:D->Str
 | .tup [_,.str n,_,_]=>n
 |_=>⟨#[]⟩
def kOf (d:D):List Kt:=kn (sdD d)<|nmD d
def TI (T:Tb):Prop:=T.1=T.2.map kOf/\T.1.Nodup
theorem abN (h:TI T)(p:Tr):TI (tst T p):=by
 unfold tst;split
 ·rename_i s n ws ep;split
  ·exact h
  ·rename_i q;have hl:T.1.length=T.2.length:=by rw[h.1];simp
   have hn:kn s n∉T.1:=λhk=>by
    have:∀{ks:List (List Kt)} {ds:List D},ks.length=ds.length->kn s n∈ks->(bJ ks ds<|kn s n).isSome=true:=by
     intro ks;induction ks with
     |nil=>intro ds _ h;cases h
     |cons a ks ih=>
      intro ds hl h;cases ds with
      |nil=>simp at hl
      |cons x ds=>
       unfold bJ;by_cases qa:a=kn s n
       ·rw[if_pos qa];rfl
       ·rw[if_neg qa];rcases aE.mp h with e|e
        ·exact absurd e.symm qa
        ·exact ih (by simpa using hl) e
    exact q<|this hl hk
   refine⟨?_,?_⟩
   ·show T.1++[kn s n]=(T.2++[dU s n ws p.2.2]).map kOf;rw[bX,← h.1];rfl
   ·show(T.1++[kn s n]).Nodup;rw[ka];exact⟨h.2,by simp,λa ha b hb=>by rw[bg.mp hb];exact λz=>hn<|z▸ha⟩
 ·exact h
theorem CJ:∀(l:List Tr) (T:Tb),TI T->TI (l.foldl tst T)
 |[],T,h=>h
 |p::l,T,h=>CJ l (tst T p)<|abN h p
theorem sub_len:∀{l p:List Str},l.Nodup->(∀x∈l,x∈p)->l.length<=p.length
 |[],p,_,_=>f6 _
 |a::l,p,nd,h=>by
  have ha:=h a af;have nd':=hC.mp nd
  have:=sub_len (l:=l) (p:=p.erase a) nd'.2 λx hx=>(List.mem_erase_of_ne λ(z:x=a)=>nd'.1 (by rw[← z];exact hx)).mpr<|h x<|ae _ hx
  rw[List.length_erase_of_mem ha] at this
  have:0<p.length:=List.length_pos_of_mem ha
  simp only[cw]
  lia
theorem name_mem (E:pO e)(n:Int):nameAt e n∈e.pool:=by grind[E.p8,bo,ax,nameAt]
theorem Dz (G:Grw e N rc g dep){d:D}(h:d∈(tbl<|prG [] rc g).2):∃s n,(s=1\/s=2)/\Row e N s n d:=by
 rcases yF (prG [] rc g) ([],[]) d h with z|⟨p,hp,s,n,ws,ep,rfl⟩
 ·cases z
 ·have h1:=G.pl [] p hp;have h2:=HH [] rc g G.len G.sd p hp;obtain⟨w,q,r⟩:=p;have ep:q=.move s n ws:=ep;subst ep;exact⟨s,n,h2.1,h1⟩
theorem aee (h:Row e N s n d):wdD d<=3:=by
 obtain⟨rc',c,b,k,_,_,_,_,_,h6,_,rfl⟩:=h;simpa[wdD] using h6.2
theorem Xo (E:pO e){N:Nd}{g:Gm}{rc:Rc}{dep:Nat}(G:Grw e N rc g dep)(s:Int):okT (tbl<|prG [] rc g).2 s:=by
 have T:=CJ (prG [] rc g) ([],[]) ⟨rfl,qf⟩;generalize hT:(tbl<|prG [] rc g).2=R at *;have hrow:∀d∈R,∃s n,(s=1\/s=2)/\Row e N s n d:=λd hd=>Dz G (by rw[hT];exact hd);have hR:((prG [] rc g).foldl tst ([],[])).2=R:=hT;obtain⟨t1,t2⟩:=T;rw[hR] at t1;rw[t1] at t2;have nd:(R.filter λd=>decide<|sdD d=s).Pairwise λa b=>kOf a≠kOf b:=by
  have:=(gS.mp t2)
  exact this.sublist List.filter_sublist
 have nd2:((R.filter λd=>decide<|sdD d=s).map nmD).Nodup:=by
  refine gS.mpr<|nd.imp_of_mem λ{a b} ha hb h z=>h ?_;have h1:sdD a=s:=by simpa using(fq.mp ha).2
  have h2:sdD b=s:=by simpa using(fq.mp hb).2
  unfold kOf;rw[h1,h2,z]
 have sub:∀x∈(R.filter λd=>decide<|sdD d=s).map nmD,x∈e.pool:=λx hx=>by
  obtain⟨d,hd,rfl⟩:=aw.mp hx;obtain⟨_,n,_,rc',c,b,k,_,_,_,_,_,_,rfl,rfl⟩:=hrow d (fq.mp hd).1;exact name_mem E k
 have hl:=sub_len nd2 sub;rw[cm,E.p8] at hl;have hw:∀l:List D,(∀d∈l,∃s n,(s=1\/s=2)/\Row e N s n d)->(l.map λd=>(wdD d:Int)).sum<=3*l.length:=by
  intro l;induction l with
  |nil=>intro _;simp
  |cons d l ih=>
   intro h
   have:=ih λx hx=>h x<|ae _ hx
   obtain⟨_,n,_,hr⟩:=h d af;have h3:=aee hr;simp only[ah,cb,cw]
   lia
 exact⟨hl,Int.le_trans (hw _ λd hd=>hrow d (fq.mp hd).1)<|by lia⟩
theorem acr (E:pO e)(nd:e.pool.Nodup){N:Nd}{m:Int×Int}(I:qm N m){g:Gm}{dep:Nat}(hd:dep<=12)(G:Grw e N ([],[]) g dep)(hz:szG g<=64):Gd g where
 len:=G.len
 sd:=G.sd
 dep:=gz G.dep hd
 sz:=hz
 row:=by
  classical
  refine⟨λs n=>if h:∃d,Row e N s n d then lT h else .non,λp hp s n ws ep=>?_⟩;have h1:=G.pl [] p hp;have h2:=HH [] ([],[]) g G.len G.sd p hp;obtain⟨w,q,r⟩:=p;have ep:q=.move s n ws:=ep;subst ep;have h1:Row e N s n (dU s n ws r):=h1;have hex:∃d,Row e N s n d:=⟨_,h1⟩;have e1:=ZV E nd I h2.1 h1<|fA hex;simp only[dif_pos hex];exact⟨e1,aeP E<|fA hex⟩
 fr:=λp hp=>by
  have h1:=G.pl [] p hp;refine⟨?_,Tp [] ([],[]) g G.len p hp⟩;obtain⟨w,q,r⟩:=p;cases q with
  |fin d=>exact h1.1
  |deal n ws=>exact h1.1
  |move s n ws=>trivial
 t1:=Xo E G 1
 t2:=Xo E G 2
theorem ag6:qm ([],[]) (0,0):=⟨rfl,by simp,by simp,λ_ _ _ _ _ _ _ h=>by simp[bJ] at h,λ_ _ _ _ _ _ _ _ _ _ _ h=>by simp[bJ] at h⟩
def gmM (e:En)(turn:Int)(rm dep:Nat)(s5 s6 s7:Sl):Me:=[.fz<|cD e,.fz<|.int turn,.fz<|.int (dep:Int),.fz<|.int (rm:Int),.fz<|.lst<|e.pool.map D.str,s5,s6,s7]
theorem ae5 (e:En)(rm:Nat)(a1 a2:Addr):Ku [] [] [(.str "at",.int 0),(.str "room",.int (rm:Int)),(.str "names",.adr a1),(.str "many",.adr a2),(.str "pool",.lst<|e.pool.map D.str)]=some ([sk "at",sk "room",sk "names",sk "many",sk "pool"],[.int 0,.int (rm:Int),.adr a1,.adr a2,.lst<|e.pool.map D.str]):=by
 simp[Ku,tH,putD,sk]
theorem Xi {Φ : Bf} {e : En} {turn : Int} {rm dep : Nat} {d : D} (ht : e.turn = turn % 64) (hl : e.lev = decide (turn / 64 % 2 = 1))
    (h : ∀ A : Addr × Addr, ∃ s n m, Φ [cD e, .int (dep : Int), rcD ([], [])] (stD e A 0 (rm : Int)) (A.1, nD ([], [])) (A.2, mD (0, 0)) = .ok (d, s, n, m)) :
    aH 8 5 (qM Φ) [cD e, .int turn, .int (dep : Int), .int (rm : Int), .lst (e.pool.map D.str)] = .ok (false, d) := by
  have b64 : Bq 64 := bgS (by decide);have H : ∀ a1 a2 : Addr, a1 ≠ a2 → ∃ m', ((ofO (Ku [] [] [(.str "at", .int 0), (.str "room", .int (rm : Int)), (.str "names", .adr a1), (.str "many", .adr a2), (.str "pool", .lst (e.pool.map D.str))])).bind λr => (aA (dB 5 (fC (.str "turn")) (ak aY (aj 1) (fC (.int 64))))
 (aA (dB 5 (fC (.str "level")) (oZ gEq (ak aY (ak cV (aj 1) (fC (.int 64))) (fC (.int 2))) (fC (.int 1))))
 (xW (xV Φ 5 1 6 7 (aa (au 0) (aa (au 2) (aa (cP (aa (aN ao) (aa (aN ao) ao))) ao))))))) (((gmM e turn rm dep .un .un .un).set 5 (.ow (.dct r.1 r.2))).set 6 (.hd true a1 (nD ([], []))) |>.set 7 (.hd true a2 (mD (0, 0))))) = .ok (.rt false d, m') ∧ m'.length = (gmM e turn rm dep .un .un .un).length := by
    intro a1 a2 hne;obtain ⟨s, n, m, eΦ⟩ := h (a1, a2);refine ⟨gmM e turn rm dep (.ow s) (.hd true a1 n) (.hd true a2 m), ?_, rfl⟩;rw [ae5];simp only [tL, Res.wI];have e1 : ∀ k, aA (dB 5 (fC (.str "turn")) (ak aY (aj 1) (fC (.int 64)))) k (gmM e turn rm dep (.ow (.dct [sk "at", sk "room", sk "names", sk "many", sk "pool"] [.int 0, .int (rm : Int), .adr a1, .adr a2, .lst (e.pool.map D.str)])) (.hd true a1 (nD ([], []))) (.hd true a2 (mD (0, 0)))) = k (gmM e turn rm dep (.ow (.dct [sk "at", sk "room", sk "names", sk "many", sk "pool", sk "turn"] [.int 0, .int (rm : Int), .adr a1, .adr a2, .lst (e.pool.map D.str), .int e.turn])) (.hd true a1 (nD ([], []))) (.hd true a2 (mD (0, 0)))) := λk => gs (by
      simp [gmM, dB, ak, aj, fC, aY, mdI, zj, tH, zR, putD, sk, ht])
    have e2 : ∀ k, aA (dB 5 (fC (.str "level")) (oZ gEq (ak aY (ak cV (aj 1) (fC (.int 64))) (fC (.int 2))) (fC (.int 1)))) k (gmM e turn rm dep (.ow (.dct [sk "at", sk "room", sk "names", sk "many", sk "pool", sk "turn"] [.int 0, .int (rm : Int), .adr a1, .adr a2, .lst (e.pool.map D.str), .int e.turn])) (.hd true a1 (nD ([], []))) (.hd true a2 (mD (0, 0)))) = k (gmM e turn rm dep (.ow (stD e (a1, a2) 0 (rm : Int))) (.hd true a1 (nD ([], []))) (.hd true a2 (mD (0, 0)))) := λk => gs (by
      simp [gmM, dB, oZ, ak, aj, fC, aY, mdI, cV, dvI, b64, zj, tH, zR, putD, sk, stD, Vh, hl])
    show aA _ _ (gmM e turn rm dep (.ow (.dct [sk "at", sk "room", sk "names", sk "many", sk "pool"] [.int 0, .int (rm : Int), .adr a1, .adr a2, .lst (e.pool.map D.str)])) (.hd true a1 (nD ([], []))) (.hd true a2 (mD (0, 0)))) = _;rw [e1, e2];simp only [gmM, rcD] at eΦ ⊢;generalize stD e (a1, a2) 0 (rm : Int) = ST at *;generalize nD ([], []) = NN at *;generalize mD (0, 0) = MM at *;simp [xW, xV, Kz, zT, aa, ao, au, cP, aN, eΦ, Cv]
  have g := aah H;have start : [cD e, .int turn, .int (dep : Int), .int (rm : Int), .lst (e.pool.map D.str)].map Sl.fz ++ dA (8 - 5) Sl.un = gmM e turn rm dep .un .un .un := rfl;have gc : qM Φ (gmM e turn rm dep .un .un .un) = .ok (.rt false d, (gmM e turn rm dep .un .un .un).map λ_ => .un) := by
    rw [← g];rfl
  have ν : [cD e, .int turn, .int (dep : Int), .int (rm : Int), .lst (e.pool.map D.str)].length = 5 := rfl;unfold aH;rw [if_pos ν, start, gc]
theorem aak (E:pO e){turn:Int}{rm dep:Nat}(hd:dep<=12)(hrm:rm<=63)(ht:e.turn=turn%64)(hl:e.lev=decide (turn/64%2=1)):
  ∃(g:Gm) (N:Nd) (m:Int×Int),qO [cD e,.int turn,.int (dep:Int),.int (rm:Int),.lst<|e.pool.map D.str]=.ok (false,dG g)/\qm N m/\szG g<=rm+1/\Grw e N ([],[]) g dep:=by
 refine K6 (K8 E 13 dep (by lia) hd 0 rm ([],[]) (0,0) ([],[]) ag6 (by simp) (by lia) ⟨(λ_ z=>nomatch z),(λ_ z=>nomatch z),rfl,rfl,by simpa using hd,by simpa using hd⟩) λg a' r' N m eg I _ _ h1 _ G=>?_;exact⟨g,N,m,Xi (Φ:=aQ 13) ht hl λA=>⟨_,_,_,eg A⟩,I,by lia,G⟩
theorem cell_eq (ns:List Int)(k:Nat)(hz:ns.length<=1000):∃v:Int,gJ [.lst<|ns.map D.int,.int (k:Int)]=.ok (false,.int v):=by
 by_cases h:k<ns.length
 ·have e1:atI (ns.map D.int) (k:Int)=some (.int ns[k]):=jN (by rw[bt,ax h];rfl);have h':(k:Int)<(ns.length:Int):=by lia
  exact⟨ns[k],by simp[gJ,lG,lV,aH,aA,gIf,aB,aj,aF,cu,aa,ao,gLt,h,h',aU,Me.let,Sl.let,ak,gIx,e1]⟩
 ·have h':¬(k:Int)<(ns.length:Int):=by lia
  exact⟨0,by simp[gJ,lG,lV,aH,aA,gIf,aB,aj,aF,cu,aa,ao,gLt,h,h',aU,Me.let,Sl.let,gNx,fC]⟩
noncomputable def ss:List Nat:=[97,98,99,100,101,102,103,104,105,106,107,108,109,110,111,112,113,114,115,116,117,118,119,120,121,122,48,49,50,51,52,53,54,55,56,57]
theorem adG:dc "abcdefghijklmnopqrstuvwxyz0123456789" = tx ss:=by decide +kernel
theorem acE:∀c∈ss,c<128:=by decide
theorem agl:ss.Nodup:=by decide
def sgn (i:Int):Nat:=ss.getD i.toNat 0
theorem Tg (h:0<=i/\i<36):sgn i∈ss:=by
 have hl:i.toNat<ss.length:=by show i.toNat<36;lia
 unfold sgn;rw[bo,ax hl];exact xp hl
theorem Z3 (h:0<=i/\i<36)(h':0<=j/\j<36)(e:sgn i=sgn j):i=j:=by
 have hl:i.toNat<ss.length:=by show i.toNat<36;lia
 have hl':j.toNat<ss.length:=by show j.toNat<36;lia
 unfold sgn at e;rw[bo,ax hl,bo,ax hl'] at e
 have:=(List.getElem_inj (h₀:=hl) (h₁:=hl') agl).mp e
 lia
theorem acy (h:0<=i/\i<36):gIx (.str "abcdefghijklmnopqrstuvwxyz0123456789") (.int i)=some (.str<|tx [sgn i]):=by
 show gIx (.str<|dc "abcdefghijklmnopqrstuvwxyz0123456789") _=_;rw[adG];have hl:i.toNat<ss.length:=by show i.toNat<36;lia
 have e:atI ss i=some (sgn i):=by
  have:=jN (xs:=ss) (j:=i.toNat)<|ax hl
  rw[show((i.toNat:Nat):Int)=i by lia] at this;rw[this];unfold sgn;rw[bo,ax hl];rfl
 show(if(tx ss).length<=av then(atI (tx ss).cps.toList i).map λc=>D.str ⟨#[c]⟩ else none)=_;rw[if_pos (by rw[xZ];decide),De,e];rfl
theorem abx:av=16777216:=rfl
theorem YD (h:a.length+b.length<=1000):bc (.str<|tx a) (.str<|tx b)=some (.str<|tx<|a++b):=by
 show(if(tx a).length+(tx b).length<=av then some (D.str<|tx a++tx b) else none)=_;rw[if_pos (by rw[xZ,xZ,abx];lia),adh]
theorem acL (h0:0<=i)(h1:i<=w.length)(hw:w.length<=1000):gSl (.str<|tx w) none (some i)=some (.str<|tx<|w.take i.toNat):=by
 show(if(tx w).length<=av then some (D.str<|yk (tx w) none<|some i) else none)=_;rw[if_pos (by rw[xZ,abx];lia)]
 have:=StrLaws.sliceText_to (x:=tx w) (j:=i) ⟨h0,by rw[De];exact h1⟩
 rw[show yk (tx w) none (some i)=A5 (tx w) none (some i) from rfl,this];simp[tx]
theorem W5 (h0:0<=i)(h1:i<=w.length):yk (tx w) (some i) none=tx (w.drop i.toNat):=by
 have:=StrLaws.sliceText_from (x:=tx w) (i:=i) ⟨h0,by rw[De];exact h1⟩
 rw[show yk (tx w) (some i) none=A5 (tx w) (some i) none from rfl,this];refine Ud ?_;rw[De];show((w.drop i.toNat).take _)=_;exact pk (by rw[nI];lia)
theorem aad (h0:0<=i)(h1:i<=w.length)(hw:w.length<=1000):gSl (.str<|tx w) (some i) none=some (.str<|tx<|w.drop i.toNat):=by
 show(if(tx w).length<=av then some (D.str<|yk (tx w) (some i) none) else none)=_;rw[if_pos (by rw[xZ,abx];lia),W5 h0 h1]
noncomputable def Cq (w:List Nat):List Nat:=w++w++w++w++w++w++w++w
theorem ahJ (h:1<=w.length)(h2:w.length<=100):TQ (.int 8) (.str<|tx w)=some (.str<|tx<|Cq w):=by
 show(if(0:Int)<=8/\(8:Int)<=1000/\(tx w).length<=1000 then some (D.str<|B0 (tx w) 8) else none)=_;rw[if_pos ⟨by decide,by decide,by rw[xZ];lia⟩];congr 2;unfold B0;rw[if_neg (by decide),if_neg (by rw[xZ];simp;intro z;rw[z] at h;simp at h)];refine Ud ?_;show(List.foldl (· ++ ·) #[] (dA 8 w.toArray)).toList=_;simp[dA,Cq,eD]
theorem KJ (hP:P.length<=100):iG [.fz<|.int x,s1,s2,s3,.ow<|.lst P,s5,s6,s7,s8,s9]=.ok (.nx,[.fz<|.int<|x/36,s1,s2,s3,.ow<|.lst<|P++[.int<|x%36],s5,s6,s7,s8,s9]):=by
 have b1:Bq 36:=bgS (by decide);have z1:P.length<16777216:=by lia
 simp[iG,aA,bD,kY,putL,ak,aj,fC,aY,mdI,cV,dvI,b1,z1,aK]
theorem Dc:∀(c i:Nat) (x:Int) (P:List Int) (s5:Sl),P.length+c<=100->(∀p∈P,0<=p/\p<36)->∃(x' s5':Sl) (Q:List Int),aL (hName 5) iG ((kH i c).map λ(k:Nat)=>D.int k) [.fz<|.int x,s1,s2,s3,.ow<|.lst<|P.map D.int,s5,s6,s7,s8,s9]=.ok (.nx,[x',s1,s2,s3,.ow<|.lst<|Q.map D.int,s5',s6,s7,s8,s9])/\Q.length=P.length+c/\∀p∈Q,0<=p/\p<36
 |0,i,x,P,s5,_,hp=>⟨_,s5,P,rfl,rfl,hp⟩
 |c+1,i,x,P,s5,hz,hp=>by
  have st:=KJ (s1:=s1) (s2:=s2) (s3:=s3) (s5:=.fz<|.int (i:Int)) (s6:=s6) (s7:=s7) (s8:=s8) (s9:=s9) (x:=x) (P:=P.map D.int) (by simp;lia);obtain⟨x',s',Q,e,l,h⟩:=Dc (s1:=s1) (s2:=s2) (s3:=s3) (s6:=s6) (s7:=s7) (s8:=s8) (s9:=s9) c (i+1) (x/36) (P++[x%36]) (.fz<|.int (i:Int)) (by simp;lia) λp hp'=>by
   rcases cq.mp hp' with e|e
   ·exact hp p e
   ·rw[bg.mp e];lia
  refine⟨x',s',Q,?_,by rw[l];simp;lia,h⟩;rw[ia,ah,aW (m1:=[.fz<|.int x,s1,s2,s3,.ow<|.lst<|P.map D.int,.fz<|.int (i:Int),s6,s7,s8,s9]) rfl st];rw[bX] at e;exact e
theorem Hu:∀ps:List Int,JG (ps.map λp=>D.str<|tx [sgn p])=some ((ps.map sgn).map λc=>tx [c])
 |[]=>rfl
 |p::ps=>by simp[JG,Hu ps]
theorem aas (ps:List Int)(hl:ps.length<=1000):HR (.str "") [.lst<|ps.map λp=>D.str<|tx [sgn p]]=some (.str<|tx<|ps.map sgn):=by
 have e:((ps.map sgn).map λc=>tx [c])=(ps.map sgn).map λc=>(⟨#[c]⟩:Str):=rfl;have hc:=Va<|ps.map sgn;show(match JG (ps.map λp=>D.str<|tx [sgn p]) with
  |some zs=>if BU (dc "") zs=true then some (D.str<|AR (dc "") zs) else none
  |none=>none)=_
 rw[Hu,e];show(if BU (dc "") _=true then some (D.str<|AR (dc "") _) else none)=_;rw[if_pos<|joinOk_of (by rw[hc];simp;lia)];congr 2;exact Ud<|by rw[XQ,hc]
theorem afu {ps:List Int}(hl:ps.length<=1000)(hp:∀p∈ps,0<=p/\p<36):oH [u0,u1,.fz<|.str "abcdefghijklmnopqrstuvwxyz0123456789",u3,.ow<|.lst<|ps.map D.int,u5,u6,u7,u8,u9]=.ok (.lst<|ps.map λp=>D.str<|tx [sgn p]):=by
 have ec:cA (hName 0) cQ nU [.un,.fz<|.str "abcdefghijklmnopqrstuvwxyz0123456789"] (ps.map D.int)=.ok (ps.map λp=>D.str<|tx [sgn p]):=bV ps λp hp'=>by
  refine⟨[.fz<|.int p,.fz<|.str "abcdefghijklmnopqrstuvwxyz0123456789"],rfl,rfl,?_⟩;have e:=acy<|hp p hp';generalize D.str "abcdefghijklmnopqrstuvwxyz0123456789" = Z at *;simp[nU,ak,aj,e]
 have z2:ps.length<=16777216:=by lia
 generalize D.str "abcdefghijklmnopqrstuvwxyz0123456789" = Z at *;simp[oH,bC,cg,aj,cMe,Sl.bor,ec,z2]
theorem agC (h1:1<=w.length)(h2:w.length<=100):nT [u0,u1,u2,u3,u4,u5,.fz<|.str<|tx w,u7,u8,u9]=.ok (.lst<|(bp 8).map λ(k:Nat)=>D.str<|tx<|(Cq w).take<|k+1):=by
 have hr:(Cq w).length=8*w.length:=by simp[Cq];lia
 have em:=ahJ h1 h2;have e1:(aa (fC<|.int 1)<|aa (fC<|.int 9) ao) [u0,u1,u2,u3,u4,u5,.fz<|.str<|tx w,u7,u8,u9]=.ok [.int 1,.int 9]:=by simp[aa,fC,ao]
 have e2:=ahC e1 (by lia) (by lia) (by lia) (by lia);have ec:cA (hName 0) cQ jC [.un,.fz<|.str<|tx w] ((bp 8).map λ(k:Nat)=>D.int<|1+k)=.ok ((bp 8).map λ(k:Nat)=>D.str<|tx<|(Cq w).take<|k+1):=bV (bp 8) λk hk=>by
  have hk:=jS.mp hk;refine⟨[.fz<|.int<|1+k,.fz<|.str<|tx w],rfl,rfl,?_⟩;have es:=acL (w:=Cq w) (i:=1+(k:Int)) (by lia) (by lia) (by lia);rw[show(1+(k:Int)).toNat=k+1 by lia] at es;generalize D.str (tx w)=W at *;simp[jC,fSl,ak,fC,aj,em,fO0,fO1,es]
 unfold nT bC;rw[e2];show(if((bp 8).map λ(k:Nat)=>D.int<|1+k).length<=av then match cA (hName 0) cQ jC [.un,.fz<|.str<|tx w] ((bp 8).map λ(k:Nat)=>D.int<|1+k) with
  | .ok ys=>Res.ok<|D.lst ys
  |_=>.stuck
 else .stuck)=_
 rw[ec,if_pos<|by decide]
def N5 (w:List Nat)(a:Nat)(p:Int)(k:Nat):Str:=tx<|w.take a++[sgn<|(p+4*k)%36]++w.drop (a+1)
theorem abG {s0 s1 s3 s9:Sl}{ps FF:List D}{w:List Nat}{a k:Nat}{p:Int}(ea:atI ps (a:Int)=some (.int p))(ha:a<w.length)(hw:w.length<=100)(hk:k<=100)(hF:FF.length<=100):
  iC [s0,s1,.fz<|.str "abcdefghijklmnopqrstuvwxyz0123456789",s3,.ow<|.lst ps,.fz<|.int (k:Int),.fz<|.str<|tx w,.fz<|.int (a:Int),.ow<|.lst FF,s9]=.ok (.nx,[s0,s1,.fz<|.str "abcdefghijklmnopqrstuvwxyz0123456789",s3,.ow<|.lst ps,.fz<|.int (k:Int),.fz<|.str<|tx w,.fz<|.int (a:Int),.ow<|.lst<|FF++[.str<|N5 w a p k],.fz<|.str<|tx [sgn<|(p+4*k)%36]]):=by
 have b1:Bq 4:=bgS (by decide);have b2:Bq (k:Int):=bgS (by lia);have z1:FF.length<16777216:=by lia
 have e1:=acy (i:=(p+4*(k:Int))%36) (by lia);have e2:=acL (w:=w) (i:=(a:Int)) (by lia) (by lia) (by lia);have e3:=aad (w:=w) (i:=(a:Int)+1) (by lia) (by lia) (by lia);rw[show((a:Int)).toNat=a by lia] at e2;rw[show((a:Int)+1).toNat=a+1 by lia] at e3;have e4:=YD (a:=w.take a) (b:=[sgn<|(p+4*k)%36]) (by simp;lia);have e5:=YD (a:=w.take a++[sgn<|(p+4*k)%36]) (b:=w.drop<|a+1) (by simp;lia);unfold N5;generalize D.str "abcdefghijklmnopqrstuvwxyz0123456789" = Z at *;generalize D.str (tx<|w.take a++[sgn<|(p+4*k)%36]++w.drop (a+1))=R at *;generalize D.str (tx<|w.take a++[sgn<|(p+4*k)%36])=R1 at *;generalize D.str (tx w)=W at *;generalize D.str (tx<|w.take a)=W1 at *;generalize D.str (tx<|w.drop<|a+1)=W2 at *;generalize D.str (tx [sgn<|(p+4*k)%36])=W3 at *;have e6:gIx (.lst ps) (.int (a:Int))=some (.int p):=ea;have e7:F.bc (.int p) (.int<|4*(k:Int))=some (.int<|p+4*k):=rfl;have e8:F.bc (.int (a:Int)) (.int 1)=some (.int<|(a:Int)+1):=rfl;have e9:F.dO (.int 4) (.int (k:Int))=some (.int<|4*(k:Int)):=by simp[dO,b1,b2]
 have e10:F.aY (.int<|p+4*k) (.int 36)=some (.int<|(p+4*(k:Int))%36):=by simp[aY,mdI]
 simp only[iC];simp[aA,aK,ak,aj,fC,e6,e7,e8,e9,e10,e1,bD,kY,putL,fSl,fO0,fO1,e2,e3,e4,e5,z1]
theorem Tn {s0 s1 s3:Sl}{ps:List D}{w:List Nat}{a:Nat}{p:Int}(ea:atI ps (a:Int)=some (.int p))(ha:a<w.length)(hw:w.length<=100):∀(c i:Nat) (FF:List D) (s5 s9:Sl),FF.length+c<=100->i+c<=100->∃s5' s9':Sl,
  aL (hName 5) iC ((kH i c).map λ(k:Nat)=>D.int k) [s0,s1,.fz<|.str "abcdefghijklmnopqrstuvwxyz0123456789",s3,.ow<|.lst ps,s5,.fz<|.str<|tx w,.fz<|.int (a:Int),.ow<|.lst FF,s9] =
   .ok (.nx,[s0,s1,.fz<|.str "abcdefghijklmnopqrstuvwxyz0123456789",s3,.ow<|.lst ps,s5',.fz<|.str<|tx w,.fz<|.int (a:Int),.ow<|.lst<|FF++(kH i c).map λ(k:Nat)=>.str<|N5 w a p k,s9'])
 |0,i,FF,s5,s9,_,_=>⟨s5,s9,by simp[aL]⟩
 |c+1,i,FF,s5,s9,hz,hi=>by
  have st:=abG (s0:=s0) (s1:=s1) (s3:=s3) (s9:=s9) (FF:=FF) (k:=i) ea ha hw (by lia) (by lia);obtain⟨s5',s9',e⟩:=Tn (s0:=s0) (s1:=s1) (s3:=s3) ea ha hw c (i+1) (FF++[.str<|N5 w a p i]) (.fz<|.int (i:Int)) (.fz<|.str<|tx [sgn<|(p+4*i)%36]) (by simp;lia) (by lia);refine⟨s5',s9',?_⟩;rw[ia,ah,aW (m1:=[s0,s1,.fz<|.str "abcdefghijklmnopqrstuvwxyz0123456789",s3,.ow<|.lst ps,.fz<|.int (i:Int),.fz<|.str<|tx w,.fz<|.int (a:Int),.ow<|.lst FF,s9]) rfl st,e]
  simp
structure adN (p:List Str):Prop where
 p8:p.length=8
 nd:p.Nodup
 ok:∀x∈p,hU x=true
theorem VP (h:tt/8%3=1)
  (eL:L2 [.fz<|.int<|c/8,.fz<|.int tt,.fz<|.str "abcdefghijklmnopqrstuvwxyz0123456789",.fz<|.int<|1+c%8,.ow<|.lst [],.un,.un,.un,.un,.un]=.ok (.nx,[x',.fz<|.int tt,.fz<|.str "abcdefghijklmnopqrstuvwxyz0123456789",.fz<|.int<|1+c%8,.ow P,s5,.un,.un,.un,.un]))
  (e4:Q4 [x',.fz<|.int tt,.fz<|.str "abcdefghijklmnopqrstuvwxyz0123456789",.fz<|.int<|1+c%8,.ow P,s5,.un,.un,.un,.un]=.ok r) (ej:HR (.str "") [r]=some W)
  {R:D} (e6:∀u0 u1 u2 u3 u4 u5 u7 u8 u9:Sl,Q6 [u0,u1,u2,u3,u4,u5,.fz W,u7,u8,u9]=.ok R):aH 10 2 (lq L2 Q4 Q6 L8) [.int c,.int tt]=.ok (true,R):=by
 unfold aH lq;have b8:Bq 8:=bgS (by decide);have ty:tyD "str" (.str "")=true:=rfl;generalize D.str "abcdefghijklmnopqrstuvwxyz0123456789" = Z at *;generalize D.str "" = Z0 at *;simp[aA,aK,fC,ak,aj,bc,aY,mdI,cV,dvI,b8,cC,cP,ao,eL,T5,ty,aa,e4,ej,gIf,aB,h,jc,Me.let,Sl.let,e6]
theorem U4 (h:¬tt/8%3=1)
  (eL:L2 [.fz<|.int<|c/8,.fz<|.int tt,.fz<|.str "abcdefghijklmnopqrstuvwxyz0123456789",.fz<|.int<|1+c%8,.ow<|.lst [],.un,.un,.un,.un,.un]=.ok (.nx,[x',.fz<|.int tt,.fz<|.str "abcdefghijklmnopqrstuvwxyz0123456789",.fz<|.int<|1+c%8,.ow P,s5,.un,.un,.un,.un]))
  (e4:Q4 [x',.fz<|.int tt,.fz<|.str "abcdefghijklmnopqrstuvwxyz0123456789",.fz<|.int<|1+c%8,.ow P,s5,.un,.un,.un,.un]=.ok r) (ej:HR (.str "") [r]=some W)
  {R:D} (e8:L8 [x',.fz<|.int tt,.fz<|.str "abcdefghijklmnopqrstuvwxyz0123456789",.fz<|.int<|1+c%8,.ow P,s5,.fz W,.fz<|.int<|tt%(1+c%8),.ow<|.lst [],.un]=.ok (.nx,[x',.fz<|.int tt,.fz<|.str "abcdefghijklmnopqrstuvwxyz0123456789",.fz<|.int<|1+c%8,.ow P,s5',.fz W,.fz<|.int<|tt%(1+c%8),.ow R,s9'])):aH 10 2 (lq L2 Q4 Q6 L8) [.int c,.int tt]=.ok (true,R):=by
 unfold aH lq;have b8:Bq 8:=bgS (by decide);have ty:tyD "str" (.str "")=true:=rfl;have hp:0<1+c%8:=by lia
 have hz:¬1+c%8=0:=by lia
 have em:mdI tt (1+c%8)=tt%(1+c%8):=if_pos hp;generalize hS:1+c%8=S at *;generalize D.str "abcdefghijklmnopqrstuvwxyz0123456789" = Z at *;generalize D.str "" = Z0 at *;simp[aA,aK,fC,ak,aj,bc,aY,cV,dvI,b8,cC,cP,ao,show mdI c 8=c%8 from if_pos (by decide),hS,eL,T5,ty,aa,e4,ej,gIf,aB,show mdI (tt/8) 3=tt/8%3 from if_pos (by decide),h,gNx,hz,em,e8,dY,Me.let,Sl.let]
theorem aam:∃(x' s5:Sl) (ps:List Int),nJ [.fz<|.int<|c/8,.fz<|.int tt,.fz<|.str "abcdefghijklmnopqrstuvwxyz0123456789",.fz<|.int<|1+c%8,.ow<|.lst [],.un,.un,.un,.un,.un]=.ok (.nx,[x',.fz<|.int tt,.fz<|.str "abcdefghijklmnopqrstuvwxyz0123456789",.fz<|.int<|1+c%8,.ow<|.lst<|ps.map D.int,s5,.un,.un,.un,.un])/\(ps.length:Int)=1+c%8/\∀p∈ps,0<=p/\p<36:=by
 have hS:0<=1+c%8/\1+c%8<=8:=by lia
 generalize 1+c%8=S at *;obtain⟨x',s5,Q,e,hl,hQ⟩:=Dc (s1:=.fz<|.int tt) (s2:=.fz<|.str "abcdefghijklmnopqrstuvwxyz0123456789") (s3:=.fz<|.int S) (s6:=.un) (s7:=.un) (s8:=.un) (s9:=.un) S.toNat 0 (c/8) [] .un (by simp;lia) λ_ z=>nomatch z;refine⟨x',s5,Q,?_,by simp at hl;lia,hQ⟩;have e1:(aa (aj 3) ao) [.fz<|.int<|c/8,.fz<|.int tt,.fz<|.str "abcdefghijklmnopqrstuvwxyz0123456789",.fz<|.int S,.ow<|.lst [],.un,.un,.un,.un,.un]=.ok [.int S]:=by
  generalize D.str "abcdefghijklmnopqrstuvwxyz0123456789" = Z;simp[aa,aj,ao]
 have e2:=Cu e1 (by lia) (by lia);unfold nJ cz;rw[e2];show aL (hName 5) iG ((bp S.toNat).map λ(k:Nat)=>D.int k) _=_;rw[fm];exact e
theorem abZ (hw:∀c∈w,c<128):hU (N5 w a p k)=true:=by
 refine Nf λc hc=>?_;rcases cq.mp hc with hc|hc
 ·rcases cq.mp hc with hc|hc
  ·exact hw c<|zk hc
  ·rw[bg.mp hc];exact acE _<|Tg<|by lia
 ·exact hw c<|List.mem_of_mem_drop hc
theorem XJ (hk:k<8)(hj:j<8)(h:N5 w a p k=N5 w a p j):k=j:=by
 have h:=Yp.mp h;rw[eD,eD] at h;have h:=List.append_cancel_left h;injection h with h _
 have:=Z3 (by lia) (by lia) h
 lia
theorem aa1 (h:c∈Cq w):c∈w:=by
 simpa[Cq] using h
theorem aaN (c t:Int):∃p:List Str,qR [.int c,.int t]=.ok (true,.lst<|p.map D.str)/\adN p:=by
 refine Gi (aam (c:=c) (tt:=t)) λx' s5 ps eL hl hp=>?_;have hl8:1<=ps.length/\ps.length<=8:=by lia
 have e4:=afu (u0:=x') (u1:=.fz<|.int t) (u3:=.fz<|.int<|1+c%8) (u5:=s5) (u6:=.un) (u7:=.un) (u8:=.un) (u9:=.un) (by lia) hp;have ej:=aas ps (by lia);have hw:∀k∈ps.map sgn,k<128:=λk hk=>by
  obtain⟨p,h,rfl⟩:=aw.mp hk;exact acE _<|Tg<|hp p h
 have wl:(ps.map sgn).length=ps.length:=by simp
 generalize hW:ps.map sgn=w at *;by_cases h:t/8%3=1
 ·refine⟨(bp 8).map λk=>tx<|(Cq w).take<|k+1,?_,by simp,?_,λx hx=>?_⟩
  ·rw[cy];exact VP h eL e4 ej λu0 u1 u2 u3 u4 u5 u7 u8 u9=>agC (by lia)<|by lia
  ·refine gS.mpr<|(xt (n:=8)).imp_of_mem λ{a b} ha hb hne z=>hne ?_;have ha:=jS.mp ha;have hb:=jS.mp hb;have hr:(Cq w).length=8*w.length:=by simp[Cq];lia
   have:=congrArg si<|Yp.mp z
   rw[lP,lP] at this
   lia
  ·obtain⟨k,_,rfl⟩:=aw.mp hx;exact Nf λc hc=>hw c<|aa1<|zk hc
 ·obtain⟨a,ha⟩:∃a:Nat,(a:Int)=t%(1+c%8):=⟨(t%(1+c%8)).toNat,by have:=kU t (show 1+c%8≠0 by lia);lia⟩;have hlt:a<w.length:=by have:=i9 t (show 0<1+c%8 by lia);lia
  have hlp:a<ps.length:=by lia
  have ea:atI (ps.map D.int) (a:Int)=some (.int ps[a]):=jN (by rw[bt,ax hlp];rfl);obtain⟨s5',s9',e8⟩:=Tn (s0:=x') (s1:=.fz<|.int t) (s3:=.fz<|.int<|1+c%8) ea hlt (by lia) 8 0 [] s5 .un (by simp) (by lia);refine⟨(bp 8).map λk=>N5 w a ps[a] k,?_,by simp,?_,λx hx=>?_⟩
  ·refine U4 (s5':=s5') (s9':=s9') h eL e4 ej ?_;rw[← ha];rw[cy];have e1:(aa (fC<|.int 8) ao) [x',.fz<|.int t,.fz<|.str "abcdefghijklmnopqrstuvwxyz0123456789",.fz<|.int<|1+c%8,.ow<|.lst<|ps.map D.int,s5,.fz<|.str<|tx w,.fz<|.int (a:Int),.ow<|.lst [],.un]=.ok [.int 8]:=by
    simp[aa,fC,ao]
   have e2:=Cu e1 (by lia) (by lia);unfold sG cz;rw[e2];show aL (hName 5) iC ((bp 8).map λ(k:Nat)=>D.int k) _=_;rw[fm];exact e8
  ·refine gS.mpr<|(xt (n:=8)).imp_of_mem λ{i j} hi hj hne z=>hne ?_;exact XJ (jS.mp hi) (jS.mp hj) z
  ·obtain⟨k,_,rfl⟩:=aw.mp hx;exact abZ hw
end Lw
namespace F
open PySem PySem.Spec PyProof.Rows L2 Hd
section
end
section
variable {X:Cx}{E:XK}{j k:Nat}{c m:Str}{ps:List Str}{Φ:Zac}{apos pos:Pos}{o e:Expr}{es:List Expr}{f0:Zae}{fs:Zad}{pl:Sem Bool}
end
section
variable {P:cS}{w:gu}{K:bq}{mg:Zp}{base:Heap}
end
section
end
section
variable {X:Cx}{E:XK}{e:Expr}{g:Zae}{k:Zab}{c f x kn vn:Str}{fs:List Str}{pos pos' pos2 pos3 spos np np2 kp vp:Pos}{rest:List Stmt}
end
section
variable {X:Cx}{E:XK}{e:Expr}{g:Zae}{c f x:Str}{fs:List Str}{pos pos' np:Pos}
end
section
variable {P:cS}{w:gu}{K:bq}{mg:Zp}{base:Heap}
end
section
end
section
variable {X:Cx}{E:XK}{jj k:Nat}{c f y:Str}{ps:List Str}{Φ:List D->Res (List Str×List D×D)}{py pos η np:Pos}{e:Expr}{es:List Expr}{fs:Zad}{rest:List Stmt}{kk:Zab}
end
end F
namespace Hd
open PySem L2
end Hd
namespace F
open PySem L2 Hd
section
end
open PySem PySem.Spec PyProof.Rows L2 Hd
section
end
section
end
section
end
section
end
section
variable {X:Cx}{E:XK}{jj k:Nat}{x y:Str}{ps:List Str}{Φ:Zac}{py pos η np:Pos}{e:Expr}{es:List Expr}{fs:Zad}{rest:List Stmt}{kk:Zab}
end
section
end
section
end
section
end
section
end
section
end
section
end
section
end
section
end
section
end
section
variable {X:Cx}{E:XK}{y:Str}{py pos lp:Pos}{es:List Expr}{fs:Zad}{rest:List Stmt}{kk:Zab}
end
theorem FJ {h':Heap}:∀(L:List Addr) (s:bE),Inv X π σ H s->L.Nodup->(∀b∈L,vU X π H b)->(∀b∈L,∃o,s.heap.get? b=some o)->(∀b∈L,∃o,h'.get? b=some o/\o.isFreed=false)->
  (∀b o,b∉L->s.heap.get? b=some o->h'.get? b=some o)->∃h1,Inv X π σ H { s with heap:=h1 }/\h1.objs.size=s.heap.objs.size/\∀b u,h1.get? b=some u->h'.get? b=some u
 |[],s,I,_,_,_,_,k=>⟨s.heap,I,rfl,λb u e=>k b u (by simp) e⟩
 |e::L,s,I,nd,fp,he,hn,k=>by
  obtain⟨nd1,nd2⟩:=hC.mp nd;obtain⟨oe,q1,q2⟩:=hn e af;obtain⟨o0,q0⟩:=he e af;refine lO (fp e af) λf0 f1 f2 f3 f4 f5=>?_;have I1:Inv X π σ H { s with heap:=s.heap.update e λ_=>oe }:=I.turned (t':=s.toks) (λb o hb x=>(cK _ _<|eK hb).trans x) f0 f1 f3 f4 f5;obtain⟨h1,I2,z,kk⟩:=FJ (h':=h') L { s with heap:=s.heap.update e λ_=>oe } I1 nd2 (λb hb=>fp b<|ae _ hb) (λb hb=>by
   obtain⟨o,ho⟩:=he b<|ae _ hb;exact⟨o,(cK _ _ λ(y:e=b)=>nd1 (by rw[y];exact hb)).trans ho⟩) (λb hb=>hn b<|ae _ hb) λb o hb x=>by
   have x:(s.heap.update e λ_=>oe).get? b=some o:=x;by_cases y:b=e
   ·subst y;rw[fy (λ_=>oe) q0 q2] at x;cases x;exact q1
   ·rw[cK _ _<|eK y] at x;exact k b o (λw=>(aE.mp w).elim y hb) x
  exact⟨h1,I2,z.trans (eR _ _ _).1,kk⟩
theorem Inv.abe (L:List Addr)(I:Inv X π σ H s)(fp:∀b∈L,vU X π H b)(k:∀b o,b∉L->s.heap.get? b=some o->h'.get? b=some o):Inv X π σ H { s with heap:=h',toks:=t' }:=by
 have nit:∀b u,H b=some u->b∉L:=λb u e z=>by have:=(fp b z).1;rw[this] at e;cases e
 by_cases hL:X.env.locals∈L
 ·exact absurd rfl (fp _ hL).2.1
 refine I.step (g':=s.gens) (d':=s.drawn) (ch:=L) (λb hb=>?_) (λb o _ _ hc e _=>k b o hc e) (λb o _ _ hc e _=>⟨o.slots,k b o hc e⟩) (λ_ _ _ _ n=>n)
  (λb o hc e=>⟨o,k b o hc e⟩) (λ_ _ e=>e) (λ_ _ _ e=>e) (λb ps e=>⟨#[],by rw[e];simp⟩) (λm hm=>?_) (λb u e=>?_) I.bare
 ·refine lO (fp b hb) λ_ h1 _ h2 h3 h4=>?_;exact⟨h2,h1,h3,h4⟩
 ·refine HN hm λo es ep ho r=>?_;exact⟨o,es,ep,k _ o hL ho,r⟩
 ·refine(I.hok b u e).stay (λc v hc q=>k c v ?_ q) (λ_ q=>q) λ_ _ q=>q;rcases hc with z|z
  ·rw[z];exact nit b u e
  ·exact nit c _ z
section
variable {X:Cx}
theorem boot_zip:dQ "zip" = some (.type "zip"):=by decide +kernel
theorem vals2 (r:Vals [a,b] us):∃u v,us=[u,v]/\RelV a u/\RelV b v:=by
 cases r with
 |cons r1 r2=>
  cases r2 with
  |cons r2 r3=>cases r3;exact⟨_,_,rfl,r1,r2⟩
noncomputable def vy:List D->List D->List D
 |a::as,b::bs=>.tup [a,b]::vy as bs
 |_,_=>[]
theorem zq:∀as bs:List D,(vy as bs).length=min as.length bs.length
 |[],_=>by simp[vy]
 |_::_,[]=>by simp[vy]
 |a::as,b::bs=>by rw[vy,cw,zq as bs];simp
theorem R0:∀{as bs:List D} {i:Nat} {a b:D},as[i]? = some a->bs[i]? = some b->(vy as bs)[i]? = some (.tup [a,b])
 |[],_,_,_,_,h,_=>by simp at h
 |_::_,[],_,_,_,_,h=>by simp at h
 |x::as,y::bs,0,a,b,h1,h2=>by
  have h1:x=a:=by simpa using h1
  have h2:y=b:=by simpa using h2
  rw[h1,h2];rfl
 |x::as,y::bs,i+1,a,b,h1,h2=>R0 (as:=as) (bs:=bs) (i:=i) (by simpa using h1) (by simpa using h2)
end
section
variable {pr:cS}{wo:gu}{Ar:i7}{Ex:Zs}{st:bE}
theorem KQ {c t:Addr}{k:Nat}{χ:Array a9}{v:a9}{R:Zs}(ci:st.heap.IsTupleIter c t k)(ct:st.heap.IsTuple t χ)(cv:χ[k]? = some v)
  (r:∀g,g.IsTupleIter c t (k+1)->hJ c st.heap g->R v { st with heap:=g }):b9 (eB pr wo) Ar (fg<|.ref c) R Ex st:=by
 obtain⟨oc,g1,g2,g3⟩:=id ci;obtain⟨ot,f1,_,n,f3⟩:=ct;unfold fg;refine ab<|eW (name:=dc "__next__") ci.typeIs ib<|eI ib ci.typeIs pd ?_<|ox _;refine(show b9 _ _ (field (.ref c) 0 >>= _) _ _ st from ab (fF g1 g3 (x:=.ref t) rfl ?_));show b9 _ _ (if(c9 t==ij)=true then _ else _) _ _ st;rw[if_neg (by intro z;cases z)];refine(show b9 _ _ (field (.ref c) 1 >>= _) _ _ st from ab (fF g1 g3 (x:=.int k 0) rfl ?_));refine(show b9 _ _ (seqItems? (.ref t) >>= _) _ _ st from ab (iE f1 f3 ?_));simp only[kT,cv];refine ab<|qh g1 g3 (by simp)<|ai ⟨v,rfl,ai<|r _ ⟨_,fy _ g1<|yT<|oP g3 _,(Obj.cls_mapFields ..).trans g2,?_⟩<|eR ..⟩;rw[oP g3];simp[pf]
theorem Uu {c t:Addr}{k:Nat}{χ:Array a9}{R:Zs}(hn:Ar.handled=none)(ci:st.heap.IsTupleIter c t k)(ct:st.heap.IsTuple t χ)(cv:χ[k]? = none)
  (r:∀g e,BI c st.heap g->(∃o,g.get? e=some o/\o.cls=.type "StopIteration")->Ex (.ref e) { st with heap:=g }):b9 (eB pr wo) Ar (fg<|.ref c) R Ex st:=by
 obtain⟨oc,g1,g2,g3⟩:=id ci;obtain⟨ot,f1,_,n,f3⟩:=ct;unfold fg;refine ab<|eW (name:=dc "__next__") ci.typeIs ib<|eI ib ci.typeIs pd ?_<|ox _;refine(show b9 _ _ (field (.ref c) 0 >>= _) _ _ st from ab (fF g1 g3 (x:=.ref t) rfl ?_));show b9 _ _ (if(c9 t==ij)=true then _ else _) _ _ st;rw[if_neg (by intro z;cases z)];refine(show b9 _ _ (field (.ref c) 1 >>= _) _ _ st from ab (fF g1 g3 (x:=.int k 0) rfl ?_));refine(show b9 _ _ (seqItems? (.ref t) >>= _) _ _ st from ab (iE f1 f3 ?_));simp only[kT,cv];refine ab<|rX<|ab<|qh g1 g3 (by simp)<|show b9 _ _ (newExc (.type "StopIteration") [] >>= _) _ _ _ from ab ?_;simp only[newExc,newTuple];refine ab<|eC (ab (m:=nt _ _)<|wpAny_of_eq (a:=ij) (by first|rfl|(simp only[nt];rfl))<|eC ?_<|by size_fits) (by size_fits);simp only[raiseNew];refine ab<|AU ?_
 first|rw[show Ar.in1.handled=none from hn]|rw[hn]
 exact ab<|ai<|wpAny_throw<|r _ _ (((eR ..).extBut.push _).push _) ⟨_,ay _ rfl,rfl⟩
theorem aba {z a b i j t u:Addr}{m n:Nat}{xs ys:Array a9}{x y p q:a9}{R:Zs}(D:AZ z a b i j t u)(z0:AE st.heap z a b .none)(a0:mP st.heap a (.ref i) (.ref j))(b0:mP st.heap b p q)
  (i0:st.heap.IsTupleIter i t m) (j0:st.heap.IsTupleIter j u n) (t0:st.heap.IsTuple t xs) (u0:st.heap.IsTuple u ys) (ex:xs[m]? = some x) (ey:ys[n]? = some y)
  (r:∀g,AE g z a b (pf st.heap.objs.size)->mP g b x y->g.IsTupleIter i t (m+1)->g.IsTupleIter j u (n+1)->mP g st.heap.objs.size x y->g.objs.size=st.heap.objs.size+1->
   (∀c o,c≠z->c≠b->c≠i->c≠j->st.heap.get? c=some o->g.get? c=some o)->R (.ref st.heap.objs.size) { st with heap:=g }):
  b9 (eB pr wo) Ar (A4.«zip.__next__» ⟨[.ref z],[]⟩) (λfin s'=>∃v,fin=.done (.ret v)/\R v s') Ex st:=by
 refine(show b9 _ _ (field (.ref z) 2 >>= _) _ _ _ from ab (fF z0 rfl (x:=.bool false) rfl<|show b9 _ _ (field (.ref z) 3 >>= _) _ _ _ from ab (fF z0 rfl (x:=.ref a) rfl<|ab<|iE a0 rfl ?_)));refine(show b9 _ _ (hG (.ref z) >>= _) _ _ _ from ab ?_);unfold hG;refine ab<|fF z0 rfl (x:=.none) rfl<|ai ?_;simp only[if_true];refine ab<|rX<|ab<|fF z0 rfl (x:=.ref b) rfl<|ab<|fx z0 (by simp) λg1 z1 k1=>?_
 replace z1:AE g1 z a b .ellipsis:=z1
 refine ab ?_;simp only[List.zipIdx_cons,List.zipIdx_nil,oI,zv];refine ab<|ab<|xb<|show b9 _ _ (fg (.ref i) >>= _) _ _ _ from ?_;refine ab<|KQ (i0.extBut k1.extBut D.i1z) (t0.extBut k1.extBut D.l1z) ex λg2 i2 k2=>ai ?_;have b2:mP g2 b p q:=k2.extBut _ _ D.TOi1<|k1.extBut _ _ D.TOz b0;refine ab<|iE b2 rfl<|ab<|rh b2 λg3 b3 k3=>ab<|wx<|ai ?_
 replace b3:mP g3 b x q:=b3
 refine ab<|ab<|xb<|show b9 _ _ (fg (.ref j) >>= _) _ _ _ from ?_;refine ab<|KQ (((j0.extBut k1.extBut D.i2z).extBut k2.extBut D.i12.symm).extBut k3.extBut D.TOi2.symm) (((u0.extBut k1.extBut D.l2z).extBut k2.extBut D.l2i1).extBut k3.extBut D.l2TO) ey λg4 j4 k4=>ai ?_;have b4:mP g4 b x q:=k4.extBut _ _ D.TOi2 b3;refine ab<|iE b4 rfl<|ab<|rh b4 λg5 b5 k5=>ab<|wx<|ai<|ai ?_
 replace b5:mP g5 b x y:=b5
 refine ab<|iE b5 rfl<|ab<|wpAny_newTuple ?_;have sz:g5.objs.size=st.heap.objs.size:=by rw[k5.1,k4.1,k3.1,k2.1,k1.1]
 have z5:AE g5 z a b .ellipsis:=k5.extBut _ _ D.TOz.symm<|k4.extBut _ _ D.i2z.symm<|k3.extBut _ _ D.TOz.symm<|k2.extBut _ _ D.i1z.symm z1;have kk:∀c o,c≠z->c≠b->c≠i->c≠j->st.heap.get? c=some o->g5.get? c=some o:=λc o c1 c2 c3 c4 e=>k5.extBut _ _ c2<|k4.extBut _ _ c4<|k3.extBut _ _ c2<|k2.extBut _ _ c3<|k1.extBut _ _ c1 e;have i5:g5.IsTupleIter i t (m+1):=((i2.extBut k3.extBut D.TOi1.symm).extBut k4.extBut D.i12).extBut k5.extBut D.TOi1.symm;have j5:g5.IsTupleIter j u (n+1):=j4.extBut k5.extBut D.TOi2.symm;have lz:z<g5.objs.size:=aT z5;refine(show b9 _ _ (nB (.ref z) (.ref g5.objs.size) >>= _) _ _ _ from ab ?_);unfold nB;refine ab<|fx (show AE (g5.push { cls:=.type "tuple",data:=.seq #[x,y] }) z a b .ellipsis from ag _ z5) (by simp) λg7 z7 k7=>?_
 replace z7:AE g7 z a b (pf g5.objs.size):=z7
 refine fx z7 (by simp) λg8 z8 k8=>?_
 replace z8:AE g8 z a b (pf g5.objs.size):=z8
 have up:∀c o,c≠z->g5.get? c=some o->g8.get? c=some o:=λc o c1 e=>k8.extBut _ _ c1<|k7.extBut _ _ c1<|ag _ e;have n8:mP g8 g5.objs.size x y:=k8.extBut _ _ (ku lz)<|k7.extBut _ _ (ku lz)<|ay _ rfl;have s8:g8.objs.size=g5.objs.size+1:=by rw[k8.1,k7.1,iL]
 rw[sz] at z8 n8 s8;refine ai ⟨_,rfl,(show R (.ref g5.objs.size) _ from ?_)⟩;rw[sz];obtain⟨oi,ei,ri⟩:=i5;obtain⟨oj,ej,rj⟩:=j5;exact r g8 z8 (up _ _ D.TOz b5) ⟨oi,up _ _ D.i1z ei,ri⟩ ⟨oj,up _ _ D.i2z ej,rj⟩ n8 s8 λc o c1 c2 c3 c4 e=>up c o c1<|kk c o c1 c2 c3 c4 e
theorem abh {z a b i j t u:Addr}{m n:Nat}{xs ys:Array a9}{p q:a9}{R:Fin->bE->Prop}(hn:Ar.handled=none)(D:AZ z a b i j t u)(z0:AE st.heap z a b .none)(a0:mP st.heap a (.ref i) (.ref j))(b0:mP st.heap b p q)
  (i0:st.heap.IsTupleIter i t m) (j0:st.heap.IsTupleIter j u n) (t0:st.heap.IsTuple t xs) (u0:st.heap.IsTuple u ys) (en:xs[m]? = none\/ys[n]? = none)
  (r:∀g e,(∀c o,c≠z->c≠b->c≠i->c≠j->st.heap.get? c=some o->g.get? c=some o)->(∃o,g.get? e=some o/\o.cls=.type "StopIteration")->Ex (.ref e) { st with heap:=g }):
  b9 (eB pr wo) Ar (A4.«zip.__next__» ⟨[.ref z],[]⟩) R Ex st:=by
 refine(show b9 _ _ (field (.ref z) 2 >>= _) _ _ _ from ab (fF z0 rfl (x:=.bool false) rfl<|show b9 _ _ (field (.ref z) 3 >>= _) _ _ _ from ab (fF z0 rfl (x:=.ref a) rfl<|ab<|iE a0 rfl ?_)));refine(show b9 _ _ (hG (.ref z) >>= _) _ _ _ from ab ?_);unfold hG;refine ab<|fF z0 rfl (x:=.none) rfl<|ai ?_;simp only[if_true];refine ab<|rX<|ab<|fF z0 rfl (x:=.ref b) rfl<|ab<|fx z0 (by simp) λg1 z1 k1=>?_
 replace z1:AE g1 z a b .ellipsis:=z1
 refine ab ?_;simp only[List.zipIdx_cons,List.zipIdx_nil,oI,zv];refine ab<|ab<|xb<|show b9 _ _ (fg (.ref i) >>= _) _ _ _ from ?_;cases ex:xs[m]? with
 |none=>
  refine ab<|Uu hn (i0.extBut k1.extBut D.i1z) (t0.extBut k1.extBut D.l1z) ex λg2 e k2 he=>?_;obtain⟨oe,e1,e2⟩:=he;have z2:AE g2 z a b .ellipsis:=k2 _ _ D.i1z.symm z1;have ne:e≠z:=λw=>by subst w;rw[z2] at e1;cases e1;simp at e2
  exact fx z2 (by simp) λg3 _ k3=>r g3 e (λc o c1 _ c3 _ w=>k3.extBut _ _ c1<|k2 _ _ c3<|k1.extBut _ _ c1 w) ⟨oe,k3.extBut _ _ ne e1,e2⟩
 |some x=>
  have ey:ys[n]? = none:=en.elim (λw=>by rw[ex] at w;cases w) id;refine ab<|KQ (i0.extBut k1.extBut D.i1z) (t0.extBut k1.extBut D.l1z) ex λg2 i2 k2=>ai ?_;have b2:mP g2 b p q:=k2.extBut _ _ D.TOi1<|k1.extBut _ _ D.TOz b0;refine ab<|iE b2 rfl<|ab<|rh b2 λg3 b3 k3=>ab<|wx<|ai ?_;refine ab<|ab<|xb<|show b9 _ _ (fg (.ref j) >>= _) _ _ _ from ?_;refine ab<|Uu hn (((j0.extBut k1.extBut D.i2z).extBut k2.extBut D.i12.symm).extBut k3.extBut D.TOi2.symm) (((u0.extBut k1.extBut D.l2z).extBut k2.extBut D.l2i1).extBut k3.extBut D.l2TO) ey λg4 e k4 he=>?_;obtain⟨oe,e1,e2⟩:=he;have z4:AE g4 z a b .ellipsis:=k4 _ _ D.i2z.symm<|k3.extBut _ _ D.TOz.symm<|k2.extBut _ _ D.i1z.symm z1;have ne:e≠z:=λw=>by subst w;rw[z4] at e1;cases e1;simp at e2
  exact fx z4 (by simp) λg5 _ k5=>r g5 e (λc o c1 c2 c3 c4 w=>k5.extBut _ _ c1<|k4 _ _ c4<|k3.extBut _ _ c2<|k2.extBut _ _ c3<|k1.extBut _ _ c1 w) ⟨oe,k5.extBut _ _ ne e1,e2⟩
theorem Yb {z a b i j t u:Addr}{m n:Nat}{xs ys:Array a9}{x y p q:a9}{R:Option a9->bE->Prop}(D:AZ z a b i j t u)(z0:AE st.heap z a b .none)(a0:mP st.heap a (.ref i) (.ref j))(b0:mP st.heap b p q)
  (i0:st.heap.IsTupleIter i t m) (j0:st.heap.IsTupleIter j u n) (t0:st.heap.IsTuple t xs) (u0:st.heap.IsTuple u ys) (ex:xs[m]? = some x) (ey:ys[n]? = some y)
  (r:∀g,AE g z a b (pf st.heap.objs.size)->mP g b x y->g.IsTupleIter i t (m+1)->g.IsTupleIter j u (n+1)->mP g st.heap.objs.size x y->g.objs.size=st.heap.objs.size+1->
   (∀c o,c≠z->c≠b->c≠i->c≠j->st.heap.get? c=some o->g.get? c=some o)->R (some<|.ref st.heap.objs.size) { st with heap:=g }):b9 (eB pr wo) Ar (ub<|.ref z) R Ex st:=by
 have ty:st.TypeIs (.ref z) "zip":=⟨_,z0,rfl⟩;unfold ub;exact ab<|oQ<|eW (name:=dc "__next__") ty mB<|eI mB ty xE (aba D z0 a0 b0 i0 j0 t0 u0 ex ey λg a1 a2 a3 a4 a5 a6 a7=>ai<|r g a1 a2 a3 a4 a5 a6 a7)<|xc _
theorem Wk {z a b i j t u:Addr}{m n:Nat}{xs ys:Array a9}{p q:a9}{R:Option a9->bE->Prop}(hn:Ar.handled=none)(D:AZ z a b i j t u)(z0:AE st.heap z a b .none)(a0:mP st.heap a (.ref i) (.ref j))(b0:mP st.heap b p q)
  (i0:st.heap.IsTupleIter i t m) (j0:st.heap.IsTupleIter j u n) (t0:st.heap.IsTuple t xs) (u0:st.heap.IsTuple u ys) (en:xs[m]? = none\/ys[n]? = none)
  (r:∀g,(∀c o,c≠z->c≠b->c≠i->c≠j->st.heap.get? c=some o->g.get? c=some o)->R none { st with heap:=g }):b9 (eB pr wo) Ar (ub<|.ref z) R Ex st:=by
 have ty:st.TypeIs (.ref z) "zip":=⟨_,z0,rfl⟩;unfold ub;refine ab<|oQ<|eW (name:=dc "__next__") ty mB<|eI mB ty xE (abh hn D z0 a0 b0 i0 j0 t0 u0 en λg e hk he=>?_)<|xc _;obtain⟨o,ho,hc⟩:=he;exact ab<|nE (T:="StopIteration") (b:=true) ⟨o,ho,hc⟩ zt<|ai<|r _ hk
end
noncomputable def tzH (h:Heap)(t u:Addr):Heap:=((((h.push { cls:=.type "tuple_iterator",data:=.fields #[.ref t,.int 0 0] }).push { cls:=.type "tuple_iterator",data:=.fields #[.ref u,.int 0 0] }).push { cls:=.type "tuple",data:=.seq #[.ref h.objs.size,.ref<|h.objs.size+1] }).push { cls:=.type "tuple",data:=.seq #[.none,.none] }).push { cls:=.type "zip",data:=.fields #[.none,.bool false,.bool false,.ref<|h.objs.size+2,.ref<|h.objs.size+3] }
theorem aeG (t u:Addr)(xs ys:Array a9):Meets (A4.«zip.__new__» ⟨[.type "zip",.ref t,.ref u],[]⟩) (λ_ R s=>s.heap.IsTuple t xs/\s.heap.IsTuple u ys/\R (.ok<|.ret<|.ref<|s.heap.objs.size+4) { s with heap:=tzH s.heap t u }):=
 .of_wp λprog w A R s h=>by
  obtain⟨hp,g,d,tk,os⟩:=s;obtain⟨h1,h2,h⟩:=h;have hsub:=PySem.sub_zip;have t1:Heap.IsTuple (Shared.heap ⟨hp,g,d,tk,os⟩) t xs:=h1;have t2:Heap.IsTuple (Shared.heap ⟨hp.push { cls:=.type "tuple_iterator",data:=.fields #[.ref t,.int 0 0] },g,d,tk,os⟩) u ys:=by
   obtain⟨o,e,r⟩:=h2;exact⟨o,ag _ e,r⟩
  unfold tzH at h
  wp_walk using oB t1,oB t2
  refine⟨_,rfl,?_⟩;simp only[iL] at h ⊢;exact h
section
variable {pr:cS}{wo:gu}{Ar:i7}{Ex:Zs}{st:bE}
theorem abq {t u:Addr}{xs ys:Array a9}{R:Zs}(t0:st.heap.IsTuple t xs)(u0:st.heap.IsTuple u ys)
  (r:∀g,AE g (st.heap.objs.size+4) (st.heap.objs.size+2) (st.heap.objs.size+3) .none->mP g (st.heap.objs.size+2) (.ref st.heap.objs.size) (.ref<|st.heap.objs.size+1)->mP g (st.heap.objs.size+3) .none .none->
   g.IsTupleIter st.heap.objs.size t 0->g.IsTupleIter (st.heap.objs.size+1) u 0->g.objs.size=st.heap.objs.size+5->(∀c o,st.heap.get? c=some o->g.get? c=some o)->R (.ref<|st.heap.objs.size+4) { st with heap:=g }):
  b9 (eB pr wo) Ar (call (.type "zip") [.ref t,.ref u]) R Ex st:=by
 refine callType_new PySem.F.called_zip (by decide) (PySem.F.typeCall_zip_2 _ _) (PySem.F.newCall_zip_2 _ _) (λobj=>PySem.F.args_object_init_3 obj _ _) PySem.F.entry_zip_new (aeG t u xs ys) ⟨t0,u0,?_⟩;have gp:∀(h:Heap) (o:Obj) (n:Nat),h.objs.size=n->o.isFreed=false->(h.push o).get? n=some o:=λh o n e f=>by subst e;exact ay _ f
 have g5:(tzH st.heap t u).get? (st.heap.objs.size+4)=some _:=gp _ _ _ (by simp only[iL]) rfl;have g4:(tzH st.heap t u).get? (st.heap.objs.size+3)=some _:=ag _<|gp _ _ _ (by simp only[iL]) rfl;have g3:(tzH st.heap t u).get? (st.heap.objs.size+2)=some _:=ag _<|ag _<|gp _ _ _ (by simp only[iL]) rfl;have g2:(tzH st.heap t u).get? (st.heap.objs.size+1)=some _:=ag _<|ag _<|ag _<|gp _ _ _ (by simp only[iL]) rfl;have g1:(tzH st.heap t u).get? st.heap.objs.size=some _:=ag _<|ag _<|ag _<|ag _<|gp _ _ _ rfl rfl;exact⟨⟨_,g5,rfl⟩,r _ g5 g3 g4 ⟨_,g1,rfl,rfl⟩ ⟨_,g2,rfl,rfl⟩ (by unfold tzH;simp only[iL]) λc o x=>ag _<|ag _<|ag _<|ag _<|ag _ x⟩
end
def Ity (K : bq) (a b : Addr) : It :=
  ⟨λi H => ∃ xs ys x y, SqT K H a xs ∧ SqT K H b ys ∧ xs[i]? = some x ∧ ys[i]? = some y,
   λi H x H' => ∃ y1 y2 l, (∀ xs, SqT K H a xs → xs[i]? = some y1) ∧ (∀ ys, SqT K H b ys → ys[i]? = some y2) ∧ x=.ref l ∧ H l=none ∧ H'=upd H l (.tup [y1, y2]),
   λi H => ∃ xs ys, SqT K H a xs ∧ SqT K H b ys ∧ (xs.length ≤ i ∨ ys.length ≤ i)⟩
theorem mm4 {α:Type}{P:α->Prop}{a b c d:α}(h1:P a)(h2:P b)(h3:P c)(h4:P d):∀x∈[a,b,c,d],P x:=by simp[h1,h2,h3,h4]
theorem mm5 {α:Type}{P:α->Prop}{a b c d e:α}(h0:P e)(h1:P a)(h2:P b)(h3:P c)(h4:P d):∀x∈[e,a,b,c,d],P x:=by simp[h0,h1,h2,h3,h4]
theorem afa {α:Type}{x a b c d:α}(h:x∉[a,b,c,d]):x≠a/\x≠b/\x≠c/\x≠d:=by simpa using h
theorem agK {α:Type}{a b c d e:α}:∀x∈[e,b,c,d],x∈[e,a,b,c,d]:=mm4 (by simp) (by simp) (by simp)<|by simp
theorem VJ {P:cS}{w:gu}{K:bq}{elts:List Expr}{x1}{pos:Pos}(z TI TO i1 i2 a b:Addr)(D:AZ z TI TO i1 i2 a b):
  Turn P w K (.Tuple elts x1 pos) (Ity K a b) [z,TI,TO,i1,i2] z (λi h=>AE h z TI TO .none/\mP h TI (.ref i1) (.ref i2)/\(∃u v,mP h TO u v)/\h.IsTupleIter i1 a i/\h.IsTupleIter i2 b i) where
 mem:=by simp
 obj:=λi h ⟨q1,q2,⟨u,v,q3⟩,⟨o4,e4,c4,d4⟩,⟨o5,e5,c5,d5⟩⟩ c hc=>mm5 (P:=λc=>∃o,h.get? c=some o/\∀v,o.data≠.cell v) ⟨_,q1,λv=>nofun⟩ ⟨_,q2,λv=>nofun⟩ ⟨_,q3,λv=>nofun⟩ ⟨_,e4,λv=>d4▸nofun⟩ ⟨_,e5,λv=>d5▸nofun⟩ c hc
 keep:=λi h h' ⟨q1,q2,⟨u,v,q3⟩,q4,q5⟩ k=>⟨k z (by simp) _ q1,k TI (by simp) _ q2,⟨u,v,k TO (by simp) _ q3⟩,q4.at λo x=>k i1 (by simp) o x,q5.at λo x=>k i2 (by simp) o x⟩
 item:=by
  intro X hP hw hK hc i π s σ H E I hf st hg;subst hP hw hK;obtain⟨xs,ys,x,y,hq,hq2,hx,hy⟩:=hg;obtain⟨q1,q2,⟨u,v,q3⟩,q4,q5⟩:=st;obtain⟨χ,rv,p,hz⟩:=I.tuple hq;obtain⟨its2,rv2,p2,hz2⟩:=I.tuple hq2;obtain⟨ux,hu,ru⟩:=rv.get hx;obtain⟨uy,hu2,ru2⟩:=rv2.get hy;refine Yb D q1 q2 q3 q4 q5 (show s.heap.IsTuple a χ.toArray from p) (show s.heap.IsTuple b its2.toArray from p2) (x:=ux) (y:=uy) (by simpa using hu) (by simpa using hu2) λh' a1 a2 a3 a4 a5 a6 k=>?_;obtain⟨o4,e4,c4,d4⟩:=id a3;obtain⟨o5,e5,c5,d5⟩:=id a4;obtain⟨p4,f4,_,_⟩:=id q4;obtain⟨p5,f5,_,_⟩:=id q5;obtain⟨h1,I1,z1,k1⟩:=FJ (h':=h') [z,TO,i1,i2] s I (by simp[eK D.TOz,eK D.i1z,eK D.i2z,D.TOi1,D.TOi2,D.i12]) (λc hc=>hf c<|agK c hc) (mm4 ⟨_,q1⟩ ⟨_,q3⟩ ⟨_,f4⟩ ⟨_,f5⟩) (mm4 ⟨_,a1,rfl⟩ ⟨_,a2,rfl⟩ ⟨_,e4,zM d4⟩ ⟨_,e5,zM d5⟩) λc o hc e=>let⟨n1,n2,n3,n4⟩:=afa hc;k c o n1 n2 n3 n4 e
  have I2:Inv X π σ (upd H s.heap.objs.size<|.tup [x,y]) { s with heap:=h',toks:=s.toks }:=
   I1.laid (t':=s.toks) k1 (sT z1) (show cU X.prog X.w _ _ _ (.tup [x,y]) from⟨(show 2<=av by decide),[ux,uy],.cons ru<|.cons ru2 .nil,⟨_,a5,rfl,_,rfl⟩⟩)
  have fr:H s.heap.objs.size=none:=I.hok.fresh<|aI _;have nn:∀c,(∃o,s.heap.get? c=some o)->H c=none->upd H s.heap.objs.size (.tup [x,y]) c=none:=λc ⟨o,ho⟩ e=>by rw[bz<|c6<|aT ho];exact e
  have all:∀c∈[z,TI,TO,i1,i2],∃o,s.heap.get? c=some o:=mm5 ⟨_,q1⟩ ⟨_,q2⟩ ⟨_,q3⟩ ⟨_,f4⟩ ⟨_,f5⟩;have hTI:mP h' TI (.ref i1) (.ref i2):=k _ _ D.TIz D.TITO D.TIi1 D.TIi2 q2;refine⟨_,rfl,wpAny_letOwnedTupleGo_zip a1 λh2 e2 sb=>?_⟩;have fz:=hf z (by simp);refine lO fz λg0 g1 g2 g3 g4 g5=>?_;refine⟨.ref s.heap.objs.size,_,I2.turned (t':=s.toks) (λc o hc y=>(sb.2 c hc).trans y) (nn z ⟨_,q1⟩ g0) g1 g3 g4 g5,rfl,⟨x,y,_,λzs hz'=>by rw[I.Bl hz' hq];exact hx,λzs hz'=>by rw[I.Bl hz' hq2];exact hy,rfl,fr,rfl⟩,⟨e2,sb.extBut _ _ D.TIz hTI,⟨_,_,sb.extBut _ _ D.TOz a2⟩,a3.at λo y=>(sb.2 i1 D.i1z).trans y,a4.at λo y=>(sb.2 i2 D.i2z).trans y⟩,λc hc=>nn c (all c hc) (hf c hc).1⟩
 done:=by
  intro X hP hw hK hc i π s σ H E I hf st hg;subst hP hw hK;refine wy hg λxs ys hq hq2 hx=>?_;obtain⟨q1,q2,⟨u,v,q3⟩,q4,q5⟩:=st;obtain⟨χ,rv,p,hz⟩:=I.tuple hq;obtain⟨its2,rv2,p2,hz2⟩:=I.tuple hq2;have hl:=rv.length;have hl2:=rv2.length;exact Wk (I.ok.hd hc) D q1 q2 q3 q4 q5 (show s.heap.IsTuple a χ.toArray from p) (show s.heap.IsTuple b its2.toArray from p2) (hx.imp (λh=>by simp;lia) λh=>by simp;lia) λh' k=>⟨rfl,Inv.abe [z,TO,i1,i2] I (λc hc=>hf c<|agK c hc) λc o hc e=>let⟨n1,n2,n3,n4⟩:=afa hc;k c o n1 n2 n3 n4 e⟩
 self:=λ_ _ _ _ _ st h=>wpAny_pyIter_zip st.1 h
section
variable {X:Cx}
def afO (K:bq)(ta:TA):TI:=λσ H R=>ta σ H λvs H1=>∃p q,vs=[.ref p,.ref q]/\(∃xs,SqT K H1 p xs)/\(∃xs,SqT K H1 q xs)/\R (Ity K p q) H1
theorem aaJ {elts:List Expr}{x1}{pt:Pos}{a b:Expr}{ta:TA}{p pos:Pos}(hg:Gl X "zip")(hm:X.mg "zip" = none)(ha:PA X [a,b] ta)(hs:aS [a,b] X.env=[(false,eval a X.env),(false,eval b X.env)]:=by rfl)(hs2:aS [b] X.env=[(false,eval b X.env)]:=by rfl):PI X (.Tuple elts x1 pt) (.Call (.Name "zip" p) [a,b] [] pos) (afO X.K ta):=by
 intro π s σ H R I h;refine Call_<|sH I hg hm boot_zip<|eP (thn (ha pos π s σ H _ I h) λus s1 hE=>xq2 hE λvs H1 I1 r1 q1=>?_) (by rw[hs,hs2]) (by rw[hs2];rfl);obtain⟨l,l2,e,⟨xs,hq⟩,⟨ys,hq2⟩,q⟩:=q1;subst e;obtain⟨u,v,rfl,rx,ry⟩:=vals2 r1;cases rx;cases ry;obtain⟨χ,rv,pl,hz⟩:=I1.tuple hq;obtain⟨its2,rv2,pl2,hz2⟩:=I1.tuple hq2;have lt1:l<s1.heap.objs.size:=by obtain⟨o,e,_⟩:=(show s1.heap.IsTuple l χ.toArray from pl);exact aT e
 have lt2:l2<s1.heap.objs.size:=by obtain⟨o,e,_⟩:=(show s1.heap.IsTuple l2 its2.toArray from pl2);exact aT e
 refine abq (show s1.heap.IsTuple l χ.toArray from pl) (show s1.heap.IsTuple l2 its2.toArray from pl2) λh' e1 e2 e3 e4 e5 sz k=>?_;have I2:Inv X π σ H1 { s1 with heap:=h' }:=I1.kept (t':=s1.toks) k;have D:AZ (s1.heap.objs.size+4) (s1.heap.objs.size+2) (s1.heap.objs.size+3) s1.heap.objs.size (s1.heap.objs.size+1) l l2:=zipApart_new lt1 lt2;refine wpAny_pyIter_zip (s:={ s1 with heap:=h' }) e1 ?_;refine⟨_,[s1.heap.objs.size+4,s1.heap.objs.size+2,s1.heap.objs.size+3,s1.heap.objs.size,s1.heap.objs.size+1],_,_,H1,rfl,I2,VJ _ _ _ _ _ l l2 D,⟨e1,e2,⟨_,_,e3⟩,e4,e5⟩,λb hb=>?_,q⟩;have hb':s1.heap.objs.size<=b:=by
  rcases aE.mp hb with z|hb
  ·rw[z];exact rf _ _
  rcases aE.mp hb with z|hb
  ·rw[z];exact rf _ _
  rcases aE.mp hb with z|hb
  ·rw[z];exact rf _ _
  rcases aE.mp hb with z|hb
  ·rw[z];exact aI _
  ·rw[bg.mp hb];exact rf _ _
 exact I1.My hb'<|I1.hok.fresh hb'
theorem aab (h:∀O' H2,P O' H2->∃xs,SqT G.K H2 a xs/\DVs G O' H2 xs ds)(h':∀O' H2,P O' H2->∃xs,SqT G.K H2 b xs/\DVs G O' H2 xs es):Ai G (Ity G.K a b) (vy ds es) P:=by
 intro O' H2 ev;obtain⟨xs,hq,hd⟩:=h O' H2 ev;obtain⟨ys,hq2,hd2⟩:=h' O' H2 ev;have l1:=bj hd;have l2:=bj hd2;refine⟨λi hi=>?_,λi x H' hi y=>?_,xs,ys,hq,hq2,by rw[zq];lia⟩
 ·rw[zq] at hi;have i1:i<xs.length:=by lia
  have i2:i<ys.length:=by lia
  exact⟨xs,ys,xs[i],ys[i],hq,hq2,by simp,by simp⟩
 ·obtain⟨y1,y2,l,k1,k2,rfl,fr,rfl⟩:=y;obtain⟨d1,e1,v1⟩:=qZ hd<|k1 xs hq;obtain⟨d2,e2,v2⟩:=qZ hd2<|k2 ys hq2;exact⟨aV fr _,.tup [d1,d2],R0 e1 e2,.tup (SqU.of aM)<|.cons (v1.mono<|aV fr _)<|.cons (v2.mono<|aV fr _) .nil⟩
def Io (f:Zad):Zad:=λm=>(f m).bind λd=>match d with
 |[.tup ds,.tup es]=>.ok<|vy ds es
 |_=>.stuck
theorem QW (hg:Gl X "zip")(hm:X.mg "zip" = none)(ha:FAE X E [a,b] fs)(hs:aS [a,b] X.env=[(false,eval a X.env),(false,eval b X.env)]:=by rfl)(hs2:aS [b] X.env=[(false,eval b X.env)]:=by rfl):FI X E (.Tuple elts x1 pt) (.Call (.Name "zip" p) [a,b] [] pos) (Io fs):=
 mK (aaJ hg hm ha hs hs2) λσ H R hE=>xq5 hE λO0 M0 H0 ow m Re q=>⟨O0,M0,H0,ow,m,Re,q.bind.imp (aC.refl _) λds q vs H' g hv=>by
  have z:∃xs ys,ds=[.tup xs,.tup ys]:=by
   cases ds with
   |nil=>exact q.elim
   |cons d ds=>cases d with
    |tup xs=>cases ds with
     |nil=>exact q.elim
     |cons e ds=>cases e with
      |tup ys=>cases ds with
       |nil=>exact⟨xs,ys,rfl⟩
       |cons _ _=>exact q.elim
      |_=>exact q.elim
    |_=>exact q.elim
  obtain⟨ds,es,rfl⟩:=z;cases hv with
  |cons h1 h3=>cases h3 with
  |cons h2 h4=>
   cases h4;cases h1 with
   |tup hl hd=>
    cases h2 with
    |tup hl2 hd2=>exact⟨_,_,rfl,⟨_,hl.sq⟩,⟨_,hl2.sq⟩,q _ H' g<|aab (λO' H2 ev=>⟨_,Qe (Re.mono g).mutk ev.2 hl.sq,hd.go (Re.mono g).mutk ev⟩) λO' H2 ev=>⟨_,Qe (Re.mono g).mutk ev.2 hl2.sq,hd2.go (Re.mono g).mutk ev⟩⟩⟩
end
end F
namespace Pk
open PySem L2 Hd F
section
def Ec:Zab:=
 (aU<|Fv (Cr "int" (aj 0))<|abL<|Cr "bool" (aj 0))
def GZ:Zab:=
 Ec
def xJ:Zac:=aH 1 1 GZ
def yr (φ_is_whole:Zac)(φ_common_divisor:Zac):Zab:=
 (aA (gIf (ql (lM<|fTv<|Cr "tuple" (aj 0))<|aB gNe (aF cu<|aa (aj 0) ao)<|fC<|.int 2) (aU<|fC<|.bl false) gNx)
 (aA (gIf (ql (lM<|fTv<|fFn φ_is_whole<|aa (ak gIx (aj 0)<|fC<|.int 0) ao)<|lM<|fTv<|fFn φ_is_whole<|aa (ak gIx (aj 0)<|fC<|.int 1) ao) (aU<|fC<|.bl false) gNx)
 (aU<|Fv (oZ gGe (ak gIx (aj 0)<|fC<|.int 1)<|fC<|.int 1)<|oZ gEq (fFn φ_common_divisor<|aa (ak gIx (aj 0)<|fC<|.int 0)<|aa (ak gIx (aj 0)<|fC<|.int 1) ao)<|fC<|.int 1)))
def xX:Zab:=
 (yr xJ gH)
def uI:Zac:=aH 1 1 xX
def Jc (φ_lowest:Zac):Zab:=
 (aU<|fFn φ_lowest<|aa (ak dO (ak gIx (aj 0)<|fC<|.int 0)<|ak gIx (aj 1)<|fC<|.int 0)<|aa (ak dO (ak gIx (aj 0)<|fC<|.int 1)<|ak gIx (aj 1)<|fC<|.int 1) ao)
def Jd:Zab:=
 (Jc oM)
def um:Zac:=aH 2 2 Jd
def gh:Zae:=
 (Fv (fFn uI<|aa (au 0) ao)<|abL<|fFn CV<|aa (au 0)<|aa (fC<|.tup [(.int 0),(.int 1)]) ao)
def fV:Zae:=
 (bC 1 [] (oU<|au 0) (hName 0) cQ gh)
def lX (φ_total:Zac)(l_2:Zae):Zab:=
 (aA (gIf (ql (lM<|fTv<|Cr "tuple" (aj 0))<|aB gNe (aF cu<|aa (aj 0) ao)<|aj 1) (aU<|fC<|.bl false) gNx)
 (aA (gIf (lM<|fTv<|aF Eb<|aa l_2 ao) (aU<|fC<|.bl false) gNx)
 (aU<|oZ gEq (fFn φ_total<|aa (aF uN<|aa (aj 0) ao) ao)<|fC<|.tup [(.int 1),(.int 1)])))
def mO:Zab:=
 (lX zx fV)
def cM:Zac:=aH 2 2 mO
def gZ:Zae:=
 (Fv (oZ WN (ak gIx (aj 0)<|fC<|.int 1)<|aj 1)<|fFn cM<|aa (ak bu (aj 1)<|ak gIx (aj 0)<|fC<|.int 1)<|aa (aF cu<|aa (ak gIx (aj 0)<|fC<|.int 2) ao) ao)
def jL:Zae:=
 (bC 1 [1] (cg<|aj 0) (hName 0) cQ gZ)
def rQ (l_2:Zae):Zab:=
 (aA (gIf (ql (lM<|fTv<|Cr "dict" (aj 1))<|aB gNe (aF cu<|aa (aj 1) ao)<|aF cu<|aa (aj 0) ao) (aU<|fC<|.bl false) gNx)
 (aU<|aF Eb<|aa l_2 ao))
def rJ:Zab:=
 (rQ jL)
def iH:Zac:=aH 2 2 rJ
def Ad (φ_rows_of:Zac)(φ_is_plan_for:Zac):Zab:=
 (aU<|fFn φ_is_plan_for<|aa (fFn φ_rows_of<|aa (au 0)<|aa (au 1) ao)<|aa (au 2) ao)
def Ak:Zab:=
 (Ad tK iH)
def wG:Zac:=aH 3 3 Ak
def nu (φ_is_plan:Zac):Zab:=
 (gIf (lM<|fTv<|fFn φ_is_plan<|aa (au 0)<|aa (au 1)<|aa (au 2) ao) JC gNx)
def nj:Zab:=
 (nu wG)
def dM:Zac:=aH 3 3 nj
def gf:Zae:=
 (aN<|aa (au 0)<|aa (ak gIx (aj 1)<|fC<|.int 1) ao)
def gq:Zae:=
 (bC 2 [] (Io<|aa (au 2)<|aa (ak gIx (aj 0)<|fC<|.int 3) ao) (du 2<|aJ (hName 0)<|aJ (hName 1) dw) cQ gf)
def iQ (l_2:Zae):Zab:=
 (aA (gIf (aB gEq (ak gIx (aj 0)<|fC<|.int 0)<|fC<|.str "deal") (jc<|aF uN<|aa (ak gIx (aj 0)<|fC<|.int 2) ao) gNx)
 (aA (aK 2<|ak bu (ak bu (aj 1)<|ak gIx (aj 0)<|fC<|.int 1)<|ak gIx (aj 0)<|fC<|.int 2)
 (jc l_2)))
def iU:Zab:=
 (iQ gq)
def cJ:Zac:=aH 3 2 iU
def gV (Φ:Zac):Zab:=
 (gIf (aB gNe (aj 3)<|fC<|.tup [(.int 0),(.int 1)]) (aK 2<|fFn vK<|aa (au 2)<|aa (fFn um<|aa (au 3)<|aa (fFn Φ<|aa (au 4)<|aa (au 1) ao) ao) ao) gNx)
def jl (Φ:Zac):Zab:=
 (cz (cg<|fFn cJ<|aa (au 0)<|aa (au 1) ao) (du 2<|aJ (hName 3)<|aJ (hName 4) dw)<|gV Φ)
def m6 (l_2:Zab):Zab:=
 (aA (gIf (aB gEq (ak gIx (aj 0)<|fC<|.int 0)<|fC<|.str "end") (aU<|ak gIx (aj 0)<|fC<|.int 1) gNx)
 (aA (aK 2<|fC<|.tup [(.int 0),(.int 1)])
 (aA l_2
 (aU<|au 2))))
def gP:Nat->Zac
 |0=>λ_=>.stuck
 |n+1=>aH 5 2
   (m6<|jl<|gP n)
def Ga (φ_refuse_no_plan:Zac)(φ_comes_of:Zac):Zab:=
 (aA (gEx<|fFn φ_refuse_no_plan<|aa (au 0)<|aa (fC<|.int 1)<|aa (au 1) ao)
 (aA (gEx<|fFn φ_refuse_no_plan<|aa (au 0)<|aa (fC<|.int 2)<|aa (au 2) ao)
 (aU<|fFn φ_comes_of<|aa (au 0)<|aa (Ul [((fC<|.int 1),(au 1)),((fC<|.int 2),(au 2))]) ao)))
def Eg:Zab:=
 (Ga dM<|gP 30)
def vZ:Zac:=aH 3 3 Eg
end
theorem afQ (a b c d:Int):gEq (.tup [.int a,.int b]) (.tup [.int c,.int d])=some (decide (a=c)&&decide (b=d)):=by
 have s:∀x y:Int,iO (.tuple [.int x,.int y])=true:=λ_ _=>rfl;simp[gEq,rP,toPy,tu,s,i8,iN];rfl
theorem M3 (x y:Rat):gEq (rD x) (rD y)=some (decide<|x=y):=by
 show gEq (.tup [.int x.num,.int x.den]) (.tup [.int y.num,.int y.den])=_;rw[afQ];congr 1;by_cases h:x=y
 ·subst h;simp
 ·rw[decide_eq_false h];cases e:(decide (x.num=y.num)&&decide ((x.den:Int)=y.den)) with
  |false=>rfl
  |true=>
   simp at e;exact absurd (Rat.ext e.1<|by exact_mod_cast e.2) h
theorem Mt {a b:Rat}{k l:Nat}(ha:Sz k a)(hb:Sz l b)(hk:k+l<=8900):vK [rD a,rD b]=.ok (false,rD<|a+b):=by
 have a1:Bq a.num:=eV<|bB ha.1 (by lia);have a2:Bq (a.den:Int):=eV<|bB (by simpa using ha.2) (by lia);have b1:Bq b.num:=eV<|bB hb.1 (by lia);have b2:Bq (b.den:Int):=eV<|bB (by simpa using hb.2) (by lia);have e:=uE (t:=a.num*b.den+b.num*a.den) (Ez a b)<|eV<|bB (p7 (by simpa using ha.2) (by simpa using hb.2)) (by lia);rw[Tf] at e;simp[vK,aH,KC,JP,aU,Me.let,Sl.let,fFn,aa,ao,ak,aj,fC,gIx,oK,ix0,ix1,dO,bc,a1,a2,b1,b2];rw[e];simp[oK]
theorem wC {a b:Rat}{k l:Nat}(ha:Sz k a)(hb:Sz l b)(hk:k+l<=8900):um [rD a,rD b]=.ok (false,rD<|a*b):=by
 have a1:Bq a.num:=eV<|bB ha.1 (by lia);have a2:Bq (a.den:Int):=eV<|bB (by simpa using ha.2) (by lia);have b1:Bq b.num:=eV<|bB hb.1 (by lia);have b2:Bq (b.den:Int):=eV<|bB (by simpa using hb.2) (by lia);have e:=uE (t:=a.num*b.num) (Ez a b)<|eV<|bB (p7 (by simpa using ha.2) (by simpa using hb.2)) (by lia);rw[Y7] at e;simp[um,aH,Jd,Jc,aU,Me.let,Sl.let,fFn,aa,ao,ak,aj,fC,gIx,oK,ix0,ix1,dO,a1,a2,b1,b2];rw[e];simp[oK]
noncomputable def rOf:D->Rat
 | .tup [.int a,.int b]=>ar a b
 |_=>0
theorem Jj (r:Rat):rOf (rD r)=r:=yl r
abbrev Pl:=Int->Str->List Rat
mutual
def vG (p:Pl):Gm->Rat
 | .fin d=>rOf<|qD d
 | .deal _ ws=>vW p ((bZ ws).map rOf) ws
 | .move s n ws=>vW p (p s n) ws
def vW (p:Pl):List Rat->Ws->Rat
 |x::xs,.cons _ g r=>x*vG p g+vW p xs r
 |_,_=>0
end
def aaK (S:Nat)(P:D)(p:Pl)(s:Int)(n:Str)(ws:Ws):Prop:=(bu P<|.int s).bind (λd=>bu d<|.str n)=some (.tup<|(p s n).map rD)/\(p s n).length=dF ws/\∀x∈p s n,Sz S x
mutual
def cG (S:Nat)(P:D)(p:Pl):Gm->Prop
 | .fin d=>∃q:Rat,d=rq q/\Sz 40 q
 | .deal _ ws=>(∃l:List Rat,bZ ws=l.map rD/\∀x∈l,Sz S x)/\dF ws<=100/\cW S P p ws
 | .move s n ws=>aaK S P p s n ws/\dF ws<=100/\cW S P p ws
def cW (S:Nat)(P:D)(p:Pl):Ws->Prop
 | .nil=>True
 | .cons _ g r=>cG S P p g/\cW S P p r
end
mutual
def bG (S:Nat):Gm->Nat
 | .fin _=>40
 | .deal _ ws=>1+bW S ws
 | .move _ _ ws=>1+bW S ws
def bW (S:Nat):Ws->Nat
 | .nil=>0
 | .cons _ g r=>S+bG S g+1+bW S r
end
def brW:List Rat->Ws->List D
 |x::xs,.cons _ g r=>.tup [rD x,dG g]::brW xs r
 |_,_=>[]
theorem Dl:∀(l:List Rat) (ws:Ws),bZ ws=l.map rD->dWs ws=brW l ws
 |[],.nil,_=>rfl
 |[],.cons _ _ _,h=>by cases h
 |_::_,.nil,h=>by cases h
 |x::l,.cons d g r,h=>by
  have h:d::bZ r=rD x::l.map rD:=h;injection h with h1 h2
  show .tup [d,dG g]::dWs r=.tup [rD x,dG g]::brW l r;rw[h1,Dl l r h2]
theorem Ym:∀(l:List Rat) (ws:Ws),cA (du 2<|aJ (hName 0)<|aJ (hName 1) dw) cQ gf [.un,.un] (vy (l.map rD)<|dWs ws)=.ok (brW l ws)
 |[],ws=>by simp[vy,cA,brW]
 |_::_,.nil=>rfl
 |x::l,.cons d g r=>by
  have ih:=Ym l r;have e:gf [.fz<|rD x,.fz<|.tup [d,dG g]]=.ok (.tup [rD x,dG g]):=rfl;show cA _ _ _ _ (.tup [rD x,.tup [d,dG g]]::vy (l.map rD) (dWs r))=.ok (.tup [rD x,dG g]::brW l r);rw[cA];simp[du,aJ,hName,dw,cQ,e,ih]
theorem Q5:∀(l:List Rat) (ws:Ws),(brW l ws).length<=dF ws
 |[],ws=>by cases ws<;>simp[brW]
 |_::_,.nil=>by simp[brW]
 |x::l,.cons d g r=>by have:=Q5 l r;simp[brW,dF];lia
theorem ab2 {P:D}{n:Str}{ws:Ws}{l:List Rat}(h:bZ ws=l.map rD)(hl:dF ws<=100):cJ [dG<|.deal n ws,P]=.ok (true,.lst<|brW l ws):=by
 have x0:∀a b c:D,atI [a,b,c] 0=some a:=λ_ _ _=>rfl;have x2:∀a b c:D,atI [a,b,c] 2=some c:=λ_ _ _=>rfl;have hz:(dWs ws).length<=16777216:=by rw[pG];lia
 rw[Dl l ws h] at hz;simp[cJ,iU,iQ,aH,aA,gIf,aB,ak,aj,fC,gIx,dG,x0,x2,jc,Me.let,Sl.let,aF,aa,ao,uN,Dl l ws h]
theorem aaV {S:Nat}{P:D}{p:Pl}{s:Int}{n:Str}{ws:Ws}(h:aaK S P p s n ws)(hl:dF ws<=100):cJ [dG<|.move s n ws,P]=.ok (true,.lst<|brW (p s n) ws):=by
 have x0:∀a b c d:D,atI [a,b,c,d] 0=some a:=λ_ _ _ _=>rfl;have x1:∀a b c d:D,atI [a,b,c,d] 1=some b:=λ_ _ _ _=>rfl;have x2:∀a b c d:D,atI [a,b,c,d] 2=some c:=λ_ _ _ _=>rfl;have x3:∀a b c d:D,atI [a,b,c,d] 3=some d:=λ_ _ _ _=>rfl;obtain⟨h1,h2,h3⟩:=h;obtain⟨d1,e1,e2⟩:=cE.mp h1;have hz:(brW (p s n) ws).length<=16777216:=by have:=Q5 (p s n) ws;lia
 have hz2:(vy ((p s n).map rD)<|dWs ws).length<=16777216:=by rw[zq,pG];lia
 have e:gq [.fz<|dG<|.move s n ws,.fz P,.fz<|.tup<|(p s n).map rD]=.ok (.lst<|brW (p s n) ws):=by
  simp[gq,bC,Io,aa,ao,au,ak,aj,fC,gIx,dG,x3,cMe,Ym,hz,hz2]
 simp only[dG] at e;simp[cJ,iU,iQ,aH,aA,gIf,aB,ak,aj,fC,gIx,dG,x0,x1,x2,gNx,aK,e1,e2,e,jc,Me.let,Sl.let]
abbrev hBr:Zba:=du 2<|aJ (hName 3)<|aJ (hName 4) dw
theorem abE {Φ:Zac}{g0 s3 s4:Sl}{P:D}{q x v:Rat}{g:Gm}{S j k:Nat}{fr:Bool}(hq:Sz j q)(hx:Sz S x)(hv:Sz k v)(hk:j+(S+k)<=8900)(e:Φ [dG g,P]=.ok (fr,rD v)):
  gV Φ [g0,.fz P,.fz<|rD q,.fz<|rD x,.fz<|dG g]=.ok (.nx,[g0,.fz P,.fz<|rD<|q+x*v,.fz<|rD x,.fz<|dG g]):=by
 have e0:(.tup [.int 0,.int 1]:D)=rD 0:=rfl;by_cases h:x=0
 ·subst h;have en:gNe (rD 0) (rD 0)=some false:=by unfold gNe;rw[M3];rfl
  simp[gV,gIf,aB,aj,fC,e0,en,gNx,Rat.zero_mul,oq]
 ·have en:gNe (rD x) (rD 0)=some true:=by unfold gNe;rw[M3,decide_eq_false h];rfl
  have e1:=wC hx hv (by lia);have e2:=Mt hq (vX hx hv) (by lia);simp[gV,gIf,aB,aj,fC,e0,en,aK,fFn,aa,ao,au,e,e1,e2]
theorem X5 {Φ:Zac}{g:Gm}{P:D}{bs:List D}{v:Rat}{s3 s4:Sl}(hs:cJ [dG g,P]=.ok (true,.lst bs))(hn:∀d,g≠.fin d)
  (e:aL hBr (gV Φ) bs [.fz<|dG g,.fz P,.fz<|rD 0,.un,.un]=.ok (.nx,[.fz<|dG g,.fz P,.fz<|rD v,s3,s4])):aH 5 2 (m6<|jl Φ) [dG g,P]=.ok (false,rD v):=by
 have e0:(.tup [.int 0,.int 1]:D)=rD 0:=rfl;have c0:aB gEq (ak gIx (aj 0)<|fC<|.int 0) (fC<|.str "end") [.fz<|dG g,.fz P,.un,.un,.un]=.ok false:=by
  cases g with
  |fin d=>exact absurd rfl (hn d)
  |deal n ws=>rfl
  |move s n ws=>rfl
 have eL:jl Φ [.fz<|dG g,.fz P,.fz<|rD 0,.un,.un]=.ok (.nx,[.fz<|dG g,.fz P,.fz<|rD v,s3,s4]):=by
  simp[jl,cz,cg,fFn,aa,ao,au,hs,e]
 have fr:rD v=.tup [.int v.num,.int v.den]:=rfl;simp[aH,m6,aA,gIf,c0,gNx,aK,fC,e0,eL,aU,au,Me.let,Sl.let]
mutual
theorem acR {S:Nat}{P:D}{p:Pl}:∀(g:Gm) (n:Nat),cG S P p g->dp g<n->bG S g<=8800->gP n [dG g,P]=.ok (false,rD<|vG p g)/\Sz (bG S g) (vG p g)
 |g,0,_,hd,_=>by lia
 | .fin d,n+1,⟨q,hq,hs⟩,_,_=>by
  subst hq;have ev:vG p (.fin<|rq q)=q:=Jj q;have x0:∀a b:D,atI [a,b] 0=some a:=λ_ _=>rfl;have x1:∀a b:D,atI [a,b] 1=some b:=λ_ _=>rfl;rw[ev];refine⟨?_,hs⟩;show aH 5 2 (m6<|jl<|gP n) [.tup [.str "end",rD q],P]=_;simp[aH,m6,aA,gIf,aB,ak,aj,fC,gIx,x0,x1,aU,Me.let,Sl.let]
 | .deal nm ws,n+1,⟨⟨l,hl,hs⟩,hw,hc⟩,hd,hz=>by
  have ev:vG p (.deal nm ws)=vW p l ws:=by
   show vW p ((bZ ws).map rOf) ws=_;rw[hl,cy,show rOf∘rD=id from funext Jj,BO]
  rw[ev];have hz':1+bW S ws<=8800:=hz;obtain⟨⟨s3,s4,e⟩,h⟩:=PB (g0:=.fz<|dG<|.deal nm ws) ws l n 0 1 .un .un hc (by have:dpW ws+1<n+1:=hd;lia) hs jJ (by lia);rw[tp] at e h;refine⟨X5 (ab2 hl hw) (λ_ z=>by cases z) e,h⟩
 | .move s nm ws,n+1,⟨hp,hw,hc⟩,hd,hz=>by
  have hz':1+bW S ws<=8800:=hz;obtain⟨⟨s3,s4,e⟩,h⟩:=PB (g0:=.fz<|dG<|.move s nm ws) ws (p s nm) n 0 1 .un .un hc (by have:dpW ws+1<n+1:=hd;lia) hp.2.2 jJ (by lia);rw[tp] at e h;refine⟨X5 (aaV hp hw) (λ_ z=>by cases z) e,h⟩
theorem PB {S:Nat}{P:D}{p:Pl}{g0:Sl}:∀(ws:Ws) (l:List Rat) (n:Nat) (q:Rat) (j:Nat) (s3 s4:Sl),cW S P p ws->dpW ws<n->(∀x∈l,Sz S x)->Sz j q->j+bW S ws<=8801->
  (∃s3' s4',aL hBr (gV<|gP n) (brW l ws) [g0,.fz P,.fz<|rD q,s3,s4]=.ok (.nx,[g0,.fz P,.fz<|rD<|q+vW p l ws,s3',s4']))/\Sz (j+bW S ws) (q+vW p l ws)
 | .nil,l,n,q,j,s3,s4,_,_,_,hq,_=>by
  have e:brW l .nil=[]:=by cases l<;>rfl
  have e2:vW p l .nil=0:=by cases l<;>simp[vW]
  rw[e,e2,oq];exact⟨⟨s3,s4,rfl⟩,hq.mono<|by lia⟩
 | .cons d g r,[],n,q,j,s3,s4,_,_,_,hq,_=>by
  have e2:vW p [] (.cons d g r)=0:=by simp[vW]
  rw[e2,oq];exact⟨⟨s3,s4,rfl⟩,hq.mono<|by lia⟩
 | .cons d g r,x::l,n,q,j,s3,s4,hc,hd,hs,hq,hz=>by
  have hz':j+(S+bG S g+1+bW S r)<=8801:=hz;have hd':max (dp g) (dpW r)<n:=hd;obtain⟨e1,h1⟩:=acR g n hc.1 (by lia) (by lia);have hx:=hs x af;have st:=abE (g0:=g0) (s3:=s3) (s4:=s4) hq hx h1 (by lia) e1;obtain⟨⟨s3',s4',e2⟩,h2⟩:=PB (g0:=g0) r l n (q+x*vG p g) (j+(S+bG S g)+1) (.fz<|rD x) (.fz<|dG g) hc.2 (by lia) (λy hy=>hs y<|ae _ hy) (Gq hq<|vX hx h1) (by lia);have ev:q+vW p (x::l) (.cons d g r)=q+x*vG p g+vW p l r:=by rw[vW,AY]
  rw[ev];refine⟨⟨s3',s4',?_⟩,h2.mono (by show _<=j+(S+bG S g+1+bW S r);lia)⟩;show aL hBr _ (.tup [rD x,dG g]::brW l r) _=_;rw[aW (m1:=[g0,.fz P,.fz<|rD q,.fz<|rD x,.fz<|dG g]) rfl st,e2]
end
mutual
theorem b20:∀g:Gm,bG 20 g+21<=61*szG g
 | .fin _=>by simp[bG,szG]
 | .deal _ ws=>by have:=adb ws;simp only[bG,szG];lia
 | .move _ _ ws=>by have:=adb ws;simp only[bG,szG];lia
theorem adb:∀ws:Ws,bW 20 ws<=61*szW ws
 | .nil=>by simp[bW]
 | .cons _ g r=>by have:=b20 g;have:=adb r;simp only[bW,szW];lia
end
noncomputable def uni (c k:Nat):List Rat:=(bp c).map λj=>if j=k then 1 else 0
noncomputable def nmR:D->Str
 | .tup [_,.str n,_,_]=>n
 |_=>⟨#[]⟩
def bf (Rs:List D)(q:Str->List Rat):D:=.dct (Rs.map λd=>.inr<|nmR d)<|Rs.map λd=>.tup<|(q<|nmR d).map rD
theorem v7 (f:Str->D){n:Str}:∀Rs:List D,(∃d∈Rs,nmR d=n)->Ba (Rs.map λd=>.inr<|nmR d) (Rs.map λd=>f<|nmR d) (.inr n)=some (f n)
 |[],⟨_,h,_⟩=>by cases h
 |d::Rs,⟨d',h,e⟩=>by
  show(if(xS (nmR d):Key)=.inr n then some (f<|nmR d) else Ba (Rs.map λd=>.inr<|nmR d) (Rs.map λd=>f<|nmR d) (.inr n))=_;by_cases c:nmR d=n
  ·rw[c,if_pos rfl]
  ·rw[if_neg λz=>c<|Sum.inr.inj z];rcases aE.mp h with z|z
   ·exact absurd (z▸e) c
   ·exact v7 f Rs ⟨d',z,e⟩
def okS (S:Nat)(l:List Rat)(c:Nat):Prop:=l.length=c/\(∀x∈l,0<=x.num/\Sz S x)/\l.sum=1/\l.length<=3
theorem Ot:uI [rD x]=.ok (false,.bl true):=by
 have x0:∀a b:D,atI [a,b] 0=some a:=λ_ _=>rfl;have x1:∀a b:D,atI [a,b] 1=some b:=λ_ _=>rfl;have w:∀i:Int,xJ [.int i]=.ok (false,.bl true):=λ_=>rfl;have e:=jt x.num x.den;rw[Ze] at e;have g1:=jg x;have l2:cu [.tup [.int x.num,.int x.den]]=some (.int 2):=rfl;have it:Cr "tuple" (aj 0) [.fz<|.tup [.int x.num,.int x.den]]=.ok (.bl true):=rfl;rw[oK];simp[uI,aH,xX,yr,aA,gIf,ql,lM,fTv,it,aB,aF,aa,ao,aj,l2,fC,gNe,gNx,fFn,ak,gIx,x0,x1,w,aU,Me.let,Sl.let,Fv,oZ,gGe,g1,e]
theorem Nb (hS:S<=100){l:List Rat}{c:Nat}(h1:l.length=c)(h2:∀x∈l,0<=x.num/\Sz S x)(h3:l.sum=1)(h4:l.length<=6):cM [.tup<|l.map rD,.int c]=.ok (false,.bl true):=by
 have et:=Il (k:=S) (λx hx=>(h2 x hx).2) (by have:l.length*(S+1)<=6*101:=Nat.mul_le_mul h4 (by lia);lia) (by lia);rw[h3] at et;have ec:cA (hName 0) cQ gh [.un] (l.map rD)=.ok (l.map λ_=>.bl true):=bV l λx hx=>by
  refine⟨[.fz<|rD x],rfl,rfl,?_⟩;have eu:=Vg (h2 x hx).2 jJ (by lia);have e0:rD 0=.tup [.int 0,.int 1]:=rfl;have q:¬(x.num*(0:Rat).den<(0:Rat).num*x.den):=by
   have:=(h2 x hx).1
   show ¬(x.num*1<0*(x.den:Int))
   lia
  rw[e0,decide_eq_false q] at eu;have er:=Ot (x:=x);simp[gh,Fv,abL,fFn,aa,ao,fC,au,eu,er,fTv]
 have z1:l.length<=16777216:=by lia
 have eq:fV [.fz<|.tup<|l.map rD,.fz<|.int c]=.ok (.lst<|l.map λ_=>.bl true):=by
  simp[fV,bC,oU,au,cMe,ec,z1]
 have ea:=zE (f:=λ_:Rat=>D.bl true) (l:=l) λ_ _=>rfl;have e1:rD 1=.tup [.int 1,.int 1]:=rfl;have eg:gEq (rD 1) (.tup [.int 1,.int 1])=some true:=by rw[← e1,M3];simp
 have ln:cu [.tup<|l.map rD]=some (.int c):=by simp[cu,h1]
 have it:Cr "tuple" (aj 0) [.fz<|.tup<|l.map rD,.fz<|.int c]=.ok (.bl true):=rfl;have gl:uN [.tup<|l.map rD]=some (.lst<|l.map rD):=rfl;simp[cM,mO,lX,aH,aA,gIf,ql,lM,fTv,it,aB,aF,aa,ao,aj,ln,gNe,gNx,eq,ea,aU,Me.let,Sl.let,oZ,fFn,gl,et,fC,eg]
theorem aaH (hS:S<=100){l:List Rat}{c:Nat}(h:okS S l c):cM [.tup<|l.map rD,.int c]=.ok (false,.bl true):=Nb hS h.1 h.2.1 h.2.2.1 (by have:=h.2.2.2;lia)
theorem K4 (hS:S<=100){Rs:List D}{q:Str->List Rat}(hr:∀d∈Rs,NQ d)(hl:Rs.length<=1000)(ho:∀d∈Rs,okS S (q<|nmR d)<|wdD d):iH [.lst Rs,bf Rs q]=.ok (false,.bl true):=by
 have ec:cA (hName 0) cQ gZ [.un,.fz<|bf Rs q] Rs=.ok (Rs.map λ_=>.bl true):=by
  have:=bV (h:=hName 0) (ft:=cQ) (fe:=gZ) (m0:=[.un,.fz<|bf Rs q]) (g:=id) (f:=λ_=>.bl true) Rs λd hd=>by
   refine⟨[.fz d,.fz<|bf Rs q],rfl,rfl,?_⟩;have hv:=v7 (λn=>.tup<|(q n).map rD) Rs ⟨d,hd,rfl⟩;have ho':=aaH hS<|ho d hd;obtain⟨s,n,ws,r,rfl⟩:=hr d hd;have x1:∀a b c d:D,atI [a,b,c,d] 1=some b:=λ_ _ _ _=>rfl;have x2:∀a b c d:D,atI [a,b,c,d] 2=some c:=λ_ _ _ _=>rfl;have hv:Ba (Rs.map λd=>.inr<|nmR d) (Rs.map λd=>.tup<|(q<|nmR d).map rD) (.inr n)=some (.tup<|(q n).map rD):=hv;have ho':cM [.tup<|(q n).map rD,.int ((bZ ws).length:Nat)]=.ok (false,.bl true):=ho';have gi:WN (.str n) (bf Rs q)=some true:=by simp[WN,bf,tH,hv]
   have gg:bu (bf Rs q) (.str n)=some (.tup<|(q n).map rD):=by simp[bu,bf,tH,hv]
   have ln:cu [.tup<|bZ ws]=some (.int ((bZ ws).length:Nat)):=rfl;simp[gZ,Fv,oZ,ak,aj,fC,gIx,dU,x1,x2,gi,gg,fFn,aa,ao,aF,ln,ho',fTv]
  simpa using this
 have z1:Rs.length<=16777216:=by lia
 have eq:jL [.fz<|.lst Rs,.fz<|bf Rs q]=.ok (.lst<|Rs.map λ_=>.bl true):=by
  have eb:(Sl.fz<|bf Rs q).bor=.fz (bf Rs q):=rfl;simp[jL,bC,cg,aj,cMe,eb,ec,z1]
 have ea:=zE (f:=λ_:D=>D.bl true) (l:=Rs) λ_ _=>rfl;have l1:cu [bf Rs q]=some (.int Rs.length):=by simp[cu,bf]
 have l2:cu [.lst Rs]=some (.int Rs.length):=rfl;have it:Cr "dict" (aj 1) [.fz<|.lst Rs,.fz<|bf Rs q]=.ok (.bl true):=rfl;simp[iH,rJ,rQ,aH,aA,gIf,ql,lM,fTv,it,aB,aF,aa,ao,aj,l1,l2,gNe,gNx,eq,ea,aU,Me.let,Sl.let]
abbrev rowsOf (g:Gm)(s:Int):List D:=(tbl<|prG [] ([],[]) g).2.filter λd=>decide<|sdD d=s
theorem IV (hS:S<=100){g:Gm}{s:Int}{q:Str->List Rat}(h:jm g)(hs:sdG g)(hd:dp g<=50)(hz:szG g<=10000)(hl:(rowsOf g s).length<=1000)(ho:∀d∈rowsOf g s,okS S (q<|nmR d)<|wdD d):dM [dG g,.int s,bf (rowsOf g s) q]=.ok (false,.non):=by
 have e1:=QZ (s:=s) h hs hd hz;have e2:=K4 hS (q:=q) (λd hd=>zF (fq.mp hd).1) hl ho;have e3:wG [dG g,.int s,bf (rowsOf g s) q]=.ok (false,.bl true):=by
  simp[wG,Ak,Ad,aH,aU,Me.let,Sl.let,fFn,aa,ao,au,e1,e2]
 simp[dM,nj,nu,aH,gIf,lM,fTv,fFn,aa,ao,au,e3,gNx]
noncomputable def p2 (q1 q2:Str->List Rat):Pl:=λs n=>if s=1 then q1 n else if s=2 then q2 n else[]
abbrev Tr3:=List Int×Gm×Rc
theorem Wv (h:k∈T.1):k∈(tst T p).1:=by grind[tst]
theorem Ja:∀(l:List Tr3) (T:Tb),k∈T.1->k∈(l.foldl tst T).1
 |[],T,h=>h
 |p::l,T,h=>Ja l (tst T p)<|Wv h
theorem MN:∀(l:List Tr3) (T:Tb) (p:Tr3),p∈l->p.2.1=.move s n ws->kn s n∈(l.foldl tst T).1
 |[],_,_,h,_=>by cases h
 |p'::l,T,p,h,e=>by
  rcases aE.mp h with z|z
  ·subst z;refine Ja l (tst T p) ?_;unfold tst;rw[e];show kn s n∈(if(bJ T.1 T.2<|kn s n).isSome=true then T else(T.1++[kn s n],T.2++[dU s n ws p.2.2])).1;by_cases c:(bJ T.1 T.2<|kn s n).isSome=true
   ·rw[if_pos c];by_cases m:kn s n∈T.1
    ·exact m
    ·rw[Zq m] at c;cases c
   ·rw[if_neg c];exact cf _ af
  ·exact MN l (tst T p') p z e
theorem Sw (h:p∈l)(e:p.2.1=.move s n ws):∃d∈(tbl l).2,∃q∈l,∃ws',q.2.1=.move s n ws'/\d=dU s n ws' q.2.2:=by
 have k:=MN l ([],[]) p h e;have T:=Lw.CJ l ([],[]) ⟨rfl,qf⟩;rw[T.1] at k;obtain⟨d,hd,ek⟩:=aw.mp k;rcases yF l ([],[]) d hd with z|⟨q,hq,s',n',ws',eq,rfl⟩
 ·cases z
 ·obtain⟨e1,e2⟩:=aeR<|show kn s' n'=kn s n from ek;subst e1 e2;exact⟨_,hd,q,hq,ws',eq,rfl⟩
def plc (S:Nat)(P:D)(p:Pl)(g:Gm):Prop:=match g with
 | .fin d=>∃q:Rat,d=rq q/\Sz 40 q
 | .deal _ ws=>(∃l:List Rat,bZ ws=l.map rD/\∀x∈l,Sz S x)/\dF ws<=100
 | .move s n ws=>aaK S P p s n ws/\dF ws<=100
mutual
theorem acH:∀(g:Gm) (w:List Int) (r:Rc),(∀t∈prG w r g,plc S P p t.2.1)->cG S P p g
 | .fin d,w,r,h=>h (w,.fin d,r) (by rw[prG];exact af)
 | .deal n ws,w,r,h=>by
  have h0:=h (w,.deal n ws,r) (by rw[prG];exact af);exact⟨h0.1,h0.2,WQ ws w (λ_=>r) 0 λt ht=>h t (by rw[prG];exact ae _ ht)⟩
 | .move s n ws,w,r,h=>by
  have h0:=h (w,.move s n ws,r) (by rw[prG];exact af);exact⟨h0.1,h0.2,WQ ws w (rbm s n r) 0 λt ht=>h t (by rw[prG];exact ae _ ht)⟩
theorem WQ:∀(ws:Ws) (w:List Int) (f:D->Rc) (i:Nat),(∀t∈prW w f i ws,plc S P p t.2.1)->cW S P p ws
 | .nil,_,_,_,_=>trivial
 | .cons l g r,w,f,i,h=>⟨acH g _ (f l) λt ht=>h t (by rw[prW];exact dy _ ht),WQ r w f (i+1) λt ht=>h t (by rw[prW];exact cf _ ht)⟩
end
structure Gv (g:Gm):Prop extends Gd g where
 fn:∀p∈prG [] ([],[]) g,∀d,p.2.1=.fin d->∃q:Rat,d=rq q
theorem adV (h:smQ (rq q)):Sz 40 q:=by
 have h1:q.num.natAbs<=999999999999:=h.1;have h2:(q.den:Int)<=999:=h.2;have b:(999999999999:Nat)<2^40:=by decide
 exact⟨by lia,by lia⟩
theorem adA (h:dU s n ws r=dU s n ws' r'):dF ws=dF ws':=by
 unfold dU at h;simp at h;rw[← oW,← oW,h.1]
theorem JH (G:Gd g){t:Tr3}(h:t∈prG [] ([],[]) g){s:Int}{n:Str}{ws:Ws}(e:t.2.1=.move s n ws):(s=1\/s=2)/\dF ws<=100:=by
 have:=HH [] ([],[]) g G.len G.sd t h
 unfold okP at this;rw[e] at this;exact this
def okQ (S:Nat)(g:Gm)(s:Int)(q:Str->List Rat):Prop:=∀d∈rowsOf g s,okS S (q<|nmR d)<|wdD d
theorem afj (G:Gd g){t:Tr3}(h:t∈prG [] ([],[]) g){s:Int}{n:Str}{ws:Ws}(e:t.2.1=.move s n ws):∃d∈rowsOf g s,nmR d=n/\wdD d=dF ws:=by
 obtain⟨d,hd,t',ht',ws',e',rfl⟩:=Sw h e;obtain⟨ρ,hρ⟩:=G.row;have r1:=(hρ t h s n ws e).1;have r2:=(hρ t' ht' s n ws' e').1;refine⟨_,fq.mpr ⟨hd,decide_eq_true<|show sdD (dU s n ws' t'.2.2)=s from rfl⟩,rfl,?_⟩;show(bZ ws').length=dF ws;rw[oW];exact adA<|r2.trans r1.symm
def DG (g:Gm)(q1 q2:Str->List Rat):D:=.dct [.inl 1,.inl 2] [bf (rowsOf g 1) q1,bf (rowsOf g 2) q2]
theorem Lz (hS:20<=S){g:Gm}(G:Gv g){q1 q2:Str->List Rat}(h1:okQ S g 1 q1)(h2:okQ S g 2 q2):cG S (DG g q1 q2) (p2 q1 q2) g:=acH g [] ([],[]) λt ht=>by
 have f:=G.fr t ht;obtain⟨w,u,r⟩:=t;cases u with
 |fin d=>
  obtain⟨q,hq⟩:=G.fn _ ht d rfl;subst hq;exact⟨q,rfl,adV f.1⟩
 |deal n ws=>
  obtain⟨l,hl,hs,_⟩:=f.1;exact⟨⟨l,hl,λx hx=>((hs x hx).1).mono hS⟩,f.2.1⟩
 |move s n ws=>
  obtain⟨sd,lw⟩:=JH G.toGd ht rfl;refine⟨?_,lw⟩;obtain⟨d,hd,en,ew⟩:=afj G.toGd ht (n:=n) rfl;have go:∀(q:Str->List Rat),okQ S g s q->p2 q1 q2 s n=q n->bu (DG g q1 q2) (.int s)=some (bf (rowsOf g s) q)->aaK S (DG g q1 q2) (p2 q1 q2) s n ws:=λq ho ep eg=>by
   have o:=ho d hd;rw[en,ew] at o;refine⟨?_,by rw[ep];exact o.1,λx hx=>by rw[ep] at hx;exact(o.2.1 x hx).2⟩;rw[eg,ep];have v:=v7 (λn=>.tup<|(q n).map rD) (rowsOf g s) ⟨d,hd,en⟩;show bu (bf (rowsOf g s) q) (.str n)=_;simp[bu,bf,tH,v]
  rcases sd with rfl|rfl
  ·exact go q1 h1 rfl rfl
  ·exact go q2 h2 rfl rfl
theorem Iz (hS:20<=S)(hS2:S<=100){g:Gm}(G:Gv g)(hb:bG S g<=8800){q1 q2:Str->List Rat}(h1:okQ S g 1 q1)(h2:okQ S g 2 q2):vZ [dG g,bf (rowsOf g 1) q1,bf (rowsOf g 2) q2]=.ok (false,rD<|vG (p2 q1 q2) g)/\Sz (bG S g) (vG (p2 q1 q2) g):=by
 have hz:=G.sz;have hd:=G.dep;have l1:(rowsOf g 1).length<=1000:=gz G.t1.1 (by decide);have l2:(rowsOf g 2).length<=1000:=gz G.t2.1 (by decide);have e1:=IV hS2 (s:=1) (q:=q1) G.len G.sd (by lia) (by lia) l1 h1;have e2:=IV hS2 (s:=2) (q:=q2) G.len G.sd (by lia) (by lia) l2 h2;have c:=Lz hS G h1 h2;obtain⟨ec,hc⟩:=acR g 30 c (by lia) hb;refine⟨?_,hc⟩;have ed:Ul [((fC<|.int 1),(au 1)),((fC<|.int 2),(au 2))] [.fz<|dG g,.fz<|bf (rowsOf g 1) q1,.fz<|bf (rowsOf g 2) q2]=.ok (DG g q1 q2):=rfl;have r1:gEx (fFn dM<|aa (au 0)<|aa (fC<|.int 1)<|aa (au 1) ao) [.fz<|dG g,.fz<|bf (rowsOf g 1) q1,.fz<|bf (rowsOf g 2) q2]=.ok (.nx,[.fz<|dG g,.fz<|bf (rowsOf g 1) q1,.fz<|bf (rowsOf g 2) q2]):=by
  simp[gEx,fFn,aa,ao,au,fC,e1]
 have r2:gEx (fFn dM<|aa (au 0)<|aa (fC<|.int 2)<|aa (au 2) ao) [.fz<|dG g,.fz<|bf (rowsOf g 1) q1,.fz<|bf (rowsOf g 2) q2]=.ok (.nx,[.fz<|dG g,.fz<|bf (rowsOf g 1) q1,.fz<|bf (rowsOf g 2) q2]):=by
  simp[gEx,fFn,aa,ao,au,fC,e2]
 have er:fFn (gP 30) (aa (au 0)<|aa (Ul [((fC<|.int 1),(au 1)),((fC<|.int 2),(au 2))]) ao) [.fz<|dG g,.fz<|bf (rowsOf g 1) q1,.fz<|bf (rowsOf g 2) q2]=.ok (rD<|vG (p2 q1 q2) g):=by
  have e0:au 0 [.fz<|dG g,.fz<|bf (rowsOf g 1) q1,.fz<|bf (rowsOf g 2) q2]=.ok (dG g):=rfl;simp[fFn,aa,ao,e0,ed,ec]
 simp[vZ,Eg,Ga,aH,aA,r1,r2,aU,er,Me.let,Sl.let]
end Pk
namespace Lw
open PySem L2 Hd F Pk
section
def v5 (φ__law_lowest:Zac):Zab:=
 (aU<|fFn φ__law_lowest<|aa (ak bc (ak dO (ak gIx (aj 0)<|fC<|.int 0)<|ak gIx (aj 1)<|fC<|.int 1)<|ak dO (ak gIx (aj 1)<|fC<|.int 0)<|ak gIx (aj 0)<|fC<|.int 1)<|aa (ak dO (ak gIx (aj 0)<|fC<|.int 1)<|ak gIx (aj 1)<|fC<|.int 1) ao)
def vq:Zab:=
 (v5 dH)
def lB:Zac:=aH 2 2 vq
def uh (φ__law_lowest:Zac):Zab:=
 (aU<|fFn φ__law_lowest<|aa (ak dO (ak gIx (aj 0)<|fC<|.int 0)<|ak gIx (aj 1)<|fC<|.int 0)<|aa (ak dO (ak gIx (aj 0)<|fC<|.int 1)<|ak gIx (aj 1)<|fC<|.int 1) ao)
def uL:Zab:=
 (uh dH)
def mC:Zac:=aH 2 2 uL
def gC:Zab:=
 (aA (bD 2<|ak gIx (cP<|aa (ak aY (ak cV (aj 0)<|fC<|.int 4)<|fC<|.int 4)<|aa (ak aY (ak cV (aj 0)<|fC<|.int 4)<|fC<|.int 7)<|aa (fC<|.int 0)<|aa (ak aY (ak cV (aj 0)<|fC<|.int 4)<|fC<|.int 1000) ao)<|ak aY (aj 0)<|fC<|.int 4)
 (aK 0<|ak aY (ak dO (aj 0)<|fC<|.int 48271)<|fC<|.int 2147483647))
def lL:Zab:=
 (cz (jo<|aa (aj 1) ao) (hName 3) gC)
def mz:Zae:=
 (fFn dH<|aa (au 0)<|aa (aF Je<|aa (aj 1) ao) ao)
def lK:Zae:=
 (bC 1 [2] (cg<|aj 2) (hName 0) cQ mz)
def pJ (l_2:Zab)(l_4:Zae):Zab:=
 (aA (cC 2<|cP ao)
 (aA l_2
 (aA (gIf (aB gEq (aF Je<|aa (aj 2) ao)<|fC<|.int 0) (kZ 2 (ak aY (aj 0)<|aj 1)<|fC<|.int 1) gNx)
 (aU<|aF cH<|aa l_4 ao))))
def zy:Zab:=
 (pJ lL lK)
def jh:Zac:=aH 4 2 zy
def dJ:Zab:=
 (gIf (aB gEq (ak gIx (ak gIx (aj 0)<|aj 4)<|fC<|.int 0)<|aj 1) (dB 3 (ak gIx (ak gIx (aj 0)<|aj 4)<|fC<|.int 1)<|fFn jh<|aa (fFn bF<|aa (au 2)<|aa (ak bc (ak dO (fC<|.int 3)<|aj 4)<|fC<|.int 1) ao)<|aa (aF cu<|aa (ak gIx (ak gIx (aj 0)<|aj 4)<|fC<|.int 2) ao) ao) gNx)
def nO:Zab:=
 (cz (jo<|aa (aF cu<|aa (aj 0) ao) ao) (hName 4) dJ)
def qU (l_2:Zab):Zab:=
 (aA (cC 3 wW)
 (aA l_2
 (dY 3)))
def Br:Zab:=
 (qU nO)
def vN:Zac:=aH 5 3 Br
end
noncomputable def qt (x:Int):Int:=if x%4=0 then x/4%4 else if x%4=1 then x/4%7 else if x%4=2 then 0 else x/4%1000
theorem afP (x:Int):0<=qt x/\qt x<=999:=by
 unfold qt;split
 ·lia
 split
 ·lia
 split<;>lia
theorem aca (h:sm x)(hP:P.length<=100):gC [.fz<|.int x,s1,.ow<|.lst P,s3]=.ok (.nx,[.fz<|.int<|x*48271%2147483647,s1,.ow<|.lst<|P++[.int<|qt x],s3]):=by
 obtain⟨h0,h1⟩:=h;have b1:Bq x:=bgS (by lia);have b2:Bq 48271:=bgS (by decide);have b3:Bq 4:=bgS (by decide);have z1:P.length<16777216:=by lia
 have e:atI [D.int<|x/4%4,.int<|x/4%7,.int 0,.int<|x/4%1000] (x%4)=some (.int<|qt x):=by
  have h:x%4=0\/x%4=1\/x%4=2\/x%4=3:=by lia
  unfold qt;rcases h with h|h|h|h<;>rw[h]<;>rfl
 simp[gC,aA,bD,kY,putL,cP,aa,ao,ak,gIx,aj,fC,aY,mdI,dO,cV,dvI,b1,b2,b3,e,z1,aK]
theorem T4:∀(c i:Nat) (x:Int) (P:List Int) (s3:Sl),sm x->P.length+c<=100->(∀p∈P,0<=p/\p<=999)->∃(y:Int) (s3':Sl) (Q:List Int),aL (hName 3) gC ((kH i c).map λ(k:Nat)=>D.int k) [.fz<|.int x,s1,.ow<|.lst<|P.map D.int,s3]=.ok (.nx,[.fz<|.int y,s1,.ow<|.lst<|Q.map D.int,s3'])/\sm y/\Q.length=P.length+c/\∀p∈Q,0<=p/\p<=999
 |0,i,x,P,s3,h,_,hP=>⟨x,s3,P,rfl,h,rfl,hP⟩
 |c+1,i,x,P,s3,h,hl,hP=>by
  have st:=aca (s1:=s1) (s3:=.fz<|.int i) (P:=P.map D.int) h (by simp;lia);have h':sm (x*48271%2147483647):=⟨by lia,by lia⟩;obtain⟨y,s3',Q,e,hy,hl',hQ⟩:=T4 (s1:=s1) c (i+1) (x*48271%2147483647) (P++[qt x]) (.fz<|.int i) h' (by simp;lia) λp hp=>by
   rcases cq.mp hp with z|z
   ·exact hP p z
   ·rw[bg.mp z];exact afP x
  refine⟨y,s3',Q,?_,hy,by rw[hl'];simp;lia,hQ⟩;rw[ia,ah,aW (m1:=[.fz<|.int x,s1,.ow<|.lst<|P.map D.int,.fz<|.int i]) rfl st];rw[bX] at e;exact e
theorem Ae:∀Q:List Int,(∀p∈Q,0<=p/\p<=999)->0<=Q.sum/\Q.sum<=999*Q.length
 |[],_=>by simp
 |p::Q,h=>by
  have:=Ae Q λq hq=>h q<|ae _ hq
  have h1:=h p af;simp only[cb,cw]
  lia
theorem Sx:∀Q:List Int,(∀p∈Q,0<=p/\p<=999)->1∈Q->1<=Q.sum
 |[],_,h=>by cases h
 |p::Q,h,m=>by
  have h2:=Ae Q λq hq=>h q<|ae _ hq;have h1:=h p af;rw[cb];rcases aE.mp m with z|z
  ·lia
  ·have:=Sx Q (λq hq=>h q<|ae _ hq) z
   lia
theorem aeW {Q:List Int}(hS:0<Q.sum)(hS2:Q.sum<=5994)(z1:Q.length<=1000):lK [u,.fz<|.int c,.fz<|.lst<|Q.map D.int,v]=.ok (.lst<|Q.map λp=>rD<|ar p Q.sum):=by
 have ec:cA (hName 0) cQ mz [.un,.fz<|.lst<|Q.map D.int] (Q.map D.int)=.ok (Q.map λp=>rD<|ar p Q.sum):=bV Q λp _=>by
  refine⟨[.fz<|.int p,.fz<|.lst<|Q.map D.int],rfl,rfl,?_⟩;have e:=Bd (t:=p) hS<|bgS (by lia);simp[mz,fFn,aa,ao,au,aF,aj,Dg,e]
 have z:Q.length<=16777216:=by lia
 simp[lK,bC,cg,aj,cMe,Sl.bor,ec,z]
theorem aek {Q:List Int}(hc:0<c)(hq:Q.length=c)(hl:c<=6):kZ 2 (ak aY (aj 0)<|aj 1) (fC<|.int 1) [.fz<|.int y,.fz<|.int (c:Int),.ow<|.lst<|Q.map D.int,s3]=.ok (.nx,[.fz<|.int y,.fz<|.int (c:Int),.ow<|.lst<|(Q.set (y%c).toNat 1).map D.int,s3]):=by
 have h0:0<=y%(c:Int):=kU _ (by lia);have h1:y%(c:Int)<c:=i9 _ (by lia);have hn:¬((c:Int)=0):=by lia
 have b:Bq (c:Int):=bgS (by lia);have ix:ixN Q.length (y%(c:Int))=some (y%(c:Int)).toNat:=by
  unfold ixN;rw[if_pos h0,if_pos (by rw[hq];exact h1)]
 have cn:¬(c=0):=by lia
 simp[kZ,fC,kY,ak,aj,aY,mdI,hn,cn,hc,b,ix,putL,List.map_set]
theorem VL {Q Q':List Int}(eL:L [.fz<|.int x,.fz<|.int c,.ow<|.lst [],.un]=.ok (.nx,[.fz<|.int y,.fz<|.int c,.ow<|.lst<|Q.map D.int,s']))
  (e1:gIf (aB gEq (aF Je<|aa (aj 2) ao)<|fC<|.int 0) (kZ 2 (ak aY (aj 0)<|aj 1)<|fC<|.int 1) gNx [.fz<|.int y,.fz<|.int c,.ow<|.lst<|Q.map D.int,s']=.ok (.nx,[.fz<|.int y,.fz<|.int c,.ow<|.lst<|Q'.map D.int,s']))
  (eq:∀u v:Sl,QQ [u,.fz<|.int c,.fz<|.lst<|Q'.map D.int,v]=.ok (.lst r)):aH 4 2 (pJ L QQ) [.int x,.int c]=.ok (false,.tup r):=by
 have gt:cH [.lst r]=some (.tup r):=rfl;simp[aH,pJ,aA,cC,cP,ao,eL,e1,aU,Me.let,Sl.let,aF,aa,eq,gt]
def prt (c:Nat)(l:List Rat):Prop:=∃Q:List Int,Q.length=c/\(∀p∈Q,0<=p/\p<=999)/\0<Q.sum/\l=Q.map λp=>ar p Q.sum
theorem ad0 (h:prt c l)(hc:c<=6):l.length=c/\(∀x∈l,0<=x.num/\Sz 13 x)/\l.sum=1:=by
 obtain⟨Q,hl,hQ,hS,rfl⟩:=h;have hb:=(Ae Q hQ).2;refine⟨by simp[hl],λq hq=>?_,by rw[qy,div_self hS]⟩;obtain⟨p,hp,rfl⟩:=aw.mp hq;have h1:=hQ p hp;refine⟨?_,o8 (by lia) (by show p.natAbs<8192;lia) (by show Q.sum.natAbs<8192;lia)⟩;by_cases z:p=0
 ·subst z;simp
 ·exact A9<|div_pos (by lia) hS
theorem adt (h:prt c l)(hc:c<=3):okS 20 l c/\∀q∈l,Sz 13 q:=
 let⟨a,b,d⟩:=ad0 h<|by lia
 ⟨⟨a,λx hx=>⟨(b x hx).1,(b x hx).2.mono<|by decide⟩,d,by lia⟩,λq hq=>(b q hq).2⟩
theorem Ob {x:Int}{c:Nat}(h:sm x)(hc:1<=c/\c<=6):∃l:List Rat,jh [.int x,.int (c:Int)]=.ok (false,.tup<|l.map rD)/\prt c l:=by
 obtain⟨y,s',Q,e,hy,hl,hQ⟩:=T4 (s1:=.fz<|.int (c:Int)) c 0 x [] .un h (by simp;lia) (λ_ z=>by cases z);have hl:Q.length=c:=by simpa using hl
 have e1:(aa (aj 1) ao) [.fz<|.int x,.fz<|.int (c:Int),.ow<|.lst [],.un]=.ok [.int (c:Int)]:=by simp[aa,aj,ao]
 have e2:=Cu e1 (by lia) (by lia);have eL:lL [.fz<|.int x,.fz<|.int (c:Int),.ow<|.lst [],.un]=.ok (.nx,[.fz<|.int y,.fz<|.int (c:Int),.ow<|.lst<|Q.map D.int,s']):=by
  unfold lL cz;rw[e2];show aL (hName 3) gC ((bp c).map λ(k:Nat)=>D.int k) _=_;rw[fm];exact e
 have main:∀Q':List Int,Q'.length=c->(∀p∈Q',0<=p/\p<=999)->0<Q'.sum->gIf (aB gEq (aF Je<|aa (aj 2) ao)<|fC<|.int 0) (kZ 2 (ak aY (aj 0)<|aj 1)<|fC<|.int 1) gNx [.fz<|.int y,.fz<|.int (c:Int),.ow<|.lst<|Q.map D.int,s']=.ok (.nx,[.fz<|.int y,.fz<|.int (c:Int),.ow<|.lst<|Q'.map D.int,s'])->
   ∃l:List Rat,jh [.int x,.int (c:Int)]=.ok (false,.tup<|l.map rD)/\prt c l:=λQ' hl' hQ' hS e3=>by
  have hb:=(Ae Q' hQ').2;refine⟨_,?_,Q',hl',hQ',hS,rfl⟩;rw[cy];exact VL eL e3 λu v=>aeW hS (by lia)<|by lia
 by_cases z:Q.sum=0
 ·refine main (Q.set (y%c).toNat 1) (by simp[hl]) (λp hp=>?_) ?_ ?_
  ·rcases tP hp with w|w
   ·exact hQ p w
   ·rw[w];lia
  ·have h1:(y%(c:Int)).toNat<Q.length:=by
    have:=i9 y<|show 0<(c:Int) by lia
    have:=kU y<|show(c:Int)≠0 by lia
    lia
   have:=Sx (Q.set (y%c).toNat 1) (λp hp=>by
    rcases tP hp with w|w
    ·exact hQ p w
    ·rw[w];lia) (List.mem_set h1 1)
   lia
  ·have:=aek (Q:=Q) (y:=y) (s3:=s') (by lia) hl hc.2
   simp[gIf,aB,aF,aa,ao,aj,Dg,fC,z,this]
 ·refine main Q hl hQ ?_ ?_
  ·have:=(Ae Q hQ).1
   lia
  ·simp[gIf,aB,aF,aa,ao,aj,Dg,fC,z,gNx]
theorem Ky (ha:Sz k a)(hb:Sz l b)(hk:k+l<=8900):lB [rD a,rD b]=.ok (false,rD<|a+b):=by
 have a1:Bq a.num:=eV<|bB ha.1 (by lia);have a2:Bq (a.den:Int):=eV<|bB (by simpa using ha.2) (by lia);have b1:Bq b.num:=eV<|bB hb.1 (by lia);have b2:Bq (b.den:Int):=eV<|bB (by simpa using hb.2) (by lia);have e:=Bd (t:=a.num*b.den+b.num*a.den) (show 0<(a.den:Int)*b.den from BN (by have:=jg a;lia) (by have:=jg b;lia)) (eV<|bB (p7 (by simpa using ha.2) (by simpa using hb.2)) (by lia));rw[Tf] at e;simp[lB,aH,vq,v5,aU,Me.let,Sl.let,fFn,aa,ao,ak,aj,fC,gIx,oK,ix0,ix1,dO,bc,a1,a2,b1,b2];rw[e];simp[oK]
theorem Ma (ha:Sz k a)(hb:Sz l b)(hk:k+l<=8900):mC [rD a,rD b]=.ok (false,rD<|a*b):=by
 have a1:Bq a.num:=eV<|bB ha.1 (by lia);have a2:Bq (a.den:Int):=eV<|bB (by simpa using ha.2) (by lia);have b1:Bq b.num:=eV<|bB hb.1 (by lia);have b2:Bq (b.den:Int):=eV<|bB (by simpa using hb.2) (by lia);have e:=Bd (t:=a.num*b.num) (show 0<(a.den:Int)*b.den from BN (by have:=jg a;lia) (by have:=jg b;lia)) (eV<|bB (p7 (by simpa using ha.2) (by simpa using hb.2)) (by lia));rw[Y7] at e;simp[mC,aH,uL,uh,aU,Me.let,Sl.let,fFn,aa,ao,ak,aj,fC,gIx,oK,ix0,ix1,dO,a1,a2,b1,b2];rw[e];simp[oK]
theorem aaB {Rs:List D}{q:Str->List Rat}{d:D}{l:List Rat}(h:∀d'∈Rs,nmR d'≠nmR d):
  D.dct (putD (Rs.map λd=>.inr<|nmR d) (Rs.map λd=>.tup<|(q<|nmR d).map rD) (.inr<|nmR d)<|.tup<|l.map rD).1 (putD (Rs.map λd=>.inr<|nmR d) (Rs.map λd=>.tup<|(q<|nmR d).map rD) (.inr<|nmR d)<|.tup<|l.map rD).2=bf (Rs++[d]) λn=>if n=nmR d then l else q n:=by simp_all[if_neg,bX,if_pos,putD,bf]
theorem Dd:gIx (dU s n ws r) (.int 0)=some (.int s)/\gIx (dU s n ws r) (.int 1)=some (.str n)/\gIx (dU s n ws r) (.int 2)=some (.tup<|bZ ws):=⟨rfl,rfl,rfl⟩
theorem adm (hi:Bq (i:Int))(ix:gIx (.lst Rows) (.int i)=some row)(r0:gIx row (.int 0)=some (.int s))(r1:gIx row (.int 1)=some (.str n))(r2:gIx row (.int 2)=some W)(ln:cu [W]=some (.int w))
  (ex:bF [.int cell,.int<|3*i+1]=.ok (false,.int x)) (el:jh [.int x,.int w]=.ok (false,v)) (hz:ks.length<av):
  dJ [.fz<|.lst Rows,.fz<|.int s,.fz<|.int cell,.ow<|.dct ks ds,.fz<|.int i]=.ok (.nx,[.fz<|.lst Rows,.fz<|.int s,.fz<|.int cell,.ow<|.dct (putD ks ds (.inr n) v).1 (putD ks ds (.inr n) v).2,.fz<|.int i]):=by
 have b3:Bq 3:=bgS (by decide);rw[abx] at hz;generalize hp:putD ks ds (.inr n) v=p;obtain⟨p1,p2⟩:=p;simp[dJ,gIf,aB,ak,aj,ix,fC,r0,r1,r2,dB,fFn,aa,ao,au,dO,bc,b3,hi,ex,aF,ln,el,zj,tH,hz,zR,hp]
theorem abR (ix:gIx (.lst Rows) (.int i)=some row)(r0:gIx row (.int 0)=some (.int a))(c:¬a=s):
  dJ [.fz<|.lst Rows,.fz<|.int s,S2,S3,.fz<|.int i]=.ok (.nx,[.fz<|.lst Rows,.fz<|.int s,S2,S3,.fz<|.int i]):=by
 simp[dJ,gIf,aB,ak,aj,ix,fC,r0,c,gNx]
def itl (it:Nat->D->D):Nat->List D->List D
 |_,[]=>[]
 |k,d::r=>it k d::itl it (k+1) r
theorem KZ:∀(r:List D) (k:Nat),itl (λk _=>.int k) k r=(kH k r.length).map λ(k:Nat)=>D.int k
 |[],_=>rfl
 |d::r,k=>by rw[itl,KZ r,cw,ia,ah]
theorem QB:∀(r:List D) (k:Nat),itl (λ_ d=>d) k r=r
 |[],_=>rfl
 |d::r,k=>by rw[itl,QB r]
theorem tW {X:Type}{h:Zba}{B:Zab}{it:Nat->D->D}{mk:D->X->Me}{s:Int}{Rows:List D}{P:D->List Rat->Prop}
  (step:∀(k:Nat) (d:D) (x:X) (ks:List Key) (ds:List D),Rows[k]? = some d->ks.length<=1000->∃m1,h (it k d) (mk (.dct ks ds) x)=some m1/\(sdD d≠s->∃x',B m1=.ok (.nx,mk (.dct ks ds) x'))/\
   (sdD d=s->∃x' l,P d l/\B m1=.ok (.nx,mk (.dct (putD ks ds (.inr<|nmR d)<|.tup<|l.map rD).1 (putD ks ds (.inr<|nmR d)<|.tup<|l.map rD).2) x'))) (hl:Rows.length<=300):
  ∀(rest pre done:List D) (q:Str->List Rat) (x:X),Rows=pre++rest->done.length<=pre.length->((done++rest.filter λd=>decide<|sdD d=s).map nmR).Nodup->(∀d∈done,P d<|q<|nmR d)->
  ∃q' x',aL h B (itl it pre.length rest) (mk (bf done q) x)=.ok (.nx,mk (bf (done++rest.filter λd=>decide<|sdD d=s) q') x')/\∀d∈done++rest.filter (λd=>decide<|sdD d=s),P d<|q'<|nmR d
 |[],pre,done,q,x,_,_,_,ho=>⟨q,x,by simp[itl,aL],by simpa using ho⟩
 |d::rest,pre,done,q,x,e,hd,nd,ho=>by
  have hi:Rows[pre.length]? = some d:=by rw[e];simp
  have lp:pre.length<Rows.length:=by rw[e];simp
  have e':Rows=(pre++[d])++rest:=by rw[e];simp
  obtain⟨m1,h1,h2,h3⟩:=step pre.length d x _ (done.map λd=>D.tup<|(q<|nmR d).map rD) hi (show(done.map λd=>(xS (nmR d):Key)).length<=1000 by rw[cm];lia);by_cases c:sdD d=s
  ·obtain⟨x',l,hp,eb⟩:=h3 c;have hn:∀d'∈done,nmR d'≠nmR d:=λd' hd' z=>by
    rw[qV,if_pos<|decide_eq_true c,bX,ka] at nd;exact nd.2.2 (nmR d') (aw.mpr ⟨d',hd',rfl⟩) (nmR d) (by rw[ah];exact af) z
   rw[aaB hn] at eb;have st2:(done++[d])++rest.filter (λd=>decide<|sdD d=s)=done++(d::rest).filter (λd=>decide<|sdD d=s):=by
    rw[qV,if_pos<|decide_eq_true c];simp
   obtain⟨q2,x2,e2,h5⟩:=tW step hl rest (pre++[d]) (done++[d]) (λn=>if n=nmR d then l else q n) x' e' (by simp;lia) (by rw[st2];exact nd) (λd' hd'=>by
    rcases cq.mp hd' with z|z
    ·show P d' (if nmR d'=nmR d then l else q (nmR d'));rw[if_neg<|hn d' z];exact ho d' z
    ·rw[bg.mp z];show P d (if nmR d=nmR d then l else q (nmR d));rw[if_pos rfl];exact hp)
   refine⟨q2,x2,?_,by rw[← st2];exact h5⟩;rw[a8,dS] at e2;rw[← st2];exact(aW h1 eb).trans e2
  ·obtain⟨x',eb⟩:=h2 c;have st2:done++rest.filter (λd=>decide<|sdD d=s)=done++(d::rest).filter (λd=>decide<|sdD d=s):=by
    rw[qV,if_neg<|by simpa using c]
   obtain⟨q2,x2,e2,h5⟩:=tW step hl rest (pre++[d]) done q x' e' (by simp;lia) (by rw[st2];exact nd) ho;refine⟨q2,x2,?_,by rw[← st2];exact h5⟩;rw[a8,dS] at e2;rw[← st2];exact(aW h1 eb).trans e2
theorem YS (eL:L [.fz a,.fz b,.fz c,.ow<|.dct [] [],.un]=.ok (.nx,[.fz a,.fz b,.fz c,.ow r,s4])):aH 5 3 (qU L) [a,b,c]=.ok (true,r):=by
 simp[qU,aH,aA,cC,wW,eL,dY]
theorem W0:(aa (aF cu<|aa (aj 0) ao) ao) [.fz<|.lst Rows,S1,S2,S3,S4]=.ok [.int (Rows.length:Int)]:=by rfl
theorem Z1 {Rows:List D}{s cell:Int}(hl:Rows.length<=300)(hr:∀d∈Rows,NQ d/\1<=wdD d/\wdD d<=3)(nd:((Rows.filter λd=>decide<|sdD d=s).map nmR).Nodup):
  ∃q,vN [.lst Rows,.int s,.int cell]=.ok (true,bf (Rows.filter λd=>decide<|sdD d=s) q)/\∀d∈Rows.filter (λd=>decide<|sdD d=s),okS 20 (q<|nmR d) (wdD d)/\∀x∈q (nmR d),Sz 13 x:=by
 obtain⟨q,s4',e,h⟩:=tW (X:=Sl) (h:=hName 4) (B:=dJ) (it:=λk _=>.int k) (mk:=λr s4=>[.fz<|.lst Rows,.fz<|.int s,.fz<|.int cell,.ow r,s4]) (s:=s) (P:=λd l=>okS 20 l (wdD d)/\∀x∈l,Sz 13 x) (Rows:=Rows) (λk d x ks ds hk hz=>by
  obtain⟨⟨a,n,ws,r,rfl⟩,hw⟩:=hr d<|js hk;have hk':k<Rows.length:=by
   rcases Bn k Rows.length with z|z
   ·exact z
   ·rw[kA z] at hk;cases hk
  have ix:gIx (.lst Rows) (.int k)=some (dU a n ws r):=jN hk;obtain⟨r0,r1,r2⟩:=Dd (s:=a) (n:=n) (ws:=ws) (r:=r);refine⟨_,rfl,λc=>⟨.fz<|.int k,abR ix r0 c⟩,λc=>?_⟩;have c':a=s:=c;subst c';obtain⟨x,ex,hx⟩:=yd cell (3*k+1) (by lia);obtain⟨l,el,hp⟩:=Ob (c:=wdD<|dU a n ws r) hx ⟨hw.1,by lia⟩;exact⟨.fz<|.int k,l,adt hp hw.2,adm (bgS<|by lia) ix r0 r1 r2 rfl ex el<|oT hz<|by decide⟩) hl Rows [] [] (λ_=>[]) .un rfl (by simp) (by simpa using nd) (λ_ z=>by cases z)
 refine⟨q,?_,by simpa using h⟩;rw[gv,KZ] at e;have e2:=Cu (W0 (Rows:=Rows) (S1:=.fz<|.int s) (S2:=.fz<|.int cell) (S3:=.ow<|.dct [] []) (S4:=.un)) (by lia) (by lia);have eL:nO [.fz<|.lst Rows,.fz<|.int s,.fz<|.int cell,.ow<|.dct [] [],.un]=.ok (.nx,[.fz<|.lst Rows,.fz<|.int s,.fz<|.int cell,.ow<|bf (Rows.filter λd=>decide<|sdD d=s) q,s4']):=by
  unfold nO cz;rw[e2];show aL (hName 4) dJ ((bp Rows.length).map λ(k:Nat)=>D.int k) _=_;rw[fm];exact e
 exact YS eL
end Lw
namespace F
open PySem PySem.Spec PyProof.Rows L2 Hd
section
end
section
end
section
variable {A:Type}{p:List A->Prop}
theorem xb1 (h:∀a,p [a])(us:List A)(e:us.length=1):p us:=by
 cases us with
 |nil=>cases e
 |cons a t=>cases t with
  |nil=>exact h a
  |cons _ _=>cases e
theorem xb0 (h:∀a t,t.length=n->p (a::t))(us:List A)(e:us.length=n+1):p us:=by
 cases us with
 |nil=>cases e
 |cons a t=>exact h a t (Nat.succ.inj e)
theorem xb2 (h:∀a b,p [a,b]):∀us:List A,us.length=2->p us:=xb0 λa=>xb1 (p:=λt=>p (a::t))<|h a
theorem xb3 (h:∀a b c,p [a,b,c]):∀us:List A,us.length=3->p us:=xb0 λa=>xb2 (p:=λt=>p (a::t))<|h a
theorem xb4 (h:∀a b c d,p [a,b,c,d]):∀us:List A,us.length=4->p us:=xb0 λa=>xb3 (p:=λt=>p (a::t))<|h a
theorem xb5 (h:∀a b c d f,p [a,b,c,d,f]):∀us:List A,us.length=5->p us:=xb0 λa=>xb4 (p:=λt=>p (a::t))<|h a
end
structure QD (K:bq)(x:Str)(st:Stmt):Prop where
 ex:∃f fd,Fun K x x st f fd/\W.nsIn K gy x=some (some (.ref f))
section
variable {P:cS}{w:gu}{K:bq}{mg:Zp}{base h:Heap}{x q c:Str}{st:Stmt}{ps:List Str}{C f:Addr}{oc:a9}{od an:Option Addr}{osl:Array (Option a9)}{kV doc pm cdv ct:a9}{k:Nat}{sp:Sp}
theorem qd (a:W.nsIn K gy x=some (some<|.ref f))(l:K.lookup f=some ⟨oc,od,.func<|AL x x (qN st) (jQ st) (az st) .none kV doc pm an cdv ct,osl⟩)(c:W.codeIn K cdv x=true)(k:BC K (.ref f)=true):QD K x st:=⟨f,_,aep l c k,a⟩
theorem QD.df (Q:QD K x st)(X:K.In h)(G:h.Ns gy mg)(hb:∀(kV doc pm:a9) (an:Option Addr) (cdv ct:a9) (us:List a9),us.length=ps.length->bindArgs (AL x x (qN st) (jQ st) (az st) .none kV doc pm an cdv ct) ⟨us,[]⟩=pure (ps.zip us)):Df K mg x st ps:=by
 obtain⟨f,fd,F,a⟩:=Q.ex;exact⟨f,fd,F,F.binds hb,W.mg_of X G a⟩
end
section
variable {X:Cx}{E:XK}{e a b tg iter:Expr}{body:List Stmt}{f fa fb:Zae}{fi:Zad}{g:Zab}{h:Zba}{pos pos':Pos}{i:Nat}{x:Str}
theorem Oj (ha:FB X E a fa)(hb:FB X E b fb)(hs:JT b:=by exact λ_ _=>rfl):FE X E (.Subscript a b pos) (ak gIx fa fb):=afR ahv ha hb hs
theorem HD (hN:X.N.Nodup)(he:FE X E e f)(hi:X.N[i]? = some x:=by rfl)(hx:Loc X.env.scope x:=by first|exact .inl rfl|exact .inr rfl)(hs:gX e (some<|.Name x pos') pos.line X.env=pure false:=by rfl)
  (hf:X.fn x=true\/X.env.scope.names.lookup x=some .local:=by first|exact .inl rfl|exact .inr rfl|assumption):FS X E (.Assign [.Name x pos'] e pos) (aK i f):=ae1 hN hi hx he hs hf
theorem uV (hN:X.N.Nodup)(he:FN X E e f)(hi:X.N[i]? = some x:=by rfl)(hx:Loc X.env.scope x:=by first|exact .inl rfl|exact .inr rfl)(hs:gX e (some<|.Name x pos') pos.line X.env=pure false:=by rfl)
  (hf:X.fn x=true\/X.env.scope.names.lookup x=some .local:=by first|exact .inl rfl|exact .inr rfl|assumption):FS X E (.Assign [.Name x pos'] e pos) (cC i f):=We hN hi hx he hs hf
theorem dX {k:Nat}(hN:X.N.Nodup)(hi:X.N[i]? = some x:=by rfl)(hx:Loc X.env.scope x:=by first|exact .inl rfl|exact .inr rfl)(hk:i<k:=by decide)
  (hf:X.fn x=true\/X.env.scope.names.lookup x=some .local:=by first|exact .inl rfl|exact .inr rfl|assumption):FG X k (.Name x pos) (hName i):=abf hN hi hx hk hf
theorem je (hi:FI X E tg iter fi)(hg:FG X 1000 tg h)(hb:FSs X E body g)(hp:AK (eB X.prog X.w) X.A X.env X.xe:=by exact qc)(hc:X.calm=true:=by rfl)
  (hs:∀x,iq iter X.env x=pure x:=by intro _;rfl):FS X E (.For tg iter body [] pos) (cz fi h g):=aeh hp hc hi hg hb hs
end
theorem nds {N:List Str}(h:decide N.Nodup=true):N.Nodup:=of_decide_eq_true h
abbrev NO (K:bq)(x:Str):Prop:=W.nsIn K gy x=some none
structure Cb (K:bq)(mg:Zp)(base:Heap):Prop where
 X:K.In base
 N:base.Ns gy mg
structure Ck (K:bq)(x:Str)(i j:Int):Prop where
 ex:∃C od nn sl t u,W.nsIn K gy x=some (some (.ref C))/\K.lookup C=some ⟨.type "tuple",od,.seq #[.int i t,.int j u] nn,sl⟩
section
variable {P:cS}{w:gu}{K:bq}{mg:Zp}{base:Heap}{x:Str}{st:Stmt}{N ps:List Str}{k:Nat}{g:Zab}{i j:Int}
theorem ck {C:Addr}{od:Option Addr}{nn:Nat}{sl:Array (Option a9)}{t u:Tok}(a:W.nsIn K gy x=some (some<|.ref C))(b:K.lookup C=some ⟨.type "tuple",od,.seq #[.int i t,.int j u] nn,sl⟩):Ck K x i j:=⟨_,_,_,_,_,_,a,b⟩
theorem Cb.no (C:Cb K mg base)(h:NO K x):mg x=none:=W.mg_none_of C.X C.N h
theorem Cb.cn {X:Cx}{E:XK}{pos:Pos}(B:Cb X.K X.mg X.base)(c:Ck X.K x i j)(hg:Gl X x:=by rfl)(hd:(x==("__debug__":Str))=false:=by decide):FE X E (.Name x pos) (fC<|.tup [.int i,.int j]):=by
 obtain⟨C,_,_,_,t,u,a,b⟩:=c.ex;exact aaF hg (W.mg_of B.X B.N a) (v:=.ref C) rfl (λ_ _=>.tup (xs:=[.int i,.int j]) (.inr ⟨_,_,_,b,rfl,rfl,(show 2<=av by decide),(.cons ⟨t,rfl⟩<|.cons ⟨u,rfl⟩ .nil)⟩) (.cons (.int i)<|.cons (.int j) .nil)) hd
abbrev Bds (x:Str)(st:Stmt)(ps:List Str):Prop:=∀(kV doc pm:a9) (an:Option Addr) (cdv ct:a9) (us:List a9),us.length=ps.length->bindArgs (AL x x (qN st) (jQ st) (az st) .none kV doc pm an cdv ct) ⟨us,[]⟩=pure (ps.zip us)
theorem QD.ff {sp:Sp}(Q:QD K x st)(C:Cb K mg base)(hk:∀f fd,Fun K x x st f fd->rT P w K mg base (CX1 P w) k f fd ps sp)
  (hb:Bds x st ps:=by first|exact λ_ _ _ _ _ _=>xb1 λ_=>rfl|exact λ_ _ _ _ _ _=>xb2 λ_ _=>rfl|exact λ_ _ _ _ _ _=>xb3 λ_ _ _=>rfl|exact λ_ _ _ _ _ _=>xb4 λ_ _ _ _=>rfl|exact λ_ _ _ _ _ _=>xb5 λ_ _ _ _ _=>rfl|exact λ_ _ _ _ _ _=>xb6 λ_ _ _ _ _ _=>rfl):Hd.Fn P w K mg base k x ps sp:=(Q.df C.X C.N hb).fn hk
end
theorem QD.go {P:cS}{w:gu}{K:bq}{mg:Zp}{base:Heap}{x:Str}{st:Stmt}{N ps:List Str}{k:Nat}{g:Zab}(Q:QD K x st)(C:Cb K mg base)(S:aG N ps (az st))
  (hk:∀f (cdv:a9) (A:i7) (outer:List Env) (s:bE) (H:Hp) (E:XK),eE k (A.deeper<|x9 x (az st) s.heap.objs.size f cdv)->N.Nodup->FSs (Cy (CX1 P w) P w K mg base N x (az st) f cdv A outer s H E) E (jQ st) g)
  (hb:Bds x st ps:=by first|exact λ_ _ _ _ _ _=>xb1 λ_=>rfl|exact λ_ _ _ _ _ _=>xb2 λ_ _=>rfl|exact λ_ _ _ _ _ _=>xb3 λ_ _ _=>rfl|exact λ_ _ _ _ _ _=>xb4 λ_ _ _ _=>rfl|exact λ_ _ _ _ _ _=>xb5 λ_ _ _ _ _=>rfl|exact λ_ _ _ _ _ _=>xb6 λ_ _ _ _ _ _=>rfl):FF P w K mg base (k+1) x ps (aH N.length ps.length g):=
 Q.ff C (λf fd Fu=>aZ Fu S λcdv A outer s H E hr=>hk f cdv A outer s H E hr S.nd) hb
def N7 (f:Zae):Zae:=λm=>(f m).bind λd=>match d with
 | .dcu ks ds=>.ok<|.dcf ks ds
 |_=>.stuck
section
theorem aaW (h:FN X E e f):FE X E e (N7 f):=by
 intro π s σ H Q I ⟨O0,M0,H0,ow,m,R,q⟩;refine thn (h π s σ H (λv H1=>∃a ι,v=.ref a/\H1 a=some (.dT (KTp X.K) ι)/\∀o,Q v<|L2.upd H1 a<|.frz o<|.dT (KTp X.K) ι) I ⟨O0,M0,H0,ow,m,R,q.bind.imp (aC.refl _) λd q p H' g hp hv=>?_⟩) ?_
 ·cases d with
  |dcu ks ds=>
   refine vO hv λι vs e1 e2 e3 hs=>?_;refine⟨p,ι,rfl,e1,λo=>?_⟩;have g2:aC H (L2.upd H' p<|.frz o<|.dT (KTp X.K) ι):=λb u eb=>by
    have nb:b≠p:=λz=>by rw[z,hp] at eb;cases eb
    rw[bz nb];exact g b u eb
   refine q _ _ g2<|.dcf aM e2 e3<|hs.go (O':=Ow O0 ow) (λb w=>?_) ⟨λb w=>.inl<|.inl w,λb u eb n=>?_⟩
   ·rcases w with w|rfl
    ·exact(R.mono g).mutk b w
    ·rw[e1];exact .inr<|.inr<|.inl ⟨(_,ι),rfl⟩
   ·rw[bz λz=>n<|.inr z];exact eb
  |_=>exact q.elim
 ·rintro v s1 ⟨x,H1,I1,r1,a,ι,rfl,e1,q1⟩;obtain⟨o,I2⟩:=aaU I1 e1;exact⟨_,_,I2,r1,q1 o⟩
def HF (f:Zae):Zad:=λm=>(f m).bind λd=>match d with
 | .lst ds=>.ok ds
 | .tup ds=>.ok ds
 |_=>.stuck
theorem afY (hl:PE X e tl):PI X tg e (λσ H R=>tl σ H λx H1=>∃a,x=.ref a/\((∃xs,SqL X.K H1 a xs)/\R (Itl X.K a) H1\/(∃xs,SqT X.K H1 a xs)/\R (Itt X.K a) H1)):=by
 intro π s σ H R I h;refine thn (hl π s σ H _ I h) λv s1 hE=>xq2 hE λx H1 I1 r1 q1=>?_;obtain⟨a,e,q⟩:=q1;subst e;cases r1;have fp:∀b∈[s1.heap.objs.size],vU X π H1 b:=λb hb=>by
  cases bg.mp hb;exact I1.My (aI _)<|I1.hok.fresh<|aI _
 rcases q with⟨⟨xs,hq⟩,q⟩|⟨⟨xs,hq⟩,q⟩
 ·obtain⟨χ,rv,p,hz⟩:=I1.list hq;exact ui p.isList ⟨s1.heap.objs.size,[s1.heap.objs.size],_,_,H1,rfl,I1.kept (t':=s1.toks) λb o e=>ag _ e,HS a _,⟨_,ay _ rfl,rfl,rfl⟩,fp,q⟩
 ·obtain⟨χ,rv,p,hz⟩:=I1.tuple hq;exact oB (show s1.heap.IsTuple a χ.toArray from p) ⟨s1.heap.objs.size,[s1.heap.objs.size],_,_,H1,rfl,I1.kept (t':=s1.toks) λb o e=>ag _ e,Fd a _,⟨_,ay _ rfl,rfl,rfl⟩,fp,q⟩
theorem agv (h:FE X E e f):FI X E tg e (HF f):=mK (afY h) λσ H R hE=>xq5 hE λO0 M0 H0 ow m Re q=>⟨O0,M0,H0,ow,m,Re,q.bind.imp (aC.refl _) λd q v H' g hv=>by
 cases d with
 |lst ds=>
  cases hv with
  |lst hl hd=>exact⟨_,rfl,.inl ⟨⟨_,hl.sq⟩,q _ H' g<|QK (Re.mono g).mutk hl hd⟩⟩
 |tup ds=>
  cases hv with
  |tup hl hd=>exact⟨_,rfl,.inr ⟨⟨_,hl.sq⟩,q _ H' g<|Zb (Re.mono g).mutk hl.sq hd⟩⟩
 |_=>exact q.elim⟩
end
def prI:D->Option (Int×Int)
 | .tup [.int a,.int b]=>some (a,b)
 |_=>none
def inR (p:Int×Int):List D->Option Bool
 |[]=>some false
 |d::ds=>(prI d).bind λq=>(inR p ds).map λb=>decide (q=p)||b
def ad7 (x:D):D->Option Bool
 | .tup ds=>(prI x).bind λp=>inR p ds
 |_=>none
theorem O8 (h:prI d=some p):d=.tup [.int p.1,.int p.2]:=by
 unfold prI at h;split at h
 ·cases h;rfl
 ·cases h
theorem acS (a b c d:Int):rP (.tup [.int a,.int b]) (.tup [.int c,.int d])=some (decide<|(a,b)=(c,d)):=by
 have s:∀x y:Int,iO (.tuple [.int x,.int y])=true:=λ_ _=>rfl;have e:decide ((a,b)=(c,d))=(decide (a=c)&&decide (b=d)):=by simp
 rw[e];simp[rP,toPy,tu,s,i8,iN];rfl
section
def GJ (h:Heap)(v:a9)(p:Int×Int):Prop:=∃a t u,v=.ref a/\IsTup h a #[.int p.1 t,.int p.2 u]
theorem GJ.inj (a:GJ h v p)(b:GJ h v q):p=q:=by
 obtain⟨a,t,u,rfl,o,g,c,n,d⟩:=a;obtain⟨a',t',u',e,o',g',c',n',d'⟩:=b;cases e;cases g.symm.trans g';rw[d] at d';injection d' with d' _
 simp at d';exact BY d'.1.1 d'.2.1
theorem acT (I:Inv X π σ H s){O:Zaa}{x:V}{v:a9}{p:Int×Int}(hx:DW (gx X) O H x (.tup [.int p.1,.int p.2]))(r:RelV x v):GJ s.heap v p:=by
 obtain⟨a,xs,rfl,hq,hd⟩:=yt hx;cases hd with
 |cons h1 hd=>cases hd with
  |cons h2 hd=>
   cases hd;cases h1;cases h2;obtain⟨χ,rv,pl,_⟩:=I.tuple hq;cases rv with
   |cons r1 rv=>cases rv with
    |cons r2 rv=>
     cases rv;obtain⟨t,rfl⟩:=r1;obtain⟨u,rfl⟩:=r2;cases r;exact⟨a,t,u,rfl,pl⟩
theorem UL (I:Inv X π σ H s){O:Zaa}{p:Int×Int}{e:a9->Bool}(he:∀v q,GJ s.heap v q->e v=decide (q=p)):∀{xs:List V} {us:List a9} {ds:List D} {b:Bool},Vals xs us->DVs (gx X) O H xs ds->inR p ds=some b->us.any e=b
 |_,_,_,_,.nil,.nil,h=>by cases h;rfl
 |_,_,_,_,.cons r rs,.cons hd hs,h=>by
  unfold inR at h;obtain⟨q,hq,h⟩:=cE.mp h;obtain⟨b',hb,rfl⟩:=kg.mp h;have hd':=O8 hq;subst hd';rw[wm,UL I he rs hs hb,he _ q<|acT I (.inl hd) r]
theorem SQ (I:Inv X π σ H s){O:Zaa}{p:Int×Int}:∀{xs:List V} {us:List a9} {ds:List D} {b:Bool},Vals xs us->DVs (gx X) O H xs ds->inR p ds=some b->∀v∈us,∃x q,RelV x v/\DV (gx X) O H x (.tup [.int q.1,.int q.2])/\GJ s.heap v q
 |_,_,_,_,.nil,.nil,_=>λv hv=>by cases hv
 |_,_,_,_,.cons r rs,.cons hd hs,h=>λv hv=>by
  unfold inR at h;obtain⟨q,hq,h⟩:=cE.mp h;obtain⟨b',hb,rfl⟩:=kg.mp h;have hd':=O8 hq;subst hd';rcases aE.mp hv with rfl|z
  ·exact⟨_,q,r,hd,acT I (.inl hd) r⟩
  ·exact SQ I rs hs hb v z
theorem aa3 (hr0:eE j X.A):OpR X (fN .In) (rGB (gx X) ad7):=by
 classical
 intro π s σ H x y v u Q I rx ry h;refine fQ h λO d e r m hx hy hr q=>?_;have hu:X.A.in1.units+64<mE:=by have:=hr0.un;show X.A.units+1+64<mE;lia
 cases e with
 |tup ds=>
  obtain⟨p,hp,hr⟩:=cE.mp hr;have hd:=O8 hp;subst hd;obtain⟨a,xs,rfl,hq,hds⟩:=yt hy;cases ry;obtain⟨χ,rv,pl,_⟩:=I.tuple hq;have he:∀v q,GJ s.heap v q->decide (GJ s.heap v p)=decide (q=p):=λv q hv=>by
   by_cases c:q=p
   ·subst c;rw[decide_eq_true hv,decide_eq_true rfl]
   ·rw[decide_eq_false c,decide_eq_false λz=>c<|hv.inj z]
  refine SeqAt.in_tupleAt (λw=>decide<|GJ s.heap w p) pl (λw hw=>?_)<|bL I q ?_
  ·refine wy (SQ I rv hds hr w<|by simpa using hw) λxw q' rw' dv ip=>?_;have e1:=acS q'.1 q'.2 p.1 p.2;refine uU (tV e1) λpa pb t1 t2 z1 z2 e2=>?_;obtain⟨as,r1⟩:=(qP (.inl dv) t1).reads I rw';obtain⟨bs,r2⟩:=(qP hx t2).reads I rx
   have:=W.keq_at r1 r2 z1 z2 hu
   rw[he w q' ip];rw[e2] at this;exact this
  ·rw[show χ.toArray.any (λw=>decide<|GJ s.heap w p)=χ.any λw=>decide (GJ s.heap w p) by simp];exact(UL I he rv hds hr).symm
 |_=>cases hr
def Nz:D->D->Option Bool
 | .lst ds,.lst []=>some<|!ds.isEmpty
 |_,_=>none
theorem aaP (hr0:eE j X.A):OpR X (fN .NotEq) (rGB (gx X) Nz):=by
 intro π s σ H x y v u Q I rx ry h;refine fQ h λO d e r m hx hy hr q=>?_;have hu:X.A.units<mE:=by have:=hr0.un;lia
 unfold Nz at hr;split at hr
 ·cases hr;obtain⟨a,xs,rfl,hq,hds⟩:=jr hx;obtain⟨b,ys,rfl,hq2,hds2⟩:=jr hy;cases hds2;cases rx;cases ry;obtain⟨χ,rv,pl,_⟩:=I.list hq;obtain⟨its2,rv2,pl2,_⟩:=I.list hq2;cases rv2;cases hds with
  |nil=>
   cases rv;exact SeqAt.RcNeAt.lists (e:=λ_=>true) pl.isList pl2.isList rfl hu (λj h1 _=>absurd h1<|Nat.not_lt_zero _) _ _ _ _<|bL I q rfl
  |cons h hs=>
   cases rv;exact SeqAt.RcNeAt.lists_lengths pl.isList pl2.isList (by simp) hu _ _ _ _<|bL I q rfl
 ·cases hr
end
end F
namespace Pk
open PySem L2 Hd F
section
def Qv (φ_lowest:Zac):Zab:=
 (aA (gIf (aB gEq (ak gIx (aj 1)<|fC<|.int 0)<|fC<|.int 0) JC gNx)
 (aU<|fFn φ_lowest<|aa (ak dO (ak gIx (aj 0)<|fC<|.int 0)<|ak gIx (aj 1)<|fC<|.int 1)<|aa (ak dO (ak gIx (aj 0)<|fC<|.int 1)<|ak gIx (aj 1)<|fC<|.int 0) ao))
def Ov:Zab:=
 (Qv oM)
def Jf:Zac:=aH 2 2 Ov
def HQ:Zab:=
 (aU<|Fv (Cr "tuple" (aj 0))<|oZ gEq (aF cu<|aa (aj 0) ao)<|fC<|.int 2)
def HJ:Zab:=
 HQ
def Bb:Zac:=aH 1 1 HJ
def cX:Zab:=
 (uZ 2 (aN<|aa (ak gIx (aj 3)<|fC<|.int 1)<|aa (au 4) ao)<|au 5)
def lg:Zab:=
 (cz (Io<|aa (ak gIx (aj 3)<|fC<|.int 2)<|aa (ak bu (aj 1)<|ak gIx (aj 3)<|fC<|.int 1) ao) (du 2<|aJ (hName 4)<|aJ (hName 5) dw) cX)
def dW:Zab:=
 lg
def gM:Zab:=
 (cz (cg<|au 0) (hName 3) dW)
def mZ (l_4:Zab):Zab:=
 (aA (cC 2 tM)
 (aA l_4
 (dY 2)))
def m7:Zab:=
 (mZ gM)
def jn:Zac:=aH 6 2 m7
def iw:Zab:=
 (aK 5<|fFn um<|aa (au 5)<|aa (ak pF (aj 2)<|aj 6) ao)
def jR:Zab:=
 (cz (oU<|ak gIx (aj 4)<|fC<|.int 3) (hName 6) iw)
def gY:Zab:=
 (uZ 3 (aN<|aa (ak gIx (aj 4)<|fC<|.int 1)<|aa (au 7) ao)<|fFn um<|aa (au 5)<|aa (ak pF (aj 2)<|aN<|aa (ak gIx (aj 4)<|fC<|.int 1)<|aa (au 7) ao) ao)
def jV:Zab:=
 (cz (oU<|ak gIx (aj 4)<|fC<|.int 2) (hName 7) gY)
def ig:Zab:=
 (aA (aK 5<|fC<|.tup [(.int 1),(.int 1)])
 (aA jR
 jV))
def jT:Zab:=
 (cz (cg<|au 0) (hName 4) ig)
def rW (φ_shares_by_pair:Zac)(l_6:Zab):Zab:=
 (aA (aK 2<|fFn φ_shares_by_pair<|aa (au 0)<|aa (au 1) ao)
 (aA (cC 3 tM)
 (aA l_6
 (dY 3))))
def rO:Zab:=
 (rW jn jT)
def iJ:Zac:=aH 8 2 rO
def iz:Zae:=
 (fIf (aB gEq (aj 0)<|aj 1) (fC<|.tup [(.int 1),(.int 1)])<|fC<|.tup [(.int 0),(.int 1)])
def o9:Zae:=
 (bC 1 [0] (jo<|aa (aj 1) ao) (hName 0) cQ iz)
def nQ (l_2:Zae):Zab:=
 (aU<|aF cH<|aa l_2 ao)
def xu:Zab:=
 (nQ o9)
def su:Zac:=aH 2 2 xu
def f9:Zae:=
 (ak pF (aj 1)<|aN<|aa (ak gIx (aj 2)<|fC<|.int 1)<|aa (au 0) ao)
def fZ:Zae:=
 (bC 1 [1,3] (oU<|ak gIx (aj 3)<|fC<|.int 2) (hName 0) cQ f9)
def fW:Zae:=
 (fFn Jf<|aa (au 0)<|aa (au 1) ao)
def ju:Zae:=
 (bC 1 [5] (cg<|aj 4) (hName 0) cQ fW)
def gm:Zab:=
 (aA (aK 4 fZ)
 (aA (aK 5<|fFn zx<|aa (au 4) ao)
 (gIf (aB gEq (aj 5)<|fC<|.tup [(.int 0),(.int 1)]) (dB 2 (ak gIx (aj 3)<|fC<|.int 1)<|fFn su<|aa (fC<|.int 0)<|aa (aF cu<|aa (ak gIx (aj 3)<|fC<|.int 2) ao) ao)<|dB 2 (ak gIx (aj 3)<|fC<|.int 1)<|aF cH<|aa ju ao)))
def fY:Zab:=
 (cz (cg<|au 0) (hName 3) gm)
def mL (l_6:Zab):Zab:=
 (aA (cC 2 wW)
 (aA l_6
 (dY 2)))
def lF:Zab:=
 (mL fY)
def iV:Zac:=aH 6 2 lF
def eX:Zae:=
 (oZ ad7 (fC<|.tup [(.int 1),(.int 1)])<|ak bu (aj 1)<|ak gIx (aj 0)<|fC<|.int 1)
def fL:Zae:=
 (bC 1 [1] (cg<|aj 0) (hName 0) cQ eX)
def gK (φ_is_plan_for:Zac)(l_2:Zae):Zab:=
 (aU<|Fv (fFn φ_is_plan_for<|aa (au 0)<|aa (au 1) ao)<|aF Eb<|aa l_2 ao)
def pW:Zab:=
 (gK iH fL)
def km:Zac:=aH 2 2 pW
def lE:Zae:=
 (fFn Bb<|aa (au 0) ao)
def mG:Zae:=
 (bC 1 [] (cg<|aj 1) (hName 0) cQ lE)
def mQ:Zae:=
 (bC 2 [] (cg<|aj 1) (du 2<|aJ (hName 0)<|aJ (hName 1) dw) cQ<|au 0)
def lH:Zae:=
 (fFn km<|aa (au 2)<|aa (au 1) ao)
def lW:Zae:=
 (bC 2 [0] (cg<|aj 1) (du 2<|aJ (hName 0)<|aJ (hName 1) dw) cQ lH)
def pN (φ_are_full_shares:Zac)(l_2:Zae)(l_3:Zae)(l_5:Zae):Zab:=
 (aA (gIf (ql (lM<|fTv<|Cr "list" (aj 1))<|lM<|fTv<|aF Eb<|aa l_2 ao) (aU<|fC<|.bl false) gNx)
 (aA (gIf (lM<|fTv<|fFn φ_are_full_shares<|aa (aF cH<|aa l_3 ao)<|aa (aF cu<|aa (aj 1) ao) ao) (aU<|fC<|.bl false) gNx)
 (aU<|aF Eb<|aa l_5 ao)))
def yL:Zab:=
 (pN cM mG mQ lW)
def uc:Zac:=aH 2 2 yL
def eZ:Zab:=
 (uZ 2 (au 5)<|fFn vK<|aa (Ol (aj 2) (aj 5)<|fC<|.tup [(.int 0),(.int 1)])<|aa (fFn um<|aa (au 3)<|aa (au 6) ao) ao)
def mJ:Zab:=
 (cz (abb<|N7<|Xe iJ<|aa (au 0)<|aa (au 4) ao) (du 2<|aJ (hName 5)<|aJ (hName 6) dw) eZ)
def fJ:Zab:=
 mJ
def iR:Zab:=
 (cz (cg<|au 1) (du 2<|aJ (hName 3)<|aJ (hName 4) dw) fJ)
def o7 (l_4:Zab):Zab:=
 (aA (cC 2 tM)
 (aA l_4
 (dY 2)))
def oY:Zab:=
 (o7 iR)
def j8:Zac:=aH 7 2 oY
def Dr (φ_rows_of:Zac)(φ_plan_of_weights:Zac)(φ_is_mix_for:Zac)(φ_mixed_weights:Zac):Zab:=
 (aA (aK 3<|fFn φ_rows_of<|aa (au 0)<|aa (au 1) ao)
 (aA (gIf (lM<|fTv<|fFn φ_is_mix_for<|aa (au 3)<|aa (au 2) ao) JC gNx)
 (aU<|fFn φ_plan_of_weights<|aa (au 3)<|aa (fFn φ_mixed_weights<|aa (au 3)<|aa (au 2) ao) ao)))
def QV:Zab:=
 (Dr tK iV uc j8)
def Dp:Zac:=aH 4 3 QV
end
end Pk
namespace K23
open PySem L2 Hd F Pk Lw
section
def jw:Zae:=
 (aN<|aa (aF VR<|aa (oZ gEq (aj 0)<|aj 1) ao)<|aa (fC<|.int 1) ao)
def rR:Zae:=
 (bC 1 [6] (jo<|aa (aj 5) ao) (hName 0) cQ jw)
def oA:Zab:=
 (gIf (aB gEq (ak gIx (ak gIx (aj 0)<|aj 4)<|fC<|.int 0)<|aj 1) (aA (aK 5<|aF cu<|aa (ak gIx (ak gIx (aj 0)<|aj 4)<|fC<|.int 2) ao)
 (aA (aK 6<|ak aY (ak cV (fFn bF<|aa (au 2)<|aa (ak bc (ak dO (fC<|.int 5)<|aj 4)<|fC<|.int 2) ao)<|fC<|.int 7)<|aj 5)
 (dB 3 (ak gIx (ak gIx (aj 0)<|aj 4)<|fC<|.int 1)<|aF cH<|aa rR ao))) gNx)
def nR:Zab:=
 (cz (jo<|aa (aF cu<|aa (aj 0) ao) ao) (hName 4) oA)
def rC (l_4:Zab):Zab:=
 (aA (cC 3 wW)
 (aA l_4
 (dY 3)))
def Ca:Zab:=
 (rC nR)
def oJ:Zac:=aH 7 3 Ca
def lN (Φ:Zac):Zae:=
 (aN<|aa (ak gIx (aj 1)<|aj 0)<|aa (ak gIx (ak gIx (ak gIx (aj 2)<|fC<|.int 3)<|aj 0)<|fC<|.int 1) ao)
def lZ (Φ:Zac):Zae:=
 (bC 1 [4,0] (jo<|aa (aF cu<|aa (aj 4) ao) ao) (hName 0) cQ<|lN Φ)
def gG (Φ:Zac):Zab:=
 (gIf (aB gNe (ak gIx (aj 5)<|fC<|.int 0)<|fC<|.int 0) (aK 2<|fFn lB<|aa (au 2)<|aa (fFn mC<|aa (au 5)<|aa (fFn Φ<|aa (au 6)<|aa (au 1) ao) ao) ao) gNx)
def jb (Φ:Zac):Zab:=
 (cz (HF<|au 3) (du 2<|aJ (hName 5)<|aJ (hName 6) dw)<|gG Φ)
def eQ (l_2:Zae)(l_4:Zab):Zab:=
 (aA (gIf (aB gEq (ak gIx (aj 0)<|fC<|.int 0)<|fC<|.str "end") (aU<|ak gIx (aj 0)<|fC<|.int 1) gNx)
 (aA (aK 2<|aN<|aa (fC<|.int 0)<|aa (fC<|.int 1) ao)
 (aA (gIf (aB gEq (ak gIx (aj 0)<|fC<|.int 0)<|fC<|.str "deal") (aK 3<|ak gIx (aj 0)<|fC<|.int 2) (aA (aK 4<|ak bu (ak gIx (aj 1)<|ak cO (ak gIx (aj 0)<|fC<|.int 1)<|fC<|.int 1)<|ak gIx (aj 0)<|fC<|.int 2)
 (aK 3 l_2)))
 (aA l_4
 (aU<|au 2)))))
def bQ:Nat->Zac
 |0=>λ_=>.stuck
 |n+1=>aH 7 2
   (eQ (lZ<|bQ n)<|jb<|bQ n)
def jO:Zab:=
 (bD 4<|aN<|aa (ak gIx (aj 5)<|aj 6)<|aa (fFn oJ<|aa (au 0)<|aa (au 1)<|aa (fFn bF<|aa (au 2)<|aa (ak bc (fC<|.int 20)<|aj 6) ao) ao) ao)
def jK:Zab:=
 (cz (jo<|aa (aj 3) ao) (hName 6) jO)
def oh (φ__law_mix:Zac)(φ__law_parts:Zac)(l_2:Zab):Zab:=
 (aA (cC 4<|cP ao)
 (aA (aK 5<|fFn φ__law_parts<|aa (fFn φ__law_mix<|aa (au 2)<|aa (fC<|.int 11) ao)<|aa (au 3) ao)
 (aA l_2
 (dY 4))))
def wU:Zab:=
 (oh bF jh jK)
def nF:Zac:=aH 7 4 wU
def oG:Zae:=
 (aN<|aa (fC<|.int 1)<|aa (aF cu<|aa (ak gIx (aj 1)<|fC<|.int 2) ao) ao)
def nM:Zae:=
 (bC 1 [3] (oU<|ak gIx (aj 3)<|fC<|.int 2) (hName 0) cQ oG)
def ou:Zab:=
 (gIf (aB gEq (ak gIx (aj 3)<|fC<|.int 0)<|aj 1) (dB 2 (ak gIx (aj 3)<|fC<|.int 1)<|aF cH<|aa nM ao) gNx)
def oE:Zab:=
 (cz (cg<|au 0) (hName 3) ou)
def qT (l_4:Zab):Zab:=
 (aA (cC 2 wW)
 (aA l_4
 (dY 2)))
def BZ:Zab:=
 (qT oE)
def wu:Zac:=aH 4 2 BZ
def qx:Zab:=
 (aA (gIf (aB gEq (aj 0)<|fC<|.int 1) (jc<|cP<|aa (au 1)<|aa (au 2) ao) gNx)
 (jc<|cP<|aa (au 2)<|aa (au 1) ao))
def qI:Zab:=
 qx
def lr:Zac:=aH 3 3 qI
def cT:Zab:=
 (gIf (pA (aB Nz (aj 1)<|cP ao)<|aB Hq (ak gIx (ak gIx (aj 1)<|fUn qj<|fC<|.int 1)<|fC<|.int 1)<|aj 3) (kZ 1 (fUn qj<|fC<|.int 1)<|aN<|aa (fFn lB<|aa (ak gIx (ak gIx (aj 1)<|fUn qj<|fC<|.int 1)<|fC<|.int 0)<|aa (au 2) ao)<|aa (au 3) ao)<|bD 1<|aN<|aa (au 2)<|aa (au 3) ao)
def d9:Zab:=
 (cz (cg<|au 0) (du 2<|aJ (hName 2)<|aJ (hName 3) dw) cT)
def fU (l_2:Zab):Zab:=
 (aA (cC 1<|cP ao)
 (aA l_2
 (dY 1)))
def pC:Zab:=
 (fU d9)
def gj:Zac:=aH 4 1 pC
def Jq:Zab:=
 (aK 10<|fFn lB<|aa (au 10)<|aa (fFn mC<|aa (au 11)<|aa (fFn (bQ 30)<|aa (au 3)<|aa (fFn lr<|aa (au 5)<|aa (au 12)<|aa (au 9) ao) ao) ao) ao)
def Dn:Zab:=
 (cz (cg<|au 6) (du 2<|aJ (hName 11)<|aJ (hName 12) dw) Jq)
def Di:Zab:=
 (aA (aK 10<|aN<|aa (fC<|.int 0)<|aa (fC<|.int 1) ao)
 (aA Dn
 (aA (aK 13<|fFn lr<|aa (au 5)<|aa (au 7)<|aa (au 9) ao)
 (gIf (ql (aB gNe (fFn (bQ 30)<|aa (au 3)<|aa (au 13) ao)<|aj 10)<|aB gNe (fFn vZ<|aa (au 3)<|aa (ak gIx (aj 13)<|fC<|.int 0)<|aa (ak gIx (aj 13)<|fC<|.int 1) ao)<|aj 10) (aU<|fC<|.bl false) gNx))))
def yC:Zab:=
 (cz (cg<|cP<|aa (fFn vN<|aa (au 4)<|aa (ak cO (fC<|.int 3)<|aj 5)<|aa (au 8) ao)<|aa (fFn oJ<|aa (au 4)<|aa (ak cO (fC<|.int 3)<|aj 5)<|aa (au 8) ao)<|aa (fFn wu<|aa (au 4)<|aa (ak cO (fC<|.int 3)<|aj 5) ao) ao) (hName 9) Di)
def RP (φ_mixed:Zac)(φ__law_cell_at:Zac)(φ__law_pool:Zac)(φ__law_game:Zac)(φ__law_table:Zac)(φ__law_mix_of:Zac)(φ__law_put_together:Zac)(l_4:Zab):Zab:=
 (aA (aK 1<|fFn φ__law_pool<|aa (fFn φ__law_cell_at<|aa (au 0)<|aa (fC<|.int 0) ao)<|aa (fFn φ__law_cell_at<|aa (au 0)<|aa (fC<|.int 1) ao) ao)
 (aA (aK 2<|fFn φ__law_cell_at<|aa (au 0)<|aa (fC<|.int 2) ao)
 (aA (aK 3<|fFn φ__law_game<|aa (ak bc (fSl (aj 0) (fO1<|fC<|.int 8)<|fO1<|fC<|.int 44)<|cP<|aa (fFn φ__law_cell_at<|aa (au 0)<|aa (fC<|.int 3) ao) ao)<|aa (au 2)<|aa (fC<|.int 5)<|aa (fC<|.int 33)<|aa (au 1) ao)
 (aA (aK 4<|fFn φ__law_table<|aa (au 3) ao)
 (aA (aK 5<|ak bc (fC<|.int 1)<|ak aY (ak cV (aj 2)<|fC<|.int 128)<|fC<|.int 2)
 (aA (aK 6<|fFn φ__law_mix_of<|aa (au 4)<|aa (au 5)<|aa (fFn φ__law_cell_at<|aa (au 0)<|aa (fC<|.int 4) ao)<|aa (ak bc (fC<|.int 1)<|ak aY (ak cV (aj 2)<|fC<|.int 256)<|fC<|.int 6) ao)
 (aA (aK 7<|fFn φ_mixed<|aa (au 3)<|aa (au 5)<|aa (aF uN<|aa (aj 6) ao) ao)
 (aA (gIf (aB Xk (fFn φ_mixed<|aa (au 3)<|aa (au 5)<|aa (fFn φ__law_put_together<|aa (au 6) ao) ao)<|aj 7) (aU<|fC<|.bl false) gNx)
 (aA (aK 8<|fFn φ__law_cell_at<|aa (au 0)<|aa (fC<|.int 5) ao)
 (aA l_4
 (aU<|fC<|.bl true)))))))))))
def acf:Zab:=
 (RP Dp gJ qR qO lD nF gj yC)
def acF:Zac:=aH 14 1 acf
end
end K23
namespace Pk
open PySem L2 Hd F
structure Mi where
 c:Rat
 p:Pl
 f:D->Rat
def prR (f:D->Rat):List D->Rat
 |[]=>1
 |d::l=>f d*prR f l
theorem CK (f:D->Rat)(d:D):∀l:List D,prR f (l++[d])=prR f l*f d
 |[]=>by simp[prR]
 |x::l=>by rw[List.cons_append,prR,CK f d l,prR];grind
def sm (M:List Mi)(φ:Mi->Rat):Rat:=(M.map φ).sum
theorem KR (φ ψ:Mi->Rat):∀M:List Mi,sm M (λm=>φ m+ψ m)=sm M φ+sm M ψ
 |[]=>by simp[sm];grind
 |m::M=>by
  have:=KR φ ψ M
  simp only[sm,ah,cb] at this ⊢;grind
theorem xF (x:Rat)(φ:Mi->Rat):∀M:List Mi,sm M (λm=>x*φ m)=x*sm M φ
 |[]=>by simp[sm]
 |m::M=>by
  have:=xF x φ M
  simp only[sm,ah,cb] at this ⊢;grind
theorem Zg (h:∀m∈M,φ m=ψ m):sm M φ=sm M ψ:=by
 unfold sm;rw[eS h]
def aR (M:List Mi)(rc:List D):Rat:=sm M λm=>m.c*prR m.f rc
def agr (φ:D->Rat):List Rat->Ws->Prop
 |x::xs,.cons l _ r=>φ l=x/\agr φ xs r
 |[],.nil=>True
 |_,_=>False
def agq (M:List Mi)(n:Str)(rc:List D):List Rat->Ws->Prop
 |x::xs,.cons l _ r=>aR M (rc++[.tup [.str n,l]])=aR M rc*x/\agq M n rc xs r
 |[],.nil=>True
 |_,_=>False
structure KO (M:List Mi)(s:Int)(Q:Pl)(t:Tr3):Prop where
 own:∀n ws,t.2.1=.move s n ws->(∀m∈M,agr (λl=>m.f (.tup [.str n,l])) (m.p s n) ws)/\agq M n (eF t.2.2 s) (Q s n) ws
 oth:∀s' n ws,t.2.1=.move s' n ws->s'≠s->∀m∈M,m.p s' n=Q s' n
 sd:∀s' n ws,t.2.1=.move s' n ws->s'=1\/s'=2
theorem Rx (hs:s=1\/s=2)(n:Str)(r:Rc)(l:D):eF (rbm s n r l) s=eF r s++[.tup [.str n,l]]:=by grind[eF,rbm]
theorem U3 (hs:s=1\/s=2)(hs':s'=1\/s'=2)(ne:s'≠s)(n:Str)(r:Rc)(l:D):eF (rbm s' n r l) s=eF r s:=by grind[eF,rbm]
mutual
theorem kG (hs:s=1\/s=2):∀(g:Gm) (w:List Int) (r:Rc),(∀t∈prG w r g,KO M s Q t)->sm M (λm=>m.c*prR m.f (eF r s)*vG m.p g)=aR M (eF r s)*vG Q g
 | .fin d,w,r,h=>by
  have:(λm:Mi=>m.c*prR m.f (eF r s)*vG m.p (.fin d))=λm=>rOf (qD d)*(m.c*prR m.f (eF r s)):=by
   funext m;simp only[vG];grind
  rw[this,xF];simp only[vG,aR];grind
 | .deal n ws,w,r,h=>by
  have:=kW hs ws w (λ_=>r) 0 ((bZ ws).map rOf) (eF r s) (λ_=>rfl) λt ht=>h t<|ae _ ht
  simpa only[vG] using this
 | .move s' n ws,w,r,h=>by
  have h0:=h (w,.move s' n ws,r) af;have ht:∀t∈prW w (rbm s' n r) 0 ws,KO M s Q t:=λt ht=>h t<|ae _ ht;have hs':=h0.sd s' n ws rfl;by_cases c:s'=s
  ·subst c;obtain⟨h1,h2⟩:=h0.own n ws rfl
   have:=kO hs ws w r n 0 (λm=>m.p s' n) (Q s' n) (λm hm=>h1 m hm) h2 ht
   simpa only[vG] using this
  ·have:=kW hs ws w (rbm s' n r) 0 (Q s' n) (eF r s) (λl=>U3 hs hs' c n r l) ht
   have e:sm M (λm=>m.c*prR m.f (eF r s)*vG m.p (.move s' n ws))=sm M λm=>m.c*prR m.f (eF r s)*vW m.p (Q s' n) ws:=Zg λm hm=>by
    simp only[vG];rw[h0.oth s' n ws rfl c m hm]
   rw[e,this];simp only[vG]
theorem kW (hs:s=1\/s=2):∀(ws:Ws) (w:List Int) (f:D->Rc) (i:Nat) (xs:List Rat) (rc:List D),(∀l,eF (f l) s=rc)->(∀t∈prW w f i ws,KO M s Q t)->sm M (λm=>m.c*prR m.f rc*vW m.p xs ws)=aR M rc*vW Q xs ws
 | .nil,w,f,i,xs,rc,hf,h=>by
  have:(λm:Mi=>m.c*prR m.f rc*vW m.p xs .nil)=λm=>0*(m.c*prR m.f rc):=by
   funext m;cases xs<;>simp[vW]
  rw[this,xF];cases xs<;>simp[vW]
 | .cons l g r,w,f,i,[],rc,hf,h=>by
  have:(λm:Mi=>m.c*prR m.f rc*vW m.p [] (.cons l g r))=λm=>0*(m.c*prR m.f rc):=by
   funext m;simp[vW]
  rw[this,xF];simp[vW]
 | .cons l g r,w,f,i,x::xs,rc,hf,h=>by
  have e1:=kG hs g (w++[(i:Int)]) (f l) λt ht=>h t<|dy _ ht;have e2:=kW hs r w f (i+1) xs rc hf λt ht=>h t<|cf _ ht;rw[hf l] at e1
  have:(λm:Mi=>m.c*prR m.f rc*vW m.p (x::xs) (.cons l g r))=λm=>x*(m.c*prR m.f rc*vG m.p g)+m.c*prR m.f rc*vW m.p xs r:=by
   funext m;simp only[vW];grind
  rw[this,KR,xF,e1,e2];simp only[vW];grind
theorem kO (hs:s=1\/s=2):∀(ws:Ws) (w:List Int) (r:Rc) (n:Str) (i:Nat) (xs:Mi->List Rat) (ys:List Rat),(∀m∈M,agr (λl=>m.f<|.tup [.str n,l]) (xs m) ws)->agq M n (eF r s) ys ws->(∀t∈prW w (rbm s n r) i ws,KO M s Q t)->
  sm M (λm=>m.c*prR m.f (eF r s)*vW m.p (xs m) ws)=aR M (eF r s)*vW Q ys ws
 | .nil,w,r,n,i,xs,ys,h1,h2,h=>by
  have:(λm:Mi=>m.c*prR m.f (eF r s)*vW m.p (xs m) .nil)=λm=>0*(m.c*prR m.f (eF r s)):=by
   funext m;cases xs m<;>simp[vW]
  rw[this,xF];cases ys<;>simp[vW]
 | .cons l g rs,w,r,n,i,xs,[],h1,h2,h=>h2.elim
 | .cons l g rs,w,r,n,i,xs,y::ys,h1,h2,h=>by
  have e1:=kG hs g (w++[(i:Int)]) (rbm s n r l) λt ht=>h t<|dy _ ht;rw[Rx hs] at e1;have h3:∀m∈M,agr (λl=>m.f<|.tup [.str n,l]) (xs m).tail rs:=λm hm=>by
   have:=h1 m hm
   cases hx:xs m with
   |nil=>rw[hx] at this;exact this.elim
   |cons a t=>rw[hx] at this;exact this.2
  have e2:=kO hs rs w r n (i+1) (λm=>(xs m).tail) ys h3 h2.2 λt ht=>h t<|cf _ ht
  have:sm M (λm=>m.c*prR m.f (eF r s)*vW m.p (xs m) (.cons l g rs))=sm M (λm=>m.c*prR m.f (eF r s++[.tup [.str n,l]])*vG m.p g+m.c*prR m.f (eF r s)*vW m.p (xs m).tail rs):=Zg λm hm=>by
   have:=h1 m hm
   cases hx:xs m with
   |nil=>rw[hx] at this;exact this.elim
   |cons a t=>
    rw[hx] at this;have ha:m.f (.tup [.str n,l])=a:=this.1;rw[CK,ha];simp only[vW,List.tail_cons];grind
  rw[this,KR,e1,e2,h2.1];simp only[vW];grind
end
open L2 (atI ixN Key)
abbrev PS:=Str×Str
noncomputable def kp (p:PS):List Kt:=[.k<|.inr p.1,.k<|.inr p.2]
def prD (p:PS):D:=.tup [.str p.1,.str p.2]
theorem xH (h:kp p=kp q):p=q:=by
 obtain⟨a,b⟩:=p;obtain⟨c,d⟩:=q;simp[kp] at h;rw[h.1,h.2]
theorem X4 (p:PS):vf (prD p)=some (kp p):=rfl
theorem Sh (a b:Str):vf (.tup [.str a,.str b])=some (kp (a,b)):=rfl
def dP (ps:List PS)(f:PS->Rat):D:=.dcu (ps.map kp)<|ps.map λp=>rD<|f p
theorem Fz (h:∀p∈ps,f p=g p):dP ps f=dP ps g:=by
 unfold dP;congr 1;exact eS λp hp=>by rw[h p hp]
theorem PN {f:PS->Rat}{p:PS}:∀{ps:List PS},p∈ps->bJ (ps.map kp) (ps.map λp=>rD<|f p) (kp p)=some (rD<|f p)
 |q::ps,h=>by
  rw[ah,ah,bJ];by_cases c:q=p
  ·subst c;rw[if_pos rfl]
  ·rw[if_neg λz=>c<|xH z];rcases aE.mp h with z|z
   ·exact absurd z.symm c
   ·exact PN z
theorem Rj {f:PS->Rat}{p:PS}:∀{ps:List PS},p∉ps->bJ (ps.map kp) (ps.map λp=>rD<|f p) (kp p)=none
 |[],_=>rfl
 |q::ps,h=>by
  rw[ah,ah,bJ,if_neg λz=>h (by rw[xH z];exact af)];exact Rj λz=>h<|ae _ z
def wM (ps:List PS)(p:PS):List PS:=if p∈ps then ps else ps++[p]
def upF (f:PS->Rat)(p:PS)(v:Rat):PS->Rat:=λq=>if q=p then v else f q
theorem RX:∀ps:List PS,uY (ps.map kp) (ps.map λp=>rD<|f p) (kp p) (rD v)=ps.map λq=>rD (upF f p v q)
 |[]=>rfl
 |q::ps=>by
  rw[ah,ah,uY,RX ps,ah];congr 1;by_cases c:q=p
  ·subst c;simp[upF]
  ·rw[if_neg λz=>c<|xH z];simp[upF,c]
theorem PX:D.dcu (iu (ps.map kp) (ps.map λp=>rD<|f p) (kp p)<|rD v).1 (iu (ps.map kp) (ps.map λp=>rD<|f p) (kp p)<|rD v).2=dP (wM ps p) (upF f p v):=by
 by_cases c:p∈ps
 ·have a:(ps.map kp).any (λx=>decide<|x=kp p)=true:=List.any_eq_true.mpr ⟨kp p,aw.mpr ⟨p,c,rfl⟩,decide_eq_true rfl⟩;unfold iu wM;rw[if_pos a,if_pos c,RX];rfl
 ·have a:¬(ps.map kp).any (λx=>decide<|x=kp p)=true:=λz=>by
   obtain⟨x,hx,e⟩:=List.any_eq_true.mp z;obtain⟨q,hq,rfl⟩:=aw.mp hx;exact c<|xH (of_decide_eq_true e)▸hq
  unfold iu wM;rw[if_neg a,if_neg c];unfold dP;rw[bX,bX];congr 1;rw[show[p].map (λq=>rD<|upF f p v q)=[rD v] by simp[upF]];show(ps.map λq=>rD<|f q)++[rD v]=(ps.map λq=>rD<|upF f p v q)++[rD v];congr 1;exact eS λq hq=>by unfold upF;rw[if_neg<|show ¬q=p from λz=>c<|z▸hq]
def vd (ps:List PS):List PS->List PS
 |[]=>ps
 |p::l=>vd (wM ps p) l
theorem Yo (ps:List PS)(p:PS):(wM ps p).length<=ps.length+1:=by unfold wM;split<;>simp
theorem zp:∀(l ps:List PS),(ps++l).Nodup->vd ps l=ps++l
 |[],ps,_=>by simp[vd]
 |p::l,ps,h=>by
  have hp:p∉ps:=λz=>by
   rw[ka] at h;exact h.2.2 p z p af rfl
  rw[vd,wM,if_neg hp,zp l (ps++[p])<|by simpa using h]
  simp
theorem Oe:∀(l ps:List PS),(∀p∈l,p∈ps)->vd ps l=ps
 |[],ps,_=>rfl
 |p::l,ps,h=>by
  rw[vd,wM,if_pos<|h p af,Oe l ps λq hq=>h q<|ae _ hq]
theorem Dk {X:Type}{h:Zba}{B:Zab}{mk:D->X->Me}{it:PS->D}{val:PS->Rat->Rat}{C:List PS->(PS->Rat)->Prop}{f0:PS->Rat}
  : ∀(L:List PS) (ps:List PS) (f:PS->Rat) (x:X),(∀p∈L,∀ps f x,ps.length<=1000->C ps f->f p=f0 p->(∃m1 x',h (it p) (mk (dP ps f) x)=some m1/\B m1=.ok (.nx,mk (dP (wM ps p)<|upF f p<|val p<|f p) x'))/\C (wM ps p) (upF f p<|val p<|f p))->
  L.Nodup->ps.length+L.length<=1000->C ps f->(∀p∈L,f p=f0 p)->∃x',aL h B (L.map it) (mk (dP ps f) x)=.ok (.nx,mk (dP (vd ps L) λp=>if p∈L then val p (f p) else f p) x')/\C (vd ps L) λp=>if p∈L then val p (f p) else f p
 |[],ps,f,x,_,_,_,hc,_=>⟨x,by simp[aL,vd],by simpa[vd] using hc⟩
 |p::L,ps,f,x,hs,nd,hl,hc,h0=>by
  obtain⟨⟨m1,x1,e1,e2⟩,c1⟩:=hs p af ps f x (by simp at hl;lia) hc (h0 p af);obtain⟨x2,e3,c2⟩:=Dk L (wM ps p) (upF f p<|val p<|f p) x1 (λq hq=>hs q<|ae _ hq) (hC.mp nd).2 (by have:=Yo ps p;simp at hl;lia) c1 (λq hq=>by
   have:¬q=p:=λz=>(hC.mp nd).1<|z▸hq
   unfold upF;rw[if_neg this];exact h0 q<|ae _ hq)
  have ef:(λq=>if q∈L then val q (upF f p (val p<|f p) q) else upF f p (val p<|f p) q)=λq=>if q∈p::L then val q (f q) else f q:=by
   funext q;by_cases c:q=p
   ·subst c;rw[if_neg (hC.mp nd).1,if_pos af];simp[upF]
   ·have:q∈p::L↔q∈L:=by simp[c]
    simp only[this,upF,if_neg c]
  rw[ef] at e3 c2;exact⟨x2,(by rw[ah];exact(aW e1 e2).trans e3),c2⟩
structure RS where
 n:Str
 w:List Str
 rc:List PS
def aO (s:Int)(x:RS):D:=.tup [.int s,.str x.n,.tup<|x.w.map .str,.tup<|x.rc.map prD]
def kj (x:RS):List PS:=x.w.map λw=>(x.n,w)
def ω (xs:List RS):List PS:=xs.flatMap kj
def XH (xs:List RS)(n:Str):RS:=(xs.find? λx=>decide<|x.n=n).getD ⟨n,[],[]⟩
structure mU (xs:List RS):Prop where
 nd:(xs.map (·.n)).Nodup
 wd:∀x∈xs,x.w.Nodup/\1<=x.w.length/\x.w.length<=3
 rc:∀x∈xs,∀p∈x.rc,p∈ω xs
 len:xs.length<=8
theorem mX (nd:(xs.map (·.n)).Nodup){x:RS}(h:x∈xs):XH xs x.n=x:=by
 unfold XH;induction xs with
 |nil=>cases h
 |cons y xs ih=>
  rw[ah,hC] at nd;rw[kR];rcases aE.mp h with rfl|z
  ·simp
  ·have:¬y.n=x.n:=λe=>nd.1 (e▸aw.mpr ⟨x,z,rfl⟩)
   rw[decide_eq_false this];exact ih nd.2 z
theorem yD (x:RS)(xs:List RS):ω (x::xs)=kj x++ω xs:=by simp[ω]
theorem CP (xs ys:List RS):ω (xs++ys)=ω xs++ω ys:=by simp[ω]
theorem Kh:∀{xs:List RS},(xs.map (·.n)).Nodup->(∀x∈xs,x.w.Nodup)->(ω xs).Nodup
 |[],_,_=>qf
 |x::xs,nd,hw=>by
  rw[ah,hC] at nd;rw[yD,ka];refine⟨?_,Kh nd.2 λy hy=>hw y<|ae _ hy,λp hp q hq e=>?_⟩
  ·unfold kj;exact gS.mpr<|(hw x af).imp λ{a b} h z=>h (xh z).2
  ·subst e;obtain⟨w,_,rfl⟩:=aw.mp hp;obtain⟨y,hy,hq⟩:=fR.mp hq;obtain⟨v,_,e⟩:=aw.mp hq;exact nd.1<|aw.mpr ⟨y,hy,(xh e).1⟩
theorem Gz (h:∀x∈xs,x.w.length<=3):(ω xs).length<=3*xs.length:=by
 induction xs with
 |nil=>simp[ω]
 |cons x xs ih=>
  have:=ih λy hy=>h y<|ae _ hy
  have h1:=h x af;rw[yD,a8];simp[kj]
  lia
def fS (xs:List RS)(u:Str->List Rat):PS->Rat:=λp=>(u p.1).getD ((XH xs p.1).w.idxOf p.2) 0
open L2 (atI ixN Key)
theorem Ef (s:Int)(x:RS):gIx (aO s x) (.int 0)=some (.int s)/\gIx (aO s x) (.int 1)=some (.str x.n)/\gIx (aO s x) (.int 2)=some (.tup<|x.w.map .str)/\gIx (aO s x) (.int 3)=some (.tup<|x.rc.map prD):=⟨rfl,rfl,rfl,rfl⟩
theorem szP {ps:List PS}(h:ps.length<=1000):(ps.map kp).length<av:=by rw[cm];exact oT h<|by decide
abbrev hZ2:Zba:=du 2<|aJ (hName 4)<|aJ (hName 5) dw
theorem Wg (hz:ps.length<=1000):
  cX [a0,a1,.ow<|dP ps f,.fz<|aO s x,.fz<|.str w,.fz<|rD v]=.ok (.nx,[a0,a1,.ow<|dP (wM ps (x.n,w))<|upF f (x.n,w) v,.fz<|aO s x,.fz<|.str w,.fz<|rD v]):=by
 obtain⟨_,r1,_,_⟩:=Ef s x;have hz':=szP hz;rw[← PX];unfold dP;generalize hq:iu (ps.map kp) (ps.map λp=>rD<|f p) (kp (x.n,w)) (rD v)=q
 have:=Sh x.n w
 simp[cX,uZ,au,Cp,aN,aa,ao,ak,aj,fC,r1,this,hq,qu];simpa using hz'
theorem ad3 (u:List Rat)(φ:PS->Rat){ps:List PS}{f:PS->Rat}{s4 s5:Sl}(hu:u.length=x.w.length)(nw:x.w.Nodup)(hφ:∀j w,x.w[j]? = some w->φ (x.n,w)=u.getD j 0)(hz:ps.length+x.w.length<=1000):
  ∃s4' s5',aL hZ2 cX (vy (x.w.map .str)<|u.map rD) [a0,a1,.ow<|dP ps f,.fz<|aO s x,s4,s5]=.ok (.nx,[a0,a1,.ow<|dP (vd ps<|kj x) λp=>if p∈kj x then φ p else f p,.fz<|aO s x,s4',s5']):=by
 have ez:vy (x.w.map .str) (u.map rD)=(kj x).map λp=>.tup [.str p.2,rD<|φ p]:=by
  unfold kj;rw[cy]
  have:∀(ws:List Str) (us:List Rat),us.length=ws.length->(∀j w,ws[j]? = some w->φ (x.n,w)=us.getD j 0)->vy (ws.map .str) (us.map rD)=ws.map ((λp:PS=>D.tup [.str p.2,rD<|φ p])∘λw=>(x.n,w)):=by
   intro ws;induction ws with
   |nil=>intro us h _;cases us<;>first|rfl|cases h
   |cons w ws ih=>
    intro us h hj;cases us with
    |nil=>cases h
    |cons v us=>
     rw[ah,ah,ah,vy,ih us (by simpa using h) λj w' hw=>by simpa using hj (j+1) w' (by simpa using hw)];have h0:φ (x.n,w)=v:=by simpa using hj 0 w rfl
     congr 1;show D.tup [.str w,rD v]=D.tup [.str w,rD<|φ (x.n,w)];rw[h0]
  exact this x.w u hu hφ
 rw[ez];obtain⟨⟨t4,t5⟩,e,_⟩:=Dk (X:=Sl×Sl) (h:=hZ2) (B:=cX) (mk:=λd y=>[a0,a1,.ow d,.fz<|aO s x,y.1,y.2]) (it:=λp=>.tup [.str p.2,rD<|φ p]) (val:=λp _=>φ p) (C:=λ_ _=>True) (kj x) ps f (s4,s5) (λp hp ps f y hl _ _=>by
  obtain⟨w,hw,rfl⟩:=aw.mp hp;exact⟨⟨_,(.fz<|.str w,.fz<|rD<|φ (x.n,w)),rfl,Wg hl⟩,trivial⟩) (by unfold kj;exact gS.mpr<|nw.imp λ{a b} h z=>h (xh z).2) (by simp[kj];lia) trivial (λ_ _=>rfl)
 exact⟨t4,t5,e⟩
def plS (s:Int)(xs:List RS)(u:Str->List Rat):D:=bf (xs.map<|aO s) u
theorem XX (h:x∈xs):bu (plS s xs u) (.str x.n)=some (.tup<|(u x.n).map rD):=by
 have:=v7 (λn=>.tup<|(u n).map rD) (xs.map<|aO s) ⟨aO s x,aw.mpr ⟨x,h,rfl⟩,rfl⟩
 have e:nmR (aO s x)=x.n:=rfl;rw[e] at this;unfold plS bf bu;simp only[tH,xw];exact this
theorem ZW (hx:x∈xs)(X:mU xs)(hu:(u x.n).length=x.w.length)(hz:ps.length<=900):
  ∃s4' s5',dW [a0,.fz<|plS s xs u,.ow<|dP ps f,.fz<|aO s x,s4,s5]=.ok (.nx,[a0,.fz<|plS s xs u,.ow<|dP (vd ps<|kj x) λp=>if p∈kj x then fS xs u p else f p,.fz<|aO s x,s4',s5']):=by
 obtain⟨h1,h2,h3⟩:=X.wd x hx;obtain⟨s4',s5',e⟩:=ad3 (a0:=a0) (a1:=.fz<|plS s xs u) (s:=s) (x:=x) (u x.n) (fS xs u) (ps:=ps) (f:=f) (s4:=s4) (s5:=s5) hu h1 (λj w hw=>by
  unfold fS;rw[mX X.nd hx];have hj:j<x.w.length:=by
   rcases Bn j x.w.length with z|z
   ·exact z
   ·rw[kA z] at hw;cases hw
  have:x.w.idxOf w=j:=by
   have hw':x.w[j]=w:=by rw[ax hj] at hw;exact dE hw
   rw[← hw'];exact kX h1 j hj
  simp only[this]) (by lia)
 refine⟨s4',s5',?_⟩;obtain⟨_,r1,r2,_⟩:=Ef s x;have pg:=XX (s:=s) (u:=u) hx;unfold dW lg cz;have it:Io (aa (ak gIx (aj 3)<|fC<|.int 2)<|aa (ak bu (aj 1)<|ak gIx (aj 3)<|fC<|.int 1) ao) [a0,.fz<|plS s xs u,.ow<|dP ps f,.fz<|aO s x,s4,s5]=.ok (vy (x.w.map .str)<|(u x.n).map rD):=by
  simp[Io,aa,ao,ak,aj,fC,r1,r2,pg]
 rw[it];exact e
theorem Mp (X:mU xs)(hu:∀x∈xs,(u x.n).length=x.w.length):∀(rest pre:List RS) (s3 s4 s5:Sl),xs=pre++rest->
  ∃s3' s4' s5',aL (hName 3) dW (rest.map<|aO s) [a0,.fz<|plS s xs u,.ow<|dP (ω pre)<|fS xs u,s3,s4,s5]=.ok (.nx,[a0,.fz<|plS s xs u,.ow<|dP (ω xs)<|fS xs u,s3',s4',s5'])
 |[],pre,s3,s4,s5,e=>⟨s3,s4,s5,by rw[e];simp[aL]⟩
 |x::rest,pre,s3,s4,s5,e=>by
  have hx:x∈xs:=by rw[e];simp
  have hw:∀y∈xs,y.w.length<=3:=λy hy=>(X.wd y hy).2.2;have nd:=Kh X.nd λy hy=>(X.wd y hy).1;have nd2:(ω pre++kj x).Nodup:=by
   rw[e,CP,yD,← eD] at nd;exact(ka.mp nd).1
  have hl:(ω pre).length<=900:=by
   have:=Gz (xs:=pre) λy hy=>hw y (by rw[e];exact dy _ hy)
   have l:=X.len;rw[e] at l;simp at l
   lia
  obtain⟨t4,t5,e1⟩:=ZW (s:=s) (u:=u) (a0:=a0) (s4:=s4) (s5:=s5) (ps:=ω pre) (f:=fS xs u) hx X (hu x hx) hl;have ed:dP (vd (ω pre)<|kj x) (λp=>if p∈kj x then fS xs u p else fS xs u p)=dP (ω<|pre++[x]) (fS xs u):=by
   rw[zp _ _ nd2,CP]
   have:ω [x]=kj x:=by simp[ω]
   rw[this];exact Fz λp _=>by split<;>rfl
  rw[ed] at e1;obtain⟨t3',t4',t5',e2⟩:=Mp X hu rest (pre++[x]) (.fz<|aO s x) t4 t5 (by rw[e];simp);refine⟨t3',t4',t5',?_⟩;rw[ah];exact(aW rfl e1).trans e2
theorem ad9 (X:mU xs)(hu:∀x∈xs,(u x.n).length=x.w.length):jn [.lst<|xs.map<|aO s,plS s xs u]=.ok (true,dP (ω xs)<|fS xs u):=by
 obtain⟨t3,t4,t5,e⟩:=Mp (s:=s) (a0:=.fz<|.lst<|xs.map<|aO s) X hu xs [] .un .un .un rfl;have eL:gM [.fz<|.lst<|xs.map<|aO s,.fz<|plS s xs u,.ow<|.dcu [] [],.un,.un,.un]=.ok (.nx,[.fz<|.lst<|xs.map<|aO s,.fz<|plS s xs u,.ow<|dP (ω xs)<|fS xs u,t3,t4,t5]):=by
  unfold gM cz;have it:cg (au 0) [.fz<|.lst<|xs.map<|aO s,.fz<|plS s xs u,.ow<|.dcu [] [],.un,.un,.un]=.ok (xs.map<|aO s):=by simp[cg,au]
  rw[it];exact e
 generalize plS s xs u=pl at *;simp[jn,m7,mZ,aH,aA,cC,tM,eL,dY]
open L2 (atI ixN Key)
def z01 (x:Rat):Prop:=x=0\/x=1
theorem z01.sz (h:z01 x):Sz 2 x:=by
 rcases h with rfl|rfl
 ·exact jJ.mono<|by decide
 ·exact Yr.mono<|by decide
theorem z01.mul (h:z01 x)(k:z01 y):z01 (x*y):=by
 rcases h with rfl|rfl
 ·exact .inl<|by grind
 ·rw[show(1:Rat)*y=y by grind];exact k
def fD (f:PS->Rat):D->Rat
 | .tup [.str a,.str b]=>f (a,b)
 |_=>0
theorem QH (f:PS->Rat)(p:PS):fD f (prD p)=f p:=rfl
theorem XC (h:p∈ps):pF (dP ps f) (prD p)=some (rD<|f p):=by
 unfold pF;rw[X4];exact PN h
theorem abA (hp:p∈ps)(hb:z01 b)(hf:z01 (f p)):
  iw [a0,a1,.fz<|dP ps f,a3,a4,.fz<|rD b,.fz<|prD p,a7]=.ok (.nx,[a0,a1,.fz<|dP ps f,a3,a4,.fz<|rD<|b*f p,.fz<|prD p,a7]):=by
 have e:=wC hb.sz hf.sz (by lia);have g:=XC (f:=f) hp;simp[iw,aK,fFn,aa,ao,au,ak,aj,g,e]
theorem Zv (hf:∀p∈ps,z01<|f p):∀(rc:List PS) (b:Rat) (s6:Sl),(∀p∈rc,p∈ps)->z01 b->
  ∃s6',aL (hName 6) iw (rc.map prD) [a0,a1,.fz<|dP ps f,a3,a4,.fz<|rD b,s6,a7]=.ok (.nx,[a0,a1,.fz<|dP ps f,a3,a4,.fz<|rD<|b*prR (fD f) (rc.map prD),s6',a7])/\z01 (b*prR (fD f) (rc.map prD))
 |[],b,s6,_,hb=>⟨s6,by simp[aL,prR,show b*1=b by grind],by simpa[prR,show b*1=b by grind] using hb⟩
 |p::rc,b,s6,h,hb=>by
  have hp:=h p af;obtain⟨s6',e,z⟩:=Zv hf rc (b*f p) (.fz<|prD p) (λq hq=>h q<|ae _ hq)<|hb.mul<|hf p hp;have ee:b*f p*prR (fD f) (rc.map prD)=b*prR (fD f) ((p::rc).map prD):=by
   rw[ah,prR,QH];grind
  rw[ee] at e z;refine⟨s6',?_,z⟩;rw[ah];exact(aW rfl<|abA hp hb<|hf p hp).trans e
theorem aeL (hp:(x.n,w)∈qs)(hb:z01 b)(hf:z01 (f (x.n,w)))(hz:ps.length<=1000):
  gY [a0,a1,.fz<|dP qs f,.ow<|dP ps g,.fz<|aO s x,.fz<|rD b,s6,.fz<|.str w]=.ok (.nx,[a0,a1,.fz<|dP qs f,.ow<|dP (wM ps (x.n,w))<|upF g (x.n,w)<|b*f (x.n,w),.fz<|aO s x,.fz<|rD b,s6,.fz<|.str w]):=by
 have e:=wC hb.sz hf.sz (by lia);have gg:pF (dP qs f) (.tup [.str x.n,.str w])=some (rD<|f (x.n,w)):=XC hp;obtain⟨_,r1,_,_⟩:=Ef s x;have hz':=szP hz;rw[← PX];generalize dP qs f=dq at *;unfold dP;generalize hq:iu (ps.map kp) (ps.map λp=>rD<|g p) (kp (x.n,w)) (rD<|b*f (x.n,w))=q
 have:=Sh x.n w
 simp[gY,uZ,fFn,au,Cp,aN,aa,ao,ak,aj,fC,r1,gg,e,this,hq,qu];simpa using hz'
def wS (xs:List RS)(f:PS->Rat):PS->Rat:=λp=>prR (fD f) ((XH xs p.1).rc.map prD)*f p
theorem ac9 (hx:x∈xs)(X:mU xs)(hf:∀p∈ω xs,z01<|f p)(hz:ps.length<=900):
  ∃s5' s6' s7',ig [a0,a1,.fz<|dP (ω xs) f,.ow<|dP ps g,.fz<|aO s x,s5,s6,s7]=.ok (.nx,[a0,a1,.fz<|dP (ω xs) f,.ow<|dP (vd ps<|kj x) λp=>if p∈kj x then wS xs f p else g p,.fz<|aO s x,s5',s6',s7']):=by
 obtain⟨h1,h2,h3⟩:=X.wd x hx;obtain⟨s6',e1,zb⟩:=Zv (a0:=a0) (a1:=a1) (a3:=.ow<|dP ps g) (a4:=.fz<|aO s x) (a7:=s7) hf x.rc 1 s6 (X.rc x hx)<|.inr rfl;rw[show(1:Rat)*prR (fD f) (x.rc.map prD)=prR (fD f) (x.rc.map prD) by grind] at e1 zb;have hin:∀w∈x.w,(x.n,w)∈ω xs:=λw hw=>fR.mpr ⟨x,hx,aw.mpr ⟨w,hw,rfl⟩⟩;obtain⟨s7',e2,_⟩:=Dk (X:=Sl) (h:=hName 7) (B:=gY) (mk:=λd y=>[a0,a1,.fz<|dP (ω xs) f,.ow d,.fz<|aO s x,.fz<|rD<|prR (fD f)<|x.rc.map prD,s6',y]) (it:=λp=>.str p.2) (val:=λp _=>wS xs f p) (C:=λ_ _=>True) (kj x) ps g s7 (λp hp ps g y hl _ _=>by
  obtain⟨w,hw,rfl⟩:=aw.mp hp;have ew:wS xs f (x.n,w)=prR (fD f) (x.rc.map prD)*f (x.n,w):=by
   unfold wS;rw[mX X.nd hx]
  refine⟨⟨_,.fz<|.str w,rfl,?_⟩,trivial⟩;rw[ew];exact aeL (hin w hw) zb (hf _<|hin w hw) hl) (by unfold kj;exact gS.mpr<|h1.imp λ{a b} h z=>h (xh z).2) (by simp[kj];lia) trivial (λ_ _=>rfl)
 refine⟨.fz<|rD<|prR (fD f)<|x.rc.map prD,s6',s7',?_⟩;obtain⟨_,_,r2,r3⟩:=Ef s x;have er:rD 1=.tup [.int 1,.int 1]:=rfl;have l2:jR [a0,a1,.fz<|dP (ω xs) f,.ow<|dP ps g,.fz<|aO s x,.fz<|rD 1,s6,s7]=.ok (.nx,[a0,a1,.fz<|dP (ω xs) f,.ow<|dP ps g,.fz<|aO s x,.fz<|rD<|prR (fD f)<|x.rc.map prD,s6',s7]):=by
  unfold jR cz;have it:oU (ak gIx (aj 4)<|fC<|.int 3) [a0,a1,.fz<|dP (ω xs) f,.ow<|dP ps g,.fz<|aO s x,.fz<|rD 1,s6,s7]=.ok (x.rc.map prD):=by
   simp[oU,ak,aj,fC,r3]
  rw[it];exact e1
 have l4:jV [a0,a1,.fz<|dP (ω xs) f,.ow<|dP ps g,.fz<|aO s x,.fz<|rD<|prR (fD f)<|x.rc.map prD,s6',s7]=.ok (.nx,[a0,a1,.fz<|dP (ω xs) f,.ow<|dP (vd ps<|kj x) λp=>if p∈kj x then wS xs f p else g p,.fz<|aO s x,.fz<|rD<|prR (fD f)<|x.rc.map prD,s6',s7']):=by
  unfold jV cz;have it:oU (ak gIx (aj 4)<|fC<|.int 2) [a0,a1,.fz<|dP (ω xs) f,.ow<|dP ps g,.fz<|aO s x,.fz<|rD<|prR (fD f)<|x.rc.map prD,s6',s7]=.ok ((kj x).map λp=>.str p.2):=by
   have:(kj x).map (λp=>D.str p.2)=x.w.map .str:=by unfold kj;rw[cy];rfl
   rw[this];simp[oU,ak,aj,fC,r2]
  rw[it];exact e2
 rw[er] at l2;generalize dP (ω xs) f=d1 at *;generalize dP ps g=d2 at *;simp[ig,aA,aK,fC,l2,l4]
theorem SN (X:mU xs)(hf:∀p∈ω xs,z01<|f p):∀(rest pre:List RS) (s4 s5 s6 s7:Sl),xs=pre++rest->
  ∃s4' s5' s6' s7',aL (hName 4) ig (rest.map<|aO s) [a0,a1,.fz<|dP (ω xs) f,.ow<|dP (ω pre)<|wS xs f,s4,s5,s6,s7]=.ok (.nx,[a0,a1,.fz<|dP (ω xs) f,.ow<|dP (ω xs)<|wS xs f,s4',s5',s6',s7'])
 |[],pre,s4,s5,s6,s7,e=>⟨s4,s5,s6,s7,by
  have:ω pre=ω xs:=by rw[e];simp
  rw[this];simp[aL]⟩
 |x::rest,pre,s4,s5,s6,s7,e=>by
  have hx:x∈xs:=by rw[e];simp
  have nd:=Kh X.nd λy hy=>(X.wd y hy).1;have nd2:(ω pre++kj x).Nodup:=by
   rw[e,CP,yD,← eD] at nd;exact(ka.mp nd).1
  have hl:(ω pre).length<=900:=by
   have:=Gz (xs:=pre) λy hy=>(X.wd y (by rw[e];exact dy _ hy)).2.2
   have l:=X.len;rw[e] at l;simp at l
   lia
  obtain⟨t5,t6,t7,e1⟩:=ac9 (a0:=a0) (a1:=a1) (s5:=s5) (s6:=s6) (s7:=s7) (s:=s) (ps:=ω pre) (g:=wS xs f) hx X hf hl;have ed:dP (vd (ω pre)<|kj x) (λp=>if p∈kj x then wS xs f p else wS xs f p)=dP (ω<|pre++[x]) (wS xs f):=by
   rw[zp _ _ nd2,CP]
   have:ω [x]=kj x:=by simp[ω]
   rw[this];exact Fz λp _=>by split<;>rfl
  rw[ed] at e1;obtain⟨u4,u5,u6,u7,e2⟩:=SN X hf rest (pre++[x]) (.fz<|aO s x) t5 t6 t7 (by rw[e];simp);refine⟨u4,u5,u6,u7,?_⟩;rw[ah];exact(aW rfl e1).trans e2
theorem agw (X:mU xs)(hu:∀x∈xs,(u x.n).length=x.w.length)(hf:∀p∈ω xs,z01<|fS xs u p):iJ [.lst<|xs.map<|aO s,plS s xs u]=.ok (true,dP (ω xs)<|wS xs<|fS xs u):=by
 have e0:=ad9 (s:=s) X hu;obtain⟨t4,t5,t6,t7,e⟩:=(SN (s:=s) (a0:=.fz<|.lst<|xs.map<|aO s) (a1:=.fz<|plS s xs u) X hf xs [] .un .un .un .un rfl);have eL:jT [.fz<|.lst<|xs.map<|aO s,.fz<|plS s xs u,.fz<|dP (ω xs)<|fS xs u,.ow<|.dcu [] [],.un,.un,.un,.un]=.ok (.nx,[.fz<|.lst<|xs.map<|aO s,.fz<|plS s xs u,.fz<|dP (ω xs)<|fS xs u,.ow<|dP (ω xs)<|wS xs<|fS xs u,t4,t5,t6,t7]):=by
  unfold jT cz;have it:cg (au 0) [.fz<|.lst<|xs.map<|aO s,.fz<|plS s xs u,.fz<|dP (ω xs)<|fS xs u,.ow<|.dcu [] [],.un,.un,.un,.un]=.ok (xs.map<|aO s):=by simp[cg,au]
  rw[it];exact e
 generalize plS s xs u=pl at *;generalize dP (ω xs) (fS xs u)=d1 at *;simp[iJ,rO,rW,aH,aA,aK,fFn,aa,ao,au,e0,cC,tM,eL,dY]
open L2 (atI ixN Key)
theorem Nm (g:PS->Rat):∀ps:List PS,rH (ps.map kp) (ps.map λp=>rD<|g p)=ps.map λp=>.tup [prD p,rD<|g p]
 |[]=>rfl
 |p::ps=>by
  rw[ah,ah,rH,Nm g ps];rfl
theorem abS {a0 a1 a4:Sl}{ps:List PS}{f:PS->Rat}{w x:Rat}{p:PS}{k:Nat}(hk:k<=1000)(hz:ps.length<=1000)(h0:∀p,p∉ps->f p=0)(hs:Sz k (f p))(hw:Sz 13 w)(hx:z01 x):
  eZ [a0,a1,.ow<|dP ps f,.fz<|rD w,a4,.fz<|prD p,.fz<|rD x]=.ok (.nx,[a0,a1,.ow<|dP (wM ps p)<|upF f p<|f p+w*x,.fz<|rD w,a4,.fz<|prD p,.fz<|rD x]):=by
 have e1:=wC hw hx.sz (by lia);have e2:=Mt hs (vX hw hx.sz) (by lia);have er:rD 0=.tup [.int 0,.int 1]:=rfl;have ev:(bJ (ps.map kp) (ps.map λp=>rD<|f p)<|kp p).getD (.tup [.int 0,.int 1])=rD (f p):=by
  by_cases c:p∈ps
  ·rw[PN c];rfl
  ·rw[Rj c,h0 p c];rfl
 have hz':=szP hz;have ky:=X4 p;rw[← PX];unfold dP;generalize hq:iu (ps.map kp) (ps.map λp=>rD<|f p) (kp p) (rD<|f p+w*x)=q;generalize prD p=dp at *;simp[eZ,uZ,fFn,au,Cp,aa,ao,Ol,aj,dcK,fC,ky,ev,e1,e2,hq,qu];simpa using hz'
theorem abk {a0 a1 s5 s6:Sl}{s:Int}{xs:List RS}{u:Str->List Rat}{ps:List PS}{f:PS->Rat}{w:Rat}{k:Nat}(hk:k<=1000)(X:mU xs)(hu:∀x∈xs,(u x.n).length=x.w.length)(hf:∀p∈ω xs,z01<|fS xs u p)(hg:∀p∈ω xs,z01<|wS xs (fS xs u) p)(hw:Sz 13 w)
  (h0:∀p,p∉ps->f p=0) (hs:∀p,Sz k<|f p) (hp:ps=[]\/ps=ω xs):
  ∃s5' s6',fJ [.fz<|.lst<|xs.map<|aO s,a1,.ow<|dP ps f,.fz<|rD w,.fz<|plS s xs u,s5,s6]=.ok (.nx,[.fz<|.lst<|xs.map<|aO s,a1,.ow<|dP (ω xs) λp=>f p+w*wS xs (fS xs u) p,.fz<|rD w,.fz<|plS s xs u,s5',s6']):=by
 have nd:=Kh X.nd λy hy=>(X.wd y hy).1;have ln:=Gz (xs:=xs) λy hy=>(X.wd y hy).2.2;have l8:=X.len;obtain⟨⟨t5,t6⟩,e,_⟩:=Dk (X:=Sl×Sl) (h:=du 2<|aJ (hName 5)<|aJ (hName 6) dw) (B:=eZ) (mk:=λd y=>[.fz<|.lst<|xs.map<|aO s,a1,.ow d,.fz<|rD w,.fz<|plS s xs u,y.1,y.2]) (it:=λp=>.tup [prD p,rD<|wS xs (fS xs u) p]) (val:=λp v=>v+w*wS xs (fS xs u) p) (C:=λps f=>∀p,p∉ps->f p=0) (f0:=f) (ω xs) ps f (s5,s6) (λp hp ps f' y hl hc h0=>by
  refine⟨⟨_,(.fz<|prD p,.fz<|rD<|wS xs (fS xs u) p),rfl,abS (k:=k) hk hl hc (by rw[h0];exact hs p) hw<|hg p hp⟩,λq hq=>?_⟩;have n1:¬q=p:=λz=>hq (by subst z;unfold wM;split<;>simp_all);have n2:q∉ps:=λz=>hq (by unfold wM;split<;>simp_all);unfold upF;rw[if_neg n1];exact hc q n2) nd (by
  rcases hp with rfl|rfl
  ·rw[oD];lia
  ·lia) h0 (λ_ _=>rfl)
 refine⟨t5,t6,?_⟩;have ea:vd ps (ω xs)=ω xs:=by
  rcases hp with rfl|rfl
  ·rw[zp _ _<|by simpa using nd];simp
  ·exact Oe _ _ λ_ h=>h
 have ed:dP (vd ps<|ω xs) (λp=>if p∈ω xs then f p+w*wS xs (fS xs u) p else f p)=dP (ω xs) λp=>f p+w*wS xs (fS xs u) p:=by
  rw[ea];exact Fz λp hp=>if_pos hp
 rw[ed] at e;have ew:=agw (s:=s) X hu hf;have it:abb (N7<|Xe iJ<|aa (au 0)<|aa (au 4) ao) [.fz<|.lst<|xs.map<|aO s,a1,.ow<|dP ps f,.fz<|rD w,.fz<|plS s xs u,s5,s6]=.ok ((ω xs).map λp=>.tup [prD p,rD<|wS xs (fS xs u) p]):=by
  rw[← Nm];have tt:isTup (dP (ω xs)<|wS xs<|fS xs u)=false:=rfl;have fr:N7 (Xe iJ<|aa (au 0)<|aa (au 4) ao) [.fz<|.lst<|xs.map<|aO s,a1,.ow<|dP ps f,.fz<|rD w,.fz<|plS s xs u,s5,s6]=.ok (.dcf ((ω xs).map kp)<|(ω xs).map λp=>rD<|wS xs (fS xs u) p):=by
   generalize plS s xs u=pl at *;simp[N7,Xe,aa,ao,au,ew,tt];rfl
  unfold abb;rw[fr];rfl
 unfold fJ mJ cz;rw[it];exact e
abbrev Mx:=List<|Int×(Str->List Rat)
def mxD (s:Int)(xs:List RS)(T:Int)(M:Mx):List D:=M.map λm=>.tup [rD<|ar m.1 T,plS s xs m.2]
def mxS (xs:List RS)(T:Int)(M:Mx)(p:PS):Rat:=(M.map λm=>ar m.1 T*wS xs (fS xs m.2) p).sum
structure uJ (xs:List RS)(u:Str->List Rat):Prop where
 pu:∀x∈xs,∃k,k<x.w.length/\u x.n=uni x.w.length k
theorem uJ.len {xs:List RS}{u:Str->List Rat}(h:uJ xs u):∀x∈xs,(u x.n).length=x.w.length:=λx hx=>by
 obtain⟨k,_,e⟩:=h.pu x hx;rw[e];simp[uni]
theorem ae4 {c k j:Nat}:z01 ((uni c k).getD j 0):=by
 unfold uni;rw[bo,bt];cases(bp c)[j]? with
 |none=>exact .inl rfl
 |some i=>
  show z01 (if i=k then 1 else 0);split
  ·exact .inr rfl
  ·exact .inl rfl
theorem uJ.fS {xs:List RS}{u:Str->List Rat}(h:uJ xs u)(nd:(xs.map (·.n)).Nodup):∀p∈ω xs,z01 (fS xs u p):=λp hp=>by
 obtain⟨x,hx,hq⟩:=fR.mp hp;obtain⟨w,hw,rfl⟩:=aw.mp hq;obtain⟨k,_,e⟩:=h.pu x hx;unfold Pk.fS;rw[show((x.n,w):PS).1=x.n from rfl,e];exact ae4
theorem acj {f:PS->Rat}:∀rc:List PS,(∀p∈rc,z01<|f p)->z01 (prR (fD f)<|rc.map prD)
 |[],_=>.inr rfl
 |p::rc,h=>by
  rw[ah,prR,QH];exact(h p af).mul (acj rc λq hq=>h q<|ae _ hq)
theorem uJ.wS {xs:List RS}{u:Str->List Rat}(h:uJ xs u)(X:mU xs):∀p∈ω xs,z01 (Pk.wS xs (Pk.fS xs u) p):=λp hp=>by
 have hf:=h.fS X.nd;obtain⟨x,hx,hq⟩:=fR.mp hp;obtain⟨w,hw,rfl⟩:=aw.mp hq;unfold Pk.wS;rw[show((x.n,w):PS).1=x.n from rfl,mX X.nd hx];exact(acj x.rc λq hq=>hf q<|X.rc x hx q hq).mul (hf _ hp)
structure yw (xs:List RS)(T:Int)(M:Mx):Prop where
 T0:0<T
 T1:T<=5994
 sum:(M.map (·.1)).sum=T
 nn:∀m∈M,0<=m.1/\m.1<=5994
 pu:∀m∈M,uJ xs m.2
 len:M.length<=6
theorem Up {a1:Sl}{s T:Int}{xs:List RS}(X:mU xs)(hT:0<T/\T<=5994):∀(M:Mx) (f:PS->Rat) (ps:List PS) (k:Nat) (s3 s4 s5 s6:Sl),(∀m∈M,0<=m.1/\m.1<=5994)->(∀m∈M,uJ xs m.2)->k+16*M.length<=900->(∀p,p∉ps->f p=0)->(∀p,Sz k<|f p)->(ps=[]\/ps=ω xs)->(M=[]->ps=ω xs)->
  ∃s3' s4' s5' s6',aL (du 2<|aJ (hName 3)<|aJ (hName 4) dw) fJ (mxD s xs T M) [.fz<|.lst<|xs.map<|aO s,a1,.ow<|dP ps f,s3,s4,s5,s6]=.ok (.nx,[.fz<|.lst<|xs.map<|aO s,a1,.ow<|dP (ω xs) λp=>f p+mxS xs T M p,s3',s4',s5',s6'])
 |[],f,ps,k,s3,s4,s5,s6,_,_,_,_,_,_,he=>⟨s3,s4,s5,s6,by
  have:(λp=>f p+mxS xs T [] p)=f:=by funext p;simp[mxS];grind
  rw[he rfl,this];simp[mxD,aL]⟩
 |m::M,f,ps,k,s3,s4,s5,s6,hn,hp,hl,h0,hs,hps,_=>by
  have hm:=hn m af;have pu:=hp m af;simp only[cw] at hl;have hw:Sz 13 (ar m.1 T):=o8 (by lia) (by show m.1.natAbs<8192;lia) (by show T.natAbs<8192;lia);obtain⟨t5,t6,e1⟩:=abk (a0:=s3) (a1:=a1) (s5:=s5) (s6:=s6) (s:=s) (w:=ar m.1 T) (ps:=ps) (f:=f) (k:=k) (by lia) X pu.len (pu.fS X.nd) (pu.wS X) hw h0 hs hps;obtain⟨f1,ef1⟩:∃f1:PS->Rat,f1=λp=>if p∈ω xs then f p+ar m.1 T*wS xs (fS xs m.2) p else 0:=⟨_,rfl⟩
  have ed:dP (ω xs) (λp=>f p+ar m.1 T*wS xs (fS xs m.2) p)=dP (ω xs) f1:=Fz λp hp=>by rw[ef1];exact(if_pos hp).symm
  rw[ed] at e1;obtain⟨u3,u4,u5,u6,e2⟩:=Up (a1:=a1) (s:=s) X hT M f1 (ω xs) (k+16) (.fz<|rD<|ar m.1 T) (.fz<|plS s xs m.2) t5 t6 (λm' h=>hn m'<|ae _ h) (λm' h=>hp m'<|ae _ h) (by lia) (λp hp=>by rw[ef1];exact if_neg hp) (λp=>by
   rw[ef1];show Sz (k+16) (if p∈ω xs then _ else 0);split
   ·rename_i hp;exact Sz.mono (l:=k+16) (Gq (hs p)<|vX hw (pu.wS X p hp).sz)<|by lia
   ·exact Sz.mono (l:=k+16) jJ<|by lia) (.inr rfl) (λ_=>rfl)
  refine⟨u3,u4,u5,u6,?_⟩;have ef:dP (ω xs) (λp=>f1 p+mxS xs T M p)=dP (ω xs) λp=>f p+mxS xs T (m::M) p:=Fz λp hp=>by
   rw[ef1];simp only[if_pos hp,mxS,ah,cb];grind
  rw[ef] at e2;show aL _ _ (D.tup [rD<|ar m.1 T,plS s xs m.2]::mxD s xs T M) _=_;exact(aW rfl e1).trans e2
theorem af4 {s T:Int}{xs:List RS}{M:Mx}(X:mU xs)(H:yw xs T M):j8 [.lst<|xs.map<|aO s,.lst<|mxD s xs T M]=.ok (true,dP (ω xs)<|mxS xs T M):=by
 have hne:M≠[]:=λz=>by have:=H.sum;have:=H.T0;subst z;simp at *;lia
 obtain⟨t3,t4,t5,t6,e⟩:=Up (a1:=.fz<|.lst<|mxD s xs T M) (s:=s) X ⟨H.T0,H.T1⟩ M (λ_=>0) [] 1 .un .un .un .un H.nn H.pu (by have:=H.len;lia) (λ_ _=>rfl) (λ_=>jJ.mono<|by decide) (.inl rfl) λz=>absurd z hne;have ef:(λp=>(0:Rat)+mxS xs T M p)=mxS xs T M:=by funext p;grind
 rw[ef] at e;have eL:iR [.fz<|.lst<|xs.map<|aO s,.fz<|.lst<|mxD s xs T M,.ow<|.dcu [] [],.un,.un,.un,.un]=.ok (.nx,[.fz<|.lst<|xs.map<|aO s,.fz<|.lst<|mxD s xs T M,.ow<|dP (ω xs)<|mxS xs T M,t3,t4,t5,t6]):=by
  unfold iR cz;have it:cg (au 1) [.fz<|.lst<|xs.map<|aO s,.fz<|.lst<|mxD s xs T M,.ow<|.dcu [] [],.un,.un,.un,.un]=.ok (mxD s xs T M):=by simp[cg,au]
  rw[it];exact e
 generalize mxD s xs T M=md at *;simp[j8,oY,o7,aH,aA,cC,tM,eL,dY]
open L2 (atI ixN Key)
theorem Xm {a b:Rat}{k l:Nat}(ha:Sz k a)(hb:Sz l b)(hk:k+l<=8900)(h0:b≠0):Jf [rD a,rD b]=.ok (false,rD<|a/b):=by
 have a1:Bq a.num:=eV<|bB ha.1 (by lia);have a2:Bq (a.den:Int):=eV<|bB (by simpa using ha.2) (by lia);have b1:Bq b.num:=eV<|bB hb.1 (by lia);have b2:Bq (b.den:Int):=eV<|bB (by simpa using hb.2) (by lia);have bn:b.num≠0:=λz=>h0<|Rat.num_eq_zero.mp z;have pa:=jg a;have e:=uE (t:=a.num*b.den) (b:=a.den*b.num) (sD (by lia) bn)<|eV<|bB (p7 (by simpa using ha.2) hb.1) (by lia);have er:ar (a.num*b.den) (a.den*b.num)=a/b:=by
  rw[← mw,yl,xa];congr 1;rw[← Rat.inv_divInt,yl]
 rw[er] at e;simp[Jf,aH,Ov,Qv,aA,gIf,aB,gNx,aU,Me.let,Sl.let,fFn,aa,ao,ak,aj,fC,gIx,oK,ix0,ix1,dO,a1,a2,b1,b2,bn];rw[e];simp[oK]
theorem pure_run {L:Zae}{a b:D}{l:List D}(e:L [.fz a,.fz b]=.ok (.lst l)):aH 2 2 (nQ L) [a,b]=.ok (false,.tup l):=by
 have gt:cH [.lst l]=some (.tup l):=rfl;simp[nQ,aH,aU,Me.let,Sl.let,aF,aa,ao,e,gt]
theorem ac1 {E:Zae}{k c:D}{n:Nat}{l:List D}{χ:List D}(e2:jo (aa (aj 1) ao) [.fz k,.fz c]=.ok χ)(ec:cA (hName 0) cQ E [.un,.fz k] χ=.ok l)(hl:χ.length<=1000):bC 1 [0] (jo<|aa (aj 1) ao) (hName 0) cQ E [.fz k,.fz c]=.ok (.lst l):=by
 have z1:χ.length<=16777216:=by lia
 unfold bC;rw[e2];simp[cMe,Sl.bor,ec,z1]
theorem pure_eq {c k:Nat}(hc:c<=100):su [.int k,.int c]=.ok (false,.tup<|(uni c k).map rD):=by
 have e1:(aa (aj 1) ao) [.fz<|.int k,.fz<|.int (c:Int)]=.ok [.int (c:Int)]:=by simp[aa,aj,ao]
 have e2:=Cu e1 (by lia) (by lia);have ec:cA (hName 0) cQ iz [.un,.fz<|.int k] ((bp (c:Int).toNat).map λ(j:Nat)=>D.int j)=.ok ((bp (c:Int).toNat).map λj=>rD<|if j=k then 1 else 0):=bV _ λj _=>by
  refine⟨[.fz<|.int j,.fz<|.int k],rfl,rfl,?_⟩;have r1:rD 1=.tup [.int 1,.int 1]:=rfl;have r0:rD 0=.tup [.int 0,.int 1]:=rfl;by_cases z:j=k
  ·subst z;simp[iz,fIf,aB,aj,fC,r1]
  ·have:¬((j:Int)=k):=by lia
   simp[iz,fIf,aB,aj,fC,r0,z,this]
 have eq:o9 [.fz<|.int k,.fz<|.int (c:Int)]=.ok (.lst<|(bp (c:Int).toNat).map λj=>rD<|if j=k then 1 else 0):=ac1 (n:=0) e2 ec (by simp;lia);have eu:(uni c k).map rD=(bp (c:Int).toNat).map λj=>rD (if j=k then 1 else 0):=by
  unfold uni;rw[cy];rfl
 rw[eu];exact pure_run eq
def gvn (xs:List RS)(f:PS->Rat)(n:Str):List Rat:=(XH xs n).w.map λw=>f (n,w)
def qX (xs:List RS)(f:PS->Rat)(n:Str):List Rat:=if(gvn xs f n).sum=0 then uni (gvn xs f n).length 0 else(gvn xs f n).map λx=>x/(gvn xs f n).sum
theorem Wu {a0 a2 s4 s5:Sl}{s:Int}{xs:List RS}{x:RS}{f:PS->Rat}(X:mU xs)(hx:x∈xs):fZ [a0,.fz<|dP (ω xs) f,a2,.fz<|aO s x,s4,s5]=.ok (.lst<|(gvn xs f x.n).map rD):=by
 obtain⟨_,r1,r2,_⟩:=Ef s x;obtain⟨h1,h2,h3⟩:=X.wd x hx;have ec:cA (hName 0) cQ f9 [.un,.fz<|dP (ω xs) f,.fz<|aO s x] (x.w.map .str)=.ok (x.w.map λw=>rD<|f (x.n,w)):=bV _ λw hw=>by
  refine⟨[.fz<|.str w,.fz<|dP (ω xs) f,.fz<|aO s x],rfl,rfl,?_⟩;have g:pF (dP (ω xs) f) (.tup [.str x.n,.str w])=some (rD<|f (x.n,w)):=XC (p:=(x.n,w))<|fR.mpr ⟨x,hx,aw.mpr ⟨w,hw,rfl⟩⟩;generalize dP (ω xs) f=dp at *;simp[f9,ak,aj,au,aN,aa,ao,fC,r1,g]
 have eg:(gvn xs f x.n).map rD=x.w.map λw=>rD (f (x.n,w)):=by
  unfold gvn;rw[mX X.nd hx,cy];rfl
 have z1:x.w.length<=16777216:=by lia
 rw[eg];have b1:(Sl.fz<|dP (ω xs) f).bor=.fz (dP (ω xs) f):=rfl;generalize dP (ω xs) f=dp at *;simp[fZ,bC,oU,ak,aj,fC,r2,cMe,b1,Sl.bor,ec,z1]
def pwB (Q2 Q4:Zae)(Ft Fp:Zac):Zab:=
 (aA (aK 4 Q2)
 (aA (aK 5<|fFn Ft<|aa (au 4) ao)
 (gIf (aB gEq (aj 5)<|fC<|.tup [(.int 0),(.int 1)]) (dB 2 (ak gIx (aj 3)<|fC<|.int 1)<|fFn Fp<|aa (fC<|.int 0)<|aa (aF cu<|aa (ak gIx (aj 3)<|fC<|.int 2) ao) ao)<|dB 2 (ak gIx (aj 3)<|fC<|.int 1)<|aF cH<|aa Q4 ao)))
theorem aeK {Q2 Q4:Zae}{Ft Fp:Zac}{a0 a1 s4 s5:Sl}{ks:List Key}{ds l p4 lw:List D}{row t:D}{n:Str}{b:Bool}{c:Int}(hz:ks.length<=1000)(r1:gIx row (.int 1)=some (.str n))(r2:gIx row (.int 2)=some (.tup lw))(ln:cu [.tup lw]=some (.int c))
  (e2:Q2 [a0,a1,.ow<|.dct ks ds,.fz row,s4,s5]=.ok (.lst l)) (et:Ft [.lst l]=.ok (false,t)) (ez:gEq t (.tup [.int 0,.int 1])=some b) (ep:b=true->Fp [.int 0,.int c]=.ok (false,.tup p4)) (e4:b=false->Q4 [a0,a1,.ow<|.dct ks ds,.fz row,.fz<|.lst l,.fz t]=.ok (.lst p4)):
  pwB Q2 Q4 Ft Fp [a0,a1,.ow<|.dct ks ds,.fz row,s4,s5]=.ok (.nx,[a0,a1,.ow<|.dct (putD ks ds (.inr n)<|.tup p4).1 (putD ks ds (.inr n)<|.tup p4).2,.fz row,.fz<|.lst l,.fz t]):=by
 have hz':ks.length<16777216:=by lia
 have gt:cH [.lst p4]=some (.tup p4):=rfl;generalize hq:putD ks ds (.inr n) (.tup p4)=q;cases b with
 |true=>simp[pwB,aA,aK,e2,fFn,aa,ao,au,et,gIf,aB,aj,fC,ez,dB,ak,r1,r2,aF,ln,ep rfl,zj,tH,hz',hq,zR]
 |false=>simp[pwB,aA,aK,e2,fFn,aa,ao,au,et,gIf,aB,aj,fC,ez,dB,ak,r1,r2,aF,e4 rfl,gt,zj,tH,hz',hq,zR]
theorem aa5 {a0 s4 s5:Sl}{s:Int}{xs:List RS}{x:RS}{f:PS->Rat}{ks:List Key}{ds:List D}(X:mU xs)(hx:x∈xs)(hs:∀p∈ω xs,Sz 13<|f p)(hz:ks.length<=1000):
  ∃s4' s5',gm [a0,.fz<|dP (ω xs) f,.ow<|.dct ks ds,.fz<|aO s x,s4,s5]=.ok (.nx,[a0,.fz<|dP (ω xs) f,.ow<|.dct (putD ks ds (.inr x.n)<|.tup<|(qX xs f x.n).map rD).1 (putD ks ds (.inr x.n)<|.tup<|(qX xs f x.n).map rD).2,.fz<|aO s x,s4',s5']):=by
 obtain⟨_,r1,r2,_⟩:=Ef s x;obtain⟨h1,h2,h3⟩:=X.wd x hx;have eg:=Wu (a0:=a0) (a2:=.ow<|.dct ks ds) (s4:=s4) (s5:=s5) (s:=s) (f:=f) X hx;have gl:(gvn xs f x.n).length=x.w.length:=by unfold gvn;rw[mX X.nd hx];simp
 have gs:∀y∈gvn xs f x.n,Sz 13 y:=λy hy=>by
  unfold gvn at hy;rw[mX X.nd hx] at hy;obtain⟨w,hw,rfl⟩:=aw.mp hy;exact hs _<|fR.mpr ⟨x,hx,aw.mpr ⟨w,hw,rfl⟩⟩
 have et:=Il (k:=13) gs (by rw[gl];lia) (by lia);have ez:gEq (rD (gvn xs f x.n).sum) (.tup [.int 0,.int 1])=some (decide<|(gvn xs f x.n).sum=0):=M3 _ 0;refine⟨.fz<|.lst<|(gvn xs f x.n).map rD,.fz<|rD (gvn xs f x.n).sum,?_⟩;have ln:cu [.tup<|x.w.map .str]=some (.int (x.w.length:Nat)):=by simp[cu]
 refine aeK (b:=decide<|(gvn xs f x.n).sum=0) hz r1 r2 ln eg et ez (λc=>?_) λc=>?_
 ·have c:=of_decide_eq_true c;have eq:qX xs f x.n=uni x.w.length 0:=by unfold qX;rw[if_pos c,gl]
  rw[eq];exact pure_eq (c:=x.w.length) (k:=0)<|by lia
 ·have c:=of_decide_eq_false c;have eq:qX xs f x.n=(gvn xs f x.n).map λy=>y/(gvn xs f x.n).sum:=by unfold qX;rw[if_neg c]
  rw[eq];have ss:Sz (3*14+1) (gvn xs f x.n).sum:=by
   have:∀l:List Rat,(∀y∈l,Sz 13 y)->Sz (14*l.length+1) l.sum:=λl=>by
    induction l with
    |nil=>intro _;exact jJ
    |cons y l ih=>
     intro h;rw[cb];exact(Gq (h y af)<|ih λz hz=>h z<|ae _ hz).mono (by simp;lia)
   exact(this _ gs).mono (by rw[gl];lia)
  have ec:cA (hName 0) cQ fW [.un,.fz<|rD (gvn xs f x.n).sum] ((gvn xs f x.n).map rD)=.ok ((gvn xs f x.n).map λy=>rD<|y/(gvn xs f x.n).sum):=bV _ λy hy=>by
   refine⟨[.fz<|rD y,.fz<|rD (gvn xs f x.n).sum],rfl,rfl,?_⟩
   have:=Xm (gs y hy) ss (by lia) c
   simp[fW,fFn,aa,ao,au,this]
  have z1:(gvn xs f x.n).length<=16777216:=by lia
  have b1:(Sl.fz<|rD (gvn xs f x.n).sum).bor=.fz (rD (gvn xs f x.n).sum):=rfl;rw[cy];have em:(gvn xs f x.n).map (rD∘λy=>y/(gvn xs f x.n).sum)=(gvn xs f x.n).map λy=>rD (y/(gvn xs f x.n).sum):=rfl;rw[em];simp[ju,bC,cg,aj,cMe,b1,ec,z1]
theorem Ia {Rs:List D}{q q':Str->List Rat}(h:∀d∈Rs,q (nmR d)=q' (nmR d)):bf Rs q=bf Rs q':=by simp_all[bf]
theorem af7 {s:Int}{xs:List RS}{f:PS->Rat}(X:mU xs)(hs:∀p∈ω xs,Sz 13<|f p):iV [.lst<|xs.map<|aO s,dP (ω xs) f]=.ok (true,plS s xs<|qX xs f):=by
 have fl:(xs.map<|aO s).filter (λd=>decide<|sdD d=s)=xs.map (aO s):=List.filter_eq_self.mpr λd hd=>by
  obtain⟨x,_,rfl⟩:=aw.mp hd;exact decide_eq_true rfl
 have nn:(xs.map<|aO s).map nmR=xs.map (·.n):=by rw[cy];rfl
 obtain⟨q,⟨t3,t4,t5⟩,e,h⟩:=Lw.tW (X:=Sl×Sl×Sl) (h:=hName 3) (B:=gm) (it:=λ_ d=>d) (mk:=λr y=>[.fz<|.lst<|xs.map<|aO s,.fz<|dP (ω xs) f,.ow r,y.1,y.2.1,y.2.2]) (s:=s) (P:=λd l=>l=qX xs f (nmR d)) (Rows:=xs.map<|aO s) (λk d y ks ds hk hz=>by
  obtain⟨x,hx,rfl⟩:=aw.mp<|js hk;refine⟨_,rfl,λc=>absurd rfl c,λ_=>?_⟩;obtain⟨t4,t5,e⟩:=aa5 (a0:=.fz<|.lst<|xs.map<|aO s) (s4:=y.2.1) (s5:=y.2.2) (s:=s) (ks:=ks) (ds:=ds) X hx hs hz;exact⟨(.fz<|aO s x,t4,t5),qX xs f x.n,rfl,e⟩) (by have:=X.len;simp;lia) (xs.map<|aO s) [] [] (λ_=>[]) (.un,.un,.un) rfl (by simp) (by rw[gv,fl,nn];exact X.nd) (λ_ z=>by cases z)
 rw[gv,fl,Lw.QB] at e;rw[gv,fl] at h;have e':bf (xs.map<|aO s) q=plS s xs (qX xs f):=Ia h;rw[e'] at e;have eL:fY [.fz<|.lst<|xs.map<|aO s,.fz<|dP (ω xs) f,.ow<|.dct [] [],.un,.un,.un]=.ok (.nx,[.fz<|.lst<|xs.map<|aO s,.fz<|dP (ω xs) f,.ow<|plS s xs<|qX xs f,t3,t4,t5]):=by
  unfold fY cz;have it:cg (au 0) [.fz<|.lst<|xs.map<|aO s,.fz<|dP (ω xs) f,.ow<|.dct [] [],.un,.un,.un]=.ok (xs.map<|aO s):=by simp[cg,au]
  rw[it];exact e
 have np:∃a b,plS s xs (qX xs f)=.dct a b:=⟨_,_,rfl⟩;generalize plS s xs (qX xs f)=pl at *;generalize dP (ω xs) f=d1 at *;obtain⟨a,b,rfl⟩:=np;simp[iV,lF,mL,aH,aA,cC,wW,eL,dY]
open L2 (atI ixN Key)
theorem Qx (hc:c<=3)(hk:k<c):okS 20 (uni c k) c:=by
 refine⟨by simp[uni],λx hx=>?_,?_,by simp[uni];exact hc⟩
 ·unfold uni at hx;obtain⟨j,_,rfl⟩:=aw.mp hx;split
  ·exact⟨by decide,Yr.mono<|by decide⟩
  ·exact⟨by decide,jJ.mono<|by decide⟩
 ·have h:c=1\/c=2\/c=3:=by lia
  rcases h with rfl|rfl|rfl
  ·have:k=0:=by lia
   subst this;decide +kernel
  ·have:k=0\/k=1:=by lia
   rcases this with rfl|rfl<;>decide +kernel
  ·have:k=0\/k=1\/k=2:=by lia
   rcases this with rfl|rfl|rfl<;>decide +kernel
theorem uJ.ok (h:uJ xs u)(X:mU xs):∀x∈xs,okS 20 (u x.n) x.w.length:=λx hx=>by
 obtain⟨k,hk,e⟩:=h.pu x hx;rw[e];exact Qx (X.wd x hx).2.2 hk
theorem aeo (s:Int)(x:RS):NQ (aO s x):=by
 let mkW:List Str->Ws:=λl=>l.foldr (λw r=>.cons (.str w) (.fin (0,1)) r) .nil
 have e:∀l:List Str,bZ (mkW l)=l.map .str:=λl=>by
  induction l with
  |nil=>rfl
  |cons w l ih=>show D.str w::bZ (mkW l)=_;rw[ih];rfl
 refine⟨s,x.n,mkW x.w,(x.rc.map prD,x.rc.map prD),?_⟩;unfold aO dU eF;rw[e]
 simp
theorem Xf:∀l:List Rat,(1:Rat)∈l->inR (1,1) (l.map rD)=some true
 |[],h=>by cases h
 |x::l,h=>by
  have all:∀l:List Rat,∃b,inR (1,1) (l.map rD)=some b:=λl=>by
   induction l with
   |nil=>exact⟨false,rfl⟩
   |cons y l ih=>
    obtain⟨b,e⟩:=ih;exact⟨_,by rw[ah,inR,e];rfl⟩
  rw[ah,inR];by_cases c:x=1
  ·obtain⟨b,e⟩:=all l;subst c;rw[e];rfl
  ·rcases aE.mp h with z|z
   ·exact absurd z.symm c
   ·rw[Xf l z];simp[oK,prI]
theorem Z9 (h:k<c):(1:Rat)∈uni c k:=aw.mpr ⟨k,jS.mpr h,if_pos rfl⟩
theorem adn (e1:Φ [a,b]=.ok (false,.bl true))(e2:L [.fz a,.fz b]=.ok (.lst l))(e3:Eb [.lst l]=some (.bl true)):aH 2 2 (gK Φ L) [a,b]=.ok (false,.bl true):=by
 simp[gK,aH,aU,Me.let,Sl.let,Fv,fTv,fFn,aa,ao,au,e1,aF,e2,e3]
theorem afJ (X:mU xs)(h:uJ xs u):km [.lst<|xs.map<|aO s,plS s xs u]=.ok (false,.bl true):=by
 have l8:=X.len;have e1:iH [.lst<|xs.map<|aO s,plS s xs u]=.ok (false,.bl true):=K4 (S:=20) (by lia) (λd hd=>by
  obtain⟨x,_,rfl⟩:=aw.mp hd;exact aeo s x) (by simp;lia) (λd hd=>by
  obtain⟨x,hx,rfl⟩:=aw.mp hd
  have:=h.ok X x hx
  have e:wdD (aO s x)=x.w.length:=by simp[aO,wdD]
  rw[e];exact this)
 have ec:cA (hName 0) cQ eX [.un,.fz<|plS s xs u] (xs.map<|aO s)=.ok (xs.map λ_=>.bl true):=bV _ λx hx=>by
  refine⟨[.fz<|aO s x,.fz<|plS s xs u],rfl,rfl,?_⟩;obtain⟨_,r1,_,_⟩:=Ef s x;have pg:=XX (s:=s) (u:=u) hx;obtain⟨k,hk,e⟩:=h.pu x hx;have gi:ad7 (.tup [.int 1,.int 1]) (.tup<|(u x.n).map rD)=some true:=by
   show inR (1,1) ((u x.n).map rD)=some true;rw[e];exact Xf _<|Z9 hk
  generalize plS s xs u=pl at *;simp[eX,oZ,fC,ak,aj,r1,pg,gi]
 have z1:xs.length<=16777216:=by lia
 have eq:fL [.fz<|.lst<|xs.map<|aO s,.fz<|plS s xs u]=.ok (.lst<|xs.map λ_=>.bl true):=by
  have b1:(Sl.fz<|plS s xs u).bor=.fz (plS s xs u):=rfl;generalize plS s xs u=pl at *;simp[fL,bC,cg,aj,cMe,b1,ec,z1]
 exact adn e1 eq<|zE λ_ _=>rfl
theorem acY (e2:L2 [.fz a,.fz<|.lst md]=.ok (.lst l2))(a2:Eb [.lst l2]=some (.bl true))(e3:L3 [.fz a,.fz<|.lst md]=.ok (.lst l3))(ef:Φ [.tup l3,.int md.length]=.ok (false,.bl true))
  (e5:L5 [.fz a,.fz<|.lst md]=.ok (.lst l5)) (a5:Eb [.lst l5]=some (.bl true)):aH 2 2 (pN Φ L2 L3 L5) [a,.lst md]=.ok (false,.bl true):=by
 have it:Cr "list" (aj 1) [.fz a,.fz<|.lst md]=.ok (.bl true):=rfl;have gt:cH [.lst l3]=some (.tup l3):=rfl;have ln:cu [.lst md]=some (.int md.length):=rfl;simp[pN,aH,aA,gIf,ql,lM,fTv,it,aF,aa,ao,e2,a2,gNx,fFn,e3,gt,aj,ln,ef,aU,Me.let,Sl.let,e5,a5]
theorem afq (H:yw xs T M):(∀x∈M.map λm=>ar m.1 T,0<=x.num/\Sz 13 x)/\(M.map λm=>ar m.1 T).sum=1:=by
 have hT:=H.T0;have hT1:=H.T1;refine⟨λx hx=>?_,?_⟩
 ·obtain⟨m,hm,rfl⟩:=aw.mp hx;have h1:=H.nn m hm;refine⟨?_,o8 (by lia) (by show m.1.natAbs<8192;lia) (by show T.natAbs<8192;lia)⟩;by_cases z:m.1=0
  ·rw[z];simp
  ·exact A9<|Lw.div_pos (by lia) hT
 ·have:=Lw.qy T (M.map (·.1))
  rw[cy] at this;rw[show(M.map λm=>ar m.1 T)=M.map ((λp=>ar p T)∘λm=>m.1) from rfl,this,H.sum,Lw.div_self hT]
theorem agH (X:mU xs)(H:yw xs T M):uc [.lst<|xs.map<|aO s,.lst<|mxD s xs T M]=.ok (false,.bl true):=by
 have l6:=H.len;have zm:(mxD s xs T M).length<=16777216:=by simp[mxD];lia
 obtain⟨h1,h2⟩:=afq H;have e2:mG [.fz<|.lst<|xs.map<|aO s,.fz<|.lst<|mxD s xs T M]=.ok (.lst<|M.map λ_=>.bl true):=by
  have ec:cA (hName 0) cQ lE [.un] (mxD s xs T M)=.ok (M.map λ_=>.bl true):=bV M λm hm=>by
   refine⟨[.fz<|.tup [rD<|ar m.1 T,plS s xs m.2]],rfl,rfl,?_⟩;generalize plS s xs m.2=pl;generalize rD (ar m.1 T)=w
   have:Bb [.tup [w,pl]]=.ok (false,.bl true):=rfl
   simp[lE,fFn,aa,ao,au,this]
  generalize mxD s xs T M=md at ec zm ⊢;simp[mG,bC,cg,aj,cMe,Sl.bor,ec,zm]
 have e3:mQ [.fz<|.lst<|xs.map<|aO s,.fz<|.lst<|mxD s xs T M]=.ok (.lst<|M.map λm=>rD<|ar m.1 T):=by
  have ec:cA (du 2<|aJ (hName 0)<|aJ (hName 1) dw) cQ (au 0) [.un,.un] (mxD s xs T M)=.ok (M.map λm=>rD<|ar m.1 T):=bV M λm hm=>⟨[.fz<|rD<|ar m.1 T,.fz<|plS s xs m.2],rfl,rfl,by simp[au]⟩;generalize mxD s xs T M=md at ec zm ⊢;simp[mQ,bC,cg,aj,cMe,Sl.bor,ec,zm]
 have e5:lW [.fz<|.lst<|xs.map<|aO s,.fz<|.lst<|mxD s xs T M]=.ok (.lst<|M.map λ_=>.bl true):=by
  have ec:cA (du 2<|aJ (hName 0)<|aJ (hName 1) dw) cQ lH [.un,.un,.fz<|.lst<|xs.map<|aO s] (mxD s xs T M)=.ok (M.map λ_=>.bl true):=bV M λm hm=>by
   refine⟨[.fz<|rD<|ar m.1 T,.fz<|plS s xs m.2,.fz<|.lst<|xs.map<|aO s],rfl,rfl,?_⟩;have e:=afJ (s:=s) X<|H.pu m hm;generalize plS s xs m.2=pl at *;simp[lH,fFn,aa,ao,au,e]
  generalize mxD s xs T M=md at ec zm ⊢;simp[lW,bC,cg,aj,cMe,Sl.bor,ec,zm]
 refine acY e2 (zE λ_ _=>rfl) e3 ?_ e5<|zE λ_ _=>rfl
 have:=Nb (S:=13) (by lia) (l:=M.map λm=>ar m.1 T) (c:=(mxD s xs T M).length) (by simp[mxD]) h1 h2<|by simpa using l6
 rw[cy] at this;exact this
theorem adP (er:Φr [g,s]=.ok (b1,r))(ei:Φi [r,m]=.ok (false,.bl true))(ew:Φw [r,m]=.ok (b2,w))(ep:Φp [r,w]=.ok (b3,p)):aH 4 3 (Dr Φr Φp Φi Φw) [g,s,m]=.ok (false,p):=by
 simp[Dr,aH,aA,aK,fFn,aa,ao,au,er,gIf,lM,fTv,ei,gNx,aU,Me.let,Sl.let,ew,ep]
theorem Ph (X:mU xs)(H:yw xs T M):∀p∈ω xs,∃a:Int,0<=a/\a<=T/\mxS xs T M p=ar a T:=λp hp=>by
 have key:∀M:Mx,(∀m∈M,0<=m.1)->(∀m∈M,uJ xs m.2)->∃a:Int,0<=a/\a<=(M.map (·.1)).sum/\mxS xs T M p=ar a T:=λM=>by
  induction M with
  |nil=>intro _ _;exact⟨0,by lia,by simp,by simp[mxS]⟩
  |cons m M ih=>
   intro h1 h2;obtain⟨a,a0,a1,e⟩:=ih (λm' h=>h1 m'<|ae _ h) λm' h=>h2 m'<|ae _ h;have hm:=h1 m af;have es:mxS xs T (m::M) p=ar m.1 T*wS xs (fS xs m.2) p+mxS xs T M p:=by simp[mxS]
   rw[es,e];simp only[ah,cb];rcases(h2 m af).wS X p hp with z|z
   ·exact⟨a,a0,by lia,by rw[z];grind⟩
   ·refine⟨m.1+a,by lia,by lia,?_⟩;rw[z]
    have:=Lw.qy T [m.1,a]
    simp at this;rw[← this];grind
 obtain⟨a,a0,a1,e⟩:=key M (λm hm=>(H.nn m hm).1) H.pu;exact⟨a,a0,by rw[← H.sum];exact a1,e⟩
theorem Mq (G:Gd g)(hr:rowsOf g s=xs.map (aO s))(X:mU xs)(H:yw xs T M):Dp [dG g,.int s,.lst<|mxD s xs T M]=.ok (false,plS s xs<|qX xs<|mxS xs T M):=by
 have er:=QZ (s:=s) G.len G.sd (by have:=G.dep;lia) (by have:=G.sz;lia);have hr':(tbl<|prG [] ([],[]) g).2.filter (λd=>decide<|sdD d=s)=xs.map (aO s):=hr;rw[hr'] at er;refine adP er (agH X H) (af4 X H)<|af7 X λp hp=>?_;obtain⟨a,a0,a1,e⟩:=Ph X H p hp
 have:=H.T0
 have:=H.T1
 rw[e];exact o8 (by lia) (by show a.natAbs<8192;lia) (by show T.natAbs<8192;lia)
end Pk
namespace Lw
open PySem L2 Hd F Pk
theorem U0 (s:Int):((rowsOf g s).map nmR).Nodup:=by
 have T:=CJ (prG [] ([],[]) g) ([],[]) ⟨rfl,qf⟩;have nd:=T.2;rw[T.1] at nd;have pw:(tbl<|prG [] ([],[]) g).2.Pairwise λa b=>kOf a≠kOf b:=gS.mp nd;refine gS.mpr<|(pw.filter λd=>decide<|sdD d=s).imp_of_mem λ{a b} ha hb h z=>h ?_;obtain⟨a1,a2⟩:=fq.mp ha;obtain⟨b1,b2⟩:=fq.mp hb;obtain⟨s1,n1,w1,r1,rfl⟩:=zF a1;obtain⟨s2,n2,w2,r2,rfl⟩:=zF b1;have e1:s1=s:=of_decide_eq_true a2;have e2:s2=s:=of_decide_eq_true b2;have e3:n1=n2:=z;show kn s1 n1=kn s2 n2;rw[e1,e2,e3]
theorem afF (E:pO e)(nd:e.pool.Nodup){N:Nd}{m:Int×Int}(I:qm N m){g:Gm}{dep:Nat}(hd:dep<=12)(G:Grw e N ([],[]) g dep)(hz:szG g<=64):Gv g where
 toGd:=acr E nd I hd G hz
 fn:=λp hp d ep=>by
  have:=G.pl [] p hp
  unfold Zz at this;rw[ep] at this;exact this.2
mutual
theorem afI (hs:s=1\/s=2):∀(g:Gm) (w:List Int) (r:Rc),(∀t∈prG w r g,∀s' n ws,t.2.1=.move s' n ws->s'=1\/s'=2)->∀t∈prG w r g,∀q∈eF t.2.2 s,q∈eF r s\/∃t'∈prG w r g,∃n ws l,t'.2.1=.move s n ws/\l∈bZ ws/\q=.tup [.str n,l]
 | .fin d,w,r,_,t,ht,q,hq=>by
  cases bg.mp ht;exact .inl hq
 | .deal n ws,w,r,hsd,t,ht,q,hq=>by
  rcases aE.mp ht with rfl|z
  ·exact .inl hq
  ·rcases aeH hs ws w (λ_=>r) 0 (λt ht=>hsd t<|ae _ ht) t z q hq with⟨l,_,h⟩|⟨t',h1,h2⟩
   ·exact .inl h
   ·exact .inr ⟨t',ae _ h1,h2⟩
 | .move s' n ws,w,r,hsd,t,ht,q,hq=>by
  rcases aE.mp ht with rfl|z
  ·exact .inl hq
  ·rcases aeH hs ws w (rbm s' n r) 0 (λt ht=>hsd t<|ae _ ht) t z q hq with⟨l,hl,h⟩|⟨t',h1,h2⟩
   ·have hs':=hsd (w,.move s' n ws,r) af s' n ws rfl;by_cases c:s'=s
    ·subst c;rw[Rx hs] at h;rcases cq.mp h with h|h
     ·exact .inl h
     ·exact .inr ⟨(w,.move s' n ws,r),af,n,ws,l,rfl,hl,bg.mp h⟩
    ·rw[U3 hs hs' c] at h;exact .inl h
   ·exact .inr ⟨t',ae _ h1,h2⟩
theorem aeH (hs:s=1\/s=2):∀(ws:Ws) (w:List Int) (f:D->Rc) (i:Nat),(∀t∈prW w f i ws,∀s' n ws,t.2.1=.move s' n ws->s'=1\/s'=2)->∀t∈prW w f i ws,∀q∈eF t.2.2 s,(∃l∈bZ ws,q∈eF (f l) s)\/∃t'∈prW w f i ws,∃n ws l,t'.2.1=.move s n ws/\l∈bZ ws/\q=.tup [.str n,l]
 | .nil,_,_,_,_,t,ht,_,_=>by cases ht
 | .cons l g r,w,f,i,hsd,t,ht,q,hq=>by
  rcases cq.mp ht with z|z
  ·rcases afI hs g (w++[(i:Int)]) (f l) (λt ht=>hsd t<|dy _ ht) t z q hq with h|⟨t',h1,h2⟩
   ·exact .inl ⟨l,af,h⟩
   ·exact .inr ⟨t',dy _ h1,h2⟩
  ·rcases aeH hs r w f (i+1) (λt ht=>hsd t<|cf _ ht) t z q hq with⟨l',hl,h⟩|⟨t',h1,h2⟩
   ·exact .inl ⟨l',ae _ hl,h⟩
   ·exact .inr ⟨t',cf _ h1,h2⟩
end
theorem Zy (G:Gd g){t:Tr3}(h:t∈prG [] ([],[]) g){s:Int}{n:Str}{ws:Ws}(e:t.2.1=.move s n ws):dU s n ws t.2.2∈rowsOf g s:=by
 obtain⟨d,hd,t',ht',ws',e',rfl⟩:=Sw h e;obtain⟨ρ,hρ⟩:=G.row;have r1:=(hρ t h s n ws e).1;have r2:=(hρ t' ht' s n ws' e').1;rw[r1,← r2];exact fq.mpr ⟨hd,decide_eq_true<|show sdD (dU s n ws' t'.2.2)=s from rfl⟩
theorem YH (h:dU s n ws r=aO s x):x.n=n/\bZ ws=x.w.map .str/\eF r s=x.rc.map prD:=by simp_all[dU,aO]
theorem Sd:∀{rc:List D},Pr rc->∃ps:List PS,rc=ps.map prD
 |[],_=>⟨[],rfl⟩
 |d::rc,h=>by
  obtain⟨ps,e⟩:=Sd (rc:=rc) λd hd=>h d<|ae _ hd;obtain⟨a,b,rfl⟩:=h d af;exact⟨(a,b)::ps,by rw[e];rfl⟩
theorem acz {s:Int}{P:RS->Prop}:∀{l:List D},(∀d∈l,∃x,d=aO s x/\P x)->∃xs:List RS,l=xs.map (aO s)/\∀x∈xs,P x
 |[],_=>⟨[],rfl,λ_ z=>by cases z⟩
 |d::l,h=>by
  obtain⟨xs,e,hx⟩:=acz (l:=l) λd hd=>h d<|ae _ hd;obtain⟨x,rfl,px⟩:=h d af;exact⟨x::xs,by rw[e];rfl,λy hy=>by
   rcases aE.mp hy with rfl|z
   ·exact px
   ·exact hx y z⟩
theorem ab8 (E:pO e)(nd:e.pool.Nodup){n:Int}{c:Nat}(hn:0<=n)(hc:c<=3):((bp c).map λ(k:Nat)=>wordAt e n k).Nodup:=by
 refine gS.mpr<|List.Pairwise.imp_of_mem ?_<|xt (n:=c);intro a b ha hb ne z;have ha:=jS.mp ha;have hb:=jS.mp hb;have t0:=E.t0;have p8:=E.p8;unfold wordAt at z;have l1:((3*n+(a:Int)+e.turn/8)%8).toNat<e.pool.length:=by lia
 have l2:((3*n+(b:Int)+e.turn/8)%8).toNat<e.pool.length:=by lia
 rw[bo,ax l1,bo,ax l2] at z;have i1:=kX nd _ l1;have i2:=kX nd _ l2;have z:e.pool[((3*n+(a:Int)+e.turn/8)%8).toNat]=e.pool[((3*n+(b:Int)+e.turn/8)%8).toNat]:=z;rw[z,i2] at i1
 lia
theorem abQ {e:En}(E:pO e)(nd:e.pool.Nodup){N:Nd}{m:Int×Int}(I:qm N m){g:Gm}{dep:Nat}(hd:dep<=12)(Gr:Grw e N ([],[]) g dep)(hz:szG g<=64){s:Int}(hs:s=1\/s=2):∃xs:List RS,rowsOf g s=xs.map (aO s)/\mU xs:=by
 have G:=acr E nd I hd Gr hz;obtain⟨xs,ex,hx⟩:=acz (s:=s) (P:=λx=>x.w.Nodup/\1<=x.w.length/\x.w.length<=3) (l:=rowsOf g s) λd hd=>by
  obtain⟨h1,h2⟩:=fq.mp hd;obtain⟨s',n,_,rc,c,b,k,hp,_,_,k0,_,hc,_,rfl⟩:=Dz Gr h1;have es:s'=s:=of_decide_eq_true h2;subst es;obtain⟨ps,rfl⟩:=Sd hp;refine⟨⟨n,(bp c).map λ(j:Nat)=>wordAt e k j,ps⟩,?_,ab8 E nd k0 hc.2,by simpa using hc⟩;unfold aO;rw[cy];rfl
 have sd:∀t∈prG [] ([],[]) g,∀s' n ws,t.2.1=.move s' n ws->s'=1\/s'=2:=λt ht s' n ws e=>(JH G ht e).1;have find:∀{t:Tr3},t∈prG [] ([],[]) g->∀{n:Str} {ws:Ws},t.2.1=.move s n ws->∃x∈xs,dU s n ws t.2.2=aO s x:=λ{t} ht {n ws} e=>by
  have:=Zy G ht e
  rw[ex] at this;obtain⟨x,hx,e⟩:=aw.mp this;exact⟨x,hx,e.symm⟩
 have snd:=U0 (g:=g) s;refine⟨xs,ex,⟨?_,hx,λx hxm p hp=>?_,?_⟩⟩
 ·rw[ex,cy] at snd;exact snd
 ·have hm:aO s x∈rowsOf g s:=by rw[ex];exact aw.mpr ⟨x,hxm,rfl⟩
  obtain⟨h1,_⟩:=fq.mp hm;rcases yF (prG [] ([],[]) g) ([],[]) _ h1 with z|⟨t,ht,s',n,ws,et,er⟩
  ·cases z
  ·have es:s'=s:=by
    have:=congrArg sdD er
    exact this.symm
   subst es;obtain⟨_,_,e3⟩:=YH er.symm;have hq:prD p∈eF t.2.2 s':=by rw[e3];exact aw.mpr ⟨p,hp,rfl⟩
   rcases afI hs g [] ([],[]) sd t ht _ hq with z|⟨t',ht',n',ws',l,e',hl,eq⟩
   ·rcases hs with rfl|rfl<;>simp[eF] at z
   ·obtain⟨y,hy,ey⟩:=find ht' e';obtain⟨f1,f2,_⟩:=YH ey;rw[f2] at hl;obtain⟨v,hv,rfl⟩:=aw.mp hl;unfold prD at eq;simp at eq;refine fR.mpr ⟨y,hy,aw.mpr ⟨v,hv,?_⟩⟩;rw[f1];exact BY eq.1.symm eq.2.symm
 ·have:(rowsOf g s).length<=8:=by
   rcases hs with rfl|rfl
   ·exact G.t1.1
   ·exact G.t2.1
  rw[ex] at this;simpa using this
def both (s:Int)(u o:Str->List Rat):Pl:=if s=1 then p2 u o else p2 o u
theorem Mv (hs:s=1\/s=2)(u o:Str->List Rat)(n:Str):both s u o s n=u n:=by
 rcases hs with rfl|rfl<;>simp[both,p2]
theorem Zd (hs:s=1\/s=2)(hs':s'=1\/s'=2)(ne:s'≠s)(u v o:Str->List Rat)(n:Str):both s u o s' n=both s v o s' n:=by
 rcases hs with rfl|rfl<;>rcases hs' with rfl|rfl<;>first|exact absurd rfl ne|simp[both,p2]
theorem X8 (φ:D->Rat):∀ws:Ws,agr φ ((bZ ws).map φ) ws
 | .nil=>trivial
 | .cons l g r=>⟨rfl,X8 φ r⟩
theorem Xw (ψ:D->Rat):∀ws:Ws,(∀l∈bZ ws,aR M (rc++[.tup [.str n,l]])=aR M rc*ψ l)->agq M n rc ((bZ ws).map ψ) ws
 | .nil,_=>trivial
 | .cons l g r,h=>⟨h l af,Xw ψ r λl' hl=>h l'<|ae _ hl⟩
theorem MJ (h0:aR M rc=0):∀(ws:Ws) (ys:List Rat),ys.length=(bZ ws).length->(∀l∈bZ ws,aR M (rc++[.tup [.str n,l]])=0)->agq M n rc ys ws
 | .nil,[],_,_=>trivial
 | .nil,_::_,h,_=>by cases h
 | .cons l g r,[],h,_=>by cases h
 | .cons l g r,y::ys,hl,h=>⟨by rw[h l af,h0];grind,MJ h0 r ys (by simpa[bZ] using hl) λl' hl=>h l'<|ae _ hl⟩
theorem QX (X:mU xs)(hx:x∈xs)(hu:(u x.n).length=x.w.length):u x.n=x.w.map λw=>fS xs u (x.n,w):=by
 refine xl (by simp[hu]) λj h1 h2=>?_;have hj:j<x.w.length:=by lia
 rw[xo];unfold fS;rw[mX X.nd hx];rw[kX (X.wd x hx).1 j hj];rw[bo,ax h1];rfl
theorem UG (M:List Mi)(φ:Str->Mi->Rat):∀l:List Str,(l.map λw=>Pk.sm M<|φ w).sum=Pk.sm M λm=>(l.map λw=>φ w m).sum
 |[]=>by
  have:(λm:Mi=>(([]:List Str).map λw=>φ w m).sum)=λm=>0*(1:Rat):=by funext m;simp
  rw[this];have h:=xF 0 (λ_=>1) M;rw[h]
  simp
 |w::l=>by
  rw[ah,cb,UG M φ l,← KR];rfl
theorem Nj (x:Rat)(f:Str->Rat):∀l:List Str,(l.map λw=>x*f w).sum=x*(l.map f).sum
 |[]=>by simp
 |w::l=>by rw[ah,cb,Nj x f l,ah,cb];grind
theorem Li:∀l:List Rat,(∀x∈l,0<=x)->l.sum=0->∀x∈l,x=0
 |[],_,_=>λ_ z=>by cases z
 |y::l,h,e=>λx hx=>by
  have hy:=h y af;have hs:∀l:List Rat,(∀x∈l,0<=x)->0<=l.sum:=λl=>by
   induction l with
   |nil=>intro _;exact Rat.le_refl
   |cons z l ih=>intro h;rw[cb];have:=h z af;have:=ih λx hx=>h x<|ae _ hx;grind
  have hl:=hs l λx hx=>h x<|ae _ hx;rw[cb] at e;have e1:y=0:=by grind
  have e2:l.sum=0:=by grind
  rcases aE.mp hx with rfl|z
  ·exact e1
  ·exact Li l (λx hx=>h x<|ae _ hx) e2 x z
def msL (s:Int)(xs:List RS)(T:Int)(o:Str->List Rat)(M:Mx):List Mi:=M.map λm=>⟨ar m.1 T,both s m.2 o,fD<|fS xs m.2⟩
theorem Yk (s:Int)(xs:List RS)(T:Int)(o:Str->List Rat)(M:Mx)(φ:Mi->Rat):Pk.sm (msL s xs T o M) φ=(M.map λm=>φ ⟨ar m.1 T,both s m.2 o,fD<|fS xs m.2⟩).sum:=by
 unfold Pk.sm msL;rw[cy];rfl
theorem Km (X:mU xs)(hx:x∈xs)(w:Str):aR (msL s xs T o M) (x.rc.map prD++[.tup [.str x.n,.str w]])=mxS xs T M (x.n,w):=by
 unfold aR;rw[Yk];unfold mxS;congr 1;refine eS λm _=>?_;show ar m.1 T*prR (fD<|fS xs m.2) (x.rc.map prD++[.tup [.str x.n,.str w]])=_;rw[CK];unfold wS;rw[mX X.nd hx];rfl
theorem ae7 (X:mU xs)(hx:x∈xs)(H:yw xs T M):aR (msL s xs T o M) (x.rc.map prD)=(gvn xs (mxS xs T M) x.n).sum:=by
 unfold gvn;rw[mX X.nd hx];have e:(x.w.map λw=>mxS xs T M (x.n,w))=x.w.map λw=>Pk.sm (msL s xs T o M) λm=>m.c*prR m.f (x.rc.map prD++[.tup [.str x.n,.str w]]):=eS λw _=>(Km (s:=s) (o:=o) X hx w).symm;rw[e,UG];unfold aR;refine Zg λm hm=>?_;obtain⟨mm,hmm,rfl⟩:=aw.mp hm;have pu:=H.pu mm hmm;have s1:=(pu.ok X x hx).2.2.1;rw[QX X hx<|pu.len x hx] at s1
 have:(x.w.map λw=>ar mm.1 T*prR (fD<|fS xs mm.2) (x.rc.map prD++[.tup [.str x.n,.str w]]))=x.w.map λw=>(ar mm.1 T*prR (fD<|fS xs mm.2) (x.rc.map prD))*fS xs mm.2 (x.n,w):=eS λw _=>by
  rw[CK];show _=_*fD (fS xs mm.2) (.tup [.str x.n,.str w]);grind
 show _=(x.w.map λw=>ar mm.1 T*prR (fD<|fS xs mm.2) (x.rc.map prD++[.tup [.str x.n,.str w]])).sum;rw[this,Nj,s1];grind
theorem dvn (h0:0<=t)(hb:0<b):0<=ar t b:=by simp_all
theorem N6 (hs : s = 1 ∨ s = 2) (G : Gd g) (ex : rowsOf g s = xs.map (aO s)) (X : mU xs) (H : yw xs T M) :
    (M.map λm => ar m.1 T*vG (both s m.2 o) g).sum = vG (both s (qX xs (mxS xs T M)) o) g := by
  have k := kG (M := msL s xs T o M) (Q := both s (qX xs (mxS xs T M)) o) hs g [] ([], []) λt ht => by
    have sd : ∀ s' n ws, t.2.1 = .move s' n ws → s' = 1 ∨ s' = 2 := λs' n ws e => (JH G ht e).1;refine ⟨λn ws e => ?_, λs' n ws e ne m hm => ?_, sd⟩
    · have hr := Zy G ht e
      rw [ex] at hr;obtain ⟨x, hx, er⟩ := aw.mp hr;obtain ⟨e1, e2, e3⟩ := YH er.symm;subst e1;constructor
      · intro m hm
        obtain ⟨mm, hmm, rfl⟩ := aw.mp hm;have pu := H.pu mm hmm;have el : both s mm.2 o s x.n = (bZ ws).map λl => fD (fS xs mm.2) (.tup [.str x.n, l]) := by
          rw [Mv hs, e2, cy, QX X hx (pu.len x hx)];rfl
        show agr (λl => fD (fS xs mm.2) (.tup [.str x.n, l])) (both s mm.2 o s x.n) ws;rw [el];exact X8 _ ws
      · rw [Mv hs, e3]
        have hrec := ae7 (s := s) (o := o) X hx H;have hg : gvn xs (mxS xs T M) x.n = x.w.map λw => mxS xs T M (x.n, w) := by unfold gvn;rw [mX X.nd hx]
        by_cases c : (gvn xs (mxS xs T M) x.n).sum = 0
        · refine MJ (by rw [hrec, c]) ws _ ?_ λl hl => ?_
          · unfold qX
            rw [if_pos c, e2, hg];simp [uni]
          · rw [e2] at hl
            obtain ⟨w, hw, rfl⟩ := aw.mp hl;rw [Km X hx];refine Li _ (λy hy => ?_) c _ (by rw [hg];exact aw.mpr ⟨w, hw, rfl⟩);rw [hg] at hy;obtain ⟨v, hv, rfl⟩ := aw.mp hy;obtain ⟨a, a0, _, ea⟩ := Ph X H (x.n, v) (fR.mpr ⟨x, hx, aw.mpr ⟨v, hv, rfl⟩⟩);rw [ea];exact dvn a0 H.T0
        · have el : qX xs (mxS xs T M) x.n = (bZ ws).map λl => match l with
              | .str w => mxS xs T M (x.n, w) / (gvn xs (mxS xs T M) x.n).sum
              | _ => 0 := by
            unfold qX;rw [if_neg c, e2, cy];conv => lhs;arg 2;rw [hg]
            rw [cy];rfl
          rw [el];refine Xw _ ws λl hl => ?_;rw [e2] at hl;obtain ⟨w, hw, rfl⟩ := aw.mp hl;rw [Km X hx, hrec];show _ = (gvn xs (mxS xs T M) x.n).sum*(mxS xs T M (x.n, w) / (gvn xs (mxS xs T M) x.n).sum);generalize (gvn xs (mxS xs T M) x.n).sum = z at c;grind
    · obtain ⟨mm, hmm, rfl⟩ := aw.mp hm
      exact Zd hs (sd s' n ws e) ne _ _ _ _
  have r0 : eF ([], []) s = [] := by unfold eF;split<;>rfl
  rw [r0] at k;have h1 : aR (msL s xs T o M) [] = 1 := by
    unfold aR;rw [Yk];have := (afq H).2;rw [← this];congr 1;exact eS λm _ => by show ar m.1 T*1 = _;grind
  rw [h1, Yk] at k;have e : (M.map λm => ar m.1 T*vG (both s m.2 o) g) = M.map λm => ar m.1 T*prR (fD (fS xs m.2)) []*vG (both s m.2 o) g := eS λm _ => by show _ = ar m.1 T*1*_;grind
  rw [e];exact k.trans (by grind)
theorem acu (X:mU xs)(hx:x∈xs)(H:yw xs T M):okS 20 (qX xs (mxS xs T M) x.n) x.w.length:=by
 have hg:gvn xs (mxS xs T M) x.n=x.w.map λw=>mxS xs T M (x.n,w):=by unfold gvn;rw[mX X.nd hx]
 have gl:(gvn xs (mxS xs T M) x.n).length=x.w.length:=by rw[hg];simp
 obtain⟨h1,h2,h3⟩:=X.wd x hx;have hT:=H.T0;have hT1:=H.T1;have key:∀l:List Str,(∀w∈l,w∈x.w)->∃A:List Int,(∀a∈A,0<=a/\a<=T)/\(l.map λw=>mxS xs T M (x.n,w))=A.map λa=>ar a T:=λl=>by
  induction l with
  |nil=>intro _;exact⟨[],(λ_ z=>by cases z),rfl⟩
  |cons w l ih=>
   intro h;obtain⟨A,hA,e⟩:=ih λv hv=>h v<|ae _ hv;obtain⟨a,a0,a1,ea⟩:=Ph X H (x.n,w)<|fR.mpr ⟨x,hx,aw.mpr ⟨w,h w af,rfl⟩⟩;exact⟨a::A,(λb hb=>by
    rcases aE.mp hb with rfl|z
    ·exact⟨a0,a1⟩
    ·exact hA b z),by rw[ah,e,ah,ea]⟩
 obtain⟨A,hA,eA⟩:=key x.w λ_ h=>h;have eg:gvn xs (mxS xs T M) x.n=A.map λa=>ar a T:=hg.trans eA;have al:A.length=x.w.length:=by rw[← gl,eg];simp
 have es:(gvn xs (mxS xs T M) x.n).sum=ar A.sum T:=by rw[eg,qy]
 have asum:∀A:List Int,(∀a∈A,0<=a/\a<=T)->0<=A.sum/\A.sum<=T*A.length/\∀a∈A,a<=A.sum:=λA=>by
  induction A with
  |nil=>intro _;simp
  |cons a A ih=>
   intro h;obtain⟨i1,i2,i3⟩:=ih λb hb=>h b<|ae _ hb
   have:=h a af
   refine⟨by simp;lia,by simp only[cb,cw];push_cast;rw[Int.mul_add];lia,λb hb=>?_⟩;simp only[cb];rcases aE.mp hb with rfl|z
   ·lia
   ·have:=i3 b z;lia
 obtain⟨s0,s1,s2⟩:=asum A hA;by_cases c:(gvn xs (mxS xs T M) x.n).sum=0
 ·unfold qX;rw[if_pos c,gl];exact Qx h3<|by lia
 ·have sp:0<A.sum:=by
   rcases Int.lt_or_eq_of_le s0 with z|z
   ·exact z
   ·exact absurd (by rw[es,← z];simp) c
  have sb:A.sum<=17982:=by
   have:T*(A.length:Int)<=5994*3:=Int.mul_le_mul hT1 (by lia) (by lia)<|by lia
   lia
  have dd:∀a:Int,ar a T/ar A.sum T=ar a A.sum:=λa=>by
   rw[xa,Rat.inv_divInt,mw,kC a T];exact Rat.divInt_mul_left<|by lia
  have eq:qX xs (mxS xs T M) x.n=A.map λa=>ar a A.sum:=by
   unfold qX;rw[if_neg c,es,eg,cy];exact eS λa _=>dd a
  rw[eq];refine⟨by simp[al],λy hy=>?_,by rw[qy,div_self sp],by simp[al];exact h3⟩;obtain⟨a,ha,rfl⟩:=aw.mp hy
  have:=hA a ha
  have:=s2 a ha
  exact⟨Rat.num_nonneg.mpr<|dvn (by lia) sp,o8 (by lia) (by show a.natAbs<1048576;lia) (by show A.sum.natAbs<1048576;lia)⟩
end Lw
namespace K23
open PySem L2 Hd F Pk Lw
open L2 (atI ixN Key)
theorem abl {E:Zae}{s0 s1 s2 s3 s4:Sl}{c a:D}{l:List D}{χ:List D}(e2:jo (aa (aj 5) ao) [s0,s1,s2,s3,s4,.fz c,.fz a]=.ok χ)(ec:cA (hName 0) cQ E [.un,.fz a] χ=.ok l)(hl:χ.length<=1000):bC 1 [6] (jo<|aa (aj 5) ao) (hName 0) cQ E [s0,s1,s2,s3,s4,.fz c,.fz a]=.ok (.lst l):=by
 have z1:χ.length<=16777216:=by lia
 unfold bC;rw[e2];simp[cMe,Sl.bor,ec,z1]
theorem ahe {s0 s1 s2 s3 s4:Sl}{c k:Nat}(hc:c<=100):rR [s0,s1,s2,s3,s4,.fz<|.int (c:Int),.fz<|.int (k:Int)]=.ok (.lst<|(uni c k).map rD):=by
 have e1:(aa (aj 5) ao) [s0,s1,s2,s3,s4,.fz<|.int (c:Int),.fz<|.int (k:Int)]=.ok [.int (c:Int)]:=by simp[aa,aj,ao]
 have e2:=Cu e1 (by lia) (by lia);have ec:cA (hName 0) cQ jw [.un,.fz<|.int (k:Int)] ((bp (c:Int).toNat).map λ(j:Nat)=>D.int j)=.ok ((bp (c:Int).toNat).map λj=>rD<|if j=k then 1 else 0):=bV _ λj _=>by
  refine⟨[.fz<|.int j,.fz<|.int k],rfl,rfl,?_⟩;have r1:rD 1=.tup [.int 1,.int 1]:=rfl;have r0:rD 0=.tup [.int 0,.int 1]:=rfl;have g1:VR [.bl true]=some (.int 1):=rfl;have g0:VR [.bl false]=some (.int 0):=rfl;by_cases z:j=k
  ·subst z;simp[jw,aN,aF,oZ,aa,ao,aj,fC,g1,r1]
  ·have:¬((j:Int)=k):=by lia
   simp[jw,aN,aF,oZ,aa,ao,aj,fC,g0,r0,z,this]
 have eu:(uni c k).map rD=(bp (c:Int).toNat).map λj=>rD (if j=k then 1 else 0):=by
  unfold uni;rw[cy];rfl
 rw[eu];exact abl e2 ec (by simp;lia)
def puB (Fm:Zac)(Q:Zae):Zab:=
 (gIf (aB gEq (ak gIx (ak gIx (aj 0)<|aj 4)<|fC<|.int 0)<|aj 1) (aA (aK 5<|aF cu<|aa (ak gIx (ak gIx (aj 0)<|aj 4)<|fC<|.int 2) ao)
 (aA (aK 6<|ak aY (ak cV (fFn Fm<|aa (au 2)<|aa (ak bc (ak dO (fC<|.int 5)<|aj 4)<|fC<|.int 2) ao)<|fC<|.int 7)<|aj 5)
 (dB 3 (ak gIx (ak gIx (aj 0)<|aj 4)<|fC<|.int 1)<|aF cH<|aa Q ao))) gNx)
theorem ac2 {Fm:Zac}{Q:Zae}{Rows:List D}{row W:D}{l:List D}{s cell x:Int}{n:Str}{ks:List Key}{ds:List D}{w k:Nat}{i:Nat}{s5 s6:Sl}(hi:Bq (i:Int))(ix:gIx (.lst Rows) (.int i)=some row)(r0:gIx row (.int 0)=some (.int s))(r1:gIx row (.int 1)=some (.str n))(r2:gIx row (.int 2)=some W)(ln:cu [W]=some (.int (w:Int)))(hw:1<=w/\w<=3)
  (ex:Fm [.int cell,.int<|5*i+2]=.ok (false,.int x)) (hx:Bq x) (hk:x/7%(w:Int)=k) (eq:Q [.fz<|.lst Rows,.fz<|.int s,.fz<|.int cell,.ow<|.dct ks ds,.fz<|.int i,.fz<|.int (w:Int),.fz<|.int (k:Int)]=.ok (.lst l)) (hz:ks.length<=1000):
  puB Fm Q [.fz<|.lst Rows,.fz<|.int s,.fz<|.int cell,.ow<|.dct ks ds,.fz<|.int i,s5,s6]=.ok (.nx,[.fz<|.lst Rows,.fz<|.int s,.fz<|.int cell,.ow<|.dct (putD ks ds (.inr n)<|.tup l).1 (putD ks ds (.inr n)<|.tup l).2,.fz<|.int i,.fz<|.int (w:Int),.fz<|.int (k:Int)]):=by
 have b5:Bq 5:=bgS (by decide);have b7:Bq 7:=bgS (by decide);have bw:Bq (w:Int):=bgS (by lia);have wn:¬((w:Int)=0):=by lia
 have wn':¬(w=0):=by lia
 have hz':ks.length<16777216:=by lia
 have gt:cH [.lst l]=some (.tup l):=rfl;have w0:0<w:=by lia
 generalize hp:putD ks ds (.inr n) (.tup l)=p;obtain⟨p1,p2⟩:=p;simp[puB,gIf,aA,aK,aB,ak,aj,ix,fC,r0,r1,r2,aF,ln,dB,fFn,aa,ao,au,dO,bc,b5,b7,bw,hi,ex,hx,cV,dvI,aY,mdI,wn,wn',w0,hk,eq,gt,zj,tH,hz',zR,hp]
theorem ZF {Fm:Zac}{Q:Zae}{Rows:List D}{row:D}{s a:Int}{S2 S3 s5 s6:Sl}{i:Nat}(ix:gIx (.lst Rows) (.int i)=some row)(r0:gIx row (.int 0)=some (.int a))(c:¬a=s):
  puB Fm Q [.fz<|.lst Rows,.fz<|.int s,S2,S3,.fz<|.int i,s5,s6]=.ok (.nx,[.fz<|.lst Rows,.fz<|.int s,S2,S3,.fz<|.int i,s5,s6]):=by
 simp[puB,gIf,aB,ak,aj,ix,fC,r0,c,gNx]
theorem ae6 {L:Zab}{a b c r:D}{s4 s5 s6:Sl}(eL:L [.fz a,.fz b,.fz c,.ow<|.dct [] [],.un,.un,.un]=.ok (.nx,[.fz a,.fz b,.fz c,.ow r,s4,s5,s6])):aH 7 3 (rC L) [a,b,c]=.ok (true,r):=by
 simp[rC,aH,aA,cC,wW,eL,dY]
structure Zt (Rows:List D):Prop where
 len:Rows.length<=100
 row:∀d∈Rows,NQ d/\1<=wdD d/\wdD d<=3
 nd:∀s:Int,((Rows.filter λd=>decide (sdD d=s)).map nmR).Nodup
theorem S9 {Rows:List D}(s cell:Int)(T:Zt Rows):
  ∃q,oJ [.lst Rows,.int s,.int cell]=.ok (true,bf (Rows.filter λd=>decide<|sdD d=s) q)/\∀d∈Rows.filter (λd=>decide<|sdD d=s),∃k,k<wdD d/\q (nmR d)=uni (wdD d) k:=by
 have hl:=T.len;obtain⟨q,⟨t4,t5,t6⟩,e,h⟩:=tW (X:=Sl×Sl×Sl) (h:=hName 4) (B:=oA) (it:=λk _=>.int k) (mk:=λr y=>[.fz<|.lst Rows,.fz<|.int s,.fz<|.int cell,.ow r,y.1,y.2.1,y.2.2]) (s:=s) (P:=λd l=>∃k,k<wdD d/\l=uni (wdD d) k) (Rows:=Rows) (λk d y ks ds hk hz=>by
  obtain⟨⟨a,n,ws,r,rfl⟩,hw⟩:=T.row d<|js hk;have hk':k<Rows.length:=by
   rcases Bn k Rows.length with z|z
   ·exact z
   ·rw[kA z] at hk;cases hk
  have ix:gIx (.lst Rows) (.int k)=some (dU a n ws r):=jN hk;obtain⟨r0,r1,r2⟩:=Dd (s:=a) (n:=n) (ws:=ws) (r:=r);refine⟨_,rfl,λc=>⟨(.fz<|.int k,y.2.1,y.2.2),ZF ix r0 c⟩,λc=>?_⟩;have c':a=s:=c;subst c';obtain⟨x,ex,hx⟩:=yd cell (5*k+2) (by lia);have m0:=kU (x/7) (show((wdD (dU a n ws r):Nat):Int)≠0 by lia);have m1:=i9 (x/7) (show 0<((wdD (dU a n ws r):Nat):Int) by lia);have bx:Bq x:=bgS (by have:=hx.1;have:=hx.2;lia);refine⟨(.fz<|.int k,.fz<|.int (wdD (dU a n ws r):Nat),.fz<|.int ((x/7%(wdD (dU a n ws r):Nat)).toNat:Nat)),uni (wdD<|dU a n ws r) (x/7%(wdD (dU a n ws r):Nat)).toNat,⟨_,by lia,rfl⟩,?_⟩;exact ac2 (k:=(x/7%(wdD (dU a n ws r):Nat)).toNat) (bgS<|by lia) ix r0 r1 r2 rfl hw ex bx (by lia) (ahe<|by lia) hz) (by lia) Rows [] [] (λ_=>[]) (.un,.un,.un) rfl (by simp) (by simpa using T.nd s) (λ_ z=>by cases z)
 refine⟨q,?_,by simpa using h⟩;rw[gv,KZ] at e;have e1:(aa (aF cu<|aa (aj 0) ao) ao) [.fz<|.lst Rows,.fz<|.int s,.fz<|.int cell,.ow<|.dct [] [],.un,.un,.un]=.ok [.int (Rows.length:Int)]:=by
  have:cu [.lst Rows]=some (.int Rows.length):=by simp[cu]
  simp[aa,ao,aF,aj,this]
 have e2:=Cu e1 (by lia) (by lia);have eL:nR [.fz<|.lst Rows,.fz<|.int s,.fz<|.int cell,.ow<|.dct [] [],.un,.un,.un]=.ok (.nx,[.fz<|.lst Rows,.fz<|.int s,.fz<|.int cell,.ow<|bf (Rows.filter λd=>decide<|sdD d=s) q,t4,t5,t6]):=by
  unfold nR cz;rw[e2];show aL (hName 4) oA ((bp Rows.length).map λ(k:Nat)=>D.int k) _=_;rw[fm];exact e
 exact ae6 eL
def evn (c:Nat):List Rat:=dA c<|ar 1 c
theorem ady {Q:Zae}{Rows row s3:D}{l:List D}{s:Int}{n:Str}{ks:List Key}{ds:List D}(r0:gIx row (.int 0)=some (.int s))(r1:gIx row (.int 1)=some (.str n))(eq:Q [.fz Rows,.fz<|.int s,.ow<|.dct ks ds,.fz row]=.ok (.lst l))(hz:ks.length<=1000):
  gIf (aB gEq (ak gIx (aj 3)<|fC<|.int 0)<|aj 1) (dB 2 (ak gIx (aj 3)<|fC<|.int 1)<|aF cH<|aa Q ao) gNx [.fz Rows,.fz<|.int s,.ow<|.dct ks ds,.fz row]=.ok (.nx,[.fz Rows,.fz<|.int s,.ow<|.dct (putD ks ds (.inr n)<|.tup l).1 (putD ks ds (.inr n)<|.tup l).2,.fz row]):=by
 have hz':ks.length<16777216:=by lia
 have gt:cH [.lst l]=some (.tup l):=rfl;generalize hp:putD ks ds (.inr n) (.tup l)=p;obtain⟨p1,p2⟩:=p;simp[gIf,aB,ak,aj,fC,r0,r1,aF,dB,aa,ao,eq,gt,zj,tH,hz',zR,hp]
theorem ahj {a:D}{S1 S2:Sl}{s:Int}{n:Str}{ws:Ws}{r:Rc}{c:Nat}(hc:wdD (dU s n ws r)=c)(h:1<=c/\c<=3):nM [.fz a,S1,S2,.fz<|dU s n ws r]=.ok (.lst<|(evn c).map rD):=by
 have r2:=(Dd (s:=s) (n:=n) (ws:=ws) (r:=r)).2.2;have hl:(bZ ws).length=c:=hc;have ln:cu [.tup<|bZ ws]=some (.int (c:Int)):=by simp[cu,hl]
 have er:rD (ar 1 c)=.tup [.int 1,.int (c:Int)]:=by
  have hh:c=1\/c=2\/c=3:=by lia
  rcases hh with rfl|rfl|rfl<;>rfl
 have ec:cA (hName 0) cQ oG [.un,.fz<|dU s n ws r] ((bZ ws).map id)=.ok ((bZ ws).map λ_=>rD<|ar 1 c):=bV (g:=id) _ λl _=>by
  refine⟨[.fz l,.fz<|dU s n ws r],rfl,rfl,?_⟩;rw[er];simp[oG,aN,aF,aa,ao,ak,aj,fC,r2,ln]
 rw[BO] at ec;have e2:((bZ ws).map λ_=>rD<|ar 1 c)=(evn c).map rD:=by
  unfold evn;rw[List.map_replicate,← hl];exact List.map_const' ..
 rw[e2] at ec;have z1:(bZ ws).length<=16777216:=by lia
 simp[nM,bC,oU,ak,aj,fC,r2,cMe,Sl.bor,ec,z1]
theorem adJ {c:Nat}(h:1<=c/\c<=3):okS 20 (evn c) c:=by
 have hh:c=1\/c=2\/c=3:=by lia
 refine⟨by simp[evn],λx hx=>?_,?_,by simp[evn];exact h.2⟩
 ·unfold evn at hx;rw[(List.mem_replicate.mp hx).2];rcases hh with rfl|rfl|rfl<;>exact⟨by decide +kernel,by decide +kernel,by decide +kernel⟩
 ·rcases hh with rfl|rfl|rfl<;>decide +kernel
theorem aej {L:Zab}{a b r:D}{s3:Sl}(eL:L [.fz a,.fz b,.ow<|.dct [] [],.un]=.ok (.nx,[.fz a,.fz b,.ow r,s3])):aH 4 2 (qT L) [a,b]=.ok (true,r):=by
 simp[qT,aH,aA,cC,wW,eL,dY]
theorem aaS {Rows:List D}(s:Int)(T:Zt Rows):
  ∃q,wu [.lst Rows,.int s]=.ok (true,bf (Rows.filter λd=>decide<|sdD d=s) q)/\∀d∈Rows.filter (λd=>decide<|sdD d=s),okS 20 (q<|nmR d) (wdD d):=by
 have hl:=T.len;obtain⟨q,t3,e,h⟩:=tW (X:=Sl) (h:=hName 3) (B:=ou) (it:=λ_ d=>d) (mk:=λr y=>[.fz<|.lst Rows,.fz<|.int s,.ow r,y]) (s:=s) (P:=λd l=>okS 20 l<|wdD d) (Rows:=Rows) (λk d y ks ds hk hz=>by
  obtain⟨⟨a,n,ws,r,rfl⟩,hw⟩:=T.row d<|js hk;obtain⟨r0,r1,r2⟩:=Dd (s:=a) (n:=n) (ws:=ws) (r:=r);refine⟨_,rfl,λc=>⟨.fz<|dU a n ws r,?_⟩,λc=>?_⟩
  ·have c:¬a=s:=c;simp[ou,gIf,aB,ak,aj,fC,r0,c,gNx]
  ·have c':a=s:=c;subst c';exact⟨.fz<|dU a n ws r,_,adJ hw,ady (s3:=.non) r0 r1 (ahj rfl hw) hz⟩) (by lia) Rows [] [] (λ_=>[]) .un rfl (by simp) (by simpa using T.nd s) (λ_ z=>by cases z)
 refine⟨q,?_,by simpa using h⟩;rw[gv,QB] at e;have eL:oE [.fz<|.lst Rows,.fz<|.int s,.ow<|.dct [] [],.un]=.ok (.nx,[.fz<|.lst Rows,.fz<|.int s,.ow<|bf (Rows.filter λd=>decide<|sdD d=s) q,t3]):=by
  unfold oE cz;have it:cg (au 0) [.fz<|.lst Rows,.fz<|.int s,.ow<|.dct [] [],.un]=.ok Rows:=by simp[cg,au]
  rw[it];exact e
 exact aej eL
open L2 (atI ixN Key)
abbrev hWr:Zba:=du 2<|aJ (hName 5)<|aJ (hName 6) dw
theorem ab9 (hq:Sz j q)(hx:Sz S x)(hv:Sz k v)(hk:j+(S+k)<=8900)(e:Φ [dG g,P]=.ok (fr,rD v)):
  gG Φ [g0,.fz P,.fz<|rD q,s3,s4,.fz<|rD x,.fz<|dG g]=.ok (.nx,[g0,.fz P,.fz<|rD<|q+x*v,s3,s4,.fz<|rD x,.fz<|dG g]):=by
 have ix:gIx (rD x) (.int 0)=some (.int x.num):=rfl;by_cases h:x=0
 ·subst h;have n0:(0:Rat).num=0:=rfl;simp[gG,gIf,aB,ak,aj,fC,ix,n0,gNe,gNx,Rat.zero_mul,oq]
 ·have n0:¬x.num=0:=λz=>h<|Rat.num_eq_zero.mp z;have e1:=Ma hx hv (by lia);have e2:=Ky hq (vX hx hv) (by lia);generalize rD x=dx at *;simp[gG,gIf,aB,ak,aj,fC,ix,n0,gNe,aK,fFn,aa,ao,au,e,e1,e2]
theorem acx:∀(l:List Rat) (ws:Ws) (k:Nat),l.length=dF ws->k<l.length->∃a g x,(dWs ws)[k]? = some (.tup [a,g])/\l[k]? = some x/\(brW l ws)[k]? = some (.tup [rD x,g])
 |[],_,k,_,h=>by cases h
 |x::l,.nil,k,h,_=>by cases h
 |x::l,.cons a g r,0,_,_=>⟨a,dG g,x,rfl,rfl,rfl⟩
 |x::l,.cons a g r,k+1,h,hk=>by
  refine Gi (acx l r k (by simpa[dF] using h) (by simpa using hk)) λb d y h1 h2 h3=>?_;exact⟨b,d,y,by simpa[dWs] using h1,by simpa using h2,by simpa[brW] using h3⟩
theorem M4:∀(l:List Rat) (ws:Ws),l.length=dF ws->(brW l ws).length=l.length
 |[],_,_=>rfl
 |x::l,.nil,h=>by cases h
 |x::l,.cons a g r,h=>by rw[brW,cw,M4 l r<|by simpa[dF] using h];rfl
theorem aeT (e2:jo (aa (aF cu<|aa (aj 4) ao) ao) [.fz a,S1,S2,S3,.fz c,S5,S6]=.ok χ)(ec:cA (hName 0) cQ E [.un,.fz c,.fz a] χ=.ok l)(hl:χ.length<=1000):
  bC 1 [4,0] (jo<|aa (aF cu<|aa (aj 4) ao) ao) (hName 0) cQ E [.fz a,S1,S2,S3,.fz c,S5,S6]=.ok (.lst l):=by
 have z1:χ.length<=16777216:=by lia
 unfold bC;rw[e2];simp[cMe,Sl.bor,ec,z1]
theorem agV (hl:l.length=dF ws)(h100:dF ws<=100):lZ Φ [.fz<|dG<|.move s n ws,S1,S2,S3,.fz<|.tup<|l.map rD,S5,S6]=.ok (.lst<|brW l ws):=by
 have ln:cu [.tup<|l.map rD]=some (.int (l.length:Nat)):=by simp[cu]
 have e1:(aa (aF cu<|aa (aj 4) ao) ao) [.fz<|dG<|.move s n ws,S1,S2,S3,.fz<|.tup<|l.map rD,S5,S6]=.ok [.int (l.length:Nat)]:=by
  simp[aa,ao,aF,aj,ln]
 have e2:=Cu e1 (by lia) (by lia);have ec:cA (hName 0) cQ (lN Φ) [.un,.fz<|.tup<|l.map rD,.fz<|dG<|.move s n ws] ((bp (l.length:Int).toNat).map λ(j:Nat)=>D.int j)=.ok ((bp (l.length:Int).toNat).map λj=>(brW l ws).getD j .non):=bV _ λj hj=>by
  have hj:j<l.length:=by simpa using hj
  refine Gi (acx l ws j hl hj) λa g x h1 h2 h3=>?_;refine⟨[.fz<|.int j,.fz<|.tup<|l.map rD,.fz<|dG<|.move s n ws],rfl,rfl,?_⟩;have i1:gIx (.tup<|l.map rD) (.int j)=some (rD x):=by
   show atI (l.map rD) (j:Int)=_;exact jN (by rw[bt,h2];rfl)
  have i3:gIx (dG<|.move s n ws) (.int 3)=some (.tup<|dWs ws):=rfl;have i4:gIx (.tup<|dWs ws) (.int j)=some (.tup [a,g]):=jN h1;have i5:gIx (.tup [a,g]) (.int 1)=some g:=rfl;have i6:(brW l ws).getD j .non=.tup [rD x,g]:=by rw[bo,h3];rfl
  rw[i6];generalize dG (.move s n ws)=dg at *;simp[lN,aN,aa,ao,ak,aj,fC,i1,i3,i4,i5]
 have eb:((bp (l.length:Int).toNat).map λj=>(brW l ws).getD j .non)=brW l ws:=by
  have hb:=M4 l ws hl;refine xl (by simp[hb]) λj h1 h2=>?_;rw[xo,List.getElem_range,bo,ax h2];rfl
 rw[eb] at ec;exact aeT e2 ec (by simp;lia)
theorem adQ (e:L4 [.fz<|dG<|.deal n ws,.fz P,.fz<|rD 0,.fz<|.tup<|dWs ws,.un,.un,.un]=.ok (.nx,[.fz<|dG<|.deal n ws,.fz P,.fz<|rD v,.fz<|.tup<|dWs ws,.un,s5,s6])):aH 7 2 (eQ L2 L4) [dG<|.deal n ws,P]=.ok (false,rD v):=by
 have e0:(.tup [.int 0,.int 1]:D)=rD 0:=rfl;have i0:gIx (dG<|.deal n ws) (.int 0)=some (.str "deal"):=rfl;have i2:gIx (dG<|.deal n ws) (.int 2)=some (.tup<|dWs ws):=rfl;have q1:gEq (.str "deal") (.str "end")=some false:=by decide
 have q2:gEq (.str "deal") (.str "deal")=some true:=by decide
 generalize dG (.deal n ws)=dg at *;simp[aH,eQ,aA,gIf,aB,ak,aj,fC,i0,i2,q1,q2,gNx,aK,aN,aa,ao,e0,e,aU,au,Me.let,Sl.let]
theorem aeq (hs:s=1\/s=2)(hp:(gIx (.lst [A,B])<|.int<|s-1).bind (λd=>bu d<|.str n)=some (.tup l))(e2:L2 [.fz<|dG<|.move s n ws,.fz<|.lst [A,B],.fz<|rD 0,.un,.fz<|.tup l,.un,.un]=.ok (.lst bs))
  (e:L4 [.fz<|dG<|.move s n ws,.fz<|.lst [A,B],.fz<|rD 0,.fz<|.lst bs,.fz<|.tup l,.un,.un]=.ok (.nx,[.fz<|dG<|.move s n ws,.fz<|.lst [A,B],.fz<|rD v,.fz<|.lst bs,.fz<|.tup l,s5,s6])):aH 7 2 (eQ L2 L4) [dG<|.move s n ws,.lst [A,B]]=.ok (false,rD v):=by
 have e0:(.tup [.int 0,.int 1]:D)=rD 0:=rfl;have i0:gIx (dG<|.move s n ws) (.int 0)=some (.str "move"):=rfl;have i1:gIx (dG<|.move s n ws) (.int 1)=some (.int s):=rfl;have i2:gIx (dG<|.move s n ws) (.int 2)=some (.str n):=rfl;have q1:gEq (.str "move") (.str "end")=some false:=by decide
 have q2:gEq (.str "move") (.str "deal")=some false:=by decide
 obtain⟨d,h1,h2⟩:=cE.mp hp;have gs:F.cO (.int s) (.int 1)=some (.int<|s-1):=by
  have b1:Bq s:=bgS (by lia);have b2:Bq 1:=bgS (by decide);simp[F.cO]
 generalize dG (.move s n ws)=dg at *;generalize D.lst [A,B]=P at *;simp[aH,eQ,aA,gIf,aB,ak,aj,fC,i0,i1,i2,q1,q2,gs,h1,h2,gNx,aK,aN,aa,ao,e0,e2,e,aU,au,Me.let,Sl.let]
mutual
theorem acg (hP:∀s n v,(bu Pd<|.int s).bind (λd=>bu d<|.str n)=some v->(s=1\/s=2)/\(gIx (.lst [A,B])<|.int<|s-1).bind (λd=>bu d<|.str n)=some v):∀(g:Gm) (n:Nat),cG S Pd p g->dp g<n->bG S g<=8800->bQ n [dG g,.lst [A,B]]=.ok (false,rD<|vG p g)/\Sz (bG S g) (vG p g)
 |g,0,_,hd,_=>by lia
 | .fin d,n+1,⟨q,hq,hs⟩,_,_=>by
  subst hq;have ev:vG p (.fin<|rq q)=q:=Jj q;have x0:∀a b:D,atI [a,b] 0=some a:=λ_ _=>rfl;have x1:∀a b:D,atI [a,b] 1=some b:=λ_ _=>rfl;rw[ev];refine⟨?_,hs⟩;show aH 7 2 (eQ (lZ<|bQ n)<|jb<|bQ n) [.tup [.str "end",rD q],.lst [A,B]]=_;simp[aH,eQ,aA,gIf,aB,ak,aj,fC,gIx,x0,x1,aU,Me.let,Sl.let]
 | .deal nm ws,n+1,⟨⟨l,hl,hs⟩,hw,hc⟩,hd,hz=>by
  have ev:vG p (.deal nm ws)=vW p l ws:=by
   show vW p ((bZ ws).map rOf) ws=_;rw[hl,cy,show rOf∘rD=id from funext Jj,BO]
  rw[ev];have hz':1+bW S ws<=8800:=hz;obtain⟨⟨s5,s6,e⟩,h⟩:=O5 hP (g0:=.fz<|dG<|.deal nm ws) (s3:=.fz<|.tup<|dWs ws) (s4:=.un) ws l n 0 1 .un .un hc (by have:dpW ws+1<n+1:=hd;lia) hs jJ (by lia);rw[tp] at e h;rw[← Dl l ws hl] at e;refine⟨adQ (s5:=s5) (s6:=s6) ?_,h⟩;unfold jb cz;have it:HF (au 3) [.fz<|dG<|.deal nm ws,.fz<|.lst [A,B],.fz<|rD 0,.fz<|.tup<|dWs ws,.un,.un,.un]=.ok (dWs ws):=by simp[HF,au]
  rw[it];exact e
 | .move s nm ws,n+1,⟨hp,hw,hc⟩,hd,hz=>by
  have hz':1+bW S ws<=8800:=hz;obtain⟨hs,h1⟩:=hP s nm _ hp.1;obtain⟨⟨s5,s6,e⟩,h⟩:=O5 hP (g0:=.fz<|dG<|.move s nm ws) (s3:=.fz<|.lst<|brW (p s nm) ws) (s4:=.fz<|.tup<|(p s nm).map rD) ws (p s nm) n 0 1 .un .un hc (by have:dpW ws+1<n+1:=hd;lia) hp.2.2 jJ (by lia);rw[tp] at e h;refine⟨aeq (s5:=s5) (s6:=s6) hs h1 (agV hp.2.1 hw) ?_,h⟩;unfold jb cz;have it:HF (au 3) [.fz<|dG<|.move s nm ws,.fz<|.lst [A,B],.fz<|rD 0,.fz<|.lst<|brW (p s nm) ws,.fz<|.tup<|(p s nm).map rD,.un,.un]=.ok (brW (p s nm) ws):=by simp[HF,au]
  rw[it];exact e
theorem O5 (hP:∀s n v,(bu Pd<|.int s).bind (λd=>bu d<|.str n)=some v->(s=1\/s=2)/\(gIx (.lst [A,B])<|.int<|s-1).bind (λd=>bu d<|.str n)=some v){g0 s3 s4:Sl}:∀(ws:Ws) (l:List Rat) (n:Nat) (q:Rat) (j:Nat) (s5 s6:Sl),cW S Pd p ws->dpW ws<n->(∀x∈l,Sz S x)->Sz j q->j+bW S ws<=8801->
  (∃s5' s6',aL hWr (gG<|bQ n) (brW l ws) [g0,.fz<|.lst [A,B],.fz<|rD q,s3,s4,s5,s6]=.ok (.nx,[g0,.fz<|.lst [A,B],.fz<|rD<|q+vW p l ws,s3,s4,s5',s6']))/\Sz (j+bW S ws) (q+vW p l ws)
 | .nil,l,n,q,j,s5,s6,_,_,_,hq,_=>by
  have e:brW l .nil=[]:=by cases l<;>rfl
  have e2:vW p l .nil=0:=by cases l<;>simp[vW]
  rw[e,e2,oq];exact⟨⟨s5,s6,rfl⟩,hq.mono<|by lia⟩
 | .cons d g r,[],n,q,j,s5,s6,_,_,_,hq,_=>by
  have e2:vW p [] (.cons d g r)=0:=by simp[vW]
  rw[e2,oq];exact⟨⟨s5,s6,rfl⟩,hq.mono<|by lia⟩
 | .cons d g r,x::l,n,q,j,s5,s6,hc,hd,hs,hq,hz=>by
  have hz':j+(S+bG S g+1+bW S r)<=8801:=hz;have hd':max (dp g) (dpW r)<n:=hd;obtain⟨e1,h1⟩:=acg hP g n hc.1 (by lia) (by lia);have hx:=hs x af;have st:=ab9 (g0:=g0) (s3:=s3) (s4:=s4) hq hx h1 (by lia) e1;obtain⟨⟨s5',s6',e2⟩,h2⟩:=O5 hP (g0:=g0) (s3:=s3) (s4:=s4) r l n (q+x*vG p g) (j+(S+bG S g)+1) (.fz<|rD x) (.fz<|dG g) hc.2 (by lia) (λy hy=>hs y<|ae _ hy) (Gq hq<|vX hx h1) (by lia);have ev:q+vW p (x::l) (.cons d g r)=q+x*vG p g+vW p l r:=by rw[vW,AY]
  rw[ev];refine⟨⟨s5',s6',?_⟩,h2.mono (by show _<=j+(S+bG S g+1+bW S r);lia)⟩;show aL hWr _ (.tup [rD x,dG g]::brW l r) _=_;rw[aW (m1:=[g0,.fz<|.lst [A,B],.fz<|rD q,s3,s4,.fz<|rD x,.fz<|dG g]) rfl st,e2]
end
theorem Lj (G:Gv g)(hb:bG 20 g<=8800){q1 q2:Str->List Rat}(h1:okQ 20 g 1 q1)(h2:okQ 20 g 2 q2):bQ 30 [dG g,.lst [bf (rowsOf g 1) q1,bf (rowsOf g 2) q2]]=.ok (false,rD<|vG (p2 q1 q2) g)/\Sz (bG 20 g) (vG (p2 q1 q2) g):=by
 have hd:=G.dep;refine acg (λs n v h=>?_) g 30 (Lz (by decide) G h1 h2) (by lia) hb;obtain⟨d,h3,h4⟩:=cE.mp h;unfold DG bu at h3;simp only[tH,xw,Ba] at h3;by_cases c1:s=1
 ·subst c1;simp at h3;subst h3;exact⟨.inl rfl,h4⟩
 ·by_cases c2:s=2
  ·subst c2;simp at h3;subst h3;exact⟨.inr rfl,h4⟩
  ·have n1:¬((xI 1:Key)=.inl s):=λz=>c1 (BD z).symm;have n2:¬((xI 2:Key)=.inl s):=λz=>c2 (BD z).symm;simp[n1,n2] at h3
open L2 (atI ixN Key)
def pyR (x:Rat):xk:=.tuple [.int x.num,.int x.den]
theorem acq:∀l:List Rat,tu (l.map rD)=some (l.map pyR)
 |[]=>rfl
 |x::l=>by
  have h:toPy (rD x)=some (pyR x):=rfl;simp only[ah,tu,h,acq l];rfl
theorem acO:∀l:List Rat,uG (l.map rD)=true/\qY (l.map rD)<=1
 |[]=>⟨rfl,by decide⟩
 |x::l=>by
  obtain⟨h1,h2⟩:=acO l;refine⟨by simp[uG,h1,okD,oK],?_⟩;simp only[ah,qY]
  have:wK (rD x)=1:=by simp[oK,wK,qY]
  lia
theorem Y4:∀l m:List Rat,iN (l.map pyR) (m.map pyR)=decide (l=m)
 |[],[]=>by simp[iN]
 |[],_::_=>by simp[iN]
 |_::_,[]=>by simp[iN]
 |x::l,y::m=>by
  have h:i8 (pyR x) (pyR y)=decide (x=y):=by
   have e:=acS x.num x.den y.num y.den;refine uU (tV e) λp q t1 t2 _ _ e2=>?_;have u1:toPy (.tup [.int x.num,.int x.den])=some (pyR x):=rfl;have u2:toPy (.tup [.int y.num,.int y.den])=some (pyR y):=rfl;cases t1.symm.trans u1;cases t2.symm.trans u2;rw[e2];by_cases c:x=y
   ·subst c;simp
   ·rw[decide_eq_false c,decide_eq_false];intro z;obtain⟨z1,z2⟩:=xh z;exact c<|Rat.ext z1<|by exact_mod_cast z2
  rw[ah,ah,iN,h,Y4 l m];by_cases c:x=y<;>by_cases c2:l=m<;>simp[c,c2]
theorem aeg (l m:List Rat):rP (.tup<|l.map rD) (.tup<|m.map rD)=some (decide<|l=m):=by
 have sh:∀l:List Rat,toPy (.tup<|l.map rD)=some (.tuple<|l.map pyR)/\iO (.tuple<|l.map pyR)=true:=λl=>by
  have t:toPy (.tup<|l.map rD)=some (.tuple<|l.map pyR):=by
   show(tu<|l.map rD).map PyData.tuple=_;rw[acq];rfl
  refine⟨t,?_⟩;obtain⟨h1,h2⟩:=acO l;refine iy (TX (.tup<|l.map rD)<|by simpa[okD] using h1) λp e c1 c2 _=>?_;cases t.symm.trans e
  have:wK (.tup<|l.map rD)<=64:=by simp[wK];lia
  unfold iO;rw[c1,c2];simpa using this
 obtain⟨t1,s1⟩:=sh l;obtain⟨t2,s2⟩:=sh m;unfold rP;rw[t1,t2];simp only[s1,s2,and_self,if_true];rw[show i8 (.tuple<|l.map pyR) (.tuple<|m.map pyR)=iN (l.map pyR) (m.map pyR) from by simp[i8],Y4]
theorem Wj:Hq (plS s xs u) (plS s xs v)=some (decide (∀x∈xs,u x.n=v x.n)):=by
 have key:∀ys:List RS,(∀y∈ys,y∈xs)->Bs ((xs.map<|aO s).map λd=>.inr<|nmR d) ((xs.map<|aO s).map λd=>.tup<|(v<|nmR d).map rD) ((ys.map<|aO s).map λd=>.inr<|nmR d) ((ys.map<|aO s).map λd=>.tup<|(u<|nmR d).map rD)=some (decide (∀y∈ys,u y.n=v y.n)):=λys=>by
  induction ys with
  |nil=>intro _;simp[Bs]
  |cons y ys ih=>
   intro h;have hv:=v7 (λn=>.tup<|(v n).map rD) (xs.map<|aO s) ⟨aO s y,aw.mpr ⟨y,h y af,rfl⟩,rfl⟩;have en:nmR (aO s y)=y.n:=rfl;rw[ah,ah,ah,Bs,en];rw[en] at hv;simp only[hv,aeg,ih λz hz=>h z<|ae _ hz,xw,iP];congr 1;by_cases c:u y.n=v y.n<;>simp[c]
 have:=key xs λ_ h=>h
 unfold plS bf Hq;simp only[cm,if_true];exact this
theorem TF (hs:s=1\/s=2)(a b:D):lr [.int s,a,b]=.ok (true,if s=1 then .lst [a,b] else .lst [b,a]):=by
 rcases hs with rfl|rfl
 ·simp[lr,qI,qx,aH,aA,gIf,aB,aj,fC,jc,cP,aa,ao,au,Me.let,Sl.let]
 ·simp[lr,qI,qx,aH,aA,gIf,aB,aj,fC,gNx,jc,cP,aa,ao,au,Me.let,Sl.let]
theorem abm {Fp Fm:Zac}{rows w pl:D}{s cell c x:Int}{ws:List D}{ds:List D}{k:Nat}(hk:k<=100)(hz:ds.length<=1000)(ix:gIx (.tup ws) (.int k)=some w)(em:Fm [.int cell,.int<|20+k]=.ok (false,.int x))(ep:Fp [rows,.int s,.int x]=.ok (true,pl)):
  bD 4 (aN<|aa (ak gIx (aj 5)<|aj 6)<|aa (fFn Fp<|aa (au 0)<|aa (au 1)<|aa (fFn Fm<|aa (au 2)<|aa (ak bc (fC<|.int 20)<|aj 6) ao) ao) ao) [.fz rows,.fz<|.int s,.fz<|.int cell,.fz<|.int c,.ow<|.lst ds,.fz<|.tup ws,.fz<|.int k]=.ok (.nx,[.fz rows,.fz<|.int s,.fz<|.int cell,.fz<|.int c,.ow<|.lst<|ds++[.tup [w,pl]],.fz<|.tup ws,.fz<|.int k]):=by
 have b1:Bq 20:=bgS (by decide);have b2:Bq (k:Int):=bgS (by lia);have z1:ds.length<16777216:=by lia
 simp[bD,kY,putL,aN,aa,ao,ak,aj,au,fFn,fC,bc,b1,b2,ix,em,ep,z1]
theorem Rv (hr:Rows.filter (λd=>decide<|sdD d=s)=xs.map (aO s))(TB:Zt Rows)(hQ:Q.length<=6):∀(rest:List Int) (pre:Mx) (s6:Sl),Q=pre.map (·.1)++rest->(∀m∈pre,uJ xs m.2)->
  ∃M s6',aL (hName 6) jO ((kH pre.length rest.length).map λ(k:Nat)=>D.int k) [.fz<|.lst Rows,.fz<|.int s,.fz<|.int cell,.fz<|.int c,.ow<|.lst<|mxD s xs T pre,.fz<|.tup<|(Q.map λp=>ar p T).map rD,s6]=.ok (.nx,[.fz<|.lst Rows,.fz<|.int s,.fz<|.int cell,.fz<|.int c,.ow<|.lst<|mxD s xs T M,.fz<|.tup<|(Q.map λp=>ar p T).map rD,s6'])/\M.map (·.1)=Q/\∀m∈M,uJ xs m.2
 |[],pre,s6,e,hp=>⟨pre,s6,rfl,by simpa using e.symm,hp⟩
 |q::rest,pre,s6,e,hp=>by
  have ln:pre.length+(rest.length+1)=Q.length:=by rw[e];simp
  obtain⟨x,ex,hx⟩:=yd cell (20+pre.length) (by lia);obtain⟨u,eu,hu⟩:=S9 s x TB;rw[hr] at eu hu;have pu:uJ xs u:=⟨λy hy=>by
   obtain⟨k,h1,h2⟩:=hu (aO s y)<|aw.mpr ⟨y,hy,rfl⟩;have e:wdD (aO s y)=y.w.length:=by simp[aO,wdD]
   rw[e] at h1 h2;exact⟨k,h1,h2⟩⟩
  have ix:gIx (.tup<|(Q.map λp=>ar p T).map rD) (.int (pre.length:Nat))=some (rD<|ar q T):=jN (by rw[e];simp);have st:=abm (Fp:=oJ) (Fm:=bF) (rows:=.lst Rows) (pl:=plS s xs u) (s:=s) (cell:=cell) (c:=c) (ds:=mxD s xs T pre) (k:=pre.length) (by lia) (by simp[mxD];lia) ix (by exact_mod_cast ex) eu;have eM:mxD s xs T pre++[.tup [rD<|ar q T,plS s xs u]]=mxD s xs T (pre++[(q,u)]):=by simp[mxD]
  rw[eM] at st;obtain⟨M,s6',e2,h1,h2⟩:=Rv (cell:=cell) (c:=c) (T:=T) hr TB hQ rest (pre++[(q,u)]) (.fz<|.int pre.length) (by rw[e];simp) (λm hm=>by
   rcases cq.mp hm with z|z
   ·exact hp m z
   ·rw[bg.mp z];exact pu)
  refine⟨M,s6',?_,h1,h2⟩;rw[a8,dS] at e2;rw[cw,ia,ah];exact(aW rfl st).trans e2
theorem adM (em:Fm [.int cell,.int 11]=.ok (false,.int x))(ep:Fp [.int x,.int c]=.ok (false,w))(eL:L [.fz rows,.fz s,.fz<|.int cell,.fz<|.int c,.ow<|.lst [],.fz w,.un]=.ok (.nx,[.fz rows,.fz s,.fz<|.int cell,.fz<|.int c,.ow r,.fz w,s6])):
  aH 7 4 (oh Fm Fp L) [rows,s,.int cell,.int c]=.ok (true,r):=by
 simp[oh,aH,aA,cC,cP,ao,aK,fFn,aa,au,fC,em,ep,eL,dY]
theorem adT {Rows:List D}{s cell:Int}{xs:List RS}{c:Nat}(hc:1<=c/\c<=6)(hr:Rows.filter (λd=>decide<|sdD d=s)=xs.map (aO s))(TB:Zt Rows):
  ∃T M,nF [.lst Rows,.int s,.int cell,.int (c:Int)]=.ok (true,.lst<|mxD s xs T M)/\yw xs T M:=by
 obtain⟨x,ex,hx⟩:=yd cell 11 (by decide);obtain⟨l,el,Q,hl,hQ,hS,rfl⟩:=Ob hx hc;refine wy (Rv (s:=s) (cell:=cell) (c:=(c:Int)) (T:=Q.sum) (Q:=Q) hr TB (by lia) Q [] .un rfl λ_ z=>by cases z) λM s6' e h1 h2=>?_;have sb:=(Ae Q hQ).2;refine⟨Q.sum,M,?_,hS,by lia,by rw[h1],λm hm=>?_,h2,?_⟩
 ·have e1:(aa (aj 3) ao) [.fz<|.lst Rows,.fz<|.int s,.fz<|.int cell,.fz<|.int (c:Int),.ow<|.lst [],.fz<|.tup<|(Q.map λp=>ar p Q.sum).map rD,.un]=.ok [.int (c:Int)]:=by simp[aa,aj,ao]
  have e2:=Cu e1 (by lia) (by lia);have eL:jK [.fz<|.lst Rows,.fz<|.int s,.fz<|.int cell,.fz<|.int (c:Int),.ow<|.lst [],.fz<|.tup<|(Q.map λp=>ar p Q.sum).map rD,.un]=.ok (.nx,[.fz<|.lst Rows,.fz<|.int s,.fz<|.int cell,.fz<|.int (c:Int),.ow<|.lst<|mxD s xs Q.sum M,.fz<|.tup<|(Q.map λp=>ar p Q.sum).map rD,s6']):=by
   unfold jK cz;rw[e2];show aL (hName 6) jO ((bp c).map λ(k:Nat)=>D.int k) _=_;rw[fm];rw[hl] at e;exact e
  exact adM ex el eL
 ·have:m.1∈Q:=by rw[← h1];exact aw.mpr ⟨m,hm,rfl⟩
  have:=hQ m.1 this
  lia
 ·have:=congrArg si h1
  simp at this
  lia
open L2 (atI ixN Key)
def ptB (Fp:Zac):Zab:=
 (gIf (pA (aB Nz (aj 1)<|cP ao)<|aB Hq (ak gIx (ak gIx (aj 1)<|fUn qj<|fC<|.int 1)<|fC<|.int 1)<|aj 3) (kZ 1 (fUn qj<|fC<|.int 1)<|aN<|aa (fFn Fp<|aa (ak gIx (ak gIx (aj 1)<|fUn qj<|fC<|.int 1)<|fC<|.int 0)<|aa (au 2) ao)<|aa (au 3) ao)<|bD 1<|aN<|aa (au 2)<|aa (au 3) ao)
theorem aez:ptB Fp [.fz a,.ow<|.lst [],.fz w,.fz p]=.ok (.nx,[.fz a,.ow<|.lst [.tup [w,p]],.fz w,.fz p]):=by rfl
theorem Uk:gIx (.lst<|ds++[d]) (.int (-1))=some d/\ixN (ds++[d]).length (-1)=some ds.length:=by
 have i:ixN (ds++[d]).length (-1)=some ds.length:=by
  unfold ixN;rw[if_neg (by decide),if_pos (by simp;lia)];congr 1
  simp
  lia
 refine⟨?_,i⟩;show atI (ds++[d]) (-1)=some d;unfold atI;rw[i]
 simp
theorem acX (hz:ds.length<=1000)(e:Hq p1 p=some false):ptB Fp [.fz a,.ow<|.lst<|ds++[.tup [w1,p1]],.fz w,.fz p]=.ok (.nx,[.fz a,.ow<|.lst<|ds++[.tup [w1,p1]]++[.tup [w,p]],.fz w,.fz p]):=by
 obtain⟨i1,i2⟩:=Uk (ds:=ds) (d:=.tup [w1,p1]);have i3:gIx (.tup [w1,p1]) (.int 1)=some p1:=rfl;have gn:qj (.int 1)=some (.int (-1)):=rfl;have hne:Nz (.lst<|ds++[.tup [w1,p1]]) (.lst [])=some true:=by simp[Nz]
 have z1:(ds++[D.tup [w1,p1]]).length<16777216:=by simp;lia
 generalize ds++[.tup [w1,p1]]=es at *;simp[ptB,gIf,pA,aB,aj,cP,ao,hne,ak,fUn,fC,gn,i1,i3,e,bD,kY,putL,aN,aa,au,z1]
theorem ae3 (e:Hq p1 p=some true)(ep:Fp [w1,w]=.ok (false,w2)):ptB Fp [.fz a,.ow<|.lst<|ds++[.tup [w1,p1]],.fz w,.fz p]=.ok (.nx,[.fz a,.ow<|.lst<|ds++[.tup [w2,p]],.fz w,.fz p]):=by
 obtain⟨i1,i2⟩:=Uk (ds:=ds) (d:=.tup [w1,p1]);have i3:gIx (.tup [w1,p1]) (.int 1)=some p1:=rfl;have i4:gIx (.tup [w1,p1]) (.int 0)=some w1:=rfl;have gn:qj (.int 1)=some (.int (-1)):=rfl;have hne:Nz (.lst<|ds++[.tup [w1,p1]]) (.lst [])=some true:=by simp[Nz]
 have es:(ds++[D.tup [w1,p1]]).set ds.length (.tup [w2,p])=ds++[.tup [w2,p]]:=by simp
 generalize ds++[.tup [w1,p1]]=es at *;simp[ptB,gIf,pA,aB,aj,cP,ao,hne,ak,fUn,fC,gn,i1,i3,i4,e,kZ,kY,putL,aN,aa,au,fFn,ep,i2,es]
structure Nk (xs:List RS)(T:Int)(M N:Mx):Prop where
 sum:(N.map (·.1)).sum=(M.map (·.1)).sum
 nn:∀m∈N,0<=m.1
 pu:∀m∈N,uJ xs m.2
 len:N.length<=M.length
 mx:∀p∈ω xs,mxS xs T N p=mxS xs T M p
theorem Dq (xs:List RS)(T:Int)(M N:Mx)(p:PS):mxS xs T (M++N) p=mxS xs T M p+mxS xs T N p:=by
 unfold mxS;rw[bX,mr]
theorem ZX (X:mU xs){u v:Str->List Rat}(h:∀x∈xs,u x.n=v x.n):∀p∈ω xs,wS xs (fS xs u) p=wS xs (fS xs v) p:=λp hp=>by
 have hf:∀q∈ω xs,fS xs u q=fS xs v q:=λq hq=>by
  obtain⟨x,hx,hq⟩:=fR.mp hq;obtain⟨w,hw,rfl⟩:=aw.mp hq;unfold fS;rw[show((x.n,w):PS).1=x.n from rfl,h x hx]
 have hr:∀rc:List PS,(∀q∈rc,q∈ω xs)->prR (fD<|fS xs u) (rc.map prD)=prR (fD<|fS xs v) (rc.map prD):=λrc=>by
  induction rc with
  |nil=>intro _;rfl
  |cons q rc ih=>
   intro hq;rw[ah,prR,prR,QH,QH,hf q<|hq q af,ih λz hz=>hq z<|ae _ hz]
 obtain⟨x,hx,hq⟩:=fR.mp hp;obtain⟨w,hw,rfl⟩:=aw.mp hq;unfold wS;rw[show((x.n,w):PS).1=x.n from rfl,mX X.nd hx,hr x.rc<|X.rc x hx,hf _ hp]
theorem div_add (a b T:Int):ar a T+ar b T=ar (a+b) T:=by
 have:=qy T [a,b]
 simp at this;rw[← this];grind
theorem TY (X:mU xs)(hT:0<T/\T<=5994):∀(rest pre N:Mx) (s2 s3:Sl),Nk xs T pre N->(pre++rest).length<=6->((pre++rest).map (·.1)).sum=T->(∀m∈rest,0<=m.1)->(∀m∈rest,uJ xs m.2)->
  ∃N' s2' s3',aL (du 2<|aJ (hName 2)<|aJ (hName 3) dw) cT (mxD s xs T rest) [.fz a,.ow<|.lst<|mxD s xs T N,s2,s3]=.ok (.nx,[.fz a,.ow<|.lst<|mxD s xs T N',s2',s3'])/\Nk xs T (pre++rest) N'
 |[],pre,N,s2,s3,H,_,_,_,_=>⟨N,s2,s3,rfl,by simpa using H⟩
 |m::rest,pre,N,s2,s3,H,hl,hs,hn,hp=>by
  have hm:=hn m af;have pu:=hp m af;have go:∀N2:Mx,Nk xs T (pre++[m]) N2->cT [.fz a,.ow<|.lst<|mxD s xs T N,.fz<|rD<|ar m.1 T,.fz<|plS s xs m.2]=.ok (.nx,[.fz a,.ow<|.lst<|mxD s xs T N2,.fz<|rD<|ar m.1 T,.fz<|plS s xs m.2])->∃N' s2' s3',aL (du 2<|aJ (hName 2)<|aJ (hName 3) dw) cT (mxD s xs T (m::rest)) [.fz a,.ow<|.lst<|mxD s xs T N,s2,s3]=.ok (.nx,[.fz a,.ow<|.lst<|mxD s xs T N',s2',s3'])/\Nk xs T (pre++m::rest) N':=λN2 H2 e=>by
   obtain⟨N',t2,t3,e2,H3⟩:=TY X hT rest (pre++[m]) N2 (.fz<|rD<|ar m.1 T) (.fz<|plS s xs m.2) H2 (by simpa using hl) (by simpa using hs) (λz hz=>hn z<|ae _ hz) (λz hz=>hp z<|ae _ hz);refine⟨N',t2,t3,?_,by simpa using H3⟩;show aL _ _ (D.tup [rD<|ar m.1 T,plS s xs m.2]::mxD s xs T rest) _=_;exact(aW rfl e).trans e2
  have add:Nk xs T (pre++[m]) (N++[m]):=⟨by simp[H.sum],λz hz=>by
   rcases cq.mp hz with y|y
   ·exact H.nn z y
   ·rw[bg.mp y];exact hm,λz hz=>by
   rcases cq.mp hz with y|y
   ·exact H.pu z y
   ·rw[bg.mp y];exact pu,by simp;exact H.len,λp hp=>by rw[Dq,Dq,H.mx p hp]⟩
  have eM:∀L:Mx,mxD s xs T (L++[m])=mxD s xs T L++[.tup [rD<|ar m.1 T,plS s xs m.2]]:=λL=>by simp[mxD]
  rcases List.eq_nil_or_concat N with hN|⟨N0,l,hN⟩
  ·subst hN;exact go [m] add aez
  ·rw[List.concat_eq_append] at hN;subst hN;have ez:mxD s xs T (N0++[l])=mxD s xs T N0++[.tup [rD<|ar l.1 T,plS s xs l.2]]:=by simp[mxD]
   have hl0:N0.length<=6:=by
    have:=H.len
    simp at this hl
    lia
   have dq:=Wj (s:=s) (xs:=xs) (u:=l.2) (v:=m.2);by_cases c:∀x∈xs,l.2 x.n=m.2 x.n
   ·rw[decide_eq_true c] at dq;have sums:l.1<=T:=by
     have h1:=H.sum;have h3:((pre++m::rest).map (·.1)).sum=(pre.map (·.1)).sum+(m.1+(rest.map (·.1)).sum):=by simp
     have nn:∀L:Mx,(∀z∈L,0<=z.1)->0<=(L.map (·.1)).sum:=λL=>by
      induction L with
      |nil=>intro _;simp
      |cons z L ih=>intro h;simp only[ah,cb];have:=h z af;have:=ih λy hy=>h y<|ae _ hy;lia
     have n1:=nn rest λz hz=>hn z<|ae _ hz;have n2:=nn N0 λz hz=>H.nn z<|dy _ hz;simp only[bX,mr,ah,me,cb,Bz] at h1
     lia
    have summ:m.1<=T:=by
     have nn:∀L:Mx,(∀z∈L,0<=z.1)->0<=(L.map (·.1)).sum:=λL=>by
      induction L with
      |nil=>intro _;simp
      |cons z L ih=>intro h;simp only[ah,cb];have:=h z af;have:=ih λy hy=>h y<|ae _ hy;lia
     have h3:((pre++m::rest).map (·.1)).sum=(pre.map (·.1)).sum+(m.1+(rest.map (·.1)).sum):=by simp
     have n1:=nn rest λz hz=>hn z<|ae _ hz;have n2:=nn _ H.nn;have h1:=H.sum
     lia
    have hlnn:0<=l.1:=H.nn l<|cf _ af;have z1:Sz 13 (ar l.1 T):=o8 (by lia) (by show l.1.natAbs<8192;lia) (by show T.natAbs<8192;lia);have z2:Sz 13 (ar m.1 T):=o8 (by lia) (by show m.1.natAbs<8192;lia) (by show T.natAbs<8192;lia);have ep:=Ky z1 z2 (by lia);rw[div_add] at ep;refine go (N0++[(l.1+m.1,m.2)]) ⟨?_,λz hz=>?_,λz hz=>?_,?_,λp hp=>?_⟩ ?_
    ·have:=H.sum
     simp only[bX,mr,ah,me,cb,Bz] at this ⊢
     lia
    ·rcases cq.mp hz with y|y
     ·exact H.nn z<|dy _ y
     ·rw[bg.mp y];show 0<=l.1+m.1;lia
    ·rcases cq.mp hz with y|y
     ·exact H.pu z<|dy _ y
     ·rw[bg.mp y];exact pu
    ·have:=H.len
     simp at this ⊢
     lia
    ·have h:=H.mx p hp;rw[Dq] at h ⊢;rw[Dq,← h];have w1:=ZX X c p hp;have e1:∀z:Int×(Str->List Rat),mxS xs T [z] p=ar z.1 T*wS xs (fS xs z.2) p:=λz=>by simp[mxS];grind
     rw[e1,e1,e1,w1,← div_add];grind
    ·rw[ez];have e3:mxD s xs T (N0++[(l.1+m.1,m.2)])=mxD s xs T N0++[.tup [rD<|ar (l.1+m.1) T,plS s xs m.2]]:=by simp[mxD]
     rw[e3];exact ae3 dq ep
   ·rw[decide_eq_false c] at dq;refine go (N0++[l]++[m]) add ?_;rw[eM,ez];exact acX (by simp[mxD];lia) dq
theorem aeD (eL:L [.fz a,.ow<|.lst [],.un,.un]=.ok (.nx,[.fz a,.ow r,s2,s3])):aH 4 1 (fU L) [a]=.ok (true,r):=by
 simp[fU,aH,aA,cC,cP,ao,eL,dY]
theorem afX (X:mU xs)(H:yw xs T M):∃N,gj [.lst<|mxD s xs T M]=.ok (true,.lst<|mxD s xs T N)/\yw xs T N/\∀p∈ω xs,mxS xs T N p=mxS xs T M p:=by
 refine HN (TY (a:=.lst<|mxD s xs T M) (s:=s) X ⟨H.T0,H.T1⟩ M [] [] .un .un ⟨rfl,(λ_ z=>by cases z),(λ_ z=>by cases z),by simp,λ_ _=>rfl⟩ (by simpa using H.len) (by simpa using H.sum) (λm hm=>(H.nn m hm).1) H.pu) λN t2 t3 e h=>?_;rw[gv] at h;refine⟨N,?_,⟨H.T0,H.T1,by rw[h.sum,H.sum],λm hm=>⟨h.nn m hm,?_⟩,h.pu,gz h.len H.len⟩,h.mx⟩
 ·have eL:d9 [.fz<|.lst<|mxD s xs T M,.ow<|.lst [],.un,.un]=.ok (.nx,[.fz<|.lst<|mxD s xs T M,.ow<|.lst<|mxD s xs T N,t2,t3]):=by
   unfold d9 cz;have it:cg (au 0) [.fz<|.lst<|mxD s xs T M,.ow<|.lst [],.un,.un]=.ok (mxD s xs T M):=by simp[cg,au]
   rw[it];exact e
  exact aeD eL
 ·have key:∀L:Mx,(∀z∈L,0<=z.1)->∀m∈L,m.1<=(L.map (·.1)).sum:=λL=>by
   induction L with
   |nil=>intro _ m hm;cases hm
   |cons z L ih=>
    intro hz m hm;have nn:∀L:Mx,(∀z∈L,0<=z.1)->0<=(L.map (·.1)).sum:=λL=>by
     induction L with
     |nil=>intro _;simp
     |cons z L ih=>intro h;simp only[ah,cb];have:=h z af;have:=ih λy hy=>h y<|ae _ hy;lia
    have n1:=nn L λy hy=>hz y<|ae _ hy;have n2:=hz z af;simp only[ah,cb];rcases aE.mp hm with rfl|y
    ·lia
    ·have:=ih (λy hy=>hz y<|ae _ hy) m y;lia
  have:=key N h.nn m hm
  rw[h.sum,H.sum] at this
  have:=H.T1
  lia
open L2 (atI ixN Key)
structure Env (g:Gm)(s:Int)(xs:List RS):Prop where
 hs:s=1\/s=2
 G:Gv g
 ex:rowsOf g s=xs.map (aO s)
 X:mU xs
 sz:szG g<=36
def plO (g:Gm)(s:Int)(o:Str->List Rat):D:=bf (rowsOf g<|3-s) o
def two (s:Int)(a b:D):D:=if s=1 then .lst [a,b] else .lst [b,a]
theorem Env.b (E:Env g s xs):bG 20 g<=2196:=by have:=b20 g;have:=E.sz;lia
theorem Env.okQ (E:Env g s xs){u:Str->List Rat}(h:∀x∈xs,okS 20 (u x.n) x.w.length):okQ 20 g s u:=λd hd=>by
 rw[E.ex] at hd;obtain⟨x,hx,rfl⟩:=aw.mp hd;have e:wdD (aO s x)=x.w.length:=by simp[aO,wdD]
 rw[e];exact h x hx
theorem acQ (E:Env g s xs)(u:Str->List Rat):plS s xs u=bf (rowsOf g s) u:=by rw[E.ex];rfl
theorem Qa (E:Env g s xs){u o:Str->List Rat}(hu:∀x∈xs,okS 20 (u x.n) x.w.length)(ho:Pk.okQ 20 g (3-s) o):bQ 30 [dG g,two s (plS s xs u)<|plO g s o]=.ok (false,rD<|vG (both s u o) g)/\Sz (bG 20 g) (vG (both s u o) g):=by
 have hb:=E.b;have hq:=E.okQ hu;rw[acQ E];rcases E.hs with rfl|rfl
 ·exact Lj E.G (by lia) hq ho
 ·exact Lj E.G (by lia) ho hq
theorem abP (E:Env g s xs){u o:Str->List Rat}(hu:∀x∈xs,okS 20 (u x.n) x.w.length)(ho:Pk.okQ 20 g (3-s) o):∃a b,two s (plS s xs u) (plO g s o)=.lst [a,b]/\vZ [dG g,a,b]=.ok (false,rD<|vG (both s u o) g):=by
 have hb:=E.b;have hq:=E.okQ hu;rw[acQ E];rcases E.hs with rfl|rfl
 ·exact⟨_,_,rfl,(Iz (by decide) (by decide) E.G (by lia) hq ho).1⟩
 ·exact⟨_,_,rfl,(Iz (by decide) (by decide) E.G (by lia) ho hq).1⟩
def Ff (s:Int)(T:Int)(g:Gm)(o:Str->List Rat)(M:Mx):Rat:=(M.map λm=>ar m.1 T*vG (both s m.2 o) g).sum
theorem wD:∀L:Mx,(∀z∈L,0<=z.1)->0<=(L.map (·.1)).sum
 |[],_=>by simp
 |z::L,h=>by
  have h1:=h z af;have h2:=wD L λy hy=>h y<|ae _ hy;simp only[ah,cb]
  lia
theorem acP:∀L:Mx,(∀z∈L,0<=z.1)->(L.map (·.1)).sum=0->∀z∈L,z.1=0
 |[],_,_=>λ_ h=>by cases h
 |y::L,h,e=>λz hz=>by
  have h1:=h y af;have h2:=wD L λy hy=>h y<|ae _ hy;simp only[ah,cb] at e;rcases aE.mp hz with rfl|c
  ·lia
  ·exact acP L (λy hy=>h y<|ae _ hy) (by lia) z c
theorem aaZ (E:Env g s xs){o:Str->List Rat}(ho:Pk.okQ 20 g (3-s) o)(hT:0<T/\T<=5994){P:Mx}(hn:∀m∈P,0<=m.1)(hp:∀m∈P,uJ xs m.2)(hl:P.length<=6)(hs:(P.map (·.1)).sum<=T):Sz (2196+13) (Ff s T g o P):=by
 have h0:=wD P hn;rcases Int.lt_or_eq_of_le h0 with z|z
 ·have H:yw xs (P.map (·.1)).sum P:=⟨z,by lia,rfl,λm hm=>⟨hn m hm,by
   have key:∀L:Mx,(∀z∈L,0<=z.1)->∀m∈L,m.1<=(L.map (·.1)).sum:=λL=>by
    induction L with
    |nil=>intro _ m hm;cases hm
    |cons y L ih=>
     intro hy m hm;have n1:=wD L λz hz=>hy z<|ae _ hz;have n2:=hy y af;simp only[ah,cb];rcases aE.mp hm with rfl|c
     ·lia
     ·have:=ih (λz hz=>hy z<|ae _ hz) m c;lia
   have:=key P hn m hm
   lia⟩,hp,hl⟩
  have k:=N6 (o:=o) E.hs E.G.toGd E.ex E.X H;have w:=(Qa E (u:=qX xs<|mxS xs (P.map (·.1)).sum P) (λx hx=>acu E.X hx H) ho).2;generalize hS:(P.map (·.1)).sum=S at *;have e:Ff s T g o P=ar S T*vG (both s (qX xs<|mxS xs S P) o) g:=by
   rw[← k];unfold Ff;have mul:∀L:Mx,(L.map λm=>ar m.1 T*vG (both s m.2 o) g).sum=ar S T*(L.map λm=>ar m.1 S*vG (both s m.2 o) g).sum:=λL=>by
    induction L with
    |nil=>simp
    |cons m L ih=>
     have e1:ar m.1 T=ar S T*ar m.1 S:=by
      rw[mw,kC T S];exact(Rat.divInt_mul_left<|by lia).symm
     simp only[ah,cb,ih,e1];grind
   exact mul P
  rw[e];have hb:=E.b;exact(vX (k:=13) (o8 (by lia) (by show S.natAbs<8192;lia) (by show T.natAbs<8192;lia)) w).mono (by lia)
 ·have hz:=acP P hn z.symm;have e:Ff s T g o P=0:=by
   unfold Ff
   have:(P.map λm=>ar m.1 T*vG (both s m.2 o) g)=P.map λ_=>(0:Rat):=eS λm hm=>by rw[hz m hm];simp
   rw[this]
   have:∀L:Mx,(L.map λ_=>(0:Rat)).sum=0:=λL=>by
    induction L with
    |nil=>rfl
    |cons _ L ih=>rw[ah,cb,ih];grind
   exact this P
  rw[e];exact jJ.mono<|by lia
theorem abF (eb:Fb [s,u,o]=.ok (true,b))(ew:Fw [g,b]=.ok (f1,v))(et:Ft [w,v]=.ok (false,wv))(ep:Fp [q,wv]=.ok (false,q')):
  aK 10 (fFn Fp<|aa (au 10)<|aa (fFn Ft<|aa (au 11)<|aa (fFn Fw<|aa (au 3)<|aa (fFn Fb<|aa (au 5)<|aa (au 12)<|aa (au 9) ao) ao) ao) ao) [y0,y1,y2,.fz g,y4,.fz s,y6,y7,y8,.fz o,.fz q,.fz w,.fz u,y13]=.ok (.nx,[y0,y1,y2,.fz g,y4,.fz s,y6,y7,y8,.fz o,.fz q',.fz w,.fz u,y13]):=by
 simp[aK,fFn,aa,ao,au,eb,ew,et,ep]
theorem Q8 (E:Env g s xs){o:Str->List Rat}(ho:Pk.okQ 20 g (3-s) o)(hT:0<T/\T<=5994){y0 y1 y2 y4 y6 y7 y8 y13:Sl}:∀(rest pre:Mx) (s11 s12:Sl),(∀m∈pre++rest,0<=m.1)->(∀m∈pre++rest,uJ xs m.2)->(pre++rest).length<=6->((pre++rest).map (·.1)).sum<=T->
  ∃s11' s12',aL (du 2<|aJ (hName 11)<|aJ (hName 12) dw) Jq (mxD s xs T rest) [y0,y1,y2,.fz<|dG g,y4,.fz<|.int s,y6,y7,y8,.fz<|plO g s o,.fz<|rD<|Ff s T g o pre,s11,s12,y13]=.ok (.nx,[y0,y1,y2,.fz<|dG g,y4,.fz<|.int s,y6,y7,y8,.fz<|plO g s o,.fz<|rD<|Ff s T g o<|pre++rest,s11',s12',y13])
 |[],pre,s11,s12,_,_,_,_=>⟨s11,s12,by simp[mxD,aL]⟩
 |m::rest,pre,s11,s12,hn,hp,hl,hsum=>by
  have hm:m∈pre++m::rest:=by simp
  have pu:=hp m hm;have hpre:∀z∈pre,z∈pre++m::rest:=λz hz=>dy _ hz;have nr:=wD rest λz hz=>hn z (by simp[hz]);have np:=wD pre λz hz=>hn z<|hpre z hz;have hmn:=hn m hm;have es:((pre++m::rest).map (·.1)).sum=(pre.map (·.1)).sum+(m.1+(rest.map (·.1)).sum):=by simp
  have z1:=aaZ E ho hT (P:=pre) (λz hz=>hn z<|hpre z hz) (λz hz=>hp z<|hpre z hz) (by simp at hl;lia) (by lia);obtain⟨w1,w2⟩:=Qa E (u:=m.2) (λx hx=>pu.ok E.X x hx) ho;have hb:=E.b;have hw:Sz 13 (ar m.1 T):=o8 (by lia) (by show m.1.natAbs<8192;lia) (by show T.natAbs<8192;lia);have et:=Ma hw w2 (by lia);have ep:=Ky z1 (vX hw w2) (by lia);have eb:=TF E.hs (plS s xs m.2)<|plO g s o;have st:=abF (y0:=y0) (y1:=y1) (y2:=y2) (y4:=y4) (y6:=y6) (y7:=y7) (y8:=y8) (y13:=y13) eb w1 et ep;have ew:Ff s T g o pre+ar m.1 T*vG (both s m.2 o) g=Ff s T g o (pre++[m]):=by
   unfold Ff;rw[bX,mr,ah,me,cb,Bz];grind
  rw[ew] at st;obtain⟨t11,t12,e2⟩:=Q8 E ho hT (y0:=y0) (y1:=y1) (y2:=y2) (y4:=y4) (y6:=y6) (y7:=y7) (y8:=y8) (y13:=y13) rest (pre++[m]) (.fz<|rD<|ar m.1 T) (.fz<|plS s xs m.2) (by simpa using hn) (by simpa using hp) (by simpa using hl) (by simpa using hsum);refine⟨t11,t12,?_⟩;rw[eD] at e2;show aL _ _ (D.tup [rD<|ar m.1 T,plS s xs m.2]::mxD s xs T rest) _=_;exact(aW rfl st).trans e2
theorem ad4 {L : Me → Res (Fl × Me)} {Fb Fw Fr : List D → Res (Bool × D)} {y0 y1 y2 y4 y6 y8 y10 y11 y12 y13 t11 t12 : Sl} {g s p o a b v : D} {f1 f2 : Bool} (eL : L [y0, y1, y2, .fz g, y4, .fz s, y6, .fz p, y8, .fz o, .fz (.tup [.int 0, .int 1]), y11, y12, y13] = .ok (.nx, [y0, y1, y2, .fz g, y4, .fz s, y6, .fz p, y8, .fz o, .fz v, t11, t12, y13])) (eb : Fb [s, p, o] = .ok (true, .lst [a, b])) (ew : Fw [g, .lst [a, b]] = .ok (f1, v)) (er : Fr [g, a, b] = .ok (f2, v)) (en : gNe v v = some false) :
    (aA (aK 10 (aN (aa (fC (.int 0)) (aa (fC (.int 1)) ao))))
 (aA L
 (aA (aK 13 (fFn Fb (aa (au 5) (aa (au 7) (aa (au 9) ao)))))
 (gIf (ql (aB gNe (fFn Fw (aa (au 3) (aa (au 13) ao))) (aj 10)) (aB gNe (fFn Fr (aa (au 3) (aa (ak gIx (aj 13) (fC (.int 0))) (aa (ak gIx (aj 13) (fC (.int 1))) ao)))) (aj 10))) (aU (fC (.bl false))) gNx)))) [y0, y1, y2, .fz g, y4, .fz s, y6, .fz p, y8, .fz o, y10, y11, y12, y13] = .ok (.nx, [y0, y1, y2, .fz g, y4, .fz s, y6, .fz p, y8, .fz o, .fz v, t11, t12, .fz (.lst [a, b])]) := by
  have i0 : gIx (.lst [a, b]) (.int 0) = some a := rfl;have i1 : gIx (.lst [a, b]) (.int 1) = some b := rfl;simp [aA, aK, aN, aa, ao, fC, eL, fFn, au, eb, gIf, ql, aB, ew, aj, en, ak, i0, i1, er, gNx]
theorem rne:gNe (rD v) (rD v)=some false:=by unfold gNe;rw[M3];simp
theorem age (E:Env g s xs){M:Mx}(H:yw xs T M){o:Str->List Rat}(ho:Pk.okQ 20 g (3-s) o){y0 y1 y2 y4 y8 y10 y11 y12 y13:Sl}:
  ∃m':Sl×Sl×Sl×Sl,Di [y0,y1,y2,.fz<|dG g,y4,.fz<|.int s,.fz<|.lst<|mxD s xs T M,.fz<|plS s xs<|qX xs<|mxS xs T M,y8,.fz<|plO g s o,y10,y11,y12,y13]=.ok (.nx,[y0,y1,y2,.fz<|dG g,y4,.fz<|.int s,.fz<|.lst<|mxD s xs T M,.fz<|plS s xs<|qX xs<|mxS xs T M,y8,.fz<|plO g s o,m'.1,m'.2.1,m'.2.2.1,m'.2.2.2]):=by
 obtain⟨t11,t12,e⟩:=Q8 E ho ⟨H.T0,H.T1⟩ (y0:=y0) (y1:=y1) (y2:=y2) (y4:=y4) (y6:=.fz<|.lst<|mxD s xs T M) (y7:=.fz<|plS s xs<|qX xs<|mxS xs T M) (y8:=y8) (y13:=y13) M [] y11 y12 (λm hm=>(H.nn m<|by simpa using hm).1) (λm hm=>H.pu m<|by simpa using hm) (by simpa using H.len) (by simp[H.sum]);rw[gv] at e;have k:Ff s T g o M=vG (both s (qX xs<|mxS xs T M) o) g:=N6 (o:=o) E.hs E.G.toGd E.ex E.X H;rw[k] at e;have qo:∀x∈xs,okS 20 (qX xs (mxS xs T M) x.n) x.w.length:=λx hx=>acu E.X hx H;obtain⟨w1,_⟩:=Qa E qo ho;obtain⟨a,b,eab,br⟩:=abP E qo ho;have eb:=TF E.hs (plS s xs<|qX xs<|mxS xs T M)<|plO g s o;have e2:(if s=1 then D.lst [plS s xs<|qX xs<|mxS xs T M,plO g s o] else .lst [plO g s o,plS s xs<|qX xs<|mxS xs T M])=.lst [a,b]:=eab;rw[e2] at eb;rw[eab] at w1;have eL:Dn [y0,y1,y2,.fz<|dG g,y4,.fz<|.int s,.fz<|.lst<|mxD s xs T M,.fz<|plS s xs<|qX xs<|mxS xs T M,y8,.fz<|plO g s o,.fz<|.tup [.int 0,.int 1],y11,y12,y13]=.ok (.nx,[y0,y1,y2,.fz<|dG g,y4,.fz<|.int s,.fz<|.lst<|mxD s xs T M,.fz<|plS s xs<|qX xs<|mxS xs T M,y8,.fz<|plO g s o,.fz<|rD<|vG (both s (qX xs<|mxS xs T M) o) g,t11,t12,y13]):=by
  unfold Dn cz;have it:cg (au 6) [y0,y1,y2,.fz<|dG g,y4,.fz<|.int s,.fz<|.lst<|mxD s xs T M,.fz<|plS s xs<|qX xs<|mxS xs T M,y8,.fz<|plO g s o,.fz<|.tup [.int 0,.int 1],y11,y12,y13]=.ok (mxD s xs T M):=by simp[cg,au]
  rw[it];exact e
 exact⟨(.fz<|rD<|vG (both s (qX xs<|mxS xs T M) o) g,t11,t12,.fz<|.lst [a,b]),ad4 eL eb w1 br rne⟩
open L2 (atI ixN Key)
theorem bA (h:f m=.ok d)(h2:fs m=.ok ds):aa f fs m=.ok (d::ds):=by simp[aa,h,h2]
theorem tR (h:fs m=.ok ds)(h2:Φ ds=.ok (b,d)):fFn Φ fs m=.ok d:=by simp[fFn,h,h2]
theorem vA (h:f m=.ok d):aK i f m=.ok (.nx,m.set i<|.fz d):=by simp[aK,h]
theorem sO (h:f m=.ok (.nx,m')):aA f k m=k m':=by simp[aA,h]
theorem xO (h1:f1 m=.ok a)(h2:f2 m=.ok b)(h:g a b=some d):ak g f1 f2 m=.ok d:=by simp[ak,h1,h2,h]
theorem Z5 (h1:fs m=.ok ds)(h:g ds=some d):aF g fs m=.ok d:=by simp[aF,h1,h]
theorem ael (h:fs m=.ok ds)(hl:ds.length<=100):cP fs m=.ok (.lst ds):=by
 have:ds.length<=16777216:=by lia
 simp[cP,h,this]
theorem acw (hb:0<b)(hB:Bq b):aY (.int a) (.int b)=some (.int<|a%b):=by grind[aY,mdI]
theorem acD (hb:0<b)(hB:Bq b):cV (.int a) (.int b)=some (.int<|a/b):=by grind[cV,dvI]
theorem aax (h1:f1 m=.ok a)(h2:f2 m=.ok b)(h:g a b=some false):gIf (aB g f1 f2) k gNx m=.ok (.nx,m):=by simp[gIf,aB,h1,h2,h,gNx]
theorem Uz (E:Env g s xs){M:Mx}(H:yw xs T M){y0 y1 y2 y4 y8:Sl}:∀(os:List (Str->List Rat)) (y9 y10 y11 y12 y13:Sl),(∀o∈os,Pk.okQ 20 g (3-s) o)->
  ∃m',aL (hName 9) Di (os.map<|plO g s) [y0,y1,y2,.fz<|dG g,y4,.fz<|.int s,.fz<|.lst<|mxD s xs T M,.fz<|plS s xs<|qX xs<|mxS xs T M,y8,y9,y10,y11,y12,y13]=.ok (.nx,m')
 |[],y9,y10,y11,y12,y13,_=>⟨_,rfl⟩
 |o::os,y9,y10,y11,y12,y13,h=>by
  obtain⟨t,e⟩:=age E H (o:=o) (h o af) (y0:=y0) (y1:=y1) (y2:=y2) (y4:=y4) (y8:=y8) (y10:=y10) (y11:=y11) (y12:=y12) (y13:=y13);obtain⟨m',e2⟩:=Uz E H (y0:=y0) (y1:=y1) (y2:=y2) (y4:=y4) (y8:=y8) os (.fz<|plO g s o) t.1 t.2.1 t.2.2.1 t.2.2.2 λz hz=>h z<|ae _ hz;exact⟨m',(by rw[ah];exact(aW rfl e).trans e2)⟩
theorem agj {Fn Fu Fe:Zac}{y0 y1 y2 y3 y6 y7 y9 y10 y11 y12 y13:Sl}{R a b c:D}{s cell:Int}(hs:s=1\/s=2)(e1:Fn [R,.int<|3-s,.int cell]=.ok (true,a))(e2:Fu [R,.int<|3-s,.int cell]=.ok (true,b))(e3:Fe [R,.int<|3-s]=.ok (true,c)):
  cg (cP<|aa (fFn Fn<|aa (au 4)<|aa (ak F.cO (fC<|.int 3)<|aj 5)<|aa (au 8) ao)<|aa (fFn Fu<|aa (au 4)<|aa (ak F.cO (fC<|.int 3)<|aj 5)<|aa (au 8) ao)<|aa (fFn Fe<|aa (au 4)<|aa (ak F.cO (fC<|.int 3)<|aj 5) ao) ao) [y0,y1,y2,y3,.fz R,.fz<|.int s,y6,y7,.fz<|.int cell,y9,y10,y11,y12,y13]=.ok [a,b,c]:=by
 have gs:F.cO (.int 3) (.int s)=some (.int<|3-s):=by simp[F.cO]
 simp[cg,cP,aa,ao,fFn,au,ak,fC,aj,gs,e1,e2,e3]
theorem aex (e:g [.fz ns,.un,.un,.un,.un,.un,.un,.un,.un,.un,.un,.un,.un,.un]=.ok (.rt false d,m')):aH 14 1 g [ns]=.ok (false,d):=by
 simp[aH,e]
theorem aan (h0:Fc [ns,.int 0]=.ok (false,.int c0))(h1:Fc [ns,.int 1]=.ok (false,.int c1))(h2:Fc [ns,.int 2]=.ok (false,.int c2))(h3:Fc [ns,.int 3]=.ok (false,.int c3))(h4:Fc [ns,.int 4]=.ok (false,.int c4))(h5:Fc [ns,.int 5]=.ok (false,.int c5))
  (hp:Fp [.int c0,.int c1]=.ok (true,pl)) (e1:fSl (aj 0) (fO1<|fC<|.int 8) (fO1<|fC<|.int 44) [.fz ns,.fz pl,.fz<|.int c2,.un,.un,.un,.un,.un,.un,.un,.un,.un,.un,.un]=.ok (.lst s1)) (ga:bc (.lst s1) (.lst [.int c3])=some (.lst<|s1++[.int c3])) (eg:Fg [.lst<|s1++[.int c3],.int c2,.int 5,.int 33,pl]=.ok (false,G))
  (et:Ft [G]=.ok (true,.lst R)) (es:bc (.int 1) (.int<|c2/128%2)=some (.int s)) (ek:bc (.int 1) (.int<|c2/256%6)=some (.int k)) (ex:Fx [.lst R,.int s,.int c4,.int k]=.ok (true,.lst M)) (em:Fm [G,.int s,.lst M]=.ok (false,P)) (eo:Fo [.lst M]=.ok (true,.lst N)) (em2:Fm [G,.int s,.lst N]=.ok (false,P)) (en:Xk P P=some false)
  (eL:L [.fz ns,.fz pl,.fz<|.int c2,.fz G,.fz<|.lst R,.fz<|.int s,.fz<|.lst M,.fz P,.fz<|.int c5,.un,.un,.un,.un,.un]=.ok (.nx,m')):∃m'',RP Fm Fc Fp Fg Ft Fx Fo L [.fz ns,.un,.un,.un,.un,.un,.un,.un,.un,.un,.un,.un,.un,.un]=.ok (.rt false<|.bl true,m''):=by
 have b2:Bq 2:=bgS (by decide);have b6:Bq 6:=bgS (by decide);have b128:Bq 128:=bgS (by decide);have b256:Bq 256:=bgS (by decide);refine⟨m'.let,?_⟩;unfold RP;refine(sO<|vA<|tR (bA (tR (bA (d:=ns) rfl<|bA (d:=.int 0) rfl rfl) h0)<|bA (tR (bA (d:=ns) rfl<|bA (d:=.int 1) rfl rfl) h1) rfl) hp).trans ?_;refine(sO<|vA<|tR (bA (d:=ns) rfl<|bA (d:=.int 2) rfl rfl) h2).trans ?_;refine(sO<|vA<|tR (bA (xO e1 (ael (ds:=[.int c3]) (bA (tR (bA (d:=ns) rfl<|bA (d:=.int 3) rfl rfl) h3) rfl)<|show(1:Nat)<=100 by decide) ga) (bA (d:=.int c2) rfl<|bA (d:=.int 5) rfl<|bA (d:=.int 33) rfl<|bA (d:=pl) rfl rfl)) eg).trans ?_;refine(sO<|vA<|tR (bA (d:=G) rfl rfl) et).trans ?_;refine(sO<|vA<|xO (a:=.int 1) rfl (xO (xO (a:=.int c2) (b:=.int 128) rfl rfl<|acD (by decide) b128) (b:=.int 2) rfl<|acw (by decide) b2) es).trans ?_;refine(sO<|vA<|tR (bA (d:=.lst R) rfl<|bA (d:=.int s) rfl<|bA (tR (bA (d:=ns) rfl<|bA (d:=.int 4) rfl rfl) h4)<|bA (xO (a:=.int 1) rfl (xO (xO (a:=.int c2) (b:=.int 256) rfl rfl<|acD (by decide) b256) (b:=.int 6) rfl<|acw (by decide) b6) ek) rfl) ex).trans ?_;refine(sO<|vA<|tR (bA (d:=G) rfl<|bA (d:=.int s) rfl<|bA (Z5 (ds:=[.lst M]) (d:=.lst M) (bA (d:=.lst M) rfl rfl) rfl) rfl) em).trans ?_;refine(sO<|aax (tR (bA (d:=G) rfl<|bA (d:=.int s) rfl<|bA (tR (bA (d:=.lst M) rfl rfl) eo) rfl) em2) (b:=P) rfl en).trans ?_;refine(sO<|vA<|tR (bA (d:=ns) rfl<|bA (d:=.int 5) rfl rfl) h5).trans ?_;refine(sO eL).trans ?_;simp[aU,fC]
theorem Lr:∀(l:List Tr3) (T:Tb),(l.foldl tst T).2.length<=T.2.length+l.length
 |[],T=>by simp
 |p::l,T=>by
  have h:=Lr l<|tst T p
  have:(tst T p).2.length<=T.2.length+1:=by
   unfold tst;split
   ·split<;>simp
   ·lia
  simp only[sx,cw]
  lia
theorem adS (h:Row e N s n d):1<=wdD d/\wdD d<=3:=by
 obtain⟨rc,c,b,k,_,_,_,_,_,hc,_,rfl⟩:=h;show 1<=((bp c).map _).length/\((bp c).map _).length<=3;simpa using hc
theorem Wz:∀ns:List Int,ns.length<=63->∃fr,acF [.lst<|ns.map D.int]=.ok (fr,.bl true):=by
 intro ns hn;obtain⟨c0,h0⟩:=cell_eq ns 0 (by lia);obtain⟨c1,h1⟩:=cell_eq ns 1 (by lia);obtain⟨c2,h2⟩:=cell_eq ns 2 (by lia);obtain⟨c3,h3⟩:=cell_eq ns 3 (by lia);obtain⟨c4,h4⟩:=cell_eq ns 4 (by lia);obtain⟨c5,h5⟩:=cell_eq ns 5 (by lia);obtain⟨p,ep,P⟩:=aaN c0 c1;have cl:(cut ns (some 8)<|some 44).length<=63:=by unfold cut;simp only[lP,nI];lia
 have E:pO ⟨cut ns (some 8) (some 44)++[c3],p,c2%64,decide<|c2/64%2=1⟩:=⟨by simp,by simp;lia,P.p8,by show 0<=c2%64/\c2%64<64;lia,P.ok⟩;refine sW (aak E (turn:=c2) (rm:=33) (dep:=5) (by decide) (by decide) rfl rfl) λg N m eg I hsz Gr=>?_;rw[show cD ⟨cut ns (some 8) (some 44)++[c3],p,c2%64,decide<|c2/64%2=1⟩=.lst ((cut ns (some 8)<|some 44).map D.int++[.int c3]) by simp[cD]] at eg;have hsz:szG g<=34:=hsz;have Gg:Gv g:=afF E P.nd I (by decide) Gr (by lia);have tb:=V8 Gg.len Gg.sd (by have:=Gg.dep;lia) (by lia);have TB:Zt (tbl<|prG [] ([],[]) g).2:=⟨by
  have:=Lr (prG [] ([],[]) g) ([],[])
  rw[KH] at this;show((prG [] ([],[]) g).foldl tst ([],[])).2.length<=100;simp only[oD] at this
  lia,λd hd=>by
  obtain⟨s,n,_,hR⟩:=Dz Gr hd;exact⟨zF hd,adS hR⟩,λs=>U0 s⟩
 obtain⟨s,hs,es⟩:∃s:Int,(s=1\/s=2)/\s=1+c2/128%2:=⟨1+c2/128%2,by lia,rfl⟩;obtain⟨k,hk,ek⟩:∃k:Nat,(1<=k/\k<=6)/\(k:Int)=1+c2/256%6:=⟨(1+c2/256%6).toNat,by lia,by lia⟩;obtain⟨xs,ex,X⟩:=abQ E P.nd I (by decide) Gr (by lia) hs;have EE:Env g s xs:=⟨hs,Gg,ex,X,by lia⟩;obtain⟨T,M,em,H⟩:=adT (s:=s) (cell:=c4) hk ex TB;obtain⟨M2,e2,H2,hm⟩:=afX (s:=s) X H;have mx:=Mq Gg.toGd ex X H;have mx2:=Mq Gg.toGd ex X H2;have eqq:plS s xs (qX xs<|mxS xs T M2)=plS s xs (qX xs<|mxS xs T M):=Ia λd hd=>by
  obtain⟨x,hx,rfl⟩:=aw.mp hd;show qX xs (mxS xs T M2) x.n=qX xs (mxS xs T M) x.n;have hg:gvn xs (mxS xs T M2) x.n=gvn xs (mxS xs T M) x.n:=by
   unfold gvn;rw[mX X.nd hx];exact eS λw hw=>hm _<|fR.mpr ⟨x,hx,aw.mpr ⟨w,hw,rfl⟩⟩
  unfold qX;rw[hg]
 rw[eqq] at mx2;have h3s:3-s=1\/3-s=2:=by lia
 obtain⟨o1,p1,k1⟩:=Z1 (s:=3-s) (cell:=c5) (by have:=TB.len;lia) TB.row<|TB.nd<|3-s;obtain⟨o2,p2,k2⟩:=S9 (3-s) c5 TB;obtain⟨o3,p3,k3⟩:=aaS (3-s) TB;obtain⟨m',l4⟩:=Uz EE H (y0:=.fz<|.lst<|ns.map D.int) (y1:=.fz<|.lst<|p.map D.str) (y2:=.fz<|.int c2) (y4:=.fz<|.lst (tbl<|prG [] ([],[]) g).2) (y8:=.fz<|.int c5) [o1,o2,o3] .un .un .un .un .un (λo ho=>by
  simp at ho;rcases ho with rfl|rfl|rfl
  ·exact λd hd=>(k1 d hd).1
  ·exact λd hd=>by
    obtain⟨j,j1,j2⟩:=k2 d hd;rw[j2];exact Qx (TB.row d (fq.mp hd).1).2.2 j1
  ·exact k3)
 have eL:yC [.fz<|.lst<|ns.map D.int,.fz<|.lst<|p.map D.str,.fz<|.int c2,.fz<|dG g,.fz<|.lst (tbl<|prG [] ([],[]) g).2,.fz<|.int s,.fz<|.lst<|mxD s xs T M,.fz<|plS s xs<|qX xs<|mxS xs T M,.fz<|.int c5,.un,.un,.un,.un,.un]=.ok (.nx,m'):=by
  unfold yC cz;rw[agj hs p1 p2 p3];exact l4
 have ga:bc (.lst<|(cut ns (some 8)<|some 44).map D.int) (.lst [.int c3])=some (.lst<|(cut ns (some 8)<|some 44).map D.int++[.int c3]):=by
  have:(cut ns (some 8)<|some 44).length+1<=16777216:=by lia
  simp[bc,this]
 have gs:bc (.int 1) (.int<|c2/128%2)=some (.int s):=by rw[es];simp[bc]
 have gk:bc (.int 1) (.int<|c2/256%6)=some (.int (k:Int)):=by rw[ek];simp[bc]
 have ne:Xk (plS s xs<|qX xs<|mxS xs T M) (plS s xs<|qX xs<|mxS xs T M)=some false:=by unfold Xk;rw[Wj];simp
 obtain⟨m'',e⟩:=aan (Fm:=Dp) (Fc:=gJ) (Fp:=qR) (Fg:=qO) (Ft:=lD) (Fx:=nF) (Fo:=gj) (L:=yC) h0 h1 h2 h3 h4 h5 ep (s1:=(cut ns (some 8)<|some 44).map D.int) (by
  show Res.ok (D.lst<|cut (ns.map D.int) (some 8)<|some 44)=_;unfold cut;simp[List.map_take,List.map_drop]) ga eg tb gs gk em mx e2 mx2 ne eL
 exact⟨false,aex e⟩
local macro_rules | `(tactic| trivial)=>`(tactic| first|exact⟨rfl,rfl,rfl,by decide +kernel,rfl,by decide +kernel,by decide +kernel⟩|exact⟨rfl,by decide +kernel,by decide +kernel,by decide +kernel,by decide +kernel⟩)
noncomputable def top (i:Nat):Stmt:=PySem.Challenge.pw_hushduel_k23_whole_mixes_bring_the_same.main.body.getD i<|.Pass ⟨0,0,0,0⟩
theorem aeE:dQ "abs" = some (.builtin "abs"):=by decide +kernel
theorem Eo:dQ "all" = some (.builtin "all"):=by decide +kernel
theorem ZS:dQ "bool" = some (.type "bool"):=by decide +kernel
theorem abB:dQ "dict" = some (.type "dict"):=by decide +kernel
theorem Zr:dQ "int" = some (.type "int"):=by decide +kernel
theorem fO:dQ "isinstance" = some (.builtin "isinstance"):=by decide +kernel
theorem Xn:dQ "len" = some (.builtin "len"):=by decide +kernel
theorem pH:dQ "list" = some (.type "list"):=by decide +kernel
theorem aeM:dQ "sum" = some (.builtin "sum"):=by decide +kernel
theorem ik:dQ "tuple" = some (.type "tuple"):=by decide +kernel
abbrev Ea:Stmt:=top 7
abbrev sU:Stmt:=top 8
abbrev Nh:Stmt:=top 9
abbrev G9:Stmt:=top 10
abbrev Yq:Stmt:=top 11
abbrev Ut:Stmt:=top 12
abbrev YG:Stmt:=top 13
abbrev T6:Stmt:=top 14
abbrev Uv:Stmt:=top 15
abbrev HB:Stmt:=top 17
abbrev sI:Stmt:=top 18
abbrev vz:Stmt:=top 19
abbrev ym:Stmt:=top 21
abbrev tU:Stmt:=top 22
abbrev mW:Stmt:=top 23
abbrev Mh:Stmt:=top 24
abbrev DX:Stmt:=top 25
abbrev z6:Stmt:=top 26
abbrev mF:Stmt:=top 28
abbrev sS:Stmt:=top 29
abbrev Hs:Stmt:=top 30
abbrev sX:Stmt:=top 31
abbrev sV:Stmt:=top 32
abbrev wV:Stmt:=top 33
abbrev rF:Stmt:=top 34
abbrev iT:Stmt:=top 35
abbrev mH:Stmt:=top 36
abbrev Gh:Stmt:=top 37
abbrev La:Stmt:=top 38
abbrev kI:Stmt:=top 40
abbrev lU:Stmt:=top 41
abbrev uW:Stmt:=top 42
abbrev Uc:Stmt:=top 43
abbrev v8:Stmt:=top 45
abbrev xf:Stmt:=top 46
abbrev qC:Stmt:=top 47
abbrev zA:Stmt:=top 48
abbrev rY:Stmt:=top 49
abbrev EY:Stmt:=top 50
abbrev pZ:Stmt:=top 51
abbrev BW:Stmt:=top 52
abbrev yJ:Stmt:=top 53
abbrev Ce:Stmt:=top 54
abbrev rN:Stmt:=top 55
abbrev uw:Stmt:=top 56
abbrev BX:Stmt:=top 57
abbrev yW:Stmt:=top 58
abbrev uz:Stmt:=top 59
abbrev By:Stmt:=top 60
abbrev v9:Stmt:=top 61
abbrev uC:Stmt:=top 62
abbrev xr:Stmt:=top 63
abbrev vL:Stmt:=top 64
abbrev Bp:Stmt:=top 65
abbrev pB:Stmt:=top 66
abbrev Iu:Stmt:=top 67
structure Qs (K:bq):Prop where
 q0:QD K "is_whole" Ea
 q1:QD K "common_divisor" sU
 q2:QD K "lowest" Nh
 q3:QD K "is_ratio" G9
 q4:QD K "plus" Yq
 q5:QD K "times" Ut
 q6:QD K "over" YG
 q7:QD K "under" T6
 q8:QD K "total" Uv
 q9:QD K "is_pair" HB
 q10:QD K "branches_of" sI
 q11:QD K "places_of" vz
 q12:QD K "words_at" ym
 q13:QD K "records_behind" tU
 q14:QD K "places_with_records" mW
 q15:QD K "row_at" Mh
 q16:QD K "table_of" DX
 q17:QD K "rows_of" z6
 q18:QD K "are_full_shares" mF
 q19:QD K "is_plan_for" sS
 q20:QD K "is_plan" Hs
 q21:QD K "refuse_no_plan" sX
 q22:QD K "shares_by_pair" sV
 q23:QD K "weights_for" wV
 q24:QD K "pure_shares" rF
 q25:QD K "plan_of_weights" iT
 q26:QD K "shared_branches" mH
 q27:QD K "comes_of" Gh
 q28:QD K "brings" La
 q29:QD K "is_pure_plan_for" kI
 q30:QD K "is_mix_for" lU
 q31:QD K "mixed_weights" uW
 q32:QD K "mixed" Uc
 q33:QD K "_law_cell_at" v8
 q34:QD K "_law_lowest" xf
 q35:QD K "_law_pool" qC
 q36:QD K "_law_stake" zA
 q37:QD K "_law_shares" rY
 q38:QD K "_law_mix" EY
 q39:QD K "_law_name_number" pZ
 q40:QD K "_law_move" BW
 q41:QD K "_law_built" yJ
 q42:QD K "_law_game" Ce
 q43:QD K "_law_places" rN
 q44:QD K "_law_table" uw
 q45:QD K "_law_plus" BX
 q46:QD K "_law_times" yW
 q47:QD K "_law_parts" uz
 q48:QD K "_law_plan" By
 q49:QD K "_law_pure" v9
 q50:QD K "_law_worth" uC
 q51:QD K "_law_mix_of" xr
 q52:QD K "_law_even" vL
 q53:QD K "_law_both" Bp
 q54:QD K "_law_put_together" pB
 q55:QD K "law" Iu
 n0:NO K "ValueError"
 n1:NO K "abs"
 n2:NO K "all"
 n3:NO K "bool"
 n4:NO K "dict"
 n5:NO K "enumerate"
 n6:NO K "int"
 n7:NO K "isinstance"
 n8:NO K "len"
 n9:NO K "list"
 n10:NO K "range"
 n11:NO K "reversed"
 n12:NO K "sum"
 n13:NO K "tuple"
 n14:NO K "zip"
 c0:Ck K "NOUGHT" 0 1
 c1:Ck K "ONE" 1 1
structure Bt (P:cS)(w:gu)(K:bq)(mg:Zp)(base:Heap):Prop where
 c:Cb K mg base
 q:Qs K
theorem Pb:aG ["thing"] ["thing"] (az Ea):=by trivial
theorem zP:aG ["first", "second", "great", "small", "rest"] ["first", "second"] (az sU):=by trivial
theorem Wm:aG ["top", "bottom", "divisor"] ["top", "bottom"] (az Nh):=by trivial
theorem FZ:aG ["thing"] ["thing"] (az G9):=by trivial
theorem ac8:aG ["first", "second"] ["first", "second"] (az Yq):=by trivial
theorem abt:aG ["first", "second"] ["first", "second"] (az Ut):=by trivial
theorem Za:aG ["first", "second"] ["first", "second"] (az YG):=by trivial
theorem aa9:aG ["first", "second"] ["first", "second"] (az T6):=by trivial
theorem aaj:aG ["some", "result", "each"] ["some"] (az Uv):=by trivial
theorem Im:aG ["thing"] ["thing"] (az HB):=by trivial
theorem wQ:aG ["game"] ["game"] (az sI):=by trivial
theorem qp:aG ["game", "places", "waiting", "place", "behind"] ["game"] (az vz):=by trivial
theorem Du:aG ["move"] ["move"] (az ym):=by trivial
theorem zV:aG ["place", "records", "number", "pair"] ["place", "records", "number"] (az tU):=by trivial
theorem bU:aG ["game", "known", "found", "way", "place", "number"] ["game"] (az mW):=by trivial
theorem Yt:aG ["move", "records"] ["move", "records"] (az Mh):=by trivial
theorem xG:aG ["game", "rows", "way", "place", "records"] ["game"] (az DX):=by trivial
theorem Iw:aG ["game", "side"] ["game", "side"] (az z6):=by trivial
theorem qG:aG ["thing", "count"] ["thing", "count"] (az mF):=by trivial
theorem xq:aG ["rows", "thing"] ["rows", "thing"] (az sS):=by trivial
theorem Vl:aG ["game", "side", "thing"] ["game", "side", "thing"] (az Hs):=by trivial
theorem tQ:aG ["game", "side", "thing"] ["game", "side", "thing"] (az sX):=by trivial
theorem jk:aG ["rows", "plan", "shares", "row", "word", "share"] ["rows", "plan"] (az sV):=by trivial
theorem jE:aG ["rows", "plan", "shares", "weights", "row", "before", "pair", "word"] ["rows", "plan"] (az wV):=by trivial
theorem xm:aG ["taken", "count"] ["taken", "count"] (az rF):=by trivial
theorem fj:aG ["rows", "weights", "plan", "row", "given", "whole"] ["rows", "weights"] (az iT):=by trivial
theorem qF:aG ["place", "plans", "shares"] ["place", "plans"] (az mH):=by trivial
theorem Qf:aG ["place", "plans", "result", "share", "branch"] ["place", "plans"] (az Gh):=by trivial
theorem Oh:aG ["game", "one", "two"] ["game", "one", "two"] (az La):=by trivial
theorem qg:aG ["rows", "thing"] ["rows", "thing"] (az kI):=by trivial
theorem yV:aG ["rows", "thing"] ["rows", "thing"] (az lU):=by trivial
theorem o6:aG ["rows", "mix", "weights", "weight", "plan", "pair", "share"] ["rows", "mix"] (az uW):=by trivial
theorem RL:aG ["game", "side", "mix", "rows"] ["game", "side", "mix"] (az Uc):=by trivial
theorem Gn:aG ["_law_script", "_law_k"] ["_law_script", "_law_k"] (az v8):=by trivial
theorem sJ:aG ["_law_top", "_law_bottom", "_law_one", "_law_other"] ["_law_top", "_law_bottom"] (az xf):=by trivial
theorem oO:aG ["_law_cell", "_law_turn", "_law_signs", "_law_size", "_law_places_here", "_law_k", "_law_word", "_law_at", "_law_found", "_law_sign"] ["_law_cell", "_law_turn"] (az qC):=by trivial
theorem Ju:aG ["_law_number"] ["_law_number"] (az zA):=by trivial
theorem wO:aG ["_law_number", "_law_many", "_law_parts_here", "_law_k"] ["_law_number", "_law_many"] (az rY):=by trivial
theorem Qu:aG ["_law_cell", "_law_k"] ["_law_cell", "_law_k"] (az EY):=by trivial
theorem qe:aG ["_law_state", "_law_side", "_law_record", "_law_many", "_law_bit", "_law_key", "%1", "%2"] ["_law_state", "_law_side", "_law_record", "_law_many", "_law_bit"] (az pZ):=by trivial
theorem oN:aG ["_law_cells", "_law_state", "_law_depth", "_law_records", "_law_draw", "_law_side", "_law_many", "_law_number", "_law_pool_here", "_law_seen", "_law_ways", "_law_k", "_law_word", "_law_others", "%1", "%2"] ["_law_cells", "_law_state", "_law_depth", "_law_records", "_law_draw"] (az BW):=by trivial
theorem uv:aG ["_law_cells", "_law_state", "_law_depth", "_law_records", "_law_at", "_law_own", "_law_draw", "_law_many", "_law_ways", "_law_share", "%1", "%2"] ["_law_cells", "_law_state", "_law_depth", "_law_records"] (az yJ):=by trivial
theorem wj:aG ["_law_cells", "_law_turn", "_law_depth", "_law_room", "_law_pool_here", "_law_state", "%1", "%2"] ["_law_cells", "_law_turn", "_law_depth", "_law_room", "_law_pool_here"] (az Ce):=by trivial
theorem jy:aG ["_law_game_here", "_law_found", "_law_waiting", "_law_way", "_law_place", "_law_records", "_law_parts_here", "_law_word", "_law_part", "_law_others", "_law_k"] ["_law_game_here"] (az rN):=by trivial
theorem pI:aG ["_law_game_here", "_law_rows", "_law_known", "_law_way", "_law_place", "_law_records", "_law_words"] ["_law_game_here"] (az uw):=by trivial
theorem Mz:aG ["_law_one", "_law_other"] ["_law_one", "_law_other"] (az BX):=by trivial
theorem Jm:aG ["_law_one", "_law_other"] ["_law_one", "_law_other"] (az yW):=by trivial
theorem yE:aG ["_law_number", "_law_many", "_law_parts_here", "_law_k"] ["_law_number", "_law_many"] (az uz):=by trivial
theorem qW:aG ["_law_rows", "_law_side", "_law_cell", "_law_plan_here", "_law_k"] ["_law_rows", "_law_side", "_law_cell"] (az By):=by trivial
theorem rB:aG ["_law_rows", "_law_side", "_law_cell", "_law_plan_here", "_law_k", "_law_many", "_law_at"] ["_law_rows", "_law_side", "_law_cell"] (az v9):=by trivial
theorem uq:aG ["_law_place", "_law_plans", "_law_found", "_law_ways", "_law_shares_here", "_law_share", "_law_part"] ["_law_place", "_law_plans"] (az uC):=by trivial
theorem Hm:aG ["_law_rows", "_law_side", "_law_cell", "_law_many", "_law_found", "_law_weights", "_law_k"] ["_law_rows", "_law_side", "_law_cell", "_law_many"] (az xr):=by trivial
theorem rn:aG ["_law_rows", "_law_side", "_law_plan_here", "_law_row"] ["_law_rows", "_law_side"] (az vL):=by trivial
theorem Nv:aG ["_law_side", "_law_mine", "_law_yours"] ["_law_side", "_law_mine", "_law_yours"] (az Bp):=by trivial
theorem pq:aG ["_law_mix_here", "_law_found", "_law_weight", "_law_pure_here"] ["_law_mix_here"] (az pB):=by trivial
theorem NZ:aG ["_law_script", "_law_pool_here", "_law_turn", "_law_game_here", "_law_rows", "_law_side", "_law_mix_here", "_law_plan_here", "_law_cell", "_law_other", "_law_due", "_law_weight", "_law_pure_here", "_law_both_here"] ["_law_script"] (az Iu):=by trivial
section
variable {P:cS}{w:gu}{K:bq}{mg:Zp}{base:Heap}(B:Bt P w K mg base)
include B
local macro_rules | `(tactic| trivial)=>`(tactic| first|((with_reducible show FE _ _ _ (fC (.int _)));exact uo)|((with_reducible show FB _ _ _ (aj _));exact bH _)|((with_reducible show FB _ _ _ _);exact dI (by trivial))|((with_reducible show FAE _ _ _ (aa _ _));exact bY (by trivial) (by trivial))|((with_reducible show FAE _ _ _ ao);exact iW)|((with_reducible show FE _ _ _ (au _));exact bN _)|((with_reducible show FE _ _ _ (ak gIx _ _));exact Oj (by trivial) (by trivial))|((with_reducible show FE _ _ _ (ak bc _ _));exact pY wB (by trivial) (by trivial))|((with_reducible show FE _ _ _ (ak cV _ _));exact pY ZD (by trivial) (by trivial))|((with_reducible show FE _ _ _ (ak aY _ _));exact pY aaQ (by trivial) (by trivial))|((with_reducible show FE _ _ _ (ak dO _ _));exact pY ab6 (by trivial) (by trivial))|((with_reducible show FE _ _ _ (ak F.cO _ _));exact pY aaa (by trivial) (by trivial))|((with_reducible show FSs _ _ _ (aA _ _));exact aq (by trivial) (by trivial))|((with_reducible show FSs _ _ _ gNx);exact bT)|((with_reducible show FSs _ _ _ _);exact aD (by trivial))|((with_reducible show FE _ _ _ (fFn _ _));first|exact vY (by assumption) (by assumption) (by first|exact fB|exact acA) (by trivial)|exact vY (by assumption) (by assumption) (by first|exact fB|exact acA) (by trivial) (hk:=by omega))|((with_reducible show FS _ _ _ (aK _ _));exact HD (by first|assumption|exact nds rfl) (by trivial))|((with_reducible show FS _ _ _ (aU _));exact dR (by trivial))|((with_reducible show FS _ _ _ (gIf _ _ _));exact eU (by trivial) (by trivial) (by trivial))|((with_reducible show FS _ _ _ (cz _ _ _));exact je (by trivial) (by trivial) (by trivial))|((with_reducible show FS _ _ _ (cC _ _));exact uV (by first|assumption|exact nds rfl) (by trivial))|((with_reducible show FS _ _ _ (dY _));exact iY _)|((with_reducible show FS _ _ _ (jc _));exact qL (by trivial))|((with_reducible show FS _ _ _ (bD _ _));exact Bh _ (by trivial))|((with_reducible show FS _ _ _ (oX _ _));exact zz PassesOwn.leaving (by trivial) (by trivial))|((with_reducible show FT _ _ _ (aB gEq _ _));exact rZ (Pz (eE.units (by assumption))) (by trivial) (by trivial) (lY _))|((with_reducible show FE _ _ _ (oZ gEq _ _));exact wk (Pz (eE.units (by assumption))) (by trivial) (by trivial) (lY _))|((with_reducible show FT _ _ _ (aB gGe _ _));exact rZ Ye (by trivial) (by trivial) (lY _))|((with_reducible show FE _ _ _ (oZ gGe _ _));exact wk Ye (by trivial) (by trivial) (lY _))|((with_reducible show FT _ _ _ (aB gGt _ _));exact rZ Wt (by trivial) (by trivial) (lY _))|((with_reducible show FE _ _ _ (oZ gGt _ _));exact wk Wt (by trivial) (by trivial) (lY _))|((with_reducible show FT _ _ _ (aB gLt _ _));exact rZ (Xj (eE.units (by assumption))) (by trivial) (by trivial) (lY _))|((with_reducible show FE _ _ _ (oZ gLt _ _));exact wk (Xj (eE.units (by assumption))) (by trivial) (by trivial) (lY _))|((with_reducible show FT _ _ _ (aB gNe _ _));exact rZ (WM (eE.units (by assumption))) (by trivial) (by trivial) (lY _))|((with_reducible show FE _ _ _ (oZ gNe _ _));exact wk (WM (eE.units (by assumption))) (by trivial) (by trivial) (lY _))|((with_reducible show FT _ _ _ (lM _));exact vV (by trivial))|((with_reducible show FT _ _ _ (fTv _));exact vo (by trivial))|((with_reducible show FE _ _ _ (aF Je _));exact mj (VF rfl) rfl (B.1.no B.2.n12) aeM (by trivial))|((with_reducible show FE _ _ _ (aF Oo _));exact mj VG rfl (B.1.no B.2.n1) aeE (by trivial))|((with_reducible show FE _ _ _ (aF cu _));exact mj IK rfl (B.1.no B.2.n8) Xn (by trivial))|((with_reducible show FE _ _ _ (aF VR _));exact iD VM rfl (B.1.no B.2.n6) Zr (by trivial))|((with_reducible show FE _ _ _ (aF cH _));exact iD fH rfl (B.1.no B.2.n13) ik (by trivial))|((with_reducible show FAB _ _ _ (aa _ _));exact cZ (by trivial) (by trivial))|((with_reducible show FAB _ _ _ ao);exact eY)|((with_reducible show FE _ _ _ (aN _));exact xK (by trivial))|((with_reducible show FE _ _ _ (fC (.str _)));exact mY)|((with_reducible show FE _ _ _ (fC (.bl _)));exact uT)|((with_reducible show FE _ _ _ (cP _));exact iM (by trivial))|((with_reducible show FN _ _ _ (cP _));exact WD (by trivial))|((with_reducible show FN _ _ _ wW);exact yK)|((with_reducible show FN _ _ _ tM);exact ud)|((with_reducible show FE _ _ _ (fUn qj _));exact agm aa8 (by trivial))|((with_reducible show FE _ _ _ (ak bu _ _));exact aai (by assumption) (by trivial) (by trivial) (λ_ _=>rfl))|((with_reducible show FE _ _ _ (ak pF _ _));exact CQ (by assumption) (by trivial) (by trivial) (λ_ _=>rfl))|((with_reducible show FE _ _ _ (fC (.tup _)));first|exact B.1.cn B.2.c0|exact B.1.cn B.2.c1)|((with_reducible show FG _ _ _ (hName _));exact dX (by first|assumption|exact nds rfl))|((with_reducible show FG _ _ _ (du _ _));exact Yg rfl (by trivial))|((with_reducible show FGs _ _ _ (aJ _ _));exact Et (by trivial) (by trivial))|((with_reducible show FGs _ _ _ dw);exact Us)|((with_reducible show FI _ _ _ _ (cg _));exact qJ (by trivial))|((with_reducible show FI _ _ _ _ (oU _));exact adB (by trivial))|((with_reducible show FI _ _ _ _ (jo _));exact HY rfl (B.1.no B.2.n10) (by trivial))|((with_reducible show FIw _ _ _ _ (cg _));exact jH (by trivial))|((with_reducible show FIw _ _ _ _ _);exact Qd (by trivial))|((with_reducible show Vy _ _ _ cQ);exact bO))
theorem N8:FF P w K mg base 1 "is_whole" ["thing"] xJ:=B.2.q0.ff B.1 λ_ _ Fu=>
 aZ Fu Pb λ_ _ _ _ _ _ hr=>by
 unfold GZ Ec;exact(aD<|dR<|Aq (yc (x:="") (bH 0) rfl (B.1.no B.2.n7) fO rfl (B.1.no B.2.n6) Zr)<|Be<|Y9<|yc (x:="") (bH 0) rfl (B.1.no B.2.n7) fO rfl (B.1.no B.2.n3) ZS)
theorem qw:FF P w K mg base 1 "common_divisor" ["first", "second"] gH:=B.2.q1.go B.1 zP λ_ _ _ _ _ _ _ _ _=>by
 unfold nq m5 kJ gR gQ;trivial
theorem Af:FF P w K mg base 2 "lowest" ["top", "bottom"] oM:=B.2.q2.go B.1 Wm λ_ _ _ _ _ _ _ _ _=>by
 have:=qw B
 unfold yu zG;trivial
theorem M9:FF P w K mg base 2 "is_ratio" ["thing"] uI:=B.2.q3.ff B.1 λ_ _ Fu=>
 aZ Fu FZ λ_ _ _ _ _ _ hr=>by
 have:=qw B
 have:=N8 B
 have:=FZ.nd
 unfold xX yr;exact(aq (eU (Hf<|BL (vV<|vo<|yc (x:="") (bH 0) rfl (B.1.no B.2.n7) fO rfl (B.1.no B.2.n13) ik)<|yo<|by trivial) (aD<|dR uT) bT)<|aq (eU (Hf<|BL (by trivial)<|yo<|by trivial) (aD<|dR uT) bT)<|aD<|dR<|Aq (by trivial)<|Be<|by trivial)
theorem K1:FF P w K mg base 3 "plus" ["first", "second"] vK:=B.2.q4.go B.1 ac8 λ_ _ _ _ _ _ _ _ _=>by
 have:=Af B
 unfold KC JP;trivial
theorem GF:FF P w K mg base 3 "times" ["first", "second"] um:=B.2.q5.go B.1 abt λ_ _ _ _ _ _ _ _ _=>by
 have:=Af B
 unfold Jd Jc;trivial
theorem abV:FF P w K mg base 3 "over" ["first", "second"] Jf:=B.2.q6.ff B.1 λ_ _ Fu=>
 aZ Fu Za λ_ _ _ _ _ _ hr=>by
 have:=Af B
 have:=Za.nd
 unfold Ov Qv;exact(aq (eU (by trivial) (aD DK) bT)<|by trivial)
theorem Xr:FF P w K mg base 1 "under" ["first", "second"] CV:=B.2.q7.go B.1 aa9 λ_ _ _ _ _ _ _ _ _=>by
 unfold JK Jt;trivial
theorem Ly:FF P w K mg base 4 "total" ["some"] zx:=B.2.q8.go B.1 aaj λ_ _ _ _ _ _ _ _ _=>by
 have:=K1 B
 unfold JR JW An wA;trivial
theorem Oz:FF P w K mg base 1 "is_pair" ["thing"] Bb:=B.2.q9.ff B.1 λ_ _ Fu=>
 aZ Fu Im λ_ _ _ _ _ _ hr=>by
 have:=Im.nd
 unfold HJ HQ;exact(aD<|dR<|Aq (yc (x:="") (bH 0) rfl (B.1.no B.2.n7) fO rfl (B.1.no B.2.n13) ik)<|Be<|by trivial)
theorem vg:FF P w K mg base 1 "branches_of" ["game"] jz:=B.2.q10.ff B.1 λ_ _ Fu=>
 aZ Fu wQ λ_ _ _ _ _ _ hr=>by
 have:=wQ.nd
 unfold xj iI jX;exact(aq (by trivial)<|aD<|qL<|dC (az sI) ["lead", "branch"] [] 2 [] rfl (by trivial) .nil (by trivial) (λ_ _ _ _ _ _=>(by trivial)) (λ_ _ _ _ _ _=>bO) λ_ _ _ _ _ _=>(bN 1))
theorem Ke:FF P w K mg base 2 "places_of" ["game"] qQ:=B.2.q11.ff B.1 λ_ _ Fu=>
 aZ Fu qp λ_ _ _ _ _ _ hr=>by
 have:=vg B
 have:=qp.nd
 unfold Bu qH wY jA jF jx nP;exact(aq (by trivial)<|aq (by trivial)<|aq (zz qc (by trivial)<|aq (Vd 3 2 qp.nd rfl<|hZ rfl)<|aq (by trivial)<|aq (xR (i:=4) (az vz) ["number", "branch", "place"] ["place"] 2 [3] qp.nd rfl (iS rfl) rfl (by trivial) (.cons rfl .nil) (Ww rfl (B.1.no B.2.n5)<|by trivial) (λ_ _ _ _ _ _=>(by trivial)) (λ_ _ _ _ _ _=>bO) λ_ _ _ _ _ _=>(by trivial))<|aD<|Vr 2<|aaA rfl rfl (B.1.no B.2.n9) rfl (B.1.no B.2.n11)<|by trivial)<|aD<|iY 1)
theorem Ld:FF P w K mg base 1 "words_at" ["move"] ue:=B.2.q12.ff B.1 λ_ _ Fu=>
 aZ Fu Du λ_ _ _ _ _ _ hr=>by
 have:=Du.nd
 unfold xY yg pM;exact(aD<|dR<|iD fH rfl (B.1.no B.2.n13) ik<|cZ (dI<|iM<|dC (az ym) ["word", "branch"] [] 2 [] rfl (by trivial) .nil (by trivial) (λ_ _ _ _ _ _=>(by trivial)) (λ_ _ _ _ _ _=>bO) λ_ _ _ _ _ _=>(bN 0)) eY)
theorem zu:FF P w K mg base 1 "records_behind" ["place", "records", "number"] dN:=B.2.q13.go B.1 zV λ_ _ _ _ _ _ _ _ _=>by
 unfold gF gD;trivial
theorem ur:FF P w K mg base 3 "places_with_records" ["game"] d8:=B.2.q14.ff B.1 λ_ _ Fu=>
 aZ Fu bU λ_ _ _ _ _ _ hr=>by
 unfold mV d7;refine Wr.out ?_;exact(Qm (ace (i:=1) bU.nd rfl (iS rfl)<|Wr.mk<|XR hr (xK iW)<|xK<|bY (xK iW)<|bY (xK iW) iW)<|Qm (ace (i:=2) bU.nd rfl (iS rfl)<|afc<|Wr.mk iW)<|Qm (Wr.mk<|je (qJ<|vY (Ke B) hr fB<|bY (bN 0) iW) (Yg rfl<|Et (dX bU.nd)<|Et (dX bU.nd) Us)<|aq (Bh 2<|xK<|bY (bN 3)<|bY (bN 4)<|bY (CQ hr (bH 1) (bH 3) λ_ _=>rfl) iW)<|aD<|je (HY rfl (B.1.no B.2.n10)<|cZ (dI<|mj IK rfl (B.1.no B.2.n8) Xn<|cZ (dI<|vY (vg B) hr fB<|bY (bN 4) iW) eY) eY) (dX bU.nd)<|aD<|yX 1 hr (vY (zu B) hr fB<|bY (bN 4)<|bY (CQ hr (bH 1) (bH 3) λ_ _=>rfl)<|bY (bN 5) iW)<|pY wB (bH 3)<|dI<|xK<|bY (bN 5) iW)<|afG<|Wr.mk<|iY 2)
theorem Vk:FF P w K mg base 2 "row_at" ["move", "records"] vR:=B.2.q15.go B.1 Yt λ_ _ _ _ _ _ _ _ _=>by
 have:=Ld B
 unfold yH yS;trivial
theorem M7:FF P w K mg base 4 "table_of" ["game"] xN:=B.2.q16.ff B.1 λ_ _ Fu=>
 aZ Fu xG λ_ _ _ _ _ _ hr=>by
 have:=ur B
 have:=Vk B
 have:=xG.nd
 unfold G8 uF uB fG;exact(aq (uV xG.nd ud)<|aq (je (by trivial) (by trivial)<|aD<|eU (by trivial) (aD<|adg 1 hr (by trivial) (by trivial) ⟨rfl,rfl,rfl,rfl⟩) bT)<|aD<|qL<|YK rfl rfl (B.1.no B.2.n9)<|bH 1)
theorem Eh:FF P w K mg base 5 "rows_of" ["game", "side"] tK:=B.2.q17.ff B.1 λ_ _ Fu=>
 aZ Fu Iw λ_ _ _ _ _ _ hr=>by
 have:=M7 B
 have:=Iw.nd
 unfold Ax Bk qK;exact(aD<|qL<|dC (az z6) ["row", "side"] ["side"] 1 [1] rfl (by trivial) (.cons rfl .nil) (by trivial) (λ_ _ _ _ _ _=>(dX<|nds rfl)) (λ_ _ _ _ _ _=>(Zn<|by trivial)) λ_ _ _ _ _ _=>(bN 0))
theorem qi:FF P w K mg base 5 "are_full_shares" ["thing", "count"] cM:=B.2.q18.ff B.1 λ_ _ Fu=>
 aZ Fu qG λ_ _ _ _ _ _ hr=>by
 have:=M9 B
 have:=Xr B
 have:=qG.nd
 have hu:=hr.units;unfold mO lX fV gh;exact(aq (eU (Hf<|BL (vV<|vo<|yc (x:="") (bH 0) rfl (B.1.no B.2.n7) fO rfl (B.1.no B.2.n13) ik)<|yo<|by trivial) (aD<|dR uT) bT)<|aq (eU (vV<|vo<|mj (tY rfl) rfl (B.1.no B.2.n2) Eo<|cZ (dI<|iM<|dC (az mF) ["share"] [] 1 [] rfl (by trivial) .nil (by trivial) (λ_ _ _ _ _ _=>(dX<|nds rfl)) (λ_ _ _ _ _ _=>bO) λ_ _ _ _ _ _=>(Aq (by trivial)<|Be<|Y9<|by trivial)) eY) (aD<|dR uT) bT)<|aD<|dR<|wk (Pz hu) (dI<|vY (Ly B) hr fB<|bY (iM<|tZ pX rfl (B.1.no B.2.n9) pH<|by trivial) iW) (dI<|B.1.cn B.2.c1)<|lY _)
theorem vB:FF P w K mg base 6 "is_plan_for" ["rows", "thing"] iH:=B.2.q19.ff B.1 λ_ _ Fu=>
 aZ Fu xq λ_ _ _ _ _ _ hr=>by
 have:=qi B
 have:=xq.nd
 unfold rJ rQ jL gZ;exact(aq (eU (Hf<|BL (vV<|vo<|yc (x:="") (bH 1) rfl (B.1.no B.2.n7) fO rfl (B.1.no B.2.n4) abB)<|yo<|by trivial) (aD<|dR uT) bT)<|aD<|dR<|mj (tY rfl) rfl (B.1.no B.2.n2) Eo<|cZ (dI<|iM<|dC (az sS) ["row", "thing"] ["thing"] 1 [1] rfl (by trivial) (.cons rfl .nil) (jH<|bH 0) (λ_ _ _ _ _ _=>(dX<|nds rfl)) (λ_ _ _ _ _ _=>bO) λ_ _ _ _ _ _=>(Aq (wk (aer hr) (by trivial) (bH 1)<|by with_unfolding_all rfl)<|Be<|by trivial)) eY)
theorem PJ:FF P w K mg base 7 "is_plan" ["game", "side", "thing"] wG:=B.2.q20.go B.1 Vl λ_ _ _ _ _ _ _ _ _=>by
 have:=vB B
 have:=Eh B
 unfold Ak Ad;trivial
theorem yQ:FF P w K mg base 8 "refuse_no_plan" ["game", "side", "thing"] dM:=B.2.q21.ff B.1 λ_ _ Fu=>
 aZ Fu tQ λ_ _ _ _ _ _ hr=>by
 have:=PJ B
 have:=tQ.nd
 unfold nj nu;exact(aD<|eU (by trivial) (aD DK) bT)
theorem zJ:FF P w K mg base 1 "shares_by_pair" ["rows", "plan"] jn:=B.2.q22.ff B.1 λ_ _ Fu=>
 aZ Fu jk λ_ _ _ _ _ _ hr=>by
 have:=jk.nd
 unfold m7 mZ gM dW lg cX;exact(aq (uV jk.nd ud)<|aq (je (qJ<|bN 0) (dX jk.nd)<|aD<|je (QW rfl (B.1.no B.2.n14)<|by trivial) (by trivial)<|aD<|yX 2 hr (bN 5)<|by trivial)<|aD<|iY 2)
theorem DN:FF P w K mg base 4 "weights_for" ["rows", "plan"] iJ:=B.2.q23.ff B.1 λ_ _ Fu=>
 aZ Fu jE λ_ _ _ _ _ _ hr=>by
 have:=zJ B
 have:=GF B
 have:=jE.nd
 unfold rO rW jT ig jV gY jR iw;exact(aq (by trivial)<|aq (uV jE.nd ud)<|aq (je (qJ<|bN 0) (dX jE.nd)<|aq (by trivial)<|aq (by trivial)<|aD<|je (by trivial) (dX jE.nd)<|aD<|yX 3 hr (by trivial)<|by trivial)<|aD<|iY 3)
theorem Ej:FF P w K mg base 1 "pure_shares" ["taken", "count"] su:=B.2.q24.ff B.1 λ_ _ Fu=>
 aZ Fu xm λ_ _ _ _ _ _ hr=>by
 have:=xm.nd
 unfold xu nQ o9 iz;exact(aD<|dR<|iD fH rfl (B.1.no B.2.n13) ik<|cZ (dI<|iM<|dC (az rF) ["number", "taken"] ["taken"] 1 [0] rfl (by trivial) (.cons rfl .nil) (by trivial) (λ_ _ _ _ _ _=>(dX<|nds rfl)) (λ_ _ _ _ _ _=>bO) λ_ _ _ _ _ _=>(afU (by trivial) (B.1.cn B.2.c1)<|B.1.cn B.2.c0)) eY)
theorem xM:FF P w K mg base 5 "plan_of_weights" ["rows", "weights"] iV:=B.2.q25.ff B.1 λ_ _ Fu=>
 aZ Fu fj λ_ _ _ _ _ _ hr=>by
 have:=abV B
 have:=Ej B
 have:=Ly B
 have:=fj.nd
 unfold lF mL fY gm ju fW fZ f9;exact(aq (uV fj.nd yK)<|aq (je (qJ<|bN 0) (dX fj.nd)<|aq (xR (i:=4) (az iT) ["word", "weights", "row"] ["weights", "row"] 1 [1,3] fj.nd rfl (iS rfl) rfl (by trivial) (.cons rfl<|.cons rfl .nil) (by trivial) (λ_ _ _ _ _ _=>(dX<|nds rfl)) (λ_ _ _ _ _ _=>bO) λ_ _ _ _ _ _=>(by trivial))<|aq (by trivial)<|aD<|eU (by trivial) (aD<|nZ 2 hr (by trivial)<|by trivial)<|aD<|nZ 2 hr (iD fH rfl (B.1.no B.2.n13) ik<|cZ (dI<|iM<|dC (az iT) ["weight", "whole"] ["whole"] 1 [5] rfl (by trivial) (.cons rfl .nil) (jH<|bH 4) (λ_ _ _ _ _ _=>(dX<|nds rfl)) (λ_ _ _ _ _ _=>bO) λ_ _ _ _ _ _=>(by trivial)) eY)<|by trivial)<|aD<|iY 2)
theorem yj:FF P w K mg base 1 "shared_branches" ["place", "plans"] cJ:=B.2.q26.ff B.1 λ_ _ Fu=>
 aZ Fu qF λ_ _ _ _ _ _ hr=>by
 have:=qF.nd
 unfold iU iQ gq gf;exact(aq (eU (by trivial) (aD<|qL<|tZ pX rfl (B.1.no B.2.n9) pH<|by trivial) bT)<|aq (by trivial)<|aD<|qL<|dC (az mH) ["share", "way"] [] 2 [] rfl (by trivial) .nil (Qd<|QW rfl (B.1.no B.2.n14)<|by trivial) (λ_ _ _ _ _ _=>(by trivial)) (λ_ _ _ _ _ _=>bO) λ_ _ _ _ _ _=>(by trivial))
theorem K9 (n:Nat)(Gcomes_of:FF P w K mg base (3+n) "comes_of" ["place", "plans"] (gP n)):FF P w K mg base (3+n+1) "comes_of" ["place", "plans"] (gP<|n+1):=B.2.q27.go B.1 Qf λ_ _ _ _ _ _ _ _ _=>by
 have:=K1 B
 have:=yj B
 have:=GF B
 unfold m6 jl gV;trivial
theorem Np:∀n:Nat,FF P w K mg base (3+n) "comes_of" ["place", "plans"] (gP n):=by
 intro n;induction n with
 |zero=>exact B.2.q27.ff B.1 λ_ _ _=>acp
 |succ n ih=>exact K9 B n ih
theorem V7:FF P w K mg base 34 "brings" ["game", "one", "two"] vZ:=B.2.q28.ff B.1 λ_ _ Fu=>
 aZ Fu Oh λ_ _ _ _ _ _ hr=>by
 have:=yQ B
 have:=Oh.nd
 unfold Eg Ga;exact(aq (Ra<|by trivial)<|aq (Ra<|by trivial)<|aD<|dR<|vY (Np B 30) hr fB<|bY (bN 0)<|bY (iM<|abT (pU uo (bN 1)<|pU uo (bN 2) RM) rfl rfl (λz=>nomatch z)<|by decide) iW)
theorem wL:FF P w K mg base 7 "is_pure_plan_for" ["rows", "thing"] km:=B.2.q29.ff B.1 λ_ _ Fu=>
 aZ Fu qg λ_ _ _ _ _ _ hr=>by
 have:=vB B
 have:=qg.nd
 unfold pW gK fL eX;exact(aD<|dR<|Aq (by trivial)<|Be<|mj (tY rfl) rfl (B.1.no B.2.n2) Eo<|cZ (dI<|iM<|dC (az kI) ["row", "thing"] ["thing"] 1 [1] rfl (by trivial) (.cons rfl .nil) (jH<|bH 0) (λ_ _ _ _ _ _=>(dX<|nds rfl)) (λ_ _ _ _ _ _=>bO) λ_ _ _ _ _ _=>(wk (aa3 hr) (dI<|B.1.cn B.2.c1) (by trivial)<|by with_unfolding_all rfl)) eY)
theorem Hh:FF P w K mg base 8 "is_mix_for" ["rows", "thing"] uc:=B.2.q30.ff B.1 λ_ _ Fu=>
 aZ Fu yV λ_ _ _ _ _ _ hr=>by
 have:=Oz B
 have:=wL B
 have:=yV.nd
 unfold yL pN lW lH mQ mG lE;exact(aq (eU (Hf<|BL (vV<|vo<|yc (x:="") (bH 1) rfl (B.1.no B.2.n7) fO rfl (B.1.no B.2.n9) pH)<|yo<|vV<|vo<|mj (tY rfl) rfl (B.1.no B.2.n2) Eo<|cZ (dI<|iM<|dC (az lU) ["each"] [] 1 [] rfl (by trivial) .nil (jH<|bH 1) (λ_ _ _ _ _ _=>(dX<|nds rfl)) (λ_ _ _ _ _ _=>bO) λ_ _ _ _ _ _=>(by trivial)) eY) (aD<|dR uT) bT)<|aq (eU (vV<|vo<|vY (qi B) hr fB<|bY (iD fH rfl (B.1.no B.2.n13) ik<|cZ (dI<|iM<|dC (az lU) ["weight", "plan"] [] 2 [] rfl (by trivial) .nil (jH<|bH 1) (λ_ _ _ _ _ _=>(by trivial)) (λ_ _ _ _ _ _=>bO) λ_ _ _ _ _ _=>(bN 0)) eY)<|by trivial) (aD<|dR uT) bT)<|aD<|dR<|mj (tY rfl) rfl (B.1.no B.2.n2) Eo<|cZ (dI<|iM<|dC (az lU) ["weight", "plan", "rows"] ["rows"] 2 [0] rfl (by trivial) (.cons rfl .nil) (jH<|bH 1) (λ_ _ _ _ _ _=>(by trivial)) (λ_ _ _ _ _ _=>bO) λ_ _ _ _ _ _=>(by trivial)) eY)
theorem zQ:FF P w K mg base 5 "mixed_weights" ["rows", "mix"] j8:=B.2.q31.ff B.1 λ_ _ Fu=>
 aZ Fu o6 λ_ _ _ _ _ _ hr=>by
 have:=GF B
 have:=o6.nd
 unfold oY o7 iR fJ mJ eZ;exact(aq (uV o6.nd ud)<|aq (je (qJ<|bN 1) (by trivial)<|aD<|je (Y6<|aaW<|afw (DN B) hr fB<|by trivial) (by trivial)<|aD<|yX 2 hr (vY (K1 B) hr fB<|bY (Xd hr (bH 2) (bH 5) (B.1.cn B.2.c0) ⟨rfl,rfl,rfl,rfl⟩)<|by trivial)<|bN 5)<|aD<|iY 2)
theorem Nt:FF P w K mg base 9 "mixed" ["game", "side", "mix"] Dp:=B.2.q32.ff B.1 λ_ _ Fu=>
 aZ Fu RL λ_ _ _ _ _ _ hr=>by
 have:=Hh B
 have:=zQ B
 have:=xM B
 have:=Eh B
 have:=RL.nd
 unfold QV Dr;exact(aq (by trivial)<|aq (eU (by trivial) (aD DK) bT)<|by trivial)
theorem Cj:FF P w K mg base 1 "_law_cell_at" ["_law_script", "_law_k"] gJ:=B.2.q33.go B.1 Gn λ_ _ _ _ _ _ _ _ _=>by
 unfold lG lV;trivial
theorem jf:FF P w K mg base 1 "_law_lowest" ["_law_top", "_law_bottom"] dH:=B.2.q34.ff B.1 λ_ _ Fu=>
 aZ Fu sJ λ_ _ _ _ _ _ hr=>by
 have:=sJ.nd
 unfold sy rM ph kh j9;exact(aq (by trivial)<|aq (by trivial)<|aq (zz qc (by trivial)<|aD<|aeX (i:=2) (j:=3) rfl sJ.nd rfl rfl (by decide) rfl rfl<|by trivial)<|by trivial)
theorem Ko:FF P w K mg base 1 "_law_pool" ["_law_cell", "_law_turn"] qR:=B.2.q35.ff B.1 λ_ _ Fu=>
 aZ Fu oO λ_ _ _ _ _ _ hr=>by
 have:=oO.nd
 unfold Cg lq sG iC nT jC oH nU nJ iG;exact(aq (HD oO.nd mY)<|aq (by trivial)<|aq (by trivial)<|aq (by trivial)<|aq (by trivial)<|aq (HD oO.nd<|afx PySem.F.plainAttrs_str PySem.F.slot_str_join PySem.F.type_str_join Yw (dI mY)<|cZ (dI<|iM<|dC (az qC) ["_law_k", "_law_signs"] ["_law_signs"] 1 [2] rfl (by trivial) (.cons rfl .nil) (jH<|bH 4) (λ_ _ _ _ _ _=>(dX<|nds rfl)) (λ_ _ _ _ _ _=>bO) λ_ _ _ _ _ _=>(by trivial)) eY)<|aq (eU (by trivial) (aD<|qL<|dC (az qC) ["_law_k", "_law_word"] ["_law_word"] 1 [6] rfl (by trivial) (.cons rfl .nil) (Qd<|V0 rfl (B.1.no B.2.n10)<|by trivial) (λ_ _ _ _ _ _=>(dX<|nds rfl)) (λ_ _ _ _ _ _=>bO) λ_ _ _ _ _ _=>(zr (dI<|pY YB (dI uo)<|bH 1) Jr<|zO<|bH 0)) bT)<|aq (by trivial)<|aq (by trivial)<|aq (je (by trivial) (dX oO.nd)<|aq (by trivial)<|aD<|Bh 8<|pY wB (dI<|pY wB (dI<|zr (bH 6) Jr<|zO<|bH 7)<|bH 9)<|dI<|zr (bH 6) (zO<|by trivial) Jr)<|aD<|iY 8)
theorem xn:FF P w K mg base 2 "_law_stake" ["_law_number"] bM:=B.2.q36.go B.1 Ju λ_ _ _ _ _ _ _ _ _=>by
 have:=jf B
 unfold pL pK;trivial
theorem El:FF P w K mg base 2 "_law_shares" ["_law_number", "_law_many"] nG:=B.2.q37.ff B.1 λ_ _ Fu=>
 aZ Fu wO λ_ _ _ _ _ _ hr=>by
 have:=jf B
 have:=wO.nd
 unfold wZ nW jU jZ iB dm;exact(aq (by trivial)<|aq (by trivial)<|aD<|qL<|dC (az rY) ["_law_part", "_law_parts_here"] ["_law_parts_here"] 1 [2] rfl (by trivial) (.cons rfl .nil) (jH<|bH 2) (λ_ _ _ _ _ _=>(dX<|nds rfl)) (λ_ _ _ _ _ _=>bO) λ_ _ _ _ _ _=>(by trivial))
theorem rE:FF P w K mg base 1 "_law_mix" ["_law_cell", "_law_k"] bF:=B.2.q38.go B.1 Qu λ_ _ _ _ _ _ _ _ _=>by
 unfold yq xU;trivial
theorem wJ:FST P w K mg base 1 "_law_name_number" ["_law_state", "_law_side", "_law_record", "_law_many", "_law_bit"] 0 cY:=B.2.q39.ff B.1 λ_ _ Fu=>
 Dw 0 Fu qe (by decide) λ_ _ _ _ _ _ hr=>by
 have:=qe.nd
 unfold gW gO;exact(aq (by trivial)<|aq (eU (rZ (RQ hr) (bH 5) (JL 6<|by trivial)<|by with_unfolding_all rfl) (aq (Pg 6 hr (Oj (JL 7<|by trivial)<|by trivial) (by trivial)<|bN 5)<|aD<|NK 7 (pY wB (dI<|Oj (JL 7<|by trivial)<|by trivial)<|dI uo) (by trivial)<|by trivial) bT)<|aD<|dR<|CQ hr (JL 6<|by trivial) (bH 5) λ_ _=>rfl)
theorem Ji (k:Nat)(hc:2<=k)(Φb:List D->D->Addr×D->Addr×D->Res (D×D×D×D))(G_law_built:FST P w K mg base k "_law_built" ["_law_cells", "_law_state", "_law_depth", "_law_records"] 1 Φb):FST P w K mg base (k+1) "_law_move" ["_law_cells", "_law_state", "_law_depth", "_law_records", "_law_draw"] 1 (oV Φb):=B.2.q40.ff B.1 λ_ _ Fu=>
 Dw 1 Fu oN (by decide) λ_ _ _ _ _ _ hr=>by
 have:=xn B
 have:=oN.nd
 unfold lu jB fP;exact(aq (by trivial)<|aq (by trivial)<|aq (abg (i:=7) oN.nd rfl (iS rfl)<|M6 1 14 15 (wJ B) hr fB (vJ (i:=1)<|by trivial) (hk:=by omega))<|aq (by trivial)<|aq (nZ 1 hr (by trivial) mY)<|aq (by trivial)<|aq (by trivial)<|aq (by trivial)<|aq (je (by trivial) (dX oN.nd)<|aq (by trivial)<|aq (uV oN.nd<|tZ pX rfl (B.1.no B.2.n9) pH<|by trivial)<|aq (zK 13 (by trivial)<|by trivial)<|abv 13<|aD<|Fi 10<|WR<|yM (acv<|bN 12)<|yM (M6 1 14 15 G_law_built hr fB (yP (bN 0)<|vJ (i:=1)<|by trivial) (hk:=by omega)) Tu)<|by trivial)
theorem Hl (n:Nat)(G_law_built:FST P w K mg base (2+2*n) "_law_built" ["_law_cells", "_law_state", "_law_depth", "_law_records"] 1 (aQ n))(G_law_move:FST P w K mg base (2+2*n+1) "_law_move" ["_law_cells", "_law_state", "_law_depth", "_law_records", "_law_draw"] 1 (oV<|aQ n)):FST P w K mg base (2+2*n+1+1) "_law_built" ["_law_cells", "_law_state", "_law_depth", "_law_records"] 1 (aQ<|n+1):=B.2.q41.ff B.1 λ_ _ Fu=>
 Dw 1 Fu uv (by decide) λ_ _ _ _ _ _ hr=>by
 have:=rE B
 have:=El B
 have:=xn B
 have:=uv.nd
 unfold dD dZ iZ;exact(aq (by trivial)<|aq (nZ 1 hr (by trivial) mY)<|aq (by trivial)<|aq (by trivial)<|aq (by trivial)<|aq (by trivial)<|aq (eU (Hf<|BL (by trivial)<|BL (by trivial)<|yo<|Hf<|Pq (by trivial)<|JV<|by trivial) (by trivial) bT)<|aq (eU (by trivial) (aD<|MP<|M6 1 10 11 G_law_move hr fB (yP (bN 0)<|vJ (i:=1)<|by trivial) (hk:=by omega)) bT)<|aq (by trivial)<|aq (nZ 1 hr (by trivial) mY)<|aq (by trivial)<|aq (je (by trivial) (dX uv.nd)<|aD<|Fi 8<|WR<|yM (acv<|bN 9)<|yM (M6 1 10 11 G_law_built hr fB (yP (bN 0)<|vJ (i:=1)<|by trivial) (hk:=by omega)) Tu)<|by trivial)
theorem Hj:∀n:Nat,FST P w K mg base (2+2*n) "_law_built" ["_law_cells", "_law_state", "_law_depth", "_law_records"] 1 (aQ n):=by
 intro n;induction n with
 |zero=>exact B.2.q41.ff B.1 λ_ _ _=>afN
 |succ n ih=>
  have GM:FST P w K mg base (2+2*n+1) "_law_move" ["_law_cells", "_law_state", "_law_depth", "_law_records", "_law_draw"] 1 (oV<|aQ n):=Ji B (2+2*n) (by omega) _ ih;exact Hl B n ih GM
theorem JQ:FF P w K mg base 29 "_law_game" ["_law_cells", "_law_turn", "_law_depth", "_law_room", "_law_pool_here"] qO:=B.2.q42.ff B.1 λ_ _ Fu=>
 aZ Fu wj λ_ _ _ _ _ _ hr=>by
 have:=wj.nd
 unfold BV qM;exact(YW (i:=5) (j1:=6) (j2:=7) wj.nd rfl (iS rfl) (pU mY uo<|pU mY (bN 3)<|pU mY ud<|pU mY (by trivial)<|pU mY (bN 4) RM)<|aq (nZ 5 hr (by trivial) mY)<|aq (nZ 5 hr (by trivial) mY)<|aD<|MP<|M6 5 6 7 (Hj B 13) hr fB<|yP (bN 0)<|vJ (i:=5)<|by trivial)
theorem GQ:FF P w K mg base 1 "_law_places" ["_law_game_here"] oF:=B.2.q43.ff B.1 λ_ _ Fu=>
 aZ Fu jy λ_ _ _ _ _ _ hr=>by
 have:=jy.nd
 unfold w6 nY uO dh ie jW ir jP eG jM jY;exact(aq (by trivial)<|aq (by trivial)<|aq (zz qc (by trivial)<|aq (ab0 (k:=1000) (adD 2)<|by trivial)<|aq (by trivial)<|aq (by trivial)<|aq (eU (by trivial) (aD<|Qi (i:=6) (az rN) ["_law_share", "_law_part", "_law_records"] ["_law_records"] 2 [5] jy.nd rfl (iS rfl) rfl (by trivial) (.cons rfl .nil) (by trivial) (λ_ _ _ _ _ _=>(by trivial)) (λ_ _ _ _ _ _=>bO) λ_ _ _ _ _ _=>(by trivial)) bT)<|aq (eU (by trivial) (aD<|je (by trivial) (by trivial)<|aq (uV jy.nd<|tZ pX rfl (B.1.no B.2.n9) pH<|by trivial)<|aq (zK 9 (by trivial)<|by trivial)<|by trivial) bT)<|aD<|je (ZZ rfl (B.1.no B.2.n10)<|by trivial) (dX jy.nd)<|by trivial)<|aD<|iY 1)
theorem Hn:FF P w K mg base 2 "_law_table" ["_law_game_here"] lD:=B.2.q44.ff B.1 λ_ _ Fu=>
 aZ Fu pI λ_ _ _ _ _ _ hr=>by
 have:=GQ B
 have:=pI.nd
 unfold uD uA my cL lR;exact(aq (by trivial)<|aq (uV pI.nd ud)<|aq (je (by trivial) (by trivial)<|aD<|eU (Hf<|Pq (by trivial)<|JV<|rZ (RQ hr) (by trivial) (bH 2)<|by with_unfolding_all rfl) (aq (yX 2 hr uT<|by trivial)<|aq (HD pI.nd<|iD fH rfl (B.1.no B.2.n13) ik<|cZ (dI<|iM<|dC (az uw) ["_law_word", "_law_part"] [] 2 [] rfl (by trivial) .nil (by trivial) (λ_ _ _ _ _ _=>(by trivial)) (λ_ _ _ _ _ _=>bO) λ_ _ _ _ _ _=>(bN 0)) eY)<|by trivial) bT)<|aD<|iY 1)
theorem ug:FF P w K mg base 2 "_law_plus" ["_law_one", "_law_other"] lB:=B.2.q45.go B.1 Mz λ_ _ _ _ _ _ _ _ _=>by
 have:=jf B
 unfold vq v5;trivial
theorem xg:FF P w K mg base 2 "_law_times" ["_law_one", "_law_other"] mC:=B.2.q46.go B.1 Jm λ_ _ _ _ _ _ _ _ _=>by
 have:=jf B
 unfold uL uh;trivial
theorem wR:FF P w K mg base 2 "_law_parts" ["_law_number", "_law_many"] jh:=B.2.q47.ff B.1 λ_ _ Fu=>
 aZ Fu yE λ_ _ _ _ _ _ hr=>by
 have:=jf B
 have:=yE.nd
 unfold zy pJ lK mz lL gC;exact(aq (by trivial)<|aq (by trivial)<|aq (eU (by trivial) (aD<|zK 2 uo<|by trivial) bT)<|aD<|dR<|iD fH rfl (B.1.no B.2.n13) ik<|cZ (dI<|iM<|dC (az uz) ["_law_part", "_law_parts_here"] ["_law_parts_here"] 1 [2] rfl (by trivial) (.cons rfl .nil) (jH<|bH 2) (λ_ _ _ _ _ _=>(dX<|nds rfl)) (λ_ _ _ _ _ _=>bO) λ_ _ _ _ _ _=>(by trivial)) eY)
theorem Kc:FF P w K mg base 3 "_law_plan" ["_law_rows", "_law_side", "_law_cell"] vN:=B.2.q48.ff B.1 λ_ _ Fu=>
 aZ Fu qW λ_ _ _ _ _ _ hr=>by
 have:=rE B
 have:=wR B
 have:=qW.nd
 unfold Br qU nO dJ;exact(aq (uV qW.nd yK)<|aq (je (by trivial) (dX qW.nd)<|aD<|eU (by trivial) (aD<|nZ 3 hr (by trivial)<|by trivial) bT)<|aD<|iY 3)
theorem zg:FF P w K mg base 2 "_law_pure" ["_law_rows", "_law_side", "_law_cell"] oJ:=B.2.q49.ff B.1 λ_ _ Fu=>
 aZ Fu rB λ_ _ _ _ _ _ hr=>by
 have:=rE B
 have:=rB.nd
 unfold Ca rC nR oA rR jw;exact(aq (uV rB.nd yK)<|aq (je (by trivial) (dX rB.nd)<|aD<|eU (by trivial) (aq (by trivial)<|aq (by trivial)<|aD<|nZ 3 hr (iD fH rfl (B.1.no B.2.n13) ik<|cZ (dI<|iM<|dC (az v9) ["_law_j", "_law_at"] ["_law_at"] 1 [6] rfl (by trivial) (.cons rfl .nil) (by trivial) (λ_ _ _ _ _ _=>(dX<|nds rfl)) (λ_ _ _ _ _ _=>bO) λ_ _ _ _ _ _=>(by trivial)) eY)<|by trivial) bT)<|aD<|iY 3)
theorem Ho (n:Nat)(G_law_worth:FF P w K mg base (2+n) "_law_worth" ["_law_place", "_law_plans"] (bQ n)):FF P w K mg base (2+n+1) "_law_worth" ["_law_place", "_law_plans"] (bQ<|n+1):=B.2.q50.ff B.1 λ_ _ Fu=>
 aZ Fu uq λ_ _ _ _ _ _ hr=>by
 have:=ug B
 have:=xg B
 have:=uq.nd
 unfold eQ jb gG lZ lN;exact(aq (by trivial)<|aq (by trivial)<|aq (eU (by trivial) (by trivial)<|aq (by trivial)<|aD<|xR (i:=3) (az uC) ["_law_k", "_law_shares_here", "_law_place"] ["_law_shares_here", "_law_place"] 1 [4,0] uq.nd rfl (iS rfl) rfl (by trivial) (.cons rfl<|.cons rfl .nil) (by trivial) (λ_ _ _ _ _ _=>(dX<|nds rfl)) (λ_ _ _ _ _ _=>bO) λ_ _ _ _ _ _=>(by trivial))<|aq (je (agv<|bN 3) (by trivial)<|by trivial)<|by trivial)
theorem Hg:∀n:Nat,FF P w K mg base (2+n) "_law_worth" ["_law_place", "_law_plans"] (bQ n):=by
 intro n;induction n with
 |zero=>exact B.2.q50.ff B.1 λ_ _ _=>acp
 |succ n ih=>exact Ho B n ih
theorem Ha:FF P w K mg base 3 "_law_mix_of" ["_law_rows", "_law_side", "_law_cell", "_law_many"] nF:=B.2.q51.go B.1 Hm λ_ _ _ _ _ _ _ _ _=>by
 have:=rE B
 have:=wR B
 have:=zg B
 unfold wU oh jK jO;trivial
theorem J3:FF P w K mg base 1 "_law_even" ["_law_rows", "_law_side"] wu:=B.2.q52.ff B.1 λ_ _ Fu=>
 aZ Fu rn λ_ _ _ _ _ _ hr=>by
 have:=rn.nd
 unfold BZ qT oE ou nM oG;exact(aq (uV rn.nd yK)<|aq (je (qJ<|bN 0) (dX rn.nd)<|aD<|eU (by trivial) (aD<|nZ 2 hr (iD fH rfl (B.1.no B.2.n13) ik<|cZ (dI<|iM<|dC (az vL) ["_law_word", "_law_row"] ["_law_row"] 1 [3] rfl (by trivial) (.cons rfl .nil) (by trivial) (λ_ _ _ _ _ _=>(dX<|nds rfl)) (λ_ _ _ _ _ _=>bO) λ_ _ _ _ _ _=>(by trivial)) eY)<|by trivial) bT)<|aD<|iY 2)
theorem JN:FF P w K mg base 1 "_law_both" ["_law_side", "_law_mine", "_law_yours"] lr:=B.2.q53.go B.1 Nv λ_ _ _ _ _ _ _ _ _=>by
 unfold qI qx;trivial
theorem vC:FF P w K mg base 3 "_law_put_together" ["_law_mix_here"] gj:=B.2.q54.ff B.1 λ_ _ Fu=>
 aZ Fu pq λ_ _ _ _ _ _ hr=>by
 have:=ug B
 have:=pq.nd
 unfold pC fU d9 cT;exact(aq (by trivial)<|aq (je (qJ<|bN 0) (by trivial)<|aD<|eU (Hf<|Pq (rZ (aaP hr) (bH 1) (by trivial)<|lY _)<|JV<|rZ (abo hr) (by trivial) (bH 3)<|lY _) (aD<|zK 1 (by trivial)<|by trivial)<|by trivial)<|aD<|iY 1)
theorem adl (Fu:Fun K "law" "law" Iu f fd):
  rT P w K mg base (CX1 P w) 35 f fd ["_law_script"] (spF ⟨K,mg⟩ acF):=
 aZ Fu NZ λ_ _ _ _ _ _ hr=>by
 have:=Hg B 30
 have:=JN B
 have:=Cj B
 have:=J3 B
 have:=Ha B
 have:=Kc B
 have:=ug B
 have:=Ko B
 have:=zg B
 have:=vC B
 have:=Hn B
 have:=xg B
 have:=V7 B
 have:=Nt B
 have:=NZ.nd
 unfold acf RP yC Di Dn Jq;exact(aq (by trivial)<|aq (by trivial)<|aq (HD NZ.nd<|vY (JQ B) hr fB<|bY (pY wB (dI<|zr (bH 0) (zO<|dI uo)<|zO<|dI uo)<|by trivial)<|by trivial)<|aq (by trivial)<|aq (by trivial)<|aq (by trivial)<|aq (HD NZ.nd<|vY (Nt B) hr fB<|bY (bN 3)<|bY (bN 5)<|bY (iM<|tZ pX rfl (B.1.no B.2.n9) pH<|by trivial) iW)<|aq (eU (rZ (aaf hr) (by trivial) (bH 7)<|lY _) (aD<|dR uT) bT)<|aq (by trivial)<|aq (je (by trivial) (dX NZ.nd)<|aq (by trivial)<|aq (by trivial)<|aq (by trivial)<|aD<|eU (Hf<|BL (by trivial)<|yo<|by trivial) (aD<|dR uT) bT)<|aD<|dR uT)
end
theorem all_mk {l:W.OpenLaw}{K:bq}{h:Heap}(X:K.In h)(G:h.Ns gy mg)(hfa:mg "law" = some (.ref fa))(Q:Qs K):
  ∃fd:kK,(∀(s:bE) (v:a9),BH s fd ⟨[v],[]⟩ [("_law_script",v)])/\∀base:Heap,K.In base->base.Ns gy mg->rT l.prog w K mg base (CX1 l.prog w) 35 fa fd ["_law_script"] (Sy K):=by
 obtain⟨f,fd,F0,a⟩:=Q.q55.ex;have e:=hfa.symm.trans<|W.mg_of X G a;cases e;obtain⟨oc,od,kV,doc,pm,an,cdv,ct,osl,rfl,lk,hcd⟩:=F0.ex;refine⟨AL "law" "law" (qN Iu) (jQ Iu) (az Iu) .none kV doc pm an cdv ct,λs v=>.of_eq rfl,λbase kb nb=>?_⟩;exact abp Wz<|adl ⟨⟨kb,nb⟩,Q⟩ F0
theorem walk {l:W.OpenLaw}{q:cS}{loose:List Str}{XP:(Zp)->Heap->Prop}{YP:gu->Heap->Prop}{d:DefRec}{K:Params->bq}(hn:l.most=some 63)(hdf:d.params.defaults=[])
  (hY:∀(w:gu) (h:Heap),YP w h->(K w.params).In h)
  (F:∀(w:gu) (mg:Zp) (fa:Addr) (h:Heap),(K w.params).In h->h.Ns gy mg->mg d.name=some (.ref fa)->
   ∃fd:kK,(∀(s:bE) (u:a9),BH s fd ⟨[u],[]⟩ [("_law_script",u)])/\∀base:Heap,(K w.params).In base->base.Ns gy mg->rT l.prog w (K w.params) mg base (CX1 l.prog w) 35 fa fd ["_law_script"] (Sy<|K w.params)):
  W.WalkO q loose XP YP l.row.toRowW d [] (λf vs=>BS f vs):=
 L2.abC (n:=63) (k:=35) (x:="_law_script") (CX:=λw=>CX1 l.prog w) (sp:=λw=>Sy<|K w.params) hn (by decide) hdf ⟨rfl,by decide,by decide,rfl⟩ hY F (λ_ _ a ns hl _ hS=>⟨a,ns,rfl,hS,hl,λ_=>rfl⟩) λ_ _ _ _ _ ⟨_,_,_,_,_,_,z⟩=>z.elim
end K23
structure PySem.W.Fast:Prop where(tw1087977494704071468 tw12292151319813772426 tw6784512521879635182 tw16106267181305685776 tw320849021471758799 tw1924887355811387849 tw17600426650086806166 tw3859101480732852835 tw14213336830799068101 tw11564166507030864508 tw14215221261735671022 tw15646609636823191688 tw10109366458885538344 tw13176497238953545249 tw2640915461201263322 tw16948373996605743332 tw1001051097237137818 tw9341846446781559270 tw2035577469057336488 tw14362597998625654250 tw15558402925431771218 tw13040458355453635073 tw14515900817167699639 tw9436564194604169518 tw12802871789440585135 tw739625454343180402 tw17632332632164843957 tw13520127682287533617 tw262931780472191165 tw10632921442301285015 tw4582734530817537580 tw17703329776659213752 tw14275180145720920991 tw2825903218200150886 tw9549267915507215279 tw16418591906235739834
 tw838188566244049431 tw14030776153231824704 tw13647324340960162889 tw4939242459354809633 tw9298751390323527993 tw8839085975438833727 tw4264565710588936035 tw11309040306954576041 tw13872828836273908071 tw6766107334549252781 tw3694213943020347187 tw11073671898284470365 tw11452780151111425730 tw5124045348625352805 tw17123270076144754858 tw16985373013137459946 tw3890372457335701887 tw13040398303916622601 tw9213260823414678160 tw1351574130941727220 tw8002324976810197849 tw3177447682289661055 tw15650528920779186483 tw1227603353262538183 tw7850031513282232019 tw15776518444718206341 tw11237023514965933703 tw317440703184965351 tw167858453326309734 tw9638173992640833815 tw4172463327762219072 tw4959188622045676342 tw15860170442944937105 tw376250328714117029 tw8644841817495269407 tw6070891806084422590 tw15498987729694891530
 tw17812016841228068895 tw1754862166769411632 tw10162742171194426985 tw17540433350509895368 tw5444179810396163877 tw1855138944953993332 tw6104531877655346207 tw5496186536013250090 tw2728229871210681631 tw11523897632613531689 tw71580220656632691 tw6338071785504262319 tw4261277680278566 tw6248845915393188607 tw12103905290825473497 tw913634270790361471 tw6155997637279191336 tw5662670437151442413 tw12917263136651832246 tw14835716964610505267 tw17714761956570420761 tw12735712927512467630 tw2260200397699877873 tw15463051843960416307 tw12675458660735690222 tw16794023895932225974 tw16484148434938981400 tw18378394570114464565 tw15587477219927309887 tw7982938031309552476 tw17266652927396148057 tw15007957817286051288 tw15169773762567195282 tw17881140681224480504 tw12762703861507745464 tw7974724257461186995
 tw10638683967103699558 tw10680779288594205205 tw5920210363081186834 tw17298466911130880909 tw16521070274613072252 tw8142007509802911501 tw6373403690695889582 tw10998688074125388520 tw1818814822497187716 tw16072764631966237582 tw12077261984986993960 tw172719144421736524 tw10888362158363750326 tw6010209200559782321 tw12812393237134059283 tw8838989838945548 tw4305423334188808127 tw5549185204372354483 tw1766572669636158666 tw8220702700183865872 tw12227107697529181005 tw5588172474363360808 tw11724528301542147846 tw2821597278191354685 tw10988274335904967007 tw9450118030403891223 tw3317789789399969872 tw7618958364815091307 tw1771935990967932234 tw13405754421272953097 tw6292548320154070644 tw7371941507721870260 tw15846798062641653767 tw6457232707192950030 tw15261603430255659437 tw8598126711220748995
 tw9031636559804044742 tw14263292624400688242 tw4811353534603072975 tw12232423154006928665 tw18414684505875176798 tw14304398058832926572 tw17741194124485264830 tw8931722475365352665 tw628176267424651764 tw17795288204782466142 tw16359431059191843566 tw3549409384540403719 tw6254941747121596271 tw6444916124263376427 tw4639276411602162777 tw7720220106871997734 tw4644555343655020336 tw16201856460093602204 tw10016092315516033207 tw11124892078902015793 tw14492203166604948158 tw9369208238036740046 tw5608070500731019266 tw18425996383591255094 tw17395384305906247490 tw11904179897488740301 tw6346621740470045555 tw840177880315123651 tw5162783050929933215 tw16735090944479856826 tw16665309321143620102 tw14062827375726279031 tw8988499863548400589 tw14086983393364127735 tw12073432185272524441 tw12064591597542194763
 tw11730245497610034073 tw11009777192128742089 tw10965169132988179337 tw10535730923057881475 tw10159252974494789437 tw9787158509971134590 tw9249923718991035055 tw9230312766253562634 tw8351690175326380960 tw8177818202518262559 tw8129010867084972179 tw7789157113494078264 tw7142777855976830236 tw5814096046677952270 tw5778145376334240307 tw5672892413891479270 tw5621135135641304312 tw5531606461915536435 tw5309209829376774693 tw4525506077724485418 tw4205420363125120734 tw4065208783526991800 tw3909447037307794618 tw3893498118906485782 tw3732397658577257112 tw3616611926806014839 tw3423105568732406954 tw3320448296335631546 tw3319712280107410945 tw3305704425078304756 tw3014607137177260072 tw2653059785715928335 tw2129600423914182839 tw18268050443396081075 tw18248999237237234707 tw18103170375428594344 tw17914527244555910255
 tw17432561728853325908 tw17321227020982531218 tw16480539753315024541 tw16383854527930731793 tw16238745595080679235 tw16145326396403065895 tw15830107320822046397 tw15697075741051777564 tw15410537103113215938 tw15340097503868729087 tw15307253228814060421 tw15235597172563092341 tw13552625378194079600 tw13292932066810916782 tw13246047484389347725 tw13079089872074945168 tw12624166902109330042 tw10660566703084154095 tw10620134236841903754 tw12728734485492288027 tw5257829273811477248 tw18342682552216351690 tw16622273836902077050 tw9837917099914840769 tw5834615160195330146 tw3019074152405194298 tw17200781625258206802 tw1667206522768445785 tw16497257905026490930 tw14734689035962875289 tw14172647562161817026 tw16324837730402083516 tw12682468435299053578 tw17986034892036831812 tw7242141708882616103 tw7125650789305649150
 tw6292419061015710365 tw15252349441623206999 tw7623667387255198866 tw15421387509596299518 tw1421331431478699248 tw9619540058021767647 tw4795378356178688968 tw10189256623598958956 tw12147829082730669652 tw7038850241516700836 tw6762325588978678425 tw16691103306908530216 tw16397312373399693127 tw1098429099979814825 tw9887855128087704411 tw9726373194164172624 tw9630236214238916516 tw9149362074035412539 tw9106369597454253879 tw8439247245859816113 tw8195966198056040714 tw8104989560245427733 tw7817774258336944 tw7797505806644220462 tw7644704317531350696 tw7553272619730742277 tw7254757020887882703 tw6959600300538593258 tw6859172837865475629 tw6662973785120848180 tw6403588000535273279 tw631254421391527134 tw6257397143027738132 tw6231770874262003398 tw6132553293563219618 tw6121549178067128281 tw6028686182167729179
 tw599664451352365826 tw5697485178494824630 tw5473587788235650667 tw471741612623062704 tw4630506777254546883 tw4415769730334213395 tw4397773390407468057 tw4322899203897408647 tw4217996681280178765 tw4085979365856860845 tw3666823826445017628 tw3634443558716014655 tw3628992851560648643 tw3583982800262458765 tw3552253630211754234 tw3212018502684687470 tw3103989499178423194 tw3009295486584468809 tw2870205779002616865 tw2862042198692922238 tw2528868088677204321 tw2108759181773062901 tw2034893108656661556 tw18401984222757110108 tw18338174544270257608 tw18206463218205895568 tw18119667238940478165 tw17959141563896608953 tw17908591264449483467 tw17878034943509394908 tw17584723628744953757 tw17535946488694517118 tw17520225529999208398 tw17411445719752910982 tw17400721611253515106 tw17265704096228793044
 tw17169467650145524896 tw17125151937312194646 tw17061219689457397665:True)
open PySem PySem.W PyProof.Rows
set_option maxRecDepth 100000 in
set_option maxHeartbeats 0 in
theorem PySem.Challenge.cw_hushduel_k23_whole_mixes_bring_the_same_holds : PySem.Challenge.rw_hushduel_k23_whole_mixes_bring_the_same.Holds := by
 w_on;o_law;k_head;(case hw=>w_witness2)
 k_fill
 refine K23.walk (l:=PySem.Challenge.rw_hushduel_k23_whole_mixes_bring_the_same) rfl rfl (λw h Y=>PySem.W.kIn_of Y) ?F
 case F=>
  intro w mg fa h KX G hmg;refine' K23.all_mk KX G hmg ⟨?_,?_,?_,?_,?_,?_,?_,?_,?_,?_,?_,?_,?_,?_,?_,?_,?_,?_,?_,?_,?_,?_,?_,?_,?_,?_,?_,?_,?_,?_,?_,?_,?_,?_,?_,?_,?_,?_,?_,?_,?_,?_,?_,?_,?_,?_,?_,?_,?_,?_,?_,?_,?_,?_,?_,?_,?_,?_,?_,?_,?_,?_,?_,?_,?_,?_,?_,?_,?_,?_,?_,?_,?_⟩
  all_goals try first | (refine' F.qd ?a ?l ?c ?k;(case a=>k_is);(case l=>k_is);(case c=>k_is);(case k=>k_is)) | (refine' F.ck ?a ?b;(case a=>k_is);(case b=>k_is)) | (unfold F.NO;k_is) | k_is
