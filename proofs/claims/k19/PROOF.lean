import PyProof.Rows.All
import Wide.All
import OpenK.AllK
import Wide.FinOn
import Lean
import PyProof.EqAt
import PyProof.EqKinds
import PyProof.TupleCall
import PyProof.TupleKey
import KE.KRevSl
import PyProof.P3Eq
import KE.LcSums
import PyProof.EnumMake
import PyProof.StrWalks
import PyProof.Conv_int_bool
import KE.KIntText
import PyProof.Rows.StrNews2
import PyProof.StrBlock2
import PyProof.Rows.StrNews
import PyProof.StrLawsRepr
import PyProof.ReprStr
import PyProof.ReprRoads
import PyProof.DictIter
import PyProof.Rows.SetFrom
import KE.KDictList
import KE.KDictOf
import PyProof.AttrMissHeap
import KE.KEqDict
import PyProof.DictItems
import KE.KPairComp
import PyProof.Rows.Range3
import KE.IntTextText
import PyProof.StrLawsFirst
import PyProof.ReprBulk
import PyProof.ZipIter
import PyProof.Rows.ZipGen
import PyProof.TupleIter
import PyProof.ListRange
import PyProof.NeKinds
import PyProof.Draws
import PySem.Challenge.RW_hushduel_k19_weights
set_option compiler.extract_closed false
set_option genSizeOf false
noncomputable section
open PySem renaming wpAny_bind->ae,wpAny_pure->ag,sizeLine->aw,starEach->ax,Value->aS,Shared->bq,wpAny->bt,Program->cy,wpAny_call_entry->c8,model->dr,bootBuiltins->dA,sysModules->eI,wpAny_newObj_type->eJ,wpAny_callSpecial?_slot->eW,wpAny_dictEntries->fq,compareOp->fx,World->fI,mainGlobals->gu,foldedSetIterable->gy,attributeBase->gE,swapsWith->gN,wpAny_field->hC,wpAny_holding->ic,Around->iN,wpAny_seqItems->iS,wpAny_notOrdered_dict->i8,wpAny_typeNameOfWhole_keyiter->js,wpAny_typeNameOfWhole_valiter->jv,wpAny_dictEpoch->kd,binaryOp->kg,backTo->ki,wpAny_isInstance->kl,wpAny_mono->ko,assignEach->kq,FuncData->kA,wpAny_Call_Name_kw->kB,wpAny_setField_rec->kG,wpAny_fieldsOf->kM,Paired->kQ,wpAny_passesOwn->kT,wpAny_typeNameOf_keyiter->lj,wpAny_typeNameOf_valiter->ly,behindInMarks->l3,mem_of_lookup->l7,cLine->mm,wpAny_specialOf->mo,wpAny_isOneOf_valiter->mw,wpAny_truthy_bool->mM,IsPair->nc,wpAny_setField->nE,firstArgMember->nI,keywordEach->nV,Keyword->nX,swapsWithSole->oI,swappedStores->oP,wpAny_attempt->pd,wpAny_rule->pV,sliceBounds->p9,wpAny_isOneOf_keyiter->qq,wpAny_forIn_list->qA,rawInt->rg,wpAny_updateSeq_pair->rL,wpAny_standAt->rS,holding->r9,wpAny_execs_nil->sf,DictEntry->si,wpAny_richCompare_same_room->sC,GenState->sN,wpAny_pyIter_tuple->sQ,assign->tw,PassesOwn->tz,pyNext->tF,typeIs_str->ub,atKey->ui,wpAny_comprehension_free->uk,NameKind->wm,backToKw->wx,wpAny_letGo->w8,wpAny_onRaise->xc,noFill_tuple_add->xl,letOwnedTupleGo->xS,concat_meets->x6,PyData->ya,valueAt->yi,size_of_entries->yB,Scope->zh,isSubtype_stop->zI,dictSetDefault->zS,IsRangeIter->As,getItem->Au,subscripted->AA,Builtin->AF,IsZip->AJ,assignInOrder->AO,seq_tuple_add->AR,wpAny_handled->AW,ZipApart->AZ,codeAny->A3,typeLookup->A4,callerA->A5,IsPart->A9,BindsTo->BC,pyIter->BH,call->BI,JoinOk->BM
open List renaming mem_cons_of_mem->af,mem_cons_self->ah,map_cons->ar,getElem?_eq_getElem->av,mem_map->aT,mem_cons->a8,size_toArray->a9,length_append->bg,getElem?_set_self->bo,length_map->bp,getElem?_set_ne->br,map_append->bE,getElem?_map->bX,getD_eq_getElem?_getD->b9,mem_singleton->cb,range->cf,mem_append_right->cp,length_cons->cw,getElem?_append_left->cS,mem_append->c6,getElem?_append_right->dc,mem_filter->dy,replicate->dQ,length_singleton->eD,append_assoc->eK,lookup_cons->eM,append_nil->eR,map_map->fm,range'_succ->fA,getElem?_eq_some_iff->fN,pairwise_map->fR,mem_append_left->fT,range_eq_range'->f6,length_replicate->gv,getElem?_replicate->gz,nodup_cons->gT,nodup_append->hV,mem_flatMap->iE,getElem?_eq_none->i7,range'->jI,sum_cons->ka,mem_range->kH,drop_eq_getElem_cons->kL,nil_append->kS,reverse_cons->k9,find?_cons->lh,length_take->me,filter_cons->mh,mem_of_getElem?->nh,nodup_nil->ny,length_drop->nN,filterMap_cons->nS,zipIdx_map_fst->oo,mem_map_of_mem->oq,map_congr_left->ox,forIn_cons->o3,map_singleton->pk,take_of_length_le->pS,flatMap_cons->qf,drop_length->qE,flatMap_nil->qV,getElem_mem->rf,foldl_cons->sv,reverse_append->sx,map_nil->sR,getElem?_drop->sT,pairwise_iff_getElem->tm,mem_or_eq_of_mem_set->tp,getElem?_take_of_lt->ua,length->wq,ext_getElem->xo,getElem_map->xp,nodup_range->xt,range_succ_eq_map->xy,of_mem_zip->x5,length_nil->yb,dropLast_eq_take->yn,mem_of_mem_take->zt,forIn_nil->Ap,lookup->AB,getElem?_range->AD,flatMap_append->AI,length_reverse->AK,any_cons->AU
open PySem.Heap renaming get?_push_of_some->ai,get?_push_size->aE,lt_size->aI,get?_update_other->dS,get?_update_self->eC,size_push->kc,SameBut->kx,ExtBut->BD
open Nat renaming le_refl->ay,lt_of_lt_of_le->cm,ne_of_lt->cK,zero_le->eT,lt_irrefl->ib,le_trans->iA,le_add_right->ku,lt_or_ge->mI,lt_of_le_of_lt->pj,ne_of_gt->qh,strongRecOn->sA,add_assoc->vS,le_of_eq->x8,pow_le_pow_right->zi,le_of_dvd->AX,zero_add->A7,le_of_lt->A8,gcd_comm->Bi,Coprime->BE
open Bool renaming false_ne_true->be,false_eq_true->f7,and_eq_true->qB,eq_iff_iff->sg,not_true->vT,false_and->zC
open PySem.W renaming Frag->bP,kia_one->md,fnOf->AQ,kitOne->Bn,keepIn->Bz
open Rat renaming divInt->cq,num_divInt_den->pf,divInt_eq_divInt_iff->vv,divInt_eq_div->vx,div_def->BF
open PySem.Value renaming ref->cx,none->i9,str->tq,int->AL,bool->A2
open Option.some renaming inj->cE
open PySem.Str renaming ofString->c9,ofString_eq_toList->xC,empty->BB
open PyProof.Rows renaming callWith_type1->dE,slot_tuple_getitem->kU,assignInOrder_cons->sP,kindOf->tP,AllBare->v3,envOfC->zD,subscriptTail->AS
open PySem.Heap.SameBut renaming update->eA
open Option renaming bind_eq_some_iff->eB,map_some->iq,map_eq_some_iff->iO,isSome_map->uj,bind_some->xw
open Ne renaming symm->eS
open PySem.Builtin.SmallTypes renaming nextOf->fg,ownedTupleIsFree->hG,ownedTupleHandOut->nL
open PySem.F renaming slot_dict_valueiterator_next->fw,slot_dict_keyiterator_next->fF,slot_tuple_iterator_next->iF,plainAttrs_list->jS,slot_tuple_hash->l0,plainAttrs_dict->ma,slot_zip_next->mE,args_dict_valueiterator_next_1->mN,entry_dict_valueiterator_next->nr,args_dict_keyiterator_next_1->nB,entry_dict_keyiterator_next->om,args_tuple_add_2->oz,slot_dict_values->oC,args_tuple_iterator_next_1->oD,entry_tuple_add->oT,entry_tuple_iterator_next->pz,slot_tuple_add->pE,slot_dict_values_iter->qS,slot_dict_setdefault->rX,slot_list_append->uu,type_list_append->uS,type_dict_values->vi,slot_tuple_index->vE,args_zip_next_1->xh,slot_dict_clear->xi,slot_dict_iter->xB,entry_zip_next->xD,slot_list_pop->yy,type_list_pop->yA,sub_dict_dict->ze,slot_int_mul->zo,slot_dict_eq->zv,slot_dict_ne->zw
open Classical renaming choose_spec->fy,choose->mf,em->tf
open PySem.NameKind renaming free->gL,cell->l9
open PySem.Builtin.Tuple renaming tupleHashOf->gS,tupleExact->kX,tupleItemsOf->sD
open Or renaming inr->gX,inl->iP
open True renaming intro->hJ
open PySem.SeqAt renaming shaped->hU,EqAt->A1
open PySem.PyData renaming strOk->hZ,eqv->kr,canLay0->nK,eqvAll->pe,depth->qr,canLayAll0->vj,depthAll->yT
open PySem.Builtin.Dict_items renaming ownsTuple->h9
open PySem.Paired renaming length->ia
open Int renaming fdiv_eq_ediv_of_nonneg->iL,emod_lt_of_pos->ja,natAbs_dvd_natAbs->kF,toNat_natCast->lx,emod_nonneg->lI,mul_comm->mB,mul_assoc->mP,eq_of_mul_eq_mul_right->sM,gcd->tj,eq_ofNat_of_zero_le->w9,mul_ne_zero->yY,mul_pos->BG
open Array renaming getElem?_eq_getElem->iX,length_toList->l5,getElem?_eq_some_iff->mT,getElem?_eq_none->pT,toList->xI,getElem_toList->zk,forIn_toList->AM,append_assoc->AN
open PySem.Builtin.Dict renaming showsAll->kC,dictSlotArgs->kP,samePairs->xE,noArgs->AG
open PySem.Obj renaming data_mapFields->kD,data_mapDictKeys->kR,isFreed_of_fields->qk,mapFields->rV,mapSeq->r6,isFreed_of_dict->so,cls_mapFields->ve
open PySem.Builtin.Slice renaming slicePlaces->kK,sliceAdjust->nt,sliceApplied->sL
open PySem.PassesOwn renaming leaving->lP
open List.Nodup renaming idxOf_getElem->lT
open PySem.Builtin.Range renaming rangeSize->l6,small->AH
open PySem.Calls renaming callWith_builtin->ml,spliced_cons->oQ,evalArgs_plain->rh,Name_function_global->sF,spliced_nil->tJ
open PySem.Builtin.List renaming listExtendWith->mr,listTooLong->oB,listSameRef->va,listItems->xA
open Std.Legacy.Range renaming forIn_eq_forIn_range'->mS,size->zd
open PySem.Builtin.Int renaming intBits->og,intTooBig->x9
open False renaming elim->oy
open Char renaming toNat->qc
open ForInStep renaming yield->sj
open Sum renaming inr->vF,inl->A0
open Prod.mk renaming inj->xk
open PySem.Txt renaming slice->yk,join->AV,mul->BO
open PySem.Builtin.Str renaming tooLong->AE
open Prod renaming fst->AY,ext->BN
open PySem.StrLaws renaming sliceText->A6
open PySem.Data renaming fields->BA
abbrev Zaa:=PySem.Addr->Prop
abbrev Zp:=PySem.Str->Option PySem.Value
abbrev Zl:=List<|PySem.Addr×PySem.Obj
abbrev Zs:=PySem.Value->PySem.Shared->Prop
theorem xq5 {A B C D E:Sort _}{R Q:A->B->C->D->E->Prop}{P:Prop}(h:∃a b c d e,R a b c d e/\Q a b c d e)(k:∀a b c d e,R a b c d e->Q a b c d e->P):P:=by
 obtain⟨a,b,c,d,e,r,q⟩:=h;exact k a b c d e r q
theorem xq7 {A B C D E F G:Sort _}{R Q S T:A->B->C->D->E->F->G->Prop}{P:Prop}(h:∃a b c d e f g,R a b c d e f g/\Q a b c d e f g/\S a b c d e f g/\T a b c d e f g)(k:∀a b c d e f g,R a b c d e f g->Q a b c d e f g->S a b c d e f g->T a b c d e f g->P):P:=by
 obtain⟨a,b,c,d,e,f,g,r,q,s,t⟩:=h;exact k a b c d e f g r q s t
theorem xq2 {A B:Sort _}{R Q S:A->B->Prop}{P:Prop}(h:∃a b,R a b/\Q a b/\S a b)(k:∀a b,R a b->Q a b->S a b->P):P:=by
 obtain⟨a,b,r,q,s⟩:=h;exact k a b r q s
theorem xl1 {A:Type _}{us:List A}(h:us.length=1):∃a,us=[a]:=by
 cases us with
 |nil=>cases h
 |cons a t=>cases t with
  |nil=>exact⟨a,rfl⟩
  |cons _ _=>cases h
theorem xl0 {A:Type _}{us:List A}{n:Nat}(h:us.length=n+1):∃a t,us=a::t/\t.length=n:=by
 cases us with
 |nil=>cases h
 |cons a t=>exact⟨a,t,rfl,Nat.succ.inj h⟩
theorem xl2 {A:Type _}{us:List A}(h:us.length=2):∃a b,us=[a,b]:=by
 obtain⟨a,t,rfl,h'⟩:=xl0 (n:=1) h;obtain⟨b,rfl⟩:=xl1 h';exact⟨a,b,rfl⟩
theorem xl3 {A:Type _}{us:List A}(h:us.length=3):∃a b c,us=[a,b,c]:=by
 obtain⟨a,t,rfl,h'⟩:=xl0 (n:=2) h;obtain⟨b,c,rfl⟩:=xl2 h';exact⟨a,b,c,rfl⟩
theorem xl4 {A:Type _}{us:List A}(h:us.length=4):∃a b c d,us=[a,b,c,d]:=by
 obtain⟨a,t,rfl,h'⟩:=xl0 (n:=3) h;obtain⟨b,c,d,rfl⟩:=xl3 h';exact⟨a,b,c,d,rfl⟩
set_option Elab.async false
set_option linter.all false
set_option maxRecDepth 100000
theorem zF {P0 P1 P2 P3 P4:Prop}{Z:Prop}(h:P0/\P1/\P2/\P3/\P4)(z:P0->P1->P2->P3->P4->Z):Z:=by
 obtain⟨h0,h1,h2,h3,h4⟩:=h;exact z h0 h1 h2 h3 h4
theorem lZ {P0 P1 P2 P3 P4 P5:Prop}{Z:Prop}(h:P0/\P1/\P2/\P3/\P4/\P5)(z:P0->P1->P2->P3->P4->P5->Z):Z:=by
 obtain⟨h0,h1,h2,h3,h4,h5⟩:=h;exact z h0 h1 h2 h3 h4 h5
theorem gH {Ta:Sort _}{P0 P1 P2 P3:Ta->Prop}{Z:Prop}(h:∃a,P0 a/\P1 a/\P2 a/\P3 a)(z:∀a,P0 a->P1 a->P2 a->P3 a->Z):Z:=by
 obtain⟨a,h0,h1,h2,h3⟩:=h;exact z a h0 h1 h2 h3
theorem Vg {Ta:Sort _}{P0 P1 P2 P3 P4:Ta->Prop}{Z:Prop}(h:∃a,P0 a/\P1 a/\P2 a/\P3 a/\P4 a)(z:∀a,P0 a->P1 a->P2 a->P3 a->P4 a->Z):Z:=by
 obtain⟨a,h0,h1,h2,h3,h4⟩:=h;exact z a h0 h1 h2 h3 h4
theorem zR {Ta Tb:Sort _}{P0 P1 P2:Ta->Tb->Prop}{Z:Prop}(h:∃a b,P0 a b/\P1 a b/\P2 a b)(z:∀a,∀b,P0 a b->P1 a b->P2 a b->Z):Z:=by
 obtain⟨a,b,h0,h1,h2⟩:=h;exact z a b h0 h1 h2
theorem uh {Ta Tb:Sort _}{P0 P1 P2 P3:Ta->Tb->Prop}{Z:Prop}(h:∃a b,P0 a b/\P1 a b/\P2 a b/\P3 a b)(z:∀a,∀b,P0 a b->P1 a b->P2 a b->P3 a b->Z):Z:=by
 obtain⟨a,b,h0,h1,h2,h3⟩:=h;exact z a b h0 h1 h2 h3
theorem vG {Ta Tb:Sort _}{P0 P1 P2 P3 P4:Ta->Tb->Prop}{Z:Prop}(h:∃a b,P0 a b/\P1 a b/\P2 a b/\P3 a b/\P4 a b)(z:∀a,∀b,P0 a b->P1 a b->P2 a b->P3 a b->P4 a b->Z):Z:=by
 obtain⟨a,b,h0,h1,h2,h3,h4⟩:=h;exact z a b h0 h1 h2 h3 h4
theorem K4 {Ta Tb:Sort _}{P0 P1 P2 P3 P4 P5:Ta->Tb->Prop}{Z:Prop}(h:∃a b,P0 a b/\P1 a b/\P2 a b/\P3 a b/\P4 a b/\P5 a b)(z:∀a,∀b,P0 a b->P1 a b->P2 a b->P3 a b->P4 a b->P5 a b->Z):Z:=by
 obtain⟨a,b,h0,h1,h2,h3,h4,h5⟩:=h;exact z a b h0 h1 h2 h3 h4 h5
theorem JP {Ta Tb Tc:Sort _}{P0 P1:Ta->Tb->Tc->Prop}{Z:Prop}(h:∃a b c,P0 a b c/\P1 a b c)(z:∀a,∀b,∀c,P0 a b c->P1 a b c->Z):Z:=by
 obtain⟨a,b,c,h0,h1⟩:=h;exact z a b c h0 h1
theorem Kd {Ta Tb Tc:Sort _}{P0 P1 P2:Ta->Tb->Tc->Prop}{Z:Prop}(h:∃a b c,P0 a b c/\P1 a b c/\P2 a b c)(z:∀a,∀b,∀c,P0 a b c->P1 a b c->P2 a b c->Z):Z:=by
 obtain⟨a,b,c,h0,h1,h2⟩:=h;exact z a b c h0 h1 h2
theorem sU {Ta Tb Tc:Sort _}{P0 P1 P2 P3:Ta->Tb->Tc->Prop}{Z:Prop}(h:∃a b c,P0 a b c/\P1 a b c/\P2 a b c/\P3 a b c)(z:∀a,∀b,∀c,P0 a b c->P1 a b c->P2 a b c->P3 a b c->Z):Z:=by
 obtain⟨a,b,c,h0,h1,h2,h3⟩:=h;exact z a b c h0 h1 h2 h3
theorem Pg {Ta Tb Tc:Sort _}{P0 P1 P2 P3 P4:Ta->Tb->Tc->Prop}{Z:Prop}(h:∃a b c,P0 a b c/\P1 a b c/\P2 a b c/\P3 a b c/\P4 a b c)(z:∀a,∀b,∀c,P0 a b c->P1 a b c->P2 a b c->P3 a b c->P4 a b c->Z):Z:=by
 obtain⟨a,b,c,h0,h1,h2,h3,h4⟩:=h;exact z a b c h0 h1 h2 h3 h4
theorem Cp {Ta Tb Tc:Sort _}{P0 P1 P2 P3 P4 P5:Ta->Tb->Tc->Prop}{Z:Prop}(h:∃a b c,P0 a b c/\P1 a b c/\P2 a b c/\P3 a b c/\P4 a b c/\P5 a b c)(z:∀a,∀b,∀c,P0 a b c->P1 a b c->P2 a b c->P3 a b c->P4 a b c->P5 a b c->Z):Z:=by
 obtain⟨a,b,c,h0,h1,h2,h3,h4,h5⟩:=h;exact z a b c h0 h1 h2 h3 h4 h5
theorem aaq {Ta Tb Tc Td:Sort _}{P0 P1:Ta->Tb->Tc->Td->Prop}{Z:Prop}(h:∃a b c d,P0 a b c d/\P1 a b c d)(z:∀a,∀b,∀c,∀d,P0 a b c d->P1 a b c d->Z):Z:=by
 obtain⟨a,b,c,d,h0,h1⟩:=h;exact z a b c d h0 h1
theorem adA {Ta Tb Tc Td:Sort _}{P0 P1 P2:Ta->Tb->Tc->Td->Prop}{Z:Prop}(h:∃a b c d,P0 a b c d/\P1 a b c d/\P2 a b c d)(z:∀a,∀b,∀c,∀d,P0 a b c d->P1 a b c d->P2 a b c d->Z):Z:=by
 obtain⟨a,b,c,d,h0,h1,h2⟩:=h;exact z a b c d h0 h1 h2
theorem gG {Ta Tb Tc Td:Sort _}{P0 P1 P2 P3 P4:Ta->Tb->Tc->Td->Prop}{Z:Prop}(h:∃a b c d,P0 a b c d/\P1 a b c d/\P2 a b c d/\P3 a b c d/\P4 a b c d)(z:∀a,∀b,∀c,∀d,P0 a b c d->P1 a b c d->P2 a b c d->P3 a b c d->P4 a b c d->Z):Z:=by
 obtain⟨a,b,c,d,h0,h1,h2,h3,h4⟩:=h;exact z a b c d h0 h1 h2 h3 h4
theorem tW {Ta Tb Tc Td Te:Sort _}{P0 P1:Ta->Tb->Tc->Td->Te->Prop}{Z:Prop}(h:∃a b c d e,P0 a b c d e/\P1 a b c d e)(z:∀a,∀b,∀c,∀d,∀e,P0 a b c d e->P1 a b c d e->Z):Z:=by
 obtain⟨a,b,c,d,e,h0,h1⟩:=h;exact z a b c d e h0 h1
theorem Jv {Ta Tb Tc Td Te:Sort _}{P0 P1 P2 P3 P4 P5 P6:Ta->Tb->Tc->Td->Te->Prop}{Z:Prop}(h:∃a b c d e,P0 a b c d e/\P1 a b c d e/\P2 a b c d e/\P3 a b c d e/\P4 a b c d e/\P5 a b c d e/\P6 a b c d e)(z:∀a,∀b,∀c,∀d,∀e,P0 a b c d e->P1 a b c d e->P2 a b c d e->P3 a b c d e->P4 a b c d e->P5 a b c d e->P6 a b c d e->Z):Z:=by
 obtain⟨a,b,c,d,e,h0,h1,h2,h3,h4,h5,h6⟩:=h;exact z a b c d e h0 h1 h2 h3 h4 h5 h6
namespace L2
open PySem PySem.Spec PyProof.Rows
abbrev Key:=Sum Int Str
noncomputable def wH:Key->aS->Bool
 | .inl k,v=>Value.isInt k v
 | .inr x,v=>Value.isStrOf x v
noncomputable def ac7 (w:fI):Key->Int
 | .inl k=>hashInt k
 | .inr x=>hashStr w x
theorem bW:∀{k:Key} {v:aS},wH k v=true->(∃i t,k=A0 i/\v=AL i t)\/(∃x t,k=vF x/\v=tq x t)
 | .inl i,v,h=>by
  obtain⟨t,e⟩:=Value.isInt_shape (k:=i) (v:=v) h;exact .inl ⟨i,t,rfl,e⟩
 | .inr x,v,h=>by
  obtain⟨t,e⟩:=Value.isStrOf_shape (x:=x) (v:=v) h;exact .inr ⟨x,t,rfl,e⟩
theorem RV (i:Int)(t:Tok):wH (.inl i) (.int i t)=true:=by simp[wH,Value.isInt]
theorem Sv (x:Str)(t:Tok):wH (.inr x) (.str x t)=true:=by simp[wH,Value.isStrOf]
theorem ach (a b:Int):decide ((A0 a:Key)=A0 b)=(a==b):=by
 by_cases e:a=b
 ·subst e;simp
 ·have h:¬(A0 a:Key)=A0 b:=λq=>e<|Sum.inl.inj q;rw[decide_eq_false h];exact(beq_eq_false_iff_ne.mpr e).symm
theorem acX (a b:Str):decide ((vF a:Key)=vF b)=decide (a=b):=by
 by_cases e:a=b
 ·subst e;simp
 ·have h:¬(vF a:Key)=vF b:=λq=>e<|Sum.inr.inj q;rw[decide_eq_false h,decide_eq_false e]
theorem acb (a:Int)(b:Str):decide ((A0 a:Key)=vF b)=false:=decide_eq_false λq=>nomatch q
theorem abT (a:Str)(b:Int):decide ((vF a:Key)=A0 b)=false:=decide_eq_false λq=>nomatch q
def jc (prog:cy)(w:fI):PySem.KeyKind prog w Key where
 is:=wH
 hash:=ac7 w
 inj:=λv a b ha hb=>by
  rcases bW ha with⟨i,t,rfl,rfl⟩|⟨x,t,rfl,rfl⟩
  ·rcases bW hb with⟨j,u,rfl,e⟩|⟨y,u,rfl,e⟩
   ·injection e with e1 _;rw[e1]
   ·exact nomatch e
  ·rcases bW hb with⟨j,u,rfl,e⟩|⟨y,u,rfl,e⟩
   ·exact nomatch e
   ·injection e with e1 _;rw[e1]
 byValue:=λk v h=>by
  rcases bW h with⟨i,t,rfl,rfl⟩|⟨x,t,rfl,rfl⟩<;>rfl
 pyHash:=λhv h=>by
  rcases bW hv with⟨i,t,rfl,rfl⟩|⟨x,t,rfl,rfl⟩
  ·exact wpAny_pyHash_int h
  ·exact wpAny_pyHash_str h
 eqBool:=λhu hv h=>by
  rcases bW hu with⟨i,t,rfl,rfl⟩|⟨x,t,rfl,rfl⟩
  ·rcases bW hv with⟨j,u,rfl,rfl⟩|⟨y,u,rfl,rfl⟩
   ·rw[ach] at h;exact wpAny_eqBool_int h
   ·rw[acb] at h;exact SeqAt.EqAt.int_str i t y u _ _ _ _ h
  ·rcases bW hv with⟨j,u,rfl,rfl⟩|⟨y,u,rfl,rfl⟩
   ·rw[abT] at h;exact SeqAt.EqAt.str_int x t j u _ _ _ _ h
   ·rw[acX] at h;exact wpAny_eqBool_str h
 «strs»:=λk x t v h=>by
  rcases bW h with⟨i,u,rfl,e⟩|⟨y,u,rfl,e⟩
  ·exact nomatch e
  ·injection e with e1 _
   subst e1;cases v<;>rfl
theorem J0 (prog:cy)(w:fI)(i:Int)(t:Tok):(jc prog w).is (.inl i) (.int i t)=true:=RV i t
theorem Kg (prog:cy)(w:fI)(x:Str)(t:Tok):(jc prog w).is (.inr x) (.str x t)=true:=Sv x t
inductive Kt where
 |k (x:Key)|t (xs:List Kt)
mutual
def Kt.dec:(a b:Kt)->Decidable (a=b)
 | .k x,.k y=>if h:x=y then .isTrue (by rw[h]) else .isFalse λe=>h<|by injection e
 | .t xs,.t ys=>match Kt.decs xs ys with
  | .isTrue h=>.isTrue<|by rw[h]
  | .isFalse h=>.isFalse λe=>h<|by injection e
 | .k _,.t _=>.isFalse λe=>nomatch e
 | .t _,.k _=>.isFalse λe=>nomatch e
def Kt.decs:(a b:List Kt)->Decidable (a=b)
 |[],[]=>.isTrue rfl
 |[],_::_=>.isFalse λe=>nomatch e
 |_::_,[]=>.isFalse λe=>nomatch e
 |x::xs,y::ys=>match Kt.dec x y,Kt.decs xs ys with
  | .isTrue h,.isTrue g=>.isTrue<|by rw[h,g]
  | .isFalse h,_=>.isFalse λe=>h<|by injection e
  |_,.isFalse g=>.isFalse λe=>g<|by injection e
end
instance:DecidableEq Kt:=Kt.dec
mutual
def vX (w:fI):Kt->Int
 | .k x=>ac7 w x
 | .t xs=>reduceHash<|gS<|nG w xs
def nG (w:fI):List Kt->List Int
 |[]=>[]
 |x::xs=>vX w x::nG w xs
end
mutual
def uV:Kt->Nat
 | .k _=>1
 | .t xs=>eZ xs+1
def eZ:List Kt->Nat
 |[]=>0
 |x::xs=>uV x+eZ xs
end
def mj (h:Heap):Nat->Kt->aS->Prop
 |_,.k x,v=>wH x v=true
 |0,.t _,_=>False
 |n+1,.t xs,v=>∃a o items m,v=.ref a/\h.get? a=some o/\o.cls=.type "tuple"/\o.data=.seq items m/\kQ (mj h n) xs items.toList
theorem lq:mj h (n+1) (.t xs) v↔∃a o items m,v=.ref a/\h.get? a=some o/\o.cls=.type "tuple"/\o.data=.seq items m/\kQ (mj h n) xs items.toList:=by rw[mj]
theorem qg:mj h n (.k x) v↔wH x v=true:=by cases n<;>rw[mj]
theorem DR {α β:Type}{F G:α->β->Prop}(f:∀a b,F a b->G a b):∀{l:List α} {m:List β},kQ F l m->kQ G l m
 |_,_,.nil=>.nil
 |_,_,.cons r t=>.cons (f _ _ r)<|DR f t
theorem CW {α β:Type}{F:α->β->Prop}(f:∀x y b,F x b->F y b->x=y):∀{l l':List α} {m:List β},kQ F l m->kQ F l' m->l=l'
 |_,_,_,.nil,.nil=>rfl
 |_,_,_,.cons r t,.cons r' t'=>by rw[f _ _ _ r r',CW f t t']
theorem Di {h:Heap}:∀(n:Nat) (x y:Kt) (v:aS),mj h n x v->mj h n y v->x=y
 |n,.k x,.k y,v,hx,hy=>by
  rw[qg] at hx hy;rcases bW hx with⟨i,t,rfl,rfl⟩|⟨z,t,rfl,rfl⟩
  ·rcases bW hy with⟨j,u,rfl,e⟩|⟨y,u,rfl,e⟩
   ·injection e with e1 _;rw[e1]
   ·exact nomatch e
  ·rcases bW hy with⟨j,u,rfl,e⟩|⟨y,u,rfl,e⟩
   ·exact nomatch e
   ·injection e with e1 _;rw[e1]
 |0,.t _,_,_,hx,_=>by rw[mj] at hx;exact hx.elim
 |0,.k _,.t _,_,_,hy=>by rw[mj] at hy;exact hy.elim
 |n+1,.k x,.t ys,v,hx,hy=>by
  rw[qg] at hx;refine aaq (lq.mp hy) λa _ _ _ e _=>?_;subst e;rcases bW hx with⟨_,_,_,e⟩|⟨_,_,_,e⟩<;>exact nomatch e
 |n+1,.t xs,.k y,v,hx,hy=>by
  rw[qg] at hy;refine aaq (lq.mp hx) λa _ _ _ e _=>?_;subst e;rcases bW hy with⟨_,_,_,e⟩|⟨_,_,_,e⟩<;>exact nomatch e
 |n+1,.t xs,.t ys,v,hx,hy=>by
  refine gG (lq.mp hx) λa o it m e g _ d p=>?_;refine gG (lq.mp hy) λa' o' it' m' e' g' _ d' p'=>?_;subst e;injection e' with e'
  subst e';cases g.symm.trans g';rw[d] at d';injection d' with d' _
  subst d';rw[CW (Di n) p p']
theorem BK {h h':Heap}{d:Addr}{o:Obj}{es ep}(ho:h.get? d=some o)(hd:o.data=.dict es ep)(hs:kx d h h'):∀(n:Nat) (x:Kt) (v:aS),mj h n x v->mj h' n x v
 |n,.k x,v,hx=>by rw[qg] at hx ⊢;exact hx
 |0,.t _,_,hx=>by rw[mj] at hx;exact hx.elim
 |n+1,.t xs,v,hx=>by
  refine gG (lq.mp hx) λa o' it m e g c dd p=>?_;have ne:a≠d:=by
   rintro rfl;cases g.symm.trans ho;rw[hd] at dd;cases dd
  exact lq.mpr ⟨a,o',it,m,e,(hs.2 a ne).trans g,c,dd,DR (BK ho hd hs n) p⟩
section
theorem zE (w:fI):∀xs:List Kt,nG w xs=xs.map (vX w)
 |[]=>by rw[nG];rfl
 |x::xs=>by rw[nG,zE w xs];rfl
theorem xO:∀xs ys:List Kt,eZ (xs++ys)=eZ xs+eZ ys
 |[],ys=>by rw[kS,eZ,A7]
 |x::xs,ys=>by rw[List.cons_append,eZ,eZ,xO xs ys,vS]
theorem Il (x:Kt):eZ [x]=uV x:=by rw[eZ,eZ,Nat.add_zero]
theorem Ff:∀(n:Nat) {A:iN} {s:bq} {x:Kt} {v:aS} {Q:Int->bq->Prop},A.units+n<mm->mj s.heap n x v->Q (vX wo x) { s with toks:=s.toks+uV x }->bt (dr pr wo) A (pyHash v) Q E s
 |n,A,s,.k x,v,Q,hu,hx,q=>by
  rw[qg] at hx;rw[vX,uV] at q;exact(jc pr wo).pyHash hx q
 |0,_,_,.t _,_,_,_,hx,_=>by rw[mj] at hx;exact hx.elim
 |n+1,A,s,.t xs,v,Q,hu,hx,h=>by
  refine gG (lq.mp hx) λa o items m e ho hc hd hi=>?_;subst e;have hT:s.TypeIs (.ref a) "tuple":=⟨o,ho,hc⟩;rw[vX,uV] at h;unfold pyHash
  first|unfold pyHashByItsType|skip
  first|refine ae (wpAny_cRoomFor_or (.inr<|by lia) ?_)|skip
  refine ae<|mo hT l0.lookup ?_;show bt _ _ (if(some (Value.builtin "tuple.__hash__")==some i9)=true then _ else _) Q E s;rw[if_neg (by rw[beq_builtin_none];exact be)];refine ae<|mo hT l0.lookup ?_;show bt _ _ (callSpecialIfBoundUnlessNone? (.ref a) "__hash__" _ >>= _) Q E s;refine ae<|wpAny_callSpecialIfBoundUnlessNone?_slot hT l0<|c8 l0 hT PySem.F.entry_tuple_hash ?_<|PySem.F.args_tuple_hash_1 _;show bt _ _ (sD (.ref a) >>= _) _ _ s;refine ae<|wpAny_tupleItemsOf ho hd ?_;refine ae ?_;rw[← AM];refine qA _
   (λrest (b:Array Int) s'=>∃done left,xs=done++left/\kQ (mj s.heap n) left rest/\b.toList=done.map (vX wo)/\s'={ s with toks:=s.toks+eZ done })
   _ ?_ ?_ _ _ ⟨[],xs,rfl,hi,rfl,by rw[eZ];rfl⟩
  ·rintro x rest b s' ⟨done,left,rfl,hl,hb,rfl⟩;cases hl with
   | @cons k _ ks' _ h1 hl'=>
    refine ae<|Ff n (A:=A.in1) (show A.units+1+n<mm by lia) (s:={ s with toks:=s.toks+eZ done }) h1 ?_;refine ag ⟨done++[k],ks',by simp,hl',by simp[hb],?_⟩;rw[xO,Il,vS]
  ·rintro b s' ⟨done,left,rfl,hl,hb,rfl⟩;cases hl;rw[eR] at h;show bt _ _ (retInt<|gS b.toList) _ _ _;rw[hb,← zE];refine wpAny_ret_mkInt ?_;show bt _ _ (if(decide (-(2:Int)^63<=gS (nG wo done))&&decide (gS (nG wo done)<2^63))=true then _ else _) Q E _;unfold reduceHash at h;by_cases hr:(decide (-(2:Int)^63<=gS (nG wo done))&&decide (gS (nG wo done)<2^63))=true
   ·rw[if_pos hr];rw[if_pos hr] at h;exact ag<|by simpa[vS] using h
   ·rw[if_neg hr];rw[if_neg hr] at h;exact ae<|pV<|ag<|by simpa[vS] using h
noncomputable def uF (xs ys:List Kt)(j:Nat):Bool:=match xs[j]?,ys[j]? with
 |some x,some y=>decide<|x=y
 |_,_=>true
theorem Dh:∀xs ys:List Kt,((cf<|min xs.length ys.length).all (uF xs ys)&&xs.length==ys.length)=decide (xs=ys)
 |[],[]=>by simp
 |[],_::_=>by simp
 |_::_,[]=>by simp
 |x::xs,y::ys=>by
  have ih:=Dh xs ys;rw[cw,cw,Nat.succ_min_succ,xy,List.all_cons,List.all_map];have e:(uF (x::xs) (y::ys)∘Nat.succ)=uF xs ys:=by funext j;simp[uF]
  rw[e];have e0:uF (x::xs) (y::ys) 0=decide (x=y):=by simp[uF]
  rw[e0,Bool.and_assoc];have e1:((xs.length+1==ys.length+1):Bool)=(xs.length==ys.length):=by simp
  rw[e1,ih];by_cases a:x=y<;>by_cases b:xs=ys<;>simp[a,b]
theorem yK:∀{l:List α} {m:List β} (j:Nat) (h:j<m.length),kQ F l m->∃a,l[j]? = some a/\F a m[j]
 |_,_,j,h,.nil=>absurd h<|Nat.not_lt_zero _
 |_,_,0,_,.cons r _=>⟨_,rfl,r⟩
 |_,_,j+1,h,.cons _ t=>by
  obtain⟨a,h1,h2⟩:=yK j (by simpa using h) t;exact⟨a,by simpa using h1,by simpa using h2⟩
theorem Nr:∀(n:Nat) (A:iN) (s:bq) (x y:Kt) (v u:aS),A.units+n<mm->mj s.heap n x v->mj s.heap n y u->A1 A s v u (decide<|x=y)
 |n,A,s,.k x,.k y,v,u,hu,hx,hy=>by
  rw[qg] at hx hy;intro pr wo E Q q;refine(jc pr wo).eqBool (a:=x) (b:=y) hx hy ?_;have e:decide (Kt.k x=Kt.k y)=decide (x=y):=decide_eq_decide.mpr ⟨λe=>by injection e,λe=>by rw[e]⟩;rw[← e];exact q
 |0,_,_,.t _,_,_,_,_,hx,_=>by rw[mj] at hx;exact hx.elim
 |0,_,_,.k _,.t _,_,_,_,_,hy=>by rw[mj] at hy;exact hy.elim
 |n+1,A,s,.k x,.t ys,v,u,hu,hx,hy=>by
  rw[qg] at hx;refine gG (lq.mp hy) λa o it m e g c d _=>?_;subst e;have hl:s.heap.IsTuple a it:=⟨o,g,c,m,d⟩;rw[show decide (Kt.k x=Kt.t ys)=false from decide_eq_false λe=>nomatch e];rcases bW hx with⟨i,t,rfl,rfl⟩|⟨z,t,rfl,rfl⟩
  ·exact SeqAt.EqAt.int_tuple i t hl<|by lia
  ·exact SeqAt.EqAt.str_tuple z t hl<|by lia
 |n+1,A,s,.t xs,.k y,v,u,hu,hx,hy=>by
  rw[qg] at hy;refine gG (lq.mp hx) λa o it m e g c d _=>?_;subst e;have hl:s.heap.IsTuple a it:=⟨o,g,c,m,d⟩;rw[show decide (Kt.t xs=Kt.k y)=false from decide_eq_false λe=>nomatch e];rcases bW hy with⟨i,t,rfl,rfl⟩|⟨z,t,rfl,rfl⟩
  ·exact SeqAt.EqAt.tuple_int i t hl<|by lia
  ·exact SeqAt.EqAt.tuple_str z t hl<|by lia
 |n+1,A,s,.t xs,.t ys,v,u,hu,hx,hy=>by
  have hx':=hx;have hy':=hy;refine gG (lq.mp hx) λa o it m e g c d p=>?_;refine gG (lq.mp hy) λa' o' it' m' e' g' c' d' p'=>?_;subst e e';by_cases ne:a=a'
  ·subst ne;rw[Di _ _ _ _ hx' hy',decide_eq_true rfl];exact SeqAt.EqAt.same _
  ·have hl:s.heap.IsTuple a it:=⟨o,g,c,m,d⟩;have hl':s.heap.IsTuple a' it':=⟨o',g',c',m',d'⟩;have n1:it.size=xs.length:=by have:=ia p;simpa using this.symm
   have n2:it'.size=ys.length:=by have:=ia p';simpa using this.symm
   have e2:decide (Kt.t xs=Kt.t ys)=decide (xs=ys):=decide_eq_decide.mpr ⟨λe=>by injection e,λe=>by rw[e]⟩;rw[e2,← Dh xs ys,← n1,← n2];refine SeqAt.EqAt.of_refs ne<|SeqAt.RcAt.tuples hl hl' (by lia) λj j1 j2=>?_;obtain⟨b,q1,q2⟩:=yK j (by simpa using j1) p;obtain⟨b',r1,r2⟩:=yK j (by simpa using j2) p'
   have:uF xs ys j=decide (b=b'):=by unfold uF;rw[q1,r1]
   rw[this];exact Nr n A.in1 s b b' _ _ (show A.units+1+n<mm by lia) (by simpa using q2) (by simpa using r2)
theorem OJ:∀(n:Nat) {A:iN} {s:bq} {x:Kt} {v:aS} {Q:Bool->bq->Prop},mj s.heap n x v->Q true s->bt (dr pr wo) A (eqIsQuiet n v) Q E s
 |n,A,s,.k x,v,Q,hx,q=>by
  rw[qg] at hx;rw[eqIsQuiet_byValue _<|(jc pr wo).byValue _ _ hx];exact ag q
 |0,_,_,.t _,_,_,hx,_=>by rw[mj] at hx;exact hx.elim
 |n+1,A,s,.t xs,v,Q,hx,h=>by
  refine gG (lq.mp hx) λa o items m e ho hc hd hi=>?_;subst e;have hT:s.TypeIs (.ref a) "tuple":=⟨o,ho,hc⟩;unfold eqIsQuiet;refine ae<|mo hT PySem.F.slot_tuple_eq.lookup ?_;show bt _ _ (isInstance (.ref a) (.type "tuple") >>= _) _ _ s;refine ae<|kl hT isSubtype_tuple_tuple ?_;simp only[vT,f7,if_false];refine ae<|iS ho hd<|ae ?_;show bt _ _ (forIn items _ _) _ _ s;rw[← AM];refine qA _ (λrest r s'=>r.1=none/\s'=s/\∃ks,kQ (mj s.heap n) ks rest) _ ?_ ?_ _ _ ⟨rfl,rfl,xs,hi⟩
  ·rintro v rest r s' ⟨hr,rfl,ks,al⟩;cases al with
   |cons h1 al'=>
    refine ae<|OJ n h1 ?_;simp only[vT,f7,if_false];exact ag ⟨rfl,rfl,_,al'⟩
  ·rintro⟨r1,r2⟩ s' ⟨hr,rfl,_⟩;simp only at hr;subst hr;exact ag h
end
def jW (pr:cy)(wo:fI):HeapKind pr wo (List Kt) where
 is:=λh ks a=>mj h 8 (.t ks)<|.ref a
 hash:=λks=>vX wo<|.t ks
 draws:=λks=>uV<|.t ks
 room:=λA=>A.units+8<mm
 inj:=λa b=>by have:=Di _ _ _ _ a b;injection this
 keeps:=λx a b c=>BK a b c _ _ _ x
 pyHash:=λa b c=>Ff 8 a b c
 eqBool:=λ{A E s x y a b Q} h1 h2 h3 h4=>by
  refine Nr 8 A s _ _ _ _ h1 h2 h3 _ _ _ _ ?_;rw[show decide (Kt.t x=Kt.t y)=decide (x=y) from decide_eq_decide.mpr ⟨λe=>by injection e,λe=>by rw[e]⟩];exact h4
 quiet:=λa b=>OJ 8 a b
inductive V where
 |non|bl (b:Bool)|int (i:Int)|str (x:Str)|byt (b:Array UInt8)|flt (b:UInt64)|ref (a:Addr)|ty (n:String)
 deriving DecidableEq
def RelV:V->aS->Prop
 | .non,u=>u=i9
 | .bl b,u=>u=A2 b
 | .int i,u=>∃t,u=AL i t
 | .str x,u=>∃t,u=tq x t
 | .byt b,u=>∃t,u=Value.bytes b t
 | .flt b,u=>∃t,u=Value.float b t
 | .ref a,u=>u=cx a
 | .ty n,u=>u=Value.type n
abbrev Vals:List V->List aS->Prop:=kQ RelV
theorem Vals.length (r:Vals xs us):xs.length=us.length:=ia r
theorem Vals.get:∀{xs:List V} {us:List aS} {i:Nat} {x:V},Vals xs us->xs[i]? = some x->∃u,us[i]? = some u/\RelV x u
 |_,_,_,_,.nil,e=>by simp at e
 |_,_,0,_,.cons r _,e=>by simp at e;subst e;exact⟨_,rfl,r⟩
 |_,_,i+1,x,.cons _ t,e=>by
  obtain⟨u,h1,h2⟩:=Vals.get (i:=i) (x:=x) t (by simpa using e);exact⟨u,by simpa using h1,h2⟩
theorem Vals.set (r:RelV x u):∀{xs:List V} {us:List aS} (i:Nat),Vals xs us->Vals (xs.set i x) (us.set i u)
 |_,_,_,.nil=>.nil
 |_,_,0,.cons _ t=>.cons r t
 |_,_,i+1,.cons q t=>.cons q<|Vals.set r i t
theorem Vals.append:∀{xs ys:List V} {us ws:List aS},Vals xs us->Vals ys ws->Vals (xs++ys) (us++ws)
 |_,_,_,_,.nil,s=>s
 |_,_,_,_,.cons r t,s=>.cons r<|Vals.append t s
theorem Vals.take:∀{xs:List V} {us:List aS} (n:Nat),Vals xs us->Vals (xs.take n) (us.take n)
 |_,_,0,_=>.nil
 |_,_,_+1,.nil=>.nil
 |_,_,n+1,.cons r t=>.cons r<|Vals.take n t
theorem Vals.drop:∀{xs:List V} {us:List aS} (n:Nat),Vals xs us->Vals (xs.drop n) (us.drop n)
 |_,_,0,r=>r
 |_,_,_+1,.nil=>.nil
 |_,_,n+1,.cons _ t=>Vals.drop n t
def Bh:Option V->Option aS->Prop
 |some v,some u=>RelV v u
 |none,none=>True
 |_,_=>False
def KV {κ:Type}:List (κ×V)->List (κ×aS)->Prop:=kQ λ(p:κ×V) (q:κ×aS)=>p.1=q.1/\RelV p.2 q.2
noncomputable def kV:Key->V
 | .inl i=>.int i
 | .inr x=>.str x
inductive HO where
  |lst (xs:List V)
  |tup (xs:List V)
  |dK (ι:List (Key×V))|dT (T:Addr->List V->Prop) (ι:List (List Kt×V))
  |set (S:Int->Bool) (n:Nat)
  |ins (C dx:Addr) (fs:List (Str×V))
  |own (x:Addr)
  |xd (fs:List (Str×V))
  |met (f x:Addr)
  |rng (lo hi:Int)
  |frz (o:Obj) (u:HO)
  |tbl (ps:Array aS)
  |ext (φ:Heap->Prop)
abbrev Hp:=Addr->Option HO
noncomputable def upd (H:Hp)(a:Addr)(o:HO):Hp:=λb=>if b=a then some o else H b
theorem aV:upd H a o a=some o:=by unfold upd;rw[if_pos rfl]
theorem bu (h:b≠a):upd H a o b=H b:=by unfold upd;rw[if_neg h]
theorem Dp {H:Hp}{a b:Addr}{o u:HO}(h:H a=some o)(h':H b=some u)(d:o≠u):a≠b:=by
 intro e;subst e;rw[h] at h';exact d<|cE h'
theorem kJ {H:Hp}{a b:Addr}{o:HO}(h:H a=some o)(h':H b=none):a≠b:=by
 intro e;subst e;rw[h] at h';cases h'
mutual
inductive Aa (T:Addr->List V->Prop)(H:Hp):Nat->V->Kt->Prop where
 |k {n:Nat} {x:Key}:Aa T H n (kV x) (.k x)
 |t {n:Nat} {b:Addr} {vs:List V} {ks:List Kt}:(H b=some (.tup vs)\/T b vs)->sZ T H n vs ks->Aa T H (n+1) (.ref b) (.t ks)
inductive sZ (T:Addr->List V->Prop)(H:Hp):Nat->List V->List Kt->Prop where
 |nil {n:Nat}:sZ T H n [] []
 |cons {n:Nat} {v:V} {vs:List V} {k:Kt} {ks:List Kt}:Aa T H n v k->sZ T H n vs ks->sZ T H n (v::vs) (k::ks)
end
def TrT (T:Addr->List V->Prop)(H:Hp)(b:Addr)(ks:List Kt):Prop:=∃vs,(H b=some (.tup vs)\/T b vs)/\sZ T H 7 vs ks
section
mutual
theorem Aa.imp (ht:∀b xs,H b=some (.tup xs)->H' b=some (.tup xs)):∀{n:Nat} {v:V} {k:Kt},Aa T H n v k->Aa T H' n v k
 |_,_,_,.k=>.k
 |_,_,_,.t h hs=>.t (h.imp (ht _ _) id)<|sZ.imp ht hs
theorem sZ.imp (ht:∀b xs,H b=some (.tup xs)->H' b=some (.tup xs)):∀{n:Nat} {vs:List V} {ks:List Kt},sZ T H n vs ks->sZ T H' n vs ks
 |_,_,_,.nil=>.nil
 |_,_,_,.cons h hs=>.cons (Aa.imp ht h)<|sZ.imp ht hs
end
theorem TrT.imp (h:TrT T H b ks)(ht:∀b xs,H b=some (.tup xs)->H' b=some (.tup xs)):TrT T H' b ks:=
 let⟨vs,h1,h2⟩:=h;⟨vs,h1.imp (ht _ _) id,h2.imp ht⟩
end
section
variable (P:cy)(w:fI)
def Kf (h:Heap)(a:Addr)(χ:Array aS):Prop:=∃o,h.get? a=some o/\o.cls=.type "tuple"/\∃n,o.data=.seq χ n/\o.dict=none
theorem Kf.tup {h:Heap}{a:Addr}{χ:Array aS}(x:Kf h a χ):IsTup h a χ:=let⟨o,e,c,n,d,_⟩:=x;⟨o,e,c,n,d⟩
theorem Kf.new (h:Heap)(χ:Array aS):Kf (h.push { cls:=.type "tuple",data:=.seq χ }) h.objs.size χ:=⟨_,aE _ rfl,rfl,_,rfl,rfl⟩
def cV (H:Hp)(h:Heap)(a:Addr):HO->Prop
 | .lst xs=>xs.length<=aw/\∃(χ:List aS) (n:Nat),Vals xs χ/\h.get? a=some { cls:=.type "list",data:=.seq χ.toArray n }
 | .tup xs=>xs.length<=aw/\∃χ:List aS,Vals xs χ/\Kf h a χ.toArray
 | .dK ι=>ι.length<=aw/\(a==eI)=false/\∃vs,KV ι vs/\h.DictOf (jc P w) a vs
 | .dT T ι=>ι.length<=aw/\(a==eI)=false/\∃xs:List (List Kt×Addr×aS),
   kQ (λ(p:List Kt×V) (q:List Kt×Addr×aS)=>p.1=q.1/\TrT T H q.2.1 p.1/\RelV p.2 q.2.2) ι xs/\
   ∃o es ep,h.get? a=some o/\o.ExactDict/\o.data=.dict es ep/\es.toList=xs.map (entryOfKey<|jW P w)/\(xs.map (·.1)).Nodup
 | .set S n=>h.SetOf (intKind P w) a S n
 | .ins C dx fs=>H dx=some (.own a)/\fs.length<=1000/\dx≠a/\h.get? a=some (W.instObj C dx)/\
   ∃mA,h.Ns1 dx mA/\(∀f,Bh (fs.lookup f)<|mA f)/\PySem.Within mA (fs.map (·.1))
 | .own _=>∃o,h.get? a=some o
 | .xd fs=>∃mA,h.Ns1 a mA/\∀f,Bh (fs.lookup f)<|mA f
 | .rng lo hi=>∃t u v,h.get? a=some { cls:=.type "range",data:=.fields #[.int lo t,.int hi u,.int 1 v] }
 | .frz o u=>h.get? a=some o/\cV H h a u
 | .tbl ps=>h.get? a=some { cls:=.none,data:=.fields ps }
 | .met f x=>h.get? a=some (W.methodObj (.ref f)<|.ref x)
 | .ext φ=>φ h/\(∃o,h.get? a=some o)/\∀h1 h2:Heap,φ h1->(∀o,h1.get? a=some o->h2.get? a=some o)->φ h2
def HOk (H:Hp)(h:Heap):Prop:=∀a o,H a=some o->cV P w H h a o
end
section
variable {P:cy}{w:fI}{H H':Hp}{h h':Heap}{a:Addr}{o:HO}
theorem cV.lt (x:cV P w H h a o):a<h.objs.size:=by
 cases o with
 |lst xs=>obtain⟨_,_,_,_,e⟩:=x;exact aI e
 |tup xs=>obtain⟨_,_,_,p⟩:=x;exact p.tup.lt
 |dK ι=>obtain⟨_,_,_,_,o,_,_,e,_⟩:=x;exact aI e
 |dT T ι=>obtain⟨_,_,_,_,o,_,_,e,_⟩:=x;exact aI e
 |set S n=>obtain⟨o,_,_,_,e,_⟩:=x;exact aI e
 |ins C dx fs=>obtain⟨_,_,_,e,_⟩:=x;exact aI e
 |own y=>obtain⟨_,e⟩:=x;exact aI e
 |xd fs=>obtain⟨_,⟨_,_,_,e,_⟩,_⟩:=x;exact aI e
 |rng lo hi=>obtain⟨_,_,_,e⟩:=x;exact aI e
 |frz ob u=>obtain⟨e,_⟩:=x;exact aI e
 |tbl ps=>exact aI (show h.get? a=some _ from x)
 |met f y=>exact aI (show h.get? a=some _ from x)
 |ext φ=>obtain⟨_,⟨_,e⟩,_⟩:=x;exact aI e
theorem kQ.abj:∀{l₁:List α} {l₂:List β},kQ F l₁ l₂->(∀a b,F a b->G a b)->kQ G l₁ l₂
 |_,_,.nil,_=>.nil
 |_,_,.cons r t,f=>.cons (f _ _ r)<|kQ.abj t f
theorem cV.stay (x:cV P w H h a o)(k:∀b u,(b=a\/H b=some (.own a))->h.get? b=some u->h'.get? b=some u)
  (ho:∀b,H b=some (.own a)->H' b=some (.own a)) (ht:∀b xs,H b=some (.tup xs)->H' b=some (.tup xs)):cV P w H' h' a o:=by
 induction o with
 |lst xs=>obtain⟨z,χ,n,r,e⟩:=x;exact⟨z,χ,n,r,k _ _ (.inl rfl) e⟩
 |tup xs=>obtain⟨z,χ,r,ob,e,c⟩:=x;exact⟨z,χ,r,ob,k _ _ (.inl rfl) e,c⟩
 |dK ι=>obtain⟨z,y,vs,r,ob,es,ep,e,c⟩:=x;exact⟨z,y,vs,r,ob,es,ep,k _ _ (.inl rfl) e,c⟩
 |dT T ι=>
  obtain⟨z,y,xs,r,ob,es,ep,e,c⟩:=x;exact⟨z,y,xs,kQ.abj r λp q z=>⟨z.1,z.2.1.imp ht,z.2.2⟩,ob,es,ep,k _ _ (.inl rfl) e,c⟩
 |set S n=>obtain⟨ob,es,ep,t,e,c⟩:=x;exact⟨ob,es,ep,t,k _ _ (.inl rfl) e,c⟩
 |ins C dx fs=>
  obtain⟨d,z,ne,e,mA,⟨od,es,ep,e2,c⟩,r⟩:=x;exact⟨ho _ d,z,ne,k _ _ (.inl rfl) e,mA,⟨od,es,ep,k _ _ (.inr d) e2,c⟩,r⟩
 |own y=>obtain⟨ob,e⟩:=x;exact⟨ob,k _ _ (.inl rfl) e⟩
 |xd fs=>obtain⟨mA,⟨od,es,ep,e,c⟩,r⟩:=x;exact⟨mA,⟨od,es,ep,k _ _ (.inl rfl) e,c⟩,r⟩
 |rng lo hi=>obtain⟨t,u,v,e⟩:=x;exact⟨t,u,v,k _ _ (.inl rfl) e⟩
 |frz ob u ih=>obtain⟨e,q⟩:=x;exact⟨k _ _ (.inl rfl) e,ih q⟩
 |tbl ps=>
  have e:h.get? a=some { cls:=.none,data:=.fields ps }:=x;show h'.get? a=some { cls:=.none,data:=.fields ps };exact k a _ (.inl rfl) e
 |met f y=>
  have e:h.get? a=some (W.methodObj (.ref f)<|.ref y):=x;show h'.get? a=some (W.methodObj (.ref f)<|.ref y);exact k a _ (.inl rfl) e
 |ext φ=>obtain⟨p,⟨o,e⟩,st⟩:=x;exact⟨st _ _ p λo q=>k _ _ (.inl rfl) q,⟨o,k _ _ (.inl rfl) e⟩,st⟩
theorem HOk.lt (x:HOk P w H h)(e:H a=some o):a<h.objs.size:=(x a o e).lt
theorem HOk.fresh (x:HOk P w H h)(e:h.objs.size<=a):H a=none:=by
 cases q:H a with
 |none=>rfl
 |some u=>exact absurd (cm (x.lt q) e) (ib _)
theorem HOk.kept (x:HOk P w H h)(k:∀b u,h.get? b=some u->h'.get? b=some u):HOk P w H h':=λa o e=>
 (x a o e).stay (λb u _ q=>k b u q) (λ_ q=>q) λ_ _ q=>q
theorem HOk.laid (x:HOk P w H h)(k:∀b u,h.get? b=some u->h'.get? b=some u)(hp:h.objs.size<=a)(new:cV P w (upd H a o) h' a o):HOk P w (upd H a o) h':=λb u e=>by
 have hn:=x.fresh hp;by_cases hb:b=a
 ·subst hb;rw[aV] at e;cases e;exact new
 ·rw[bu hb] at e;exact(x b u e).stay (λc v _ q=>k c v q) (λc q=>by rw[bu<|kJ q hn];exact q) λc xs q=>by rw[bu<|kJ q hn];exact q
end
def Rd (H:Hp)(a:Addr)(u:HO):Prop:=H a=some u\/∃o,H a=some (.frz o u)
theorem Rd.ok (r:Rd H a u)(x:HOk P w H h):cV P w H h a u:=by
 rcases r with r|⟨o,r⟩
 ·exact x a u r
 ·obtain⟨_,q⟩:=x a _ r;exact q
def Mut:Option HO->Prop
 |some (.lst _)=>True
 |some (.dK _)=>True
 |some (.dT _ _)=>True
 |some (.set _ _)=>True
 |some (.ins _ _ _)=>True
 |some (.ext _)=>True
 |_=>False
section
theorem HOk.write (ok:HOk P w H h)(mu:Mut (H x))(he:e=x\/H e=some (.own x))(k:∀b u,b≠e->h.get? b=some u->h'.get? b=some u)(heo:∃u,h'.get? e=some u)
  (new:cV P w (upd H x o') h' x o'):HOk P w (upd H x o') h':=λb u q=>by
 have nown:∀c y,H c=some (.own y)->c≠x:=λc y r z=>by subst z;rw[r] at mu;exact mu
 have ntup:∀c xs,H c=some (.tup xs)->c≠x:=λc xs r z=>by subst z;rw[r] at mu;exact mu
 by_cases hb:b=x
 ·subst hb;rw[aV] at q;cases q;exact new
 ·rw[bu hb] at q;by_cases hbe:b=e
  ·have q':H b=some (.own x):=by
    rcases he with z|z
    ·exact absurd (hbe.trans z) hb
    ·rw[hbe];exact z
   rw[q] at q';cases q';obtain⟨v,hv⟩:=heo;exact⟨v,by rw[hbe];exact hv⟩
  ·refine(ok b u q).stay (λc v hc r=>k c v ?_ r) (λc r=>by rw[bu<|nown c b r];exact r) λc xs r=>by rw[bu<|ntup c xs r];exact r
   rcases hc with rfl|hc
   ·exact hbe
   ·rintro rfl;rcases he with z|z
    ·exact nown c b hc z
    ·rw[hc] at z;cases z;exact hb rfl
end
structure Un (fs ex:List Addr)(H H':Hp)(h h':Heap):Prop where
 keep:∀b o,h.get? b=some o->H b=none->b∉fs->b∉ex->h'.get? b=some o
 slot:∀b o,h.get? b=some o->H b=none->b∈fs->b∉ex->∃sl,h'.get? b=some { o with slots:=sl }
 free:∀b o,h.get? b=some o->H b=none->b∉ex->H' b=none
 there:∀b o,h.get? b=some o->b∉ex->∃o',h'.get? b=some o'
 tups:∀b xs,H b=some (.tup xs)->H' b=some (.tup xs)
 frzs:∀b o u,H b=some (.frz o u)->H' b=some (.frz o u)
 tbls:∀b ps,H b=some (.tbl ps)->∃more,H' b=some (.tbl (ps++more))
section
variable {fs fs' ex ex':List Addr}{H H1 H2:Hp}{h h1 h2 h':Heap}{a x e:Addr}{o:HO}
theorem Un.any (u:Un fs ex H H1 h h1){b:Addr}{ob:Obj}(q:h.get? b=some ob)(n:H b=none)(hx:b∉ex):∃sl,h1.get? b=some { ob with slots:=sl }:=by
 by_cases hb:b∈fs
 ·exact u.slot b ob q n hb hx
 ·exact⟨ob.slots,u.keep b ob q n hb hx⟩
theorem Un.kept (k:∀b u,h.get? b=some u->h'.get? b=some u):Un fs ex H H h h':=
 ⟨λb ob q _ _ _=>k b ob q,λb ob q _ _ _=>⟨ob.slots,k b ob q⟩,λ_ _ _ n _=>n,λb ob q _=>⟨ob,k b ob q⟩,λ_ _ q=>q,λ_ _ _ q=>q,λ_ ps q=>⟨#[],by rw[q];simp⟩⟩
theorem Un.refl:Un fs ex H H h h:=Un.kept λ_ _ q=>q
theorem Un.laid (k:∀b u,h.get? b=some u->h'.get? b=some u)(hp:h.objs.size<=a)(hn:H a=none):Un fs ex H (upd H a o) h h' where
 keep:=λb u q _ _ _=>k b u q
 slot:=λb u q _ _ _=>⟨u.slots,k b u q⟩
 free:=λb u q n _=>by rw[bu<|cK<|cm (aI q) hp];exact n
 there:=λb u q _=>⟨u,k b u q⟩
 tups:=λb xs q=>by rw[bu<|kJ q hn];exact q
 frzs:=λb u xs q=>by rw[bu<|kJ q hn];exact q
 tbls:=λb ps q=>⟨#[],by rw[bu<|kJ q hn,q];simp⟩
theorem Un.write (mu:Mut (H x))(he:e=x\/H e=some (.own x))(k:∀b u,b≠e->h.get? b=some u->h'.get? b=some u)(heo:∃u,h'.get? e=some u):Un fs ex H (upd H x o) h h':=by
 have hx:∀b,H b=none->b≠x:=λb n z=>by subst z;rw[n] at mu;exact mu
 have hb:∀b,H b=none->b≠e:=λb n z=>by
  subst z;rcases he with r|r
  ·exact hx b n r
  ·rw[n] at r;cases r
 have hm:∀b u,H b=some u->¬Mut (some u)->b≠x:=λb u q nm z=>by subst z;rw[q] at mu;exact nm mu
 refine⟨λb u q n _ _=>k b u (hb b n) q,λb u q n _ _=>⟨u.slots,k b u (hb b n) q⟩,λb u q n _=>by rw[bu<|hx b n];exact n,λb u q _=>?_,
  λb xs q=>by rw[bu<|hm b _ q λz=>z];exact q,λb u xs q=>by rw[bu<|hm b _ q λz=>z];exact q,λb ps q=>⟨#[],by rw[bu<|hm b _ q λz=>z,q];simp⟩⟩
 by_cases hbe:b=e
 ·subst hbe;exact heo
 ·exact⟨u,k b u hbe q⟩
end
noncomputable def trk (h:Heap)(H:Hp):List Addr:=(cf h.objs.size).filter λa=>(H a).isSome
def Iv (h:Heap)(H:Hp):Heap:=W.hideAll h<|trk h H
theorem Rq (h:Heap)(H:Hp):(Iv h H).objs.size=h.objs.size:=W.hideAll_size _ _
theorem WT (e:h.get? b=some o)(n:H b=none):(Iv h H).get? b=some o:=
 W.hideAll_get _ e λhm=>by
  have q:(H b).isSome=true:=(dy.mp hm).2;rw[n] at q;simp at q
theorem ZW (e:(Iv h H).get? b=some o):h.get? b=some o/\H b=none:=by
 have e':h.get? b=some o:=W.of_hideAll (trk h H) e;refine⟨e',?_⟩;cases q:H b with
 |none=>rfl
 |some x=>
  have hm:b∈trk h H:=dy.mpr ⟨kH.mpr<|aI e',by simp[q]⟩;have z:(Iv h H).get? b=none:=W.hideAll_none (trk h H) hm;rw[z] at e;cases e
structure Mod (K:bP)(mg:Zp)(base:Heap):Prop where
 kin:K.In base
 glob:base.Ns gu mg
 blt:∃mb,base.Ns builtinsNs mb/\∀x:Str,x≠"__name__"->mb x=dA x
 nolimit:base.NoLimit
structure Cx where
 prog:cy
 w:fI
 K:bP
 mg:Zp
 base:Heap
 A:iN
 N:List Str
 s₀:bq
 H₀:Hp
 env:Env
 outer:List Env
 stack:List Env
 ex:List Addr
 fn:Str->Bool
 calm:Bool
 pn:Zl
 xe:Zs
noncomputable def frs (l:List Env):List Addr:=l.filterMap (·.frame)
abbrev Cx.fs (X:Cx):List Addr:=frs X.outer
def Vis (sc:zh)(x:Str):Prop:=sc.names.lookup x=some .local\/sc.names.lookup x=some .cell\/sc.names.lookup x=some .free
def Loc (sc:zh)(x:Str):Prop:=sc.names.lookup x=some .local\/sc.names.lookup x=some .cell
def Look (env:Env)(h:Heap)(m:Zp)(x:Str)(u:aS):Prop:=
 (env.kindOf x=some .local/\m x=some u)\/((env.kindOf x=some .cell\/env.kindOf x=some .free)/\∃c,env.cells.lookup x=some c/\h.IsCell c (some u))
structure Cx.Ok (X:Cx):Prop where
 mod:Mod X.K X.mg X.base
 kind:X.env.scope.kind=.function
 glob:X.env.globals=gu
 blt:X.env.builtins=builtinsNs
 above:X.s₀.heap.objs.size<=X.env.locals
 inj:∀x y c,X.env.cells.lookup x=some c->X.env.cells.lookup y=some c->x=y
 has:∀x,(X.env.kindOf x=some .cell\/X.env.kindOf x=some .free)->∃c,X.env.cells.lookup x=some c
 cab:∀x c,X.fn x=true->X.env.cells.lookup x=some c->X.s₀.heap.objs.size<=c
 hd:X.calm=true->X.A.handled=none
 frames:X.A.frames=some X.stack
 stk:X.stack=X.outer\/(X.stack=X.env::X.outer/\X.env.frame=some X.env.locals)
 exf:∀b∈X.ex,b≠X.env.locals/\∀x c,X.env.cells.lookup x=some c->c≠b
 bs:∀b o,X.base.get? b=some o->X.s₀.heap.get? b=some o/\X.H₀ b=none
 bsz:X.base.objs.size<=X.s₀.heap.objs.size
 noex:∀b o,X.base.get? b=some o->b∉X.ex
 exfs:∀b∈X.ex,b∉X.fs
 CP:X.s₀.heap.FunFrames X.base X.outer
 frf:∀b∈X.fs,X.H₀ b=none
structure Inv (X:Cx)(π:Zl)(σ:List (Option V))(H:Hp)(s:bq):Prop where
 ok:X.Ok
 os:s.os=X.s₀.os
 bare:v3 s.gens
 base:Un X.fs X.ex X.H₀ H X.s₀.heap s.heap
 loc:∃m,s.heap.Ns X.env.locals m/\∀(i:Nat) (x:Str) (v:V),X.N[i]? = some x->σ[i]? = some (some v)->Vis X.env.scope x->∃u,RelV v u/\Look X.env s.heap m x u
 cell:∀x c,X.env.cells.lookup x=some c->∃v,s.heap.IsCell c v
 free:H X.env.locals=none
 freeC:∀x c,X.env.cells.lookup x=some c->H c=none
 pin:∀p∈X.pn++π,s.heap.get? p.1=some p.2/\H p.1=none/\p.1≠X.env.locals/\p.1∉X.fs/\∀v,p.2.data≠.cell v
 hok:HOk X.prog X.w H s.heap
 len:σ.length=X.N.length
section
variable {X:Cx}{π:Zl}{σ:List (Option V)}{H H':Hp}{s:bq}{h':Heap}
theorem Cx.Ok.ae9 (ok:X.Ok){b:Addr}{o:Obj}(e:X.base.get? b=some o):b∉X.fs:=λhb=>by
 have:=(ok.CP.mem hb).1
 rw[e] at this;cases this
theorem Inv.bs (I:Inv X π σ H s):∀b o,X.base.get? b=some o->s.heap.get? b=some o/\H b=none:=λb o e=>
 ⟨I.base.keep b o (I.ok.bs b o e).1 (I.ok.bs b o e).2 (I.ok.ae9 e)<|I.ok.noex b o e,I.base.free b o (I.ok.bs b o e).1 (I.ok.bs b o e).2<|I.ok.noex b o e⟩
theorem Inv.bk (I:Inv X π σ H s):∀b o,X.base.get? b=some o->s.heap.get? b=some o:=λb o e=>(I.bs b o e).1
theorem Inv.mod (I:Inv X π σ H s):Mod X.K X.mg X.base:=I.ok.mod
theorem Inv.kIn (I:Inv X π σ H s):X.K.In s.heap:=I.ok.mod.kin.keeps I.bk
theorem Inv.lt (I:Inv X π σ H s):X.env.locals<s.heap.objs.size:=let⟨_,hn,_⟩:=I.loc;hn.lt
theorem Inv.sz (I:Inv X π σ H s):X.s₀.heap.objs.size<=s.heap.objs.size:=iA I.ok.above<|A8 I.lt
theorem Inv.afg (I:Inv X π σ H s){a:Addr}(h:s.heap.objs.size<=a):a∉X.fs:=λhb=>by
 obtain⟨_,o,ho,_⟩:=I.ok.CP.mem hb;exact absurd (cm (aI ho)<|iA I.sz h)<|ib _
theorem Inv.cne (I:Inv X π σ H s):∀x c,X.env.cells.lookup x=some c->c≠X.env.locals:=λx c e z=>by
 obtain⟨v,o,ho,hd⟩:=I.cell x c e;obtain⟨m,⟨o',es,ep,ho',hd',_⟩,_⟩:=I.loc;rw[z,ho'] at ho;cases ho;rw[hd'] at hd;cases hd
theorem Inv.CP (I:Inv X π σ H s):s.heap.FunFrames X.base X.outer:=by
 have all:∀(l:List Env),(∀b∈frs l,b∈X.fs)->X.s₀.heap.FunFrames X.base l->s.heap.FunFrames X.base l:=by
  intro l;induction l with
  |nil=>intro _ _;trivial
  |cons env r ih=>
   intro hs hl;obtain⟨hk,⟨L,o,hf,hn,ho,hd⟩,hr⟩:=hl;have hL:L∈X.fs:=hs L (by unfold frs;rw[nS,hf];exact ah);obtain⟨sl,e⟩:=I.base.slot L o ho (I.ok.frf L hL) hL λz=>I.ok.exfs L z hL;exact⟨hk,⟨L,_,hf,hn,e,hd⟩,ih (λb hb=>hs b (by unfold frs;rw[nS,hf];exact af _ hb)) hr⟩
 exact all X.outer (λ_ hb=>hb) I.ok.CP
theorem Inv.stack (I:Inv X π σ H s):s.heap.FunFrames X.base X.stack:=by
 rcases I.ok.stk with e|⟨e,hf⟩
 ·rw[e];exact I.CP
 ·rw[e];obtain⟨m,hn,_⟩:=I.loc;refine .cons (by rw[I.ok.kind];decide) hf hn ?_ I.CP;exact Heap.get?_none_of_le<|iA I.ok.bsz I.ok.above
theorem Inv.Iw (I:Inv X π σ H s):∀b∈frs X.stack,b∈X.env.locals::X.fs:=λb hb=>by
 rcases I.ok.stk with e|⟨e,hf⟩
 ·rw[e] at hb;exact af _ hb
 ·rw[e] at hb;unfold frs at hb;rw[nS,hf] at hb;exact hb
theorem Inv.OD (I:Inv X π σ H s):∀b∈frs X.stack,H b=none:=λb hb=>by
 rcases a8.mp (I.Iw b hb) with e|hb
 ·rw[e];exact I.free
 ·obtain⟨_,o,ho,_⟩:=I.ok.CP.mem hb;exact I.base.free b o ho (I.ok.frf b hb) λz=>I.ok.exfs b z hb
theorem Inv.step {g':Array sN}{t':Nat}{d':Drawn}{ch:List Addr}(I:Inv X π σ H s)
  (hch:∀b∈ch,(b∈X.ex\/X.s₀.heap.objs.size<=b)/\b≠X.env.locals/\(∀x c,X.env.cells.lookup x=some c->c≠b)/\∀p∈X.pn++π,p.1≠b)
  (keep:∀b o,b≠X.env.locals->b∉X.fs->b∉ch->s.heap.get? b=some o->H b=none->h'.get? b=some o)
  (slot:∀b o,b≠X.env.locals->b∈X.fs->b∉ch->s.heap.get? b=some o->H b=none->∃sl,h'.get? b=some { o with slots:=sl }) (free:∀b o,b∉ch->s.heap.get? b=some o->H b=none->H' b=none)
  (there:∀b o,b∉ch->s.heap.get? b=some o->∃o',h'.get? b=some o')
  (tups:∀b xs,H b=some (.tup xs)->H' b=some (.tup xs)) (frzs:∀b o u,H b=some (.frz o u)->H' b=some (.frz o u)) (tbls:∀b ps,H b=some (.tbl ps)->∃more,H' b=some (.tbl<|ps++more))
  (ns:∀m,s.heap.Ns X.env.locals m->h'.Ns X.env.locals m) (hok:HOk X.prog X.w H' h') (hg:v3 g'):
  Inv X π σ H' { s with heap:=h',gens:=g',drawn:=d',toks:=t' }:=by
 have neL:∀b o,X.s₀.heap.get? b=some o->b≠X.env.locals:=λb o e=>cK<|cm (aI e) I.ok.above;have neC:∀b o,X.s₀.heap.get? b=some o->b∉X.ex->b∉ch:=λb o e hx hb=>by
  rcases(hch b hb).1 with z|z
  ·exact hx z
  ·exact absurd (cm (aI e) z)<|ib _
 have cellK:∀x c,X.env.cells.lookup x=some c->∀v,s.heap.IsCell c v->h'.IsCell c v:=λx c e v ⟨o,ho,hd⟩=>by
  have nch:c∉ch:=λz=>(hch c z).2.2.1 x c e rfl;by_cases hc:c∈X.fs
  ·obtain⟨sl,q⟩:=slot c o (I.cne x c e) hc nch ho<|I.freeC x c e;exact⟨_,q,hd⟩
  ·exact⟨o,keep c o (I.cne x c e) hc nch ho<|I.freeC x c e,hd⟩
 refine⟨I.ok,I.os,hg,⟨λb o e n hb hx=>?_,λb o e n hb hx=>?_,λb o e n hx=>?_,λb o e hx=>?_,λb xs e=>tups b xs<|I.base.tups b xs e,λb o xs e=>frzs b o xs<|I.base.frzs b o xs e,λb ps e=>?_⟩,?_,λx c e=>?_,?_,λx c e=>?_,λp hp=>?_,hok,I.len⟩
 ·exact keep b o (neL b o e) hb (neC b o e hx) (I.base.keep b o e n hb hx)<|I.base.free b o e n hx
 ·obtain⟨sl,e1⟩:=I.base.slot b o e n hb hx;obtain⟨sl',e2⟩:=slot b _ (neL b o e) hb (neC b o e hx) e1<|I.base.free b o e n hx;exact⟨sl',e2⟩
 ·obtain⟨o',e1⟩:=I.base.there b o e hx;exact free b o' (neC b o e hx) e1<|I.base.free b o e n hx
 ·obtain⟨o',e1⟩:=I.base.there b o e hx;exact there b o' (neC b o e hx) e1
 ·obtain⟨m1,e1⟩:=I.base.tbls b ps e;obtain⟨m2,e2⟩:=tbls b _ e1;exact⟨m1++m2,by rw[e2,AN]⟩
 ·obtain⟨m,hn,hl⟩:=I.loc;refine⟨m,ns m hn,λi x v e1 e2 e3=>?_⟩;obtain⟨u,r,l⟩:=hl i x v e1 e2 e3;refine⟨u,r,?_⟩;rcases l with l|⟨k,c,e,z⟩
  ·exact .inl l
  ·exact .inr ⟨k,c,e,cellK x c e _ z⟩
 ·obtain⟨v,z⟩:=I.cell x c e;exact⟨v,cellK x c e v z⟩
 ·obtain⟨m,⟨o,_,_,ho,_⟩,_⟩:=I.loc;exact free _ o (λz=>(hch _ z).2.1 rfl) ho I.free
 ·obtain⟨v,o,ho,hd⟩:=I.cell x c e;exact free c o (λz=>(hch c z).2.2.1 x c e rfl) ho<|I.freeC x c e
 ·refine zF (I.pin p hp) λe n ne nf d=>?_;have nch:p.1∉ch:=λz=>(hch p.1 z).2.2.2 p hp rfl;exact⟨keep p.1 p.2 ne nf nch e n,free p.1 p.2 nch e n,ne,nf,d⟩
theorem Inv.un {t':Nat}(I:Inv X π σ H s)(u:Un X.fs [] H H' s.heap h')(hok:HOk X.prog X.w H' h'):Inv X π σ H' { s with heap:=h',toks:=t' }:=by
 obtain⟨m,⟨o,es,ep,ho,r⟩,_⟩:=id I.loc;obtain⟨sl,hL⟩:=u.any ho I.free (by simp);exact I.step (g':=s.gens) (d':=s.drawn) (ch:=[]) (λ_ z=>nomatch z) (λb o _ hb _ e n=>u.keep b o e n hb<|by simp) (λb o _ hb _ e n=>u.slot b o e n hb<|by simp) (λb o _ e n=>u.free b o e n<|by simp) (λb o _ e=>u.there b o e<|by simp) u.tups u.frzs u.tbls (λm' hm=>by
  refine JP hm λo' es' ep' ho' r'=>?_;rw[ho] at ho';cases ho';exact⟨_,es',ep',hL,r'⟩) hok I.bare
theorem Inv.call {g':Array sN}{t':Nat}{d':Drawn}{ch:List Addr}(I:Inv X π σ H s)(u:Un (frs X.stack) ch H H' s.heap h')(hok:HOk X.prog X.w H' h')(hg:v3 g')
  (hch:∀b∈ch,(b∈X.ex\/X.s₀.heap.objs.size<=b)/\b≠X.env.locals/\(∀x c,X.env.cells.lookup x=some c->c≠b)/\∀p∈X.pn++π,p.1≠b):
  Inv X π σ H' { s with heap:=h',gens:=g',drawn:=d',toks:=t' }:=by
 obtain⟨m,⟨o,es,ep,ho,r⟩,_⟩:=id I.loc;obtain⟨sl,hL⟩:=u.any ho I.free λz=>(hch _ z).2.1 rfl;exact I.step (ch:=ch) hch (λb o hL hb hc e n=>u.keep b o e n (λz=>(a8.mp<|I.Iw b z).elim hL hb) hc) (λb o _ _ hc e n=>u.any e n hc) (λb o hc e n=>u.free b o e n hc) (λb o hc e=>u.there b o e hc) u.tups u.frzs u.tbls (λm' hm=>by
  refine JP hm λo' es' ep' ho' r'=>?_;rw[ho] at ho';cases ho';exact⟨_,es',ep',hL,r'⟩) hok hg
theorem Inv.turned {t':Nat}{it:Addr}(I:Inv X π σ H s)(k:∀b o,b≠it->s.heap.get? b=some o->h'.get? b=some o)(hn:H it=none)(hL:it≠X.env.locals)
  (h1:it∈X.ex\/X.s₀.heap.objs.size<=it) (h2:∀x c,X.env.cells.lookup x=some c->c≠it) (h3:∀p∈X.pn++π,p.1≠it):Inv X π σ H { s with heap:=h',toks:=t' }:=by
 have nit:∀b u,H b=some u->b≠it:=λb u e z=>by rw[z,hn] at e;cases e
 refine I.step (g':=s.gens) (d':=s.drawn) (ch:=[it]) (λb hb=>?_) (λb o _ _ hc e _=>k b o (λz=>hc<|by simp[z]) e) (λb o _ _ hc e _=>⟨o.slots,k b o (λz=>hc<|by simp[z]) e⟩) (λ_ _ _ _ n=>n)
  (λb o hc e=>⟨o,k b o (λz=>hc<|by simp[z]) e⟩) (λ_ _ e=>e) (λ_ _ _ e=>e) (λb ps e=>⟨#[],by rw[e];simp⟩) (λm hm=>?_) (λb u e=>?_) I.bare
 ·have e:b=it:=by simpa using hb
  subst e;exact⟨h1,hL,h2,h3⟩
 ·refine JP hm λo es ep ho r=>?_;exact⟨o,es,ep,k _ o (eS hL) ho,r⟩
 ·refine(I.hok b u e).stay (λc v hc q=>k c v ?_ q) (λ_ q=>q) λ_ _ q=>q;rcases hc with z|z
  ·rw[z];exact nit b u e
  ·exact nit c _ z
theorem Inv.tok (I:Inv X π σ H s)(t:Nat):Inv X π σ H { s with toks:=t }:=I.un (h':=s.heap) (t':=t) Un.refl I.hok
theorem Inv.kept (I:Inv X π σ H s)(k:∀b u,s.heap.get? b=some u->h'.get? b=some u):Inv X π σ H { s with heap:=h',toks:=t' }:=I.un (Un.kept k)<|I.hok.kept k
theorem Inv.laid (I:Inv X π σ H s)(k:∀b u,s.heap.get? b=some u->h'.get? b=some u)(hp:s.heap.objs.size<=a)(new:cV X.prog X.w (upd H a o) h' a o):
  Inv X π σ (upd H a o) { s with heap:=h',toks:=t' }:=I.un (Un.laid k hp<|I.hok.fresh hp)<|I.hok.laid k hp new
theorem Inv.write (I:Inv X π σ H s)(mu:Mut (H x))(he:e=x\/H e=some (.own x))(k:∀b u,b≠e->s.heap.get? b=some u->h'.get? b=some u)(heo:∃u,h'.get? e=some u)
  (new:cV X.prog X.w (upd H x o) h' x o):Inv X π σ (upd H x o) { s with heap:=h',toks:=t' }:=I.un (Un.write mu he k heo)<|I.hok.write mu he k heo new
theorem Inv.weak (I:Inv X π σ H s)(hl:σ'.length=σ.length)(w:∀(i:Nat) v,σ'[i]? = some (some v)->σ[i]? = some (some v)):Inv X π σ' H s:=
 ⟨I.ok,I.os,I.bare,I.base,let⟨m,hn,hl'⟩:=I.loc;⟨m,hn,λi x v e1 e2 e3=>hl' i x v e1 (w i v e2) e3⟩,I.cell,I.free,I.freeC,I.pin,I.hok,hl.trans I.len⟩
theorem Inv.Qi (I:Inv X π σ H s)(h:∀p∈pins',s.heap.get? p.1=some p.2/\H p.1=none/\p.1≠X.env.locals/\p.1∉X.fs/\∀v,p.2.data≠.cell v):Inv X pins' σ H s:=
 ⟨I.ok,I.os,I.bare,I.base,I.loc,I.cell,I.free,I.freeC,λp hp=>(c6.mp hp).elim (λz=>I.pin p<|fT _ z)<|h p,I.hok,I.len⟩
theorem J3 {N:List Str}(hN:N.Nodup){i j:Nat}{x:Str}(a:N[i]? = some x)(b:N[j]? = some x):i=j:=by
 obtain⟨h1,e1⟩:=fN.mp a;obtain⟨h2,e2⟩:=fN.mp b;exact(List.getElem_inj hN).mp (e1.trans e2.symm)
theorem Eu (I:Inv X π σ H s)(hN:X.N.Nodup)(hi:X.N[i]? = some x)(hx:Loc X.env.scope x)(r:RelV v u)
  (h:∀s',Inv X π (σ.set i<|some v) H s'->(∃a,kx a s.heap s'.heap/\(a=X.env.locals\/X.env.cells.lookup x=some a))->Q () s') (hf:X.fn x=true\/X.env.scope.names.lookup x=some .local:=by first|exact .inl rfl|exact .inr rfl|assumption):bt M A (storeName X.env x u) Q E s:=by
 obtain⟨m,hn,hl⟩:=id I.loc;have hcls:(X.env.scope.kind==.class||(X.env.scope.kind==.module&&X.env.locals != X.env.globals))=false:=by rw[I.ok.kind];rfl
 have hiσ:i<σ.length:=by rw[I.len];exact(fN.mp hi).1
 have cne:=I.cne;have tracked:∀{a:Addr} {h':Heap},(∃o,s.heap.get? a=some o/\H a=none)->kx a s.heap h'->HOk X.prog X.w H h':=λ{a h'} ha hs b ob e=>by
  obtain⟨_,_,hfree⟩:=ha;refine(I.hok b ob e).stay (λc w' hc q=>(hs.2 c ?_).trans q) (λ_ q=>q) λ_ _ q=>q;rintro rfl;rcases hc with rfl|hc
  ·rw[hfree] at e;cases e
  ·rw[hfree] at hc;cases hc
 rcases hx with hk|hk
 ·refine wpAny_storeName_local hk hn (λh' hn' hs=>?_) hcls;refine JP (id hn) λoL _ _ hoL _=>?_;refine h _ ⟨I.ok,I.os,I.bare,⟨λb o e n hb hx=>?_,λb o e n hb hx=>?_,I.base.free,λb o e hx=>?_,I.base.tups,I.base.frzs,I.base.tbls⟩,⟨_,hn',λj y v' e1 e2 e3=>?_⟩,λy c e=>?_,I.free,I.freeC,λp hp=>?_,tracked ⟨oL,hoL,I.free⟩ hs,by simpa using I.len⟩ ⟨_,hs,.inl rfl⟩
  ·exact(hs.2 b<|cK<|cm (aI e) I.ok.above).trans (I.base.keep b o e n hb hx)
  ·obtain⟨sl,e1⟩:=I.base.slot b o e n hb hx;exact⟨sl,(hs.2 b<|cK<|cm (aI e) I.ok.above).trans e1⟩
  ·obtain⟨o',e1⟩:=I.base.there b o e hx;exact⟨o',(hs.2 b<|cK<|cm (aI e) I.ok.above).trans e1⟩
  ·by_cases hj:j=i
   ·subst hj;rw[hi] at e1;cases e1;rw[bo hiσ] at e2;cases e2;exact⟨u,r,.inl ⟨hk,by simp⟩⟩
   ·rw[br<|eS hj] at e2;obtain⟨u',r',q⟩:=hl j y v' e1 e2 e3;refine⟨u',r',?_⟩;rcases q with⟨k,e⟩|⟨k,c,e,z⟩
    ·refine .inl ⟨k,?_⟩
     have:y≠x:=λe=>hj<|J3 hN e1<|e▸hi
     simp[this,e]
    ·exact .inr ⟨k,c,e,z.sameBut hs<|cne y c e⟩
  ·obtain⟨w',z⟩:=I.cell y c e;exact⟨w',z.sameBut hs<|cne y c e⟩
  ·refine zF (I.pin p hp) λe n ne nf d=>?_;exact⟨(hs.2 p.1 ne).trans e,n,ne,nf,d⟩
 ·have hfn:X.fn x=true:=by
   rcases hf with z|z
   ·exact z
   ·rw[z] at hk;cases hk
  obtain⟨c,hc⟩:=I.ok.has x<|.inl hk;obtain⟨w',z⟩:=I.cell x c hc;refine wpAny_storeName_cell I.ok.kind hk hc z λh' hc' hs=>?_;obtain⟨oc,hoc,hocd⟩:=id z;refine h { s with heap:=h' } ⟨I.ok,I.os,I.bare,⟨λb o e n hb hx=>?_,λb o e n hb hx=>?_,I.base.free,λb o e hx=>?_,I.base.tups,I.base.frzs,I.base.tbls⟩,⟨m,hn.sameBut hs<|eS<|cne x c hc,λj y v' e1 e2 e3=>?_⟩,λy c' e=>?_,I.free,I.freeC,λp hp=>?_,tracked ⟨oc,hoc,I.freeC x c hc⟩ hs,by simpa using I.len⟩ ⟨c,hs,.inr hc⟩
  ·exact(hs.2 b<|cK<|cm (aI e)<|I.ok.cab x c hfn hc).trans (I.base.keep b o e n hb hx)
  ·obtain⟨sl,e1⟩:=I.base.slot b o e n hb hx;exact⟨sl,(hs.2 b<|cK<|cm (aI e)<|I.ok.cab x c hfn hc).trans e1⟩
  ·obtain⟨o',e1⟩:=I.base.there b o e hx;exact⟨o',(hs.2 b<|cK<|cm (aI e)<|I.ok.cab x c hfn hc).trans e1⟩
  ·by_cases hj:j=i
   ·subst hj;rw[hi] at e1;cases e1;rw[bo hiσ] at e2;cases e2;exact⟨u,r,.inr ⟨.inl hk,c,hc,hc'⟩⟩
   ·rw[br<|eS hj] at e2;obtain⟨u',r',q⟩:=hl j y v' e1 e2 e3;refine⟨u',r',?_⟩;rcases q with q|⟨k,c',e,z'⟩
    ·exact .inl q
    ·refine .inr ⟨k,c',e,z'.sameBut hs ?_⟩;rintro rfl;exact hj<|J3 hN e1<|I.ok.inj _ _ _ e hc▸hi
  ·by_cases hcc:c'=c
   ·subst hcc;exact⟨_,hc'⟩
   ·obtain⟨w2,z2⟩:=I.cell y c' e;exact⟨w2,z2.sameBut hs hcc⟩
  ·refine zF (I.pin p hp) λe n ne nf d=>?_;refine⟨(hs.2 p.1 ?_).trans e,n,ne,nf,d⟩;intro q;rw[q,hoc] at e;have q':oc=p.2:=cE e;exact d w' (by rw[← q'];exact hocd)
theorem xn (I:Inv X π σ H s)(hN:X.N.Nodup)(hi:X.N[i]? = some x)(hx:Loc X.env.scope x)(r:RelV v u)
  (h:∀s',Inv X π (σ.set i<|some v) H s'->Q () s') (hf:X.fn x=true\/X.env.scope.names.lookup x=some .local:=by first|exact .inl rfl|exact .inr rfl|assumption):bt M A (storeName X.env x u) Q E s:=
 Eu I hN hi hx r (λs' I' _=>h s' I') hf
theorem Inv.call' (I:Inv X π σ H s)(ho:s'.os=s.os)(u:Un (frs X.stack) ch H H' s.heap s'.heap)(hok:HOk X.prog X.w H' s'.heap)(hg:v3 s'.gens)
  (hch:∀b∈ch,(b∈X.ex\/X.s₀.heap.objs.size<=b)/\b≠X.env.locals/\(∀x c,X.env.cells.lookup x=some c->c≠b)/\∀p∈X.pn++π,p.1≠b):Inv X π σ H' s':=by
 obtain⟨h',g',d',t',o'⟩:=s';have e:o'=s.os:=ho;subst e;exact I.call (g':=g') (t':=t') (d':=d') u hok hg hch
end
abbrev XK:=aS->Option Addr->Hp->Prop
abbrev St:=List<|Option V
abbrev VK:=V->Hp->Prop
abbrev TE:=St->Hp->VK->Prop
abbrev TT:=St->Hp->(Bool->Hp->Prop)->Prop
abbrev TA:=St->Hp->(List V->Hp->Prop)->Prop
structure Ends where
 nx:St->Hp->Prop
 rt:VK
 bk:St->Hp->Prop:=λ_ _=>False
 ct:St->Hp->Prop:=λ_ _=>False
abbrev TS:=Ends->St->Hp->Prop
def EP (X:Cx)(π:Zl)(σ:St)(Q:VK)(u:aS)(s':bq):Prop:=∃v H',Inv X π σ H' s'/\RelV v u/\Q v H'
def TP (X:Cx)(π:Zl)(σ:St)(Q:Bool->Hp->Prop)(b:Bool)(s':bq):Prop:=∃H',Inv X π σ H' s'/\Q b H'
def AP (X:Cx)(π:Zl)(σ:St)(Q:List V->Hp->Prop)(us:List aS)(s':bq):Prop:=∃vs H',Inv X π σ H' s'/\Vals vs us/\Q vs H'
def SP (X:Cx)(π:Zl)(D:Ends)(f:Flow)(s':bq):Prop:=
 match f with
 | .next=>∃σ' H',Inv X π σ' H' s'/\D.nx σ' H'
 | .brk=>∃σ' H',Inv X π σ' H' s'/\D.bk σ' H'
 | .cont=>∃σ' H',Inv X π σ' H' s'/\D.ct σ' H'
 | .ret u=>∃v σ' H',Inv X π σ' H' s'/\RelV v u/\D.rt v H'
def PE (X:Cx)(e:Expr)(t:TE):Prop:=
 ∀(π:Zl) (s:bq) (σ:St) (H:Hp) (Q:VK),Inv X π σ H s->t σ H Q->bt (dr X.prog X.w) X.A (eval e X.env) (EP X π σ Q) X.xe s
def PT (X:Cx)(e:Expr)(t:TT):Prop:=
 ∀(π:Zl) (s:bq) (σ:St) (H:Hp) (Q:Bool->Hp->Prop),Inv X π σ H s->t σ H Q->bt (dr X.prog X.w) X.A (isTrue e X.env<|eval e X.env) (TP X π σ Q) X.xe s
def PW (X:Cx)(e:Expr)(t:TT):Prop:=
 ∀(whole:Sem aS) (π:Zl) (s:bq) (σ:St) (H:Hp) (Q:Bool->Hp->Prop),Inv X π σ H s->t σ H Q->bt (dr X.prog X.w) X.A (isTrue e X.env whole) (TP X π σ Q) X.xe s
theorem PW.pt (h:PW X e t):PT X e t:=h _
def PA (X:Cx)(es:List Expr)(t:TA):Prop:=
 ∀(pos:Pos) (π:Zl) (s:bq) (σ:St) (H:Hp) (Q:List V->Hp->Prop),Inv X π σ H s->t σ H Q->bt (dr X.prog X.w) X.A (spliced<|ki pos<|ax es X.env) (AP X π σ Q) X.xe s
def PS (X:Cx)(st:Stmt)(t:TS):Prop:=
 ∀(π:Zl) (s:bq) (σ:St) (H:Hp) (D:Ends),Inv X π σ H s->t D σ H->bt (dr X.prog X.w) X.A (exec st X.env) (SP X π D) X.xe s
def PSs (X:Cx)(st:List Stmt)(t:TS):Prop:=
 ∀(π:Zl) (s:bq) (σ:St) (H:Hp) (D:Ends),Inv X π σ H s->t D σ H->bt (dr X.prog X.w) X.A (execs st X.env) (SP X π D) X.xe s
theorem thn (h:bt M A t Q E s)(hQ:∀a s,Q a s->Q' a s):bt M A t Q' E s:=ko h hQ λ_ _ x=>x
section
variable {X:Cx}
def aeW (i:Nat):TE:=λσ H Q=>∃v,σ[i]? = some (some v)/\Q v H
def tC (v:V):TE:=λ_ H Q=>Q v H
theorem jk (hN:X.N[i]? = some x)(hv:Vis X.env.scope x)(hd:(x==("__debug__":Str))=false:=by decide)(hcd:(x==("__classdict__":Str))=false:=by decide):PE X (.Name x pos) (aeW i):=by
 intro π s σ H Q I h;obtain⟨v,e,h⟩:=h;obtain⟨m,hn,hl⟩:=I.loc;obtain⟨u,r,l⟩:=hl i x v hN e hv;have fin:EP X π σ Q u s:=⟨v,H,I,r,h⟩;rcases l with⟨hk,hm⟩|⟨hk,c,hc,hcell⟩
 ·exact wpAny_Name (wpAny_loadName_local I.ok.kind hk hn hm fin) hd
 ·rcases hk with hk|hk
  ·exact wpAny_Name (wpAny_loadName_cell I.ok.kind hk hc hcell fin) hd
  ·exact wpAny_Name (wpAny_loadName_free I.ok.kind hk hc hcell fin hcd) hd
theorem acK:PE X (.Constant (.int i) j pos) (tC<|.int i):=λ_ _ _ H _ I h=>wpAny_Constant_int ⟨.int i,H,I.tok _,⟨_,rfl⟩,h⟩
theorem adf:PE X (.Constant (.bool b) j pos) (tC<|.bl b):=λ_ _ _ H _ I h=>Constant_bool ⟨.bl b,H,I,rfl,h⟩
theorem ab9:PE X (.Constant .none j pos) (tC .non):=λ_ _ _ H _ I h=>Constant_none ⟨.non,H,I,rfl,h⟩
theorem acT:PE X (.Constant (.str x) j pos) (tC<|.str x):=λ_ _ _ H _ I h=>Calls.Constant_str ⟨.str x,H,I.tok _,⟨_,rfl⟩,h⟩
def Gl (X:Cx)(x:Str):Prop:=X.env.kindOf x=some .globalImplicit
theorem Nz (I:Inv X π σ H s)(hg:Gl X x)(hm:X.mg x=some u)(h:Q u s)
  (hd:(x==("__debug__":Str))=false:=by decide):bt (dr X.prog X.w) X.A (eval (.Name x pos) X.env) Q E s:=
 sF I.ok.kind hg (Calls.loadGlobal_global (by rw[I.ok.glob];exact I.mod.glob.keeps I.bk) hm h) hd
theorem oK (I:Inv X π σ H s)(hg:Gl X x)(hm:X.mg x=none)(hv:dA x=some u)(h:Q u s)
  (hn:x≠"__name__":=by decide) (hd:(x==("__debug__":Str))=false:=by decide):bt (dr X.prog X.w) X.A (eval (.Name x pos) X.env) Q E s:=by
 obtain⟨mb,h1,h2⟩:=I.mod.blt;exact sF I.ok.kind hg (Calls.loadGlobal_builtin (by rw[I.ok.glob];exact I.mod.glob.keeps I.bk) hm (by rw[I.ok.blt];exact h1.keeps I.bk) ((h2 x hn).trans hv) h) hd
theorem Xv (hg:Gl X x)(hm:X.mg x=some u)(r:RelV v u)(hd:(x==("__debug__":Str))=false:=by decide):PE X (.Name x pos) (tC v):=
 λ_ _ _ H _ I h=>Nz I hg hm ⟨v,H,I,r,h⟩ hd
theorem YF (hg:Gl X x)(hm:X.mg x=none)(hv:dA x=some u)(r:RelV v u)(hn:x≠"__name__":=by decide)(hd:(x==("__debug__":Str))=false:=by decide):PE X (.Name x pos) (tC v):=
 λ_ _ _ H _ I h=>oK I hg hm hv ⟨v,H,I,r,h⟩ hn hd
variable {a b:Expr}{ta tb:TE}{pos:Pos}
def PC (X:Cx)(op:CmpOp)(a b:Expr)(t:TE):Prop:=
 ∀(π:Zl) (s:bq) (σ:St) (H:Hp) (Q:VK),Inv X π σ H s->t σ H Q->
  bt (dr X.prog X.w) X.A (eval a X.env) (λv s₁=>bt (dr X.prog X.w) X.A (eval b X.env) (λu s₂=>bt (dr X.prog X.w) X.A (fx op v u) (EP X π σ Q) X.xe s₂) X.xe s₁) X.xe s
theorem aeD (b:Expr){op:CmpOp}(h:op≠.In)(h2:op≠.NotIn):l3 op b=false:=by
 have e1:(op==CmpOp.In)=false:=by cases op<;>first|rfl|exact absurd rfl h
 have e2:(op==CmpOp.NotIn)=false:=by cases op<;>first|rfl|exact absurd rfl h2
 cases b<;>simp[l3,e1,e2]
def tB (t:TE):TT:=λσ H Q=>t σ H λx H1=>∃c,x=.bl c/\Q c H1
theorem abk (h:PE X e t)(he:∀whole,isTrue e X.env whole=(do let v←whole;standAt e.pos;r9 [v] (truthy v)):=by intro _;rfl):PT X e (tB t):=by
 intro π s σ H Q I hw;refine isTrue_plain (thn (h π s σ H _ I hw) λv s1 hE=>xq2 hE λx H1 I1 r1 q1=>?_)<|he _;obtain⟨d,rfl,q⟩:=q1;cases r1;exact mM ⟨H1,I1,q⟩
variable {tA tB':TT}{rest:List Expr}
def afp (t u:TT):TT:=λσ H Q=>t σ H λc H1=>if c=true then u σ H1 Q else Q false H1
def tOr (t u:TT):TT:=λσ H Q=>t σ H λc H1=>if c=true then Q true H1 else u σ H1 Q
def aeR (t:TT):TT:=λσ H Q=>t σ H λc H1=>Q (!c) H1
theorem Y6 (ha:PT X a tA):PW X (.BoolOp .And [a] pos) tA:=by
 intro wh π s σ H Q I h;refine isTrue_and<|thn (ha π s σ H Q I h) λc s1 e=>?_;cases c with
 |true=>exact isTrue_and_nil e
 |false=>exact e
theorem abm (ha:PT X a tA):PW X (.BoolOp .Or [a] pos) tA:=by
 intro wh π s σ H Q I h;refine isTrue_or<|thn (ha π s σ H Q I h) λc s1 e=>?_;cases c with
 |false=>exact isTrue_or_nil e
 |true=>exact e
theorem ab8 (ha:PT X a tA)(hb:PW X (.BoolOp .And (b::rest) pos) tB'):PW X (.BoolOp .And (a::b::rest) pos) (afp tA tB'):=by
 intro wh π s σ H Q I h;refine isTrue_and<|thn (ha π s σ H _ I h) λc s1 ⟨H1,I1,q1⟩=>?_;cases c with
 |true=>exact hb wh π s1 σ H1 Q I1 q1
 |false=>exact⟨H1,I1,q1⟩
theorem aeu (ha:PT X a tA)(hb:PW X (.BoolOp .Or (b::rest) pos) tB'):PW X (.BoolOp .Or (a::b::rest) pos) (tOr tA tB'):=by
 intro wh π s σ H Q I h;refine isTrue_or<|thn (ha π s σ H _ I h) λc s1 ⟨H1,I1,q1⟩=>?_;cases c with
 |true=>exact⟨H1,I1,q1⟩
 |false=>exact hb wh π s1 σ H1 Q I1 q1
theorem abG (ha:PT X a tA):PT X (.UnaryOp .Not a pos) (aeR tA):=by
 intro π s σ H Q I h;exact isTrue_not<|ha π s σ H (λc H1=>Q (!c) H1) I h
def ad7 (ta tb:TE):TE:=λσ H Q=>ta σ H λx H1=>∃c,x=.bl c/\if c=true then tb σ H1 Q else Q (.bl false) H1
def ad9 (ta:TE):TE:=λσ H Q=>ta σ H λx H1=>∃c,x=.bl c/\Q (.bl<|!c) H1
theorem abV (h:PE X a t):PE X (.BoolOp op [a] pos) t:=λπ s σ H Q I hw=>BoolOp_one<|h π s σ H Q I hw
theorem abU (ha:PE X a ta)(hb:PE X (.BoolOp .And (b::rest) pos) tb):PE X (.BoolOp .And (a::b::rest) pos) (ad7 ta tb):=by
 intro π s σ H Q I h;refine BoolOp_and<|thn (ha π s σ H _ I h) λv s1 hE=>xq2 hE λx H1 I1 r1 q1=>?_;obtain⟨c,rfl,q1⟩:=q1;cases r1;refine mM ?_;cases c with
 |true=>exact hb π s1 σ H1 Q I1 q1
 |false=>exact⟨.bl false,H1,I1,rfl,q1⟩
theorem aa4 (ha:PE X a ta):PE X (.UnaryOp .Not a pos) (ad9 ta):=by
 intro π s σ H Q I h;refine UnaryOp_<|thn (ha π s σ H _ I h) λv s1 hE=>xq2 hE λx H1 I1 r1 q1=>?_;obtain⟨c,rfl,q1⟩:=q1;cases r1;exact not_of<|mM ⟨.bl<|!c,H1,I1,rfl,q1⟩
end
def SqL (K:bP)(H:Hp)(a:Addr)(xs:List V):Prop:=
 Rd H a (.lst xs) ∨
  ∃(o:Obj) (χ:Array aS) (n:Nat),K.lookup a=some o/\o.cls=.type "list"/\o.dict=none/\o.data=.seq χ n/\χ.size<=aw/\Vals xs χ.toList
def SqT (K:bP)(H:Hp)(a:Addr)(xs:List V):Prop:=
 Rd H a (.tup xs) ∨
  ∃(o:Obj) (χ:Array aS) (n:Nat),K.lookup a=some o/\o.cls=.type "tuple"/\(o.data=.seq χ n/\o.dict=none)/\χ.size<=aw/\Vals xs χ.toList
abbrev KTp (K:bP)(a:Addr)(xs:List V):Prop:=
  ∃(o:Obj) (χ:Array aS) (n:Nat),K.lookup a=some o/\o.cls=.type "tuple"/\(o.data=.seq χ n/\o.dict=none)/\χ.size<=aw/\Vals xs χ.toList
def SqU (K:bP)(H:Hp)(a:Addr)(xs:List V):Prop:=H a=some (.tup xs)\/KTp K a xs
theorem SqU.sq {K:bP}{H:Hp}{a:Addr}{xs:List V}(h:SqU K H a xs):SqT K H a xs:=h.elim (λe=>.inl<|.inl e) .inr
theorem SqU.of {K:bP}{H:Hp}{a:Addr}{xs:List V}(h:H a=some (.tup xs)):SqU K H a xs:=.inl h
noncomputable def aeT:aS->Option V
 | .none=>some .non
 | .bool b=>some<|.bl b
 | .int i _=>some<|.int i
 | .str x _=>some<|.str x
 | .bytes b _=>some<|.byt b
 | .float b _=>some<|.flt b
 | .ref a=>some<|.ref a
 | .type n=>some<|.ty n
 |_=>none
theorem RelV.abs (r:RelV x u):aeT u=some x:=by
 cases x with
 |non=>cases r;rfl
 |bl _=>cases r;rfl
 |int _=>obtain⟨t,rfl⟩:=r;rfl
 |str _=>obtain⟨t,rfl⟩:=r;rfl
 |byt _=>obtain⟨t,rfl⟩:=r;rfl
 |flt _=>obtain⟨t,rfl⟩:=r;rfl
 |ref _=>cases r;rfl
 |ty _=>cases r;rfl
theorem RelV.inj (r:RelV x u)(q:RelV y u):x=y:=cE<|r.abs.symm.trans q.abs
theorem Vals.inj:∀{xs ys:List V} {us:List aS},Vals xs us->Vals ys us->xs=ys
 |_,_,_,.nil,.nil=>rfl
 |_,_,_,.cons r t,.cons r' t'=>by rw[r.inj r',Vals.inj t t']
section
variable {X:Cx}{π:Zl}{σ:St}{H:Hp}{s:bq}{a:Addr}{xs ys:List V}
theorem SqL.of {K:bP}(h:H a=some (.lst xs)):SqL K H a xs:=.inl<|.inl h
theorem Inv.list (I:Inv X π σ H s)(h:SqL X.K H a xs):∃χ:List aS,Vals xs χ/\PlainL s.heap a χ.toArray/\xs.length<=aw:=by
 rcases h with h|⟨o,χ,n,hk,hc,hd,hs,hz,r⟩
 ·obtain⟨z,χ,n,r,e⟩:=h.ok I.hok;exact⟨χ,r,⟨_,n,e,rfl,rfl,rfl⟩,z⟩
 ·refine⟨χ.toList,r,⟨o,n,I.kIn a o hk,hc,hd,by simpa using hs⟩,?_⟩;have e:=r.length;simp only[l5] at e
  lia
theorem Inv.tuple (I:Inv X π σ H s)(h:SqT X.K H a xs):∃χ:List aS,Vals xs χ/\IsTup s.heap a χ.toArray/\xs.length<=aw:=by
 rcases h with h|⟨o,χ,n,hk,hc,hs,hz,r⟩
 ·obtain⟨z,χ,r,p⟩:=h.ok I.hok;exact⟨χ,r,p.tup,z⟩
 ·refine⟨χ.toList,r,⟨o,I.kIn a o hk,hc,n,by simpa using hs.1⟩,?_⟩;have e:=r.length;simp only[l5] at e
  lia
theorem Inv.Cy (I:Inv X π σ H s)(h:SqL X.K H a xs)(h':SqL X.K H a ys):xs=ys:=by
 obtain⟨χ,r,⟨o,n,e,_,_,d⟩,_⟩:=I.list h;obtain⟨its',r',⟨o',n',e',_,_,d'⟩,_⟩:=I.list h';rw[e] at e';cases e';rw[d] at d';injection d' with d1 _
 have:χ=its':=by simpa using congrArg xI d1
 subst this;exact r.inj r'
theorem Inv.yN (I:Inv X π σ H s)(h:SqT X.K H a xs)(h':SqT X.K H a ys):xs=ys:=by
 obtain⟨χ,r,⟨o,e,_,n,d⟩,_⟩:=I.tuple h;obtain⟨its',r',⟨o',e',_,n',d'⟩,_⟩:=I.tuple h';rw[e] at e';cases e';rw[d] at d';injection d' with d1 _
 have:χ=its':=by simpa using congrArg xI d1
 subst this;exact r.inj r'
end
section
variable {X:Cx}{π:Zl}{σ:St}{H:Hp}{s:bq}{E:Zs}
end
section
variable {X:Cx}{st:Stmt}{rest:List Stmt}{t u:TS}{e:Expr}{te:TE}{pos:Pos}
def adK:TS:=λD σ H=>D.nx σ H
def aer (t u:TS):TS:=λD σ H=>t { D with nx:=u D } σ H
theorem Qg:PSs X [] adK:=λ_ _ σ H _ I h=>sf ⟨σ,H,I,h⟩
theorem KZ (h1:PS X st t)(h2:PSs X rest u):PSs X (st::rest) (aer t u):=by
 intro π s σ H D I h;refine wpAny_execs_cons<|thn (h1 π s σ H { D with nx:=u D } I h) λf s1 q=>?_;cases f with
 |next=>
  obtain⟨σ',H',I',q⟩:=q;exact h2 π s1 σ' H' D I' q
 |ret v=>exact q
 |brk=>exact q
 |cont=>exact q
theorem HD (h1:PS X st t):PSs X [st] t:=by
 intro π s σ H D I h;refine wpAny_execs_cons<|thn (h1 π s σ H D I h) λf s1 q=>?_;cases f with
 |next=>exact sf q
 |ret v=>exact q
 |brk=>exact q
 |cont=>exact q
theorem Inv.quiet (I:Inv X π σ H s):interactive X.env=false:=by simp[interactive,I.ok.kind]
def adl (te:TE):TS:=λD σ H=>te σ H λ_ H1=>D.nx σ H1
theorem uN (he:PE X e te)(hs:gN e none pos.line X.env=pure false:=by rfl):PS X (.Expr e pos) (adl te):=by
 intro π s σ H D I h;exact wpAny_Expr_any (thn (he π s σ H _ I h) λv s1 hE=>xq2 hE λx H1 I1 r1 q1=>⟨σ,H1,I1,q1⟩) I.quiet hs
def afe (te:TE):TS:=λD σ H=>te σ H D.rt
theorem Dd (he:PE X e te):PS X (.Return (some e) pos) (afe te):=by
 intro π s σ H D I h;exact wpAny_Return_some<|thn (he π s σ H _ I h) λv s1 hE=>xq2 hE λx H1 I1 r1 q1=>⟨x,σ,H1,I1,r1,q1⟩
def ae5 (c:TT)(t u:TS):TS:=λD σ H=>c σ H λb H1=>if b=true then t D σ H1 else u D σ H1
theorem aax (hc:PT X c tc)(ha:PSs X a t)(hb:PSs X b u):PS X (.If c a b pos) (ae5 tc t u):=by
 intro π s σ H D I h;refine wpAny_If<|thn (hc π s σ H _ I h) λd s1 ⟨H1,I1,q1⟩=>?_;cases d with
 |true=>exact ha π s1 σ H1 D I1 q1
 |false=>exact hb π s1 σ H1 D I1 q1
end
abbrev TG:=V->St->Hp->(St->Hp->Prop)->Prop
abbrev TGs:=List V->St->Hp->(St->Hp->Prop)->Prop
def PG (X:Cx)(target:Expr)(t:TG):Prop:=
 ∀(π:Zl) (s:bq) (σ:St) (H:Hp) (v:V) (u:aS) (Q:St->Hp->Prop),Inv X π σ H s->RelV v u->t v σ H Q->
  bt (dr X.prog X.w) X.A (tw target X.env u) (λ_ s'=>∃σ' H',Inv X π σ' H' s'/\Q σ' H') X.xe s
def PGs (X:Cx)(ts:List Expr)(t:TGs):Prop:=
 ∀(π:Zl) (s:bq) (σ:St) (H:Hp) (vs:List V) (us:List aS) (Q:St->Hp->Prop),Inv X π σ H s->Vals vs us->t vs σ H Q->
  bt (dr X.prog X.w) X.A (AO ((kq ts X.env).map (·.2)) us) (λ_ s'=>∃σ' H',Inv X π σ' H' s'/\Q σ' H') X.xe s
abbrev adZ:=V->V->V->Hp->(Hp->Prop)->Prop
def adp (X:Cx)(t:adZ):Prop:=
 ∀(π:Zl) (s:bq) (σ:St) (H:Hp) (o i v:V) (ov iv u:aS) (Q:Hp->Prop),Inv X π σ H s->RelV o ov->RelV i iv->RelV v u->t o i v H Q->
  bt (dr X.prog X.w) X.A (setItem ov iv u) (λ_ s'=>∃H',Inv X π σ H' s'/\Q H') X.xe s
section
def wy (i:Nat):TG:=λv σ H Q=>Q (σ.set i<|some v) H
theorem PK (hN:X.N.Nodup)(hi:X.N[i]? = some x)(hx:Loc X.env.scope x)(hf:X.fn x=true\/X.env.scope.names.lookup x=some .local:=by first|exact .inl rfl|exact .inr rfl|assumption):PG X (.Name x pos) (wy i):=by
 intro π s σ H v u Q I r h;exact wpAny_assign_Name<|xn I hN hi hx r (λs' I'=>⟨_,H,I',h⟩) hf
def afl:TGs:=λvs σ H Q=>vs=[]/\Q σ H
def adu (t:TG)(u:TGs):TGs:=λvs σ H Q=>∃v r,vs=v::r/\t v σ H λσ' H'=>u r σ' H' Q
theorem XF:PGs X [] afl:=by
 intro π s σ H vs us Q I r h;obtain⟨e,h⟩:=h;subst e;cases r;exact assignInOrder_nil ⟨σ,H,I,h⟩
theorem Va (h1:PG X e t)(h2:PGs X es u)
  (hs:(kq (e::es) X.env).map (·.2)=tw e X.env::(kq es X.env).map (·.2):=by rfl):PGs X (e::es) (adu t u):=by
 intro π s σ H vs us Q I r h;obtain⟨v,vr,e1,h⟩:=h;subst e1;cases r with
 |cons r rr=>
  rw[hs];refine sP<|thn (h1 π s σ H _ _ _ I r h) λ_ s1 hE=>?_;obtain⟨σ1,H1,I1,q1⟩:=hE;exact h2 π s1 σ1 H1 _ _ Q I1 rr q1
def aeK (K:bP)(n:Nat)(t:TGs):TG:=λv σ H Q=>∃a xs,v=.ref a/\SqT K H a xs/\xs.length=n/\t xs σ H Q
theorem abl (hc:X.calm=true)(h:PGs X es t)
  (hn:(kq es X.env).length=n:=by rfl) (hst:(kq es X.env).findIdx? (·.1)=none:=by rfl):PG X (.Tuple es k pos) (aeK X.K n t):=by
 intro π s σ H v u Q I r hw;obtain⟨a,xs,e1,hq,hl,hw⟩:=hw;subst e1;cases r;obtain⟨χ,rv,ht,hz⟩:=I.tuple hq;refine assign_Tuple_tuple (I.ok.hd hc) ht (by simp[hn,← hl,rv.length]) hst λh' hx=>?_;have I1:Inv X π σ H { s with heap:=h' }:=I.kept (t':=s.toks) λb o e=>hx b o (cK<|aI e) e;exact h π _ σ H xs _ Q I1 (by simpa using rv) hw
noncomputable def dN (to ti:TE)(t:adZ):TG:=λv σ H Q=>to σ H λo H1=>ti σ H1 λi H2=>t o i v H2 λH3=>Q σ H3
theorem Vx (ho:PE X o to)(hi:PE X i ti)(hs:adp X t)
  (ha:∀v,tw (.Subscript o i pos) X.env v=(do
   let ov←r9 [v] (eval o X.env)
   let iv←r9 [v,ov] (eval i X.env)
   standAt pos
   r9 [v,ov,iv] (setItem ov iv v)
   release [v,ov,iv] []):=by intro _;rfl):PG X (.Subscript o i pos) (dN to ti t):=by
 intro π s σ H v u Q I r h;rw[ha];refine ae<|ic<|thn (ho π s σ H _ I h) λov s1 hE=>xq2 hE λx H1 I1 r1 q1=>?_;refine ae<|ic<|thn (hi π s1 σ H1 _ I1 q1) λiv s2 hE=>xq2 hE λy H2 I2 r2 q2=>?_;refine ae<|rS<|ae<|ic<|thn (hs π s2 σ H2 x y v ov iv u _ I2 r1 r2 r q2) λ_ s3 ⟨H3,I3,q3⟩=>?_;exact wpAny_release ⟨σ,H3,I3,q3⟩
def TQ (te:TE)(g:TG):TS:=λD σ H=>te σ H λx H1=>g x σ H1 D.nx
theorem My (he:PE X e te)(hg:PG X tg g)(hs:oI [tg] e pos.line X.env=pure false:=by rfl)(hw:oP [tg] e X.env=pure none:=by rfl)
  (h1:(kq [tg] X.env).map (·.2)=[tw tg X.env]:=by rfl):PS X (.Assign [tg] e pos) (TQ te g):=by
 intro π s σ H D I h;refine wpAny_Assign_stores (thn (he π s σ H _ I h) λv s1 hE=>xq2 hE λx H1 I1 r1 q1=>?_) hs hw;rw[h1];exact thn (hg π s1 σ H1 x v _ I1 r1 q1) λ_ s2 q=>q
theorem Dk (hN:X.N.Nodup)(hi:X.N[i]? = some x)(hx:Loc X.env.scope x)(he:PE X e te)(hs:gN e (some<|.Name x pos') pos.line X.env=pure false:=by rfl)(hf:X.fn x=true\/X.env.scope.names.lookup x=some .local:=by first|exact .inl rfl|exact .inr rfl|assumption):
  PS X (.Assign [.Name x pos'] e pos) (TQ te<|wy i):=by
 intro π s σ H D I h;refine wpAny_Assign_Name (thn (he π s σ H _ I h) λv s1 hE=>xq2 hE λy H1 I1 r1 q1=>?_) hs;exact xn I1 hN hi hx r1 (λs2 I2=>⟨_,H1,I2,q1⟩) hf
def ae3 (i j:Nat)(ta:TA):TS:=λD σ H=>ta σ H λvs H1=>∃v w,vs=[v,w]/\D.nx ((σ.set i<|some v).set j<|some w) H1
theorem acj (hc:X.calm=true)(hN:X.N.Nodup)(hi:X.N[i]? = some x)(hj:X.N[j]? = some y)(hij:i≠j)
  (hx:X.env.scope.names.lookup x=some .local) (hy:X.env.scope.names.lookup y=some .local) (ha:PA X [a,b] ta)
  (hw:oP [.Tuple [.Name x px,.Name y py] kt pt] (.Tuple [a,b] k2 pt2) X.env=pure (some [x,y]))
  (hs:oI [.Tuple [.Name x px,.Name y py] kt pt] (.Tuple [a,b] k2 pt2) pos.line X.env=pure false:=by rfl):
  PS X (.Assign [.Tuple [.Name x px,.Name y py] kt pt] (.Tuple [a,b] k2 pt2) pos) (ae3 i j ta):=by
 intro π s σ H D I h;rw[exec_Assign_arm];refine ae<|rS ?_;rw[hs];refine ae<|ag ?_;rw[if_neg<|by decide];refine ae<|Tuple_<|thn (ha _ π s σ H _ I h) λus s1 hE=>xq2 hE λvs H1 I1 r1 q1=>?_;obtain⟨v,w,e1,q1⟩:=q1;subst e1;obtain⟨u1,u2,rfl,rv,rw'⟩:∃u1 u2,us=[u1,u2]/\RelV v u1/\RelV w u2:=by
  cases r1 with
  |cons p q=>
   cases q with
   |cons p' q'=>
    cases q';exact⟨_,_,rfl,p,p'⟩
 refine eJ ?_ (by show 2<=aw;decide);have I2:Inv X π σ H1 { s1 with heap:=s1.heap.push { cls:=.type "tuple",data:=.seq [u1,u2].toArray } }:=I1.kept (t':=s1.toks) λb o e=>ai _ e;rw[hw];refine ae<|ag ?_;show bt (dr X.prog X.w) X.A (do rule "assign.swapped-stores";let items←unpackItems (.ref s1.heap.objs.size) 2 none;AO [λv=>bindName X.env y v,λv=>bindName X.env x v] items.reverse;pure Flow.next) _ _ _;refine ae<|pV<|ae<|unpackItems_tuple (items:=#[u1,u2]) (I.ok.hd hc) (IsTup.new s1.heap _) λh' hx'=>?_;have I3:=I2.kept (h':=h') (t':=s1.toks) λb o e=>hx' b o (cK<|aI e) e;show bt _ _ (AO [λv=>bindName X.env y v,λv=>bindName X.env x v] [u2,u1] >>= λ_=>pure Flow.next) _ _ _;refine ae<|sP<|wpAny_bindName<|xn I3 hN hj (.inl hy) rw' (λs2 I4=>?_)<|.inr hy;refine sP<|wpAny_bindName<|xn I4 hN hi (.inl hx) rv (λs3 I5=>assignInOrder_nil<|ag ?_)<|.inr hx;rw[List.set_comm _ _<|eS hij] at I5;exact⟨_,H1,I5,q1⟩
end
section
def acd (c:TT)(tb:TS):TS:=λD σ H=>∃W:Nat->St->Hp->Prop,(∃m,W m σ H)/\∀m σ H,W m σ H->
 c σ H λb H1=>if b=true then ∃N:St->Hp->Prop,(∀σ' H',N σ' H'->∃m',m'<m/\W m' σ' H')/\tb { D with nx:=N,ct:=N,bk:=D.nx } σ H1 else D.nx σ H1
theorem Ve (hp:tz (dr X.prog X.w) X.A X.env X.xe)(hc:PT X c tc)(hb:PSs X body tb):PS X (.While c body [] pos) (acd tc tb):=by
 intro π s σ H D I h;obtain⟨W,⟨m0,w0⟩,turn⟩:=h;refine wpAny_While<|codeAny_whileLoop (λn s'=>∃σ' H',Inv X π σ' H' s'/\W n σ' H') ?_ m0 ⟨σ,H,I,w0⟩;rintro n s1 ⟨σ1,H1,I1,w1⟩;refine kT hp<|thn (hc π s1 σ1 H1 _ I1<|turn n σ1 H1 w1) λb s2 ⟨H2,I2,q2⟩=>?_;cases b with
 |true=>
  obtain⟨N,hN,q2⟩:=q2;rw[if_pos rfl];refine kT hp<|thn (hb π s2 σ1 H2 _ I2 q2) λf s3 q3=>?_;cases f with
  |next=>
   obtain⟨σ3,H3,I3,n3⟩:=q3;obtain⟨m',hm,w3⟩:=hN σ3 H3 n3;exact⟨m',hm,σ3,H3,I3,w3⟩
  |cont=>
   obtain⟨σ3,H3,I3,n3⟩:=q3;obtain⟨m',hm,w3⟩:=hN σ3 H3 n3;exact⟨m',hm,σ3,H3,I3,w3⟩
  |brk=>exact q3
  |ret v=>exact q3
 |false=>
  rw[if_neg be];exact sf ⟨σ1,H2,I2,q2⟩
end
structure It where
 go:Nat->Hp->Prop
 yld:Nat->Hp->V->Hp->Prop
 stop:Nat->Hp->Prop
def uX (X:Cx)(π:Zl)(H:Hp)(b:Addr):Prop:=
 H b=none/\b≠X.env.locals/\b∉X.fs/\(b∈X.ex\/X.s₀.heap.objs.size<=b)/\(∀x c,X.env.cells.lookup x=some c->c≠b)/\∀p∈X.pn++π,p.1≠b
theorem Inv.KD (I:Inv X π σ H s)(hb:s.heap.objs.size<=b)(hn:H' b=none):uX X π H' b:=by
 refine⟨hn,qh<|cm I.lt hb,I.afg hb,.inr<|iA I.sz hb,λx c e z=>?_,λp hp z=>?_⟩
 ·obtain⟨v,q⟩:=I.cell x c e;exact absurd (cm q.lt (by rw[z];exact hb))<|ib _
 ·exact absurd (cm (aI (I.pin p hp).1) (by rw[z];exact hb))<|ib _
structure Turn (P:cy)(w:fI)(K:bP)(tg:Expr)(J:It)(fp:List Addr)(it:Addr)(tn:Nat->Heap->Prop):Prop where
 mem:it∈fp
 obj:∀i h,tn i h->∀b∈fp,∃o,h.get? b=some o/\∀v,o.data≠.cell v
 keep:∀i h h',tn i h->(∀b∈fp,∀o,h.get? b=some o->h'.get? b=some o)->tn i h'
 item:∀(X:Cx),X.prog=P->X.w=w->X.K=K->X.calm=true->∀(i:Nat) (π:Zl) (s:bq) (σ:St) (H:Hp) (E:Zs),Inv X π σ H s->(∀b∈fp,uX X π H b)->tn i s.heap->J.go i H->
  bt (dr P w) X.A (tF (.ref it)) (λr s1=>∃u,r=some u/\
   bt (dr P w) X.A (xS tg (.ref it) u) (λ_ s2=>∃x H',Inv X π σ H' s2/\RelV x u/\J.yld i H x H'/\tn (i+1) s2.heap/\∀b∈fp,H' b=none) E s1) E s
 done:∀(X:Cx),X.prog=P->X.w=w->X.K=K->X.calm=true->∀(i:Nat) (π:Zl) (s:bq) (σ:St) (H:Hp) (E:Zs),Inv X π σ H s->(∀b∈fp,uX X π H b)->tn i s.heap->J.stop i H->
  bt (dr P w) X.A (tF (.ref it)) (λr s1=>r=none/\Inv X π σ H s1) E s
 self:∀(A:iN) (i:Nat) (s:bq) (Q:Zs) (E:Zs),tn i s.heap->Q (.ref it) s->bt (dr P w) A (BH (.ref it)) Q E s
abbrev TI:=St->Hp->(It->Hp->Prop)->Prop
def PIE (X:Cx)(π:Zl)(σ:St)(tg:Expr)(R:It->Hp->Prop)(itv:aS)(s2:bq):Prop:=
 ∃(it:Addr) (fp:List Addr) (tn:Nat->Heap->Prop) (J:It) (H':Hp),itv=.ref it/\Inv X π σ H' s2/\Turn X.prog X.w X.K tg J fp it tn/\tn 0 s2.heap/\(∀b∈fp,uX X π H' b)/\R J H'
def PI (X:Cx)(tg iter:Expr)(wi:TI):Prop:=
 ∀(π:Zl) (s:bq) (σ:St) (H:Hp) (R:It->Hp->Prop),Inv X π σ H s->wi σ H R->
  bt (dr X.prog X.w) X.A (eval iter X.env) (λv s1=>bt (dr X.prog X.w) X.A (BH v) (PIE X π σ tg R) X.xe s1) X.xe s
theorem Gp (ho : s.heap.get? it = some o) (hc : o.cls = .type n) (hd : o.data = .fields vs)
    (hn : ["enumerate", "zip", "dict_itemiterator", "dict_reverseitemiterator", "odict_iterator", "itertools.zip_longest", "itertools.pairwise"].contains n = false) (hQ : Q () s) : bt M A (xS tg (.ref it) u) Q E s := by
  unfold xS;cases tg<;>first
    | exact ag hQ
    | (cases u<;>first
        | exact ag hQ
        | (refine ae (wpAny_load ho ?_)
           rw [hc, hd];show bt M A (if (["enumerate", "zip", "dict_itemiterator", "dict_reverseitemiterator", "odict_iterator", "itertools.zip_longest", "itertools.pairwise"].contains n && vs[0]? == some (rg _)) = true then _ else _) Q E s;rw [if_neg (by intro h;rw [hn, zC] at h;cases h)];exact ag hQ))
def Itl (K:bP)(a:Addr):It:=
 ⟨λi H=>∃xs x,SqL K H a xs/\xs[i]? = some x,λi H x H'=>H'=H/\∀xs,SqL K H a xs->xs[i]? = some x,λi H=>∃xs,SqL K H a xs/\xs.length<=i⟩
def Itt (K:bP)(a:Addr):It:=
 ⟨λi H=>∃xs x,SqT K H a xs/\xs[i]? = some x,λi H x H'=>H'=H/\∀xs,SqT K H a xs->xs[i]? = some x,λi H=>∃xs,SqT K H a xs/\xs.length<=i⟩
def Itr (lo:Int)(n:Nat):It:=⟨λi _=>i<n,λi H x H'=>H'=H/\x=.int (lo+i),λi _=>n<=i⟩
theorem RM {P:cy}{w:fI}{K:bP}{tg:Expr}(a it:Addr):Turn P w K tg (Itl K a) [it] it (λi h=>h.IsListIter it a i) where
 mem:=by simp
 obj:=λi h st b hb=>by
  have e:b=it:=by simpa using hb
  subst e;obtain⟨o,e,c,d⟩:=st;exact⟨o,e,λv z=>by rw[d] at z;cases z⟩
 keep:=λi h h' st k=>st.at λo e=>k it (by simp) o e
 item:=by
  intro X hP hw hK hc i π s σ H E I hf st hg;subst hP hw hK;obtain⟨xs,x,hq,hx⟩:=hg;obtain⟨χ,rv,p,hz⟩:=I.list hq;obtain⟨u,hu,ru⟩:=rv.get hx;refine lZ (hf it<|by simp) λf0 f1 f2 f3 f4 f5=>?_;refine wpAny_pyNext_list_item st p.isList (x:=u) (by simpa using hu) λh' st' sb=>?_;have I1:Inv X π σ H { s with heap:=h' }:=I.turned (t':=s.toks) (λb o hb e=>(sb.2 b hb).trans e) f0 f1 f3 f4 f5;obtain⟨o,e,c,d⟩:=id st';exact⟨u,rfl,Gp (s:={ s with heap:=h' }) e c d (by decide) ⟨x,H,I1,ru,⟨rfl,λys hy=>by rw[I.Cy hy hq];exact hx⟩,st',λb hb=>(hf b hb).1⟩⟩
 done:=by
  intro X hP hw hK hc i π s σ H E I hf st hg;subst hP hw hK;obtain⟨xs,hq,hx⟩:=hg;obtain⟨χ,rv,p,hz⟩:=I.list hq;refine lZ (hf it<|by simp) λf0 f1 f2 f3 f4 f5=>?_;have hl:=rv.length;exact wpAny_pyNext_list_end (I.ok.hd hc) st p.isList (by simp;lia) λh' eb=>⟨rfl,I.turned (t':=s.toks) (λb o hb e=>eb b o hb e) f0 f1 f3 f4 f5⟩
 self:=λ_ _ _ _ _ st h=>wpAny_pyIter_listiter st h
theorem Mi {P:cy}{w:fI}{K:bP}{tg:Expr}(a it:Addr):Turn P w K tg (Itt K a) [it] it (λi h=>h.IsTupleIter it a i) where
 mem:=by simp
 obj:=λi h st b hb=>by
  have e:b=it:=by simpa using hb
  subst e;obtain⟨o,e,c,d⟩:=st;exact⟨o,e,λv z=>by rw[d] at z;cases z⟩
 keep:=λi h h' st k=>st.at λo e=>k it (by simp) o e
 item:=by
  intro X hP hw hK hc i π s σ H E I hf st hg;subst hP hw hK;obtain⟨xs,x,hq,hx⟩:=hg;obtain⟨χ,rv,p,hz⟩:=I.tuple hq;obtain⟨u,hu,ru⟩:=rv.get hx;refine lZ (hf it<|by simp) λf0 f1 f2 f3 f4 f5=>?_;refine wpAny_pyNext_tuple_item st (show s.heap.IsTuple a χ.toArray from p) (x:=u) (by simpa using hu) λh' st' sb=>?_;have I1:Inv X π σ H { s with heap:=h' }:=I.turned (t':=s.toks) (λb o hb e=>(sb.2 b hb).trans e) f0 f1 f3 f4 f5;obtain⟨o,e,c,d⟩:=id st';exact⟨u,rfl,Gp (s:={ s with heap:=h' }) e c d (by decide) ⟨x,H,I1,ru,⟨rfl,λys hy=>by rw[I.yN hy hq];exact hx⟩,st',λb hb=>(hf b hb).1⟩⟩
 done:=by
  intro X hP hw hK hc i π s σ H E I hf st hg;subst hP hw hK;obtain⟨xs,hq,hx⟩:=hg;obtain⟨χ,rv,p,hz⟩:=I.tuple hq;refine lZ (hf it<|by simp) λf0 f1 f2 f3 f4 f5=>?_;have hl:=rv.length;exact wpAny_pyNext_tuple_end (I.ok.hd hc) st (show s.heap.IsTuple a χ.toArray from p) (by simp;lia) λh' eb=>⟨rfl,I.turned (t':=s.toks) (λb o hb e=>eb b o hb e) f0 f1 f3 f4 f5⟩
 self:=λ_ _ _ _ _ st h=>wpAny_pyIter_tupleiter st h
theorem M6 {P:cy}{w:fI}{K:PySem.W.Frag}{tg:Expr}(it:Addr)(lo:Int)(n:Nat):Turn P w K tg (Itr lo n) [it] it (λi h=>As h it (lo+(i:Nat)*1) ((n:Int)-(i:Nat)) 1) where
 mem:=by simp
 obj:=λi h st b hb=>by
  have e:b=it:=by simpa using hb
  subst e;exact⟨_,st,λv z=>by
   have z':BA _=Data.cell v:=z;cases z'⟩
 keep:=λi h h' st k=>k it (by simp) _ st
 item:=by
  intro X hP hw hK hc i π s σ H E I hf st hg;subst hP hw hK;refine lZ (hf it<|by simp) λf0 f1 f2 f3 f4 f5=>?_;have W:=Walks.range (prog:=X.prog) (w:=X.w) (I.ok.hd hc) it lo 1 n;refine W.item i s _ _ hg st λv h' tk hv st' kk=>?_;obtain⟨t,rfl⟩:=hv;have I1:Inv X π σ H { s with heap:=h',toks:=tk }:=I.turned (λb o hb e=>kk b o (by simpa using hb) e) f0 f1 f3 f4 f5;refine⟨_,rfl,Gp (s:={ s with heap:=h',toks:=tk }) (n:="range_iterator") st' rfl rfl (by decide) ⟨.int<|lo+i,H,I1,⟨t,?_⟩,⟨rfl,rfl⟩,st',λb hb=>(hf b hb).1⟩⟩;rw[Int.mul_one]
 done:=by
  intro X hP hw hK hc i π s σ H E I hf st hg;subst hP hw hK;refine lZ (hf it<|by simp) λf0 f1 f2 f3 f4 f5=>?_;exact wpAny_pyNext_range_end (I.ok.hd hc) st (by have:n<=i:=hg;lia) λh' eb=>⟨rfl,I.turned (t':=s.toks) (λb o hb e=>eb b o hb e) f0 f1 f3 f4 f5⟩
 self:=λ_ _ _ _ _ st h=>wpAny_pyIter_rangeiter st h
section
variable {X:Cx}{tg:Expr}
def adv (K:bP)(tl:TE):TI:=λσ H R=>tl σ H λx H1=>∃a,x=.ref a/\(∃xs,SqL K H1 a xs)/\R (Itl K a) H1
def afv (K:bP)(tl:TE):TI:=λσ H R=>tl σ H λx H1=>∃a,x=.ref a/\(∃xs,SqT K H1 a xs)/\R (Itt K a) H1
theorem NQ {l:Expr}{tl:TE}(hl:PE X l tl):PI X tg l (adv X.K tl):=by
 intro π s σ H R I h;refine thn (hl π s σ H _ I h) λv s1 hE=>xq2 hE λx H1 I1 r1 q1=>?_;obtain⟨a,e,⟨xs,hq⟩,q⟩:=q1;subst e;cases r1;obtain⟨χ,rv,p,hz⟩:=I1.list hq;refine wpAny_pyIter_list p.isList ?_;refine⟨s1.heap.objs.size,[s1.heap.objs.size],_,_,H1,rfl,I1.kept (t':=s1.toks) λb o e=>ai _ e,RM a _,⟨_,aE _ rfl,rfl,rfl⟩,λb hb=>?_,q⟩;have e:b=s1.heap.objs.size:=by simpa using hb
 subst e;exact I1.KD (ay _)<|I1.hok.fresh<|ay _
theorem acW {l:Expr}{tl:TE}(hl:PE X l tl):PI X tg l (afv X.K tl):=by
 intro π s σ H R I h;refine thn (hl π s σ H _ I h) λv s1 hE=>xq2 hE λx H1 I1 r1 q1=>?_;obtain⟨a,e,⟨xs,hq⟩,q⟩:=q1;subst e;cases r1;obtain⟨χ,rv,p,hz⟩:=I1.tuple hq;refine sQ (show s1.heap.IsTuple a χ.toArray from p) ?_;refine⟨s1.heap.objs.size,[s1.heap.objs.size],_,_,H1,rfl,I1.kept (t':=s1.toks) λb o e=>ai _ e,Mi a _,⟨_,aE _ rfl,rfl,rfl⟩,λb hb=>?_,q⟩;have e:b=s1.heap.objs.size:=by simpa using hb
 subst e;exact I1.KD (ay _)<|I1.hok.fresh<|ay _
theorem Jl {π:Zl}{σ:St}{H:Hp}{s:bq}{R:It->Hp->Prop}{E:Zs}{lo hi:Int}{t u v:Tok}{tk:Nat}(I:Inv X π σ H s)(h1:-(2^62)<=lo)(h2:lo<2^62)(h3:-(2^62)<=hi)(h4:hi<2^62)
  (q:R (Itr lo (hi-lo).toNat) H):bt (dr X.prog X.w) X.A (BH<|.ref s.heap.objs.size) (PIE X π σ tg R) E { s with heap:=s.heap.push { cls:=.type "range",data:=.fields #[.int lo t,.int hi u,.int 1 v] },toks:=tk }:=by
 refine wpAny_pyIter_range (IsRange.new ..) (small_one h1 h2 h3 h4) ?_;have I1:Inv X π σ H { s with heap:=s.heap.push { cls:=.type "range",data:=.fields #[.int lo t,.int hi u,.int 1 v] },toks:=tk }:=I.kept λb o e=>ai _ e;refine⟨(s.heap.push { cls:=.type "range",data:=.fields #[.int lo t,.int hi u,.int 1 v] }).objs.size,[(s.heap.push { cls:=.type "range",data:=.fields #[.int lo t,.int hi u,.int 1 v] }).objs.size],_,_,H,rfl,
  I1.kept (t':=tk) λb o e=>ai _ e,M6 _ lo (hi-lo).toNat,?_,λb hb=>?_,q⟩
 ·have e1:lo+((0:Nat):Int)*1=lo:=by simp
  have e2:(((hi-lo).toNat:Nat):Int)-((0:Nat):Int)=l6 lo hi 1:=by rw[rangeSize_one];split<;>lia
  show As _ _ (lo+((0:Nat):Int)*1) ((((hi-lo).toNat:Nat):Int)-((0:Nat):Int)) 1;rw[e1,e2];exact aE _ rfl
 ·have e:b=(s.heap.push { cls:=.type "range",data:=.fields #[.int lo t,.int hi u,.int 1 v] }).objs.size:=by simpa using hb
  subst e;exact I1.KD (ay _)<|I1.hok.fresh<|ay _
def ad8 (ta:TA):TI:=λσ H R=>ta σ H λvs H1=>∃j:Int,vs=[.int j]/\-(2^62)<=j/\j<2^62/\R (Itr 0 j.toNat) H1
def ady (ta:TA):TI:=λσ H R=>ta σ H λvs H1=>∃i j:Int,vs=[.int i,.int j]/\(-(2^62)<=i/\i<2^62/\-(2^62)<=j/\j<2^62)/\R (Itr i (j-i).toNat) H1
theorem RT (hg:Gl X "range")(hm:X.mg "range" = none)(ha:PA X [a] ta)(hs:ax [a] X.env=[(false,eval a X.env)]:=by rfl):PI X tg (.Call (.Name "range" p) [a] [] pos) (ad8 ta):=by
 intro π s σ H R I h;refine Call_<|oK I hg hm boot_range<|dE (thn (ha pos π s σ H _ I h) λus s1 hE=>xq2 hE λvs H1 I1 r1 q1=>?_) hs rfl;obtain⟨j,e,q1,q2,q⟩:=q1;subst e;cases r1 with
 |cons r rr=>
  cases rr;obtain⟨t,rfl⟩:=r;exact call_range_1<|Jl I1 (by lia) (by lia) q1 q2<|by simpa using q
theorem S7 (hg:Gl X "range")(hm:X.mg "range" = none)(ha:PA X [a,b] ta)(hs:ax [a,b] X.env=[(false,eval a X.env),(false,eval b X.env)]:=by rfl)(hs2:ax [b] X.env=[(false,eval b X.env)]:=by rfl):
  PI X tg (.Call (.Name "range" p) [a,b] [] pos) (ady ta):=by
 intro π s σ H R I h;refine Call_<|oK I hg hm boot_range<|dE (thn (ha pos π s σ H _ I h) λus s1 hE=>xq2 hE λvs H1 I1 r1 q1=>?_) (by rw[hs,hs2]) (by rw[hs2];rfl);obtain⟨i,j,e,⟨q1,q2,q3,q4⟩,q⟩:=q1;subst e;cases r1 with
 |cons r rr=>
  cases rr with
  |cons r' rr=>
   cases rr;obtain⟨t,rfl⟩:=r;obtain⟨t',rfl⟩:=r';exact call_range_2<|Jl I1 q1 q2 q3 q4 q
def afx (wi:TI)(g:TG)(tb:TS):TS:=λD σ H=>wi σ H λJ H1=>∃W:Nat->Nat->St->Hp->Prop,(∃m,W 0 m σ H1)/\∀i m σ H,W i m σ H->
 (J.stop i H/\D.nx σ H)\/(J.go i H/\∃N:St->Hp->Prop,(∀σ' H',N σ' H'->∃m',m'<m/\W (i+1) m' σ' H')/\∀x H',J.yld i H x H'->g x σ H' λσ2 H2=>tb { D with nx:=N,ct:=N,bk:=D.nx } σ2 H2)
noncomputable def vK (fp:List Addr)(h:Heap):Zl:=fp.filterMap λb=>(h.get? b).map λo=>(b,o)
theorem rF (hb:b∈fp)(e:h.get? b=some o):(b,o)∈vK fp h:=List.mem_filterMap.mpr ⟨b,hb,by rw[e];rfl⟩
theorem SM (hp:p∈vK fp h):p.1∈fp/\h.get? p.1=some p.2:=by
 obtain⟨b,hb,e⟩:=List.mem_filterMap.mp hp;cases q:h.get? b with
 |none=>rw[q] at e;cases e
 |some o=>
  rw[q] at e;have e':(b,o)=p:=cE e;subst e';exact⟨hb,q⟩
theorem Inv.pinned (I:Inv X π σ H s)(hf:∀b∈fp,uX X π H b)(ho:∀b∈fp,∃o,s.heap.get? b=some o/\∀v,o.data≠.cell v):Inv X (π++vK fp s.heap) σ H s:=
 I.Qi λp hp=>(c6.mp hp).elim (λz=>I.pin p<|cp _ z) λz=>by
  obtain⟨hb,e⟩:=SM z;obtain⟨f0,f1,f2,_⟩:=hf p.1 hb;obtain⟨o,e',d⟩:=ho p.1 hb;rw[e] at e';cases e';exact⟨e,f0,f1,f2,d⟩
theorem Inv.xZ (I:Inv X (π++pl) σ H s):Inv X π σ H s:=I.Qi λp hp=>I.pin p<|cp _<|fT _ hp
theorem Uz (hp:tz (dr X.prog X.w) X.A X.env X.xe)(hc:X.calm=true)(hi:PI X tg iter wi)(hg:PG X tg g)(hb:PSs X body tb)
  (hs:∀x,gy iter X.env x=pure x:=by intro _;rfl):PS X (.For tg iter body [] pos) (afx wi g tb):=by
 intro π s σ H D I h;refine wpAny_For (thn (hi π s σ H _ I h) λv s1 h1=>thn h1 λitv s2 h2=>?_) hs;obtain⟨it,fp,tn,J,H2,e,I2,T,st2,f2,W,⟨m0,w0⟩,turn⟩:=h2;subst e;have stat:∀{H':Hp},(∀b∈fp,H' b=none)->∀b∈fp,uX X π H' b:=λhn b hb=>⟨hn b hb,(f2 b hb).2⟩;refine codeAny_forLoop_any (λn s'=>∃i σ' H',Inv X π σ' H' s'/\tn i s'.heap/\(∀b∈fp,H' b=none)/\W i n σ' H') ?_ m0 ⟨0,σ,H2,I2,st2,λb hb=>(f2 b hb).1,w0⟩;rintro n s3 ⟨i,σ3,H3,I3,st3,fr3,w3⟩;rcases turn i n σ3 H3 w3 with⟨stop,qn⟩|⟨go,N,hN,step⟩
 ·refine kT hp<|thn (T.done X rfl rfl rfl hc i π s3 σ3 H3 X.xe I3 (stat fr3) st3 stop) λr s4 ⟨hr,I4⟩=>?_;subst hr;exact sf ⟨σ3,H3,I4,qn⟩
 ·refine kT hp<|thn (T.item X rfl rfl rfl hc i π s3 σ3 H3 X.xe I3 (stat fr3) st3 go) λr s4 ⟨u,hr,h4⟩=>?_;subst hr;refine kT hp<|thn h4 λ_ s5 hE=>?_;refine vG hE λx H5 I5 r5 y5 st5 fr5=>?_;have I5':=I5.pinned (stat fr5)<|T.obj _ _ st5;refine kT hp<|thn (hg _ s5 σ3 H5 x u _ I5' r5<|step x H5 y5) λ_ s6 hE=>?_;obtain⟨σ6,H6,I6,q6⟩:=hE;refine kT hp<|thn (hb _ s6 σ6 H6 _ I6 q6) λf s7 q7=>?_;have again:∀{σ7:St} {H7:Hp},Inv X (π++vK fp s5.heap) σ7 H7 s7->N σ7 H7->∃m,m<n/\∃i σ' H',Inv X π σ' H' s7/\tn i s7.heap/\(∀b∈fp,H' b=none)/\W i m σ' H':=λ{σ7 H7} I7 n7=>by
   obtain⟨m',hm,w7⟩:=hN σ7 H7 n7;refine⟨m',hm,i+1,σ7,H7,I7.xZ,T.keep _ _ _ st5 λb hb o e=>(I7.pin (b,o)<|cp _<|cp _<|rF hb e).1,λb hb=>?_,w7⟩;obtain⟨o,e,d⟩:=T.obj _ _ st5 b hb;exact(I7.pin (b,o)<|cp _<|cp _<|rF hb e).2.1
  cases f with
  |next=>obtain⟨σ7,H7,I7,n7⟩:=q7;exact again I7 n7
  |cont=>obtain⟨σ7,H7,I7,n7⟩:=q7;exact again I7 n7
  |brk=>obtain⟨σ7,H7,I7,q7⟩:=q7;exact⟨σ7,H7,I7.xZ,q7⟩
  |ret v=>obtain⟨x7,σ7,H7,I7,r7,q7⟩:=q7;exact⟨x7,σ7,H7,I7.xZ,r7,q7⟩
end
abbrev R2:=V->V->Hp->VK->Prop
def OpR (X:Cx)(f:aS->aS->Sem aS)(r:R2):Prop:=
 ∀(π:Zl) (s:bq) (σ:St) (H:Hp) (x y:V) (v u:aS) (Q:VK),Inv X π σ H s->RelV x v->RelV y u->r x y H Q->
  bt (dr X.prog X.w) X.A (f v u) (EP X π σ Q) X.xe s
def UnR (X:Cx)(f:aS->Sem aS)(r:V->Hp->VK->Prop):Prop:=
 ∀(π:Zl) (s:bq) (σ:St) (H:Hp) (x:V) (v:aS) (Q:VK),Inv X π σ H s->RelV x v->r x H Q->
  bt (dr X.prog X.w) X.A (f v) (EP X π σ Q) X.xe s
def iQ (X:Cx)(f:aS)(r:List V->Hp->VK->Prop):Prop:=
 ∀(π:Zl) (s:bq) (σ:St) (H:Hp) (xs:List V) (us:List aS) (Q:VK),Inv X π σ H s->Vals xs us->r xs H Q->
  bt (dr X.prog X.w) X.A (call f us) (EP X π σ Q) X.xe s
def tOp (r:R2)(ta tb:TE):TE:=λσ H Q=>ta σ H λx H1=>tb σ H1 λy H2=>r x y H2 Q
def tUn (r:V->Hp->VK->Prop)(ta:TE):TE:=λσ H Q=>ta σ H λx H1=>r x H1 Q
def rI (C:Int->Int->Prop)(g:Int->Int->V):R2:=λx y H Q=>∃i j,x=.int i/\y=.int j/\C i j/\Q (g i j) H
def rI0 (g:Int->Int->V):R2:=λx y H Q=>∃i j,x=.int i/\y=.int j/\Q (g i j) H
def rU (g:Int->V):V->Hp->VK->Prop:=λx H Q=>∃i,x=.int i/\Q (g i) H
section
variable {X:Cx}{a b c:Expr}{ta tb tc:TE}{pos:Pos}
theorem acH (ha:PE X a ta)(hb:PE X b tb){π:Zl}{s:bq}{σ:St}{H:Hp}{R:V->V->Hp->Prop}(I:Inv X π σ H s)
  (h:ta σ H λx H1=>tb σ H1 λy H2=>R x y H2) {Q:Zs} {f:aS->aS->Sem aS}
  (hf:∀v u s2 x y H2,Inv X π σ H2 s2->RelV x v->RelV y u->R x y H2->bt (dr X.prog X.w) X.A (f v u) Q X.xe s2):
  bt (dr X.prog X.w) X.A (eval a X.env) (λv s₁=>bt (dr X.prog X.w) X.A (eval b X.env) (λu s₂=>bt (dr X.prog X.w) X.A (f v u) Q X.xe s₂) X.xe s₁) X.xe s:=by
 refine thn (ha π s σ H _ I h) λv s1 hE=>xq2 hE λx H1 I1 r1 q1=>?_;refine thn (hb π s1 σ H1 _ I1 q1) λu s2 hE=>xq2 hE λy H2 I2 r2 q2=>?_;exact hf v u s2 x y H2 I2 r1 r2 q2
theorem aeC (ho:OpR X (kg op) r)(ha:PE X a ta)(hb:PE X b tb):PE X (.BinOp a op b pos) (tOp r ta tb):=by
 intro π s σ H Q I h;exact wpAny_BinOp<|acH ha hb I h λv u s2 x y H2 I2 rx ry q=>ho π s2 σ H2 x y v u Q I2 rx ry q
theorem adU (ho:UnR X (unaryOp op) r)(ha:PE X a ta):PE X (.UnaryOp op a pos) (tUn r ta):=by
 intro π s σ H Q I h;exact UnaryOp_<|thn (ha π s σ H _ I h) λv s1 hE=>xq2 hE λx H1 I1 r1 q1=>ho π s1 σ H1 x v Q I1 r1 q1
theorem opI {f:aS->aS->Sem aS}{C:Int->Int->Prop}{g:Int->Int->Int}
  (rule:∀(i j:Int) (t u:Tok) (s:bq) (Q:Zs) (E:Zs),C i j->Q (.int (g i j) s.toks) { s with toks:=s.toks+1 }->bt (dr X.prog X.w) X.A (f (.int i t)<|.int j u) Q E s):
  OpR X f (rI C λi j=>.int<|g i j):=by
 intro π s σ H x y v u Q I rx ry h;obtain⟨i,j,rfl,rfl,hc,q⟩:=h;obtain⟨t,rfl⟩:=rx;obtain⟨t',rfl⟩:=ry;exact rule i j t t' s _ _ hc ⟨.int<|g i j,H,I.tok _,⟨_,rfl⟩,q⟩
theorem aem {f:aS->aS->Sem aS}{g:Int->Int->Int}
  (rule:∀(i j:Int) (t u:Tok) (s:bq) (Q:Zs) (E:Zs),Q (.int (g i j) s.toks) { s with toks:=s.toks+1 }->bt (dr X.prog X.w) X.A (f (.int i t)<|.int j u) Q E s):
  OpR X f (rI0 λi j=>.int<|g i j):=by
 intro π s σ H x y v u Q I rx ry h;obtain⟨i,j,rfl,rfl,q⟩:=h;obtain⟨t,rfl⟩:=rx;obtain⟨t',rfl⟩:=ry;exact rule i j t t' s _ _ ⟨.int<|g i j,H,I.tok _,⟨_,rfl⟩,q⟩
theorem aaY {f:aS->aS->Sem aS}{g:Int->Int->Bool}
  (rule:∀(i j:Int) (t u:Tok) (s:bq) (Q:Zs) (E:Zs),Q (.bool<|g i j) s->bt (dr X.prog X.w) X.A (f (.int i t)<|.int j u) Q E s):
  OpR X f (rI0 λi j=>.bl<|g i j):=by
 intro π s σ H x y v u Q I rx ry h;obtain⟨i,j,rfl,rfl,q⟩:=h;obtain⟨t,rfl⟩:=rx;obtain⟨t',rfl⟩:=ry;exact rule i j t t' s _ _ ⟨.bl<|g i j,H,I,rfl,q⟩
theorem ack:OpR X (kg .Add) (rI0 λi j=>.int<|i+j):=aem λ_ _ _ _ _ _ _ q=>add_int q
theorem acw:OpR X (kg .Sub) (rI0 λi j=>.int<|i-j):=aem λ_ _ _ _ _ _ _ q=>sub_int q
theorem Y0:OpR X (kg .Mod) (rI (λ_ j=>j≠0) λi j=>.int<|i.fmod j):=opI λ_ _ _ _ _ _ _ hc q=>mod_int' hc q
theorem unI {f:aS->Sem aS}{g:Int->Int}
  (rule:∀(i:Int) (t:Tok) (s:bq) (Q:Zs) (E:Zs),Q (.int (g i) s.toks) { s with toks:=s.toks+1 }->bt (dr X.prog X.w) X.A (f<|.int i t) Q E s):
  UnR X f (rU λi=>.int<|g i):=by
 intro π s σ H x v Q I rx h;obtain⟨i,rfl,q⟩:=h;obtain⟨t,rfl⟩:=rx;exact rule i t s _ _ ⟨.int<|g i,H,I.tok _,⟨_,rfl⟩,q⟩
theorem abC:UnR X (unaryOp .USub) (rU λi=>.int (-i)):=unI λ_ _ _ _ _ q=>neg_int q
end
noncomputable def ad6:V->V->Bool
 | .non,.non=>true|.non,.int _=>true|.int _,.non=>true|.non,.bl _=>true|.bl _,.non=>true|.non,.str _=>true|.str _,.non=>true
 | .int _,.int _=>true|.bl _,.bl _=>true|.str _,.str _=>true|.byt _,.byt _=>true
 | .int _,.str _=>true|.str _,.int _=>true|.bl _,.str _=>true|.str _,.bl _=>true
 |_,_=>false
def rEq:R2:=λx y H Q=>ad6 x y=true/\Q (.bl<|decide<|x=y) H
def rNe:R2:=λx y H Q=>ad6 x y=true/\Q (.bl<|!decide (x=y)) H
theorem PB:decide (V.int i=V.int j)=(i==j):=by
 rw[sg]
 simp
theorem V9:decide (V.bl i=V.bl j)=(i==j):=by
 rw[sg]
 simp
theorem NB:decide (V.str i=V.str j)=(i==j):=by
 rw[sg]
 simp
theorem QX:decide (V.byt i=V.byt j)=(i.toList==j.toList):=by
 rw[sg];cases i;cases j
 simp
section
theorem cF (I:Inv X π σ H s)(q:Q (.bl k) H)(e:k=k'):EP X π σ Q (.bool k') s:=by
 subst e;exact⟨.bl k,H,I,rfl,q⟩
theorem Ol:OpR X (fx .Eq) rEq:=by
 intro π s σ H x y v u Q I rx ry h;obtain⟨hs,q⟩:=h;cases x with
 |non=>
  cases rx;cases y with
  |non=>cases ry;exact PySem.EqNone.eq_none_none<|cF I q<|by simp
  |bl j=>cases ry;exact PySem.EqNone.eq_none_bool<|cF I q<|by simp
  |int j=>obtain⟨t',rfl⟩:=ry;exact PySem.EqNone.eq_none_int<|cF I q<|by simp
  |str j=>obtain⟨t',rfl⟩:=ry;exact PySem.EqNone.eq_none_str<|cF I q<|by simp
  |_=>exact absurd (show false=true from hs) be
 |bl i=>
  cases rx;cases y with
  |non=>cases ry;exact PySem.EqNone.eq_bool_none<|cF I q<|by simp
  |bl j=>cases ry;exact eq_bool<|cF I q V9
  |str j=>obtain⟨t',rfl⟩:=ry;exact PySem.EqMixed.eq_bool_str<|cF I q<|by simp
  |_=>exact absurd (show false=true from hs) be
 |int i=>
  obtain⟨t,rfl⟩:=rx;cases y with
  |non=>cases ry;exact PySem.EqNone.eq_int_none<|cF I q<|by simp
  |int j=>obtain⟨t',rfl⟩:=ry;exact eq_int<|cF I q PB
  |str j=>obtain⟨t',rfl⟩:=ry;exact PySem.EqMixed.eq_int_str<|cF I q<|by simp
  |_=>exact absurd (show false=true from hs) be
 |str i=>
  obtain⟨t,rfl⟩:=rx;cases y with
  |non=>cases ry;exact PySem.EqNone.eq_str_none<|cF I q<|by simp
  |bl j=>cases ry;exact PySem.EqMixed.eq_str_bool<|cF I q<|by simp
  |int j=>obtain⟨t',rfl⟩:=ry;exact PySem.EqMixed.eq_str_int<|cF I q<|by simp
  |str j=>obtain⟨t',rfl⟩:=ry;exact eq_str<|cF I q NB
  |_=>exact absurd (show false=true from hs) be
 |byt i=>
  obtain⟨t,rfl⟩:=rx;cases y with
  |byt j=>obtain⟨t',rfl⟩:=ry;exact W.eq_bytes<|cF I q QX
  |_=>exact absurd (show false=true from hs) be
 |_=>cases y<;>exact absurd (show false=true from hs) be
theorem Qc:OpR X (fx .NotEq) rNe:=by
 intro π s σ H x y v u Q I rx ry h;obtain⟨hs,q⟩:=h;cases x with
 |non=>
  cases rx;cases y with
  |non=>cases ry;exact PySem.EqNone.ne_none_none<|cF I q<|by simp
  |bl j=>cases ry;exact PySem.EqNone.ne_none_bool<|cF I q<|by simp
  |int j=>obtain⟨t',rfl⟩:=ry;exact PySem.EqNone.ne_none_int<|cF I q<|by simp
  |str j=>obtain⟨t',rfl⟩:=ry;exact PySem.EqNone.ne_none_str<|cF I q<|by simp
  |_=>exact absurd (show false=true from hs) be
 |bl i=>
  cases rx;cases y with
  |non=>cases ry;exact PySem.EqNone.ne_bool_none<|cF I q<|by simp
  |bl j=>cases ry;exact ne_bool<|cF I q<|congrArg not V9
  |str j=>obtain⟨t',rfl⟩:=ry;exact PySem.EqMixed.ne_bool_str<|cF I q<|by simp
  |_=>exact absurd (show false=true from hs) be
 |int i=>
  obtain⟨t,rfl⟩:=rx;cases y with
  |non=>cases ry;exact PySem.EqNone.ne_int_none<|cF I q<|by simp
  |int j=>obtain⟨t',rfl⟩:=ry;exact ne_int<|cF I q<|congrArg not PB
  |str j=>obtain⟨t',rfl⟩:=ry;exact PySem.EqMixed.ne_int_str<|cF I q<|by simp
  |_=>exact absurd (show false=true from hs) be
 |str i=>
  obtain⟨t,rfl⟩:=rx;cases y with
  |non=>cases ry;exact PySem.EqNone.ne_str_none<|cF I q<|by simp
  |bl j=>cases ry;exact PySem.EqMixed.ne_str_bool<|cF I q<|by simp
  |int j=>obtain⟨t',rfl⟩:=ry;exact PySem.EqMixed.ne_str_int<|cF I q<|by simp
  |str j=>obtain⟨t',rfl⟩:=ry;exact ne_str<|cF I q<|congrArg not NB
  |_=>exact absurd (show false=true from hs) be
 |byt i=>
  obtain⟨t,rfl⟩:=rx;cases y with
  |byt j=>obtain⟨t',rfl⟩:=ry;exact W.ne_bytes<|cF I q<|congrArg not QX
  |_=>exact absurd (show false=true from hs) be
 |_=>cases y<;>exact absurd (show false=true from hs) be
theorem adQ:OpR X (fx .Lt) (rI0 λi j=>.bl<|decide<|i<j):=aaY λ_ _ _ _ _ _ _ q=>lt_int q
theorem adh:OpR X (fx .Gt) (rI0 λi j=>.bl<|decide<|j<i):=aaY λ_ _ _ _ _ _ _ q=>gt_int q
theorem ado:OpR X (fx .GtE) (rI0 λi j=>.bl<|decide<|j<=i):=aaY λ_ _ _ _ _ _ _ q=>ge_int q
theorem bD (b:Expr){op:CmpOp}(h:op≠.In:=by decide)(h2:op≠.NotIn:=by decide):l3 op b=false:=by
 have e1:(op==CmpOp.In)=false:=by cases op<;>first|rfl|exact absurd rfl h
 have e2:(op==CmpOp.NotIn)=false:=by cases op<;>first|rfl|exact absurd rfl h2
 cases b<;>simp[l3,e1,e2]
theorem aab (ho:OpR X (fx op) r)(ha:PE X a ta)(hb:PE X b tb)(hm:l3 op b=false):PE X (.Compare a [op] [b] pos) (tOp r ta tb):=by
 intro π s σ H Q I h;exact wpAny_Compare1 (acH ha hb I h λv u s2 x y H2 I2 rx ry q=>ho π s2 σ H2 x y v u Q I2 rx ry q) hm
def aef (t:TE):TT:=λσ H Q=>t σ H λx H'=>∃k,x=.bl k/\Q k H'
theorem YG (ho:OpR X (fx op) r)(ha:PE X a ta)(hb:PE X b tb)(hm:l3 op b=false):PT X (.Compare a [op] [b] pos) (aef<|tOp r ta tb):=by
 intro π s σ H Q I h;refine wpAny_isTrue_Compare1 (thn (ha π s σ H _ I h) λv s1 hE=>xq2 hE λx H1 I1 r1 q1=>thn (hb π s1 σ H1 _ I1 q1) λu s2 hE=>xq2 hE λy H2 I2 r2 q2=>
  thn (ho π s2 σ H2 x y v u _ I2 r1 r2 q2) λc s3 ⟨z,H3,I3,r3,k,e,q3⟩=>?_) hm
 subst e;cases r3;exact mM ⟨H3,I3,q3⟩
theorem yW:(aw:Nat)<2^63:=by rw[sizeLine_eq];decide
theorem Mv:OpR X (kg .Add) (λx y H Q=>∃i j,x=.str i/\y=.str j/\i.length+j.length<=aw/\Q (.str<|i++j) H):=by
 intro π s σ H x y v u Q I rx ry h;obtain⟨i,j,rfl,rfl,hz,q⟩:=h;obtain⟨t,rfl⟩:=rx;obtain⟨t',rfl⟩:=ry;exact add_str (λt' tk=>⟨.str<|i++j,H,I.tok _,⟨_,rfl⟩,q⟩) hz
theorem vals1 (r:Vals [x] us):∃u,us=[u]/\RelV x u:=by
 cases r with
 |cons r1 r2=>cases r2;exact⟨_,rfl,r1⟩
theorem vals2 (r:Vals [x,y] us):∃u w',us=[u,w']/\RelV x u/\RelV y w':=by
 cases r with
 |cons r1 r2=>
  cases r2 with
  |cons r3 r4=>cases r4;exact⟨_,_,rfl,r1,r3⟩
theorem WK:iQ X (.builtin "abs") (λxs H Q=>∃i,xs=[.int i]/\Q (.int<|if i<0 then -i else i) H):=by
 intro π s σ H xs us Q I r h;obtain⟨i,rfl,q⟩:=h;obtain⟨u,rfl,t,rfl⟩:=vals1 r;exact call_abs_int λu tk=>⟨.int<|if i<0 then -i else i,H,I.tok _,⟨_,rfl⟩,q⟩
end
structure abh (h:Heap)(x dx C:Addr)(mA:Zp):Prop where
 obj:h.get? x=some (W.instObj C dx)
 ns:h.Ns1 dx mA
 ne:dx≠x
theorem Sd {h:Heap}(n:h.Ns1 dx mA):∃od,h.get? dx=some od/\∀name,W.lookIn name od=some (mA name):=by
 refine Pg n λo es ep ho hd hk _ hm=>?_;refine⟨o,ho,λname=>?_⟩;have e:=hm name;unfold nsFind findBy at e;rw[← Array.find?_toList] at e;unfold W.lookIn;rw[hd];dsimp only;split
 ·rename_i y q;rw[q] at e;exact congrArg some e
 ·rename_i q;rw[q] at e;have a:es.toList.any (·.refKey)=false:=by
   rw[List.any_eq_false];intro y hy;obtain⟨z,t,hkey⟩:=hk y<|Array.mem_toList_iff.mp hy;simp[DictEntry.refKey,hkey]
  have a':¬es.toList.any (·.refKey)=true:=by rw[a];exact be
  rw[if_neg a'];exact congrArg some e
theorem abh.look (I:abh h x dx C mA):∃od,W.InstAt h x (W.instObj C dx) C (some od)/\∀name,W.lookIn name od=some (mA name):=
 let⟨od,ho,hl⟩:=Sd I.ns
 ⟨od,⟨I.obj,rfl,rfl,ho⟩,hl⟩
section
variable {prog:cy}{w:fI}{A:iN}{E:Zs}{s:bq}{K:bP}{x dx C f:Addr}{mA:Zp}{name:Str}{v:aS}
end
theorem Bh.some_of (r:Bh (some v) o):∃u,o=some u/\RelV v u:=by
 cases o with
 |none=>exact(show False from r).elim
 |some u=>exact⟨u,rfl,r⟩
section
theorem Xi (hok:HOk P w H h)(e:H a=some (.ins C dx fs)):∃mA,abh h a dx C mA/\(∀f,Bh (fs.lookup f)<|mA f)/\PySem.Within mA (fs.map (·.1))/\fs.length<=1000/\H dx=some (.own a):=by
 obtain⟨d,z,ne,ob,mA,n,r,q⟩:=(show cV P w H h a (.ins C dx fs) from hok a _ e);exact⟨mA,⟨ob,n,ne⟩,r,q,z,d⟩
end
structure Cls (K:bP)(C:Addr):Prop where
 pg:W.plainGet K C BB=true
 hd:W.hasDictIn K C=true
 po:W.plainOver K C=true
 sa:W.findIn K (.ref C) "__setattr__" = some (some (.builtin "object.__setattr__"))
theorem Cls.get {K:bP}{C:Addr}(c:Cls K C)(f:Str):W.plainGet K C f=true:=c.pg
section
variable {X:Cx}{π:Zl}{σ:St}{H:Hp}{s:bq}{a C dx:Addr}{fs:List (Str×V)}{f:Str}{v:V}{A:iN}{E:Zs}
end
section
end
section
inductive yC (K:bP)(H:Hp):V->aS->Prop where
 |non:yC K H .non (.type "NoneType")
 |bl (x:Bool):yC K H (.bl x) (.type "bool")
 |int (i:Int):yC K H (.int i) (.type "int")
 |str (x:Str):yC K H (.str x) (.type "str")
 |flt (x:UInt64):yC K H (.flt x) (.type "float")
 |lst {a:Addr} {xs:List V} (e:H a=some (.lst xs)):yC K H (.ref a) (.type "list")
 |frz {a:Addr} {o:Obj} {xs:List V} (e:H a=some (.frz o (.lst xs))):yC K H (.ref a) (.type "list")
 |tup {a:Addr} {xs:List V} (e:H a=some (.tup xs)):yC K H (.ref a) (.type "tuple")
 |dK {a:Addr} {ι:List (Key×V)} (e:Rd H a (.dK ι)):yC K H (.ref a) (.type "dict")
 |dT {a:Addr} {T:Addr->List V->Prop} {ι:List (List Kt×V)} (e:H a=some (.dT T ι)):yC K H (.ref a) (.type "dict")
 |ins {a C dx:Addr} {fs:List (Str×V)} (e:H a=some (.ins C dx fs)) (cl:Cls K C) (ha:W.findIn K (.ref C) "__class__" = some (some (.builtin "object.__class__")))
   (hn:W.specialIn K (.builtin "object.__class__") "__get__" = some (some (.builtin "getset_descriptor.__get__"))) (htk:W.takesIn K (.builtin "object.__class__")=some true)
   (hm:W.mroIn K C (.type "object")=some true):yC K H (.ref a) (.ref C)
theorem RJ (I:Inv X π σ H s)(rx:RelV x u)(ty:yC X.K H x t)(e:Bn X.K t c=some b)(h:∀tk,Q (.bool b) { s with toks:=tk }):
  bt (dr X.prog X.w) A (call (.builtin "isinstance") [u,c]) Q E s:=by
 cases ty with
 |non=>cases(show u=i9 from rx);exact md W.kitx_none I.kIn hJ e (λz=>nomatch z) h
 |bl y=>cases(show u=A2 y from rx);exact md W.kitx_bool I.kIn hJ e (λz=>nomatch z) h
 |int i=>obtain⟨t,q⟩:=(show ∃t,u=AL i t from rx);cases q;exact md W.kitx_int I.kIn hJ e (λz=>nomatch z) h
 |str y=>obtain⟨t,q⟩:=(show ∃t,u=tq y t from rx);cases q;exact md W.kitx_str I.kIn hJ e (λz=>nomatch z) h
 |flt y=>obtain⟨t,q⟩:=(show ∃t,u=Value.float y t from rx);cases q;exact md W.kitx_float I.kIn hJ e (λz=>nomatch z) h
 | @lst a xs ea=>
  cases(show u=cx a from rx);obtain⟨_,_,n,_,h1⟩:=(show cV X.prog X.w H s.heap a (.lst xs) from I.hok a _ ea);exact md W.kitx_list I.kIn ⟨_,h1,rfl⟩ e (λz=>nomatch z) h
 | @frz a ob xs ea=>
  cases(show u=cx a from rx);obtain⟨_,_,_,n,_,h1⟩:=(show cV X.prog X.w H s.heap a (.frz ob<|.lst xs) from I.hok a _ ea);exact md W.kitx_list I.kIn ⟨_,h1,rfl⟩ e (λz=>nomatch z) h
 | @tup a xs ea=>
  cases(show u=cx a from rx);obtain⟨_,_,_,p⟩:=(show cV X.prog X.w H s.heap a (.tup xs) from I.hok a _ ea);obtain⟨o,h1,h2,_⟩:=p;exact md W.kitx_tuple I.kIn ⟨o,h1,h2⟩ e (λz=>nomatch z) h
 | @dK a ι ea=>
  cases(show u=cx a from rx);obtain⟨_,_,vs,_,p⟩:=(show cV X.prog X.w H s.heap a (.dK ι) from ea.ok I.hok);refine Kd p λo es ep h1 h2 _=>?_;exact md W.kitx_dict I.kIn ⟨o,h1,h2.1⟩ e (λz=>nomatch z) h
 | @dT a T ι ea=>
  cases(show u=cx a from rx);obtain⟨_,_,xs,_,o,es,ep,h1,h2,_⟩:=(show cV X.prog X.w H s.heap a (.dT T ι) from I.hok a _ ea);exact md W.kitx_dict I.kIn ⟨o,h1,h2.1⟩ e (λz=>nomatch z) h
 | @ins a C dx fs ea cl ha hn htk hm=>
  cases(show u=cx a from rx);obtain⟨mA,O,_⟩:=Xi I.hok ea;obtain⟨od,J,_⟩:=O.look;exact md (W.kitx_own (cl.get _) cl.hd ha hn htk hm) I.kIn J e (λz=>nomatch z) h
end
structure gD (k:Nat)(A:iN):Prop where
 hd:A.handled=none
 dp:A.depth+3*k+5<recursionLimit
 un:A.units+16*k+200<mm
 gd:A.guards=some []
theorem gD.mono (r:gD k A)(h:j<=k):gD j A:=⟨r.hd,by have:=r.dp;lia,by have:=r.un;lia,r.gd⟩
theorem gD.deeper (r:gD (k+1) A)(env:Env):gD k (A.deeper env):=
 ⟨r.hd,by have:=r.dp;show A.depth+1+3*k+5<_;lia,by have:=r.un;show A.units+3+16*k+200<_;lia,r.gd⟩
theorem gD.depth (r:gD k A):A.depth<recursionLimit:=by have:=r.dp;lia
theorem gD.units (r:gD k A):A.units+64<mm:=by have:=r.un;lia
theorem gD.Lr (r:gD k A):A.units<mm:=by have:=r.un;lia
def aeY:TA:=λ_ H Q=>Q [] H
def adC (ta:TE)(tr:TA):TA:=λσ H Q=>ta σ H λx H1=>tr σ H1 λxs H2=>Q (x::xs) H2
section
theorem rA:PA X [] aeY:=λ_ _ _ _ H Q I h=>tJ ⟨[],H,I,.nil,h⟩
theorem jf (ha:PE X e te)(hr:PA X es t)(hs:ax (e::es) X.env=(false,eval e X.env)::ax es X.env:=by rfl):PA X (e::es) (adC te t):=by
 intro pos π s σ H Q I h;rw[hs];show bt _ _ (spliced ((false,eval e X.env)::ki pos (ax es X.env))) _ _ s;refine oQ<|thn (ha π s σ H _ I h) λu s1 hE=>xq2 hE λx H1 I1 r1 q1=>?_;exact thn (hr pos π s1 σ H1 _ I1 q1) λus s2 hE=>xq2 hE λxs H2 I2 r2 q2=>⟨x::xs,H2,I2,.cons r1 r2,q2⟩
def afr (t:TA):TE:=λσ H Q=>t σ H λxs H1=>xs.length<=aw/\∀p,H1 p=none->Q (.ref p) (upd H1 p<|.tup xs)
def aeZ (t:TA):TE:=λσ H Q=>t σ H λxs H1=>xs.length<=aw/\∀p,H1 p=none->Q (.ref p) (upd H1 p<|.lst xs)
theorem aa8 (h:PA X es t):PE X (.Tuple es x1 pos) (afr t):=by
 intro π s σ H Q I hq;refine wpAny_Tuple_spliced<|thn (h pos π s σ H _ I hq) λus s1 ⟨xs,H1,I1,r,z,q⟩=>⟨by rw[← r.length];exact z,?_⟩;have hf:H1 s1.heap.objs.size=none:=I1.hok.fresh<|ay _;refine⟨.ref s1.heap.objs.size,upd H1 s1.heap.objs.size<|.tup xs,I1.laid (t':=s1.toks) (λb u e=>ai _ e) (ay _) ?_,rfl,q _ hf⟩;exact⟨z,us,r,⟨_,aE _ rfl,rfl,_,rfl,rfl⟩⟩
theorem abu (h:PA X es t):PE X (.List es pos) (aeZ t):=by
 intro π s σ H Q I hq;refine wpAny_List_spliced<|thn (h pos π s σ H _ I hq) λus s1 ⟨xs,H1,I1,r,z,q⟩=>⟨by rw[← r.length];exact z,?_⟩;have hf:H1 s1.heap.objs.size=none:=I1.hok.fresh<|ay _;refine⟨.ref s1.heap.objs.size,upd H1 s1.heap.objs.size<|.lst xs,I1.laid (t':=s1.toks) (λb u e=>ai _ e) (ay _) ?_,rfl,q _ hf⟩;exact⟨z,us,0,r,aE _ rfl⟩
end
abbrev Sp:=List V->Hp->VK->XK->Prop
abbrev CXT:=List Env->Hp->bq->XK->Zs
structure Yq (P:cy)(w:fI)(K:bP)(mg:Zp)(base:Heap)(A:iN)(outer:List Env)(s:bq)(H:Hp):Prop where
 frames:A.frames=some outer
 mod:Mod K mg base
 bs:∀b o,base.get? b=some o->s.heap.get? b=some o/\H b=none
 bsz:base.objs.size<=s.heap.objs.size
 CP:s.heap.FunFrames base outer
 frf:∀b∈frs outer,H b=none
 hok:HOk P w H s.heap
 bare:v3 s.gens
def CE (outer:List Env)(P:cy)(w:fI)(H:Hp)(s:bq)(Q:VK)(u:aS)(s':bq):Prop:=
 ∃v H',s'.os=s.os/\v3 s'.gens/\Un (frs outer) [] H H' s.heap s'.heap/\HOk P w H' s'.heap/\RelV v u/\Q v H'
def CR (CX:CXT)(outer:List Env)(P:cy)(w:fI)(H:Hp)(s:bq)(Q:VK)(E:XK)(r:Result)(s':bq):Prop:=
 match r with
 | .ok (.ret u)=>CE outer P w H s Q u s'
 | .ok _=>False
 | .error e=>CX outer H s E e s'
structure qL (P:cy)(w:fI)(K:bP)(mg:Zp)(base:Heap)(CX:CXT)(k:Nat)(f:Addr)(fd:kA)(ps:List Str)(sp:Sp):Prop where
 len:∀vs H Q E,sp vs H Q E->vs.length=ps.length
 run:∀(A:iN) (outer:List Env) (s:bq) (H:Hp) (args:Args) (us:List aS) (vs:List V) (Q:VK) (E:XK),gD k A->Yq P w K mg base A outer s H->BC s fd args (ps.zip us)->Vals vs us->sp vs H Q E->
  A3 (dr P w) A (.call (.ref f) args) (CR CX outer P w H s Q E) s
theorem qL.imp {P:cy}{w:fI}{K:bP}{mg:Zp}{base:Heap}{CX:CXT}{k:Nat}{f:Addr}{fd:kA}{ps:List Str}{sp sp':Sp}(F:qL P w K mg base CX k f fd ps sp)
  (h:∀vs H Q E,sp' vs H Q E->sp vs H Q E):qL P w K mg base CX k f fd ps sp':=
 ⟨λvs H Q E q=>F.len vs H Q E<|h _ _ _ _ q,λA outer s H args us vs Q E hr he hb hv hs=>F.run A outer s H args us vs Q E hr he hb hv<|h _ _ _ _ hs⟩
section
theorem Inv.env0 (I:Inv X π σ H s):Yq X.prog X.w X.K X.mg X.base X.A X.stack s H:=
 ⟨I.ok.frames,I.ok.mod,I.bs,iA I.ok.bsz I.sz,I.stack,I.OD,I.hok,I.bare⟩
theorem Inv.after (I:Inv X π σ H s)(h:CE X.stack X.prog X.w H s Q u s'):EP X π σ Q u s':=by
 refine K4 h λv H' os bare un hok r q=>?_;obtain⟨hh,g,d,t,os'⟩:=s';obtain rfl:os'=s.os:=os;exact⟨v,H',I.call (h':=hh) (g':=g) (d':=d) (t':=t) (ch:=[]) un hok bare λb z=>absurd z (by simp),r,q⟩
end
def aen (sp:Sp)(dvs:List V)(E:XK)(t:TA):TE:=λσ H Q=>t σ H λvs H1=>sp (vs++dvs) H1 Q E
def Binds (K:bP)(fd:kA)(ps:List Str)(ds:List aS):Prop:=
 ∀(s:bq) (us:List aS),K.In s.heap->(us++ds).length=ps.length->BC s fd ⟨us,[]⟩ (ps.zip<|us++ds)
theorem Binds.all {K:bP}{fd:kA}{ps:List Str}(h:∀us:List aS,us.length=ps.length->bindArgs fd ⟨us,[]⟩=pure (ps.zip us)):Binds K fd ps []:=λs us _ hl=>by
 rw[eR] at hl ⊢;exact .of_eq<|h us hl
def Passes (CX:CXT)(X:Cx)(E:XK):Prop:=∀(π:Zl) (σ:St) (H:Hp) (s:bq) (e:aS) (s':bq),Inv X π σ H s->CX X.stack H s E e s'->X.xe e s'
section
variable {X:Cx}{CX:CXT}{k:Nat}{f C:Addr}{fd:kA}{ps:List Str}{sp:Sp}{dvs:List V}{ds:List aS}{E:XK}{x m:Str}{p pos apos:Pos}{e o:Expr}{es:List Expr}{ta:TE}{t:TA}
theorem abf (F:qL X.prog X.w X.K X.mg X.base CX k f fd ps sp)(hr:gD k X.A)(hb:Binds X.K fd ps ds)(hd:Vals dvs ds)(hx:Passes CX X E)
  (I:Inv X π σ H s) (r:Vals vs us) (h:sp (vs++dvs) H Q E):bt (dr X.prog X.w) X.A (call (.ref f) us) (EP X π σ Q) X.xe s:=by
 have r2:Vals (vs++dvs) (us++ds):=r.append hd;have hl:(us++ds).length=ps.length:=by rw[← r2.length];exact F.len _ _ _ _ h
 refine wpAny_call<|codeAny_mono (F.run X.A X.stack s H ⟨us,[]⟩ (us++ds) (vs++dvs) Q E hr I.env0 (hb s us I.kIn hl) r2 h) λr s' hq=>?_;cases r with
 |error e=>exact hx π σ H s e s' I hq
 |ok fl=>
  cases fl with
  |ret u=>exact I.after hq
  |next=>exact oy hq
  |brk=>exact oy hq
  |cont=>exact oy hq
theorem Ax (F:qL X.prog X.w X.K X.mg X.base CX k f fd ps sp)(hr:gD k X.A)(hg:Gl X x)(hm:X.mg x=some (.ref f))(hk:Bz X.K (.ref f)=true)(hb:Binds X.K fd ps ds)(hd:Vals dvs ds)(hx:Passes CX X E)
  (ha:PA X (e::es) t) (hdb:(x==("__debug__":Str))=false:=by decide) (he:ax (e::es) X.env=(false,eval e X.env)::ax es X.env:=by rfl) (τ:(ki pos<|ax es X.env).any (·.1)=false:=by rfl):
  PE X (.Call (.Name x p) (e::es) [] pos) (aen sp dvs E t):=by
 intro π s σ H Q I h;refine kB<|Nz I hg hm ?_ hdb;refine W.callWith_K (h₀:=X.base) I.ok.mod.kin hk (thn (ha pos π s σ H _ I h) λus s1 hE=>xq2 hE λvs H1 I1 r q=>⟨I1.kIn,?_⟩) he τ;exact abf F hr hb hd hx I1 r q
end
section
end
structure aR (N P:List Str)(sc:zh):Prop where
 kind:sc.kind=.function
 co:sc.isCoroutine=false
 gen:sc.isGenerator=false
 nd:N.Nodup
 pre:N.take P.length=P
 par:∀x∈P,sc.names.lookup x=some .local\/sc.names.lookup x=some .cell
 nofree:∀y∈sc.names,y.2≠.free
theorem Fv {tP:Str->Option wm}{x:Str}:∀{binds:List (Str×aS)} {m:Zp},(∀v,(x,v)∉binds)->bindL tP binds m x=m x
 |[],_,_=>rfl
 |(n,v)::r,m,h=>by
  unfold bindL;rw[Fv λw hw=>h w<|af _ hw];split
  ·have:x≠n:=by rintro rfl;exact h v ah
   simp[this]
  ·rfl
theorem Gb {tP:Str->Option wm}{x:Str}:∀{binds:List (Str×aS)} {m:Zp},(∀v,(x,v)∉binds)->bindC tP binds m x=m x
 |[],_,_=>rfl
 |(n,v)::r,m,h=>by
  unfold bindC;rw[Gb λw hw=>h w<|af _ hw];split
  ·rfl
  ·have:x≠n:=by rintro rfl;exact h v ah
   simp[this]
theorem Ez {tP:Str->Option wm}{x:Str}{v:aS}:∀{P:List Str} {vs:List aS} {i:Nat} {m:Zp},P.Nodup->P[i]? = some x->vs[i]? = some v->tP x=some .local->
  bindL tP (P.zip vs) m x=some v
 |[],_,_,_,_,h,_,_=>by simp at h
 |_::_,[],_,_,_,_,h,_=>by simp at h
 |p::P,w::vs,0,m,nd,h1,h2,hk=>by
  simp at h1 h2;subst h1;subst h2;show bindL tP ((p,w)::P.zip vs) m p=_;unfold bindL;rw[Fv λv hv=>(gT.mp nd).1 (x5 hv).1,if_pos hk]
  simp
 |p::P,w::vs,i+1,m,nd,h1,h2,hk=>by
  show bindL tP ((p,w)::P.zip vs) m x=_;unfold bindL;exact Ez (i:=i) (gT.mp nd).2 (by simpa using h1) (by simpa using h2) hk
theorem Ew {tP:Str->Option wm}{x:Str}{v:aS}:∀{P:List Str} {vs:List aS} {i:Nat} {m:Zp},P.Nodup->P[i]? = some x->vs[i]? = some v->tP x≠some .local->
  bindC tP (P.zip vs) m x=some v
 |[],_,_,_,_,h,_,_=>by simp at h
 |_::_,[],_,_,_,_,h,_=>by simp at h
 |p::P,w::vs,0,m,nd,h1,h2,hk=>by
  simp at h1 h2;subst h1;subst h2;show bindC tP ((p,w)::P.zip vs) m p=_;unfold bindC;rw[Gb λv hv=>(gT.mp nd).1 (x5 hv).1,if_neg hk]
  simp
 |p::P,w::vs,i+1,m,nd,h1,h2,hk=>by
  show bindC tP ((p,w)::P.zip vs) m x=_;unfold bindC;exact Ew (i:=i) (gT.mp nd).2 (by simpa using h1) (by simpa using h2) hk
noncomputable def start (N:List Str)(vs:List V):St:=vs.map some++dQ (N.length-vs.length) none
noncomputable def Cw (CX:CXT)(P:cy)(w:fI)(K:bP)(mg:Zp)(base:Heap)(N:List Str)(qual:Str)(scope:zh)(f:Addr)(cd:aS)(A:iN)(outer:List Env)(s:bq)(H:Hp)(E:XK):Cx where
 prog:=P
 w:=w
 K:=K
 mg:=mg
 base:=base
 A:=A.deeper<|zD qual scope s.heap.objs.size f cd
 N:=N
 s₀:=s
 H₀:=H
 env:=zD qual scope s.heap.objs.size f cd
 outer:=outer
 stack:=zD qual scope s.heap.objs.size f cd::outer
 ex:=[]
 calm:=true
 fn:=λ_=>true
 pn:=[]
 xe:=λe s'=>bt (dr P w) (A.deeper<|zD qual scope s.heap.objs.size f cd) (leaving (zD qual scope s.heap.objs.size f cd) e) (λ_ s''=>CX outer H s E e s'') (λe' s''=>CX outer H s E e' s'') s'
theorem J7 {sc:zh}(h:sc.names.lookup x=some .cell):∃c,(cellsFrom n sc.names []).lookup x=some c:=by
 have q:=W.cellsFrom_some sc.names n []<|.inl h;exact Option.isSome_iff_exists.mp q
theorem Rx {CX:CXT}{P:cy}{w:fI}{K:bP}{mg:Zp}{base:Heap}{N ps:List Str}{qual:Str}{scope:zh}{f:Addr}{cd:aS}{A:iN}{outer:List Env}{s s1:bq}{H:Hp}{E:XK}{us:List aS}{vs:List V}
  (S:aR N ps scope) (hd:A.handled=none) (e0:Yq P w K mg base A outer s H) (hl:vs.length=ps.length) (r:Vals vs us)
  (x:InCallC s s.heap.objs.size (bindL (zD qual scope s.heap.objs.size f cd).kindOf (ps.zip us) λ_=>none) (cellsFrom (s.heap.objs.size+1) scope.names []) (bindC (zD qual scope s.heap.objs.size f cd).kindOf (ps.zip us) λ_=>none) s1):
  Inv (Cw CX P w K mg base N qual scope f cd A outer s H E) [] (start N vs) H s1:=by
 have τ:ps.length<=N.length:=by have:=congrArg wq S.pre;rw[me] at this;lia
 obtain⟨h1,tk,rfl,hk⟩:=x.done;have noA:∀b:Addr,b∉(Cw CX P w K mg base N qual scope f cd A outer s H E).ex:=λb z=>absurd (show b∈([]:List Addr) from z) (by simp);refine⟨⟨e0.mod,S.kind,rfl,rfl,ay _,λy z c h1 h2=>?_,λy hy=>?_,λy c _ h=>?_,λ_=>hd,Around.frames_deeper e0.frames,.inr ⟨rfl,rfl⟩,λb z=>absurd z<|noA b,e0.bs,e0.bsz,λb _ _=>noA b,λb z=>absurd z<|noA b,e0.CP,e0.frf⟩,
  rfl,e0.bare,Un.kept hk,⟨_,x.toInCall.ns,λi y v h1 h2 h3=>?_⟩,λy c h=>⟨_,x.cell y c h⟩,e0.hok.fresh<|ay _,λy c h=>?_,λp hp=>absurd (show p∈([]:Zl) from hp) (by simp),e0.hok.kept hk,?_⟩
 ·exact name_of_addr x.apart (l7 h1)<|l7 h2
 ·have hy:scope.names.lookup y=some .cell\/scope.names.lookup y=some .free:=hy;rcases hy with hy|hy
  ·exact J7 hy
  ·exact absurd rfl<|S.nofree _<|l7 hy
 ·exact A8<|x.above y c<|l7 h
 ·have hi:i<vs.length:=by
   unfold start at h2;by_cases hi:i<vs.length
   ·exact hi
   ·rw[dc<|by simpa using hi] at h2;rw[gz] at h2;split at h2<;>cases h2
  have ha:vs[i]? = some v:=by
   unfold start at h2;rw[cS (by simpa using hi),bX] at h2;cases e:vs[i]? with
   |none=>rw[e] at h2;cases h2
   |some a=>rw[e] at h2;cases h2;rfl
  obtain⟨u,hu,rv⟩:=r.get ha;have hp:ps[i]? = some y:=by
   rw[← S.pre,ua<|by lia];exact h1
  have ndP:ps.Nodup:=by rw[← S.pre];exact S.nd.sublist<|List.take_sublist _ _
  refine⟨u,rv,?_⟩;rcases S.par y (nh hp) with k|k
  ·exact .inl ⟨k,Ez ndP hp hu k⟩
  ·obtain⟨c,e⟩:=J7 (n:=s.heap.objs.size+1) k;refine .inr ⟨.inl k,c,e,?_⟩;have q:=x.cell y c e;rw[Ew ndP hp hu (by show scope.names.lookup y≠_;rw[k];decide)] at q;exact q
 ·exact e0.hok.fresh<|A8<|x.above y c<|l7 h
 ·unfold start;show _=N.length;rw[bg,bp,gv]
  lia
theorem adS {CX:CXT}{P:cy}{w:fI}{K:bP}{mg:Zp}{base:Heap}{k:Nat}{f:Addr}{name qual:Str}{params:Arguments}{body:List Stmt}{scope:zh}{dV kV doc pm cdv ct oc:aS}{an od:Option Addr}
  {osl:Array (Option aS)} {N ps:List Str} {sp:Sp} (lk:K.lookup f=some ⟨oc,od,.func<|AQ name qual params body scope dV kV doc pm an cdv ct,osl⟩) (hcd:W.codeIn K cdv qual=true) (S:aR N ps scope)
  (len:∀vs H Q E,sp vs H Q E->vs.length=ps.length)
  (hbody:∀(A:iN) (outer:List Env) (s:bq) (H:Hp) (vs:List V) (Q:VK) (E:XK),gD k (A.deeper<|zD qual scope s.heap.objs.size f cdv)->sp vs H Q E->
   ∃t,PSs (Cw CX P w K mg base N qual scope f cdv A outer s H E) body t/\t { nx:=λ_ H'=>Q .non H',rt:=Q } (start N vs) H):
  qL P w K mg base CX (k+1) f (AQ name qual params body scope dV kV doc pm an cdv ct) ps sp:=by
 refine⟨len,λA outer s H args us vs Q E hr e0 hb r hsp=>?_⟩;have hl:=len _ _ _ _ hsp;have KX:K.In s.heap:=e0.mod.kin.keeps λb o e=>(e0.bs b o e).1;have lim:s.heap.NoLimit:=e0.mod.nolimit.keeps λb o e=>(e0.bs b o e).1;have hkind:∀y∈ps.zip us,scope.names.lookup y.1=some .local\/(scope.names.lookup y.1=some .cell/\((cellsFrom (s.heap.objs.size+1) scope.names []).lookup y.1).isSome=true):=λ⟨n,v⟩ hy=>by
  rcases S.par n (x5 hy).1 with q|q
  ·exact .inl q
  ·exact .inr ⟨q,W.cellsFrom_some _ _ _<|.inl q⟩
 refine codeAny_call_function hr.depth (KX _ _ lk) rfl S.co S.gen rfl (W.codeRec_of KX hcd)<|hb _ _ _ _ ?_;refine wpAny_newFunctionEnv_cells S.kind hkind λenv he s1 x=>?_;subst he;refine⟨lim.keeps x.toInCall.keep,codeAny_func ?_⟩;obtain⟨t,ht,hq⟩:=hbody A outer s H vs Q E (hr.deeper _) hsp;have I:Inv (Cw CX P w K mg base N qual scope f cdv A outer s H E) [] (start N vs) H s1:=Rx S hr.hd e0 hl r x;refine ko (ht [] s1 (start N vs) H _ I hq) (λfl s' hs=>?_) λe s' hs=>hs;have fin:∀{σ':St} {H':Hp} {v:V} {u:aS},Inv (Cw CX P w K mg base N qual scope f cdv A outer s H E) [] σ' H' s'->RelV v u->Q v H'->CE outer P w H s Q u s':=
  λ{σ' H' v u} J rv q=>⟨v,H',J.os,J.bare,J.base,J.hok,rv,q⟩
 cases fl with
 |ret u=>
  refine Kd hs λv σ' H' J rv q=>?_;exact fin J rv q
 |next=>
  obtain⟨σ',H',J,q⟩:=hs;exact fin (v:=V.non) (u:=i9) J rfl q
 |brk=>
  obtain⟨_,_,_,q⟩:=hs;exact oy q
 |cont=>
  obtain⟨_,_,_,q⟩:=hs;exact oy q
section
variable {X:Cx}{x:Str}{p pos:Pos}{e:Expr}{es:List Expr}{t:TA}{id T:String}{r:List V->Hp->VK->Prop}
def tCB (r:List V->Hp->VK->Prop)(t:TA):TE:=λσ H Q=>t σ H λvs H1=>r vs H1 Q
theorem Kv (hc:iQ X (.builtin id) r)(hg:Gl X x)(hm:X.mg x=none)(hv:dA x=some (.builtin id))(ha:PA X (e::es) t)(hn:x≠"__name__":=by decide)(hdb:(x==("__debug__":Str))=false:=by decide)
  (he:ax (e::es) X.env=(false,eval e X.env)::ax es X.env:=by rfl) (τ:(ki pos<|ax es X.env).any (·.1)=false:=by rfl):PE X (.Call (.Name x p) (e::es) [] pos) (tCB r t):=by
 intro π s σ H Q I h;refine kB<|oK I hg hm hv ?_ hn hdb;exact PyProof.Rows.callWith_builtin1 (thn (ha pos π s σ H _ I h) λus s1 hE=>xq2 hE λvs H1 I1 r1 q1=>hc π s1 σ H1 vs us Q I1 r1 q1) he τ
theorem uK (hc:iQ X (.type T) r)(hg:Gl X x)(hm:X.mg x=none)(hv:dA x=some (.type T))(ha:PA X (e::es) t)(hn:x≠"__name__":=by decide)(hdb:(x==("__debug__":Str))=false:=by decide)
  (he:ax (e::es) X.env=(false,eval e X.env)::ax es X.env:=by rfl) (τ:(ki pos<|ax es X.env).any (·.1)=false:=by rfl):PE X (.Call (.Name x p) (e::es) [] pos) (tCB r t):=by
 intro π s σ H Q I h;refine kB<|oK I hg hm hv ?_ hn hdb;exact dE (thn (ha pos π s σ H _ I h) λus s1 hE=>xq2 hE λvs H1 I1 r1 q1=>hc π s1 σ H1 vs us Q I1 r1 q1) he τ
end
end L2
namespace HT
open PySem PyProof.Rows
theorem ade (A:iN)(s:bq)(a:Int)(t:Tok)(c:Int)(u:Tok):∃e,A1 A s (.int a t) (.int c u) e/\(e=true↔a=c):=
 ⟨(a==c),SeqAt.EqAt.int_int a t c u,by simp⟩
theorem aeb (A:iN)(s:bq)(a:Int)(t:Tok)(c:Int)(u:Tok)(prog:cy)(w:fI)(E:Zs)(Q:Zs)(h:Q (.bool<|decide<|a<c) s):
  bt (dr prog w) A (richCompare .Lt (.int a t)<|.int c u) Q E s:=
 (PyProof.Rows.lt_int h:bt (dr prog w) A (fx .Lt (.int a t)<|.int c u) Q E s)
section
open PySem.SeqAt
open PySem.AutoSeq1 (wpAny_loadPart')
open PySem.MeetsSeq PySem.MeetsSeq2 PySem.MeetsSeq3
end
section
variable {prog:cy}{w:fI}{A:iN}{E:Zs}{s:bq}
theorem X8 (ht:IsTup s.heap t vs.toArray)(hb:IsTup s.heap b ws.toArray)(hv:vs≠[])
  (h1:ws=[]->Q (.ref t) s) (h2:ws≠[]->Q (.ref s.heap.objs.size) { s with heap:=s.heap.push { cls:=.type "tuple",data:=.seq (vs++ws).toArray } })
  (hsz:vs.length+ws.length<=aw):bt (dr prog w) A (kg .Add (.ref t)<|.ref b) Q E s:=by
 obtain⟨⟨cls,dd,data,sl⟩,ho,hc,n,hd⟩:=id ht;obtain⟨⟨cls2,dd2,data2,sl2⟩,ho2,hc2,n2,hd2⟩:=id hb;simp only at hc hd hc2 hd2;subst hc hd hc2 hd2;have e:vs.toArray++ws.toArray=(vs++ws).toArray:=by simp
 by_cases hw:ws=[]
 ·exact x6 ⟨_,ho,rfl⟩ ⟨_,ho2,rfl⟩ xl AR pE oT (oz _ _)
   (tuple_addW1 t b vs.toArray ws.toArray n n2 dd dd2 sl sl2 (by simpa using hv) (by simp[hw])) ⟨ho,ho2,h1 hw⟩
 ·refine x6 ⟨_,ho,rfl⟩ ⟨_,ho2,rfl⟩ xl AR pE oT (oz _ _)
   (tuple_addW2 t b vs.toArray ws.toArray n n2 dd dd2 sl sl2 (by simpa using hv) (by simpa using hw) (by rw[a9,a9];exact hsz)) ⟨ho,ho2,?_⟩
  rw[e];exact h2 hw
noncomputable def sIx (n d:Nat):Option Int->Nat
 |none=>d
 |some v=>if v<0 then(v+(n:Int)).toNat else min v.toNat n
theorem ac2 (n d:Nat)(hd:d<=n)(o:Option Int):sIx n d o<=n:=by
 cases o with
 |none=>exact hd
 |some v=>
  show(if v<0 then(v+(n:Int)).toNat else min v.toNat n)<=n;by_cases hv:v<0
  ·rw[if_pos hv];lia
  ·rw[if_neg hv];exact Nat.min_le_right _ _
theorem Np (v:Int)(n d:Nat):(if v<0 then max (v+(n:Int)) 0 else min v (n:Int))=((sIx n d (some v):Nat):Int):=by
 show(if v<0 then max (v+(n:Int)) 0 else min v (n:Int))=(((if v<0 then(v+(n:Int)).toNat else min v.toNat n):Nat):Int);by_cases hv:v<0
 ·simp only[if_pos hv];lia
 ·simp only[if_neg hv];lia
theorem Lg (lo hi:Option Int)(n:Nat):nt lo hi 1 (n:Int)=(((sIx n 0 lo:Nat):Int),((sIx n n hi:Nat):Int)):=by
 have h1:¬((1:Int)<0):=by lia
 unfold nt;simp only[h1,if_false];refine BN ?_ ?_
 ·cases lo with
  |none=>rfl
  |some v=>exact Np v n 0
 ·cases hi with
  |none=>rfl
  |some v=>exact Np v n n
theorem Ma (i j:Nat):kK (i:Int) (j:Int) 1=j-i:=by
 unfold kK;have h1:(1:Int)>0:=by lia
 simp only[h1,if_true,Int.ediv_one];split<;>lia
theorem Cd (p:A9 v o)(h:Q o s):bt (dr prog w) A (Builtin.Slice.slicePartIndex v) Q E s:=by
 cases p with
 |none=>exact slicePart_none h
 |int i t=>exact slicePart_int h
theorem yO {sl:Addr}{vl vu:aS}{lo hi:Option Int}{n:Nat}{Q:Int×Int×Nat->bq->Prop}(hs:s.heap.IsSliceOf sl vl vu .none)(pl:A9 vl lo)(pu:A9 vu hi)
  (h:Q (((sIx n 0 lo:Nat):Int),1,sIx n n hi-sIx n 0 lo) s):bt (dr prog w) A (sL (.ref sl)<|pure (n:Int)) Q E s:=by
 obtain⟨os,hos,hcs,hds⟩:=id hs;unfold sL Builtin.Slice.sliceFields;refine ae<|ae<|hC hos hds (x:=vl) rfl<|ae<|hC hos hds (x:=vu) rfl<|ae<|hC hos hds (x:=.none) rfl<|ag ?_;refine ae<|slicePart_none ?_;show bt _ _ (if((1:Int)==0)=true then _ else _) _ _ s;rw[if_neg<|by decide];refine ae<|Cd pl<|ae<|Cd pu<|ae<|ag ?_;show bt _ _ (match nt lo hi 1 (n:Int) with|(lo,hi)=>pure (lo,(1:Int),kK lo hi 1)) _ _ s;rw[Lg lo hi n];show bt _ _ (pure (((sIx n 0 lo:Nat):Int),(1:Int),kK ((sIx n 0 lo:Nat):Int) ((sIx n n hi:Nat):Int) 1)) _ _ s;rw[Ma];exact ag h
theorem V0 (xs:Array aS)(i k:Nat):((cf k).filterMap λ(m:Nat)=>xs[((i:Int)+(m:Int)*1).toNat]?).toArray=((xs.toList.drop i).take k).toArray:=by
 have e:(λ(m:Nat)=>xs[((i:Int)+(m:Int)*1).toNat]?)=λm=>xs[i+m]?:=by
  funext m
  have:((i:Int)+(m:Int)*1).toNat=i+m:=by lia
  rw[this]
 rw[e]
 have:=pick_run xs i k
 rw[List.filterMap_map] at this;have e2:((λx=>xs[x]?)∘λx=>i+x)=λm=>xs[i+m]?:=rfl;rw[e2] at this;rw[this]
theorem yj {t sl:Addr}{items:Array aS}{vl vu:aS}{lo hi:Option Int}{Q:Zs}(ht:IsTup s.heap t items)(hs:s.heap.IsSliceOf sl vl vu .none)(pl:A9 vl lo)(pu:A9 vu hi)
  (hw:¬(sIx items.size 0 lo=0/\sIx items.size items.size hi=items.size))
  (h:Q (.ref s.heap.objs.size) { s with heap:=s.heap.push { cls:=.type "tuple",data:=.seq ((items.toList.drop<|sIx items.size 0 lo).take<|sIx items.size items.size hi-sIx items.size 0 lo).toArray } })
  (hsz:items.size<=aw):bt (dr prog w) A (Au (.ref t)<|.ref sl) Q E s:=by
 have htake:sizeOk (.seq ((items.toList.drop<|sIx items.size 0 lo).take<|sIx items.size items.size hi-sIx items.size 0 lo).toArray):=by
  show((items.toList.drop<|sIx items.size 0 lo).take<|sIx items.size items.size hi-sIx items.size 0 lo).toArray.size<=aw;rw[a9,me,nN,l5]
  lia
 have hj:sIx items.size items.size hi<=items.size:=ac2 _ _ (ay _) hi;obtain⟨os,hos,hcs,hds⟩:=id hs;have hTs:s.TypeIs (.ref sl) "slice":=⟨os,hos,hcs⟩;unfold Au
 try with_reducible refine ic ?_
 first|refine ae (ag ?_)|skip
 refine ae<|wpAny_sequenceKey ht.typeIs (by decide) ?_;refine ae (eW (name:=c9 "__getitem__") ht.typeIs kU
  (c8 kU ht.typeIs entry_tuple_getitem ?_<|args_tuple_getitem _ _))
 show bt _ _ (sD (.ref t) >>= _) _ _ s;refine ae<|tupleItemsOf_ ht ?_;refine ae<|wpAny_typeOf hTs ?_;rw[if_pos<|by decide];refine ae<|yO hs pl pu ?_;have hno:¬((((sIx items.size 0 lo:Nat):Int)==0&&(1:Int)==1&&(sIx items.size items.size hi-sIx items.size 0 lo)==items.size)=true):=by
  intro q;rw[qB,qB] at q;have q1:((sIx items.size 0 lo:Nat):Int)=0:=eq_of_beq q.1.1;have q2:sIx items.size items.size hi-sIx items.size 0 lo=items.size:=eq_of_beq q.2;exact hw ⟨by lia,by lia⟩
 show bt _ _ (if(((sIx items.size 0 lo:Nat):Int)==0&&(1:Int)==1&&(sIx items.size items.size hi-sIx items.size 0 lo)==items.size)=true then _ else _) _ _ s;rw[if_neg hno,V0]
 first
  |exact ae (m:=kX _) (eJ (ag ⟨_,rfl,ag h⟩) htake)
  |exact ae (m:=kX _) (eJ (ae<|ag<|ag ⟨_,rfl,ag h⟩) htake)
  |exact ae (ae (m:=kX _)<|eJ (ag<|ag ⟨_,rfl,ag h⟩) htake)
  |exact ae (ae (m:=kX _)<|eJ (ag ⟨_,rfl,ag h⟩) htake)
end
end HT
namespace L2
open PySem PySem.Spec PyProof.Rows
abbrev TO:=St->Hp->(Option Int->Hp->Prop)->Prop
def PO (X:Cx)(e:Option Expr)(t:TO):Prop:=
 ∀(π:Zl) (s:bq) (σ:St) (H:Hp) (Q:Option Int->Hp->Prop),Inv X π σ H s->t σ H Q->
  bt (dr X.prog X.w) X.A (evalPart e X.env) (λu s'=>∃o H',Inv X π σ H' s'/\A9 u o/\Q o H') X.xe s
def Yu:TO:=λ_ H Q=>Q none H
def adq (t:TE):TO:=λσ H Q=>t σ H λx H1=>∃i,x=.int i/\Q (some i) H1
section
variable {X:Cx}{e:Expr}{te:TE}{lo hi:Option Expr}{tl th:TO}{pos p2:Pos}
theorem Xh:PO X none Yu:=by
 intro π s σ H Q I h;rw[evalPart_none];exact ag ⟨none,H,I,.none,h⟩
theorem YW (h:PE X e te):PO X (some e) (adq te):=by
 intro π s σ H Q I hw;rw[evalPart_some];refine thn (h π s σ H _ I hw) λu s1 hE=>xq2 hE λx H1 I1 r1 q1=>?_;obtain⟨i,rfl,q⟩:=q1;obtain⟨t,rfl⟩:=r1;exact⟨some i,H1,I1,.int i t,q⟩
def SlR (X:Cx)(r:V->Option Int->Option Int->Hp->VK->Prop):Prop:=
 ∀(π:Zl) (s:bq) (σ:St) (H:Hp) (x:V) (v vl vu:aS) (lo hi:Option Int) (sl:Addr) (Q:VK),Inv X π σ H s->RelV x v->s.heap.IsSliceOf sl vl vu .none->A9 vl lo->A9 vu hi->r x lo hi H Q->
  ∃T id,A4 (.type T) "__getitem__" = pure (some<|.builtin id)/\s.TypeIs v T/\bt (dr X.prog X.w) X.A (Au v<|.ref sl) (EP X π σ Q) X.xe s
def tSl (r:V->Option Int->Option Int->Hp->VK->Prop)(te:TE)(tl th:TO):TE:=λσ H Q=>te σ H λx H1=>tl σ H1 λl H2=>th σ H2 λu H3=>r x l u H3 Q
theorem Tz (hr:SlR X r)(he:PE X e te)(hl:PO X lo tl)(hu:PO X hi th):PE X (.Subscript e (.Slice lo hi none p2) pos) (tSl r te tl th):=by
 intro π s σ H Q I h;refine Subscript_<|thn (he π s σ H _ I h) λv s1 hE=>xq2 hE λx H1 I1 r1 q1=>?_;refine wpAny_Slice<|thn (hl π s1 σ H1 _ I1 q1) λvl s2 ⟨l,H2,I2,pl,q2⟩=>thn (hu π s2 σ H2 _ I2 q2) λvu s3 hE=>?_;refine zR hE λu H3 I3 pu q3=>?_;rw[evalPart_none];refine ag ?_;have I4:Inv X π σ H3 { s3 with heap:=s3.heap.push { cls:=.type "slice",data:=.fields #[vl,vu,.none] } }:=I3.kept (t':=s3.toks) λb ob q=>ai _ q;refine zR (hr π { s3 with heap:=s3.heap.push { cls:=.type "slice",data:=.fields #[vl,vu,.none] } } σ H3 x v vl vu l u s3.heap.objs.size Q I4 r1 (Heap.IsSliceOf.new ..) pl pu q3) λT id hT ht hg=>?_;show bt (dr X.prog X.w) X.A (AS e (.Slice lo hi none p2) v<|.ref s3.heap.objs.size) (EP X π σ Q) X.xe { s3 with heap:=s3.heap.push { cls:=.type "slice",data:=.fields #[vl,vu,.none] } };exact tail_any (ops:=[.ref s3.heap.objs.size,v]) ht hT hg<|by with_unfolding_all rfl
def Jx (xs:List V)(lo hi:Option Int):List V:=(xs.drop<|HT.sIx xs.length 0 lo).take<|HT.sIx xs.length xs.length hi-HT.sIx xs.length 0 lo
theorem zH (xs:List V)(lo hi:Option Int):(Jx xs lo hi).length<=xs.length:=by
 unfold Jx;rw[me,nN]
 lia
def afA (K:bP):V->Option Int->Option Int->Hp->VK->Prop:=λx lo hi H Q=>∃a xs,x=.ref a/\SqT K H a xs/\
 ¬(HT.sIx xs.length 0 lo=0/\HT.sIx xs.length xs.length hi=xs.length)/\∀p,H p=none->Q (.ref p) (upd H p<|.tup<|Jx xs lo hi)
theorem acR:SlR X (afA X.K):=by
 intro π s σ H x v vl vu lo hi sl Q I rx hs pl pu h;obtain⟨a,xs,rfl,hx,hw,q⟩:=h;cases rx;obtain⟨χ,r,ht,hz⟩:=I.tuple hx;have ν:χ.toArray.size=xs.length:=by rw[a9];exact r.length.symm
 refine⟨"tuple",_,kU.lookup,ht.typeIs,?_⟩;refine HT.yj ht hs pl pu (by rw[ν];exact hw) ?_ (by rw[ν];exact hz);rw[ν];refine⟨.ref s.heap.objs.size,_,I.laid (t':=s.toks) (o:=.tup<|Jx xs lo hi) (λb ob q=>ai _ q) (ay _) ?_,rfl,q _<|I.hok.fresh<|ay _⟩;exact⟨iA (zH xs lo hi) hz,_,(r.drop<|HT.sIx xs.length 0 lo).take<|HT.sIx xs.length xs.length hi-HT.sIx xs.length 0 lo,Kf.new _ _⟩
def adx (K:bP):R2:=λx y H Q=>∃a b xs ys,x=.ref a/\y=.ref b/\SqT K H a xs/\SqT K H b ys/\xs≠[]/\xs.length+ys.length<=aw/\
 (ys=[]->Q (.ref a) H)/\(ys≠[]->∀p,H p=none->Q (.ref p) (upd H p<|.tup<|xs++ys))
theorem Vals.Iz (r:Vals xs us):us=[]↔xs=[]:=by
 cases r with
 |nil=>simp
 |cons _ _=>simp
theorem Xp:OpR X (kg .Add) (adx X.K):=by
 intro π s σ H x y v u Q I rx ry h;obtain⟨a,b,xs,ys,rfl,rfl,ha,hb,hx,hz,q1,q2⟩:=h;cases rx;cases ry;obtain⟨χ,r1,p1,_⟩:=I.tuple ha;obtain⟨its2,r2,p2,_⟩:=I.tuple hb;refine HT.X8 p1 p2 (λz=>hx<|r1.Iz.mp z) (λz=>⟨.ref a,H,I,rfl,q1<|r2.Iz.mp z⟩) (λz=>?_) (by rw[← r1.length,← r2.length];exact hz);refine⟨.ref s.heap.objs.size,_,I.laid (t':=s.toks) (o:=.tup<|xs++ys) (λb ob q=>ai _ q) (ay _) ?_,rfl,q2 (λw=>z<|r2.Iz.mpr w) _<|I.hok.fresh<|ay _⟩;exact⟨by rw[bg];exact hz,_,r1.append r2,Kf.new _ _⟩
end
noncomputable def ixN (n:Nat)(i:Int):Option Nat:=if 0<=i then(if i<n then some i.toNat else none) else if -(n:Int)<=i then some (i+n).toNat else none
def atI {α:Type}(xs:List α)(i:Int):Option α:=(ixN xs.length i).bind λj=>xs[j]?
theorem PL (h:ixN n i=some j):seqIndex? i n=some j/\j<n/\-(n:Int)<=i/\i<n:=by
 unfold ixN at h;by_cases h0:0<=i
 ·rw[if_pos h0] at h;by_cases h1:i<n
  ·rw[if_pos h1] at h;have e:i.toNat=j:=cE h;exact⟨by rw[seqIndex_of h0 h1,e],by lia,by lia,h1⟩
  ·rw[if_neg h1] at h;cases h
 ·rw[if_neg h0] at h;by_cases h1:-(n:Int)<=i
  ·rw[if_pos h1] at h;have e:(i+n).toNat=j:=cE h;exact⟨by rw[seqIndex_neg (by lia) h1,e],by lia,h1,by lia⟩
  ·rw[if_neg h1] at h;cases h
theorem IK (h:atI xs i=some v):∃j,seqIndex? i xs.length=some j/\xs[j]? = some v/\j<xs.length/\-(xs.length:Int)<=i/\i<xs.length:=by
 unfold atI at h;cases e:ixN xs.length i with
 |none=>rw[e] at h;cases h
 |some j=>
  rw[e] at h;obtain⟨h1,h2,h3,h4⟩:=PL e;exact⟨j,h1,h,h2,h3,h4⟩
theorem lL {α:Type}{xs:List α}{j:Nat}{v:α}(h:xs[j]? = some v):atI xs (j:Int)=some v:=by
 have hj:j<xs.length:=(fN.mp h).1;have e:ixN xs.length (j:Int)=some j:=by
  unfold ixN;rw[if_pos (by lia),if_pos<|by lia];simp
 unfold atI;rw[e];exact h
theorem JS (xs:List α)(v:α):atI (xs++[v]) (-1)=some v:=by
 have hl:(xs++[v]).length=xs.length+1:=by simp
 have e:ixN (xs++[v]).length (-1)=some xs.length:=by
  unfold ixN;rw[hl,if_neg (by decide),if_pos<|by lia];congr 1
  lia
 unfold atI;rw[e];show(xs++[v])[xs.length]? = some v
 simp
def GJ (b:Expr):Prop:=∀o i,AA b false o i=operate [o,i] (Au o i)
def IxR (X:Cx)(r:R2):Prop:=
 ∀(value slice:Expr) (π:Zl) (s:bq) (σ:St) (H:Hp) (x y:V) (v u:aS) (Q:VK),Inv X π σ H s->RelV x v->RelV y u->r x y H Q->
  AA slice false v u=operate [v,u] (Au v u)->bt (dr X.prog X.w) X.A (AS value slice v u) (EP X π σ Q) X.xe s
def MtR (X:Cx)(id:String)(r:V->List V->Hp->VK->Prop):Prop:=
 ∀(π:Zl) (s:bq) (σ:St) (H:Hp) (x:V) (xs:List V) (v:aS) (us:List aS) (Q:VK),Inv X π σ H s->RelV x v->Vals xs us->r x xs H Q->
  bt (dr X.prog X.w) X.A (call (.builtin id) (v::us)) (EP X π σ Q) X.xe s
section
variable {X:Cx}{a b:Expr}{ta tb:TE}{pos:Pos}
theorem aeA (hr:IxR X r)(ha:PE X a ta)(hb:PE X b tb)(hs:GJ b):PE X (.Subscript a b pos) (tOp r ta tb):=by
 intro π s σ H Q I h;exact Subscript_<|acH ha hb I h λv u s2 x y H2 I2 rx ry q=>hr a b π s2 σ H2 x y v u Q I2 rx ry q<|hs _ _
def afs (K:bP):R2:=λx y H Q=>∃p xs i v,x=.ref p/\y=.int i/\SqL K H p xs/\atI xs i=some v/\Q v H
def afo (K:bP):R2:=λx y H Q=>∃p xs i v,x=.ref p/\y=.int i/\SqT K H p xs/\atI xs i=some v/\Q v H
def afh:R2:=λx y H Q=>∃z i c,x=.str z/\y=.int i/\z.length<=aw/\atI z.cps.toList i=some c/\Q (.str ⟨#[c]⟩) H
theorem Ys:IxR X (afs X.K):=by
 intro value slice π s σ H x y v u Q I rx ry h hs;obtain⟨p,xs,i,z,rfl,rfl,hq,he,q⟩:=h;cases rx;obtain⟨t,rfl⟩:=ry;obtain⟨χ,r,pl,hz⟩:=I.list hq;refine Vg (IK he) λj h1 h2 h3 h4 h5=>?_;obtain⟨w,ew,rw'⟩:=r.get h2;have hl:=r.length;have hn:=yW;have fin:EP X π σ Q w s:=⟨z,H,I,rw',q⟩;by_cases h0:0<=i
 ·have hj:i.toNat=j:=by
   rw[seqIndex_of h0 h5] at h1;exact cE h1
  exact item_listR pl.isList h0 (by lia) (by rw[hj];simpa using ew) fin hs
 ·have hj:(i+(χ.toArray.size:Int)).toNat=j:=by
   rw[seqIndex_neg (by lia) h4] at h1;rw[a9,← hl];exact cE h1
  exact subscriptTail_builtinR (x:=w) pl.isList.typeIs slot_list_getitem.lookup
   (wpAny_getItem_list_neg (Q:=λr s'=>r=w/\EP X π σ Q r s') pl.isList (by lia) (by rw[a9]<;>lia) (by lia) (by rw[hj];simpa using ew) ⟨rfl,fin⟩) hs
theorem acC:IxR X (afo X.K):=by
 intro value slice π s σ H x y v u Q I rx ry h hs;obtain⟨p,xs,i,z,rfl,rfl,hq,he,q⟩:=h;cases rx;obtain⟨t,rfl⟩:=ry;obtain⟨χ,r,pl,hz⟩:=I.tuple hq;refine Vg (IK he) λj h1 h2 h3 h4 h5=>?_;obtain⟨w,ew,rw'⟩:=r.get h2;have hl:=r.length;have hn:=yW;have fin:EP X π σ Q w s:=⟨z,H,I,rw',q⟩;exact subscriptTail_builtinR (x:=w) pl.typeIs slot_tuple_getitem.lookup
  (getItem_tuple (j:=j) (Q:=λr s'=>r=w/\EP X π σ Q r s') pl (by lia) (by lia) (by rw[a9,← hl];exact h1) (by simpa using ew) ⟨rfl,fin⟩) hs
theorem abJ:IxR X afh:=by
 intro value slice π s σ H x y v u Q I rx ry h hs;obtain⟨z,i,c,rfl,rfl,hz,he,q⟩:=h;obtain⟨t,rfl⟩:=rx;obtain⟨t',rfl⟩:=ry;refine Vg (IK he) λj h1 h2 h3 h4 h5=>?_;have hl:z.cps.toList.length=z.length:=by simp[Str.length]
 rw[hl] at h1 h4 h5;have hn:=yW;exact tail_any (ub s z t) slot_str_getitem.lookup (getItem_str (c:=c) (by
  have e1:decide (i < -(2^63:Int))=false:=decide_eq_false (by lia);have e2:decide (i≥2^63)=false:=decide_eq_false (by lia);rw[e1,e2,Bool.or_false]) (by rw[h1];simpa using h2) ⟨.str ⟨#[c]⟩,H,I.tok _,⟨_,rfl⟩,q⟩) hs
theorem Mp (χ:List aS)(n j:Nat)(u:aS):r6 (·.setIfInBounds j u) { cls:=.type "list",data:=.seq χ.toArray n }={ cls:=.type "list",data:=.seq (χ.set j u).toArray n }:=by
 simp[r6]
theorem Inv.lst (I:Inv X π σ H s)(h:H p=some (.lst xs)):
  ∃(χ:List aS) (n:Nat),Vals xs χ/\s.heap.get? p=some { cls:=.type "list",data:=.seq χ.toArray n }/\xs.length<=aw:=by
 obtain⟨z,χ,n,r,e⟩:=I.hok p _ h;exact⟨χ,n,r,e,z⟩
theorem Inv.abZ {s:bq}{xs ys:List V}{χ its':List aS}(I:Inv X π σ H s)(h:H p=some (.lst xs))
  (ho:s.heap.get? p=some { cls:=.type "list",data:=.seq χ.toArray n }) (hf:f { cls:=.type "list",data:=.seq χ.toArray n }={ cls:=.type "list",data:=.seq its'.toArray n' }) (r:Vals ys its') (hz:ys.length<=aw) (t:Nat):
  Inv X π σ (upd H p<|.lst ys) { s with heap:=s.heap.update p f,toks:=t }:=by
 have e:(s.heap.update p f).get? p=some { cls:=.type "list",data:=.seq its'.toArray n' }:=by
  rw[eC f ho (by rw[hf]<;>rfl),hf]
 refine I.write (x:=p) (e:=p) (by rw[h];trivial) (.inl rfl) (λb u hb q=>(dS _ _<|eS hb).trans q) ⟨_,e⟩ ?_;exact⟨hz,its',n',r,e⟩
def aei:V->V->V->Hp->(Hp->Prop)->Prop:=λo i v H Q=>∃p xs k j,o=.ref p/\i=.int k/\H p=some (.lst xs)/\ixN xs.length k=some j/\Q (upd H p<|.lst<|xs.set j v)
theorem set_list:adp X aei:=by
 intro π s σ H o i v ov iv u Q I ro ri rv h;obtain⟨p,xs,k,j,rfl,rfl,hp,hj,q⟩:=h;cases ro;obtain⟨t,rfl⟩:=ri;refine zR (I.lst hp) λχ n r ho hz=>?_;obtain⟨h1,h2,h3,h4⟩:=PL hj;have hl:=r.length;have hn:=yW;have I':Inv X π σ (upd H p<|.lst<|xs.set j v) { s with heap:=s.heap.update p (r6 (·.setIfInBounds j u)) }:=
  I.abZ hp ho (Mp χ n j u) (r.set rv j) (by rw[List.length_set];exact hz) s.toks
 by_cases h0:0<=k
 ·have hk:k.toNat=j:=by
   rw[seqIndex_of h0 h4] at h1;exact cE h1
  exact W.ki_setAt ho h0 (by lia) (by rw[a9,← hl];exact h4) (by rw[hk];exact⟨_,I',q⟩)
 ·have hk:(k+(χ.toArray.size:Int)).toNat=j:=by
   rw[seqIndex_neg (by lia) h3] at h1;rw[a9,← hl];exact cE h1
  exact W.ki_setBack ho (by lia) (by rw[a9,← hl];exact h3) (by lia) (by rw[hk];exact⟨_,I',q⟩)
theorem G8 (lo hi:Option Int)(n:Nat):(p9 lo hi none n).1=((HT.sIx n 0 lo:Nat):Int)/\(p9 lo hi none n).2.1=((HT.sIx n n hi:Nat):Int)/\(p9 lo hi none n).2.2=1:=by
 refine⟨?_,?_,rfl⟩
 ·cases lo with
  |none=>simp[p9,HT.sIx]
  |some i=>
   simp only[p9,HT.sIx,Option.getD_none,show(1:Int)>0 by decide,if_true];by_cases h:i<0
   ·simp only[h,if_true]<;>lia
   ·simp only[h,if_false]<;>lia
 ·cases hi with
  |none=>simp[p9,HT.sIx]
  |some i=>
   simp only[p9,HT.sIx,Option.getD_none,show(1:Int)>0 by decide,if_true];by_cases h:i<0
   ·simp only[h,if_true]<;>lia
   ·simp only[h,if_false]<;>lia
theorem Ej (χ:List aS)(lo hi:Option Int):slicePick χ.toArray lo hi none=((χ.drop<|HT.sIx χ.length 0 lo).take<|HT.sIx χ.length χ.length hi-HT.sIx χ.length 0 lo).toArray:=by
 obtain⟨h1,h2,h3⟩:=G8 lo hi χ.toArray.size;unfold slicePick;rw[h1,h2,h3];simp only[sliceRange_one,pick_run,a9]<;>rfl
def aeP (K:bP):V->Option Int->Option Int->Hp->VK->Prop:=λx lo hi H Q=>∃a xs,x=.ref a/\SqL K H a xs/\∀p,H p=none->Q (.ref p) (upd H p<|.lst<|Jx xs lo hi)
theorem Yt:SlR X (aeP X.K):=by
 intro π s σ H x v vl vu lo hi sl Q I rx hs pl pu h;obtain⟨a,xs,rfl,hx,q⟩:=h;cases rx;obtain⟨χ,r,ht,hz⟩:=I.list hx;have ν:=r.length;refine⟨"list",_,slot_list_getitem.lookup,ht.isList.typeIs,?_⟩;refine wpAny_getItem_list_slice ht.isList hs pl pu .none (by simp) ?_ (by rw[a9]<;>lia);rw[Ej,← ν];refine⟨.ref s.heap.objs.size,_,I.laid (t':=s.toks) (o:=.lst<|Jx xs lo hi) (λb ob q=>ai _ q) (ay _) ?_,rfl,q _<|I.hok.fresh<|ay _⟩;exact⟨iA (zH xs lo hi) hz,_,0,(r.drop<|HT.sIx xs.length 0 lo).take<|HT.sIx xs.length xs.length hi-HT.sIx xs.length 0 lo,aE _ rfl⟩
theorem wG:iQ X (.builtin "len") (λxs H Q=>∃p ys,xs=[.ref p]/\(SqL X.K H p ys\/SqT X.K H p ys)/\Q (.int ys.length) H):=by
 intro π s σ H xs us Q I r h;obtain⟨p,ys,rfl,hq,q⟩:=h;obtain⟨u,rfl,rx⟩:=vals1 r;cases rx;have hn:=yW;rcases hq with hq|hq
 ·obtain⟨χ,r',pl,hz⟩:=I.list hq;have ν:=r'.length;exact Calls.call_len_list pl.isList (by simp only[a9]<;>lia) ⟨.int ys.length,H,I.tok _,⟨s.toks+1,by rw[a9,ν]⟩,q⟩
 ·obtain⟨χ,r',pl,hz⟩:=I.tuple hq;have ν:=r'.length;exact len_tuple pl (by simp only[a9]<;>lia) ⟨.int ys.length,H,I.tok _,⟨s.toks+1,by rw[a9,ν]⟩,q⟩
theorem GF:iQ X (.builtin "len") (λxs H Q=>∃z,xs=[.str z]/\z.length<=aw/\Q (.int z.length) H):=by
 intro π s σ H xs us Q I r h;obtain⟨z,rfl,hz,q⟩:=h;obtain⟨u,rfl,t,rfl⟩:=vals1 r;have hn:=yW;exact len_str (by lia) ⟨.int z.length,H,I.tok _,⟨_,rfl⟩,q⟩
theorem GP:iQ X (.type "list") (λxs H Q=>∃p ys,xs=[.ref p]/\(SqL X.K H p ys\/SqT X.K H p ys)/\∀l,H l=none->Q (.ref l) (upd H l<|.lst ys)):=by
 intro π s σ H xs us Q I r h;obtain⟨p,ys,rfl,hq,q⟩:=h;obtain⟨u,rfl,rx⟩:=vals1 r;cases rx;have fin:∀(χ:List aS),Vals ys χ->ys.length<=aw->∀(h':Heap) (c':Nat),(∀b o',s.heap.get? b=some o'->h'.get? b=some o')->
   h'.get? s.heap.objs.size=some { cls:=.type "list",dict:=none,data:=.seq χ.toArray c',slots:=#[] }->EP X π σ Q (.ref s.heap.objs.size) { s with heap:=h' }:=λχ r' hz h' c' kp e=>
  ⟨.ref s.heap.objs.size,_,I.laid (t':=s.toks) kp (ay _)<|show cV X.prog X.w _ h' _ (.lst ys) from⟨hz,χ,c',r',e⟩,rfl,q _<|I.hok.fresh<|ay _⟩
 rcases hq with hq|hq
 ·obtain⟨χ,r',pl,hz⟩:=I.list hq;have ν:=r'.length;obtain⟨o,ho,hc,n,hd⟩:=pl.isList;exact call_list_seq p (.inl rfl) ho hc hd (λh' c' kp e=>fin χ r' hz h' c' kp e) (by simp only[a9]<;>lia)
 ·obtain⟨χ,r',pl,hz⟩:=I.tuple hq;have ν:=r'.length;obtain⟨o,ho,hc,n,hd⟩:=pl;exact call_list_seq p (.inr rfl) ho hc hd (λh' c' kp e=>fin χ r' hz h' c' kp e) (by simp only[a9]<;>lia)
theorem vD:iQ X (.type "tuple") (λxs H Q=>∃p ys,xs=[.ref p]/\((SqL X.K H p ys/\∀l,H l=none->Q (.ref l) (upd H l<|.tup ys))\/(SqT X.K H p ys/\Q (.ref p) H))):=by
 intro π s σ H xs us Q I r h;obtain⟨p,ys,rfl,h⟩:=h;obtain⟨u,rfl,rx⟩:=vals1 r;cases rx;rcases h with⟨hq,q⟩|⟨hq,q⟩
 ·obtain⟨χ,r',pl,hz⟩:=I.list hq;have ν:=r'.length;refine call_tuple_list pl.isList (λh' kp=>?_) (by simp only[a9]<;>lia);have I1:Inv X π σ H { s with heap:=h' }:=I.kept (t':=s.toks) kp;have I2:Inv X π σ (upd H h'.objs.size<|.tup ys) { s with heap:=h'.push { cls:=.type "tuple",data:=.seq χ.toArray } }:=
   I1.laid (t':=s.toks) (λb o e=>ai _ e) (ay _) (show cV X.prog X.w _ _ _ (.tup ys) from⟨hz,χ,r',Kf.new _ _⟩)
  exact⟨.ref h'.objs.size,_,I2,rfl,q _<|I1.hok.fresh<|ay _⟩
 ·obtain⟨χ,r',pl,hz⟩:=I.tuple hq;exact call_tuple_same pl ⟨.ref p,H,I,rfl,q⟩
def tyV (K:bP)(T:String)(x:V)(H:Hp):Prop:=match x with
 | .str _=>T = "str"
 | .int _=>T = "int"
 | .ref p=>(T = "list"/\∃xs,SqL K H p xs)\/(T = "tuple"/\∃o,K.lookup p=some o/\o.cls=.type "tuple"/\o.dict=none) ∨
   (T = "dict"/\((∃ι,Rd H p<|.dK ι)\/∃T ι,Rd H p<|.dT T ι))\/(T = "set"/\∃S n,H p=some (.set S n))
 |_=>False
theorem W5 (I:Inv X π σ H s)(r:RelV x v)(ty:tyV X.K T x H):
  s.TypeIs v T/\∀a,v=.ref a->∃ob,s.heap.get? a=some ob/\ob.dict=none:=by
 cases x with
 |str z=>
  obtain⟨t,rfl⟩:=r;cases(show T = "str" from ty);exact⟨ub s z t,λ_ e=>nomatch e⟩
 |int i=>
  obtain⟨t,rfl⟩:=r;cases(show T = "int" from ty);exact⟨typeIs_int s i t,λ_ e=>nomatch e⟩
 |ref p=>
  cases r;rcases ty with⟨rfl,xs,hq⟩|⟨rfl,o,hk,hc,hd⟩|⟨rfl,hk⟩|⟨rfl,S,n,hk⟩
  ·obtain⟨χ,_,pl,_⟩:=I.list hq;refine⟨pl.isList.typeIs,λa e=>?_⟩;cases e;refine uh pl λo n e c hd _=>?_;exact⟨o,e,hd⟩
  ·refine⟨⟨o,I.kIn p o hk,hc⟩,λa e=>?_⟩;cases e;exact⟨o,I.kIn _ o hk,hd⟩
  ·have z:∃o,s.heap.get? p=some o/\o.ExactDict:=by
    rcases hk with⟨ι,hk⟩|⟨_,ι,hk⟩
    ·obtain⟨_,_,_,_,o,_,_,e,ex,_⟩:=(show cV X.prog X.w H s.heap p (.dK ι) from hk.ok I.hok);exact⟨o,e,ex⟩
    ·obtain⟨_,_,_,_,o,_,_,e,ex,_⟩:=(show cV X.prog X.w H s.heap p (.dT _ ι) from hk.ok I.hok);exact⟨o,e,ex⟩
   obtain⟨o,e,ex⟩:=z;refine⟨⟨o,e,ex.1⟩,λa e2=>?_⟩;cases e2;exact⟨o,e,ex.2.1⟩
  ·refine adA (I.hok p _ hk) λo _ _ _ e ex _=>?_;refine⟨⟨o,e,ex.1⟩,λa e2=>?_⟩;cases e2;exact⟨o,e,ex.2.1⟩
 |_=>exact oy ty
def afu (K:bP)(T:String)(r:V->List V->Hp->VK->Prop)(to:TE):TE:=λσ H Q=>to σ H λx H1=>tyV K T x H1/\r x [] H1 Q
def tBM (K:bP)(T:String)(r:V->List V->Hp->VK->Prop)(to:TE)(t:TA):TE:=λσ H Q=>to σ H λx H1=>tyV K T x H1/\t σ H1 λxs H2=>r x xs H2 Q
variable {o e:Expr}{es:List Expr}{to:TE}{t:TA}{name:Str}{apos η:Pos}{T id:String}{r:V->List V->Hp->VK->Prop}
theorem BZ (pa:PlainAttrs T)(slot:Slot T name id)(hty:typeOf (.builtin id)=pure (.type "method_descriptor"))(hm:MtR X id r)(ho:PE X o to)
  (ψ:gE o name X.env (eval o X.env)=eval o X.env:=by rfl) (θ:(apos.endLine==η.line)=true:=by rfl):PE X (.Call (.Attribute o name apos) [] [] η) (afu X.K T r to):=by
 intro π s σ H Q I h;refine wpAny_Call_method0_late ψ θ<|thn (ho π s σ H _ I h) λv s1 hE=>?_;refine uh hE λx H1 I1 r1 ty q1=>?_;obtain⟨h1,h2⟩:=W5 I1 r1 ty;exact⟨T,id,pa,slot,hty,h1,h2,ml rfl<|PySem.evalArgs_none<|hm π s1 σ H1 x [] v [] Q I1 r1 .nil q1⟩
theorem Oq (pa:PlainAttrs T)(slot:Slot T name id)(hty:typeOf (.builtin id)=pure (.type "method_descriptor"))(hm:MtR X id r)(ho:PE X o to)(ha:PA X (e::es) t)
  (ψ:gE o name X.env (eval o X.env)=eval o X.env:=by rfl)
  (ξ:((ki η<|ax (e::es) X.env).all (λx=>!x.1)&&(wx η<|nV [] X.env).all (λx=>x.1.isSome)
   && decide ((e::es).length+([]:List nX).length+(if([]:List nX).isEmpty then 0 else 1)<30))=true:=by rfl)
  (θ:(apos.endLine==η.line)=true:=by rfl) (hs:ax (e::es) X.env=(false,eval e X.env)::ax es X.env:=by rfl) (hplain:(ki η<|ax es X.env).any (·.1)=false:=by rfl):
  PE X (.Call (.Attribute o name apos) (e::es) [] η) (tBM X.K T r to t):=by
 intro π s σ H Q I h;refine wpAny_Call_method_late ψ ξ θ rfl<|thn (ho π s σ H _ I h) λv s1 hE=>?_;refine uh hE λx H1 I1 r1 ty q1=>?_;obtain⟨h1,h2⟩:=W5 I1 r1 ty;refine⟨T,id,pa,slot,hty,h1,h2,?_⟩;have hA:=ha η π s1 σ H1 _ I1 q1;rw[hs] at hA ⊢;refine ml (by show(false||(ki η<|ax es X.env).any (·.1))=false;rw[hplain]<;>rfl)<|rh ?_;exact thn hA λus s2 hE=>xq2 hE λvs H2 I2 r2 q2=>hm π s2 σ H2 x vs v us Q I2 r1 r2 q2
end
def MtM (X:Cx)(id:String)(r:V->List V->Hp->VK->Prop):Prop:=
 ∀(π:Zl) (s:bq) (σ:St) (H:Hp) (x:V) (xs:List V) (v:aS) (us:List aS) (Q:VK),Inv X π σ H s->RelV x v->Vals xs us->r x xs H Q->
  bt (dr X.prog X.w) X.A (call (.builtin id) (v::us)) (EP X π σ Q) X.xe s
theorem Vals.one:∀{x:V} {us:List aS},Vals [x] us->∃u,us=[u]/\RelV x u
 |_,_,.cons r .nil=>⟨_,rfl,r⟩
theorem Vals.zero:∀{us:List aS},Vals [] us->us=[]
 |_,.nil=>rfl
theorem Vals.dropLast (h:Vals xs us):Vals xs.dropLast us.dropLast:=by
 induction h with
 |nil=>exact .nil
 |cons r t ih=>
  cases t with
  |nil=>exact .nil
  |cons q t'=>exact .cons r ih
theorem Vals.reverse (h:Vals xs us):Vals xs.reverse us.reverse:=by
 induction h with
 |nil=>exact .nil
 |cons r t ih=>rw[k9,k9];exact Vals.append ih<|.cons r .nil
theorem M8 (l:List α):l.eraseIdx (l.length-1)=l.dropLast:=by
 induction l with
 |nil=>rfl
 |cons a r ih=>
  cases r with
  |nil=>rfl
  |cons b r=>
   have e:(a::b::r).length-1=((b::r).length-1)+1:=by
    have h1:(a::b::r).length=r.length+2:=rfl;have h2:(b::r).length=r.length+1:=rfl
    lia
   rw[e,List.eraseIdx_cons_succ,ih]
   all_goals rfl
section
variable {X:Cx}{π:Zl}{σ:St}{H:Hp}{s:bq}{l b:Addr}{xs ys zs:List V}
theorem Inv.aaW {χ its':List aS}(I:Inv X π σ H s)(hH:H l=some (.lst xs))
  (e:s.heap.get? l=some { cls:=.type "list",data:=.seq χ.toArray n }) (hf:f χ.toArray=its'.toArray) (hv:Vals ys its') (hz:ys.length<=aw):
  Inv X π σ (upd H l<|.lst ys) { s with heap:=s.heap.update l<|r6 f,toks:=t' }:=by
 have q:=PySem.IsL.update e f;rw[hf] at q;refine I.write (x:=l) (e:=l) (by rw[hH];exact trivial) (.inl rfl) (λb' u hb hu=>(dS s.heap (r6 f)<|eS hb).trans hu) ⟨_,q⟩ ?_;exact⟨hz,its',_,hv,q⟩
theorem Inv.XX (I:Inv X π σ H s)(hH:H l=some (.lst xs)):xs.length<=aw/\∃(χ:List aS) (n:Nat),Vals xs χ/\xs.length=χ.length/\s.heap.get? l=some { cls:=.type "list",data:=.seq χ.toArray n }:=by
 obtain⟨z,χ,n,r,e⟩:=I.hok l _ hH;exact⟨z,χ,n,r,r.length,e⟩
theorem U8 (h:n<=aw):oB n=false:=by
 unfold oB;exact decide_eq_false<|by lia
end
section
variable {X:Cx}
def ZV:V->List V->Hp->VK->Prop:=λx vs H Q=>∃l xs y,x=.ref l/\vs=[y]/\H l=some (.lst xs)/\xs.length<aw/\Q .non (upd H l<|.lst<|xs++[y])
theorem yH:MtM X "list.append" ZV:=by
 intro π s σ H x vs v us Q I rx rv h;obtain⟨l,xs,y,rfl,rfl,hH,hz,q⟩:=h;cases rx;obtain⟨u,rfl,ru⟩:=rv.one;obtain⟨z,χ,n,r,hl,e⟩:=I.XX hH;refine call_meets F.slot_list_append ⟨_,e,rfl⟩ F.entry_list_append (F.args_list_append_2 _ _) (PySem.list_append l χ.toArray n u (by rw[a9];lia)) ⟨e,?_⟩;refine⟨.non,_,I.aaW (its':=χ++[u]) hH e (by simp) (r.append<|.cons ru .nil) ?_,rfl,q⟩;rw[bg,eD]
 lia
def Yv:V->List V->Hp->VK->Prop:=λx vs H Q=>∃l b xs zs,x=.ref l/\vs=[.ref b]/\H l=some (.lst xs)/\H b=some (.lst zs)/\xs.length+zs.length<=aw/\Q .non (upd H l<|.lst<|xs++zs)
theorem Rt:MtM X "list.extend" Yv:=by
 intro π s σ H x vs v us Q I rx rv h;obtain⟨l,b,xs,zs,rfl,rfl,hH,hB,hz,q⟩:=h;cases rx;obtain⟨u,rfl,ru⟩:=rv.one;cases ru;obtain⟨z,χ,n,r,hl,e⟩:=I.XX hH;obtain⟨z2,its2,n2,r2,hl2,e2⟩:=I.XX hB;have hsz:χ.toArray.size+its2.toArray.size<=aw:=by rw[a9,a9];lia
 have hlong:¬(!χ.toArray.isEmpty&&oB (χ.toArray.size+its2.toArray.size))=true:=by
  rw[U8 hsz,Bool.and_false];exact be
 refine call_meets F.slot_list_extend ⟨_,e,rfl⟩ F.entry_list_extend (F.args_list_extend_2 _ _)
  (AutoSeq1.list_extend_list_list_0 l χ.toArray n b its2.toArray n2 hlong (by rw[a9];lia)<|by lia) ⟨e,e2,?_⟩
 refine⟨.non,_,I.aaW (its':=χ++its2) hH e (by simp) (r.append r2) ?_,rfl,q⟩;rw[bg]
 lia
def ae4:V->List V->Hp->VK->Prop:=λx vs H Q=>∃l xs y,x=.ref l/\vs=[]/\H l=some (.lst xs)/\xs[xs.length-1]? = some y/\Q y (upd H l<|.lst xs.dropLast)
theorem Vy:MtM X "list.pop" ae4:=by
 intro π s σ H x vs v us Q I rx rv h;obtain⟨l,xs,y,rfl,rfl,hH,hy,q⟩:=h;cases rx;have hus:=rv.zero;subst hus;obtain⟨z,χ,n,r,hl,e⟩:=I.XX hH;obtain⟨u,hu,ru⟩:=r.get hy;have hy':χ.toArray[χ.toArray.size-1]? = some u:=by
  show χ.toArray[χ.length-1]? = some u;rw[← Array.getElem?_toList,← hl];exact hu
 refine call_meets F.slot_list_pop ⟨_,e,rfl⟩ F.entry_list_pop (F.args_list_pop_1 _) (MeetsSeq.list_pop_last l χ.toArray n u hy' (by rw[a9];lia)) ⟨e,?_⟩;refine⟨y,_,I.aaW (its':=χ.dropLast) hH e ?_ r.dropLast ?_,ru,q⟩
 ·show χ.toArray.eraseIdxIfInBounds (χ.toArray.size-1)=χ.dropLast.toArray;rw[a9,List.eraseIdxIfInBounds_toArray,M8]
 ·rw[List.length_dropLast]
  lia
end
section
variable {prog:cy}{w:fI}{A:iN}{E:Zs}{s:bq}
end
section
end
end L2
namespace Att
open PySem PySem.W PySem.Calls PyProof.Rows
theorem Ag:∀(ns:List Int) (vs:List aS),WellAll P h vs (ns.map WData.int)->IntsAre vs ns:=by
 intro ns;induction ns with
 |nil=>
  intro vs w;rw[sR] at w;cases w;exact .nil
 |cons n ns ih=>
  intro vs w;rw[ar] at w;cases w with
  |cons a b=>
   cases a;exact .cons _ _<|ih _ b
theorem SJ {l:OpenLaw}(hn:l.most=some n){P:Params}{h:Heap}{args:List WData}{vals:List aS}
  (hpre:l.row.toRowW.claim.pre args=true) (hwl:WellAll P h vals args):
  ∃a vs ns,vals=[cx a]/\args=[WData.list<|ns.map WData.int]/\h.get? a=some { cls:=.type "list",data:=.seq vs.toArray }/\IntsAre vs ns/\ns.length<=n:=by
 have hsh:WShape.hasAll [] args [.list .int]=true:=(pre_splitW hpre).1;have hc:l.pre.holds [] { args:=args }=true:=(pre_splitW hpre).2;obtain⟨d,r,rfl,h1,h2⟩:=hasAllW_cons hsh;obtain rfl:=hasAllW_nil h2;obtain⟨xs,rfl,h3⟩:=hasW_list h1;obtain⟨ns,rfl⟩:=items_int h3;have ν:ns.length<=n:=by
  unfold OpenLaw.pre at hc;have h4:(WTm.not<|.lt (.lit<|.int (n:Int))<|.len<|.arg 0).holds [] { args:=[.list<|ns.map .int] }=true:=by
   have h4:=(holds_andW hc).1;rw[hn] at h4;exact h4
  have h5:=condW_of h4<|w_not<|w_lt w_lit<|w_len_list<|w_arg rfl;rw[bp] at h5;refine Nat.le_of_not_lt λq=>?_;have q':(n:Int)<((ns.length:Nat):Int):=by lia
  first
   |(rw[decide_eq_true q'] at h5;exact absurd h5<|by decide)
   |(simp at h5;lia)
 cases hwl with
 |cons w1 w2=>
  cases w2;cases w1 with
  |list ho hall=>exact⟨_,_,ns,rfl,rfl,ho,Ag ns _ hall,ν⟩
theorem Rn (l:OpenLaw)(args:List WData):l.row.toRowW.claim.post args (.bool true) args=true:=
 postW_of (r:=l.row.toRowW) (X:=(true==true))
  (show WShape.has [] (.bool true) .bool=true by first|rfl|decide|simp[WShape.has,WShape.arms,WShape.armsAll])
  (show(WTm.eq .res<|.lit<|.bool true).value [] { args:=args,res:=some<|.bool true,after:=args }=some (.bool<|true==true) from w_eq_bool (w_res rfl) w_lit) rfl
theorem KR {l:OpenLaw}{d:DefRec}
  (hn:l.most=some n) (hdf:d.params.defaults=[])
  (call:∀(w:fI) (s₀ s₁:bq) (mg mb:Zp) (fa:Addr) (o:Obj) (pm cd doc:aS) (a:Addr) (vs:List aS) (ns:List Int),
   Ground q loose [] XP w s₀ mg mb s₁.heap->YP w s₁.heap->
   s₁.heap.get? fa=some o->o.data=.func (docDef d.name d.params d.body d.scope pm cd doc)->s₁.heap.CodeRec cd d.name->mg d.name=some (.ref fa)->
   s₁.heap.get? a=some { cls:=.type "list",data:=.seq vs.toArray }->IntsAre vs ns->ns.length<=n->s₁.gens=#[]->
   A3 (dr l.prog w) A5 (.call (.ref fa) ⟨[.ref a],[]⟩) (λr s'=>r=.ok (.ret<|.bool true)/\OldK s₁.heap s'.heap/\s'.os=s₁.os/\v3 s'.gens) s₁):
  WalkO q loose XP YP l.row.toRowW d [] (λf vs=>BI f vs):=by
 intro w s₀ s₁ mg mb G Y fa o pm cd doc dV kV ho hd hcd hD hmg hg args vals as hpre hlay hrd hwl hlo;obtain rfl:dV=.none:=Dflts.none hD hdf;obtain rfl:kV=.none:=Dflts.noKw hD;obtain⟨a,vs,ns,rfl,rfl,hobj,hints,ν⟩:=SJ hn hpre hwl;refine enter_call<|codeAny_mono (call w s₀ s₁ mg mb fa o pm cd doc a vs ns G Y ho (fd_plain hd) hcd hmg hobj hints ν hg) λr s' hq=>?_;obtain⟨rfl,h2,h3,h4⟩:=hq;exact⟨.inl ⟨.bool true,.bool true,[],rfl,λ_=>rfl,.bool true,Rn l _,λ_=>⟨List.Pairwise.nil,λ_ hm=>(nomatch hm)⟩⟩,h2,h3,h4⟩
section
variable {prog:cy}{w:fI}{A:iN}{E:Zs}{s:bq}{K:Frag}
end
end Att
namespace L2
open PySem PySem.Spec PyProof.Rows
theorem FJ:∀{vs:List aS} {ns:List Int},IntsAre vs ns->Vals (ns.map V.int) vs
 |_,_,.nil=>.nil
 |_,_,.cons n t h=>.cons ⟨t,rfl⟩<|FJ h
def Only (H:Hp):Prop:=∀b,H b=none\/∃o xs,H b=some (.frz o<|.lst xs)
theorem U4 {K:bP}{s₁:bq}{vs:List aS}{ns:List Int}
  (KX:K.In s₁.heap) (hns:s₁.heap.Ns gu mg) (hb:s₁.heap.Ns builtinsNs mb) (hbb:∀x:Str,x≠"__name__"->mb x=dA x) (hlim:s₁.heap.NoLimit) (hg:s₁.gens=#[])
  (ha:s₁.heap.get? a=some { cls:=.type "list",data:=.seq vs.toArray }) (hi:IntsAre vs ns) (hl:ns.length<=aw) (hr:gD k A5)
  (F:∀base:Heap,K.In base->base.Ns gu mg->qL P w K mg base CX k fa fd [x] sp) (hbind:∀(s:bq) (u:aS),BC s fd ⟨[u],[]⟩ [(x,u)])
  (hsp:∀H:Hp,Only H->SqL K H a (ns.map V.int)->sp [.ref a] H (λv _=>v=.bl true) λ_ _ _=>False)
  (hCX:∀H e s',CX [] H s₁ (λ_ _ _=>False) e s'->False):
  A3 (dr P w) A5 (.call (.ref fa) ⟨[.ref a],[]⟩) (λr s'=>r=.ok (.ret<|.bool true)/\OldK s₁.heap s'.heap/\s'.os=s₁.os/\v3 s'.gens) s₁:=by
 have rv:=FJ hi;have lenV:=hi.length;have core:∀H:Hp,Only H->SqL K H a (ns.map V.int)->HOk P w H s₁.heap->(∀b,H b≠none->b=a)->(H a≠none->K.lookup a=none)->
   A3 (dr P w) A5 (.call (.ref fa) ⟨[.ref a],[]⟩) (λr s'=>r=.ok (.ret<|.bool true)/\OldK s₁.heap s'.heap/\s'.os=s₁.os/\v3 s'.gens) s₁:=by
  intro H hO hS hok hA hK;have base_of:∀{b:Addr} {o:Obj},s₁.heap.get? b=some o->H b=none->(Iv s₁.heap H).get? b=some o:=λe n=>WT e n;have noA:∀{b:Addr} {o:Obj} {es:Array si} {ep:Nat},s₁.heap.get? b=some o->o.data=.dict es ep->H b=none:=λ{b o es ep} e d=>by
   cases q:H b with
   |none=>rfl
   |some u=>
    have e':b=a:=hA b (by rw[q];simp);subst e';rw[ha] at e;cases e;have d':Data.seq vs.toArray _=Data.dict es ep:=d;cases d'
  have nsK:∀{b:Addr} {m:Zp},s₁.heap.Ns b m->(Iv s₁.heap H).Ns b m:=λ{b m} ⟨o,es,ep,e,d,r⟩=>⟨o,es,ep,base_of e<|noA e d,d,r⟩;have hKb:K.In (Iv s₁.heap H):=λb o e=>base_of (KX b o e) (by
   cases q:H b with
   |none=>rfl
   |some u=>
    have e':b=a:=hA b (by rw[q];simp);subst e';rw[hK (by rw[q];simp)] at e;cases e)
  have hM:Mod K mg (Iv s₁.heap H):=⟨hKb,nsK hns,⟨mb,nsK hb,hbb⟩,let⟨mc,h1,h2⟩:=hlim;⟨mc,nsK h1,h2⟩⟩;have e0:Yq P w K mg (Iv s₁.heap H) A5 [] s₁ H:=⟨rfl,hM,λb o e=>ZW e,x8<|Rq _ _,trivial,λb hb=>absurd (show b∈([]:List Addr) from hb) (by simp),hok,.of_eq hg⟩;refine codeAny_mono ((F _ hKb<|nsK hns).run A5 [] s₁ H ⟨[.ref a],[]⟩ [.ref a] [.ref a] _ _ hr e0 (hbind s₁<|.ref a) (.cons rfl .nil)<|hsp H hO hS) λr s' h=>?_;cases r with
  |error e=>exact(hCX H e s' h).elim
  |ok fl=>
   cases fl with
   |next=>exact oy h
   |brk=>exact oy h
   |cont=>exact oy h
   |ret u=>
    refine K4 h λv H' os bare un hok' r' q=>?_;have q':v=.bl true:=q;subst q';obtain rfl:u=A2 true:=r';refine⟨rfl,OldK.of_keep λb o e=>?_,os,bare⟩;cases q:H b with
    |none=>exact un.keep b o e q (by intro z;exact absurd (show b∈([]:List Addr) from z) (by simp)) (by simp)
    |some u=>
     rcases hO b with z|⟨ob,xs,z⟩
     ·rw[q] at z;cases z
     ·have z2:=un.frzs b ob _ z;obtain⟨e1,_⟩:=hok b _ z;obtain⟨e2,_⟩:=hok' b _ z2;rw[e] at e1;cases e1;exact e2
 cases hk:K.lookup a with
 |some o=>
  have e:=KX a o hk;rw[ha] at e;cases e;refine core (λ_=>none) (λ_=>.inl rfl) (.inr ⟨_,vs.toArray,_,hk,rfl,rfl,rfl,by rw[a9,lenV];exact hl,by simpa using rv⟩) (λb u z=>by have z':(none:Option HO)=some u:=z;cases z') (λb z=>absurd rfl z) λz=>absurd rfl z
 |none=>
  refine core (λb=>if b=a then some (.frz { cls:=.type "list",data:=.seq vs.toArray }<|.lst<|ns.map V.int) else none) (λb=>?_) (.inl<|.inr ⟨{ cls:=.type "list",data:=.seq vs.toArray },if_pos rfl⟩) (λb u z=>?_) (λb z=>?_) λ_=>hk
  ·by_cases hb:b=a
   ·exact .inr ⟨_,_,if_pos hb⟩
   ·exact .inl<|if_neg hb
  ·by_cases hb:b=a
   ·have z':=(if_pos hb).symm.trans z;cases z';subst hb;exact⟨ha,by rw[bp];exact hl,vs,_,rv,ha⟩
   ·have z':=(if_neg hb).symm.trans z;cases z'
  ·by_cases hb:b=a
   ·exact hb
   ·exact absurd (if_neg hb) z
theorem Yz {l:W.OpenLaw}{n k:Nat}{q:cy}{loose:List Str}{XP:(Zp)->Heap->Prop}{YP:fI->Heap->Prop}{d:DefRec}{K:Params->bP}{CX:fI->CXT}{sp:fI->Sp}{x:Str}
  (hn:l.most=some n) (hn2:n<=aw) (hdf:d.params.defaults=[]) (hr:gD k A5)
  (hY:∀(w:fI) (h:Heap),YP w h->(K w.params).In h)
  (F:∀(w:fI) (mg:Zp) (fa:Addr) (h:Heap),(K w.params).In h->h.Ns gu mg->mg d.name=some (.ref fa)->
   ∃fd:kA,(∀(s:bq) (u:aS),BC s fd ⟨[u],[]⟩ [(x,u)])/\
    ∀base:Heap,(K w.params).In base->base.Ns gu mg->qL l.prog w (K w.params) mg base (CX w) k fa fd [x] (sp w))
  (hsp:∀(w:fI) (H:Hp) (a:Addr) (ns:List Int),ns.length<=n->Only H->SqL (K w.params) H a (ns.map V.int)->sp w [.ref a] H (λv _=>v=.bl true) λ_ _ _=>False)
  (hCX:∀(w:fI) (H:Hp) (s:bq) (e:aS) (s':bq),CX w [] H s (λ_ _ _=>False) e s'->False):
  W.WalkO q loose XP YP l.row.toRowW d [] (λf vs=>BI f vs):=by
 refine Att.KR hn hdf λw s₀ s₁ mg mb fa o pm cd doc a vs ns G Y ho hd hcd hmg hobj hints ν hg=>?_;have KX:=hY w _ Y;obtain⟨fd,hb,hF⟩:=F w mg fa _ KX G.T.g hmg;exact U4 KX G.T.g G.T.b G.T.builtins G.T.nolimit hg hobj hints (iA ν hn2) hr hF hb (λH hO hS=>hsp w H a ns ν hO hS) λH e s'=>hCX w H s₁ e s'
noncomputable def oZ (s:Stmt):Arguments:=match s with
 | .FunctionDef _ a _ _ _ _ _ _ _ _=>a
 |_=>{ posonlyargs:=[],args:=[],vararg:=none,kwonlyargs:=[],kw_defaults:=[],kwarg:=none,defaults:=[] }
def jZ (s:Stmt):List Stmt:=match s with
 | .FunctionDef _ _ b _ _ _ _ _ _ _=>b
 |_=>[]
noncomputable def aL (s:Stmt):zh:=match s with
 | .FunctionDef _ _ _ _ _ _ sc _ _ _=>sc
 |_=>{ kind:=.function,names:=[],isGenerator:=false,isCoroutine:=false }
abbrev E0:XK:=λ_ _ _=>False
structure Fun (K:bP)(x qual:Str)(st:Stmt)(f:Addr)(fd:kA):Prop where
 ex:∃(oc:aS) (od:Option Addr) (kV doc pm:aS) (an:Option Addr) (cdv ct:aS) (osl:Array (Option aS)),
  fd=AQ x qual (oZ st) (jZ st) (aL st) .none kV doc pm an cdv ct/\K.lookup f=some ⟨oc,od,.func fd,osl⟩/\W.codeIn K cdv qual=true
 kp:Bz K (.ref f)=true
section
variable {P:cy}{w:fI}{K:bP}{mg:Zp}{base:Heap}
theorem Fun.binds {x qual:Str}{st:Stmt}{f:Addr}{fd:kA}{ps:List Str}(F:Fun K x qual st f fd)
  (h:∀(kV doc pm:aS) (an:Option Addr) (cdv ct:aS) (us:List aS),us.length=ps.length->bindArgs (AQ x qual (oZ st) (jZ st) (aL st) .none kV doc pm an cdv ct) ⟨us,[]⟩=pure (ps.zip us)):Binds K fd ps []:=by
 obtain⟨oc,od,kV,doc,pm,an,cdv,ct,osl,rfl,lk,hcd⟩:=F.ex;exact .all<|h kV doc pm an cdv ct
theorem ace {x qual:Str}{st:Stmt}{f:Addr}{oc:aS}{od an:Option Addr}{osl:Array (Option aS)}{kV doc pm cdv ct:aS}(l:K.lookup f=some ⟨oc,od,.func<|AQ x qual (oZ st) (jZ st) (aL st) .none kV doc pm an cdv ct,osl⟩)
  (c:W.codeIn K cdv qual=true) (k:Bz K (.ref f)=true):Fun K x qual st f (AQ x qual (oZ st) (jZ st) (aL st) .none kV doc pm an cdv ct):=⟨⟨oc,od,kV,doc,pm,an,cdv,ct,osl,rfl,l,c⟩,k⟩
end
section
end
def aM (H H':Hp):Prop:=∀b o,H b=some o->H' b=some o
theorem aM.refl (H:Hp):aM H H:=λ_ _ h=>h
theorem aM.trans (a:aM H H1)(b:aM H1 H2):aM H H2:=λc o h=>b c o<|a c o h
theorem aM.free (e:aM H H'){l:Addr}(h:H' l=Option.none):H l=Option.none:=by
 cases q:H l with
 |none=>rfl
 |some o=>
  rw[e l o q] at h;cases h
end L2
set_option maxHeartbeats 4000000
namespace Hd
open PySem PySem.Spec PyProof.Rows L2
abbrev St:=L2.St
theorem Uc (h:n<2^k)(hk:0<k):n.log2<k:=by
 by_cases z:n=0
 ·rw[z];exact hk
 ·exact(Nat.log2_lt z).mpr h
@[irreducible] def lmM:Nat:=2^60000
@[irreducible] def lmD:Nat:=2^8900
theorem U9:lmM=2^60000:=by unfold lmM;rfl
theorem Lj:lmD=2^8900:=by unfold lmD;rfl
theorem bits_le (h:i.natAbs<lmM):og i<=60000:=by
 unfold og;split
 ·exact eT _
 ·rw[U9] at h;exact Uc (k:=60000) h<|by decide
def adm (_ j:Int):Prop:=j≠0/\j.natAbs<lmD
def TX (i j:Int):Prop:=i.natAbs<lmM/\j.natAbs<lmM
theorem TX.ok (h:TX i j):IntMulOk i j:=by
 have h1:=bits_le h.1;have h2:=bits_le h.2;have hb:bitsLine=134217728:=rfl;have z:x9 (og i+og j)=false:=by
  unfold x9;refine decide_eq_false ?_
  lia
 unfold IntMulOk;rw[z]
 simp
section
theorem Vc:OpR X (kg .FloorDiv) (rI adm λi j=>.int<|i.fdiv j):=
 opI λ_ _ _ _ _ _ _ hc q=>floordiv_int hc.1 q<|.inl<|PyProof.noPylong_of_log2<|cm (Uc (k:=8900) (Lj▸hc.2)<|by decide)<|by decide
theorem Xu:OpR X (kg .Mult) (rI TX λi j=>.int<|i*j):=opI λ_ _ _ _ _ _ _ hc q=>mul_int q hc.ok
end
mutual
inductive DV (K:bP)(H:Hp):V->ya->Prop where
 |non:DV K H .non .none
 |bl (b:Bool):DV K H (.bl b) (.bool b)
 |int (i:Int):DV K H (.int i) (.int i)
 |str (x:Str):DV K H (.str x) (.str x)
 |tup {a:Addr} {xs:List V} {ds:List ya}:SqT K H a xs->DVs K H xs ds->DV K H (.ref a) (.tuple ds)
 |lst {a:Addr} {xs:List V} {ds:List ya}:SqL K H a xs->DVs K H xs ds->DV K H (.ref a) (.list ds)
inductive DVs (K:bP)(H:Hp):List V->List ya->Prop where
 |nil:DVs K H [] []
 |cons {v:V} {vs:List V} {d:ya} {ds:List ya}:DV K H v d->DVs K H vs ds->DVs K H (v::vs) (d::ds)
end
section
mutual
theorem DV.reads (I:Inv X π σ H s):∀{v:V} {d:ya} {u:aS},DV X.K H v d->RelV v u->∃as,Reads s.heap u d as
 |_,_,u,.non,r=>by cases(show u=i9 from r);exact⟨_,.none⟩
 |_,_,u,.bl b,r=>by cases(show u=A2 b from r);exact⟨_,.bool b⟩
 |_,_,u,.int i,r=>by obtain⟨t,e⟩:=(show ∃t,u=AL i t from r);subst e;exact⟨_,.int i t⟩
 |_,_,u,.str x,r=>by obtain⟨t,e⟩:=(show ∃t,u=tq x t from r);subst e;exact⟨_,.str x t⟩
 |_,_,u,.tup (a:=a) h hs,r=>by
  cases(show u=cx a from r);obtain⟨χ,rv,⟨o,ho,hc,n,hd⟩,_⟩:=I.tuple h;obtain⟨as,ra⟩:=DVs.reads I hs rv;exact⟨as,.tuple ho hc hd<|by simpa using ra⟩
 |_,_,u,.lst (a:=a) h hs,r=>by
  cases(show u=cx a from r);obtain⟨χ,rv,⟨o,n,ho,hc,_,hd⟩,_⟩:=I.list h;obtain⟨as,ra⟩:=DVs.reads I hs rv;exact⟨a::as,.list ho hc hd<|by simpa using ra⟩
theorem DVs.reads (I:Inv X π σ H s):∀{vs:List V} {ds:List ya} {us:List aS},DVs X.K H vs ds->Vals vs us->∃as,ReadsAll s.heap us ds as
 |_,_,_,.nil,.nil=>⟨[],.nil⟩
 |_,_,_,.cons h hs,.cons r rs=>by
  obtain⟨as,ra⟩:=DV.reads I h r;obtain⟨bs,rb⟩:=DVs.reads I hs rs;exact⟨as++bs,.cons ra rb⟩
end
end
section
def afn (K:bP):R2:=λx y H Q=>∃d e,DV K H x d/\DV K H y e/\hU d=true/\hU e=true/\Q (.bl<|kr d e) H
def ae8 (K:bP):R2:=λx y H Q=>∃d e,DV K H x d/\DV K H y e/\hU d=true/\hU e=true/\Q (.bl<|!PyData.eqv d e) H
theorem abx (hu:X.A.units+64<mm):OpR X (fx .Eq) (afn X.K):=by
 intro π s σ H x y v u Q I rx ry h;refine vG h λd e hd he sd se q=>?_;obtain⟨as,ra⟩:=hd.reads I rx;obtain⟨bs,rb⟩:=he.reads I ry;exact eq_dataH ra rb sd se hu<|cF I q rfl
theorem ab0 (hu:X.A.units+64<mm):OpR X (fx .NotEq) (ae8 X.K):=by
 intro π s σ H x y v u Q I rx ry h;refine vG h λd e hd he sd se q=>?_;obtain⟨as,ra⟩:=hd.reads I rx;obtain⟨bs,rb⟩:=he.reads I ry;exact ne_dataH ra rb sd se hu<|cF I q rfl
end
section
noncomputable def adG:V->Option aS
 | .ty n=>some<|.type n
 | .ref a=>some<|.ref a
 |_=>none
theorem Vi (e:adG c=some cv)(r:RelV c u):u=cv:=by
 cases c with
 |ty n=>cases e;exact r
 |ref a=>cases e;exact r
 |_=>cases e
end
section
end
structure Fly (P:cy)(w:fI)(outer:List Env)(H:Hp)(s:bq)(e:aS)(s':bq)(ea t:Addr)(cls:aS)(B:Heap)(H':Hp):Prop where
 is:e=.ref ea
 os:s'.os=s.os
 bare:v3 s'.gens
 fly:Heap.FlyingW B outer ea cls (.ref t) s'.heap
 keep:∀b o,s.heap.get? b=some o->H b=none->b∉frs outer->B.get? b=some o
 slot:∀b o,s.heap.get? b=some o->b∈frs outer->∃sl,s'.heap.get? b=some { o with slots:=sl }
 free:∀b o,s.heap.get? b=some o->H b=none->H' b=none
 there:∀b o,s.heap.get? b=some o->b∉frs outer->∃o',B.get? b=some o'
 tups:∀b xs,H b=some (.tup xs)->H' b=some (.tup xs)
 frzs:∀b o u,H b=some (.frz o u)->H' b=some (.frz o u)
 tbls:∀b ps,H b=some (.tbl ps)->∃more,H' b=some (.tbl (ps++more))
 hok:HOk P w H' B
 new:s.heap.get? ea=none
 nin:H' ea=none
def CX1 (P:cy)(w:fI):CXT:=λouter H s E e s'=>∃ea t cls B H',Fly P w outer H s e s' ea t cls B H'/\E cls none H'
theorem VR (hf:env.frame=some L)(h:b∈frs (env::l)):b=L\/b∈frs l:=by simp_all[nS,frs]
theorem Ug (h:b∈frs l):b∈frs (env::l):=by simp_all[frs]
section
variable {P:cy}{w:fI}{K:bP}{mg:Zp}{base:Heap}{N:List Str}{qual:Str}{scope:zh}{f:Addr}{cd:aS}{A:iN}{outer:List Env}{s:bq}{H:Hp}{E:XK}
theorem aO:Passes (CX1 P w) (Cw (CX1 P w) P w K mg base N qual scope f cd A outer s H E) E:=by
 intro π σ H1 s1 e s' I h;refine tW h λea t cls B H' F hw=>?_;obtain rfl:=F.is;have nfr:∀b o,s.heap.get? b=some o->b∉frs outer->b∉frs (Cw (CX1 P w) P w K mg base N qual scope f cd A outer s H E).stack:=λb o q nb hb=>by
  rcases VR (L:=s.heap.objs.size) rfl hb with z|z
  ·exact absurd (aI q) (by rw[z];exact ib _)
  ·exact nb z
 have nx:∀b:Addr,b∉(Cw (CX1 P w) P w K mg base N qual scope f cd A outer s H E).ex:=λb z=>absurd (show b∈([]:List Addr) from z) (by simp);refine wpAny_leaves_onW (base:=B) (outer:=outer) (L:=s.heap.objs.size) I.ok.frames rfl F.fly λh2 x1 x2=>?_;refine⟨ea,t,cls,B,H',⟨rfl,F.os.trans I.os,F.bare,x1,λb o q n nb=>?_,λb o q hb=>?_,λb o q n=>?_,λb o q nb=>?_,λb xs q=>F.tups b xs<|I.base.tups b xs q,λb o u q=>F.frzs b o u<|I.base.frzs b o u q,λb ps q=>?_,F.hok,?_,F.nin⟩,hw⟩
 ·exact F.keep b o (I.base.keep b o q n nb<|nx b) (I.base.free b o q n<|nx b)<|nfr b o q nb
 ·obtain⟨sl,e1⟩:=I.base.slot b o q (I.ok.frf b hb) hb<|nx b;obtain⟨_,o',ho',hnf⟩:=I.ok.CP.mem hb;have eo:o=o':=cE<|q.symm.trans ho';obtain⟨sl1,e2⟩:=F.slot b _ e1<|Ug hb;obtain⟨sl2,e3⟩:=x2 b _ e2 λv z=>hnf v (by rw[← eo];exact z);exact⟨sl2,e3⟩
 ·obtain⟨o',e1⟩:=I.base.there b o q<|nx b;exact F.free b o' e1<|I.base.free b o q n<|nx b
 ·obtain⟨o',e1⟩:=I.base.there b o q<|nx b;exact F.there b o' e1<|nfr b o q nb
 ·obtain⟨m1,e1⟩:=I.base.tbls b ps q;obtain⟨m2,e2⟩:=F.tbls b _ e1;exact⟨m1++m2,by rw[e2,AN]⟩
 ·cases q:s.heap.get? ea with
  |none=>rfl
  |some o=>
   obtain⟨o',e1⟩:=I.base.there ea o q<|nx ea;rw[F.new] at e1;cases e1
end
theorem J8:Passes (CX1 P w) X E0:=λ_ _ _ _ _ _ _ ⟨_,_,_,_,_,_,z⟩=>z.elim
def aee (ea:Addr)(cls:aS)(h:Heap):Prop:=∃o,h.get? ea=some o/\o.cls=cls/\∃vs,o.data=.fields vs
section
end
section
end
section
variable {X:Cx}{k:Nat}{f:Addr}{fd:kA}{ps:List Str}{sp:Sp}{x:Str}{p pos pos':Pos}{e:Expr}{es:List Expr}{t:TA}
end
section
variable {X:Cx}{x:Str}{e₀:Expr}{np η pos:Pos}{te:TE}{C:Addr}{bmB:List aS}{B newId initId:String}
end
structure Fn (P:cy)(w:fI)(K:bP)(mg:Zp)(base:Heap)(k:Nat)(x:Str)(ps:List Str)(sp:Sp):Prop where
 ex:∃f fd,qL P w K mg base (CX1 P w) k f fd ps sp/\Binds K fd ps []/\Bz K (.ref f)=true/\mg x=some (.ref f)
section
end
section
variable {P:cy}{w:fI}{K:bP}{mg:Zp}{base:Heap}
theorem Qe {x qual:Str}{st:Stmt}{f:Addr}{fd:kA}{N ps:List Str}{k:Nat}{sp:Sp}(F:Fun K x qual st f fd)(S:aR N ps (aL st))(len:∀vs H Q E,sp vs H Q E->vs.length=ps.length)
  (hbody:∀(cdv:aS) (A:iN) (outer:List Env) (s:bq) (H:Hp) (vs:List V) (Q:VK) (E:XK),gD k (A.deeper<|zD qual (aL st) s.heap.objs.size f cdv)->sp vs H Q E->
   ∃t,PSs (Cw (CX1 P w) P w K mg base N qual (aL st) f cdv A outer s H E) (jZ st) t/\t { nx:=λ_ H'=>Q .non H',rt:=Q } (start N vs) H):qL P w K mg base (CX1 P w) (k+1) f fd ps sp:=by
 obtain⟨oc,od,kV,doc,pm,an,cdv,ct,osl,rfl,lk,hcd⟩:=F.ex;refine adS lk hcd S len λA outer s H vs Q E hr hsp=>?_;obtain⟨t,h,q⟩:=hbody cdv A outer s H vs Q E hr hsp;exact⟨t,h,q⟩
end
structure Df (K:bP)(mg:Zp)(x:Str)(st:Stmt)(ps:List Str):Prop where
 ex:∃f fd,Fun K x x st f fd/\Binds K fd ps []/\mg x=some (.ref f)
theorem Df.fn {P:cy}{w:fI}{K:bP}{mg:Zp}{base:Heap}{x:Str}{st:Stmt}{ps:List Str}{k:Nat}{sp:Sp}(D:Df K mg x st ps)
  (h:∀f fd,Fun K x x st f fd->qL P w K mg base (CX1 P w) k f fd ps sp):Fn P w K mg base k x ps sp:=by
 refine zR D.ex λf fd F b m=>?_;exact⟨f,fd,h f fd F,b,F.kp,m⟩
section
variable {prog:cy}{w:fI}{A:iN}{E:Zs}{h:Heap}{g:Array sN}{d:Drawn}{t:Nat}{os:OsState}{a C:Addr}{o:Obj}{K:bP}
end
section
end
end Hd
namespace L2
open PySem PySem.Spec PyProof.Rows
section
variable {κ:Type}[DecidableEq κ]
noncomputable def oU (ι:List (κ×V))(k:κ):Option V:=(ι.find? λkv=>decide<|kv.1=k).map (·.2)
noncomputable def putK (ι:List (κ×V))(k:κ)(v:V):List (κ×V):=
 if(ι.any λkv=>decide<|kv.1=k)=true then ι.map (λkv=>if kv.1=k then(kv.1,v) else kv) else ι++[(k,v)]
theorem uc {p:κ×V}(e:p.1=k):oU (p::r) k=some p.2:=by simp[oU,lh,e]
theorem ur {p:κ×V}(e:¬p.1=k):oU (p::r) k=oU r k:=by simp[oU,lh,e]
theorem Dw (k:κ):∀ι:List (κ×V),(ι.any λkv=>decide<|kv.1=k)=(oU ι k).isSome
 |[]=>rfl
 |p::r=>by
  rw[AU];by_cases e:p.1=k
  ·simp only[uc e,decide_eq_true e,Bool.true_or,Option.isSome_some]
  ·rw[ur e,decide_eq_false e,Bool.false_or];exact Dw k r
theorem uv (ι:List (κ×V))(k:κ)(v:V):(putK ι k v).length<=ι.length+1:=by grind[bp,bg,cw,yb,putK]
theorem Xb {ι:List (κ×V)}{k:κ}(v:V)(h:oU ι k=none):putK ι k v=ι++[(k,v)]:=by simp_all[Dw,putK]
theorem Bh.qR (r:Bh o u):o.isSome=u.isSome:=by
 cases o with
 |none=>cases u with
  |none=>rfl
  |some _=>exact(show False from r).elim
 |some _=>cases u with
  |none=>exact(show False from r).elim
  |some _=>rfl
theorem KV.val (r:KV ι vs)(k:κ):Bh (oU ι k) (yi vs k):=by
 unfold KV at r;induction r with
 |nil=>exact hJ
 | @cons p q ps qs h t ih=>
  obtain⟨h1,h2⟩:=h;by_cases e:p.1=k
  ·have e':q.1=k:=h1.symm.trans e;have b:yi (q::qs) k=some q.2:=by simp[yi,lh,e']
   rw[uc e,b];exact h2
  ·have e':¬q.1=k:=λz=>e<|h1.trans z;have b:yi (q::qs) k=yi qs k:=by simp[yi,lh,e']
   rw[ur e,b];exact ih
theorem KV.any (r:KV ι vs)(k:κ):(ι.any λkv=>decide<|kv.1=k)=vs.any λkv=>decide (kv.1=k):=by
 unfold KV at r;induction r with
 |nil=>rfl
 |cons h t ih=>rw[AU,AU,ih,h.1]
theorem KV.repl (r:KV ι vs)(k:κ){y:V}{u:aS}(ry:RelV y u):
  KV (ι.map λkv=>if kv.1=k then(kv.1,y) else kv) (vs.map λkv=>if kv.1=k then(kv.1,u) else kv):=by
 unfold KV at r ⊢;induction r with
 |nil=>exact .nil
 | @cons p q ps qs h t ih=>
  rw[ar,ar];refine .cons ?_ ih;obtain⟨h1,h2⟩:=h;by_cases e:p.1=k
  ·rw[if_pos e,if_pos<|h1.symm.trans e];exact⟨h1,ry⟩
  ·rw[if_neg e,if_neg λz=>e<|h1.trans z];exact⟨h1,h2⟩
theorem KV.put (r:KV ι vs)(k:κ){y:V}{u:aS}(ry:RelV y u):KV (putK ι k y) (stored vs k u):=by
 unfold putK stored;rw[r.any k];by_cases e:(vs.any λkv=>decide<|kv.1=k)=true
 ·rw[if_pos e,if_pos e];exact r.repl k ry
 ·rw[if_neg e,if_neg e];exact Paired.snoc r ⟨rfl,ry⟩
theorem KV.length (r:KV ι vs):ι.length=vs.length:=ia r
end
theorem Fy (r:RelV (kV k) u):(jc P w).is k u=true:=by
 cases k with
 |inl i=>obtain⟨t,e⟩:=(show ∃t,u=AL i t from r);subst e;exact J0 P w i t
 |inr x=>obtain⟨t,e⟩:=(show ∃t,u=tq x t from r);subst e;exact Kg P w x t
abbrev KT (T:Addr->List V->Prop)(H:Hp):List (List Kt×V)->List (List Kt×Addr×aS)->Prop:=kQ λp q=>p.1=q.1/\TrT T H q.2.1 p.1/\RelV p.2 q.2.2
theorem KT.val (r:KT T H ι xs)(k:List Kt):Bh (oU ι k) ((ui xs k).map (·.2)):=by
 induction r with
 |nil=>exact hJ
 | @cons p q ps qs h t ih=>
  obtain⟨h1,_,h2⟩:=h;by_cases e:p.1=k
  ·have e':q.1=k:=h1.symm.trans e;have b:ui (q::qs) k=some q.2:=by simp[ui,lh,e']
   rw[uc e,b];exact h2
  ·have e':¬q.1=k:=λz=>e<|h1.trans z;have b:ui (q::qs) k=ui qs k:=by simp[ui,lh,e']
   rw[ur e,b];exact ih
theorem KT.repl (r:KT T H ι xs)(k:List Kt){y:V}{u:aS}(ry:RelV y u):
  KT T H (ι.map λkv=>if kv.1=k then(kv.1,y) else kv) (xs.map<|putAt k u):=by
 induction r with
 |nil=>exact .nil
 | @cons p q ps qs h t ih=>
  rw[ar,ar];refine .cons ?_ ih;obtain⟨h1,h2,h3⟩:=h;unfold putAt;by_cases e:p.1=k
  ·rw[if_pos e,if_pos<|h1.symm.trans e];exact⟨h1,h2,ry⟩
  ·rw[if_neg e,if_neg λz=>e<|h1.trans z];exact⟨h1,h2,h3⟩
theorem KT.put (r:KT T H ι xs)(k:List Kt){b:Addr}{y:V}{u:aS}(hb:TrT T H b k)(ry:RelV y u):
  KT T H (putK ι k y) (storedH xs k b u):=by
 have e:(ι.any λkv=>decide<|kv.1=k)=(ui xs k).isSome:=by
  rw[Dw,(r.val k).qR,uj]
 unfold putK storedH;rw[e];by_cases q:(ui xs k).isSome=true
 ·rw[if_pos q,if_pos q];exact r.repl k ry
 ·rw[if_neg q,if_neg q];exact Paired.snoc r ⟨rfl,hb,ry⟩
theorem KT.keeps (r:KT T H ι xs)(ht:∀b ys,H b=some (.tup ys)->H' b=some (.tup ys)):KT T H' ι xs:=
 kQ.abj r λ_ _ z=>⟨z.1,z.2.1.imp ht,z.2.2⟩
section
theorem aay (ok:HOk P w H h)(e:Rd H a u):cV P w H h a u:=e.ok ok
theorem xm (ok:HOk P w H h)(e:Rd H a (.dK ι)):ι.length<=aw/\(a==eI)=false/\∃vs,KV ι vs/\h.DictOf (jc P w) a vs:=
 show cV P w H h a (.dK ι) from aay ok e
theorem aas (ok:HOk P w H h)(e:H a=some (.dK ι)):ι.length<=aw/\(a==eI)=false/\∃vs,KV ι vs/\h.DictOf (jc P w) a vs:=xm ok<|.inl e
theorem vy (hT:∀b ks,TrT T H b ks->(jW P w).is h ks b)(ok:HOk P w H h)(e:Rd H a (.dT T ι)):ι.length<=aw/\(a==eI)=false/\
  ∃xs,KT T H ι xs/\h.DictOfH (jW P w) a xs:=by
 obtain⟨z,y,xs,r,o,es,ep,h1,h2,h3,h4,h5⟩:=(show cV P w H h a (.dT T ι) from aay ok e);refine⟨z,y,xs,r,o,es,ep,h1,h2,h3,h4,λx hx=>?_,h5⟩;have all:∀{l:List (List Kt×V)} {m:List (List Kt×Addr×aS)},KT T H l m->∀x∈m,(jW P w).is h x.1 x.2.1:=by
  intro l m q;induction q with
  |nil=>intro x hx;exact nomatch hx
  | @cons p q ps qs hq t ih=>
   intro x hx;rcases a8.mp hx with e|hx
   ·subst e;rw[← hq.1];exact hT _ _ hq.2.1
   ·exact ih x hx
 exact all r x hx
theorem Ww (hT:∀b ks,TrT T H b ks->(jW P w).is h ks b)(ok:HOk P w H h)(e:H a=some (.dT T ι)):ι.length<=aw/\(a==eI)=false/\
  ∃xs,KT T H ι xs/\h.DictOfH (jW P w) a xs:=vy hT ok<|.inl e
end
def JX (K:bP)(H:Hp)(a:Addr)(y:V)(r:Option V):Prop:=
 (∃ι k,Rd H a (.dK ι)/\y=kV k/\r=oU ι k)\/∃ι k b,Rd H a (.dT (KTp K) ι)/\y=.ref b/\TrT (KTp K) H b k/\r=oU ι k
def Je (K:bP)(H:Hp)(a:Addr)(y v:V)(H':Hp):Prop:=
 (∃ι k,H a=some (.dK ι)/\y=kV k/\ι.length<aw/\H'=upd H a (.dK<|putK ι k v)) ∨
 ∃ι k b,H a=some (.dT (KTp K) ι)/\y=.ref b/\TrT (KTp K) H b k/\ι.length<aw/\H'=upd H a (.dT (KTp K)<|putK ι k v)
theorem Je.k {K:bP}{H:Hp}{a:Addr}{ι:List (Key×V)}{k:Key}{v:V}(e:H a=some (.dK ι))(hl:ι.length<aw):Je K H a (kV k) v (upd H a<|.dK<|putK ι k v):=.inl ⟨ι,k,e,rfl,hl,rfl⟩
theorem Je.t {K:bP}{H:Hp}{a b:Addr}{ι:List (List Kt×V)}{k:List Kt}{v:V}(e:H a=some (.dT (KTp K) ι))(eb:TrT (KTp K) H b k)(hl:ι.length<aw):
  Je K H a (.ref b) v (upd H a<|.dT (KTp K)<|putK ι k v):=.inr ⟨ι,k,b,e,rfl,eb,hl,rfl⟩
section
variable {X:Cx}{π:Zl}{σ:St}{H:Hp}{s:bq}{a:Addr}{y v:V}{u r:aS}{o:Option V}{A:iN}{E:Zs}
theorem Inv.big (I:Inv X π σ H s):eI<s.heap.objs.size:=by
 have h:gu<s.heap.objs.size:=(I.mod.glob.keeps I.bk).lt;exact Nat.lt_trans (by decide) h
mutual
theorem QB (I:Inv X π σ H s):∀{n:Nat} {v:V} {k:Kt} {u:aS},Aa (KTp X.K) H n v k->RelV v u->mj s.heap n k u
 |n,_,_,u,.k (x:=x),r=>by rw[qg];exact Fy (P:=X.prog) (w:=X.w) r
 |_,_,_,u,.t (b:=b) h hs,r=>by
  cases(show u=cx b from r);obtain⟨χ,rv,⟨o,ho,hc,m,hd⟩,_⟩:=I.tuple<|SqU.sq h;exact lq.mpr ⟨b,o,χ.toArray,m,rfl,ho,hc,hd,by simpa using JT I hs rv⟩
theorem JT (I:Inv X π σ H s):∀{n:Nat} {vs:List V} {ks:List Kt} {us:List aS},sZ (KTp X.K) H n vs ks->Vals vs us->kQ (mj s.heap n) ks us
 |_,_,_,_,.nil,.nil=>.nil
 |_,_,_,_,.cons h hs,.cons r rs=>.cons (QB I h r)<|JT I hs rs
end
theorem vR (I:Inv X π σ H s)(e:TrT (KTp X.K) H b ks):(jW X.prog X.w).is s.heap ks b:=by
 obtain⟨vs,h,hs⟩:=e;exact QB I (.t h hs) rfl
theorem sV (I:Inv X π σ H s):∀b ks,TrT (KTp X.K) H b ks->(jW X.prog X.w).is s.heap ks b:=λb ks e=>vR I e
theorem qJ (hu:A.units+16<mm):(jW X.prog X.w).room A.in1:=by
 show A.units+1+8<mm
 lia
theorem SQ (hu:A.units+16<mm)(I:Inv X π σ H s)(g:JX X.K H a y (some v))(ry:RelV y u)(h:∀w' s',Inv X π σ H s'->RelV v w'->Q w' s'):
  bt (dr X.prog X.w) A (Au (.ref a) u) Q E s:=by
 rcases g with⟨ι,k,e,ey,l⟩|⟨ι,k,b,e,ey,eb,l⟩
 ·subst ey;obtain⟨z,hd,vs,rel,dd⟩:=xm I.hok e;obtain⟨w',hw,rw'⟩:=Bh.some_of (v:=v) (o:=yi vs k) (by rw[l];exact rel.val k);exact wpAny_getItem_of (Fy ry) dd.mapOf hw<|h w' _ (I.tok _) rw'
 ·subst ey;cases(show u=cx b from ry);obtain⟨z,hd,xs,rel,dd⟩:=vy (sV I) I.hok e;obtain⟨w',hw,rw'⟩:=Bh.some_of (v:=v) (o:=(ui xs k).map (·.2)) (by rw[l];exact rel.val k);obtain⟨p,hp,hp2⟩:=iO.mp hw;refine wpAny_getItem_heap (qJ hu) (vR I eb) dd hp ?_;rw[hp2];exact h w' _ (I.tok _) rw'
theorem afj (hu:A.units+16<mm)(I:Inv X π σ H s)(g:JX X.K H a y o)(ry:RelV y u)(h:∀s',Inv X π σ H s'->Q (.bool o.isSome) s'):
  bt (dr X.prog X.w) A (fx .In u<|.ref a) Q E s:=by
 rcases g with⟨ι,k,e,ey,l⟩|⟨ι,k,b,e,ey,eb,l⟩
 ·subst ey;obtain⟨z,hd,vs,rel,dd⟩:=xm I.hok e;refine wpAny_in_of (Fy ry) hd dd.mapOf ?_;rw[← (rel.val k).qR,← l];exact h _<|I.tok _
 ·subst ey;cases(show u=cx b from ry);obtain⟨z,hd,xs,rel,dd⟩:=vy (sV I) I.hok e;refine wpAny_in_heap (qJ hu) (vR I eb) hd dd ?_;have q:=(rel.val k).qR;rw[uj] at q;rw[← q,← l];exact h _<|I.tok _
theorem aao (hu:A.units+16<mm)(I:Inv X π σ H s)(g:JX X.K H a y o)(ry:RelV y u)(h:∀s',Inv X π σ H s'->Q (.bool<|!o.isSome) s'):
  bt (dr X.prog X.w) A (fx .NotIn u<|.ref a) Q E s:=by
 rcases g with⟨ι,k,e,ey,l⟩|⟨ι,k,b,e,ey,eb,l⟩
 ·subst ey;obtain⟨z,hd,vs,rel,dd⟩:=xm I.hok e;refine wpAny_notIn_of (Fy ry) hd dd.mapOf ?_;rw[← (rel.val k).qR,← l];exact h _<|I.tok _
 ·subst ey;cases(show u=cx b from ry);obtain⟨z,hd,xs,rel,dd⟩:=vy (sV I) I.hok e;refine wpAny_notIn_heap (qJ hu) (vR I eb) hd dd ?_;have q:=(rel.val k).qR;rw[uj] at q;rw[← q,← l];exact h _<|I.tok _
theorem uO (I:Inv X π σ H s)(mu:Mut (H a))(hs:kx a s.heap h')(he:∃q,h'.get? a=some q)(new:cV X.prog X.w (upd H a ob) h' a ob):
  Inv X π σ (upd H a ob) { s with heap:=h',toks:=t' }:=
 I.write (x:=a) (e:=a) mu (.inl rfl) (λb q hb z=>(hs.2 b hb).trans z) he new
theorem Wk (z:ι.length<=aw)(hd:(a==eI)=false)(rel:KV ι vs)(dd:h'.DictOf (jc P w) a vs):
  cV P w H' h' a (.dK ι):=⟨z,hd,vs,rel,dd⟩
theorem Rf (hu:A.units+16<mm)(I:Inv X π σ H s)(g:Je X.K H a y v H')(ry:RelV y u)(rv:RelV v r)(h:∀s',Inv X π σ H' s'->Q () s'):
  bt (dr X.prog X.w) A (setItem (.ref a) u r) Q E s:=by
 rcases g with⟨ι,k,e,ey,l,eH⟩|⟨ι,k,b,e,ey,eb,l,eH⟩
 ·subst ey eH;obtain⟨z,hd,vs,rel,dd⟩:=aas I.hok e;have hz:vs.length<=aw:=by rw[← rel.length];exact z
  have hl:(putK ι k v).length<=aw:=by have:=uv ι k v;lia
  refine wpAny_setItem_pairs (hsz:=hz) (Fy ry) dd λh' dd' hs=>h _ ?_;have he:∃q,h'.get? a=some q:=let⟨q,_,_,hq,_⟩:=dd';⟨q,hq⟩
  exact uO I (by rw[e];exact hJ) hs he<|Wk hl hd (rel.put k rv) dd'
 ·subst ey eH;cases(show u=cx b from ry);obtain⟨z,hd,xs,rel,dd⟩:=Ww (sV I) I.hok e;have hz:xs.length<=aw:=by rw[← ia rel];exact z
  have hl:(putK ι k v).length<=aw:=by have:=uv ι k v;lia
  refine wpAny_setItem_heap (hsz:=hz) (qJ hu) (vR I eb) dd λh' dd' hs=>h _ ?_;refine Cp dd' λq es ep hq h2 h3 h4 _ h5=>?_;refine uO I (by rw[e];exact hJ) hs ⟨q,hq⟩ ⟨hl,hd,_,(rel.put k eb rv).keeps λc ys ec=>?_,q,es,ep,hq,h2,h3,h4,h5⟩;rw[bu<|Dp ec e λz=>nomatch z];exact ec
end
section
theorem adN (I:Inv X π σ H s)(e:Rd H a (.dK ι))(h:∀t s',Inv X π σ H s'->Q (.int ι.length t) s'):bt (dr X.prog X.w) A (call (.builtin "len") [.ref a]) Q E s:=by
 obtain⟨z,hd,vs,rel,dd⟩:=xm I.hok e;refine call_len_dict hd dd (by rw[← rel.length];rw[sizeLine_eq] at z;lia) ?_;rw[← rel.length];exact h _ _<|I.tok _
end
def XJ (i:Expr):Prop:=∀ov iv,AA i false ov iv=operate [ov,iv] (Au ov iv)
theorem Y8 {prog:cy}{w:fI}{A:iN}{E:Zs}{s:bq}{env:Env}{value slice:Expr}{pos:Pos}{T id:String}{Q:Zs}
  (hl:A4 (.type T) "__getitem__" = pure (some<|.builtin id)) (hs:XJ slice)
  (h:bt (dr prog w) A (eval value env) (λo s₁=>bt (dr prog w) A (eval slice env) (λi s₂=>s₂.TypeIs o T/\bt (dr prog w) A (Au o i) Q E s₂) E s₁) E s):
  bt (dr prog w) A (eval (.Subscript value slice pos) env) Q E s:=by
 refine Subscript_<|ko h (λo s₁ h₁=>ko h₁ (λi s₂ h₂=>?_) λ_ _ x=>x) λ_ _ x=>x;obtain⟨hT,h₂⟩:=h₂;unfold AS;refine ae ?_;rw[getitemInPython_of_ne hT.not_modules];refine ae<|mo hT hl ?_;have fin:bt (dr prog w) A (AA slice false o i) (λr s₃=>bt (dr prog w) A (letTemporaryGo value o r >>= λ_=>pure r) Q E s₃) E s₂:=by
  rw[hs o i];exact wpAny_operating<|ko h₂ (λr s₃ h₃=>ae<|wpAny_letTemporaryGo<|ag h₃) λ_ _ x=>x
 first
  |exact ag (ae fin)
  |exact ae (ag<|ae fin)
  |exact ae fin
theorem Kc (I:Inv X π σ H s)(g:JX X.K H a y o):s.TypeIs (.ref a) "dict":=by
 rcases g with⟨ι,k,e,_,_⟩|⟨ι,k,b,e,_,_,_⟩
 ·obtain⟨_,_,vs,_,dd⟩:=xm I.hok e;exact dd.typeIs
 ·obtain⟨_,_,xs,_,dd⟩:=vy (sV I) I.hok e;exact dd.typeIs
def adk (K:bP)(td ty:TE):TE:=λσ H Q=>td σ H λx H1=>ty σ H1 λy H2=>∃a v,x=.ref a/\JX K H2 a y (some v)/\Q v H2
def ad5 (K:bP)(td ty tv:TE):TS:=λD σ H=>tv σ H λv H1=>td σ H1 λx H2=>ty σ H2 λy H3=>∃a H4,x=.ref a/\Je K H3 a y v H4/\D.nx σ H4
section
theorem Om (hu:X.A.units+16<mm)(ho:PE X o td)(hi:PE X i ty)(hs:XJ i):PE X (.Subscript o i pos) (adk X.K td ty):=by
 intro π s σ H Q I h;refine Y8 PySem.F.slot_dict_getitem.lookup hs<|thn (ho π s σ H _ I h) λu s1 ⟨x,H1,I1,rx,q1⟩=>thn (hi π s1 σ H1 _ I1 q1) λiv s2 hE=>?_;obtain⟨y,H2,I2,ry,a,v,ex,g,q2⟩:=hE;subst ex;obtain rfl:u=cx a:=rx;exact⟨Kc I2 g,SQ hu I2 g ry λw' s3 I3 rw'=>⟨v,H2,I3,rw',q2⟩⟩
theorem HB (hu:X.A.units+16<mm)(ho:PE X o td)(hi:PE X i ty)(hv:PE X value tv)(hs:gN value (some<|.Subscript o i pos') pos.line X.env=pure false):
  PS X (.Assign [.Subscript o i pos'] value pos) (ad5 X.K td ty tv):=by
 intro π s σ H D I h;refine wpAny_Assign_Subscript (thn (hv π s σ H _ I h) λr s1 ⟨v,H1,I1,rv,q1⟩=>thn (ho π s1 σ H1 _ I1 q1) λu s2 ⟨x,H2,I2,rx,q2⟩=>thn (hi π s2 σ H2 _ I2 q2) λiv s3 ⟨y,H3,I3,ry,a,H4,ex,g,q3⟩=>?_) hs;subst ex;obtain rfl:u=cx a:=rx;exact Rf hu I3 g ry rv λs4 I4=>⟨σ,H4,I4,q3⟩
end
theorem Kq (h:Heap)(hb:eI<h.objs.size):cV P w H (h.push { cls:=.type "dict",data:=.dict #[] }) h.objs.size (.dK []):=
 ⟨eT _,beq_eq_false_iff_ne.mpr<|eS<|cK hb,[],.nil,Heap.DictOf.new h⟩
theorem Ky (h:Heap)(hb:eI<h.objs.size):cV P w H (h.push { cls:=.type "dict",data:=.dict #[] }) h.objs.size (.dT T []):=
 ⟨eT _,beq_eq_false_iff_ne.mpr<|eS<|cK hb,[],.nil,_,#[],0,aE _ rfl,⟨rfl,rfl,rfl⟩,rfl,rfl,ny⟩
def abi:TE:=λ_ H Q=>∀p,H p=none->Q (.ref p) (upd H p<|.dK [])
def acn (K:bP):TE:=λ_ H Q=>∀p,H p=none->Q (.ref p) (upd H p<|.dT (KTp K) [])
section
theorem Ux:PE X (.Dict [] [] pos) abi:=λπ s σ H Q I h=>
 wpAny_Dict_empty ⟨.ref s.heap.objs.size,_,I.laid (a:=s.heap.objs.size) (o:=.dK []) (t':=s.toks) (λ_ _ q=>ai _ q) (ay _)<|Kq s.heap I.big,rfl,h _<|I.hok.fresh<|ay _⟩
theorem U0:PE X (.Dict [] [] pos) (acn X.K):=λπ s σ H Q I h=>
 wpAny_Dict_empty ⟨.ref s.heap.objs.size,_,I.laid (a:=s.heap.objs.size) (o:=.dT (KTp X.K) []) (t':=s.toks) (λ_ _ q=>ai _ q) (ay _)<|Ky s.heap I.big,rfl,h _<|I.hok.fresh<|ay _⟩
end
def Du:List (TE×TE)->St->Hp->(List (V×V)->Hp->Prop)->Prop
 |[],_,H,Q=>Q [] H
 |(tk,tv)::r,σ,H,Q=>tk σ H λx H1=>tv σ H1 λy H2=>Du r σ H2 λps H3=>Q ((x,y)::ps) H3
abbrev VV:List (V×V)->List (aS×aS)->Prop:=kQ λp q=>RelV p.1 q.1/\RelV p.2 q.2
def PPs (X:Cx)(pos:Pos)(keys:List (Option Expr))(values:List Expr)(trs:List (TE×TE)):Prop:=
 ∀(π:Zl) (s:bq) (σ:St) (H:Hp) (Q:List (V×V)->Hp->Prop),Inv X π σ H s->Du trs σ H Q->
  bt (dr X.prog X.w) X.A (evalPairs<|pairTrees keys values X.env pos) (λvs s'=>∃ps H',Inv X π σ H' s'/\VV ps vs/\Q ps H') X.xe s
theorem Zc:PPs X pos [] [] []:=λπ s σ H Q I h=>pairTrees_nil_walk ⟨[],H,I,.nil,h⟩
theorem tM (hk:PE X k tk)(hv:PE X v tv)(hr:PPs X pos ks vs trs):
  PPs X pos (some k::ks) (v::vs) ((tk,tv)::trs):=λπ s σ H Q I h=>
 pairTrees_cons_walk (thn (hk π s σ H _ I h) λu s1 ⟨x,H1,I1,rx,q1⟩=>thn (hv π s1 σ H1 _ I1 q1) λw2 s2 hE=>xq2 hE λy H2 I2 ry q2=>
  thn (hr π s2 σ H2 _ I2 q2) λws s3 hE=>by obtain⟨ps,H3,I3,rel,q3⟩:=hE;exact⟨(x,y)::ps,H3,I3,.cons ⟨rx,ry⟩ rel,q3⟩)
def m8 (ι more:List (Key×V)):List (Key×V):=more.foldl (λacc kv=>putK acc kv.1 kv.2) ι
theorem KV.merge:∀{more:List (Key×V)} {rs:List (Key×aS)} {ι:List (Key×V)} {vs:List (Key×aS)},KV more rs->KV ι vs->KV (m8 ι more) (merged vs rs):=by
 intro more rs ι vs r;unfold KV at r;induction r generalizing ι vs with
 |nil=>intro q;exact q
 | @cons p q ps qs h t ih=>
  intro r0;have e:KV (putK ι p.1 p.2) (stored vs q.1 q.2):=by
   have:=r0.put p.1 h.2
   rw[← h.1];exact this
  exact ih e
theorem vB:∀(more ι:List (Key×V)),(m8 ι more).length<=ι.length+more.length
 |[],ι=>by show ι.length<=ι.length+0;lia
 |p::r,ι=>by
  have h1:=vB r<|putK ι p.1 p.2;have h2:=uv ι p.1 p.2;show(m8 (putK ι p.1 p.2) r).length<=_;rw[cw];lia
theorem Dt:∀{ι:List (Key×V)} {ws:List (aS×aS)},VV (ι.map λkv=>(kV kv.1,kv.2)) ws->∃rs,Carries (jc P w) ws rs/\KV ι rs
 |[],_,r=>by rw[sR] at r;cases r;exact⟨[],hJ,.nil⟩
 |p::ι,_,r=>by
  rw[ar] at r;cases r with
  | @cons a b as bs h t=>
   obtain⟨rs,c,q⟩:=Dt (P:=P) (w:=w) t;obtain⟨b1,b2⟩:=b;exact⟨(p.1,b2)::rs,⟨Fy h.1,rfl,c⟩,.cons ⟨rfl,h.2⟩ q⟩
def aeq (trs:List (TE×TE)):TE:=λσ H Q=>∀p,H p=none->Du trs σ (upd H p<|.dK []) λps H2=>H2 p=some (.dK [])/\∃ι:List (Key×V),ps=ι.map (λkv=>(kV kv.1,kv.2))/\ι.length<=15/\Q (.ref p) (upd H2 p<|.dK<|m8 [] ι)
theorem XN (h:PPs X pos keys values trs)(hall:keys.all (·.isSome)=true)(hl:keys.length=values.length)(h0:keys≠[])
  (h15:keys.length<=15):PE X (.Dict keys values pos) (aeq trs):=by
 intro π s σ H Q I q;have hn:=I.hok.fresh<|ay s.heap.objs.size;have I1:=I.laid (a:=s.heap.objs.size) (o:=.dK []) (h':=s.heap.push { cls:=.type "dict",data:=.dict #[] }) (t':=s.toks) (λ_ _ q=>ai _ q) (ay _)<|Kq s.heap I.big;refine wpAny_Dict_walk (knd:=jc X.prog X.w) hall hl h0 h15<|thn (h π _ σ _ _ I1<|q _ hn) λws s2 hE=>?_;obtain⟨ps,H2,I2,rel,e,ι,ep,lk,q2⟩:=hE;subst ep;obtain⟨rs,c,rk⟩:=Dt (P:=X.prog) (w:=X.w) rel;obtain⟨z,hd,vs0,r0,dd⟩:=aas I2.hok e;cases r0;refine⟨rs,c,dd,λh' dd' hs=>⟨.ref s.heap.objs.size,_,?_,rfl,q2⟩⟩;have hz:(m8 [] ι).length<=aw:=by
  have h1:=vB ι [];rw[yb] at h1;rw[sizeLine_eq];lia
 have he:∃q,h'.get? s.heap.objs.size=some q:=let⟨q,_,_,hq,_⟩:=dd';⟨q,hq⟩
 exact uO I2 (by rw[e];exact hJ) hs he<|Wk hz hd (rk.merge .nil) dd'
structure M2 (X:Cx)(o:Expr)(m:Str)(apos:Pos)(e f:Expr)(η:Pos):Prop where
 base:gE o m X.env (eval o X.env)=eval o X.env
 few:((ki η (ax [e,f] X.env)).all (λx=>!x.1)&&(wx η (nV [] X.env)).all (λx=>x.1.isSome)
  && decide (([e,f]:List Expr).length+([]:List nX).length+(if([]:List nX).isEmpty then 0 else 1)<30))=true
 line:(apos.endLine==η.line)=true
 trees:ki η (ax [e,f] X.env)=[(false,eval e X.env),(false,eval f X.env)]
def IsD (K:bP)(H:Hp)(a:Addr):Prop:=(∃ι,Rd H a<|.dK ι)\/∃ι,Rd H a<|.dT (KTp K) ι
theorem abE (I:Inv X π σ H s)(d:IsD X.K H a):
  s.TypeIs (.ref a) "dict"/\(∀b,cx a=.ref b->∃ob,s.heap.get? b=some ob/\ob.dict=none)/\(a==eI)=false:=by
 rcases d with⟨ι,e⟩|⟨ι,e⟩
 ·obtain⟨_,hd,vs,_,dd⟩:=xm I.hok e;refine⟨dd.typeIs,λb q=>?_,hd⟩;cases q;refine Kd dd λob _ _ h1 h2 _=>?_;exact⟨ob,h1,h2.2.1⟩
 ·obtain⟨_,hd,xs,_,dd⟩:=vy (sV I) I.hok e;refine⟨dd.typeIs,λb q=>?_,hd⟩;cases q;refine Kd dd λob _ _ h1 h2 _=>?_;exact⟨ob,h1,h2.2.1⟩
section
end
section
end
section
end
section
end
section
end
section
variable {κ:Type}[DecidableEq κ]
end
end L2
namespace Hd
open PySem PySem.Spec PyProof.Rows L2
theorem bL (h:H p=none)(o:HO):aM H (upd H p o):=λb u q=>by
 rw[bu<|kJ q h];exact q
section
theorem bI (h:PE X e T)(k:∀σ H Q,T' σ H Q->T σ H Q):PE X e T':=λπ s σ H Q I q=>h π s σ H Q I<|k σ H Q q
def clA (t:TA):TA:=λσ H Q=>∃R,t σ H R/\∀xs H1,R xs H1->Q xs H1
theorem aaT (h:PA X es t):PA X es (clA t):=λpos π s σ H Q I ⟨R,hR,k⟩=>thn (h pos π s σ H R I hR) λ_ _ hE=>xq2 hE λvs H1 I1 r q=>⟨vs,H1,I1,r,k _ _ q⟩
def adY (t:TA):TE:=λσ H Q=>t σ H λxs H1=>xs.length<=aw/\∀p H',aM H1 H'->H' p=some (.tup xs)->Q (.ref p) H'
theorem Qa (h:PA X es t):PE X (.Tuple es x1 pos) (adY t):=
 bI (aa8<|aaT h) λ_ _ _ q=>⟨_,q,λ_ _ ⟨z,k⟩=>⟨z,λp hp=>k p _ (bL hp _) aV⟩⟩
end
abbrev cU (X:Cx)(N':List Str)(scope:zh)(cl:List (Str×Addr))(C:Addr)(sE:bq)(HE:Hp)(fp:List Addr)(π:Zl):Cx:=
 { X with N:=N',s₀:=sE,H₀:=HE,env:=compEnvC scope cl C X.env,outer:=X.stack,ex:=fp,fn:=λ_=>false,pn:=X.pn++π,xe:=λ_ _=>False }
structure CSc (sc scope:zh)(caps:List Str):Prop where
 kind:scope.kind=.function
 nocell:∀y∈scope.names,y.2≠.cell
 loc:∀y∈scope.names,y.2=.local->scope.names.lookup y.1=some .local
 free:∀y∈scope.names,y.2=.free->sc.names.lookup y.1=some .cell\/sc.names.lookup y.1=some .free
 caps:∀x∈caps,scope.names.lookup x=some .free/\(sc.names.lookup x=some .cell\/sc.names.lookup x=some .free)
theorem mem_of_lookup:∀{l:List (Str×β)} {x:Str} {k:β},l.lookup x=some k->(x,k)∈l
 |[],_,_,h=>by simp at h
 |(n,k')::r,x,k,h=>by
  rw[eM] at h;split at h
  ·rename_i e;have e':x=n:=by simpa using e
   cases h;rw[e'];exact ah
  ·exact af _<|mem_of_lookup h
theorem xY {env:Env}:∀{names:List (Str×wm)} {x:Str},names.lookup x=some .free->
  (names.map λ(n,k)=>if(k==gL&&env.scope.kind==.function&&env.kindOf n==some .cell) then(n,l9) else(n,k)).lookup x=some .cell ∨
  (names.map λ(n,k)=>if(k==gL&&env.scope.kind==.function&&env.kindOf n==some .cell) then(n,l9) else(n,k)).lookup x=some .free
 |[],_,h=>by simp at h
 |(n,k)::r,x,h=>by
  have ih:=@xY env r x;show AB x ((if(k==gL&&env.scope.kind==.function&&env.kindOf n==some .cell)=true then(n,l9) else(n,k))::_)=_\/AB x ((if(k==gL&&env.scope.kind==.function&&env.kindOf n==some .cell)=true then(n,l9) else(n,k))::_)=_;cases hx:x==n with
  |true=>
   simp only[eM,hx] at h;cases h;by_cases hc:(gL==gL&&env.scope.kind==.function&&env.kindOf n==some .cell)=true
   ·rw[if_pos hc];simp only[eM,hx];exact .inl trivial
   ·rw[if_neg hc];simp only[eM,hx];exact .inr trivial
  |false=>
   simp only[eM,hx] at h;by_cases hc:(k==gL&&env.scope.kind==.function&&env.kindOf n==some .cell)=true
   ·rw[if_pos hc];simp only[eM,hx];exact ih h
   ·rw[if_neg hc];simp only[eM,hx];exact ih h
theorem De {env:Env}:∀{names:List (Str×wm)} {x:Str},(∀y∈names,y.2≠.cell)->
  ((names.map λ(n,k)=>if(k==gL&&env.scope.kind==.function&&env.kindOf n==some .cell) then(n,l9) else(n,k)).lookup x=some .cell ∨
  (names.map λ(n,k)=>if(k==gL&&env.scope.kind==.function&&env.kindOf n==some .cell) then(n,l9) else(n,k)).lookup x=some .free)->names.lookup x=some .free
 |[],_,_,h=>by simp at h
 |(n,k)::r,x,hn,h=>by
  have ih:=@De env r x λy hy=>hn y<|af _ hy;have h':AB x ((if(k==gL&&env.scope.kind==.function&&env.kindOf n==some .cell)=true then(n,l9) else(n,k))::_)=some .cell\/AB x ((if(k==gL&&env.scope.kind==.function&&env.kindOf n==some .cell)=true then(n,l9) else(n,k))::_)=some .free:=h;have hk:k≠.cell:=hn (n,k) ah;by_cases hc:(k==gL&&env.scope.kind==.function&&env.kindOf n==some .cell)=true
  ·rw[if_pos hc] at h';have kf:k=.free:=by
    simp only[qB,beq_iff_eq] at hc;exact hc.1.1
   subst kf;cases hx:x==n with
   |true=>simp only[eM,hx]
   |false=>
    simp only[eM,hx] at h' ⊢;exact ih h'
  ·rw[if_neg hc] at h';cases hx:x==n with
   |true=>
    simp only[eM,hx] at h' ⊢;rcases h' with z|z
    ·exact absurd (cE z) hk
    ·exact z
   |false=>
    simp only[eM,hx] at h' ⊢;exact ih h'
theorem vZ:∀(names:List (Str×wm)) (acc:List (Str×Addr)),(∀y∈names,y.2=.free->∃c,env.cells.lookup y.1=some c)->
  ∃cl,(forIn names acc λ(y:Str×wm) (cs:List (Str×Addr))=>(if y.2==.free then do let c←cellOf env y.1;pure (sj ((y.1,c)::cs)) else pure (sj cs):Sem (ForInStep<|List<|Str×Addr)))=pure cl/\
   (∀x c,cl.lookup x=some c->acc.lookup x=some c\/env.cells.lookup x=some c)/\(∀x c,acc.lookup x=some c->∃c',cl.lookup x=some c')/\∀y∈names,y.2=.free->∃c,cl.lookup y.1=some c
 |[],acc,_=>⟨acc,rfl,λ_ _ e=>.inl e,λ_ c e=>⟨c,e⟩,λ_ z=>nomatch z⟩
 |(n,k)::r,acc,h=>by
  have hr:∀y∈r,y.2=.free->∃c,env.cells.lookup y.1=some c:=λy hy=>h y<|af _ hy;by_cases hk:(k==gL)=true
  ·obtain⟨c,hc⟩:=h (n,k) ah (by simpa using hk);refine gH (vZ r ((n,c)::acc) hr) λcl e h1 h2 h3=>?_;refine⟨cl,?_,λx d q=>?_,λx d q=>?_,λy hy q=>?_⟩
   ·have ec:cellOf env n=pure c:=by unfold cellOf;rw[show env.cells.lookup n=some c from hc]
    rw[o3];simp only[hk,if_true,ec,pure_bind];exact e
   ·rcases h1 x d q with z|z
    ·rw[eM] at z;split at z
     ·rename_i e1;have e1':x=n:=by simpa using e1
      cases z;rw[e1'];exact .inr hc
     ·exact .inl z
    ·exact .inr z
   ·by_cases e1:(x==n)=true
    ·exact h2 x c<|by rw[eM,e1]
    ·exact h2 x d (by rw[eM];simp only[Bool.not_eq_true] at e1;rw[e1];exact q)
   ·rcases a8.mp hy with z|z
    ·subst z;exact h2 n c (by rw[eM];simp)
    ·exact h3 y z q
  ·refine gH (vZ r acc hr) λcl e h1 h2 h3=>?_;refine⟨cl,?_,h1,h2,λy hy q=>?_⟩
   ·rw[o3];simp only[hk,if_false,pure_bind,f7];exact e
   ·rcases a8.mp hy with z|z
    ·subst z;exact absurd (show(k==gL)=true by simpa using q) hk
    ·exact h3 y z q
theorem zL (h:∀y∈scope.names,y.2=.free->∃c,env.cells.lookup y.1=some c):
  ∃cl,closureFor scope env=pure cl/\(∀x c,cl.lookup x=some c->env.cells.lookup x=some c)/\∀y∈scope.names,y.2=.free->∃c,cl.lookup y.1=some c:=by
 refine gH (vZ scope.names [] h) λcl e h1 _ h3=>?_;refine⟨cl,?_,λx c q=>(h1 x c q).elim (λz=>by simp at z) id,h3⟩;unfold closureFor;simp only[bind_pure];refine Eq.trans ?_ e;rfl
section
variable {X:Cx}{π:Zl}{σ:St}{HE:Hp}{sE:bq}{N':List Str}{scope sc:zh}{cl:List (Str×Addr)}{fp:List Addr}{caps:List Str}
theorem Z4 (I:Inv X π σ HE sE)(S:CSc sc scope caps)(hfp:∀b∈fp,uX X π HE b/\b<sE.heap.objs.size)
  (hc1:∀x c,cl.lookup x=some c->X.env.cells.lookup x=some c) (hc2:∀y∈scope.names,y.2=.free->∃c,cl.lookup y.1=some c):
  (cU X N' scope cl sE.heap.objs.size sE HE fp π).Ok where
 mod:=I.ok.mod
 kind:=S.kind
 glob:=I.ok.glob
 blt:=I.ok.blt
 above:=ay _
 inj:=λx y c h1 h2=>I.ok.inj x y c (hc1 x c h1)<|hc1 y c h2
 has:=λx h=>hc2 (x,.free) (mem_of_lookup<|De S.nocell h) rfl
 cab:=λx c h=>nomatch h
 hd:=I.ok.hd
 frames:=I.ok.frames
 stk:=.inl rfl
 exf:=λb hb=>⟨cK (hfp b hb).2,λx c h=>(hfp b hb).1.2.2.2.2.1 x c<|hc1 x c h⟩
 bs:=I.bs
 bsz:=iA I.ok.bsz I.sz
 noex:=λb o e hb=>by
  rcases(hfp b hb).1.2.2.2.1 with z|z
  ·exact I.ok.noex b o e z
  ·exact absurd (cm (aI e)<|iA I.ok.bsz z)<|ib _
 exfs:=λb hb hz=>by
  rcases a8.mp (I.Iw b hz) with z|z
  ·exact(hfp b hb).1.2.1 z
  ·exact(hfp b hb).1.2.2.1 z
 CP:=I.stack
 frf:=I.OD
theorem Tq {cap:List Nat}{h':Heap}(I:Inv X π σ HE sE)(S:CSc sc scope caps)(hsc:X.env.scope=sc)(hfp:∀b∈fp,uX X π HE b/\b<sE.heap.objs.size)
  (hc1:∀x c,cl.lookup x=some c->X.env.cells.lookup x=some c) (hc2:∀y∈scope.names,y.2=.free->∃c,cl.lookup y.1=some c)
  (hN:N'.drop k=caps) (hk:k<=N'.length) (hcap:kQ (λj x=>X.N[j]? = some x) cap caps) {m:Zp}
  (kp:∀b o,sE.heap.get? b=some o->h'.get? b=some o) (hns:h'.Ns sE.heap.objs.size m) (tk:Nat):
  Inv (cU X N' scope cl sE.heap.objs.size sE HE fp π) [] (dQ k none++cap.map λj=>(σ[j]?).join) HE { sE with heap:=h',toks:=tk } where
 ok:=Z4 I S hfp hc1 hc2
 os:=rfl
 bare:=I.bare
 base:=Un.kept kp
 loc:=by
  refine⟨m,hns,λi x v e1 e2 e3=>?_⟩;have hik:k<=i:=by
   by_cases z:k<=i
   ·exact z
   ·rw[cS (by simp;lia),gz] at e2;rw[if_pos<|by lia] at e2;cases e2
  obtain⟨j',rfl⟩:∃j',i=k+j':=⟨i-k,by lia⟩;rw[dc (by simp),gv,Nat.add_sub_cancel_left,bX] at e2;have hx:caps[j']? = some x:=by rw[← hN,sT];exact e1
  have:∀{l:List Nat} {l':List Str} {i:Nat},kQ (λj x=>X.N[j]? = some x) l l'->l'[i]? = some x->∃j,l[i]? = some j/\X.N[j]? = some x:=by
   intro l l' i p;induction p generalizing i with
   |nil=>intro z;simp at z
   |cons a _ ih=>
    intro z;cases i with
    |zero=>simp at z;subst z;exact⟨_,rfl,a⟩
    |succ i=>exact ih (by simpa using z)
  obtain⟨j,hj,hNj⟩:=this hcap hx;rw[hj] at e2;have e2':σ[j]? = some (some v):=by
   cases q:σ[j]? with
   |none=>rw[iq,q] at e2;cases e2
   |some o=>
    rw[iq,q] at e2
    have:o=some v:=cE e2
    rw[this]
  obtain⟨hxf,hxo⟩:=S.caps x<|nh hx;rw[← hsc] at hxo;obtain⟨m0,_,hl⟩:=I.loc;obtain⟨u,r,L⟩:=hl j x v hNj e2'<|hxo.elim (λz=>.inr<|.inl z) λz=>.inr<|.inr z;refine⟨u,r,.inr ⟨xY hxf,?_⟩⟩;rcases L with⟨z,_⟩|⟨_,c,hc,hcell⟩
  ·have z':X.env.scope.names.lookup x=some .local:=z;rcases hxo with q|q<;>rw[z'] at q<;>cases q
  ·obtain⟨c',hc'⟩:=hc2 (x,.free) (mem_of_lookup hxf) rfl;have e:=hc1 x c' hc';rw[hc] at e;cases e;obtain⟨o,ho,hd⟩:=hcell;exact⟨c,hc',o,kp c o ho,hd⟩
 cell:=λx c e=>by
  obtain⟨v,o,ho,hd⟩:=I.cell x c<|hc1 x c e;exact⟨v,o,kp c o ho,hd⟩
 free:=I.hok.fresh<|ay _
 freeC:=λx c e=>I.freeC x c<|hc1 x c e
 pin:=λp hp=>by
  rw[eR] at hp;refine zF (I.pin p hp) λe n ne nf d=>?_;refine⟨kp _ _ e,n,cK<|aI e,λz=>?_,d⟩;rcases a8.mp (I.Iw p.1 z) with q|q
  ·exact ne q
  ·exact nf q
 hok:=I.hok.kept kp
 len:=by
  show(dQ k none++cap.map λj=>(σ[j]?).join).length=N'.length
  have:=hcap.length
  rw[← hN,nN] at this
  simp
  lia
theorem comp_back (I:Inv X π σ HE sE)(hfp:∀b∈fp,uX X π HE b/\b<sE.heap.objs.size)
  (I':Inv (cU X N' scope cl sE.heap.objs.size sE HE fp π) p' σ' H' s'):Inv X π σ H' s':=
 I.call' (ch:=fp) I'.os I'.base I'.hok I'.bare λb hb=>⟨(hfp b hb).1.2.2.2.1,(hfp b hb).1.2.1,(hfp b hb).1.2.2.2.2.1,(hfp b hb).1.2.2.2.2.2⟩
end
theorem K1 (I:Inv X π σ HE sE)(I':Inv X π σ' H' s')(hn:H' sE.heap.objs.size=none)
  (hs:kx sE.heap.objs.size s'.heap h'):Inv X π σ' H' { s' with heap:=h' }:=by
 refine I'.turned (t':=s'.toks) (λb o hb e=>(hs.2 b hb).trans e) hn (qh I.lt) (.inr I.sz) (λx c e z=>?_) λp hp z=>?_
 ·obtain⟨v,q⟩:=I.cell x c e;exact absurd q.lt (by rw[z];exact ib _)
 ·exact absurd (aI (I.pin p hp).1) (by rw[z];exact ib _)
def Rr (X:Cx)(ifs:List Expr)(t:TT):Prop:=
 ∀(π:Zl) (s:bq) (σ:St) (H:Hp) (Q:Bool->Hp->Prop),Inv X π σ H s->t σ H Q->
  bt (dr X.prog X.w) X.A (forIn ifs true λc r=>if r=true then do let ok←isTrue c X.env (eval c X.env);pure (sj ok) else pure (sj r)) (TP X π σ Q) X.xe s
def aeQ:TT:=λ_ H Q=>Q true H
theorem ZZ:Rr X [] aeQ:=λ_ _ _ H _ I q=>wpAny_tests_nil ⟨H,I,q⟩
theorem Xq (h:PT X c t):Rr X [c] t:=λπ s σ H Q I q=>wpAny_tests_one<|h π s σ H Q I q
noncomputable def cSt (k:Nat)(cap:List Nat)(σ:St):St:=dQ k none++cap.map λj=>(σ[j]?).join
def adV (J:It)(k:Nat)(cap:List Nat)(g:TG)(tt:TT)(te:TE)(σ:St)(H1:Hp)(l:Addr)(Q:VK):Prop:=
 ∃W:Nat->Nat->List V->Hp->Prop,(∃m,W 0 m []<|upd H1 l<|.lst [])/\∀i m ys H,W i m ys H->
  (J.stop i H/\Q (.ref l) H)\/(J.go i H/\∀x H',J.yld i H x H'->g x (cSt k cap σ) H' λσ2 H3=>σ2.drop k=(cSt k cap σ).drop k/\tt σ2 H3 λb H4=>
   if b=true then te σ2 H4 λy H5=>H5 l=some (.lst ys)/\ys.length<aw/\∃m',m'<m/\W (i+1) m' (ys++[y]) (upd H5 l<|.lst<|ys++[y])
   else ∃m',m'<m/\W (i+1) m' ys H4)
def Q5 (k:Nat)(cap:List Nat)(wi:TI)(g:TG)(tt:TT)(te:TE):TE:=λσ H Q=>wi σ H λJ H1=>∀l,H1 l=none->adV J k cap g tt te σ H1 l Q
section
theorem JN (hcalm:X.calm=true)(S:CSc sc scope caps)(hsc:X.env.scope=sc)(hN:N'.drop k=caps)(hk:k<=N'.length)(hcap:kQ (λj x=>X.N[j]? = some x) cap caps)
  (hi:PI X tg iter wi) (hg:∀cl C sE HE fp π,PG (cU X N' scope cl C sE HE fp π) tg g) (ht:∀cl C sE HE fp π,Rr (cU X N' scope cl C sE HE fp π) ifs tt) (he:∀cl C sE HE fp π,PE (cU X N' scope cl C sE HE fp π) elt te)
  (I:Inv X π σ H s) (h:Q5 k cap wi g tt te σ H Q) {cl:List (Str×Addr)} (hc1:∀x c,cl.lookup x=some c->X.env.cells.lookup x=some c) (hc2:∀y∈scope.names,y.2=.free->∃c,cl.lookup y.1=some c)
  {RR:aS->Addr->Result->bq->Prop}
  (hRR:∀l sE HE H' s' m,Inv X π σ HE sE->Inv X π σ H' s'->H' sE.heap.objs.size=none->s'.heap.Ns sE.heap.objs.size m->Q (.ref l) H'->RR (.ref l) sE.heap.objs.size (.ok .next) s'):
  bt (dr X.prog X.w) X.A (eval iter X.env) (λxv s₁=>bt (dr X.prog X.w) X.A (BH xv) (λit s₂=>bt (dr X.prog X.w) X.A (newList []) (λacc s₃=>
   bt (dr X.prog X.w) X.A (newFunctionEnv scope X.env.globals cl [] X.env.qual none .none<|some X.env) (λcenv s₄=>
    A3 (dr X.prog X.w) X.A (.compStart (.ListComp elt [⟨tg,iter,ifs,0⟩] scope pos) 0 it acc { cenv with scope:=relabel scope X.env }) (RR acc cenv.locals) s₄) X.xe s₃) X.xe s₂) X.xe s₁) X.xe s:=by
 refine thn (hi π s σ H _ I h) λv s1 h1=>thn h1 λitv s2 h2=>?_;obtain⟨it,fp,tn,J,H1,e,I1,T,st1,f1,q1⟩:=h2;subst e;refine wpAny_newList ?_;have hfree:H1 s2.heap.objs.size=none:=I1.hok.fresh<|ay _;have fpl:∀b∈fp,b<s2.heap.objs.size:=λb hb=>by
  obtain⟨o,e,_⟩:=T.obj _ _ st1 b hb;exact aI e
 generalize hE:({ s2 with heap:=s2.heap.push { cls:=.type "list",data:=.seq ([]:List aS).toArray } }:bq)=sE;have k2:∀b o,s2.heap.get? b=some o->sE.heap.get? b=some o:=λb o e=>by rw[← hE];exact ai _ e
 have szE:s2.heap.objs.size<sE.heap.objs.size:=by rw[← hE];show _<(s2.heap.push _).objs.size;rw[kc];exact Nat.lt_succ_self _
 have IE:Inv X π σ (upd H1 s2.heap.objs.size<|.lst []) sE:=by
  rw[← hE];refine I1.laid (t':=s2.toks) (λb o e=>ai _ e) (ay _) ?_;exact⟨eT _,[],0,.nil,aE _ rfl⟩
 have fE:∀b∈fp,uX X π (upd H1 s2.heap.objs.size<|.lst []) b/\b<sE.heap.objs.size:=λb hb=>
  ⟨⟨by rw[bu<|cK<|fpl b hb];exact(f1 b hb).1,(f1 b hb).2⟩,Nat.lt_trans (fpl b hb) szE⟩
 obtain⟨W,⟨m0,w0⟩,turn⟩:=q1 _ hfree;generalize hl:s2.heap.objs.size=l at *;clear hl;generalize hHE:upd H1 l (.lst [])=HE at *;refine wpAny_newFunctionEnv S.nocell (by intro y hy;simp at hy) (λh₁ hns₁ hsb₁=>?_) S.kind;have kE:∀b o,sE.heap.get? b=some o->h₁.get? b=some o:=λb o e=>(hsb₁.2 b<|cK<|aI e).trans<|ai _ e;have I0:=Tq (k:=k) (cap:=cap) (N':=N') IE S hsc fE hc1 hc2 hN hk hcap kE hns₁<|sE.toks+([]:List (Str×aS)).length;have st0:tn 0 h₁:=T.keep _ _ _ st1 λb hb o e=>kE b o<|k2 b o e;have hX:∀{H':Hp},(∀b∈fp,H' b=none)->∀b∈fp,uX (cU X N' scope cl sE.heap.objs.size sE HE fp π) [] H' b:=λhn b hb=>
  ⟨hn b hb,(I0.ok.exf b hb).1,I0.ok.exfs b hb,.inl hb,(I0.ok.exf b hb).2,λp hp=>by
   rw[eR] at hp;exact(fE b hb).1.2.2.2.2.2 p hp⟩
 have loop:∀s₃:bq,s₃={ sE with heap:=h₁,toks:=sE.toks+([]:List (Str×aS)).length }->
   A3 (dr X.prog X.w) X.A (.compLoop (.ListComp elt [⟨tg,iter,ifs,0⟩] scope pos) 0 (.ref it) (.ref l)<|compEnvC scope cl sE.heap.objs.size X.env) (RR (.ref l) sE.heap.objs.size) s₃:=by
  rintro s₃ rfl;refine codeAny_loop rfl (λn s'=>∃i ys H',Inv (cU X N' scope cl sE.heap.objs.size sE HE fp π) [] (cSt k cap σ) H' s'/\tn i s'.heap/\(∀b∈fp,H' b=none)/\W i n ys H') (λn s3 hI=>?_) m0
   ⟨0,[],HE,I0,st0,λb hb=>(fE b hb).1.1,w0⟩
  refine sU hI λi ys H3 I3 st3 fr3 w3=>?_;show bt _ X.A ((compTurn (.ListComp elt [⟨tg,iter,ifs,0⟩] scope pos) 0 (.ref it) (.ref l)<|compEnvC scope cl sE.heap.objs.size X.env).onRaise (λx=>do noteFrame x (compEnvC scope cl sE.heap.objs.size X.env);theTreesLotGoes x)) _ _ s3;refine wpAny_noted ?_;rw[compTurn_list];refine ae<|rS<|ae ?_;rcases turn i n ys H3 w3 with⟨stop,qn⟩|⟨go,step⟩
  ·refine ko (T.done (cU X N' scope cl sE.heap.objs.size sE HE fp π) rfl rfl rfl hcalm i [] s3 _ H3 (λ_ _=>False) I3 (hX fr3) st3 stop) (λr s4 ⟨hr,I4⟩=>?_) λ_ _ z=>z.elim;subst hr;obtain⟨m4,hn4,_⟩:=I4.loc;exact ag<|hRR l sE HE H3 s4 m4 IE (comp_back IE fE I4) I4.free hn4 qn
  ·refine ko (T.item (cU X N' scope cl sE.heap.objs.size sE HE fp π) rfl rfl rfl hcalm i [] s3 _ H3 (λ_ _=>False) I3 (hX fr3) st3 go) (λr s4 ⟨u,hr,h4⟩=>?_) λ_ _ z=>z.elim;subst hr;refine ae<|ko h4 (λ_ s5 ⟨x,H5,I5,r5,y5,st5,fr5⟩=>?_) λ_ _ z=>z.elim;have I5':=I5.pinned (hX fr5)<|T.obj _ _ st5;refine ae<|ko (hg _ _ _ _ _ _ _ s5 _ H5 x u _ I5' r5<|step x H5 y5) (λ_ s6 ⟨σ6,H6,I6,q6⟩=>?_) λ_ _ z=>z.elim;obtain⟨d6,q6⟩:=q6;have weak:∀{H7 s7},Inv (cU X N' scope cl sE.heap.objs.size sE HE fp π) ([]++vK fp s5.heap) σ6 H7 s7->Inv (cU X N' scope cl sE.heap.objs.size sE HE fp π) ([]++vK fp s5.heap) (cSt k cap σ) H7 s7:=λ{H7 s7} I7=>by
    refine I7.weak (I0.len.trans I7.len.symm) λj v e=>?_;by_cases z:k<=j
    ·obtain⟨j',rfl⟩:∃j',j=k+j':=⟨j-k,by lia⟩;rw[← sT] at e ⊢;rw[d6];exact e
    ·unfold cSt at e;rw[cS (by simp;lia),gz,if_pos<|by lia] at e;cases e
   have again:∀{H7:Hp} {s7:bq} {zs:List V},Inv (cU X N' scope cl sE.heap.objs.size sE HE fp π) ([]++vK fp s5.heap) σ6 H7 s7->(∃m',m'<n/\W (i+1) m' zs H7)->
     ∃m,m<n/\∃i ys H',Inv (cU X N' scope cl sE.heap.objs.size sE HE fp π) [] (cSt k cap σ) H' s7/\tn i s7.heap/\(∀b∈fp,H' b=none)/\W i m ys H':=λ{H7 s7 zs} I7 ⟨m',hm,w7⟩=>by
    refine⟨m',hm,i+1,zs,H7,(weak I7).xZ,T.keep _ _ _ st5 λb hb o e=>(I7.pin (b,o)<|cp _<|cp _<|rF hb e).1,λb hb=>?_,w7⟩;obtain⟨o,e,d⟩:=T.obj _ _ st5 b hb;exact(I7.pin (b,o)<|cp _<|cp _<|rF hb e).2.1
   refine ae<|ko (ht _ _ _ _ _ _ _ s6 σ6 H6 _ I6 q6) (λb s7 ⟨H7,I7,q7⟩=>?_) λ_ _ z=>z.elim;cases b with
   |false=>
    rw[if_neg be] at q7;exact ag ⟨rfl,again I7 q7⟩
   |true=>
    rw[if_pos rfl] at q7;refine ae<|ae<|ko (he _ _ _ _ _ _ _ s7 σ6 H7 _ I7 q7) (λyv s8 ⟨y,H8,I8,r8,hl8,hz8,q8⟩=>?_) λ_ _ z=>z.elim;refine ae (ko (yH (X:=cU X N' scope cl sE.heap.objs.size sE HE fp π) _ s8 σ6 H8 (.ref l) [y] (.ref l) [yv] (λ_ H9=>H9=upd H8 l (.lst<|ys++[y])) I8 rfl (.cons r8 .nil) ⟨l,ys,y,rfl,rfl,hl8,hz8,rfl⟩)
     (λ_ s9 ⟨_,H9,I9,_,e9⟩=>?_) λ_ _ z=>z.elim)
    subst e9;exact ag<|ag ⟨rfl,again I9 q8⟩
 exact codeAny_compStart_list (loop _ rfl)<|T.self _ 0 _ _ _ st0<|loop _ rfl
theorem aam (sc:zh)(N' caps:List Str)(k:Nat)(cap:List Nat)(hcalm:X.calm=true)(S:CSc sc scope caps)(hcap:kQ (λj x=>X.N[j]? = some x) cap caps)
  (hi:PI X tg iter wi) (hg:∀cl C sE HE fp π,PG (cU X N' scope cl C sE HE fp π) tg g) (ht:∀cl C sE HE fp π,Rr (cU X N' scope cl C sE HE fp π) ifs tt) (he:∀cl C sE HE fp π,PE (cU X N' scope cl C sE HE fp π) elt te)
  (hsc:X.env.scope=sc:=by rfl) (hN:N'.drop k=caps:=by rfl) (hk:k<=N'.length:=by decide) (hs:∀x,gy iter X.env x=pure x:=by intro _;rfl):
  PE X (.ListComp elt [⟨tg,iter,ifs,0⟩] scope pos) (Q5 k cap wi g tt te):=by
 intro π s σ H Q I h;obtain⟨cl,hcl,hc1,hc2⟩:=zL (scope:=scope) (env:=X.env) λy hy e=>I.ok.has y.1 (by
  have z:=S.free y hy e;rw[← hsc] at z;exact z)
 rw[eval_ListComp];refine uk (use:=none) rfl hs hcl S.kind S.loc<|JN (RR:=λacc C=>compPost (dr X.prog X.w) X.A X.xe none (EP X π σ Q) acc C) hcalm S hsc hN hk hcap hi hg ht he I h hc1 hc2 ?_;intro l sE HE H' s' m IE I' hn hns q;exact⟨m,hns,λh' hs'=>⟨.ref l,H',K1 IE I' hn hs',rfl,q⟩⟩
theorem Ce (sc:zh)(N' caps:List Str)(k:Nat)(cap:List Nat)(hnd:X.N.Nodup)(hi':X.N[i]? = some y)(hy:Loc X.env.scope y)(hcalm:X.calm=true)(S:CSc sc scope caps)(hcap:kQ (λj x=>X.N[j]? = some x) cap caps)
  (hi:PI X tg iter wi) (hg:∀cl C sE HE fp π,PG (cU X N' scope cl C sE HE fp π) tg g) (ht:∀cl C sE HE fp π,Rr (cU X N' scope cl C sE HE fp π) ifs tt) (he:∀cl C sE HE fp π,PE (cU X N' scope cl C sE HE fp π) elt te)
  (υ:gN (.ListComp elt [⟨tg,iter,ifs,0⟩] scope pos) (some<|.Name y py) spos.line X.env=pure true:=by rfl)
  (hsc:X.env.scope=sc:=by rfl) (hN:N'.drop k=caps:=by rfl) (hk:k<=N'.length:=by decide) (hs:∀x,gy iter X.env x=pure x:=by intro _;rfl)
  (hf:X.fn y=true\/X.env.scope.names.lookup y=some .local:=by first|exact .inl rfl|exact .inr rfl|assumption):
  PS X (.Assign [.Name y py] (.ListComp elt [⟨tg,iter,ifs,0⟩] scope pos) spos) (TQ (Q5 k cap wi g tt te)<|wy i):=by
 intro π s σ H D I h;obtain⟨cl,hcl,hc1,hc2⟩:=zL (scope:=scope) (env:=X.env) λy hy e=>I.ok.has y.1 (by
  have z:=S.free y hy e;rw[← hsc] at z;exact z)
 rw[exec_Assign_Name_used _ _ _ _ υ];refine ae<|rS<|ae ?_;show bt _ X.A (do let _←comprehension (.ListComp elt [⟨tg,iter,ifs,0⟩] scope pos) scope X.env _ (newList []) false (eval iter X.env) (some<|tw (.Name y py) X.env)) _ _ s;refine ae (ko (uk (use:=some<|tw (.Name y py) X.env) (Q:=λ_ s'=>SP X π D .next s') rfl hs hcl S.kind S.loc
  (JN (RR:=λacc C=>compPost (dr X.prog X.w) X.A X.xe (some<|tw (.Name y py) X.env) (λ_ s'=>SP X π D .next s') acc C) hcalm S hsc hN hk hcap hi hg ht he I h hc1 hc2 ?_)) (λ_ s' hq=>ag<|ag hq) λ_ _ e=>e)
 intro l sE HE H' s' m IE I' hn hns q;show bt _ X.A (tw (.Name y py) X.env<|.ref l) _ _ _;refine wpAny_assign_Name<|Eu I' hnd hi' hy (v:=.ref l) rfl (λs2 I2 hb=>?_) hf;obtain⟨a,hsb,ha⟩:=hb;have hne:sE.heap.objs.size≠a:=λz=>by
  rcases ha with e|e
  ·exact absurd IE.lt (by rw[← e,← z];exact ib _)
  ·obtain⟨v,q⟩:=IE.cell y a e;exact absurd q.lt (by rw[z];exact ib _)
 exact⟨m,hns.sameBut hsb hne,λh' hs'=>⟨_,H',K1 IE I2 hn hs',q⟩⟩
end
inductive TyK (K:bP)(H:Hp):V->aS->Prop where
 |of {v:V} {t:aS}:yC K H v t->TyK K H v t
 |tup {a:Addr} {xs:List V}:SqT K H a xs->TyK K H (.ref a) (.type "tuple")
 |lst {a:Addr} {xs:List V}:SqL K H a xs->TyK K H (.ref a) (.type "list")
section
def aes (K:bP):List V->Hp->VK->Prop:=λxs H Q=>∃x c t cv b,xs=[x,c]/\adG c=some cv/\TyK K H x t/\Bn K t cv=some b/\Q (.bl b) H
theorem Rw:iQ X (.builtin "isinstance") (aes X.K):=by
 intro π s σ H xs us Q I r h;obtain⟨x,c,t,cv,b,rfl,rc,ty,e,q⟩:=h;obtain⟨u,w',rfl,ru,rw'⟩:=vals2 r;have z:=Vi rc rw';subst z;cases ty with
 |of ty=>exact RJ I ru ty e λtk=>⟨.bl b,H,I.tok _,rfl,q⟩
 | @tup a xs hs=>
  cases(show u=cx a from ru);obtain⟨χ,_,⟨o,h1,h2,_⟩,_⟩:=I.tuple hs;exact md W.kitx_tuple I.kIn ⟨o,h1,h2⟩ e (λz=>nomatch z) λtk=>⟨.bl b,H,I.tok _,rfl,q⟩
 | @lst a xs hs=>
  cases(show u=cx a from ru);obtain⟨χ,_,⟨o,n,h1,h2,_⟩,_⟩:=I.list hs;exact md W.kitx_list I.kIn ⟨o,h1,h2⟩ e (λz=>nomatch z) λtk=>⟨.bl b,H,I.tok _,rfl,q⟩
end
theorem Rd.mono (h:Rd H a u)(g:aM H H'):Rd H' a u:=h.elim (λe=>.inl<|g _ _ e) λ⟨o,e⟩=>.inr ⟨o,g _ _ e⟩
theorem KH {K:bP}{H H':Hp}{a:Addr}{xs:List V}(h:SqL K H a xs)(g:aM H H'):SqL K H' a xs:=h.elim (λe=>.inl<|Rd.mono e g) .inr
def SameBut (l:Addr)(H H':Hp):Prop:=∀b u,b≠l->H b=some u->H' b=some u
theorem adL (g:aM H H'):SameBut l H H':=λb u _ e=>g b u e
theorem abr:SameBut l H (upd H l o):=λb u n e=>by rw[bu n];exact e
theorem SameBut.trans (a:SameBut l H H1)(b:SameBut l H1 H2):SameBut l H H2:=λc u n e=>b c u n<|a c u n e
theorem Z5 (g:SameBut l H H')(n:H l=none):aM H H':=λb u e=>g b u (λz=>by rw[z,n] at e;cases e) e
section
end
section
end
section
def rJoin (K:bP):V->List V->Hp->VK->Prop:=λx vs H Q=>∃z l zs,x=.str z/\vs=[.ref l]/\SqL K H l (zs.map V.str)/\BM z zs=true/\Q (.str<|AV z zs) H
theorem Jo:∀{zs:List Str} {us:List aS},Vals (zs.map V.str) us->∃l:List (Str×Tok),us=strValues l/\l.map (·.1)=zs
 |[],_,.nil=>⟨[],rfl,rfl⟩
 |z::zs,_,.cons r t=>by
  obtain⟨tk,rfl⟩:=r;obtain⟨l,rfl,e⟩:=Jo t;exact⟨(z,tk)::l,rfl,by rw[ar,e]⟩
theorem Ye (K:bP)(hK:X.K=K:=by rfl):MtM X "str.join" (rJoin K):=by
 subst hK;intro π s σ H x vs v us Q I rx rv h;obtain⟨z,l,zs,rfl,rfl,hL,ok,q⟩:=h;obtain⟨t,rfl⟩:=rx;obtain⟨u,rfl,ru⟩:=rv.one;cases ru;obtain⟨χ,r,hp,_⟩:=I.list hL;obtain⟨ls,rfl,e⟩:=Jo r;exact SC.join hp.isList e ok λt' k=>⟨.str _,H,I.tok _,⟨t',rfl⟩,q⟩
end
end Hd
namespace F
open PySem PySem.Spec PyProof.Rows L2 Hd
inductive D where
 |non|bl (b:Bool)|int (i:Int)|str (x:Str)|exc (c:Str)
 |tup (xs:List D)|lst (xs:List D)
 |dct (ks:List Key) (vs:List D)|dcu (ks:List (List Kt)) (vs:List D)
  |dcf (ks:List (List Kt)) (vs:List D)
  |adr (a:Addr)
  |ins (c:Str) (ns:List Str) (vs:List D)
inductive Res (α:Type) where
 |ok (a:α)|exc (c:Str)|stuck
def Res.bind {α β:Type}(r:Res α)(f:α->Res β):Res β:=match r with
 | .ok a=>f a
 | .exc c=>.exc c
 | .stuck=>.stuck
@[simp] theorem Res.uJ (a:α)(f:α->Res β):(Res.ok a).bind f=f a:=rfl
@[simp] theorem Res.aeo (c:Str)(f:α->Res β):(Res.exc c:Res α).bind f=.exc c:=rfl
@[simp] theorem Res.acq (f:α->Res β):(Res.stuck:Res α).bind f=.stuck:=rfl
def ofO {α:Type}:Option α->Res α
 |some a=>.ok a
 |none=>.stuck
@[simp] theorem qT (a:α):ofO (some a)=.ok a:=rfl
@[simp] theorem ac6:ofO (none:Option α)=.stuck:=rfl
structure Gx where
 K:bP
 mg:Zp
abbrev gx (X:Cx):Gx:=⟨X.K,X.mg⟩
def afc (K:bP)(a:Addr)(xs:List V):Prop:=
 ∃(o:Obj) (χ:Array aS) (n:Nat),K.lookup a=some o/\o.cls=.type "list"/\o.dict=none/\o.data=.seq χ n/\χ.size<=aw/\Vals xs χ.toList
def LstAt (K:bP)(O:Zaa)(H:Hp)(a:Addr)(xs:List V):Prop:=(¬O a/\Rd H a (.lst xs))\/afc K a xs
mutual
inductive DV (G:Gx)(O:Zaa)(H:Hp):V->D->Prop where
 |non:DV G O H .non .non
 |bl (b:Bool):DV G O H (.bl b) (.bl b)
 |int (i:Int):DV G O H (.int i) (.int i)
 |str (x:Str):DV G O H (.str x) (.str x)
 |adr (a:Addr):DV G O H (.ref a) (.adr a)
 |ins {a C dx:Addr} {c:Str} {ι:List (Str×V)} {ns:List Str} {vs:List V} {ds:List D}:¬O a->G.mg c=some (.ref C)->H a=some (.ins C dx ι)->ι.map (·.1)=ns->ι.map (·.2)=vs->DVs G O H vs ds->DV G O H (.ref a) (.ins c ns ds)
 |exc {a C:Addr} {c:Str}:G.mg c=some (.ref C)->H a=some (.ext (aee a (.ref C)))->DV G O H (.ref a) (.exc c)
 |tup {a:Addr} {xs:List V} {ds:List D}:SqU G.K H a xs->DVs G O H xs ds->DV G O H (.ref a) (.tup ds)
 |lst {a:Addr} {xs:List V} {ds:List D}:LstAt G.K O H a xs->DVs G O H xs ds->DV G O H (.ref a) (.lst ds)
 |dct {a:Addr} {ι:List (Key×V)} {ks:List Key} {vs:List V} {ds:List D}:¬O a->Rd H a (.dK ι)->ι.map (·.1)=ks->ι.map (·.2)=vs->DVs G O H vs ds->DV G O H (.ref a) (.dct ks ds)
 |dcu {a:Addr} {ι:List (List Kt×V)} {ks:List (List Kt)} {vs:List V} {ds:List D}:¬O a->H a=some (.dT (KTp G.K) ι)->ι.map (·.1)=ks->ι.map (·.2)=vs->DVs G O H vs ds->DV G O H (.ref a) (.dcu ks ds)
 |dcf {a:Addr} {o:Obj} {ι:List (List Kt×V)} {ks:List (List Kt)} {vs:List V} {ds:List D}:H a=some (.frz o (.dT (KTp G.K) ι))->ι.map (·.1)=ks->ι.map (·.2)=vs->DVs G O H vs ds->DV G O H (.ref a) (.dcf ks ds)
inductive DVs (G:Gx)(O:Zaa)(H:Hp):List V->List D->Prop where
 |nil:DVs G O H [] []
 |cons {v:V} {vs:List V} {d:D} {ds:List D}:DV G O H v d->DVs G O H vs ds->DVs G O H (v::vs) (d::ds)
end
def OV (G:Gx)(O:Zaa)(H:Hp)(a:Addr):D->Prop
 | .lst ds=>∃xs,H a=some (.lst xs)/\DVs G O H xs ds
 | .dct ks ds=>∃ι vs,H a=some (.dK ι)/\ι.map (·.1)=ks/\ι.map (·.2)=vs/\DVs G O H vs ds
 | .dcu ks ds=>∃ι vs,H a=some (.dT (KTp G.K) ι)/\ι.map (·.1)=ks/\ι.map (·.2)=vs/\DVs G O H vs ds
 | .ins c ns ds=>∃C dx ι vs,G.mg c=some (.ref C)/\H a=some (.ins C dx ι)/\ι.map (·.1)=ns/\ι.map (·.2)=vs/\DVs G O H vs ds
 |_=>False
def DW (G:Gx)(O:Zaa)(H:Hp)(v:V)(d:D):Prop:=DV G O H v d\/∃a,v=.ref a/\O a/\OV G O H a d
inductive DWs (G:Gx)(O:Zaa)(H:Hp):List V->List D->Prop where
 |nil:DWs G O H [] []
 |cons {v:V} {vs:List V} {d:D} {ds:List D}:DW G O H v d->DWs G O H vs ds->DWs G O H (v::vs) (d::ds)
def fM (o:Option HO):Prop:=(∃xs,o=some (.lst xs))\/(∃k,o=some (.dK k))\/(∃k:(Addr->List V->Prop)×List (List Kt×V),o=some (.dT k.1 k.2))\/∃k:Addr×Addr×List (Str×V),o=some (.ins k.1 k.2.1 k.2.2)
def Kp (O:Zaa)(H H':Hp):Prop:=∀b o,H b=some o->¬O b->H' b=some o
theorem aaz (g:Kp O H H')(n:¬O a)(e:Rd H a u):Rd H' a u:=e.imp (λe=>g _ _ e n) λ⟨o,e⟩=>⟨o,g _ _ e n⟩
theorem adI (g:aM H H')(e:Rd H a u):Rd H' a u:=e.imp (g _ _) λ⟨o,e⟩=>⟨o,g _ _ e⟩
theorem aaD (e:Rd H a u)(z:H a=none):False:=by rcases e with e|⟨_,e⟩<;>(rw[z] at e;cases e)
theorem Kp.of (g:aM H H'):Kp O H H':=λb o e _=>g b o e
theorem rT {O:Zaa}{H:Hp}(m:∀b,O b->fM (H b)){a:Addr}{o:HO}(e:H a=some o)(n:¬fM (some o)):¬O a:=λz=>n<|e▸m a z
theorem QW:¬fM (some<|.tup xs):=by rintro(⟨_,e⟩|⟨_,e⟩|⟨_,e⟩|⟨_,e⟩)<;>cases e
theorem HQ:¬fM (some<|.frz o u):=by rintro(⟨_,e⟩|⟨_,e⟩|⟨_,e⟩|⟨_,e⟩)<;>cases e
theorem Nx:¬fM (some<|.ext φ):=by rintro(⟨_,e⟩|⟨_,e⟩|⟨_,e⟩|⟨_,e⟩)<;>cases e
theorem MP {K:bP}{O:Zaa}{H H':Hp}{a:Addr}{xs:List V}(m:∀b,O b->fM (H b))(g:Kp O H H')(h:SqT K H a xs):SqT K H' a xs:=by
 rcases h with(e|⟨o,e⟩)|h
 ·exact .inl<|.inl<|g a _ e<|rT m e QW
 ·exact .inl<|.inr ⟨o,g a _ e<|rT m e HQ⟩
 ·exact .inr h
theorem V5 {K:bP}{O:Zaa}{H H':Hp}{a:Addr}{xs:List V}(m:∀b,O b->fM (H b))(g:Kp O H H')(h:SqU K H a xs):SqU K H' a xs:=by
 rcases h with e|h
 ·exact .inl<|g a _ e<|rT m e QW
 ·exact .inr h
theorem TJ {K:bP}{H H':Hp}{a:Addr}{xs:List V}(h:SqU K H a xs)(g:aM H H'):SqU K H' a xs:=h.imp (g _ _) id
theorem uq {K:bP}{O:Zaa}{H H':Hp}{a:Addr}{xs:List V}(g:Kp O H H')(h:LstAt K O H a xs):LstAt K O H' a xs:=by
 rcases h with⟨n,e|⟨o,e⟩⟩|h
 ·exact .inl ⟨n,.inl<|g a _ e n⟩
 ·exact .inl ⟨n,.inr ⟨o,g a _ e n⟩⟩
 ·exact .inr h
theorem LstAt.sq {K:bP}{O:Zaa}{H:Hp}{a:Addr}{xs:List V}(h:LstAt K O H a xs):SqL K H a xs:=h.elim (λz=>.inl z.2) .inr
section
variable {G:Gx}{O O':Zaa}{H H':Hp}
mutual
theorem DV.kp (m:∀b,O b->fM (H b))(g:Kp O H H'):∀{v:V} {d:D},DV G O H v d->DV G O H' v d
 |_,_,.non=>.non
 |_,_,.bl b=>.bl b
 |_,_,.int i=>.int i
 |_,_,.str x=>.str x
 |_,_,.adr a=>.adr a
 |_,_,.exc h e=>.exc h<|g _ _ e<|rT m e Nx
 |_,_,.tup h hs=>.tup (V5 m g h)<|DVs.kp m g hs
 |_,_,.lst h hs=>.lst (uq g h)<|DVs.kp m g hs
 |_,_,.dct n e a b hs=>.dct n (aaz g n e) a b<|DVs.kp m g hs
 |_,_,.dcu n e a b hs=>.dcu n (g _ _ e n) a b<|DVs.kp m g hs
 |_,_,.dcf e a b hs=>.dcf (g _ _ e<|rT m e HQ) a b<|DVs.kp m g hs
 |_,_,.ins n c e a b hs=>.ins n c (g _ _ e n) a b<|DVs.kp m g hs
theorem DVs.kp (m:∀b,O b->fM (H b))(g:Kp O H H'):∀{vs:List V} {ds:List D},DVs G O H vs ds->DVs G O H' vs ds
 |_,_,.nil=>.nil
 |_,_,.cons h hs=>.cons (DV.kp m g h)<|DVs.kp m g hs
end
mutual
theorem DV.mono (g:aM H H'):∀{v:V} {d:D},DV G O H v d->DV G O H' v d
 |_,_,.non=>.non
 |_,_,.bl b=>.bl b
 |_,_,.int i=>.int i
 |_,_,.str x=>.str x
 |_,_,.adr a=>.adr a
 |_,_,.exc h e=>.exc h<|g _ _ e
 |_,_,.tup h hs=>.tup (TJ h g)<|DVs.mono g hs
 |_,_,.lst h hs=>.lst (uq (.of g) h)<|DVs.mono g hs
 |_,_,.dct n e a b hs=>.dct n (adI g e) a b<|DVs.mono g hs
 |_,_,.dcu n e a b hs=>.dcu n (g _ _ e) a b<|DVs.mono g hs
 |_,_,.dcf e a b hs=>.dcf (g _ _ e) a b<|DVs.mono g hs
 |_,_,.ins n c e a b hs=>.ins n c (g _ _ e) a b<|DVs.mono g hs
theorem DVs.mono (g:aM H H'):∀{vs:List V} {ds:List D},DVs G O H vs ds->DVs G O H' vs ds
 |_,_,.nil=>.nil
 |_,_,.cons h hs=>.cons (DV.mono g h)<|DVs.mono g hs
end
mutual
theorem DV.bV (s:∀b,O' b->O b\/H b=none):∀{v:V} {d:D},DV G O H v d->DV G O' H v d
 |_,_,.non=>.non
 |_,_,.bl b=>.bl b
 |_,_,.int i=>.int i
 |_,_,.str x=>.str x
 |_,_,.adr a=>.adr a
 |_,_,.exc h e=>.exc h e
 |_,_,.tup h hs=>.tup h<|DVs.bV s hs
 |_,_,.lst h hs=>.lst (h.elim (λz=>.inl ⟨λo=>(s _ o).elim z.1 λn=>by rcases z.2 with e|⟨_,e⟩<;>(rw[n] at e;cases e),z.2⟩) .inr) (DVs.bV s hs)
 |_,_,.dct n e a b hs=>.dct (λo=>(s _ o).elim n λz=>aaD e z) e a b<|DVs.bV s hs
 |_,_,.dcu n e a b hs=>.dcu (λo=>(s _ o).elim n λz=>by rw[z] at e;cases e) e a b (DVs.bV s hs)
 |_,_,.dcf e a b hs=>.dcf e a b<|DVs.bV s hs
 |_,_,.ins n c e a b hs=>.ins (λo=>(s _ o).elim n λz=>by rw[z] at e;cases e) c e a b (DVs.bV s hs)
theorem DVs.bV (s:∀b,O' b->O b\/H b=none):∀{vs:List V} {ds:List D},DVs G O H vs ds->DVs G O' H vs ds
 |_,_,.nil=>.nil
 |_,_,.cons h hs=>.cons (DV.bV s h)<|DVs.bV s hs
end
def Ev (O:Zaa)(H:Hp)(O':Zaa)(H':Hp):Prop:=(∀b,O' b->O b\/H b=none)/\Kp O H H'
mutual
theorem DV.go (m:∀b,O b->fM (H b))(g:Ev O H O' H'):∀{v:V} {d:D},DV G O H v d->DV G O' H' v d
 |_,_,.non=>.non
 |_,_,.bl b=>.bl b
 |_,_,.int i=>.int i
 |_,_,.str x=>.str x
 |_,_,.adr a=>.adr a
 |_,_,.exc h e=>.exc h<|g.2 _ _ e<|rT m e Nx
 |_,_,.tup h hs=>.tup (V5 m g.2 h)<|DVs.go m g hs
 |_,_,.lst h hs=>.lst (h.elim (λz=>.inl ⟨λo=>(g.1 _ o).elim z.1 λn=>by rcases z.2 with e|⟨_,e⟩<;>(rw[n] at e;cases e),(uq g.2 (.inl z):LstAt G.K O H' _ _).elim (λy=>y.2) λy=>z.2.elim (λe=>.inl<|g.2 _ _ e z.1) λ⟨o,e⟩=>.inr ⟨o,g.2 _ _ e z.1⟩⟩) .inr) (DVs.go m g hs)
 |_,_,.dct n e a b hs=>.dct (λo=>(g.1 _ o).elim n λz=>aaD e z) (aaz g.2 n e) a b<|DVs.go m g hs
 |_,_,.dcu n e a b hs=>.dcu (λo=>(g.1 _ o).elim n λz=>by rw[z] at e;cases e) (g.2 _ _ e n) a b (DVs.go m g hs)
 |_,_,.dcf e a b hs=>.dcf (g.2 _ _ e<|rT m e HQ) a b<|DVs.go m g hs
 |_,_,.ins n c e a b hs=>.ins (λo=>(g.1 _ o).elim n λz=>by rw[z] at e;cases e) c (g.2 _ _ e n) a b (DVs.go m g hs)
theorem DVs.go (m:∀b,O b->fM (H b))(g:Ev O H O' H'):∀{vs:List V} {ds:List D},DVs G O H vs ds->DVs G O' H' vs ds
 |_,_,.nil=>.nil
 |_,_,.cons h hs=>.cons (DV.go m g h)<|DVs.go m g hs
end
theorem OV.bV (s:∀b,O' b->O b\/H b=none)(h:OV G O H a d):OV G O' H a d:=by
 cases d with
 |lst ds=>obtain⟨xs,e,hs⟩:=h;exact⟨xs,e,hs.bV s⟩
 |dct ks ds=>obtain⟨k,v,e,a1,a2,hs⟩:=h;exact⟨k,v,e,a1,a2,hs.bV s⟩
 |dcu ks ds=>obtain⟨k,v,e,a1,a2,hs⟩:=h;exact⟨k,v,e,a1,a2,hs.bV s⟩
 |ins c ns ds=>obtain⟨C,dx,k,v,ec,e,a1,a2,hs⟩:=h;exact⟨C,dx,k,v,ec,e,a1,a2,hs.bV s⟩
 |_=>exact h.elim
theorem OV.mono (g:aM H H')(h:OV G O H a d):OV G O H' a d:=by
 cases d with
 |lst ds=>obtain⟨xs,e,hs⟩:=h;exact⟨xs,g _ _ e,hs.mono g⟩
 |dct ks ds=>obtain⟨k,v,e,a1,a2,hs⟩:=h;exact⟨k,v,g _ _ e,a1,a2,hs.mono g⟩
 |dcu ks ds=>obtain⟨k,v,e,a1,a2,hs⟩:=h;exact⟨k,v,g _ _ e,a1,a2,hs.mono g⟩
 |ins c ns ds=>obtain⟨C,dx,k,v,ec,e,a1,a2,hs⟩:=h;exact⟨C,dx,k,v,ec,g _ _ e,a1,a2,hs.mono g⟩
 |_=>exact h.elim
theorem OV.kp (m:∀b,O b->fM (H b))(g:Kp O H H')(e':H' a=H a)(h:OV G O H a d):OV G O H' a d:=by
 cases d with
 |lst ds=>obtain⟨xs,e,hs⟩:=h;exact⟨xs,e'.trans e,hs.kp m g⟩
 |dct ks ds=>obtain⟨k,v,e,a1,a2,hs⟩:=h;exact⟨k,v,e'.trans e,a1,a2,hs.kp m g⟩
 |dcu ks ds=>obtain⟨k,v,e,a1,a2,hs⟩:=h;exact⟨k,v,e'.trans e,a1,a2,hs.kp m g⟩
 |ins c ns ds=>obtain⟨C,dx,k,v,ec,e,a1,a2,hs⟩:=h;exact⟨C,dx,k,v,ec,e'.trans e,a1,a2,hs.kp m g⟩
 |_=>exact h.elim
theorem OV.mut (h:OV G O H a d):fM (H a):=by
 cases d with
 |lst ds=>obtain⟨xs,e,hs⟩:=h;exact .inl ⟨xs,e⟩
 |dct ks ds=>obtain⟨k,v,e,_⟩:=h;exact .inr<|.inl ⟨k,e⟩
 |dcu ks ds=>obtain⟨k,v,e,_⟩:=h;exact .inr<|.inr<|.inl ⟨(_,k),e⟩
 |ins c ns ds=>obtain⟨C,dx,k,v,_,e,_⟩:=h;exact .inr<|.inr<|.inr ⟨(C,dx,k),e⟩
 |_=>exact h.elim
theorem OV.dv (n:¬O a)(h:OV G O H a d):DV G O H (.ref a) d:=by
 cases d with
 |lst ds=>obtain⟨xs,e,hs⟩:=h;exact .lst (.inl ⟨n,.inl e⟩) hs
 |dct ks ds=>obtain⟨k,v,e,a1,a2,hs⟩:=h;exact .dct n (.inl e) a1 a2 hs
 |dcu ks ds=>obtain⟨k,v,e,a1,a2,hs⟩:=h;exact .dcu n e a1 a2 hs
 |ins c ns ds=>obtain⟨C,dx,k,v,ec,e,a1,a2,hs⟩:=h;exact .ins n ec e a1 a2 hs
 |_=>exact h.elim
theorem DW.mono (g:aM H H')(h:DW G O H v d):DW G O H' v d:=h.elim (λz=>.inl<|z.mono g) λ⟨a,e,o,z⟩=>.inr ⟨a,e,o,z.mono g⟩
theorem DW.any (h:DW G O H v d):DV G (λ_=>False) H v d:=by
 rcases h with h|⟨a,e,_,h⟩
 ·exact h.bV λ_ z=>z.elim
 ·subst e;exact(h.bV (O':=λ_=>False) λ_ z=>z.elim).dv id
theorem DWs.any:∀{vs:List V} {ds:List D},DWs G O H vs ds->DVs G (λ_=>False) H vs ds
 |_,_,.nil=>.nil
 |_,_,.cons h hs=>.cons h.any<|DWs.any hs
end
section
variable {G:Gx}{O:Zaa}{H:Hp}{v:V}
theorem Ia (h:DW G O H v .non):v=.non:=by
 rcases h with h|⟨_,_,_,h⟩
 ·cases h;rfl
 ·exact h.elim
theorem Qu (h:DW G O H v (.bl b)):v=.bl b:=by
 rcases h with h|⟨_,_,_,h⟩
 ·cases h;rfl
 ·exact h.elim
theorem cH (h:DW G O H v (.int i)):v=.int i:=by
 rcases h with h|⟨_,_,_,h⟩
 ·cases h;rfl
 ·exact h.elim
theorem jo (h:DW G O H v (.str x)):v=.str x:=by
 rcases h with h|⟨_,_,_,h⟩
 ·cases h;rfl
 ·exact h.elim
theorem yI (h:DW G O H v (.tup ds)):∃a xs,v=.ref a/\SqT G.K H a xs/\DVs G O H xs ds:=by
 rcases h with h|⟨_,_,_,h⟩
 ·cases h with
  |tup h hs=>exact⟨_,_,rfl,h.sq,hs⟩
 ·exact h.elim
theorem xT (h:DW G O H v (.tup ds)):∃a xs,v=.ref a/\SqU G.K H a xs/\DVs G O H xs ds:=by
 rcases h with h|⟨_,_,_,h⟩
 ·cases h with
  |tup h hs=>exact⟨_,_,rfl,h,hs⟩
 ·exact h.elim
theorem jN (h:DW G O H v (.lst ds)):∃a xs,v=.ref a/\SqL G.K H a xs/\DVs G O H xs ds:=by
 rcases h with h|⟨a,e,_,h⟩
 ·cases h with
  |lst h hs=>exact⟨_,_,rfl,h.sq,hs⟩
 ·obtain⟨xs,e',hs⟩:=h;exact⟨a,xs,e,.inl<|.inl e',hs⟩
theorem V6 {K:bP}{a:Addr}{ι:List (Key×V)}{k:Key}(e:Rd H a (.dK ι)):JX K H a (kV k) (oU ι k):=.inl ⟨ι,k,e,rfl,rfl⟩
theorem yw (h:DW G O H v (.dct ks ds)):∃a ι vs,v=.ref a/\Rd H a (.dK ι)/\ι.map (·.1)=ks/\ι.map (·.2)=vs/\DVs G O H vs ds:=by
 rcases h with h|⟨a,e,_,h⟩
 ·cases h with
  |dct n e a b hs=>exact⟨_,_,_,rfl,e,a,b,hs⟩
 ·refine uh h λk w e' a1 a2 hs=>?_;exact⟨a,k,w,e,.inl e',a1,a2,hs⟩
theorem Wg (h:DW G O H v (.dcu ks ds)):∃a ι vs,v=.ref a/\H a=some (.dT (KTp G.K) ι)/\ι.map (·.1)=ks/\ι.map (·.2)=vs/\DVs G O H vs ds:=by
 rcases h with h|⟨a,e,_,h⟩
 ·cases h with
  |dcu n e a b hs=>exact⟨_,_,_,rfl,e,a,b,hs⟩
 ·refine uh h λk w e' a1 a2 hs=>?_;exact⟨a,k,w,e,e',a1,a2,hs⟩
theorem bR:∀{vs:List V} {ds:List D},DVs G O H vs ds->vs.length=ds.length
 |_,_,.nil=>rfl
 |_,_,.cons _ hs=>by rw[cw,cw,bR hs]
theorem jX:∀{vs us:List V} {ds es:List D},DVs G O H vs ds->DVs G O H us es->DVs G O H (vs++us) (ds++es)
 |_,_,_,_,.nil,h=>h
 |_,_,_,_,.cons a t,h=>.cons a<|jX t h
theorem nu:∀{vs:List V} {ds:List D} {i:Nat} {x:V},DVs G O H vs ds->vs[i]? = some x->∃d,ds[i]? = some d/\DV G O H x d
 |_,_,_,_,.nil,e=>by simp at e
 |_,_,0,_,.cons a _,e=>by simp at e;subst e;exact⟨_,rfl,a⟩
 |_,_,i+1,x,.cons _ t,e=>by
  obtain⟨d,h1,h2⟩:=nu (i:=i) (x:=x) t (by simpa using e);exact⟨d,by simpa using h1,h2⟩
theorem vY:∀{vs:List V} {ds:List D} {i:Nat} {d:D},DVs G O H vs ds->ds[i]? = some d->∃x,vs[i]? = some x/\DV G O H x d
 |_,_,_,_,.nil,e=>by simp at e
 |_,_,0,_,.cons a _,e=>by simp at e;subst e;exact⟨_,rfl,a⟩
 |_,_,i+1,d,.cons _ t,e=>by
  obtain⟨x,h1,h2⟩:=vY (i:=i) (d:=d) t (by simpa using e);exact⟨x,by simpa using h1,h2⟩
theorem Cr:∀{vs:List V} {ds:List D} (n:Nat),DVs G O H vs ds->DVs G O H (vs.take n) (ds.take n)
 |_,_,0,_=>by simp only[List.take_zero];exact .nil
 |_,_,_+1,.nil=>.nil
 |_,_,n+1,.cons a t=>.cons a<|Cr n t
theorem K7:∀{vs:List V} {ds:List D} (n:Nat),DVs G O H vs ds->DVs G O H (vs.drop n) (ds.drop n)
 |_,_,0,h=>h
 |_,_,_+1,.nil=>.nil
 |_,_,n+1,.cons _ t=>K7 n t
theorem PJ:∀{vs:List V} {ds:List D},DVs G O H vs ds->DVs G O H vs.reverse ds.reverse
 |_,_,.nil=>.nil
 |_,_,.cons a t=>by rw[k9,k9];exact jX (PJ t)<|.cons a .nil
noncomputable def flat:D->Bool
 | .non|.bl _|.int _|.str _=>true
 |_=>false
theorem DV.flat (f:flat d=true)(h:DV G O H v d):DV G O' H' v d:=by
 cases h with
 |non=>exact .non
 |bl b=>exact .bl b
 |int i=>exact .int i
 |str x=>exact .str x
 |_=>cases f
end
inductive Sl where
  |un|fz (d:D)|ow (d:D)|io (d:D)|bw (d:D)
  |hd (w:Bool) (a:Addr) (d:D)
abbrev Me:=List Sl
abbrev Os:=Nat->Option Addr
def Ow (O0:Zaa)(ow:Os):Zaa:=λb=>O0 b\/∃i,ow i=some b
def Op (O:Zaa)(p:Addr):Zaa:=λb=>O b\/b=p
noncomputable def owS (ow:Os)(i:Nat)(x:Option Addr):Os:=λj=>if j=i then x else ow j
theorem dM:owS ow i x i=x:=by unfold owS;rw[if_pos rfl]
theorem cZ (h:j≠i):owS ow i x j=ow j:=by unfold owS;rw[if_neg h]
def JQ (G:Gx)(O M0:Zaa)(H0:Hp)(oi:Option Addr)(v:Option (Option V))(H:Hp):Sl->Prop
 | .un=>oi=none
 | .fz d=>oi=none/\∃x,v=some (some x)/\DV G O H x d
 | .ow d=>∃a,oi=some a/\H0 a=none/\v=some (some<|.ref a)/\OV G O H a d
 | .io d=>∃a,oi=some a/\M0 a/\v=some (some<|.ref a)/\OV G O H a d
 | .bw d=>oi=none/\∃x,v=some (some x)/\DW G O H x d
 | .hd w a d=>oi=some a/\(w=true->H0 a=none)/\(w=false->M0 a)/\OV G O H a d
structure Rel (G:Gx)(O0 M0:Zaa)(H0:Hp)(ow:Os)(σ:L2.St)(H:Hp)(m:Me):Prop where
 len:σ.length=m.length
 keep:Kp M0 H0 H
 m0:∀b,M0 b->H b≠none
 mutk:∀b,Ow O0 ow b->fM (H b)
 no0:∀i a,ow i=some a->¬O0 a
 inj:∀i j a,ow i=some a->ow j=some a->i=j
 out:∀i,m.length<=i->ow i=none
 slot:∀i s,m[i]? = some s->JQ G (Ow O0 ow) M0 H0 (ow i) (σ[i]?) H s
structure cT (G:Gx)(O0 M0:Zaa)(H0:Hp)(ow:Os)(σ:L2.St)(H:Hp)(m:Me):Prop extends Rel G O0 M0 H0 ow σ H m where
 nb:∀(j:Nat) (d:D),m[j]?≠some (Sl.bw d)
structure Go (O0:Zaa)(ow:Os)(H:Hp)(ow':Os)(H':Hp):Prop where
 keep:Kp (Ow O0 ow) H H'
 new:∀i a,ow' i=some a->Ow O0 ow a\/H a=none
 dom:∀b,H b≠none->H' b≠none
theorem Go.refl (g:aM H H'):Go O0 ow H ow H':=
 ⟨.of g,λi a e=>.inl<|.inr ⟨i,e⟩,λb n z=>by
  cases q:H b with
  |none=>exact n q
  |some o=>rw[g b o q] at z;cases z⟩
theorem Go.trans (a:Go O0 ow H ow1 H1)(b:Go O0 ow1 H1 ow2 H2):Go O0 ow H ow2 H2 where
 keep:=λc o e n=>b.keep c o (a.keep c o e n) λz=>by
  rcases z with z|⟨i,z⟩
  ·exact n<|.inl z
  ·rcases a.new i c z with y|y
   ·exact n y
   ·rw[y] at e;cases e
 new:=λi c e=>by
  rcases b.new i c e with(z|⟨j,z⟩)|z
  ·exact .inl<|.inl z
  ·exact a.new j c z
  ·refine .inr ?_;cases q:H c with
   |none=>rfl
   |some o=>exact absurd z (a.dom c (by rw[q];simp))
 dom:=λc n=>b.dom c<|a.dom c n
theorem Go.ev (g:Go O0 ow H ow' H'):Ev (Ow O0 ow) H (Ow O0 ow') H':=
 ⟨λb z=>z.elim (λz=>.inl<|.inl z) λ⟨i,e⟩=>g.new i b e,g.keep⟩
theorem w5 (O:Zaa):Ow O (λ_=>none)=O:=by
 funext b;exact propext ⟨λz=>z.elim id λ⟨_,e⟩=>(by cases e),iP⟩
section
variable {G:Gx}{O0 M0:Zaa}{H0 H H':Hp}{ow:Os}{σ:L2.St}{m:Me}
theorem JQ.mono (g:aM H H')(h:JQ G O M0 H0 oi v H s):JQ G O M0 H0 oi v H' s:=by
 cases s with
 |un=>exact h
 |fz d=>obtain⟨a,x,e,q⟩:=h;exact⟨a,x,e,q.mono g⟩
 |ow d=>obtain⟨a,x,e,f,q⟩:=h;exact⟨a,x,e,f,q.mono g⟩
 |io d=>obtain⟨a,x,e,f,q⟩:=h;exact⟨a,x,e,f,q.mono g⟩
 |bw d=>obtain⟨a,x,e,q⟩:=h;exact⟨a,x,e,q.mono g⟩
 |hd w a d=>obtain⟨x,e,f,q⟩:=h;exact⟨x,e,f,q.mono g⟩
theorem zq (g:aM H H')(h:fM (H b)):fM (H' b):=by
 rcases h with⟨x,e⟩|⟨x,e⟩|⟨x,e⟩|⟨x,e⟩
 ·exact .inl ⟨x,g _ _ e⟩
 ·exact .inr<|.inl ⟨x,g _ _ e⟩
 ·exact .inr<|.inr<|.inl ⟨x,g _ _ e⟩
 ·exact .inr<|.inr<|.inr ⟨x,g _ _ e⟩
theorem Rel.mono (R:Rel G O0 M0 H0 ow σ H m)(g:aM H H'):Rel G O0 M0 H0 ow σ H' m:=
 ⟨R.len,λb o e n=>g b o<|R.keep b o e n,λb z q=>R.m0 b z<|aM.free g q,λb z=>zq g<|R.mutk b z,R.no0,R.inj,R.out,λi s e=>(R.slot i s e).mono g⟩
theorem JQ.bV (sub:∀b,O' b->O b\/H b=none)(h:JQ G O M0 H0 oi v H s)(hb:∀d,s=.bw d->∀b,O b->O' b\/¬O' b):JQ G O' M0 H0 oi v H s:=by
 cases s with
 |un=>exact h
 |fz d=>obtain⟨a,x,e,q⟩:=h;exact⟨a,x,e,q.bV sub⟩
 |ow d=>obtain⟨a,x,e,f,q⟩:=h;exact⟨a,x,e,f,q.bV sub⟩
 |io d=>obtain⟨a,x,e,f,q⟩:=h;exact⟨a,x,e,f,q.bV sub⟩
 |bw d=>
  obtain⟨a,x,e,q⟩:=h;refine⟨a,x,e,?_⟩;rcases q with q|⟨b,e1,o,q⟩
  ·exact .inl<|q.bV sub
  ·rcases hb d rfl b o with w|w
   ·exact .inr ⟨b,e1,w,q.bV sub⟩
   ·subst e1;exact .inl<|(q.bV sub).dv w
 |hd w a d=>obtain⟨x,e,f,q⟩:=h;exact⟨x,e,f,q.bV sub⟩
theorem Ow.sub (z:Ow O0 (owS ow i none) b):Ow O0 ow b:=by
 rcases z with z|⟨j,e⟩
 ·exact .inl z
 ·by_cases q:j=i
  ·subst q;rw[dM] at e;cases e
  ·rw[cZ q] at e;exact .inr ⟨j,e⟩
theorem rM {l:List α}(e:l[i]? = some x):i<l.length:=(fN.mp e).1
theorem Rel.set (R:Rel G O0 M0 H0 ow σ H m)(h:DV G (Ow O0 ow) H v d):
  Rel G O0 M0 H0 (owS ow i none) (σ.set i<|some v) H (m.set i<|.fz d):=by
 have sub:∀b,Ow O0 (owS ow i none) b->Ow O0 ow b\/H b=none:=λb z=>.inl z.sub;refine⟨by simp[R.len],R.keep,R.m0,λb z=>R.mutk b z.sub,λj a e=>?_,λj k a e1 e2=>?_,λj hj=>?_,λj s e=>?_⟩
 ·by_cases q:j=i
  ·subst q;rw[dM] at e;cases e
  ·rw[cZ q] at e;exact R.no0 j a e
 ·by_cases q:j=i
  ·subst q;rw[dM] at e1;cases e1
  ·by_cases q':k=i
   ·subst q';rw[dM] at e2;cases e2
   ·rw[cZ q] at e1;rw[cZ q'] at e2;exact R.inj j k a e1 e2
 ·by_cases q:j=i
  ·subst q;exact dM
  ·rw[cZ q];exact R.out j<|by simpa using hj
 ·by_cases q:j=i
  ·subst q;have hj:j<m.length:=by simpa using rM e
   rw[bo hj] at e;cases e;rw[dM,bo (by rw[R.len];exact hj)];exact⟨rfl,v,rfl,h.bV sub⟩
  ·rw[br<|eS q] at e;rw[cZ q,br<|eS q];exact(R.slot j s e).bV sub λ_ _ b _=>tf _
theorem Go.set:Go O0 ow H (owS ow i none) H:=
 ⟨λ_ _ e _=>e,λj a e=>.inl (by
  by_cases q:j=i
  ·subst q;rw[dM] at e;cases e
  ·rw[cZ q] at e;exact .inr ⟨j,e⟩),λ_ n=>n⟩
theorem Rel.JW (R:Rel G O0 M0 H0 ow σ H m){p:Addr}(n:H p=none):H0 p=none:=by
 cases q:H0 p with
 |none=>rfl
 |some o=>
  by_cases z:M0 p
  ·exact absurd n<|R.m0 p z
  ·rw[R.keep p o q z] at n;cases n
theorem Rel.Kz (R:Rel G O0 M0 H0 ow σ H m){p:Addr}(n:H p=none):¬Ow O0 ow p:=λz=>by
 have:=R.mutk p z
 rw[n] at this;rcases this with⟨_,e⟩|⟨_,e⟩|⟨_,e⟩|⟨_,e⟩<;>cases e
theorem Ow.new (z:Ow O0 (owS ow i<|some p) b):Ow O0 ow b\/b=p:=by
 rcases z with z|⟨j,e⟩
 ·exact .inl<|.inl z
 ·by_cases q:j=i
  ·subst q;rw[dM] at e;cases e;exact .inr rfl
  ·rw[cZ q] at e;exact .inl<|.inr ⟨j,e⟩
theorem Rel.own (R:Rel G O0 M0 H0 ow σ H m)(g:aM H H')(n:H p=none)(n0:H0 p=none)(h:OV G (Op (Ow O0 ow) p) H' p d)(hi:i<m.length):
  Rel G O0 M0 H0 (owS ow i<|some p) (σ.set i<|some<|.ref p) H' (m.set i<|.ow d):=by
 have np:=R.Kz n;have sub:∀b,Ow O0 (owS ow i<|some p) b->Ow O0 ow b\/H b=none:=λb z=>z.new.elim .inl λe=>.inr (by rw[e];exact n);refine⟨by simp[R.len],(R.mono g).keep,(R.mono g).m0,λb z=>?_,λj a e=>?_,λj k a e1 e2=>?_,λj hj=>?_,λj s e=>?_⟩
 ·rcases z.new with z|z
  ·exact(R.mono g).mutk b z
  ·rw[z];exact h.mut
 ·by_cases q:j=i
  ·subst q;rw[dM] at e;cases e;exact λz=>np<|.inl z
  ·rw[cZ q] at e;exact R.no0 j a e
 ·by_cases q:j=i
  ·subst q;rw[dM] at e1;cases e1;by_cases q':k=j
   ·exact q'.symm
   ·rw[cZ q'] at e2;exact absurd (.inr ⟨k,e2⟩) np
  ·rw[cZ q] at e1;by_cases q':k=i
   ·subst q';rw[dM] at e2;cases e2;exact absurd (.inr ⟨j,e1⟩) np
   ·rw[cZ q'] at e2;exact R.inj j k a e1 e2
 ·have hj':m.length<=j:=by simpa using hj
  rw[cZ<|by lia];exact R.out j hj'
 ·by_cases q:j=i
  ·subst q;rw[bo hi] at e;cases e;rw[dM,bo (by rw[R.len];exact hi)];exact⟨p,rfl,n0,rfl,h.bV λb z=>.inl<|z.new.elim .inl .inr⟩
  ·rw[br<|eS q] at e;rw[cZ q,br<|eS q];exact((R.slot j s e).bV sub λ_ _ b _=>tf _).mono g
theorem Go.own (g:aM H H')(n:H p=none):Go O0 ow H (owS ow i<|some p) H':=
 ⟨.of g,λj a e=>by
  by_cases q:j=i
  ·subst q;rw[dM] at e;cases e;exact .inr n
  ·rw[cZ q] at e;exact .inl<|.inr ⟨j,e⟩,(Go.refl (O0:=O0) (ow:=ow) g).dom⟩
theorem yP {i:Nat}{s:Sl}(nb:∀(j:Nat) (d:D),m[j]?≠some (Sl.bw d))(hs:∀d,s≠.bw d):∀(j:Nat) (d:D),(m.set i s)[j]?≠some (Sl.bw d):=λj d e=>by
 by_cases q:j=i
 ·subst q;have hj:j<m.length:=by simpa using rM e
  rw[bo hj] at e;exact hs d<|cE e
 ·rw[br<|eS q] at e;exact nb j d e
theorem cT.mono (R:cT G O0 M0 H0 ow σ H m)(g:aM H H'):cT G O0 M0 H0 ow σ H' m:=⟨R.toRel.mono g,R.nb⟩
theorem cT.set {i:Nat}{v:V}{d:D}(R:cT G O0 M0 H0 ow σ H m)(h:DV G (Ow O0 ow) H v d):cT G O0 M0 H0 (owS ow i none) (σ.set i<|some v) H (m.set i<|.fz d):=
 ⟨R.toRel.set h,yP R.nb λ_ z=>by cases z⟩
theorem cT.own {i:Nat}{p:Addr}{d:D}(R:cT G O0 M0 H0 ow σ H m)(g:aM H H')(n:H p=none)(n0:H0 p=none)(h:OV G (Op (Ow O0 ow) p) H' p d)(hi:i<m.length):
  cT G O0 M0 H0 (owS ow i<|some p) (σ.set i<|some<|.ref p) H' (m.set i<|.ow d):=⟨R.toRel.own g n n0 h hi,yP R.nb λ_ z=>by cases z⟩
noncomputable def Sl.let:Sl->Sl
 | .ow d=>.fz d
 |s=>s
noncomputable def Me.let (m:Me):Me:=m.map Sl.let
theorem cT.let (R:cT G O0 M0 H0 ow σ H m):∃ow',cT G O0 M0 H0 ow' σ H m.let/\Go O0 ow H ow' H:=by
 let ow':Os:=λi=>match m[i]? with
  |some (.io _)=>ow i
  |some (.hd _ _ _)=>ow i
  |_=>none
 have le:∀i a,ow' i=some a->ow i=some a/\∀d,m[i]?≠some (.ow d):=λi a e=>by
  simp only[ow'] at e;split at e
  ·rename_i d q;exact⟨e,λd z=>by rw[q] at z;cases z⟩
  ·rename_i w b d q;exact⟨e,λd z=>by rw[q] at z;cases z⟩
  ·cases e
 have sub:∀b,Ow O0 ow' b->Ow O0 ow b\/H b=none:=λb z=>.inl<|z.elim .inl λ⟨i,e⟩=>.inr ⟨i,(le i b e).1⟩;refine⟨ow',⟨⟨by simp[Me.let,R.len],R.keep,R.m0,λb z=>?_,λi a e=>R.no0 i a (le i a e).1,λi j a e1 e2=>R.inj i j a (le i a e1).1 (le j a e2).1,λi hi=>?_,λi s e=>?_⟩,λj d e=>?_⟩,λb o e n=>e,λi a e=>.inl<|.inr ⟨i,(le i a e).1⟩,λ_ n=>n⟩
 ·exact R.mutk b<|z.elim .inl λ⟨i,e⟩=>.inr ⟨i,(le i b e).1⟩
 ·have hi':m.length<=i:=by simpa[Me.let] using hi
  simp only[ow'];rw[i7 hi']
 ·unfold Me.let at e;rw[bX] at e;cases q:m[i]? with
  |none=>rw[q] at e;cases e
  |some s0=>
   rw[q] at e;cases e;have z:=R.slot i s0 q;cases s0 with
   |un=>exact(show ow' i=none by simp only[ow',q])
   |fz d=>obtain⟨_,x,e,h⟩:=z;exact⟨(show ow' i=none by simp only[ow',q]),x,e,h.bV sub⟩
   |ow d=>
    refine gH z λa e1 e2 e3 h=>?_;refine⟨(show ow' i=none by simp only[ow',q]),.ref a,e3,(h.bV sub).dv λw=>?_⟩;rcases w with w|⟨j,w⟩
    ·exact R.no0 i a e1 w
    ·obtain⟨w1,w2⟩:=le j a w
     have:=R.inj i j a e1 w1
     subst this;exact w2 d q
   |io d=>
    refine gH z λa e1 e2 e3 h=>?_;exact⟨a,(show ow' i=some a by simp only[ow',q];exact e1),e2,e3,h.bV sub⟩
   |bw d=>exact(R.nb i d q).elim
   |hd w a d=>
    obtain⟨e1,e2,e3,h⟩:=z;exact⟨(show ow' i=some a by simp only[ow',q];exact e1),e2,e3,h.bV sub⟩
 ·unfold Me.let at e;rw[bX] at e;cases q:m[j]? with
  |none=>rw[q] at e;cases e
  |some s0=>
   rw[q] at e;cases s0 with
   |bw d'=>exact R.nb j d' q
   |_=>cases e
end
def Pu (G:Gx)(E:XK){α:Type}(r:Res α)(H:Hp)(k:α->Prop):Prop:=match r with
 | .ok a=>k a
 | .exc c=>∀C H',G.mg c=some (.ref C)->aM H H'->E (.ref C) none H'
 | .stuck=>False
theorem Pu.bind {G:Gx}{E:XK}{α β:Type}{r:Res α}{f:α->Res β}{H:Hp}{k:β->Prop}(h:Pu G E (r.bind f) H k):Pu G E r H λa=>Pu G E (f a) H k:=by
 cases r with
 |ok a=>exact h
 |exc c=>exact h
 |stuck=>exact h
theorem Pu.imp {G:Gx}{E:XK}{α:Type}{r:Res α}{H H':Hp}{k k':α->Prop}(h:Pu G E r H k)(g:aM H H')(hk:∀a,k a->k' a):Pu G E r H' k':=by
 cases r with
 |ok a=>exact hk a h
 |exc c=>exact λC H1 e g1=>h C H1 e<|g.trans g1
 |stuck=>exact h
theorem Pu.ofO {G:Gx}{E:XK}{α:Type}{r:Option α}{H:Hp}{k:α->Prop}(h:Pu G E (ofO r) H k):∃a,r=some a/\k a:=by
 cases r with
 |some a=>exact⟨a,rfl,h⟩
 |none=>exact h.elim
noncomputable def tE (G:Gx)(E:XK)(f:Me->Res D):TE:=λσ H Q=>∃O0 M0 H0 ow m,Rel G O0 M0 H0 ow σ H m/\Pu G E (f m) H λd=>∀v H',aM H H'->DV G (Ow O0 ow) H' v d->Q v H'
def tB (G:Gx)(E:XK)(f:Me->Res D):TE:=λσ H Q=>∃O0 M0 H0 ow m,Rel G O0 M0 H0 ow σ H m/\Pu G E (f m) H λd=>∀v H',aM H H'->DW G (Ow O0 ow) H' v d->Q v H'
def tN (G:Gx)(E:XK)(f:Me->Res D):TE:=λσ H Q=>∃O0 M0 H0 ow m,Rel G O0 M0 H0 ow σ H m/\Pu G E (f m) H λd=>∀p H',aM H H'->H p=none->OV G (Op (Ow O0 ow) p) H' p d->Q (.ref p) H'
def tT (G:Gx)(E:XK)(f:Me->Res Bool):TT:=λσ H Q=>∃O0 M0 H0 ow m,Rel G O0 M0 H0 ow σ H m/\Pu G E (f m) H λb=>∀H',aM H H'->Q b H'
def tAE (G:Gx)(E:XK)(f:Me->Res (List D)):TA:=λσ H Q=>∃O0 M0 H0 ow m,Rel G O0 M0 H0 ow σ H m/\Pu G E (f m) H λds=>∀vs H',aM H H'->DVs G (Ow O0 ow) H' vs ds->Q vs H'
def tAB (G:Gx)(E:XK)(f:Me->Res (List D)):TA:=λσ H Q=>∃O0 M0 H0 ow m,Rel G O0 M0 H0 ow σ H m/\Pu G E (f m) H λds=>∀vs H',aM H H'->DWs G (Ow O0 ow) H' vs ds->Q vs H'
abbrev FE (X:Cx)(E:XK)(e:Expr)(f:Me->Res D):Prop:=PE X e<|tE (gx X) E f
abbrev FB (X:Cx)(E:XK)(e:Expr)(f:Me->Res D):Prop:=PE X e<|tB (gx X) E f
abbrev FN (X:Cx)(E:XK)(e:Expr)(f:Me->Res D):Prop:=PE X e<|tN (gx X) E f
abbrev FT (X:Cx)(E:XK)(e:Expr)(f:Me->Res Bool):Prop:=PT X e<|tT (gx X) E f
abbrev FW (X:Cx)(E:XK)(e:Expr)(f:Me->Res Bool):Prop:=PW X e<|tT (gx X) E f
abbrev FAE (X:Cx)(E:XK)(es:List Expr)(f:Me->Res (List D)):Prop:=PA X es<|tAE (gx X) E f
abbrev FAB (X:Cx)(E:XK)(es:List Expr)(f:Me->Res (List D)):Prop:=PA X es<|tAB (gx X) E f
theorem Io {X:Cx}{e:Expr}{T T':TT}(h:PT X e T)(k:∀σ H Q,T' σ H Q->T σ H Q):PT X e T':=λπ s σ H Q I q=>h π s σ H Q I<|k σ H Q q
theorem QC {X:Cx}{e:Expr}{T T':TT}(h:PW X e T)(k:∀σ H Q,T' σ H Q->T σ H Q):PW X e T':=λwh π s σ H Q I q=>h wh π s σ H Q I<|k σ H Q q
theorem pF {X:Cx}{es:List Expr}{T T':TA}(h:PA X es T)(k:∀σ H Q,T' σ H Q->T σ H Q):PA X es T':=λpos π s σ H Q I q=>h pos π s σ H Q I<|k σ H Q q
section
variable {X:Cx}{E:XK}{e a b c:Expr}{es:List Expr}{f fa fb fc:Me->Res D}{fs:Me->Res (List D)}{ft fu:Me->Res Bool}{pos:Pos}
theorem ao (h:FE X E e f):FB X E e f:=bI h λ_ _ _ hE=>xq5 hE λO0 M0 H0 ow m R q=>⟨O0,M0,H0,ow,m,R,q.imp (aM.refl _) λ_ k v H' g d=>k v H' g<|.inl d⟩
theorem kW (h:FN X E e f):FE X E e f:=bI h λ_ _ _ hE=>xq5 hE λO0 M0 H0 ow m R q=>⟨O0,M0,H0,ow,m,R,q.imp (aM.refl _) λ_ k p H' g n o=>
 k _ H' g ((o.bV λb z=>.inl<|.inl z).dv<|R.Kz n)⟩
noncomputable def aG (i:Nat):Me->Res D:=λm=>match m[i]? with
 |some (.fz d)=>.ok d
 |_=>.stuck
noncomputable def aa (i:Nat):Me->Res D:=λm=>match m[i]? with
 |some (.fz d)=>.ok d
 |some (.ow d)=>.ok d
 |some (.io d)=>.ok d
 |some (.bw d)=>.ok d
 |_=>.stuck
theorem aD (i:Nat){x:Str}(hN:X.N[i]? = some x:=by rfl)(hv:Vis X.env.scope x:=by first|exact iP rfl|exact gX (iP rfl)|exact gX (gX rfl))(hd:(x==("__debug__":Str))=false:=by decide)
  (hcd:(x==("__classdict__":Str))=false:=by decide):FE X E (.Name x pos) (aG i):=bI (jk hN hv hd hcd) λσ H Q hE=>xq5 hE λO0 M0 H0 ow m R q=>by
 unfold aG at q;cases e:m[i]? with
 |none=>rw[e] at q;exact q.elim
 |some s=>
  rw[e] at q;cases s with
  |fz d=>
   obtain⟨_,x,h1,h2⟩:=R.slot i _ e;exact⟨x,h1,q x H (aM.refl _) h2⟩
  |_=>exact q.elim
theorem aq (i:Nat){x:Str}(hN:X.N[i]? = some x:=by rfl)(hv:Vis X.env.scope x:=by first|exact iP rfl|exact gX (iP rfl)|exact gX (gX rfl))(hd:(x==("__debug__":Str))=false:=by decide)
  (hcd:(x==("__classdict__":Str))=false:=by decide):FB X E (.Name x pos) (aa i):=bI (jk hN hv hd hcd) λσ H Q hE=>xq5 hE λO0 M0 H0 ow m R q=>by
 unfold aa at q;cases e:m[i]? with
 |none=>rw[e] at q;exact q.elim
 |some s=>
  rw[e] at q;cases s with
  |fz d=>
   obtain⟨_,x,h1,h2⟩:=R.slot i _ e;exact⟨x,h1,q x H (aM.refl _)<|.inl h2⟩
  |bw d=>
   obtain⟨_,x,h1,h2⟩:=R.slot i _ e;exact⟨x,h1,q x H (aM.refl _) h2⟩
  |ow d=>
   refine gH (R.slot i _ e) λa h1 h2 h3 h4=>?_;exact⟨_,h3,q _ H (aM.refl _)<|.inr ⟨a,rfl,.inr ⟨i,h1⟩,h4⟩⟩
  |io d=>
   refine gH (R.slot i _ e) λa h1 h2 h3 h4=>?_;exact⟨_,h3,q _ H (aM.refl _)<|.inr ⟨a,rfl,.inr ⟨i,h1⟩,h4⟩⟩
  |un=>exact q.elim
  |hd _ _ _=>exact q.elim
def fC (d:D):Me->Res D:=λ_=>.ok d
theorem Vr {d:D}{v:V}(h:PE X e (tC v))(hd:∀O H,DV (gx X) O H v d):FE X E e (fC d):=bI h λσ H Q hE=>xq5 hE λO0 M0 H0 ow m R q=>q v H (aM.refl _)<|hd _ _
theorem au {i j pos}:FE X E (.Constant (.int i) j pos) (fC<|.int i):=Vr acK λ_ _=>.int i
theorem qQ {b j pos}:FE X E (.Constant (.bool b) j pos) (fC<|.bl b):=Vr adf λ_ _=>.bl b
theorem ac5 {j pos}:FE X E (.Constant .none j pos) (fC .non):=Vr ab9 λ_ _=>.non
theorem cg {x j pos}:FE X E (.Constant (.str x) j pos) (fC<|.str x):=Vr acT λ_ _=>.str x
theorem XH {x:Str}{v:V}{u:aS}{d:D}(hg:Gl X x)(hm:X.mg x=some u)(r:RelV v u)(hd:∀O H,DV (gx X) O H v d)(hdb:(x==("__debug__":Str))=false:=by decide):FE X E (.Name x pos) (fC d):=Vr (Xv hg hm r hdb) hd
def rG (G:Gx)(g:D->D->Option D):R2:=λx y H Q=>∃O d e r,(∀b,O b->fM (H b))/\DW G O H x d/\DW G O H y e/\g d e=some r/\∀v H',aM H H'->DV G O H' v r->Q v H'
def rGB (G:Gx)(g:D->D->Option Bool):R2:=λx y H Q=>∃O d e r,(∀b,O b->fM (H b))/\DW G O H x d/\DW G O H y e/\g d e=some r/\Q (.bl r) H
def rG1 (G:Gx)(g:D->Option D):V->Hp->VK->Prop:=λx H Q=>∃O d r,(∀b,O b->fM (H b))/\DW G O H x d/\g d=some r/\∀v H',aM H H'->DV G O H' v r->Q v H'
def rGC (G:Gx)(g:List D->Option D):List V->Hp->VK->Prop:=λxs H Q=>∃O ds r,(∀b,O b->fM (H b))/\DWs G O H xs ds/\g ds=some r/\∀v H',aM H H'->DV G O H' v r->Q v H'
def acx (G:Gx)(g:List D->Option D):List V->Hp->VK->Prop:=λxs H Q=>∃O ds r,(∀b,O b->fM (H b))/\DWs G O H xs ds/\g ds=some r/\∀p H',aM H H'->H p=none->OV G (Op O p) H' p r->Q (.ref p) H'
def rGM (G:Gx)(g:D->List D->Option D):V->List V->Hp->VK->Prop:=λx xs H Q=>∃O d ds r,(∀b,O b->fM (H b))/\DW G O H x d/\DWs G O H xs ds/\g d ds=some r/\∀v H',aM H H'->DV G O H' v r->Q v H'
noncomputable def az (g:D->D->Option D)(fa fb:Me->Res D):Me->Res D:=λm=>(fa m).bind λx=>(fb m).bind λy=>ofO<|g x y
noncomputable def oJ (g:D->D->Option Bool)(fa fb:Me->Res D):Me->Res D:=λm=>(fa m).bind λx=>(fb m).bind λy=>ofO<|(g x y).map D.bl
noncomputable def aN (g:D->D->Option Bool)(fa fb:Me->Res D):Me->Res Bool:=λm=>(fa m).bind λx=>(fb m).bind λy=>ofO<|g x y
noncomputable def fUn (g:D->Option D)(fa:Me->Res D):Me->Res D:=λm=>(fa m).bind λx=>ofO<|g x
theorem two {G:Gx}{σ:L2.St}{H:Hp}{Q:VK}{r:R2}{O0 M0:Zaa}{H0:Hp}{ow:Os}{m:Me}{β:Type}{g:D->D->Res β}{K:β->Hp->Prop}(R:Rel G O0 M0 H0 ow σ H m)(h:Pu G E ((fa m).bind λx=>(fb m).bind λy=>g x y) H λz=>K z H)
  (hm:∀z H',K z H->aM H H'->K z H')
  (k:∀x y d e H',aM H H'->DW G (Ow O0 ow) H' x d->DW G (Ow O0 ow) H' y e->Pu G E (g d e) H' (λz=>K z H')->Rel G O0 M0 H0 ow σ H' m->r x y H' Q):tOp r (tB G E fa) (tB G E fb) σ H Q:=by
 refine⟨O0,M0,H0,ow,m,R,h.bind.imp (aM.refl _) λd q x H1 g1 hx=>⟨O0,M0,H0,ow,m,R.mono g1,q.bind.imp g1 λe q2 y H2 g2 hy=>?_⟩⟩;exact k x y d e H2 (g1.trans g2) (hx.mono g2) hy (q2.imp (g1.trans g2) λz kz=>hm z _ kz<|g1.trans g2)<|R.mono<|g1.trans g2
theorem aF {g:D->D->Option D}{op:Operator}(ho:OpR X (kg op) (rG (gx X) g))(ha:FB X E a fa)(hb:FB X E b fb):FE X E (.BinOp a op b pos) (az g fa fb):=
 bI (aeC ho ha hb) λσ H Q hE=>xq5 hE λO0 M0 H0 ow m R q=>two R (K:=λz H=>∀v H',aM H H'->DV (gx X) (Ow O0 ow) H' v z->Q v H') q (λ_ _ k g v H' g' d=>k v H' (g.trans g') d) λx y d e H' g hx hy q' R'=>by
  obtain⟨r,hr,k⟩:=q'.ofO;exact⟨_,d,e,r,R'.mutk,hx,hy,hr,k⟩
theorem ael {g:D->D->Option D}(ho:IxR X (rG (gx X) g))(ha:FB X E a fa)(hb:FB X E b fb)(hs:GJ b):FE X E (.Subscript a b pos) (az g fa fb):=
 bI (aeA ho ha hb hs) λσ H Q hE=>xq5 hE λO0 M0 H0 ow m R q=>two R (K:=λz H=>∀v H',aM H H'->DV (gx X) (Ow O0 ow) H' v z->Q v H') q (λ_ _ k g v H' g' d=>k v H' (g.trans g') d) λx y d e H' g hx hy q' R'=>by
  obtain⟨r,hr,k⟩:=q'.ofO;exact⟨_,d,e,r,R'.mutk,hx,hy,hr,k⟩
theorem omap {α β:Type}{o:Option α}{f:α->β}{r:β}(h:o.map f=some r):∃a,o=some a/\f a=r:=by simp_all
theorem pO {g:D->D->Option Bool}{op:CmpOp}(ho:OpR X (fx op) (rGB (gx X) g))(ha:FB X E a fa)(hb:FB X E b fb)(hm:l3 op b=false):FE X E (.Compare a [op] [b] pos) (oJ g fa fb):=
 bI (aab ho ha hb hm) λσ H Q hE=>xq5 hE λO0 M0 H0 ow m R q=>two R (K:=λz H=>∀v H',aM H H'->DV (gx X) (Ow O0 ow) H' v z->Q v H') q (λ_ _ k g v H' g' d=>k v H' (g.trans g') d) λx y d e H' g hx hy q' R'=>by
  obtain⟨r,hr,k⟩:=q'.ofO;obtain⟨c,hc,rfl⟩:=omap hr;exact⟨_,d,e,c,R'.mutk,hx,hy,hc,k _ _ (aM.refl _)<|.bl c⟩
theorem bO {g:D->D->Option Bool}{op:CmpOp}(ho:OpR X (fx op) (rGB (gx X) g))(ha:FB X E a fa)(hb:FB X E b fb)(hm:l3 op b=false):FT X E (.Compare a [op] [b] pos) (aN g fa fb):=
 Io (YG ho ha hb hm) λσ H Q hE=>xq5 hE λO0 M0 H0 ow m R q=>two R (K:=λz H=>∀H',aM H H'->Q z H') q (λ_ _ k g H' g'=>k H'<|g.trans g') λx y d e H' g hx hy q' R'=>by
  obtain⟨c,hc,k⟩:=q'.ofO;exact⟨_,d,e,c,R'.mutk,hx,hy,hc,c,rfl,k _<|aM.refl _⟩
theorem Fi {g:D->Option D}{op:UnaryOp}(ho:UnR X (unaryOp op) (rG1 (gx X) g))(ha:FB X E a fa):FE X E (.UnaryOp op a pos) (fUn g fa):=
 bI (adU ho ha) λσ H Q hE=>xq5 hE λO0 M0 H0 ow m R q=>⟨O0,M0,H0,ow,m,R,q.bind.imp (aM.refl _) λd q x H1 g1 hx=>by
  obtain⟨r,hr,k⟩:=q.ofO;exact⟨_,d,r,(R.mono g1).mutk,hx,hr,λv H' g d=>k v H' (g1.trans g) d⟩⟩
noncomputable def fTv (fa:Me->Res D):Me->Res Bool:=λm=>(fa m).bind λx=>match x with
 | .bl b=>.ok b
 |_=>.stuck
theorem jR (h:FE X E e f)(he:∀whole,isTrue e X.env whole=(do let v←whole;standAt e.pos;r9 [v] (truthy v)):=by intro _;rfl):FT X E e (fTv f):=
 Io (abk h he) λσ H Q hE=>xq5 hE λO0 M0 H0 ow m R q=>⟨O0,M0,H0,ow,m,R,q.bind.imp (aM.refl _) λd q v H' g hv=>by
  cases d with
  |bl b=>cases hv;exact⟨b,rfl,q H' g⟩
  |_=>exact q.elim⟩
noncomputable def gV (ft:Me->Res Bool):Me->Res Bool:=λm=>(ft m).bind λc=>.ok<|!c
noncomputable def iC (ft fu:Me->Res Bool):Me->Res Bool:=λm=>(ft m).bind λc=>if c then fu m else .ok false
noncomputable def jz (ft fu:Me->Res Bool):Me->Res Bool:=λm=>(ft m).bind λc=>if c then .ok true else fu m
theorem lC (h:FT X E a ft):FT X E (.UnaryOp .Not a pos) (gV ft):=Io (abG h) λσ H Q hE=>xq5 hE λO0 M0 H0 ow m R q=>⟨O0,M0,H0,ow,m,R,q.bind.imp (aM.refl _) λb q H' g=>q H' g⟩
theorem wO (h:FT X E a ft):FW X E (.BoolOp .And [a] pos) ft:=Y6 h
theorem pQ (h:FT X E a ft):FW X E (.BoolOp .Or [a] pos) ft:=abm h
theorem Br (ha:FT X E a ft)(hb:FW X E (.BoolOp .And (b::es) pos) fu):FW X E (.BoolOp .And (a::b::es) pos) (iC ft fu):=
 QC (ab8 ha hb) λσ H Q hE=>xq5 hE λO0 M0 H0 ow m R q=>⟨O0,M0,H0,ow,m,R,q.bind.imp (aM.refl _) λb q H' g=>by
  cases b with
  |true=>rw[if_pos rfl] at q ⊢;exact⟨O0,M0,H0,ow,m,R.mono g,q.imp g λ_ k H1 g1=>k H1<|g.trans g1⟩
  |false=>rw[if_neg be] at q ⊢;exact q H' g⟩
theorem qH (ha:FT X E a ft)(hb:FW X E (.BoolOp .Or (b::es) pos) fu):FW X E (.BoolOp .Or (a::b::es) pos) (jz ft fu):=
 QC (aeu ha hb) λσ H Q hE=>xq5 hE λO0 M0 H0 ow m R q=>⟨O0,M0,H0,ow,m,R,q.bind.imp (aM.refl _) λb q H' g=>by
  cases b with
  |false=>rw[if_neg be] at q ⊢;exact⟨O0,M0,H0,ow,m,R.mono g,q.imp g λ_ k H1 g1=>k H1<|g.trans g1⟩
  |true=>rw[if_pos rfl] at q ⊢;exact q H' g⟩
theorem wg (h:FW X E e ft):FT X E e ft:=L2.PW.pt h
def TV (fa:Me->Res D):Me->Res D:=λm=>(fTv fa m).bind λc=>.ok<|.bl !c
def BL (fa fb:Me->Res D):Me->Res D:=λm=>(fTv fa m).bind λc=>if c then fb m else .ok (.bl false)
theorem Wz {G:Gx}{O:Zaa}{m:Me}{H:Hp}{k:Bool->Prop}(h:Pu G E (fTv fa m) H k):Pu G E (fa m) H λd=>∃b,d=.bl b/\k b:=by
 refine h.bind.imp (aM.refl _) λd q=>?_;cases d with
 |bl b=>exact⟨b,rfl,q⟩
 |_=>exact q.elim
theorem yD {op}(h:FE X E a fa):FE X E (.BoolOp op [a] pos) fa:=abV h
theorem zg (ha:FE X E a fa)(hb:FE X E (.BoolOp .And (b::es) pos) fb):FE X E (.BoolOp .And (a::b::es) pos) (BL fa fb):=
 bI (abU ha hb) λσ H Q hE=>xq5 hE λO0 M0 H0 ow m R q=>⟨O0,M0,H0,ow,m,R,(Wz (O:=O0) q.bind).imp (aM.refl _) λd ⟨b,e,q⟩ v H' g hv=>by
  subst e;cases hv;refine⟨b,rfl,?_⟩;cases b with
  |true=>rw[if_pos rfl] at q ⊢;exact⟨O0,M0,H0,ow,m,R.mono g,q.imp g λ_ k v H1 g1=>k v H1<|g.trans g1⟩
  |false=>rw[if_neg be] at q ⊢;exact q _ H' g<|.bl false⟩
theorem Mq (ha:FE X E a fa):FE X E (.UnaryOp .Not a pos) (TV fa):=
 bI (aa4 ha) λσ H Q hE=>xq5 hE λO0 M0 H0 ow m R q=>⟨O0,M0,H0,ow,m,R,(Wz (O:=O0) q.bind).imp (aM.refl _) λd ⟨b,e,q⟩ v H' g hv=>by
  subst e;cases hv;exact⟨b,rfl,q _ H' g<|.bl _⟩⟩
def aB:Me->Res (List D):=λ_=>.ok []
noncomputable def aj (fa:Me->Res D)(fs:Me->Res (List D)):Me->Res (List D):=λm=>(fa m).bind λx=>(fs m).bind λxs=>.ok (x::xs)
theorem aC:FAE X E [] aB:=pF rA λσ H Q hE=>xq5 hE λO0 M0 H0 ow m R q=>q [] H (aM.refl _) .nil
theorem aU:FAB X E [] aB:=pF rA λσ H Q hE=>xq5 hE λO0 M0 H0 ow m R q=>q [] H (aM.refl _) .nil
theorem ak (ha:FE X E e fa)(hr:FAE X E es fs)(hs:ax (e::es) X.env=(false,eval e X.env)::ax es X.env:=by rfl):FAE X E (e::es) (aj fa fs):=
 pF (jf ha hr hs) λσ H Q hE=>xq5 hE λO0 M0 H0 ow m R q=>⟨O0,M0,H0,ow,m,R,q.bind.imp (aM.refl _) λd q v H1 g1 hv=>⟨O0,M0,H0,ow,m,R.mono g1,q.bind.imp g1 λds q vs H2 g2 hvs=>q _ H2 (g1.trans g2)<|.cons (hv.mono g2) hvs⟩⟩
theorem aP (ha:FB X E e fa)(hr:FAB X E es fs)(hs:ax (e::es) X.env=(false,eval e X.env)::ax es X.env:=by rfl):FAB X E (e::es) (aj fa fs):=
 pF (jf ha hr hs) λσ H Q hE=>xq5 hE λO0 M0 H0 ow m R q=>⟨O0,M0,H0,ow,m,R,q.bind.imp (aM.refl _) λd q v H1 g1 hv=>⟨O0,M0,H0,ow,m,R.mono g1,q.bind.imp g1 λds q vs H2 g2 hvs=>q _ H2 (g1.trans g2)<|.cons (hv.mono g2) hvs⟩⟩
noncomputable def aY (fs:Me->Res (List D)):Me->Res D:=λm=>(fs m).bind λds=>if ds.length<=aw then .ok (.tup ds) else .stuck
noncomputable def fU (fs:Me->Res (List D)):Me->Res D:=λm=>(fs m).bind λds=>if ds.length<=aw then .ok (.lst ds) else .stuck
theorem CN {G:Gx}{α:Type}{c:Prop}[Decidable c]{r:α}{H:Hp}{k:α->Prop}(h:Pu G E (if c then .ok r else .stuck) H k):c/\k r:=by
 by_cases z:c
 ·rw[if_pos z] at h;exact⟨z,h⟩
 ·rw[if_neg z] at h;exact h.elim
theorem aZ {x1}(h:FAE X E es fs):FE X E (.Tuple es x1 pos) (aY fs):=bI (Qa h) λσ H Q hE=>xq5 hE λO0 M0 H0 ow m R q=>⟨O0,M0,H0,ow,m,R,q.bind.imp (aM.refl _) λds q vs H1 g1 hv=>by
 obtain⟨hz,k⟩:=CN q;exact⟨by rw[bR hv];exact hz,λp H' g e=>k _ H' (g1.trans g)<|.tup (SqU.of e)<|hv.mono g⟩⟩
theorem gj (h:FAE X E es fs):FN X E (.List es pos) (fU fs):=bI (abu<|aaT h) λσ H Q hE=>xq5 hE λO0 M0 H0 ow m R q=>⟨λvs H1=>aM H H1/\∃ds,DVs (gx X) (Ow O0 ow) H1 vs ds/\ds.length<=aw/\∀p H',aM H H'->H p=none->OV (gx X) (Op (Ow O0 ow) p) H' p (.lst ds)->Q (.ref p) H',⟨O0,M0,H0,ow,m,R,q.bind.imp (aM.refl _) λds q vs H1 g1 hv=>⟨g1,ds,hv,CN q⟩⟩,λvs H1 ⟨g1,ds,hv,hz,k⟩=>
 ⟨by rw[bR hv];exact hz,λp hp=>k p _ (g1.trans<|bL hp _) (g1.free hp) ⟨vs,aV,(hv.bV λb z=>z.elim .inl λe=>.inr (by rw[e];exact hp)).mono<|bL hp _⟩⟩⟩
noncomputable def aQ (g:List D->Option D)(fs:Me->Res (List D)):Me->Res D:=λm=>(fs m).bind λds=>ofO<|g ds
theorem PX {g:List D->Option D}{σ:L2.St}{H:Hp}{Q:VK}(h:tE (gx X) E (aQ g fs) σ H Q):tCB (rGC (gx X) g) (tAB (gx X) E fs) σ H Q:=by
 refine tW h λO0 M0 H0 ow m R q=>?_;refine⟨O0,M0,H0,ow,m,R,q.bind.imp (aM.refl _) λds q vs H1 g1 hv=>?_⟩;obtain⟨r,hr,k⟩:=q.ofO;exact⟨_,ds,r,(R.mono g1).mutk,hv,hr,λv H' g d=>k v H' (g1.trans g) d⟩
theorem V8 {g:List D->Option D}{σ:L2.St}{H:Hp}{Q:VK}(h:tN (gx X) E (aQ g fs) σ H Q):tCB (acx (gx X) g) (tAB (gx X) E fs) σ H Q:=by
 refine tW h λO0 M0 H0 ow m R q=>?_;refine⟨O0,M0,H0,ow,m,R,q.bind.imp (aM.refl _) λds q vs H1 g1 hv=>?_⟩;obtain⟨r,hr,k⟩:=q.ofO;exact⟨_,ds,r,(R.mono g1).mutk,hv,hr,λp H' g n d=>k p H' (g1.trans g) (g1.free n) d⟩
section
variable {x:Str}{p:Pos}{id T:String}{g:List D->Option D}
theorem cu (hc:iQ X (.builtin id) (rGC (gx X) g))(hg:Gl X x)(hm:X.mg x=none)(hv:dA x=some (.builtin id))(ha:FAB X E (e::es) fs)(hn:x≠"__name__":=by decide)(hdb:(x==("__debug__":Str))=false:=by decide)
  (he:ax (e::es) X.env=(false,eval e X.env)::ax es X.env:=by rfl) (τ:(ki pos<|ax es X.env).any (·.1)=false:=by rfl):FE X E (.Call (.Name x p) (e::es) [] pos) (aQ g fs):=
 bI (Kv hc hg hm hv ha hn hdb he τ) λ_ _ _ h=>PX h
theorem jy (hc:iQ X (.type T) (rGC (gx X) g))(hg:Gl X x)(hm:X.mg x=none)(hv:dA x=some (.type T))(ha:FAB X E (e::es) fs)(hn:x≠"__name__":=by decide)(hdb:(x==("__debug__":Str))=false:=by decide)
  (he:ax (e::es) X.env=(false,eval e X.env)::ax es X.env:=by rfl) (τ:(ki pos<|ax es X.env).any (·.1)=false:=by rfl):FE X E (.Call (.Name x p) (e::es) [] pos) (aQ g fs):=
 bI (uK hc hg hm hv ha hn hdb he τ) λ_ _ _ h=>PX h
theorem yq (hc:iQ X (.type T) (acx (gx X) g))(hg:Gl X x)(hm:X.mg x=none)(hv:dA x=some (.type T))(ha:FAB X E (e::es) fs)(hn:x≠"__name__":=by decide)(hdb:(x==("__debug__":Str))=false:=by decide)
  (he:ax (e::es) X.env=(false,eval e X.env)::ax es X.env:=by rfl) (τ:(ki pos<|ax es X.env).any (·.1)=false:=by rfl):FN X E (.Call (.Name x p) (e::es) [] pos) (aQ g fs):=
 bI (uK hc hg hm hv ha hn hdb he τ) λ_ _ _ h=>V8 h
end
noncomputable def tyD:String->D->Bool
 | "str",.str _=>true
 | "list",.lst _=>true
 | "dict",.dct _ _=>true
 | "dict",.dcu _ _=>true
 |_,_=>false
theorem aet {G:Gx}{O:Zaa}{H:Hp}{v:V}{d:D}{T:String}(h:DW G O H v d)(t:tyD T d=true):tyV G.K T v H:=by
 unfold tyD at t;split at t
 ·cases jo h;rfl
 ·obtain⟨a,xs,rfl,hx,_⟩:=jN h;exact .inl ⟨rfl,xs,hx⟩
 ·obtain⟨a,ι,vs,rfl,hx,_⟩:=yw h;exact .inr<|.inr<|.inl ⟨rfl,.inl ⟨ι,hx⟩⟩
 ·obtain⟨a,ι,vs,rfl,hx,_⟩:=Wg h;exact .inr<|.inr<|.inl ⟨rfl,.inr ⟨_,ι,.inl hx⟩⟩
 ·cases t
def Qt (T:String)(g:D->List D->Option D)(fo:Me->Res D)(fs:Me->Res (List D)):Me->Res D:=λm=>(fo m).bind λd=>if tyD T d=true then(fs m).bind λds=>ofO (g d ds) else .stuck
theorem Hr {G:Gx}{α:Type}{c:Prop}[Decidable c]{r:Res α}{H:Hp}{k:α->Prop}(h:Pu G E (if c then r else .stuck) H k):c/\Pu G E r H k:=by
 by_cases z:c
 ·rw[if_pos z] at h;exact⟨z,h⟩
 ·rw[if_neg z] at h;exact h.elim
section
variable {o:Expr}{name:Str}{apos η:Pos}{T id:String}{g:D->List D->Option D}
theorem aez (pa:PlainAttrs T)(slot:Slot T name id)(hty:typeOf (.builtin id)=pure (.type "method_descriptor"))(hm:MtR X id (rGM (gx X) g))(ho:FB X E o fa)(ha:FAB X E (e::es) fs)
  (ψ:gE o name X.env (eval o X.env)=eval o X.env:=by rfl)
  (ξ:((ki η<|ax (e::es) X.env).all (λx=>!x.1)&&(wx η<|nV [] X.env).all (λx=>x.1.isSome)
   && decide ((e::es).length+([]:List nX).length+(if([]:List nX).isEmpty then 0 else 1)<30))=true:=by rfl)
  (θ:(apos.endLine==η.line)=true:=by rfl) (hs:ax (e::es) X.env=(false,eval e X.env)::ax es X.env:=by rfl) (hplain:(ki η<|ax es X.env).any (·.1)=false:=by rfl):
  FE X E (.Call (.Attribute o name apos) (e::es) [] η) (Qt T g fa fs):=
 bI (Oq pa slot hty hm ho ha ψ ξ θ hs hplain) λσ H Q hE=>xq5 hE λO0 M0 H0 ow m R q=>⟨O0,M0,H0,ow,m,R,q.bind.imp (aM.refl _) λd q v H1 g1 hv=>by
  obtain⟨t,q⟩:=Hr q;refine⟨aet hv t,O0,M0,H0,ow,m,R.mono g1,q.bind.imp g1 λds q vs H2 g2 hvs=>?_⟩;obtain⟨r,hr,k⟩:=q.ofO;exact⟨_,d,ds,r,(R.mono<|g1.trans g2).mutk,hv.mono g2,hvs,hr,λv H' g d=>k v H' ((g1.trans g2).trans g) d⟩⟩
end
end
inductive Fl where
 |nx|bk|ct|rt (fr:Bool) (d:D)
abbrev Zba:=D->Me->Option Me
abbrev Zaf:=Me->Res Bool
abbrev Zae:=Me->Res D
abbrev Zad:=Me->Res (List D)
abbrev Zac:=List D->Res (Bool×D)
abbrev Zab:=Me->Res (Fl×Me)
mutual
def aav:D->Bool
 | .non|.bl _|.int _|.str _=>true
 | .tup ds=>Mz ds
 |_=>false
def Mz:List D->Bool
 |[]=>true
 |d::ds=>aav d&&Mz ds
end
section
end
inductive SX (G:Gx)(H0 H':Hp):List Addr->List V->List D->Prop where
 |nil:SX G H0 H' [] [] []
 |flat {v:V} {d:D} {vs:List V} {ds:List D} {qs:List Addr}:DV G (λ_=>False) H' v d->aav d=true->SX G H0 H' qs vs ds->SX G H0 H' qs (v::vs) (d::ds)
 |new {q:Addr} {xs:List V} {es:List D} {vs:List V} {ds:List D} {qs:List Addr}:H0 q=none->H' q=some (.lst xs)->DVs G (λ_=>False) H' xs es->Mz es=true->q∉qs->SX G H0 H' qs vs ds->SX G H0 H' (q::qs) (.ref q::vs) (.lst es::ds)
def Fr (G:Gx)(O:Zaa)(H0:Hp)(v:V)(H':Hp)(d:D):Prop:=(∃p,v=.ref p/\H0 p=none/\OV G (Op O p) H' p d)\/∃p xs ds qs,d=.tup ds/\v=.ref p/\SqU G.K H' p xs/\SX G H0 H' qs xs ds
def isTup:D->Bool
 | .tup _=>true
 |_=>false
theorem Fr.lst (h:Fr G O H0 v H' d)(ht:isTup d=false):∃p,v=.ref p/\H0 p=none/\OV G (Op O p) H' p d:=by
 rcases h with h|⟨p,xs,ds,qs,e,_⟩
 ·exact h
 ·rw[e] at ht;cases ht
def Ss (G:Gx)(E:XK)(O0 M0:Zaa)(H0:Hp)(ow:Os)(H:Hp)(W:Ends)(r:Res (Fl×Me)):Prop:=match r with
 | .ok (.nx,m')=>∀ow' σ' H',cT G O0 M0 H0 ow' σ' H' m'->Go O0 ow H ow' H'->W.nx σ' H'
 | .ok (.bk,m')=>∀ow' σ' H',cT G O0 M0 H0 ow' σ' H' m'->Go O0 ow H ow' H'->W.bk σ' H'
 | .ok (.ct,m')=>∀ow' σ' H',cT G O0 M0 H0 ow' σ' H' m'->Go O0 ow H ow' H'->W.ct σ' H'
 | .ok (.rt fr d,m')=>∀v ow' σ' H',cT G O0 M0 H0 ow' σ' H' m'->Go O0 ow H ow' H'->DV G (Ow O0 ow') H' v d->(fr=true->Fr G (Ow O0 ow') H0 v H' d)->W.rt v H'
 | .exc c=>∀C H',G.mg c=some (.ref C)->Kp M0 H0 H'->E (.ref C) none H'
 | .stuck=>False
def tS (G:Gx)(E:XK)(g:Zab):TS:=λW σ H=>∃O0 M0 H0 ow m,cT G O0 M0 H0 ow σ H m/\Ss G E O0 M0 H0 ow H W (g m)
abbrev FS (X:Cx)(E:XK)(st:Stmt)(g:Zab):Prop:=PS X st<|tS (gx X) E g
abbrev FSs (X:Cx)(E:XK)(st:List Stmt)(g:Zab):Prop:=PSs X st<|tS (gx X) E g
theorem cL {X:Cx}{st:Stmt}{T T':TS}(h:PS X st T)(k:∀W σ H,T' W σ H->T W σ H):PS X st T':=λπ s σ H W I q=>h π s σ H W I<|k W σ H q
theorem yg {X:Cx}{st:List Stmt}{T T':TS}(h:PSs X st T)(k:∀W σ H,T' W σ H->T W σ H):PSs X st T':=λπ s σ H W I q=>h π s σ H W I<|k W σ H q
section
theorem Ss.pu (R:Rel G O0 M0 H0 ow σ H m)(h:Ss G E O0 M0 H0 ow H W (x.bind k)):Pu G E x H λa=>Ss G E O0 M0 H0 ow H W (k a):=by
 cases x with
 |ok a=>exact h
 |exc c=>exact λC H' e g=>h C H' e λb o e n=>g b o<|R.keep b o e n
 |stuck=>exact h
theorem Ss.go (h:Ss G E O0 M0 H0 ow H W r)(g:Go O0 ow H ow' H'):Ss G E O0 M0 H0 ow' H' W r:=by
 cases r with
 |ok a=>
  obtain⟨f,m'⟩:=a;cases f with
  |nx=>exact λow1 σ1 H1 R g1=>h ow1 σ1 H1 R<|g.trans g1
  |bk=>exact λow1 σ1 H1 R g1=>h ow1 σ1 H1 R<|g.trans g1
  |ct=>exact λow1 σ1 H1 R g1=>h ow1 σ1 H1 R<|g.trans g1
  |rt fr d=>exact λv ow1 σ1 H1 R g1=>h v ow1 σ1 H1 R<|g.trans g1
 |exc c=>exact h
 |stuck=>exact h
theorem Ss.ofO (h:Ss G E O0 M0 H0 ow H W ((ofO x).bind k)):∃a,x=some a/\Ss G E O0 M0 H0 ow H W (k a):=by
 cases x with
 |some a=>exact⟨a,rfl,h⟩
 |none=>exact h.elim
end
def gNx:Zab:=λm=>.ok (.nx,m)
noncomputable def aK (g k:Zab):Zab:=λm=>match g m with
 | .ok (.nx,m')=>k m'
 |r=>r
noncomputable def bc (i:Nat)(f:Zae):Zab:=λm=>(f m).bind λd=>.ok (.nx,m.set i<|.fz d)
noncomputable def cX (i:Nat)(f:Zae):Zab:=λm=>(f m).bind λd=>if i<m.length then .ok (.nx,m.set i<|.ow d) else .stuck
noncomputable def gEx (f:Zae):Zab:=λm=>(f m).bind λ_=>.ok (.nx,m)
def bM (f:Zae):Zab:=λm=>(f m.let).bind λd=>.ok (.rt false d,m.let)
def nj (f:Zae):Zab:=λm=>(f m.let).bind λd=>.ok (.rt true d,m.let)
def gU (i:Nat):Zab:=λm=>match m[i]? with
 |some (.ow d)=>.ok (.rt true d,m.let)
 |some (.fz d)=>.ok (.rt false d,m.let)
 |_=>.stuck
noncomputable def gIf (t:Zaf)(g k:Zab):Zab:=λm=>(t m).bind λc=>if c then g m else k m
noncomputable def Vb (i:Nat)(k:Zab):Zab:=λm=>match m[i]? with
 |some (.ow d)=>k<|m.set i<|.fz d
 |_=>k m
section
variable {X:Cx}{E:XK}{e c:Expr}{es:List Expr}{st:Stmt}{rest sa sb:List Stmt}{f:Zae}{ft:Zaf}{g k ga gb:Zab}{pos pos':Pos}{i:Nat}{x:Str}
theorem bT:FSs X E [] gNx:=yg Qg λW σ H hE=>xq5 hE λO0 M0 H0 ow m R q=>q ow σ H R<|Go.refl<|aM.refl _
theorem abR (h:tS G E (aK g k) W σ H):aer (tS G E g) (tS G E k) W σ H:=by
 refine tW h λO0 M0 H0 ow m R q=>?_;refine⟨O0,M0,H0,ow,m,R,?_⟩;unfold aK at q;cases z:g m with
 |ok a=>
  obtain⟨f,m'⟩:=a;rw[z] at q;cases f with
  |nx=>exact λow' σ' H' R' g'=>⟨O0,M0,H0,ow',m',R',Ss.go q g'⟩
  |bk=>exact q
  |ct=>exact q
  |rt fr d=>exact q
 |exc c=>rw[z] at q;exact q
 |stuck=>rw[z] at q;exact q
theorem aA (h1:FS X E st g)(h2:FSs X E rest k):FSs X E (st::rest) (aK g k):=yg (KZ h1 h2) λW σ H h=>abR h
theorem aH (h1:FS X E st g):FSs X E [st] g:=HD h1
theorem aad (i:Nat)(h:FSs X E rest k):FSs X E rest (Vb i k):=yg h λW σ H hE=>xq5 hE λO0 M0 H0 ow m R q=>by
 unfold Vb at q;cases z:m[i]? with
 |none=>rw[z] at q;exact⟨O0,M0,H0,ow,m,R,q⟩
 |some s=>
  rw[z] at q;cases s with
  |ow d=>
   refine gH (R.slot i _ z) λa h1 h2 h3 h4=>?_;have na:¬Ow O0 (owS ow i none) a:=λw=>by
    rcases w with w|⟨j,w⟩
    ·exact R.no0 i a h1 w
    ·by_cases e:j=i
     ·subst e;rw[dM] at w;cases w
     ·rw[cZ e] at w;exact e<|R.inj j i a w h1
   have sub:∀b,Ow O0 (owS ow i none) b->Ow O0 ow b\/H b=none:=λb z=>.inl z.sub;have hi:=rM z;have R2:cT (gx X) O0 M0 H0 (owS ow i none) σ H (m.set i<|.fz d):=by
    refine⟨⟨by simp[R.len],R.keep,R.m0,λb z=>R.mutk b z.sub,λj b e=>?_,λj k b e1 e2=>?_,λj hj=>?_,λj s e=>?_⟩,yP R.nb λ_ z=>by cases z⟩
    ·by_cases q:j=i
     ·subst q;rw[dM] at e;cases e
     ·rw[cZ q] at e;exact R.no0 j b e
    ·by_cases q:j=i
     ·subst q;rw[dM] at e1;cases e1
     ·by_cases q':k=i
      ·subst q';rw[dM] at e2;cases e2
      ·rw[cZ q] at e1;rw[cZ q'] at e2;exact R.inj j k b e1 e2
    ·by_cases q:j=i
     ·subst q;exact dM
     ·rw[cZ q];exact R.out j<|by simpa using hj
    ·by_cases q:j=i
     ·subst q;rw[bo hi] at e;cases e;rw[dM];exact⟨rfl,.ref a,h3,(h4.bV sub).dv na⟩
     ·rw[br<|eS q] at e;rw[cZ q];exact(R.slot j s e).bV sub λ_ _ b _=>tf _
   exact⟨O0,M0,H0,_,_,R2,Ss.go q Go.set⟩
  |_=>exact⟨O0,M0,H0,ow,m,R,q⟩
theorem Wj (h:tS G E (bc i f) W σ H):TQ (tE G E f) (wy i) W σ H:=by
 refine tW h λO0 M0 H0 ow m R q=>?_;refine⟨O0,M0,H0,ow,m,R.toRel,(Ss.pu R.toRel q).imp (aM.refl _) λd q v H' g' hv=>?_⟩;exact q _ _ _ ((R.mono g').set hv)<|(Go.refl g').trans Go.set
theorem W7 (h:tS G E (cX i f) W σ H):TQ (tN G E f) (wy i) W σ H:=by
 refine tW h λO0 M0 H0 ow m R q=>?_;refine⟨O0,M0,H0,ow,m,R.toRel,(Ss.pu R.toRel q).imp (aM.refl _) λd q p H' g' n hv=>?_⟩;by_cases hi:i<m.length
 ·rw[if_pos hi] at q;exact q _ _ _ (R.own g' n (R.toRel.JW n) hv hi)<|Go.own g' n
 ·rw[if_neg hi] at q;exact q.elim
theorem abn (hN:X.N.Nodup)(hi:X.N[i]? = some x)(hx:Loc X.env.scope x)(he:FE X E e f)(hs:gN e (some<|.Name x pos') pos.line X.env=pure false:=by rfl)
  (hf:X.fn x=true\/X.env.scope.names.lookup x=some .local:=by first|exact .inl rfl|exact .inr rfl|assumption):FS X E (.Assign [.Name x pos'] e pos) (bc i f):=cL (Dk hN hi hx he hs hf) λ_ _ _ h=>Wj h
theorem Wq (hN:X.N.Nodup)(hi:X.N[i]? = some x)(hx:Loc X.env.scope x)(he:FN X E e f)(hs:gN e (some<|.Name x pos') pos.line X.env=pure false:=by rfl)
  (hf:X.fn x=true\/X.env.scope.names.lookup x=some .local:=by first|exact .inl rfl|exact .inr rfl|assumption):FS X E (.Assign [.Name x pos'] e pos) (cX i f):=cL (Dk hN hi hx he hs hf) λ_ _ _ h=>W7 h
theorem Yr (he:FE X E e f)(hs:gN e none pos.line X.env=pure false:=by rfl):FS X E (.Expr e pos) (gEx f):=cL (uN he hs) λW σ H hE=>xq5 hE λO0 M0 H0 ow m R q=>
 ⟨O0,M0,H0,ow,m,R.toRel,(Ss.pu R.toRel q).imp (aM.refl _) λd q v H' g' hv=>q _ _ _ (R.mono g')<|Go.refl g'⟩
theorem bK (he:FE X E e f):FS X E (.Return (some e) pos) (bM f):=cL (Dd he) λW σ H hE=>xq5 hE λO0 M0 H0 ow m R q=>by
 obtain⟨ow',R',g1⟩:=R.let;exact⟨O0,M0,H0,ow',m.let,R'.toRel,(Ss.pu R'.toRel<|Ss.go q g1).imp (aM.refl _) λd q v H' g' hv=>q v ow' σ H' (R'.mono g') (Go.refl g') hv λz=>by cases z⟩
theorem rJ (he:FN X E e f):FS X E (.Return (some e) pos) (nj f):=cL (Dd he) λW σ H hE=>xq5 hE λO0 M0 H0 ow m R q=>by
 obtain⟨ow',R',g1⟩:=R.let;exact⟨O0,M0,H0,ow',m.let,R'.toRel,(Ss.pu R'.toRel<|Ss.go q g1).imp (aM.refl _) λd q p H' g' n hv=>
  q _ ow' σ H' (R'.mono g') (Go.refl g') ((hv.bV λb z=>.inl<|.inl z).dv<|R'.toRel.Kz n) λ_=>.inl ⟨p,rfl,R'.toRel.JW n,hv⟩⟩
theorem jH (i:Nat)(hN:X.N[i]? = some x:=by rfl)(hv:Vis X.env.scope x:=by first|exact iP rfl|exact gX (iP rfl)|exact gX (gX rfl))(hd:(x==("__debug__":Str))=false:=by decide)
  (hcd:(x==("__classdict__":Str))=false:=by decide):FS X E (.Return (some<|.Name x pos') pos) (gU i):=cL (Dd<|jk hN hv hd hcd) λW σ H hE=>xq5 hE λO0 M0 H0 ow m R q=>by
 obtain⟨ow',R',g1⟩:=R.let;unfold gU at q;cases z:m[i]? with
 |none=>rw[z] at q;exact q.elim
 |some s=>
  rw[z] at q;have zl:m.let[i]? = some s.let:=by unfold Me.let;rw[bX,z];rfl
  cases s with
  |fz d=>
   obtain⟨_,v,e,hv⟩:=R'.slot i _ zl;exact⟨v,e,q v ow' σ H R' g1 hv λz=>by cases z⟩
  |ow d=>
   obtain⟨_,v,e,hv⟩:=R'.slot i _ zl;refine gH (R.slot i _ z) λa h1 h2 h3 h4=>?_;rw[h3] at e;cases e;refine⟨_,h3,q _ ow' σ H R' g1 hv λ_=>.inl ⟨a,rfl,h2,h4.bV λb w=>.inl ?_⟩⟩;rcases w with w|w
   ·rcases w with w|⟨j,w⟩
    ·exact .inl w
    ·rcases g1.new j b w with w'|w'
     ·exact w'
     ·have:=R'.mutk b (.inr ⟨j,w⟩)
      rw[w'] at this;rcases this with⟨_,e⟩|⟨_,e⟩|⟨_,e⟩|⟨_,e⟩<;>cases e
   ·rw[w];exact .inr ⟨i,h1⟩
  |_=>exact q.elim
theorem dD (hc:FT X E c ft)(ha:FSs X E sa ga)(hb:FSs X E sb gb):FS X E (.If c sa sb pos) (gIf ft ga gb):=cL (aax hc ha hb) λW σ H hE=>xq5 hE λO0 M0 H0 ow m R q=>
 ⟨O0,M0,H0,ow,m,R.toRel,(Ss.pu R.toRel q).imp (aM.refl _) λb q H' g'=>by
  cases b with
  |true=>rw[if_pos rfl] at q ⊢;exact⟨O0,M0,H0,ow,m,R.mono g',Ss.go q<|Go.refl g'⟩
  |false=>rw[if_neg be] at q ⊢;exact⟨O0,M0,H0,ow,m,R.mono g',Ss.go q<|Go.refl g'⟩⟩
noncomputable def wh (t:Zaf)(b:Zab):Nat->Me->Option (Res<|Fl×Me)
 |0,_=>none
 |n+1,m=>match t m with
  | .ok true=>match b m with
   | .ok (.nx,m')=>wh t b n m'
   | .ok (.ct,m')=>wh t b n m'
   | .ok (.bk,m')=>some<|.ok (.nx,m')
   | .ok (.rt fr d,m')=>some<|.ok (.rt fr d,m')
   | .exc c=>some<|.exc c
   | .stuck=>some .stuck
  | .ok false=>some<|.ok (.nx,m)
  | .exc c=>some<|.exc c
  | .stuck=>some .stuck
theorem Oe:∀{n:Nat} {m:Me} {r:Res (Fl×Me)},wh t b n m=some r->wh t b (n+1) m=some r
 |0,_,_,h=>by cases h
 |n+1,m,r,h=>by
  have ih:=@Oe t b n;unfold wh at h ⊢;split
  ·rename_i e;rw[e] at h;split
   ·rename_i m' e2;rw[e2] at h;exact ih h
   ·rename_i m' e2;rw[e2] at h;exact ih h
   ·rename_i m' e2;rw[e2] at h;exact h
   ·rename_i fr d m' e2;rw[e2] at h;exact h
   ·rename_i c e2;rw[e2] at h;exact h
   ·rename_i e2;rw[e2] at h;exact h
  ·rename_i e;rw[e] at h;exact h
  ·rename_i e;rw[e] at h;exact h
  ·rename_i e;rw[e] at h;exact h
theorem MK (h:wh t b n m=some r):∀k,wh t b (n+k) m=some r
 |0=>h
 |k+1=>Oe<|MK h k
open Classical in
def oF (t:Zaf)(b:Zab):Zab:=λm=>
 if h:∃n r,wh t b n m=some r then mf (fy h) else .stuck
theorem S9 (h:oF t b m≠.stuck):∃n,wh t b n m=some (oF t b m):=by
 unfold oF at h ⊢;split at h
 ·rename_i q;rw[dif_pos q];exact⟨_,fy<|fy q⟩
 ·exact absurd rfl h
theorem uQ (n:Nat)(h:wh t b n m=some r):oF t b m=r:=by
 unfold oF;have q:∃n r,wh t b n m=some r:=⟨n,r,h⟩;rw[dif_pos q];have z:=fy<|fy q;have a:=MK z n;have b':=MK h<|mf q;rw[Nat.add_comm] at b';rw[a] at b';exact cE b'
theorem ym {body:List Stmt}(hp:tz (dr X.prog X.w) X.A X.env X.xe)(hc:FT X E c ft)(hb:FSs X E body g):FS X E (.While c body [] pos) (oF ft g):=cL (Ve hp hc hb) λW σ H hE=>xq5 hE λO0 M0 H0 ow m R q=>by
 obtain⟨n,hn⟩:=S9 (t:=ft) (b:=g) (m:=m) (λz=>by rw[z] at q;exact q);generalize oF ft g m=r at *;refine⟨λn σ' H'=>∃ow' m',cT (gx X) O0 M0 H0 ow' σ' H' m'/\Go O0 ow H ow' H'/\wh ft g n m'=some r,⟨n,ow,m,R,Go.refl<|aM.refl _,hn⟩,?_⟩;rintro n σ1 H1 ⟨ow1,m1,R1,g1,h1⟩;cases n with
 |zero=>cases h1
 |succ n=>
  refine⟨O0,M0,H0,ow1,m1,R1.toRel,?_⟩;unfold wh at h1;cases e:ft m1 with
  |exc c=>
   rw[e] at h1;cases h1;exact λC H' e g'=>q C H' e λb o e n=>g' b o<|R1.keep b o e n
  |stuck=>rw[e] at h1;cases h1;exact q.elim
  |ok t=>
   rw[e] at h1;intro H2 g2;have R2:=R1.mono g2;have G2:=g1.trans<|Go.refl g2;cases t with
   |false=>
    cases h1;rw[if_neg be];exact q _ _ _ R2 G2
   |true=>
    rw[if_pos rfl];have h1:(match g m1 with
     | .ok (.nx,m')=>wh ft g n m'
     | .ok (.ct,m')=>wh ft g n m'
     | .ok (.bk,m')=>some<|.ok (.nx,m')
     | .ok (.rt fr d,m')=>some<|.ok (.rt fr d,m')
     | .exc c=>some<|.exc c
     | .stuck=>some .stuck)=some r:=h1
    refine⟨λσ' H'=>∃ow' m',cT (gx X) O0 M0 H0 ow' σ' H' m'/\Go O0 ow H ow' H'/\wh ft g n m'=some r,λσ' H' z=>⟨n,Nat.lt_succ_self _,z⟩,O0,M0,H0,ow1,m1,R2,?_⟩;cases e2:g m1 with
    |exc c=>rw[e2] at h1;cases h1;exact q
    |stuck=>rw[e2] at h1;cases h1;exact q
    |ok a=>
     obtain⟨f2,m2⟩:=a;rw[e2] at h1;cases f2 with
     |nx=>exact λow' σ' H' R' g'=>⟨ow',m2,R',G2.trans g',h1⟩
     |ct=>exact λow' σ' H' R' g'=>⟨ow',m2,R',G2.trans g',h1⟩
     |bk=>cases h1;exact λow' σ' H' R' g'=>q ow' σ' H' R'<|G2.trans g'
     |rt fr d=>cases h1;exact λv ow' σ' H' R' g'=>q v ow' σ' H' R'<|G2.trans g'
end
def NbP (m m':Me):Prop:=(∀(j:Nat) (d:D),m[j]?≠some (Sl.bw d))->∀(j:Nat) (d:D),m'[j]?≠some (Sl.bw d)
def tG (G:Gx)(k:Nat)(h:Zba):TG:=λv σ H Q=>∃O0 M0 H0 ow m d m',Rel G O0 M0 H0 ow σ H m/\DV G (Ow O0 ow) H v d/\h d m=some m'/\
 ∀ow' σ',Rel G O0 M0 H0 ow' σ' H m'->Go O0 ow H ow' H->NbP m m'->σ'.drop k=σ.drop k->Q σ' H
def tGs (G:Gx)(k:Nat)(h:List D->Me->Option Me):TGs:=λvs σ H Q=>∃O0 M0 H0 ow m ds m',Rel G O0 M0 H0 ow σ H m/\DVs G (Ow O0 ow) H vs ds/\h ds m=some m'/\
 ∀ow' σ',Rel G O0 M0 H0 ow' σ' H m'->Go O0 ow H ow' H->NbP m m'->σ'.drop k=σ.drop k->Q σ' H
abbrev FG (X:Cx)(k:Nat)(tg:Expr)(h:Zba):Prop:=PG X tg<|tG (gx X) k h
abbrev FGs (X:Cx)(k:Nat)(tgs:List Expr)(h:List D->Me->Option Me):Prop:=PGs X tgs<|tGs (gx X) k h
theorem Oc (h:PG X e T)(k:∀v σ H Q,T' v σ H Q->T v σ H Q):PG X e T':=λπ s σ H v u Q I r q=>h π s σ H v u Q I r<|k v σ H Q q
theorem K3 (h:PGs X es T)(k:∀v σ H Q,T' v σ H Q->T v σ H Q):PGs X es T':=λπ s σ H v u Q I r q=>h π s σ H v u Q I r<|k v σ H Q q
noncomputable def hName (i:Nat):Zba:=λd m=>some<|m.set i<|.fz d
noncomputable def iM:List D->Me->Option Me
 |[],m=>some m
 |_,_=>none
noncomputable def bC (h:Zba)(hs:List D->Me->Option Me):List D->Me->Option Me
 |d::ds,m=>(h d m).bind λm'=>hs ds m'
 |_,_=>none
noncomputable def iW (n:Nat)(hs:List D->Me->Option Me):Zba
 | .tup ds,m=>if ds.length=n then hs ds m else none
 |_,_=>none
section
theorem ZD (hN:X.N.Nodup)(hi:X.N[i]? = some x)(hx:Loc X.env.scope x)(hk:i<k:=by decide)(hf:X.fn x=true\/X.env.scope.names.lookup x=some .local:=by first|exact .inl rfl|exact .inr rfl|assumption):FG X k (.Name x pos) (hName i):=
 Oc (PK hN hi hx hf) λv σ H Q hE=>xq7 hE λO0 M0 H0 ow m d m' R hv e q=>by
  cases e;refine q _ _ (R.set hv) Go.set (λnb=>yP nb λ_ z=>by cases z) ?_;rw[List.drop_set,if_pos<|by lia]
theorem ir:FGs X k [] iM:=K3 XF λvs σ H Q hE=>xq7 hE λO0 M0 H0 ow m ds m' R hv e q=>by
 cases hv with
 |nil=>cases e;exact⟨rfl,q _ _ R (Go.refl<|aM.refl _) id rfl⟩
 |cons a t=>cases e
theorem bH (h1:FG X k e h)(h2:FGs X k es hs)(hst:(kq (e::es) X.env).map (·.2)=tw e X.env::(kq es X.env).map (·.2):=by rfl):FGs X k (e::es) (bC h hs):=
 K3 (Va h1 h2 hst) λvs σ H Q hE=>xq7 hE λO0 M0 H0 ow m ds m' R hv e q=>by
  cases hv with
  |nil=>cases e
  | @cons v vs' d ds' a t=>
   have e':(h d m).bind (λm'=>hs ds' m')=some m':=e;cases e1:h d m with
   |none=>rw[e1] at e';cases e'
   |some m1=>
    rw[e1] at e';exact⟨v,vs',rfl,O0,M0,H0,ow,m,d,m1,R,a,e1,λow' σ' R' g' nb hd=>⟨O0,M0,H0,ow',m1,ds',m',R',t.go R.mutk g'.ev,e',λow2 σ2 R2 g2 nb2 hd2=>q ow2 σ2 R2 (g'.trans g2) (λz=>nb2<|nb z)<|hd2.trans hd⟩⟩
theorem kY (hc:X.calm=true)(h:FGs X k es hs)(hn:(kq es X.env).length=n:=by rfl)(hst:(kq es X.env).findIdx? (·.1)=none:=by rfl):FG X k (.Tuple es j pos) (iW n hs):=
 Oc (abl hc h hn hst) λv σ H Q hE=>xq7 hE λO0 M0 H0 ow m d m' R hv e q=>by
  cases d with
  |tup ds=>
   obtain⟨a,xs,rfl,hx,hd⟩:=yI<|.inl hv;have e':(if ds.length=n then hs ds m else none)=some m':=e;by_cases z:ds.length=n
   ·rw[if_pos z] at e';exact⟨a,xs,rfl,hx,by rw[bR hd];exact z,O0,M0,H0,ow,m,ds,m',R,hd,e',q⟩
   ·rw[if_neg z] at e';cases e'
  |_=>cases e
end
def zf (G:Gx)(J:It)(ds:List D)(P:(Zaa)->Hp->Prop):Prop:=∀O H,P O H->
 (∀i,i<ds.length->J.go i H)/\(∀i x H',i<ds.length->J.yld i H x H'->aM H H'/\∃d,ds[i]? = some d/\DV G O H' x d)/\J.stop ds.length H
def tI (G:Gx)(E:XK)(f:Zad):TI:=λσ H R=>∃O0 M0 H0 ow m,Rel G O0 M0 H0 ow σ H m/\Pu G E (f m) H λds=>∀J H',aM H H'->zf G J ds (λO H2=>Ev (Ow O0 ow) H' O H2)->R J H'
def tIw (G:Gx)(E:XK)(f:Zad):TI:=λσ H R=>∃O0 M0 H0 ow m,Rel G O0 M0 H0 ow σ H m/\Pu G E (f m) H λds=>∀J H',aM H H'->zf G J ds (λO H2=>(∀b,O b->Ow O0 ow b\/H' b=none)/\aM H' H2)->R J H'
abbrev FI (X:Cx)(E:XK)(tg e:Expr)(f:Zad):Prop:=PI X tg e<|tI (gx X) E f
abbrev FIw (X:Cx)(E:XK)(tg e:Expr)(f:Zad):Prop:=PI X tg e<|tIw (gx X) E f
theorem jU (h:PI X tg e T)(k:∀σ H R,T' σ H R->T σ H R):PI X tg e T':=λπ s σ H R I q=>h π s σ H R I<|k σ H R q
noncomputable def fL (f:Zae):Zad:=λm=>(f m).bind λd=>match d with
 | .lst ds=>.ok ds
 |_=>.stuck
noncomputable def jB (f:Zae):Zad:=λm=>(f m).bind λd=>match d with
 | .tup ds=>.ok ds
 |_=>.stuck
noncomputable def pH (f:Zad):Zad:=λm=>(f m).bind λd=>match d with
 |[.int j]=>if -(2^62)<=j/\j<2^62 then .ok ((cf j.toNat).map λ(i:Nat)=>D.int i) else .stuck
 |_=>.stuck
noncomputable def Ov (f:Zad):Zad:=λm=>(f m).bind λd=>match d with
 |[.int i,.int j]=>if -(2^62)<=i/\i<2^62/\-(2^62)<=j/\j<2^62 then .ok ((cf (j-i).toNat).map λ(k:Nat)=>D.int<|i+k) else .stuck
 |_=>.stuck
theorem Xm (m:∀b,O b->fM (H b))(hl:LstAt G.K O H a xs)(hd:DVs G O H xs ds):zf G (Itl G.K a) ds (λO' H2=>Ev O H O' H2):=by
 intro O' H2 ev;have hq:SqL G.K H2 a xs:=(uq ev.2 hl).sq;have hd2:=hd.go m ev;have ν:=bR hd;refine⟨λi hi=>⟨xs,xs[i]'(by lia),hq,by simp⟩,λi x H' hi y=>?_,xs,hq,by lia⟩;obtain⟨e,y⟩:=y;subst e;obtain⟨d,h1,h2⟩:=nu hd2<|y xs hq;exact⟨aM.refl _,d,h1,h2⟩
theorem Wo (m:∀b,O b->fM (H b))(hl:SqL G.K H a xs)(hd:DVs G O H xs ds):zf G (Itl G.K a) ds (λO' H2=>(∀b,O' b->O b\/H b=none)/\aM H H2):=by
 intro O' H2 ⟨sub,g⟩;have hq:SqL G.K H2 a xs:=KH hl g;have hd2:=hd.go m ⟨sub,.of g⟩;have ν:=bR hd;refine⟨λi hi=>⟨xs,xs[i]'(by lia),hq,by simp⟩,λi x H' hi y=>?_,xs,hq,by lia⟩;obtain⟨e,y⟩:=y;subst e;obtain⟨d,h1,h2⟩:=nu hd2<|y xs hq;exact⟨aM.refl _,d,h1,h2⟩
theorem aa7 (m:∀b,O b->fM (H b))(hl:SqT G.K H a xs)(hd:DVs G O H xs ds):zf G (Itt G.K a) ds (λO' H2=>Ev O H O' H2):=by
 intro O' H2 ev;have hq:SqT G.K H2 a xs:=MP m ev.2 hl;have hd2:=hd.go m ev;have ν:=bR hd;refine⟨λi hi=>⟨xs,xs[i]'(by lia),hq,by simp⟩,λi x H' hi y=>?_,xs,hq,by lia⟩;obtain⟨e,y⟩:=y;subst e;obtain⟨d,h1,h2⟩:=nu hd2<|y xs hq;exact⟨aM.refl _,d,h1,h2⟩
theorem zf.weak (h:zf G J ds (λO' H2=>Ev O H O' H2)):zf G J ds (λO' H2=>(∀b,O' b->O b\/H b=none)/\aM H H2):=
 λO' H2 ⟨s,g⟩=>h O' H2 ⟨s,.of g⟩
theorem KJ {G:Gx}{lo:Int}{n:Nat}{P:(Zaa)->Hp->Prop}:zf G (Itr lo n) ((cf n).map λ(k:Nat)=>D.int<|lo+k) P:=by
 intro O H _;refine⟨λi hi=>(show i<n by simpa using hi),λi x H' hi y=>?_,by show n<=_;simp⟩;obtain⟨e,y⟩:=y;subst e y;have hi':i<n:=by simpa using hi
 exact⟨aM.refl _,_,by simp[bX,AD hi'],.int _⟩
section
variable {X:Cx}{E:XK}{tg e a b:Expr}{f:Zae}{fs:Zad}{p pos:Pos}
theorem lW (h:FE X E e f):FI X E tg e (fL f):=jU (NQ h) λσ H R hE=>xq5 hE λO0 M0 H0 ow m Re q=>⟨O0,M0,H0,ow,m,Re,q.bind.imp (aM.refl _) λd q v H' g hv=>by
 cases d with
 |lst ds=>
  cases hv with
  |lst hl hd=>exact⟨_,rfl,⟨_,hl.sq⟩,q _ H' g<|Xm (Re.mono g).mutk hl hd⟩
 |_=>exact q.elim⟩
theorem oM (h:FE X E e f):FI X E tg e (jB f):=jU (acW h) λσ H R hE=>xq5 hE λO0 M0 H0 ow m Re q=>⟨O0,M0,H0,ow,m,Re,q.bind.imp (aM.refl _) λd q v H' g hv=>by
 cases d with
 |tup ds=>
  cases hv with
  |tup hl hd=>exact⟨_,rfl,⟨_,hl.sq⟩,q _ H' g<|aa7 (Re.mono g).mutk hl.sq hd⟩
 |_=>exact q.elim⟩
theorem uw (h:FB X E e f):FIw X E tg e (fL f):=jU (NQ h) λσ H R hE=>xq5 hE λO0 M0 H0 ow m Re q=>⟨O0,M0,H0,ow,m,Re,q.bind.imp (aM.refl _) λd q v H' g hv=>by
 cases d with
 |lst ds=>
  obtain⟨a,xs,rfl,hl,hd⟩:=jN hv;exact⟨a,rfl,⟨_,hl⟩,q _ H' g<|Wo (Re.mono g).mutk hl hd⟩
 |_=>exact q.elim⟩
theorem v9 (h:FI X E tg e fl):FIw X E tg e fl:=jU h λσ H R hE=>xq5 hE λO0 M0 H0 ow m Re q=>⟨O0,M0,H0,ow,m,Re,q.imp (aM.refl _) λds q J H' g hi=>q J H' g hi.weak⟩
theorem iy (hg:Gl X "range")(hm:X.mg "range" = none)(ha:FAB X E [a] fs)(hs:ax [a] X.env=[(false,eval a X.env)]:=by rfl):FI X E tg (.Call (.Name "range" p) [a] [] pos) (pH fs):=
 jU (RT hg hm ha hs) λσ H R hE=>xq5 hE λO0 M0 H0 ow m Re q=>⟨O0,M0,H0,ow,m,Re,q.bind.imp (aM.refl _) λds q vs H' g hv=>by
  cases hv with
  |nil=>exact q.elim
  | @cons v vs d ds h1 h2=>
   cases h2 with
   |cons _ _=>cases d<;>exact q.elim
   |nil=>
    cases d with
    |int j=>
     cases cH h1;obtain⟨⟨z1,z2⟩,k⟩:=CN q;refine⟨j,rfl,z1,z2,k _ H' g ?_⟩
     have:=KJ (G:=gx X) (lo:=0) (n:=j.toNat) (P:=λO H2=>Ev (Ow O0 ow) H' O H2)
     simpa using this
    |_=>exact q.elim⟩
theorem Rj (hg:Gl X "range")(hm:X.mg "range" = none)(ha:FAB X E [a,b] fs)(hs:ax [a,b] X.env=[(false,eval a X.env),(false,eval b X.env)]:=by rfl)(hs2:ax [b] X.env=[(false,eval b X.env)]:=by rfl):FI X E tg (.Call (.Name "range" p) [a,b] [] pos) (Ov fs):=
 jU (S7 hg hm ha hs hs2) λσ H R hE=>xq5 hE λO0 M0 H0 ow m Re q=>⟨O0,M0,H0,ow,m,Re,q.bind.imp (aM.refl _) λds q vs H' g hv=>by
  split at q
  ·cases hv with
   |cons h1 t=>cases t with
    |cons h2 t=>
     cases t;cases cH h1;cases cH h2;obtain⟨⟨z1,z2,z3,z4⟩,k⟩:=CN q;exact⟨_,_,rfl,⟨z1,z2,z3,z4⟩,k _ H' g KJ⟩
  ·exact q.elim⟩
end
noncomputable def bj (h:Zba)(g:Zab):List D->Zab
 |[],m=>.ok (.nx,m)
 |d::ds,m=>match h d m with
  |none=>.stuck
  |some m1=>match g m1 with
   | .ok (.nx,m2)=>bj h g ds m2
   | .ok (.ct,m2)=>bj h g ds m2
   | .ok (.bk,m2)=>.ok (.nx,m2)
   | .ok (.rt fr v,m2)=>.ok (.rt fr v,m2)
   | .exc c=>.exc c
   | .stuck=>.stuck
def dg (fi:Zad)(h:Zba)(g:Zab):Zab:=λm=>(fi m).bind λds=>bj h g ds m
theorem acp (hp:tz (dr X.prog X.w) X.A X.env X.xe)(hc:X.calm=true)(hi:FI X E tg iter fi)(hg:FG X k tg h)(hb:FSs X E body g)
  (hs:∀x,gy iter X.env x=pure x:=by intro _;rfl):FS X E (.For tg iter body [] pos) (dg fi h g):=cL (Uz hp hc hi hg hb hs) λW σ H hE=>xq5 hE λO0 M0 H0 ow m R q=>
 ⟨O0,M0,H0,ow,m,R.toRel,(Ss.pu R.toRel q).imp (aM.refl _) λds q J H1 g1 it=>by
  have R1:=R.mono g1;have q1:=Ss.go q<|Go.refl g1;generalize hr:bj h g ds m=r at *;refine⟨λi n σ' H'=>∃ow' m',cT (gx X) O0 M0 H0 ow' σ' H' m'/\Go O0 ow H1 ow' H'/\n=ds.length-i/\i<=ds.length/\bj h g (ds.drop i) m'=r,⟨_,ow,m,R1,Go.refl<|aM.refl _,rfl,eT _,hr⟩,?_⟩;rintro i n σ2 H2 ⟨ow2,m2,R2,g2,rfl,hi,e2⟩;obtain⟨i1,i2,i3⟩:=it _ H2 g2.ev;by_cases hlt:i<ds.length
  ·refine .inr ⟨i1 i hlt,λσ' H'=>∃ow' m',cT (gx X) O0 M0 H0 ow' σ' H' m'/\Go O0 ow H1 ow' H'/\bj h g (ds.drop<|i+1) m'=r,λσ' H' hE=>by obtain⟨ow',m',R',g',e'⟩:=hE;exact⟨ds.length-(i+1),by lia,ow',m',R',g',rfl,hlt,e'⟩,λx H3 y=>?_⟩;obtain⟨s3,d,hd,dv⟩:=i2 i x H3 hlt y;have ed:ds.drop i=d::ds.drop (i+1):=by
    rw[kL hlt];rw[av hlt] at hd;cases hd;rfl
   rw[ed] at e2;unfold bj at e2;cases eh:h d m2 with
   |none=>rw[eh] at e2;subst e2;exact q1.elim
   |some m3=>
    rw[eh] at e2;refine⟨O0,M0,H0,ow2,m2,d,m3,(R2.mono s3).toRel,dv,eh,λow' σ' R' g' nb _=>?_⟩;have G3:=(g2.trans<|Go.refl s3).trans g';refine⟨O0,M0,H0,ow',m3,⟨R',nb R2.nb⟩,?_⟩;cases eg:g m3 with
    |exc c=>simp only[eg] at e2;subst e2;exact q1
    |stuck=>simp only[eg] at e2;subst e2;exact q1
    |ok a=>
     obtain⟨f4,m4⟩:=a;simp only[eg] at e2;cases f4 with
     |nx=>exact λow4 σ4 H4 R4 g4=>⟨ow4,m4,R4,G3.trans g4,e2⟩
     |ct=>exact λow4 σ4 H4 R4 g4=>⟨ow4,m4,R4,G3.trans g4,e2⟩
     |bk=>subst e2;exact λow4 σ4 H4 R4 g4=>q1 ow4 σ4 H4 R4<|G3.trans g4
     |rt fr v=>subst e2;exact λv ow4 σ4 H4 R4 g4=>q1 v ow4 σ4 H4 R4<|G3.trans g4
  ·have e:i=ds.length:=by lia
   subst e;rw[qE] at e2;unfold bj at e2;subst e2;exact .inl ⟨i3,q1 ow2 σ2 H2 R2 g2⟩⟩
noncomputable def Sl.bor:Sl->Sl
 | .ow d=>.bw d
 | .io d=>.bw d
 | .hd _ _ _=>.un
 |s=>s
def cMe (k:Nat)(cap:List Nat)(m:Me):Me:=dQ k .un++cap.map λj=>(m.getD j .un).bor
noncomputable def fK (h:Zba)(ft:Zaf)(fe:Zae)(m0:Me):List D->Res (List D)
 |[]=>.ok []
 |d::ds=>match h d m0 with
  |none=>.stuck
  |some m1=>match ft m1 with
   | .ok true=>match fe m1 with
    | .ok y=>match fK h ft fe m0 ds with
     | .ok ys=>.ok (y::ys)
     |_=>.stuck
    |_=>.stuck
   | .ok false=>fK h ft fe m0 ds
   |_=>.stuck
def dX (k:Nat)(cap:List Nat)(fi:Zad)(h:Zba)(ft:Zaf)(fe:Zae):Zae:=λm=>(fi m).bind λds=>
 if ds.length<=aw then match fK h ft fe (cMe k cap m) ds with
  | .ok ys=>.ok<|.lst ys
  |_=>.stuck
 else .stuck
abbrev VB (X:Cx)(E:XK)(ifs:List Expr)(f:Zaf):Prop:=Rr X ifs<|tT (gx X) E f
def jn:Zaf:=λ_=>.ok true
theorem gF:VB X E [] jn:=λπ s σ H Q I hE=>xq5 hE λO0 M0 H0 ow m R q=>ZZ π s σ H Q I<|q H<|aM.refl _
theorem Tp (h:FT X E c f):VB X E [c] f:=Xq h
section
theorem T9 (R:Rel G O0 M0 H0 ow σ H m)(g:aM H H2)(hl:H l=none)(hz:H2 l=some (.lst zs)):
  Rel G (Op (Ow O0 ow) l) (λ_=>False) (λ_=>none) (λ_=>none) (cSt k cap σ) H2 (cMe k cap m):=by
 have sub:∀b,Ow (Op (Ow O0 ow) l) (λ_=>none) b->Ow O0 ow b\/H b=none:=λb z=>by
  rw[w5] at z;exact z.elim .inl λe=>.inr (by rw[e];exact hl)
 have sup:∀b,Ow O0 ow b->Ow (Op (Ow O0 ow) l) (λ_=>none) b:=λb z=>.inl<|.inl z;refine⟨by simp[cSt,cMe],λb o e _=>(by cases e),λb z=>z.elim,λb z=>?_,λi a e=>(by cases e),λi j a e=>(by cases e),λ_ _=>rfl,λi s e=>?_⟩
 ·rw[w5] at z;rcases z with z|z
  ·exact zq g<|R.mutk b z
  ·rw[z,hz];exact .inl ⟨zs,rfl⟩
 ·unfold cMe at e;by_cases hi:i<k
  ·rw[cS (by simpa using hi),gz,if_pos hi] at e;cases e;rfl
  ·rw[dc (by simp;lia),gv,bX] at e;have eσ:(cSt k cap σ)[i]? = (cap[i-k]?).map λj=>(σ[j]?).join:=by
    unfold cSt;rw[dc (by simp;lia),gv,bX]
   cases ec:cap[i-k]? with
   |none=>rw[ec] at e;cases e
   |some j=>
    rw[ec] at e eσ;rw[eσ];cases ej:m[j]? with
    |none=>
     have:m.getD j .un=.un:=by simp[List.getD,ej]
     rw[iq,this] at e;cases e;rfl
    |some s0=>
     have:m.getD j .un=s0:=by simp[List.getD,ej]
     rw[iq,this] at e;cases e;have z:=R.slot j s0 ej;cases s0 with
     |un=>rfl
     |fz d=>
      obtain⟨_,x,e1,hv⟩:=z;exact⟨rfl,x,by rw[iq,e1];rfl,(hv.bV sub).mono g⟩
     |ow d=>
      refine gH z λa h1 h2 h3 h4=>?_;exact⟨rfl,.ref a,by rw[iq,h3];rfl,.inr ⟨a,rfl,sup a<|.inr ⟨j,h1⟩,(h4.bV sub).mono g⟩⟩
     |io d=>
      refine gH z λa h1 h2 h3 h4=>?_;exact⟨rfl,.ref a,by rw[iq,h3];rfl,.inr ⟨a,rfl,sup a<|.inr ⟨j,h1⟩,(h4.bV sub).mono g⟩⟩
     |bw d=>
      obtain⟨_,x,e1,hv⟩:=z;refine⟨rfl,x,by rw[iq,e1];rfl,?_⟩;rcases hv with hv|⟨a,e2,o,hv⟩
      ·exact .inl<|(hv.bV sub).mono g
      ·exact .inr ⟨a,e2,sup a o,(hv.bV sub).mono g⟩
     |hd w a d=>rfl
theorem HW (hq:tN (gx X) E (dX k cap fi h ft fe) σ H Q):Q5 k cap (tIw (gx X) E fi) (tG (gx X) k h) (tT (gx X) E0 ft) (tE (gx X) E0 fe) σ H Q:=by
 refine tW hq λO0 M0 H0 ow m R q=>?_;refine⟨O0,M0,H0,ow,m,R,q.bind.imp (aM.refl _) λds q J H1 g1 it l hl=>?_⟩;obtain⟨hz,q⟩:=Hr q;cases hc:fK h ft fe (cMe k cap m) ds with
 |exc c=>rw[hc] at q;exact q.elim
 |stuck=>rw[hc] at q;exact q.elim
 |ok ys=>
  rw[hc] at q;have hlH:H l=none:=g1.free hl;have mk1:∀b,Op (Ow O0 ow) l b->Ow O0 ow b\/H1 b=none:=λb z=>z.elim .inl λe=>.inr (by rw[e];exact hl);refine⟨λi n zs H'=>n=ds.length-i/\i<=ds.length/\zs.length<=i/\aM H1 H'/\H' l=some (.lst zs)/\∃es rest,DVs (gx X) (Op (Ow O0 ow) l) H' zs es/\fK h ft fe (cMe k cap m) (ds.drop i)=.ok rest/\es++rest=ys,
   ⟨ds.length,by simp,eT _,ay _,bL hl _,aV,[],ys,.nil,hc,rfl⟩,?_⟩
  rintro i n zs H' ⟨rfl,hi,hzi,g2,hH,es,rest,hes,hcr,hys⟩;obtain⟨i1,i2,i3⟩:=it (Op (Ow O0 ow) l) H' ⟨mk1,g2⟩;by_cases hlt:i<ds.length
  ·refine .inr ⟨i1 i hlt,λx H2 y=>?_⟩;obtain⟨g3,d,hd,dv⟩:=i2 i x H2 hlt y;have ed:ds.drop i=d::ds.drop (i+1):=by
    rw[kL hlt];rw[av hlt] at hd;cases hd;rfl
   rw[ed] at hcr;unfold fK at hcr;cases eh:h d (cMe k cap m) with
   |none=>rw[eh] at hcr;cases hcr
   |some m1=>
    rw[eh] at hcr;have G2:aM H H2:=(g1.trans g2).trans g3;have R2:=T9 (k:=k) (cap:=cap) (l:=l) (zs:=zs) R G2 hlH<|g3 _ _ hH;refine⟨_,_,_,_,_,d,m1,R2,by rw[w5];exact dv,eh,λow' σ' R' g' nb hdr=>⟨hdr,_,_,_,ow',m1,R',?_⟩⟩;simp only[] at hcr;cases et:ft m1 with
    |exc c=>rw[et] at hcr;cases hcr
    |stuck=>rw[et] at hcr;cases hcr
    |ok t=>
     rw[et] at hcr;intro H3 g4;cases t with
     |false=>
      rw[if_neg be];exact⟨ds.length-(i+1),by lia,rfl,hlt,by lia,(g2.trans g3).trans g4,g4 _ _<|g3 _ _ hH,es,rest,hes.mono<|g3.trans g4,hcr,hys⟩
     |true=>
      rw[if_pos rfl];refine⟨_,_,_,ow',m1,R'.mono g4,?_⟩;simp only[] at hcr;cases ee:fe m1 with
      |exc c=>rw[ee] at hcr;cases hcr
      |stuck=>rw[ee] at hcr;cases hcr
      |ok y'=>
       rw[ee] at hcr;intro v H5 g5 hv;simp only[] at hcr;cases er:fK h ft fe (cMe k cap m) (ds.drop<|i+1) with
       |exc c=>rw[er] at hcr;cases hcr
       |stuck=>rw[er] at hcr;cases hcr
       |ok rest'=>
        rw[er] at hcr;cases hcr;have G5:aM H' H5:=(g3.trans g4).trans g5;have mk5:∀b,Op (Ow O0 ow) l b->fM (H5 b):=λb z=>by
         rcases z with z|z
         ·exact zq (((g1.trans g2).trans G5))<|R.mutk b z
         ·rw[z,G5 _ _ hH];exact .inl ⟨zs,rfl⟩
        have kp5:Kp (Op (Ow O0 ow) l) H5 (upd H5 l<|.lst<|zs++[v]):=λb o e n=>by
         rw[bu<|show b≠l from λz=>n<|.inr z];exact e
        refine⟨G5 _ _ hH,by lia,ds.length-(i+1),by lia,rfl,hlt,by rw[bg,eD];lia,?_,aV,es++[y'],rest',?_,er,by rw[eK];exact hys⟩
        ·exact Z5 ((adL<|g2.trans G5).trans abr) hl
        ·exact jX ((hes.mono G5).kp mk5 kp5)<|.cons ((hv.bV λb z=>.inl<|.inl z).kp mk5 kp5) .nil
  ·have e:i=ds.length:=by lia
   subst e;rw[qE] at hcr;cases hcr;rw[eR] at hys;subst hys;exact .inl ⟨i3,q l H' (g1.trans g2) hlH ⟨zs,hH,hes⟩⟩
section
theorem jP (sc:zh)(N' caps:List Str)(k:Nat)(cap:List Nat)(hcalm:X.calm=true)(S:CSc sc scope caps)(hcap:kQ (λj x=>X.N[j]? = some x) cap caps)
  (hi:FIw X E tg iter fi) (hg:∀cl C sE HE fp π,FG (cU X N' scope cl C sE HE fp π) k tg h) (ht:∀cl C sE HE fp π,VB (cU X N' scope cl C sE HE fp π) E0 ifs ft) (he:∀cl C sE HE fp π,FE (cU X N' scope cl C sE HE fp π) E0 elt fe)
  (hsc:X.env.scope=sc:=by rfl) (hN:N'.drop k=caps:=by rfl) (hk:k<=N'.length:=by decide) (hs:∀x,gy iter X.env x=pure x:=by intro _;rfl):
  FN X E (.ListComp elt [⟨tg,iter,ifs,0⟩] scope pos) (dX k cap fi h ft fe):=bI (aam sc N' caps k cap hcalm S hcap hi hg ht he hsc hN hk hs) λ_ _ _ q=>HW q
theorem Nj (sc:zh)(N' caps:List Str)(k:Nat)(cap:List Nat)(hnd:X.N.Nodup)(hi':X.N[i]? = some y)(hy:Loc X.env.scope y)(hcalm:X.calm=true)(S:CSc sc scope caps)(hcap:kQ (λj x=>X.N[j]? = some x) cap caps)
  (hi:FIw X E tg iter fi) (hg:∀cl C sE HE fp π,FG (cU X N' scope cl C sE HE fp π) k tg h) (ht:∀cl C sE HE fp π,VB (cU X N' scope cl C sE HE fp π) E0 ifs ft) (he:∀cl C sE HE fp π,FE (cU X N' scope cl C sE HE fp π) E0 elt fe)
  (υ:gN (.ListComp elt [⟨tg,iter,ifs,0⟩] scope pos) (some<|.Name y py) spos.line X.env=pure true:=by rfl)
  (hsc:X.env.scope=sc:=by rfl) (hN:N'.drop k=caps:=by rfl) (hk:k<=N'.length:=by decide) (hs:∀x,gy iter X.env x=pure x:=by intro _;rfl)
  (hf:X.fn y=true\/X.env.scope.names.lookup y=some .local:=by first|exact .inl rfl|exact .inr rfl|assumption):
  FS X E (.Assign [.Name y py] (.ListComp elt [⟨tg,iter,ifs,0⟩] scope pos) spos) (bc i<|dX k cap fi h ft fe):=
 cL (Ce sc N' caps k cap hnd hi' hy hcalm S hcap hi hg ht he υ hsc hN hk hs hf) λW σ H q=>by
  refine HW (h:=h) (ft:=ft) (fe:=fe) (Q:=λx H1=>wy i x σ H1 W.nx) ?_;refine tW (Wj q) λO0 M0 H0 ow m R q=>?_;exact⟨O0,M0,H0,ow,m,R,q.imp (aM.refl _) λ_ k p H' g n o=>k _ H' g<|(o.bV λb z=>.inl<|.inl z).dv<|R.Kz n⟩
theorem M7 (sc:zh)(N' caps:List Str)(k:Nat)(cap:List Nat)(hnd:X.N.Nodup)(hi':X.N[i]? = some y)(hy:Loc X.env.scope y)(hcalm:X.calm=true)(S:CSc sc scope caps)(hcap:kQ (λj x=>X.N[j]? = some x) cap caps)
  (hi:FIw X E tg iter fi) (hg:∀cl C sE HE fp π,FG (cU X N' scope cl C sE HE fp π) k tg h) (ht:∀cl C sE HE fp π,VB (cU X N' scope cl C sE HE fp π) E0 ifs ft) (he:∀cl C sE HE fp π,FE (cU X N' scope cl C sE HE fp π) E0 elt fe)
  (υ:gN (.ListComp elt [⟨tg,iter,ifs,0⟩] scope pos) (some<|.Name y py) spos.line X.env=pure true:=by rfl)
  (hsc:X.env.scope=sc:=by rfl) (hN:N'.drop k=caps:=by rfl) (hk:k<=N'.length:=by decide) (hs:∀x,gy iter X.env x=pure x:=by intro _;rfl)
  (hf:X.fn y=true\/X.env.scope.names.lookup y=some .local:=by first|exact .inl rfl|exact .inr rfl|assumption):
  FS X E (.Assign [.Name y py] (.ListComp elt [⟨tg,iter,ifs,0⟩] scope pos) spos) (cX i<|dX k cap fi h ft fe):=
 cL (Ce sc N' caps k cap hnd hi' hy hcalm S hcap hi hg ht he υ hsc hN hk hs hf) λW σ H q=>HW (Q:=λx H1=>wy i x σ H1 W.nx)<|W7 q
end
end
def spF (G:Gx)(Φ:Zac):Sp:=λvs H Q E=>∃O ds,(∀b,O b->fM (H b))/\DVs G O H vs ds/\Pu G E (Φ ds) H λr=>∀v H',aM H H'->DV G O H' v r.2->(r.1=true->Fr G O H v H' r.2)->Q v H'
noncomputable def aX (N n:Nat)(g:Zab):Zac:=λds=>if ds.length=n then match g (ds.map Sl.fz++dQ (N-n) Sl.un) with
  | .ok (.rt fr d,_)=>.ok (fr,d)
  | .ok (.nx,_)=>.ok (false,.non)
  | .exc c=>.exc c
  |_=>.stuck
 else .stuck
abbrev FF (P:cy)(w:fI)(K:bP)(mg:Zp)(base:Heap)(k:Nat)(x:Str)(ps:List Str)(Φ:Zac):Prop:=Hd.Fn P w K mg base k x ps<|spF ⟨K,mg⟩ Φ
theorem Sx (hm:∀b,O b->fM (H b))(hd:DVs G O H vs ds)(hn:ds.length=n):
  cT G O (λ_=>False) H (λ_=>none) (L2.start N vs) H (ds.map Sl.fz++dQ (N.length-n) Sl.un):=by
 have hl:=bR hd;refine⟨⟨by simp[L2.start,hl,hn],λb o e _=>e,λb z=>z.elim,λb z=>by rw[w5] at z;exact hm b z,λi a e=>(by cases e),λi j a e=>(by cases e),λ_ _=>rfl,λi s e=>?_⟩,λj d e=>?_⟩
 ·by_cases hi:i<ds.length
  ·rw[cS (by simpa using hi),bX] at e;cases ed:ds[i]? with
   |none=>rw[ed] at e;cases e
   |some d=>
    rw[ed] at e;cases e;obtain⟨x,hx,dx⟩:=vY hd ed;refine⟨rfl,x,?_,by rw[w5];exact dx⟩;unfold L2.start;rw[cS (by simpa[hl] using hi),bX,hx];rfl
  ·rw[dc (by simp;lia),gz] at e;split at e
   ·cases e;rfl
   ·cases e
 ·by_cases hi:j<ds.length
  ·rw[cS (by simpa using hi),bX] at e;cases ed:ds[j]? with
   |none=>rw[ed] at e;cases e
   |some d=>rw[ed] at e;cases e
  ·rw[dc (by simp;lia),gz] at e;split at e<;>cases e
section
variable {P:cy}{w:fI}{K:bP}{mg:Zp}{base:Heap}
theorem bz {x qual:Str}{st:Stmt}{f:Addr}{fd:kA}{N ps:List Str}{k:Nat}{g:Zab}(Fu:Fun K x qual st f fd)(S:aR N ps (aL st))
  (hbody:∀(cdv:aS) (A:iN) (outer:List Env) (s:bq) (H:Hp) (E:XK),gD k (A.deeper<|zD qual (aL st) s.heap.objs.size f cdv)->
   FSs (Cw (CX1 P w) P w K mg base N qual (aL st) f cdv A outer s H E) E (jZ st) g):qL P w K mg base (CX1 P w) (k+1) f fd ps (spF ⟨K,mg⟩<|aX N.length ps.length g):=by
 refine Qe Fu S (λvs H Q E h=>?_) λcdv A outer s H vs Q E hr h=>?_
 ·refine zR h λO ds _ hd q=>?_;rw[bR hd];unfold aX at q;exact(Hr q).1
 ·refine zR h λO ds hm hd q=>?_;unfold aX at q;obtain⟨hn,q⟩:=Hr q;refine⟨_,hbody cdv A outer s H E hr,O,λ_=>False,H,λ_=>none,_,Sx hm hd hn,?_⟩;have sm:∀{ow' σ' H' m'},cT (⟨K,mg⟩:Gx) O (λ_=>False) H ow' σ' H' m'->aM H H':=λR b o e=>R.keep b o e id;cases z:g (ds.map Sl.fz++dQ (N.length-ps.length) Sl.un) with
  |exc c=>rw[z] at q;exact λC H' e kp=>q C H' e λb o e=>kp b o e id
  |stuck=>rw[z] at q;exact q.elim
  |ok a=>
   obtain⟨fl,m'⟩:=a;rw[z] at q;cases fl with
   |bk=>exact q.elim
   |ct=>exact q.elim
   |nx=>exact λow' σ' H' R' _=>q _ H' (sm R') .non λz=>by cases z
   |rt fr d=>
    intro v ow' σ' H' R' _ hv hf;refine q v H' (sm R') (hv.bV λb z=>.inl<|.inl z) λz=>?_;rcases hf z with⟨p,e1,e2,e3⟩|t
    ·exact .inl ⟨p,e1,e2,e3.bV λb z=>.inl<|z.elim (λy=>.inl<|.inl y) .inr⟩
    ·exact .inr t
end
noncomputable def fFn (Φ:Zac)(fs:Zad):Zae:=λm=>(fs m).bind λds=>(Φ ds).bind λr=>.ok r.2
def YC (Φ:Zac)(fs:Zad):Zae:=λm=>(fs m).bind λds=>(Φ ds).bind λr=>if flat r.2=true then .ok r.2 else .stuck
def Rg (Φ:Zac)(fs:Zad):Zae:=λm=>(fs m).bind λds=>(Φ ds).bind λr=>if(r.1&&!isTup r.2)=true then .ok r.2 else .stuck
section
theorem bF (Fh:FF X.prog X.w X.K X.mg X.base k x ps Φ)(hr:gD j X.A)(hx:Passes (CX1 X.prog X.w) X E)(ha:FAE X E (e::es) fs)(hk:k<=j:=by decide)(hg:Gl X x:=by rfl)
  (hdb:(x==("__debug__":Str))=false:=by decide) (he:ax (e::es) X.env=(false,eval e X.env)::ax es X.env:=by rfl) (τ:(ki pos<|ax es X.env).any (·.1)=false:=by rfl):
  FE X E (.Call (.Name x p) (e::es) [] pos) (fFn Φ fs):=by
 refine uh Fh.ex λf fd G b kp m=>?_;refine bI (Ax G (hr.mono hk) hg m kp b .nil hx ha hdb he τ) λσ H Q hE=>xq5 hE λO0 M0 H0 ow m R q=>⟨O0,M0,H0,ow,m,R,q.bind.imp (aM.refl _) λds q vs H1 g1 hv=>?_⟩;show spF _ _ (vs++[]) _ _ _;rw[eR];exact⟨_,ds,(R.mono g1).mutk,hv,q.bind.imp g1 λr q v H' g2 hv' _=>q v H' (g1.trans g2) hv'⟩
theorem acG (Fh:FF X.prog X.w X.K X.mg X.base k x ps Φ)(hr:gD j X.A)(hx:Passes (CX1 X.prog X.w) X E)(ha:FAB X E (e::es) fs)(hk:k<=j:=by decide)(hg:Gl X x:=by rfl)
  (hdb:(x==("__debug__":Str))=false:=by decide) (he:ax (e::es) X.env=(false,eval e X.env)::ax es X.env:=by rfl) (τ:(ki pos<|ax es X.env).any (·.1)=false:=by rfl):
  FE X E (.Call (.Name x p) (e::es) [] pos) (YC Φ fs):=by
 refine uh Fh.ex λf fd G b kp m=>?_;refine bI (Ax G (hr.mono hk) hg m kp b .nil hx ha hdb he τ) λσ H Q hE=>xq5 hE λO0 M0 H0 ow m R q=>⟨O0,M0,H0,ow,m,R,q.bind.imp (aM.refl _) λds q vs H1 g1 hv=>?_⟩;show spF _ _ (vs++[]) _ _ _;rw[eR];refine⟨_,ds,λ_ z=>z.elim,hv.any,q.bind.imp g1 λr q v H' g2 hv' _=>?_⟩;obtain⟨hf,q⟩:=CN q;exact q v H' (g1.trans g2)<|hv'.flat hf
theorem aaG (Fh:FF X.prog X.w X.K X.mg X.base k x ps Φ)(hr:gD j X.A)(hx:Passes (CX1 X.prog X.w) X E)(ha:FAE X E (e::es) fs)(hk:k<=j:=by decide)(hg:Gl X x:=by rfl)
  (hdb:(x==("__debug__":Str))=false:=by decide) (he:ax (e::es) X.env=(false,eval e X.env)::ax es X.env:=by rfl) (τ:(ki pos<|ax es X.env).any (·.1)=false:=by rfl):
  FN X E (.Call (.Name x p) (e::es) [] pos) (Rg Φ fs):=by
 refine uh Fh.ex λf fd G b kp m=>?_;refine bI (Ax G (hr.mono hk) hg m kp b .nil hx ha hdb he τ) λσ H Q hE=>xq5 hE λO0 M0 H0 ow m R q=>⟨O0,M0,H0,ow,m,R,q.bind.imp (aM.refl _) λds q vs H1 g1 hv=>?_⟩;show spF _ _ (vs++[]) _ _ _;rw[eR];refine⟨_,ds,(R.mono g1).mutk,hv,q.bind.imp g1 λr q v H' g2 hv' fr=>?_⟩;obtain⟨hf,q⟩:=CN q;obtain⟨hf1,hf2⟩:=Bool.and_eq_true_iff.mp hf;obtain⟨p,rfl,n,o⟩:=(fr hf1).lst (by simpa using hf2);exact q p H' (g1.trans g2) (g1.free n) o
end
def Bg (i:Int):Prop:=i.natAbs<lmM
instance (i:Int):Decidable (Bg i):=inferInstanceAs<|Decidable<|_<_
def Bq (i:Int):Prop:=i.natAbs<lmD
instance (i:Int):Decidable (Bq i):=inferInstanceAs<|Decidable<|_<_
theorem aep (h:i.natAbs<2^60000):Bg i:=by unfold Bg;rw[U9];exact h
theorem jJ (h:i.natAbs<2^8900):Bq i:=by unfold Bq;rw[Lj];exact h
@[simp] theorem afC (h:Bq i):Bg i:=by
 unfold Bq at h;rw[Lj] at h;exact aep<|cm h<|zi (by decide)<|by decide
noncomputable def dvI (i j:Int):Int:=if 0<j then i/j else i.fdiv j
noncomputable def mdI (i j:Int):Int:=if 0<j then i%j else i.fmod j
noncomputable def bU:D->D->Option D
 | .int i,.int j=>some<|.int<|i+j
 | .str a,.str b=>if a.length+b.length<=aw then some (.str<|a++b) else none
 | .lst a,.lst b=>if a.length+b.length<=aw then some (.lst<|a++b) else none
 | .tup a,.tup b=>if a.length+b.length<=aw then some (.tup<|a++b) else none
 |_,_=>none
noncomputable def dN:D->D->Option D
 | .int i,.int j=>some<|.int<|i-j
 |_,_=>none
noncomputable def fB:D->D->Option D
 | .int i,.int j=>if Bg i/\Bg j then some (.int<|i*j) else none
 |_,_=>none
def du:D->D->Option D
 | .int i,.int j=>if j≠0/\Bq j then some (.int<|dvI i j) else none
 |_,_=>none
def bJ:D->D->Option D
 | .int i,.int j=>if j≠0 then some (.int<|mdI i j) else none
 |_,_=>none
noncomputable def uD:D->Option D
 | .int i=>some<|.int (-i)
 |_=>none
section
variable {X:Cx}
theorem oif [Decidable c]{α:Type}{a r:α}(h:(if c then some a else none)=some r):c/\a=r:=by simp_all
theorem Oa (I:Inv X π σ H s)(q:∀v H',aM H H'->DV (gx X) O H' v (.str i)->Q v H'):EP X π σ Q (.str i t) { s with toks:=tk }:=
 ⟨.str i,H,I.tok _,⟨t,rfl⟩,q _ _ (aM.refl _)<|.str i⟩
theorem Ze (I:Inv X π σ H s)(m:∀b,O b->fM (H b))(hd:DVs (gx X) O H xs ds)(r:Vals xs χ)(hz:xs.length<=aw)
  (kp:∀b o,s.heap.get? b=some o->h'.get? b=some o) (e:∃n,h'.get? s.heap.objs.size=some { cls:=.type "list",data:=.seq χ.toArray n }) (q:∀p H',aM H H'->H p=none->OV (gx X) (Op O p) H' p (.lst ds)->Q (.ref p) H'):EP X π σ Q (.ref s.heap.objs.size) { s with heap:=h',toks:=tk }:=by
 have hf:H s.heap.objs.size=none:=I.hok.fresh<|ay _;obtain⟨n,e⟩:=e;refine⟨.ref s.heap.objs.size,upd H s.heap.objs.size<|.lst xs,I.laid kp (ay _) ⟨hz,χ,n,r,e⟩,rfl,q _ _ (bL hf _) hf ⟨xs,aV,?_⟩⟩;exact(hd.bV λb z=>z.elim .inl λe=>.inr (by rw[e];exact hf)).mono (bL hf _)
theorem TY {G:Gx}{O:Zaa}{H:Hp}{r:D}{Q:VK}(m:∀b,O b->fM (H b))(q:∀v H',aM H H'->DV G O H' v r->Q v H'):∀p H',aM H H'->H p=none->OV G (Op O p) H' p r->Q (.ref p) H':=λp H' g n o=>
 q _ H' g ((o.bV λb z=>.inl<|.inl z).dv λz=>by
  have:=m p z
  rw[n] at this;rcases this with⟨_,e⟩|⟨_,e⟩|⟨_,e⟩|⟨_,e⟩<;>cases e)
def ad0 (G:Gx):R2:=λx y H Q=>∃O ds es,(∀b,O b->fM (H b))/\DW G O H x (.lst ds)/\DW G O H y (.lst es)/\ds.length+es.length<=aw/\∀p H',aM H H'->H p=none->OV G (Op O p) H' p (.lst<|ds++es)->Q (.ref p) H'
theorem X4:OpR X (kg .Add) (ad0<|gx X):=by
 intro π s σ H x y v u Q I rx ry h;refine Pg h λO ds es m hx hy hz q=>?_;obtain⟨a,xs,rfl,ha,hd⟩:=jN hx;obtain⟨b,ys,rfl,hb,he⟩:=jN hy;cases rx;cases ry;obtain⟨χ,r1,p1,_⟩:=I.list ha;obtain⟨its2,r2,p2,_⟩:=I.list hb;have l1:=bR hd;have l2:=bR he;have k1:=r1.length;have k2:=r2.length;obtain⟨⟨cls,dd,data,sl⟩,ho,hc,n,hdt⟩:=id p1.isList;obtain⟨⟨cls2,dd2,data2,sl2⟩,ho2,hc2,n2,hd2⟩:=id p2.isList;simp only at hc hdt hc2 hd2;subst hc hdt hc2 hd2;refine x6 ⟨_,ho,rfl⟩ ⟨_,ho2,rfl⟩ noFill_list_add seq_list_add PySem.F.slot_list_add PySem.F.entry_list_add (PySem.F.args_list_add_2 _ _) (list_addW a b χ.toArray its2.toArray n n2 dd dd2 sl sl2 (by simp;lia)) ⟨ho,ho2,?_⟩;rw[show χ.toArray++its2.toArray=(χ++its2).toArray by simp];exact Ze (tk:=s.toks) I m (jX hd he) (r1.append r2) (by rw[bg];lia) (λb o e=>ai _ e) ⟨0,aE _ rfl⟩ q
theorem W4:OpR X (kg .Add) (λx y H Q=>∃O ds es,DW (gx X) O H x (.tup ds)/\DW (gx X) O H y (.tup es)/\ds.length+es.length<=aw/\∀v H',aM H H'->DV (gx X) O H' v (.tup<|ds++es)->Q v H'):=by
 intro π s σ H x y v u Q I rx ry h;refine sU h λO ds es hx hy hz q=>?_;obtain⟨a,xs,rfl,ha,hd⟩:=xT hx;obtain⟨b,ys,rfl,hb,he⟩:=xT hy;have l1:=bR hd;have l2:=bR he;by_cases hx0:xs=[]
 ·subst hx0;cases hd;cases rx;cases ry;obtain⟨χ,r1,p1,_⟩:=I.tuple ha.sq;obtain⟨its2,r2,p2,_⟩:=I.tuple hb.sq;cases r1;obtain⟨⟨cls,dd,data,sl⟩,ho,hc,n,hdt⟩:=id p1;obtain⟨⟨cls2,dd2,data2,sl2⟩,ho2,hc2,n2,hd2⟩:=id p2;simp only at hc hdt hc2 hd2;subst hc hdt hc2 hd2;exact x6 ⟨_,ho,rfl⟩ ⟨_,ho2,rfl⟩ xl AR pE oT (oz _ _)
   (tuple_addW0 a b ([]:List aS).toArray its2.toArray n n2 dd dd2 sl sl2<|by rfl) ⟨ho,ho2,⟨.ref b,H,I,rfl,q _ _ (aM.refl _)<|.tup hb he⟩⟩
 ·refine Xp π s σ H _ _ v u Q I rx ry ⟨a,b,xs,ys,rfl,rfl,ha.sq,hb.sq,hx0,by lia,λz=>?_,λz p hp=>?_⟩
  ·subst z;cases he;exact q _ _ (aM.refl _) (by rw[eR];exact .tup ha hd)
  ·exact q _ _ (bL hp _)<|.tup (SqU.of aV)<|(jX hd he).mono<|bL hp _
theorem bQ:OpR X (kg .Add) (rG (gx X) bU):=by
 intro π s σ H x y v u Q I rx ry h;refine gG h λO d e r m hx hy hr q=>?_;unfold bU at hr;split at hr
 ·rename_i i j;cases hr;exact ack π s σ H x y v u Q I rx ry ⟨i,j,cH hx,cH hy,q _ _ (aM.refl _)<|.int _⟩
 ·rename_i i j;obtain⟨z,rfl⟩:=oif hr;exact Mv π s σ H x y v u Q I rx ry ⟨i,j,jo hx,jo hy,z,q _ _ (aM.refl _)<|.str _⟩
 ·rename_i ds es;obtain⟨z,rfl⟩:=oif hr;exact X4 π s σ H x y v u Q I rx ry ⟨O,ds,es,m,hx,hy,z,TY m q⟩
 ·rename_i ds es;obtain⟨z,rfl⟩:=oif hr;exact W4 π s σ H x y v u Q I rx ry ⟨O,ds,es,hx,hy,z,q⟩
 ·cases hr
theorem dB:OpR X (kg .Sub) (rG (gx X) dN):=by
 intro π s σ H x y v u Q I rx ry h;refine gG h λO d e r m hx hy hr q=>?_;unfold dN at hr;split at hr
 ·rename_i i j;cases hr;exact acw π s σ H x y v u Q I rx ry ⟨i,j,cH hx,cH hy,q _ _ (aM.refl _)<|.int _⟩
 ·cases hr
theorem cW:OpR X (kg .Mult) (rG (gx X) fB):=by
 intro π s σ H x y v u Q I rx ry h;refine gG h λO d e r m hx hy hr q=>?_;unfold fB at hr;split at hr
 ·rename_i i j;obtain⟨z,rfl⟩:=oif hr;exact Xu π s σ H x y v u Q I rx ry ⟨i,j,cH hx,cH hy,z,q _ _ (aM.refl _)<|.int _⟩
 ·cases hr
theorem cM:OpR X (kg .FloorDiv) (rG (gx X) du):=by
 intro π s σ H x y v u Q I rx ry h;refine gG h λO d e r m hx hy hr q=>?_;unfold du at hr;split at hr
 ·rename_i i j;obtain⟨z,rfl⟩:=oif hr;refine Vc π s σ H x y v u Q I rx ry ⟨i,j,cH hx,cH hy,z,?_⟩;have e:i.fdiv j=dvI i j:=by
   unfold dvI;split
   ·rw[iL i<|by lia]
   ·rfl
  show Q (.int<|i.fdiv j) H;rw[e];exact q _ _ (aM.refl _)<|.int _
 ·cases hr
theorem bB:OpR X (kg .Mod) (rG (gx X) bJ):=by
 intro π s σ H x y v u Q I rx ry h;refine gG h λO d e r m hx hy hr q=>?_;unfold bJ at hr;split at hr
 ·rename_i i j;obtain⟨z,rfl⟩:=oif hr;refine Y0 π s σ H x y v u Q I rx ry ⟨i,j,cH hx,cH hy,z,?_⟩;have e:i.fmod j=mdI i j:=by
   unfold mdI;split
   ·rw[Int.fmod_eq_emod_of_nonneg i<|by lia]
   ·rfl
  show Q (.int<|i.fmod j) H;rw[e];exact q _ _ (aM.refl _)<|.int _
 ·cases hr
theorem uL:UnR X (unaryOp .USub) (rG1 (gx X) uD):=by
 intro π s σ H x v Q I rx h;refine sU h λO d r m hx hr q=>?_
 match d,hr with
 | .int i,hr=>
  cases hr;exact abC π s σ H x v Q I rx ⟨i,cH hx,q _ _ (aM.refl _)<|.int _⟩
mutual
def toPy:D->Option ya
 | .non=>some .none
 | .bl b=>some<|.bool b
 | .int i=>some<|.int i
 | .str x=>some<|.str x
 | .tup xs=>(qW xs).map .tuple
 | .lst xs=>(qW xs).map .list
 | .exc _=>none
 | .dct _ _=>none
 | .dcu _ _=>none
 | .adr _=>none
 | .ins _ _ _=>none
 | .dcf _ _=>none
def qW:List D->Option (List ya)
 |[]=>some []
 |d::ds=>(toPy d).bind λp=>(qW ds).map λps=>p::ps
end
mutual
theorem NK:∀{v:V} {d:D} {p:ya},DV G O H v d->toPy d=some p->Hd.DV G.K H v p
 |_,_,_,.non,e=>by cases e;exact .non
 |_,_,_,.bl b,e=>by cases e;exact .bl b
 |_,_,_,.int i,e=>by cases e;exact .int i
 |_,_,_,.str x,e=>by cases e;exact .str x
 |_,_,_,.exc _ _,e=>by cases e
 |_,_,_,.tup h hs,e=>by
  obtain⟨ps,e1,rfl⟩:=omap (by simpa[toPy] using e);exact .tup h.sq<|Cj hs e1
 |_,_,_,.lst h hs,e=>by
  obtain⟨ps,e1,rfl⟩:=omap (by simpa[toPy] using e);exact .lst h.sq<|Cj hs e1
 |_,_,_,.dct _ _ _ _ _,e=>by cases e
 |_,_,_,.dcu _ _ _ _ _,e=>by cases e
 |_,_,_,.adr _,e=>by cases e
 |_,_,_,.ins _ _ _ _ _ _,e=>by cases e
 |_,_,_,.dcf _ _ _ _,e=>by cases e
theorem Cj:∀{vs:List V} {ds:List D} {ps:List ya},DVs G O H vs ds->qW ds=some ps->Hd.DVs G.K H vs ps
 |_,_,_,.nil,e=>by cases e;exact .nil
 |_,_,_,.cons (d:=d) (ds:=ds) h hs,e=>by
  unfold qW at e;cases e1:toPy d with
  |none=>rw[e1] at e;cases e
  |some p=>
   rw[e1] at e;obtain⟨ps,e2,rfl⟩:=omap e;exact .cons (NK h e1)<|Cj hs e2
end
theorem pI (h:DW G O H v d)(e:toPy d=some p):Hd.DV G.K H v p:=NK h.any e
noncomputable def lg (d e:D):Option Bool:=match toPy d,toPy e with
 |some p,some q=>if hU p=true/\hU q=true then some (kr p q) else none
 |_,_=>none
def gEq:D->D->Option Bool
 | .int i,.int j=>some<|decide<|i=j
 | .str i,.str j=>some<|decide<|i=j
 | .bl i,.bl j=>some<|decide<|i=j
 | .non,.non=>some true
 |d,e=>lg d e
def gNe (d e:D):Option Bool:=(gEq d e).map (!·)
theorem uU (h:lg d e=some b):∃p q,toPy d=some p/\toPy e=some q/\hU p=true/\hU q=true/\kr p q=b:=by grind[lg]
theorem FP (h:gEq d e=some b):(∃i j,d=.int i/\e=.int j/\b=decide (i=j))\/(∃i j,d=.str i/\e=.str j/\b=decide (i=j))\/(∃i j,d=.bl i/\e=.bl j/\b=decide (i=j))\/(d=.non/\e=.non/\b=true)\/lg d e=some b:=by
 unfold gEq at h;split at h
 ·cases h;exact .inl ⟨_,_,rfl,rfl,rfl⟩
 ·cases h;exact .inr<|.inl ⟨_,_,rfl,rfl,rfl⟩
 ·cases h;exact .inr<|.inr<|.inl ⟨_,_,rfl,rfl,rfl⟩
 ·cases h;exact .inr<|.inr<|.inr<|.inl ⟨rfl,rfl,rfl⟩
 ·exact .inr<|.inr<|.inr<|.inr h
theorem dI (hu:X.A.units+64<mm):OpR X (fx .Eq) (rGB (gx X) gEq):=by
 intro π s σ H x y v u Q I rx ry h;refine gG h λO d e r m hx hy hr q=>?_;rcases FP hr with⟨i,j,rfl,rfl,rfl⟩|⟨i,j,rfl,rfl,rfl⟩|⟨i,j,rfl,rfl,rfl⟩|⟨rfl,rfl,rfl⟩|h
 ·cases cH hx;cases cH hy;exact Ol π s σ H _ _ v u Q I rx ry ⟨rfl,by simpa using q⟩
 ·cases jo hx;cases jo hy;exact Ol π s σ H _ _ v u Q I rx ry ⟨rfl,by simpa using q⟩
 ·cases Qu hx;cases Qu hy;exact Ol π s σ H _ _ v u Q I rx ry ⟨rfl,by simpa using q⟩
 ·cases Ia hx;cases Ia hy;exact Ol π s σ H _ _ v u Q I rx ry ⟨rfl,by simpa using q⟩
 ·obtain⟨p,p',e1,e2,z1,z2,rfl⟩:=uU h;exact abx hu π s σ H x y v u Q I rx ry ⟨p,p',pI hx e1,pI hy e2,z1,z2,q⟩
theorem pZ (hu:X.A.units+64<mm):OpR X (fx .NotEq) (rGB (gx X) gNe):=by
 intro π s σ H x y v u Q I rx ry h;refine gG h λO d e r m hx hy hr q=>?_;obtain⟨c,hc,rfl⟩:=omap hr;rcases FP hc with⟨i,j,rfl,rfl,rfl⟩|⟨i,j,rfl,rfl,rfl⟩|⟨i,j,rfl,rfl,rfl⟩|⟨rfl,rfl,rfl⟩|h
 ·cases cH hx;cases cH hy;exact Qc π s σ H _ _ v u Q I rx ry ⟨rfl,by simpa using q⟩
 ·cases jo hx;cases jo hy;exact Qc π s σ H _ _ v u Q I rx ry ⟨rfl,by simpa using q⟩
 ·cases Qu hx;cases Qu hy;exact Qc π s σ H _ _ v u Q I rx ry ⟨rfl,by simpa using q⟩
 ·cases Ia hx;cases Ia hy;exact Qc π s σ H _ _ v u Q I rx ry ⟨rfl,by simpa using q⟩
 ·obtain⟨p,p',e1,e2,z1,z2,rfl⟩:=uU h;exact ab0 hu π s σ H x y v u Q I rx ry ⟨p,p',pI hx e1,pI hy e2,z1,z2,q⟩
noncomputable def Lx:List D->Option (List Int)
 |[]=>some []
 | .int i::ds=>(Lx ds).map (i::·)
 |_::_=>none
theorem Pa:∀{vs:List V} {ds:List D} {ns:List Int},DVs G O H vs ds->Lx ds=some ns->vs=ns.map V.int
 |_,_,_,.nil,e=>by cases e;rfl
 |_,_,_,.cons (d:=d) h hs,e=>by
  cases d with
  |int i=>
   obtain⟨ns,e1,rfl⟩:=omap (by simpa[Lx] using e);cases h;rw[Pa hs e1];rfl
  |_=>cases e
noncomputable def gLt:D->D->Option Bool
 | .int i,.int j=>some<|decide<|i<j
 |_,_=>none
noncomputable def gGt:D->D->Option Bool
 | .int i,.int j=>some<|decide<|j<i
 |_,_=>none
noncomputable def gGe:D->D->Option Bool
 | .int i,.int j=>some<|decide<|j<=i
 |_,_=>none
theorem GQ (hu:X.A.units+64<mm):OpR X (fx .Lt) (rGB (gx X) gLt):=by
 intro π s σ H x y v u Q I rx ry h;refine gG h λO d e r m hx hy hr q=>?_;unfold gLt at hr;split at hr
 ·rename_i i j;cases hr;exact adQ π s σ H x y v u Q I rx ry ⟨i,j,cH hx,cH hy,q⟩
 ·cases hr
theorem Bx:OpR X (fx .Gt) (rGB (gx X) gGt):=by
 intro π s σ H x y v u Q I rx ry h;refine gG h λO d e r m hx hy hr q=>?_;unfold gGt at hr;split at hr
 ·rename_i i j;cases hr;exact adh π s σ H x y v u Q I rx ry ⟨i,j,cH hx,cH hy,q⟩
 ·cases hr
theorem LC:OpR X (fx .GtE) (rGB (gx X) gGe):=by
 intro π s σ H x y v u Q I rx ry h;refine gG h λO d e r m hx hy hr q=>?_;unfold gGe at hr;split at hr
 ·rename_i i j;cases hr;exact ado π s σ H x y v u Q I rx ry ⟨i,j,cH hx,cH hy,q⟩
 ·cases hr
end
section
variable {X:Cx}{E:XK}{e a b:Expr}{es:List Expr}{f fa:Zae}{fs:Zad}{pos p:Pos}
noncomputable def gIx:D->D->Option D
 | .lst ds,.int i=>atI ds i
 | .tup ds,.int i=>atI ds i
 | .str z,.int i=>if z.length<=aw then(atI z.cps.toList i).map λc=>.str ⟨#[c]⟩ else none
 |_,_=>none
theorem Nt {G:Gx}{O:Zaa}{H:Hp}{xs:List V}{ds:List D}{i:Int}{d:D}(h:DVs G O H xs ds)(e:atI ds i=some d):∃x,atI xs i=some x/\DV G O H x d:=by
 unfold atI at e ⊢;rw[bR h];cases q:ixN ds.length i with
 |none=>rw[q] at e;cases e
 |some j=>rw[q] at e;exact vY h e
theorem afb:IxR X (rG (gx X) gIx):=by
 intro value slice π s σ H x y v u Q I rx ry h hs;refine gG h λO d e r m hx hy hr q=>?_
 match d,e,hr with
 | .lst ds,.int i,hr=>
  cases cH hy;obtain⟨p,xs,rfl,hp,hd⟩:=jN hx;obtain⟨z,hz,dz⟩:=Nt hd hr;exact Ys value slice π s σ H _ _ v u Q I rx ry ⟨p,xs,i,z,rfl,rfl,hp,hz,q _ _ (aM.refl _) dz⟩ hs
 | .tup ds,.int i,hr=>
  cases cH hy;obtain⟨p,xs,rfl,hp,hd⟩:=yI hx;obtain⟨z,hz,dz⟩:=Nt hd hr;exact acC value slice π s σ H _ _ v u Q I rx ry ⟨p,xs,i,z,rfl,rfl,hp,hz,q _ _ (aM.refl _) dz⟩ hs
 | .str z,.int i,hr=>
  cases cH hy;cases jo hx;have hr':(if z.length<=aw then(atI z.cps.toList i).map λc=>D.str ⟨#[c]⟩ else none)=some r:=hr;by_cases hz:z.length<=aw
  ·rw[if_pos hz] at hr';obtain⟨c,hc,rfl⟩:=omap hr';exact abJ value slice π s σ H _ _ v u Q I rx ry ⟨z,i,c,rfl,rfl,hz,hc,q _ _ (aM.refl _)<|.str _⟩ hs
  ·rw[if_neg hz] at hr';cases hr'
def tO (G:Gx)(E:XK)(f:Me->Res (Option Int)):TO:=λσ H Q=>∃O0 M0 H0 ow m,Rel G O0 M0 H0 ow σ H m/\Pu G E (f m) H λo=>∀H',aM H H'->Q o H'
abbrev FO (X:Cx)(E:XK)(e:Option Expr)(f:Me->Res (Option Int)):Prop:=PO X e<|tO (gx X) E f
theorem Ox {e:Option Expr}{T T':TO}(h:PO X e T)(k:∀σ H Q,T' σ H Q->T σ H Q):PO X e T':=λπ s σ H Q I q=>h π s σ H Q I<|k σ H Q q
noncomputable def fO0:Me->Res (Option Int):=λ_=>.ok none
noncomputable def fO1 (f:Zae):Me->Res (Option Int):=λm=>(f m).bind λd=>match d with
 | .int i=>.ok<|some i
 |_=>.stuck
theorem HX:FO X E none fO0:=Ox Xh λσ H Q hE=>xq5 hE λO0 M0 H0 ow m R q=>q H<|aM.refl _
theorem wI (h:FB X E e f):FO X E (some e) (fO1 f):=Ox (YW h) λσ H Q hE=>xq5 hE λO0 M0 H0 ow m R q=>⟨O0,M0,H0,ow,m,R,q.bind.imp (aM.refl _) λd q v H' g hv=>by
 cases d with
 |int i=>cases cH hv;exact⟨i,rfl,q H' g⟩
 |_=>exact q.elim⟩
def cut {α:Type}(xs:List α)(lo hi:Option Int):List α:=(xs.drop<|HT.sIx xs.length 0 lo).take<|HT.sIx xs.length xs.length hi-HT.sIx xs.length 0 lo
def gSl:D->Option Int->Option Int->Option D
 | .lst ds,lo,hi=>some<|.lst<|cut ds lo hi
 | .tup ds,lo,hi=>if HT.sIx ds.length 0 lo=0/\HT.sIx ds.length ds.length hi=ds.length then none else some (.tup<|cut ds lo hi)
 | .str z,lo,hi=>if z.length<=aw then some (.str<|yk z lo hi) else none
 |_,_,_=>none
def rSl (G:Gx):V->Option Int->Option Int->Hp->VK->Prop:=λx lo hi H Q=>∃O d r,(∀b,O b->fM (H b))/\DW G O H x d/\gSl d lo hi=some r/\∀v H',aM H H'->DV G O H' v r->Q v H'
noncomputable def afy:D->Option Int->Option Int->Option D
 | .lst ds,lo,hi=>some<|.lst<|cut ds lo hi
 |_,_,_=>none
def ae0 (G:Gx):V->Option Int->Option Int->Hp->VK->Prop:=λx lo hi H Q=>∃O d r,(∀b,O b->fM (H b))/\DW G O H x d/\afy d lo hi=some r/\∀p H',aM H H'->H p=none->OV G (Op O p) H' p r->Q (.ref p) H'
theorem Nk {G:Gx}{O:Zaa}{H:Hp}{xs:List V}{ds:List D}{lo hi:Option Int}(h:DVs G O H xs ds):DVs G O H (Jx xs lo hi) (cut ds lo hi):=by
 unfold Jx cut;rw[bR h];exact Cr _<|K7 _ h
theorem aeB:SlR X (ae0<|gx X):=by
 intro π s σ H x v vl vu lo hi sl Q I rx hs pl pu h;refine sU h λO d r m hx hr q=>?_
 match d,hr with
 | .lst ds,hr=>
  cases hr;obtain⟨p,xs,rfl,hp,hd⟩:=jN hx;exact Yt π s σ H _ v vl vu lo hi sl Q I rx hs pl pu ⟨p,xs,rfl,hp,λp hp'=>q p _ (bL hp' _) hp' ⟨_,aV,((Nk hd).bV λb z=>z.elim .inl λe=>.inr (by rw[e];exact hp')).mono<|bL hp' _⟩⟩
theorem UL {u:aS}{o:Option Int}(h:A9 u o):∃l:Option (Int×Tok),u=partValue l/\l.map (·.1)=o:=by
 cases h with
 |none=>exact⟨none,rfl,rfl⟩
 |int i t=>exact⟨some (i,t),rfl,rfl⟩
theorem aeV:SlR X (rSl<|gx X):=by
 intro π s σ H x v vl vu lo hi sl Q I rx hs pl pu h;refine sU h λO d r m hx hr q=>?_
 match d,hr with
 | .lst ds,hr=>exact aeB π s σ H x v vl vu lo hi sl Q I rx hs pl pu ⟨O,.lst ds,r,m,hx,hr,TY m q⟩
 | .tup ds,hr=>
  obtain⟨p,xs,rfl,hp,hd⟩:=yI hx;have hr':(if HT.sIx ds.length 0 lo=0/\HT.sIx ds.length ds.length hi=ds.length then none else some (D.tup<|cut ds lo hi))=some r:=hr;by_cases z:HT.sIx ds.length 0 lo=0/\HT.sIx ds.length ds.length hi=ds.length
  ·rw[if_pos z] at hr';cases hr'
  ·rw[if_neg z] at hr';cases hr';exact acR π s σ H _ v vl vu lo hi sl Q I rx hs pl pu ⟨p,xs,rfl,hp,by rw[bR hd];exact z,λp hp'=>q _ _ (bL hp' _)<|.tup (SqU.of aV)<|(Nk hd).mono<|bL hp' _⟩
 | .str z,hr=>
  cases jo hx;obtain⟨t,rfl⟩:=rx;obtain⟨hz,rfl⟩:=oif hr;obtain⟨l,rfl,rfl⟩:=UL pl;obtain⟨u,rfl,rfl⟩:=UL pu;refine⟨"str",_,PySem.F.slot_str_getitem.lookup,ub _ _ _,wpAny_getItem_str_slice (l:=l) (u:=u) (st:=none) hs rfl<|post_val_or_str ⟨iA (Txt.slice_le z _ _) hz,λt' k=>Oa (tk:=k) I q⟩⟩
def fSl (f:Zae)(lo hi:Me->Res (Option Int)):Zae:=λm=>(f m).bind λd=>(lo m).bind λl=>(hi m).bind λu=>ofO<|gSl d l u
variable {lo hi:Option Expr}{fl fh:Me->Res (Option Int)}{p2:Pos}
theorem xf (he:FB X E e f)(hl:FO X E lo fl)(hu:FO X E hi fh):FE X E (.Subscript e (.Slice lo hi none p2) pos) (fSl f fl fh):=
 bI (Tz aeV he hl hu) λσ H Q hE=>xq5 hE λO0 M0 H0 ow m R q=>⟨O0,M0,H0,ow,m,R,q.bind.imp (aM.refl _) λd q v H1 g1 hv=>⟨O0,M0,H0,ow,m,R.mono g1,q.bind.imp g1 λl q H2 g2=>⟨O0,M0,H0,ow,m,R.mono<|g1.trans g2,q.bind.imp (g1.trans g2) λu q H3 g3=>by
  obtain⟨r,hr,k⟩:=q.ofO;exact⟨_,d,r,(R.mono<|(g1.trans g2).trans g3).mutk,hv.mono<|g2.trans g3,hr,λv H' g d=>k v H' (((g1.trans g2).trans g3).trans g) d⟩⟩⟩⟩
noncomputable def dW:List D->Option D
 |[.lst ds]=>some<|.int ds.length
 |[.tup ds]=>some<|.int ds.length
 |[.str z]=>if z.length<=aw then some (.int z.length) else none
 |[.dct ks _]=>some<|.int ks.length
 |_=>none
theorem uY {G:Gx}{O:Zaa}{H:Hp}{vs:List V}{d:D}(h:DWs G O H vs [d]):∃v,vs=[v]/\DW G O H v d:=by
 cases h with
 |cons a t=>cases t;exact⟨_,rfl,a⟩
theorem RG:iQ X (.builtin "len") (λxs H Q=>∃a ι,xs=[V.ref a]/\Rd H a (.dK ι)/\Q (.int ι.length) H):=by
 intro π s σ H xs us Q I r h;obtain⟨a,ι,rfl,e,q⟩:=h;obtain⟨u,rfl,rx⟩:=vals1 r;cases rx;exact adN I e λt s' I'=>⟨.int ι.length,H,I',⟨t,rfl⟩,q⟩
theorem cQ:iQ X (.builtin "len") (rGC (gx X) dW):=by
 intro π s σ H xs us Q I r h;refine sU h λO ds d m hx hr q=>?_
 match ds,hr with
 |[.lst ds],hr=>
  cases hr;obtain⟨v,rfl,hv⟩:=uY hx;obtain⟨p,xs,rfl,hp,hd⟩:=jN hv;exact wG π s σ H _ us Q I r ⟨p,xs,rfl,.inl hp,by rw[bR hd];exact q _ _ (aM.refl _)<|.int _⟩
 |[.tup ds],hr=>
  cases hr;obtain⟨v,rfl,hv⟩:=uY hx;obtain⟨p,xs,rfl,hp,hd⟩:=yI hv;exact wG π s σ H _ us Q I r ⟨p,xs,rfl,.inr hp,by rw[bR hd];exact q _ _ (aM.refl _)<|.int _⟩
 |[.str z],hr=>
  obtain⟨hz,rfl⟩:=oif hr;obtain⟨v,rfl,hv⟩:=uY hx;cases jo hv;exact GF π s σ H _ us Q I r ⟨z,rfl,hz,q _ _ (aM.refl _)<|.int _⟩
 |[.dct ks vs],hr=>
  cases hr;obtain⟨v,rfl,hv⟩:=uY hx;obtain⟨p,ι,ws,rfl,hp,e1,e2,hd⟩:=yw hv;exact RG π s σ H _ us Q I r ⟨p,ι,rfl,hp,by rw[show ι.length=ks.length by rw[← e1,bp]];exact q _ _ (aM.refl _)<|.int _⟩
noncomputable def S5:List D->Option D
 |[.int i]=>some<|.int<|if i<0 then -i else i
 |_=>none
theorem yF:iQ X (.builtin "abs") (rGC (gx X) S5):=by
 intro π s σ H xs us Q I r h;refine sU h λO ds d m hx hr q=>?_
 match ds,hr with
 |[.int i],hr=>
  cases hr;obtain⟨v,rfl,hv⟩:=uY hx;cases cH hv;exact WK π s σ H _ us Q I r ⟨i,rfl,q _ _ (aM.refl _)<|.int _⟩
noncomputable def gh:List D->Option D
 |[.lst ds]=>some<|.tup ds
 |[.tup ds]=>some<|.tup ds
 |_=>none
theorem ie:iQ X (.type "tuple") (rGC (gx X) gh):=by
 intro π s σ H xs us Q I r h;refine sU h λO ds d m hx hr q=>?_
 match ds,hr with
 |[.lst ds],hr=>
  cases hr;obtain⟨v,rfl,hv⟩:=uY hx;obtain⟨p,xs,rfl,hp,hd⟩:=jN hv;exact vD π s σ H _ us Q I r ⟨p,xs,rfl,.inl ⟨hp,λl hl=>q _ _ (bL hl _)<|.tup (SqU.of aV)<|hd.mono<|bL hl _⟩⟩
 |[.tup ds],hr=>
  cases hr;obtain⟨v,rfl,hv⟩:=uY hx;obtain⟨p,xs,rfl,hp,hd⟩:=xT hv;exact vD π s σ H _ us Q I r ⟨p,xs,rfl,.inr ⟨hp.sq,q _ _ (aM.refl _)<|.tup hp hd⟩⟩
noncomputable def wQ:List D->Option D
 |[.lst ds]=>some<|.lst ds
 |[.tup ds]=>some<|.lst ds
 |_=>none
theorem wu:iQ X (.type "list") (acx (gx X) wQ):=by
 intro π s σ H xs us Q I r h;refine sU h λO ds d m hx hr q=>?_;have go:∀{p:Addr} {ys:List V} {ds:List D},(SqL X.K H p ys\/SqT X.K H p ys)->DVs (gx X) O H ys ds->(∀p H',aM H H'->H p=none->OV (gx X) (Op O p) H' p (.lst ds)->Q (.ref p) H')->Vals [V.ref p] us->bt (dr X.prog X.w) X.A (call (.type "list") us) (EP X π σ Q) X.xe s:=
  λhp hd q r=>GP π s σ H _ us Q I r ⟨_,_,rfl,hp,λl hl=>q _ _ (bL hl _) hl ⟨_,aV,(hd.bV λb z=>z.elim .inl λe=>.inr (by rw[e];exact hl)).mono<|bL hl _⟩⟩
 match ds,hr with
 |[.lst ds],hr=>
  cases hr;obtain⟨v,rfl,hv⟩:=uY hx;obtain⟨p,xs,rfl,hp,hd⟩:=jN hv;exact go (.inl hp) hd q r
 |[.tup ds],hr=>
  cases hr;obtain⟨v,rfl,hv⟩:=uY hx;obtain⟨p,xs,rfl,hp,hd⟩:=yI hv;exact go (.inr hp) hd q r
noncomputable def oN:D->String
 | .non=>"NoneType"
 | .bl _=>"bool"
 | .int _=>"int"
 | .str _=>"str"
 | .tup _=>"tuple"
 | .lst _=>"list"
 | .dct _ _=>"dict"
 | .dcu _ _=>"dict"
 | .exc _=>""
 | .dcf _ _=>""
 | .adr _=>""
 | .ins _ _ _=>""
noncomputable def abM (t T:String):Bool:=t==T||(t=="bool" && T=="int")
noncomputable def kinds:List String:=["NoneType", "bool", "int", "str", "tuple", "list", "dict"]
theorem aal {K:bP}{t:String}:Bn K (.type t) (.type t)=some true:=by unfold Bn;rw[if_pos<|by simp]
theorem Zy {K:bP}:∀t∈kinds,∀T∈kinds,Bn K (.type t) (.type T)=some (abM t T):=by
 intro t ht T hT;simp only[kinds,a8,List.not_mem_nil,or_false] at ht hT;rcases ht with rfl|rfl|rfl|rfl|rfl|rfl|rfl<;>rcases hT with rfl|rfl|rfl|rfl|rfl|rfl|rfl<;>first|exact aal|kernel_rfl
theorem V4 {G:Gx}{O:Zaa}{H:Hp}{v:V}{d:D}(h:DW G O H v d)(n:oN d≠""):oN d∈kinds/\TyK G.K H v (.type<|oN d):=by
 have z:=h.any;cases z with
 |non=>exact⟨by simp[oN,kinds],.of .non⟩
 |bl b=>exact⟨by simp[oN,kinds],.of<|.bl b⟩
 |int b=>exact⟨by simp[oN,kinds],.of<|.int b⟩
 |str b=>exact⟨by simp[oN,kinds],.of<|.str b⟩
 |exc _ _=>exact absurd rfl n
 |dcf _ _ _ _=>exact absurd rfl n
 |adr _=>exact absurd rfl n
 |ins _ _ _ _ _ _=>exact absurd rfl n
 |tup hq _=>exact⟨by simp[oN,kinds],.tup hq.sq⟩
 |lst hq _=>exact⟨by simp[oN,kinds],.lst hq.sq⟩
 |dct _ e _ _ _=>exact⟨by simp[oN,kinds],.of<|.dK e⟩
 |dcu _ e _ _ _=>exact⟨by simp[oN,kinds],.of<|.dT e⟩
def vd (T:String)(f:Zae):Zae:=λm=>(f m).bind λd=>if oN d = "" then .stuck else .ok (.bl<|abM (oN d) T)
theorem rN {x y:Str}{py:Pos}{T:String}(ha:FB X E a fa)(hg:Gl X "isinstance")(hm:X.mg "isinstance" = none)(hv:dA "isinstance" = some (.builtin "isinstance"))(hgy:Gl X y)(hmy:X.mg y=none)(hvy:dA y=some (.type T))(hT:T∈kinds:=by decide)
  (hny:y≠"__name__":=by decide) (hdy:(y==("__debug__":Str))=false:=by decide)
  (he:ax [a,.Name y py] X.env=(false,eval a X.env)::ax [.Name y py] X.env:=by rfl) (he2:ax [.Name y py] X.env=(false,eval (.Name y py) X.env)::ax [] X.env:=by rfl) (τ:(ki pos<|ax [.Name y py] X.env).any (·.1)=false:=by rfl):
  FE X E (.Call (.Name "isinstance" p) [a,.Name y py] [] pos) (vd T fa):=
 bI (Kv Rw hg hm hv (jf ha (jf (YF (v:=.ty T) hgy hmy hvy rfl hny hdy) rA he2) he) (by decide) (by decide) he τ) λσ H Q hE=>xq5 hE λO0 M0 H0 ow m R q=>⟨O0,M0,H0,ow,m,R,q.bind.imp (aM.refl _) λd q v H' g hv=>by
  by_cases n:oN d = ""
  ·rw[if_pos n] at q;exact q.elim
  ·rw[if_neg n] at q;obtain⟨k1,k2⟩:=V4 hv n;exact⟨v,.ty T,_,_,_,rfl,rfl,k2,Zy _ k1 T hT,q _ _ g<|.bl _⟩⟩
end
section
theorem cT.chg (R:cT G O0 M0 H0 ow σ H m)(ho:ow i=some a)(g:Kp (· = a) H H')(h:OV G (Ow O0 ow) H' a d')
  (hs:(m[i]? = some (.ow d)/\s'=.ow d')\/(m[i]? = some (.io d)/\s'=.io d')):cT G O0 M0 H0 ow σ H' (m.set i s'):=by
 have oa:Ow O0 ow a:=.inr ⟨i,ho⟩;have kp:Kp (Ow O0 ow) H H':=λb u e n=>g b u e λz=>n<|z▸oa;have hi:i<m.length:=by rcases hs with⟨e,_⟩|⟨e,_⟩<;>exact rM e
 have ne:∀b o,H b=some o->b≠a->H' b=H b:=λb o e n=>by rw[e];exact g b o e n
 refine⟨⟨by simp[R.len],λb u e n=>?_,λb z=>?_,λb z=>?_,R.no0,R.inj,λj hj=>R.out j (by simpa using hj),λj s e=>?_⟩,yP R.nb λ_ z=>by rcases hs with⟨_,w⟩|⟨_,w⟩<;>(rw[w] at z;cases z)⟩
 ·refine g b u (R.keep b u e n) λz=>?_;subst z;rcases hs with⟨q,_⟩|⟨q,_⟩
  ·obtain⟨a',e1,e2,_⟩:=R.slot i _ q;rw[ho] at e1;cases e1;rw[e2] at e;cases e
  ·obtain⟨a',e1,e2,_⟩:=R.slot i _ q;rw[ho] at e1;cases e1;exact n e2
 ·by_cases q:b=a
  ·rw[q]
   have:=h.mut
   intro w;rw[w] at this;rcases this with⟨_,e⟩|⟨_,e⟩|⟨_,e⟩|⟨_,e⟩<;>cases e
  ·cases w:H b with
   |none=>exact absurd w (R.m0 b z)
   |some o=>rw[g b o w q];simp
 ·by_cases q:b=a
  ·rw[q];exact h.mut
  ·have:=R.mutk b z
   rcases this with⟨_,e⟩|⟨_,e⟩|⟨_,e⟩|⟨_,e⟩
   ·rw[ne b _ e q];exact .inl ⟨_,e⟩
   ·rw[ne b _ e q];exact .inr<|.inl ⟨_,e⟩
   ·rw[ne b _ e q];exact .inr<|.inr<|.inl ⟨_,e⟩
   ·rw[ne b _ e q];exact .inr<|.inr<|.inr ⟨_,e⟩
 ·by_cases q:j=i
  ·subst q;rw[bo hi] at e;cases e;rcases hs with⟨q,rfl⟩|⟨q,rfl⟩
   ·refine gH (R.slot j _ q) λa' e1 e2 e3 _=>?_;rw[ho] at e1;cases e1;exact⟨a,ho,e2,e3,h⟩
   ·refine gH (R.slot j _ q) λa' e1 e2 e3 _=>?_;rw[ho] at e1;cases e1;exact⟨a,ho,e2,e3,h⟩
  ·rw[br<|eS q] at e;have z:=R.slot j s e;have other:∀{b:Addr} {d:D},ow j=some b->OV G (Ow O0 ow) H b d->OV G (Ow O0 ow) H' b d:=λ{b d} e1 h1=>by
    have nb:b≠a:=λw=>q<|R.inj j i b e1<|w▸ho;rcases h1.mut with⟨_,e⟩|⟨_,e⟩|⟨_,e⟩|⟨_,e⟩<;>exact h1.kp R.mutk kp (ne b _ e nb)
   cases s with
   |un=>exact z
   |fz d=>obtain⟨b,x,e,q⟩:=z;exact⟨b,x,e,q.kp R.mutk kp⟩
   |ow d=>obtain⟨b,x,e,f,q'⟩:=z;exact⟨b,x,e,f,other x q'⟩
   |io d=>obtain⟨b,x,e,f,q'⟩:=z;exact⟨b,x,e,f,other x q'⟩
   |bw d=>exact(R.nb j d e).elim
   |hd w b d=>obtain⟨x,e,f,q'⟩:=z;exact⟨x,e,f,other x q'⟩
theorem Go.chg (ho:ow i=some a)(g:Kp (· = a) H H')(h:OV G (Ow O0 ow) H' a d):Go O0 ow H ow H':=
 ⟨λb u e n=>g b u e λz=>n<|z▸.inr ⟨i,ho⟩,λj b e=>.inl<|.inr ⟨j,e⟩,λb n=>by
  by_cases q:b=a
  ·rw[q]
   have:=h.mut
   intro w;rw[w] at this;rcases this with⟨_,e⟩|⟨_,e⟩|⟨_,e⟩|⟨_,e⟩<;>cases e
  ·cases w:H b with
   |none=>exact absurd w n
   |some o=>rw[g b o w q];simp⟩
theorem nY:Kp (· = a) H (L2.upd H a o):=λb u e n=>by rw[L2.bu n];exact e
noncomputable def j9 (m:Me)(i:Nat):Option (Bool×List D):=match m[i]? with
 |some (.ow<|.lst ds)=>some (true,ds)
 |some (.io<|.lst ds)=>some (false,ds)
 |_=>none
noncomputable def putL (m:Me)(i:Nat)(k:Bool)(ds:List D):Me:=m.set i<|if k then .ow (.lst ds) else .io (.lst ds)
theorem sG (R:Rel G O0 M0 H0 ow σ H m){i:Nat}{k:Bool}{ds:List D}(e:j9 m i=some (k,ds)):∃a xs,ow i=some a/\σ[i]? = some (some<|.ref a)/\H a=some (.lst xs)/\DVs G (Ow O0 ow) H xs ds/\((m[i]? = some (.ow<|.lst ds)/\k=true)\/(m[i]? = some (.io<|.lst ds)/\k=false)):=by
 unfold j9 at e;split at e
 ·rename_i q;cases e;obtain⟨a,e1,e2,e3,xs,e4,e5⟩:=R.slot i _ q;exact⟨a,xs,e1,e3,e4,e5,.inl ⟨q,rfl⟩⟩
 ·rename_i q;cases e;obtain⟨a,e1,e2,e3,xs,e4,e5⟩:=R.slot i _ q;exact⟨a,xs,e1,e3,e4,e5,.inr ⟨q,rfl⟩⟩
 ·cases e
theorem cT.put (R:cT G O0 M0 H0 ow σ H m)(ho:ow i=some a)(hm:(m[i]? = some (.ow<|.lst ds)/\k=true)\/(m[i]? = some (.io<|.lst ds)/\k=false))(hd:DVs G (Ow O0 ow) H ys es):
  cT G O0 M0 H0 ow σ (L2.upd H a<|.lst ys) (putL m i k es)/\Go O0 ow H ow (L2.upd H a<|.lst ys):=by
 have oa:Ow O0 ow a:=.inr ⟨i,ho⟩;have kp:Kp (Ow O0 ow) H (L2.upd H a<|.lst ys):=λb u e n=>nY b u e λz=>n<|z▸oa;have ov:OV G (Ow O0 ow) (L2.upd H a<|.lst ys) a (.lst es):=⟨ys,L2.aV,hd.kp R.mutk kp⟩;refine⟨R.chg (d:=.lst ds) (d':=.lst es) ho nY ov ?_,Go.chg ho nY ov⟩;rcases hm with⟨e,rfl⟩|⟨e,rfl⟩
 ·exact .inl ⟨e,rfl⟩
 ·exact .inr ⟨e,rfl⟩
end
section
def cP (i:Nat)(f:Zae):Zab:=λm=>(ofO<|j9 m i).bind λo=>(f m).bind λd=>if o.2.length<aw then .ok (.nx,putL m i o.1<|o.2++[d]) else .stuck
theorem gR (i:Nat)(he:FE X E e f)(hN:X.N[i]? = some x:=by rfl)(hv:Vis X.env.scope x:=by first|exact iP rfl|exact gX (iP rfl)|exact gX (gX rfl))(hd:(x==("__debug__":Str))=false:=by decide)(hcd:(x==("__classdict__":Str))=false:=by decide)
  (ψ:gE (.Name x np) "append" X.env (eval (.Name x np) X.env)=eval (.Name x np) X.env:=by rfl)
  (ξ:((ki η<|ax [e] X.env).all (λx=>!x.1)&&(wx η<|nV [] X.env).all (λx=>x.1.isSome)&&decide ([e].length+([]:List nX).length+(if([]:List nX).isEmpty then 0 else 1)<30))=true:=by rfl)
  (θ:(apos.endLine==η.line)=true:=by rfl) (hs:ax [e] X.env=(false,eval e X.env)::ax [] X.env:=by rfl) (hplain:(ki η<|ax [] X.env).any (·.1)=false:=by rfl)
  (υ:gN (.Call (.Attribute (.Name x np) "append" apos) [e] [] η) none pos.line X.env=pure false:=by rfl):
  FS X E (.Expr (.Call (.Attribute (.Name x np) "append" apos) [e] [] η) pos) (cP i f):=
 cL (uN (Oq jS uu uS yH (jk hN hv hd hcd) (jf he rA hs) ψ ξ θ hs hplain) υ) λW σ H hE=>xq5 hE λO0 M0 H0 ow m R q=>by
  obtain⟨o,ho,q⟩:=Ss.ofO q;obtain⟨k,ds⟩:=o;refine vG (sG R.toRel ho) λa xs e1 e2 e3 e4 e5=>?_;refine⟨_,e2,.inl ⟨rfl,xs,SqL.of e3⟩,O0,M0,H0,ow,m,R.toRel,(Ss.pu R.toRel q).imp (aM.refl _) λd q v H1 g1 hv=>?_⟩;have R1:=R.mono g1;by_cases hz:ds.length<aw
  ·rw[if_pos hz] at q;obtain⟨R2,g2⟩:=R1.put (es:=ds++[d]) (ys:=xs++[v]) e1 e5<|jX (e4.mono g1)<|.cons hv .nil;exact⟨a,xs,v,rfl,rfl,g1 _ _ e3,by rw[bR e4];exact hz,q _ _ _ R2<|(Go.refl g1).trans g2⟩
  ·rw[if_neg hz] at q;exact q.elim
def HS (i:Nat)(f:Zae):Zab:=λm=>(ofO<|j9 m i).bind λo=>(f m).bind λd=>match d with
 | .lst es=>if o.2.length+es.length<=aw then .ok (.nx,putL m i o.1<|o.2++es) else .stuck
 |_=>.stuck
theorem RB (i:Nat)(he:FN X E e f)(hN:X.N[i]? = some x:=by rfl)(hv:Vis X.env.scope x:=by first|exact iP rfl|exact gX (iP rfl)|exact gX (gX rfl))(hd:(x==("__debug__":Str))=false:=by decide)(hcd:(x==("__classdict__":Str))=false:=by decide)
  (ψ:gE (.Name x np) "extend" X.env (eval (.Name x np) X.env)=eval (.Name x np) X.env:=by rfl)
  (ξ:((ki η<|ax [e] X.env).all (λx=>!x.1)&&(wx η<|nV [] X.env).all (λx=>x.1.isSome)&&decide ([e].length+([]:List nX).length+(if([]:List nX).isEmpty then 0 else 1)<30))=true:=by rfl)
  (θ:(apos.endLine==η.line)=true:=by rfl) (hs:ax [e] X.env=(false,eval e X.env)::ax [] X.env:=by rfl) (hplain:(ki η<|ax [] X.env).any (·.1)=false:=by rfl)
  (υ:gN (.Call (.Attribute (.Name x np) "extend" apos) [e] [] η) none pos.line X.env=pure false:=by rfl):
  FS X E (.Expr (.Call (.Attribute (.Name x np) "extend" apos) [e] [] η) pos) (HS i f):=
 cL (uN (Oq jS PySem.F.slot_list_extend PySem.F.type_list_extend Rt (jk hN hv hd hcd) (jf he rA hs) ψ ξ θ hs hplain) υ) λW σ H hE=>xq5 hE λO0 M0 H0 ow m R q=>by
  obtain⟨o,ho,q⟩:=Ss.ofO q;obtain⟨k,ds⟩:=o;refine vG (sG R.toRel ho) λa xs e1 e2 e3 e4 e5=>?_;refine⟨_,e2,.inl ⟨rfl,xs,SqL.of e3⟩,O0,M0,H0,ow,m,R.toRel,(Ss.pu R.toRel q).imp (aM.refl _) λd q p H1 g1 n hv=>?_⟩;have R1:=R.mono g1;cases d with
  |lst es=>
   have q:Ss (gx X) E O0 M0 H0 ow H W (if ds.length+es.length<=aw then .ok (.nx,putL m i k<|ds++es) else .stuck):=q;obtain⟨zs,h1,h2⟩:=hv;by_cases hz:ds.length+es.length<=aw
   ·rw[if_pos hz] at q;have h2':DVs (gx X) (Ow O0 ow) H1 zs es:=h2.bV λb z=>.inl<|.inl z;obtain⟨R2,g2⟩:=R1.put (es:=ds++es) (ys:=xs++zs) e1 e5<|jX (e4.mono g1) h2';exact⟨a,p,xs,zs,rfl,rfl,g1 _ _ e3,h1,by rw[bR e4,bR h2];exact hz,q _ _ _ R2<|(Go.refl g1).trans g2⟩
   ·rw[if_neg hz] at q;exact q.elim
  |_=>exact q.elim
def Gu (j i:Nat):Zab:=λm=>(ofO<|j9 m i).bind λo=>(ofO<|o.2[o.2.length-1]?).bind λd=>.ok (.nx,(putL m i o.1 o.2.dropLast).set j<|.fz d)
theorem wF (h:DVs G O H xs ds):DVs G O H xs.dropLast ds.dropLast:=by
 rw[yn,yn,bR h];exact Cr _ h
theorem R0 (j i:Nat)(hnd:X.N.Nodup)(hj:X.N[j]? = some y)(hy:Loc X.env.scope y)(hN:X.N[i]? = some x:=by rfl)(hv:Vis X.env.scope x:=by first|exact iP rfl|exact gX (iP rfl)|exact gX (gX rfl))(hd:(x==("__debug__":Str))=false:=by decide)(hcd:(x==("__classdict__":Str))=false:=by decide)
  (ψ:gE (.Name x np) "pop" X.env (eval (.Name x np) X.env)=eval (.Name x np) X.env:=by rfl) (θ:(apos.endLine==η.line)=true:=by rfl) {yp:Pos}
  (υ:gN (.Call (.Attribute (.Name x np) "pop" apos) [] [] η) (some<|.Name y yp) pos.line X.env=pure false:=by rfl) (hf:X.fn y=true\/X.env.scope.names.lookup y=some .local:=by first|exact .inl rfl|exact .inr rfl|assumption):
  FS X E (.Assign [.Name y yp] (.Call (.Attribute (.Name x np) "pop" apos) [] [] η) pos) (Gu j i):=
 cL (Dk hnd hj hy (BZ jS yy yA Vy (jk hN hv hd hcd) ψ θ) υ hf) λW σ H hE=>xq5 hE λO0 M0 H0 ow m R q=>by
  obtain⟨o,ho,q⟩:=Ss.ofO q;obtain⟨k,ds⟩:=o;obtain⟨d,hd',q⟩:=Ss.ofO q;refine vG (sG R.toRel ho) λa xs e1 e2 e3 e4 e5=>?_;obtain⟨v,hv,dv⟩:=vY e4 hd';obtain⟨R2,g2⟩:=R.put (es:=ds.dropLast) (ys:=xs.dropLast) e1 e5<|wF e4;have dv2:=dv.go R.mutk g2.ev;exact⟨_,e2,.inl ⟨rfl,xs,SqL.of e3⟩,a,xs,v,rfl,rfl,e3,by rw[bR e4];exact hv,q _ _ _ (R2.set dv2)<|g2.trans Go.set⟩
def mY (i:Nat)(fk fv:Zae):Zab:=λm=>(fv m).bind λd=>(ofO<|j9 m i).bind λo=>(fk m).bind λk=>match k with
 | .int n=>(ofO<|ixN o.2.length n).bind λj=>.ok (.nx,putL m i o.1<|o.2.set j d)
 |_=>.stuck
end
def Xs (G:Gx)(E:XK){α:Type}(O0 M0:Zaa)(H0:Hp)(ow:Os)(σ:L2.St)(H:Hp)(r:Res (α×Me))(k:α->Hp->Prop):Prop:=match r with
 | .ok (a,m')=>∀H',cT G O0 M0 H0 ow σ H' m'->Go O0 ow H ow H'->k a H'
 | .exc c=>∀C H',G.mg c=some (.ref C)->Kp M0 H0 H'->E (.ref C) none H'
 | .stuck=>False
def tX (G:Gx)(E:XK)(f:Me->Res (D×Me)):TE:=λσ H Q=>∃O0 M0 H0 ow m,cT G O0 M0 H0 ow σ H m/\Xs G E O0 M0 H0 ow σ H (f m) λd H'=>∀v,DV G (Ow O0 ow) H' v d->Q v H'
def tXA (G:Gx)(E:XK)(f:Me->Res (List D×Me)):TA:=λσ H Q=>∃O0 M0 H0 ow m,cT G O0 M0 H0 ow σ H m/\Xs G E O0 M0 H0 ow σ H (f m) λds H'=>∀vs,DVs G (Ow O0 ow) H' vs ds->Q vs H'
abbrev FX (X:Cx)(E:XK)(e:Expr)(f:Me->Res (D×Me)):Prop:=PE X e<|tX (gx X) E f
abbrev FXA (X:Cx)(E:XK)(es:List Expr)(f:Me->Res (List D×Me)):Prop:=PA X es<|tXA (gx X) E f
section
variable {G:Gx}{E:XK}{O0 M0:Zaa}{H0 H H1:Hp}{ow:Os}{σ:L2.St}{m:Me}
theorem Xs.imp (h:Xs G E O0 M0 H0 ow σ H r k)(g:Go O0 ow H ow H1)(hk:∀a H' m',cT G O0 M0 H0 ow σ H' m'->Go O0 ow H1 ow H'->r=.ok (a,m')->k a H'->k' a H'):Xs G E O0 M0 H0 ow σ H1 r k':=by
 cases r with
 |ok a=>obtain⟨a,m'⟩:=a;exact λH' R g'=>hk a H' m' R g' rfl<|h H' R<|g.trans g'
 |exc c=>exact h
 |stuck=>exact h
theorem Xs.bind {α β:Type}{r:Res (α×Me)}{f:α->Me->Res (β×Me)}{k:β->Hp->Prop}(h:Xs G E O0 M0 H0 ow σ H (r.bind λp=>f p.1 p.2) k):
  Xs G E O0 M0 H0 ow σ H r λa H'=>∀m',r=.ok (a,m')->cT G O0 M0 H0 ow σ H' m'->Xs G E O0 M0 H0 ow σ H' (f a m') k:=by
 cases r with
 |ok a=>
  obtain⟨a,m1⟩:=a;intro H' R g m' e R';cases e;have h:Xs G E O0 M0 H0 ow σ H (f a m1) k:=h;cases z:f a m1 with
  |ok b=>obtain⟨b,m2⟩:=b;rw[z] at h;exact λH2 R2 g2=>h H2 R2<|g.trans g2
  |exc c=>rw[z] at h;exact h
  |stuck=>rw[z] at h;exact h
 |exc c=>exact h
 |stuck=>exact h
theorem Xs.pu (R:Rel G O0 M0 H0 ow σ H m)(h:Xs G E O0 M0 H0 ow σ H (r.bind f) k):Pu G E r H λa=>Xs G E O0 M0 H0 ow σ H (f a) k:=by
 cases r with
 |ok a=>exact h
 |exc c=>exact λC H' e g=>h C H' e λb o e n=>g b o<|R.keep b o e n
 |stuck=>exact h
end
noncomputable def fX (f:Zae):Me->Res (D×Me):=λm=>(f m).bind λd=>.ok (d,m)
def Fo:Me->Res (List D×Me):=λm=>.ok ([],m)
noncomputable def tQ (fa:Me->Res (D×Me))(fs:Me->Res (List D×Me)):Me->Res (List D×Me):=λm=>(fa m).bind λp=>(fs p.2).bind λq=>.ok (p.1::q.1,q.2)
noncomputable def Fx (fs:Me->Res (List D×Me)):Me->Res (D×Me):=λm=>(fs m).bind λq=>if q.1.length<=aw then .ok (.tup q.1,q.2) else .stuck
section
variable {X:Cx}{E:XK}{e:Expr}{es:List Expr}{f:Zae}{fa:Me->Res (D×Me)}{fs:Me->Res (List D×Me)}{pos:Pos}{i:Nat}{x:Str}
theorem aaP (h:FE X E e f):FX X E e (fX f):=bI h λσ H Q hE=>xq5 hE λO0 M0 H0 ow m R q=>⟨O0,M0,H0,ow,m,R.toRel,(Xs.pu R.toRel q).imp (aM.refl _) λd q v H' g hv=>q H' (R.mono g) (Go.refl g) v hv⟩
theorem QT:FXA X E [] Fo:=pF rA λσ H Q hE=>xq5 hE λO0 M0 H0 ow m R q=>q H R (Go.refl<|aM.refl _) [] .nil
theorem xM (ha:FX X E e fa)(hr:FXA X E es fs)(hs:ax (e::es) X.env=(false,eval e X.env)::ax es X.env:=by rfl):FXA X E (e::es) (tQ fa fs):=
 pF (jf ha hr hs) λσ H Q hE=>xq5 hE λO0 M0 H0 ow m R q=>⟨O0,M0,H0,ow,m,R,(Xs.bind (f:=λd m1=>(fs m1).bind λq=>.ok (d::q.1,q.2)) q).imp (Go.refl<|aM.refl _) λd H1 m1 R1 g1 e1 q v hv=>⟨O0,M0,H0,ow,m1,R1,?_⟩⟩
where finally
 refine(Xs.bind (f:=λds m2=>.ok (d::ds,m2))<|q m1 e1 R1).imp (Go.refl<|aM.refl _) λds H2 m2 R2 g2 e2 q vs hvs=>?_;exact q m2 e2 R2 H2 R2 (Go.refl<|aM.refl _) (v::vs)<|.cons (hv.go R1.mutk g2.ev) hvs
theorem W0 {x1}(h:FXA X E es fs):FX X E (.Tuple es x1 pos) (Fx fs):=bI (Qa h) λσ H Q hE=>xq5 hE λO0 M0 H0 ow m R q=>by
 refine⟨O0,M0,H0,ow,m,R,(Xs.bind (f:=λds m'=>if ds.length<=aw then .ok (D.tup ds,m') else .stuck) q).imp (Go.refl<|aM.refl _) λds H1 m1 R1 g1 e1 q vs hv=>?_⟩;have q:=q m1 e1 R1;by_cases hz:ds.length<=aw
 ·rw[if_pos hz] at q;exact⟨by rw[bR hv];exact hz,λp H' g e=>q H' (R1.mono g) (Go.refl g) _<|.tup (SqU.of e)<|hv.mono g⟩
 ·rw[if_neg hz] at q;exact q.elim
noncomputable def O6 (i:Nat)(f:Me->Res (D×Me)):Zab:=λm=>(f m).bind λp=>.ok (.nx,p.2.set i<|.fz p.1)
theorem Xs.ss {G:Gx}{O0 M0:Zaa}{H0 H:Hp}{ow:Os}{σ:L2.St}{W:Ends}{r:Res (D×Me)}{k:D->Zab}(h:Ss G E O0 M0 H0 ow H W (r.bind λp=>k p.1 p.2)):
  Xs G E O0 M0 H0 ow σ H r λd H'=>∀m',r=.ok (d,m')->cT G O0 M0 H0 ow σ H' m'->Ss G E O0 M0 H0 ow H' W (k d m'):=by
 cases r with
 |ok a=>
  obtain⟨d,m1⟩:=a;intro H' R g m' e R';cases e;exact Ss.go h g
 |exc c=>exact h
 |stuck=>exact h
theorem X6 {pos':Pos}(hN:X.N.Nodup)(hi:X.N[i]? = some x)(hx:Loc X.env.scope x)(he:FX X E e fa)(hs:gN e (some<|.Name x pos') pos.line X.env=pure false:=by rfl)
  (hf:X.fn x=true\/X.env.scope.names.lookup x=some .local:=by first|exact .inl rfl|exact .inr rfl|assumption):FS X E (.Assign [.Name x pos'] e pos) (O6 i fa):=cL (Dk hN hi hx he hs hf) λW σ H hE=>xq5 hE λO0 M0 H0 ow m R q=>by
 refine⟨O0,M0,H0,ow,m,R,(Xs.ss (k:=λd m'=>.ok (.nx,m'.set i<|.fz d)) q).imp (Go.refl<|aM.refl _) λd H1 m1 R1 g1 e1 q v hv=>?_⟩;exact q m1 e1 R1 _ _ _ (R1.set hv) Go.set
end
section
variable {P:cy}{w:fI}{K:bP}{mg:Zp}{base:Heap}
end
section
end
section
variable {G:Gx}{O0 M0:Zaa}{H0 H H':Hp}{ow:Os}{σ:L2.St}{m:Me}{k:Nat}{cap:List Nat}
end
section
theorem Wi (z:Ow (Op O0 l) ow b):Ow O0 ow b\/b=l:=z.elim (λy=>y.elim (λw=>.inl<|.inl w) .inr) λy=>.inl<|.inr y
end
section
end
section
variable {X:Cx}{j k:Nat}{x y:Str}{ps:List Str}{Φ:Zac}{p pos η pos':Pos}{e:Expr}{es:List Expr}{fs:Zad}{i:Nat}
end
theorem Rel.more (R:Rel G O0 M0 H0 ow σ H m)(g:aM H H1)(hl:H l=none)(ho:fM (H1 l)):Rel G (Op O0 l) M0 H0 ow σ H1 m:=by
 have nl:=R.Kz hl;have sub':∀b,Ow (Op O0 l) ow b->Ow O0 ow b\/H b=none:=λb z=>(Wi z).elim .inl λe=>.inr (by rw[e];exact hl);have R':=R.mono g;refine⟨R.len,R'.keep,R'.m0,λb z=>?_,λi a e z=>?_,R.inj,R.out,λi s e=>?_⟩
 ·rcases Wi z with z|z
  ·exact R'.mutk b z
  ·rw[z];exact ho
 ·rcases z with z|z
  ·exact R.no0 i a e z
  ·exact nl<|z▸.inr ⟨i,e⟩
 ·exact((R.slot i s e).bV sub' λ_ _ b _=>tf _).mono g
section
noncomputable def Hm:List D->Option (List Str)
 |[]=>some []
 | .str x::ds=>(Hm ds).map (x::·)
 |_::_=>none
theorem Qy:∀{vs:List V} {ds:List D} {zs:List Str},DVs G O H vs ds->Hm ds=some zs->vs=zs.map V.str
 |_,_,_,.nil,e=>by cases e;rfl
 |_,_,_,.cons (d:=d) h hs,e=>by
  cases d with
  |str i=>
   obtain⟨ns,e1,rfl⟩:=omap (by simpa[Hm] using e);cases h;rw[Qy hs e1];rfl
  |_=>cases e
def Fb:D->List D->Option D
 | .str z,[.lst es]=>match Hm es with
  |some zs=>if BM z zs=true then some (.str<|AV z zs) else none
  |none=>none
 |_,_=>none
theorem W8:MtR X "str.join" (rGM (gx X) Fb):=by
 intro π s σ H x vs v us Q I rx rv h;refine gG h λO d ds r m hx hy hr q=>?_;unfold Fb at hr;split at hr
 ·rename_i z es;cases jo hx;obtain⟨y,rfl,hy2⟩:=uY hy;obtain⟨p,xs,rfl,hp,hd⟩:=jN hy2;have hr:(match Hm es with|some zs=>if BM z zs=true then some (D.str<|AV z zs) else none|none=>none)=some r:=hr;cases e1:Hm es with
  |none=>rw[e1] at hr;cases hr
  |some zs=>
   rw[e1] at hr;obtain⟨ok,rfl⟩:=oif hr
   have:=Qy hd e1
   subst this;exact Ye X.K rfl π s σ H _ _ v us Q I rx rv ⟨z,p,zs,rfl,rfl,hp,ok,q _ _ (aM.refl _)<|.str _⟩
 ·cases hr
end
def Qk (K:bP):Sp:=λvs H Q _=>∃(a:Addr) (ns:List Int),vs=[.ref a]/\SqL K H a (ns.map V.int)/\ns.length<=63/\∀H',Q (.bl true) H'
theorem Km:∀ns:List Int,DVs G O H (ns.map V.int) (ns.map D.int)
 |[]=>.nil
 |n::ns=>.cons (.int n)<|Km ns
theorem Zh {P:cy}{w:fI}{K:bP}{mg:Zp}{base:Heap}{CX:CXT}{k:Nat}{f:Addr}{fd:kA}{ps:List Str}{Φ:Zac}(h:∀ns:List Int,ns.length<=63->∃fr,Φ [.lst<|ns.map D.int]=.ok (fr,.bl true))
  (F:qL P w K mg base CX k f fd ps (spF ⟨K,mg⟩ Φ)):qL P w K mg base CX k f fd ps (Qk K):=F.imp λvs H Q E hE=>by
 refine uh hE λa ns e hS hl q=>?_;subst e;obtain⟨fr,e⟩:=h ns hl;refine⟨λ_=>False,[.lst<|ns.map D.int],λ_ z=>z.elim,.cons (.lst (hS.elim (λz=>.inl ⟨id,z⟩) .inr)<|Km ns) .nil,?_⟩;rw[e];intro v H' _ hv _;cases hv;exact q H'
section
end
section
noncomputable def Bv:List D->Option (List Bool)
 |[]=>some []
 | .bl b::ds=>(Bv ds).map (b::·)
 |_::_=>none
theorem KQ:∀{vs:List V} {ds:List D} {bs:List Bool},DVs G O H vs ds->Bv ds=some bs->vs=bs.map V.bl
 |_,_,_,.nil,e=>by cases e;rfl
 |_,_,_,.cons (d:=d) h hs,e=>by
  cases d with
  |bl b=>
   obtain⟨bs,e1,rfl⟩:=omap (by simpa[Bv] using e);cases h;rw[KQ hs e1];rfl
  |_=>cases e
def UG:List D->Option D
 |[.lst ds]=>(Bv ds).map λbs=>.bl<|bs.all id
 |_=>none
end
section
theorem K6:∀{bs:List Bool} {us:List aS},Vals (bs.map V.bl) us->LSm.BoolsAre us bs
 |[],_,.nil=>.nil
 |b::bs,_,.cons r t=>by cases r;exact .cons b<|K6 t
theorem EY (hc:X.calm=true):iQ X (.builtin "all") (rGC (gx X) UG):=by
 intro π s σ H xs us Q I r h;refine sU h λO ds d m hx hr q=>?_;unfold UG at hr;split at hr
 ·rename_i ds;obtain⟨bs,e1,rfl⟩:=omap hr;obtain⟨v,rfl,hv⟩:=uY hx;obtain⟨p,xs,rfl,hp,hd⟩:=jN hv
  have:=KQ hd e1
  subst this;obtain⟨u,rfl,rx⟩:=vals1 r;cases rx;obtain⟨wa,r',pl,hz⟩:=I.list hp;have ba:=K6 r';have li:=pl.isList;have lt1:p<s.heap.objs.size:=by obtain⟨_,e,_⟩:=li;exact aI e
  refine call_all_walk<|wpAny_pyIter_list li ?_;refine⟨s.heap.objs.size,[s.heap.objs.size,p],[s.heap.objs.size],wa.toArray.size,_,_,λi=>(bs[i]?).getD true,rfl,Walks.list (A:=X.A.in1) (I.ok.hd hc) _ p (cK lt1) wa.toArray,
   ⟨⟨_,aE _ rfl,rfl,rfl⟩,li.push _⟩,λi v sn Qn En pv qv=>?_,λh' tk kp=>?_⟩
  ·obtain⟨b,e,rfl⟩:=ba.get i v (by simpa using pv);simp only[e,Option.getD_some] at qv;exact mM qv
  ·have e:((cf wa.toArray.size).all λi=>(bs[i]?).getD true)=bs.all id:=by
    rw[a9,ba.length];exact LSm.range_all bs
   rw[e];exact⟨.bl _,H,I.kept<|LSm.kept_iter kp,rfl,q _ _ (aM.refl _)<|.bl _⟩
 ·cases hr
end
def Ite (K:bP)(a:Addr):It:=
 ⟨λi H=>∃xs x,SqL K H a xs/\xs[i]? = some x,λi H x H'=>∃y l,(∀xs,SqL K H a xs->xs[i]? = some y)/\x=.ref l/\H l=none/\H'=upd H l (.tup [.int i,y]),λi H=>∃xs,SqL K H a xs/\xs.length<=i⟩
theorem Ld {X:Cx}{π:Zl}{σ:L2.St}{H:Hp}{s:bq}{e it:Addr}{h':Heap}{oe oi:Obj}(I:Inv X π σ H s)(fe:uX X π H e)(fi:uX X π H it)(hne:e≠it)
  (he:∃o,s.heap.get? e=some o) (hi:∃o,s.heap.get? it=some o) (he':h'.get? e=some oe) (hi':h'.get? it=some oi) (de:oe.isFreed=false) (di:oi.isFreed=false)
  (k:∀b o,b≠e->b≠it->s.heap.get? b=some o->h'.get? b=some o):∃h1,Inv X π σ H { s with heap:=h1 }/\h1.objs.size=s.heap.objs.size/\∀b u,h1.get? b=some u->h'.get? b=some u:=by
 obtain⟨o1,he⟩:=he;obtain⟨o2,hi⟩:=hi;refine lZ fe λf0 f1 f2 f3 f4 f5=>?_;refine lZ fi λg0 g1 g2 g3 g4 g5=>?_;have I1:Inv X π σ H { s with heap:=s.heap.update e λ_=>oe }:=I.turned (t':=s.toks) (λb o hb x=>(dS _ _<|eS hb).trans x) f0 f1 f3 f4 f5;have I2:Inv X π σ H { s with heap:=(s.heap.update e λ_=>oe).update it λ_=>oi }:=I1.turned (t':=s.toks) (λb o hb x=>(dS _ _<|eS hb).trans x) g0 g1 g3 g4 g5;refine⟨_,I2,?_,λb u x=>?_⟩
 ·rw[(eA _ _ _).1,(eA _ _ _).1]
 ·by_cases z:b=it
  ·subst z;rw[eC (λ_=>oi) ((dS _ _ hne).trans hi) di] at x;cases x;exact hi'
  ·rw[dS _ _<|eS z] at x;by_cases y:b=e
   ·subst y;rw[eC (λ_=>oe) he de] at x;cases x;exact he'
   ·rw[dS _ _<|eS y] at x;exact k b u y z x
theorem Dv {o:Obj}{vs:Array aS}(d:o.data=.fields vs):o.isFreed=false:=by
 obtain⟨c,dd,da,sl⟩:=o;cases(show da=.fields vs from d);rfl
theorem RW {P:cy}{w:fI}{K:bP}{elts:List Expr}{x1}{pos:Pos}(a e it:Addr)(hne:e≠it):
  Turn P w K (.Tuple elts x1 pos) (Ite K a) [e,it] e (λi h=>(∃old,IsEnum h e it i old)/\h.IsListIter it a i) where
 mem:=by simp
 obj:=λi h st b hb=>by
  obtain⟨⟨old,q1⟩,q2⟩:=st;have eb:b=e\/b=it:=by simpa using hb
  rcases eb with rfl|rfl
  ·exact⟨_,q1,λv z=>by cases(show BA _=Data.cell v from z)⟩
  ·obtain⟨o,e',c,d⟩:=q2;exact⟨o,e',λv z=>by rw[d] at z;cases z⟩
 keep:=λi h h' st k=>by
  obtain⟨⟨old,q1⟩,q2⟩:=st;exact⟨⟨old,k e (by simp) _ q1⟩,q2.at λo x=>k it (by simp) o x⟩
 item:=by
  intro X hP hw hK hc i π s σ H E I hf st hg;subst hP hw hK;obtain⟨xs,x,hq,hx⟩:=hg;obtain⟨⟨old,q1⟩,q2⟩:=st;obtain⟨χ,rv,p,hz⟩:=I.list hq;obtain⟨u,hu,ru⟩:=rv.get hx;have fe:=hf e (by simp);have fi:=hf it (by simp);refine wpAny_pyNext_enum_item q1 q2 p.isList (x:=u) (by simpa using hu) hne λh' eo il ht hsz k=>?_;obtain⟨oi,ei,ci,di⟩:=id il;obtain⟨oj,ej,cj,dj⟩:=id q2;obtain⟨h1,I1,z1,k1⟩:=Ld I fe fi hne ⟨_,q1⟩ ⟨_,ej⟩ eo ei rfl (Dv di) k;have I2:Inv X π σ (upd H s.heap.objs.size<|.tup [.int i,x]) { s with heap:=h',toks:=s.toks+1 }:=
   I1.laid (t':=s.toks+1) k1 (x8 z1) (show cV X.prog X.w _ _ _ (.tup [.int i,x]) from⟨(show 2<=aw by decide),[.int i s.toks,u],.cons ⟨s.toks,rfl⟩<|.cons ru .nil,⟨_,ht,rfl,_,rfl,rfl⟩⟩)
  have fr:H s.heap.objs.size=none:=I.hok.fresh<|ay _;have ne1:e≠s.heap.objs.size:=cK<|aI q1;have ne2:it≠s.heap.objs.size:=cK<|aI ej;have nn:∀b,b≠s.heap.objs.size->H b=none->upd H s.heap.objs.size (.tup [.int i,x]) b=none:=λb z y=>by rw[bu z];exact y
  refine⟨_,rfl,wpAny_letOwnedTupleGo_enum eo λh2 e2 sb=>?_⟩;refine lZ fe λf0 f1 f2 f3 f4 f5=>?_;refine⟨.ref s.heap.objs.size,_,I2.turned (t':=s.toks+1) (λb o hb y=>(sb.2 b hb).trans y) (nn e ne1 f0) f1 f3 f4 f5,rfl,⟨x,_,λys hy=>by rw[I.Cy hy hq];exact hx,rfl,fr,rfl⟩,⟨⟨_,e2⟩,il.at λo y=>(sb.2 it<|eS hne).trans y⟩,λb hb=>?_⟩;have eb:b=e\/b=it:=by simpa using hb
  rcases eb with rfl|rfl
  ·exact nn _ ne1 f0
  ·exact nn _ ne2 fi.1
 done:=by
  intro X hP hw hK hc i π s σ H E I hf st hg;subst hP hw hK;obtain⟨xs,hq,hx⟩:=hg;obtain⟨⟨old,q1⟩,q2⟩:=st;obtain⟨χ,rv,p,hz⟩:=I.list hq;refine lZ (hf it<|by simp) λf0 f1 f2 f3 f4 f5=>?_;have hl:=rv.length;exact wpAny_pyNext_enum_end (I.ok.hd hc) q1 q2 p.isList (by simp;lia) λh' eb=>⟨rfl,I.turned (t':=s.toks) (λb o hb y=>eb b o hb y) f0 f1 f3 f4 f5⟩
 self:=λ_ _ _ _ _ st h=>by
  obtain⟨⟨old,q1⟩,q2⟩:=st;exact wpAny_pyIter_enum q1 h
section
variable {X:Cx}{tg:Expr}
def ad1 (K:bP)(ta:TA):TI:=λσ H R=>ta σ H λvs H1=>∃p,vs=[.ref p]/\(∃xs,SqL K H1 p xs)/\R (Ite K p) H1
theorem Yd {elts:List Expr}{x1}{pt:Pos}{a:Expr}{ta:TA}{p pos:Pos}(hg:Gl X "enumerate")(hm:X.mg "enumerate" = none)(ha:PA X [a] ta)(hs:ax [a] X.env=[(false,eval a X.env)]:=by rfl):PI X (.Tuple elts x1 pt) (.Call (.Name "enumerate" p) [a] [] pos) (ad1 X.K ta):=by
 intro π s σ H R I h;refine Call_<|oK I hg hm boot_enumerate<|dE (thn (ha pos π s σ H _ I h) λus s1 hE=>xq2 hE λvs H1 I1 r1 q1=>?_) hs rfl;obtain⟨l,e,⟨xs,hq⟩,q⟩:=q1;subst e;obtain⟨u,rfl,rx⟩:=vals1 r1;cases rx;obtain⟨χ,rv,pl,hz⟩:=I1.list hq;refine call_enumerate_list pl.isList λh' e1 e2 sz k=>?_;have I2:Inv X π σ H1 { s1 with heap:=h' }:=I1.kept (t':=s1.toks) k;refine wpAny_pyIter_enum (s:={ s1 with heap:=h' }) e1 ?_;refine⟨_,[s1.heap.objs.size+1,s1.heap.objs.size],_,_,H1,rfl,I2,RW l _ _<|Nat.succ_ne_self _,⟨⟨_,e1⟩,e2⟩,λb hb=>?_,q⟩;have eb:b=s1.heap.objs.size+1\/b=s1.heap.objs.size:=by simpa using hb
 have hb':s1.heap.objs.size<=b:=eb.elim (λz=>by rw[z];exact Nat.le_succ _) λz=>x8 z.symm;exact I1.KD hb'<|I1.hok.fresh hb'
noncomputable def Cg (ds:List D):List D:=ds.mapIdx λi d=>.tup [.int i,d]
theorem FQ (ds:List D):(Cg ds).length=ds.length:=by simp[Cg]
theorem YZ {G:Gx}{H:Hp}{a:Addr}{ds:List D}{P:(Zaa)->Hp->Prop}(h:∀O' H2,P O' H2->∃xs,SqL G.K H2 a xs/\DVs G O' H2 xs ds):zf G (Ite G.K a) (Cg ds) P:=by
 intro O' H2 ev;obtain⟨xs,hq,hd⟩:=h O' H2 ev;have ν:=bR hd;refine⟨λi hi=>⟨xs,xs[i]'(by rw[FQ] at hi;lia),hq,by simp⟩,λi x H' hi y=>?_,xs,hq,by rw[FQ];lia⟩;obtain⟨y,l,h1,rfl,fr,rfl⟩:=y;obtain⟨d,e1,e2⟩:=nu hd<|h1 xs hq;exact⟨bL fr _,.tup [.int i,d],by simp[Cg,List.getElem?_mapIdx,e1],.tup (SqU.of aV)<|.cons (.int _)<|.cons (e2.mono<|bL fr _) .nil⟩
def abN (f:Zad):Zad:=λm=>(f m).bind λd=>match d with
 |[.lst ds]=>.ok<|Cg ds
 |_=>.stuck
theorem T6 {E:XK}{fs:Zad}{elts:List Expr}{x1}{pt:Pos}{a:Expr}{p pos:Pos}(hg:Gl X "enumerate")(hm:X.mg "enumerate" = none)(ha:FAB X E [a] fs)(hs:ax [a] X.env=[(false,eval a X.env)]:=by rfl):FIw X E (.Tuple elts x1 pt) (.Call (.Name "enumerate" p) [a] [] pos) (abN fs):=
 jU (Yd hg hm ha hs) λσ H R hE=>xq5 hE λO0 M0 H0 ow m Re q=>⟨O0,M0,H0,ow,m,Re,q.bind.imp (aM.refl _) λds q vs H' g hv=>by
  have z:∃xs,ds=[.lst xs]:=by
   cases ds with
   |nil=>exact q.elim
   |cons d ds=>cases d with
    |lst xs=>cases ds with
     |nil=>exact⟨xs,rfl⟩
     |cons _ _=>exact q.elim
    |_=>exact q.elim
  obtain⟨ds,rfl⟩:=z;cases hv with
  |cons h1 h2=>
   cases h2;obtain⟨l,xs,rfl,hl,hd⟩:=jN h1;exact⟨_,rfl,⟨_,hl⟩,q _ H' g<|YZ (H:=H') λO' H2 ⟨sub,g2⟩=>⟨_,KH hl g2,hd.go (Re.mono g).mutk ⟨sub,.of g2⟩⟩⟩⟩
end
theorem WX:A4 (.type "list_reverseiterator") "__len__" = pure none:=by rfl
theorem Xj:A4 (.type "list_reverseiterator") "__length_hint__" = pure (some<|.builtin "list_reverseiterator.__length_hint__"):=by rfl
section
variable {pr:cy}{wo:fI}{A:iN}{s:bq}{R:Result->bq->Prop}
variable {St:Nat->bq->Prop}{P:Nat->aS->Prop}{n:Nat}{I:Addr}{fp wr:List Addr}{G:Array sN->Array sN->Prop}
theorem Yo (W:WalksS pr wo A.in1 I fp wr G n P St)(ty:∀i s,St i s->s.TypeIs (.ref I) "list_reverseiterator")(S:Addr)(res:aS)(c:Nat)(st:St 0 s)(nf:S∉fp)(mi:I∈fp)
  (oS:s.heap.get? S=some { cls:=.type "list",data:=.seq #[] c })
  (fin:∀s' ac c',Moved (S::wr) G s s'->s'.heap.get? S=some { cls:=.type "list",dict:=none,data:=.seq ac c',slots:=#[] }->ItemsOf P ac n->R (.ok<|.ret res) s') (hn:n<=aw):
  bt (dr pr wo) A.in1 (mr (.ref S) (.ref I) res)
   (λf t=>match f with|.done f=>R (.ok f) t|.again c'=>c'.quiet=true/\A3 (dr pr wo) A c' R t) (λe t=>R (.error e) t) s:=by
 have ne:S≠I:=λe=>nf<|e▸mi;have sr:va (.ref S) (.ref I)=false:=by simp[va,ne]
 unfold mr;refine ae<|wpAny_typeOf (ty 0 _ st) ?_;rw[if_neg (by rw[sr];decide)];refine ae<|W.self 0 _ _ _ st<|ae<|ic ?_;unfold Builtin.List.listLengthHint;refine ae<|mo (ty 0 _ st) WX ?_;show bt (dr pr wo) A.in1 (specialOf (cx I) (c9 "__length_hint__") >>= _) _ _ _;refine ae<|mo (ty 0 _ st) Xj ?_;generalize hid:("list_reverseiterator.__length_hint__":String)=id0
 wp_delta
 rw[show splitId id0=some ("list_reverseiterator", "__length_hint__") from by subst hid;decide +kernel];subst hid;refine ae<|kl (b:=true) (ty 0 _ st) (by rw[isSubtype_type];kernel_rfl)<|ag ?_;rw[if_neg<|by decide];exact ag ⟨plainId_quiet F.plain_extend_loop _,codeAny_extend_loopS W hn _ nf _ n 0 _ _ _ rfl (eT _) st oS (ItemsOf.nil P) fin⟩
end
section
theorem RP {items:Array aS}(h:ItemsOf (λi v=>items[items.size-1-i]? = some v) ac items.size):ac=items.reverse:=by
 obtain⟨z,h⟩:=h;refine Array.ext (by simp[z]) λi h1 h2=>?_
 have:=h i ac[i]<|by simp
 rw[Array.getElem_reverse];obtain⟨_,e⟩:=mT.mp this;exact e.symm
theorem Ec {items:Array aS}(hh:A.handled=none)(li:s.heap.IsList l items)(ri:s.heap.IsRevIter I l ((items.size:Int)-1))(ne:l≠I)(hn:items.size<=aw)
  (fin:∀t tk c,(∀b o,b≠I->s.heap.get? b=some o->t.get? b=some o)->t.get? s.heap.objs.size=some { cls:=.type "list",dict:=none,data:=.seq items.reverse c,slots:=#[] }->Q (.ref s.heap.objs.size) { s with heap:=t,toks:=tk }):
  bt (dr pr wo) A (call (.type "list") [.ref I]) Q E s:=by
 obtain⟨oi,ei,ci,di⟩:=id ri;obtain⟨ol,el,cl⟩:=id li;have ltI:I<s.heap.objs.size:=aI ei;have ltl:l<s.heap.objs.size:=aI el;have nf:s.heap.objs.size∉[I,l]:=λhm=>by
  rcases a8.mp hm with z|z
  ·exact qh ltI z
  ·exact qh ltl<|cb.mp z
 have W:=(Walks.listRev (prog:=pr) (w:=wo) (A:=A.in1.in1) hh I l ne items).toS;refine callType_codes (Q₁:=λo t=>o=.ref s.heap.objs.size/\t={ s with heap:=s.heap.push { cls:=.type "list",data:=.seq #[] } }) F.called_list (F.typeCall_list_1 _) F.entry_list_init (code_list_new _ ⟨rfl,rfl⟩) λo t ht=>?_;obtain⟨rfl,rfl⟩:=ht;have oS:(s.heap.push { cls:=.type "list",data:=.seq #[] }).get? s.heap.objs.size=some { cls:=.type "list",data:=.seq #[] }:=aE _ rfl;refine⟨⟨_,oS,rfl⟩,F.args_list_init_2 _ _,?_⟩;show bt (dr pr wo) A.in1.in1 (do let old←xA (.ref s.heap.objs.size);Builtin.List.listUpdate (.ref s.heap.objs.size) (λ_=>#[]);letGo old.toList.reverse;mr (.ref s.heap.objs.size) (.ref I) .none) _ _ _;refine ae ?_;unfold xA;refine ae<|iS oS rfl<|ag ?_;refine ae (m:=updateSeq s.heap.objs.size λ_=>#[])<|wpAny_updateSeq oS rfl ?_;have oS2:=eC (r6 λ_=>(#[]:Array aS)) oS rfl;refine ae<|w8 ?_;have kp:∀b o,b≠s.heap.objs.size->s.heap.get? b=some o->((s.heap.push { cls:=.type "list",data:=.seq #[] }).update s.heap.objs.size<|r6 λ_=>(#[]:Array aS)).get? b=some o:=
  λb o hb e=>(dS _ _<|eS hb).trans<|ai _ e
 have st0:(0:Nat)<=items.size/\s.heap.IsRevIter I l ((items.size:Int)-1-((0:Nat):Int))/\s.heap.IsList l items:=⟨eT _,by simpa using ri,li⟩;refine Yo W (λi t x=>x.2.1.typeIs) _ .none _ ⟨st0.1,st0.2.1.at λo e=>kp I o (cK ltI) e,st0.2.2.at λo e=>kp l o (cK ltl) e⟩ nf (by simp) oS2 (λt ac c mv oS3 it=>?_) hn;refine⟨rfl,?_⟩;rw[Moved.eq_with mv];rw[RP it] at oS3;exact fin _ _ c (λb o hb e=>mv.heap b o (λhm=>by
  rcases a8.mp hm with z|hm
  ·exact ib _<|z▸aI e
  ·exact hb<|cb.mp hm) (kp b o (cK<|aI e) e)) oS3
end
section
theorem qX:dA "list" = some (.type "list"):=by decide +kernel
theorem WM:dA "reversed" = some (.type "reversed"):=by decide +kernel
def ad4 (K:bP):List V->Hp->VK->Prop:=λxs H Q=>∃p ys,xs=[.ref p]/\SqL K H p ys/\∀l,H l=none->Q (.ref l) (upd H l<|.lst ys.reverse)
theorem XD (hc:X.calm=true)(hg:Gl X "list")(hm:X.mg "list" = none)(hg':Gl X "reversed")(hm':X.mg "reversed" = none)(ha:PA X [e] ta)
  (hs:ax [e] X.env=[(false,eval e X.env)]:=by rfl) (hs':ax [.Call (.Name "reversed" p') [e] [] pos'] X.env=[(false,eval (.Call (.Name "reversed" p') [e] [] pos') X.env)]:=by rfl):
  PE X (.Call (.Name "list" p) [.Call (.Name "reversed" p') [e] [] pos'] [] pos) (tCB (ad4 X.K) ta):=by
 intro π s σ H Q I h;refine kB<|oK I hg hm qX<|dE ?_ hs' rfl;rw[hs'];refine oQ<|kB<|oK I hg' hm' WM<|dE (thn (ha pos' π s σ H _ I h) λus s1 hE=>xq2 hE λvs H1 I1 r1 q1=>?_) hs rfl;obtain⟨l,ys,rfl,hq,q⟩:=q1;obtain⟨u,rfl,rx⟩:=vals1 r1;cases rx;obtain⟨χ,rv,pl,hz⟩:=I1.list hq;have ν:=rv.length;refine call_reversed_list pl.isList<|tJ ?_;have el:l<s1.heap.objs.size:=by obtain⟨_,e,_⟩:=pl.isList;exact aI e
 refine Ec (s:={ s1 with heap:=s1.heap.push (revObj l<|(χ.toArray.size:Int)-1) }) (I1.ok.hd hc) (pl.isList.push _) ⟨_,aE _ rfl,rfl,rfl⟩ (cK el) (by simp only[a9]<;>lia) λt tk c kp oS=>?_;have sz:s1.heap.objs.size<=(s1.heap.push<|revObj l<|(χ.toArray.size:Int)-1).objs.size:=by rw[kc];exact Nat.le_succ _
 refine⟨.ref _,_,I1.laid (t':=tk) (λb o e=>kp b o (cK<|aI e)<|ai _ e) sz<|show cV X.prog X.w _ t _ (.lst ys.reverse) from⟨by simp;lia,χ.reverse,c,rv.reverse,by simpa using oS⟩,rfl,q _<|I1.hok.fresh sz⟩
noncomputable def Vo:List D->Option D
 |[.lst ds]=>some<|.lst ds.reverse
 |_=>none
theorem Y9 (hc:X.calm=true)(hg:Gl X "list")(hm:X.mg "list" = none)(hg':Gl X "reversed")(hm':X.mg "reversed" = none)(ha:FAB X E [e] fs)
  (hs:ax [e] X.env=[(false,eval e X.env)]:=by rfl) (hs':ax [.Call (.Name "reversed" p') [e] [] pos'] X.env=[(false,eval (.Call (.Name "reversed" p') [e] [] pos') X.env)]:=by rfl):
  FN X E (.Call (.Name "list" p) [.Call (.Name "reversed" p') [e] [] pos'] [] pos) (aQ Vo fs):=
 bI (XD hc hg hm hg' hm' ha hs hs') λσ H Q h=>by
  refine tW h λO0 M0 H0 ow m R q=>?_;refine⟨O0,M0,H0,ow,m,R,q.bind.imp (aM.refl _) λds q vs H1 g1 hv=>?_⟩;obtain⟨r,hr,k⟩:=q.ofO
  match ds,hr with
  |[.lst ds],hr=>
   cases hr;obtain⟨v,rfl,hw⟩:=uY hv;obtain⟨l,xs,rfl,hp,hd⟩:=jN hw;exact⟨l,xs,rfl,hp,λb hb=>k b _ (g1.trans<|bL hb _) (g1.free hb) ⟨_,aV,((PJ hd).bV λc z=>z.elim .inl λe=>.inr (by rw[e];exact hb)).mono<|bL hb _⟩⟩
end
section
end
theorem ints_of:∀{ns:List Int} {us:List aS},Vals (ns.map V.int) us->∃xs:Array (Int×Tok),us.toArray=intItems xs/\xs.toList.map (·.1)=ns
 |[],_,.nil=>⟨#[],by simp[intItems],rfl⟩
 |n::ns,_,.cons r t=>by
  obtain⟨xs,e1,e2⟩:=ints_of t;obtain⟨k,rfl⟩:=r;refine⟨#[(n,k)]++xs,?_,by simp[e2]⟩;have e3:=congrArg xI e1;apply Array.toList_inj.mp;simp[intItems] at e3 ⊢;exact e3
def KY:List D->Option D
 |[.lst ds]=>(Lx ds).map λns=>.int ns.sum
 |_=>none
section
theorem yL (hc:X.calm=true):iQ X (.builtin "sum") (rGC (gx X) KY):=by
 intro π s σ H xs us Q I r h;refine sU h λO ds d m hx hr q=>?_;unfold KY at hr;split at hr
 ·rename_i ds;obtain⟨ns,e1,rfl⟩:=omap hr;obtain⟨v,rfl,hv⟩:=uY hx;obtain⟨p,xs,rfl,hp,hd⟩:=jN hv
  have:=Pa hd e1
  subst this;obtain⟨u,rfl,rx⟩:=vals1 r;cases rx;obtain⟨χ,r',pl,hz⟩:=I.list hp;obtain⟨ys,e2,e3⟩:=ints_of r';refine sum_intListG (I.ok.hd hc) (xs:=ys) (e2▸pl.isList) λh' tk t' kp=>?_;have e4:preSum (numAt ys) ys.size=ns.sum:=by rw[preSum_eq,pS (by simp),e3]
  rw[e4];exact⟨.int _,H,I.kept kp,⟨t',rfl⟩,q _ _ (aM.refl _)<|.int _⟩
 ·cases hr
end
theorem yr (h:DV G O H v d):∀{vs:List V} {ds:List D} (j:Nat),DVs G O H vs ds->DVs G O H (vs.set j v) (ds.set j d)
 |_,_,_,.nil=>.nil
 |_,_,0,.cons _ t=>.cons h t
 |_,_,j+1,.cons a t=>.cons a<|yr h j t
section
theorem DQ (i:Nat)(he:FE X E e f)(hk:FE X E ke fk)(hN:X.N[i]? = some x:=by rfl)(hv:Vis X.env.scope x:=by first|exact iP rfl|exact gX (iP rfl)|exact gX (gX rfl))(hd:(x==("__debug__":Str))=false:=by decide)(hcd:(x==("__classdict__":Str))=false:=by decide)
  (ha:∀v,tw (.Subscript (.Name x np) ke spos) X.env v=(do
   let ov←r9 [v] (eval (.Name x np) X.env)
   let iv←r9 [v,ov] (eval ke X.env)
   standAt spos
   r9 [v,ov,iv] (setItem ov iv v)
   release [v,ov,iv] []):=by intro _;rfl)
  (hs:oI [.Subscript (.Name x np) ke spos] e pos.line X.env=pure false:=by rfl) (hw:oP [.Subscript (.Name x np) ke spos] e X.env=pure none:=by rfl)
  (h1:(kq [.Subscript (.Name x np) ke spos] X.env).map (·.2)=[tw (.Subscript (.Name x np) ke spos) X.env]:=by rfl):FS X E (.Assign [.Subscript (.Name x np) ke spos] e pos) (mY i fk f):=
 cL (My he (Vx (jk hN hv hd hcd) hk set_list ha) hs hw h1) λW σ H hE=>xq5 hE λO0 M0 H0 ow m R q=>
  ⟨O0,M0,H0,ow,m,R.toRel,(Ss.pu R.toRel q).imp (aM.refl _) λd q v H1 g1 hv=>by
   obtain⟨o,ho,q⟩:=Ss.ofO q;obtain⟨k,ds⟩:=o;have R1:=R.mono g1;refine vG (sG R1.toRel ho) λa xs e1 e2 e3 e4 e5=>?_;refine⟨_,e2,O0,M0,H0,ow,m,R1.toRel,(Ss.pu R1.toRel<|q.go<|Go.refl g1).imp (aM.refl _) λdk q vk H2 g2 hvk=>?_⟩;cases dk with
   |int n=>
    cases hvk;obtain⟨j,hj,q⟩:=Ss.ofO q;have R2:=R1.mono g2;obtain⟨R3,g3⟩:=R2.put (es:=ds.set j d) (ys:=xs.set j v) e1 e5<|yr (hv.mono g2) j<|e4.mono g2;exact⟨a,xs,n,j,rfl,rfl,g2 _ _ e3,by rw[bR e4];exact hj,q _ _ _ R3<|(Go.refl g2).trans g3⟩
   |_=>exact q.elim⟩
end
noncomputable def uW:D->Option Key
 | .int i=>some<|.inl i
 | .str z=>some<|.inr z
 |_=>none
noncomputable def Ae:List Key->List D->Key->Option D
 |k'::ks,d::ds,k=>if k'=k then some d else Ae ks ds k
 |_,_,_=>none
noncomputable def Gi:List Key->List D->Key->D->List D
 |k'::ks,d'::ds,k,d=>(if k'=k then d else d')::Gi ks ds k d
 |_,_,_,_=>[]
def putD (ks:List Key)(ds:List D)(k:Key)(d:D):List Key×List D:=if ks.any (λx=>decide<|x=k)=true then(ks,Gi ks ds k d) else(ks++[k],ds++[d])
theorem Ja (h:DW G O H v d)(e:uW d=some k):v=kV k:=by
 cases d with
 |int i=>cases e;cases cH h;rfl
 |str z=>cases e;cases jo h;rfl
 |_=>cases e
theorem Bb:∀{ι:List (Key×V)} {ds:List D},DVs G O H (ι.map (·.2)) ds->
  (∃v d,oU ι k=some v/\Ae (ι.map (·.1)) ds k=some d/\DV G O H v d)\/(oU ι k=none/\Ae (ι.map (·.1)) ds k=none)
 |[],_,.nil=>.inr ⟨rfl,rfl⟩
 |(k',v)::ι,_,.cons (d:=d) h hs=>by
  by_cases q:k'=k
  ·exact .inl ⟨v,d,uc q,by simp[Ae,q],h⟩
  ·rw[ur (p:=(k',v)) q];simp only[ar,Ae,if_neg q];exact Bb hs
section
def cI:D->D->Option D
 | .dct ks ds,k=>(uW k).bind<|Ae ks ds
 |_,_=>none
def WD:D->D->Option Bool
 |k,.dct ks ds=>(uW k).map λk=>(Ae ks ds k).isSome
 |_,_=>none
theorem j8 (r:gD j A):A.units+16<mm:=by have:=r.un;lia
theorem acS (hr:gD j X.A):OpR X (fx .In) (rGB (gx X) WD):=by
 intro π s σ H x y v u Q I rx ry h;refine gG h λO d e r m hx hy e1 q=>?_;unfold WD at e1;split at e1
 ·rename_i d ks ds;obtain⟨k,e2,rfl⟩:=omap e1;obtain⟨p,ι,ws,rfl,hp,rfl,rfl,hd⟩:=yw hy;cases Ja hx e2;cases ry;have fin:(oU ι k).isSome=(Ae (ι.map (·.1)) ds k).isSome:=by
   rcases Bb (k:=k) hd with⟨_,_,a,b,_⟩|⟨a,b⟩<;>simp[a,b]
  refine afj (j8 hr) I (V6 (k:=k) hp) rx λs' I'=>⟨.bl _,H,I',rfl,?_⟩;rw[fin];exact q
 ·cases e1
theorem dU (hr:gD j X.A)(ha:FB X E a fa)(hb:FB X E b fb)(hs:XJ b):FE X E (.Subscript a b pos) (az cI fa fb):=
 bI (Om (j8 hr) ha hb hs) λσ H Q hE=>xq5 hE λO0 M0 H0 ow m R q=>two (r:=λx y H Q=>∃a v,x=.ref a/\JX X.K H a y (some v)/\Q v H) R (K:=λz H=>∀v H',aM H H'->DV (gx X) (Ow O0 ow) H' v z->Q v H') q (λ_ _ k g v H' g' d=>k v H' (g.trans g') d) λx y d e H' g hx hy q' R'=>by
  obtain⟨r,hr,k⟩:=q'.ofO
  match d,hr with
  | .dct ks ds,hr=>
   obtain⟨p,ι,ws,rfl,hp,rfl,rfl,hd⟩:=yw hx;obtain⟨ky,e2,e3⟩:=eB.mp hr;cases Ja hy e2;rcases Bb (k:=ky) hd with⟨v,d,a,b,c⟩|⟨a,b⟩
   ·rw[b] at e3;cases e3;exact⟨p,v,rfl,a▸V6 hp,k _ _ (aM.refl _) c⟩
   ·rw[b] at e3;cases e3
noncomputable def CQ:Zae:=λ_=>.ok<|.dct [] []
theorem Ii:FN X E (.Dict [] [] pos) CQ:=bI Ux λσ H Q ⟨O0,M0,H0,ow,m,R,q⟩ p hp=>q p _ (bL hp _) hp ⟨[],[],aV,rfl,rfl,.nil⟩
end
theorem Ga (k:Key)(v:V):∀ι:List (Key×V),(ι.map λkv=>if kv.1=k then(kv.1,v) else kv).map (·.1)=ι.map (·.1)
 |[]=>rfl
 |p::ι=>by
  rw[ar,ar,ar,Ga k v ι];split<;>rfl
theorem yQ (h:DV G O H v d):∀{ι:List (Key×V)} {ds:List D},DVs G O H (ι.map (·.2)) ds->DVs G O H ((ι.map λkv=>if kv.1=k then(kv.1,v) else kv).map (·.2)) (Gi (ι.map (·.1)) ds k d)
 |[],_,.nil=>.nil
 |(k',v')::ι,_,.cons h1 hs=>by
  simp only[ar,Gi];split
  ·exact .cons h<|yQ h hs
  ·exact .cons h1<|yQ h hs
theorem Ob (h:DV G O H v d)(hs:DVs G O H (ι.map (·.2)) ds):
  (putK ι k v).map (·.1)=(putD (ι.map (·.1)) ds k d).1/\DVs G O H ((putK ι k v).map (·.2)) (putD (ι.map (·.1)) ds k d).2:=by
 have e:(ι.any λkv=>decide<|kv.1=k)=(ι.map (·.1)).any λx=>decide (x=k):=by rw[List.any_map];rfl
 unfold putK putD;rw[e];split
 ·exact⟨Ga k v ι,yQ h hs⟩
 ·exact⟨by simp,by rw[bE];exact jX hs<|.cons h .nil⟩
noncomputable def z9 (m:Me)(i:Nat):Option (Bool×List Key×List D):=match m[i]? with
 |some (.ow<|.dct ks ds)=>some (true,ks,ds)
 |some (.io<|.dct ks ds)=>some (false,ks,ds)
 |_=>none
noncomputable def Bo (m:Me)(i:Nat)(k:Bool)(ks:List Key)(ds:List D):Me:=m.set i<|if k then .ow (.dct ks ds) else .io (.dct ks ds)
section
theorem aak (R:Rel G O0 M0 H0 ow σ H m){i:Nat}{k:Bool}{ks:List Key}{ds:List D}(e:z9 m i=some (k,ks,ds)):∃a ι,ow i=some a/\σ[i]? = some (some<|.ref a)/\H a=some (.dK ι)/\ι.map (·.1)=ks/\DVs G (Ow O0 ow) H (ι.map (·.2)) ds/\((m[i]? = some (.ow<|.dct ks ds)/\k=true)\/(m[i]? = some (.io<|.dct ks ds)/\k=false)):=by
 unfold z9 at e;split at e
 ·rename_i q;cases e;obtain⟨a,e1,e2,e3,ι,vs,e4,e5,rfl,e6⟩:=R.slot i _ q;exact⟨a,ι,e1,e3,e4,e5,e6,.inl ⟨q,rfl⟩⟩
 ·rename_i q;cases e;obtain⟨a,e1,e2,e3,ι,vs,e4,e5,rfl,e6⟩:=R.slot i _ q;exact⟨a,ι,e1,e3,e4,e5,e6,.inr ⟨q,rfl⟩⟩
 ·cases e
theorem cT.Bo (R:cT G O0 M0 H0 ow σ H m)(ho:ow i=some a)(hm:(m[i]? = some (.ow<|.dct ks ds)/\k=true)\/(m[i]? = some (.io<|.dct ks ds)/\k=false))
  (hk:ι.map (·.1)=ls) (hd:DVs G (Ow O0 ow) H (ι.map (·.2)) es):cT G O0 M0 H0 ow σ (L2.upd H a<|.dK ι) (F.Bo m i k ls es)/\Go O0 ow H ow (L2.upd H a<|.dK ι):=by
 have oa:Ow O0 ow a:=.inr ⟨i,ho⟩;have kp:Kp (Ow O0 ow) H (L2.upd H a<|.dK ι):=λb u e n=>nY b u e λz=>n<|z▸oa;have ov:OV G (Ow O0 ow) (L2.upd H a<|.dK ι) a (.dct ls es):=⟨ι,_,L2.aV,hk,rfl,hd.kp R.mutk kp⟩;refine⟨R.chg (d:=.dct ks ds) (d':=.dct ls es) ho nY ov ?_,Go.chg ho nY ov⟩;rcases hm with⟨e,rfl⟩|⟨e,rfl⟩
 ·exact .inl ⟨e,rfl⟩
 ·exact .inr ⟨e,rfl⟩
end
def gf (i:Nat)(fk fv:Zae):Zab:=λm=>(fv m).bind λd=>(ofO<|z9 m i).bind λo=>(fk m).bind λk=>(ofO<|uW k).bind λk=>
 if o.2.1.length<aw then .ok (.nx,Bo m i o.1 (putD o.2.1 o.2.2 k d).1 (putD o.2.1 o.2.2 k d).2) else .stuck
section
theorem o8 (i:Nat)(hr:gD jj X.A)(he:FE X E e f)(hk:FE X E ke fk)(hN:X.N[i]? = some x:=by rfl)(hv:Vis X.env.scope x:=by first|exact iP rfl|exact gX (iP rfl)|exact gX (gX rfl))(hd:(x==("__debug__":Str))=false:=by decide)(hcd:(x==("__classdict__":Str))=false:=by decide)
  (hs:gN e (some<|.Subscript (.Name x np) ke spos) pos.line X.env=pure false:=by rfl):FS X E (.Assign [.Subscript (.Name x np) ke spos] e pos) (gf i fk f):=
 cL (HB (j8 hr) (jk hN hv hd hcd) hk he hs) λW σ H hE=>xq5 hE λO0 M0 H0 ow m R q=>
  ⟨O0,M0,H0,ow,m,R.toRel,(Ss.pu R.toRel q).imp (aM.refl _) λd q v H1 g1 hv=>by
   obtain⟨o,ho,q⟩:=Ss.ofO q;obtain⟨k,ks,ds⟩:=o;have R1:=R.mono g1;refine K4 (aak R1.toRel ho) λa ι e1 e2 e3 e4 e5 e6=>?_;refine⟨_,e2,O0,M0,H0,ow,m,R1.toRel,(Ss.pu R1.toRel<|q.go<|Go.refl g1).imp (aM.refl _) λdk q vk H2 g2 hvk=>?_⟩;obtain⟨ky,h1,q⟩:=Ss.ofO q;cases Ja (.inl hvk) h1;by_cases hz:ks.length<aw
   ·rw[if_pos hz] at q;have R2:=R1.mono g2;obtain⟨p1,p2⟩:=Ob (k:=ky) (hv.mono g2)<|e5.mono g2;rw[e4] at p1 p2;obtain⟨R3,g3⟩:=R2.Bo e1 e6 p1 p2;exact⟨a,_,rfl,Je.k (g2 _ _ e3) (by rw[← bp (f:=(·.1)),e4];exact hz),q _ _ _ R3<|(Go.refl g2).trans g3⟩
   ·rw[if_neg hz] at q;exact q.elim⟩
end
section
end
noncomputable def afD:List D->Option D
 |[.int i,.int j]=>some<|.int<|if j<i then j else i
 |_=>none
section
noncomputable def Xe:List D->Option D
 |[.bl b]=>some<|.int<|if b then 1 else 0
 |[.str x]=>if x.length<=640 then(PySem.intText? x).map D.int else none
 |_=>none
theorem Sq:iQ X (.type "int") (rGC (gx X) Xe):=by
 intro π s σ H xs us Q I r h;refine sU h λO ds d m hx hr q=>?_;unfold Xe at hr;split at hr
 ·rename_i b;cases hr;obtain⟨v,rfl,hv⟩:=uY hx;have e:v=.bl b:=by
   rcases hv with hv|⟨_,_,_,z⟩
   ·cases hv;rfl
   ·exact z.elim
  subst e;obtain⟨u,rfl,rx⟩:=vals1 r;cases rx;exact call_int_bool ⟨.int _,H,I.tok _,⟨_,rfl⟩,q _ _ (aM.refl _)<|.int _⟩
 ·rename_i x;obtain⟨v,rfl,hv⟩:=uY hx;cases jo hv;have hr:(if x.length<=640 then(PySem.intText? x).map D.int else none)=some d:=hr;by_cases hl:x.length<=640
  ·rw[if_pos hl] at hr;obtain⟨n,hn,rfl⟩:=omap hr;obtain⟨u,rfl,rx⟩:=vals1 r;obtain⟨t,rfl⟩:=rx;exact W.KIN.call_text hn hl ⟨.int n,H,I.tok _,⟨_,rfl⟩,q _ _ (aM.refl _)<|.int _⟩
  ·rw[if_neg hl] at hr;cases hr
 ·cases hr
end
section
end
section
theorem mulOk_of (h0:0<=n)(h1:n<=1000)(hz:z.length<=1000):MulOk z n:=by
 refine⟨by simp;lia,λp _=>?_,λp _=>?_⟩
 ·have:(1000:Int)<=(2^63-1)/n:=by
   rw[Int.le_ediv_iff_mul_le<|by lia]
   lia
  lia
 ·have:z.length*n.toNat<=1000*1000:=Nat.mul_le_mul hz (by lia)
  have e:aw=16777216:=by decide
  simp[AE,e]
  lia
end
noncomputable def lO (f:D->Option Kt):List D->Option (List Kt)
 |[]=>some []
 |d::ds=>(f d).bind λk=>(lO f ds).map λks=>k::ks
def ktD:Nat->D->Option Kt
 |_,.int i=>some<|.k<|.inl i
 |_,.str x=>some<|.k<|.inr x
 |n+1,.tup ds=>(lO (ktD n) ds).map .t
 |_,_=>none
def uz:D->Option (List Kt)
 | .tup ds=>lO (ktD 7) ds
 |_=>none
noncomputable def cA:List (List Kt)->List D->List Kt->Option D
 |k'::ks,d::ds,k=>if k'=k then some d else cA ks ds k
 |_,_,_=>none
noncomputable def sY:List (List Kt)->List D->List Kt->D->List D
 |k'::ks,d'::ds,k,d=>(if k'=k then d else d')::sY ks ds k d
 |_,_,_,_=>[]
def gJ (ks:List (List Kt))(ds:List D)(k:List Kt)(d:D):List (List Kt)×List D:=if ks.any (λx=>decide<|x=k)=true then(ks,sY ks ds k d) else(ks++[k],ds++[d])
theorem Hg (hf:∀{v d k},DV G O H v d->f d=some k->Aa (KTp G.K) H n v k):∀{vs:List V} {ds:List D} {ks:List Kt},DVs G O H vs ds->lO f ds=some ks->sZ (KTp G.K) H n vs ks
 |_,_,_,.nil,e=>by cases e;exact .nil
 |_,_,_,.cons (d:=d) (ds:=ds) h hs,e=>by
  have e:(f d).bind (λk=>(lO f ds).map λks=>k::ks)=some _:=e;obtain⟨k,e1,e2⟩:=eB.mp e;obtain⟨ks,e3,rfl⟩:=omap e2;exact .cons (hf h e1)<|Hg hf hs e3
theorem aaS:∀(n:Nat) {v:V} {d:D} {k:Kt},DV G O H v d->ktD n d=some k->Aa (KTp G.K) H n v k
 |n,_,_,k,.int i,e=>by
  have:k=.k (.inl i):=by cases n<;>(rw[ktD] at e;exact(cE e).symm)
  subst this;exact Aa.k (x:=.inl i)
 |n,_,_,k,.str x,e=>by
  have:k=.k (.inr x):=by cases n<;>(rw[ktD] at e;exact(cE e).symm)
  subst this;exact Aa.k (x:=.inr x)
 |n+1,_,_,k,.tup h hs,e=>by
  rw[ktD] at e;obtain⟨ks,e3,rfl⟩:=omap e;exact .t h<|Hg (λh e=>aaS n h e) hs e3
 |0,_,_,k,.tup h hs,e=>by simp[ktD] at e
 |n,_,_,k,.non,e=>by cases n<;>simp[ktD] at e
 |n,_,_,k,.bl _,e=>by cases n<;>simp[ktD] at e
 |n,_,_,k,.adr _,e=>by cases n<;>simp[ktD] at e
 |n,_,_,k,.ins _ _ _ _ _ _,e=>by cases n<;>simp[ktD] at e
 |n,_,_,k,.exc _ _,e=>by cases n<;>simp[ktD] at e
 |n,_,_,k,.lst _ _,e=>by cases n<;>simp[ktD] at e
 |n,_,_,k,.dct _ _ _ _ _,e=>by cases n<;>simp[ktD] at e
 |n,_,_,k,.dcu _ _ _ _ _,e=>by cases n<;>simp[ktD] at e
 |n,_,_,k,.dcf _ _ _ _,e=>by cases n<;>simp[ktD] at e
theorem uI (h:DW G O H v d)(e:uz d=some k):∃b,v=.ref b/\TrT (KTp G.K) H b k:=by
 cases d with
 |tup ds=>
  obtain⟨b,xs,rfl,hq,hd⟩:=xT h;exact⟨b,rfl,xs,hq,Hg (λh e=>aaS 7 h e) hd e⟩
 |_=>cases e
theorem Av:∀{ι:List (List Kt×V)} {ds:List D},DVs G O H (ι.map (·.2)) ds->
  (∃v d,oU ι k=some v/\cA (ι.map (·.1)) ds k=some d/\DV G O H v d)\/(oU ι k=none/\cA (ι.map (·.1)) ds k=none)
 |[],_,.nil=>.inr ⟨rfl,rfl⟩
 |(k',v)::ι,_,.cons (d:=d) h hs=>by
  by_cases q:k'=k
  ·exact .inl ⟨v,d,uc q,by simp[cA,q],h⟩
  ·rw[ur (p:=(k',v)) q];simp only[ar,cA,if_neg q];exact Av hs
noncomputable def dcK:D->Option (List (List Kt)×List D)
 | .dcu ks ds=>some (ks,ds)
 | .dcf ks ds=>some (ks,ds)
 |_=>none
theorem Hu (h:DW G O H v d)(e:dcK d=some (ks,ds)):∃a ι,v=.ref a/\Rd H a (.dT (KTp G.K) ι)/\ι.map (·.1)=ks/\DVs G O H (ι.map (·.2)) ds:=by
 cases d with
 |dcu ks' ds'=>
  cases e;obtain⟨p,ι,ws,rfl,hp,e1,rfl,hd⟩:=Wg h;exact⟨p,ι,rfl,.inl hp,e1,hd⟩
 |dcf ks' ds'=>
  cases e;rcases h with h|⟨_,_,_,h⟩
  ·cases h with
   |dcf e1 e2 e3 hs=>subst e3;exact⟨_,_,rfl,.inr ⟨_,e1⟩,e2,hs⟩
  ·exact h.elim
 |_=>cases e
section
def jV (d k:D):Option D:=(dcK d).bind λc=>(uz k).bind<|cA c.1 c.2
def Rp (k d:D):Option Bool:=(dcK d).bind λc=>(uz k).map λk=>(cA c.1 c.2 k).isSome
def zK (d e:D):Option Bool:=(Rp d e).map (!·)
theorem NT (hd:DVs G O H (ι.map (·.2)) ds):(oU ι k).isSome=(cA (ι.map (·.1)) ds k).isSome:=by
 rcases Av (k:=k) hd with⟨_,_,a,b,_⟩|⟨a,b⟩<;>simp[a,b]
theorem Nm (hr:gD j X.A):OpR X (fx .NotIn) (rGB (gx X) zK):=by
 intro π s σ H x y v u Q I rx ry h;refine gG h λO d e r m hx hy e1 q=>?_;obtain⟨c,e0,rfl⟩:=omap e1;obtain⟨⟨ks,ds⟩,ec,e3⟩:=eB.mp e0;obtain⟨k,e2,rfl⟩:=omap e3;obtain⟨p,ι,rfl,hp,rfl,hd⟩:=Hu hy ec;obtain⟨b,rfl,hb⟩:=uI hx e2;cases ry;refine aao (j8 hr) I (.inr ⟨ι,k,b,hp,rfl,hb,rfl⟩) rx λs' I'=>⟨.bl _,H,I',rfl,?_⟩;rw[NT hd];exact q
theorem sI (hr:gD j X.A)(ha:FB X E a fa)(hb:FB X E b fb)(hs:XJ b):FE X E (.Subscript a b pos) (az jV fa fb):=
 bI (Om (j8 hr) ha hb hs) λσ H Q hE=>xq5 hE λO0 M0 H0 ow m R q=>two (r:=λx y H Q=>∃a v,x=.ref a/\JX X.K H a y (some v)/\Q v H) R (K:=λz H=>∀v H',aM H H'->DV (gx X) (Ow O0 ow) H' v z->Q v H') q (λ_ _ k g v H' g' d=>k v H' (g.trans g') d) λx y d e H' g hx hy q' R'=>by
  obtain⟨r,hr,k⟩:=q'.ofO;obtain⟨⟨ks,ds⟩,ec,hr⟩:=eB.mp hr;obtain⟨ky,e2,e3⟩:=eB.mp hr;obtain⟨p,ι,rfl,hp,rfl,hd⟩:=Hu hx ec;obtain⟨b,rfl,hb⟩:=uI hy e2;rcases Av (k:=ky) hd with⟨v,d,a,c,dv⟩|⟨a,c⟩
  ·have e3:cA (ι.map (·.1)) ds ky=some r:=e3;rw[c] at e3;cases e3;exact⟨p,v,rfl,.inr ⟨ι,ky,b,hp,rfl,hb,a.symm⟩,k _ _ (aM.refl _) dv⟩
  ·have e3:cA (ι.map (·.1)) ds ky=some r:=e3;rw[c] at e3;cases e3
noncomputable def sW:Zae:=λ_=>.ok<|.dcu [] []
theorem uT:FN X E (.Dict [] [] pos) sW:=bI U0 λσ H Q ⟨O0,M0,H0,ow,m,R,q⟩ p hp=>q p _ (bL hp _) hp ⟨[],[],aV,rfl,rfl,.nil⟩
end
theorem BX (k:List Kt)(v:V):∀ι:List (List Kt×V),(ι.map λkv=>if kv.1=k then(kv.1,v) else kv).map (·.1)=ι.map (·.1)
 |[]=>rfl
 |p::ι=>by
  rw[ar,ar,ar,BX k v ι];split<;>rfl
theorem v5 (h:DV G O H v d):∀{ι:List (List Kt×V)} {ds:List D},DVs G O H (ι.map (·.2)) ds->DVs G O H ((ι.map λkv=>if kv.1=k then(kv.1,v) else kv).map (·.2)) (sY (ι.map (·.1)) ds k d)
 |[],_,.nil=>.nil
 |(k',v')::ι,_,.cons h1 hs=>by
  simp only[ar,sY];split
  ·exact .cons h<|v5 h hs
  ·exact .cons h1<|v5 h hs
theorem Qq (h:DV G O H v d)(hs:DVs G O H (ι.map (·.2)) ds):
  (putK ι k v).map (·.1)=(gJ (ι.map (·.1)) ds k d).1/\DVs G O H ((putK ι k v).map (·.2)) (gJ (ι.map (·.1)) ds k d).2:=by
 have e:(ι.any λkv=>decide<|kv.1=k)=(ι.map (·.1)).any λx=>decide (x=k):=by rw[List.any_map];rfl
 unfold putK gJ;rw[e];split
 ·exact⟨BX k v ι,v5 h hs⟩
 ·exact⟨by simp,by rw[bE];exact jX hs<|.cons h .nil⟩
noncomputable def zc (m:Me)(i:Nat):Option (Bool×List (List Kt)×List D):=match m[i]? with
 |some (.ow<|.dcu ks ds)=>some (true,ks,ds)
 |some (.io<|.dcu ks ds)=>some (false,ks,ds)
 |_=>none
noncomputable def ni (m:Me)(i:Nat)(k:Bool)(ks:List (List Kt))(ds:List D):Me:=m.set i<|if k then .ow (.dcu ks ds) else .io (.dcu ks ds)
section
theorem G4 (R:Rel G O0 M0 H0 ow σ H m){i:Nat}{k:Bool}{ks:List (List Kt)}{ds:List D}(e:zc m i=some (k,ks,ds)):∃a ι,ow i=some a/\σ[i]? = some (some<|.ref a)/\H a=some (.dT (KTp G.K) ι)/\ι.map (·.1)=ks/\DVs G (Ow O0 ow) H (ι.map (·.2)) ds/\((m[i]? = some (.ow<|.dcu ks ds)/\k=true)\/(m[i]? = some (.io<|.dcu ks ds)/\k=false)):=by
 unfold zc at e;split at e
 ·rename_i q;cases e;obtain⟨a,e1,e2,e3,ι,vs,e4,e5,rfl,e6⟩:=R.slot i _ q;exact⟨a,ι,e1,e3,e4,e5,e6,.inl ⟨q,rfl⟩⟩
 ·rename_i q;cases e;obtain⟨a,e1,e2,e3,ι,vs,e4,e5,rfl,e6⟩:=R.slot i _ q;exact⟨a,ι,e1,e3,e4,e5,e6,.inr ⟨q,rfl⟩⟩
 ·cases e
theorem cT.ni (R:cT G O0 M0 H0 ow σ H m)(ho:ow i=some a)(hm:(m[i]? = some (.ow<|.dcu ks ds)/\k=true)\/(m[i]? = some (.io<|.dcu ks ds)/\k=false))
  (hk:ι.map (·.1)=ls) (hd:DVs G (Ow O0 ow) H (ι.map (·.2)) es):cT G O0 M0 H0 ow σ (L2.upd H a<|.dT (KTp G.K) ι) (F.ni m i k ls es)/\Go O0 ow H ow (L2.upd H a<|.dT (KTp G.K) ι):=by
 have oa:Ow O0 ow a:=.inr ⟨i,ho⟩;have kp:Kp (Ow O0 ow) H (L2.upd H a<|.dT (KTp G.K) ι):=λb u e n=>nY b u e λz=>n<|z▸oa;have ov:OV G (Ow O0 ow) (L2.upd H a<|.dT (KTp G.K) ι) a (.dcu ls es):=⟨ι,_,L2.aV,hk,rfl,hd.kp R.mutk kp⟩;refine⟨R.chg (d:=.dcu ks ds) (d':=.dcu ls es) ho nY ov ?_,Go.chg ho nY ov⟩;rcases hm with⟨e,rfl⟩|⟨e,rfl⟩
 ·exact .inl ⟨e,rfl⟩
 ·exact .inr ⟨e,rfl⟩
end
def qN (i:Nat)(fk fv:Zae):Zab:=λm=>(fv m).bind λd=>(ofO<|zc m i).bind λo=>(fk m).bind λk=>(ofO<|uz k).bind λk=>
 if o.2.1.length<aw then .ok (.nx,ni m i o.1 (gJ o.2.1 o.2.2 k d).1 (gJ o.2.1 o.2.2 k d).2) else .stuck
section
theorem wN (i:Nat)(hr:gD jj X.A)(he:FE X E e f)(hk:FE X E ke fk)(hN:X.N[i]? = some x:=by rfl)(hv:Vis X.env.scope x:=by first|exact iP rfl|exact gX (iP rfl)|exact gX (gX rfl))(hd:(x==("__debug__":Str))=false:=by decide)(hcd:(x==("__classdict__":Str))=false:=by decide)
  (hs:gN e (some<|.Subscript (.Name x np) ke spos) pos.line X.env=pure false:=by rfl):FS X E (.Assign [.Subscript (.Name x np) ke spos] e pos) (qN i fk f):=
 cL (HB (j8 hr) (jk hN hv hd hcd) hk he hs) λW σ H hE=>xq5 hE λO0 M0 H0 ow m R q=>
  ⟨O0,M0,H0,ow,m,R.toRel,(Ss.pu R.toRel q).imp (aM.refl _) λd q v H1 g1 hv=>by
   obtain⟨o,ho,q⟩:=Ss.ofO q;obtain⟨k,ks,ds⟩:=o;have R1:=R.mono g1;refine K4 (G4 R1.toRel ho) λa ι e1 e2 e3 e4 e5 e6=>?_;refine⟨_,e2,O0,M0,H0,ow,m,R1.toRel,(Ss.pu R1.toRel<|q.go<|Go.refl g1).imp (aM.refl _) λdk q vk H2 g2 hvk=>?_⟩;obtain⟨ky,h1,q⟩:=Ss.ofO q;obtain⟨b,rfl,hb⟩:=uI (.inl hvk) h1;by_cases hz:ks.length<aw
   ·rw[if_pos hz] at q;have R2:=R1.mono g2;obtain⟨p1,p2⟩:=Qq (k:=ky) (hv.mono g2)<|e5.mono g2;rw[e4] at p1 p2;obtain⟨R3,g3⟩:=R2.ni e1 e6 p1 p2;exact⟨a,_,rfl,Je.t (g2 _ _ e3) hb (by rw[← bp (f:=(·.1)),e4];exact hz),q _ _ _ R3<|(Go.refl g2).trans g3⟩
   ·rw[if_neg hz] at q;exact q.elim⟩
end
section
end
section
theorem Tw (nd:(d==eI)=false)(ho:s.heap.get? d=some o)(hx:o.ExactDict)(ht:o.data=.dict es ep)
  (k:Q (.ref s.heap.objs.size) { s with heap:=s.heap.push { cls:=.type "dict_keyiterator",data:=.fields #[.ref d,.int 0 0,.int es.size 0,.int ep 0] } }):bt (dr prog w) A (BH<|.ref d) Q E s:=by
 have ty:s.TypeIs (.ref d) "dict":=⟨o,ho,hx.1⟩;refine wpAny_pyIter_slot ty xB<|c8 xB ty PySem.F.entry_dict_iter ?_<|PySem.F.args_dict_iter_1 _;unfold AF.«dict.__iter__» Builtin.Dict.dictSlotNone;refine ae<|ae<|i8 ty<|show bt _ _ (pure<|cx d) _ _ s from ag ?_;show bt _ _ (kC d >>= _) _ _ s;unfold kC;rw[if_neg (λz=>by rw[nd] at z;cases z)];exact ae<|ag<|ae<|fq ho ht<|ae<|kd ho ht<|ae<|eJ<|ag ⟨_,rfl, "dict_keyiterator",_,⟨_,aE _ rfl,rfl⟩,fF.lookup,by simpa[rg] using k⟩
theorem U5 (hit:s.heap.IsKeyIter it d i es.size ep)(ho:s.heap.get? d=some o)(ht:o.data=.dict es ep)
  (lt:i<es.size) (go:∀h',h'.IsKeyIter it d (i+1) es.size ep->kx it s.heap h'->Q (es[i]?.map (·.key)) { s with heap:=h' }):bt (dr prog w) A (tF<|.ref it) Q E s:=by
 obtain⟨q,hq,hc,hf⟩:=id hit;have ty:=hit.typeIs;have e1:es[i]? = some es[i]:=iX lt;have no:h9 "dict_keyiterator" = false:=by decide
 have turned:(s.heap.update it<|rV (·.setIfInBounds 1 (rg<|(i:Int)+1))).IsKeyIter it d (i+1) es.size ep:=
  ⟨_,eC _ hq<|qk<|kD hf _,(ve ..).trans hc,by rw[kD hf];simp[rg]⟩
 have fin:=go _ turned<|eA ..;rw[e1] at fin;unfold tF;refine ae<|pd<|eW (name:=c9 "__next__") ty fF<|c8 fF ty om ?_<|nB _;refine ae<|ag<|ae<|ae ?_
 first
 |refine ae (js ty<|ag<|ae<|kM hq hf ?_)
 |refine ae (lj ty<|ag<|ae<|kM hq hf ?_)
 simp only[no,f7,if_false];show bt _ _ (if(cx d==i9)=true then _ else _) _ _ s;rw[if_neg λz=>by cases(show false=true from z)];refine ae<|ag<|ae<|fq ho ht ?_;rw[if_neg<|by simp];refine ae<|ag<|ae<|kd ho ht ?_;rw[if_neg<|by simp];refine ag ?_;simp only[show ¬((i:Int)<0) by lia,if_false,lx,e1];refine ae ?_
 first
 |refine ae (js ty<|ag<|ae<|qq ty ?_)
 |refine ae (lj ty<|ag<|ae<|qq ty ?_)
 show bt _ _ (setField (.ref it) 1 (rg<|(i:Int)+1) >>= _) _ _ s;refine ae<|nE hq hf (by simp)<|ae<|ic<|ae<|qq (s:={ s with heap:=s.heap.update it (rV (·.setIfInBounds 1 (rg<|(i:Int)+1))) }) turned.typeIs ?_;exact(show bt _ _ (pure es[i].key) _ _ _ from ag (ag ⟨_,rfl,ag fin⟩))
theorem next_end (hh:A.handled=none)(hit:s.heap.IsKeyIter it d es.size es.size ep)(ho:s.heap.get? d=some o)(ht:o.data=.dict es ep)
  (go:∀h',BD it s.heap h'->Q none { s with heap:=h' }):bt (dr prog w) A (tF<|.ref it) Q E s:=by
 obtain⟨q,hq,hc,hf⟩:=id hit;have ty:=hit.typeIs;have e1:es[es.size]? = none:=pT<|ay _;have no:h9 "dict_keyiterator" = false:=by decide
 unfold tF;refine ae<|pd<|eW (name:=c9 "__next__") ty fF<|c8 fF ty om ?_<|nB _;refine ae<|ag<|ae<|ae ?_
 first
 |refine ae (js ty<|ag<|ae<|kM hq hf ?_)
 |refine ae (lj ty<|ag<|ae<|kM hq hf ?_)
 simp only[no,f7,if_false];show bt _ _ (if(cx d==i9)=true then _ else _) _ _ s;rw[if_neg λz=>by cases(show false=true from z)];refine ae<|ag<|ae<|fq ho ht ?_;rw[if_neg<|by simp];refine ae<|ag<|ae<|kd ho ht ?_;rw[if_neg<|by simp];refine ag ?_;simp only[show ¬((es.size:Int)<0) by lia,if_false,lx,e1];refine ae ?_
 first
 |refine ae (js ty<|ag ?_)
 |refine ae (lj ty<|ag ?_)
 show bt _ _ (setField (.ref it) 0 .none >>= _) _ _ s;refine ae<|nE hq hf (by simp)<|show bt _ _ (newExc (.type "StopIteration") [] >>= _) _ _ _ from ae ?_;simp only[newExc,newTuple];refine ae<|eJ (ae (m:=nI _ _)<|wpAny_of_eq (a:=i9) (by first|rfl|(simp only[nI];rfl))<|eJ ?_<|by size_fits) (by size_fits);simp only[raiseNew];refine ae<|AW ?_;rw[show A.in1.handled=none from hh];refine ae<|ag<|wpAny_throw<|ae ?_;refine kl (T:="StopIteration") (b:=true) ⟨_,aE _ rfl,rfl⟩ zI<|ag ?_;exact go _<|((eA ..).extBut.push _).push _
end
section
variable {X:Cx}{E:XK}{rest:List Stmt}{k:Zab}
end
theorem Oz:∀{vs:List V} {us:List aS} {i:Nat} {u:aS},Vals vs us->us[i]? = some u->∃v,vs[i]? = some v/\RelV v u
 |_,_,_,_,.nil,e=>by simp at e
 |_,_,0,_,.cons r _,e=>by simp at e;subst e;exact⟨_,rfl,r⟩
 |_,_,i+1,_,.cons _ t,e=>by
  obtain⟨v,h1,h2⟩:=Oz (i:=i) t (by simpa using e);exact⟨v,by simpa using h1,h2⟩
def keyV:Key->D
 | .inl i=>.int i
 | .inr z=>.str z
theorem Z7:∀k:Key,DV G O H (kV k) (keyV k)
 | .inl i=>.int i
 | .inr z=>.str z
section
variable {X:Cx}{tg:Expr}
end
section
end
section
variable {pr:cy}{wo:fI}{A:iN}{R:Result->bq->Prop}{I:Addr}{fp wr:List Addr}{G:Array sN->Array sN->Prop}{n:Nat}{P:Nat->aS->Prop}{St:Nat->bq->Prop}
end
section
end
section
end
structure Wr (p:Prop):Prop where
 out:p
section
variable {X:Cx}{E:XK}{e a b c ke:Expr}{es:List Expr}{st:Stmt}{rest sa sb:List Stmt}{f fa fb fk:Zae}{fs:Zad}{ft:Zaf}{gg k ga gb:Zab}{pos pos' apos η np spos p:Pos}{i:Nat}{x:Str}
theorem MF (h1:Wr (FS X E st gg))(h2:Wr (FSs X E rest k)):Wr (FSs X E (st::rest)<|aK gg k):=⟨aA h1.out h2.out⟩
theorem adi (h1:Wr (FS X E st gg)):Wr (FSs X E [st] gg):=⟨aH h1.out⟩
theorem aaE (hN:X.N.Nodup)(hi:X.N[i]? = some x)(hx:Loc X.env.scope x)(he:Wr (FN X E e f))(hs:gN e (some<|.Name x pos') pos.line X.env=pure false:=by rfl)
  (hf:X.fn x=true\/X.env.scope.names.lookup x=some .local:=by first|exact .inl rfl|exact .inr rfl|assumption):Wr (FS X E (.Assign [.Name x pos'] e pos)<|cX i f):=⟨Wq hN hi hx he.out hs hf⟩
theorem aec (h:Wr (FAE X E es fs)):Wr (FN X E (.List es pos)<|fU fs):=⟨gj h.out⟩
end
section
variable {pr:cy}{wo:fI}{A:iN}{E:Zs}{s:bq}{κ:Type}[DecidableEq κ]{kn:HeapKind pr wo κ}
theorem ZP (hu:kn.room A)(hk:kn.is s.heap k a)(hm:s.heap.DictOfH kn d xs)(hz:xs.length<=aw)
  (old:∀p,ui xs k=some p->Q p.2 { s with toks:=s.toks+kn.draws k })
  (new:ui xs k=none->∀h',h'.DictOfH kn d (xs++[(k,a,v)])->kx d s.heap h'->Q v { s with heap:=h',toks:=s.toks+kn.draws k }):
  bt (dr pr wo) A (zS d (.ref a) v) Q E s:=by
 refine Cp (id hm) λo es ep ho hc hd he hi hn=>?_;unfold zS;refine ic<|ae<|kn.pyHash hu hk<|ae<|wpAny_dictFind_heap (s:={ s with toks:=s.toks+kn.draws k }) hu hk ho hd he hi hn (λno=>?_) λj p hj=>?_
 ·have h0:=atKey_none_of_get no;have nk:=not_mem_keys_of_get no;have es1:=yB he;refine ae (pV<|ae<|wpAny_updateDictKeys (hz:=by lia) (s:={ s with toks:=s.toks+kn.draws k }) ho hd (ag<|new h0 _ ⟨_,_,ep+1,eC _ ho<|so<|kR hd _,hc.mapDictKeys _,kR hd _,?_,λy hy=>?_,?_⟩<|eA ..))
  ·simp[he,entryOfKey]
  ·rcases c6.mp hy with z|z
   ·exact kn.keeps (hi y z) ho hd<|eA ..
   ·rw[cb.mp z];exact kn.keeps hk ho hd<|eA ..
  ·rw[bE,hV];refine⟨hn,by simp,λy hy z hz' e=>nk ?_⟩;have e2:z=k:=cb.mp hz';rw[← e2,← e];exact hy
 ·refine ae<|fq (s:={ s with toks:=s.toks+kn.draws k }) ho hd ?_;rw[entry_at he j,hj];exact ae<|pV<|ag<|old p<|atKey_of_get hn hj
theorem VJ (hu:kn.room A.in1)(hk:kn.is s.heap k a)(hm:s.heap.DictOfH kn d xs)(hz:xs.length<=aw)(hd:(d==eI)=false)
  (old:∀p,ui xs k=some p->Q p.2 { s with toks:=s.toks+kn.draws k })
  (new:ui xs k=none->∀h',h'.DictOfH kn d (xs++[(k,a,v)])->kx d s.heap h'->Q v { s with heap:=h',toks:=s.toks+kn.draws k }):
  bt (dr pr wo) A (call (.builtin "dict.setdefault") [.ref d,.ref a,v]) Q E s:=by
 refine c8 rX hm.typeIs PySem.F.entry_dict_setdefault ?_<|PySem.F.args_dict_setdefault_3 _ _ _;unfold AF.«dict.setdefault»;refine ae ?_;unfold Builtin.Dict.keyAndDefault;refine ae<|i8 hm.typeIs ?_;show bt _ _ (pure (d,cx a,some v)) _ _ s;refine ag ?_;show bt _ _ (if(d==eI)=true then _ else(zS d (.ref a) v >>= _)) _ _ s;rw[if_neg (by rw[hd];exact be)];exact ae<|ZP hu hk hm hz (λp e=>ag ⟨p.2,rfl,old p e⟩) λe h' x y=>ag ⟨v,rfl,new e h' x y⟩
end
def ae1 (K:bP)(td ty tx:TE):TE:=λσ H Q=>td σ H λx H1=>∃a,x=.ref a/\IsD K H1 a/\ty σ H1 λy H2=>tx σ H2 λz H3=>∃ι k b,H3 a=some (.dT (KTp K) ι)/\y=.ref b/\TrT (KTp K) H3 b k/\ι.length<aw/\
 (∀v,oU ι k=some v->Q v H3)/\(oU ι k=none->Q z (upd H3 a<|.dT (KTp K)<|ι++[(k,z)]))
section
theorem abB (hu:X.A.units+16<mm)(ho:PE X o td)(he:PE X e ty)(hf:PE X f tx)(m:M2 X o "setdefault" apos e f η):PE X (.Call (.Attribute o "setdefault" apos) [e,f] [] η) (ae1 X.K td ty tx):=by
 intro π s σ H Q I h;refine wpAny_Call_method m.base m.few m.line ma rX PySem.F.type_dict_setdefault<|thn (ho π s σ H _ I h) λu s1 hE=>?_;obtain⟨x,H1,I1,rx,a,ex,d,q1⟩:=hE;subst ex;cases(show u=cx a from rx);obtain⟨t1,t2,_⟩:=abE I1 d;refine⟨t1,t2,?_⟩;rw[m.trees];refine ml rfl (rh (oQ (thn (he π s1 σ H1 _ I1 q1) λiv s2 hE=>xq2 hE λy H2 I2 ry q2=>
  oQ (thn (hf π s2 σ H2 _ I2 q2) λfv s3 hE=>tJ ?_))))
 obtain⟨z,H3,I3,rz,ι,k,b,e3,ey,eb,l,q3,q4⟩:=hE;subst ey;cases(show iv=cx b from ry);obtain⟨sz,hd,xs,rel,dd⟩:=Ww (sV I3) I3.hok e3;have hz:xs.length<=aw:=by rw[← ia rel];exact sz
 have rv:=rel.val k;refine VJ (qJ hu) (vR I3 eb) dd hz hd (λp hp=>?_) λhn h' dd' hs=>?_
 ·rw[hp] at rv;cases ev:oU ι k with
  |none=>rw[ev] at rv;cases rv
  |some v=>
   rw[ev] at rv;exact⟨v,H3,I3.tok _,rv,q3 v ev⟩
 ·rw[hn] at rv;cases ev:oU ι k with
  |some v=>rw[ev] at rv;cases rv
  |none=>
   have rp:=rel.put k eb rz;rw[Xb _ ev,storedH_new hn] at rp;refine Cp dd' λq es ep hq h2 h3 h4 _ h5=>?_;refine⟨z,upd H3 a<|.dT (KTp X.K)<|ι++[(k,z)],uO I3 (by rw[e3];exact hJ) hs ⟨q,hq⟩ ⟨by rw[bg,eD];lia,hd,_,rp.keeps λc ys ec=>?_,q,es,ep,hq,h2,h3,h4,h5⟩,rz,q4 ev⟩;rw[bu<|Dp ec e3 λz=>nomatch z];exact ec
end
def aaf (i:Nat)(fk fv:Zae):Zab:=λm=>(ofO<|zc m i).bind λo=>(fk m).bind λk=>(fv m).bind λd=>(ofO<|uz k).bind λk=>
 if o.2.1.length<aw then .ok (.nx,if(cA o.2.1 o.2.2 k).isSome then m else ni m i o.1 (o.2.1++[k]) (o.2.2++[d])) else .stuck
section
theorem abb (i:Nat)(hr:gD jj X.A)(hk:FE X E ke fk)(he:FE X E e f)(hm:M2 X (.Name x np) "setdefault" apos ke e η)(hN:X.N[i]? = some x:=by rfl)(hv:Vis X.env.scope x:=by first|exact iP rfl|exact gX (iP rfl)|exact gX (gX rfl))(hd:(x==("__debug__":Str))=false:=by decide)(hcd:(x==("__classdict__":Str))=false:=by decide)
  (υ:gN (.Call (.Attribute (.Name x np) "setdefault" apos) [ke,e] [] η) none pos.line X.env=pure false:=by rfl):FS X E (.Expr (.Call (.Attribute (.Name x np) "setdefault" apos) [ke,e] [] η) pos) (aaf i fk f):=
 cL (uN (abB (j8 hr) (jk hN hv hd hcd) hk he hm) υ) λW σ H hE=>xq5 hE λO0 M0 H0 ow m R q=>by
  obtain⟨o,ho,q⟩:=Ss.ofO q;obtain⟨k,ks,ds⟩:=o;refine K4 (G4 R.toRel ho) λa ι e1 e2 e3 e4 e5 e6=>?_;refine⟨_,e2,a,rfl,.inr ⟨ι,.inl e3⟩,O0,M0,H0,ow,m,R.toRel,(Ss.pu R.toRel q).imp (aM.refl _) λdk q vk H1 g1 hvk=>?_⟩;have R1:=R.mono g1;refine⟨O0,M0,H0,ow,m,R1.toRel,(Ss.pu R1.toRel<|q.go<|Go.refl g1).imp (aM.refl _) λd q v H2 g2 hv=>?_⟩;obtain⟨ky,h1,q⟩:=Ss.ofO q;obtain⟨b,rfl,hb⟩:=uI (.inl<|hvk.mono g2) h1;have R2:=R1.mono g2;have e3':=g2 _ _<|g1 _ _ e3;have e5':=(e5.mono g1).mono g2;have uf:=NT (k:=ky) e5';rw[e4] at uf;by_cases hz:ks.length<aw
  ·rw[if_pos hz] at q;refine⟨ι,ky,b,e3',rfl,hb,by rw[← bp (f:=(·.1)),e4];exact hz,λv' ev=>?_,λev=>?_⟩
   ·rw[ev] at uf;rw[← uf] at q;exact q _ _ _ R2<|Go.refl g2
   ·rw[ev] at uf;rw[← uf] at q;obtain⟨R3,g3⟩:=R2.ni (ls:=ks++[ky]) (es:=ds++[d]) (ι:=ι++[(ky,v)]) e1 e6 (by simp[e4]) (by rw[bE];exact jX e5'<|.cons hv .nil);exact q _ _ _ R3<|(Go.refl g2).trans g3
  ·rw[if_neg hz] at q;exact q.elim
end
def zY (h:Heap)(d:Addr)(es:Array si)(ep:Nat):Prop:=∃o,h.get? d=some o/\o.ExactDict/\o.data=.dict es ep
section
variable {prog:cy}{w:fI}{A:iN}{E:Zs}{s:bq}{d it v:Addr}{es:Array si}{ep i:Nat}
theorem zY.ty (x:zY s.heap d es ep):s.TypeIs (.ref d) "dict":=let⟨o,h,c,_⟩:=x;⟨o,h,c.1⟩
theorem zY.up (x:zY h d es ep)(k:∀o,h.get? d=some o->h'.get? d=some o):zY h' d es ep:=let⟨o,e,r⟩:=x;⟨o,k o e,r⟩
theorem JM (nd:(d==eI)=false)(x:zY s.heap d es ep)
  (k:Q (.ref s.heap.objs.size) { s with heap:=s.heap.push { cls:=.type "dict_values",data:=.fields #[.ref d] } }):bt (dr prog w) A (call (.builtin "dict.values") [.ref d]) Q E s:=by
 refine c8 oC x.ty PySem.F.entry_dict_values ?_<|PySem.F.args_dict_values_1 _;refine ae ?_;unfold AG;refine ae<|i8 x.ty<|show bt _ _ (pure d) _ _ s from ag ?_;show bt _ _ (kC d >>= _) _ _ s;unfold kC;rw[if_neg (λz=>by rw[nd] at z;cases z)];exact ae<|ag<|ae<|eJ<|ag ⟨_,rfl,k⟩
theorem aaA (hv:s.heap.IsValuesView v d)(x:zY s.heap d es ep)
  (k:Q (.ref s.heap.objs.size) { s with heap:=s.heap.push { cls:=.type "dict_valueiterator",data:=.fields #[.ref d,.int 0 0,.int es.size 0,.int ep 0] } }):bt (dr prog w) A (BH<|.ref v) Q E s:=by
 obtain⟨q,hq,hc,hf⟩:=id hv;obtain⟨o,ho,hx,ht⟩:=id x;have no:h9 "dict_valueiterator" = false:=by decide
 refine wpAny_pyIter_slot hv.typeIs qS<|c8 qS hv.typeIs PySem.F.entry_dict_values_iter ?_<|PySem.F.args_dict_values_iter_1 _;unfold AF.«dict_values.__iter__»;refine ae<|ag<|ae ?_;unfold Builtin.Dict_items.dictOf;refine ae<|hC hq hf (x:=.ref d) rfl<|ag<|ae ?_;unfold Builtin.Dict_items.newIterator;refine ae<|fq ho ht<|ae<|kd ho ht ?_;simp only[no,f7,if_false];exact eJ<|ag ⟨_,rfl, "dict_valueiterator",_,⟨_,aE _ rfl,rfl⟩,fw.lookup,by simpa[rg] using k⟩
theorem aaw (hit:s.heap.IsValIter it d i es.size ep)(x:zY s.heap d es ep)
  (lt:i<es.size) (go:∀h',h'.IsValIter it d (i+1) es.size ep->kx it s.heap h'->Q (some es[i].val) { s with heap:=h' }):bt (dr prog w) A (tF<|.ref it) Q E s:=by
 obtain⟨q,hq,hc,hf⟩:=id hit;obtain⟨o,ho,hx,ht⟩:=id x;have ty:=hit.typeIs;have e1:es[i]? = some es[i]:=iX lt;have no:h9 "dict_valueiterator" = false:=by decide
 have turned:(s.heap.update it<|rV (·.setIfInBounds 1 (rg<|(i:Int)+1))).IsValIter it d (i+1) es.size ep:=
  ⟨_,eC _ hq<|qk<|kD hf _,(ve ..).trans hc,by rw[kD hf];simp[rg]⟩
 have fin:=go _ turned<|eA ..;unfold tF;refine ae<|pd<|eW (name:=c9 "__next__") ty fw<|c8 fw ty nr ?_<|mN _;refine ae<|ag<|ae<|ae ?_
 first
 |refine ae (jv ty<|ag<|ae<|kM hq hf ?_)
 |refine ae (ly ty<|ag<|ae<|kM hq hf ?_)
 simp only[no,f7,if_false];show bt _ _ (if(cx d==i9)=true then _ else _) _ _ s;rw[if_neg λz=>by cases(show false=true from z)];refine ae<|ag<|ae<|fq ho ht ?_;rw[if_neg<|by simp];refine ae<|ag<|ae<|kd ho ht ?_;rw[if_neg<|by simp];refine ag ?_;simp only[show ¬((i:Int)<0) by lia,if_false,lx,e1];refine ae ?_
 first
 |refine ae (jv ty<|ag<|ae<|mw ty ?_)
 |refine ae (ly ty<|ag<|ae<|mw ty ?_)
 show bt _ _ (setField (.ref it) 1 (rg<|(i:Int)+1) >>= _) _ _ s;refine ae<|nE hq hf (by simp)<|ae<|ic ?_;refine ae<|mw (s:={ s with heap:=s.heap.update it (rV (·.setIfInBounds 1 (rg<|(i:Int)+1))) }) turned.typeIs ?_;refine ae<|mw (s:={ s with heap:=s.heap.update it (rV (·.setIfInBounds 1 (rg<|(i:Int)+1))) }) turned.typeIs ?_;exact(show bt _ _ (pure es[i].val) _ _ _ from ag (ag ⟨_,rfl,ag fin⟩))
theorem Ey (hh:A.handled=none)(hit:s.heap.IsValIter it d es.size es.size ep)(x:zY s.heap d es ep)
  (go:∀h',BD it s.heap h'->Q none { s with heap:=h' }):bt (dr prog w) A (tF<|.ref it) Q E s:=by
 obtain⟨q,hq,hc,hf⟩:=id hit;obtain⟨o,ho,hx,ht⟩:=id x;have ty:=hit.typeIs;have e1:es[es.size]? = none:=pT<|ay _;have no:h9 "dict_valueiterator" = false:=by decide
 unfold tF;refine ae<|pd<|eW (name:=c9 "__next__") ty fw<|c8 fw ty nr ?_<|mN _;refine ae<|ag<|ae<|ae ?_
 first
 |refine ae (jv ty<|ag<|ae<|kM hq hf ?_)
 |refine ae (ly ty<|ag<|ae<|kM hq hf ?_)
 simp only[no,f7,if_false];show bt _ _ (if(cx d==i9)=true then _ else _) _ _ s;rw[if_neg λz=>by cases(show false=true from z)];refine ae<|ag<|ae<|fq ho ht ?_;rw[if_neg<|by simp];refine ae<|ag<|ae<|kd ho ht ?_;rw[if_neg<|by simp];refine ag ?_;simp only[show ¬((es.size:Int)<0) by lia,if_false,lx,e1];refine ae ?_
 first
 |refine ae (jv ty<|ag ?_)
 |refine ae (ly ty<|ag ?_)
 show bt _ _ (setField (.ref it) 0 .none >>= _) _ _ s;refine ae<|nE hq hf (by simp)<|show bt _ _ (newExc (.type "StopIteration") [] >>= _) _ _ _ from ae ?_;simp only[newExc,newTuple];refine ae<|eJ (ae (m:=nI _ _)<|wpAny_of_eq (a:=i9) (by first|rfl|(simp only[nI];rfl))<|eJ ?_<|by size_fits) (by size_fits);simp only[raiseNew];refine ae<|AW ?_;rw[show A.in1.handled=none from hh];refine ae<|ag<|wpAny_throw<|ae ?_;refine kl (T:="StopIteration") (b:=true) ⟨_,aE _ rfl,rfl⟩ zI<|ag ?_;exact go _<|((eA ..).extBut.push _).push _
theorem adF (hh:A.handled=none)(ne:d≠it):Walks prog w A it [it,d] [it] es.size (λi v=>∃e,es[i]? = some e/\v=e.val) (λi h=>h.IsValIter it d i es.size ep/\zY h d es ep) where
 sub:=λb hb=>by simp at hb;simp[hb]
 frame:=λ_ _ _ st hk=>⟨let⟨o,e,r⟩:=st.1;⟨o,hk it (by simp) o e,r⟩,st.2.up λo e=>hk d (by simp) o e⟩
 item:=λi s Q E hi st go=>aaw st.1 st.2 hi λh' a b=>go _ h' s.toks ⟨_,iX hi,rfl⟩ ⟨a,st.2.up λo e=>(b.2 d ne).trans e⟩ λc o hc e=>(b.2 c λz=>hc<|by simp[z]).trans e
 done:=λs Q E st go=>Ey hh st.1 st.2 λh' a=>go h' s.toks λc o hc e=>a c o (λz=>hc<|by simp[z]) e
 self:=λ_ _ _ _ st k=>wpAny_pyIter_valiter st.1 k
end
section
variable {X:Cx}
def qZ (p a:Addr)(h:Heap):Prop:=h.IsValuesView p a
theorem Vn (I:Inv X π σ H s)(e:H a=some (.dT T ι)):
  ι.length<=aw/\(a==eI)=false/\∃es ep,zY s.heap a es ep/\es.size=ι.length/\Vals (ι.map (·.2)) (es.toList.map (·.val)):=by
 obtain⟨hz,hd,xs,rel,o,es,ep,ho,hx,ht,he,nd⟩:=I.hok a _ e;refine⟨hz,hd,es,ep,⟨o,ho,hx,ht⟩,?_,?_⟩
 ·rw[yB he,ia rel]
 ·rw[he,fm];clear he hz hd nd e;induction rel with
  |nil=>exact .nil
  |cons h _ ih=>exact .cons h.2.2 ih
def aev (X:Cx):V->List V->Hp->VK->Prop:=λx vs H Q=>∃a ι,x=.ref a/\vs=[]/\H a=some (.dT (KTp X.K) ι)/\∀p,H p=none->Q (.ref p) (upd H p<|.ext<|qZ p a)
theorem YL:MtR X "dict.values" (aev X):=by
 intro π s σ H x vs v us Q I rx rv h;obtain⟨a,ι,rfl,rfl,e,q⟩:=h;cases rx;have hus:=rv.zero;subst hus;obtain⟨hz,hd,es,ep,x,_⟩:=Vn I e;refine JM hd x ?_;refine⟨.ref _,_,I.laid (t':=s.toks) (λb o e=>ai _ e) (ay _)<|show cV X.prog X.w _ _ _ (.ext<|qZ s.heap.objs.size a) from⟨⟨_,aE _ rfl,rfl,rfl⟩,⟨_,aE _ rfl⟩,λh1 h2 ⟨o,e,r⟩ k=>⟨o,k o e,r⟩⟩,rfl,q _<|I.hok.fresh<|ay _⟩
theorem afw {es:Array si}:W.KdlSrc X.prog X.w "dict_values" r d es.size (λi v=>∃e,es[i]? = some e/\v=e.val) (λh=>h.IsValuesView r d/\zY h d es ep) where
 type:=λ_ m=>m.1.typeIs
 there:=λ_ m=>⟨let⟨_,e,_⟩:=m.1;aI e,let⟨_,e,_⟩:=m.2;aI e⟩
 keep:=λ_ _ m k=>⟨let⟨o,e,x⟩:=m.1;⟨o,k r (.inl rfl) o e,x⟩,m.2.up λo e=>k d (.inr rfl) o e⟩
 notList:=by decide
 notTuple:=by decide
 hint:=λ_ _ _ _ m q=>W.kdl_hint_values m.1.typeIs q
 iter:=λ_ _ hh m=>⟨_,_,(λ_ _ q=>aaA m.1 m.2 q),adF hh (let⟨_,e,_⟩:=m.2;cK (aI e)),⟨⟨_,aE _ rfl,rfl,rfl⟩,m.2.up λo e=>ai _ e⟩⟩
def rLV (X:Cx):List V->Hp->VK->Prop:=λxs H Q=>∃p a ι,xs=[.ref p]/\H p=some (.ext<|qZ p a)/\H a=some (.dT (KTp X.K) ι)/\∀l,H l=none->Q (.ref l) (upd H l<|.lst<|ι.map (·.2))
theorem Mt (hc:X.calm=true):iQ X (.type "list") (rLV X):=by
 intro π s σ H xs us Q I r h;obtain⟨p,a,ι,rfl,hp,e,q⟩:=h;obtain⟨u,rfl,rx⟩:=vals1 r;cases rx;obtain⟨hz,hd,es,ep,x,sz,rel⟩:=Vn I e;obtain⟨vw,_⟩:=I.hok p _ hp;refine W.kdl_call (afw (ep:=ep)) (I.ok.hd hc) ⟨vw,x⟩ (by lia) λh' tk acc c kp oS it=>?_;have ea:acc.toList=es.toList.map (·.val):=by
  obtain⟨z,h⟩:=it;refine xo (by simp[z]) λi h1 h2=>?_;obtain⟨y,ey,ev⟩:=h i acc[i] (by simp at h1;simp[h1]);obtain⟨lt,ey⟩:=mT.mp ey;simp only[zk,xp];rw[ev,ey]
 refine⟨.ref _,_,I.laid (t':=tk) kp (ay _)<|show cV X.prog X.w _ h' _ (.lst<|ι.map (·.2)) from⟨by rw[bp];exact hz,es.toList.map (·.val),c,rel,?_⟩,rfl,q _<|I.hok.fresh<|ay _⟩;rw[← ea];simpa using oS
end
noncomputable def Nf (fo:Zae):Zae:=λm=>(fo m).bind λd=>match d with
 | .dcu _ ds=>.ok<|.lst ds
 |_=>.stuck
section
theorem Wc (hc:X.calm=true)(hg:Gl X "list")(hm:X.mg "list" = none)(ho:FB X E o fo)(ψ:gE o "values" X.env (eval o X.env)=eval o X.env:=by rfl)(θ:(apos.endLine==η.line)=true:=by rfl)
  (hs:ax [.Call (.Attribute o "values" apos) [] [] η] X.env=(false,eval (.Call (.Attribute o "values" apos) [] [] η) X.env)::ax [] X.env:=by rfl):
  FN X E (.Call (.Name "list" p) [.Call (.Attribute o "values" apos) [] [] η] [] pos) (Nf fo):=
 bI (uK (Mt hc) hg hm qX (jf (BZ ma oC vi YL ho ψ θ) rA hs) (by decide) (by decide) hs rfl) λσ H Q h=>by
  refine tW h λO0 M0 H0 ow m R q=>?_;refine⟨O0,M0,H0,ow,m,R,q.bind.imp (aM.refl _) λd q v H1 g1 hv=>?_⟩;cases d with
  |dcu ks ds=>
   obtain⟨a,ι,rfl,e,e1,hd⟩:∃a ι,v=.ref a/\H1 a=some (.dT (KTp X.K) ι)/\ι.map (·.1)=ks/\DVs (gx X) (Ow O0 ow) H1 (ι.map (·.2)) ds:=by
    rcases hv with hv|⟨a,rfl,_,hv⟩
    ·cases hv with
     |dcu n e a b hs=>subst b;exact⟨_,_,rfl,e,a,hs⟩
    ·refine uh hv λι vs e a1 b1 hs=>?_;subst b1;exact⟨a,ι,rfl,e,a1,hs⟩
   refine⟨.inr<|.inr<|.inl ⟨rfl,.inr ⟨_,ι,.inl e⟩⟩,a,ι,rfl,rfl,e,λb hb=>?_⟩;have ne:a≠b:=λz=>by rw[z,hb] at e;cases e
   refine⟨b,a,ι,rfl,aV,by rw[bu ne];exact e,λl hl=>?_⟩;have nb:l≠b:=λz=>by rw[z,aV] at hl;cases hl
   have hl1:H1 l=none:=by rw[bu nb] at hl;exact hl
   have gg:aM H1 (upd (upd H1 b<|.ext<|qZ b a) l<|.lst<|ι.map (·.2)):=(bL hb _).trans<|bL hl _;exact q l _ (g1.trans gg) (g1.free hl1) ⟨_,aV,(hd.bV λc z=>z.elim .inl λe=>.inr (by rw[e];exact hl1)).mono gg⟩
  |_=>exact q.elim
end
def abz (K:bP)(tk tv:TE):TE:=λσ H Q=>∀p,H p=none->tk σ (upd H p<|.dT (KTp K) []) λx H1=>tv σ H1 λy H2=>
 H2 p=some (.dT (KTp K) [])/\∃ks b,x=.ref b/\TrT (KTp K) H2 b ks/\Q (.ref p) (upd H2 p<|.dT (KTp K) [(ks,y)])
section
theorem Wv (hu:X.A.units+16<mm)(hk:PE X k tk)(hv:PE X v tv):PE X (.Dict [some k] [v] pos) (abz X.K tk tv):=by
 intro π s σ H Q I q;have hn:=I.hok.fresh<|ay s.heap.objs.size;have I1:=I.laid (a:=s.heap.objs.size) (o:=.dT (KTp X.K) []) (h':=s.heap.push { cls:=.type "dict",data:=.dict #[] }) (t':=s.toks) (λ_ _ q=>ai _ q) (ay _)<|Ky s.heap I.big;have pl:(pairTrees [some k] [v] X.env pos).length=1:=pairTrees_length [some k] [v] X.env pos rfl rfl;rw[arm_eval_Dict,zip_pairTrees [some k] [v] X.env pos rfl rfl,dictDisplay_pairs _ (λz=>by rw[z] at pl;cases pl) (by rw[pl];decide)];refine ae<|rS<|ae ?_;unfold subDict;refine ae<|wpAny_alloc<|ae<|ic ?_;rw[if_pos (by rw[pl];decide)];refine ae<|pairTrees_cons_walk<|thn (hk π _ σ _ _ I1<|q _ hn) λu s1 ⟨x,H1,J1,rx,q1⟩=>thn (hv π s1 σ H1 _ J1 q1) λr s2 hE=>pairTrees_nil_walk<|ic ?_;obtain⟨y,H2,I2,ry,e,ks,b,ex,eb,q2⟩:=hE;subst ex;cases(show u=cx b from rx);obtain⟨z,hd,xs,rel,dd⟩:=Ww (sV I2) I2.hok e;cases rel;rw[o3];refine ae<|ae ?_;show bt _ _ (dictSet s.heap.objs.size (.ref b) r >>= _) _ _ s2;refine(ae<|wpAny_dictSet_heap (hsz:=eT _) (show X.A.units+8<mm by lia) (vR I2 eb) dd λh' dd' hs=>ag ?_);dsimp only;rw[Ap];refine ag<|ag<|ag<|ag ?_;refine Cp dd' λqo es ep hq h2 h3 h4 _ h5=>?_;refine⟨.ref s.heap.objs.size,upd H2 s.heap.objs.size<|.dT (KTp X.K) [(ks,y)],uO I2 (by rw[e];exact hJ) hs ⟨qo,hq⟩ ⟨by show 1<=_;decide,hd,_,?_,qo,es,ep,hq,h2,h3,h4,h5⟩,rfl,q2⟩;refine KT.keeps (H:=H2) (Paired.cons ⟨rfl,eb,ry⟩ .nil) λc ys ec=>?_;rw[bu<|Dp ec e λz=>nomatch z];exact ec
end
def M4 (fk fv:Zae):Zae:=λm=>(fk m).bind λk=>(fv m).bind λd=>(ofO<|uz k).bind λks=>.ok<|.dcu [ks] [d]
section
theorem U6 (hr:gD j X.A)(hk:FE X E k fk)(hv:FE X E v fv):FN X E (.Dict [some k] [v] pos) (M4 fk fv):=
 bI (Wv (j8 hr) hk hv) λσ H Q hE p hp=>by
  refine tW hE λO0 M0 H0 ow m R q=>?_;have g0:aM H (upd H p<|.dT (KTp X.K) []):=bL hp _;have R1:=R.more g0 hp (by rw[aV];exact .inr<|.inr<|.inl ⟨(KTp X.K,[]),rfl⟩);refine⟨Op O0 p,M0,H0,ow,m,R1,q.bind.imp g0 λkd q x H1 g1 hx=>⟨Op O0 p,M0,H0,ow,m,R1.mono g1,q.bind.imp (g0.trans g1) λd q y H2 g2 hy=>?_⟩⟩;obtain⟨ks,h1,q⟩:=q.bind.ofO;obtain⟨b,rfl,hb⟩:=uI (.inl<|hx.mono g2) h1;have e2:H2 p=some (.dT (KTp X.K) []):=g2 _ _<|g1 _ _ aV;have R2:=(R1.mono g1).mono g2;have kp:Kp (Ow (Op O0 p) ow) H2 (upd H2 p<|.dT (KTp X.K) [(ks,y)]):=λc o e n=>by rw[bu λz=>n<|.inl<|.inr z];exact e
  refine⟨e2,ks,b,rfl,hb,q p _ (λc o e=>?_) hp ⟨_,_,aV,rfl,rfl,.cons ((hy.kp R2.mutk kp).bV λc z=>.inl ?_) .nil⟩⟩
  ·rw[bu (λz=>by rw[z,hp] at e;cases e)];exact g2 _ _<|g1 _ _<|g0 _ _ e
  ·rcases z with(z|z)|z
   ·exact .inl<|.inl z
   ·exact .inr z
   ·exact .inl<|.inr z
end
noncomputable def Gz:List ((Zae)×(Zae))->Me->Res (List<|D×D)
 |[],_=>.ok []
 |f::r,m=>(f.1 m).bind λk=>(f.2 m).bind λd=>(Gz r m).bind λl=>.ok ((k,d)::l)
inductive DPs (G:Gx)(O:Zaa)(H:Hp):List (V×V)->List (D×D)->Prop where
 |nil:DPs G O H [] []
 |cons {x y:V} {k d:D} {ps:List (V×V)} {l:List (D×D)}:DV G O H x k->DV G O H y d->DPs G O H ps l->DPs G O H ((x,y)::ps) ((k,d)::l)
theorem DPs.mono (g:aM H H'):∀{ps:List (V×V)} {l:List (D×D)},DPs G O H ps l->DPs G O H' ps l
 |_,_,.nil=>.nil
 |_,_,.cons a b r=>.cons (a.mono g) (b.mono g)<|r.mono g
def K9:List Key->List D->List (D×D)->Option (List Key×List D)
 |ks,ds,[]=>some (ks,ds)
 |ks,ds,p::r=>(uW p.1).bind λk=>K9 (putD ks ds k p.2).1 (putD ks ds k p.2).2 r
abbrev Vk (X:Cx)(E:XK)(fs:List ((Zae)×(Zae))):List (TE×TE):=fs.map λf=>(tE (gx X) E f.1,tE (gx X) E f.2)
section
theorem WY:∀{l:List (D×D)} {ps:List (V×V)} {ks rk:List Key} {ds rd:List D} {acc:List (Key×V)},DPs G O H ps l->K9 ks ds l=some (rk,rd)->acc.map (·.1)=ks->DVs G O H (acc.map (·.2)) ds->
  ∃ι:List (Key×V),ps=ι.map (λkv=>(kV kv.1,kv.2))/\(m8 acc ι).map (·.1)=rk/\DVs G O H ((m8 acc ι).map (·.2)) rd
 |_,_,ks,rk,ds,rd,acc,.nil,e,e1,e2=>by cases e;exact⟨[],rfl,e1,e2⟩
 |_,_,ks,rk,ds,rd,acc,.cons (x:=x) (y:=y) a b r,e,e1,e2=>by
  obtain⟨k,hk,e⟩:=eB.mp e;have ex:=Ja (.inl a) hk;obtain⟨p1,p2⟩:=Ob (k:=k) b e2;rw[e1] at p1 p2;obtain⟨ι,q1,q2,q3⟩:=WY (acc:=putK acc k y) r e p1 p2;exact⟨(k,y)::ι,by rw[ar,← q1,ex],q2,q3⟩
theorem DPs.bV (s:∀b,O' b->O b\/H b=none):∀{ps:List (V×V)} {l:List (D×D)},DPs G O H ps l->DPs G O' H ps l
 |_,_,.nil=>.nil
 |_,_,.cons a b r=>.cons (a.bV s) (b.bV s)<|r.bV s
theorem DPs.len:∀{ps:List (V×V)} {l:List (D×D)},DPs G O H ps l->ps.length=l.length
 |_,_,.nil=>rfl
 |_,_,.cons _ _ r=>by rw[cw,cw,r.len]
end
section
end
section
variable {pr:cy}{wo:fI}{κ:Type}[DecidableEq κ]{kn:KeyKind pr wo κ}{A:iN}{R:Result->bq->Prop}{I:Addr}{fp wr:List Addr}{G:Array sN->Array sN->Prop}{n:Nat}{P:Nat->aS->Prop}{St:Nat->bq->Prop}
end
section
variable {pr:cy}{wo:fI}{κ:Type}[DecidableEq κ]{kn:KeyKind pr wo κ}{A:iN}{E:Zs}{s:bq}
end
section
end
def Ea (ls:List Key)(us:List D):List Key->List D->Option Bool
 |[],[]=>some true
 |k::ks,d::ds=>match Ae ls us k with
  |none=>some false
  |some y=>(lg d y).bind λe=>(Ea ls us ks ds).map (e && ·)
 |_,_=>none
def Yj:D->D->Option Bool
 | .dct ks vs,.dct ls us=>if ks.length=ls.length then Ea ls us ks vs else some false
 |_,_=>none
def Wd (d e:D):Option Bool:=(Yj d e).map (!·)
section
theorem ZG (I:Inv X π σ H s){O:Zaa}{A:iN}(hu:A.in1.units+64<mm){kvb:List (Key×V)}{kwb:List (Key×aS)}{us:List D}(rb:KV kvb kwb)(hb:DVs (gx X) O H (kvb.map (·.2)) us):
  ∀{kva:List (Key×V)} {kwa:List (Key×aS)} {vs:List D} {r:Bool},KV kva kwa->DVs (gx X) O H (kva.map (·.2)) vs->Ea (kvb.map (·.1)) us (kva.map (·.1)) vs=some r->W.KeqHits A.in1 s kwb kwa r:=by
 intro kva kwa vs r ra;unfold KV at ra;induction ra generalizing vs r with
 |nil=>intro h e;cases h;cases e;exact .nil
 | @cons p q ps qs h t ih=>
  intro hd e;cases hd with
  |cons a rest=>
   obtain⟨k,x⟩:=p;obtain⟨k',w⟩:=q;obtain⟨e1,e2⟩:=h;simp only at e1 e2;subst e1;have vb:=Bb (k:=k) hb;have rv:=rb.val k;rw[ar,Ea] at e;rcases vb with⟨v,d,b1,b2,b3⟩|⟨b1,b2⟩
   ·rw[b2] at e;obtain⟨c,h1,h2⟩:=eB.mp e;obtain⟨r',h3,rfl⟩:=iO.mp h2;obtain⟨pa,pb,t1,t2,z1,z2,rfl⟩:=uU h1;rw[b1] at rv;cases ev:yi kwb k with
    |none=>rw[ev] at rv;cases rv
    |some y=>
     rw[ev] at rv;obtain⟨as,r1⟩:=(pI (.inl a) t1).reads I e2;obtain⟨bs,r2⟩:=(pI (.inl b3) t2).reads I rv;exact .hit ev (W.keq_at r1 r2 z1 z2 hu)<|ih rest h3
   ·rw[b2] at e;cases e;rw[b1] at rv;cases ev:yi kwb k with
    |none=>exact .miss ev
    |some y=>rw[ev] at rv;cases rv
theorem X5 (hx:DW (gx X) O H x d)(hy:DW (gx X) O H y e)(hr:Yj d e=some r):
  ∃a b kva kvb vs us,x=.ref a/\y=.ref b/\Rd H a (.dK kva)/\Rd H b (.dK kvb)/\DVs (gx X) O H (kva.map (·.2)) vs/\DVs (gx X) O H (kvb.map (·.2)) us/\
   ((kva.length=kvb.length/\Ea (kvb.map (·.1)) us (kva.map (·.1)) vs=some r)\/(¬kva.length=kvb.length/\r=false)):=by
 match d,e,hr with
 | .dct ks vs,.dct ls us,hr=>
  obtain⟨a,kva,wa,rfl,ha,rfl,rfl,hda⟩:=yw hx;obtain⟨b,kvb,wb,rfl,hb,rfl,rfl,hdb⟩:=yw hy;refine⟨a,b,kva,kvb,vs,us,rfl,rfl,ha,hb,hda,hdb,?_⟩;unfold Yj at hr;simp only[bp] at hr;by_cases z:kva.length=kvb.length
  ·rw[if_pos z] at hr;exact .inl ⟨z,hr⟩
  ·rw[if_neg z] at hr;cases hr;exact .inr ⟨z,rfl⟩
theorem Zd (hr0:gD j X.A):OpR X (fx .NotEq) (rGB (gx X) Wd):=by
 intro π s σ H x y v u Q I rx ry h;refine gG h λO d e r' m hx hy hr' q=>?_;obtain⟨r,hr,rfl⟩:=iO.mp hr';obtain⟨a,b,kva,kvb,vs,us,rfl,rfl,ha,hb,hda,hdb,hz⟩:=X5 hx hy hr;cases(show v=cx a from rx);cases(show u=cx b from ry);obtain⟨za,na,kwa,ra,da⟩:=xm I.hok ha;obtain⟨zb,nb,kwb,rb,db⟩:=xm I.hok hb;have hu:X.A.in1.units+64<mm:=by have:=hr0.un;show X.A.units+1+64<mm;lia
 have la:=ra.length;have lb:=rb.length;refine W.keq_ne (r:=r) na nb da db hr0.Lr (λz=>?_) ?_
 ·rcases hz with⟨_,hh⟩|⟨n,_⟩
  ·exact ZG I hu rb hdb ra hda hh
  ·exact absurd (by lia) n
 ·refine cF I q ?_;rcases hz with⟨z,_⟩|⟨n,rfl⟩
  ·rw[show(kwa.length==kwb.length)=true by simpa using(by lia:kwa.length=kwb.length)];rfl
  ·simp
end
section
end
section
theorem aek (hh:A.handled=none)(ne:d≠it)(ht:o.data=.dict es ep):Walks prog w A it [it,d] [it] es.size (λi v=>∃e,es[i]? = some e/\v=e.key) (λi h=>h.IsKeyIter it d i es.size ep/\h.get? d=some o) where
 sub:=λb hb=>by simp at hb;simp[hb]
 frame:=λ_ _ _ st hk=>⟨let⟨o,e,r⟩:=st.1;⟨o,hk it (by simp) o e,r⟩,hk d (by simp) _ st.2⟩
 item:=λi s Q E hi st go=>U5 st.1 st.2 ht hi λh' a b=>by
  rw[iX hi];exact go _ h' s.toks ⟨_,iX hi,rfl⟩ ⟨a,(b.2 d ne).trans st.2⟩ λc o hc e=>(b.2 c λz=>hc<|by simp[z]).trans e
 done:=λs Q E st go=>next_end hh st.1 st.2 ht λh' a=>go h' s.toks λc o hc e=>a c o (λz=>hc<|by simp[z]) e
 self:=λ_ _ _ _ st k=>wpAny_pyIter_keyiter st.1 k
end
section
variable {X:Cx}
theorem aeN {o:Obj}{d:Addr}{es:Array si}{ep:Nat}(nd:(d==eI)=false)(hx:o.ExactDict)(ht:o.data=.dict es ep):W.KdlSrc X.prog X.w "dict" d d es.size (λi v=>∃e,es[i]? = some e/\v=e.key) (λh=>h.get? d=some o) where
 type:=λ_ m=>⟨o,m,hx.1⟩
 there:=λ_ m=>⟨aI m,aI m⟩
 keep:=λ_ _ m k=>k d (.inl rfl) o m
 notList:=by decide
 notTuple:=by decide
 hint:=λ_ _ _ _ m q=>W.kdl_hint_dict ⟨o,m,hx.1⟩ q
 iter:=λ_ _ hh m=>⟨_,_,(λ_ _ q=>Tw nd m hx ht q),aek hh (cK<|aI m) ht,⟨⟨_,aE _ rfl,rfl,rfl⟩,ai _ m⟩⟩
end
section
end
section
end
noncomputable def Ij (m:Me)(i:Nat):Option (Bool×D):=match m[i]? with
 |some (.ow d)=>some (true,d)
 |some (.io d)=>some (false,d)
 |_=>none
noncomputable def z6 (m:Me)(i:Nat)(k:Bool)(d:D):Me:=m.set i<|if k then .ow d else .io d
section
theorem YH (R:Rel G O0 M0 H0 ow σ H m){i:Nat}{k:Bool}{d:D}(e:Ij m i=some (k,d)):∃a,ow i=some a/\σ[i]? = some (some<|.ref a)/\OV G (Ow O0 ow) H a d/\((m[i]? = some (.ow d)/\k=true)\/(m[i]? = some (.io d)/\k=false)):=by
 unfold Ij at e;split at e
 ·rename_i q;cases e;refine gH (R.slot i _ q) λa e1 e2 e3 e4=>?_;exact⟨a,e1,e3,e4,.inl ⟨q,rfl⟩⟩
 ·rename_i q;cases e;refine gH (R.slot i _ q) λa e1 e2 e3 e4=>?_;exact⟨a,e1,e3,e4,.inr ⟨q,rfl⟩⟩
 ·cases e
end
def lr {α:Type}(p:Nat)(x:α)(l:List α):List α:=l.take p++x::l.drop p
theorem Dl:(lr p x l).length=l.length+1:=by
 simp[lr];lia
theorem Oo (h:p<=l.length):(lr p x l)[p]? = some x:=by simp_all[dc,Nat.min_eq_left,lr]
theorem Qw (h:i<p)(hp:p<=l.length):(lr p x l)[i]? = l[i]?:=by
 unfold lr;rw[cS (by simp;lia),ua h]
theorem Nq (h:p<=i)(hp:p<=l.length):(lr p x l)[i+1]? = l[i]?:=by grind[dc,Nat.min_eq_left,List.getElem?_cons_succ,sT,lr]
noncomputable def sX (m:Me)(p:Nat):Option D:=match m[p]? with
 |some (.io d)=>some d
 |_=>none
theorem W6 (h:sX m p=some d):m[p]? = some (.io d):=by grind[sX]
section
variable {P:cy}{w:fI}{K:bP}{mg:Zp}{base:Heap}
end
def tAH (G:Gx)(E:XK)(i p:Nat)(f:Zad):TA:=λσ H Q=>∃O0 M0 H0 ow m a,Rel G O0 M0 H0 ow σ H m/\σ[i]? = some (some<|.ref a)/\Pu G E (f m) H λds=>p<=ds.length/\∀us H',aM H H'->DVs G (Ow O0 ow) H' us ds->Q (lr p (.ref a) us) H'
abbrev FAH (X:Cx)(E:XK)(es:List Expr)(i p:Nat)(f:Zad):Prop:=PA X es<|tAH (gx X) E i p f
section
theorem tZ (ha:FAE X E es fs)(hN:X.N[i]? = some y:=by rfl)(hv:Vis X.env.scope y:=by first|exact iP rfl|exact gX (iP rfl)|exact gX (gX rfl))(hd:(y==("__debug__":Str))=false:=by decide)(hcd:(y==("__classdict__":Str))=false:=by decide)
  (he:ax (.Name y np::es) X.env=(false,eval (.Name y np) X.env)::ax es X.env:=by rfl):FAH X E (.Name y np::es) i 0 fs:=
 pF (jf (jk hN hv hd hcd) ha he) λσ H Q ⟨O0,M0,H0,ow,m,a,R,ea,q⟩=>
  ⟨_,ea,O0,M0,H0,ow,m,R,q.imp (aM.refl _) λds q vs H' g hv=>q.2 vs H' g hv⟩
theorem ye (ha:FE X E e fa)(hr:FAH X E es i p fs)(he:ax (e::es) X.env=(false,eval e X.env)::ax es X.env:=by rfl):FAH X E (e::es) i (p+1) (aj fa fs):=
 pF (jf ha hr he) λσ H Q ⟨O0,M0,H0,ow,m,a,R,ea,q⟩=>⟨O0,M0,H0,ow,m,R,q.bind.imp (aM.refl _) λd q v H1 g1 hv=>
  ⟨O0,M0,H0,ow,m,a,R.mono g1,ea,q.bind.imp g1 λds q=>⟨by have:=q.1;simpa using this,λus H2 g2 hus=>q.2 _ H2 (g1.trans g2)<|.cons (hv.mono g2) hus⟩⟩⟩
end
theorem Xs.at (h:Xs G E O0 M0 H0 ow σ H r k)(g:aM H H1):Xs G E O0 M0 H0 ow σ H1 r k:=h.imp (Go.refl g) λ_ _ _ _ _ _ q=>q
noncomputable def ab6 (i j:Nat)(fs:Zad):Zab:=λm=>(fs m).bind λds=>match ds with
 |[d,e]=>.ok (.nx,(m.set i<|.fz d).set j<|.fz e)
 |_=>.stuck
theorem abA (hc:X.calm=true)(hN:X.N.Nodup)(hi:X.N[i]? = some x)(hj:X.N[j]? = some y)(hij:i≠j)
  (hx:X.env.scope.names.lookup x=some .local) (hy:X.env.scope.names.lookup y=some .local) (ha:FAE X E [a,b] fs)
  (hw:oP [.Tuple [.Name x px,.Name y py] kt pt] (.Tuple [a,b] k2 pt2) X.env=pure (some [x,y]):=by rfl)
  (hs:oI [.Tuple [.Name x px,.Name y py] kt pt] (.Tuple [a,b] k2 pt2) pos.line X.env=pure false:=by rfl):
  FS X E (.Assign [.Tuple [.Name x px,.Name y py] kt pt] (.Tuple [a,b] k2 pt2) pos) (ab6 i j fs):=
 cL (acj hc hN hi hj hij hx hy ha hw hs) λW σ H hE=>xq5 hE λO0 M0 H0 ow m R q=>⟨O0,M0,H0,ow,m,R.toRel,(Ss.pu R.toRel q).imp (aM.refl _) λds q vs H' g hv=>by
  have z:∃d e,ds=[d,e]:=by
   cases ds with
   |nil=>exact q.elim
   |cons d ds=>cases ds with
    |nil=>exact q.elim
    |cons e ds=>cases ds with
     |nil=>exact⟨d,e,rfl⟩
     |cons _ _=>exact q.elim
  obtain⟨d,e,rfl⟩:=z;cases hv with
  |cons h1 h3=>cases h3 with
  |cons h2 h4=>
   cases h4;refine⟨_,_,rfl,?_⟩;have R1:=(R.mono g).set (i:=i) h1;have R2:=R1.set (i:=j)<|h2.bV λb z=>.inl z.sub;exact q _ _ _ R2<|((Go.refl g).trans Go.set).trans Go.set⟩
section
variable {G:Gx}{O0 M0:Zaa}{H0 H H':Hp}{ow:Os}{σ:L2.St}{m m':Me}
theorem cT.many {ch:Nat->Prop}(R:cT G O0 M0 H0 ow σ H m)(hl:m'.length=m.length)(old:∀i,¬ch i->m'[i]? = m[i]?)(g:Kp (λb=>∃i,ch i/\ow i=some b) H H')
  (new:∀i s,ch i->m'[i]? = some s->JQ G (Ow O0 ow) M0 H0 (ow i) (σ[i]?) H' s/\∀d,s≠.bw d) (mu:∀i b,ch i->ow i=some b->fM (H' b)/\(H0 b=none\/M0 b)):cT G O0 M0 H0 ow σ H' m'/\Go O0 ow H ow H':=by
 have mn:∀b,fM (H' b)->H' b≠none:=λb z w=>by rw[w] at z;rcases z with⟨_,e⟩|⟨_,e⟩|⟨_,e⟩|⟨_,e⟩<;>cases e
 have kp:Kp (Ow O0 ow) H H':=λb u e n=>g b u e λ⟨i,_,z⟩=>n<|.inr ⟨i,z⟩;have dom:∀b,H b≠none->H' b≠none:=λb n=>by
  by_cases q:∃i,ch i/\ow i=some b
  ·obtain⟨i,c,e⟩:=q;exact mn b (mu i b c e).1
  ·cases w:H b with
   |none=>exact absurd w n
   |some o=>rw[g b o w q];simp
 refine⟨⟨⟨by rw[hl];exact R.len,λb u e n=>?_,λb z=>dom b<|R.m0 b z,λb z=>?_,R.no0,R.inj,λj hj=>R.out j (by lia),λj s e=>?_⟩,λj d e=>?_⟩,kp,λj b e=>.inl<|.inr ⟨j,e⟩,dom⟩
 ·refine g b u (R.keep b u e n) λ⟨i,c,z⟩=>?_;rcases(mu i b c z).2 with w|w
  ·rw[w] at e;cases e
  ·exact n w
 ·by_cases q:∃i,ch i/\ow i=some b
  ·obtain⟨i,c,e⟩:=q;exact(mu i b c e).1
  ·have:=R.mutk b z
   rcases this with⟨_,e⟩|⟨_,e⟩|⟨_,e⟩|⟨_,e⟩
   ·exact .inl ⟨_,g b _ e q⟩
   ·exact .inr<|.inl ⟨_,g b _ e q⟩
   ·exact .inr<|.inr<|.inl ⟨_,g b _ e q⟩
   ·exact .inr<|.inr<|.inr ⟨_,g b _ e q⟩
 ·by_cases c:ch j
  ·exact(new j s c e).1
  ·rw[old j c] at e;have z:=R.slot j s e;have other:∀{b:Addr} {d:D},ow j=some b->OV G (Ow O0 ow) H b d->OV G (Ow O0 ow) H' b d:=λ{b d} e1 h1=>by
    have nb:¬ ∃i,ch i/\ow i=some b:=λ⟨i,ci,ei⟩=>c<|R.inj j i b e1 ei▸ci;rcases h1.mut with⟨_,e⟩|⟨_,e⟩|⟨_,e⟩|⟨_,e⟩<;>exact h1.kp R.mutk kp (by rw[e];exact g b _ e nb)
   cases s with
   |un=>exact z
   |fz d=>obtain⟨b,x,e,q⟩:=z;exact⟨b,x,e,q.kp R.mutk kp⟩
   |ow d=>obtain⟨b,x,e,f,q'⟩:=z;exact⟨b,x,e,f,other x q'⟩
   |io d=>obtain⟨b,x,e,f,q'⟩:=z;exact⟨b,x,e,f,other x q'⟩
   |bw d=>exact(R.nb j d e).elim
   |hd w b d=>obtain⟨x,e,f,q'⟩:=z;exact⟨x,e,f,other x q'⟩
 ·by_cases c:ch j
  ·exact(new j _ c e).2 d rfl
  ·rw[old j c] at e;exact R.nb j d e
end
noncomputable def Li (j:Nat)(f:Zae):Zae:=λm=>(f m).bind λd=>match d,m[j]? with
 | .adr a,some (.hd _ b d')=>if a=b then .ok d' else .stuck
 |_,_=>.stuck
section
variable {X:Cx}{E:XK}{e b ke:Expr}{f fb fk:Zae}{pos spos:Pos}
theorem abI {m:Me}{j:Nat}{d r:D}(h:(match d,m[j]? with|.adr a,some (.hd _ b d')=>if a=b then Res.ok d' else .stuck|_,_=>.stuck)=.ok r):∃w a,d=.adr a/\m[j]? = some (.hd w a r):=by grind
theorem Sg {m:Me}{j:Nat}{d:D}{c:Str}:(match d,m[j]? with|.adr a,some (.hd _ b d')=>if a=b then Res.ok d' else .stuck|_,_=>.stuck)≠.exc c:=by grind
theorem GR (j:Nat)(h:FE X E e f):FB X E e (Li j f):=bI h λσ H Q hE=>xq5 hE λO0 M0 H0 ow m R q=>⟨O0,M0,H0,ow,m,R,q.bind.imp (aM.refl _) λd q v H' g hv=>by
 cases z:(match d,m[j]? with|.adr a,some (.hd _ b d')=>if a=b then Res.ok d' else .stuck|_,_=>.stuck) with
 |ok r=>
  rw[z] at q;obtain⟨w,a,rfl,e⟩:=abI z;cases hv;obtain⟨x1,x2,x3,x4⟩:=(R.mono g).slot j _ e;exact q _ H' g<|.inr ⟨a,rfl,.inr ⟨j,x1⟩,x4⟩
 |exc c=>exact(Sg z).elim
 |stuck=>rw[z] at q;exact q.elim⟩
noncomputable def yR (m:Me)(j:Nat):Option (Bool×Addr×D):=match m[j]? with
 |some (.hd w a d)=>some (w,a,d)
 |_=>none
theorem Aw (h:yR m j=some (w,a,d)):m[j]? = some (.hd w a d):=by grind[yR]
theorem cT.aeE {G:Gx}{O0 M0:Zaa}{H0 H:Hp}{ow:Os}{σ:L2.St}{m:Me}{j:Nat}{w:Bool}{a:Addr}{d d':D}{o:HO}(R:cT G O0 M0 H0 ow σ H m)(e:m[j]? = some (.hd w a d))(hm:fM (some o))
  (h:Kp (Ow O0 ow) H (L2.upd H a o)->OV G (Ow O0 ow) (L2.upd H a o) a d'):cT G O0 M0 H0 ow σ (L2.upd H a o) (m.set j<|.hd w a d')/\Go O0 ow H ow (L2.upd H a o):=by
 obtain⟨x1,x2,x3,x4⟩:=R.slot j _ e;have kp:Kp (Ow O0 ow) H (L2.upd H a o):=λb u eb n=>nY b u eb λz=>n<|z▸.inr ⟨j,x1⟩;refine R.many (ch:=(· = j)) (by simp) (λi n=>br<|eS n) (λb u eb n=>nY b u eb λz=>n ⟨j,rfl,by rw[x1,z]⟩) (λi s c es=>?_) λi b c eb=>?_
 ·subst c;rw[bo<|rM e] at es;cases es;exact⟨⟨x1,x2,x3,h kp⟩,λd z=>by cases z⟩
 ·subst c;rw[x1] at eb;cases eb;refine⟨by rw[L2.aV];exact hm,?_⟩;cases w with
  |true=>exact .inl (x2 rfl)
  |false=>exact .inr (x3 rfl)
def Bj (j:Nat)(fb fk fv:Zae):Zab:=λm=>(fv m).bind λd=>(fb m).bind λc=>(ofO<|yR m j).bind λo=>(fk m).bind λk=>(ofO<|uz k).bind λk=>match c,o.2.2 with
 | .adr a,.dcu ks ds=>if a=o.2.1/\ks.length<aw then .ok (.nx,m.set j<|.hd o.1 a<|.dcu (gJ ks ds k d).1 (gJ ks ds k d).2) else .stuck
 |_,_=>.stuck
theorem LR (j:Nat)(hr:gD jj X.A)(he:FE X E e f)(hb:FE X E b fb)(hk:FE X E ke fk)
  (hs:gN e (some<|.Subscript b ke spos) pos.line X.env=pure false:=by rfl):FS X E (.Assign [.Subscript b ke spos] e pos) (Bj j fb fk f):=
 cL (HB (j8 hr) hb hk he hs) λW σ H hE=>xq5 hE λO0 M0 H0 ow m R q=>
  ⟨O0,M0,H0,ow,m,R.toRel,(Ss.pu R.toRel q).imp (aM.refl _) λd q v H1 g1 hv=>by
   have R1:=R.mono g1;refine⟨O0,M0,H0,ow,m,R1.toRel,(Ss.pu R1.toRel<|q.go<|Go.refl g1).imp (aM.refl _) λc q vc H2 g2 hc=>?_⟩;have R2:=R1.mono g2;obtain⟨o,ho,q⟩:=Ss.ofO q;obtain⟨w,a,dd⟩:=o;have ho:=Aw ho;refine⟨O0,M0,H0,ow,m,R2.toRel,(Ss.pu R2.toRel<|q.go<|Go.refl g2).imp (aM.refl _) λdk q vk H3 g3 hvk=>?_⟩;obtain⟨ky,h1,q⟩:=Ss.ofO q;obtain⟨b,rfl,hb⟩:=uI (.inl hvk) h1;have R3:=R2.mono g3;cases c with
   |adr a'=>
    cases hc;cases dd with
    |dcu ks ds=>
     by_cases hz:a'=a/\ks.length<aw
     ·have q':Ss (gx X) E O0 M0 H0 ow H2 W (if a'=a/\ks.length<aw then .ok (.nx,m.set j<|.hd w a'<|.dcu (gJ ks ds ky d).1 (gJ ks ds ky d).2) else .stuck):=q;rw[if_pos hz] at q';clear q;obtain⟨rfl,hz⟩:=hz;obtain⟨x1,x2,x3,ι,vs,e4,e5,rfl,e6⟩:=R3.slot j _ ho;obtain⟨p1,p2⟩:=Qq (k:=ky) (hv.mono<|g2.trans g3) e6;rw[e5] at p1 p2;obtain⟨R4,g4⟩:=R3.aeE (o:=.dT (KTp X.K)<|putK ι ky v) (d':=.dcu (gJ ks ds ky d).1 (gJ ks ds ky d).2) ho (.inr<|.inr<|.inl ⟨(_,_),rfl⟩) λkp=>⟨_,_,L2.aV,p1,rfl,p2.kp R3.mutk kp⟩;exact⟨a',_,rfl,Je.t e4 hb (by rw[← bp (f:=(·.1)),e5];exact hz),q' _ _ _ R4<|(Go.refl g3).trans g4⟩
     ·have q:Ss (gx X) E O0 M0 H0 ow H2 W (if a'=a/\ks.length<aw then .ok (.nx,m.set j<|.hd w a'<|.dcu (gJ ks ds ky d).1 (gJ ks ds ky d).2) else .stuck):=q;rw[if_neg hz] at q;exact q.elim
    |_=>exact q.elim
   |_=>exact q.elim⟩
def zm (j:Nat)(fb fk fv:Zae):Zab:=λm=>(fv m).bind λd=>(fb m).bind λc=>(ofO<|yR m j).bind λo=>(fk m).bind λk=>match c,o.2.2,k with
 | .adr a,.lst ds,.int n=>if a=o.2.1 then(ofO<|ixN ds.length n).bind λi=>.ok (.nx,m.set j<|.hd o.1 a<|.lst<|ds.set i d) else .stuck
 |_,_,_=>.stuck
theorem JF (j:Nat)(he:FE X E e f)(hb:FE X E b fb)(hk:FE X E ke fk)
  (ha:∀v,tw (.Subscript b ke spos) X.env v=(do
   let ov←r9 [v] (eval b X.env)
   let iv←r9 [v,ov] (eval ke X.env)
   standAt spos
   r9 [v,ov,iv] (setItem ov iv v)
   release [v,ov,iv] []):=by intro _;rfl)
  (hs:oI [.Subscript b ke spos] e pos.line X.env=pure false:=by rfl) (hw:oP [.Subscript b ke spos] e X.env=pure none:=by rfl)
  (h1:(kq [.Subscript b ke spos] X.env).map (·.2)=[tw (.Subscript b ke spos) X.env]:=by rfl):FS X E (.Assign [.Subscript b ke spos] e pos) (zm j fb fk f):=
 cL (My he (Vx hb hk set_list ha) hs hw h1) λW σ H hE=>xq5 hE λO0 M0 H0 ow m R q=>
  ⟨O0,M0,H0,ow,m,R.toRel,(Ss.pu R.toRel q).imp (aM.refl _) λd q v H1 g1 hv=>by
   have R1:=R.mono g1;refine⟨O0,M0,H0,ow,m,R1.toRel,(Ss.pu R1.toRel<|q.go<|Go.refl g1).imp (aM.refl _) λc q vc H2 g2 hc=>?_⟩;have R2:=R1.mono g2;obtain⟨o,ho,q⟩:=Ss.ofO q;obtain⟨w,a,dd⟩:=o;have ho:=Aw ho;refine⟨O0,M0,H0,ow,m,R2.toRel,(Ss.pu R2.toRel<|q.go<|Go.refl g2).imp (aM.refl _) λdk q vk H3 g3 hvk=>?_⟩;have R3:=R2.mono g3;cases c with
   |adr a'=>
    cases hc;cases dd with
    |lst ds=>
     cases dk with
     |int n=>
      cases hvk;have q':Ss (gx X) E O0 M0 H0 ow H2 W (if a'=a then(ofO<|ixN ds.length n).bind λi=>.ok (.nx,m.set j<|.hd w a'<|.lst<|ds.set i d) else .stuck):=q;by_cases hz:a'=a
      ·rw[if_pos hz] at q';clear q;subst hz;obtain⟨i,hi,q⟩:=Ss.ofO q';obtain⟨x1,x2,x3,xs,e4,e5⟩:=R3.slot j _ ho;obtain⟨R4,g4⟩:=R3.aeE (o:=.lst<|xs.set i v) (d':=.lst<|ds.set i d) ho (.inl ⟨_,rfl⟩) λkp=>⟨_,L2.aV,(yr (hv.mono<|g2.trans g3) i e5).kp R3.mutk kp⟩;exact⟨a',xs,n,i,rfl,rfl,e4,by rw[bR e5];exact hi,q _ _ _ R4<|(Go.refl g3).trans g4⟩
      ·rw[if_neg hz] at q';exact q'.elim
     |_=>exact q.elim
    |_=>exact q.elim
   |_=>exact q.elim⟩
end
def Uo (G:Gx)(p:Nat)(Φ:List D->D->Addr×D->Addr×D->Res (D×D×D×D)):Sp:=λvs H Q E=>∃O a us ds d x y,vs=lr p (.ref a) us/\p<=ds.length/\(∀b,O b->fM (H b))/\(O a/\OV G O H a d)/\(O x.1/\OV G O H x.1 x.2)/\(O y.1/\OV G O H y.1 y.2)/\(a≠x.1/\a≠y.1/\x.1≠y.1)/\DVs G O H us ds/\match Φ ds d x y with
 | .ok (r,d',e,f)=>∀v H',Kp (λb=>b=a\/b=x.1\/b=y.1) H H'->OV G O H' a d'->OV G O H' x.1 e->OV G O H' y.1 f->DV G O H' v r->Q v H'
 | .exc c=>∀C H',G.mg c=some (.ref C)->Kp (λb=>b=a\/b=x.1\/b=y.1) H H'->E (.ref C) none H'
 | .stuck=>False
noncomputable def kh (m:Me)(j:Nat)(a:Addr):Option D:=match m[j]? with
 |some (.hd false b d)=>if a=b then some d else none
 |_=>none
theorem NP (h:kh m j a=some d):m[j]? = some (.hd false a d):=by grind[kh]
def runST (p N n:Nat)(g:Zab):List D->D->Addr×D->Addr×D->Res (D×D×D×D):=λds d x y=>if ds.length+1=n then match g (lr p (.io d) (ds.map Sl.fz)++(dQ (N-n-2) Sl.un++[.hd false x.1 x.2,.hd false y.1 y.2])) with
  | .ok (.rt _ r,m')=>(ofO<|sX m' p).bind λd'=>(ofO<|kh m' (N-2) x.1).bind λe=>(ofO<|kh m' (N-1) y.1).bind λf=>.ok (r,d',e,f)
  | .ok (.nx,m')=>(ofO<|sX m' p).bind λd'=>(ofO<|kh m' (N-2) x.1).bind λe=>(ofO<|kh m' (N-1) y.1).bind λf=>.ok (.non,d',e,f)
  | .exc c=>.exc c
  |_=>.stuck
 else .stuck
abbrev FST (P:cy)(w:fI)(K:bP)(mg:Zp)(base:Heap)(k:Nat)(x:Str)(ps:List Str)(p:Nat)(Φ:List D->D->Addr×D->Addr×D->Res (D×D×D×D)):Prop:=Hd.Fn P w K mg base k x ps<|Uo ⟨K,mg⟩ p Φ
noncomputable def ow3 (i j1 j2:Nat)(a a1 a2:Addr):Os:=λk=>if k=i then some a else if k=j1 then some a1 else if k=j2 then some a2 else none
theorem aa3 (h:O a)(h1:O a1)(h2:O a2)(n1:i≠j1)(n2:i≠j2)(n3:j1≠j2):Ow (λb=>O b/\b≠a/\b≠a1/\b≠a2) (ow3 i j1 j2 a a1 a2)=O:=by
 funext b;refine propext ⟨λz=>?_,λz=>?_⟩
 ·rcases z with z|⟨k,e⟩
  ·exact z.1
  ·unfold ow3 at e;split at e
   ·cases e;exact h
   ·split at e
    ·cases e;exact h1
    ·split at e
     ·cases e;exact h2
     ·cases e
 ·by_cases q:b=a
  ·exact .inr ⟨i,by unfold ow3;rw[if_pos rfl,q]⟩
  ·by_cases q1:b=a1
   ·exact .inr ⟨j1,by unfold ow3;rw[if_neg<|eS n1,if_pos rfl,q1]⟩
   ·by_cases q2:b=a2
    ·exact .inr ⟨j2,by unfold ow3;rw[if_neg<|eS n2,if_neg<|eS n3,if_pos rfl,q2]⟩
    ·exact .inl ⟨z,q,q1,q2⟩
theorem VG {N:List Str}{ds:List D}{x y:Addr×D}(hp:p<=ds.length)(hm:∀b,O b->fM (H b))(ho:O a/\OV G O H a d)(hx:O x.1/\OV G O H x.1 x.2)(hy:O y.1/\OV G O H y.1 y.2)(nd:a≠x.1/\a≠y.1/\x.1≠y.1)(hd:DVs G O H us ds)(hn:ds.length+1=n)(hN:n+2<=N.length):
  cT G (λb=>O b/\b≠a/\b≠x.1/\b≠y.1) (λb=>b=a\/b=x.1\/b=y.1) H (ow3 p (N.length-2) (N.length-1) a x.1 y.1) (L2.start N<|lr p (.ref a) us) H (lr p (.io d) (ds.map Sl.fz)++(dQ (N.length-n-2) Sl.un++[.hd false x.1 x.2,.hd false y.1 y.2])):=by
 have hl:=bR hd;have n1:p≠N.length-2:=by lia
 have n2:p≠N.length-1:=by lia
 have n3:N.length-2≠N.length-1:=by lia
 have eO:=aa3 ho.1 hx.1 hy.1 n1 n2 n3;have ν:(lr p (V.ref a) us).length=n:=by rw[Dl,hl];exact hn
 have hst:∀i v,(lr p (V.ref a) us)[i]? = some v->(L2.start N<|lr p (.ref a) us)[i]? = some (some v):=λi v e=>by
  have hi:i<(lr p (V.ref a) us).length:=(fN.mp e).1;unfold L2.start;rw[cS (by simpa using hi),bX,e];rfl
 have hml:(lr p (Sl.io d)<|ds.map Sl.fz).length=n:=by rw[Dl,bp];exact hn
 have op:ow3 p (N.length-2) (N.length-1) a x.1 y.1 p=some a:=if_pos rfl;have o1:ow3 p (N.length-2) (N.length-1) a x.1 y.1 (N.length-2)=some x.1:=by unfold ow3;rw[if_neg<|eS n1,if_pos rfl]
 have o2:ow3 p (N.length-2) (N.length-1) a x.1 y.1 (N.length-1)=some y.1:=by unfold ow3;rw[if_neg<|eS n2,if_neg<|eS n3,if_pos rfl]
 have on:∀i,i≠p->i≠N.length-2->i≠N.length-1->ow3 p (N.length-2) (N.length-1) a x.1 y.1 i=none:=λi h1 h2 h3=>by unfold ow3;rw[if_neg h1,if_neg h2,if_neg h3]
 have key:∀(i:Nat) (s:Sl),(lr p (Sl.io d) (ds.map Sl.fz)++(dQ (N.length-n-2) Sl.un++[.hd false x.1 x.2,.hd false y.1 y.2]))[i]? = some s->
   (i=p/\s=.io d)\/(i≠p/\i<n/\∃d1 v,s=.fz d1/\DV G O H v d1/\(lr p (V.ref a) us)[i]? = some v)\/(n<=i/\i<N.length-2/\s=.un)\/(i=N.length-2/\s=.hd false x.1 x.2)\/(i=N.length-1/\s=.hd false y.1 y.2):=λi s e=>by
  by_cases hi:i<n
  ·rw[cS (by rw[hml];exact hi)] at e;by_cases q:i=p
   ·subst q;rw[Oo<|by simpa using hp] at e;cases e;exact .inl ⟨rfl,rfl⟩
   ·refine .inr<|.inl ⟨q,hi,?_⟩;by_cases lt:i<p
    ·rw[Qw lt (by simpa using hp),bX] at e;cases ed:ds[i]? with
     |none=>rw[ed] at e;cases e
     |some d1=>
      rw[ed] at e;cases e;obtain⟨v,hv,dx⟩:=vY hd ed;exact⟨d1,v,rfl,dx,by rw[Qw lt<|by lia];exact hv⟩
    ·obtain⟨j,rfl⟩:∃j,i=j+1:=⟨i-1,by lia⟩;rw[Nq (by lia) (by simpa using hp),bX] at e;cases ed:ds[j]? with
     |none=>rw[ed] at e;cases e
     |some d1=>
      rw[ed] at e;cases e;obtain⟨v,hv,dx⟩:=vY hd ed;exact⟨d1,v,rfl,dx,by rw[Nq (by lia)<|by lia];exact hv⟩
  ·rw[dc (by rw[hml];lia),hml] at e;by_cases hi2:i-n<N.length-n-2
   ·rw[cS (by simpa using hi2),gz,if_pos hi2] at e;cases e;exact .inr<|.inr<|.inl ⟨by lia,by lia,rfl⟩
   ·rw[dc (by simpa using hi2),gv] at e;rcases(show i-n-(N.length-n-2)=0\/i-n-(N.length-n-2)=1\/2<=i-n-(N.length-n-2) by lia) with z|z|z
    ·rw[z] at e;cases e;exact .inr<|.inr<|.inr<|.inl ⟨by lia,rfl⟩
    ·rw[z] at e;cases e;exact .inr<|.inr<|.inr<|.inr ⟨by lia,rfl⟩
    ·rw[i7<|by simpa using z] at e;cases e
 refine⟨⟨?_,λb o e _=>e,λb z=>?_,λb z=>by rw[eO] at z;exact hm b z,λi b e=>?_,λi j b e1 e2=>?_,λi hi=>?_,λi s e=>?_⟩,λj d' e=>?_⟩
 ·rw[bg,hml,bg,gv];unfold L2.start;rw[bg,bp,ν,gv]
  simp
  lia
 ·have mn:∀b,fM (H b)->H b≠none:=λb z w=>by rw[w] at z;rcases z with⟨_,e⟩|⟨_,e⟩|⟨_,e⟩|⟨_,e⟩<;>cases e
  rcases z with z|z|z
  ·rw[z];exact mn _ ho.2.mut
  ·rw[z];exact mn _ hx.2.mut
  ·rw[z];exact mn _ hy.2.mut
 ·intro z;unfold ow3 at e;split at e
  ·cases e;exact z.2.1 rfl
  ·split at e
   ·cases e;exact z.2.2.1 rfl
   ·split at e
    ·cases e;exact z.2.2.2 rfl
    ·cases e
 ·have inv:∀k b,ow3 p (N.length-2) (N.length-1) a x.1 y.1 k=some b->(k=p/\b=a)\/(k=N.length-2/\b=x.1)\/(k=N.length-1/\b=y.1):=λk b e=>by
   unfold ow3 at e;split at e
   ·rename_i q;cases e;exact .inl ⟨q,rfl⟩
   ·split at e
    ·rename_i q;cases e;exact .inr<|.inl ⟨q,rfl⟩
    ·split at e
     ·rename_i q;cases e;exact .inr<|.inr ⟨q,rfl⟩
     ·cases e
  obtain⟨d1,d2,d3⟩:=nd;rcases inv i b e1 with⟨u1,u2⟩|⟨u1,u2⟩|⟨u1,u2⟩<;>rcases inv j b e2 with⟨w1,w2⟩|⟨w1,w2⟩|⟨w1,w2⟩
  ·rw[u1,w1]
  ·exact absurd (u2.symm.trans w2) d1
  ·exact absurd (u2.symm.trans w2) d2
  ·exact absurd (w2.symm.trans u2) d1
  ·rw[u1,w1]
  ·exact absurd (u2.symm.trans w2) d3
  ·exact absurd (w2.symm.trans u2) d2
  ·exact absurd (w2.symm.trans u2) d3
  ·rw[u1,w1]
 ·rw[bg,hml,bg,gv] at hi;simp at hi;exact on i (by lia) (by lia)<|by lia
 ·rw[eO];rcases key i s e with⟨rfl,rfl⟩|⟨q,hi,d1,v,rfl,dx,hv⟩|⟨q1,q2,rfl⟩|⟨rfl,rfl⟩|⟨rfl,rfl⟩
  ·exact⟨a,op,.inl rfl,hst _ _<|Oo (by lia),ho.2⟩
  ·exact⟨on i q (by lia) (by lia),v,hst _ _ hv,dx⟩
  ·exact on i (by lia) (by lia)<|by lia
  ·exact⟨o1,(λz=>by cases z),λ_=>.inr<|.inl rfl,hx.2⟩
  ·exact⟨o2,(λz=>by cases z),λ_=>.inr<|.inr rfl,hy.2⟩
 ·rcases key j _ e with⟨_,z⟩|⟨_,_,_,_,z,_⟩|⟨_,_,z⟩|⟨_,z⟩|⟨_,z⟩<;>cases z
section
variable {P:cy}{w:fI}{K:bP}{mg:Zp}{base:Heap}
theorem Ds {x qual:Str}{st:Stmt}{f:Addr}{fd:kA}{N ps:List Str}{k:Nat}(p:Nat){g:Zab}(Fu:Fun K x qual st f fd)(S:aR N ps (aL st))(hN:ps.length+2<=N.length)
  (hbody:∀(cdv:aS) (A:iN) (outer:List Env) (s:bq) (H:Hp) (E:XK),gD k (A.deeper<|zD qual (aL st) s.heap.objs.size f cdv)->
   FSs (Cw (CX1 P w) P w K mg base N qual (aL st) f cdv A outer s H E) E (jZ st) g):qL P w K mg base (CX1 P w) (k+1) f fd ps (Uo ⟨K,mg⟩ p<|runST p N.length ps.length g):=by
 have cond:∀{ds:List D} {d:D} {u v:Addr×D},runST p N.length ps.length g ds d u v≠.stuck->ds.length+1=ps.length:=λ{ds d u v} h=>by
  by_cases z:ds.length+1=ps.length
  ·exact z
  ·unfold runST at h;rw[if_neg z] at h;exact absurd rfl h
 refine Qe Fu S (λvs H Q E h=>?_) λcdv A outer s H vs Q E hr h=>?_
 ·obtain⟨O,a,us,ds,d,u,v,rfl,_,_,_,_,_,_,hd,q⟩:=h;rw[Dl,bR hd];exact cond λz=>by rw[z] at q;exact q
 ·obtain⟨O,a,us,ds,d,u,v,rfl,hp,hm,ho,hu,hv,nd,hd,q⟩:=h;have hn:=cond (ds:=ds) (d:=d) λz=>by rw[z] at q;exact q
  unfold runST at q;rw[if_pos hn] at q;refine⟨_,hbody cdv A outer s H E hr,_,_,H,_,_,VG hp hm ho hu hv nd hd hn hN,?_⟩;have fin:∀{ow' σ' H' m' d' e' f'},cT (⟨K,mg⟩:Gx) (λb=>O b/\b≠a/\b≠u.1/\b≠v.1) (λb=>b=a\/b=u.1\/b=v.1) H ow' σ' H' m'->sX m' p=some d'->kh m' (N.length-2) u.1=some e'->kh m' (N.length-1) v.1=some f'->
    Kp (λb=>b=a\/b=u.1\/b=v.1) H H'/\OV ⟨K,mg⟩ O H' a d'/\OV ⟨K,mg⟩ O H' u.1 e'/\OV ⟨K,mg⟩ O H' v.1 f'/\∀z r,DV (⟨K,mg⟩:Gx) (Ow (λb=>O b/\b≠a/\b≠u.1/\b≠v.1) ow') H' z r->DV ⟨K,mg⟩ O H' z r:=λ{ow' σ' H' m' d' e' f'} R e0 e1 e2=>by
   refine gH (R.slot p _<|W6 e0) λa' k1 k2 k3 k4=>?_;obtain⟨x1,x2,x3,x4⟩:=R.slot _ _<|NP e1;obtain⟨y1,y2,y3,y4⟩:=R.slot _ _<|NP e2;have ea:a'=a:=by
    rcases k2 with z|z|z
    ·exact z
    ·have:=R.inj p _ _ k1<|z▸x1;lia
    ·have:=R.inj p _ _ k1<|z▸y1;lia
   subst ea;have sub:∀b,O b->Ow (λb=>O b/\b≠a'/\b≠u.1/\b≠v.1) ow' b\/H' b=none:=λb z=>by
    by_cases q:b=a'
    ·exact .inl<|.inr ⟨p,by rw[q];exact k1⟩
    ·by_cases q1:b=u.1
     ·exact .inl<|.inr ⟨_,by rw[q1];exact x1⟩
     ·by_cases q2:b=v.1
      ·exact .inl<|.inr ⟨_,by rw[q2];exact y1⟩
      ·exact .inl<|.inl ⟨z,q,q1,q2⟩
   exact⟨R.keep,k4.bV sub,x4.bV sub,y4.bV sub,λz r h=>h.bV sub⟩
  cases z:g (lr p (.io d) (ds.map Sl.fz)++(dQ (N.length-ps.length-2) Sl.un++[.hd false u.1 u.2,.hd false v.1 v.2])) with
  |exc c=>rw[z] at q;exact λC H' e kp=>q C H' e kp
  |stuck=>rw[z] at q;exact q.elim
  |ok b=>
   obtain⟨fl,m'⟩:=b;rw[z] at q;cases fl with
   |bk=>exact q.elim
   |ct=>exact q.elim
   |nx=>
    intro ow' σ' H' R' _;cases e0:sX m' p with
    |none=>simp only[e0] at q;exact q.elim
    |some d'=>
     cases e1:kh m' (N.length-2) u.1 with
     |none=>simp only[e0,e1,qT,Res.uJ] at q;exact q.elim
     |some e'=>
      cases e2:kh m' (N.length-1) v.1 with
      |none=>simp only[e0,e1,e2,qT,Res.uJ] at q;exact q.elim
      |some f'=>
       simp only[e0,e1,e2] at q;refine zF (fin R' e0 e1 e2) λk1 k2 k3 k4 k5=>?_;exact q _ H' k1 k2 k3 k4 .non
   |rt fr r=>
    intro v' ow' σ' H' R' _ hv' _;cases e0:sX m' p with
    |none=>simp only[e0] at q;exact q.elim
    |some d'=>
     cases e1:kh m' (N.length-2) u.1 with
     |none=>simp only[e0,e1,qT,Res.uJ] at q;exact q.elim
     |some e'=>
      cases e2:kh m' (N.length-1) v.1 with
      |none=>simp only[e0,e1,e2,qT,Res.uJ] at q;exact q.elim
      |some f'=>
       simp only[e0,e1,e2] at q;refine zF (fin R' e0 e1 e2) λk1 k2 k3 k4 k5=>?_;exact q v' H' k1 k2 k3 k4<|k5 _ _ hv'
theorem ad2 {k p:Nat}{f:Addr}{fd:kA}{ps:List Str}:qL P w K mg base (CX1 P w) k f fd ps (Uo ⟨K,mg⟩ p λ_ _ _ _=>.stuck):=
 have n:∀{vs H Q E},¬Uo ⟨K,mg⟩ p (λ_ _ _ _=>.stuck) vs H Q E:=λh=>by
  obtain⟨_,_,_,_,_,_,_,_,_,_,_,_,_,_,_,q⟩:=h;exact q
 ⟨λ_ _ _ _ h=>(n h).elim,λ_ _ _ _ _ _ _ _ _ _ _ _ _ h=>(n h).elim⟩
end
def vW (Φ:List D->D->Addr×D->Addr×D->Res (D×D×D×D))(i p j1 j2:Nat)(fs:Zad):Me->Res (D×Me):=λm=>(ofO<|Ij m i).bind λo=>(ofO<|yR m j1).bind λh1=>(ofO<|yR m j2).bind λh2=>(fs m).bind λds=>if p<=ds.length then(Φ ds o.2 h1.2 h2.2).bind λr=>.ok (r.1,((z6 m i o.1 r.2.1).set j1<|.hd h1.1 h1.2.1 r.2.2.1).set j2<|.hd h2.1 h2.2.1 r.2.2.2) else .stuck
theorem Kw (i j1 j2:Nat)(Fh:FST X.prog X.w X.K X.mg X.base k x ps p Φ)(hr:gD j X.A)(hx:Passes (CX1 X.prog X.w) X E)(ha:FAH X E (e0::es) i p fs)(hk:k<=j:=by decide)(hg:Gl X x:=by rfl)
  (hj:j1≠j2:=by decide) (hdb:(x==("__debug__":Str))=false:=by decide) (he:ax (e0::es) X.env=(false,eval e0 X.env)::ax es X.env:=by rfl) (τ:(ki pos<|ax es X.env).any (·.1)=false:=by rfl):
  FX X E (.Call (.Name x pp) (e0::es) [] pos) (vW Φ i p j1 j2 fs):=by
 refine uh Fh.ex λf fd G b kp m=>?_;refine bI (Ax G (hr.mono hk) hg m kp b .nil hx ha hdb he τ) λσ H Q hE=>xq5 hE λO0 M0 H0 ow m R q=>?_;obtain⟨o,ho,q⟩:=(Xs.pu R.toRel q).ofO;obtain⟨h1,hh1,q⟩:=(Xs.pu R.toRel q).ofO;obtain⟨h2,hh2,q⟩:=(Xs.pu R.toRel q).ofO;obtain⟨kk,d0⟩:=o;obtain⟨w1,a1,d1⟩:=h1;obtain⟨w2,a2,d2⟩:=h2;refine gH (YH R.toRel ho) λa e1 e2 e4 e5=>?_;have g1:=Aw hh1;have g2:=Aw hh2;obtain⟨x1,x2,x3,x4⟩:=R.slot j1 _ g1;obtain⟨y1,y2,y3,y4⟩:=R.slot j2 _ g2;have ni1:i≠j1:=λz=>by subst z;rcases e5 with⟨s,_⟩|⟨s,_⟩<;>(rw[g1] at s;cases s)
 have ni2:i≠j2:=λz=>by subst z;rcases e5 with⟨s,_⟩|⟨s,_⟩<;>(rw[g2] at s;cases s)
 have na1:a≠a1:=λz=>ni1<|R.inj i j1 a e1<|z▸x1;have na2:a≠a2:=λz=>ni2<|R.inj i j2 a e1<|z▸y1;have na3:a1≠a2:=λz=>hj<|R.inj j1 j2 a1 x1<|z▸y1;refine⟨O0,M0,H0,ow,m,a,R.toRel,e2,(Xs.pu R.toRel q).imp (aM.refl _) λds q=>?_⟩;by_cases hp:p<=ds.length
 case neg=>rw[if_neg hp] at q;exact q.elim
 rw[if_pos hp] at q;refine⟨hp,λus H1 g3 hus=>?_⟩;have R1:=R.mono g3;have q:Xs (gx X) E O0 M0 H0 ow σ H1 ((Φ ds d0 (a1,d1) (a2,d2)).bind λr=>.ok (r.1,((z6 m i kk r.2.1).set j1<|.hd w1 a1 r.2.2.1).set j2<|.hd w2 a2 r.2.2.2)) _:=q.at g3;show Uo _ _ _ (lr p (V.ref a) us++[]) _ _ _;rw[eR];refine⟨Ow O0 ow,a,us,ds,d0,(a1,d1),(a2,d2),rfl,hp,R1.mutk,⟨.inr ⟨i,e1⟩,e4.mono g3⟩,⟨.inr ⟨j1,x1⟩,x4.mono g3⟩,⟨.inr ⟨j2,y1⟩,y4.mono g3⟩,⟨na1,na2,na3⟩,hus,?_⟩;have m0a:H0 a=none\/M0 a:=by
  rcases e5 with⟨s,_⟩|⟨s,_⟩
  ·obtain⟨a',s1,s2,_⟩:=R.slot i _ s;rw[e1] at s1;cases s1;exact .inl s2
  ·obtain⟨a',s1,s2,_⟩:=R.slot i _ s;rw[e1] at s1;cases s1;exact .inr s2
 have m01:H0 a1=none\/M0 a1:=by cases w1 with
  |true=>exact .inl (x2 rfl)
  |false=>exact .inr (x3 rfl)
 have m02:H0 a2=none\/M0 a2:=by cases w2 with
  |true=>exact .inl (y2 rfl)
  |false=>exact .inr (y3 rfl)
 cases z:Φ ds d0 (a1,d1) (a2,d2) with
 |stuck=>rw[z] at q;exact q.elim
 |exc c=>
  rw[z] at q;refine λC H' e g=>q C H' e λb o e n=>?_;refine g b o (R1.keep b o e n) λw=>?_;rcases w with rfl|rfl|rfl
  ·rcases m0a with w|w
   ·rw[w] at e;cases e
   ·exact n w
  ·rcases m01 with w|w
   ·rw[w] at e;cases e
   ·exact n w
  ·rcases m02 with w|w
   ·rw[w] at e;cases e
   ·exact n w
 |ok r=>
  obtain⟨rr,d',e',f'⟩:=r;rw[z] at q;intro v H' g ov1 ov2 ov3 hv;have hi:i<m.length:=by rcases e5 with⟨s,_⟩|⟨s,_⟩<;>exact rM s
  have ex:∀c,(((z6 m i kk d').set j1<|.hd w1 a1 e').set j2<|.hd w2 a2 f')[c]? = if c=j2 then some (.hd w2 a2 f') else if c=j1 then some (.hd w1 a1 e') else if c=i then some (if kk then .ow d' else .io d') else m[c]?:=λc=>by
   have l1:=rM g1;have l2:=rM g2;unfold z6;by_cases c2:c=j2
   ·subst c2;rw[if_pos rfl,bo<|by simpa using l2]
   ·rw[if_neg c2,br<|eS c2];by_cases c1:c=j1
    ·subst c1;rw[if_pos rfl,bo<|by simpa using l1]
    ·rw[if_neg c1,br<|eS c1];by_cases c0:c=i
     ·subst c0;rw[if_pos rfl,bo hi]
     ·rw[if_neg c0,br<|eS c0]
  obtain⟨R2,G2⟩:=R1.many (m':=((z6 m i kk d').set j1<|.hd w1 a1 e').set j2<|.hd w2 a2 f') (ch:=λc=>c=i\/c=j1\/c=j2) (by simp[z6]) (λc n=>by
    rw[ex,if_neg λz=>n<|.inr<|.inr z,if_neg λz=>n<|.inr<|.inl z,if_neg λz=>n<|.inl z]) (λb o eb n=>g b o eb λw=>n (by
    rcases w with rfl|rfl|rfl
    ·exact⟨i,.inl rfl,e1⟩
    ·exact⟨j1,.inr<|.inl rfl,x1⟩
    ·exact⟨j2,.inr<|.inr rfl,y1⟩)) (λc s cc es=>by
    rw[ex] at es;rcases cc with rfl|rfl|rfl
    ·rw[if_neg ni2,if_neg ni1,if_pos rfl] at es;cases es;rcases e5 with⟨s,rfl⟩|⟨s,rfl⟩
     ·refine gH (R.slot c _ s) λa' s1 s2 s3 _=>?_;rw[e1] at s1;cases s1;exact⟨⟨a,e1,s2,s3,ov1⟩,λd z=>by cases z⟩
     ·refine gH (R.slot c _ s) λa' s1 s2 s3 _=>?_;rw[e1] at s1;cases s1;exact⟨⟨a,e1,s2,s3,ov1⟩,λd z=>by cases z⟩
    ·rw[if_neg hj,if_pos rfl] at es;cases es;exact⟨⟨x1,x2,x3,ov2⟩,λd z=>by cases z⟩
    ·rw[if_pos rfl] at es;cases es;exact⟨⟨y1,y2,y3,ov3⟩,λd z=>by cases z⟩) (λc b cc eb=>by
    rcases cc with rfl|rfl|rfl
    ·rw[e1] at eb;cases eb;exact⟨ov1.mut,m0a⟩
    ·rw[x1] at eb;cases eb;exact⟨ov2.mut,m01⟩
    ·rw[y1] at eb;cases eb;exact⟨ov3.mut,m02⟩)
  exact q H' R2 G2 v hv
open Classical in
def Yk (h:Addr->Addr->Res (Fl×Me))(m:Me):Res (Fl×Me):=
 if H:∃p:Bool×D,∀a1 a2:Addr,a1≠a2->∃m',h a1 a2=.ok (.rt p.1 p.2,m')/\m'.length=m.length then .ok (.rt (mf H).1 (mf H).2,m.map λ_=>.un) else .stuck
theorem Zf (H:∀a1 a2:Addr,a1≠a2->∃m',h a1 a2=.ok (.rt fr d,m')/\m'.length=m.length):Yk h m=.ok (.rt fr d,m.map λ_=>.un):=by
 have Hx:∃p:Bool×D,∀a1 a2:Addr,a1≠a2->∃m',h a1 a2=.ok (.rt p.1 p.2,m')/\m'.length=m.length:=⟨(fr,d),H⟩;have e:=fy Hx;obtain⟨m1,e1,_⟩:=e 0 1 (by decide);obtain⟨m2,e2,_⟩:=H 0 1 (by decide);rw[e1] at e2;unfold Yk;rw[dif_pos Hx];injection e2 with e2
 injection e2 with e2 _
 injection e2 with e3 e4
 rw[e3,e4]
section
theorem cT.forget (R:cT G O0 M0 H0 ow σ H m){m':Me}(hl:m'.length=m.length):cT G O0 M0 H0 (λ_=>none) σ H (m'.map λ_=>Sl.un)/\Go O0 ow H (λ_=>none) H:=by
 refine⟨⟨⟨by rw[bp,hl];exact R.len,R.keep,R.m0,λb z=>R.mutk b (z.elim .inl λ⟨_,e⟩=>by cases e),λi a e=>(by cases e),λi j a e _=>(by cases e),λi _=>rfl,λi s e=>?_⟩,λj d e=>?_⟩,λb o e _=>e,λi a e=>(by cases e),λ_ n=>n⟩
 ·rw[bX] at e;cases q:m'[i]? with
  |none=>rw[q] at e;cases e
  |some s0=>rw[q] at e;cases e;rfl
 ·rw[bX] at e;cases q:m'[j]? with
  |none=>rw[q] at e;cases e
  |some s0=>rw[q] at e;cases e
noncomputable def zu (ow:Os)(i j1 j2:Nat)(a a1 a2:Addr):Os:=λk=>if k=i then some a else if k=j1 then some a1 else if k=j2 then some a2 else ow k
theorem cT.afi (R:cT G O0 M0 H0 ow σ H m)(g:aM H H')(n:H p=none)(n1:H p1=none)(n2:H p2=none)(np1:p≠p1)(np2:p≠p2)(np3:p1≠p2)(hi:i<m.length)(h1:j1<m.length)(h2:j2<m.length)(ij1:i≠j1)(ij2:i≠j2)(jj:j1≠j2)
  (o:OV G (λb=>Ow O0 ow b\/b=p\/b=p1\/b=p2) H' p d) (o1:OV G (λb=>Ow O0 ow b\/b=p\/b=p1\/b=p2) H' p1 d1) (o2:OV G (λb=>Ow O0 ow b\/b=p\/b=p1\/b=p2) H' p2 d2):
  cT G O0 M0 H0 (zu ow i j1 j2 p p1 p2) (σ.set i<|some<|.ref p) H' (((m.set i<|.ow d).set j1<|.hd true p1 d1).set j2<|.hd true p2 d2)/\Go O0 ow H (zu ow i j1 j2 p p1 p2) H':=by
 have q0:=R.toRel.Kz n;have q1:=R.toRel.Kz n1;have q2:=R.toRel.Kz n2;have inv:∀k b,zu ow i j1 j2 p p1 p2 k=some b->(k=i/\b=p)\/(k=j1/\b=p1)\/(k=j2/\b=p2)\/(k≠i/\k≠j1/\k≠j2/\ow k=some b):=λk b e=>by
  unfold zu at e;split at e
  ·rename_i q;cases e;exact .inl ⟨q,rfl⟩
  ·split at e
   ·rename_i q;cases e;exact .inr<|.inl ⟨q,rfl⟩
   ·split at e
    ·rename_i q;cases e;exact .inr<|.inr<|.inl ⟨q,rfl⟩
    ·rename_i a b c;exact .inr<|.inr<|.inr ⟨a,b,c,e⟩
 have out:∀b,Ow O0 (zu ow i j1 j2 p p1 p2) b->Ow O0 ow b\/b=p\/b=p1\/b=p2:=λb z=>by
  rcases z with z|⟨k,e⟩
  ·exact .inl<|.inl z
  ·rcases inv k b e with⟨_,z⟩|⟨_,z⟩|⟨_,z⟩|⟨_,_,_,z⟩
   ·exact .inr<|.inl z
   ·exact .inr<|.inr<|.inl z
   ·exact .inr<|.inr<|.inr z
   ·exact .inl<|.inr ⟨k,z⟩
 have sub:∀b,Ow O0 (zu ow i j1 j2 p p1 p2) b->Ow O0 ow b\/H b=none:=λb z=>by
  rcases out b z with z|z|z|z
  ·exact .inl z
  ·rw[z];exact .inr n
  ·rw[z];exact .inr n1
  ·rw[z];exact .inr n2
 have R':=R.mono g;have e0:zu ow i j1 j2 p p1 p2 i=some p:=if_pos rfl;have e1:zu ow i j1 j2 p p1 p2 j1=some p1:=by unfold zu;rw[if_neg<|eS ij1,if_pos rfl]
 have e2:zu ow i j1 j2 p p1 p2 j2=some p2:=by unfold zu;rw[if_neg<|eS ij2,if_neg<|eS jj,if_pos rfl]
 have en:∀k,k≠i->k≠j1->k≠j2->zu ow i j1 j2 p p1 p2 k=ow k:=λk a b c=>by unfold zu;rw[if_neg a,if_neg b,if_neg c]
 have ex:∀c,(((m.set i<|.ow d).set j1<|.hd true p1 d1).set j2<|.hd true p2 d2)[c]? = if c=j2 then some (.hd true p2 d2) else if c=j1 then some (.hd true p1 d1) else if c=i then some (.ow d) else m[c]?:=λc=>by
  by_cases c2:c=j2
  ·subst c2;rw[if_pos rfl,bo<|by simpa using h2]
  ·rw[if_neg c2,br<|eS c2];by_cases c1:c=j1
   ·subst c1;rw[if_pos rfl,bo<|by simpa using h1]
   ·rw[if_neg c1,br<|eS c1];by_cases c0:c=i
    ·subst c0;rw[if_pos rfl,bo hi]
    ·rw[if_neg c0,br<|eS c0]
 refine⟨⟨⟨by simp[R.len],R'.keep,R'.m0,λb z=>?_,λk a e=>?_,λk l a a1 a2=>?_,λk hk=>?_,λk s e=>?_⟩,λk dd e=>?_⟩,.of g,λk a e=>?_,(Go.refl (O0:=O0) (ow:=ow) g).dom⟩
 ·rcases out b z with z|z|z|z
  ·exact R'.mutk b z
  ·rw[z];exact o.mut
  ·rw[z];exact o1.mut
  ·rw[z];exact o2.mut
 ·rcases inv k a e with⟨_,z⟩|⟨_,z⟩|⟨_,z⟩|⟨_,_,_,z⟩
  ·rw[z];exact λw=>q0<|.inl w
  ·rw[z];exact λw=>q1<|.inl w
  ·rw[z];exact λw=>q2<|.inl w
  ·exact R.no0 k a z
 ·rcases inv k a a1 with⟨u,z⟩|⟨u,z⟩|⟨u,z⟩|⟨_,_,_,z⟩<;>rcases inv l a a2 with⟨v,y⟩|⟨v,y⟩|⟨v,y⟩|⟨_,_,_,y⟩
  ·rw[u,v]
  ·exact absurd (z.symm.trans y) np1
  ·exact absurd (z.symm.trans y) np2
  ·exact absurd (.inr ⟨l,z▸y⟩) q0
  ·exact absurd (y.symm.trans z) np1
  ·rw[u,v]
  ·exact absurd (z.symm.trans y) np3
  ·exact absurd (.inr ⟨l,z▸y⟩) q1
  ·exact absurd (y.symm.trans z) np2
  ·exact absurd (y.symm.trans z) np3
  ·rw[u,v]
  ·exact absurd (.inr ⟨l,z▸y⟩) q2
  ·exact absurd (.inr ⟨k,y▸z⟩) q0
  ·exact absurd (.inr ⟨k,y▸z⟩) q1
  ·exact absurd (.inr ⟨k,y▸z⟩) q2
  ·exact R.inj k l a z y
 ·have hk':m.length<=k:=by simpa using hk
  rw[en k (by lia) (by lia)<|by lia];exact R.out k hk'
 ·rw[ex] at e;by_cases c2:k=j2
  ·rw[if_pos c2] at e;cases e;rw[c2];exact⟨e2,λ_=>R.toRel.JW n2,(λz=>by cases z),o2.bV λb z=>.inl<|out b z⟩
  ·rw[if_neg c2] at e;by_cases c1:k=j1
   ·rw[if_pos c1] at e;cases e;rw[c1];exact⟨e1,λ_=>R.toRel.JW n1,(λz=>by cases z),o1.bV λb z=>.inl<|out b z⟩
   ·rw[if_neg c1] at e;by_cases c0:k=i
    ·rw[if_pos c0] at e;cases e;rw[c0];exact⟨p,e0,R.toRel.JW n,by rw[bo (by rw[R.len];exact hi)],o.bV λb z=>.inl<|out b z⟩
    ·rw[if_neg c0] at e;rw[en k c0 c1 c2,br<|eS c0];exact((R.slot k s e).bV sub λ_ _ b _=>tf _).mono g
 ·rw[ex] at e;split at e
  ·cases e
  ·split at e
   ·cases e
   ·split at e
    ·cases e
    ·exact R.nb k dd e
 ·rcases inv k a e with⟨_,z⟩|⟨_,z⟩|⟨_,z⟩|⟨_,_,_,z⟩
  ·rw[z];exact .inr n
  ·rw[z];exact .inr n1
  ·rw[z];exact .inr n2
  ·exact .inl<|.inr ⟨k,z⟩
end
def aaJ (i j1 j2:Nat)(fs1:List ((Zae)×(Zae)))(k1 f1 k2 f2:Zae)(fs2:List ((Zae)×(Zae)))(k:Zab):Zab:=λm=>
 (Gz fs1 m).bind λl1=>(k1 m).bind λc1=>(f1 m).bind λd1=>(k2 m).bind λc2=>(f2 m).bind λd2=>(Gz fs2 m).bind λl2=>
  if l1.length+2+l2.length<=15/\i<m.length/\j1<m.length/\j2<m.length then
   Yk (λa1 a2=>(ofO<|K9 [] [] (l1++(c1,.adr a1)::(c2,.adr a2)::l2)).bind λr=>k<|((m.set i<|.ow<|.dct r.1 r.2).set j1<|.hd true a1 d1).set j2<|.hd true a2 d2) m
  else .stuck
theorem DPs.app:∀{ps qs:List (V×V)} {l r:List (D×D)},DPs G O H ps l->DPs G O H qs r->DPs G O H (ps++qs) (l++r)
 |_,_,_,_,.nil,h=>h
 |_,_,_,_,.cons a b t,h=>.cons a b<|DPs.app t h
section
variable {X:Cx}{E:XK}
theorem Cq (rest:List (TE×TE)):∀(fs:List ((Zae)×(Zae))) {H:Hp} {K:List (D×D)->Prop} {Q:List (V×V)->Hp->Prop},aM Hb H->Rel (gx X) O0 M0 H0 ow σ H m->Pu (gx X) E (Gz fs m) Hb K->
  (∀l ps H',K l->aM H H'->DPs (gx X) (Ow O0 ow) H' ps l->Du rest σ H' λqs H2=>Q (ps++qs) H2)->Du (Vk X E fs++rest) σ H Q
 |[],H,K,Q,_,R,q,f=>f [] [] H q (aM.refl _) .nil
 |g::r,H,K,Q,gb,R,q,f=>by
  refine⟨O0,M0,H0,ow,m,R,q.bind.imp gb λkd q x H1 g1 hx=>⟨O0,M0,H0,ow,m,R.mono g1,q.bind.imp (gb.trans g1) λd q y H2 g2 hy=>?_⟩⟩;refine Cq rest r ((gb.trans g1).trans g2) ((R.mono g1).mono g2) q.bind λl ps H3 k g3 hl=>?_;exact f _ ((x,y)::ps) _ k ((g1.trans g2).trans g3)<|.cons ((hx.mono g2).mono g3) (hy.mono g3) hl
theorem WN {i j1 j2:Nat}{y:Str}{py pos dpos:Pos}{keys:List (Option Expr)}{values:List Expr}{rest:List Stmt}{fs1 fs2:List ((Zae)×(Zae))}{k1 f1 k2 f2:Zae}{k:Zab}
  (hN:X.N.Nodup) (hi:X.N[i]? = some y) (hy:Loc X.env.scope y)
  (h:PPs X dpos keys values (Vk X E fs1++(tE (gx X) E k1,tN (gx X) E f1)::(tE (gx X) E k2,tN (gx X) E f2)::(Vk X E fs2++[]))) (hr:FSs X E rest k)
  (hall:keys.all (·.isSome)=true:=by rfl) (hl:keys.length=values.length:=by rfl) (h0:keys≠[]:=by exact(λz=>nomatch z)) (h15:keys.length<=15:=by decide) (ij1:i≠j1:=by decide) (ij2:i≠j2:=by decide) (jj:j1≠j2:=by decide)
  (hs:gN (.Dict keys values dpos) (some<|.Name y py) pos.line X.env=pure false:=by rfl)
  (hf:X.fn y=true\/X.env.scope.names.lookup y=some .local:=by first|exact .inl rfl|exact .inr rfl|assumption):
  FSs X E (.Assign [.Name y py] (.Dict keys values dpos) pos::rest) (aaJ i j1 j2 fs1 k1 f1 k2 f2 fs2 k):=by
 refine yg (KZ (Dk hN hi hy (XN h hall hl h0 h15) hs hf) hr) λW σ H hE=>xq5 hE λO0 M0 H0 ow m R q=>?_;intro p hp;have g0:aM H (upd H p<|.dK []):=bL hp _;have R1:=R.toRel.more g0 hp (by rw[aV];exact .inr<|.inl ⟨[],rfl⟩);have ow_of:∀{O1:Zaa} {b:Addr} {l:Addr},Ow (Op O1 l) ow b->Ow O1 ow b\/b=l:=λz=>Wi z;refine Cq _ fs1 g0 R1 (Ss.pu R.toRel q) λl1 ps1 H2 q g2 hl1=>?_;have R2:=R1.mono g2;have hq:=Ss.pu R.toRel q;refine⟨_,_,_,_,_,R2,hq.imp (g0.trans g2) λc1 q x1 H3 g3 hx1=>?_⟩;have R3:=R2.mono g3;have hq:=Ss.pu R.toRel q;refine⟨_,_,_,_,_,R3,hq.imp ((g0.trans g2).trans g3) λd1 q p1 H4 g4 n1 ov1=>?_⟩;have R4:=R3.more g4 n1 ov1.mut;have hq:=Ss.pu R.toRel q;refine⟨_,_,_,_,_,R4,hq.imp (((g0.trans g2).trans g3).trans g4) λc2 q x2 H5 g5 hx2=>?_⟩;have R5:=R4.mono g5;have hq:=Ss.pu R.toRel q;refine⟨_,_,_,_,_,R5,hq.imp ((((g0.trans g2).trans g3).trans g4).trans g5) λd2 q p2 H6 g6 n2 ov2=>?_⟩;have R6:=R5.more g6 n2 ov2.mut;have hq:=Ss.pu R.toRel q;refine Cq [] fs2 (((((g0.trans g2).trans g3).trans g4).trans g5).trans g6) R6 hq λl2 ps2 H7 q g7 hl2=>?_;have R7:=R6.mono g7;by_cases hc:l1.length+2+l2.length<=15/\i<m.length/\j1<m.length/\j2<m.length
 case neg=>rw[if_neg hc] at q;exact q.elim
 rw[if_pos hc] at q;obtain⟨ν,li,lj1,lj2⟩:=hc;unfold Yk at q;split at q
 case isFalse=>exact q.elim
 rename_i HU;have sp:=fy HU;generalize hfd:mf HU=fd at sp q;obtain⟨fr,dd⟩:=fd;have gA:aM H H7:=((((((g0.trans g2).trans g3).trans g4).trans g5).trans g6).trans g7);have np1:p≠p1:=λz=>by
  have:H3 p=some (.dK []):=g3 _ _<|g2 _ _ aV
  rw[z,n1] at this;cases this
 have np2:p≠p2:=λz=>by
  have:H5 p=some (.dK []):=g5 _ _<|g4 _ _<|g3 _ _<|g2 _ _ aV
  rw[z,n2] at this;cases this
 have np3:p1≠p2:=λz=>by
  have m1:=ov1.mut
  have:H5 p1≠none:=λw=>by
   have w4:H4 p1=none:=g5.free w;rw[w4] at m1;rcases m1 with⟨_,e⟩|⟨_,e⟩|⟨_,e⟩|⟨_,e⟩<;>cases e
  exact this<|z▸n2
 have hp1:H p1=none:=(g0.trans<|g2.trans g3).free n1;have hp2:H p2=none:=(g0.trans<|g2.trans<|g3.trans<|g4.trans g5).free n2;obtain⟨m',eq,hlm⟩:=sp p1 p2 np3;have eq:((ofO<|K9 [] [] (l1++(c1,.adr p1)::(c2,.adr p2)::l2)).bind λr=>k<|((m.set i<|.ow<|.dct r.1 r.2).set j1<|.hd true p1 d1).set j2<|.hd true p2 d2)=.ok (.rt fr dd,m'):=eq;cases em:K9 [] [] (l1++(c1,.adr p1)::(c2,.adr p2)::l2) with
 |none=>rw[em] at eq;cases eq
 |some r=>
  rw[em] at eq;simp only[qT,Res.uJ] at eq
  let OO:Zaa:=λb=>Ow O0 ow b\/b=p\/b=p1\/b=p2
  have toOO:∀b,OO b->Ow (Op (Op (Op O0 p) p1) p2) ow b:=λb z=>by
   rcases z with(z|z)|z|z|z
   ·exact .inl<|.inl<|.inl<|.inl z
   ·exact .inr z
   ·exact .inl<|.inl<|.inl<|.inr z
   ·exact .inl<|.inl<|.inr z
   ·exact .inl<|.inr z
  have fromOO:∀b,Ow (Op (Op (Op O0 p) p1) p2) ow b->OO b:=λb z=>by
   rcases z with(((z|z)|z)|z)|z
   ·exact .inl<|.inl z
   ·exact .inr<|.inl z
   ·exact .inr<|.inr<|.inl z
   ·exact .inr<|.inr<|.inr z
   ·exact .inl<|.inr z
  have a1:DPs (gx X) OO H7 ps1 l1:=(hl1.bV (O':=OO) (λb z=>by
   rcases z with z|z|z|z
   ·exact .inl<|z.elim (λw=>.inl<|.inl w) .inr
   ·exact .inl<|.inl<|.inr z
   ·exact .inr (by rw[z];exact g3.free n1)
   ·exact .inr (by rw[z];exact(g3.trans<|g4.trans g5).free n2))).mono (g3.trans<|g4.trans<|g5.trans<|g6.trans g7)
  have a2:DV (gx X) OO H7 x1 c1:=(hx1.bV (O':=OO) (λb z=>by
   rcases z with z|z|z|z
   ·exact .inl<|z.elim (λw=>.inl<|.inl w) .inr
   ·exact .inl<|.inl<|.inr z
   ·exact .inr (by rw[z];exact n1)
   ·exact .inr (by rw[z];exact(g4.trans g5).free n2))).mono (g4.trans<|g5.trans<|g6.trans g7)
  have a3:DV (gx X) OO H7 x2 c2:=(hx2.bV (O':=OO) (λb z=>by
   rcases z with z|z|z|z
   ·exact .inl<|z.elim (λw=>.inl<|.inl<|.inl w) .inr
   ·exact .inl<|.inl<|.inl<|.inr z
   ·exact .inl<|.inl<|.inr z
   ·exact .inr (by rw[z];exact n2))).mono (g6.trans g7)
  have a4:DPs (gx X) OO H7 ps2 l2:=hl2.bV λb z=>.inl<|toOO b z;have dps:DPs (gx X) OO H7 (ps1++(x1,.ref p1)::(x2,.ref p2)::ps2) (l1++(c1,.adr p1)::(c2,.adr p2)::l2):=a1.app<|.cons a2 (.adr p1)<|.cons a3 (.adr p2) a4;obtain⟨ι,e1,e2,e3⟩:=WY (acc:=[]) dps em rfl .nil;have len:=dps.len;rw[e1,bp] at len;have len2:ι.length<=15:=by simp at len;lia
  have e7:H7 p=some (.dK []):=g7 _ _<|g6 _ _<|g5 _ _<|g4 _ _<|g3 _ _<|g2 _ _ aV;refine⟨e7,ι,by rw[eR] at *;exact e1,len2,?_⟩;have mOO:∀b,OO b->fM (H7 b):=λb z=>R7.mutk b<|toOO b z;have kp:Kp OO H7 (upd H7 p<|.dK<|m8 [] ι):=λc o e n=>by rw[bu λz=>n<|.inr<|.inl z];exact e
  have gB:aM H (upd H7 p<|.dK<|m8 [] ι):=λc o e=>by
   rw[bu (λz=>by rw[z,hp] at e;cases e)];exact gA _ _ e
  have b1:OV (gx X) OO (upd H7 p<|.dK<|m8 [] ι) p (.dct r.1 r.2):=⟨_,_,aV,e2,rfl,e3.kp mOO kp⟩;have b2:OV (gx X) OO (upd H7 p<|.dK<|m8 [] ι) p1 d1:=by
   refine OV.kp mOO kp (bu<|eS np1) ?_;refine(ov1.bV (O':=OO) λb z=>?_).mono (g5.trans<|g6.trans g7);rcases z with z|z|z|z
   ·exact .inl<|.inl<|z.elim (λw=>.inl<|.inl w) .inr
   ·exact .inl<|.inl<|.inl<|.inr z
   ·exact .inl<|.inr z
   ·exact .inr (by rw[z];exact g5.free n2)
  have b3:OV (gx X) OO (upd H7 p<|.dK<|m8 [] ι) p2 d2:=by
   refine OV.kp mOO kp (bu<|eS np2) ?_;refine(ov2.mono g7).bV (O':=OO) λb z=>.inl ?_;rcases z with z|z|z|z
   ·exact .inl<|z.elim (λw=>.inl<|.inl<|.inl w) .inr
   ·exact .inl<|.inl<|.inl<|.inr z
   ·exact .inl<|.inl<|.inr z
   ·exact .inr z
  obtain⟨R8,g8⟩:=R.afi gB hp hp1 hp2 np1 np2 np3 li lj1 lj2 ij1 ij2 jj b1 b2 b3;refine⟨O0,M0,H0,_,_,R8,?_⟩;rw[eq];intro v ow' σ' H' R9 g9 hv hfr;obtain⟨R10,g10⟩:=R9.forget (m':=m) hlm.symm;refine q v _ σ' H' R10 ((g8.trans g9).trans g10) (hv.bV λb z=>.inl<|z.elim .inl λ⟨_,e⟩=>by cases e) λz=>?_;rcases hfr z with⟨p0,u1,u2,u3⟩|t
  ·exact .inl ⟨p0,u1,u2,u3.bV λb z=>.inl<|z.elim (λw=>.inl<|w.elim .inl λ⟨_,e⟩=>by cases e) .inr⟩
  ·exact .inr t
end
section
def qM (i:Nat)(f:Me->Res (D×Me)):Zab:=λm=>(ofO<|j9 m i).bind λ_=>(f m).bind λp=>(ofO<|j9 p.2 i).bind λo=>if o.2.length<aw then .ok (.nx,putL p.2 i o.1<|o.2++[p.1]) else .stuck
theorem BJ (i:Nat)(he:FX X E e fa)(hN:X.N[i]? = some x:=by rfl)(hv:Vis X.env.scope x:=by first|exact iP rfl|exact gX (iP rfl)|exact gX (gX rfl))(hd:(x==("__debug__":Str))=false:=by decide)(hcd:(x==("__classdict__":Str))=false:=by decide)
  (ψ:gE (.Name x np) "append" X.env (eval (.Name x np) X.env)=eval (.Name x np) X.env:=by rfl)
  (ξ:((ki η<|ax [e] X.env).all (λx=>!x.1)&&(wx η<|nV [] X.env).all (λx=>x.1.isSome)&&decide ([e].length+([]:List nX).length+(if([]:List nX).isEmpty then 0 else 1)<30))=true:=by rfl)
  (θ:(apos.endLine==η.line)=true:=by rfl) (hs:ax [e] X.env=(false,eval e X.env)::ax [] X.env:=by rfl) (hplain:(ki η<|ax [] X.env).any (·.1)=false:=by rfl)
  (υ:gN (.Call (.Attribute (.Name x np) "append" apos) [e] [] η) none pos.line X.env=pure false:=by rfl):
  FS X E (.Expr (.Call (.Attribute (.Name x np) "append" apos) [e] [] η) pos) (qM i fa):=
 cL (uN (Oq jS uu uS yH (jk hN hv hd hcd) (jf he rA hs) ψ ξ θ hs hplain) υ) λW σ H hE=>xq5 hE λO0 M0 H0 ow m R q=>by
  obtain⟨o,ho,q⟩:=Ss.ofO q;obtain⟨k,ds⟩:=o;refine vG (sG R.toRel ho) λa xs e1 e2 e3 e4 e5=>?_;refine⟨_,e2,.inl ⟨rfl,xs,SqL.of e3⟩,O0,M0,H0,ow,m,R,(Xs.ss (k:=λd m'=>(ofO<|j9 m' i).bind λo=>if o.2.length<aw then .ok (.nx,putL m' i o.1<|o.2++[d]) else .stuck) q).imp (Go.refl<|aM.refl _) λd H1 m1 R1 g1 em q v hv=>?_⟩;have q:=q m1 em R1;obtain⟨o,ho,q⟩:=Ss.ofO q;obtain⟨k',ds'⟩:=o;refine vG (sG R1.toRel ho) λa' xs' f1 f2 f3 f4 f5=>?_;rw[e1] at f1;cases f1;by_cases hz:ds'.length<aw
  ·have q:Ss (gx X) E O0 M0 H0 ow H1 W (if ds'.length<aw then .ok (.nx,putL m1 i k'<|ds'++[d]) else .stuck):=q;rw[if_pos hz] at q;obtain⟨R2,g2⟩:=R1.put (es:=ds'++[d]) (ys:=xs'++[v]) e1 f5<|jX f4<|.cons hv .nil;exact⟨a,xs',v,rfl,rfl,f3,by rw[bR f4];exact hz,q _ _ _ R2 g2⟩
  ·have q:Ss (gx X) E O0 M0 H0 ow H1 W (if ds'.length<aw then .ok (.nx,putL m1 i k'<|ds'++[d]) else .stuck):=q;rw[if_neg hz] at q;exact q.elim
noncomputable def v7 (f:Me->Res (D×Me)):Zab:=λm=>(f m).bind λp=>.ok (.rt false p.1,p.2)
theorem J4 (he:FX X E e fa):FS X E (.Return (some e) pos) (v7 fa):=cL (Dd he) λW σ H hE=>xq5 hE λO0 M0 H0 ow m R q=>by
 refine⟨O0,M0,H0,ow,m,R,(Xs.ss (k:=λd m'=>.ok (.rt false d,m')) q).imp (Go.refl<|aM.refl _) λd H1 m1 R1 g1 e1 q v hv=>?_⟩;exact q m1 e1 R1 v ow σ H1 R1 (Go.refl<|aM.refl _) hv λz=>by cases z
end
end F
namespace L2
open PySem PySem.Spec PyProof.Rows
def Itd (hi:Int)(n:Nat):It:=⟨λi _=>i<n,λi H x H'=>H'=H/\x=.int (hi-i),λi _=>n<=i⟩
theorem Th {P:cy}{w:fI}{K:PySem.W.Frag}{tg:Expr}(it:Addr)(hi:Int)(n:Nat):Turn P w K tg (Itd hi n) [it] it (λi h=>As h it (hi+(i:Nat)*(-1)) ((n:Int)-(i:Nat)) (-1)) where
 mem:=by simp
 obj:=λi h st b hb=>by
  have e:b=it:=by simpa using hb
  subst e;exact⟨_,st,λv z=>by
   have z':BA _=Data.cell v:=z;cases z'⟩
 keep:=λi h h' st k=>k it (by simp) _ st
 item:=by
  intro X hP hw hK hc i π s σ H E I hf st hg;subst hP hw hK;refine lZ (hf it<|by simp) λf0 f1 f2 f3 f4 f5=>?_;have W:=Walks.range (prog:=X.prog) (w:=X.w) (I.ok.hd hc) it hi (-1) n;refine W.item i s _ _ hg st λv h' tk hv st' kk=>?_;obtain⟨t,rfl⟩:=hv;have I1:Inv X π σ H { s with heap:=h',toks:=tk }:=I.turned (λb o hb e=>kk b o (by simpa using hb) e) f0 f1 f3 f4 f5;refine⟨_,rfl,Gp (s:={ s with heap:=h',toks:=tk }) (n:="range_iterator") st' rfl rfl (by decide) ⟨.int<|hi-i,H,I1,⟨t,?_⟩,⟨rfl,rfl⟩,st',λb hb=>(hf b hb).1⟩⟩;rw[show hi+(i:Int)*(-1)=hi-i by lia]
 done:=by
  intro X hP hw hK hc i π s σ H E I hf st hg;subst hP hw hK;refine lZ (hf it<|by simp) λf0 f1 f2 f3 f4 f5=>?_;exact wpAny_pyNext_range_end (I.ok.hd hc) st (by have:n<=i:=hg;lia) λh' eb=>⟨rfl,I.turned (t':=s.toks) (λb o hb e=>eb b o hb e) f0 f1 f3 f4 f5⟩
 self:=λ_ _ _ _ _ st h=>wpAny_pyIter_rangeiter st h
theorem Fq (a b:Int):l6 a b (-1)=((a-b).toNat:Int):=by
 unfold l6;rw[if_neg<|by decide];split
 ·rw[show -(-1:Int)=1 by decide,Int.ediv_one];lia
 ·lia
theorem small_down (ha:-1000000000<=a)(ha':a<=1000000000)(hb:-1000000000<=b)(hb':b<=1000000000):AH a b (-1)=true:=by
 unfold AH;rw[Fq];simp only[Builtin.Range.rangeFitsLong,qB,Bool.or_eq_true,decide_eq_true_eq,beq_iff_eq,show ¬(-1:Int)>0 by decide,if_false]
 lia
section
variable {X:Cx}{tg:Expr}
theorem Um {π:Zl}{σ:St}{H:Hp}{s:bq}{R:It->Hp->Prop}{E:Zs}{hi lo:Int}{t u v:Tok}{tk:Nat}(I:Inv X π σ H s)(h1:-1000000000<=hi)(h2:hi<=1000000000)(h3:-1000000000<=lo)(h4:lo<=1000000000)
  (q:R (Itd hi (hi-lo).toNat) H):bt (dr X.prog X.w) X.A (BH<|.ref s.heap.objs.size) (PIE X π σ tg R) E { s with heap:=s.heap.push { cls:=.type "range",data:=.fields #[.int hi t,.int lo u,.int (-1) v] },toks:=tk }:=by
 refine wpAny_pyIter_range (IsRange.new ..) (small_down h1 h2 h3 h4) ?_;have I1:Inv X π σ H { s with heap:=s.heap.push { cls:=.type "range",data:=.fields #[.int hi t,.int lo u,.int (-1) v] },toks:=tk }:=I.kept λb o e=>ai _ e;refine⟨(s.heap.push { cls:=.type "range",data:=.fields #[.int hi t,.int lo u,.int (-1) v] }).objs.size,[(s.heap.push { cls:=.type "range",data:=.fields #[.int hi t,.int lo u,.int (-1) v] }).objs.size],_,_,H,rfl,
  I1.kept (t':=tk) λb o e=>ai _ e,Th _ hi (hi-lo).toNat,?_,λb hb=>?_,q⟩
 ·have e1:hi+((0:Nat):Int)*(-1)=hi:=by simp
  have e2:(((hi-lo).toNat:Nat):Int)-((0:Nat):Int)=l6 hi lo (-1):=by rw[Fq];lia
  show As _ _ (hi+((0:Nat):Int)*(-1)) ((((hi-lo).toNat:Nat):Int)-((0:Nat):Int)) (-1);rw[e1,e2];exact aE _ rfl
 ·have e:b=(s.heap.push { cls:=.type "range",data:=.fields #[.int hi t,.int lo u,.int (-1) v] }).objs.size:=by simpa using hb
  subst e;exact I1.KD (ay _)<|I1.hok.fresh<|ay _
def adP (ta:TA):TI:=λσ H R=>ta σ H λvs H1=>∃i j:Int,vs=[.int i,.int j,.int (-1)]/\(-1000000000<=i/\i<=1000000000/\-1000000000<=j/\j<=1000000000)/\R (Itd i (i-j).toNat) H1
theorem S6 (hg:Gl X "range")(hm:X.mg "range" = none)(ha:PA X [a,b,c] ta)(hs:ax [a,b,c] X.env=[(false,eval a X.env),(false,eval b X.env),(false,eval c X.env)]:=by rfl)(hs2:ax [b,c] X.env=[(false,eval b X.env),(false,eval c X.env)]:=by rfl):
  PI X tg (.Call (.Name "range" p) [a,b,c] [] pos) (adP ta):=by
 intro π s σ H R I h;refine Call_<|oK I hg hm boot_range<|dE (thn (ha pos π s σ H _ I h) λus s1 hE=>xq2 hE λvs H1 I1 r1 q1=>?_) (by rw[hs,hs2]) (by rw[hs2];rfl);obtain⟨i,j,e,⟨q1,q2,q3,q4⟩,q⟩:=q1;subst e;cases r1 with
 |cons r rr=>
  cases rr with
  |cons r' rr=>
   cases rr with
   |cons r'' rr=>
    cases rr;obtain⟨t,rfl⟩:=r;obtain⟨t',rfl⟩:=r';obtain⟨t'',rfl⟩:=r'';exact call_range_3 (by decide) (Um (tk:=s1.toks) I1 q1 q2 q3 q4 q)<|iP<|PyProof.noPylong_small<|by lia
end
end L2
namespace F
open PySem PySem.Spec PyProof.Rows L2 Hd
noncomputable def Yc (f:Zad):Zad:=λm=>(f m).bind λd=>match d with
 |[.int i,.int j,.int (-1)]=>if -1000000000<=i/\i<=1000000000/\-1000000000<=j/\j<=1000000000 then .ok ((cf (i-j).toNat).map λ(k:Nat)=>D.int<|i-k) else .stuck
 |_=>.stuck
theorem Yn:zf G (Itd hi n) ((cf n).map λ(k:Nat)=>D.int<|hi-k) P:=by
 intro O H _;refine⟨λi hi=>(show i<n by simpa using hi),λi x H' hi y=>?_,by show n<=_;simp⟩;obtain⟨e,y⟩:=y;subst e y;have hi':i<n:=by simpa using hi
 exact⟨aM.refl _,_,by simp[bX,AD hi'],.int _⟩
section
variable {X:Cx}{E:XK}{tg e a b c:Expr}{f:Zae}{fs:Zad}{fa:Me->Res (D×Me)}{p pos:Pos}
theorem YJ (hg:Gl X "range")(hm:X.mg "range" = none)(ha:FAB X E [a,b,c] fs)(hs:ax [a,b,c] X.env=[(false,eval a X.env),(false,eval b X.env),(false,eval c X.env)]:=by rfl)(hs2:ax [b,c] X.env=[(false,eval b X.env),(false,eval c X.env)]:=by rfl):FI X E tg (.Call (.Name "range" p) [a,b,c] [] pos) (Yc fs):=
 jU (S6 hg hm ha hs hs2) λσ H R hE=>xq5 hE λO0 M0 H0 ow m Re q=>⟨O0,M0,H0,ow,m,Re,q.bind.imp (aM.refl _) λds q vs H' g hv=>by
  split at q
  ·cases hv with
   |cons h1 t=>cases t with
    |cons h2 t=>cases t with
     |cons h3 t=>
      cases t;cases cH h1;cases cH h2;cases cH h3;obtain⟨⟨z1,z2,z3,z4⟩,k⟩:=CN q;exact⟨_,_,rfl,⟨z1,z2,z3,z4⟩,k _ H' g Yn⟩
  ·exact q.elim⟩
def Wu:Zab:=λ_=>.stuck
theorem Tj {st:Stmt}:FS X E st Wu:=λ_ _ _ _ _ _ ⟨_,_,_,_,_,_,z⟩=>z.elim
noncomputable def Jz (f:Me->Res (D×Me))(h:Zba):Zab:=λm=>(f m).bind λp=>(ofO<|h p.1 p.2).bind λm'=>.ok (.nx,m')
theorem Z1 (he:FX X E e fa)(hg:FG X k tg h)(hs:oI [tg] e pos.line X.env=pure false:=by rfl)(hw:oP [tg] e X.env=pure none:=by rfl)
  (h1:(kq [tg] X.env).map (·.2)=[tw tg X.env]:=by rfl):FS X E (.Assign [tg] e pos) (Jz fa h):=cL (My he hg hs hw h1) λW σ H hE=>xq5 hE λO0 M0 H0 ow m R q=>by
 refine⟨O0,M0,H0,ow,m,R,(Xs.ss (k:=λd m'=>(ofO<|h d m').bind λm'=>.ok (.nx,m')) q).imp (Go.refl<|aM.refl _) λd H1 m1 R1 g1 e1 q v hv=>?_⟩;obtain⟨m',e,q⟩:=Ss.ofO<|q m1 e1 R1;exact⟨O0,M0,H0,ow,m1,d,m',R1.toRel,hv,e,λow' σ' R' g2 nb _=>q _ _ _ ⟨R',nb R1.nb⟩ g2⟩
def Ku (i:Nat):Me->Res (D×Me):=λm=>(ofO<|j9 m i).bind λo=>(ofO<|o.2[o.2.length-1]?).bind λd=>.ok (d,putL m i o.1 o.2.dropLast)
theorem abt (i:Nat)(hN:X.N[i]? = some x:=by rfl)(hv:Vis X.env.scope x:=by first|exact iP rfl|exact gX (iP rfl)|exact gX (gX rfl))(hd:(x==("__debug__":Str))=false:=by decide)(hcd:(x==("__classdict__":Str))=false:=by decide)
  (ψ:gE (.Name x np) "pop" X.env (eval (.Name x np) X.env)=eval (.Name x np) X.env:=by rfl) (θ:(apos.endLine==η.line)=true:=by rfl):
  FX X E (.Call (.Attribute (.Name x np) "pop" apos) [] [] η) (Ku i):=
 bI (BZ jS yy yA Vy (jk hN hv hd hcd) ψ θ) λσ H Q hE=>xq5 hE λO0 M0 H0 ow m R q=>by
  obtain⟨o,ho,q⟩:=(Xs.pu R.toRel q).ofO;obtain⟨k,ds⟩:=o;obtain⟨d,hd',q⟩:=(Xs.pu R.toRel q).ofO;refine vG (sG R.toRel ho) λa xs e1 e2 e3 e4 e5=>?_;obtain⟨v,hv,dv⟩:=vY e4 hd';obtain⟨R2,g2⟩:=R.put (es:=ds.dropLast) (ys:=xs.dropLast) e1 e5<|wF e4;have dv2:=dv.go R.mutk g2.ev;exact⟨_,e2,.inl ⟨rfl,xs,SqL.of e3⟩,a,xs,v,rfl,rfl,e3,by rw[bR e4];exact hv,q _ R2 g2 _ dv2⟩
end
section
theorem Xn:seqRepeat? (.type "int")=pure none:=by rfl
theorem Sy (hok:MulOk x n)(h:∀t' k,Q (.str (BO x n) t') { s with toks:=k }):
  bt (dr prog w) A (kg .Mult (.int n u)<|.str x t) Q E s:=by
 have post:(if n<1 then Made.str BB else if(n==1||x.length==0)=true then Made.val (.str x t) else Made.str ⟨(dQ n.toNat x.cps).foldl (· ++ ·) #[]⟩).post Q s:=by
  unfold BO at h;by_cases h1:n<1
  ·rw[if_pos h1];have h':=h s.toks<|s.toks+1;rw[if_pos h1] at h';exact⟨by decide,h'⟩
  ·rw[if_neg h1];refine post_val_or_made (λhc=>fits_reps<|hok.2.2 h1<|by simpa using hc) λt' k=>?_;have h':=h t' k;rw[if_neg h1] at h';exact h'
 exact lm_binaryOp_repeat_right (T:="str") (U:="int") (by decide) (λs'=>typeIs_int s' n u) (ub s x t) PySem.F.fills_int_mul noFill_str_mul zo Xn repeat_str PySem.F.slot_int_index.lookup
  (call_gives zo (typeIs_int s n u) PySem.F.entry_int_mul (PySem.F.args_int_mul_2 _ _) (AutoIntG3.int___mul___int_str_0 n u x t) ⟨rfl,ub _ x t,call_gives PySem.F.slot_str_mul (ub _ x t) PySem.F.entry_str_mul (PySem.F.args_str_mul_2 _ _) (gives_str_mul x n t u hok.1 hok.2.1 hok.2.2) post⟩)
noncomputable def Qv:D->D->Option D
 | .int n,.str z=>if 0<=n/\n<=1000/\z.length<=1000 then some (.str<|BO z n) else none
 |_,_=>none
theorem Wl:OpR X (kg .Mult) (rG (gx X) Qv):=by
 intro π s σ H x y v u Q I rx ry h;refine gG h λO d e r m hx hy hr q=>?_;unfold Qv at hr;split at hr
 ·rename_i n z;obtain⟨⟨h0,h1,hz⟩,rfl⟩:=oif hr;cases cH hx;cases jo hy;obtain⟨t,rfl⟩:=rx;obtain⟨t2,rfl⟩:=ry;exact Sy (mulOk_of h0 h1 hz) λt' k=>Oa (tk:=k) I q
 ·cases hr
end
end F
namespace L2
open PySem PySem.Spec PyProof.Rows
section
variable {X:Cx}{e st:Expr}{te:TE}{tst:TO}{p2 pos:Pos}
end
end L2
namespace F
open PySem PySem.Spec PyProof.Rows L2 Hd
section
variable {X:Cx}{E:XK}{e st:Expr}{f:Zae}{fk:Me->Res (Option Int)}{p2 pos:Pos}
end
end F
namespace Pk
open PySem L2 Hd F
section
def jr:Zaf:=
 (aN gNe (aa 3)<|fC<|.int 0)
def jt:Zab:=
 (aK (bc 4<|az bJ (aa 2)<|aa 3)
 (aK (bc 2<|aG 3)
 (bc 3<|aG 4)))
def oH:Zab:=
 (oF jr jt)
def kO (l_3:Zab):Zab:=
 (aK (bc 2<|aQ S5<|aj (aa 0) aB)
 (aK (bc 3<|aQ S5<|aj (aa 1) aB)
 (aK l_3
 (bM<|aG 2))))
def lu:Zab:=
 (kO oH)
def fY:Zac:=aX 5 2 lu
def wY (φ_common_divisor:Zac):Zab:=
 (aK (bc 2<|fFn φ_common_divisor<|aj (aG 0)<|aj (aG 1) aB)
 (aK (gIf (aN gLt (aa 1)<|fC<|.int 0) (bc 2<|fUn uD<|aa 2) gNx)
 (bM<|aY<|aj (az du (aa 0)<|aa 2)<|aj (az du (aa 1)<|aa 2) aB)))
def yc:Zab:=
 (wY fY)
def oA:Zac:=aX 3 2 yc
def MT (φ_lowest:Zac):Zab:=
 (bM<|fFn φ_lowest<|aj (az bU (az fB (az gIx (aa 0)<|fC<|.int 0)<|az gIx (aa 1)<|fC<|.int 1)<|az fB (az gIx (aa 1)<|fC<|.int 0)<|az gIx (aa 0)<|fC<|.int 1)<|aj (az fB (az gIx (aa 0)<|fC<|.int 1)<|az gIx (aa 1)<|fC<|.int 1) aB)
def LK:Zab:=
 (MT oA)
def Ie:Zac:=aX 2 2 LK
def Hn:Zab:=
 (bM<|oJ gLt (az fB (az gIx (aa 0)<|fC<|.int 0)<|az gIx (aa 1)<|fC<|.int 1)<|az fB (az gIx (aa 1)<|fC<|.int 0)<|az gIx (aa 0)<|fC<|.int 1)
def Gy:Zab:=
 Hn
def Ay:Zac:=aX 2 2 Gy
def yV:Zab:=
 (bc 1<|fFn Ie<|aj (aG 1)<|aj (aG 2) aB)
def Gf:Zab:=
 (dg (fL<|aG 0) (hName 2) yV)
def IW (l_2:Zab):Zab:=
 (aK (bc 1<|fC<|.tup [(.int 0),(.int 1)])
 (aK l_2
 (bM<|aG 1)))
def G7:Zab:=
 (IW Gf)
def Aj:Zac:=aX 3 1 G7
def mZ:Zae:=
 (dX 2 [] (jB<|az gIx (aa 0)<|fUn uD<|fC<|.int 1) (iW 2<|bC (hName 0)<|bC (hName 1) iM) jn<|aG 1)
def gO (l_1:Zae):Zab:=
 (aK (gIf (aN gEq (az gIx (aa 0)<|fC<|.int 0)<|fC<|.str "end") (nj<|fU aB) gNx)
 (nj l_1))
def vC:Zab:=
 (gO mZ)
def iV:Zac:=aX 1 1 vC
def qy:Zae:=
 (aY<|aj (az bU (az gIx (aa 2)<|fC<|.int 0)<|aY<|aj (aG 0) aB)<|aj (aG 1) aB)
def lE:Zae:=
 (dX 2 [3] (abN<|aj (fFn iV<|aj (az gIx (aa 3)<|fC<|.int 1) aB) aB) (iW 2<|bC (hName 0)<|bC (hName 1) iM) jn qy)
def lV:Zaf:=
 (aN gGt (aQ dW<|aj (aa 2) aB)<|fC<|.int 0)
def lH:Zab:=
 (aK (Gu 3 2)
 (aK (cP 1<|aG 3)
 (aK (bc 4 lE)
 (HS 2<|aQ Vo<|aj (aa 4) aB))))
def Eh:Zab:=
 (oF lV lH)
def pq (l_5:Zab):Zab:=
 (aK (cX 1<|fU aB)
 (aK (cX 2<|fU<|aj (aY<|aj (aY aB)<|aj (aG 0) aB) aB)
 (aK l_5
 (gU 1))))
def zJ:Zab:=
 (pq Eh)
def o9:Zac:=aX 5 1 zJ
def rY:Zae:=
 (dX 2 [] (jB<|az gIx (aa 0)<|fC<|.int 3) (iW 2<|bC (hName 0)<|bC (hName 1) iM) jn<|aG 0)
def wj (l_1:Zae):Zab:=
 (bM<|aQ gh<|aj l_1 aB)
def wk:Zab:=
 (wj rY)
def sJ:Zac:=aX 1 1 wk
def fZ:Zab:=
 (aK (gIf (aN gNe (az gIx (aa 0)<|fC<|.int 0)<|fC<|.str "move") (bM<|aG 1) gNx)
 (aK (bc 3<|aY<|aj (az gIx (aa 0)<|fC<|.int 2)<|aj (az gIx (az gIx (az gIx (aa 0)<|fC<|.int 3)<|aa 2)<|fC<|.int 0) aB)
 (aK (gIf (aN gEq (az gIx (aa 0)<|fC<|.int 1)<|fC<|.int 1) (bM<|aY<|aj (az bU (az gIx (aa 1)<|fC<|.int 0)<|aY<|aj (aG 3) aB)<|aj (az gIx (aa 1)<|fC<|.int 1) aB) gNx)
 (bM<|aY<|aj (az gIx (aa 1)<|fC<|.int 0)<|aj (az bU (az gIx (aa 1)<|fC<|.int 1)<|aY<|aj (aG 3) aB) aB))))
def fV:Zab:=
 fZ
def d8:Zac:=aX 4 3 fV
def cR:Zab:=
 (qN 1 (az bU (aa 3)<|aY<|aj (aG 5) aB)<|fFn d8<|aj (aG 4)<|aj (az jV (aa 1)<|aa 3)<|aj (aG 5) aB)
def fQ:Zab:=
 (dg (pH<|aj (aQ dW<|aj (fFn iV<|aj (aG 4) aB) aB) aB) (hName 5) cR)
def bf:Zab:=
 (aK (cP 2<|aY<|aj (aG 3)<|aj (aG 4)<|aj (az jV (aa 1)<|aa 3) aB)
 fQ)
def jw:Zab:=
 (dg (fL<|fFn o9<|aj (aG 0) aB) (iW 2<|bC (hName 3)<|bC (hName 4) iM) bf)
def eN (l_4:Zab):Zab:=
 (aK (cX 1<|M4 (aY aB)<|aY<|aj (aY aB)<|aj (aY aB) aB)
 (aK (cX 2<|fU aB)
 (aK l_4
 (gU 2))))
def kI:Zab:=
 (eN jw)
def eG:Zac:=aX 6 1 kI
def xR (φ_words_at:Zac):Zab:=
 (bM<|aY<|aj (az gIx (aa 0)<|fC<|.int 1)<|aj (az gIx (aa 0)<|fC<|.int 2)<|aj (fFn φ_words_at<|aj (aG 0) aB)<|aj (az gIx (aa 1)<|az dN (az gIx (aa 0)<|fC<|.int 1)<|fC<|.int 1) aB)
def xF:Zab:=
 (xR sJ)
def tL:Zac:=aX 2 2 xF
def gC:Zab:=
 (gIf (aN gEq (az gIx (aa 3)<|fC<|.int 0)<|fC<|.str "move") (aaf 1 (aY<|aj (az gIx (aa 3)<|fC<|.int 1)<|aj (az gIx (aa 3)<|fC<|.int 2) aB)<|fFn tL<|aj (aG 3)<|aj (aG 4) aB) gNx)
def yf:Zab:=
 (dg (fL<|fFn eG<|aj (aG 0) aB) (iW 3<|bC (hName 2)<|bC (hName 3)<|bC (hName 4) iM) gC)
def rZ (l_2:Zab):Zab:=
 (aK (cX 1 sW)
 (aK l_2
 (nj<|Nf<|aa 1)))
def Bl:Zab:=
 (rZ yf)
def vN:Zac:=aX 5 1 Bl
def tV:Zae:=
 (dX 1 [1] (fL<|fFn vN<|aj (aG 0) aB) (hName 0) (aN gEq (az gIx (aa 0)<|fC<|.int 0)<|aa 1)<|aG 0)
def yt (l_1:Zae):Zab:=
 (nj l_1)
def zx:Zab:=
 (yt tV)
def nT:Zac:=aX 2 2 zx
end
end Pk
namespace Hd
noncomputable def gI (a b:Int):Int:=(tj a b:Nat)
theorem O7 (ha:0<=a)(hb:0<b):gI b (a%b)=gI a b:=by
 unfold gI tj;have e:(a%b).natAbs=a.natAbs%b.natAbs:=by
  obtain⟨n,rfl⟩:=w9 ha;obtain⟨m,rfl⟩:=w9<|Int.le_of_lt hb;rfl
 rw[e,Bi a.natAbs b.natAbs,Nat.gcd_rec b.natAbs a.natAbs,Bi]
theorem Ou (ha:0<=a):gI a 0=a:=by
 unfold gI;rw[Int.gcd_zero_right]
 lia
theorem Wn (a b:Int):gI (if a<0 then -a else a) (if b<0 then -b else b)=gI a b:=by
 unfold gI tj;have h:∀x:Int,(if x<0 then -x else x).natAbs=x.natAbs:=λx=>by split<;>lia
 rw[h,h]
theorem aeh (a b:Int):0<=gI a b:=Int.natCast_nonneg _
theorem Im (hb:b≠0):0<gI a b:=by
 have:0<tj a b:=Nat.pos_of_ne_zero λh=>hb (Int.gcd_eq_zero_iff.mp h).2
 unfold gI;lia
theorem Qj (a b:Int):gI a b ∣ a:=Int.gcd_dvd_left a b
theorem CJ (a b:Int):gI a b ∣ b:=Int.gcd_dvd_right a b
theorem aaF (hb:b≠0):(gI a b).natAbs<=b.natAbs:=by
 have h:(gI a b).natAbs ∣ b.natAbs:=kF.mpr<|CJ a b;exact AX (by lia) h
def dv (t b:Int):Int:=if b<0 then -gI t b else gI t b
theorem Nu (hb:b≠0):dv t b≠0:=by
 have:=Im (a:=t) hb
 unfold dv;split<;>lia
theorem Ui (t b:Int):(dv t b).natAbs=(gI t b).natAbs:=by unfold dv;split<;>lia
def lt (t b:Int):Int:=t.fdiv<|dv t b
def lb (t b:Int):Int:=b.fdiv<|dv t b
theorem Dr {a d q:Int}(hd:d≠0)(h:a=d*q):a.fdiv d=q:=by simp_all
theorem Z6 (t b:Int):dv t b ∣ t:=by
 unfold dv;split
 ·exact Int.neg_dvd.mpr<|Qj t b
 ·exact Qj t b
theorem Xa (t b:Int):dv t b ∣ b:=by
 unfold dv;split
 ·exact Int.neg_dvd.mpr<|CJ t b
 ·exact CJ t b
theorem lt_mul (hb:b≠0):dv t b*lt t b=t:=by
 obtain⟨q,hq⟩:=Z6 t b;have e:lt t b=q:=Dr (Nu hb) hq;rw[e];exact hq.symm
theorem Jk (hb:b≠0):dv t b*lb t b=b:=by
 obtain⟨q,hq⟩:=Xa t b;have e:lb t b=q:=Dr (Nu hb) hq;rw[e];exact hq.symm
theorem acy (hb:b≠0):1<=lb t b:=by
 have e:=Jk (t:=t) hb;have g:=Im (a:=t) hb;by_cases h:lb t b<=0
 ·exfalso;unfold dv at e;split at e
  ·have:0<=-gI t b*lb t b:=Int.mul_nonneg_of_nonpos_of_nonpos (by lia) h
   lia
  ·have:gI t b*lb t b<=0:=Int.mul_nonpos_of_nonneg_of_nonpos (by lia) h
   lia
 ·lia
theorem YK (hb:b≠0):gI (lt t b) (lb t b)=1:=by
 have e1:=lt_mul (t:=t) hb;have e2:=Jk (t:=t) hb;have g:=Im (a:=t) hb;have q:gI t b=(dv t b).natAbs*gI (lt t b) (lb t b):=by
  have:tj (dv t b*lt t b) (dv t b*lb t b)=(dv t b).natAbs*tj (lt t b) (lb t b):=Int.gcd_mul_left ..
  rw[e1,e2] at this;unfold gI;rw[this];push_cast;rfl
 have ed:((dv t b).natAbs:Int)=gI t b:=by rw[Ui];have:=aeh t b;lia
 rw[ed] at q;have h:gI t b*gI (lt t b) (lb t b)=gI t b*1:=by rw[Int.mul_one];exact q.symm
 exact Int.eq_of_mul_eq_mul_left (by lia) h
theorem Ry (hb:b≠0):lt t b*b=t*lb t b:=by
 have e1:=lt_mul (t:=t) hb;have e2:=Jk (t:=t) hb
 calc lt t b*b=lt t b*(dv t b*lb t b):=by rw[e2]
  _=(dv t b*lt t b)*lb t b:=by rw[← mP,mB (lt t b)<|dv t b]
  _=t*lb t b:=by rw[e1]
theorem aaQ (hb:b≠0):(lt t b).natAbs<=t.natAbs:=by
 have e:=lt_mul (t:=t) hb;have h:(lt t b).natAbs ∣ t.natAbs:=kF.mpr ⟨dv t b,by rw[mB];exact e.symm⟩;by_cases z:t=0
 ·have:lt t b=0:=by
   have e':dv t b*lt t b=0:=e.trans z;rcases Int.mul_eq_zero.mp e' with h|h
   ·exact absurd h<|Nu hb
   ·exact h
  rw[this];exact eT _
 ·exact AX (by lia) h
theorem aaK (hb:b≠0):(lb t b).natAbs<=b.natAbs:=by
 have e:=Jk (t:=t) hb;have h:(lb t b).natAbs ∣ b.natAbs:=kF.mpr ⟨dv t b,by rw[mB];exact e.symm⟩;exact AX (by lia) h
theorem tD (c:tj p q=1)(h:q ∣ p*s):q ∣ s:=by
 have h2:q.natAbs ∣ p.natAbs*s.natAbs:=by rw[← Int.natAbs_mul];exact kF.mpr h
 have c2:BE q.natAbs p.natAbs:=by unfold BE;rw[Bi];exact c
 exact kF.mp<|Nat.Coprime.dvd_of_dvd_mul_left c2 h2
theorem Lb (hq:1<=q)(hs:1<=s)(g1:gI p q=1)(g2:gI r s=1)(h:p*s=r*q):p=r/\q=s:=by
 have c1:tj p q=1:=by unfold gI at g1;lia
 have c2:tj r s=1:=by unfold gI at g2;lia
 have d1:q ∣ s:=by
  have:q ∣ p*s:=⟨r,by rw[h,mB]⟩
  exact tD c1 this
 have d2:s ∣ q:=by
  have:s ∣ r*q:=⟨p,by rw[← h,mB]⟩
  exact tD c2 this
 have e:q=s:=Int.dvd_antisymm (by lia) (by lia) d1 d2;subst e;exact⟨sM (by lia) h,rfl⟩
theorem rO {a b:Int}(ha:a.natAbs<2^m)(hb:b.natAbs<2^n):(a*b).natAbs<2^(m+n):=by
 rw[Int.natAbs_mul,Nat.pow_add];exact Nat.mul_lt_mul'' ha hb
theorem abv {a b:Int}(ha:a.natAbs<2^m)(hb:b.natAbs<2^m):(a+b).natAbs<2^(m+1):=by
 rw[Nat.pow_succ]
 lia
theorem dh (h:n<2^m)(hk:m<=k):n<2^k:=cm h<|zi (by decide) hk
theorem abF (hu:u≠0)(hq:1<=q)(g:gI p q=1)(h:t*q=p*u):lt t u=p/\lb t u=q:=by
 refine Lb (acy hu) hq (YK hu) g ?_;have e:=Ry (t:=t) hu;have e2:lt t u*q*u=p*lb t u*u:=by
  calc lt t u*q*u=lt t u*u*q:=by rw[mP,mB q u,← mP]
   _=t*lb t u*q:=by rw[e]
   _=t*q*lb t u:=by rw[mP,mB (lb t u) q,← mP]
   _=p*u*lb t u:=by rw[h]
   _=p*lb t u*u:=by rw[mP,mB u,← mP]
 exact sM hu e2
abbrev Q2:=Int×Int
end Hd
namespace F
open PySem L2 Hd
@[simp] theorem szl:aw=16777216:=by decide
theorem vH:∀{a b:List Char},a.map qc=b.map qc->a=b
 |[],[],_=>rfl
 |[],_::_,h=>by simp at h
 |_::_,[],h=>by simp at h
 |x::a,y::b,h=>by
  have h':x.toNat=y.toNat/\a.map qc=b.map qc:=by simpa using h
  rw[Char.toNat_inj.mp h'.1,vH h'.2]
@[simp] theorem aeH:(c9 a=c9 b)↔a=b:=by
 constructor
 ·intro h;rw[xC,xC] at h;have h2:(a.toList.map qc).toArray=(b.toList.map qc).toArray:=congrArg Str.cps h;have h3:a.toList.map qc=b.toList.map qc:=by simpa using congrArg xI h2
  exact String.toList_inj.mp<|vH h3
 ·intro h;rw[h]
mutual
def okD:D->Bool
 | .non|.bl _|.int _=>true
 | .str x=>hZ x
 | .tup xs=>pR xs
 | .lst xs=>pR xs
 | .exc _|.dct _ _|.dcu _ _|.dcf _ _|.adr _|.ins _ _ _=>false
def pR:List D->Bool
 |[]=>true
 |x::xs=>okD x&&pR xs
end
mutual
def qb:D->Nat
 | .non|.bl _|.int _|.str _=>0
 | .tup xs=>mH xs+1
 | .lst xs=>mH xs+1
 | .exc _|.dct _ _|.dcu _ _|.dcf _ _|.adr _|.ins _ _ _=>0
def mH:List D->Nat
 |[]=>0
 |x::xs=>max (qb x)<|mH xs
end
mutual
theorem Hi:∀d:D,okD d=true->∃p,toPy d=some p/\p.canLay0=true/\p.depth=qb d/\kr p p=true
 | .non,_=>⟨.none,by simp[toPy],by simp[nK],by simp[qr,qb],by simp[kr]⟩
 | .bl b,_=>⟨.bool b,by simp[toPy],by simp[nK],by simp[qr,qb],by simp[kr]⟩
 | .int b,_=>⟨.int b,by simp[toPy],by simp[nK],by simp[qr,qb],by simp[kr]⟩
 | .str b,h=>⟨.str b,by simp[toPy],by simpa[nK,okD] using h,by simp[qr,qb],by simp[kr]⟩
 | .tup xs,h=>by
  refine gH (CZ xs<|by simpa[okD] using h) λps h1 h2 h3 h4=>?_;exact⟨.tuple ps,by simp[toPy,h1],by simpa[nK] using h2,by simp[qr,qb,h3],by simpa[kr] using h4⟩
 | .lst xs,h=>by
  refine gH (CZ xs<|by simpa[okD] using h) λps h1 h2 h3 h4=>?_;exact⟨.list ps,by simp[toPy,h1],by simpa[nK] using h2,by simp[qr,qb,h3],by simpa[kr] using h4⟩
 | .exc _,h=>by simp[okD] at h
 | .dct _ _,h=>by simp[okD] at h
 | .dcu _ _,h=>by simp[okD] at h
 | .adr _,h=>by simp[okD] at h
 | .ins _ _ _,h=>by simp[okD] at h
 | .dcf _ _,h=>by simp[okD] at h
theorem CZ:∀ds:List D,pR ds=true->∃ps,qW ds=some ps/\vj ps=true/\yT ps=mH ds/\pe ps ps=true
 |[],_=>⟨[],by simp[qW],by simp[vj],by simp[yT,mH],by simp[pe]⟩
 |d::ds,h=>by
  have h':okD d=true/\pR ds=true:=by simpa[pR] using h
  refine gH (Hi d h'.1) λp h1 h2 h3 h4=>?_;refine gH (CZ ds h'.2) λps k1 k2 k3 k4=>?_;exact⟨p::ps,by simp[qW,h1,k1],by simp[vj,h2,k2],by simp[yT,mH,h3,k3],by simp[pe,h4,k4]⟩
end
theorem o7 (h:okD d=true)(hd:qb d<=64):lg d d=some true:=by
 refine gH (Hi d h) λp h1 h2 h3 h4=>?_;unfold lg;rw[h1]
 have:hU p=true:=by unfold hU;rw[h2,decide_eq_true<|by lia];rfl
 simp[this,h4]
theorem Vl (h:okD d=true)(hd:qb d<=64):gEq d d=some true:=by
 cases d with
 |non=>rfl
 |bl b=>simp[gEq]
 |int b=>simp[gEq]
 |str b=>simp[gEq]
 |tup xs=>exact o7 h hd
 |lst xs=>exact o7 h hd
 |exc c=>simp[okD] at h
 |dct _ _=>simp[okD] at h
 |dcu _ _=>simp[okD] at h
 |adr _=>simp[okD] at h
 |ins _ _ _=>simp[okD] at h
 |dcf _ _=>simp[okD] at h
@[simp] theorem aeJ (i j:Int):gEq (.int i) (.int j)=some (decide<|i=j):=rfl
@[simp] theorem aeI (i j:Str):gEq (.str i) (.str j)=some (decide<|i=j):=rfl
@[simp] theorem aeO (i j:Bool):gEq (.bl i) (.bl j)=some (decide<|i=j):=rfl
@[simp] theorem aeF (i j:Int):gNe (.int i) (.int j)=some (!decide (i=j)):=rfl
@[simp] theorem aeG (i j:Str):gNe (.str i) (.str j)=some (!decide (i=j)):=rfl
@[simp] theorem aeS (i j:Bool):gNe (.bl i) (.bl j)=some (!decide (i=j)):=rfl
noncomputable def qD (d:Q2):D:=.tup [.int d.1,.int d.2]
mutual
inductive Gm where
 |fin (d:Q2)
 |deal (n:Str) (ws:Ws)
 |move (s:Int) (n:Str) (ws:Ws)
inductive Ws where
 |nil
 |cons (l:D) (g:Gm) (r:Ws)
end
mutual
def dG:Gm->D
 | .fin d=>.tup [.str "end",qD d]
 | .deal n ws=>.tup [.str "deal",.str n,.tup<|dWs ws]
 | .move s n ws=>.tup [.str "move",.int s,.str n,.tup<|dWs ws]
def dWs:Ws->List D
 | .nil=>[]
 | .cons l g r=>.tup [l,dG g]::dWs r
end
mutual
def dp:Gm->Nat
 | .fin _=>0
 | .deal _ ws=>dpW ws+1
 | .move _ _ ws=>dpW ws+1
def dpW:Ws->Nat
 | .nil=>0
 | .cons _ g r=>max (dp g)<|dpW r
end
noncomputable def jA:Ws->Nat
 | .nil=>0
 | .cons _ _ r=>jA r+1
theorem sy:∀ws:Ws,(dWs ws).length=jA ws
 | .nil=>rfl
 | .cons l g r=>by show(dWs r).length+1=_;rw[sy r];rfl
mutual
def iG:Gm->Prop
 | .fin _=>True
 | .deal _ ws=>jA ws<=100/\zU ws
 | .move _ _ ws=>jA ws<=100/\zU ws
def zU:Ws->Prop
 | .nil=>True
 | .cons _ g r=>iG g/\zU r
end
def Ab (zs:List Str):List Nat:=zs.flatMap λz=>z.cps.toList
theorem SN:(c9 "").cps=#[]:=by decide +kernel
theorem Qp:∀(zs:List Str) (acc:Array Nat),(zs.foldl (λacc p=>acc++(c9 "").cps++p.cps) acc).toList=acc.toList++Ab zs
 |[],acc=>by simp[Ab]
 |z::zs,acc=>by
  rw[sv,Qp zs,SN];simp[Ab]
theorem Vw (zs:List Str):(AV (c9 "") zs).cps.toList=Ab zs:=by
 show((zs.drop 1).foldl (λacc p=>acc++(c9 "").cps++p.cps) (zs.headD BB).cps).toList=_;rw[Qp];cases zs with
 |nil=>simp[Ab,BB]
 |cons z zs=>simp[Ab]
theorem FZ:∀(zs:List Str) (n:Nat),zs.foldl (λn z=>n+z.length+(c9 "").length) n=n+(Ab zs).length
 |[],n=>by simp[Ab]
 |z::zs,n=>by
  rw[sv,FZ zs]
  have:(c9 "").length=0:=by decide +kernel
  rw[this];simp[Ab,Str.length]
  lia
theorem joinOk_of (h:(Ab zs).length<=16777216):BM (c9 "") zs=true:=by
 unfold BM;rw[List.foldl_toArray,FZ];simp[AE]
 lia
theorem RK (cs:List Nat):Ab (cs.map λc=>(⟨#[c]⟩:Str))=cs:=by
 induction cs with
 |nil=>rfl
 |cons c cs ih=>simp[Ab] at ih ⊢;exact ih
theorem JB {cs:List Nat}(h:∀c∈cs,c<128):hZ ⟨cs.toArray⟩=true:=by
 unfold hZ;simp only[List.all_toArray,List.all_eq_true,decide_eq_true_eq];intro c hc
 have:=h c hc
 lia
theorem GD (h:f m=.ok [.int j])(h1:-1000000000<=j)(h2:j<=1000000000):pH f m=.ok ((cf j.toNat).map λ(i:Nat)=>D.int i):=by
 unfold pH;rw[h];show(if -(2^62)<=j/\j<2^62 then _ else _)=_;rw[if_pos ⟨by lia,by lia⟩]
theorem aeU (h:f m=.ok [.int i,.int j])(h1:-1000000000<=i)(h2:i<=1000000000)(h3:-1000000000<=j)(h4:j<=1000000000):Ov f m=.ok ((cf (j-i).toNat).map λ(k:Nat)=>D.int<|i+k):=by
 unfold Ov;rw[h];show(if -(2^62)<=i/\i<2^62/\-(2^62)<=j/\j<2^62 then _ else _)=_;rw[if_pos ⟨by lia,by lia,by lia,by lia⟩]
open PySem PySem.NumText
def tx (l:List Nat):Str:=⟨l.toArray⟩
theorem Al (l:List Nat):(tx l).cps.toList=l:=rfl
theorem v8 (l:List Nat):(tx l).length=l.length:=by rfl
theorem Qx (h:x.cps.toList=l):x=tx l:=by
 cases x with
 |mk a=>subst h;unfold tx;simp
theorem aaX (a b:List Nat):tx a++tx b=tx (a++b):=Qx (by show(a.toArray++b.toArray).toList=_;simp)
theorem VL:tx a=tx b↔a=b:=⟨λh=>by have:=congrArg (λz:Str=>z.cps.toList) h;exact this,λh=>by rw[h]⟩
end F
namespace Pk
open PySem L2 Hd F
noncomputable def iR:Ws->List Gm
 | .nil=>[]
 | .cons _ g r=>g::iR r
def kids:Gm->List Gm
 | .fin _=>[]
 | .deal _ ws=>iR ws
 | .move _ _ ws=>iR ws
mutual
def szG:Gm->Nat
 | .fin _=>1
 | .deal _ ws=>szW ws+1
 | .move _ _ ws=>szW ws+1
def szW:Ws->Nat
 | .nil=>0
 | .cons _ g r=>szG g+szW r
end
theorem uM (g:Gm):1<=szG g:=by cases g<;>simp[szG]
mutual
def plG:List Int->Gm->List (List Int×Gm)
 |w,.fin d=>[(w,.fin d)]
 |w,.deal n ws=>(w,.deal n ws)::plW w 0 ws
 |w,.move s n ws=>(w,.move s n ws)::plW w 0 ws
def plW:List Int->Nat->Ws->List (List Int×Gm)
 |_,_,.nil=>[]
 |w,i,.cons _ g r=>plG (w++[(i:Int)]) g++plW w (i+1) r
end
def pD (p:List Int×Gm):D:=.tup [.tup<|p.1.map .int,dG p.2]
def bh (w:List Int)(g:Gm):List (List Int×Gm):=(kids g).zipIdx.map λp=>(w++[(p.2:Int)],p.1)
theorem M3 (w:List Int):∀(i:Nat) (ws:Ws),plW w i ws=(((iR ws).zipIdx i).map λp=>(w++[(p.2:Int)],p.1)).flatMap λp=>plG p.1 p.2
 |i,.nil=>rfl
 |i,.cons l g r=>by
  show plG (w++[(i:Int)]) g++plW w (i+1) r=_;rw[M3 w (i+1) r];rfl
theorem acP (w:List Int)(g:Gm):plG w g=(w,g)::(bh w g).flatMap λp=>plG p.1 p.2:=by
 cases g with
 |fin d=>rfl
 |deal n ws=>show(w,Gm.deal n ws)::plW w 0 ws=_;rw[M3];rfl
 |move s n ws=>show(w,Gm.move s n ws)::plW w 0 ws=_;rw[M3];rfl
theorem yo:∀ws:Ws,szW ws=((iR ws).map szG).sum
 | .nil=>rfl
 | .cons l g r=>by show szG g+szW r=_;rw[yo r];rfl
theorem Vp (g:Gm):szG g=((kids g).map szG).sum+1:=by
 cases g with
 |fin d=>rfl
 |deal n ws=>show szW ws+1=_;rw[yo];rfl
 |move s n ws=>show szW ws+1=_;rw[yo];rfl
theorem gP:∀ws:Ws,(iR ws).length=jA ws
 | .nil=>rfl
 | .cons l g r=>by show(iR r).length+1=_;rw[gP r];rfl
theorem vU:∀{ws:Ws} {g:Gm},zU ws->g∈iR ws->iG g
 | .cons l k r,g,h,hg=>by
  rcases a8.mp hg with w|w
  ·rw[w];exact h.1
  ·exact vU h.2 w
theorem Es (h:iG g)(hk:k∈kids g):iG k/\(kids g).length<=100:=by
 cases g with
 |fin d=>cases hk
 |deal n ws=>exact⟨vU h.2 hk,by show(iR ws).length<=100;rw[gP];exact h.1⟩
 |move s n ws=>exact⟨vU h.2 hk,by show(iR ws).length<=100;rw[gP];exact h.1⟩
theorem xX (h:iG g):(kids g).length<=100:=by
 cases g with
 |fin d=>exact eT _
 |deal n ws=>show(iR ws).length<=100;rw[gP];exact h.1
 |move s n ws=>show(iR ws).length<=100;rw[gP];exact h.1
theorem yU:∀ws:Ws,fK (iW 2<|bC (hName 0)<|bC (hName 1) iM) jn (aG 1) [.un,.un] (dWs ws)=.ok ((iR ws).map dG)
 | .nil=>rfl
 | .cons l g r=>by
  have ih:=yU r;have e:aG 1 [.fz l,.fz<|dG g]=.ok (dG g):=rfl;unfold dWs fK;simp[iW,bC,hName,iM,jn,e,ih,iR]
theorem Jj (q:Q [.fz<|dG g]=.ok (.lst<|(kids g).map dG)\/kids g=[]/\∃d,g=.fin d):aX 1 1 (gO Q) [dG g]=.ok (true,.lst<|(kids g).map dG):=by
 have x2:∀a b:D,atI [a,b] 0=some a:=λ_ _=>rfl;have x3:∀a b c:D,atI [a,b,c] 0=some a:=λ_ _ _=>rfl;have x4:∀a b c d:D,atI [a,b,c,d] 0=some a:=λ_ _ _ _=>rfl;cases g with
 |fin d=>simp[aX,gO,aK,gIf,aN,az,aa,fC,gIx,dG,x2,nj,Me.let,Sl.let,fU,aB,kids]
 |deal n ws=>
  rcases q with q|⟨_,d,e⟩
  ·have q':=q;simp only[dG] at q';simp[aX,gO,aK,gIf,aN,az,aa,fC,gIx,dG,x3,nj,Me.let,Sl.let,q',gNx]
  ·cases e
 |move s n ws=>
  rcases q with q|⟨_,d,e⟩
  ·have q':=q;simp only[dG] at q';simp[aX,gO,aK,gIf,aN,az,aa,fC,gIx,dG,x4,nj,Me.let,Sl.let,q',gNx]
  ·cases e
theorem zA (h:iG g):iV [dG g]=.ok (true,.lst<|(kids g).map dG):=by
 have x3:∀a b c:D,atI [a,b,c] (-1)=some c:=λ_ _ _=>rfl;have x4:∀a b c d:D,atI [a,b,c,d] (-1)=some d:=λ_ _ _ _=>rfl;refine Jj ?_;cases g with
 |fin d=>exact .inr ⟨rfl,d,rfl⟩
 |deal n ws=>
  have hz:(dWs ws).length<=16777216:=by rw[sy];have:=h.1;lia
  left;simp[mZ,dX,jB,az,aa,fUn,uD,fC,gIx,dG,x3,cMe,hz,yU,kids]
 |move s n ws=>
  have hz:(dWs ws).length<=16777216:=by rw[sy];have:=h.1;lia
  left;simp[mZ,dX,jB,az,aa,fUn,uD,fC,gIx,dG,x4,cMe,hz,yU,kids]
theorem S8 (ks:List Gm):Cg (ks.map dG)=ks.zipIdx.map λp=>D.tup [.int (p.2:Int),dG p.1]:=by
 unfold Cg;rw[List.mapIdx_eq_zipIdx_map,List.zipIdx_map,fm];rfl
theorem iz:∀l:List α,(∀c∈l,∃m1,h (g c) m0=some m1/\ft m1=.ok true/\fe m1=.ok (f c))->fK h ft fe m0 (l.map g)=.ok (l.map f)
 |[],_=>rfl
 |d::ds,H=>by
  obtain⟨m1,e1,e2,e3⟩:=H d ah;have ih:=iz ds λd hd=>H d<|af _ hd;rw[ar];unfold fK;simp only[e1,e2,e3,ih,ar]
theorem Ru (h:iG g)(hw:w.length<=1000):lE [a,s1,s2,.fz<|pD (w,g),s4]=.ok (.lst<|(bh w g).map pD):=by
 have hb:=zA h;have hl:=xX h;have x0:∀a b:D,atI [a,b] 0=some a:=λ_ _=>rfl;have x1:∀a b:D,atI [a,b] 1=some b:=λ_ _=>rfl;have e:fK (iW 2<|bC (hName 0)<|bC (hName 1) iM) jn qy [.un,.un,.fz<|pD (w,g)] ((kids g).zipIdx.map λp=>D.tup [.int (p.2:Int),dG p.1])=.ok ((kids g).zipIdx.map λp=>pD (w++[(p.2:Int)],p.1)):=iz _ λp hp=>by
  refine⟨[.fz<|.int (p.2:Int),.fz<|dG p.1,.fz<|pD (w,g)],rfl,rfl,?_⟩;have hz:(w.map D.int).length+1<=16777216:=by rw[bp];lia
  have hz':w.length+1<=16777216:=by lia
  simp[qy,aY,aj,aB,az,aa,aG,fC,gIx,pD,x0,bU,hz']
 have hz:(kids g).length<=16777216:=by lia
 have e':((bh w g).map pD)=(kids g).zipIdx.map λp=>pD (w++[(p.2:Int)],p.1):=by unfold bh;rw[fm];rfl
 rw[e'];simp only[pD] at e ⊢;simp[lE,dX,abN,aj,aB,fFn,az,aa,fC,gIx,x1,hb,S8,cMe,Sl.bor,hz,e]
noncomputable def szS (st:List (List Int×Gm)):Nat:=(st.map λp=>szG p.2).sum
theorem aba (w:List Int)(g:Gm):szS (bh w g)+1=szG g:=by
 rw[Vp];unfold szS bh;rw[fm];congr 2
 have:((λp:List Int×Gm=>szG p.2)∘λp:Gm×Nat=>(w++[(p.2:Int)],p.1))=szG∘AY:=rfl
 rw[this,← fm,oo]
theorem Od:∀st:List (List Int×Gm),st.length<=szS st
 |[]=>eT _
 |p::st=>by
  have:=Od st
  have:=uM p.2
  show st.length+1<=szG p.2+szS st
  lia
theorem Q0 (a b:List (List Int×Gm)):szS (a++b)=szS a+szS b:=by unfold szS;rw[bE,List.sum_append]
theorem Ao (h1:t m=.ok true)(h2:b m=.ok (.nx,m'))(h3:wh t b n m'=some r):wh t b (n+1) m=some r:=by
 unfold wh;rw[h1,h2];exact h3
theorem Bd (h1:t m=.ok false):wh t b 1 m=some (.ok (.nx,m)):=by
 unfold wh;rw[h1]
theorem Jc (h:iG g)(hw:w.length<=1000)(hz:done.length+st.length<=10000000):
  lH [a,.ow<|.lst<|done.map pD,.ow<|.lst<|(((w,g)::st).map pD).reverse,s3,s4]=.ok (.nx,[a,.ow<|.lst<|(done++[(w,g)]).map pD,.ow<|.lst<|((bh w g++st).map pD).reverse,.fz<|pD (w,g),.fz<|.lst<|(bh w g).map pD]):=by
 have hl:=xX h;have hb:(bh w g).length=(kids g).length:=by unfold bh;simp
 have q:∀s1 s2 s4,lE [a,s1,s2,.fz<|pD (w,g),s4]=.ok (.lst<|(bh w g).map pD):=λs1 s2 s4=>Ru h hw;have l1:((st.map pD).reverse++[pD (w,g)]).length-1=(st.map pD).reverse.length:=by simp
 have g1:((st.map pD).reverse++[pD (w,g)])[((st.map pD).reverse++[pD (w,g)]).length-1]? = some (pD (w,g)):=by rw[l1];simp
 have d1:((st.map pD).reverse++[pD (w,g)]).dropLast=(st.map pD).reverse:=List.dropLast_concat;have z1:done.length<16777216:=by lia
 have z2:st.length+(bh w g).length<=16777216:=by rw[hb];lia
 rw[ar,k9];generalize hS:(st.map pD).reverse=S at *;have lS:S.length=st.length:=by rw[← hS];simp
 have e2:((bh w g++st).map pD).reverse=S++((bh w g).map pD).reverse:=by rw[bE,sx,hS]
 rw[e2];have g1':(S++[pD (w,g)])[S.length]? = some (pD (w,g)):=by simp
 simp[lH,aK,Gu,j9,putL,cP,aG,bc,q,HS,aQ,aj,aB,aa,Vo,z1,lS,z2]
theorem Xg (h:iG g):∀p∈bh w g,iG p.2/\p.1.length=w.length+1:=λp hp=>by
 unfold bh at hp;obtain⟨q,hq,rfl⟩:=aT.mp hp
 have:q.1∈kids g:=by have:=oq (f:=AY) hq;rwa [oo] at this
 exact⟨(Es h this).1,by simp⟩
theorem N8 (hk:k∈kids g):dp k<dp g:=by
 have aux:∀{ws:Ws},k∈iR ws->dp k<=dpW ws:=by
  intro ws;induction ws using Ws.rec (motive_1:=λ_=>True) with
  |nil=>intro h;cases h
  |cons l g r _ ih=>
   intro h;show dp k<=max (dp g) (dpW r);rcases a8.mp h with w|w
   ·rw[w];exact Nat.le_max_left _ _
   ·exact iA (ih w)<|Nat.le_max_right _ _
  |fin=>trivial
  |deal=>trivial
  |move=>trivial
 cases g with
 |fin d=>cases hk
 |deal n ws=>exact Nat.lt_succ_of_le (aux hk)
 |move s n ws=>exact Nat.lt_succ_of_le (aux hk)
theorem aex:∀p∈bh w g,dp p.2<dp g:=λp hp=>by
 unfold bh at hp;obtain⟨q,hq,rfl⟩:=aT.mp hp
 have:q.1∈kids g:=by have:=oq (f:=AY) hq;rwa [oo] at this
 exact N8 this
theorem Be (a:Sl):∀(N:Nat) (done st:List (List Int×Gm)) (s3 s4:Sl),szS st=N->(∀p∈st,iG p.2/\p.1.length+dp p.2<=100)->done.length+szS st<=10000000->
  ∃k s3' s4',wh lV lH k [a,.ow<|.lst<|done.map pD,.ow<|.lst<|(st.map pD).reverse,s3,s4]=some (.ok (.nx,[a,.ow<|.lst<|(done++st.flatMap λp=>plG p.1 p.2).map pD,.ow<|.lst [],s3',s4'])):=by
 intro N;induction N using sA with
 |_ N ih=>
  intro done st s3 s4 hN hs hz;cases st with
  |nil=>
   refine⟨1,s3,s4,?_⟩;simp only[sR,List.reverse_nil,qV,eR];exact Bd<|by simp[lV,aN,aQ,dW,aj,aB,aa,fC,gGt]
  |cons p st=>
   obtain⟨w,g⟩:=p;have h1:iG g/\w.length+dp g<=100:=hs (w,g) (by simp);have sb:=aba w g;have hsum:szS ((w,g)::st)=szG g+szS st:=rfl;have ls:=Od st;have gp:=uM g;obtain⟨k,t3,t4,e⟩:=ih (szS<|bh w g++st) (by rw[Q0];lia) (done++[(w,g)]) (bh w g++st) (.fz<|pD (w,g)) (.fz<|.lst<|(bh w g).map pD) rfl (λp hp=>by
    rcases c6.mp hp with v|v
    ·have v1:=Xg h1.1 p v;have v2:=aex p v;exact⟨v1.1,by lia⟩
    ·exact hs p<|by simp[v]) (by rw[Q0,bg];simp;lia)
   refine⟨k+1,t3,t4,?_⟩;have e3:done++((w,g)::st).flatMap (λp=>plG p.1 p.2)=done++[(w,g)]++(bh w g++st).flatMap λp=>plG p.1 p.2:=by
    rw[qf,AI,acP]
    simp
   rw[e3];refine Ao ?_ (Jc h1.1 (by lia)<|by lia) e;simp[lV,aN,aQ,dW,aj,aB,aa,fC,gGt]
theorem Ls (e:L [.fz d,.ow<|.lst [],.ow<|.lst [.tup [.tup [],d]],.un,.un]=.ok (.nx,[.fz d,.ow<|.lst ps,.ow<|.lst [],s3,s4])):aX 5 1 (pq L) [d]=.ok (true,.lst ps):=by
 simp[aX,pq,aK,cX,fU,aj,aB,aY,aG,e,gU]
theorem places_eq (h:iG g)(hd:dp g<=50)(hz:szG g<=10000000):o9 [dG g]=.ok (true,.lst<|(plG [] g).map pD):=by
 obtain⟨k,s3,s4,e⟩:=Be (.fz<|dG g) _ [] [([],g)] .un .un rfl (λp hp=>by rw[cb.mp hp];exact⟨h,by simp;lia⟩) (by show 0+(szG g+0)<=_;lia);have e2:=uQ k e;simp only[kS,qf,qV,eR] at e2;exact Ls (s3:=s3) (s4:=s4) e2
noncomputable def kw (w:List Int):List Kt:=w.map λi=>.k<|.inl i
theorem Hf:∀{v w:List Int},kw v=kw w->v=w
 |[],[],_=>rfl
 |[],_::_,h=>by cases h
 |_::_,[],h=>by cases h
 |a::v,b::w,h=>by
  have h:(Kt.k (.inl a):Kt)::kw v=Kt.k (.inl b)::kw w:=h;injection h with h1 h2
  injection h1 with h1
  injection h1 with h1
  rw[h1,Hf h2]
theorem aat:∀w:List Int,lO (ktD 7) (w.map D.int)=some (kw w)
 |[]=>rfl
 |a::w=>by
  show((ktD 7<|.int a).bind λk=>(lO (ktD 7)<|w.map D.int).map λks=>k::ks)=_;rw[aat w];rfl
theorem W9 (w:List Int):uz (.tup<|w.map D.int)=some (kw w):=aat w
theorem TF:∀{ks:List (List Kt)} {ds:List D},k∉ks->cA ks ds k=none
 |[],_,_=>by simp[cA]
 |a::ks,[],_=>by simp[cA]
 |a::ks,d::ds,h=>by
  have h1:a≠k:=λe=>h<|e▸ah;have h2:k∉ks:=λe=>h<|af _ e;unfold cA;rw[if_neg h1,TF h2]
theorem Ko:∀{ks:List (List Kt)} {ds:List D},ks.length=ds.length->k∈ks->cA ks (sY ks ds k d) k'=if k=k' then some d else cA ks ds k'
 |[],_,_,h=>by cases h
 |a::ks,[],h,_=>by simp at h
 |a::ks,x::ds,h,hk=>by
  have hl:ks.length=ds.length:=by simpa using h
  unfold sY cA;by_cases h1:a=k'
  ·rw[if_pos h1,if_pos h1];by_cases h2:a=k
   ·rw[if_pos h2,if_pos<|h2▸h1]
   ·rw[if_neg h2,if_neg λe=>h2<|by rw[h1,e]]
  ·rw[if_neg h1,if_neg h1];by_cases h2:k∈ks
   ·exact Ko hl h2
   ·have h3:a=k:=by
     rcases a8.mp hk with e|e
     ·exact e.symm
     ·exact absurd e h2
    have h4:k≠k':=λe=>h1 (by rw[h3,e]);rw[if_neg h4];have e:∀{ks:List (List Kt)} {ds:List D},k∉ks->ks.length=ds.length->sY ks ds k d=ds:=by
     intro ks;induction ks with
     |nil=>intro ds _ hl;cases ds with
      |nil=>rfl
      |cons _ _=>simp at hl
     |cons b ks ih=>intro ds hn hl;cases ds with
      |nil=>simp at hl
      |cons y ds=>
       unfold sY;rw[if_neg λ(e:b=k)=>hn<|e▸ah,ih (λe=>hn<|af _ e)<|by simpa using hl]
    rw[e h2 hl]
theorem Q3:∀{ks:List (List Kt)} {ds:List D},ks.length=ds.length->k∉ks->cA (ks++[k]) (ds++[d]) k'=if k=k' then some d else cA ks ds k'
 |[],[],_,_=>by simp[cA]
 |[],_::_,h,_=>by simp at h
 |a::ks,[],h,_=>by simp at h
 |a::ks,x::ds,h,hk=>by
  have ih:=Q3 (k:=k) (k':=k') (d:=d) (ks:=ks) (ds:=ds) (by simpa using h) λe=>hk<|af _ e;have hn:a≠k:=λe=>hk<|e▸ah;show cA (a::(ks++[k])) (x::(ds++[d])) k'=_;unfold cA;rw[ih];by_cases h1:a=k'
  ·rw[if_pos h1,if_neg λe=>hn (by rw[h1,e]),if_pos h1]
  ·rw[if_neg h1,if_neg h1]
theorem Gv {ks:List (List Kt)}:ks.any (λx=>decide<|x=k)=true↔k∈ks:=by simp_all
theorem Kh:∀{ks:List (List Kt)} {ds:List D},ks.length=ds.length->(sY ks ds k d).length=ks.length
 |[],[],_=>rfl
 |[],_::_,h=>by simp at h
 |a::ks,[],h=>by simp at h
 |a::ks,x::ds,h=>by
  have:=Kh (k:=k) (d:=d) (ks:=ks) (ds:=ds)<|by simpa using h
  simp[sY,this]
theorem wU {ks:List (List Kt)}{ds:List D}(hl:ks.length=ds.length):cA (gJ ks ds k d).1 (gJ ks ds k d).2 k'=if k=k' then some d else cA ks ds k':=by
 unfold gJ;by_cases h:ks.any (λx=>decide<|x=k)=true
 ·rw[if_pos h];exact Ko hl<|Gv.mp h
 ·rw[if_neg h];exact Q3 hl λz=>h<|Gv.mpr z
theorem Hv (hl:ks.length=ds.length):(gJ ks ds k d).1.length=(gJ ks ds k d).2.length/\(gJ ks ds k d).1.length<=ks.length+1:=by
 unfold gJ;by_cases h:ks.any (λx=>decide<|x=k)=true
 ·rw[if_pos h];exact⟨(Kh hl).symm,by simp⟩
 ·rw[if_neg h];exact⟨by simp[hl],by simp⟩
theorem bG (h1:h d m=some m1)(h2:g m1=.ok (.nx,m2)):bj h g (d::ds) m=bj h g ds m2:=by
 rw[bj,h1];simp only[h2]
abbrev Rc:=List D×List D
noncomputable def rD2 (r:Rc):D:=.tup [.tup r.1,.tup r.2]
noncomputable def rbm (s:Int)(n:Str)(r:Rc)(l:D):Rc:=if s=1 then(r.1++[.tup [.str n,l]],r.2) else(r.1,r.2++[.tup [.str n,l]])
noncomputable def fJ:Ws->List D
 | .nil=>[]
 | .cons l _ r=>l::fJ r
def rbg:Gm->Rc->D->Rc
 | .move s n _,r,l=>rbm s n r l
 |_,r,_=>r
noncomputable def yM:Gm->Ws
 | .fin _=>.nil
 | .deal _ ws=>ws
 | .move _ _ ws=>ws
mutual
def prG:List Int->Rc->Gm->List (List Int×Gm×Rc)
 |w,r,.fin d=>[(w,.fin d,r)]
 |w,r,.deal n ws=>(w,.deal n ws,r)::prW w (λ_=>r) 0 ws
 |w,r,.move s n ws=>(w,.move s n ws,r)::prW w (rbm s n r) 0 ws
def prW:List Int->(D->Rc)->Nat->Ws->List (List Int×Gm×Rc)
 |_,_,_,.nil=>[]
 |w,f,i,.cons l g r=>prG (w++[(i:Int)]) (f l) g++prW w f (i+1) r
end
mutual
theorem Us:∀(w:List Int) (r:Rc) (g:Gm),(prG w r g).map (λp=>(p.1,p.2.1))=plG w g
 |w,r,.fin d=>rfl
 |w,r,.deal n ws=>by
  show(w,Gm.deal n ws)::(prW w (λ_=>r) 0 ws).map _=(w,Gm.deal n ws)::plW w 0 ws;rw[Lf w _ 0 ws]
 |w,r,.move s n ws=>by
  show(w,Gm.move s n ws)::(prW w (rbm s n r) 0 ws).map _=(w,Gm.move s n ws)::plW w 0 ws;rw[Lf w _ 0 ws]
theorem Lf:∀(w:List Int) (f:D->Rc) (i:Nat) (ws:Ws),(prW w f i ws).map (λp=>(p.1,p.2.1))=plW w i ws
 |w,f,i,.nil=>rfl
 |w,f,i,.cons l g r=>by
  show(prG (w++[(i:Int)]) (f l) g++prW w f (i+1) r).map _=plG (w++[(i:Int)]) g++plW w (i+1) r;rw[bE,Us _ _ g,Lf w f (i+1) r]
end
def trD (p:List Int×Gm×Rc):D:=.tup [.tup<|p.1.map D.int,dG p.2.1,rD2 p.2.2]
theorem Nv:∀(ws:Ws) (k:Nat) (l:D),(fJ ws)[k]? = some l->∃g,(dWs ws)[k]? = some (.tup [l,g])
 | .nil,k,l,h=>by simp[fJ] at h
 | .cons a g r,0,l,h=>by
  have:a=l:=by simpa[fJ] using h
  exact⟨dG g,by simp[dWs,this]⟩
 | .cons a g r,k+1,l,h=>by
  obtain⟨x,e⟩:=Nv r k l (by simpa[fJ] using h);exact⟨x,by simpa[dWs] using e⟩
theorem ug:∀ws:Ws,(fJ ws).length=jA ws
 | .nil=>rfl
 | .cons _ _ r=>by simp[fJ,jA,ug r]
theorem adw {g:Gm}{r:Rc}{k:Nat}{l:D}(hl:(fJ<|yM g)[k]? = some l)(hg:iG g)(hr:r.1.length<=1000/\r.2.length<=1000)(hs:∀s n ws,g=.move s n ws->s=1\/s=2):
  d8 [dG g,rD2 r,.int (k:Int)]=.ok (false,rD2<|rbg g r l):=by
 have x30:∀a b c:D,atI [a,b,c] 0=some a:=λ_ _ _=>rfl;have x40:∀a b c d:D,atI [a,b,c,d] 0=some a:=λ_ _ _ _=>rfl;have x41:∀a b c d:D,atI [a,b,c,d] 1=some b:=λ_ _ _ _=>rfl;have x42:∀a b c d:D,atI [a,b,c,d] 2=some c:=λ_ _ _ _=>rfl;have x43:∀a b c d:D,atI [a,b,c,d] 3=some d:=λ_ _ _ _=>rfl;have x20:∀a b:D,atI [a,b] 0=some a:=λ_ _=>rfl;have x21:∀a b:D,atI [a,b] 1=some b:=λ_ _=>rfl;cases g with
 |fin d=>simp[yM,fJ] at hl
 |deal n ws=>simp[d8,fV,fZ,aX,aK,gIf,aN,az,aa,fC,gIx,dG,x30,bM,aG,Me.let,Sl.let,rbg]
 |move s n ws=>
  obtain⟨y,ey⟩:=Nv ws k l hl;have ez:=lL ey;have z1:r.1.length+1<=16777216:=by lia
  have z2:r.2.length+1<=16777216:=by lia
  rcases hs s n ws rfl with rfl|rfl
  ·simp[d8,fV,fZ,aX,aK,gIf,aN,az,aa,fC,gIx,dG,x40,x41,x42,x43,bM,aG,Me.let,Sl.let,rbg,gNx,bc,aY,aj,aB,ez,x20,x21,rD2,bU,z1,rbm]
  ·simp[d8,fV,fZ,aX,aK,gIf,aN,az,aa,fC,gIx,dG,x40,x41,x42,x43,bM,aG,Me.let,Sl.let,rbg,gNx,bc,aY,aj,aB,ez,x20,x21,rD2,bU,z2,rbm]
theorem aed (w:List Int)(j:Int):kw (w++[j])≠kw w:=λh=>by
 have:=Hf h
 have:=congrArg wq this
 simp at this
theorem abQ (h:i≠j):kw (w++[i])≠kw (w++[j]):=λe=>h<|by simpa using Hf e
theorem Uv {g0 s2 s5:Sl}{ks:List (List Kt)}{ds:List D}{w:List Int}{g:Gm}{r:Rc}{k:Nat}{l:D}(hv:cA ks ds (kw w)=some (rD2 r))(hk:(fJ<|yM g)[k]? = some l)(hg:iG g)(hr:r.1.length<=1000/\r.2.length<=1000)
  (hs:∀s n ws,g=.move s n ws->s=1\/s=2) (hz:ks.length<=10000000) (hw:w.length<=1000):
  cR [g0,.ow<|.dcu ks ds,s2,.fz<|.tup<|w.map D.int,.fz<|dG g,.fz<|.int (k:Int)]=.ok (.nx,[g0,.ow<|.dcu (gJ ks ds (kw<|w++[(k:Int)])<|rD2<|rbg g r l).1 (gJ ks ds (kw<|w++[(k:Int)])<|rD2<|rbg g r l).2,s2,.fz<|.tup<|w.map D.int,.fz<|dG g,.fz<|.int (k:Int)]):=by
 have e:=adw hk hg hr hs;have z1:ks.length<16777216:=by lia
 have z2:w.length+1<=16777216:=by lia
 have kk:uz (.tup<|w.map D.int++[.int (k:Int)])=some (kw<|w++[(k:Int)]):=by
  rw[← W9];simp
 have kk2:uz (.tup<|w.map D.int)=some (kw w):=W9 w;simp[cR,qN,fFn,aj,aB,aG,az,aa,jV,dcK,kk2,hv,e,zc,aY,bU,z2,kk,z1,ni]
theorem JG {g0 s2:Sl}{w:List Int}{g:Gm}{r:Rc}(hg:iG g)(hr:r.1.length<=1000/\r.2.length<=1000)(hs:∀s n ws,g=.move s n ws->s=1\/s=2)(hw:w.length<=1000):
  ∀(c i:Nat) (ks:List (List Kt)) (ds:List D) (s5:Sl),i+c=(fJ<|yM g).length->ks.length=ds.length->cA ks ds (kw w)=some (rD2 r)->ks.length+c<=1000000->
   ∃ks' ds' s5',bj (hName 5) cR ((jI i c).map λ(k:Nat)=>D.int k) [g0,.ow<|.dcu ks ds,s2,.fz<|.tup<|w.map D.int,.fz<|dG g,s5]=.ok (.nx,[g0,.ow<|.dcu ks' ds',s2,.fz<|.tup<|w.map D.int,.fz<|dG g,s5'])/\ks'.length=ds'.length/\ks'.length<=ks.length+c/\
    (∀j l,i<=j->(fJ<|yM g)[j]? = some l->cA ks' ds' (kw<|w++[(j:Int)])=some (rD2<|rbg g r l))/\(∀k',(∀j:Nat,i<=j->k'≠kw (w++[(j:Int)]))->cA ks' ds' k'=cA ks ds k')
 |0,i,ks,ds,s5,hc,hl,hv,hz=>⟨ks,ds,s5,rfl,hl,by lia,λj l h1 h2=>by
   have:=(fN.mp h2).1
   lia,λ_ _=>rfl⟩
 |c+1,i,ks,ds,s5,hc,hl,hv,hz=>by
  have hi:i<(fJ<|yM g).length:=by lia
  obtain⟨l,el⟩:∃l,(fJ<|yM g)[i]? = some l:=⟨_,av hi⟩;have st:=Uv (g0:=g0) (s2:=s2) (s5:=s5) hv el hg hr hs (by lia) hw;have hv1:cA (gJ ks ds (kw<|w++[(i:Int)])<|rD2<|rbg g r l).1 (gJ ks ds (kw<|w++[(i:Int)])<|rD2<|rbg g r l).2 (kw w)=some (rD2 r):=by rw[wU hl,if_neg<|aed w i];exact hv
  obtain⟨l1,l2⟩:=Hv (k:=kw<|w++[(i:Int)]) (d:=rD2<|rbg g r l) hl;refine Pg (JG (g0:=g0) (s2:=s2) (w:=w) (g:=g) (r:=r) hg hr hs hw c (i+1) _ _ (.fz<|.int (i:Int)) (by lia) l1 hv1<|by lia) λks' ds' s5' e a1 a2 a3 a4=>?_;refine⟨ks',ds',s5',?_,a1,by lia,λj l' h1 h2=>?_,λk' h=>?_⟩
  ·rw[fA,ar];rw[bG (m1:=[g0,.ow<|.dcu ks ds,s2,.fz<|.tup<|w.map D.int,.fz<|dG g,.fz<|.int (i:Int)]) rfl st];exact e
  ·by_cases q:i=j
   ·subst q;rw[a4 _ λj hj=>abQ (by lia),wU hl,if_pos rfl];rw[el] at h2;cases h2;rfl
   ·exact a3 j l' (by lia) h2
  ·rw[a4 k' λj hj=>h j (by lia),wU hl,if_neg λq=>h i (ay _) q.symm]
mutual
def sdG:Gm->Prop
 | .fin _=>True
 | .deal _ ws=>sdW ws
 | .move s _ ws=>(s=1\/s=2)/\sdW ws
def sdW:Ws->Prop
 | .nil=>True
 | .cons _ g r=>sdG g/\sdW r
end
abbrev hPl:Zba:=iW 2<|bC (hName 3)<|bC (hName 4) iM
theorem Ah (g:Gm):kids g=iR (yM g):=by cases g<;>rfl
theorem Cu (hl:ks.length=ds.length)(hv:cA ks ds (kw w)=some (rD2 r))(hg:iG g)(hr:r.1.length<=1000/\r.2.length<=1000)
  (hs:∀s n ws,g=.move s n ws->s=1\/s=2) (hz:ks.length<=100000) (hf:found.length<=100000) (hw:w.length<=1000):
  ∃ks' ds' s5',(hPl (pD (w,g)) [g0,.ow<|.dcu ks ds,.ow<|.lst found,s3,s4,s5]=some [g0,.ow<|.dcu ks ds,.ow<|.lst found,.fz<|.tup<|w.map D.int,.fz<|dG g,s5])/\
   bf [g0,.ow<|.dcu ks ds,.ow<|.lst found,.fz<|.tup<|w.map D.int,.fz<|dG g,s5]=.ok (.nx,[g0,.ow<|.dcu ks' ds',.ow<|.lst<|found++[trD (w,g,r)],.fz<|.tup<|w.map D.int,.fz<|dG g,s5'])/\ks'.length=ds'.length/\ks'.length<=ks.length+jA (yM g)/\
    (∀(j:Nat) (l:D),(fJ<|yM g)[j]? = some l->cA ks' ds' (kw<|w++[(j:Int)])=some (rD2<|rbg g r l))/\(∀k',(∀j:Nat,k'≠kw (w++[(j:Int)]))->cA ks' ds' k'=cA ks ds k'):=by
 have hb:=zA hg;have hk:=xX hg;have ek:(kids g).length=(fJ<|yM g).length:=by rw[Ah,gP,ug]
 refine Pg (JG (g0:=g0) (s2:=.ow<|.lst<|found++[trD (w,g,r)]) (w:=w) (g:=g) (r:=r) hg hr hs hw (kids g).length 0 ks ds s5 (by lia) hl hv<|by lia) λks' ds' s5' e a1 a2 a3 a4=>?_;refine⟨ks',ds',s5',rfl,?_,a1,by rw[← ug,← ek];exact a2,λj l h=>a3 j l (eT _) h,λk' h=>a4 k' λj _=>h j⟩;have z1:found.length<16777216:=by lia
 have z3:((kids g).length:Int)<4611686018427387904:=by lia
 have kk2:uz (.tup<|w.map D.int)=some (kw w):=W9 w;have eL:fQ [g0,.ow<|.dcu ks ds,.ow<|.lst<|found++[trD (w,g,r)],.fz<|.tup<|w.map D.int,.fz<|dG g,s5]=.ok (.nx,[g0,.ow<|.dcu ks' ds',.ow<|.lst<|found++[trD (w,g,r)],.fz<|.tup<|w.map D.int,.fz<|dG g,s5']):=by
  have e1:(aj (aQ dW<|aj (fFn iV<|aj (aG 4) aB) aB) aB) [g0,.ow<|.dcu ks ds,.ow<|.lst<|found++[trD (w,g,r)],.fz<|.tup<|w.map D.int,.fz<|dG g,s5]=.ok [.int ((kids g).length:Int)]:=by
   simp[aQ,dW,fFn,aj,aB,aG,hb]
  have e2:=GD e1 (by lia) (by lia);unfold fQ dg;rw[e2];show bj (hName 5) cR ((cf (kids g).length).map λ(k:Nat)=>D.int k) _=_;rw[f6];exact e
 simp only[trD] at eL ⊢;simp[bf,aK,cP,aY,aj,aB,aG,az,aa,jV,dcK,kk2,hv,j9,putL,z1,eL]
theorem Jg (ws:Ws):(iR ws).length<=((iR ws).map szG).sum:=by
 induction iR ws with
 |nil=>exact eT _
 |cons g l ih=>have:=uM g;simp;lia
mutual
theorem Ig:∀(w:List Int) (g:Gm),(plG w g).length=szG g
 |w,.fin d=>rfl
 |w,.deal n ws=>by show(plW w 0 ws).length+1=szW ws+1;rw[Hq w 0 ws]
 |w,.move s n ws=>by show(plW w 0 ws).length+1=szW ws+1;rw[Hq w 0 ws]
theorem Hq:∀(w:List Int) (i:Nat) (ws:Ws),(plW w i ws).length=szW ws
 |w,i,.nil=>rfl
 |w,i,.cons l g r=>by show(plG (w++[(i:Int)]) g++plW w (i+1) r).length=szG g+szW r;rw[bg,Ig _ g,Hq w (i+1) r]
end
mutual
theorem T3 (g0:Sl):∀(g:Gm) (w:List Int) (r:Rc) (ks:List (List Kt)) (ds found:List D) (s3 s4 s5:Sl) (rest:List D),ks.length=ds.length->cA ks ds (kw w)=some (rD2 r)->iG g->sdG g->r.1.length+dp g<=1000->r.2.length+dp g<=1000->w.length+dp g<=1000->
  ks.length+szG g<=100001->found.length+szG g<=100000->
  ∃ks' ds' s3' s4' s5',bj hPl bf ((plG w g).map pD++rest) [g0,.ow<|.dcu ks ds,.ow<|.lst found,s3,s4,s5]=bj hPl bf rest [g0,.ow<|.dcu ks' ds',.ow<|.lst<|found++(prG w r g).map trD,s3',s4',s5']/\ks'.length=ds'.length/\ks'.length+1<=ks.length+szG g/\
   (∀k',(∀u:List Int,u≠[]->k'≠kw (w++u))->cA ks' ds' k'=cA ks ds k')
 | .fin d,w,r,ks,ds,found,s3,s4,s5,rest,hl,hv,hg,hs,r1,r2,hw,hz,hf=>by
  have hsz:szG (.fin d)=1:=rfl;refine Cp (Cu (g0:=g0) (s3:=s3) (s4:=s4) (s5:=s5) (found:=found) (g:=.fin d) hl hv hg ⟨by lia,by lia⟩ (λ_ _ _ z=>by cases z) (by lia) (by lia) (by lia)) λks' ds' s5' e1 e2 a1 a2 a3 a4=>?_;refine⟨ks',ds',.fz<|.tup<|w.map D.int,.fz<|dG<|.fin d,s5',?_,a1,by simpa[yM,jA,szG] using a2,λk' h=>a4 k' λj=>h [(j:Int)]<|by simp⟩;show bj hPl bf (pD (w,.fin d)::rest) _=_;rw[bG e1 e2];rfl
 | .deal n ws,w,r,ks,ds,found,s3,s4,s5,rest,hl,hv,hg,hs,r1,r2,hw,hz,hf=>by
  have hsz:szG (.deal n ws)=szW ws+1:=rfl;have hdp:dp (.deal n ws)=dpW ws+1:=rfl;have hlw:jA ws<=szW ws:=by rw[← gP,yo];exact Jg ws
  refine Cp (Cu (g0:=g0) (s3:=s3) (s4:=s4) (s5:=s5) (found:=found) (g:=.deal n ws) hl hv hg ⟨by lia,by lia⟩ (λ_ _ _ z=>by cases z) (by lia) (by lia) (by lia)) λks' ds' s5' e1 e2 a1 a2 a3 a4=>?_;have a2:ks'.length<=ks.length+jA ws:=a2;obtain⟨kt,dt,t3,t4,t5,e,b1,b2,b3⟩:=La g0 ws w (λ_=>r) 0 ks' ds' (found++[trD (w,.deal n ws,r)]) (.fz<|.tup<|w.map D.int) (.fz<|dG<|.deal n ws) s5' rest a1 (λj l h=>by rw[A7];exact a3 j l h) hg.2 hs (λl=>by lia) (λl=>by lia) (by lia) (by lia) (by rw[bg,eD];lia);refine⟨kt,dt,t3,t4,t5,?_,b1,by lia,λk' h=>?_⟩
  ·show bj hPl bf (pD (w,.deal n ws)::((plW w 0 ws).map pD++rest)) _=_;rw[bG e1 e2,e];show bj _ _ _ [_,_,.ow<|.lst<|found++[trD (w,.deal n ws,r)]++(prW w (λ_=>r) 0 ws).map trD,_,_,_]=bj _ _ _ [_,_,.ow<|.lst<|found++(trD (w,.deal n ws,r)::(prW w (λ_=>r) 0 ws).map trD),_,_,_];rw[eK];rfl
  ·rw[b3 k' λj u hu=>h _ (by simp),a4 k' λj=>h [(j:Int)]<|by simp]
 | .move s n ws,w,r,ks,ds,found,s3,s4,s5,rest,hl,hv,hg,hs,r1,r2,hw,hz,hf=>by
  have hsz:szG (.move s n ws)=szW ws+1:=rfl;have hdp:dp (.move s n ws)=dpW ws+1:=rfl;have hlw:jA ws<=szW ws:=by rw[← gP,yo];exact Jg ws
  obtain⟨ks',ds',s5',e1,e2,a1,a2,a3,a4⟩:=Cu (g0:=g0) (s3:=s3) (s4:=s4) (s5:=s5) (found:=found) (g:=.move s n ws) hl hv hg ⟨by lia,by lia⟩ (λ_ _ _ z=>by cases z;exact hs.1) (by lia) (by lia) (by lia);have a2:ks'.length<=ks.length+jA ws:=a2;have rl:∀l,(rbm s n r l).1.length<=r.1.length+1/\(rbm s n r l).2.length<=r.2.length+1:=λl=>by
   unfold rbm;split<;>simp
  obtain⟨kt,dt,t3,t4,t5,e,b1,b2,b3⟩:=La g0 ws w (rbm s n r) 0 ks' ds' (found++[trD (w,.move s n ws,r)]) (.fz<|.tup<|w.map D.int) (.fz<|dG<|.move s n ws) s5' rest a1 (λj l h=>by rw[A7];exact a3 j l h) hg.2 hs.2 (λl=>by have:=(rl l).1;lia) (λl=>by have:=(rl l).2;lia) (by lia) (by lia) (by rw[bg,eD];lia);refine⟨kt,dt,t3,t4,t5,?_,b1,by lia,λk' h=>?_⟩
  ·show bj hPl bf (pD (w,.move s n ws)::((plW w 0 ws).map pD++rest)) _=_;rw[bG e1 e2,e];show bj _ _ _ [_,_,.ow<|.lst<|found++[trD (w,.move s n ws,r)]++(prW w (rbm s n r) 0 ws).map trD,_,_,_]=bj _ _ _ [_,_,.ow<|.lst<|found++(trD (w,.move s n ws,r)::(prW w (rbm s n r) 0 ws).map trD),_,_,_];rw[eK];rfl
  ·rw[b3 k' λj u hu=>h _ (by simp),a4 k' λj=>h [(j:Int)]<|by simp]
theorem La (g0:Sl):∀(ws:Ws) (w:List Int) (f:D->Rc) (i:Nat) (ks:List (List Kt)) (ds found:List D) (s3 s4 s5:Sl) (rest:List D),ks.length=ds.length->(∀(j:Nat) (l:D),(fJ ws)[j]? = some l->cA ks ds (kw<|w++[((i+j:Nat):Int)])=some (rD2<|f l))->zU ws->sdW ws->
  (∀l,(f l).1.length+dpW ws<=1000)->(∀l,(f l).2.length+dpW ws<=1000)->w.length+1+dpW ws<=1000->ks.length+szW ws<=100000+jA ws->found.length+szW ws<=100000->
  ∃ks' ds' s3' s4' s5',bj hPl bf ((plW w i ws).map pD++rest) [g0,.ow<|.dcu ks ds,.ow<|.lst found,s3,s4,s5]=bj hPl bf rest [g0,.ow<|.dcu ks' ds',.ow<|.lst<|found++(prW w f i ws).map trD,s3',s4',s5']/\ks'.length=ds'.length/\ks'.length+jA ws<=ks.length+szW ws/\
   (∀k',(∀(j:Nat) (u:List Int),u≠[]->k'≠kw (w++((i+j:Nat):Int)::u))->cA ks' ds' k'=cA ks ds k')
 | .nil,w,f,i,ks,ds,found,s3,s4,s5,rest,hl,hv,hg,hs,r1,r2,hw,hz,hf=>⟨ks,ds,s3,s4,s5,by simp[plW,prW],hl,by simp[jA,szW],λ_ _=>rfl⟩
 | .cons l g r,w,f,i,ks,ds,found,s3,s4,s5,rest,hl,hv,hg,hs,r1,r2,hw,hz,hf=>by
  have hsz:szW (.cons l g r)=szG g+szW r:=rfl;have hdp:dpW (.cons l g r)=max (dp g) (dpW r):=rfl;have hlw:jA (.cons l g r)=jA r+1:=rfl;have hl2:jA r<=szW r:=by rw[← gP,yo];exact Jg r
  have hp:=uM g;have q1:=r1 l;have q2:=r2 l;obtain⟨ks',ds',t3,t4,t5,e,a1,a2,a3⟩:=T3 g0 g (w++[(i:Int)]) (f l) ks ds found s3 s4 s5 ((plW w (i+1) r).map pD++rest) hl (hv 0 l rfl) hg.1 hs.1 (by lia) (by lia) (by rw[bg,eD];lia) (by lia) (by lia);have pl:(prG (w++[(i:Int)]) (f l) g).length=szG g:=by rw[← bp (f:=λp=>(p.1,p.2.1)),Us];exact Ig _ g
  obtain⟨kt,dt,u3,u4,u5,e',b1,b2,b3⟩:=La g0 r w f (i+1) ks' ds' (found++(prG (w++[(i:Int)]) (f l) g).map trD) t3 t4 t5 rest a1 (λj l' h=>by
   rw[a3 _ λu hu z=>?_,← hv (j+1) l' (by simpa[fJ] using h),show i+(j+1)=i+1+j by lia]
   have:=Hf z
   simp at this
   lia) hg.2 hs.2 (λl=>by have:=r1 l;lia) (λl=>by have:=r2 l;lia) (by lia) (by lia) (by rw[bg,bp,pl];lia)
  refine⟨kt,dt,u3,u4,u5,?_,b1,by lia,λk' h=>?_⟩
  ·show bj _ _ ((plG (w++[(i:Int)]) g++plW w (i+1) r).map pD++rest) _=_;rw[bE,eK,e,e'];show _=bj _ _ _ [_,_,.ow<|.lst<|found++(prG (w++[(i:Int)]) (f l) g++prW w f (i+1) r).map trD,_,_,_];rw[bE,eK]
  ·rw[b3 k' λj u hu=>by have:=h (j+1) u hu;rw[show i+(j+1)=i+1+j by lia] at this;exact this];refine a3 k' λu hu=>?_
   have:=h 0 u hu
   simpa using this
end
theorem aah (e:L [.fz d,.ow<|.dcu [[]] [rD2 ([],[])],.ow<|.lst [],.un,.un,.un]=.ok (.nx,[.fz d,a,.ow<|.lst ps,s3,s4,s5])):aX 6 1 (eN L) [d]=.ok (true,.lst ps):=by
 have k0:uz (.tup [])=some []:=rfl;simp only[rD2] at e;simp[aX,eN,aK,cX,M4,aY,aB,aj,k0,fU,e,gU]
theorem ab1 (h:iG g)(hs:sdG g)(hd:dp g<=50)(hz:szG g<=10000):eG [dG g]=.ok (true,.lst<|(prG [] ([],[]) g).map trD):=by
 have e:=places_eq h hd (by lia);obtain⟨ks',ds',s3',s4',s5',e2,_⟩:=T3 (.fz<|dG g) g [] ([],[]) [[]] [rD2 ([],[])] [] .un .un .un [] rfl (by simp[cA,kw]) h hs (by simp;lia) (by simp;lia) (by simp;lia) (by simp;lia) (by simp;lia);refine aah (a:=.ow<|.dcu ks' ds') (s3:=s3') (s4:=s4') (s5:=s5') ?_;have e1:fL (fFn o9<|aj (aG 0) aB) [.fz<|dG g,.ow<|.dcu [[]] [rD2 ([],[])],.ow<|.lst [],.un,.un,.un]=.ok ((plG [] g).map pD):=by
  simp[fL,fFn,aj,aB,aG,e]
 unfold jw dg;rw[e1];rw[eR] at e2;exact e2
noncomputable def gm (r:Rc)(s:Int):List D:=if s=1 then r.1 else r.2
def gM (s:Int)(n:Str)(ws:Ws)(r:Rc):D:=.tup [.int s,.str n,.tup<|fJ ws,.tup<|gm r s]
theorem yz:∀ws:Ws,fK (iW 2<|bC (hName 0)<|bC (hName 1) iM) jn (aG 0) [.un,.un] (dWs ws)=.ok (fJ ws)
 | .nil=>rfl
 | .cons l g r=>by
  have ih:=yz r;have e:aG 0 [.fz l,.fz<|dG g]=.ok l:=rfl;unfold dWs fK;simp[iW,bC,hName,iM,jn,e,ih,fJ]
theorem Ul (h:jA ws<=100):sJ [dG<|.move s n ws]=.ok (false,.tup<|fJ ws):=by
 have x4:∀a b c d:D,atI [a,b,c,d] 3=some d:=λ_ _ _ _=>rfl;have hz:(fJ ws).length<=16777216:=by rw[ug];lia
 have hz2:(dWs ws).length<=16777216:=by rw[sy];lia
 have e:rY [.fz<|dG<|.move s n ws]=.ok (.lst<|fJ ws):=by
  simp[rY,dX,jB,az,aa,fC,gIx,dG,x4,cMe,yz,hz,hz2]
 simp[sJ,wk,wj,aX,bM,aQ,aj,aB,Me.let,Sl.let,e,gh,hz]
theorem abe (h:jA ws<=100)(hs:s=1\/s=2):tL [dG<|.move s n ws,rD2 r]=.ok (false,gM s n ws r):=by
 have e:=Ul (s:=s) (n:=n) h;have x1:∀a b c d:D,atI [a,b,c,d] 1=some b:=λ_ _ _ _=>rfl;have x2:∀a b c d:D,atI [a,b,c,d] 2=some c:=λ_ _ _ _=>rfl;have y0:∀a b:D,atI [a,b] 0=some a:=λ_ _=>rfl;have y1:∀a b:D,atI [a,b] 1=some b:=λ_ _=>rfl;simp only[dG] at e;rcases hs with rfl|rfl
 ·simp[tL,xF,xR,aX,bM,Me.let,Sl.let,aY,aj,aB,az,aa,fC,gIx,dG,x1,x2,fFn,aG,e,rD2,F.dN,y0,y1,gM,gm]
 ·simp[tL,xF,xR,aX,bM,Me.let,Sl.let,aY,aj,aB,az,aa,fC,gIx,dG,x1,x2,fFn,aG,e,rD2,F.dN,y0,y1,gM,gm]
abbrev Tb:=List (List Kt)×List D
noncomputable def kn (s:Int)(n:Str):List Kt:=[.k<|.inl s,.k<|.inr n]
def tst (T:Tb)(p:List Int×Gm×Rc):Tb:=match p.2.1 with
 | .move s n ws=>if(cA T.1 T.2<|kn s n).isSome then T else(T.1++[kn s n],T.2++[gM s n ws p.2.2])
 |_=>T
def tbl (l:List (List Int×Gm×Rc)):Tb:=l.foldl tst ([],[])
theorem O5 (T:Tb)(p:List Int×Gm×Rc):(tst T p).1.length<=T.1.length+1:=by grind[tst]
def okP (p:List Int×Gm×Rc):Prop:=match p.2.1 with
 | .move s _ ws=>(s=1\/s=2)/\jA ws<=100
 |_=>True
theorem Vh (hp:okP p)(hz:T.1.length<=100000):∃m1,iW 3 (bC (hName 2)<|bC (hName 3)<|bC (hName 4) iM) (trD p) [g0,.ow<|.dcu T.1 T.2,s2,s3,s4]=some m1/\
  gC m1=.ok (.nx,[g0,.ow<|.dcu (tst T p).1 (tst T p).2,.fz<|.tup<|p.1.map D.int,.fz<|dG p.2.1,.fz<|rD2 p.2.2]):=by
 refine⟨[g0,.ow<|.dcu T.1 T.2,.fz<|.tup<|p.1.map D.int,.fz<|dG p.2.1,.fz<|rD2 p.2.2],rfl,?_⟩;obtain⟨w,g,r⟩:=p;have x20:∀a b:D,atI [a,b] 0=some a:=λ_ _=>rfl;have x30:∀a b c:D,atI [a,b,c] 0=some a:=λ_ _ _=>rfl;have x40:∀a b c d:D,atI [a,b,c,d] 0=some a:=λ_ _ _ _=>rfl;have x41:∀a b c d:D,atI [a,b,c,d] 1=some b:=λ_ _ _ _=>rfl;have x42:∀a b c d:D,atI [a,b,c,d] 2=some c:=λ_ _ _ _=>rfl;cases g with
 |fin d=>simp[gC,gIf,aN,az,aa,fC,gIx,dG,x20,gNx,tst]
 |deal n ws=>simp[gC,gIf,aN,az,aa,fC,gIx,dG,x30,gNx,tst]
 |move s n ws=>
  have hp:(s=1\/s=2)/\jA ws<=100:=hp;have e:=abe (n:=n) (r:=r) hp.2 hp.1;simp only[dG] at e;have kk:uz (.tup [.int s,.str n])=some (kn s n):=rfl;have z1:T.1.length<16777216:=by lia
  by_cases q:(cA T.1 T.2<|kn s n).isSome=true
  ·simp[gC,gIf,aN,az,aa,fC,gIx,dG,x40,x41,x42,aaf,zc,aY,aj,aB,fFn,aG,e,kk,z1,tst,q,ni]
  ·simp[gC,gIf,aN,az,aa,fC,gIx,dG,x40,x41,x42,aaf,zc,aY,aj,aB,fFn,aG,e,kk,z1,tst,q,ni]
theorem Kl:∀(l:List (List Int×Gm×Rc)) (T:Tb) (s2 s3 s4:Sl),(∀p∈l,okP p)->T.1.length+l.length<=100000->∃s2' s3' s4',bj (iW 3<|bC (hName 2)<|bC (hName 3)<|bC (hName 4) iM) gC (l.map trD) [g0,.ow<|.dcu T.1 T.2,s2,s3,s4]=.ok (.nx,[g0,.ow<|.dcu (l.foldl tst T).1 (l.foldl tst T).2,s2',s3',s4'])
 |[],T,s2,s3,s4,_,_=>⟨s2,s3,s4,rfl⟩
 |p::l,T,s2,s3,s4,hp,hz=>by
  have hz':T.1.length+(l.length+1)<=100000:=hz;obtain⟨m1,e1,e2⟩:=Vh (g0:=g0) (s2:=s2) (s3:=s3) (s4:=s4) (T:=T) (hp p ah)<|by lia
  have:=O5 T p
  obtain⟨a,b,c,e⟩:=Kl l (tst T p) (.fz<|.tup<|p.1.map D.int) (.fz<|dG p.2.1) (.fz<|rD2 p.2.2) (λq hq=>hp q<|af _ hq) (by lia);exact⟨a,b,c,by rw[ar,bG e1 e2,e];rfl⟩
theorem tab_run (e:L [.fz d,.ow<|.dcu [] [],.un,.un,.un]=.ok (.nx,[.fz d,.ow<|.dcu ks ds,s2,s3,s4])):aX 5 1 (rZ L) [d]=.ok (true,.lst ds):=by
 simp[aX,rZ,aK,cX,sW,e,nj,Me.let,Sl.let,Nf,aa]
mutual
theorem Ge:∀(w:List Int) (r:Rc) (g:Gm),iG g->sdG g->∀p∈prG w r g,okP p
 |w,r,.fin d,_,_,p,hp=>by
  have:p=(w,.fin d,r):=by simpa[prG] using hp
  rw[this];exact hJ
 |w,r,.deal n ws,h,hs,p,hp=>by
  rcases a8.mp (show p∈(w,Gm.deal n ws,r)::prW w (λ_=>r) 0 ws from hp) with e|e
  ·rw[e];exact hJ
  ·exact Mh w _ 0 ws h.2 hs p e
 |w,r,.move s n ws,h,hs,p,hp=>by
  rcases a8.mp (show p∈(w,Gm.move s n ws,r)::prW w (rbm s n r) 0 ws from hp) with e|e
  ·rw[e];exact⟨hs.1,h.1⟩
  ·exact Mh w _ 0 ws h.2 hs.2 p e
theorem Mh:∀(w:List Int) (f:D->Rc) (i:Nat) (ws:Ws),zU ws->sdW ws->∀p∈prW w f i ws,okP p
 |w,f,i,.nil,_,_,p,hp=>by cases hp
 |w,f,i,.cons l g r,h,hs,p,hp=>by
  rcases c6.mp (show p∈prG (w++[(i:Int)]) (f l) g++prW w f (i+1) r from hp) with e|e
  ·exact Ge _ _ g h.1 hs.1 p e
  ·exact Mh w f (i+1) r h.2 hs.2 p e
end
theorem Jh (w:List Int)(r:Rc)(g:Gm):(prG w r g).length=szG g:=by rw[← bp (f:=λp=>(p.1,p.2.1)),Us];exact Ig _ g
theorem table_eq (h:iG g)(hs:sdG g)(hd:dp g<=50)(hz:szG g<=10000):vN [dG g]=.ok (true,.lst (tbl<|prG [] ([],[]) g).2):=by
 have e:=ab1 h hs hd hz;obtain⟨a,b,c,e2⟩:=Kl (g0:=.fz<|dG g) (prG [] ([],[]) g) ([],[]) .un .un .un (Ge _ _ g h hs) (by rw[Jh];simp;lia);refine tab_run (ks:=(tbl<|prG [] ([],[]) g).1) (s2:=a) (s3:=b) (s4:=c) ?_;have e1:fL (fFn eG<|aj (aG 0) aB) [.fz<|dG g,.ow<|.dcu [] [],.un,.un,.un]=.ok ((prG [] ([],[]) g).map trD):=by
  simp[fL,fFn,aj,aB,aG,e]
 unfold yf dg;rw[e1];exact e2
end Pk
namespace F
open PySem L2 Hd
noncomputable def rq (r:Rat):Q2:=(r.num,(r.den:Int))
def rD (r:Rat):D:=qD<|rq r
theorem pG (r:Rat):rD r=.tup [.int r.num,.int r.den]:=rfl
theorem ik (r:Rat):1<=(r.den:Int):=by have:=r.den_pos;lia
theorem WQ (r:Rat):gI r.num r.den=1:=by
 unfold gI
 have:=r.reduced
 unfold BE at this;show((tj r.num (r.den:Int):Nat):Int)=1;unfold tj;simp[this]
theorem HY (hb:b≠0):(lt t b,lb t b)=rq (cq t b):=by
 have h:=pf<|cq t b;have hd:((cq t b).den:Int)≠0:=by have:=ik<|cq t b;lia
 have h2:=(vv hd hb).mp h;obtain⟨z1,z2⟩:=abF hb (ik<|cq t b) (WQ<|cq t b) (t:=t) h2.symm;exact BN z1 z2
theorem Jd (r:Rat):cq r.num r.den=r:=pf r
theorem VP (a b:Rat):cq (a.num*b.den+b.num*a.den) (a.den*b.den)=a+b:=by
 have ha:=ik a;have hb:=ik b;rw[← Rat.divInt_add_divInt _ _ (by lia) (by lia),Jd,Jd]
theorem Vf (a b:Rat):cq (a.num*b.num) (a.den*b.den)=a*b:=by
 rw[← Rat.divInt_mul_divInt,Jd,Jd]
def Sz (k:Nat)(r:Rat):Prop:=r.num.natAbs<2^k/\r.den<2^k
theorem Sz.mono (h:Sz k r)(e:k<=l):Sz l r:=⟨dh h.1 e,dh h.2 e⟩
theorem GZ (hb:b≠0)(h1:t.natAbs<2^k)(h2:b.natAbs<2^k):Sz k (cq t b):=by
 have e:=HY (t:=t) hb;have e1:=congrArg AY e;have e2:=congrArg Prod.snd e;have e1:lt t b=(cq t b).num:=e1;have e2:lb t b=((cq t b).den:Int):=e2;have l1:=aaQ (t:=t) hb;have l2:=aaK (t:=t) hb;rw[e1] at l1;rw[e2] at l2;exact⟨by lia,by lia⟩
theorem T8 (ha:Sz k a)(hb:Sz l b):Sz (k+l+1) (a+b):=by
 rw[← VP];have pa:=ik a;have pb:=ik b;have h1:(a.num*b.den).natAbs<2^(k+l):=rO ha.1 (by simpa using hb.2);have h2:(b.num*a.den).natAbs<2^(k+l):=by rw[Nat.add_comm];exact rO hb.1<|by simpa using ha.2
 have h3:((a.den:Int)*b.den).natAbs<2^(k+l):=rO (by simpa using ha.2) (by simpa using hb.2);refine GZ ?_ (abv h1 h2)<|dh h3 (by lia);exact yY (by lia)<|by lia
theorem GC (ha:Sz k a)(hb:Sz l b):Sz (k+l) (a*b):=by
 rw[← Vf];have pa:=ik a;have pb:=ik b;refine GZ (yY (by lia)<|by lia) (rO ha.1 hb.1)<|rO (by simpa using ha.2) (by simpa using hb.2)
theorem Ak:Sz 1 0:=⟨by decide,by decide⟩
theorem Hc:Sz 1 1:=⟨by decide,by decide⟩
theorem Jm (h:Sz k r)(hk:k<=4000):Bq r.num/\Bq (r.den:Int):=⟨jJ<|dh h.1 (by lia),jJ<|dh (by simpa using h.2) (by lia)⟩
theorem acI (h:Sz k a)(g:Sz l b)(hk:k+l<=4000):Bq ((a.den:Int)*b.den):=jJ<|dh (rO (by simpa using h.2) (by simpa using g.2)) (by lia)
theorem JL (a b:Rat):(a.den:Int)*b.den≠0:=yY (by have:=ik a;lia) (by have:=ik b;lia)
end F
namespace Pk
open PySem L2 Hd F
theorem Zo (x y:Sl):∀(n:Nat) (a b:Int) (z:Sl),b.toNat=n->0<=a->0<=b->∃k z',wh jr jt k [x,y,.fz<|.int a,.fz<|.int b,z] =
  some (.ok (.nx,[x,y,.fz<|.int<|gI a b,.fz<|.int 0,z'])):=by
 intro n;induction n using sA with
 |_ n ih=>
  intro a b z hn ha hb;by_cases h0:b=0
  ·subst h0;refine⟨1,z,?_⟩;rw[Ou ha];exact Bd rfl
  ·have hb':0<b:=by lia
   have hm:=ja a hb';have hm0:=lI a h0;obtain⟨k,z',e⟩:=ih (a%b).toNat (by lia) b (a%b) (.fz<|.int<|a%b) rfl hb hm0;rw[O7 ha hb'] at e;refine⟨k+1,z',Ao (m':=[x,y,.fz<|.int b,.fz<|.int<|a%b,.fz<|.int<|a%b]) ?_ ?_ e⟩
   ·simp[jr,aN,aa,fC,h0]
   ·simp[jt,aK,bc,az,aa,aG,bJ,mdI,h0,hb']
theorem iH (a b:Int):fY [.int a,.int b]=.ok (false,.int<|gI a b):=by
 obtain⟨k,z',e⟩:=Zo (.fz<|.int a) (.fz<|.int b) _ (if a<0 then -a else a) (if b<0 then -b else b) .un rfl (by split<;>lia) (by split<;>lia);rw[Wn] at e;have e2:=uQ k e;simp[fY,aX,lu,kO,oH,aK,bc,aQ,aj,aB,aa,S5,e2,bM,Me.let,Sl.let,aG]
theorem ada (h:i.natAbs<2^k)(hk:k<=4000:=by decide):Bq i:=jJ<|dh h<|by lia
theorem Ke (hb:b≠0)(hB:Bq b):oA [.int t,.int b]=.ok (false,.tup [.int<|lt t b,.int<|lb t b]):=by
 have hd:=Nu (t:=t) hb;have hB':Bq (dv t b):=by
  have h1:=aaF (a:=t) hb;have h2:=Ui t b;unfold Bq at hB ⊢
  lia
 have e1:dvI t (dv t b)=lt t b:=by
  unfold dvI lt;split
  ·rw[iL t<|by lia]
  ·rfl
 have e2:dvI b (dv t b)=lb t b:=by
  unfold dvI lb;split
  ·rw[iL b<|by lia]
  ·rfl
 by_cases h:b<0
 ·have e:dv t b=-gI t b:=if_pos h;rw[e] at e1 e2 hd hB';have hg:gI t b≠0:=by lia
  simp[hg,oA,aX,yc,wY,aK,bc,fFn,aj,aB,aG,aa,iH,gIf,aN,fC,gLt,h,fUn,uD,bM,Me.let,Sl.let,aY,az,du,hB',e1,e2]
 ·have e:dv t b=gI t b:=if_neg h;rw[e] at e1 e2 hd hB';have hg:gI t b≠0:=by lia
  simp[hg,oA,aX,yc,wY,aK,bc,fFn,aj,aB,aG,aa,iH,gIf,aN,fC,gLt,h,gNx,bM,Me.let,Sl.let,aY,az,du,hB',e1,e2,hd]
theorem ix0:atI [a,b] 0=some a:=rfl
theorem ix1:atI [a,b] 1=some b:=rfl
theorem CG (hb:b≠0)(hB:Bq b):oA [.int t,.int b]=.ok (false,rD<|cq t b):=by
 rw[Ke hb hB];have e:=HY (t:=t) hb;show _=Res.ok (false,qD<|rq<|cq t b);rw[← e];rfl
theorem Xd (ha:Sz k a)(hb:Sz l b)(hk:k+l<=4000):Ie [rD a,rD b]=.ok (false,rD<|a+b):=by
 obtain⟨a1,a2⟩:=Jm ha (by lia);obtain⟨b1,b2⟩:=Jm hb (by lia);have e:=CG (t:=a.num*b.den+b.num*a.den) (JL a b)<|acI ha hb hk;rw[VP] at e;simp[Ie,aX,LK,MT,bM,Me.let,Sl.let,fFn,aj,aB,az,aa,fC,gIx,pG,ix0,ix1,fB,bU,a1,a2,b1,b2];rw[e];simp[pG]
theorem RL (ha:Sz k a)(hb:Sz l b)(hk:k+l<=4000):Ay [rD a,rD b]=.ok (false,.bl<|decide<|a.num*b.den<b.num*a.den):=by
 obtain⟨a1,a2⟩:=Jm ha (by lia);obtain⟨b1,b2⟩:=Jm hb (by lia);simp[Ay,aX,Gy,Hn,bM,Me.let,Sl.let,oJ,aj,aB,az,aa,fC,gIx,pG,ix0,ix1,fB,a1,a2,b1,b2,gLt]
theorem J5 (k:Nat):∀(l:List Rat) (q:Rat) (j:Nat) (s2:Sl),Sz j q->(∀x∈l,Sz k x)->j+l.length*(k+1)<=2000->k<=2000->
  ∃s2',bj (hName 2) yV (l.map rD) [a,.fz<|rD q,s2]=.ok (.nx,[a,.fz<|rD<|q+l.sum,s2'])
 |[],q,j,s2,_,_,_,_=>⟨s2,by simp[bj,Rat.add_zero]⟩
 |x::l,q,j,s2,hq,hl,hj,hk=>by
  have hx:=hl x ah;have hj':j+(l.length+1)*(k+1)<=2000:=hj;rw[Nat.add_mul] at hj';have e:=Xd hq hx (by lia);obtain⟨s2',e'⟩:=J5 k l (q+x) (j+k+1) (.fz<|rD x) (T8 hq hx) (λy hy=>hl y<|af _ hy) (by lia) hk;refine⟨s2',?_⟩;rw[ar,bG (m1:=[a,.fz<|rD q,.fz<|rD x]) (m2:=[a,.fz<|rD<|q+x,.fz<|rD x]) rfl (by simp[yV,bc,fFn,aj,aB,aG,e]),e',ka,Rat.add_assoc]
theorem Rk {l:List Rat}(hl:∀x∈l,Sz k x)(hj:1+l.length*(k+1)<=2000)(hk:k<=2000):Aj [.lst<|l.map rD]=.ok (false,rD l.sum):=by
 obtain⟨s2',e⟩:=J5 (a:=.fz<|.lst<|l.map rD) k l 0 1 .un Ak hl hj hk;have e0:rD 0=.tup [.int 0,.int 1]:=rfl;rw[Rat.zero_add,e0] at e;simp[Aj,aX,G7,IW,Gf,aK,bc,fC,dg,fL,aG,aa,e,bM,Me.let,Sl.let]
theorem Gh {α:Type}{f:α->D}{b:α->Bool}:∀l:List α,(∀x∈l,f x=.bl (b x))->Bv (l.map f)=some (l.map b)
 |[],_=>rfl
 |x::l,h=>by
  have ih:=Gh l λy hy=>h y<|af _ hy;simp[Bv,h x ah,ih]
noncomputable def sdD:D->Int
 | .tup [.int s,_,_,_]=>s
 |_=>0
noncomputable def wdD:D->Nat
 | .tup [_,_,.tup ws,_]=>ws.length
 |_=>0
def xx (d:D):Prop:=∃s n ws r,d=gM s n ws r
theorem zT {h:Zba}{ft:Zaf}{fe:Zae}{m0:Me}(P:D->Bool):∀ds:List D,(∀d∈ds,∃m1,h d m0=some m1/\ft m1=.ok (P d)/\fe m1=.ok d)->fK h ft fe m0 ds=.ok (ds.filter P)
 |[],_=>rfl
 |d::ds,H=>by
  obtain⟨m1,e1,e2,e3⟩:=H d ah;have ih:=zT P ds λd hd=>H d<|af _ hd;unfold fK;rw[mh];by_cases q:P d=true
  ·simp only[e1,e2,q,e3,ih,if_pos]
  ·have q':P d=false:=by simpa using q
   simp only[e1,e2,q',ih]
   simp
theorem uR:∀(l:List (List Int×Gm×Rc)) (T:Tb) (d:D),d∈(l.foldl tst T).2->d∈T.2\/∃p∈l,∃s n ws,p.2.1=.move s n ws/\d=gM s n ws p.2.2
 |[],T,d,h=>.inl h
 |p::l,T,d,h=>by
  rcases uR l (tst T p) d h with e|⟨q,hq,e⟩
  ·unfold tst at e;split at e
   ·rename_i s n ws ep;split at e
    ·exact .inl e
    ·rcases c6.mp e with e|e
     ·exact .inl e
     ·exact .inr ⟨p,ah,s,n,ws,ep,by simpa using e⟩
   ·exact .inl e
  ·exact .inr ⟨q,af _ hq,e⟩
theorem wW {l:List (List Int×Gm×Rc)}{d:D}(h:d∈(tbl l).2):xx d:=by
 rcases uR l ([],[]) d h with e|⟨p,_,s,n,ws,_,e⟩
 ·cases e
 ·exact⟨s,n,ws,p.2.2,e⟩
theorem X3 {g:Gm}{s:Int}(h:iG g)(hs:sdG g)(hd:dp g<=50)(hz:szG g<=10000):nT [dG g,.int s]=.ok (true,.lst<|(tbl<|prG [] ([],[]) g).2.filter λd=>decide<|sdD d=s):=by
 have e:=table_eq h hs hd hz;have ec:fK (hName 0) (aN gEq (az gIx (aa 0)<|fC<|.int 0)<|aa 1) (aG 0) [.un,.fz<|.int s] (tbl<|prG [] ([],[]) g).2=.ok ((tbl<|prG [] ([],[]) g).2.filter λd=>decide<|sdD d=s):=zT _ _ λd hd=>by
  obtain⟨a,n,ws,r,rfl⟩:=wW hd;refine⟨[.fz<|gM a n ws r,.fz<|.int s],rfl,?_,rfl⟩;have x0:∀a b c d:D,atI [a,b,c,d] 0=some a:=λ_ _ _ _=>rfl;simp[aN,az,aa,fC,gIx,gM,x0,sdD];exact decide_eq_decide.mpr Iff.rfl
 have z1:(tbl<|prG [] ([],[]) g).2.length<=16777216:=by
  have:∀(l:List (List Int×Gm×Rc)) (T:Tb),(l.foldl tst T).2.length<=T.2.length+l.length:=by
   intro l;induction l with
   |nil=>intro T;simp
   |cons p l ih=>
    intro T
    have:=ih<|tst T p
    have q:(tst T p).2.length<=T.2.length+1:=by
     unfold tst;split
     ·split<;>simp
     ·lia
    simp only[sv,cw]
    lia
  have:=this (prG [] ([],[]) g) ([],[])
  rw[Jh] at this;simp at this;have e:tbl (prG [] ([],[]) g)=(prG [] ([],[]) g).foldl tst ([],[]):=rfl;rw[e]
  lia
 have eq:tV [.fz<|dG g,.fz<|.int s]=.ok (.lst<|(tbl<|prG [] ([],[]) g).2.filter λd=>decide<|sdD d=s):=by
  simp[tV,dX,fL,fFn,aj,aB,aG,e,cMe,Sl.bor,ec,z1]
 simp[nT,zx,yt,aX,nj,Me.let,Sl.let,eq]
def okT (l:List D)(s:Int):Prop:=(l.filter λd=>decide<|sdD d=s).length<=8/\((l.filter λd=>decide<|sdD d=s).map λd=>(wdD d:Int)).sum<=24
def smQ (d:Q2):Prop:=d.1.natAbs<=999999999999/\d.2<=999
def acL (ws:Ws):Prop:=∃l:List Rat,fJ ws=l.map rD/\(∀x∈l,Sz 20 x/\smQ (rq x)/\0<x.num)/\l.length<=3/\l.sum=1
def okF (g:Gm):Prop:=match g with
 | .fin d=>smQ d
 | .deal _ ws=>acL ws
 |_=>True
theorem QL {α:Type}{f:α->D}{l:List α}(h:∀x∈l,f x=.bl true):UG [.lst<|l.map f]=some (.bl true):=by
 have:=Gh (b:=λ_=>true) l h
 show(Bv<|l.map f).map (λbs=>D.bl<|bs.all id)=_;rw[this]
 simp
def okR (d:D):Prop:=okD d=true/\qb d<=20
theorem aa9 (h:kn s n=kn t m):s=t/\n=m:=by
 unfold kn at h;injection h with h1 h2
 injection h1 with h1
 injection h1 with h1
 injection h2 with h2
 injection h2 with h2
 injection h2 with h2
 exact⟨h1,h2⟩
def ae7 (ρ:Int->Str->D)(p:List Int×Gm×Rc):Prop:=∀s n ws,p.2.1=.move s n ws->gM s n ws p.2.2=ρ s n/\okR (ρ s n)
structure Gd (g:Gm):Prop where
 len:iG g
 sd:sdG g
 dep:dp g<=12
 sz:szG g<=64
 row:∃ρ,∀p∈prG [] ([],[]) g,ae7 ρ p
 fr:∀p∈prG [] ([],[]) g,okF p.2.1/\iG p.2.1
 t1:okT (tbl (prG [] ([],[]) g)).2 1
 t2:okT (tbl (prG [] ([],[]) g)).2 2
end Pk
namespace Lw
open PySem L2 Hd F Pk
section
def jE:Zab:=
 (aK (gIf (aN gLt (aa 1)<|aQ dW<|aj (aa 0) aB) (bM<|az gIx (aa 0)<|aa 1) gNx)
 (bM<|fC<|.int 0))
def jT:Zab:=
 jE
def fP:Zac:=aX 2 2 jT
def mO:Zaf:=
 (aN gNe (aa 3)<|fC<|.int 0)
def m5:Zab:=
 (ab6 2 3<|aj (aG 3)<|aj (az bJ (aa 2)<|aa 3) aB)
def sS:Zab:=
 (oF mO m5)
def qz (l_3:Zab):Zab:=
 (aK (bc 2<|aQ S5<|aj (aa 0) aB)
 (aK (bc 3<|aG 1)
 (aK l_3
 (bM<|aY<|aj (az du (aa 0)<|aa 2)<|aj (az du (aa 1)<|aa 2) aB))))
def qi:Zab:=
 (qz sS)
def dC:Zac:=aX 4 2 qi
def iT:Zab:=
 (aK (cP 4<|az bJ (aa 0)<|fC<|.int 36)
 (bc 0<|az du (aa 0)<|fC<|.int 36))
def qe:Zab:=
 (dg (pH<|aj (aa 3) aB) (hName 5) iT)
def qm:Zae:=
 (az gIx (aa 1)<|aa 0)
def qu:Zae:=
 (dX 1 [2] (fL<|aa 4) (hName 0) jn qm)
def lJ:Zae:=
 (fSl (az Qv (fC<|.int 8)<|aa 1) fO0<|fO1<|aa 0)
def qp:Zae:=
 (dX 1 [6] (Ov<|aj (fC<|.int 1)<|aj (fC<|.int 9) aB) (hName 0) jn lJ)
def iK:Zab:=
 (aK (bc 9<|az gIx (aa 2)<|az bJ (az bU (az gIx (aa 4)<|aa 7)<|az fB (fC<|.int 4)<|aa 5)<|fC<|.int 36)
 (cP 8<|az bU (az bU (fSl (aa 6) fO0<|fO1<|aa 7)<|aa 9)<|fSl (aa 6) (fO1<|az bU (aa 7)<|fC<|.int 1) fO0))
def vh:Zab:=
 (dg (pH<|aj (fC<|.int 8) aB) (hName 5) iK)
def jx (l_2:Zab)(l_4:Zae)(l_6:Zae)(l_8:Zab):Zab:=
 (aK (bc 2<|fC<|.str "abcdefghijklmnopqrstuvwxyz0123456789")
 (aK (bc 3<|az bU (fC<|.int 1)<|az bJ (aa 0)<|fC<|.int 8)
 (aK (bc 0<|az du (aa 0)<|fC<|.int 8)
 (aK (cX 4<|fU aB)
 (aK l_2
 (aK (bc 6<|Qt "str" Fb (fC<|.str "") (aj l_4 aB))
 (aK (gIf (aN gEq (az bJ (az du (aa 1)<|fC<|.int 8)<|fC<|.int 3)<|fC<|.int 1) (nj l_6) gNx)
 (aK (bc 7<|az bJ (aa 1)<|aa 3)
 (aK (cX 8<|fU aB)
 (aK l_8
 (gU 8)))))))))))
def zM:Zab:=
 (jx qe qu qp vh)
def ph:Zac:=aX 10 2 zM
def nq (φ__law_lowest:Zac):Zab:=
 (aK (gIf (aN gEq (az bJ (aa 0)<|fC<|.int 8)<|fC<|.int 3) (bM<|fFn φ__law_lowest<|aj (az dN (az bJ (az fB (aa 0)<|fC<|.int 48271)<|fC<|.int 1999999999999)<|fC<|.int 999999999999)<|aj (az bU (fC<|.int 1)<|az bJ (az du (aa 0)<|fC<|.int 8)<|fC<|.int 999) aB) gNx)
 (bM<|fFn φ__law_lowest<|aj (az dN (az bJ (az du (aa 0)<|fC<|.int 8)<|fC<|.int 13)<|fC<|.int 6)<|aj (az bU (fC<|.int 1)<|az bJ (az du (aa 0)<|fC<|.int 104)<|fC<|.int 3) aB))
def nF:Zab:=
 (nq dC)
def cz:Zac:=aX 1 1 nF
def eU:Zab:=
 (aK (cP 2<|az bU (az bU (fC<|.int 1)<|az bJ (aa 0)<|fC<|.int 4)<|az fB (az du (az bJ (az du (aa 0)<|fC<|.int 4)<|fC<|.int 8)<|fC<|.int 7)<|az bJ (az du (aa 0)<|fC<|.int 32)<|fC<|.int 200)
 (bc 0<|az bJ (az fB (aa 0)<|fC<|.int 48271)<|fC<|.int 2147483647))
def jd:Zab:=
 (dg (pH<|aj (aa 1) aB) (hName 3) eU)
def m7:Zae:=
 (fFn dC<|aj (aG 0)<|aj (aQ KY<|aj (aa 1) aB) aB)
def m6:Zae:=
 (dX 1 [2] (fL<|aa 2) (hName 0) jn m7)
def lN (l_2:Zab)(l_4:Zae):Zab:=
 (aK (cX 2<|fU aB)
 (aK l_2
 (nj l_4)))
def vA:Zab:=
 (lN jd m6)
def lF:Zac:=aX 4 2 vA
def vJ:Zab:=
 (bM<|az bJ (az fB (az bU (az bJ (aa 0)<|fC<|.int 2147483647)<|fC<|.int 1)<|az bU (fC<|.int 48271)<|az fB (fC<|.int 7)<|aa 1)<|fC<|.int 2147483647)
def vP:Zab:=
 vJ
def cJ:Zac:=aX 2 2 vP
def gq:Zab:=
 (aK (bc 5<|aY<|aj (aG 1)<|aj (aG 2)<|aj (aG 3)<|aj (aG 4) aB)
 (aK (gIf (aN zK (aa 5)<|Li 6<|az cI (aa 0)<|fC<|.str "names") (aK (Bj 6 (az cI (aa 0)<|fC<|.str "names") (aG 5)<|az gIx (Li 7<|az cI (aa 0)<|fC<|.str "many")<|az dN (aa 1)<|fC<|.int 1)
 (zm 7 (az cI (aa 0)<|fC<|.str "many") (az dN (aa 1)<|fC<|.int 1)<|az bU (az gIx (Li 7<|az cI (aa 0)<|fC<|.str "many")<|az dN (aa 1)<|fC<|.int 1)<|fC<|.int 1)) gNx)
 (bM<|az jV (Li 6<|az cI (aa 0)<|fC<|.str "names")<|aa 5)))
def gw:Zab:=
 gq
def dm:List D->D->Addr×D->Addr×D->Res (D×D×D×D):=runST 0 8 5 gw
def gQ (Φb:List D->D->Addr×D->Addr×D->Res (D×D×D×D)):Zab:=
 (aK (bc 12<|az gIx (aa 8)<|az bJ (az bU (az bU (az fB (fC<|.int 3)<|aa 7)<|aa 11)<|az du (az cI (aa 1)<|fC<|.str "turn")<|fC<|.int 8)<|fC<|.int 8)
 (aK (cX 13<|aQ wQ<|aj (aa 3) aB)
 (aK (mY 13 (az dN (aa 5)<|fC<|.int 1)<|az bU (az gIx (aa 13)<|az dN (aa 5)<|fC<|.int 1)<|aY<|aj (aY<|aj (aG 9)<|aj (aG 12) aB) aB)
 (Vb 13<|qM 10<|Fx<|tQ (fX<|aG 12)<|tQ (vW Φb 1 1 14 15<|aj (aG 0)<|aj (az dN (aa 2)<|fC<|.int 1)<|aj (aG 13) aB) Fo))))
def lU (Φb:List D->D->Addr×D->Addr×D->Res (D×D×D×D)):Zab:=
 (dg (pH<|aj (aa 6) aB) (hName 11)<|gQ Φb)
def ju (φ__law_stake:Zac)(φ__law_name_number:List D->D->Addr×D->Addr×D->Res (D×D×D×D))(l_2:Zab):Zab:=
 (aK (bc 5<|az bU (fC<|.int 1)<|az bJ (aa 4)<|fC<|.int 2)
 (aK (bc 6<|az bU (fC<|.int 1)<|az bJ (az du (aa 4)<|fC<|.int 16)<|fC<|.int 3)
 (aK (O6 7<|vW φ__law_name_number 1 0 14 15<|aj (aG 5)<|aj (az gIx (aa 3)<|az dN (aa 5)<|fC<|.int 1)<|aj (aG 6)<|aj (az bJ (az du (aa 4)<|fC<|.int 48)<|fC<|.int 2) aB)
 (aK (gIf (aN gGe (aa 7)<|fC<|.int 8) (bM<|aY<|aj (fC<|.str "end")<|aj (fFn φ__law_stake<|aj (aG 4) aB) aB) gNx)
 (aK (gf 1 (fC<|.str "room")<|az dN (az cI (aa 1)<|fC<|.str "room")<|aa 6)
 (aK (bc 8<|az cI (aa 1)<|fC<|.str "pool")
 (aK (bc 9<|az gIx (aa 8)<|az bJ (az bU (aa 7)<|az cI (aa 1)<|fC<|.str "turn")<|fC<|.int 8)
 (aK (cX 10<|fU aB)
 (aK l_2
 (bM<|aY<|aj (fC<|.str "move")<|aj (aG 5)<|aj (aG 9)<|aj (aQ gh<|aj (aa 10) aB) aB))))))))))
def mz (Φb:List D->D->Addr×D->Addr×D->Res (D×D×D×D)):List D->D->Addr×D->Addr×D->Res (D×D×D×D):=runST 1 16 5<|(ju cz dm<|lU Φb)
def jC (Φ:List D->D->Addr×D->Addr×D->Res (D×D×D×D)):Zab:=
 (qM 8<|Fx<|tQ (fX<|aG 9)<|tQ (vW Φ 1 1 10 11<|aj (aG 0)<|aj (az dN (aa 2)<|fC<|.int 1)<|aj (aG 3) aB) Fo)
def f9 (Φ:List D->D->Addr×D->Addr×D->Res (D×D×D×D)):Zab:=
 (dg (fL<|fFn lF<|aj (aG 5)<|aj (aG 7) aB) (hName 9)<|jC Φ)
def dO (φ__law_stake:Zac)(φ__law_mix:Zac)(φ__law_built:List D->D->Addr×D->Addr×D->Res (D×D×D×D))(l_2:Zab):Zab:=
 (aK (bc 4<|az cI (aa 1)<|fC<|.str "at")
 (aK (gf 1 (fC<|.str "at")<|az bU (aa 4)<|fC<|.int 1)
 (aK (gIf (aN gGe (aa 4)<|aQ dW<|aj (aa 0) aB) (bM<|aY<|aj (fC<|.str "end")<|aj (fFn φ__law_stake<|aj (fFn φ__law_mix<|aj (az bU (az gIx (aa 0)<|fUn uD<|fC<|.int 1)<|az fB (aa 4)<|aa 4)<|aj (aG 4) aB) aB) aB) gNx)
 (aK (bc 5<|fFn φ__law_mix<|aj (az gIx (aa 0)<|aa 4)<|aj (aG 4) aB)
 (aK (bc 6<|aG 5)
 (aK (gIf (fTv<|az cI (aa 1)<|fC<|.str "level") (bc 6<|az bU (az dN (aa 5)<|az bJ (aa 5)<|fC<|.int 48)<|az bJ (fFn φ__law_mix<|aj (az gIx (aa 0)<|az bJ (aa 2)<|aQ dW<|aj (aa 0) aB)<|aj (aG 2) aB)<|fC<|.int 48) gNx)
 (aK (gIf (jz (aN gEq (aa 2)<|fC<|.int 0)<|jz (aN gLt (az cI (aa 1)<|fC<|.str "room")<|fC<|.int 3)<|iC (aN gEq (az bJ (aa 6)<|fC<|.int 8)<|fC<|.int 0)<|aN gGt (aa 4)<|fC<|.int 0) (bM<|aY<|aj (fC<|.str "end")<|aj (fFn φ__law_stake<|aj (aG 5) aB) aB) gNx)
 (aK (gIf (aN gGt (az bJ (aa 6)<|fC<|.int 8)<|fC<|.int 2) (v7<|vW (mz φ__law_built) 1 1 10 11<|aj (aG 0)<|aj (aG 2)<|aj (aG 3)<|aj (aG 6) aB) gNx)
 (aK (bc 7<|az bU (fC<|.int 1)<|az bJ (az du (aa 6)<|fC<|.int 16)<|fC<|.int 3)
 (aK (gf 1 (fC<|.str "room")<|az dN (az cI (aa 1)<|fC<|.str "room")<|aa 7)
 (aK (cX 8<|fU aB)
 (aK l_2
 (bM<|aY<|aj (fC<|.str "deal")<|aj (az gIx (az cI (aa 1)<|fC<|.str "pool")<|az bJ (az du (aa 5)<|fC<|.int 48)<|fC<|.int 8)<|aj (aQ gh<|aj (aa 8) aB) aB)))))))))))))
def bA:Nat->List D->D->Addr×D->Addr×D->Res (D×D×D×D)
 |0=>λ_ _ _ _=>.stuck
 |n+1=>runST 1 12 4
   (dO cz cJ (bA n)<|f9<|bA n)
def oW (φ__law_built:List D->D->Addr×D->Addr×D->Res (D×D×D×D)):Zab:=
 (aaJ 5 6 7 [((fC<|.str "at"),(fC<|.int 0)),((fC<|.str "room"),(aG 3))] (fC<|.str "names") sW (fC<|.str "many") (fU<|aj (fC<|.int 0)<|aj (fC<|.int 0) aB) [((fC<|.str "pool"),(aG 4))]
 (aK (gf 5 (fC<|.str "turn")<|az bJ (aa 1)<|fC<|.int 64)
 (aK (gf 5 (fC<|.str "level")<|oJ gEq (az bJ (az du (aa 1)<|fC<|.int 64)<|fC<|.int 2)<|fC<|.int 1)
 (v7<|vW φ__law_built 5 1 6 7<|aj (aG 0)<|aj (aG 2)<|aj (fU<|aj (aY aB)<|aj (aY aB) aB) aB))))
def zO:Zab:=
 (oW<|bA 13)
def oY:Zac:=aX 8 5 zO
def mW:Zae:=
 (aY<|aj (aG 1)<|aj (aG 2) aB)
def mK:Zae:=
 (dX 2 [5] (jB<|az gIx (aa 4)<|fC<|.int 2) (iW 2<|bC (hName 0)<|bC (hName 1) iM) jn mW)
def gK:Zab:=
 (aK (cX 9<|aQ wQ<|aj (aa 5) aB)
 (aK (mY 9 (az dN (az gIx (aa 4)<|fC<|.int 1)<|fC<|.int 1)<|az bU (az gIx (aa 9)<|az dN (az gIx (aa 4)<|fC<|.int 1)<|fC<|.int 1)<|aY<|aj (aY<|aj (az gIx (aa 4)<|fC<|.int 2)<|aj (aG 7) aB) aB)
 (cP 6<|aY<|aj (aG 8)<|aj (aQ gh<|aj (aa 9) aB) aB)))
def mQ:Zab:=
 (dg (jB<|az gIx (aa 4)<|fC<|.int 3) (iW 2<|bC (hName 7)<|bC (hName 8) iM) gK)
def jg:Zab:=
 (cP 2<|aY<|aj (az bU (aa 3)<|aY<|aj (aG 10) aB)<|aj (az gIx (az gIx (aa 6)<|aa 10)<|fC<|.int 0)<|aj (az gIx (az gIx (aa 6)<|aa 10)<|fC<|.int 1) aB)
def mL:Zab:=
 (dg (Yc<|aj (az dN (aQ dW<|aj (aa 6) aB)<|fC<|.int 1)<|aj (fUn uD<|fC<|.int 1)<|aj (fUn uD<|fC<|.int 1) aB) (hName 10) jg)
def jb:Zaf:=
 (aN gGt (aQ dW<|aj (aa 2) aB)<|fC<|.int 0)
def eQ:Zab:=
 (aK (Jz (Ku 2)<|iW 3<|bC (hName 3)<|bC (hName 4)<|bC (hName 5) iM)
 (aK (cP 1<|aY<|aj (aG 3)<|aj (aG 4)<|aj (aG 5) aB)
 (aK (cX 6<|fU aB)
 (aK (gIf (aN gEq (az gIx (aa 4)<|fC<|.int 0)<|fC<|.str "deal") (cX 6 mK) gNx)
 (aK (gIf (aN gEq (az gIx (aa 4)<|fC<|.int 0)<|fC<|.str "move") mQ gNx)
 mL)))))
def Ac:Zab:=
 (oF jb eQ)
def lM (l_9:Zab):Zab:=
 (aK (cX 1<|fU aB)
 (aK (cX 2<|fU<|aj (aY<|aj (aY aB)<|aj (aG 0)<|aj (aY<|aj (aY aB)<|aj (aY aB) aB) aB) aB)
 (aK l_9
 (gU 1))))
def vz:Zab:=
 (lM Ac)
def lY:Zac:=aX 11 1 vz
def nU:Zae:=
 (dX 2 [] (jB<|az gIx (aa 4)<|fC<|.int 3) (iW 2<|bC (hName 0)<|bC (hName 1) iM) jn<|aG 0)
def dF:Zab:=
 (gIf (iC (aN gEq (az gIx (aa 4)<|fC<|.int 0)<|fC<|.str "move")<|aN zK (aY<|aj (az gIx (aa 4)<|fC<|.int 1)<|aj (az gIx (aa 4)<|fC<|.int 2) aB)<|aa 2) (aK (qN 2 (aY<|aj (az gIx (aa 4)<|fC<|.int 1)<|aj (az gIx (aa 4)<|fC<|.int 2) aB)<|fC<|.bl true)
 (aK (bc 6<|aQ gh<|aj nU aB)
 (cP 1<|aY<|aj (az gIx (aa 4)<|fC<|.int 1)<|aj (az gIx (aa 4)<|fC<|.int 2)<|aj (aG 6)<|aj (az gIx (aa 5)<|az dN (az gIx (aa 4)<|fC<|.int 1)<|fC<|.int 1) aB))) gNx)
def oO:Zab:=
 (dg (fL<|fFn lY<|aj (aG 0) aB) (iW 3<|bC (hName 3)<|bC (hName 4)<|bC (hName 5) iM) dF)
def rW (l_3:Zab):Zab:=
 (aK (cX 1<|fU aB)
 (aK (cX 2 sW)
 (aK l_3
 (gU 1))))
def rR:Zab:=
 (rW oO)
def jK:Zac:=aX 7 1 rR
end
theorem itD (h:f m=.ok [.int i,.int j,.int (-1)])(h1:-1000000000<=i)(h2:i<=1000000000)(h3:-1000000000<=j)(h4:j<=1000000000):Yc f m=.ok ((cf (i-j).toNat).map λ(k:Nat)=>D.int<|i-k):=by simp_all[if_pos,Yc]
noncomputable def ptW (f:D->Rc):Ws->List (Gm×Rc)
 | .nil=>[]
 | .cons l g r=>(g,f l)::ptW f r
def ptG (g:Gm)(r:Rc):List (Gm×Rc):=ptW (rbg g r)<|yM g
def iD (p:Gm×Rc):D:=.tup [dG p.1,rD2 p.2]
noncomputable def ch (w:List Int)(L:List (Gm×Rc))(i:Nat):List (List Int×Gm×Rc):=(L.zipIdx i).map λp=>(w++[(p.2:Int)],p.1.1,p.1.2)
theorem Mm (w:List Int)(f:D->Rc):∀(i:Nat) (ws:Ws),prW w f i ws=(ch w (ptW f ws) i).flatMap λp=>prG p.1 p.2.2 p.2.1
 |i,.nil=>rfl
 |i,.cons l g r=>by
  show prG (w++[(i:Int)]) (f l) g++prW w f (i+1) r=_;rw[Mm w f (i+1) r];rfl
theorem aaV (w:List Int)(r:Rc)(g:Gm):prG w r g=(w,g,r)::(ch w (ptG g r) 0).flatMap λp=>prG p.1 p.2.2 p.2.1:=by
 cases g with
 |fin d=>rfl
 |deal n ws=>show(w,Gm.deal n ws,r)::prW w (λ_=>r) 0 ws=_;rw[Mm];rfl
 |move s n ws=>show(w,Gm.move s n ws,r)::prW w (rbm s n r) 0 ws=_;rw[Mm];rfl
theorem PN (f:D->Rc):∀ws:Ws,(ptW f ws).length=jA ws
 | .nil=>rfl
 | .cons l g r=>by show(ptW f r).length+1=_;rw[PN f r];rfl
theorem G6 (f:D->Rc):∀ws:Ws,(ptW f ws).map (·.1)=iR ws
 | .nil=>rfl
 | .cons l g r=>by show g::(ptW f r).map (·.1)=_;rw[G6 f r];rfl
theorem CK {n:Str}{r:Rc}:∀ws:Ws,fK (iW 2<|bC (hName 0)<|bC (hName 1) iM) jn mW [.un,.un,.fz<|rD2 r] (dWs ws)=.ok ((ptW (λ_=>r) ws).map iD)
 | .nil=>rfl
 | .cons l g rr=>by
  have ih:=CK (n:=n) (r:=r) rr;have e:mW [.fz l,.fz<|dG g,.fz<|rD2 r]=.ok (iD (g,r)):=rfl;unfold dWs fK;simp[iW,bC,hName,iM,jn,e,ih,ptW]
theorem Ci (hs:s=1\/s=2)(hr:r.1.length<=1000/\r.2.length<=1000):∀(ws:Ws) (P:List D) (s7 s8 s9:Sl),P.length+jA ws<=1000->
  ∃s7' s8' s9',bj (iW 2<|bC (hName 7)<|bC (hName 8) iM) gK (dWs ws) [g0,s1,s2,s3,.fz<|.tup [.str "move",.int s,.str n,W],.fz<|rD2 r,.ow<|.lst P,s7,s8,s9,s10]=.ok (.nx,[g0,s1,s2,s3,.fz<|.tup [.str "move",.int s,.str n,W],.fz<|rD2 r,.ow<|.lst<|P++(ptW (rbm s n r) ws).map iD,s7',s8',s9',s10])
 | .nil,P,s7,s8,s9,_=>⟨s7,s8,s9,by simp[dWs,bj,ptW]⟩
 | .cons l g rr,P,s7,s8,s9,hz=>by
  have hz':P.length+(jA rr+1)<=1000:=hz;obtain⟨a,b,c,e⟩:=Ci (g0:=g0) (s1:=s1) (s2:=s2) (s3:=s3) (s10:=s10) (s:=s) (n:=n) (W:=W) (r:=r) hs hr rr (P++[iD (g,rbm s n r l)]) (.fz l) (.fz<|dG g) (.ow<|.lst [.tup (rbm s n r l).1,.tup (rbm s n r l).2]) (by rw[bg,eD];lia);refine⟨a,b,c,?_⟩;have x41:∀a b c d:D,atI [a,b,c,d] 1=some b:=λ_ _ _ _=>rfl;have x42:∀a b c d:D,atI [a,b,c,d] 2=some c:=λ_ _ _ _=>rfl;have x20:∀a b:D,atI [a,b] 0=some a:=λ_ _=>rfl;have x21:∀a b:D,atI [a,b] 1=some b:=λ_ _=>rfl;have n0:ixN 2 0=some 0:=rfl;have n1:ixN 2 1=some 1:=rfl;have z1:r.1.length+1<=16777216:=by lia
  have z2:r.2.length+1<=16777216:=by lia
  have z3:P.length<16777216:=by lia
  have st:gK [g0,s1,s2,s3,.fz<|.tup [.str "move",.int s,.str n,W],.fz<|rD2 r,.ow<|.lst P,.fz l,.fz<|dG g,s9,s10]=.ok (.nx,[g0,s1,s2,s3,.fz<|.tup [.str "move",.int s,.str n,W],.fz<|rD2 r,.ow<|.lst<|P++[iD (g,rbm s n r l)],.fz l,.fz<|dG g,.ow<|.lst [.tup (rbm s n r l).1,.tup (rbm s n r l).2],s10]):=by
   rcases hs with rfl|rfl
   ·simp[gK,aK,cX,aQ,wQ,aj,aB,aa,rD2,mY,az,gIx,x41,x42,fC,F.dN,x20,x21,j9,putL,aY,aG,bU,z1,n0,cP,gh,z3,iD,rbm]
   ·simp[gK,aK,cX,aQ,wQ,aj,aB,aa,rD2,mY,az,gIx,x41,x42,fC,F.dN,x20,x21,j9,putL,aY,aG,bU,z2,n1,cP,gh,z3,iD,rbm]
  show bj _ _ (.tup [l,dG g]::dWs rr) _=_;rw[bG (m1:=[g0,s1,s2,s3,.fz<|.tup [.str "move",.int s,.str n,W],.fz<|rD2 r,.ow<|.lst P,.fz l,.fz<|dG g,s9,s10]) rfl st,e];rw[eK];rfl
theorem Ca (hw:w.length<=1000):∀(c:Nat) (S:List D) (s10:Sl),c<=L.length->S.length+c<=100000->
  ∃s10',bj (hName 10) jg ((cf c).map λ(k:Nat)=>D.int<|(c:Int)-1-k) [g0,s1,.ow<|.lst S,.fz<|.tup<|w.map D.int,s4,s5,.ow<|.lst<|L.map iD,s7,s8,s9,s10]=.ok (.nx,[g0,s1,.ow<|.lst<|S++(((ch w L 0).take c).map trD).reverse,.fz<|.tup<|w.map D.int,s4,s5,.ow<|.lst<|L.map iD,s7,s8,s9,s10'])
 |0,S,s10,_,_=>⟨s10,by simp[bj]⟩
 |c+1,S,s10,hc,hz=>by
  have hi:c<L.length:=by lia
  obtain⟨a,e⟩:=Ca (g0:=g0) (s1:=s1) (s4:=s4) (s5:=s5) (s7:=s7) (s8:=s8) (s9:=s9) (L:=L) hw c (S++[trD (w++[(c:Int)],L[c].1,L[c].2)]) (.fz<|.int (c:Int)) (by lia) (by rw[bg,eD];lia);refine⟨a,?_⟩;have el:(L.map iD)[c]? = some (iD L[c]):=by rw[bX,av hi];rfl
  have ea:=lL el;have x20:∀a b:D,atI [a,b] 0=some a:=λ_ _=>rfl;have x21:∀a b:D,atI [a,b] 1=some b:=λ_ _=>rfl;have z1:w.length+1<=16777216:=by lia
  have z2:S.length<16777216:=by lia
  have st:jg [g0,s1,.ow<|.lst S,.fz<|.tup<|w.map D.int,s4,s5,.ow<|.lst<|L.map iD,s7,s8,s9,.fz<|.int (c:Int)]=.ok (.nx,[g0,s1,.ow<|.lst<|S++[trD (w++[(c:Int)],L[c].1,L[c].2)],.fz<|.tup<|w.map D.int,s4,s5,.ow<|.lst<|L.map iD,s7,s8,s9,.fz<|.int (c:Int)]):=by
   simp[jg,cP,j9,putL,aY,aj,aB,az,aa,aG,bU,z1,gIx,ea,iD,x20,x21,fC,z2,trD]
  have er:(cf<|c+1).map (λ(k:Nat)=>D.int<|((c+1:Nat):Int)-1-k)=D.int (c:Int)::(cf c).map λ(k:Nat)=>D.int ((c:Int)-1-k):=by
   rw[xy,ar,fm];congr 1
   ·congr 1;lia
   ·refine ox λk _=>?_;show D.int _=D.int _;congr 1;simp only[Nat.succ_eq_add_one]
    lia
  rw[er,bG (m1:=[g0,s1,.ow<|.lst S,.fz<|.tup<|w.map D.int,s4,s5,.ow<|.lst<|L.map iD,s7,s8,s9,.fz<|.int (c:Int)]) rfl st,e];have et:(ch w L 0).take (c+1)=(ch w L 0).take c++[(w++[(c:Int)],L[c].1,L[c].2)]:=by
   have hl:c<(ch w L 0).length:=by unfold ch;simp;exact hi
   rw[List.take_succ_eq_append_getElem hl];congr 1;simp[ch]
  rw[et,bE,sx]
  simp
theorem XM {g0 s3 s4 s5 s6 s7 s8 s9 s10:Sl}{F0 S:List D}{w:List Int}{g:Gm}{r:Rc}(h:iG g)(hs:∀s n ws,g=.move s n ws->s=1\/s=2)(hr:r.1.length<=1000/\r.2.length<=1000)(hw:w.length<=1000)(hf:F0.length<=100000)(hS:S.length<=90000):
  ∃t3 t4 t5 t6 t7 t8 t9 t10,eQ [g0,.ow<|.lst F0,.ow<|.lst<|S++[trD (w,g,r)],s3,s4,s5,s6,s7,s8,s9,s10]=.ok (.nx,[g0,.ow<|.lst<|F0++[trD (w,g,r)],.ow<|.lst<|S++((ch w (ptG g r) 0).map trD).reverse,t3,t4,t5,t6,t7,t8,t9,t10]):=by
 have x20:∀a b:D,atI [a,b] 0=some a:=λ_ _=>rfl;have x30:∀a b c:D,atI [a,b,c] 0=some a:=λ_ _ _=>rfl;have x32:∀a b c:D,atI [a,b,c] 2=some c:=λ_ _ _=>rfl;have x40:∀a b c d:D,atI [a,b,c,d] 0=some a:=λ_ _ _ _=>rfl;have x43:∀a b c d:D,atI [a,b,c,d] 3=some d:=λ_ _ _ _=>rfl;have z1:F0.length<16777216:=by lia
 have main:∀(P:List (Gm×Rc)) (u7 u8 u9:Sl),P=ptG g r->P.length<=100->∃t10,mL [g0,.ow<|.lst<|F0++[trD (w,g,r)],.ow<|.lst S,.fz<|.tup<|w.map D.int,.fz<|dG g,.fz<|rD2 r,.ow<|.lst<|P.map iD,u7,u8,u9,s10] =
   .ok (.nx,[g0,.ow<|.lst<|F0++[trD (w,g,r)],.ow<|.lst<|S++((ch w (ptG g r) 0).map trD).reverse,.fz<|.tup<|w.map D.int,.fz<|dG g,.fz<|rD2 r,.ow<|.lst<|P.map iD,u7,u8,u9,t10]):=λP u7 u8 u9 hP hl=>by
  obtain⟨t10,e⟩:=Ca (g0:=g0) (s1:=.ow<|.lst<|F0++[trD (w,g,r)]) (s4:=.fz<|dG g) (s5:=.fz<|rD2 r) (s7:=u7) (s8:=u8) (s9:=u9) (w:=w) (L:=P) hw P.length S s10 (ay _) (by lia);refine⟨t10,?_⟩;have e1:(aj (az dN (aQ dW<|aj (aa 6) aB)<|fC<|.int 1)<|aj (fUn uD<|fC<|.int 1)<|aj (fUn uD<|fC<|.int 1) aB) [g0,.ow<|.lst<|F0++[trD (w,g,r)],.ow<|.lst S,.fz<|.tup<|w.map D.int,.fz<|dG g,.fz<|rD2 r,.ow<|.lst<|P.map iD,u7,u8,u9,s10]=.ok [.int<|(P.length:Int)-1,.int (-1),.int (-1)]:=by
   simp[aj,aB,az,aQ,dW,aa,fC,F.dN,fUn,uD]
  have e2:=itD e1 (by lia) (by lia) (by lia) (by lia);unfold mL dg;rw[e2];have e3:((P.length:Int)-1 - -1).toNat=P.length:=by lia
  rw[e3];have e4:(ch w P 0).take P.length=ch w P 0:=pS (by unfold ch;simp);rw[e4,hP] at e;rw[hP];exact e
 have hlp:(ptG g r).length<=100:=by
  unfold ptG;rw[PN,← gP,← Ah];exact xX h
 cases g with
 |fin d=>
  obtain⟨t10,e⟩:=main [] s7 s8 s9 rfl (by simp);refine⟨.fz<|.tup<|w.map D.int,.fz<|dG<|.fin d,.fz<|rD2 r,.ow<|.lst [],s7,s8,s9,t10,?_⟩;simp only[trD,dG,sR] at e ⊢;simp[eQ,aK,Jz,Ku,j9,putL,iW,bC,hName,iM,cP,aY,aj,aB,aG,z1,cX,fU,gIf,aN,az,aa,fC,gIx,x20,gNx,e]
 |deal n ws=>
  obtain⟨t10,e⟩:=main (ptW (λ_=>r) ws) s7 s8 s9 rfl hlp;have ec:=CK (n:=n) (r:=r) ws;have hz2:(dWs ws).length<=16777216:=by rw[sy];have:=h.1;lia
  have eq:∀a b c,mK [g0,a,b,c,.fz<|dG<|.deal n ws,.fz<|rD2 r,.ow<|.lst [],s7,s8,s9,s10]=.ok (.lst<|(ptW (λ_=>r) ws).map iD):=λa b c=>by
   simp[mK,dX,jB,az,aa,fC,gIx,dG,x32,cMe,Sl.bor,ec,hz2]
  refine⟨.fz<|.tup<|w.map D.int,.fz<|dG<|.deal n ws,.fz<|rD2 r,.ow<|.lst<|(ptW (λ_=>r) ws).map iD,s7,s8,s9,t10,?_⟩;simp only[trD,dG] at e eq ⊢;simp[eQ,aK,Jz,Ku,j9,putL,iW,bC,hName,iM,cP,aY,aj,aB,aG,z1,cX,fU,gIf,aN,az,aa,fC,gIx,x30,gNx,eq,e]
 |move s n ws=>
  obtain⟨u7,u8,u9,em⟩:=Ci (g0:=g0) (s1:=.ow<|.lst<|F0++[trD (w,.move s n ws,r)]) (s2:=.ow<|.lst S) (s3:=.fz<|.tup<|w.map D.int) (s10:=s10) (n:=n) (W:=.tup<|dWs ws) (hs s n ws rfl) hr ws [] s7 s8 s9 (by have:=h.1;simp;lia);obtain⟨t10,e⟩:=main (ptW (rbm s n r) ws) u7 u8 u9 rfl hlp;have hz2:(dWs ws).length<=16777216:=by rw[sy];have:=h.1;lia
  have eL:mQ [g0,.ow<|.lst<|F0++[trD (w,.move s n ws,r)],.ow<|.lst S,.fz<|.tup<|w.map D.int,.fz<|dG<|.move s n ws,.fz<|rD2 r,.ow<|.lst [],s7,s8,s9,s10]=.ok (.nx,[g0,.ow<|.lst<|F0++[trD (w,.move s n ws,r)],.ow<|.lst S,.fz<|.tup<|w.map D.int,.fz<|dG<|.move s n ws,.fz<|rD2 r,.ow<|.lst<|(ptW (rbm s n r) ws).map iD,u7,u8,u9,s10]):=by
   have ei:jB (az gIx (aa 4)<|fC<|.int 3) [g0,.ow<|.lst<|F0++[trD (w,.move s n ws,r)],.ow<|.lst S,.fz<|.tup<|w.map D.int,.fz<|dG<|.move s n ws,.fz<|rD2 r,.ow<|.lst [],s7,s8,s9,s10]=.ok (dWs ws):=by
    simp[jB,az,aa,fC,gIx,dG,x43]
   unfold mQ dg;rw[ei];rw[kS] at em;exact em
  refine⟨.fz<|.tup<|w.map D.int,.fz<|dG<|.move s n ws,.fz<|rD2 r,.ow<|.lst<|(ptW (rbm s n r) ws).map iD,u7,u8,u9,t10,?_⟩;simp only[trD,dG] at e eL ⊢;simp[eQ,aK,Jz,Ku,j9,putL,iW,bC,hName,iM,cP,aY,aj,aB,aG,z1,cX,fU,gIf,aN,az,aa,fC,gIx,x40,gNx,eL,e]
abbrev Tr:=List Int×Gm×Rc
noncomputable def szT (st:List Tr):Nat:=(st.map λp=>szG p.2.1).sum
theorem aa5 (w:List Int)(g:Gm)(r:Rc):szT (ch w (ptG g r) 0)+1=szG g:=by
 have e:∀(i:Nat) (L:List (Gm×Rc)),(ch w L i).map (λp=>szG p.2.1)=L.map λp=>szG p.1:=by
  intro i L;induction L generalizing i with
  |nil=>rfl
  |cons x L ih=>
   show szG x.1::((ch w L<|i+1).map λp=>szG p.2.1)=_;rw[ih];rfl
 unfold szT;rw[e,Vp,Ah,← G6 (rbg g r),fm];rfl
theorem Oh:∀st:List Tr,st.length<=szT st
 |[]=>eT _
 |p::st=>by
  have:=Oh st
  have:=uM p.2.1
  show st.length+1<=szG p.2.1+szT st
  lia
theorem O8 (a b:List Tr):szT (a++b)=szT a+szT b:=by unfold szT;rw[bE,List.sum_append]
def wt (p:Tr):Prop:=iG p.2.1/\sdG p.2.1/\p.1.length+dp p.2.1<=100/\p.2.2.1.length+dp p.2.1<=100/\p.2.2.2.length+dp p.2.1<=100
theorem Cv:∀{ws:Ws} {k:Gm},sdW ws->k∈iR ws->sdG k
 | .cons l g r,k,h,hk=>by
  rcases a8.mp hk with e|e
  ·rw[e];exact h.1
  ·exact Cv h.2 e
theorem YB (h:sdG g)(hk:k∈kids g):sdG k:=by
 cases g with
 |fin d=>cases hk
 |deal n ws=>exact Cv h hk
 |move s n ws=>exact Cv h.2 hk
theorem Q8 (f:D->Rc):∀{ws:Ws} {p:Gm×Rc},p∈ptW f ws->∃l,p.2=f l
 | .cons l g r,p,h=>by
  rcases a8.mp h with e|e
  ·exact⟨l,by rw[e]⟩
  ·exact Q8 f e
theorem XS (g:Gm)(r:Rc)(l:D):(rbg g r l).1.length<=r.1.length+1/\(rbg g r l).2.length<=r.2.length+1:=by
 cases g with
 |fin d=>exact⟨by simp[rbg],by simp[rbg]⟩
 |deal n ws=>exact⟨by simp[rbg],by simp[rbg]⟩
 |move s n ws=>by_cases hs:s=1<;>simp[rbg,rbm,hs]
theorem aew (h:wt (w,g,r)):∀p∈ch w (ptG g r) 0,wt p:=λp hp=>by
 unfold ch at hp;obtain⟨q,hq,rfl⟩:=aT.mp hp;have h1:q.1∈ptG g r:=by have:=oq (f:=AY) hq;rwa [oo] at this
 have h2:q.1.1∈kids g:=by
  rw[Ah,← G6 (rbg g r)];exact oq h1
 obtain⟨l,el⟩:=Q8 _ h1;have hd:=N8 h2;refine zF h λa b c d e=>?_;have rl:=XS g r l;simp only at a b c d e;refine⟨(Es a h2).1,YB b h2,?_,?_,?_⟩
 ·show(w++[_]).length+dp q.1.1<=100;rw[bg,eD]
  lia
 ·show q.1.2.1.length+dp q.1.1<=100;rw[el]
  lia
 ·show q.1.2.2.length+dp q.1.1<=100;rw[el]
  lia
theorem YT (a:Sl):∀(N:Nat) (done st:List Tr) (s3 s4 s5 s6 s7 s8 s9 s10:Sl),szT st=N->(∀p∈st,wt p)->done.length+szT st<=50000->
  ∃k m',wh jb eQ k [a,.ow<|.lst<|done.map trD,.ow<|.lst<|(st.map trD).reverse,s3,s4,s5,s6,s7,s8,s9,s10]=some (.ok (.nx,a::.ow (.lst<|(done++st.flatMap λp=>prG p.1 p.2.2 p.2.1).map trD)::m')):=by
 intro N;induction N using sA with
 |_ N ih=>
  intro done st s3 s4 s5 s6 s7 s8 s9 s10 hN hs hz;cases st with
  |nil=>
   refine⟨1,[.ow<|.lst [],s3,s4,s5,s6,s7,s8,s9,s10],?_⟩;simp only[sR,List.reverse_nil,qV,eR];exact Bd<|by simp[jb,aN,aQ,dW,aj,aB,aa,fC,gGt]
  |cons p st=>
   obtain⟨w,g,r⟩:=p;have h1:wt (w,g,r):=hs _ (by simp);have sb:=aa5 w g r;have hsum:szT ((w,g,r)::st)=szG g+szT st:=rfl;have ls:=Oh st;have gp:=uM g;refine zF h1 λwa wb wc wd we=>?_;simp only at wa wb wc wd we;obtain⟨t3,t4,t5,t6,t7,t8,t9,t10,e1⟩:=XM (g0:=a) (s3:=s3) (s4:=s4) (s5:=s5) (s6:=s6) (s7:=s7) (s8:=s8) (s9:=s9) (s10:=s10) (F0:=done.map trD) (S:=(st.map trD).reverse) (w:=w) (g:=g) (r:=r) wa (λs n ws e=>by rw[e] at wb;exact wb.1) ⟨by lia,by lia⟩ (by lia) (by simp;lia) (by simp;lia);obtain⟨k,m',e⟩:=ih (szT<|ch w (ptG g r) 0++st) (by rw[O8];lia) (done++[(w,g,r)]) (ch w (ptG g r) 0++st) t3 t4 t5 t6 t7 t8 t9 t10 rfl (λp hp=>by
    rcases c6.mp hp with v|v
    ·exact aew ⟨wa,wb,wc,wd,we⟩ p v
    ·exact hs p<|by simp[v]) (by rw[O8,bg];simp;lia)
   refine⟨k+1,m',?_⟩;have e3:done++((w,g,r)::st).flatMap (λp=>prG p.1 p.2.2 p.2.1)=done++[(w,g,r)]++(ch w (ptG g r) 0++st).flatMap λp=>prG p.1 p.2.2 p.2.1:=by
    rw[qf,AI,aaV]
    simp
   rw[e3];refine Ao (m':=[a,.ow<|.lst<|(done++[(w,g,r)]).map trD,.ow<|.lst<|((ch w (ptG g r) 0++st).map trD).reverse,t3,t4,t5,t6,t7,t8,t9,t10]) ?_ ?_ e
   ·simp[jb,aN,aQ,dW,aj,aB,aa,fC,gGt]
   ·rw[ar,k9,e1,bE,bE,sx];rfl
theorem JV (e:L [.fz d,.ow<|.lst [],.ow<|.lst [.tup [.tup [],d,.tup [.tup [],.tup []]]],.un,.un,.un,.un,.un,.un,.un,.un]=.ok (.nx,.fz d::.ow (.lst ps)::m')):aX 11 1 (lM L) [d]=.ok (true,.lst ps):=by
 simp[aX,lM,aK,cX,fU,aj,aB,aY,aG,e,gU]
theorem MN (h:iG g)(hs:sdG g)(hd:dp g<=50)(hz:szG g<=10000):lY [dG g]=.ok (true,.lst<|(prG [] ([],[]) g).map trD):=by
 obtain⟨k,m',e⟩:=YT (.fz<|dG g) _ [] [([],g,([],[]))] .un .un .un .un .un .un .un .un rfl (λp hp=>by rw[cb.mp hp];exact⟨h,hs,by simp;lia,by simp;lia,by simp;lia⟩) (by show 0+(szG g+0)<=_;lia);have e2:=uQ k e;simp only[kS,qf,qV,eR] at e2;exact JV e2
noncomputable def tru (ks:List (List Kt)):List D:=ks.map λ_=>.bl true
theorem QZ:∀{ks:List (List Kt)} {ds:List D},ks.length=ds.length->(cA ks (tru ks) k).isSome=(cA ks ds k).isSome
 |[],[],_=>rfl
 |[],_::_,h=>by simp at h
 |_::_,[],h=>by simp at h
 |a::ks,d::ds,h=>by
  show(cA (a::ks) (.bl true::tru ks) k).isSome=_;unfold cA;split
  ·rfl
  ·exact QZ<|by simpa using h
theorem Zj (h:(cA ks (tru ks) k).isSome=false):gJ ks (tru ks) k (.bl true)=(ks++[k],tru<|ks++[k]):=by
 have hn:k∉ks:=λhk=>by
  have:∀{ks:List (List Kt)},k∈ks->(cA ks (tru ks) k).isSome=true:=by
   intro ks;induction ks with
   |nil=>intro h;cases h
   |cons a ks ih=>
    intro h;show(cA (a::ks) (.bl true::tru ks) k).isSome=true;unfold cA;split
    ·rfl
    ·rename_i q;rcases a8.mp h with e|e
     ·exact absurd e.symm q
     ·exact ih e
  rw[this hk] at h;cases h
 unfold gJ;rw[if_neg λz=>hn<|Gv.mp z];simp[tru]
theorem Zt (hp:okP p)(hl:T.1.length=T.2.length)(hz:T.1.length<=100000):∃m1 s6',iW 3 (bC (hName 3)<|bC (hName 4)<|bC (hName 5) iM) (trD p) [g0,.ow<|.lst T.2,.ow<|.dcu T.1<|tru T.1,s3,s4,s5,s6]=some m1/\
  dF m1=.ok (.nx,[g0,.ow<|.lst (tst T p).2,.ow<|.dcu (tst T p).1<|tru (tst T p).1,.fz<|.tup<|p.1.map D.int,.fz<|dG p.2.1,.fz<|rD2 p.2.2,s6'])/\(tst T p).1.length=(tst T p).2.length:=by
 obtain⟨w,g,r⟩:=p;have x20:∀a b:D,atI [a,b] 0=some a:=λ_ _=>rfl;have x21:∀a b:D,atI [a,b] 1=some b:=λ_ _=>rfl;have x30:∀a b c:D,atI [a,b,c] 0=some a:=λ_ _ _=>rfl;have x40:∀a b c d:D,atI [a,b,c,d] 0=some a:=λ_ _ _ _=>rfl;have x41:∀a b c d:D,atI [a,b,c,d] 1=some b:=λ_ _ _ _=>rfl;have x42:∀a b c d:D,atI [a,b,c,d] 2=some c:=λ_ _ _ _=>rfl;have x43:∀a b c d:D,atI [a,b,c,d] 3=some d:=λ_ _ _ _=>rfl;cases g with
 |fin d=>exact⟨_,s6,rfl,by simp[dF,gIf,iC,aN,az,aa,fC,gIx,dG,x20,gNx,tst],by simpa[tst] using hl⟩
 |deal n ws=>exact⟨_,s6,rfl,by simp[dF,gIf,iC,aN,az,aa,fC,gIx,dG,x30,gNx,tst],by simpa[tst] using hl⟩
 |move s n ws=>
  have hp:(s=1\/s=2)/\jA ws<=100:=hp;have kk:uz (.tup [.int s,.str n])=some (kn s n):=rfl;have z1:T.1.length<16777216:=by lia
  have z2:T.2.length<16777216:=by lia
  have hz1:(fJ ws).length<=16777216:=by rw[ug];lia
  have hz2:(dWs ws).length<=16777216:=by rw[sy];lia
  have vt:=QZ (k:=kn s n) hl;have eq:∀a b c,nU [g0,a,b,c,.fz<|dG<|.move s n ws,.fz<|rD2 r,s6]=.ok (.lst<|fJ ws):=λa b c=>by
   simp[nU,dX,jB,az,aa,fC,gIx,dG,x43,cMe,yz,hz1,hz2]
  simp only[dG,rD2] at eq;by_cases q:(cA T.1 T.2<|kn s n).isSome=true
  ·rw[q] at vt;refine⟨_,s6,rfl,?_,by simp[tst,q,hl]⟩;simp[dF,gIf,iC,aN,az,aa,fC,gIx,dG,x40,x41,x42,gNx,tst,q,zK,Rp,dcK,aY,aj,aB,kk,vt]
  ·have q':(cA T.1 T.2<|kn s n).isSome=false:=by simpa using q
   rw[q'] at vt;have pt:=Zj vt;refine⟨_,.fz<|.tup<|fJ ws,rfl,?_,by simp[tst,q',hl]⟩;rcases hp.1 with rfl|rfl
   ·simp[dF,gIf,iC,aN,az,aa,fC,gIx,dG,x40,x41,x42,aK,qN,zc,ni,tst,q',zK,Rp,dcK,aY,aj,aB,kk,vt,z1,pt,bc,aQ,gh,eq,hz1,cP,j9,putL,z2,aG,rD2,F.dN,x20,x21,gM,gm]
   ·simp[dF,gIf,iC,aN,az,aa,fC,gIx,dG,x40,x41,x42,aK,qN,zc,ni,tst,q',zK,Rp,dcK,aY,aj,aB,kk,vt,z1,pt,bc,aQ,gh,eq,hz1,cP,j9,putL,z2,aG,rD2,F.dN,x20,x21,gM,gm]
theorem Qo:∀(l:List Tr) (T:Tb) (s3 s4 s5 s6:Sl),(∀p∈l,okP p)->T.1.length=T.2.length->T.1.length+l.length<=100000->∃m',bj (iW 3<|bC (hName 3)<|bC (hName 4)<|bC (hName 5) iM) dF (l.map trD) [g0,.ow<|.lst T.2,.ow<|.dcu T.1<|tru T.1,s3,s4,s5,s6]=.ok (.nx,g0::.ow (.lst (l.foldl tst T).2)::m')
 |[],T,s3,s4,s5,s6,_,_,_=>⟨_,rfl⟩
 |p::l,T,s3,s4,s5,s6,hp,hl,hz=>by
  have hz':T.1.length+(l.length+1)<=100000:=hz;refine zR (Zt (g0:=g0) (s3:=s3) (s4:=s4) (s5:=s5) (s6:=s6) (T:=T) (hp p ah) hl<|by lia) λm1 s6' e1 e2 e3=>?_
  have:=O5 T p
  obtain⟨m',e⟩:=Qo l (tst T p) (.fz<|.tup<|p.1.map D.int) (.fz<|dG p.2.1) (.fz<|rD2 p.2.2) s6' (λq hq=>hp q<|af _ hq) e3 (by lia);exact⟨m',by rw[ar,bG e1 e2,e];rfl⟩
theorem Tf (h:iG g)(hs:sdG g)(hd:dp g<=50)(hz:szG g<=10000):jK [dG g]=.ok (true,.lst (tbl<|prG [] ([],[]) g).2):=by
 have e:=MN h hs hd hz;obtain⟨m',e2⟩:=Qo (g0:=.fz<|dG g) (prG [] ([],[]) g) ([],[]) .un .un .un .un (Ge _ _ g h hs) rfl (by rw[Jh];simp;lia);have eL:oO [.fz<|dG g,.ow<|.lst [],.ow<|.dcu [] [],.un,.un,.un,.un]=.ok (.nx,.fz (dG g)::.ow (.lst (tbl<|prG [] ([],[]) g).2)::m'):=by
  have e1:fL (fFn lY<|aj (aG 0) aB) [.fz<|dG g,.ow<|.lst [],.ow<|.dcu [] [],.un,.un,.un,.un]=.ok ((prG [] ([],[]) g).map trD):=by
   simp[fL,fFn,aj,aB,aG,e]
  unfold oO dg;rw[e1];exact e2
 simp[jK,rR,rW,aX,aK,cX,fU,aB,sW,eL,gU]
def prd (d:D):Prop:=∃a b:Str,d=.tup [.str a,.str b]
theorem Xy (x y:Sl):∀(n:Nat) (a b:Int),b.toNat=n->0<=a->0<=b->∃k,wh mO m5 k [x,y,.fz<|.int a,.fz<|.int b] =
  some (.ok (.nx,[x,y,.fz<|.int<|gI a b,.fz<|.int 0])):=by
 intro n;induction n using sA with
 |_ n ih=>
  intro a b hn ha hb;by_cases h0:b=0
  ·subst h0;refine⟨1,?_⟩;rw[Ou ha];exact Bd rfl
  ·have hb':0<b:=by lia
   have hm:=ja a hb';have hm0:=lI a h0;obtain⟨k,e⟩:=ih (a%b).toNat (by lia) b (a%b) rfl hb hm0;rw[O7 ha hb'] at e;refine⟨k+1,Ao (m':=[x,y,.fz<|.int b,.fz<|.int<|a%b]) ?_ ?_ e⟩
   ·simp[mO,aN,aa,fC,h0]
   ·simp[m5,ab6,aj,aB,az,aa,aG,bJ,mdI,h0,hb']
theorem vI (hb:0<b)(hB:Bq b):dC [.int t,.int b]=.ok (false,rD<|cq t b):=by
 obtain⟨k,e⟩:=Xy (.fz<|.int t) (.fz<|.int b) _ (if t<0 then -t else t) b rfl (by split<;>lia) (by lia);have eb:(if b<0 then -b else b)=b:=if_neg (by lia);have ga:=Wn t b;rw[eb] at ga;rw[ga] at e;have e2:=uQ k e;have hg:=Im (a:=t) (show b≠0 by lia);have hdv:dv t b=gI t b:=if_neg (by lia);have hB':Bq (gI t b):=by
  have h1:=aaF (a:=t) (show b≠0 by lia);unfold Bq at hB ⊢
  lia
 have e3:dvI t (gI t b)=lt t b:=by
  unfold dvI lt;rw[if_pos hg,hdv,iL t<|by lia]
 have e4:dvI b (gI t b)=lb t b:=by
  unfold dvI lb;rw[if_pos hg,hdv,iL b<|by lia]
 have el:=HY (t:=t) (show b≠0 by lia);have hr:rD (cq t b)=.tup [.int<|lt t b,.int<|lb t b]:=by
  show qD (rq<|cq t b)=_;rw[← el];rfl
 have hne:gI t b≠0:=by lia
 rw[hr];simp[dC,qi,qz,aX,sS,aK,bc,aQ,S5,aj,aB,aa,aG,e2,bM,Me.let,Sl.let,aY,az,du,hne,hB',e3,e4]
theorem zp (hb:0<b)(h1:t.natAbs<=999999999999)(h2:b<=999):smQ (rq<|cq t b):=by
 have e:=HY (t:=t) (show b≠0 by lia);have e1:lt t b=(cq t b).num:=congrArg AY e;have e2:lb t b=((cq t b).den:Int):=congrArg Prod.snd e;have l1:=aaQ (t:=t) (show b≠0 by lia);have l2:=aaK (t:=t) (show b≠0 by lia);rw[e1] at l1;rw[e2] at l2;exact⟨by show(cq t b).num.natAbs<=_;lia,by show((cq t b).den:Int)<=_;lia⟩
theorem bgS (h:i.natAbs<=10000000000000):Bq i:=by
 refine ada (k:=50) ?_
 have:(2:Nat)^50=1125899906842624:=by decide
 lia
def sm (x:Int):Prop:=0<=x/\x<2147483647
theorem DN (h:0<=x/\x<=9000000000):∃q:Rat,cz [.int x]=.ok (false,rD q)/\smQ (rq q):=by
 obtain⟨h0,h1⟩:=h;have b1:Bq x:=bgS (by lia);have b2:Bq 48271:=bgS (by decide);have b3:Bq 8:=bgS (by decide);have b4:Bq 104:=bgS (by decide);by_cases q:x%8=3
 ·have hb:0<1+x/8%999:=by lia
  have hb2:1+x/8%999<=999:=by lia
  have e:=vI (t:=x*48271%1999999999999-999999999999) hb<|bgS (by lia);refine⟨_,?_,zp hb (t:=x*48271%1999999999999-999999999999) (by lia) hb2⟩;simp[cz,nF,nq,aX,aK,gIf,aN,az,aa,fC,bJ,mdI,q,bM,Me.let,Sl.let,fFn,aj,aB,fB,b1,b2,F.dN,bU,du,dvI,b3,e]
 ·have hb:0<1+x/104%3:=by lia
  have hb2:1+x/104%3<=999:=by lia
  have e:=vI (t:=x/8%13-6) hb<|bgS (by lia);refine⟨_,?_,zp hb (t:=x/8%13-6) (by lia) hb2⟩;simp[cz,nF,nq,aX,aK,gIf,aN,az,aa,fC,bJ,mdI,q,gNx,bM,Me.let,Sl.let,fFn,aj,aB,F.dN,bU,du,dvI,b3,b4,e]
theorem Bw (c k:Int)(hk:0<=k/\k<=1000):∃x,cJ [.int c,.int k]=.ok (false,.int x)/\sm x:=by
 have b1:Bq (c%2147483647+1):=bgS (by lia);have b2:Bq (48271+7*k):=bgS (by lia);have b3:Bq 7:=bgS (by decide);have b4:Bq k:=bgS (by lia);refine⟨(c%2147483647+1)*(48271+7*k)%2147483647,?_,by constructor<;>lia⟩;simp[cJ,vP,vJ,aX,bM,Me.let,Sl.let,az,aa,fC,bJ,mdI,fB,bU,b1,b2,b3,b4]
noncomputable def pt (x:Int):Int:=1+x%4+x/4%8/7*(x/32%200)
theorem adT (x:Int):1<=pt x/\pt x<=203:=by
 unfold pt;have h1:x/4%8/7=0\/x/4%8/7=1:=by lia
 rcases h1 with h|h<;>rw[h]<;>lia
theorem XC (h:sm x)(hP:P.length<=100):eU [.fz<|.int x,s1,.ow<|.lst P,s3]=.ok (.nx,[.fz<|.int<|x*48271%2147483647,s1,.ow<|.lst<|P++[.int<|pt x],s3]):=by
 obtain⟨h0,h1⟩:=h;have b1:Bq x:=bgS (by lia);have b2:Bq 48271:=bgS (by decide);have b3:Bq 4:=bgS (by decide);have b4:Bq 7:=bgS (by decide);have b5:Bq 32:=bgS (by decide);have b6:Bq (x/4%8/7):=bgS (by lia);have b7:Bq (x/32%200):=bgS (by lia);have z1:P.length<16777216:=by lia
 simp[eU,aK,cP,j9,putL,az,aa,fC,bU,bJ,mdI,fB,du,dvI,b1,b2,b3,b4,b5,b6,b7,z1,bc,pt]
theorem xr:∀(c i:Nat) (x:Int) (P:List Int) (s3:Sl),sm x->P.length+c<=100->(∀p∈P,1<=p/\p<=203)->∃(x' s3':Sl) (Q:List Int),bj (hName 3) eU ((jI i c).map λ(k:Nat)=>D.int k) [.fz<|.int x,s1,.ow<|.lst<|P.map D.int,s3]=.ok (.nx,[x',s1,.ow<|.lst<|Q.map D.int,s3'])/\Q.length=P.length+c/\∀p∈Q,1<=p/\p<=203
 |0,i,x,P,s3,_,_,hp=>⟨_,s3,P,rfl,rfl,hp⟩
 |c+1,i,x,P,s3,hx,hz,hp=>by
  have st:=XC (s1:=s1) (s3:=.fz<|.int (i:Int)) (P:=P.map D.int) hx (by simp;lia);obtain⟨x',s',Q,e,l,h⟩:=xr (s1:=s1) c (i+1) (x*48271%2147483647) (P++[pt x]) (.fz<|.int (i:Int)) (by constructor<;>lia) (by simp;lia) λp hp'=>by
   rcases c6.mp hp' with e|e
   ·exact hp p e
   ·rw[cb.mp e];exact adT x
  refine⟨x',s',Q,?_,by rw[l];simp;lia,h⟩;rw[fA,ar,bG (m1:=[.fz<|.int x,s1,.ow<|.lst<|P.map D.int,.fz<|.int (i:Int)]) rfl st];rw[bE] at e;exact e
theorem Ht (S:Int):∀Q:List Int,(Q.map λp=>cq p S).sum=cq Q.sum S
 |[]=>by simp
 |p::Q=>by
  rw[ar,ka,ka,Ht S Q,vx,vx,vx,BF,BF,BF,← Rat.add_mul,Rat.intCast_add]
theorem div_self (h:0<S):cq S S=1:=by
 rw[Rat.divInt_self'<|by lia]
theorem div_pos (hp:0<p)(h:0<S):0<(cq p S).num:=by
 have hd:0<((cq p S).den:Int):=by have:=ik<|cq p S;lia
 have h2:=(vv (by lia)<|by lia).mp<|pf<|cq p S;have h3:0<p*((cq p S).den:Int):=BG hp hd;rw[← h2] at h3;exact Int.pos_of_mul_pos_left h3 h
theorem Vt:∀Q:List Int,(∀p∈Q,1<=p/\p<=203)->(Q.length:Int)<=Q.sum/\Q.sum<=203*Q.length
 |[],_=>by simp
 |p::Q,h=>by
  have:=Vt Q λx hx=>h x<|af _ hx
  have:=h p ah
  simp only[ka,cw]
  lia
theorem Ks:∀Q:List Int,Lx (Q.map D.int)=some Q
 |[]=>rfl
 |p::Q=>by simp[Lx,Ks Q]
theorem Ba (Q:List Int):KY [.lst<|Q.map D.int]=some (.int Q.sum):=by
 show(Lx _).map _=_;rw[Ks];rfl
theorem aa2 {Q:List Int}(hS:0<Q.sum)(hS2:Q.sum<=609)(z1:Q.length<=1000):m6 [u,.fz<|.int c,.fz<|.lst<|Q.map D.int,v]=.ok (.lst<|Q.map λp=>rD<|cq p Q.sum):=by
 have bS:Bq Q.sum:=bgS (by lia);have ec':fK (hName 0) jn m7 [.un,.fz<|.lst<|Q.map D.int] (Q.map D.int)=.ok (Q.map λp=>rD<|cq p Q.sum):=iz Q λp hp=>by
  refine⟨[.fz<|.int p,.fz<|.lst<|Q.map D.int],rfl,rfl,?_⟩;have el:=vI (t:=p) hS bS;simp[m7,fFn,aj,aB,aG,aQ,aa,Ba Q,el]
 have z2:Q.length<=16777216:=by lia
 simp[m6,dX,fL,aa,cMe,Sl.bor,ec',z2]
theorem abo {Q:List Int}(hc:c<=3)(e:bj (hName 3) eU ((jI 0 c).map λ(k:Nat)=>D.int k) [.fz<|.int x,.fz<|.int (c:Int),.ow<|.lst [],.un]=.ok (.nx,[x',.fz<|.int (c:Int),.ow<|.lst<|Q.map D.int,s'])):
  jd [.fz<|.int x,.fz<|.int (c:Int),.ow<|.lst [],.un]=.ok (.nx,[x',.fz<|.int (c:Int),.ow<|.lst<|Q.map D.int,s']):=by
 have e1:(aj (aa 1) aB) [.fz<|.int x,.fz<|.int (c:Int),.ow<|.lst [],.un]=.ok [.int (c:Int)]:=by simp[aj,aa,aB]
 have e2:=GD e1 (by lia) (by lia);unfold jd dg;rw[e2];show bj (hName 3) eU ((cf c).map λ(k:Nat)=>D.int k) _=_;rw[f6];exact e
theorem Nh (eL:L [.fz x,.fz c,.ow<|.lst [],.un]=.ok (.nx,[x',.fz c,.ow l,s']))(eq:∀u v:Sl,QQ [u,.fz c,.fz l,v]=.ok r):aX 4 2 (lN L QQ) [x,c]=.ok (true,r):=by
 simp[aX,lN,aK,cX,fU,aB,eL,nj,Me.let,Sl.let,eq]
theorem acY {Q:List Int}(hS:0<Q.sum)(hS2:Q.sum<=609)(z1:Q.length<=1000)(eL:jd [.fz<|.int x,.fz<|.int (c:Int),.ow<|.lst [],.un]=.ok (.nx,[x',.fz<|.int (c:Int),.ow<|.lst<|Q.map D.int,s'])):
  lF [.int x,.int (c:Int)]=.ok (true,.lst<|Q.map λp=>rD<|cq p Q.sum):=
 Nh eL λu v=>aa2 hS hS2 z1
theorem Mr {x:Int}{c:Nat}(h:sm x)(hc:1<=c/\c<=3):∃l:List Rat,lF [.int x,.int (c:Int)]=.ok (true,.lst<|l.map rD)/\(∀q∈l,Sz 20 q/\smQ (rq q)/\0<q.num)/\l.length=c/\l.sum=1:=by
 obtain⟨x',s',Q,e,hl,hQ⟩:=xr (s1:=.fz<|.int (c:Int)) c 0 x [] .un h (by simp;lia) (λ_ z=>by cases z);have hl:Q.length=c:=by simpa using hl
 have sb:=Vt Q hQ;have hS:0<Q.sum:=by lia
 have hS2:Q.sum<=609:=by lia
 refine⟨Q.map λp=>cq p Q.sum,?_,λq hq=>?_,by simp[hl],by rw[Ht,div_self hS]⟩
 ·rw[fm];exact acY hS hS2 (by lia)<|abo hc.2 e
 ·obtain⟨p,hp,rfl⟩:=aT.mp hq;have hb:=hQ p hp;have p20:(1000:Nat)<2^20:=by decide
  exact⟨GZ (by lia) (pj (show p.natAbs<=1000 by lia) p20) (pj (show Q.sum.natAbs<=1000 by lia) p20),zp hS (by lia) (by lia),div_pos (by lia) hS⟩
structure En where
 cells:List Int
 pool:List Str
 turn:Int
 lev:Bool
noncomputable def sk (x:String):Key:=.inr<|c9 x
def RX:List Key:=[sk "at",sk "room",sk "names",sk "many",sk "pool",sk "turn",sk "level"]
def stD (e:En)(A:Addr×Addr)(at_ room:Int):D:=.dct RX [.int at_,.int room,.adr A.1,.adr A.2,.lst<|e.pool.map D.str,.int e.turn,.bl e.lev]
theorem afB (e:En)(A:Addr×Addr)(a r:Int):cI (stD e A a r) (.str "at")=some (.int a):=by rfl
theorem Iu (e:En)(A:Addr×Addr)(a r:Int):cI (stD e A a r) (.str "room")=some (.int r):=by rfl
theorem JC (e:En)(A:Addr×Addr)(a r:Int):cI (stD e A a r) (.str "names")=some (.adr A.1):=by rfl
theorem Og (e:En)(A:Addr×Addr)(a r:Int):cI (stD e A a r) (.str "many")=some (.adr A.2):=by rfl
theorem O9 (e:En)(A:Addr×Addr)(a r:Int):cI (stD e A a r) (.str "pool")=some (.lst<|e.pool.map D.str):=by rfl
theorem QV (e:En)(A:Addr×Addr)(a r:Int):cI (stD e A a r) (.str "turn")=some (.int e.turn):=by rfl
theorem UW (e:En)(A:Addr×Addr)(a r:Int):cI (stD e A a r) (.str "level")=some (.bl e.lev):=by rfl
theorem afz (h:m[i]? = some (.io<|stD e A a r))(hk:fk m=.ok (.str "at"))(hv:fv m=.ok (.int a')):gf i fk fv m=.ok (.nx,m.set i<|.io<|stD e A a' r):=by
 have ho:z9 m i=some (false,RX,[.int a,.int r,.adr A.1,.adr A.2,.lst<|e.pool.map D.str,.int e.turn,.bl e.lev]):=by
  unfold z9;rw[h];rfl
 unfold gf;rw[hv,ho];simp[hk,uW,Bo,putD,RX,sk,Gi,stD]
theorem KN (h:m[i]? = some (.io<|stD e A a r))(hk:fk m=.ok (.str "room"))(hv:fv m=.ok (.int r')):gf i fk fv m=.ok (.nx,m.set i<|.io<|stD e A a r'):=by
 have ho:z9 m i=some (false,RX,[.int a,.int r,.adr A.1,.adr A.2,.lst<|e.pool.map D.str,.int e.turn,.bl e.lev]):=by
  unfold z9;rw[h];rfl
 unfold gf;rw[hv,ho];simp[hk,uW,Bo,putD,RX,sk,Gi,stD]
noncomputable def kp:D->Kt
 | .tup [.str a,.str b]=>.t [.k<|.inr a,.k<|.inr b]
 |_=>.t []
def kN (s:Int)(rc:List D)(c b:Int):List Kt:=[.k<|.inl s,.t<|rc.map kp,.k<|.inl c,.k<|.inl b]
abbrev Pr (rc:List D):Prop:=∀d∈rc,prd d
theorem aaH:∀{rc:List D},Pr rc->lO (ktD<|n+1) rc=some (rc.map kp)
 |[],_=>rfl
 |d::rc,h=>by
  obtain⟨a,b,rfl⟩:=h d ah;have ih:=aaH (n:=n) λx hx=>h x<|af _ hx;have e:ktD (n+1) (.tup [.str a,.str b])=some (.t [.k<|.inr a,.k<|.inr b]):=by
   cases n<;>rfl
  show((ktD (n+1)<|.tup [.str a,.str b]).bind λk=>(lO (ktD<|n+1) rc).map λks=>k::ks)=_;rw[e,ih];rfl
theorem aea (h:Pr rc):uz (.tup [.int s,.tup rc,.int c,.int b])=some (kN s rc c b):=by
 have e:ktD 7 (.tup rc)=some (.t<|rc.map kp):=by
  show(lO (ktD 6) rc).map Kt.t=_;rw[aaH h];rfl
 show((ktD 7<|.int s).bind λk=>((ktD 7<|.tup rc).bind λk=>((ktD 7<|.int c).bind λk=>((ktD 7<|.int b).bind λk=>(some []).map λks=>k::ks).map λks=>k::ks).map λks=>k::ks).map λks=>k::ks)=_;rw[e];rfl
theorem yE:∀{r r':List D},Pr r->Pr r'->r.map kp=r'.map kp->r=r'
 |[],[],_,_,_=>rfl
 |[],_::_,_,_,h=>by cases h
 |_::_,[],_,_,h=>by cases h
 |d::r,d'::r',h1,h2,h=>by
  obtain⟨a,b,rfl⟩:=h1 d ah;obtain⟨a',b',rfl⟩:=h2 d' ah;have h:Kt.t [.k<|.inr a,.k<|.inr b]::r.map kp=Kt.t [.k<|.inr a',.k<|.inr b']::r'.map kp:=h;injection h with e1 e2
  injection e1 with e1
  injection e1 with e3 e4
  injection e3 with e3
  injection e3 with e3
  injection e4 with e4 _
  injection e4 with e4
  injection e4 with e4
  rw[e3,e4,yE (λx hx=>h1 x<|af _ hx) (λx hx=>h2 x<|af _ hx) e2]
theorem Ik (h1:Pr r)(h2:Pr r')(h:kN s r c b=kN s' r' c' b'):s=s'/\r=r'/\c=c'/\b=b':=by
 unfold kN at h;injection h with e1 h
 injection h with e2 h
 injection h with e3 h
 injection h with e4 _
 injection e1 with e1
 injection e1 with e1
 injection e2 with e2
 injection e3 with e3
 injection e3 with e3
 injection e4 with e4
 injection e4 with e4
 exact⟨e1,yE h1 h2 e2,e3,e4⟩
abbrev Nd:=List (List Kt)×List D
noncomputable def mOf (m:Int×Int)(s:Int):Int:=if s=1 then m.1 else m.2
structure oV (N:Nd)(m:Int×Int):Prop where
 len:N.1.length=N.2.length
 sz:N.1.length<=1000
 nn:0<=m.1/\0<=m.2
 num:∀s rc c b d,(s=1\/s=2)->Pr rc->cA N.1 N.2 (kN s rc c b)=some d->∃n:Int,d=.int n/\0<=n/\n<mOf m s
 inj:∀s rc c b rc' c' b' d,(s=1\/s=2)->Pr rc->Pr rc'->cA N.1 N.2 (kN s rc c b)=some d->cA N.1 N.2 (kN s rc' c' b')=some d->rc=rc'/\c=c'
def Sub (N N':Nd):Prop:=∀k d,cA N.1 N.2 k=some d->cA N'.1 N'.2 k=some d
noncomputable def upM (m:Int×Int)(s:Int):Int×Int:=if s=1 then(m.1+1,m.2) else(m.1,m.2+1)
theorem abO (I:oV N m)(hs:s=1\/s=2)(hr:Pr rc)(hz:N.1.length<1000)(hn:cA N.1 N.2 (kN s rc c b)=none):
  oV (gJ N.1 N.2 (kN s rc c b)<|.int<|mOf m s) (upM m s)/\Sub N (gJ N.1 N.2 (kN s rc c b)<|.int<|mOf m s):=by
 have hp:=λk'=>wU (ks:=N.1) (ds:=N.2) (k:=kN s rc c b) (k':=k') (d:=.int<|mOf m s) I.len;obtain⟨l1,l2⟩:=Hv (ks:=N.1) (ds:=N.2) (k:=kN s rc c b) (d:=.int<|mOf m s) I.len;have nn:=I.nn;have m0:0<=mOf m s:=by unfold mOf;split<;>lia
 have mle:∀t,mOf m t<=mOf (upM m s) t:=λt=>by
  unfold mOf upM;by_cases q:s=1<;>by_cases q2:t=1<;>simp[q,q2]<;>lia
 have mlt:mOf m s<mOf (upM m s) s:=by
  unfold mOf upM;by_cases q:s=1<;>simp[q]<;>lia
 refine⟨⟨l1,by lia,?_,?_,?_⟩,?_⟩
 ·unfold upM;split<;>simp<;>lia
 ·intro t r c' b' d ht hr' h;rw[hp] at h;by_cases q:kN s rc c b=kN t r c' b'
  ·rw[if_pos q] at h;cases h;obtain⟨rfl,_⟩:=Ik hr hr' q;exact⟨_,rfl,m0,mlt⟩
  ·rw[if_neg q] at h;obtain⟨n,e,h0,h1⟩:=I.num t r c' b' d ht hr' h;exact⟨n,e,h0,Int.lt_of_lt_of_le h1<|mle t⟩
 ·intro t r c1 b1 r' c2 b2 d ht h1 h2 e1 e2;rw[hp] at e1 e2;by_cases q1:kN s rc c b=kN t r c1 b1
  ·rw[if_pos q1] at e1;cases e1;obtain⟨rfl,rfl,rfl,rfl⟩:=Ik hr h1 q1;by_cases q2:kN s rc c b=kN s r' c2 b2
   ·obtain⟨_,rfl,rfl,_⟩:=Ik hr h2 q2;exact⟨rfl,rfl⟩
   ·rw[if_neg q2] at e2;obtain⟨n,e,_,h⟩:=I.num s r' c2 b2 _ ht h2 e2;cases e
    lia
  ·rw[if_neg q1] at e1;by_cases q2:kN s rc c b=kN t r' c2 b2
   ·rw[if_pos q2] at e2;cases e2;obtain⟨rfl,rfl,rfl,rfl⟩:=Ik hr h2 q2;obtain⟨n,e,_,h⟩:=I.num s r c1 b1 _ ht h1 e1;cases e
    lia
   ·rw[if_neg q2] at e2;exact I.inj t r c1 b1 r' c2 b2 d ht h1 h2 e1 e2
 ·intro k d h;rw[hp,if_neg λq=>by rw[← q,hn] at h;cases h];exact h
theorem Sw (I:oV N m)(hs:s=1\/s=2)(hr:Pr rc)(hz:N.1.length<1000):
  ∃(n:Int) (N':Nd) (m':Int×Int),(∀A:Addr×Addr,dm [.int s,.tup rc,.int c,.int b] (stD e A a r) (A.1,.dcu N.1 N.2) (A.2,.lst [.int m.1,.int m.2])=.ok (.int n,stD e A a r,.dcu N'.1 N'.2,.lst [.int m'.1,.int m'.2]))/\
   0<=n/\cA N'.1 N'.2 (kN s rc c b)=some (.int n)/\oV N' m'/\Sub N N'/\N'.1.length<=N.1.length+1:=by
 have kk:=aea (s:=s) (c:=c) (b:=b) hr;have z1:N.1.length<16777216:=by lia
 have x0:∀a b:D,atI [a,b] 0=some a:=λ_ _=>rfl;have x1:∀a b:D,atI [a,b] 1=some b:=λ_ _=>rfl;have n0:ixN 2 0=some 0:=rfl;have n1:ixN 2 1=some 1:=rfl;cases q:cA N.1 N.2 (kN s rc c b) with
 |some d=>
  obtain⟨n,rfl,h0,h1⟩:=I.num s rc c b d hs hr q;refine⟨n,N,m,λA=>?_,h0,q,I,λ_ _ h=>h,by lia⟩;have g1:=JC e A a r;have g2:=Og e A a r;generalize hst:stD e A a r=ST at *;simp[dm,gw,gq,F.runST,lr,aK,bc,aY,aj,aB,aG,gIf,aN,aa,Li,az,fC,g1,g2,zK,Rp,jV,dcK,kk,q,gNx,bM,Me.let,Sl.let,sX,kh]
 |none=>
  obtain⟨I',S'⟩:=abO I hs hr hz q;have l2:=(Hv (ks:=N.1) (ds:=N.2) (k:=kN s rc c b) (d:=.int<|mOf m s) I.len).2;have hv:cA (gJ N.1 N.2 (kN s rc c b)<|.int<|mOf m s).1 (gJ N.1 N.2 (kN s rc c b)<|.int<|mOf m s).2 (kN s rc c b)=some (.int<|mOf m s):=by rw[wU I.len,if_pos rfl]
  have m0:0<=mOf m s:=by have:=I.nn;unfold mOf;split<;>lia
  refine⟨mOf m s,gJ N.1 N.2 (kN s rc c b)<|.int<|mOf m s,upM m s,λA=>?_,m0,hv,I',S',l2⟩;have g1:=JC e A a r;have g2:=Og e A a r;generalize hst:stD e A a r=ST at *;obtain⟨k,k1,k2,k3⟩:∃k,ixN 2 (s-1)=some k/\atI [.int m.1,.int m.2] (s-1)=some (D.int<|mOf m s)/\[D.int m.1,.int m.2].set k (.int<|mOf m s+1)=[.int (upM m s).1,.int (upM m s).2]:=by
   rcases hs with rfl|rfl
   ·exact⟨0,rfl,rfl,rfl⟩
   ·exact⟨1,rfl,rfl,rfl⟩
  generalize mOf m s=M at *;generalize upM m s=U at *;simp[dm,gw,gq,F.runST,lr,aK,bc,aY,aj,aB,aG,gIf,aN,aa,Li,az,fC,g1,g2,zK,Rp,jV,dcK,kk,q,bM,Me.let,Sl.let,sX,kh,Bj,zm,yR,gIx,F.dN,k1,k2,k3,z1,bU,hv]
noncomputable def nameAt (e:En)(n:Int):Str:=e.pool.getD ((n+e.turn)%8).toNat ⟨#[]⟩
noncomputable def wordAt (e:En)(n k:Int):Str:=e.pool.getD ((3*n+k+e.turn/8)%8).toNat ⟨#[]⟩
structure nC (e:En):Prop where
 c1:1<=e.cells.length
 c2:e.cells.length<=100
 p8:e.pool.length=8
 t0:0<=e.turn/\e.turn<64
 pok:∀x∈e.pool,hZ x=true
theorem Hz (E:nC e){i:Int}(h:0<=i/\i<8):atI (e.pool.map D.str) i=some (.str<|e.pool.getD i.toNat ⟨#[]⟩):=by
 have hl:i.toNat<e.pool.length:=by rw[E.p8];lia
 have e1:(e.pool.map D.str)[i.toNat]? = some (.str<|e.pool.getD i.toNat ⟨#[]⟩):=by
  rw[bX,av hl,b9,av hl];rfl
 have:=lL e1
 rwa [show((i.toNat:Nat):Int)=i by lia] at this
theorem Am (E:nC e)(i:Nat)(h:i<8):hZ (e.pool.getD i ⟨#[]⟩)=true:=by
 have hl:i<e.pool.length:=by rw[E.p8];exact h
 rw[b9,av hl];exact E.pok _<|rf hl
def Row (e:En)(N:Nd)(s:Int)(nm:Str)(d:D):Prop:=∃(rc:List D) (c:Nat) (b n:Int),Pr rc/\pR rc=true/\cA N.1 N.2 (kN s rc (c:Int) b)=some (.int n)/\0<=n/\n<8/\(1<=c/\c<=3)/\nm=nameAt e n/\d=.tup [.int s,.str nm,.tup<|(cf c).map λ(k:Nat)=>.str<|wordAt e n k,.tup rc]
theorem Row.mono (h:Row e N s nm d)(S:Sub N N'):Row e N' s nm d:=by
 obtain⟨rc,c,b,n,h1,h2,h3,h4⟩:=h;exact⟨rc,c,b,n,h1,h2,S _ _ h3,h4⟩
def ZC (e:En)(N:Nd)(p:Tr):Prop:=match p.2.1 with
 | .fin d=>smQ d/\∃q:Rat,d=rq q
 | .deal n ws=>acL ws/\n∈e.pool
 | .move s n ws=>Row e N s n<|gM s n ws p.2.2
theorem ZC.mono (h:ZC e N p)(S:Sub N N'):ZC e N' p:=by
 obtain⟨w,g,r⟩:=p;cases g with
 |fin d=>exact h
 |deal n ws=>exact h
 |move s n ws=>exact Row.mono h S
structure Grw (e:En)(N:Nd)(rc:Rc)(g:Gm)(dep:Nat):Prop where
 len:iG g
 sd:sdG g
 dep:dp g<=dep
 pl:∀w,∀p∈prG w rc g,ZC e N p
theorem Grw.mono {e:En}{N N':Nd}{rc:Rc}{g:Gm}{dep:Nat}(h:Grw e N rc g dep)(S:Sub N N'):Grw e N' rc g dep:=⟨h.len,h.sd,h.dep,λw p hp=>(h.pl w p hp).mono S⟩
abbrev Bf:=List D->D->Addr×D->Addr×D->Res (D×D×D×D)
def JZ (rc:Rc)(dep:Nat):Prop:=Pr rc.1/\Pr rc.2/\pR rc.1=true/\pR rc.2=true/\rc.1.length+dep<=12/\rc.2.length+dep<=12
noncomputable def cD (e:En):D:=.lst<|e.cells.map D.int
noncomputable def rcD (rc:Rc):D:=.lst [.tup rc.1,.tup rc.2]
noncomputable def nD (N:Nd):D:=.dcu N.1 N.2
noncomputable def mD (m:Int×Int):D:=.lst [.int m.1,.int m.2]
def Gives (e:En)(R:Addr×Addr->Res (D×D×D×D))(a r:Nat)(N:Nd)(rc:Rc)(dep:Nat):Prop:=∃(g:Gm) (a' r':Nat) (N':Nd) (m':Int×Int),(∀A,R A=.ok (dG g,stD e A a' r',nD N',mD m'))/\oV N' m'/\Sub N N'/\N'.1.length<=a'/\r'+szG g=r+1/\a'+r'=a+r+1/\Grw e N' rc g dep
def SpB (e:En)(Φ:Bf)(dep:Nat):Prop:=∀(a r:Nat) (N:Nd) (m:Int×Int) (rc:Rc),oV N m->N.1.length<=a->a+r<=63->JZ rc dep->Gives e (λA=>Φ [cD e,.int (dep:Int),rcD rc] (stD e A a r) (A.1,nD N) (A.2,mD m)) a r N rc dep
noncomputable def ofL:List (D×Gm)->Ws
 |[]=>.nil
 |p::l=>.cons p.1 p.2<|ofL l
theorem Lz:∀l:List (D×Gm),dWs (ofL l)=l.map λp=>.tup [p.1,dG p.2]
 |[]=>rfl
 |p::l=>by show _::dWs (ofL l)=_;rw[Lz l];rfl
theorem HN:∀l:List (D×Gm),fJ (ofL l)=l.map (·.1)
 |[]=>rfl
 |p::l=>by show _::fJ (ofL l)=_;rw[HN l];rfl
def mvM (e:En)(A:Addr×Addr)(a r:Int)(N:Nd)(m:Int×Int)(rc:Rc)(dep draw s c n:Int)(seen:Str)(ζ:List D)(s11 s12 s13:Sl):Me:=
 [.fz<|cD e,.io<|stD e A a r,.fz<|.int dep,.fz<|rcD rc,.fz<|.int draw,.fz<|.int s,.fz<|.int c,.fz<|.int n,.fz<|.lst<|e.pool.map D.str,.fz<|.str seen,.ow<|.lst ζ,s11,s12,s13,.hd false A.1<|nD N,.hd false A.2<|mD m]
theorem acD (h:JZ rc (dep+1))(hn:hZ n=true)(hx:hZ x=true):JZ (rbm s n rc<|.str x) dep:=by
 refine lZ h λh1 h2 h3 h4 h5 h6=>?_;have app:∀l:List D,pR l=true->pR (l++[.tup [.str n,.str x]])=true:=by
  intro l;induction l with
  |nil=>intro _;simp[pR,okD,hn,hx]
  |cons d l ih=>intro h;simp[pR] at h ⊢;exact⟨h.1,ih h.2⟩
 have prp:∀l:List D,Pr l->Pr (l++[.tup [.str n,.str x]]):=λl h d hd=>by
  rcases c6.mp hd with e|e
  ·exact h d e
  ·exact⟨n,x,cb.mp e⟩
 unfold rbm;split
 ·exact⟨prp _ h1,h2,app _ h3,h4,by simp;lia,by simp;lia⟩
 ·exact⟨h1,prp _ h2,h3,app _ h4,by simp;lia,by simp;lia⟩
theorem Xz (E:nC e){Φ:Bf}{dep:Nat}(hΦ:SpB e Φ dep){a r:Nat}{N:Nd}{m:Int×Int}{rc:Rc}{draw s c n k:Int}{seen:Str}{ζ:List D}{s12 s13:Sl}(I:oV N m)(hN:N.1.length<=a)(har:a+r<=63)(hr:JZ rc (dep+1))(hs:s=1\/s=2)(hn:0<=n/\n<8)(hk:0<=k/\k<3)(hse:hZ seen=true)(hw:ζ.length<=100):
  ∃(g:Gm) (a' r':Nat) (N':Nd) (m':Int×Int) (t12 t13:Sl),(∀A:Addr×Addr,gQ Φ (mvM e A a r N m rc (dep+1:Nat) draw s c n seen ζ (.fz<|.int k) s12 s13)=.ok (.nx,mvM e A a' r' N' m' rc (dep+1:Nat) draw s c n seen (ζ++[.tup [.str<|wordAt e n k,dG g]]) (.fz<|.int k) t12 t13))/\
   oV N' m'/\Sub N N'/\N'.1.length<=a'/\r'+szG g=r+1/\a'+r'=a+r+1/\Grw e N' (rbm s seen rc<|.str<|wordAt e n k) g dep:=by
 have t0:=E.t0;have hwok:hZ (wordAt e n k)=true:=Am E _ (by lia);refine Jv (hΦ a r N m _ I hN har<|acD (s:=s) hr hse hwok) λg a' r' N' m' e1 i1 i2 i3 i4 i5 i6=>?_;refine⟨g,a',r',N',m',.fz<|.str<|wordAt e n k,.fz<|rcD<|rbm s seen rc<|.str<|wordAt e n k,λA=>?_,i1,i2,i3,i4,i5,i6⟩;have e1:Φ [cD e,.int (dep:Int),rcD<|rbm s seen rc<|.str<|wordAt e n k] (stD e A a r) (A.1,nD N) (A.2,mD m)=.ok (dG g,stD e A a' r',nD N',mD m'):=e1 A;have pa:=Hz E (i:=(3*n+k+e.turn/8)%8) (by lia);have b3:Bq 3:=bgS (by decide);have bn:Bq n:=bgS (by lia);have b8:Bq 8:=bgS (by decide);have gt:=QV e A a r;have x0:∀a b:D,atI [a,b] 0=some a:=λ_ _=>rfl;have x1:∀a b:D,atI [a,b] 1=some b:=λ_ _=>rfl;have n0:ixN 2 0=some 0:=rfl;have n1:ixN 2 1=some 1:=rfl;have z1:rc.1.length+1<=16777216:=by have:=hr.2.2.2.2.1;lia
 have z2:rc.2.length+1<=16777216:=by have:=hr.2.2.2.2.2;lia
 have z3:ζ.length<16777216:=by lia
 have ed:((dep+1:Nat):Int)-1=(dep:Int):=by lia
 have wd:wordAt e n k=e.pool.getD ((3*n+k+e.turn/8)%8).toNat ⟨#[]⟩:=rfl;rw[← wd] at pa;simp only[mvM];generalize wordAt e n k=X at *;generalize hst:stD e A a r=ST at *;generalize hst':stD e A (a':Int) (r':Int)=ST' at *;generalize cD e=C at *;generalize nD N=NN at *;generalize nD N'=NN' at *;generalize mD m=MM at *;generalize mD m'=MM' at *;generalize hdp:((dep+1:Nat):Int)=DP at *;rcases hs with rfl|rfl
 ·simp only[rbm,rcD,if_pos] at e1;simp[gQ,aK,bc,az,aa,gIx,bJ,mdI,bU,fB,fC,gt,du,dvI,b3,bn,b8,hst,hst',pa,cX,aQ,wQ,aj,aB,rcD,mY,F.dN,x0,x1,j9,putL,n0,n1,aY,aG,z1,z2,Vb,qM,Fx,tQ,fX,vW,Ij,yR,ed,e1,z6,Fo,z3,rbm]
 ·simp only[rbm,rcD,show((2:Int)=1)=False by simp,if_false] at e1;simp[gQ,aK,bc,az,aa,gIx,bJ,mdI,bU,fB,fC,gt,du,dvI,b3,bn,b8,hst,hst',pa,cX,aQ,wQ,aj,aB,rcD,mY,F.dN,x0,x1,j9,putL,n0,n1,aY,aG,z1,z2,Vb,qM,Fx,tQ,fX,vW,Ij,yR,ed,e1,z6,Fo,z3,rbm]
noncomputable def szL (L:List (D×Gm)):Nat:=(L.map λp=>szG p.2).sum
def Ng (p:D×Gm):D:=.tup [p.1,dG p.2]
theorem Sub.refl (N:Nd):Sub N N:=λ_ _ h=>h
theorem Sub.trans (h:Sub A B)(k:Sub B C):Sub A C:=λx d z=>k x d<|h x d z
theorem Pj (E:nC e){Φ:Bf}{dep:Nat}(hΦ:SpB e Φ dep){rc:Rc}{draw s cc n:Int}{seen:Str}(hr:JZ rc (dep+1))(hs:s=1\/s=2)(hn:0<=n/\n<8)(hse:hZ seen=true):
  ∀(c i a r:Nat) (N:Nd) (m:Int×Int) (ζ:List D) (s11 s12 s13:Sl),oV N m->N.1.length<=a->a+r+c<=64->i+c<=3->ζ.length+c<=100->
  ∃(L:List (D×Gm)) (a' r':Nat) (N':Nd) (m':Int×Int) (t11 t12 t13:Sl),(∀A:Addr×Addr,bj (hName 11) (gQ Φ) ((jI i c).map λ(k:Nat)=>D.int k) (mvM e A a r N m rc (dep+1:Nat) draw s cc n seen ζ s11 s12 s13)=.ok (.nx,mvM e A a' r' N' m' rc (dep+1:Nat) draw s cc n seen (ζ++L.map Ng) t11 t12 t13))/\
   oV N' m'/\Sub N N'/\N'.1.length<=a'/\r'+szL L=r+c/\a'+r'=a+r+c/\L.map (·.1)=(jI i c).map (λ(k:Nat)=>D.str<|wordAt e n k)/\∀p∈L,Grw e N' (rbm s seen rc p.1) p.2 dep
 |0,i,a,r,N,m,ζ,s11,s12,s13,I,hN,har,hi,hw=>⟨[],a,r,N,m,s11,s12,s13,λA=>by simp[bj],I,Sub.refl N,hN,by simp[szL],by lia,rfl,λ_ z=>by cases z⟩
 |c+1,i,a,r,N,m,ζ,s11,s12,s13,I,hN,har,hi,hw=>by
  obtain⟨g,a1,r1,N1,m1,t12,t13,e1,i1,i2,i3,i4,i5,i6⟩:=(Xz E hΦ (a:=a) (r:=r) (draw:=draw) (c:=cc) (s12:=s12) (s13:=s13) (k:=(i:Int)) I hN (by lia) hr hs hn (by lia) hse (by lia:ζ.length<=100));obtain⟨L,a',r',N',m',u11,u12,u13,e2,j1,j2,j3,j4,j5,j6,j7⟩:=Pj E hΦ (draw:=draw) (cc:=cc) (n:=n) (seen:=seen) hr hs hn hse c (i+1) a1 r1 N1 m1 (ζ++[.tup [.str<|wordAt e n i,dG g]]) (.fz<|.int (i:Int)) t12 t13 i1 i3 (by lia) (by lia) (by simp;lia);refine⟨(.str<|wordAt e n i,g)::L,a',r',N',m',u11,u12,u13,λA=>?_,j1,i2.trans j2,j3,?_,by lia,?_,λp hp=>?_⟩
  ·rw[fA,ar,bG (m1:=mvM e A a r N m rc (dep+1:Nat) draw s cc n seen ζ (.fz<|.int (i:Int)) s12 s13) rfl<|e1 A,e2 A,eK];rfl
  ·show r'+(szG g+szL L)=r+(c+1)
   lia
  ·rw[fA,ar,ar,j6]
  ·rcases a8.mp hp with q|q
   ·rw[q];exact i6.mono j2
   ·exact j7 p q
theorem Ml:∀L:List (D×Gm),szW (ofL L)=szL L
 |[]=>rfl
 |p::L=>by show szG p.2+szW (ofL L)=szG p.2+szL L;rw[Ml L]
theorem Ib:∀L:List (D×Gm),jA (ofL L)=L.length
 |[]=>rfl
 |p::L=>by show jA (ofL L)+1=_;rw[Ib L];rfl
theorem Dg:∀L:List (D×Gm),(∀p∈L,iG p.2)->zU (ofL L)
 |[],_=>trivial
 |p::L,h=>⟨h p ah,Dg L λq hq=>h q<|af _ hq⟩
theorem Le:∀L:List (D×Gm),(∀p∈L,sdG p.2)->sdW (ofL L)
 |[],_=>trivial
 |p::L,h=>⟨h p ah,Le L λq hq=>h q<|af _ hq⟩
theorem Lp:∀L:List (D×Gm),(∀p∈L,dp p.2<=k)->dpW (ofL L)<=k
 |[],_=>eT _
 |p::L,h=>Nat.max_le.mpr ⟨h p ah,Lp L λq hq=>h q<|af _ hq⟩
theorem Lh:∀(L:List (D×Gm)) (i:Nat) (p:Tr),p∈prW w f i (ofL L)->∃q∈L,∃w',p∈prG w' (f q.1) q.2
 |[],i,p,h=>by cases h
 |q::L,i,p,h=>by
  rcases c6.mp (show p∈prG (w++[(i:Int)]) (f q.1) q.2++prW w f (i+1) (ofL L) from h) with z|z
  ·exact⟨q,ah,_,z⟩
  ·obtain⟨q',h1,h2⟩:=Lh L (i+1) p z;exact⟨q',af _ h1,h2⟩
theorem We (hs:s=1\/s=2)(hl:L.length<=3)(h:∀p∈L,Grw e N (rbm s nm rc p.1) p.2 dep)(hrow:Row e N s nm (gM s nm (ofL L) rc)):Grw e N rc (.move s nm<|ofL L) (dep+1) where
 len:=⟨by rw[Ib];lia,Dg L λp hp=>(h p hp).len⟩
 sd:=⟨hs,Le L λp hp=>(h p hp).sd⟩
 dep:=Nat.succ_le_succ<|Lp L λp hp=>(h p hp).dep
 pl:=λw p hp=>by
  rcases a8.mp (show p∈(w,Gm.move s nm<|ofL L,rc)::prW w (rbm s nm rc) 0 (ofL L) from hp) with z|z
  ·rw[z];exact hrow
  ·obtain⟨q,hq,w',h2⟩:=Lh L 0 p z;exact(h q hq).pl w' p h2
theorem UT (hl:L.length<=3)(h:∀p∈L,Grw e N rc p.2 dep)(hsh:acL (ofL L))(hnm:nm∈e.pool):Grw e N rc (.deal nm<|ofL L) (dep+1) where
 len:=⟨by rw[Ib];lia,Dg L λp hp=>(h p hp).len⟩
 sd:=Le L λp hp=>(h p hp).sd
 dep:=Nat.succ_le_succ<|Lp L λp hp=>(h p hp).dep
 pl:=λw p hp=>by
  rcases a8.mp (show p∈(w,Gm.deal nm<|ofL L,rc)::prW w (λ_=>rc) 0 (ofL L) from hp) with z|z
  ·rw[z];exact⟨hsh,hnm⟩
  ·obtain⟨q,hq,w',h2⟩:=Lh L 0 p z;exact(h q hq).pl w' p h2
theorem Q7 (h:smQ (rq q)):Grw e N rc (.fin<|rq q) dep where
 len:=trivial
 sd:=trivial
 dep:=eT _
 pl:=λw p hp=>by
  have:p=(w,.fin<|rq q,rc):=by simpa[prG] using hp
  rw[this];exact⟨h,q,rfl⟩
theorem gs (h:g m=.ok (.nx,m1)):aK g k m=k m1:=by unfold aK;rw[h]
theorem Qm (h:g m=.ok (.rt f d,m1)):aK g k m=.ok (.rt f d,m1):=by unfold aK;rw[h]
theorem DK (hl:ds.length+1=n)(h0:lr p (.io d) (ds.map Sl.fz)++(dQ (N-n-2) Sl.un++[.hd false x.1 x.2,.hd false y.1 y.2])=m0)(hg:g m0=.ok (.rt fr r,m'))(h1:sX m' p=some d')(h2:kh m' (N-2) x.1=some e)(h3:kh m' (N-1) y.1=some f):
  F.runST p N n g ds d x y=.ok (r,d',e,f):=by simp_all[if_pos,F.runST]
def mx (e:En)(A:Addr×Addr)(a r:Int)(N:Nd)(m:Int×Int)(rc:Rc)(dep draw:Int)(s5 s6 s7 s8 s9 s10 s11 s12 s13:Sl):Me:=
 [.fz<|cD e,.io<|stD e A a r,.fz<|.int dep,.fz<|rcD rc,.fz<|.int draw,s5,s6,s7,s8,s9,s10,s11,s12,s13,.hd false A.1<|nD N,.hd false A.2<|mD m]
theorem Wb {φs:Zac}{φn:Bf}{L:Zab}{e:En}{A:Addr×Addr}{a r:Nat}{N N1:Nd}{m m1:Int×Int}{rc:Rc}{DP draw s c b n:Int}(E:nC e)
  (hs:s=1+draw%2) (hc:c=1+draw/16%3) (hb:b=draw/48%2) (en:φn [.int s,.tup<|gm rc s,.int c,.int b] (stD e A a r) (A.1,nD N) (A.2,mD m)=.ok (.int n,stD e A a r,nD N1,mD m1)):
  (8<=n->∀q,φs [.int draw]=.ok (false,q)->F.runST 1 16 5 (ju φs φn L) [cD e,.int DP,rcD rc,.int draw] (stD e A a r) (A.1,nD N) (A.2,mD m)=.ok (.tup [.str "end",q],stD e A a r,nD N1,mD m1))/\
  (0<=n->n<8->∀(a' r':Nat) (N':Nd) (m':Int×Int) (ws:List D) (t11 t12 t13:Sl),ws.length<=100->L (mvM e A a ((r:Int)-c) N1 m1 rc DP draw s c n (nameAt e n) [] .un .un .un)=.ok (.nx,mvM e A a' r' N' m' rc DP draw s c n (nameAt e n) ws t11 t12 t13)->
   F.runST 1 16 5 (ju φs φn L) [cD e,.int DP,rcD rc,.int draw] (stD e A a r) (A.1,nD N) (A.2,mD m)=.ok (.tup [.str "move",.int s,.str<|nameAt e n,.tup ws],stD e A a' r',nD N',mD m')):=by
 have b16:Bq 16:=bgS (by decide);have b48:Bq 48:=bgS (by decide);have x0:∀a b:D,atI [a,b] 0=some a:=λ_ _=>rfl;have x1:∀a b:D,atI [a,b] 1=some b:=λ_ _=>rfl;have hs1:s=1\/s=2:=by lia
 have ex:gIx (rcD rc) (.int<|s-1)=some (.tup<|gm rc s):=by
  rcases hs1 with q|q
  ·rw[q];exact x0 _ _
  ·rw[q];exact x1 _ _
 have e1:∀k,aK (bc 5<|az bU (fC<|.int 1)<|az bJ (aa 4)<|fC<|.int 2) k (mx e A a r N m rc DP draw .un .un .un .un .un .un .un .un .un)=k (mx e A a r N m rc DP draw (.fz<|.int s) .un .un .un .un .un .un .un .un):=λk=>gs (by
  simp[mx,bc,az,fC,aa,bJ,mdI,bU,hs])
 have e2:∀k,aK (bc 6<|az bU (fC<|.int 1)<|az bJ (az du (aa 4)<|fC<|.int 16)<|fC<|.int 3) k (mx e A a r N m rc DP draw (.fz<|.int s) .un .un .un .un .un .un .un .un)=k (mx e A a r N m rc DP draw (.fz<|.int s) (.fz<|.int c) .un .un .un .un .un .un .un):=λk=>gs (by
  simp[mx,bc,az,fC,aa,bJ,mdI,bU,du,dvI,b16,hc])
 have e3:∀k,aK (O6 7<|vW φn 1 0 14 15<|aj (aG 5)<|aj (az gIx (aa 3)<|az dN (aa 5)<|fC<|.int 1)<|aj (aG 6)<|aj (az bJ (az du (aa 4)<|fC<|.int 48)<|fC<|.int 2) aB) k (mx e A a r N m rc DP draw (.fz<|.int s) (.fz<|.int c) .un .un .un .un .un .un .un)=k (mx e A a r N1 m1 rc DP draw (.fz<|.int s) (.fz<|.int c) (.fz<|.int n) .un .un .un .un .un .un):=λk=>gs (by
  rw[hb] at en;simp[mx,O6,vW,Ij,yR,aj,aB,aG,az,aa,fC,F.dN,ex,bJ,mdI,du,dvI,b48,en,z6])
 have start:lr 1 (.io<|stD e A a r) ([cD e,.int DP,rcD rc,.int draw].map Sl.fz)++(dQ (16-5-2) Sl.un++[.hd false A.1<|nD N,.hd false A.2<|mD m])=mx e A a r N m rc DP draw .un .un .un .un .un .un .un .un .un:=rfl;constructor
 ·intro h8 q eq;have e4:∀k,aK (gIf (aN gGe (aa 7)<|fC<|.int 8) (bM<|aY<|aj (fC<|.str "end")<|aj (fFn φs<|aj (aG 4) aB) aB) gNx) k (mx e A a r N1 m1 rc DP draw (.fz<|.int s) (.fz<|.int c) (.fz<|.int n) .un .un .un .un .un .un)=.ok (.rt false<|.tup [.str "end",q],mx e A a r N1 m1 rc DP draw (.fz<|.int s) (.fz<|.int c) (.fz<|.int n) .un .un .un .un .un .un):=λk=>Qm (by
   have:n≥8:=h8
   simp[mx,gIf,aN,aa,fC,gGe,this,bM,Me.let,Sl.let,aY,aj,aB,fFn,aG,eq])
  refine DK (m0:=mx e A a r N m rc DP draw .un .un .un .un .un .un .un .un .un) (m':=mx e A a r N1 m1 rc DP draw (.fz<|.int s) (.fz<|.int c) (.fz<|.int n) .un .un .un .un .un .un) (fr:=false) rfl start ?_ rfl (by simp[mx,kh]) (by simp[mx,kh]);unfold ju;rw[e1,e2,e3,e4]
 ·intro h0 h8 a' r' N' m' ws t11 t12 t13 hw eL;have t0:=E.t0;have pa:=Hz E (i:=(n+e.turn)%8) (by lia);have wd:nameAt e n=e.pool.getD ((n+e.turn)%8).toNat ⟨#[]⟩:=rfl;rw[← wd] at pa;have gt:=QV e A a<|(r:Int)-c;have gp:=O9 e A a<|(r:Int)-c;have gr:=Iu e A a r;have e4:∀k,aK (gIf (aN gGe (aa 7)<|fC<|.int 8) (bM<|aY<|aj (fC<|.str "end")<|aj (fFn φs<|aj (aG 4) aB) aB) gNx) k (mx e A a r N1 m1 rc DP draw (.fz<|.int s) (.fz<|.int c) (.fz<|.int n) .un .un .un .un .un .un)=k (mx e A a r N1 m1 rc DP draw (.fz<|.int s) (.fz<|.int c) (.fz<|.int n) .un .un .un .un .un .un):=λk=>gs (by
   have:¬n≥8:=by lia
   simp[mx,gIf,aN,aa,fC,gGe,this,gNx])
  have e5:∀k,aK (gf 1 (fC<|.str "room")<|az dN (az cI (aa 1)<|fC<|.str "room")<|aa 6) k (mx e A a r N1 m1 rc DP draw (.fz<|.int s) (.fz<|.int c) (.fz<|.int n) .un .un .un .un .un .un)=k (mx e A a ((r:Int)-c) N1 m1 rc DP draw (.fz<|.int s) (.fz<|.int c) (.fz<|.int n) .un .un .un .un .un .un):=λk=>gs (KN (e:=e) (A:=A) (a:=a) (r:=r) rfl rfl (by
   simp[mx,az,aa,fC,gr,F.dN]))
  have e6:∀k,aK (bc 8<|az cI (aa 1)<|fC<|.str "pool") k (mx e A a ((r:Int)-c) N1 m1 rc DP draw (.fz<|.int s) (.fz<|.int c) (.fz<|.int n) .un .un .un .un .un .un)=k (mx e A a ((r:Int)-c) N1 m1 rc DP draw (.fz<|.int s) (.fz<|.int c) (.fz<|.int n) (.fz<|.lst<|e.pool.map D.str) .un .un .un .un .un):=λk=>gs (by
   simp[mx,bc,az,aa,fC,gp])
  have e7:∀k,aK (bc 9<|az gIx (aa 8)<|az bJ (az bU (aa 7)<|az cI (aa 1)<|fC<|.str "turn")<|fC<|.int 8) k (mx e A a ((r:Int)-c) N1 m1 rc DP draw (.fz<|.int s) (.fz<|.int c) (.fz<|.int n) (.fz<|.lst<|e.pool.map D.str) .un .un .un .un .un)=k (mx e A a ((r:Int)-c) N1 m1 rc DP draw (.fz<|.int s) (.fz<|.int c) (.fz<|.int n) (.fz<|.lst<|e.pool.map D.str) (.fz<|.str<|nameAt e n) .un .un .un .un):=λk=>gs (by
   simp[mx,bc,az,aa,fC,gt,gIx,bJ,mdI,bU,pa])
  have e8:∀k,aK (cX 10<|fU aB) k (mx e A a ((r:Int)-c) N1 m1 rc DP draw (.fz<|.int s) (.fz<|.int c) (.fz<|.int n) (.fz<|.lst<|e.pool.map D.str) (.fz<|.str<|nameAt e n) .un .un .un .un)=k (mvM e A a ((r:Int)-c) N1 m1 rc DP draw s c n (nameAt e n) [] .un .un .un):=λk=>gs (by
   simp[mx,mvM,cX,fU,aB])
  have e9:∀k,aK L k (mvM e A a ((r:Int)-c) N1 m1 rc DP draw s c n (nameAt e n) [] .un .un .un)=k (mvM e A a' r' N' m' rc DP draw s c n (nameAt e n) ws t11 t12 t13):=λk=>gs eL;have z1:ws.length<=16777216:=by lia
  refine DK (m0:=mx e A a r N m rc DP draw .un .un .un .un .un .un .un .un .un) (m':=Me.let<|mvM e A a' r' N' m' rc DP draw s c n (nameAt e n) ws t11 t12 t13) (fr:=false) rfl start ?_ rfl (by simp[mvM,kh,Me.let,Sl.let]) (by simp[mvM,kh,Me.let,Sl.let]);unfold ju;rw[e1,e2,e3,e4,e5,e6,e7,e8,e9];simp[mvM,bM,Me.let,Sl.let,aY,aj,aB,fC,aG,aQ,aa,gh,z1]
theorem Zb (E:nC e){Φ:Bf}{dep:Nat}(hΦ:SpB e Φ dep){a r:Nat}{N:Nd}{m:Int×Int}{rc:Rc}{draw:Int}(I:oV N m)(hN:N.1.length+1<=a)(har:a+r<=64)(h3:3<=r)(hr:JZ rc (dep+1))(hd:0<=draw/\draw<=9000000000):
  ∃(g:Gm) (a' r':Nat) (N':Nd) (m':Int×Int),(∀A:Addr×Addr,mz Φ [cD e,.int ((dep+1:Nat):Int),rcD rc,.int draw] (stD e A a r) (A.1,nD N) (A.2,mD m)=.ok (dG g,stD e A a' r',nD N',mD m'))/\oV N' m'/\Sub N N'/\N'.1.length<=a'/\r'+szG g=r+1/\a'+r'=a+r/\Grw e N' rc g (dep+1):=by
 obtain⟨cN,hcN⟩:∃cN:Nat,(cN:Int)=1+draw/16%3:=⟨(1+draw/16%3).toNat,by lia⟩;have hs:1+draw%2=1\/1+draw%2=2:=by lia
 have hpr:Pr (gm rc<|1+draw%2)/\pR (gm rc<|1+draw%2)=true:=by
  unfold gm;split
  ·exact⟨hr.1,hr.2.2.1⟩
  ·exact⟨hr.2.1,hr.2.2.2.1⟩
 have hsz:N.1.length<1000:=by lia
 refine Cp (Sw (e:=e) (a:=a) (r:=r) (c:=(cN:Int)) (b:=draw/48%2) I hs hpr.1 hsz) λn N1 m1 en n0 nv I1 S1 l1=>?_;have W:=λA:Addr×Addr=>Wb (A:=A) (φs:=cz) (φn:=dm) (L:=lU Φ) (DP:=((dep+1:Nat):Int)) E rfl hcN rfl<|en A;by_cases h8:8<=n
 ·obtain⟨q,eq,hq⟩:=DN (x:=draw) hd;exact⟨.fin<|rq q,a,r,N1,m1,λA=>(W A).1 h8 _ eq,I1,S1,by lia,rfl,rfl,Q7 hq⟩
 ·have h8':n<8:=by lia
  have hsub:(r:Int)-(cN:Int)=((r-cN:Nat):Int):=by lia
  have t0:=E.t0;obtain⟨L,a',r',N',m',t11,t12,t13,eL,j1,j2,j3,j4,j5,j6,j7⟩:=Pj E hΦ (rc:=rc) (draw:=draw) (cc:=(cN:Int)) (seen:=nameAt e n) hr hs ⟨n0,h8'⟩ (Am E _<|by lia) cN 0 a (r-cN) N1 m1 [] .un .un .un I1 (by lia) (by lia) (by lia) (by simp;lia);have hL:L.length=cN:=by
   have:=congrArg wq j6
   simpa using this
  have eL2:∀A:Addr×Addr,lU Φ (mvM e A a ((r:Int)-(cN:Int)) N1 m1 rc ((dep+1:Nat):Int) draw (1+draw%2) (cN:Int) n (nameAt e n) [] .un .un .un)=.ok (.nx,mvM e A a' r' N' m' rc ((dep+1:Nat):Int) draw (1+draw%2) (cN:Int) n (nameAt e n) (L.map Ng) t11 t12 t13):=λA=>by
   have e1:(aj (aa 6) aB) (mvM e A a ((r:Int)-(cN:Int)) N1 m1 rc ((dep+1:Nat):Int) draw (1+draw%2) (cN:Int) n (nameAt e n) [] .un .un .un)=.ok [.int (cN:Int)]:=by simp[mvM,aj,aB,aa]
   have e2:=GD e1 (by lia) (by lia);unfold lU dg;rw[e2];show bj (hName 11) (gQ Φ) ((cf cN).map λ(k:Nat)=>D.int k) _=_;rw[f6,hsub];exact eL A
  have hw:=λA:Addr×Addr=>(W A).2 n0 h8' a' r' N' m' (L.map Ng) t11 t12 t13 (by simp;lia)<|eL2 A;refine⟨.move (1+draw%2) (nameAt e n)<|ofL L,a',r',N',m',λA=>?_,j1,S1.trans j2,j3,?_,by lia,We hs (by lia) j7 ?_⟩
  ·have:dG (.move (1+draw%2) (nameAt e n)<|ofL L)=.tup [.str "move",.int<|1+draw%2,.str<|nameAt e n,.tup<|L.map Ng]:=by
    show D.tup [_,_,_,.tup<|dWs<|ofL L]=_;rw[Lz];rfl
   rw[this];exact hw A
  ·show r'+(szW (ofL L)+1)=r+1;rw[Ml];lia
  ·refine⟨gm rc<|1+draw%2,cN,draw/48%2,n,hpr.1,hpr.2,j2 _ _ nv,n0,h8',by lia,rfl,?_⟩;show D.tup [_,_,.tup<|fJ<|ofL L,_]=_;rw[HN,j6,f6]
def bm (e:En)(A:Addr×Addr)(a r:Int)(N:Nd)(m:Int×Int)(rc:Rc)(dep:Int)(s4 s5 s6 s7 s8 s9:Sl):Me:=
 [.fz<|cD e,.io<|stD e A a r,.fz<|.int dep,.fz<|rcD rc,s4,s5,s6,s7,s8,s9,.hd false A.1<|nD N,.hd false A.2<|mD m]
theorem dl_step (hΦ:SpB e Φ dep){a r:Nat}{N:Nd}{m:Int×Int}{rc:Rc}{s4 s5 s6 s7:Sl}{l:D}{ζ:List D}(I:oV N m)(hN:N.1.length<=a)(har:a+r<=63)(hr:JZ rc (dep+1))(hw:ζ.length<=100):
  ∃(g:Gm) (a' r':Nat) (N':Nd) (m':Int×Int),(∀A:Addr×Addr,jC Φ (bm e A a r N m rc (dep+1:Nat) s4 s5 s6 s7 (.ow<|.lst ζ)<|.fz l)=.ok (.nx,bm e A a' r' N' m' rc (dep+1:Nat) s4 s5 s6 s7 (.ow<|.lst<|ζ++[.tup [l,dG g]])<|.fz l))/\
   oV N' m'/\Sub N N'/\N'.1.length<=a'/\r'+szG g=r+1/\a'+r'=a+r+1/\Grw e N' rc g dep:=by
 refine lZ hr λh1 h2 h3 h4 h5 h6=>?_;refine Jv (hΦ a r N m rc I hN har ⟨h1,h2,h3,h4,by lia,by lia⟩) λg a' r' N' m' e1 i1 i2 i3 i4 i5 i6=>?_;refine⟨g,a',r',N',m',λA=>?_,i1,i2,i3,i4,i5,i6⟩;have e1:Φ [cD e,.int (dep:Int),rcD rc] (stD e A a r) (A.1,nD N) (A.2,mD m)=.ok (dG g,stD e A a' r',nD N',mD m'):=e1 A;have z3:ζ.length<16777216:=by lia
 have ed:((dep+1:Nat):Int)-1=(dep:Int):=by lia
 simp only[bm];generalize hst:stD e A a r=ST at *;generalize hst':stD e A (a':Int) (r':Int)=ST' at *;generalize cD e=C at *;generalize nD N=NN at *;generalize nD N'=NN' at *;generalize mD m=MM at *;generalize mD m'=MM' at *;generalize rcD rc=RC at *;generalize hdp:((dep+1:Nat):Int)=DP at *;simp[jC,qM,j9,putL,Fx,tQ,fX,aG,vW,Ij,yR,aj,aB,az,aa,fC,F.dN,ed,e1,z6,Fo,z3]
theorem Oj (hΦ:SpB e Φ dep){rc:Rc}{s4 s5 s6 s7:Sl}(hr:JZ rc (dep+1)):
  ∀(ls:List D) (a r:Nat) (N:Nd) (m:Int×Int) (ζ:List D) (s9:Sl),oV N m->N.1.length<=a->a+r+ls.length<=64->ζ.length+ls.length<=100->
  ∃(L:List (D×Gm)) (a' r':Nat) (N':Nd) (m':Int×Int) (t9:Sl),(∀A:Addr×Addr,bj (hName 9) (jC Φ) ls (bm e A a r N m rc (dep+1:Nat) s4 s5 s6 s7 (.ow<|.lst ζ) s9)=.ok (.nx,bm e A a' r' N' m' rc (dep+1:Nat) s4 s5 s6 s7 (.ow<|.lst<|ζ++L.map Ng) t9))/\
   oV N' m'/\Sub N N'/\N'.1.length<=a'/\r'+szL L=r+ls.length/\a'+r'=a+r+ls.length/\L.map (·.1)=ls/\∀p∈L,Grw e N' rc p.2 dep
 |[],a,r,N,m,ζ,s9,I,hN,har,hw=>⟨[],a,r,N,m,s9,λA=>by simp[bj],I,Sub.refl N,hN,by simp[szL],by simp,rfl,λ_ z=>by cases z⟩
 |l::ls,a,r,N,m,ζ,s9,I,hN,har,hw=>by
  have har':a+r+(ls.length+1)<=64:=har;have hw':ζ.length+(ls.length+1)<=100:=hw;refine Jv (dl_step hΦ (a:=a) (r:=r) (s4:=s4) (s5:=s5) (s6:=s6) (s7:=s7) (l:=l) I hN (by lia) hr (by lia:ζ.length<=100)) λg a1 r1 N1 m1 e1 i1 i2 i3 i4 i5 i6=>?_;obtain⟨L,a',r',N',m',u9,e2,j1,j2,j3,j4,j5,j6,j7⟩:=Oj hΦ (s4:=s4) (s5:=s5) (s6:=s6) (s7:=s7) hr ls a1 r1 N1 m1 (ζ++[.tup [l,dG g]]) (.fz l) i1 i3 (by lia) (by simp;lia);refine⟨(l,g)::L,a',r',N',m',u9,λA=>?_,j1,i2.trans j2,j3,?_,by simp;lia,by rw[ar,j6],λp hp=>?_⟩
  ·rw[bG (m1:=bm e A a r N m rc (dep+1:Nat) s4 s5 s6 s7 (.ow<|.lst ζ)<|.fz l) rfl<|e1 A,e2 A,eK];rfl
  ·show r'+(szG g+szL L)=r+(ls.length+1)
   lia
  ·rcases a8.mp hp with q|q
   ·rw[q];exact i6.mono j2
   ·exact j7 p q
theorem Su (E:nC e):∃v:Int,atI (e.cells.map D.int) (-1)=some (.int v):=by
 have h:=E.c1;have hne:e.cells≠[]:=λz=>by rw[z] at h;simp at h
 refine⟨e.cells.getLast hne,?_⟩
 have:=JS (e.cells.dropLast.map D.int)<|D.int<|e.cells.getLast hne
 rwa [← pk,← bE,List.dropLast_concat_getLast hne] at this
theorem JD {e:En}(h:i<e.cells.length):∃v:Int,atI (e.cells.map D.int) (i:Int)=some (.int v):=by
 refine⟨e.cells[i],lL ?_⟩;rw[bX,av h];rfl
theorem Uk {e:En}{i:Int}(h0:0<=i)(h:i<e.cells.length):∃v:Int,atI (e.cells.map D.int) i=some (.int v):=by
 obtain⟨v,hv⟩:=JD (e:=e) (i:=i.toNat) (by lia);exact⟨v,by rwa [show((i.toNat:Nat):Int)=i by lia] at hv⟩
section
variable {e:En}{A:Addr×Addr}{a r dep:Nat}{N:Nd}{m:Int×Int}{rc:Rc}
theorem bs1 (k:Zab):aK (bc 4<|az cI (aa 1)<|fC<|.str "at") k (bm e A a r N m rc dep .un .un .un .un .un .un)=k (bm e A a r N m rc dep (.fz<|.int a) .un .un .un .un .un):=by rfl
theorem bs2 (k:Zab):aK (gf 1 (fC<|.str "at")<|az bU (aa 4)<|fC<|.int 1) k (bm e A a r N m rc dep (.fz<|.int a) .un .un .un .un .un)=k (bm e A (a+1:Nat) r N m rc dep (.fz<|.int a) .un .un .un .un .un):=by rfl
theorem bs3 (E:nC e)(ha:a<=64)(h:e.cells.length<=a):∃q:Rat,smQ (rq q)/\∀(A:Addr×Addr) k,aK (gIf (aN gGe (aa 4)<|aQ dW<|aj (aa 0) aB) (bM<|aY<|aj (fC<|.str "end")<|aj (fFn cz<|aj (fFn cJ<|aj (az bU (az gIx (aa 0)<|fUn uD<|fC<|.int 1)<|az fB (aa 4)<|aa 4)<|aj (aG 4) aB) aB) aB) gNx) k (bm e A (a+1:Nat) r N m rc dep (.fz<|.int a) .un .un .un .un .un)=.ok (.rt false<|dG<|.fin<|rq q,bm e A (a+1:Nat) r N m rc dep (.fz<|.int a) .un .un .un .un .un):=by
 obtain⟨v,hv⟩:=Su E;obtain⟨x,ex,hx⟩:=Bw (v+(a:Int)*a) a (by lia);obtain⟨q,eq,hq⟩:=DN (x:=x) ⟨hx.1,by have:=hx.2;lia⟩;refine⟨q,hq,λA k=>Qm ?_⟩;have ba:Bq (a:Int):=bgS (by lia);have hge:(a:Int)≥(e.cells.length:Int):=by lia
 have en:-(1:Int)=-1:=rfl;show _=Res.ok (Fl.rt false<|.tup [.str "end",rD q],_);simp only[bm];generalize stD e A ((a+1:Nat):Int) (r:Int)=ST;generalize cz=FS at *;generalize cJ=FM at *;simp[cD,gIf,aN,aa,aQ,dW,aj,aB,gGe,hge,bM,Me.let,Sl.let,aY,fC,fFn,az,fUn,uD,gIx,hv,fB,ba,bU,aG,ex,eq]
theorem aaZ (k:Zab){X:Zab}(h:a<e.cells.length):aK (gIf (aN gGe (aa 4)<|aQ dW<|aj (aa 0) aB) X gNx) k (bm e A (a+1:Nat) r N m rc dep (.fz<|.int a) .un .un .un .un .un)=k (bm e A (a+1:Nat) r N m rc dep (.fz<|.int a) .un .un .un .un .un):=gs (by
 have hge:¬(a:Int)≥(e.cells.length:Int):=by lia
 simp only[bm];generalize stD e A ((a+1:Nat):Int) (r:Int)=ST;simp[cD,gIf,aN,aa,aQ,dW,aj,aB,gGe,hge,gNx])
theorem bs4 (h:a<e.cells.length)(ha:a<=64):∃x,sm x/\∀(A:Addr×Addr) k,aK (bc 5<|fFn cJ<|aj (az gIx (aa 0)<|aa 4)<|aj (aG 4) aB) k (bm e A (a+1:Nat) r N m rc dep (.fz<|.int a) .un .un .un .un .un)=k (bm e A (a+1:Nat) r N m rc dep (.fz<|.int a) (.fz<|.int x) .un .un .un .un):=by
 obtain⟨v,hv⟩:=JD h;obtain⟨x,ex,hx⟩:=Bw v a (by lia);refine⟨x,hx,λA k=>gs ?_⟩;simp only[bm];generalize stD e A ((a+1:Nat):Int) (r:Int)=ST;generalize cJ=FM at *;simp[cD,bc,fFn,aj,aB,az,gIx,aa,aG,hv,ex]
theorem bs5 (k:Zab){x:Int}:aK (bc 6<|aG 5) k (bm e A (a+1:Nat) r N m rc dep (.fz<|.int a) (.fz<|.int x) .un .un .un .un)=k (bm e A (a+1:Nat) r N m rc dep (.fz<|.int a) (.fz<|.int x) (.fz<|.int x) .un .un .un):=gs rfl
theorem bs6 (E:nC e)(hd:dep<=12){x:Int}(hx:sm x):∃y:Int,(0<=y/\y<=9000000000)/\∀(A:Addr×Addr) k,aK (gIf (fTv<|az cI (aa 1)<|fC<|.str "level") (bc 6<|az bU (az dN (aa 5)<|az bJ (aa 5)<|fC<|.int 48)<|az bJ (fFn cJ<|aj (az gIx (aa 0)<|az bJ (aa 2)<|aQ dW<|aj (aa 0) aB)<|aj (aG 2) aB)<|fC<|.int 48) gNx) k (bm e A (a+1:Nat) r N m rc dep (.fz<|.int a) (.fz<|.int x) (.fz<|.int x) .un .un .un)=k (bm e A (a+1:Nat) r N m rc dep (.fz<|.int a) (.fz<|.int x) (.fz<|.int y) .un .un .un):=by
 have gl:=λA:Addr×Addr=>UW e A ((a+1:Nat):Int) r;cases hl:e.lev with
 |false=>
  rw[hl] at gl;refine⟨x,⟨hx.1,by have:=hx.2;lia⟩,λA k=>gs ?_⟩
  replace gl:=gl A
  simp only[bm];generalize stD e A ((a+1:Nat):Int) (r:Int)=ST at *;simp[gIf,fTv,az,aa,fC,gl,gNx]
 |true=>
  rw[hl] at gl;have hc:=E.c1;have hpos:(0:Int)<(e.cells.length:Int):=by lia
  obtain⟨v,hv⟩:=Uk (e:=e) (i:=(dep:Int)%(e.cells.length:Int)) (lI _<|by lia)<|ja _ hpos;obtain⟨y,ey,hy⟩:=Bw v dep (by lia);have hne:(e.cells.length:Int)≠0:=by lia
  have hne2:e.cells.length≠0:=by lia
  have hne3:e.cells≠[]:=λz=>by rw[z] at hc;simp at hc
  have hc':0<e.cells.length:=by lia
  refine⟨x-x%48+y%48,⟨by have:=hx.1;lia,by have:=hx.2;lia⟩,λA k=>gs ?_⟩
  replace gl:=gl A
  simp only[bm];generalize stD e A ((a+1:Nat):Int) (r:Int)=ST at *;generalize cJ=FM at *;simp[cD,gIf,fTv,az,aa,fC,gl,bc,bJ,mdI,bU,F.dN,fFn,aj,aB,gIx,aQ,dW,hne,hne2,hne3,hpos,hc',hv,aG,ey]
end
section
variable {e:En}{A:Addr×Addr}{a r dep:Nat}{N:Nd}{m:Int×Int}{rc:Rc}{x y:Int}
abbrev zy:Zaf:=(jz (aN gEq (aa 2)<|fC<|.int 0)<|jz (aN gLt (az cI (aa 1)<|fC<|.str "room")<|fC<|.int 3)<|iC (aN gEq (az bJ (aa 6)<|fC<|.int 8)<|fC<|.int 0)<|aN gGt (aa 4)<|fC<|.int 0)
theorem c7:zy (bm e A (a+1:Nat) r N m rc dep (.fz<|.int a) (.fz<|.int x) (.fz<|.int y) .un .un .un)=.ok (decide<|dep=0\/r<3\/(y%8=0/\0<a)):=by
 have gr:=Iu e A ((a+1:Nat):Int) r;simp only[bm];generalize stD e A ((a+1:Nat):Int) (r:Int)=ST at *;by_cases h1:dep=0
 ·simp[zy,jz,aN,aa,fC,h1]
 ·have h1':¬(dep:Int)=0:=by lia
  by_cases h2:r<3
  ·have h2':(r:Int)<3:=by lia
   simp[zy,jz,aN,aa,fC,h1,h1',az,gr,gLt,h2,h2']
  ·have h2':¬(r:Int)<3:=by lia
   by_cases h3:y%8=0
   ·have h3':y.emod 8=0:=h3;by_cases h4:0<a
    ·have h4':(a:Int)>0:=by lia
     simp[zy,jz,iC,aN,aa,fC,h1,h1',az,gr,gLt,h2,h2',bJ,mdI,h3,gGt,h4,h4']
    ·have h4':¬(a:Int)>0:=by lia
     simp[zy,jz,iC,aN,aa,fC,h1,h1',az,gr,gLt,h2,h2',bJ,mdI,h3,gGt,h4,h4']
   ·simp[zy,jz,iC,aN,aa,fC,h1,h1',az,gr,gLt,h2,h2',bJ,mdI,h3]
theorem bs7 (hx:sm x)(h:dep=0\/r<3\/(y%8=0/\0<a)):∃q:Rat,smQ (rq q)/\∀(A:Addr×Addr) k,aK (gIf zy (bM<|aY<|aj (fC<|.str "end")<|aj (fFn cz<|aj (aG 5) aB) aB) gNx) k (bm e A (a+1:Nat) r N m rc dep (.fz<|.int a) (.fz<|.int x) (.fz<|.int y) .un .un .un)=.ok (.rt false<|dG<|.fin<|rq q,bm e A (a+1:Nat) r N m rc dep (.fz<|.int a) (.fz<|.int x) (.fz<|.int y) .un .un .un):=by
 obtain⟨q,eq,hq⟩:=DN (x:=x) ⟨hx.1,by have:=hx.2;lia⟩;refine⟨q,hq,λA k=>Qm ?_⟩;have c:=c7 (e:=e) (A:=A) (a:=a) (r:=r) (dep:=dep) (N:=N) (m:=m) (rc:=rc) (x:=x) (y:=y);rw[decide_eq_true h] at c;unfold gIf;rw[c];show bM _ _=Res.ok (Fl.rt false<|.tup [.str "end",rD q],_);simp only[bm];generalize stD e A ((a+1:Nat):Int) (r:Int)=ST;generalize cz=FS at *;simp[bM,Me.let,Sl.let,aY,aj,aB,fC,fFn,aG,eq]
theorem adz (k:Zab){X:Zab}(h:¬(dep=0\/r<3\/(y%8=0/\0<a))):aK (gIf zy X gNx) k (bm e A (a+1:Nat) r N m rc dep (.fz<|.int a) (.fz<|.int x) (.fz<|.int y) .un .un .un)=k (bm e A (a+1:Nat) r N m rc dep (.fz<|.int a) (.fz<|.int x) (.fz<|.int y) .un .un .un):=gs (by
 have c:=c7 (e:=e) (A:=A) (a:=a) (r:=r) (dep:=dep) (N:=N) (m:=m) (rc:=rc) (x:=x) (y:=y);rw[decide_eq_false h] at c;unfold gIf;rw[c];rfl)
theorem bs8 (h:y%8>2){Ψ:Bf}{d:D}{a' r':Nat}{N':Nd}{m':Int×Int}(eΨ:Ψ [cD e,.int (dep:Int),rcD rc,.int y] (stD e A (a+1:Nat) r) (A.1,nD N) (A.2,mD m)=.ok (d,stD e A a' r',nD N',mD m'))(k:Zab):
  aK (gIf (aN gGt (az bJ (aa 6)<|fC<|.int 8)<|fC<|.int 2) (v7<|vW Ψ 1 1 10 11<|aj (aG 0)<|aj (aG 2)<|aj (aG 3)<|aj (aG 6) aB) gNx) k (bm e A (a+1:Nat) r N m rc dep (.fz<|.int a) (.fz<|.int x) (.fz<|.int y) .un .un .un)=.ok (.rt false d,bm e A a' r' N' m' rc dep (.fz<|.int a) (.fz<|.int x) (.fz<|.int y) .un .un .un):=Qm (by
 simp only[bm];generalize stD e A ((a+1:Nat):Int) (r:Int)=ST at *;generalize stD e A (a':Int) (r':Int)=ST' at *;generalize cD e=C at *;generalize nD N=NN at *;generalize nD N'=NN' at *;generalize mD m=MM at *;generalize mD m'=MM' at *;generalize rcD rc=RC at *;simp[gIf,aN,az,aa,fC,bJ,mdI,gGt,h,v7,vW,Ij,yR,aj,aB,aG,eΨ,z6])
theorem afd (h:¬y%8>2){X:Zab}(k:Zab):
  aK (gIf (aN gGt (az bJ (aa 6)<|fC<|.int 8)<|fC<|.int 2) X gNx) k (bm e A (a+1:Nat) r N m rc dep (.fz<|.int a) (.fz<|.int x) (.fz<|.int y) .un .un .un)=k (bm e A (a+1:Nat) r N m rc dep (.fz<|.int a) (.fz<|.int x) (.fz<|.int y) .un .un .un):=gs (by
 simp only[bm];generalize stD e A ((a+1:Nat):Int) (r:Int)=ST at *;simp[gIf,aN,az,aa,fC,bJ,mdI,gGt,h,gNx])
theorem bs9 {c:Int}(hc:c=1+y/16%3)(k:Zab):aK (bc 7<|az bU (fC<|.int 1)<|az bJ (az du (aa 6)<|fC<|.int 16)<|fC<|.int 3) k (bm e A (a+1:Nat) r N m rc dep (.fz<|.int a) (.fz<|.int x) (.fz<|.int y) .un .un .un)=k (bm e A (a+1:Nat) r N m rc dep (.fz<|.int a) (.fz<|.int x) (.fz<|.int y) (.fz<|.int c) .un .un):=gs (by
 have b16:Bq 16:=bgS (by decide);simp only[bm];generalize stD e A ((a+1:Nat):Int) (r:Int)=ST at *;simp[bc,az,aa,fC,bJ,mdI,bU,du,dvI,b16,hc])
theorem afm {c:Int}{r1:Nat}(hr:(r:Int)-c=r1)(k:Zab):aK (gf 1 (fC<|.str "room")<|az dN (az cI (aa 1)<|fC<|.str "room")<|aa 7) k (bm e A (a+1:Nat) r N m rc dep (.fz<|.int a) (.fz<|.int x) (.fz<|.int y) (.fz<|.int c) .un .un)=k (bm e A (a+1:Nat) r1 N m rc dep (.fz<|.int a) (.fz<|.int x) (.fz<|.int y) (.fz<|.int c) .un .un):=gs (by
 have gr:=Iu e A ((a+1:Nat):Int) r
 have:=KN (e:=e) (A:=A) (a:=((a+1:Nat):Int)) (r:=r) (r':=(r1:Int)) (fk:=fC<|.str "room") (fv:=az dN (az cI (aa 1)<|fC<|.str "room")<|aa 7) (i:=1) (m:=bm e A (a+1:Nat) r N m rc dep (.fz<|.int a) (.fz<|.int x) (.fz<|.int y) (.fz<|.int c) .un .un) rfl rfl (by simp only[bm];generalize stD e A ((a+1:Nat):Int) (r:Int)=ST at *;simp[az,aa,fC,gr,F.dN,hr])
 exact this)
theorem aeM {c:Int}(k:Zab):aK (cX 8<|fU aB) k (bm e A (a+1:Nat) r N m rc dep (.fz<|.int a) (.fz<|.int x) (.fz<|.int y) (.fz<|.int c) .un .un)=k (bm e A (a+1:Nat) r N m rc dep (.fz<|.int a) (.fz<|.int x) (.fz<|.int y) (.fz<|.int c) (.ow<|.lst []) .un):=gs rfl
theorem ae2 (E:nC e){ws:List D}{s4 s6 s7 s9:Sl}(hw:ws.length<=100):bM (aY<|aj (fC<|.str "deal")<|aj (az gIx (az cI (aa 1)<|fC<|.str "pool")<|az bJ (az du (aa 5)<|fC<|.int 48)<|fC<|.int 8)<|aj (aQ gh<|aj (aa 8) aB) aB) (bm e A a r N m rc dep s4 (.fz<|.int y) s6 s7 (.ow<|.lst ws) s9)=.ok (.rt false<|.tup [.str "deal",.str<|e.pool.getD (y/48%8).toNat ⟨#[]⟩,.tup ws],Me.let<|bm e A a r N m rc dep s4 (.fz<|.int y) s6 s7 (.ow<|.lst ws) s9):=by
 have gp:=O9 e A a r;have pa:=Hz E (i:=y/48%8) (by lia);have b48:Bq 48:=bgS (by decide);have z1:ws.length<=16777216:=by lia
 generalize e.pool.getD (y/48%8).toNat ⟨#[]⟩=Z at *;simp only[bm];generalize stD e A (a:Int) (r:Int)=ST at *;simp[bM,Me.let,Sl.let,aY,aj,aB,fC,az,aa,gp,gIx,bJ,mdI,du,dvI,b48,pa,aQ,gh,z1]
end
theorem yx {e:En}{A:Addr×Addr}{a r:Int}{N:Nd}{m:Int×Int}{rc:Rc}{dep:Int}{s4 s5 s6 s7 s8 s9:Sl}:sX (bm e A a r N m rc dep s4 s5 s6 s7 s8 s9) 1=some (stD e A a r)/\kh (bm e A a r N m rc dep s4 s5 s6 s7 s8 s9) (12-2) A.1=some (nD N)/\kh (bm e A a r N m rc dep s4 s5 s6 s7 s8 s9) (12-1) A.2=some (mD m):=⟨rfl,by simp[bm,kh],by simp[bm,kh]⟩
theorem Jb {e:En}{A:Addr×Addr}{a r:Int}{N:Nd}{m:Int×Int}{rc:Rc}{dep:Int}{s4 s5 s6 s7 s8 s9:Sl}:sX (Me.let<|bm e A a r N m rc dep s4 s5 s6 s7 s8 s9) 1=some (stD e A a r)/\kh (Me.let<|bm e A a r N m rc dep s4 s5 s6 s7 s8 s9) (12-2) A.1=some (nD N)/\kh (Me.let<|bm e A a r N m rc dep s4 s5 s6 s7 s8 s9) (12-1) A.2=some (mD m):=⟨rfl,by simp[bm,kh,Me.let,Sl.let],by simp[bm,kh,Me.let,Sl.let]⟩
theorem Zi {FS:Zac}{B:Zab}{e:En}{A:Addr×Addr}{a r:Int}{N:Nd}{m:Int×Int}{rc:Rc}{dep:Int}{s4 s6 s8 s9:Sl}{x c:D}{ls:List D}{R:Res (Fl×Me)}(h:FS [x,c]=.ok (true,.lst ls))(k:bj (hName 9) B ls (bm e A a r N m rc dep s4 (.fz x) s6 (.fz c) s8 s9)=R):
  dg (fL<|fFn FS<|aj (aG 5)<|aj (aG 7) aB) (hName 9) B (bm e A a r N m rc dep s4 (.fz x) s6 (.fz c) s8 s9)=R:=by
 have e1:fL (fFn FS<|aj (aG 5)<|aj (aG 7) aB) (bm e A a r N m rc dep s4 (.fz x) s6 (.fz c) s8 s9)=.ok ls:=by
  simp only[bm];generalize stD e A a r=ST;simp[fL,fFn,aj,aB,aG,h]
 unfold dg;rw[e1];exact k
theorem M5 (n:Nat):bA (n+1)=F.runST 1 12 4 (dO cz cJ (bA n)<|f9<|bA n):=by rw[bA]
theorem Mj {e:En}(E:nC e){n dep:Nat}(hd:dep<=12)(ih:∀d,d+1=dep->SpB e (bA n) d):SpB e (bA<|n+1) dep:=by
 rw[M5];intro a r N m rc I hN har hr;have start:∀A:Addr×Addr,lr 1 (.io<|stD e A a r) ([cD e,.int (dep:Int),rcD rc].map Sl.fz)++(dQ (12-4-2) Sl.un++[.hd false (A.1,nD N).1 (A.1,nD N).2,.hd false (A.2,mD m).1 (A.2,mD m).2])=bm e A a r N m rc dep .un .un .un .un .un .un:=λ_=>rfl;have fin:∀(q:Rat) (s4 s5 s6 s7 s8 s9:Sl),smQ (rq q)->(∀A:Addr×Addr,(dO cz cJ (bA n)<|f9<|bA n) (bm e A a r N m rc dep .un .un .un .un .un .un)=.ok (.rt false<|dG<|.fin<|rq q,bm e A (a+1:Nat) r N m rc dep s4 s5 s6 s7 s8 s9))->Gives e (λA=>F.runST 1 12 4 (dO cz cJ (bA n)<|f9<|bA n) [cD e,.int (dep:Int),rcD rc] (stD e A a r) (A.1,nD N) (A.2,mD m)) a r N rc dep:=λq s4 s5 s6 s7 s8 s9 hq eq=>
  ⟨.fin<|rq q,a+1,r,N,m,λA=>DK rfl (start A) (eq A) yx.1 yx.2.1 yx.2.2,I,Sub.refl N,by lia,rfl,by lia,Q7 hq⟩
 by_cases h1:e.cells.length<=a
 ·obtain⟨q,hq,eq⟩:=bs3 (r:=r) (N:=N) (m:=m) (rc:=rc) (dep:=dep) E (by lia) h1;refine fin q (.fz<|.int a) .un .un .un .un .un hq λA=>?_;unfold dO;rw[bs1,bs2,eq]
 have h1:a<e.cells.length:=by lia
 obtain⟨x,hx,e4⟩:=bs4 (r:=r) (N:=N) (m:=m) (rc:=rc) (dep:=dep) h1 (by lia);obtain⟨y,hy,e6⟩:=bs6 (a:=a) (r:=r) (N:=N) (m:=m) (rc:=rc) E hd hx;by_cases h7:dep=0\/r<3\/(y%8=0/\0<a)
 ·obtain⟨q,hq,eq⟩:=bs7 (e:=e) (N:=N) (m:=m) (rc:=rc) hx h7;refine fin q (.fz<|.int a) (.fz<|.int x) (.fz<|.int y) .un .un .un hq λA=>?_;unfold dO;rw[bs1,bs2,aaZ _ h1,e4,bs5,e6,eq]
 obtain⟨dep,rfl⟩:∃d,dep=d+1:=⟨dep-1,by lia⟩;have hΦ:=ih dep rfl;by_cases h8:y%8>2
 ·refine Jv (Zb E hΦ (a:=a+1) (r:=r) (draw:=y) I (by lia) (by lia) (by lia) hr hy) λg a' r' N' m' em j1 j2 j3 j4 j5 j6=>?_;refine⟨g,a',r',N',m',λA=>DK (fr:=false) (m':=bm e A a' r' N' m' rc ((dep+1:Nat):Int) (.fz<|.int a) (.fz<|.int x) (.fz<|.int y) .un .un .un) rfl (start A) ?_ yx.1 yx.2.1 yx.2.2,j1,j2,j3,j4,by lia,j6⟩;unfold dO;rw[bs1,bs2,aaZ _ h1,e4,bs5,e6,adz _ h7,bs8 h8<|em A]
 obtain⟨cN,hcN⟩:∃cN:Nat,(cN:Int)=1+y/16%3:=⟨(1+y/16%3).toNat,by lia⟩;refine gH (Mr (x:=x) (c:=cN) hx<|by lia) λl el hl hl2 hl3=>?_;obtain⟨L,a',r',N',m',t9,eL,j1,j2,j3,j4,j5,j6,j7⟩:=Oj hΦ (rc:=rc) (s4:=.fz<|.int a) (s5:=.fz<|.int x) (s6:=.fz<|.int y) (s7:=.fz<|.int (cN:Int)) hr (l.map rD) (a+1) (r-cN) N m [] .un I (by lia) (by simp;lia) (by simp;lia);rw[bp,hl2] at j4 j5;have hL:L.length=cN:=by
  have:=congrArg wq j6
  simpa[hl2] using this
 have eL2:∀A:Addr×Addr,f9 (bA n) (bm e A (a+1:Nat) (r-cN:Nat) N m rc ((dep+1:Nat):Int) (.fz<|.int a) (.fz<|.int x) (.fz<|.int y) (.fz<|.int (cN:Int)) (.ow<|.lst []) .un)=.ok (.nx,bm e A a' r' N' m' rc ((dep+1:Nat):Int) (.fz<|.int a) (.fz<|.int x) (.fz<|.int y) (.fz<|.int (cN:Int)) (.ow<|.lst<|L.map Ng) t9):=λA=>by
  unfold f9;exact Zi el<|eL A
 refine⟨.deal (e.pool.getD (x/48%8).toNat ⟨#[]⟩)<|ofL L,a',r',N',m',λA=>DK (fr:=false) (m':=Me.let<|bm e A a' r' N' m' rc ((dep+1:Nat):Int) (.fz<|.int a) (.fz<|.int x) (.fz<|.int y) (.fz<|.int (cN:Int)) (.ow<|.lst<|L.map Ng) t9) rfl (start A) ?_ Jb.1 Jb.2.1 Jb.2.2,j1,j2,j3,?_,by lia,UT (by lia) j7 ?_ ?_⟩
 ·unfold dO;rw[bs1,bs2,aaZ _ h1,e4,bs5,e6,adz _ h7,afd h8,bs9 hcN,afm (r1:=r-cN) (by lia),aeM,gs<|eL2 A,ae2 E (by simp;lia)];show _=Res.ok (Fl.rt false<|D.tup [_,_,.tup<|dWs<|ofL L],_);rw[Lz];rfl
 ·show r'+(szW (ofL L)+1)=r+1;rw[Ml];lia
 ·exact⟨l,by rw[HN,j6],hl,by lia,hl3⟩
 ·have hlt:(x/48%8).toNat<e.pool.length:=by rw[E.p8];lia
  rw[b9,av hlt];exact rf hlt
theorem JK {e:En}(E:nC e):∀(n dep:Nat),dep+1<=n->dep<=12->SpB e (bA n) dep
 |0,dep,h,_=>by lia
 |n+1,dep,h,hd=>Mj E hd λd hd'=>JK E n d (by lia)<|by lia
theorem getD_inj {l:List Str}(nd:l.Nodup){i j:Nat}{d:Str}(hi:i<l.length)(hj:j<l.length)(h:l.getD i d=l.getD j d):i=j:=by
 rw[b9,b9,av hi,av hj] at h;have h:l[i]=l[j]:=h;rcases Nat.lt_trichotomy i j with q|q|q
 ·exact absurd h<|(tm.mp nd) i j hi hj q
 ·exact q
 ·exact absurd h.symm<|(tm.mp nd) j i hj hi q
theorem Zn {e:En}(E:nC e)(nd:e.pool.Nodup){N:Nd}{m:Int×Int}(I:oV N m){s:Int}{nm:Str}{d d':D}(hs:s=1\/s=2)(h:Row e N s nm d)(h':Row e N s nm d'):d=d':=by
 obtain⟨rc,c,b,n,h1,h2,h3,h4,h5,h6,h7,rfl⟩:=h;obtain⟨rc',c',b',n',k1,k2,k3,k4,k5,k6,k7,rfl⟩:=h';have hn:nameAt e n=nameAt e n':=by rw[← h7,← k7]
 have p8:=E.p8
 have:=getD_inj nd (by rw[p8];lia) (by rw[p8];lia) hn
 have t0:=E.t0;have e1:n=n':=by lia
 subst e1;obtain⟨q1,q2⟩:=I.inj s rc c b rc' c' b' _ hs h1 k1 h3 k3;have q2:c=c':=by lia
 subst q1 q2;rfl
theorem Bu (E:nC e)(n:Int):∀l:List Nat,pR (l.map λ(k:Nat)=>D.str<|wordAt e n k)=true/\mH (l.map λ(k:Nat)=>D.str<|wordAt e n k)=0
 |[]=>⟨rfl,rfl⟩
 |k::l=>by
  obtain⟨h1,h2⟩:=Bu E n l;have hw:hZ (wordAt e n k)=true:=Am E _ (by have:=E.t0;lia);exact⟨by simp[pR,okD,hw,h1],by simp[mH,qb,h2]⟩
theorem Wh:∀{rc:List D},Pr rc->mH rc<=1
 |[],_=>eT _
 |d::rc,h=>by
  obtain⟨a,b,rfl⟩:=h d ah
  have:=Wh λx hx=>h x<|af _ hx
  simp[mH,qb]
  lia
theorem ZF (E:nC e)(n:Int):hZ (nameAt e n)=true:=Am E _ (by have:=E.t0;lia)
theorem acu (E:nC e){N:Nd}{s:Int}{nm:Str}{d:D}(h:Row e N s nm d):okR d:=by
 obtain⟨rc,c,b,n,h1,h2,h3,h4,h5,h6,rfl,rfl⟩:=h;obtain⟨w1,w2⟩:=Bu E n<|cf c;have hp:=Wh h1;have hn:=ZF E n;refine⟨by simp[okD,pR,hn,w1,h2],?_⟩;simp only[qb,mH,w2]
 lia
mutual
theorem Qf:∀(w:List Int) (r:Rc) (g:Gm),iG g->∀p∈prG w r g,iG p.2.1
 |w,r,.fin d,h,p,hp=>by
  have:p=(w,.fin d,r):=by simpa[prG] using hp
  rw[this];exact h
 |w,r,.deal n ws,h,p,hp=>by
  rcases a8.mp (show p∈(w,Gm.deal n ws,r)::prW w (λ_=>r) 0 ws from hp) with e|e
  ·rw[e];exact h
  ·exact Hs w _ 0 ws h.2 p e
 |w,r,.move s n ws,h,p,hp=>by
  rcases a8.mp (show p∈(w,Gm.move s n ws,r)::prW w (rbm s n r) 0 ws from hp) with e|e
  ·rw[e];exact h
  ·exact Hs w _ 0 ws h.2 p e
theorem Hs:∀(w:List Int) (f:D->Rc) (i:Nat) (ws:Ws),zU ws->∀p∈prW w f i ws,iG p.2.1
 |w,f,i,.nil,_,p,hp=>by cases hp
 |w,f,i,.cons l g r,h,p,hp=>by
  rcases c6.mp (show p∈prG (w++[(i:Int)]) (f l) g++prW w f (i+1) r from hp) with e|e
  ·exact Qf _ _ g h.1 p e
  ·exact Hs w f (i+1) r h.2 p e
end
noncomputable def nmD:D->Str
 | .tup [_,.str n,_,_]=>n
 |_=>⟨#[]⟩
def kOf (d:D):List Kt:=kn (sdD d)<|nmD d
def TI (T:Tb):Prop:=T.1=T.2.map kOf/\T.1.Nodup
theorem YX (h:TI T)(p:Tr):TI (tst T p):=by
 unfold tst;split
 ·rename_i s n ws ep;split
  ·exact h
  ·rename_i q;have hl:T.1.length=T.2.length:=by rw[h.1];simp
   have hn:kn s n∉T.1:=λhk=>by
    have:∀{ks:List (List Kt)} {ds:List D},ks.length=ds.length->kn s n∈ks->(cA ks ds<|kn s n).isSome=true:=by
     intro ks;induction ks with
     |nil=>intro ds _ h;cases h
     |cons a ks ih=>
      intro ds hl h;cases ds with
      |nil=>simp at hl
      |cons x ds=>
       unfold cA;by_cases qa:a=kn s n
       ·rw[if_pos qa];rfl
       ·rw[if_neg qa];rcases a8.mp h with e|e
        ·exact absurd e.symm qa
        ·exact ih (by simpa using hl) e
    exact q<|this hl hk
   refine⟨?_,?_⟩
   ·show T.1++[kn s n]=(T.2++[gM s n ws p.2.2]).map kOf;rw[bE,← h.1];rfl
   ·show(T.1++[kn s n]).Nodup;rw[hV];exact⟨h.2,by simp,λa ha b hb=>by rw[cb.mp hb];exact λz=>hn<|z▸ha⟩
 ·exact h
theorem Ai:∀(l:List Tr) (T:Tb),TI T->TI (l.foldl tst T)
 |[],T,h=>h
 |p::l,T,h=>Ai l (tst T p)<|YX h p
theorem sub_len:∀{l p:List Str},l.Nodup->(∀x∈l,x∈p)->l.length<=p.length
 |[],p,_,_=>eT _
 |a::l,p,nd,h=>by
  have ha:=h a ah;have nd':=gT.mp nd
  have:=sub_len (l:=l) (p:=p.erase a) nd'.2 λx hx=>(List.mem_erase_of_ne λ(z:x=a)=>nd'.1 (by rw[← z];exact hx)).mpr<|h x<|af _ hx
  rw[List.length_erase_of_mem ha] at this
  have:0<p.length:=List.length_pos_of_mem ha
  simp only[cw]
  lia
theorem name_mem (E:nC e)(n:Int):nameAt e n∈e.pool:=by grind[E.p8,b9,av,nameAt]
theorem xg (G:Grw e N rc g dep){d:D}(h:d∈(tbl<|prG [] rc g).2):∃s n,(s=1\/s=2)/\Row e N s n d:=by
 rcases uR (prG [] rc g) ([],[]) d h with z|⟨p,hp,s,n,ws,ep,rfl⟩
 ·cases z
 ·have h1:=G.pl [] p hp;have h2:=Ge [] rc g G.len G.sd p hp;obtain⟨w,q,r⟩:=p;have ep:q=.move s n ws:=ep;subst ep;exact⟨s,n,h2.1,h1⟩
theorem ac1 (h:Row e N s n d):wdD d<=3:=by
 obtain⟨rc',c,b,k,_,_,_,_,_,h6,_,rfl⟩:=h;simpa[wdD] using h6.2
theorem Ub (E:nC e){N:Nd}{g:Gm}{rc:Rc}{dep:Nat}(G:Grw e N rc g dep)(s:Int):okT (tbl<|prG [] rc g).2 s:=by
 have T:=Ai (prG [] rc g) ([],[]) ⟨rfl,ny⟩;generalize hT:(tbl<|prG [] rc g).2=R at *;have hrow:∀d∈R,∃s n,(s=1\/s=2)/\Row e N s n d:=λd hd=>xg G (by rw[hT];exact hd);have hR:((prG [] rc g).foldl tst ([],[])).2=R:=hT;obtain⟨t1,t2⟩:=T;rw[hR] at t1;rw[t1] at t2;have nd:(R.filter λd=>decide<|sdD d=s).Pairwise λa b=>kOf a≠kOf b:=by
  have:=(fR.mp t2)
  exact this.sublist List.filter_sublist
 have nd2:((R.filter λd=>decide<|sdD d=s).map nmD).Nodup:=by
  refine fR.mpr<|nd.imp_of_mem λ{a b} ha hb h z=>h ?_;have h1:sdD a=s:=by simpa using(dy.mp ha).2
  have h2:sdD b=s:=by simpa using(dy.mp hb).2
  unfold kOf;rw[h1,h2,z]
 have sub:∀x∈(R.filter λd=>decide<|sdD d=s).map nmD,x∈e.pool:=λx hx=>by
  obtain⟨d,hd,rfl⟩:=aT.mp hx;obtain⟨_,n,_,rc',c,b,k,_,_,_,_,_,_,rfl,rfl⟩:=hrow d (dy.mp hd).1;exact name_mem E k
 have hl:=sub_len nd2 sub;rw[bp,E.p8] at hl;have hw:∀l:List D,(∀d∈l,∃s n,(s=1\/s=2)/\Row e N s n d)->(l.map λd=>(wdD d:Int)).sum<=3*l.length:=by
  intro l;induction l with
  |nil=>intro _;simp
  |cons d l ih=>
   intro h
   have:=ih λx hx=>h x<|af _ hx
   obtain⟨_,n,_,hr⟩:=h d ah;have h3:=ac1 hr;simp only[ar,ka,cw]
   lia
 exact⟨hl,Int.le_trans (hw _ λd hd=>hrow d (dy.mp hd).1)<|by lia⟩
theorem Wf (E:nC e)(nd:e.pool.Nodup){N:Nd}{m:Int×Int}(I:oV N m){g:Gm}{dep:Nat}(hd:dep<=12)(G:Grw e N ([],[]) g dep)(hz:szG g<=64):Gd g where
 len:=G.len
 sd:=G.sd
 dep:=iA G.dep hd
 sz:=hz
 row:=by
  classical
  refine⟨λs n=>if h:∃d,Row e N s n d then mf h else .non,λp hp s n ws ep=>?_⟩;have h1:=G.pl [] p hp;have h2:=Ge [] ([],[]) g G.len G.sd p hp;obtain⟨w,q,r⟩:=p;have ep:q=.move s n ws:=ep;subst ep;have h1:Row e N s n (gM s n ws r):=h1;have hex:∃d,Row e N s n d:=⟨_,h1⟩;have e1:=Zn E nd I h2.1 h1<|fy hex;simp only[dif_pos hex];exact⟨e1,acu E<|fy hex⟩
 fr:=λp hp=>by
  have h1:=G.pl [] p hp;refine⟨?_,Qf [] ([],[]) g G.len p hp⟩;obtain⟨w,q,r⟩:=p;cases q with
  |fin d=>exact h1.1
  |deal n ws=>exact h1.1
  |move s n ws=>trivial
 t1:=Ub E G 1
 t2:=Ub E G 2
theorem aft:oV ([],[]) (0,0):=⟨rfl,by simp,by simp,λ_ _ _ _ _ _ _ h=>by simp[cA] at h,λ_ _ _ _ _ _ _ _ _ _ _ h=>by simp[cA] at h⟩
def gmM (e:En)(turn:Int)(rm dep:Nat)(s5 s6 s7:Sl):Me:=[.fz<|cD e,.fz<|.int turn,.fz<|.int (dep:Int),.fz<|.int (rm:Int),.fz<|.lst<|e.pool.map D.str,s5,s6,s7]
theorem aco (e:En)(rm:Nat)(a1 a2:Addr):K9 [] [] [(.str "at",.int 0),(.str "room",.int (rm:Int)),(.str "names",.adr a1),(.str "many",.adr a2),(.str "pool",.lst<|e.pool.map D.str)]=some ([sk "at",sk "room",sk "names",sk "many",sk "pool"],[.int 0,.int (rm:Int),.adr a1,.adr a2,.lst<|e.pool.map D.str]):=by
 simp[K9,uW,putD,sk]
theorem T4 {Φ : Bf} {e : En} {turn : Int} {rm dep : Nat} {d : D} (ht : e.turn = turn % 64) (hl : e.lev = decide (turn / 64 % 2 = 1))
    (h : ∀ A : Addr × Addr, ∃ s n m, Φ [cD e, .int (dep : Int), rcD ([], [])] (stD e A 0 (rm : Int)) (A.1, nD ([], [])) (A.2, mD (0, 0)) = .ok (d, s, n, m)) :
    aX 8 5 (oW Φ) [cD e, .int turn, .int (dep : Int), .int (rm : Int), .lst (e.pool.map D.str)] = .ok (false, d) := by
  have b64 : Bq 64 := bgS (by decide);have H : ∀ a1 a2 : Addr, a1 ≠ a2 → ∃ m', ((ofO (K9 [] [] [(.str "at", .int 0), (.str "room", .int (rm : Int)), (.str "names", .adr a1), (.str "many", .adr a2), (.str "pool", .lst (e.pool.map D.str))])).bind λr => (aK (gf 5 (fC (.str "turn")) (az bJ (aa 1) (fC (.int 64))))
 (aK (gf 5 (fC (.str "level")) (oJ gEq (az bJ (az du (aa 1) (fC (.int 64))) (fC (.int 2))) (fC (.int 1))))
 (v7 (vW Φ 5 1 6 7 (aj (aG 0) (aj (aG 2) (aj (fU (aj (aY aB) (aj (aY aB) aB))) aB))))))) (((gmM e turn rm dep .un .un .un).set 5 (.ow (.dct r.1 r.2))).set 6 (.hd true a1 (nD ([], []))) |>.set 7 (.hd true a2 (mD (0, 0))))) = .ok (.rt false d, m') ∧ m'.length = (gmM e turn rm dep .un .un .un).length := by
    intro a1 a2 hne;obtain ⟨s, n, m, eΦ⟩ := h (a1, a2);refine ⟨gmM e turn rm dep (.ow s) (.hd true a1 n) (.hd true a2 m), ?_, rfl⟩;rw [aco];simp only [qT, Res.uJ];have e1 : ∀ k, aK (gf 5 (fC (.str "turn")) (az bJ (aa 1) (fC (.int 64)))) k (gmM e turn rm dep (.ow (.dct [sk "at", sk "room", sk "names", sk "many", sk "pool"] [.int 0, .int (rm : Int), .adr a1, .adr a2, .lst (e.pool.map D.str)])) (.hd true a1 (nD ([], []))) (.hd true a2 (mD (0, 0)))) = k (gmM e turn rm dep (.ow (.dct [sk "at", sk "room", sk "names", sk "many", sk "pool", sk "turn"] [.int 0, .int (rm : Int), .adr a1, .adr a2, .lst (e.pool.map D.str), .int e.turn])) (.hd true a1 (nD ([], []))) (.hd true a2 (mD (0, 0)))) := λk => gs (by
      simp [gmM, gf, az, aa, fC, bJ, mdI, z9, uW, Bo, putD, sk, ht])
    have e2 : ∀ k, aK (gf 5 (fC (.str "level")) (oJ gEq (az bJ (az du (aa 1) (fC (.int 64))) (fC (.int 2))) (fC (.int 1)))) k (gmM e turn rm dep (.ow (.dct [sk "at", sk "room", sk "names", sk "many", sk "pool", sk "turn"] [.int 0, .int (rm : Int), .adr a1, .adr a2, .lst (e.pool.map D.str), .int e.turn])) (.hd true a1 (nD ([], []))) (.hd true a2 (mD (0, 0)))) = k (gmM e turn rm dep (.ow (stD e (a1, a2) 0 (rm : Int))) (.hd true a1 (nD ([], []))) (.hd true a2 (mD (0, 0)))) := λk => gs (by
      simp [gmM, gf, oJ, az, aa, fC, bJ, mdI, du, dvI, b64, z9, uW, Bo, putD, sk, stD, RX, hl])
    show aK _ _ (gmM e turn rm dep (.ow (.dct [sk "at", sk "room", sk "names", sk "many", sk "pool"] [.int 0, .int (rm : Int), .adr a1, .adr a2, .lst (e.pool.map D.str)])) (.hd true a1 (nD ([], []))) (.hd true a2 (mD (0, 0)))) = _;rw [e1, e2];simp only [gmM, rcD] at eΦ ⊢;generalize stD e (a1, a2) 0 (rm : Int) = ST at *;generalize nD ([], []) = NN at *;generalize mD (0, 0) = MM at *;simp [v7, vW, Ij, yR, aj, aB, aG, fU, aY, eΦ, z6]
  have g := Zf H;have start : [cD e, .int turn, .int (dep : Int), .int (rm : Int), .lst (e.pool.map D.str)].map Sl.fz ++ dQ (8 - 5) Sl.un = gmM e turn rm dep .un .un .un := rfl;have gc : oW Φ (gmM e turn rm dep .un .un .un) = .ok (.rt false d, (gmM e turn rm dep .un .un .un).map λ_ => .un) := by
    rw [← g];rfl
  have ν : [cD e, .int turn, .int (dep : Int), .int (rm : Int), .lst (e.pool.map D.str)].length = 5 := rfl;unfold aX;rw [if_pos ν, start, gc]
theorem Xo (E:nC e){turn:Int}{rm dep:Nat}(hd:dep<=12)(hrm:rm<=63)(ht:e.turn=turn%64)(hl:e.lev=decide (turn/64%2=1)):
  ∃(g:Gm) (N:Nd) (m:Int×Int),oY [cD e,.int turn,.int (dep:Int),.int (rm:Int),.lst<|e.pool.map D.str]=.ok (false,dG g)/\oV N m/\szG g<=rm+1/\Grw e N ([],[]) g dep:=by
 refine Jv (JK E 13 dep (by lia) hd 0 rm ([],[]) (0,0) ([],[]) aft (by simp) (by lia) ⟨(λ_ z=>nomatch z),(λ_ z=>nomatch z),rfl,rfl,by simpa using hd,by simpa using hd⟩) λg a' r' N m eg I _ _ h1 _ G=>?_;exact⟨g,N,m,T4 (Φ:=bA 13) ht hl λA=>⟨_,_,_,eg A⟩,I,by lia,G⟩
theorem cell_eq (ns:List Int)(k:Nat)(hz:ns.length<=1000):∃v:Int,fP [.lst<|ns.map D.int,.int (k:Int)]=.ok (false,.int v):=by
 by_cases h:k<ns.length
 ·have e1:atI (ns.map D.int) (k:Int)=some (.int ns[k]):=lL (by rw[bX,av h];rfl);have h':(k:Int)<(ns.length:Int):=by lia
  exact⟨ns[k],by simp[fP,jT,jE,aX,aK,gIf,aN,aa,aQ,dW,aj,aB,gLt,h,h',bM,Me.let,Sl.let,az,gIx,e1]⟩
 ·have h':¬(k:Int)<(ns.length:Int):=by lia
  exact⟨0,by simp[fP,jT,jE,aX,aK,gIf,aN,aa,aQ,dW,aj,aB,gLt,h,h',bM,Me.let,Sl.let,gNx,fC]⟩
noncomputable def ss:List Nat:=[97,98,99,100,101,102,103,104,105,106,107,108,109,110,111,112,113,114,115,116,117,118,119,120,121,122,48,49,50,51,52,53,54,55,56,57]
theorem abH:c9 "abcdefghijklmnopqrstuvwxyz0123456789" = tx ss:=by decide +kernel
theorem aaM:∀c∈ss,c<128:=by decide
theorem adH:ss.Nodup:=by decide
def sgn (i:Int):Nat:=ss.getD i.toNat 0
theorem Pz (h:0<=i/\i<36):sgn i∈ss:=by
 have hl:i.toNat<ss.length:=by show i.toNat<36;lia
 unfold sgn;rw[b9,av hl];exact rf hl
theorem ZK (h:0<=i/\i<36)(h':0<=j/\j<36)(e:sgn i=sgn j):i=j:=by
 have hl:i.toNat<ss.length:=by show i.toNat<36;lia
 have hl':j.toNat<ss.length:=by show j.toNat<36;lia
 unfold sgn at e;rw[b9,av hl,b9,av hl'] at e
 have:=(List.getElem_inj (h₀:=hl) (h₁:=hl') adH).mp e
 lia
theorem aaO (h:0<=i/\i<36):gIx (.str "abcdefghijklmnopqrstuvwxyz0123456789") (.int i)=some (.str<|tx [sgn i]):=by
 show gIx (.str<|c9 "abcdefghijklmnopqrstuvwxyz0123456789") _=_;rw[abH];have hl:i.toNat<ss.length:=by show i.toNat<36;lia
 have e:atI ss i=some (sgn i):=by
  have:=lL (xs:=ss) (j:=i.toNat)<|av hl
  rw[show((i.toNat:Nat):Int)=i by lia] at this;rw[this];unfold sgn;rw[b9,av hl];rfl
 show(if(tx ss).length<=aw then(atI (tx ss).cps.toList i).map λc=>D.str ⟨#[c]⟩ else none)=_;rw[if_pos (by rw[v8];decide),Al,e];rfl
theorem YQ:aw=16777216:=rfl
theorem VN (h:a.length+b.length<=1000):bU (.str<|tx a) (.str<|tx b)=some (.str<|tx<|a++b):=by
 show(if(tx a).length+(tx b).length<=aw then some (D.str<|tx a++tx b) else none)=_;rw[if_pos (by rw[v8,v8,YQ];lia),aaX]
theorem aaB (h0:0<=i)(h1:i<=w.length)(hw:w.length<=1000):gSl (.str<|tx w) none (some i)=some (.str<|tx<|w.take i.toNat):=by
 show(if(tx w).length<=aw then some (D.str<|yk (tx w) none<|some i) else none)=_;rw[if_pos (by rw[v8,YQ];lia)]
 have:=StrLaws.sliceText_to (x:=tx w) (j:=i) ⟨h0,by rw[Al];exact h1⟩
 rw[show yk (tx w) none (some i)=A6 (tx w) none (some i) from rfl,this];simp[tx]
theorem Uy (h0:0<=i)(h1:i<=w.length):yk (tx w) (some i) none=tx (w.drop i.toNat):=by
 have:=StrLaws.sliceText_from (x:=tx w) (i:=i) ⟨h0,by rw[Al];exact h1⟩
 rw[show yk (tx w) (some i) none=A6 (tx w) (some i) none from rfl,this];refine Qx ?_;rw[Al];show((w.drop i.toNat).take _)=_;exact pS (by rw[nN];lia)
theorem aai (h0:0<=i)(h1:i<=w.length)(hw:w.length<=1000):gSl (.str<|tx w) (some i) none=some (.str<|tx<|w.drop i.toNat):=by
 show(if(tx w).length<=aw then some (D.str<|yk (tx w) (some i) none) else none)=_;rw[if_pos (by rw[v8,YQ];lia),Uy h0 h1]
noncomputable def Af (w:List Nat):List Nat:=w++w++w++w++w++w++w++w
theorem aeX (h:1<=w.length)(h2:w.length<=100):Qv (.int 8) (.str<|tx w)=some (.str<|tx<|Af w):=by
 show(if(0:Int)<=8/\(8:Int)<=1000/\(tx w).length<=1000 then some (D.str<|BO (tx w) 8) else none)=_;rw[if_pos ⟨by decide,by decide,by rw[v8];lia⟩];congr 2;unfold BO;rw[if_neg (by decide),if_neg (by rw[v8];simp;intro z;rw[z] at h;simp at h)];refine Qx ?_;show(List.foldl (· ++ ·) #[] (dQ 8 w.toArray)).toList=_;simp[dQ,Af,eK]
theorem Jc (hP:P.length<=100):iT [.fz<|.int x,s1,s2,s3,.ow<|.lst P,s5,s6,s7,s8,s9]=.ok (.nx,[.fz<|.int<|x/36,s1,s2,s3,.ow<|.lst<|P++[.int<|x%36],s5,s6,s7,s8,s9]):=by
 have b1:Bq 36:=bgS (by decide);have z1:P.length<16777216:=by lia
 simp[iT,aK,cP,j9,putL,az,aa,fC,bJ,mdI,du,dvI,b1,z1,bc]
theorem Be:∀(c i:Nat) (x:Int) (P:List Int) (s5:Sl),P.length+c<=100->(∀p∈P,0<=p/\p<36)->∃(x' s5':Sl) (Q:List Int),bj (hName 5) iT ((jI i c).map λ(k:Nat)=>D.int k) [.fz<|.int x,s1,s2,s3,.ow<|.lst<|P.map D.int,s5,s6,s7,s8,s9]=.ok (.nx,[x',s1,s2,s3,.ow<|.lst<|Q.map D.int,s5',s6,s7,s8,s9])/\Q.length=P.length+c/\∀p∈Q,0<=p/\p<36
 |0,i,x,P,s5,_,hp=>⟨_,s5,P,rfl,rfl,hp⟩
 |c+1,i,x,P,s5,hz,hp=>by
  have st:=Jc (s1:=s1) (s2:=s2) (s3:=s3) (s5:=.fz<|.int (i:Int)) (s6:=s6) (s7:=s7) (s8:=s8) (s9:=s9) (x:=x) (P:=P.map D.int) (by simp;lia);obtain⟨x',s',Q,e,l,h⟩:=Be (s1:=s1) (s2:=s2) (s3:=s3) (s6:=s6) (s7:=s7) (s8:=s8) (s9:=s9) c (i+1) (x/36) (P++[x%36]) (.fz<|.int (i:Int)) (by simp;lia) λp hp'=>by
   rcases c6.mp hp' with e|e
   ·exact hp p e
   ·rw[cb.mp e];lia
  refine⟨x',s',Q,?_,by rw[l];simp;lia,h⟩;rw[fA,ar,bG (m1:=[.fz<|.int x,s1,s2,s3,.ow<|.lst<|P.map D.int,.fz<|.int (i:Int),s6,s7,s8,s9]) rfl st];rw[bE] at e;exact e
theorem Ep:∀ps:List Int,Hm (ps.map λp=>D.str<|tx [sgn p])=some ((ps.map sgn).map λc=>tx [c])
 |[]=>rfl
 |p::ps=>by simp[Hm,Ep ps]
theorem Zr (ps:List Int)(hl:ps.length<=1000):Fb (.str "") [.lst<|ps.map λp=>D.str<|tx [sgn p]]=some (.str<|tx<|ps.map sgn):=by
 have e:((ps.map sgn).map λc=>tx [c])=(ps.map sgn).map λc=>(⟨#[c]⟩:Str):=rfl;have hc:=RK<|ps.map sgn;show(match Hm (ps.map λp=>D.str<|tx [sgn p]) with
  |some zs=>if BM (c9 "") zs=true then some (D.str<|AV (c9 "") zs) else none
  |none=>none)=_
 rw[Ep,e];show(if BM (c9 "") _=true then some (D.str<|AV (c9 "") _) else none)=_;rw[if_pos<|joinOk_of (by rw[hc];simp;lia)];congr 2;exact Qx<|by rw[Vw,hc]
theorem adO {ps:List Int}(hl:ps.length<=1000)(hp:∀p∈ps,0<=p/\p<36):qu [u0,u1,.fz<|.str "abcdefghijklmnopqrstuvwxyz0123456789",u3,.ow<|.lst<|ps.map D.int,u5,u6,u7,u8,u9]=.ok (.lst<|ps.map λp=>D.str<|tx [sgn p]):=by
 have ec:fK (hName 0) jn qm [.un,.fz<|.str "abcdefghijklmnopqrstuvwxyz0123456789"] (ps.map D.int)=.ok (ps.map λp=>D.str<|tx [sgn p]):=iz ps λp hp'=>by
  refine⟨[.fz<|.int p,.fz<|.str "abcdefghijklmnopqrstuvwxyz0123456789"],rfl,rfl,?_⟩;have e:=aaO<|hp p hp';generalize D.str "abcdefghijklmnopqrstuvwxyz0123456789" = Z at *;simp[qm,az,aa,e]
 have z2:ps.length<=16777216:=by lia
 generalize D.str "abcdefghijklmnopqrstuvwxyz0123456789" = Z at *;simp[qu,dX,fL,aa,cMe,Sl.bor,ec,z2]
theorem adB (h1:1<=w.length)(h2:w.length<=100):qp [u0,u1,u2,u3,u4,u5,.fz<|.str<|tx w,u7,u8,u9]=.ok (.lst<|(cf 8).map λ(k:Nat)=>D.str<|tx<|(Af w).take<|k+1):=by
 have hr:(Af w).length=8*w.length:=by simp[Af];lia
 have em:=aeX h1 h2;have e1:(aj (fC<|.int 1)<|aj (fC<|.int 9) aB) [u0,u1,u2,u3,u4,u5,.fz<|.str<|tx w,u7,u8,u9]=.ok [.int 1,.int 9]:=by simp[aj,fC,aB]
 have e2:=aeU e1 (by lia) (by lia) (by lia) (by lia);have ec:fK (hName 0) jn lJ [.un,.fz<|.str<|tx w] ((cf 8).map λ(k:Nat)=>D.int<|1+k)=.ok ((cf 8).map λ(k:Nat)=>D.str<|tx<|(Af w).take<|k+1):=iz (cf 8) λk hk=>by
  have hk:=kH.mp hk;refine⟨[.fz<|.int<|1+k,.fz<|.str<|tx w],rfl,rfl,?_⟩;have es:=aaB (w:=Af w) (i:=1+(k:Int)) (by lia) (by lia) (by lia);rw[show(1+(k:Int)).toNat=k+1 by lia] at es;generalize D.str (tx w)=W at *;simp[lJ,fSl,az,fC,aa,em,fO0,fO1,es]
 unfold qp dX;rw[e2];show(if((cf 8).map λ(k:Nat)=>D.int<|1+k).length<=aw then match fK (hName 0) jn lJ [.un,.fz<|.str<|tx w] ((cf 8).map λ(k:Nat)=>D.int<|1+k) with
  | .ok ys=>Res.ok<|D.lst ys
  |_=>.stuck
 else .stuck)=_
 rw[ec,if_pos<|by decide]
def Jw (w:List Nat)(a:Nat)(p:Int)(k:Nat):Str:=tx<|w.take a++[sgn<|(p+4*k)%36]++w.drop (a+1)
theorem YS {s0 s1 s3 s9:Sl}{ps FF:List D}{w:List Nat}{a k:Nat}{p:Int}(ea:atI ps (a:Int)=some (.int p))(ha:a<w.length)(hw:w.length<=100)(hk:k<=100)(hF:FF.length<=100):
  iK [s0,s1,.fz<|.str "abcdefghijklmnopqrstuvwxyz0123456789",s3,.ow<|.lst ps,.fz<|.int (k:Int),.fz<|.str<|tx w,.fz<|.int (a:Int),.ow<|.lst FF,s9]=.ok (.nx,[s0,s1,.fz<|.str "abcdefghijklmnopqrstuvwxyz0123456789",s3,.ow<|.lst ps,.fz<|.int (k:Int),.fz<|.str<|tx w,.fz<|.int (a:Int),.ow<|.lst<|FF++[.str<|Jw w a p k],.fz<|.str<|tx [sgn<|(p+4*k)%36]]):=by
 have b1:Bq 4:=bgS (by decide);have b2:Bq (k:Int):=bgS (by lia);have z1:FF.length<16777216:=by lia
 have e1:=aaO (i:=(p+4*(k:Int))%36) (by lia);have e2:=aaB (w:=w) (i:=(a:Int)) (by lia) (by lia) (by lia);have e3:=aai (w:=w) (i:=(a:Int)+1) (by lia) (by lia) (by lia);rw[show((a:Int)).toNat=a by lia] at e2;rw[show((a:Int)+1).toNat=a+1 by lia] at e3;have e4:=VN (a:=w.take a) (b:=[sgn<|(p+4*k)%36]) (by simp;lia);have e5:=VN (a:=w.take a++[sgn<|(p+4*k)%36]) (b:=w.drop<|a+1) (by simp;lia);unfold Jw;generalize D.str "abcdefghijklmnopqrstuvwxyz0123456789" = Z at *;generalize D.str (tx<|w.take a++[sgn<|(p+4*k)%36]++w.drop (a+1))=R at *;generalize D.str (tx<|w.take a++[sgn<|(p+4*k)%36])=R1 at *;generalize D.str (tx w)=W at *;generalize D.str (tx<|w.take a)=W1 at *;generalize D.str (tx<|w.drop<|a+1)=W2 at *;generalize D.str (tx [sgn<|(p+4*k)%36])=W3 at *;have e6:gIx (.lst ps) (.int (a:Int))=some (.int p):=ea;have e7:F.bU (.int p) (.int<|4*(k:Int))=some (.int<|p+4*k):=rfl;have e8:F.bU (.int (a:Int)) (.int 1)=some (.int<|(a:Int)+1):=rfl;have e9:F.fB (.int 4) (.int (k:Int))=some (.int<|4*(k:Int)):=by simp[fB,b1,b2]
 have e10:F.bJ (.int<|p+4*k) (.int 36)=some (.int<|(p+4*(k:Int))%36):=by simp[bJ,mdI]
 simp only[iK];simp[aK,bc,az,aa,fC,e6,e7,e8,e9,e10,e1,cP,j9,putL,fSl,fO0,fO1,e2,e3,e4,e5,z1]
theorem Ot {s0 s1 s3:Sl}{ps:List D}{w:List Nat}{a:Nat}{p:Int}(ea:atI ps (a:Int)=some (.int p))(ha:a<w.length)(hw:w.length<=100):∀(c i:Nat) (FF:List D) (s5 s9:Sl),FF.length+c<=100->i+c<=100->∃s5' s9':Sl,
  bj (hName 5) iK ((jI i c).map λ(k:Nat)=>D.int k) [s0,s1,.fz<|.str "abcdefghijklmnopqrstuvwxyz0123456789",s3,.ow<|.lst ps,s5,.fz<|.str<|tx w,.fz<|.int (a:Int),.ow<|.lst FF,s9] =
   .ok (.nx,[s0,s1,.fz<|.str "abcdefghijklmnopqrstuvwxyz0123456789",s3,.ow<|.lst ps,s5',.fz<|.str<|tx w,.fz<|.int (a:Int),.ow<|.lst<|FF++(jI i c).map λ(k:Nat)=>.str<|Jw w a p k,s9'])
 |0,i,FF,s5,s9,_,_=>⟨s5,s9,by simp[bj]⟩
 |c+1,i,FF,s5,s9,hz,hi=>by
  have st:=YS (s0:=s0) (s1:=s1) (s3:=s3) (s9:=s9) (FF:=FF) (k:=i) ea ha hw (by lia) (by lia);obtain⟨s5',s9',e⟩:=Ot (s0:=s0) (s1:=s1) (s3:=s3) ea ha hw c (i+1) (FF++[.str<|Jw w a p i]) (.fz<|.int (i:Int)) (.fz<|.str<|tx [sgn<|(p+4*i)%36]) (by simp;lia) (by lia);refine⟨s5',s9',?_⟩;rw[fA,ar,bG (m1:=[s0,s1,.fz<|.str "abcdefghijklmnopqrstuvwxyz0123456789",s3,.ow<|.lst ps,.fz<|.int (i:Int),.fz<|.str<|tx w,.fz<|.int (a:Int),.ow<|.lst FF,s9]) rfl st,e]
  simp
structure abW (p:List Str):Prop where
 p8:p.length=8
 nd:p.Nodup
 ok:∀x∈p,hZ x=true
theorem Rh (h:tt/8%3=1)
  (eL:L2 [.fz<|.int<|c/8,.fz<|.int tt,.fz<|.str "abcdefghijklmnopqrstuvwxyz0123456789",.fz<|.int<|1+c%8,.ow<|.lst [],.un,.un,.un,.un,.un]=.ok (.nx,[x',.fz<|.int tt,.fz<|.str "abcdefghijklmnopqrstuvwxyz0123456789",.fz<|.int<|1+c%8,.ow P,s5,.un,.un,.un,.un]))
  (e4:Q4 [x',.fz<|.int tt,.fz<|.str "abcdefghijklmnopqrstuvwxyz0123456789",.fz<|.int<|1+c%8,.ow P,s5,.un,.un,.un,.un]=.ok r) (ej:Fb (.str "") [r]=some W)
  {R:D} (e6:∀u0 u1 u2 u3 u4 u5 u7 u8 u9:Sl,Q6 [u0,u1,u2,u3,u4,u5,.fz W,u7,u8,u9]=.ok R):aX 10 2 (jx L2 Q4 Q6 L8) [.int c,.int tt]=.ok (true,R):=by
 unfold aX jx;have b8:Bq 8:=bgS (by decide);have ty:tyD "str" (.str "")=true:=rfl;generalize D.str "abcdefghijklmnopqrstuvwxyz0123456789" = Z at *;generalize D.str "" = Z0 at *;simp[aK,bc,fC,az,aa,bU,bJ,mdI,du,dvI,b8,cX,fU,aB,eL,Qt,ty,aj,e4,ej,gIf,aN,h,nj,Me.let,Sl.let,e6]
theorem Ro (h:¬tt/8%3=1)
  (eL:L2 [.fz<|.int<|c/8,.fz<|.int tt,.fz<|.str "abcdefghijklmnopqrstuvwxyz0123456789",.fz<|.int<|1+c%8,.ow<|.lst [],.un,.un,.un,.un,.un]=.ok (.nx,[x',.fz<|.int tt,.fz<|.str "abcdefghijklmnopqrstuvwxyz0123456789",.fz<|.int<|1+c%8,.ow P,s5,.un,.un,.un,.un]))
  (e4:Q4 [x',.fz<|.int tt,.fz<|.str "abcdefghijklmnopqrstuvwxyz0123456789",.fz<|.int<|1+c%8,.ow P,s5,.un,.un,.un,.un]=.ok r) (ej:Fb (.str "") [r]=some W)
  {R:D} (e8:L8 [x',.fz<|.int tt,.fz<|.str "abcdefghijklmnopqrstuvwxyz0123456789",.fz<|.int<|1+c%8,.ow P,s5,.fz W,.fz<|.int<|tt%(1+c%8),.ow<|.lst [],.un]=.ok (.nx,[x',.fz<|.int tt,.fz<|.str "abcdefghijklmnopqrstuvwxyz0123456789",.fz<|.int<|1+c%8,.ow P,s5',.fz W,.fz<|.int<|tt%(1+c%8),.ow R,s9'])):aX 10 2 (jx L2 Q4 Q6 L8) [.int c,.int tt]=.ok (true,R):=by
 unfold aX jx;have b8:Bq 8:=bgS (by decide);have ty:tyD "str" (.str "")=true:=rfl;have hp:0<1+c%8:=by lia
 have hz:¬1+c%8=0:=by lia
 have em:mdI tt (1+c%8)=tt%(1+c%8):=if_pos hp;generalize hS:1+c%8=S at *;generalize D.str "abcdefghijklmnopqrstuvwxyz0123456789" = Z at *;generalize D.str "" = Z0 at *;simp[aK,bc,fC,az,aa,bU,bJ,du,dvI,b8,cX,fU,aB,show mdI c 8=c%8 from if_pos (by decide),hS,eL,Qt,ty,aj,e4,ej,gIf,aN,show mdI (tt/8) 3=tt/8%3 from if_pos (by decide),h,gNx,hz,em,e8,gU,Me.let,Sl.let]
theorem Z9:∃(x' s5:Sl) (ps:List Int),qe [.fz<|.int<|c/8,.fz<|.int tt,.fz<|.str "abcdefghijklmnopqrstuvwxyz0123456789",.fz<|.int<|1+c%8,.ow<|.lst [],.un,.un,.un,.un,.un]=.ok (.nx,[x',.fz<|.int tt,.fz<|.str "abcdefghijklmnopqrstuvwxyz0123456789",.fz<|.int<|1+c%8,.ow<|.lst<|ps.map D.int,s5,.un,.un,.un,.un])/\(ps.length:Int)=1+c%8/\∀p∈ps,0<=p/\p<36:=by
 have hS:0<=1+c%8/\1+c%8<=8:=by lia
 generalize 1+c%8=S at *;obtain⟨x',s5,Q,e,hl,hQ⟩:=Be (s1:=.fz<|.int tt) (s2:=.fz<|.str "abcdefghijklmnopqrstuvwxyz0123456789") (s3:=.fz<|.int S) (s6:=.un) (s7:=.un) (s8:=.un) (s9:=.un) S.toNat 0 (c/8) [] .un (by simp;lia) λ_ z=>nomatch z;refine⟨x',s5,Q,?_,by simp at hl;lia,hQ⟩;have e1:(aj (aa 3) aB) [.fz<|.int<|c/8,.fz<|.int tt,.fz<|.str "abcdefghijklmnopqrstuvwxyz0123456789",.fz<|.int S,.ow<|.lst [],.un,.un,.un,.un,.un]=.ok [.int S]:=by
  generalize D.str "abcdefghijklmnopqrstuvwxyz0123456789" = Z;simp[aj,aa,aB]
 have e2:=GD e1 (by lia) (by lia);unfold qe dg;rw[e2];show bj (hName 5) iT ((cf S.toNat).map λ(k:Nat)=>D.int k) _=_;rw[f6];exact e
theorem Xl (hw:∀c∈w,c<128):hZ (Jw w a p k)=true:=by
 refine JB λc hc=>?_;rcases c6.mp hc with hc|hc
 ·rcases c6.mp hc with hc|hc
  ·exact hw c<|zt hc
  ·rw[cb.mp hc];exact aaM _<|Pz<|by lia
 ·exact hw c<|List.mem_of_mem_drop hc
theorem WL (hk:k<8)(hj:j<8)(h:Jw w a p k=Jw w a p j):k=j:=by
 have h:=VL.mp h;rw[eK,eK] at h;have h:=List.append_cancel_left h;injection h with h _
 have:=ZK (by lia) (by lia) h
 lia
theorem ZL (h:c∈Af w):c∈w:=by
 simpa[Af] using h
theorem Yy (c t:Int):∃p:List Str,ph [.int c,.int t]=.ok (true,.lst<|p.map D.str)/\abW p:=by
 refine Kd (Z9 (c:=c) (tt:=t)) λx' s5 ps eL hl hp=>?_;have hl8:1<=ps.length/\ps.length<=8:=by lia
 have e4:=adO (u0:=x') (u1:=.fz<|.int t) (u3:=.fz<|.int<|1+c%8) (u5:=s5) (u6:=.un) (u7:=.un) (u8:=.un) (u9:=.un) (by lia) hp;have ej:=Zr ps (by lia);have hw:∀k∈ps.map sgn,k<128:=λk hk=>by
  obtain⟨p,h,rfl⟩:=aT.mp hk;exact aaM _<|Pz<|hp p h
 have wl:(ps.map sgn).length=ps.length:=by simp
 generalize hW:ps.map sgn=w at *;by_cases h:t/8%3=1
 ·refine⟨(cf 8).map λk=>tx<|(Af w).take<|k+1,?_,by simp,?_,λx hx=>?_⟩
  ·rw[fm];exact Rh h eL e4 ej λu0 u1 u2 u3 u4 u5 u7 u8 u9=>adB (by lia)<|by lia
  ·refine fR.mpr<|(xt (n:=8)).imp_of_mem λ{a b} ha hb hne z=>hne ?_;have ha:=kH.mp ha;have hb:=kH.mp hb;have hr:(Af w).length=8*w.length:=by simp[Af];lia
   have:=congrArg wq<|VL.mp z
   rw[me,me] at this
   lia
  ·obtain⟨k,_,rfl⟩:=aT.mp hx;exact JB λc hc=>hw c<|ZL<|zt hc
 ·obtain⟨a,ha⟩:∃a:Nat,(a:Int)=t%(1+c%8):=⟨(t%(1+c%8)).toNat,by have:=lI t (show 1+c%8≠0 by lia);lia⟩;have hlt:a<w.length:=by have:=ja t (show 0<1+c%8 by lia);lia
  have hlp:a<ps.length:=by lia
  have ea:atI (ps.map D.int) (a:Int)=some (.int ps[a]):=lL (by rw[bX,av hlp];rfl);obtain⟨s5',s9',e8⟩:=Ot (s0:=x') (s1:=.fz<|.int t) (s3:=.fz<|.int<|1+c%8) ea hlt (by lia) 8 0 [] s5 .un (by simp) (by lia);refine⟨(cf 8).map λk=>Jw w a ps[a] k,?_,by simp,?_,λx hx=>?_⟩
  ·refine Ro (s5':=s5') (s9':=s9') h eL e4 ej ?_;rw[← ha];rw[fm];have e1:(aj (fC<|.int 8) aB) [x',.fz<|.int t,.fz<|.str "abcdefghijklmnopqrstuvwxyz0123456789",.fz<|.int<|1+c%8,.ow<|.lst<|ps.map D.int,s5,.fz<|.str<|tx w,.fz<|.int (a:Int),.ow<|.lst [],.un]=.ok [.int 8]:=by
    simp[aj,fC,aB]
   have e2:=GD e1 (by lia) (by lia);unfold vh dg;rw[e2];show bj (hName 5) iK ((cf 8).map λ(k:Nat)=>D.int k) _=_;rw[f6];exact e8
  ·refine fR.mpr<|(xt (n:=8)).imp_of_mem λ{i j} hi hj hne z=>hne ?_;exact WL (kH.mp hi) (kH.mp hj) z
  ·obtain⟨k,_,rfl⟩:=aT.mp hx;exact Xl hw
end Lw
namespace F
open PySem PySem.Spec PyProof.Rows L2 Hd
section
end
section
variable {X:Cx}{E:XK}{j k:Nat}{c m:Str}{ps:List Str}{Φ:Zac}{apos pos:Pos}{o e:Expr}{es:List Expr}{f0:Zae}{fs:Zad}{pl:Sem Bool}
end
section
variable {P:cy}{w:fI}{K:bP}{mg:Zp}{base:Heap}
end
section
end
section
variable {X:Cx}{E:XK}{e:Expr}{g:Zae}{k:Zab}{c f x kn vn:Str}{fs:List Str}{pos pos' pos2 pos3 spos np np2 kp vp:Pos}{rest:List Stmt}
end
section
variable {X:Cx}{E:XK}{e:Expr}{g:Zae}{c f x:Str}{fs:List Str}{pos pos' np:Pos}
end
section
variable {P:cy}{w:fI}{K:bP}{mg:Zp}{base:Heap}
end
section
end
section
variable {X:Cx}{E:XK}{jj k:Nat}{c f y:Str}{ps:List Str}{Φ:List D->Res (List Str×List D×D)}{py pos η np:Pos}{e:Expr}{es:List Expr}{fs:Zad}{rest:List Stmt}{kk:Zab}
end
end F
namespace Hd
open PySem L2
end Hd
namespace F
open PySem L2 Hd
section
end
open PySem PySem.Spec PyProof.Rows L2 Hd
section
end
section
end
section
end
section
end
section
variable {X:Cx}{E:XK}{jj k:Nat}{x y:Str}{ps:List Str}{Φ:Zac}{py pos η np:Pos}{e:Expr}{es:List Expr}{fs:Zad}{rest:List Stmt}{kk:Zab}
end
section
end
section
end
section
end
section
end
section
end
section
end
section
end
section
end
section
end
section
variable {X:Cx}{E:XK}{y:Str}{py pos lp:Pos}{es:List Expr}{fs:Zad}{rest:List Stmt}{kk:Zab}
end
theorem BV {h':Heap}:∀(L:List Addr) (s:bq),Inv X π σ H s->L.Nodup->(∀b∈L,uX X π H b)->(∀b∈L,∃o,s.heap.get? b=some o)->(∀b∈L,∃o,h'.get? b=some o/\o.isFreed=false)->
  (∀b o,b∉L->s.heap.get? b=some o->h'.get? b=some o)->∃h1,Inv X π σ H { s with heap:=h1 }/\h1.objs.size=s.heap.objs.size/\∀b u,h1.get? b=some u->h'.get? b=some u
 |[],s,I,_,_,_,_,k=>⟨s.heap,I,rfl,λb u e=>k b u (by simp) e⟩
 |e::L,s,I,nd,fp,he,hn,k=>by
  obtain⟨nd1,nd2⟩:=gT.mp nd;obtain⟨oe,q1,q2⟩:=hn e ah;obtain⟨o0,q0⟩:=he e ah;refine lZ (fp e ah) λf0 f1 f2 f3 f4 f5=>?_;have I1:Inv X π σ H { s with heap:=s.heap.update e λ_=>oe }:=I.turned (t':=s.toks) (λb o hb x=>(dS _ _<|eS hb).trans x) f0 f1 f3 f4 f5;obtain⟨h1,I2,z,kk⟩:=BV (h':=h') L { s with heap:=s.heap.update e λ_=>oe } I1 nd2 (λb hb=>fp b<|af _ hb) (λb hb=>by
   obtain⟨o,ho⟩:=he b<|af _ hb;exact⟨o,(dS _ _ λ(y:e=b)=>nd1 (by rw[y];exact hb)).trans ho⟩) (λb hb=>hn b<|af _ hb) λb o hb x=>by
   have x:(s.heap.update e λ_=>oe).get? b=some o:=x;by_cases y:b=e
   ·subst y;rw[eC (λ_=>oe) q0 q2] at x;cases x;exact q1
   ·rw[dS _ _<|eS y] at x;exact k b o (λw=>(a8.mp w).elim y hb) x
  exact⟨h1,I2,z.trans (eA _ _ _).1,kk⟩
theorem Inv.Xx (L:List Addr)(I:Inv X π σ H s)(fp:∀b∈L,uX X π H b)(k:∀b o,b∉L->s.heap.get? b=some o->h'.get? b=some o):Inv X π σ H { s with heap:=h',toks:=t' }:=by
 have nit:∀b u,H b=some u->b∉L:=λb u e z=>by have:=(fp b z).1;rw[this] at e;cases e
 by_cases hL:X.env.locals∈L
 ·exact absurd rfl (fp _ hL).2.1
 refine I.step (g':=s.gens) (d':=s.drawn) (ch:=L) (λb hb=>?_) (λb o _ _ hc e _=>k b o hc e) (λb o _ _ hc e _=>⟨o.slots,k b o hc e⟩) (λ_ _ _ _ n=>n)
  (λb o hc e=>⟨o,k b o hc e⟩) (λ_ _ e=>e) (λ_ _ _ e=>e) (λb ps e=>⟨#[],by rw[e];simp⟩) (λm hm=>?_) (λb u e=>?_) I.bare
 ·refine lZ (fp b hb) λ_ h1 _ h2 h3 h4=>?_;exact⟨h2,h1,h3,h4⟩
 ·refine JP hm λo es ep ho r=>?_;exact⟨o,es,ep,k _ o hL ho,r⟩
 ·refine(I.hok b u e).stay (λc v hc q=>k c v ?_ q) (λ_ q=>q) λ_ _ q=>q;rcases hc with z|z
  ·rw[z];exact nit b u e
  ·exact nit c _ z
section
variable {X:Cx}
theorem boot_zip:dA "zip" = some (.type "zip"):=by decide +kernel
theorem vals2 (r:Vals [a,b] us):∃u v,us=[u,v]/\RelV a u/\RelV b v:=by
 cases r with
 |cons r1 r2=>
  cases r2 with
  |cons r2 r3=>cases r3;exact⟨_,_,rfl,r1,r2⟩
noncomputable def zr:List D->List D->List D
 |a::as,b::bs=>.tup [a,b]::zr as bs
 |_,_=>[]
theorem BR:∀as bs:List D,(zr as bs).length=min as.length bs.length
 |[],_=>by simp[zr]
 |_::_,[]=>by simp[zr]
 |a::as,b::bs=>by rw[zr,cw,BR as bs];simp
theorem Ql:∀{as bs:List D} {i:Nat} {a b:D},as[i]? = some a->bs[i]? = some b->(zr as bs)[i]? = some (.tup [a,b])
 |[],_,_,_,_,h,_=>by simp at h
 |_::_,[],_,_,_,_,h=>by simp at h
 |x::as,y::bs,0,a,b,h1,h2=>by
  have h1:x=a:=by simpa using h1
  have h2:y=b:=by simpa using h2
  rw[h1,h2];rfl
 |x::as,y::bs,i+1,a,b,h1,h2=>Ql (as:=as) (bs:=bs) (i:=i) (by simpa using h1) (by simpa using h2)
end
section
variable {pr:cy}{wo:fI}{Ar:iN}{Ex:Zs}{st:bq}
theorem Gs {c t:Addr}{k:Nat}{χ:Array aS}{v:aS}{R:Zs}(ci:st.heap.IsTupleIter c t k)(ct:st.heap.IsTuple t χ)(cv:χ[k]? = some v)
  (r:∀g,g.IsTupleIter c t (k+1)->kx c st.heap g->R v { st with heap:=g }):bt (dr pr wo) Ar (fg<|.ref c) R Ex st:=by
 obtain⟨oc,g1,g2,g3⟩:=id ci;obtain⟨ot,f1,_,n,f3⟩:=ct;unfold fg;refine ae<|eW (name:=c9 "__next__") ci.typeIs iF<|c8 iF ci.typeIs pz ?_<|oD _;refine(show bt _ _ (field (.ref c) 0 >>= _) _ _ st from ae (hC g1 g3 (x:=.ref t) rfl ?_));show bt _ _ (if(cx t==i9)=true then _ else _) _ _ st;rw[if_neg (by intro z;cases z)];refine(show bt _ _ (field (.ref c) 1 >>= _) _ _ st from ae (hC g1 g3 (x:=.int k 0) rfl ?_));refine(show bt _ _ (seqItems? (.ref t) >>= _) _ _ st from ae (iS f1 f3 ?_));simp only[lx,cv];refine ae<|nE g1 g3 (by simp)<|ag ⟨v,rfl,ag<|r _ ⟨_,eC _ g1<|qk<|kD g3 _,(ve ..).trans g2,?_⟩<|eA ..⟩;rw[kD g3];simp[rg]
theorem Qz {c t:Addr}{k:Nat}{χ:Array aS}{R:Zs}(hn:Ar.handled=none)(ci:st.heap.IsTupleIter c t k)(ct:st.heap.IsTuple t χ)(cv:χ[k]? = none)
  (r:∀g e,BD c st.heap g->(∃o,g.get? e=some o/\o.cls=.type "StopIteration")->Ex (.ref e) { st with heap:=g }):bt (dr pr wo) Ar (fg<|.ref c) R Ex st:=by
 obtain⟨oc,g1,g2,g3⟩:=id ci;obtain⟨ot,f1,_,n,f3⟩:=ct;unfold fg;refine ae<|eW (name:=c9 "__next__") ci.typeIs iF<|c8 iF ci.typeIs pz ?_<|oD _;refine(show bt _ _ (field (.ref c) 0 >>= _) _ _ st from ae (hC g1 g3 (x:=.ref t) rfl ?_));show bt _ _ (if(cx t==i9)=true then _ else _) _ _ st;rw[if_neg (by intro z;cases z)];refine(show bt _ _ (field (.ref c) 1 >>= _) _ _ st from ae (hC g1 g3 (x:=.int k 0) rfl ?_));refine(show bt _ _ (seqItems? (.ref t) >>= _) _ _ st from ae (iS f1 f3 ?_));simp only[lx,cv];refine ae<|pV<|ae<|nE g1 g3 (by simp)<|show bt _ _ (newExc (.type "StopIteration") [] >>= _) _ _ _ from ae ?_;simp only[newExc,newTuple];refine ae<|eJ (ae (m:=nI _ _)<|wpAny_of_eq (a:=i9) (by first|rfl|(simp only[nI];rfl))<|eJ ?_<|by size_fits) (by size_fits);simp only[raiseNew];refine ae<|AW ?_
 first|rw[show Ar.in1.handled=none from hn]|rw[hn]
 exact ae<|ag<|wpAny_throw<|r _ _ (((eA ..).extBut.push _).push _) ⟨_,aE _ rfl,rfl⟩
theorem Zw {z a b i j t u:Addr}{m n:Nat}{xs ys:Array aS}{x y p q:aS}{R:Zs}(D:AZ z a b i j t u)(z0:AJ st.heap z a b .none)(a0:nc st.heap a (.ref i) (.ref j))(b0:nc st.heap b p q)
  (i0:st.heap.IsTupleIter i t m) (j0:st.heap.IsTupleIter j u n) (t0:st.heap.IsTuple t xs) (u0:st.heap.IsTuple u ys) (ex:xs[m]? = some x) (ey:ys[n]? = some y)
  (r:∀g,AJ g z a b (rg st.heap.objs.size)->nc g b x y->g.IsTupleIter i t (m+1)->g.IsTupleIter j u (n+1)->nc g st.heap.objs.size x y->g.objs.size=st.heap.objs.size+1->
   (∀c o,c≠z->c≠b->c≠i->c≠j->st.heap.get? c=some o->g.get? c=some o)->R (.ref st.heap.objs.size) { st with heap:=g }):
  bt (dr pr wo) Ar (AF.«zip.__next__» ⟨[.ref z],[]⟩) (λfin s'=>∃v,fin=.done (.ret v)/\R v s') Ex st:=by
 refine(show bt _ _ (field (.ref z) 2 >>= _) _ _ _ from ae (hC z0 rfl (x:=.bool false) rfl<|show bt _ _ (field (.ref z) 3 >>= _) _ _ _ from ae (hC z0 rfl (x:=.ref a) rfl<|ae<|iS a0 rfl ?_)));refine(show bt _ _ (hG (.ref z) >>= _) _ _ _ from ae ?_);unfold hG;refine ae<|hC z0 rfl (x:=.none) rfl<|ag ?_;simp only[if_true];refine ae<|pV<|ae<|hC z0 rfl (x:=.ref b) rfl<|ae<|kG z0 (by simp) λg1 z1 k1=>?_
 replace z1:AJ g1 z a b .ellipsis:=z1
 refine ae ?_;simp only[List.zipIdx_cons,List.zipIdx_nil,o3,Ap];refine ae<|ae<|xc<|show bt _ _ (fg (.ref i) >>= _) _ _ _ from ?_;refine ae<|Gs (i0.extBut k1.extBut D.i1z) (t0.extBut k1.extBut D.l1z) ex λg2 i2 k2=>ag ?_;have b2:nc g2 b p q:=k2.extBut _ _ D.TOi1<|k1.extBut _ _ D.TOz b0;refine ae<|iS b2 rfl<|ae<|rL b2 λg3 b3 k3=>ae<|w8<|ag ?_
 replace b3:nc g3 b x q:=b3
 refine ae<|ae<|xc<|show bt _ _ (fg (.ref j) >>= _) _ _ _ from ?_;refine ae<|Gs (((j0.extBut k1.extBut D.i2z).extBut k2.extBut D.i12.symm).extBut k3.extBut D.TOi2.symm) (((u0.extBut k1.extBut D.l2z).extBut k2.extBut D.l2i1).extBut k3.extBut D.l2TO) ey λg4 j4 k4=>ag ?_;have b4:nc g4 b x q:=k4.extBut _ _ D.TOi2 b3;refine ae<|iS b4 rfl<|ae<|rL b4 λg5 b5 k5=>ae<|w8<|ag<|ag ?_
 replace b5:nc g5 b x y:=b5
 refine ae<|iS b5 rfl<|ae<|wpAny_newTuple ?_;have sz:g5.objs.size=st.heap.objs.size:=by rw[k5.1,k4.1,k3.1,k2.1,k1.1]
 have z5:AJ g5 z a b .ellipsis:=k5.extBut _ _ D.TOz.symm<|k4.extBut _ _ D.i2z.symm<|k3.extBut _ _ D.TOz.symm<|k2.extBut _ _ D.i1z.symm z1;have kk:∀c o,c≠z->c≠b->c≠i->c≠j->st.heap.get? c=some o->g5.get? c=some o:=λc o c1 c2 c3 c4 e=>k5.extBut _ _ c2<|k4.extBut _ _ c4<|k3.extBut _ _ c2<|k2.extBut _ _ c3<|k1.extBut _ _ c1 e;have i5:g5.IsTupleIter i t (m+1):=((i2.extBut k3.extBut D.TOi1.symm).extBut k4.extBut D.i12).extBut k5.extBut D.TOi1.symm;have j5:g5.IsTupleIter j u (n+1):=j4.extBut k5.extBut D.TOi2.symm;have lz:z<g5.objs.size:=aI z5;refine(show bt _ _ (nL (.ref z) (.ref g5.objs.size) >>= _) _ _ _ from ae ?_);unfold nL;refine ae<|kG (show AJ (g5.push { cls:=.type "tuple",data:=.seq #[x,y] }) z a b .ellipsis from ai _ z5) (by simp) λg7 z7 k7=>?_
 replace z7:AJ g7 z a b (rg g5.objs.size):=z7
 refine kG z7 (by simp) λg8 z8 k8=>?_
 replace z8:AJ g8 z a b (rg g5.objs.size):=z8
 have up:∀c o,c≠z->g5.get? c=some o->g8.get? c=some o:=λc o c1 e=>k8.extBut _ _ c1<|k7.extBut _ _ c1<|ai _ e;have n8:nc g8 g5.objs.size x y:=k8.extBut _ _ (qh lz)<|k7.extBut _ _ (qh lz)<|aE _ rfl;have s8:g8.objs.size=g5.objs.size+1:=by rw[k8.1,k7.1,kc]
 rw[sz] at z8 n8 s8;refine ag ⟨_,rfl,(show R (.ref g5.objs.size) _ from ?_)⟩;rw[sz];obtain⟨oi,ei,ri⟩:=i5;obtain⟨oj,ej,rj⟩:=j5;exact r g8 z8 (up _ _ D.TOz b5) ⟨oi,up _ _ D.i1z ei,ri⟩ ⟨oj,up _ _ D.i2z ej,rj⟩ n8 s8 λc o c1 c2 c3 c4 e=>up c o c1<|kk c o c1 c2 c3 c4 e
theorem Zg {z a b i j t u:Addr}{m n:Nat}{xs ys:Array aS}{p q:aS}{R:Fin->bq->Prop}(hn:Ar.handled=none)(D:AZ z a b i j t u)(z0:AJ st.heap z a b .none)(a0:nc st.heap a (.ref i) (.ref j))(b0:nc st.heap b p q)
  (i0:st.heap.IsTupleIter i t m) (j0:st.heap.IsTupleIter j u n) (t0:st.heap.IsTuple t xs) (u0:st.heap.IsTuple u ys) (en:xs[m]? = none\/ys[n]? = none)
  (r:∀g e,(∀c o,c≠z->c≠b->c≠i->c≠j->st.heap.get? c=some o->g.get? c=some o)->(∃o,g.get? e=some o/\o.cls=.type "StopIteration")->Ex (.ref e) { st with heap:=g }):
  bt (dr pr wo) Ar (AF.«zip.__next__» ⟨[.ref z],[]⟩) R Ex st:=by
 refine(show bt _ _ (field (.ref z) 2 >>= _) _ _ _ from ae (hC z0 rfl (x:=.bool false) rfl<|show bt _ _ (field (.ref z) 3 >>= _) _ _ _ from ae (hC z0 rfl (x:=.ref a) rfl<|ae<|iS a0 rfl ?_)));refine(show bt _ _ (hG (.ref z) >>= _) _ _ _ from ae ?_);unfold hG;refine ae<|hC z0 rfl (x:=.none) rfl<|ag ?_;simp only[if_true];refine ae<|pV<|ae<|hC z0 rfl (x:=.ref b) rfl<|ae<|kG z0 (by simp) λg1 z1 k1=>?_
 replace z1:AJ g1 z a b .ellipsis:=z1
 refine ae ?_;simp only[List.zipIdx_cons,List.zipIdx_nil,o3,Ap];refine ae<|ae<|xc<|show bt _ _ (fg (.ref i) >>= _) _ _ _ from ?_;cases ex:xs[m]? with
 |none=>
  refine ae<|Qz hn (i0.extBut k1.extBut D.i1z) (t0.extBut k1.extBut D.l1z) ex λg2 e k2 he=>?_;obtain⟨oe,e1,e2⟩:=he;have z2:AJ g2 z a b .ellipsis:=k2 _ _ D.i1z.symm z1;have ne:e≠z:=λw=>by subst w;rw[z2] at e1;cases e1;simp at e2
  exact kG z2 (by simp) λg3 _ k3=>r g3 e (λc o c1 _ c3 _ w=>k3.extBut _ _ c1<|k2 _ _ c3<|k1.extBut _ _ c1 w) ⟨oe,k3.extBut _ _ ne e1,e2⟩
 |some x=>
  have ey:ys[n]? = none:=en.elim (λw=>by rw[ex] at w;cases w) id;refine ae<|Gs (i0.extBut k1.extBut D.i1z) (t0.extBut k1.extBut D.l1z) ex λg2 i2 k2=>ag ?_;have b2:nc g2 b p q:=k2.extBut _ _ D.TOi1<|k1.extBut _ _ D.TOz b0;refine ae<|iS b2 rfl<|ae<|rL b2 λg3 b3 k3=>ae<|w8<|ag ?_;refine ae<|ae<|xc<|show bt _ _ (fg (.ref j) >>= _) _ _ _ from ?_;refine ae<|Qz hn (((j0.extBut k1.extBut D.i2z).extBut k2.extBut D.i12.symm).extBut k3.extBut D.TOi2.symm) (((u0.extBut k1.extBut D.l2z).extBut k2.extBut D.l2i1).extBut k3.extBut D.l2TO) ey λg4 e k4 he=>?_;obtain⟨oe,e1,e2⟩:=he;have z4:AJ g4 z a b .ellipsis:=k4 _ _ D.i2z.symm<|k3.extBut _ _ D.TOz.symm<|k2.extBut _ _ D.i1z.symm z1;have ne:e≠z:=λw=>by subst w;rw[z4] at e1;cases e1;simp at e2
  exact kG z4 (by simp) λg5 _ k5=>r g5 e (λc o c1 c2 c3 c4 w=>k5.extBut _ _ c1<|k4 _ _ c4<|k3.extBut _ _ c2<|k2.extBut _ _ c3<|k1.extBut _ _ c1 w) ⟨oe,k5.extBut _ _ ne e1,e2⟩
theorem Xf {z a b i j t u:Addr}{m n:Nat}{xs ys:Array aS}{x y p q:aS}{R:Option aS->bq->Prop}(D:AZ z a b i j t u)(z0:AJ st.heap z a b .none)(a0:nc st.heap a (.ref i) (.ref j))(b0:nc st.heap b p q)
  (i0:st.heap.IsTupleIter i t m) (j0:st.heap.IsTupleIter j u n) (t0:st.heap.IsTuple t xs) (u0:st.heap.IsTuple u ys) (ex:xs[m]? = some x) (ey:ys[n]? = some y)
  (r:∀g,AJ g z a b (rg st.heap.objs.size)->nc g b x y->g.IsTupleIter i t (m+1)->g.IsTupleIter j u (n+1)->nc g st.heap.objs.size x y->g.objs.size=st.heap.objs.size+1->
   (∀c o,c≠z->c≠b->c≠i->c≠j->st.heap.get? c=some o->g.get? c=some o)->R (some<|.ref st.heap.objs.size) { st with heap:=g }):bt (dr pr wo) Ar (tF<|.ref z) R Ex st:=by
 have ty:st.TypeIs (.ref z) "zip":=⟨_,z0,rfl⟩;unfold tF;exact ae<|pd<|eW (name:=c9 "__next__") ty mE<|c8 mE ty xD (Zw D z0 a0 b0 i0 j0 t0 u0 ex ey λg a1 a2 a3 a4 a5 a6 a7=>ag<|r g a1 a2 a3 a4 a5 a6 a7)<|xh _
theorem Wm {z a b i j t u:Addr}{m n:Nat}{xs ys:Array aS}{p q:aS}{R:Option aS->bq->Prop}(hn:Ar.handled=none)(D:AZ z a b i j t u)(z0:AJ st.heap z a b .none)(a0:nc st.heap a (.ref i) (.ref j))(b0:nc st.heap b p q)
  (i0:st.heap.IsTupleIter i t m) (j0:st.heap.IsTupleIter j u n) (t0:st.heap.IsTuple t xs) (u0:st.heap.IsTuple u ys) (en:xs[m]? = none\/ys[n]? = none)
  (r:∀g,(∀c o,c≠z->c≠b->c≠i->c≠j->st.heap.get? c=some o->g.get? c=some o)->R none { st with heap:=g }):bt (dr pr wo) Ar (tF<|.ref z) R Ex st:=by
 have ty:st.TypeIs (.ref z) "zip":=⟨_,z0,rfl⟩;unfold tF;refine ae<|pd<|eW (name:=c9 "__next__") ty mE<|c8 mE ty xD (Zg hn D z0 a0 b0 i0 j0 t0 u0 en λg e hk he=>?_)<|xh _;obtain⟨o,ho,hc⟩:=he;exact ae<|kl (T:="StopIteration") (b:=true) ⟨o,ho,hc⟩ zI<|ag<|r _ hk
end
noncomputable def tzH (h:Heap)(t u:Addr):Heap:=((((h.push { cls:=.type "tuple_iterator",data:=.fields #[.ref t,.int 0 0] }).push { cls:=.type "tuple_iterator",data:=.fields #[.ref u,.int 0 0] }).push { cls:=.type "tuple",data:=.seq #[.ref h.objs.size,.ref<|h.objs.size+1] }).push { cls:=.type "tuple",data:=.seq #[.none,.none] }).push { cls:=.type "zip",data:=.fields #[.none,.bool false,.bool false,.ref<|h.objs.size+2,.ref<|h.objs.size+3] }
theorem abX (t u:Addr)(xs ys:Array aS):Meets (AF.«zip.__new__» ⟨[.type "zip",.ref t,.ref u],[]⟩) (λ_ R s=>s.heap.IsTuple t xs/\s.heap.IsTuple u ys/\R (.ok<|.ret<|.ref<|s.heap.objs.size+4) { s with heap:=tzH s.heap t u }):=
 .of_wp λprog w A R s h=>by
  obtain⟨hp,g,d,tk,os⟩:=s;obtain⟨h1,h2,h⟩:=h;have hsub:=PySem.sub_zip;have t1:Heap.IsTuple (Shared.heap ⟨hp,g,d,tk,os⟩) t xs:=h1;have t2:Heap.IsTuple (Shared.heap ⟨hp.push { cls:=.type "tuple_iterator",data:=.fields #[.ref t,.int 0 0] },g,d,tk,os⟩) u ys:=by
   obtain⟨o,e,r⟩:=h2;exact⟨o,ai _ e,r⟩
  unfold tzH at h
  wp_walk using sQ t1,sQ t2
  refine⟨_,rfl,?_⟩;simp only[kc] at h ⊢;exact h
section
variable {pr:cy}{wo:fI}{Ar:iN}{Ex:Zs}{st:bq}
theorem Xk {t u:Addr}{xs ys:Array aS}{R:Zs}(t0:st.heap.IsTuple t xs)(u0:st.heap.IsTuple u ys)
  (r:∀g,AJ g (st.heap.objs.size+4) (st.heap.objs.size+2) (st.heap.objs.size+3) .none->nc g (st.heap.objs.size+2) (.ref st.heap.objs.size) (.ref<|st.heap.objs.size+1)->nc g (st.heap.objs.size+3) .none .none->
   g.IsTupleIter st.heap.objs.size t 0->g.IsTupleIter (st.heap.objs.size+1) u 0->g.objs.size=st.heap.objs.size+5->(∀c o,st.heap.get? c=some o->g.get? c=some o)->R (.ref<|st.heap.objs.size+4) { st with heap:=g }):
  bt (dr pr wo) Ar (call (.type "zip") [.ref t,.ref u]) R Ex st:=by
 refine callType_new PySem.F.called_zip (by decide) (PySem.F.typeCall_zip_2 _ _) (PySem.F.newCall_zip_2 _ _) (λobj=>PySem.F.args_object_init_3 obj _ _) PySem.F.entry_zip_new (abX t u xs ys) ⟨t0,u0,?_⟩;have gp:∀(h:Heap) (o:Obj) (n:Nat),h.objs.size=n->o.isFreed=false->(h.push o).get? n=some o:=λh o n e f=>by subst e;exact aE _ f
 have g5:(tzH st.heap t u).get? (st.heap.objs.size+4)=some _:=gp _ _ _ (by simp only[kc]) rfl;have g4:(tzH st.heap t u).get? (st.heap.objs.size+3)=some _:=ai _<|gp _ _ _ (by simp only[kc]) rfl;have g3:(tzH st.heap t u).get? (st.heap.objs.size+2)=some _:=ai _<|ai _<|gp _ _ _ (by simp only[kc]) rfl;have g2:(tzH st.heap t u).get? (st.heap.objs.size+1)=some _:=ai _<|ai _<|ai _<|gp _ _ _ (by simp only[kc]) rfl;have g1:(tzH st.heap t u).get? st.heap.objs.size=some _:=ai _<|ai _<|ai _<|ai _<|gp _ _ _ rfl rfl;exact⟨⟨_,g5,rfl⟩,r _ g5 g3 g4 ⟨_,g1,rfl,rfl⟩ ⟨_,g2,rfl,rfl⟩ (by unfold tzH;simp only[kc]) λc o x=>ai _<|ai _<|ai _<|ai _<|ai _ x⟩
end
def Ity (K : bP) (a b : Addr) : It :=
  ⟨λi H => ∃ xs ys x y, SqT K H a xs ∧ SqT K H b ys ∧ xs[i]? = some x ∧ ys[i]? = some y,
   λi H x H' => ∃ y1 y2 l, (∀ xs, SqT K H a xs → xs[i]? = some y1) ∧ (∀ ys, SqT K H b ys → ys[i]? = some y2) ∧ x=.ref l ∧ H l=none ∧ H'=upd H l (.tup [y1, y2]),
   λi H => ∃ xs ys, SqT K H a xs ∧ SqT K H b ys ∧ (xs.length ≤ i ∨ ys.length ≤ i)⟩
theorem mm4 {α:Type}{P:α->Prop}{a b c d:α}(h1:P a)(h2:P b)(h3:P c)(h4:P d):∀x∈[a,b,c,d],P x:=by simp[h1,h2,h3,h4]
theorem mm5 {α:Type}{P:α->Prop}{a b c d e:α}(h0:P e)(h1:P a)(h2:P b)(h3:P c)(h4:P d):∀x∈[e,a,b,c,d],P x:=by simp[h0,h1,h2,h3,h4]
theorem adb {α:Type}{x a b c d:α}(h:x∉[a,b,c,d]):x≠a/\x≠b/\x≠c/\x≠d:=by simpa using h
theorem adn {α:Type}{a b c d e:α}:∀x∈[e,b,c,d],x∈[e,a,b,c,d]:=mm4 (by simp) (by simp) (by simp)<|by simp
theorem Rz {P:cy}{w:fI}{K:bP}{elts:List Expr}{x1}{pos:Pos}(z TI TO i1 i2 a b:Addr)(D:AZ z TI TO i1 i2 a b):
  Turn P w K (.Tuple elts x1 pos) (Ity K a b) [z,TI,TO,i1,i2] z (λi h=>AJ h z TI TO .none/\nc h TI (.ref i1) (.ref i2)/\(∃u v,nc h TO u v)/\h.IsTupleIter i1 a i/\h.IsTupleIter i2 b i) where
 mem:=by simp
 obj:=λi h ⟨q1,q2,⟨u,v,q3⟩,⟨o4,e4,c4,d4⟩,⟨o5,e5,c5,d5⟩⟩ c hc=>mm5 (P:=λc=>∃o,h.get? c=some o/\∀v,o.data≠.cell v) ⟨_,q1,λv=>nofun⟩ ⟨_,q2,λv=>nofun⟩ ⟨_,q3,λv=>nofun⟩ ⟨_,e4,λv=>d4▸nofun⟩ ⟨_,e5,λv=>d5▸nofun⟩ c hc
 keep:=λi h h' ⟨q1,q2,⟨u,v,q3⟩,q4,q5⟩ k=>⟨k z (by simp) _ q1,k TI (by simp) _ q2,⟨u,v,k TO (by simp) _ q3⟩,q4.at λo x=>k i1 (by simp) o x,q5.at λo x=>k i2 (by simp) o x⟩
 item:=by
  intro X hP hw hK hc i π s σ H E I hf st hg;subst hP hw hK;obtain⟨xs,ys,x,y,hq,hq2,hx,hy⟩:=hg;obtain⟨q1,q2,⟨u,v,q3⟩,q4,q5⟩:=st;obtain⟨χ,rv,p,hz⟩:=I.tuple hq;obtain⟨its2,rv2,p2,hz2⟩:=I.tuple hq2;obtain⟨ux,hu,ru⟩:=rv.get hx;obtain⟨uy,hu2,ru2⟩:=rv2.get hy;refine Xf D q1 q2 q3 q4 q5 (show s.heap.IsTuple a χ.toArray from p) (show s.heap.IsTuple b its2.toArray from p2) (x:=ux) (y:=uy) (by simpa using hu) (by simpa using hu2) λh' a1 a2 a3 a4 a5 a6 k=>?_;obtain⟨o4,e4,c4,d4⟩:=id a3;obtain⟨o5,e5,c5,d5⟩:=id a4;obtain⟨p4,f4,_,_⟩:=id q4;obtain⟨p5,f5,_,_⟩:=id q5;obtain⟨h1,I1,z1,k1⟩:=BV (h':=h') [z,TO,i1,i2] s I (by simp[eS D.TOz,eS D.i1z,eS D.i2z,D.TOi1,D.TOi2,D.i12]) (λc hc=>hf c<|adn c hc) (mm4 ⟨_,q1⟩ ⟨_,q3⟩ ⟨_,f4⟩ ⟨_,f5⟩) (mm4 ⟨_,a1,rfl⟩ ⟨_,a2,rfl⟩ ⟨_,e4,Dv d4⟩ ⟨_,e5,Dv d5⟩) λc o hc e=>let⟨n1,n2,n3,n4⟩:=adb hc;k c o n1 n2 n3 n4 e
  have I2:Inv X π σ (upd H s.heap.objs.size<|.tup [x,y]) { s with heap:=h',toks:=s.toks }:=
   I1.laid (t':=s.toks) k1 (x8 z1) (show cV X.prog X.w _ _ _ (.tup [x,y]) from⟨(show 2<=aw by decide),[ux,uy],.cons ru<|.cons ru2 .nil,⟨_,a5,rfl,_,rfl,rfl⟩⟩)
  have fr:H s.heap.objs.size=none:=I.hok.fresh<|ay _;have nn:∀c,(∃o,s.heap.get? c=some o)->H c=none->upd H s.heap.objs.size (.tup [x,y]) c=none:=λc ⟨o,ho⟩ e=>by rw[bu<|cK<|aI ho];exact e
  have all:∀c∈[z,TI,TO,i1,i2],∃o,s.heap.get? c=some o:=mm5 ⟨_,q1⟩ ⟨_,q2⟩ ⟨_,q3⟩ ⟨_,f4⟩ ⟨_,f5⟩;have hTI:nc h' TI (.ref i1) (.ref i2):=k _ _ D.TIz D.TITO D.TIi1 D.TIi2 q2;refine⟨_,rfl,wpAny_letOwnedTupleGo_zip a1 λh2 e2 sb=>?_⟩;have fz:=hf z (by simp);refine lZ fz λg0 g1 g2 g3 g4 g5=>?_;refine⟨.ref s.heap.objs.size,_,I2.turned (t':=s.toks) (λc o hc y=>(sb.2 c hc).trans y) (nn z ⟨_,q1⟩ g0) g1 g3 g4 g5,rfl,⟨x,y,_,λzs hz'=>by rw[I.yN hz' hq];exact hx,λzs hz'=>by rw[I.yN hz' hq2];exact hy,rfl,fr,rfl⟩,⟨e2,sb.extBut _ _ D.TIz hTI,⟨_,_,sb.extBut _ _ D.TOz a2⟩,a3.at λo y=>(sb.2 i1 D.i1z).trans y,a4.at λo y=>(sb.2 i2 D.i2z).trans y⟩,λc hc=>nn c (all c hc) (hf c hc).1⟩
 done:=by
  intro X hP hw hK hc i π s σ H E I hf st hg;subst hP hw hK;refine zR hg λxs ys hq hq2 hx=>?_;obtain⟨q1,q2,⟨u,v,q3⟩,q4,q5⟩:=st;obtain⟨χ,rv,p,hz⟩:=I.tuple hq;obtain⟨its2,rv2,p2,hz2⟩:=I.tuple hq2;have hl:=rv.length;have hl2:=rv2.length;exact Wm (I.ok.hd hc) D q1 q2 q3 q4 q5 (show s.heap.IsTuple a χ.toArray from p) (show s.heap.IsTuple b its2.toArray from p2) (hx.imp (λh=>by simp;lia) λh=>by simp;lia) λh' k=>⟨rfl,Inv.Xx [z,TO,i1,i2] I (λc hc=>hf c<|adn c hc) λc o hc e=>let⟨n1,n2,n3,n4⟩:=adb hc;k c o n1 n2 n3 n4 e⟩
 self:=λ_ _ _ _ _ st h=>wpAny_pyIter_zip st.1 h
section
variable {X:Cx}
def ac8 (K:bP)(ta:TA):TI:=λσ H R=>ta σ H λvs H1=>∃p q,vs=[.ref p,.ref q]/\(∃xs,SqT K H1 p xs)/\(∃xs,SqT K H1 q xs)/\R (Ity K p q) H1
theorem Za {elts:List Expr}{x1}{pt:Pos}{a b:Expr}{ta:TA}{p pos:Pos}(hg:Gl X "zip")(hm:X.mg "zip" = none)(ha:PA X [a,b] ta)(hs:ax [a,b] X.env=[(false,eval a X.env),(false,eval b X.env)]:=by rfl)(hs2:ax [b] X.env=[(false,eval b X.env)]:=by rfl):PI X (.Tuple elts x1 pt) (.Call (.Name "zip" p) [a,b] [] pos) (ac8 X.K ta):=by
 intro π s σ H R I h;refine Call_<|oK I hg hm boot_zip<|dE (thn (ha pos π s σ H _ I h) λus s1 hE=>xq2 hE λvs H1 I1 r1 q1=>?_) (by rw[hs,hs2]) (by rw[hs2];rfl);obtain⟨l,l2,e,⟨xs,hq⟩,⟨ys,hq2⟩,q⟩:=q1;subst e;obtain⟨u,v,rfl,rx,ry⟩:=vals2 r1;cases rx;cases ry;obtain⟨χ,rv,pl,hz⟩:=I1.tuple hq;obtain⟨its2,rv2,pl2,hz2⟩:=I1.tuple hq2;have lt1:l<s1.heap.objs.size:=by obtain⟨o,e,_⟩:=(show s1.heap.IsTuple l χ.toArray from pl);exact aI e
 have lt2:l2<s1.heap.objs.size:=by obtain⟨o,e,_⟩:=(show s1.heap.IsTuple l2 its2.toArray from pl2);exact aI e
 refine Xk (show s1.heap.IsTuple l χ.toArray from pl) (show s1.heap.IsTuple l2 its2.toArray from pl2) λh' e1 e2 e3 e4 e5 sz k=>?_;have I2:Inv X π σ H1 { s1 with heap:=h' }:=I1.kept (t':=s1.toks) k;have D:AZ (s1.heap.objs.size+4) (s1.heap.objs.size+2) (s1.heap.objs.size+3) s1.heap.objs.size (s1.heap.objs.size+1) l l2:=zipApart_new lt1 lt2;refine wpAny_pyIter_zip (s:={ s1 with heap:=h' }) e1 ?_;refine⟨_,[s1.heap.objs.size+4,s1.heap.objs.size+2,s1.heap.objs.size+3,s1.heap.objs.size,s1.heap.objs.size+1],_,_,H1,rfl,I2,Rz _ _ _ _ _ l l2 D,⟨e1,e2,⟨_,_,e3⟩,e4,e5⟩,λb hb=>?_,q⟩;have hb':s1.heap.objs.size<=b:=by
  rcases a8.mp hb with z|hb
  ·rw[z];exact ku _ _
  rcases a8.mp hb with z|hb
  ·rw[z];exact ku _ _
  rcases a8.mp hb with z|hb
  ·rw[z];exact ku _ _
  rcases a8.mp hb with z|hb
  ·rw[z];exact ay _
  ·rw[cb.mp hb];exact ku _ _
 exact I1.KD hb'<|I1.hok.fresh hb'
theorem Yi (h:∀O' H2,P O' H2->∃xs,SqT G.K H2 a xs/\DVs G O' H2 xs ds)(h':∀O' H2,P O' H2->∃xs,SqT G.K H2 b xs/\DVs G O' H2 xs es):zf G (Ity G.K a b) (zr ds es) P:=by
 intro O' H2 ev;obtain⟨xs,hq,hd⟩:=h O' H2 ev;obtain⟨ys,hq2,hd2⟩:=h' O' H2 ev;have l1:=bR hd;have l2:=bR hd2;refine⟨λi hi=>?_,λi x H' hi y=>?_,xs,ys,hq,hq2,by rw[BR];lia⟩
 ·rw[BR] at hi;have i1:i<xs.length:=by lia
  have i2:i<ys.length:=by lia
  exact⟨xs,ys,xs[i],ys[i],hq,hq2,by simp,by simp⟩
 ·obtain⟨y1,y2,l,k1,k2,rfl,fr,rfl⟩:=y;obtain⟨d1,e1,v1⟩:=nu hd<|k1 xs hq;obtain⟨d2,e2,v2⟩:=nu hd2<|k2 ys hq2;exact⟨bL fr _,.tup [d1,d2],Ql e1 e2,.tup (SqU.of aV)<|.cons (v1.mono<|bL fr _)<|.cons (v2.mono<|bL fr _) .nil⟩
def QS (f:Zad):Zad:=λm=>(f m).bind λd=>match d with
 |[.tup ds,.tup es]=>.ok<|zr ds es
 |_=>.stuck
theorem YM (hg:Gl X "zip")(hm:X.mg "zip" = none)(ha:FAE X E [a,b] fs)(hs:ax [a,b] X.env=[(false,eval a X.env),(false,eval b X.env)]:=by rfl)(hs2:ax [b] X.env=[(false,eval b X.env)]:=by rfl):FI X E (.Tuple elts x1 pt) (.Call (.Name "zip" p) [a,b] [] pos) (QS fs):=
 jU (Za hg hm ha hs hs2) λσ H R hE=>xq5 hE λO0 M0 H0 ow m Re q=>⟨O0,M0,H0,ow,m,Re,q.bind.imp (aM.refl _) λds q vs H' g hv=>by
  have z:∃xs ys,ds=[.tup xs,.tup ys]:=by
   cases ds with
   |nil=>exact q.elim
   |cons d ds=>cases d with
    |tup xs=>cases ds with
     |nil=>exact q.elim
     |cons e ds=>cases e with
      |tup ys=>cases ds with
       |nil=>exact⟨xs,ys,rfl⟩
       |cons _ _=>exact q.elim
      |_=>exact q.elim
    |_=>exact q.elim
  obtain⟨ds,es,rfl⟩:=z;cases hv with
  |cons h1 h3=>cases h3 with
  |cons h2 h4=>
   cases h4;cases h1 with
   |tup hl hd=>
    cases h2 with
    |tup hl2 hd2=>exact⟨_,_,rfl,⟨_,hl.sq⟩,⟨_,hl2.sq⟩,q _ H' g<|Yi (λO' H2 ev=>⟨_,MP (Re.mono g).mutk ev.2 hl.sq,hd.go (Re.mono g).mutk ev⟩) λO' H2 ev=>⟨_,MP (Re.mono g).mutk ev.2 hl2.sq,hd2.go (Re.mono g).mutk ev⟩⟩⟩
end
end F
namespace Pk
open PySem L2 Hd F
section
def Bk:Zab:=
 (bM<|BL (vd "int" (aa 0))<|TV<|vd "bool" (aa 0))
def Dc:Zab:=
 Bk
def vO:Zac:=aX 1 1 Dc
def vV (φ_is_whole:Zac)(φ_common_divisor:Zac):Zab:=
 (aK (gIf (jz (gV<|fTv<|vd "tuple" (aa 0))<|aN gNe (aQ dW<|aj (aa 0) aB)<|fC<|.int 2) (bM<|fC<|.bl false) gNx)
 (aK (gIf (jz (gV<|fTv<|fFn φ_is_whole<|aj (az gIx (aa 0)<|fC<|.int 0) aB)<|gV<|fTv<|fFn φ_is_whole<|aj (az gIx (aa 0)<|fC<|.int 1) aB) (bM<|fC<|.bl false) gNx)
 (bM<|BL (oJ gGe (az gIx (aa 0)<|fC<|.int 1)<|fC<|.int 1)<|oJ gEq (fFn φ_common_divisor<|aj (az gIx (aa 0)<|fC<|.int 0)<|aj (az gIx (aa 0)<|fC<|.int 1) aB)<|fC<|.int 1)))
def vL:Zab:=
 (vV vO fY)
def rH:Zac:=aX 1 1 vL
def Ip (φ_lowest:Zac):Zab:=
 (bM<|fFn φ_lowest<|aj (az fB (az gIx (aa 0)<|fC<|.int 0)<|az gIx (aa 1)<|fC<|.int 0)<|aj (az fB (az gIx (aa 0)<|fC<|.int 1)<|az gIx (aa 1)<|fC<|.int 1) aB)
def Hj:Zab:=
 (Ip oA)
def xK:Zac:=aX 2 2 Hj
def iJ:Zae:=
 (BL (fFn rH<|aj (aG 0) aB)<|TV<|fFn Ay<|aj (aG 0)<|aj (fC<|.tup [(.int 0),(.int 1)]) aB)
def iI:Zae:=
 (dX 1 [] (jB<|aG 0) (hName 0) jn iJ)
def jF (φ_total:Zac)(l_2:Zae):Zab:=
 (aK (gIf (jz (gV<|fTv<|vd "tuple" (aa 0))<|aN gNe (aQ dW<|aj (aa 0) aB)<|aa 1) (bM<|fC<|.bl false) gNx)
 (aK (gIf (gV<|fTv<|aQ UG<|aj l_2 aB) (bM<|fC<|.bl false) gNx)
 (bM<|oJ gEq (fFn φ_total<|aj (aQ wQ<|aj (aa 0) aB) aB)<|fC<|.tup [(.int 1),(.int 1)])))
def jO:Zab:=
 (jF Aj iI)
def dH:Zac:=aX 2 2 jO
def je:Zae:=
 (BL (oJ WD (az gIx (aa 0)<|fC<|.int 1)<|aa 1)<|fFn dH<|aj (az cI (aa 1)<|az gIx (aa 0)<|fC<|.int 1)<|aj (aQ dW<|aj (az gIx (aa 0)<|fC<|.int 2) aB) aB)
def mV:Zae:=
 (dX 1 [1] (fL<|aa 0) (hName 0) jn je)
def p6 (l_2:Zae):Zab:=
 (aK (gIf (jz (gV<|fTv<|vd "dict" (aa 1))<|aN gNe (aQ dW<|aj (aa 1) aB)<|aQ dW<|aj (aa 0) aB) (bM<|fC<|.bl false) gNx)
 (bM<|aQ UG<|aj l_2 aB))
def pW:Zab:=
 (p6 mV)
def lQ:Zac:=aX 2 2 pW
def yS (φ_rows_of:Zac)(φ_is_plan_for:Zac):Zab:=
 (bM<|fFn φ_is_plan_for<|aj (fFn φ_rows_of<|aj (aG 0)<|aj (aG 1) aB)<|aj (aG 2) aB)
def yG:Zab:=
 (yS nT lQ)
def uP:Zac:=aX 3 3 yG
def lA (φ_is_plan:Zac):Zab:=
 (gIf (gV<|fTv<|fFn φ_is_plan<|aj (aG 0)<|aj (aG 1)<|aj (aG 2) aB) Wu gNx)
def lB:Zab:=
 (lA uP)
def iu:Zac:=aX 3 3 lB
end
theorem adD (a b c d:Int):gEq (.tup [.int a,.int b]) (.tup [.int c,.int d])=some (decide (a=c)&&decide (b=d)):=by
 have s:∀x y:Int,hU (.tuple [.int x,.int y])=true:=λ_ _=>rfl;simp[gEq,lg,toPy,qW,s,kr,pe];rfl
theorem aaN (x y:Rat):gEq (rD x) (rD y)=some (decide<|x=y):=by
 show gEq (.tup [.int x.num,.int x.den]) (.tup [.int y.num,.int y.den])=_;rw[adD];congr 1;by_cases h:x=y
 ·subst h;simp
 ·rw[decide_eq_false h];cases e:(decide (x.num=y.num)&&decide ((x.den:Int)=y.den)) with
  |false=>rfl
  |true=>
   simp at e;exact absurd (Rat.ext e.1<|by exact_mod_cast e.2) h
theorem Gj {a b:Rat}{k l:Nat}(ha:Sz k a)(hb:Sz l b)(hk:k+l<=8900):xK [rD a,rD b]=.ok (false,rD<|a*b):=by
 have a1:Bq a.num:=jJ<|dh ha.1 (by lia);have a2:Bq (a.den:Int):=jJ<|dh (by simpa using ha.2) (by lia);have b1:Bq b.num:=jJ<|dh hb.1 (by lia);have b2:Bq (b.den:Int):=jJ<|dh (by simpa using hb.2) (by lia);have e:=CG (t:=a.num*b.num) (JL a b)<|jJ<|dh (rO (by simpa using ha.2) (by simpa using hb.2)) (by lia);rw[Vf] at e;simp[xK,aX,Hj,Ip,bM,Me.let,Sl.let,fFn,aj,aB,az,aa,fC,gIx,pG,ix0,ix1,fB,a1,a2,b1,b2];rw[e];simp[pG]
noncomputable def uni (c k:Nat):List Rat:=(cf c).map λj=>if j=k then 1 else 0
noncomputable def nmR:D->Str
 | .tup [_,.str n,_,_]=>n
 |_=>⟨#[]⟩
def cC (Rs:List D)(q:Str->List Rat):D:=.dct (Rs.map λd=>.inr<|nmR d)<|Rs.map λd=>.tup<|(q<|nmR d).map rD
theorem wD (f:Str->D){n:Str}:∀Rs:List D,(∃d∈Rs,nmR d=n)->Ae (Rs.map λd=>.inr<|nmR d) (Rs.map λd=>f<|nmR d) (.inr n)=some (f n)
 |[],⟨_,h,_⟩=>by cases h
 |d::Rs,⟨d',h,e⟩=>by
  show(if(vF (nmR d):Key)=.inr n then some (f<|nmR d) else Ae (Rs.map λd=>.inr<|nmR d) (Rs.map λd=>f<|nmR d) (.inr n))=_;by_cases c:nmR d=n
  ·rw[c,if_pos rfl]
  ·rw[if_neg λz=>c<|Sum.inr.inj z];rcases a8.mp h with z|z
   ·exact absurd (z▸e) c
   ·exact wD f Rs ⟨d',z,e⟩
def okS (S:Nat)(l:List Rat)(c:Nat):Prop:=l.length=c/\(∀x∈l,0<=x.num/\Sz S x)/\l.sum=1/\l.length<=3
theorem Ln:rH [rD x]=.ok (false,.bl true):=by
 have x0:∀a b:D,atI [a,b] 0=some a:=λ_ _=>rfl;have x1:∀a b:D,atI [a,b] 1=some b:=λ_ _=>rfl;have w:∀i:Int,vO [.int i]=.ok (false,.bl true):=λ_=>rfl;have e:=iH x.num x.den;rw[WQ] at e;have g1:=ik x;have l2:dW [.tup [.int x.num,.int x.den]]=some (.int 2):=rfl;have it:vd "tuple" (aa 0) [.fz<|.tup [.int x.num,.int x.den]]=.ok (.bl true):=rfl;rw[pG];simp[rH,aX,vL,vV,aK,gIf,jz,gV,fTv,it,aN,aQ,aj,aB,aa,l2,fC,gNe,gNx,fFn,az,gIx,x0,x1,w,bM,Me.let,Sl.let,BL,oJ,gGe,g1,e]
theorem VM (hS:S<=100){l:List Rat}{c:Nat}(h1:l.length=c)(h2:∀x∈l,0<=x.num/\Sz S x)(h3:l.sum=1)(h4:l.length<=6):dH [.tup<|l.map rD,.int c]=.ok (false,.bl true):=by
 have et:=Rk (k:=S) (λx hx=>(h2 x hx).2) (by have:l.length*(S+1)<=6*101:=Nat.mul_le_mul h4 (by lia);lia) (by lia);rw[h3] at et;have ec:fK (hName 0) jn iJ [.un] (l.map rD)=.ok (l.map λ_=>.bl true):=iz l λx hx=>by
  refine⟨[.fz<|rD x],rfl,rfl,?_⟩;have eu:=RL (h2 x hx).2 Ak (by lia);have e0:rD 0=.tup [.int 0,.int 1]:=rfl;have q:¬(x.num*(0:Rat).den<(0:Rat).num*x.den):=by
   have:=(h2 x hx).1
   show ¬(x.num*1<0*(x.den:Int))
   lia
  rw[e0,decide_eq_false q] at eu;have er:=Ln (x:=x);simp[iJ,BL,TV,fFn,aj,aB,fC,aG,eu,er,fTv]
 have z1:l.length<=16777216:=by lia
 have eq:iI [.fz<|.tup<|l.map rD,.fz<|.int c]=.ok (.lst<|l.map λ_=>.bl true):=by
  simp[iI,dX,jB,aG,cMe,ec,z1]
 have ea:=QL (f:=λ_:Rat=>D.bl true) (l:=l) λ_ _=>rfl;have e1:rD 1=.tup [.int 1,.int 1]:=rfl;have eg:gEq (rD 1) (.tup [.int 1,.int 1])=some true:=by rw[← e1,aaN];simp
 have ln:dW [.tup<|l.map rD]=some (.int c):=by simp[dW,h1]
 have it:vd "tuple" (aa 0) [.fz<|.tup<|l.map rD,.fz<|.int c]=.ok (.bl true):=rfl;have gl:wQ [.tup<|l.map rD]=some (.lst<|l.map rD):=rfl;simp[dH,jO,jF,aX,aK,gIf,jz,gV,fTv,it,aN,aQ,aj,aB,aa,ln,gNe,gNx,eq,ea,bM,Me.let,Sl.let,oJ,fFn,gl,et,fC,eg]
theorem Yw (hS:S<=100){l:List Rat}{c:Nat}(h:okS S l c):dH [.tup<|l.map rD,.int c]=.ok (false,.bl true):=VM hS h.1 h.2.1 h.2.2.1 (by have:=h.2.2.2;lia)
abbrev rowsOf (g:Gm)(s:Int):List D:=(tbl<|prG [] ([],[]) g).2.filter λd=>decide<|sdD d=s
abbrev Tr3:=List Int×Gm×Rc
theorem U7 (h:k∈T.1):k∈(tst T p).1:=by grind[tst]
theorem Et:∀(l:List Tr3) (T:Tb),k∈T.1->k∈(l.foldl tst T).1
 |[],T,h=>h
 |p::l,T,h=>Et l (tst T p)<|U7 h
theorem JR:∀(l:List Tr3) (T:Tb) (p:Tr3),p∈l->p.2.1=.move s n ws->kn s n∈(l.foldl tst T).1
 |[],_,_,h,_=>by cases h
 |p'::l,T,p,h,e=>by
  rcases a8.mp h with z|z
  ·subst z;refine Et l (tst T p) ?_;unfold tst;rw[e];show kn s n∈(if(cA T.1 T.2<|kn s n).isSome=true then T else(T.1++[kn s n],T.2++[gM s n ws p.2.2])).1;by_cases c:(cA T.1 T.2<|kn s n).isSome=true
   ·rw[if_pos c];by_cases m:kn s n∈T.1
    ·exact m
    ·rw[TF m] at c;cases c
   ·rw[if_neg c];exact cp _ ah
  ·exact JR l (tst T p') p z e
theorem aap (h:p∈l)(e:p.2.1=.move s n ws):∃d∈(tbl l).2,∃q∈l,∃ws',q.2.1=.move s n ws'/\d=gM s n ws' q.2.2:=by
 have k:=JR l ([],[]) p h e;have T:=Lw.Ai l ([],[]) ⟨rfl,ny⟩;rw[T.1] at k;obtain⟨d,hd,ek⟩:=aT.mp k;rcases uR l ([],[]) d hd with z|⟨q,hq,s',n',ws',eq,rfl⟩
 ·cases z
 ·obtain⟨e1,e2⟩:=aa9<|show kn s' n'=kn s n from ek;subst e1 e2;exact⟨_,hd,q,hq,ws',eq,rfl⟩
theorem QF (G:Gd g){t:Tr3}(h:t∈prG [] ([],[]) g){s:Int}{n:Str}{ws:Ws}(e:t.2.1=.move s n ws):(s=1\/s=2)/\jA ws<=100:=by
 have:=Ge [] ([],[]) g G.len G.sd t h
 unfold okP at this;rw[e] at this;exact this
end Pk
namespace Lw
open PySem L2 Hd F Pk
section
def uB (φ__law_lowest:Zac):Zab:=
 (bM<|fFn φ__law_lowest<|aj (az bU (az fB (az gIx (aa 0)<|fC<|.int 0)<|az gIx (aa 1)<|fC<|.int 1)<|az fB (az gIx (aa 1)<|fC<|.int 0)<|az gIx (aa 0)<|fC<|.int 1)<|aj (az fB (az gIx (aa 0)<|fC<|.int 1)<|az gIx (aa 1)<|fC<|.int 1) aB)
def uo:Zab:=
 (uB dC)
def pJ:Zac:=aX 2 2 uo
def rE (φ__law_lowest:Zac):Zab:=
 (bM<|fFn φ__law_lowest<|aj (az fB (az gIx (aa 0)<|fC<|.int 0)<|az gIx (aa 1)<|fC<|.int 0)<|aj (az fB (az gIx (aa 0)<|fC<|.int 1)<|az gIx (aa 1)<|fC<|.int 1) aB)
def qY:Zab:=
 (rE dC)
def nM:Zac:=aX 2 2 qY
def gZ:Zab:=
 (aK (cP 2<|az gIx (fU<|aj (az bJ (az du (aa 0)<|fC<|.int 4)<|fC<|.int 4)<|aj (az bJ (az du (aa 0)<|fC<|.int 4)<|fC<|.int 7)<|aj (fC<|.int 0)<|aj (az bJ (az du (aa 0)<|fC<|.int 4)<|fC<|.int 1000) aB)<|az bJ (aa 0)<|fC<|.int 4)
 (bc 0<|az bJ (az fB (aa 0)<|fC<|.int 48271)<|fC<|.int 2147483647))
def nZ:Zab:=
 (dg (pH<|aj (aa 1) aB) (hName 3) gZ)
def oR:Zae:=
 (fFn dC<|aj (aG 0)<|aj (aQ KY<|aj (aa 1) aB) aB)
def ou:Zae:=
 (dX 1 [2] (fL<|aa 2) (hName 0) jn oR)
def nR (l_2:Zab)(l_4:Zae):Zab:=
 (aK (cX 2<|fU aB)
 (aK l_2
 (aK (gIf (aN gEq (aQ KY<|aj (aa 2) aB)<|fC<|.int 0) (mY 2 (az bJ (aa 0)<|aa 1)<|fC<|.int 1) gNx)
 (bM<|aQ gh<|aj l_4 aB))))
def yl:Zab:=
 (nR nZ ou)
def jL:Zac:=aX 4 2 yl
def fj:Zab:=
 (gIf (aN gEq (az gIx (az gIx (aa 0)<|aa 4)<|fC<|.int 0)<|aa 1) (gf 3 (az gIx (az gIx (aa 0)<|aa 4)<|fC<|.int 1)<|fFn jL<|aj (fFn cJ<|aj (aG 2)<|aj (az bU (az fB (fC<|.int 3)<|aa 4)<|fC<|.int 1) aB)<|aj (aQ dW<|aj (az gIx (az gIx (aa 0)<|aa 4)<|fC<|.int 2) aB) aB) gNx)
def pX:Zab:=
 (dg (pH<|aj (aQ dW<|aj (aa 0) aB) aB) (hName 4) fj)
def pA (l_2:Zab):Zab:=
 (aK (cX 3 CQ)
 (aK l_2
 (gU 3)))
def zV:Zab:=
 (pA pX)
def oX:Zac:=aX 5 3 zV
end
noncomputable def qt (x:Int):Int:=if x%4=0 then x/4%4 else if x%4=1 then x/4%7 else if x%4=2 then 0 else x/4%1000
theorem aej (x:Int):0<=qt x/\qt x<=999:=by
 unfold qt;split
 ·lia
 split
 ·lia
 split<;>lia
theorem Zv (h:sm x)(hP:P.length<=100):gZ [.fz<|.int x,s1,.ow<|.lst P,s3]=.ok (.nx,[.fz<|.int<|x*48271%2147483647,s1,.ow<|.lst<|P++[.int<|qt x],s3]):=by
 obtain⟨h0,h1⟩:=h;have b1:Bq x:=bgS (by lia);have b2:Bq 48271:=bgS (by decide);have b3:Bq 4:=bgS (by decide);have z1:P.length<16777216:=by lia
 have e:atI [D.int<|x/4%4,.int<|x/4%7,.int 0,.int<|x/4%1000] (x%4)=some (.int<|qt x):=by
  have h:x%4=0\/x%4=1\/x%4=2\/x%4=3:=by lia
  unfold qt;rcases h with h|h|h|h<;>rw[h]<;>rfl
 simp[gZ,aK,cP,j9,putL,fU,aj,aB,az,gIx,aa,fC,bJ,mdI,fB,du,dvI,b1,b2,b3,e,z1,bc]
theorem QH:∀(c i:Nat) (x:Int) (P:List Int) (s3:Sl),sm x->P.length+c<=100->(∀p∈P,0<=p/\p<=999)->∃(y:Int) (s3':Sl) (Q:List Int),bj (hName 3) gZ ((jI i c).map λ(k:Nat)=>D.int k) [.fz<|.int x,s1,.ow<|.lst<|P.map D.int,s3]=.ok (.nx,[.fz<|.int y,s1,.ow<|.lst<|Q.map D.int,s3'])/\sm y/\Q.length=P.length+c/\∀p∈Q,0<=p/\p<=999
 |0,i,x,P,s3,h,_,hP=>⟨x,s3,P,rfl,h,rfl,hP⟩
 |c+1,i,x,P,s3,h,hl,hP=>by
  have st:=Zv (s1:=s1) (s3:=.fz<|.int i) (P:=P.map D.int) h (by simp;lia);have h':sm (x*48271%2147483647):=⟨by lia,by lia⟩;obtain⟨y,s3',Q,e,hy,hl',hQ⟩:=QH (s1:=s1) c (i+1) (x*48271%2147483647) (P++[qt x]) (.fz<|.int i) h' (by simp;lia) λp hp=>by
   rcases c6.mp hp with z|z
   ·exact hP p z
   ·rw[cb.mp z];exact aej x
  refine⟨y,s3',Q,?_,hy,by rw[hl'];simp;lia,hQ⟩;rw[fA,ar,bG (m1:=[.fz<|.int x,s1,.ow<|.lst<|P.map D.int,.fz<|.int i]) rfl st];rw[bE] at e;exact e
theorem Dn:∀Q:List Int,(∀p∈Q,0<=p/\p<=999)->0<=Q.sum/\Q.sum<=999*Q.length
 |[],_=>by simp
 |p::Q,h=>by
  have:=Dn Q λq hq=>h q<|af _ hq
  have h1:=h p ah;simp only[ka,cw]
  lia
theorem QG:∀Q:List Int,(∀p∈Q,0<=p/\p<=999)->1∈Q->1<=Q.sum
 |[],_,h=>by cases h
 |p::Q,h,m=>by
  have h2:=Dn Q λq hq=>h q<|af _ hq;have h1:=h p ah;rw[ka];rcases a8.mp m with z|z
  ·lia
  ·have:=QG Q (λq hq=>h q<|af _ hq) z
   lia
theorem ab7 {Q:List Int}(hS:0<Q.sum)(hS2:Q.sum<=5994)(z1:Q.length<=1000):ou [u,.fz<|.int c,.fz<|.lst<|Q.map D.int,v]=.ok (.lst<|Q.map λp=>rD<|cq p Q.sum):=by
 have ec:fK (hName 0) jn oR [.un,.fz<|.lst<|Q.map D.int] (Q.map D.int)=.ok (Q.map λp=>rD<|cq p Q.sum):=iz Q λp _=>by
  refine⟨[.fz<|.int p,.fz<|.lst<|Q.map D.int],rfl,rfl,?_⟩;have e:=vI (t:=p) hS<|bgS (by lia);simp[oR,fFn,aj,aB,aG,aQ,aa,Ba,e]
 have z:Q.length<=16777216:=by lia
 simp[ou,dX,fL,aa,cMe,Sl.bor,ec,z]
theorem acB {Q:List Int}(hc:0<c)(hq:Q.length=c)(hl:c<=6):mY 2 (az bJ (aa 0)<|aa 1) (fC<|.int 1) [.fz<|.int y,.fz<|.int (c:Int),.ow<|.lst<|Q.map D.int,s3]=.ok (.nx,[.fz<|.int y,.fz<|.int (c:Int),.ow<|.lst<|(Q.set (y%c).toNat 1).map D.int,s3]):=by
 have h0:0<=y%(c:Int):=lI _ (by lia);have h1:y%(c:Int)<c:=ja _ (by lia);have hn:¬((c:Int)=0):=by lia
 have b:Bq (c:Int):=bgS (by lia);have ix:ixN Q.length (y%(c:Int))=some (y%(c:Int)).toNat:=by
  unfold ixN;rw[if_pos h0,if_pos (by rw[hq];exact h1)]
 have cn:¬(c=0):=by lia
 simp[mY,fC,j9,az,aa,bJ,mdI,hn,cn,hc,b,ix,putL,List.map_set]
theorem Rm {Q Q':List Int}(eL:L [.fz<|.int x,.fz<|.int c,.ow<|.lst [],.un]=.ok (.nx,[.fz<|.int y,.fz<|.int c,.ow<|.lst<|Q.map D.int,s']))
  (e1:gIf (aN gEq (aQ KY<|aj (aa 2) aB)<|fC<|.int 0) (mY 2 (az bJ (aa 0)<|aa 1)<|fC<|.int 1) gNx [.fz<|.int y,.fz<|.int c,.ow<|.lst<|Q.map D.int,s']=.ok (.nx,[.fz<|.int y,.fz<|.int c,.ow<|.lst<|Q'.map D.int,s']))
  (eq:∀u v:Sl,QQ [u,.fz<|.int c,.fz<|.lst<|Q'.map D.int,v]=.ok (.lst r)):aX 4 2 (nR L QQ) [.int x,.int c]=.ok (false,.tup r):=by
 have gt:gh [.lst r]=some (.tup r):=rfl;simp[aX,nR,aK,cX,fU,aB,eL,e1,bM,Me.let,Sl.let,aQ,aj,eq,gt]
def prt (c:Nat)(l:List Rat):Prop:=∃Q:List Int,Q.length=c/\(∀p∈Q,0<=p/\p<=999)/\0<Q.sum/\l=Q.map λp=>cq p Q.sum
theorem ac3 (h:prt c l)(hc:c<=6):l.length=c/\(∀x∈l,0<=x.num/\Sz 13 x)/\l.sum=1:=by
 obtain⟨Q,hl,hQ,hS,rfl⟩:=h;have hb:=(Dn Q hQ).2;refine⟨by simp[hl],λq hq=>?_,by rw[Ht,div_self hS]⟩;obtain⟨p,hp,rfl⟩:=aT.mp hq;have h1:=hQ p hp;refine⟨?_,GZ (by lia) (by show p.natAbs<8192;lia) (by show Q.sum.natAbs<8192;lia)⟩;by_cases z:p=0
 ·subst z;simp
 ·exact Int.le_of_lt<|div_pos (by lia) hS
theorem aby (h:prt c l)(hc:c<=3):okS 20 l c/\∀q∈l,Sz 13 q:=
 let⟨a,b,d⟩:=ac3 h<|by lia
 ⟨⟨a,λx hx=>⟨(b x hx).1,(b x hx).2.mono<|by decide⟩,d,by lia⟩,λq hq=>(b q hq).2⟩
theorem Wa {x:Int}{c:Nat}(h:sm x)(hc:1<=c/\c<=6):∃l:List Rat,jL [.int x,.int (c:Int)]=.ok (false,.tup<|l.map rD)/\prt c l:=by
 obtain⟨y,s',Q,e,hy,hl,hQ⟩:=QH (s1:=.fz<|.int (c:Int)) c 0 x [] .un h (by simp;lia) (λ_ z=>by cases z);have hl:Q.length=c:=by simpa using hl
 have e1:(aj (aa 1) aB) [.fz<|.int x,.fz<|.int (c:Int),.ow<|.lst [],.un]=.ok [.int (c:Int)]:=by simp[aj,aa,aB]
 have e2:=GD e1 (by lia) (by lia);have eL:nZ [.fz<|.int x,.fz<|.int (c:Int),.ow<|.lst [],.un]=.ok (.nx,[.fz<|.int y,.fz<|.int (c:Int),.ow<|.lst<|Q.map D.int,s']):=by
  unfold nZ dg;rw[e2];show bj (hName 3) gZ ((cf c).map λ(k:Nat)=>D.int k) _=_;rw[f6];exact e
 have main:∀Q':List Int,Q'.length=c->(∀p∈Q',0<=p/\p<=999)->0<Q'.sum->gIf (aN gEq (aQ KY<|aj (aa 2) aB)<|fC<|.int 0) (mY 2 (az bJ (aa 0)<|aa 1)<|fC<|.int 1) gNx [.fz<|.int y,.fz<|.int (c:Int),.ow<|.lst<|Q.map D.int,s']=.ok (.nx,[.fz<|.int y,.fz<|.int (c:Int),.ow<|.lst<|Q'.map D.int,s'])->
   ∃l:List Rat,jL [.int x,.int (c:Int)]=.ok (false,.tup<|l.map rD)/\prt c l:=λQ' hl' hQ' hS e3=>by
  have hb:=(Dn Q' hQ').2;refine⟨_,?_,Q',hl',hQ',hS,rfl⟩;rw[fm];exact Rm eL e3 λu v=>ab7 hS (by lia)<|by lia
 by_cases z:Q.sum=0
 ·refine main (Q.set (y%c).toNat 1) (by simp[hl]) (λp hp=>?_) ?_ ?_
  ·rcases tp hp with w|w
   ·exact hQ p w
   ·rw[w];lia
  ·have h1:(y%(c:Int)).toNat<Q.length:=by
    have:=ja y<|show 0<(c:Int) by lia
    have:=lI y<|show(c:Int)≠0 by lia
    lia
   have:=QG (Q.set (y%c).toNat 1) (λp hp=>by
    rcases tp hp with w|w
    ·exact hQ p w
    ·rw[w];lia) (List.mem_set h1 1)
   lia
  ·have:=acB (Q:=Q) (y:=y) (s3:=s') (by lia) hl hc.2
   simp[gIf,aN,aQ,aj,aB,aa,Ba,fC,z,this]
 ·refine main Q hl hQ ?_ ?_
  ·have:=(Dn Q hQ).1
   lia
  ·simp[gIf,aN,aQ,aj,aB,aa,Ba,fC,z,gNx]
theorem Zu (ha:Sz k a)(hb:Sz l b)(hk:k+l<=8900):pJ [rD a,rD b]=.ok (false,rD<|a+b):=by
 have a1:Bq a.num:=jJ<|dh ha.1 (by lia);have a2:Bq (a.den:Int):=jJ<|dh (by simpa using ha.2) (by lia);have b1:Bq b.num:=jJ<|dh hb.1 (by lia);have b2:Bq (b.den:Int):=jJ<|dh (by simpa using hb.2) (by lia);have e:=vI (t:=a.num*b.den+b.num*a.den) (show 0<(a.den:Int)*b.den from BG (by have:=ik a;lia) (by have:=ik b;lia)) (jJ<|dh (rO (by simpa using ha.2) (by simpa using hb.2)) (by lia));rw[VP] at e;simp[pJ,aX,uo,uB,bM,Me.let,Sl.let,fFn,aj,aB,az,aa,fC,gIx,pG,ix0,ix1,fB,bU,a1,a2,b1,b2];rw[e];simp[pG]
theorem Vu (ha:Sz k a)(hb:Sz l b)(hk:k+l<=8900):nM [rD a,rD b]=.ok (false,rD<|a*b):=by
 have a1:Bq a.num:=jJ<|dh ha.1 (by lia);have a2:Bq (a.den:Int):=jJ<|dh (by simpa using ha.2) (by lia);have b1:Bq b.num:=jJ<|dh hb.1 (by lia);have b2:Bq (b.den:Int):=jJ<|dh (by simpa using hb.2) (by lia);have e:=vI (t:=a.num*b.num) (show 0<(a.den:Int)*b.den from BG (by have:=ik a;lia) (by have:=ik b;lia)) (jJ<|dh (rO (by simpa using ha.2) (by simpa using hb.2)) (by lia));rw[Vf] at e;simp[nM,aX,qY,rE,bM,Me.let,Sl.let,fFn,aj,aB,az,aa,fC,gIx,pG,ix0,ix1,fB,a1,a2,b1,b2];rw[e];simp[pG]
theorem Qh {Rs:List D}{q:Str->List Rat}{d:D}{l:List Rat}(h:∀d'∈Rs,nmR d'≠nmR d):
  D.dct (putD (Rs.map λd=>.inr<|nmR d) (Rs.map λd=>.tup<|(q<|nmR d).map rD) (.inr<|nmR d)<|.tup<|l.map rD).1 (putD (Rs.map λd=>.inr<|nmR d) (Rs.map λd=>.tup<|(q<|nmR d).map rD) (.inr<|nmR d)<|.tup<|l.map rD).2=cC (Rs++[d]) λn=>if n=nmR d then l else q n:=by simp_all[if_neg,bE,if_pos,putD,cC]
theorem Gw:gIx (gM s n ws r) (.int 0)=some (.int s)/\gIx (gM s n ws r) (.int 1)=some (.str n)/\gIx (gM s n ws r) (.int 2)=some (.tup<|fJ ws):=⟨rfl,rfl,rfl⟩
theorem abD (hi:Bq (i:Int))(ix:gIx (.lst Rows) (.int i)=some row)(r0:gIx row (.int 0)=some (.int s))(r1:gIx row (.int 1)=some (.str n))(r2:gIx row (.int 2)=some W)(ln:dW [W]=some (.int w))
  (ex:cJ [.int cell,.int<|3*i+1]=.ok (false,.int x)) (el:jL [.int x,.int w]=.ok (false,v)) (hz:ks.length<aw):
  fj [.fz<|.lst Rows,.fz<|.int s,.fz<|.int cell,.ow<|.dct ks ds,.fz<|.int i]=.ok (.nx,[.fz<|.lst Rows,.fz<|.int s,.fz<|.int cell,.ow<|.dct (putD ks ds (.inr n) v).1 (putD ks ds (.inr n) v).2,.fz<|.int i]):=by
 have b3:Bq 3:=bgS (by decide);rw[YQ] at hz;generalize hp:putD ks ds (.inr n) v=p;obtain⟨p1,p2⟩:=p;simp[fj,gIf,aN,az,aa,ix,fC,r0,r1,r2,gf,fFn,aj,aB,aG,fB,bU,b3,hi,ex,aQ,ln,el,z9,uW,hz,Bo,hp]
theorem ZJ (ix:gIx (.lst Rows) (.int i)=some row)(r0:gIx row (.int 0)=some (.int a))(c:¬a=s):
  fj [.fz<|.lst Rows,.fz<|.int s,S2,S3,.fz<|.int i]=.ok (.nx,[.fz<|.lst Rows,.fz<|.int s,S2,S3,.fz<|.int i]):=by
 simp[fj,gIf,aN,az,aa,ix,fC,r0,c,gNx]
def itl (it:Nat->D->D):Nat->List D->List D
 |_,[]=>[]
 |k,d::r=>it k d::itl it (k+1) r
theorem Gq:∀(r:List D) (k:Nat),itl (λk _=>.int k) k r=(jI k r.length).map λ(k:Nat)=>D.int k
 |[],_=>rfl
 |d::r,k=>by rw[itl,Gq r,cw,fA,ar]
theorem xU {X:Type}{h:Zba}{B:Zab}{it:Nat->D->D}{mk:D->X->Me}{s:Int}{Rows:List D}{P:D->List Rat->Prop}
  (step:∀(k:Nat) (d:D) (x:X) (ks:List Key) (ds:List D),Rows[k]? = some d->ks.length<=1000->∃m1,h (it k d) (mk (.dct ks ds) x)=some m1/\(sdD d≠s->∃x',B m1=.ok (.nx,mk (.dct ks ds) x'))/\
   (sdD d=s->∃x' l,P d l/\B m1=.ok (.nx,mk (.dct (putD ks ds (.inr<|nmR d)<|.tup<|l.map rD).1 (putD ks ds (.inr<|nmR d)<|.tup<|l.map rD).2) x'))) (hl:Rows.length<=300):
  ∀(rest pre done:List D) (q:Str->List Rat) (x:X),Rows=pre++rest->done.length<=pre.length->((done++rest.filter λd=>decide<|sdD d=s).map nmR).Nodup->(∀d∈done,P d<|q<|nmR d)->
  ∃q' x',bj h B (itl it pre.length rest) (mk (cC done q) x)=.ok (.nx,mk (cC (done++rest.filter λd=>decide<|sdD d=s) q') x')/\∀d∈done++rest.filter (λd=>decide<|sdD d=s),P d<|q'<|nmR d
 |[],pre,done,q,x,_,_,_,ho=>⟨q,x,by simp[itl,bj],by simpa using ho⟩
 |d::rest,pre,done,q,x,e,hd,nd,ho=>by
  have hi:Rows[pre.length]? = some d:=by rw[e];simp
  have lp:pre.length<Rows.length:=by rw[e];simp
  have e':Rows=(pre++[d])++rest:=by rw[e];simp
  obtain⟨m1,h1,h2,h3⟩:=step pre.length d x _ (done.map λd=>D.tup<|(q<|nmR d).map rD) hi (show(done.map λd=>(vF (nmR d):Key)).length<=1000 by rw[bp];lia);by_cases c:sdD d=s
  ·obtain⟨x',l,hp,eb⟩:=h3 c;have hn:∀d'∈done,nmR d'≠nmR d:=λd' hd' z=>by
    rw[mh,if_pos<|decide_eq_true c,bE,hV] at nd;exact nd.2.2 (nmR d') (aT.mpr ⟨d',hd',rfl⟩) (nmR d) (by rw[ar];exact ah) z
   rw[Qh hn] at eb;have st2:(done++[d])++rest.filter (λd=>decide<|sdD d=s)=done++(d::rest).filter (λd=>decide<|sdD d=s):=by
    rw[mh,if_pos<|decide_eq_true c];simp
   obtain⟨q2,x2,e2,h5⟩:=xU step hl rest (pre++[d]) (done++[d]) (λn=>if n=nmR d then l else q n) x' e' (by simp;lia) (by rw[st2];exact nd) (λd' hd'=>by
    rcases c6.mp hd' with z|z
    ·show P d' (if nmR d'=nmR d then l else q (nmR d'));rw[if_neg<|hn d' z];exact ho d' z
    ·rw[cb.mp z];show P d (if nmR d=nmR d then l else q (nmR d));rw[if_pos rfl];exact hp)
   refine⟨q2,x2,?_,by rw[← st2];exact h5⟩;rw[bg,eD] at e2;rw[← st2];exact(bG h1 eb).trans e2
  ·obtain⟨x',eb⟩:=h2 c;have st2:done++rest.filter (λd=>decide<|sdD d=s)=done++(d::rest).filter (λd=>decide<|sdD d=s):=by
    rw[mh,if_neg<|by simpa using c]
   obtain⟨q2,x2,e2,h5⟩:=xU step hl rest (pre++[d]) done q x' e' (by simp;lia) (by rw[st2];exact nd) ho;refine⟨q2,x2,?_,by rw[← st2];exact h5⟩;rw[bg,eD] at e2;rw[← st2];exact(bG h1 eb).trans e2
theorem WR (eL:L [.fz a,.fz b,.fz c,.ow<|.dct [] [],.un]=.ok (.nx,[.fz a,.fz b,.fz c,.ow r,s4])):aX 5 3 (pA L) [a,b,c]=.ok (true,r):=by
 simp[pA,aX,aK,cX,CQ,eL,gU]
theorem Uh:(aj (aQ dW<|aj (aa 0) aB) aB) [.fz<|.lst Rows,S1,S2,S3,S4]=.ok [.int (Rows.length:Int)]:=by rfl
theorem N7 {Rows:List D}{s cell:Int}(hl:Rows.length<=300)(hr:∀d∈Rows,xx d/\1<=wdD d/\wdD d<=3)(nd:((Rows.filter λd=>decide<|sdD d=s).map nmR).Nodup):
  ∃q,oX [.lst Rows,.int s,.int cell]=.ok (true,cC (Rows.filter λd=>decide<|sdD d=s) q)/\∀d∈Rows.filter (λd=>decide<|sdD d=s),okS 20 (q<|nmR d) (wdD d)/\∀x∈q (nmR d),Sz 13 x:=by
 obtain⟨q,s4',e,h⟩:=xU (X:=Sl) (h:=hName 4) (B:=fj) (it:=λk _=>.int k) (mk:=λr s4=>[.fz<|.lst Rows,.fz<|.int s,.fz<|.int cell,.ow r,s4]) (s:=s) (P:=λd l=>okS 20 l (wdD d)/\∀x∈l,Sz 13 x) (Rows:=Rows) (λk d x ks ds hk hz=>by
  obtain⟨⟨a,n,ws,r,rfl⟩,hw⟩:=hr d<|nh hk;have hk':k<Rows.length:=by
   rcases mI k Rows.length with z|z
   ·exact z
   ·rw[i7 z] at hk;cases hk
  have ix:gIx (.lst Rows) (.int k)=some (gM a n ws r):=lL hk;obtain⟨r0,r1,r2⟩:=Gw (s:=a) (n:=n) (ws:=ws) (r:=r);refine⟨_,rfl,λc=>⟨.fz<|.int k,ZJ ix r0 c⟩,λc=>?_⟩;have c':a=s:=c;subst c';obtain⟨x,ex,hx⟩:=Bw cell (3*k+1) (by lia);obtain⟨l,el,hp⟩:=Wa (c:=wdD<|gM a n ws r) hx ⟨hw.1,by lia⟩;exact⟨.fz<|.int k,l,aby hp hw.2,abD (bgS<|by lia) ix r0 r1 r2 rfl ex el<|pj hz<|by decide⟩) hl Rows [] [] (λ_=>[]) .un rfl (by simp) (by simpa using nd) (λ_ z=>by cases z)
 refine⟨q,?_,by simpa using h⟩;rw[kS,Gq] at e;have e2:=GD (Uh (Rows:=Rows) (S1:=.fz<|.int s) (S2:=.fz<|.int cell) (S3:=.ow<|.dct [] []) (S4:=.un)) (by lia) (by lia);have eL:pX [.fz<|.lst Rows,.fz<|.int s,.fz<|.int cell,.ow<|.dct [] [],.un]=.ok (.nx,[.fz<|.lst Rows,.fz<|.int s,.fz<|.int cell,.ow<|cC (Rows.filter λd=>decide<|sdD d=s) q,s4']):=by
  unfold pX dg;rw[e2];show bj (hName 4) fj ((cf Rows.length).map λ(k:Nat)=>D.int k) _=_;rw[f6];exact e
 exact WR eL
end Lw
namespace F
open PySem PySem.Spec PyProof.Rows L2 Hd
section
end
section
end
section
variable {A:Type}{p:List A->Prop}
theorem xb1 (h:∀a,p [a])(us:List A)(e:us.length=1):p us:=by
 cases us with
 |nil=>cases e
 |cons a t=>cases t with
  |nil=>exact h a
  |cons _ _=>cases e
theorem xb0 (h:∀a t,t.length=n->p (a::t))(us:List A)(e:us.length=n+1):p us:=by
 cases us with
 |nil=>cases e
 |cons a t=>exact h a t (Nat.succ.inj e)
theorem xb2 (h:∀a b,p [a,b]):∀us:List A,us.length=2->p us:=xb0 λa=>xb1 (p:=λt=>p (a::t))<|h a
theorem xb3 (h:∀a b c,p [a,b,c]):∀us:List A,us.length=3->p us:=xb0 λa=>xb2 (p:=λt=>p (a::t))<|h a
theorem xb4 (h:∀a b c d,p [a,b,c,d]):∀us:List A,us.length=4->p us:=xb0 λa=>xb3 (p:=λt=>p (a::t))<|h a
theorem xb5 (h:∀a b c d f,p [a,b,c,d,f]):∀us:List A,us.length=5->p us:=xb0 λa=>xb4 (p:=λt=>p (a::t))<|h a
end
structure QD (K:bP)(x:Str)(st:Stmt):Prop where
 ex:∃f fd,Fun K x x st f fd/\W.nsIn K gu x=some (some (.ref f))
section
variable {P:cy}{w:fI}{K:bP}{mg:Zp}{base h:Heap}{x q c:Str}{st:Stmt}{ps:List Str}{C f:Addr}{oc:aS}{od an:Option Addr}{osl:Array (Option aS)}{kV doc pm cdv ct:aS}{k:Nat}{sp:Sp}
theorem qd (a:W.nsIn K gu x=some (some<|.ref f))(l:K.lookup f=some ⟨oc,od,.func<|AQ x x (oZ st) (jZ st) (aL st) .none kV doc pm an cdv ct,osl⟩)(c:W.codeIn K cdv x=true)(k:Bz K (.ref f)=true):QD K x st:=⟨f,_,ace l c k,a⟩
theorem QD.df (Q:QD K x st)(X:K.In h)(G:h.Ns gu mg)(hb:∀(kV doc pm:aS) (an:Option Addr) (cdv ct:aS) (us:List aS),us.length=ps.length->bindArgs (AQ x x (oZ st) (jZ st) (aL st) .none kV doc pm an cdv ct) ⟨us,[]⟩=pure (ps.zip us)):Df K mg x st ps:=by
 obtain⟨f,fd,F,a⟩:=Q.ex;exact⟨f,fd,F,F.binds hb,W.mg_of X G a⟩
end
section
variable {X:Cx}{E:XK}{e a b tg iter:Expr}{body:List Stmt}{f fa fb:Zae}{fi:Zad}{g:Zab}{h:Zba}{pos pos':Pos}{i:Nat}{x:Str}
theorem aJ (ha:FB X E a fa)(hb:FB X E b fb)(hs:GJ b:=by exact λ_ _=>rfl):FE X E (.Subscript a b pos) (az gIx fa fb):=ael afb ha hb hs
theorem bZ (hN:X.N.Nodup)(he:FE X E e f)(hi:X.N[i]? = some x:=by rfl)(hx:Loc X.env.scope x:=by first|exact .inl rfl|exact .inr rfl)(hs:gN e (some<|.Name x pos') pos.line X.env=pure false:=by rfl)
  (hf:X.fn x=true\/X.env.scope.names.lookup x=some .local:=by first|exact .inl rfl|exact .inr rfl|assumption):FS X E (.Assign [.Name x pos'] e pos) (bc i f):=abn hN hi hx he hs hf
theorem gY (hN:X.N.Nodup)(he:FN X E e f)(hi:X.N[i]? = some x:=by rfl)(hx:Loc X.env.scope x:=by first|exact .inl rfl|exact .inr rfl)(hs:gN e (some<|.Name x pos') pos.line X.env=pure false:=by rfl)
  (hf:X.fn x=true\/X.env.scope.names.lookup x=some .local:=by first|exact .inl rfl|exact .inr rfl|assumption):FS X E (.Assign [.Name x pos'] e pos) (cX i f):=Wq hN hi hx he hs hf
theorem bN {k:Nat}(hN:X.N.Nodup)(hi:X.N[i]? = some x:=by rfl)(hx:Loc X.env.scope x:=by first|exact .inl rfl|exact .inr rfl)(hk:i<k:=by decide)
  (hf:X.fn x=true\/X.env.scope.names.lookup x=some .local:=by first|exact .inl rfl|exact .inr rfl|assumption):FG X k (.Name x pos) (hName i):=ZD hN hi hx hk hf
theorem fO (hi:FI X E tg iter fi)(hg:FG X 1000 tg h)(hb:FSs X E body g)(hp:tz (dr X.prog X.w) X.A X.env X.xe:=by exact lP)(hc:X.calm=true:=by rfl)
  (hs:∀x,gy iter X.env x=pure x:=by intro _;rfl):FS X E (.For tg iter body [] pos) (dg fi h g):=acp hp hc hi hg hb hs
end
theorem nds {N:List Str}(h:decide N.Nodup=true):N.Nodup:=of_decide_eq_true h
abbrev NO (K:bP)(x:Str):Prop:=W.nsIn K gu x=some none
structure Cb (K:bP)(mg:Zp)(base:Heap):Prop where
 X:K.In base
 N:base.Ns gu mg
structure Ck (K:bP)(x:Str)(i j:Int):Prop where
 ex:∃C nn sl t u,W.nsIn K gu x=some (some (.ref C))/\K.lookup C=some ⟨.type "tuple",none,.seq #[.int i t,.int j u] nn,sl⟩
section
variable {P:cy}{w:fI}{K:bP}{mg:Zp}{base:Heap}{x:Str}{st:Stmt}{N ps:List Str}{k:Nat}{g:Zab}{i j:Int}
theorem ck {C:Addr}{nn:Nat}{sl:Array (Option aS)}{t u:Tok}(a:W.nsIn K gu x=some (some<|.ref C))(b:K.lookup C=some ⟨.type "tuple",none,.seq #[.int i t,.int j u] nn,sl⟩):Ck K x i j:=⟨_,_,_,_,_,a,b⟩
theorem Cb.no (C:Cb K mg base)(h:NO K x):mg x=none:=W.mg_none_of C.X C.N h
theorem Cb.cn {X:Cx}{E:XK}{pos:Pos}(B:Cb X.K X.mg X.base)(c:Ck X.K x i j)(hg:Gl X x:=by rfl)(hd:(x==("__debug__":Str))=false:=by decide):FE X E (.Name x pos) (fC<|.tup [.int i,.int j]):=by
 obtain⟨C,_,_,t,u,a,b⟩:=c.ex;exact XH hg (W.mg_of B.X B.N a) (v:=.ref C) rfl (λ_ _=>.tup (xs:=[.int i,.int j]) (.inr ⟨_,_,_,b,rfl,⟨rfl,rfl⟩,(show 2<=aw by decide),(.cons ⟨t,rfl⟩<|.cons ⟨u,rfl⟩ .nil)⟩) (.cons (.int i)<|.cons (.int j) .nil)) hd
abbrev Bds (x:Str)(st:Stmt)(ps:List Str):Prop:=∀(kV doc pm:aS) (an:Option Addr) (cdv ct:aS) (us:List aS),us.length=ps.length->bindArgs (AQ x x (oZ st) (jZ st) (aL st) .none kV doc pm an cdv ct) ⟨us,[]⟩=pure (ps.zip us)
theorem QD.ff {sp:Sp}(Q:QD K x st)(C:Cb K mg base)(hk:∀f fd,Fun K x x st f fd->qL P w K mg base (CX1 P w) k f fd ps sp)
  (hb:Bds x st ps:=by first|exact λ_ _ _ _ _ _=>xb1 λ_=>rfl|exact λ_ _ _ _ _ _=>xb2 λ_ _=>rfl|exact λ_ _ _ _ _ _=>xb3 λ_ _ _=>rfl|exact λ_ _ _ _ _ _=>xb4 λ_ _ _ _=>rfl|exact λ_ _ _ _ _ _=>xb5 λ_ _ _ _ _=>rfl|exact λ_ _ _ _ _ _=>xb6 λ_ _ _ _ _ _=>rfl):Hd.Fn P w K mg base k x ps sp:=(Q.df C.X C.N hb).fn hk
end
section
end
section
end
end F
namespace Pk
open PySem L2 Hd F
section
def eF:Zab:=
 (qN 2 (aY<|aj (az gIx (aa 3)<|fC<|.int 1)<|aj (aG 4) aB)<|aG 5)
def nW:Zab:=
 (dg (QS<|aj (az gIx (aa 3)<|fC<|.int 2)<|aj (az cI (aa 1)<|az gIx (aa 3)<|fC<|.int 1) aB) (iW 2<|bC (hName 4)<|bC (hName 5) iM) eF)
def gn:Zab:=
 nW
def jq:Zab:=
 (dg (fL<|aG 0) (hName 3) gn)
def lD (l_4:Zab):Zab:=
 (aK (cX 2 sW)
 (aK l_4
 (gU 2)))
def kZ:Zab:=
 (lD jq)
def iB:Zac:=aX 6 2 kZ
def jh:Zab:=
 (bc 5<|fFn xK<|aj (aG 5)<|aj (az jV (aa 2)<|aa 6) aB)
def mU:Zab:=
 (dg (jB<|az gIx (aa 4)<|fC<|.int 3) (hName 6) jh)
def ji:Zab:=
 (qN 3 (aY<|aj (az gIx (aa 4)<|fC<|.int 1)<|aj (aG 7) aB)<|fFn xK<|aj (aG 5)<|aj (az jV (aa 2)<|aY<|aj (az gIx (aa 4)<|fC<|.int 1)<|aj (aG 7) aB) aB)
def mR:Zab:=
 (dg (jB<|az gIx (aa 4)<|fC<|.int 2) (hName 7) ji)
def iZ:Zab:=
 (aK (bc 5<|fC<|.tup [(.int 1),(.int 1)])
 (aK mU
 mR))
def mJ:Zab:=
 (dg (fL<|aG 0) (hName 4) iZ)
def qj (φ_shares_by_pair:Zac)(l_6:Zab):Zab:=
 (aK (bc 2<|fFn φ_shares_by_pair<|aj (aG 0)<|aj (aG 1) aB)
 (aK (cX 3 sW)
 (aK l_6
 (gU 3))))
def pU:Zab:=
 (qj iB mJ)
def lR:Zac:=aX 8 2 pU
end
end Pk
namespace F
open PySem PySem.Spec PyProof.Rows L2 Hd
section
variable {X:Cx}{tg:Expr}
end
section
variable {X:Cx}
end
section
variable {X:Cx}{E:XK}{a:Expr}{fa:Zae}{y:Str}{pos p py:Pos}
end
end F
namespace Hd
open PySem PySem.Spec PyProof.Rows L2
section
variable {X:Cx}{i j k:Nat}{x:Str}{ps:List Str}{sp:Sp}{p pos:Pos}{e:Expr}{es:List Expr}{t:TA}{f:Addr}{fd:kA}
end
end Hd
namespace F
open PySem PySem.Spec PyProof.Rows L2 Hd
section
variable {X:Cx}{E:XK}{i j k l:Nat}{x y z:Str}{ps qs:List Str}{p pos η:Pos}{e:Expr}{es:List Expr}{fs:Zad}{Φ Ψ:Zac}{a b:Addr}
end
theorem DY {P:cy}{w:fI}{KT:Type}[DecidableEq KT]{knd:KeyKind P w KT}:∀{es:List si} {ι:List (KT×aS)},Pairs knd es ι->es.map (·.val)=ι.map (·.2)
 |_,_,.nil=>rfl
 |_,_,.cons _ e t=>by rw[ar,ar,e,DY t]
theorem afq {X:Cx}{π:Zl}{σ:L2.St}{H:Hp}{s:bq}{a:Addr}{o:Obj}{ι:List (Key×V)}(I:Inv X π σ H s)(e:H a=some (.frz o<|.dK ι)):
  (a==eI)=false/\∃es ep,s.heap.get? a=some o/\o.ExactDict/\o.data=.dict es ep/\Vals (ι.map (·.2)) (es.toList.map (·.val)):=by
 obtain⟨ho,hz,hd,vs,kv,o',es,ep,h1,h2,h3,_,h5,h6⟩:=I.hok a _ e;cases ho.symm.trans h1;refine⟨hd,es,ep,ho,h2,h3,?_⟩;rw[DY h5];clear h6 h5 h3 e hz;induction kv with
 |nil=>exact .nil
 |cons h _ ih=>exact .cons h.2 ih
def ItV (d:Addr)(o:Obj)(u:HO)(vals:List V):It:=⟨λi H=>H d=some (.frz o u)/\i<vals.length,λi H x H'=>vals[i]? = some x/\H'=H,λi H=>H d=some (.frz o u)/\i=vals.length⟩
theorem Sh {P:cy}{w:fI}{K:bP}{tg:Expr}(it d:Addr)(o:Obj)(u:HO)(es:Array si)(ep:Nat)(vals:List V)(hx:o.ExactDict)(ht:o.data=.dict es ep)(hw:Vals vals (es.toList.map (·.val))):
  Turn P w K tg (ItV d o u vals) [it] it (λi h=>h.IsValIter it d i es.size ep) where
 mem:=by simp
 obj:=λi h st b hb=>by
  cases cb.mp hb;obtain⟨o',e,_,c⟩:=st;exact⟨o',e,λv z=>by rw[c] at z;cases z⟩
 keep:=λi h h' st k=>by
  obtain⟨o',e,r⟩:=st;exact⟨o',k it (by simp) _ e,r⟩
 item:=by
  intro X hP hw' hK hc i π s σ H E I hf st hg;subst hP hw' hK;obtain⟨f0,f1,f2,f3,f4,f5⟩:=hf it (by simp);obtain⟨hd,hl⟩:=hg;obtain⟨ho,_⟩:=I.hok d _ hd;have ν:vals.length=es.size:=by have:=hw.length;simpa using this
  have lt:i<es.size:=by omega
  obtain⟨z,z1,z2⟩:=Oz (i:=i) (u:=es[i].val) hw (by simp[lt]);refine aaw st ⟨o,ho,hx,ht⟩ lt λh' st' sb=>?_;have I1:Inv X π σ H { s with heap:=h' }:=I.turned (t':=s.toks) (λb o hb e=>(sb.2 b hb).trans e) f0 f1 f3 f4 f5;obtain⟨o',e',c',d'⟩:=id st';exact⟨es[i].val,rfl,Gp (s:={ s with heap:=h' }) e' c' d' (by decide) ⟨z,H,I1,z2,⟨z1,rfl⟩,st',λb hb=>(hf b hb).1⟩⟩
 done:=by
  intro X hP hw' hK hc i π s σ H E I hf st hg;subst hP hw' hK;obtain⟨f0,f1,f2,f3,f4,f5⟩:=hf it (by simp);obtain⟨hd,hl⟩:=hg;obtain⟨ho,_⟩:=I.hok d _ hd;have ν:vals.length=es.size:=by have:=hw.length;simpa using this
  have ei:i=es.size:=by omega
  subst ei;exact Ey (I.ok.hd hc) st ⟨o,ho,hx,ht⟩ λh' kk=>⟨rfl,I.turned (t':=s.toks) (λb q hb e=>kk b q hb e) f0 f1 f3 f4 f5⟩
 self:=λA i s Q E st h=>wpAny_pyIter_valiter st h
section
variable {X:Cx}{tg:Expr}
end
section
variable {G:Gx}{O:Zaa}{H H':Hp}{a:Addr}{ι:List (Key×V)}
end
section
variable {X:Cx}{π:Zl}{s:bq}{σ:L2.St}{H:Hp}{a:Addr}{ι:List (Key×V)}{o:Obj}
theorem Ua (I:Inv X π σ H s)(e:H a=some (.dK ι)):∃o,Inv X π σ (L2.upd H a<|.frz o<|.dK ι) s:=by
 have ok:=I.hok a _ e;obtain⟨z,y,xs,r,o,es,ep,h1,rest⟩:=id ok;refine⟨o,I.write (x:=a) (e:=a) (t':=s.toks) (h':=s.heap) (by rw[e];exact hJ) (.inl rfl) (λb u _ q=>q) ⟨o,h1⟩ ⟨h1,?_⟩⟩;refine ok.stay (λ_ _ _ q=>q) (λb q=>?_) λb ys q=>?_
 ·rw[bu<|Dp q e λz=>nomatch z];exact q
 ·rw[bu<|Dp q e λz=>nomatch z];exact q
end
section
variable {G:Gx}{E:XK}{O0 M0:Zaa}{H0 H:Hp}{ow:Os}{a:Addr}{o:Obj}{ι:List (Key×V)}{W:Ends}
end
theorem RN {k:Key}{u:aS}(h:wH k u=true):RelV (kV k) u:=by
 rcases bW h with⟨i,t,rfl,rfl⟩|⟨x,t,rfl,rfl⟩
 ·exact⟨t,rfl⟩
 ·exact⟨t,rfl⟩
section
variable {prog:cy}{w:fI}{κ:Type}[DecidableEq κ]{kn:HeapKind prog w κ}{A:iN}{E:Zs}{s:bq}
inductive tH (A:iN)(s:bq)(xb:List (κ×Addr×aS)):List (κ×Addr×aS)->Bool->Prop
 |nil:tH A s xb [] true
 |miss {x:κ×Addr×aS} {r:List (κ×Addr×aS)}:ui xb x.1=none->tH A s xb (x::r) false
 |hit {x:κ×Addr×aS} {y:Addr×aS} {r:List (κ×Addr×aS)} {e b:Bool}:ui xb x.1=some y->A1 A s x.2.2 y.2 e->tH A s xb r b->tH A s xb (x::r) (e&&b)
theorem tH.inv {xb:List (κ×Addr×aS)}{x:κ×Addr×aS}{r:List (κ×Addr×aS)}{b:Bool}(h:tH A s xb (x::r) b):
  (ui xb x.1=none/\b=false)\/∃y e b',ui xb x.1=some y/\A1 A s x.2.2 y.2 e/\tH A s xb r b'/\b=(e&&b'):=by
 cases h with
 |miss hn=>exact .inl ⟨hn,rfl⟩
 |hit hy he hr=>exact .inr ⟨_,_,_,hy,he,hr,rfl⟩
theorem Cm {nm:String}{a b:Addr}{xa xb:List (κ×Addr×aS)}{r:Bool}{Q:Bool->bq->Prop}(hu:kn.room A)(ha:(a==eI)=false)(hb:(b==eI)=false)
  (da:s.heap.DictOfH kn a xa) (db:s.heap.DictOfH kn b xb) (hits:xa.length=xb.length->tH A s xb xa r) (h:Q (xa.length==xb.length&&r) s):
  bt (dr prog w) A (xE nm a b) Q E s:=by
 obtain⟨oa,es,ep,hoa,_,hda,hea,hia,hna⟩:=da;obtain⟨ob,es',ep',hob,_,hdb,heb,hib,hnb⟩:=db;have hla:xa.length=es.size:=by rw[← l5,hea,bp]
 have hlb:xb.length=es'.size:=by rw[← l5,heb,bp]
 rw[hla,hlb] at h;unfold xE kC;rw[if_neg (show ¬(a==eI)=true by rw[ha];exact be),if_neg (show ¬(b==eI)=true by rw[hb];exact be)];refine ae<|ag<|ae<|ag ?_;refine ae<|fq hoa hda ?_;dsimp only;refine ae<|fq hob hdb ?_;by_cases hsz:es.size=es'.size
 case neg=>
  rw[if_pos<|by simpa using hsz];have hbf:(es.size==es'.size)=false:=by simpa using hsz
  rw[hbf,zC] at h;exact ae<|pV<|ag h
 case pos=>
  have h':Q r s:=by simpa[hsz] using h
  have hits':=hits (by rw[hla,hlb];exact hsz);rw[if_neg (by rw[hsz];simp)];refine ae<|kd hoa hda ?_;refine ae ?_;rw[mS];simp only[zd,Nat.sub_zero,Nat.add_sub_cancel,Nat.div_one];refine qA _
   (λrest q s'=>s'=s/\q=(none,())/\∃i,rest=jI i (es.size-i)/\i<=es.size/\tH A s xb (xa.drop i) r)
   _ ?_ ?_ _ _ ⟨rfl,rfl,0,by simp,eT _,hits'⟩
  ·rintro x rest q s' ⟨rfl,rfl,i,hr,hi,hpre⟩;have hlt:i<es.size:=by
    rcases mI i es.size with h|h
    ·exact h
    ·rw[Nat.sub_eq_zero_of_le h] at hr;simp at hr
   obtain⟨rfl,hrest⟩:x=i/\rest=jI (i+1) (es.size-(i+1)):=by
    have e:es.size-i=(es.size-(i+1))+1:=by omega
    rw[e,fA] at hr;injection hr with h1 h2
    exact⟨h1,h2⟩
   have hlt':x<xa.length:=by rw[hla];exact hlt
   have hdrop:xa.drop x=xa[x]::xa.drop (x+1):=kL hlt';refine ae<|fq hoa hda ?_;rw[entry_at hea x,av hlt'];generalize hp:xa[x]=p at *;have hkey:kn.is s'.heap p.1 p.2.1:=hia p<|hp▸rf hlt';rw[hdrop] at hpre;show bt _ _ (r9 [cx p.2.1,p.2.2] _ >>= _) _ _ _;refine ae<|ic<|ae<|wpAny_dictFind_heap (knd:=kn) hu hkey hob hdb heb hib hnb (λhno=>?_) λj y hj=>?_
   ·have hn:ui xb p.1=none:=atKey_none_of_get hno;rcases hpre.inv with⟨_,er⟩|⟨y,_,_,hy,_⟩
    ·rw[er] at h';refine ag ?_;show bt _ _ (if(!false)=true then _ else _) _ _ _;rw[if_pos<|by decide];exact ag<|ag h'
    ·rw[hn] at hy;exact nomatch hy
   ·have hv':ui xb p.1=some y:=atKey_of_get hnb hj;refine ae<|fq hob hdb ?_;rw[entry_at heb j,hj];rcases hpre.inv with⟨hn,_⟩|⟨y',e,b',hy,he,hrr,er⟩
    ·rw[hv'] at hn;exact nomatch hn
    ·have ey:y=y':=cE<|hv'.symm.trans hy;rw[← ey] at he;refine ic<|he prog w _ _ ?_;cases e with
     |false=>
      rw[er,zC] at h';show bt _ _ (if(!false)=true then _ else _) _ _ _;rw[if_pos<|by decide];exact ag<|ag h'
     |true=>
      rw[Bool.true_and] at er;rw[← er] at hrr;show bt _ _ (if(!true)=true then _ else _) _ _ _;rw[if_neg<|by decide];refine ae<|kd hoa hda ?_;rw[if_neg<|by simp];exact ag ⟨rfl,rfl,x+1,hrest,hlt,hrr⟩
  ·rintro q s' ⟨rfl,rfl,i,hr,hi,hpre⟩;have hin:i=es.size:=by
    rcases mI i es.size with h|h
    ·have e:es.size-i=(es.size-(i+1))+1:=by omega
     rw[e,fA] at hr;exact nomatch hr
    ·exact Nat.le_antisymm hi h
   refine ag ?_;rw[hin,← hla,qE] at hpre;cases hpre;exact h'
theorem Yx {a b:Addr}{xa xb:List (κ×Addr×aS)}{r:Bool}{Q:Zs}(hk:kn.room A.in1)(ha:(a==eI)=false)(hb:(b==eI)=false)
  (da:s.heap.DictOfH kn a xa) (db:s.heap.DictOfH kn b xb) (hu:A.units<mm) (hits:xa.length=xb.length->tH A.in1 s xb xa r) (h:Q (.bool<|xa.length==xb.length&&r) s):
  bt (dr prog w) A (fx .Eq (.ref a)<|.ref b) Q E s:=by
 refine sC (op:=.Eq) da.typeIs db.typeIs zv (c8 zv da.typeIs PySem.F.entry_dict_eq ?_<|PySem.F.args_dict_eq_2 _ _) hu;show bt _ _ (kP "__eq__" ⟨[.ref a,.ref b],[]⟩ >>= _) _ _ s;refine ae ?_;unfold kP;refine ae<|i8 da.typeIs ?_;show bt _ _ (pure (cx a,cx b)) _ _ s;refine ag ?_;refine ae<|kl (T:="dict") db.typeIs ze ?_;simp only[vT,f7,if_false];refine ae<|ag<|ae<|ag ?_;refine ae<|Cm hk ha hb da db hits ?_;refine ag ⟨_,rfl,?_,?_⟩
 ·exact λx=>nomatch x
 ·simpa using h
theorem aaa {a b:Addr}{xa xb:List (κ×Addr×aS)}{r:Bool}{Q:Zs}(hk:kn.room A.in1)(ha:(a==eI)=false)(hb:(b==eI)=false)
  (da:s.heap.DictOfH kn a xa) (db:s.heap.DictOfH kn b xb) (hu:A.units<mm) (hits:xa.length=xb.length->tH A.in1 s xb xa r) (h:Q (.bool<|!(xa.length==xb.length&&r)) s):
  bt (dr prog w) A (fx .NotEq (.ref a)<|.ref b) Q E s:=by
 refine sC (op:=.NotEq) da.typeIs db.typeIs zw (c8 zw da.typeIs PySem.F.entry_dict_ne ?_<|PySem.F.args_dict_ne_2 _ _) hu;show bt _ _ (kP "__ne__" ⟨[.ref a,.ref b],[]⟩ >>= _) _ _ s;refine ae ?_;unfold kP;refine ae<|i8 da.typeIs ?_;show bt _ _ (pure (cx a,cx b)) _ _ s;refine ag ?_;refine ae<|kl (T:="dict") db.typeIs ze ?_;simp only[vT,f7,if_false];refine ae<|ag<|ae<|ag ?_;refine ae<|Cm hk ha hb da db hits ?_;refine ag ⟨_,rfl,?_,?_⟩
 ·exact λx=>nomatch x
 ·simpa using h
end
def Dj (ls:List (List Kt))(us:List D):List (List Kt)->List D->Option Bool
 |[],[]=>some true
 |k::ks,d::ds=>match cA ls us k with
  |none=>some false
  |some y=>(lg d y).bind λe=>(Dj ls us ks ds).map (e && ·)
 |_,_=>none
def V1 (d e:D):Option Bool:=(dcK d).bind λa=>(dcK e).bind λb=>if a.1.length=b.1.length then Dj b.1 b.2 a.1 a.2 else some false
def RQ (d e:D):Option Bool:=(V1 d e).map (!·)
section
variable {X:Cx}{π:Zl}{σ:L2.St}{H:Hp}{s:bq}
theorem Jy (I:Inv X π σ H s){O:Zaa}{A:iN}(hu:A.in1.units+64<mm){T:Addr->List V->Prop}{kvb:List (List Kt×V)}{xb:List (List Kt×Addr×aS)}{us:List D}(rb:KT T H kvb xb)(hb:DVs (gx X) O H (kvb.map (·.2)) us):
  ∀{kva:List (List Kt×V)} {xa:List (List Kt×Addr×aS)} {vs:List D} {r:Bool},KT T H kva xa->DVs (gx X) O H (kva.map (·.2)) vs->Dj (kvb.map (·.1)) us (kva.map (·.1)) vs=some r->tH A.in1 s xb xa r:=by
 intro kva xa vs r ra;induction ra generalizing vs r with
 |nil=>intro h e;cases h;cases e;exact .nil
 | @cons p q ps qs h t ih=>
  intro hd e;cases hd with
  |cons a rest=>
   obtain⟨k,x⟩:=p;obtain⟨k',c,w⟩:=q;obtain⟨e1,_,e2⟩:=h;simp only at e1 e2;subst e1;have vb:=Av (k:=k) hb;have rv:=KT.val rb k;rw[ar,Dj] at e;rcases vb with⟨v,d,b1,b2,b3⟩|⟨b1,b2⟩
   ·simp only[b2] at e;obtain⟨c',h1,h2⟩:=eB.mp e;obtain⟨r',h3,rfl⟩:=iO.mp h2;obtain⟨pa,pb,t1,t2,z1,z2,rfl⟩:=uU h1;rw[b1] at rv;cases ev:ui xb k with
    |none=>rw[ev] at rv;cases rv
    |some y=>
     rw[ev] at rv;obtain⟨as,r1⟩:=(pI (.inl a) t1).reads I e2;obtain⟨bs,r2⟩:=(pI (.inl b3) t2).reads I rv;exact .hit (x:=(k,c,w)) ev (W.keq_at r1 r2 z1 z2 hu)<|ih rest h3
   ·simp only[b2] at e;cases e;rw[b1] at rv;cases ev:ui xb k with
    |none=>exact .miss (x:=(k,c,w)) ev
    |some y=>rw[ev] at rv;cases rv
theorem Ph {O:Zaa}{x y:V}{d e:D}{r:Bool}(hx:DW (gx X) O H x d)(hy:DW (gx X) O H y e)(hr:V1 d e=some r):
  ∃a b kva kvb vs us,x=.ref a/\y=.ref b/\Rd H a (.dT (KTp X.K) kva)/\Rd H b (.dT (KTp X.K) kvb)/\DVs (gx X) O H (kva.map (·.2)) vs/\DVs (gx X) O H (kvb.map (·.2)) us/\
   ((kva.length=kvb.length/\Dj (kvb.map (·.1)) us (kva.map (·.1)) vs=some r)\/(¬kva.length=kvb.length/\r=false)):=by
 obtain⟨⟨ks,vs⟩,h1,h2⟩:=eB.mp hr;obtain⟨⟨ls,us⟩,h3,h4⟩:=eB.mp h2;obtain⟨a,kva,rfl,ha,rfl,hda⟩:=Hu hx h1;obtain⟨b,kvb,rfl,hb,rfl,hdb⟩:=Hu hy h3;refine⟨a,b,kva,kvb,vs,us,rfl,rfl,ha,hb,hda,hdb,?_⟩;simp only[bp] at h4;by_cases z:kva.length=kvb.length
 ·rw[if_pos z] at h4;exact .inl ⟨z,h4⟩
 ·rw[if_neg z] at h4;cases h4;exact .inr ⟨z,rfl⟩
theorem Z3 {j:Nat}(hr0:gD j X.A):OpR X (fx .Eq) (rGB (gx X) V1):=by
 intro π s σ H x y v u Q I rx ry h;obtain⟨O,d,e,r,m,hx,hy,hr,q⟩:=h;obtain⟨a,b,kva,kvb,vs,us,rfl,rfl,ha,hb,hda,hdb,hz⟩:=Ph hx hy hr;cases(show v=cx a from rx);cases(show u=cx b from ry);obtain⟨za,na,xa,ra,da⟩:=vy (sV I) I.hok ha;obtain⟨zb,nb,xb,rb,db⟩:=vy (sV I) I.hok hb;have hu:X.A.in1.units+64<mm:=by have:=hr0.un;show X.A.units+1+64<mm;omega
 have la:=ia ra;have lb:=ia rb;refine Yx (r:=r) (show X.A.in1.units+8<mm by omega) na nb da db hr0.Lr (λz=>?_) ?_
 ·rcases hz with⟨_,hh⟩|⟨n,_⟩
  ·exact Jy I hu rb hdb ra hda hh
  ·exact absurd (by omega) n
 ·refine cF I q ?_;rcases hz with⟨z,_⟩|⟨n,rfl⟩
  ·rw[show(xa.length==xb.length)=true by simpa using(by omega:xa.length=xb.length)];rfl
  ·have:¬xa.length=xb.length:=by omega
   simp[this]
theorem GX {j:Nat}(hr0:gD j X.A):OpR X (fx .NotEq) (rGB (gx X) RQ):=by
 intro π s σ H x y v u Q I rx ry h;obtain⟨O,d,e,r',m,hx,hy,hr',q⟩:=h;obtain⟨r,hr,rfl⟩:=iO.mp hr';obtain⟨a,b,kva,kvb,vs,us,rfl,rfl,ha,hb,hda,hdb,hz⟩:=Ph hx hy hr;cases(show v=cx a from rx);cases(show u=cx b from ry);obtain⟨za,na,xa,ra,da⟩:=vy (sV I) I.hok ha;obtain⟨zb,nb,xb,rb,db⟩:=vy (sV I) I.hok hb;have hu:X.A.in1.units+64<mm:=by have:=hr0.un;show X.A.units+1+64<mm;omega
 have la:=ia ra;have lb:=ia rb;refine aaa (r:=r) (show X.A.in1.units+8<mm by omega) na nb da db hr0.Lr (λz=>?_) ?_
 ·rcases hz with⟨_,hh⟩|⟨n,_⟩
  ·exact Jy I hu rb hdb ra hda hh
  ·exact absurd (by omega) n
 ·refine cF I q ?_;rcases hz with⟨z,_⟩|⟨n,rfl⟩
  ·rw[show(xa.length==xb.length)=true by simpa using(by omega:xa.length=xb.length)];rfl
  ·have:¬xa.length=xb.length:=by omega
   simp[this]
end
def abL (K:bP)(a:Addr)(n:Nat):It:=⟨λi H=>i<n/\∃xs x,SqL K H a xs/\xs[n-1-i]? = some x,λi H x H'=>H'=H/\∀xs,SqL K H a xs->xs[n-1-i]? = some x,λi _=>i=n⟩
theorem V2 {P:cy}{w:fI}{K:bP}{tg:Expr}(a it:Addr)(n:Nat):Turn P w K tg (abL K a n) [it] it (λi h=>h.IsRevIter it a<|(n:Int)-1-(i:Int)) where
 mem:=by simp
 obj:=λi h st b hb=>by
  have e:b=it:=by simpa using hb
  subst e;obtain⟨o,e,c,d⟩:=st;exact⟨o,e,λv z=>by rw[d] at z;cases z⟩
 keep:=λi h h' st k=>st.at λo e=>k it (by simp) o e
 item:=by
  intro X hP hw hK hc i π s σ H E I hf st hg;subst hP hw hK;obtain⟨lt,xs,x,hq,hx⟩:=hg;obtain⟨χ,rv,p,hz⟩:=I.list hq;obtain⟨u,hu,ru⟩:=rv.get hx;obtain⟨f0,f1,f2,f3,f4,f5⟩:=hf it (by simp);have e1:(n:Int)-1-(i:Int)=((n-1-i:Nat):Int):=by omega
  rw[e1] at st;refine wpAny_pyNext_rev_item st p.isList (x:=u) (by simpa using hu) λh' st' sb=>?_;have I1:Inv X π σ H { s with heap:=h' }:=I.turned (t':=s.toks) (λb o hb e=>(sb.2 b hb).trans e) f0 f1 f3 f4 f5;rw[show((n-1-i:Nat):Int)-1=(n:Int)-1-((i+1:Nat):Int) by omega] at st';obtain⟨o,e,c,d⟩:=id st';exact⟨u,rfl,Gp (s:={ s with heap:=h' }) e c d (by decide) ⟨x,H,I1,ru,⟨rfl,λys hy=>by rw[I.Cy hy hq];exact hx⟩,st',λb hb=>(hf b hb).1⟩⟩
 done:=by
  intro X hP hw hK hc i π s σ H E I hf st hg;subst hP hw hK;obtain⟨f0,f1,f2,f3,f4,f5⟩:=hf it (by simp);have hg:i=n:=hg;subst hg;rw[show(i:Int)-1-(i:Int)=-1 by omega] at st;exact wpAny_pyNext_rev_end (I.ok.hd hc) st λh' eb=>⟨rfl,I.turned (t':=s.toks) (λb o hb e=>eb b o hb e) f0 f1 f3 f4 f5⟩
 self:=λ_ _ _ _ _ st h=>wpAny_pyIter_revIter st h
section
variable {X:Cx}{tg:Expr}
def ae6 (K:bP)(ta:TA):TI:=λσ H R=>ta σ H λvs H1=>∃a xs,vs=[.ref a]/\SqL K H1 a xs/\R (abL K a xs.length) H1
theorem ab3 {e:Expr}{ta:TA}{p pos:Pos}(hg:Gl X "reversed")(hm:X.mg "reversed" = none)(ha:PA X [e] ta)(hs:ax [e] X.env=[(false,eval e X.env)]:=by rfl):PI X tg (.Call (.Name "reversed" p) [e] [] pos) (ae6 X.K ta):=by
 intro π s σ H R I h;refine kB<|oK I hg hm WM<|dE (thn (ha pos π s σ H _ I h) λus s1 hE=>xq2 hE λvs H1 I1 r1 q1=>?_) hs rfl;obtain⟨l,xs,rfl,hq,q⟩:=q1;obtain⟨u,rfl,rx⟩:=vals1 r1;cases rx;obtain⟨χ,rv,pl,hz⟩:=I1.list hq;have ν:=rv.length;have st:(s1.heap.push<|revObj l<|(χ.toArray.size:Int)-1).IsRevIter s1.heap.objs.size l ((xs.length:Int)-1-((0:Nat):Int)):=⟨_,aE _ rfl,rfl,by simp[revObj,ν]⟩;refine call_reversed_list pl.isList ?_;refine wpAny_pyIter_revIter (s:={ s1 with heap:=s1.heap.push (revObj l<|(χ.toArray.size:Int)-1) }) st ?_;refine⟨s1.heap.objs.size,[s1.heap.objs.size],_,_,H1,rfl,I1.kept (t':=s1.toks) λb o e=>ai _ e,V2 l _ xs.length,st,λb hb=>?_,q⟩;have e:b=s1.heap.objs.size:=by simpa using hb
 subst e;exact I1.KD (ay _)<|I1.hok.fresh<|ay _
def Py (f:Zad):Zad:=λm=>(f m).bind λd=>match d with
 |[.lst ds]=>.ok ds.reverse
 |_=>.stuck
theorem acA {α:Type}{l:List α}{i:Nat}{x:α}(h:i<l.length)(e:l[l.length-1-i]? = some x):l.reverse[i]? = some x:=by
 rw[List.getElem?_reverse h];exact e
theorem acf {G:Gx}{O:Zaa}{H:Hp}{a:Addr}{xs:List V}{ds:List D}(m:∀b,O b->fM (H b))(hl:LstAt G.K O H a xs)(hd:DVs G O H xs ds):zf G (abL G.K a xs.length) ds.reverse (λO' H2=>Ev O H O' H2):=by
 intro O' H2 ev;have hq:SqL G.K H2 a xs:=(uq ev.2 hl).sq;have hd2:=hd.go m ev;have ν:=bR hd;refine⟨λi hi=>?_,λi x H' hi y=>?_,by show ds.reverse.length=xs.length;simp[ν]⟩
 ·rw[AK] at hi;exact⟨by omega,xs,xs[xs.length-1-i]'(by omega),hq,by simp⟩
 ·rw[AK] at hi;obtain⟨e,y⟩:=y;subst e;obtain⟨d,h1,h2⟩:=nu hd2<|y xs hq;exact⟨aM.refl _,d,acA hi (by rw[← ν];exact h1),h2⟩
theorem ab5 {E:XK}{fs:Zad}{e:Expr}{p pos:Pos}(hg:Gl X "reversed")(hm:X.mg "reversed" = none)(ha:FAE X E [e] fs)(hs:ax [e] X.env=[(false,eval e X.env)]:=by rfl):FI X E tg (.Call (.Name "reversed" p) [e] [] pos) (Py fs):=
 jU (ab3 hg hm ha hs) λσ H R hE=>xq5 hE λO0 M0 H0 ow m Re q=>⟨O0,M0,H0,ow,m,Re,q.bind.imp (aM.refl _) λds q vs H' g hv=>by
  cases hv with
  |nil=>exact q.elim
  | @cons v vs d ds h1 h2=>
   cases h2 with
   |cons _ _=>cases d<;>exact q.elim
   |nil=>
    cases d with
    |lst ds=>
     cases h1 with
     |lst hl hd=>exact⟨_,_,rfl,hl.sq,q _ H' g<|acf (Re.mono g).mutk hl hd⟩
    |_=>exact q.elim⟩
end
def qw:HO->Option (List V)
 | .dT _ ι=>some<|ι.map (·.2)
 | .dK ι=>some<|ι.map (·.2)
 |_=>none
section
variable {X:Cx}{π:Zl}{s:bq}{σ:L2.St}{H:Hp}{a:Addr}{o:Obj}{u:HO}{vals:List V}
theorem aey (I:Inv X π σ H s)(e:H a=some (.frz o u))(hu:qw u=some vals):
  (a==eI)=false/\∃es ep,s.heap.get? a=some o/\o.ExactDict/\o.data=.dict es ep/\Vals vals (es.toList.map (·.val)):=by
 cases u with
 |dK ι=>cases hu;exact afq I e
 |dT T ι=>
  cases hu;obtain⟨ho,hz,hd,xs,rel,o',es,ep,h1,hx,ht,he,nd⟩:=I.hok a _ e;cases ho.symm.trans h1;refine⟨hd,es,ep,h1,hx,ht,?_⟩;rw[he,fm];clear he hz hd nd e;induction rel with
  |nil=>exact .nil
  |cons h _ ih=>exact .cons h.2.2 ih
 |_=>cases hu
theorem Uu (I:Inv X π σ H s)(e:H a=some u)(hu:qw u=some vals):∃o,Inv X π σ (L2.upd H a<|.frz o u) s:=by
 have ok:=I.hok a _ e;cases u with
 |dK ι=>exact Ua I e
 |dT T ι=>
  obtain⟨z,y,xs,r,o,es,ep,h1,rest⟩:=id ok;refine⟨o,I.write (x:=a) (e:=a) (t':=s.toks) (h':=s.heap) (by rw[e];exact hJ) (.inl rfl) (λb u _ q=>q) ⟨o,h1⟩ ⟨h1,?_⟩⟩;refine ok.stay (λ_ _ _ q=>q) (λb q=>?_) λb ys q=>?_
  ·rw[bu<|Dp q e λz=>nomatch z];exact q
  ·rw[bu<|Dp q e λz=>nomatch z];exact q
 |_=>cases hu
theorem Gn (I:Inv X π σ H s)(e:H a=some (.frz o u))(hu:qw u=some vals)(nf:∀o u,X.H₀ a≠some (.frz o u)):Inv X π σ (L2.upd H a u) s:=by
 have nn:∀b,H b=none->b≠a:=λb n z=>by rw[z,e] at n;cases n
 have ot:∀b w,H b=some w->(∀o,w≠.frz o u)->L2.upd H a u b=some w:=λb w q n=>by
  have:b≠a:=λz=>by rw[z,e] at q;exact n o (cE q).symm
  rw[bu this];exact q
 refine⟨I.ok,I.os,I.bare,⟨I.base.keep,I.base.slot,λb u q n x=>?_,I.base.there,λb xs q=>?_,λb u t q=>?_,λb ps q=>?_⟩,I.loc,I.cell,?_,λx c q=>?_,λp q=>?_,λb u q=>?_,I.len⟩
 ·have z:=I.base.free b u q n x;rw[bu<|nn b z];exact z
 ·exact ot b _ (I.base.tups b xs q) λ_ z=>nomatch z
 ·have:b≠a:=λz=>nf u t (z▸q)
  rw[bu this];exact I.base.frzs b u t q
 ·obtain⟨m,z⟩:=I.base.tbls b ps q;exact⟨m,ot b _ z λ_ z=>nomatch z⟩
 ·rw[bu<|nn _ I.free];exact I.free
 ·rw[bu<|nn _<|I.freeC x c q];exact I.freeC x c q
 ·obtain⟨p1,p2,p3⟩:=I.pin p q;exact⟨p1,by rw[bu<|nn _ p2];exact p2,p3⟩
 ·have st:∀b w,cV X.prog X.w H s.heap b w->cV X.prog X.w (L2.upd H a _) s.heap b w:=λb w k=>k.stay (λ_ _ _ q=>q) (λc q=>ot c _ q λ_ z=>nomatch z) λc ys q=>ot c _ q λ_ z=>nomatch z
  by_cases z:b=a
  ·subst z;rw[aV] at q;cases q;exact st _ _ (I.hok _ _ e).2
  ·rw[bu z] at q;exact st _ _<|I.hok b u q
end
theorem Ud {G:Gx}{O0 M0:Zaa}{H0 H:Hp}{ow:Os}{σ:L2.St}{m:Me}{i:Nat}{a:Addr}{d:D}{o:Obj}{u:HO}(R:cT G O0 M0 H0 ow σ H m)(z:m[i]? = some (.ow d))(h1:ow i=some a)(h2:H0 a=none):
  cT G O0 M0 H0 (owS ow i none) σ (L2.upd H a<|.frz o u) (m.set i .un):=by
 have oa:Ow O0 ow a:=.inr ⟨i,h1⟩;have kp:Kp (Ow O0 ow) H (L2.upd H a<|.frz o u):=λb u eb n=>by
  have nb:b≠a:=λw=>n (by rw[w];exact oa);rw[bu nb];exact eb
 have na:∀b,Ow O0 (owS ow i none) b->b≠a:=λb w eb=>by
  subst eb;rcases w with w|⟨j,w⟩
  ·exact R.no0 i _ h1 w
  ·by_cases ej:j=i
   ·subst ej;rw[dM] at w;cases w
   ·rw[cZ ej] at w;exact ej<|R.inj j i _ w h1
 have ev:Ev (Ow O0 ow) H (Ow O0<|owS ow i none) (L2.upd H a<|.frz o u):=⟨λb w=>.inl w.sub,kp⟩;have hi:=rM z;refine⟨⟨by simp[R.len],λb u eb n=>?_,λb w=>?_,λb w=>?_,λj b eb=>?_,λj l b e1 e2=>?_,λj hj=>?_,λj sl ej=>?_⟩,yP R.nb λ_ w=>by cases w⟩
 ·have nb:b≠a:=λw=>by rw[w,h2] at eb;cases eb
  rw[bu nb];exact R.keep b u eb n
 ·by_cases eb:b=a
  ·subst eb;rw[aV];exact λw=>nomatch w
  ·rw[bu eb];exact R.m0 b w
 ·rw[bu<|na b w];exact R.mutk b w.sub
 ·by_cases q:j=i
  ·subst q;rw[dM] at eb;cases eb
  ·rw[cZ q] at eb;exact R.no0 j b eb
 ·by_cases q:j=i
  ·subst q;rw[dM] at e1;cases e1
  ·by_cases q':l=i
   ·subst q';rw[dM] at e2;cases e2
   ·rw[cZ q] at e1;rw[cZ q'] at e2;exact R.inj j l b e1 e2
 ·by_cases q:j=i
  ·subst q;exact dM
  ·rw[cZ q];exact R.out j<|by simpa using hj
 ·by_cases q:j=i
  ·subst q;rw[bo hi] at ej;cases ej;exact dM
  ·rw[br<|eS q] at ej;rw[cZ q];have sl0:=R.slot j sl ej;have ne:∀c,ow j=some c->c≠a:=λc w z=>q<|R.inj j i a (z▸w) h1;cases sl with
   |un=>exact sl0
   |fz d=>obtain⟨w1,x,w2,w3⟩:=sl0;exact⟨w1,x,w2,w3.go R.mutk ev⟩
   |ow d=>obtain⟨c,w1,w2,w3,w4⟩:=sl0;exact⟨c,w1,w2,w3,(w4.kp R.mutk kp<|bu<|ne c w1).bV λb w=>.inl w.sub⟩
   |io d=>obtain⟨c,w1,w2,w3,w4⟩:=sl0;exact⟨c,w1,w2,w3,(w4.kp R.mutk kp<|bu<|ne c w1).bV λb w=>.inl w.sub⟩
   |bw d=>exact(R.nb j d ej).elim
   |hd w c d=>obtain⟨w1,w2,w3,w4⟩:=sl0;exact⟨w1,w2,w3,(w4.kp R.mutk kp<|bu<|ne c w1).bV λb w=>.inl w.sub⟩
section
variable {X:Cx}{tg:Expr}
def adX:V->List V->Hp->VK->Prop:=λx vs H Q=>∃a o u vals,x=.ref a/\vs=[]/\H a=some (.frz o u)/\qw u=some vals/\∀p,H p=none->Q (.ref p) (upd H p<|.ext<|qZ p a)
theorem Yh:MtR X "dict.values" adX:=by
 intro π s σ H x vs v us Q I rx rv h;obtain⟨a,o,u,vals,rfl,rfl,e,hu,q⟩:=h;cases rx;have hus:=rv.zero;subst hus;obtain⟨hd,es,ep,h1,h2,h3,_⟩:=aey I e hu;refine JM hd ⟨o,h1,h2,h3⟩ ?_;exact⟨.ref _,_,I.laid (t':=s.toks) (λb o e=>ai _ e) (ay _)<|show cV X.prog X.w _ _ _ (.ext<|qZ s.heap.objs.size a) from⟨⟨_,aE _ rfl,rfl,rfl⟩,⟨_,aE _ rfl⟩,λh1 h2 ⟨o,e,r⟩ k=>⟨o,k o e,r⟩⟩,rfl,q _<|I.hok.fresh<|ay _⟩
def ad3 (tl:TE):TI:=λσ H R=>tl σ H λx H1=>∃p d o u vals,x=.ref p/\H1 p=some (.ext<|qZ p d)/\H1 d=some (.frz o u)/\qw u=some vals/\R (ItV d o u vals) H1
theorem Ym {l:Expr}{tl:TE}(hl:PE X l tl):PI X tg l (ad3 tl):=by
 intro π s σ H R I h;refine thn (hl π s σ H _ I h) λv s1 hE=>xq2 hE λx H1 I1 r1 q1=>?_;obtain⟨p,d,o,u,vals,rfl,ep,e,hu,q⟩:=q1;cases r1;obtain⟨_,es,ep',ho,h2,h3,hv⟩:=aey I1 e hu;obtain⟨vw,_⟩:=I1.hok p _ ep;have fp:∀b∈[s1.heap.objs.size],uX X π H1 b:=λb hb=>by
  cases cb.mp hb;exact I1.KD (ay _)<|I1.hok.fresh<|ay _
 refine aaA vw ⟨o,ho,h2,h3⟩ ?_;exact⟨s1.heap.objs.size,[s1.heap.objs.size],_,_,H1,rfl,I1.kept (t':=s1.toks) λb o e=>ai _ e,Sh _ d o _ es ep' vals h2 h3 hv,⟨_,aE _ rfl,rfl,rfl⟩,fp,q⟩
end
section
variable {X:Cx}{tg:Expr}
theorem XQ {H:Hp}{a:Addr}{o:Obj}{u:HO}{vals:List V}(e:H a=some (.frz o u))(hu:qw u=some vals):tyV X.K "dict" (.ref a) H:=by
 cases u with
 |dK ι=>exact .inr (.inr<|.inl ⟨rfl,.inl ⟨ι,.inr ⟨o,e⟩⟩⟩)
 |dT T ι=>exact .inr (.inr<|.inl ⟨rfl,.inr ⟨T,ι,.inr ⟨o,e⟩⟩⟩)
 |_=>cases hu
def Vv (i:Nat):TI:=λσ H R=>∃a o u vals,σ[i]? = some (some<|.ref a)/\H a=some (.frz o u)/\qw u=some vals/\∀b,H b=none->R (ItV a o u vals) (upd H b<|.ext<|qZ b a)
theorem Z2 {i:Nat}{x:Str}{np apos η:Pos}(hN:X.N[i]? = some x)(hv:Vis X.env.scope x)(hd:(x==("__debug__":Str))=false:=by decide)(hcd:(x==("__classdict__":Str))=false:=by decide)
  (ψ:gE (.Name x np) "values" X.env (eval (.Name x np) X.env)=eval (.Name x np) X.env:=by rfl) (θ:(apos.endLine==η.line)=true:=by rfl):
  PI X tg (.Call (.Attribute (.Name x np) "values" apos) [] [] η) (Vv i):=
 jU (Ym<|BZ ma oC vi Yh (jk hN hv hd hcd) ψ θ) λσ H R ⟨a,o,u,vals,h1,h2,hu,q⟩=>by
  refine⟨.ref a,h1,XQ h2 hu,a,o,u,vals,rfl,rfl,h2,hu,λb hb=>?_⟩;have ne:a≠b:=λz=>by rw[z,hb] at h2;cases h2
  exact⟨b,a,o,u,vals,rfl,aV,by rw[bu ne];exact h2,hu,q b hb⟩
end
def goA (i j:Nat)(ft:Zaf)(c:Bool):List D->Zab
 |[],m=>.ok (.nx,m)
 |d::ds,m=>match ft ((m.set j<|.fz d).set i .un) with
  | .ok true=>.ok (.rt false<|.bl c,m.set j<|.fz d)
  | .ok false=>goA i j ft c ds<|m.set j<|.fz d
  |_=>.stuck
def Wx (i j:Nat)(ft:Zaf)(c:Bool):Zab:=λm=>match m[i]? with
 |some (.ow<|.dcu ks ds)=>if i≠j/\j<m.length then goA i j ft c ds m else .stuck
 |some (.ow<|.dct ks ds)=>if i≠j/\j<m.length then goA i j ft c ds m else .stuck
 |_=>.stuck
theorem Z8 {G:Gx}{O:Zaa}{H:Hp}{a:Addr}{ks:List (List Kt)}{ds:List D}(h:OV G O H a (.dcu ks ds)):∃u vals,H a=some u/\qw u=some vals/\DVs G O H vals ds:=by
 obtain⟨ι,vs,e,e1,e2,hs⟩:=h;exact⟨_,_,e,rfl,by rw[e2];exact hs⟩
theorem UJ {G:Gx}{O:Zaa}{H:Hp}{a:Addr}{ks:List Key}{ds:List D}(h:OV G O H a (.dct ks ds)):∃u vals,H a=some u/\qw u=some vals/\DVs G O H vals ds:=by
 obtain⟨ι,vs,e,e1,e2,hs⟩:=h;exact⟨_,_,e,rfl,by rw[e2];exact hs⟩
theorem Gk {X:Cx}{E:XK}{i j:Nat}{x y:Str}{te ce:Expr}{ft:Zaf}{c:Bool}{np p1 apos η rp ip pos:Pos}{π:Zl}{s:bq}{σ:L2.St}{H:Hp}{W:Ends}{O0 M0:Zaa}{H0:Hp}{ow:Os}{m:Me}{d0:D}{a:Addr}{u:HO}{vals:List V}{ds:List D}
  (hp:tz (dr X.prog X.w) X.A X.env X.xe) (hc:X.calm=true) (hi:PI X (.Name y p1) (.Call (.Attribute (.Name x np) "values" apos) [] [] η) (Vv i)) (hg:PG X (.Name y p1) (wy j)) (ht:FT X E te ft) (hce:FE X E ce (fC<|.bl c))
  (hs:∀x',gy (.Call (.Attribute (.Name x np) "values" apos) [] [] η) X.env x'=pure x')
  (I:Inv X π σ H s) (R:cT (gx X) O0 M0 H0 ow σ H m) (z:m[i]? = some (.ow d0)) (ij:i≠j) (jm:j<m.length) (h1:ow i=some a) (h2:H0 a=none) (h3:σ[i]? = some (some<|.ref a)) (e:H a=some u) (hu:qw u=some vals) (hv:DVs (gx X) (Ow O0 ow) H vals ds)
  (q:Ss (gx X) E O0 M0 H0 ow H W (goA i j ft c ds m)):bt (dr X.prog X.w) X.A (exec (.For (.Name y p1) (.Call (.Attribute (.Name x np) "values" apos) [] [] η) [.If te [.Return (some ce) rp] [] ip] [] pos) X.env) (SP X π W) X.xe s:=by
 obtain⟨o,I'⟩:=Uu I e hu;have nz:∀o' u',u≠.frz o' u':=λo' u' z=>by subst z;cases hu
 have nf:∀o u,X.H₀ a≠some (.frz o u):=λo' u' z=>by
  have:=I.base.frzs a o' u' z
  rw[e] at this;exact nz _ _<|cE this
 have hl:vals.length=ds.length:=bR hv;have bk:∀{H':Hp},aM (upd H a<|.frz o u) H'->H' a=some (.frz o u)/\aM H (upd H' a u):=λ{H'} g=>by
  refine⟨g a _ aV,λb w eb=>?_⟩;by_cases w1:b=a
  ·subst w1;rw[aV];exact e.symm.trans eb
  ·rw[bu w1];exact g b w (by rw[bu w1];exact eb)
 have th:∀{H' H'':Hp},aM (upd H a<|.frz o u) H'->aM H' H''->aM (upd H' a u) (upd H'' a u):=λ{H' H''} g g2 b w eb=>by
  by_cases w1:b=a
  ·subst w1;rw[aV] at eb ⊢;exact eb
  ·rw[bu w1] at eb ⊢;exact g2 b w eb
 have fz:∀{H':Hp},H' a=some (.frz o u)->upd (upd H' a u) a (.frz o u)=H':=λ{H'} g=>by
  funext b;by_cases w1:b=a
  ·subst w1;rw[aV,g]
  ·rw[bu w1,bu w1]
 refine thn (Uz hp hc hi hg (HD<|aax ht (HD<|Dd hce) Qg) hs π s σ _ ⟨λσ' H'=>H' a=some (.frz o u)/\W.nx σ' (upd H' a u),λv H'=>H' a=some (.frz o u)/\W.rt v (upd H' a u),λ_ _=>False,λ_ _=>False⟩ I' ⟨a,o,u,vals,h3,aV,hu,λb hb=>?_⟩) λf s' h=>?_
 ·have g0:aM (upd H a<|.frz o u) (upd (upd H a<|.frz o u) b<|.ext<|qZ b a):=bL hb _;generalize hr:goA i j ft c ds m=r at q;refine⟨λk n σ' H'=>n=ds.length-k/\k<=ds.length/\aM (upd H a<|.frz o u) H'/\∃ow' m',cT (gx X) O0 M0 H0 ow' σ' (upd H' a u) m'/\Go O0 ow H ow' (upd H' a u)/\m'[i]? = some (.ow d0)/\m'.length=m.length/\ow' i=some a/\(∀b,Ow O0 ow' b->Ow O0 ow b)/\goA i j ft c (ds.drop k) m'=r,⟨_,rfl,eT _,g0,ow,m,R.mono (bk g0).2,Go.refl (bk g0).2,z,rfl,h1,λ_ w=>w,hr⟩,?_⟩;rintro k n σ1 H1 ⟨rfl,hk,g1,ow1,m1,R1,G1,z1,l1,o1,sub1,e1⟩;have b1:=bk g1;by_cases hlt:k<ds.length
  ·refine .inr ⟨⟨b1.1,by omega⟩,λσ' H'=>aM (upd H a<|.frz o u) H'/\∃ow' m',cT (gx X) O0 M0 H0 ow' σ' (upd H' a u) m'/\Go O0 ow H ow' (upd H' a u)/\m'[i]? = some (.ow d0)/\m'.length=m.length/\ow' i=some a/\(∀b,Ow O0 ow' b->Ow O0 ow b)/\goA i j ft c (ds.drop<|k+1) m'=r,λσ' H' w=>⟨ds.length-(k+1),by omega,rfl,hlt,w⟩,λv H2 yv=>?_⟩;obtain⟨yv,rfl⟩:=yv;obtain⟨d,hd,dv⟩:=nu hv yv;have ed:ds.drop k=d::ds.drop (k+1):=by
    rw[kL hlt];rw[av hlt] at hd;cases hd;rfl
   rw[ed] at e1;unfold goA at e1;have R2:=R1.set (i:=j) (v:=v) (d:=d)<|(dv.mono b1.2).bV λb w=>.inl<|sub1 b w;have z2:(m1.set j<|.fz d)[i]? = some (.ow d0):=by rw[br<|eS ij];exact z1
   have o2:owS ow1 j none i=some a:=by rw[cZ ij];exact o1
   have R3:=Ud (o:=o) (u:=u) R2 z2 o2 h2;rw[fz b1.1] at R3;refine⟨O0,M0,H0,_,_,R3.toRel,?_⟩;cases ef:ft ((m1.set j<|.fz d).set i .un) with
   |exc c'=>rw[ef] at e1;subst e1;exact q.elim
   |stuck=>rw[ef] at e1;subst e1;exact q.elim
   |ok bb=>
    rw[ef] at e1;intro H3 g3;cases bb with
    |true=>
     rw[if_pos rfl];refine⟨O0,M0,H0,_,_,(R3.mono g3).toRel,λv' H4 g4 dv'=>?_⟩;cases dv';have g13:=g1.trans<|g3.trans g4;refine⟨(bk g13).1,?_⟩;have e1:r=.ok (.rt false<|.bl c,m1.set j<|.fz d):=e1.symm;subst e1;exact q _ _ _ _ (R2.mono<|th g1<|g3.trans g4) ((G1.trans Go.set).trans<|Go.refl<|th g1<|g3.trans g4) (.bl c) λw=>by cases w
    |false=>
     rw[if_neg<|by decide];refine⟨g1.trans g3,_,_,R2.mono<|th g1 g3,(G1.trans Go.set).trans<|Go.refl<|th g1 g3,z2,by simp[l1],o2,λb w=>sub1 b w.sub,e1⟩
  ·have ek:k=ds.length:=by omega
   subst ek;rw[qE] at e1;unfold goA at e1;subst e1;exact .inl ⟨⟨b1.1,hl.symm⟩,b1.1,q ow1 σ1 _ R1 G1⟩
 ·cases f with
  |next=>obtain⟨σ',H',I,e,q⟩:=h;exact⟨σ',_,Gn I e hu nf,q⟩
  |brk=>obtain⟨σ',H',I,q⟩:=h;exact q.elim
  |cont=>obtain⟨σ',H',I,q⟩:=h;exact q.elim
  |ret w=>obtain⟨v,σ',H',I,r,e,q⟩:=h;exact⟨v,σ',_,Gn I e hu nf,r,q⟩
theorem ZM {X:Cx}{E:XK}{i j:Nat}{x y:Str}{te ce:Expr}{ft:Zaf}{c:Bool}{np p1 apos η rp ip pos:Pos}
  (hp:tz (dr X.prog X.w) X.A X.env X.xe) (hc:X.calm=true) (hi:PI X (.Name y p1) (.Call (.Attribute (.Name x np) "values" apos) [] [] η) (Vv i)) (hg:PG X (.Name y p1) (wy j)) (ht:FT X E te ft) (hce:FE X E ce (fC<|.bl c))
  (hs:∀x',gy (.Call (.Attribute (.Name x np) "values" apos) [] [] η) X.env x'=pure x':=by intro _;rfl):
  FS X E (.For (.Name y p1) (.Call (.Attribute (.Name x np) "values" apos) [] [] η) [.If te [.Return (some ce) rp] [] ip] [] pos) (Wx i j ft c):=by
 intro π s σ H W I ⟨O0,M0,H0,ow,m,R,q⟩;unfold Wx at q;split at q
 ·rename_i ks ds z;split at q
  ·rename_i w;obtain⟨a,h1,h2,h3,ov⟩:=R.slot i _ z;obtain⟨u,vals,e,hu,hv⟩:=Z8 ov;exact Gk hp hc hi hg ht hce hs I R z w.1 w.2 h1 h2 h3 e hu hv q
  ·exact q.elim
 ·rename_i ks ds z;split at q
  ·rename_i w;obtain⟨a,h1,h2,h3,ov⟩:=R.slot i _ z;obtain⟨u,vals,e,hu,hv⟩:=UJ ov;exact Gk hp hc hi hg ht hce hs I R z w.1 w.2 h1 h2 h3 e hu hv q
  ·exact q.elim
 ·exact q.elim
section
variable {prog:cy}{w:fI}{A:iN}{E:Zs}{s:bq}
theorem Ri {t:Addr}{items:Array aS}{j:Nat}{y:Str}{u tk:Tok}{Q:Zs}(ht:IsTup s.heap t items)(hit:items[j]? = some (.str y tk))(ot:∀i,i<j->∃z k,items[i]? = some (.str z k)/\z≠y)
  (h:Q (.int j s.toks) { s with toks:=s.toks+1 }):bt (dr prog w) A (call (.builtin "tuple.index") [.ref t,.str y u]) Q E s:=by
 refine c8 vE ht.typeIs PySem.F.entry_tuple_index ?_<|PySem.F.args_tuple_index_2 _ _;unfold AF.«tuple.index»;refine ae ?_;unfold selfAndSome noKeywords checkCount;refine ae<|ag ?_;dsimp only;refine ae ?_;rw[if_neg<|show ¬_ from λz=>nomatch z];rw[if_neg (show ¬ [tq y u].length<1 by simp),if_neg<|show ¬ [tq y u].length>3 by simp];refine ag<|ag<|ae<|tupleItemsOf_ ht<|ae<|ag<|ae<|ag<|ae ?_;rw[mS];simp only[zd,Nat.sub_zero,Nat.add_sub_cancel,Nat.div_one,Nat.min_self];have jl:j<items.size:=by
  rcases mI j items.size with h|h
  ·exact h
  ·rw[pT h] at hit;cases hit
 refine qA _ (λrest q s'=>s'=s/\q=(none,())/\∃i,rest=jI i (items.size-i)/\i<=j) _ ?_ ?_ _ _ ⟨rfl,rfl,0,rfl,eT _⟩
 ·rintro x rest q s' ⟨rfl,rfl,i,hr,hi⟩;have e:items.size-i=(items.size-(i+1))+1:=by omega
  rw[e,fA] at hr;injection hr with h1 h2
  subst h1;rcases mI x j with lt|ge
  ·obtain⟨z,k,ez,ne⟩:=ot x lt;rw[ez];refine ae<|eqBool_str ?_;rw[if_neg<|by simpa using ne];exact ag ⟨rfl,rfl,x+1,h2,lt⟩
  ·cases Nat.le_antisymm hi ge;rw[hit];refine ae<|eqBool_str ?_;rw[if_pos<|by simp];exact ae<|ae<|wpAny_mkInt<|ag<|ag<|ag ⟨_,rfl,h⟩
 ·rintro q s' ⟨rfl,rfl,i,hr,hi⟩;rw[show items.size-i=(items.size-(i+1))+1 by omega,fA] at hr;cases hr
theorem aaj {d:Addr}{o:Obj}{es:Array si}{ep:Nat}{Q:Zs}(ho:s.heap.get? d=some o)(hx:o.ExactDict)(hd:o.data=.dict es ep)(hz:es.size<=aw)
  (h:Q .none { s with heap:=s.heap.update d (Obj.mapDictKeys λ_=>#[]) }):bt (dr prog w) A (call (.builtin "dict.clear") [.ref d]) Q E s:=by
 have ty:s.TypeIs (.ref d) "dict":=⟨o,ho,hx.1⟩;refine c8 xi ty PySem.F.entry_dict_clear ?_<|PySem.F.args_dict_clear_1 _;unfold AF.«dict.clear» AG bearsInstanceDictMark;refine ae<|ae<|i8 ty<|show bt _ _ (pure d) _ _ s from ag ?_;refine ae<|fq ho hd<|ae<|ae<|wpAny_load ho<|ag ?_;refine ae<|wpAny_updateDictKeys (hz:=hz) ho hd ?_;have fin:bt (dr prog w) (A.under<|.builtin "dict.clear" ⟨[.ref d],[]⟩) (ret i9) (λfin s'=>∃v,fin=.done (.ret v)/\Q v s') E { s with heap:=s.heap.update d (Obj.mapDictKeys λ_=>#[]) }:=ag ⟨.none,rfl,h⟩;split
 ·exact ae<|w8 fin
 ·exact ae<|ag fin
end
def ixS (y:Str):List D->Option Nat
 | .str z::ds=>if z=y then some 0 else(ixS y ds).map (· + 1)
 |_=>none
def Ih:D->List D->Option D
 | .tup ds,[.str y]=>(ixS y ds).map λ(k:Nat)=>.int k
 |_,_=>none
theorem V3 {G:Gx}{O:Zaa}{H:Hp}{y:Str}:∀{ds:List D} {xs:List V} {us:List aS} {j:Nat},ixS y ds=some j->DVs G O H xs ds->Vals xs us->
  (∃tk,us[j]? = some (.str y tk))/\∀i,i<j->∃z k,us[i]? = some (.str z k)/\z≠y
 |[],_,_,_,h,_,_=>by cases h
 |d::ds,_,_,j,h,.cons hd hs,.cons r rs=>by
  cases d with
  |str z=>
   cases hd;obtain⟨t,rfl⟩:=r;unfold ixS at h;by_cases q:z=y
   ·rw[if_pos q] at h;cases h;subst q;exact⟨⟨t,rfl⟩,λi hi=>by omega⟩
   ·rw[if_neg q] at h;obtain⟨k,hk,rfl⟩:=omap h;obtain⟨h1,h2⟩:=V3 hk hs rs;refine⟨h1,λi hi=>?_⟩;cases i with
    |zero=>exact⟨z,t,rfl,q⟩
    |succ i=>exact h2 i (by omega)
  |_=>cases h
section
variable {X:Cx}
theorem MJ:MtR X "tuple.index" (rGM (gx X) Ih):=by
 intro π s σ H x vs v us Q I rx rv h;obtain⟨O,d,ds,r,m,hx,hy,hr,q⟩:=h
 match d,ds,hr with
 | .tup es,[.str y],hr=>
  obtain⟨j,hj,rfl⟩:=omap<|show(ixS y es).map _=some r from hr;obtain⟨a,xs,rfl,hq,hd⟩:=yI hx;obtain⟨w,rfl,hw⟩:=uY hy;cases jo hw;cases rx;obtain⟨u,rfl,ru⟩:=rv.one;obtain⟨t2,rfl⟩:=ru;obtain⟨χ,rv,pl,_⟩:=I.tuple hq;obtain⟨⟨tk,h1⟩,h2⟩:=V3 hj hd rv;exact Ri pl (by simpa using h1) (λi hi=>by simpa using h2 i hi) ⟨.int j,H,I.tok _,⟨_,rfl⟩,q _ _ (aM.refl _)<|.int _⟩
end
def Uw (fo:Zae)(fs:Zad):Zae:=λm=>(fo m).bind λd=>match d with
 | .tup xs=>(fs m).bind λds=>ofO<|Ih (.tup xs) ds
 |_=>.stuck
def aag (X:Cx):V->List V->Hp->VK->Prop:=λx vs H Q=>∃a T ι,x=.ref a/\vs=[]/\H a=some (.dT T ι)/\Q .non (upd H a<|.dT T [])
theorem Ti {X:Cx}:MtM X "dict.clear" (aag X):=by
 intro π s σ H x vs v us Q I rx rv h;obtain⟨a,T,ι,rfl,rfl,e,q⟩:=h;cases rx;have hus:=rv.zero;subst hus;obtain⟨hz,hd,xs,rel,o,es,ep,h1,hx,ht,he,nd⟩:=I.hok a _ e;have sz:es.size=ι.length:=by rw[yB he,ia rel]
 refine aaj h1 hx ht (by omega) ⟨.non,_,uO (t':=s.toks) (ob:=.dT T []) I (by rw[e];exact hJ) (eA ..) ⟨_,eC _ h1<|so<|kR ht _⟩ ?_,rfl,q⟩;exact⟨eT _,hd,[],.nil,_,#[],ep+1,eC _ h1<|so<|kR ht _,hx.mapDictKeys _,kR ht _,rfl,ny⟩
def Hl (i:Nat):Zab:=λm=>(ofO<|zc m i).bind λo=>.ok (.nx,ni m i o.1 [] [])
theorem RZ {X:Cx}{E:XK}{x:Str}{np apos η pos:Pos}(i:Nat)(hN:X.N[i]? = some x:=by rfl)(hv:Vis X.env.scope x:=by first|exact iP rfl|exact gX (iP rfl)|exact gX (gX rfl))(hd:(x==("__debug__":Str))=false:=by decide)(hcd:(x==("__classdict__":Str))=false:=by decide)
  (ψ:gE (.Name x np) "clear" X.env (eval (.Name x np) X.env)=eval (.Name x np) X.env:=by rfl) (θ:(apos.endLine==η.line)=true:=by rfl)
  (υ:gN (.Call (.Attribute (.Name x np) "clear" apos) [] [] η) none pos.line X.env=pure false:=by rfl):FS X E (.Expr (.Call (.Attribute (.Name x np) "clear" apos) [] [] η) pos) (Hl i):=
 cL (uN (BZ ma xi PySem.F.type_dict_clear Ti (jk hN hv hd hcd) ψ θ) υ) λW σ H hE=>xq5 hE λO0 M0 H0 ow m R q=>by
  obtain⟨o,ho,q⟩:=Ss.ofO q;obtain⟨k,ks,ds⟩:=o;obtain⟨a,ι,e1,e2,e3,e4,e5,e6⟩:=G4 R.toRel ho;obtain⟨R2,g2⟩:=R.ni (ι:=[]) (ls:=[]) (es:=[]) e1 e6 rfl .nil;exact⟨_,e2,.inr<|.inr<|.inl ⟨rfl,.inr ⟨_,ι,.inl e3⟩⟩,a,_,ι,rfl,rfl,e3,q _ _ _ R2 g2⟩
section
variable {X:Cx}
def aeL:List V->Hp->VK->Prop:=λxs H Q=>∃a ι,xs=[.ref a]/\Rd H a (.dK ι)/\∀l,H l=none->Q (.ref l) (upd H l<|.lst<|ι.map λp=>kV p.1)
theorem Vz {π:Zl}{σ:L2.St}{H:Hp}{s:bq}{a:Addr}{ι:List (Key×V)}(I:Inv X π σ H s)(e:Rd H a (.dK ι)):
  ι.length<=aw/\(a==eI)=false/\∃o es ep,s.heap.get? a=some o/\o.ExactDict/\o.data=.dict es ep/\es.size=ι.length/\Vals (ι.map λp=>kV p.1) (es.toList.map (·.key)):=by
 obtain⟨hz,hd,vs,kv,o,es,ep,h1,h2,h3,_,h5,h6⟩:=(show cV X.prog X.w H s.heap a (.dK ι) from e.ok I.hok);have v:Vals (ι.map λp=>kV p.1) (es.toList.map (·.key)):=by
  clear h6 h3 e hz;generalize es.toList=l at h5;induction kv generalizing l with
  |nil=>cases h5;exact .nil
  |cons h _ ih=>
   cases h5 with
   |cons k1 k2 k3=>exact .cons (by dsimp only;rw[h.1];exact RN k1) (ih _ k3)
 exact⟨hz,hd,o,es,ep,h1,h2,h3,by have:=v.length;simpa using this.symm,v⟩
theorem Jt (hc:X.calm=true):iQ X (.type "list") aeL:=by
 intro π s σ H xs us Q I r h;obtain⟨a,ι,rfl,e,q⟩:=h;obtain⟨u,rfl,rx⟩:=vals1 r;cases rx;obtain⟨hz,hd,o,es,ep,ho,hx,ht,sz,rv⟩:=Vz I e;refine W.kdl_call (aeN hd hx ht) (I.ok.hd hc) ho (by omega) λh' tk acc c kp oS it=>?_;have ea:acc.toList=es.toList.map (·.key):=by
  obtain⟨z,h⟩:=it;refine xo (by simp[z]) λi h1 h2=>?_;obtain⟨y,ey,ev⟩:=h i acc[i] (by simp at h1;simp[h1]);obtain⟨lt,ey⟩:=mT.mp ey;simp only[zk,xp];rw[ev,ey]
 refine⟨.ref _,_,I.laid (t':=tk) kp (ay _)<|show cV X.prog X.w _ h' _ (.lst<|ι.map λp=>kV p.1) from⟨?_,es.toList.map (·.key),c,rv,?_⟩,rfl,q _<|I.hok.fresh<|ay _⟩
 ·rw[bp];exact hz
 ·rw[← ea];simpa using oS
theorem Er {G:Gx}{O:Zaa}{H:Hp}:∀{ι:List (Key×V)},DVs G O H (ι.map λp=>kV p.1) ((ι.map (·.1)).map keyV)
 |[]=>.nil
 |p::ι=>.cons (Z7 p.1) Er
def Bc (fo:Zae):Zae:=λm=>(fo m).bind λd=>match d with
 | .dct ks _=>.ok<|.lst<|ks.map keyV
 |_=>.stuck
theorem Tg {E:XK}{o:Expr}{fo:Zae}{p pos:Pos}(hc:X.calm=true)(hg:Gl X "list")(hm:X.mg "list" = none)(ho:FE X E o fo)
  (hs:ax [o] X.env=(false,eval o X.env)::ax [] X.env:=by rfl):
  FN X E (.Call (.Name "list" p) [o] [] pos) (Bc fo):=
 bI (uK (Jt hc) hg hm qX (jf ho rA hs) (by decide) (by decide) hs rfl) λσ H Q h=>by
  obtain⟨O0,M0,H0,ow,m,R,q⟩:=h;refine⟨O0,M0,H0,ow,m,R,q.bind.imp (aM.refl _) λd q v H1 g1 hv=>?_⟩;cases d with
  |dct ks ds=>
   cases hv with
   |dct n e1 e2 e3 hs=>
    subst e2;exact⟨_,_,rfl,e1,λl hl=>q l _ (g1.trans<|bL hl _) (g1.free hl) ⟨_,aV,Er⟩⟩
  |_=>exact q.elim
end
section
variable {X:Cx}{E:XK}{o e:Expr}{es:List Expr}{fa:Zae}{fs:Zad}{apos η:Pos}
theorem aa6 {π:Zl}{σ:L2.St}{H:Hp}{s:bq}{a:Addr}{xs:List V}(I:Inv X π σ H s)(h:SqU X.K H a xs):s.TypeIs (.ref a) "tuple"/\∃ob,s.heap.get? a=some ob/\ob.dict=none:=by
 rcases h with h|⟨o,χ,n,hk,hc,hs,_,_⟩
 ·obtain⟨_,_,_,o,g,c,n,_,dn⟩:=I.hok a _ h;exact⟨⟨o,g,c⟩,o,g,dn⟩
 ·exact⟨⟨o,I.kIn a o hk,hc⟩,o,I.kIn a o hk,hs.2⟩
def afa (K:bP)(r:V->List V->Hp->VK->Prop)(to:TE)(t:TA):TE:=λσ H Q=>to σ H λx H1=>(∃a xs,x=.ref a/\SqU K H1 a xs)/\t σ H1 λxs H2=>r x xs H2 Q
theorem ac0 {name:Str}{id:String}{to:TE}{t:TA}{r:V->List V->Hp->VK->Prop}(slot:Slot "tuple" name id)(hty:typeOf (.builtin id)=pure (.type "method_descriptor"))(hm:MtR X id r)(ho:PE X o to)(ha:PA X (e::es) t)
  (ψ:gE o name X.env (eval o X.env)=eval o X.env)
  (ξ:((ki η<|ax (e::es) X.env).all (λx=>!x.1)&&(wx η<|nV [] X.env).all (λx=>x.1.isSome)
   && decide ((e::es).length+([]:List nX).length+(if([]:List nX).isEmpty then 0 else 1)<30))=true)
  (θ:(apos.endLine==η.line)=true) (hs:ax (e::es) X.env=(false,eval e X.env)::ax es X.env) (hplain:(ki η<|ax es X.env).any (·.1)=false):
  PE X (.Call (.Attribute o name apos) (e::es) [] η) (afa X.K r to t):=by
 intro π s σ H Q I h;refine wpAny_Call_method_late ψ ξ θ rfl<|thn (ho π s σ H _ I h) λv s1 ⟨x,H1,I1,r1,⟨a,xs,ex,hq⟩,q1⟩=>?_;subst ex;cases r1;obtain⟨h1,h2⟩:=aa6 I1 hq;refine⟨"tuple",id,PySem.F.plainAttrs_tuple,slot,hty,h1,λb eb=>by cases eb;exact h2,?_⟩;have hA:=ha η π s1 σ H1 _ I1 q1;rw[hs] at hA ⊢;refine ml (by show(false||(ki η<|ax es X.env).any (·.1))=false;rw[hplain]<;>rfl)<|rh ?_;exact thn hA λus s2 hE=>xq2 hE λvs H2 I2 r2 q2=>hm π s2 σ H2 (.ref a) vs _ us Q I2 rfl r2 q2
theorem aca (ho:FB X E o fa)(ha:FAB X E (e::es) fs)
  (ψ:gE o "index" X.env (eval o X.env)=eval o X.env:=by rfl)
  (ξ:((ki η<|ax (e::es) X.env).all (λx=>!x.1)&&(wx η<|nV [] X.env).all (λx=>x.1.isSome)
   && decide ((e::es).length+([]:List nX).length+(if([]:List nX).isEmpty then 0 else 1)<30))=true:=by rfl)
  (θ:(apos.endLine==η.line)=true:=by rfl) (hs:ax (e::es) X.env=(false,eval e X.env)::ax es X.env:=by rfl) (hplain:(ki η<|ax es X.env).any (·.1)=false:=by rfl):
  FE X E (.Call (.Attribute o "index" apos) (e::es) [] η) (Uw fa fs):=
 bI (ac0 vE PySem.F.type_tuple_index MJ ho ha ψ ξ θ hs hplain) λσ H Q hE=>xq5 hE λO0 M0 H0 ow m R q=>⟨O0,M0,H0,ow,m,R,q.bind.imp (aM.refl _) λd q v H1 g1 hv=>by
  cases d with
  |tup xs=>
   refine⟨(let⟨a,ys,e,h,_⟩:=xT hv;⟨a,ys,e,h⟩),O0,M0,H0,ow,m,R.mono g1,q.bind.imp g1 λds q vs H2 g2 hvs=>?_⟩;obtain⟨r,hr,k⟩:=q.ofO;exact⟨_,.tup xs,ds,r,(R.mono<|g1.trans g2).mutk,hv.mono g2,hvs,hr,λv H' g d=>k v H' ((g1.trans g2).trans g) d⟩
  |_=>exact q.elim⟩
end
end F
namespace K19
open PySem L2 Hd F Pk Lw
section
def nQ (φ_rows_of:Zac)(φ_refuse_no_plan:Zac)(φ_weights_for:Zac):Zab:=
 (aK (gEx<|fFn φ_refuse_no_plan<|aj (aG 0)<|aj (aG 1)<|aj (aG 2) aB)
 (nj<|Rg φ_weights_for<|aj (fFn φ_rows_of<|aj (aG 0)<|aj (aG 1) aB)<|aj (aG 2) aB))
def w6:Zab:=
 (nQ nT iu lR)
def nO:Zac:=aX 3 3 w6
def lK:Zae:=
 (aY<|aj (aQ Xe<|aj (oJ gEq (aa 0)<|aa 1) aB)<|aj (fC<|.int 1) aB)
def vo:Zae:=
 (dX 1 [6] (pH<|aj (aa 5) aB) (hName 0) jn lK)
def qx:Zab:=
 (gIf (aN gEq (az gIx (az gIx (aa 0)<|aa 4)<|fC<|.int 0)<|aa 1) (aK (bc 5<|aQ dW<|aj (az gIx (az gIx (aa 0)<|aa 4)<|fC<|.int 2) aB)
 (aK (bc 6<|az bJ (az du (fFn cJ<|aj (aG 2)<|aj (az bU (az fB (fC<|.int 5)<|aa 4)<|fC<|.int 2) aB)<|fC<|.int 7)<|aa 5)
 (gf 3 (az gIx (az gIx (aa 0)<|aa 4)<|fC<|.int 1)<|aQ gh<|aj vo aB))) gNx)
def pN:Zab:=
 (dg (pH<|aj (aQ dW<|aj (aa 0) aB) aB) (hName 4) qx)
def o6 (l_4:Zab):Zab:=
 (aK (cX 3 CQ)
 (aK l_4
 (gU 3)))
def zz:Zab:=
 (o6 pN)
def pL:Zac:=aX 7 3 zz
def xH:Zab:=
 (bM<|BL (vd "int" (aa 0))<|TV<|vd "bool" (aa 0))
def wM:Zab:=
 xH
def wz:Zac:=aX 1 1 wM
def iY (φ__law_lowest:Zac)(φ__law_whole:Zac):Zab:=
 (aK (gIf (jz (gV<|fTv<|vd "tuple" (aa 0))<|jz (aN gNe (aQ dW<|aj (aa 0) aB)<|fC<|.int 2)<|jz (gV<|fTv<|fFn φ__law_whole<|aj (az gIx (aa 0)<|fC<|.int 0) aB)<|gV<|fTv<|fFn φ__law_whole<|aj (az gIx (aa 0)<|fC<|.int 1) aB) (bM<|fC<|.bl false) gNx)
 (bM<|BL (oJ gGt (az gIx (aa 0)<|fC<|.int 1)<|fC<|.int 0)<|oJ gEq (fFn φ__law_lowest<|aj (az gIx (aa 0)<|fC<|.int 0)<|aj (az gIx (aa 0)<|fC<|.int 1) aB)<|aa 0))
def sO:Zab:=
 (iY dC wz)
def mX:Zac:=aX 1 1 sO
def eE:Zab:=
 (gIf (iC (aN gEq (az gIx (aa 4)<|fC<|.int 0)<|aa 1)<|aN gEq (az gIx (aa 4)<|fC<|.int 1)<|az gIx (aa 3)<|fC<|.int 0) (bM<|az gIx (az cI (aa 2)<|az gIx (aa 3)<|fC<|.int 0)<|Uw (az gIx (aa 4)<|fC<|.int 2)<|aj (az gIx (aa 3)<|fC<|.int 1) aB) gNx)
def tY:Zab:=
 (dg (fL<|aG 0) (hName 4) eE)
def nP (l_2:Zab):Zab:=
 (aK l_2
 (bM<|fC .non))
def yh:Zab:=
 (nP tY)
def rQ:Zac:=aX 5 4 yh
def wV:Zab:=
 (bc 9<|fFn nM<|aj (aG 9)<|aj (fFn rQ<|aj (aG 0)<|aj (aG 1)<|aj (aG 2)<|aj (aG 10) aB) aB)
def xP:Zab:=
 (dg (jB<|az bU (aa 7)<|aY<|aj (aY<|aj (aG 5)<|aj (aG 8) aB) aB) (hName 10) wV)
def xG:Zab:=
 (aK (bc 9<|aY<|aj (fC<|.int 1)<|aj (fC<|.int 1) aB)
 (aK xP
 (qN 3 (aY<|aj (aG 5)<|aj (aG 8) aB)<|aG 9)))
def sH:Zab:=
 (dg (jB<|aG 6) (hName 8) xG)
def xN:Zab:=
 (gIf (aN gEq (aa 4)<|aa 1) sH gNx)
def wJ:Zab:=
 (dg (fL<|aG 0) (iW 4<|bC (hName 4)<|bC (hName 5)<|bC (hName 6)<|bC (hName 7) iM) xN)
def rP (l_6:Zab):Zab:=
 (aK (cX 3 sW)
 (aK l_6
 (gU 3)))
def Bm:Zab:=
 (rP wJ)
def rC:Zac:=aX 11 3 Bm
def jD:Zab:=
 (bc 7<|fFn pJ<|aj (aG 7)<|aj (az jV (aa 2)<|aY<|aj (aG 4)<|aj (aG 8) aB) aB)
def jM:Zab:=
 (dg (jB<|aG 5) (hName 8) jD)
def dR:Zab:=
 (gIf (aN gEq (aa 3)<|aa 1) (aK (bc 7<|aY<|aj (fC<|.int 0)<|aj (fC<|.int 1) aB)
 (aK jM
 (gIf (jz (iC (aN gEq (aa 6)<|aY aB)<|aN gNe (aa 7)<|aY<|aj (fC<|.int 1)<|aj (fC<|.int 1) aB)<|iC (aN gNe (aa 6)<|aY aB)<|aN gNe (aa 7)<|az jV (aa 2)<|az gIx (aa 6)<|fUn uD<|fC<|.int 1) (bM<|fC<|.bl false) gNx))) gNx)
def jQ:Zab:=
 (dg (fL<|aG 0) (iW 4<|bC (hName 3)<|bC (hName 4)<|bC (hName 5)<|bC (hName 6) iM) dR)
def eV (l_4:Zab):Zab:=
 (aK l_4
 (bM<|fC<|.bl true))
def my:Zab:=
 (eV jQ)
def eY:Zac:=aX 9 3 my
def jY:Zab:=
 (gf 1 (aG 2)<|az cI (aa 0)<|aa 2)
def uE:Zab:=
 (dg (Py<|aj (Bc<|aG 0) aB) (hName 2) jY)
def nH (l_2:Zab):Zab:=
 (aK (cX 1 CQ)
 (aK l_2
 (gU 1)))
def wL:Zab:=
 (nH uE)
def nA:Zac:=aX 3 1 wL
def uG:Zaf:=
 (gV<|fTv<|fFn mX<|aj (aG 10) aB)
def An:Zab:=
 (Wx 9 10 uG false)
def O4 (φ_weights_of:Zac)(φ__law_cell_at:Zac)(φ__law_pool:Zac)(φ__law_game:Zac)(φ__law_table:Zac)(φ__law_plan:Zac)(φ__law_pure:Zac)(φ__law_due:Zac)(φ__law_come_together:Zac)(φ__law_about:Zac)(l_2:Zab):Zab:=
 (aK (bc 1<|fFn φ__law_pool<|aj (fFn φ__law_cell_at<|aj (aG 0)<|aj (fC<|.int 0) aB)<|aj (fFn φ__law_cell_at<|aj (aG 0)<|aj (fC<|.int 1) aB) aB)
 (aK (bc 2<|fFn φ__law_cell_at<|aj (aG 0)<|aj (fC<|.int 2) aB)
 (aK (bc 3<|az gIx (fU<|aj (fC<|.int 5)<|aj (fC<|.int 8)<|aj (fC<|.int 12)<|aj (fC<|.int 5) aB)<|az bJ (az du (aa 2)<|fC<|.int 128)<|fC<|.int 4)
 (aK (bc 4<|fFn φ__law_game<|aj (az bU (fSl (aa 0) (fO1<|fC<|.int 6)<|fO1<|fC<|.int 46)<|fU<|aj (fFn φ__law_cell_at<|aj (aG 0)<|aj (fC<|.int 3) aB) aB)<|aj (aG 2)<|aj (aG 3)<|aj (fC<|.int 63)<|aj (aG 1) aB)
 (aK (bc 5<|fFn φ__law_table<|aj (aG 4) aB)
 (aK (bc 6<|az bU (fC<|.int 1)<|az bJ (az du (aa 2)<|fC<|.int 512)<|fC<|.int 2)
 (aK (bc 7<|fFn φ__law_plan<|aj (aG 5)<|aj (aG 6)<|aj (fFn φ__law_cell_at<|aj (aG 0)<|aj (fC<|.int 4) aB) aB)
 (aK (gIf (aN gEq (az bJ (az du (aa 2)<|fC<|.int 1024)<|fC<|.int 4)<|fC<|.int 1) (bc 7<|fFn φ__law_pure<|aj (aG 5)<|aj (aG 6)<|aj (fFn φ__law_cell_at<|aj (aG 0)<|aj (fC<|.int 4) aB) aB) gNx)
 (aK (bc 8<|fFn φ__law_about<|aj (aG 7) aB)
 (aK (cX 9<|Rg φ_weights_of<|aj (aG 4)<|aj (aG 6)<|aj (aG 8) aB)
 (aK (gIf (jz (gV<|fTv<|vd "dict" (aa 9))<|aN Wd (aa 8)<|aa 7) (bM<|fC<|.bl false) gNx)
 (aK l_2
 (aK (bc 11<|fFn φ__law_due<|aj (aG 5)<|aj (aG 6)<|aj (aG 7) aB)
 (aK (gIf (jz (aN RQ (aa 9)<|aa 11)<|gV<|fTv<|YC φ__law_come_together<|aj (aa 5)<|aj (aa 6)<|aj (aa 9) aB) (bM<|fC<|.bl false) gNx)
 (aK (bc 12<|fFn φ__law_plan<|aj (aG 5)<|aj (az dN (fC<|.int 3)<|aa 6)<|aj (fFn φ__law_cell_at<|aj (aG 0)<|aj (fC<|.int 5) aB) aB)
 (aK (gIf (jz (aN RQ (fFn φ_weights_of<|aj (aG 4)<|aj (az dN (fC<|.int 3)<|aa 6)<|aj (aG 12) aB)<|fFn φ__law_due<|aj (aG 5)<|aj (az dN (fC<|.int 3)<|aa 6)<|aj (aG 12) aB)<|aN RQ (aa 9)<|aa 11) (bM<|fC<|.bl false) gNx)
 (aK (Hl 9)
 (bM<|oJ V1 (fFn φ_weights_of<|aj (aG 4)<|aj (aG 6)<|aj (aG 7) aB)<|aa 11))))))))))))))))))
def aar:Zab:=
 (O4 nO fP ph oY jK oX pL rC eY nA An)
def aaI:Zac:=aX 13 1 aar
end
end K19
namespace Pk
open PySem L2 Hd F
def prR (f:D->Rat):List D->Rat
 |[]=>1
 |d::l=>f d*prR f l
theorem QR (hs:s=1\/s=2)(n:Str)(r:Rc)(l:D):gm (rbm s n r l) s=gm r s++[.tup [.str n,l]]:=by grind[gm,rbm]
theorem N5 (hs:s=1\/s=2)(hs':s'=1\/s'=2)(ne:s'≠s)(n:Str)(r:Rc)(l:D):gm (rbm s' n r l) s=gm r s:=by grind[gm,rbm]
open L2 (atI ixN Key)
abbrev PS:=Str×Str
noncomputable def kp (p:PS):List Kt:=[.k<|.inr p.1,.k<|.inr p.2]
def prD (p:PS):D:=.tup [.str p.1,.str p.2]
theorem yE (h:kp p=kp q):p=q:=by
 obtain⟨a,b⟩:=p;obtain⟨c,d⟩:=q;simp[kp] at h;rw[h.1,h.2]
theorem aa1 (p:PS):uz (prD p)=some (kp p):=rfl
theorem G9 (a b:Str):uz (.tup [.str a,.str b])=some (kp (a,b)):=rfl
def dP (ps:List PS)(f:PS->Rat):D:=.dcu (ps.map kp)<|ps.map λp=>rD<|f p
theorem M9 (h:∀p∈ps,f p=g p):dP ps f=dP ps g:=by
 unfold dP;congr 1;exact ox λp hp=>by rw[h p hp]
theorem Mf {f:PS->Rat}{p:PS}:∀{ps:List PS},p∈ps->cA (ps.map kp) (ps.map λp=>rD<|f p) (kp p)=some (rD<|f p)
 |q::ps,h=>by
  rw[ar,ar,cA];by_cases c:q=p
  ·subst c;rw[if_pos rfl]
  ·rw[if_neg λz=>c<|yE z];rcases a8.mp h with z|z
   ·exact absurd z.symm c
   ·exact Mf z
def yX (ps:List PS)(p:PS):List PS:=if p∈ps then ps else ps++[p]
def upF (f:PS->Rat)(p:PS)(v:Rat):PS->Rat:=λq=>if q=p then v else f q
theorem N6:∀ps:List PS,sY (ps.map kp) (ps.map λp=>rD<|f p) (kp p) (rD v)=ps.map λq=>rD (upF f p v q)
 |[]=>rfl
 |q::ps=>by
  rw[ar,ar,sY,N6 ps,ar];congr 1;by_cases c:q=p
  ·subst c;simp[upF]
  ·rw[if_neg λz=>c<|yE z];simp[upF,c]
theorem Mu:D.dcu (gJ (ps.map kp) (ps.map λp=>rD<|f p) (kp p)<|rD v).1 (gJ (ps.map kp) (ps.map λp=>rD<|f p) (kp p)<|rD v).2=dP (yX ps p) (upF f p v):=by
 by_cases c:p∈ps
 ·have a:(ps.map kp).any (λx=>decide<|x=kp p)=true:=List.any_eq_true.mpr ⟨kp p,aT.mpr ⟨p,c,rfl⟩,decide_eq_true rfl⟩;unfold gJ yX;rw[if_pos a,if_pos c,N6];rfl
 ·have a:¬(ps.map kp).any (λx=>decide<|x=kp p)=true:=λz=>by
   obtain⟨x,hx,e⟩:=List.any_eq_true.mp z;obtain⟨q,hq,rfl⟩:=aT.mp hx;exact c<|yE (of_decide_eq_true e)▸hq
  unfold gJ yX;rw[if_neg a,if_neg c];unfold dP;rw[bE,bE];congr 1;rw[show[p].map (λq=>rD<|upF f p v q)=[rD v] by simp[upF]];show(ps.map λq=>rD<|f q)++[rD v]=(ps.map λq=>rD<|upF f p v q)++[rD v];congr 1;exact ox λq hq=>by unfold upF;rw[if_neg<|show ¬q=p from λz=>c<|z▸hq]
def uZ (ps:List PS):List PS->List PS
 |[]=>ps
 |p::l=>uZ (yX ps p) l
theorem V7 (ps:List PS)(p:PS):(yX ps p).length<=ps.length+1:=by unfold yX;split<;>simp
theorem wR:∀(l ps:List PS),(ps++l).Nodup->uZ ps l=ps++l
 |[],ps,_=>by simp[uZ]
 |p::l,ps,h=>by
  have hp:p∉ps:=λz=>by
   rw[hV] at h;exact h.2.2 p z p ah rfl
  rw[uZ,yX,if_neg hp,wR l (ps++[p])<|by simpa using h]
  simp
theorem Aq {X:Type}{h:Zba}{B:Zab}{mk:D->X->Me}{it:PS->D}{val:PS->Rat->Rat}{C:List PS->(PS->Rat)->Prop}{f0:PS->Rat}
  : ∀(L:List PS) (ps:List PS) (f:PS->Rat) (x:X),(∀p∈L,∀ps f x,ps.length<=1000->C ps f->f p=f0 p->(∃m1 x',h (it p) (mk (dP ps f) x)=some m1/\B m1=.ok (.nx,mk (dP (yX ps p)<|upF f p<|val p<|f p) x'))/\C (yX ps p) (upF f p<|val p<|f p))->
  L.Nodup->ps.length+L.length<=1000->C ps f->(∀p∈L,f p=f0 p)->∃x',bj h B (L.map it) (mk (dP ps f) x)=.ok (.nx,mk (dP (uZ ps L) λp=>if p∈L then val p (f p) else f p) x')/\C (uZ ps L) λp=>if p∈L then val p (f p) else f p
 |[],ps,f,x,_,_,_,hc,_=>⟨x,by simp[bj,uZ],by simpa[uZ] using hc⟩
 |p::L,ps,f,x,hs,nd,hl,hc,h0=>by
  obtain⟨⟨m1,x1,e1,e2⟩,c1⟩:=hs p ah ps f x (by simp at hl;lia) hc (h0 p ah);obtain⟨x2,e3,c2⟩:=Aq L (yX ps p) (upF f p<|val p<|f p) x1 (λq hq=>hs q<|af _ hq) (gT.mp nd).2 (by have:=V7 ps p;simp at hl;lia) c1 (λq hq=>by
   have:¬q=p:=λz=>(gT.mp nd).1<|z▸hq
   unfold upF;rw[if_neg this];exact h0 q<|af _ hq)
  have ef:(λq=>if q∈L then val q (upF f p (val p<|f p) q) else upF f p (val p<|f p) q)=λq=>if q∈p::L then val q (f q) else f q:=by
   funext q;by_cases c:q=p
   ·subst c;rw[if_neg (gT.mp nd).1,if_pos ah];simp[upF]
   ·have:q∈p::L↔q∈L:=by simp[c]
    simp only[this,upF,if_neg c]
  rw[ef] at e3 c2;exact⟨x2,(by rw[ar];exact(bG e1 e2).trans e3),c2⟩
structure RS where
 n:Str
 w:List Str
 rc:List PS
def cB (s:Int)(x:RS):D:=.tup [.int s,.str x.n,.tup<|x.w.map .str,.tup<|x.rc.map prD]
def fG (x:RS):List PS:=x.w.map λw=>(x.n,w)
def ω (xs:List RS):List PS:=xs.flatMap fG
def Xw (xs:List RS)(n:Str):RS:=(xs.find? λx=>decide<|x.n=n).getD ⟨n,[],[]⟩
structure XsOk (xs:List RS):Prop where
 nd:(xs.map (·.n)).Nodup
 wd:∀x∈xs,x.w.Nodup/\1<=x.w.length/\x.w.length<=3
 rc:∀x∈xs,∀p∈x.rc,p∈ω xs
 len:xs.length<=8
theorem qG (nd:(xs.map (·.n)).Nodup){x:RS}(h:x∈xs):Xw xs x.n=x:=by
 unfold Xw;induction xs with
 |nil=>cases h
 |cons y xs ih=>
  rw[ar,gT] at nd;rw[lh];rcases a8.mp h with rfl|z
  ·simp
  ·have:¬y.n=x.n:=λe=>nd.1 (e▸aT.mpr ⟨x,z,rfl⟩)
   rw[decide_eq_false this];exact ih nd.2 z
theorem uA (x:RS)(xs:List RS):ω (x::xs)=fG x++ω xs:=by simp[ω]
theorem uH (xs ys:List RS):ω (xs++ys)=ω xs++ω ys:=by simp[ω]
theorem HH:∀{xs:List RS},(xs.map (·.n)).Nodup->(∀x∈xs,x.w.Nodup)->(ω xs).Nodup
 |[],_,_=>ny
 |x::xs,nd,hw=>by
  rw[ar,gT] at nd;rw[uA,hV];refine⟨?_,HH nd.2 λy hy=>hw y<|af _ hy,λp hp q hq e=>?_⟩
  ·unfold fG;exact fR.mpr<|(hw x ah).imp λ{a b} h z=>h (xk z).2
  ·subst e;obtain⟨w,_,rfl⟩:=aT.mp hp;obtain⟨y,hy,hq⟩:=iE.mp hq;obtain⟨v,_,e⟩:=aT.mp hq;exact nd.1<|aT.mpr ⟨y,hy,(xk e).1⟩
theorem DX (h:∀x∈xs,x.w.length<=3):(ω xs).length<=3*xs.length:=by
 induction xs with
 |nil=>simp[ω]
 |cons x xs ih=>
  have:=ih λy hy=>h y<|af _ hy
  have h1:=h x ah;rw[uA,bg];simp[fG]
  lia
def fS (xs:List RS)(u:Str->List Rat):PS->Rat:=λp=>(u p.1).getD ((Xw xs p.1).w.idxOf p.2) 0
open L2 (atI ixN Key)
theorem KC (s:Int)(x:RS):gIx (cB s x) (.int 0)=some (.int s)/\gIx (cB s x) (.int 1)=some (.str x.n)/\gIx (cB s x) (.int 2)=some (.tup<|x.w.map .str)/\gIx (cB s x) (.int 3)=some (.tup<|x.rc.map prD):=⟨rfl,rfl,rfl,rfl⟩
theorem szP {ps:List PS}(h:ps.length<=1000):(ps.map kp).length<aw:=by rw[bp];exact pj h<|by decide
abbrev hZ2:Zba:=iW 2<|bC (hName 4)<|bC (hName 5) iM
theorem VH (hz:ps.length<=1000):
  eF [a0,a1,.ow<|dP ps f,.fz<|cB s x,.fz<|.str w,.fz<|rD v]=.ok (.nx,[a0,a1,.ow<|dP (yX ps (x.n,w))<|upF f (x.n,w) v,.fz<|cB s x,.fz<|.str w,.fz<|rD v]):=by
 obtain⟨_,r1,_,_⟩:=KC s x;have hz':=szP hz;rw[← Mu];unfold dP;generalize hq:gJ (ps.map kp) (ps.map λp=>rD<|f p) (kp (x.n,w)) (rD v)=q
 have:=G9 x.n w
 simp[eF,qN,aG,zc,aY,aj,aB,az,aa,fC,r1,this,hq,ni];simpa using hz'
theorem abY (u:List Rat)(φ:PS->Rat){ps:List PS}{f:PS->Rat}{s4 s5:Sl}(hu:u.length=x.w.length)(nw:x.w.Nodup)(hφ:∀j w,x.w[j]? = some w->φ (x.n,w)=u.getD j 0)(hz:ps.length+x.w.length<=1000):
  ∃s4' s5',bj hZ2 eF (zr (x.w.map .str)<|u.map rD) [a0,a1,.ow<|dP ps f,.fz<|cB s x,s4,s5]=.ok (.nx,[a0,a1,.ow<|dP (uZ ps<|fG x) λp=>if p∈fG x then φ p else f p,.fz<|cB s x,s4',s5']):=by
 have ez:zr (x.w.map .str) (u.map rD)=(fG x).map λp=>.tup [.str p.2,rD<|φ p]:=by
  unfold fG;rw[fm]
  have:∀(ws:List Str) (us:List Rat),us.length=ws.length->(∀j w,ws[j]? = some w->φ (x.n,w)=us.getD j 0)->zr (ws.map .str) (us.map rD)=ws.map ((λp:PS=>D.tup [.str p.2,rD<|φ p])∘λw=>(x.n,w)):=by
   intro ws;induction ws with
   |nil=>intro us h _;cases us<;>first|rfl|cases h
   |cons w ws ih=>
    intro us h hj;cases us with
    |nil=>cases h
    |cons v us=>
     rw[ar,ar,ar,zr,ih us (by simpa using h) λj w' hw=>by simpa using hj (j+1) w' (by simpa using hw)];have h0:φ (x.n,w)=v:=by simpa using hj 0 w rfl
     congr 1;show D.tup [.str w,rD v]=D.tup [.str w,rD<|φ (x.n,w)];rw[h0]
  exact this x.w u hu hφ
 rw[ez];obtain⟨⟨t4,t5⟩,e,_⟩:=Aq (X:=Sl×Sl) (h:=hZ2) (B:=eF) (mk:=λd y=>[a0,a1,.ow d,.fz<|cB s x,y.1,y.2]) (it:=λp=>.tup [.str p.2,rD<|φ p]) (val:=λp _=>φ p) (C:=λ_ _=>True) (fG x) ps f (s4,s5) (λp hp ps f y hl _ _=>by
  obtain⟨w,hw,rfl⟩:=aT.mp hp;exact⟨⟨_,(.fz<|.str w,.fz<|rD<|φ (x.n,w)),rfl,VH hl⟩,trivial⟩) (by unfold fG;exact fR.mpr<|nw.imp λ{a b} h z=>h (xk z).2) (by simp[fG];lia) trivial (λ_ _=>rfl)
 exact⟨t4,t5,e⟩
open L2 (atI ixN Key)
def fD (f:PS->Rat):D->Rat
 | .tup [.str a,.str b]=>f (a,b)
 |_=>0
theorem Jq (f:PS->Rat)(p:PS):fD f (prD p)=f p:=rfl
theorem QJ (h:p∈ps):jV (dP ps f) (prD p)=some (rD<|f p):=by
 unfold jV;rw[aa1];exact Mf h
def wS (xs:List RS)(f:PS->Rat):PS->Rat:=λp=>prR (fD f) ((Xw xs p.1).rc.map prD)*f p
open L2 (atI ixN Key)
open L2 (atI ixN Key)
open L2 (atI ixN Key)
theorem ab4 (hc:c<=3)(hk:k<c):okS 20 (uni c k) c:=by
 refine⟨by simp[uni],λx hx=>?_,?_,by simp[uni];exact hc⟩
 ·unfold uni at hx;obtain⟨j,_,rfl⟩:=aT.mp hx;split
  ·exact⟨by decide,Hc.mono<|by decide⟩
  ·exact⟨by decide,Ak.mono<|by decide⟩
 ·have h:c=1\/c=2\/c=3:=by lia
  rcases h with rfl|rfl|rfl
  ·have:k=0:=by lia
   subst this;decide +kernel
  ·have:k=0\/k=1:=by lia
   rcases this with rfl|rfl<;>decide +kernel
  ·have:k=0\/k=1\/k=2:=by lia
   rcases this with rfl|rfl|rfl<;>decide +kernel
end Pk
namespace Lw
open PySem L2 Hd F Pk
theorem Pb (s:Int):((rowsOf g s).map nmR).Nodup:=by
 have T:=Ai (prG [] ([],[]) g) ([],[]) ⟨rfl,ny⟩;have nd:=T.2;rw[T.1] at nd;have pw:(tbl<|prG [] ([],[]) g).2.Pairwise λa b=>kOf a≠kOf b:=fR.mp nd;refine fR.mpr<|(pw.filter λd=>decide<|sdD d=s).imp_of_mem λ{a b} ha hb h z=>h ?_;obtain⟨a1,a2⟩:=dy.mp ha;obtain⟨b1,b2⟩:=dy.mp hb;obtain⟨s1,n1,w1,r1,rfl⟩:=wW a1;obtain⟨s2,n2,w2,r2,rfl⟩:=wW b1;have e1:s1=s:=of_decide_eq_true a2;have e2:s2=s:=of_decide_eq_true b2;have e3:n1=n2:=z;show kn s1 n1=kn s2 n2;rw[e1,e2,e3]
mutual
theorem adJ (hs:s=1\/s=2):∀(g:Gm) (w:List Int) (r:Rc),(∀t∈prG w r g,∀s' n ws,t.2.1=.move s' n ws->s'=1\/s'=2)->∀t∈prG w r g,∀q∈gm t.2.2 s,q∈gm r s\/∃t'∈prG w r g,∃n ws l,t'.2.1=.move s n ws/\l∈fJ ws/\q=.tup [.str n,l]
 | .fin d,w,r,_,t,ht,q,hq=>by
  cases cb.mp ht;exact .inl hq
 | .deal n ws,w,r,hsd,t,ht,q,hq=>by
  rcases a8.mp ht with rfl|z
  ·exact .inl hq
  ·rcases acV hs ws w (λ_=>r) 0 (λt ht=>hsd t<|af _ ht) t z q hq with⟨l,_,h⟩|⟨t',h1,h2⟩
   ·exact .inl h
   ·exact .inr ⟨t',af _ h1,h2⟩
 | .move s' n ws,w,r,hsd,t,ht,q,hq=>by
  rcases a8.mp ht with rfl|z
  ·exact .inl hq
  ·rcases acV hs ws w (rbm s' n r) 0 (λt ht=>hsd t<|af _ ht) t z q hq with⟨l,hl,h⟩|⟨t',h1,h2⟩
   ·have hs':=hsd (w,.move s' n ws,r) ah s' n ws rfl;by_cases c:s'=s
    ·subst c;rw[QR hs] at h;rcases c6.mp h with h|h
     ·exact .inl h
     ·exact .inr ⟨(w,.move s' n ws,r),ah,n,ws,l,rfl,hl,cb.mp h⟩
    ·rw[N5 hs hs' c] at h;exact .inl h
   ·exact .inr ⟨t',af _ h1,h2⟩
theorem acV (hs:s=1\/s=2):∀(ws:Ws) (w:List Int) (f:D->Rc) (i:Nat),(∀t∈prW w f i ws,∀s' n ws,t.2.1=.move s' n ws->s'=1\/s'=2)->∀t∈prW w f i ws,∀q∈gm t.2.2 s,(∃l∈fJ ws,q∈gm (f l) s)\/∃t'∈prW w f i ws,∃n ws l,t'.2.1=.move s n ws/\l∈fJ ws/\q=.tup [.str n,l]
 | .nil,_,_,_,_,t,ht,_,_=>by cases ht
 | .cons l g r,w,f,i,hsd,t,ht,q,hq=>by
  rcases c6.mp ht with z|z
  ·rcases adJ hs g (w++[(i:Int)]) (f l) (λt ht=>hsd t<|fT _ ht) t z q hq with h|⟨t',h1,h2⟩
   ·exact .inl ⟨l,ah,h⟩
   ·exact .inr ⟨t',fT _ h1,h2⟩
  ·rcases acV hs r w f (i+1) (λt ht=>hsd t<|cp _ ht) t z q hq with⟨l',hl,h⟩|⟨t',h1,h2⟩
   ·exact .inl ⟨l',af _ hl,h⟩
   ·exact .inr ⟨t',cp _ h1,h2⟩
end
theorem Wy (G:Gd g){t:Tr3}(h:t∈prG [] ([],[]) g){s:Int}{n:Str}{ws:Ws}(e:t.2.1=.move s n ws):gM s n ws t.2.2∈rowsOf g s:=by
 obtain⟨d,hd,t',ht',ws',e',rfl⟩:=aap h e;obtain⟨ρ,hρ⟩:=G.row;have r1:=(hρ t h s n ws e).1;have r2:=(hρ t' ht' s n ws' e').1;rw[r1,← r2];exact dy.mpr ⟨hd,decide_eq_true<|show sdD (gM s n ws' t'.2.2)=s from rfl⟩
theorem PQ (h:gM s n ws r=cB s x):x.n=n/\fJ ws=x.w.map .str/\gm r s=x.rc.map prD:=by simp_all[gM,cB]
theorem Qd:∀{rc:List D},Pr rc->∃ps:List PS,rc=ps.map prD
 |[],_=>⟨[],rfl⟩
 |d::rc,h=>by
  obtain⟨ps,e⟩:=Qd (rc:=rc) λd hd=>h d<|af _ hd;obtain⟨a,b,rfl⟩:=h d ah;exact⟨(a,b)::ps,by rw[e];rfl⟩
theorem aaR {s:Int}{P:RS->Prop}:∀{l:List D},(∀d∈l,∃x,d=cB s x/\P x)->∃xs:List RS,l=xs.map (cB s)/\∀x∈xs,P x
 |[],_=>⟨[],rfl,λ_ z=>by cases z⟩
 |d::l,h=>by
  obtain⟨xs,e,hx⟩:=aaR (l:=l) λd hd=>h d<|af _ hd;obtain⟨x,rfl,px⟩:=h d ah;exact⟨x::xs,by rw[e];rfl,λy hy=>by
   rcases a8.mp hy with rfl|z
   ·exact px
   ·exact hx y z⟩
theorem ZQ (E:nC e)(nd:e.pool.Nodup){n:Int}{c:Nat}(hn:0<=n)(hc:c<=3):((cf c).map λ(k:Nat)=>wordAt e n k).Nodup:=by
 refine fR.mpr<|List.Pairwise.imp_of_mem ?_<|xt (n:=c);intro a b ha hb ne z;have ha:=kH.mp ha;have hb:=kH.mp hb;have t0:=E.t0;have p8:=E.p8;unfold wordAt at z;have l1:((3*n+(a:Int)+e.turn/8)%8).toNat<e.pool.length:=by lia
 have l2:((3*n+(b:Int)+e.turn/8)%8).toNat<e.pool.length:=by lia
 rw[b9,av l1,b9,av l2] at z;have i1:=lT nd _ l1;have i2:=lT nd _ l2;have z:e.pool[((3*n+(a:Int)+e.turn/8)%8).toNat]=e.pool[((3*n+(b:Int)+e.turn/8)%8).toNat]:=z;rw[z,i2] at i1
 lia
theorem Zk {e:En}(E:nC e)(nd:e.pool.Nodup){N:Nd}{m:Int×Int}(I:oV N m){g:Gm}{dep:Nat}(hd:dep<=12)(Gr:Grw e N ([],[]) g dep)(hz:szG g<=64){s:Int}(hs:s=1\/s=2):∃xs:List RS,rowsOf g s=xs.map (cB s)/\XsOk xs:=by
 have G:=Wf E nd I hd Gr hz;obtain⟨xs,ex,hx⟩:=aaR (s:=s) (P:=λx=>x.w.Nodup/\1<=x.w.length/\x.w.length<=3) (l:=rowsOf g s) λd hd=>by
  obtain⟨h1,h2⟩:=dy.mp hd;obtain⟨s',n,_,rc,c,b,k,hp,_,_,k0,_,hc,_,rfl⟩:=xg Gr h1;have es:s'=s:=of_decide_eq_true h2;subst es;obtain⟨ps,rfl⟩:=Qd hp;refine⟨⟨n,(cf c).map λ(j:Nat)=>wordAt e k j,ps⟩,?_,ZQ E nd k0 hc.2,by simpa using hc⟩;unfold cB;rw[fm];rfl
 have sd:∀t∈prG [] ([],[]) g,∀s' n ws,t.2.1=.move s' n ws->s'=1\/s'=2:=λt ht s' n ws e=>(QF G ht e).1;have find:∀{t:Tr3},t∈prG [] ([],[]) g->∀{n:Str} {ws:Ws},t.2.1=.move s n ws->∃x∈xs,gM s n ws t.2.2=cB s x:=λ{t} ht {n ws} e=>by
  have:=Wy G ht e
  rw[ex] at this;obtain⟨x,hx,e⟩:=aT.mp this;exact⟨x,hx,e.symm⟩
 have snd:=Pb (g:=g) s;refine⟨xs,ex,⟨?_,hx,λx hxm p hp=>?_,?_⟩⟩
 ·rw[ex,fm] at snd;exact snd
 ·have hm:cB s x∈rowsOf g s:=by rw[ex];exact aT.mpr ⟨x,hxm,rfl⟩
  obtain⟨h1,_⟩:=dy.mp hm;rcases uR (prG [] ([],[]) g) ([],[]) _ h1 with z|⟨t,ht,s',n,ws,et,er⟩
  ·cases z
  ·have es:s'=s:=by
    have:=congrArg sdD er
    exact this.symm
   subst es;obtain⟨_,_,e3⟩:=PQ er.symm;have hq:prD p∈gm t.2.2 s':=by rw[e3];exact aT.mpr ⟨p,hp,rfl⟩
   rcases adJ hs g [] ([],[]) sd t ht _ hq with z|⟨t',ht',n',ws',l,e',hl,eq⟩
   ·rcases hs with rfl|rfl<;>simp[gm] at z
   ·obtain⟨y,hy,ey⟩:=find ht' e';obtain⟨f1,f2,_⟩:=PQ ey;rw[f2] at hl;obtain⟨v,hv,rfl⟩:=aT.mp hl;unfold prD at eq;simp at eq;refine iE.mpr ⟨y,hy,aT.mpr ⟨v,hv,?_⟩⟩;rw[f1];exact BN eq.1.symm eq.2.symm
 ·have:(rowsOf g s).length<=8:=by
   rcases hs with rfl|rfl
   ·exact G.t1.1
   ·exact G.t2.1
  rw[ex] at this;simpa using this
theorem O2 (X:XsOk xs)(hx:x∈xs)(hu:(u x.n).length=x.w.length):u x.n=x.w.map λw=>fS xs u (x.n,w):=by
 refine xo (by simp[hu]) λj h1 h2=>?_;have hj:j<x.w.length:=by lia
 rw[xp];unfold fS;rw[qG X.nd hx];rw[lT (X.wd x hx).1 j hj];rw[b9,av h1];rfl
theorem Jp (x:Rat)(f:Str->Rat):∀l:List Str,(l.map λw=>x*f w).sum=x*(l.map f).sum
 |[]=>by simp
 |w::l=>by rw[ar,ka,Jp x f l,ar,ka];grind
end Lw
namespace K19
open PySem L2 Hd F Pk Lw
open L2 (atI ixN Key)
theorem Zx {E:Zae}{s0 s1 s2 s3 s4:Sl}{c a:D}{l:List D}{χ:List D}(e2:pH (aj (aa 5) aB) [s0,s1,s2,s3,s4,.fz c,.fz a]=.ok χ)(ec:fK (hName 0) jn E [.un,.fz a] χ=.ok l)(hl:χ.length<=1000):dX 1 [6] (pH<|aj (aa 5) aB) (hName 0) jn E [s0,s1,s2,s3,s4,.fz c,.fz a]=.ok (.lst l):=by
 have z1:χ.length<=16777216:=by omega
 unfold dX;rw[e2];simp[cMe,Sl.bor,ec,z1]
theorem afk {s0 s1 s2 s3 s4:Sl}{c k:Nat}(hc:c<=100):vo [s0,s1,s2,s3,s4,.fz<|.int (c:Int),.fz<|.int (k:Int)]=.ok (.lst<|(uni c k).map rD):=by
 have e1:(aj (aa 5) aB) [s0,s1,s2,s3,s4,.fz<|.int (c:Int),.fz<|.int (k:Int)]=.ok [.int (c:Int)]:=by simp[aj,aa,aB]
 have e2:=GD e1 (by omega) (by omega);have ec:fK (hName 0) jn lK [.un,.fz<|.int (k:Int)] ((cf (c:Int).toNat).map λ(j:Nat)=>D.int j)=.ok ((cf (c:Int).toNat).map λj=>rD<|if j=k then 1 else 0):=iz _ λj _=>by
  refine⟨[.fz<|.int j,.fz<|.int k],rfl,rfl,?_⟩;have r1:rD 1=.tup [.int 1,.int 1]:=rfl;have r0:rD 0=.tup [.int 0,.int 1]:=rfl;have g1:Xe [.bl true]=some (.int 1):=rfl;have g0:Xe [.bl false]=some (.int 0):=rfl;by_cases z:j=k
  ·subst z;simp[lK,aY,aQ,oJ,aj,aB,aa,fC,g1,r1]
  ·have:¬((j:Int)=k):=by omega
   simp[lK,aY,aQ,oJ,aj,aB,aa,fC,g0,r0,z,this]
 have eu:(uni c k).map rD=(cf (c:Int).toNat).map λj=>rD (if j=k then 1 else 0):=by
  unfold uni;rw[fm];rfl
 rw[eu];exact Zx e2 ec (by simp;omega)
def puB (Fm:Zac)(Q:Zae):Zab:=
 (gIf (aN gEq (az gIx (az gIx (aa 0)<|aa 4)<|fC<|.int 0)<|aa 1) (aK (bc 5<|aQ dW<|aj (az gIx (az gIx (aa 0)<|aa 4)<|fC<|.int 2) aB)
 (aK (bc 6<|az bJ (az du (fFn Fm<|aj (aG 2)<|aj (az bU (az fB (fC<|.int 5)<|aa 4)<|fC<|.int 2) aB)<|fC<|.int 7)<|aa 5)
 (gf 3 (az gIx (az gIx (aa 0)<|aa 4)<|fC<|.int 1)<|aQ gh<|aj Q aB))) gNx)
theorem acU {Fm:Zac}{Q:Zae}{Rows:List D}{row W:D}{l:List D}{s cell x:Int}{n:Str}{ks:List Key}{ds:List D}{w k:Nat}{i:Nat}{s5 s6:Sl}(hi:Bq (i:Int))(ix:gIx (.lst Rows) (.int i)=some row)(r0:gIx row (.int 0)=some (.int s))(r1:gIx row (.int 1)=some (.str n))(r2:gIx row (.int 2)=some W)(ln:dW [W]=some (.int (w:Int)))(hw:1<=w/\w<=3)
  (ex:Fm [.int cell,.int<|5*i+2]=.ok (false,.int x)) (hx:Bq x) (hk:x/7%(w:Int)=k) (eq:Q [.fz<|.lst Rows,.fz<|.int s,.fz<|.int cell,.ow<|.dct ks ds,.fz<|.int i,.fz<|.int (w:Int),.fz<|.int (k:Int)]=.ok (.lst l)) (hz:ks.length<=1000):
  puB Fm Q [.fz<|.lst Rows,.fz<|.int s,.fz<|.int cell,.ow<|.dct ks ds,.fz<|.int i,s5,s6]=.ok (.nx,[.fz<|.lst Rows,.fz<|.int s,.fz<|.int cell,.ow<|.dct (putD ks ds (.inr n)<|.tup l).1 (putD ks ds (.inr n)<|.tup l).2,.fz<|.int i,.fz<|.int (w:Int),.fz<|.int (k:Int)]):=by
 have b5:Bq 5:=bgS (by decide);have b7:Bq 7:=bgS (by decide);have bw:Bq (w:Int):=bgS (by omega);have wn:¬((w:Int)=0):=by omega
 have wn':¬(w=0):=by omega
 have hz':ks.length<16777216:=by omega
 have gt:gh [.lst l]=some (.tup l):=rfl;have w0:0<w:=by omega
 generalize hp:putD ks ds (.inr n) (.tup l)=p;obtain⟨p1,p2⟩:=p;simp[puB,gIf,aK,bc,aN,az,aa,ix,fC,r0,r1,r2,aQ,ln,gf,fFn,aj,aB,aG,fB,bU,b5,b7,bw,hi,ex,hx,du,dvI,bJ,mdI,wn,wn',w0,hk,eq,gt,z9,uW,hz',Bo,hp]
theorem ZX {Fm:Zac}{Q:Zae}{Rows:List D}{row:D}{s a:Int}{S2 S3 s5 s6:Sl}{i:Nat}(ix:gIx (.lst Rows) (.int i)=some row)(r0:gIx row (.int 0)=some (.int a))(c:¬a=s):
  puB Fm Q [.fz<|.lst Rows,.fz<|.int s,S2,S3,.fz<|.int i,s5,s6]=.ok (.nx,[.fz<|.lst Rows,.fz<|.int s,S2,S3,.fz<|.int i,s5,s6]):=by
 simp[puB,gIf,aN,az,aa,ix,fC,r0,c,gNx]
theorem acM {L:Zab}{a b c r:D}{s4 s5 s6:Sl}(eL:L [.fz a,.fz b,.fz c,.ow<|.dct [] [],.un,.un,.un]=.ok (.nx,[.fz a,.fz b,.fz c,.ow r,s4,s5,s6])):aX 7 3 (o6 L) [a,b,c]=.ok (true,r):=by
 simp[o6,aX,aK,cX,CQ,eL,gU]
structure aeg (Rows:List D):Prop where
 len:Rows.length<=100
 row:∀d∈Rows,xx d/\1<=wdD d/\wdD d<=3
 nd:∀s:Int,((Rows.filter λd=>decide (sdD d=s)).map nmR).Nodup
theorem Xr {Rows:List D}(s cell:Int)(T:aeg Rows):
  ∃q,pL [.lst Rows,.int s,.int cell]=.ok (true,cC (Rows.filter λd=>decide<|sdD d=s) q)/\∀d∈Rows.filter (λd=>decide<|sdD d=s),∃k,k<wdD d/\q (nmR d)=uni (wdD d) k:=by
 have hl:=T.len;obtain⟨q,⟨t4,t5,t6⟩,e,h⟩:=xU (X:=Sl×Sl×Sl) (h:=hName 4) (B:=qx) (it:=λk _=>.int k) (mk:=λr y=>[.fz<|.lst Rows,.fz<|.int s,.fz<|.int cell,.ow r,y.1,y.2.1,y.2.2]) (s:=s) (P:=λd l=>∃k,k<wdD d/\l=uni (wdD d) k) (Rows:=Rows) (λk d y ks ds hk hz=>by
  obtain⟨⟨a,n,ws,r,rfl⟩,hw⟩:=T.row d<|nh hk;have hk':k<Rows.length:=by
   rcases mI k Rows.length with z|z
   ·exact z
   ·rw[i7 z] at hk;cases hk
  have ix:gIx (.lst Rows) (.int k)=some (gM a n ws r):=lL hk;obtain⟨r0,r1,r2⟩:=Gw (s:=a) (n:=n) (ws:=ws) (r:=r);refine⟨_,rfl,λc=>⟨(.fz<|.int k,y.2.1,y.2.2),ZX ix r0 c⟩,λc=>?_⟩;have c':a=s:=c;subst c';obtain⟨x,ex,hx⟩:=Bw cell (5*k+2) (by omega);have m0:=lI (x/7) (show((wdD (gM a n ws r):Nat):Int)≠0 by omega);have m1:=ja (x/7) (show 0<((wdD (gM a n ws r):Nat):Int) by omega);have bx:Bq x:=bgS (by have:=hx.1;have:=hx.2;omega);refine⟨(.fz<|.int k,.fz<|.int (wdD (gM a n ws r):Nat),.fz<|.int ((x/7%(wdD (gM a n ws r):Nat)).toNat:Nat)),uni (wdD<|gM a n ws r) (x/7%(wdD (gM a n ws r):Nat)).toNat,⟨_,by omega,rfl⟩,?_⟩;exact acU (k:=(x/7%(wdD (gM a n ws r):Nat)).toNat) (bgS<|by omega) ix r0 r1 r2 rfl hw ex bx (by omega) (afk<|by omega) hz) (by omega) Rows [] [] (λ_=>[]) (.un,.un,.un) rfl (by simp) (by simpa using T.nd s) (λ_ z=>by cases z)
 refine⟨q,?_,by simpa using h⟩;rw[kS,Gq] at e;have e1:(aj (aQ dW<|aj (aa 0) aB) aB) [.fz<|.lst Rows,.fz<|.int s,.fz<|.int cell,.ow<|.dct [] [],.un,.un,.un]=.ok [.int (Rows.length:Int)]:=by
  have:dW [.lst Rows]=some (.int Rows.length):=by simp[dW]
  simp[aj,aB,aQ,aa,this]
 have e2:=GD e1 (by omega) (by omega);have eL:pN [.fz<|.lst Rows,.fz<|.int s,.fz<|.int cell,.ow<|.dct [] [],.un,.un,.un]=.ok (.nx,[.fz<|.lst Rows,.fz<|.int s,.fz<|.int cell,.ow<|cC (Rows.filter λd=>decide<|sdD d=s) q,t4,t5,t6]):=by
  unfold pN dg;rw[e2];show bj (hName 4) qx ((cf Rows.length).map λ(k:Nat)=>D.int k) _=_;rw[f6];exact e
 exact acM eL
theorem acs {Fl Fw:Zac}{a b:Int}(hw:∀i,Fw [.int i]=.ok (false,.bl true))(hb:0<b)(h:Fl [.int a,.int b]=.ok (false,.tup [.int a,.int b])):aX 1 1 (iY Fl Fw) [.tup [.int a,.int b]]=.ok (false,.bl true):=by
 have x0:∀a b:D,atI [a,b] 0=some a:=λ_ _=>rfl;have x1:∀a b:D,atI [a,b] 1=some b:=λ_ _=>rfl;have l2:dW [.tup [.int a,.int b]]=some (.int 2):=rfl;have it:vd "tuple" (aa 0) [.fz<|.tup [.int a,.int b]]=.ok (.bl true):=rfl;have ge:gEq (.tup [.int a,.int b]) (.tup [.int a,.int b])=some true:=Vl rfl (show(1:Nat)<=64 by decide);simp[aX,iY,aK,gIf,jz,gV,fTv,it,aN,aQ,aj,aB,aa,l2,fC,gNe,gNx,fFn,az,gIx,x0,x1,hw,bM,Me.let,Sl.let,BL,oJ,gGt,hb,h,ge]
theorem adE {x:Rat}{k:Nat}(h:Sz k x)(hk:k<=4000):mX [rD x]=.ok (false,.bl true):=by
 have g1:=ik x;have e:=vI (t:=x.num) (b:=x.den) (by omega) (Jm h hk).2;have ed:cq x.num x.den=x:=pf x;rw[ed,pG] at e;rw[pG];exact acs (λ_=>rfl) (by omega) e
theorem wA {Rs:List D}{q:Str->List Rat}{n:Str}(h:∃d∈Rs,nmR d=n):cI (cC Rs q) (.str n)=some (.tup<|(q n).map rD):=by
 have hv:=wD (λn=>.tup<|(q n).map rD) Rs h;unfold cI cC;simp only[uW,xw];exact hv
theorem Zz {P:D}{ks:List Key}{ds:List D}{n:Str}{v:D}(h:cI P (.str n)=some v)(hz:ks.length<=1000):
  jY [.fz P,.ow<|.dct ks ds,.fz<|.str n]=.ok (.nx,[.fz P,.ow<|.dct (putD ks ds (.inr n) v).1 (putD ks ds (.inr n) v).2,.fz<|.str n]):=by
 have hz':ks.length<16777216:=by omega
 generalize hp:putD ks ds (.inr n) v=p;obtain⟨p1,p2⟩:=p;simp[jY,gf,aG,az,aa,h,z9,uW,hz',Bo,hp]
theorem Oi {Rs:List D}{q:Str->List Rat}:∀(rest done:List D) (u:Sl),(∀d∈rest,d∈Rs)->((done++rest).map nmR).Nodup->done.length+rest.length<=1000->
  ∃u',bj (hName 2) jY (rest.map λd=>.str<|nmR d) [.fz<|cC Rs q,.ow<|cC done q,u]=.ok (.nx,[.fz<|cC Rs q,.ow<|cC (done++rest) q,u'])
 |[],done,u,_,_,_=>⟨u,by simp[bj]⟩
 |d::rest,done,u,hm,nd,hl=>by
  have hn:∀d'∈done,nmR d'≠nmR d:=λd' hd' z=>by
   rw[bE,hV] at nd;exact nd.2.2 (nmR d') (aT.mpr ⟨d',hd',rfl⟩) (nmR d) (by rw[ar];exact ah) z
  have st:=Zz (P:=cC Rs q) (ks:=done.map λd=>.inr<|nmR d) (ds:=done.map λd=>.tup<|(q<|nmR d).map rD) (wA (q:=q) ⟨d,hm d ah,rfl⟩) (by rw[bp];omega);rw[Qh hn,show(λn=>if n=nmR d then q (nmR d) else q n)=q by funext n;split<;>simp_all] at st;obtain⟨u',e⟩:=Oi (Rs:=Rs) (q:=q) rest (done++[d]) (.fz<|.str<|nmR d) (λd' h=>hm d'<|af _ h) (by simpa using nd) (by simp at hl ⊢;omega);refine⟨u',?_⟩;rw[ar];refine(bG rfl st).trans ?_;rw[e]
  simp
theorem abq {L:Zab}{a r:D}{u:Sl}(eL:L [.fz a,.ow<|.dct [] [],.un]=.ok (.nx,[.fz a,.ow r,u])):aX 3 1 (nH L) [a]=.ok (true,r):=by
 simp[nH,aX,aK,cX,CQ,eL,gU]
theorem Ue {Rs:List D}{q:Str->List Rat}(nd:(Rs.map nmR).Nodup)(hl:Rs.length<=1000):nA [cC Rs q]=.ok (true,cC Rs.reverse q):=by
 obtain⟨u,e⟩:=Oi (Rs:=Rs) (q:=q) Rs.reverse [] .un (by simp) (by rw[kS,List.map_reverse];exact List.pairwise_reverse.mpr<|nd.imp λh z=>h z.symm) (by simpa using hl);refine abq (u:=u) ?_;unfold uE dg;have it:Py (aj (Bc<|aG 0) aB) [.fz<|cC Rs q,.ow<|.dct [] [],.un]=.ok (Rs.reverse.map λd=>.str<|nmR d):=by
  have ek:(Rs.map λd=>(vF (nmR d):Key)).map keyV=Rs.map λd=>.str (nmR d):=by rw[fm];rfl
  simp[Py,aj,aB,Bc,aG,cC,ek]
 rw[it];exact e
theorem aaL:∀l:List Rat,pR (l.map rD)=true/\mH (l.map rD)<=1
 |[]=>⟨rfl,by decide⟩
 |x::l=>by
  obtain⟨h1,h2⟩:=aaL l;refine⟨by simp[pR,h1,okD,pG],?_⟩;simp only[ar,mH]
  have:qb (rD x)=1:=by simp[pG,qb,mH]
  omega
theorem adR (l:List Rat):lg (.tup<|l.map rD) (.tup<|l.map rD)=some true:=by
 obtain⟨h1,h2⟩:=aaL l;exact o7 (by simpa[okD] using h1) (by simp[qb];omega)
theorem Ny {Rs:List D}{q:Str->List Rat}:∀{Ms:List D},(∀d∈Ms,d∈Rs)->Ea (Rs.map λd=>.inr<|nmR d) (Rs.map λd=>.tup<|(q<|nmR d).map rD) (Ms.map λd=>.inr<|nmR d) (Ms.map λd=>.tup<|(q<|nmR d).map rD)=some true
 |[],_=>rfl
 |a::Ms,h=>by
  rw[ar,ar];unfold Ea;rw[wD (λn=>.tup<|(q n).map rD) Rs ⟨a,h a ah,rfl⟩];simp only[adR,xw,Ny λn hn=>h n<|af _ hn,iq,Bool.and_true]
theorem aci {Rs Ms:List D}{q:Str->List Rat}(hl:Ms.length=Rs.length)(h:∀d∈Ms,d∈Rs):Wd (cC Ms q) (cC Rs q)=some false:=by
 have:Yj (cC Ms q) (cC Rs q)=some true:=by
  show(if(Ms.map _).length=(Rs.map _).length then _ else _)=_;rw[if_pos<|by simp[hl]];exact Ny h
 unfold Wd;rw[this];rfl
open L2 (atI ixN Key)
def Behind (s:Int)(P:Tr3->Prop)(q:List D):Prop:=∃t',P t'/\∃n ws l,t'.2.1=.move s n ws/\l∈fJ ws/\q=gm t'.2.2 s++[.tup [.str n,l]]
mutual
theorem Tu {s:Int}(hs:s=1\/s=2):∀(g:Gm) (w:List Int) (r:Rc),(∀t∈prG w r g,∀s' n ws,t.2.1=.move s' n ws->s'=1\/s'=2)->∀t∈prG w r g,(gm t.2.2 s).length<=(gm r s).length+dp g/\(gm t.2.2 s=gm r s\/Behind s (·∈prG w r g) (gm t.2.2 s))
 | .fin d,w,r,_,t,ht=>by
  cases cb.mp ht;exact⟨ku _ _,.inl rfl⟩
 | .deal n ws,w,r,hsd,t,ht=>by
  rcases a8.mp ht with rfl|z
  ·exact⟨ku _ _,.inl rfl⟩
  ·obtain⟨l,_,h,k⟩:=Wt hs ws w (λ_=>r) 0 (λt ht=>hsd t<|af _ ht) t z;refine⟨by rw[dp];omega,k.imp id λ⟨t',h1,h2⟩=>⟨t',af _ h1,h2⟩⟩
 | .move s' n ws,w,r,hsd,t,ht=>by
  rcases a8.mp ht with rfl|z
  ·exact⟨ku _ _,.inl rfl⟩
  ·obtain⟨l,hl,h,k⟩:=Wt hs ws w (rbm s' n r) 0 (λt ht=>hsd t<|af _ ht) t z;have hs':=hsd (w,.move s' n ws,r) ah s' n ws rfl;by_cases c:s'=s
   ·subst c;rw[QR hs] at h k;refine⟨by rw[dp];simp at h;omega,.inr ?_⟩;rcases k with k|⟨t',h1,h2⟩
    ·exact⟨(w,.move s' n ws,r),ah,n,ws,l,rfl,hl,k⟩
    ·exact⟨t',af _ h1,h2⟩
   ·rw[N5 hs hs' c] at h k;exact⟨by rw[dp];omega,k.imp id λ⟨t',h1,h2⟩=>⟨t',af _ h1,h2⟩⟩
theorem Wt {s:Int}(hs:s=1\/s=2):∀(ws:Ws) (w:List Int) (f:D->Rc) (i:Nat),(∀t∈prW w f i ws,∀s' n ws,t.2.1=.move s' n ws->s'=1\/s'=2)->∀t∈prW w f i ws,∃l∈fJ ws,(gm t.2.2 s).length<=(gm (f l) s).length+dpW ws/\(gm t.2.2 s=gm (f l) s\/Behind s (·∈prW w f i ws) (gm t.2.2 s))
 | .nil,_,_,_,_,t,ht=>by cases ht
 | .cons l g r,w,f,i,hsd,t,ht=>by
  rcases c6.mp ht with z|z
  ·obtain⟨h,k⟩:=Tu hs g (w++[(i:Int)]) (f l) (λt ht=>hsd t<|fT _ ht) t z;exact⟨l,ah,by rw[dpW];omega,k.imp id λ⟨t',h1,h2⟩=>⟨t',fT _ h1,h2⟩⟩
  ·obtain⟨l',hl,h,k⟩:=Wt hs r w f (i+1) (λt ht=>hsd t<|cp _ ht) t z;exact⟨l',af _ hl,by rw[dpW];omega,k.imp id λ⟨t',h1,h2⟩=>⟨t',cp _ h1,h2⟩⟩
end
structure yJ (xs:List RS):Prop extends XsOk xs where
 le:∀x∈xs,x.rc.length<=12
 lst:∀x∈xs,x.rc=[]\/∃y∈xs,∃w∈y.w,x.rc=y.rc++[(y.n,w)]
 ok:∀x∈xs,pR (x.rc.map prD)=true
theorem Yb {p q:PS}(h:prD p=prD q):p=q:=by
 unfold prD at h;simp at h;exact BN h.1 h.2
theorem ZS {a b:List PS}(h:a.map prD=b.map prD):a=b:=List.map_inj_right (λ_ _=>Yb) |>.mp h
theorem Px {e:En}(E:nC e)(nd:e.pool.Nodup){N:Nd}{m:Int×Int}(I:oV N m){g:Gm}{dep:Nat}(hd:dep<=12)(Gr:Grw e N ([],[]) g dep)(hz:szG g<=64){s:Int}(hs:s=1\/s=2):∃xs:List RS,rowsOf g s=xs.map (cB s)/\yJ xs:=by
 have G:=Wf E nd I hd Gr hz;obtain⟨xs,ex,X⟩:=Zk E nd I hd Gr hz hs;have sd:∀t∈prG [] ([],[]) g,∀s' n ws,t.2.1=.move s' n ws->s'=1\/s'=2:=λt ht s' n ws e=>(QF G ht e).1;have find:∀{t:Tr3},t∈prG [] ([],[]) g->∀{n:Str} {ws:Ws},t.2.1=.move s n ws->∃x∈xs,gM s n ws t.2.2=cB s x:=λ{t} ht {n ws} e=>by
  have:=Wy G ht e
  rw[ex] at this;obtain⟨x,hx,e⟩:=aT.mp this;exact⟨x,hx,e.symm⟩
 have r0:gm (([],[]):Rc) s=[]:=by rcases hs with rfl|rfl<;>rfl
 have from_:∀x∈xs,∃t∈prG [] ([],[]) g,gm t.2.2 s=x.rc.map prD:=λx hxm=>by
  have hm:cB s x∈rowsOf g s:=by rw[ex];exact aT.mpr ⟨x,hxm,rfl⟩
  obtain⟨h1,_⟩:=dy.mp hm;rcases uR (prG [] ([],[]) g) ([],[]) _ h1 with z|⟨t,ht,s',n,ws,et,er⟩
  ·cases z
  ·have es:s'=s:=(congrArg sdD er).symm;subst es;exact⟨t,ht,(PQ er.symm).2.2⟩
 refine⟨xs,ex,⟨X,λx hx=>?_,λx hx=>?_,λx hx=>?_⟩⟩
 ·obtain⟨t,ht,et⟩:=from_ x hx
  have:=(Tu hs g [] ([],[]) sd t ht).1
  rw[et,r0] at this
  have:=G.dep
  simp at *;omega
 ·obtain⟨t,ht,et⟩:=from_ x hx;rcases(Tu hs g [] ([],[]) sd t ht).2 with k|⟨t',ht',n,ws,l,e',hl,k⟩
  ·rw[et,r0] at k;exact .inl<|by simpa using k
  ·obtain⟨y,hy,ey⟩:=find ht' e';obtain⟨f1,f2,f3⟩:=PQ ey;rw[f2] at hl;obtain⟨v,hv,rfl⟩:=aT.mp hl;refine .inr ⟨y,hy,v,hv,ZS ?_⟩;rw[← et,k,f3,bE,f1];rfl
 ·have hm:cB s x∈rowsOf g s:=by rw[ex];exact aT.mpr ⟨x,hx,rfl⟩
  obtain⟨s',n,_,rc,c,b,k,_,hok,_,_,_,_,_,er⟩:=xg Gr (dy.mp hm).1;unfold cB at er;simp at er;rw[er.2.2.2];exact hok
open L2 (atI ixN Key)
def zZ (xs:List RS)(u:Str->List Rat)(pl:D):Prop:=∀x∈xs,cI pl (.str x.n)=some (.tup<|(u x.n).map rD)
theorem Y5 {s:Int}{xs:List RS}{u:Str->List Rat}{pl:D}{x:RS}{a0 s4 s5:Sl}{ps:List PS}{f:PS->Rat}(hx:x∈xs)(gp:zZ xs u pl)(X:XsOk xs)(hu:(u x.n).length=x.w.length)(hz:ps.length<=900):
  ∃s4' s5',gn [a0,.fz pl,.ow<|dP ps f,.fz<|cB s x,s4,s5]=.ok (.nx,[a0,.fz pl,.ow<|dP (uZ ps<|fG x) λp=>if p∈fG x then fS xs u p else f p,.fz<|cB s x,s4',s5']):=by
 obtain⟨h1,h2,h3⟩:=X.wd x hx;obtain⟨s4',s5',e⟩:=abY (a0:=a0) (a1:=.fz pl) (s:=s) (x:=x) (u x.n) (fS xs u) (ps:=ps) (f:=f) (s4:=s4) (s5:=s5) hu h1 (λj w hw=>by
  unfold fS;rw[qG X.nd hx];have hj:j<x.w.length:=by
   rcases mI j x.w.length with z|z
   ·exact z
   ·rw[i7 z] at hw;cases hw
  have:x.w.idxOf w=j:=by
   have hw':x.w[j]=w:=by rw[av hj] at hw;exact cE hw
   rw[← hw'];exact lT h1 j hj
  simp only[this]) (by omega)
 refine⟨s4',s5',?_⟩;obtain⟨_,r1,r2,_⟩:=KC s x;have pg:=gp x hx;unfold gn nW dg;have it:QS (aj (az gIx (aa 3)<|fC<|.int 2)<|aj (az cI (aa 1)<|az gIx (aa 3)<|fC<|.int 1) aB) [a0,.fz pl,.ow<|dP ps f,.fz<|cB s x,s4,s5]=.ok (zr (x.w.map .str)<|(u x.n).map rD):=by
  simp[QS,aj,aB,az,aa,fC,r1,r2,pg]
 rw[it];exact e
theorem K5 {s:Int}{xs:List RS}{u:Str->List Rat}{pl:D}{a0:Sl}(gp:zZ xs u pl)(X:XsOk xs)(hu:∀x∈xs,(u x.n).length=x.w.length):∀(rest pre:List RS) (s3 s4 s5:Sl),xs=pre++rest->
  ∃s3' s4' s5',bj (hName 3) gn (rest.map<|cB s) [a0,.fz pl,.ow<|dP (ω pre)<|fS xs u,s3,s4,s5]=.ok (.nx,[a0,.fz pl,.ow<|dP (ω xs)<|fS xs u,s3',s4',s5'])
 |[],pre,s3,s4,s5,e=>⟨s3,s4,s5,by rw[e];simp[bj]⟩
 |x::rest,pre,s3,s4,s5,e=>by
  have hx:x∈xs:=by rw[e];simp
  have hw:∀y∈xs,y.w.length<=3:=λy hy=>(X.wd y hy).2.2;have nd:=HH X.nd λy hy=>(X.wd y hy).1;have nd2:(ω pre++fG x).Nodup:=by
   rw[e,uH,uA,← eK] at nd;exact(hV.mp nd).1
  have hl:(ω pre).length<=900:=by
   have:=DX (xs:=pre) λy hy=>hw y (by rw[e];exact fT _ hy)
   have l:=X.len;rw[e] at l;simp at l;omega
  obtain⟨t4,t5,e1⟩:=Y5 (s:=s) (u:=u) (pl:=pl) (a0:=a0) (s4:=s4) (s5:=s5) (ps:=ω pre) (f:=fS xs u) hx gp X (hu x hx) hl;have ed:dP (uZ (ω pre)<|fG x) (λp=>if p∈fG x then fS xs u p else fS xs u p)=dP (ω<|pre++[x]) (fS xs u):=by
   rw[wR _ _ nd2,uH]
   have:ω [x]=fG x:=by simp[ω]
   rw[this];exact M9 λp _=>by split<;>rfl
  rw[ed] at e1;obtain⟨t3',t4',t5',e2⟩:=K5 gp X hu rest (pre++[x]) (.fz<|cB s x) t4 t5 (by rw[e];simp);refine⟨t3',t4',t5',?_⟩;rw[ar];exact(bG rfl e1).trans e2
theorem ab2 {s:Int}{xs:List RS}{u:Str->List Rat}{pl:D}(gp:zZ xs u pl)(X:XsOk xs)(hu:∀x∈xs,(u x.n).length=x.w.length):iB [.lst<|xs.map<|cB s,pl]=.ok (true,dP (ω xs)<|fS xs u):=by
 obtain⟨t3,t4,t5,e⟩:=K5 (s:=s) (a0:=.fz<|.lst<|xs.map<|cB s) gp X hu xs [] .un .un .un rfl;have eL:jq [.fz<|.lst<|xs.map<|cB s,.fz pl,.ow<|.dcu [] [],.un,.un,.un]=.ok (.nx,[.fz<|.lst<|xs.map<|cB s,.fz pl,.ow<|dP (ω xs)<|fS xs u,t3,t4,t5]):=by
  unfold jq dg;have it:fL (aG 0) [.fz<|.lst<|xs.map<|cB s,.fz pl,.ow<|.dcu [] [],.un,.un,.un]=.ok (xs.map<|cB s):=by simp[fL,aG]
  rw[it];exact e
 simp[iB,kZ,lD,aX,aK,cX,sW,eL,gU]
theorem aac {a0 a1 a3 a4 a7:Sl}{ps:List PS}{f:PS->Rat}{b:Rat}{p:PS}(hp:p∈ps){k:Nat}(hb:Sz k b)(hf:Sz 20 (f p))(hk:k<=1000):
  jh [a0,a1,.fz<|dP ps f,a3,a4,.fz<|rD b,.fz<|prD p,a7]=.ok (.nx,[a0,a1,.fz<|dP ps f,a3,a4,.fz<|rD<|b*f p,.fz<|prD p,a7]):=by
 have e:=Gj hb hf (by omega);have g:=QJ (f:=f) hp;simp[jh,bc,fFn,aj,aB,aG,az,aa,g,e]
theorem Xc {a0 a1 a3 a4 a7:Sl}{ps:List PS}{f:PS->Rat}(hf:∀p∈ps,Sz 20<|f p):∀(rc:List PS) (b:Rat) (k:Nat) (s6:Sl),(∀p∈rc,p∈ps)->Sz k b->k+20*rc.length<=1000->
  ∃s6',bj (hName 6) jh (rc.map prD) [a0,a1,.fz<|dP ps f,a3,a4,.fz<|rD b,s6,a7]=.ok (.nx,[a0,a1,.fz<|dP ps f,a3,a4,.fz<|rD<|b*prR (fD f) (rc.map prD),s6',a7])/\Sz (k+20*rc.length) (b*prR (fD f) (rc.map prD))
 |[],b,k,s6,_,hb,_=>⟨s6,by simp[bj,prR,show b*1=b by grind],by simpa[prR,show b*1=b by grind] using hb⟩
 |p::rc,b,k,s6,h,hb,hk=>by
  simp only[cw] at hk ⊢;have hp:=h p ah;obtain⟨s6',e,z⟩:=Xc hf rc (b*f p) (k+20) (.fz<|prD p) (λq hq=>h q<|af _ hq) (GC hb<|hf p hp) (by omega);have ee:b*f p*prR (fD f) (rc.map prD)=b*prR (fD f) ((p::rc).map prD):=by
   rw[ar,prR,Jq];grind
  rw[ee] at e z;refine⟨s6',?_,by rw[show k+20*(rc.length+1)=k+20+20*rc.length by omega];exact z⟩;rw[ar];exact(bG rfl<|aac hp hb (hf p hp)<|by omega).trans e
theorem abS {a0 a1 s6:Sl}{s:Int}{x:RS}{qs ps:List PS}{f g:PS->Rat}{b:Rat}{w:Str}(hp:(x.n,w)∈qs){k:Nat}(hb:Sz k b)(hf:Sz 20 (f (x.n,w)))(hk:k<=1000)(hz:ps.length<=1000):
  ji [a0,a1,.fz<|dP qs f,.ow<|dP ps g,.fz<|cB s x,.fz<|rD b,s6,.fz<|.str w]=.ok (.nx,[a0,a1,.fz<|dP qs f,.ow<|dP (yX ps (x.n,w))<|upF g (x.n,w)<|b*f (x.n,w),.fz<|cB s x,.fz<|rD b,s6,.fz<|.str w]):=by
 have e:=Gj hb hf (by omega);have gg:jV (dP qs f) (.tup [.str x.n,.str w])=some (rD<|f (x.n,w)):=QJ hp;obtain⟨_,r1,_,_⟩:=KC s x;have hz':=szP hz;rw[← Mu];generalize dP qs f=dq at *;unfold dP;generalize hq:gJ (ps.map kp) (ps.map λp=>rD<|g p) (kp (x.n,w)) (rD<|b*f (x.n,w))=q
 have:=G9 x.n w
 simp[ji,qN,fFn,aG,zc,aY,aj,aB,az,aa,fC,r1,gg,e,this,hq,ni];simpa using hz'
theorem aaU {a0 a1 s5 s6 s7:Sl}{s:Int}{xs:List RS}{x:RS}{ps:List PS}{f g:PS->Rat}(hx:x∈xs)(X:yJ xs)(hf:∀p∈ω xs,Sz 20<|f p)(hz:ps.length<=900):
  ∃s5' s6' s7',iZ [a0,a1,.fz<|dP (ω xs) f,.ow<|dP ps g,.fz<|cB s x,s5,s6,s7]=.ok (.nx,[a0,a1,.fz<|dP (ω xs) f,.ow<|dP (uZ ps<|fG x) λp=>if p∈fG x then wS xs f p else g p,.fz<|cB s x,s5',s6',s7']):=by
 obtain⟨h1,h2,h3⟩:=X.wd x hx;obtain⟨s6',e1,zb⟩:=Xc (a0:=a0) (a1:=a1) (a3:=.ow<|dP ps g) (a4:=.fz<|cB s x) (a7:=s7) hf x.rc 1 1 s6 (X.rc x hx) Hc (by have:=X.le x hx;omega);rw[show(1:Rat)*prR (fD f) (x.rc.map prD)=prR (fD f) (x.rc.map prD) by grind] at e1 zb;have hin:∀w∈x.w,(x.n,w)∈ω xs:=λw hw=>iE.mpr ⟨x,hx,aT.mpr ⟨w,hw,rfl⟩⟩;obtain⟨s7',e2,_⟩:=Aq (X:=Sl) (h:=hName 7) (B:=ji) (mk:=λd y=>[a0,a1,.fz<|dP (ω xs) f,.ow d,.fz<|cB s x,.fz<|rD<|prR (fD f)<|x.rc.map prD,s6',y]) (it:=λp=>.str p.2) (val:=λp _=>wS xs f p) (C:=λ_ _=>True) (fG x) ps g s7 (λp hp ps g y hl _ _=>by
  obtain⟨w,hw,rfl⟩:=aT.mp hp;have ew:wS xs f (x.n,w)=prR (fD f) (x.rc.map prD)*f (x.n,w):=by
   unfold wS;rw[qG X.nd hx]
  refine⟨⟨_,.fz<|.str w,rfl,?_⟩,trivial⟩;rw[ew];exact abS (hin w hw) zb (hf _<|hin w hw) (by have:=X.le x hx;omega) hl) (by unfold fG;exact fR.mpr<|h1.imp λ{a b} h z=>h (xk z).2) (by simp[fG];omega) trivial (λ_ _=>rfl)
 refine⟨.fz<|rD<|prR (fD f)<|x.rc.map prD,s6',s7',?_⟩;obtain⟨_,_,r2,r3⟩:=KC s x;have er:rD 1=.tup [.int 1,.int 1]:=rfl;have l2:mU [a0,a1,.fz<|dP (ω xs) f,.ow<|dP ps g,.fz<|cB s x,.fz<|rD 1,s6,s7]=.ok (.nx,[a0,a1,.fz<|dP (ω xs) f,.ow<|dP ps g,.fz<|cB s x,.fz<|rD<|prR (fD f)<|x.rc.map prD,s6',s7]):=by
  unfold mU dg;have it:jB (az gIx (aa 4)<|fC<|.int 3) [a0,a1,.fz<|dP (ω xs) f,.ow<|dP ps g,.fz<|cB s x,.fz<|rD 1,s6,s7]=.ok (x.rc.map prD):=by
   simp[jB,az,aa,fC,r3]
  rw[it];exact e1
 have l4:mR [a0,a1,.fz<|dP (ω xs) f,.ow<|dP ps g,.fz<|cB s x,.fz<|rD<|prR (fD f)<|x.rc.map prD,s6',s7]=.ok (.nx,[a0,a1,.fz<|dP (ω xs) f,.ow<|dP (uZ ps<|fG x) λp=>if p∈fG x then wS xs f p else g p,.fz<|cB s x,.fz<|rD<|prR (fD f)<|x.rc.map prD,s6',s7']):=by
  unfold mR dg;have it:jB (az gIx (aa 4)<|fC<|.int 2) [a0,a1,.fz<|dP (ω xs) f,.ow<|dP ps g,.fz<|cB s x,.fz<|rD<|prR (fD f)<|x.rc.map prD,s6',s7]=.ok ((fG x).map λp=>.str p.2):=by
   have:(fG x).map (λp=>D.str p.2)=x.w.map .str:=by unfold fG;rw[fm];rfl
   rw[this];simp[jB,az,aa,fC,r2]
  rw[it];exact e2
 rw[er] at l2;generalize dP (ω xs) f=d1 at *;generalize dP ps g=d2 at *;simp[iZ,aK,bc,fC,l2,l4]
theorem NZ {s:Int}{xs:List RS}{f:PS->Rat}{a0 a1:Sl}(X:yJ xs)(hf:∀p∈ω xs,Sz 20<|f p):∀(rest pre:List RS) (s4 s5 s6 s7:Sl),xs=pre++rest->
  ∃s4' s5' s6' s7',bj (hName 4) iZ (rest.map<|cB s) [a0,a1,.fz<|dP (ω xs) f,.ow<|dP (ω pre)<|wS xs f,s4,s5,s6,s7]=.ok (.nx,[a0,a1,.fz<|dP (ω xs) f,.ow<|dP (ω xs)<|wS xs f,s4',s5',s6',s7'])
 |[],pre,s4,s5,s6,s7,e=>⟨s4,s5,s6,s7,by
  have:ω pre=ω xs:=by rw[e];simp
  rw[this];simp[bj]⟩
 |x::rest,pre,s4,s5,s6,s7,e=>by
  have hx:x∈xs:=by rw[e];simp
  have nd:=HH X.nd λy hy=>(X.wd y hy).1;have nd2:(ω pre++fG x).Nodup:=by
   rw[e,uH,uA,← eK] at nd;exact(hV.mp nd).1
  have hl:(ω pre).length<=900:=by
   have:=DX (xs:=pre) λy hy=>(X.wd y (by rw[e];exact fT _ hy)).2.2
   have l:=X.len;rw[e] at l;simp at l;omega
  obtain⟨t5,t6,t7,e1⟩:=aaU (a0:=a0) (a1:=a1) (s5:=s5) (s6:=s6) (s7:=s7) (s:=s) (ps:=ω pre) (g:=wS xs f) hx X hf hl;have ed:dP (uZ (ω pre)<|fG x) (λp=>if p∈fG x then wS xs f p else wS xs f p)=dP (ω<|pre++[x]) (wS xs f):=by
   rw[wR _ _ nd2,uH]
   have:ω [x]=fG x:=by simp[ω]
   rw[this];exact M9 λp _=>by split<;>rfl
  rw[ed] at e1;obtain⟨u4,u5,u6,u7,e2⟩:=NZ X hf rest (pre++[x]) (.fz<|cB s x) t5 t6 t7 (by rw[e];simp);refine⟨u4,u5,u6,u7,?_⟩;rw[ar];exact(bG rfl e1).trans e2
theorem adW {s:Int}{xs:List RS}{u:Str->List Rat}{pl:D}(gp:zZ xs u pl)(X:yJ xs)(hu:∀x∈xs,(u x.n).length=x.w.length)(hf:∀p∈ω xs,Sz 20<|fS xs u p):lR [.lst<|xs.map<|cB s,pl]=.ok (true,dP (ω xs)<|wS xs<|fS xs u):=by
 have e0:=ab2 (s:=s) gp X.toXsOk hu;obtain⟨t4,t5,t6,t7,e⟩:=NZ (s:=s) (a0:=.fz<|.lst<|xs.map<|cB s) (a1:=.fz pl) X hf xs [] .un .un .un .un rfl;have eL:mJ [.fz<|.lst<|xs.map<|cB s,.fz pl,.fz<|dP (ω xs)<|fS xs u,.ow<|.dcu [] [],.un,.un,.un,.un]=.ok (.nx,[.fz<|.lst<|xs.map<|cB s,.fz pl,.fz<|dP (ω xs)<|fS xs u,.ow<|dP (ω xs)<|wS xs<|fS xs u,t4,t5,t6,t7]):=by
  unfold mJ dg;have it:fL (aG 0) [.fz<|.lst<|xs.map<|cB s,.fz pl,.fz<|dP (ω xs)<|fS xs u,.ow<|.dcu [] [],.un,.un,.un,.un]=.ok (xs.map<|cB s):=by simp[fL,aG]
  rw[it];exact e
 generalize dP (ω xs) (fS xs u)=d1 at *;simp[lR,pU,qj,aX,aK,bc,fFn,aj,aB,aG,e0,cX,sW,eL,gU]
theorem VD {S:Nat}(hS:S<=100){Rs Ms:List D}{q:Str->List Rat}(hr:∀d∈Rs,xx d)(hl:Rs.length<=1000)(hm:Ms.length=Rs.length)(hi:∀d∈Rs,d∈Ms)(ho:∀d∈Rs,okS S (q<|nmR d)<|wdD d):lQ [.lst Rs,cC Ms q]=.ok (false,.bl true):=by
 have ec:fK (hName 0) jn je [.un,.fz<|cC Ms q] Rs=.ok (Rs.map λ_=>.bl true):=by
  have:=iz (h:=hName 0) (ft:=jn) (fe:=je) (m0:=[.un,.fz<|cC Ms q]) (g:=id) (f:=λ_=>.bl true) Rs λd hd=>by
   refine⟨[.fz d,.fz<|cC Ms q],rfl,rfl,?_⟩;have hv:=wD (λn=>.tup<|(q n).map rD) Ms ⟨d,hi d hd,rfl⟩;have ho':=Yw hS<|ho d hd;obtain⟨s,n,ws,r,rfl⟩:=hr d hd;have x1:∀a b c d:D,atI [a,b,c,d] 1=some b:=λ_ _ _ _=>rfl;have x2:∀a b c d:D,atI [a,b,c,d] 2=some c:=λ_ _ _ _=>rfl;have hv:Ae (Ms.map λd=>.inr<|nmR d) (Ms.map λd=>.tup<|(q<|nmR d).map rD) (.inr n)=some (.tup<|(q n).map rD):=hv;have ho':dH [.tup<|(q n).map rD,.int ((fJ ws).length:Nat)]=.ok (false,.bl true):=ho';have gi:WD (.str n) (cC Ms q)=some true:=by simp[WD,cC,uW,hv]
   have gg:cI (cC Ms q) (.str n)=some (.tup<|(q n).map rD):=by simp[cI,cC,uW,hv]
   have ln:dW [.tup<|fJ ws]=some (.int ((fJ ws).length:Nat)):=rfl;generalize cC Ms q=P at *;simp[je,BL,oJ,az,aa,fC,gIx,gM,x1,x2,gi,gg,fFn,aj,aB,aQ,ln,ho',fTv]
  simpa using this
 have z1:Rs.length<=16777216:=by omega
 have eq:mV [.fz<|.lst Rs,.fz<|cC Ms q]=.ok (.lst<|Rs.map λ_=>.bl true):=by
  have eb:(Sl.fz<|cC Ms q).bor=.fz (cC Ms q):=rfl;simp[mV,dX,fL,aa,cMe,eb,ec,z1]
 have ea:=QL (f:=λ_:D=>D.bl true) (l:=Rs) λ_ _=>rfl;have l1:dW [cC Ms q]=some (.int Rs.length):=by simp[dW,cC,hm]
 have l2:dW [.lst Rs]=some (.int Rs.length):=rfl;have it:vd "dict" (aa 1) [.fz<|.lst Rs,.fz<|cC Ms q]=.ok (.bl true):=rfl;simp[lQ,pW,p6,aX,aK,gIf,jz,gV,fTv,it,aN,aQ,aj,aB,aa,l1,l2,gNe,gNx,eq,ea,bM,Me.let,Sl.let]
structure Shs (xs:List RS)(u:Str->List Rat):Prop where
 ok:∀x∈xs,okS 20 (u x.n) x.w.length
theorem Shs.sz {xs:List RS}{u:Str->List Rat}(U:Shs xs u)(X:XsOk xs):∀p∈ω xs,Sz 20 (fS xs u p):=λp hp=>by
 obtain⟨x,hx,hw⟩:=iE.mp hp;obtain⟨w,hw',rfl⟩:=aT.mp hw;have hu:=U.ok x hx;have e:=O2 X hx hu.1;refine(hu.2.1 _ ?_).2;rw[e];exact aT.mpr ⟨w,hw',rfl⟩
theorem abP {Fr Fn Fw:Zac}{g s p r d:D}{b:Bool}(h1:Fn [g,s,p]=.ok (b,.non))(h2:Fr [g,s]=.ok (true,r))(h3:Fw [r,p]=.ok (true,d))(ht:isTup d=false):aX 3 3 (nQ Fr Fn Fw) [g,s,p]=.ok (true,d):=by
 simp[nQ,aX,aK,gEx,fFn,aj,aB,aG,h1,h2,nj,Me.let,Sl.let,Rg,h3,ht]
theorem T5 {g:Gm}(G:Gd g){s:Int}{xs:List RS}(ex:rowsOf g s=xs.map (cB s))(X:yJ xs){u:Str->List Rat}(U:Shs xs u){Ms:List D}(hm:Ms.length=xs.length)(hi:∀x∈xs,cB s x∈Ms):nO [dG g,.int s,cC Ms u]=.ok (true,dP (ω xs)<|wS xs<|fS xs u):=by
 have hz:=G.sz;have hd:=G.dep;have e1:=X3 (s:=s) G.len G.sd (by omega) (by omega);have hr:∀d∈rowsOf g s,xx d:=λd hd=>wW (dy.mp hd).1;have ho:∀d∈rowsOf g s,okS 20 (u<|nmR d) (wdD d):=λd hd=>by
  rw[ex] at hd;obtain⟨x,hx,rfl⟩:=aT.mp hd
  have:=U.ok x hx
  show okS 20 (u x.n) ((x.w.map D.str).length);rw[bp];exact this
 have l8:=X.len;have hl:(rowsOf g s).length=xs.length:=by rw[ex];simp
 have e2:=VD (S:=20) (by decide) (Ms:=Ms) (q:=u) hr (by omega) (by rw[hm,hl]) (λd hd=>by
  rw[ex] at hd;obtain⟨x,hx,rfl⟩:=aT.mp hd;exact hi x hx) ho
 have e3:uP [dG g,.int s,cC Ms u]=.ok (false,.bl true):=by
  simp[uP,yG,yS,aX,bM,Me.let,Sl.let,fFn,aj,aB,aG,e1,e2]
 have e4:iu [dG g,.int s,cC Ms u]=.ok (false,.non):=by
  simp[iu,lB,lA,aX,gIf,gV,fTv,fFn,aj,aB,aG,e3,gNx]
 have gp:zZ xs u (cC Ms u):=λx hx=>wA ⟨cB s x,hi x hx,rfl⟩;have e5:=adW (s:=s) gp X (λx hx=>(U.ok x hx).1)<|U.sz X.toXsOk;have e1:nT [dG g,.int s]=.ok (true,.lst<|xs.map<|cB s):=by rw[← ex];exact e1
 exact abP e4 e1 e5 rfl
open L2 (atI ixN Key)
theorem aau {w:Str}:∀{ws:List Str},w∈ws->ixS w (ws.map .str)=some (ws.idxOf w)
 |[],h=>by cases h
 |a::ws,h=>by
  rw[ar,ixS,List.idxOf_cons];by_cases c:a=w
  ·rw[if_pos c];simp[c]
  ·rw[if_neg c]
   have:(a==w)=false:=by simpa using c
   rw[this];rcases a8.mp h with z|z
   ·exact absurd z.symm c
   ·rw[aau z];rfl
theorem acO {rows pl P W:D}{s:Int}{n w:Str}{l row v:D}{k:Nat}(r0:gIx row (.int 0)=some (.int s))(r1:gIx row (.int 1)=some (.str n))(r2:gIx row (.int 2)=some W)(p0:gIx P (.int 0)=some (.str n))(p1:gIx P (.int 1)=some (.str w))(gp:cI pl (.str n)=some l)(iw:∀fo fs m,fo m=.ok W->fs m=.ok [.str w]->Uw fo fs m=.ok (.int k))(iv:gIx l (.int k)=some v):
  eE [.fz rows,.fz<|.int s,.fz pl,.fz P,.fz row]=.ok (.rt false v,[.fz rows,.fz<|.int s,.fz pl,.fz P,.fz row]):=by
 have ew:Uw (az gIx (aa 4)<|fC<|.int 2) (aj (az gIx (aa 3)<|fC<|.int 1) aB) [.fz rows,.fz<|.int s,.fz pl,.fz P,.fz row]=.ok (.int k):=iw _ _ _ (by simp[az,aa,fC,r2]) (by simp[aj,aB,az,aa,fC,p1]);simp[eE,gIf,iC,aN,az,aa,fC,r0,r1,r2,p0,p1,gp,bM,Me.let,Sl.let,ew,iv]
theorem Yl {rows pl P:D}{s a:Int}{n m:Str}{row:D}(r0:gIx row (.int 0)=some (.int a))(r1:gIx row (.int 1)=some (.str m))(p0:gIx P (.int 0)=some (.str n))(h:¬(a=s/\m=n)):
  eE [.fz rows,.fz<|.int s,.fz pl,.fz P,.fz row]=.ok (.nx,[.fz rows,.fz<|.int s,.fz pl,.fz P,.fz row]):=by
 by_cases c:a=s
 ·have:¬m=n:=λz=>h ⟨c,z⟩
  simp[eE,gIf,iC,aN,az,aa,fC,r0,r1,p0,c,this,gNx]
 ·simp[eE,gIf,iC,aN,az,aa,fC,r0,c,gNx]
theorem aae {h:Zba}{g:Zab}{d v:D}{ds:List D}{m m1 m2:Me}{b:Bool}(h1:h d m=some m1)(h2:g m1=.ok (.rt b v,m2)):bj h g (d::ds) m=.ok (.rt b v,m2):=by
 rw[bj,h1];simp only[h2]
theorem xr {rows pl:D}{s:Int}{x:RS}{w:Str}{l:List Rat}{v:Rat}(gp:cI pl (.str x.n)=some (.tup<|l.map rD))(hw:w∈x.w)(hv:l[x.w.idxOf w]? = some v):∀(rest:List D) (u:Sl),(∀d∈rest,xx d)->(∀d∈rest,sdD d=s->nmR d=x.n->d=cB s x)->cB s x∈rest->
  ∃m',bj (hName 4) eE rest [.fz rows,.fz<|.int s,.fz pl,.fz<|prD (x.n,w),u]=.ok (.rt false<|rD v,m')
 |[],_,_,_,h=>by cases h
 |d::rest,u,hr,hu,hm=>by
  by_cases c:sdD d=s/\nmR d=x.n
  ·have e:=hu d ah c.1 c.2;subst e;obtain⟨r0,r1,r2,_⟩:=KC s x;exact⟨_,aae rfl<|acO (k:=x.w.idxOf w) r0 r1 r2 rfl rfl gp (λfo fs m h1 h2=>by simp[Uw,h1,h2,Ih,aau hw])<|lL (by rw[bX,hv];rfl)⟩
  ·obtain⟨a,n,ws,r,rfl⟩:=hr d ah;obtain⟨r0,r1,_⟩:=Gw (s:=a) (n:=n) (ws:=ws) (r:=r);have hm':cB s x∈rest:=by
    rcases a8.mp hm with z|z
    ·rw[← z] at c;exact absurd ⟨rfl,rfl⟩ c
    ·exact z
   obtain⟨m',e⟩:=xr (rows:=rows) gp hw hv rest (.fz<|gM a n ws r) (λd h=>hr d<|af _ h) (λd h=>hu d<|af _ h) hm';exact⟨m',(bG rfl<|Yl r0 r1 rfl c).trans e⟩
structure Tab (s:Int)(xs:List RS)(Rows:List D):Prop where
 ex:Rows.filter (λd=>decide (sdD d=s))=xs.map (cB s)
 row:∀d∈Rows,xx d
 len:Rows.length<=100
theorem Tab.one {s:Int}{xs:List RS}{Rows:List D}(T:Tab s xs Rows)(X:XsOk xs){x:RS}(hx:x∈xs):cB s x∈Rows/\∀d∈Rows,sdD d=s->nmR d=x.n->d=cB s x:=by
 refine⟨?_,λd hd h1 h2=>?_⟩
 ·have:cB s x∈Rows.filter (λd=>decide<|sdD d=s):=by rw[T.ex];exact aT.mpr ⟨x,hx,rfl⟩
  exact(dy.mp this).1
 ·have:d∈Rows.filter (λd=>decide<|sdD d=s):=dy.mpr ⟨hd,decide_eq_true h1⟩
  rw[T.ex] at this;obtain⟨y,hy,rfl⟩:=aT.mp this;have e1:=qG X.nd hx;have e2:=qG X.nd hy;have h2:y.n=x.n:=h2;rw[h2,e1] at e2;rw[e2]
theorem acE {L:Zab}{a b c d v:D}{m':Me}(h:L [.fz a,.fz b,.fz c,.fz d,.un]=.ok (.rt false v,m')):aX 5 4 (nP L) [a,b,c,d]=.ok (false,v):=by
 simp[aX,nP,aK,h]
theorem Ur {s:Int}{xs:List RS}{Rows:List D}{u:Str->List Rat}{pl:D}(T:Tab s xs Rows)(X:XsOk xs)(U:Shs xs u)(gp:zZ xs u pl){p:PS}(hp:p∈ω xs):rQ [.lst Rows,.int s,pl,prD p]=.ok (false,rD<|fS xs u p):=by
 obtain⟨x,hx,hw⟩:=iE.mp hp;obtain⟨w,hw',rfl⟩:=aT.mp hw;obtain⟨h1,h2⟩:=T.one X hx;have hu:=(U.ok x hx).1;have hv:(u x.n)[x.w.idxOf w]? = some (fS xs u (x.n,w)):=by
  unfold fS;rw[qG X.nd hx,b9]
  have:x.w.idxOf w<(u x.n).length:=by rw[hu];exact List.idxOf_lt_length_of_mem hw'
  rw[av this];rfl
 obtain⟨m',e⟩:=xr (rows:=.lst Rows) (s:=s) (gp x hx) hw' hv Rows .un T.row h2 h1;refine acE (m':=m') ?_;unfold tY dg;have it:fL (aG 0) [.fz<|.lst Rows,.fz<|.int s,.fz pl,.fz<|prD (x.n,w),.un]=.ok Rows:=by simp[fL,aG]
 rw[it];exact e
theorem YD {Ft Fs:Zac}{y0 y1 y2:D}{y3 y4 y5 y6 y7 y8:Sl}{b c d p:D}(h1:Fs [y0,y1,y2,p]=.ok (false,c))(h2:Ft [b,c]=.ok (false,d)):
  bc 9 (fFn Ft<|aj (aG 9)<|aj (fFn Fs<|aj (aG 0)<|aj (aG 1)<|aj (aG 2)<|aj (aG 10) aB) aB) [.fz y0,.fz y1,.fz y2,y3,y4,y5,y6,y7,y8,.fz b,.fz p]=.ok (.nx,[.fz y0,.fz y1,.fz y2,y3,y4,y5,y6,y7,y8,.fz d,.fz p]):=by
 simp[bc,fFn,aj,aB,aG,h1,h2]
theorem Jf (f:D->Rat)(d:D):∀l:List D,prR f (l++[d])=prR f l*f d
 |[]=>by simp[prR]
 |a::l=>by rw[List.cons_append,prR,prR,Jf f d l];grind
theorem Uj {f:PS->Rat}:∀{l:List PS},(∀p∈l,Sz 20<|f p)->Sz (1+20*l.length) (prR (fD f)<|l.map prD)
 |[],_=>by simpa[prR] using Hc
 |p::l,h=>by
  rw[ar,prR,Jq,cw,show 1+20*(l.length+1)=20+(1+20*l.length) by omega];exact GC (h p ah)<|Uj λq hq=>h q<|af _ hq
section
variable {s:Int}{xs:List RS}{Rows:List D}{u:Str->List Rat}{pl:D}
theorem Vd (T:Tab s xs Rows)(X:XsOk xs)(U:Shs xs u)(gp:zZ xs u pl){y3 y4 y5 y6 y7 y8:Sl}:∀(rc:List PS) (b:Rat) (k:Nat) (s6:Sl),(∀p∈rc,p∈ω xs)->Sz k b->k+20*rc.length<=1000->
  ∃s6',bj (hName 10) wV (rc.map prD) [.fz<|.lst Rows,.fz<|.int s,.fz pl,y3,y4,y5,y6,y7,y8,.fz<|rD b,s6]=.ok (.nx,[.fz<|.lst Rows,.fz<|.int s,.fz pl,y3,y4,y5,y6,y7,y8,.fz<|rD<|b*prR (fD<|fS xs u) (rc.map prD),s6'])
 |[],b,k,s6,_,_,_=>⟨s6,by simp[bj,prR,show b*1=b by grind]⟩
 |p::rc,b,k,s6,h,hb,hk=>by
  simp only[cw] at hk;have hp:=h p ah;have hf:=U.sz X p hp;obtain⟨s6',e⟩:=Vd T X U gp (y3:=y3) (y4:=y4) (y5:=y5) (y6:=y6) (y7:=y7) (y8:=y8) rc (b*fS xs u p) (k+20) (.fz<|prD p) (λq hq=>h q<|af _ hq) (GC hb hf) (by omega);rw[show b*fS xs u p*prR (fD<|fS xs u) (rc.map prD)=b*prR (fD<|fS xs u) ((p::rc).map prD) by rw[ar,prR,Jq];grind] at e;refine⟨s6',?_⟩;rw[ar];exact(bG rfl<|YD (Ur T X U gp hp)<|Vu hb hf<|by omega).trans e
theorem acv {L:Zab}{y0 y1 y2 y4 y6 y7 y9 y10 y10':Sl}{ps:List PS}{f:PS->Rat}{n w:Str}{v:Rat}(hL:∀b:D,L [y0,y1,y2,.ow<|dP ps f,y4,.fz<|.str n,y6,y7,.fz<|.str w,.fz<|rD 1,y10]=.ok (.nx,[y0,y1,y2,.ow<|dP ps f,y4,.fz<|.str n,y6,y7,.fz<|.str w,.fz<|rD v,y10']))(hz:ps.length<=1000):
  aK (bc 9<|aY<|aj (fC<|.int 1)<|aj (fC<|.int 1) aB) (aK L<|qN 3 (aY<|aj (aG 5)<|aj (aG 8) aB)<|aG 9) [y0,y1,y2,.ow<|dP ps f,y4,.fz<|.str n,y6,y7,.fz<|.str w,y9,y10] =
   .ok (.nx,[y0,y1,y2,.ow<|dP (yX ps (n,w))<|upF f (n,w) v,y4,.fz<|.str n,y6,y7,.fz<|.str w,.fz<|rD v,y10']):=by
 have hz':=szP hz;have e1:rD 1=.tup [.int 1,.int 1]:=rfl;have hL:=hL .non;rw[e1] at hL;rw[← Mu];unfold dP at *;generalize hq:gJ (ps.map kp) (ps.map λp=>rD<|f p) (kp (n,w)) (rD v)=q
 have:=G9 n w
 simp[aK,bc,aY,aj,aB,fC,hL,qN,aG,zc,this,hq,ni];simpa using hz'
theorem acQ (T:Tab s xs Rows)(X:yJ xs)(U:Shs xs u)(gp:zZ xs u pl){x:RS}(hx:x∈xs){ps:List PS}{g:PS->Rat}{y4 y8 y9 y10:Sl}(hz:ps.length<=900):
  ∃y8' y9' y10',sH [.fz<|.lst Rows,.fz<|.int s,.fz pl,.ow<|dP ps g,y4,.fz<|.str x.n,.fz<|.tup<|x.w.map .str,.fz<|.tup<|x.rc.map prD,y8,y9,y10]=.ok (.nx,[.fz<|.lst Rows,.fz<|.int s,.fz pl,.ow<|dP (uZ ps<|fG x) λp=>if p∈fG x then wS xs (fS xs u) p else g p,y4,.fz<|.str x.n,.fz<|.tup<|x.w.map .str,.fz<|.tup<|x.rc.map prD,y8',y9',y10']):=by
 obtain⟨h1,h2,h3⟩:=X.wd x hx;have hin:∀w∈x.w,(x.n,w)∈ω xs:=λw hw=>iE.mpr ⟨x,hx,aT.mpr ⟨w,hw,rfl⟩⟩;obtain⟨⟨t8,t9,t10⟩,e,_⟩:=Aq (X:=Sl×Sl×Sl) (h:=hName 8) (B:=xG) (mk:=λd y=>[.fz<|.lst Rows,.fz<|.int s,.fz pl,.ow d,y4,.fz<|.str x.n,.fz<|.tup<|x.w.map .str,.fz<|.tup<|x.rc.map prD,y.1,y.2.1,y.2.2]) (it:=λp=>.str p.2) (val:=λp _=>wS xs (fS xs u) p) (C:=λ_ _=>True) (fG x) ps g (y8,y9,y10) (λp hp ps g y hl _ _=>by
  obtain⟨w,hw,rfl⟩:=aT.mp hp;have ew:wS xs (fS xs u) (x.n,w)=1*prR (fD<|fS xs u) ((x.rc++[(x.n,w)]).map prD):=by
   unfold wS;rw[qG X.nd hx,bE,pk,Jf,Jq];grind
  obtain⟨t10,e⟩:=Vd T X.toXsOk U gp (y3:=.ow<|dP ps g) (y4:=y4) (y5:=.fz<|.str x.n) (y6:=.fz<|.tup<|x.w.map .str) (y7:=.fz<|.tup<|x.rc.map prD) (y8:=.fz<|.str w) (x.rc++[(x.n,w)]) 1 1 y.2.2 (λp hp=>by
   rcases c6.mp hp with z|z
   ·exact X.rc x hx p z
   ·rw[cb.mp z];exact hin w hw) Hc (by have:=X.le x hx;simp;omega)
  rw[← ew] at e;refine⟨⟨_,(.fz<|.str w,.fz<|rD<|wS xs (fS xs u) (x.n,w),t10),rfl,acv (λ_=>?_) hl⟩,trivial⟩;unfold xP dg;have zl:(x.rc.length+1)<=16777216:=by have:=X.le x hx;omega
  have it:jB (az bU (aa 7)<|aY<|aj (aY<|aj (aG 5)<|aj (aG 8) aB) aB) [.fz<|.lst Rows,.fz<|.int s,.fz pl,.ow<|dP ps g,y4,.fz<|.str x.n,.fz<|.tup<|x.w.map .str,.fz<|.tup<|x.rc.map prD,.fz<|.str w,.fz<|rD 1,y.2.2]=.ok ((x.rc++[(x.n,w)]).map prD):=by
   rw[bE];simp[jB,az,aa,aY,aj,aB,aG,bU,zl,prD]
  rw[it];exact e) (by unfold fG;exact fR.mpr<|h1.imp λ{a b} h z=>h (xk z).2) (by simp[fG];omega) trivial (λ_ _=>rfl)
 refine⟨t8,t9,t10,?_⟩;unfold sH dg;have it:jB (aG 6) [.fz<|.lst Rows,.fz<|.int s,.fz pl,.ow<|dP ps g,y4,.fz<|.str x.n,.fz<|.tup<|x.w.map .str,.fz<|.tup<|x.rc.map prD,y8,y9,y10]=.ok ((fG x).map λp=>.str p.2):=by
  have:(fG x).map (λp=>D.str p.2)=x.w.map .str:=by unfold fG;rw[fm];rfl
  rw[this];simp[jB,aG]
 rw[it];exact e
abbrev hR4 (a b c d:Nat):Zba:=iW 4<|bC (hName a)<|bC (hName b)<|bC (hName c)<|bC (hName d) iM
theorem acz {L:Zab}{y0 y2 y3 y5 y6 y7 y8 y9 y10:Sl}{s:Int}:gIf (aN gEq (aa 4)<|aa 1) L gNx [y0,.fz<|.int s,y2,y3,.fz<|.int s,y5,y6,y7,y8,y9,y10]=L [y0,.fz<|.int s,y2,y3,.fz<|.int s,y5,y6,y7,y8,y9,y10]:=by
 simp[gIf,aN,aa]
theorem adt {L:Zab}{y0 y2 y3 y5 y6 y7 y8 y9 y10:Sl}{s a:Int}(h:¬a=s):gIf (aN gEq (aa 4)<|aa 1) L gNx [y0,.fz<|.int s,y2,y3,.fz<|.int a,y5,y6,y7,y8,y9,y10]=.ok (.nx,[y0,.fz<|.int s,y2,y3,.fz<|.int a,y5,y6,y7,y8,y9,y10]):=by
 simp[gIf,aN,aa,h,gNx]
theorem HJ (T:Tab s xs Rows)(X:yJ xs)(U:Shs xs u)(gp:zZ xs u pl):∀(rest:List D) (pre ys:List RS) (y4 y5 y6 y7 y8 y9 y10:Sl),rest.filter (λd=>decide<|sdD d=s)=ys.map (cB s)->xs=pre++ys->(∀d∈rest,xx d)->
  ∃t4 t5 t6 t7 t8 t9 t10,bj (hR4 4 5 6 7) xN rest [.fz<|.lst Rows,.fz<|.int s,.fz pl,.ow<|dP (ω pre)<|wS xs<|fS xs u,y4,y5,y6,y7,y8,y9,y10]=.ok (.nx,[.fz<|.lst Rows,.fz<|.int s,.fz pl,.ow<|dP (ω xs)<|wS xs<|fS xs u,t4,t5,t6,t7,t8,t9,t10])
 |[],pre,ys,y4,y5,y6,y7,y8,y9,y10,hf,e,_=>by
  have:ys=[]:=by simpa using hf.symm
  subst this;exact⟨y4,y5,y6,y7,y8,y9,y10,by rw[e];simp[bj]⟩
 |d::rest,pre,ys,y4,y5,y6,y7,y8,y9,y10,hf,e,hr=>by
  by_cases c:sdD d=s
  ·rw[mh,if_pos<|decide_eq_true c] at hf;cases ys with
   |nil=>cases hf
   |cons x ys=>
    rw[ar] at hf;obtain⟨hd,hf'⟩:=List.cons.inj hf;subst hd;have hx:x∈xs:=by rw[e];simp
    have nd:=HH X.nd λy hy=>(X.wd y hy).1;have nd2:(ω pre++fG x).Nodup:=by
     rw[e,uH,uA,← eK] at nd;exact(hV.mp nd).1
    have hl:(ω pre).length<=900:=by
     have:=DX (xs:=pre) λy hy=>(X.wd y (by rw[e];exact fT _ hy)).2.2
     have l:=X.len;rw[e] at l;simp at l;omega
    obtain⟨t8,t9,t10,e1⟩:=acQ T X U gp hx (ps:=ω pre) (g:=wS xs<|fS xs u) (y4:=.fz<|.int s) (y8:=y8) (y9:=y9) (y10:=y10) hl;have ed:dP (uZ (ω pre)<|fG x) (λp=>if p∈fG x then wS xs (fS xs u) p else wS xs (fS xs u) p)=dP (ω<|pre++[x]) (wS xs<|fS xs u):=by
     rw[wR _ _ nd2,uH]
     have:ω [x]=fG x:=by simp[ω]
     rw[this];exact M9 λp _=>by split<;>rfl
    rw[ed] at e1;obtain⟨u4,u5,u6,u7,u8,u9,u10,e2⟩:=HJ T X U gp rest (pre++[x]) ys (.fz<|.int s) (.fz<|.str x.n) (.fz<|.tup<|x.w.map .str) (.fz<|.tup<|x.rc.map prD) t8 t9 t10 hf' (by rw[e];simp) λd h=>hr d<|af _ h;exact⟨u4,u5,u6,u7,u8,u9,u10,(bG rfl<|acz.trans e1).trans e2⟩
  ·rw[mh,if_neg<|by simpa using c] at hf;obtain⟨a,n,ws,r,rfl⟩:=hr d ah;obtain⟨u4,u5,u6,u7,u8,u9,u10,e2⟩:=HJ T X U gp rest pre ys (.fz<|.int a) (.fz<|.str n) (.fz<|.tup<|fJ ws) (.fz<|.tup<|gm r a) y8 y9 y10 hf e λd h=>hr d<|af _ h;exact⟨u4,u5,u6,u7,u8,u9,u10,(bG rfl<|adt c).trans e2⟩
theorem acN {L:Zab}{a b c r:D}{t4 t5 t6 t7 t8 t9 t10:Sl}(h:L [.fz a,.fz b,.fz c,.ow<|.dcu [] [],.un,.un,.un,.un,.un,.un,.un]=.ok (.nx,[.fz a,.fz b,.fz c,.ow r,t4,t5,t6,t7,t8,t9,t10])):aX 11 3 (rP L) [a,b,c]=.ok (true,r):=by
 simp[aX,rP,aK,cX,sW,h,gU]
theorem Vj (T:Tab s xs Rows)(X:yJ xs)(U:Shs xs u)(gp:zZ xs u pl):rC [.lst Rows,.int s,pl]=.ok (true,dP (ω xs)<|wS xs<|fS xs u):=by
 obtain⟨t4,t5,t6,t7,t8,t9,t10,e⟩:=HJ T X U gp Rows [] xs .un .un .un .un .un .un .un T.ex rfl T.row;refine acN (t4:=t4) (t5:=t5) (t6:=t6) (t7:=t7) (t8:=t8) (t9:=t9) (t10:=t10) ?_;unfold wJ dg;have it:fL (aG 0) [.fz<|.lst Rows,.fz<|.int s,.fz pl,.ow<|.dcu [] [],.un,.un,.un,.un,.un,.un,.un]=.ok Rows:=by simp[fL,aG]
 rw[it];exact e
end
open L2 (atI ixN Key)
theorem aaC {xs:List RS}{u:Str->List Rat}(X:yJ xs)(U:Shs xs u){p:PS}(hp:p∈ω xs):Sz 300 (wS xs (fS xs u) p):=by
 obtain⟨x,hx,hw⟩:=iE.mp hp;obtain⟨w,hw',rfl⟩:=aT.mp hw;unfold wS;rw[qG X.nd hx];have h1:=Uj (f:=fS xs u) (l:=x.rc) λq hq=>U.sz X.toXsOk q<|X.rc x hx q hq
 have:=X.le x hx
 exact(GC h1<|U.sz X.toXsOk _ hp).mono (by omega)
theorem Zq {Fp:Zac}{y0 y1 y3 y5 y6:Sl}{F n w b c d:D}(h1:jV F (.tup [n,w])=some c)(h2:Fp [b,c]=.ok (false,d)):
  bc 7 (fFn Fp<|aj (aG 7)<|aj (az jV (aa 2)<|aY<|aj (aG 4)<|aj (aG 8) aB) aB) [y0,y1,.fz F,y3,.fz n,y5,y6,.fz b,.fz w]=.ok (.nx,[y0,y1,.fz F,y3,.fz n,y5,y6,.fz d,.fz w]):=by
 simp[bc,fFn,aj,aB,aG,az,aa,aY,h1,h2]
theorem Vs {xs:List RS}{f:PS->Rat}{n:Str}{y0 y1 y3 y5 y6:Sl}(hf:∀p∈ω xs,Sz 300<|f p):∀(ws:List Str) (b:Rat) (k:Nat) (s8:Sl),(∀w∈ws,(n,w)∈ω xs)->Sz k b->k+301*ws.length<=4000->
  ∃s8',bj (hName 8) jD (ws.map .str) [y0,y1,.fz<|dP (ω xs) f,y3,.fz<|.str n,y5,y6,.fz<|rD b,s8]=.ok (.nx,[y0,y1,.fz<|dP (ω xs) f,y3,.fz<|.str n,y5,y6,.fz<|rD<|b+(ws.map λw=>f (n,w)).sum,s8'])
 |[],b,k,s8,_,_,_=>⟨s8,by simp[bj,show b+0=b by grind]⟩
 |w::ws,b,k,s8,h,hb,hk=>by
  simp only[cw] at hk;have hp:=h w ah;obtain⟨s8',e⟩:=Vs (y0:=y0) (y1:=y1) (y3:=y3) (y5:=y5) (y6:=y6) hf ws (b+f (n,w)) (k+300+1) (.fz<|.str w) (λv hv=>h v<|af _ hv) (T8 hb<|hf _ hp) (by omega);rw[show b+f (n,w)+(ws.map λw=>f (n,w)).sum=b+((w::ws).map λw=>f (n,w)).sum by rw[ar,ka];grind] at e;refine⟨s8',?_⟩;rw[ar];exact(bG rfl<|Zq (F:=dP (ω xs) f) (QJ hp)<|Zu hb (hf _ hp)<|by omega).trans e
theorem aan {L : Me → Res (Fl × Me)} {y0 y4 : Sl} {s : Int} {F W R : D} {y7 y8 y8' : Sl} {v : Rat} (hL : ∀ b : D, L [y0, .fz (.int s), .fz F, .fz (.int s), y4, .fz W, .fz R, .fz (rD 0), y8] = .ok (.nx, [y0, .fz (.int s), .fz F, .fz (.int s), y4, .fz W, .fz R, .fz (rD v), y8']))
    (ht : (gEq R (.tup []) = some true ∧ v = 1) ∨ (gEq R (.tup []) = some false ∧ ∃ k, gIx R (.int (-1)) = some k ∧ jV F k = some (rD v))) :
    gIf (aN gEq (aa 3) (aa 1)) (aK (bc 7 (aY (aj (fC (.int 0)) (aj (fC (.int 1)) aB))))
     (aK L
     (gIf (jz (iC (aN gEq (aa 6) (aY aB)) (aN gNe (aa 7) (aY (aj (fC (.int 1)) (aj (fC (.int 1)) aB))))) (iC (aN gNe (aa 6) (aY aB)) (aN gNe (aa 7) (az jV (aa 2) (az gIx (aa 6) (fUn uD (fC (.int 1)))))))) (bM (fC (.bl false))) gNx))) gNx
     [y0, .fz (.int s), .fz F, .fz (.int s), y4, .fz W, .fz R, y7, y8] = .ok (.nx, [y0, .fz (.int s), .fz F, .fz (.int s), y4, .fz W, .fz R, .fz (rD v), y8']) := by
  have e0 : rD 0 = .tup [.int 0, .int 1] := rfl;have e1 : rD 1 = .tup [.int 1, .int 1] := rfl;have hL := hL .non;rw [e0] at hL;have nn : gNe (rD v) (rD v) = some false := by simp [gNe, aaN]
  rcases ht with ⟨h1, rfl⟩ | ⟨h1, k, h2, h3⟩
  · rw [e1] at *
    have h1' : gNe R (.tup []) = some false := by simp [gNe, h1]
    simp [gIf, aN, aa, aK, bc, aY, aj, aB, fC, hL, jz, iC, h1, h1', nn, gNx]
  · have h1' : gNe R (.tup []) = some true := by simp [gNe, h1]
    have ng : uD (.int 1) = some (.int (-1)) := rfl;generalize rD v = V at *;simp [gIf, aN, aa, aK, bc, aY, aj, aB, fC, hL, jz, iC, h1, h1', az, fUn, ng, h2, h3, nn, gNx]
theorem adg {rc:List PS}(h:pR (rc.map prD)=true):gEq (.tup<|rc.map prD) (.tup [])=some (decide<|rc=[]):=by
 have dd:∀l:List PS,mH (l.map prD)<=1:=λl=>by
  induction l with
  |nil=>decide
  |cons p l ih=>
   simp only[ar,mH]
   have:qb (prD p)=1:=by simp[prD,qb,mH]
   omega
 obtain⟨p,t,c1,c2,_⟩:=Hi (.tup<|rc.map prD) (by simpa[okD] using h);have d1:=dd rc;have sh:hU p=true:=by
  have:qb (.tup<|rc.map prD)<=64:=by simp[qb];omega
  unfold hU;rw[c1,c2];simpa using this
 obtain⟨ps,t1,t2⟩:∃ps,qW (rc.map prD)=some ps/\p=.tuple ps:=by
  have:(qW<|rc.map prD).map PyData.tuple=some p:=t
  obtain⟨ps,h1,h2⟩:=iO.mp this;exact⟨ps,h1,h2.symm⟩
 subst t2;have s0:hU (.tuple [])=true:=rfl;have z0:toPy (.tup [])=some (.tuple []):=rfl;show lg (.tup<|rc.map prD) (.tup [])=_;unfold lg;rw[t,z0];simp only[sh,s0,and_self,if_true];congr 1;cases rc with
 |nil=>
  cases t1;simp[kr,pe]
 |cons q rc=>
  cases ps with
  |nil=>
   simp only[ar,qW] at t1;cases a1:toPy (prD q) with
   |none=>rw[a1] at t1;simp at t1
   |some a=>cases a2:qW (rc.map prD) with
    |none=>rw[a1,a2] at t1;simp at t1
    |some b=>rw[a1,a2] at t1;simp at t1
  |cons a b=>simp[kr,pe]
theorem Y7 (l:List D)(d:D):gIx (.tup<|l++[d]) (.int (-1))=some d:=JS l d
section
variable {s:Int}{xs:List RS}{Rows:List D}{u:Str->List Rat}
theorem Uq (X:yJ xs)(U:Shs xs u){x:RS}(hx:x∈xs):(0:Rat)+(x.w.map λw=>wS xs (fS xs u) (x.n,w)).sum=prR (fD<|fS xs u) (x.rc.map prD):=by
 have e:(x.w.map λw=>wS xs (fS xs u) (x.n,w))=x.w.map λw=>prR (fD<|fS xs u) (x.rc.map prD)*fS xs u (x.n,w):=ox λw _=>by
  unfold wS;rw[qG X.nd hx]
 have hu:=U.ok x hx;have l:=O2 X.toXsOk hx hu.1;rw[e,Jp,← l,hu.2.2.1];grind
theorem acZ (X:yJ xs)(U:Shs xs u){x:RS}(hx:x∈xs){y0 y7 y8:Sl}:
  ∃t7 t8,dR [y0,.fz<|.int s,.fz<|dP (ω xs)<|wS xs<|fS xs u,.fz<|.int s,.fz<|.str x.n,.fz<|.tup<|x.w.map .str,.fz<|.tup<|x.rc.map prD,y7,y8]=.ok (.nx,[y0,.fz<|.int s,.fz<|dP (ω xs)<|wS xs<|fS xs u,.fz<|.int s,.fz<|.str x.n,.fz<|.tup<|x.w.map .str,.fz<|.tup<|x.rc.map prD,t7,t8]):=by
 have hin:∀w∈x.w,(x.n,w)∈ω xs:=λw hw=>iE.mpr ⟨x,hx,aT.mpr ⟨w,hw,rfl⟩⟩;obtain⟨h1,h2,h3⟩:=X.wd x hx;obtain⟨t8,e⟩:=Vs (n:=x.n) (y0:=y0) (y1:=.fz<|.int s) (y3:=.fz<|.int s) (y5:=.fz<|.tup<|x.w.map .str) (y6:=.fz<|.tup<|x.rc.map prD) (λp hp=>aaC X U hp) x.w 0 1 y8 hin Ak (by omega);rw[Uq X U hx] at e;refine⟨_,t8,aan (v:=prR (fD<|fS xs u)<|x.rc.map prD) (y8':=t8) (λ_=>?_) ?_⟩
 ·unfold jM dg;have it:jB (aG 5) [y0,.fz<|.int s,.fz<|dP (ω xs)<|wS xs<|fS xs u,.fz<|.int s,.fz<|.str x.n,.fz<|.tup<|x.w.map .str,.fz<|.tup<|x.rc.map prD,.fz<|rD 0,y8]=.ok (x.w.map .str):=by simp[jB,aG]
  rw[it];exact e
 ·rw[adg<|X.ok x hx];rcases X.lst x hx with z|⟨y,hy,w,hw,z⟩
  ·rw[z];exact .inl ⟨by simp,by simp[prR]⟩
  ·refine .inr ⟨by rw[z];simp,prD (y.n,w),?_,?_⟩
   ·rw[z,bE,pk];exact Y7 _ _
   ·rw[QJ<|show(y.n,w)∈ω xs from iE.mpr ⟨y,hy,aT.mpr ⟨w,hw,rfl⟩⟩];congr 2;unfold wS;rw[qG X.nd hy,z,bE,pk,Jf,Jq]
theorem IV (X:yJ xs)(U:Shs xs u){y0:Sl}:∀(rest:List D) (y3 y4 y5 y6 y7 y8:Sl),(∀d∈rest,xx d)->(∀d∈rest,sdD d=s->∃x∈xs,d=cB s x)->
  ∃m',bj (hR4 3 4 5 6) dR rest [y0,.fz<|.int s,.fz<|dP (ω xs)<|wS xs<|fS xs u,y3,y4,y5,y6,y7,y8]=.ok (.nx,m')
 |[],y3,y4,y5,y6,y7,y8,_,_=>⟨_,rfl⟩
 |d::rest,y3,y4,y5,y6,y7,y8,hr,hx=>by
  by_cases c:sdD d=s
  ·obtain⟨x,hxx,rfl⟩:=hx d ah c;obtain⟨t7,t8,e1⟩:=acZ (s:=s) X U hxx (y0:=y0) (y7:=y7) (y8:=y8);obtain⟨m',e2⟩:=IV X U (y0:=y0) rest (.fz<|.int s) (.fz<|.str x.n) (.fz<|.tup<|x.w.map .str) (.fz<|.tup<|x.rc.map prD) t7 t8 (λd h=>hr d<|af _ h) λd h=>hx d<|af _ h;exact⟨m',(bG rfl e1).trans e2⟩
  ·obtain⟨a,n,ws,r,rfl⟩:=hr d ah;have c:¬a=s:=c;obtain⟨m',e2⟩:=IV X U (y0:=y0) rest (.fz<|.int a) (.fz<|.str n) (.fz<|.tup<|fJ ws) (.fz<|.tup<|gm r a) y7 y8 (λd h=>hr d<|af _ h) λd h=>hx d<|af _ h;refine⟨m',(bG rfl ?_).trans e2⟩;generalize dP (ω xs) (wS xs<|fS xs u)=F;simp[dR,gIf,aN,aa,c,gNx]
theorem aa0 {L:Zab}{a b c:D}{m':Me}(h:L [.fz a,.fz b,.fz c,.un,.un,.un,.un,.un,.un]=.ok (.nx,m')):aX 9 3 (eV L) [a,b,c]=.ok (false,.bl true):=by
 simp[aX,eV,aK,h,bM,fC]
theorem Y4 (T:Tab s xs Rows)(X:yJ xs)(U:Shs xs u):eY [.lst Rows,.int s,dP (ω xs)<|wS xs<|fS xs u]=.ok (false,.bl true):=by
 obtain⟨m',e⟩:=IV (s:=s) X U (y0:=.fz<|.lst Rows) Rows .un .un .un .un .un .un T.row λd hd h=>by
  have:d∈Rows.filter (λd=>decide<|sdD d=s):=dy.mpr ⟨hd,decide_eq_true h⟩
  rw[T.ex] at this;obtain⟨x,hx,rfl⟩:=aT.mp this;exact⟨x,hx,rfl⟩
 refine aa0 (m':=m') ?_;unfold jQ dg;have it:fL (aG 0) [.fz<|.lst Rows,.fz<|.int s,.fz<|dP (ω xs)<|wS xs<|fS xs u,.un,.un,.un,.un,.un,.un]=.ok Rows:=by simp[fL,aG]
 rw[it];exact e
end
theorem O3 {ps:List PS}{f:PS->Rat}:∀{qs:List PS},(∀q∈qs,q∈ps)->Dj (ps.map Pk.kp) (ps.map λp=>rD<|f p) (qs.map Pk.kp) (qs.map λp=>rD<|f p)=some true
 |[],_=>rfl
 |q::qs,h=>by
  rw[ar,ar];unfold Dj;rw[Mf<|h q ah];have e:lg (rD<|f q) (rD<|f q)=some true:=o7 rfl (show(1:Nat)<=64 by decide);simp only[e,xw,O3 λq hq=>h q<|af _ hq,iq,Bool.and_true]
theorem J9 {ps:List PS}{f:PS->Rat}:V1 (dP ps f) (dP ps f)=some true:=by
 show(if(ps.map Pk.kp).length=(ps.map Pk.kp).length then _ else _)=_;rw[if_pos rfl];exact O3 λ_ h=>h
theorem Ju {ps:List PS}{f:PS->Rat}:RQ (dP ps f) (dP ps f)=some false:=by
 unfold RQ;rw[J9];rfl
theorem Up {i j:Nat}{ft:Zaf}:∀(ds:List D) (m:Me),(∀d∈ds,∀m':Me,m'.length=m.length->ft ((m'.set j<|.fz d).set i .un)=.ok false)->∃s,goA i j ft false ds m=.ok (.nx,m.set j s)\/goA i j ft false ds m=.ok (.nx,m)
 |[],m,_=>⟨.un,.inr rfl⟩
 |d::ds,m,h=>by
  have h1:=h d ah m rfl;obtain⟨s,e⟩:=Up ds (m.set j<|.fz d) λd' hd m' hm=>h d' (af _ hd) m' (by simpa using hm);unfold goA;rw[h1];rcases e with e|e
  ·exact⟨s,.inl<|by simpa using e⟩
  ·exact⟨.fz d,.inl e⟩
open L2 (atI ixN Key)
theorem aW {f:Zae}{fs:Zad}{m:Me}{d:D}{ds:List D}(h:f m=.ok d)(h2:fs m=.ok ds):aj f fs m=.ok (d::ds):=by simp[aj,h,h2]
theorem kj {Φ:Zac}{fs:Zad}{m:Me}{ds:List D}{b:Bool}{d:D}(h:fs m=.ok ds)(h2:Φ ds=.ok (b,d)):fFn Φ fs m=.ok d:=by simp[fFn,h,h2]
theorem qC {i:Nat}{f:Zae}{m:Me}{d:D}(h:f m=.ok d):bc i f m=.ok (.nx,m.set i<|.fz d):=by simp[bc,h]
theorem ig {f k:Zab}{m m':Me}(h:f m=.ok (.nx,m')):aK f k m=k m':=by simp[aK,h]
theorem m9 {g:D->D->Option D}{f1 f2:Zae}{m:Me}{a b d:D}(h1:f1 m=.ok a)(h2:f2 m=.ok b)(h:g a b=some d):az g f1 f2 m=.ok d:=by simp[az,h1,h2,h]
theorem acJ {fs:Zad}{m:Me}{ds:List D}(h:fs m=.ok ds)(hl:ds.length<=100):fU fs m=.ok (.lst ds):=by
 have:ds.length<=16777216:=by omega
 simp[fU,h,this]
theorem Tn {a b:Int}(hb:0<b)(hB:Bq b):bJ (.int a) (.int b)=some (.int<|a%b):=by
 have:¬b=0:=by omega
 simp[bJ,mdI,this,hb,hB]
theorem VF {a b:Int}(hb:0<b)(hB:Bq b):du (.int a) (.int b)=some (.int<|a/b):=by
 have:¬b=0:=by omega
 simp[du,dvI,this,hb,hB]
theorem DG {g:D->D->Option Bool}{f1 f2:Zae}{m:Me}{a b:D}{r:Bool}(h1:f1 m=.ok a)(h2:f2 m=.ok b)(h:g a b=some r):aN g f1 f2 m=.ok r:=by simp[aN,h1,h2,h]
theorem Vm {f1 f2:Zaf}{m:Me}(h1:f1 m=.ok false)(h2:f2 m=.ok false):jz f1 f2 m=.ok false:=by simp[jz,h1,h2]
theorem Ir {f:Zaf}{k:Zab}{m:Me}(h:f m=.ok false):gIf f k gNx m=.ok (.nx,m):=by simp[gIf,h,gNx]
theorem acF {i:Nat}{f:Zae}{m:Me}{d:D}(h:f m=.ok d)(hi:i<m.length):cX i f m=.ok (.nx,m.set i<|.ow d):=by simp[cX,h,hi]
theorem abw {Φ:Zac}{fs:Zad}{m:Me}{ds:List D}{d:D}(h:fs m=.ok ds)(h2:Φ ds=.ok (true,d))(ht:isTup d=false):Rg Φ fs m=.ok d:=by simp[Rg,h,h2,ht]
theorem ZR {Φ:Zac}{fs:Zad}{m:Me}{ds:List D}{b:Bool}(h:fs m=.ok ds)(h2:Φ ds=.ok (b,.bl true)):gV (fTv<|YC Φ fs) m=.ok false:=by
 have:flat (.bl true)=true:=rfl
 simp[gV,fTv,YC,h,h2,this]
theorem Zm {f:Zae}{m:Me}{ks:List (List Kt)}{ds:List D}(h:f m=.ok (.dcu ks ds)):gV (fTv<|vd "dict" f) m=.ok false:=by
 have:abM "dict" "dict" = true:=rfl
 simp[gV,fTv,vd,h,oN,this]
theorem adM {m':Me}{x:Rat}{k:Nat}(h:Sz k x)(hk:k<=4000)(hl:m'.length=13):uG ((m'.set 10<|.fz<|rD x).set 9 .un)=.ok false:=by
 have e:=adE h hk;have v:aG 10 ((m'.set 10<|.fz<|rD x).set 9 .un)=.ok (rD x):=by
  have:((m'.set 10<|.fz<|rD x).set 9 .un)[10]? = some (.fz<|rD x):=by
   rw[br (by decide),bo<|by omega]
  simp[aG,this]
 simp[uG,gV,fTv,fFn,aj,aB,v,e]
theorem ac9 {y0 y1 y2 y3 y4 y5 y6 y7 y8:Sl}{ps:List PS}{f:PS->Rat}(hf:∀p∈ps,Sz 300<|f p):
  ∃t,An [y0,y1,y2,y3,y4,y5,y6,y7,y8,.ow<|dP ps f,.un,.un,.un]=.ok (.nx,[y0,y1,y2,y3,y4,y5,y6,y7,y8,.ow<|dP ps f,t,.un,.un]):=by
 obtain⟨t,e⟩:=Up (i:=9) (j:=10) (ft:=uG) (ps.map λp=>rD<|f p) [y0,y1,y2,y3,y4,y5,y6,y7,y8,.ow<|dP ps f,.un,.un,.un] λd hd m' hm=>by
  obtain⟨p,hp,rfl⟩:=aT.mp hd;exact adM (hf p hp) (by decide) hm
 have e0:An [y0,y1,y2,y3,y4,y5,y6,y7,y8,.ow<|dP ps f,.un,.un,.un]=goA 9 10 uG false (ps.map λp=>rD<|f p) [y0,y1,y2,y3,y4,y5,y6,y7,y8,.ow<|dP ps f,.un,.un,.un]:=by
  show(if 9≠10/\10<13 then goA 9 10 uG false (ps.map λp=>rD<|f p) [y0,y1,y2,y3,y4,y5,y6,y7,y8,.ow<|dP ps f,.un,.un,.un] else .stuck)=_;rw[if_pos<|by decide]
 rw[e0];rcases e with e|e
 ·exact⟨t,e⟩
 ·exact⟨.un,e⟩
theorem abK {y0 y1 y2 y3 y4 y5 y6 y7 y8 y10 y11 y12:Sl}{ks:List (List Kt)}{ds:List D}:Hl 9 [y0,y1,y2,y3,y4,y5,y6,y7,y8,.ow<|.dcu ks ds,y10,y11,y12]=.ok (.nx,[y0,y1,y2,y3,y4,y5,y6,y7,y8,.ow<|.dcu [] [],y10,y11,y12]):=rfl
theorem ac4 {f1 f2:Zae}{g:D->D->Option Bool}{m:Me}{a b:D}(h1:f1 m.let=.ok a)(h2:f2 m.let=.ok b)(h:g a b=some true):bM (oJ g f1 f2) m=.ok (.rt false<|.bl true,m.let):=by simp[bM,oJ,h1,h2,h]
theorem abg {f:Zaf}{i:Nat}{k:Zae}{m:Me}{b:Bool}{a d P:D}(h:f m=.ok b)(hk:b=true->k m=.ok d)(e:P=if b=true then d else a)(ha:m[i]? = some (.fz a)):gIf f (bc i k) gNx m=.ok (.nx,m.set i<|.fz P):=by
 cases b with
 |true=>simp at e;subst e;simp[gIf,h,bc,hk rfl]
 |false=>
  simp at e;subst e
  have:m.set i (.fz P)=m:=by
   refine List.ext_getElem? λj=>?_;by_cases c:i=j
   ·subst c;have hi:i<m.length:=by
     rcases mI i m.length with z|z
     ·exact z
     ·rw[i7 z] at ha;cases ha
    rw[bo hi,ha]
   ·rw[br c]
  rw[this];simp[gIf,h,gNx]
theorem XR {Fw Fc Fp Fg Ft Fn Fu Fd Fk Fa:Zac}{ns pl G P Pn Pu H O:D}{R s1:List D}{c0 c1 c2 c3 c4 c5 s dep:Int}{ps qs:List PS}{f h:PS->Rat}
  (h0:Fc [ns,.int 0]=.ok (false,.int c0)) (h1:Fc [ns,.int 1]=.ok (false,.int c1)) (h2:Fc [ns,.int 2]=.ok (false,.int c2)) (h3:Fc [ns,.int 3]=.ok (false,.int c3)) (h4:Fc [ns,.int 4]=.ok (false,.int c4)) (h5:Fc [ns,.int 5]=.ok (false,.int c5))
  (hp:Fp [.int c0,.int c1]=.ok (true,pl)) (hdp:gIx (.lst [.int 5,.int 8,.int 12,.int 5]) (.int<|c2/128%4)=some (.int dep))
  (e1:fSl (aa 0) (fO1<|fC<|.int 6) (fO1<|fC<|.int 46) [.fz ns,.fz pl,.fz<|.int c2,.fz<|.int dep,.un,.un,.un,.un,.un,.un,.un,.un,.un]=.ok (.lst s1)) (ga:bU (.lst s1) (.lst [.int c3])=some (.lst<|s1++[.int c3])) (eg:Fg [.lst<|s1++[.int c3],.int c2,.int dep,.int 63,pl]=.ok (false,G))
  (et:Ft [G]=.ok (true,.lst R)) (es:bU (.int 1) (.int<|c2/512%2)=some (.int s)) (e3:dN (.int 3) (.int s)=some (.int<|3-s))
  (en:Fn [.lst R,.int s,.int c4]=.ok (true,Pn)) (eu:Fu [.lst R,.int s,.int c4]=.ok (true,Pu)) (eP:P=if decide (c2/1024%4=1)=true then Pu else Pn) (ea:Fa [P]=.ok (true,H))
  (ew:Fw [G,.int s,H]=.ok (true,dP ps f)) (ne:Wd H P=some false) (hf:∀p∈ps,Sz 300<|f p) (ed:Fd [.lst R,.int s,P]=.ok (true,dP ps f)) (ek:Fk [.lst R,.int s,dP ps f]=.ok (false,.bl true))
  (eo:Fn [.lst R,.int<|3-s,.int c5]=.ok (true,O)) (ew2:Fw [G,.int<|3-s,O]=.ok (true,dP qs h)) (ed2:Fd [.lst R,.int<|3-s,O]=.ok (true,dP qs h)) (ew3:Fw [G,.int s,P]=.ok (true,dP ps f)):
  ∃m'',O4 Fw Fc Fp Fg Ft Fn Fu Fd Fk Fa An [.fz ns,.un,.un,.un,.un,.un,.un,.un,.un,.un,.un,.un,.un]=.ok (.rt false<|.bl true,m''):=by
 have b2:Bq 2:=bgS (by decide);have b4:Bq 4:=bgS (by decide);have b128:Bq 128:=bgS (by decide);have b512:Bq 512:=bgS (by decide);have b1024:Bq 1024:=bgS (by decide);obtain⟨t,l2⟩:=ac9 (y0:=.fz ns) (y1:=.fz pl) (y2:=.fz<|.int c2) (y3:=.fz<|.int dep) (y4:=.fz G) (y5:=.fz<|.lst R) (y6:=.fz<|.int s) (y7:=.fz P) (y8:=.fz H) hf;have un:=Ju (ps:=ps) (f:=f);have un2:=Ju (ps:=qs) (f:=h);have ue:=J9 (ps:=ps) (f:=f);refine⟨Me.let [.fz ns,.fz pl,.fz<|.int c2,.fz<|.int dep,.fz G,.fz<|.lst R,.fz<|.int s,.fz P,.fz H,.ow<|.dcu [] [],t,.fz<|dP ps f,.fz O],?_⟩;unfold O4;refine(ig<|qC<|kj (aW (kj (aW (d:=ns) rfl<|aW (d:=.int 0) rfl rfl) h0)<|aW (kj (aW (d:=ns) rfl<|aW (d:=.int 1) rfl rfl) h1) rfl) hp).trans ?_;refine(ig<|qC<|kj (aW (d:=ns) rfl<|aW (d:=.int 2) rfl rfl) h2).trans ?_;refine(ig<|qC<|m9 (a:=.lst [.int 5,.int 8,.int 12,.int 5]) rfl (m9 (m9 (a:=.int c2) (b:=.int 128) rfl rfl<|VF (by decide) b128) (b:=.int 4) rfl<|Tn (by decide) b4) hdp).trans ?_;refine(ig<|qC<|kj (aW (m9 e1 (acJ (ds:=[.int c3]) (aW (kj (aW (d:=ns) rfl<|aW (d:=.int 3) rfl rfl) h3) rfl)<|show(1:Nat)<=100 by decide) ga) (aW (d:=.int c2) rfl<|aW (d:=.int dep) rfl<|aW (d:=.int 63) rfl<|aW (d:=pl) rfl rfl)) eg).trans ?_;refine(ig<|qC<|kj (aW (d:=G) rfl rfl) et).trans ?_;refine(ig<|qC<|m9 (a:=.int 1) rfl (m9 (m9 (a:=.int c2) (b:=.int 512) rfl rfl<|VF (by decide) b512) (b:=.int 2) rfl<|Tn (by decide) b2) es).trans ?_;refine(ig<|qC<|kj (aW (d:=.lst R) rfl<|aW (d:=.int s) rfl<|aW (kj (aW (d:=ns) rfl<|aW (d:=.int 4) rfl rfl) h4) rfl) en).trans ?_;refine(ig<|abg (P:=P) (a:=Pn) (d:=Pu) (b:=decide<|c2/1024%4=1) (DG (m9 (m9 (a:=.int c2) (b:=.int 1024) rfl rfl<|VF (by decide) b1024) (b:=.int 4) rfl<|Tn (by decide) b4) (b:=.int 1) rfl<|by simp[gEq]) (λ_=>kj (aW (d:=.lst R) rfl<|aW (d:=.int s) rfl<|aW (kj (aW (d:=ns) rfl<|aW (d:=.int 4) rfl rfl) h4) rfl) eu) eP rfl).trans ?_;refine(ig<|qC<|kj (aW (d:=P) rfl rfl) ea).trans ?_;refine(ig<|acF (abw (aW (d:=G) rfl<|aW (d:=.int s) rfl<|aW (d:=H) rfl rfl) ew rfl)<|show(9:Nat)<13 by decide).trans ?_;refine(ig<|Ir<|Vm (Zm (ks:=ps.map Pk.kp) (ds:=ps.map λp=>rD<|f p) rfl)<|DG (a:=H) (b:=P) rfl rfl ne).trans ?_;refine(ig l2).trans ?_;refine(ig<|qC<|kj (aW (d:=.lst R) rfl<|aW (d:=.int s) rfl<|aW (d:=P) rfl rfl) ed).trans ?_;refine(ig<|Ir<|Vm (DG (a:=dP ps f) (b:=dP ps f) rfl rfl un)<|ZR (aW (d:=.lst R) rfl<|aW (d:=.int s) rfl<|aW (d:=dP ps f) rfl rfl) ek).trans ?_;refine(ig<|qC<|kj (aW (d:=.lst R) rfl<|aW (m9 (a:=.int 3) (b:=.int s) rfl rfl e3)<|aW (kj (aW (d:=ns) rfl<|aW (d:=.int 5) rfl rfl) h5) rfl) eo).trans ?_;refine(ig<|Ir<|Vm (DG (kj (aW (d:=G) rfl<|aW (m9 (a:=.int 3) (b:=.int s) rfl rfl e3)<|aW (d:=O) rfl rfl) ew2) (kj (aW (d:=.lst R) rfl<|aW (m9 (a:=.int 3) (b:=.int s) rfl rfl e3)<|aW (d:=O) rfl rfl) ed2) un2)<|DG (a:=dP ps f) (b:=dP ps f) rfl rfl un).trans ?_;refine(ig<|abK (ks:=ps.map Pk.kp) (ds:=ps.map λp=>rD<|f p)).trans ?_;exact ac4 (kj (aW (d:=G) rfl<|aW (d:=.int s) rfl<|aW (d:=P) rfl rfl) ew3) (b:=dP ps f) rfl ue
theorem acr {g:Zab}{ns d:D}{m':Me}(e:g [.fz ns,.un,.un,.un,.un,.un,.un,.un,.un,.un,.un,.un,.un]=.ok (.rt false d,m')):aX 13 1 g [ns]=.ok (false,d):=by
 simp[aX,e]
theorem J2:∀(l:List Tr3) (T:Tb),(l.foldl tst T).2.length<=T.2.length+l.length
 |[],T=>by simp
 |p::l,T=>by
  have h:=J2 l<|tst T p
  have:(tst T p).2.length<=T.2.length+1:=by
   unfold tst;split
   ·split<;>simp
   ·omega
  simp only[sv,cw];omega
theorem abd {e:En}{N:Nd}{s:Int}{n:Str}{d:D}(h:Row e N s n d):1<=wdD d/\wdD d<=3:=by
 obtain⟨rc,c,b,k,_,_,_,_,_,hc,_,rfl⟩:=h;show 1<=((cf c).map _).length/\((cf c).map _).length<=3;simpa using hc
theorem Lk {s:Int}{xs:List RS}{Rs:List D}{q:Str->List Rat}(ex:Rs=xs.map (cB s))(h:∀d∈Rs,okS 20 (q<|nmR d)<|wdD d):Shs xs q:=⟨λx hx=>by
 have:=h (cB s x) (by rw[ex];exact aT.mpr ⟨x,hx,rfl⟩)
 have e:wdD (cB s x)=x.w.length:=bp ..;rw[e] at this;exact this⟩
theorem WW:∀ns:List Int,ns.length<=63->∃fr,aaI [.lst<|ns.map D.int]=.ok (fr,.bl true):=by
 intro ns hn;obtain⟨c0,h0⟩:=cell_eq ns 0 (by omega);obtain⟨c1,h1⟩:=cell_eq ns 1 (by omega);obtain⟨c2,h2⟩:=cell_eq ns 2 (by omega);obtain⟨c3,h3⟩:=cell_eq ns 3 (by omega);obtain⟨c4,h4⟩:=cell_eq ns 4 (by omega);obtain⟨c5,h5⟩:=cell_eq ns 5 (by omega);obtain⟨p,ep,P⟩:=Yy c0 c1;have cl:(cut ns (some 6)<|some 46).length<=63:=by unfold cut;simp only[me,nN];omega
 have E:nC ⟨cut ns (some 6) (some 46)++[c3],p,c2%64,decide<|c2/64%2=1⟩:=⟨by simp,by simp;omega,P.p8,by show 0<=c2%64/\c2%64<64;omega,P.ok⟩;obtain⟨dep,hdl,hdp⟩:∃dep:Nat,dep<=12/\gIx (.lst [.int 5,.int 8,.int 12,.int 5]) (.int<|c2/128%4)=some (.int (dep:Int)):=by
  have h:c2/128%4=0\/c2/128%4=1\/c2/128%4=2\/c2/128%4=3:=by omega
  rcases h with h|h|h|h<;>rw[h]
  ·exact⟨5,by decide,rfl⟩
  ·exact⟨8,by decide,rfl⟩
  ·exact⟨12,by decide,rfl⟩
  ·exact⟨5,by decide,rfl⟩
 obtain⟨g,N,m,eg,I,hsz,Gr⟩:=Xo E (turn:=c2) (rm:=63) (dep:=dep) hdl (by decide) rfl rfl;rw[show cD ⟨cut ns (some 6) (some 46)++[c3],p,c2%64,decide<|c2/64%2=1⟩=.lst ((cut ns (some 6)<|some 46).map D.int++[.int c3]) by simp[cD]] at eg;have hsz:szG g<=64:=hsz;have Gg:Gd g:=Wf E P.nd I hdl Gr hsz;have tb:=Tf Gg.len Gg.sd (by have:=Gg.dep;omega) (by omega);have TB:aeg (tbl<|prG [] ([],[]) g).2:=⟨by
  have:=J2 (prG [] ([],[]) g) ([],[])
  rw[Jh] at this;show((prG [] ([],[]) g).foldl tst ([],[])).2.length<=100;simp only[yb] at this;omega,λd hd=>by
  obtain⟨s,n,_,hR⟩:=xg Gr hd;exact⟨wW hd,abd hR⟩,λs=>Pb s⟩
 obtain⟨s,hs,es⟩:∃s:Int,(s=1\/s=2)/\s=1+c2/512%2:=⟨1+c2/512%2,by omega,rfl⟩;have h3s:3-s=1\/3-s=2:=by omega
 obtain⟨xs,ex,X⟩:=Px E P.nd I hdl Gr hsz hs;obtain⟨ys,ey,Y⟩:=Px E P.nd I hdl Gr hsz h3s;have Tx:Tab s xs (tbl<|prG [] ([],[]) g).2:=⟨ex,λd hd=>(TB.row d hd).1,TB.len⟩;have Ty:Tab (3-s) ys (tbl<|prG [] ([],[]) g).2:=⟨ey,λd hd=>(TB.row d hd).1,TB.len⟩;have tl:=TB.len;obtain⟨q1,p1,k1⟩:=N7 (s:=s) (cell:=c4) (by omega) TB.row<|TB.nd s;obtain⟨q2,p2,k2⟩:=Xr s c4 TB;obtain⟨q3,p3,k3⟩:=N7 (s:=3-s) (cell:=c5) (by omega) TB.row<|TB.nd<|3-s;have U1:=Lk ex λd hd=>(k1 d hd).1;have U2:=Lk ex λd hd=>(by
  obtain⟨j,j1,j2⟩:=k2 d hd;rw[j2];exact ab4 (TB.row d (dy.mp hd).1).2.2 j1:okS 20 (q2<|nmR d) (wdD d))
 have U3:=Lk ey λd hd=>(k3 d hd).1;obtain⟨q,U,eP⟩:∃q,Shs xs q/\cC (rowsOf g s) q=if decide (c2/1024%4=1)=true then cC (rowsOf g s) q2 else cC (rowsOf g s) q1:=by
  by_cases c:c2/1024%4=1
  ·exact⟨q2,U2,by simp[c]⟩
  ·exact⟨q1,U1,by simp[c]⟩
 have l8:=X.len;have ll:(rowsOf g s).length=xs.length:=by rw[ex];simp
 have lm:(rowsOf g<|3-s).length=ys.length:=by rw[ey];simp
 have mem:∀x∈xs,cB s x∈rowsOf g s:=λx hx=>by rw[ex];exact aT.mpr ⟨x,hx,rfl⟩
 have memy:∀x∈ys,cB (3-s) x∈rowsOf g (3-s):=λx hx=>by rw[ey];exact aT.mpr ⟨x,hx,rfl⟩
 have ab:=Ue (q:=q) (TB.nd s) (by rw[ll];omega);have w1:=T5 Gg ex X U (Ms:=(rowsOf g s).reverse) (by simp[ll]) λx hx=>List.mem_reverse.mpr<|mem x hx;have w3:=T5 Gg ex X U (Ms:=rowsOf g s) ll mem;have w2:=T5 Gg ey Y U3 (Ms:=rowsOf g<|3-s) lm memy;have gp:zZ xs q (cC (rowsOf g s) q):=λx hx=>wA ⟨cB s x,mem x hx,rfl⟩;have gpy:zZ ys q3 (cC (rowsOf g<|3-s) q3):=λx hx=>wA ⟨cB (3-s) x,memy x hx,rfl⟩;have d1:=Vj Tx X U gp;have d2:=Vj Ty Y U3 gpy;have ne:=aci (Rs:=rowsOf g s) (Ms:=(rowsOf g s).reverse) (q:=q) (by simp) λd hd=>List.mem_reverse.mp hd;have ck:=Y4 Tx X U;have ga:bU (.lst<|(cut ns (some 6)<|some 46).map D.int) (.lst [.int c3])=some (.lst<|(cut ns (some 6)<|some 46).map D.int++[.int c3]):=by
  have:(cut ns (some 6)<|some 46).length+1<=16777216:=by omega
  simp[bU,this]
 have gs:bU (.int 1) (.int<|c2/512%2)=some (.int s):=by rw[es];simp[bU]
 have g3:F.dN (.int 3) (.int s)=some (.int<|3-s):=by simp[F.dN]
 obtain⟨m'',e⟩:=XR (Fw:=nO) (Fc:=fP) (Fp:=ph) (Fg:=oY) (Ft:=jK) (Fn:=oX) (Fu:=pL) (Fd:=rC) (Fk:=eY) (Fa:=nA) h0 h1 h2 h3 h4 h5 ep hdp (s1:=(cut ns (some 6)<|some 46).map D.int) (by
  show Res.ok (D.lst<|cut (ns.map D.int) (some 6)<|some 46)=_;unfold cut;simp[List.map_take,List.map_drop]) ga eg tb gs g3 p1 p2 eP ab w1 ne (λp hp=>aaC X U hp) d1 ck p3 w2 d2 w3
 exact⟨false,acr e⟩
local macro_rules | `(tactic| trivial)=>`(tactic| first|exact⟨rfl,rfl,rfl,by decide +kernel,rfl,by decide +kernel,by decide +kernel⟩|exact⟨rfl,by decide +kernel,by decide +kernel,by decide +kernel,by decide +kernel⟩)
noncomputable def top (i:Nat):Stmt:=PySem.Challenge.pw_hushduel_k19_weights.main.body.getD i<|.Pass ⟨0,0,0,0⟩
theorem Ly:dA "abs" = some (.builtin "abs"):=by decide +kernel
theorem Vq:dA "all" = some (.builtin "all"):=by decide +kernel
theorem Ra:dA "bool" = some (.type "bool"):=by decide +kernel
theorem QM:dA "dict" = some (.type "dict"):=by decide +kernel
theorem Lq:dA "int" = some (.type "int"):=by decide +kernel
theorem dw:dA "isinstance" = some (.builtin "isinstance"):=by decide +kernel
theorem gW:dA "len" = some (.builtin "len"):=by decide +kernel
theorem qX:dA "list" = some (.type "list"):=by decide +kernel
theorem Ni:dA "sum" = some (.builtin "sum"):=by decide +kernel
theorem iU:dA "tuple" = some (.type "tuple"):=by decide +kernel
abbrev By:Stmt:=top 6
abbrev qI:Stmt:=top 7
abbrev Kr:Stmt:=top 8
abbrev BP:Stmt:=top 9
abbrev Ut:Stmt:=top 10
abbrev Q9:Stmt:=top 11
abbrev QK:Stmt:=top 12
abbrev Pq:Stmt:=top 13
abbrev p7:Stmt:=top 15
abbrev tU:Stmt:=top 16
abbrev vM:Stmt:=top 18
abbrev qO:Stmt:=top 19
abbrev km:Stmt:=top 20
abbrev K8:Stmt:=top 21
abbrev Bs:Stmt:=top 22
abbrev zj:Stmt:=top 23
abbrev jG:Stmt:=top 25
abbrev pP:Stmt:=top 26
abbrev Fe:Stmt:=top 27
abbrev qU:Stmt:=top 28
abbrev qP:Stmt:=top 29
abbrev vm:Stmt:=top 30
abbrev wB:Stmt:=top 31
abbrev um:Stmt:=top 33
abbrev vg:Stmt:=top 34
abbrev pK:Stmt:=top 35
abbrev wC:Stmt:=top 36
abbrev ql:Stmt:=top 37
abbrev Dz:Stmt:=top 38
abbrev oG:Stmt:=top 39
abbrev zB:Stmt:=top 40
abbrev xJ:Stmt:=top 41
abbrev zP:Stmt:=top 42
abbrev qF:Stmt:=top 43
abbrev rn:Stmt:=top 44
abbrev zG:Stmt:=top 45
abbrev xq:Stmt:=top 46
abbrev rK:Stmt:=top 47
abbrev zW:Stmt:=top 48
abbrev ud:Stmt:=top 49
abbrev wK:Stmt:=top 50
abbrev tu:Stmt:=top 51
abbrev yd:Stmt:=top 52
abbrev Dq:Stmt:=top 53
abbrev mG:Stmt:=top 54
abbrev xQ:Stmt:=top 55
abbrev Fj:Stmt:=top 56
structure Qs (K:bP):Prop where
 q0:QD K "is_whole" By
 q1:QD K "common_divisor" qI
 q2:QD K "lowest" Kr
 q3:QD K "is_ratio" BP
 q4:QD K "plus" Ut
 q5:QD K "times" Q9
 q6:QD K "under" QK
 q7:QD K "total" Pq
 q8:QD K "branches_of" p7
 q9:QD K "places_of" tU
 q10:QD K "words_at" vM
 q11:QD K "records_behind" qO
 q12:QD K "places_with_records" km
 q13:QD K "row_at" K8
 q14:QD K "table_of" Bs
 q15:QD K "rows_of" zj
 q16:QD K "are_full_shares" jG
 q17:QD K "is_plan_for" pP
 q18:QD K "is_plan" Fe
 q19:QD K "refuse_no_plan" qU
 q20:QD K "shares_by_pair" qP
 q21:QD K "weights_for" vm
 q22:QD K "weights_of" wB
 q23:QD K "_law_cell_at" um
 q24:QD K "_law_lowest" vg
 q25:QD K "_law_pool" pK
 q26:QD K "_law_stake" wC
 q27:QD K "_law_shares" ql
 q28:QD K "_law_mix" Dz
 q29:QD K "_law_name_number" oG
 q30:QD K "_law_move" zB
 q31:QD K "_law_built" xJ
 q32:QD K "_law_game" zP
 q33:QD K "_law_places" qF
 q34:QD K "_law_table" rn
 q35:QD K "_law_plus" zG
 q36:QD K "_law_times" xq
 q37:QD K "_law_parts" rK
 q38:QD K "_law_plan" zW
 q39:QD K "_law_pure" ud
 q40:QD K "_law_whole" wK
 q41:QD K "_law_is_ratio" tu
 q42:QD K "_law_share" yd
 q43:QD K "_law_due" Dq
 q44:QD K "_law_come_together" mG
 q45:QD K "_law_about" xQ
 q46:QD K "law" Fj
 n0:NO K "ValueError"
 n1:NO K "abs"
 n2:NO K "all"
 n3:NO K "bool"
 n4:NO K "dict"
 n5:NO K "enumerate"
 n6:NO K "int"
 n7:NO K "isinstance"
 n8:NO K "len"
 n9:NO K "list"
 n10:NO K "range"
 n11:NO K "reversed"
 n12:NO K "sum"
 n13:NO K "tuple"
 n14:NO K "zip"
 c0:Ck K "NOUGHT" 0 1
 c1:Ck K "ONE" 1 1
structure Bt (K:bP)(mg:Zp)(base:Heap):Prop where
 c:Cb K mg base
 q:Qs K
theorem Mw:aR ["thing"] ["thing"] (aL By):=by trivial
theorem d7:aR ["first", "second", "great", "small", "rest"] ["first", "second"] (aL qI):=by trivial
theorem Dm:aR ["top", "bottom", "divisor"] ["top", "bottom"] (aL Kr):=by trivial
theorem Nb:aR ["thing"] ["thing"] (aL BP):=by trivial
theorem abp:aR ["first", "second"] ["first", "second"] (aL Ut):=by trivial
theorem Yp:aR ["first", "second"] ["first", "second"] (aL Q9):=by trivial
theorem X7:aR ["first", "second"] ["first", "second"] (aL QK):=by trivial
theorem Az:aR ["some", "result", "each"] ["some"] (aL Pq):=by trivial
theorem Eb:aR ["game"] ["game"] (aL p7):=by trivial
theorem mC:aR ["game", "places", "waiting", "place", "behind"] ["game"] (aL tU):=by trivial
theorem Mx:aR ["move"] ["move"] (aL vM):=by trivial
theorem qK:aR ["place", "records", "number", "pair"] ["place", "records", "number"] (aL qO):=by trivial
theorem cO:aR ["game", "known", "found", "way", "place", "number"] ["game"] (aL km):=by trivial
theorem Tv:aR ["move", "records"] ["move", "records"] (aL K8):=by trivial
theorem oE:aR ["game", "rows", "way", "place", "records"] ["game"] (aL Bs):=by trivial
theorem Rb:aR ["game", "side"] ["game", "side"] (aL zj):=by trivial
theorem wZ:aR ["thing", "count"] ["thing", "count"] (aL jG):=by trivial
theorem Em:aR ["rows", "thing"] ["rows", "thing"] (aL pP):=by trivial
theorem RD:aR ["game", "side", "thing"] ["game", "side", "thing"] (aL Fe):=by trivial
theorem yu:aR ["game", "side", "thing"] ["game", "side", "thing"] (aL qU):=by trivial
theorem fW:aR ["rows", "plan", "shares", "row", "word", "share"] ["rows", "plan"] (aL qP):=by trivial
theorem dZ:aR ["rows", "plan", "shares", "weights", "row", "before", "pair", "word"] ["rows", "plan"] (aL vm):=by trivial
theorem Hy:aR ["game", "side", "plan"] ["game", "side", "plan"] (aL wB):=by trivial
theorem BW:aR ["_law_script", "_law_k"] ["_law_script", "_law_k"] (aL um):=by trivial
theorem lG:aR ["_law_top", "_law_bottom", "_law_one", "_law_other"] ["_law_top", "_law_bottom"] (aL vg):=by trivial
theorem cY:aR ["_law_cell", "_law_turn", "_law_signs", "_law_size", "_law_places_here", "_law_k", "_law_word", "_law_at", "_law_found", "_law_sign"] ["_law_cell", "_law_turn"] (aL pK):=by trivial
theorem Ho:aR ["_law_number"] ["_law_number"] (aL wC):=by trivial
theorem lX:aR ["_law_number", "_law_many", "_law_parts_here", "_law_k"] ["_law_number", "_law_many"] (aL ql):=by trivial
theorem LQ:aR ["_law_cell", "_law_k"] ["_law_cell", "_law_k"] (aL Dz):=by trivial
theorem oh:aR ["_law_state", "_law_side", "_law_record", "_law_many", "_law_bit", "_law_key", "%1", "%2"] ["_law_state", "_law_side", "_law_record", "_law_many", "_law_bit"] (aL oG):=by trivial
theorem dY:aR ["_law_cells", "_law_state", "_law_depth", "_law_records", "_law_draw", "_law_side", "_law_many", "_law_number", "_law_pool_here", "_law_seen", "_law_ways", "_law_k", "_law_word", "_law_others", "%1", "%2"] ["_law_cells", "_law_state", "_law_depth", "_law_records", "_law_draw"] (aL zB):=by trivial
theorem eX:aR ["_law_cells", "_law_state", "_law_depth", "_law_records", "_law_at", "_law_own", "_law_draw", "_law_many", "_law_ways", "_law_share_here", "%1", "%2"] ["_law_cells", "_law_state", "_law_depth", "_law_records"] (aL xJ):=by trivial
theorem zN:aR ["_law_cells", "_law_turn", "_law_depth", "_law_room", "_law_pool_here", "_law_state", "%1", "%2"] ["_law_cells", "_law_turn", "_law_depth", "_law_room", "_law_pool_here"] (aL zP):=by trivial
theorem cG:aR ["_law_game_here", "_law_found", "_law_waiting", "_law_way", "_law_place", "_law_records", "_law_parts_here", "_law_word", "_law_part", "_law_others", "_law_k"] ["_law_game_here"] (aL qF):=by trivial
theorem gk:aR ["_law_game_here", "_law_rows", "_law_known", "_law_way", "_law_place", "_law_records", "_law_words"] ["_law_game_here"] (aL rn):=by trivial
theorem JH:aR ["_law_one", "_law_other"] ["_law_one", "_law_other"] (aL zG):=by trivial
theorem HF:aR ["_law_one", "_law_other"] ["_law_one", "_law_other"] (aL xq):=by trivial
theorem nJ:aR ["_law_number", "_law_many", "_law_parts_here", "_law_k"] ["_law_number", "_law_many"] (aL rK):=by trivial
theorem uC:aR ["_law_rows", "_law_side", "_law_cell", "_law_plan_here", "_law_k"] ["_law_rows", "_law_side", "_law_cell"] (aL zW):=by trivial
theorem mq:aR ["_law_rows", "_law_side", "_law_cell", "_law_plan_here", "_law_k", "_law_many", "_law_at"] ["_law_rows", "_law_side", "_law_cell"] (aL ud):=by trivial
theorem GK:aR ["_law_found"] ["_law_found"] (aL wK):=by trivial
theorem Ad:aR ["_law_found"] ["_law_found"] (aL tu):=by trivial
theorem wX:aR ["_law_rows", "_law_side", "_law_plan_here", "_law_pair", "_law_row"] ["_law_rows", "_law_side", "_law_plan_here", "_law_pair"] (aL yd):=by trivial
theorem fH:aR ["_law_rows", "_law_side", "_law_plan_here", "_law_found", "_law_row_side", "_law_seen", "_law_words", "_law_record", "_law_word", "_law_weight", "_law_pair"] ["_law_rows", "_law_side", "_law_plan_here"] (aL Dq):=by trivial
theorem bY:aR ["_law_rows", "_law_side", "_law_found", "_law_row_side", "_law_seen", "_law_words", "_law_record", "_law_whole_here", "_law_word"] ["_law_rows", "_law_side", "_law_found"] (aL mG):=by trivial
theorem su:aR ["_law_plan_here", "_law_found", "_law_name"] ["_law_plan_here"] (aL xQ):=by trivial
theorem pC:aR ["_law_script", "_law_pool_here", "_law_turn", "_law_depth", "_law_game_here", "_law_rows", "_law_side", "_law_plan_here", "_law_handed", "_law_found", "_law_weight", "_law_due_here", "_law_other"] ["_law_script"] (aL Fj):=by trivial
section
variable {P:cy}{w:fI}{K:bP}{mg:Zp}{base:Heap}(B:Bt K mg base)
include B
theorem zQ:FF P w K mg base 1 "is_whole" ["thing"] vO:=B.2.q0.ff B.1 λ_ _ Fu=>
 bz Fu Mw λ_ _ _ _ _ _ hr=>by
 unfold Dc Bk;exact(aH<|bK<|zg (rN (x:="") (aq 0) rfl (B.1.no B.2.n7) dw rfl (B.1.no B.2.n6) Lq)<|yD<|Mq<|rN (x:="") (aq 0) rfl (B.1.no B.2.n7) dw rfl (B.1.no B.2.n3) Ra)
theorem pB:FF P w K mg base 1 "common_divisor" ["first", "second"] fY:=B.2.q1.ff B.1 λ_ _ Fu=>
 bz Fu d7 λ_ _ _ _ _ _ hr=>by
 have hu:=hr.units;unfold lu kO;exact(aA (bZ d7.nd<|cu yF rfl (B.1.no B.2.n1) Ly<|aP (aq 0) aU)
  (aA (bZ d7.nd<|cu yF rfl (B.1.no B.2.n1) Ly<|aP (aq 1) aU)
  (aA (ym lP (bO (pZ hu) (aq 3) (ao au)<|bD _)
  (aA (bZ d7.nd<|aF bB (aq 2)<|aq 3)
  (aA (bZ d7.nd<|aD 3)
  (aH<|bZ d7.nd<|aD 4))))
  (aH<|bK<|aD 2))))
theorem Fz:FF P w K mg base 2 "lowest" ["top", "bottom"] oA:=B.2.q2.ff B.1 λ_ _ Fu=>
 bz Fu Dm λ_ _ _ _ _ _ hr=>by
 have hu:=hr.units;unfold yc wY;exact(aA (bZ Dm.nd<|bF (pB B) hr aO<|ak (aD 0)<|ak (aD 1) aC)
  (aA (dD (bO (GQ hu) (aq 1) (ao au)<|bD _)
  (aH<|bZ Dm.nd<|Fi uL<|aq 2)
  bT)
  (aH<|bK<|aZ<|ak (aF cM (aq 0)<|aq 2)<|ak (aF cM (aq 1)<|aq 2) aC)))
theorem Jr:FF P w K mg base 2 "is_ratio" ["thing"] rH:=B.2.q3.ff B.1 λ_ _ Fu=>
 bz Fu Nb λ_ _ _ _ _ _ hr=>by
 have hu:=hr.units;unfold vL vV;exact(aA (dD (wg<|qH (lC<|jR<|rN (x:="") (aq 0) rfl (B.1.no B.2.n7) dw rfl (B.1.no B.2.n13) iU)<|pQ<|bO (pZ hu) (ao<|cu cQ rfl (B.1.no B.2.n8) gW<|aP (aq 0) aU) (ao au)<|bD _)
  (aH<|bK qQ)
  bT)
  (aA (dD (wg<|qH (lC<|jR<|bF (zQ B) hr aO<|ak (aJ (aq 0)<|ao au) aC)<|pQ<|lC<|jR<|bF (zQ B) hr aO<|ak (aJ (aq 0)<|ao au) aC)
  (aH<|bK qQ)
  bT)
  (aH<|bK<|zg (pO LC (ao<|aJ (aq 0)<|ao au) (ao au)<|bD _)<|yD<|pO (dI hu) (ao<|bF (pB B) hr aO<|ak (aJ (aq 0)<|ao au)<|ak (aJ (aq 0)<|ao au) aC) (ao au)<|bD _)))
theorem Yg:FF P w K mg base 3 "plus" ["first", "second"] Ie:=B.2.q4.ff B.1 λ_ _ Fu=>
 bz Fu abp λ_ _ _ _ _ _ hr=>by
 unfold LK MT;exact(aH<|bK<|bF (Fz B) hr aO<|ak (aF bQ (ao<|aF cW (ao<|aJ (aq 0)<|ao au)<|ao<|aJ (aq 1)<|ao au)<|ao<|aF cW (ao<|aJ (aq 1)<|ao au)<|ao<|aJ (aq 0)<|ao au)<|ak (aF cW (ao<|aJ (aq 0)<|ao au)<|ao<|aJ (aq 1)<|ao au) aC)
theorem J6:FF P w K mg base 3 "times" ["first", "second"] xK:=B.2.q5.ff B.1 λ_ _ Fu=>
 bz Fu Yp λ_ _ _ _ _ _ hr=>by
 unfold Hj Ip;exact(aH<|bK<|bF (Fz B) hr aO<|ak (aF cW (ao<|aJ (aq 0)<|ao au)<|ao<|aJ (aq 1)<|ao au)<|ak (aF cW (ao<|aJ (aq 0)<|ao au)<|ao<|aJ (aq 1)<|ao au) aC)
theorem Tt:FF P w K mg base 1 "under" ["first", "second"] Ay:=B.2.q6.ff B.1 λ_ _ Fu=>
 bz Fu X7 λ_ _ _ _ _ _ hr=>by
 have hu:=hr.units;unfold Gy Hn;exact(aH<|bK<|pO (GQ hu) (ao<|aF cW (ao<|aJ (aq 0)<|ao au)<|ao<|aJ (aq 1)<|ao au) (ao<|aF cW (ao<|aJ (aq 1)<|ao au)<|ao<|aJ (aq 0)<|ao au)<|bD _)
theorem T7:FF P w K mg base 4 "total" ["some"] Aj:=B.2.q7.ff B.1 λ_ _ Fu=>
 bz Fu Az λ_ _ _ _ _ _ hr=>by
 unfold G7 IW;exact(aA (bZ Az.nd<|B.1.cn B.2.c0)
  (aA (fO (lW<|aD 0) (bN Az.nd)
  (aH<|bZ Az.nd<|bF (Yg B) hr aO<|ak (aD 1)<|ak (aD 2) aC))
  (aH<|bK<|aD 1)))
theorem tR:FF P w K mg base 1 "branches_of" ["game"] iV:=B.2.q8.ff B.1 λ_ _ Fu=>
 bz Fu Eb λ_ _ _ _ _ _ hr=>by
 have hu:=hr.units;unfold vC gO;exact(aA (dD (bO (dI hu) (ao<|aJ (aq 0)<|ao au) (ao cg)<|bD _)
  (aH<|rJ<|gj aC)
  bT)
  (aH<|rJ<|jP (aL p7) ["lead", "branch"] [] 2 [] rfl (by trivial) .nil (v9<|oM<|aJ (aq 0)<|ao<|Fi uL<|ao au) (λ_ _ _ _ _ _=>(kY rfl<|bH (bN<|nds rfl)<|bH (bN<|nds rfl) ir)) (λ_ _ _ _ _ _=>gF) λ_ _ _ _ _ _=>(aD 1)))
theorem Ha:FF P w K mg base 2 "places_of" ["game"] o9:=B.2.q9.ff B.1 λ_ _ Fu=>
 bz Fu mC λ_ _ _ _ _ _ hr=>by
 unfold zJ pq;exact(aA (gY mC.nd<|gj aC)
  (aA (gY mC.nd<|gj<|ak (aZ<|ak (aZ aC)<|ak (aD 0) aC) aC)
  (aA (ym lP (bO Bx (ao<|cu cQ rfl (B.1.no B.2.n8) gW<|aP (aq 2) aU) (ao au)<|bD _)
  (aA (R0 3 2 mC.nd rfl<|gX rfl)
  (aA (gR 1<|aD 3)
  (aA (Nj (i:=4) (aL tU) ["number", "branch", "place"] ["place"] 2 [3] mC.nd rfl (iP rfl) rfl (by trivial) (.cons rfl .nil) (T6 rfl (B.1.no B.2.n5)<|aP (ao<|bF (tR B) hr aO<|ak (aJ (aq 3)<|ao au) aC) aU) (λ_ _ _ _ _ _=>(kY rfl<|bH (bN<|nds rfl)<|bH (bN<|nds rfl) ir)) (λ_ _ _ _ _ _=>gF) λ_ _ _ _ _ _=>(aZ<|ak (aF bQ (ao<|aJ (aq 2)<|ao au)<|ao<|aZ<|ak (aD 0) aC)<|ak (aD 1) aC))
  (aH<|RB 2<|Y9 rfl rfl (B.1.no B.2.n9) rfl (B.1.no B.2.n11)<|aP (aq 4) aU)))))
  (aH<|jH 1))))
theorem Js:FF P w K mg base 1 "words_at" ["move"] sJ:=B.2.q10.ff B.1 λ_ _ Fu=>
 bz Fu Mx λ_ _ _ _ _ _ hr=>by
 unfold wk wj;exact(aH<|bK<|jy ie rfl (B.1.no B.2.n13) iU<|aP (ao<|kW<|jP (aL vM) ["word", "branch"] [] 2 [] rfl (by trivial) .nil (v9<|oM<|aJ (aq 0)<|ao au) (λ_ _ _ _ _ _=>(kY rfl<|bH (bN<|nds rfl)<|bH (bN<|nds rfl) ir)) (λ_ _ _ _ _ _=>gF) λ_ _ _ _ _ _=>(aD 0)) aU)
theorem xu:FF P w K mg base 1 "records_behind" ["place", "records", "number"] d8:=B.2.q11.ff B.1 λ_ _ Fu=>
 bz Fu qK λ_ _ _ _ _ _ hr=>by
 have hu:=hr.units;unfold fV fZ;exact(aA (dD (bO (pZ hu) (ao<|aJ (aq 0)<|ao au) (ao cg)<|bD _)
  (aH<|bK<|aD 1)
  bT)
  (aA (bZ qK.nd<|aZ<|ak (aJ (aq 0)<|ao au)<|ak (aJ (ao<|aJ (ao<|aJ (aq 0)<|ao au)<|aq 2)<|ao au) aC)
  (aA (dD (bO (dI hu) (ao<|aJ (aq 0)<|ao au) (ao au)<|bD _)
  (aH<|bK<|aZ<|ak (aF bQ (ao<|aJ (aq 1)<|ao au)<|ao<|aZ<|ak (aD 3) aC)<|ak (aJ (aq 1)<|ao au) aC)
  bT)
  (aH<|bK<|aZ<|ak (aJ (aq 1)<|ao au)<|ak (aF bQ (ao<|aJ (aq 1)<|ao au)<|ao<|aZ<|ak (aD 3) aC) aC))))
theorem rB:FF P w K mg base 3 "places_with_records" ["game"] eG:=B.2.q12.ff B.1 λ_ _ Fu=>
 bz Fu cO λ_ _ _ _ _ _ hr=>by
 unfold kI eN;refine Wr.out ?_;exact(MF (aaE (i:=1) cO.nd rfl (iP rfl)<|Wr.mk<|U6 hr (aZ aC)<|aZ<|ak (aZ aC)<|ak (aZ aC) aC)<|MF (aaE (i:=2) cO.nd rfl (iP rfl)<|aec<|Wr.mk aC)<|MF (Wr.mk<|fO (lW<|bF (Ha B) hr aO<|ak (aD 0) aC) (kY rfl<|bH (bN cO.nd)<|bH (bN cO.nd) ir)<|aA (gR 2<|aZ<|ak (aD 3)<|ak (aD 4)<|ak (sI hr (aq 1) (aq 3) λ_ _=>rfl) aC)<|aH<|fO (iy rfl (B.1.no B.2.n10)<|aP (ao<|cu cQ rfl (B.1.no B.2.n8) gW<|aP (ao<|bF (tR B) hr aO<|ak (aD 4) aC) aU) aU) (bN cO.nd)<|aH<|wN 1 hr (bF (xu B) hr aO<|ak (aD 4)<|ak (sI hr (aq 1) (aq 3) λ_ _=>rfl)<|ak (aD 5) aC)<|aF bQ (aq 3)<|ao<|aZ<|ak (aD 5) aC)<|adi<|Wr.mk<|jH 2)
theorem Rv:FF P w K mg base 2 "row_at" ["move", "records"] tL:=B.2.q13.ff B.1 λ_ _ Fu=>
 bz Fu Tv λ_ _ _ _ _ _ hr=>by
 unfold xF xR;exact(aH<|bK<|aZ<|ak (aJ (aq 0)<|ao au)<|ak (aJ (aq 0)<|ao au)<|ak (bF (Js B) hr aO<|ak (aD 0) aC)<|ak (aJ (aq 1)<|ao<|aF dB (ao<|aJ (aq 0)<|ao au)<|ao au) aC)
theorem Ka:FF P w K mg base 4 "table_of" ["game"] vN:=B.2.q14.ff B.1 λ_ _ Fu=>
 bz Fu oE λ_ _ _ _ _ _ hr=>by
 have hu:=hr.units;unfold Bl rZ;exact(aA (gY oE.nd uT)
  (aA (fO (lW<|bF (rB B) hr aO<|ak (aD 0) aC) (kY rfl<|bH (bN oE.nd)<|bH (bN oE.nd)<|bH (bN oE.nd) ir)
  (aH (dD (bO (dI hu) (ao<|aJ (aq 3)<|ao au) (ao cg)<|bD _)
  (aH<|abb 1 hr (aZ<|ak (aJ (aq 3)<|ao au)<|ak (aJ (aq 3)<|ao au) aC) (bF (Rv B) hr aO<|ak (aD 3)<|ak (aD 4) aC) ⟨rfl,rfl,rfl,rfl⟩)
  bT)))
  (aH<|rJ<|Wc rfl rfl (B.1.no B.2.n9)<|aq 1)))
theorem CT:FF P w K mg base 5 "rows_of" ["game", "side"] nT:=B.2.q15.ff B.1 λ_ _ Fu=>
 bz Fu Rb λ_ _ _ _ _ _ hr=>by
 have hu:=hr.units;unfold zx yt;exact(aH<|rJ<|jP (aL zj) ["row", "side"] ["side"] 1 [1] rfl (by trivial) (.cons rfl .nil) (uw<|ao<|bF (Ka B) hr aO<|ak (aD 0) aC) (λ_ _ _ _ _ _=>(bN<|nds rfl)) (λ_ _ _ _ _ _=>(Tp<|bO (dI hu) (ao<|aJ (aq 0)<|ao au) (aq 1)<|bD _)) λ_ _ _ _ _ _=>(aD 0))
theorem vQ:FF P w K mg base 5 "are_full_shares" ["thing", "count"] dH:=B.2.q16.ff B.1 λ_ _ Fu=>
 bz Fu wZ λ_ _ _ _ _ _ hr=>by
 have hu:=hr.units;unfold jO jF;exact(aA (dD (wg<|qH (lC<|jR<|rN (x:="") (aq 0) rfl (B.1.no B.2.n7) dw rfl (B.1.no B.2.n13) iU)<|pQ<|bO (pZ hu) (ao<|cu cQ rfl (B.1.no B.2.n8) gW<|aP (aq 0) aU) (aq 1)<|bD _)
  (aH<|bK qQ)
  bT)
  (aA (dD (lC<|jR<|cu (EY rfl) rfl (B.1.no B.2.n2) Vq<|aP (ao<|kW<|jP (aL jG) ["share"] [] 1 [] rfl (by trivial) .nil (v9<|oM<|aD 0) (λ_ _ _ _ _ _=>(bN<|nds rfl)) (λ_ _ _ _ _ _=>gF) λ_ _ _ _ _ _=>(zg (bF (Jr B) hr J8<|ak (aD 0) aC)<|yD<|Mq<|bF (Tt B) hr J8<|ak (aD 0)<|ak (B.1.cn B.2.c0) aC)) aU)
  (aH<|bK qQ)
  bT)
  (aH<|bK<|pO (dI hu) (ao<|bF (T7 B) hr aO<|ak (kW<|yq wu rfl (B.1.no B.2.n9) qX<|aP (aq 0) aU) aC) (ao<|B.1.cn B.2.c1)<|bD _)))
theorem Dy:FF P w K mg base 6 "is_plan_for" ["rows", "thing"] lQ:=B.2.q17.ff B.1 λ_ _ Fu=>
 bz Fu Em λ_ _ _ _ _ _ hr=>by
 have hu:=hr.units;unfold pW p6;exact(aA (dD (wg<|qH (lC<|jR<|rN (x:="") (aq 1) rfl (B.1.no B.2.n7) dw rfl (B.1.no B.2.n4) QM)<|pQ<|bO (pZ hu) (ao<|cu cQ rfl (B.1.no B.2.n8) gW<|aP (aq 1) aU) (ao<|cu cQ rfl (B.1.no B.2.n8) gW<|aP (aq 0) aU)<|bD _)
  (aH<|bK qQ)
  bT)
  (aH<|bK<|cu (EY rfl) rfl (B.1.no B.2.n2) Vq<|aP (ao<|kW<|jP (aL pP) ["row", "thing"] ["thing"] 1 [1] rfl (by trivial) (.cons rfl .nil) (uw<|aq 0) (λ_ _ _ _ _ _=>(bN<|nds rfl)) (λ_ _ _ _ _ _=>gF) λ_ _ _ _ _ _=>(zg (pO (acS hr) (ao<|aJ (aq 0)<|ao au) (aq 1)<|by with_unfolding_all rfl)<|yD<|bF (vQ B) hr J8<|ak (dU hr (aq 1) (ao<|aJ (aq 0)<|ao au) λ_ _=>rfl)<|ak (cu cQ rfl (B.1.no B.2.n8) gW<|aP (ao<|aJ (aq 0)<|ao au) aU) aC)) aU))
theorem Mg:FF P w K mg base 7 "is_plan" ["game", "side", "thing"] uP:=B.2.q18.ff B.1 λ_ _ Fu=>
 bz Fu RD λ_ _ _ _ _ _ hr=>by
 unfold yG yS;exact(aH<|bK<|bF (Dy B) hr aO<|ak (bF (CT B) hr aO<|ak (aD 0)<|ak (aD 1) aC)<|ak (aD 2) aC)
theorem xV:FF P w K mg base 8 "refuse_no_plan" ["game", "side", "thing"] iu:=B.2.q19.ff B.1 λ_ _ Fu=>
 bz Fu yu λ_ _ _ _ _ _ hr=>by
 unfold lB lA;exact(aH (dD (lC<|jR<|bF (Mg B) hr aO<|ak (aD 0)<|ak (aD 1)<|ak (aD 2) aC)
  (aH Tj)
  bT))
theorem xW:FF P w K mg base 1 "shares_by_pair" ["rows", "plan"] iB:=B.2.q20.ff B.1 λ_ _ Fu=>
 bz Fu fW λ_ _ _ _ _ _ hr=>by
 unfold kZ lD;exact(aA (gY fW.nd uT)
  (aA (fO (lW<|aD 0) (bN fW.nd)
  (aH (fO (YM rfl (B.1.no B.2.n14)<|ak (aJ (aq 3)<|ao au)<|ak (dU hr (aq 1) (ao<|aJ (aq 3)<|ao au) λ_ _=>rfl) aC) (kY rfl<|bH (bN fW.nd)<|bH (bN fW.nd) ir)
  (aH<|wN 2 hr (aD 5)<|aZ<|ak (aJ (aq 3)<|ao au)<|ak (aD 4) aC))))
  (aH<|jH 2)))
theorem Bp:FF P w K mg base 4 "weights_for" ["rows", "plan"] lR:=B.2.q21.ff B.1 λ_ _ Fu=>
 bz Fu dZ λ_ _ _ _ _ _ hr=>by
 unfold pU qj;exact(aA (bZ dZ.nd<|bF (xW B) hr aO<|ak (aD 0)<|ak (aD 1) aC)
  (aA (gY dZ.nd uT)
  (aA (fO (lW<|aD 0) (bN dZ.nd)
  (aA (bZ dZ.nd<|B.1.cn B.2.c1)
  (aA (fO (oM<|aJ (aq 4)<|ao au) (bN dZ.nd)
  (aH<|bZ dZ.nd<|bF (J6 B) hr aO<|ak (aD 5)<|ak (sI hr (aq 2) (aq 6) λ_ _=>rfl) aC))
  (aH (fO (oM<|aJ (aq 4)<|ao au) (bN dZ.nd)
  (aH<|wN 3 hr (bF (J6 B) hr aO<|ak (aD 5)<|ak (sI hr (aq 2) (ao<|aZ<|ak (aJ (aq 4)<|ao au)<|ak (aD 7) aC) λ_ _=>rfl) aC)<|aZ<|ak (aJ (aq 4)<|ao au)<|ak (aD 7) aC))))))
  (aH<|jH 3))))
theorem pY:FF P w K mg base 9 "weights_of" ["game", "side", "plan"] nO:=B.2.q22.ff B.1 λ_ _ Fu=>
 bz Fu Hy λ_ _ _ _ _ _ hr=>by
 unfold w6 nQ;exact(aA (Yr<|bF (xV B) hr aO<|ak (aD 0)<|ak (aD 1)<|ak (aD 2) aC)
  (aH<|rJ<|aaG (Bp B) hr aO<|ak (bF (CT B) hr aO<|ak (aD 0)<|ak (aD 1) aC)<|ak (aD 2) aC))
theorem dJ:FF P w K mg base 1 "_law_cell_at" ["_law_script", "_law_k"] fP:=B.2.q23.ff B.1 λ_ _ Fu=>
 bz Fu BW λ_ _ _ _ _ _ hr=>by
 have hu:=hr.units;unfold jT jE;exact(aA (dD (bO (GQ hu) (aq 1) (ao<|cu cQ rfl (B.1.no B.2.n8) gW<|aP (aq 0) aU)<|bD _)
  (aH<|bK<|aJ (aq 0)<|aq 1)
  bT)
  (aH<|bK au))
theorem d9:FF P w K mg base 1 "_law_lowest" ["_law_top", "_law_bottom"] dC:=B.2.q24.ff B.1 λ_ _ Fu=>
 bz Fu lG λ_ _ _ _ _ _ hr=>by
 have hu:=hr.units;unfold qi qz;exact(aA (bZ lG.nd<|cu yF rfl (B.1.no B.2.n1) Ly<|aP (aq 0) aU)
  (aA (bZ lG.nd<|aD 1)
  (aA (ym lP (bO (pZ hu) (aq 3) (ao au)<|bD _)
  (aH<|abA (i:=2) (j:=3) rfl lG.nd rfl rfl (by decide) rfl rfl<|ak (aD 3)<|ak (aF bB (aq 2)<|aq 3) aC))
  (aH<|bK<|aZ<|ak (aF cM (aq 0)<|aq 2)<|ak (aF cM (aq 1)<|aq 2) aC))))
theorem HR:FF P w K mg base 1 "_law_pool" ["_law_cell", "_law_turn"] ph:=B.2.q25.ff B.1 λ_ _ Fu=>
 bz Fu cY λ_ _ _ _ _ _ hr=>by
 have hu:=hr.units;unfold zM jx;exact(aA (bZ cY.nd cg)
  (aA (bZ cY.nd<|aF bQ (ao au)<|ao<|aF bB (aq 0)<|ao au)
  (aA (bZ cY.nd<|aF cM (aq 0)<|ao au)
  (aA (gY cY.nd<|gj aC)
  (aA (fO (iy rfl (B.1.no B.2.n10)<|aP (aq 3) aU) (bN cY.nd)
  (aA (gR 4<|aF bB (aq 0)<|ao au)
  (aH<|bZ cY.nd<|aF cM (aq 0)<|ao au)))
  (aA (bZ cY.nd<|aez PySem.F.plainAttrs_str PySem.F.slot_str_join PySem.F.type_str_join W8 (ao cg)<|aP (ao<|kW<|jP (aL pK) ["_law_k", "_law_signs"] ["_law_signs"] 1 [2] rfl (by trivial) (.cons rfl .nil) (uw<|aq 4) (λ_ _ _ _ _ _=>(bN<|nds rfl)) (λ_ _ _ _ _ _=>gF) λ_ _ _ _ _ _=>(aJ (aq 1)<|aq 0)) aU)
  (aA (dD (bO (dI hu) (ao<|aF bB (ao<|aF cM (aq 1)<|ao au)<|ao au) (ao au)<|bD _)
  (aH<|rJ<|jP (aL pK) ["_law_k", "_law_word"] ["_law_word"] 1 [6] rfl (by trivial) (.cons rfl .nil) (v9<|Rj rfl (B.1.no B.2.n10)<|aP (ao au)<|aP (ao au) aU) (λ_ _ _ _ _ _=>(bN<|nds rfl)) (λ_ _ _ _ _ _=>gF) λ_ _ _ _ _ _=>(xf (ao<|aF Wl (ao au)<|aq 1) HX<|wI<|aq 0))
  bT)
  (aA (bZ cY.nd<|aF bB (aq 1)<|aq 3)
  (aA (gY cY.nd<|gj aC)
  (aA (fO (iy rfl (B.1.no B.2.n10)<|aP (ao au) aU) (bN cY.nd)
  (aA (bZ cY.nd<|aJ (aq 2)<|ao<|aF bB (ao<|aF bQ (ao<|aJ (aq 4)<|aq 7)<|ao<|aF cW (ao au)<|aq 5)<|ao au)
  (aH<|gR 8<|aF bQ (ao<|aF bQ (ao<|xf (aq 6) HX<|wI<|aq 7)<|aq 9)<|ao<|xf (aq 6) (wI<|ao<|aF bQ (aq 7)<|ao au) HX)))
  (aH<|jH 8)))))))))))
theorem pM:FF P w K mg base 2 "_law_stake" ["_law_number"] cz:=B.2.q26.ff B.1 λ_ _ Fu=>
 bz Fu Ho λ_ _ _ _ _ _ hr=>by
 have hu:=hr.units;unfold nF nq;exact(aA (dD (bO (dI hu) (ao<|aF bB (aq 0)<|ao au) (ao au)<|bD _)
  (aH<|bK<|bF (d9 B) hr aO<|ak (aF dB (ao<|aF bB (ao<|aF cW (aq 0)<|ao au)<|ao au)<|ao au)<|ak (aF bQ (ao au)<|ao<|aF bB (ao<|aF cM (aq 0)<|ao au)<|ao au) aC)
  bT)
  (aH<|bK<|bF (d9 B) hr aO<|ak (aF dB (ao<|aF bB (ao<|aF cM (aq 0)<|ao au)<|ao au)<|ao au)<|ak (aF bQ (ao au)<|ao<|aF bB (ao<|aF cM (aq 0)<|ao au)<|ao au) aC))
theorem Cz:FF P w K mg base 2 "_law_shares" ["_law_number", "_law_many"] lF:=B.2.q27.ff B.1 λ_ _ Fu=>
 bz Fu lX λ_ _ _ _ _ _ hr=>by
 unfold vA lN;exact(aA (gY lX.nd<|gj aC)
  (aA (fO (iy rfl (B.1.no B.2.n10)<|aP (aq 1) aU) (bN lX.nd)
  (aA (gR 2<|aF bQ (ao<|aF bQ (ao au)<|ao<|aF bB (aq 0)<|ao au)<|ao<|aF cW (ao<|aF cM (ao<|aF bB (ao<|aF cM (aq 0)<|ao au)<|ao au)<|ao au)<|ao<|aF bB (ao<|aF cM (aq 0)<|ao au)<|ao au)
  (aH<|bZ lX.nd<|aF bB (ao<|aF cW (aq 0)<|ao au)<|ao au)))
  (aH<|rJ<|jP (aL ql) ["_law_part", "_law_parts_here"] ["_law_parts_here"] 1 [2] rfl (by trivial) (.cons rfl .nil) (uw<|aq 2) (λ_ _ _ _ _ _=>(bN<|nds rfl)) (λ_ _ _ _ _ _=>gF) λ_ _ _ _ _ _=>(bF (d9 B) hr J8<|ak (aD 0)<|ak (cu (yL rfl) rfl (B.1.no B.2.n12) Ni<|aP (aq 1) aU) aC))))
theorem mF:FF P w K mg base 1 "_law_mix" ["_law_cell", "_law_k"] cJ:=B.2.q28.ff B.1 λ_ _ Fu=>
 bz Fu LQ λ_ _ _ _ _ _ hr=>by
 unfold vP vJ;exact(aH<|bK<|aF bB (ao<|aF cW (ao<|aF bQ (ao<|aF bB (aq 0)<|ao au)<|ao au)<|ao<|aF bQ (ao au)<|ao<|aF cW (ao au)<|aq 1)<|ao au)
theorem vf:FST P w K mg base 1 "_law_name_number" ["_law_state", "_law_side", "_law_record", "_law_many", "_law_bit"] 0 dm:=B.2.q29.ff B.1 λ_ _ Fu=>
 Ds 0 Fu oh (by decide) λ_ _ _ _ _ _ hr=>by
 unfold gw gq;exact(aA (bZ oh.nd<|aZ<|ak (aD 1)<|ak (aD 2)<|ak (aD 3)<|ak (aD 4) aC)
  (aA (dD (bO (Nm hr) (aq 5) (GR 6<|dU hr (aq 0) (ao cg) λ_ _=>rfl)<|by with_unfolding_all rfl)
  (aA (LR 6 hr (aJ (GR 7<|dU hr (aq 0) (ao cg) λ_ _=>rfl)<|ao<|aF dB (aq 1)<|ao au) (dU hr (aq 0) (ao cg) λ_ _=>rfl)<|aD 5)
  (aH<|JF 7 (aF bQ (ao<|aJ (GR 7<|dU hr (aq 0) (ao cg) λ_ _=>rfl)<|ao<|aF dB (aq 1)<|ao au)<|ao au) (dU hr (aq 0) (ao cg) λ_ _=>rfl)<|aF dB (aq 1)<|ao au))
  bT)
  (aH<|bK<|sI hr (GR 6<|dU hr (aq 0) (ao cg) λ_ _=>rfl) (aq 5) λ_ _=>rfl)))
theorem Hk (k:Nat)(hc:2<=k)(Φb:List D->D->Addr×D->Addr×D->Res (D×D×D×D))(G_law_built:FST P w K mg base k "_law_built" ["_law_cells", "_law_state", "_law_depth", "_law_records"] 1 Φb):FST P w K mg base (k+1) "_law_move" ["_law_cells", "_law_state", "_law_depth", "_law_records", "_law_draw"] 1 (mz Φb):=B.2.q30.ff B.1 λ_ _ Fu=>
 Ds 1 Fu dY (by decide) λ_ _ _ _ _ _ hr=>by
 unfold ju;exact(aA (bZ dY.nd<|aF bQ (ao au)<|ao<|aF bB (aq 4)<|ao au)
  (aA (bZ dY.nd<|aF bQ (ao au)<|ao<|aF bB (ao<|aF cM (aq 4)<|ao au)<|ao au)
  (aA (X6 (i:=7) dY.nd rfl (iP rfl)<|Kw 1 14 15 (vf B) hr aO (tZ (i:=1)<|ak (aD 5)<|ak (aJ (aq 3)<|ao<|aF dB (aq 5)<|ao au)<|ak (aD 6)<|ak (aF bB (ao<|aF cM (aq 4)<|ao au)<|ao au) aC) (hk:=by omega))
  (aA (dD (bO LC (aq 7) (ao au)<|bD _)
  (aH<|bK<|aZ<|ak cg<|ak (bF (pM B) hr aO (ak (aD 4) aC) (hk:=by omega)) aC)
  bT)
  (aA (o8 1 hr (aF dB (ao<|dU hr (aq 1) (ao cg) λ_ _=>rfl)<|aq 6) cg)
  (aA (bZ dY.nd<|dU hr (aq 1) (ao cg) λ_ _=>rfl)
  (aA (bZ dY.nd<|aJ (aq 8)<|ao<|aF bB (ao<|aF bQ (aq 7)<|ao<|dU hr (aq 1) (ao cg) λ_ _=>rfl)<|ao au)
  (aA (gY dY.nd<|gj aC)
  (aA (fO (iy rfl (B.1.no B.2.n10)<|aP (aq 6) aU) (bN dY.nd)
  (aA (bZ dY.nd<|aJ (aq 8)<|ao<|aF bB (ao<|aF bQ (ao<|aF bQ (ao<|aF cW (ao au)<|aq 7)<|aq 11)<|ao<|aF cM (ao<|dU hr (aq 1) (ao cg) λ_ _=>rfl)<|ao au)<|ao au)
  (aA (gY dY.nd<|yq wu rfl (B.1.no B.2.n9) qX<|aP (aq 3) aU)
  (aA (DQ 13 (aF bQ (ao<|aJ (aq 13)<|ao<|aF dB (aq 5)<|ao au)<|ao<|aZ<|ak (aZ<|ak (aD 9)<|ak (aD 12) aC) aC)<|aF dB (aq 5)<|ao au)
  (aad 13<|aH<|BJ 10<|W0<|xM (aaP<|aD 12)<|xM (Kw 1 14 15 G_law_built hr aO (ye (aD 0)<|tZ (i:=1)<|ak (aF dB (aq 2)<|ao au)<|ak (aD 13) aC) (hk:=by omega)) QT)))))
  (aH<|bK<|aZ<|ak cg<|ak (aD 5)<|ak (aD 9)<|ak (jy ie rfl (B.1.no B.2.n13) iU<|aP (aq 10) aU) aC))))))))))
theorem Ek (n:Nat)(G_law_built:FST P w K mg base (2+2*n) "_law_built" ["_law_cells", "_law_state", "_law_depth", "_law_records"] 1 (bA n))(G_law_move:FST P w K mg base (2+2*n+1) "_law_move" ["_law_cells", "_law_state", "_law_depth", "_law_records", "_law_draw"] 1 (mz<|bA n)):FST P w K mg base (2+2*n+1+1) "_law_built" ["_law_cells", "_law_state", "_law_depth", "_law_records"] 1 (bA<|n+1):=B.2.q31.ff B.1 λ_ _ Fu=>
 Ds 1 Fu eX (by decide) λ_ _ _ _ _ _ hr=>by
 have hu:=hr.units;unfold dO;exact(aA (bZ eX.nd<|dU hr (aq 1) (ao cg) λ_ _=>rfl)
  (aA (o8 1 hr (aF bQ (aq 4)<|ao au) cg)
  (aA (dD (bO LC (aq 4) (ao<|cu cQ rfl (B.1.no B.2.n8) gW<|aP (aq 0) aU)<|bD _)
  (aH<|bK<|aZ<|ak cg<|ak (bF (pM B) hr aO (ak (bF (mF B) hr aO (ak (aF bQ (ao<|aJ (aq 0)<|ao<|Fi uL<|ao au)<|ao<|aF cW (aq 4)<|aq 4)<|ak (aD 4) aC) (hk:=by omega)) aC) (hk:=by omega)) aC)
  bT)
  (aA (bZ eX.nd<|bF (mF B) hr aO (ak (aJ (aq 0)<|aq 4)<|ak (aD 4) aC) (hk:=by omega))
  (aA (bZ eX.nd<|aD 5)
  (aA (dD (jR<|dU hr (aq 1) (ao cg) λ_ _=>rfl)
  (aH<|bZ eX.nd<|aF bQ (ao<|aF dB (aq 5)<|ao<|aF bB (aq 5)<|ao au)<|ao<|aF bB (ao<|bF (mF B) hr aO (ak (aJ (aq 0)<|ao<|aF bB (aq 2)<|ao<|cu cQ rfl (B.1.no B.2.n8) gW<|aP (aq 0) aU)<|ak (aD 2) aC) (hk:=by omega))<|ao au)
  bT)
  (aA (dD (wg<|qH (bO (dI hu) (aq 2) (ao au)<|bD _)<|qH (bO (GQ hu) (ao<|dU hr (aq 1) (ao cg) λ_ _=>rfl) (ao au)<|bD _)<|pQ<|wg<|Br (bO (dI hu) (ao<|aF bB (aq 6)<|ao au) (ao au)<|bD _)<|wO<|bO Bx (aq 4) (ao au)<|bD _)
  (aH<|bK<|aZ<|ak cg<|ak (bF (pM B) hr aO (ak (aD 5) aC) (hk:=by omega)) aC)
  bT)
  (aA (dD (bO Bx (ao<|aF bB (aq 6)<|ao au) (ao au)<|bD _)
  (aH<|J4<|Kw 1 10 11 G_law_move hr aO (ye (aD 0)<|tZ (i:=1)<|ak (aD 2)<|ak (aD 3)<|ak (aD 6) aC) (hk:=by omega))
  bT)
  (aA (bZ eX.nd<|aF bQ (ao au)<|ao<|aF bB (ao<|aF cM (aq 6)<|ao au)<|ao au)
  (aA (o8 1 hr (aF dB (ao<|dU hr (aq 1) (ao cg) λ_ _=>rfl)<|aq 7) cg)
  (aA (gY eX.nd<|gj aC)
  (aA (fO (lW<|bF (Cz B) hr aO (ak (aD 5)<|ak (aD 7) aC) (hk:=by omega)) (bN eX.nd)
  (aH<|BJ 8<|W0<|xM (aaP<|aD 9)<|xM (Kw 1 10 11 G_law_built hr aO (ye (aD 0)<|tZ (i:=1)<|ak (aF dB (aq 2)<|ao au)<|ak (aD 3) aC) (hk:=by omega)) QT))
  (aH<|bK<|aZ<|ak cg<|ak (aJ (ao<|dU hr (aq 1) (ao cg) λ_ _=>rfl)<|ao<|aF bB (ao<|aF cM (aq 5)<|ao au)<|ao au)<|ak (jy ie rfl (B.1.no B.2.n13) iU<|aP (aq 8) aU) aC)))))))))))))
theorem Ei:∀n:Nat,FST P w K mg base (2+2*n) "_law_built" ["_law_cells", "_law_state", "_law_depth", "_law_records"] 1 (bA n):=by
 intro n;induction n with
 |zero=>exact B.2.q31.ff B.1 λ_ _ _=>ad2
 |succ n ih=>
  have GM:FST P w K mg base (2+2*n+1) "_law_move" ["_law_cells", "_law_state", "_law_depth", "_law_records", "_law_draw"] 1 (mz<|bA n):=Hk B (2+2*n) (by omega) _ ih;exact Ek B n ih GM
theorem Hh:FF P w K mg base 29 "_law_game" ["_law_cells", "_law_turn", "_law_depth", "_law_room", "_law_pool_here"] oY:=B.2.q32.ff B.1 λ_ _ Fu=>
 bz Fu zN λ_ _ _ _ _ _ hr=>by
 have hu:=hr.units;unfold zO oW;exact(WN (i:=5) (j1:=6) (j2:=7) zN.nd rfl (iP rfl) (tM cg au<|tM cg (aD 3)<|tM cg uT<|tM cg (gj<|ak au<|ak au aC)<|tM cg (aD 4) Zc)
  (aA (o8 5 hr (aF bB (aq 1)<|ao au) cg)
  (aA (o8 5 hr (pO (dI hu) (ao<|aF bB (ao<|aF cM (aq 1)<|ao au)<|ao au) (ao au)<|bD _) cg)
  (aH<|J4<|Kw 5 6 7 (Ei B 13) hr aO<|ye (aD 0)<|tZ (i:=5)<|ak (aD 2)<|ak (kW<|gj<|ak (aZ aC)<|ak (aZ aC) aC) aC))))
theorem CV:FF P w K mg base 1 "_law_places" ["_law_game_here"] lY:=B.2.q33.ff B.1 λ_ _ Fu=>
 bz Fu cG λ_ _ _ _ _ _ hr=>by
 have hu:=hr.units;unfold vz lM;exact(aA (gY cG.nd<|gj aC)
  (aA (gY cG.nd<|gj<|ak (aZ<|ak (aZ aC)<|ak (aD 0)<|ak (aZ<|ak (aZ aC)<|ak (aZ aC) aC) aC) aC)
  (aA (ym lP (bO Bx (ao<|cu cQ rfl (B.1.no B.2.n8) gW<|aP (aq 2) aU) (ao au)<|bD _)
  (aA (Z1 (k:=1000) (abt 2)<|kY rfl<|bH (bN cG.nd)<|bH (bN cG.nd)<|bH (bN cG.nd) ir)
  (aA (gR 1<|aZ<|ak (aD 3)<|ak (aD 4)<|ak (aD 5) aC)
  (aA (gY cG.nd<|gj aC)
  (aA (dD (bO (dI hu) (ao<|aJ (aq 4)<|ao au) (ao cg)<|bD _)
  (aH<|M7 (i:=6) (aL qF) ["_law_share_here", "_law_part", "_law_records"] ["_law_records"] 2 [5] cG.nd rfl (iP rfl) rfl (by trivial) (.cons rfl .nil) (v9<|oM<|aJ (aq 4)<|ao au) (λ_ _ _ _ _ _=>(kY rfl<|bH (bN<|nds rfl)<|bH (bN<|nds rfl) ir)) (λ_ _ _ _ _ _=>gF) λ_ _ _ _ _ _=>(aZ<|ak (aD 1)<|ak (aD 2) aC))
  bT)
  (aA (dD (bO (dI hu) (ao<|aJ (aq 4)<|ao au) (ao cg)<|bD _)
  (aH (fO (oM<|aJ (aq 4)<|ao au) (kY rfl<|bH (bN cG.nd)<|bH (bN cG.nd) ir)
  (aA (gY cG.nd<|yq wu rfl (B.1.no B.2.n9) qX<|aP (aq 5) aU)
  (aA (DQ 9 (aF bQ (ao<|aJ (aq 9)<|ao<|aF dB (ao<|aJ (aq 4)<|ao au)<|ao au)<|ao<|aZ<|ak (aZ<|ak (aJ (aq 4)<|ao au)<|ak (aD 7) aC) aC)<|aF dB (ao<|aJ (aq 4)<|ao au)<|ao au)
  (aH<|gR 6<|aZ<|ak (aD 8)<|ak (jy ie rfl (B.1.no B.2.n13) iU<|aP (aq 9) aU) aC)))))
  bT)
  (aH (fO (YJ rfl (B.1.no B.2.n10)<|aP (ao<|aF dB (ao<|cu cQ rfl (B.1.no B.2.n8) gW<|aP (aq 6) aU)<|ao au)<|aP (ao<|Fi uL<|ao au)<|aP (ao<|Fi uL<|ao au) aU) (bN cG.nd)
  (aH<|gR 2<|aZ<|ak (aF bQ (aq 3)<|ao<|aZ<|ak (aD 10) aC)<|ak (aJ (ao<|aJ (aq 6)<|aq 10)<|ao au)<|ak (aJ (ao<|aJ (aq 6)<|aq 10)<|ao au) aC)))))))))
  (aH<|jH 1))))
theorem Ed:FF P w K mg base 2 "_law_table" ["_law_game_here"] jK:=B.2.q34.ff B.1 λ_ _ Fu=>
 bz Fu gk λ_ _ _ _ _ _ hr=>by
 have hu:=hr.units;unfold rR rW;exact(aA (gY gk.nd<|gj aC)
  (aA (gY gk.nd uT)
  (aA (fO (lW<|bF (CV B) hr aO<|ak (aD 0) aC) (kY rfl<|bH (bN gk.nd)<|bH (bN gk.nd)<|bH (bN gk.nd) ir)
  (aH (dD (wg<|Br (bO (dI hu) (ao<|aJ (aq 4)<|ao au) (ao cg)<|bD _)<|wO<|bO (Nm hr) (ao<|aZ<|ak (aJ (aq 4)<|ao au)<|ak (aJ (aq 4)<|ao au) aC) (aq 2)<|by with_unfolding_all rfl)
  (aA (wN 2 hr qQ<|aZ<|ak (aJ (aq 4)<|ao au)<|ak (aJ (aq 4)<|ao au) aC)
  (aA (bZ gk.nd<|jy ie rfl (B.1.no B.2.n13) iU<|aP (ao<|kW<|jP (aL rn) ["_law_word", "_law_part"] [] 2 [] rfl (by trivial) .nil (v9<|oM<|aJ (aq 4)<|ao au) (λ_ _ _ _ _ _=>(kY rfl<|bH (bN<|nds rfl)<|bH (bN<|nds rfl) ir)) (λ_ _ _ _ _ _=>gF) λ_ _ _ _ _ _=>(aD 0)) aU)
  (aH<|gR 1<|aZ<|ak (aJ (aq 4)<|ao au)<|ak (aJ (aq 4)<|ao au)<|ak (aD 6)<|ak (aJ (aq 5)<|ao<|aF dB (ao<|aJ (aq 4)<|ao au)<|ao au) aC)))
  bT)))
  (aH<|jH 1))))
theorem Hw:FF P w K mg base 2 "_law_plus" ["_law_one", "_law_other"] pJ:=B.2.q35.ff B.1 λ_ _ Fu=>
 bz Fu JH λ_ _ _ _ _ _ hr=>by
 unfold uo uB;exact(aH<|bK<|bF (d9 B) hr aO<|ak (aF bQ (ao<|aF cW (ao<|aJ (aq 0)<|ao au)<|ao<|aJ (aq 1)<|ao au)<|ao<|aF cW (ao<|aJ (aq 1)<|ao au)<|ao<|aJ (aq 0)<|ao au)<|ak (aF cW (ao<|aJ (aq 0)<|ao au)<|ao<|aJ (aq 1)<|ao au) aC)
theorem El:FF P w K mg base 2 "_law_times" ["_law_one", "_law_other"] nM:=B.2.q36.ff B.1 λ_ _ Fu=>
 bz Fu HF λ_ _ _ _ _ _ hr=>by
 unfold qY rE;exact(aH<|bK<|bF (d9 B) hr aO<|ak (aF cW (ao<|aJ (aq 0)<|ao au)<|ao<|aJ (aq 1)<|ao au)<|ak (aF cW (ao<|aJ (aq 0)<|ao au)<|ao<|aJ (aq 1)<|ao au) aC)
theorem Eg:FF P w K mg base 2 "_law_parts" ["_law_number", "_law_many"] jL:=B.2.q37.ff B.1 λ_ _ Fu=>
 bz Fu nJ λ_ _ _ _ _ _ hr=>by
 have hu:=hr.units;unfold yl nR;exact(aA (gY nJ.nd<|gj aC)
  (aA (fO (iy rfl (B.1.no B.2.n10)<|aP (aq 1) aU) (bN nJ.nd)
  (aA (gR 2<|aJ (ao<|kW<|gj<|ak (aF bB (ao<|aF cM (aq 0)<|ao au)<|ao au)<|ak (aF bB (ao<|aF cM (aq 0)<|ao au)<|ao au)<|ak au<|ak (aF bB (ao<|aF cM (aq 0)<|ao au)<|ao au) aC)<|ao<|aF bB (aq 0)<|ao au)
  (aH<|bZ nJ.nd<|aF bB (ao<|aF cW (aq 0)<|ao au)<|ao au)))
  (aA (dD (bO (dI hu) (ao<|cu (yL rfl) rfl (B.1.no B.2.n12) Ni<|aP (aq 2) aU) (ao au)<|bD _)
  (aH<|DQ 2 au<|aF bB (aq 0)<|aq 1)
  bT)
  (aH<|bK<|jy ie rfl (B.1.no B.2.n13) iU<|aP (ao<|kW<|jP (aL rK) ["_law_part", "_law_parts_here"] ["_law_parts_here"] 1 [2] rfl (by trivial) (.cons rfl .nil) (uw<|aq 2) (λ_ _ _ _ _ _=>(bN<|nds rfl)) (λ_ _ _ _ _ _=>gF) λ_ _ _ _ _ _=>(bF (d9 B) hr J8<|ak (aD 0)<|ak (cu (yL rfl) rfl (B.1.no B.2.n12) Ni<|aP (aq 1) aU) aC)) aU))))
theorem xj:FF P w K mg base 3 "_law_plan" ["_law_rows", "_law_side", "_law_cell"] oX:=B.2.q38.ff B.1 λ_ _ Fu=>
 bz Fu uC λ_ _ _ _ _ _ hr=>by
 have hu:=hr.units;unfold zV pA;exact(aA (gY uC.nd Ii)
  (aA (fO (iy rfl (B.1.no B.2.n10)<|aP (ao<|cu cQ rfl (B.1.no B.2.n8) gW<|aP (aq 0) aU) aU) (bN uC.nd)
  (aH (dD (bO (dI hu) (ao<|aJ (ao<|aJ (aq 0)<|aq 4)<|ao au) (aq 1)<|bD _)
  (aH<|o8 3 hr (bF (Eg B) hr aO<|ak (bF (mF B) hr aO<|ak (aD 2)<|ak (aF bQ (ao<|aF cW (ao au)<|aq 4)<|ao au) aC)<|ak (cu cQ rfl (B.1.no B.2.n8) gW<|aP (ao<|aJ (ao<|aJ (aq 0)<|aq 4)<|ao au) aU) aC)<|aJ (ao<|aJ (aq 0)<|aq 4)<|ao au)
  bT)))
  (aH<|jH 3)))
theorem Ji:FF P w K mg base 2 "_law_pure" ["_law_rows", "_law_side", "_law_cell"] pL:=B.2.q39.ff B.1 λ_ _ Fu=>
 bz Fu mq λ_ _ _ _ _ _ hr=>by
 have hu:=hr.units;unfold zz o6;exact(aA (gY mq.nd Ii)
  (aA (fO (iy rfl (B.1.no B.2.n10)<|aP (ao<|cu cQ rfl (B.1.no B.2.n8) gW<|aP (aq 0) aU) aU) (bN mq.nd)
  (aH (dD (bO (dI hu) (ao<|aJ (ao<|aJ (aq 0)<|aq 4)<|ao au) (aq 1)<|bD _)
  (aA (bZ mq.nd<|cu cQ rfl (B.1.no B.2.n8) gW<|aP (ao<|aJ (ao<|aJ (aq 0)<|aq 4)<|ao au) aU)
  (aA (bZ mq.nd<|aF bB (ao<|aF cM (ao<|bF (mF B) hr aO<|ak (aD 2)<|ak (aF bQ (ao<|aF cW (ao au)<|aq 4)<|ao au) aC)<|ao au)<|aq 5)
  (aH<|o8 3 hr (jy ie rfl (B.1.no B.2.n13) iU<|aP (ao<|kW<|jP (aL ud) ["_law_j", "_law_at"] ["_law_at"] 1 [6] rfl (by trivial) (.cons rfl .nil) (v9<|iy rfl (B.1.no B.2.n10)<|aP (aq 5) aU) (λ_ _ _ _ _ _=>(bN<|nds rfl)) (λ_ _ _ _ _ _=>gF) λ_ _ _ _ _ _=>(aZ<|ak (jy Sq rfl (B.1.no B.2.n6) Lq<|aP (ao<|pO (dI hu) (aq 0) (aq 1)<|bD _) aU)<|ak au aC)) aU)<|aJ (ao<|aJ (aq 0)<|aq 4)<|ao au)))
  bT)))
  (aH<|jH 3)))
theorem vq:FF P w K mg base 1 "_law_whole" ["_law_found"] wz:=B.2.q40.ff B.1 λ_ _ Fu=>
 bz Fu GK λ_ _ _ _ _ _ hr=>by
 unfold wM xH;exact(aH<|bK<|zg (rN (x:="") (aq 0) rfl (B.1.no B.2.n7) dw rfl (B.1.no B.2.n6) Lq)<|yD<|Mq<|rN (x:="") (aq 0) rfl (B.1.no B.2.n7) dw rfl (B.1.no B.2.n3) Ra)
theorem yZ:FF P w K mg base 2 "_law_is_ratio" ["_law_found"] mX:=B.2.q41.ff B.1 λ_ _ Fu=>
 bz Fu Ad λ_ _ _ _ _ _ hr=>by
 have hu:=hr.units;unfold sO iY;exact(aA (dD (wg<|qH (lC<|jR<|rN (x:="") (aq 0) rfl (B.1.no B.2.n7) dw rfl (B.1.no B.2.n13) iU)<|qH (bO (pZ hu) (ao<|cu cQ rfl (B.1.no B.2.n8) gW<|aP (aq 0) aU) (ao au)<|bD _)<|qH (lC<|jR<|bF (vq B) hr aO<|ak (aJ (aq 0)<|ao au) aC)<|pQ<|lC<|jR<|bF (vq B) hr aO<|ak (aJ (aq 0)<|ao au) aC)
  (aH<|bK qQ)
  bT)
  (aH<|bK<|zg (pO Bx (ao<|aJ (aq 0)<|ao au) (ao au)<|bD _)<|yD<|pO (dI hu) (ao<|bF (d9 B) hr aO<|ak (aJ (aq 0)<|ao au)<|ak (aJ (aq 0)<|ao au) aC) (aq 0)<|bD _))
theorem Ef:FF P w K mg base 1 "_law_share" ["_law_rows", "_law_side", "_law_plan_here", "_law_pair"] rQ:=B.2.q42.ff B.1 λ_ _ Fu=>
 bz Fu wX λ_ _ _ _ _ _ hr=>by
 have hu:=hr.units;unfold yh nP;exact(aA (fO (lW<|aD 0) (bN wX.nd)
  (aH (dD (wg<|Br (bO (dI hu) (ao<|aJ (aq 4)<|ao au) (aq 1)<|bD _)<|wO<|bO (dI hu) (ao<|aJ (aq 4)<|ao au) (ao<|aJ (aq 3)<|ao au)<|bD _)
  (aH<|bK<|aJ (ao<|dU hr (aq 2) (ao<|aJ (aq 3)<|ao au) λ_ _=>rfl)<|ao<|aca (ao<|aJ (aq 4)<|ao au)<|aP (ao<|aJ (aq 3)<|ao au) aU)
  bT)))
  (aH<|bK ac5))
theorem zX:FF P w K mg base 3 "_law_due" ["_law_rows", "_law_side", "_law_plan_here"] rC:=B.2.q43.ff B.1 λ_ _ Fu=>
 bz Fu fH λ_ _ _ _ _ _ hr=>by
 have hu:=hr.units;unfold Bm rP;exact(aA (gY fH.nd uT)
  (aA (fO (lW<|aD 0) (kY rfl<|bH (bN fH.nd)<|bH (bN fH.nd)<|bH (bN fH.nd)<|bH (bN fH.nd) ir)
  (aH (dD (bO (dI hu) (aq 4) (aq 1)<|bD _)
  (aH (fO (oM<|aD 6) (bN fH.nd)
  (aA (bZ fH.nd<|aZ<|ak au<|ak au aC)
  (aA (fO (oM<|aF bQ (aq 7)<|ao<|aZ<|ak (aZ<|ak (aD 5)<|ak (aD 8) aC) aC) (bN fH.nd)
  (aH<|bZ fH.nd<|bF (El B) hr aO<|ak (aD 9)<|ak (bF (Ef B) hr aO<|ak (aD 0)<|ak (aD 1)<|ak (aD 2)<|ak (aD 10) aC) aC))
  (aH<|wN 3 hr (aD 9)<|aZ<|ak (aD 5)<|ak (aD 8) aC)))))
  bT)))
  (aH<|jH 3)))
theorem tK:FF P w K mg base 3 "_law_come_together" ["_law_rows", "_law_side", "_law_found"] eY:=B.2.q44.ff B.1 λ_ _ Fu=>
 bz Fu bY λ_ _ _ _ _ _ hr=>by
 have hu:=hr.units;unfold my eV;exact(aA (fO (lW<|aD 0) (kY rfl<|bH (bN bY.nd)<|bH (bN bY.nd)<|bH (bN bY.nd)<|bH (bN bY.nd) ir)
  (aH (dD (bO (dI hu) (aq 3) (aq 1)<|bD _)
  (aA (bZ bY.nd<|aZ<|ak au<|ak au aC)
  (aA (fO (oM<|aD 5) (bN bY.nd)
  (aH<|bZ bY.nd<|bF (Hw B) hr aO<|ak (aD 7)<|ak (sI hr (aq 2) (ao<|aZ<|ak (aD 4)<|ak (aD 8) aC) λ_ _=>rfl) aC))
  (aH (dD (wg<|qH (wg<|Br (bO (dI hu) (aq 6) (ao<|aZ aC)<|bD _)<|wO<|bO (pZ hu) (aq 7) (ao<|aZ<|ak au<|ak au aC)<|bD _)<|pQ<|wg<|Br (bO (pZ hu) (aq 6) (ao<|aZ aC)<|bD _)<|wO<|bO (pZ hu) (aq 7) (ao<|sI hr (aq 2) (ao<|aJ (aq 6)<|ao<|Fi uL<|ao au) λ_ _=>rfl)<|bD _)
  (aH<|bK qQ)
  bT))))
  bT)))
  (aH<|bK qQ))
theorem Eo:FF P w K mg base 1 "_law_about" ["_law_plan_here"] nA:=B.2.q45.ff B.1 λ_ _ Fu=>
 bz Fu su λ_ _ _ _ _ _ hr=>by
 unfold wL nH;exact(aA (gY su.nd Ii)
  (aA (fO (ab5 rfl (B.1.no B.2.n11)<|ak (kW<|Tg rfl rfl (B.1.no B.2.n9)<|aD 0) aC) (bN su.nd)
  (aH<|o8 1 hr (dU hr (aq 0) (aq 2) λ_ _=>rfl)<|aD 2))
  (aH<|jH 1)))
theorem acg {f:Addr}{fd:kA}(Fu:Fun K "law" "law" Fj f fd):
  qL P w K mg base (CX1 P w) 30 f fd ["_law_script"] (spF ⟨K,mg⟩ aaI):=
 bz Fu pC λ_ _ _ _ _ _ hr=>by
 have hu:=hr.units;unfold aar O4;exact(aA (bZ pC.nd<|bF (HR B) hr aO<|ak (bF (dJ B) hr aO<|ak (aD 0)<|ak au aC)<|ak (bF (dJ B) hr aO<|ak (aD 0)<|ak au aC) aC)
  (aA (bZ pC.nd<|bF (dJ B) hr aO<|ak (aD 0)<|ak au aC)
  (aA (bZ pC.nd<|aJ (ao<|kW<|gj<|ak au<|ak au<|ak au<|ak au aC)<|ao<|aF bB (ao<|aF cM (aq 2)<|ao au)<|ao au)
  (aA (bZ pC.nd<|bF (Hh B) hr aO<|ak (aF bQ (ao<|xf (aq 0) (wI<|ao au)<|wI<|ao au)<|ao<|kW<|gj<|ak (bF (dJ B) hr aO<|ak (aD 0)<|ak au aC) aC)<|ak (aD 2)<|ak (aD 3)<|ak au<|ak (aD 1) aC)
  (aA (bZ pC.nd<|bF (Ed B) hr aO<|ak (aD 4) aC)
  (aA (bZ pC.nd<|aF bQ (ao au)<|ao<|aF bB (ao<|aF cM (aq 2)<|ao au)<|ao au)
  (aA (bZ pC.nd<|bF (xj B) hr aO<|ak (aD 5)<|ak (aD 6)<|ak (bF (dJ B) hr aO<|ak (aD 0)<|ak au aC) aC)
  (aA (dD (bO (dI hu) (ao<|aF bB (ao<|aF cM (aq 2)<|ao au)<|ao au) (ao au)<|bD _)
  (aH<|bZ pC.nd<|bF (Ji B) hr aO<|ak (aD 5)<|ak (aD 6)<|ak (bF (dJ B) hr aO<|ak (aD 0)<|ak au aC) aC)
  bT)
  (aA (bZ pC.nd<|bF (Eo B) hr aO<|ak (aD 7) aC)
  (aA (gY pC.nd<|aaG (pY B) hr aO<|ak (aD 4)<|ak (aD 6)<|ak (aD 8) aC)
  (aA (dD (wg<|qH (lC<|jR<|rN (x:="") (aq 9) rfl (B.1.no B.2.n7) dw rfl (B.1.no B.2.n4) QM)<|pQ<|bO (Zd hr) (aq 8) (aq 7)<|bD _)
  (aH<|bK qQ)
  bT)
  (aA (ZM (i:=9) (j:=10) lP rfl (Z2 (i:=9) rfl<|iP rfl) (PK pC.nd rfl<|iP rfl) (lC<|jR<|bF (yZ B) hr aO<|ak (aD 10) aC) qQ)
  (aA (bZ pC.nd<|bF (zX B) hr aO<|ak (aD 5)<|ak (aD 6)<|ak (aD 7) aC)
  (aA (dD (wg<|qH (bO (GX hr) (aq 9) (aq 11)<|bD _)<|pQ<|lC<|jR<|acG (tK B) hr aO<|aP (aq 5)<|aP (aq 6)<|aP (aq 9) aU)
  (aH<|bK qQ)
  bT)
  (aA (bZ pC.nd<|bF (xj B) hr aO<|ak (aD 5)<|ak (aF dB (ao au)<|aq 6)<|ak (bF (dJ B) hr aO<|ak (aD 0)<|ak au aC) aC)
  (aA (dD (wg<|qH (bO (GX hr) (ao<|bF (pY B) hr aO<|ak (aD 4)<|ak (aF dB (ao au)<|aq 6)<|ak (aD 12) aC) (ao<|bF (zX B) hr aO<|ak (aD 5)<|ak (aF dB (ao au)<|aq 6)<|ak (aD 12) aC)<|bD _)<|pQ<|bO (GX hr) (aq 9) (aq 11)<|bD _)
  (aH<|bK qQ)
  bT)
  (aA (RZ 9)
  (aH<|bK<|pO (Z3 hr) (ao<|bF (pY B) hr aO<|ak (aD 4)<|ak (aD 6)<|ak (aD 7) aC) (aq 11)<|bD _))))))))))))))))))
end
theorem all_mk {l:W.OpenLaw}{w:fI}{K:bP}{h:Heap}{mg:Zp}{fa:Addr}(X:K.In h)(G:h.Ns gu mg)(hfa:mg "law" = some (.ref fa))(Q:Qs K):
  ∃fd:kA,(∀(s:bq) (v:aS),BC s fd ⟨[v],[]⟩ [("_law_script",v)])/\∀base:Heap,K.In base->base.Ns gu mg->qL l.prog w K mg base (CX1 l.prog w) 30 fa fd ["_law_script"] (Qk K):=by
 obtain⟨f,fd,F0,a⟩:=Q.q46.ex;have e:=hfa.symm.trans<|W.mg_of X G a;cases e;obtain⟨oc,od,kV,doc,pm,an,cdv,ct,osl,rfl,lk,hcd⟩:=F0.ex;refine⟨AQ "law" "law" (oZ Fj) (jZ Fj) (aL Fj) .none kV doc pm an cdv ct,λs v=>.of_eq rfl,λbase kb nb=>?_⟩;exact Zh WW<|acg ⟨⟨kb,nb⟩,Q⟩ F0
theorem walk {l:W.OpenLaw}{q:cy}{loose:List Str}{XP:(Zp)->Heap->Prop}{YP:fI->Heap->Prop}{d:DefRec}{K:Params->bP}(hn:l.most=some 63)(hdf:d.params.defaults=[])
  (hY:∀(w:fI) (h:Heap),YP w h->(K w.params).In h)
  (F:∀(w:fI) (mg:Zp) (fa:Addr) (h:Heap),(K w.params).In h->h.Ns gu mg->mg d.name=some (.ref fa)->
   ∃fd:kA,(∀(s:bq) (u:aS),BC s fd ⟨[u],[]⟩ [("_law_script",u)])/\∀base:Heap,(K w.params).In base->base.Ns gu mg->qL l.prog w (K w.params) mg base (CX1 l.prog w) 30 fa fd ["_law_script"] (Qk<|K w.params)):
  W.WalkO q loose XP YP l.row.toRowW d [] (λf vs=>BI f vs):=
 L2.Yz (n:=63) (k:=30) (x:="_law_script") (CX:=λw=>CX1 l.prog w) (sp:=λw=>Qk<|K w.params) hn (by decide) hdf ⟨rfl,by decide,by decide,rfl⟩ hY F (λ_ _ a ns hl _ hS=>⟨a,ns,rfl,hS,hl,λ_=>rfl⟩) λ_ _ _ _ _ ⟨_,_,_,_,_,_,z⟩=>z.elim
end K19
namespace PySem.W.Fast
theorem tw9463482467752984939:True:=⟨⟩
theorem tw18436287144036776076:True:=⟨⟩
theorem tw15176629055147026389:True:=⟨⟩
theorem tw9928258803099283569:True:=⟨⟩
theorem tw7652763743413505675:True:=⟨⟩
theorem tw1345863137647547795:True:=⟨⟩
theorem tw14660339990940430978:True:=⟨⟩
theorem tw14561580906909599208:True:=⟨⟩
theorem tw15741133821862148785:True:=⟨⟩
theorem tw5740271621417870617:True:=⟨⟩
theorem tw5908846188245221023:True:=⟨⟩
theorem tw8489184361520584890:True:=⟨⟩
theorem tw3707670514272968040:True:=⟨⟩
theorem tw15142416851519379830:True:=⟨⟩
theorem tw11442921053040931398:True:=⟨⟩
theorem tw5996600612616434356:True:=⟨⟩
theorem tw9855444334022222101:True:=⟨⟩
theorem tw4872477101259119778:True:=⟨⟩
theorem tw17052614602604927693:True:=⟨⟩
theorem tw15923715932663099777:True:=⟨⟩
theorem tw2480325745132480775:True:=⟨⟩
theorem tw8691433745452721023:True:=⟨⟩
theorem tw15782367998687415572:True:=⟨⟩
theorem tw6890239679792701914:True:=⟨⟩
theorem tw15717319356048682524:True:=⟨⟩
theorem tw10038252522464030161:True:=⟨⟩
theorem tw957281982365889587:True:=⟨⟩
theorem tw8105857190412322666:True:=⟨⟩
theorem tw9106456213437764874:True:=⟨⟩
theorem tw14464436685437478451:True:=⟨⟩
theorem tw18413694382871717472:True:=⟨⟩
theorem tw7380907822193025600:True:=⟨⟩
theorem tw5642794651742022276:True:=⟨⟩
theorem tw17756674147808031675:True:=⟨⟩
theorem tw11589777788612667415:True:=⟨⟩
theorem tw4756344078470444833:True:=⟨⟩
theorem tw5986427362018245151:True:=⟨⟩
theorem tw15143550772494436130:True:=⟨⟩
theorem tw12243063319906907483:True:=⟨⟩
theorem tw16407841845460788109:True:=⟨⟩
theorem tw11047425860758583859:True:=⟨⟩
theorem tw14852029622042343174:True:=⟨⟩
theorem tw14903841925701869071:True:=⟨⟩
theorem tw10414456643838527098:True:=⟨⟩
theorem tw14574247467317839100:True:=⟨⟩
theorem tw12886647897801941184:True:=⟨⟩
theorem tw2593078639472257225:True:=⟨⟩
theorem tw16841694933333370904:True:=⟨⟩
theorem tw11702779127057347479:True:=⟨⟩
theorem tw13707269126507709695:True:=⟨⟩
theorem tw12424059585073095952:True:=⟨⟩
theorem tw16174094760092167176:True:=⟨⟩
theorem tw7931582346087853543:True:=⟨⟩
theorem tw13402323805914853773:True:=⟨⟩
theorem tw16529685988807068106:True:=⟨⟩
theorem tw13869827517424370549:True:=⟨⟩
theorem tw3167623925685720870:True:=⟨⟩
theorem tw2345144409606042989:True:=⟨⟩
theorem tw9928118602261073323:True:=⟨⟩
theorem tw11000005161001117351:True:=⟨⟩
theorem tw10697865453127607044:True:=⟨⟩
theorem tw13132740754530449145:True:=⟨⟩
theorem tw14674836193658134607:True:=⟨⟩
theorem tw10326829913374833654:True:=⟨⟩
theorem tw11408803463017141528:True:=⟨⟩
theorem tw11294823057003022524:True:=⟨⟩
theorem tw3006403628796891767:True:=⟨⟩
theorem tw12742727642483036776:True:=⟨⟩
theorem tw13759169762325652081:True:=⟨⟩
theorem tw5095367669169499210:True:=⟨⟩
theorem tw1345694456858389467:True:=⟨⟩
theorem tw14185517582657578398:True:=⟨⟩
theorem tw2098013386447810881:True:=⟨⟩
theorem tw3756855102821373249:True:=⟨⟩
theorem tw13797582293633382329:True:=⟨⟩
theorem tw4902264257717266491:True:=⟨⟩
theorem tw15138655735205256797:True:=⟨⟩
theorem tw5829649644809817173:True:=⟨⟩
theorem tw8536804073705826018:True:=⟨⟩
theorem tw4205413194197138882:True:=⟨⟩
theorem tw14417738972919798138:True:=⟨⟩
theorem tw3608539368019859346:True:=⟨⟩
theorem tw1999427681099112002:True:=⟨⟩
theorem tw16986297213296417419:True:=⟨⟩
theorem tw4765322361671118553:True:=⟨⟩
theorem tw2327388873401397248:True:=⟨⟩
theorem tw15755416619863016525:True:=⟨⟩
theorem tw11073579308567578094:True:=⟨⟩
theorem tw4507278382454254705:True:=⟨⟩
theorem tw3089984160151306491:True:=⟨⟩
theorem tw13737664778492616770:True:=⟨⟩
theorem tw1783548659163654571:True:=⟨⟩
theorem tw9392290815445593054:True:=⟨⟩
theorem tw5370438157333788610:True:=⟨⟩
theorem tw15129531220491560488:True:=⟨⟩
theorem tw5225953578699619316:True:=⟨⟩
theorem tw5156697467385108609:True:=⟨⟩
theorem tw7472320165093920668:True:=⟨⟩
theorem tw4149306125805875785:True:=⟨⟩
theorem tw14946834466752559401:True:=⟨⟩
theorem tw1334064025662579837:True:=⟨⟩
theorem tw7869847010278725170:True:=⟨⟩
theorem tw12271324730967656746:True:=⟨⟩
theorem tw11235938722155193864:True:=⟨⟩
theorem tw1355120716521903160:True:=⟨⟩
theorem tw15523069997125568770:True:=⟨⟩
theorem tw17850504792127598182:True:=⟨⟩
theorem tw14597706809778967053:True:=⟨⟩
theorem tw7066165609114228795:True:=⟨⟩
theorem tw11443413441453326007:True:=⟨⟩
theorem tw3813528205849137244:True:=⟨⟩
theorem tw9514797699369659230:True:=⟨⟩
theorem tw1607462179603693315:True:=⟨⟩
theorem tw7127641124920311659:True:=⟨⟩
theorem tw3335286198162313146:True:=⟨⟩
theorem tw9245461456860524121:True:=⟨⟩
theorem tw16584814801223839148:True:=⟨⟩
theorem tw8519508765716760239:True:=⟨⟩
theorem tw7390192236774082721:True:=⟨⟩
theorem tw4617812415946005257:True:=⟨⟩
theorem tw5857382765447716717:True:=⟨⟩
theorem tw12799643529798231933:True:=⟨⟩
theorem tw13882366885320608062:True:=⟨⟩
theorem tw17740860071523518393:True:=⟨⟩
theorem tw16971100773478544034:True:=⟨⟩
theorem tw4030379360930679378:True:=⟨⟩
theorem tw3816692538482985886:True:=⟨⟩
theorem tw2244210437785941251:True:=⟨⟩
theorem tw3080406255773530552:True:=⟨⟩
theorem tw5386356286406884480:True:=⟨⟩
theorem tw12708097035558076184:True:=⟨⟩
theorem tw13512913322995408743:True:=⟨⟩
theorem tw18131910039894170128:True:=⟨⟩
theorem tw14602700819032623708:True:=⟨⟩
theorem tw17472085551959853309:True:=⟨⟩
theorem tw7271429066261846225:True:=⟨⟩
theorem tw13441612596339129891:True:=⟨⟩
theorem tw10972462856347098345:True:=⟨⟩
theorem tw10140224382943574189:True:=⟨⟩
theorem tw7632801874948969165:True:=⟨⟩
theorem tw18069802074075522761:True:=⟨⟩
theorem tw17039227742447316820:True:=⟨⟩
theorem tw10857863909988621308:True:=⟨⟩
theorem tw16648431510299375731:True:=⟨⟩
theorem tw13812493916109760433:True:=⟨⟩
theorem tw10130032581170588876:True:=⟨⟩
theorem tw13212810262166302627:True:=⟨⟩
theorem tw13202489246197945780:True:=⟨⟩
theorem tw10147462421526099769:True:=⟨⟩
theorem tw16219654800287651775:True:=⟨⟩
theorem tw8872061583167076393:True:=⟨⟩
theorem tw5348506300710394671:True:=⟨⟩
theorem tw2315872977262287609:True:=⟨⟩
theorem tw13285285164923219313:True:=⟨⟩
theorem tw13273558619683989681:True:=⟨⟩
theorem tw12411816094691394593:True:=⟨⟩
theorem tw11535843138969914656:True:=⟨⟩
theorem tw11435519616808424703:True:=⟨⟩
theorem tw10509680000455331742:True:=⟨⟩
theorem tw17901241480925049990:True:=⟨⟩
theorem tw16464910761510045380:True:=⟨⟩
theorem tw14989775402983104131:True:=⟨⟩
theorem tw14271012387215318050:True:=⟨⟩
theorem tw14187612218866247008:True:=⟨⟩
theorem tw1399638139011567456:True:=⟨⟩
theorem tw13641541573270121696:True:=⟨⟩
theorem tw13460045225178230791:True:=⟨⟩
theorem tw7149605971131845747:True:=⟨⟩
theorem tw1832117832713276628:True:=⟨⟩
theorem tw18259118355199378544:True:=⟨⟩
theorem tw1816515384126794986:True:=⟨⟩
theorem tw17402477307305806806:True:=⟨⟩
theorem tw17337724511480990022:True:=⟨⟩
theorem tw16338908082772221388:True:=⟨⟩
theorem tw1549551638530510232:True:=⟨⟩
theorem tw15481881106922188004:True:=⟨⟩
theorem tw1349260200966953603:True:=⟨⟩
theorem tw9186432573811701780:True:=⟨⟩
theorem tw8804044230280852562:True:=⟨⟩
theorem tw8007510427290549352:True:=⟨⟩
theorem tw7118960502686612811:True:=⟨⟩
theorem tw6852325525188001160:True:=⟨⟩
theorem tw6437592832866727126:True:=⟨⟩
theorem tw6352088816157407608:True:=⟨⟩
theorem tw6318040393144097545:True:=⟨⟩
theorem tw6303932394262472528:True:=⟨⟩
theorem tw6193784310247502816:True:=⟨⟩
theorem tw5461667635621452119:True:=⟨⟩
theorem tw5108224232875363909:True:=⟨⟩
theorem tw4761650880905947024:True:=⟨⟩
theorem tw383585550684157971:True:=⟨⟩
theorem tw3741616600771692033:True:=⟨⟩
theorem tw3366779605324937089:True:=⟨⟩
theorem tw3307638029422271832:True:=⟨⟩
theorem tw2957245184356709927:True:=⟨⟩
theorem tw2857021349738770595:True:=⟨⟩
theorem tw2544889010013671457:True:=⟨⟩
theorem tw1843712683203645228:True:=⟨⟩
theorem tw1151146351121686330:True:=⟨⟩
theorem tw11321628694503635550:True:=⟨⟩
theorem tw15147475611367289698:True:=⟨⟩
theorem tw16610252649364833464:True:=⟨⟩
theorem tw14303979337951960784:True:=⟨⟩
theorem tw6915887364043368342:True:=⟨⟩
theorem tw6317757113722650754:True:=⟨⟩
theorem tw2798832484535925939:True:=⟨⟩
theorem tw2739485048264564097:True:=⟨⟩
theorem tw16465321761004006490:True:=⟨⟩
theorem tw1067516621168817394:True:=⟨⟩
theorem tw8099364275861854860:True:=⟨⟩
theorem tw2556150732831112398:True:=⟨⟩
theorem tw11044404867013847308:True:=⟨⟩
theorem tw9541394932458064577:True:=⟨⟩
theorem tw7962013432323760035:True:=⟨⟩
theorem tw6698856817587268958:True:=⟨⟩
theorem tw2563843373515450000:True:=⟨⟩
theorem tw6176045311651726468:True:=⟨⟩
theorem tw3215705979054133670:True:=⟨⟩
theorem tw4210247701980318057:True:=⟨⟩
theorem tw10090929514662940551:True:=⟨⟩
theorem tw215998473224146030:True:=⟨⟩
theorem tw9999638086772722162:True:=⟨⟩
theorem tw17873833672484077159:True:=⟨⟩
theorem tw14045902317334277072:True:=⟨⟩
theorem tw13494269100373017880:True:=⟨⟩
theorem tw15132849806119724506:True:=⟨⟩
theorem tw1210954600866943241:True:=⟨⟩
theorem tw11980016315422044045:True:=⟨⟩
theorem tw11610630767635433119:True:=⟨⟩
theorem tw11594856268934626805:True:=⟨⟩
theorem tw11587797336902321732:True:=⟨⟩
theorem tw10387924425364126845:True:=⟨⟩
theorem tw10250750537697328013:True:=⟨⟩
theorem tw9950657627691629017:True:=⟨⟩
theorem tw9751929106291528422:True:=⟨⟩
theorem tw9543718329988596552:True:=⟨⟩
theorem tw9209693082254928147:True:=⟨⟩
theorem tw9184103879208830492:True:=⟨⟩
theorem tw904732265621773082:True:=⟨⟩
theorem tw8999806938035381340:True:=⟨⟩
theorem tw8818907933572661202:True:=⟨⟩
theorem tw8727283766441973827:True:=⟨⟩
theorem tw8710705219537628014:True:=⟨⟩
theorem tw8475735464624359047:True:=⟨⟩
theorem tw8452868633738134611:True:=⟨⟩
theorem tw8025618908415330144:True:=⟨⟩
theorem tw7820021804435876478:True:=⟨⟩
theorem tw7700461425660104423:True:=⟨⟩
theorem tw7616692579759616849:True:=⟨⟩
theorem tw7449218952265801493:True:=⟨⟩
theorem tw7214038213422427273:True:=⟨⟩
theorem tw7200520396840535586:True:=⟨⟩
theorem tw7077417767800361363:True:=⟨⟩
theorem tw6883981248856192932:True:=⟨⟩
theorem tw623715980857181228:True:=⟨⟩
theorem tw5852571095831148133:True:=⟨⟩
theorem tw5783953287485817845:True:=⟨⟩
theorem tw5585957569395885208:True:=⟨⟩
theorem tw5494197428213201017:True:=⟨⟩
theorem tw5314610118438357052:True:=⟨⟩
theorem tw5216110353357008321:True:=⟨⟩
theorem tw5031851424790752871:True:=⟨⟩
theorem tw4998699060095549989:True:=⟨⟩
theorem tw4893770747569713676:True:=⟨⟩
theorem tw4519348945156288487:True:=⟨⟩
theorem tw444878429452421691:True:=⟨⟩
theorem tw4320192644328620480:True:=⟨⟩
theorem tw4246515708929415286:True:=⟨⟩
theorem tw4111610019950061928:True:=⟨⟩
theorem tw4039290795705920298:True:=⟨⟩
theorem tw3998609894091420407:True:=⟨⟩
theorem tw3997792015112843300:True:=⟨⟩
theorem tw3902314463014595660:True:=⟨⟩
theorem tw3886317408561225871:True:=⟨⟩
theorem tw373635956734586076:True:=⟨⟩
theorem tw3385684959926181582:True:=⟨⟩
theorem tw3289637650850082221:True:=⟨⟩
theorem tw3122789537764935711:True:=⟨⟩
theorem tw3086345835648316154:True:=⟨⟩
theorem tw2979657931825415543:True:=⟨⟩
theorem tw2903479871708083361:True:=⟨⟩
theorem tw2713654559868842699:True:=⟨⟩
theorem tw2359590730292272572:True:=⟨⟩
theorem tw2331263301343242945:True:=⟨⟩
theorem tw2180051127645668016:True:=⟨⟩
theorem tw2118733632834784191:True:=⟨⟩
theorem tw2034259189153673940:True:=⟨⟩
theorem tw1998829029346324885:True:=⟨⟩
theorem tw1843804938796229077:True:=⟨⟩
theorem tw18331897094119147352:True:=⟨⟩
theorem tw18117186498525321907:True:=⟨⟩
theorem tw1799961675518801464:True:=⟨⟩
theorem tw17027128349007667664:True:=⟨⟩
theorem tw16416449458251697262:True:=⟨⟩
theorem tw16295034445525542050:True:=⟨⟩
theorem tw16255910013342123488:True:=⟨⟩
theorem tw1622697841953679807:True:=⟨⟩
theorem tw15775764850127614710:True:=⟨⟩
theorem tw15556525351035157160:True:=⟨⟩
end PySem.W.Fast
open PySem PySem.W PyProof.Rows
set_option maxRecDepth 100000 in
set_option maxHeartbeats 0 in
theorem PySem.Challenge.cw_hushduel_k19_weights_holds : PySem.Challenge.rw_hushduel_k19_weights.Holds := by
 w_on;o_law;k_head;(case hw=>w_witness2)
 k_fill
 refine K19.walk (l:=PySem.Challenge.rw_hushduel_k19_weights) rfl rfl (λw h Y=>PySem.W.kIn_of Y) ?F
 case F=>
  intro w mg fa h KX G hmg;refine' K19.all_mk KX G hmg ⟨?_,?_,?_,?_,?_,?_,?_,?_,?_,?_,?_,?_,?_,?_,?_,?_,?_,?_,?_,?_,?_,?_,?_,?_,?_,?_,?_,?_,?_,?_,?_,?_,?_,?_,?_,?_,?_,?_,?_,?_,?_,?_,?_,?_,?_,?_,?_,?_,?_,?_,?_,?_,?_,?_,?_,?_,?_,?_,?_,?_,?_,?_,?_,?_⟩
  all_goals try first | (refine' F.qd ?a ?l ?c ?k;(case a=>k_is);(case l=>k_is);(case c=>k_is);(case k=>k_is)) | (refine' F.ck ?a ?b;(case a=>k_is);(case b=>k_is)) | (unfold F.NO;k_is) | k_is
