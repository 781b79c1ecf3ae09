import PyProof.Rows.All
import Wide.All
import OpenK.AllK
import Wide.FinOn
import Lean
import PyProof.EqAt
import PyProof.EqKinds
import PyProof.TupleCall
import PyProof.TupleKey
import PyProof.Rows.Catch
import KE.KRevSl
import PyProof.P3Eq
import KE.LcSums
import PyProof.EnumMake
import PyProof.StrWalks
import PyProof.Conv_int_bool
import KE.KIntText
import PyProof.Rows.StrNews2
import PyProof.StrBlock2
import PyProof.Rows.StrNews
import PyProof.StrLawsRepr
import PyProof.ReprStr
import PyProof.ReprRoads
import PyProof.DictIter
import PyProof.Rows.SetFrom
import KE.KDictList
import KE.KDictOf
import PyProof.AttrMissHeap
import KE.KEqDict
import PyProof.DictItems
import KE.KPairComp
import PyProof.Rows.Range3
import KE.IntTextText
import PyProof.StrLawsFirst
import PyProof.ReprBulk
import PyProof.ZipIter
import PyProof.Rows.ZipGen
import PyProof.TupleIter
import PyProof.ListRange
import PyProof.DictUpdate
import PyProof.NeKinds
import PyProof.Draws
import PyProof.Rows.MatchSeqLen
import PyProof.SumAnyB
import PyProof.ExcInit
import PyProof.InstStoreFacts
import PySem.Challenge.RW_hushduel_k18_what_is_a_plan
set_option compiler.extract_closed false
set_option genSizeOf false
local macro_rules|`(tactic|simp_wf)=>`(tactic|first|exact Or.inl rfl|exact Or.inr (Or.inl rfl)|exact Or.inr (Or.inr rfl))
local macro_rules|`(tactic|clean_wf)=>`(tactic|first|exact .inl rfl|exact .inr rfl|assumption)
noncomputable section
open PySem renaming wpAny_bind->ae,wpAny_pure->af,starEach->ag,sizeLine->ai,Value->ax,Shared->aI,wpAny->bt,Program->bE,bootBuiltins->bP,model->cx,mainGlobals->dA,swapsWith->d4,World->eI,wpAny_newObj_type->eJ,compareOp->eM,sysModules->eW,Around->fm,wpAny_holding->fF,wpAny_call_entry->fT,wpAny_callSpecial?_slot->gy,attributeBase->gE,wpAny_dictEntries->gL,foldedSetIterable->hZ,wpAny_dictEpoch->iq,wpAny_mono->iA,backTo->iE,FuncData->iL,binaryOp->iP,wpAny_typeNameOfWhole_keyiter->i9,wpAny_typeNameOfWhole_valiter->ja,assignEach->ki,wpAny_Call_Name_kw->kB,wpAny_notOrdered_dict->kD,wpAny_fieldsOf->kK,Paired->kL,wpAny_passesOwn->kP,wpAny_typeNameOf_keyiter->kU,wpAny_typeNameOf_valiter->kX,behindInMarks->lh,mem_of_lookup->lx,wpAny_setField->l7,wpAny_specialOf->l9,wpAny_execs_nil->ma,keywordEach->md,Keyword->me,wpAny_isOneOf_valiter->mr,wpAny_truthy_bool->mE,swapsWithSole->mI,swappedStores->mM,wpAny_loadPart_at->mS,wpAny_forIn_list->nL,wpAny_field->og,cLine->pk,sliceBounds->pT,GenState->qc,carriedByValue->qf,wpAny_isOneOf_keyiter->qS,wpAny_isInstance->rf,wpAny_updateDictKeys->rS,wpAny_standAt->r6,wpAny_rule->sf,call_meets->si,sizeLine_eq->so,Builtin->sx,assign->tf,backToKw->tm,call_meetsIn->tw,holding->tF,firstArgMember->ub,eqIsQuiet_byValue->uk,rawInt->uu,typeIs_str->vv,wpAny_comprehension_free->vF,NameKind->xi,wpAny_attempt->xo,wpAny_execs_cons->xA,noFill_tuple_add->xB,PyData->xC,Scope->x8,PassesOwn->yA,letOwnedTupleGo->yB,codeAny_mono->yY,concat_meets->y7,valueAt->zd,wpAny_loadPart'->zI,typeIs_int->z0,dictSetDefault->AD,IsRangeIter->AE,codeAny->AF,getItem->AG,subscripted->AH,assignInOrder->AV,pyNext->AW,seq_tuple_add->AZ,DictEntry->A1,setItem->A9,typeLookup->Bi,callerA->Bn,IsPart->BF,bindName->BM,setField->BN,evalEach->BO,BindsTo->BS,atKey->BY,pyIter->B4,call->B5,JoinOk->B6
open List renaming mem_cons_of_mem->ah,mem_cons_self->av,getElem?_eq_getElem->aw,map_cons->ay,getElem?_set_self->aT,getElem?_set_ne->a0,getElem?_map->a5,length_map->a6,size_toArray->a7,mem_cons->a9,length_append->be,getElem?_eq_some_iff->cb,getElem?_append_left->cf,mem_singleton->cm,getElem?_append_right->cp,range->cq,length_cons->cy,mem_append->cE,map_append->cK,getD_eq_getElem?_getD->cS,replicate->c9,append_nil->dc,mem_map->dr,mem_of_getElem?->dy,length_singleton->dP,lookup_cons->dS,mem_append_right->eP,append_assoc->fy,length_replicate->fS,getElem?_replicate->gv,range_eq_range'->gT,mem_filter->hG,range'_succ->js,map_map->kg,nodup_cons->kq,mem_filterMap->kA,length_filter_le->kF,mem_of_mem_take->kM,reverse_cons->kT,pairwise_map->k8,range'->lI,sum_cons->lP,length_take->lT,filter_cons->l4,mem_range->l5,find?_cons->mf,mem_or_eq_of_mem_set->nK,length_drop->nN,getElem_mem->nS,filterMap_cons->nV,zipIdx_map_fst->oo,mem_map_of_mem->oq,nil_append->oI,take_of_length_le->pS,flatMap_cons->p9,nodup_nil->qh,getElem?_eq_none->qE,flatMap_nil->rh,nodup_range->rj,mem_of_mem_drop->rV,of_mem_zip->sv,foldl_cons->sD,reverse_append->sF,map_nil->tq,getElem?_drop->tz,drop_eq_getElem_cons->ua,pairwise_iff_getElem->uj,getElem?_take_of_lt->vj,nodup_append->wm,length->xk,all_eq_true->xD,range_succ_eq_map->x6,length_nil->y9,forIn_cons->zh,dropLast_eq_take->zo,mem_append_left->z5,lookup->AJ,getElem?_range->AK,flatMap_append->AO,all_cons->AR,any_cons->A4
open PySem.Heap renaming get?_push_of_some->ar,lt_size->aE,get?_push_size->bg,get?_update_other->bX,get?_update_self->dE,SameBut->iX,MadeExcOf->tJ
open Nat renaming le_refl->aS,lt_of_lt_of_le->br,ne_of_lt->cw,zero_le->d5,lt_irrefl->hU,le_trans->hV,mul_le_mul->nB,lt_of_le_of_lt->pe,ne_of_gt->qq,strongRecOn->sL,add_assoc->xa,add_sub_cancel_left->xl,succ_le_succ->xE,pow_le_pow_right->As,le_of_dvd->A6,zero_add->BB,add_zero->BC,le_of_lt->BE,le_of_eq->BG,add_comm->BH,gcd_comm->BI,Coprime->B0
open Rat renaming divInt->a8,num_divInt_den->l8,divInt_eq_divInt_iff->oC,divInt_eq_div->w8,divInt_add_divInt->zD,div_def->B1
open PySem.W renaming Frag->bo,kitOne->fw,kitOne->ic,kia_one->jv,mg_of->sM,hideAll_get->xb,findIn->xh,nsIn->xI,looks_findIn->AB,keepIn->AX,fnOf->AY,exmOne->A2,of_hideAll->BD,kitAny->BQ,excIn->BU
open Bool renaming false_ne_true->bp,false_eq_true->fA,and_eq_true->l3,eq_iff_iff->sj,not_true->AS
open Option.some renaming inj->b9
open Classical renaming choose_spec->dQ,choose->iF,em->oB
open PySem.Heap.SameBut renaming update->eA
open PySem.Str renaming ofString->eB,ofString_eq_toList->yk,empty->yT
open Ne renaming symm->eC
open PySem.Value renaming ref->eK,none->i7,builtin->rX,type->B3
open Or renaming inr->eR,inl->fN
open PyProof.Rows renaming callWith_type1->eS,slot_tuple_getitem->kQ,assignInOrder_cons->tj,kindOf->ve,AllBare->xc,envOfC->y6,subscriptTail->A0
open PySem.F renaming slot_dict_valueiterator_next->eT,slot_dict_keyiterator_next->fx,plainAttrs_list->jS,plainAttrs_dict->ka,slot_tuple_mul->ku,slot_tuple_hash->k9,args_dict_valueiterator_next_1->mT,entry_dict_valueiterator_next->nh,args_dict_keyiterator_next_1->nE,entry_dict_keyiterator_next->om,args_tuple_add_2->oy,args_tuple_mul_2->oD,entry_tuple_add->oQ,slot_dict_clear->pd,entry_tuple_mul->pj,slot_tuple_add->pz,typeOf_object_class->qA,slot_dict_values_iter->rg,slot_dict_setdefault->r9,args_dict_clear_1->tP,entry_dict_clear->vE,slot_list_append->vS,type_list_append->vT,slot_dict_values->wq,slot_dict_update->w9,slot_tuple_rmul->xy,slot_dict_iter->ya,slot_int_index->yi,slot_dict_pop->ze,slot_dict_len->zi,slot_list_pop->zt,type_list_pop->zv,fills_int_mul->zw,slot_int_rmul->zS,slot_int_mul->AA,slot_gs_get->A3
open Array renaming getElem?_eq_some_iff->fg,getElem?_eq_getElem->iS,length_toList->nX,mem_of_getElem?->qB,getElem?_eq_none->yb,toList->yy,mem_toList_iff->Ap,getElem_toList->Au,forIn_toList->AQ,append_assoc->AU
open Int renaming emod_nonneg->fq,emod_lt_of_pos->fR,fdiv_eq_ediv_of_nonneg->iN,natAbs_dvd_natAbs->kG,mul_comm->mw,toNat_natCast->mP,mul_assoc->nc,natAbs_mul->qk,toNat_of_nonneg->sN,eq_of_mul_eq_mul_right->sT,gcd->ui,eq_ofNat_of_zero_le->xp,mul_pos->B2
open True renaming intro->gu
open PySem.NameKind renaming free->gN,cell->ly
open Option renaming bind_eq_some_iff->gS,map_some->hJ,map_eq_some_iff->iO,isSome_iff_exists->vi,isSome_map->vx
open PySem.Builtin.Tuple renaming tupleHashOf->gX,tupleExact->kS,tupleItemsOf->sP
open PySem.PyData renaming strOk->h9,eqv->l6,canLay0->nI,depth->qV,canLayAll0->wx,eqvAll->xt,depthAll->zC
open PySem.Builtin.Dict_items renaming ownsTuple->ia
open Exists renaming imp->i8
open PySem.Obj renaming data_mapDictKeys->jI,data_mapFields->kC,mapFields->oT,isFreed_of_fields->qr,mapSeq->sg,isFreed_of_dict->sA
open PySem.SeqAt renaming shaped->kc,EqAt->A8
open False renaming elim->ko
open PySem.Builtin.Int renaming intBits->kr,intTooBig->y8
open PySem.Builtin.Slice renaming slicePlaces->kH,sliceAdjust->nz,sliceApplied->sR
open PySem.Builtin.Range renaming rangeSize->ll,small->AN
open PySem.Builtin.List renaming listExtendWith->mh,listTooLong->oz,listSameRef->v3,listItems->x9
open PySem.Builtin.Dict renaming showsAll->mo,noArgs->AL
open PySem.Paired renaming length->mB
open PySem.PassesOwn renaming leaving->ng
open PySem.Calls renaming spliced_cons->oP,callWith_builtin->pE,evalArgs_plain->rL,Name_function_global->sQ,spliced_nil->uS
open Char renaming toNat->pV
open ForInStep renaming yield->sC
open Prod renaming fst->xw,snd->B9
open Sum renaming inr->yn,inl->A7
open PySem.Txt renaming slice->zk,join->A5,mul->B7
open PySem.EntryCells renaming newEntry->AI
open PySem.Builtin.Str renaming tooLong->AM
open PySem.StrLaws renaming sliceText->Bz
open Nat.succ renaming inj->BA
abbrev Zaa:=PySem.Addr->Prop
abbrev Zp:=PySem.Str->Option PySem.Value
abbrev Zl:=List<|PySem.Addr×PySem.Obj
abbrev Zs:=PySem.Value->PySem.Shared->Prop
theorem xq5 {A B C D E:Sort _}{R Q:A->B->C->D->E->Prop}{P:Prop}(h:∃a b c d e,R a b c d e/\Q a b c d e)(k:∀a b c d e,R a b c d e->Q a b c d e->P):P:=by
 obtain⟨a,b,c,d,e,r,q⟩:=h;exact k a b c d e r q
theorem xq7 {A B C D E F G:Sort _}{R Q S T:A->B->C->D->E->F->G->Prop}{P:Prop}(h:∃a b c d e f g,R a b c d e f g/\Q a b c d e f g/\S a b c d e f g/\T a b c d e f g)(k:∀a b c d e f g,R a b c d e f g->Q a b c d e f g->S a b c d e f g->T a b c d e f g->P):P:=by
 obtain⟨a,b,c,d,e,f,g,r,q,s,t⟩:=h;exact k a b c d e f g r q s t
theorem xq2 {A B:Sort _}{R Q S:A->B->Prop}{P:Prop}(h:∃a b,R a b/\Q a b/\S a b)(k:∀a b,R a b->Q a b->S a b->P):P:=by
 obtain⟨a,b,r,q,s⟩:=h;exact k a b r q s
theorem xl1 {A:Type _}{us:List A}(h:us.length=1):∃a,us=[a]:=by
 cases us with
 |nil=>cases h
 |cons a t=>cases t with
  |nil=>exact⟨a,rfl⟩
  |cons _ _=>cases h
theorem xl0 {A:Type _}{us:List A}{n:Nat}(h:us.length=n+1):∃a t,us=a::t/\t.length=n:=by
 cases us with
 |nil=>cases h
 |cons a t=>exact⟨a,t,rfl,BA h⟩
theorem xl2 {A:Type _}{us:List A}(h:us.length=2):∃a b,us=[a,b]:=by
 obtain⟨a,t,rfl,c⟩:=xl0 (n:=1) h;obtain⟨b,rfl⟩:=xl1 c;exact⟨a,b,rfl⟩
theorem xl3 {A:Type _}{us:List A}(h:us.length=3):∃a b c,us=[a,b,c]:=by
 obtain⟨a,t,rfl,d⟩:=xl0 (n:=2) h;obtain⟨b,c,rfl⟩:=xl2 d;exact⟨a,b,c,rfl⟩
theorem xl4 {A:Type _}{us:List A}(h:us.length=4):∃a b c d,us=[a,b,c,d]:=by
 obtain⟨a,t,rfl,e⟩:=xl0 (n:=3) h;obtain⟨b,c,d,rfl⟩:=xl3 e;exact⟨a,b,c,d,rfl⟩
set_option Elab.async false
set_option linter.all false
set_option maxRecDepth 100000
theorem GQ {o P1 P2 P3 P4:Prop}{Z:Prop}(h:o/\P1/\P2/\P3/\P4)(z:o->P1->P2->P3->P4->Z):Z:=by
 obtain⟨e,d,a,b,c⟩:=h;exact z e d a b c
theorem pU {o P1 P2 P3 P4 P5:Prop}{Z:Prop}(h:o/\P1/\P2/\P3/\P4/\P5)(z:o->P1->P2->P3->P4->P5->Z):Z:=by
 obtain⟨d,b,c,e,a,f⟩:=h;exact z d b c e a f
theorem agz {U Tb Tc Td Te Tf Tg C J I:Sort _}{o P1:U->Tb->Tc->Td->Te->Tf->Tg->C->J->I->Prop}{Z:Prop}(h:∃a b c d e f g h i j,o a b c d e f g h i j/\P1 a b c d e f g h i j)(z:∀a,∀b,∀c,∀d,∀e,∀f,∀g,∀h,∀i,∀j,o a b c d e f g h i j->P1 a b c d e f g h i j->Z):Z:=by
 obtain⟨a,b,c,d,e,f,g,h,i,j,l,k⟩:=h;exact z a b c d e f g h i j l k
theorem agp {Ta Tb Tc Td Te Tf Tg C J I U Tl:Sort _}{o P1:Ta->Tb->Tc->Td->Te->Tf->Tg->C->J->I->U->Tl->Prop}{Z:Prop}(h:∃a b c d e f g h i j k l,o a b c d e f g h i j k l/\P1 a b c d e f g h i j k l)(z:∀a,∀b,∀c,∀d,∀e,∀f,∀g,∀h,∀i,∀j,∀k,∀l,o a b c d e f g h i j k l->P1 a b c d e f g h i j k l->Z):Z:=by
 obtain⟨a,b,c,d,e,f,g,h,i,j,k,l,n,m⟩:=h;exact z a b c d e f g h i j k l n m
theorem zE {C:Sort _}{o P1 P2 P3:C->Prop}{Z:Prop}(h:∃a,o a/\P1 a/\P2 a/\P3 a)(z:∀a,o a->P1 a->P2 a->P3 a->Z):Z:=by
 obtain⟨a,c,b,d,e⟩:=h;exact z a c b d e
theorem X6 {C:Sort _}{o P1 P2 P3 P4:C->Prop}{Z:Prop}(h:∃a,o a/\P1 a/\P2 a/\P3 a/\P4 a)(z:∀a,o a->P1 a->P2 a->P3 a->P4 a->Z):Z:=by
 obtain⟨a,f,e,b,c,d⟩:=h;exact z a f e b c d
theorem CT {C Tb:Sort _}{o P1 P2:C->Tb->Prop}{Z:Prop}(h:∃a b,o a b/\P1 a b/\P2 a b)(z:∀a,∀b,o a b->P1 a b->P2 a b->Z):Z:=by
 obtain⟨a,b,e,d,c⟩:=h;exact z a b e d c
theorem zT {C Tb:Sort _}{o P1 P2 P3:C->Tb->Prop}{Z:Prop}(h:∃a b,o a b/\P1 a b/\P2 a b/\P3 a b)(z:∀a,∀b,o a b->P1 a b->P2 a b->P3 a b->Z):Z:=by
 obtain⟨a,b,f,e,c,d⟩:=h;exact z a b f e c d
theorem uV {C Tb:Sort _}{o P1 P2 P3 P4:C->Tb->Prop}{Z:Prop}(h:∃a b,o a b/\P1 a b/\P2 a b/\P3 a b/\P4 a b)(z:∀a,∀b,o a b->P1 a b->P2 a b->P3 a b->P4 a b->Z):Z:=by
 obtain⟨a,b,e,d,f,g,c⟩:=h;exact z a b e d f g c
theorem Km {C Tb:Sort _}{o P1 P2 P3 P4 P5:C->Tb->Prop}{Z:Prop}(h:∃a b,o a b/\P1 a b/\P2 a b/\P3 a b/\P4 a b/\P5 a b)(z:∀a,∀b,o a b->P1 a b->P2 a b->P3 a b->P4 a b->P5 a b->Z):Z:=by
 obtain⟨a,b,g,f,c,e,d,i⟩:=h;exact z a b g f c e d i
theorem Rp {C Tb I:Sort _}{o P1:C->Tb->I->Prop}{Z:Prop}(h:∃a b c,o a b c/\P1 a b c)(z:∀a,∀b,∀c,o a b c->P1 a b c->Z):Z:=by
 obtain⟨a,b,c,e,d⟩:=h;exact z a b c e d
theorem Ry {C Tb I:Sort _}{o P1 P2:C->Tb->I->Prop}{Z:Prop}(h:∃a b c,o a b c/\P1 a b c/\P2 a b c)(z:∀a,∀b,∀c,o a b c->P1 a b c->P2 a b c->Z):Z:=by
 obtain⟨a,b,c,f,e,d⟩:=h;exact z a b c f e d
theorem Rv {C Tb I:Sort _}{o P1 P2 P3:C->Tb->I->Prop}{Z:Prop}(h:∃a b c,o a b c/\P1 a b c/\P2 a b c/\P3 a b c)(z:∀a,∀b,∀c,o a b c->P1 a b c->P2 a b c->P3 a b c->Z):Z:=by
 obtain⟨a,b,c,e,d,f,g⟩:=h;exact z a b c e d f g
theorem Vt {C Tb I:Sort _}{o P1 P2 P3 P4:C->Tb->I->Prop}{Z:Prop}(h:∃a b c,o a b c/\P1 a b c/\P2 a b c/\P3 a b c/\P4 a b c)(z:∀a,∀b,∀c,o a b c->P1 a b c->P2 a b c->P3 a b c->P4 a b c->Z):Z:=by
 obtain⟨a,b,c,i,g,d,f,e⟩:=h;exact z a b c i g d f e
theorem DG {C Tb I:Sort _}{o P1 P2 P3 P4 P5:C->Tb->I->Prop}{Z:Prop}(h:∃a b c,o a b c/\P1 a b c/\P2 a b c/\P3 a b c/\P4 a b c/\P5 a b c)(z:∀a,∀b,∀c,o a b c->P1 a b c->P2 a b c->P3 a b c->P4 a b c->P5 a b c->Z):Z:=by
 obtain⟨a,b,c,i,g,d,f,e,j⟩:=h;exact z a b c i g d f e j
theorem ahh {I Tb J C:Sort _}{o:I->Tb->J->C->Prop}{Z:Prop}(h:∃a b c d,o a b c d)(z:∀a,∀b,∀c,∀d,o a b c d->Z):Z:=by
 obtain⟨a,b,c,d,e⟩:=h;exact z a b c d e
theorem abR {I Tb J C:Sort _}{o P1:I->Tb->J->C->Prop}{Z:Prop}(h:∃a b c d,o a b c d/\P1 a b c d)(z:∀a,∀b,∀c,∀d,o a b c d->P1 a b c d->Z):Z:=by
 obtain⟨a,b,c,d,f,e⟩:=h;exact z a b c d f e
theorem aeN {C Tb J I:Sort _}{o P1 P2:C->Tb->J->I->Prop}{Z:Prop}(h:∃a b c d,o a b c d/\P1 a b c d/\P2 a b c d)(z:∀a,∀b,∀c,∀d,o a b c d->P1 a b c d->P2 a b c d->Z):Z:=by
 obtain⟨a,b,c,d,f,e,g⟩:=h;exact z a b c d f e g
theorem pL {C Tb I J:Sort _}{o P1 P2 P3 P4:C->Tb->I->J->Prop}{Z:Prop}(h:∃a b c d,o a b c d/\P1 a b c d/\P2 a b c d/\P3 a b c d/\P4 a b c d)(z:∀a,∀b,∀c,∀d,o a b c d->P1 a b c d->P2 a b c d->P3 a b c d->P4 a b c d->Z):Z:=by
 obtain⟨a,b,c,d,j,i,e,g,f⟩:=h;exact z a b c d j i e g f
theorem ahi {J Tb U I C:Sort _}{o:J->Tb->U->I->C->Prop}{Z:Prop}(h:∃a b c d e,o a b c d e)(z:∀a,∀b,∀c,∀d,∀e,o a b c d e->Z):Z:=by
 obtain⟨a,b,c,d,e,f⟩:=h;exact z a b c d e f
theorem Hc {I Tb U J C:Sort _}{o P1:I->Tb->U->J->C->Prop}{Z:Prop}(h:∃a b c d e,o a b c d e/\P1 a b c d e)(z:∀a,∀b,∀c,∀d,∀e,o a b c d e->P1 a b c d e->Z):Z:=by
 obtain⟨a,b,c,d,e,g,f⟩:=h;exact z a b c d e g f
theorem Kv {C Tb I U J:Sort _}{o P1 P2 P3 P4 P5 P6:C->Tb->I->U->J->Prop}{Z:Prop}(h:∃a b c d e,o a b c d e/\P1 a b c d e/\P2 a b c d e/\P3 a b c d e/\P4 a b c d e/\P5 a b c d e/\P6 a b c d e)(z:∀a,∀b,∀c,∀d,∀e,o a b c d e->P1 a b c d e->P2 a b c d e->P3 a b c d e->P4 a b c d e->P5 a b c d e->P6 a b c d e->Z):Z:=by
 obtain⟨a,b,c,d,e,l,k,f,j,g,m,i⟩:=h;exact z a b c d e l k f j g m i
theorem ahf {I Tb U J C Tf:Sort _}{o:I->Tb->U->J->C->Tf->Prop}{Z:Prop}(h:∃a b c d e f,o a b c d e f)(z:∀a,∀b,∀c,∀d,∀e,∀f,o a b c d e f->Z):Z:=by
 obtain⟨a,b,c,d,e,f,g⟩:=h;exact z a b c d e f g
namespace L2
open PySem PySem.Spec PyProof.Rows
abbrev Key:=Sum Int Str
noncomputable def xQ:Key->ax->Bool
 | .inl k,v=>Value.isInt k v
 | .inr x,v=>Value.isStrOf x v
noncomputable def af3 (w:eI):Key->Int
 | .inl k=>hashInt k
 | .inr x=>hashStr w x
theorem cA:∀{k:Key} {v:ax},xQ k v=true->(∃i t,k=A7 i/\v=Value.int i t)\/(∃x t,k=yn x/\v=Value.str x t)
 | .inl i,v,h=>by
  obtain⟨t,e⟩:=Value.isInt_shape h;exact .inl ⟨i,t,rfl,e⟩
 | .inr x,v,h=>by
  obtain⟨t,e⟩:=Value.isStrOf_shape h;exact .inr ⟨x,t,rfl,e⟩
theorem Us (i:Int)(t:Tok):xQ (.inl i) (.int i t)=true:=by simp[xQ,Value.isInt]
theorem SX (x:Str)(t:Tok):xQ (.inr x) (.str x t)=true:=by simp[xQ,Value.isStrOf]
theorem acS (a b:Int):decide ((A7 a:Key)=A7 b)=(a==b):=by
 by_cases e:a=b
 ·subst e;simp
 ·have h:¬(A7 a:Key)=A7 b:=λq=>e<|Sum.inl.inj q;rw[decide_eq_false h];exact(beq_eq_false_iff_ne.mpr e).symm
theorem ad3 (a b:Str):decide ((yn a:Key)=yn b)=decide (a=b):=by
 by_cases e:a=b
 ·subst e;simp
 ·have h:¬(yn a:Key)=yn b:=λq=>e<|Sum.inr.inj q;rw[decide_eq_false h,decide_eq_false e]
theorem acT (a:Int)(b:Str):decide ((A7 a:Key)=yn b)=false:=decide_eq_false λq=>nomatch q
theorem aep (a:Str)(b:Int):decide ((yn a:Key)=A7 b)=false:=decide_eq_false λq=>nomatch q
def eF (prog:bE)(w:eI):PySem.KeyKind prog w Key where
 is:=xQ
 hash:=af3 w
 inj:=λv a b g f=>by
  rcases cA g with⟨i,t,rfl,rfl⟩|⟨x,t,rfl,rfl⟩
  ·rcases cA f with⟨j,u,rfl,e⟩|⟨y,u,rfl,e⟩
   ·injection e with c _;rw[c]
   ·exact nomatch e
  ·rcases cA f with⟨j,u,rfl,e⟩|⟨y,u,rfl,e⟩
   ·exact nomatch e
   ·injection e with c _;rw[c]
 byValue:=λk v h=>by
  rcases cA h with⟨i,t,rfl,rfl⟩|⟨x,t,rfl,rfl⟩<;>rfl
 pyHash:=λd h=>by
  rcases cA d with⟨i,t,rfl,rfl⟩|⟨x,t,rfl,rfl⟩
  ·exact wpAny_pyHash_int h
  ·exact wpAny_pyHash_str h
 eqBool:=λl d h=>by
  rcases cA l with⟨i,t,rfl,rfl⟩|⟨x,t,rfl,rfl⟩
  ·rcases cA d with⟨j,u,rfl,rfl⟩|⟨y,u,rfl,rfl⟩
   ·rw[acS] at h;exact wpAny_eqBool_int h
   ·rw[acT] at h;exact SeqAt.EqAt.int_str i t y u _ _ _ _ h
  ·rcases cA d with⟨j,u,rfl,rfl⟩|⟨y,u,rfl,rfl⟩
   ·rw[aep] at h;exact SeqAt.EqAt.str_int x t j u _ _ _ _ h
   ·rw[ad3] at h;exact wpAny_eqBool_str h
 «strs»:=λk x t v h=>by
  rcases cA h with⟨i,u,rfl,e⟩|⟨y,u,rfl,e⟩
  ·exact nomatch e
  ·injection e with c _
   subst c;cases v<;>rfl
theorem Mj (prog:bE)(w:eI)(i:Int)(t:Tok):(eF prog w).is (.inl i) (.int i t)=true:=Us i t
theorem JV (prog:bE)(w:eI)(x:Str)(t:Tok):(eF prog w).is (.inr x) (.str x t)=true:=SX x t
inductive Kt where
 |k (x:Key)|t (xs:List Kt)
mutual
def Kt.dec:(a b:Kt)->Decidable (a=b)
 | .k x,.k y=>if h:x=y then .isTrue (by rw[h]) else .isFalse λe=>h<|by injection e
 | .t xs,.t ys=>match Kt.decs xs ys with
  | .isTrue h=>.isTrue<|by rw[h]
  | .isFalse h=>.isFalse λe=>h<|by injection e
 | .k _,.t _=>.isFalse λe=>nomatch e
 | .t _,.k _=>.isFalse λe=>nomatch e
def Kt.decs:(a b:List Kt)->Decidable (a=b)
 |[],[]=>.isTrue rfl
 |[],_::_=>.isFalse λe=>nomatch e
 |_::_,[]=>.isFalse λe=>nomatch e
 |x::xs,y::ys=>match Kt.dec x y,Kt.decs xs ys with
  | .isTrue h,.isTrue g=>.isTrue<|by rw[h,g]
  | .isFalse h,_=>.isFalse λe=>h<|by injection e
  |_,.isFalse g=>.isFalse λe=>g<|by injection e
end
instance:DecidableEq Kt:=Kt.dec
mutual
def vM (w:eI):Kt->Int
 | .k x=>af3 w x
 | .t xs=>reduceHash<|gX<|nR w xs
def nR (w:eI):List Kt->List Int
 |[]=>[]
 |x::xs=>vM w x::nR w xs
end
mutual
def uI:Kt->Nat
 | .k _=>1
 | .t xs=>gw xs+1
def gw:List Kt->Nat
 |[]=>0
 |x::xs=>uI x+gw xs
end
def mQ (h:Heap):Nat->Kt->ax->Prop
 |_,.k x,v=>xQ x v=true
 |0,.t _,_=>False
 |n+1,.t xs,v=>∃a o b m,v=.ref a/\h.get? a=some o/\o.cls=.type "tuple"/\o.data=.seq b m/\kL (mQ h n) xs b.toList
theorem lN:mQ h (n+1) (.t xs) v↔∃a o items m,v=.ref a/\h.get? a=some o/\o.cls=.type "tuple"/\o.data=.seq items m/\kL (mQ h n) xs items.toList:=by rw[mQ]
theorem oH:mQ h n (.k x) v↔xQ x v=true:=by cases n<;>rw[mQ]
theorem DQ {C o:Type}{F G:C->o->Prop}(f:∀a b,F a b->G a b):∀{l:List C} {m:List o},kL F l m->kL G l m
 |_,_,.nil=>.nil
 |_,_,.cons r t=>.cons (f _ _ r)<|DQ f t
theorem Dd {I C:Type}{F:I->C->Prop}(f:∀x y b,F x b->F y b->x=y):∀{l o:List I} {m:List C},kL F l m->kL F o m->l=o
 |_,_,_,.nil,.nil=>rfl
 |_,_,_,.cons r t,.cons r' t'=>by rw[f _ _ _ r r',Dd f t t']
theorem BK {h:Heap}:∀(n:Nat) (x y:Kt) (v:ax),mQ h n x v->mQ h n y v->x=y
 |n,.k x,.k y,v,hx,hy=>by
  rw[oH] at hx hy;rcases cA hx with⟨i,t,rfl,rfl⟩|⟨z,t,rfl,rfl⟩
  ·rcases cA hy with⟨j,u,rfl,e⟩|⟨y,u,rfl,e⟩
   ·injection e with f _;rw[f]
   ·exact nomatch e
  ·rcases cA hy with⟨j,u,rfl,e⟩|⟨y,u,rfl,e⟩
   ·exact nomatch e
   ·injection e with f _;rw[f]
 |0,.t _,_,_,hx,_=>by rw[mQ] at hx;exact hx.elim
 |0,.k _,.t _,_,_,hy=>by rw[mQ] at hy;exact hy.elim
 |n+1,.k x,.t ys,v,hx,hy=>by
  rw[oH] at hx;refine abR (lN.mp hy) λa _ _ _ e _=>?_;subst e;rcases cA hx with⟨_,_,_,e⟩|⟨_,_,_,e⟩<;>exact nomatch e
 |n+1,.t xs,.k y,v,hx,hy=>by
  rw[oH] at hy;refine abR (lN.mp hx) λa _ _ _ e _=>?_;subst e;rcases cA hy with⟨_,_,_,e⟩|⟨_,_,_,e⟩<;>exact nomatch e
 |n+1,.t xs,.t ys,v,hx,hy=>by
  refine pL (lN.mp hx) λa o B m e g _ d p=>?_;refine pL (lN.mp hy) λw A q s c l _ b r=>?_;subst e;injection c with c
  subst c;cases g.symm.trans l;rw[d] at b;injection b with b _
  subst b;rw[Dd (BK n) p r]
theorem Cu {h h':Heap}{d:Addr}{o:Obj}{es ep}(C:h.get? d=some o)(hd:o.data=.dict es ep)(I:iX d h h'):∀(n:Nat) (x:Kt) (v:ax),mQ h n x v->mQ h' n x v
 |n,.k x,v,hx=>by rw[oH] at hx ⊢;exact hx
 |0,.t _,_,hx=>by rw[mQ] at hx;exact hx.elim
 |n+1,.t xs,v,hx=>by
  refine pL (lN.mp hx) λa f i m e g c b p=>?_;have j:a≠d:=by
   rintro rfl;cases g.symm.trans C;rw[hd] at b;cases b
  exact lN.mpr ⟨a,f,i,m,e,(I.2 a j).trans g,c,b,DQ (Cu C hd I n) p⟩
section
theorem zQ (w:eI):∀xs:List Kt,nR w xs=xs.map (vM w)
 |[]=>by rw[nR];rfl
 |x::xs=>by rw[nR,zQ w xs];rfl
theorem xK:∀xs ys:List Kt,gw (xs++ys)=gw xs+gw ys
 |[],ys=>by rw[oI,gw,BB]
 |x::xs,ys=>by rw[List.cons_append,gw,gw,xK xs ys,xa]
theorem JD (x:Kt):gw [x]=uI x:=by rw[gw,gw,BC]
theorem GJ:∀(n:Nat) {A:fm} {s:aI} {x:Kt} {v:ax} {Q:Int->aI->Prop},A.units+n<pk->mQ s.heap n x v->Q (vM wo x) { s with toks:=s.toks+uI x }->bt (cx pr wo) A (pyHash v) Q E s
 |n,A,s,.k x,v,Q,hu,hx,q=>by
  rw[oH] at hx;rw[vM,uI] at q;exact(eF pr wo).pyHash hx q
 |0,_,_,.t _,_,_,_,hx,_=>by rw[mQ] at hx;exact hx.elim
 |n+1,A,s,.t xs,v,Q,hu,hx,h=>by
  refine pL (lN.mp hx) λa o l m e p u hd r=>?_;subst e;have f:s.TypeIs (.ref a) "tuple":=⟨o,p,u⟩;rw[vM,uI] at h;unfold pyHash
  first|unfold pyHashByItsType|skip
  first|refine ae (wpAny_cRoomFor_or (.inr<|by lia) ?_)|skip
  refine ae<|l9 f k9.lookup ?_;show bt _ _ (if(some (rX "tuple.__hash__")==some i7)=true then _ else _) Q E s;rw[if_neg (by rw[beq_builtin_none];exact bp)];refine ae<|l9 f k9.lookup ?_;show bt _ _ (callSpecialIfBoundUnlessNone? (.ref a) "__hash__" _ >>= _) Q E s;refine ae<|wpAny_callSpecialIfBoundUnlessNone?_slot f k9<|fT k9 f PySem.F.entry_tuple_hash ?_<|PySem.F.args_tuple_hash_1 _;show bt _ _ (sP (.ref a) >>= _) _ _ s;refine ae<|wpAny_tupleItemsOf p hd ?_;refine ae ?_;rw[← AQ];refine nL _
   (λc (b:Array Int) j=>∃done left,xs=done++left/\kL (mQ s.heap n) left c/\b.toList=done.map (vM wo)/\j={ s with toks:=s.toks+gw done })
   _ ?_ ?_ _ _ ⟨[],xs,rfl,r,rfl,by rw[gw];rfl⟩
  ·rintro x c b j ⟨done,left,rfl,i,g,rfl⟩;cases i with
   | @cons k _ ks' _ h1 hl'=>
    refine ae<|GJ n (A:=A.in1) (show A.units+1+n<pk by lia) (s:={ s with toks:=s.toks+gw done }) h1 ?_;refine af ⟨done++[k],ks',by simp,hl',by simp[g],?_⟩;rw[xK,JD,xa]
  ·rintro b j ⟨done,left,rfl,i,g,rfl⟩;cases i;rw[dc] at h;show bt _ _ (retInt<|gX b.toList) _ _ _;rw[g,← zQ];refine wpAny_ret_mkInt ?_;show bt _ _ (if(decide (-(2:Int)^63<=gX (nR wo done))&&decide (gX (nR wo done)<2^63))=true then _ else _) Q E _;unfold reduceHash at h;by_cases d:(decide (-(2:Int)^63<=gX (nR wo done))&&decide (gX (nR wo done)<2^63))=true
   ·rw[if_pos d];rw[if_pos d] at h;exact af<|by simpa[xa] using h
   ·rw[if_neg d];rw[if_neg d] at h;exact ae<|sf<|af<|by simpa[xa] using h
noncomputable def uC (xs ys:List Kt)(j:Nat):Bool:=match xs[j]?,ys[j]? with
 |some x,some y=>decide<|x=y
 |_,_=>true
theorem Eg:∀xs ys:List Kt,((cq<|min xs.length ys.length).all (uC xs ys)&&xs.length==ys.length)=decide (xs=ys)
 |[],[]=>by simp
 |[],_::_=>by simp
 |_::_,[]=>by simp
 |x::xs,y::ys=>by
  have f:=Eg xs ys;rw[cy,cy,Nat.succ_min_succ,x6,AR,List.all_map];have e:(uC (x::xs) (y::ys)∘Nat.succ)=uC xs ys:=by funext j;simp[uC]
  rw[e];have d:uC (x::xs) (y::ys) 0=decide (x=y):=by simp[uC]
  rw[d,Bool.and_assoc];have c:((xs.length+1==ys.length+1):Bool)=(xs.length==ys.length):=by simp
  rw[c,f];by_cases a:x=y<;>by_cases b:xs=ys<;>simp[a,b]
theorem yC:∀{l:List α} {m:List β} (j:Nat) (h:j<m.length),kL F l m->∃a,l[j]? = some a/\F a m[j]
 |_,_,j,h,.nil=>absurd h<|Nat.not_lt_zero _
 |_,_,0,_,.cons r _=>⟨_,rfl,r⟩
 |_,_,j+1,h,.cons _ t=>by
  obtain⟨a,b,c⟩:=yC j (by simpa using h) t;exact⟨a,by simpa using b,by simpa using c⟩
theorem JG:∀(n:Nat) (A:fm) (s:aI) (x y:Kt) (v u:ax),A.units+n<pk->mQ s.heap n x v->mQ s.heap n y u->A8 A s v u (decide<|x=y)
 |n,A,s,.k x,.k y,v,u,hu,hx,hy=>by
  rw[oH] at hx hy;intro W C E Q q;refine(eF W C).eqBool (a:=x) (b:=y) hx hy ?_;have e:decide (Kt.k x=Kt.k y)=decide (x=y):=decide_eq_decide.mpr ⟨λe=>by injection e,λe=>by rw[e]⟩;rw[← e];exact q
 |0,_,_,.t _,_,_,_,_,hx,_=>by rw[mQ] at hx;exact hx.elim
 |0,_,_,.k _,.t _,_,_,_,_,hy=>by rw[mQ] at hy;exact hy.elim
 |n+1,A,s,.k x,.t ys,v,u,hu,hx,hy=>by
  rw[oH] at hx;refine pL (lN.mp hy) λa o h m e g c d _=>?_;subst e;have f:s.heap.IsTuple a h:=⟨o,g,c,m,d⟩;rw[show decide (Kt.k x=Kt.t ys)=false from decide_eq_false λe=>nomatch e];rcases cA hx with⟨i,t,rfl,rfl⟩|⟨z,t,rfl,rfl⟩
  ·exact SeqAt.EqAt.int_tuple i t f<|by lia
  ·exact SeqAt.EqAt.str_tuple z t f<|by lia
 |n+1,A,s,.t xs,.k y,v,u,hu,hx,hy=>by
  rw[oH] at hy;refine pL (lN.mp hx) λa o h m e g c d _=>?_;subst e;have f:s.heap.IsTuple a h:=⟨o,g,c,m,d⟩;rw[show decide (Kt.t xs=Kt.k y)=false from decide_eq_false λe=>nomatch e];rcases cA hy with⟨i,t,rfl,rfl⟩|⟨z,t,rfl,rfl⟩
  ·exact SeqAt.EqAt.tuple_int i t f<|by lia
  ·exact SeqAt.EqAt.tuple_str z t f<|by lia
 |n+1,A,s,.t xs,.t ys,v,u,hu,hx,hy=>by
  have B:=hx;have r:=hy;refine pL (lN.mp hx) λa o h m e g c d p=>?_;refine pL (lN.mp hy) λD V l K S L Y O F=>?_;subst e S;by_cases G:a=D
  ·subst G;rw[BK _ _ _ _ B r,decide_eq_true rfl];exact SeqAt.EqAt.same _
  ·have f:s.heap.IsTuple a h:=⟨o,g,c,m,d⟩;have w:s.heap.IsTuple D l:=⟨V,L,Y,K,O⟩;have R:h.size=xs.length:=by have:=mB p;simpa using this.symm
   have N:l.size=ys.length:=by have:=mB F;simpa using this.symm
   have P:decide (Kt.t xs=Kt.t ys)=decide (xs=ys):=decide_eq_decide.mpr ⟨λe=>by injection e,λe=>by rw[e]⟩;rw[P,← Eg xs ys,← R,← N];refine SeqAt.EqAt.of_refs G<|SeqAt.RcAt.tuples f w (by lia) λj M X=>?_;obtain⟨b,T,Z⟩:=yC j (by simpa using M) p;obtain⟨H,I,J⟩:=yC j (by simpa using X) F
   have:uC xs ys j=decide (b=H):=by unfold uC;rw[T,I]
   rw[this];exact JG n A.in1 s b H _ _ (show A.units+1+n<pk by lia) (by simpa using Z) (by simpa using J)
theorem Ra:∀(n:Nat) {A:fm} {s:aI} {x:Kt} {v:ax} {Q:Bool->aI->Prop},mQ s.heap n x v->Q true s->bt (cx pr wo) A (eqIsQuiet n v) Q E s
 |n,A,s,.k x,v,Q,hx,q=>by
  rw[oH] at hx;rw[uk _<|(eF pr wo).byValue _ _ hx];exact af q
 |0,_,_,.t _,_,_,hx,_=>by rw[mQ] at hx;exact hx.elim
 |n+1,A,s,.t xs,v,Q,hx,h=>by
  refine pL (lN.mp hx) λa o c m e g p hd l=>?_;subst e;have i:s.TypeIs (.ref a) "tuple":=⟨o,g,p⟩;unfold eqIsQuiet;refine ae<|l9 i PySem.F.slot_tuple_eq.lookup ?_;show bt _ _ (isInstance (.ref a) (.type "tuple") >>= _) _ _ s;refine ae<|rf i isSubtype_tuple_tuple ?_;simp only[AS,fA,if_false];refine ae<|wpAny_seqItems g hd<|ae ?_;show bt _ _ (forIn c _ _) _ _ s;rw[← AQ];refine nL _ (λb r d=>r.1=none/\d=s/\∃j,kL (mQ s.heap n) j b) _ ?_ ?_ _ _ ⟨rfl,rfl,xs,l⟩
  ·rintro v b r d ⟨f,rfl,j,u⟩;cases u with
   |cons h1 al'=>
    refine ae<|Ra n h1 ?_;simp only[AS,fA,if_false];exact af ⟨rfl,rfl,_,al'⟩
  ·rintro⟨w,y⟩ d ⟨f,rfl,_⟩;simp only at f;subst f;exact af h
end
def iQ (C:bE)(o:eI):HeapKind C o (List Kt) where
 is:=λh d a=>mQ h 8 (.t d)<|.ref a
 hash:=λd=>vM o<|.t d
 draws:=λd=>uI<|.t d
 room:=λA=>A.units+8<pk
 inj:=λa b=>by have:=BK _ _ _ _ a b;injection this
 keeps:=λx a b c=>Cu a b c _ _ _ x
 pyHash:=λa b c=>GJ 8 a b c
 eqBool:=λ{A E s x y a b Q} g i j f=>by
  refine JG 8 A s _ _ _ _ g i j _ _ _ _ ?_;rw[show decide (Kt.t x=Kt.t y)=decide (x=y) from decide_eq_decide.mpr ⟨λe=>by injection e,λe=>by rw[e]⟩];exact f
 quiet:=λa b=>Ra 8 a b
inductive V where
 |non|bl (b:Bool)|int (i:Int)|str (x:Str)|byt (b:Array UInt8)|flt (b:UInt64)|ref (a:Addr)|ty (n:String)
 deriving DecidableEq
def RelV:V->ax->Prop
 | .non,u=>u=i7
 | .bl b,u=>u=Value.bool b
 | .int i,u=>∃t,u=Value.int i t
 | .str x,u=>∃t,u=Value.str x t
 | .byt b,u=>∃t,u=Value.bytes b t
 | .flt b,u=>∃t,u=Value.float b t
 | .ref a,u=>u=eK a
 | .ty n,u=>u=B3 n
abbrev Vals:List V->List ax->Prop:=kL RelV
theorem Vals.length (r:Vals xs us):xs.length=us.length:=mB r
theorem Vals.get:∀{xs:List V} {us:List ax} {i:Nat} {x:V},Vals xs us->xs[i]? = some x->∃u,us[i]? = some u/\RelV x u
 |_,_,_,_,.nil,e=>by simp at e
 |_,_,0,_,.cons r _,e=>by simp at e;subst e;exact⟨_,rfl,r⟩
 |_,_,i+1,x,.cons _ t,e=>by
  obtain⟨u,a,b⟩:=Vals.get t (by simpa using e);exact⟨u,by simpa using a,b⟩
theorem Vals.set (r:RelV x u):∀{xs:List V} {us:List ax} (i:Nat),Vals xs us->Vals (xs.set i x) (us.set i u)
 |_,_,_,.nil=>.nil
 |_,_,0,.cons _ t=>.cons r t
 |_,_,i+1,.cons q t=>.cons q<|Vals.set r i t
theorem Vals.append:∀{xs ys:List V} {us ws:List ax},Vals xs us->Vals ys ws->Vals (xs++ys) (us++ws)
 |_,_,_,_,.nil,s=>s
 |_,_,_,_,.cons r t,s=>.cons r<|Vals.append t s
theorem Vals.take:∀{xs:List V} {us:List ax} (n:Nat),Vals xs us->Vals (xs.take n) (us.take n)
 |_,_,0,_=>.nil
 |_,_,_+1,.nil=>.nil
 |_,_,n+1,.cons r t=>.cons r<|Vals.take n t
theorem Vals.drop:∀{xs:List V} {us:List ax} (n:Nat),Vals xs us->Vals (xs.drop n) (us.drop n)
 |_,_,0,r=>r
 |_,_,_+1,.nil=>.nil
 |_,_,n+1,.cons _ t=>Vals.drop n t
def z9:Option V->Option ax->Prop
 |some v,some u=>RelV v u
 |none,none=>True
 |_,_=>False
def KV {o:Type}:List (o×V)->List (o×ax)->Prop:=kL λ(p:o×V) (q:o×ax)=>p.1=q.1/\RelV p.2 q.2
noncomputable def kV:Key->V
 | .inl i=>.int i
 | .inr x=>.str x
inductive HO where
  |lst (xs:List V)
  |tup (xs:List V)
  |dK (ι:List (Key×V))|dT (T:Addr->List V->Prop) (ι:List (List Kt×V))
  |odd (n:Nat)
  |set (S:Int->Bool) (n:Nat)
  |ins (C dx:Addr) (fs:List (Str×V))
  |own (x:Addr)
  |xd (fs:List (Str×V))
  |met (f x:Addr)
  |rng (lo hi:Int)
  |frz (o:Obj) (u:HO)
  |tbl (ps:Array ax)
  |ext (φ:Heap->Prop)
abbrev Hp:=Addr->Option HO
noncomputable def upd (H:Hp)(a:Addr)(o:HO):Hp:=λb=>if b=a then some o else H b
theorem aX:upd H a o a=some o:=by unfold upd;rw[if_pos rfl]
theorem cB (h:b≠a):upd H a o b=H b:=by unfold upd;rw[if_neg h]
theorem Vb {H:Hp}{a b:Addr}{o u:HO}(h:H a=some o)(h':H b=some u)(d:o≠u):a≠b:=by
 intro e;subst e;rw[h] at h';exact d<|b9 h'
theorem lH {H:Hp}{a b:Addr}{o:HO}(h:H a=some o)(h':H b=none):a≠b:=by
 intro e;subst e;rw[h] at h';cases h'
mutual
inductive Ab (T:Addr->List V->Prop)(H:Hp):Nat->V->Kt->Prop where
 |k {n:Nat} {x:Key}:Ab T H n (kV x) (.k x)
 |t {n:Nat} {b:Addr} {vs:List V} {ks:List Kt}:(H b=some (.tup vs)\/T b vs)->sS T H n vs ks->Ab T H (n+1) (.ref b) (.t ks)
inductive sS (T:Addr->List V->Prop)(H:Hp):Nat->List V->List Kt->Prop where
 |nil {n:Nat}:sS T H n [] []
 |cons {n:Nat} {v:V} {vs:List V} {k:Kt} {ks:List Kt}:Ab T H n v k->sS T H n vs ks->sS T H n (v::vs) (k::ks)
end
def TrT (T:Addr->List V->Prop)(H:Hp)(b:Addr)(ks:List Kt):Prop:=∃a,(H b=some (.tup a)\/T b a)/\sS T H 7 a ks
section
mutual
theorem Ab.imp (o:∀b xs,H b=some (.tup xs)->H' b=some (.tup xs)):∀{n:Nat} {v:V} {k:Kt},Ab T H n v k->Ab T H' n v k
 |_,_,_,.k=>.k
 |_,_,_,.t h hs=>.t (h.imp (o _ _) id)<|sS.imp o hs
theorem sS.imp (C:∀b xs,H b=some (.tup xs)->H' b=some (.tup xs)):∀{n:Nat} {o:List V} {ks:List Kt},sS T H n o ks->sS T H' n o ks
 |_,_,_,.nil=>.nil
 |_,_,_,.cons h hs=>.cons (Ab.imp C h)<|sS.imp C hs
end
theorem TrT.imp (h:TrT T H b ks)(o:∀b xs,H b=some (.tup xs)->H' b=some (.tup xs)):TrT T H' b ks:=
 let⟨vs,h1,h2⟩:=h;⟨vs,h1.imp (o _ _) id,h2.imp o⟩
end
section
variable (P:bE)(w:eI)
def Bp (h:Heap)(a:Addr)(C:Array ax):Prop:=∃o,h.get? a=some o/\o.cls=.type "tuple"/\∃n,o.data=.seq C n/\o.dict=none
theorem Bp.tup {h:Heap}{a:Addr}{C:Array ax}(x:Bp h a C):IsTup h a C:=let⟨o,e,c,n,d,_⟩:=x;⟨o,e,c,n,d⟩
theorem Bp.new (h:Heap)(o:Array ax):Bp (h.push { cls:=.type "tuple",data:=.seq o }) h.objs.size o:=⟨_,bg _ rfl,rfl,_,rfl,rfl⟩
def gO (H:Hp)(h:Heap)(a:Addr):HO->Prop
 | .lst b=>b.length<=ai/\∃(d:List ax) (n:Nat),Vals b d/\h.get? a=some { cls:=.type "list",data:=.seq d.toArray n }
 | .tup b=>b.length<=ai/\∃d:List ax,Vals b d/\Bp h a d.toArray
 | .dK ι=>ι.length<=ai/\(a==eW)=false/\∃i,KV ι i/\h.DictOf (eF P w) a i
 | .odd n=>n<=ai/\(a==eW)=false/\∃o e g,h.get? a=some o/\o.ExactDict/\o.data=.dict e g/\e.size=n
 | .dT T ι=>ι.length<=ai/\(a==eW)=false/\∃b:List (List Kt×Addr×ax),
   kL (λ(p:List Kt×V) (q:List Kt×Addr×ax)=>p.1=q.1/\TrT T H q.2.1 p.1/\RelV p.2 q.2.2) ι b/\
   ∃o e g,h.get? a=some o/\o.ExactDict/\o.data=.dict e g/\e.toList=b.map (entryOfKey<|iQ P w)/\(b.map (·.1)).Nodup
 | .set S n=>h.SetOf (intKind P w) a S n
 | .ins C dx fs=>H dx=some (.own a)/\fs.length<=1000/\dx≠a/\h.get? a=some (W.instObj C dx)/\
   ∃c,h.Ns1 dx c/\(∀f,z9 (fs.lookup f)<|c f)/\PySem.Within c (fs.map (·.1))
 | .own _=>∃o,h.get? a=some o
 | .xd fs=>∃c,h.Ns1 a c/\∀f,z9 (fs.lookup f)<|c f
 | .rng lo hi=>∃t u v,h.get? a=some { cls:=.type "range",data:=.fields #[.int lo t,.int hi u,.int 1 v] }
 | .frz o u=>h.get? a=some o/\gO H h a u
 | .tbl ps=>h.get? a=some { cls:=.none,data:=.fields ps }
 | .met f x=>h.get? a=some (W.methodObj (.ref f)<|.ref x)
 | .ext φ=>φ h/\(∃o,h.get? a=some o)/\∀k j:Heap,φ k->(∀o,k.get? a=some o->j.get? a=some o)->φ j
def HOk (H:Hp)(h:Heap):Prop:=∀a o,H a=some o->gO P w H h a o
end
section
variable {P:bE}{w:eI}{H H':Hp}{h h':Heap}{a:Addr}{o:HO}
theorem gO.lt (x:gO P w H h a o):a<h.objs.size:=by
 cases o with
 |lst xs=>obtain⟨_,_,_,_,e⟩:=x;exact aE e
 |tup xs=>obtain⟨_,_,_,p⟩:=x;exact p.tup.lt
 |dK ι=>obtain⟨_,_,_,_,o,_,_,e,_⟩:=x;exact aE e
 |dT T ι=>obtain⟨_,_,_,_,o,_,_,e,_⟩:=x;exact aE e
 |odd n=>obtain⟨_,_,o,_,_,e,_⟩:=x;exact aE e
 |set S n=>obtain⟨o,_,_,_,e,_⟩:=x;exact aE e
 |ins C dx fs=>obtain⟨_,_,_,e,_⟩:=x;exact aE e
 |own y=>obtain⟨_,e⟩:=x;exact aE e
 |xd fs=>obtain⟨_,⟨_,_,_,e,_⟩,_⟩:=x;exact aE e
 |rng lo hi=>obtain⟨_,_,_,e⟩:=x;exact aE e
 |frz ob u=>obtain⟨e,_⟩:=x;exact aE e
 |tbl ps=>exact aE (x)
 |met f y=>exact aE (x)
 |ext φ=>obtain⟨_,⟨_,e⟩,_⟩:=x;exact aE e
theorem kL.aem:∀{C:List α} {I:List β},kL F C I->(∀a b,F a b->G a b)->kL G C I
 |_,_,.nil,_=>.nil
 |_,_,.cons r t,f=>.cons (f _ _ r)<|kL.aem t f
theorem gO.stay (x:gO P w H h a o)(k:∀b u,(b=a\/H b=some (.own a))->h.get? b=some u->h'.get? b=some u)
  (J:∀b,H b=some (.own a)->H' b=some (.own a)) (I:∀b xs,H b=some (.tup xs)->H' b=some (.tup xs)):gO P w H' h' a o:=by
 induction o with
 |lst xs=>obtain⟨z,m,n,r,e⟩:=x;exact⟨z,m,n,r,k _ _ (.inl rfl) e⟩
 |tup xs=>obtain⟨z,m,r,g,e,c⟩:=x;exact⟨z,m,r,g,k _ _ (.inl rfl) e,c⟩
 |dK ι=>obtain⟨z,y,B,r,g,j,i,e,c⟩:=x;exact⟨z,y,B,r,g,j,i,k _ _ (.inl rfl) e,c⟩
 |odd n=>obtain⟨z,y,g,j,i,e,c⟩:=x;exact⟨z,y,g,j,i,k _ _ (.inl rfl) e,c⟩
 |dT T ι=>
  obtain⟨z,y,xs,r,g,j,i,e,c⟩:=x;exact⟨z,y,xs,kL.aem r λp q z=>⟨z.1,z.2.1.imp I,z.2.2⟩,g,j,i,k _ _ (.inl rfl) e,c⟩
 |set S n=>obtain⟨g,j,i,t,e,c⟩:=x;exact⟨g,j,i,t,k _ _ (.inl rfl) e,c⟩
 |ins C dx fs=>
  obtain⟨d,z,D,e,l,⟨s,j,i,E,c⟩,r⟩:=x;exact⟨J _ d,z,D,k _ _ (.inl rfl) e,l,⟨s,j,i,k _ _ (.inr d) E,c⟩,r⟩
 |own y=>obtain⟨g,e⟩:=x;exact⟨g,k _ _ (.inl rfl) e⟩
 |xd fs=>obtain⟨l,⟨s,j,i,e,c⟩,r⟩:=x;exact⟨l,⟨s,j,i,k _ _ (.inl rfl) e,c⟩,r⟩
 |rng lo hi=>obtain⟨t,u,v,e⟩:=x;exact⟨t,u,v,k _ _ (.inl rfl) e⟩
 |frz g u ih=>obtain⟨e,q⟩:=x;exact⟨k _ _ (.inl rfl) e,ih q⟩
 |tbl ps=>
  have e:=x;show h'.get? a=some { cls:=.none,data:=.fields ps };exact k a _ (.inl rfl) e
 |met f y=>
  have e:=x;show h'.get? a=some (W.methodObj (.ref f)<|.ref y);exact k a _ (.inl rfl) e
 |ext φ=>obtain⟨p,⟨o,e⟩,A⟩:=x;exact⟨A _ _ p λo q=>k _ _ (.inl rfl) q,⟨o,k _ _ (.inl rfl) e⟩,A⟩
theorem HOk.lt (x:HOk P w H h)(e:H a=some o):a<h.objs.size:=(x a o e).lt
theorem HOk.fresh (x:HOk P w H h)(e:h.objs.size<=a):H a=none:=by
 cases q:H a with
 |none=>rfl
 |some u=>exact absurd (br (x.lt q) e) (hU _)
theorem HOk.kept (x:HOk P w H h)(k:∀b u,h.get? b=some u->h'.get? b=some u):HOk P w H h':=λa o e=>
 (x a o e).stay (λb u _ q=>k b u q) (λ_ q=>q) λ_ _ q=>q
theorem HOk.laid (x:HOk P w H h)(k:∀b u,h.get? b=some u->h'.get? b=some u)(C:h.objs.size<=a)(new:gO P w (upd H a o) h' a o):HOk P w (upd H a o) h':=λb u e=>by
 have f:=x.fresh C;by_cases d:b=a
 ·subst d;rw[aX] at e;cases e;exact new
 ·rw[cB d] at e;exact(x b u e).stay (λc v _ q=>k c v q) (λc q=>by rw[cB<|lH q f];exact q) λc g q=>by rw[cB<|lH q f];exact q
end
def Rd (H:Hp)(a:Addr)(u:HO):Prop:=H a=some u\/∃o,H a=some (.frz o u)
theorem Rd.ok (r:Rd H a u)(x:HOk P w H h):gO P w H h a u:=by
 rcases r with r|⟨o,r⟩
 ·exact x a u r
 ·obtain⟨_,q⟩:=x a _ r;exact q
def Mut:Option HO->Prop
 |some (.lst _)=>True
 |some (.dK _)=>True
 |some (.dT _ _)=>True
 |some (.odd _)=>True
 |some (.set _ _)=>True
 |some (.ins _ _ _)=>True
 |some (.ext _)=>True
 |_=>False
section
theorem HOk.write (ok:HOk P w H h)(o:Mut (H x))(I:e=x\/H e=some (.own x))(k:∀b u,b≠e->h.get? b=some u->h'.get? b=some u)(C:∃u,h'.get? e=some u)
  (new:gO P w (upd H x o') h' x o'):HOk P w (upd H x o') h':=λb u q=>by
 have d:∀c y,H c=some (.own y)->c≠x:=λc y r z=>by subst z;rw[r] at o;exact o
 have f:∀c i,H c=some (.tup i)->c≠x:=λc i r z=>by subst z;rw[r] at o;exact o
 by_cases g:b=x
 ·subst g;rw[aX] at q;cases q;exact new
 ·rw[cB g] at q;by_cases a:b=e
  ·have l:H b=some (.own x):=by
    rcases I with z|z
    ·exact absurd (a.trans z) g
    ·rw[a];exact z
   rw[q] at l;cases l;obtain⟨v,m⟩:=C;exact⟨v,by rw[a];exact m⟩
  ·refine(ok b u q).stay (λc v j r=>k c v ?_ r) (λc r=>by rw[cB<|d c b r];exact r) λc i r=>by rw[cB<|f c i r];exact r
   rcases j with rfl|j
   ·exact a
   ·rintro rfl;rcases I with z|z
    ·exact d c b j z
    ·rw[j] at z;cases z;exact g rfl
end
structure Un (fs ex:List Addr)(H H':Hp)(h h':Heap):Prop where
 keep:∀b o,h.get? b=some o->H b=none->b∉fs->b∉ex->h'.get? b=some o
 slot:∀b o,h.get? b=some o->H b=none->b∈fs->b∉ex->∃sl,h'.get? b=some { o with slots:=sl }
 free:∀b o,h.get? b=some o->H b=none->b∉ex->H' b=none
 there:∀b o,h.get? b=some o->b∉ex->∃o',h'.get? b=some o'
 tups:∀b xs,H b=some (.tup xs)->H' b=some (.tup xs)
 frzs:∀b o u,H b=some (.frz o u)->H' b=some (.frz o u)
 tbls:∀b ps,H b=some (.tbl ps)->∃more,H' b=some (.tbl (ps++more))
section
variable {fs fs' ex ex':List Addr}{H H1 H2:Hp}{h h1 h2 h':Heap}{a x e:Addr}{o:HO}
theorem Un.any (u:Un fs ex H H1 h h1){b:Addr}{ob:Obj}(q:h.get? b=some ob)(n:H b=none)(C:b∉ex):∃I,h1.get? b=some { ob with slots:=I }:=by
 by_cases a:b∈fs
 ·exact u.slot b ob q n a C
 ·exact⟨ob.slots,u.keep b ob q n a C⟩
theorem Un.kept (k:∀b u,h.get? b=some u->h'.get? b=some u):Un fs ex H H h h':=
 ⟨λb a q _ _ _=>k b a q,λb a q _ _ _=>⟨a.slots,k b a q⟩,λ_ _ _ n _=>n,λb a q _=>⟨a,k b a q⟩,λ_ _ q=>q,λ_ _ _ q=>q,λ_ c q=>⟨#[],by rw[q];simp⟩⟩
theorem Un.refl:Un fs ex H H h h:=Un.kept λ_ _ q=>q
theorem Un.laid (k:∀b u,h.get? b=some u->h'.get? b=some u)(I:h.objs.size<=a)(C:H a=none):Un fs ex H (upd H a o) h h' where
 keep:=λb u q _ _ _=>k b u q
 slot:=λb u q _ _ _=>⟨u.slots,k b u q⟩
 free:=λb u q n _=>by rw[cB<|cw<|br (aE q) I];exact n
 there:=λb u q _=>⟨u,k b u q⟩
 tups:=λb c q=>by rw[cB<|lH q C];exact q
 frzs:=λb u c q=>by rw[cB<|lH q C];exact q
 tbls:=λb d q=>⟨#[],by rw[cB<|lH q C,q];simp⟩
theorem Un.write (C:Mut (H x))(J:e=x\/H e=some (.own x))(k:∀b u,b≠e->h.get? b=some u->h'.get? b=some u)(I:∃u,h'.get? e=some u):Un fs ex H (upd H x o) h h':=by
 have f:∀b,H b=none->b≠x:=λb n z=>by subst z;rw[n] at C;exact C
 have d:∀b,H b=none->b≠e:=λb n z=>by
  subst z;rcases J with r|r
  ·exact f b n r
  ·rw[n] at r;cases r
 have c:∀b u,H b=some u->¬Mut (some u)->b≠x:=λb u q i z=>by subst z;rw[q] at C;exact i C
 refine⟨λb u q n _ _=>k b u (d b n) q,λb u q n _ _=>⟨u.slots,k b u (d b n) q⟩,λb u q n _=>by rw[cB<|f b n];exact n,λb u q _=>?_,
  λb g q=>by rw[cB<|c b _ q λz=>z];exact q,λb u g q=>by rw[cB<|c b _ q λz=>z];exact q,λb j q=>⟨#[],by rw[cB<|c b _ q λz=>z,q];simp⟩⟩
 by_cases a:b=e
 ·subst a;exact I
 ·exact⟨u,k b u a q⟩
end
noncomputable def trk (h:Heap)(H:Hp):List Addr:=(cq h.objs.size).filter λa=>(H a).isSome
def Hu (h:Heap)(H:Hp):Heap:=W.hideAll h<|trk h H
theorem UL (h:Heap)(H:Hp):(Hu h H).objs.size=h.objs.size:=W.hideAll_size _ _
theorem Vf (e:h.get? b=some o)(n:H b=none):(Hu h H).get? b=some o:=
 xb _ e λa=>by
  have q:=(hG.mp a).2;rw[n] at q;simp at q
theorem aaP (e:(Hu h H).get? b=some o):h.get? b=some o/\H b=none:=by
 have a:=BD (trk h H) e;refine⟨a,?_⟩;cases q:H b with
 |none=>rfl
 |some x=>
  have c:b∈trk h H:=hG.mpr ⟨l5.mpr<|aE a,by simp[q]⟩;have z:(Hu h H).get? b=none:=W.hideAll_none (trk h H) c;rw[z] at e;cases e
structure Mod (K:bo)(mg:Zp)(base:Heap):Prop where
 kin:K.In base
 glob:base.Ns dA mg
 blt:∃mb,base.Ns builtinsNs mb/\∀x:Str,x≠"__name__"->mb x=bP x
 nolimit:base.NoLimit
structure Cx where
 prog:bE
 w:eI
 K:bo
 mg:Zp
 base:Heap
 A:fm
 N:List Str
 s₀:aI
 H₀:Hp
 env:Env
 outer:List Env
 stack:List Env
 ex:List Addr
 fn:Str->Bool
 calm:Bool
 pn:Zl
 xe:Zs
noncomputable def frs (l:List Env):List Addr:=l.filterMap (·.frame)
abbrev Cx.fs (X:Cx):List Addr:=frs X.outer
def Vis (o:x8)(x:Str):Prop:=o.names.lookup x=some .local\/o.names.lookup x=some .cell\/o.names.lookup x=some .free
def Loc (o:x8)(x:Str):Prop:=o.names.lookup x=some .local\/o.names.lookup x=some .cell
def Look (env:Env)(h:Heap)(m:Zp)(x:Str)(u:ax):Prop:=
 (env.kindOf x=some .local/\m x=some u)\/((env.kindOf x=some .cell\/env.kindOf x=some .free)/\∃c,env.cells.lookup x=some c/\h.IsCell c (some u))
structure Cx.Ok (X:Cx):Prop where
 mod:Mod X.K X.mg X.base
 kind:X.env.scope.kind=.function
 glob:X.env.globals=dA
 blt:X.env.builtins=builtinsNs
 above:X.s₀.heap.objs.size<=X.env.locals
 inj:∀x y c,X.env.cells.lookup x=some c->X.env.cells.lookup y=some c->x=y
 has:∀x,(X.env.kindOf x=some .cell\/X.env.kindOf x=some .free)->∃c,X.env.cells.lookup x=some c
 cab:∀x c,X.fn x=true->X.env.cells.lookup x=some c->X.s₀.heap.objs.size<=c
 hd:X.calm=true->X.A.handled=none
 frames:X.A.frames=some X.stack
 stk:X.stack=X.outer\/(X.stack=X.env::X.outer/\X.env.frame=some X.env.locals)
 exf:∀b∈X.ex,b≠X.env.locals/\∀x c,X.env.cells.lookup x=some c->c≠b
 bs:∀b o,X.base.get? b=some o->X.s₀.heap.get? b=some o/\X.H₀ b=none
 bsz:X.base.objs.size<=X.s₀.heap.objs.size
 noex:∀b o,X.base.get? b=some o->b∉X.ex
 exfs:∀b∈X.ex,b∉X.fs
 vI:X.s₀.heap.FunFrames X.base X.outer
 frf:∀b∈X.fs,X.H₀ b=none
structure Inv (X:Cx)(π:Zl)(σ:List (Option V))(H:Hp)(s:aI):Prop where
 ok:X.Ok
 os:s.os=X.s₀.os
 bare:xc s.gens
 base:Un X.fs X.ex X.H₀ H X.s₀.heap s.heap
 loc:∃m,s.heap.Ns X.env.locals m/\∀(i:Nat) (x:Str) (v:V),X.N[i]? = some x->σ[i]? = some (some v)->Vis X.env.scope x->∃u,RelV v u/\Look X.env s.heap m x u
 cell:∀x c,X.env.cells.lookup x=some c->∃v,s.heap.IsCell c v
 free:H X.env.locals=none
 freeC:∀x c,X.env.cells.lookup x=some c->H c=none
 pin:∀p∈X.pn++π,s.heap.get? p.1=some p.2/\H p.1=none/\p.1≠X.env.locals/\p.1∉X.fs/\∀v,p.2.data≠.cell v
 hok:HOk X.prog X.w H s.heap
 len:σ.length=X.N.length
section
variable {X:Cx}{π:Zl}{σ:List (Option V)}{H H':Hp}{s:aI}{h':Heap}
theorem Cx.Ok.ag9 (ok:X.Ok){b:Addr}{o:Obj}(e:X.base.get? b=some o):b∉X.fs:=λa=>by
 have:=(ok.vI.mem a).1
 rw[e] at this;cases this
theorem Inv.bs (I:Inv X π σ H s):∀b o,X.base.get? b=some o->s.heap.get? b=some o/\H b=none:=λb o e=>
 ⟨I.base.keep b o (I.ok.bs b o e).1 (I.ok.bs b o e).2 (I.ok.ag9 e)<|I.ok.noex b o e,I.base.free b o (I.ok.bs b o e).1 (I.ok.bs b o e).2<|I.ok.noex b o e⟩
theorem Inv.bk (I:Inv X π σ H s):∀b o,X.base.get? b=some o->s.heap.get? b=some o:=λb o e=>(I.bs b o e).1
theorem Inv.mod (I:Inv X π σ H s):Mod X.K X.mg X.base:=I.ok.mod
theorem Inv.kIn (I:Inv X π σ H s):X.K.In s.heap:=I.ok.mod.kin.keeps I.bk
theorem Inv.lt (I:Inv X π σ H s):X.env.locals<s.heap.objs.size:=let⟨_,hn,_⟩:=I.loc;hn.lt
theorem Inv.sz (I:Inv X π σ H s):X.s₀.heap.objs.size<=s.heap.objs.size:=hV I.ok.above<|BE I.lt
theorem Inv.agH (I:Inv X π σ H s){a:Addr}(h:s.heap.objs.size<=a):a∉X.fs:=λc=>by
 obtain⟨_,o,b,_⟩:=I.ok.vI.mem c;exact absurd (br (aE b)<|hV I.sz h)<|hU _
theorem Inv.cne (I:Inv X π σ H s):∀x c,X.env.cells.lookup x=some c->c≠X.env.locals:=λx c e z=>by
 obtain⟨v,o,d,hd⟩:=I.cell x c e;obtain⟨m,⟨g,h,f,a,b,_⟩,_⟩:=I.loc;rw[z,a] at d;cases d;rw[b] at hd;cases hd
theorem Inv.vI (I:Inv X π σ H s):s.heap.FunFrames X.base X.outer:=by
 have all:∀(l:List Env),(∀b∈frs l,b∈X.fs)->X.s₀.heap.FunFrames X.base l->s.heap.FunFrames X.base l:=by
  intro l;induction l with
  |nil=>intro _ _;trivial
  |cons env r ih=>
   intro f g;obtain⟨i,⟨L,o,c,k,j,hd⟩,h⟩:=g;have d:=f L (by unfold frs;rw[nV,c];exact av);obtain⟨m,e⟩:=I.base.slot L o j (I.ok.frf L d) d λz=>I.ok.exfs L z d;exact⟨i,⟨L,_,c,k,e,hd⟩,ih (λb a=>f b (by unfold frs;rw[nV,c];exact ah _ a)) h⟩
 exact all X.outer (λ_ a=>a) I.ok.vI
theorem Inv.stack (I:Inv X π σ H s):s.heap.FunFrames X.base X.stack:=by
 rcases I.ok.stk with e|⟨e,b⟩
 ·rw[e];exact I.vI
 ·rw[e];obtain⟨m,a,_⟩:=I.loc;refine .cons (by rw[I.ok.kind];decide) b a ?_ I.vI;exact Heap.get?_none_of_le<|hV I.ok.bsz I.ok.above
theorem Inv.Ip (I:Inv X π σ H s):∀b∈frs X.stack,b∈X.env.locals::X.fs:=λb a=>by
 rcases I.ok.stk with e|⟨e,c⟩
 ·rw[e] at a;exact ah _ a
 ·rw[e] at a;unfold frs at a;rw[nV,c] at a;exact a
theorem Inv.Im (I:Inv X π σ H s):∀b∈frs X.stack,H b=none:=λb a=>by
 rcases a9.mp (I.Ip b a) with e|a
 ·rw[e];exact I.free
 ·obtain⟨_,o,c,_⟩:=I.ok.vI.mem a;exact I.base.free b o c (I.ok.frf b a) λz=>I.ok.exfs b z a
theorem Inv.step {g':Array qc}{t':Nat}{d':Drawn}{ch:List Addr}(I:Inv X π σ H s)
  (C:∀b∈ch,(b∈X.ex\/X.s₀.heap.objs.size<=b)/\b≠X.env.locals/\(∀x c,X.env.cells.lookup x=some c->c≠b)/\∀p∈X.pn++π,p.1≠b)
  (J:∀b o,b≠X.env.locals->b∉X.fs->b∉ch->s.heap.get? b=some o->H b=none->h'.get? b=some o)
  (U:∀b o,b≠X.env.locals->b∈X.fs->b∉ch->s.heap.get? b=some o->H b=none->∃sl,h'.get? b=some { o with slots:=sl }) (free:∀b o,b∉ch->s.heap.get? b=some o->H b=none->H' b=none)
  (there:∀b o,b∉ch->s.heap.get? b=some o->∃o',h'.get? b=some o')
  (tups:∀b xs,H b=some (.tup xs)->H' b=some (.tup xs)) (frzs:∀b o u,H b=some (.frz o u)->H' b=some (.frz o u)) (tbls:∀b ps,H b=some (.tbl ps)->∃more,H' b=some (.tbl<|ps++more))
  (ns:∀m,s.heap.Ns X.env.locals m->h'.Ns X.env.locals m) (hok:HOk X.prog X.w H' h') (hg:xc g'):
  Inv X π σ H' { s with heap:=h',gens:=g',drawn:=d',toks:=t' }:=by
 have B:∀b o,X.s₀.heap.get? b=some o->b≠X.env.locals:=λb o e=>cw<|br (aE e) I.ok.above;have j:∀b o,X.s₀.heap.get? b=some o->b∉X.ex->b∉ch:=λb o e a t=>by
  rcases(C b t).1 with z|z
  ·exact a z
  ·exact absurd (br (aE e) z)<|hU _
 have f:∀x c,X.env.cells.lookup x=some c->∀v,s.heap.IsCell c v->h'.IsCell c v:=λx c e v ⟨o,y,hd⟩=>by
  have g:c∉ch:=λz=>(C c z).2.2.1 x c e rfl;by_cases G:c∈X.fs
  ·obtain⟨sl,q⟩:=U c o (I.cne x c e) G g y<|I.freeC x c e;exact⟨_,q,hd⟩
  ·exact⟨o,J c o (I.cne x c e) G g y<|I.freeC x c e,hd⟩
 refine⟨I.ok,I.os,hg,⟨λb o e n t a=>?_,λb o e n t a=>?_,λb o e n a=>?_,λb o e a=>?_,λb xs e=>tups b xs<|I.base.tups b xs e,λb o xs e=>frzs b o xs<|I.base.frzs b o xs e,λb ps e=>?_⟩,?_,λx c e=>?_,?_,λx c e=>?_,λp F=>?_,hok,I.len⟩
 ·exact J b o (B b o e) t (j b o e a) (I.base.keep b o e n t a)<|I.base.free b o e n a
 ·obtain⟨sl,h⟩:=I.base.slot b o e n t a;obtain⟨D,A⟩:=U b _ (B b o e) t (j b o e a) h<|I.base.free b o e n a;exact⟨D,A⟩
 ·obtain⟨o',h⟩:=I.base.there b o e a;exact free b o' (j b o e a) h<|I.base.free b o e n a
 ·obtain⟨o',h⟩:=I.base.there b o e a;exact there b o' (j b o e a) h
 ·obtain⟨L,h⟩:=I.base.tbls b ps e;obtain⟨N,A⟩:=tbls b _ h;exact⟨L++N,by rw[A,AU]⟩
 ·obtain⟨m,O,M⟩:=I.loc;refine⟨m,ns m O,λi x v h A P=>?_⟩;obtain⟨u,r,l⟩:=M i x v h A P;refine⟨u,r,?_⟩;rcases l with l|⟨k,c,e,z⟩
  ·exact .inl l
  ·exact .inr ⟨k,c,e,f x c e _ z⟩
 ·obtain⟨v,z⟩:=I.cell x c e;exact⟨v,f x c e v z⟩
 ·obtain⟨m,⟨o,_,_,y,_⟩,_⟩:=I.loc;exact free _ o (λz=>(C _ z).2.1 rfl) y I.free
 ·obtain⟨v,o,y,hd⟩:=I.cell x c e;exact free c o (λz=>(C c z).2.2.1 x c e rfl) y<|I.freeC x c e
 ·refine GQ (I.pin p F) λe n K E d=>?_;have g:p.1∉ch:=λz=>(C p.1 z).2.2.2 p F rfl;exact⟨J p.1 p.2 K E g e n,free p.1 p.2 g e n,K,E,d⟩
theorem Inv.un {t':Nat}(I:Inv X π σ H s)(u:Un X.fs [] H H' s.heap h')(C:HOk X.prog X.w H' h'):Inv X π σ H' { s with heap:=h',toks:=t' }:=by
 obtain⟨m,⟨o,t,l,g,r⟩,_⟩:=id I.loc;obtain⟨q,i⟩:=u.any g I.free (by simp);exact I.step (g':=s.gens) (d':=s.drawn) (ch:=[]) (λ_ z=>nomatch z) (λb o _ c _ e n=>u.keep b o e n c<|by simp) (λb o _ c _ e n=>u.slot b o e n c<|by simp) (λb o _ e n=>u.free b o e n<|by simp) (λb o _ e=>u.there b o e<|by simp) u.tups u.frzs u.tbls (λk h=>by
  refine Rp h λp f d a j=>?_;rw[g] at a;cases a;exact⟨_,f,d,i,j⟩) C I.bare
theorem Inv.call {g':Array qc}{t':Nat}{d':Drawn}{ch:List Addr}(I:Inv X π σ H s)(u:Un (frs X.stack) ch H H' s.heap h')(J:HOk X.prog X.w H' h')(U:xc g')
  (C:∀b∈ch,(b∈X.ex\/X.s₀.heap.objs.size<=b)/\b≠X.env.locals/\(∀x c,X.env.cells.lookup x=some c->c≠b)/\∀p∈X.pn++π,p.1≠b):
  Inv X π σ H' { s with heap:=h',gens:=g',drawn:=d',toks:=t' }:=by
 obtain⟨m,⟨o,A,t,i,r⟩,_⟩:=id I.loc;obtain⟨y,f⟩:=u.any i I.free λz=>(C _ z).2.1 rfl;exact I.step C (λb o f j a e n=>u.keep b o e n (λz=>(a9.mp<|I.Ip b z).elim f j) a) (λb o _ _ a e n=>u.any e n a) (λb o a e n=>u.free b o e n a) (λb o a e=>u.there b o e a) u.tups u.frzs u.tbls (λq k=>by
  refine Rp k λv h g d l=>?_;rw[i] at d;cases d;exact⟨_,h,g,f,l⟩) J U
theorem Inv.turned {t':Nat}{it:Addr}(I:Inv X π σ H s)(k:∀b o,b≠it->s.heap.get? b=some o->h'.get? b=some o)(hn:H it=none)(C:it≠X.env.locals)
  (h1:it∈X.ex\/X.s₀.heap.objs.size<=it) (J:∀x c,X.env.cells.lookup x=some c->c≠it) (U:∀p∈X.pn++π,p.1≠it):Inv X π σ H { s with heap:=h',toks:=t' }:=by
 have d:∀b u,H b=some u->b≠it:=λb u e z=>by rw[z,hn] at e;cases e
 refine I.step (g':=s.gens) (d':=s.drawn) (ch:=[it]) (λb f=>?_) (λb o _ _ a e _=>k b o (λz=>a<|by simp[z]) e) (λb o _ _ a e _=>⟨o.slots,k b o (λz=>a<|by simp[z]) e⟩) (λ_ _ _ _ n=>n)
  (λb o a e=>⟨o,k b o (λz=>a<|by simp[z]) e⟩) (λ_ _ e=>e) (λ_ _ _ e=>e) (λb l e=>⟨#[],by rw[e];simp⟩) (λm g=>?_) (λb u e=>?_) I.bare
 ·have e:b=it:=by simpa using f
  subst e;exact⟨h1,C,J,U⟩
 ·refine Rp g λo j i h r=>?_;exact⟨o,j,i,k _ o (eC C) h,r⟩
 ·refine(I.hok b u e).stay (λc v a q=>k c v ?_ q) (λ_ q=>q) λ_ _ q=>q;rcases a with z|z
  ·rw[z];exact d b u e
  ·exact d c _ z
theorem Inv.tok (I:Inv X π σ H s)(t:Nat):Inv X π σ H { s with toks:=t }:=I.un Un.refl I.hok
theorem Inv.kept (I:Inv X π σ H s)(k:∀b u,s.heap.get? b=some u->h'.get? b=some u):Inv X π σ H { s with heap:=h',toks:=t' }:=I.un (Un.kept k)<|I.hok.kept k
theorem Inv.laid (I:Inv X π σ H s)(k:∀b u,s.heap.get? b=some u->h'.get? b=some u)(C:s.heap.objs.size<=a)(new:gO X.prog X.w (upd H a o) h' a o):
  Inv X π σ (upd H a o) { s with heap:=h',toks:=t' }:=I.un (Un.laid k C<|I.hok.fresh C)<|I.hok.laid k C new
theorem Inv.write (I:Inv X π σ H s)(U:Mut (H x))(J:e=x\/H e=some (.own x))(k:∀b u,b≠e->s.heap.get? b=some u->h'.get? b=some u)(C:∃u,h'.get? e=some u)
  (new:gO X.prog X.w (upd H x o) h' x o):Inv X π σ (upd H x o) { s with heap:=h',toks:=t' }:=I.un (Un.write U J k C)<|I.hok.write U J k C new
theorem Inv.weak (I:Inv X π σ H s)(o:σ'.length=σ.length)(w:∀(i:Nat) v,σ'[i]? = some (some v)->σ[i]? = some (some v)):Inv X π σ' H s:=
 ⟨I.ok,I.os,I.bare,I.base,let⟨m,hn,hl'⟩:=I.loc;⟨m,hn,λi x v a b c=>hl' i x v a (w i v b) c⟩,I.cell,I.free,I.freeC,I.pin,I.hok,o.trans I.len⟩
theorem Inv.Rm (I:Inv X π σ H s)(h:∀p∈pins',s.heap.get? p.1=some p.2/\H p.1=none/\p.1≠X.env.locals/\p.1∉X.fs/\∀v,p.2.data≠.cell v):Inv X pins' σ H s:=
 ⟨I.ok,I.os,I.bare,I.base,I.loc,I.cell,I.free,I.freeC,λp a=>(cE.mp a).elim (λz=>I.pin p<|z5 _ z)<|h p,I.hok,I.len⟩
theorem DN {N:List Str}(o:N.Nodup){i j:Nat}{x:Str}(a:N[i]? = some x)(b:N[j]? = some x):i=j:=by
 obtain⟨f,c⟩:=cb.mp a;obtain⟨e,d⟩:=cb.mp b;exact(List.getElem_inj o).mp (c.trans d.symm)
theorem Gb (I:Inv X π σ H s)(hN:X.N.Nodup)(J:X.N[i]? = some x)(C:Loc X.env.scope x)(r:RelV v u)
  (h:∀s',Inv X π (σ.set i<|some v) H s'->(∃a,iX a s.heap s'.heap/\(a=X.env.locals\/X.env.cells.lookup x=some a))->Q () s') (hf:X.fn x=true\/X.env.scope.names.lookup x=some .local:=by clean_wf):bt M A (storeName X.env x u) Q E s:=by
 obtain⟨m,hn,hl⟩:=id I.loc;have V:(X.env.scope.kind==.class||(X.env.scope.kind==.module&&X.env.locals != X.env.globals))=false:=by rw[I.ok.kind];rfl
 have F:i<σ.length:=by rw[I.len];exact(cb.mp J).1
 have cne:=I.cne;have g:∀{a:Addr} {h':Heap},(∃o,s.heap.get? a=some o/\H a=none)->iX a s.heap h'->HOk X.prog X.w H h':=λ{a h'} ha f b ob e=>by
  obtain⟨_,_,B⟩:=ha;refine(I.hok b ob e).stay (λc W t q=>(f.2 c ?_).trans q) (λ_ q=>q) λ_ _ q=>q;rintro rfl;rcases t with rfl|t
  ·rw[B] at e;cases e
  ·rw[B] at t;cases t
 rcases C with G|G
 ·refine wpAny_storeName_local G hn (λh' hn' f=>?_) V;refine Rp (id hn) λoL _ _ hoL _=>?_;refine h _ ⟨I.ok,I.os,I.bare,⟨λb o e n L C=>?_,λb o e n L C=>?_,I.base.free,λb o e C=>?_,I.base.tups,I.base.frzs,I.base.tbls⟩,⟨_,hn',λj y v' l D e3=>?_⟩,λy c e=>?_,I.free,I.freeC,λp hp=>?_,g ⟨oL,hoL,I.free⟩ f,by simpa using I.len⟩ ⟨_,f,.inl rfl⟩
  ·exact(f.2 b<|cw<|br (aE e) I.ok.above).trans (I.base.keep b o e n L C)
  ·obtain⟨sl,l⟩:=I.base.slot b o e n L C;exact⟨sl,(f.2 b<|cw<|br (aE e) I.ok.above).trans l⟩
  ·obtain⟨o',l⟩:=I.base.there b o e C;exact⟨o',(f.2 b<|cw<|br (aE e) I.ok.above).trans l⟩
  ·by_cases K:j=i
   ·subst K;rw[J] at l;cases l;rw[aT F] at D;cases D;exact⟨u,r,.inl ⟨G,by simp⟩⟩
   ·rw[a0<|eC K] at D;obtain⟨U,r',q⟩:=hl j y v' l D e3;refine⟨U,r',?_⟩;rcases q with⟨k,e⟩|⟨k,c,e,z⟩
    ·refine .inl ⟨k,?_⟩
     have:y≠x:=λe=>K<|DN hN l<|e▸J
     simp[this,e]
    ·exact .inr ⟨k,c,e,z.sameBut f<|cne y c e⟩
  ·obtain⟨W,z⟩:=I.cell y c e;exact⟨W,z.sameBut f<|cne y c e⟩
  ·refine GQ (I.pin p hp) λe n Z nf d=>?_;exact⟨(f.2 p.1 Z).trans e,n,Z,nf,d⟩
 ·have O:X.fn x=true:=by
   rcases hf with z|z
   ·exact z
   ·rw[z] at G;cases G
  obtain⟨c,t⟩:=I.ok.has x<|.inl G;obtain⟨W,z⟩:=I.cell x c t;refine wpAny_storeName_cell I.ok.kind G t z λh' S f=>?_;obtain⟨oc,R,P⟩:=id z;refine h { s with heap:=h' } ⟨I.ok,I.os,I.bare,⟨λb o e n L C=>?_,λb o e n L C=>?_,I.base.free,λb o e C=>?_,I.base.tups,I.base.frzs,I.base.tbls⟩,⟨m,hn.sameBut f<|eC<|cne x c t,λj y v' l D e3=>?_⟩,λy Y e=>?_,I.free,I.freeC,λp hp=>?_,g ⟨oc,R,I.freeC x c t⟩ f,by simpa using I.len⟩ ⟨c,f,.inr t⟩
  ·exact(f.2 b<|cw<|br (aE e)<|I.ok.cab x c O t).trans (I.base.keep b o e n L C)
  ·obtain⟨sl,l⟩:=I.base.slot b o e n L C;exact⟨sl,(f.2 b<|cw<|br (aE e)<|I.ok.cab x c O t).trans l⟩
  ·obtain⟨o',l⟩:=I.base.there b o e C;exact⟨o',(f.2 b<|cw<|br (aE e)<|I.ok.cab x c O t).trans l⟩
  ·by_cases K:j=i
   ·subst K;rw[J] at l;cases l;rw[aT F] at D;cases D;exact⟨u,r,.inr ⟨.inl G,c,t,S⟩⟩
   ·rw[a0<|eC K] at D;obtain⟨U,r',q⟩:=hl j y v' l D e3;refine⟨U,r',?_⟩;rcases q with q|⟨k,Y,e,z'⟩
    ·exact .inl q
    ·refine .inr ⟨k,Y,e,z'.sameBut f ?_⟩;rintro rfl;exact K<|DN hN l<|I.ok.inj _ _ _ e t▸J
  ·by_cases T:Y=c
   ·subst T;exact⟨_,S⟩
   ·obtain⟨w2,z2⟩:=I.cell y Y e;exact⟨w2,z2.sameBut f T⟩
  ·refine GQ (I.pin p hp) λe n Z nf d=>?_;refine⟨(f.2 p.1 ?_).trans e,n,Z,nf,d⟩;intro q;rw[q,R] at e;have q':=b9 e;exact d W (by rw[← q'];exact P)
theorem ud (I:Inv X π σ H s)(U:X.N.Nodup)(o:X.N[i]? = some x)(J:Loc X.env.scope x)(r:RelV v u)
  (h:∀s',Inv X π (σ.set i<|some v) H s'->Q () s') (C:X.fn x=true\/X.env.scope.names.lookup x=some .local:=by clean_wf):bt M A (storeName X.env x u) Q E s:=
 Gb I U o J r (λs' a _=>h s' a) C
theorem Inv.call' (I:Inv X π σ H s)(J:s'.os=s.os)(u:Un (frs X.stack) ch H H' s.heap s'.heap)(C:HOk X.prog X.w H' s'.heap)(U:xc s'.gens)
  (o:∀b∈ch,(b∈X.ex\/X.s₀.heap.objs.size<=b)/\b≠X.env.locals/\(∀x c,X.env.cells.lookup x=some c->c≠b)/\∀p∈X.pn++π,p.1≠b):Inv X π σ H' s':=by
 obtain⟨h',d,g,f,a⟩:=s';have e:=J;subst e;exact I.call u C U o
end
abbrev XK:=ax->Option Addr->Hp->Prop
abbrev St:=List<|Option V
abbrev VK:=V->Hp->Prop
abbrev TE:=St->Hp->VK->Prop
abbrev TT:=St->Hp->(Bool->Hp->Prop)->Prop
abbrev TA:=St->Hp->(List V->Hp->Prop)->Prop
structure Ends where
 nx:St->Hp->Prop
 rt:VK
 bk:St->Hp->Prop:=λ_ _=>False
 ct:St->Hp->Prop:=λ_ _=>False
abbrev TS:=Ends->St->Hp->Prop
def EP (X:Cx)(C:Zl)(o:St)(Q:VK)(u:ax)(s':aI):Prop:=∃v H',Inv X C o H' s'/\RelV v u/\Q v H'
def TP (X:Cx)(C:Zl)(o:St)(Q:Bool->Hp->Prop)(b:Bool)(s':aI):Prop:=∃H',Inv X C o H' s'/\Q b H'
def AP (X:Cx)(C:Zl)(o:St)(Q:List V->Hp->Prop)(us:List ax)(s':aI):Prop:=∃a H',Inv X C o H' s'/\Vals a us/\Q a H'
def SP (X:Cx)(o:Zl)(D:Ends)(f:Flow)(s':aI):Prop:=
 match f with
 | .next=>∃a H',Inv X o a H' s'/\D.nx a H'
 | .brk=>∃a H',Inv X o a H' s'/\D.bk a H'
 | .cont=>∃a H',Inv X o a H' s'/\D.ct a H'
 | .ret u=>∃v a H',Inv X o a H' s'/\RelV v u/\D.rt v H'
def PE (X:Cx)(e:Expr)(t:TE):Prop:=
 ∀(b:Zl) (s:aI) (a:St) (H:Hp) (Q:VK),Inv X b a H s->t a H Q->bt (cx X.prog X.w) X.A (eval e X.env) (EP X b a Q) X.xe s
def PT (X:Cx)(e:Expr)(t:TT):Prop:=
 ∀(b:Zl) (s:aI) (a:St) (H:Hp) (Q:Bool->Hp->Prop),Inv X b a H s->t a H Q->bt (cx X.prog X.w) X.A (isTrue e X.env<|eval e X.env) (TP X b a Q) X.xe s
def PW (X:Cx)(e:Expr)(t:TT):Prop:=
 ∀(a:Sem ax) (c:Zl) (s:aI) (b:St) (H:Hp) (Q:Bool->Hp->Prop),Inv X c b H s->t b H Q->bt (cx X.prog X.w) X.A (isTrue e X.env a) (TP X c b Q) X.xe s
theorem PW.pt (h:PW X e t):PT X e t:=h _
def PA (X:Cx)(es:List Expr)(t:TA):Prop:=
 ∀(a:Pos) (c:Zl) (s:aI) (b:St) (H:Hp) (Q:List V->Hp->Prop),Inv X c b H s->t b H Q->bt (cx X.prog X.w) X.A (spliced<|iE a<|ag es X.env) (AP X c b Q) X.xe s
def PS (X:Cx)(st:Stmt)(t:TS):Prop:=
 ∀(a:Zl) (s:aI) (b:St) (H:Hp) (D:Ends),Inv X a b H s->t D b H->bt (cx X.prog X.w) X.A (exec st X.env) (SP X a D) X.xe s
def PSs (X:Cx)(st:List Stmt)(t:TS):Prop:=
 ∀(a:Zl) (s:aI) (b:St) (H:Hp) (D:Ends),Inv X a b H s->t D b H->bt (cx X.prog X.w) X.A (execs st X.env) (SP X a D) X.xe s
theorem thn (h:bt M A t Q E s)(o:∀a s,Q a s->Q' a s):bt M A t Q' E s:=iA h o λ_ _ x=>x
section
variable {X:Cx}
def agb (i:Nat):TE:=λa H Q=>∃v,a[i]? = some (some v)/\Q v H
def tC (v:V):TE:=λ_ H Q=>Q v H
theorem iZ (J:X.N[i]? = some x)(C:Vis X.env.scope x)(hd:(x==("__debug__":Str))=false:=by decide)(o:(x==("__classdict__":Str))=false:=by decide):PE X (.Name x pos) (agb i):=by
 intro j s n H Q I h;obtain⟨v,e,h⟩:=h;obtain⟨m,k,g⟩:=I.loc;obtain⟨u,r,l⟩:=g i x v J e C;have fin:EP X j n Q u s:=⟨v,H,I,r,h⟩;rcases l with⟨b,f⟩|⟨b,c,d,a⟩
 ·exact wpAny_Name (wpAny_loadName_local I.ok.kind b k f fin) hd
 ·rcases b with b|b
  ·exact wpAny_Name (wpAny_loadName_cell I.ok.kind b d a fin) hd
  ·exact wpAny_Name (wpAny_loadName_free I.ok.kind b d a fin o) hd
theorem aef:PE X (.Constant (.int i) j pos) (tC<|.int i):=λ_ _ _ H _ I h=>wpAny_Constant_int ⟨.int i,H,I.tok _,⟨_,rfl⟩,h⟩
theorem afJ:PE X (.Constant (.bool b) j pos) (tC<|.bl b):=λ_ _ _ H _ I h=>Constant_bool ⟨.bl b,H,I,rfl,h⟩
theorem ad2:PE X (.Constant .none j pos) (tC .non):=λ_ _ _ H _ I h=>Constant_none ⟨.non,H,I,rfl,h⟩
theorem adw:PE X (.Constant (.str x) j pos) (tC<|.str x):=λ_ _ _ H _ I h=>Calls.Constant_str ⟨.str x,H,I.tok _,⟨_,rfl⟩,h⟩
def Gl (X:Cx)(x:Str):Prop:=X.env.kindOf x=some .globalImplicit
theorem wO (I:Inv X π σ H s)(C:Gl X x)(o:X.mg x=some u)(h:Q u s)
  (hd:(x==("__debug__":Str))=false:=by decide):bt (cx X.prog X.w) X.A (eval (.Name x pos) X.env) Q E s:=
 sQ I.ok.kind C (Calls.loadGlobal_global (by rw[I.ok.glob];exact I.mod.glob.keeps I.bk) o h) hd
theorem rF (I:Inv X π σ H s)(U:Gl X x)(C:X.mg x=none)(o:bP x=some u)(h:Q u s)
  (J:x≠"__name__":=by decide) (hd:(x==("__debug__":Str))=false:=by decide):bt (cx X.prog X.w) X.A (eval (.Name x pos) X.env) Q E s:=by
 obtain⟨mb,b,a⟩:=I.mod.blt;exact sQ I.ok.kind U (Calls.loadGlobal_builtin (by rw[I.ok.glob];exact I.mod.glob.keeps I.bk) C (by rw[I.ok.blt];exact b.keeps I.bk) ((a x J).trans o) h) hd
theorem Ie (C:Gl X x)(o:X.mg x=some u)(r:RelV v u)(hd:(x==("__debug__":Str))=false:=by decide):PE X (.Name x pos) (tC v):=
 λ_ _ _ H _ I h=>wO I C o ⟨v,H,I,r,h⟩ hd
theorem QC (U:Gl X x)(C:X.mg x=none)(o:bP x=some u)(r:RelV v u)(J:x≠"__name__":=by decide)(hd:(x==("__debug__":Str))=false:=by decide):PE X (.Name x pos) (tC v):=
 λ_ _ _ H _ I h=>rF I U C o ⟨v,H,I,r,h⟩ J hd
variable {a b:Expr}{ta tb:TE}{pos:Pos}
def PC (X:Cx)(o:CmpOp)(a b:Expr)(t:TE):Prop:=
 ∀(f:Zl) (s:aI) (e:St) (H:Hp) (Q:VK),Inv X f e H s->t e H Q->
  bt (cx X.prog X.w) X.A (eval a X.env) (λv d=>bt (cx X.prog X.w) X.A (eval b X.env) (λu c=>bt (cx X.prog X.w) X.A (eM o v u) (EP X f e Q) X.xe c) X.xe d) X.xe s
theorem afe (b:Expr){o:CmpOp}(h:o≠.In)(C:o≠.NotIn):lh o b=false:=by
 have a:(o==CmpOp.In)=false:=by cases o<;>first|rfl|exact absurd rfl h
 have c:(o==CmpOp.NotIn)=false:=by cases o<;>first|rfl|exact absurd rfl C
 cases b<;>simp[lh,a,c]
def tB (t:TE):TT:=λb H Q=>t b H λx a=>∃c,x=.bl c/\Q c a
theorem adp (h:PE X e t)(C:∀o,isTrue e X.env o=(do let v←o;standAt e.pos;tF [v] (truthy v)):=by intro _;rfl):PT X e (tB t):=by
 intro g s j H Q I b;refine isTrue_plain (thn (h g s j H _ I b) λv l f=>xq2 f λx i a k c=>?_)<|C _;obtain⟨d,rfl,q⟩:=c;cases k;exact mE ⟨i,a,q⟩
variable {tA tB':TT}{rest:List Expr}
def agR (t u:TT):TT:=λb H Q=>t b H λc a=>if c=true then u b a Q else Q false a
def tOr (t u:TT):TT:=λb H Q=>t b H λc a=>if c=true then Q true a else u b a Q
def ahb (t:TT):TT:=λb H Q=>t b H λc a=>Q (!c) a
theorem Zn (o:PT X a tA):PW X (.BoolOp .And [a] pos) tA:=by
 intro wh b s d H Q I h;refine isTrue_and<|thn (o b s d H Q I h) λc f e=>?_;cases c with
 |true=>exact isTrue_and_nil e
 |false=>exact e
theorem ac0 (o:PT X a tA):PW X (.BoolOp .Or [a] pos) tA:=by
 intro wh b s d H Q I h;refine isTrue_or<|thn (o b s d H Q I h) λc f e=>?_;cases c with
 |false=>exact isTrue_or_nil e
 |true=>exact e
theorem aed (o:PT X a tA)(C:PW X (.BoolOp .And (b::rest) pos) tB'):PW X (.BoolOp .And (a::b::rest) pos) (agR tA tB'):=by
 intro wh e s i H Q I h;refine isTrue_and<|thn (o e s i H _ I h) λc j ⟨f,g,d⟩=>?_;cases c with
 |true=>exact C wh e j i f Q g d
 |false=>exact⟨f,g,d⟩
theorem afE (o:PT X a tA)(C:PW X (.BoolOp .Or (b::rest) pos) tB'):PW X (.BoolOp .Or (a::b::rest) pos) (tOr tA tB'):=by
 intro wh e s i H Q I h;refine isTrue_or<|thn (o e s i H _ I h) λc j ⟨f,g,d⟩=>?_;cases c with
 |true=>exact⟨f,g,d⟩
 |false=>exact C wh e j i f Q g d
theorem adt (o:PT X a tA):PT X (.UnaryOp .Not a pos) (ahb tA):=by
 intro b s e H Q I h;exact isTrue_not<|o b s e H (λc d=>Q (!c) d) I h
def afc (ta tb:TE):TE:=λb H Q=>ta b H λx a=>∃c,x=.bl c/\if c=true then tb b a Q else Q (.bl false) a
def aet (ta:TE):TE:=λb H Q=>ta b H λx a=>∃c,x=.bl c/\Q (.bl<|!c) a
theorem adE (h:PE X a t):PE X (.BoolOp op [a] pos) t:=λb s c H Q I d=>BoolOp_one<|h b s c H Q I d
theorem acL (C:PE X a ta)(o:PE X (.BoolOp .And (b::rest) pos) tb):PE X (.BoolOp .And (a::b::rest) pos) (afc ta tb):=by
 intro f s i H Q I h;refine BoolOp_and<|thn (C f s i H _ I h) λv k j=>xq2 j λx g e l d=>?_;obtain⟨c,rfl,d⟩:=d;cases l;refine mE ?_;cases c with
 |true=>exact o f k i g Q e d
 |false=>exact⟨.bl false,g,e,rfl,d⟩
theorem ad0 (o:PE X a ta):PE X (.UnaryOp .Not a pos) (aet ta):=by
 intro e s i H Q I h;refine UnaryOp_<|thn (o e s i H _ I h) λv k d=>xq2 d λx f g j b=>?_;obtain⟨c,rfl,b⟩:=b;cases j;exact not_of<|mE ⟨.bl<|!c,f,g,rfl,b⟩
end
def SqL (K:bo)(H:Hp)(a:Addr)(xs:List V):Prop:=
 Rd H a (.lst xs) ∨
  ∃(o:Obj) (b:Array ax) (n:Nat),K.lookup a=some o/\o.cls=.type "list"/\o.dict=none/\o.data=.seq b n/\b.size<=ai/\Vals xs b.toList
def SqT (K:bo)(H:Hp)(a:Addr)(xs:List V):Prop:=
 Rd H a (.tup xs) ∨
  ∃(o:Obj) (b:Array ax) (n:Nat),K.lookup a=some o/\o.cls=.type "tuple"/\(o.data=.seq b n/\o.dict=none)/\b.size<=ai/\Vals xs b.toList
abbrev KTp (K:bo)(a:Addr)(xs:List V):Prop:=
  ∃(o:Obj) (b:Array ax) (n:Nat),K.lookup a=some o/\o.cls=.type "tuple"/\(o.data=.seq b n/\o.dict=none)/\b.size<=ai/\Vals xs b.toList
def SqU (K:bo)(H:Hp)(a:Addr)(xs:List V):Prop:=H a=some (.tup xs)\/KTp K a xs
theorem SqU.sq {K:bo}{H:Hp}{a:Addr}{xs:List V}(h:SqU K H a xs):SqT K H a xs:=h.elim (λe=>.inl<|.inl e) .inr
theorem SqU.of {K:bo}{H:Hp}{a:Addr}{xs:List V}(h:H a=some (.tup xs)):SqU K H a xs:=.inl h
noncomputable def agt:ax->Option V
 | .none=>some .non
 | .bool b=>some<|.bl b
 | .int i _=>some<|.int i
 | .str x _=>some<|.str x
 | .bytes b _=>some<|.byt b
 | .float b _=>some<|.flt b
 | .ref a=>some<|.ref a
 | .type n=>some<|.ty n
 |_=>none
theorem RelV.abs (r:RelV x u):agt u=some x:=by
 cases x with
 |non=>cases r;rfl
 |bl _=>cases r;rfl
 |int _=>obtain⟨t,rfl⟩:=r;rfl
 |str _=>obtain⟨t,rfl⟩:=r;rfl
 |byt _=>obtain⟨t,rfl⟩:=r;rfl
 |flt _=>obtain⟨t,rfl⟩:=r;rfl
 |ref _=>cases r;rfl
 |ty _=>cases r;rfl
theorem RelV.inj (r:RelV x u)(q:RelV y u):x=y:=b9<|r.abs.symm.trans q.abs
theorem Vals.inj:∀{xs ys:List V} {us:List ax},Vals xs us->Vals ys us->xs=ys
 |_,_,_,.nil,.nil=>rfl
 |_,_,_,.cons r t,.cons r' t'=>by rw[r.inj r',Vals.inj t t']
section
variable {X:Cx}{π:Zl}{σ:St}{H:Hp}{s:aI}{a:Addr}{xs ys:List V}
theorem SqL.of {K:bo}(h:H a=some (.lst xs)):SqL K H a xs:=.inl<|.inl h
theorem Inv.list (I:Inv X π σ H s)(h:SqL X.K H a xs):∃C:List ax,Vals xs C/\PlainL s.heap a C.toArray/\xs.length<=ai:=by
 rcases h with h|⟨o,C,n,b,d,hd,c,f,r⟩
 ·obtain⟨z,C,n,r,e⟩:=h.ok I.hok;exact⟨C,r,⟨_,n,e,rfl,rfl,rfl⟩,z⟩
 ·refine⟨C.toList,r,⟨o,n,I.kIn a o b,d,hd,by simpa using c⟩,?_⟩;have e:=r.length;simp only[nX] at e
  lia
theorem Inv.tuple (I:Inv X π σ H s)(h:SqT X.K H a xs):∃C:List ax,Vals xs C/\IsTup s.heap a C.toArray/\xs.length<=ai:=by
 rcases h with h|⟨o,C,n,b,d,c,f,r⟩
 ·obtain⟨z,C,r,p⟩:=h.ok I.hok;exact⟨C,r,p.tup,z⟩
 ·refine⟨C.toList,r,⟨o,I.kIn a o b,d,n,by simpa using c.1⟩,?_⟩;have e:=r.length;simp only[nX] at e
  lia
theorem Inv.K9 (I:Inv X π σ H s)(h:SqL X.K H a xs)(h':SqL X.K H a ys):xs=ys:=by
 obtain⟨i,r,⟨o,n,e,_,_,d⟩,_⟩:=I.list h;obtain⟨b,j,⟨k,l,f,_,_,c⟩,_⟩:=I.list h';rw[e] at f;cases f;rw[d] at c;injection c with g _
 have:i=b:=by simpa using congrArg yy g
 subst this;exact r.inj j
theorem Inv.Uc (I:Inv X π σ H s)(h:SqT X.K H a xs)(h':SqT X.K H a ys):xs=ys:=by
 obtain⟨i,r,⟨o,e,_,n,d⟩,_⟩:=I.tuple h;obtain⟨b,j,⟨k,f,_,l,c⟩,_⟩:=I.tuple h';rw[e] at f;cases f;rw[d] at c;injection c with g _
 have:i=b:=by simpa using congrArg yy g
 subst this;exact r.inj j
end
abbrev Cx.wish (X:Cx)(E:Zs):Cx:={ X with xe:=E }
abbrev Cx.nox (X:Cx):Cx:=X.wish λ_ _=>False
theorem Cx.Ok.wish {X:Cx}(ok:X.Ok)(E:Zs):(X.wish E).Ok:=
 ⟨ok.mod,ok.kind,ok.glob,ok.blt,ok.above,ok.inj,ok.has,ok.cab,ok.hd,ok.frames,ok.stk,ok.exf,ok.bs,ok.bsz,ok.noex,ok.exfs,ok.vI,ok.frf⟩
theorem Cx.Ok.Jl {X:Cx}(ok:(X.wish E).Ok):X.Ok:=
 ⟨ok.mod,ok.kind,ok.glob,ok.blt,ok.above,ok.inj,ok.has,ok.cab,ok.hd,ok.frames,ok.stk,ok.exf,ok.bs,ok.bsz,ok.noex,ok.exfs,ok.vI,ok.frf⟩
section
variable {X:Cx}{π:Zl}{σ:St}{H:Hp}{s:aI}{E:Zs}
theorem Inv.wish (I:Inv X π σ H s)(E:Zs):Inv (X.wish E) π σ H s:=⟨I.ok.wish E,I.os,I.bare,I.base,I.loc,I.cell,I.free,I.freeC,I.pin,I.hok,I.len⟩
theorem Inv.Jl (I:Inv (X.wish E) π σ H s):Inv X π σ H s:=⟨I.ok.Jl,I.os,I.bare,I.base,I.loc,I.cell,I.free,I.freeC,I.pin,I.hok,I.len⟩
end
section
variable {X:Cx}{st:Stmt}{rest:List Stmt}{t u:TS}{e:Expr}{te:TE}{pos:Pos}
def aez:TS:=λD a H=>D.nx a H
def afY (t u:TS):TS:=λD a H=>t { D with nx:=u D } a H
theorem Z9:PSs X [] aez:=λ_ _ a H _ I h=>ma ⟨a,H,I,h⟩
theorem Br (o:PS X st t)(C:PSs X rest u):PSs X (st::rest) (afY t u):=by
 intro b s d H D I h;refine xA<|thn (o b s d H { D with nx:=u D } I h) λf e q=>?_;cases f with
 |next=>
  obtain⟨a,H',c,q⟩:=q;exact C b e a H' D c q
 |ret v=>exact q
 |brk=>exact q
 |cont=>exact q
theorem aal (o:PS X st t):PSs X [st] t:=by
 intro a s b H D I h;refine xA<|thn (o a s b H D I h) λf c q=>?_;cases f with
 |next=>exact ma q
 |ret v=>exact q
 |brk=>exact q
 |cont=>exact q
theorem Inv.quiet (I:Inv X π σ H s):interactive X.env=false:=by simp[interactive,I.ok.kind]
def aeu (te:TE):TS:=λD a H=>te a H λ_ b=>D.nx a b
theorem pW (C:PE X e te)(o:d4 e none pos.line X.env=pure false:=by rfl):PS X (.Expr e pos) (aeu te):=by
 intro d s a H D I h;exact wpAny_Expr_any (thn (C d s a H _ I h) λv i c=>xq2 c λx f g j b=>⟨a,f,g,b⟩) I.quiet o
def agj (te:TE):TS:=λD a H=>te a H D.rt
theorem Di (o:PE X e te):PS X (.Return (some e) pos) (agj te):=by
 intro d s a H D I h;exact wpAny_Return_some<|thn (o d s a H _ I h) λv j c=>xq2 c λx f g i b=>⟨x,a,f,g,i,b⟩
def agx (c:TT)(t u:TS):TS:=λD a H=>c a H λb d=>if b=true then t D a d else u D a d
theorem afM (J:PT X c tc)(o:PSs X a t)(C:PSs X b u):PS X (.If c a b pos) (agx tc t u):=by
 intro e s f H D I h;refine wpAny_If<|thn (J e s f H _ I h) λd k ⟨i,j,g⟩=>?_;cases d with
 |true=>exact o e k f i D j g
 |false=>exact C e k f i D j g
end
abbrev TG:=V->St->Hp->(St->Hp->Prop)->Prop
abbrev TGs:=List V->St->Hp->(St->Hp->Prop)->Prop
def PG (X:Cx)(o:Expr)(t:TG):Prop:=
 ∀(b:Zl) (s:aI) (c:St) (H:Hp) (v:V) (u:ax) (Q:St->Hp->Prop),Inv X b c H s->RelV v u->t v c H Q->
  bt (cx X.prog X.w) X.A (tf o X.env u) (λ_ d=>∃a H',Inv X b a H' d/\Q a H') X.xe s
def PGs (X:Cx)(ts:List Expr)(t:TGs):Prop:=
 ∀(d:Zl) (s:aI) (e:St) (H:Hp) (b:List V) (c:List ax) (Q:St->Hp->Prop),Inv X d e H s->Vals b c->t b e H Q->
  bt (cx X.prog X.w) X.A (AV ((ki ts X.env).map (·.2)) c) (λ_ f=>∃a H',Inv X d a H' f/\Q a H') X.xe s
abbrev aeQ:=V->V->V->Hp->(Hp->Prop)->Prop
def aeW (X:Cx)(t:aeQ):Prop:=
 ∀(a:Zl) (s:aI) (d:St) (H:Hp) (o i v:V) (c b u:ax) (Q:Hp->Prop),Inv X a d H s->RelV o c->RelV i b->RelV v u->t o i v H Q->
  bt (cx X.prog X.w) X.A (A9 c b u) (λ_ e=>∃H',Inv X a d H' e/\Q H') X.xe s
section
def GX (i:Nat):TG:=λv a H Q=>Q (a.set i<|some v) H
theorem abE (o:X.N.Nodup)(C:X.N[i]? = some x)(U:Loc X.env.scope x)(J:X.fn x=true\/X.env.scope.names.lookup x=some .local:=by clean_wf):PG X (.Name x pos) (GX i):=by
 intro c s d H v u Q I r h;exact wpAny_assign_Name<|ud I o C U r (λb a=>⟨_,H,a,h⟩) J
def age:TGs:=λa b H Q=>a=[]/\Q b H
def afj (t:TG)(u:TGs):TGs:=λb c H Q=>∃v r,b=v::r/\t v c H λa H'=>u r a H' Q
theorem Za:PGs X [] age:=by
 intro d s a H b c Q I r h;obtain⟨e,h⟩:=h;subst e;cases r;exact assignInOrder_nil ⟨a,H,I,h⟩
theorem Wn (J:PG X e t)(o:PGs X es u)
  (C:(ki (e::es) X.env).map (·.2)=tf e X.env::(ki es X.env).map (·.2):=by rfl):PGs X (e::es) (afj t u):=by
 intro b s k H l n Q I r h;obtain⟨v,m,f,h⟩:=h;subst f;cases r with
 |cons r rr=>
  rw[C];refine tj<|thn (J b s k H _ _ _ I r h) λ_ j g=>?_;obtain⟨a,i,c,d⟩:=g;exact o b j a i _ _ Q c rr d
def agn (K:bo)(n:Nat)(t:TGs):TG:=λv c H Q=>∃a b,v=.ref a/\SqT K H a b/\b.length=n/\t b c H Q
theorem ack (J:X.calm=true)(h:PGs X es t)
  (U:(ki es X.env).length=n:=by rfl) (C:(ki es X.env).findIdx? (·.1)=none:=by rfl):PG X (.Tuple es k pos) (agn X.K n t):=by
 intro d s g H v u Q I r c;obtain⟨a,m,p,i,j,c⟩:=c;subst p;cases r;obtain⟨y,f,q,z⟩:=I.tuple i;refine assign_Tuple_tuple (I.ok.hd J) q (by simp[U,← j,f.length]) C λw x=>?_;have l:Inv X d g H { s with heap:=w }:=I.kept (t':=s.toks) λb o e=>x b o (cw<|aE e) e;exact h d _ g H m _ Q l (by simpa using f) c
noncomputable def dZ (C I:TE)(t:aeQ):TG:=λv a H Q=>C a H λo b=>I a b λi d=>t o i v d λc=>Q a c
theorem VL (ho:PE X o to)(U:PE X i ti)(hs:aeW X t)
  (ha:∀v,tf (.Subscript o i pos) X.env v=(do
   let C←tF [v] (eval o X.env)
   let J←tF [v,C] (eval i X.env)
   standAt pos
   tF [v,C,J] (A9 C J v)
   release [v,C,J] []):=by intro _;rfl):PG X (.Subscript o i pos) (dZ to ti t):=by
 intro c s a H v u Q I r h;rw[ha];refine ae<|fF<|thn (ho c s a H _ I h) λC l b=>xq2 b λx j e w f=>?_;refine ae<|fF<|thn (U c l a j _ e f) λJ k b=>xq2 b λy g q z n=>?_;refine ae<|r6<|ae<|fF<|thn (hs c k a g x y v C J u _ q w z r n) λ_ A ⟨p,d,m⟩=>?_;exact wpAny_release ⟨a,p,d,m⟩
def Xp (o:TE)(g:TG):TS:=λD a H=>o a H λx b=>g x a b D.nx
theorem Iv (U:PE X e te)(hg:PG X tg g)(C:mI [tg] e pos.line X.env=pure false:=by rfl)(J:mM [tg] e X.env=pure none:=by rfl)
  (o:(ki [tg] X.env).map (·.2)=[tf tg X.env]:=by rfl):PS X (.Assign [tg] e pos) (Xp te g):=by
 intro a s b H D I h;refine wpAny_Assign_stores (thn (U a s b H _ I h) λv f c=>xq2 c λx d j k i=>?_) C J;rw[o];exact thn (hg a f b d x v _ j k i) λ_ l q=>q
theorem wD (U:X.N.Nodup)(o:X.N[i]? = some x)(J:Loc X.env.scope x)(he:PE X e te)(hs:d4 e (some<|.Name x pos') pos.line X.env=pure false:=by rfl)(C:X.fn x=true\/X.env.scope.names.lookup x=some .local:=by clean_wf):
  PS X (.Assign [.Name x pos'] e pos) (Xp te<|GX i):=by
 intro b s f H D I h;refine wpAny_Assign_Name (thn (he b s f H _ I h) λv m a=>xq2 a λy c d k j=>?_) hs;exact ud d U o J k (λl g=>⟨_,c,g,j⟩) C
def agc (i j:Nat)(o:TA):TS:=λD a H=>o a H λb c=>∃v w,b=[v,w]/\D.nx ((a.set i<|some v).set j<|some w) c
theorem ac6 (hc:X.calm=true)(hN:X.N.Nodup)(hi:X.N[i]? = some x)(hj:X.N[j]? = some y)(C:i≠j)
  (U:X.env.scope.names.lookup x=some .local) (J:X.env.scope.names.lookup y=some .local) (ha:PA X [a,b] ta)
  (hw:mM [.Tuple [.Name x px,.Name y py] kt pt] (.Tuple [a,b] k2 pt2) X.env=pure (some [x,y]))
  (hs:mI [.Tuple [.Name x px,.Name y py] kt pt] (.Tuple [a,b] k2 pt2) pos.line X.env=pure false:=by rfl):
  PS X (.Assign [.Tuple [.Name x px,.Name y py] kt pt] (.Tuple [a,b] k2 pt2) pos) (agc i j ta):=by
 intro n s z H D I h;rw[exec_Assign_arm];refine ae<|r6 ?_;rw[hs];refine ae<|af ?_;rw[if_neg<|by decide];refine ae<|Tuple_<|thn (ha _ n s z H _ I h) λE f K=>xq2 K λQ t F P l=>?_;obtain⟨v,w,L,l⟩:=l;subst L;obtain⟨g,d,rfl,M,k⟩:∃g d,E=[g,d]/\RelV v g/\RelV w d:=by
  cases P with
  |cons p q=>
   cases q with
   |cons p' q'=>
    cases q';exact⟨_,_,rfl,p,p'⟩
 refine eJ ?_ (by show 2<=ai;decide);have O:Inv X n z t { f with heap:=f.heap.push { cls:=.type "tuple",data:=.seq [g,d].toArray } }:=F.kept (t':=f.toks) λb o e=>ar _ e;rw[hw];refine ae<|af ?_;show bt (cx X.prog X.w) X.A (do rule "assign.swapped-stores";let c←unpackItems (.ref f.heap.objs.size) 2 none;AV [λv=>BM X.env y v,λv=>BM X.env x v] c.reverse;pure Flow.next) _ _ _;refine ae<|sf<|ae<|unpackItems_tuple (items:=#[g,d]) (I.ok.hd hc) (IsTup.new f.heap _) λr m=>?_;have B:=O.kept (h':=r) (t':=f.toks) λb o e=>m b o (cw<|aE e) e;show bt _ _ (AV [λv=>BM X.env y v,λv=>BM X.env x v] [d,g] >>= λ_=>pure Flow.next) _ _ _;refine ae<|tj<|wpAny_bindName<|ud B hN hj (.inl J) k (λS G=>?_)<|.inr J;refine tj<|wpAny_bindName<|ud G hN hi (.inl U) M (λR u=>assignInOrder_nil<|af ?_)<|.inr U;rw[List.set_comm _ _<|eC C] at u;exact⟨_,t,u,l⟩
end
section
def adI (c:TT)(o:TS):TS:=λD a H=>∃W:Nat->St->Hp->Prop,(∃m,W m a H)/\∀m a H,W m a H->
 c a H λb f=>if b=true then ∃N:St->Hp->Prop,(∀d H',N d H'->∃e,e<m/\W e d H')/\o { D with nx:=N,ct:=N,bk:=D.nx } a f else D.nx a f
theorem Wh (o:yA (cx X.prog X.w) X.A X.env X.xe)(J:PT X c tc)(C:PSs X body tb):PS X (.While c body [] pos) (adI tc tb):=by
 intro r s M H D I h;obtain⟨W,⟨E,O⟩,e⟩:=h;refine wpAny_While<|codeAny_whileLoop (λn B=>∃g H',Inv X r g H' B/\W n g H') ?_ E ⟨M,H,I,O⟩;rintro n L ⟨d,x,F,K⟩;refine kP o<|thn (J r L d x _ F<|e n d x K) λb G ⟨u,z,k⟩=>?_;cases b with
 |true=>
  obtain⟨N,y,k⟩:=k;rw[if_pos rfl];refine kP o<|thn (C r G d u _ z k) λf P j=>?_;cases f with
  |next=>
   obtain⟨a,i,l,t⟩:=j;obtain⟨m,q,p⟩:=y a i t;exact⟨m,q,a,i,l,p⟩
  |cont=>
   obtain⟨a,i,l,t⟩:=j;obtain⟨m,q,p⟩:=y a i t;exact⟨m,q,a,i,l,p⟩
  |brk=>exact j
  |ret v=>exact j
 |false=>
  rw[if_neg bp];exact ma ⟨d,u,z,k⟩
end
structure It where
 go:Nat->Hp->Prop
 yld:Nat->Hp->V->Hp->Prop
 stop:Nat->Hp->Prop
def yM (X:Cx)(o:Zl)(H:Hp)(b:Addr):Prop:=
 H b=none/\b≠X.env.locals/\b∉X.fs/\(b∈X.ex\/X.s₀.heap.objs.size<=b)/\(∀x c,X.env.cells.lookup x=some c->c≠b)/\∀p∈X.pn++o,p.1≠b
theorem Inv.Va (I:Inv X π σ H s)(o:s.heap.objs.size<=b)(C:H' b=none):yM X π H' b:=by
 refine⟨C,qq<|br I.lt o,I.agH o,.inr<|hV I.sz o,λx c e z=>?_,λp a z=>?_⟩
 ·obtain⟨v,q⟩:=I.cell x c e;exact absurd (br q.lt (by rw[z];exact o))<|hU _
 ·exact absurd (br (aE (I.pin p a).1) (by rw[z];exact o))<|hU _
abbrev Calm (X:Cx):Prop:=X.calm=true
structure Turn (Cm:Cx->Prop)(P:bE)(w:eI)(K:bo)(tg:Expr)(J:It)(fp:List Addr)(it:Addr)(tn:Nat->Heap->Prop):Prop where
 mem:it∈fp
 obj:∀i h,tn i h->∀b∈fp,∃o,h.get? b=some o/\∀v,o.data≠.cell v
 keep:∀i h h',tn i h->(∀b∈fp,∀o,h.get? b=some o->h'.get? b=some o)->tn i h'
 item:∀(X:Cx),X.prog=P->X.w=w->X.K=K->Cm X->∀(i:Nat) (π:Zl) (s:aI) (σ:St) (H:Hp) (E:Zs),Inv X π σ H s->(∀b∈fp,yM X π H b)->tn i s.heap->J.go i H->
  bt (cx P w) X.A (AW (.ref it)) (λr s1=>∃u,r=some u/\
   bt (cx P w) X.A (yB tg (.ref it) u) (λ_ s2=>∃x H',Inv X π σ H' s2/\RelV x u/\J.yld i H x H'/\tn (i+1) s2.heap/\∀b∈fp,H' b=none) E s1) E s
 done:∀(X:Cx),X.prog=P->X.w=w->X.K=K->Cm X->∀(i:Nat) (π:Zl) (s:aI) (σ:St) (H:Hp) (E:Zs),Inv X π σ H s->(∀b∈fp,yM X π H b)->tn i s.heap->J.stop i H->
  bt (cx P w) X.A (AW (.ref it)) (λr s1=>r=none/\Inv X π σ H s1) E s
 self:∀(A:fm) (i:Nat) (s:aI) (Q:Zs) (E:Zs),tn i s.heap->Q (.ref it) s->bt (cx P w) A (B4 (.ref it)) Q E s
abbrev TI:=St->Hp->(It->Hp->Prop)->Prop
def PIE (U:Cx->Prop)(X:Cx)(C:Zl)(σ:St)(I:Expr)(R:It->Hp->Prop)(o:ax)(s2:aI):Prop:=
 ∃(c:Addr) (a:List Addr) (tn:Nat->Heap->Prop) (J:It) (H':Hp),o=.ref c/\Inv X C σ H' s2/\Turn U X.prog X.w X.K I J a c tn/\tn 0 s2.heap/\(∀b∈a,yM X C H' b)/\R J H'
def PI (I:Cx->Prop)(X:Cx)(C o:Expr)(wi:TI):Prop:=
 ∀(b:Zl) (s:aI) (a:St) (H:Hp) (R:It->Hp->Prop),Inv X b a H s->wi a H R->
  bt (cx X.prog X.w) X.A (eval o X.env) (λv c=>bt (cx X.prog X.w) X.A (B4 v) (PIE I X b a C R) X.xe c) X.xe s
theorem Qu (U : s.heap.get? it = some o) (I : o.cls = .type n) (hd : o.data = .fields vs)
    (J : ["enumerate", "zip", "dict_itemiterator", "dict_reverseitemiterator", "odict_iterator", "itertools.zip_longest", "itertools.pairwise"].contains n = false) (C : Q () s) : bt M A (yB tg (.ref it) u) Q E s := by
  unfold yB;cases tg<;>first
    | exact af C
    | (cases u<;>first
        | exact af C
        | (refine ae (wpAny_load U ?_)
           rw [I, hd];show bt M A (if (["enumerate", "zip", "dict_itemiterator", "dict_reverseitemiterator", "odict_iterator", "itertools.zip_longest", "itertools.pairwise"].contains n && vs[0]? == some (uu _)) = true then _ else _) Q E s;rw [if_neg (by intro h;rw [J, Bool.false_and] at h;cases h)];exact af C))
def Itl (K:bo)(a:Addr):It:=
 ⟨λi H=>∃b x,SqL K H a b/\b[i]? = some x,λi H x H'=>H'=H/\∀b,SqL K H a b->b[i]? = some x,λi H=>∃b,SqL K H a b/\b.length<=i⟩
def Itt (K:bo)(a:Addr):It:=
 ⟨λi H=>∃b x,SqT K H a b/\b[i]? = some x,λi H x H'=>H'=H/\∀b,SqT K H a b->b[i]? = some x,λi H=>∃b,SqT K H a b/\b.length<=i⟩
def Itr (lo:Int)(n:Nat):It:=⟨λi _=>i<n,λi H x H'=>H'=H/\x=.int (lo+i),λi _=>n<=i⟩
theorem UG {P:bE}{w:eI}{K:bo}{C:Expr}(a it:Addr):Turn Calm P w K C (Itl K a) [it] it (λi h=>h.IsListIter it a i) where
 mem:=by simp
 obj:=λi h f b g=>by
  have e:b=it:=by simpa using g
  subst e;obtain⟨o,e,c,d⟩:=f;exact⟨o,e,λv z=>by rw[d] at z;cases z⟩
 keep:=λi h n f k=>f.at λo e=>k it (by simp) o e
 item:=by
  intro X G r B O i N s Q H E I m f t;subst G r B;obtain⟨T,x,l,A⟩:=t;obtain⟨R,y,p,hz⟩:=I.list l;obtain⟨u,Y,V⟩:=y.get A;refine pU (m it<|by simp) λL M J D F q=>?_;refine wpAny_pyNext_list_item f p.isList (x:=u) (by simpa using Y) λn j W=>?_;have U:Inv X N Q H { s with heap:=n }:=I.turned (t':=s.toks) (λb o g e=>(W.2 b g).trans e) L M D F q;obtain⟨o,e,c,d⟩:=id j;exact⟨u,rfl,Qu (s:={ s with heap:=n }) e c d (by decide) ⟨x,H,U,V,⟨rfl,λys S=>by rw[I.K9 S l];exact A⟩,j,λb g=>(m b g).1⟩⟩
 done:=by
  intro X G r B O i N s Q H E I m f t;subst G r B;obtain⟨T,l,A⟩:=t;obtain⟨R,y,p,hz⟩:=I.list l;refine pU (m it<|by simp) λL M J D F q=>?_;have hl:=y.length;exact wpAny_pyNext_list_end (I.ok.hd O) f p.isList (by simp;lia) λn Z=>⟨rfl,I.turned (t':=s.toks) (λb o g e=>Z b o g e) L M D F q⟩
 self:=λ_ _ _ _ _ f h=>wpAny_pyIter_listiter f h
theorem Ob {P:bE}{w:eI}{K:bo}{C:Expr}(a it:Addr):Turn Calm P w K C (Itt K a) [it] it (λi h=>h.IsTupleIter it a i) where
 mem:=by simp
 obj:=λi h f b g=>by
  have e:b=it:=by simpa using g
  subst e;obtain⟨o,e,c,d⟩:=f;exact⟨o,e,λv z=>by rw[d] at z;cases z⟩
 keep:=λi h n f k=>f.at λo e=>k it (by simp) o e
 item:=by
  intro X L t D Q i O s R H E I m f y;subst L t D;obtain⟨T,x,l,B⟩:=y;obtain⟨r,A,p,hz⟩:=I.tuple l;obtain⟨u,Y,V⟩:=A.get B;refine pU (m it<|by simp) λM N J F G q=>?_;refine wpAny_pyNext_tuple_item f (show s.heap.IsTuple a r.toArray from p) (x:=u) (by simpa using Y) λn j W=>?_;have U:Inv X O R H { s with heap:=n }:=I.turned (t':=s.toks) (λb o g e=>(W.2 b g).trans e) M N F G q;obtain⟨o,e,c,d⟩:=id j;exact⟨u,rfl,Qu (s:={ s with heap:=n }) e c d (by decide) ⟨x,H,U,V,⟨rfl,λys S=>by rw[I.Uc S l];exact B⟩,j,λb g=>(m b g).1⟩⟩
 done:=by
  intro X L t D Q i O s R H E I m f y;subst L t D;obtain⟨T,l,B⟩:=y;obtain⟨r,A,p,hz⟩:=I.tuple l;refine pU (m it<|by simp) λM N J F G q=>?_;have hl:=A.length;exact wpAny_pyNext_tuple_end (I.ok.hd Q) f (show s.heap.IsTuple a r.toArray from p) (by simp;lia) λn Z=>⟨rfl,I.turned (t':=s.toks) (λb o g e=>Z b o g e) M N F G q⟩
 self:=λ_ _ _ _ _ f h=>wpAny_pyIter_tupleiter f h
theorem Ng {P:bE}{w:eI}{K:PySem.W.Frag}{C:Expr}(it:Addr)(lo:Int)(n:Nat):Turn Calm P w K C (Itr lo n) [it] it (λi h=>AE h it (lo+(i:Nat)*1) ((n:Int)-(i:Nat)) 1) where
 mem:=by simp
 obj:=λi h a b c=>by
  have e:b=it:=by simpa using c
  subst e;exact⟨_,a,λv z=>by
   have M:Data.fields _=Data.cell v:=z;cases M⟩
 keep:=λi h g a k=>k it (by simp) _ a
 item:=by
  intro X x l q p i B s D H E I f a m;subst x l q;refine pU (f it<|by simp) λy A N r u j=>?_;have W:=Walks.range (prog:=X.prog) (w:=X.w) (I.ok.hd p) it lo 1 n;refine W.item i s _ _ m a λv g tk F d G=>?_;obtain⟨t,rfl⟩:=F;have O:Inv X B D H { s with heap:=g,toks:=tk }:=I.turned (λb o c e=>G b o (by simpa using c) e) y A r u j;refine⟨_,rfl,Qu (s:={ s with heap:=g,toks:=tk }) (n:="range_iterator") d rfl rfl (by decide) ⟨.int<|lo+i,H,O,⟨t,?_⟩,⟨rfl,rfl⟩,d,λb c=>(f b c).1⟩⟩;rw[Int.mul_one]
 done:=by
  intro X x l q p i B s D H E I f a m;subst x l q;refine pU (f it<|by simp) λy A N r u j=>?_;exact wpAny_pyNext_range_end (I.ok.hd p) a (by have:n<=i:=m;lia) λg L=>⟨rfl,I.turned (t':=s.toks) (λb o c e=>L b o c e) y A r u j⟩
 self:=λ_ _ _ _ _ a h=>wpAny_pyIter_rangeiter a h
section
variable {X:Cx}{tg:Expr}
def afm (K:bo)(o:TE):TI:=λd H R=>o d H λx b=>∃a,x=.ref a/\(∃c,SqL K b a c)/\R (Itl K a) b
def agh (K:bo)(o:TE):TI:=λd H R=>o d H λx b=>∃a,x=.ref a/\(∃c,SqT K b a c)/\R (Itt K a) b
theorem O9 {l:Expr}{C:TE}(J:PE X l C):PI Calm X tg l (afm X.K C):=by
 intro k s n H R I h;refine thn (J k s n H _ I h) λv d j=>xq2 j λx m c r i=>?_;obtain⟨a,e,⟨u,g⟩,q⟩:=i;subst e;cases r;obtain⟨t,y,p,w⟩:=c.list g;refine wpAny_pyIter_list p.isList ?_;refine⟨d.heap.objs.size,[d.heap.objs.size],_,_,m,rfl,c.kept λb o e=>ar _ e,UG a _,⟨_,bg _ rfl,rfl,rfl⟩,λb f=>?_,q⟩;have e:b=d.heap.objs.size:=by simpa using f
 subst e;exact c.Va (aS _)<|c.hok.fresh<|aS _
theorem acZ {l:Expr}{C:TE}(J:PE X l C):PI Calm X tg l (agh X.K C):=by
 intro k s n H R I h;refine thn (J k s n H _ I h) λv d j=>xq2 j λx m c r i=>?_;obtain⟨a,e,⟨u,g⟩,q⟩:=i;subst e;cases r;obtain⟨t,y,p,w⟩:=c.tuple g;refine wpAny_pyIter_tuple (p) ?_;refine⟨d.heap.objs.size,[d.heap.objs.size],_,_,m,rfl,c.kept λb o e=>ar _ e,Ob a _,⟨_,bg _ rfl,rfl,rfl⟩,λb f=>?_,q⟩;have e:b=d.heap.objs.size:=by simpa using f
 subst e;exact c.Va (aS _)<|c.hok.fresh<|aS _
theorem LR {J:Zl}{U:St}{H:Hp}{s:aI}{R:It->Hp->Prop}{E:Zs}{lo C:Int}{t u v:Tok}{tk:Nat}(I:Inv X J U H s)(h1:-(2^62)<=lo)(h2:lo<2^62)(h3:-(2^62)<=C)(h4:C<2^62)
  (q:R (Itr lo (C-lo).toNat) H):bt (cx X.prog X.w) X.A (B4<|.ref s.heap.objs.size) (PIE Calm X J U tg R) E { s with heap:=s.heap.push { cls:=.type "range",data:=.fields #[.int lo t,.int C u,.int 1 v] },toks:=tk }:=by
 refine wpAny_pyIter_range (IsRange.new ..) (small_one h1 h2 h3 h4) ?_;have a:Inv X J U H { s with heap:=s.heap.push { cls:=.type "range",data:=.fields #[.int lo t,.int C u,.int 1 v] },toks:=tk }:=I.kept λb o e=>ar _ e;refine⟨(s.heap.push { cls:=.type "range",data:=.fields #[.int lo t,.int C u,.int 1 v] }).objs.size,[(s.heap.push { cls:=.type "range",data:=.fields #[.int lo t,.int C u,.int 1 v] }).objs.size],_,_,H,rfl,
  a.kept (t':=tk) λb o e=>ar _ e,Ng _ lo (C-lo).toNat,?_,λb c=>?_,q⟩
 ·have f:lo+((0:Nat):Int)*1=lo:=by simp
  have d:(((C-lo).toNat:Nat):Int)-((0:Nat):Int)=ll lo C 1:=by rw[rangeSize_one];split<;>lia
  show AE _ _ (lo+((0:Nat):Int)*1) ((((C-lo).toNat:Nat):Int)-((0:Nat):Int)) 1;rw[f,d];exact bg _ rfl
 ·have e:b=(s.heap.push { cls:=.type "range",data:=.fields #[.int lo t,.int C u,.int 1 v] }).objs.size:=by simpa using c
  subst e;exact a.Va (aS _)<|a.hok.fresh<|aS _
def afW (o:TA):TI:=λc H R=>o c H λa b=>∃j:Int,a=[.int j]/\-(2^62)<=j/\j<2^62/\R (Itr 0 j.toNat) b
def afw (o:TA):TI:=λc H R=>o c H λa b=>∃i j:Int,a=[.int i,.int j]/\(-(2^62)<=i/\i<2^62/\-(2^62)<=j/\j<2^62)/\R (Itr i (j-i).toNat) b
theorem Uz (J:Gl X "range")(o:X.mg "range" = none)(U:PA X [a] ta)(C:ag [a] X.env=[(false,eval a X.env)]:=by rfl):PI Calm X tg (.Call (.Name "range" p) [a] [] pos) (afW ta):=by
 intro f s i H R I h;refine Call_<|rF I J o boot_range<|eS (thn (U pos f s i H _ I h) λm u d=>xq2 d λl n c k b=>?_) C rfl;obtain⟨j,e,b,g,q⟩:=b;subst e;cases k with
 |cons r rr=>
  cases rr;obtain⟨t,rfl⟩:=r;exact call_range_1<|LR c (by lia) (by lia) b g<|by simpa using q
theorem T4 (hg:Gl X "range")(C:X.mg "range" = none)(J:PA X [a,b] ta)(U:ag [a,b] X.env=[(false,eval a X.env),(false,eval b X.env)]:=by rfl)(o:ag [b] X.env=[(false,eval b X.env)]:=by rfl):
  PI Calm X tg (.Call (.Name "range" p) [a,b] [] pos) (afw ta):=by
 intro g s n H R I h;refine Call_<|rF I hg C boot_range<|eS (thn (J pos g s n H _ I h) λz y f=>xq2 f λv w m u c=>?_) (by rw[U,o]) (by rw[o];rfl);obtain⟨i,j,e,⟨c,l,k,d⟩,q⟩:=c;subst e;cases u with
 |cons r rr=>
  cases rr with
  |cons r' rr=>
   cases rr;obtain⟨t,rfl⟩:=r;obtain⟨x,rfl⟩:=r';exact call_range_2<|LR m c l k d q
def ag4 (wi:TI)(g:TG)(o:TS):TS:=λD a H=>wi a H λJ e=>∃W:Nat->Nat->St->Hp->Prop,(∃m,W 0 m a e)/\∀i m a H,W i m a H->
 (J.stop i H/\D.nx a H)\/(J.go i H/\∃N:St->Hp->Prop,(∀b H',N b H'->∃d,d<m/\W (i+1) d b H')/\∀x H',J.yld i H x H'->g x a H' λc f=>o { D with nx:=N,ct:=N,bk:=D.nx } c f)
noncomputable def vY (C:List Addr)(h:Heap):Zl:=C.filterMap λb=>(h.get? b).map λo=>(b,o)
theorem qZ (C:b∈fp)(e:h.get? b=some o):(b,o)∈vY fp h:=kA.mpr ⟨b,C,by rw[e];rfl⟩
theorem UT (C:p∈vY fp h):p.1∈fp/\h.get? p.1=some p.2:=by
 obtain⟨b,a,e⟩:=kA.mp C;cases q:h.get? b with
 |none=>rw[q] at e;cases e
 |some o=>
  rw[q] at e;have c:=b9 e;subst c;exact⟨a,q⟩
theorem Inv.pinned (I:Inv X π σ H s)(J:∀b∈fp,yM X π H b)(C:∀b∈fp,∃o,s.heap.get? b=some o/\∀v,o.data≠.cell v):Inv X (π++vY fp s.heap) σ H s:=
 I.Rm λp h=>(cE.mp h).elim (λz=>I.pin p<|eP _ z) λz=>by
  obtain⟨a,e⟩:=UT z;obtain⟨i,f,g,_⟩:=J p.1 a;obtain⟨o,c,d⟩:=C p.1 a;rw[e] at c;cases c;exact⟨e,i,f,g,d⟩
theorem Inv.wU (I:Inv X (π++pl) σ H s):Inv X π σ H s:=I.Rm λp a=>I.pin p<|eP _<|z5 _ a
theorem acY (U:yA (cx X.prog X.w) X.A X.env X.xe){Cm:Cx->Prop}(hc:Cm X)(hi:PI Cm X tg iter wi)(hg:PG X tg g)(C:PSs X body tb)
  (hs:∀x,hZ iter X.env x=pure x:=by intro _;rfl):PS X (.For tg iter body [] pos) (ag4 wi g tb):=by
 intro y s σ H D I h;refine wpAny_For (thn (hi y s σ H _ I h) λv s1 h1=>thn h1 λitv s2 h2=>?_) hs;obtain⟨it,E,tn,J,H2,e,I2,T,S,f2,W,⟨m0,w0⟩,B⟩:=h2;subst e;have q:∀{H':Hp},(∀b∈E,H' b=none)->∀b∈E,yM X y H' b:=λhn b C=>⟨hn b C,(f2 b C).2⟩;refine codeAny_forLoop_any (λn Z=>∃i k H',Inv X y k H' Z/\tn i Z.heap/\(∀b∈E,H' b=none)/\W i n k H') ?_ m0 ⟨0,σ,H2,I2,S,λb C=>(f2 b C).1,w0⟩;rintro n s3 ⟨i,c,M,I3,L,F,w3⟩;rcases B i n c M w3 with⟨K,qn⟩|⟨go,N,hN,step⟩
 ·refine kP U<|thn (T.done X rfl rfl rfl hc i y s3 c M X.xe I3 (q F) L K) λr s4 ⟨O,I4⟩=>?_;subst O;exact ma ⟨c,M,I4,qn⟩
 ·refine kP U<|thn (T.item X rfl rfl rfl hc i y s3 c M X.xe I3 (q F) L go) λr s4 ⟨u,O,h4⟩=>?_;subst O;refine kP U<|thn h4 λ_ s5 R=>?_;refine uV R λx H5 I5 r5 y5 z V=>?_;have Y:=I5.pinned (q V)<|T.obj _ _ z;refine kP U<|thn (hg _ s5 c H5 x u _ Y r5<|step x H5 y5) λ_ s6 R=>?_;obtain⟨P,H6,I6,q6⟩:=R;refine kP U<|thn (C _ s6 P H6 _ I6 q6) λf Q t=>?_;have l:∀{a:St} {p:Hp},Inv X (y++vY E s5.heap) a p Q->N a p->∃m,m<n/\∃i k H',Inv X y k H' Q/\tn i Q.heap/\(∀b∈E,H' b=none)/\W i m k H':=λ{a p} j G=>by
   obtain⟨m',hm,w7⟩:=hN a p G;refine⟨m',hm,i+1,a,p,j.wU,T.keep _ _ _ z λb C o e=>(j.pin (b,o)<|eP _<|eP _<|qZ C e).1,λb C=>?_,w7⟩;obtain⟨o,e,d⟩:=T.obj _ _ z b C;exact(j.pin (b,o)<|eP _<|eP _<|qZ C e).2.1
  cases f with
  |next=>obtain⟨a,p,j,G⟩:=t;exact l j G
  |cont=>obtain⟨a,p,j,G⟩:=t;exact l j G
  |brk=>obtain⟨a,p,j,t⟩:=t;exact⟨a,p,j.wU,t⟩
  |ret v=>obtain⟨x7,a,p,j,r7,t⟩:=t;exact⟨x7,a,p,j.wU,r7,t⟩
end
abbrev R2:=V->V->Hp->VK->Prop
def OpR (X:Cx)(f:ax->ax->Sem ax)(r:R2):Prop:=
 ∀(a:Zl) (s:aI) (b:St) (H:Hp) (x y:V) (v u:ax) (Q:VK),Inv X a b H s->RelV x v->RelV y u->r x y H Q->
  bt (cx X.prog X.w) X.A (f v u) (EP X a b Q) X.xe s
def UnR (X:Cx)(f:ax->Sem ax)(r:V->Hp->VK->Prop):Prop:=
 ∀(a:Zl) (s:aI) (b:St) (H:Hp) (x:V) (v:ax) (Q:VK),Inv X a b H s->RelV x v->r x H Q->
  bt (cx X.prog X.w) X.A (f v) (EP X a b Q) X.xe s
def gU (X:Cx)(f:ax)(r:List V->Hp->VK->Prop):Prop:=
 ∀(c:Zl) (s:aI) (d:St) (H:Hp) (a:List V) (b:List ax) (Q:VK),Inv X c d H s->Vals a b->r a H Q->
  bt (cx X.prog X.w) X.A (call f b) (EP X c d Q) X.xe s
def tOp (r:R2)(C o:TE):TE:=λa H Q=>C a H λx c=>o a c λy b=>r x y b Q
def tUn (r:V->Hp->VK->Prop)(o:TE):TE:=λb H Q=>o b H λx a=>r x a Q
def rI (C:Int->Int->Prop)(g:Int->Int->V):R2:=λx y H Q=>∃i j,x=.int i/\y=.int j/\C i j/\Q (g i j) H
def rI0 (g:Int->Int->V):R2:=λx y H Q=>∃i j,x=.int i/\y=.int j/\Q (g i j) H
def rU (g:Int->V):V->Hp->VK->Prop:=λx H Q=>∃i,x=.int i/\Q (g i) H
section
variable {X:Cx}{a b c:Expr}{ta tb tc:TE}{pos:Pos}
theorem adi (ha:PE X a ta)(hb:PE X b tb){π:Zl}{s:aI}{C:St}{H:Hp}{R:V->V->Hp->Prop}(I:Inv X π C H s)
  (h:ta C H λx H1=>tb C H1 λy o=>R x y o) {Q:Zs} {f:ax->ax->Sem ax}
  (hf:∀v u s2 x y o,Inv X π C o s2->RelV x v->RelV y u->R x y o->bt (cx X.prog X.w) X.A (f v u) Q X.xe s2):
  bt (cx X.prog X.w) X.A (eval a X.env) (λv U=>bt (cx X.prog X.w) X.A (eval b X.env) (λu J=>bt (cx X.prog X.w) X.A (f v u) Q X.xe J) X.xe U) X.xe s:=by
 refine thn (ha π s C H _ I h) λv g c=>xq2 c λx H1 d k e=>?_;refine thn (hb π g C H1 _ d e) λu s2 c=>xq2 c λy o j l i=>?_;exact hf v u s2 x y o j k l i
theorem aeY (C:OpR X (iP op) r)(J:PE X a ta)(o:PE X b tb):PE X (.BinOp a op b pos) (tOp r ta tb):=by
 intro d s i H Q I h;exact wpAny_BinOp<|adi J o I h λv u g x y c j e f q=>C d g i c x y v u Q j e f q
theorem aeP (C:UnR X (unaryOp op) r)(o:PE X a ta):PE X (.UnaryOp op a pos) (tUn r ta):=by
 intro b s c H Q I h;exact UnaryOp_<|thn (o b s c H _ I h) λv i e=>xq2 e λx f g j d=>C b i c f x v Q g j d
theorem opI {f:ax->ax->Sem ax}{C:Int->Int->Prop}{g:Int->Int->Int}
  (o:∀(i j:Int) (t u:Tok) (s:aI) (Q:Zs) (E:Zs),C i j->Q (.int (g i j) s.toks) { s with toks:=s.toks+1 }->bt (cx X.prog X.w) X.A (f (.int i t)<|.int j u) Q E s):
  OpR X f (rI C λi j=>.int<|g i j):=by
 intro e s k H x y v u Q I b c h;obtain⟨i,j,rfl,rfl,d,q⟩:=h;obtain⟨t,rfl⟩:=b;obtain⟨a,rfl⟩:=c;exact o i j t a s _ _ d ⟨.int<|g i j,H,I.tok _,⟨_,rfl⟩,q⟩
theorem aeZ {f:ax->ax->Sem ax}{g:Int->Int->Int}
  (o:∀(i j:Int) (t u:Tok) (s:aI) (Q:Zs) (E:Zs),Q (.int (g i j) s.toks) { s with toks:=s.toks+1 }->bt (cx X.prog X.w) X.A (f (.int i t)<|.int j u) Q E s):
  OpR X f (rI0 λi j=>.int<|g i j):=by
 intro d s e H x y v u Q I b c h;obtain⟨i,j,rfl,rfl,q⟩:=h;obtain⟨t,rfl⟩:=b;obtain⟨a,rfl⟩:=c;exact o i j t a s _ _ ⟨.int<|g i j,H,I.tok _,⟨_,rfl⟩,q⟩
theorem acH {f:ax->ax->Sem ax}{g:Int->Int->Bool}
  (o:∀(i j:Int) (t u:Tok) (s:aI) (Q:Zs) (E:Zs),Q (.bool<|g i j) s->bt (cx X.prog X.w) X.A (f (.int i t)<|.int j u) Q E s):
  OpR X f (rI0 λi j=>.bl<|g i j):=by
 intro d s e H x y v u Q I b c h;obtain⟨i,j,rfl,rfl,q⟩:=h;obtain⟨t,rfl⟩:=b;obtain⟨a,rfl⟩:=c;exact o i j t a s _ _ ⟨.bl<|g i j,H,I,rfl,q⟩
theorem aeb:OpR X (iP .Add) (rI0 λi j=>.int<|i+j):=aeZ λ_ _ _ _ _ _ _ q=>add_int q
theorem adW:OpR X (iP .Sub) (rI0 λi j=>.int<|i-j):=aeZ λ_ _ _ _ _ _ _ q=>sub_int q
theorem Zc:OpR X (iP .Mod) (rI (λ_ j=>j≠0) λi j=>.int<|i.fmod j):=opI λ_ _ _ _ _ _ _ a q=>mod_int' a q
theorem unI {f:ax->Sem ax}{g:Int->Int}
  (o:∀(i:Int) (t:Tok) (s:aI) (Q:Zs) (E:Zs),Q (.int (g i) s.toks) { s with toks:=s.toks+1 }->bt (cx X.prog X.w) X.A (f<|.int i t) Q E s):
  UnR X f (rU λi=>.int<|g i):=by
 intro b s c H x v Q I a h;obtain⟨i,rfl,q⟩:=h;obtain⟨t,rfl⟩:=a;exact o i t s _ _ ⟨.int<|g i,H,I.tok _,⟨_,rfl⟩,q⟩
theorem ac9:UnR X (unaryOp .USub) (rU λi=>.int (-i)):=unI λ_ _ _ _ _ q=>neg_int q
end
noncomputable def aeR:V->V->Bool
 | .non,.non=>true|.non,.int _=>true|.int _,.non=>true|.non,.bl _=>true|.bl _,.non=>true|.non,.str _=>true|.str _,.non=>true
 | .int _,.int _=>true|.bl _,.bl _=>true|.str _,.str _=>true|.byt _,.byt _=>true
 | .int _,.str _=>true|.str _,.int _=>true|.bl _,.str _=>true|.str _,.bl _=>true
 |_,_=>false
def rEq:R2:=λx y H Q=>aeR x y=true/\Q (.bl<|decide<|x=y) H
def rNe:R2:=λx y H Q=>aeR x y=true/\Q (.bl<|!decide (x=y)) H
theorem RQ:decide (V.int i=V.int j)=(i==j):=by
 rw[sj]
 simp
theorem We:decide (V.bl i=V.bl j)=(i==j):=by
 rw[sj]
 simp
theorem Qz:decide (V.str i=V.str j)=(i==j):=by
 rw[sj]
 simp
theorem Ql:decide (V.byt i=V.byt j)=(i.toList==j.toList):=by
 rw[sj];cases i;cases j
 simp
section
theorem cO (I:Inv X π σ H s)(q:Q (.bl k) H)(e:k=k'):EP X π σ Q (.bool k') s:=by
 subst e;exact⟨.bl k,H,I,rfl,q⟩
theorem Qk:OpR X (eM .Eq) rEq:=by
 intro e s f H x y v u Q I d a h;obtain⟨c,q⟩:=h;cases x with
 |non=>
  cases d;cases y with
  |non=>cases a;exact PySem.EqNone.eq_none_none<|cO I q<|by simp
  |bl j=>cases a;exact PySem.EqNone.eq_none_bool<|cO I q<|by simp
  |int j=>obtain⟨b,rfl⟩:=a;exact PySem.EqNone.eq_none_int<|cO I q<|by simp
  |str j=>obtain⟨b,rfl⟩:=a;exact PySem.EqNone.eq_none_str<|cO I q<|by simp
  |_=>exact absurd (c) bp
 |bl i=>
  cases d;cases y with
  |non=>cases a;exact PySem.EqNone.eq_bool_none<|cO I q<|by simp
  |bl j=>cases a;exact eq_bool<|cO I q We
  |str j=>obtain⟨b,rfl⟩:=a;exact PySem.EqMixed.eq_bool_str<|cO I q<|by simp
  |_=>exact absurd (c) bp
 |int i=>
  obtain⟨t,rfl⟩:=d;cases y with
  |non=>cases a;exact PySem.EqNone.eq_int_none<|cO I q<|by simp
  |int j=>obtain⟨b,rfl⟩:=a;exact eq_int<|cO I q RQ
  |str j=>obtain⟨b,rfl⟩:=a;exact PySem.EqMixed.eq_int_str<|cO I q<|by simp
  |_=>exact absurd (c) bp
 |str i=>
  obtain⟨t,rfl⟩:=d;cases y with
  |non=>cases a;exact PySem.EqNone.eq_str_none<|cO I q<|by simp
  |bl j=>cases a;exact PySem.EqMixed.eq_str_bool<|cO I q<|by simp
  |int j=>obtain⟨b,rfl⟩:=a;exact PySem.EqMixed.eq_str_int<|cO I q<|by simp
  |str j=>obtain⟨b,rfl⟩:=a;exact eq_str<|cO I q Qz
  |_=>exact absurd (c) bp
 |byt i=>
  obtain⟨t,rfl⟩:=d;cases y with
  |byt j=>obtain⟨b,rfl⟩:=a;exact W.eq_bytes<|cO I q Ql
  |_=>exact absurd (c) bp
 |_=>cases y<;>exact absurd (c) bp
theorem Rw:OpR X (eM .NotEq) rNe:=by
 intro e s f H x y v u Q I d a h;obtain⟨c,q⟩:=h;cases x with
 |non=>
  cases d;cases y with
  |non=>cases a;exact PySem.EqNone.ne_none_none<|cO I q<|by simp
  |bl j=>cases a;exact PySem.EqNone.ne_none_bool<|cO I q<|by simp
  |int j=>obtain⟨b,rfl⟩:=a;exact PySem.EqNone.ne_none_int<|cO I q<|by simp
  |str j=>obtain⟨b,rfl⟩:=a;exact PySem.EqNone.ne_none_str<|cO I q<|by simp
  |_=>exact absurd (c) bp
 |bl i=>
  cases d;cases y with
  |non=>cases a;exact PySem.EqNone.ne_bool_none<|cO I q<|by simp
  |bl j=>cases a;exact ne_bool<|cO I q<|congrArg not We
  |str j=>obtain⟨b,rfl⟩:=a;exact PySem.EqMixed.ne_bool_str<|cO I q<|by simp
  |_=>exact absurd (c) bp
 |int i=>
  obtain⟨t,rfl⟩:=d;cases y with
  |non=>cases a;exact PySem.EqNone.ne_int_none<|cO I q<|by simp
  |int j=>obtain⟨b,rfl⟩:=a;exact ne_int<|cO I q<|congrArg not RQ
  |str j=>obtain⟨b,rfl⟩:=a;exact PySem.EqMixed.ne_int_str<|cO I q<|by simp
  |_=>exact absurd (c) bp
 |str i=>
  obtain⟨t,rfl⟩:=d;cases y with
  |non=>cases a;exact PySem.EqNone.ne_str_none<|cO I q<|by simp
  |bl j=>cases a;exact PySem.EqMixed.ne_str_bool<|cO I q<|by simp
  |int j=>obtain⟨b,rfl⟩:=a;exact PySem.EqMixed.ne_str_int<|cO I q<|by simp
  |str j=>obtain⟨b,rfl⟩:=a;exact ne_str<|cO I q<|congrArg not Qz
  |_=>exact absurd (c) bp
 |byt i=>
  obtain⟨t,rfl⟩:=d;cases y with
  |byt j=>obtain⟨b,rfl⟩:=a;exact W.ne_bytes<|cO I q<|congrArg not Ql
  |_=>exact absurd (c) bp
 |_=>cases y<;>exact absurd (c) bp
theorem afI:OpR X (eM .Lt) (rI0 λi j=>.bl<|decide<|i<j):=acH λ_ _ _ _ _ _ _ q=>lt_int q
theorem afg:OpR X (eM .Gt) (rI0 λi j=>.bl<|decide<|j<i):=acH λ_ _ _ _ _ _ _ q=>gt_int q
theorem afN:OpR X (eM .GtE) (rI0 λi j=>.bl<|decide<|j<=i):=acH λ_ _ _ _ _ _ _ q=>ge_int q
theorem acg:OpR X (eM .Is) (λx y H Q=>y=.non/\Q (.bl<|decide<|x=.non) H):=by
 intro c s d H x y v u Q I a b h;obtain⟨rfl,q⟩:=h;cases b;refine is_none_gen<|cO I q ?_;cases x<;>first
  |(cases a;rfl)
  |(obtain⟨t,rfl⟩:=a;rfl)
theorem abe:OpR X (eM .IsNot) (λx y H Q=>y=.non/\Q (.bl<|!decide (x=.non)) H):=by
 intro c s d H x y v u Q I a b h;obtain⟨rfl,q⟩:=h;cases b;refine isnot_none_gen<|cO I q ?_;cases x<;>first
  |(cases a;rfl)
  |(obtain⟨t,rfl⟩:=a;rfl)
theorem bz (b:Expr){o:CmpOp}(h:o≠.In:=by decide)(C:o≠.NotIn:=by decide):lh o b=false:=by
 have a:(o==CmpOp.In)=false:=by cases o<;>first|rfl|exact absurd rfl h
 have c:(o==CmpOp.NotIn)=false:=by cases o<;>first|rfl|exact absurd rfl C
 cases b<;>simp[lh,a,c]
theorem ZG (J:OpR X (eM op) r)(U:PE X a ta)(o:PE X b tb)(C:lh op b=false):PE X (.Compare a [op] [b] pos) (tOp r ta tb):=by
 intro d s i H Q I h;exact wpAny_Compare1 (adi U o I h λv u g x y c j e f q=>J d g i c x y v u Q j e f q) C
def aex (t:TE):TT:=λa H Q=>t a H λx H'=>∃k,x=.bl k/\Q k H'
theorem aaX (J:OpR X (eM op) r)(U:PE X a ta)(o:PE X b tb)(C:lh op b=false):PT X (.Compare a [op] [b] pos) (aex<|tOp r ta tb):=by
 intro f s g H Q I h;refine wpAny_isTrue_Compare1 (thn (U f s g H _ I h) λv t d=>xq2 d λx n j E l=>thn (o f t g n _ j l) λu p d=>xq2 d λy m D F A=>
  thn (J f p g m x y v u _ D E F A) λc G ⟨z,B,i,q,k,e,w⟩=>?_) C
 subst e;cases q;exact mE ⟨B,i,w⟩
theorem zg:(ai:Nat)<2^63:=by rw[so];decide
theorem MP:OpR X (iP .Add) (λx y H Q=>∃i j,x=.str i/\y=.str j/\i.length+j.length<=ai/\Q (.str<|i++j) H):=by
 intro e s f H x y v u Q I b c h;obtain⟨i,j,rfl,rfl,d,q⟩:=h;obtain⟨t,rfl⟩:=b;obtain⟨a,rfl⟩:=c;exact add_str (λa tk=>⟨.str<|i++j,H,I.tok _,⟨_,rfl⟩,q⟩) d
theorem vals1 (r:Vals [x] us):∃u,us=[u]/\RelV x u:=by
 cases r with
 |cons r1 r2=>cases r2;exact⟨_,rfl,r1⟩
theorem vals2 (r:Vals [x,y] us):∃u o,us=[u,o]/\RelV x u/\RelV y o:=by
 cases r with
 |cons r1 r2=>
  cases r2 with
  |cons r3 r4=>cases r4;exact⟨_,_,rfl,r1,r3⟩
theorem XN:gU X (.builtin "abs") (λxs H Q=>∃i,xs=[.int i]/\Q (.int<|if i<0 then -i else i) H):=by
 intro b s c H xs a Q I r h;obtain⟨i,rfl,q⟩:=h;obtain⟨u,rfl,t,rfl⟩:=vals1 r;exact call_abs_int λu tk=>⟨.int<|if i<0 then -i else i,H,I.tok _,⟨_,rfl⟩,q⟩
theorem HJ:gU X (.type "str") (λxs H Q=>∃i,xs=[.int i]/\i.natAbs.log2<1920/\Q (.str<|toString i) H):=by
 intro c s d H xs b Q I r h;obtain⟨i,rfl,a,q⟩:=h;obtain⟨u,rfl,t,rfl⟩:=vals1 r;exact PySem.P.str_of_int a ⟨.str _,H,I.tok _,⟨_,rfl⟩,q⟩
end
structure acF (h:Heap)(x dx C:Addr)(mA:Zp):Prop where
 obj:h.get? x=some (W.instObj C dx)
 ns:h.Ns1 dx mA
 ne:dx≠x
theorem T9 {h:Heap}(n:h.Ns1 dx mA):∃C,h.get? dx=some C/\∀name,W.lookIn name C=some (mA name):=by
 refine Vt n λo c k i hd j _ f=>?_;refine⟨o,i,λname=>?_⟩;have e:=f name;unfold nsFind findBy at e;rw[← Array.find?_toList] at e;unfold W.lookIn;rw[hd];dsimp only;split
 ·rename_i y q;rw[q] at e;exact congrArg some e
 ·rename_i q;rw[q] at e;have a:c.toList.any (·.refKey)=false:=by
   rw[List.any_eq_false];intro y g;obtain⟨z,t,b⟩:=j y<|Ap.mp g;simp[DictEntry.refKey,b]
  have d:¬c.toList.any (·.refKey)=true:=by rw[a];exact bp
  rw[if_neg d];exact congrArg some e
theorem acF.look (I:acF h x dx C mA):∃o,W.InstAt h x (W.instObj C dx) C (some o)/\∀name,W.lookIn name o=some (mA name):=
 let⟨o,ho,hl⟩:=T9 I.ns
 ⟨o,⟨I.obj,rfl,rfl,ho⟩,hl⟩
section
variable {prog:bE}{w:eI}{A:fm}{E:Zs}{s:aI}{K:bo}{x dx C f:Addr}{mA:Zp}{name:Str}{v:ax}
end
theorem z9.some_of (r:z9 (some v) o):∃u,o=some u/\RelV v u:=by
 cases o with
 |none=>exact(r).elim
 |some u=>exact⟨u,rfl,r⟩
section
theorem aaq (I:HOk P w H h)(e:H a=some (.ins C dx fs)):∃o,acF h a dx C o/\(∀f,z9 (fs.lookup f)<|o f)/\PySem.Within o (fs.map (·.1))/\fs.length<=1000/\H dx=some (.own a):=by
 obtain⟨d,z,b,c,o,n,r,q⟩:=(I a _ e);exact⟨o,⟨c,n,b⟩,r,q,z,d⟩
end
structure Cls (K:bo)(C:Addr):Prop where
 pg:W.plainGet K C yT=true
 hd:W.hasDictIn K C=true
 po:W.plainOver K C=true
 sa:xh K (.ref C) "__setattr__" = some (some (.builtin "object.__setattr__"))
theorem Cls.get {K:bo}{C:Addr}(c:Cls K C)(f:Str):W.plainGet K C f=true:=c.pg
section
variable {X:Cx}{π:Zl}{σ:St}{H:Hp}{s:aI}{a C dx:Addr}{fs:List (Str×V)}{f:Str}{v:V}{A:fm}{E:Zs}
end
section
end
section
inductive wQ (K:bo)(H:Hp):V->ax->Prop where
 |non:wQ K H .non (.type "NoneType")
 |bl (x:Bool):wQ K H (.bl x) (.type "bool")
 |int (i:Int):wQ K H (.int i) (.type "int")
 |str (x:Str):wQ K H (.str x) (.type "str")
 |flt (x:UInt64):wQ K H (.flt x) (.type "float")
 |lst {a:Addr} {xs:List V} (e:H a=some (.lst xs)):wQ K H (.ref a) (.type "list")
 |frz {a:Addr} {o:Obj} {xs:List V} (e:H a=some (.frz o (.lst xs))):wQ K H (.ref a) (.type "list")
 |tup {a:Addr} {xs:List V} (e:H a=some (.tup xs)):wQ K H (.ref a) (.type "tuple")
 |dK {a:Addr} {ι:List (Key×V)} (e:Rd H a (.dK ι)):wQ K H (.ref a) (.type "dict")
 |odd {a:Addr} {n:Nat} (e:H a=some (.odd n)):wQ K H (.ref a) (.type "dict")
 |dT {a:Addr} {T:Addr->List V->Prop} {ι:List (List Kt×V)} (e:H a=some (.dT T ι)):wQ K H (.ref a) (.type "dict")
 |ins {a C dx:Addr} {fs:List (Str×V)} (e:H a=some (.ins C dx fs)) (cl:Cls K C) (ha:xh K (.ref C) "__class__" = some (some (.builtin "object.__class__")))
   (hn:W.specialIn K (.builtin "object.__class__") "__get__" = some (some (.builtin "getset_descriptor.__get__"))) (htk:W.takesIn K (.builtin "object.__class__")=some true)
   (hm:W.mroIn K C (.type "object")=some true):wQ K H (.ref a) (.ref C)
theorem U5 (I:Inv X π σ H s)(U:RelV x u)(ty:wQ X.K H x t)(e:fw X.K t c=some b)(h:∀tk,Q (.bool b) { s with toks:=tk }):
  bt (cx X.prog X.w) A (call (.builtin "isinstance") [u,c]) Q E s:=by
 cases ty with
 |non=>cases(U);exact jv W.kitx_none I.kIn gu e (λz=>nomatch z) h
 |bl y=>cases(U);exact jv W.kitx_bool I.kIn gu e (λz=>nomatch z) h
 |int i=>obtain⟨t,q⟩:=(U);cases q;exact jv W.kitx_int I.kIn gu e (λz=>nomatch z) h
 |str y=>obtain⟨t,q⟩:=(U);cases q;exact jv W.kitx_str I.kIn gu e (λz=>nomatch z) h
 |flt y=>obtain⟨t,q⟩:=(U);cases q;exact jv W.kitx_float I.kIn gu e (λz=>nomatch z) h
 | @lst a g ea=>
  cases(U);obtain⟨_,_,n,_,d⟩:=(I.hok a _ ea);exact jv W.kitx_list I.kIn ⟨_,d,rfl⟩ e (λz=>nomatch z) h
 | @frz a ob g ea=>
  cases(U);obtain⟨_,_,_,n,_,d⟩:=(I.hok a _ ea);exact jv W.kitx_list I.kIn ⟨_,d,rfl⟩ e (λz=>nomatch z) h
 | @tup a g ea=>
  cases(U);obtain⟨_,_,_,p⟩:=(I.hok a _ ea);obtain⟨o,d,f,_⟩:=p;exact jv W.kitx_tuple I.kIn ⟨o,d,f⟩ e (λz=>nomatch z) h
 | @dK a ι ea=>
  cases(U);obtain⟨_,_,l,_,p⟩:=(ea.ok I.hok);refine Ry p λo k j d f _=>?_;exact jv W.kitx_dict I.kIn ⟨o,d,f.1⟩ e (λz=>nomatch z) h
 | @odd a n ea=>
  cases(show u=eK a from U);obtain⟨_,_,o,k,j,d,f,_⟩:=(show gO X.prog X.w H s.heap a (.odd n) from I.hok a _ ea);exact jv W.kitx_dict I.kIn ⟨o,d,f.1⟩ e (λz=>nomatch z) h
 | @dT a T ι ea=>
  cases(U);obtain⟨_,_,g,_,o,k,j,d,f,_⟩:=(I.hok a _ ea);exact jv W.kitx_dict I.kIn ⟨o,d,f.1⟩ e (λz=>nomatch z) h
 | @ins a C dx fs ea cl ha hn htk hm=>
  cases(U);obtain⟨m,O,_⟩:=aaq I.hok ea;obtain⟨r,J,_⟩:=O.look;exact jv (W.kitx_own (cl.get _) cl.hd ha hn htk hm) I.kIn J e (λz=>nomatch z) h
end
structure gG (k:Nat)(A:fm):Prop where
 hd:A.handled=none
 dp:A.depth+3*k+5<recursionLimit
 un:A.units+16*k+200<pk
 gd:A.guards=some []
theorem gG.mono (r:gG k A)(h:j<=k):gG j A:=⟨r.hd,by have:=r.dp;lia,by have:=r.un;lia,r.gd⟩
theorem gG.deeper (r:gG (k+1) A)(env:Env):gG k (A.deeper env):=
 ⟨r.hd,by have:=r.dp;show A.depth+1+3*k+5<_;lia,by have:=r.un;show A.units+3+16*k+200<_;lia,r.gd⟩
theorem gG.depth (r:gG k A):A.depth<recursionLimit:=by have:=r.dp;lia
theorem gG.units (r:gG k A):A.units+64<pk:=by have:=r.un;lia
theorem gG.adV (r:gG k A):A.units<pk:=by have:=r.un;lia
def acC:TA:=λ_ H Q=>Q [] H
def R0 (C:TE)(o:TA):TA:=λa H Q=>C a H λx d=>o a d λb c=>Q (x::b) c
section
theorem jh:PA X [] acC:=λ_ _ _ _ H Q I h=>uS ⟨[],H,I,.nil,h⟩
theorem cL (J:PE X e te)(o:PA X es t)(C:ag (e::es) X.env=(false,eval e X.env)::ag es X.env:=by rfl):PA X (e::es) (R0 te t):=by
 intro a c s d H Q I h;rw[C];show bt _ _ (spliced ((false,eval e X.env)::iE a (ag es X.env))) _ _ s;refine oP<|thn (J c s d H _ I h) λu l b=>xq2 b λx k f p g=>?_;exact thn (o a c l d k _ f g) λr v b=>xq2 b λj i n q m=>⟨x::j,i,n,.cons p q,m⟩
def ahd (t:TA):TE:=λc H Q=>t c H λa b=>a.length<=ai/\∀p,b p=none->Q (.ref p) (upd b p<|.tup a)
def agS (t:TA):TE:=λc H Q=>t c H λa b=>a.length<=ai/\∀p,b p=none->Q (.ref p) (upd b p<|.lst a)
theorem Wi (h:PA X es t):PE X (.Tuple es x1 pos) (ahd t):=by
 intro j s l H Q I d;refine wpAny_Tuple_spliced<|thn (h pos j s l H _ I d) λg c ⟨i,k,a,r,z,q⟩=>⟨by rw[← r.length];exact z,?_⟩;have f:=a.hok.fresh<|aS _;refine⟨.ref c.heap.objs.size,upd k c.heap.objs.size<|.tup i,a.laid (λb u e=>ar _ e) (aS _) ?_,rfl,q _ f⟩;exact⟨z,g,r,⟨_,bg _ rfl,rfl,_,rfl,rfl⟩⟩
theorem YL (h:PA X es t):PE X (.List es pos) (agS t):=by
 intro j s l H Q I d;refine wpAny_List_spliced<|thn (h pos j s l H _ I d) λg c ⟨i,k,a,r,z,q⟩=>⟨by rw[← r.length];exact z,?_⟩;have f:=a.hok.fresh<|aS _;refine⟨.ref c.heap.objs.size,upd k c.heap.objs.size<|.lst i,a.laid (λb u e=>ar _ e) (aS _) ?_,rfl,q _ f⟩;exact⟨z,g,0,r,bg _ rfl⟩
end
abbrev Sp:=List V->Hp->VK->XK->Prop
abbrev CXT:=List Env->Hp->aI->XK->Zs
structure aba (P:bE)(w:eI)(K:bo)(mg:Zp)(base:Heap)(A:fm)(outer:List Env)(s:aI)(H:Hp):Prop where
 frames:A.frames=some outer
 mod:Mod K mg base
 bs:∀b o,base.get? b=some o->s.heap.get? b=some o/\H b=none
 bsz:base.objs.size<=s.heap.objs.size
 vI:s.heap.FunFrames base outer
 frf:∀b∈frs outer,H b=none
 hok:HOk P w H s.heap
 bare:xc s.gens
def CE (o:List Env)(P:bE)(w:eI)(H:Hp)(s:aI)(Q:VK)(u:ax)(s':aI):Prop:=
 ∃v H',s'.os=s.os/\xc s'.gens/\Un (frs o) [] H H' s.heap s'.heap/\HOk P w H' s'.heap/\RelV v u/\Q v H'
def CR (CX:CXT)(o:List Env)(P:bE)(w:eI)(H:Hp)(s:aI)(Q:VK)(E:XK)(r:Result)(s':aI):Prop:=
 match r with
 | .ok (.ret u)=>CE o P w H s Q u s'
 | .ok _=>False
 | .error e=>CX o H s E e s'
structure ph (P:bE)(w:eI)(K:bo)(mg:Zp)(base:Heap)(CX:CXT)(k:Nat)(f:Addr)(fd:iL)(ps:List Str)(sp:Sp):Prop where
 len:∀vs H Q E,sp vs H Q E->vs.length=ps.length
 run:∀(A:fm) (outer:List Env) (s:aI) (H:Hp) (args:Args) (us:List ax) (vs:List V) (Q:VK) (E:XK),gG k A->aba P w K mg base A outer s H->BS s fd args (ps.zip us)->Vals vs us->sp vs H Q E->
  AF (cx P w) A (.call (.ref f) args) (CR CX outer P w H s Q E) s
theorem ph.imp {P:bE}{w:eI}{K:bo}{mg:Zp}{o:Heap}{CX:CXT}{k:Nat}{f:Addr}{J:iL}{ps:List Str}{sp I:Sp}(F:ph P w K mg o CX k f J ps sp)
  (h:∀C H Q E,I C H Q E->sp C H Q E):ph P w K mg o CX k f J ps I:=
 ⟨λC H Q E q=>F.len C H Q E<|h _ _ _ _ q,λA a s H b e C Q E g i c d j=>F.run A a s H b e C Q E g i c d<|h _ _ _ _ j⟩
section
theorem Inv.env0 (I:Inv X π σ H s):aba X.prog X.w X.K X.mg X.base X.A X.stack s H:=
 ⟨I.ok.frames,I.ok.mod,I.bs,hV I.ok.bsz I.sz,I.stack,I.Im,I.hok,I.bare⟩
theorem Inv.after (I:Inv X π σ H s)(h:CE X.stack X.prog X.w H s Q u s'):EP X π σ Q u s':=by
 refine Km h λv H' f a un c r q=>?_;obtain⟨i,g,d,t,e⟩:=s';obtain rfl:e=s.os:=f;exact⟨v,H',I.call un c a λb z=>absurd z (by simp),r,q⟩
end
def aey (sp:Sp)(o:List V)(E:XK)(t:TA):TE:=λc H Q=>t c H λa b=>sp (a++o) b Q E
def Binds (K:bo)(o:iL)(ps:List Str)(ds:List ax):Prop:=
 ∀(s:aI) (a:List ax),K.In s.heap->(a++ds).length=ps.length->BS s o ⟨a,[]⟩ (ps.zip<|a++ds)
theorem Binds.all {K:bo}{o:iL}{ps:List Str}(h:∀us:List ax,us.length=ps.length->bindArgs o ⟨us,[]⟩=pure (ps.zip us)):Binds K o ps []:=λs us _ a=>by
 rw[dc] at a ⊢;exact .of_eq<|h us a
def Passes (CX:CXT)(X:Cx)(E:XK):Prop:=∀(b:Zl) (c:St) (H:Hp) (s:aI) (e:ax) (a:aI),Inv X b c H s->CX X.stack H s E e a->X.xe e a
section
variable {X:Cx}{CX:CXT}{k:Nat}{f C:Addr}{fd:iL}{ps:List Str}{sp:Sp}{dvs:List V}{ds:List ax}{E:XK}{x m:Str}{p pos apos:Pos}{e o:Expr}{es:List Expr}{ta:TE}{t:TA}
theorem adb (F:ph X.prog X.w X.K X.mg X.base CX k f fd ps sp)(hr:gG k X.A)(J:Binds X.K fd ps ds)(hd:Vals dvs ds)(U:Passes CX X E)
  (I:Inv X π σ H s) (r:Vals vs us) (h:sp (vs++dvs) H Q E):bt (cx X.prog X.w) X.A (call (.ref f) us) (EP X π σ Q) X.xe s:=by
 have b:=r.append hd;have c:(us++ds).length=ps.length:=by rw[← b.length];exact F.len _ _ _ _ h
 refine wpAny_call<|yY (F.run X.A X.stack s H ⟨us,[]⟩ (us++ds) (vs++dvs) Q E hr I.env0 (J s us I.kIn c) b h) λr d a=>?_;cases r with
 |error e=>exact U π σ H s e d I a
 |ok fl=>
  cases fl with
  |ret u=>exact I.after a
  |next=>exact ko a
  |brk=>exact ko a
  |cont=>exact ko a
theorem Aj (F:ph X.prog X.w X.K X.mg X.base CX k f fd ps sp)(hr:gG k X.A)(hg:Gl X x)(hm:X.mg x=some (.ref f))(hk:AX X.K (.ref f)=true)(U:Binds X.K fd ps ds)(hd:Vals dvs ds)(hx:Passes CX X E)
  (ha:PA X (e::es) t) (J:(x==("__debug__":Str))=false:=by decide) (he:ag (e::es) X.env=(false,eval e X.env)::ag es X.env:=by rfl) (ξ:(iE pos<|ag es X.env).any (·.1)=false:=by rfl):
  PE X (.Call (.Name x p) (e::es) [] pos) (aey sp dvs E t):=by
 intro c s d H Q I h;refine kB<|wO I hg hm ?_ J;refine W.callWith_K I.ok.mod.kin hk (thn (ha pos c s d H _ I h) λi l b=>xq2 b λg j a r q=>⟨a.kIn,?_⟩) he ξ;exact adb F hr U hd hx a r q
end
section
end
structure bj (N P:List Str)(sc:x8):Prop where
 kind:sc.kind=.function
 co:sc.isCoroutine=false
 gen:sc.isGenerator=false
 nd:N.Nodup
 pre:N.take P.length=P
 par:∀x∈P,sc.names.lookup x=some .local\/sc.names.lookup x=some .cell
 nofree:∀y∈sc.names,y.2≠.free
theorem GK {ve:Str->Option xi}{x:Str}:∀{binds:List (Str×ax)} {m:Zp},(∀v,(x,v)∉binds)->bindL ve binds m x=m x
 |[],_,_=>rfl
 |(n,v)::r,m,h=>by
  unfold bindL;rw[GK λw a=>h w<|ah _ a];split
  ·have:x≠n:=by rintro rfl;exact h v av
   simp[this]
  ·rfl
theorem G8 {ve:Str->Option xi}{x:Str}:∀{binds:List (Str×ax)} {m:Zp},(∀v,(x,v)∉binds)->bindC ve binds m x=m x
 |[],_,_=>rfl
 |(n,v)::r,m,h=>by
  unfold bindC;rw[G8 λw a=>h w<|ah _ a];split
  ·rfl
  ·have:x≠n:=by rintro rfl;exact h v av
   simp[this]
theorem G9 {ve:Str->Option xi}{x:Str}{v:ax}:∀{P:List Str} {o:List ax} {i:Nat} {m:Zp},P.Nodup->P[i]? = some x->o[i]? = some v->ve x=some .local->
  bindL ve (P.zip o) m x=some v
 |[],_,_,_,_,h,_,_=>by simp at h
 |_::_,[],_,_,_,_,h,_=>by simp at h
 |p::P,w::o,0,m,nd,h1,h2,hk=>by
  simp at h1 h2;subst h1;subst h2;show bindL ve ((p,w)::P.zip o) m p=_;unfold bindL;rw[GK λv a=>(kq.mp nd).1 (sv a).1,if_pos hk]
  simp
 |p::P,w::o,i+1,m,nd,h1,h2,hk=>by
  show bindL ve ((p,w)::P.zip o) m x=_;unfold bindL;exact G9 (kq.mp nd).2 (by simpa using h1) (by simpa using h2) hk
theorem Gz {ve:Str->Option xi}{x:Str}{v:ax}:∀{P:List Str} {o:List ax} {i:Nat} {m:Zp},P.Nodup->P[i]? = some x->o[i]? = some v->ve x≠some .local->
  bindC ve (P.zip o) m x=some v
 |[],_,_,_,_,h,_,_=>by simp at h
 |_::_,[],_,_,_,_,h,_=>by simp at h
 |p::P,w::o,0,m,nd,h1,h2,hk=>by
  simp at h1 h2;subst h1;subst h2;show bindC ve ((p,w)::P.zip o) m p=_;unfold bindC;rw[G8 λv a=>(kq.mp nd).1 (sv a).1,if_neg hk]
  simp
 |p::P,w::o,i+1,m,nd,h1,h2,hk=>by
  show bindC ve ((p,w)::P.zip o) m x=_;unfold bindC;exact Gz (kq.mp nd).2 (by simpa using h1) (by simpa using h2) hk
noncomputable def start (N:List Str)(o:List V):St:=o.map some++c9 (N.length-o.length) none
noncomputable def pq (CX:CXT)(P:bE)(w:eI)(K:bo)(mg:Zp)(I:Heap)(N:List Str)(C:Str)(scope:x8)(f:Addr)(J:ax)(A:fm)(o:List Env)(s:aI)(H:Hp)(E:XK):Cx where
 prog:=P
 w:=w
 K:=K
 mg:=mg
 base:=I
 A:=A.deeper<|y6 C scope s.heap.objs.size f J
 N:=N
 s₀:=s
 H₀:=H
 env:=y6 C scope s.heap.objs.size f J
 outer:=o
 stack:=y6 C scope s.heap.objs.size f J::o
 ex:=[]
 calm:=true
 fn:=λ_=>true
 pn:=[]
 xe:=λe b=>bt (cx P w) (A.deeper<|y6 C scope s.heap.objs.size f J) (leaving (y6 C scope s.heap.objs.size f J) e) (λ_ a=>CX o H s E e a) (λc a=>CX o H s E c a) b
theorem Ko {o:x8}(h:o.names.lookup x=some .cell):∃c,(cellsFrom n o.names []).lookup x=some c:=by
 have q:=W.cellsFrom_some o.names n []<|.inl h;exact vi.mp q
theorem Uj {CX:CXT}{P:bE}{w:eI}{K:bo}{mg:Zp}{I:Heap}{N ps:List Str}{C:Str}{scope:x8}{f:Addr}{cd:ax}{A:fm}{o:List Env}{s s1:aI}{H:Hp}{E:XK}{us:List ax}{U:List V}
  (S:bj N ps scope) (hd:A.handled=none) (J:aba P w K mg I A o s H) (hl:U.length=ps.length) (r:Vals U us)
  (x:InCallC s s.heap.objs.size (bindL (y6 C scope s.heap.objs.size f cd).kindOf (ps.zip us) λ_=>none) (cellsFrom (s.heap.objs.size+1) scope.names []) (bindC (y6 C scope s.heap.objs.size f cd).kindOf (ps.zip us) λ_=>none) s1):
  Inv (pq CX P w K mg I N C scope f cd A o s H E) [] (start N U) H s1:=by
 have L:ps.length<=N.length:=by have:=congrArg xk S.pre;rw[lT] at this;lia
 obtain⟨n,tk,rfl,B⟩:=x.done;have g:∀b:Addr,b∉(pq CX P w K mg I N C scope f cd A o s H E).ex:=λb z=>absurd (show b∈([]:List Addr) from z) (by simp);refine⟨⟨J.mod,S.kind,rfl,rfl,aS _,λy z c n d=>?_,λy j=>?_,λy c _ h=>?_,λ_=>hd,Around.frames_deeper J.frames,.inr ⟨rfl,rfl⟩,λb z=>absurd z<|g b,J.bs,J.bsz,λb _ _=>g b,λb z=>absurd z<|g b,J.vI,J.frf⟩,
  rfl,J.bare,Un.kept B,⟨_,x.toInCall.ns,λi y v n d M=>?_⟩,λy c h=>⟨_,x.cell y c h⟩,J.hok.fresh<|aS _,λy c h=>?_,λp l=>absurd (show p∈([]:Zl) from l) (by simp),J.hok.kept B,?_⟩
 ·exact name_of_addr x.apart (lx n)<|lx d
 ·have j:=j;rcases j with j|j
  ·exact Ko j
  ·exact absurd rfl<|S.nofree _<|lx j
 ·exact BE<|x.above y c<|lx h
 ·have t:i<U.length:=by
   unfold start at d;by_cases t:i<U.length
   ·exact t
   ·rw[cp<|by simpa using t] at d;rw[gv] at d;split at d<;>cases d
  have G:U[i]? = some v:=by
   unfold start at d;rw[cf (by simpa using t),a5] at d;cases e:U[i]? with
   |none=>rw[e] at d;cases d
   |some a=>rw[e] at d;cases d;rfl
  obtain⟨u,D,F⟩:=r.get G;have l:ps[i]? = some y:=by
   rw[← S.pre,vj<|by lia];exact n
  have m:ps.Nodup:=by rw[← S.pre];exact S.nd.sublist<|List.take_sublist _ _
  refine⟨u,F,?_⟩;rcases S.par y (dy l) with k|k
  ·exact .inl ⟨k,G9 m l D k⟩
  ·obtain⟨c,e⟩:=Ko k;refine .inr ⟨.inl k,c,e,?_⟩;have q:=x.cell y c e;rw[Gz m l D (by show scope.names.lookup y≠_;rw[k];decide)] at q;exact q
 ·exact J.hok.fresh<|BE<|x.above y c<|lx h
 ·unfold start;show _=N.length;rw[be,a6,fS]
  lia
theorem ae9 {CX:CXT}{P:bE}{w:eI}{K:bo}{mg:Zp}{base:Heap}{k:Nat}{f:Addr}{name U:Str}{params:Arguments}{body:List Stmt}{scope:x8}{dV kV doc pm cdv ct oc:ax}{an od:Option Addr}
  {osl:Array (Option ax)} {N ps:List Str} {sp:Sp} (lk:K.lookup f=some ⟨oc,od,.func<|AY name U params body scope dV kV doc pm an cdv ct,osl⟩) (hcd:W.codeIn K cdv U=true) (S:bj N ps scope)
  (len:∀vs H Q E,sp vs H Q E->vs.length=ps.length)
  (hbody:∀(A:fm) (C:List Env) (s:aI) (H:Hp) (vs:List V) (Q:VK) (E:XK),gG k (A.deeper<|y6 U scope s.heap.objs.size f cdv)->sp vs H Q E->
   ∃t,PSs (pq CX P w K mg base N U scope f cdv A C s H E) body t/\t { nx:=λ_ H'=>Q .non H',rt:=Q } (start N vs) H):
  ph P w K mg base CX (k+1) f (AY name U params body scope dV kV doc pm an cdv ct) ps sp:=by
 refine⟨len,λA C s H z M vs Q E j h L r g=>?_⟩;have F:=len _ _ _ _ g;have KX:K.In s.heap:=h.mod.kin.keeps λb o e=>(h.bs b o e).1;have l:s.heap.NoLimit:=h.mod.nolimit.keeps λb o e=>(h.bs b o e).1;have c:∀y∈ps.zip M,scope.names.lookup y.1=some .local\/(scope.names.lookup y.1=some .cell/\((cellsFrom (s.heap.objs.size+1) scope.names []).lookup y.1).isSome=true):=λ⟨n,v⟩ D=>by
  rcases S.par n (sv D).1 with q|q
  ·exact .inl q
  ·exact .inr ⟨q,W.cellsFrom_some _ _ _<|.inl q⟩
 refine codeAny_call_function j.depth (KX _ _ lk) rfl S.co S.gen rfl (W.codeRec_of KX hcd)<|L _ _ _ _ ?_;refine wpAny_newFunctionEnv_cells S.kind c λG O p x=>?_;subst O;refine⟨l.keeps x.toInCall.keep,codeAny_func ?_⟩;obtain⟨t,R,B⟩:=hbody A C s H vs Q E (j.deeper _) g;have I:Inv (pq CX P w K mg base N U scope f cdv A C s H E) [] (start N vs) H p:=Uj S j.hd h F r x;refine iA (R [] p (start N vs) H _ I B) (λT i d=>?_) λe i d=>d;have fin:∀{a:St} {H':Hp} {v:V} {u:ax},Inv (pq CX P w K mg base N U scope f cdv A C s H E) [] a H' i->RelV v u->Q v H'->CE C P w H s Q u i:=
  λ{a H' v u} J m q=>⟨v,H',J.os,J.bare,J.base,J.hok,m,q⟩
 cases T with
 |ret u=>
  refine Ry d λv a H' J m q=>?_;exact fin J m q
 |next=>
  obtain⟨a,H',J,q⟩:=d;exact fin (v:=V.non) (u:=i7) J rfl q
 |brk=>
  obtain⟨_,_,_,q⟩:=d;exact ko q
 |cont=>
  obtain⟨_,_,_,q⟩:=d;exact ko q
section
variable {X:Cx}{x:Str}{p pos:Pos}{e:Expr}{es:List Expr}{t:TA}{id T:String}{r:List V->Hp->VK->Prop}
def tCB (r:List V->Hp->VK->Prop)(t:TA):TE:=λc H Q=>t c H λa b=>r a b Q
theorem uo (hc:gU X (.builtin id) r)(hg:Gl X x)(U:X.mg x=none)(C:bP x=some (.builtin id))(ha:PA X (e::es) t)(hn:x≠"__name__":=by decide)(o:(x==("__debug__":Str))=false:=by decide)
  (he:ag (e::es) X.env=(false,eval e X.env)::ag es X.env:=by rfl) (J:(iE pos<|ag es X.env).any (·.1)=false:=by rfl):PE X (.Call (.Name x p) (e::es) [] pos) (tCB r t):=by
 intro a s b H Q I h;refine kB<|rF I hg U C ?_ hn o;exact PyProof.Rows.callWith_builtin1 (thn (ha pos a s b H _ I h) λd k i=>xq2 i λc j f l g=>hc a k b j c d Q f l g) he J
theorem uN (hc:gU X (.type T) r)(hg:Gl X x)(U:X.mg x=none)(C:bP x=some (.type T))(ha:PA X (e::es) t)(hn:x≠"__name__":=by decide)(o:(x==("__debug__":Str))=false:=by decide)
  (he:ag (e::es) X.env=(false,eval e X.env)::ag es X.env:=by rfl) (J:(iE pos<|ag es X.env).any (·.1)=false:=by rfl):PE X (.Call (.Name x p) (e::es) [] pos) (tCB r t):=by
 intro a s b H Q I h;refine kB<|rF I hg U C ?_ hn o;exact eS (thn (ha pos a s b H _ I h) λd k i=>xq2 i λc j f l g=>hc a k b j c d Q f l g) he J
end
end L2
namespace HT
open PySem PyProof.Rows
theorem aes (A:fm)(s:aI)(a:Int)(t:Tok)(c:Int)(u:Tok):∃e,A8 A s (.int a t) (.int c u) e/\(e=true↔a=c):=
 ⟨(a==c),SeqAt.EqAt.int_int a t c u,by simp⟩
theorem aeJ (A:fm)(s:aI)(a:Int)(t:Tok)(c:Int)(u:Tok)(prog:bE)(w:eI)(E:Zs)(Q:Zs)(h:Q (.bool<|decide<|a<c) s):
  bt (cx prog w) A (richCompare .Lt (.int a t)<|.int c u) Q E s:=
 (PyProof.Rows.lt_int h:bt (cx prog w) A (eM .Lt (.int a t)<|.int c u) Q E s)
section
open PySem.SeqAt
open PySem.AutoSeq1 (wpAny_loadPart')
open PySem.MeetsSeq PySem.MeetsSeq2 PySem.MeetsSeq3
end
section
variable {prog:bE}{w:eI}{A:fm}{E:Zs}{s:aI}
theorem abD (J:IsTup s.heap t vs.toArray)(hb:IsTup s.heap b ws.toArray)(I:vs≠[])
  (h1:ws=[]->Q (.ref t) s) (U:ws≠[]->Q (.ref s.heap.objs.size) { s with heap:=s.heap.push { cls:=.type "tuple",data:=.seq (vs++ws).toArray } })
  (hsz:vs.length+ws.length<=ai):bt (cx prog w) A (iP .Add (.ref t)<|.ref b) Q E s:=by
 obtain⟨⟨C,q,o,k⟩,h,l,n,hd⟩:=id J;obtain⟨⟨p,g,j,c⟩,a,d,m,f⟩:=id hb;simp only at l hd d f;subst l hd d f;have e:vs.toArray++ws.toArray=(vs++ws).toArray:=by simp
 by_cases i:ws=[]
 ·exact y7 ⟨_,h,rfl⟩ ⟨_,a,rfl⟩ xB AZ pz oQ (oy _ _)
   (tuple_addW1 t b vs.toArray ws.toArray n m q g k c (by simpa using I) (by simp[i])) ⟨h,a,h1 i⟩
 ·refine y7 ⟨_,h,rfl⟩ ⟨_,a,rfl⟩ xB AZ pz oQ (oy _ _)
   (tuple_addW2 t b vs.toArray ws.toArray n m q g k c (by simpa using I) (by simpa using i) (by rw[a7,a7];exact hsz)) ⟨h,a,?_⟩
  rw[e];exact U i
noncomputable def sIx (n d:Nat):Option Int->Nat
 |none=>d
 |some v=>if v<0 then(v+(n:Int)).toNat else min v.toNat n
theorem aaW (n d k:Nat):sIx n d (some (k:Int))=min k n:=by
 show(if(k:Int)<0 then((k:Int)+(n:Int)).toNat else min (k:Int).toNat n)=min k n;rw[if_neg (by lia),mP]
theorem ac2 (n d:Nat)(hd:d<=n)(o:Option Int):sIx n d o<=n:=by
 cases o with
 |none=>exact hd
 |some v=>
  show(if v<0 then(v+(n:Int)).toNat else min v.toNat n)<=n;by_cases a:v<0
  ·rw[if_pos a];lia
  ·rw[if_neg a];exact Nat.min_le_right _ _
theorem RJ (v:Int)(n d:Nat):(if v<0 then max (v+(n:Int)) 0 else min v (n:Int))=((sIx n d (some v):Nat):Int):=by
 show(if v<0 then max (v+(n:Int)) 0 else min v (n:Int))=(((if v<0 then(v+(n:Int)).toNat else min v.toNat n):Nat):Int);by_cases a:v<0
 ·simp only[if_pos a];lia
 ·simp only[if_neg a];lia
theorem NZ (lo o:Option Int)(n:Nat):nz lo o 1 (n:Int)=(((sIx n 0 lo:Nat):Int),((sIx n n o:Nat):Int)):=by
 have a:¬((1:Int)<0):=by lia
 unfold nz;simp only[a,if_false];refine Prod.ext ?_ ?_
 ·cases lo with
  |none=>rfl
  |some v=>exact RJ v n 0
 ·cases o with
  |none=>rfl
  |some v=>exact RJ v n n
theorem Nm (i j:Nat):kH (i:Int) (j:Int) 1=j-i:=by
 unfold kH;have a:(1:Int)>0:=by lia
 simp only[a,if_true,Int.ediv_one];split<;>lia
theorem DY (p:BF v o)(h:Q o s):bt (cx prog w) A (Builtin.Slice.slicePartIndex v) Q E s:=by
 cases p with
 |none=>exact slicePart_none h
 |int i t=>exact slicePart_int h
theorem yV {C:Addr}{I J:ax}{lo o:Option Int}{n:Nat}{Q:Int×Int×Nat->aI->Prop}(hs:s.heap.IsSliceOf C I J .none)(U:BF I lo)(pu:BF J o)
  (h:Q (((sIx n 0 lo:Nat):Int),1,sIx n n o-sIx n 0 lo) s):bt (cx prog w) A (sR (.ref C)<|pure (n:Int)) Q E s:=by
 obtain⟨d,b,c,a⟩:=id hs;unfold sR Builtin.Slice.sliceFields;refine ae<|ae<|og b a rfl<|ae<|og b a rfl<|ae<|og b a rfl<|af ?_;refine ae<|slicePart_none ?_;show bt _ _ (if((1:Int)==0)=true then _ else _) _ _ s;rw[if_neg<|by decide];refine ae<|DY U<|ae<|DY pu<|ae<|af ?_;show bt _ _ (match nz lo o 1 (n:Int) with|(lo,o)=>pure (lo,(1:Int),kH lo o 1)) _ _ s;rw[NZ lo o n];show bt _ _ (pure (((sIx n 0 lo:Nat):Int),(1:Int),kH ((sIx n 0 lo:Nat):Int) ((sIx n n o:Nat):Int) 1)) _ _ s;rw[Nm];exact af h
theorem Xg (xs:Array ax)(i k:Nat):((cq k).filterMap λ(m:Nat)=>xs[((i:Int)+(m:Int)*1).toNat]?).toArray=((xs.toList.drop i).take k).toArray:=by
 have e:(λ(m:Nat)=>xs[((i:Int)+(m:Int)*1).toNat]?)=λm=>xs[i+m]?:=by
  funext m
  have:((i:Int)+(m:Int)*1).toNat=i+m:=by lia
  rw[this]
 rw[e]
 have:=pick_run xs i k
 rw[List.filterMap_map] at this;have a:((λx=>xs[x]?)∘λx=>i+x)=λm=>xs[i+m]?:=rfl;rw[a] at this;rw[this]
theorem yf {t I:Addr}{items:Array ax}{U vu:ax}{lo o:Option Int}{Q:Zs}(C:IsTup s.heap t items)(J:s.heap.IsSliceOf I U vu .none)(pl:BF U lo)(pu:BF vu o)
  (hw:¬(sIx items.size 0 lo=0/\sIx items.size items.size o=items.size))
  (h:Q (.ref s.heap.objs.size) { s with heap:=s.heap.push { cls:=.type "tuple",data:=.seq ((items.toList.drop<|sIx items.size 0 lo).take<|sIx items.size items.size o-sIx items.size 0 lo).toArray } })
  (hsz:items.size<=ai):bt (cx prog w) A (AG (.ref t)<|.ref I) Q E s:=by
 have a:sizeOk (.seq ((items.toList.drop<|sIx items.size 0 lo).take<|sIx items.size items.size o-sIx items.size 0 lo).toArray):=by
  show((items.toList.drop<|sIx items.size 0 lo).take<|sIx items.size items.size o-sIx items.size 0 lo).toArray.size<=ai;rw[a7,lT,nN,nX]
  lia
 have i:sIx items.size items.size o<=items.size:=ac2 _ _ (aS _) o;obtain⟨f,b,d,g⟩:=id J;have e:s.TypeIs (.ref I) "slice":=⟨f,b,d⟩;unfold AG
 try with_reducible refine fF ?_
 first|refine ae (af ?_)|skip
 refine ae<|wpAny_sequenceKey C.typeIs (by decide) ?_;refine ae (gy (name:=eB "__getitem__") C.typeIs kQ
  (fT kQ C.typeIs entry_tuple_getitem ?_<|args_tuple_getitem _ _))
 show bt _ _ (sP (.ref t) >>= _) _ _ s;refine ae<|tupleItemsOf_ C ?_;refine ae<|wpAny_typeOf e ?_;rw[if_pos<|by decide];refine ae<|yV J pl pu ?_;have c:¬((((sIx items.size 0 lo:Nat):Int)==0&&(1:Int)==1&&(sIx items.size items.size o-sIx items.size 0 lo)==items.size)=true):=by
  intro q;rw[l3,l3] at q;have j:((sIx items.size 0 lo:Nat):Int)=0:=eq_of_beq q.1.1;have k:sIx items.size items.size o-sIx items.size 0 lo=items.size:=eq_of_beq q.2;exact hw ⟨by lia,by lia⟩
 show bt _ _ (if(((sIx items.size 0 lo:Nat):Int)==0&&(1:Int)==1&&(sIx items.size items.size o-sIx items.size 0 lo)==items.size)=true then _ else _) _ _ s;rw[if_neg c,Xg]
 first
  |exact ae (m:=kS _) (eJ (af ⟨_,rfl,af h⟩) a)
  |exact ae (m:=kS _) (eJ (ae<|af<|af ⟨_,rfl,af h⟩) a)
  |exact ae (ae (m:=kS _)<|eJ (af<|af ⟨_,rfl,af h⟩) a)
  |exact ae (ae (m:=kS _)<|eJ (af ⟨_,rfl,af h⟩) a)
end
end HT
namespace L2
open PySem PySem.Spec PyProof.Rows
abbrev TO:=St->Hp->(Option Int->Hp->Prop)->Prop
def PO (X:Cx)(e:Option Expr)(t:TO):Prop:=
 ∀(b:Zl) (s:aI) (a:St) (H:Hp) (Q:Option Int->Hp->Prop),Inv X b a H s->t a H Q->
  bt (cx X.prog X.w) X.A (evalPart e X.env) (λu c=>∃o H',Inv X b a H' c/\BF u o/\Q o H') X.xe s
def aas:TO:=λ_ H Q=>Q none H
def afC (t:TE):TO:=λb H Q=>t b H λx a=>∃i,x=.int i/\Q (some i) a
section
variable {X:Cx}{e:Expr}{te:TE}{lo hi:Option Expr}{tl th:TO}{pos p2:Pos}
theorem aax:PO X none aas:=by
 intro a s b H Q I h;rw[evalPart_none];exact af ⟨none,H,I,.none,h⟩
theorem Z7 (h:PE X e te):PO X (some e) (afC te):=by
 intro f s j H Q I b;rw[evalPart_some];refine thn (h f s j H _ I b) λu l d=>xq2 d λx g a k c=>?_;obtain⟨i,rfl,q⟩:=c;obtain⟨t,rfl⟩:=k;exact⟨some i,g,a,.int i t,q⟩
def SlR (X:Cx)(r:V->Option Int->Option Int->Hp->VK->Prop):Prop:=
 ∀(b:Zl) (s:aI) (d:St) (H:Hp) (x:V) (v c e:ax) (lo hi:Option Int) (a:Addr) (Q:VK),Inv X b d H s->RelV x v->s.heap.IsSliceOf a c e .none->BF c lo->BF e hi->r x lo hi H Q->
  ∃T id,Bi (.type T) "__getitem__" = pure (some<|.builtin id)/\s.TypeIs v T/\bt (cx X.prog X.w) X.A (AG v<|.ref a) (EP X b d Q) X.xe s
def tSl (r:V->Option Int->Option Int->Hp->VK->Prop)(te:TE)(tl th:TO):TE:=λa H Q=>te a H λx b=>tl a b λl c=>th a c λu d=>r x l u d Q
theorem YG (C:SlR X r)(U:PE X e te)(o:PO X lo tl)(J:PO X hi th):PE X (.Subscript e (.Slice lo hi none p2) pos) (tSl r te tl th):=by
 intro c s d H Q I h;refine Subscript_<|thn (U c s d H _ I h) λv F i=>xq2 i λx D m N p=>?_;refine wpAny_Slice<|thn (o c F d D _ m p) λg E ⟨l,y,M,G,L⟩=>thn (J c E d y _ M L) λf a i=>?_;refine CT i λu j k pu K=>?_;rw[evalPart_none];refine af ?_;have n:Inv X c d j { a with heap:=a.heap.push { cls:=.type "slice",data:=.fields #[g,f,.none] } }:=k.kept (t':=a.toks) λb O q=>ar _ q;refine CT (C c { a with heap:=a.heap.push { cls:=.type "slice",data:=.fields #[g,f,.none] } } d j x v g f l u a.heap.objs.size Q n N (Heap.IsSliceOf.new ..) G pu K) λT id z B t=>?_;show bt (cx X.prog X.w) X.A (A0 e (.Slice lo hi none p2) v<|.ref a.heap.objs.size) (EP X c d Q) X.xe { a with heap:=a.heap.push { cls:=.type "slice",data:=.fields #[g,f,.none] } };exact tail_any (ops:=[.ref a.heap.objs.size,v]) B z t<|by with_unfolding_all rfl
def Uk (xs:List V)(lo hi:Option Int):List V:=(xs.drop<|HT.sIx xs.length 0 lo).take<|HT.sIx xs.length xs.length hi-HT.sIx xs.length 0 lo
theorem zH (xs:List V)(lo hi:Option Int):(Uk xs lo hi).length<=xs.length:=by
 unfold Uk;rw[lT,nN]
 lia
def ag0 (K:bo):V->Option Int->Option Int->Hp->VK->Prop:=λx lo hi H Q=>∃a b,x=.ref a/\SqT K H a b/\
 ¬(HT.sIx b.length 0 lo=0/\HT.sIx b.length b.length hi=b.length)/\∀p,H p=none->Q (.ref p) (upd H p<|.tup<|Uk b lo hi)
theorem ac1:SlR X (ag0 X.K):=by
 intro p s w H x v u y lo hi n Q I k i m pu h;obtain⟨a,c,rfl,l,j,q⟩:=h;cases k;obtain⟨g,r,e,f⟩:=I.tuple l;have d:g.toArray.size=c.length:=by rw[a7];exact r.length.symm
 refine⟨"tuple",_,kQ.lookup,e.typeIs,?_⟩;refine HT.yf e i m pu (by rw[d];exact j) ?_ (by rw[d];exact f);rw[d];refine⟨.ref s.heap.objs.size,_,I.laid (λb t q=>ar _ q) (aS _) ?_,rfl,q _<|I.hok.fresh<|aS _⟩;exact⟨hV (zH c lo hi) f,_,(r.drop<|HT.sIx c.length 0 lo).take<|HT.sIx c.length c.length hi-HT.sIx c.length 0 lo,Bp.new _ _⟩
def aeM (K:bo):R2:=λx y H Q=>∃a b d c,x=.ref a/\y=.ref b/\SqT K H a d/\SqT K H b c/\d≠[]/\d.length+c.length<=ai/\
 (c=[]->Q (.ref a) H)/\(c≠[]->∀p,H p=none->Q (.ref p) (upd H p<|.tup<|d++c))
theorem Vals.JC (r:Vals xs us):us=[]↔xs=[]:=by
 cases r with
 |nil=>simp
 |cons _ _=>simp
theorem Zj:OpR X (iP .Add) (aeM X.K):=by
 intro A s E H x y v u Q I k l h;obtain⟨a,b,t,B,rfl,rfl,p,g,m,f,j,n⟩:=h;cases k;cases l;obtain⟨r,d,i,_⟩:=I.tuple p;obtain⟨e,c,p2,_⟩:=I.tuple g;refine HT.abD i p2 (λz=>m<|d.JC.mp z) (λz=>⟨.ref a,H,I,rfl,j<|c.JC.mp z⟩) (λz=>?_) (by rw[← d.length,← c.length];exact f);refine⟨.ref s.heap.objs.size,_,I.laid (λb D q=>ar _ q) (aS _) ?_,rfl,n (λw=>z<|c.JC.mpr w) _<|I.hok.fresh<|aS _⟩;exact⟨by rw[be];exact f,_,d.append c,Bp.new _ _⟩
end
noncomputable def ixN (n:Nat)(i:Int):Option Nat:=if 0<=i then(if i<n then some i.toNat else none) else if -(n:Int)<=i then some (i+n).toNat else none
def atI {o:Type}(xs:List o)(i:Int):Option o:=(ixN xs.length i).bind λj=>xs[j]?
theorem QW (h:ixN n i=some j):seqIndex? i n=some j/\j<n/\-(n:Int)<=i/\i<n:=by
 unfold ixN at h;by_cases b:0<=i
 ·rw[if_pos b] at h;by_cases a:i<n
  ·rw[if_pos a] at h;have e:=b9 h;exact⟨by rw[seqIndex_of b a,e],by lia,by lia,a⟩
  ·rw[if_neg a] at h;cases h
 ·rw[if_neg b] at h;by_cases a:-(n:Int)<=i
  ·rw[if_pos a] at h;have e:=b9 h;exact⟨by rw[seqIndex_neg (by lia) a,e],by lia,a,by lia⟩
  ·rw[if_neg a] at h;cases h
theorem Ij (h:atI xs i=some v):∃j,seqIndex? i xs.length=some j/\xs[j]? = some v/\j<xs.length/\-(xs.length:Int)<=i/\i<xs.length:=by
 unfold atI at h;cases e:ixN xs.length i with
 |none=>rw[e] at h;cases h
 |some j=>
  rw[e] at h;obtain⟨b,c,d,a⟩:=QW e;exact⟨j,b,h,c,d,a⟩
theorem pO {o:Type}{xs:List o}{j:Nat}{v:o}(h:xs[j]? = some v):atI xs (j:Int)=some v:=by
 have a:=(cb.mp h).1;have e:ixN xs.length (j:Int)=some j:=by
  unfold ixN;rw[if_pos (by lia),if_pos<|by lia];simp
 unfold atI;rw[e];exact h
theorem Xx (xs:List α)(v:α):atI (xs++[v]) (-1)=some v:=by
 have a:(xs++[v]).length=xs.length+1:=by simp
 have e:ixN (xs++[v]).length (-1)=some xs.length:=by
  unfold ixN;rw[a,if_neg (by decide),if_pos<|by lia];congr 1
  lia
 unfold atI;rw[e];show(xs++[v])[xs.length]? = some v
 simp
def Ir (b:Expr):Prop:=∀o i,AH b false o i=operate [o,i] (AG o i)
def IxR (X:Cx)(r:R2):Prop:=
 ∀(b a:Expr) (c:Zl) (s:aI) (d:St) (H:Hp) (x y:V) (v u:ax) (Q:VK),Inv X c d H s->RelV x v->RelV y u->r x y H Q->
  AH a false v u=operate [v,u] (AG v u)->bt (cx X.prog X.w) X.A (A0 b a v u) (EP X c d Q) X.xe s
def MtR (X:Cx)(id:String)(r:V->List V->Hp->VK->Prop):Prop:=
 ∀(c:Zl) (s:aI) (d:St) (H:Hp) (x:V) (a:List V) (v:ax) (b:List ax) (Q:VK),Inv X c d H s->RelV x v->Vals a b->r x a H Q->
  bt (cx X.prog X.w) X.A (call (.builtin id) (v::b)) (EP X c d Q) X.xe s
section
variable {X:Cx}{a b:Expr}{ta tb:TE}{pos:Pos}
theorem afq (C:IxR X r)(U:PE X a ta)(o:PE X b tb)(J:Ir b):PE X (.Subscript a b pos) (tOp r ta tb):=by
 intro d s i H Q I h;exact Subscript_<|adi U o I h λv u g x y c j e f q=>C a b d g i c x y v u Q j e f q<|J _ _
def ag7 (K:bo):R2:=λx y H Q=>∃p a i v,x=.ref p/\y=.int i/\SqL K H p a/\atI a i=some v/\Q v H
def agN (K:bo):R2:=λx y H Q=>∃p a i v,x=.ref p/\y=.int i/\SqT K H p a/\atI a i=some v/\Q v H
def agg:R2:=λx y H Q=>∃z i c,x=.str z/\y=.int i/\z.length<=ai/\atI z.cps.toList i=some c/\Q (.str ⟨#[c]⟩) H
theorem abk:IxR X (ag7 X.K):=by
 intro d f l s n H x y v u Q I L M h g;obtain⟨p,P,i,z,rfl,rfl,D,N,q⟩:=h;cases L;obtain⟨t,rfl⟩:=M;obtain⟨B,r,e,R⟩:=I.list D;refine X6 (Ij N) λj a A S E O=>?_;obtain⟨w,k,c⟩:=r.get A;have F:=r.length;have T:=zg;have fin:EP X l n Q w s:=⟨z,H,I,c,q⟩;by_cases m:0<=i
 ·have b:i.toNat=j:=by
   rw[seqIndex_of m O] at a;exact b9 a
  exact item_listR e.isList m (by lia) (by rw[b];simpa using k) fin g
 ·have b:(i+(B.toArray.size:Int)).toNat=j:=by
   rw[seqIndex_neg (by lia) E] at a;rw[a7,← F];exact b9 a
  exact subscriptTail_builtinR e.isList.typeIs slot_list_getitem.lookup
   (wpAny_getItem_list_neg (Q:=λr G=>r=w/\EP X l n Q r G) e.isList (by lia) (by rw[a7]<;>lia) (by lia) (by rw[b];simpa using k) ⟨rfl,fin⟩) g
theorem acy:IxR X (agN X.K):=by
 intro b c d s f H x y v u Q I B D h n;obtain⟨p,M,i,z,rfl,rfl,k,F,q⟩:=h;cases B;obtain⟨t,rfl⟩:=D;obtain⟨G,r,e,N⟩:=I.tuple k;refine X6 (Ij F) λj E g O L R=>?_;obtain⟨w,A,a⟩:=r.get g;have l:=r.length;have P:=zg;have fin:EP X d f Q w s:=⟨z,H,I,a,q⟩;exact subscriptTail_builtinR e.typeIs slot_tuple_getitem.lookup
  (getItem_tuple (j:=j) (Q:=λr m=>r=w/\EP X d f Q r m) e (by lia) (by lia) (by rw[a7,← l];exact E) (by simpa using A) ⟨rfl,fin⟩) n
theorem adz:IxR X agg:=by
 intro a b B s G H x y v u Q I n p h k;obtain⟨z,i,c,rfl,rfl,D,r,q⟩:=h;obtain⟨t,rfl⟩:=n;obtain⟨A,rfl⟩:=p;refine X6 (Ij r) λj d e E f w=>?_;have g:z.cps.toList.length=z.length:=by simp[Str.length]
 rw[g] at d f w;have F:=zg;exact tail_any (vv s z t) slot_str_getitem.lookup (getItem_str (by
  have m:decide (i < -(2^63:Int))=false:=decide_eq_false (by lia);have l:decide (i≥2^63)=false:=decide_eq_false (by lia);rw[m,l,Bool.or_false]) (by rw[d];simpa using e) ⟨.str ⟨#[c]⟩,H,I.tok _,⟨_,rfl⟩,q⟩) k
theorem NQ (o:List ax)(n j:Nat)(u:ax):sg (·.setIfInBounds j u) { cls:=.type "list",data:=.seq o.toArray n }={ cls:=.type "list",data:=.seq (o.set j u).toArray n }:=by
 simp[sg]
theorem Inv.lst (I:Inv X π σ H s)(h:H p=some (.lst xs)):
  ∃(o:List ax) (n:Nat),Vals xs o/\s.heap.get? p=some { cls:=.type "list",data:=.seq o.toArray n }/\xs.length<=ai:=by
 obtain⟨z,o,n,r,e⟩:=I.hok p _ h;exact⟨o,n,r,e,z⟩
theorem Inv.aei {s:aI}{xs ys:List V}{C o:List ax}(I:Inv X π σ H s)(h:H p=some (.lst xs))
  (U:s.heap.get? p=some { cls:=.type "list",data:=.seq C.toArray n }) (J:f { cls:=.type "list",data:=.seq C.toArray n }={ cls:=.type "list",data:=.seq o.toArray n' }) (r:Vals ys o) (hz:ys.length<=ai) (t:Nat):
  Inv X π σ (upd H p<|.lst ys) { s with heap:=s.heap.update p f,toks:=t }:=by
 have e:(s.heap.update p f).get? p=some { cls:=.type "list",data:=.seq o.toArray n' }:=by
  rw[dE f U (by rw[J]<;>rfl),J]
 refine I.write (by rw[h];trivial) (.inl rfl) (λb u a q=>(bX _ _<|eC a).trans q) ⟨_,e⟩ ?_;exact⟨hz,o,n',r,e⟩
def ae8:V->V->V->Hp->(Hp->Prop)->Prop:=λo i v H Q=>∃p a k j,o=.ref p/\i=.int k/\H p=some (.lst a)/\ixN a.length k=some j/\Q (upd H p<|.lst<|a.set j v)
theorem set_list:aeW X ae8:=by
 intro B s F H o i v L K u Q I z y E h;obtain⟨p,A,k,j,rfl,rfl,e,x,q⟩:=h;cases z;obtain⟨t,rfl⟩:=y;refine CT (I.lst e) λf n r c D=>?_;obtain⟨a,G,l,g⟩:=QW x;have b:=r.length;have M:=zg;have m:Inv X B F (upd H p<|.lst<|A.set j v) { s with heap:=s.heap.update p (sg (·.setIfInBounds j u)) }:=
  I.aei e c (NQ f n j u) (r.set E j) (by rw[List.length_set];exact D) s.toks
 by_cases w:0<=k
 ·have d:k.toNat=j:=by
   rw[seqIndex_of w g] at a;exact b9 a
  exact W.ki_setAt c w (by lia) (by rw[a7,← b];exact g) (by rw[d];exact⟨_,m,q⟩)
 ·have d:(k+(f.toArray.size:Int)).toNat=j:=by
   rw[seqIndex_neg (by lia) l] at a;rw[a7,← b];exact b9 a
  exact W.ki_setBack c (by lia) (by rw[a7,← b];exact l) (by lia) (by rw[d];exact⟨_,m,q⟩)
theorem Ik (lo o:Option Int)(n:Nat):(pT lo o none n).1=((HT.sIx n 0 lo:Nat):Int)/\(pT lo o none n).2.1=((HT.sIx n n o:Nat):Int)/\(pT lo o none n).2.2=1:=by
 refine⟨?_,?_,rfl⟩
 ·cases lo with
  |none=>simp[pT,HT.sIx]
  |some i=>
   simp only[pT,HT.sIx,Option.getD_none,show(1:Int)>0 by decide,if_true];by_cases h:i<0
   ·simp only[h,if_true]<;>lia
   ·simp only[h,if_false]<;>lia
 ·cases o with
  |none=>simp[pT,HT.sIx]
  |some i=>
   simp only[pT,HT.sIx,Option.getD_none,show(1:Int)>0 by decide,if_true];by_cases h:i<0
   ·simp only[h,if_true]<;>lia
   ·simp only[h,if_false]<;>lia
theorem Fj (o:List ax)(lo C:Option Int):slicePick o.toArray lo C none=((o.drop<|HT.sIx o.length 0 lo).take<|HT.sIx o.length o.length C-HT.sIx o.length 0 lo).toArray:=by
 obtain⟨a,b,c⟩:=Ik lo C o.toArray.size;unfold slicePick;rw[a,b,c];simp only[sliceRange_one,pick_run,a7]<;>rfl
def agy (K:bo):V->Option Int->Option Int->Hp->VK->Prop:=λx d c H Q=>∃a b,x=.ref a/\SqL K H a b/\∀p,H p=none->Q (.ref p) (upd H p<|.lst<|Uk b d c)
theorem abv:SlR X (agy X.K):=by
 intro t s y H x v w z d e p Q I j g m pu h;obtain⟨a,c,rfl,l,q⟩:=h;cases j;obtain⟨n,r,f,k⟩:=I.list l;have i:=r.length;refine⟨"list",_,slot_list_getitem.lookup,f.isList.typeIs,?_⟩;refine wpAny_getItem_list_slice f.isList g m pu .none (by simp) ?_ (by rw[a7]<;>lia);rw[Fj,← i];refine⟨.ref s.heap.objs.size,_,I.laid (λb u q=>ar _ q) (aS _) ?_,rfl,q _<|I.hok.fresh<|aS _⟩;exact⟨hV (zH c d e) k,_,0,(r.drop<|HT.sIx c.length 0 d).take<|HT.sIx c.length c.length e-HT.sIx c.length 0 d,bg _ rfl⟩
theorem yh:gU X (.builtin "len") (λxs H Q=>∃p ys,xs=[.ref p]/\(SqL X.K H p ys\/SqT X.K H p ys)/\Q (.int ys.length) H):=by
 intro j s l H xs i Q I r h;obtain⟨p,ys,rfl,a,q⟩:=h;obtain⟨u,rfl,f⟩:=vals1 r;cases f;have k:=zg;rcases a with a|a
 ·obtain⟨e,b,d,g⟩:=I.list a;have c:=b.length;exact Calls.call_len_list d.isList (by simp only[a7]<;>lia) ⟨.int ys.length,H,I.tok _,⟨s.toks+1,by rw[a7,c]⟩,q⟩
 ·obtain⟨e,b,d,g⟩:=I.tuple a;have c:=b.length;exact len_tuple d (by simp only[a7]<;>lia) ⟨.int ys.length,H,I.tok _,⟨s.toks+1,by rw[a7,c]⟩,q⟩
theorem Jk:gU X (.builtin "len") (λxs H Q=>∃z,xs=[.str z]/\z.length<=ai/\Q (.int z.length) H):=by
 intro b s e H xs a Q I r h;obtain⟨z,rfl,c,q⟩:=h;obtain⟨u,rfl,t,rfl⟩:=vals1 r;have d:=zg;exact len_str (by lia) ⟨.int z.length,H,I.tok _,⟨_,rfl⟩,q⟩
theorem Jv:gU X (.type "list") (λxs H Q=>∃p ys,xs=[.ref p]/\(SqL X.K H p ys\/SqT X.K H p ys)/\∀l,H l=none->Q (.ref l) (upd H l<|.lst ys)):=by
 intro x s z H xs A Q I r h;obtain⟨p,ys,rfl,g,q⟩:=h;obtain⟨u,rfl,y⟩:=vals1 r;cases y;have fin:∀(c:List ax),Vals ys c->ys.length<=ai->∀(a:Heap) (f:Nat),(∀b t,s.heap.get? b=some t->a.get? b=some t)->
   a.get? s.heap.objs.size=some { cls:=.type "list",dict:=none,data:=.seq c.toArray f,slots:=#[] }->EP X x z Q (.ref s.heap.objs.size) { s with heap:=a }:=λc d i a f kp e=>
  ⟨.ref s.heap.objs.size,_,I.laid (t':=s.toks) kp (aS _)<|show gO X.prog X.w _ a _ (.lst ys) from⟨i,c,f,d,e⟩,rfl,q _<|I.hok.fresh<|aS _⟩
 rcases g with g|g
 ·obtain⟨c,d,m,i⟩:=I.list g;have v:=d.length;obtain⟨o,j,k,n,hd⟩:=m.isList;exact call_list_seq p (.inl rfl) j k hd (λa f kp e=>fin c d i a f kp e) (by simp only[a7]<;>lia)
 ·obtain⟨c,d,m,i⟩:=I.tuple g;have v:=d.length;obtain⟨o,j,k,n,hd⟩:=m;exact call_list_seq p (.inr rfl) j k hd (λa f kp e=>fin c d i a f kp e) (by simp only[a7]<;>lia)
theorem vm:gU X (.type "tuple") (λxs H Q=>∃p ys,xs=[.ref p]/\((SqL X.K H p ys/\∀l,H l=none->Q (.ref l) (upd H l<|.tup ys))\/(SqT X.K H p ys/\Q (.ref p) H))):=by
 intro j s m H xs v Q I r h;obtain⟨p,ys,rfl,h⟩:=h;obtain⟨u,rfl,n⟩:=vals1 r;cases n;rcases h with⟨d,q⟩|⟨d,q⟩
 ·obtain⟨c,f,g,k⟩:=I.list d;have w:=f.length;refine call_tuple_list g.isList (λa kp=>?_) (by simp only[a7]<;>lia);have i:Inv X j m H { s with heap:=a }:=I.kept (t':=s.toks) kp;have t:Inv X j m (upd H a.objs.size<|.tup ys) { s with heap:=a.push { cls:=.type "tuple",data:=.seq c.toArray } }:=
   i.laid (λb o e=>ar _ e) (aS _) (⟨k,c,f,Bp.new _ _⟩)
  exact⟨.ref a.objs.size,_,t,rfl,q _<|i.hok.fresh<|aS _⟩
 ·obtain⟨c,f,g,k⟩:=I.tuple d;exact call_tuple_same g ⟨.ref p,H,I,rfl,q⟩
def tyV (K:bo)(T:String)(x:V)(H:Hp):Prop:=match x with
 | .str _=>T = "str"
 | .int _=>T = "int"
 | .ref p=>(T = "list"/\∃b,SqL K H p b)\/(T = "tuple"/\∃o,K.lookup p=some o/\o.cls=.type "tuple"/\o.dict=none) ∨
   (T = "dict"/\((∃a,Rd H p<|.dK a)\/∃T a,Rd H p<|.dT T a))\/(T = "set"/\∃S n,H p=some (.set S n))\/(T = "dict"/\∃n,H p=some (.odd n))
 |_=>False
theorem W4 (I:Inv X π σ H s)(r:RelV x v)(ty:tyV X.K T x H):
  s.TypeIs v T/\∀a,v=.ref a->∃ob,s.heap.get? a=some ob/\ob.dict=none:=by
 cases x with
 |str z=>
  obtain⟨t,rfl⟩:=r;cases(ty);exact⟨vv s z t,λ_ e=>nomatch e⟩
 |int i=>
  obtain⟨t,rfl⟩:=r;cases(ty);exact⟨z0 s i t,λ_ e=>nomatch e⟩
 |ref p=>
  cases r;rcases ty with⟨rfl,m,j⟩|⟨rfl,o,d,k,hd⟩|⟨rfl,d⟩|⟨rfl,S,n,d⟩|⟨rfl,n,d⟩
  ·obtain⟨l,_,g,_⟩:=I.list j;refine⟨g.isList.typeIs,λa e=>?_⟩;cases e;refine zT g λo n e c hd _=>?_;exact⟨o,e,hd⟩
  ·refine⟨⟨o,I.kIn p o d,k⟩,λa e=>?_⟩;cases e;exact⟨o,I.kIn _ o d,hd⟩
  ·have z:∃o,s.heap.get? p=some o/\o.ExactDict:=by
    rcases d with⟨h,d⟩|⟨_,h,d⟩
    ·obtain⟨_,_,_,_,o,_,_,e,b,_⟩:=(d.ok I.hok);exact⟨o,e,b⟩
    ·obtain⟨_,_,_,_,o,_,_,e,b,_⟩:=(d.ok I.hok);exact⟨o,e,b⟩
   obtain⟨o,e,b⟩:=z;refine⟨⟨o,e,b.1⟩,λa f=>?_⟩;cases f;exact⟨o,e,b.2.1⟩
  ·refine aeN (I.hok p _ d) λo _ _ _ e b _=>?_;refine⟨⟨o,e,b.1⟩,λa f=>?_⟩;cases f;exact⟨o,e,b.2.1⟩
  ·obtain⟨_,_,o,_,_,e,b,_⟩:=I.hok p _ d;refine⟨⟨o,e,b.1⟩,λa f=>?_⟩;cases f;exact⟨o,e,b.2.1⟩
 |_=>exact ko ty
def agV (K:bo)(T:String)(r:V->List V->Hp->VK->Prop)(o:TE):TE:=λb H Q=>o b H λx a=>tyV K T x a/\r x [] a Q
def tBM (K:bo)(T:String)(r:V->List V->Hp->VK->Prop)(o:TE)(t:TA):TE:=λb H Q=>o b H λx a=>tyV K T x a/\t b a λc d=>r x c d Q
variable {o e:Expr}{es:List Expr}{to:TE}{t:TA}{name:Str}{apos η:Pos}{T id:String}{r:V->List V->Hp->VK->Prop}
theorem Ib (pa:PlainAttrs T)(C:Slot T name id)(J:typeOf (.builtin id)=pure (.type "method_descriptor"))(hm:MtR X id r)(ho:PE X o to)
  (U:gE o name X.env (eval o X.env)=eval o X.env:=by rfl) (ζ:(apos.endLine==η.line)=true:=by rfl):PE X (.Call (.Attribute o name apos) [] [] η) (agV X.K T r to):=by
 intro a s c H Q I h;refine wpAny_Call_method0_late U ζ<|thn (ho a s c H _ I h) λv i e=>?_;refine zT e λx f b d ty k=>?_;obtain⟨j,g⟩:=W4 b d ty;exact⟨T,id,pa,C,J,j,g,pE rfl<|PySem.evalArgs_none<|hm a i c f x [] v [] Q b d .nil k⟩
theorem FZ (pa:PlainAttrs T)(J:Slot T name id)(U:typeOf (.builtin id)=pure (.type "method_descriptor"))(hm:MtR X id r)(ho:PE X o to)(ha:PA X (e::es) t)
  (θ:gE o name X.env (eval o X.env)=eval o X.env:=by rfl)
  (ψ:((iE η<|ag (e::es) X.env).all (λx=>!x.1)&&(tm η<|md [] X.env).all (λx=>x.1.isSome)
   && decide ((e::es).length+([]:List me).length+(if([]:List me).isEmpty then 0 else 1)<30))=true:=by rfl)
  (ζ:(apos.endLine==η.line)=true:=by rfl) (hs:ag (e::es) X.env=(false,eval e X.env)::ag es X.env:=by rfl) (C:(iE η<|ag es X.env).any (·.1)=false:=by rfl):
  PE X (.Call (.Attribute o name apos) (e::es) [] η) (tBM X.K T r to t):=by
 intro b s c H Q I h;refine wpAny_Call_method_late θ ψ ζ rfl<|thn (ho b s c H _ I h) λv q a=>?_;refine zT a λx n d g ty l=>?_;obtain⟨w,j⟩:=W4 d g ty;refine⟨T,id,pa,J,U,w,j,?_⟩;have f:=ha η b q c n _ d l;rw[hs] at f ⊢;refine pE (by show(false||(iE η<|ag es X.env).any (·.1))=false;rw[C]<;>rfl)<|rL ?_;exact thn f λk p a=>xq2 a λi m y z u=>hm b p c m x i v k Q y g z u
end
def MtM (X:Cx)(id:String)(r:V->List V->Hp->VK->Prop):Prop:=
 ∀(c:Zl) (s:aI) (d:St) (H:Hp) (x:V) (a:List V) (v:ax) (b:List ax) (Q:VK),Inv X c d H s->RelV x v->Vals a b->r x a H Q->
  bt (cx X.prog X.w) X.A (call (.builtin id) (v::b)) (EP X c d Q) X.xe s
theorem Vals.one:∀{x:V} {us:List ax},Vals [x] us->∃u,us=[u]/\RelV x u
 |_,_,.cons r .nil=>⟨_,rfl,r⟩
theorem Vals.zero:∀{us:List ax},Vals [] us->us=[]
 |_,.nil=>rfl
theorem Vals.dropLast (h:Vals xs us):Vals xs.dropLast us.dropLast:=by
 induction h with
 |nil=>exact .nil
 |cons r t ih=>
  cases t with
  |nil=>exact .nil
  |cons q t'=>exact .cons r ih
theorem Vals.reverse (h:Vals xs us):Vals xs.reverse us.reverse:=by
 induction h with
 |nil=>exact .nil
 |cons r t ih=>rw[kT,kT];exact Vals.append ih<|.cons r .nil
theorem Oo (l:List α):l.eraseIdx (l.length-1)=l.dropLast:=by
 induction l with
 |nil=>rfl
 |cons a r ih=>
  cases r with
  |nil=>rfl
  |cons b r=>
   have e:(a::b::r).length-1=((b::r).length-1)+1:=by
    have c:(a::b::r).length=r.length+2:=rfl;have d:(b::r).length=r.length+1:=rfl
    lia
   rw[e,List.eraseIdx_cons_succ,ih]
   all_goals rfl
section
variable {X:Cx}{π:Zl}{σ:St}{H:Hp}{s:aI}{l b:Addr}{xs ys zs:List V}
theorem Inv.ad6 {C o:List ax}(I:Inv X π σ H s)(hH:H l=some (.lst xs))
  (e:s.heap.get? l=some { cls:=.type "list",data:=.seq C.toArray n }) (U:f C.toArray=o.toArray) (J:Vals ys o) (hz:ys.length<=ai):
  Inv X π σ (upd H l<|.lst ys) { s with heap:=s.heap.update l<|sg f,toks:=t' }:=by
 have q:=PySem.IsL.update e f;rw[U] at q;refine I.write (by rw[hH];exact trivial) (.inl rfl) (λc u a b=>(bX s.heap (sg f)<|eC a).trans b) ⟨_,q⟩ ?_;exact⟨hz,o,_,J,q⟩
theorem Inv.aby (I:Inv X π σ H s)(C:H l=some (.lst xs)):xs.length<=ai/\∃(o:List ax) (n:Nat),Vals xs o/\xs.length=o.length/\s.heap.get? l=some { cls:=.type "list",data:=.seq o.toArray n }:=by
 obtain⟨z,o,n,r,e⟩:=I.hok l _ C;exact⟨z,o,n,r,r.length,e⟩
theorem XH (h:n<=ai):oz n=false:=by
 unfold oz;exact decide_eq_false<|by lia
end
section
variable {X:Cx}
def Zq:V->List V->Hp->VK->Prop:=λx b H Q=>∃l a y,x=.ref l/\b=[y]/\H l=some (.lst a)/\a.length<ai/\Q .non (upd H l<|.lst<|a++[y])
theorem yG:MtM X "list.append" Zq:=by
 intro m s t H x g v j Q I c f h;obtain⟨l,k,y,rfl,rfl,a,p,q⟩:=h;cases c;obtain⟨u,rfl,d⟩:=f.one;obtain⟨z,b,n,r,i,e⟩:=I.aby a;refine si F.slot_list_append ⟨_,e,rfl⟩ F.entry_list_append (F.args_list_append_2 _ _) (PySem.list_append l b.toArray n u (by rw[a7];lia)) ⟨e,?_⟩;refine⟨.non,_,I.ad6 a e (by simp) (r.append<|.cons d .nil) ?_,rfl,q⟩;rw[be,dP]
 lia
def aau:V->List V->Hp->VK->Prop:=λx d H Q=>∃l b a c,x=.ref l/\d=[.ref b]/\H l=some (.lst a)/\H b=some (.lst c)/\a.length+c.length<=ai/\Q .non (upd H l<|.lst<|a++c)
theorem Ud:MtM X "list.extend" aau:=by
 intro K s N H x A v E Q I p w h;obtain⟨l,b,G,M,rfl,rfl,g,m,L,q⟩:=h;cases p;obtain⟨u,rfl,t⟩:=w.one;cases t;obtain⟨z,d,n,r,D,e⟩:=I.aby g;obtain⟨B,a,i,y,k,j⟩:=I.aby m;have f:d.toArray.size+a.toArray.size<=ai:=by rw[a7,a7];lia
 have c:¬(!d.toArray.isEmpty&&oz (d.toArray.size+a.toArray.size))=true:=by
  rw[XH f,Bool.and_false];exact bp
 refine si F.slot_list_extend ⟨_,e,rfl⟩ F.entry_list_extend (F.args_list_extend_2 _ _)
  (AutoSeq1.list_extend_list_list_0 l d.toArray n b a.toArray i c (by rw[a7];lia)<|by lia) ⟨e,j,?_⟩
 refine⟨.non,_,I.ad6 g e (by simp) (r.append y) ?_,rfl,q⟩;rw[be]
 lia
def ag2:V->List V->Hp->VK->Prop:=λx b H Q=>∃l a y,x=.ref l/\b=[]/\H l=some (.lst a)/\a[a.length-1]? = some y/\Q y (upd H l<|.lst a.dropLast)
theorem Wa:MtM X "list.pop" ag2:=by
 intro A s B H x p v t Q I i k h;obtain⟨l,w,y,rfl,rfl,d,f,q⟩:=h;cases i;have c:=k.zero;subst c;obtain⟨z,a,n,r,g,e⟩:=I.aby d;obtain⟨u,m,j⟩:=r.get f;have b:a.toArray[a.toArray.size-1]? = some u:=by
  show a.toArray[a.length-1]? = some u;rw[← Array.getElem?_toList,← g];exact m
 refine si F.slot_list_pop ⟨_,e,rfl⟩ F.entry_list_pop (F.args_list_pop_1 _) (MeetsSeq.list_pop_last l a.toArray n u b (by rw[a7];lia)) ⟨e,?_⟩;refine⟨y,_,I.ad6 d e ?_ r.dropLast ?_,j,q⟩
 ·show a.toArray.eraseIdxIfInBounds (a.toArray.size-1)=a.dropLast.toArray;rw[a7,List.eraseIdxIfInBounds_toArray,Oo]
 ·rw[List.length_dropLast]
  lia
end
section
variable {prog:bE}{w:eI}{A:fm}{E:Zs}{s:aI}
end
section
end
end L2
namespace Att
open PySem PySem.W PySem.Calls PyProof.Rows
theorem Ag:∀(o:List Int) (C:List ax),WellAll P h C (o.map WData.int)->IntsAre C o:=by
 intro o;induction o with
 |nil=>
  intro C w;rw[tq] at w;cases w;exact .nil
 |cons n o ih=>
  intro C w;rw[ay] at w;cases w with
  |cons a b=>
   cases a;exact .cons _ _<|ih _ b
theorem TQ {l:OpenLaw}(hn:l.most=some n){P:Params}{h:Heap}{o:List WData}{J:List ax}
  (I:l.row.toRowW.claim.pre o=true) (U:WellAll P h J o):
  ∃a vs C,J=[eK a]/\o=[WData.list<|C.map WData.int]/\h.get? a=some { cls:=.type "list",data:=.seq vs.toArray }/\IntsAre vs C/\C.length<=n:=by
 have e:=(pre_splitW I).1;have f:l.pre.holds [] { args:=o }=true:=(pre_splitW I).2;obtain⟨d,r,rfl,j,g⟩:=hasAllW_cons e;obtain rfl:=hasAllW_nil g;obtain⟨p,rfl,i⟩:=hasW_list j;obtain⟨C,rfl⟩:=items_int i;have k:C.length<=n:=by
  unfold OpenLaw.pre at f;have b:(WTm.not<|.lt (.lit<|.int (n:Int))<|.len<|.arg 0).holds [] { args:=[.list<|C.map .int] }=true:=by
   have b:=(holds_andW f).1;rw[hn] at b;exact b
  have c:=condW_of b<|w_not<|w_lt w_lit<|w_len_list<|w_arg rfl;rw[a6] at c;refine Nat.le_of_not_lt λq=>?_;have m:(n:Int)<((C.length:Nat):Int):=by lia
  first
   |(rw[decide_eq_true m] at c;exact absurd c<|by decide)
   |(simp at c;lia)
 cases U with
 |cons w1 w2=>
  cases w2;cases w1 with
  |list ho hall=>exact⟨_,_,C,rfl,rfl,ho,Ag C _ hall,k⟩
theorem Up (l:OpenLaw)(o:List WData):l.row.toRowW.claim.post o (.bool true) o=true:=
 postW_of
  (show WShape.has [] (.bool true) .bool=true by first|rfl|decide|simp[WShape.has,WShape.arms,WShape.armsAll])
  (w_eq_bool (w_res rfl) w_lit) rfl
theorem JS {l:OpenLaw}{d:DefRec}
  (hn:l.most=some n) (hdf:d.params.defaults=[])
  (call:∀(w:eI) (I C:aI) (mg mb:Zp) (fa:Addr) (o:Obj) (pm cd J:ax) (a:Addr) (U:List ax) (ns:List Int),
   Ground q loose [] XP w I mg mb C.heap->YP w C.heap->
   C.heap.get? fa=some o->o.data=.func (docDef d.name d.params d.body d.scope pm cd J)->C.heap.CodeRec cd d.name->mg d.name=some (.ref fa)->
   C.heap.get? a=some { cls:=.type "list",data:=.seq U.toArray }->IntsAre U ns->ns.length<=n->C.gens=#[]->
   AF (cx l.prog w) Bn (.call (.ref fa) ⟨[.ref a],[]⟩) (λr s'=>r=.ok (.ret<|.bool true)/\OldK C.heap s'.heap/\s'.os=C.os/\xc s'.gens) C):
  WalkO q loose XP YP l.row.toRowW d [] (λf U=>B5 f U):=by
 intro w I C mg mb G Y fa o pm cd J D kV v hd g k i x p m as c j E h t;obtain rfl:D=.none:=Dflts.none k hdf;obtain rfl:kV=.none:=Dflts.noKw k;obtain⟨a,U,ns,rfl,rfl,e,b,B⟩:=TQ hn c h;refine enter_call<|yY (call w I C mg mb fa o pm cd J a U ns G Y v (fd_plain hd) g i e b B x) λr s' u=>?_;obtain⟨rfl,s,y,A⟩:=u;exact⟨.inl ⟨.bool true,.bool true,[],rfl,λ_=>rfl,.bool true,Up l _,λ_=>⟨List.Pairwise.nil,λ_ z=>(nomatch z)⟩⟩,s,y,A⟩
section
variable {prog:bE}{w:eI}{A:fm}{E:Zs}{s:aI}{K:Frag}
end
end Att
namespace L2
open PySem PySem.Spec PyProof.Rows
theorem GD:∀{o:List ax} {C:List Int},IntsAre o C->Vals (C.map V.int) o
 |_,_,.nil=>.nil
 |_,_,.cons n t h=>.cons ⟨t,rfl⟩<|GD h
def Only (H:Hp):Prop:=∀b,H b=none\/∃o a,H b=some (.frz o<|.lst a)
theorem Vv {K:bo}{C:aI}{vs:List ax}{ns:List Int}
  (KX:K.In C.heap) (hns:C.heap.Ns dA mg) (I:C.heap.Ns builtinsNs mb) (hbb:∀x:Str,x≠"__name__"->mb x=bP x) (hlim:C.heap.NoLimit) (hg:C.gens=#[])
  (ha:C.heap.get? a=some { cls:=.type "list",data:=.seq vs.toArray }) (hi:IntsAre vs ns) (hl:ns.length<=ai) (hr:gG k Bn)
  (F:∀J:Heap,K.In J->J.Ns dA mg->ph P w K mg J CX k fa fd [x] sp) (U:∀(s:aI) (u:ax),BS s fd ⟨[u],[]⟩ [(x,u)])
  (hsp:∀H:Hp,Only H->SqL K H a (ns.map V.int)->sp [.ref a] H (λv _=>v=.bl true) λ_ _ _=>False)
  (hCX:∀H e s',CX [] H C (λ_ _ _=>False) e s'->False):
  AF (cx P w) Bn (.call (.ref fa) ⟨[.ref a],[]⟩) (λr s'=>r=.ok (.ret<|.bool true)/\OldK C.heap s'.heap/\s'.os=C.os/\xc s'.gens) C:=by
 have N:=GD hi;have i:=hi.length;have g:∀H:Hp,Only H->SqL K H a (ns.map V.int)->HOk P w H C.heap->(∀b,H b≠none->b=a)->(H a≠none->K.lookup a=none)->
   AF (cx P w) Bn (.call (.ref fa) ⟨[.ref a],[]⟩) (λr s'=>r=.ok (.ret<|.bool true)/\OldK C.heap s'.heap/\s'.os=C.os/\xc s'.gens) C:=by
  intro H L hS y M Y;have c:∀{b:Addr} {o:Obj},C.heap.get? b=some o->H b=none->(Hu C.heap H).get? b=some o:=λe n=>Vf e n;have D:∀{b:Addr} {o:Obj} {B:Array A1} {A:Nat},C.heap.get? b=some o->o.data=.dict B A->H b=none:=λ{b o B A} e d=>by
   cases q:H b with
   |none=>rfl
   |some u=>
    have G:=M b (by rw[q];simp);subst G;rw[ha] at e;cases e;have Z:=d;cases Z
  have f:∀{b:Addr} {m:Zp},C.heap.Ns b m->(Hu C.heap H).Ns b m:=λ{b m} ⟨o,B,A,e,d,r⟩=>⟨o,B,A,c e<|D e d,d,r⟩;have p:K.In (Hu C.heap H):=λb o e=>c (KX b o e) (by
   cases q:H b with
   |none=>rfl
   |some u=>
    have G:=M b (by rw[q];simp);subst G;rw[Y (by rw[q];simp)] at e;cases e)
  have X:Mod K mg (Hu C.heap H):=⟨p,f hns,⟨mb,f I,hbb⟩,let⟨mc,h1,h2⟩:=hlim;⟨mc,f h1,h2⟩⟩;have R:aba P w K mg (Hu C.heap H) Bn [] C H:=⟨rfl,X,λb o e=>aaP e,BG<|UL _ _,trivial,λb I=>absurd (show b∈([]:List Addr) from I) (by simp),y,.of_eq hg⟩;refine yY ((F _ p<|f hns).run Bn [] C H ⟨[.ref a],[]⟩ [.ref a] [.ref a] _ _ hr R (U C<|.ref a) (.cons rfl .nil)<|hsp H L hS) λr s' h=>?_;cases r with
  |error e=>exact(hCX H e s' h).elim
  |ok fl=>
   cases fl with
   |next=>exact ko h
   |brk=>exact ko h
   |cont=>exact ko h
   |ret u=>
    refine Km h λv H' os t un j T q=>?_;have W:=q;subst W;obtain rfl:u=Value.bool true:=T;refine⟨rfl,OldK.of_keep λb o e=>?_,os,t⟩;cases q:H b with
    |none=>exact un.keep b o e q (by intro z;exact absurd (show b∈([]:List Addr) from z) (by simp)) (by simp)
    |some u=>
     rcases L b with z|⟨ob,xs,z⟩
     ·rw[q] at z;cases z
     ·have Q:=un.frzs b ob _ z;obtain⟨O,_⟩:=y b _ z;obtain⟨S,_⟩:=j b _ Q;rw[e] at O;cases O;exact S
 cases E:K.lookup a with
 |some o=>
  have e:=KX a o E;rw[ha] at e;cases e;refine g (λ_=>none) (λ_=>.inl rfl) (.inr ⟨_,vs.toArray,_,E,rfl,rfl,rfl,by rw[a7,i];exact hl,by simpa using N⟩) (λb u z=>by have l:=z;cases l) (λb z=>absurd rfl z) λz=>absurd rfl z
 |none=>
  refine g (λb=>if b=a then some (.frz { cls:=.type "list",data:=.seq vs.toArray }<|.lst<|ns.map V.int) else none) (λb=>?_) (.inl<|.inr ⟨{ cls:=.type "list",data:=.seq vs.toArray },if_pos rfl⟩) (λb u z=>?_) (λb z=>?_) λ_=>E
  ·by_cases I:b=a
   ·exact .inr ⟨_,_,if_pos I⟩
   ·exact .inl<|if_neg I
  ·by_cases I:b=a
   ·have l:=(if_pos I).symm.trans z;cases l;subst I;exact⟨ha,by rw[a6];exact hl,vs,_,N,ha⟩
   ·have l:=(if_neg I).symm.trans z;cases l
  ·by_cases I:b=a
   ·exact I
   ·exact absurd (if_neg I) z
theorem aaa {l:W.OpenLaw}{n k:Nat}{q:bE}{I:List Str}{XP:(Zp)->Heap->Prop}{YP:eI->Heap->Prop}{d:DefRec}{K:Params->bo}{CX:eI->CXT}{sp:eI->Sp}{x:Str}
  (hn:l.most=some n) (hn2:n<=ai) (hdf:d.params.defaults=[]) (hr:gG k Bn)
  (hY:∀(w:eI) (h:Heap),YP w h->(K w.params).In h)
  (F:∀(w:eI) (mg:Zp) (U:Addr) (h:Heap),(K w.params).In h->h.Ns dA mg->mg d.name=some (.ref U)->
   ∃fd:iL,(∀(s:aI) (u:ax),BS s fd ⟨[u],[]⟩ [(x,u)])/\
    ∀C:Heap,(K w.params).In C->C.Ns dA mg->ph l.prog w (K w.params) mg C (CX w) k U fd [x] (sp w))
  (hsp:∀(w:eI) (H:Hp) (a:Addr) (J:List Int),J.length<=n->Only H->SqL (K w.params) H a (J.map V.int)->sp w [.ref a] H (λv _=>v=.bl true) λ_ _ _=>False)
  (hCX:∀(w:eI) (H:Hp) (s:aI) (e:ax) (s':aI),CX w [] H s (λ_ _ _=>False) e s'->False):
  W.WalkO q I XP YP l.row.toRowW d [] (λf vs=>B5 f vs):=by
 refine Att.JS hn hdf λw p i mg mb U o L N E a vs J G Y M hd B m j c r A=>?_;have KX:=hY w _ Y;obtain⟨fd,t,z⟩:=F w mg U _ KX G.T.g m;exact Vv KX G.T.g G.T.b G.T.builtins G.T.nolimit A j c (hV r hn2) hr z t (λH y D=>hsp w H a J r y D) λH e s'=>hCX w H i e s'
noncomputable def pN (s:Stmt):Arguments:=match s with
 | .FunctionDef _ a _ _ _ _ _ _ _ _=>a
 |_=>{ posonlyargs:=[],args:=[],vararg:=none,kwonlyargs:=[],kw_defaults:=[],kwarg:=none,defaults:=[] }
def jB (s:Stmt):List Stmt:=match s with
 | .FunctionDef _ _ b _ _ _ _ _ _ _=>b
 |_=>[]
noncomputable def aM (s:Stmt):x8:=match s with
 | .FunctionDef _ _ _ _ _ _ sc _ _ _=>sc
 |_=>{ kind:=.function,names:=[],isGenerator:=false,isCoroutine:=false }
abbrev E0:XK:=λ_ _ _=>False
structure Fun (K:bo)(x qual:Str)(st:Stmt)(f:Addr)(fd:iL):Prop where
 ex:∃(oc:ax) (od:Option Addr) (kV doc pm:ax) (an:Option Addr) (cdv ct:ax) (osl:Array (Option ax)),
  fd=AY x qual (pN st) (jB st) (aM st) .none kV doc pm an cdv ct/\K.lookup f=some ⟨oc,od,.func fd,osl⟩/\W.codeIn K cdv qual=true
 kp:AX K (.ref f)=true
section
variable {P:bE}{w:eI}{K:bo}{mg:Zp}{base:Heap}
theorem Fun.binds {x o:Str}{st:Stmt}{f:Addr}{fd:iL}{ps:List Str}(F:Fun K x o st f fd)
  (h:∀(kV C U:ax) (J:Option Addr) (I ct:ax) (us:List ax),us.length=ps.length->bindArgs (AY x o (pN st) (jB st) (aM st) .none kV C U J I ct) ⟨us,[]⟩=pure (ps.zip us)):Binds K fd ps []:=by
 obtain⟨d,c,kV,C,U,J,I,ct,b,rfl,e,a⟩:=F.ex;exact .all<|h kV C U J I ct
theorem acQ {x o:Str}{st:Stmt}{f:Addr}{oc:ax}{od U:Option Addr}{J:Array (Option ax)}{kV I pm C ct:ax}(l:K.lookup f=some ⟨oc,od,.func<|AY x o (pN st) (jB st) (aM st) .none kV I pm U C ct,J⟩)
  (c:W.codeIn K C o=true) (k:AX K (.ref f)=true):Fun K x o st f (AY x o (pN st) (jB st) (aM st) .none kV I pm U C ct):=⟨⟨oc,od,kV,I,pm,U,C,ct,J,rfl,l,c⟩,k⟩
end
section
end
def aL (H H':Hp):Prop:=∀b o,H b=some o->H' b=some o
theorem aL.refl (H:Hp):aL H H:=λ_ _ h=>h
theorem aL.trans (a:aL H H1)(b:aL H1 H2):aL H H2:=λc o h=>b c o<|a c o h
theorem aL.free (e:aL H H'){l:Addr}(h:H' l=Option.none):H l=Option.none:=by
 cases q:H l with
 |none=>rfl
 |some o=>
  rw[e l o q] at h;cases h
end L2
set_option maxHeartbeats 4000000
namespace Hd
open PySem PySem.Spec PyProof.Rows L2
abbrev St:=L2.St
theorem Ol (h:n<2^k)(hk:0<k):n.log2<k:=by
 by_cases z:n=0
 ·rw[z];exact hk
 ·exact(Nat.log2_lt z).mpr h
@[irreducible] def lmM:Nat:=2^60000
@[irreducible] def lmD:Nat:=2^8900
theorem Xr:lmM=2^60000:=by unfold lmM;rfl
theorem Oa:lmD=2^8900:=by unfold lmD;rfl
theorem bits_le (h:i.natAbs<lmM):kr i<=60000:=by
 unfold kr;split
 ·exact d5 _
 ·rw[Xr] at h;exact Ol h<|by decide
def ae1 (_ j:Int):Prop:=j≠0/\j.natAbs<lmD
def XX (i j:Int):Prop:=i.natAbs<lmM/\j.natAbs<lmM
theorem XX.ok (h:XX i j):IntMulOk i j:=by
 have a:=bits_le h.1;have b:=bits_le h.2;have c:bitsLine=134217728:=rfl;have z:y8 (kr i+kr j)=false:=by
  unfold y8;refine decide_eq_false ?_
  lia
 unfold IntMulOk;rw[z]
 simp
section
theorem Z4 {i:Int}(h:i.natAbs<2^62):kr i<=64:=by
 unfold kr;split
 ·exact d5 _
 ·have:=Ol h (by decide)
  lia
theorem Z5:OpR X (iP .Mult) (rI (λ_ j=>j.natAbs<2^62) λi j=>.int<|i*j):=opI λ_ _ _ _ _ _ _ a q=>mul_int q<|IntMulOk.of_right<|Z4 a
theorem Xv:OpR X (iP .FloorDiv) (rI ae1 λi j=>.int<|i.fdiv j):=
 opI λ_ _ _ _ _ _ _ a q=>floordiv_int a.1 q<|.inl<|PyProof.noPylong_of_log2<|br (Ol (Oa▸a.2)<|by decide)<|by decide
theorem Y7:OpR X (iP .Mult) (rI XX λi j=>.int<|i*j):=opI λ_ _ _ _ _ _ _ a q=>mul_int q a.ok
theorem ac3:OpR X (eM .Is) (λx y H Q=>∃i j,x=.bl i/\y=.bl j/\Q (.bl<|decide<|i=j) H):=by
 intro c s d H x y v u Q I a b h;obtain⟨i,j,rfl,rfl,q⟩:=h;cases a;cases b;cases i<;>cases j<;>exact af (cO I q rfl)
theorem Uu:OpR X (eM .IsNot) (λx y H Q=>∃i j,x=.bl i/\y=.bl j/\Q (.bl<|!decide (i=j)) H):=by
 intro c s d H x y v u Q I a b h;obtain⟨i,j,rfl,rfl,q⟩:=h;cases a;cases b;cases i<;>cases j<;>exact af (cO I q rfl)
end
mutual
inductive DV (K:bo)(H:Hp):V->xC->Prop where
 |non:DV K H .non .none
 |bl (b:Bool):DV K H (.bl b) (.bool b)
 |int (i:Int):DV K H (.int i) (.int i)
 |str (x:Str):DV K H (.str x) (.str x)
 |tup {a:Addr} {xs:List V} {ds:List xC}:SqT K H a xs->DVs K H xs ds->DV K H (.ref a) (.tuple ds)
 |lst {a:Addr} {xs:List V} {ds:List xC}:SqL K H a xs->DVs K H xs ds->DV K H (.ref a) (.list ds)
inductive DVs (K:bo)(H:Hp):List V->List xC->Prop where
 |nil:DVs K H [] []
 |cons {v:V} {vs:List V} {d:xC} {ds:List xC}:DV K H v d->DVs K H vs ds->DVs K H (v::vs) (d::ds)
end
section
mutual
theorem DV.reads (I:Inv X π σ H s):∀{v:V} {d:xC} {u:ax},DV X.K H v d->RelV v u->∃as,Reads s.heap u d as
 |_,_,u,.non,r=>by cases(r);exact⟨_,.none⟩
 |_,_,u,.bl b,r=>by cases(r);exact⟨_,.bool b⟩
 |_,_,u,.int i,r=>by obtain⟨t,e⟩:=(r);subst e;exact⟨_,.int i t⟩
 |_,_,u,.str x,r=>by obtain⟨t,e⟩:=(r);subst e;exact⟨_,.str x t⟩
 |_,_,u,.tup h hs,r=>by
  cases(r);obtain⟨k,j,⟨o,c,g,n,hd⟩,_⟩:=I.tuple h;obtain⟨as,f⟩:=DVs.reads I hs j;exact⟨as,.tuple c g hd<|by simpa using f⟩
 |_,_,u,.lst (a:=a) h hs,r=>by
  cases(show u=eK a from r);obtain⟨k,j,⟨o,n,c,g,_,hd⟩,_⟩:=I.list h;obtain⟨as,f⟩:=DVs.reads I hs j;exact⟨a::as,.list c g hd<|by simpa using f⟩
theorem DVs.reads (I:Inv X π σ H s):∀{o:List V} {ds:List xC} {us:List ax},DVs X.K H o ds->Vals o us->∃as,ReadsAll s.heap us ds as
 |_,_,_,.nil,.nil=>⟨[],.nil⟩
 |_,_,_,.cons h hs,.cons r rs=>by
  obtain⟨as,b⟩:=DV.reads I h r;obtain⟨bs,a⟩:=DVs.reads I hs rs;exact⟨as++bs,.cons b a⟩
end
end
section
def agL (K:bo):R2:=λx y H Q=>∃d e,DV K H x d/\DV K H y e/\kc d=true/\kc e=true/\Q (.bl<|l6 d e) H
def aga (K:bo):R2:=λx y H Q=>∃d e,DV K H x d/\DV K H y e/\kc d=true/\kc e=true/\Q (.bl<|!PyData.eqv d e) H
theorem adX (o:X.A.units+64<pk):OpR X (eM .Eq) (agL X.K):=by
 intro k s l H x y v u Q I c f h;refine uV h λd e hd j a b q=>?_;obtain⟨as,g⟩:=hd.reads I c;obtain⟨bs,i⟩:=j.reads I f;exact eq_dataH g i a b o<|cO I q rfl
theorem adf (o:X.A.units+64<pk):OpR X (eM .NotEq) (aga X.K):=by
 intro k s l H x y v u Q I c f h;refine uV h λd e hd j a b q=>?_;obtain⟨as,g⟩:=hd.reads I c;obtain⟨bs,i⟩:=j.reads I f;exact ne_dataH g i a b o<|cO I q rfl
end
section
noncomputable def aaD:V->Option ax
 | .ty n=>some<|.type n
 | .ref a=>some<|.ref a
 |_=>none
theorem Lp (e:aaD c=some cv)(r:RelV c u):u=cv:=by
 cases c with
 |ty n=>cases e;exact r
 |ref a=>cases e;exact r
 |_=>cases e
end
section
end
def Tr (B:Heap)(e:Addr)(o:Obj)(us:Array ax)(C:ax)(h:Heap):Prop:=
 1<us.size/\∃T q ts,h.get? e=some { o with data:=.fields (us.setIfInBounds 1<|.ref T) }/\B.get? T=none/\T≠e/\h.get? T=some q/\q.data=.fields ts/\ts[3]? = some C
def Fy (B:Heap)(l:List Env)(e:Addr)(o:Obj)(us:Array ax)(C:ax)(h:Heap):Prop:=B.StaysIn h/\B.get? e=none/\h.FunFrames B l/\Tr B e o us C h
section
variable {M:Model}{A:fm}{E:Zs}{s:aI}{B:Heap}{env:Env}{l:List Env}{L e:Addr}{o:Obj}{us vs:Array ax}{Q:Unit->aI->Prop}{fl:ax}
theorem Y5 {C:ax}{nx:Bool}(hA:A.frames=some (env::l))(hf:env.frame=some L)(I:s.heap.FunFrames B (env::l))(J:s.heap.get? e=some { o with data:=.fields us })(hz:1<us.size)(kb:B.StaysIn s.heap)(U:B.get? e=none)
  (q:∀h',Fy B (env::l) e o us (uu L) h'->s.heap.UpToSlots h'->Q () { s with heap:=h' }):
  bt M A (do let a←frameOf env;let pl←entryPlaceOf L nx;let b←AI C a .none (uu L) .none pl;BN (.ref e) 1 b) Q E s:=by
 have p:e∉(env::l).filterMap (·.frame):=λz=>by
  obtain⟨_,x,m,d⟩:=I.mem z;rw[J] at m;cases m;exact d us rfl
 refine ae<|wpAny_frameOf_fun hA I hf λh f=>ae<|wpAny_entryPlaceOf λpl i=>?_;unfold AI newFields;refine ae<|eJ ?_<|i.sizeOk5 _ _ _ _ _;have g:=(f.2.1 e p).trans J;have j:B.StaysIn h:=λb x c=>(f.2.1 b λz=>by rw[(I.mem z).1] at c;cases c).trans (kb b x c);refine l7 (ar _ g) rfl hz<|q _ ?_ ?_
 all_goals
  have n:=qq<|aE g
 ·refine⟨λb x c=>?_,U,I.of_keeps λb x c d=>?_,hz,h.objs.size,_,_,dE _ (ar _ g) rfl,j.fresh,n,(bX _ _ n.symm).trans<|bg h rfl,rfl,?_⟩
  ·exact(bX _ _ λz=>by rw[z,c] at U;cases U).trans (ar _<|j b x c)
  ·obtain⟨k,z⟩:=f.2.2 b x c;exact⟨_,(bX _ _ λw=>by rw[← w,J] at c;cases c;exact d us rfl).trans (ar _ z),rfl⟩
  ·rcases i with rfl|⟨_,_,_,_,_,_,_,rfl⟩<;>simp
 ·intro b x c d;obtain⟨k,z⟩:=f.2.2 b x c;exact⟨k,(bX _ _ λw=>by rw[← w,J] at c;cases c;exact d us rfl).trans (ar _ z)⟩
theorem agC {a b:ax}:(us.setIfInBounds 1 a).setIfInBounds 1 b=us.setIfInBounds 1 b:=by simp
theorem Yz {x:ax}(g:Fy B l e o us fl s.heap):∀T q ts,s.heap.get? T=some q->q.data=.fields ts->ts[3]? = some fl->B.get? T=none->T≠e->s.heap.get? e=some { o with data:=.fields (us.setIfInBounds 1<|.ref T) }->
  Fy B l e o us x (s.heap.update T<|oT (·.setIfInBounds 3 x))/\s.heap.UpToSlots (s.heap.update T<|oT (·.setIfInBounds 3 x)):=by
 intro T q ts h hd n f i r;have c:∀b,b≠T->(s.heap.update T<|oT (·.setIfInBounds 3 x)).get? b=s.heap.get? b:=λb z=>bX _ _ z.symm;have d:∀b y,s.heap.get? b=some y->(∀vs,y.data≠.fields vs)->b≠T:=λb y z a w=>by rw[w,h] at z;cases z;exact a ts hd
 obtain⟨j,k,p,m,_⟩:=g;refine⟨⟨λb y z=>(c b λw=>by rw[w,f] at z;cases z).trans (j b y z),k,p.of_keeps λb y z a=>⟨y,(c b<|d b y z a).trans z,rfl⟩,m,T,_,_,(c e i.symm).trans r,f,i,dE _ h<|qr<|kC hd _,kC hd _,?_⟩,λb y z a=>⟨y.slots,(c b<|d b y z a).trans z⟩⟩
 have:=(fg.mp n).1
 simp[this]
theorem Ax (g:Fy B l e o us fl s.heap)(q:∀h',Fy B l e o us .none h'->s.heap.UpToSlots h'->Q () { s with heap:=h' }):bt M A (setFlight (.ref e) none) Q E s:=by
 obtain⟨_,_,_,z,T,y,ts,c,f,d,a,hd,b⟩:=id g;unfold setFlight;refine ae<|og c rfl (x:=.ref T) (by simp[z]) ?_;rw[if_pos<|show(eK T != i7)=true from by simp]
 have:=Yz (x:=.none) g T y ts a hd b f d c
 exact l7 a hd (fg.mp b).1<|q _ this.1 this.2
theorem RV (I:A.frames=some (env::l))(C:env.frame=some L)(g:Fy B (env::l) e o us .none s.heap)(q:∀h',Fy B (env::l) e o us (uu L) h'->s.heap.UpToSlots h'->Q () { s with heap:=h' }):bt M A (noteFrame (.ref e) env) Q E s:=by
 obtain⟨_,_,_,z,T,y,ts,i,p,k,d,hd,f⟩:=id g;unfold noteFrame;simp only[C];refine ae<|og i rfl (x:=.ref T) (by simp[z]) ?_;rw[if_pos<|show(eK T != i7)=true from by simp];refine ae<|og d hd f ?_;rw[if_neg<|show ¬((i7==uu L)=true) from by simp[uu]];obtain⟨j,m⟩:=Yz (x:=.none) g T y ts d hd f p k i;refine ae<|l7 d hd (fg.mp f).1 ?_;have h:=(bX s.heap (oT (·.setIfInBounds 3 i7)) k).trans i;refine Y5 (us:=us.setIfInBounds 1<|.ref T) I C j.2.2.1 h (by simpa using z) j.1 g.2.1 λn u t=>q n ?_<|m.trans t;obtain⟨a,b,c,w,v,r⟩:=u;rw[agC] at r;exact⟨a,b,c,z,v,r⟩
theorem Fy.tail (g:Fy B (env::l) e o us fl h):Fy B l e o us fl h:=let⟨a,b,⟨_,_,c⟩,d⟩:=g;⟨a,b,c,d⟩
theorem Y4 (C:A.frames=some (env::l))(I:env.frame=some L)(g:Fy B (env::l) e o us .none s.heap)(q:∀h',Fy B l e o us .none h'->s.heap.UpToSlots h'->Q () { s with heap:=h' }):bt M A (leaving env<|.ref e) Q E s:=by
 unfold leaving;exact ae<|RV C I g λh a d=>Ax a λb f c=>q b f.tail<|d.trans c
theorem VH (hA:A.frames=some (env::l))(J:env.frame=some L)(U:s.heap.FunFrames B (env::l))(I:s.heap.get? e=some { o with data:=.fields us })(C:us[1]? = some .none)(kb:B.StaysIn s.heap)(hn:B.get? e=none)
  (q:∀h',Fy B l e o us .none h'->s.heap.UpToSlots h'->Q () { s with heap:=h' }):bt M A (leaving env<|.ref e) Q E s:=by
 unfold leaving noteFrame;simp only[J];refine ae<|ae<|og I rfl C ?_;rw[if_neg<|by decide];exact Y5 hA J U I (fg.mp C).1 kb hn λg c a=>Ax c λf b d=>q f b.tail<|a.trans d
end
theorem gO.at' {P:bE}{w:eI}{H:Hp}{h:Heap}{a:Addr}{o:HO}(x:gO P w H h a o):∃u,h.get? a=some u:=by
 cases o with
 |lst xs=>obtain⟨_,_,_,_,e⟩:=x;exact⟨_,e⟩
 |tup xs=>obtain⟨_,_,_,o,e,_⟩:=x;exact⟨_,e⟩
 |dK ι=>obtain⟨_,_,_,_,o,_,_,e,_⟩:=x;exact⟨_,e⟩
 |odd n=>obtain⟨_,_,o,_,_,e,_⟩:=x;exact⟨_,e⟩
 |dT ι=>obtain⟨_,_,_,_,o,_,_,e,_⟩:=x;exact⟨_,e⟩
 |set S n=>obtain⟨o,_,_,_,e,_⟩:=x;exact⟨_,e⟩
 |ins C dx fs=>obtain⟨_,_,_,e,_⟩:=x;exact⟨_,e⟩
 |own y=>exact x
 |xd fs=>obtain⟨_,⟨_,_,_,e,_⟩,_⟩:=x;exact⟨_,e⟩
 |rng lo hi=>obtain⟨_,_,_,e⟩:=x;exact⟨_,e⟩
 |frz ob u=>obtain⟨e,_⟩:=x;exact⟨_,e⟩
 |tbl ps=>exact⟨_,(x)⟩
 |met f y=>exact⟨_,(x)⟩
 |ext φ=>obtain⟨_,e,_⟩:=x;exact e
structure Fly (P:bE)(w:eI)(outer:List Env)(H:Hp)(s:aI)(e:ax)(s':aI)(ea:Addr)(ob:Obj)(us:Array ax)(B:Heap)(H':Hp):Prop where
 is:e=.ref ea
 os:s'.os=s.os
 bare:xc s'.gens
 fly:Fy B outer ea ob us .none s'.heap
 ctx:us[2]? = some .none
 keep:∀b o,s.heap.get? b=some o->H b=none->b∉frs outer->B.get? b=some o
 slot:∀b o,s.heap.get? b=some o->b∈frs outer->∃sl,s'.heap.get? b=some { o with slots:=sl }
 free:∀b o,s.heap.get? b=some o->H b=none->H' b=none
 there:∀b o,s.heap.get? b=some o->b∉frs outer->∃o',B.get? b=some o'
 tups:∀b xs,H b=some (.tup xs)->H' b=some (.tup xs)
 frzs:∀b o u,H b=some (.frz o u)->H' b=some (.frz o u)
 tbls:∀b ps,H b=some (.tbl ps)->∃more,H' b=some (.tbl (ps++more))
 hok:HOk P w H' B
 new:s.heap.get? ea=none
 nin:H' ea=none
def CX1 (P:bE)(w:eI):CXT:=λa H s E e c=>∃f b d B H',Fly P w a H s e c f b d B H'/\E b.cls b.dict H'
theorem LC {env:Env}{l:List Env}{L b:Addr}(o:env.frame=some L)(h:b∈frs (env::l)):b=L\/b∈frs l:=by
 unfold frs at h;rw[nV,o] at h;rcases a9.mp h with z|z
 ·exact .inl z
 ·exact .inr z
theorem W9 {env:Env}{l:List Env}{b:Addr}(h:b∈frs l):b∈frs (env::l):=by
 unfold frs at h ⊢;obtain⟨e,a,c⟩:=kA.mp h;exact kA.mpr ⟨e,ah _ a,c⟩
section
variable {P:bE}{w:eI}{K:bo}{mg:Zp}{base:Heap}{N:List Str}{qual:Str}{scope:x8}{f:Addr}{cd:ax}{A:fm}{outer:List Env}{s:aI}{H:Hp}{E:XK}
theorem SJ {π:Zl}{σ:St}{J:Hp}{s1:aI}{h':Heap}{C:Addr}{ob:Obj}{us:Array ax}
  (I:Inv (pq (CX1 P w) P w K mg base N qual scope f cd A outer s H E) π σ J s1) (kp:∀b o,s1.heap.get? b=some o->h'.get? b=some o) (new:s1.heap.get? C=none) (U:h'.get? C=some { ob with data:=.fields us }) (u1:us[1]? = some .none) (u2:us[2]? = some .none) (hw:E ob.cls ob.dict J):
  (pq (CX1 P w) P w K mg base N qual scope f cd A outer s H E).xe (.ref C) { s1 with heap:=h' }:=by
 have r:∀h∈(pq (CX1 P w) P w K mg base N qual scope f cd A outer s H E).stack,∀b,h.frame=some b->b∈(pq (CX1 P w) P w K mg base N qual scope f cd A outer s H E).stack.filterMap (·.frame):=
  λh U b g=>kA.mpr ⟨h,U,g⟩
 have i:∀b o,s.heap.get? b=some o->b∉frs outer->b∉(pq (CX1 P w) P w K mg base N qual scope f cd A outer s H E).stack.filterMap (·.frame):=λb o q d g=>by
  rcases LC rfl g with z|z
  ·exact absurd (aE q) (by rw[z];exact hU _)
  ·exact d z
 have nx:∀b:Addr,b∉(pq (CX1 P w) P w K mg base N qual scope f cd A outer s H E).ex:=λb z=>absurd (show b∈([]:List Addr) from z) (by simp);have d:(W.hideAll s1.heap<|frs (pq (CX1 P w) P w K mg base N qual scope f cd A outer s H E).stack).get? C=none:=by
  cases q:(W.hideAll s1.heap<|frs (pq (CX1 P w) P w K mg base N qual scope f cd A outer s H E).stack).get? C with
  |none=>rfl
  |some o=>have:=BD _ q;rw[new] at this;cases this
 refine VH I.ok.frames rfl ((W.funFrames_hide I.stack r).of_keeps λb o q _=>⟨o,kp b o q,rfl⟩) U u1 (λb o q=>kp b o<|BD _ q) d λF t D=>?_;refine⟨C,ob,us,_,J,⟨rfl,I.os,I.bare,t,u2,λb o q n d=>?_,λb o q g=>?_,λb o q n=>I.base.free b o q n<|nx b,λb o q d=>?_,I.base.tups,I.base.frzs,I.base.tbls,λb u e=>?_,?_,?_⟩,hw⟩
 ·exact xb _ (I.base.keep b o q n d<|nx b)<|i b o q d
 ·obtain⟨G,a⟩:=I.base.slot b o q (I.ok.frf b g) g<|nx b;obtain⟨_,k,l,p⟩:=I.ok.vI.mem g;have B:=b9<|q.symm.trans l;obtain⟨m,y⟩:=D b _ (kp _ _ a) λv z=>p v (by rw[← B];exact z);exact⟨m,y⟩
 ·obtain⟨k,a⟩:=I.base.there b o q<|nx b;exact⟨k,xb _ a<|i b o q d⟩
 ·refine(I.hok b u e).stay (λc v j q=>xb _ q λx=>?_) (λ_ q=>q) λ_ _ q=>q;have z:=I.Im c x;rcases j with j|j
  ·rw[j,e] at z;cases z
  ·rw[j] at z;cases z
 ·cases q:s.heap.get? C with
  |none=>rfl
  |some o=>
   obtain⟨k,a⟩:=I.base.there C o q<|nx C;rw[new] at a;cases a
 ·cases q:J C with
  |none=>rfl
  |some o=>
   obtain⟨k,a⟩:=gO.at'<|I.hok C o q;rw[new] at a;cases a
theorem X3 {π:Zl}{σ:St}{J:Hp}{s1:aI}{h':Heap}{U:Addr}{o:ax}{vs:List ax}
  (I:Inv (pq (CX1 P w) P w K mg base N qual scope f cd A outer s H E) π σ J s1) (C:tJ s1.heap h' U o vs) (hw:E o none J):
  (pq (CX1 P w) P w K mg base N qual scope f cd A outer s H E).xe (.ref U) { s1 with heap:=h' }:=by
 obtain⟨t,a,_⟩:=C.there;exact SJ (ob:={ cls:=o }) I C.keeps C.new a rfl rfl hw
theorem aQ:Passes (CX1 P w) (pq (CX1 P w) P w K mg base N qual scope f cd A outer s H E) E:=by
 intro X C Y Z e V I h;obtain⟨j,Q,D,B,H',F,L⟩:=h;obtain rfl:=F.is;have i:∀b o,s.heap.get? b=some o->b∉frs outer->b∉frs (pq (CX1 P w) P w K mg base N qual scope f cd A outer s H E).stack:=λb o q c d=>by
  rcases LC rfl d with z|z
  ·exact absurd (aE q) (by rw[z];exact hU _)
  ·exact c z
 have nx:∀b:Addr,b∉(pq (CX1 P w) P w K mg base N qual scope f cd A outer s H E).ex:=λb z=>absurd (show b∈([]:List Addr) from z) (by simp);refine Y4 I.ok.frames rfl F.fly λT x O=>?_;refine⟨j,Q,D,B,H',⟨rfl,F.os.trans I.os,F.bare,x,F.ctx,λb o q n c=>?_,λb o q d=>?_,λb o q n=>?_,λb o q c=>?_,λb r q=>F.tups b r<|I.base.tups b r q,λb o u q=>F.frzs b o u<|I.base.frzs b o u q,λb R q=>?_,F.hok,?_,F.nin⟩,L⟩
 ·exact F.keep b o (I.base.keep b o q n c<|nx b) (I.base.free b o q n<|nx b)<|i b o q c
 ·obtain⟨W,a⟩:=I.base.slot b o q (I.ok.frf b d) d<|nx b;obtain⟨_,g,k,p⟩:=I.ok.vI.mem d;have M:=b9<|q.symm.trans k;obtain⟨S,m⟩:=F.slot b _ a<|W9 d;obtain⟨l,y⟩:=O b _ m λv z=>p v (by rw[← M];exact z);exact⟨l,y⟩
 ·obtain⟨g,a⟩:=I.base.there b o q<|nx b;exact F.free b g a<|I.base.free b o q n<|nx b
 ·obtain⟨g,a⟩:=I.base.there b o q<|nx b;exact F.there b g a<|i b o q c
 ·obtain⟨t,a⟩:=I.base.tbls b R q;obtain⟨G,m⟩:=F.tbls b _ a;exact⟨t++G,by rw[m,AU]⟩
 ·cases q:s.heap.get? j with
  |none=>rfl
  |some o=>
   obtain⟨g,a⟩:=I.base.there j o q<|nx j;rw[F.new] at a;cases a
end
theorem Ku {P:bE}{w:eI}{X:Cx}:Passes (CX1 P w) X E0:=λ_ _ _ _ _ _ _ ⟨_,_,_,_,_,_,z⟩=>z.elim
def zz (I:Addr)(C:ax)(h:Heap):Prop:=∃o,h.get? I=some o/\o.cls=C/\∃a,o.data=.fields a
section
variable {X:Cx}{π:Zl}{σ:St}{H H':Hp}{s s':aI}{e:ax}{ea:Addr}{ob:Obj}{us:Array ax}{B:Heap}
theorem Fly.inv (F:Fly X.prog X.w X.stack H s e s' ea ob us B H')(I:Inv X π σ H s){C:Heap}{tk:Nat}(k1:B.StaysIn C)(k2:s'.heap.UpToSlots C):Inv X π σ H' { s' with heap:=C,toks:=tk }:=by
 have j:∀b∈frs X.stack,∀o,s.heap.get? b=some o->∀k,o.data≠.fields k:=λb a o q=>by
  obtain⟨_,f,g,h⟩:=I.stack.mem a;have m:o=f:=b9<|q.symm.trans g;rw[m];exact h
 refine I.call' (s':={ s' with heap:=C,toks:=tk }) (ch:=[]) F.os ⟨λb o q n a _=>k1 b o<|F.keep b o q n a,λb o q n a _=>?_,λb o q n _=>F.free b o q n,λb o q _=>?_,F.tups,F.frzs,F.tbls⟩ (F.hok.kept k1) F.bare (λb z=>nomatch z)
 ·obtain⟨l,c⟩:=F.slot b o q a;obtain⟨d,i⟩:=k2 b _ c<|j b a o q;exact⟨d,i⟩
 ·by_cases a:b∈frs X.stack
  ·obtain⟨l,c⟩:=F.slot b o q a;obtain⟨d,i⟩:=k2 b _ c<|j b a o q;exact⟨_,i⟩
  ·obtain⟨f,c⟩:=F.there b o q a;exact⟨f,k1 b f c⟩
end
section
variable {X:Cx}{π:Zl}{σ:St}{H H':Hp}{s s':aI}{e:ax}{ea:Addr}{ob:Obj}{us:Array ax}{B:Heap}
theorem Fly.agX (F:Fly X.prog X.w X.stack H s e s' ea ob us B H')(I:Inv X π σ H s){U:Heap}{tk:Nat}{C:Obj}(k1:B.StaysIn U)(k2:s'.heap.UpToSlots U)(kx:U.get? ea=some C)(kf:∃vs,C.data=.fields vs):
  Inv X π σ (upd H' ea<|.frz C<|.ext<|zz ea C.cls) { s' with heap:=U,toks:=tk }:=by
 have J:=F.inv I (tk:=tk) k1 k2;have r:∀b∈frs X.stack,∀o,s.heap.get? b=some o->∀vs,o.data≠.fields vs:=λb a o q=>by
  obtain⟨_,h,i,l⟩:=I.stack.mem a;have y:o=h:=b9<|q.symm.trans i;rw[y];exact l
 have D:∀b o,s.heap.get? b=some o->b≠ea:=λb o q z=>by rw[z,F.new] at q;cases q
 have d:∀b u,H' b=some u->b≠ea:=λb u q z=>by rw[z,F.nin] at q;cases q
 refine I.call' (s':={ s' with heap:=U,toks:=tk }) (ch:=[]) F.os ⟨λb o q n a _=>k1 b o<|F.keep b o q n a,λb o q n a _=>?_,λb o q n _=>?_,λb o q _=>?_,λb t q=>?_,λb o u q=>?_,λb A q=>?_⟩ (λb u q=>?_) F.bare (λb z=>nomatch z)
 ·obtain⟨x,g⟩:=F.slot b o q a;obtain⟨f,j⟩:=k2 b _ g<|r b a o q;exact⟨f,j⟩
 ·rw[cB<|D b o q];exact F.free b o q n
 ·by_cases a:b∈frs X.stack
  ·obtain⟨x,g⟩:=F.slot b o q a;obtain⟨f,j⟩:=k2 b _ g<|r b a o q;exact⟨_,j⟩
  ·obtain⟨h,g⟩:=F.there b o q a;exact⟨h,k1 b h g⟩
 ·have z:=F.tups b t q;rw[cB<|d b _ z];exact z
 ·have z:=F.frzs b o u q;rw[cB<|d b _ z];exact z
 ·obtain⟨m,z⟩:=F.tbls b A q;exact⟨m,by rw[cB<|d b _ z];exact z⟩
 ·by_cases a:b=ea
  ·subst a;rw[aX] at q;cases q;exact⟨kx,⟨C,kx,rfl,kf⟩,⟨C,kx⟩,λK G ⟨v,p,E⟩ k=>⟨v,k v p,E⟩⟩
  ·rw[cB a] at q;refine(F.hok.kept k1 b u q).stay (λ_ _ _ z=>z) (λc z=>?_) λc t z=>?_
   ·rw[cB<|d c _ z];exact z
   ·rw[cB<|d c _ z];exact z
theorem Oq {i:Nat}{n:Str}{J:Heap}{tk:Nat}{m:Zp}{v:Option ax}(I:Inv X π σ H s)(hN:X.N.Nodup)(U:X.N[i]? = some n)
  (hl:∀(j:Nat) (y:Str) (v:V),X.N[j]? = some y->σ[j]? = some (some v)->Vis X.env.scope y->∃u,RelV v u/\Look X.env s.heap m y u)
  (hn:J.Ns X.env.locals (λy=>if y=n then v else m y)) (C:iX X.env.locals s.heap J):Inv X π (σ.set i none) H { s with heap:=J,toks:=tk }:=by
 have e:i<σ.length:=by rw[I.len];exact(cb.mp U).1
 have d:∀b o,X.s₀.heap.get? b=some o->b≠X.env.locals:=λb o q=>cw<|br (aE q) I.ok.above;have g:∀b u,H b=some u->b≠X.env.locals:=λb u q z=>by rw[z,I.free] at q;cases q
 refine⟨I.ok,I.os,I.bare,⟨λb o q E D t=>?_,λb o q E D t=>?_,I.base.free,λb o q t=>?_,I.base.tups,I.base.frzs,I.base.tbls⟩,⟨_,hn,λj y w a x K=>?_⟩,λy c q=>?_,I.free,I.freeC,λp G=>?_,λb u q=>?_,by simpa using I.len⟩
 ·exact(C.2 b<|d b o q).trans (I.base.keep b o q E D t)
 ·obtain⟨P,a⟩:=I.base.slot b o q E D t;exact⟨P,(C.2 b<|d b o q).trans a⟩
 ·obtain⟨O,a⟩:=I.base.there b o q t;exact⟨O,(C.2 b<|d b o q).trans a⟩
 ·by_cases B:j=i
  ·subst B;rw[aT e] at x;cases x
  ·rw[a0<|eC B] at x;obtain⟨u,r,l⟩:=hl j y w a x K;refine⟨u,r,?_⟩;rcases l with⟨k,z⟩|⟨k,c,z,F⟩
   ·refine .inl ⟨k,?_⟩;have L:y≠n:=λq=>B<|DN hN a<|q▸U;show(if y=n then v else m y)=some u;rw[if_neg L];exact z
   ·exact .inr ⟨k,c,z,F.sameBut C<|I.cne y c z⟩
 ·obtain⟨w,z⟩:=I.cell y c q;exact⟨w,z.sameBut C<|I.cne y c q⟩
 ·obtain⟨a,M,f,A,Q⟩:=I.pin p G;exact⟨(C.2 p.1 f).trans a,M,f,A,Q⟩
 ·refine(I.hok b u q).stay (λc w h z=>(C.2 c ?_).trans z) (λ_ z=>z) λ_ _ z=>z;rcases h with h|h
  ·rw[h];exact g b u q
  ·exact g c _ h
def agr (A:fm)(H:Hp):Prop:=∃x o u a,A.handled=some (.ref x)/\H x=some (.frz o u)/\o.data=.fields a/\a[2]? = some .none
def inh (X:Cx)(ea:Addr):Cx:={ X with A:=X.A.mark<|some<|.ref ea,calm:=false,xe:=λ_ _=>False }
theorem ade (ok:X.Ok)(ea:Addr):(inh X ea).Ok:=
 ⟨ok.mod,ok.kind,ok.glob,ok.blt,ok.above,ok.inj,ok.has,ok.cab,λz=>(by cases(z)),ok.frames,ok.stk,ok.exf,ok.bs,ok.bsz,ok.noex,ok.exfs,ok.vI,ok.frf⟩
theorem PJ (I:Inv X π σ H s)(ea:Addr):Inv (inh X ea) π σ H s:=⟨ade I.ok ea,I.os,I.bare,I.base,I.loc,I.cell,I.free,I.freeC,I.pin,I.hok,I.len⟩
theorem UJ (I:Inv (inh X ea) π σ H s)(ok:X.Ok):Inv X π σ H s:=⟨ok,I.os,I.bare,I.base,I.loc,I.cell,I.free,I.freeC,I.pin,I.hok,I.len⟩
end
def PEx (X:Cx)(e:Expr)(t:St->Hp->VK->XK->Prop):Prop:=
 ∀(b:Zl) (s:aI) (a:St) (H:Hp) (Q:VK) (E:XK),Inv X b a H s->t a H Q E->
  bt (cx X.prog X.w) X.A (eval e X.env) (EP X b a Q) (λx f=>∃c d,Inv X b a c d/\CX1 X.prog X.w X.stack c d E x f) s
def PSx (X:Cx)(o:List Stmt)(t:Ends->(St->XK)->St->Hp->Prop):Prop:=
 ∀(b:Zl) (s:aI) (d:St) (H:Hp) (D:Ends) (E:St->XK),Inv X b d H s->t D E d H->
  bt (cx X.prog X.w) X.A (execs o X.env) (SP X b D) (λx f=>∃a c e,Inv X b a c e/\CX1 X.prog X.w X.stack c e (E a) x f) s
section
variable {X:Cx}{k:Nat}{f:Addr}{fd:iL}{ps:List Str}{sp:Sp}{x:Str}{p pos pos':Pos}{e:Expr}{es:List Expr}{t:TA}
theorem Zo (F:ph X.prog X.w X.K X.mg X.base (CX1 X.prog X.w) k f fd ps sp)(hr:gG k X.A)(hg:Gl X x)(hm:X.mg x=some (.ref f))(hk:AX X.K (.ref f)=true)(hb:Binds X.K fd ps [])
  (ha:PA X.nox (e::es) t) (J:(x==("__debug__":Str))=false:=by decide) (he:ag (e::es) X.env=(false,eval e X.env)::ag es X.env:=by rfl) (ξ:(iE pos<|ag es X.env).any (·.1)=false:=by rfl):
  PEx X (.Call (.Name x p) (e::es) [] pos) (λU H Q E=>t U H λC o=>sp C o Q E):=by
 intro m s U H Q E I h;refine kB<|wO I hg hm ?_ J;refine W.callWith_K I.ok.mod.kin hk (iA (ha pos m s U H _ (I.wish _) h) (λc g l=>xq2 l λC o i r q=>⟨i.Jl.kIn,?_⟩) λ_ _ z=>ko z) he ξ;have d:=i.Jl;have j:(c++[]).length=ps.length:=by rw[dc,← r.length];exact F.len _ _ _ _ q
 have b:=hb g c d.kIn j;rw[dc] at b;refine wpAny_call<|yY (F.run X.A X.stack g o ⟨c,[]⟩ c C Q E hr d.env0 b r q) λr n a=>?_;cases r with
 |error e=>exact⟨o,g,d,a⟩
 |ok fl=>
  cases fl with
  |ret u=>exact d.after a
  |next=>exact ko a
  |brk=>exact ko a
  |cont=>exact ko a
theorem ac8 {st:Stmt}{t:Ends->(St->XK)->St->Hp->Prop}
  (h:∀(C:Zl) (s:aI) (J:St) (H:Hp) (D:Ends) (E:St->XK),Inv X C J H s->t D E J H->
   bt (cx X.prog X.w) X.A (exec st X.env) (SP X C D) (λx s'=>∃o U s1,Inv X C o U s1/\CX1 X.prog X.w X.stack U s1 (E o) x s') s):PSx X [st] t:=by
 intro C s J H D E I b;refine xA<|thn (h C s J H D E I b) λa s1 q=>?_;cases a with
 |next=>exact ma q
 |ret v=>exact q
 |brk=>exact q
 |cont=>exact q
theorem aaT {U:St->Hp->VK->XK->Prop}(he:PEx X e U)(hs:d4 e none pos.line X.env=pure false:=by rfl):PSx X [.Expr e pos] (λD E o H=>U o H (λ_ C=>D.nx o C)<|E o):=
 ac8 λb s o H D E I h=>
  wpAny_Expr_any (iA (he b s o H _ _ I h) (λ_ _ ⟨_,C,d,_,f⟩=>⟨o,C,d,f⟩) λ_ _ ⟨C,a,J,c⟩=>⟨o,C,a,J,c⟩) I.quiet hs
end
def ab1 (i:Nat)(D:Ends):Ends:={ nx:=λa H=>D.nx (a.set i none) H,rt:=D.rt,bk:=λa H=>D.bk (a.set i none) H,ct:=λa H=>D.ct (a.set i none) H }
def agv (K:bo)(C:Addr)(i:Nat)(o:Ends->(St->XK)->St->Hp->Prop)(ts:Addr->TS):TS:=λD g H=>
 o D (λd a f H'=>A2 K a (.ref C)=some true/\∀b c,H' b=none->c.cls=a->c.dict=f->(∃e,c.data=.fields e/\e[2]? = some .none)->ts b (ab1 i D) (d.set i<|some<|.ref b) (upd H' b<|.frz c<|.ext<|zz b a)) g H
theorem acU {X:Cx}{body U:List Stmt}{b₀:Stmt}{x n:Str}{np hpos pos:Pos}{i:Nat}{DC:Addr}{tb:Ends->(St->XK)->St->Hp->Prop}{ts:Addr->TS}
  (hst:X.stack=X.env::X.outer) (hfr:X.env.frame=some X.env.locals) (hb:PSx X body tb) (hN:X.N.Nodup) (hi:X.N[i]? = some n) (hn:X.env.scope.names.lookup n=some .local)
  (hg:Gl X x) (hm:X.mg x=some (.ref DC)) (hs:∀C,PSs (inh X C) (b₀::U)<|ts C) (hd:(x==("__debug__":Str))=false:=by decide):
  PS X (.Try body [.ExceptHandler (some<|.Name x np) (some n) (b₀::U) hpos] [] [] pos) (agv X.K DC i tb ts):=by
 intro g s σ H D I h;refine wpAny_Try_except<|iA (hb g s σ H D _ I h) (λj s1 q=>?_) λx' Q ⟨σ1,H1,s1,J,c⟩=>?_
 ·cases j with
  |next=>exact ma q
  |ret v=>exact q
  |brk=>exact q
  |cont=>exact q
 ·obtain⟨C,M,T,B,H',F,hx,hw⟩:=c;obtain rfl:=F.is;have l:(X.env.scope.kind==.class||(X.env.scope.kind==.module&&X.env.locals != X.env.globals))=false:=by rw[J.ok.kind];rfl
  have f:=F.fly;rw[hst] at f;have R:=J.ok.frames;rw[hst] at R;refine RV R hfr f λh4 g4 V=>?_;refine Ax g4 λh5 t Y=>?_;have P:=F.inv J (tk:=Q.toks) t.1<|V.trans Y;have L:=PJ P C;have x5:∀{O:Heap},Fy B (X.env::X.outer) C M T .none O->∃o,O.get? C=some o/\o.cls=M.cls:=λ⟨_,_,_,_,_,_,_,q,_⟩=>⟨_,q,rfl⟩;refine wpAny_handleBy_cons (codeAny_handlers_test<|wO L hg hm ?_ hd) (by intro q;cases q);obtain⟨o5,e5,c5⟩:=x5 t;have LT:W.Looks (cx X.prog X.w) h5 (typeOf<|.ref C) M.cls:=c5▸(W.Looks.ld e5).andThen .now;refine(W.exm_one P.kIn LT hx).here ?_;refine codeAny_handlers_suite_as ?_;refine Ax t λh6 Z u6=>?_;obtain⟨_,_,_,z6,T6,_,_,e6,_⟩:=id Z;have c6:(T.setIfInBounds 1<|.ref T6)[2]? = some i7:=by rw[Array.getElem?_setIfInBounds_ne<|by decide];exact F.ctx
  have J6:=F.agX J (tk:=Q.toks) Z.1 ((V.trans Y).trans u6) e6 ⟨_,rfl⟩;refine ud (X:=inh X C) (PJ J6 C) hN hi (.inl hn) (show RelV (.ref C) (.ref C) from rfl) (λs7 J7=>?_) (.inr hn);refine iA (hs C g s7 _ _ (ab1 i D) J7<|hw C _ F.nin rfl rfl ⟨_,rfl,c6⟩) (λj S q=>?_) λ_ _ z=>ko z;have go:∀{a:St} {b:Hp},Inv (inh X C) g a b S->(∀{p:aI},Inv X g (a.set i none) b p->SP X g D j p)->
    bt (cx X.prog X.w) X.A (do BM X.env n .none;unbindBehindTheSuite X.env n hpos) (λ_ p=>SP X g D j p) X.xe S:=λe k=>by
   have d:=UJ e J.ok;obtain⟨m,y,hl⟩:=d.loc;exact wpAny_nameGoes_keeps hn y l λh9 v E G=>k<|Oq d hN hi hl E G
  cases j with
  |next=>obtain⟨a,b,e,q⟩:=q;exact go e λd=>⟨_,b,d,q⟩
  |brk=>obtain⟨a,b,e,q⟩:=q;exact go e λd=>⟨_,b,d,q⟩
  |cont=>obtain⟨a,b,e,q⟩:=q;exact go e λd=>⟨_,b,d,q⟩
  |ret u=>obtain⟨v,a,b,e,r,q⟩:=q;exact go e λd=>⟨v,_,b,d,r,q⟩
theorem aam {K:bo}{h:Heap}(X:K.In h)(q:BU K C bmB newId=true):
  ∃bm N nm o bs hdct sn sub ab col dd k0 k1 k2 k3 k5 I,h.get? C=some (excClassObj nm o C N bs bm hdct sn sub ab col dd k0 k1 k2 k3 k5 newId)/\h.Ns N I/\I "__init__" = none/\OwnTail h bmB bm:=by
 unfold BU at q;split at q
 case h_2=>cases q
 case h_1 dd cd sl ho=>
  split at q
  case h_2=>cases q
  case h_1 C' bm k0 k1 k2 k3 n k5 hm hs=>
   simp only[beq_iff_eq,l3,Bool.not_eq_true'] at q;obtain⟨⟨⟨⟨⟨p,g⟩,b⟩,m⟩,c⟩,e⟩:=q;subst p;subst g;obtain⟨nm,bs,j,k,o,hd,sn,sub,ab,col,i⟩:=cd;have d:=hm;have a:=b;subst d;subst a;obtain⟨l⟩:=sl;have f:=hs;subst f;exact⟨bm,k,nm,o,bs,hd,sn,sub,ab,col,dd,k0,k1,k2,k3,k5,_,X _ _ ho,.of_isNs<|W.isNs_of_in X c,W.nsMap_none_of_in X c e,W.tail_of_in X m⟩
section
variable {X:Cx}{x:Str}{e₀:Expr}{np η pos:Pos}{te:TE}{C:Addr}{bmB:List ax}{B newId initId:String}
theorem YS {W:XK}(FB:ExcBaseFacts B newId initId bmB)(hq:PySem.W.excIn X.K C bmB newId=true)(hg:Gl X x)(hm:X.mg x=some (.ref C))(hh:X.A.handled=none)(he:PE X e₀ te)
  (hx:∀(J:Zl) (o:St) (H:Hp) (s:aI) (h':Heap) (ea:Addr) (U:List ax),Inv X J o H s->tJ s.heap h' ea (.ref C) U->W (.ref C) none H->X.xe (.ref ea) { s with heap:=h' })
  (hd:(x==("__debug__":Str))=false:=by decide) (hs:ag [e₀] X.env=(false,eval e₀ X.env)::ag [] X.env:=by rfl):
  PS X (.Raise (some<|.Call (.Name x np) [e₀] [] η) none pos) (λ_ o H=>te o H λv H1=>[v].length=1/\W (.ref C) none H1):=by
 intro J s o H D I h;obtain⟨bm,N,i,t,bs,a,p,sub,f,b,n,j,m,g,l,k,G,y,w,d,T⟩:=aam I.ok.mod.kin hq;refine wpAny_Raise_call_subT (C:=C) (N:=N) (nm:=i) (q:=t) (bs:=bs) (bm:=bm) (hdct:=a) (sn:=p) (sub:=sub) (ab:=f) (col:=b) (dd:=n) (k0:=j) (k1:=m) (k2:=g) (k3:=l) (k5:=k) FB (T.hasType FB.hasBase) hh (by rw[hs];rfl) d<|wO I hg hm ⟨rfl,?_⟩ hd;have e:=cL he jh hs η J s o H (λU H1=>U.length=1/\W (.ref C) none H1) I h;rw[hs] at e ⊢;refine rL<|thn e λz F u=>xq2 u λU E c r q=>⟨rfl,?_,c.bk _ _ y,w.keeps c.bk,T.keeps c.bk,λh' ea mk=>hx J o E F h' ea z c mk q.2⟩;rw[← r.length,q.1];decide
end
structure Fn (P:bE)(w:eI)(K:bo)(mg:Zp)(base:Heap)(k:Nat)(x:Str)(ps:List Str)(sp:Sp):Prop where
 ex:∃f fd,ph P w K mg base (CX1 P w) k f fd ps sp/\Binds K fd ps []/\AX K (.ref f)=true/\mg x=some (.ref f)
section
theorem afz (F:Fn X.prog X.w X.K X.mg X.base k x ps sp)(J:gG j X.A)(ha:PA X.nox (e::es) t)(hk:k<=j:=by decide)(U:Gl X x:=by rfl)
  (o:(x==("__debug__":Str))=false:=by decide) (he:ag (e::es) X.env=(false,eval e X.env)::ag es X.env:=by rfl) (I:(iE pos<|ag es X.env).any (·.1)=false:=by rfl):
  PEx X (.Call (.Name x p) (e::es) [] pos) (λσ H Q E=>t σ H λC H1=>sp C H1 Q E):=by
 refine zT F.ex λf a G b kp m=>?_;exact Zo G (J.mono hk) U m kp b ha o he I
end
section
variable {P:bE}{w:eI}{K:bo}{mg:Zp}{base:Heap}
theorem Rz {x C:Str}{st:Stmt}{f:Addr}{fd:iL}{N ps:List Str}{k:Nat}{sp:Sp}(F:Fun K x C st f fd)(S:bj N ps (aM st))(len:∀J H Q E,sp J H Q E->J.length=ps.length)
  (U:∀(I:ax) (A:fm) (o:List Env) (s:aI) (H:Hp) (J:List V) (Q:VK) (E:XK),gG k (A.deeper<|y6 C (aM st) s.heap.objs.size f I)->sp J H Q E->
   ∃t,PSs (pq (CX1 P w) P w K mg base N C (aM st) f I A o s H E) (jB st) t/\t { nx:=λ_ H'=>Q .non H',rt:=Q } (start N J) H):ph P w K mg base (CX1 P w) (k+1) f fd ps sp:=by
 obtain⟨l,m,kV,g,j,i,I,ct,d,rfl,e,b⟩:=F.ex;refine ae9 e b S len λA o s H J Q E c a=>?_;obtain⟨t,h,q⟩:=U I A o s H J Q E c a;exact⟨t,h,q⟩
end
structure Df (K:bo)(mg:Zp)(x:Str)(st:Stmt)(ps:List Str):Prop where
 ex:∃f fd,Fun K x x st f fd/\Binds K fd ps []/\mg x=some (.ref f)
theorem Df.fn {P:bE}{w:eI}{K:bo}{mg:Zp}{o:Heap}{x:Str}{st:Stmt}{ps:List Str}{k:Nat}{sp:Sp}(D:Df K mg x st ps)
  (h:∀f C,Fun K x x st f C->ph P w K mg o (CX1 P w) k f C ps sp):Fn P w K mg o k x ps sp:=by
 refine CT D.ex λf C F b m=>?_;exact⟨f,C,h f C F,b,F.kp,m⟩
structure XC (K:bo)(C:Addr):Prop where
 ga:xh K (.ref C) "__getattribute__" = some (some (.builtin "BaseException.__getattribute__"))
 no:xh K (.ref C) "__getattr__" = some none
 cl:xh K (.ref C) "__class__" = some (some (.builtin "object.__class__"))
 bs:W.subIn K (.ref C) (.type "BaseException")=some true
 ob:W.subIn K (.ref C) (.type "object")=some true
 is:(W.clsIn K C).isSome=true
section
variable {prog:bE}{w:eI}{A:fm}{E:Zs}{h:Heap}{g:Array qc}{d:Drawn}{t:Nat}{os:OsState}{a C:Addr}{o:Obj}{K:bo}
theorem adH {R:Result->aI->Prop}(X:K.In h)(Z:XC K C)(J:h.get? a=some o)(I:o.cls=.ref C)(U:R (.ok<|.ret<|.ref C) ⟨h,g,d,t,os⟩):
  AF (cx prog w) A (.call (.builtin "getset_descriptor.__get__") ⟨[.builtin "object.__class__",.ref a,.ref C],[]⟩) R ⟨h,g,d,t,os⟩:=by
 have b:=qA;have c:W.Looks (cx prog w) h (isSubtype (.ref C)<|.type<|".".intercalate ("object.__class__".cutAt '.').dropLast) true:=by
  rw[F.owner_object_class];exact W.looks_subIn X Z.ob
 refine codeAny_call_builtin A3.plain F.entry_gs_get<|A3.check _ _ _ _ _ _ _ _ b (F.args_gs_get _ _ _) ?_
 repeat (any_goals (first|assumption|(with_reducible refine mS J ?_;rw[I])|with_reducible refine c.at ?_|wp_step))
 refine⟨Code.quiet_builtin _ (by decide +kernel),codeAny_builtin F.entry_object_class ?_⟩
 repeat (any_goals (first|assumption|(with_reducible refine mS J ?_;rw[I])|wp_step))
theorem Ym {tk:Tok}{Q:Fin->aI->Prop}(X:K.In h)(Z:XC K C)(J:h.get? a=some o)(I:o.cls=.ref C)(U:Q (.done<|.ret<|.ref C) ⟨h,g,d,t,os⟩):
  bt (cx prog w) A (sx.«object.__getattribute__» ⟨[.ref a,.str "__class__" tk],[]⟩) Q E ⟨h,g,d,t,os⟩:=by
 have c:(⟨h,g,d,t,os⟩:aI).TypeIs (.builtin "object.__class__") "getset_descriptor":=qA;have e:=qA;have f:=A3.lookup;have i:=F.slot_gs_set.lookup;have b:=AB (M:=cx prog w) X Z.cl
 repeat (any_goals (first|assumption|(with_reducible refine mS J ?_;rw[I])|with_reducible refine b.at ?_|wp_step))
 refine adH X Z J I ?_
 repeat (any_goals (first|assumption|wp_step))
theorem Wz {I:ax}{Q:Unit->aI->Prop}(X:K.In h)(Z:XC K C)(hx:h.get? a=some o)(J:o.cls=.ref C)(U:Q () ⟨h,g,d,t,os⟩):
  bt (cx prog w) A (checkBuiltinCall "BaseException.__getattribute__" ⟨[.ref a,I],[]⟩) Q E ⟨h,g,d,t,os⟩:=by
 have e:builtinKind "BaseException.__getattribute__" = some .slot:=by decide +kernel
 have b:splitId "BaseException.__getattribute__" = some ("BaseException", "__getattribute__"):=by decide +kernel
 have f:=F.args_bexc_ga (.ref a) I;have c:=W.looks_subIn (M:=cx prog w) X Z.bs;simp only[checkBuiltinCall,e,b];refine ae ?_;unfold isInstance
 repeat (first|(with_reducible refine mS hx ?_;rw[J])|with_reducible refine c.at ?_|wp_step)
 exact U
theorem afR {tk:Tok}{Q:Zs}(X:K.In h)(Z:XC K C)(J:h.get? a=some o)(I:o.cls=.ref C)(U:Q (.ref C) ⟨h,g,d,t,os⟩):
  bt (cx prog w) A (getAttrBy (.ref a) (.str "__class__" tk) false) Q E ⟨h,g,d,t,os⟩:=by
 have i:=F.excAttr_ValueError.ga.bind<|.ref a;have e:=AB (M:=cx prog w) X Z.ga;have b:=AB (M:=cx prog w) X Z.no;have c:(rX "BaseException.__getattribute__"==rX "object.__getattribute__")=false:=by decide +kernel
 have f:(onTheHeap (eK C)&&rX "BaseException.__getattribute__"==rX "object.__getattribute__")=false:=by rw[c];rfl
 repeat (any_goals (first|assumption|(with_reducible refine mS J ?_;rw[I])|with_reducible refine e.at ?_|with_reducible refine b.at ?_|wp_step))
 refine codeAny_call_builtin F.excAttr_ValueError.ga.plain F.entry_bexc_ga<|Wz X Z J I<|Ym X Z J I ?_
 repeat (any_goals (first|assumption|wp_step))
theorem aaU {Q:Option ax->aI->Prop}(X:K.In h)(Z:XC K C)(J:h.get? a=some o)(I:o.cls=.ref C)(U:Q (some<|.ref C) ⟨h,g,d,t+1,os⟩):
  bt (cx prog w) A (getAttr? (.ref a) "__class__") Q E ⟨h,g,d,t,os⟩:=by
 unfold getAttr? getAttrBy?
 repeat (any_goals (first|assumption|with_reducible apply afR X Z J I|wp_step))
def XAt (a C:Addr)(h:Heap):Prop:=∃o,h.get? a=some o/\o.cls=.ref C
theorem Bo (Z:XC K C):W.KitX K (.ref a) (.ref C) (XAt a C) where
 ty:=λ_ _ _ ⟨_,i,f⟩=>f▸(W.Looks.ld i).andThen .now
 it:=λ_ _ X _=>by
  have z:=Z.is;unfold W.clsIn at z;split at z
  ·rename_i c;intro o Q' u p k q;unfold isType loadHead;exact ae<|wpAny_loadPart (k _ _<|X _ _ c)<|af q
  ·cases z
 ne:=λh l r m n v X b=>by
  have z:=Z.is;refine Bool.eq_false_iff.mpr λq=>?_;have e:=Value.ref.inj<|beq_iff_eq.mp q;subst e;unfold W.clsIn at z;split at z
  ·rename_i c;have j:=(X _ _ c).symm.trans b;cases j
  ·cases z
 ca:=λ{_ _ _ _ _ s} X ⟨_,i,f⟩ k=>by
  obtain⟨h,g,d,t,os⟩:=s;exact aaU X Z i f k
end
section
variable {X:Cx}
def ab9 (K:bo):List V->Hp->VK->Prop:=λe H Q=>∃a C c d b,e=[.ref a,c]/\aaD c=some d/\(∃f,H a=some (.frz f<|.ext<|zz a<|.ref C))/\XC K C/\fw K (.ref C) d=some b/\Q (.bl b) H
theorem Uv:gU X (.builtin "isinstance") (ab9 X.K):=by
 intro t s w H p m Q I r h;obtain⟨j,C,c,v,b,rfl,i,⟨n,k⟩,Z,e,q⟩:=h;obtain⟨u,l,rfl,f,a⟩:=vals2 r;have z:=Lp i a;subst z;cases(f);obtain⟨_,⟨o,d,g,_⟩,_⟩:=(I.hok j _ k);exact jv (Bo Z) I.kIn ⟨o,d,g⟩ e (λz=>nomatch z) λtk=>⟨.bl b,H,I.tok _,rfl,q⟩
end
end Hd
namespace L2
open PySem PySem.Spec PyProof.Rows
section
structure Cz (prog:bE)(w:eI)(A:fm)(s:aI)(key:ax):Prop where
 kind:key=.none\/∃a,key=.ref a
 hash:∀{E:Zs},∃h,∀{Q:Int->aI->Prop},(∀t,Q h { s with toks:=t })->bt (cx prog w) A (PySem.pyHash key) Q E s
 quiet:∀{E:Zs} {Q:Bool->aI->Prop} {t:Nat},Q true { s with toks:=t }->bt (cx prog w) A (eqIsQuiet 8 key) Q E { s with toks:=t }
 eq:∀(t:Nat) (k:Key) (u:ax),(eF prog w).is k u=true->A8 A { s with toks:=t } u key false
theorem W5 (C:Cz prog w A s key)(I:s.heap.get? d=some o)(hd:o.data=.dict es ep)
  (hk:KeysOf (eF prog w) es) (h:Q none { s with toks:=t0 }):bt (cx prog w) A (dictFind d key hsh) Q E { s with toks:=t0 }:=by
 have m:∀e∈es,qf e.key=true:=λe G=>let⟨k,q,_⟩:=hk e G;(eF prog w).byValue k _ q
 have n:∀e∈es,A8 A { s with toks:=t0 } e.key key false:=λe G=>let⟨k,q,_⟩:=hk e G;C.eq t0 k _ q
 have f:∀v∈(placesWithHash es.size (λi=>es[i]?.map (·.hash)) hsh).filterMap (λi=>es[i]?.map (·.key)),qf v=true:=by
  intro v y;obtain⟨i,_,u⟩:=kA.mp y;cases j:es[i]? with
  |none=>rw[j] at u;cases u
  |some e=>
   rw[j] at u;obtain rfl:e.key=v:=by simpa using u
   exact m e<|qB j
 unfold dictFind
 try with_reducible refine fF ?_
 refine ae<|gL (s:={ s with toks:=t0 }) I hd ?_;rcases C.kind with rfl|⟨a,rfl⟩
 ·dsimp only;rw[if_pos (by rw[AR,xD.mpr f];rfl)];refine ae ?_;refine nL _ (λc b g=>g={ s with toks:=t0 }/\b=(none,())) _ ?_ ?_ _ _ ⟨rfl,rfl⟩
  ·rintro x c b g ⟨rfl,rfl⟩;cases B:es[x]? with
   |none=>exact af ⟨rfl,rfl⟩
   |some e=>
    dsimp only;by_cases l:(e.hash==hsh)=true
    ·rw[if_pos l];refine ae<|iq (s:={ s with toks:=t0 }) I hd (ae<|n e (qB B) _ _ _ _<|ae<|iq (s:={ s with toks:=t0 }) I hd ?_);show bt _ _ (if(ep != ep)=true then _ else _) _ E _;rw[if_neg<|by simp];exact ae<|sf<|af ⟨rfl,rfl⟩
    ·rw[if_neg l];exact af ⟨rfl,rfl⟩
  ·rintro b g ⟨rfl,rfl⟩;exact af h
 ·dsimp only;rw[if_neg<|by simp[qf]];have p:¬(es.any λe=>e.key==eK a&&e.hash != hsh)=true:=by
   rw[← Array.any_toList,List.any_eq_true];rintro⟨e,F,H⟩
   have:=m e<|Ap.mp F
   simp only[l3,beq_iff_eq] at H;rw[H.1] at this;cases this
  rw[if_neg p];have t:¬(((placesWithHash es.size (λi=>es[i]?.map (·.hash)) hsh).filterMap λi=>es[i]?.map (·.key))==[eK a])=true:=λz=>by
   have:=f (.ref a) (by rw[eq_of_beq z];exact List.mem_singleton_self _)
   cases this
  rw[if_neg t];have L:∀{D:List ax} {Q:Bool->aI->Prop},(∀v∈D,qf v=true)->Q false { s with toks:=t0 }->bt (cx prog w) A (tableMayTell (.ref a) D) Q E { s with toks:=t0 }:=by
   intro D Q f h;unfold tableMayTell;split
   ·exact af h
   ·refine ae<|C.quiet ?_;simp only[AS,fA,if_false];refine ae ?_;refine nL _ (λc r g=>g={ s with toks:=t0 }/\r=(none,())/\∀v∈c,qf v=true) _ ?_ ?_ _ _ ⟨rfl,rfl,f⟩
    ·rintro x c r g ⟨rfl,rfl,K⟩;rw[uk 8<|K x av];exact ae<|af<|af ⟨rfl,rfl,λv y=>K v<|ah _ y⟩
    ·rintro r g ⟨rfl,rfl,_⟩;exact af h
  refine ae<|L f ?_;rw[if_neg<|by simp];refine ae ?_;refine nL _ (λc b g=>g={ s with toks:=t0 }/\b=(none,none)) _ ?_ ?_ _ _ ⟨rfl,rfl⟩
  ·rintro x c b g ⟨rfl,rfl⟩;cases B:es[x]? with
   |none=>exact af ⟨rfl,rfl⟩
   |some e=>
    dsimp only;by_cases l:(e.hash==hsh)=true
    ·rw[if_pos l];refine ae<|iq (s:={ s with toks:=t0 }) I hd (ae<|n e (qB B) _ _ _ _<|ae<|iq (s:={ s with toks:=t0 }) I hd ?_);show bt _ _ (if(ep != ep)=true then _ else _) _ E _;rw[if_neg<|by simp];refine ae<|sf ?_;simp only[Bool.false_and,fA,if_false]
     first
      |exact af ⟨rfl,rfl⟩
      |exact ae (af<|af ⟨rfl,rfl⟩)
    ·rw[if_neg l];exact af ⟨rfl,rfl⟩
  ·rintro b g ⟨rfl,rfl⟩;exact af h
theorem KC (C:Cz prog w A.in1 s key)(J:s.heap.get? d=some o)(hc:o.ExactDict)(hd:o.data=.dict es U)
  (hk:KeysOf (eF prog w) es) (hz:es.size<=ai)
  (hQ:∀h' t,(∃o I U,h'.get? d=some o/\o.ExactDict/\o.data=.dict I U/\I.size=es.size+1)->iX d s.heap h'->Q () { s with heap:=h',toks:=t }):
  bt (cx prog w) A (A9 (.ref d) key v) Q E s:=by
 have a:s.TypeIs (.ref d) "dict":=⟨o,J,hc.1⟩;unfold A9
 try with_reducible refine fF ?_
 refine ae<|wpAny_sequenceKey a (by decide) ?_;refine ae (gy (name:=eB "__setitem__") a slot_dict_setitem
  (fT slot_dict_setitem a entry_dict_setitem ?_<|args_dict_setitem _ _ _))
 show bt _ _ (Builtin.Dict.notOrdered "__setitem__" ⟨[.ref d,key,v],[]⟩ >>= _) _ _ s;refine ae<|kD a ?_;show bt _ _ (dictSet d key v >>= _) _ _ s;refine ae ?_;unfold dictSet
 try with_reducible refine fF ?_
 obtain⟨c,b⟩:=C.hash (E:=E);refine ae<|b λt=>?_;unfold dictSetHashed
 try with_reducible refine fF ?_
 refine ae<|W5 C J hd hk ?_;refine ae<|sf<|rS (hz:=hz) (s:={ s with toks:=t }) J hd ?_;exact af ⟨.none,rfl,af<|hQ _ t ⟨_,_,U+1,dE _ J<|sA<|jI hd _,hc.mapDictKeys _,jI hd _,Array.size_push ..⟩<|eA ..⟩
theorem Ye:Cz prog w A s .none where
 kind:=.inl rfl
 hash:=⟨_,λh=>W.pyHash_slot (T:="NoneType") rfl PySem.F.slot_NoneType_hash PySem.F.entry_NoneType_hash (PySem.F.args_NoneType_hash_1 _) (beq_builtin_none _) (.inl rfl)<|ae<|af<|ae<|wpAny_mkInt<|af ⟨_,_,rfl,h _⟩⟩
 quiet:=λh=>by rw[uk 8 rfl];exact af h
 eq:=λt k u e=>by
  rcases cA e with⟨i,t,rfl,rfl⟩|⟨x,t,rfl,rfl⟩
  ·exact SeqAt.EqAt.int_none i t
  ·exact SeqAt.EqAt.str_none x t
theorem VD (h:(iQ prog w).is s.heap ks b)(o:A.units+8<pk):Cz prog w A s (.ref b) where
 kind:=.inr ⟨b,rfl⟩
 hash:=⟨_,λq=>(iQ prog w).pyHash o h<|q _⟩
 quiet:=λ{E Q t} q=>(iQ prog w).quiet (s:={ s with toks:=t }) h q
 eq:=λt k u e=>JG 8 A { s with toks:=t } (.k k) (.t ks) u (.ref b) o (by rw[oH];exact e) h
end
section
variable {κ:Type}[DecidableEq κ]
noncomputable def nj (ι:List (κ×V))(k:κ):Option V:=(ι.find? λa=>decide<|a.1=k).map (·.2)
noncomputable def putK (ι:List (κ×V))(k:κ)(v:V):List (κ×V):=
 if(ι.any λa=>decide<|a.1=k)=true then ι.map (λa=>if a.1=k then(a.1,v) else a) else ι++[(k,v)]
def zJ (ι:List (κ×V))(k:κ):List (κ×V):=ι.filter λa=>decide<|a.1≠k
theorem uA {p:κ×V}(e:p.1=k):nj (p::r) k=some p.2:=by simp[nj,mf,e]
theorem tR {p:κ×V}(e:¬p.1=k):nj (p::r) k=nj r k:=by simp[nj,mf,e]
theorem Dm (k:κ):∀ι:List (κ×V),(ι.any λo=>decide<|o.1=k)=(nj ι k).isSome
 |[]=>rfl
 |p::r=>by
  rw[A4];by_cases e:p.1=k
  ·simp only[uA e,decide_eq_true e,Bool.true_or,Option.isSome_some]
  ·rw[tR e,decide_eq_false e,Bool.false_or];exact Dm k r
theorem tV (ι:List (κ×V))(k:κ)(v:V):(putK ι k v).length<=ι.length+1:=by grind[a6,be,cy,y9,putK]
theorem Yq {ι:List (κ×V)}{k:κ}(v:V)(h:nj ι k=none):putK ι k v=ι++[(k,v)]:=by simp_all[Dm,putK]
theorem z9.qJ (r:z9 o u):o.isSome=u.isSome:=by
 cases o with
 |none=>cases u with
  |none=>rfl
  |some _=>exact(r).elim
 |some _=>cases u with
  |none=>exact(r).elim
  |some _=>rfl
theorem KV.val (r:KV ι vs)(k:κ):z9 (nj ι k) (zd vs k):=by
 unfold KV at r;induction r with
 |nil=>exact gu
 | @cons p q ps qs h t ih=>
  obtain⟨c,d⟩:=h;by_cases e:p.1=k
  ·have a:=c.symm.trans e;have b:zd (q::qs) k=some q.2:=by simp[zd,mf,a]
   rw[uA e,b];exact d
  ·have a:¬q.1=k:=λz=>e<|c.trans z;have b:zd (q::qs) k=zd qs k:=by simp[zd,mf,a]
   rw[tR e,b];exact ih
theorem KV.any (r:KV ι vs)(k:κ):(ι.any λo=>decide<|o.1=k)=vs.any λo=>decide (o.1=k):=by
 unfold KV at r;induction r with
 |nil=>rfl
 |cons h t ih=>rw[A4,A4,ih,h.1]
theorem KV.repl (r:KV ι vs)(k:κ){y:V}{u:ax}(C:RelV y u):
  KV (ι.map λo=>if o.1=k then(o.1,y) else o) (vs.map λo=>if o.1=k then(o.1,u) else o):=by
 unfold KV at r ⊢;induction r with
 |nil=>exact .nil
 | @cons p q ps qs h t ih=>
  rw[ay,ay];refine .cons ?_ ih;obtain⟨a,b⟩:=h;by_cases e:p.1=k
  ·rw[if_pos e,if_pos<|a.symm.trans e];exact⟨a,C⟩
  ·rw[if_neg e,if_neg λz=>e<|a.trans z];exact⟨a,b⟩
theorem KV.put (r:KV ι vs)(k:κ){y:V}{u:ax}(o:RelV y u):KV (putK ι k y) (stored vs k u):=by
 unfold putK stored;rw[r.any k];by_cases e:(vs.any λa=>decide<|a.1=k)=true
 ·rw[if_pos e,if_pos e];exact r.repl k o
 ·rw[if_neg e,if_neg e];exact Paired.snoc r ⟨rfl,o⟩
theorem KV.drop (r:KV ι vs)(k:κ):KV (zJ ι k) (without vs k):=by
 unfold KV at r ⊢;unfold zJ without;induction r with
 |nil=>exact .nil
 | @cons p q ps qs h t ih=>
  obtain⟨c,d⟩:=h;rw[l4,l4];by_cases e:p.1=k
  ·have a:¬decide (p.1≠k)=true:=by simp[e]
   have b:¬decide (q.1≠k)=true:=by simp[c.symm.trans e]
   rw[if_neg a,if_neg b];exact ih
  ·have f:¬q.1=k:=λz=>e<|c.trans z;have a:decide (p.1≠k)=true:=by simp[e]
   have b:decide (q.1≠k)=true:=by simp[f]
   rw[if_pos a,if_pos b];exact .cons ⟨c,d⟩ ih
theorem KV.length (r:KV ι vs):ι.length=vs.length:=mB r
theorem XQ (ι:List (κ×V))(k:κ):(zJ ι k).length<=ι.length:=kF _ _
end
theorem Bu (r:RelV (kV k) u):(eF P w).is k u=true:=by
 cases k with
 |inl i=>obtain⟨t,e⟩:=(r);subst e;exact Mj P w i t
 |inr x=>obtain⟨t,e⟩:=(r);subst e;exact JV P w x t
abbrev KT (T:Addr->List V->Prop)(H:Hp):List (List Kt×V)->List (List Kt×Addr×ax)->Prop:=kL λp q=>p.1=q.1/\TrT T H q.2.1 p.1/\RelV p.2 q.2.2
theorem KT.val (r:KT T H ι xs)(k:List Kt):z9 (nj ι k) ((BY xs k).map (·.2)):=by
 induction r with
 |nil=>exact gu
 | @cons p q ps qs h t ih=>
  obtain⟨c,_,d⟩:=h;by_cases e:p.1=k
  ·have a:=c.symm.trans e;have b:BY (q::qs) k=some q.2:=by simp[BY,mf,a]
   rw[uA e,b];exact d
  ·have a:¬q.1=k:=λz=>e<|c.trans z;have b:BY (q::qs) k=BY qs k:=by simp[BY,mf,a]
   rw[tR e,b];exact ih
theorem KT.repl (r:KT T H ι xs)(k:List Kt){y:V}{u:ax}(C:RelV y u):
  KT T H (ι.map λo=>if o.1=k then(o.1,y) else o) (xs.map<|putAt k u):=by
 induction r with
 |nil=>exact .nil
 | @cons p q ps qs h t ih=>
  rw[ay,ay];refine .cons ?_ ih;obtain⟨a,b,c⟩:=h;unfold putAt;by_cases e:p.1=k
  ·rw[if_pos e,if_pos<|a.symm.trans e];exact⟨a,b,C⟩
  ·rw[if_neg e,if_neg λz=>e<|a.trans z];exact⟨a,b,c⟩
theorem KT.put (r:KT T H ι xs)(k:List Kt){b:Addr}{y:V}{u:ax}(C:TrT T H b k)(o:RelV y u):
  KT T H (putK ι k y) (storedH xs k b u):=by
 have e:(ι.any λa=>decide<|a.1=k)=(BY xs k).isSome:=by
  rw[Dm,(r.val k).qJ,vx]
 unfold putK storedH;rw[e];by_cases q:(BY xs k).isSome=true
 ·rw[if_pos q,if_pos q];exact r.repl k o
 ·rw[if_neg q,if_neg q];exact Paired.snoc r ⟨rfl,C,o⟩
theorem KT.keeps (r:KT T H ι xs)(o:∀b ys,H b=some (.tup ys)->H' b=some (.tup ys)):KT T H' ι xs:=
 kL.aem r λ_ _ z=>⟨z.1,z.2.1.imp o,z.2.2⟩
section
theorem aca (ok:HOk P w H h)(e:Rd H a u):gO P w H h a u:=e.ok ok
theorem tH (ok:HOk P w H h)(e:Rd H a (.dK ι)):ι.length<=ai/\(a==eW)=false/\∃o,KV ι o/\h.DictOf (eF P w) a o:=
 aca ok e
theorem Hm (ok:HOk P w H h)(e:H a=some (.dK ι)):ι.length<=ai/\(a==eW)=false/\∃o,KV ι o/\h.DictOf (eF P w) a o:=tH ok<|.inl e
theorem Hh (C:∀b ks,TrT T H b ks->(iQ P w).is h ks b)(ok:HOk P w H h)(e:Rd H a (.dT T ι)):ι.length<=ai/\(a==eW)=false/\
  ∃xs,KT T H ι xs/\h.DictOfH (iQ P w) a xs:=by
 obtain⟨z,y,xs,r,o,k,d,j,f,g,i,n⟩:=(aca ok e);refine⟨z,y,xs,r,o,k,d,j,f,g,i,λx c=>?_,n⟩;have all:∀{l:List (List Kt×V)} {m:List (List Kt×Addr×ax)},KT T H l m->∀x∈m,(iQ P w).is h x.1 x.2.1:=by
  intro l m q;induction q with
  |nil=>intro x c;exact nomatch c
  | @cons p q ps qs hq t ih=>
   intro x c;rcases a9.mp c with e|c
   ·subst e;rw[← hq.1];exact C _ _ hq.2.1
   ·exact ih x c
 exact all r x c
theorem Yk (o:∀b ks,TrT T H b ks->(iQ P w).is h ks b)(ok:HOk P w H h)(e:H a=some (.dT T ι)):ι.length<=ai/\(a==eW)=false/\
  ∃xs,KT T H ι xs/\h.DictOfH (iQ P w) a xs:=Hh o ok<|.inl e
end
def JZ (K:bo)(H:Hp)(a:Addr)(y:V)(r:Option V):Prop:=
 (∃c k,Rd H a (.dK c)/\y=kV k/\r=nj c k)\/∃c k b,Rd H a (.dT (KTp K) c)/\y=.ref b/\TrT (KTp K) H b k/\r=nj c k
def Bw (K:bo)(H:Hp)(a:Addr)(y v:V)(H':Hp):Prop:=
 (∃c k,H a=some (.dK c)/\y=kV k/\c.length<ai/\H'=upd H a (.dK<|putK c k v)) ∨
 (∃c k b,H a=some (.dT (KTp K) c)/\y=.ref b/\TrT (KTp K) H b k/\c.length<ai/\H'=upd H a (.dT (KTp K)<|putK c k v)) ∨
 ∃c,H a=some (.dK c)/\(y=.non\/∃b k,y=.ref b/\TrT (KTp K) H b k)/\c.length<ai/\H'=upd H a (.odd<|c.length+1)
theorem Bw.k {K:bo}{H:Hp}{a:Addr}{ι:List (Key×V)}{k:Key}{v:V}(e:H a=some (.dK ι))(o:ι.length<ai):Bw K H a (kV k) v (upd H a<|.dK<|putK ι k v):=.inl ⟨ι,k,e,rfl,o,rfl⟩
theorem Bw.t {K:bo}{H:Hp}{a b:Addr}{ι:List (List Kt×V)}{k:List Kt}{v:V}(e:H a=some (.dT (KTp K) ι))(C:TrT (KTp K) H b k)(o:ι.length<ai):
  Bw K H a (.ref b) v (upd H a<|.dT (KTp K)<|putK ι k v):=.inr<|.inl ⟨ι,k,b,e,rfl,C,o,rfl⟩
section
variable {X:Cx}{π:Zl}{σ:St}{H:Hp}{s:aI}{a:Addr}{y v:V}{u r:ax}{o:Option V}{A:fm}{E:Zs}
theorem Inv.big (I:Inv X π σ H s):eW<s.heap.objs.size:=by
 have h:=(I.mod.glob.keeps I.bk).lt;exact Nat.lt_trans (by decide) h
mutual
theorem QT (I:Inv X π σ H s):∀{n:Nat} {v:V} {k:Kt} {u:ax},Ab (KTp X.K) H n v k->RelV v u->mQ s.heap n k u
 |n,_,_,u,.k (x:=x),r=>by rw[oH];exact Bu (P:=X.prog) (w:=X.w) r
 |_,_,_,u,.t (b:=b) h hs,r=>by
  cases(show u=eK b from r);obtain⟨c,e,⟨o,a,d,m,hd⟩,_⟩:=I.tuple<|SqU.sq h;exact lN.mpr ⟨b,o,c.toArray,m,rfl,a,d,hd,by simpa using KY I hs e⟩
theorem KY (I:Inv X π σ H s):∀{n:Nat} {C:List V} {ks:List Kt} {us:List ax},sS (KTp X.K) H n C ks->Vals C us->kL (mQ s.heap n) ks us
 |_,_,_,_,.nil,.nil=>.nil
 |_,_,_,_,.cons h hs,.cons r rs=>.cons (QT I h r)<|KY I hs rs
end
theorem uD (I:Inv X π σ H s)(e:TrT (KTp X.K) H b ks):(iQ X.prog X.w).is s.heap ks b:=by
 obtain⟨c,h,a⟩:=e;exact QT I (.t h a) rfl
theorem zZ (I:Inv X π σ H s):∀b ks,TrT (KTp X.K) H b ks->(iQ X.prog X.w).is s.heap ks b:=λb ks e=>uD I e
theorem nW (C:A.units+16<pk):(iQ X.prog X.w).room A.in1:=by
 show A.units+1+8<pk
 lia
theorem Ur (U:A.units+16<pk)(I:Inv X π σ H s)(g:JZ X.K H a y (some v))(J:RelV y u)(h:∀C s',Inv X π σ H s'->RelV v C->Q C s'):
  bt (cx X.prog X.w) A (AG (.ref a) u) Q E s:=by
 rcases g with⟨n,k,e,f,l⟩|⟨n,k,b,e,f,q,l⟩
 ·subst f;obtain⟨z,hd,r,d,j⟩:=tH I.hok e;obtain⟨C,m,c⟩:=z9.some_of (by rw[l];exact d.val k);exact wpAny_getItem_of (Bu J) j.mapOf m<|h C _ (I.tok _) c
 ·subst f;cases(J);obtain⟨z,hd,t,d,j⟩:=Hh (zZ I) I.hok e;obtain⟨C,m,c⟩:=z9.some_of (by rw[l];exact d.val k);obtain⟨p,o,i⟩:=iO.mp m;refine wpAny_getItem_heap (nW U) (uD I q) j o ?_;rw[i];exact h C _ (I.tok _) c
theorem ago (J:A.units+16<pk)(I:Inv X π σ H s)(g:JZ X.K H a y o)(C:RelV y u)(h:∀s',Inv X π σ H s'->Q (.bool o.isSome) s'):
  bt (cx X.prog X.w) A (eM .In u<|.ref a) Q E s:=by
 rcases g with⟨i,k,e,d,l⟩|⟨i,k,b,e,d,j,l⟩
 ·subst d;obtain⟨z,hd,n,c,f⟩:=tH I.hok e;refine wpAny_in_of (Bu C) hd f.mapOf ?_;rw[← (c.val k).qJ,← l];exact h _<|I.tok _
 ·subst d;cases(C);obtain⟨z,hd,m,c,f⟩:=Hh (zZ I) I.hok e;refine wpAny_in_heap (nW J) (uD I j) hd f ?_;have q:=(c.val k).qJ;rw[vx] at q;rw[← q,← l];exact h _<|I.tok _
theorem O8 (J:A.units+16<pk)(I:Inv X π σ H s)(g:JZ X.K H a y o)(C:RelV y u)(h:∀s',Inv X π σ H s'->Q (.bool<|!o.isSome) s'):
  bt (cx X.prog X.w) A (eM .NotIn u<|.ref a) Q E s:=by
 rcases g with⟨i,k,e,d,l⟩|⟨i,k,b,e,d,j,l⟩
 ·subst d;obtain⟨z,hd,n,c,f⟩:=tH I.hok e;refine wpAny_notIn_of (Bu C) hd f.mapOf ?_;rw[← (c.val k).qJ,← l];exact h _<|I.tok _
 ·subst d;cases(C);obtain⟨z,hd,m,c,f⟩:=Hh (zZ I) I.hok e;refine wpAny_notIn_heap (nW J) (uD I j) hd f ?_;have q:=(c.val k).qJ;rw[vx] at q;rw[← q,← l];exact h _<|I.tok _
theorem mF (I:Inv X π σ H s)(U:Mut (H a))(C:iX a s.heap h')(J:∃q,h'.get? a=some q)(new:gO X.prog X.w (upd H a ob) h' a ob):
  Inv X π σ (upd H a ob) { s with heap:=h',toks:=t' }:=
 I.write U (.inl rfl) (λb q c z=>(C.2 b c).trans z) J new
theorem zm (z:ι.length<=ai)(hd:(a==eW)=false)(C:KV ι vs)(dd:h'.DictOf (eF P w) a vs):
  gO P w H' h' a (.dK ι):=⟨z,hd,vs,C,dd⟩
theorem Uh (U:A.units+16<pk)(I:Inv X π σ H s)(g:Bw X.K H a y v H')(C:RelV y u)(J:RelV v r)(h:∀s',Inv X π σ H' s'->Q () s'):
  bt (cx X.prog X.w) A (A9 (.ref a) u r) Q E s:=by
 rcases g with⟨i,k,e,m,l,n⟩|⟨i,k,b,e,m,D,l,n⟩|⟨i,e,m,l,n⟩
 ·subst m n;obtain⟨z,hd,W,d,R⟩:=Hm I.hok e;have hz:W.length<=ai:=by rw[← d.length];exact z
  have G:(putK i k v).length<=ai:=by have:=tV i k v;lia
  refine wpAny_setItem_pairs (Bu C) R λS f p=>h _ ?_;have he:∃q,S.get? a=some q:=let⟨q,_,_,B,_⟩:=f;⟨q,B⟩
  exact mF I (by rw[e];exact gu) p he<|zm G hd (d.put k J) f
 ·subst m n;cases(C);obtain⟨z,hd,xs,d,R⟩:=Yk (zZ I) I.hok e;have hz:xs.length<=ai:=by rw[← mB d];exact z
  have G:(putK i k v).length<=ai:=by have:=tV i k v;lia
  refine wpAny_setItem_heap (nW U) (uD I D) R λS f p=>h _ ?_;refine DG f λq N T B F M P _ h5=>?_;refine mF I (by rw[e];exact gu) p ⟨q,B⟩ ⟨G,hd,_,(d.put k D J).keeps λc ys Y=>?_,q,N,T,B,F,M,P,h5⟩;rw[cB<|Vb Y e λz=>nomatch z];exact Y
 ·subst n;obtain⟨z,hd,W,d,o,N,T,ho,hc,x,hk,Z,_⟩:=Hm I.hok e;have j:N.size=i.length:=by rw[← nX,Z.length,← d.length]
  have ok:Cz X.prog X.w A.in1 s u:=by
   rcases m with rfl|⟨b,k,rfl,D⟩
   ·cases(show u=i7 from C);exact Ye
   ·cases(show u=eK b from C);exact VD (uD I D)<|nW (X:=X) U
  refine KC ok ho hc x hk (by rw[j];exact z) λS t ⟨o',O,L,V,F,M,P⟩ p=>h _ ?_;exact mF I (by rw[e];exact gu) p ⟨_,V⟩ ⟨l,hd,o',O,L,V,F,M,by rw[P,j]⟩
end
section
theorem afB (I:Inv X π σ H s)(e:H a=some (.dK ι))(J:RelV (kV k) u)(l:nj ι k=some v)(U:more=[]\/∃x,more=[x])
  (h:∀C s',Inv X π σ (upd H a<|.dK<|zJ ι k) s'->RelV v C->Q C s'):bt (cx X.prog X.w) A (call (.builtin "dict.pop") (.ref a::u::more)) Q E s:=by
 obtain⟨z,hd,f,b,g⟩:=Hm I.hok e;obtain⟨C,p,d⟩:=z9.some_of (v:=v) (o:=zd f k) (by rw[← l];exact b.val k);have m:(keyPart u).isSome=true:=by
  cases k with
  |inl i=>obtain⟨t,q⟩:=(show ∃t,u=Value.int i t from J);subst q;rfl
  |inr x=>obtain⟨t,q⟩:=(show ∃t,u=Value.str x t from J);subst q;rfl
 have n:argsOk "dict.pop" ⟨.ref a::u::more,[]⟩:=by
  rcases U with q|⟨x,q⟩
  ·subst q;exact PySem.F.args_dict_pop_2 _ _
  ·subst q;exact PySem.F.args_dict_pop_3 _ _ _
 refine tw ze g.typeIs PySem.F.entry_dict_pop n (meets_dict_pop_there (eF X.prog X.w) a (Bu J) more U m)
  ⟨f,C,g,by rw[← b.length];exact z,p,λj c r=>h C _ ?_ d⟩
 have y:∃q,j.get? a=some q:=let⟨q,_,_,hq,_⟩:=c;⟨q,hq⟩
 exact mF I (by rw[e];exact gu) r y<|zm (hV (XQ ι k) z) hd (b.drop k) c
theorem aaR (I:Inv X π σ H s)(e:H a=some (.dK ι))(h:∀s',Inv X π σ (upd H a<|.dK []) s'->Q .none s'):bt (cx X.prog X.w) A (call (.builtin "dict.clear") [.ref a]) Q E s:=by
 obtain⟨z,hd,f,c,d⟩:=Hm I.hok e;refine tw pd d.typeIs vE (tP _) (meets_dict_clear (eF X.prog X.w) a) ⟨f,d,by rw[← c.length];exact z,λi b j=>h _ ?_⟩;have g:∃q,i.get? a=some q:=let⟨q,_,_,hq,_⟩:=b;⟨q,hq⟩
 exact mF (t':=s.toks) I (by rw[e];exact gu) j g<|zm (d5 _) hd .nil b
theorem aeF (I:Inv X π σ H s)(e:Rd H a (.dK ι))(h:∀t s',Inv X π σ H s'->Q (.int ι.length t) s'):bt (cx X.prog X.w) A (call (.builtin "len") [.ref a]) Q E s:=by
 obtain⟨z,hd,d,b,c⟩:=tH I.hok e;refine call_len_dict hd c (by rw[← b.length];rw[so] at z;lia) ?_;rw[← b.length];exact h _ _<|I.tok _
end
def aaS (i:Expr):Prop:=∀a b,AH i false a b=operate [a,b] (AG a b)
theorem aac {prog:bE}{w:eI}{A:fm}{E:Zs}{s:aI}{env:Env}{I C:Expr}{pos:Pos}{T id:String}{Q:Zs}
  (hl:Bi (.type T) "__getitem__" = pure (some<|.builtin id)) (hs:aaS C)
  (h:bt (cx prog w) A (eval I env) (λo U=>bt (cx prog w) A (eval C env) (λi J=>J.TypeIs o T/\bt (cx prog w) A (AG o i) Q E J) E U) E s):
  bt (cx prog w) A (eval (.Subscript I C pos) env) Q E s:=by
 refine Subscript_<|iA h (λo U d=>iA d (λi J a=>?_) λ_ _ x=>x) λ_ _ x=>x;obtain⟨e,a⟩:=a;unfold A0;refine ae ?_;rw[getitemInPython_of_ne e.not_modules];refine ae<|l9 e hl ?_;have fin:bt (cx prog w) A (AH C false o i) (λr b=>bt (cx prog w) A (letTemporaryGo I o r >>= λ_=>pure r) Q E b) E J:=by
  rw[hs o i];exact wpAny_operating<|iA a (λr b c=>ae<|wpAny_letTemporaryGo<|af c) λ_ _ x=>x
 first
  |exact af (ae fin)
  |exact ae (af<|ae fin)
  |exact ae fin
theorem JW (I:Inv X π σ H s)(g:JZ X.K H a y o):s.TypeIs (.ref a) "dict":=by
 rcases g with⟨d,k,e,_,_⟩|⟨d,k,b,e,_,_,_⟩
 ·obtain⟨_,_,h,_,c⟩:=tH I.hok e;exact c.typeIs
 ·obtain⟨_,_,f,_,c⟩:=Hh (zZ I) I.hok e;exact c.typeIs
def af1 (K:bo)(o ty:TE):TE:=λc H Q=>o c H λx d=>ty c d λy b=>∃a v,x=.ref a/\JZ K b a y (some v)/\Q v b
def af4 (K:bo)(C ty o:TE):TS:=λD b H=>o b H λv e=>C b e λx d=>ty b d λy f=>∃a c,x=.ref a/\Bw K f a y v c/\D.nx b c
section
theorem Qm (hu:X.A.units+16<pk)(J:PE X o td)(C:PE X i ty)(U:aaS i):PE X (.Subscript o i pos) (af1 X.K td ty):=by
 intro c s d H Q I h;refine aac PySem.F.slot_dict_getitem.lookup U<|thn (J c s d H _ I h) λu t ⟨x,q,k,p,l⟩=>thn (C c t d q _ k l) λB E n=>?_;obtain⟨y,m,e,r,a,v,j,g,w⟩:=n;subst j;obtain rfl:u=eK a:=p;exact⟨JW e g,Ur hu e g r λz D f b=>⟨v,m,f,b,w⟩⟩
theorem xm (U:X.A.units+16<pk)(J:PE X o td)(hi:PE X i ty)(C:PE X value tv)(hs:d4 value (some<|.Subscript o i pos') pos.line X.env=pure false):
  PS X (.Assign [.Subscript o i pos'] value pos) (af4 X.K td ty tv):=by
 intro c s b H D I h;refine wpAny_Assign_Subscript (thn (C c s b H _ I h) λr B ⟨v,t,p,l,f⟩=>thn (J c B b t _ p f) λu z ⟨x,q,F,j,E⟩=>thn (hi c z b q _ F E) λL M ⟨y,N,n,k,a,w,d,g,m⟩=>?_) hs;subst d;obtain rfl:u=eK a:=j;exact Uh U n g k l λG e=>⟨b,w,e,m⟩
end
theorem Lx (h:Heap)(o:eW<h.objs.size):gO P w H (h.push { cls:=.type "dict",data:=.dict #[] }) h.objs.size (.dK []):=
 ⟨d5 _,beq_eq_false_iff_ne.mpr<|eC<|cw o,[],.nil,Heap.DictOf.new h⟩
theorem Mp (h:Heap)(o:eW<h.objs.size):gO P w H (h.push { cls:=.type "dict",data:=.dict #[] }) h.objs.size (.dT T []):=
 ⟨d5 _,beq_eq_false_iff_ne.mpr<|eC<|cw o,[],.nil,_,#[],0,bg _ rfl,⟨rfl,rfl,rfl⟩,rfl,rfl,qh⟩
def acx:TE:=λ_ H Q=>∀p,H p=none->Q (.ref p) (upd H p<|.dK [])
def acz (K:bo):TE:=λ_ H Q=>∀p,H p=none->Q (.ref p) (upd H p<|.dT (KTp K) [])
section
theorem Vg:PE X (.Dict [] [] pos) acx:=λa s b H Q I h=>
 wpAny_Dict_empty ⟨.ref s.heap.objs.size,_,I.laid (λ_ _ q=>ar _ q) (aS _)<|Lx s.heap I.big,rfl,h _<|I.hok.fresh<|aS _⟩
theorem Yx:PE X (.Dict [] [] pos) (acz X.K):=λa s b H Q I h=>
 wpAny_Dict_empty ⟨.ref s.heap.objs.size,_,I.laid (λ_ _ q=>ar _ q) (aS _)<|Mp s.heap I.big,rfl,h _<|I.hok.fresh<|aS _⟩
end
def yU:List (TE×TE)->St->Hp->(List (V×V)->Hp->Prop)->Prop
 |[],_,H,Q=>Q [] H
 |(tk,tv)::r,σ,H,Q=>tk σ H λx a=>tv σ a λy d=>yU r σ d λc b=>Q ((x,y)::c) b
abbrev VV:List (V×V)->List (ax×ax)->Prop:=kL λp q=>RelV p.1 q.1/\RelV p.2 q.2
def PPs (X:Cx)(J:Pos)(C:List (Option Expr))(o:List Expr)(I:List (TE×TE)):Prop:=
 ∀(b:Zl) (s:aI) (a:St) (H:Hp) (Q:List (V×V)->Hp->Prop),Inv X b a H s->yU I a H Q->
  bt (cx X.prog X.w) X.A (evalPairs<|pairTrees C o X.env J) (λd e=>∃c H',Inv X b a H' e/\VV c d/\Q c H') X.xe s
theorem Qx:PPs X pos [] [] []:=λa s b H Q I h=>pairTrees_nil_walk ⟨[],H,I,.nil,h⟩
theorem oF (hk:PE X k tk)(o:PE X v tv)(C:PPs X pos ks vs trs):
  PPs X pos (some k::ks) (v::vs) ((tk,tv)::trs):=λc s d H Q I h=>
 pairTrees_cons_walk (thn (hk c s d H _ I h) λu q ⟨x,l,f,j,g⟩=>thn (o c q d l _ f g) λB n b=>xq2 b λy i z m t=>
  thn (C c n d i _ z t) λA D b=>by obtain⟨p,w,e,a,r⟩:=b;exact⟨(x,y)::p,w,e,.cons ⟨j,m⟩ a,r⟩)
def lJ (ι more:List (Key×V)):List (Key×V):=more.foldl (λa b=>putK a b.1 b.2) ι
theorem KV.merge:∀{more:List (Key×V)} {C:List (Key×ax)} {ι:List (Key×V)} {o:List (Key×ax)},KV more C->KV ι o->KV (lJ ι more) (merged o C):=by
 intro more C ι o r;unfold KV at r;induction r generalizing ι o with
 |nil=>intro q;exact q
 | @cons p q ps qs h t ih=>
  intro a;have e:KV (putK ι p.1 p.2) (stored o q.1 q.2):=by
   have:=a.put p.1 h.2
   rw[← h.1];exact this
  exact ih e
theorem uX:∀(more ι:List (Key×V)),(lJ ι more).length<=ι.length+more.length
 |[],ι=>by show ι.length<=ι.length+0;lia
 |p::r,ι=>by
  have a:=uX r<|putK ι p.1 p.2;have b:=tV ι p.1 p.2;show(lJ (putK ι p.1 p.2) r).length<=_;rw[cy];lia
theorem Dc:∀{ι:List (Key×V)} {ws:List (ax×ax)},VV (ι.map λC=>(kV C.1,C.2)) ws->∃o,Carries (eF P w) ws o/\KV ι o
 |[],_,r=>by rw[tq] at r;cases r;exact⟨[],gu,.nil⟩
 |p::ι,_,r=>by
  rw[ay] at r;cases r with
  | @cons a b as bs h t=>
   obtain⟨o,c,q⟩:=Dc t;obtain⟨e,d⟩:=b;exact⟨(p.1,d)::o,⟨Bu h.1,rfl,c⟩,.cons ⟨rfl,h.2⟩ q⟩
def aeq (o:List (TE×TE)):TE:=λd H Q=>∀p,H p=none->yU o d (upd H p<|.dK []) λe c=>c p=some (.dK [])/\∃a:List (Key×V),e=a.map (λb=>(kV b.1,b.2))/\a.length<=15/\Q (.ref p) (upd c p<|.dK<|lJ [] a)
theorem Qe (h:PPs X pos keys values trs)(C:keys.all (·.isSome)=true)(U:keys.length=values.length)(h0:keys≠[])
  (J:keys.length<=15):PE X (.Dict keys values pos) (aeq trs):=by
 intro m s D H Q I q;have r:=I.hok.fresh<|aS s.heap.objs.size;have u:=I.laid (a:=s.heap.objs.size) (o:=.dK []) (h':=s.heap.push { cls:=.type "dict",data:=.dict #[] }) (t':=s.toks) (λ_ _ q=>ar _ q) (aS _)<|Lx s.heap I.big;refine wpAny_Dict_walk (knd:=eF X.prog X.w) C U h0 J<|thn (h m _ D _ _ u<|q _ r) λF L l=>?_;obtain⟨M,K,i,d,e,f,k,G,B⟩:=l;subst k;obtain⟨j,c,n⟩:=Dc (P:=X.prog) (w:=X.w) d;obtain⟨z,hd,t,A,v⟩:=Hm i.hok e;cases A;refine⟨j,c,v,λg b x=>⟨.ref s.heap.objs.size,_,?_,rfl,B⟩⟩;have y:(lJ [] f).length<=ai:=by
  have p:=uX f [];rw[y9] at p;rw[so];lia
 have E:∃q,g.get? s.heap.objs.size=some q:=let⟨q,_,_,hq,_⟩:=b;⟨q,hq⟩
 exact mF i (by rw[e];exact gu) x E<|zm y hd (n.merge .nil) b
structure M2 (X:Cx)(o:Expr)(m:Str)(apos:Pos)(e f:Expr)(η:Pos):Prop where
 base:gE o m X.env (eval o X.env)=eval o X.env
 few:((iE η (ag [e,f] X.env)).all (λx=>!x.1)&&(tm η (md [] X.env)).all (λx=>x.1.isSome)
  && decide (([e,f]:List Expr).length+([]:List me).length+(if([]:List me).isEmpty then 0 else 1)<30))=true
 line:(apos.endLine==η.line)=true
 trees:iE η (ag [e,f] X.env)=[(false,eval e X.env),(false,eval f X.env)]
def IsD (K:bo)(H:Hp)(a:Addr):Prop:=(∃b,Rd H a<|.dK b)\/∃b,Rd H a<|.dT (KTp K) b
theorem acR (I:Inv X π σ H s)(d:IsD X.K H a):
  s.TypeIs (.ref a) "dict"/\(∀b,eK a=.ref b->∃ob,s.heap.get? b=some ob/\ob.dict=none)/\(a==eW)=false:=by
 rcases d with⟨h,e⟩|⟨h,e⟩
 ·obtain⟨_,hd,j,_,c⟩:=tH I.hok e;refine⟨c.typeIs,λb q=>?_,hd⟩;cases q;refine Ry c λob _ _ f g _=>?_;exact⟨ob,f,g.2.1⟩
 ·obtain⟨_,hd,i,_,c⟩:=Hh (zZ I) I.hok e;refine⟨c.typeIs,λb q=>?_,hd⟩;cases q;refine Ry c λob _ _ f g _=>?_;exact⟨ob,f,g.2.1⟩
section
end
section
end
section
end
section
end
section
end
section
variable {κ:Type}[DecidableEq κ]
end
end L2
namespace Hd
open PySem PySem.Spec PyProof.Rows L2
theorem bH (h:H p=none)(o:HO):aL H (upd H p o):=λb u q=>by
 rw[cB<|lH q h];exact q
section
theorem bJ (h:PE X e T)(k:∀o H Q,T' o H Q->T o H Q):PE X e T':=λa s o H Q I q=>h a s o H Q I<|k o H Q q
def clA (t:TA):TA:=λc H Q=>∃R,t c H R/\∀a b,R a b->Q a b
theorem abU (h:PA X es t):PA X es (clA t):=λa e s i H Q I ⟨R,b,k⟩=>thn (h a e s i H R I b) λ_ _ d=>xq2 d λc f g r q=>⟨c,f,g,r,k _ _ q⟩
def afh (t:TA):TE:=λc H Q=>t c H λa b=>a.length<=ai/\∀p H',aL b H'->H' p=some (.tup a)->Q (.ref p) H'
theorem O5 (h:PA X es t):PE X (.Tuple es x1 pos) (afh t):=
 bJ (Wi<|abU h) λ_ _ _ q=>⟨_,q,λ_ _ ⟨z,k⟩=>⟨z,λp a=>k p _ (bH a _) aX⟩⟩
end
abbrev dM (X:Cx)(U:List Str)(scope:x8)(cl:List (Str×Addr))(C:Addr)(o:aI)(I:Hp)(fp:List Addr)(J:Zl):Cx:=
 { X with N:=U,s₀:=o,H₀:=I,env:=compEnvC scope cl C X.env,outer:=X.stack,ex:=fp,fn:=λ_=>false,pn:=X.pn++J,xe:=λ_ _=>False }
structure CSc (sc scope:x8)(caps:List Str):Prop where
 kind:scope.kind=.function
 nocell:∀y∈scope.names,y.2≠.cell
 loc:∀y∈scope.names,y.2=.local->scope.names.lookup y.1=some .local
 free:∀y∈scope.names,y.2=.free->sc.names.lookup y.1=some .cell\/sc.names.lookup y.1=some .free
 caps:∀x∈caps,scope.names.lookup x=some .free/\(sc.names.lookup x=some .cell\/sc.names.lookup x=some .free)
theorem mem_of_lookup:∀{l:List (Str×β)} {x:Str} {k:β},l.lookup x=some k->(x,k)∈l
 |[],_,_,h=>by simp at h
 |(n,k')::r,x,k,h=>by
  rw[dS] at h;split at h
  ·rename_i e;have a:x=n:=by simpa using e
   cases h;rw[a];exact av
  ·exact ah _<|mem_of_lookup h
theorem xx {env:Env}:∀{o:List (Str×xi)} {x:Str},o.lookup x=some .free->
  (o.map λ(n,k)=>if(k==gN&&env.scope.kind==.function&&env.kindOf n==some .cell) then(n,ly) else(n,k)).lookup x=some .cell ∨
  (o.map λ(n,k)=>if(k==gN&&env.scope.kind==.function&&env.kindOf n==some .cell) then(n,ly) else(n,k)).lookup x=some .free
 |[],_,h=>by simp at h
 |(n,k)::r,x,h=>by
  have c:=@xx env r x;show AJ x ((if(k==gN&&env.scope.kind==.function&&env.kindOf n==some .cell)=true then(n,ly) else(n,k))::_)=_\/AJ x ((if(k==gN&&env.scope.kind==.function&&env.kindOf n==some .cell)=true then(n,ly) else(n,k))::_)=_;cases a:x==n with
  |true=>
   simp only[dS,a] at h;cases h;by_cases b:(gN==gN&&env.scope.kind==.function&&env.kindOf n==some .cell)=true
   ·rw[if_pos b];simp only[dS,a];exact .inl trivial
   ·rw[if_neg b];simp only[dS,a];exact .inr trivial
  |false=>
   simp only[dS,a] at h;by_cases b:(k==gN&&env.scope.kind==.function&&env.kindOf n==some .cell)=true
   ·rw[if_pos b];simp only[dS,a];exact c h
   ·rw[if_neg b];simp only[dS,a];exact c h
theorem Er {env:Env}:∀{o:List (Str×xi)} {x:Str},(∀y∈o,y.2≠.cell)->
  ((o.map λ(n,k)=>if(k==gN&&env.scope.kind==.function&&env.kindOf n==some .cell) then(n,ly) else(n,k)).lookup x=some .cell ∨
  (o.map λ(n,k)=>if(k==gN&&env.scope.kind==.function&&env.kindOf n==some .cell) then(n,ly) else(n,k)).lookup x=some .free)->o.lookup x=some .free
 |[],_,_,h=>by simp at h
 |(n,k)::r,x,hn,h=>by
  have d:=@Er env r x λy g=>hn y<|ah _ g;have a:AJ x ((if(k==gN&&env.scope.kind==.function&&env.kindOf n==some .cell)=true then(n,ly) else(n,k))::_)=some .cell\/AJ x ((if(k==gN&&env.scope.kind==.function&&env.kindOf n==some .cell)=true then(n,ly) else(n,k))::_)=some .free:=h;have e:k≠.cell:=hn (n,k) av;by_cases c:(k==gN&&env.scope.kind==.function&&env.kindOf n==some .cell)=true
  ·rw[if_pos c] at a;have f:k=.free:=by
    simp only[l3,beq_iff_eq] at c;exact c.1.1
   subst f;cases b:x==n with
   |true=>simp only[dS,b]
   |false=>
    simp only[dS,b] at a ⊢;exact d a
  ·rw[if_neg c] at a;cases b:x==n with
   |true=>
    simp only[dS,b] at a ⊢;rcases a with z|z
    ·exact absurd (b9 z) e
    ·exact z
   |false=>
    simp only[dS,b] at a ⊢;exact d a
theorem wz:∀(o:List (Str×xi)) (acc:List (Str×Addr)),(∀y∈o,y.2=.free->∃c,env.cells.lookup y.1=some c)->
  ∃C,(forIn o acc λ(y:Str×xi) (I:List (Str×Addr))=>(if y.2==.free then do let c←cellOf env y.1;pure (sC ((y.1,c)::I)) else pure (sC I):Sem (ForInStep<|List<|Str×Addr)))=pure C/\
   (∀x c,C.lookup x=some c->acc.lookup x=some c\/env.cells.lookup x=some c)/\(∀x c,acc.lookup x=some c->∃J,C.lookup x=some J)/\∀y∈o,y.2=.free->∃c,C.lookup y.1=some c
 |[],acc,_=>⟨acc,rfl,λ_ _ e=>.inl e,λ_ c e=>⟨c,e⟩,λ_ z=>nomatch z⟩
 |(n,k)::r,acc,h=>by
  have m:∀y∈r,y.2=.free->∃c,env.cells.lookup y.1=some c:=λy b=>h y<|ah _ b;by_cases g:(k==gN)=true
  ·obtain⟨c,p⟩:=h (n,k) av (by simpa using g);refine zE (wz r ((n,c)::acc) m) λC e j a i=>?_;refine⟨C,?_,λx d q=>?_,λx d q=>?_,λy b q=>?_⟩
   ·have s:cellOf env n=pure c:=by unfold cellOf;rw[p]
    rw[zh];simp only[g,if_true,s,pure_bind];exact e
   ·rcases j x d q with z|z
    ·rw[dS] at z;split at z
     ·rename_i f;have l:x=n:=by simpa using f
      cases z;rw[l];exact .inr p
     ·exact .inl z
    ·exact .inr z
   ·by_cases f:(x==n)=true
    ·exact a x c<|by rw[dS,f]
    ·exact a x d (by rw[dS];simp only[Bool.not_eq_true] at f;rw[f];exact q)
   ·rcases a9.mp b with z|z
    ·subst z;exact a n c (by rw[dS];simp)
    ·exact i y z q
  ·refine zE (wz r acc m) λC e j a i=>?_;refine⟨C,?_,j,a,λy b q=>?_⟩
   ·rw[zh];simp only[g,if_false,pure_bind,fA];exact e
   ·rcases a9.mp b with z|z
    ·subst z;exact absurd (show(k==gN)=true by simpa using q) g
    ·exact i y z q
theorem zO (h:∀y∈scope.names,y.2=.free->∃c,env.cells.lookup y.1=some c):
  ∃o,closureFor scope env=pure o/\(∀x c,o.lookup x=some c->env.cells.lookup x=some c)/\∀y∈scope.names,y.2=.free->∃c,o.lookup y.1=some c:=by
 refine zE (wz scope.names [] h) λo e a _ b=>?_;refine⟨o,?_,λx c q=>(a x c q).elim (λz=>by simp at z) id,b⟩;unfold closureFor;simp only[bind_pure];refine Eq.trans ?_ e;rfl
section
variable {X:Cx}{π:Zl}{σ:St}{HE:Hp}{sE:aI}{N':List Str}{scope sc:x8}{cl:List (Str×Addr)}{fp:List Addr}{caps:List Str}
theorem aa6 (I:Inv X π σ HE sE)(S:CSc sc scope caps)(C:∀b∈fp,yM X π HE b/\b<sE.heap.objs.size)
  (J:∀x c,cl.lookup x=some c->X.env.cells.lookup x=some c) (U:∀y∈scope.names,y.2=.free->∃c,cl.lookup y.1=some c):
  (dM X N' scope cl sE.heap.objs.size sE HE fp π).Ok where
 mod:=I.ok.mod
 kind:=S.kind
 glob:=I.ok.glob
 blt:=I.ok.blt
 above:=aS _
 inj:=λx y c g d=>I.ok.inj x y c (J x c g)<|J y c d
 has:=λx h=>U (x,.free) (mem_of_lookup<|Er S.nocell h) rfl
 cab:=λx c h=>nomatch h
 hd:=I.ok.hd
 frames:=I.ok.frames
 stk:=.inl rfl
 exf:=λb a=>⟨cw (C b a).2,λx c h=>(C b a).1.2.2.2.2.1 x c<|J x c h⟩
 bs:=I.bs
 bsz:=hV I.ok.bsz I.sz
 noex:=λb o e a=>by
  rcases(C b a).1.2.2.2.1 with z|z
  ·exact I.ok.noex b o e z
  ·exact absurd (br (aE e)<|hV I.ok.bsz z)<|hU _
 exfs:=λb a f=>by
  rcases a9.mp (I.Ip b f) with z|z
  ·exact(C b a).1.2.1 z
  ·exact(C b a).1.2.2.1 z
 vI:=I.stack
 frf:=I.Im
theorem Wk {cap:List Nat}{h':Heap}(I:Inv X π σ HE sE)(S:CSc sc scope caps)(hsc:X.env.scope=sc)(hfp:∀b∈fp,yM X π HE b/\b<sE.heap.objs.size)
  (C:∀x c,cl.lookup x=some c->X.env.cells.lookup x=some c) (U:∀y∈scope.names,y.2=.free->∃c,cl.lookup y.1=some c)
  (hN:N'.drop k=caps) (hk:k<=N'.length) (J:kL (λj x=>X.N[j]? = some x) cap caps) {m:Zp}
  (kp:∀b o,sE.heap.get? b=some o->h'.get? b=some o) (hns:h'.Ns sE.heap.objs.size m) (tk:Nat):
  Inv (dM X N' scope cl sE.heap.objs.size sE HE fp π) [] (c9 k none++cap.map λj=>(σ[j]?).join) HE { sE with heap:=h',toks:=tk } where
 ok:=aa6 I S hfp C U
 os:=rfl
 bare:=I.bare
 base:=Un.kept kp
 loc:=by
  refine⟨m,hns,λi x v V f W=>?_⟩;have T:k<=i:=by
   by_cases z:k<=i
   ·exact z
   ·rw[cf (by simp;lia),gv] at f;rw[if_pos<|by lia] at f;cases f
  obtain⟨w,rfl⟩:∃w,i=k+w:=⟨i-k,by lia⟩;rw[cp (by simp),fS,xl,a5] at f;have G:caps[w]? = some x:=by rw[← hN,tz];exact V
  have:∀{l:List Nat} {B:List Str} {i:Nat},kL (λj x=>X.N[j]? = some x) l B->B[i]? = some x->∃j,l[i]? = some j/\X.N[j]? = some x:=by
   intro l B i p;induction p generalizing i with
   |nil=>intro z;simp at z
   |cons a _ ih=>
    intro z;cases i with
    |zero=>simp at z;subst z;exact⟨_,rfl,a⟩
    |succ i=>exact ih (by simpa using z)
  obtain⟨j,Q,E⟩:=this J G;rw[Q] at f;have D:σ[j]? = some (some v):=by
   cases q:σ[j]? with
   |none=>rw[hJ,q] at f;cases f
   |some o=>
    rw[hJ,q] at f
    have:o=some v:=b9 f
    rw[this]
  obtain⟨s,h⟩:=S.caps x<|dy G;rw[← hsc] at h;obtain⟨Y,_,K⟩:=I.loc;obtain⟨u,r,L⟩:=K j x v E D<|h.elim (λz=>.inr<|.inl z) λz=>.inr<|.inr z;refine⟨u,r,.inr ⟨xx s,?_⟩⟩;rcases L with⟨z,_⟩|⟨_,c,M,g⟩
  ·have R:X.env.scope.names.lookup x=some .local:=z;rcases h with q|q<;>rw[R] at q<;>cases q
  ·obtain⟨O,t⟩:=U (x,.free) (mem_of_lookup s) rfl;have e:=C x O t;rw[M] at e;cases e;obtain⟨o,A,hd⟩:=g;exact⟨c,t,o,kp c o A,hd⟩
 cell:=λx c e=>by
  obtain⟨v,o,A,hd⟩:=I.cell x c<|C x c e;exact⟨v,o,kp c o A,hd⟩
 free:=I.hok.fresh<|aS _
 freeC:=λx c e=>I.freeC x c<|C x c e
 pin:=λp F=>by
  rw[dc] at F;refine GQ (I.pin p F) λe n P H d=>?_;refine⟨kp _ _ e,n,cw<|aE e,λz=>?_,d⟩;rcases a9.mp (I.Ip p.1 z) with q|q
  ·exact P q
  ·exact H q
 hok:=I.hok.kept kp
 len:=by
  show(c9 k none++cap.map λj=>(σ[j]?).join).length=N'.length
  have:=J.length
  rw[← hN,nN] at this
  simp
  lia
theorem comp_back (I:Inv X π σ HE sE)(o:∀b∈fp,yM X π HE b/\b<sE.heap.objs.size)
  (C:Inv (dM X N' scope cl sE.heap.objs.size sE HE fp π) p' σ' H' s'):Inv X π σ H' s':=
 I.call' C.os C.base C.hok C.bare λb a=>⟨(o b a).1.2.2.2.1,(o b a).1.2.1,(o b a).1.2.2.2.2.1,(o b a).1.2.2.2.2.2⟩
end
theorem Lf (I:Inv X π σ HE sE)(C:Inv X π σ' H' s')(J:H' sE.heap.objs.size=none)
  (U:iX sE.heap.objs.size s'.heap h'):Inv X π σ' H' { s' with heap:=h' }:=by
 refine C.turned (λb o d e=>(U.2 b d).trans e) J (qq I.lt) (.inr I.sz) (λx c e z=>?_) λp a z=>?_
 ·obtain⟨v,q⟩:=I.cell x c e;exact absurd q.lt (by rw[z];exact hU _)
 ·exact absurd (aE (I.pin p a).1) (by rw[z];exact hU _)
def Ua (X:Cx)(o:List Expr)(t:TT):Prop:=
 ∀(b:Zl) (s:aI) (a:St) (H:Hp) (Q:Bool->Hp->Prop),Inv X b a H s->t a H Q->
  bt (cx X.prog X.w) X.A (forIn o true λc r=>if r=true then do let ok←isTrue c X.env (eval c X.env);pure (sC ok) else pure (sC r)) (TP X b a Q) X.xe s
def agu:TT:=λ_ H Q=>Q true H
theorem aad:Ua X [] agu:=λ_ _ _ H _ I q=>wpAny_tests_nil ⟨H,I,q⟩
theorem Zx (h:PT X c t):Ua X [c] t:=λa s b H Q I q=>wpAny_tests_one<|h a s b H Q I q
noncomputable def cSt (k:Nat)(cap:List Nat)(o:St):St:=c9 k none++cap.map λj=>(o[j]?).join
def af0 (J:It)(k:Nat)(cap:List Nat)(g:TG)(tt:TT)(I:TE)(o:St)(C:Hp)(l:Addr)(Q:VK):Prop:=
 ∃W:Nat->Nat->List V->Hp->Prop,(∃m,W 0 m []<|upd C l<|.lst [])/\∀i m c H,W i m c H->
  (J.stop i H/\Q (.ref l) H)\/(J.go i H/\∀x H',J.yld i H x H'->g x (cSt k cap o) H' λa h=>a.drop k=(cSt k cap o).drop k/\tt a h λb f=>
   if b=true then I a f λy e=>e l=some (.lst c)/\c.length<ai/\∃d,d<m/\W (i+1) d (c++[y]) (upd e l<|.lst<|c++[y])
   else ∃d,d<m/\W (i+1) d c f)
def Sd (k:Nat)(cap:List Nat)(wi:TI)(g:TG)(tt:TT)(o:TE):TE:=λb H Q=>wi b H λJ a=>∀l,a l=none->af0 J k cap g tt o b a l Q
section
theorem Le (hcalm:X.calm=true)(S:CSc sc scope caps)(hsc:X.env.scope=sc)(hN:N'.drop k=caps)(hk:k<=N'.length)(hcap:kL (λj x=>X.N[j]? = some x) cap caps)
  (hi:PI Calm X tg iter wi) (hg:∀cl C U HE fp π,PG (dM X N' scope cl C U HE fp π) tg g) (ht:∀cl C U HE fp π,Ua (dM X N' scope cl C U HE fp π) ifs tt) (he:∀cl C U HE fp π,PE (dM X N' scope cl C U HE fp π) elt te)
  (I:Inv X π σ H s) (h:Sd k cap wi g tt te σ H Q) {cl:List (Str×Addr)} (hc1:∀x c,cl.lookup x=some c->X.env.cells.lookup x=some c) (hc2:∀y∈scope.names,y.2=.free->∃c,cl.lookup y.1=some c)
  {RR:ax->Addr->Result->aI->Prop}
  (hRR:∀l U HE H' s' m,Inv X π σ HE U->Inv X π σ H' s'->H' U.heap.objs.size=none->s'.heap.Ns U.heap.objs.size m->Q (.ref l) H'->RR (.ref l) U.heap.objs.size (.ok .next) s'):
  bt (cx X.prog X.w) X.A (eval iter X.env) (λxv s₁=>bt (cx X.prog X.w) X.A (B4 xv) (λit s₂=>bt (cx X.prog X.w) X.A (newList []) (λacc s₃=>
   bt (cx X.prog X.w) X.A (newFunctionEnv scope X.env.globals cl [] X.env.qual none .none<|some X.env) (λcenv s₄=>
    AF (cx X.prog X.w) X.A (.compStart (.ListComp elt [⟨tg,iter,ifs,0⟩] scope pos) 0 it acc { cenv with scope:=relabel scope X.env }) (RR acc cenv.locals) s₄) X.xe s₃) X.xe s₂) X.xe s₁) X.xe s:=by
 refine thn (hi π s σ H _ I h) λv s1 h1=>thn h1 λitv E h2=>?_;obtain⟨it,fp,tn,J,H1,e,I1,T,st1,f1,q1⟩:=h2;subst e;refine wpAny_newList ?_;have M:=I1.hok.fresh<|aS _;have fpl:∀b∈fp,b<E.heap.objs.size:=λb a=>by
  obtain⟨o,e,_⟩:=T.obj _ _ st1 b a;exact aE e
 generalize hE:({ E with heap:=E.heap.push { cls:=.type "list",data:=.seq ([]:List ax).toArray } }:aI)=U;have k2:∀b o,E.heap.get? b=some o->U.heap.get? b=some o:=λb o e=>by rw[← hE];exact ar _ e
 have szE:E.heap.objs.size<U.heap.objs.size:=by rw[← hE];show _<(E.heap.push _).objs.size;rw[Heap.size_push];exact Nat.lt_succ_self _
 have IE:Inv X π σ (upd H1 E.heap.objs.size<|.lst []) U:=by
  rw[← hE];refine I1.laid (λb o e=>ar _ e) (aS _) ?_;exact⟨d5 _,[],0,.nil,bg _ rfl⟩
 have fE:∀b∈fp,yM X π (upd H1 E.heap.objs.size<|.lst []) b/\b<U.heap.objs.size:=λb a=>
  ⟨⟨by rw[cB<|cw<|fpl b a];exact(f1 b a).1,(f1 b a).2⟩,Nat.lt_trans (fpl b a) szE⟩
 obtain⟨W,⟨m0,w0⟩,R⟩:=q1 _ M;generalize hl:E.heap.objs.size=l at *;clear hl;generalize hHE:upd H1 l (.lst [])=HE at *;refine wpAny_newFunctionEnv S.nocell (by intro y hy;simp at hy) (λK F G=>?_) S.kind;have kE:∀b o,U.heap.get? b=some o->K.get? b=some o:=λb o e=>(G.2 b<|cw<|aE e).trans<|ar _ e;have I0:=Wk IE S hsc fE hc1 hc2 hN hk hcap kE F<|U.toks+([]:List (Str×ax)).length;have Z:=T.keep _ _ _ st1 λb a o e=>kE b o<|k2 b o e;have hX:∀{H':Hp},(∀b∈fp,H' b=none)->∀b∈fp,yM (dM X N' scope cl U.heap.objs.size U HE fp π) [] H' b:=λhn b a=>
  ⟨hn b a,(I0.ok.exf b a).1,I0.ok.exfs b a,.inl a,(I0.ok.exf b a).2,λp hp=>by
   rw[dc] at hp;exact(fE b a).1.2.2.2.2.2 p hp⟩
 have L:∀s₃:aI,s₃={ U with heap:=K,toks:=U.toks+([]:List (Str×ax)).length }->
   AF (cx X.prog X.w) X.A (.compLoop (.ListComp elt [⟨tg,iter,ifs,0⟩] scope pos) 0 (.ref it) (.ref l)<|compEnvC scope cl U.heap.objs.size X.env) (RR (.ref l) U.heap.objs.size) s₃:=by
  rintro s₃ rfl;refine codeAny_loop rfl (λn s'=>∃i O H',Inv (dM X N' scope cl U.heap.objs.size U HE fp π) [] (cSt k cap σ) H' s'/\tn i s'.heap/\(∀b∈fp,H' b=none)/\W i n O H') (λn s3 hI=>?_) m0
   ⟨0,[],HE,I0,Z,λb a=>(fE b a).1.1,w0⟩
  refine Rv hI λi O H3 I3 st3 Y w3=>?_;show bt _ X.A ((compTurn (.ListComp elt [⟨tg,iter,ifs,0⟩] scope pos) 0 (.ref it) (.ref l)<|compEnvC scope cl U.heap.objs.size X.env).onRaise (λx=>do noteFrame x (compEnvC scope cl U.heap.objs.size X.env);theTreesLotGoes x)) _ _ s3;refine wpAny_noted ?_;rw[compTurn_list];refine ae<|r6<|ae ?_;rcases R i n O H3 w3 with⟨stop,qn⟩|⟨go,step⟩
  ·refine iA (T.done (dM X N' scope cl U.heap.objs.size U HE fp π) rfl rfl rfl hcalm i [] s3 _ H3 (λ_ _=>False) I3 (hX Y) st3 stop) (λr s4 ⟨hr,I4⟩=>?_) λ_ _ z=>z.elim;subst hr;obtain⟨m4,hn4,_⟩:=I4.loc;exact af<|hRR l U HE H3 s4 m4 IE (comp_back IE fE I4) I4.free hn4 qn
  ·refine iA (T.item (dM X N' scope cl U.heap.objs.size U HE fp π) rfl rfl rfl hcalm i [] s3 _ H3 (λ_ _=>False) I3 (hX Y) st3 go) (λr s4 ⟨u,hr,h4⟩=>?_) λ_ _ z=>z.elim;subst hr;refine ae<|iA h4 (λ_ s5 ⟨x,H5,I5,r5,y5,P,fr5⟩=>?_) λ_ _ z=>z.elim;have I5':=I5.pinned (hX fr5)<|T.obj _ _ P;refine ae<|iA (hg _ _ _ _ _ _ _ s5 _ H5 x u _ I5' r5<|step x H5 y5) (λ_ s6 ⟨f,H6,I6,q6⟩=>?_) λ_ _ z=>z.elim;obtain⟨d6,q6⟩:=q6;have weak:∀{B t},Inv (dM X N' scope cl U.heap.objs.size U HE fp π) ([]++vY fp s5.heap) f B t->Inv (dM X N' scope cl U.heap.objs.size U HE fp π) ([]++vY fp s5.heap) (cSt k cap σ) B t:=λ{B t} D=>by
    refine D.weak (I0.len.trans D.len.symm) λj v e=>?_;by_cases z:k<=j
    ·obtain⟨j',rfl⟩:∃j',j=k+j':=⟨j-k,by lia⟩;rw[← tz] at e ⊢;rw[d6];exact e
    ·unfold cSt at e;rw[cf (by simp;lia),gv,if_pos<|by lia] at e;cases e
   have q:∀{B:Hp} {t:aI} {zs:List V},Inv (dM X N' scope cl U.heap.objs.size U HE fp π) ([]++vY fp s5.heap) f B t->(∃m',m'<n/\W (i+1) m' zs B)->
     ∃m,m<n/\∃i O H',Inv (dM X N' scope cl U.heap.objs.size U HE fp π) [] (cSt k cap σ) H' t/\tn i t.heap/\(∀b∈fp,H' b=none)/\W i m O H':=λ{B t zs} D ⟨m',hm,w7⟩=>by
    refine⟨m',hm,i+1,zs,B,(weak D).wU,T.keep _ _ _ P λb a o e=>(D.pin (b,o)<|eP _<|eP _<|qZ a e).1,λb a=>?_,w7⟩;obtain⟨o,e,d⟩:=T.obj _ _ P b a;exact(D.pin (b,o)<|eP _<|eP _<|qZ a e).2.1
   refine ae<|iA (ht _ _ _ _ _ _ _ s6 f H6 _ I6 q6) (λb t ⟨B,D,q7⟩=>?_) λ_ _ z=>z.elim;cases b with
   |false=>
    rw[if_neg bp] at q7;exact af ⟨rfl,q D q7⟩
   |true=>
    rw[if_pos rfl] at q7;refine ae<|ae<|iA (he _ _ _ _ _ _ _ t f B _ D q7) (λyv s8 ⟨y,H8,I8,r8,hl8,hz8,q8⟩=>?_) λ_ _ z=>z.elim;refine ae (iA (yG (X:=dM X N' scope cl U.heap.objs.size U HE fp π) _ s8 f H8 (.ref l) [y] (.ref l) [yv] (λ_ H9=>H9=upd H8 l (.lst<|O++[y])) I8 rfl (.cons r8 .nil) ⟨l,O,y,rfl,rfl,hl8,hz8,rfl⟩)
     (λ_ s9 ⟨_,H9,I9,_,e9⟩=>?_) λ_ _ z=>z.elim)
    subst e9;exact af<|af ⟨rfl,q I9 q8⟩
 exact codeAny_compStart_list (L _ rfl)<|T.self _ 0 _ _ _ Z<|L _ rfl
theorem aab (sc:x8)(N' o:List Str)(k:Nat)(cap:List Nat)(J:X.calm=true)(S:CSc sc scope o)(hcap:kL (λj x=>X.N[j]? = some x) cap o)
  (hi:PI Calm X tg iter wi) (hg:∀cl C sE HE fp U,PG (dM X N' scope cl C sE HE fp U) tg g) (ht:∀cl C sE HE fp U,Ua (dM X N' scope cl C sE HE fp U) ifs tt) (he:∀cl C sE HE fp U,PE (dM X N' scope cl C sE HE fp U) elt te)
  (hsc:X.env.scope=sc:=by rfl) (hN:N'.drop k=o:=by rfl) (hk:k<=N'.length:=by decide) (hs:∀x,hZ iter X.env x=pure x:=by intro _;rfl):
  PE X (.ListComp elt [⟨tg,iter,ifs,0⟩] scope pos) (Sd k cap wi g tt te):=by
 intro U s v H Q I h;obtain⟨cl,d,c,a⟩:=zO λy i e=>I.ok.has y.1 (by
  have z:=S.free y i e;rw[← hsc] at z;exact z)
 rw[eval_ListComp];refine vF rfl hs d S.kind S.loc<|Le J S hsc hN hk hcap hi hg ht he I h c a ?_;intro l sE HE H' t m r n p b q;exact⟨m,b,λu f=>⟨.ref l,H',Lf r n p f,rfl,q⟩⟩
theorem By (sc:x8)(N' o:List Str)(k:Nat)(cap:List Nat)(hnd:X.N.Nodup)(hi':X.N[i]? = some y)(hy:Loc X.env.scope y)(U:X.calm=true)(S:CSc sc scope o)(hcap:kL (λj x=>X.N[j]? = some x) cap o)
  (hi:PI Calm X tg iter wi) (hg:∀cl C sE HE fp J,PG (dM X N' scope cl C sE HE fp J) tg g) (ht:∀cl C sE HE fp J,Ua (dM X N' scope cl C sE HE fp J) ifs tt) (he:∀cl C sE HE fp J,PE (dM X N' scope cl C sE HE fp J) elt te)
  (τ:d4 (.ListComp elt [⟨tg,iter,ifs,0⟩] scope pos) (some<|.Name y py) spos.line X.env=pure true:=by rfl)
  (hsc:X.env.scope=sc:=by rfl) (hN:N'.drop k=o:=by rfl) (hk:k<=N'.length:=by decide) (hs:∀x,hZ iter X.env x=pure x:=by intro _;rfl)
  (hf:X.fn y=true\/X.env.scope.names.lookup y=some .local:=by clean_wf):
  PS X (.Assign [.Name y py] (.ListComp elt [⟨tg,iter,ifs,0⟩] scope pos) spos) (Xp (Sd k cap wi g tt te)<|GX i):=by
 intro J s R H D I h;obtain⟨cl,u,t,f⟩:=zO (scope:=scope) (env:=X.env) λy hy e=>I.ok.has y.1 (by
  have z:=S.free y hy e;rw[← hsc] at z;exact z)
 rw[exec_Assign_Name_used _ _ _ _ τ];refine ae<|r6<|ae ?_;show bt _ X.A (do let _←comprehension (.ListComp elt [⟨tg,iter,ifs,0⟩] scope pos) scope X.env _ (newList []) false (eval iter X.env) (some<|tf (.Name y py) X.env)) _ _ s;refine ae (iA (vF (use:=some<|tf (.Name y py) X.env) (Q:=λ_ b=>SP X J D .next b) rfl hs u S.kind S.loc
  (Le (RR:=λn C=>compPost (cx X.prog X.w) X.A X.xe (some<|tf (.Name y py) X.env) (λ_ b=>SP X J D .next b) n C) U S hsc hN hk hcap hi hg ht he I h t f ?_)) (λ_ b F=>af<|af F) λ_ _ e=>e)
 intro l sE HE H' b m c G L p q;show bt _ X.A (tf (.Name y py) X.env<|.ref l) _ _ _;refine wpAny_assign_Name<|Gb G hnd hi' hy (v:=.ref l) rfl (λP M E=>?_) hf;obtain⟨a,d,K⟩:=E;have B:sE.heap.objs.size≠a:=λz=>by
  rcases K with e|e
  ·exact absurd c.lt (by rw[← e,← z];exact hU _)
  ·obtain⟨v,q⟩:=c.cell y a e;exact absurd q.lt (by rw[z];exact hU _)
 exact⟨m,p.sameBut d B,λO r=>⟨_,H',Lf c M L r,q⟩⟩
end
inductive TyK (K:bo)(H:Hp):V->ax->Prop where
 |of {v:V} {t:ax}:wQ K H v t->TyK K H v t
 |tup {a:Addr} {xs:List V}:SqT K H a xs->TyK K H (.ref a) (.type "tuple")
 |lst {a:Addr} {xs:List V}:SqL K H a xs->TyK K H (.ref a) (.type "list")
section
def afT (K:bo):List V->Hp->VK->Prop:=λd H Q=>∃x c t a b,d=[x,c]/\aaD c=some a/\TyK K H x t/\fw K t a=some b/\Q (.bl b) H
theorem Ux:gU X (.builtin "isinstance") (afT X.K):=by
 intro v s y H j p Q I r h;obtain⟨x,c,t,w,b,rfl,l,ty,e,q⟩:=h;obtain⟨u,m,rfl,g,d⟩:=vals2 r;have z:=Lp l d;subst z;cases ty with
 |of ty=>exact U5 I g ty e λtk=>⟨.bl b,H,I.tok _,rfl,q⟩
 | @tup a j hs=>
  cases(g);obtain⟨k,_,⟨o,i,f,_⟩,_⟩:=I.tuple hs;exact jv W.kitx_tuple I.kIn ⟨o,i,f⟩ e (λz=>nomatch z) λtk=>⟨.bl b,H,I.tok _,rfl,q⟩
 | @lst a j hs=>
  cases(g);obtain⟨k,_,⟨o,n,i,f,_⟩,_⟩:=I.list hs;exact jv W.kitx_list I.kIn ⟨o,i,f⟩ e (λz=>nomatch z) λtk=>⟨.bl b,H,I.tok _,rfl,q⟩
end
theorem Rd.mono (h:Rd H a u)(g:aL H H'):Rd H' a u:=h.elim (λe=>.inl<|g _ _ e) λ⟨o,e⟩=>.inr ⟨o,g _ _ e⟩
theorem Lb {K:bo}{H H':Hp}{a:Addr}{xs:List V}(h:SqL K H a xs)(g:aL H H'):SqL K H' a xs:=h.elim (λe=>.inl<|Rd.mono e g) .inr
def SameBut (l:Addr)(H H':Hp):Prop:=∀b u,b≠l->H b=some u->H' b=some u
theorem aeT (g:aL H H'):SameBut l H H':=λb u _ e=>g b u e
theorem acI:SameBut l H (upd H l o):=λb u n e=>by rw[cB n];exact e
theorem SameBut.trans (a:SameBut l H H1)(b:SameBut l H1 H2):SameBut l H H2:=λc u n e=>b c u n<|a c u n e
theorem Zh (g:SameBut l H H')(n:H l=none):aL H H':=λb u e=>g b u (λz=>by rw[z,n] at e;cases e) e
section
end
section
end
section
def rJoin (K:bo):V->List V->Hp->VK->Prop:=λx b H Q=>∃z l a,x=.str z/\b=[.ref l]/\SqL K H l (a.map V.str)/\B6 z a=true/\Q (.str<|A5 z a) H
theorem JX:∀{zs:List Str} {us:List ax},Vals (zs.map V.str) us->∃l:List (Str×Tok),us=strValues l/\l.map (·.1)=zs
 |[],_,.nil=>⟨[],rfl,rfl⟩
 |z::zs,_,.cons r t=>by
  obtain⟨tk,rfl⟩:=r;obtain⟨l,rfl,e⟩:=JX t;exact⟨(z,tk)::l,rfl,by rw[ay,e]⟩
theorem abh (K:bo)(o:X.K=K:=by rfl):MtM X "str.join" (rJoin K):=by
 subst o;intro n s y H x i v m Q I d g h;obtain⟨z,l,w,rfl,rfl,c,ok,q⟩:=h;obtain⟨t,rfl⟩:=d;obtain⟨u,rfl,f⟩:=g.one;cases f;obtain⟨j,r,a,_⟩:=I.list c;obtain⟨p,rfl,e⟩:=JX r;exact SC.join a.isList e ok λb k=>⟨.str _,H,I.tok _,⟨b,rfl⟩,q⟩
end
end Hd
namespace F
open PySem PySem.Spec PyProof.Rows L2 Hd
inductive D where
 |non|bl (b:Bool)|int (i:Int)|str (x:Str)|exc (c:Str) (ns:List Str) (ds:List D)
 |tup (xs:List D)|lst (xs:List D)
 |dct (ks:List Key) (vs:List D)|dcu (ks:List (List Kt)) (vs:List D)
  |dcf (ks:List (List Kt)) (vs:List D)
  |odd (n:Nat)
  |adr (a:Addr)
  |ins (c:Str) (ns:List Str) (vs:List D)
abbrev Xn:=Str×List Str×List D
inductive Res (α:Type) where
 |ok (a:α)|exc (c:Xn)|stuck
def Res.bind {o C:Type}(r:Res o)(f:o->Res C):Res C:=match r with
 | .ok a=>f a
 | .exc c=>.exc c
 | .stuck=>.stuck
@[simp] theorem Res.uQ {α β:Type}(a:α)(f:α->Res β):(Res.ok a).bind f=f a:=rfl
@[simp] theorem Res.afU {α β:Type}(c:Xn)(f:α->Res β):(Res.exc c:Res α).bind f=.exc c:=rfl
@[simp] theorem Res.acX {α β:Type}(f:α->Res β):(Res.stuck:Res α).bind f=.stuck:=rfl
def ofO {o:Type}:Option o->Res o
 |some a=>.ok a
 |none=>.stuck
@[simp] theorem qQ {α:Type}(a:α):ofO (some a)=.ok a:=rfl
@[simp] theorem afL {α:Type}:ofO (none:Option α)=.stuck:=rfl
structure Gx where
 K:bo
 mg:Zp
abbrev gx (X:Cx):Gx:=⟨X.K,X.mg⟩
def ags (K:bo)(a:Addr)(xs:List V):Prop:=
 ∃(o:Obj) (b:Array ax) (n:Nat),K.lookup a=some o/\o.cls=.type "list"/\o.dict=none/\o.data=.seq b n/\b.size<=ai/\Vals xs b.toList
def LstAt (K:bo)(O:Zaa)(H:Hp)(a:Addr)(xs:List V):Prop:=(¬O a/\Rd H a (.lst xs))\/ags K a xs
def XO (H:Hp)(o:Option Addr)(fs:List (Str×V)):Prop:=(fs=[]/\o=none)\/∃a q,o=some a/\H a=some (.frz q<|.xd fs)
mutual
inductive DV (G:Gx)(O:Zaa)(H:Hp):V->D->Prop where
 |non:DV G O H .non .non
 |bl (b:Bool):DV G O H (.bl b) (.bl b)
 |int (i:Int):DV G O H (.int i) (.int i)
 |str (x:Str):DV G O H (.str x) (.str x)
 |adr (a:Addr):DV G O H (.ref a) (.adr a)
 |ins {a C dx:Addr} {c:Str} {ι:List (Str×V)} {ns:List Str} {vs:List V} {ds:List D}:¬O a->G.mg c=some (.ref C)->H a=some (.ins C dx ι)->ι.map (·.1)=ns->ι.map (·.2)=vs->DVs G O H vs ds->DV G O H (.ref a) (.ins c ns ds)
 |exc {a C:Addr} {c:Str} {ox:Obj} {fs:List (Str×V)} {ns:List Str} {vs:List V} {ds:List D}:G.mg c=some (.ref C)->H a=some (.frz ox (.ext (zz a (.ref C))))->XO H ox.dict fs->fs.map (·.1)=ns->fs.map (·.2)=vs->DVs G O H vs ds->DV G O H (.ref a) (.exc c ns ds)
 |tup {a:Addr} {xs:List V} {ds:List D}:SqU G.K H a xs->DVs G O H xs ds->DV G O H (.ref a) (.tup ds)
 |lst {a:Addr} {xs:List V} {ds:List D}:LstAt G.K O H a xs->DVs G O H xs ds->DV G O H (.ref a) (.lst ds)
 |dct {a:Addr} {ι:List (Key×V)} {ks:List Key} {vs:List V} {ds:List D}:¬O a->Rd H a (.dK ι)->ι.map (·.1)=ks->ι.map (·.2)=vs->DVs G O H vs ds->DV G O H (.ref a) (.dct ks ds)
 |dcu {a:Addr} {ι:List (List Kt×V)} {ks:List (List Kt)} {vs:List V} {ds:List D}:¬O a->H a=some (.dT (KTp G.K) ι)->ι.map (·.1)=ks->ι.map (·.2)=vs->DVs G O H vs ds->DV G O H (.ref a) (.dcu ks ds)
 |dcf {a:Addr} {o:Obj} {ι:List (List Kt×V)} {ks:List (List Kt)} {vs:List V} {ds:List D}:H a=some (.frz o (.dT (KTp G.K) ι))->ι.map (·.1)=ks->ι.map (·.2)=vs->DVs G O H vs ds->DV G O H (.ref a) (.dcf ks ds)
 |odd {a:Addr} {n:Nat}:¬O a->H a=some (.odd n)->DV G O H (.ref a) (.odd n)
inductive DVs (G:Gx)(O:Zaa)(H:Hp):List V->List D->Prop where
 |nil:DVs G O H [] []
 |cons {v:V} {vs:List V} {d:D} {ds:List D}:DV G O H v d->DVs G O H vs ds->DVs G O H (v::vs) (d::ds)
end
def XP (G:Gx)(H:Hp)(c:Xn)(C:Addr×Option Addr):Prop:=G.mg c.1=some (.ref C.1)/\∃fs a,XO H C.2 fs/\fs.map (·.1)=c.2.1/\fs.map (·.2)=a/\∀O,DVs G O H a c.2.2
def OV (G:Gx)(O:Zaa)(H:Hp)(a:Addr):D->Prop
 | .lst ds=>∃e,H a=some (.lst e)/\DVs G O H e ds
 | .dct ks ds=>∃b d,H a=some (.dK b)/\b.map (·.1)=ks/\b.map (·.2)=d/\DVs G O H d ds
 | .dcu ks ds=>∃b d,H a=some (.dT (KTp G.K) b)/\b.map (·.1)=ks/\b.map (·.2)=d/\DVs G O H d ds
 | .odd n=>H a=some (.odd n)
 | .ins c ns ds=>∃C f b d,G.mg c=some (.ref C)/\H a=some (.ins C f b)/\b.map (·.1)=ns/\b.map (·.2)=d/\DVs G O H d ds
 |_=>False
def DW (G:Gx)(O:Zaa)(H:Hp)(v:V)(d:D):Prop:=DV G O H v d\/∃a,v=.ref a/\O a/\OV G O H a d
inductive DWs (G:Gx)(O:Zaa)(H:Hp):List V->List D->Prop where
 |nil:DWs G O H [] []
 |cons {v:V} {vs:List V} {d:D} {ds:List D}:DW G O H v d->DWs G O H vs ds->DWs G O H (v::vs) (d::ds)
def ik (o:Option HO):Prop:=(∃a,o=some (.lst a))\/(∃k,o=some (.dK k))\/(∃k:(Addr->List V->Prop)×List (List Kt×V),o=some (.dT k.1 k.2))\/(∃k:Addr×Addr×List (Str×V),o=some (.ins k.1 k.2.1 k.2.2))\/∃n,o=some (.odd n)
def Kp (O:Zaa)(H H':Hp):Prop:=∀b o,H b=some o->¬O b->H' b=some o
theorem ace {O:Zaa}{H H':Hp}{a:Addr}{u:HO}(g:Kp O H H')(n:¬O a)(e:Rd H a u):Rd H' a u:=e.imp (λe=>g _ _ e n) λ⟨o,e⟩=>⟨o,g _ _ e n⟩
theorem ae7 {H H':Hp}{a:Addr}{u:HO}(g:aL H H')(e:Rd H a u):Rd H' a u:=e.imp (g _ _) λ⟨o,e⟩=>⟨o,g _ _ e⟩
theorem abY {H:Hp}{a:Addr}{u:HO}(e:Rd H a u)(z:H a=none):False:=by rcases e with e|⟨_,e⟩<;>(rw[z] at e;cases e)
theorem Kp.of {O:Zaa}{H H':Hp}(g:aL H H'):Kp O H H':=λb o e _=>g b o e
theorem nC {O:Zaa}{H:Hp}(m:∀b,O b->ik (H b)){a:Addr}{o:HO}(e:H a=some o)(n:¬ik (some o)):¬O a:=λz=>n<|e▸m a z
theorem RT {xs:List V}:¬ik (some<|.tup xs):=by rintro(⟨_,e⟩|⟨_,e⟩|⟨_,e⟩|⟨_,e⟩|⟨_,e⟩)<;>cases e
theorem qW {o:Obj}{u:HO}:¬ik (some<|.frz o u):=by rintro(⟨_,e⟩|⟨_,e⟩|⟨_,e⟩|⟨_,e⟩|⟨_,e⟩)<;>cases e
theorem adq {K:bo}{O:Zaa}{H H':Hp}{a:Addr}{xs:List V}(m:∀b,O b->ik (H b))(g:Kp O H H')(h:SqT K H a xs):SqT K H' a xs:=by
 rcases h with(e|⟨o,e⟩)|h
 ·exact .inl<|.inl<|g a _ e<|nC m e RT
 ·exact .inl<|.inr ⟨o,g a _ e<|nC m e qW⟩
 ·exact .inr h
theorem Yv {K:bo}{O:Zaa}{H H':Hp}{a:Addr}{xs:List V}(m:∀b,O b->ik (H b))(g:Kp O H H')(h:SqU K H a xs):SqU K H' a xs:=by
 rcases h with e|h
 ·exact .inl<|g a _ e<|nC m e RT
 ·exact .inr h
theorem XF {K:bo}{H H':Hp}{a:Addr}{xs:List V}(h:SqU K H a xs)(g:aL H H'):SqU K H' a xs:=h.imp (g _ _) id
theorem wV {K:bo}{O:Zaa}{H H':Hp}{a:Addr}{xs:List V}(g:Kp O H H')(h:LstAt K O H a xs):LstAt K O H' a xs:=by
 rcases h with⟨n,e|⟨o,e⟩⟩|h
 ·exact .inl ⟨n,.inl<|g a _ e n⟩
 ·exact .inl ⟨n,.inr ⟨o,g a _ e n⟩⟩
 ·exact .inr h
theorem LstAt.sq {K:bo}{O:Zaa}{H:Hp}{a:Addr}{xs:List V}(h:LstAt K O H a xs):SqL K H a xs:=h.elim (λz=>.inl z.2) .inr
section
variable {G:Gx}{O O':Zaa}{H H':Hp}
mutual
theorem DV.kp (m:∀b,O b->ik (H b))(g:Kp O H H'):∀{v:V} {d:D},DV G O H v d->DV G O H' v d
 |_,_,.non=>.non
 |_,_,.bl b=>.bl b
 |_,_,.int i=>.int i
 |_,_,.str x=>.str x
 |_,_,.odd n e=>.odd n<|g _ _ e n
 |_,_,.adr a=>.adr a
 |_,_,.exc h e x a b hs=>.exc h (g _ _ e<|nC m e qW) (x.imp id λ⟨d,q,z,y⟩=>⟨d,q,z,g _ _ y<|nC m y qW⟩) a b<|DVs.kp m g hs
 |_,_,.tup h hs=>.tup (Yv m g h)<|DVs.kp m g hs
 |_,_,.lst h hs=>.lst (wV g h)<|DVs.kp m g hs
 |_,_,.dct n e a b hs=>.dct n (ace g n e) a b<|DVs.kp m g hs
 |_,_,.dcu n e a b hs=>.dcu n (g _ _ e n) a b<|DVs.kp m g hs
 |_,_,.dcf e a b hs=>.dcf (g _ _ e<|nC m e qW) a b<|DVs.kp m g hs
 |_,_,.ins n c e a b hs=>.ins n c (g _ _ e n) a b<|DVs.kp m g hs
theorem DVs.kp (m:∀b,O b->ik (H b))(g:Kp O H H'):∀{o:List V} {ds:List D},DVs G O H o ds->DVs G O H' o ds
 |_,_,.nil=>.nil
 |_,_,.cons h hs=>.cons (DV.kp m g h)<|DVs.kp m g hs
end
mutual
theorem DV.mono (g:aL H H'):∀{v:V} {d:D},DV G O H v d->DV G O H' v d
 |_,_,.non=>.non
 |_,_,.bl b=>.bl b
 |_,_,.int i=>.int i
 |_,_,.str x=>.str x
 |_,_,.odd n e=>.odd n<|g _ _ e
 |_,_,.adr a=>.adr a
 |_,_,.exc h e x a b hs=>.exc h (g _ _ e) (x.imp id λ⟨d,q,z,y⟩=>⟨d,q,z,g _ _ y⟩) a b<|DVs.mono g hs
 |_,_,.tup h hs=>.tup (XF h g)<|DVs.mono g hs
 |_,_,.lst h hs=>.lst (wV (.of g) h)<|DVs.mono g hs
 |_,_,.dct n e a b hs=>.dct n (ae7 g e) a b<|DVs.mono g hs
 |_,_,.dcu n e a b hs=>.dcu n (g _ _ e) a b<|DVs.mono g hs
 |_,_,.dcf e a b hs=>.dcf (g _ _ e) a b<|DVs.mono g hs
 |_,_,.ins n c e a b hs=>.ins n c (g _ _ e) a b<|DVs.mono g hs
theorem DVs.mono (g:aL H H'):∀{o:List V} {ds:List D},DVs G O H o ds->DVs G O H' o ds
 |_,_,.nil=>.nil
 |_,_,.cons h hs=>.cons (DV.mono g h)<|DVs.mono g hs
end
mutual
theorem DV.bQ (s:∀b,O' b->O b\/H b=none):∀{v:V} {d:D},DV G O H v d->DV G O' H v d
 |_,_,.non=>.non
 |_,_,.bl b=>.bl b
 |_,_,.int i=>.int i
 |_,_,.str x=>.str x
 |_,_,.odd n e=>.odd (λo=>(s _ o).elim n λz=>by rw[z] at e;cases e) e
 |_,_,.adr a=>.adr a
 |_,_,.exc h e x a b hs=>.exc h e x a b<|DVs.bQ s hs
 |_,_,.tup h hs=>.tup h<|DVs.bQ s hs
 |_,_,.lst h hs=>.lst (h.elim (λz=>.inl ⟨λo=>(s _ o).elim z.1 λn=>by rcases z.2 with e|⟨_,e⟩<;>(rw[n] at e;cases e),z.2⟩) .inr) (DVs.bQ s hs)
 |_,_,.dct n e a b hs=>.dct (λo=>(s _ o).elim n λz=>abY e z) e a b<|DVs.bQ s hs
 |_,_,.dcu n e a b hs=>.dcu (λo=>(s _ o).elim n λz=>by rw[z] at e;cases e) e a b (DVs.bQ s hs)
 |_,_,.dcf e a b hs=>.dcf e a b<|DVs.bQ s hs
 |_,_,.ins n c e a b hs=>.ins (λo=>(s _ o).elim n λz=>by rw[z] at e;cases e) c e a b (DVs.bQ s hs)
theorem DVs.bQ (s:∀b,O' b->O b\/H b=none):∀{o:List V} {ds:List D},DVs G O H o ds->DVs G O' H o ds
 |_,_,.nil=>.nil
 |_,_,.cons h hs=>.cons (DV.bQ s h)<|DVs.bQ s hs
end
def Ev (O:Zaa)(H:Hp)(O':Zaa)(H':Hp):Prop:=(∀b,O' b->O b\/H b=none)/\Kp O H H'
mutual
theorem DV.go (m:∀b,O b->ik (H b))(g:Ev O H O' H'):∀{v:V} {d:D},DV G O H v d->DV G O' H' v d
 |_,_,.non=>.non
 |_,_,.bl b=>.bl b
 |_,_,.int i=>.int i
 |_,_,.str x=>.str x
 |_,_,.odd n e=>.odd (λo=>(g.1 _ o).elim n λz=>by rw[z] at e;cases e) (g.2 _ _ e n)
 |_,_,.adr a=>.adr a
 |_,_,.exc h e x a b hs=>.exc h (g.2 _ _ e<|nC m e qW) (x.imp id λ⟨d,q,z,y⟩=>⟨d,q,z,g.2 _ _ y<|nC m y qW⟩) a b<|DVs.go m g hs
 |_,_,.tup h hs=>.tup (Yv m g.2 h)<|DVs.go m g hs
 |_,_,.lst h hs=>.lst (h.elim (λz=>.inl ⟨λo=>(g.1 _ o).elim z.1 λn=>by rcases z.2 with e|⟨_,e⟩<;>(rw[n] at e;cases e),(wV g.2 (.inl z):LstAt G.K O H' _ _).elim (λy=>y.2) λy=>z.2.elim (λe=>.inl<|g.2 _ _ e z.1) λ⟨o,e⟩=>.inr ⟨o,g.2 _ _ e z.1⟩⟩) .inr) (DVs.go m g hs)
 |_,_,.dct n e a b hs=>.dct (λo=>(g.1 _ o).elim n λz=>abY e z) (ace g.2 n e) a b<|DVs.go m g hs
 |_,_,.dcu n e a b hs=>.dcu (λo=>(g.1 _ o).elim n λz=>by rw[z] at e;cases e) (g.2 _ _ e n) a b (DVs.go m g hs)
 |_,_,.dcf e a b hs=>.dcf (g.2 _ _ e<|nC m e qW) a b<|DVs.go m g hs
 |_,_,.ins n c e a b hs=>.ins (λo=>(g.1 _ o).elim n λz=>by rw[z] at e;cases e) c (g.2 _ _ e n) a b (DVs.go m g hs)
theorem DVs.go (m:∀b,O b->ik (H b))(g:Ev O H O' H'):∀{o:List V} {ds:List D},DVs G O H o ds->DVs G O' H' o ds
 |_,_,.nil=>.nil
 |_,_,.cons h hs=>.cons (DV.go m g h)<|DVs.go m g hs
end
theorem OV.bQ {a:Addr}{d:D}(s:∀b,O' b->O b\/H b=none)(h:OV G O H a d):OV G O' H a d:=by
 cases d with
 |odd n=>exact h
 |lst ds=>obtain⟨j,e,f⟩:=h;exact⟨j,e,f.bQ s⟩
 |dct ks ds=>obtain⟨k,v,e,i,g,f⟩:=h;exact⟨k,v,e,i,g,f.bQ s⟩
 |dcu ks ds=>obtain⟨k,v,e,i,g,f⟩:=h;exact⟨k,v,e,i,g,f.bQ s⟩
 |ins c ns ds=>obtain⟨C,m,k,v,l,e,i,g,f⟩:=h;exact⟨C,m,k,v,l,e,i,g,f.bQ s⟩
 |_=>exact h.elim
theorem OV.mono {a:Addr}{d:D}(g:aL H H')(h:OV G O H a d):OV G O H' a d:=by
 cases d with
 |odd n=>exact g _ _ h
 |lst ds=>obtain⟨j,e,b⟩:=h;exact⟨j,g _ _ e,b.mono g⟩
 |dct ks ds=>obtain⟨k,v,e,i,f,b⟩:=h;exact⟨k,v,g _ _ e,i,f,b.mono g⟩
 |dcu ks ds=>obtain⟨k,v,e,i,f,b⟩:=h;exact⟨k,v,g _ _ e,i,f,b.mono g⟩
 |ins c ns ds=>obtain⟨C,m,k,v,l,e,i,f,b⟩:=h;exact⟨C,m,k,v,l,g _ _ e,i,f,b.mono g⟩
 |_=>exact h.elim
theorem OV.kp {a:Addr}{d:D}(m:∀b,O b->ik (H b))(g:Kp O H H')(o:H' a=H a)(h:OV G O H a d):OV G O H' a d:=by
 cases d with
 |odd n=>exact o.trans h
 |lst ds=>obtain⟨l,e,f⟩:=h;exact⟨l,o.trans e,f.kp m g⟩
 |dct ks ds=>obtain⟨k,v,e,j,i,f⟩:=h;exact⟨k,v,o.trans e,j,i,f.kp m g⟩
 |dcu ks ds=>obtain⟨k,v,e,j,i,f⟩:=h;exact⟨k,v,o.trans e,j,i,f.kp m g⟩
 |ins c ns ds=>obtain⟨C,q,k,v,p,e,j,i,f⟩:=h;exact⟨C,q,k,v,p,o.trans e,j,i,f.kp m g⟩
 |_=>exact h.elim
theorem OV.mut {a:Addr}{d:D}(h:OV G O H a d):ik (H a):=by
 cases d with
 |odd n=>exact .inr (.inr<|.inr<|.inr ⟨n,h⟩)
 |lst ds=>obtain⟨b,e,g⟩:=h;exact .inl ⟨b,e⟩
 |dct ks ds=>obtain⟨k,v,e,_⟩:=h;exact .inr<|.inl ⟨k,e⟩
 |dcu ks ds=>obtain⟨k,v,e,_⟩:=h;exact .inr<|.inr<|.inl ⟨(_,k),e⟩
 |ins c ns ds=>obtain⟨C,f,k,v,_,e,_⟩:=h;exact .inr<|.inr<|.inr<|.inl ⟨(C,f,k),e⟩
 |_=>exact h.elim
theorem OV.dv {a:Addr}{d:D}(n:¬O a)(h:OV G O H a d):DV G O H (.ref a) d:=by
 cases d with
 |odd k=>exact .odd n h
 |lst ds=>obtain⟨j,e,b⟩:=h;exact .lst (.inl ⟨n,.inl e⟩) b
 |dct ks ds=>obtain⟨k,v,e,g,f,b⟩:=h;exact .dct n (.inl e) g f b
 |dcu ks ds=>obtain⟨k,v,e,g,f,b⟩:=h;exact .dcu n e g f b
 |ins c ns ds=>obtain⟨C,l,k,v,i,e,g,f,b⟩:=h;exact .ins n i e g f b
 |_=>exact h.elim
theorem DW.mono {v:V}{d:D}(g:aL H H')(h:DW G O H v d):DW G O H' v d:=h.elim (λz=>.inl<|z.mono g) λ⟨a,e,o,z⟩=>.inr ⟨a,e,o,z.mono g⟩
theorem DW.any {v:V}{d:D}(h:DW G O H v d):DV G (λ_=>False) H v d:=by
 rcases h with h|⟨a,e,_,h⟩
 ·exact h.bQ λ_ z=>z.elim
 ·subst e;exact(h.bQ λ_ z=>z.elim).dv id
theorem DWs.any:∀{o:List V} {ds:List D},DWs G O H o ds->DVs G (λ_=>False) H o ds
 |_,_,.nil=>.nil
 |_,_,.cons h hs=>.cons h.any<|DWs.any hs
end
section
variable {G:Gx}{O:Zaa}{H:Hp}{v:V}
theorem tu (h:DW G O H v .non):v=.non:=by
 rcases h with h|⟨_,_,_,h⟩
 ·cases h;rfl
 ·exact h.elim
theorem zU {b:Bool}(h:DW G O H v (.bl b)):v=.bl b:=by
 rcases h with h|⟨_,_,_,h⟩
 ·cases h;rfl
 ·exact h.elim
theorem cI {i:Int}(h:DW G O H v (.int i)):v=.int i:=by
 rcases h with h|⟨_,_,_,h⟩
 ·cases h;rfl
 ·exact h.elim
theorem kj {x:Str}(h:DW G O H v (.str x)):v=.str x:=by
 rcases h with h|⟨_,_,_,h⟩
 ·cases h;rfl
 ·exact h.elim
theorem MJ {c:Str}{I:List Str}{es:List D}(h:DW G O H v (.exc c I es)):∃a C,v=.ref a/\G.mg c=some (.ref C)/\∃o,H a=some (.frz o<|.ext<|zz a<|.ref C):=by
 rcases h with h|⟨_,_,_,h⟩
 ·cases h with
  |exc h e=>exact⟨_,_,rfl,h,_,e⟩
 ·exact h.elim
theorem Em {ds:List D}(h:DW G O H v (.tup ds)):∃a xs,v=.ref a/\SqT G.K H a xs/\DVs G O H xs ds:=by
 rcases h with h|⟨_,_,_,h⟩
 ·cases h with
  |tup h hs=>exact⟨_,_,rfl,h.sq,hs⟩
 ·exact h.elim
theorem xu {ds:List D}(h:DW G O H v (.tup ds)):∃a xs,v=.ref a/\SqU G.K H a xs/\DVs G O H xs ds:=by
 rcases h with h|⟨_,_,_,h⟩
 ·cases h with
  |tup h hs=>exact⟨_,_,rfl,h,hs⟩
 ·exact h.elim
theorem lr {ds:List D}(h:DW G O H v (.lst ds)):∃a xs,v=.ref a/\SqL G.K H a xs/\DVs G O H xs ds:=by
 rcases h with h|⟨a,e,_,h⟩
 ·cases h with
  |lst h b=>exact⟨_,_,rfl,h.sq,b⟩
 ·obtain⟨xs,c,b⟩:=h;exact⟨a,xs,e,.inl<|.inl c,b⟩
theorem Nb {K:bo}{a:Addr}{ι:List (Key×V)}{k:Key}(e:Rd H a (.dK ι)):JZ K H a (kV k) (nj ι k):=.inl ⟨ι,k,e,rfl,rfl⟩
theorem sX {ks:List Key}{ds:List D}(h:DW G O H v (.dct ks ds)):∃a ι o,v=.ref a/\Rd H a (.dK ι)/\ι.map (·.1)=ks/\ι.map (·.2)=o/\DVs G O H o ds:=by
 rcases h with h|⟨a,e,_,h⟩
 ·cases h with
  |dct n e a b c=>exact⟨_,_,_,rfl,e,a,b,c⟩
 ·obtain⟨k,w,g,f,d,c⟩:=h;exact⟨a,k,w,e,.inl g,f,d,c⟩
theorem WK {ks:List (List Kt)}{ds:List D}(h:DW G O H v (.dcu ks ds)):∃a ι o,v=.ref a/\H a=some (.dT (KTp G.K) ι)/\ι.map (·.1)=ks/\ι.map (·.2)=o/\DVs G O H o ds:=by
 rcases h with h|⟨a,e,_,h⟩
 ·cases h with
  |dcu n e a b c=>exact⟨_,_,_,rfl,e,a,b,c⟩
 ·obtain⟨k,w,g,f,d,c⟩:=h;exact⟨a,k,w,e,g,f,d,c⟩
theorem cC:∀{o:List V} {ds:List D},DVs G O H o ds->o.length=ds.length
 |_,_,.nil=>rfl
 |_,_,.cons _ hs=>by rw[cy,cy,cC hs]
theorem lu:∀{o us:List V} {ds es:List D},DVs G O H o ds->DVs G O H us es->DVs G O H (o++us) (ds++es)
 |_,_,_,_,.nil,h=>h
 |_,_,_,_,.cons a t,h=>.cons a<|lu t h
theorem xF:∀{o:List V} {ds:List D} {i:Nat} {x:V},DVs G O H o ds->o[i]? = some x->∃d,ds[i]? = some d/\DV G O H x d
 |_,_,_,_,.nil,e=>by simp at e
 |_,_,0,_,.cons a _,e=>by simp at e;subst e;exact⟨_,rfl,a⟩
 |_,_,i+1,x,.cons _ t,e=>by
  obtain⟨d,b,c⟩:=xF t (by simpa using e);exact⟨d,by simpa using b,c⟩
theorem vN:∀{o:List V} {ds:List D} {i:Nat} {d:D},DVs G O H o ds->ds[i]? = some d->∃x,o[i]? = some x/\DV G O H x d
 |_,_,_,_,.nil,e=>by simp at e
 |_,_,0,_,.cons a _,e=>by simp at e;subst e;exact⟨_,rfl,a⟩
 |_,_,i+1,d,.cons _ t,e=>by
  obtain⟨x,b,c⟩:=vN t (by simpa using e);exact⟨x,by simpa using b,c⟩
theorem Dg:∀{o:List V} {ds:List D} (n:Nat),DVs G O H o ds->DVs G O H (o.take n) (ds.take n)
 |_,_,0,_=>by simp only[List.take_zero];exact .nil
 |_,_,_+1,.nil=>.nil
 |_,_,n+1,.cons a t=>.cons a<|Dg n t
theorem KH:∀{o:List V} {ds:List D} (n:Nat),DVs G O H o ds->DVs G O H (o.drop n) (ds.drop n)
 |_,_,0,h=>h
 |_,_,_+1,.nil=>.nil
 |_,_,n+1,.cons _ t=>KH n t
theorem Pg:∀{o:List V} {ds:List D},DVs G O H o ds->DVs G O H o.reverse ds.reverse
 |_,_,.nil=>.nil
 |_,_,.cons a t=>by rw[kT,kT];exact lu (Pg t)<|.cons a .nil
noncomputable def flat:D->Bool
 | .non|.bl _|.int _|.str _=>true
 |_=>false
theorem DV.flat {O':Zaa}{H':Hp}{d:D}(f:flat d=true)(h:DV G O H v d):DV G O' H' v d:=by
 cases h with
 |non=>exact .non
 |bl b=>exact .bl b
 |int i=>exact .int i
 |str x=>exact .str x
 |_=>cases f
end
inductive Sl where
  |un|fz (d:D)|ow (d:D)|io (d:D)|bw (d:D)
  |hd (w:Bool) (a:Addr) (d:D)
abbrev Me:=List Sl
abbrev Os:=Nat->Option Addr
noncomputable def Ow (O0:Zaa)(ow:Os):Zaa:=λb=>O0 b\/∃i,ow i=some b
def Op (O:Zaa)(p:Addr):Zaa:=λb=>O b\/b=p
noncomputable def owS (ow:Os)(i:Nat)(x:Option Addr):Os:=λj=>if j=i then x else ow j
theorem fj {ow:Os}{i:Nat}{x:Option Addr}:owS ow i x i=x:=by unfold owS;rw[if_pos rfl]
theorem d9 {ow:Os}{i j:Nat}{x:Option Addr}(h:j≠i):owS ow i x j=ow j:=by unfold owS;rw[if_neg h]
def KN (G:Gx)(O M0:Zaa)(H0:Hp)(o:Option Addr)(v:Option (Option V))(H:Hp):Sl->Prop
 | .un=>o=none
 | .fz d=>o=none/\∃x,v=some (some x)/\DV G O H x d
 | .ow d=>∃a,o=some a/\H0 a=none/\v=some (some<|.ref a)/\OV G O H a d
 | .io d=>∃a,o=some a/\M0 a/\v=some (some<|.ref a)/\OV G O H a d
 | .bw d=>o=none/\∃x,v=some (some x)/\DW G O H x d
 | .hd w a d=>o=some a/\(w=true->H0 a=none)/\(w=false->M0 a)/\OV G O H a d
structure Rel (G:Gx)(O0 M0:Zaa)(H0:Hp)(ow:Os)(σ:L2.St)(H:Hp)(m:Me):Prop where
 len:σ.length=m.length
 keep:Kp M0 H0 H
 m0:∀b,M0 b->H b≠none
 mutk:∀b,Ow O0 ow b->ik (H b)
 no0:∀i a,ow i=some a->¬O0 a
 inj:∀i j a,ow i=some a->ow j=some a->i=j
 out:∀i,m.length<=i->ow i=none
 slot:∀i s,m[i]? = some s->KN G (Ow O0 ow) M0 H0 (ow i) (σ[i]?) H s
structure dF (G:Gx)(O0 M0:Zaa)(H0:Hp)(ow:Os)(σ:L2.St)(H:Hp)(m:Me):Prop extends Rel G O0 M0 H0 ow σ H m where
 nb:∀(j:Nat) (d:D),m[j]?≠some (Sl.bw d)
structure Go (O0:Zaa)(ow:Os)(H:Hp)(ow':Os)(H':Hp):Prop where
 keep:Kp (Ow O0 ow) H H'
 new:∀i a,ow' i=some a->Ow O0 ow a\/H a=none
 dom:∀b,H b≠none->H' b≠none
theorem Go.refl {O0:Zaa}{ow:Os}{H H':Hp}(g:aL H H'):Go O0 ow H ow H':=
 ⟨.of g,λi a e=>.inl<|.inr ⟨i,e⟩,λb n z=>by
  cases q:H b with
  |none=>exact n q
  |some o=>rw[g b o q] at z;cases z⟩
theorem Go.trans {O0:Zaa}{ow I C:Os}{H J U:Hp}(a:Go O0 ow H I J)(b:Go O0 I J C U):Go O0 ow H C U where
 keep:=λc o e n=>b.keep c o (a.keep c o e n) λz=>by
  rcases z with z|⟨i,z⟩
  ·exact n<|.inl z
  ·rcases a.new i c z with y|y
   ·exact n y
   ·rw[y] at e;cases e
 new:=λi c e=>by
  rcases b.new i c e with(z|⟨j,z⟩)|z
  ·exact .inl<|.inl z
  ·exact a.new j c z
  ·refine .inr ?_;cases q:H c with
   |none=>rfl
   |some o=>exact absurd z (a.dom c (by rw[q];simp))
 dom:=λc n=>b.dom c<|a.dom c n
theorem Go.ev {O0:Zaa}{ow o:Os}{H H':Hp}(g:Go O0 ow H o H'):Ev (Ow O0 ow) H (Ow O0 o) H':=
 ⟨λb z=>z.elim (λz=>.inl<|.inl z) λ⟨i,e⟩=>g.new i b e,g.keep⟩
theorem xX (O:Zaa):Ow O (λ_=>none)=O:=by
 funext b;exact propext ⟨λz=>z.elim id λ⟨_,e⟩=>(by cases e),fN⟩
section
variable {G:Gx}{O0 M0:Zaa}{H0 H H':Hp}{ow:Os}{σ:L2.St}{m:Me}
theorem KN.mono {O:Zaa}{o:Option Addr}{v:Option (Option V)}{s:Sl}(g:aL H H')(h:KN G O M0 H0 o v H s):KN G O M0 H0 o v H' s:=by
 cases s with
 |un=>exact h
 |fz d=>obtain⟨a,x,e,q⟩:=h;exact⟨a,x,e,q.mono g⟩
 |ow d=>obtain⟨a,x,e,f,q⟩:=h;exact⟨a,x,e,f,q.mono g⟩
 |io d=>obtain⟨a,x,e,f,q⟩:=h;exact⟨a,x,e,f,q.mono g⟩
 |bw d=>obtain⟨a,x,e,q⟩:=h;exact⟨a,x,e,q.mono g⟩
 |hd w a d=>obtain⟨x,e,f,q⟩:=h;exact⟨x,e,f,q.mono g⟩
theorem zr {b:Addr}(g:aL H H')(h:ik (H b)):ik (H' b):=by
 rcases h with⟨x,e⟩|⟨x,e⟩|⟨x,e⟩|⟨x,e⟩|⟨x,e⟩
 ·exact .inl ⟨x,g _ _ e⟩
 ·exact .inr<|.inl ⟨x,g _ _ e⟩
 ·exact .inr<|.inr<|.inl ⟨x,g _ _ e⟩
 ·exact .inr<|.inr<|.inr<|.inl ⟨x,g _ _ e⟩
 ·exact .inr<|.inr<|.inr<|.inr ⟨x,g _ _ e⟩
theorem Rel.mono (R:Rel G O0 M0 H0 ow σ H m)(g:aL H H'):Rel G O0 M0 H0 ow σ H' m:=
 ⟨R.len,λb o e n=>g b o<|R.keep b o e n,λb z q=>R.m0 b z<|aL.free g q,λb z=>zr g<|R.mutk b z,R.no0,R.inj,R.out,λi s e=>(R.slot i s e).mono g⟩
theorem KN.bQ {O O':Zaa}{C:Option Addr}{v:Option (Option V)}{s:Sl}(sub:∀b,O' b->O b\/H b=none)(h:KN G O M0 H0 C v H s)(I:∀d,s=.bw d->∀b,O b->O' b\/¬O' b):KN G O' M0 H0 C v H s:=by
 cases s with
 |un=>exact h
 |fz d=>obtain⟨a,x,e,q⟩:=h;exact⟨a,x,e,q.bQ sub⟩
 |ow d=>obtain⟨a,x,e,f,q⟩:=h;exact⟨a,x,e,f,q.bQ sub⟩
 |io d=>obtain⟨a,x,e,f,q⟩:=h;exact⟨a,x,e,f,q.bQ sub⟩
 |bw d=>
  obtain⟨a,x,e,q⟩:=h;refine⟨a,x,e,?_⟩;rcases q with q|⟨b,c,o,q⟩
  ·exact .inl<|q.bQ sub
  ·rcases I d rfl b o with w|w
   ·exact .inr ⟨b,c,w,q.bQ sub⟩
   ·subst c;exact .inl<|(q.bQ sub).dv w
 |hd w a d=>obtain⟨x,e,f,q⟩:=h;exact⟨x,e,f,q.bQ sub⟩
theorem Ow.sub {i:Nat}{b:Addr}(z:Ow O0 (owS ow i none) b):Ow O0 ow b:=by
 rcases z with z|⟨j,e⟩
 ·exact .inl z
 ·by_cases q:j=i
  ·subst q;rw[fj] at e;cases e
  ·rw[d9 q] at e;exact .inr ⟨j,e⟩
theorem rR {o:Type}{l:List o}{i:Nat}{x:o}(e:l[i]? = some x):i<l.length:=(cb.mp e).1
theorem Rel.set {i:Nat}{v:V}{d:D}(R:Rel G O0 M0 H0 ow σ H m)(h:DV G (Ow O0 ow) H v d):
  Rel G O0 M0 H0 (owS ow i none) (σ.set i<|some v) H (m.set i<|.fz d):=by
 have sub:∀b,Ow O0 (owS ow i none) b->Ow O0 ow b\/H b=none:=λb z=>.inl z.sub;refine⟨by simp[R.len],R.keep,R.m0,λb z=>R.mutk b z.sub,λj a e=>?_,λj k a c g=>?_,λj f=>?_,λj s e=>?_⟩
 ·by_cases q:j=i
  ·subst q;rw[fj] at e;cases e
  ·rw[d9 q] at e;exact R.no0 j a e
 ·by_cases q:j=i
  ·subst q;rw[fj] at c;cases c
  ·by_cases l:k=i
   ·subst l;rw[fj] at g;cases g
   ·rw[d9 q] at c;rw[d9 l] at g;exact R.inj j k a c g
 ·by_cases q:j=i
  ·subst q;exact fj
  ·rw[d9 q];exact R.out j<|by simpa using f
 ·by_cases q:j=i
  ·subst q;have f:j<m.length:=by simpa using rR e
   rw[aT f] at e;cases e;rw[fj,aT (by rw[R.len];exact f)];exact⟨rfl,v,rfl,h.bQ sub⟩
  ·rw[a0<|eC q] at e;rw[d9 q,a0<|eC q];exact(R.slot j s e).bQ sub λ_ _ b _=>oB _
theorem Go.set {i:Nat}:Go O0 ow H (owS ow i none) H:=
 ⟨λ_ _ e _=>e,λj a e=>.inl (by
  by_cases q:j=i
  ·subst q;rw[fj] at e;cases e
  ·rw[d9 q] at e;exact .inr ⟨j,e⟩),λ_ n=>n⟩
theorem Rel.zN (R:Rel G O0 M0 H0 ow σ H m){p:Addr}(n:H p=none):H0 p=none:=by
 cases q:H0 p with
 |none=>rfl
 |some o=>
  by_cases z:M0 p
  ·exact absurd n<|R.m0 p z
  ·rw[R.keep p o q z] at n;cases n
theorem Rel.xr (R:Rel G O0 M0 H0 ow σ H m){p:Addr}(n:H p=none):¬Ow O0 ow p:=λz=>by
 have:=R.mutk p z
 rw[n] at this;rcases this with⟨_,e⟩|⟨_,e⟩|⟨_,e⟩|⟨_,e⟩|⟨_,e⟩<;>cases e
theorem Ow.new {i:Nat}{b p:Addr}(z:Ow O0 (owS ow i<|some p) b):Ow O0 ow b\/b=p:=by
 rcases z with z|⟨j,e⟩
 ·exact .inl<|.inl z
 ·by_cases q:j=i
  ·subst q;rw[fj] at e;cases e;exact .inr rfl
  ·rw[d9 q] at e;exact .inl<|.inr ⟨j,e⟩
theorem Rel.own {i:Nat}{p:Addr}{d:D}(R:Rel G O0 M0 H0 ow σ H m)(g:aL H H')(n:H p=none)(C:H0 p=none)(h:OV G (Op (Ow O0 ow) p) H' p d)(o:i<m.length):
  Rel G O0 M0 H0 (owS ow i<|some p) (σ.set i<|some<|.ref p) H' (m.set i<|.ow d):=by
 have r:=R.xr n;have sub:∀b,Ow O0 (owS ow i<|some p) b->Ow O0 ow b\/H b=none:=λb z=>z.new.elim .inl λe=>.inr (by rw[e];exact n);refine⟨by simp[R.len],(R.mono g).keep,(R.mono g).m0,λb z=>?_,λj a e=>?_,λj k a l c=>?_,λj u=>?_,λj s e=>?_⟩
 ·rcases z.new with z|z
  ·exact(R.mono g).mutk b z
  ·rw[z];exact h.mut
 ·by_cases q:j=i
  ·subst q;rw[fj] at e;cases e;exact λz=>r<|.inl z
  ·rw[d9 q] at e;exact R.no0 j a e
 ·by_cases q:j=i
  ·subst q;rw[fj] at l;cases l;by_cases f:k=j
   ·exact f.symm
   ·rw[d9 f] at c;exact absurd (.inr ⟨k,c⟩) r
  ·rw[d9 q] at l;by_cases f:k=i
   ·subst f;rw[fj] at c;cases c;exact absurd (.inr ⟨j,l⟩) r
   ·rw[d9 f] at c;exact R.inj j k a l c
 ·have t:m.length<=j:=by simpa using u
  rw[d9<|by lia];exact R.out j t
 ·by_cases q:j=i
  ·subst q;rw[aT o] at e;cases e;rw[fj,aT (by rw[R.len];exact o)];exact⟨p,rfl,C,rfl,h.bQ λb z=>.inl<|z.new.elim .inl .inr⟩
  ·rw[a0<|eC q] at e;rw[d9 q,a0<|eC q];exact((R.slot j s e).bQ sub λ_ _ b _=>oB _).mono g
theorem Go.own {i:Nat}{p:Addr}(g:aL H H')(n:H p=none):Go O0 ow H (owS ow i<|some p) H':=
 ⟨.of g,λj a e=>by
  by_cases q:j=i
  ·subst q;rw[fj] at e;cases e;exact .inr n
  ·rw[d9 q] at e;exact .inl<|.inr ⟨j,e⟩,(Go.refl (O0:=O0) (ow:=ow) g).dom⟩
theorem yo {i:Nat}{s:Sl}(o:∀(j:Nat) (d:D),m[j]?≠some (Sl.bw d))(C:∀d,s≠.bw d):∀(j:Nat) (d:D),(m.set i s)[j]?≠some (Sl.bw d):=λj d e=>by
 by_cases q:j=i
 ·subst q;have a:j<m.length:=by simpa using rR e
  rw[aT a] at e;exact C d<|b9 e
 ·rw[a0<|eC q] at e;exact o j d e
theorem dF.mono (R:dF G O0 M0 H0 ow σ H m)(g:aL H H'):dF G O0 M0 H0 ow σ H' m:=⟨R.toRel.mono g,R.nb⟩
theorem dF.set {i:Nat}{v:V}{d:D}(R:dF G O0 M0 H0 ow σ H m)(h:DV G (Ow O0 ow) H v d):dF G O0 M0 H0 (owS ow i none) (σ.set i<|some v) H (m.set i<|.fz d):=
 ⟨R.toRel.set h,yo R.nb λ_ z=>by cases z⟩
theorem dF.own {i:Nat}{p:Addr}{d:D}(R:dF G O0 M0 H0 ow σ H m)(g:aL H H')(n:H p=none)(o:H0 p=none)(h:OV G (Op (Ow O0 ow) p) H' p d)(C:i<m.length):
  dF G O0 M0 H0 (owS ow i<|some p) (σ.set i<|some<|.ref p) H' (m.set i<|.ow d):=⟨R.toRel.own g n o h C,yo R.nb λ_ z=>by cases z⟩
noncomputable def Sl.let:Sl->Sl
 | .ow d=>.fz d
 |s=>s
noncomputable def Me.let (m:Me):Me:=m.map Sl.let
theorem dF.let (R:dF G O0 M0 H0 ow σ H m):∃C,dF G O0 M0 H0 C σ H m.let/\Go O0 ow H C H:=by
 let C:Os:=λi=>match m[i]? with
  |some (.io _)=>ow i
  |some (.hd _ _ _)=>ow i
  |_=>none
 have f:∀i a,C i=some a->ow i=some a/\∀d,m[i]?≠some (.ow d):=λi a e=>by
  simp only[C] at e;split at e
  ·rename_i d q;exact⟨e,λd z=>by rw[q] at z;cases z⟩
  ·rename_i w b d q;exact⟨e,λd z=>by rw[q] at z;cases z⟩
  ·cases e
 have sub:∀b,Ow O0 C b->Ow O0 ow b\/H b=none:=λb z=>.inl<|z.elim .inl λ⟨i,e⟩=>.inr ⟨i,(f i b e).1⟩;refine⟨C,⟨⟨by simp[Me.let,R.len],R.keep,R.m0,λb z=>?_,λi a e=>R.no0 i a (f i a e).1,λi j a c g=>R.inj i j a (f i a c).1 (f j a g).1,λi p=>?_,λi s e=>?_⟩,λj d e=>?_⟩,λb o e n=>e,λi a e=>.inl<|.inr ⟨i,(f i a e).1⟩,λ_ n=>n⟩
 ·exact R.mutk b<|z.elim .inl λ⟨i,e⟩=>.inr ⟨i,(f i b e).1⟩
 ·have l:m.length<=i:=by simpa[Me.let] using p
  simp only[C];rw[qE l]
 ·unfold Me.let at e;rw[a5] at e;cases q:m[i]? with
  |none=>rw[q] at e;cases e
  |some s0=>
   rw[q] at e;cases e;have z:=R.slot i s0 q;cases s0 with
   |un=>exact(show C i=none by simp only[C,q])
   |fz d=>obtain⟨_,x,e,h⟩:=z;exact⟨(show C i=none by simp only[C,q]),x,e,h.bQ sub⟩
   |ow d=>
    obtain⟨a,c,g,k,h⟩:=z;refine⟨(show C i=none by simp only[C,q]),.ref a,k,(h.bQ sub).dv λw=>?_⟩;rcases w with w|⟨j,w⟩
    ·exact R.no0 i a c w
    ·obtain⟨t,r⟩:=f j a w
     have:=R.inj i j a c t
     subst this;exact r d q
   |io d=>
    obtain⟨a,c,g,k,h⟩:=z;exact⟨a,(show C i=some a by simp only[C,q];exact c),g,k,h.bQ sub⟩
   |bw d=>exact(R.nb i d q).elim
   |hd w a d=>
    obtain⟨c,g,k,h⟩:=z;exact⟨(show C i=some a by simp only[C,q];exact c),g,k,h.bQ sub⟩
 ·unfold Me.let at e;rw[a5] at e;cases q:m[j]? with
  |none=>rw[q] at e;cases e
  |some s0=>
   rw[q] at e;cases s0 with
   |bw d'=>exact R.nb j d' q
   |_=>cases e
end
def Pu (G:Gx)(E:XK){o:Type}(r:Res o)(H:Hp)(k:o->Prop):Prop:=match r with
 | .ok a=>k a
 | .exc c=>∀C H',XP G H' c C->aL H H'->E (.ref C.1) C.2 H'
 | .stuck=>False
theorem Pu.bind {G:Gx}{E:XK}{C o:Type}{r:Res C}{f:C->Res o}{H:Hp}{k:o->Prop}(h:Pu G E (r.bind f) H k):Pu G E r H λa=>Pu G E (f a) H k:=by
 cases r with
 |ok a=>exact h
 |exc c=>exact h
 |stuck=>exact h
theorem Pu.imp {G:Gx}{E:XK}{o:Type}{r:Res o}{H H':Hp}{k k':o->Prop}(h:Pu G E r H k)(g:aL H H')(hk:∀a,k a->k' a):Pu G E r H' k':=by
 cases r with
 |ok a=>exact hk a h
 |exc c=>exact λC d e b=>h C d e<|g.trans b
 |stuck=>exact h
theorem Pu.ofO {G:Gx}{E:XK}{o:Type}{r:Option o}{H:Hp}{k:o->Prop}(h:Pu G E (ofO r) H k):∃a,r=some a/\k a:=by
 cases r with
 |some a=>exact⟨a,rfl,h⟩
 |none=>exact h.elim
def tE (G:Gx)(E:XK)(f:Me->Res D):TE:=λb H Q=>∃a M0 H0 ow m,Rel G a M0 H0 ow b H m/\Pu G E (f m) H λd=>∀v H',aL H H'->DV G (Ow a ow) H' v d->Q v H'
def tB (G:Gx)(E:XK)(f:Me->Res D):TE:=λb H Q=>∃a M0 H0 ow m,Rel G a M0 H0 ow b H m/\Pu G E (f m) H λd=>∀v H',aL H H'->DW G (Ow a ow) H' v d->Q v H'
def tN (G:Gx)(E:XK)(f:Me->Res D):TE:=λb H Q=>∃a M0 H0 ow m,Rel G a M0 H0 ow b H m/\Pu G E (f m) H λd=>∀p H',aL H H'->H p=none->OV G (Op (Ow a ow) p) H' p d->Q (.ref p) H'
def tT (G:Gx)(E:XK)(f:Me->Res Bool):TT:=λc H Q=>∃a M0 H0 ow m,Rel G a M0 H0 ow c H m/\Pu G E (f m) H λb=>∀H',aL H H'->Q b H'
def tAE (G:Gx)(E:XK)(f:Me->Res (List D)):TA:=λd H Q=>∃b M0 H0 ow m,Rel G b M0 H0 ow d H m/\Pu G E (f m) H λc=>∀a H',aL H H'->DVs G (Ow b ow) H' a c->Q a H'
def tAB (G:Gx)(E:XK)(f:Me->Res (List D)):TA:=λd H Q=>∃b M0 H0 ow m,Rel G b M0 H0 ow d H m/\Pu G E (f m) H λc=>∀a H',aL H H'->DWs G (Ow b ow) H' a c->Q a H'
abbrev FE (X:Cx)(E:XK)(e:Expr)(f:Me->Res D):Prop:=PE X e<|tE (gx X) E f
abbrev FB (X:Cx)(E:XK)(e:Expr)(f:Me->Res D):Prop:=PE X e<|tB (gx X) E f
abbrev FN (X:Cx)(E:XK)(e:Expr)(f:Me->Res D):Prop:=PE X e<|tN (gx X) E f
abbrev FT (X:Cx)(E:XK)(e:Expr)(f:Me->Res Bool):Prop:=PT X e<|tT (gx X) E f
abbrev FW (X:Cx)(E:XK)(e:Expr)(f:Me->Res Bool):Prop:=PW X e<|tT (gx X) E f
abbrev FAE (X:Cx)(E:XK)(es:List Expr)(f:Me->Res (List D)):Prop:=PA X es<|tAE (gx X) E f
abbrev FAB (X:Cx)(E:XK)(es:List Expr)(f:Me->Res (List D)):Prop:=PA X es<|tAB (gx X) E f
theorem JB {X:Cx}{e:Expr}{T C:TT}(h:PT X e T)(k:∀o H Q,C o H Q->T o H Q):PT X e C:=λa s o H Q I q=>h a s o H Q I<|k o H Q q
theorem QL {X:Cx}{e:Expr}{T C:TT}(h:PW X e T)(k:∀o H Q,C o H Q->T o H Q):PW X e C:=λwh a s o H Q I q=>h wh a s o H Q I<|k o H Q q
theorem pA {X:Cx}{es:List Expr}{T C:TA}(h:PA X es T)(k:∀o H Q,C o H Q->T o H Q):PA X es C:=λa b s o H Q I q=>h a b s o H Q I<|k o H Q q
section
variable {X:Cx}{E:XK}{e a b c:Expr}{es:List Expr}{f fa fb fc:Me->Res D}{fs:Me->Res (List D)}{ft fu:Me->Res Bool}{pos:Pos}
theorem ao (h:FE X E e f):FB X E e f:=bJ h λ_ _ _ a=>xq5 a λb M0 H0 ow m R q=>⟨b,M0,H0,ow,m,R,q.imp (aL.refl _) λ_ k v H' g d=>k v H' g<|.inl d⟩
theorem f9 (h:FN X E e f):FE X E e f:=bJ h λ_ _ _ a=>xq5 a λc M0 H0 ow m R q=>⟨c,M0,H0,ow,m,R,q.imp (aL.refl _) λ_ k p H' g n o=>
 k _ H' g ((o.bQ λb z=>.inl<|.inl z).dv<|R.xr n)⟩
noncomputable def aG (i:Nat):Me->Res D:=λm=>match m[i]? with
 |some (.fz d)=>.ok d
 |_=>.stuck
noncomputable def aj (i:Nat):Me->Res D:=λm=>match m[i]? with
 |some (.fz d)=>.ok d
 |some (.ow d)=>.ok d
 |some (.io d)=>.ok d
 |some (.bw d)=>.ok d
 |_=>.stuck
theorem aD (i:Nat){x:Str}(I:X.N[i]? = some x:=by rfl)(C:Vis X.env.scope x:=by simp_wf)(hd:(x==("__debug__":Str))=false:=by decide)
  (o:(x==("__classdict__":Str))=false:=by decide):FE X E (.Name x pos) (aG i):=bJ (iZ I C hd o) λg H Q a=>xq5 a λf M0 H0 ow m R q=>by
 unfold aG at q;cases e:m[i]? with
 |none=>rw[e] at q;exact q.elim
 |some s=>
  rw[e] at q;cases s with
  |fz d=>
   obtain⟨_,x,c,b⟩:=R.slot i _ e;exact⟨x,c,q x H (aL.refl _) b⟩
  |_=>exact q.elim
theorem aq (i:Nat){x:Str}(I:X.N[i]? = some x:=by rfl)(C:Vis X.env.scope x:=by simp_wf)(hd:(x==("__debug__":Str))=false:=by decide)
  (o:(x==("__classdict__":Str))=false:=by decide):FB X E (.Name x pos) (aj i):=bJ (iZ I C hd o) λk H Q h=>xq5 h λj M0 H0 ow m R q=>by
 unfold aj at q;cases e:m[i]? with
 |none=>rw[e] at q;exact q.elim
 |some s=>
  rw[e] at q;cases s with
  |fz d=>
   obtain⟨_,x,b,c⟩:=R.slot i _ e;exact⟨x,b,q x H (aL.refl _)<|.inl c⟩
  |bw d=>
   obtain⟨_,x,b,c⟩:=R.slot i _ e;exact⟨x,b,q x H (aL.refl _) c⟩
  |ow d=>
   obtain⟨a,b,c,f,g⟩:=R.slot i _ e;exact⟨_,f,q _ H (aL.refl _)<|.inr ⟨a,rfl,.inr ⟨i,b⟩,g⟩⟩
  |io d=>
   obtain⟨a,b,c,f,g⟩:=R.slot i _ e;exact⟨_,f,q _ H (aL.refl _)<|.inr ⟨a,rfl,.inr ⟨i,b⟩,g⟩⟩
  |un=>exact q.elim
  |hd _ _ _=>exact q.elim
def fC (d:D):Me->Res D:=λ_=>.ok d
theorem U7 {d:D}{v:V}(h:PE X e (tC v))(hd:∀O H,DV (gx X) O H v d):FE X E e (fC d):=bJ h λc H Q a=>xq5 a λb M0 H0 ow m R q=>q v H (aL.refl _)<|hd _ _
theorem au {i j pos}:FE X E (.Constant (.int i) j pos) (fC<|.int i):=U7 aef λ_ _=>.int i
theorem iI {b j pos}:FE X E (.Constant (.bool b) j pos) (fC<|.bl b):=U7 afJ λ_ _=>.bl b
theorem N7 {j pos}:FE X E (.Constant .none j pos) (fC .non):=U7 ad2 λ_ _=>.non
theorem cg {x j pos}:FE X E (.Constant (.str x) j pos) (fC<|.str x):=U7 adw λ_ _=>.str x
theorem QF {x:Str}{v:V}{u:ax}{d:D}(I:Gl X x)(C:X.mg x=some u)(r:RelV v u)(hd:∀O H,DV (gx X) O H v d)(o:(x==("__debug__":Str))=false:=by decide):FE X E (.Name x pos) (fC d):=U7 (Ie I C r o) hd
def rG (G:Gx)(g:D->D->Option D):R2:=λx y H Q=>∃O d e r,(∀b,O b->ik (H b))/\DW G O H x d/\DW G O H y e/\g d e=some r/\∀v H',aL H H'->DV G O H' v r->Q v H'
def rGB (G:Gx)(g:D->D->Option Bool):R2:=λx y H Q=>∃O d e r,(∀b,O b->ik (H b))/\DW G O H x d/\DW G O H y e/\g d e=some r/\Q (.bl r) H
def rG1 (G:Gx)(g:D->Option D):V->Hp->VK->Prop:=λx H Q=>∃O d r,(∀b,O b->ik (H b))/\DW G O H x d/\g d=some r/\∀v H',aL H H'->DV G O H' v r->Q v H'
def rGC (G:Gx)(g:List D->Option D):List V->Hp->VK->Prop:=λc H Q=>∃O a r,(∀b,O b->ik (H b))/\DWs G O H c a/\g a=some r/\∀v H',aL H H'->DV G O H' v r->Q v H'
def aaj (G:Gx)(g:List D->Option D):List V->Hp->VK->Prop:=λc H Q=>∃O a r,(∀b,O b->ik (H b))/\DWs G O H c a/\g a=some r/\∀p H',aL H H'->H p=none->OV G (Op O p) H' p r->Q (.ref p) H'
def rGM (G:Gx)(g:D->List D->Option D):V->List V->Hp->VK->Prop:=λx c H Q=>∃O d a r,(∀b,O b->ik (H b))/\DW G O H x d/\DWs G O H c a/\g d a=some r/\∀v H',aL H H'->DV G O H' v r->Q v H'
noncomputable def az (g:D->D->Option D)(fa fb:Me->Res D):Me->Res D:=λm=>(fa m).bind λx=>(fb m).bind λy=>ofO<|g x y
noncomputable def je (g:D->D->Option Bool)(fa fb:Me->Res D):Me->Res D:=λm=>(fa m).bind λx=>(fb m).bind λy=>ofO<|(g x y).map D.bl
noncomputable def aK (g:D->D->Option Bool)(fa fb:Me->Res D):Me->Res Bool:=λm=>(fa m).bind λx=>(fb m).bind λy=>ofO<|g x y
noncomputable def fUn (g:D->Option D)(fa:Me->Res D):Me->Res D:=λm=>(fa m).bind λx=>ofO<|g x
theorem two {G:Gx}{o:L2.St}{H:Hp}{Q:VK}{r:R2}{O0 M0:Zaa}{H0:Hp}{ow:Os}{m:Me}{C:Type}{g:D->D->Res C}{K:C->Hp->Prop}(R:Rel G O0 M0 H0 ow o H m)(h:Pu G E ((fa m).bind λx=>(fb m).bind λy=>g x y) H λz=>K z H)
  (I:∀z H',K z H->aL H H'->K z H')
  (k:∀x y d e H',aL H H'->DW G (Ow O0 ow) H' x d->DW G (Ow O0 ow) H' y e->Pu G E (g d e) H' (λz=>K z H')->Rel G O0 M0 H0 ow o H' m->r x y H' Q):tOp r (tB G E fa) (tB G E fb) o H Q:=by
 refine⟨O0,M0,H0,ow,m,R,h.bind.imp (aL.refl _) λd q x n a f=>⟨O0,M0,H0,ow,m,R.mono a,q.bind.imp a λe l y c b i=>?_⟩⟩;exact k x y d e c (a.trans b) (f.mono b) i (l.imp (a.trans b) λz j=>I z _ j<|a.trans b)<|R.mono<|a.trans b
theorem aF {g:D->D->Option D}{o:Operator}(J:OpR X (iP o) (rG (gx X) g))(I:FB X E a fa)(C:FB X E b fb):FE X E (.BinOp a o b pos) (az g fa fb):=
 bJ (aeY J I C) λs H Q c=>xq5 c λh M0 H0 ow m R q=>two R (K:=λz H=>∀v H',aL H H'->DV (gx X) (Ow h ow) H' v z->Q v H') q (λ_ _ k g v H' f d=>k v H' (g.trans f) d) λx y d e H' g i j l p=>by
  obtain⟨r,n,k⟩:=l.ofO;exact⟨_,d,e,r,p.mutk,i,j,n,k⟩
theorem aeU {g:D->D->Option D}(I:IxR X (rG (gx X) g))(C:FB X E a fa)(o:FB X E b fb)(J:Ir b):FE X E (.Subscript a b pos) (az g fa fb):=
 bJ (afq I C o J) λs H Q c=>xq5 c λh M0 H0 ow m R q=>two R (K:=λz H=>∀v H',aL H H'->DV (gx X) (Ow h ow) H' v z->Q v H') q (λ_ _ k g v H' f d=>k v H' (g.trans f) d) λx y d e H' g i j l p=>by
  obtain⟨r,n,k⟩:=l.ofO;exact⟨_,d,e,r,p.mutk,i,j,n,k⟩
theorem omap {C I:Type}{o:Option C}{f:C->I}{r:I}(h:o.map f=some r):∃a,o=some a/\f a=r:=by
 cases o with
 |none=>cases h
 |some a=>exact⟨a,rfl,b9 h⟩
theorem lQ {g:D->D->Option Bool}{o:CmpOp}(U:OpR X (eM o) (rGB (gx X) g))(J:FB X E a fa)(C:FB X E b fb)(I:lh o b=false):FE X E (.Compare a [o] [b] pos) (je g fa fb):=
 bJ (ZG U J C I) λu H Q f=>xq5 f λj M0 H0 ow m R q=>two R (K:=λz H=>∀v H',aL H H'->DV (gx X) (Ow j ow) H' v z->Q v H') q (λ_ _ k g v H' h d=>k v H' (g.trans h) d) λx y d e H' g l n p t=>by
  obtain⟨r,s,k⟩:=p.ofO;obtain⟨c,i,rfl⟩:=omap s;exact⟨_,d,e,c,t.mutk,l,n,i,k _ _ (aL.refl _)<|.bl c⟩
theorem bK {g:D->D->Option Bool}{o:CmpOp}(U:OpR X (eM o) (rGB (gx X) g))(J:FB X E a fa)(C:FB X E b fb)(I:lh o b=false):FT X E (.Compare a [o] [b] pos) (aK g fa fb):=
 JB (aaX U J C I) λs H Q f=>xq5 f λr M0 H0 ow m R q=>two R (K:=λz H=>∀H',aL H H'->Q z H') q (λ_ _ k g H' h=>k H'<|g.trans h) λx y d e H' g j l n p=>by
  obtain⟨c,i,k⟩:=n.ofO;exact⟨_,d,e,c,p.mutk,j,l,i,c,rfl,k _<|aL.refl _⟩
theorem J4 {g:D->Option D}{o:UnaryOp}(C:UnR X (unaryOp o) (rG1 (gx X) g))(I:FB X E a fa):FE X E (.UnaryOp o a pos) (fUn g fa):=
 bJ (aeP C I) λj H Q f=>xq5 f λc M0 H0 ow m R q=>⟨c,M0,H0,ow,m,R,q.bind.imp (aL.refl _) λd q x i b h=>by
  obtain⟨r,e,k⟩:=q.ofO;exact⟨_,d,r,(R.mono b).mutk,h,e,λv H' g d=>k v H' (b.trans g) d⟩⟩
noncomputable def fTv (fa:Me->Res D):Me->Res Bool:=λm=>(fa m).bind λx=>match x with
 | .bl b=>.ok b
 |_=>.stuck
theorem gP (h:FE X E e f)(C:∀o,isTrue e X.env o=(do let v←o;standAt e.pos;tF [v] (truthy v)):=by intro _;rfl):FT X E e (fTv f):=
 JB (adp h C) λj H Q i=>xq5 i λc M0 H0 ow m R q=>⟨c,M0,H0,ow,m,R,q.bind.imp (aL.refl _) λd q v H' g a=>by
  cases d with
  |bl b=>cases a;exact⟨b,rfl,q H' g⟩
  |_=>exact q.elim⟩
noncomputable def cG (ft:Me->Res Bool):Me->Res Bool:=λm=>(ft m).bind λc=>.ok<|!c
noncomputable def sJ (ft fu:Me->Res Bool):Me->Res Bool:=λm=>(ft m).bind λc=>if c then fu m else .ok false
noncomputable def dR (ft fu:Me->Res Bool):Me->Res Bool:=λm=>(ft m).bind λc=>if c then .ok true else fu m
theorem iY (h:FT X E a ft):FT X E (.UnaryOp .Not a pos) (cG ft):=JB (adt h) λe H Q d=>xq5 d λc M0 H0 ow m R q=>⟨c,M0,H0,ow,m,R,q.bind.imp (aL.refl _) λb q H' g=>q H' g⟩
theorem QJ (h:FT X E a ft):FW X E (.BoolOp .And [a] pos) ft:=Zn h
theorem ni (h:FT X E a ft):FW X E (.BoolOp .Or [a] pos) ft:=ac0 h
theorem V8 (C:FT X E a ft)(o:FW X E (.BoolOp .And (b::es) pos) fu):FW X E (.BoolOp .And (a::b::es) pos) (sJ ft fu):=
 QL (aed C o) λh H Q e=>xq5 e λc M0 H0 ow m R q=>⟨c,M0,H0,ow,m,R,q.bind.imp (aL.refl _) λb q H' g=>by
  cases b with
  |true=>rw[if_pos rfl] at q ⊢;exact⟨c,M0,H0,ow,m,R.mono g,q.imp g λ_ k f d=>k f<|g.trans d⟩
  |false=>rw[if_neg bp] at q ⊢;exact q H' g⟩
theorem o6 (C:FT X E a ft)(o:FW X E (.BoolOp .Or (b::es) pos) fu):FW X E (.BoolOp .Or (a::b::es) pos) (dR ft fu):=
 QL (afE C o) λh H Q e=>xq5 e λc M0 H0 ow m R q=>⟨c,M0,H0,ow,m,R,q.bind.imp (aL.refl _) λb q H' g=>by
  cases b with
  |false=>rw[if_neg bp] at q ⊢;exact⟨c,M0,H0,ow,m,R.mono g,q.imp g λ_ k f d=>k f<|g.trans d⟩
  |true=>rw[if_pos rfl] at q ⊢;exact q H' g⟩
theorem w6 (h:FW X E e ft):FT X E e ft:=L2.PW.pt h
def OD (fa:Me->Res D):Me->Res D:=λm=>(fTv fa m).bind λc=>.ok<|.bl !c
def nJ (fa fb:Me->Res D):Me->Res D:=λm=>(fTv fa m).bind λc=>if c then fb m else .ok (.bl false)
theorem W6 {G:Gx}{O:Zaa}{m:Me}{H:Hp}{k:Bool->Prop}(h:Pu G E (fTv fa m) H k):Pu G E (fa m) H λd=>∃b,d=.bl b/\k b:=by
 refine h.bind.imp (aL.refl _) λd q=>?_;cases d with
 |bl b=>exact⟨b,rfl,q⟩
 |_=>exact q.elim
theorem wj {op}(h:FE X E a fa):FE X E (.BoolOp op [a] pos) fa:=adE h
theorem vP (C:FE X E a fa)(o:FE X E (.BoolOp .And (b::es) pos) fb):FE X E (.BoolOp .And (a::b::es) pos) (nJ fa fb):=
 bJ (acL C o) λl H Q i=>xq5 i λc M0 H0 ow m R q=>⟨c,M0,H0,ow,m,R,(W6 (O:=c) q.bind).imp (aL.refl _) λd ⟨b,e,q⟩ v H' g h=>by
  subst e;cases h;refine⟨b,rfl,?_⟩;cases b with
  |true=>rw[if_pos rfl] at q ⊢;exact⟨c,M0,H0,ow,m,R.mono g,q.imp g λ_ k v j f=>k v j<|g.trans f⟩
  |false=>rw[if_neg bp] at q ⊢;exact q _ H' g<|.bl false⟩
theorem Nt (o:FE X E a fa):FE X E (.UnaryOp .Not a pos) (OD fa):=
 bJ (ad0 o) λi H Q h=>xq5 h λc M0 H0 ow m R q=>⟨c,M0,H0,ow,m,R,(W6 (O:=c) q.bind).imp (aL.refl _) λd ⟨b,e,q⟩ v H' g f=>by
  subst e;cases f;exact⟨b,rfl,q _ H' g<|.bl _⟩⟩
def aB:Me->Res (List D):=λ_=>.ok []
noncomputable def aa (fa:Me->Res D)(fs:Me->Res (List D)):Me->Res (List D):=λm=>(fa m).bind λx=>(fs m).bind λa=>.ok (x::a)
theorem aC:FAE X E [] aB:=pA jh λb H Q a=>xq5 a λc M0 H0 ow m R q=>q [] H (aL.refl _) .nil
theorem aR:FAB X E [] aB:=pA jh λb H Q a=>xq5 a λc M0 H0 ow m R q=>q [] H (aL.refl _) .nil
theorem ak (I:FE X E e fa)(o:FAE X E es fs)(C:ag (e::es) X.env=(false,eval e X.env)::ag es X.env:=by rfl):FAE X E (e::es) (aa fa fs):=
 pA (cL I o C) λn H Q i=>xq5 i λc M0 H0 ow m R q=>⟨c,M0,H0,ow,m,R,q.bind.imp (aL.refl _) λd q v l a g=>⟨c,M0,H0,ow,m,R.mono a,q.bind.imp a λk q j h f b=>q _ h (a.trans f)<|.cons (g.mono f) b⟩⟩
theorem aN (I:FB X E e fa)(o:FAB X E es fs)(C:ag (e::es) X.env=(false,eval e X.env)::ag es X.env:=by rfl):FAB X E (e::es) (aa fa fs):=
 pA (cL I o C) λn H Q i=>xq5 i λc M0 H0 ow m R q=>⟨c,M0,H0,ow,m,R,q.bind.imp (aL.refl _) λd q v l a g=>⟨c,M0,H0,ow,m,R.mono a,q.bind.imp a λk q j h f b=>q _ h (a.trans f)<|.cons (g.mono f) b⟩⟩
noncomputable def bu (fs:Me->Res (List D)):Me->Res D:=λm=>(fs m).bind λa=>if a.length<=ai then .ok (.tup a) else .stuck
noncomputable def dW (fs:Me->Res (List D)):Me->Res D:=λm=>(fs m).bind λa=>if a.length<=ai then .ok (.lst a) else .stuck
theorem Dy {G:Gx}{o:Type}{c:Prop}[Decidable c]{r:o}{H:Hp}{k:o->Prop}(h:Pu G E (if c then .ok r else .stuck) H k):c/\k r:=by
 by_cases z:c
 ·rw[if_pos z] at h;exact⟨z,h⟩
 ·rw[if_neg z] at h;exact h.elim
theorem bB {x1}(h:FAE X E es fs):FE X E (.Tuple es x1 pos) (bu fs):=bJ (O5 h) λn H Q d=>xq5 d λc M0 H0 ow m R q=>⟨c,M0,H0,ow,m,R,q.bind.imp (aL.refl _) λj q i l b a=>by
 obtain⟨f,k⟩:=Dy q;exact⟨by rw[cC a];exact f,λp H' g e=>k _ H' (b.trans g)<|.tup (SqU.of e)<|a.mono g⟩⟩
theorem fB (h:FAE X E es fs):FN X E (.List es pos) (dW fs):=bJ (YL<|abU h) λr H Q l=>xq5 l λj M0 H0 ow m R q=>⟨λc i=>aL H i/\∃a,DVs (gx X) (Ow j ow) i c a/\a.length<=ai/\∀p H',aL H H'->H p=none->OV (gx X) (Op (Ow j ow) p) H' p (.lst a)->Q (.ref p) H',⟨j,M0,H0,ow,m,R,q.bind.imp (aL.refl _) λa q c i d g=>⟨d,a,g,Dy q⟩⟩,λc i ⟨d,a,g,n,k⟩=>
 ⟨by rw[cC g];exact n,λp f=>k p _ (d.trans<|bH f _) (d.free f) ⟨c,aX,(g.bQ λb z=>z.elim .inl λe=>.inr (by rw[e];exact f)).mono<|bH f _⟩⟩⟩
noncomputable def aP (g:List D->Option D)(fs:Me->Res (List D)):Me->Res D:=λm=>(fs m).bind λa=>ofO<|g a
theorem Rn {g:List D->Option D}{o:L2.St}{H:Hp}{Q:VK}(h:tE (gx X) E (aP g fs) o H Q):tCB (rGC (gx X) g) (tAB (gx X) E fs) o H Q:=by
 obtain⟨e,M0,H0,ow,m,R,q⟩:=h;refine⟨e,M0,H0,ow,m,R,q.bind.imp (aL.refl _) λb q i j a c=>?_⟩;obtain⟨r,f,k⟩:=q.ofO;exact⟨_,b,r,(R.mono a).mutk,c,f,λv H' g d=>k v H' (a.trans g) d⟩
theorem Yo {g:List D->Option D}{o:L2.St}{H:Hp}{Q:VK}(h:tN (gx X) E (aP g fs) o H Q):tCB (aaj (gx X) g) (tAB (gx X) E fs) o H Q:=by
 obtain⟨e,M0,H0,ow,m,R,q⟩:=h;refine⟨e,M0,H0,ow,m,R,q.bind.imp (aL.refl _) λb q i j a c=>?_⟩;obtain⟨r,f,k⟩:=q.ofO;exact⟨_,b,r,(R.mono a).mutk,c,f,λp H' g n d=>k p H' (a.trans g) (a.free n) d⟩
section
variable {x:Str}{p:Pos}{id T:String}{g:List D->Option D}
theorem bV (U:gU X (.builtin id) (rGC (gx X) g))(hg:Gl X x)(hm:X.mg x=none)(J:bP x=some (.builtin id))(C:FAB X E (e::es) fs)(I:x≠"__name__":=by decide)(o:(x==("__debug__":Str))=false:=by decide)
  (he:ag (e::es) X.env=(false,eval e X.env)::ag es X.env:=by rfl) (ξ:(iE pos<|ag es X.env).any (·.1)=false:=by rfl):FE X E (.Call (.Name x p) (e::es) [] pos) (aP g fs):=
 bJ (uo U hg hm J C I o he ξ) λ_ _ _ h=>Rn h
theorem gM (U:gU X (.type T) (rGC (gx X) g))(hg:Gl X x)(hm:X.mg x=none)(J:bP x=some (.type T))(C:FAB X E (e::es) fs)(I:x≠"__name__":=by decide)(o:(x==("__debug__":Str))=false:=by decide)
  (he:ag (e::es) X.env=(false,eval e X.env)::ag es X.env:=by rfl) (ξ:(iE pos<|ag es X.env).any (·.1)=false:=by rfl):FE X E (.Call (.Name x p) (e::es) [] pos) (aP g fs):=
 bJ (uN U hg hm J C I o he ξ) λ_ _ _ h=>Rn h
theorem jQ (U:gU X (.type T) (aaj (gx X) g))(hg:Gl X x)(hm:X.mg x=none)(J:bP x=some (.type T))(C:FAB X E (e::es) fs)(I:x≠"__name__":=by decide)(o:(x==("__debug__":Str))=false:=by decide)
  (he:ag (e::es) X.env=(false,eval e X.env)::ag es X.env:=by rfl) (ξ:(iE pos<|ag es X.env).any (·.1)=false:=by rfl):FN X E (.Call (.Name x p) (e::es) [] pos) (aP g fs):=
 bJ (uN U hg hm J C I o he ξ) λ_ _ _ h=>Yo h
end
noncomputable def tyD:String->D->Bool
 | "str",.str _=>true
 | "list",.lst _=>true
 | "dict",.dct _ _=>true
 | "dict",.dcu _ _=>true
 |_,_=>false
theorem afG {G:Gx}{O:Zaa}{H:Hp}{v:V}{d:D}{T:String}(h:DW G O H v d)(t:tyD T d=true):tyV G.K T v H:=by
 unfold tyD at t;split at t
 ·cases kj h;rfl
 ·obtain⟨a,e,rfl,b,_⟩:=lr h;exact .inl ⟨rfl,e,b⟩
 ·obtain⟨a,c,f,rfl,b,_⟩:=sX h;exact .inr<|.inr<|.inl ⟨rfl,.inl ⟨c,b⟩⟩
 ·obtain⟨a,c,f,rfl,b,_⟩:=WK h;exact .inr<|.inr<|.inl ⟨rfl,.inr ⟨_,c,.inl b⟩⟩
 ·cases t
def Qa (T:String)(g:D->List D->Option D)(o:Me->Res D)(fs:Me->Res (List D)):Me->Res D:=λm=>(o m).bind λd=>if tyD T d=true then(fs m).bind λa=>ofO (g d a) else .stuck
theorem Bs {G:Gx}{o:Type}{c:Prop}[Decidable c]{r:Res o}{H:Hp}{k:o->Prop}(h:Pu G E (if c then r else .stuck) H k):c/\Pu G E r H k:=by
 by_cases z:c
 ·rw[if_pos z] at h;exact⟨z,h⟩
 ·rw[if_neg z] at h;exact h.elim
section
variable {o:Expr}{name:Str}{apos η:Pos}{T id:String}{g:D->List D->Option D}
theorem aeV (pa:PlainAttrs T)(I:Slot T name id)(J:typeOf (.builtin id)=pure (.type "method_descriptor"))(hm:MtR X id (rGM (gx X) g))(ho:FB X E o fa)(ha:FAB X E (e::es) fs)
  (θ:gE o name X.env (eval o X.env)=eval o X.env:=by rfl)
  (ψ:((iE η<|ag (e::es) X.env).all (λx=>!x.1)&&(tm η<|md [] X.env).all (λx=>x.1.isSome)
   && decide ((e::es).length+([]:List me).length+(if([]:List me).isEmpty then 0 else 1)<30))=true:=by rfl)
  (U:(apos.endLine==η.line)=true:=by rfl) (hs:ag (e::es) X.env=(false,eval e X.env)::ag es X.env:=by rfl) (C:(iE η<|ag es X.env).any (·.1)=false:=by rfl):
  FE X E (.Call (.Attribute o name apos) (e::es) [] η) (Qa T g fa fs):=
 bJ (FZ pa I J hm ho ha θ ψ U hs C) λu H Q j=>xq5 j λh M0 H0 ow m R q=>⟨h,M0,H0,ow,m,R,q.bind.imp (aL.refl _) λd q v s a f=>by
  obtain⟨t,q⟩:=Bs q;refine⟨afG f t,h,M0,H0,ow,m,R.mono a,q.bind.imp a λl q n p b c=>?_⟩;obtain⟨r,i,k⟩:=q.ofO;exact⟨_,d,l,r,(R.mono<|a.trans b).mutk,f.mono b,c,i,λv H' g d=>k v H' ((a.trans b).trans g) d⟩⟩
end
end
inductive Fl where
 |nx|bk|ct|rt (fr:Bool) (d:D)
abbrev Zba:=D->Me->Option Me
abbrev Zaf:=Me->Res Bool
abbrev Zae:=Me->Res D
abbrev Zad:=Me->Res (List D)
abbrev Zac:=List D->Res (Bool×D)
abbrev Zab:=Me->Res (Fl×Me)
mutual
def ab6:D->Bool
 | .non|.bl _|.int _|.str _=>true
 | .tup ds=>M7 ds
 |_=>false
def M7:List D->Bool
 |[]=>true
 |d::ds=>ab6 d&&M7 ds
end
section
variable {G:Gx}{O O':Zaa}{H:Hp}
end
inductive Tp (G:Gx)(H0 H':Hp):List Addr->List V->List D->Prop where
 |nil:Tp G H0 H' [] [] []
 |flat {v:V} {d:D} {vs:List V} {ds:List D} {qs:List Addr}:DV G (λ_=>False) H' v d->ab6 d=true->Tp G H0 H' qs vs ds->Tp G H0 H' qs (v::vs) (d::ds)
 |new {q:Addr} {xs:List V} {es:List D} {vs:List V} {ds:List D} {qs:List Addr}:H0 q=none->H' q=some (.lst xs)->DVs G (λ_=>False) H' xs es->M7 es=true->q∉qs->Tp G H0 H' qs vs ds->Tp G H0 H' (q::qs) (.ref q::vs) (.lst es::ds)
def Fr (G:Gx)(O:Zaa)(H0:Hp)(v:V)(H':Hp)(d:D):Prop:=(∃p,v=.ref p/\H0 p=none/\OV G (Op O p) H' p d)\/∃p a b c,d=.tup b/\v=.ref p/\SqU G.K H' p a/\Tp G H0 H' c a b
def isTup:D->Bool
 | .tup _=>true
 |_=>false
theorem Fr.lst {G:Gx}{O:Zaa}{H0 H':Hp}{v:V}{d:D}(h:Fr G O H0 v H' d)(o:isTup d=false):∃p,v=.ref p/\H0 p=none/\OV G (Op O p) H' p d:=by
 rcases h with h|⟨p,a,b,c,e,_⟩
 ·exact h
 ·rw[e] at o;cases o
def Ss (G:Gx)(E:XK)(O0 M0:Zaa)(H0:Hp)(ow:Os)(H:Hp)(W:Ends)(r:Res (Fl×Me)):Prop:=match r with
 | .ok (.nx,m')=>∀a b H',dF G O0 M0 H0 a b H' m'->Go O0 ow H a H'->W.nx b H'
 | .ok (.bk,m')=>∀a b H',dF G O0 M0 H0 a b H' m'->Go O0 ow H a H'->W.bk b H'
 | .ok (.ct,m')=>∀a b H',dF G O0 M0 H0 a b H' m'->Go O0 ow H a H'->W.ct b H'
 | .ok (.rt fr d,m')=>∀v a b H',dF G O0 M0 H0 a b H' m'->Go O0 ow H a H'->DV G (Ow O0 a) H' v d->(fr=true->Fr G (Ow O0 a) H0 v H' d)->W.rt v H'
 | .exc c=>∀C H',XP G H' c C->Kp M0 H0 H'->E (.ref C.1) C.2 H'
 | .stuck=>False
def tS (G:Gx)(E:XK)(g:Zab):TS:=λW b H=>∃a M0 H0 ow m,dF G a M0 H0 ow b H m/\Ss G E a M0 H0 ow H W (g m)
abbrev FS (X:Cx)(E:XK)(st:Stmt)(g:Zab):Prop:=PS X st<|tS (gx X) E g
abbrev FSs (X:Cx)(E:XK)(st:List Stmt)(g:Zab):Prop:=PSs X st<|tS (gx X) E g
theorem bW {X:Cx}{st:Stmt}{T C:TS}(h:PS X st T)(k:∀W o H,C W o H->T W o H):PS X st C:=λa s o H W I q=>h a s o H W I<|k W o H q
theorem qU {X:Cx}{st:List Stmt}{T C:TS}(h:PSs X st T)(k:∀W o H,C W o H->T W o H):PSs X st C:=λa s o H W I q=>h a s o H W I<|k W o H q
section
variable {G:Gx}{E:XK}{O0 M0:Zaa}{H0 H H':Hp}{ow ow':Os}{σ:L2.St}{m:Me}{W:Ends}{r:Res (Fl×Me)}
theorem Ss.pu {I:Type}{x:Res I}{k:I->Res (Fl×Me)}(R:Rel G O0 M0 H0 ow σ H m)(h:Ss G E O0 M0 H0 ow H W (x.bind k)):Pu G E x H λa=>Ss G E O0 M0 H0 ow H W (k a):=by
 cases x with
 |ok a=>exact h
 |exc c=>exact λC H' e g=>h C H' e λb o e n=>g b o<|R.keep b o e n
 |stuck=>exact h
theorem Ss.go (h:Ss G E O0 M0 H0 ow H W r)(g:Go O0 ow H ow' H'):Ss G E O0 M0 H0 ow' H' W r:=by
 cases r with
 |ok a=>
  obtain⟨f,k⟩:=a;cases f with
  |nx=>exact λe b j R i=>h e b j R<|g.trans i
  |bk=>exact λe b j R i=>h e b j R<|g.trans i
  |ct=>exact λe b j R i=>h e b j R<|g.trans i
  |rt fr d=>exact λv e b j R i=>h v e b j R<|g.trans i
 |exc c=>exact h
 |stuck=>exact h
theorem Ss.ofO {o:Type}{x:Option o}{k:o->Res (Fl×Me)}(h:Ss G E O0 M0 H0 ow H W ((ofO x).bind k)):∃a,x=some a/\Ss G E O0 M0 H0 ow H W (k a):=by
 cases x with
 |some a=>exact⟨a,rfl,h⟩
 |none=>exact h.elim
end
def gNx:Zab:=λm=>.ok (.nx,m)
noncomputable def aH (g k:Zab):Zab:=λm=>match g m with
 | .ok (.nx,m')=>k m'
 |r=>r
noncomputable def bC (i:Nat)(f:Zae):Zab:=λm=>(f m).bind λd=>.ok (.nx,m.set i<|.fz d)
noncomputable def eV (i:Nat)(f:Zae):Zab:=λm=>(f m).bind λd=>if i<m.length then .ok (.nx,m.set i<|.ow d) else .stuck
noncomputable def gEx (f:Zae):Zab:=λm=>(f m).bind λ_=>.ok (.nx,m)
def aY (f:Zae):Zab:=λm=>(f m.let).bind λd=>.ok (.rt false d,m.let)
def pQ (f:Zae):Zab:=λm=>(f m.let).bind λd=>.ok (.rt true d,m.let)
def jg (i:Nat):Zab:=λm=>match m[i]? with
 |some (.ow d)=>.ok (.rt true d,m.let)
 |some (.fz d)=>.ok (.rt false d,m.let)
 |_=>.stuck
noncomputable def gIf (t:Zaf)(g k:Zab):Zab:=λm=>(t m).bind λc=>if c then g m else k m
noncomputable def X5 (i:Nat)(k:Zab):Zab:=λm=>match m[i]? with
 |some (.ow d)=>k<|m.set i<|.fz d
 |_=>k m
section
variable {X:Cx}{E:XK}{e c:Expr}{es:List Expr}{st:Stmt}{rest sa sb:List Stmt}{f:Zae}{ft:Zaf}{g k ga gb:Zab}{pos pos':Pos}{i:Nat}{x:Str}
theorem bA:FSs X E [] gNx:=qU Z9 λW b H a=>xq5 a λc M0 H0 ow m R q=>q ow b H R<|Go.refl<|aL.refl _
theorem adx {G:Gx}{W:Ends}{o:L2.St}{H:Hp}(h:tS G E (aH g k) W o H):afY (tS G E g) (tS G E k) W o H:=by
 obtain⟨e,M0,H0,ow,m,R,q⟩:=h;refine⟨e,M0,H0,ow,m,R,?_⟩;unfold aH at q;cases z:g m with
 |ok a=>
  obtain⟨f,i⟩:=a;rw[z] at q;cases f with
  |nx=>exact λb n H' l j=>⟨e,M0,H0,b,i,l,Ss.go q j⟩
  |bk=>exact q
  |ct=>exact q
  |rt fr d=>exact q
 |exc c=>rw[z] at q;exact q
 |stuck=>rw[z] at q;exact q
theorem aA (o:FS X E st g)(C:FSs X E rest k):FSs X E (st::rest) (aH g k):=qU (Br o C) λW a H h=>adx h
theorem aJ (o:FS X E st g):FSs X E [st] g:=aal o
theorem ZJ (i:Nat)(h:FSs X E rest k):FSs X E rest (X5 i k):=qU h λW y H v=>xq5 v λc M0 H0 ow m R q=>by
 unfold X5 at q;cases z:m[i]? with
 |none=>rw[z] at q;exact⟨c,M0,H0,ow,m,R,q⟩
 |some s=>
  rw[z] at q;cases s with
  |ow d=>
   obtain⟨a,n,A,x,u⟩:=R.slot i _ z;have t:¬Ow c (owS ow i none) a:=λw=>by
    rcases w with w|⟨j,w⟩
    ·exact R.no0 i a n w
    ·by_cases e:j=i
     ·subst e;rw[fj] at w;cases w
     ·rw[d9 e] at w;exact e<|R.inj j i a w n
   have sub:∀b,Ow c (owS ow i none) b->Ow c ow b\/H b=none:=λb z=>.inl z.sub;have p:=rR z;have R2:dF (gx X) c M0 H0 (owS ow i none) y H (m.set i<|.fz d):=by
    refine⟨⟨by simp[R.len],R.keep,R.m0,λb z=>R.mutk b z.sub,λj b e=>?_,λj k b g f=>?_,λj r=>?_,λj s e=>?_⟩,yo R.nb λ_ z=>by cases z⟩
    ·by_cases q:j=i
     ·subst q;rw[fj] at e;cases e
     ·rw[d9 q] at e;exact R.no0 j b e
    ·by_cases q:j=i
     ·subst q;rw[fj] at g;cases g
     ·by_cases l:k=i
      ·subst l;rw[fj] at f;cases f
      ·rw[d9 q] at g;rw[d9 l] at f;exact R.inj j k b g f
    ·by_cases q:j=i
     ·subst q;exact fj
     ·rw[d9 q];exact R.out j<|by simpa using r
    ·by_cases q:j=i
     ·subst q;rw[aT p] at e;cases e;rw[fj];exact⟨rfl,.ref a,x,(u.bQ sub).dv t⟩
     ·rw[a0<|eC q] at e;rw[d9 q];exact(R.slot j s e).bQ sub λ_ _ b _=>oB _
   exact⟨c,M0,H0,_,_,R2,Ss.go q Go.set⟩
  |_=>exact⟨c,M0,H0,ow,m,R,q⟩
theorem Wc {G:Gx}{W:Ends}{o:L2.St}{H:Hp}(h:tS G E (bC i f) W o H):Xp (tE G E f) (GX i) W o H:=by
 obtain⟨c,M0,H0,ow,m,R,q⟩:=h;refine⟨c,M0,H0,ow,m,R.toRel,(Ss.pu R.toRel q).imp (aL.refl _) λd q v H' a b=>?_⟩;exact q _ _ _ ((R.mono a).set b)<|(Go.refl a).trans Go.set
theorem VM {G:Gx}{W:Ends}{o:L2.St}{H:Hp}(h:tS G E (eV i f) W o H):Xp (tN G E f) (GX i) W o H:=by
 obtain⟨e,M0,H0,ow,m,R,q⟩:=h;refine⟨e,M0,H0,ow,m,R.toRel,(Ss.pu R.toRel q).imp (aL.refl _) λd q p H' b n c=>?_⟩;by_cases a:i<m.length
 ·rw[if_pos a] at q;exact q _ _ _ (R.own b n (R.toRel.zN n) c a)<|Go.own b n
 ·rw[if_neg a] at q;exact q.elim
theorem adP (C:X.N.Nodup)(I:X.N[i]? = some x)(hx:Loc X.env.scope x)(J:FE X E e f)(o:d4 e (some<|.Name x pos') pos.line X.env=pure false:=by rfl)
  (U:X.fn x=true\/X.env.scope.names.lookup x=some .local:=by clean_wf):FS X E (.Assign [.Name x pos'] e pos) (bC i f):=bW (wD C I hx J o U) λ_ _ _ h=>Wc h
theorem Yj (C:X.N.Nodup)(I:X.N[i]? = some x)(hx:Loc X.env.scope x)(J:FN X E e f)(o:d4 e (some<|.Name x pos') pos.line X.env=pure false:=by rfl)
  (U:X.fn x=true\/X.env.scope.names.lookup x=some .local:=by clean_wf):FS X E (.Assign [.Name x pos'] e pos) (eV i f):=bW (wD C I hx J o U) λ_ _ _ h=>VM h
theorem Ay (C:FE X E e f)(o:d4 e none pos.line X.env=pure false:=by rfl):FS X E (.Expr e pos) (gEx f):=bW (pW C o) λW g H b=>xq5 b λc M0 H0 ow m R q=>
 ⟨c,M0,H0,ow,m,R.toRel,(Ss.pu R.toRel q).imp (aL.refl _) λd q v H' a h=>q _ _ _ (R.mono a)<|Go.refl a⟩
theorem bx (o:FE X E e f):FS X E (.Return (some e) pos) (aY f):=bW (Di o) λW k H j=>xq5 j λi M0 H0 ow m R q=>by
 obtain⟨a,b,g⟩:=R.let;exact⟨i,M0,H0,a,m.let,b.toRel,(Ss.pu b.toRel<|Ss.go q g).imp (aL.refl _) λd q v H' c h=>q v a k H' (b.mono c) (Go.refl c) h λz=>by cases z⟩
theorem uK (o:FN X E e f):FS X E (.Return (some e) pos) (pQ f):=bW (Di o) λW l H k=>xq5 k λj M0 H0 ow m R q=>by
 obtain⟨c,a,i⟩:=R.let;exact⟨j,M0,H0,c,m.let,a.toRel,(Ss.pu a.toRel<|Ss.go q i).imp (aL.refl _) λd q p H' g n h=>
  q _ c l H' (a.mono g) (Go.refl g) ((h.bQ λb z=>.inl<|.inl z).dv<|a.toRel.xr n) λ_=>.inl ⟨p,rfl,a.toRel.zN n,h⟩⟩
theorem mJ (i:Nat)(I:X.N[i]? = some x:=by rfl)(o:Vis X.env.scope x:=by simp_wf)(hd:(x==("__debug__":Str))=false:=by decide)
  (C:(x==("__classdict__":Str))=false:=by decide):FS X E (.Return (some<|.Name x pos') pos) (jg i):=bW (Di<|iZ I o hd C) λW n H p=>xq5 p λy M0 H0 ow m R q=>by
 obtain⟨f,c,h⟩:=R.let;unfold jg at q;cases z:m[i]? with
 |none=>rw[z] at q;exact q.elim
 |some s=>
  rw[z] at q;have k:m.let[i]? = some s.let:=by unfold Me.let;rw[a5,z];rfl
  cases s with
  |fz d=>
   obtain⟨_,v,e,o⟩:=c.slot i _ k;exact⟨v,e,q v f n H c h o λz=>by cases z⟩
  |ow d=>
   obtain⟨_,v,e,o⟩:=c.slot i _ k;obtain⟨a,u,r,l,t⟩:=R.slot i _ z;rw[l] at e;cases e;refine⟨_,l,q _ f n H c h o λ_=>.inl ⟨a,rfl,r,t.bQ λb w=>.inl ?_⟩⟩;rcases w with w|w
   ·rcases w with w|⟨j,w⟩
    ·exact .inl w
    ·rcases h.new j b w with g|g
     ·exact g
     ·have:=c.mutk b (.inr ⟨j,w⟩)
      rw[g] at this;rcases this with⟨_,e⟩|⟨_,e⟩|⟨_,e⟩|⟨_,e⟩|⟨_,e⟩<;>cases e
   ·rw[w];exact .inr ⟨i,u⟩
  |_=>exact q.elim
theorem cU (I:FT X E c ft)(o:FSs X E sa ga)(C:FSs X E sb gb):FS X E (.If c sa sb pos) (gIf ft ga gb):=bW (afM I o C) λW f H e=>xq5 e λd M0 H0 ow m R q=>
 ⟨d,M0,H0,ow,m,R.toRel,(Ss.pu R.toRel q).imp (aL.refl _) λb q H' a=>by
  cases b with
  |true=>rw[if_pos rfl] at q ⊢;exact⟨d,M0,H0,ow,m,R.mono a,Ss.go q<|Go.refl a⟩
  |false=>rw[if_neg bp] at q ⊢;exact⟨d,M0,H0,ow,m,R.mono a,Ss.go q<|Go.refl a⟩⟩
noncomputable def wh (t:Zaf)(b:Zab):Nat->Me->Option (Res<|Fl×Me)
 |0,_=>none
 |n+1,m=>match t m with
  | .ok true=>match b m with
   | .ok (.nx,m')=>wh t b n m'
   | .ok (.ct,m')=>wh t b n m'
   | .ok (.bk,m')=>some<|.ok (.nx,m')
   | .ok (.rt fr d,m')=>some<|.ok (.rt fr d,m')
   | .exc c=>some<|.exc c
   | .stuck=>some .stuck
  | .ok false=>some<|.ok (.nx,m)
  | .exc c=>some<|.exc c
  | .stuck=>some .stuck
theorem RD {t:Zaf}{b:Zab}:∀{n:Nat} {m:Me} {r:Res (Fl×Me)},wh t b n m=some r->wh t b (n+1) m=some r
 |0,_,_,h=>by cases h
 |n+1,m,r,h=>by
  have g:=@RD t b n;unfold wh at h ⊢;split
  ·rename_i e;rw[e] at h;split
   ·rename_i f a;rw[a] at h;exact g h
   ·rename_i f a;rw[a] at h;exact g h
   ·rename_i f a;rw[a] at h;exact h
   ·rename_i i d f a;rw[a] at h;exact h
   ·rename_i c a;rw[a] at h;exact h
   ·rename_i a;rw[a] at h;exact h
  ·rename_i e;rw[e] at h;exact h
  ·rename_i e;rw[e] at h;exact h
  ·rename_i e;rw[e] at h;exact h
theorem Mu {t:Zaf}{b:Zab}{n:Nat}{m:Me}{r:Res (Fl×Me)}(h:wh t b n m=some r):∀k,wh t b (n+k) m=some r
 |0=>h
 |k+1=>RD<|Mu h k
open Classical in
def oW (t:Zaf)(b:Zab):Zab:=λm=>
 if h:∃n r,wh t b n m=some r then iF (dQ h) else .stuck
theorem T8 {t:Zaf}{b:Zab}{m:Me}(h:oW t b m≠.stuck):∃n,wh t b n m=some (oW t b m):=by
 unfold oW at h ⊢;split at h
 ·rename_i q;rw[dif_pos q];exact⟨_,dQ<|dQ q⟩
 ·exact absurd rfl h
theorem uL {t:Zaf}{b:Zab}{m:Me}{r:Res (Fl×Me)}(n:Nat)(h:wh t b n m=some r):oW t b m=r:=by
 unfold oW;have q:∃n r,wh t b n m=some r:=⟨n,r,h⟩;rw[dif_pos q];have z:=dQ<|dQ q;have a:=Mu z n;have c:=Mu h<|iF q;rw[BH] at c;rw[a] at c;exact b9 c
theorem yj {I:List Stmt}(J:yA (cx X.prog X.w) X.A X.env X.xe)(hc:FT X E c ft)(U:FSs X E I g):FS X E (.While c I [] pos) (oW ft g):=bW (Wh J hc U) λW Q H L=>xq5 L λl M0 H0 ow m R q=>by
 obtain⟨n,N⟩:=T8 (λz=>by rw[z] at q;exact q);generalize oW ft g m=r at *;refine⟨λn h H'=>∃f p,dF (gx X) l M0 H0 f h H' p/\Go l ow H f H'/\wh ft g n p=some r,⟨n,ow,m,R,Go.refl<|aL.refl _,N⟩,?_⟩;rintro n M P ⟨u,x,B,G,i⟩;cases n with
 |zero=>cases i
 |succ n=>
  refine⟨l,M0,H0,u,x,B.toRel,?_⟩;unfold wh at i;cases e:ft x with
  |exc c=>
   rw[e] at i;cases i;exact λC H' e j=>q C H' e λb o e n=>j b o<|B.keep b o e n
  |stuck=>rw[e] at i;cases i;exact q.elim
  |ok t=>
   rw[e] at i;intro O D;have R2:=B.mono D;have s:=G.trans<|Go.refl D;cases t with
   |false=>
    cases i;rw[if_neg bp];exact q _ _ _ R2 s
   |true=>
    rw[if_pos rfl];refine⟨λh H'=>∃f p,dF (gx X) l M0 H0 f h H' p/\Go l ow H f H'/\wh ft g n p=some r,λh H' z=>⟨n,Nat.lt_succ_self _,z⟩,l,M0,H0,u,x,R2,?_⟩;cases y:g x with
    |exc c=>rw[y] at i;cases i;exact q
    |stuck=>rw[y] at i;cases i;exact q
    |ok a=>
     obtain⟨K,F⟩:=a;rw[y] at i;cases K with
     |nx=>exact λf h H' k j=>⟨f,F,k,s.trans j,i⟩
     |ct=>exact λf h H' k j=>⟨f,F,k,s.trans j,i⟩
     |bk=>cases i;exact λf h H' k j=>q f h H' k<|s.trans j
     |rt fr d=>cases i;exact λv f h H' k j=>q v f h H' k<|s.trans j
end
def NbP (m m':Me):Prop:=(∀(j:Nat) (d:D),m[j]?≠some (Sl.bw d))->∀(j:Nat) (d:D),m'[j]?≠some (Sl.bw d)
def tG (G:Gx)(k:Nat)(h:Zba):TG:=λv f H Q=>∃c M0 H0 ow m d e,Rel G c M0 H0 ow f H m/\DV G (Ow c ow) H v d/\h d m=some e/\
 ∀b a,Rel G c M0 H0 b a H e->Go c ow H b H->NbP m e->a.drop k=f.drop k->Q a H
def tGs (G:Gx)(k:Nat)(h:List D->Me->Option Me):TGs:=λg f H Q=>∃c M0 H0 ow m e d,Rel G c M0 H0 ow f H m/\DVs G (Ow c ow) H g e/\h e m=some d/\
 ∀b a,Rel G c M0 H0 b a H d->Go c ow H b H->NbP m d->a.drop k=f.drop k->Q a H
abbrev FG (X:Cx)(k:Nat)(o:Expr)(h:Zba):Prop:=PG X o<|tG (gx X) k h
abbrev FGs (X:Cx)(k:Nat)(o:List Expr)(h:List D->Me->Option Me):Prop:=PGs X o<|tGs (gx X) k h
theorem Pj {X:Cx}{e:Expr}{T C:TG}(h:PG X e T)(k:∀v o H Q,C v o H Q->T v o H Q):PG X e C:=λa s o H v u Q I r q=>h a s o H v u Q I r<|k v o H Q q
theorem Kd {X:Cx}{es:List Expr}{T C:TGs}(h:PGs X es T)(k:∀v o H Q,C v o H Q->T v o H Q):PGs X es C:=λa s o H v u Q I r q=>h a s o H v u Q I r<|k v o H Q q
noncomputable def hName (i:Nat):Zba:=λd m=>some<|m.set i<|.fz d
noncomputable def lD:List D->Me->Option Me
 |[],m=>some m
 |_,_=>none
noncomputable def cz (h:Zba)(o:List D->Me->Option Me):List D->Me->Option Me
 |d::ds,m=>(h d m).bind λa=>o ds a
 |_,_=>none
noncomputable def lC (n:Nat)(o:List D->Me->Option Me):Zba
 | .tup ds,m=>if ds.length=n then o ds m else none
 |_,_=>none
section
variable {X:Cx}{pos:Pos}{k:Nat}{e:Expr}{es:List Expr}{h:Zba}{hs:List D->Me->Option Me}
theorem abw {i:Nat}{x:Str}(J:X.N.Nodup)(o:X.N[i]? = some x)(I:Loc X.env.scope x)(hk:i<k:=by decide)(C:X.fn x=true\/X.env.scope.names.lookup x=some .local:=by clean_wf):FG X k (.Name x pos) (hName i):=
 Pj (abE J o I C) λv h H Q a=>xq7 a λg M0 H0 ow m d f R c e q=>by
  cases e;refine q _ _ (R.set c) Go.set (λb=>yo b λ_ z=>by cases z) ?_;rw[List.drop_set,if_pos<|by lia]
theorem kI:FGs X k [] lD:=Kd Za λd i H Q b=>xq7 b λf M0 H0 ow m g h R c e q=>by
 cases c with
 |nil=>cases e;exact⟨rfl,q _ _ R (Go.refl<|aL.refl _) id rfl⟩
 |cons a t=>cases e
theorem cJ (I:FG X k e h)(C:FGs X k es hs)(o:(ki (e::es) X.env).map (·.2)=tf e X.env::(ki es X.env).map (·.2):=by rfl):FGs X k (e::es) (cz h hs):=
 Kd (Wn I C o) λB E H Q A=>xq7 A λr M0 H0 ow m D b R u e q=>by
  cases u with
  |nil=>cases e
  | @cons v vs' d ds' a t=>
   have c:(h d m).bind (λb=>hs ds' b)=some b:=e;cases i:h d m with
   |none=>rw[i] at c;cases c
   |some m1=>
    rw[i] at c;exact⟨v,vs',rfl,r,M0,H0,ow,m,d,m1,R,a,i,λn y x p s hd=>⟨r,M0,H0,n,m1,ds',b,x,t.go R.mutk p.ev,c,λg l R2 w f j=>q g l R2 (p.trans w) (λz=>f<|s z)<|j.trans hd⟩⟩
theorem o8 {j n:Nat}(C:X.calm=true)(h:FGs X k es hs)(I:(ki es X.env).length=n:=by rfl)(o:(ki es X.env).findIdx? (·.1)=none:=by rfl):FG X k (.Tuple es j pos) (lC n hs):=
 Pj (ack C h I o) λv r H Q g=>xq7 g λl M0 H0 ow m d c R i e q=>by
  cases d with
  |tup ds=>
   obtain⟨a,f,rfl,p,hd⟩:=Em<|.inl i;have b:(if ds.length=n then hs ds m else none)=some c:=e;by_cases z:ds.length=n
   ·rw[if_pos z] at b;exact⟨a,f,rfl,p,by rw[cC hd];exact z,l,M0,H0,ow,m,ds,c,R,hd,b,q⟩
   ·rw[if_neg z] at b;cases b
  |_=>cases e
end
noncomputable def aaH (f:Zae)(h:Zba):Zab:=λm=>(f m).bind λd=>(ofO<|h d m).bind λa=>.ok (.nx,a)
theorem adY {X:Cx}{E:XK}{o e:Expr}{f:Zae}{k:Nat}{h:Zba}{C:Pos}(he:FE X E e f)(U:FG X k o h)(I:mI [o] e C.line X.env=pure false:=by rfl)(J:mM [o] e X.env=pure none:=by rfl)
  (h1:(ki [o] X.env).map (·.2)=[tf o X.env]:=by rfl):FS X E (.Assign [o] e C) (aaH f h):=bW (Iv he U I J h1) λW s H p=>xq5 p λb M0 H0 ow m R q=>
 ⟨b,M0,H0,ow,m,R.toRel,(Ss.pu R.toRel q).imp (aL.refl _) λd q v H' a i=>by
  obtain⟨c,e,q⟩:=Ss.ofO q;exact⟨b,M0,H0,ow,m,d,c,(R.mono a).toRel,i,e,λr n l j g _=>q _ _ _ ⟨l,g R.nb⟩<|(Go.refl a).trans j⟩⟩
def Bm (G:Gx)(J:It)(ds:List D)(P:(Zaa)->Hp->Prop):Prop:=∀O H,P O H->
 (∀i,i<ds.length->J.go i H)/\(∀i x H',i<ds.length->J.yld i H x H'->aL H H'/\∃d,ds[i]? = some d/\DV G O H' x d)/\J.stop ds.length H
def tI (G:Gx)(E:XK)(f:Zad):TI:=λd H R=>∃a M0 H0 ow m,Rel G a M0 H0 ow d H m/\Pu G E (f m) H λb=>∀J H',aL H H'->Bm G J b (λO c=>Ev (Ow a ow) H' O c)->R J H'
def tIw (G:Gx)(E:XK)(f:Zad):TI:=λe H R=>∃a M0 H0 ow m,Rel G a M0 H0 ow e H m/\Pu G E (f m) H λc=>∀J H',aL H H'->Bm G J c (λO d=>(∀b,O b->Ow a ow b\/H' b=none)/\aL H' d)->R J H'
abbrev FI (X:Cx)(E:XK)(o e:Expr)(f:Zad):Prop:=PI Calm X o e<|tI (gx X) E f
abbrev FIw (X:Cx)(E:XK)(o e:Expr)(f:Zad):Prop:=PI Calm X o e<|tIw (gx X) E f
theorem pP {X:Cx}{C e:Expr}{T J:TI}(h:PI Calm X C e T)(k:∀o H R,J o H R->T o H R):PI Calm X C e J:=λa s o H R I q=>h a s o H R I<|k o H R q
noncomputable def jf (f:Zae):Zad:=λm=>(f m).bind λd=>match d with
 | .lst ds=>.ok ds
 |_=>.stuck
noncomputable def sU (f:Zae):Zad:=λm=>(f m).bind λd=>match d with
 | .tup ds=>.ok ds
 |_=>.stuck
noncomputable def sW (f:Zad):Zad:=λm=>(f m).bind λd=>match d with
 |[.int j]=>if -(2^62)<=j/\j<2^62 then .ok ((cq j.toNat).map λ(i:Nat)=>D.int i) else .stuck
 |_=>.stuck
noncomputable def Qo (f:Zad):Zad:=λm=>(f m).bind λd=>match d with
 |[.int i,.int j]=>if -(2^62)<=i/\i<2^62/\-(2^62)<=j/\j<2^62 then .ok ((cq (j-i).toNat).map λ(k:Nat)=>D.int<|i+k) else .stuck
 |_=>.stuck
theorem Zb {G:Gx}{O:Zaa}{H:Hp}{a:Addr}{xs:List V}{ds:List D}(m:∀b,O b->ik (H b))(C:LstAt G.K O H a xs)(hd:DVs G O H xs ds):Bm G (Itl G.K a) ds (λO' o=>Ev O H O' o):=by
 intro O' o ev;have c:=(wV ev.2 C).sq;have f:=hd.go m ev;have k:=cC hd;refine⟨λi g=>⟨xs,xs[i]'(by lia),c,by simp⟩,λi x H' g y=>?_,xs,c,by lia⟩;obtain⟨e,y⟩:=y;subst e;obtain⟨d,j,h⟩:=xF f<|y xs c;exact⟨aL.refl _,d,j,h⟩
theorem Vi {G:Gx}{O:Zaa}{H:Hp}{a:Addr}{xs:List V}{ds:List D}(m:∀b,O b->ik (H b))(C:SqL G.K H a xs)(hd:DVs G O H xs ds):Bm G (Itl G.K a) ds (λO' o=>(∀b,O' b->O b\/H b=none)/\aL H o):=by
 intro O' o ⟨sub,g⟩;have c:=Lb C g;have f:=hd.go m ⟨sub,.of g⟩;have l:=cC hd;refine⟨λi h=>⟨xs,xs[i]'(by lia),c,by simp⟩,λi x H' h y=>?_,xs,c,by lia⟩;obtain⟨e,y⟩:=y;subst e;obtain⟨d,k,j⟩:=xF f<|y xs c;exact⟨aL.refl _,d,k,j⟩
theorem aeo {G:Gx}{O:Zaa}{H:Hp}{a:Addr}{xs:List V}{ds:List D}(m:∀b,O b->ik (H b))(C:SqT G.K H a xs)(hd:DVs G O H xs ds):Bm G (Itt G.K a) ds (λO' o=>Ev O H O' o):=by
 intro O' o ev;have c:=adq m ev.2 C;have f:=hd.go m ev;have k:=cC hd;refine⟨λi g=>⟨xs,xs[i]'(by lia),c,by simp⟩,λi x H' g y=>?_,xs,c,by lia⟩;obtain⟨e,y⟩:=y;subst e;obtain⟨d,j,h⟩:=xF f<|y xs c;exact⟨aL.refl _,d,j,h⟩
theorem Bm.weak {G:Gx}{J:It}{ds:List D}{O:Zaa}{H:Hp}(h:Bm G J ds (λO' o=>Ev O H O' o)):Bm G J ds (λO' o=>(∀b,O' b->O b\/H b=none)/\aL H o):=
 λO' o ⟨s,g⟩=>h O' o ⟨s,.of g⟩
theorem LQ {G:Gx}{lo:Int}{n:Nat}{P:(Zaa)->Hp->Prop}:Bm G (Itr lo n) ((cq n).map λ(k:Nat)=>D.int<|lo+k) P:=by
 intro O H _;refine⟨λi a=>(show i<n by simpa using a),λi x H' a y=>?_,by show n<=_;simp⟩;obtain⟨e,y⟩:=y;subst e y;have b:i<n:=by simpa using a
 exact⟨aL.refl _,_,by simp[a5,AK b],.int _⟩
section
variable {X:Cx}{E:XK}{tg e a b:Expr}{f:Zae}{fs:Zad}{p pos:Pos}
theorem rB (h:FE X E e f):FI X E tg e (jf f):=pP (O9 h) λj H R b=>xq5 b λi M0 H0 ow m a q=>⟨i,M0,H0,ow,m,a,q.bind.imp (aL.refl _) λd q v H' g c=>by
 cases d with
 |lst ds=>
  cases c with
  |lst hl hd=>exact⟨_,rfl,⟨_,hl.sq⟩,q _ H' g<|Zb (a.mono g).mutk hl hd⟩
 |_=>exact q.elim⟩
theorem wC (h:FE X E e f):FI X E tg e (sU f):=pP (acZ h) λj H R b=>xq5 b λi M0 H0 ow m a q=>⟨i,M0,H0,ow,m,a,q.bind.imp (aL.refl _) λd q v H' g c=>by
 cases d with
 |tup ds=>
  cases c with
  |tup hl hd=>exact⟨_,rfl,⟨_,hl.sq⟩,q _ H' g<|aeo (a.mono g).mutk hl.sq hd⟩
 |_=>exact q.elim⟩
theorem oZ (h:FB X E e f):FIw X E tg e (jf f):=pP (O9 h) λn H R k=>xq5 k λj M0 H0 ow m c q=>⟨j,M0,H0,ow,m,c,q.bind.imp (aL.refl _) λd q v H' g i=>by
 cases d with
 |lst ds=>
  obtain⟨a,l,rfl,b,hd⟩:=lr i;exact⟨a,rfl,⟨_,b⟩,q _ H' g<|Vi (c.mono g).mutk b hd⟩
 |_=>exact q.elim⟩
theorem yO {o:Zad}(h:FI X E tg e o):FIw X E tg e o:=pP h λi H R b=>xq5 b λd M0 H0 ow m c q=>⟨d,M0,H0,ow,m,c,q.imp (aL.refl _) λf q J H' g a=>q J H' g a.weak⟩
theorem jR (I:Gl X "range")(o:X.mg "range" = none)(J:FAB X E [a] fs)(C:ag [a] X.env=[(false,eval a X.env)]:=by rfl):FI X E tg (.Call (.Name "range" p) [a] [] pos) (sW fs):=
 pP (Uz I o J C) λt H R i=>xq5 i λb M0 H0 ow m s q=>⟨b,M0,H0,ow,m,s,q.bind.imp (aL.refl _) λl q c H' g f=>by
  cases f with
  |nil=>exact q.elim
  | @cons v c d l h1 h2=>
   cases h2 with
   |cons _ _=>cases d<;>exact q.elim
   |nil=>
    cases d with
    |int j=>
     cases cI h1;obtain⟨⟨r,e⟩,k⟩:=Dy q;refine⟨j,rfl,r,e,k _ H' g ?_⟩
     have:=LQ (G:=gx X) (lo:=0) (n:=j.toNat) (P:=λO h=>Ev (Ow b ow) H' O h)
     simpa using this
    |_=>exact q.elim⟩
theorem T7 (U:Gl X "range")(C:X.mg "range" = none)(I:FAB X E [a,b] fs)(J:ag [a,b] X.env=[(false,eval a X.env),(false,eval b X.env)]:=by rfl)(o:ag [b] X.env=[(false,eval b X.env)]:=by rfl):FI X E tg (.Call (.Name "range" p) [a,b] [] pos) (Qo fs):=
 pP (T4 U C I J o) λs H R d=>xq5 d λi M0 H0 ow m j q=>⟨i,M0,H0,ow,m,j,q.bind.imp (aL.refl _) λr q n H' g f=>by
  split at q
  ·cases f with
   |cons h1 t=>cases t with
    |cons h2 t=>
     cases t;cases cI h1;cases cI h2;obtain⟨⟨h,e,l,c⟩,k⟩:=Dy q;exact⟨_,_,rfl,⟨h,e,l,c⟩,k _ H' g LQ⟩
  ·exact q.elim⟩
end
noncomputable def bI (h:Zba)(g:Zab):List D->Zab
 |[],m=>.ok (.nx,m)
 |d::ds,m=>match h d m with
  |none=>.stuck
  |some m1=>match g m1 with
   | .ok (.nx,m2)=>bI h g ds m2
   | .ok (.ct,m2)=>bI h g ds m2
   | .ok (.bk,m2)=>.ok (.nx,m2)
   | .ok (.rt fr v,m2)=>.ok (.rt fr v,m2)
   | .exc c=>.exc c
   | .stuck=>.stuck
def ir (o:Zad)(h:Zba)(g:Zab):Zab:=λm=>(o m).bind λa=>bI h g a m
theorem abq {Cm:Cx->Prop}{X:Cx}{E:XK}{U o:Expr}{C:List Stmt}{fi:Zad}{k:Nat}{h:Zba}{g:Zab}{I:Pos}(hp:yA (cx X.prog X.w) X.A X.env X.xe)(hc:Cm X)(hi:PI Cm X U o (tI (gx X) E fi))(hg:FG X k U h)(hb:FSs X E C g)
  (hs:∀x,hZ o X.env x=pure x:=by intro _;rfl):FS X E (.For U o C [] I) (ir fi h g):=bW (acY hp hc hi hg hb hs) λW σ H hE=>xq5 hE λB M0 H0 ow m R q=>
 ⟨B,M0,H0,ow,m,R.toRel,(Ss.pu R.toRel q).imp (aL.refl _) λt q J V Z it=>by
  have R1:=R.mono Z;have F:=Ss.go q<|Go.refl Z;generalize hr:bI h g t m=r at *;refine⟨λi n l H'=>∃b z,dF (gx X) B M0 H0 b l H' z/\Go B ow V b H'/\n=t.length-i/\i<=t.length/\bI h g (t.drop i) z=r,⟨_,ow,m,R1,Go.refl<|aL.refl _,rfl,d5 _,hr⟩,?_⟩;rintro i n M H2 ⟨G,Y,R2,Q,rfl,hi,f⟩;obtain⟨i1,i2,i3⟩:=it _ H2 Q.ev;by_cases s:i<t.length
  ·refine .inr ⟨i1 i s,λl H'=>∃b z,dF (gx X) B M0 H0 b l H' z/\Go B ow V b H'/\bI h g (t.drop<|i+1) z=r,λl H' ⟨b,z,S,P,e'⟩=>⟨t.length-(i+1),by lia,b,z,S,P,rfl,s,e'⟩,λx H3 y=>?_⟩;obtain⟨s3,d,hd,dv⟩:=i2 i x H3 s y;have ed:t.drop i=d::t.drop (i+1):=by
    rw[ua s];rw[aw s] at hd;cases hd;rfl
   rw[ed] at f;unfold bI at f;cases O:h d Y with
   |none=>rw[O] at f;subst f;exact F.elim
   |some m3=>
    rw[O] at f;refine⟨B,M0,H0,G,Y,d,m3,(R2.mono s3).toRel,dv,O,λb l S P nb _=>?_⟩;have L:=(Q.trans<|Go.refl s3).trans P;refine⟨B,M0,H0,b,m3,⟨S,nb R2.nb⟩,?_⟩;cases N:g m3 with
    |exc c=>simp only[N] at f;subst f;exact F
    |stuck=>simp only[N] at f;subst f;exact F
    |ok a=>
     obtain⟨f4,T⟩:=a;simp only[N] at f;cases f4 with
     |nx=>exact λj p K u D=>⟨j,T,u,L.trans D,f⟩
     |ct=>exact λj p K u D=>⟨j,T,u,L.trans D,f⟩
     |bk=>subst f;exact λj p K u D=>F j p K u<|L.trans D
     |rt fr v=>subst f;exact λv j p K u D=>F v j p K u<|L.trans D
  ·have e:i=t.length:=by lia
   subst e;rw[List.drop_length] at f;unfold bI at f;subst f;exact .inl ⟨i3,F G M H2 R2 Q⟩⟩
theorem adg {X:Cx}{E:XK}{I o:Expr}{C:List Stmt}{U:Zad}{k:Nat}{h:Zba}{g:Zab}{J:Pos}(hp:yA (cx X.prog X.w) X.A X.env X.xe)(hc:X.calm=true)(hi:FI X E I o U)(hg:FG X k I h)(hb:FSs X E C g)
  (hs:∀x,hZ o X.env x=pure x:=by intro _;rfl):FS X E (.For I o C [] J) (ir U h g):=abq hp hc hi hg hb hs
noncomputable def Sl.bor:Sl->Sl
 | .ow d=>.bw d
 | .io d=>.bw d
 | .hd _ _ _=>.un
 |s=>s
def cMe (k:Nat)(cap:List Nat)(m:Me):Me:=c9 k .un++cap.map λj=>(m.getD j .un).bor
noncomputable def fK (h:Zba)(ft:Zaf)(fe:Zae)(m0:Me):List D->Res (List D)
 |[]=>.ok []
 |d::ds=>match h d m0 with
  |none=>.stuck
  |some m1=>match ft m1 with
   | .ok true=>match fe m1 with
    | .ok y=>match fK h ft fe m0 ds with
     | .ok ys=>.ok (y::ys)
     |_=>.stuck
    |_=>.stuck
   | .ok false=>fK h ft fe m0 ds
   |_=>.stuck
def d7 (k:Nat)(cap:List Nat)(o:Zad)(h:Zba)(ft:Zaf)(fe:Zae):Zae:=λm=>(o m).bind λa=>
 if a.length<=ai then match fK h ft fe (cMe k cap m) a with
  | .ok ys=>.ok<|.lst ys
  |_=>.stuck
 else .stuck
abbrev WW (X:Cx)(E:XK)(o:List Expr)(f:Zaf):Prop:=Ua X o<|tT (gx X) E f
def jV:Zaf:=λ_=>.ok true
theorem jk:WW X E [] jV:=λb s c H Q I a=>xq5 a λd M0 H0 ow m R q=>aad b s c H Q I<|q H<|aL.refl _
theorem Bx (h:FT X E c f):WW X E [c] f:=Zx h
section
theorem Yh (R:Rel G O0 M0 H0 ow σ H m)(g:aL H H2)(C:H l=none)(hz:H2 l=some (.lst zs)):
  Rel G (Op (Ow O0 ow) l) (λ_=>False) (λ_=>none) (λ_=>none) (cSt k cap σ) H2 (cMe k cap m):=by
 have sub:∀b,Ow (Op (Ow O0 ow) l) (λ_=>none) b->Ow O0 ow b\/H b=none:=λb z=>by
  rw[xX] at z;exact z.elim .inl λe=>.inr (by rw[e];exact C)
 have f:∀b,Ow O0 ow b->Ow (Op (Ow O0 ow) l) (λ_=>none) b:=λb z=>.inl<|.inl z;refine⟨by simp[cSt,cMe],λb o e _=>(by cases e),λb z=>z.elim,λb z=>?_,λi a e=>(by cases e),λi j a e=>(by cases e),λ_ _=>rfl,λi s e=>?_⟩
 ·rw[xX] at z;rcases z with z|z
  ·exact zr g<|R.mutk b z
  ·rw[z,hz];exact .inl ⟨zs,rfl⟩
 ·unfold cMe at e;by_cases u:i<k
  ·rw[cf (by simpa using u),gv,if_pos u] at e;cases e;rfl
  ·rw[cp (by simp;lia),fS,a5] at e;have h:(cSt k cap σ)[i]? = (cap[i-k]?).map λj=>(σ[j]?).join:=by
    unfold cSt;rw[cp (by simp;lia),fS,a5]
   cases v:cap[i-k]? with
   |none=>rw[v] at e;cases e
   |some j=>
    rw[v] at e h;rw[h];cases p:m[j]? with
    |none=>
     have:m.getD j .un=.un:=by simp[List.getD,p]
     rw[hJ,this] at e;cases e;rfl
    |some s0=>
     have:m.getD j .un=s0:=by simp[List.getD,p]
     rw[hJ,this] at e;cases e;have z:=R.slot j s0 p;cases s0 with
     |un=>rfl
     |fz d=>
      obtain⟨_,x,q,c⟩:=z;exact⟨rfl,x,by rw[hJ,q];rfl,(c.bQ sub).mono g⟩
     |ow d=>
      refine zE z λa t y r n=>?_;exact⟨rfl,.ref a,by rw[hJ,r];rfl,.inr ⟨a,rfl,f a<|.inr ⟨j,t⟩,(n.bQ sub).mono g⟩⟩
     |io d=>
      refine zE z λa t y r n=>?_;exact⟨rfl,.ref a,by rw[hJ,r];rfl,.inr ⟨a,rfl,f a<|.inr ⟨j,t⟩,(n.bQ sub).mono g⟩⟩
     |bw d=>
      obtain⟨_,x,q,c⟩:=z;refine⟨rfl,x,by rw[hJ,q];rfl,?_⟩;rcases c with c|⟨a,A,o,c⟩
      ·exact .inl<|(c.bQ sub).mono g
      ·exact .inr ⟨a,A,f a o,(c.bQ sub).mono g⟩
     |hd w a d=>rfl
theorem HF (hq:tN (gx X) E (d7 k cap fi h ft fe) σ H Q):Sd k cap (tIw (gx X) E fi) (tG (gx X) k h) (tT (gx X) E0 ft) (tE (gx X) E0 fe) σ H Q:=by
 refine Hc hq λs M0 H0 ow m R q=>?_;refine⟨s,M0,H0,ow,m,R,q.bind.imp (aL.refl _) λj q J H1 P it l S=>?_⟩;obtain⟨hz,q⟩:=Bs q;cases T:fK h ft fe (cMe k cap m) j with
 |exc c=>rw[T] at q;exact q.elim
 |stuck=>rw[T] at q;exact q.elim
 |ok ys=>
  rw[T] at q;have N:=P.free S;have I:∀b,Op (Ow s ow) l b->Ow s ow b\/H1 b=none:=λb z=>z.elim .inl λe=>.inr (by rw[e];exact S);refine⟨λi n r H'=>n=j.length-i/\i<=j.length/\r.length<=i/\aL H1 H'/\H' l=some (.lst r)/\∃M f,DVs (gx X) (Op (Ow s ow) l) H' r M/\fK h ft fe (cMe k cap m) (j.drop i)=.ok f/\M++f=ys,
   ⟨j.length,by simp,d5 _,aS _,bH S _,aX,[],ys,.nil,T,rfl⟩,?_⟩
  rintro i n r H' ⟨rfl,hi,hzi,w,K,M,f,u,a,p⟩;obtain⟨i1,i2,i3⟩:=it (Op (Ow s ow) l) H' ⟨I,w⟩;by_cases g:i<j.length
  ·refine .inr ⟨i1 i g,λx H2 y=>?_⟩;obtain⟨A,d,hd,dv⟩:=i2 i x H2 g y;have ed:j.drop i=d::j.drop (i+1):=by
    rw[ua g];rw[aw g] at hd;cases hd;rfl
   rw[ed] at a;unfold fK at a;cases W:h d (cMe k cap m) with
   |none=>rw[W] at a;cases a
   |some m1=>
    rw[W] at a;have G2:=(P.trans w).trans A;have R2:=Yh (k:=k) (cap:=cap) (l:=l) (zs:=r) R G2 N<|A _ _ K;refine⟨_,_,_,_,_,d,m1,R2,by rw[xX];exact dv,W,λL σ' U g' nb C=>⟨C,_,_,_,L,m1,U,?_⟩⟩;simp only[] at a;cases Z:ft m1 with
    |exc c=>rw[Z] at a;cases a
    |stuck=>rw[Z] at a;cases a
    |ok t=>
     rw[Z] at a;intro H3 F;cases t with
     |false=>
      rw[if_neg bp];exact⟨j.length-(i+1),by lia,rfl,g,by lia,(w.trans A).trans F,F _ _<|A _ _ K,M,f,u.mono<|A.trans F,a,p⟩
     |true=>
      rw[if_pos rfl];refine⟨_,_,_,L,m1,U.mono F,?_⟩;simp only[] at a;cases V:fe m1 with
      |exc c=>rw[V] at a;cases a
      |stuck=>rw[V] at a;cases a
      |ok y'=>
       rw[V] at a;intro v Y g5 hv;simp only[] at a;cases O:fK h ft fe (cMe k cap m) (j.drop<|i+1) with
       |exc c=>rw[O] at a;cases a
       |stuck=>rw[O] at a;cases a
       |ok rest'=>
        rw[O] at a;cases a;have B:=(A.trans F).trans g5;have D:∀b,Op (Ow s ow) l b->ik (Y b):=λb z=>by
         rcases z with z|z
         ·exact zr (((P.trans w).trans B))<|R.mutk b z
         ·rw[z,B _ _ K];exact .inl ⟨r,rfl⟩
        have G:Kp (Op (Ow s ow) l) Y (upd Y l<|.lst<|r++[v]):=λb o e n=>by
         rw[cB λz=>n<|.inr z];exact e
        refine⟨B _ _ K,by lia,j.length-(i+1),by lia,rfl,g,by rw[be,dP];lia,?_,aX,M++[y'],rest',?_,O,by rw[fy];exact p⟩
        ·exact Zh ((aeT<|w.trans B).trans acI) S
        ·exact lu ((u.mono B).kp D G)<|.cons ((hv.bQ λb z=>.inl<|.inl z).kp D G) .nil
  ·have e:i=j.length:=by lia
   subst e;rw[List.drop_length] at a;cases a;rw[dc] at p;subst p;exact .inl ⟨i3,q l H' (P.trans w) N ⟨r,K,u⟩⟩
section
theorem lW (sc:x8)(J o:List Str)(k:Nat)(cap:List Nat)(I:X.calm=true)(S:CSc sc scope o)(hcap:kL (λj x=>X.N[j]? = some x) cap o)
  (hi:FIw X E tg iter fi) (hg:∀cl C sE U fp π,FG (dM X J scope cl C sE U fp π) k tg h) (ht:∀cl C sE U fp π,WW (dM X J scope cl C sE U fp π) E0 ifs ft) (he:∀cl C sE U fp π,FE (dM X J scope cl C sE U fp π) E0 elt fe)
  (hsc:X.env.scope=sc:=by rfl) (hN:J.drop k=o:=by rfl) (hk:k<=J.length:=by decide) (hs:∀x,hZ iter X.env x=pure x:=by intro _;rfl):
  FN X E (.ListComp elt [⟨tg,iter,ifs,0⟩] scope pos) (d7 k cap fi h ft fe):=bJ (aab sc J o k cap I S hcap hi hg ht he hsc hN hk hs) λ_ _ _ q=>HF q
theorem vK (sc:x8)(U I:List Str)(k:Nat)(cap:List Nat)(hnd:X.N.Nodup)(hi':X.N[i]? = some y)(hy:Loc X.env.scope y)(J:X.calm=true)(S:CSc sc scope I)(hcap:kL (λj x=>X.N[j]? = some x) cap I)
  (hi:FIw X E tg iter fi) (hg:∀cl C sE HE fp π,FG (dM X U scope cl C sE HE fp π) k tg h) (ht:∀cl C sE HE fp π,WW (dM X U scope cl C sE HE fp π) E0 ifs ft) (he:∀cl C sE HE fp π,FE (dM X U scope cl C sE HE fp π) E0 elt fe)
  (τ:d4 (.ListComp elt [⟨tg,iter,ifs,0⟩] scope pos) (some<|.Name y py) spos.line X.env=pure true:=by rfl)
  (hsc:X.env.scope=sc:=by rfl) (hN:U.drop k=I:=by rfl) (hk:k<=U.length:=by decide) (hs:∀x,hZ iter X.env x=pure x:=by intro _;rfl)
  (hf:X.fn y=true\/X.env.scope.names.lookup y=some .local:=by clean_wf):
  FS X E (.Assign [.Name y py] (.ListComp elt [⟨tg,iter,ifs,0⟩] scope pos) spos) (bC i<|d7 k cap fi h ft fe):=
 bW (By sc U I k cap hnd hi' hy J S hcap hi hg ht he τ hsc hN hk hs hf) λW d H q=>by
  refine HF (h:=h) (ft:=ft) (fe:=fe) (Q:=λx c=>GX i x d c W.nx) ?_;refine Hc (Wc q) λa M0 H0 ow m R q=>?_;exact⟨a,M0,H0,ow,m,R,q.imp (aL.refl _) λ_ k p H' g n o=>k _ H' g<|(o.bQ λb z=>.inl<|.inl z).dv<|R.xr n⟩
theorem My (sc:x8)(J o:List Str)(k:Nat)(cap:List Nat)(hnd:X.N.Nodup)(hi':X.N[i]? = some y)(hy:Loc X.env.scope y)(I:X.calm=true)(S:CSc sc scope o)(hcap:kL (λj x=>X.N[j]? = some x) cap o)
  (hi:FIw X E tg iter fi) (hg:∀cl C sE U fp π,FG (dM X J scope cl C sE U fp π) k tg h) (ht:∀cl C sE U fp π,WW (dM X J scope cl C sE U fp π) E0 ifs ft) (he:∀cl C sE U fp π,FE (dM X J scope cl C sE U fp π) E0 elt fe)
  (τ:d4 (.ListComp elt [⟨tg,iter,ifs,0⟩] scope pos) (some<|.Name y py) spos.line X.env=pure true:=by rfl)
  (hsc:X.env.scope=sc:=by rfl) (hN:J.drop k=o:=by rfl) (hk:k<=J.length:=by decide) (hs:∀x,hZ iter X.env x=pure x:=by intro _;rfl)
  (hf:X.fn y=true\/X.env.scope.names.lookup y=some .local:=by clean_wf):
  FS X E (.Assign [.Name y py] (.ListComp elt [⟨tg,iter,ifs,0⟩] scope pos) spos) (eV i<|d7 k cap fi h ft fe):=
 bW (By sc J o k cap hnd hi' hy I S hcap hi hg ht he τ hsc hN hk hs hf) λW a H q=>HF<|VM q
end
end
def spF (G:Gx)(o:Zac):Sp:=λc H Q E=>∃O a,(∀b,O b->ik (H b))/\DVs G O H c a/\Pu G E (o a) H λr=>∀v H',aL H H'->DV G O H' v r.2->(r.1=true->Fr G O H v H' r.2)->Q v H'
noncomputable def aV (N n:Nat)(g:Zab):Zac:=λa=>if a.length=n then match g (a.map Sl.fz++c9 (N-n) Sl.un) with
  | .ok (.rt fr d,_)=>.ok (fr,d)
  | .ok (.nx,_)=>.ok (false,.non)
  | .exc c=>.exc c
  |_=>.stuck
 else .stuck
abbrev FF (P:bE)(w:eI)(K:bo)(mg:Zp)(o:Heap)(k:Nat)(x:Str)(ps:List Str)(C:Zac):Prop:=Hd.Fn P w K mg o k x ps<|spF ⟨K,mg⟩ C
theorem T5 (C:∀b,O b->ik (H b))(hd:DVs G O H vs ds)(I:ds.length=n):
  dF G O (λ_=>False) H (λ_=>none) (L2.start N vs) H (ds.map Sl.fz++c9 (N.length-n) Sl.un):=by
 have g:=cC hd;refine⟨⟨by simp[L2.start,g,I],λb o e _=>e,λb z=>z.elim,λb z=>by rw[xX] at z;exact C b z,λi a e=>(by cases e),λi j a e=>(by cases e),λ_ _=>rfl,λi s e=>?_⟩,λj d e=>?_⟩
 ·by_cases f:i<ds.length
  ·rw[cf (by simpa using f),a5] at e;cases c:ds[i]? with
   |none=>rw[c] at e;cases e
   |some d=>
    rw[c] at e;cases e;obtain⟨x,k,h⟩:=vN hd c;refine⟨rfl,x,?_,by rw[xX];exact h⟩;unfold L2.start;rw[cf (by simpa[g] using f),a5,k];rfl
  ·rw[cp (by simp;lia),gv] at e;split at e
   ·cases e;rfl
   ·cases e
 ·by_cases f:j<ds.length
  ·rw[cf (by simpa using f),a5] at e;cases c:ds[j]? with
   |none=>rw[c] at e;cases e
   |some d=>rw[c] at e;cases e
  ·rw[cp (by simp;lia),gv] at e;split at e<;>cases e
section
variable {P:bE}{w:eI}{K:bo}{mg:Zp}{base:Heap}
theorem bG {x J:Str}{st:Stmt}{f:Addr}{fd:iL}{N ps:List Str}{k:Nat}{g:Zab}(Fu:Fun K x J st f fd)(S:bj N ps (aM st))
  (hbody:∀(U:ax) (A:fm) (I:List Env) (s:aI) (H:Hp) (E:XK),gG k (A.deeper<|y6 J (aM st) s.heap.objs.size f U)->
   FSs (pq (CX1 P w) P w K mg base N J (aM st) f U A I s H E) E (jB st) g):ph P w K mg base (CX1 P w) (k+1) f fd ps (spF ⟨K,mg⟩<|aV N.length ps.length g):=by
 refine Rz Fu S (λG H Q E h=>?_) λU A I s H G Q E B h=>?_
 ·refine CT h λO n _ hd q=>?_;rw[cC hd];unfold aV at q;exact(Bs q).1
 ·refine CT h λO n L hd q=>?_;unfold aV at q;obtain⟨F,q⟩:=Bs q;refine⟨_,hbody U A I s H E B,O,λ_=>False,H,λ_=>none,_,T5 L hd F,?_⟩;have sm:∀{j i H' m},dF (⟨K,mg⟩:Gx) O (λ_=>False) H j i H' m->aL H H':=λR b o e=>R.keep b o e id;cases z:g (n.map Sl.fz++c9 (N.length-ps.length) Sl.un) with
  |exc c=>rw[z] at q;exact λC H' e kp=>q C H' e λb o e=>kp b o e id
  |stuck=>rw[z] at q;exact q.elim
  |ok a=>
   obtain⟨V,m⟩:=a;rw[z] at q;cases V with
   |bk=>exact q.elim
   |ct=>exact q.elim
   |nx=>exact λj i H' l _=>q _ H' (sm l) .non λz=>by cases z
   |rt fr d=>
    intro v j i H' l _ r u;refine q v H' (sm l) (r.bQ λb z=>.inl<|.inl z) λz=>?_;rcases u z with⟨p,T,D,M⟩|t
    ·exact .inl ⟨p,T,D,M.bQ λb z=>.inl<|z.elim (λy=>.inl<|.inl y) .inr⟩
    ·exact .inr t
theorem RN {k:Nat}{f:Addr}{o:iL}{ps:List Str}:ph P w K mg base (CX1 P w) k f o ps (spF ⟨K,mg⟩ λ_=>.stuck):=
 ⟨λ_ _ _ _ a=>by obtain⟨_,_,_,_,q⟩:=a;exact q.elim,λ_ _ _ _ _ _ _ _ _ _ _ _ _ ⟨_,_,_,_,q⟩=>q.elim⟩
end
noncomputable def fFn (o:Zac)(fs:Zad):Zae:=λm=>(fs m).bind λa=>(o a).bind λr=>.ok r.2
def NK (o:Zac)(fs:Zad):Zae:=λm=>(fs m).bind λa=>(o a).bind λr=>if flat r.2=true then .ok r.2 else .stuck
section
theorem bD (U:FF X.prog X.w X.K X.mg X.base k x ps Φ)(I:gG j X.A)(hx:Passes (CX1 X.prog X.w) X E)(ha:FAE X E (e::es) fs)(hk:k<=j:=by decide)(hg:Gl X x:=by rfl)
  (o:(x==("__debug__":Str))=false:=by decide) (J:ag (e::es) X.env=(false,eval e X.env)::ag es X.env:=by rfl) (C:(iE pos<|ag es X.env).any (·.1)=false:=by rfl):
  FE X E (.Call (.Name x p) (e::es) [] pos) (fFn Φ fs):=by
 refine zT U.ex λf s G b kp m=>?_;refine bJ (Aj G (I.mono hk) hg m kp b .nil hx ha o J C) λu H Q l=>xq5 l λh M0 H0 ow m R q=>⟨h,M0,H0,ow,m,R,q.bind.imp (aL.refl _) λn q d t a g=>?_⟩;show spF _ _ (d++[]) _ _ _;rw[dc];exact⟨_,n,(R.mono a).mutk,g,q.bind.imp a λr q v H' i c _=>q v H' (a.trans i) c⟩
theorem Nu (U:FF X.prog X.w X.K X.mg X.base k x ps Φ)(I:gG j X.A)(hx:Passes (CX1 X.prog X.w) X E)(ha:FAB X E (e::es) fs)(hk:k<=j:=by decide)(hg:Gl X x:=by rfl)
  (o:(x==("__debug__":Str))=false:=by decide) (J:ag (e::es) X.env=(false,eval e X.env)::ag es X.env:=by rfl) (C:(iE pos<|ag es X.env).any (·.1)=false:=by rfl):
  FE X E (.Call (.Name x p) (e::es) [] pos) (NK Φ fs):=by
 refine zT U.ex λf t G b kp m=>?_;refine bJ (Aj G (I.mono hk) hg m kp b .nil hx ha o J C) λy H Q n=>xq5 n λi M0 H0 ow m R q=>⟨i,M0,H0,ow,m,R,q.bind.imp (aL.refl _) λs q d u c g=>?_⟩;show spF _ _ (d++[]) _ _ _;rw[dc];refine⟨_,s,λ_ z=>z.elim,g.any,q.bind.imp c λr q v H' l a _=>?_⟩;obtain⟨h,q⟩:=Dy q;exact q v H' (c.trans l)<|a.flat h
end
def Bg (i:Int):Prop:=i.natAbs<lmM
instance (i:Int):Decidable (Bg i):=inferInstanceAs<|Decidable<|_<_
def Bq (i:Int):Prop:=i.natAbs<lmD
instance (i:Int):Decidable (Bq i):=inferInstanceAs<|Decidable<|_<_
theorem ae4 {i:Int}(h:i.natAbs<2^60000):Bg i:=by unfold Bg;rw[Xr];exact h
theorem Ca {i:Int}(h:i.natAbs<2^8900):Bq i:=by unfold Bq;rw[Oa];exact h
@[simp] theorem ahg {i:Int}(h:Bq i):Bg i:=by
 unfold Bq at h;rw[Oa] at h;exact ae4<|br h<|As (by decide)<|by decide
noncomputable def dvI (i j:Int):Int:=if 0<j then i/j else i.fdiv j
noncomputable def mdI (i j:Int):Int:=if 0<j then i%j else i.fmod j
noncomputable def bR:D->D->Option D
 | .int i,.int j=>some<|.int<|i+j
 | .str a,.str b=>if a.length+b.length<=ai then some (.str<|a++b) else none
 | .lst a,.lst b=>if a.length+b.length<=ai then some (.lst<|a++b) else none
 | .tup a,.tup b=>if a.length+b.length<=ai then some (.tup<|a++b) else none
 |_,_=>none
noncomputable def dZ:D->D->Option D
 | .int i,.int j=>some<|.int<|i-j
 |_,_=>none
noncomputable def eX:D->D->Option D
 | .int i,.int j=>if Bg i/\Bg j\/j.natAbs<2^62 then some (.int<|i*j) else none
 |_,_=>none
def dq:D->D->Option D
 | .int i,.int j=>if j≠0/\Bq j then some (.int<|dvI i j) else none
 |_,_=>none
def bc:D->D->Option D
 | .int i,.int j=>if j≠0 then some (.int<|mdI i j) else none
 |_,_=>none
noncomputable def wY:D->Option D
 | .int i=>some<|.int (-i)
 |_=>none
section
variable {X:Cx}
theorem oif {c:Prop}[Decidable c]{o:Type}{a r:o}(h:(if c then some a else none)=some r):c/\a=r:=by
 by_cases z:c
 ·rw[if_pos z] at h;exact⟨z,b9 h⟩
 ·rw[if_neg z] at h;cases h
theorem Ru {o:Zl}{C:L2.St}{H:Hp}{s:aI}{Q:VK}{O:Zaa}{i:Str}{t:Tok}{tk:Nat}(I:Inv X o C H s)(q:∀v H',aL H H'->DV (gx X) O H' v (.str i)->Q v H'):EP X o C Q (.str i t) { s with toks:=tk }:=
 ⟨.str i,H,I.tok _,⟨t,rfl⟩,q _ _ (aL.refl _)<|.str i⟩
theorem abm {J:Zl}{U:L2.St}{H:Hp}{s:aI}{Q:VK}{O:Zaa}{xs:List V}{ds:List D}{C:List ax}{h':Heap}{tk:Nat}(I:Inv X J U H s)(m:∀b,O b->ik (H b))(hd:DVs (gx X) O H xs ds)(r:Vals xs C)(hz:xs.length<=ai)
  (kp:∀b o,s.heap.get? b=some o->h'.get? b=some o) (e:∃n,h'.get? s.heap.objs.size=some { cls:=.type "list",data:=.seq C.toArray n }) (q:∀p H',aL H H'->H p=none->OV (gx X) (Op O p) H' p (.lst ds)->Q (.ref p) H'):EP X J U Q (.ref s.heap.objs.size) { s with heap:=h',toks:=tk }:=by
 have a:=I.hok.fresh<|aS _;obtain⟨n,e⟩:=e;refine⟨.ref s.heap.objs.size,upd H s.heap.objs.size<|.lst xs,I.laid kp (aS _) ⟨hz,C,n,r,e⟩,rfl,q _ _ (bH a _) a ⟨xs,aX,?_⟩⟩;exact(hd.bQ λb z=>z.elim .inl λe=>.inr (by rw[e];exact a)).mono (bH a _)
theorem QK {J:Zl}{U:L2.St}{H:Hp}{s:aI}{Q:VK}{O:Zaa}{xs:List V}{ds:List D}{C:List ax}{h':Heap}{tk:Nat}(I:Inv X J U H s)(hd:DVs (gx X) O H xs ds)(r:Vals xs C)(hz:xs.length<=ai)
  (kp:∀b o,s.heap.get? b=some o->h'.get? b=some o) (e:Bp h' s.heap.objs.size C.toArray) (q:∀v H',aL H H'->DV (gx X) O H' v (.tup ds)->Q v H'):EP X J U Q (.ref s.heap.objs.size) { s with heap:=h',toks:=tk }:=by
 have a:=I.hok.fresh<|aS _;exact⟨.ref s.heap.objs.size,upd H s.heap.objs.size<|.tup xs,I.laid kp (aS _) ⟨hz,C,r,e⟩,rfl,q _ _ (bH a _)<|.tup (SqU.of aX)<|hd.mono<|bH a _⟩
theorem YT {G:Gx}{O:Zaa}{H:Hp}{r:D}{Q:VK}(m:∀b,O b->ik (H b))(q:∀v H',aL H H'->DV G O H' v r->Q v H'):∀p H',aL H H'->H p=none->OV G (Op O p) H' p r->Q (.ref p) H':=λp H' g n o=>
 q _ H' g ((o.bQ λb z=>.inl<|.inl z).dv λz=>by
  have:=m p z
  rw[n] at this;rcases this with⟨_,e⟩|⟨_,e⟩|⟨_,e⟩|⟨_,e⟩|⟨_,e⟩<;>cases e)
def aeL (G:Gx):R2:=λx y H Q=>∃O a c,(∀b,O b->ik (H b))/\DW G O H x (.lst a)/\DW G O H y (.lst c)/\a.length+c.length<=ai/\∀p H',aL H H'->H p=none->OV G (Op O p) H' p (.lst<|a++c)->Q (.ref p) H'
theorem aak:OpR X (iP .Add) (aeL<|gx X):=by
 intro J s σ H x y v u Q I S T h;obtain⟨O,U,es,m,V,K,hz,q⟩:=h;obtain⟨a,C,rfl,W,hd⟩:=lr V;obtain⟨b,ys,rfl,E,A⟩:=lr K;cases S;cases T;obtain⟨k,B,G,_⟩:=I.list W;obtain⟨c,D,M,_⟩:=I.list E;have Y:=cC hd;have l2:=cC A;have Z:=B.length;have k2:=D.length;obtain⟨⟨P,N,w,R⟩,t,z,n,g⟩:=id G.isList;obtain⟨⟨r,p,l,j⟩,d,f,L,i⟩:=id M.isList;simp only at z g f i;subst z g f i;refine y7 ⟨_,t,rfl⟩ ⟨_,d,rfl⟩ noFill_list_add seq_list_add PySem.F.slot_list_add PySem.F.entry_list_add (PySem.F.args_list_add_2 _ _) (list_addW a b k.toArray c.toArray n L N p R j (by simp;lia)) ⟨t,d,?_⟩;rw[show k.toArray++c.toArray=(k++c).toArray by simp];exact abm I m (lu hd A) (B.append D) (by rw[be];lia) (λb o e=>ar _ e) ⟨0,bg _ rfl⟩ q
theorem Wd:OpR X (iP .Add) (λx y H Q=>∃O ds es,DW (gx X) O H x (.tup ds)/\DW (gx X) O H y (.tup es)/\ds.length+es.length<=ai/\∀v H',aL H H'->DV (gx X) O H' v (.tup<|ds++es)->Q v H'):=by
 intro V s Z H x y v u Q I F G h;obtain⟨O,ds,es,Y,N,U,q⟩:=h;obtain⟨a,D,rfl,r,hd⟩:=xu Y;obtain⟨b,W,rfl,l,j⟩:=xu N;have J:=cC hd;have l2:=cC j;by_cases c:D=[]
 ·subst c;cases hd;cases F;cases G;obtain⟨C,o,L,_⟩:=I.tuple r.sq;obtain⟨f,r2,P,_⟩:=I.tuple l.sq;cases o;obtain⟨⟨S,R,E,T⟩,B,K,n,g⟩:=id L;obtain⟨⟨A,t,m,k⟩,d,e,M,i⟩:=id P;simp only at K g e i;subst K g e i;exact y7 ⟨_,B,rfl⟩ ⟨_,d,rfl⟩ xB AZ pz oQ (oy _ _)
   (tuple_addW0 a b ([]:List ax).toArray f.toArray n M R t T k<|by rfl) ⟨B,d,⟨.ref b,H,I,rfl,q _ _ (aL.refl _)<|.tup l j⟩⟩
 ·refine Zj V s Z H _ _ v u Q I F G ⟨a,b,D,W,rfl,rfl,r.sq,l.sq,c,by lia,λz=>?_,λz p w=>?_⟩
  ·subst z;cases j;exact q _ _ (aL.refl _) (by rw[dc];exact .tup r hd)
  ·exact q _ _ (bH w _)<|.tup (SqU.of aX)<|(lu hd j).mono<|bH w _
theorem bM:OpR X (iP .Add) (rG (gx X) bR):=by
 intro c s l H x y v u Q I f g h;obtain⟨O,d,e,r,m,k,b,a,q⟩:=h
 match d,e,a with
 | .int i,.int j,a=>
  cases a;exact aeb c s l H x y v u Q I f g ⟨i,j,cI k,cI b,q _ _ (aL.refl _)<|.int _⟩
 | .str i,.str j,a=>
  obtain⟨z,rfl⟩:=oif a;exact MP c s l H x y v u Q I f g ⟨i,j,kj k,kj b,z,q _ _ (aL.refl _)<|.str _⟩
 | .lst ds,.lst es,a=>
  obtain⟨z,rfl⟩:=oif a;exact aak c s l H x y v u Q I f g ⟨O,ds,es,m,k,b,z,YT m q⟩
 | .tup ds,.tup es,a=>
  obtain⟨z,rfl⟩:=oif a;exact Wd c s l H x y v u Q I f g ⟨O,ds,es,k,b,z,q⟩
theorem dO:OpR X (iP .Sub) (rG (gx X) dZ):=by
 intro c s l H x y v u Q I f g h;obtain⟨O,d,e,r,m,k,b,a,q⟩:=h
 match d,e,a with
 | .int i,.int j,a=>
  cases a;exact adW c s l H x y v u Q I f g ⟨i,j,cI k,cI b,q _ _ (aL.refl _)<|.int _⟩
theorem dC:OpR X (iP .Mult) (rG (gx X) eX):=by
 intro c s l H x y v u Q I f g h;obtain⟨O,d,e,r,m,k,b,a,q⟩:=h
 match d,e,a with
 | .int i,.int j,a=>
  obtain⟨z,rfl⟩:=oif a;rcases z with z|z
  ·exact Y7 c s l H x y v u Q I f g ⟨i,j,cI k,cI b,z,q _ _ (aL.refl _)<|.int _⟩
  ·exact Z5 c s l H x y v u Q I f g ⟨i,j,cI k,cI b,z,q _ _ (aL.refl _)<|.int _⟩
theorem cM:OpR X (iP .FloorDiv) (rG (gx X) dq):=by
 intro c s l H x y v u Q I f g h;obtain⟨O,d,e,r,m,k,b,a,q⟩:=h
 match d,e,a with
 | .int i,.int j,a=>
  obtain⟨z,rfl⟩:=oif a;refine Xv c s l H x y v u Q I f g ⟨i,j,cI k,cI b,z,?_⟩;have e:i.fdiv j=dvI i j:=by
   unfold dvI;split
   ·rw[iN i<|by lia]
   ·rfl
  show Q (.int<|i.fdiv j) H;rw[e];exact q _ _ (aL.refl _)<|.int _
theorem aW:OpR X (iP .Mod) (rG (gx X) bc):=by
 intro c s l H x y v u Q I f g h;obtain⟨O,d,e,r,m,k,b,a,q⟩:=h
 match d,e,a with
 | .int i,.int j,a=>
  obtain⟨z,rfl⟩:=oif a;refine Zc c s l H x y v u Q I f g ⟨i,j,cI k,cI b,z,?_⟩;have e:i.fmod j=mdI i j:=by
   unfold mdI;split
   ·rw[Int.fmod_eq_emod_of_nonneg i<|by lia]
   ·rfl
  show Q (.int<|i.fmod j) H;rw[e];exact q _ _ (aL.refl _)<|.int _
theorem wI:UnR X (unaryOp .USub) (rG1 (gx X) wY):=by
 intro c s f H x v Q I e h;obtain⟨O,d,r,m,b,a,q⟩:=h
 match d,a with
 | .int i,a=>
  cases a;exact ac9 c s f H x v Q I e ⟨i,cI b,q _ _ (aL.refl _)<|.int _⟩
mutual
def toPy:D->Option xC
 | .non=>some .none
 | .bl b=>some<|.bool b
 | .int i=>some<|.int i
 | .str x=>some<|.str x
 | .tup xs=>(xY xs).map .tuple
 | .lst xs=>(xY xs).map .list
 | .exc _ _ _=>none
 | .dct _ _=>none
 | .dcu _ _=>none
 | .adr _=>none
 | .odd _=>none
 | .ins _ _ _=>none
 | .dcf _ _=>none
def xY:List D->Option (List xC)
 |[]=>some []
 |d::ds=>(toPy d).bind λp=>(xY ds).map λa=>p::a
end
mutual
theorem Ri {G:Gx}{O:Zaa}{H:Hp}:∀{v:V} {d:D} {p:xC},DV G O H v d->toPy d=some p->Hd.DV G.K H v p
 |_,_,_,.non,e=>by cases e;exact .non
 |_,_,_,.bl b,e=>by cases e;exact .bl b
 |_,_,_,.int i,e=>by cases e;exact .int i
 |_,_,_,.str x,e=>by cases e;exact .str x
 |_,_,_,.exc ..,e=>by cases e
 |_,_,_,.tup h hs,e=>by
  obtain⟨c,a,rfl⟩:=omap (by simpa[toPy] using e);exact .tup h.sq<|Cy hs a
 |_,_,_,.lst h hs,e=>by
  obtain⟨c,a,rfl⟩:=omap (by simpa[toPy] using e);exact .lst h.sq<|Cy hs a
 |_,_,_,.dct _ _ _ _ _,e=>by cases e
 |_,_,_,.dcu _ _ _ _ _,e=>by cases e
 |_,_,_,.adr _,e=>by cases e
 |_,_,_,.odd _ _,e=>by cases e
 |_,_,_,.ins _ _ _ _ _ _,e=>by cases e
 |_,_,_,.dcf _ _ _ _,e=>by cases e
theorem Cy {G:Gx}{O:Zaa}{H:Hp}:∀{o:List V} {ds:List D} {ps:List xC},DVs G O H o ds->xY ds=some ps->Hd.DVs G.K H o ps
 |_,_,_,.nil,e=>by cases e;exact .nil
 |_,_,_,.cons (d:=d) (ds:=ds) h hs,e=>by
  unfold xY at e;cases a:toPy d with
  |none=>rw[a] at e;cases e
  |some p=>
   rw[a] at e;obtain⟨ps,b,rfl⟩:=omap e;exact .cons (Ri h a)<|Cy hs b
end
theorem uH {G:Gx}{O:Zaa}{H:Hp}{v:V}{d:D}{p:xC}(h:DW G O H v d)(e:toPy d=some p):Hd.DV G.K H v p:=Ri h.any e
noncomputable def uE (d e:D):Option Bool:=match toPy d,toPy e with
 |some p,some q=>if kc p=true/\kc q=true then some (l6 p q) else none
 |_,_=>none
def gEq:D->D->Option Bool
 | .int i,.int j=>some<|decide<|i=j
 | .str i,.str j=>some<|decide<|i=j
 | .bl i,.bl j=>some<|decide<|i=j
 | .non,.non=>some true
 |d,e=>uE d e
def gNe (d e:D):Option Bool:=(gEq d e).map (!·)
theorem zq {d e:D}{b:Bool}(h:uE d e=some b):∃p q,toPy d=some p/\toPy e=some q/\kc p=true/\kc q=true/\l6 p q=b:=by
 unfold uE at h;cases a:toPy d with
 |none=>rw[a] at h;cases h
 |some p=>
  cases c:toPy e with
  |none=>rw[a,c] at h;cases h
  |some q=>
   rw[a,c] at h;obtain⟨⟨g,f⟩,rfl⟩:=oif h;exact⟨p,q,rfl,rfl,g,f,rfl⟩
theorem Ha {d e:D}{b:Bool}(h:gEq d e=some b):(∃i j,d=.int i/\e=.int j/\b=decide (i=j))\/(∃i j,d=.str i/\e=.str j/\b=decide (i=j))\/(∃i j,d=.bl i/\e=.bl j/\b=decide (i=j))\/(d=.non/\e=.non/\b=true)\/uE d e=some b:=by
 unfold gEq at h;split at h
 ·cases h;exact .inl ⟨_,_,rfl,rfl,rfl⟩
 ·cases h;exact .inr<|.inl ⟨_,_,rfl,rfl,rfl⟩
 ·cases h;exact .inr<|.inr<|.inl ⟨_,_,rfl,rfl,rfl⟩
 ·cases h;exact .inr<|.inr<|.inr<|.inl ⟨rfl,rfl,rfl⟩
 ·exact .inr<|.inr<|.inr<|.inr h
theorem cZ (o:X.A.units+64<pk):OpR X (eM .Eq) (rGB (gx X) gEq):=by
 intro b s k H x y v u Q I c f h;obtain⟨O,d,e,r,m,g,a,n,q⟩:=h;rcases Ha n with⟨i,j,rfl,rfl,rfl⟩|⟨i,j,rfl,rfl,rfl⟩|⟨i,j,rfl,rfl,rfl⟩|⟨rfl,rfl,rfl⟩|h
 ·cases cI g;cases cI a;exact Qk b s k H _ _ v u Q I c f ⟨rfl,by simpa using q⟩
 ·cases kj g;cases kj a;exact Qk b s k H _ _ v u Q I c f ⟨rfl,by simpa using q⟩
 ·cases zU g;cases zU a;exact Qk b s k H _ _ v u Q I c f ⟨rfl,by simpa using q⟩
 ·cases tu g;cases tu a;exact Qk b s k H _ _ v u Q I c f ⟨rfl,by simpa using q⟩
 ·obtain⟨p,B,w,t,z,l,rfl⟩:=zq h;exact adX o b s k H x y v u Q I c f ⟨p,B,uH g w,uH a t,z,l,q⟩
theorem rN (o:X.A.units+64<pk):OpR X (eM .NotEq) (rGB (gx X) gNe):=by
 intro b s l H x y v u Q I f g h;obtain⟨O,d,e,r,m,k,a,t,q⟩:=h;obtain⟨c,B,rfl⟩:=omap t;rcases Ha B with⟨i,j,rfl,rfl,rfl⟩|⟨i,j,rfl,rfl,rfl⟩|⟨i,j,rfl,rfl,rfl⟩|⟨rfl,rfl,rfl⟩|h
 ·cases cI k;cases cI a;exact Rw b s l H _ _ v u Q I f g ⟨rfl,by simpa using q⟩
 ·cases kj k;cases kj a;exact Rw b s l H _ _ v u Q I f g ⟨rfl,by simpa using q⟩
 ·cases zU k;cases zU a;exact Rw b s l H _ _ v u Q I f g ⟨rfl,by simpa using q⟩
 ·cases tu k;cases tu a;exact Rw b s l H _ _ v u Q I f g ⟨rfl,by simpa using q⟩
 ·obtain⟨p,E,z,w,D,n,rfl⟩:=zq h;exact adf o b s l H x y v u Q I f g ⟨p,E,uH k z,uH a w,D,n,q⟩
noncomputable def MT:List D->Option (List Int)
 |[]=>some []
 | .int i::ds=>(MT ds).map (i::·)
 |_::_=>none
theorem QR {G:Gx}{O:Zaa}{H:Hp}:∀{C:List V} {ds:List D} {o:List Int},DVs G O H C ds->MT ds=some o->C=o.map V.int
 |_,_,_,.nil,e=>by cases e;rfl
 |_,_,_,.cons (d:=d) h hs,e=>by
  cases d with
  |int i=>
   obtain⟨o,a,rfl⟩:=omap (by simpa[MT] using e);cases h;rw[QR hs a];rfl
  |_=>cases e
noncomputable def gLt:D->D->Option Bool
 | .int i,.int j=>some<|decide<|i<j
 |_,_=>none
noncomputable def gGt:D->D->Option Bool
 | .int i,.int j=>some<|decide<|j<i
 |_,_=>none
noncomputable def gGe:D->D->Option Bool
 | .int i,.int j=>some<|decide<|j<=i
 |_,_=>none
theorem yK (o:X.A.units+64<pk):OpR X (eM .Lt) (rGB (gx X) gLt):=by
 intro c s l H x y v u Q I f g h;obtain⟨O,d,e,r,m,k,b,a,q⟩:=h;unfold gLt at a;split at a
 ·rename_i i j;cases a;exact afI c s l H x y v u Q I f g ⟨i,j,cI k,cI b,q⟩
 ·cases a
theorem yW:OpR X (eM .Gt) (rGB (gx X) gGt):=by
 intro c s l H x y v u Q I f g h;obtain⟨O,d,e,r,m,k,b,a,q⟩:=h
 match d,e,a with
 | .int i,.int j,a=>cases a;exact afg c s l H x y v u Q I f g ⟨i,j,cI k,cI b,q⟩
theorem Oh:OpR X (eM .GtE) (rGB (gx X) gGe):=by
 intro c s l H x y v u Q I f g h;obtain⟨O,d,e,r,m,k,b,a,q⟩:=h
 match d,e,a with
 | .int i,.int j,a=>cases a;exact afN c s l H x y v u Q I f g ⟨i,j,cI k,cI b,q⟩
def acb:D->Bool
 | .non=>true
 |_=>false
def gIs:D->D->Option Bool
 |d,.non=>some<|acb d
 | .bl i,.bl j=>some<|decide<|i=j
 |_,_=>none
def abL (d e:D):Option Bool:=(gIs d e).map (!·)
theorem V4 {G:Gx}{O:Zaa}{H:Hp}{v:V}{d:D}(h:DW G O H v d):decide (v=V.non)=acb d:=by
 rcases h with h|⟨a,rfl,_,h⟩
 ·cases h<;>rfl
 ·cases d<;>first|rfl|exact h.elim
theorem Yw:OpR X (eM .Is) (rGB (gx X) gIs):=by
 intro c s j H x y v u Q I f g h;obtain⟨O,d,e,r,m,i,b,a,q⟩:=h;unfold gIs at a;split at a
 ·cases a;exact acg c s j H x y v u Q I f g ⟨tu b,by rw[V4 i];exact q⟩
 ·cases a;cases zU i;cases zU b;exact ac3 c s j H _ _ v u Q I f g ⟨_,_,rfl,rfl,q⟩
 ·cases a
theorem Vm:OpR X (eM .IsNot) (rGB (gx X) abL):=by
 intro f s k H x y v u Q I g i h;obtain⟨O,d,e,r,m,j,b,l,q⟩:=h;obtain⟨c,a,rfl⟩:=omap l;unfold gIs at a;split at a
 ·cases a;exact abe f s k H x y v u Q I g i ⟨tu b,by rw[V4 j];exact q⟩
 ·cases a;cases zU j;cases zU b;exact Uu f s k H _ _ v u Q I g i ⟨_,_,rfl,rfl,q⟩
 ·cases a
end
end F
namespace L2
open PySem PySem.Spec PyProof.Rows
def Gp (h:Heap)(a:Addr)(n:Nat):Prop:=∃o b c,h.get? a=some o/\o.ExactDict/\o.data=.dict b c/\b.size=n
section
variable {prog:bE}{w:eI}{A:fm}{E:Zs}{s:aI}
theorem Gp.typeIs {d:Addr}{n:Nat}(C:Gp s.heap d n):s.TypeIs (.ref d) "dict":=by
 obtain⟨o,f,e,b,c,a,_⟩:=C;exact⟨o,b,c.1⟩
theorem Fe (d:Addr)(n:Nat)(hd:(d==eW)=false):MeetsIn prog w (sx.«dict.__len__» ⟨[.ref d],[]⟩) (λ_ R s=>Gp s.heap d n/\R (.ok<|.ret<|.int n s.toks) { s with toks:=s.toks+1 }):=
 .of_wp λA R s ⟨e,h⟩=>by
  obtain⟨o,g,f,c,i,a,b⟩:=e;show bt _ _ (dictSize d >>= _) _ _ s;unfold dictSize;refine ae<|ae<|gL c a<|af ?_;show bt _ _ (Builtin.Dict.pendingCount d >>= _) _ _ s;refine ae<|wpAny_pendingCount_other hd ?_;refine wpAny_ret_mkInt ?_;rw[BC,b];exact h
theorem Z6 {d:Addr}{n:Nat}{Q:Zs}(hd:(d==eW)=false)(o:Gp s.heap d n)(C:(n:Int)<2^63)
  (h:Q (.int n<|s.toks+1) { s with toks:=s.toks+1+1 }):bt (cx prog w) A (call (.builtin "len") [.ref d]) Q E s:=by
 refine Calls.call_function_entry kind_len plain_len entry_len (args_len1 _) ?_;unfold sx.«len»;refine ae<|af ?_;refine ae (gy o.typeIs zi
  (tw zi o.typeIs PySem.F.entry_dict_len (PySem.F.args_dict_len_1 _) (Fe d n hd) ⟨o,?_⟩))
 show bt _ _ _ _ _ { s with toks:=s.toks+1 };refine ae<|fF<|af ?_;refine ae<|wpAny_letGo ?_;show bt _ _ (if(n:Int)<0 then _ else _) _ _ _;rw[if_neg<|by lia];show bt _ _ (if(n:Int)≥2^63 then _ else _) _ _ _;rw[if_neg<|by lia];exact ae<|wpAny_mkInt<|af ⟨_,rfl,h⟩
theorem Ai {K : Type} [DecidableEq K] (knd : KeyKind prog w K) (d : Addr) (n : Nat) : MeetsIn prog w (sx.«dict.clear» ⟨[.ref d], []⟩) (λ_ R s => Gp s.heap d n ∧ n ≤ ai ∧
      ∀ h', h'.DictOf knd d [] → iX d s.heap h' → R (.ok (.ret .none)) { s with heap := h' }) :=
  .of_wp λA R s ⟨e, j, h⟩ => by
    obtain ⟨o, k, g, c, i, a, m⟩ := id e;have f : k.size ≤ ai := by lia
    unfold sx.«dict.clear»;refine ae ?_;unfold AL;refine ae (kD e.typeIs ?_);show bt _ _ (pure d) _ _ s;refine af ?_;refine ae (gL c a ?_);refine ae ?_;unfold bearsInstanceDictMark;refine ae (wpAny_load c (af ?_));refine ae (rS c a ?_);have b : (s.heap.update d (Obj.mapDictKeys λ_ => #[])).DictOf knd d [] :=
      ⟨_, _, g + 1, dE _ c (sA (jI a _)), i.mapDictKeys _, jI a _, λ_ l => by simp at l, Pairs.nil, qh⟩
    split
    · exact ae (wpAny_letGo (af ⟨.none, rfl, h _ b (eA ..)⟩))
    · exact ae (af (af ⟨.none, rfl, h _ b (eA ..)⟩))
end
section
variable {X:Cx}{A:fm}{E:Zs}{π:Zl}{σ:L2.St}{H:Hp}{s:aI}{a:Addr}{n:Nat}
theorem Vo (I:Inv X π σ H s)(e:H a=some (.odd n)):n<=ai/\(a==eW)=false/\Gp s.heap a n:=I.hok a _ e
theorem afP {Q:Zs}(I:Inv X π σ H s)(e:H a=some (.odd n))(h:∀t s',Inv X π σ H s'->Q (.int n t) s'):bt (cx X.prog X.w) A (call (.builtin "len") [.ref a]) Q E s:=by
 obtain⟨z,hd,b⟩:=Vo I e;exact Z6 hd b (by rw[so] at z;lia) (h _ _<|I.tok _)
theorem ZD {Q:Zs}(I:Inv X π σ H s)(e:H a=some (.odd n))(h:∀s',Inv X π σ (upd H a<|.dK []) s'->Q .none s'):bt (cx X.prog X.w) A (call (.builtin "dict.clear") [.ref a]) Q E s:=by
 obtain⟨z,hd,c⟩:=Vo I e;refine tw pd c.typeIs vE (tP _) (Ai (eF X.prog X.w) a n) ⟨c,z,λf b g=>h _ ?_⟩;have d:∃q,f.get? a=some q:=let⟨q,_,_,hq,_⟩:=b;⟨q,hq⟩
 exact mF (t':=s.toks) I (by rw[e];exact gu) g d<|zm (d5 _) hd .nil b
end
end L2
namespace F
open PySem PySem.Spec PyProof.Rows L2 Hd
section
variable {X:Cx}{E:XK}{e a b:Expr}{es:List Expr}{f fa:Zae}{fs:Zad}{pos p:Pos}
noncomputable def gIx:D->D->Option D
 | .lst ds,.int i=>atI ds i
 | .tup ds,.int i=>atI ds i
 | .str z,.int i=>if z.length<=ai then(atI z.cps.toList i).map λc=>.str ⟨#[c]⟩ else none
 |_,_=>none
theorem Qp {G:Gx}{O:Zaa}{H:Hp}{xs:List V}{ds:List D}{i:Int}{d:D}(h:DVs G O H xs ds)(e:atI ds i=some d):∃x,atI xs i=some x/\DV G O H x d:=by
 unfold atI at e ⊢;rw[cC h];cases q:ixN ds.length i with
 |none=>rw[q] at e;cases e
 |some j=>rw[q] at e;exact vN h e
theorem ahe:IxR X (rG (gx X) gIx):=by
 intro a b w s G H x y v u Q I A B h n;obtain⟨O,d,e,r,m,E,l,g,q⟩:=h
 match d,e,g with
 | .lst ds,.int i,g=>
  cases cI l;obtain⟨p,t,rfl,k,hd⟩:=lr E;obtain⟨z,j,F⟩:=Qp hd g;exact abk a b w s G H _ _ v u Q I A B ⟨p,t,i,z,rfl,rfl,k,j,q _ _ (aL.refl _) F⟩ n
 | .tup ds,.int i,g=>
  cases cI l;obtain⟨p,t,rfl,k,hd⟩:=Em E;obtain⟨z,j,F⟩:=Qp hd g;exact acy a b w s G H _ _ v u Q I A B ⟨p,t,i,z,rfl,rfl,k,j,q _ _ (aL.refl _) F⟩ n
 | .str z,.int i,g=>
  cases cI l;cases kj E;have f:(if z.length<=ai then(atI z.cps.toList i).map λc=>D.str ⟨#[c]⟩ else none)=some r:=g;by_cases j:z.length<=ai
  ·rw[if_pos j] at f;obtain⟨c,K,rfl⟩:=omap f;exact adz a b w s G H _ _ v u Q I A B ⟨z,i,c,rfl,rfl,j,K,q _ _ (aL.refl _)<|.str _⟩ n
  ·rw[if_neg j] at f;cases f
def tO (G:Gx)(E:XK)(f:Me->Res (Option Int)):TO:=λb H Q=>∃a M0 H0 ow m,Rel G a M0 H0 ow b H m/\Pu G E (f m) H λo=>∀H',aL H H'->Q o H'
abbrev FO (X:Cx)(E:XK)(e:Option Expr)(f:Me->Res (Option Int)):Prop:=PO X e<|tO (gx X) E f
theorem Rq {e:Option Expr}{T C:TO}(h:PO X e T)(k:∀o H Q,C o H Q->T o H Q):PO X e C:=λa s o H Q I q=>h a s o H Q I<|k o H Q q
noncomputable def fO0:Me->Res (Option Int):=λ_=>.ok none
noncomputable def fO1 (f:Zae):Me->Res (Option Int):=λm=>(f m).bind λd=>match d with
 | .int i=>.ok<|some i
 |_=>.stuck
theorem Be:FO X E none fO0:=Rq aax λb H Q a=>xq5 a λc M0 H0 ow m R q=>q H<|aL.refl _
theorem uP (h:FB X E e f):FO X E (some e) (fO1 f):=Rq (Z7 h) λj H Q b=>xq5 b λa M0 H0 ow m R q=>⟨a,M0,H0,ow,m,R,q.bind.imp (aL.refl _) λd q v H' g c=>by
 cases d with
 |int i=>cases cI c;exact⟨i,rfl,q H' g⟩
 |_=>exact q.elim⟩
def cut {o:Type}(xs:List o)(lo C:Option Int):List o:=(xs.drop<|HT.sIx xs.length 0 lo).take<|HT.sIx xs.length xs.length C-HT.sIx xs.length 0 lo
def gSl:D->Option Int->Option Int->Option D
 | .lst ds,lo,hi=>some<|.lst<|cut ds lo hi
 | .tup ds,lo,hi=>if HT.sIx ds.length 0 lo=0/\HT.sIx ds.length ds.length hi=ds.length then none else some (.tup<|cut ds lo hi)
 | .str z,lo,hi=>if z.length<=ai then some (.str<|zk z lo hi) else none
 |_,_,_=>none
def rSl (G:Gx):V->Option Int->Option Int->Hp->VK->Prop:=λx c a H Q=>∃O d r,(∀b,O b->ik (H b))/\DW G O H x d/\gSl d c a=some r/\∀v H',aL H H'->DV G O H' v r->Q v H'
noncomputable def agG:D->Option Int->Option Int->Option D
 | .lst ds,lo,hi=>some<|.lst<|cut ds lo hi
 |_,_,_=>none
def ahc (G:Gx):V->Option Int->Option Int->Hp->VK->Prop:=λx c a H Q=>∃O d r,(∀b,O b->ik (H b))/\DW G O H x d/\agG d c a=some r/\∀p H',aL H H'->H p=none->OV G (Op O p) H' p r->Q (.ref p) H'
theorem Qg {G:Gx}{O:Zaa}{H:Hp}{xs:List V}{ds:List D}{lo o:Option Int}(h:DVs G O H xs ds):DVs G O H (Uk xs lo o) (cut ds lo o):=by
 unfold Uk cut;rw[cC h];exact Dg _<|KH _ h
theorem aeE:SlR X (ahc<|gx X):=by
 intro n s A H x v y B g f l Q I t j w pu h;obtain⟨O,d,r,m,u,c,q⟩:=h
 match d,c with
 | .lst ds,c=>
  cases c;obtain⟨p,k,rfl,i,hd⟩:=lr u;exact abv n s A H _ v y B g f l Q I t j w pu ⟨p,k,rfl,i,λp a=>q p _ (bH a _) a ⟨_,aX,((Qg hd).bQ λb z=>z.elim .inl λe=>.inr (by rw[e];exact a)).mono<|bH a _⟩⟩
theorem VB {u:ax}{o:Option Int}(h:BF u o):∃l:Option (Int×Tok),u=partValue l/\l.map (·.1)=o:=by
 cases h with
 |none=>exact⟨none,rfl,rfl⟩
 |int i t=>exact⟨some (i,t),rfl,rfl⟩
theorem agF:SlR X (rSl<|gx X):=by
 intro y s B H x v A E e c w Q I i g n pu h;obtain⟨O,d,r,m,j,b,q⟩:=h
 match d,b with
 | .lst ds,b=>exact aeE y s B H x v A E e c w Q I i g n pu ⟨O,.lst ds,r,m,j,b,YT m q⟩
 | .tup ds,b=>
  obtain⟨p,K,rfl,G,hd⟩:=Em j;have a:(if HT.sIx ds.length 0 e=0/\HT.sIx ds.length ds.length c=ds.length then none else some (D.tup<|cut ds e c))=some r:=b;by_cases z:HT.sIx ds.length 0 e=0/\HT.sIx ds.length ds.length c=ds.length
  ·rw[if_pos z] at a;cases a
  ·rw[if_neg z] at a;cases a;exact ac1 y s B H _ v A E e c w Q I i g n pu ⟨p,K,rfl,G,by rw[cC hd];exact z,λp f=>q _ _ (bH f _)<|.tup (SqU.of aX)<|(Qg hd).mono<|bH f _⟩
 | .str z,b=>
  cases kj j;obtain⟨t,rfl⟩:=i;obtain⟨L,rfl⟩:=oif b;obtain⟨l,rfl,rfl⟩:=VB n;obtain⟨u,rfl,rfl⟩:=VB pu;refine⟨"str",_,PySem.F.slot_str_getitem.lookup,vv _ _ _,wpAny_getItem_str_slice (l:=l) (u:=u) (st:=none) g rfl<|post_val_or_str ⟨hV (Txt.slice_le z _ _) L,λM k=>Ru (tk:=k) I q⟩⟩
def fSl (f:Zae)(lo o:Me->Res (Option Int)):Zae:=λm=>(f m).bind λd=>(lo m).bind λl=>(o m).bind λu=>ofO<|gSl d l u
variable {lo hi:Option Expr}{fl fh:Me->Res (Option Int)}{p2:Pos}
theorem ur (I:FB X E e f)(o:FO X E lo fl)(C:FO X E hi fh):FE X E (.Subscript e (.Slice lo hi none p2) pos) (fSl f fl fh):=
 bJ (YG agF I o C) λw H Q n=>xq5 n λc M0 H0 ow m R q=>⟨c,M0,H0,ow,m,R,q.bind.imp (aL.refl _) λd q v s a i=>⟨c,M0,H0,ow,m,R.mono a,q.bind.imp a λl q p b=>⟨c,M0,H0,ow,m,R.mono<|a.trans b,q.bind.imp (a.trans b) λu q t h=>by
  obtain⟨r,j,k⟩:=q.ofO;exact⟨_,d,r,(R.mono<|(a.trans b).trans h).mutk,i.mono<|b.trans h,j,λv H' g d=>k v H' (((a.trans b).trans h).trans g) d⟩⟩⟩⟩
noncomputable def cP:List D->Option D
 |[.lst ds]=>some<|.int ds.length
 |[.tup ds]=>some<|.int ds.length
 |[.str z]=>if z.length<=ai then some (.int z.length) else none
 |[.dct ks _]=>some<|.int ks.length
 |[.odd n]=>some<|.int n
 |_=>none
theorem uT {G:Gx}{O:Zaa}{H:Hp}{o:List V}{d:D}(h:DWs G O H o [d]):∃v,o=[v]/\DW G O H v d:=by
 cases h with
 |cons a t=>cases t;exact⟨_,rfl,a⟩
theorem Um:gU X (.builtin "len") (λxs H Q=>∃a ι,xs=[V.ref a]/\Rd H a (.dK ι)/\Q (.int ι.length) H):=by
 intro g s i H xs f Q I r h;obtain⟨a,ι,rfl,e,q⟩:=h;obtain⟨u,rfl,b⟩:=vals1 r;cases b;exact aeF I e λt d c=>⟨.int ι.length,H,c,⟨t,rfl⟩,q⟩
theorem Uy:gU X (.builtin "len") (λxs H Q=>∃a n,xs=[V.ref a]/\H a=some (.odd n)/\Q (.int n) H):=by
 intro g s i H xs f Q I r h;obtain⟨a,n,rfl,e,q⟩:=h;obtain⟨u,rfl,b⟩:=vals1 r;cases b;exact afP I e λt d c=>⟨.int n,H,c,⟨t,rfl⟩,q⟩
theorem ad4 {G:Gx}{O:Zaa}{H:Hp}{v:V}{n:Nat}(h:DW G O H v (.odd n)):∃a,v=.ref a/\H a=some (.odd n):=by
 rcases h with h|⟨a,e,_,h⟩
 ·cases h with
  |odd _ e=>exact⟨_,rfl,e⟩
 ·exact⟨a,e,h⟩
theorem cH:gU X (.builtin "len") (rGC (gx X) cP):=by
 intro i s k H l g Q I r h;obtain⟨O,t,d,m,j,b,q⟩:=h
 match t,b with
 |[.lst t],b=>
  cases b;obtain⟨v,rfl,c⟩:=uT j;obtain⟨p,l,rfl,f,hd⟩:=lr c;exact yh i s k H _ g Q I r ⟨p,l,rfl,.inl f,by rw[cC hd];exact q _ _ (aL.refl _)<|.int _⟩
 |[.tup t],b=>
  cases b;obtain⟨v,rfl,c⟩:=uT j;obtain⟨p,l,rfl,f,hd⟩:=Em c;exact yh i s k H _ g Q I r ⟨p,l,rfl,.inr f,by rw[cC hd];exact q _ _ (aL.refl _)<|.int _⟩
 |[.str z],b=>
  obtain⟨x,rfl⟩:=oif b;obtain⟨v,rfl,c⟩:=uT j;cases kj c;exact Jk i s k H _ g Q I r ⟨z,rfl,x,q _ _ (aL.refl _)<|.int _⟩
 |[.dct ks vs],b=>
  cases b;obtain⟨v,rfl,c⟩:=uT j;obtain⟨p,u,y,rfl,f,w,A,hd⟩:=sX c;exact Um i s k H _ g Q I r ⟨p,u,rfl,f,by rw[show u.length=ks.length by rw[← w,a6]];exact q _ _ (aL.refl _)<|.int _⟩
 |[.odd n],b=>
  cases b;obtain⟨v,rfl,c⟩:=uT j;obtain⟨a,rfl,e⟩:=ad4 c;exact Uy i s k H _ g Q I r ⟨a,n,rfl,e,q _ _ (aL.refl _)<|.int _⟩
noncomputable def Ub:List D->Option D
 |[.int i]=>some<|.int<|if i<0 then -i else i
 |_=>none
theorem yx:gU X (.builtin "abs") (rGC (gx X) Ub):=by
 intro e s j H k c Q I r h;obtain⟨O,f,d,m,g,a,q⟩:=h
 match f,a with
 |[.int i],a=>
  cases a;obtain⟨v,rfl,b⟩:=uT g;cases cI b;exact XN e s j H _ c Q I r ⟨i,rfl,q _ _ (aL.refl _)<|.int _⟩
def Vw:List D->Option D
 |[.int i]=>if i.natAbs.log2<1920 then some (.str (toString i:String)) else none
 |_=>none
theorem TX:gU X (.type "str") (rGC (gx X) Vw):=by
 intro e s k H l c Q I r h;obtain⟨O,f,d,m,j,a,q⟩:=h
 match f,a with
 |[.int i],a=>
  obtain⟨g,rfl⟩:=oif a;obtain⟨v,rfl,b⟩:=uT j;cases cI b;exact HJ e s k H _ c Q I r ⟨i,rfl,g,q _ _ (aL.refl _)<|.str _⟩
noncomputable def eU:List D->Option D
 |[.lst ds]=>some<|.tup ds
 |[.tup ds]=>some<|.tup ds
 |_=>none
theorem fJ:gU X (.type "tuple") (rGC (gx X) eU):=by
 intro j s n H c i Q I r h;obtain⟨O,f,d,m,k,a,q⟩:=h
 match f,a with
 |[.lst f],a=>
  cases a;obtain⟨v,rfl,e⟩:=uT k;obtain⟨p,c,rfl,b,hd⟩:=lr e;exact vm j s n H _ i Q I r ⟨p,c,rfl,.inl ⟨b,λl g=>q _ _ (bH g _)<|.tup (SqU.of aX)<|hd.mono<|bH g _⟩⟩
 |[.tup f],a=>
  cases a;obtain⟨v,rfl,e⟩:=uT k;obtain⟨p,c,rfl,b,hd⟩:=xu e;exact vm j s n H _ i Q I r ⟨p,c,rfl,.inr ⟨b.sq,q _ _ (aL.refl _)<|.tup b hd⟩⟩
noncomputable def qK:List D->Option D
 |[.lst ds]=>some<|.lst ds
 |[.tup ds]=>some<|.lst ds
 |_=>none
theorem oR:gU X (.type "list") (aaj (gx X) qK):=by
 intro t s x H n j Q I r h;obtain⟨O,a,d,m,u,f,q⟩:=h;have go:∀{p:Addr} {k:List V} {a:List D},(SqL X.K H p k\/SqT X.K H p k)->DVs (gx X) O H k a->(∀p H',aL H H'->H p=none->OV (gx X) (Op O p) H' p (.lst a)->Q (.ref p) H')->Vals [V.ref p] j->bt (cx X.prog X.w) X.A (call (.type "list") j) (EP X t x Q) X.xe s:=
  λc hd q r=>Jv t s x H _ j Q I r ⟨_,_,rfl,c,λl g=>q _ _ (bH g _) g ⟨_,aX,(hd.bQ λb z=>z.elim .inl λe=>.inr (by rw[e];exact g)).mono<|bH g _⟩⟩
 match a,f with
 |[.lst a],f=>
  cases f;obtain⟨v,rfl,i⟩:=uT u;obtain⟨p,n,rfl,c,hd⟩:=lr i;exact go (.inl c) hd q r
 |[.tup a],f=>
  cases f;obtain⟨v,rfl,i⟩:=uT u;obtain⟨p,n,rfl,c,hd⟩:=Em i;exact go (.inr c) hd q r
noncomputable def eE:D->String
 | .non=>"NoneType"
 | .bl _=>"bool"
 | .int _=>"int"
 | .str _=>"str"
 | .tup _=>"tuple"
 | .lst _=>"list"
 | .dct _ _=>"dict"
 | .dcu _ _=>"dict"
 | .odd _=>"dict"
 | .exc _ _ _=>""
 | .dcf _ _=>""
 | .adr _=>""
 | .ins _ _ _=>""
noncomputable def SQ (t T:String):Bool:=t==T||(t=="bool" && T=="int")
noncomputable def kinds:List String:=["NoneType", "bool", "int", "str", "tuple", "list", "dict"]
theorem abp {K:bo}{t:String}:fw K (.type t) (.type t)=some true:=by unfold fw;rw[if_pos<|by simp]
theorem ZZ {K:bo}:∀t∈kinds,∀T∈kinds,fw K (.type t) (.type T)=some (SQ t T):=by
 intro t b T a;simp only[kinds,a9,List.not_mem_nil,or_false] at b a;rcases b with rfl|rfl|rfl|rfl|rfl|rfl|rfl<;>rcases a with rfl|rfl|rfl|rfl|rfl|rfl|rfl<;>first|exact abp|kernel_rfl
theorem X4 {G:Gx}{O:Zaa}{H:Hp}{v:V}{d:D}(h:DW G O H v d)(n:eE d≠""):eE d∈kinds/\TyK G.K H v (.type<|eE d):=by
 have z:=h.any;cases z with
 |non=>exact⟨by simp[eE,kinds],.of .non⟩
 |bl b=>exact⟨by simp[eE,kinds],.of<|.bl b⟩
 |int b=>exact⟨by simp[eE,kinds],.of<|.int b⟩
 |str b=>exact⟨by simp[eE,kinds],.of<|.str b⟩
 |exc _ _=>exact absurd rfl n
 |dcf _ _ _ _=>exact absurd rfl n
 |adr _=>exact absurd rfl n
 |ins _ _ _ _ _ _=>exact absurd rfl n
 |tup hq _=>exact⟨by simp[eE,kinds],.tup hq.sq⟩
 |lst hq _=>exact⟨by simp[eE,kinds],.lst hq.sq⟩
 |dct _ e _ _ _=>exact⟨by simp[eE,kinds],.of<|.dK e⟩
 |dcu _ e _ _ _=>exact⟨by simp[eE,kinds],.of<|.dT e⟩
 |odd _ e=>exact⟨by simp[eE,kinds],.of<|.odd e⟩
def ig (T:String)(f:Zae):Zae:=λm=>(f m).bind λd=>if eE d = "" then .stuck else .ok (.bl<|SQ (eE d) T)
theorem mW {x y:Str}{o:Pos}{T:String}(ha:FB X E a fa)(hg:Gl X "isinstance")(hm:X.mg "isinstance" = none)(I:bP "isinstance" = some (.builtin "isinstance"))(U:Gl X y)(J:X.mg y=none)(hvy:bP y=some (.type T))(hT:T∈kinds:=by decide)
  (hny:y≠"__name__":=by decide) (hdy:(y==("__debug__":Str))=false:=by decide)
  (he:ag [a,.Name y o] X.env=(false,eval a X.env)::ag [.Name y o] X.env:=by rfl) (C:ag [.Name y o] X.env=(false,eval (.Name y o) X.env)::ag [] X.env:=by rfl) (ξ:(iE pos<|ag [.Name y o] X.env).any (·.1)=false:=by rfl):
  FE X E (.Call (.Name "isinstance" p) [a,.Name y o] [] pos) (ig T fa):=
 bJ (uo Ux hg hm I (cL ha (cL (QC (v:=.ty T) U J hvy rfl hny hdy) jh C) he) (by decide) (by decide) he ξ) λh H Q e=>xq5 e λb M0 H0 ow m R q=>⟨b,M0,H0,ow,m,R,q.bind.imp (aL.refl _) λd q v H' g I=>by
  by_cases n:eE d = ""
  ·rw[if_pos n] at q;exact q.elim
  ·rw[if_neg n] at q;obtain⟨c,f⟩:=X4 I n;exact⟨v,.ty T,_,_,_,rfl,rfl,f,ZZ _ c T hT,q _ _ g<|.bl _⟩⟩
end
section
theorem dF.chg (R:dF G O0 M0 H0 ow σ H m)(C:ow i=some a)(g:Kp (· = a) H H')(h:OV G (Ow O0 ow) H' a d')
  (I:(m[i]? = some (.ow d)/\s'=.ow d')\/(m[i]? = some (.io d)/\s'=.io d')):dF G O0 M0 H0 ow σ H' (m.set i s'):=by
 have E:Ow O0 ow a:=.inr ⟨i,C⟩;have kp:Kp (Ow O0 ow) H H':=λb u e n=>g b u e λz=>n<|z▸E;have A:i<m.length:=by rcases I with⟨e,_⟩|⟨e,_⟩<;>exact rR e
 have p:∀b o,H b=some o->b≠a->H' b=H b:=λb o e n=>by rw[e];exact g b o e n
 refine⟨⟨by simp[R.len],λb u e n=>?_,λb z=>?_,λb z=>?_,R.no0,R.inj,λj B=>R.out j (by simpa using B),λj s e=>?_⟩,yo R.nb λ_ z=>by rcases I with⟨_,w⟩|⟨_,w⟩<;>(rw[w] at z;cases z)⟩
 ·refine g b u (R.keep b u e n) λz=>?_;subst z;rcases I with⟨q,_⟩|⟨q,_⟩
  ·obtain⟨t,k,l,_⟩:=R.slot i _ q;rw[C] at k;cases k;rw[l] at e;cases e
  ·obtain⟨t,k,l,_⟩:=R.slot i _ q;rw[C] at k;cases k;exact n l
 ·by_cases q:b=a
  ·rw[q]
   have:=h.mut
   intro w;rw[w] at this;rcases this with⟨_,e⟩|⟨_,e⟩|⟨_,e⟩|⟨_,e⟩|⟨_,e⟩<;>cases e
  ·cases w:H b with
   |none=>exact absurd w (R.m0 b z)
   |some o=>rw[g b o w q];simp
 ·by_cases q:b=a
  ·rw[q];exact h.mut
  ·have:=R.mutk b z
   rcases this with⟨_,e⟩|⟨_,e⟩|⟨_,e⟩|⟨_,e⟩|⟨_,e⟩
   ·rw[p b _ e q];exact .inl ⟨_,e⟩
   ·rw[p b _ e q];exact .inr<|.inl ⟨_,e⟩
   ·rw[p b _ e q];exact .inr<|.inr<|.inl ⟨_,e⟩
   ·rw[p b _ e q];exact .inr<|.inr<|.inr<|.inl ⟨_,e⟩
   ·rw[p b _ e q];exact .inr<|.inr<|.inr<|.inr ⟨_,e⟩
 ·by_cases q:j=i
  ·subst q;rw[aT A] at e;cases e;rcases I with⟨q,rfl⟩|⟨q,rfl⟩
   ·refine zE (R.slot j _ q) λt k l v _=>?_;rw[C] at k;cases k;exact⟨a,C,l,v,h⟩
   ·refine zE (R.slot j _ q) λt k l v _=>?_;rw[C] at k;cases k;exact⟨a,C,l,v,h⟩
  ·rw[a0<|eC q] at e;have z:=R.slot j s e;have c:∀{b:Addr} {d:D},ow j=some b->OV G (Ow O0 ow) H b d->OV G (Ow O0 ow) H' b d:=λ{b d} k y=>by
    have F:b≠a:=λw=>q<|R.inj j i b k<|w▸C;rcases y.mut with⟨_,e⟩|⟨_,e⟩|⟨_,e⟩|⟨_,e⟩|⟨_,e⟩<;>exact y.kp R.mutk kp (p b _ e F)
   cases s with
   |un=>exact z
   |fz d=>obtain⟨b,x,e,q⟩:=z;exact⟨b,x,e,q.kp R.mutk kp⟩
   |ow d=>obtain⟨b,x,e,f,r⟩:=z;exact⟨b,x,e,f,c x r⟩
   |io d=>obtain⟨b,x,e,f,r⟩:=z;exact⟨b,x,e,f,c x r⟩
   |bw d=>exact(R.nb j d e).elim
   |hd w b d=>obtain⟨x,e,f,r⟩:=z;exact⟨x,e,f,c x r⟩
theorem Go.chg (C:ow i=some a)(g:Kp (· = a) H H')(h:OV G (Ow O0 ow) H' a d):Go O0 ow H ow H':=
 ⟨λb u e n=>g b u e λz=>n<|z▸.inr ⟨i,C⟩,λj b e=>.inl<|.inr ⟨j,e⟩,λb n=>by
  by_cases q:b=a
  ·rw[q]
   have:=h.mut
   intro w;rw[w] at this;rcases this with⟨_,e⟩|⟨_,e⟩|⟨_,e⟩|⟨_,e⟩|⟨_,e⟩<;>cases e
  ·cases w:H b with
   |none=>exact absurd w n
   |some o=>rw[g b o w q];simp⟩
theorem jJ:Kp (· = a) H (L2.upd H a o):=λb u e n=>by rw[L2.cB n];exact e
noncomputable def jY (m:Me)(i:Nat):Option (Bool×List D):=match m[i]? with
 |some (.ow<|.lst ds)=>some (true,ds)
 |some (.io<|.lst ds)=>some (false,ds)
 |_=>none
noncomputable def putL (m:Me)(i:Nat)(k:Bool)(ds:List D):Me:=m.set i<|if k then .ow (.lst ds) else .io (.lst ds)
theorem rH (R:Rel G O0 M0 H0 ow σ H m){i:Nat}{k:Bool}{ds:List D}(e:jY m i=some (k,ds)):∃a xs,ow i=some a/\σ[i]? = some (some<|.ref a)/\H a=some (.lst xs)/\DVs G (Ow O0 ow) H xs ds/\((m[i]? = some (.ow<|.lst ds)/\k=true)\/(m[i]? = some (.io<|.lst ds)/\k=false)):=by
 unfold jY at e;split at e
 ·rename_i q;cases e;obtain⟨a,b,g,d,xs,c,f⟩:=R.slot i _ q;exact⟨a,xs,b,d,c,f,.inl ⟨q,rfl⟩⟩
 ·rename_i q;cases e;obtain⟨a,b,g,d,xs,c,f⟩:=R.slot i _ q;exact⟨a,xs,b,d,c,f,.inr ⟨q,rfl⟩⟩
 ·cases e
theorem dF.put (R:dF G O0 M0 H0 ow σ H m)(o:ow i=some a)(C:(m[i]? = some (.ow<|.lst ds)/\k=true)\/(m[i]? = some (.io<|.lst ds)/\k=false))(hd:DVs G (Ow O0 ow) H ys es):
  dF G O0 M0 H0 ow σ (L2.upd H a<|.lst ys) (putL m i k es)/\Go O0 ow H ow (L2.upd H a<|.lst ys):=by
 have f:Ow O0 ow a:=.inr ⟨i,o⟩;have kp:Kp (Ow O0 ow) H (L2.upd H a<|.lst ys):=λb u e n=>jJ b u e λz=>n<|z▸f;have c:OV G (Ow O0 ow) (L2.upd H a<|.lst ys) a (.lst es):=⟨ys,L2.aX,hd.kp R.mutk kp⟩;refine⟨R.chg (d:=.lst ds) (d':=.lst es) o jJ c ?_,Go.chg o jJ c⟩;rcases C with⟨e,rfl⟩|⟨e,rfl⟩
 ·exact .inl ⟨e,rfl⟩
 ·exact .inr ⟨e,rfl⟩
end
section
def dh (i:Nat)(f:Zae):Zab:=λm=>(ofO<|jY m i).bind λo=>(f m).bind λd=>if o.2.length<ai then .ok (.nx,putL m i o.1<|o.2++[d]) else .stuck
theorem iU (i:Nat)(he:FE X E e f)(hN:X.N[i]? = some x:=by rfl)(I:Vis X.env.scope x:=by simp_wf)(hd:(x==("__debug__":Str))=false:=by decide)(J:(x==("__classdict__":Str))=false:=by decide)
  (θ:gE (.Name x np) "append" X.env (eval (.Name x np) X.env)=eval (.Name x np) X.env:=by rfl)
  (ψ:((iE η<|ag [e] X.env).all (λx=>!x.1)&&(tm η<|md [] X.env).all (λx=>x.1.isSome)&&decide ([e].length+([]:List me).length+(if([]:List me).isEmpty then 0 else 1)<30))=true:=by rfl)
  (ζ:(apos.endLine==η.line)=true:=by rfl) (U:ag [e] X.env=(false,eval e X.env)::ag [] X.env:=by rfl) (C:(iE η<|ag [] X.env).any (·.1)=false:=by rfl)
  (τ:d4 (.Call (.Attribute (.Name x np) "append" apos) [e] [] η) none pos.line X.env=pure false:=by rfl):
  FS X E (.Expr (.Call (.Attribute (.Name x np) "append" apos) [e] [] η) pos) (dh i f):=
 bW (pW (FZ jS vS vT yG (iZ hN I hd J) (cL he jh U) θ ψ ζ U C) τ) λW A H r=>xq5 r λt M0 H0 ow m R q=>by
  obtain⟨o,l,q⟩:=Ss.ofO q;obtain⟨k,y⟩:=o;refine uV (rH R.toRel l) λa h w p j g n=>?_;refine⟨_,p,.inl ⟨rfl,h,SqL.of j⟩,t,M0,H0,ow,m,R.toRel,(Ss.pu R.toRel q).imp (aL.refl _) λd q v z b I=>?_⟩;have s:=R.mono b;by_cases c:y.length<ai
  ·rw[if_pos c] at q;obtain⟨R2,u⟩:=s.put w n<|lu (g.mono b)<|.cons I .nil;exact⟨a,h,v,rfl,rfl,b _ _ j,by rw[cC g];exact c,q _ _ _ R2<|(Go.refl b).trans u⟩
  ·rw[if_neg c] at q;exact q.elim
def Jj (i:Nat)(f:Zae):Zab:=λm=>(ofO<|jY m i).bind λo=>(f m).bind λd=>match d with
 | .lst es=>if o.2.length+es.length<=ai then .ok (.nx,putL m i o.1<|o.2++es) else .stuck
 |_=>.stuck
theorem Tv (i:Nat)(he:FN X E e f)(hN:X.N[i]? = some x:=by rfl)(I:Vis X.env.scope x:=by simp_wf)(hd:(x==("__debug__":Str))=false:=by decide)(J:(x==("__classdict__":Str))=false:=by decide)
  (θ:gE (.Name x np) "extend" X.env (eval (.Name x np) X.env)=eval (.Name x np) X.env:=by rfl)
  (ψ:((iE η<|ag [e] X.env).all (λx=>!x.1)&&(tm η<|md [] X.env).all (λx=>x.1.isSome)&&decide ([e].length+([]:List me).length+(if([]:List me).isEmpty then 0 else 1)<30))=true:=by rfl)
  (ζ:(apos.endLine==η.line)=true:=by rfl) (U:ag [e] X.env=(false,eval e X.env)::ag [] X.env:=by rfl) (C:(iE η<|ag [] X.env).any (·.1)=false:=by rfl)
  (τ:d4 (.Call (.Attribute (.Name x np) "extend" apos) [e] [] η) none pos.line X.env=pure false:=by rfl):
  FS X E (.Expr (.Call (.Attribute (.Name x np) "extend" apos) [e] [] η) pos) (Jj i f):=
 bW (pW (FZ jS PySem.F.slot_list_extend PySem.F.type_list_extend Ud (iZ hN I hd J) (cL he jh U) θ ψ ζ U C) τ) λW O H B=>xq5 B λv M0 H0 ow m R q=>by
  obtain⟨o,w,q⟩:=Ss.ofO q;obtain⟨k,j⟩:=o;refine uV (rH R.toRel w) λa h L A u s y=>?_;refine⟨_,A,.inl ⟨rfl,h,SqL.of u⟩,v,M0,H0,ow,m,R.toRel,(Ss.pu R.toRel q).imp (aL.refl _) λd q p M c n I=>?_⟩;have G:=R.mono c;cases d with
  |lst es=>
   have q:Ss (gx X) E v M0 H0 ow H W (if j.length+es.length<=ai then .ok (.nx,putL m i k<|j++es) else .stuck):=q;obtain⟨t,D,r⟩:=I;by_cases l:j.length+es.length<=ai
   ·rw[if_pos l] at q;have g:=r.bQ λb z=>.inl<|.inl z;obtain⟨R2,K⟩:=G.put (ys:=h++t) L y<|lu (s.mono c) g;exact⟨a,p,h,t,rfl,rfl,c _ _ u,D,by rw[cC s,cC r];exact l,q _ _ _ R2<|(Go.refl c).trans K⟩
   ·rw[if_neg l] at q;exact q.elim
  |_=>exact q.elim
def Ju (j i:Nat):Zab:=λm=>(ofO<|jY m i).bind λo=>(ofO<|o.2[o.2.length-1]?).bind λd=>.ok (.nx,(putL m i o.1 o.2.dropLast).set j<|.fz d)
theorem wF (h:DVs G O H xs ds):DVs G O H xs.dropLast ds.dropLast:=by
 rw[zo,zo,cC h];exact Dg _ h
theorem S8 (j i:Nat)(J:X.N.Nodup)(hj:X.N[j]? = some y)(hy:Loc X.env.scope y)(hN:X.N[i]? = some x:=by rfl)(C:Vis X.env.scope x:=by simp_wf)(hd:(x==("__debug__":Str))=false:=by decide)(I:(x==("__classdict__":Str))=false:=by decide)
  (θ:gE (.Name x np) "pop" X.env (eval (.Name x np) X.env)=eval (.Name x np) X.env:=by rfl) (ζ:(apos.endLine==η.line)=true:=by rfl) {U:Pos}
  (τ:d4 (.Call (.Attribute (.Name x np) "pop" apos) [] [] η) (some<|.Name y U) pos.line X.env=pure false:=by rfl) (hf:X.fn y=true\/X.env.scope.names.lookup y=some .local:=by clean_wf):
  FS X E (.Assign [.Name y U] (.Call (.Attribute (.Name x np) "pop" apos) [] [] η) pos) (Ju j i):=
 bW (wD J hj hy (Ib jS zt zv Wa (iZ hN C hd I) θ ζ) τ hf) λW w H s=>xq5 s λt M0 H0 ow m R q=>by
  obtain⟨o,l,q⟩:=Ss.ofO q;obtain⟨k,u⟩:=o;obtain⟨d,e,q⟩:=Ss.ofO q;refine uV (rH R.toRel l) λa h r p f b n=>?_;obtain⟨v,C,dv⟩:=vN b e;obtain⟨R2,g⟩:=R.put r n<|wF b;have c:=dv.go R.mutk g.ev;exact⟨_,p,.inl ⟨rfl,h,SqL.of f⟩,a,h,v,rfl,rfl,f,by rw[cC b];exact C,q _ _ _ (R2.set c)<|g.trans Go.set⟩
def fD (i:Nat)(fk fv:Zae):Zab:=λm=>(fv m).bind λd=>(ofO<|jY m i).bind λo=>(fk m).bind λk=>match k with
 | .int n=>(ofO<|ixN o.2.length n).bind λj=>.ok (.nx,putL m i o.1<|o.2.set j d)
 |_=>.stuck
end
def Xs (G:Gx)(E:XK){o:Type}(O0 M0:Zaa)(H0:Hp)(ow:Os)(I:L2.St)(H:Hp)(r:Res (o×Me))(k:o->Hp->Prop):Prop:=match r with
 | .ok (a,m')=>∀H',dF G O0 M0 H0 ow I H' m'->Go O0 ow H ow H'->k a H'
 | .exc c=>∀C H',XP G H' c C->Kp M0 H0 H'->E (.ref C.1) C.2 H'
 | .stuck=>False
def tX (G:Gx)(E:XK)(f:Me->Res (D×Me)):TE:=λb H Q=>∃a M0 H0 ow m,dF G a M0 H0 ow b H m/\Xs G E a M0 H0 ow b H (f m) λd H'=>∀v,DV G (Ow a ow) H' v d->Q v H'
def tXA (G:Gx)(E:XK)(f:Me->Res (List D×Me)):TA:=λc H Q=>∃a M0 H0 ow m,dF G a M0 H0 ow c H m/\Xs G E a M0 H0 ow c H (f m) λd H'=>∀b,DVs G (Ow a ow) H' b d->Q b H'
abbrev FX (X:Cx)(E:XK)(e:Expr)(f:Me->Res (D×Me)):Prop:=PE X e<|tX (gx X) E f
abbrev FXA (X:Cx)(E:XK)(es:List Expr)(f:Me->Res (List D×Me)):Prop:=PA X es<|tXA (gx X) E f
section
variable {G:Gx}{E:XK}{O0 M0:Zaa}{H0 H H1:Hp}{ow:Os}{σ:L2.St}{m:Me}
theorem Xs.imp {o:Type}{r:Res (o×Me)}{k k':o->Hp->Prop}(h:Xs G E O0 M0 H0 ow σ H r k)(g:Go O0 ow H ow H1)(hk:∀a H' m',dF G O0 M0 H0 ow σ H' m'->Go O0 ow H1 ow H'->r=.ok (a,m')->k a H'->k' a H'):Xs G E O0 M0 H0 ow σ H1 r k':=by
 cases r with
 |ok a=>obtain⟨a,m'⟩:=a;exact λH' R b=>hk a H' m' R b rfl<|h H' R<|g.trans b
 |exc c=>exact h
 |stuck=>exact h
theorem Xs.bind {C o:Type}{r:Res (C×Me)}{f:C->Me->Res (o×Me)}{k:o->Hp->Prop}(h:Xs G E O0 M0 H0 ow σ H (r.bind λp=>f p.1 p.2) k):
  Xs G E O0 M0 H0 ow σ H r λa H'=>∀m',r=.ok (a,m')->dF G O0 M0 H0 ow σ H' m'->Xs G E O0 M0 H0 ow σ H' (f a m') k:=by
 cases r with
 |ok a=>
  obtain⟨a,d⟩:=a;intro H' R g m' e l;cases e;have h:Xs G E O0 M0 H0 ow σ H (f a d) k:=h;cases z:f a d with
  |ok b=>obtain⟨b,m⟩:=b;rw[z] at h;exact λi R2 j=>h i R2<|g.trans j
  |exc c=>rw[z] at h;exact h
  |stuck=>rw[z] at h;exact h
 |exc c=>exact h
 |stuck=>exact h
theorem Xs.pu {J I:Type}{r:Res J}{f:J->Res (I×Me)}{k:I->Hp->Prop}(R:Rel G O0 M0 H0 ow σ H m)(h:Xs G E O0 M0 H0 ow σ H (r.bind f) k):Pu G E r H λa=>Xs G E O0 M0 H0 ow σ H (f a) k:=by
 cases r with
 |ok a=>exact h
 |exc c=>exact λC H' e g=>h C H' e λb o e n=>g b o<|R.keep b o e n
 |stuck=>exact h
end
noncomputable def fX (f:Zae):Me->Res (D×Me):=λm=>(f m).bind λd=>.ok (d,m)
def Hk:Me->Res (List D×Me):=λm=>.ok ([],m)
noncomputable def tK (o:Me->Res (D×Me))(fs:Me->Res (List D×Me)):Me->Res (List D×Me):=λm=>(o m).bind λp=>(fs p.2).bind λq=>.ok (p.1::q.1,q.2)
noncomputable def Gk (fs:Me->Res (List D×Me)):Me->Res (D×Me):=λm=>(fs m).bind λq=>if q.1.length<=ai then .ok (.tup q.1,q.2) else .stuck
section
variable {X:Cx}{E:XK}{e:Expr}{es:List Expr}{f:Zae}{fa:Me->Res (D×Me)}{fs:Me->Res (List D×Me)}{pos:Pos}{i:Nat}{x:Str}
theorem abT (h:FE X E e f):FX X E e (fX f):=bJ h λi H Q b=>xq5 b λa M0 H0 ow m R q=>⟨a,M0,H0,ow,m,R.toRel,(Xs.pu R.toRel q).imp (aL.refl _) λd q v H' g c=>q H' (R.mono g) (Go.refl g) v c⟩
theorem Sh:FXA X E [] Hk:=pA jh λb H Q a=>xq5 a λc M0 H0 ow m R q=>q H R (Go.refl<|aL.refl _) [] .nil
theorem xM (I:FX X E e fa)(o:FXA X E es fs)(C:ag (e::es) X.env=(false,eval e X.env)::ag es X.env:=by rfl):FXA X E (e::es) (tK fa fs):=
 pA (cL I o C) λw H Q s=>xq5 s λh M0 H0 ow m R q=>⟨h,M0,H0,ow,m,R,(Xs.bind (f:=λd a=>(fs a).bind λq=>.ok (d::q.1,q.2)) q).imp (Go.refl<|aL.refl _) λd u a g t r q v k=>⟨h,M0,H0,ow,a,g,?_⟩⟩
where finally
 refine(Xs.bind (f:=λi b=>.ok (d::i,b))<|q a r g).imp (Go.refl<|aL.refl _) λi p b R2 l n q j c=>?_;exact q b n R2 p R2 (Go.refl<|aL.refl _) (v::j)<|.cons (k.go g.mutk l.ev) c
theorem Xb {x1}(h:FXA X E es fs):FX X E (.Tuple es x1 pos) (Gk fs):=bJ (O5 h) λu H Q n=>xq5 n λk M0 H0 ow m R q=>by
 refine⟨k,M0,H0,ow,m,R,(Xs.bind (f:=λa i=>if a.length<=ai then .ok (D.tup a,i) else .stuck) q).imp (Go.refl<|aL.refl _) λa t j d s l q r c=>?_⟩;have q:=q j l d;by_cases b:a.length<=ai
 ·rw[if_pos b] at q;exact⟨by rw[cC c];exact b,λp H' g e=>q H' (d.mono g) (Go.refl g) _<|.tup (SqU.of e)<|c.mono g⟩
 ·rw[if_neg b] at q;exact q.elim
noncomputable def Rt (i:Nat)(f:Me->Res (D×Me)):Zab:=λm=>(f m).bind λp=>.ok (.nx,p.2.set i<|.fz p.1)
theorem Xs.ss {G:Gx}{O0 M0:Zaa}{H0 H:Hp}{ow:Os}{o:L2.St}{W:Ends}{r:Res (D×Me)}{k:D->Zab}(h:Ss G E O0 M0 H0 ow H W (r.bind λp=>k p.1 p.2)):
  Xs G E O0 M0 H0 ow o H r λd H'=>∀m',r=.ok (d,m')->dF G O0 M0 H0 ow o H' m'->Ss G E O0 M0 H0 ow H' W (k d m'):=by
 cases r with
 |ok a=>
  obtain⟨d,b⟩:=a;intro H' R g m' e f;cases e;exact Ss.go h g
 |exc c=>exact h
 |stuck=>exact h
theorem aaI {o:Pos}(U:X.N.Nodup)(C:X.N[i]? = some x)(J:Loc X.env.scope x)(he:FX X E e fa)(hs:d4 e (some<|.Name x o) pos.line X.env=pure false:=by rfl)
  (I:X.fn x=true\/X.env.scope.names.lookup x=some .local:=by clean_wf):FS X E (.Assign [.Name x o] e pos) (Rt i fa):=bW (wD U C J he hs I) λW p H b=>xq5 b λj M0 H0 ow m R q=>by
 refine⟨j,M0,H0,ow,m,R,(Xs.ss (k:=λd f=>.ok (.nx,f.set i<|.fz d)) q).imp (Go.refl<|aL.refl _) λd n g a l c q v h=>?_⟩;exact q g c a _ _ _ (a.set h) Go.set
end
section
variable {P:bE}{w:eI}{K:bo}{mg:Zp}{base:Heap}
end
section
end
section
variable {G:Gx}{O0 M0:Zaa}{H0 H H':Hp}{ow:Os}{σ:L2.St}{m:Me}{k:Nat}{cap:List Nat}
end
section
variable {X:Cx}{E:XK}{k:Nat}{cap:List Nat}{fi:Zad}{h:Zba}{fe:Me->Res (D×Me)}
theorem Wj {O0:Zaa}{ow:Os}{l b:Addr}(z:Ow (Op O0 l) ow b):Ow O0 ow b\/b=l:=z.elim (λy=>y.elim (λw=>.inl<|.inl w) .inr) λy=>.inl<|.inr y
end
def tM (G:Gx)(E:XK)(f:Me->Res Unit):TE:=λb H Q=>∃a M0 H0 ow m,Rel G a M0 H0 ow b H m/\Pu G E (f m) H λ_=>∀v H',aL H H'->Q v H'
abbrev FM (X:Cx)(E:XK)(e:Expr)(f:Me->Res Unit):Prop:=PE X e<|tM (gx X) E f
def fM (f:Zae):Me->Res Unit:=λm=>(f m).bind λ_=>.ok ()
def Jw (c:Str)(f:Me->Res Unit):Zab:=λm=>(f m).bind λ_=>.exc (c,[],[])
section
variable {X:Cx}{E:XK}{e:Expr}{f:Zae}{fu:Me->Res Unit}{x:Str}{np η pos:Pos}{C:Addr}{bmB:List ax}{B newId initId:String}
theorem afd (h:FE X E e f):FM X E e (fM f):=bJ h λc H Q b=>xq5 b λa M0 H0 ow m R q=>⟨a,M0,H0,ow,m,R,q.bind.imp (aL.refl _) λd k v H' g _=>k v H' g⟩
theorem V7 (FB:ExcBaseFacts B newId initId bmB)(hq:BU X.K C bmB newId=true)(hg:Gl X x)(I:X.mg x=some (.ref C))(hh:X.A.handled=none)(he:FM X E e fu)
  (hx:∀(π:Zl) (U:L2.St) (H:Hp) (s:aI) (h':Heap) (J:Addr) (vs:List ax),Inv X π U H s->tJ s.heap h' J (.ref C) vs->E (.ref C) none H->X.xe (.ref J) { s with heap:=h' })
  (hd:(x==("__debug__":Str))=false:=by decide) (hs:ag [e] X.env=(false,eval e X.env)::ag [] X.env:=by rfl):
  FS X E (.Raise (some<|.Call (.Name x np) [e] [] η) none pos) (Jw x fu):=bW (YS FB hq hg I hh he hx hd hs) λW U H a=>xq5 a λc M0 H0 ow m R q=>
 ⟨c,M0,H0,ow,m,R.toRel,(Ss.pu R.toRel q).imp (aL.refl _) λ_ q v H' g=>⟨rfl,q (C,none) H' ⟨I,[],[],.inl ⟨rfl,rfl⟩,rfl,rfl,λ_=>.nil⟩ λb o e n=>g b o<|R.keep b o e n⟩⟩
end
def tSx (G:Gx)(g:Zab):Ends->(L2.St->XK)->L2.St->Hp->Prop:=λW Ex b H=>∃a M0 H0 ow m,dF G a M0 H0 ow b H m/\match g m with
 | .exc c=>∀C H',XP G H' c C->aL H H'->Ex b (.ref C.1) C.2 H'
 |r=>Ss G E0 a M0 H0 ow H W r
abbrev FSx (X:Cx)(st:List Stmt)(g:Zab):Prop:=PSx X st<|tSx (gx X) g
def Nj (i:Nat)(sub:Str->Bool)(b h:Zab):Zab:=λm=>match b m with
 | .exc c=>if sub c.1=true then match h (m.set i<|.fz<|.exc c.1 c.2.1 c.2.2) with
   | .ok (fl,m')=>.ok (fl,m'.set i .un)
   |_=>.stuck
  else .stuck
 |r=>r
theorem Vr {X:Cx}{st:List Stmt}{T C:Ends->(L2.St->XK)->L2.St->Hp->Prop}(h:PSx X st T)(k:∀W E o H,C W E o H->T W E o H):PSx X st C:=λa s o H W E I q=>h a s o H W E I<|k W E o H q
section
variable {X:Cx}{j k:Nat}{x y:Str}{ps:List Str}{Φ:Zac}{p pos η pos':Pos}{e:Expr}{es:List Expr}{fs:Zad}{i:Nat}
def Ei (Φ:Zac)(fs:Zad):Zab:=λm=>match fs m with
 | .ok ds=>(Φ ds).bind λ_=>.ok (.nx,m)
 |_=>.stuck
theorem Yy (Fh:FF X.prog X.w X.K X.mg X.base k x ps Φ)(J:gG j X.A)(ha:FAE X.nox E0 (e::es) fs)(hk:k<=j:=by decide)(hg:Gl X x:=by rfl)(o:(x==("__debug__":Str))=false:=by decide)
  (he:ag (e::es) X.env=(false,eval e X.env)::ag es X.env:=by rfl) (I:(iE η<|ag es X.env).any (·.1)=false:=by rfl) (U:d4 (.Call (.Name x p) (e::es) [] η) none pos.line X.env=pure false:=by rfl):
  FSx X [.Expr (.Call (.Name x p) (e::es) [] η) pos] (Ei Φ fs):=Vr (aaT (afz Fh J ha hk hg o he I) U) λW Ex i H h=>xq5 h λb M0 H0 ow m R q=>by
 refine⟨b,M0,H0,ow,m,R.toRel,?_⟩;unfold Ei at q;cases z:fs m with
 |exc c=>rw[z] at q;exact q.elim
 |stuck=>rw[z] at q;exact q.elim
 |ok ds=>
  rw[z] at q;intro l n a d;refine⟨Ow b ow,ds,(R.mono a).mutk,d,?_⟩;cases w:Φ ds with
  |exc c=>simp only[w] at q;exact λC H' e g=>q C H' e<|a.trans g
  |stuck=>simp only[w] at q;exact q.elim
  |ok r=>simp only[w] at q;exact λv H' g f _=>q ow i H' (R.mono<|a.trans g)<|Go.refl<|a.trans g
theorem dF.unset {G:Gx}{O0 M0:Zaa}{H0 H:Hp}{ow:Os}{o:L2.St}{m:Me}(i:Nat)(R:dF G O0 M0 H0 ow o H m):dF G O0 M0 H0 (owS ow i none) (o.set i none) H (m.set i .un):=by
 have sub:∀b,Ow O0 (owS ow i none) b->Ow O0 ow b\/H b=none:=λb z=>.inl z.sub;refine⟨⟨by simp[R.len],R.keep,R.m0,λb z=>R.mutk b z.sub,λj a e=>?_,λj k a d c=>?_,λj f=>?_,λj s e=>?_⟩,yo R.nb λ_ z=>by cases z⟩
 ·by_cases q:j=i
  ·subst q;rw[fj] at e;cases e
  ·rw[d9 q] at e;exact R.no0 j a e
 ·by_cases q:j=i
  ·subst q;rw[fj] at d;cases d
  ·by_cases g:k=i
   ·subst g;rw[fj] at c;cases c
   ·rw[d9 q] at d;rw[d9 g] at c;exact R.inj j k a d c
 ·by_cases q:j=i
  ·subst q;exact fj
  ·rw[d9 q];exact R.out j<|by simpa using f
 ·by_cases q:j=i
  ·subst q;have f:j<m.length:=by simpa using rR e
   rw[aT f] at e;cases e;exact fj
  ·rw[a0<|eC q] at e;rw[d9 q,a0<|eC q];exact(R.slot j s e).bQ sub λ_ _ b _=>oB _
def tSA (X:Cx)(g:Zab):TS:=λW a H=>agr X.A H/\tS (gx X) E0 g W a H
theorem acE {E:XK}{U o:List Stmt}{J:Stmt}{n:Str}{np hpos:Pos}{DC:Addr}{gb gh:Zab}(sub:Str->Bool)
  (hst:X.stack=X.env::X.outer) (hfr:X.env.frame=some X.env.locals) (hb:FSx X U gb) (hN:X.N.Nodup) (hi:X.N[i]? = some n) (hn:X.env.scope.names.lookup n=some .local)
  (hg:Gl X x) (hm:X.mg x=some (.ref DC)) (hsub:∀c C,sub c=true->X.mg c=some (.ref C)->A2 X.K (.ref C) (.ref DC)=some true) (hs:∀I,PSs (inh X I) (J::o)<|tSA (inh X I) gh) (hd:(x==("__debug__":Str))=false:=by decide):
  FS X E (.Try U [.ExceptHandler (some<|.Name x np) (some n) (J::o) hpos] [] [] pos) (Nj i sub gb gh):=bW (acU hst hfr hb hN hi hn hg hm (λI=>hs I) hd) λW σ H Q=>xq5 Q λB M0 H0 ow m R q=>by
 refine⟨B,M0,H0,ow,m,R,?_⟩;unfold Nj at q;cases z:gb m with
 |ok a=>
  obtain⟨G,L⟩:=a;rw[z] at q;cases G<;>exact q
 |stuck=>rw[z] at q;exact q.elim
 |exc c=>
  rw[z] at q;intro C H' s g;by_cases e:sub c.1=true
  case neg=>simp only[if_neg e] at q;exact q.elim
  simp only[if_pos e] at q;obtain⟨s,fs,vs,Y,x2,T,S⟩:=s;refine⟨hsub c.1 C.1 e s,λI A D o1 o2 F=>?_⟩;have R':=R.mono g;have u:aL H' (upd H' I<|.frz A<|.ext<|zz I<|.ref C.1):=bH D _;have R2:=(R'.mono u).set (i:=i) (v:=.ref I) (d:=.exc c.1 c.2.1 c.2.2)<|.exc s aX (o2▸Y.imp id λ⟨d,q,z,y⟩=>⟨d,q,z,u _ _ y⟩) x2 T<|(S _).mono u;obtain⟨V,F,o4⟩:=F;refine⟨⟨I,A,_,V,rfl,aX,F,o4⟩,B,M0,H0,_,_,R2,?_⟩;have r:Go B ow H (owS ow i none) (upd H' I<|.frz A<|.ext<|zz I<|.ref C.1):=(Go.refl<|g.trans u).trans Go.set;cases w:gh (m.set i<|.fz<|.exc c.1 c.2.1 c.2.2) with
  |exc c'=>rw[w] at q;exact q.elim
  |stuck=>rw[w] at q;exact q.elim
  |ok a=>
   obtain⟨G,L⟩:=a;rw[w] at q;cases G with
   |nx=>exact λj f l k h=>q _ _ l (k.unset i)<|(r.trans h).trans Go.set
   |bk=>exact λj f l k h=>q _ _ l (k.unset i)<|(r.trans h).trans Go.set
   |ct=>exact λj f l k h=>q _ _ l (k.unset i)<|(r.trans h).trans Go.set
   |rt fr d=>
    intro v j f l k h M O;refine q v _ _ l (k.unset i) ((r.trans h).trans Go.set) (M.bQ λb z=>.inl z.sub) λz=>?_;rcases O z with⟨p,e1,P,Z⟩|t
    ·exact .inl ⟨p,e1,P,Z.bQ λb z=>.inl<|z.elim (λy=>.inl y.sub) .inr⟩
    ·exact .inr t
end
theorem Rel.more {G:Gx}{O0 M0:Zaa}{H0 H o:Hp}{ow:Os}{I:L2.St}{m:Me}{l:Addr}(R:Rel G O0 M0 H0 ow I H m)(g:aL H o)(C:H l=none)(J:ik (o l)):Rel G (Op O0 l) M0 H0 ow I o m:=by
 have f:=R.xr C;have c:∀b,Ow (Op O0 l) ow b->Ow O0 ow b\/H b=none:=λb z=>(Wj z).elim .inl λe=>.inr (by rw[e];exact C);have d:=R.mono g;refine⟨R.len,d.keep,d.m0,λb z=>?_,λi a e z=>?_,R.inj,R.out,λi s e=>?_⟩
 ·rcases Wj z with z|z
  ·exact d.mutk b z
  ·rw[z];exact J
 ·rcases z with z|z
  ·exact R.no0 i a e z
  ·exact f<|z▸.inr ⟨i,e⟩
 ·exact((R.slot i s e).bQ c λ_ _ b _=>oB _).mono g
section
noncomputable def IK:List D->Option (List Str)
 |[]=>some []
 | .str x::ds=>(IK ds).map (x::·)
 |_::_=>none
theorem Qh:∀{o:List V} {ds:List D} {zs:List Str},DVs G O H o ds->IK ds=some zs->o=zs.map V.str
 |_,_,_,.nil,e=>by cases e;rfl
 |_,_,_,.cons (d:=d) h hs,e=>by
  cases d with
  |str i=>
   obtain⟨b,a,rfl⟩:=omap (by simpa[IK] using e);cases h;rw[Qh hs a];rfl
  |_=>cases e
def G4:D->List D->Option D
 | .str z,[.lst es]=>match IK es with
  |some zs=>if B6 z zs=true then some (.str<|A5 z zs) else none
  |none=>none
 |_,_=>none
theorem V2:MtR X "str.join" (rGM (gx X) G4):=by
 intro j s t H x u v i Q I k l h;refine pL h λO d A r m n g a q=>?_;unfold G4 at a;split at a
 ·rename_i z e;cases kj n;obtain⟨y,rfl,b⟩:=uT g;obtain⟨p,w,rfl,f,hd⟩:=lr b;have a:(match IK e with|some zs=>if B6 z zs=true then some (D.str<|A5 z zs) else none|none=>none)=some r:=a;cases c:IK e with
  |none=>rw[c] at a;cases a
  |some zs=>
   rw[c] at a;obtain⟨ok,rfl⟩:=oif a
   have:=Qh hd c
   subst this;exact abh X.K rfl j s t H _ _ v i Q I k l ⟨z,p,zs,rfl,rfl,f,ok,q _ _ (aL.refl _)<|.str _⟩
 ·cases a
end
def QM (K:bo):Sp:=λc H Q _=>∃(a:Addr) (b:List Int),c=[.ref a]/\SqL K H a (b.map V.int)/\b.length<=63/\∀H',Q (.bl true) H'
theorem Ks:∀o:List Int,DVs G O H (o.map V.int) (o.map D.int)
 |[]=>.nil
 |n::o=>.cons (.int n)<|Ks o
theorem Zr {P:bE}{w:eI}{K:bo}{mg:Zp}{o:Heap}{CX:CXT}{k:Nat}{f:Addr}{J:iL}{ps:List Str}{I:Zac}(h:∀C:List Int,C.length<=63->∃fr,I [.lst<|C.map D.int]=.ok (fr,.bl true))
  (F:ph P w K mg o CX k f J ps (spF ⟨K,mg⟩ I)):ph P w K mg o CX k f J ps (QM K):=F.imp λi H Q E g=>by
 refine zT g λa C e d c q=>?_;subst e;obtain⟨fr,e⟩:=h C c;refine⟨λ_=>False,[.lst<|C.map D.int],λ_ z=>z.elim,.cons (.lst (d.elim (λz=>.inl ⟨id,z⟩) .inr)<|Ks C) .nil,?_⟩;rw[e];intro v H' _ b _;cases b;exact q H'
section
variable {X:Cx}{E:XK}{e a:Expr}{f fa:Zae}{fu:Me->Res Unit}{x y:Str}{np η pos p py:Pos}{i:Nat}
theorem TF (Ex:∃C,X.mg x=some (.ref C)/\BU X.K C [.type "ValueError",.type "Exception",.type "BaseException",.type "object"] "ValueError.__new__" = true)(hg:Gl X x)(J:X.A.handled=none)(he:FM X E e fu)
  (hx:∀(C:Addr) (U:Zl) (σ:L2.St) (H:Hp) (s:aI) (h':Heap) (o:Addr) (I:List ax),Inv X U σ H s->tJ s.heap h' o (.ref C) I->E (.ref C) none H->X.xe (.ref o) { s with heap:=h' })
  (hd:(x==("__debug__":Str))=false:=by decide) (hs:ag [e] X.env=(false,eval e X.env)::ag [] X.env:=by rfl):
  FS X E (.Raise (some<|.Call (.Name x np) [e] [] η) none pos) (Jw x fu):=by
 obtain⟨C,a,b⟩:=Ex;exact V7 PySem.F.excBase_ValueError b hg a J he (hx C) hd hs
theorem aaV {J o:List Stmt}{I:Stmt}{n:Str}{U:Pos}{gb gh:Zab}(sub:Str->Bool)
  (hst:X.stack=X.env::X.outer) (hfr:X.env.frame=some X.env.locals) (hb:FSx X J gb) (hN:X.N.Nodup) (hi:X.N[i]? = some n) (hn:X.env.scope.names.lookup n=some .local)
  (hg:Gl X x) (Xc:∃C,X.mg x=some (.ref C)/\∀c D,sub c=true->X.mg c=some (.ref D)->A2 X.K (.ref D) (.ref C)=some true) (hs:∀ea,FSs (inh X ea) E0 (I::o) gh) (hd:(x==("__debug__":Str))=false:=by decide):
  FS X E (.Try J [.ExceptHandler (some<|.Name x np) (some n) (I::o) U] [] [] pos) (Nj i sub gb gh):=by
 obtain⟨C,a,b⟩:=Xc;exact acE sub hst hfr hb hN hi hn hg a b (λea=>qU (hs ea) λ_ _ _ z=>z.2) hd
def Mi (tab:Str->Option Bool)(f:Zae):Zae:=λm=>(f m).bind λd=>match d with
 | .exc c _ _=>ofO<|(tab c).map D.bl
 |_=>.stuck
theorem Ze {tab:Str->Option Bool}{c:V}{cv:ax}{o:L2.St}{H:Hp}{Q:VK}(J:aaD c=some cv)(I:∀c D b,tab c=some b->X.mg c=some (.ref D)->XC X.K D/\fw X.K (.ref D) cv=some b)
  (h:tE (gx X) E (Mi tab fa) o H Q):tCB (ab9 X.K) (R0 (tB (gx X) E fa)<|R0 (tC c) acC) o H Q:=by
 obtain⟨n,M0,H0,ow,m,R,q⟩:=h;refine⟨n,M0,H0,ow,m,R,q.bind.imp (aL.refl _) λd q v H' g j=>?_⟩;cases d with
 |exc k _ _=>
  obtain⟨r,s,f⟩:=q.ofO;obtain⟨b,i,rfl⟩:=omap s;obtain⟨t,C,rfl,a,p⟩:=MJ j;obtain⟨l,e⟩:=I k C b i a;exact⟨t,C,c,cv,b,rfl,J,p,l,e,f _ _ g<|.bl _⟩
 |_=>exact q.elim
theorem ZX {tab:Str->Option Bool}{T:String}(ha:FB X E a fa)(hg:Gl X "isinstance")(hm:X.mg "isinstance" = none)(hv:bP "isinstance" = some (.builtin "isinstance"))(J:Gl X y)(ht:X.mg y=none/\∀c D b,tab c=some b->X.mg c=some (.ref D)->XC X.K D/\fw X.K (.ref D) (.type T)=some b)(U:bP y=some (.type T))
  (C:y≠"__name__":=by decide) (I:(y==("__debug__":Str))=false:=by decide) (he:ag [a,.Name y py] X.env=(false,eval a X.env)::ag [.Name y py] X.env:=by rfl) (o:ag [.Name y py] X.env=(false,eval (.Name y py) X.env)::ag [] X.env:=by rfl) (ξ:(iE pos<|ag [.Name y py] X.env).any (·.1)=false:=by rfl):
  FE X E (.Call (.Name "isinstance" p) [a,.Name y py] [] pos) (Mi tab fa):=
 bJ (uo Uv hg hm hv (cL ha (cL (QC (v:=.ty T) J ht.1 U rfl C I) jh o) he) (by decide) (by decide) he ξ) λ_ _ _ h=>Ze (c:=.ty T) (cv:=.type T) rfl ht.2 h
end
section
variable {X:Cx}
noncomputable def vz:List D->Option (List Bool)
 |[]=>some []
 | .bl b::ds=>(vz ds).map (b::·)
 |_::_=>none
theorem Lj {G:Gx}{O:Zaa}{H:Hp}:∀{o:List V} {ds:List D} {bs:List Bool},DVs G O H o ds->vz ds=some bs->o=bs.map V.bl
 |_,_,_,.nil,e=>by cases e;rfl
 |_,_,_,.cons (d:=d) h hs,e=>by
  cases d with
  |bl b=>
   obtain⟨bs,a,rfl⟩:=omap (by simpa[vz] using e);cases h;rw[Lj hs a];rfl
  |_=>cases e
def Fo:List D->Option D
 |[.lst ds]=>(vz ds).map λbs=>.bl<|bs.all id
 |_=>none
end
section
theorem JP:∀{bs:List Bool} {us:List ax},Vals (bs.map V.bl) us->LSm.BoolsAre us bs
 |[],_,.nil=>.nil
 |b::bs,_,.cons r t=>by cases r;exact .cons b<|JP t
theorem Gn (o:X.calm=true):gU X (.builtin "all") (rGC (gx X) Fo):=by
 intro G s P H x F Q I r h;refine Rv h λO z d m D a q=>?_;unfold Fo at a;split at a
 ·rename_i z;obtain⟨bs,y,rfl⟩:=omap a;obtain⟨v,rfl,t⟩:=uT D;obtain⟨p,x,rfl,l,hd⟩:=lr t
  have:=Lj hd y
  subst this;obtain⟨u,rfl,B⟩:=vals1 r;cases B;obtain⟨c,w,E,L⟩:=I.list l;have j:=JP w;have g:=E.isList;have f:p<s.heap.objs.size:=by obtain⟨_,e,_⟩:=g;exact aE e
  refine call_all_walk<|wpAny_pyIter_list g ?_;refine⟨s.heap.objs.size,[s.heap.objs.size,p],[s.heap.objs.size],c.toArray.size,_,_,λi=>(bs[i]?).getD true,rfl,Walks.list (A:=X.A.in1) (I.ok.hd o) _ p (cw f) c.toArray,
   ⟨⟨_,bg _ rfl,rfl,rfl⟩,g.push _⟩,λi v N K En n k=>?_,λM tk kp=>?_⟩
  ·obtain⟨b,e,rfl⟩:=j.get i v (by simpa using n);simp only[e,Option.getD_some] at k;exact mE k
  ·have e:((cq c.toArray.size).all λi=>(bs[i]?).getD true)=bs.all id:=by
    rw[a7,j.length];exact LSm.range_all bs
   rw[e];exact⟨.bl _,H,I.kept<|LSm.kept_iter kp,rfl,q _ _ (aL.refl _)<|.bl _⟩
 ·cases a
end
def Ite (K:bo)(a:Addr):It:=
 ⟨λi H=>∃b x,SqL K H a b/\b[i]? = some x,λi H x H'=>∃y l,(∀b,SqL K H a b->b[i]? = some y)/\x=.ref l/\H l=none/\H'=upd H l (.tup [.int i,y]),λi H=>∃b,SqL K H a b/\b.length<=i⟩
theorem Nz {X:Cx}{C:Zl}{σ:L2.St}{H:Hp}{s:aI}{e it:Addr}{h':Heap}{J U:Obj}(I:Inv X C σ H s)(fe:yM X C H e)(fi:yM X C H it)(hne:e≠it)
  (he:∃o,s.heap.get? e=some o) (hi:∃o,s.heap.get? it=some o) (he':h'.get? e=some J) (hi':h'.get? it=some U) (de:J.isFreed=false) (di:U.isFreed=false)
  (k:∀b o,b≠e->b≠it->s.heap.get? b=some o->h'.get? b=some o):∃h1,Inv X C σ H { s with heap:=h1 }/\h1.objs.size=s.heap.objs.size/\∀b u,h1.get? b=some u->h'.get? b=some u:=by
 obtain⟨r,he⟩:=he;obtain⟨w,hi⟩:=hi;refine pU fe λm n v h j d=>?_;refine pU fi λf i t g p c=>?_;have l:Inv X C σ H { s with heap:=s.heap.update e λ_=>J }:=I.turned (t':=s.toks) (λb o a x=>(bX _ _<|eC a).trans x) m n h j d;have q:Inv X C σ H { s with heap:=(s.heap.update e λ_=>J).update it λ_=>U }:=l.turned (t':=s.toks) (λb o a x=>(bX _ _<|eC a).trans x) f i g p c;refine⟨_,q,?_,λb u x=>?_⟩
 ·rw[(eA _ _ _).1,(eA _ _ _).1]
 ·by_cases z:b=it
  ·subst z;rw[dE (λ_=>U) ((bX _ _ hne).trans hi) di] at x;cases x;exact hi'
  ·rw[bX _ _<|eC z] at x;by_cases y:b=e
   ·subst y;rw[dE (λ_=>J) he de] at x;cases x;exact he'
   ·rw[bX _ _<|eC y] at x;exact k b u y z x
theorem YC {o:Obj}{C:Array ax}(d:o.data=.fields C):o.isFreed=false:=by
 obtain⟨c,e,b,a⟩:=o;cases(d);rfl
theorem T3 {P:bE}{w:eI}{K:bo}{U:List Expr}{x1}{pos:Pos}(a e it:Addr)(J:e≠it):
  Turn Calm P w K (.Tuple U x1 pos) (Ite K a) [e,it] e (λi h=>(∃C,IsEnum h e it i C)/\h.IsListIter it a i) where
 mem:=by simp
 obj:=λi h j b l=>by
  obtain⟨⟨C,f⟩,g⟩:=j;have n:b=e\/b=it:=by simpa using l
  rcases n with rfl|rfl
  ·exact⟨_,f,λv z=>by cases(z)⟩
  ·obtain⟨o,e',c,d⟩:=g;exact⟨o,e',λv z=>by rw[d] at z;cases z⟩
 keep:=λi h S j k=>by
  obtain⟨⟨C,f⟩,g⟩:=j;exact⟨⟨C,k e (by simp) _ f⟩,g.at λo x=>k it (by simp) o x⟩
 item:=by
  intro X Q D N hc i Z s σ H E I r j G;subst Q D N;obtain⟨xs,x,q,M⟩:=G;obtain⟨⟨C,f⟩,g⟩:=j;obtain⟨χ,L,p,hz⟩:=I.list q;obtain⟨u,hu,ru⟩:=L.get M;have fe:=r e (by simp);have fi:=r it (by simp);refine wpAny_pyNext_enum_item f g p.isList (by simpa using hu) J λS W Y ht hsz k=>?_;obtain⟨oi,ei,ci,di⟩:=id Y;obtain⟨oj,ej,cj,dj⟩:=id g;obtain⟨h1,I1,z1,k1⟩:=Nz I fe fi J ⟨_,f⟩ ⟨_,ej⟩ W ei rfl (YC di) k;have I2:Inv X Z σ (upd H s.heap.objs.size<|.tup [.int i,x]) { s with heap:=S,toks:=s.toks+1 }:=
   I1.laid k1 (BG z1) (⟨(show 2<=ai by decide),[.int i s.toks,u],.cons ⟨s.toks,rfl⟩<|.cons ru .nil,⟨_,ht,rfl,_,rfl,rfl⟩⟩)
  have fr:=I.hok.fresh<|aS _;have m:=cw<|aE f;have A:=cw<|aE ej;have T:∀b,b≠s.heap.objs.size->H b=none->upd H s.heap.objs.size (.tup [.int i,x]) b=none:=λb z y=>by rw[cB z];exact y
  refine⟨_,rfl,wpAny_letOwnedTupleGo_enum W λh2 e2 V=>?_⟩;refine pU fe λt R f2 O F B=>?_;refine⟨.ref s.heap.objs.size,_,I2.turned (λb o l y=>(V.2 b l).trans y) (T e m t) R O F B,rfl,⟨x,_,λys hy=>by rw[I.K9 hy q];exact M,rfl,fr,rfl⟩,⟨⟨_,e2⟩,Y.at λo y=>(V.2 it<|eC J).trans y⟩,λb l=>?_⟩;have n:b=e\/b=it:=by simpa using l
  rcases n with rfl|rfl
  ·exact T _ m t
  ·exact T _ A fi.1
 done:=by
  intro X Q D N hc i Z s σ H E I r j G;subst Q D N;obtain⟨xs,q,M⟩:=G;obtain⟨⟨C,f⟩,g⟩:=j;obtain⟨χ,L,p,hz⟩:=I.list q;refine pU (r it<|by simp) λt R f2 O F B=>?_;have hl:=L.length;exact wpAny_pyNext_enum_end (I.ok.hd hc) f g p.isList (by simp;lia) λS n=>⟨rfl,I.turned (λb o l y=>n b o l y) t R O F B⟩
 self:=λ_ _ _ _ _ j h=>by
  obtain⟨⟨C,f⟩,g⟩:=j;exact wpAny_pyIter_enum f h
section
variable {X:Cx}{tg:Expr}
def afi (K:bo)(o:TA):TI:=λd H R=>o d H λc a=>∃p,c=[.ref p]/\(∃b,SqL K a p b)/\R (Ite K p) a
theorem Zm {o:List Expr}{x1}{pt:Pos}{a:Expr}{J:TA}{p C:Pos}(hg:Gl X "enumerate")(U:X.mg "enumerate" = none)(ha:PA X [a] J)(hs:ag [a] X.env=[(false,eval a X.env)]:=by rfl):PI Calm X (.Tuple o x1 pt) (.Call (.Name "enumerate" p) [a] [] C) (afi X.K J):=by
 intro i s n H R I h;refine Call_<|rF I hg U boot_enumerate<|eS (thn (ha C i s n H _ I h) λL c y=>xq2 y λF j f E x=>?_) hs rfl;obtain⟨l,e,⟨M,v⟩,q⟩:=x;subst e;obtain⟨u,rfl,A⟩:=vals1 E;cases A;obtain⟨G,O,B,N⟩:=f.list v;refine call_enumerate_list B.isList λm g w sz k=>?_;have D:Inv X i n j { c with heap:=m }:=f.kept (t':=c.toks) k;refine wpAny_pyIter_enum (s:={ c with heap:=m }) g ?_;refine⟨_,[c.heap.objs.size+1,c.heap.objs.size],_,_,j,rfl,D,T3 l _ _<|Nat.succ_ne_self _,⟨⟨_,g⟩,w⟩,λb r=>?_,q⟩;have t:b=c.heap.objs.size+1\/b=c.heap.objs.size:=by simpa using r
 have d:c.heap.objs.size<=b:=t.elim (λz=>by rw[z];exact Nat.le_succ _) λz=>BG z.symm;exact f.Va d<|f.hok.fresh d
noncomputable def BJ (ds:List D):List D:=ds.mapIdx λi d=>.tup [.int i,d]
theorem Gh (ds:List D):(BJ ds).length=ds.length:=by simp[BJ]
theorem abj {G:Gx}{H:Hp}{a:Addr}{ds:List D}{P:(Zaa)->Hp->Prop}(h:∀O' o,P O' o->∃xs,SqL G.K o a xs/\DVs G O' o xs ds):Bm G (Ite G.K a) (BJ ds) P:=by
 intro O' o ev;obtain⟨xs,b,hd⟩:=h O' o ev;have k:=cC hd;refine⟨λi c=>⟨xs,xs[i]'(by rw[Gh] at c;lia),b,by simp⟩,λi x H' c y=>?_,xs,b,by rw[Gh];lia⟩;obtain⟨y,l,g,rfl,e,rfl⟩:=y;obtain⟨d,f,j⟩:=xF hd<|g xs b;exact⟨bH e _,.tup [.int i,d],by simp[BJ,List.getElem?_mapIdx,f],.tup (SqU.of aX)<|.cons (.int _)<|.cons (j.mono<|bH e _) .nil⟩
def ac4 (f:Zad):Zad:=λm=>(f m).bind λd=>match d with
 |[.lst ds]=>.ok<|BJ ds
 |_=>.stuck
theorem U9 {E:XK}{fs:Zad}{o:List Expr}{x1}{pt:Pos}{a:Expr}{p C:Pos}(U:Gl X "enumerate")(I:X.mg "enumerate" = none)(ha:FAB X E [a] fs)(J:ag [a] X.env=[(false,eval a X.env)]:=by rfl):FIw X E (.Tuple o x1 pt) (.Call (.Name "enumerate" p) [a] [] C) (ac4 fs):=
 pP (Zm U I ha J) λs H R k=>xq5 k λj M0 H0 ow m h q=>⟨j,M0,H0,ow,m,h,q.bind.imp (aL.refl _) λb q n H' g i=>by
  have z:∃c,b=[.lst c]:=by
   cases b with
   |nil=>exact q.elim
   |cons d b=>cases d with
    |lst c=>cases b with
     |nil=>exact⟨c,rfl⟩
     |cons _ _=>exact q.elim
    |_=>exact q.elim
  obtain⟨b,rfl⟩:=z;cases i with
  |cons h1 h2=>
   cases h2;obtain⟨l,c,rfl,e,hd⟩:=lr h1;exact⟨_,rfl,⟨_,e⟩,q _ H' g<|abj (H:=H') λO' r ⟨sub,f⟩=>⟨_,Lb e f,hd.go (h.mono g).mutk ⟨sub,.of f⟩⟩⟩⟩
end
theorem X7:Bi (.type "list_reverseiterator") "__len__" = pure none:=by rfl
theorem aay:Bi (.type "list_reverseiterator") "__length_hint__" = pure (some<|.builtin "list_reverseiterator.__length_hint__"):=by rfl
section
variable {pr:bE}{wo:eI}{A:fm}{s:aI}{R:Result->aI->Prop}
variable {St:Nat->aI->Prop}{P:Nat->ax->Prop}{n:Nat}{I:Addr}{fp wr:List Addr}{G:Array qc->Array qc->Prop}
theorem abz (W:WalksS pr wo A.in1 I fp wr G n P St)(ty:∀i s,St i s->s.TypeIs (.ref I) "list_reverseiterator")(S:Addr)(o:ax)(c:Nat)(st:St 0 s)(J:S∉fp)(mi:I∈fp)
  (oS:s.heap.get? S=some { cls:=.type "list",data:=.seq #[] c })
  (fin:∀s' U C,Moved (S::wr) G s s'->s'.heap.get? S=some { cls:=.type "list",dict:=none,data:=.seq U C,slots:=#[] }->ItemsOf P U n->R (.ok<|.ret o) s') (hn:n<=ai):
  bt (cx pr wo) A.in1 (mh (.ref S) (.ref I) o)
   (λf t=>match f with|.done f=>R (.ok f) t|.again C=>C.quiet=true/\AF (cx pr wo) A C R t) (λe t=>R (.error e) t) s:=by
 have g:S≠I:=λe=>J<|e▸mi;have d:v3 (.ref S) (.ref I)=false:=by simp[v3,g]
 unfold mh;refine ae<|wpAny_typeOf (ty 0 _ st) ?_;rw[if_neg (by rw[d];decide)];refine ae<|W.self 0 _ _ _ st<|ae<|fF ?_;unfold Builtin.List.listLengthHint;refine ae<|l9 (ty 0 _ st) X7 ?_;show bt (cx pr wo) A.in1 (specialOf (eK I) (eB "__length_hint__") >>= _) _ _ _;refine ae<|l9 (ty 0 _ st) aay ?_;generalize a:("list_reverseiterator.__length_hint__":String)=id0
 wp_delta
 rw[show splitId id0=some ("list_reverseiterator", "__length_hint__") from by subst a;decide +kernel];subst a;refine ae<|rf (b:=true) (ty 0 _ st) (by rw[isSubtype_type];kernel_rfl)<|af ?_;rw[if_neg<|by decide];exact af ⟨plainId_quiet F.plain_extend_loop _,codeAny_extend_loopS W hn _ J _ n 0 _ _ _ rfl (d5 _) st oS (ItemsOf.nil P) fin⟩
end
section
theorem S7 {items:Array ax}(h:ItemsOf (λi v=>items[items.size-1-i]? = some v) ac items.size):ac=items.reverse:=by
 obtain⟨z,h⟩:=h;refine Array.ext (by simp[z]) λi a b=>?_
 have:=h i ac[i]<|by simp
 rw[Array.getElem_reverse];obtain⟨_,e⟩:=fg.mp this;exact e.symm
theorem FQ {items:Array ax}(U:A.handled=none)(J:s.heap.IsList l items)(C:s.heap.IsRevIter I l ((items.size:Int)-1))(ne:l≠I)(hn:items.size<=ai)
  (fin:∀t tk c,(∀b o,b≠I->s.heap.get? b=some o->t.get? b=some o)->t.get? s.heap.objs.size=some { cls:=.type "list",dict:=none,data:=.seq items.reverse c,slots:=#[] }->Q (.ref s.heap.objs.size) { s with heap:=t,toks:=tk }):
  bt (cx pr wo) A (call (.type "list") [.ref I]) Q E s:=by
 obtain⟨D,y,ci,K⟩:=id C;obtain⟨G,u,L⟩:=id J;have g:I<s.heap.objs.size:=aE y;have f:l<s.heap.objs.size:=aE u;have r:s.heap.objs.size∉[I,l]:=λd=>by
  rcases a9.mp d with z|z
  ·exact qq g z
  ·exact qq f<|cm.mp z
 have W:=(Walks.listRev (prog:=pr) (w:=wo) (A:=A.in1.in1) U I l ne items).toS;refine callType_codes (Q₁:=λo t=>o=.ref s.heap.objs.size/\t={ s with heap:=s.heap.push { cls:=.type "list",data:=.seq #[] } }) F.called_list (F.typeCall_list_1 _) F.entry_list_init (code_list_new _ ⟨rfl,rfl⟩) λo t B=>?_;obtain⟨rfl,rfl⟩:=B;have j:(s.heap.push { cls:=.type "list",data:=.seq #[] }).get? s.heap.objs.size=some { cls:=.type "list",data:=.seq #[] }:=bg _ rfl;refine⟨⟨_,j,rfl⟩,F.args_list_init_2 _ _,?_⟩;show bt (cx pr wo) A.in1.in1 (do let n←x9 (.ref s.heap.objs.size);Builtin.List.listUpdate (.ref s.heap.objs.size) (λ_=>#[]);letGo n.toList.reverse;mh (.ref s.heap.objs.size) (.ref I) .none) _ _ _;refine ae ?_;unfold x9;refine ae<|wpAny_seqItems j rfl<|af ?_;refine ae (m:=updateSeq s.heap.objs.size λ_=>#[])<|wpAny_updateSeq j rfl ?_;have p:=dE (sg λ_=>(#[]:Array ax)) j rfl;refine ae<|wpAny_letGo ?_;have kp:∀b o,b≠s.heap.objs.size->s.heap.get? b=some o->((s.heap.push { cls:=.type "list",data:=.seq #[] }).update s.heap.objs.size<|sg λ_=>(#[]:Array ax)).get? b=some o:=
  λb o k e=>(bX _ _<|eC k).trans<|ar _ e
 have a:(0:Nat)<=items.size/\s.heap.IsRevIter I l ((items.size:Int)-1-((0:Nat):Int))/\s.heap.IsList l items:=⟨d5 _,by simpa using C,J⟩;refine abz W (λi t x=>x.2.1.typeIs) _ .none _ ⟨a.1,a.2.1.at λo e=>kp I o (cw g) e,a.2.2.at λo e=>kp l o (cw f) e⟩ r (by simp) p (λt H c q h v=>?_) hn;refine⟨rfl,?_⟩;rw[Moved.eq_with q];rw[S7 v] at h;exact fin _ _ c (λb o k e=>q.heap b o (λd=>by
  rcases a9.mp d with z|d
  ·exact hU _<|z▸aE e
  ·exact k<|cm.mp d) (kp b o (cw<|aE e) e)) h
end
section
theorem nG:bP "list" = some (.type "list"):=by decide +kernel
theorem adA:bP "reversed" = some (.type "reversed"):=by decide +kernel
def afk (K:bo):List V->Hp->VK->Prop:=λb H Q=>∃p a,b=[.ref p]/\SqL K H p a/\∀l,H l=none->Q (.ref l) (upd H l<|.lst a.reverse)
theorem aaZ (hc:X.calm=true)(hg:Gl X "list")(hm:X.mg "list" = none)(J:Gl X "reversed")(U:X.mg "reversed" = none)(ha:PA X [e] ta)
  (hs:ag [e] X.env=[(false,eval e X.env)]:=by rfl) (C:ag [.Call (.Name "reversed" p') [e] [] pos'] X.env=[(false,eval (.Call (.Name "reversed" p') [e] [] pos') X.env)]:=by rfl):
  PE X (.Call (.Name "list" p) [.Call (.Name "reversed" p') [e] [] pos'] [] pos) (tCB (afk X.K) ta):=by
 intro v s z H Q I h;refine kB<|rF I hg hm nG<|eS ?_ C rfl;rw[C];refine oP<|kB<|rF I J U adA<|eS (thn (ha pos' v s z H _ I h) λD d n=>xq2 n λB F a A m=>?_) hs rfl;obtain⟨l,y,rfl,k,q⟩:=m;obtain⟨u,rfl,x⟩:=vals1 A;cases x;obtain⟨g,i,f,G⟩:=a.list k;have E:=i.length;refine call_reversed_list f.isList<|uS ?_;have j:l<d.heap.objs.size:=by obtain⟨_,e,_⟩:=f.isList;exact aE e
 refine FQ (a.ok.hd hc) (f.isList.push _) ⟨_,bg _ rfl,rfl,rfl⟩ (cw j) (by simp only[a7]<;>lia) λt tk c kp r=>?_;have sz:d.heap.objs.size<=(d.heap.push<|revObj l<|(g.toArray.size:Int)-1).objs.size:=by rw[Heap.size_push];exact Nat.le_succ _
 refine⟨.ref _,_,a.laid (t':=tk) (λb o e=>kp b o (cw<|aE e)<|ar _ e) sz<|show gO X.prog X.w _ t _ (.lst y.reverse) from⟨by simp;lia,g.reverse,c,i.reverse,by simpa using r⟩,rfl,q _<|a.hok.fresh sz⟩
noncomputable def Xh:List D->Option D
 |[.lst ds]=>some<|.lst ds.reverse
 |_=>none
theorem aa3 (U:X.calm=true)(J:Gl X "list")(hm:X.mg "list" = none)(o:Gl X "reversed")(C:X.mg "reversed" = none)(ha:FAB X E [e] fs)
  (hs:ag [e] X.env=[(false,eval e X.env)]:=by rfl) (I:ag [.Call (.Name "reversed" p') [e] [] pos'] X.env=[(false,eval (.Call (.Name "reversed" p') [e] [] pos') X.env)]:=by rfl):
  FN X E (.Call (.Name "list" p) [.Call (.Name "reversed" p') [e] [] pos'] [] pos) (aP Xh fs):=
 bJ (aaZ U J hm o C ha hs I) λx H Q h=>by
  refine Hc h λt M0 H0 ow m R q=>?_;refine⟨t,M0,H0,ow,m,R,q.bind.imp (aL.refl _) λg q u w f j=>?_⟩;obtain⟨r,d,k⟩:=q.ofO
  match g,d with
  |[.lst g],d=>
   cases d;obtain⟨v,rfl,n⟩:=uT j;obtain⟨l,s,rfl,i,hd⟩:=lr n;exact⟨l,s,rfl,i,λb a=>k b _ (f.trans<|bH a _) (f.free a) ⟨_,aX,((Pg hd).bQ λc z=>z.elim .inl λe=>.inr (by rw[e];exact a)).mono<|bH a _⟩⟩
end
section
end
theorem ints_of:∀{o:List Int} {us:List ax},Vals (o.map V.int) us->∃xs:Array (Int×Tok),us.toArray=intItems xs/\xs.toList.map (·.1)=o
 |[],_,.nil=>⟨#[],by simp[intItems],rfl⟩
 |n::o,_,.cons r t=>by
  obtain⟨xs,b,c⟩:=ints_of t;obtain⟨k,rfl⟩:=r;refine⟨#[(n,k)]++xs,?_,by simp[c]⟩;have a:=congrArg yy b;apply Array.toList_inj.mp;simp[intItems] at a ⊢;exact a
def Ka:List D->Option D
 |[.lst ds]=>(MT ds).map λa=>.int a.sum
 |_=>none
section
theorem yz (o:X.calm=true):gU X (.builtin "sum") (rGC (gx X) Ka):=by
 intro D s G H n B Q I r h;refine Rv h λO w d m y a q=>?_;unfold Ka at a;split at a
 ·rename_i w;obtain⟨j,t,rfl⟩:=omap a;obtain⟨v,rfl,e⟩:=uT y;obtain⟨p,n,rfl,c,hd⟩:=lr e
  have:=QR hd t
  subst this;obtain⟨u,rfl,x⟩:=vals1 r;cases x;obtain⟨A,l,z,F⟩:=I.list c;obtain⟨b,k,g⟩:=ints_of l;refine sum_intListG (I.ok.hd o) (k▸z.isList) λE tk f kp=>?_;have i:preSum (numAt b) b.size=j.sum:=by rw[preSum_eq,pS (by simp),g]
  rw[i];exact⟨.int _,H,I.kept kp,⟨f,rfl⟩,q _ _ (aL.refl _)<|.int _⟩
 ·cases a
end
theorem zj (h:DV G O H v d):∀{o:List V} {ds:List D} (j:Nat),DVs G O H o ds->DVs G O H (o.set j v) (ds.set j d)
 |_,_,_,.nil=>.nil
 |_,_,0,.cons _ t=>.cons h t
 |_,_,j+1,.cons a t=>.cons a<|zj h j t
section
theorem mR (i:Nat)(he:FE X E e f)(hk:FE X E ke fk)(hN:X.N[i]? = some x:=by rfl)(I:Vis X.env.scope x:=by simp_wf)(hd:(x==("__debug__":Str))=false:=by decide)(J:(x==("__classdict__":Str))=false:=by decide)
  (ha:∀v,tf (.Subscript (.Name x np) ke spos) X.env v=(do
   let C←tF [v] (eval (.Name x np) X.env)
   let U←tF [v,C] (eval ke X.env)
   standAt spos
   tF [v,C,U] (A9 C U v)
   release [v,C,U] []):=by intro _;rfl)
  (hs:mI [.Subscript (.Name x np) ke spos] e pos.line X.env=pure false:=by rfl) (hw:mM [.Subscript (.Name x np) ke spos] e X.env=pure none:=by rfl)
  (h1:(ki [.Subscript (.Name x np) ke spos] X.env).map (·.2)=[tf (.Subscript (.Name x np) ke spos) X.env]:=by rfl):FS X E (.Assign [.Subscript (.Name x np) ke spos] e pos) (fD i fk f):=
 bW (Iv he (VL (iZ hN I hd J) hk set_list ha) hs hw h1) λW O H w=>xq5 w λp M0 H0 ow m R q=>
  ⟨p,M0,H0,ow,m,R.toRel,(Ss.pu R.toRel q).imp (aL.refl _) λd q v M l I=>by
   obtain⟨o,r,q⟩:=Ss.ofO q;obtain⟨k,L⟩:=o;have c:=R.mono l;refine uV (rH c.toRel r) λa u F t B h s=>?_;refine⟨_,t,p,M0,H0,ow,m,c.toRel,(Ss.pu c.toRel<|q.go<|Go.refl l).imp (aL.refl _) λy q G K b g=>?_⟩;cases y with
   |int n=>
    cases g;obtain⟨j,A,q⟩:=Ss.ofO q;have R2:=c.mono b;obtain⟨D,z⟩:=R2.put F s<|zj (I.mono b) j<|h.mono b;exact⟨a,u,n,j,rfl,rfl,b _ _ B,by rw[cC h];exact A,q _ _ _ D<|(Go.refl b).trans z⟩
   |_=>exact q.elim⟩
end
noncomputable def jW:D->Option Key
 | .int i=>some<|.inl i
 | .str z=>some<|.inr z
 |_=>none
noncomputable def nH:List Key->List D->Key->Option D
 |k'::ks,d::ds,k=>if k'=k then some d else nH ks ds k
 |_,_,_=>none
noncomputable def Dn:List Key->List D->Key->D->List D
 |k'::ks,d'::ds,k,d=>(if k'=k then d else d')::Dn ks ds k d
 |_,_,_,_=>[]
def putD (ks:List Key)(ds:List D)(k:Key)(d:D):List Key×List D:=if ks.any (λx=>decide<|x=k)=true then(ks,Dn ks ds k d) else(ks++[k],ds++[d])
theorem tD (h:DW G O H v d)(e:jW d=some k):v=kV k:=by
 cases d with
 |int i=>cases e;cases cI h;rfl
 |str z=>cases e;cases kj h;rfl
 |_=>cases e
theorem uO:∀{ι:List (Key×V)} {ds:List D},DVs G O H (ι.map (·.2)) ds->
  (∃v d,nj ι k=some v/\nH (ι.map (·.1)) ds k=some d/\DV G O H v d)\/(nj ι k=none/\nH (ι.map (·.1)) ds k=none)
 |[],_,.nil=>.inr ⟨rfl,rfl⟩
 |(k',v)::ι,_,.cons (d:=d) h hs=>by
  by_cases q:k'=k
  ·exact .inl ⟨v,d,uA q,by simp[nH,q],h⟩
  ·rw[tR q];simp only[ay,nH,if_neg q];exact uO hs
section
def dD:D->D->Option D
 | .dct ks ds,k=>(jW k).bind<|nH ks ds
 |_,_=>none
def Ac:D->D->Option Bool
 |k,.dct ks ds=>(jW k).map λk=>(nH ks ds k).isSome
 |_,_=>none
def Ge (d e:D):Option Bool:=(Ac d e).map (!·)
theorem iM (r:gG j A):A.units+16<pk:=by have:=r.un;lia
theorem adZ (o:gG j X.A):OpR X (eM .In) (rGB (gx X) Ac):=by
 intro G s K H x y v u Q I t w h;refine pL h λO d e r m z i c q=>?_;unfold Ac at c;split at c
 ·rename_i d F n;obtain⟨k,l,rfl⟩:=omap c;obtain⟨p,f,D,rfl,g,rfl,rfl,hd⟩:=sX i;cases tD z l;cases w;have fin:(nj f k).isSome=(nH (f.map (·.1)) n k).isSome:=by
   rcases uO (k:=k) hd with⟨_,_,a,b,_⟩|⟨a,b⟩<;>simp[a,b]
  refine ago (iM o) I (Nb g) t λE B=>⟨.bl _,H,B,rfl,?_⟩;rw[fin];exact q
 ·cases c
theorem aaF (o:gG j X.A):OpR X (eM .NotIn) (rGB (gx X) Ge):=by
 intro G s K H x y v u Q I w z h;refine pL h λO d e r m B n i q=>?_;obtain⟨c,f,rfl⟩:=omap i;clear i
 match d,e,f with
 |d,.dct ks ds,f=>
  obtain⟨k,t,rfl⟩:=omap f;obtain⟨p,g,E,rfl,l,rfl,rfl,hd⟩:=sX n;cases tD B t;cases z;have fin:(nj g k).isSome=(nH (g.map (·.1)) ds k).isSome:=by
   rcases uO (k:=k) hd with⟨_,_,a,b,_⟩|⟨a,b⟩<;>simp[a,b]
  refine O8 (iM o) I (Nb l) w λF D=>⟨.bl _,H,D,rfl,?_⟩;rw[fin];exact q
theorem fV (o:gG j X.A)(J:FB X E a fa)(C:FB X E b fb)(I:aaS b):FE X E (.Subscript a b pos) (az dD fa fb):=
 bJ (Qm (iM o) J C I) λL H Q u=>xq5 u λl M0 H0 ow m R q=>two (r:=λx y H Q=>∃a v,x=.ref a/\JZ X.K H a y (some v)/\Q v H) R (K:=λz H=>∀v H',aL H H'->DV (gx X) (Ow l ow) H' v z->Q v H') q (λ_ _ k g v H' h d=>k v H' (g.trans h) d) λx y d e H' g w n t F=>by
  obtain⟨r,o,k⟩:=t.ofO
  match d,o with
  | .dct ks ds,o=>
   obtain⟨p,B,D,rfl,i,rfl,rfl,hd⟩:=sX w;obtain⟨G,s,f⟩:=gS.mp o;cases tD n s;rcases uO hd with⟨v,d,a,b,c⟩|⟨a,b⟩
   ·rw[b] at f;cases f;exact⟨p,v,rfl,a▸Nb i,k _ _ (aL.refl _) c⟩
   ·rw[b] at f;cases f
noncomputable def zW:Zae:=λ_=>.ok<|.dct [] []
theorem Hw:FN X E (.Dict [] [] pos) zW:=bJ Vg λb H Q ⟨c,M0,H0,ow,m,R,q⟩ p a=>q p _ (bH a _) a ⟨[],[],aX,rfl,rfl,.nil⟩
end
theorem GC (k:Key)(v:V):∀ι:List (Key×V),(ι.map λo=>if o.1=k then(o.1,v) else o).map (·.1)=ι.map (·.1)
 |[]=>rfl
 |p::ι=>by
  rw[ay,ay,ay,GC k v ι];split<;>rfl
theorem yP (h:DV G O H v d):∀{ι:List (Key×V)} {ds:List D},DVs G O H (ι.map (·.2)) ds->DVs G O H ((ι.map λo=>if o.1=k then(o.1,v) else o).map (·.2)) (Dn (ι.map (·.1)) ds k d)
 |[],_,.nil=>.nil
 |(k',v')::ι,_,.cons h1 hs=>by
  simp only[ay,Dn];split
  ·exact .cons h<|yP h hs
  ·exact .cons h1<|yP h hs
theorem Bh (h:DV G O H v d)(o:DVs G O H (ι.map (·.2)) ds):
  (putK ι k v).map (·.1)=(putD (ι.map (·.1)) ds k d).1/\DVs G O H ((putK ι k v).map (·.2)) (putD (ι.map (·.1)) ds k d).2:=by
 have e:(ι.any λa=>decide<|a.1=k)=(ι.map (·.1)).any λx=>decide (x=k):=by rw[List.any_map];rfl
 unfold putK putD;rw[e];split
 ·exact⟨GC k v ι,yP h o⟩
 ·exact⟨by simp,by rw[cK];exact lu o<|.cons h .nil⟩
noncomputable def qg (m:Me)(i:Nat):Option (Bool×List Key×List D):=match m[i]? with
 |some (.ow<|.dct ks ds)=>some (true,ks,ds)
 |some (.io<|.dct ks ds)=>some (false,ks,ds)
 |_=>none
noncomputable def nu (m:Me)(i:Nat)(k:Bool)(ks:List Key)(ds:List D):Me:=m.set i<|if k then .ow (.dct ks ds) else .io (.dct ks ds)
section
theorem uM (R:Rel G O0 M0 H0 ow σ H m){i:Nat}{k:Bool}{ks:List Key}{ds:List D}(e:qg m i=some (k,ks,ds)):∃a ι,ow i=some a/\σ[i]? = some (some<|.ref a)/\H a=some (.dK ι)/\ι.map (·.1)=ks/\DVs G (Ow O0 ow) H (ι.map (·.2)) ds/\((m[i]? = some (.ow<|.dct ks ds)/\k=true)\/(m[i]? = some (.io<|.dct ks ds)/\k=false)):=by
 unfold qg at e;split at e
 ·rename_i q;cases e;obtain⟨a,b,j,f,ι,h,d,g,rfl,c⟩:=R.slot i _ q;exact⟨a,ι,b,f,d,g,c,.inl ⟨q,rfl⟩⟩
 ·rename_i q;cases e;obtain⟨a,b,j,f,ι,h,d,g,rfl,c⟩:=R.slot i _ q;exact⟨a,ι,b,f,d,g,c,.inr ⟨q,rfl⟩⟩
 ·cases e
theorem dF.nu (R:dF G O0 M0 H0 ow σ H m)(o:ow i=some a)(C:(m[i]? = some (.ow<|.dct ks ds)/\k=true)\/(m[i]? = some (.io<|.dct ks ds)/\k=false))
  (hk:ι.map (·.1)=ls) (hd:DVs G (Ow O0 ow) H (ι.map (·.2)) es):dF G O0 M0 H0 ow σ (L2.upd H a<|.dK ι) (F.nu m i k ls es)/\Go O0 ow H ow (L2.upd H a<|.dK ι):=by
 have f:Ow O0 ow a:=.inr ⟨i,o⟩;have kp:Kp (Ow O0 ow) H (L2.upd H a<|.dK ι):=λb u e n=>jJ b u e λz=>n<|z▸f;have c:OV G (Ow O0 ow) (L2.upd H a<|.dK ι) a (.dct ls es):=⟨ι,_,L2.aX,hk,rfl,hd.kp R.mutk kp⟩;refine⟨R.chg (d:=.dct ks ds) (d':=.dct ls es) o jJ c ?_,Go.chg o jJ c⟩;rcases C with⟨e,rfl⟩|⟨e,rfl⟩
 ·exact .inl ⟨e,rfl⟩
 ·exact .inr ⟨e,rfl⟩
end
def iJ (i:Nat)(fk fv:Zae):Zab:=λm=>(fv m).bind λd=>(ofO<|qg m i).bind λo=>(fk m).bind λk=>(ofO<|jW k).bind λk=>
 if o.2.1.length<ai then .ok (.nx,nu m i o.1 (putD o.2.1 o.2.2 k d).1 (putD o.2.1 o.2.2 k d).2) else .stuck
section
theorem rE (i:Nat)(J:gG jj X.A)(he:FE X E e f)(hk:FE X E ke fk)(hN:X.N[i]? = some x:=by rfl)(C:Vis X.env.scope x:=by simp_wf)(hd:(x==("__debug__":Str))=false:=by decide)(I:(x==("__classdict__":Str))=false:=by decide)
  (U:d4 e (some<|.Subscript (.Name x np) ke spos) pos.line X.env=pure false:=by rfl):FS X E (.Assign [.Subscript (.Name x np) ke spos] e pos) (iJ i fk f):=
 bW (xm (iM J) (iZ hN C hd I) hk he U) λW V H B=>xq5 B λp M0 H0 ow m R q=>
  ⟨p,M0,H0,ow,m,R.toRel,(Ss.pu R.toRel q).imp (aL.refl _) λd q v Q j C=>by
   obtain⟨o,u,q⟩:=Ss.ofO q;obtain⟨k,D,P⟩:=o;have c:=R.mono j;refine Km (uM c.toRel u) λa L z y s l w F=>?_;refine⟨_,y,p,M0,H0,ow,m,c.toRel,(Ss.pu c.toRel<|q.go<|Go.refl j).imp (aL.refl _) λS q M O b g=>?_⟩;obtain⟨T,K,q⟩:=Ss.ofO q;cases tD (.inl g) K;by_cases h:D.length<ai
   ·rw[if_pos h] at q;have R2:=c.mono b;obtain⟨n,r⟩:=Bh (C.mono b)<|w.mono b;rw[l] at n r;obtain⟨t,G⟩:=R2.nu z F n r;exact⟨a,_,rfl,Bw.k (b _ _ s) (by rw[← a6,l];exact h),q _ _ _ t<|(Go.refl b).trans G⟩
   ·rw[if_neg h] at q;exact q.elim⟩
end
def aa0:D->Option D
 | .str z=>if z.length<=ai then some (.str z) else none
 | .int i=>if i.natAbs.log2<1920 then some (.str (toString i:String)) else none
 |_=>none
section
theorem acV (h:FB X E e f):FE X E (.FormattedValue e (-1) none pos) (fUn aa0 f):=by
 intro A s B H Q I ⟨j,M0,H0,ow,m,R,q⟩;refine FormattedValue_plain<|thn (h A s B H (λx a=>aL H a/\∃d r,DW (gx X) (Ow j ow) a x d/\aa0 d=some r/\∀v H',aL H H'->DV (gx X) (Ow j ow) H' v r->Q v H') I ⟨j,M0,H0,ow,m,R,q.bind.imp (aL.refl _) λd q x a c g=>?_⟩) λu D ⟨x,a,n,p,c,d,r,g,b,k⟩=>?_
 ·obtain⟨r,y,k⟩:=q.ofO;exact⟨c,d,r,g,y,k⟩
 ·match d,b with
  | .str z,b=>
   obtain⟨l,rfl⟩:=oif b;cases kj g;obtain⟨t,rfl⟩:=p;exact formatField_str (λw tk=>⟨.str z,a,n.tok _,⟨w,rfl⟩,k _ _ c<|.str z⟩) l
  | .int i,b=>
   obtain⟨l,rfl⟩:=oif b;cases cI g;obtain⟨t,rfl⟩:=p;exact formatField_int_small l ⟨.str _,a,n.tok _,⟨_,rfl⟩,k _ _ c<|.str _⟩
def FJ (X:Cx)(E:XK)(es:List Expr)(f:Str->Me->Res Str):Prop:=∀(c:Zl) (s:aI) (b:L2.St) (H:Hp) (Q:VK) (a:Str),Inv X c b H s->
 (∃d M0 H0 ow m,Rel (gx X) d M0 H0 ow b H m/\Pu (gx X) E (f a m) H λz=>∀H',aL H H'->Q (.str z) H')->bt (cx X.prog X.w) X.A (joinParts a<|BO es X.env) (EP X c b Q) X.xe s
def acN:Str->Me->Res Str:=λa _=>if a.length<=ai then .ok a else .stuck
def Ke (f:Zae)(g:Str->Me->Res Str):Str->Me->Res Str:=λa m=>(f m).bind λd=>match d with
 | .str y=>if(a++y).length<=ai then g (a++y) m else .stuck
 |_=>.stuck
theorem ac5:FJ X E [] acN:=by
 intro d s e H Q a I ⟨c,M0,H0,ow,m,R,q⟩;obtain⟨b,k⟩:=Dy q;exact joinParts_nil ⟨.str a,H,I.tok _,⟨_,rfl⟩,k H<|aL.refl _⟩ b
theorem Rg (h:FE X E e f)(o:FJ X E es g)(C:BO (e::es) X.env=eval e X.env::BO es X.env:=by rfl):FJ X E (e::es) (Ke f g):=by
 intro n s l H Q a I ⟨i,M0,H0,ow,m,R,q⟩;rw[C];refine joinParts_cons<|thn (h n s l H (λx b=>∃y,x=.str y/\(a++y).length<=ai/\∃i M0 H0 ow m,Rel (gx X) i M0 H0 ow l b m/\Pu (gx X) E (g (a++y) m) b λz=>∀H',aL b H'->Q (.str z) H') I ⟨i,M0,H0,ow,m,R,q.bind.imp (aL.refl _) λd q x b j D=>?_⟩) λu B ⟨x,b,v,A,y,r,c,w⟩=>?_
 ·cases d with
  |str y=>
   cases D;by_cases c:(a++y).length<=ai
   ·simp only[if_pos c] at q;exact⟨y,rfl,c,i,M0,H0,ow,m,R.mono j,q.imp j λz k H' p=>k H'<|j.trans p⟩
   ·simp only[if_neg c] at q;exact q.elim
  |_=>exact q.elim
 ·subst r;obtain⟨t,rfl⟩:=A;exact⟨c,o n B l b Q (a++y) v w⟩
def Ho (g:Str->Me->Res Str):Zae:=λm=>(g yT m).bind λz=>.ok<|.str z
theorem U0 (h:FJ X E (o::v₂::es) g)(C:BO (o::v₂::es) X.env=eval o X.env::eval v₂ X.env::BO es X.env:=by rfl):FE X E (.JoinedStr (o::v₂::es) pos) (Ho g):=by
 intro b s c H Q I ⟨a,M0,H0,ow,m,R,q⟩;refine JoinedStr_many ?_;rw[← C];exact h b s c H Q yT I ⟨a,M0,H0,ow,m,R,q.bind.imp (aL.refl _) λz k H' g=>k _ H' g<|.str z⟩
end
section
end
section
end
section
theorem mulOk_of (C:0<=n)(o:n<=1000)(hz:z.length<=1000):MulOk z n:=by
 refine⟨by simp;lia,λp _=>?_,λp _=>?_⟩
 ·have:(1000:Int)<=(2^63-1)/n:=by
   rw[Int.le_ediv_iff_mul_le<|by lia]
   lia
  lia
 ·have:z.length*n.toNat<=1000*1000:=nB hz (by lia)
  have e:ai=16777216:=by decide
  simp[AM,e]
  lia
end
noncomputable def nQ (f:D->Option Kt):List D->Option (List Kt)
 |[]=>some []
 |d::ds=>(f d).bind λk=>(nQ f ds).map λa=>k::a
def ktD:Nat->D->Option Kt
 |_,.int i=>some<|.k<|.inl i
 |_,.str x=>some<|.k<|.inr x
 |n+1,.tup ds=>(nQ (ktD n) ds).map .t
 |_,_=>none
def xf:D->Option (List Kt)
 | .tup ds=>nQ (ktD 7) ds
 |_=>none
noncomputable def dH:List (List Kt)->List D->List Kt->Option D
 |k'::ks,d::ds,k=>if k'=k then some d else dH ks ds k
 |_,_,_=>none
noncomputable def vq:List (List Kt)->List D->List Kt->D->List D
 |k'::ks,d'::ds,k,d=>(if k'=k then d else d')::vq ks ds k d
 |_,_,_,_=>[]
def jH (ks:List (List Kt))(ds:List D)(k:List Kt)(d:D):List (List Kt)×List D:=if ks.any (λx=>decide<|x=k)=true then(ks,vq ks ds k d) else(ks++[k],ds++[d])
theorem HX {G:Gx}{O:Zaa}{H:Hp}{n:Nat}{f:D->Option Kt}(C:∀{v d k},DV G O H v d->f d=some k->Ab (KTp G.K) H n v k):∀{o:List V} {ds:List D} {ks:List Kt},DVs G O H o ds->nQ f ds=some ks->sS (KTp G.K) H n o ks
 |_,_,_,.nil,e=>by cases e;exact .nil
 |_,_,_,.cons h hs,e=>by
  obtain⟨k,a,c⟩:=gS.mp e;obtain⟨ks,b,rfl⟩:=omap c;exact .cons (C h a)<|HX C hs b
theorem abS {G:Gx}{O:Zaa}{H:Hp}:∀(n:Nat) {v:V} {d:D} {k:Kt},DV G O H v d->ktD n d=some k->Ab (KTp G.K) H n v k
 |n,_,_,k,.int i,e=>by
  have:k=.k (.inl i):=by cases n<;>(rw[ktD] at e;exact(b9 e).symm)
  subst this;exact Ab.k (x:=.inl i)
 |n,_,_,k,.str x,e=>by
  have:k=.k (.inr x):=by cases n<;>(rw[ktD] at e;exact(b9 e).symm)
  subst this;exact Ab.k (x:=.inr x)
 |n+1,_,_,k,.tup h hs,e=>by
  rw[ktD] at e;obtain⟨b,a,rfl⟩:=omap e;exact .t h<|HX (λh e=>abS n h e) hs a
 |0,_,_,k,.tup h hs,e=>by simp[ktD] at e
 |n,_,_,k,.non,e=>by cases n<;>simp[ktD] at e
 |n,_,_,k,.bl _,e=>by cases n<;>simp[ktD] at e
 |n,_,_,k,.adr _,e=>by cases n<;>simp[ktD] at e
 |n,_,_,k,.odd _ _,e=>by cases n<;>simp[ktD] at e
 |n,_,_,k,.ins _ _ _ _ _ _,e=>by cases n<;>simp[ktD] at e
 |n,_,_,k,.exc ..,e=>by cases n<;>simp[ktD] at e
 |n,_,_,k,.lst _ _,e=>by cases n<;>simp[ktD] at e
 |n,_,_,k,.dct _ _ _ _ _,e=>by cases n<;>simp[ktD] at e
 |n,_,_,k,.dcu _ _ _ _ _,e=>by cases n<;>simp[ktD] at e
 |n,_,_,k,.dcf _ _ _ _,e=>by cases n<;>simp[ktD] at e
theorem rC {G:Gx}{O:Zaa}{H:Hp}{v:V}{d:D}{k:List Kt}(h:DW G O H v d)(e:xf d=some k):∃b,v=.ref b/\TrT (KTp G.K) H b k:=by
 cases d with
 |tup ds=>
  obtain⟨b,a,rfl,c,hd⟩:=xu h;exact⟨b,rfl,a,c,HX (λh e=>abS 7 h e) hd e⟩
 |_=>cases e
theorem Ih {G:Gx}{O:Zaa}{H:Hp}{k:List Kt}:∀{ι:List (List Kt×V)} {ds:List D},DVs G O H (ι.map (·.2)) ds->
  (∃v d,nj ι k=some v/\dH (ι.map (·.1)) ds k=some d/\DV G O H v d)\/(nj ι k=none/\dH (ι.map (·.1)) ds k=none)
 |[],_,.nil=>.inr ⟨rfl,rfl⟩
 |(k',v)::ι,_,.cons (d:=d) h hs=>by
  by_cases q:k'=k
  ·exact .inl ⟨v,d,uA q,by simp[dH,q],h⟩
  ·rw[tR q];simp only[ay,dH,if_neg q];exact Ih hs
noncomputable def dcK:D->Option (List (List Kt)×List D)
 | .dcu ks ds=>some (ks,ds)
 | .dcf ks ds=>some (ks,ds)
 |_=>none
theorem Vy {G:Gx}{O:Zaa}{H:Hp}{v:V}{d:D}{ks:List (List Kt)}{ds:List D}(h:DW G O H v d)(e:dcK d=some (ks,ds)):∃a ι,v=.ref a/\Rd H a (.dT (KTp G.K) ι)/\ι.map (·.1)=ks/\DVs G O H (ι.map (·.2)) ds:=by
 cases d with
 |dcu ks' ds'=>
  cases e;obtain⟨p,ι,f,rfl,c,b,rfl,hd⟩:=WK h;exact⟨p,ι,rfl,.inl c,b,hd⟩
 |dcf ks' ds'=>
  cases e;rcases h with h|⟨_,_,_,h⟩
  ·cases h with
   |dcf b e2 e3 hs=>subst e3;exact⟨_,_,rfl,.inr ⟨_,b⟩,e2,hs⟩
  ·exact h.elim
 |_=>cases e
section
variable {X:Cx}{E:XK}
def zL (d k:D):Option D:=(dcK d).bind λc=>(xf k).bind<|dH c.1 c.2
def Tq (k d:D):Option Bool:=(dcK d).bind λc=>(xf k).map λk=>(dH c.1 c.2 k).isSome
def zV (d e:D):Option Bool:=(Tq d e).map (!·)
theorem Rb {G:Gx}{O:Zaa}{H:Hp}{k:List Kt}{ι:List (List Kt×V)}{ds:List D}(hd:DVs G O H (ι.map (·.2)) ds):(nj ι k).isSome=(dH (ι.map (·.1)) ds k).isSome:=by
 rcases Ih (k:=k) hd with⟨_,_,a,b,_⟩|⟨a,b⟩<;>simp[a,b]
theorem QS {j:Nat}(o:gG j X.A):OpR X (eM .NotIn) (rGB (gx X) zV):=by
 intro L s N H x y v u Q I z B h;obtain⟨O,d,e,r,m,E,l,w,q⟩:=h;obtain⟨c,n,rfl⟩:=omap w;obtain⟨⟨K,M⟩,D,i⟩:=gS.mp n;obtain⟨k,t,rfl⟩:=omap i;obtain⟨p,a,rfl,f,rfl,hd⟩:=Vy l D;obtain⟨b,rfl,g⟩:=rC E t;cases B;refine O8 (iM o) I (.inr ⟨a,k,b,f,rfl,g,rfl⟩) z λG F=>⟨.bl _,H,F,rfl,?_⟩;rw[Rb hd];exact q
variable {a b:Expr}{fa fb:Zae}{pos:Pos}
theorem Jq {j:Nat}(o:gG j X.A)(J:FB X E a fa)(C:FB X E b fb)(I:aaS b):FE X E (.Subscript a b pos) (az zL fa fb):=
 bJ (Qm (iM o) J C I) λN H Q t=>xq5 t λB M0 H0 ow m R q=>two (r:=λx y H Q=>∃a v,x=.ref a/\JZ X.K H a y (some v)/\Q v H) R (K:=λz H=>∀v H',aL H H'->DV (gx X) (Ow B ow) H' v z->Q v H') q (λ_ _ k g v H' w d=>k v H' (g.trans w) d) λx y d e H' g u l s G=>by
  obtain⟨r,o,k⟩:=s.ofO;obtain⟨⟨L,M⟩,D,o⟩:=gS.mp o;obtain⟨F,n,f⟩:=gS.mp o;obtain⟨p,h,rfl,i,rfl,hd⟩:=Vy u D;obtain⟨b,rfl,C⟩:=rC l n;rcases Ih hd with⟨v,d,a,c,dv⟩|⟨a,c⟩
  ·have f:=f;rw[c] at f;cases f;exact⟨p,v,rfl,.inr ⟨h,F,b,i,rfl,C,a.symm⟩,k _ _ (aL.refl _) dv⟩
  ·have f:=f;rw[c] at f;cases f
noncomputable def GP:Zae:=λ_=>.ok<|.dcu [] []
theorem JL:FN X E (.Dict [] [] pos) GP:=bJ Yx λb H Q ⟨c,M0,H0,ow,m,R,q⟩ p a=>q p _ (bH a _) a ⟨[],[],aX,rfl,rfl,.nil⟩
end
theorem CK (k:List Kt)(v:V):∀ι:List (List Kt×V),(ι.map λo=>if o.1=k then(o.1,v) else o).map (·.1)=ι.map (·.1)
 |[]=>rfl
 |p::ι=>by
  rw[ay,ay,ay,CK k v ι];split<;>rfl
theorem v5 {G:Gx}{O:Zaa}{H:Hp}{k:List Kt}{v:V}{d:D}(h:DV G O H v d):∀{ι:List (List Kt×V)} {ds:List D},DVs G O H (ι.map (·.2)) ds->DVs G O H ((ι.map λo=>if o.1=k then(o.1,v) else o).map (·.2)) (vq (ι.map (·.1)) ds k d)
 |[],_,.nil=>.nil
 |(k',v')::ι,_,.cons h1 hs=>by
  simp only[ay,vq];split
  ·exact .cons h<|v5 h hs
  ·exact .cons h1<|v5 h hs
theorem Qy {G:Gx}{O:Zaa}{H:Hp}{k:List Kt}{v:V}{d:D}{ι:List (List Kt×V)}{ds:List D}(h:DV G O H v d)(o:DVs G O H (ι.map (·.2)) ds):
  (putK ι k v).map (·.1)=(jH (ι.map (·.1)) ds k d).1/\DVs G O H ((putK ι k v).map (·.2)) (jH (ι.map (·.1)) ds k d).2:=by
 have e:(ι.any λa=>decide<|a.1=k)=(ι.map (·.1)).any λx=>decide (x=k):=by rw[List.any_map];rfl
 unfold putK jH;rw[e];split
 ·exact⟨CK k v ι,v5 h o⟩
 ·exact⟨by simp,by rw[cK];exact lu o<|.cons h .nil⟩
noncomputable def Jh (m:Me)(i:Nat):Option (Bool×List (List Kt)×List D):=match m[i]? with
 |some (.ow<|.dcu ks ds)=>some (true,ks,ds)
 |some (.io<|.dcu ks ds)=>some (false,ks,ds)
 |_=>none
noncomputable def uq (m:Me)(i:Nat)(k:Bool)(ks:List (List Kt))(ds:List D):Me:=m.set i<|if k then .ow (.dcu ks ds) else .io (.dcu ks ds)
section
variable {G:Gx}{O0 M0:Zaa}{H0:Hp}{ow:Os}{σ:L2.St}{H:Hp}{m:Me}
theorem O3 (R:Rel G O0 M0 H0 ow σ H m){i:Nat}{k:Bool}{ks:List (List Kt)}{ds:List D}(e:Jh m i=some (k,ks,ds)):∃a ι,ow i=some a/\σ[i]? = some (some<|.ref a)/\H a=some (.dT (KTp G.K) ι)/\ι.map (·.1)=ks/\DVs G (Ow O0 ow) H (ι.map (·.2)) ds/\((m[i]? = some (.ow<|.dcu ks ds)/\k=true)\/(m[i]? = some (.io<|.dcu ks ds)/\k=false)):=by
 unfold Jh at e;split at e
 ·rename_i q;cases e;obtain⟨a,b,j,f,ι,h,d,g,rfl,c⟩:=R.slot i _ q;exact⟨a,ι,b,f,d,g,c,.inl ⟨q,rfl⟩⟩
 ·rename_i q;cases e;obtain⟨a,b,j,f,ι,h,d,g,rfl,c⟩:=R.slot i _ q;exact⟨a,ι,b,f,d,g,c,.inr ⟨q,rfl⟩⟩
 ·cases e
theorem dF.uq {i:Nat}{k:Bool}{a:Addr}{ks ls:List (List Kt)}{ds es:List D}{ι:List (List Kt×V)}(R:dF G O0 M0 H0 ow σ H m)(o:ow i=some a)(C:(m[i]? = some (.ow<|.dcu ks ds)/\k=true)\/(m[i]? = some (.io<|.dcu ks ds)/\k=false))
  (hk:ι.map (·.1)=ls) (hd:DVs G (Ow O0 ow) H (ι.map (·.2)) es):dF G O0 M0 H0 ow σ (L2.upd H a<|.dT (KTp G.K) ι) (F.uq m i k ls es)/\Go O0 ow H ow (L2.upd H a<|.dT (KTp G.K) ι):=by
 have f:Ow O0 ow a:=.inr ⟨i,o⟩;have kp:Kp (Ow O0 ow) H (L2.upd H a<|.dT (KTp G.K) ι):=λb u e n=>jJ b u e λz=>n<|z▸f;have c:OV G (Ow O0 ow) (L2.upd H a<|.dT (KTp G.K) ι) a (.dcu ls es):=⟨ι,_,L2.aX,hk,rfl,hd.kp R.mutk kp⟩;refine⟨R.chg (d:=.dcu ks ds) (d':=.dcu ls es) o jJ c ?_,Go.chg o jJ c⟩;rcases C with⟨e,rfl⟩|⟨e,rfl⟩
 ·exact .inl ⟨e,rfl⟩
 ·exact .inr ⟨e,rfl⟩
end
def GR (i:Nat)(fk fv:Zae):Zab:=λm=>(fv m).bind λd=>(ofO<|Jh m i).bind λo=>(fk m).bind λk=>(ofO<|xf k).bind λk=>
 if o.2.1.length<ai then .ok (.nx,uq m i o.1 (jH o.2.1 o.2.2 k d).1 (jH o.2.1 o.2.2 k d).2) else .stuck
section
variable {X:Cx}{E:XK}{e ke:Expr}{f fk:Zae}{pos spos np:Pos}{x:Str}
theorem Q9 {jj:Nat}(i:Nat)(J:gG jj X.A)(he:FE X E e f)(hk:FE X E ke fk)(hN:X.N[i]? = some x:=by rfl)(C:Vis X.env.scope x:=by simp_wf)(hd:(x==("__debug__":Str))=false:=by decide)(I:(x==("__classdict__":Str))=false:=by decide)
  (U:d4 e (some<|.Subscript (.Name x np) ke spos) pos.line X.env=pure false:=by rfl):FS X E (.Assign [.Subscript (.Name x np) ke spos] e pos) (GR i fk f):=
 bW (xm (iM J) (iZ hN C hd I) hk he U) λW σ H G=>xq5 G λr M0 H0 ow m R q=>
  ⟨r,M0,H0,ow,m,R.toRel,(Ss.pu R.toRel q).imp (aL.refl _) λd q v V l C=>by
   obtain⟨o,z,q⟩:=Ss.ofO q;obtain⟨k,K,T⟩:=o;have g:=R.mono l;obtain⟨a,P,F,D,w,n,B,L⟩:=O3 g.toRel z;refine⟨_,D,r,M0,H0,ow,m,g.toRel,(Ss.pu g.toRel<|q.go<|Go.refl l).imp (aL.refl _) λY q Q S c h=>?_⟩;obtain⟨Z,O,q⟩:=Ss.ofO q;obtain⟨b,rfl,u⟩:=rC (.inl h) O;by_cases j:K.length<ai
   ·rw[if_pos j] at q;have R2:=g.mono c;obtain⟨p,s⟩:=Qy (C.mono c)<|B.mono c;rw[n] at p s;obtain⟨y,M⟩:=R2.uq F L p s;exact⟨a,_,rfl,Bw.t (c _ _ w) u (by rw[← a6,n];exact j),q _ _ _ y<|(Go.refl c).trans M⟩
   ·rw[if_neg j] at q;exact q.elim⟩
end
section
end
section
theorem Yi (J:(d==eW)=false)(C:s.heap.get? d=some o)(U:o.ExactDict)(I:o.data=.dict es ep)
  (k:Q (.ref s.heap.objs.size) { s with heap:=s.heap.push { cls:=.type "dict_keyiterator",data:=.fields #[.ref d,.int 0 0,.int es.size 0,.int ep 0] } }):bt (cx prog w) A (B4<|.ref d) Q E s:=by
 have ty:s.TypeIs (.ref d) "dict":=⟨o,C,U.1⟩;refine wpAny_pyIter_slot ty ya<|fT ya ty PySem.F.entry_dict_iter ?_<|PySem.F.args_dict_iter_1 _;unfold sx.«dict.__iter__» Builtin.Dict.dictSlotNone;refine ae<|ae<|kD ty<|af ?_;show bt _ _ (mo d >>= _) _ _ s;unfold mo;rw[if_neg (λz=>by rw[J] at z;cases z)];exact ae<|af<|ae<|gL C I<|ae<|iq C I<|ae<|eJ<|af ⟨_,rfl, "dict_keyiterator",_,⟨_,bg _ rfl,rfl⟩,fx.lookup,by simpa[uu] using k⟩
theorem V3 (C:s.heap.IsKeyIter it d i es.size ep)(J:s.heap.get? d=some o)(I:o.data=.dict es ep)
  (lt:i<es.size) (go:∀h',h'.IsKeyIter it d (i+1) es.size ep->iX it s.heap h'->Q (es[i]?.map (·.key)) { s with heap:=h' }):bt (cx prog w) A (AW<|.ref it) Q E s:=by
 obtain⟨q,b,e,a⟩:=id C;have ty:=C.typeIs;have c:=iS lt;have no:ia "dict_keyiterator" = false:=by decide
 have turned:(s.heap.update it<|oT (·.setIfInBounds 1 (uu<|(i:Int)+1))).IsKeyIter it d (i+1) es.size ep:=
  ⟨_,dE _ b<|qr<|kC a _,(Obj.cls_mapFields ..).trans e,by rw[kC a];simp[uu]⟩
 have fin:=go _ turned<|eA ..;rw[c] at fin;unfold AW;refine ae<|xo<|gy ty fx<|fT fx ty om ?_<|nE _;refine ae<|af<|ae<|ae ?_
 first
 |refine ae (i9 ty<|af<|ae<|kK b a ?_)
 |refine ae (kU ty<|af<|ae<|kK b a ?_)
 simp only[no,fA,if_false];show bt _ _ (if(eK d==i7)=true then _ else _) _ _ s;rw[if_neg λz=>by cases(z)];refine ae<|af<|ae<|gL J I ?_;rw[if_neg<|by simp];refine ae<|af<|ae<|iq J I ?_;rw[if_neg<|by simp];refine af ?_;simp only[show ¬((i:Int)<0) by lia,if_false,mP,c];refine ae ?_
 first
 |refine ae (i9 ty<|af<|ae<|qS ty ?_)
 |refine ae (kU ty<|af<|ae<|qS ty ?_)
 show bt _ _ (BN (.ref it) 1 (uu<|(i:Int)+1) >>= _) _ _ s;refine ae<|l7 b a (by simp)<|ae<|fF<|ae<|qS turned.typeIs ?_;exact(af<|af ⟨_,rfl,af fin⟩)
theorem next_end (U:A.handled=none)(C:s.heap.IsKeyIter it d es.size es.size ep)(J:s.heap.get? d=some o)(I:o.data=.dict es ep)
  (go:∀h',Heap.ExtBut it s.heap h'->Q none { s with heap:=h' }):bt (cx prog w) A (AW<|.ref it) Q E s:=by
 obtain⟨q,c,g,e⟩:=id C;have ty:=C.typeIs;have f:es[es.size]? = none:=yb<|aS _;have no:ia "dict_keyiterator" = false:=by decide
 unfold AW;refine ae<|xo<|gy (name:=eB "__next__") ty fx<|fT fx ty om ?_<|nE _;refine ae<|af<|ae<|ae ?_
 first
 |refine ae (i9 ty<|af<|ae<|kK c e ?_)
 |refine ae (kU ty<|af<|ae<|kK c e ?_)
 simp only[no,fA,if_false];show bt _ _ (if(eK d==i7)=true then _ else _) _ _ s;rw[if_neg λz=>by cases(show false=true from z)];refine ae<|af<|ae<|gL J I ?_;rw[if_neg<|by simp];refine ae<|af<|ae<|iq J I ?_;rw[if_neg<|by simp];refine af ?_;simp only[show ¬((es.size:Int)<0) by lia,if_false,mP,f];refine ae ?_
 first
 |refine ae (i9 ty<|af ?_)
 |refine ae (kU ty<|af ?_)
 show bt _ _ (BN (.ref it) 0 .none >>= _) _ _ s;refine ae<|l7 c e (by simp)<|show bt _ _ (newExc (.type "StopIteration") [] >>= _) _ _ _ from ae ?_;simp only[newExc,newTuple];refine ae<|eJ (ae (m:=ub _ _)<|wpAny_of_eq (a:=i7) (by first|rfl|(simp only[ub];rfl))<|eJ ?_<|by size_fits) (by size_fits);simp only[raiseNew];refine ae<|wpAny_handled ?_;rw[show A.in1.handled=none from U];refine ae<|af<|wpAny_throw<|ae ?_;refine rf (T:="StopIteration") (b:=true) ⟨_,bg _ rfl,rfl⟩ isSubtype_stop<|af ?_;exact go _<|((eA ..).extBut.push _).push _
end
section
variable {X:Cx}{E:XK}{rest:List Stmt}{k:Zab}
end
def keyV:Key->D
 | .inl i=>.int i
 | .inr z=>.str z
theorem abg:∀k:Key,DV G O H (kV k) (keyV k)
 | .inl i=>.int i
 | .inr z=>.str z
section
variable {X:Cx}{tg:Expr}
end
section
end
section
variable {pr:bE}{wo:eI}{A:fm}{R:Result->aI->Prop}{I:Addr}{fp wr:List Addr}{G:Array qc->Array qc->Prop}{n:Nat}{P:Nat->ax->Prop}{St:Nat->aI->Prop}
end
section
end
section
end
structure Wr (p:Prop):Prop where
 out:p
section
variable {X:Cx}{E:XK}{e a b c ke:Expr}{es:List Expr}{st:Stmt}{rest sa sb:List Stmt}{f fa fb fk:Zae}{fs:Zad}{ft:Zaf}{gg k ga gb:Zab}{pos pos' apos η np spos p:Pos}{i:Nat}{x:Str}
theorem BW (o:Wr (FS X E st gg))(C:Wr (FSs X E rest k)):Wr (FSs X E (st::rest)<|aH gg k):=⟨aA o.out C.out⟩
theorem Yr (o:Wr (FS X E st gg)):Wr (FSs X E [st] gg):=⟨aJ o.out⟩
theorem abO (C:X.N.Nodup)(I:X.N[i]? = some x)(hx:Loc X.env.scope x)(J:Wr (FN X E e f))(o:d4 e (some<|.Name x pos') pos.line X.env=pure false:=by rfl)
  (U:X.fn x=true\/X.env.scope.names.lookup x=some .local:=by clean_wf):Wr (FS X E (.Assign [.Name x pos'] e pos)<|eV i f):=⟨Yj C I hx J.out o U⟩
theorem afy (i:Nat)(he:Wr (FE X E e f))(hN:X.N[i]? = some x:=by rfl)(hv:Vis X.env.scope x:=by simp_wf)(hd:(x==("__debug__":Str))=false:=by decide)(C:(x==("__classdict__":Str))=false:=by decide)
  (I:gE (.Name x np) "append" X.env (eval (.Name x np) X.env)=eval (.Name x np) X.env:=by rfl)
  (ψ:((iE η<|ag [e] X.env).all (λx=>!x.1)&&(tm η<|md [] X.env).all (λx=>x.1.isSome)&&decide ([e].length+([]:List me).length+(if([]:List me).isEmpty then 0 else 1)<30))=true:=by rfl)
  (J:(apos.endLine==η.line)=true:=by rfl) (hs:ag [e] X.env=(false,eval e X.env)::ag [] X.env:=by rfl) (o:(iE η<|ag [] X.env).any (·.1)=false:=by rfl)
  (U:d4 (.Call (.Attribute (.Name x np) "append" apos) [e] [] η) none pos.line X.env=pure false:=by rfl):
  Wr (FS X E (.Expr (.Call (.Attribute (.Name x np) "append" apos) [e] [] η) pos)<|dh i f):=⟨iU i he.out hN hv hd C I ψ J hs o U⟩
theorem W0 (o:Wr (FE X E e fa))(I:Wr (FAE X E es fs))(C:ag (e::es) X.env=(false,eval e X.env)::ag es X.env:=by rfl):Wr (FAE X E (e::es)<|aa fa fs):=⟨ak o.out I.out C⟩
theorem afS (h:Wr (FAE X E es fs)):Wr (FE X E (.Tuple es x1 pos)<|bu fs):=⟨bB h.out⟩
theorem afr (h:Wr (FAE X E es fs)):Wr (FN X E (.List es pos)<|dW fs):=⟨fB h.out⟩
end
section
variable {pr:bE}{wo:eI}{A:fm}{E:Zs}{s:aI}{κ:Type}[DecidableEq κ]{kn:HeapKind pr wo κ}
theorem abu (I:kn.room A)(hk:kn.is s.heap k a)(J:s.heap.DictOfH kn d xs)(hz:xs.length<=ai)
  (C:∀p,BY xs k=some p->Q p.2 { s with toks:=s.toks+kn.draws k })
  (new:BY xs k=none->∀h',h'.DictOfH kn d (xs++[(k,a,v)])->iX d s.heap h'->Q v { s with heap:=h',toks:=s.toks+kn.draws k }):
  bt (cx pr wo) A (AD d (.ref a) v) Q E s:=by
 refine DG (id J) λo w m b q hd c i g=>?_;unfold AD;refine fF<|ae<|kn.pyHash I hk<|ae<|wpAny_dictFind_heap I hk b hd c i g (λno=>?_) λj p l=>?_
 ·have r:=atKey_none_of_get no;have t:=not_mem_keys_of_get no;have n:=size_of_entries c;refine ae (sf<|ae<|rS (hz:=by lia) (s:={ s with toks:=s.toks+kn.draws k }) b hd (af<|new r _ ⟨_,_,m+1,dE _ b<|sA<|jI hd _,q.mapDictKeys _,jI hd _,?_,λy f=>?_,?_⟩<|eA ..))
  ·simp[c,entryOfKey]
  ·rcases cE.mp f with z|z
   ·exact kn.keeps (i y z) b hd<|eA ..
   ·rw[cm.mp z];exact kn.keeps hk b hd<|eA ..
  ·rw[cK,wm];refine⟨g,by simp,λy f z h e=>t ?_⟩;have u:z=k:=cm.mp h;rw[← u,← e];exact f
 ·refine ae<|gL b hd ?_;rw[entry_at c j,l];exact ae<|sf<|af<|C p<|atKey_of_get g l
theorem YW (I:kn.room A.in1)(hk:kn.is s.heap k a)(o:s.heap.DictOfH kn d xs)(hz:xs.length<=ai)(hd:(d==eW)=false)
  (C:∀p,BY xs k=some p->Q p.2 { s with toks:=s.toks+kn.draws k })
  (new:BY xs k=none->∀h',h'.DictOfH kn d (xs++[(k,a,v)])->iX d s.heap h'->Q v { s with heap:=h',toks:=s.toks+kn.draws k }):
  bt (cx pr wo) A (call (.builtin "dict.setdefault") [.ref d,.ref a,v]) Q E s:=by
 refine fT r9 o.typeIs PySem.F.entry_dict_setdefault ?_<|PySem.F.args_dict_setdefault_3 _ _ _;unfold sx.«dict.setdefault»;refine ae ?_;unfold Builtin.Dict.keyAndDefault;refine ae<|kD o.typeIs ?_;show bt _ _ (pure (d,eK a,some v)) _ _ s;refine af ?_;show bt _ _ (if(d==eW)=true then _ else(AD d (.ref a) v >>= _)) _ _ s;rw[if_neg (by rw[hd];exact bp)];exact ae<|abu I hk o hz (λp e=>af ⟨p.2,rfl,C p e⟩) λe h' x y=>af ⟨v,rfl,new e h' x y⟩
end
def agP (K:bo)(o ty tx:TE):TE:=λe H Q=>o e H λx f=>∃a,x=.ref a/\IsD K f a/\ty e f λy g=>tx e g λz d=>∃c k b,d a=some (.dT (KTp K) c)/\y=.ref b/\TrT (KTp K) d b k/\c.length<ai/\
 (∀v,nj c k=some v->Q v d)/\(nj c k=none->Q z (upd d a<|.dT (KTp K)<|c++[(k,z)]))
section
theorem adS (hu:X.A.units+16<pk)(J:PE X o td)(he:PE X e ty)(C:PE X f tx)(m:M2 X o "setdefault" apos e f η):PE X (.Call (.Attribute o "setdefault" apos) [e,f] [] η) (agP X.K td ty tx):=by
 intro t s D H Q I h;refine wpAny_Call_method m.base m.few m.line ka r9 PySem.F.type_dict_setdefault<|thn (J t s D H _ I h) λu s1 j=>?_;obtain⟨x,H1,N,rx,a,V,d,Y⟩:=j;subst V;cases(rx);obtain⟨t1,W,_⟩:=acR N d;refine⟨t1,W,?_⟩;rw[m.trees];refine pE rfl (rL (oP (thn (he t s1 D H1 _ N Y) λiv s2 j=>xq2 j λy H2 I2 ry q2=>
  oP (thn (C t s2 D H2 _ I2 q2) λfv s3 j=>uS ?_))))
 obtain⟨z,R,n,O,r,k,b,B,ey,M,l,q3,q4⟩:=j;subst ey;cases(ry);obtain⟨sz,hd,Z,i,dd⟩:=Yk (zZ n) n.hok B;have hz:Z.length<=ai:=by rw[← mB i];exact sz
 have g:=i.val k;refine YW (nW hu) (uD n M) dd hz hd (λp T=>?_) λL h' w hs=>?_
 ·rw[T] at g;cases ev:nj r k with
  |none=>rw[ev] at g;cases g
  |some v=>
   rw[ev] at g;exact⟨v,R,n.tok _,g,q3 v ev⟩
 ·rw[L] at g;cases ev:nj r k with
  |some v=>rw[ev] at g;cases g
  |none=>
   have G:=i.put k M O;rw[Yq _ ev,storedH_new L] at G;refine DG w λq es U E S h3 h4 _ h5=>?_;refine⟨z,upd R a<|.dT (KTp X.K)<|r++[(k,z)],mF n (by rw[B];exact gu) hs ⟨q,E⟩ ⟨by rw[be,dP];lia,hd,_,G.keeps λc ys P=>?_,q,es,U,E,S,h3,h4,h5⟩,O,q4 ev⟩;rw[cB<|Vb P B λz=>nomatch z];exact P
end
def Zv (i:Nat)(fk fv:Zae):Zab:=λm=>(ofO<|Jh m i).bind λo=>(fk m).bind λk=>(fv m).bind λd=>(ofO<|xf k).bind λk=>
 if o.2.1.length<ai then .ok (.nx,if(dH o.2.1 o.2.2 k).isSome then m else uq m i o.1 (o.2.1++[k]) (o.2.2++[d])) else .stuck
section
theorem acM (i:Nat)(hr:gG jj X.A)(hk:FE X E ke fk)(he:FE X E e f)(U:M2 X (.Name x np) "setdefault" apos ke e η)(hN:X.N[i]? = some x:=by rfl)(C:Vis X.env.scope x:=by simp_wf)(hd:(x==("__debug__":Str))=false:=by decide)(I:(x==("__classdict__":Str))=false:=by decide)
  (J:d4 (.Call (.Attribute (.Name x np) "setdefault" apos) [ke,e] [] η) none pos.line X.env=pure false:=by rfl):FS X E (.Expr (.Call (.Attribute (.Name x np) "setdefault" apos) [ke,e] [] η) pos) (Zv i fk f):=
 bW (pW (adS (iM hr) (iZ hN C hd I) hk he U) J) λW σ H M=>xq5 M λy M0 H0 ow m R q=>by
  obtain⟨o,F,q⟩:=Ss.ofO q;obtain⟨k,z,O⟩:=o;refine Km (O3 R.toRel F) λa l L K w r G P=>?_;refine⟨_,K,a,rfl,.inr ⟨l,.inl w⟩,y,M0,H0,ow,m,R.toRel,(Ss.pu R.toRel q).imp (aL.refl _) λdk q T Z j p=>?_⟩;have u:=R.mono j;refine⟨y,M0,H0,ow,m,u.toRel,(Ss.pu u.toRel<|q.go<|Go.refl j).imp (aL.refl _) λd q v Y c C=>?_⟩;obtain⟨n,S,q⟩:=Ss.ofO q;obtain⟨b,rfl,B⟩:=rC (.inl<|p.mono c) S;have R2:=u.mono c;have t:=c _ _<|j _ _ w;have g:=(G.mono j).mono c;have h:=Rb (k:=n) g;rw[r] at h;by_cases s:z.length<ai
  ·rw[if_pos s] at q;refine⟨l,n,b,t,rfl,B,by rw[← a6 (f:=(·.1)),r];exact s,λV ev=>?_,λev=>?_⟩
   ·rw[ev] at h;rw[← h] at q;exact q _ _ _ R2<|Go.refl c
   ·rw[ev] at h;rw[← h] at q;obtain⟨D,Q⟩:=R2.uq (ls:=z++[n]) (es:=O++[d]) (ι:=l++[(n,v)]) L P (by simp[r]) (by rw[cK];exact lu g<|.cons C .nil);exact q _ _ _ D<|(Go.refl c).trans Q
  ·rw[if_neg s] at q;exact q.elim
end
def Aa (h:Heap)(d:Addr)(es:Array A1)(C:Nat):Prop:=∃o,h.get? d=some o/\o.ExactDict/\o.data=.dict es C
section
variable {prog:bE}{w:eI}{A:fm}{E:Zs}{s:aI}{d it v:Addr}{es:Array A1}{ep i:Nat}
theorem Aa.ty (x:Aa s.heap d es ep):s.TypeIs (.ref d) "dict":=let⟨o,h,c,_⟩:=x;⟨o,h,c.1⟩
theorem Aa.up (x:Aa h d es ep)(k:∀o,h.get? d=some o->h'.get? d=some o):Aa h' d es ep:=let⟨o,e,r⟩:=x;⟨o,k o e,r⟩
theorem VJ (o:(d==eW)=false)(x:Aa s.heap d es ep)
  (k:Q (.ref s.heap.objs.size) { s with heap:=s.heap.push { cls:=.type "dict_values",data:=.fields #[.ref d] } }):bt (cx prog w) A (call (.builtin "dict.values") [.ref d]) Q E s:=by
 refine fT wq x.ty PySem.F.entry_dict_values ?_<|PySem.F.args_dict_values_1 _;refine ae ?_;unfold AL;refine ae<|kD x.ty<|af ?_;show bt _ _ (mo d >>= _) _ _ s;unfold mo;rw[if_neg (λz=>by rw[o] at z;cases z)];exact ae<|af<|ae<|eJ<|af ⟨_,rfl,k⟩
theorem aft (C:s.heap.IsValuesView v d)(x:Aa s.heap d es ep)
  (k:Q (.ref s.heap.objs.size) { s with heap:=s.heap.push { cls:=.type "dict_valueiterator",data:=.fields #[.ref d,.int 0 0,.int es.size 0,.int ep 0] } }):bt (cx prog w) A (B4<|.ref v) Q E s:=by
 obtain⟨q,c,f,e⟩:=id C;obtain⟨o,b,g,a⟩:=id x;have no:ia "dict_valueiterator" = false:=by decide
 refine wpAny_pyIter_slot C.typeIs rg<|fT rg C.typeIs PySem.F.entry_dict_values_iter ?_<|PySem.F.args_dict_values_iter_1 _;unfold sx.«dict_values.__iter__»;refine ae<|af<|ae ?_;unfold Builtin.Dict_items.dictOf;refine ae<|og c e rfl<|af<|ae ?_;unfold Builtin.Dict_items.newIterator;refine ae<|gL b a<|ae<|iq b a ?_;simp only[no,fA,if_false];exact eJ<|af ⟨_,rfl, "dict_valueiterator",_,⟨_,bg _ rfl,rfl⟩,eT.lookup,by simpa[uu] using k⟩
theorem afv (C:s.heap.IsValIter it d i es.size ep)(x:Aa s.heap d es ep)
  (lt:i<es.size) (go:∀h',h'.IsValIter it d (i+1) es.size ep->iX it s.heap h'->Q (some es[i].val) { s with heap:=h' }):bt (cx prog w) A (AW<|.ref it) Q E s:=by
 obtain⟨q,b,g,a⟩:=id C;obtain⟨o,c,h,e⟩:=id x;have ty:=C.typeIs;have f:=iS lt;have no:ia "dict_valueiterator" = false:=by decide
 have turned:(s.heap.update it<|oT (·.setIfInBounds 1 (uu<|(i:Int)+1))).IsValIter it d (i+1) es.size ep:=
  ⟨_,dE _ b<|qr<|kC a _,(Obj.cls_mapFields ..).trans g,by rw[kC a];simp[uu]⟩
 have fin:=go _ turned<|eA ..;unfold AW;refine ae<|xo<|gy ty eT<|fT eT ty nh ?_<|mT _;refine ae<|af<|ae<|ae ?_
 first
 |refine ae (ja ty<|af<|ae<|kK b a ?_)
 |refine ae (kX ty<|af<|ae<|kK b a ?_)
 simp only[no,fA,if_false];show bt _ _ (if(eK d==i7)=true then _ else _) _ _ s;rw[if_neg λz=>by cases(z)];refine ae<|af<|ae<|gL c e ?_;rw[if_neg<|by simp];refine ae<|af<|ae<|iq c e ?_;rw[if_neg<|by simp];refine af ?_;simp only[show ¬((i:Int)<0) by lia,if_false,mP,f];refine ae ?_
 first
 |refine ae (ja ty<|af<|ae<|mr ty ?_)
 |refine ae (kX ty<|af<|ae<|mr ty ?_)
 show bt _ _ (BN (.ref it) 1 (uu<|(i:Int)+1) >>= _) _ _ s;refine ae<|l7 b a (by simp)<|ae<|fF ?_;refine ae<|mr turned.typeIs ?_;refine ae<|mr turned.typeIs ?_;exact(af<|af ⟨_,rfl,af fin⟩)
theorem U4 (I:A.handled=none)(C:s.heap.IsValIter it d es.size es.size ep)(x:Aa s.heap d es ep)
  (go:∀h',Heap.ExtBut it s.heap h'->Q none { s with heap:=h' }):bt (cx prog w) A (AW<|.ref it) Q E s:=by
 obtain⟨q,c,i,e⟩:=id C;obtain⟨o,g,j,f⟩:=id x;have ty:=C.typeIs;have h:es[es.size]? = none:=yb<|aS _;have no:ia "dict_valueiterator" = false:=by decide
 unfold AW;refine ae<|xo<|gy (name:=eB "__next__") ty eT<|fT eT ty nh ?_<|mT _;refine ae<|af<|ae<|ae ?_
 first
 |refine ae (ja ty<|af<|ae<|kK c e ?_)
 |refine ae (kX ty<|af<|ae<|kK c e ?_)
 simp only[no,fA,if_false];show bt _ _ (if(eK d==i7)=true then _ else _) _ _ s;rw[if_neg λz=>by cases(show false=true from z)];refine ae<|af<|ae<|gL g f ?_;rw[if_neg<|by simp];refine ae<|af<|ae<|iq g f ?_;rw[if_neg<|by simp];refine af ?_;simp only[show ¬((es.size:Int)<0) by lia,if_false,mP,h];refine ae ?_
 first
 |refine ae (ja ty<|af ?_)
 |refine ae (kX ty<|af ?_)
 show bt _ _ (BN (.ref it) 0 .none >>= _) _ _ s;refine ae<|l7 c e (by simp)<|show bt _ _ (newExc (.type "StopIteration") [] >>= _) _ _ _ from ae ?_;simp only[newExc,newTuple];refine ae<|eJ (ae (m:=ub _ _)<|wpAny_of_eq (a:=i7) (by first|rfl|(simp only[ub];rfl))<|eJ ?_<|by size_fits) (by size_fits);simp only[raiseNew];refine ae<|wpAny_handled ?_;rw[show A.in1.handled=none from I];refine ae<|af<|wpAny_throw<|ae ?_;refine rf (T:="StopIteration") (b:=true) ⟨_,bg _ rfl,rfl⟩ isSubtype_stop<|af ?_;exact go _<|((eA ..).extBut.push _).push _
theorem afZ (C:A.handled=none)(I:d≠it):Walks prog w A it [it,d] [it] es.size (λi v=>∃e,es[i]? = some e/\v=e.val) (λi h=>h.IsValIter it d i es.size ep/\Aa h d es ep) where
 sub:=λb m=>by simp at m;simp[m]
 frame:=λ_ _ _ f n=>⟨let⟨o,e,r⟩:=f.1;⟨o,n it (by simp) o e,r⟩,f.2.up λo e=>n d (by simp) o e⟩
 item:=λi s Q E l f go=>afv f.1 f.2 l λg a b=>go _ g s.toks ⟨_,iS l,rfl⟩ ⟨a,f.2.up λo e=>(b.2 d I).trans e⟩ λc o j e=>(b.2 c λz=>j<|by simp[z]).trans e
 done:=λs Q E f go=>U4 C f.1 f.2 λg a=>go g s.toks λc o j e=>a c o (λz=>j<|by simp[z]) e
 self:=λ_ _ _ _ f k=>wpAny_pyIter_valiter f.1 k
end
section
variable {X:Cx}
def Jx (p a:Addr)(h:Heap):Prop:=h.IsValuesView p a
theorem U8 (I:Inv X π σ H s)(e:H a=some (.dT T ι)):
  ι.length<=ai/\(a==eW)=false/\∃es C,Aa s.heap a es C/\es.size=ι.length/\Vals (ι.map (·.2)) (es.toList.map (·.val)):=by
 obtain⟨d,hd,k,b,o,es,C,g,j,f,c,i⟩:=I.hok a _ e;refine⟨d,hd,es,C,⟨o,g,j,f⟩,?_,?_⟩
 ·rw[size_of_entries c,mB b]
 ·rw[c,kg];clear c d hd i e;induction b with
  |nil=>exact .nil
  |cons h _ ih=>exact .cons h.2.2 ih
def afa (X:Cx):V->List V->Hp->VK->Prop:=λx b H Q=>∃a c,x=.ref a/\b=[]/\H a=some (.dT (KTp X.K) c)/\∀p,H p=none->Q (.ref p) (upd H p<|.ext<|Jx p a)
theorem ZR:MtR X "dict.values" (afa X):=by
 intro n s u H x g v l Q I d f h;obtain⟨a,i,rfl,rfl,e,q⟩:=h;cases d;have c:=f.zero;subst c;obtain⟨p,hd,y,m,x,_⟩:=U8 I e;refine VJ hd x ?_;refine⟨.ref _,_,I.laid (t':=s.toks) (λb o e=>ar _ e) (aS _)<|show gO X.prog X.w _ _ _ (.ext<|Jx s.heap.objs.size a) from⟨⟨_,bg _ rfl,rfl,rfl⟩,⟨_,bg _ rfl⟩,λt j ⟨o,e,r⟩ k=>⟨o,k o e,r⟩⟩,rfl,q _<|I.hok.fresh<|aS _⟩
theorem agk {es:Array A1}:W.KdlSrc X.prog X.w "dict_values" r d es.size (λi v=>∃e,es[i]? = some e/\v=e.val) (λh=>h.IsValuesView r d/\Aa h d es ep) where
 type:=λ_ m=>m.1.typeIs
 there:=λ_ m=>⟨let⟨_,e,_⟩:=m.1;aE e,let⟨_,e,_⟩:=m.2;aE e⟩
 keep:=λ_ _ m k=>⟨let⟨o,e,x⟩:=m.1;⟨o,k r (.inl rfl) o e,x⟩,m.2.up λo e=>k d (.inr rfl) o e⟩
 notList:=by decide
 notTuple:=by decide
 hint:=λ_ _ _ _ m q=>W.kdl_hint_values m.1.typeIs q
 iter:=λ_ _ a m=>⟨_,_,(λ_ _ q=>aft m.1 m.2 q),afZ a (let⟨_,e,_⟩:=m.2;cw (aE e)),⟨⟨_,bg _ rfl,rfl,rfl⟩,m.2.up λo e=>ar _ e⟩⟩
def rLV (X:Cx):List V->Hp->VK->Prop:=λc H Q=>∃p a b,c=[.ref p]/\H p=some (.ext<|Jx p a)/\H a=some (.dT (KTp X.K) b)/\∀l,H l=none->Q (.ref l) (upd H l<|.lst<|b.map (·.2))
theorem NT (o:X.calm=true):gU X (.type "list") (rLV X):=by
 intro L s M H G F Q I r h;obtain⟨p,a,k,rfl,m,e,q⟩:=h;obtain⟨u,rfl,t⟩:=vals1 r;cases t;obtain⟨A,hd,j,K,x,sz,f⟩:=U8 I e;obtain⟨l,_⟩:=I.hok p _ m;refine W.kdl_call (agk) (I.ok.hd o) ⟨l,x⟩ (by lia) λv tk b c kp n B=>?_;have D:b.toList=j.toList.map (·.val):=by
  obtain⟨z,h⟩:=B;refine List.ext_getElem (by simp[z]) λi g E=>?_;obtain⟨y,d,ev⟩:=h i b[i] (by simp at g;simp[g]);obtain⟨lt,d⟩:=fg.mp d;simp only[Au,List.getElem_map];rw[ev,d]
 refine⟨.ref _,_,I.laid (t':=tk) kp (aS _)<|show gO X.prog X.w _ v _ (.lst<|k.map (·.2)) from⟨by rw[a6];exact A,j.toList.map (·.val),c,f,?_⟩,rfl,q _<|I.hok.fresh<|aS _⟩;rw[← D];simpa using n
end
noncomputable def M4 (o:Zae):Zae:=λm=>(o m).bind λd=>match d with
 | .dcu _ ds=>.ok<|.lst ds
 |_=>.stuck
section
theorem YF (hc:X.calm=true)(U:Gl X "list")(hm:X.mg "list" = none)(J:FB X E o fo)(θ:gE o "values" X.env (eval o X.env)=eval o X.env:=by rfl)(I:(apos.endLine==η.line)=true:=by rfl)
  (C:ag [.Call (.Attribute o "values" apos) [] [] η] X.env=(false,eval (.Call (.Attribute o "values" apos) [] [] η) X.env)::ag [] X.env:=by rfl):
  FN X E (.Call (.Name "list" p) [.Call (.Attribute o "values" apos) [] [] η] [] pos) (M4 fo):=
 bJ (uN (NT hc) U hm nG (cL (Ib ka wq PySem.F.type_dict_values ZR J θ I) jh C) (by decide) (by decide) C rfl) λG H Q h=>by
  refine Hc h λu M0 H0 ow m R q=>?_;refine⟨u,M0,H0,ow,m,R,q.bind.imp (aL.refl _) λd q v k s g=>?_⟩;cases d with
  |dcu ks ds=>
   obtain⟨a,f,rfl,e,D,hd⟩:∃a f,v=.ref a/\k a=some (.dT (KTp X.K) f)/\f.map (·.1)=ks/\DVs (gx X) (Ow u ow) k (f.map (·.2)) ds:=by
    rcases g with g|⟨a,rfl,_,g⟩
    ·cases g with
     |dcu n e a b C=>subst b;exact⟨_,_,rfl,e,a,C⟩
    ·refine zT g λf B e x A C=>?_;subst A;exact⟨a,f,rfl,e,x,C⟩
   refine⟨.inr<|.inr<|.inl ⟨rfl,.inr ⟨_,f,.inl e⟩⟩,a,f,rfl,rfl,e,λb t=>?_⟩;have y:a≠b:=λz=>by rw[z,t] at e;cases e
   refine⟨b,a,f,rfl,aX,by rw[cB y];exact e,λl i=>?_⟩;have w:l≠b:=λz=>by rw[z,aX] at i;cases i
   have j:k l=none:=by rw[cB w] at i;exact i
   have r:aL k (upd (upd k b<|.ext<|Jx b a) l<|.lst<|f.map (·.2)):=(bH t _).trans<|bH i _;exact q l _ (s.trans r) (s.free j) ⟨_,aX,(hd.bQ λc z=>z.elim .inl λe=>.inr (by rw[e];exact j)).mono r⟩
  |_=>exact q.elim
end
def acO (K:bo)(tk o:TE):TE:=λd H Q=>∀p,H p=none->tk d (upd H p<|.dT (KTp K) []) λx e=>o d e λy a=>
 a p=some (.dT (KTp K) [])/\∃c b,x=.ref b/\TrT (KTp K) a b c/\Q (.ref p) (upd a p<|.dT (KTp K) [(c,y)])
section
theorem WL (hu:X.A.units+16<pk)(hk:PE X k tk)(C:PE X v tv):PE X (.Dict [some k] [v] pos) (acO X.K tk tv):=by
 intro n s t H Q I q;have J:=I.hok.fresh<|aS s.heap.objs.size;have E:=I.laid (a:=s.heap.objs.size) (o:=.dT (KTp X.K) []) (h':=s.heap.push { cls:=.type "dict",data:=.dict #[] }) (t':=s.toks) (λ_ _ q=>ar _ q) (aS _)<|Mp s.heap I.big;have d:(pairTrees [some k] [v] X.env pos).length=1:=pairTrees_length [some k] [v] X.env pos rfl rfl;rw[arm_eval_Dict,zip_pairTrees [some k] [v] X.env pos rfl rfl,dictDisplay_pairs _ (λz=>by rw[z] at d;cases d) (by rw[d];decide)];refine ae<|r6<|ae ?_;unfold subDict;refine ae<|wpAny_alloc<|ae<|fF ?_;rw[if_pos (by rw[d];decide)];refine ae<|pairTrees_cons_walk<|thn (hk n _ t _ _ E<|q _ J) λu Y ⟨x,R,U,P,L⟩=>thn (C n Y t R _ U L) λr V N=>pairTrees_nil_walk<|fF ?_;obtain⟨y,m,f,S,e,O,b,D,i,Z⟩:=N;subst D;cases(show u=eK b from P);obtain⟨z,hd,xs,g,F⟩:=Yk (zZ f) f.hok e;cases g;rw[zh];refine ae<|ae ?_;show bt _ _ (dictSet s.heap.objs.size (.ref b) r >>= _) _ _ V;refine(ae<|wpAny_dictSet_heap (hsz:=d5 _) (show X.A.units+8<pk by lia) (uD f i) F λT h G=>af ?_);dsimp only;rw[List.forIn_nil];refine af<|af<|af<|af ?_;refine DG h λl es M j w W B _ h5=>?_;refine⟨.ref s.heap.objs.size,upd m s.heap.objs.size<|.dT (KTp X.K) [(O,y)],mF f (by rw[e];exact gu) G ⟨l,j⟩ ⟨by show 1<=_;decide,hd,_,?_,l,es,M,j,w,W,B,h5⟩,rfl,Z⟩;refine KT.keeps (H:=m) (Paired.cons ⟨rfl,i,S⟩ .nil) λc ys p=>?_;rw[cB<|Vb p e λz=>nomatch z];exact p
end
def Oi (fk fv:Zae):Zae:=λm=>(fk m).bind λk=>(fv m).bind λd=>(ofO<|xf k).bind λa=>.ok<|.dcu [a] [d]
section
theorem V0 (I:gG j X.A)(hk:FE X E k fk)(C:FE X E v fv):FN X E (.Dict [some k] [v] pos) (Oi fk fv):=
 bJ (WL (iM I) hk C) λM H Q B p f=>by
  refine Hc B λi M0 H0 ow m R q=>?_;have g:aL H (upd H p<|.dT (KTp X.K) []):=bH f _;have r:=R.more g f (by rw[aX];exact .inr<|.inr<|.inl ⟨(KTp X.K,[]),rfl⟩);refine⟨Op i p,M0,H0,ow,m,r,q.bind.imp g λG q x L a D=>⟨Op i p,M0,H0,ow,m,r.mono a,q.bind.imp (g.trans a) λd q y l h u=>?_⟩⟩;obtain⟨s,F,q⟩:=q.bind.ofO;obtain⟨b,rfl,t⟩:=rC (.inl<|D.mono h) F;have w:l p=some (.dT (KTp X.K) []):=h _ _<|a _ _ aX;have R2:=(r.mono a).mono h;have kp:Kp (Ow (Op i p) ow) l (upd l p<|.dT (KTp X.K) [(s,y)]):=λc o e n=>by rw[cB λz=>n<|.inl<|.inr z];exact e
  refine⟨w,s,b,rfl,t,q p _ (λc o e=>?_) f ⟨_,_,aX,rfl,rfl,.cons ((u.kp R2.mutk kp).bQ λc z=>.inl ?_) .nil⟩⟩
  ·rw[cB (λz=>by rw[z,f] at e;cases e)];exact h _ _<|a _ _<|g _ _ e
  ·rcases z with(z|z)|z
   ·exact .inl<|.inl z
   ·exact .inr z
   ·exact .inl<|.inr z
end
noncomputable def ym:List ((Zae)×(Zae))->Me->Res (List<|D×D)
 |[],_=>.ok []
 |f::r,m=>(f.1 m).bind λk=>(f.2 m).bind λd=>(ym r m).bind λl=>.ok ((k,d)::l)
inductive DPs (G:Gx)(O:Zaa)(H:Hp):List (V×V)->List (D×D)->Prop where
 |nil:DPs G O H [] []
 |cons {x y:V} {k d:D} {ps:List (V×V)} {l:List (D×D)}:DV G O H x k->DV G O H y d->DPs G O H ps l->DPs G O H ((x,y)::ps) ((k,d)::l)
theorem DPs.mono (g:aL H H'):∀{ps:List (V×V)} {l:List (D×D)},DPs G O H ps l->DPs G O H' ps l
 |_,_,.nil=>.nil
 |_,_,.cons a b r=>.cons (a.mono g) (b.mono g)<|r.mono g
def JH:List Key->List D->List (D×D)->Option (List Key×List D)
 |ks,ds,[]=>some (ks,ds)
 |ks,ds,p::r=>(jW p.1).bind λk=>JH (putD ks ds k p.2).1 (putD ks ds k p.2).2 r
def abK (fs:List ((Zae)×(Zae))):Zae:=λm=>(ym fs m).bind λl=>if l.length<=15 then(ofO<|JH [] [] l).bind λr=>.ok (.dct r.1 r.2) else .stuck
abbrev J0 (X:Cx)(E:XK)(fs:List ((Zae)×(Zae))):List (TE×TE):=fs.map λf=>(tE (gx X) E f.1,tE (gx X) E f.2)
section
theorem Mq:∀(fs:List ((Zae)×(Zae))) {H:Hp} {K:List (D×D)->Prop} {Q:List (V×V)->Hp->Prop},aL Hb H->Rel (gx X) O0 M0 H0 ow σ H m->Pu (gx X) E (ym fs m) Hb K->
  (∀l ps H',K l->aL H H'->DPs (gx X) (Ow O0 ow) H' ps l->Q ps H')->yU (J0 X E fs) σ H Q
 |[],H,K,Q,_,R,q,f=>f [] [] H q (aL.refl _) .nil
 |g::r,H,K,Q,gb,R,q,f=>by
  refine⟨O0,M0,H0,ow,m,R,q.bind.imp gb λj q x p a i=>⟨O0,M0,H0,ow,m,R.mono a,q.bind.imp (gb.trans a) λd q y n b e=>?_⟩⟩;refine Mq r ((gb.trans a).trans b) ((R.mono a).mono b) q.bind λl ps s k c h=>?_;exact f _ _ _ k ((a.trans b).trans c)<|.cons ((i.mono b).mono c) (e.mono c) h
theorem MK:∀{l:List (D×D)} {ps:List (V×V)} {ks C:List Key} {ds o:List D} {acc:List (Key×V)},DPs G O H ps l->JH ks ds l=some (C,o)->acc.map (·.1)=ks->DVs G O H (acc.map (·.2)) ds->
  ∃ι:List (Key×V),ps=ι.map (λI=>(kV I.1,I.2))/\(lJ acc ι).map (·.1)=C/\DVs G O H ((lJ acc ι).map (·.2)) o
 |_,_,ks,C,ds,o,acc,.nil,e,e1,e2=>by cases e;exact⟨[],rfl,e1,e2⟩
 |_,_,ks,C,ds,o,acc,.cons (y:=y) a b r,e,e1,e2=>by
  obtain⟨k,j,e⟩:=gS.mp e;have h:=tD (.inl a) j;obtain⟨d,c⟩:=Bh (k:=k) b e2;rw[e1] at d c;obtain⟨ι,f,i,g⟩:=MK (acc:=putK acc k y) r e d c;exact⟨(k,y)::ι,by rw[ay,← f,h],i,g⟩
theorem DPs.bQ (s:∀b,O' b->O b\/H b=none):∀{ps:List (V×V)} {l:List (D×D)},DPs G O H ps l->DPs G O' H ps l
 |_,_,.nil=>.nil
 |_,_,.cons a b r=>.cons (a.bQ s) (b.bQ s)<|r.bQ s
theorem DPs.len:∀{ps:List (V×V)} {l:List (D×D)},DPs G O H ps l->ps.length=l.length
 |_,_,.nil=>rfl
 |_,_,.cons _ _ r=>by rw[cy,cy,r.len]
theorem Zg (h:PPs X pos keys values (J0 X E fs))(C:keys.all (·.isSome)=true)(J:keys.length=values.length)(U:keys≠[])(I:keys.length<=15):
  FN X E (.Dict keys values pos) (abK fs):=
 bJ (Qe h C J U I) λB H Q t p b=>by
  refine Hc t λw M0 H0 ow m R q=>?_;have d:aL H (upd H p<|.dK []):=bH b _;have k:=R.more d b (by rw[aX];exact .inr<|.inl ⟨[],rfl⟩);refine Mq fs d k q.bind λl A g q f a=>?_;obtain⟨y,q⟩:=Bs q;obtain⟨r,v,q⟩:=q.bind.ofO;have R2:=k.mono f;have s:g p=some (.dK []):=f _ _ aX;obtain⟨i,j,x,u⟩:=MK (acc:=[]) a v rfl .nil;have len:=a.len;rw[j,a6] at len;have kp:Kp (Ow (Op w p) ow) g (upd g p<|.dK<|lJ [] i):=λc o e n=>by rw[cB λz=>n<|.inl<|.inr z];exact e
  refine⟨s,i,j,by lia,q p _ (λc o e=>?_) b ⟨_,_,aX,x,rfl,(u.kp R2.mutk kp).bQ λc z=>.inl ?_⟩⟩
  ·rw[cB (λz=>by rw[z,b] at e;cases e)];exact f _ _<|d _ _ e
  ·rcases z with(z|z)|z
   ·exact .inl<|.inl z
   ·exact .inr z
   ·exact .inl<|.inr z
end
section
end
section
variable {pr:bE}{wo:eI}{κ:Type}[DecidableEq κ]{kn:KeyKind pr wo κ}{A:fm}{R:Result->aI->Prop}{I:Addr}{fp wr:List Addr}{G:Array qc->Array qc->Prop}{n:Nat}{P:Nat->ax->Prop}{St:Nat->aI->Prop}
end
section
variable {pr:bE}{wo:eI}{κ:Type}[DecidableEq κ]{kn:KeyKind pr wo κ}{A:fm}{E:Zs}{s:aI}
end
section
end
def Ds (ls:List Key)(us:List D):List Key->List D->Option Bool
 |[],[]=>some true
 |k::ks,d::ds=>match nH ls us k with
  |none=>some false
  |some y=>(uE d y).bind λe=>(Ds ls us ks ds).map (e && ·)
 |_,_=>none
def Zk:D->D->Option Bool
 | .dct ks vs,.dct ls us=>if ks.length=ls.length then Ds ls us ks vs else some false
 |_,_=>none
def Xw (d e:D):Option Bool:=(Zk d e).map (!·)
section
theorem abA (I:Inv X π σ H s){O:Zaa}{A:fm}(hu:A.in1.units+64<pk){U:List (Key×V)}{o:List (Key×ax)}{us:List D}(rb:KV U o)(hb:DVs (gx X) O H (U.map (·.2)) us):
  ∀{C:List (Key×V)} {J:List (Key×ax)} {vs:List D} {r:Bool},KV C J->DVs (gx X) O H (C.map (·.2)) vs->Ds (U.map (·.1)) us (C.map (·.1)) vs=some r->W.KeqHits A.in1 s o J r:=by
 intro C J vs r l;unfold KV at l;induction l generalizing vs r with
 |nil=>intro h e;cases h;cases e;exact .nil
 | @cons p q ps qs h t ih=>
  intro hd e;cases hd with
  |cons a rest=>
   obtain⟨k,x⟩:=p;obtain⟨k',w⟩:=q;obtain⟨j,i⟩:=h;simp only at j i;subst j;have m:=uO (k:=k) hb;have b:=rb.val k;rw[ay,Ds] at e;rcases m with⟨v,d,g,f,E⟩|⟨g,f⟩
   ·rw[f] at e;obtain⟨c,K,n⟩:=gS.mp e;obtain⟨P,F,rfl⟩:=iO.mp n;obtain⟨N,Q,u,B,G,z,rfl⟩:=zq K;rw[g] at b;cases ev:zd o k with
    |none=>rw[ev] at b;cases b
    |some y=>
     rw[ev] at b;obtain⟨as,L⟩:=(uH (.inl a) u).reads I i;obtain⟨bs,M⟩:=(uH (.inl E) B).reads I b;exact .hit ev (W.keq_at L M G z hu)<|ih rest F
   ·rw[f] at e;cases e;rw[g] at b;cases ev:zd o k with
    |none=>exact .miss ev
    |some y=>rw[ev] at b;cases b
theorem Z3 (U:DW (gx X) O H x d)(hy:DW (gx X) O H y e)(I:Zk d e=some r):
  ∃a b o C J us,x=.ref a/\y=.ref b/\Rd H a (.dK o)/\Rd H b (.dK C)/\DVs (gx X) O H (o.map (·.2)) J/\DVs (gx X) O H (C.map (·.2)) us/\
   ((o.length=C.length/\Ds (C.map (·.1)) us (o.map (·.1)) J=some r)\/(¬o.length=C.length/\r=false)):=by
 match d,e,I with
 | .dct ks J,.dct ls us,I=>
  obtain⟨a,o,i,rfl,g,rfl,rfl,c⟩:=sX U;obtain⟨b,C,j,rfl,h,rfl,rfl,f⟩:=sX hy;refine⟨a,b,o,C,J,us,rfl,rfl,g,h,c,f,?_⟩;unfold Zk at I;simp only[a6] at I;by_cases z:o.length=C.length
  ·rw[if_pos z] at I;exact .inl ⟨z,I⟩
  ·rw[if_neg z] at I;cases I;exact .inr ⟨z,rfl⟩
theorem aap (o:gG j X.A):OpR X (eM .NotEq) (rGB (gx X) Xw):=by
 intro π s σ H x y v u Q I M N h;refine pL h λO d e U m P F k q=>?_;obtain⟨r,K,rfl⟩:=iO.mp k;obtain⟨a,b,G,L,Y,C,rfl,rfl,R,E,i,g,l⟩:=Z3 P F K;cases(show v=eK a from M);cases(show u=eK b from N);obtain⟨J,B,c,p,S⟩:=tH I.hok R;obtain⟨zb,D,f,t,T⟩:=tH I.hok E;have V:X.A.in1.units+64<pk:=by have:=o.un;show X.A.units+1+64<pk;lia
 have Z:=p.length;have lb:=t.length;refine W.keq_ne (r:=r) B D S T o.adV (λz=>?_) ?_
 ·rcases l with⟨_,w⟩|⟨n,_⟩
  ·exact abA I V t g p i w
  ·exact absurd (by lia) n
 ·refine cO I q ?_;rcases l with⟨z,_⟩|⟨n,rfl⟩
  ·rw[show(c.length==f.length)=true by simpa using(by lia:c.length=f.length)];rfl
  ·simp
end
section
end
section
theorem aeD (I:A.handled=none)(J:d≠it)(C:o.data=.dict es ep):Walks prog w A it [it,d] [it] es.size (λi v=>∃e,es[i]? = some e/\v=e.key) (λi h=>h.IsKeyIter it d i es.size ep/\h.get? d=some o) where
 sub:=λb m=>by simp at m;simp[m]
 frame:=λ_ _ _ f n=>⟨let⟨o,e,r⟩:=f.1;⟨o,n it (by simp) o e,r⟩,n d (by simp) _ f.2⟩
 item:=λi s Q E g f go=>V3 f.1 f.2 C g λj a b=>by
  rw[iS g];exact go _ j s.toks ⟨_,iS g,rfl⟩ ⟨a,(b.2 d J).trans f.2⟩ λc o l e=>(b.2 c λz=>l<|by simp[z]).trans e
 done:=λs Q E f go=>next_end I f.1 f.2 C λj a=>go j s.toks λc o l e=>a c o (λz=>l<|by simp[z]) e
 self:=λ_ _ _ _ f k=>wpAny_pyIter_keyiter f.1 k
end
section
variable {X:Cx}
theorem agw {o:Obj}{d:Addr}{es:Array A1}{J:Nat}(U:(d==eW)=false)(C:o.ExactDict)(I:o.data=.dict es J):W.KdlSrc X.prog X.w "dict" d d es.size (λi v=>∃e,es[i]? = some e/\v=e.key) (λh=>h.get? d=some o) where
 type:=λ_ m=>⟨o,m,C.1⟩
 there:=λ_ m=>⟨aE m,aE m⟩
 keep:=λ_ _ m k=>k d (.inl rfl) o m
 notList:=by decide
 notTuple:=by decide
 hint:=λ_ _ _ _ m q=>W.kdl_hint_dict ⟨o,m,C.1⟩ q
 iter:=λ_ _ a m=>⟨_,_,(λ_ _ q=>Yi U m C I q),aeD a (cw<|aE m) I,⟨⟨_,bg _ rfl,rfl,rfl⟩,ar _ m⟩⟩
end
section
end
section
end
noncomputable def Ja (m:Me)(i:Nat):Option (Bool×D):=match m[i]? with
 |some (.ow d)=>some (true,d)
 |some (.io d)=>some (false,d)
 |_=>none
noncomputable def CN (m:Me)(i:Nat)(k:Bool)(d:D):Me:=m.set i<|if k then .ow d else .io d
section
variable {G:Gx}{O0 M0:Zaa}{H0:Hp}{ow:Os}{σ:L2.St}{H:Hp}{m:Me}
theorem Y9 (R:Rel G O0 M0 H0 ow σ H m){i:Nat}{k:Bool}{d:D}(e:Ja m i=some (k,d)):∃a,ow i=some a/\σ[i]? = some (some<|.ref a)/\OV G (Ow O0 ow) H a d/\((m[i]? = some (.ow d)/\k=true)\/(m[i]? = some (.io d)/\k=false)):=by
 unfold Ja at e;split at e
 ·rename_i q;cases e;obtain⟨a,b,g,f,c⟩:=R.slot i _ q;exact⟨a,b,f,c,.inl ⟨q,rfl⟩⟩
 ·rename_i q;cases e;obtain⟨a,b,g,f,c⟩:=R.slot i _ q;exact⟨a,b,f,c,.inr ⟨q,rfl⟩⟩
 ·cases e
end
def lM {o:Type}(p:Nat)(x:o)(l:List o):List o:=l.take p++x::l.drop p
theorem Bv {o:Type}{p:Nat}{x:o}{l:List o}:(lM p x l).length=l.length+1:=by
 simp[lM];lia
theorem RL {o:Type}{p:Nat}{x:o}{l:List o}(h:p<=l.length):(lM p x l)[p]? = some x:=by
 unfold lM;rw[cp (by simp;lia)];simp[Nat.min_eq_left h]
theorem Rf {o:Type}{p i:Nat}{x:o}{l:List o}(h:i<p)(C:p<=l.length):(lM p x l)[i]? = l[i]?:=by
 unfold lM;rw[cf (by simp;lia),vj h]
theorem Pz {o:Type}{p i:Nat}{x:o}{l:List o}(h:p<=i)(C:p<=l.length):(lM p x l)[i+1]? = l[i]?:=by
 unfold lM;rw[cp (by simp;lia)]
 have:i+1-(l.take p).length=(i-p)+1:=by simp[Nat.min_eq_left C];lia
 rw[this,List.getElem?_cons_succ,tz];congr 1
 lia
noncomputable def sI (m:Me)(p:Nat):Option D:=match m[p]? with
 |some (.io d)=>some d
 |_=>none
theorem YM {m:Me}{p:Nat}{d:D}(h:sI m p=some d):m[p]? = some (.io d):=by
 unfold sI at h;split at h
 ·rename_i q;cases h;exact q
 ·cases h
section
variable {P:bE}{w:eI}{K:bo}{mg:Zp}{base:Heap}
end
def tAH (G:Gx)(E:XK)(i p:Nat)(f:Zad):TA:=λe H Q=>∃c M0 H0 ow m a,Rel G c M0 H0 ow e H m/\e[i]? = some (some<|.ref a)/\Pu G E (f m) H λb=>p<=b.length/\∀d H',aL H H'->DVs G (Ow c ow) H' d b->Q (lM p (.ref a) d) H'
abbrev FAH (X:Cx)(E:XK)(es:List Expr)(i p:Nat)(f:Zad):Prop:=PA X es<|tAH (gx X) E i p f
section
variable {X:Cx}{E:XK}{e:Expr}{es:List Expr}{fa:Zae}{fs:Zad}{i p:Nat}{y:Str}{np:Pos}
theorem ue (J:FAE X E es fs)(I:X.N[i]? = some y:=by rfl)(C:Vis X.env.scope y:=by simp_wf)(hd:(y==("__debug__":Str))=false:=by decide)(o:(y==("__classdict__":Str))=false:=by decide)
  (U:ag (.Name y np::es) X.env=(false,eval (.Name y np) X.env)::ag es X.env:=by rfl):FAH X E (.Name y np::es) i 0 fs:=
 pA (cL (iZ I C hd o) J U) λf H Q ⟨c,M0,H0,ow,m,a,R,d,q⟩=>
  ⟨_,d,c,M0,H0,ow,m,R,q.imp (aL.refl _) λe q b H' g C=>q.2 b H' g C⟩
theorem xH (C:FE X E e fa)(o:FAH X E es i p fs)(I:ag (e::es) X.env=(false,eval e X.env)::ag es X.env:=by rfl):FAH X E (e::es) i (p+1) (aa fa fs):=
 pA (cL C o I) λs H Q ⟨f,M0,H0,ow,m,a,R,k,q⟩=>⟨f,M0,H0,ow,m,R,q.bind.imp (aL.refl _) λd q v r b h=>
  ⟨f,M0,H0,ow,m,a,R.mono b,k,q.bind.imp b λn q=>⟨by have:=q.1;simpa using this,λl j g c=>q.2 _ j (b.trans g)<|.cons (h.mono g) c⟩⟩⟩
end
theorem Xs.at {G:Gx}{E:XK}{O0 M0:Zaa}{H0 H o:Hp}{ow:Os}{C:L2.St}{I:Type}{r:Res (I×Me)}{k:I->Hp->Prop}(h:Xs G E O0 M0 H0 ow C H r k)(g:aL H o):Xs G E O0 M0 H0 ow C o r k:=h.imp (Go.refl g) λ_ _ _ _ _ _ q=>q
def Vd (f:Me->Res (D×Me)):Zab:=λm=>(f m).bind λp=>.ok (.nx,p.2)
theorem V9 {X:Cx}{E:XK}{e:Expr}{C:Me->Res (D×Me)}{o:Pos}(J:FX X E e C)(I:d4 e none o.line X.env=pure false:=by rfl):FS X E (.Expr e o) (Vd C):=bW (pW J I) λW j H b=>xq5 b λi M0 H0 ow m R q=>by
 refine⟨i,M0,H0,ow,m,R,(Xs.ss (k:=λd f=>.ok (.nx,f)) q).imp (Go.refl<|aL.refl _) λd g h a l c q v n=>?_⟩;exact q h c a ow j g a<|Go.refl<|aL.refl _
noncomputable def ado (i j:Nat)(fs:Zad):Zab:=λm=>(fs m).bind λa=>match a with
 |[d,e]=>.ok (.nx,(m.set i<|.fz d).set j<|.fz e)
 |_=>.stuck
theorem acu (hc:X.calm=true)(hN:X.N.Nodup)(C:X.N[i]? = some x)(I:X.N[j]? = some y)(o:i≠j)
  (hx:X.env.scope.names.lookup x=some .local) (J:X.env.scope.names.lookup y=some .local) (ha:FAE X E [a,b] fs)
  (U:mM [.Tuple [.Name x px,.Name y py] kt pt] (.Tuple [a,b] k2 pt2) X.env=pure (some [x,y]):=by rfl)
  (hs:mI [.Tuple [.Name x px,.Name y py] kt pt] (.Tuple [a,b] k2 pt2) pos.line X.env=pure false:=by rfl):
  FS X E (.Assign [.Tuple [.Name x px,.Name y py] kt pt] (.Tuple [a,b] k2 pt2) pos) (ado i j fs):=
 bW (ac6 hc hN C I o hx J ha U hs) λW p H k=>xq5 k λh M0 H0 ow m R q=>⟨h,M0,H0,ow,m,R.toRel,(Ss.pu R.toRel q).imp (aL.refl _) λc q n H' g f=>by
  have z:∃d e,c=[d,e]:=by
   cases c with
   |nil=>exact q.elim
   |cons d c=>cases c with
    |nil=>exact q.elim
    |cons e c=>cases c with
     |nil=>exact⟨d,e,rfl⟩
     |cons _ _=>exact q.elim
  obtain⟨d,e,rfl⟩:=z;cases f with
  |cons h1 h3=>cases h3 with
  |cons h2 h4=>
   cases h4;refine⟨_,_,rfl,?_⟩;have l:=(R.mono g).set (i:=i) h1;have R2:=l.set (i:=j)<|h2.bQ λb z=>.inl z.sub;exact q _ _ _ R2<|((Go.refl g).trans Go.set).trans Go.set⟩
section
variable {G:Gx}{O0 M0:Zaa}{H0 H H':Hp}{ow:Os}{σ:L2.St}{m m':Me}
theorem dF.many {ch:Nat->Prop}(R:dF G O0 M0 H0 ow σ H m)(J:m'.length=m.length)(C:∀i,¬ch i->m'[i]? = m[i]?)(g:Kp (λb=>∃i,ch i/\ow i=some b) H H')
  (new:∀i s,ch i->m'[i]? = some s->KN G (Ow O0 ow) M0 H0 (ow i) (σ[i]?) H' s/\∀d,s≠.bw d) (I:∀i b,ch i->ow i=some b->ik (H' b)/\(H0 b=none\/M0 b)):dF G O0 M0 H0 ow σ H' m'/\Go O0 ow H ow H':=by
 have t:∀b,ik (H' b)->H' b≠none:=λb z w=>by rw[w] at z;rcases z with⟨_,e⟩|⟨_,e⟩|⟨_,e⟩|⟨_,e⟩|⟨_,e⟩<;>cases e
 have kp:Kp (Ow O0 ow) H H':=λb u e n=>g b u e λ⟨i,_,z⟩=>n<|.inr ⟨i,z⟩;have h:∀b,H b≠none->H' b≠none:=λb n=>by
  by_cases q:∃i,ch i/\ow i=some b
  ·obtain⟨i,c,e⟩:=q;exact t b (I i b c e).1
  ·cases w:H b with
   |none=>exact absurd w n
   |some o=>rw[g b o w q];simp
 refine⟨⟨⟨by rw[J];exact R.len,λb u e n=>?_,λb z=>h b<|R.m0 b z,λb z=>?_,R.no0,R.inj,λj y=>R.out j (by lia),λj s e=>?_⟩,λj d e=>?_⟩,kp,λj b e=>.inl<|.inr ⟨j,e⟩,h⟩
 ·refine g b u (R.keep b u e n) λ⟨i,c,z⟩=>?_;rcases(I i b c z).2 with w|w
  ·rw[w] at e;cases e
  ·exact n w
 ·by_cases q:∃i,ch i/\ow i=some b
  ·obtain⟨i,c,e⟩:=q;exact(I i b c e).1
  ·have:=R.mutk b z
   rcases this with⟨_,e⟩|⟨_,e⟩|⟨_,e⟩|⟨_,e⟩|⟨_,e⟩
   ·exact .inl ⟨_,g b _ e q⟩
   ·exact .inr<|.inl ⟨_,g b _ e q⟩
   ·exact .inr<|.inr<|.inl ⟨_,g b _ e q⟩
   ·exact .inr<|.inr<|.inr<|.inl ⟨_,g b _ e q⟩
   ·exact .inr<|.inr<|.inr<|.inr ⟨_,g b _ e q⟩
 ·by_cases c:ch j
  ·exact(new j s c e).1
  ·rw[C j c] at e;have z:=R.slot j s e;have a:∀{b:Addr} {d:D},ow j=some b->OV G (Ow O0 ow) H b d->OV G (Ow O0 ow) H' b d:=λ{b d} v l=>by
    have p:¬ ∃i,ch i/\ow i=some b:=λ⟨i,ci,r⟩=>c<|R.inj j i b v r▸ci;rcases l.mut with⟨_,e⟩|⟨_,e⟩|⟨_,e⟩|⟨_,e⟩|⟨_,e⟩<;>exact l.kp R.mutk kp (by rw[e];exact g b _ e p)
   cases s with
   |un=>exact z
   |fz d=>obtain⟨b,x,e,q⟩:=z;exact⟨b,x,e,q.kp R.mutk kp⟩
   |ow d=>obtain⟨b,x,e,f,k⟩:=z;exact⟨b,x,e,f,a x k⟩
   |io d=>obtain⟨b,x,e,f,k⟩:=z;exact⟨b,x,e,f,a x k⟩
   |bw d=>exact(R.nb j d e).elim
   |hd w b d=>obtain⟨x,e,f,k⟩:=z;exact⟨x,e,f,a x k⟩
 ·by_cases c:ch j
  ·exact(new j _ c e).2 d rfl
  ·rw[C j c] at e;exact R.nb j d e
end
noncomputable def Oe (j:Nat)(f:Zae):Zae:=λm=>(f m).bind λd=>match d,m[j]? with
 | .adr a,some (.hd _ b d')=>if a=b then .ok d' else .stuck
 |_,_=>.stuck
section
variable {X:Cx}{E:XK}{e b ke:Expr}{f fb fk:Zae}{pos spos:Pos}
theorem adv {m:Me}{j:Nat}{d r:D}(h:(match d,m[j]? with|.adr a,some (.hd _ b d')=>if a=b then Res.ok d' else .stuck|_,_=>.stuck)=.ok r):∃w a,d=.adr a/\m[j]? = some (.hd w a r):=by
 cases d with
 |adr a=>
  cases q:m[j]? with
  |none=>rw[q] at h;cases h
  |some s=>
   cases s with
   |hd w b d'=>
    rw[q] at h;by_cases z:a=b
    ·have h:(if a=b then Res.ok d' else .stuck)=.ok r:=h;rw[if_pos z] at h;cases h;exact⟨w,a,rfl,by rw[z]⟩
    ·have h:(if a=b then Res.ok d' else .stuck)=.ok r:=h;rw[if_neg z] at h;cases h
   |_=>rw[q] at h;cases h
 |_=>cases h
theorem Su {m:Me}{j:Nat}{d:D}{c:Xn}:(match d,m[j]? with|.adr a,some (.hd _ b d')=>if a=b then Res.ok d' else .stuck|_,_=>.stuck)≠.exc c:=λh=>by
 cases d with
 |adr a=>
  cases q:m[j]? with
  |none=>rw[q] at h;cases h
  |some s=>
   cases s with
   |hd w b d'=>
    rw[q] at h;have h:(if a=b then Res.ok d' else .stuck)=.exc c:=h;split at h<;>cases h
   |_=>rw[q] at h;cases h
 |_=>cases h
theorem HR (j:Nat)(h:FE X E e f):FB X E e (Oe j f):=bJ h λu H Q n=>xq5 n λl M0 H0 ow m R q=>⟨l,M0,H0,ow,m,R,q.bind.imp (aL.refl _) λd q v H' g i=>by
 cases z:(match d,m[j]? with|.adr a,some (.hd _ b d')=>if a=b then Res.ok d' else .stuck|_,_=>.stuck) with
 |ok r=>
  rw[z] at q;obtain⟨w,a,rfl,e⟩:=adv z;cases i;obtain⟨k,s,t,p⟩:=(R.mono g).slot j _ e;exact q _ H' g<|.inr ⟨a,rfl,.inr ⟨j,k⟩,p⟩
 |exc c=>exact(Su z).elim
 |stuck=>rw[z] at q;exact q.elim⟩
noncomputable def yI (m:Me)(j:Nat):Option (Bool×Addr×D):=match m[j]? with
 |some (.hd w a d)=>some (w,a,d)
 |_=>none
theorem Bb {m:Me}{j:Nat}{w:Bool}{a:Addr}{d:D}(h:yI m j=some (w,a,d)):m[j]? = some (.hd w a d):=by
 unfold yI at h;split at h
 ·rename_i q;cases h;exact q
 ·cases h
theorem dF.afD {G:Gx}{O0 M0:Zaa}{H0 H:Hp}{ow:Os}{C:L2.St}{m:Me}{j:Nat}{w:Bool}{a:Addr}{d d':D}{o:HO}(R:dF G O0 M0 H0 ow C H m)(e:m[j]? = some (.hd w a d))(I:ik (some o))
  (h:Kp (Ow O0 ow) H (L2.upd H a o)->OV G (Ow O0 ow) (L2.upd H a o) a d'):dF G O0 M0 H0 ow C (L2.upd H a o) (m.set j<|.hd w a d')/\Go O0 ow H ow (L2.upd H a o):=by
 obtain⟨g,k,l,q⟩:=R.slot j _ e;have kp:Kp (Ow O0 ow) H (L2.upd H a o):=λb u f n=>jJ b u f λz=>n<|z▸.inr ⟨j,g⟩;refine R.many (by simp) (λi n=>a0<|eC n) (λb u f n=>jJ b u f λz=>n ⟨j,rfl,by rw[g,z]⟩) (λi s c p=>?_) λi b c f=>?_
 ·subst c;rw[aT<|rR e] at p;cases p;exact⟨⟨g,k,l,h kp⟩,λd z=>by cases z⟩
 ·subst c;rw[g] at f;cases f;refine⟨by rw[L2.aX];exact I,?_⟩;cases w with
  |true=>exact .inl (k rfl)
  |false=>exact .inr (l rfl)
def DR (j:Nat)(fb fk fv:Zae):Zab:=λm=>(fv m).bind λd=>(fb m).bind λc=>(ofO<|yI m j).bind λo=>(fk m).bind λk=>(ofO<|xf k).bind λk=>match c,o.2.2 with
 | .adr a,.dcu ks ds=>if a=o.2.1/\ks.length<ai then .ok (.nx,m.set j<|.hd o.1 a<|.dcu (jH ks ds k d).1 (jH ks ds k d).2) else .stuck
 |_,_=>.stuck
theorem N8 {U:Nat}(j:Nat)(I:gG U X.A)(he:FE X E e f)(C:FE X E b fb)(hk:FE X E ke fk)
  (J:d4 e (some<|.Subscript b ke spos) pos.line X.env=pure false:=by rfl):FS X E (.Assign [.Subscript b ke spos] e pos) (DR j fb fk f):=
 bW (xm (iM I) C hk he J) λW σ H N=>xq5 N λh M0 H0 ow m R q=>
  ⟨h,M0,H0,ow,m,R.toRel,(Ss.pu R.toRel q).imp (aL.refl _) λd q v H1 y G=>by
   have p:=R.mono y;refine⟨h,M0,H0,ow,m,p.toRel,(Ss.pu p.toRel<|q.go<|Go.refl y).imp (aL.refl _) λc q vc D s O=>?_⟩;have R2:=p.mono s;obtain⟨o,k,q⟩:=Ss.ofO q;obtain⟨w,a,Q⟩:=o;have k:=Bb k;refine⟨h,M0,H0,ow,m,R2.toRel,(Ss.pu R2.toRel<|q.go<|Go.refl s).imp (aL.refl _) λV q vk H3 n l=>?_⟩;obtain⟨g,P,q⟩:=Ss.ofO q;obtain⟨b,rfl,C⟩:=rC (.inl l) P;have r:=R2.mono n;cases c with
   |adr a'=>
    cases O;cases Q with
    |dcu ks ds=>
     by_cases i:a'=a/\ks.length<ai
     ·have x:Ss (gx X) E h M0 H0 ow D W (if a'=a/\ks.length<ai then .ok (.nx,m.set j<|.hd w a'<|.dcu (jH ks ds g d).1 (jH ks ds g d).2) else .stuck):=q;rw[if_pos i] at x;clear q;obtain⟨rfl,i⟩:=i;obtain⟨x1,x2,Y,F,Z,L,u,rfl,S⟩:=r.slot j _ k;obtain⟨z,B⟩:=Qy (G.mono<|s.trans n) S;rw[u] at z B;obtain⟨M,T⟩:=r.afD (o:=.dT (KTp X.K)<|putK F g v) (d':=.dcu (jH ks ds g d).1 (jH ks ds g d).2) k (.inr<|.inr<|.inl ⟨(_,_),rfl⟩) λkp=>⟨_,_,L2.aX,z,rfl,B.kp r.mutk kp⟩;exact⟨a',_,rfl,Bw.t L C (by rw[← a6,u];exact i),x _ _ _ M<|(Go.refl n).trans T⟩
     ·have q:Ss (gx X) E h M0 H0 ow D W (if a'=a/\ks.length<ai then .ok (.nx,m.set j<|.hd w a'<|.dcu (jH ks ds g d).1 (jH ks ds g d).2) else .stuck):=q;rw[if_neg i] at q;exact q.elim
    |_=>exact q.elim
   |_=>exact q.elim⟩
def yw (j:Nat)(fb fk fv:Zae):Zab:=λm=>(fv m).bind λd=>(fb m).bind λc=>(ofO<|yI m j).bind λo=>(fk m).bind λk=>match c,o.2.2,k with
 | .adr a,.lst ds,.int n=>if a=o.2.1 then(ofO<|ixN ds.length n).bind λi=>.ok (.nx,m.set j<|.hd o.1 a<|.lst<|ds.set i d) else .stuck
 |_,_,_=>.stuck
theorem Lg (j:Nat)(he:FE X E e f)(hb:FE X E b fb)(hk:FE X E ke fk)
  (ha:∀v,tf (.Subscript b ke spos) X.env v=(do
   let C←tF [v] (eval b X.env)
   let I←tF [v,C] (eval ke X.env)
   standAt spos
   tF [v,C,I] (A9 C I v)
   release [v,C,I] []):=by intro _;rfl)
  (hs:mI [.Subscript b ke spos] e pos.line X.env=pure false:=by rfl) (J:mM [.Subscript b ke spos] e X.env=pure none:=by rfl)
  (U:(ki [.Subscript b ke spos] X.env).map (·.2)=[tf (.Subscript b ke spos) X.env]:=by rfl):FS X E (.Assign [.Subscript b ke spos] e pos) (yw j fb fk f):=
 bW (Iv he (VL hb hk set_list ha) hs J U) λW σ H F=>xq5 F λk M0 H0 ow m R q=>
  ⟨k,M0,H0,ow,m,R.toRel,(Ss.pu R.toRel q).imp (aL.refl _) λd q v T y z=>by
   have r:=R.mono y;refine⟨k,M0,H0,ow,m,r.toRel,(Ss.pu r.toRel<|q.go<|Go.refl y).imp (aL.refl _) λc q Y N t K=>?_⟩;have R2:=r.mono t;obtain⟨o,g,q⟩:=Ss.ofO q;obtain⟨w,a,M⟩:=o;have g:=Bb g;refine⟨k,M0,H0,ow,m,R2.toRel,(Ss.pu R2.toRel<|q.go<|Go.refl t).imp (aL.refl _) λG q S Z p l=>?_⟩;have s:=R2.mono p;cases c with
   |adr a'=>
    cases K;cases M with
    |lst ds=>
     cases G with
     |int n=>
      cases l;have h:Ss (gx X) E k M0 H0 ow N W (if a'=a then(ofO<|ixN ds.length n).bind λi=>.ok (.nx,m.set j<|.hd w a'<|.lst<|ds.set i d) else .stuck):=q;by_cases u:a'=a
      ·rw[if_pos u] at h;clear q;subst u;obtain⟨i,L,q⟩:=Ss.ofO h;obtain⟨Q,V,P,D,A,x⟩:=s.slot j _ g;obtain⟨B,O⟩:=s.afD (d':=.lst<|ds.set i d) g (.inl ⟨_,rfl⟩) λkp=>⟨_,L2.aX,(zj (z.mono<|t.trans p) i x).kp s.mutk kp⟩;exact⟨a',D,n,i,rfl,rfl,A,by rw[cC x];exact L,q _ _ _ B<|(Go.refl p).trans O⟩
      ·rw[if_neg u] at h;exact h.elim
     |_=>exact q.elim
    |_=>exact q.elim
   |_=>exact q.elim⟩
end
def Wl (G:Gx)(p:Nat)(o:List D->D->Addr×D->Addr×D->Res (D×D×D×D)):Sp:=λi H Q E=>∃O a h g d x y,i=lM p (.ref a) h/\p<=g.length/\(∀b,O b->ik (H b))/\(O a/\OV G O H a d)/\(O x.1/\OV G O H x.1 x.2)/\(O y.1/\OV G O H y.1 y.2)/\(a≠x.1/\a≠y.1/\x.1≠y.1)/\DVs G O H h g/\match o g d x y with
 | .ok (r,d',e,f)=>∀v H',Kp (λb=>b=a\/b=x.1\/b=y.1) H H'->OV G O H' a d'->OV G O H' x.1 e->OV G O H' y.1 f->DV G O H' v r->Q v H'
 | .exc c=>∀C H',XP G H' c C->Kp (λb=>b=a\/b=x.1\/b=y.1) H H'->E (.ref C.1) C.2 H'
 | .stuck=>False
noncomputable def lA (m:Me)(j:Nat)(a:Addr):Option D:=match m[j]? with
 |some (.hd false b d)=>if a=b then some d else none
 |_=>none
theorem RW {m:Me}{j:Nat}{a:Addr}{d:D}(h:lA m j a=some d):m[j]? = some (.hd false a d):=by
 unfold lA at h;split at h
 ·rename_i b c q;split at h
  ·rename_i z;cases h;rw[z];exact q
  ·cases h
 ·cases h
def runST (p N n:Nat)(g:Zab):List D->D->Addr×D->Addr×D->Res (D×D×D×D):=λb d x y=>if b.length+1=n then match g (lM p (.io d) (b.map Sl.fz)++(c9 (N-n-2) Sl.un++[.hd false x.1 x.2,.hd false y.1 y.2])) with
  | .ok (.rt _ r,m')=>(ofO<|sI m' p).bind λa=>(ofO<|lA m' (N-2) x.1).bind λe=>(ofO<|lA m' (N-1) y.1).bind λf=>.ok (r,a,e,f)
  | .ok (.nx,m')=>(ofO<|sI m' p).bind λa=>(ofO<|lA m' (N-2) x.1).bind λe=>(ofO<|lA m' (N-1) y.1).bind λf=>.ok (.non,a,e,f)
  | .exc c=>.exc c
  |_=>.stuck
 else .stuck
abbrev FST (P:bE)(w:eI)(K:bo)(mg:Zp)(o:Heap)(k:Nat)(x:Str)(ps:List Str)(p:Nat)(C:List D->D->Addr×D->Addr×D->Res (D×D×D×D)):Prop:=Hd.Fn P w K mg o k x ps<|Wl ⟨K,mg⟩ p C
noncomputable def ow3 (i j1 j2:Nat)(a o C:Addr):Os:=λk=>if k=i then some a else if k=j1 then some o else if k=j2 then some C else none
theorem ael {O:Zaa}{i j1 j2:Nat}{a o C:Addr}(h:O a)(h1:O o)(I:O C)(U:i≠j1)(J:i≠j2)(n3:j1≠j2):Ow (λb=>O b/\b≠a/\b≠o/\b≠C) (ow3 i j1 j2 a o C)=O:=by
 funext b;refine propext ⟨λz=>?_,λz=>?_⟩
 ·rcases z with z|⟨k,e⟩
  ·exact z.1
  ·unfold ow3 at e;split at e
   ·cases e;exact h
   ·split at e
    ·cases e;exact h1
    ·split at e
     ·cases e;exact I
     ·cases e
 ·by_cases q:b=a
  ·exact .inr ⟨i,by unfold ow3;rw[if_pos rfl,q]⟩
  ·by_cases c:b=o
   ·exact .inr ⟨j1,by unfold ow3;rw[if_neg<|eC U,if_pos rfl,c]⟩
   ·by_cases d:b=C
    ·exact .inr ⟨j2,by unfold ow3;rw[if_neg<|eC J,if_neg<|eC n3,if_pos rfl,d]⟩
    ·exact .inl ⟨z,q,c,d⟩
theorem Wm {G:Gx}{O:Zaa}{H:Hp}{N:List Str}{a:Addr}{us:List V}{ds:List D}{d:D}{x y:Addr×D}{n p:Nat}(C:p<=ds.length)(hm:∀b,O b->ik (H b))(J:O a/\OV G O H a d)(U:O x.1/\OV G O H x.1 x.2)(I:O y.1/\OV G O H y.1 y.2)(nd:a≠x.1/\a≠y.1/\x.1≠y.1)(hd:DVs G O H us ds)(hn:ds.length+1=n)(hN:n+2<=N.length):
  dF G (λb=>O b/\b≠a/\b≠x.1/\b≠y.1) (λb=>b=a\/b=x.1\/b=y.1) H (ow3 p (N.length-2) (N.length-1) a x.1 y.1) (L2.start N<|lM p (.ref a) us) H (lM p (.io d) (ds.map Sl.fz)++(c9 (N.length-n-2) Sl.un++[.hd false x.1 x.2,.hd false y.1 y.2])):=by
 have X:=cC hd;have P:p≠N.length-2:=by lia
 have M:p≠N.length-1:=by lia
 have T:N.length-2≠N.length-1:=by lia
 have R:=ael J.1 U.1 I.1 P M T;have ω:(lM p (V.ref a) us).length=n:=by rw[Bv,X];exact hn
 have t:∀i v,(lM p (V.ref a) us)[i]? = some v->(L2.start N<|lM p (.ref a) us)[i]? = some (some v):=λi v e=>by
  have l:i<(lM p (V.ref a) us).length:=(cb.mp e).1;unfold L2.start;rw[cf (by simpa using l),a5,e];rfl
 have c:(lM p (Sl.io d)<|ds.map Sl.fz).length=n:=by rw[Bv,a6];exact hn
 have op:ow3 p (N.length-2) (N.length-1) a x.1 y.1 p=some a:=if_pos rfl;have o1:ow3 p (N.length-2) (N.length-1) a x.1 y.1 (N.length-2)=some x.1:=by unfold ow3;rw[if_neg<|eC P,if_pos rfl]
 have o2:ow3 p (N.length-2) (N.length-1) a x.1 y.1 (N.length-1)=some y.1:=by unfold ow3;rw[if_neg<|eC M,if_neg<|eC T,if_pos rfl]
 have L:∀i,i≠p->i≠N.length-2->i≠N.length-1->ow3 p (N.length-2) (N.length-1) a x.1 y.1 i=none:=λi h1 W Z=>by unfold ow3;rw[if_neg h1,if_neg W,if_neg Z]
 have B:∀(i:Nat) (s:Sl),(lM p (Sl.io d) (ds.map Sl.fz)++(c9 (N.length-n-2) Sl.un++[.hd false x.1 x.2,.hd false y.1 y.2]))[i]? = some s->
   (i=p/\s=.io d)\/(i≠p/\i<n/\∃f v,s=.fz f/\DV G O H v f/\(lM p (V.ref a) us)[i]? = some v)\/(n<=i/\i<N.length-2/\s=.un)\/(i=N.length-2/\s=.hd false x.1 x.2)\/(i=N.length-1/\s=.hd false y.1 y.2):=λi s e=>by
  by_cases l:i<n
  ·rw[cf (by rw[c];exact l)] at e;by_cases q:i=p
   ·subst q;rw[RL<|by simpa using C] at e;cases e;exact .inl ⟨rfl,rfl⟩
   ·refine .inr<|.inl ⟨q,l,?_⟩;by_cases lt:i<p
    ·rw[Rf lt (by simpa using C),a5] at e;cases m:ds[i]? with
     |none=>rw[m] at e;cases e
     |some f=>
      rw[m] at e;cases e;obtain⟨v,u,A⟩:=vN hd m;exact⟨f,v,rfl,A,by rw[Rf lt<|by lia];exact u⟩
    ·obtain⟨j,rfl⟩:∃j,i=j+1:=⟨i-1,by lia⟩;rw[Pz (by lia) (by simpa using C),a5] at e;cases m:ds[j]? with
     |none=>rw[m] at e;cases e
     |some f=>
      rw[m] at e;cases e;obtain⟨v,u,A⟩:=vN hd m;exact⟨f,v,rfl,A,by rw[Pz (by lia)<|by lia];exact u⟩
  ·rw[cp (by rw[c];lia),c] at e;by_cases r:i-n<N.length-n-2
   ·rw[cf (by simpa using r),gv,if_pos r] at e;cases e;exact .inr<|.inr<|.inl ⟨by lia,by lia,rfl⟩
   ·rw[cp (by simpa using r),fS] at e;rcases(show i-n-(N.length-n-2)=0\/i-n-(N.length-n-2)=1\/2<=i-n-(N.length-n-2) by lia) with z|z|z
    ·rw[z] at e;cases e;exact .inr<|.inr<|.inr<|.inl ⟨by lia,rfl⟩
    ·rw[z] at e;cases e;exact .inr<|.inr<|.inr<|.inr ⟨by lia,rfl⟩
    ·rw[qE<|by simpa using z] at e;cases e
 refine⟨⟨?_,λb o e _=>e,λb z=>?_,λb z=>by rw[R] at z;exact hm b z,λi b e=>?_,λi j b e1 Y=>?_,λi l=>?_,λi s e=>?_⟩,λj d' e=>?_⟩
 ·rw[be,c,be,fS];unfold L2.start;rw[be,a6,ω,fS]
  simp
  lia
 ·have K:∀b,ik (H b)->H b≠none:=λb z w=>by rw[w] at z;rcases z with⟨_,e⟩|⟨_,e⟩|⟨_,e⟩|⟨_,e⟩|⟨_,e⟩<;>cases e
  rcases z with z|z|z
  ·rw[z];exact K _ J.2.mut
  ·rw[z];exact K _ U.2.mut
  ·rw[z];exact K _ I.2.mut
 ·intro z;unfold ow3 at e;split at e
  ·cases e;exact z.2.1 rfl
  ·split at e
   ·cases e;exact z.2.2.1 rfl
   ·split at e
    ·cases e;exact z.2.2.2 rfl
    ·cases e
 ·have inv:∀k b,ow3 p (N.length-2) (N.length-1) a x.1 y.1 k=some b->(k=p/\b=a)\/(k=N.length-2/\b=x.1)\/(k=N.length-1/\b=y.1):=λk b e=>by
   unfold ow3 at e;split at e
   ·rename_i q;cases e;exact .inl ⟨q,rfl⟩
   ·split at e
    ·rename_i q;cases e;exact .inr<|.inl ⟨q,rfl⟩
    ·split at e
     ·rename_i q;cases e;exact .inr<|.inr ⟨q,rfl⟩
     ·cases e
  obtain⟨f,S,Q⟩:=nd;rcases inv i b e1 with⟨F,h⟩|⟨F,h⟩|⟨F,h⟩<;>rcases inv j b Y with⟨E,g⟩|⟨E,g⟩|⟨E,g⟩
  ·rw[F,E]
  ·exact absurd (h.symm.trans g) f
  ·exact absurd (h.symm.trans g) S
  ·exact absurd (g.symm.trans h) f
  ·rw[F,E]
  ·exact absurd (h.symm.trans g) Q
  ·exact absurd (g.symm.trans h) S
  ·exact absurd (g.symm.trans h) Q
  ·rw[F,E]
 ·rw[be,c,be,fS] at l;simp at l;exact L i (by lia) (by lia)<|by lia
 ·rw[R];rcases B i s e with⟨rfl,rfl⟩|⟨q,l,f,v,rfl,A,u⟩|⟨q1,q2,rfl⟩|⟨rfl,rfl⟩|⟨rfl,rfl⟩
  ·exact⟨a,op,.inl rfl,t _ _<|RL (by lia),J.2⟩
  ·exact⟨L i q (by lia) (by lia),v,t _ _ u,A⟩
  ·exact L i (by lia) (by lia)<|by lia
  ·exact⟨o1,(λz=>by cases z),λ_=>.inr<|.inl rfl,U.2⟩
  ·exact⟨o2,(λz=>by cases z),λ_=>.inr<|.inr rfl,I.2⟩
 ·rcases B j _ e with⟨_,z⟩|⟨_,_,_,_,z,_⟩|⟨_,_,z⟩|⟨_,z⟩|⟨_,z⟩<;>cases z
section
variable {P:bE}{w:eI}{K:bo}{mg:Zp}{base:Heap}
theorem Dv {x I:Str}{st:Stmt}{f:Addr}{fd:iL}{N ps:List Str}{k:Nat}(p:Nat){g:Zab}(Fu:Fun K x I st f fd)(S:bj N ps (aM st))(hN:ps.length+2<=N.length)
  (U:∀(J:ax) (A:fm) (o:List Env) (s:aI) (H:Hp) (E:XK),gG k (A.deeper<|y6 I (aM st) s.heap.objs.size f J)->
   FSs (pq (CX1 P w) P w K mg base N I (aM st) f J A o s H E) E (jB st) g):ph P w K mg base (CX1 P w) (k+1) f fd ps (Wl ⟨K,mg⟩ p<|runST p N.length ps.length g):=by
 have cond:∀{B:List D} {d:D} {u v:Addr×D},runST p N.length ps.length g B d u v≠.stuck->B.length+1=ps.length:=λ{B d u v} h=>by
  by_cases z:B.length+1=ps.length
  ·exact z
  ·unfold runST at h;rw[if_neg z] at h;exact absurd rfl h
 refine Rz Fu S (λvs H Q E h=>?_) λJ A o s H vs Q E hr h=>?_
 ·obtain⟨O,a,us,B,d,u,v,rfl,_,_,_,_,_,_,hd,q⟩:=h;rw[Bv,cC hd];exact cond λz=>by rw[z] at q;exact q
 ·obtain⟨O,a,us,B,d,u,v,rfl,hp,hm,ho,hu,hv,nd,hd,q⟩:=h;have hn:=cond λz=>by rw[z] at q;exact q
  unfold runST at q;rw[if_pos hn] at q;refine⟨_,U J A o s H E hr,_,_,H,_,_,Wm hp hm ho hu hv nd hd hn hN,?_⟩;have fin:∀{i t H' l G L M},dF (⟨K,mg⟩:Gx) (λb=>O b/\b≠a/\b≠u.1/\b≠v.1) (λb=>b=a\/b=u.1\/b=v.1) H i t H' l->sI l p=some G->lA l (N.length-2) u.1=some L->lA l (N.length-1) v.1=some M->
    Kp (λb=>b=a\/b=u.1\/b=v.1) H H'/\OV ⟨K,mg⟩ O H' a G/\OV ⟨K,mg⟩ O H' u.1 L/\OV ⟨K,mg⟩ O H' v.1 M/\∀z r,DV (⟨K,mg⟩:Gx) (Ow (λb=>O b/\b≠a/\b≠u.1/\b≠v.1) i) H' z r->DV ⟨K,mg⟩ O H' z r:=λ{i t H' l G L M} R j m n=>by
   obtain⟨W,y,F,V,T⟩:=R.slot p _<|YM j;obtain⟨x1,x2,x3,x4⟩:=R.slot _ _<|RW m;obtain⟨y1,y2,y3,y4⟩:=R.slot _ _<|RW n;have ea:W=a:=by
    rcases F with z|z|z
    ·exact z
    ·have:=R.inj p _ _ y<|z▸x1;lia
    ·have:=R.inj p _ _ y<|z▸y1;lia
   subst ea;have sub:∀b,O b->Ow (λb=>O b/\b≠W/\b≠u.1/\b≠v.1) i b\/H' b=none:=λb z=>by
    by_cases q:b=W
    ·exact .inl<|.inr ⟨p,by rw[q];exact y⟩
    ·by_cases q1:b=u.1
     ·exact .inl<|.inr ⟨_,by rw[q1];exact x1⟩
     ·by_cases q2:b=v.1
      ·exact .inl<|.inr ⟨_,by rw[q2];exact y1⟩
      ·exact .inl<|.inl ⟨z,q,q1,q2⟩
   exact⟨R.keep,T.bQ sub,x4.bQ sub,y4.bQ sub,λz r h=>h.bQ sub⟩
  cases z:g (lM p (.io d) (B.map Sl.fz)++(c9 (N.length-ps.length-2) Sl.un++[.hd false u.1 u.2,.hd false v.1 v.2])) with
  |exc c=>rw[z] at q;exact λC H' e kp=>q C H' e kp
  |stuck=>rw[z] at q;exact q.elim
  |ok b=>
   obtain⟨fl,l⟩:=b;rw[z] at q;cases fl with
   |bk=>exact q.elim
   |ct=>exact q.elim
   |nx=>
    intro i t H' X _;cases j:sI l p with
    |none=>simp only[j] at q;exact q.elim
    |some G=>
     cases m:lA l (N.length-2) u.1 with
     |none=>simp only[j,m,qQ,Res.uQ] at q;exact q.elim
     |some L=>
      cases n:lA l (N.length-1) v.1 with
      |none=>simp only[j,m,n,qQ,Res.uQ] at q;exact q.elim
      |some M=>
       simp only[j,m,n] at q;obtain⟨y,F,V,T,Z⟩:=fin X j m n;exact q _ H' y F V T .non
   |rt fr r=>
    intro v' i t H' X _ Y _;cases j:sI l p with
    |none=>simp only[j] at q;exact q.elim
    |some G=>
     cases m:lA l (N.length-2) u.1 with
     |none=>simp only[j,m,qQ,Res.uQ] at q;exact q.elim
     |some L=>
      cases n:lA l (N.length-1) v.1 with
      |none=>simp only[j,m,n,qQ,Res.uQ] at q;exact q.elim
      |some M=>
       simp only[j,m,n] at q;obtain⟨y,F,V,T,Z⟩:=fin X j m n;exact q v' H' y F V T<|Z _ _ Y
theorem ae6 {k p:Nat}{f:Addr}{o:iL}{ps:List Str}:ph P w K mg base (CX1 P w) k f o ps (Wl ⟨K,mg⟩ p λ_ _ _ _=>.stuck):=
 have n:∀{a H Q E},¬Wl ⟨K,mg⟩ p (λ_ _ _ _=>.stuck) a H Q E:=λh=>by
  obtain⟨_,_,_,_,_,_,_,_,_,_,_,_,_,_,_,q⟩:=h;exact q
 ⟨λ_ _ _ _ h=>(n h).elim,λ_ _ _ _ _ _ _ _ _ _ _ _ _ h=>(n h).elim⟩
end
def wA (C:List D->D->Addr×D->Addr×D->Res (D×D×D×D))(i p j1 j2:Nat)(fs:Zad):Me->Res (D×Me):=λm=>(ofO<|Ja m i).bind λo=>(ofO<|yI m j1).bind λb=>(ofO<|yI m j2).bind λa=>(fs m).bind λc=>if p<=c.length then(C c o.2 b.2 a.2).bind λr=>.ok (r.1,((CN m i o.1 r.2.1).set j1<|.hd b.1 b.2.1 r.2.2.1).set j2<|.hd a.1 a.2.1 r.2.2.2) else .stuck
theorem Ma {X:Cx}{E:XK}{e0:Expr}{es:List Expr}{fs:Zad}{I pp:Pos}{j k p:Nat}{x:Str}{ps:List Str}{Φ:List D->D->Addr×D->Addr×D->Res (D×D×D×D)}(i j1 j2:Nat)(Fh:FST X.prog X.w X.K X.mg X.base k x ps p Φ)(hr:gG j X.A)(hx:Passes (CX1 X.prog X.w) X E)(ha:FAH X E (e0::es) i p fs)(hk:k<=j:=by decide)(hg:Gl X x:=by rfl)
  (hj:j1≠j2:=by decide) (hdb:(x==("__debug__":Str))=false:=by decide) (he:ag (e0::es) X.env=(false,eval e0 X.env)::ag es X.env:=by rfl) (ξ:(iE I<|ag es X.env).any (·.1)=false:=by rfl):
  FX X E (.Call (.Name x pp) (e0::es) [] I) (wA Φ i p j1 j2 fs):=by
 obtain⟨f,fd,G,b,kp,m⟩:=Fh.ex;refine bJ (Aj G (hr.mono hk) hg m kp b .nil hx ha hdb he ξ) λσ H Q hE=>xq5 hE λO0 M0 H0 ow m R q=>?_;obtain⟨o,ho,q⟩:=(Xs.pu R.toRel q).ofO;obtain⟨h1,hh1,q⟩:=(Xs.pu R.toRel q).ofO;obtain⟨h2,hh2,q⟩:=(Xs.pu R.toRel q).ofO;obtain⟨kk,d0⟩:=o;obtain⟨w1,t,d1⟩:=h1;obtain⟨U,u,d2⟩:=h2;obtain⟨a,h,e2,e4,O⟩:=Y9 R.toRel ho;have g1:=Bb hh1;have g2:=Bb hh2;obtain⟨M,x2,x3,x4⟩:=R.slot j1 _ g1;obtain⟨L,y2,y3,y4⟩:=R.slot j2 _ g2;have N:i≠j1:=λz=>by subst z;rcases O with⟨s,_⟩|⟨s,_⟩<;>(rw[g1] at s;cases s)
 have Z:i≠j2:=λz=>by subst z;rcases O with⟨s,_⟩|⟨s,_⟩<;>(rw[g2] at s;cases s)
 have na1:a≠t:=λz=>N<|R.inj i j1 a h<|z▸M;have na2:a≠u:=λz=>Z<|R.inj i j2 a h<|z▸L;have na3:t≠u:=λz=>hj<|R.inj j1 j2 t M<|z▸L;refine⟨O0,M0,H0,ow,m,a,R.toRel,e2,(Xs.pu R.toRel q).imp (aL.refl _) λds q=>?_⟩;by_cases hp:p<=ds.length
 case neg=>rw[if_neg hp] at q;exact q.elim
 rw[if_pos hp] at q;refine⟨hp,λus H1 S hus=>?_⟩;have R1:=R.mono S;have q:=q.at S;show Wl _ _ _ (lM p (V.ref a) us++[]) _ _ _;rw[dc];refine⟨Ow O0 ow,a,us,ds,d0,(t,d1),(u,d2),rfl,hp,R1.mutk,⟨.inr ⟨i,h⟩,e4.mono S⟩,⟨.inr ⟨j1,M⟩,x4.mono S⟩,⟨.inr ⟨j2,L⟩,y4.mono S⟩,⟨na1,na2,na3⟩,hus,?_⟩;have W:H0 a=none\/M0 a:=by
  rcases O with⟨s,_⟩|⟨s,_⟩
  ·obtain⟨a',l,F,_⟩:=R.slot i _ s;rw[h] at l;cases l;exact .inl F
  ·obtain⟨a',l,F,_⟩:=R.slot i _ s;rw[h] at l;cases l;exact .inr F
 have P:H0 t=none\/M0 t:=by cases w1 with
  |true=>exact .inl (x2 rfl)
  |false=>exact .inr (x3 rfl)
 have T:H0 u=none\/M0 u:=by cases U with
  |true=>exact .inl (y2 rfl)
  |false=>exact .inr (y3 rfl)
 cases z:Φ ds d0 (t,d1) (u,d2) with
 |stuck=>rw[z] at q;exact q.elim
 |exc c=>
  rw[z] at q;refine λC H' e g=>q C H' e λb o e n=>?_;refine g b o (R1.keep b o e n) λw=>?_;rcases w with rfl|rfl|rfl
  ·rcases W with w|w
   ·rw[w] at e;cases e
   ·exact n w
  ·rcases P with w|w
   ·rw[w] at e;cases e
   ·exact n w
  ·rcases T with w|w
   ·rw[w] at e;cases e
   ·exact n w
 |ok r=>
  obtain⟨rr,d',e',f'⟩:=r;rw[z] at q;intro v H' g B Y J hv;have hi:i<m.length:=by rcases O with⟨s,_⟩|⟨s,_⟩<;>exact rR s
  have ex:∀c,(((CN m i kk d').set j1<|.hd w1 t e').set j2<|.hd U u f')[c]? = if c=j2 then some (.hd U u f') else if c=j1 then some (.hd w1 t e') else if c=i then some (if kk then .ow d' else .io d') else m[c]?:=λc=>by
   have l1:=rR g1;have l2:=rR g2;unfold CN;by_cases c2:c=j2
   ·subst c2;rw[if_pos rfl,aT<|by simpa using l2]
   ·rw[if_neg c2,a0<|eC c2];by_cases c1:c=j1
    ·subst c1;rw[if_pos rfl,aT<|by simpa using l1]
    ·rw[if_neg c1,a0<|eC c1];by_cases c0:c=i
     ·subst c0;rw[if_pos rfl,aT hi]
     ·rw[if_neg c0,a0<|eC c0]
  obtain⟨R2,G2⟩:=R1.many (m':=((CN m i kk d').set j1<|.hd w1 t e').set j2<|.hd U u f') (ch:=λc=>c=i\/c=j1\/c=j2) (by simp[CN]) (λc n=>by
    rw[ex,if_neg λz=>n<|.inr<|.inr z,if_neg λz=>n<|.inr<|.inl z,if_neg λz=>n<|.inl z]) (λb o y n=>g b o y λw=>n (by
    rcases w with rfl|rfl|rfl
    ·exact⟨i,.inl rfl,h⟩
    ·exact⟨j1,.inr<|.inl rfl,M⟩
    ·exact⟨j2,.inr<|.inr rfl,L⟩)) (λc s cc es=>by
    rw[ex] at es;rcases cc with rfl|rfl|rfl
    ·rw[if_neg Z,if_neg N,if_pos rfl] at es;cases es;rcases O with⟨s,rfl⟩|⟨s,rfl⟩
     ·obtain⟨a',l,F,s3,_⟩:=R.slot c _ s;rw[h] at l;cases l;exact⟨⟨a,h,F,s3,B⟩,λd z=>by cases z⟩
     ·obtain⟨a',l,F,s3,_⟩:=R.slot c _ s;rw[h] at l;cases l;exact⟨⟨a,h,F,s3,B⟩,λd z=>by cases z⟩
    ·rw[if_neg hj,if_pos rfl] at es;cases es;exact⟨⟨M,x2,x3,Y⟩,λd z=>by cases z⟩
    ·rw[if_pos rfl] at es;cases es;exact⟨⟨L,y2,y3,J⟩,λd z=>by cases z⟩) (λc b cc y=>by
    rcases cc with rfl|rfl|rfl
    ·rw[h] at y;cases y;exact⟨B.mut,W⟩
    ·rw[M] at y;cases y;exact⟨Y.mut,P⟩
    ·rw[L] at y;cases y;exact⟨J.mut,T⟩)
  exact q H' R2 G2 v hv
open Classical in
def ZM (h:Addr->Addr->Res (Fl×Me))(m:Me):Res (Fl×Me):=
 if H:∃p:Bool×D,∀c a:Addr,c≠a->∃b,h c a=.ok (.rt p.1 p.2,b)/\b.length=m.length then .ok (.rt (iF H).1 (iF H).2,m.map λ_=>.un) else .stuck
theorem aaK (H:∀C o:Addr,C≠o->∃m',h C o=.ok (.rt fr d,m')/\m'.length=m.length):ZM h m=.ok (.rt fr d,m.map λ_=>.un):=by
 have b:∃p:Bool×D,∀C o:Addr,C≠o->∃m',h C o=.ok (.rt p.1 p.2,m')/\m'.length=m.length:=⟨(fr,d),H⟩;have e:=dQ b;obtain⟨j,c,_⟩:=e 0 1 (by decide);obtain⟨i,a,_⟩:=H 0 1 (by decide);rw[c] at a;unfold ZM;rw[dif_pos b];injection a with a
 injection a with a _
 injection a with g f
 rw[g,f]
section
theorem dF.forget (R:dF G O0 M0 H0 ow σ H m){m':Me}(C:m'.length=m.length):dF G O0 M0 H0 (λ_=>none) σ H (m'.map λ_=>Sl.un)/\Go O0 ow H (λ_=>none) H:=by
 refine⟨⟨⟨by rw[a6,C];exact R.len,R.keep,R.m0,λb z=>R.mutk b (z.elim .inl λ⟨_,e⟩=>by cases e),λi a e=>(by cases e),λi j a e _=>(by cases e),λi _=>rfl,λi s e=>?_⟩,λj d e=>?_⟩,λb o e _=>e,λi a e=>(by cases e),λ_ n=>n⟩
 ·rw[a5] at e;cases q:m'[i]? with
  |none=>rw[q] at e;cases e
  |some s0=>rw[q] at e;cases e;rfl
 ·rw[a5] at e;cases q:m'[j]? with
  |none=>rw[q] at e;cases e
  |some s0=>rw[q] at e;cases e
noncomputable def yX (ow:Os)(i j1 j2:Nat)(a o C:Addr):Os:=λk=>if k=i then some a else if k=j1 then some o else if k=j2 then some C else ow k
theorem dF.agK (R:dF G O0 M0 H0 ow σ H m)(g:aL H H')(n:H p=none)(n1:H p1=none)(U:H p2=none)(C:p≠p1)(J:p≠p2)(I:p1≠p2)(hi:i<m.length)(h1:j1<m.length)(h2:j2<m.length)(ij1:i≠j1)(ij2:i≠j2)(jj:j1≠j2)
  (o:OV G (λb=>Ow O0 ow b\/b=p\/b=p1\/b=p2) H' p d) (o1:OV G (λb=>Ow O0 ow b\/b=p\/b=p1\/b=p2) H' p1 d1) (o2:OV G (λb=>Ow O0 ow b\/b=p\/b=p1\/b=p2) H' p2 d2):
  dF G O0 M0 H0 (yX ow i j1 j2 p p1 p2) (σ.set i<|some<|.ref p) H' (((m.set i<|.ow d).set j1<|.hd true p1 d1).set j2<|.hd true p2 d2)/\Go O0 ow H (yX ow i j1 j2 p p1 p2) H':=by
 have A:=R.toRel.xr n;have B:=R.toRel.xr n1;have D:=R.toRel.xr U;have inv:∀k b,yX ow i j1 j2 p p1 p2 k=some b->(k=i/\b=p)\/(k=j1/\b=p1)\/(k=j2/\b=p2)\/(k≠i/\k≠j1/\k≠j2/\ow k=some b):=λk b e=>by
  unfold yX at e;split at e
  ·rename_i q;cases e;exact .inl ⟨q,rfl⟩
  ·split at e
   ·rename_i q;cases e;exact .inr<|.inl ⟨q,rfl⟩
   ·split at e
    ·rename_i q;cases e;exact .inr<|.inr<|.inl ⟨q,rfl⟩
    ·rename_i a b c;exact .inr<|.inr<|.inr ⟨a,b,c,e⟩
 have f:∀b,Ow O0 (yX ow i j1 j2 p p1 p2) b->Ow O0 ow b\/b=p\/b=p1\/b=p2:=λb z=>by
  rcases z with z|⟨k,e⟩
  ·exact .inl<|.inl z
  ·rcases inv k b e with⟨_,z⟩|⟨_,z⟩|⟨_,z⟩|⟨_,_,_,z⟩
   ·exact .inr<|.inl z
   ·exact .inr<|.inr<|.inl z
   ·exact .inr<|.inr<|.inr z
   ·exact .inl<|.inr ⟨k,z⟩
 have sub:∀b,Ow O0 (yX ow i j1 j2 p p1 p2) b->Ow O0 ow b\/H b=none:=λb z=>by
  rcases f b z with z|z|z|z
  ·exact .inl z
  ·rw[z];exact .inr n
  ·rw[z];exact .inr n1
  ·rw[z];exact .inr U
 have t:=R.mono g;have K:yX ow i j1 j2 p p1 p2 i=some p:=if_pos rfl;have P:yX ow i j1 j2 p p1 p2 j1=some p1:=by unfold yX;rw[if_neg<|eC ij1,if_pos rfl]
 have O:yX ow i j1 j2 p p1 p2 j2=some p2:=by unfold yX;rw[if_neg<|eC ij2,if_neg<|eC jj,if_pos rfl]
 have E:∀k,k≠i->k≠j1->k≠j2->yX ow i j1 j2 p p1 p2 k=ow k:=λk a b c=>by unfold yX;rw[if_neg a,if_neg b,if_neg c]
 have F:∀c,(((m.set i<|.ow d).set j1<|.hd true p1 d1).set j2<|.hd true p2 d2)[c]? = if c=j2 then some (.hd true p2 d2) else if c=j1 then some (.hd true p1 d1) else if c=i then some (.ow d) else m[c]?:=λc=>by
  by_cases r:c=j2
  ·subst r;rw[if_pos rfl,aT<|by simpa using h2]
  ·rw[if_neg r,a0<|eC r];by_cases j:c=j1
   ·subst j;rw[if_pos rfl,aT<|by simpa using h1]
   ·rw[if_neg j,a0<|eC j];by_cases h:c=i
    ·subst h;rw[if_pos rfl,aT hi]
    ·rw[if_neg h,a0<|eC h]
 refine⟨⟨⟨by simp[R.len],t.keep,t.m0,λb z=>?_,λk a e=>?_,λk l a L Q=>?_,λk M=>?_,λk s e=>?_⟩,λk N e=>?_⟩,.of g,λk a e=>?_,(Go.refl (O0:=O0) (ow:=ow) g).dom⟩
 ·rcases f b z with z|z|z|z
  ·exact t.mutk b z
  ·rw[z];exact o.mut
  ·rw[z];exact o1.mut
  ·rw[z];exact o2.mut
 ·rcases inv k a e with⟨_,z⟩|⟨_,z⟩|⟨_,z⟩|⟨_,_,_,z⟩
  ·rw[z];exact λw=>A<|.inl w
  ·rw[z];exact λw=>B<|.inl w
  ·rw[z];exact λw=>D<|.inl w
  ·exact R.no0 k a z
 ·rcases inv k a L with⟨u,z⟩|⟨u,z⟩|⟨u,z⟩|⟨_,_,_,z⟩<;>rcases inv l a Q with⟨v,y⟩|⟨v,y⟩|⟨v,y⟩|⟨_,_,_,y⟩
  ·rw[u,v]
  ·exact absurd (z.symm.trans y) C
  ·exact absurd (z.symm.trans y) J
  ·exact absurd (.inr ⟨l,z▸y⟩) A
  ·exact absurd (y.symm.trans z) C
  ·rw[u,v]
  ·exact absurd (z.symm.trans y) I
  ·exact absurd (.inr ⟨l,z▸y⟩) B
  ·exact absurd (y.symm.trans z) J
  ·exact absurd (y.symm.trans z) I
  ·rw[u,v]
  ·exact absurd (.inr ⟨l,z▸y⟩) D
  ·exact absurd (.inr ⟨k,y▸z⟩) A
  ·exact absurd (.inr ⟨k,y▸z⟩) B
  ·exact absurd (.inr ⟨k,y▸z⟩) D
  ·exact R.inj k l a z y
 ·have x:m.length<=k:=by simpa using M
  rw[E k (by lia) (by lia)<|by lia];exact R.out k x
 ·rw[F] at e;by_cases r:k=j2
  ·rw[if_pos r] at e;cases e;rw[r];exact⟨O,λ_=>R.toRel.zN U,(λz=>by cases z),o2.bQ λb z=>.inl<|f b z⟩
  ·rw[if_neg r] at e;by_cases j:k=j1
   ·rw[if_pos j] at e;cases e;rw[j];exact⟨P,λ_=>R.toRel.zN n1,(λz=>by cases z),o1.bQ λb z=>.inl<|f b z⟩
   ·rw[if_neg j] at e;by_cases h:k=i
    ·rw[if_pos h] at e;cases e;rw[h];exact⟨p,K,R.toRel.zN n,by rw[aT (by rw[R.len];exact hi)],o.bQ λb z=>.inl<|f b z⟩
    ·rw[if_neg h] at e;rw[E k h j r,a0<|eC h];exact((R.slot k s e).bQ sub λ_ _ b _=>oB _).mono g
 ·rw[F] at e;split at e
  ·cases e
  ·split at e
   ·cases e
   ·split at e
    ·cases e
    ·exact R.nb k N e
 ·rcases inv k a e with⟨_,z⟩|⟨_,z⟩|⟨_,z⟩|⟨_,_,_,z⟩
  ·rw[z];exact .inr n
  ·rw[z];exact .inr n1
  ·rw[z];exact .inr U
  ·exact .inl<|.inr ⟨k,z⟩
end
def abW (i j1 j2:Nat)(o:List ((Zae)×(Zae)))(k1 I k2 f2:Zae)(C:List ((Zae)×(Zae)))(k:Zab):Zab:=λm=>
 (ym o m).bind λa=>(k1 m).bind λf=>(I m).bind λg=>(k2 m).bind λh=>(f2 m).bind λe=>(ym C m).bind λc=>
  if a.length+2+c.length<=15/\i<m.length/\j1<m.length/\j2<m.length then
   ZM (λb d=>(ofO<|JH [] [] (a++(f,.adr b)::(h,.adr d)::c)).bind λr=>k<|((m.set i<|.ow<|.dct r.1 r.2).set j1<|.hd true b g).set j2<|.hd true d e) m
  else .stuck
theorem DPs.app:∀{ps o:List (V×V)} {l r:List (D×D)},DPs G O H ps l->DPs G O H o r->DPs G O H (ps++o) (l++r)
 |_,_,_,_,.nil,h=>h
 |_,_,_,_,.cons a b t,h=>.cons a b<|DPs.app t h
section
variable {X:Cx}{E:XK}
theorem Cq (o:List (TE×TE)):∀(fs:List ((Zae)×(Zae))) {H:Hp} {K:List (D×D)->Prop} {Q:List (V×V)->Hp->Prop},aL Hb H->Rel (gx X) O0 M0 H0 ow σ H m->Pu (gx X) E (ym fs m) Hb K->
  (∀l ps H',K l->aL H H'->DPs (gx X) (Ow O0 ow) H' ps l->yU o σ H' λI C=>Q (ps++I) C)->yU (J0 X E fs++o) σ H Q
 |[],H,K,Q,_,R,q,f=>f [] [] H q (aL.refl _) .nil
 |g::r,H,K,Q,gb,R,q,f=>by
  refine⟨O0,M0,H0,ow,m,R,q.bind.imp gb λj q x n a i=>⟨O0,M0,H0,ow,m,R.mono a,q.bind.imp (gb.trans a) λd q y C b e=>?_⟩⟩;refine Cq o r ((gb.trans a).trans b) ((R.mono a).mono b) q.bind λl ps p k c h=>?_;exact f _ ((x,y)::ps) _ k ((a.trans b).trans c)<|.cons ((i.mono b).mono c) (e.mono c) h
theorem Wy {i j1 j2:Nat}{y:Str}{py pos J:Pos}{I:List (Option Expr)}{C:List Expr}{U:List Stmt}{fs1 fs2:List ((Zae)×(Zae))}{k1 f1 k2 f2:Zae}{k:Zab}
  (hN:X.N.Nodup) (hi:X.N[i]? = some y) (hy:Loc X.env.scope y)
  (h:PPs X J I C (J0 X E fs1++(tE (gx X) E k1,tN (gx X) E f1)::(tE (gx X) E k2,tN (gx X) E f2)::(J0 X E fs2++[]))) (hr:FSs X E U k)
  (hall:I.all (·.isSome)=true:=by rfl) (hl:I.length=C.length:=by rfl) (h0:I≠[]:=by exact(λz=>nomatch z)) (h15:I.length<=15:=by decide) (ij1:i≠j1:=by decide) (ij2:i≠j2:=by decide) (jj:j1≠j2:=by decide)
  (hs:d4 (.Dict I C J) (some<|.Name y py) pos.line X.env=pure false:=by rfl)
  (hf:X.fn y=true\/X.env.scope.names.lookup y=some .local:=by clean_wf):
  FSs X E (.Assign [.Name y py] (.Dict I C J) pos::U) (abW i j1 j2 fs1 k1 f1 k2 f2 fs2 k):=by
 refine qU (Br (wD hN hi hy (Qe h hall hl h0 h15) hs hf) hr) λW σ H hE=>xq5 hE λO0 M0 H0 ow m R q=>?_;intro p hp;have x:aL H (upd H p<|.dK []):=bH hp _;have R1:=R.toRel.more x hp (by rw[aX];exact .inr<|.inl ⟨[],rfl⟩);have ow_of:∀{O1:Zaa} {b:Addr} {l:Addr},Ow (Op O1 l) ow b->Ow O1 ow b\/b=l:=λz=>Wj z;refine Cq _ fs1 x R1 (Ss.pu R.toRel q) λT ps1 H2 q u hl1=>?_;have R2:=R1.mono u;have A:=Ss.pu R.toRel q;refine⟨_,_,_,_,_,R2,A.imp (x.trans u) λc1 q x1 H3 g hx1=>?_⟩;have R3:=R2.mono g;have A:=Ss.pu R.toRel q;refine⟨_,_,_,_,_,R3,A.imp ((x.trans u).trans g) λd1 q a H4 s n1 M=>?_⟩;have R4:=R3.more s n1 M.mut;have A:=Ss.pu R.toRel q;refine⟨_,_,_,_,_,R4,A.imp (((x.trans u).trans g).trans s) λc2 q x2 H5 j hx2=>?_⟩;have R5:=R4.mono j;have A:=Ss.pu R.toRel q;refine⟨_,_,_,_,_,R5,A.imp ((((x.trans u).trans g).trans s).trans j) λd2 q f H6 D F ov2=>?_⟩;have R6:=R5.more D F ov2.mut;have A:=Ss.pu R.toRel q;refine Cq [] fs2 (((((x.trans u).trans g).trans s).trans j).trans D) R6 A λS Q d q B hl2=>?_;have R7:=R6.mono B;by_cases hc:T.length+2+S.length<=15/\i<m.length/\j1<m.length/\j2<m.length
 case neg=>rw[if_neg hc] at q;exact q.elim
 rw[if_pos hc] at q;obtain⟨ω,li,lj1,lj2⟩:=hc;unfold ZM at q;split at q
 case isFalse=>exact q.elim
 rename_i HU;have sp:=dQ HU;generalize hfd:iF HU=fd at sp q;obtain⟨fr,dd⟩:=fd;have gA:aL H d:=((((((x.trans u).trans g).trans s).trans j).trans D).trans B);have P:p≠a:=λz=>by
  have:H3 p=some (.dK []):=g _ _<|u _ _ aX
  rw[z,n1] at this;cases this
 have Y:p≠f:=λz=>by
  have:H5 p=some (.dK []):=j _ _<|s _ _<|g _ _<|u _ _ aX
  rw[z,F] at this;cases this
 have np3:a≠f:=λz=>by
  have m1:=M.mut
  have:H5 a≠none:=λw=>by
   have w4:H4 a=none:=j.free w;rw[w4] at m1;rcases m1 with⟨_,e⟩|⟨_,e⟩|⟨_,e⟩|⟨_,e⟩|⟨_,e⟩<;>cases e
  exact this<|z▸F
 have hp1:H a=none:=(x.trans<|u.trans g).free n1;have hp2:H f=none:=(x.trans<|u.trans<|g.trans<|s.trans j).free F;obtain⟨m',L,hlm⟩:=sp a f np3;have L:((ofO<|JH [] [] (T++(c1,.adr a)::(c2,.adr f)::S)).bind λr=>k<|((m.set i<|.ow<|.dct r.1 r.2).set j1<|.hd true a d1).set j2<|.hd true f d2)=.ok (.rt fr dd,m'):=L;cases em:JH [] [] (T++(c1,.adr a)::(c2,.adr f)::S) with
 |none=>rw[em] at L;cases L
 |some r=>
  rw[em] at L;simp only[qQ,Res.uQ] at L
  let OO:Zaa:=λb=>Ow O0 ow b\/b=p\/b=a\/b=f
  have G:∀b,OO b->Ow (Op (Op (Op O0 p) a) f) ow b:=λb z=>by
   rcases z with(z|z)|z|z|z
   ·exact .inl<|.inl<|.inl<|.inl z
   ·exact .inr z
   ·exact .inl<|.inl<|.inl<|.inr z
   ·exact .inl<|.inl<|.inr z
   ·exact .inl<|.inr z
  have fromOO:∀b,Ow (Op (Op (Op O0 p) a) f) ow b->OO b:=λb z=>by
   rcases z with(((z|z)|z)|z)|z
   ·exact .inl<|.inl z
   ·exact .inr<|.inl z
   ·exact .inr<|.inr<|.inl z
   ·exact .inr<|.inr<|.inr z
   ·exact .inl<|.inr z
  have a1:DPs (gx X) OO d ps1 T:=(hl1.bQ (O':=OO) (λb z=>by
   rcases z with z|z|z|z
   ·exact .inl<|z.elim (λw=>.inl<|.inl w) .inr
   ·exact .inl<|.inl<|.inr z
   ·exact .inr (by rw[z];exact g.free n1)
   ·exact .inr (by rw[z];exact(g.trans<|s.trans j).free F))).mono (g.trans<|s.trans<|j.trans<|D.trans B)
  have a2:DV (gx X) OO d x1 c1:=(hx1.bQ (O':=OO) (λb z=>by
   rcases z with z|z|z|z
   ·exact .inl<|z.elim (λw=>.inl<|.inl w) .inr
   ·exact .inl<|.inl<|.inr z
   ·exact .inr (by rw[z];exact n1)
   ·exact .inr (by rw[z];exact(s.trans j).free F))).mono (s.trans<|j.trans<|D.trans B)
  have a3:DV (gx X) OO d x2 c2:=(hx2.bQ (O':=OO) (λb z=>by
   rcases z with z|z|z|z
   ·exact .inl<|z.elim (λw=>.inl<|.inl<|.inl w) .inr
   ·exact .inl<|.inl<|.inl<|.inr z
   ·exact .inl<|.inl<|.inr z
   ·exact .inr (by rw[z];exact F))).mono (D.trans B)
  have a4:DPs (gx X) OO d Q S:=hl2.bQ λb z=>.inl<|G b z;have V:DPs (gx X) OO d (ps1++(x1,.ref a)::(x2,.ref f)::Q) (T++(c1,.adr a)::(c2,.adr f)::S):=a1.app<|.cons a2 (.adr a)<|.cons a3 (.adr f) a4;obtain⟨K,e1,e2,e3⟩:=MK (acc:=[]) V em rfl .nil;have len:=V.len;rw[e1,a6] at len;have Z:K.length<=15:=by simp at len;lia
  have e7:d p=some (.dK []):=B _ _<|D _ _<|j _ _<|s _ _<|g _ _<|u _ _ aX;refine⟨e7,K,by rw[dc] at *;exact e1,Z,?_⟩;have O:∀b,OO b->ik (d b):=λb z=>R7.mutk b<|G b z;have kp:Kp OO d (upd d p<|.dK<|lJ [] K):=λc o e n=>by rw[cB λz=>n<|.inr<|.inl z];exact e
  have gB:aL H (upd d p<|.dK<|lJ [] K):=λc o e=>by
   rw[cB (λz=>by rw[z,hp] at e;cases e)];exact gA _ _ e
  have b1:OV (gx X) OO (upd d p<|.dK<|lJ [] K) p (.dct r.1 r.2):=⟨_,_,aX,e2,rfl,e3.kp O kp⟩;have b2:OV (gx X) OO (upd d p<|.dK<|lJ [] K) a d1:=by
   refine OV.kp O kp (cB<|eC P) ?_;refine(M.bQ (O':=OO) λb z=>?_).mono (j.trans<|D.trans B);rcases z with z|z|z|z
   ·exact .inl<|.inl<|z.elim (λw=>.inl<|.inl w) .inr
   ·exact .inl<|.inl<|.inl<|.inr z
   ·exact .inl<|.inr z
   ·exact .inr (by rw[z];exact j.free F)
  have b3:OV (gx X) OO (upd d p<|.dK<|lJ [] K) f d2:=by
   refine OV.kp O kp (cB<|eC Y) ?_;refine(ov2.mono B).bQ (O':=OO) λb z=>.inl ?_;rcases z with z|z|z|z
   ·exact .inl<|z.elim (λw=>.inl<|.inl<|.inl w) .inr
   ·exact .inl<|.inl<|.inl<|.inr z
   ·exact .inl<|.inl<|.inr z
   ·exact .inr z
  obtain⟨R8,g8⟩:=R.agK gB hp hp1 hp2 P Y np3 li lj1 lj2 ij1 ij2 jj b1 b2 b3;refine⟨O0,M0,H0,_,_,R8,?_⟩;rw[L];intro v ow' σ' H' R9 g9 hv hfr;obtain⟨R10,g10⟩:=R9.forget (m':=m) hlm.symm;refine q v _ σ' H' R10 ((g8.trans g9).trans g10) (hv.bQ λb z=>.inl<|z.elim .inl λ⟨_,e⟩=>by cases e) λz=>?_;rcases hfr z with⟨p0,u1,u2,u3⟩|t
  ·exact .inl ⟨p0,u1,u2,u3.bQ λb z=>.inl<|z.elim (λw=>.inl<|w.elim .inl λ⟨_,e⟩=>by cases e) .inr⟩
  ·exact .inr t
end
section
def qO (i:Nat)(f:Me->Res (D×Me)):Zab:=λm=>(ofO<|jY m i).bind λ_=>(f m).bind λp=>(ofO<|jY p.2 i).bind λo=>if o.2.length<ai then .ok (.nx,putL p.2 i o.1<|o.2++[p.1]) else .stuck
theorem Dh (i:Nat)(he:FX X E e fa)(hN:X.N[i]? = some x:=by rfl)(I:Vis X.env.scope x:=by simp_wf)(hd:(x==("__debug__":Str))=false:=by decide)(J:(x==("__classdict__":Str))=false:=by decide)
  (θ:gE (.Name x np) "append" X.env (eval (.Name x np) X.env)=eval (.Name x np) X.env:=by rfl)
  (ψ:((iE η<|ag [e] X.env).all (λx=>!x.1)&&(tm η<|md [] X.env).all (λx=>x.1.isSome)&&decide ([e].length+([]:List me).length+(if([]:List me).isEmpty then 0 else 1)<30))=true:=by rfl)
  (ζ:(apos.endLine==η.line)=true:=by rfl) (U:ag [e] X.env=(false,eval e X.env)::ag [] X.env:=by rfl) (C:(iE η<|ag [] X.env).any (·.1)=false:=by rfl)
  (τ:d4 (.Call (.Attribute (.Name x np) "append" apos) [e] [] η) none pos.line X.env=pure false:=by rfl):
  FS X E (.Expr (.Call (.Attribute (.Name x np) "append" apos) [e] [] η) pos) (qO i fa):=
 bW (pW (FZ jS vS vT yG (iZ hN I hd J) (cL he jh U) θ ψ ζ U C) τ) λW Q H y=>xq5 y λB M0 H0 ow m R q=>by
  obtain⟨o,b,q⟩:=Ss.ofO q;obtain⟨k,O⟩:=o;refine uV (rH R.toRel b) λa w p u A F G=>?_;refine⟨_,u,.inl ⟨rfl,w,SqL.of A⟩,B,M0,H0,ow,m,R,(Xs.ss (k:=λd j=>(ofO<|jY j i).bind λo=>if o.2.length<ai then .ok (.nx,putL j i o.1<|o.2++[d]) else .stuck) q).imp (Go.refl<|aL.refl _) λd P s c K t q v I=>?_⟩;have q:=q s t c;obtain⟨o,b,q⟩:=Ss.ofO q;obtain⟨k',g⟩:=o;refine uV (rH c.toRel b) λL f n M z l r=>?_;rw[p] at n;cases n;by_cases h:g.length<ai
  ·have q:=q;rw[if_pos h] at q;obtain⟨R2,D⟩:=c.put p r<|lu l<|.cons I .nil;exact⟨a,f,v,rfl,rfl,z,by rw[cC l];exact h,q _ _ _ R2 D⟩
  ·have q:=q;rw[if_neg h] at q;exact q.elim
noncomputable def vO (f:Me->Res (D×Me)):Zab:=λm=>(f m).bind λp=>.ok (.rt false p.1,p.2)
theorem Lh (o:FX X E e fa):FS X E (.Return (some e) pos) (vO fa):=bW (Di o) λW l H i=>xq5 i λg M0 H0 ow m R q=>by
 refine⟨g,M0,H0,ow,m,R,(Xs.ss (k:=λd b=>.ok (.rt false d,b)) q).imp (Go.refl<|aL.refl _) λd j c a n h q v f=>?_⟩;exact q c h a v ow l j a (Go.refl<|aL.refl _) f λz=>by cases z
end
end F
namespace L2
open PySem PySem.Spec PyProof.Rows
def Itd (o:Int)(n:Nat):It:=⟨λi _=>i<n,λi H x H'=>H'=H/\x=.int (o-i),λi _=>n<=i⟩
theorem Sv {P:bE}{w:eI}{K:PySem.W.Frag}{J:Expr}(it:Addr)(C:Int)(n:Nat):Turn Calm P w K J (Itd C n) [it] it (λi h=>AE h it (C+(i:Nat)*(-1)) ((n:Int)-(i:Nat)) (-1)) where
 mem:=by simp
 obj:=λi h a b c=>by
  have e:b=it:=by simpa using c
  subst e;exact⟨_,a,λv z=>by
   have M:Data.fields _=Data.cell v:=z;cases M⟩
 keep:=λi h g a k=>k it (by simp) _ a
 item:=by
  intro X x l q p i B s D H E I f a m;subst x l q;refine pU (f it<|by simp) λy A N r u j=>?_;have W:=Walks.range (prog:=X.prog) (w:=X.w) (I.ok.hd p) it C (-1) n;refine W.item i s _ _ m a λv g tk F d G=>?_;obtain⟨t,rfl⟩:=F;have O:Inv X B D H { s with heap:=g,toks:=tk }:=I.turned (λb o c e=>G b o (by simpa using c) e) y A r u j;refine⟨_,rfl,Qu (s:={ s with heap:=g,toks:=tk }) (n:="range_iterator") d rfl rfl (by decide) ⟨.int<|C-i,H,O,⟨t,?_⟩,⟨rfl,rfl⟩,d,λb c=>(f b c).1⟩⟩;rw[show C+(i:Int)*(-1)=C-i by lia]
 done:=by
  intro X x l q p i B s D H E I f a m;subst x l q;refine pU (f it<|by simp) λy A N r u j=>?_;exact wpAny_pyNext_range_end (I.ok.hd p) a (by have:n<=i:=m;lia) λg L=>⟨rfl,I.turned (t':=s.toks) (λb o c e=>L b o c e) y A r u j⟩
 self:=λ_ _ _ _ _ a h=>wpAny_pyIter_rangeiter a h
theorem G7 (a b:Int):ll a b (-1)=((a-b).toNat:Int):=by
 unfold ll;rw[if_neg<|by decide];split
 ·rw[show -(-1:Int)=1 by decide,Int.ediv_one];lia
 ·lia
theorem small_down (I:-1000000000<=a)(o:a<=1000000000)(J:-1000000000<=b)(C:b<=1000000000):AN a b (-1)=true:=by
 unfold AN;rw[G7];simp only[Builtin.Range.rangeFitsLong,l3,Bool.or_eq_true,decide_eq_true_eq,beq_iff_eq,show ¬(-1:Int)>0 by decide,if_false]
 lia
section
variable {X:Cx}{tg:Expr}
theorem YQ {J:Zl}{U:St}{H:Hp}{s:aI}{R:It->Hp->Prop}{E:Zs}{C lo:Int}{t u v:Tok}{tk:Nat}(I:Inv X J U H s)(h1:-1000000000<=C)(h2:C<=1000000000)(h3:-1000000000<=lo)(h4:lo<=1000000000)
  (q:R (Itd C (C-lo).toNat) H):bt (cx X.prog X.w) X.A (B4<|.ref s.heap.objs.size) (PIE Calm X J U tg R) E { s with heap:=s.heap.push { cls:=.type "range",data:=.fields #[.int C t,.int lo u,.int (-1) v] },toks:=tk }:=by
 refine wpAny_pyIter_range (IsRange.new ..) (small_down h1 h2 h3 h4) ?_;have a:Inv X J U H { s with heap:=s.heap.push { cls:=.type "range",data:=.fields #[.int C t,.int lo u,.int (-1) v] },toks:=tk }:=I.kept λb o e=>ar _ e;refine⟨(s.heap.push { cls:=.type "range",data:=.fields #[.int C t,.int lo u,.int (-1) v] }).objs.size,[(s.heap.push { cls:=.type "range",data:=.fields #[.int C t,.int lo u,.int (-1) v] }).objs.size],_,_,H,rfl,
  a.kept (t':=tk) λb o e=>ar _ e,Sv _ C (C-lo).toNat,?_,λb c=>?_,q⟩
 ·have f:C+((0:Nat):Int)*(-1)=C:=by simp
  have d:(((C-lo).toNat:Nat):Int)-((0:Nat):Int)=ll C lo (-1):=by rw[G7];lia
  show AE _ _ (C+((0:Nat):Int)*(-1)) ((((C-lo).toNat:Nat):Int)-((0:Nat):Int)) (-1);rw[f,d];exact bg _ rfl
 ·have e:b=(s.heap.push { cls:=.type "range",data:=.fields #[.int C t,.int lo u,.int (-1) v] }).objs.size:=by simpa using c
  subst e;exact a.Va (aS _)<|a.hok.fresh<|aS _
def aeK (o:TA):TI:=λc H R=>o c H λa b=>∃i j:Int,a=[.int i,.int j,.int (-1)]/\(-1000000000<=i/\i<=1000000000/\-1000000000<=j/\j<=1000000000)/\R (Itd i (i-j).toNat) b
theorem TV (hg:Gl X "range")(C:X.mg "range" = none)(J:PA X [a,b,c] ta)(U:ag [a,b,c] X.env=[(false,eval a X.env),(false,eval b X.env),(false,eval c X.env)]:=by rfl)(o:ag [b,c] X.env=[(false,eval b X.env),(false,eval c X.env)]:=by rfl):
  PI Calm X tg (.Call (.Name "range" p) [a,b,c] [] pos) (aeK ta):=by
 intro l s v H R I h;refine Call_<|rF I hg C boot_range<|eS (thn (J pos l s v H _ I h) λB A k=>xq2 k λx y u w d=>?_) (by rw[U,o]) (by rw[o];rfl);obtain⟨i,j,e,⟨d,n,m,g⟩,q⟩:=d;subst e;cases w with
 |cons r rr=>
  cases rr with
  |cons r' rr=>
   cases rr with
   |cons r'' rr=>
    cases rr;obtain⟨t,rfl⟩:=r;obtain⟨z,rfl⟩:=r';obtain⟨f,rfl⟩:=r'';exact call_range_3 (by decide) (YQ u d n m g q)<|fN<|PyProof.noPylong_small<|by lia
end
end L2
namespace F
open PySem PySem.Spec PyProof.Rows L2 Hd
noncomputable def abt (f:Zad):Zad:=λm=>(f m).bind λd=>match d with
 |[.int i,.int j,.int (-1)]=>if -1000000000<=i/\i<=1000000000/\-1000000000<=j/\j<=1000000000 then .ok ((cq (i-j).toNat).map λ(k:Nat)=>D.int<|i-k) else .stuck
 |_=>.stuck
theorem aa5:Bm G (Itd o n) ((cq n).map λ(k:Nat)=>D.int<|o-k) P:=by
 intro O H _;refine⟨λi o=>(show i<n by simpa using o),λi x H' o y=>?_,by show n<=_;simp⟩;obtain⟨e,y⟩:=y;subst e y;have a:i<n:=by simpa using o
 exact⟨aL.refl _,_,by simp[a5,AK a],.int _⟩
section
variable {X:Cx}{E:XK}{tg e a b c:Expr}{f:Zae}{fs:Zad}{fa:Me->Res (D×Me)}{p pos:Pos}
theorem Zz (U:Gl X "range")(C:X.mg "range" = none)(I:FAB X E [a,b,c] fs)(J:ag [a,b,c] X.env=[(false,eval a X.env),(false,eval b X.env),(false,eval c X.env)]:=by rfl)(o:ag [b,c] X.env=[(false,eval b X.env),(false,eval c X.env)]:=by rfl):FI X E tg (.Call (.Name "range" p) [a,b,c] [] pos) (abt fs):=
 pP (TV U C I J o) λu H R e=>xq5 e λj M0 H0 ow m l q=>⟨j,M0,H0,ow,m,l,q.bind.imp (aL.refl _) λs q r H' g h=>by
  split at q
  ·cases h with
   |cons h1 t=>cases t with
    |cons h2 t=>cases t with
     |cons h3 t=>
      cases t;cases cI h1;cases cI h2;cases cI h3;obtain⟨⟨i,f,n,d⟩,k⟩:=Dy q;exact⟨_,_,rfl,⟨i,f,n,d⟩,k _ H' g aa5⟩
  ·exact q.elim⟩
def XS:Zab:=λ_=>.stuck
theorem Wf {st:Stmt}:FS X E st XS:=λ_ _ _ _ _ _ ⟨_,_,_,_,_,_,z⟩=>z.elim
noncomputable def K5 (f:Me->Res (D×Me))(h:Zba):Zab:=λm=>(f m).bind λp=>(ofO<|h p.1 p.2).bind λa=>.ok (.nx,a)
theorem aaw (J:FX X E e fa)(U:FG X k tg h)(C:mI [tg] e pos.line X.env=pure false:=by rfl)(I:mM [tg] e X.env=pure none:=by rfl)
  (o:(ki [tg] X.env).map (·.2)=[tf tg X.env]:=by rfl):FS X E (.Assign [tg] e pos) (K5 fa h):=bW (Iv J U C I o) λW w H g=>xq5 g λf M0 H0 ow m R q=>by
 refine⟨f,M0,H0,ow,m,R,(Xs.ss (k:=λd a=>(ofO<|h d a).bind λa=>.ok (.nx,a)) q).imp (Go.refl<|aL.refl _) λd u c b t i q v l=>?_⟩;obtain⟨a,e,q⟩:=Ss.ofO<|q c i b;exact⟨f,M0,H0,ow,c,d,a,b.toRel,l,e,λr s p n j _=>q _ _ _ ⟨p,j b.nb⟩ n⟩
def KR (i:Nat):Me->Res (D×Me):=λm=>(ofO<|jY m i).bind λo=>(ofO<|o.2[o.2.length-1]?).bind λd=>.ok (d,putL m i o.1 o.2.dropLast)
theorem adR (i:Nat)(hN:X.N[i]? = some x:=by rfl)(I:Vis X.env.scope x:=by simp_wf)(hd:(x==("__debug__":Str))=false:=by decide)(C:(x==("__classdict__":Str))=false:=by decide)
  (J:gE (.Name x np) "pop" X.env (eval (.Name x np) X.env)=eval (.Name x np) X.env:=by rfl) (U:(apos.endLine==η.line)=true:=by rfl):
  FX X E (.Call (.Attribute (.Name x np) "pop" apos) [] [] η) (KR i):=
 bJ (Ib jS zt zv Wa (iZ hN I hd C) J U) λu H Q l=>xq5 l λt M0 H0 ow m R q=>by
  obtain⟨o,n,q⟩:=(Xs.pu R.toRel q).ofO;obtain⟨k,s⟩:=o;obtain⟨d,c,q⟩:=(Xs.pu R.toRel q).ofO;refine uV (rH R.toRel n) λa f j r g b p=>?_;obtain⟨v,I,dv⟩:=vN b c;obtain⟨R2,h⟩:=R.put j p<|wF b;have e:=dv.go R.mutk h.ev;exact⟨_,r,.inl ⟨rfl,f,SqL.of g⟩,a,f,v,rfl,rfl,g,by rw[cC b];exact I,q _ R2 h _ e⟩
end
section
theorem aa9:seqRepeat? (.type "int")=pure none:=by rfl
theorem SN (o:MulOk x n)(h:∀t' k,Q (.str (B7 x n) t') { s with toks:=k }):
  bt (cx prog w) A (iP .Mult (.int n u)<|.str x t) Q E s:=by
 have c:(if n<1 then Made.str yT else if(n==1||x.length==0)=true then Made.val (.str x t) else Made.str ⟨(c9 n.toNat x.cps).foldl (· ++ ·) #[]⟩).post Q s:=by
  unfold B7 at h;by_cases a:n<1
  ·rw[if_pos a];have b:=h s.toks<|s.toks+1;rw[if_pos a] at b;exact⟨by decide,b⟩
  ·rw[if_neg a];refine post_val_or_made (λe=>fits_reps<|o.2.2 a<|by simpa using e) λt' k=>?_;have b:=h t' k;rw[if_neg a] at b;exact b
 exact lm_binaryOp_repeat_right (T:="str") (U:="int") (by decide) (λd=>z0 d n u) (vv s x t) zw noFill_str_mul AA aa9 repeat_str yi.lookup<|call_gives AA (z0 s n u) PySem.F.entry_int_mul (PySem.F.args_int_mul_2 _ _) (AutoIntG3.int___mul___int_str_0 n u x t) ⟨rfl,vv _ x t,call_gives PySem.F.slot_str_mul (vv s x t) PySem.F.entry_str_mul (PySem.F.args_str_mul_2 _ _) (gives_str_mul x n t u o.1 o.2.1 o.2.2) c⟩
noncomputable def PN:D->D->Option D
 | .int n,.str z=>if 0<=n/\n<=1000/\z.length<=1000 then some (.str<|B7 z n) else none
 |_,_=>none
theorem Xj:OpR X (iP .Mult) (rG (gx X) PN):=by
 intro A s B H x y v u Q I c f h;refine pL h λO d e r m i b a q=>?_;unfold PN at a;split at a
 ·rename_i n z;obtain⟨⟨l,j,g⟩,rfl⟩:=oif a;cases cI i;cases kj b;obtain⟨t,rfl⟩:=c;obtain⟨w,rfl⟩:=f;exact SN (mulOk_of l j g) λp k=>Ru I q
 ·cases a
end
end F
namespace L2
open PySem PySem.Spec PyProof.Rows
section
variable {X:Cx}{e st:Expr}{te:TE}{tst:TO}{p2 pos:Pos}
end
end L2
namespace F
open PySem PySem.Spec PyProof.Rows L2 Hd
section
variable {X:Cx}{E:XK}{e st:Expr}{f:Zae}{fk:Me->Res (Option Int)}{p2 pos:Pos}
end
end F
namespace Pk
open PySem L2 Hd F
section
def jK:Zaf:=
 (aK gNe (aj 3)<|fC<|.int 0)
def jL:Zab:=
 (aH (bC 4<|az bc (aj 2)<|aj 3)
 (aH (bC 2<|aG 3)
 (bC 3<|aG 4)))
def oN:Zab:=
 (oW jK jL)
def lO (o:Zab):Zab:=
 (aH (bC 2<|aP Ub<|aa (aj 0) aB)
 (aH (bC 3<|aP Ub<|aa (aj 1) aB)
 (aH o
 (aY<|aG 2))))
def lL:Zab:=
 (lO oN)
def gV:Zac:=aV 5 2 lL
def yl (o:Zac):Zab:=
 (aH (bC 2<|fFn o<|aa (aG 0)<|aa (aG 1) aB)
 (aH (gIf (aK gLt (aj 1)<|fC<|.int 0) (bC 2<|fUn wY<|aj 2) gNx)
 (aY<|bu<|aa (az dq (aj 0)<|aj 2)<|aa (az dq (aj 1)<|aj 2) aB)))
def wJ:Zab:=
 (yl gV)
def qL:Zac:=aV 3 2 wJ
def Mr (o:Zac):Zab:=
 (aY<|fFn o<|aa (az bR (az eX (az gIx (aj 0)<|fC<|.int 0)<|az gIx (aj 1)<|fC<|.int 1)<|az eX (az gIx (aj 1)<|fC<|.int 0)<|az gIx (aj 0)<|fC<|.int 1)<|aa (az eX (az gIx (aj 0)<|fC<|.int 1)<|az gIx (aj 1)<|fC<|.int 1) aB)
def Nv:Zab:=
 (Mr qL)
def Jd:Zac:=aV 2 2 Nv
def Jg:Zab:=
 (aY<|je gLt (az eX (az gIx (aj 0)<|fC<|.int 0)<|az gIx (aj 1)<|fC<|.int 1)<|az eX (az gIx (aj 1)<|fC<|.int 0)<|az gIx (aj 0)<|fC<|.int 1)
def Jo:Zab:=
 Jg
def Bj:Zac:=aV 2 2 Jo
def zp:Zab:=
 (bC 1<|fFn Jd<|aa (aG 1)<|aa (aG 2) aB)
def Gq:Zab:=
 (ir (jf<|aG 0) (hName 2) zp)
def JK (o:Zab):Zab:=
 (aH (bC 1<|fC<|.tup [(.int 0),(.int 1)])
 (aH o
 (aY<|aG 1)))
def Jf:Zab:=
 (JK Gq)
def Av:Zac:=aV 3 1 Jf
def m5:Zae:=
 (d7 2 [] (sU<|az gIx (aj 0)<|fUn wY<|fC<|.int 1) (lC 2<|cz (hName 0)<|cz (hName 1) lD) jV<|aG 1)
def iR (o:Zae):Zab:=
 (aH (gIf (aK gEq (az gIx (aj 0)<|fC<|.int 0)<|fC<|.str "end") (pQ<|dW aB) gNx)
 (pQ o))
def uY:Zab:=
 (iR m5)
def jx:Zac:=aV 1 1 uY
def pY:Zae:=
 (bu<|aa (az bR (az gIx (aj 2)<|fC<|.int 0)<|bu<|aa (aG 0) aB)<|aa (aG 1) aB)
def lU:Zae:=
 (d7 2 [3] (ac4<|aa (fFn jx<|aa (az gIx (aj 3)<|fC<|.int 1) aB) aB) (lC 2<|cz (hName 0)<|cz (hName 1) lD) jV pY)
def lX:Zaf:=
 (aK gGt (aP cP<|aa (aj 2) aB)<|fC<|.int 0)
def mG:Zab:=
 (aH (Ju 3 2)
 (aH (dh 1<|aG 3)
 (aH (bC 4 lU)
 (Jj 2<|aP Xh<|aa (aj 4) aB))))
def Ez:Zab:=
 (oW lX mG)
def pX (o:Zab):Zab:=
 (aH (eV 1<|dW aB)
 (aH (eV 2<|dW<|aa (bu<|aa (bu aB)<|aa (aG 0) aB) aB)
 (aH o
 (jg 1))))
def zM:Zab:=
 (pX Ez)
def pI:Zac:=aV 5 1 zM
def rW:Zae:=
 (d7 2 [] (sU<|az gIx (aj 0)<|fC<|.int 3) (lC 2<|cz (hName 0)<|cz (hName 1) lD) jV<|aG 0)
def wu (o:Zae):Zab:=
 (aY<|aP eU<|aa o aB)
def vQ:Zab:=
 (wu rW)
def rT:Zac:=aV 1 1 vQ
def gY:Zab:=
 (aH (gIf (aK gNe (az gIx (aj 0)<|fC<|.int 0)<|fC<|.str "move") (aY<|aG 1) gNx)
 (aH (bC 3<|bu<|aa (az gIx (aj 0)<|fC<|.int 2)<|aa (az gIx (az gIx (az gIx (aj 0)<|fC<|.int 3)<|aj 2)<|fC<|.int 0) aB)
 (aH (gIf (aK gEq (az gIx (aj 0)<|fC<|.int 1)<|fC<|.int 1) (aY<|bu<|aa (az bR (az gIx (aj 1)<|fC<|.int 0)<|bu<|aa (aG 3) aB)<|aa (az gIx (aj 1)<|fC<|.int 1) aB) gNx)
 (aY<|bu<|aa (az gIx (aj 1)<|fC<|.int 0)<|aa (az bR (az gIx (aj 1)<|fC<|.int 1)<|bu<|aa (aG 3) aB) aB))))
def gR:Zab:=
 gY
def fO:Zac:=aV 4 3 gR
def dJ:Zab:=
 (GR 1 (az bR (aj 3)<|bu<|aa (aG 5) aB)<|fFn fO<|aa (aG 4)<|aa (az zL (aj 1)<|aj 3)<|aa (aG 5) aB)
def ie:Zab:=
 (ir (sW<|aa (aP cP<|aa (fFn jx<|aa (aG 4) aB) aB) aB) (hName 5) dJ)
def bF:Zab:=
 (aH (dh 2<|bu<|aa (aG 3)<|aa (aG 4)<|aa (az zL (aj 1)<|aj 3) aB)
 ie)
def jT:Zab:=
 (ir (jf<|fFn pI<|aa (aG 0) aB) (lC 2<|cz (hName 3)<|cz (hName 4) lD) bF)
def fY (o:Zab):Zab:=
 (aH (eV 1<|Oi (bu aB)<|bu<|aa (bu aB)<|aa (bu aB) aB)
 (aH (eV 2<|dW aB)
 (aH o
 (jg 2))))
def lG:Zab:=
 (fY jT)
def fW:Zac:=aV 6 1 lG
def wM (o:Zac):Zab:=
 (aY<|bu<|aa (az gIx (aj 0)<|fC<|.int 1)<|aa (az gIx (aj 0)<|fC<|.int 2)<|aa (fFn o<|aa (aG 0) aB)<|aa (az gIx (aj 1)<|az dZ (az gIx (aj 0)<|fC<|.int 1)<|fC<|.int 1) aB)
def xO:Zab:=
 (wM rT)
def uc:Zac:=aV 2 2 xO
def iB:Zab:=
 (gIf (aK gEq (az gIx (aj 3)<|fC<|.int 0)<|fC<|.str "move") (Zv 1 (bu<|aa (az gIx (aj 3)<|fC<|.int 1)<|aa (az gIx (aj 3)<|fC<|.int 2) aB)<|fFn uc<|aa (aG 3)<|aa (aG 4) aB) gNx)
def wN:Zab:=
 (ir (jf<|fFn fW<|aa (aG 0) aB) (lC 3<|cz (hName 2)<|cz (hName 3)<|cz (hName 4) lD) iB)
def qX (o:Zab):Zab:=
 (aH (eV 1 GP)
 (aH o
 (pQ<|M4<|aj 1)))
def Eh:Zab:=
 (qX wN)
def vJ:Zac:=aV 5 1 Eh
def sZ:Zae:=
 (d7 1 [1] (jf<|fFn vJ<|aa (aG 0) aB) (hName 0) (aK gEq (az gIx (aj 0)<|fC<|.int 0)<|aj 1)<|aG 0)
def yE (o:Zae):Zab:=
 (pQ o)
def yZ:Zab:=
 (yE sZ)
def lR:Zac:=aV 2 2 yZ
end
end Pk
namespace Hd
noncomputable def gI (a b:Int):Int:=(ui a b:Nat)
theorem Qv (o:0<=a)(C:0<b):gI b (a%b)=gI a b:=by
 unfold gI ui;have e:(a%b).natAbs=a.natAbs%b.natAbs:=by
  obtain⟨n,rfl⟩:=xp o;obtain⟨m,rfl⟩:=xp<|Int.le_of_lt C;rfl
 rw[e,BI a.natAbs b.natAbs,Nat.gcd_rec b.natAbs a.natAbs,BI]
theorem Qq (o:0<=a):gI a 0=a:=by
 unfold gI;rw[Int.gcd_zero_right]
 lia
theorem VR (a b:Int):gI (if a<0 then -a else a) (if b<0 then -b else b)=gI a b:=by
 unfold gI ui;have h:∀x:Int,(if x<0 then -x else x).natAbs=x.natAbs:=λx=>by split<;>lia
 rw[h,h]
theorem aeB (a b:Int):0<=gI a b:=Int.natCast_nonneg _
theorem HW (o:b≠0):0<gI a b:=by
 have:0<ui a b:=Nat.pos_of_ne_zero λh=>o (Int.gcd_eq_zero_iff.mp h).2
 unfold gI;lia
theorem Qf (a b:Int):gI a b ∣ a:=Int.gcd_dvd_left a b
theorem Du (a b:Int):gI a b ∣ b:=Int.gcd_dvd_right a b
theorem abP (o:b≠0):(gI a b).natAbs<=b.natAbs:=by
 have h:=kG.mpr<|Du a b;exact A6 (by lia) h
def dv (t b:Int):Int:=if b<0 then -gI t b else gI t b
theorem QZ (o:b≠0):dv t b≠0:=by
 have:=HW (a:=t) o
 unfold dv;split<;>lia
theorem Xd (t b:Int):(dv t b).natAbs=(gI t b).natAbs:=by unfold dv;split<;>lia
def lt (t b:Int):Int:=t.fdiv<|dv t b
def lb (t b:Int):Int:=b.fdiv<|dv t b
theorem BX {a d q:Int}(hd:d≠0)(h:a=d*q):a.fdiv d=q:=by simp_all
theorem abl (t b:Int):dv t b ∣ t:=by
 unfold dv;split
 ·exact Int.neg_dvd.mpr<|Qf t b
 ·exact Qf t b
theorem XR (t b:Int):dv t b ∣ b:=by
 unfold dv;split
 ·exact Int.neg_dvd.mpr<|Du t b
 ·exact Du t b
theorem lt_mul (o:b≠0):dv t b*lt t b=t:=by
 obtain⟨q,a⟩:=abl t b;have e:lt t b=q:=BX (QZ o) a;rw[e];exact a.symm
theorem Hn (o:b≠0):dv t b*lb t b=b:=by
 obtain⟨q,a⟩:=XR t b;have e:lb t b=q:=BX (QZ o) a;rw[e];exact a.symm
theorem aeh (o:b≠0):1<=lb t b:=by
 have e:=Hn (t:=t) o;have g:=HW (a:=t) o;by_cases h:lb t b<=0
 ·exfalso;unfold dv at e;split at e
  ·have:0<=-gI t b*lb t b:=Int.mul_nonneg_of_nonpos_of_nonpos (by lia) h
   lia
  ·have:gI t b*lb t b<=0:=Int.mul_nonpos_of_nonneg_of_nonpos (by lia) h
   lia
 ·lia
theorem abr (o:b≠0):gI (lt t b) (lb t b)=1:=by
 have c:=lt_mul (t:=t) o;have d:=Hn (t:=t) o;have g:=HW (a:=t) o;have q:gI t b=(dv t b).natAbs*gI (lt t b) (lb t b):=by
  have:ui (dv t b*lt t b) (dv t b*lb t b)=(dv t b).natAbs*ui (lt t b) (lb t b):=Int.gcd_mul_left ..
  rw[c,d] at this;unfold gI;rw[this];push_cast;rfl
 have e:((dv t b).natAbs:Int)=gI t b:=by rw[Xd];have:=aeB t b;lia
 rw[e] at q;have h:gI t b*gI (lt t b) (lb t b)=gI t b*1:=by rw[Int.mul_one];exact q.symm
 exact Int.eq_of_mul_eq_mul_left (by lia) h
theorem Uq (o:b≠0):lt t b*b=t*lb t b:=by
 have a:=lt_mul (t:=t) o;have c:=Hn (t:=t) o
 calc lt t b*b=lt t b*(dv t b*lb t b):=by rw[c]
  _=(dv t b*lt t b)*lb t b:=by rw[← nc,mw (lt t b)<|dv t b]
  _=t*lb t b:=by rw[a]
theorem ab7 (o:b≠0):(lt t b).natAbs<=t.natAbs:=by
 have e:=lt_mul (t:=t) o;have h:(lt t b).natAbs ∣ t.natAbs:=kG.mpr ⟨dv t b,by rw[mw];exact e.symm⟩;by_cases z:t=0
 ·have:lt t b=0:=by
   have a:dv t b*lt t b=0:=e.trans z;rcases Int.mul_eq_zero.mp a with h|h
   ·exact absurd h<|QZ o
   ·exact h
  rw[this];exact d5 _
 ·exact A6 (by lia) h
theorem abZ (o:b≠0):(lb t b).natAbs<=b.natAbs:=by
 have e:=Hn (t:=t) o;have h:(lb t b).natAbs ∣ b.natAbs:=kG.mpr ⟨dv t b,by rw[mw];exact e.symm⟩;exact A6 (by lia) h
theorem sO (c:ui p q=1)(h:q ∣ p*s):q ∣ s:=by
 have a:q.natAbs ∣ p.natAbs*s.natAbs:=by rw[← qk];exact kG.mpr h
 have b:B0 q.natAbs p.natAbs:=by unfold B0;rw[BI];exact c
 exact kG.mp<|Nat.Coprime.dvd_of_dvd_mul_left b a
theorem MN (I:1<=q)(J:1<=s)(o:gI p q=1)(C:gI r s=1)(h:p*s=r*q):p=r/\q=s:=by
 have b:ui p q=1:=by unfold gI at o;lia
 have d:ui r s=1:=by unfold gI at C;lia
 have c:q ∣ s:=by
  have:q ∣ p*s:=⟨r,by rw[h,mw]⟩
  exact sO b this
 have a:s ∣ q:=by
  have:s ∣ r*q:=⟨p,by rw[← h,mw]⟩
  exact sO d this
 have e:q=s:=Int.dvd_antisymm (by lia) (by lia) c a;subst e;exact⟨sT (by lia) h,rfl⟩
theorem wB {a b:Int}(C:a.natAbs<2^m)(o:b.natAbs<2^n):(a*b).natAbs<2^(m+n):=by
 rw[qk,Nat.pow_add];exact Nat.mul_lt_mul'' C o
theorem Vz {a b:Int}(C:a.natAbs<2^m)(o:b.natAbs<2^m):(a+b).natAbs<2^(m+1):=by
 rw[Nat.pow_succ]
 lia
theorem gJ (h:n<2^m)(hk:m<=k):n<2^k:=br h<|As (by decide) hk
theorem adJ (o:u≠0)(C:1<=q)(g:gI p q=1)(h:t*q=p*u):lt t u=p/\lb t u=q:=by
 refine MN (aeh o) C (abr o) g ?_;have e:=Uq (t:=t) o;have a:lt t u*q*u=p*lb t u*u:=by
  calc lt t u*q*u=lt t u*u*q:=by rw[nc,mw q u,← nc]
   _=t*lb t u*q:=by rw[e]
   _=t*q*lb t u:=by rw[nc,mw (lb t u) q,← nc]
   _=p*u*lb t u:=by rw[h]
   _=p*lb t u*u:=by rw[nc,mw u,← nc]
 exact sT o a
abbrev Q2:=Int×Int
end Hd
namespace F
open PySem L2 Hd
@[simp] theorem szl:ai=16777216:=by decide
theorem uZ:∀{a b:List Char},a.map pV=b.map pV->a=b
 |[],[],_=>rfl
 |[],_::_,h=>by simp at h
 |_::_,[],h=>by simp at h
 |x::a,y::b,h=>by
  have c:x.toNat=y.toNat/\a.map pV=b.map pV:=by simpa using h
  rw[Char.toNat_inj.mp c.1,uZ c.2]
@[simp] theorem af5 {a b:String}:(eB a=eB b)↔a=b:=by
 constructor
 ·intro h;rw[yk,yk] at h;have h2:(a.toList.map pV).toArray=(b.toList.map pV).toArray:=congrArg Str.cps h;have h3:a.toList.map pV=b.toList.map pV:=by simpa using congrArg yy h2
  exact String.toList_inj.mp<|uZ h3
 ·intro h;rw[h]
mutual
def okD:D->Bool
 | .non|.bl _|.int _=>true
 | .str x=>h9 x
 | .tup xs=>rA xs
 | .lst xs=>rA xs
 | .exc _ _ _|.dct _ _|.dcu _ _|.dcf _ _|.adr _|.odd _|.ins _ _ _=>false
def rA:List D->Bool
 |[]=>true
 |x::xs=>okD x&&rA xs
end
mutual
def tU:D->Nat
 | .non|.bl _|.int _|.str _=>0
 | .tup xs=>pH xs+1
 | .lst xs=>pH xs+1
 | .exc _ _ _|.dct _ _|.dcu _ _|.dcf _ _|.adr _|.odd _|.ins _ _ _=>0
def pH:List D->Nat
 |[]=>0
 |x::xs=>max (tU x)<|pH xs
end
mutual
theorem Q8:∀d:D,okD d=true->∃p,toPy d=some p/\p.canLay0=true/\p.depth=tU d/\l6 p p=true
 | .non,_=>⟨.none,by simp[toPy],by simp[nI],by simp[qV,tU],by simp[l6]⟩
 | .bl b,_=>⟨.bool b,by simp[toPy],by simp[nI],by simp[qV,tU],by simp[l6]⟩
 | .int b,_=>⟨.int b,by simp[toPy],by simp[nI],by simp[qV,tU],by simp[l6]⟩
 | .str b,h=>⟨.str b,by simp[toPy],by simpa[nI,okD] using h,by simp[qV,tU],by simp[l6]⟩
 | .tup xs,h=>by
  obtain⟨g,c,e,f,a⟩:=Cw xs (by simpa[okD] using h);exact⟨.tuple g,by simp[toPy,c],by simpa[nI] using e,by simp[qV,tU,f],by simpa[l6] using a⟩
 | .lst xs,h=>by
  obtain⟨g,c,e,f,a⟩:=Cw xs (by simpa[okD] using h);exact⟨.list g,by simp[toPy,c],by simpa[nI] using e,by simp[qV,tU,f],by simpa[l6] using a⟩
 | .exc _ _ _,h=>by simp[okD] at h
 | .dct _ _,h=>by simp[okD] at h
 | .dcu _ _,h=>by simp[okD] at h
 | .adr _,h=>by simp[okD] at h
 | .odd _,h=>by simp[okD] at h
 | .ins _ _ _,h=>by simp[okD] at h
 | .dcf _ _,h=>by simp[okD] at h
theorem Cw:∀ds:List D,rA ds=true->∃ps,xY ds=some ps/\wx ps=true/\zC ps=pH ds/\xt ps ps=true
 |[],_=>⟨[],by simp[xY],by simp[wx],by simp[zC,pH],by simp[xt]⟩
 |d::ds,h=>by
  have a:okD d=true/\rA ds=true:=by simpa[rA] using h
  obtain⟨p,g,i,j,b⟩:=Q8 d a.1;obtain⟨ps,k,f,e,c⟩:=Cw ds a.2;exact⟨p::ps,by simp[xY,g,k],by simp[wx,i,f],by simp[zC,pH,j,e],by simp[xt,b,c]⟩
end
theorem tZ {d:D}(h:okD d=true)(hd:tU d<=64):uE d d=some true:=by
 obtain⟨p,b,c,e,a⟩:=Q8 d h;unfold uE;rw[b]
 have:kc p=true:=by unfold kc;rw[c,decide_eq_true<|by omega];rfl
 simp[this,a]
theorem Mg {d:D}(h:okD d=true)(hd:tU d<=64):gEq d d=some true:=by
 cases d with
 |non=>rfl
 |bl b=>simp[gEq]
 |int b=>simp[gEq]
 |str b=>simp[gEq]
 |tup xs=>exact tZ h hd
 |lst xs=>exact tZ h hd
 |exc c _ _=>simp[okD] at h
 |dct _ _=>simp[okD] at h
 |dcu _ _=>simp[okD] at h
 |adr _=>simp[okD] at h
 |odd _=>simp[okD] at h
 |ins _ _ _=>simp[okD] at h
 |dcf _ _=>simp[okD] at h
@[simp] theorem af6 (i j:Int):gEq (.int i) (.int j)=some (decide<|i=j):=rfl
@[simp] theorem af9 (i j:Str):gEq (.str i) (.str j)=some (decide<|i=j):=rfl
@[simp] theorem ag1 (i j:Bool):gEq (.bl i) (.bl j)=some (decide<|i=j):=rfl
@[simp] theorem af7 (i j:Int):gNe (.int i) (.int j)=some (!decide (i=j)):=rfl
@[simp] theorem af8 (i j:Str):gNe (.str i) (.str j)=some (!decide (i=j)):=rfl
@[simp] theorem agM (i j:Bool):gNe (.bl i) (.bl j)=some (!decide (i=j)):=rfl
noncomputable def qD (d:Q2):D:=.tup [.int d.1,.int d.2]
mutual
inductive Gm where
 |fin (d:Q2)
 |deal (n:Str) (ws:Ws)
 |move (s:Int) (n:Str) (ws:Ws)
inductive Ws where
 |nil
 |cons (l:D) (g:Gm) (r:Ws)
end
mutual
def dG:Gm->D
 | .fin d=>.tup [.str "end",qD d]
 | .deal n ws=>.tup [.str "deal",.str n,.tup<|dWs ws]
 | .move s n ws=>.tup [.str "move",.int s,.str n,.tup<|dWs ws]
def dWs:Ws->List D
 | .nil=>[]
 | .cons l g r=>.tup [l,dG g]::dWs r
end
mutual
def dp:Gm->Nat
 | .fin _=>0
 | .deal _ ws=>dpW ws+1
 | .move _ _ ws=>dpW ws+1
def dpW:Ws->Nat
 | .nil=>0
 | .cons _ g r=>max (dp g)<|dpW r
end
noncomputable def lB:Ws->Nat
 | .nil=>0
 | .cons _ _ r=>lB r+1
theorem rn:∀ws:Ws,(dWs ws).length=lB ws
 | .nil=>rfl
 | .cons l g r=>by show(dWs r).length+1=_;rw[rn r];rfl
mutual
def jn:Gm->Prop
 | .fin _=>True
 | .deal _ ws=>lB ws<=100/\z7 ws
 | .move _ _ ws=>lB ws<=100/\z7 ws
def z7:Ws->Prop
 | .nil=>True
 | .cons _ g r=>jn g/\z7 r
end
def Ad (zs:List Str):List Nat:=zs.flatMap λz=>z.cps.toList
theorem Ul:(eB "").cps=#[]:=by decide +kernel
theorem Pn:∀(zs:List Str) (acc:Array Nat),(zs.foldl (λacc p=>acc++(eB "").cps++p.cps) acc).toList=acc.toList++Ad zs
 |[],acc=>by simp[Ad]
 |z::zs,acc=>by
  rw[sD,Pn zs,Ul];simp[Ad]
theorem VP (zs:List Str):(A5 (eB "") zs).cps.toList=Ad zs:=by
 show((zs.drop 1).foldl (λa p=>a++(eB "").cps++p.cps) (zs.headD yT).cps).toList=_;rw[Pn];cases zs with
 |nil=>simp[Ad,yT]
 |cons z zs=>simp[Ad]
theorem Hg:∀(zs:List Str) (n:Nat),zs.foldl (λn z=>n+z.length+(eB "").length) n=n+(Ad zs).length
 |[],n=>by simp[Ad]
 |z::zs,n=>by
  rw[sD,Hg zs]
  have:(eB "").length=0:=by decide +kernel
  rw[this];simp[Ad,Str.length]
  lia
theorem joinOk_of (h:(Ad zs).length<=16777216):B6 (eB "") zs=true:=by
 unfold B6;rw[List.foldl_toArray,Hg];simp[AM]
 lia
theorem TY (o:List Nat):Ad (o.map λc=>(⟨#[c]⟩:Str))=o:=by
 induction o with
 |nil=>rfl
 |cons c o ih=>simp[Ad] at ih ⊢;exact ih
theorem Kq {o:List Nat}(h:∀c∈o,c<128):h9 ⟨o.toArray⟩=true:=by
 unfold h9;simp only[List.all_toArray,xD,decide_eq_true_eq];intro c a
 have:=h c a
 lia
theorem Nq (h:f m=.ok [.int j])(o:-1000000000<=j)(C:j<=1000000000):sW f m=.ok ((cq j.toNat).map λ(i:Nat)=>D.int i):=by
 unfold sW;rw[h];show(if -(2^62)<=j/\j<2^62 then _ else _)=_;rw[if_pos ⟨by lia,by lia⟩]
theorem agi (h:f m=.ok [.int i,.int j])(J:-1000000000<=i)(C:i<=1000000000)(I:-1000000000<=j)(o:j<=1000000000):Qo f m=.ok ((cq (j-i).toNat).map λ(k:Nat)=>D.int<|i+k):=by
 unfold Qo;rw[h];show(if -(2^62)<=i/\i<2^62/\-(2^62)<=j/\j<2^62 then _ else _)=_;rw[if_pos ⟨by lia,by lia,by lia,by lia⟩]
theorem abx (h:x∈cut xs lo hi):x∈xs:=rV<|kM h
open PySem PySem.NumText
def tx (l:List Nat):Str:=⟨l.toArray⟩
theorem Am (l:List Nat):(tx l).cps.toList=l:=rfl
theorem vL (l:List Nat):(tx l).length=l.length:=by rfl
theorem OJ (h:x.cps.toList=l):x=tx l:=by
 cases x with
 |mk a=>subst h;unfold tx;simp
theorem adO (a b:List Nat):tx a++tx b=tx (a++b):=OJ (by show(a.toArray++b.toArray).toList=_;simp)
theorem Xk:tx a=tx b↔a=b:=⟨λh=>by have:=congrArg (λz:Str=>z.cps.toList) h;exact this,λh=>by rw[h]⟩
end F
namespace Pk
open PySem L2 Hd F
noncomputable def jy:Ws->List Gm
 | .nil=>[]
 | .cons _ g r=>g::jy r
def kids:Gm->List Gm
 | .fin _=>[]
 | .deal _ ws=>jy ws
 | .move _ _ ws=>jy ws
mutual
def szG:Gm->Nat
 | .fin _=>1
 | .deal _ ws=>szW ws+1
 | .move _ _ ws=>szW ws+1
def szW:Ws->Nat
 | .nil=>0
 | .cons _ g r=>szG g+szW r
end
theorem uG (g:Gm):1<=szG g:=by cases g<;>simp[szG]
mutual
def plG:List Int->Gm->List (List Int×Gm)
 |w,.fin d=>[(w,.fin d)]
 |w,.deal n ws=>(w,.deal n ws)::plW w 0 ws
 |w,.move s n ws=>(w,.move s n ws)::plW w 0 ws
def plW:List Int->Nat->Ws->List (List Int×Gm)
 |_,_,.nil=>[]
 |w,i,.cons _ g r=>plG (w++[(i:Int)]) g++plW w (i+1) r
end
def pD (p:List Int×Gm):D:=.tup [.tup<|p.1.map .int,dG p.2]
def bh (w:List Int)(g:Gm):List (List Int×Gm):=(kids g).zipIdx.map λp=>(w++[(p.2:Int)],p.1)
theorem Oz (w:List Int):∀(i:Nat) (ws:Ws),plW w i ws=(((jy ws).zipIdx i).map λp=>(w++[(p.2:Int)],p.1)).flatMap λp=>plG p.1 p.2
 |i,.nil=>rfl
 |i,.cons l g r=>by
  show plG (w++[(i:Int)]) g++plW w (i+1) r=_;rw[Oz w (i+1) r];rfl
theorem adD (w:List Int)(g:Gm):plG w g=(w,g)::(bh w g).flatMap λp=>plG p.1 p.2:=by
 cases g with
 |fin d=>rfl
 |deal n ws=>show(w,Gm.deal n ws)::plW w 0 ws=_;rw[Oz];rfl
 |move s n ws=>show(w,Gm.move s n ws)::plW w 0 ws=_;rw[Oz];rfl
theorem yD:∀ws:Ws,szW ws=((jy ws).map szG).sum
 | .nil=>rfl
 | .cons l g r=>by show szG g+szW r=_;rw[yD r];rfl
theorem YZ (g:Gm):szG g=((kids g).map szG).sum+1:=by
 cases g with
 |fin d=>rfl
 |deal n ws=>show szW ws+1=_;rw[yD];rfl
 |move s n ws=>show szW ws+1=_;rw[yD];rfl
theorem iT:∀ws:Ws,(jy ws).length=lB ws
 | .nil=>rfl
 | .cons l g r=>by show(jy r).length+1=_;rw[iT r];rfl
theorem vV:∀{ws:Ws} {g:Gm},z7 ws->g∈jy ws->jn g
 | .cons l k r,g,h,hg=>by
  rcases a9.mp hg with w|w
  ·rw[w];exact h.1
  ·exact vV h.2 w
theorem Ga (h:jn g)(hk:k∈kids g):jn k/\(kids g).length<=100:=by
 cases g with
 |fin d=>cases hk
 |deal n ws=>exact⟨vV h.2 hk,by show(jy ws).length<=100;rw[iT];exact h.1⟩
 |move s n ws=>exact⟨vV h.2 hk,by show(jy ws).length<=100;rw[iT];exact h.1⟩
theorem xj (h:jn g):(kids g).length<=100:=by
 cases g with
 |fin d=>exact d5 _
 |deal n ws=>show(jy ws).length<=100;rw[iT];exact h.1
 |move s n ws=>show(jy ws).length<=100;rw[iT];exact h.1
theorem yq:∀ws:Ws,fK (lC 2<|cz (hName 0)<|cz (hName 1) lD) jV (aG 1) [.un,.un] (dWs ws)=.ok ((jy ws).map dG)
 | .nil=>rfl
 | .cons l g r=>by
  have a:=yq r;have e:aG 1 [.fz l,.fz<|dG g]=.ok (dG g):=rfl;unfold dWs fK;simp[lC,cz,hName,lD,jV,e,a,jy]
theorem Je (q:Q [.fz<|dG g]=.ok (.lst<|(kids g).map dG)\/kids g=[]/\∃d,g=.fin d):aV 1 1 (iR Q) [dG g]=.ok (true,.lst<|(kids g).map dG):=by
 have i:∀a b:D,atI [a,b] 0=some a:=λ_ _=>rfl;have h:∀a b c:D,atI [a,b,c] 0=some a:=λ_ _ _=>rfl;have j:∀a b c d:D,atI [a,b,c,d] 0=some a:=λ_ _ _ _=>rfl;cases g with
 |fin d=>simp[aV,iR,aH,gIf,aK,az,aj,fC,gIx,dG,i,pQ,Me.let,Sl.let,dW,aB,kids]
 |deal n ws=>
  rcases q with q|⟨_,d,e⟩
  ·have f:=q;simp only[dG] at f;simp[aV,iR,aH,gIf,aK,az,aj,fC,gIx,dG,h,pQ,Me.let,Sl.let,f,gNx]
  ·cases e
 |move s n ws=>
  rcases q with q|⟨_,d,e⟩
  ·have f:=q;simp only[dG] at f;simp[aV,iR,aH,gIf,aK,az,aj,fC,gIx,dG,j,pQ,Me.let,Sl.let,f,gNx]
  ·cases e
theorem zy (h:jn g):jx [dG g]=.ok (true,.lst<|(kids g).map dG):=by
 have f:∀a b c:D,atI [a,b,c] (-1)=some c:=λ_ _ _=>rfl;have i:∀a b c d:D,atI [a,b,c,d] (-1)=some d:=λ_ _ _ _=>rfl;refine Je ?_;cases g with
 |fin d=>exact .inr ⟨rfl,d,rfl⟩
 |deal n ws=>
  have e:(dWs ws).length<=16777216:=by rw[rn];have:=h.1;lia
  left;simp[m5,d7,sU,az,aj,fUn,wY,fC,gIx,dG,f,cMe,e,yq,kids]
 |move s n ws=>
  have e:(dWs ws).length<=16777216:=by rw[rn];have:=h.1;lia
  left;simp[m5,d7,sU,az,aj,fUn,wY,fC,gIx,dG,i,cMe,e,yq,kids]
theorem S5 (ks:List Gm):BJ (ks.map dG)=ks.zipIdx.map λp=>D.tup [.int (p.2:Int),dG p.1]:=by
 unfold BJ;rw[List.mapIdx_eq_zipIdx_map,List.zipIdx_map,kg];rfl
theorem iW:∀l:List α,(∀c∈l,∃m1,h (g c) m0=some m1/\ft m1=.ok true/\fe m1=.ok (f c))->fK h ft fe m0 (l.map g)=.ok (l.map f)
 |[],_=>rfl
 |d::ds,H=>by
  obtain⟨m1,a,e,i⟩:=H d av;have b:=iW ds λd hd=>H d<|ah _ hd;rw[ay];unfold fK;simp only[a,e,i,b,ay]
theorem Sx (h:jn g)(o:w.length<=1000):lU [a,s1,s2,.fz<|pD (w,g),s4]=.ok (.lst<|(bh w g).map pD):=by
 have f:=zy h;have l:=xj h;have j:∀a b:D,atI [a,b] 0=some a:=λ_ _=>rfl;have i:∀a b:D,atI [a,b] 1=some b:=λ_ _=>rfl;have e:fK (lC 2<|cz (hName 0)<|cz (hName 1) lD) jV pY [.un,.un,.fz<|pD (w,g)] ((kids g).zipIdx.map λp=>D.tup [.int (p.2:Int),dG p.1])=.ok ((kids g).zipIdx.map λp=>pD (w++[(p.2:Int)],p.1)):=iW _ λp m=>by
  refine⟨[.fz<|.int (p.2:Int),.fz<|dG p.1,.fz<|pD (w,g)],rfl,rfl,?_⟩;have d:(w.map D.int).length+1<=16777216:=by rw[a6];lia
  have c:w.length+1<=16777216:=by lia
  simp[pY,bu,aa,aB,az,aj,aG,fC,gIx,pD,j,bR,c]
 have d:(kids g).length<=16777216:=by lia
 have k:((bh w g).map pD)=(kids g).zipIdx.map λp=>pD (w++[(p.2:Int)],p.1):=by unfold bh;rw[kg];rfl
 rw[k];simp only[pD] at e ⊢;simp[lU,d7,ac4,aa,aB,fFn,az,aj,fC,gIx,i,f,S5,cMe,Sl.bor,d,e]
noncomputable def szS (st:List (List Int×Gm)):Nat:=(st.map λp=>szG p.2).sum
theorem acB (w:List Int)(g:Gm):szS (bh w g)+1=szG g:=by
 rw[YZ];unfold szS bh;rw[kg];congr 2
 have:((λp:List Int×Gm=>szG p.2)∘λp:Gm×Nat=>(w++[(p.2:Int)],p.1))=szG∘xw:=rfl
 rw[this,← kg,oo]
theorem Qt:∀st:List (List Int×Gm),st.length<=szS st
 |[]=>d5 _
 |p::st=>by
  have:=Qt st
  have:=uG p.2
  show st.length+1<=szG p.2+szS st
  lia
theorem RZ (a b:List (List Int×Gm)):szS (a++b)=szS a+szS b:=by unfold szS;rw[cK,List.sum_append]
theorem Al (o:t m=.ok true)(C:b m=.ok (.nx,m'))(I:wh t b n m'=some r):wh t b (n+1) m=some r:=by
 unfold wh;rw[o,C];exact I
theorem Ba (o:t m=.ok false):wh t b 1 m=some (.ok (.nx,m)):=by
 unfold wh;rw[o]
theorem Hz (h:jn g)(o:w.length<=1000)(hz:done.length+st.length<=10000000):
  mG [a,.ow<|.lst<|done.map pD,.ow<|.lst<|(((w,g)::st).map pD).reverse,s3,s4]=.ok (.nx,[a,.ow<|.lst<|(done++[(w,g)]).map pD,.ow<|.lst<|((bh w g++st).map pD).reverse,.fz<|pD (w,g),.fz<|.lst<|(bh w g).map pD]):=by
 have n:=xj h;have f:(bh w g).length=(kids g).length:=by unfold bh;simp
 have q:∀d c s4,lU [a,d,c,.fz<|pD (w,g),s4]=.ok (.lst<|(bh w g).map pD):=λd c s4=>Sx h o;have l:((st.map pD).reverse++[pD (w,g)]).length-1=(st.map pD).reverse.length:=by simp
 have p:((st.map pD).reverse++[pD (w,g)])[((st.map pD).reverse++[pD (w,g)]).length-1]? = some (pD (w,g)):=by rw[l];simp
 have r:((st.map pD).reverse++[pD (w,g)]).dropLast=(st.map pD).reverse:=List.dropLast_concat;have m:done.length<16777216:=by lia
 have e:st.length+(bh w g).length<=16777216:=by rw[f];lia
 rw[ay,kT];generalize b:(st.map pD).reverse=S at *;have i:S.length=st.length:=by rw[← b];simp
 have j:((bh w g++st).map pD).reverse=S++((bh w g).map pD).reverse:=by rw[cK,sF,b]
 rw[j];have k:(S++[pD (w,g)])[S.length]? = some (pD (w,g)):=by simp
 simp[mG,aH,Ju,jY,putL,dh,aG,bC,q,Jj,aP,aa,aB,aj,Xh,m,i,e]
theorem aaL (h:jn g):∀p∈bh w g,jn p.2/\p.1.length=w.length+1:=λp a=>by
 unfold bh at a;obtain⟨q,b,rfl⟩:=dr.mp a
 have:q.1∈kids g:=by have:=oq (f:=xw) b;rwa [oo] at this
 exact⟨(Ga h this).1,by simp⟩
theorem Px (hk:k∈kids g):dp k<dp g:=by
 have b:∀{a:Ws},k∈jy a->dp k<=dpW a:=by
  intro a;induction a using Ws.rec (motive_1:=λ_=>True) with
  |nil=>intro h;cases h
  |cons l g r _ ih=>
   intro h;show dp k<=max (dp g) (dpW r);rcases a9.mp h with w|w
   ·rw[w];exact Nat.le_max_left _ _
   ·exact hV (ih w)<|Nat.le_max_right _ _
  |fin=>trivial
  |deal=>trivial
  |move=>trivial
 cases g with
 |fin d=>cases hk
 |deal n a=>exact Nat.lt_succ_of_le (b hk)
 |move s n a=>exact Nat.lt_succ_of_le (b hk)
theorem aer:∀p∈bh w g,dp p.2<dp g:=λp a=>by
 unfold bh at a;obtain⟨q,b,rfl⟩:=dr.mp a
 have:q.1∈kids g:=by have:=oq (f:=xw) b;rwa [oo] at this
 exact Px this
theorem Az (a:Sl):∀(N:Nat) (done st:List (List Int×Gm)) (s3 s4:Sl),szS st=N->(∀p∈st,jn p.2/\p.1.length+dp p.2<=100)->done.length+szS st<=10000000->
  ∃k C o,wh lX mG k [a,.ow<|.lst<|done.map pD,.ow<|.lst<|(st.map pD).reverse,s3,s4]=some (.ok (.nx,[a,.ow<|.lst<|(done++st.flatMap λp=>plG p.1 p.2).map pD,.ow<|.lst [],C,o])):=by
 intro N;induction N using sL with
 |_ N ih=>
  intro done st s3 s4 q c m;cases st with
  |nil=>
   refine⟨1,s3,s4,?_⟩;simp only[tq,List.reverse_nil,rh,dc];exact Ba<|by simp[lX,aK,aP,cP,aa,aB,aj,fC,gGt]
  |cons p st=>
   obtain⟨w,g⟩:=p;have d:jn g/\w.length+dp g<=100:=c (w,g) (by simp);have s:=acB w g;have b:szS ((w,g)::st)=szG g+szS st:=rfl;have r:=Qt st;have t:=uG g;obtain⟨k,f,l,e⟩:=ih (szS<|bh w g++st) (by rw[RZ];lia) (done++[(w,g)]) (bh w g++st) (.fz<|pD (w,g)) (.fz<|.lst<|(bh w g).map pD) rfl (λp h=>by
    rcases cE.mp h with v|v
    ·have j:=aaL d.1 p v;have n:=aer p v;exact⟨j.1,by lia⟩
    ·exact c p<|by simp[v]) (by rw[RZ,be];simp;lia)
   refine⟨k+1,f,l,?_⟩;have i:done++((w,g)::st).flatMap (λp=>plG p.1 p.2)=done++[(w,g)]++(bh w g++st).flatMap λp=>plG p.1 p.2:=by
    rw[p9,AO,adD]
    simp
   rw[i];refine Al ?_ (Hz d.1 (by lia)<|by lia) e;simp[lX,aK,aP,cP,aa,aB,aj,fC,gGt]
theorem Ni (e:L [.fz d,.ow<|.lst [],.ow<|.lst [.tup [.tup [],d]],.un,.un]=.ok (.nx,[.fz d,.ow<|.lst ps,.ow<|.lst [],s3,s4])):aV 5 1 (pX L) [d]=.ok (true,.lst ps):=by
 simp[aV,pX,aH,eV,dW,aa,aB,bu,aG,e,jg]
theorem places_eq (h:jn g)(hd:dp g<=50)(hz:szG g<=10000000):pI [dG g]=.ok (true,.lst<|(plG [] g).map pD):=by
 obtain⟨k,d,c,e⟩:=Az (.fz<|dG g) _ [] [([],g)] .un .un rfl (λp b=>by rw[cm.mp b];exact⟨h,by simp;lia⟩) (by show 0+(szG g+0)<=_;lia);have a:=uL k e;simp only[oI,p9,rh,dc] at a;exact Ni a
noncomputable def kw (w:List Int):List Kt:=w.map λi=>.k<|.inl i
theorem HH:∀{v w:List Int},kw v=kw w->v=w
 |[],[],_=>rfl
 |[],_::_,h=>by cases h
 |_::_,[],h=>by cases h
 |a::v,b::w,h=>by
  injection h with c d
  injection c with c
  injection c with c
  rw[c,HH d]
theorem acd:∀w:List Int,nQ (ktD 7) (w.map D.int)=some (kw w)
 |[]=>rfl
 |a::w=>by
  show((ktD 7<|.int a).bind λk=>(nQ (ktD 7)<|w.map D.int).map λb=>k::b)=_;rw[acd w];rfl
theorem Vl (w:List Int):xf (.tup<|w.map D.int)=some (kw w):=acd w
theorem Ld:∀{ks:List (List Kt)} {ds:List D},ks.length=ds.length->k∈ks->dH ks (vq ks ds k d) k'=if k=k' then some d else dH ks ds k'
 |[],_,_,h=>by cases h
 |a::ks,[],h,_=>by simp at h
 |a::ks,x::ds,h,hk=>by
  have f:ks.length=ds.length:=by simpa using h
  unfold vq dH;by_cases g:a=k'
  ·rw[if_pos g,if_pos g];by_cases c:a=k
   ·rw[if_pos c,if_pos<|c▸g]
   ·rw[if_neg c,if_neg λe=>c<|by rw[g,e]]
  ·rw[if_neg g,if_neg g];by_cases c:k∈ks
   ·exact Ld f c
   ·have l:a=k:=by
     rcases a9.mp hk with e|e
     ·exact e.symm
     ·exact absurd e c
    have j:k≠k':=λe=>g (by rw[l,e]);rw[if_neg j];have e:∀{ks:List (List Kt)} {ds:List D},k∉ks->ks.length=ds.length->vq ks ds k d=ds:=by
     intro ks;induction ks with
     |nil=>intro ds _ f;cases ds with
      |nil=>rfl
      |cons _ _=>simp at f
     |cons b ks ih=>intro ds i f;cases ds with
      |nil=>simp at f
      |cons y ds=>
       unfold vq;rw[if_neg λ(e:b=k)=>i<|e▸av,ih (λe=>i<|ah _ e)<|by simpa using f]
    rw[e c f]
theorem PB:∀{ks:List (List Kt)} {ds:List D},ks.length=ds.length->k∉ks->dH (ks++[k]) (ds++[d]) k'=if k=k' then some d else dH ks ds k'
 |[],[],_,_=>by simp[dH]
 |[],_::_,h,_=>by simp at h
 |a::ks,[],h,_=>by simp at h
 |a::ks,x::ds,h,hk=>by
  have f:=PB (k:=k) (k':=k') (d:=d) (ks:=ks) (ds:=ds) (by simpa using h) λe=>hk<|ah _ e;have c:a≠k:=λe=>hk<|e▸av;show dH (a::(ks++[k])) (x::(ds++[d])) k'=_;unfold dH;rw[f];by_cases b:a=k'
  ·rw[if_pos b,if_neg λe=>c (by rw[b,e]),if_pos b]
  ·rw[if_neg b,if_neg b]
theorem JF {ks:List (List Kt)}:ks.any (λx=>decide<|x=k)=true↔k∈ks:=by simp_all
theorem Mf:∀{ks:List (List Kt)} {ds:List D},ks.length=ds.length->(vq ks ds k d).length=ks.length
 |[],[],_=>rfl
 |[],_::_,h=>by simp at h
 |a::ks,[],h=>by simp at h
 |a::ks,x::ds,h=>by
  have:=Mf (k:=k) (d:=d) (ks:=ks) (ds:=ds)<|by simpa using h
  simp[vq,this]
theorem xV {ks:List (List Kt)}{ds:List D}(o:ks.length=ds.length):dH (jH ks ds k d).1 (jH ks ds k d).2 k'=if k=k' then some d else dH ks ds k':=by
 unfold jH;by_cases h:ks.any (λx=>decide<|x=k)=true
 ·rw[if_pos h];exact Ld o<|JF.mp h
 ·rw[if_neg h];exact PB o λz=>h<|JF.mpr z
theorem Jm (o:ks.length=ds.length):(jH ks ds k d).1.length=(jH ks ds k d).2.length/\(jH ks ds k d).1.length<=ks.length+1:=by
 unfold jH;by_cases h:ks.any (λx=>decide<|x=k)=true
 ·rw[if_pos h];exact⟨(Mf o).symm,by simp⟩
 ·rw[if_neg h];exact⟨by simp[o],by simp⟩
theorem dI (o:h d m=some m1)(C:g m1=.ok (.nx,m2)):bI h g (d::ds) m=bI h g ds m2:=by
 rw[bI,o];simp only[C]
abbrev Rc:=List D×List D
noncomputable def rD2 (r:Rc):D:=.tup [.tup r.1,.tup r.2]
noncomputable def rbm (s:Int)(n:Str)(r:Rc)(l:D):Rc:=if s=1 then(r.1++[.tup [.str n,l]],r.2) else(r.1,r.2++[.tup [.str n,l]])
noncomputable def gF:Ws->List D
 | .nil=>[]
 | .cons l _ r=>l::gF r
def rbg:Gm->Rc->D->Rc
 | .move s n _,r,l=>rbm s n r l
 |_,r,_=>r
noncomputable def yt:Gm->Ws
 | .fin _=>.nil
 | .deal _ ws=>ws
 | .move _ _ ws=>ws
mutual
def prG:List Int->Rc->Gm->List (List Int×Gm×Rc)
 |w,r,.fin d=>[(w,.fin d,r)]
 |w,r,.deal n ws=>(w,.deal n ws,r)::prW w (λ_=>r) 0 ws
 |w,r,.move s n ws=>(w,.move s n ws,r)::prW w (rbm s n r) 0 ws
def prW:List Int->(D->Rc)->Nat->Ws->List (List Int×Gm×Rc)
 |_,_,_,.nil=>[]
 |w,f,i,.cons l g r=>prG (w++[(i:Int)]) (f l) g++prW w f (i+1) r
end
mutual
theorem Vj:∀(w:List Int) (r:Rc) (g:Gm),(prG w r g).map (λp=>(p.1,p.2.1))=plG w g
 |w,r,.fin d=>rfl
 |w,r,.deal n ws=>by
  show(w,Gm.deal n ws)::(prW w (λ_=>r) 0 ws).map _=(w,Gm.deal n ws)::plW w 0 ws;rw[M8 w _ 0 ws]
 |w,r,.move s n ws=>by
  show(w,Gm.move s n ws)::(prW w (rbm s n r) 0 ws).map _=(w,Gm.move s n ws)::plW w 0 ws;rw[M8 w _ 0 ws]
theorem M8:∀(w:List Int) (f:D->Rc) (i:Nat) (ws:Ws),(prW w f i ws).map (λp=>(p.1,p.2.1))=plW w i ws
 |w,f,i,.nil=>rfl
 |w,f,i,.cons l g r=>by
  show(prG (w++[(i:Int)]) (f l) g++prW w f (i+1) r).map _=plG (w++[(i:Int)]) g++plW w (i+1) r;rw[cK,Vj _ _ g,M8 w f (i+1) r]
end
def trD (p:List Int×Gm×Rc):D:=.tup [.tup<|p.1.map D.int,dG p.2.1,rD2 p.2.2]
theorem RP:∀(ws:Ws) (k:Nat) (l:D),(gF ws)[k]? = some l->∃g,(dWs ws)[k]? = some (.tup [l,g])
 | .nil,k,l,h=>by simp[gF] at h
 | .cons a g r,0,l,h=>by
  have:a=l:=by simpa[gF] using h
  exact⟨dG g,by simp[dWs,this]⟩
 | .cons a g r,k+1,l,h=>by
  obtain⟨x,e⟩:=RP r k l (by simpa[gF] using h);exact⟨x,by simpa[dWs] using e⟩
theorem uy:∀ws:Ws,(gF ws).length=lB ws
 | .nil=>rfl
 | .cons _ _ r=>by simp[gF,lB,uy r]
theorem afO {g:Gm}{r:Rc}{k:Nat}{l:D}(o:(gF<|yt g)[k]? = some l)(J:jn g)(I:r.1.length<=1000/\r.2.length<=1000)(C:∀s n ws,g=.move s n ws->s=1\/s=2):
  fO [dG g,rD2 r,.int (k:Int)]=.ok (false,rD2<|rbg g r l):=by
 have p:∀a b c:D,atI [a,b,c] 0=some a:=λ_ _ _=>rfl;have j:∀a b c d:D,atI [a,b,c,d] 0=some a:=λ_ _ _ _=>rfl;have h:∀a b c d:D,atI [a,b,c,d] 1=some b:=λ_ _ _ _=>rfl;have m:∀a b c d:D,atI [a,b,c,d] 2=some c:=λ_ _ _ _=>rfl;have e:∀a b c d:D,atI [a,b,c,d] 3=some d:=λ_ _ _ _=>rfl;have f:∀a b:D,atI [a,b] 0=some a:=λ_ _=>rfl;have i:∀a b:D,atI [a,b] 1=some b:=λ_ _=>rfl;cases g with
 |fin d=>simp[yt,gF] at o
 |deal n ws=>simp[fO,gR,gY,aV,aH,gIf,aK,az,aj,fC,gIx,dG,p,aY,aG,Me.let,Sl.let,rbg]
 |move s n ws=>
  obtain⟨y,u⟩:=RP ws k l o;have q:=pO u;have v:r.1.length+1<=16777216:=by lia
  have t:r.2.length+1<=16777216:=by lia
  rcases C s n ws rfl with rfl|rfl
  ·simp[fO,gR,gY,aV,aH,gIf,aK,az,aj,fC,gIx,dG,j,h,m,e,aY,aG,Me.let,Sl.let,rbg,gNx,bC,bu,aa,aB,q,f,i,rD2,bR,v,rbm]
  ·simp[fO,gR,gY,aV,aH,gIf,aK,az,aj,fC,gIx,dG,j,h,m,e,aY,aG,Me.let,Sl.let,rbg,gNx,bC,bu,aa,aB,q,f,i,rD2,bR,t,rbm]
theorem afK (w:List Int)(j:Int):kw (w++[j])≠kw w:=λh=>by
 have:=HH h
 have:=congrArg xk this
 simp at this
theorem adl (h:i≠j):kw (w++[i])≠kw (w++[j]):=λe=>h<|by simpa using HH e
theorem WQ {g0 s2 s5:Sl}{ks:List (List Kt)}{ds:List D}{w:List Int}{g:Gm}{r:Rc}{k:Nat}{l:D}(o:dH ks ds (kw w)=some (rD2 r))(hk:(gF<|yt g)[k]? = some l)(J:jn g)(C:r.1.length<=1000/\r.2.length<=1000)
  (I:∀s n ws,g=.move s n ws->s=1\/s=2) (hz:ks.length<=10000000) (U:w.length<=1000):
  dJ [g0,.ow<|.dcu ks ds,s2,.fz<|.tup<|w.map D.int,.fz<|dG g,.fz<|.int (k:Int)]=.ok (.nx,[g0,.ow<|.dcu (jH ks ds (kw<|w++[(k:Int)])<|rD2<|rbg g r l).1 (jH ks ds (kw<|w++[(k:Int)])<|rD2<|rbg g r l).2,s2,.fz<|.tup<|w.map D.int,.fz<|dG g,.fz<|.int (k:Int)]):=by
 have e:=afO hk J C I;have d:ks.length<16777216:=by lia
 have b:w.length+1<=16777216:=by lia
 have c:xf (.tup<|w.map D.int++[.int (k:Int)])=some (kw<|w++[(k:Int)]):=by
  rw[← Vl];simp
 have a:=Vl w;simp[dJ,GR,fFn,aa,aB,aG,az,aj,zL,dcK,a,o,e,Jh,bu,bR,b,c,d,uq]
theorem JR {g0 s2:Sl}{w:List Int}{g:Gm}{r:Rc}(U:jn g)(I:r.1.length<=1000/\r.2.length<=1000)(hs:∀s n ws,g=.move s n ws->s=1\/s=2)(J:w.length<=1000):
  ∀(c i:Nat) (ks:List (List Kt)) (ds:List D) (s5:Sl),i+c=(gF<|yt g).length->ks.length=ds.length->dH ks ds (kw w)=some (rD2 r)->ks.length+c<=1000000->
   ∃o C s5',bI (hName 5) dJ ((lI i c).map λ(k:Nat)=>D.int k) [g0,.ow<|.dcu ks ds,s2,.fz<|.tup<|w.map D.int,.fz<|dG g,s5]=.ok (.nx,[g0,.ow<|.dcu o C,s2,.fz<|.tup<|w.map D.int,.fz<|dG g,s5'])/\o.length=C.length/\o.length<=ks.length+c/\
    (∀j l,i<=j->(gF<|yt g)[j]? = some l->dH o C (kw<|w++[(j:Int)])=some (rD2<|rbg g r l))/\(∀k',(∀j:Nat,i<=j->k'≠kw (w++[(j:Int)]))->dH o C k'=dH ks ds k')
 |0,i,ks,ds,s5,hc,hl,hv,hz=>⟨ks,ds,s5,rfl,hl,by lia,λj l v a=>by
   have:=(cb.mp a).1
   lia,λ_ _=>rfl⟩
 |c+1,i,ks,ds,s5,hc,hl,hv,hz=>by
  have y:i<(gF<|yt g).length:=by lia
  obtain⟨l,f⟩:∃l,(gF<|yt g)[i]? = some l:=⟨_,aw y⟩;have A:=WQ (g0:=g0) (s2:=s2) (s5:=s5) hv f U I hs (by lia) J;have b:dH (jH ks ds (kw<|w++[(i:Int)])<|rD2<|rbg g r l).1 (jH ks ds (kw<|w++[(i:Int)])<|rD2<|rbg g r l).2 (kw w)=some (rD2 r):=by rw[xV hl,if_neg<|afK w i];exact hv
  obtain⟨p,E⟩:=Jm (k:=kw<|w++[(i:Int)]) (d:=rD2<|rbg g r l) hl;refine Vt (JR (g0:=g0) (s2:=s2) (w:=w) (g:=g) (r:=r) U I hs J c (i+1) _ _ (.fz<|.int (i:Int)) (by lia) p b<|by lia) λo C s5' e t B u m=>?_;refine⟨o,C,s5',?_,t,by lia,λj x v a=>?_,λk' h=>?_⟩
  ·rw[js,ay];rw[dI (m1:=[g0,.ow<|.dcu ks ds,s2,.fz<|.tup<|w.map D.int,.fz<|dG g,.fz<|.int (i:Int)]) rfl A];exact e
  ·by_cases q:i=j
   ·subst q;rw[m _ λj z=>adl (by lia),xV hl,if_pos rfl];rw[f] at a;cases a;rfl
   ·exact u j x (by lia) a
  ·rw[m k' λj z=>h j (by lia),xV hl,if_neg λq=>h i (aS _) q.symm]
mutual
def sdG:Gm->Prop
 | .fin _=>True
 | .deal _ ws=>sdW ws
 | .move s _ ws=>(s=1\/s=2)/\sdW ws
def sdW:Ws->Prop
 | .nil=>True
 | .cons _ g r=>sdG g/\sdW r
end
abbrev hPl:Zba:=lC 2<|cz (hName 3)<|cz (hName 4) lD
theorem Aw (g:Gm):kids g=jy (yt g):=by cases g<;>rfl
theorem Dp (U:ks.length=ds.length)(J:dH ks ds (kw w)=some (rD2 r))(I:jn g)(hr:r.1.length<=1000/\r.2.length<=1000)
  (hs:∀s n ws,g=.move s n ws->s=1\/s=2) (hz:ks.length<=100000) (hf:found.length<=100000) (hw:w.length<=1000):
  ∃o C s5',(hPl (pD (w,g)) [g0,.ow<|.dcu ks ds,.ow<|.lst found,s3,s4,s5]=some [g0,.ow<|.dcu ks ds,.ow<|.lst found,.fz<|.tup<|w.map D.int,.fz<|dG g,s5])/\
   bF [g0,.ow<|.dcu ks ds,.ow<|.lst found,.fz<|.tup<|w.map D.int,.fz<|dG g,s5]=.ok (.nx,[g0,.ow<|.dcu o C,.ow<|.lst<|found++[trD (w,g,r)],.fz<|.tup<|w.map D.int,.fz<|dG g,s5'])/\o.length=C.length/\o.length<=ks.length+lB (yt g)/\
    (∀(j:Nat) (l:D),(gF<|yt g)[j]? = some l->dH o C (kw<|w++[(j:Int)])=some (rD2<|rbg g r l))/\(∀k',(∀j:Nat,k'≠kw (w++[(j:Int)]))->dH o C k'=dH ks ds k'):=by
 have d:=zy I;have v:=xj I;have i:(kids g).length=(gF<|yt g).length:=by rw[Aw,iT,uy]
 refine Vt (JR (g0:=g0) (s2:=.ow<|.lst<|found++[trD (w,g,r)]) (w:=w) (g:=g) (r:=r) I hr hs hw (kids g).length 0 ks ds s5 (by lia) U J<|by lia) λo C s5' e f u p c=>?_;refine⟨o,C,s5',rfl,?_,f,by rw[← uy,← i];exact u,λj l h=>p j l (d5 _) h,λk' h=>c k' λj _=>h j⟩;have t:found.length<16777216:=by lia
 have x:((kids g).length:Int)<4611686018427387904:=by lia
 have a:=Vl w;have b:ie [g0,.ow<|.dcu ks ds,.ow<|.lst<|found++[trD (w,g,r)],.fz<|.tup<|w.map D.int,.fz<|dG g,s5]=.ok (.nx,[g0,.ow<|.dcu o C,.ow<|.lst<|found++[trD (w,g,r)],.fz<|.tup<|w.map D.int,.fz<|dG g,s5']):=by
  have q:(aa (aP cP<|aa (fFn jx<|aa (aG 4) aB) aB) aB) [g0,.ow<|.dcu ks ds,.ow<|.lst<|found++[trD (w,g,r)],.fz<|.tup<|w.map D.int,.fz<|dG g,s5]=.ok [.int ((kids g).length:Int)]:=by
   simp[aP,cP,fFn,aa,aB,aG,d]
  have m:=Nq q (by lia) (by lia);unfold ie ir;rw[m];show bI (hName 5) dJ ((cq (kids g).length).map λ(k:Nat)=>D.int k) _=_;rw[gT];exact e
 simp only[trD] at b ⊢;simp[bF,aH,dh,bu,aa,aB,aG,az,aj,zL,dcK,a,J,jY,putL,t,b]
theorem HS (ws:Ws):(jy ws).length<=((jy ws).map szG).sum:=by
 induction jy ws with
 |nil=>exact d5 _
 |cons g l ih=>have:=uG g;simp;lia
mutual
theorem HY:∀(w:List Int) (g:Gm),(plG w g).length=szG g
 |w,.fin d=>rfl
 |w,.deal n ws=>by show(plW w 0 ws).length+1=szW ws+1;rw[Jr w 0 ws]
 |w,.move s n ws=>by show(plW w 0 ws).length+1=szW ws+1;rw[Jr w 0 ws]
theorem Jr:∀(w:List Int) (i:Nat) (ws:Ws),(plW w i ws).length=szW ws
 |w,i,.nil=>rfl
 |w,i,.cons l g r=>by show(plG (w++[(i:Int)]) g++plW w (i+1) r).length=szG g+szW r;rw[be,HY _ g,Jr w (i+1) r]
end
mutual
theorem Wt (g0:Sl):∀(g:Gm) (w:List Int) (r:Rc) (ks:List (List Kt)) (ds found:List D) (s3 s4 s5:Sl) (o:List D),ks.length=ds.length->dH ks ds (kw w)=some (rD2 r)->jn g->sdG g->r.1.length+dp g<=1000->r.2.length+dp g<=1000->w.length+dp g<=1000->
  ks.length+szG g<=100001->found.length+szG g<=100000->
  ∃C I U J s5',bI hPl bF ((plG w g).map pD++o) [g0,.ow<|.dcu ks ds,.ow<|.lst found,s3,s4,s5]=bI hPl bF o [g0,.ow<|.dcu C I,.ow<|.lst<|found++(prG w r g).map trD,U,J,s5']/\C.length=I.length/\C.length+1<=ks.length+szG g/\
   (∀k',(∀u:List Int,u≠[]->k'≠kw (w++u))->dH C I k'=dH ks ds k')
 | .fin d,w,r,ks,ds,found,s3,s4,s5,o,hl,hv,hg,hs,r1,r2,hw,hz,hf=>by
  have k:szG (.fin d)=1:=rfl;refine DG (Dp (g0:=g0) (s3:=s3) (s4:=s4) (s5:=s5) (found:=found) (g:=.fin d) hl hv hg ⟨by lia,by lia⟩ (λ_ _ _ z=>by cases z) (by lia) (by lia) (by lia)) λC I s5' i f c a m b=>?_;refine⟨C,I,.fz<|.tup<|w.map D.int,.fz<|dG<|.fin d,s5',?_,c,by simpa[yt,lB,szG] using a,λk' h=>b k' λj=>h [(j:Int)]<|by simp⟩;show bI hPl bF (pD (w,.fin d)::o) _=_;rw[dI i f];rfl
 | .deal n ws,w,r,ks,ds,found,s3,s4,s5,o,hl,hv,hg,hs,r1,r2,hw,hz,hf=>by
  have k:szG (.deal n ws)=szW ws+1:=rfl;have t:dp (.deal n ws)=dpW ws+1:=rfl;have A:lB ws<=szW ws:=by rw[← iT,yD];exact HS ws
  refine DG (Dp (g0:=g0) (s3:=s3) (s4:=s4) (s5:=s5) (found:=found) (g:=.deal n ws) hl hv hg ⟨by lia,by lia⟩ (λ_ _ _ z=>by cases z) (by lia) (by lia) (by lia)) λC I s5' i f c a m b=>?_;have a:C.length<=ks.length+lB ws:=a;obtain⟨y,B,p,E,q,e,x,G,v⟩:=N6 g0 ws w (λ_=>r) 0 C I (found++[trD (w,.deal n ws,r)]) (.fz<|.tup<|w.map D.int) (.fz<|dG<|.deal n ws) s5' o c (λj l h=>by rw[BB];exact m j l h) hg.2 hs (λl=>by lia) (λl=>by lia) (by lia) (by lia) (by rw[be,dP];lia);refine⟨y,B,p,E,q,?_,x,by lia,λk' h=>?_⟩
  ·show bI hPl bF (pD (w,.deal n ws)::((plW w 0 ws).map pD++o)) _=_;rw[dI i f,e];show bI _ _ _ [_,_,.ow<|.lst<|found++[trD (w,.deal n ws,r)]++(prW w (λ_=>r) 0 ws).map trD,_,_,_]=bI _ _ _ [_,_,.ow<|.lst<|found++(trD (w,.deal n ws,r)::(prW w (λ_=>r) 0 ws).map trD),_,_,_];rw[fy];rfl
  ·rw[v k' λj u H=>h _ (by simp),b k' λj=>h [(j:Int)]<|by simp]
 | .move s n ws,w,r,ks,ds,found,s3,s4,s5,o,hl,hv,hg,hs,r1,r2,hw,hz,hf=>by
  have k:szG (.move s n ws)=szW ws+1:=rfl;have t:dp (.move s n ws)=dpW ws+1:=rfl;have A:lB ws<=szW ws:=by rw[← iT,yD];exact HS ws
  obtain⟨C,I,s5',i,f,c,a,m,b⟩:=Dp (g0:=g0) (s3:=s3) (s4:=s4) (s5:=s5) (found:=found) (g:=.move s n ws) hl hv hg ⟨by lia,by lia⟩ (λ_ _ _ z=>by cases z;exact hs.1) (by lia) (by lia) (by lia);have a:C.length<=ks.length+lB ws:=a;have F:∀l,(rbm s n r l).1.length<=r.1.length+1/\(rbm s n r l).2.length<=r.2.length+1:=λl=>by
   unfold rbm;split<;>simp
  obtain⟨y,B,p,E,q,e,x,G,v⟩:=N6 g0 ws w (rbm s n r) 0 C I (found++[trD (w,.move s n ws,r)]) (.fz<|.tup<|w.map D.int) (.fz<|dG<|.move s n ws) s5' o c (λj l h=>by rw[BB];exact m j l h) hg.2 hs.2 (λl=>by have:=(F l).1;lia) (λl=>by have:=(F l).2;lia) (by lia) (by lia) (by rw[be,dP];lia);refine⟨y,B,p,E,q,?_,x,by lia,λk' h=>?_⟩
  ·show bI hPl bF (pD (w,.move s n ws)::((plW w 0 ws).map pD++o)) _=_;rw[dI i f,e];show bI _ _ _ [_,_,.ow<|.lst<|found++[trD (w,.move s n ws,r)]++(prW w (rbm s n r) 0 ws).map trD,_,_,_]=bI _ _ _ [_,_,.ow<|.lst<|found++(trD (w,.move s n ws,r)::(prW w (rbm s n r) 0 ws).map trD),_,_,_];rw[fy];rfl
  ·rw[v k' λj u H=>h _ (by simp),b k' λj=>h [(j:Int)]<|by simp]
theorem N6 (g0:Sl):∀(ws:Ws) (w:List Int) (f:D->Rc) (i:Nat) (ks:List (List Kt)) (ds found:List D) (s3 s4 s5:Sl) (o:List D),ks.length=ds.length->(∀(j:Nat) (l:D),(gF ws)[j]? = some l->dH ks ds (kw<|w++[((i+j:Nat):Int)])=some (rD2<|f l))->z7 ws->sdW ws->
  (∀l,(f l).1.length+dpW ws<=1000)->(∀l,(f l).2.length+dpW ws<=1000)->w.length+1+dpW ws<=1000->ks.length+szW ws<=100000+lB ws->found.length+szW ws<=100000->
  ∃C I U J s5',bI hPl bF ((plW w i ws).map pD++o) [g0,.ow<|.dcu ks ds,.ow<|.lst found,s3,s4,s5]=bI hPl bF o [g0,.ow<|.dcu C I,.ow<|.lst<|found++(prW w f i ws).map trD,U,J,s5']/\C.length=I.length/\C.length+lB ws<=ks.length+szW ws/\
   (∀k',(∀(j:Nat) (u:List Int),u≠[]->k'≠kw (w++((i+j:Nat):Int)::u))->dH C I k'=dH ks ds k')
 | .nil,w,f,i,ks,ds,found,s3,s4,s5,o,hl,hv,hg,hs,r1,r2,hw,hz,hf=>⟨ks,ds,s3,s4,s5,by simp[plW,prW],hl,by simp[lB,szW],λ_ _=>rfl⟩
 | .cons l g r,w,f,i,ks,ds,found,s3,s4,s5,o,hl,hv,hg,hs,r1,r2,hw,hz,hf=>by
  have B:szW (.cons l g r)=szG g+szW r:=rfl;have k:dpW (.cons l g r)=max (dp g) (dpW r):=rfl;have F:lB (.cons l g r)=lB r+1:=rfl;have q:lB r<=szW r:=by rw[← iT,yD];exact HS r
  have K:=uG g;have L:=r1 l;have N:=r2 l;obtain⟨C,I,c,H,d,e,m,O,b⟩:=Wt g0 g (w++[(i:Int)]) (f l) ks ds found s3 s4 s5 ((plW w (i+1) r).map pD++o) hl (hv 0 l rfl) hg.1 hs.1 (by lia) (by lia) (by rw[be,dP];lia) (by lia) (by lia);have A:(prG (w++[(i:Int)]) (f l) g).length=szG g:=by rw[← a6,Vj];exact HY _ g
  obtain⟨x,G,n,t,y,s,v,M,p⟩:=N6 g0 r w f (i+1) C I (found++(prG (w++[(i:Int)]) (f l) g).map trD) c H d o m (λj E h=>by
   rw[b _ λu a z=>?_,← hv (j+1) E (by simpa[gF] using h),show i+(j+1)=i+1+j by lia]
   have:=HH z
   simp at this
   lia) hg.2 hs.2 (λl=>by have:=r1 l;lia) (λl=>by have:=r2 l;lia) (by lia) (by lia) (by rw[be,a6,A];lia)
  refine⟨x,G,n,t,y,?_,v,by lia,λk' h=>?_⟩
  ·show bI _ _ ((plG (w++[(i:Int)]) g++plW w (i+1) r).map pD++o) _=_;rw[cK,fy,e,s];show _=bI _ _ _ [_,_,.ow<|.lst<|found++(prG (w++[(i:Int)]) (f l) g++prW w f (i+1) r).map trD,_,_,_];rw[cK,fy]
  ·rw[p k' λj u a=>by have:=h (j+1) u a;rw[show i+(j+1)=i+1+j by lia] at this;exact this];refine b k' λu a=>?_
   have:=h 0 u a
   simpa using this
end
theorem aav (e:L [.fz d,.ow<|.dcu [[]] [rD2 ([],[])],.ow<|.lst [],.un,.un,.un]=.ok (.nx,[.fz d,a,.ow<|.lst ps,s3,s4,s5])):aV 6 1 (fY L) [d]=.ok (true,.lst ps):=by
 have b:xf (.tup [])=some []:=rfl;simp only[rD2] at e;simp[aV,fY,aH,eV,Oi,bu,aB,aa,b,dW,e,jg]
theorem acP (h:jn g)(o:sdG g)(hd:dp g<=50)(hz:szG g<=10000):fW [dG g]=.ok (true,.lst<|(prG [] ([],[]) g).map trD):=by
 have e:=places_eq h hd (by lia);obtain⟨i,d,c,b,f,j,_⟩:=Wt (.fz<|dG g) g [] ([],[]) [[]] [rD2 ([],[])] [] .un .un .un [] rfl (by simp[dH,kw]) h o (by simp;lia) (by simp;lia) (by simp;lia) (by simp;lia) (by simp;lia);refine aav (a:=.ow<|.dcu i d) (s3:=c) (s4:=b) (s5:=f) ?_;have k:jf (fFn pI<|aa (aG 0) aB) [.fz<|dG g,.ow<|.dcu [[]] [rD2 ([],[])],.ow<|.lst [],.un,.un,.un]=.ok ((plG [] g).map pD):=by
  simp[jf,fFn,aa,aB,aG,e]
 unfold jT ir;rw[k];rw[dc] at j;exact j
noncomputable def CG (r:Rc)(s:Int):List D:=if s=1 then r.1 else r.2
def jb (s:Int)(n:Str)(ws:Ws)(r:Rc):D:=.tup [.int s,.str n,.tup<|gF ws,.tup<|CG r s]
theorem yr:∀ws:Ws,fK (lC 2<|cz (hName 0)<|cz (hName 1) lD) jV (aG 0) [.un,.un] (dWs ws)=.ok (gF ws)
 | .nil=>rfl
 | .cons l g r=>by
  have a:=yr r;have e:aG 0 [.fz l,.fz<|dG g]=.ok l:=rfl;unfold dWs fK;simp[lC,cz,hName,lD,jV,e,a,gF]
theorem WD (h:lB ws<=100):rT [dG<|.move s n ws]=.ok (false,.tup<|gF ws):=by
 have i:∀a b c d:D,atI [a,b,c,d] 3=some d:=λ_ _ _ _=>rfl;have g:(gF ws).length<=16777216:=by rw[uy];lia
 have f:(dWs ws).length<=16777216:=by rw[rn];lia
 have e:rW [.fz<|dG<|.move s n ws]=.ok (.lst<|gF ws):=by
  simp[rW,d7,sU,az,aj,fC,gIx,dG,i,cMe,yr,g,f]
 simp[rT,vQ,wu,aV,aY,aP,aa,aB,Me.let,Sl.let,e,eU,g]
theorem adB (h:lB ws<=100)(o:s=1\/s=2):uc [dG<|.move s n ws,rD2 r]=.ok (false,jb s n ws r):=by
 have e:=WD (s:=s) (n:=n) h;have g:∀a b c d:D,atI [a,b,c,d] 1=some b:=λ_ _ _ _=>rfl;have i:∀a b c d:D,atI [a,b,c,d] 2=some c:=λ_ _ _ _=>rfl;have f:∀a b:D,atI [a,b] 0=some a:=λ_ _=>rfl;have j:∀a b:D,atI [a,b] 1=some b:=λ_ _=>rfl;simp only[dG] at e;rcases o with rfl|rfl
 ·simp[uc,xO,wM,aV,aY,Me.let,Sl.let,bu,aa,aB,az,aj,fC,gIx,dG,g,i,fFn,aG,e,rD2,F.dZ,f,j,jb,CG]
 ·simp[uc,xO,wM,aV,aY,Me.let,Sl.let,bu,aa,aB,az,aj,fC,gIx,dG,g,i,fFn,aG,e,rD2,F.dZ,f,j,jb,CG]
abbrev Tb:=List (List Kt)×List D
noncomputable def kn (s:Int)(n:Str):List Kt:=[.k<|.inl s,.k<|.inr n]
def tst (T:Tb)(p:List Int×Gm×Rc):Tb:=match p.2.1 with
 | .move s n ws=>if(dH T.1 T.2<|kn s n).isSome then T else(T.1++[kn s n],T.2++[jb s n ws p.2.2])
 |_=>T
def tbl (l:List (List Int×Gm×Rc)):Tb:=l.foldl tst ([],[])
theorem Ro (T:Tb)(p:List Int×Gm×Rc):(tst T p).1.length<=T.1.length+1:=by grind[tst]
def okP (p:List Int×Gm×Rc):Prop:=match p.2.1 with
 | .move s _ ws=>(s=1\/s=2)/\lB ws<=100
 |_=>True
theorem YJ (o:okP p)(hz:T.1.length<=100000):∃m1,lC 3 (cz (hName 2)<|cz (hName 3)<|cz (hName 4) lD) (trD p) [g0,.ow<|.dcu T.1 T.2,s2,s3,s4]=some m1/\
  iB m1=.ok (.nx,[g0,.ow<|.dcu (tst T p).1 (tst T p).2,.fz<|.tup<|p.1.map D.int,.fz<|dG p.2.1,.fz<|rD2 p.2.2]):=by
 refine⟨[g0,.ow<|.dcu T.1 T.2,.fz<|.tup<|p.1.map D.int,.fz<|dG p.2.1,.fz<|rD2 p.2.2],rfl,?_⟩;obtain⟨w,g,r⟩:=p;have k:∀a b:D,atI [a,b] 0=some a:=λ_ _=>rfl;have j:∀a b c:D,atI [a,b,c] 0=some a:=λ_ _ _=>rfl;have f:∀a b c d:D,atI [a,b,c,d] 0=some a:=λ_ _ _ _=>rfl;have h:∀a b c d:D,atI [a,b,c,d] 1=some b:=λ_ _ _ _=>rfl;have i:∀a b c d:D,atI [a,b,c,d] 2=some c:=λ_ _ _ _=>rfl;cases g with
 |fin d=>simp[iB,gIf,aK,az,aj,fC,gIx,dG,k,gNx,tst]
 |deal n ws=>simp[iB,gIf,aK,az,aj,fC,gIx,dG,j,gNx,tst]
 |move s n ws=>
  have e:=adB (n:=n) (r:=r) o.2 o.1;simp only[dG] at e;have l:xf (.tup [.int s,.str n])=some (kn s n):=rfl;have m:T.1.length<16777216:=by lia
  by_cases q:(dH T.1 T.2<|kn s n).isSome=true
  ·simp[iB,gIf,aK,az,aj,fC,gIx,dG,f,h,i,Zv,Jh,bu,aa,aB,fFn,aG,e,l,m,tst,q,uq]
  ·simp[iB,gIf,aK,az,aj,fC,gIx,dG,f,h,i,Zv,Jh,bu,aa,aB,fFn,aG,e,l,m,tst,q,uq]
theorem Mm:∀(l:List (List Int×Gm×Rc)) (T:Tb) (s2 s3 s4:Sl),(∀p∈l,okP p)->T.1.length+l.length<=100000->∃C I o,bI (lC 3<|cz (hName 2)<|cz (hName 3)<|cz (hName 4) lD) iB (l.map trD) [g0,.ow<|.dcu T.1 T.2,s2,s3,s4]=.ok (.nx,[g0,.ow<|.dcu (l.foldl tst T).1 (l.foldl tst T).2,C,I,o])
 |[],T,s2,s3,s4,_,_=>⟨s2,s3,s4,rfl⟩
 |p::l,T,s2,s3,s4,hp,hz=>by
  have g:T.1.length+(l.length+1)<=100000:=hz;obtain⟨i,h,f⟩:=YJ (g0:=g0) (s2:=s2) (s3:=s3) (s4:=s4) (T:=T) (hp p av)<|by lia
  have:=Ro T p
  obtain⟨a,b,c,e⟩:=Mm l (tst T p) (.fz<|.tup<|p.1.map D.int) (.fz<|dG p.2.1) (.fz<|rD2 p.2.2) (λq d=>hp q<|ah _ d) (by lia);exact⟨a,b,c,by rw[ay,dI h f,e];rfl⟩
theorem tab_run (e:L [.fz d,.ow<|.dcu [] [],.un,.un,.un]=.ok (.nx,[.fz d,.ow<|.dcu ks ds,s2,s3,s4])):aV 5 1 (qX L) [d]=.ok (true,.lst ds):=by
 simp[aV,qX,aH,eV,GP,e,pQ,Me.let,Sl.let,M4,aj]
mutual
theorem Kl:∀(w:List Int) (r:Rc) (g:Gm),jn g->sdG g->∀p∈prG w r g,okP p
 |w,r,.fin d,_,_,p,hp=>by
  have:p=(w,.fin d,r):=by simpa[prG] using hp
  rw[this];exact gu
 |w,r,.deal n ws,h,hs,p,hp=>by
  rcases a9.mp (hp) with e|e
  ·rw[e];exact gu
  ·exact Np w _ 0 ws h.2 hs p e
 |w,r,.move s n ws,h,hs,p,hp=>by
  rcases a9.mp (hp) with e|e
  ·rw[e];exact⟨hs.1,h.1⟩
  ·exact Np w _ 0 ws h.2 hs.2 p e
theorem Np:∀(w:List Int) (f:D->Rc) (i:Nat) (ws:Ws),z7 ws->sdW ws->∀p∈prW w f i ws,okP p
 |w,f,i,.nil,_,_,p,hp=>by cases hp
 |w,f,i,.cons l g r,h,hs,p,hp=>by
  rcases cE.mp (hp) with e|e
  ·exact Kl _ _ g h.1 hs.1 p e
  ·exact Np w f (i+1) r h.2 hs.2 p e
end
theorem Hr (w:List Int)(r:Rc)(g:Gm):(prG w r g).length=szG g:=by rw[← a6,Vj];exact HY _ g
theorem table_eq (h:jn g)(o:sdG g)(hd:dp g<=50)(hz:szG g<=10000):vJ [dG g]=.ok (true,.lst (tbl<|prG [] ([],[]) g).2):=by
 have e:=acP h o hd hz;obtain⟨a,b,c,f⟩:=Mm (g0:=.fz<|dG g) (prG [] ([],[]) g) ([],[]) .un .un .un (Kl _ _ g h o) (by rw[Hr];simp;lia);refine tab_run (ks:=(tbl<|prG [] ([],[]) g).1) (s2:=a) (s3:=b) (s4:=c) ?_;have d:jf (fFn fW<|aa (aG 0) aB) [.fz<|dG g,.ow<|.dcu [] [],.un,.un,.un]=.ok ((prG [] ([],[]) g).map trD):=by
  simp[jf,fFn,aa,aB,aG,e]
 unfold wN ir;rw[d];exact f
end Pk
namespace F
open PySem L2 Hd
noncomputable def rq (r:Rat):Q2:=(r.num,(r.den:Int))
def rD (r:Rat):D:=qD<|rq r
theorem ug (r:Rat):rD r=.tup [.int r.num,.int r.den]:=rfl
theorem oA (r:Rat):1<=(r.den:Int):=by have:=r.den_pos;lia
theorem Nk (r:Rat):gI r.num r.den=1:=by
 unfold gI
 have:=r.reduced
 unfold B0 at this;show((ui r.num (r.den:Int):Nat):Int)=1;unfold ui;simp[this]
theorem ach (h:rq a=rq b):a=b:=by
 have d:=congrArg xw h;have c:=congrArg B9 h;have c:(a.den:Int)=b.den:=c;exact Rat.ext d<|by lia
theorem ad1 (h:rD a=rD b):a=b:=by
 rw[ug,ug] at h;injection h with h
 injection h with c h
 injection h with d _
 injection c with c
 injection d with d
 exact ach<|Prod.ext c d
theorem CV (o:b≠0):(lt t b,lb t b)=rq (a8 t b):=by
 have h:=l8<|a8 t b;have hd:((a8 t b).den:Int)≠0:=by have:=oA<|a8 t b;lia
 have a:=(oC hd o).mp h;obtain⟨d,c⟩:=adJ o (oA<|a8 t b) (Nk<|a8 t b) a.symm;exact Prod.ext d c
theorem Wg (r:Rat):a8 r.num r.den=r:=l8 r
theorem ab3 (a b:Rat):a8 (a.num*b.den+b.num*a.den) (a.den*b.den)=a+b:=by
 have d:=oA a;have c:=oA b;rw[← zD _ _ (by lia) (by lia),Wg,Wg]
def Sz (k:Nat)(r:Rat):Prop:=r.num.natAbs<2^k/\r.den<2^k
theorem Sz.mono (h:Sz k r)(e:k<=l):Sz l r:=⟨gJ h.1 e,gJ h.2 e⟩
theorem De (o:b≠0)(C:t.natAbs<2^k)(I:b.natAbs<2^k):Sz k (a8 t b):=by
 have e:=CV (t:=t) o;have a:=congrArg xw e;have c:=congrArg B9 e;have a:lt t b=(a8 t b).num:=a;have c:lb t b=((a8 t b).den:Int):=c;have f:=ab7 (t:=t) o;have d:=abZ (t:=t) o;rw[a] at f;rw[c] at d;exact⟨by lia,by lia⟩
theorem acD (o:Sz k a)(C:Sz l b):Sz (k+l+1) (a+b):=by
 rw[← ab3];have f:=oA a;have g:=oA b;have c:(a.num*b.den).natAbs<2^(k+l):=wB o.1 (by simpa using C.2);have d:(b.num*a.den).natAbs<2^(k+l):=by rw[BH];exact wB C.1<|by simpa using o.2
 have e:((a.den:Int)*b.den).natAbs<2^(k+l):=wB (by simpa using o.2) (by simpa using C.2);refine De ?_ (Vz c d)<|gJ e (by lia);exact Int.mul_ne_zero (by lia)<|by lia
theorem Jp:Sz 1 0:=⟨by decide,by decide⟩
theorem Gw (h:Sz k r)(hk:k<=4000):Bq r.num/\Bq (r.den:Int):=⟨Ca<|gJ h.1 (by lia),Ca<|gJ (by simpa using h.2) (by lia)⟩
theorem adh (h:Sz k a)(g:Sz l b)(hk:k+l<=4000):Bq ((a.den:Int)*b.den):=Ca<|gJ (wB (by simpa using h.2) (by simpa using g.2)) (by lia)
theorem Xy (a b:Rat):(a.den:Int)*b.den≠0:=Int.mul_ne_zero (by have:=oA a;lia) (by have:=oA b;lia)
end F
namespace Pk
open PySem L2 Hd F
theorem ZQ (x y:Sl):∀(n:Nat) (a b:Int) (z:Sl),b.toNat=n->0<=a->0<=b->∃k o,wh jK jL k [x,y,.fz<|.int a,.fz<|.int b,z] =
  some (.ok (.nx,[x,y,.fz<|.int<|gI a b,.fz<|.int 0,o])):=by
 intro n;induction n using sL with
 |_ n ih=>
  intro a b z i g h;by_cases d:b=0
  ·subst d;refine⟨1,z,?_⟩;rw[Qq g];exact Ba rfl
  ·have c:0<b:=by lia
   have j:=fR a c;have f:=fq a d;obtain⟨k,o,e⟩:=ih (a%b).toNat (by lia) b (a%b) (.fz<|.int<|a%b) rfl h f;rw[Qv g c] at e;refine⟨k+1,o,Al ?_ ?_ e⟩
   ·simp[jK,aK,aj,fC,d]
   ·simp[jL,aH,bC,az,aj,aG,bc,mdI,d,c]
theorem gK (a b:Int):gV [.int a,.int b]=.ok (false,.int<|gI a b):=by
 obtain⟨k,d,e⟩:=ZQ (.fz<|.int a) (.fz<|.int b) _ (if a<0 then -a else a) (if b<0 then -b else b) .un rfl (by split<;>lia) (by split<;>lia);rw[VR] at e;have c:=uL k e;simp[gV,aV,lL,lO,oN,aH,bC,aP,aa,aB,aj,Ub,c,aY,Me.let,Sl.let,aG]
theorem afA (h:i.natAbs<2^k)(hk:k<=4000:=by decide):Bq i:=Ca<|gJ h<|by lia
theorem Kw (o:b≠0)(C:Bq b):qL [.int t,.int b]=.ok (false,.tup [.int<|lt t b,.int<|lb t b]):=by
 have hd:=QZ (t:=t) o;have c:Bq (dv t b):=by
  have i:=abP (a:=t) o;have j:=Xd t b;unfold Bq at C ⊢
  lia
 have d:dvI t (dv t b)=lt t b:=by
  unfold dvI lt;split
  ·rw[iN t<|by lia]
  ·rfl
 have f:dvI b (dv t b)=lb t b:=by
  unfold dvI lb;split
  ·rw[iN b<|by lia]
  ·rfl
 by_cases h:b<0
 ·have e:dv t b=-gI t b:=if_pos h;rw[e] at d f hd c;have g:gI t b≠0:=by lia
  simp[g,qL,aV,wJ,yl,aH,bC,fFn,aa,aB,aG,aj,gK,gIf,aK,fC,gLt,h,fUn,wY,aY,Me.let,Sl.let,bu,az,dq,c,d,f]
 ·have e:dv t b=gI t b:=if_neg h;rw[e] at d f hd c;have g:gI t b≠0:=by lia
  simp[g,qL,aV,wJ,yl,aH,bC,fFn,aa,aB,aG,aj,gK,gIf,aK,fC,gLt,h,gNx,aY,Me.let,Sl.let,bu,az,dq,c,d,f,hd]
theorem ix0:atI [a,b] 0=some a:=rfl
theorem ix1:atI [a,b] 1=some b:=rfl
theorem Mx (o:b≠0)(C:Bq b):qL [.int t,.int b]=.ok (false,rD<|a8 t b):=by
 rw[Kw o C];have e:=CV (t:=t) o;show _=Res.ok (false,qD<|rq<|a8 t b);rw[← e];rfl
theorem Yt (o:Sz k a)(C:Sz l b)(hk:k+l<=4000):Jd [rD a,rD b]=.ok (false,rD<|a+b):=by
 obtain⟨f,d⟩:=Gw o (by lia);obtain⟨c,g⟩:=Gw C (by lia);have e:=Mx (t:=a.num*b.den+b.num*a.den) (Xy a b)<|adh o C hk;rw[ab3] at e;simp[Jd,aV,Nv,Mr,aY,Me.let,Sl.let,fFn,aa,aB,az,aj,fC,gIx,ug,ix0,ix1,eX,bR,f,d,c,g];rw[e];simp[ug]
theorem Gs (o:Sz k a)(C:Sz l b)(hk:k+l<=4000):Bj [rD a,rD b]=.ok (false,.bl<|decide<|a.num*b.den<b.num*a.den):=by
 obtain⟨e,d⟩:=Gw o (by lia);obtain⟨c,f⟩:=Gw C (by lia);simp[Bj,aV,Jo,Jg,aY,Me.let,Sl.let,je,aa,aB,az,aj,fC,gIx,ug,ix0,ix1,eX,e,d,c,f,gLt]
theorem La (k:Nat):∀(l:List Rat) (q:Rat) (j:Nat) (s2:Sl),Sz j q->(∀x∈l,Sz k x)->j+l.length*(k+1)<=2000->k<=2000->
  ∃o,bI (hName 2) zp (l.map rD) [a,.fz<|rD q,s2]=.ok (.nx,[a,.fz<|rD<|q+l.sum,o])
 |[],q,j,s2,_,_,_,_=>⟨s2,by simp[bI,Rat.add_zero]⟩
 |x::l,q,j,s2,hq,hl,hj,hk=>by
  have c:=hl x av;have b:j+(l.length+1)*(k+1)<=2000:=hj;rw[Nat.add_mul] at b;have e:=Yt hq c (by lia);obtain⟨o,f⟩:=La k l (q+x) (j+k+1) (.fz<|rD x) (acD hq c) (λy d=>hl y<|ah _ d) (by lia) hk;refine⟨o,?_⟩;rw[ay,dI (m1:=[a,.fz<|rD q,.fz<|rD x]) (m2:=[a,.fz<|rD<|q+x,.fz<|rD x]) rfl (by simp[zp,bC,fFn,aa,aB,aG,e]),f,lP,Rat.add_assoc]
theorem G6 {l:List Rat}(o:∀x∈l,Sz k x)(C:1+l.length*(k+1)<=2000)(hk:k<=2000):Av [.lst<|l.map rD]=.ok (false,rD l.sum):=by
 obtain⟨b,e⟩:=La (a:=.fz<|.lst<|l.map rD) k l 0 1 .un Jp o C hk;have c:rD 0=.tup [.int 0,.int 1]:=rfl;rw[Rat.zero_add,c] at e;simp[Av,aV,Jf,JK,Gq,aH,bC,fC,ir,jf,aG,aj,e,aY,Me.let,Sl.let]
theorem Hj {o:Type}{f:o->D}{b:o->Bool}:∀l:List o,(∀x∈l,f x=.bl (b x))->vz (l.map f)=some (l.map b)
 |[],_=>rfl
 |x::l,h=>by
  have a:=Hj l λy c=>h y<|ah _ c;simp[vz,h x av,a]
noncomputable def sdD:D->Int
 | .tup [.int s,_,_,_]=>s
 |_=>0
noncomputable def wdD:D->Nat
 | .tup [_,_,.tup ws,_]=>ws.length
 |_=>0
def mO (d:D):Prop:=∃s n a r,d=jb s n a r
theorem sY {h:Zba}{ft:Zaf}{fe:Zae}{m0:Me}(P:D->Bool):∀ds:List D,(∀d∈ds,∃m1,h d m0=some m1/\ft m1=.ok (P d)/\fe m1=.ok d)->fK h ft fe m0 ds=.ok (ds.filter P)
 |[],_=>rfl
 |d::ds,H=>by
  obtain⟨m1,a,c,e⟩:=H d av;have b:=sY P ds λd hd=>H d<|ah _ hd;unfold fK;rw[l4];by_cases q:P d=true
  ·simp only[a,c,q,e,b,if_pos]
  ·have f:P d=false:=by simpa using q
   simp only[a,c,f,b]
   simp
theorem Ig:∀(l:List (List Int×Gm×Rc)) (T:Tb) (d:D),d∈(l.foldl tst T).2->d∈T.2\/∃p∈l,∃s n ws,p.2.1=.move s n ws/\d=jb s n ws p.2.2
 |[],T,d,h=>.inl h
 |p::l,T,d,h=>by
  rcases Ig l (tst T p) d h with e|⟨q,b,e⟩
  ·unfold tst at e;split at e
   ·rename_i s n ws a;split at e
    ·exact .inl e
    ·rcases cE.mp e with e|e
     ·exact .inl e
     ·exact .inr ⟨p,av,s,n,ws,a,by simpa using e⟩
   ·exact .inl e
  ·exact .inr ⟨q,ah _ b,e⟩
theorem Aq {l:List (List Int×Gm×Rc)}{d:D}(h:d∈(tbl l).2):mO d:=by
 rcases Ig l ([],[]) d h with e|⟨p,_,s,n,a,_,e⟩
 ·cases e
 ·exact⟨s,n,a,p.2.2,e⟩
theorem aar {g:Gm}{s:Int}(h:jn g)(o:sdG g)(hd:dp g<=50)(hz:szG g<=10000):lR [dG g,.int s]=.ok (true,.lst<|(tbl<|prG [] ([],[]) g).2.filter λd=>decide<|sdD d=s):=by
 have e:=table_eq h o hd hz;have i:fK (hName 0) (aK gEq (az gIx (aj 0)<|fC<|.int 0)<|aj 1) (aG 0) [.un,.fz<|.int s] (tbl<|prG [] ([],[]) g).2=.ok ((tbl<|prG [] ([],[]) g).2.filter λd=>decide<|sdD d=s):=sY _ _ λd hd=>by
  obtain⟨a,n,f,r,rfl⟩:=Aq hd;refine⟨[.fz<|jb a n f r,.fz<|.int s],rfl,?_,rfl⟩;have m:∀a b c d:D,atI [a,b,c,d] 0=some a:=λ_ _ _ _=>rfl;simp[aK,az,aj,fC,gIx,jb,m,sdD];exact decide_eq_decide.mpr Iff.rfl
 have k:(tbl<|prG [] ([],[]) g).2.length<=16777216:=by
  have:∀(l:List (List Int×Gm×Rc)) (T:Tb),(l.foldl tst T).2.length<=T.2.length+l.length:=by
   intro l;induction l with
   |nil=>intro T;simp
   |cons p l ih=>
    intro T
    have:=ih<|tst T p
    have q:(tst T p).2.length<=T.2.length+1:=by
     unfold tst;split
     ·split<;>simp
     ·lia
    simp only[sD,cy]
    lia
  have:=this (prG [] ([],[]) g) ([],[])
  rw[Hr] at this;simp at this;have e:tbl (prG [] ([],[]) g)=(prG [] ([],[]) g).foldl tst ([],[]):=rfl;rw[e]
  lia
 have j:sZ [.fz<|dG g,.fz<|.int s]=.ok (.lst<|(tbl<|prG [] ([],[]) g).2.filter λd=>decide<|sdD d=s):=by
  simp[sZ,d7,jf,fFn,aa,aB,aG,e,cMe,Sl.bor,i,k]
 simp[lR,yZ,yE,aV,pQ,Me.let,Sl.let,j]
def okT (l:List D)(s:Int):Prop:=(l.filter λd=>decide<|sdD d=s).length<=8/\((l.filter λd=>decide<|sdD d=s).map λd=>(wdD d:Int)).sum<=24
def smQ (d:Q2):Prop:=d.1.natAbs<=999999999999/\d.2<=999
def aco (ws:Ws):Prop:=∃l:List Rat,gF ws=l.map rD/\(∀x∈l,Sz 20 x/\smQ (rq x)/\0<x.num)/\l.length<=3/\l.sum=1
def okF (g:Gm):Prop:=match g with
 | .fin d=>smQ d
 | .deal _ ws=>aco ws
 |_=>True
theorem RX {o:Type}{f:o->D}{l:List o}(h:∀x∈l,f x=.bl true):Fo [.lst<|l.map f]=some (.bl true):=by
 have:=Hj l h
 show(vz<|l.map f).map (λbs=>D.bl<|bs.all id)=_;rw[this]
 simp
def okR (d:D):Prop:=okD d=true/\tU d<=20
def agW (o:Int->Str->D)(p:List Int×Gm×Rc):Prop:=∀s n a,p.2.1=.move s n a->jb s n a p.2.2=o s n/\okR (o s n)
structure Gd (g:Gm):Prop where
 len:jn g
 sd:sdG g
 dep:dp g<=12
 sz:szG g<=64
 row:∃ρ,∀p∈prG [] ([],[]) g,agW ρ p
 fr:∀p∈prG [] ([],[]) g,okF p.2.1/\jn p.2.1
 t1:okT (tbl (prG [] ([],[]) g)).2 1
 t2:okT (tbl (prG [] ([],[]) g)).2 2
end Pk
namespace Lw
open PySem L2 Hd F Pk
section
def kh:Zab:=
 (aH (gIf (aK gLt (aj 1)<|aP cP<|aa (aj 0) aB) (aY<|az gIx (aj 0)<|aj 1) gNx)
 (aY<|fC<|.int 0))
def kJ:Zab:=
 kh
def gZ:Zac:=aV 2 2 kJ
def mV:Zaf:=
 (aK gNe (aj 3)<|fC<|.int 0)
def m7:Zab:=
 (ado 2 3<|aa (aG 3)<|aa (az bc (aj 2)<|aj 3) aB)
def sy:Zab:=
 (oW mV m7)
def qu (o:Zab):Zab:=
 (aH (bC 2<|aP Ub<|aa (aj 0) aB)
 (aH (bC 3<|aG 1)
 (aH o
 (aY<|bu<|aa (az dq (aj 0)<|aj 2)<|aa (az dq (aj 1)<|aj 2) aB))))
def qy:Zab:=
 (qu sy)
def bT:Zac:=aV 4 2 qy
def ju:Zab:=
 (aH (dh 4<|az bc (aj 0)<|fC<|.int 36)
 (bC 0<|az dq (aj 0)<|fC<|.int 36))
def qH:Zab:=
 (ir (sW<|aa (aj 3) aB) (hName 5) ju)
def qi:Zae:=
 (az gIx (aj 1)<|aj 0)
def qx:Zae:=
 (d7 1 [2] (jf<|aj 4) (hName 0) jV qi)
def lV:Zae:=
 (fSl (az PN (fC<|.int 8)<|aj 1) fO0<|fO1<|aj 0)
def qF:Zae:=
 (d7 1 [6] (Qo<|aa (fC<|.int 1)<|aa (fC<|.int 9) aB) (hName 0) jV lV)
def jw:Zab:=
 (aH (bC 9<|az gIx (aj 2)<|az bc (az bR (az gIx (aj 4)<|aj 7)<|az eX (fC<|.int 4)<|aj 5)<|fC<|.int 36)
 (dh 8<|az bR (az bR (fSl (aj 6) fO0<|fO1<|aj 7)<|aj 9)<|fSl (aj 6) (fO1<|az bR (aj 7)<|fC<|.int 1) fO0))
def vg:Zab:=
 (ir (sW<|aa (fC<|.int 8) aB) (hName 5) jw)
def jU (J:Zab)(I:Zae)(o:Zae)(C:Zab):Zab:=
 (aH (bC 2<|fC<|.str "abcdefghijklmnopqrstuvwxyz0123456789")
 (aH (bC 3<|az bR (fC<|.int 1)<|az bc (aj 0)<|fC<|.int 8)
 (aH (bC 0<|az dq (aj 0)<|fC<|.int 8)
 (aH (eV 4<|dW aB)
 (aH J
 (aH (bC 6<|Qa "str" G4 (fC<|.str "") (aa I aB))
 (aH (gIf (aK gEq (az bc (az dq (aj 1)<|fC<|.int 8)<|fC<|.int 3)<|fC<|.int 1) (pQ o) gNx)
 (aH (bC 7<|az bc (aj 1)<|aj 3)
 (aH (eV 8<|dW aB)
 (aH C
 (jg 8)))))))))))
def zP:Zab:=
 (jU qH qx qF vg)
def pK:Zac:=aV 10 2 zP
def nU (o:Zac):Zab:=
 (aH (gIf (aK gEq (az bc (aj 0)<|fC<|.int 8)<|fC<|.int 3) (aY<|fFn o<|aa (az dZ (az bc (az eX (aj 0)<|fC<|.int 48271)<|fC<|.int 1999999999999)<|fC<|.int 999999999999)<|aa (az bR (fC<|.int 1)<|az bc (az dq (aj 0)<|fC<|.int 8)<|fC<|.int 999) aB) gNx)
 (aY<|fFn o<|aa (az dZ (az bc (az dq (aj 0)<|fC<|.int 8)<|fC<|.int 13)<|fC<|.int 6)<|aa (az bR (fC<|.int 1)<|az bc (az dq (aj 0)<|fC<|.int 104)<|fC<|.int 3) aB))
def nM:Zab:=
 (nU bT)
def cQ:Zac:=aV 1 1 nM
def gn:Zab:=
 (aH (dh 2<|az bR (az bR (fC<|.int 1)<|az bc (aj 0)<|fC<|.int 4)<|az eX (az dq (az bc (az dq (aj 0)<|fC<|.int 4)<|fC<|.int 8)<|fC<|.int 7)<|az bc (az dq (aj 0)<|fC<|.int 32)<|fC<|.int 200)
 (bC 0<|az bc (az eX (aj 0)<|fC<|.int 48271)<|fC<|.int 2147483647))
def jA:Zab:=
 (ir (sW<|aa (aj 1) aB) (hName 3) gn)
def m9:Zae:=
 (fFn bT<|aa (aG 0)<|aa (aP Ka<|aa (aj 1) aB) aB)
def mZ:Zae:=
 (d7 1 [2] (jf<|aj 2) (hName 0) jV m9)
def lY (C:Zab)(o:Zae):Zab:=
 (aH (eV 2<|dW aB)
 (aH C
 (pQ o)))
def vB:Zab:=
 (lY jA mZ)
def my:Zac:=aV 4 2 vB
def vG:Zab:=
 (aY<|az bc (az eX (az bR (az bc (aj 0)<|fC<|.int 2147483647)<|fC<|.int 1)<|az bR (fC<|.int 48271)<|az eX (fC<|.int 7)<|aj 1)<|fC<|.int 2147483647)
def vW:Zab:=
 vG
def cV:Zac:=aV 2 2 vW
def iD:Zab:=
 (aH (bC 5<|bu<|aa (aG 1)<|aa (aG 2)<|aa (aG 3)<|aa (aG 4) aB)
 (aH (gIf (aK zV (aj 5)<|Oe 6<|az dD (aj 0)<|fC<|.str "names") (aH (DR 6 (az dD (aj 0)<|fC<|.str "names") (aG 5)<|az gIx (Oe 7<|az dD (aj 0)<|fC<|.str "many")<|az dZ (aj 1)<|fC<|.int 1)
 (yw 7 (az dD (aj 0)<|fC<|.str "many") (az dZ (aj 1)<|fC<|.int 1)<|az bR (az gIx (Oe 7<|az dD (aj 0)<|fC<|.str "many")<|az dZ (aj 1)<|fC<|.int 1)<|fC<|.int 1)) gNx)
 (aY<|az zL (Oe 6<|az dD (aj 0)<|fC<|.str "names")<|aj 5)))
def iu:Zab:=
 iD
def dX:List D->D->Addr×D->Addr×D->Res (D×D×D×D):=runST 0 8 5 iu
def iV (Φb:List D->D->Addr×D->Addr×D->Res (D×D×D×D)):Zab:=
 (aH (bC 12<|az gIx (aj 8)<|az bc (az bR (az bR (az eX (fC<|.int 3)<|aj 7)<|aj 11)<|az dq (az dD (aj 1)<|fC<|.str "turn")<|fC<|.int 8)<|fC<|.int 8)
 (aH (eV 13<|aP qK<|aa (aj 3) aB)
 (aH (fD 13 (az dZ (aj 5)<|fC<|.int 1)<|az bR (az gIx (aj 13)<|az dZ (aj 5)<|fC<|.int 1)<|bu<|aa (bu<|aa (aG 9)<|aa (aG 12) aB) aB)
 (X5 13<|qO 10<|Gk<|tK (fX<|aG 12)<|tK (wA Φb 1 1 14 15<|aa (aG 0)<|aa (az dZ (aj 2)<|fC<|.int 1)<|aa (aG 13) aB) Hk))))
def mC (Φb:List D->D->Addr×D->Addr×D->Res (D×D×D×D)):Zab:=
 (ir (sW<|aa (aj 6) aB) (hName 11)<|iV Φb)
def jO (C:Zac)(o:List D->D->Addr×D->Addr×D->Res (D×D×D×D))(I:Zab):Zab:=
 (aH (bC 5<|az bR (fC<|.int 1)<|az bc (aj 4)<|fC<|.int 2)
 (aH (bC 6<|az bR (fC<|.int 1)<|az bc (az dq (aj 4)<|fC<|.int 16)<|fC<|.int 3)
 (aH (Rt 7<|wA o 1 0 14 15<|aa (aG 5)<|aa (az gIx (aj 3)<|az dZ (aj 5)<|fC<|.int 1)<|aa (aG 6)<|aa (az bc (az dq (aj 4)<|fC<|.int 48)<|fC<|.int 2) aB)
 (aH (gIf (aK gGe (aj 7)<|fC<|.int 8) (aY<|bu<|aa (fC<|.str "end")<|aa (fFn C<|aa (aG 4) aB) aB) gNx)
 (aH (iJ 1 (fC<|.str "room")<|az dZ (az dD (aj 1)<|fC<|.str "room")<|aj 6)
 (aH (bC 8<|az dD (aj 1)<|fC<|.str "pool")
 (aH (bC 9<|az gIx (aj 8)<|az bc (az bR (aj 7)<|az dD (aj 1)<|fC<|.str "turn")<|fC<|.int 8)
 (aH (eV 10<|dW aB)
 (aH I
 (aY<|bu<|aa (fC<|.str "move")<|aa (aG 5)<|aa (aG 9)<|aa (aP eU<|aa (aj 10) aB) aB))))))))))
def mK (Φb:List D->D->Addr×D->Addr×D->Res (D×D×D×D)):List D->D->Addr×D->Addr×D->Res (D×D×D×D):=runST 1 16 5<|(jO cQ dX<|mC Φb)
def jZ (o:List D->D->Addr×D->Addr×D->Res (D×D×D×D)):Zab:=
 (qO 8<|Gk<|tK (fX<|aG 9)<|tK (wA o 1 1 10 11<|aa (aG 0)<|aa (az dZ (aj 2)<|fC<|.int 1)<|aa (aG 3) aB) Hk)
def gW (o:List D->D->Addr×D->Addr×D->Res (D×D×D×D)):Zab:=
 (ir (jf<|fFn my<|aa (aG 5)<|aa (aG 7) aB) (hName 9)<|jZ o)
def fG (C:Zac)(o:Zac)(I:List D->D->Addr×D->Addr×D->Res (D×D×D×D))(J:Zab):Zab:=
 (aH (bC 4<|az dD (aj 1)<|fC<|.str "at")
 (aH (iJ 1 (fC<|.str "at")<|az bR (aj 4)<|fC<|.int 1)
 (aH (gIf (aK gGe (aj 4)<|aP cP<|aa (aj 0) aB) (aY<|bu<|aa (fC<|.str "end")<|aa (fFn C<|aa (fFn o<|aa (az bR (az gIx (aj 0)<|fUn wY<|fC<|.int 1)<|az eX (aj 4)<|aj 4)<|aa (aG 4) aB) aB) aB) gNx)
 (aH (bC 5<|fFn o<|aa (az gIx (aj 0)<|aj 4)<|aa (aG 4) aB)
 (aH (bC 6<|aG 5)
 (aH (gIf (fTv<|az dD (aj 1)<|fC<|.str "level") (bC 6<|az bR (az dZ (aj 5)<|az bc (aj 5)<|fC<|.int 48)<|az bc (fFn o<|aa (az gIx (aj 0)<|az bc (aj 2)<|aP cP<|aa (aj 0) aB)<|aa (aG 2) aB)<|fC<|.int 48) gNx)
 (aH (gIf (dR (aK gEq (aj 2)<|fC<|.int 0)<|dR (aK gLt (az dD (aj 1)<|fC<|.str "room")<|fC<|.int 3)<|sJ (aK gEq (az bc (aj 6)<|fC<|.int 8)<|fC<|.int 0)<|aK gGt (aj 4)<|fC<|.int 0) (aY<|bu<|aa (fC<|.str "end")<|aa (fFn C<|aa (aG 5) aB) aB) gNx)
 (aH (gIf (aK gGt (az bc (aj 6)<|fC<|.int 8)<|fC<|.int 2) (vO<|wA (mK I) 1 1 10 11<|aa (aG 0)<|aa (aG 2)<|aa (aG 3)<|aa (aG 6) aB) gNx)
 (aH (bC 7<|az bR (fC<|.int 1)<|az bc (az dq (aj 6)<|fC<|.int 16)<|fC<|.int 3)
 (aH (iJ 1 (fC<|.str "room")<|az dZ (az dD (aj 1)<|fC<|.str "room")<|aj 7)
 (aH (eV 8<|dW aB)
 (aH J
 (aY<|bu<|aa (fC<|.str "deal")<|aa (az gIx (az dD (aj 1)<|fC<|.str "pool")<|az bc (az dq (aj 5)<|fC<|.int 48)<|fC<|.int 8)<|aa (aP eU<|aa (aj 8) aB) aB)))))))))))))
def bL:Nat->List D->D->Addr×D->Addr×D->Res (D×D×D×D)
 |0=>λ_ _ _ _=>.stuck
 |n+1=>runST 1 12 4
   (fG cQ cV (bL n)<|gW<|bL n)
def pC (o:List D->D->Addr×D->Addr×D->Res (D×D×D×D)):Zab:=
 (abW 5 6 7 [((fC<|.str "at"),(fC<|.int 0)),((fC<|.str "room"),(aG 3))] (fC<|.str "names") GP (fC<|.str "many") (dW<|aa (fC<|.int 0)<|aa (fC<|.int 0) aB) [((fC<|.str "pool"),(aG 4))]
 (aH (iJ 5 (fC<|.str "turn")<|az bc (aj 1)<|fC<|.int 64)
 (aH (iJ 5 (fC<|.str "level")<|je gEq (az bc (az dq (aj 1)<|fC<|.int 64)<|fC<|.int 2)<|fC<|.int 1)
 (vO<|wA o 5 1 6 7<|aa (aG 0)<|aa (aG 2)<|aa (dW<|aa (bu aB)<|aa (bu aB) aB) aB))))
def zu:Zab:=
 (pC<|bL 13)
def pG:Zac:=aV 8 5 zu
def mY:Zae:=
 (bu<|aa (aG 1)<|aa (aG 2) aB)
def m8:Zae:=
 (d7 2 [5] (sU<|az gIx (aj 4)<|fC<|.int 2) (lC 2<|cz (hName 0)<|cz (hName 1) lD) jV mY)
def iK:Zab:=
 (aH (eV 9<|aP qK<|aa (aj 5) aB)
 (aH (fD 9 (az dZ (az gIx (aj 4)<|fC<|.int 1)<|fC<|.int 1)<|az bR (az gIx (aj 9)<|az dZ (az gIx (aj 4)<|fC<|.int 1)<|fC<|.int 1)<|bu<|aa (bu<|aa (az gIx (aj 4)<|fC<|.int 2)<|aa (aG 7) aB) aB)
 (dh 6<|bu<|aa (aG 8)<|aa (aP eU<|aa (aj 9) aB) aB)))
def m6:Zab:=
 (ir (sU<|az gIx (aj 4)<|fC<|.int 3) (lC 2<|cz (hName 7)<|cz (hName 8) lD) iK)
def jz:Zab:=
 (dh 2<|bu<|aa (az bR (aj 3)<|bu<|aa (aG 10) aB)<|aa (az gIx (az gIx (aj 6)<|aj 10)<|fC<|.int 0)<|aa (az gIx (az gIx (aj 6)<|aj 10)<|fC<|.int 1) aB)
def mX:Zab:=
 (ir (abt<|aa (az dZ (aP cP<|aa (aj 6) aB)<|fC<|.int 1)<|aa (fUn wY<|fC<|.int 1)<|aa (fUn wY<|fC<|.int 1) aB) (hName 10) jz)
def jD:Zaf:=
 (aK gGt (aP cP<|aa (aj 2) aB)<|fC<|.int 0)
def gm:Zab:=
 (aH (K5 (KR 2)<|lC 3<|cz (hName 3)<|cz (hName 4)<|cz (hName 5) lD)
 (aH (dh 1<|bu<|aa (aG 3)<|aa (aG 4)<|aa (aG 5) aB)
 (aH (eV 6<|dW aB)
 (aH (gIf (aK gEq (az gIx (aj 4)<|fC<|.int 0)<|fC<|.str "deal") (eV 6 m8) gNx)
 (aH (gIf (aK gEq (az gIx (aj 4)<|fC<|.int 0)<|fC<|.str "move") m6 gNx)
 mX)))))
def Ae:Zab:=
 (oW jD gm)
def mz (o:Zab):Zab:=
 (aH (eV 1<|dW aB)
 (aH (eV 2<|dW<|aa (bu<|aa (bu aB)<|aa (aG 0)<|aa (bu<|aa (bu aB)<|aa (bu aB) aB) aB) aB)
 (aH o
 (jg 1))))
def uW:Zab:=
 (mz Ae)
def lZ:Zac:=aV 11 1 uW
def oV:Zae:=
 (d7 2 [] (sU<|az gIx (aj 4)<|fC<|.int 3) (lC 2<|cz (hName 0)<|cz (hName 1) lD) jV<|aG 0)
def d8:Zab:=
 (gIf (sJ (aK gEq (az gIx (aj 4)<|fC<|.int 0)<|fC<|.str "move")<|aK zV (bu<|aa (az gIx (aj 4)<|fC<|.int 1)<|aa (az gIx (aj 4)<|fC<|.int 2) aB)<|aj 2) (aH (GR 2 (bu<|aa (az gIx (aj 4)<|fC<|.int 1)<|aa (az gIx (aj 4)<|fC<|.int 2) aB)<|fC<|.bl true)
 (aH (bC 6<|aP eU<|aa oV aB)
 (dh 1<|bu<|aa (az gIx (aj 4)<|fC<|.int 1)<|aa (az gIx (aj 4)<|fC<|.int 2)<|aa (aG 6)<|aa (az gIx (aj 5)<|az dZ (az gIx (aj 4)<|fC<|.int 1)<|fC<|.int 1) aB))) gNx)
def oE:Zab:=
 (ir (jf<|fFn lZ<|aa (aG 0) aB) (lC 3<|cz (hName 3)<|cz (hName 4)<|cz (hName 5) lD) d8)
def rZ (o:Zab):Zab:=
 (aH (eV 1<|dW aB)
 (aH (eV 2 GP)
 (aH o
 (jg 1))))
def rQ:Zab:=
 (rZ oE)
def lg:Zac:=aV 7 1 rQ
end
theorem itD (h:f m=.ok [.int i,.int j,.int (-1)])(J:-1000000000<=i)(C:i<=1000000000)(I:-1000000000<=j)(o:j<=1000000000):abt f m=.ok ((cq (i-j).toNat).map λ(k:Nat)=>D.int<|i-k):=by simp_all[if_pos,abt]
noncomputable def ptW (f:D->Rc):Ws->List (Gm×Rc)
 | .nil=>[]
 | .cons l g r=>(g,f l)::ptW f r
def ptG (g:Gm)(r:Rc):List (Gm×Rc):=ptW (rbg g r)<|yt g
def jt (p:Gm×Rc):D:=.tup [dG p.1,rD2 p.2]
noncomputable def ch (w:List Int)(L:List (Gm×Rc))(i:Nat):List (List Int×Gm×Rc):=(L.zipIdx i).map λp=>(w++[(p.2:Int)],p.1.1,p.1.2)
theorem Og (w:List Int)(f:D->Rc):∀(i:Nat) (ws:Ws),prW w f i ws=(ch w (ptW f ws) i).flatMap λp=>prG p.1 p.2.2 p.2.1
 |i,.nil=>rfl
 |i,.cons l g r=>by
  show prG (w++[(i:Int)]) (f l) g++prW w f (i+1) r=_;rw[Og w f (i+1) r];rfl
theorem acs (w:List Int)(r:Rc)(g:Gm):prG w r g=(w,g,r)::(ch w (ptG g r) 0).flatMap λp=>prG p.1 p.2.2 p.2.1:=by
 cases g with
 |fin d=>rfl
 |deal n ws=>show(w,Gm.deal n ws,r)::prW w (λ_=>r) 0 ws=_;rw[Og];rfl
 |move s n ws=>show(w,Gm.move s n ws,r)::prW w (rbm s n r) 0 ws=_;rw[Og];rfl
theorem Q0 (f:D->Rc):∀ws:Ws,(ptW f ws).length=lB ws
 | .nil=>rfl
 | .cons l g r=>by show(ptW f r).length+1=_;rw[Q0 f r];rfl
theorem Iu (f:D->Rc):∀ws:Ws,(ptW f ws).map (·.1)=jy ws
 | .nil=>rfl
 | .cons l g r=>by show g::(ptW f r).map (·.1)=_;rw[Iu f r];rfl
theorem Ec {n:Str}{r:Rc}:∀ws:Ws,fK (lC 2<|cz (hName 0)<|cz (hName 1) lD) jV mY [.un,.un,.fz<|rD2 r] (dWs ws)=.ok ((ptW (λ_=>r) ws).map jt)
 | .nil=>rfl
 | .cons l g rr=>by
  have a:=Ec (n:=n) (r:=r) rr;have e:mY [.fz l,.fz<|dG g,.fz<|rD2 r]=.ok (jt (g,r)):=rfl;unfold dWs fK;simp[lC,cz,hName,lD,jV,e,a,ptW]
theorem Et (I:s=1\/s=2)(J:r.1.length<=1000/\r.2.length<=1000):∀(ws:Ws) (P:List D) (s7 s8 s9:Sl),P.length+lB ws<=1000->
  ∃o C s9',bI (lC 2<|cz (hName 7)<|cz (hName 8) lD) iK (dWs ws) [g0,s1,s2,s3,.fz<|.tup [.str "move",.int s,.str n,W],.fz<|rD2 r,.ow<|.lst P,s7,s8,s9,s10]=.ok (.nx,[g0,s1,s2,s3,.fz<|.tup [.str "move",.int s,.str n,W],.fz<|rD2 r,.ow<|.lst<|P++(ptW (rbm s n r) ws).map jt,o,C,s9',s10])
 | .nil,P,s7,s8,s9,_=>⟨s7,s8,s9,by simp[dWs,bI,ptW]⟩
 | .cons l g rr,P,s7,s8,s9,hz=>by
  have t:P.length+(lB rr+1)<=1000:=hz;obtain⟨a,b,c,e⟩:=Et (g0:=g0) (s1:=s1) (s2:=s2) (s3:=s3) (s10:=s10) (s:=s) (n:=n) (W:=W) (r:=r) I J rr (P++[jt (g,rbm s n r l)]) (.fz l) (.fz<|dG g) (.ow<|.lst [.tup (rbm s n r l).1,.tup (rbm s n r l).2]) (by rw[be,dP];lia);refine⟨a,b,c,?_⟩;have i:∀a b c d:D,atI [a,b,c,d] 1=some b:=λ_ _ _ _=>rfl;have j:∀a b c d:D,atI [a,b,c,d] 2=some c:=λ_ _ _ _=>rfl;have h:∀a b:D,atI [a,b] 0=some a:=λ_ _=>rfl;have f:∀a b:D,atI [a,b] 1=some b:=λ_ _=>rfl;have v:ixN 2 0=some 0:=rfl;have q:ixN 2 1=some 1:=rfl;have u:r.1.length+1<=16777216:=by lia
  have m:r.2.length+1<=16777216:=by lia
  have k:P.length<16777216:=by lia
  have p:iK [g0,s1,s2,s3,.fz<|.tup [.str "move",.int s,.str n,W],.fz<|rD2 r,.ow<|.lst P,.fz l,.fz<|dG g,s9,s10]=.ok (.nx,[g0,s1,s2,s3,.fz<|.tup [.str "move",.int s,.str n,W],.fz<|rD2 r,.ow<|.lst<|P++[jt (g,rbm s n r l)],.fz l,.fz<|dG g,.ow<|.lst [.tup (rbm s n r l).1,.tup (rbm s n r l).2],s10]):=by
   rcases I with rfl|rfl
   ·simp[iK,aH,eV,aP,qK,aa,aB,aj,rD2,fD,az,gIx,i,j,fC,F.dZ,h,f,jY,putL,bu,aG,bR,u,v,dh,eU,k,jt,rbm]
   ·simp[iK,aH,eV,aP,qK,aa,aB,aj,rD2,fD,az,gIx,i,j,fC,F.dZ,h,f,jY,putL,bu,aG,bR,m,q,dh,eU,k,jt,rbm]
  show bI _ _ (.tup [l,dG g]::dWs rr) _=_;rw[dI rfl p,e];rw[fy];rfl
theorem CJ (C:w.length<=1000):∀(c:Nat) (S:List D) (s10:Sl),c<=L.length->S.length+c<=100000->
  ∃o,bI (hName 10) jz ((cq c).map λ(k:Nat)=>D.int<|(c:Int)-1-k) [g0,s1,.ow<|.lst S,.fz<|.tup<|w.map D.int,s4,s5,.ow<|.lst<|L.map jt,s7,s8,s9,s10]=.ok (.nx,[g0,s1,.ow<|.lst<|S++(((ch w L 0).take c).map trD).reverse,.fz<|.tup<|w.map D.int,s4,s5,.ow<|.lst<|L.map jt,s7,s8,s9,o])
 |0,S,s10,_,_=>⟨s10,by simp[bI]⟩
 |c+1,S,s10,hc,hz=>by
  have g:c<L.length:=by lia
  obtain⟨a,e⟩:=CJ (g0:=g0) (s1:=s1) (s4:=s4) (s5:=s5) (s7:=s7) (s8:=s8) (s9:=s9) (L:=L) C c (S++[trD (w++[(c:Int)],L[c].1,L[c].2)]) (.fz<|.int (c:Int)) (by lia) (by rw[be,dP];lia);refine⟨a,?_⟩;have j:(L.map jt)[c]? = some (jt L[c]):=by rw[a5,aw g];rfl
  have q:=pO j;have f:∀a b:D,atI [a,b] 0=some a:=λ_ _=>rfl;have d:∀a b:D,atI [a,b] 1=some b:=λ_ _=>rfl;have p:w.length+1<=16777216:=by lia
  have i:S.length<16777216:=by lia
  have l:jz [g0,s1,.ow<|.lst S,.fz<|.tup<|w.map D.int,s4,s5,.ow<|.lst<|L.map jt,s7,s8,s9,.fz<|.int (c:Int)]=.ok (.nx,[g0,s1,.ow<|.lst<|S++[trD (w++[(c:Int)],L[c].1,L[c].2)],.fz<|.tup<|w.map D.int,s4,s5,.ow<|.lst<|L.map jt,s7,s8,s9,.fz<|.int (c:Int)]):=by
   simp[jz,dh,jY,putL,bu,aa,aB,az,aj,aG,bR,p,gIx,q,jt,f,d,fC,i,trD]
  have h:(cq<|c+1).map (λ(k:Nat)=>D.int<|((c+1:Nat):Int)-1-k)=D.int (c:Int)::(cq c).map λ(k:Nat)=>D.int ((c:Int)-1-k):=by
   rw[x6,ay,kg];congr 1
   ·congr 1;lia
   ·refine List.map_congr_left λk _=>?_;show D.int _=D.int _;congr 1;simp only[Nat.succ_eq_add_one]
    lia
  rw[h,dI rfl l,e];have n:(ch w L 0).take (c+1)=(ch w L 0).take c++[(w++[(c:Int)],L[c].1,L[c].2)]:=by
   have m:c<(ch w L 0).length:=by unfold ch;simp;exact g
   rw[List.take_succ_eq_append_getElem m];congr 1;simp[ch]
  rw[n,cK,sF]
  simp
theorem aan {g0 s3 s4 s5 s6 s7 s8 s9 s10:Sl}{F0 S:List D}{w:List Int}{g:Gm}{r:Rc}(h:jn g)(hs:∀s n ws,g=.move s n ws->s=1\/s=2)(hr:r.1.length<=1000/\r.2.length<=1000)(hw:w.length<=1000)(hf:F0.length<=100000)(hS:S.length<=90000):
  ∃C t4 t5 I t7 U J o,gm [g0,.ow<|.lst F0,.ow<|.lst<|S++[trD (w,g,r)],s3,s4,s5,s6,s7,s8,s9,s10]=.ok (.nx,[g0,.ow<|.lst<|F0++[trD (w,g,r)],.ow<|.lst<|S++((ch w (ptG g r) 0).map trD).reverse,C,t4,t5,I,t7,U,J,o]):=by
 have x:∀a b:D,atI [a,b] 0=some a:=λ_ _=>rfl;have t:∀a b c:D,atI [a,b,c] 0=some a:=λ_ _ _=>rfl;have q:∀a b c:D,atI [a,b,c] 2=some c:=λ_ _ _=>rfl;have u:∀a b c d:D,atI [a,b,c,d] 0=some a:=λ_ _ _ _=>rfl;have p:∀a b c d:D,atI [a,b,c,d] 3=some d:=λ_ _ _ _=>rfl;have v:F0.length<16777216:=by lia
 have f:∀(P:List (Gm×Rc)) (k i j:Sl),P=ptG g r->P.length<=100->∃o,mX [g0,.ow<|.lst<|F0++[trD (w,g,r)],.ow<|.lst S,.fz<|.tup<|w.map D.int,.fz<|dG g,.fz<|rD2 r,.ow<|.lst<|P.map jt,k,i,j,s10] =
   .ok (.nx,[g0,.ow<|.lst<|F0++[trD (w,g,r)],.ow<|.lst<|S++((ch w (ptG g r) 0).map trD).reverse,.fz<|.tup<|w.map D.int,.fz<|dG g,.fz<|rD2 r,.ow<|.lst<|P.map jt,k,i,j,o]):=λP k i j A O=>by
  obtain⟨o,e⟩:=CJ (g0:=g0) (s1:=.ow<|.lst<|F0++[trD (w,g,r)]) (s4:=.fz<|dG g) (s5:=.fz<|rD2 r) (s7:=k) (s8:=i) (s9:=j) (w:=w) (L:=P) hw P.length S s10 (aS _) (by lia);refine⟨o,?_⟩;have M:(aa (az dZ (aP cP<|aa (aj 6) aB)<|fC<|.int 1)<|aa (fUn wY<|fC<|.int 1)<|aa (fUn wY<|fC<|.int 1) aB) [g0,.ow<|.lst<|F0++[trD (w,g,r)],.ow<|.lst S,.fz<|.tup<|w.map D.int,.fz<|dG g,.fz<|rD2 r,.ow<|.lst<|P.map jt,k,i,j,s10]=.ok [.int<|(P.length:Int)-1,.int (-1),.int (-1)]:=by
   simp[aa,aB,az,aP,cP,aj,fC,F.dZ,fUn,wY]
  have K:=itD M (by lia) (by lia) (by lia) (by lia);unfold mX ir;rw[K];have E:((P.length:Int)-1 - -1).toNat=P.length:=by lia
  rw[E];have G:(ch w P 0).take P.length=ch w P 0:=pS (by unfold ch;simp);rw[G,A] at e;rw[A];exact e
 have l:(ptG g r).length<=100:=by
  unfold ptG;rw[Q0,← iT,← Aw];exact xj h
 cases g with
 |fin d=>
  obtain⟨o,e⟩:=f [] s7 s8 s9 rfl (by simp);refine⟨.fz<|.tup<|w.map D.int,.fz<|dG<|.fin d,.fz<|rD2 r,.ow<|.lst [],s7,s8,s9,o,?_⟩;simp only[trD,dG,tq] at e ⊢;simp[gm,aH,K5,KR,jY,putL,lC,cz,hName,lD,dh,bu,aa,aB,aG,v,eV,dW,gIf,aK,az,aj,fC,gIx,x,gNx,e]
 |deal n ws=>
  obtain⟨o,e⟩:=f (ptW (λ_=>r) ws) s7 s8 s9 rfl l;have N:=Ec (n:=n) (r:=r) ws;have m:(dWs ws).length<=16777216:=by rw[rn];have:=h.1;lia
  have y:∀a b c,m8 [g0,a,b,c,.fz<|dG<|.deal n ws,.fz<|rD2 r,.ow<|.lst [],s7,s8,s9,s10]=.ok (.lst<|(ptW (λ_=>r) ws).map jt):=λa b c=>by
   simp[m8,d7,sU,az,aj,fC,gIx,dG,q,cMe,Sl.bor,N,m]
  refine⟨.fz<|.tup<|w.map D.int,.fz<|dG<|.deal n ws,.fz<|rD2 r,.ow<|.lst<|(ptW (λ_=>r) ws).map jt,s7,s8,s9,o,?_⟩;simp only[trD,dG] at e y ⊢;simp[gm,aH,K5,KR,jY,putL,lC,cz,hName,lD,dh,bu,aa,aB,aG,v,eV,dW,gIf,aK,az,aj,fC,gIx,t,gNx,y,e]
 |move s n ws=>
  obtain⟨k,i,j,z⟩:=Et (g0:=g0) (s1:=.ow<|.lst<|F0++[trD (w,.move s n ws,r)]) (s2:=.ow<|.lst S) (s3:=.fz<|.tup<|w.map D.int) (s10:=s10) (n:=n) (W:=.tup<|dWs ws) (hs s n ws rfl) hr ws [] s7 s8 s9 (by have:=h.1;simp;lia);obtain⟨o,e⟩:=f (ptW (rbm s n r) ws) k i j rfl l;have m:(dWs ws).length<=16777216:=by rw[rn];have:=h.1;lia
  have B:m6 [g0,.ow<|.lst<|F0++[trD (w,.move s n ws,r)],.ow<|.lst S,.fz<|.tup<|w.map D.int,.fz<|dG<|.move s n ws,.fz<|rD2 r,.ow<|.lst [],s7,s8,s9,s10]=.ok (.nx,[g0,.ow<|.lst<|F0++[trD (w,.move s n ws,r)],.ow<|.lst S,.fz<|.tup<|w.map D.int,.fz<|dG<|.move s n ws,.fz<|rD2 r,.ow<|.lst<|(ptW (rbm s n r) ws).map jt,k,i,j,s10]):=by
   have H:sU (az gIx (aj 4)<|fC<|.int 3) [g0,.ow<|.lst<|F0++[trD (w,.move s n ws,r)],.ow<|.lst S,.fz<|.tup<|w.map D.int,.fz<|dG<|.move s n ws,.fz<|rD2 r,.ow<|.lst [],s7,s8,s9,s10]=.ok (dWs ws):=by
    simp[sU,az,aj,fC,gIx,dG,p]
   unfold m6 ir;rw[H];rw[oI] at z;exact z
  refine⟨.fz<|.tup<|w.map D.int,.fz<|dG<|.move s n ws,.fz<|rD2 r,.ow<|.lst<|(ptW (rbm s n r) ws).map jt,k,i,j,o,?_⟩;simp only[trD,dG] at e B ⊢;simp[gm,aH,K5,KR,jY,putL,lC,cz,hName,lD,dh,bu,aa,aB,aG,v,eV,dW,gIf,aK,az,aj,fC,gIx,u,gNx,B,e]
abbrev Tr:=List Int×Gm×Rc
noncomputable def szT (st:List Tr):Nat:=(st.map λp=>szG p.2.1).sum
theorem aea (w:List Int)(g:Gm)(r:Rc):szT (ch w (ptG g r) 0)+1=szG g:=by
 have e:∀(i:Nat) (L:List (Gm×Rc)),(ch w L i).map (λp=>szG p.2.1)=L.map λp=>szG p.1:=by
  intro i L;induction L generalizing i with
  |nil=>rfl
  |cons x L ih=>
   show szG x.1::((ch w L<|i+1).map λp=>szG p.2.1)=_;rw[ih];rfl
 unfold szT;rw[e,YZ,Aw,← Iu (rbg g r),kg];rfl
theorem Qi:∀st:List Tr,st.length<=szT st
 |[]=>d5 _
 |p::st=>by
  have:=Qi st
  have:=uG p.2.1
  show st.length+1<=szG p.2.1+szT st
  lia
theorem PQ (a b:List Tr):szT (a++b)=szT a+szT b:=by unfold szT;rw[cK,List.sum_append]
def wt (p:Tr):Prop:=jn p.2.1/\sdG p.2.1/\p.1.length+dp p.2.1<=100/\p.2.2.1.length+dp p.2.1<=100/\p.2.2.2.length+dp p.2.1<=100
theorem Dt:∀{ws:Ws} {k:Gm},sdW ws->k∈jy ws->sdG k
 | .cons l g r,k,h,hk=>by
  rcases a9.mp hk with e|e
  ·rw[e];exact h.1
  ·exact Dt h.2 e
theorem abB (h:sdG g)(hk:k∈kids g):sdG k:=by
 cases g with
 |fin d=>cases hk
 |deal n ws=>exact Dt h hk
 |move s n ws=>exact Dt h.2 hk
theorem Qw (f:D->Rc):∀{ws:Ws} {p:Gm×Rc},p∈ptW f ws->∃l,p.2=f l
 | .cons l g r,p,h=>by
  rcases a9.mp h with e|e
  ·exact⟨l,by rw[e]⟩
  ·exact Qw f e
theorem Zu (g:Gm)(r:Rc)(l:D):(rbg g r l).1.length<=r.1.length+1/\(rbg g r l).2.length<=r.2.length+1:=by
 cases g with
 |fin d=>exact⟨by simp[rbg],by simp[rbg]⟩
 |deal n ws=>exact⟨by simp[rbg],by simp[rbg]⟩
 |move s n ws=>by_cases a:s=1<;>simp[rbg,rbm,a]
theorem afV (h:wt (w,g,r)):∀p∈ch w (ptG g r) 0,wt p:=λp k=>by
 unfold ch at k;obtain⟨q,n,rfl⟩:=dr.mp k;have j:q.1∈ptG g r:=by have:=oq (f:=xw) n;rwa [oo] at this
 have i:q.1.1∈kids g:=by
  rw[Aw,← Iu (rbg g r)];exact oq j
 obtain⟨l,m⟩:=Qw _ j;have hd:=Px i;refine GQ h λa b c d e=>?_;have s:=Zu g r l;simp only at a b c d e;refine⟨(Ga a i).1,abB b i,?_,?_,?_⟩
 ·show(w++[_]).length+dp q.1.1<=100;rw[be,dP]
  lia
 ·show q.1.2.1.length+dp q.1.1<=100;rw[m]
  lia
 ·show q.1.2.2.length+dp q.1.1<=100;rw[m]
  lia
theorem abG (a:Sl):∀(N:Nat) (done st:List Tr) (s3 s4 s5 s6 s7 s8 s9 s10:Sl),szT st=N->(∀p∈st,wt p)->done.length+szT st<=50000->
  ∃k m',wh jD gm k [a,.ow<|.lst<|done.map trD,.ow<|.lst<|(st.map trD).reverse,s3,s4,s5,s6,s7,s8,s9,s10]=some (.ok (.nx,a::.ow (.lst<|(done++st.flatMap λp=>prG p.1 p.2.2 p.2.1).map trD)::m')):=by
 intro N;induction N using sL with
 |_ N ih=>
  intro done st s3 s4 s5 s6 s7 s8 s9 s10 H j G;cases st with
  |nil=>
   refine⟨1,[.ow<|.lst [],s3,s4,s5,s6,s7,s8,s9,s10],?_⟩;simp only[tq,List.reverse_nil,rh,dc];exact Ba<|by simp[jD,aK,aP,cP,aa,aB,aj,fC,gGt]
  |cons p st=>
   obtain⟨w,g,r⟩:=p;have D:wt (w,g,r):=j _ (by simp);have L:=aea w g r;have h:szT ((w,g,r)::st)=szG g+szT st:=rfl;have K:=Qi st;have M:=uG g;refine GQ D λc b i l f=>?_;simp only at c b i l f;obtain⟨m,E,A,q,z,x,u,d,B⟩:=aan (g0:=a) (s3:=s3) (s4:=s4) (s5:=s5) (s6:=s6) (s7:=s7) (s8:=s8) (s9:=s9) (s10:=s10) (F0:=done.map trD) (S:=(st.map trD).reverse) (w:=w) (g:=g) (r:=r) c (λs n F e=>by rw[e] at b;exact b.1) ⟨by lia,by lia⟩ (by lia) (by simp;lia) (by simp;lia);obtain⟨k,m',e⟩:=ih (szT<|ch w (ptG g r) 0++st) (by rw[PQ];lia) (done++[(w,g,r)]) (ch w (ptG g r) 0++st) m E A q z x u d rfl (λp t=>by
    rcases cE.mp t with v|v
    ·exact afV ⟨c,b,i,l,f⟩ p v
    ·exact j p<|by simp[v]) (by rw[PQ,be];simp;lia)
   refine⟨k+1,m',?_⟩;have y:done++((w,g,r)::st).flatMap (λp=>prG p.1 p.2.2 p.2.1)=done++[(w,g,r)]++(ch w (ptG g r) 0++st).flatMap λp=>prG p.1 p.2.2 p.2.1:=by
    rw[p9,AO,acs]
    simp
   rw[y];refine Al ?_ ?_ e
   ·simp[jD,aK,aP,cP,aa,aB,aj,fC,gGt]
   ·rw[ay,kT,B,cK,cK,sF];rfl
theorem KD (e:L [.fz d,.ow<|.lst [],.ow<|.lst [.tup [.tup [],d,.tup [.tup [],.tup []]]],.un,.un,.un,.un,.un,.un,.un,.un]=.ok (.nx,.fz d::.ow (.lst ps)::m')):aV 11 1 (mz L) [d]=.ok (true,.lst ps):=by
 simp[aV,mz,aH,eV,dW,aa,aB,bu,aG,e,jg]
theorem Ox (h:jn g)(o:sdG g)(hd:dp g<=50)(hz:szG g<=10000):lZ [dG g]=.ok (true,.lst<|(prG [] ([],[]) g).map trD):=by
 obtain⟨k,c,e⟩:=abG (.fz<|dG g) _ [] [([],g,([],[]))] .un .un .un .un .un .un .un .un rfl (λp b=>by rw[cm.mp b];exact⟨h,o,by simp;lia,by simp;lia,by simp;lia⟩) (by show 0+(szG g+0)<=_;lia);have a:=uL k e;simp only[oI,p9,rh,dc] at a;exact KD a
noncomputable def tru (ks:List (List Kt)):List D:=ks.map λ_=>.bl true
theorem Py:∀{ks:List (List Kt)} {ds:List D},ks.length=ds.length->(dH ks (tru ks) k).isSome=(dH ks ds k).isSome
 |[],[],_=>rfl
 |[],_::_,h=>by simp at h
 |_::_,[],h=>by simp at h
 |a::ks,d::ds,h=>by
  show(dH (a::ks) (.bl true::tru ks) k).isSome=_;unfold dH;split
  ·rfl
  ·exact Py<|by simpa using h
theorem aaJ (h:(dH ks (tru ks) k).isSome=false):jH ks (tru ks) k (.bl true)=(ks++[k],tru<|ks++[k]):=by
 have b:k∉ks:=λc=>by
  have:∀{ks:List (List Kt)},k∈ks->(dH ks (tru ks) k).isSome=true:=by
   intro ks;induction ks with
   |nil=>intro h;cases h
   |cons a ks ih=>
    intro h;show(dH (a::ks) (.bl true::tru ks) k).isSome=true;unfold dH;split
    ·rfl
    ·rename_i q;rcases a9.mp h with e|e
     ·exact absurd e.symm q
     ·exact ih e
  rw[this c] at h;cases h
 unfold jH;rw[if_neg λz=>b<|JF.mp z];simp[tru]
theorem Zw (C:okP p)(o:T.1.length=T.2.length)(hz:T.1.length<=100000):∃m1 I,lC 3 (cz (hName 3)<|cz (hName 4)<|cz (hName 5) lD) (trD p) [g0,.ow<|.lst T.2,.ow<|.dcu T.1<|tru T.1,s3,s4,s5,s6]=some m1/\
  d8 m1=.ok (.nx,[g0,.ow<|.lst (tst T p).2,.ow<|.dcu (tst T p).1<|tru (tst T p).1,.fz<|.tup<|p.1.map D.int,.fz<|dG p.2.1,.fz<|rD2 p.2.2,I])/\(tst T p).1.length=(tst T p).2.length:=by
 obtain⟨w,g,r⟩:=p;have h:∀a b:D,atI [a,b] 0=some a:=λ_ _=>rfl;have m:∀a b:D,atI [a,b] 1=some b:=λ_ _=>rfl;have z:∀a b c:D,atI [a,b,c] 0=some a:=λ_ _ _=>rfl;have e:∀a b c d:D,atI [a,b,c,d] 0=some a:=λ_ _ _ _=>rfl;have i:∀a b c d:D,atI [a,b,c,d] 1=some b:=λ_ _ _ _=>rfl;have j:∀a b c d:D,atI [a,b,c,d] 2=some c:=λ_ _ _ _=>rfl;have u:∀a b c d:D,atI [a,b,c,d] 3=some d:=λ_ _ _ _=>rfl;cases g with
 |fin d=>exact⟨_,s6,rfl,by simp[d8,gIf,sJ,aK,az,aj,fC,gIx,dG,h,gNx,tst],by simpa[tst] using o⟩
 |deal n ws=>exact⟨_,s6,rfl,by simp[d8,gIf,sJ,aK,az,aj,fC,gIx,dG,z,gNx,tst],by simpa[tst] using o⟩
 |move s n ws=>
  have C:(s=1\/s=2)/\lB ws<=100:=C;have v:xf (.tup [.int s,.str n])=some (kn s n):=rfl;have B:T.1.length<16777216:=by lia
  have A:T.2.length<16777216:=by lia
  have f:(gF ws).length<=16777216:=by rw[uy];lia
  have x:(dWs ws).length<=16777216:=by rw[rn];lia
  have l:=Py (k:=kn s n) o;have y:∀a b c,oV [g0,a,b,c,.fz<|dG<|.move s n ws,.fz<|rD2 r,s6]=.ok (.lst<|gF ws):=λa b c=>by
   simp[oV,d7,sU,az,aj,fC,gIx,dG,u,cMe,yr,f,x]
  simp only[dG,rD2] at y;by_cases q:(dH T.1 T.2<|kn s n).isSome=true
  ·rw[q] at l;refine⟨_,s6,rfl,?_,by simp[tst,q,o]⟩;simp[d8,gIf,sJ,aK,az,aj,fC,gIx,dG,e,i,j,gNx,tst,q,zV,Tq,dcK,bu,aa,aB,v,l]
  ·have t:(dH T.1 T.2<|kn s n).isSome=false:=by simpa using q
   rw[t] at l;have pt:=aaJ l;refine⟨_,.fz<|.tup<|gF ws,rfl,?_,by simp[tst,t,o]⟩;rcases C.1 with rfl|rfl
   ·simp[d8,gIf,sJ,aK,az,aj,fC,gIx,dG,e,i,j,aH,GR,Jh,uq,tst,t,zV,Tq,dcK,bu,aa,aB,v,l,B,pt,bC,aP,eU,y,f,dh,jY,putL,A,aG,rD2,F.dZ,h,m,jb,CG]
   ·simp[d8,gIf,sJ,aK,az,aj,fC,gIx,dG,e,i,j,aH,GR,Jh,uq,tst,t,zV,Tq,dcK,bu,aa,aB,v,l,B,pt,bC,aP,eU,y,f,dh,jY,putL,A,aG,rD2,F.dZ,h,m,jb,CG]
theorem Qc:∀(l:List Tr) (T:Tb) (s3 s4 s5 s6:Sl),(∀p∈l,okP p)->T.1.length=T.2.length->T.1.length+l.length<=100000->∃m',bI (lC 3<|cz (hName 3)<|cz (hName 4)<|cz (hName 5) lD) d8 (l.map trD) [g0,.ow<|.lst T.2,.ow<|.dcu T.1<|tru T.1,s3,s4,s5,s6]=.ok (.nx,g0::.ow (.lst (l.foldl tst T).2)::m')
 |[],T,s3,s4,s5,s6,_,_,_=>⟨_,rfl⟩
 |p::l,T,s3,s4,s5,s6,hp,hl,hz=>by
  have g:T.1.length+(l.length+1)<=100000:=hz;refine CT (Zw (g0:=g0) (s3:=s3) (s4:=s4) (s5:=s5) (s6:=s6) (T:=T) (hp p av) hl<|by lia) λh a b c f=>?_
  have:=Ro T p
  obtain⟨m',e⟩:=Qc l (tst T p) (.fz<|.tup<|p.1.map D.int) (.fz<|dG p.2.1) (.fz<|rD2 p.2.2) a (λq d=>hp q<|ah _ d) f (by lia);exact⟨m',by rw[ay,dI b c,e];rfl⟩
theorem Tw (h:jn g)(o:sdG g)(hd:dp g<=50)(hz:szG g<=10000):lg [dG g]=.ok (true,.lst (tbl<|prG [] ([],[]) g).2):=by
 have e:=Ox h o hd hz;obtain⟨b,c⟩:=Qc (prG [] ([],[]) g) ([],[]) .un .un .un .un (Kl _ _ g h o) rfl (by rw[Hr];simp;lia);have d:oE [.fz<|dG g,.ow<|.lst [],.ow<|.dcu [] [],.un,.un,.un,.un]=.ok (.nx,.fz (dG g)::.ow (.lst (tbl<|prG [] ([],[]) g).2)::b):=by
  have a:jf (fFn lZ<|aa (aG 0) aB) [.fz<|dG g,.ow<|.lst [],.ow<|.dcu [] [],.un,.un,.un,.un]=.ok ((prG [] ([],[]) g).map trD):=by
   simp[jf,fFn,aa,aB,aG,e]
  unfold oE ir;rw[a];exact c
 simp[lg,rQ,rZ,aV,aH,eV,dW,aB,GP,d,jg]
def prd (d:D):Prop:=∃a b:Str,d=.tup [.str a,.str b]
theorem aaz (x y:Sl):∀(n:Nat) (a b:Int),b.toNat=n->0<=a->0<=b->∃k,wh mV m7 k [x,y,.fz<|.int a,.fz<|.int b] =
  some (.ok (.nx,[x,y,.fz<|.int<|gI a b,.fz<|.int 0])):=by
 intro n;induction n using sL with
 |_ n ih=>
  intro a b i g h;by_cases d:b=0
  ·subst d;refine⟨1,?_⟩;rw[Qq g];exact Ba rfl
  ·have c:0<b:=by lia
   have j:=fR a c;have f:=fq a d;obtain⟨k,e⟩:=ih (a%b).toNat (by lia) b (a%b) rfl h f;rw[Qv g c] at e;refine⟨k+1,Al ?_ ?_ e⟩
   ·simp[mV,aK,aj,fC,d]
   ·simp[m7,ado,aa,aB,az,aj,aG,bc,mdI,d,c]
theorem v8 (C:0<b)(o:Bq b):bT [.int t,.int b]=.ok (false,rD<|a8 t b):=by
 obtain⟨k,e⟩:=aaz (.fz<|.int t) (.fz<|.int b) _ (if t<0 then -t else t) b rfl (by split<;>lia) (by lia);have l:(if b<0 then -b else b)=b:=if_neg (by lia);have h:=VR t b;rw[l] at h;rw[h] at e;have m:=uL k e;have g:=HW (a:=t) (show b≠0 by lia);have c:dv t b=gI t b:=if_neg (by lia);have d:Bq (gI t b):=by
  have q:=abP (a:=t) (show b≠0 by lia);unfold Bq at o ⊢
  lia
 have p:dvI t (gI t b)=lt t b:=by
  unfold dvI lt;rw[if_pos g,c,iN t<|by lia]
 have n:dvI b (gI t b)=lb t b:=by
  unfold dvI lb;rw[if_pos g,c,iN b<|by lia]
 have j:=CV (t:=t) (show b≠0 by lia);have i:rD (a8 t b)=.tup [.int<|lt t b,.int<|lb t b]:=by
  show qD (rq<|a8 t b)=_;rw[← j];rfl
 have f:gI t b≠0:=by lia
 rw[i];simp[bT,qy,qu,aV,sy,aH,bC,aP,Ub,aa,aB,aj,aG,m,aY,Me.let,Sl.let,bu,az,dq,f,d,p,n]
theorem yR (I:0<b)(o:t.natAbs<=999999999999)(C:b<=999):smQ (rq<|a8 t b):=by
 have e:=CV (t:=t) (show b≠0 by lia);have c:lt t b=(a8 t b).num:=congrArg xw e;have d:lb t b=((a8 t b).den:Int):=congrArg B9 e;have f:=ab7 (t:=t) (show b≠0 by lia);have a:=abZ (t:=t) (show b≠0 by lia);rw[c] at f;rw[d] at a;exact⟨by show(a8 t b).num.natAbs<=_;lia,by show((a8 t b).den:Int)<=_;lia⟩
theorem bgS (h:i.natAbs<=10000000000000):Bq i:=by
 refine afA (k:=50) ?_
 have:(2:Nat)^50=1125899906842624:=by decide
 lia
def sm (x:Int):Prop:=0<=x/\x<2147483647
theorem Ea (h:0<=x/\x<=9000000000):∃q:Rat,cQ [.int x]=.ok (false,rD q)/\smQ (rq q):=by
 obtain⟨j,i⟩:=h;have d:Bq x:=bgS (by lia);have g:Bq 48271:=bgS (by decide);have c:Bq 8:=bgS (by decide);have f:Bq 104:=bgS (by decide);by_cases q:x%8=3
 ·have b:0<1+x/8%999:=by lia
  have a:1+x/8%999<=999:=by lia
  have e:=v8 (t:=x*48271%1999999999999-999999999999) b<|bgS (by lia);refine⟨_,?_,yR b (t:=x*48271%1999999999999-999999999999) (by lia) a⟩;simp[cQ,nM,nU,aV,aH,gIf,aK,az,aj,fC,bc,mdI,q,aY,Me.let,Sl.let,fFn,aa,aB,eX,d,g,F.dZ,bR,dq,dvI,c,e]
 ·have b:0<1+x/104%3:=by lia
  have a:1+x/104%3<=999:=by lia
  have e:=v8 (t:=x/8%13-6) b<|bgS (by lia);refine⟨_,?_,yR b (t:=x/8%13-6) (by lia) a⟩;simp[cQ,nM,nU,aV,aH,gIf,aK,az,aj,fC,bc,mdI,q,gNx,aY,Me.let,Sl.let,fFn,aa,aB,F.dZ,bR,dq,dvI,c,f,e]
theorem Es (c k:Int)(hk:0<=k/\k<=1000):∃x,cV [.int c,.int k]=.ok (false,.int x)/\sm x:=by
 have a:Bq (c%2147483647+1):=bgS (by lia);have e:Bq (48271+7*k):=bgS (by lia);have d:Bq 7:=bgS (by decide);have b:Bq k:=bgS (by lia);refine⟨(c%2147483647+1)*(48271+7*k)%2147483647,?_,by constructor<;>lia⟩;simp[cV,vW,vG,aV,aY,Me.let,Sl.let,az,aj,fC,bc,mdI,eX,bR,a,e,d,b]
noncomputable def pt (x:Int):Int:=1+x%4+x/4%8/7*(x/32%200)
theorem afx (x:Int):1<=pt x/\pt x<=203:=by
 unfold pt;have a:x/4%8/7=0\/x/4%8/7=1:=by lia
 rcases a with h|h<;>rw[h]<;>lia
theorem ZV (h:sm x)(o:P.length<=100):gn [.fz<|.int x,s1,.ow<|.lst P,s3]=.ok (.nx,[.fz<|.int<|x*48271%2147483647,s1,.ow<|.lst<|P++[.int<|pt x],s3]):=by
 obtain⟨k,j⟩:=h;have b:Bq x:=bgS (by lia);have i:Bq 48271:=bgS (by decide);have e:Bq 4:=bgS (by decide);have c:Bq 7:=bgS (by decide);have f:Bq 32:=bgS (by decide);have d:Bq (x/4%8/7):=bgS (by lia);have a:Bq (x/32%200):=bgS (by lia);have g:P.length<16777216:=by lia
 simp[gn,aH,dh,jY,putL,az,aj,fC,bR,bc,mdI,eX,dq,dvI,b,i,e,c,f,d,a,g,bC,pt]
theorem QB:∀(c i:Nat) (x:Int) (P:List Int) (s3:Sl),sm x->P.length+c<=100->(∀p∈P,1<=p/\p<=203)->∃(C o:Sl) (Q:List Int),bI (hName 3) gn ((lI i c).map λ(k:Nat)=>D.int k) [.fz<|.int x,s1,.ow<|.lst<|P.map D.int,s3]=.ok (.nx,[C,s1,.ow<|.lst<|Q.map D.int,o])/\Q.length=P.length+c/\∀p∈Q,1<=p/\p<=203
 |0,i,x,P,s3,_,_,hp=>⟨_,s3,P,rfl,rfl,hp⟩
 |c+1,i,x,P,s3,hx,hz,hp=>by
  have b:=ZV (s1:=s1) (s3:=.fz<|.int (i:Int)) (P:=P.map D.int) hx (by simp;lia);obtain⟨C,d,Q,e,l,h⟩:=QB (s1:=s1) c (i+1) (x*48271%2147483647) (P++[pt x]) (.fz<|.int (i:Int)) (by constructor<;>lia) (by simp;lia) λp a=>by
   rcases cE.mp a with e|e
   ·exact hp p e
   ·rw[cm.mp e];exact afx x
  refine⟨C,d,Q,?_,by rw[l];simp;lia,h⟩;rw[js,ay,dI (m1:=[.fz<|.int x,s1,.ow<|.lst<|P.map D.int,.fz<|.int (i:Int)]) rfl b];rw[cK] at e;exact e
theorem HB (S:Int):∀Q:List Int,(Q.map λp=>a8 p S).sum=a8 Q.sum S
 |[]=>by simp
 |p::Q=>by
  rw[ay,lP,lP,HB S Q,w8,w8,w8,B1,B1,B1,← Rat.add_mul,Rat.intCast_add]
theorem div_self (h:0<S):a8 S S=1:=by
 rw[Rat.divInt_self'<|by lia]
theorem div_pos (o:0<p)(h:0<S):0<(a8 p S).num:=by
 have hd:0<((a8 p S).den:Int):=by have:=oA<|a8 p S;lia
 have b:=(oC (by lia)<|by lia).mp<|l8<|a8 p S;have a:=B2 o hd;rw[← b] at a;exact Int.pos_of_mul_pos_left a h
theorem Xu:∀Q:List Int,(∀p∈Q,1<=p/\p<=203)->(Q.length:Int)<=Q.sum/\Q.sum<=203*Q.length
 |[],_=>by simp
 |p::Q,h=>by
  have:=Xu Q λx a=>h x<|ah _ a
  have:=h p av
  simp only[lP,cy]
  lia
theorem J2:∀Q:List Int,MT (Q.map D.int)=some Q
 |[]=>rfl
 |p::Q=>by simp[MT,J2 Q]
theorem Bk (Q:List Int):Ka [.lst<|Q.map D.int]=some (.int Q.sum):=by
 show(MT _).map _=_;rw[J2];rfl
theorem acq {Q:List Int}(o:0<Q.sum)(C:Q.sum<=609)(I:Q.length<=1000):mZ [u,.fz<|.int c,.fz<|.lst<|Q.map D.int,v]=.ok (.lst<|Q.map λp=>rD<|a8 p Q.sum):=by
 have d:Bq Q.sum:=bgS (by lia);have a:fK (hName 0) jV m9 [.un,.fz<|.lst<|Q.map D.int] (Q.map D.int)=.ok (Q.map λp=>rD<|a8 p Q.sum):=iW Q λp f=>by
  refine⟨[.fz<|.int p,.fz<|.lst<|Q.map D.int],rfl,rfl,?_⟩;have e:=v8 (t:=p) o d;simp[m9,fFn,aa,aB,aG,aP,aj,Bk Q,e]
 have b:Q.length<=16777216:=by lia
 simp[mZ,d7,jf,aj,cMe,Sl.bor,a,b]
theorem acr {Q:List Int}(o:c<=3)(e:bI (hName 3) gn ((lI 0 c).map λ(k:Nat)=>D.int k) [.fz<|.int x,.fz<|.int (c:Int),.ow<|.lst [],.un]=.ok (.nx,[x',.fz<|.int (c:Int),.ow<|.lst<|Q.map D.int,s'])):
  jA [.fz<|.int x,.fz<|.int (c:Int),.ow<|.lst [],.un]=.ok (.nx,[x',.fz<|.int (c:Int),.ow<|.lst<|Q.map D.int,s']):=by
 have a:(aa (aj 1) aB) [.fz<|.int x,.fz<|.int (c:Int),.ow<|.lst [],.un]=.ok [.int (c:Int)]:=by simp[aa,aj,aB]
 have b:=Nq a (by lia) (by lia);unfold jA ir;rw[b];show bI (hName 3) gn ((cq c).map λ(k:Nat)=>D.int k) _=_;rw[gT];exact e
theorem Om (C:L [.fz x,.fz c,.ow<|.lst [],.un]=.ok (.nx,[x',.fz c,.ow l,s']))(o:∀u v:Sl,QQ [u,.fz c,.fz l,v]=.ok r):aV 4 2 (lY L QQ) [x,c]=.ok (true,r):=by
 simp[aV,lY,aH,eV,dW,aB,C,pQ,Me.let,Sl.let,o]
theorem adU {Q:List Int}(C:0<Q.sum)(o:Q.sum<=609)(I:Q.length<=1000)(J:jA [.fz<|.int x,.fz<|.int (c:Int),.ow<|.lst [],.un]=.ok (.nx,[x',.fz<|.int (c:Int),.ow<|.lst<|Q.map D.int,s'])):
  my [.int x,.int (c:Int)]=.ok (true,.lst<|Q.map λp=>rD<|a8 p Q.sum):=
 Om J λu v=>acq C o I
theorem Oc {x:Int}{c:Nat}(h:sm x)(o:1<=c/\c<=3):∃l:List Rat,my [.int x,.int (c:Int)]=.ok (true,.lst<|l.map rD)/\(∀q∈l,Sz 20 q/\smQ (rq q)/\0<q.num)/\l.length=c/\l.sum=1:=by
 obtain⟨n,m,Q,e,d,g⟩:=QB c 0 x [] .un h (by simp;lia) (λ_ z=>by cases z);have d:Q.length=c:=by simpa using d
 have r:=Xu Q g;have b:0<Q.sum:=by lia
 have f:Q.sum<=609:=by lia
 refine⟨Q.map λp=>a8 p Q.sum,?_,λq j=>?_,by simp[d],by rw[HB,div_self b]⟩
 ·rw[kg];exact adU b f (by lia)<|acr o.2 e
 ·obtain⟨p,i,rfl⟩:=dr.mp j;have k:=g p i;have a:(1000:Nat)<2^20:=by decide
  exact⟨De (by lia) (pe (show p.natAbs<=1000 by lia) a) (pe (show Q.sum.natAbs<=1000 by lia) a),yR b (by lia) (by lia),div_pos (by lia) b⟩
structure En where
 cells:List Int
 pool:List Str
 turn:Int
 lev:Bool
noncomputable def sk (x:String):Key:=.inr<|eB x
def Ue:List Key:=[sk "at",sk "room",sk "names",sk "many",sk "pool",sk "turn",sk "level"]
def stD (e:En)(A:Addr×Addr)(C o:Int):D:=.dct Ue [.int C,.int o,.adr A.1,.adr A.2,.lst<|e.pool.map D.str,.int e.turn,.bl e.lev]
theorem ahj (e:En)(A:Addr×Addr)(a r:Int):dD (stD e A a r) (.str "at")=some (.int a):=by rfl
theorem Hv (e:En)(A:Addr×Addr)(a r:Int):dD (stD e A a r) (.str "room")=some (.int r):=by rfl
theorem K6 (e:En)(A:Addr×Addr)(a r:Int):dD (stD e A a r) (.str "names")=some (.adr A.1):=by rfl
theorem O6 (e:En)(A:Addr×Addr)(a r:Int):dD (stD e A a r) (.str "many")=some (.adr A.2):=by rfl
theorem Pq (e:En)(A:Addr×Addr)(a r:Int):dD (stD e A a r) (.str "pool")=some (.lst<|e.pool.map D.str):=by rfl
theorem Pa (e:En)(A:Addr×Addr)(a r:Int):dD (stD e A a r) (.str "turn")=some (.int e.turn):=by rfl
theorem Vu (e:En)(A:Addr×Addr)(a r:Int):dD (stD e A a r) (.str "level")=some (.bl e.lev):=by rfl
theorem agl (h:m[i]? = some (.io<|stD e A a r))(hk:fk m=.ok (.str "at"))(o:fv m=.ok (.int a')):iJ i fk fv m=.ok (.nx,m.set i<|.io<|stD e A a' r):=by
 have b:qg m i=some (false,Ue,[.int a,.int r,.adr A.1,.adr A.2,.lst<|e.pool.map D.str,.int e.turn,.bl e.lev]):=by
  unfold qg;rw[h];rfl
 unfold iJ;rw[o,b];simp[hk,jW,nu,putD,Ue,sk,Dn,stD]
theorem LK (h:m[i]? = some (.io<|stD e A a r))(hk:fk m=.ok (.str "room"))(o:fv m=.ok (.int r')):iJ i fk fv m=.ok (.nx,m.set i<|.io<|stD e A a r'):=by
 have b:qg m i=some (false,Ue,[.int a,.int r,.adr A.1,.adr A.2,.lst<|e.pool.map D.str,.int e.turn,.bl e.lev]):=by
  unfold qg;rw[h];rfl
 unfold iJ;rw[o,b];simp[hk,jW,nu,putD,Ue,sk,Dn,stD]
noncomputable def kp:D->Kt
 | .tup [.str a,.str b]=>.t [.k<|.inr a,.k<|.inr b]
 |_=>.t []
def kN (s:Int)(rc:List D)(c b:Int):List Kt:=[.k<|.inl s,.t<|rc.map kp,.k<|.inl c,.k<|.inl b]
abbrev Pr (rc:List D):Prop:=∀d∈rc,prd d
theorem ab5:∀{rc:List D},Pr rc->nQ (ktD<|n+1) rc=some (rc.map kp)
 |[],_=>rfl
 |d::rc,h=>by
  obtain⟨a,b,rfl⟩:=h d av;have f:=ab5 (n:=n) λx g=>h x<|ah _ g;have e:ktD (n+1) (.tup [.str a,.str b])=some (.t [.k<|.inr a,.k<|.inr b]):=by
   cases n<;>rfl
  show((ktD (n+1)<|.tup [.str a,.str b]).bind λk=>(nQ (ktD<|n+1) rc).map λc=>k::c)=_;rw[e,f];rfl
theorem afQ (h:Pr rc):xf (.tup [.int s,.tup rc,.int c,.int b])=some (kN s rc c b):=by
 have e:ktD 7 (.tup rc)=some (.t<|rc.map kp):=by
  show(nQ (ktD 6) rc).map Kt.t=_;rw[ab5 h];rfl
 show((ktD 7<|.int s).bind λk=>((ktD 7<|.tup rc).bind λk=>((ktD 7<|.int c).bind λk=>((ktD 7<|.int b).bind λk=>(some []).map λa=>k::a).map λa=>k::a).map λa=>k::a).map λa=>k::a)=_;rw[e];rfl
theorem Y6:∀{r r':List D},Pr r->Pr r'->r.map kp=r'.map kp->r=r'
 |[],[],_,_,_=>rfl
 |[],_::_,_,_,h=>by cases h
 |_::_,[],_,_,h=>by cases h
 |d::r,d'::r',h1,h2,h=>by
  obtain⟨a,b,rfl⟩:=h1 d av;obtain⟨k,j,rfl⟩:=h2 d' av;injection h with f i
  injection f with f
  injection f with e c
  injection e with e
  injection e with e
  injection c with c _
  injection c with c
  injection c with c
  rw[e,c,Y6 (λx g=>h1 x<|ah _ g) (λx g=>h2 x<|ah _ g) i]
theorem Js (o:Pr r)(C:Pr r')(h:kN s r c b=kN s' r' c' b'):s=s'/\r=r'/\c=c'/\b=b':=by
 unfold kN at h;injection h with a h
 injection h with f h
 injection h with e h
 injection h with d _
 injection a with a
 injection a with a
 injection f with f
 injection e with e
 injection e with e
 injection d with d
 injection d with d
 exact⟨a,Y6 o C f,e,d⟩
abbrev Nd:=List (List Kt)×List D
noncomputable def mOf (m:Int×Int)(s:Int):Int:=if s=1 then m.1 else m.2
structure qm (N:Nd)(m:Int×Int):Prop where
 len:N.1.length=N.2.length
 sz:N.1.length<=1000
 nn:0<=m.1/\0<=m.2
 num:∀s rc c b d,(s=1\/s=2)->Pr rc->dH N.1 N.2 (kN s rc c b)=some d->∃n:Int,d=.int n/\0<=n/\n<mOf m s
 inj:∀s rc c b rc' c' b' d,(s=1\/s=2)->Pr rc->Pr rc'->dH N.1 N.2 (kN s rc c b)=some d->dH N.1 N.2 (kN s rc' c' b')=some d->rc=rc'/\c=c'
def Sub (N o:Nd):Prop:=∀k d,dH N.1 N.2 k=some d->dH o.1 o.2 k=some d
noncomputable def upM (m:Int×Int)(s:Int):Int×Int:=if s=1 then(m.1+1,m.2) else(m.1,m.2+1)
theorem aej (I:qm N m)(J:s=1\/s=2)(o:Pr rc)(hz:N.1.length<1000)(C:dH N.1 N.2 (kN s rc c b)=none):
  qm (jH N.1 N.2 (kN s rc c b)<|.int<|mOf m s) (upM m s)/\Sub N (jH N.1 N.2 (kN s rc c b)<|.int<|mOf m s):=by
 have x:=λk'=>xV (ks:=N.1) (ds:=N.2) (k:=kN s rc c b) (k':=k') (d:=.int<|mOf m s) I.len;obtain⟨G,M⟩:=Jm (ks:=N.1) (ds:=N.2) (k:=kN s rc c b) (d:=.int<|mOf m s) I.len;have L:=I.nn;have H:0<=mOf m s:=by unfold mOf;split<;>lia
 have B:∀t,mOf m t<=mOf (upM m s) t:=λt=>by
  unfold mOf upM;by_cases q:s=1<;>by_cases a:t=1<;>simp[q,a]<;>lia
 have D:mOf m s<mOf (upM m s) s:=by
  unfold mOf upM;by_cases q:s=1<;>simp[q]<;>lia
 refine⟨⟨G,by lia,?_,?_,?_⟩,?_⟩
 ·unfold upM;split<;>simp<;>lia
 ·intro t r E F d j l h;rw[x] at h;by_cases q:kN s rc c b=kN t r E F
  ·rw[if_pos q] at h;cases h;obtain⟨rfl,_⟩:=Js o l q;exact⟨_,rfl,H,D⟩
  ·rw[if_neg q] at h;obtain⟨n,e,K,i⟩:=I.num t r E F d j l h;exact⟨n,e,K,Int.lt_of_lt_of_le i<|B t⟩
 ·intro t r z A u v w d j i p g f;rw[x] at g f;by_cases y:kN s rc c b=kN t r z A
  ·rw[if_pos y] at g;cases g;obtain⟨rfl,rfl,rfl,rfl⟩:=Js o i y;by_cases a:kN s rc c b=kN s u v w
   ·obtain⟨_,rfl,rfl,_⟩:=Js o p a;exact⟨rfl,rfl⟩
   ·rw[if_neg a] at f;obtain⟨n,e,_,h⟩:=I.num s u v w _ j p f;cases e
    lia
  ·rw[if_neg y] at g;by_cases a:kN s rc c b=kN t u v w
   ·rw[if_pos a] at f;cases f;obtain⟨rfl,rfl,rfl,rfl⟩:=Js o p a;obtain⟨n,e,_,h⟩:=I.num s r z A _ j i g;cases e
    lia
   ·rw[if_neg a] at f;exact I.inj t r z A u v w d j i p g f
 ·intro k d h;rw[x,if_neg λq=>by rw[← q,C] at h;cases h];exact h
theorem UW (I:qm N m)(J:s=1\/s=2)(C:Pr rc)(hz:N.1.length<1000):
  ∃(n:Int) (o:Nd) (m':Int×Int),(∀A:Addr×Addr,dX [.int s,.tup rc,.int c,.int b] (stD e A a r) (A.1,.dcu N.1 N.2) (A.2,.lst [.int m.1,.int m.2])=.ok (.int n,stD e A a r,.dcu o.1 o.2,.lst [.int m'.1,.int m'.2]))/\
   0<=n/\dH o.1 o.2 (kN s rc c b)=some (.int n)/\qm o m'/\Sub N o/\o.1.length<=N.1.length+1:=by
 have j:=afQ (s:=s) (c:=c) (b:=b) C;have w:N.1.length<16777216:=by lia
 have H:∀a b:D,atI [a,b] 0=some a:=λ_ _=>rfl;have E:∀a b:D,atI [a,b] 1=some b:=λ_ _=>rfl;have K:ixN 2 0=some 0:=rfl;have G:ixN 2 1=some 1:=rfl;cases q:dH N.1 N.2 (kN s rc c b) with
 |some d=>
  obtain⟨n,rfl,B,L⟩:=I.num s rc c b d J C q;refine⟨n,N,m,λA=>?_,B,q,I,λ_ _ h=>h,by lia⟩;have f:=K6 e A a r;have i:=O6 e A a r;generalize g:stD e A a r=ST at *;simp[dX,iu,iD,F.runST,lM,aH,bC,bu,aa,aB,aG,gIf,aK,aj,Oe,az,fC,f,i,zV,Tq,zL,dcK,j,q,gNx,aY,Me.let,Sl.let,sI,lA]
 |none=>
  obtain⟨x,v⟩:=aej I J C hz q;have y:=(Jm (ks:=N.1) (ds:=N.2) (k:=kN s rc c b) (d:=.int<|mOf m s) I.len).2;have l:dH (jH N.1 N.2 (kN s rc c b)<|.int<|mOf m s).1 (jH N.1 N.2 (kN s rc c b)<|.int<|mOf m s).2 (kN s rc c b)=some (.int<|mOf m s):=by rw[xV I.len,if_pos rfl]
  have u:0<=mOf m s:=by have:=I.nn;unfold mOf;split<;>lia
  refine⟨mOf m s,jH N.1 N.2 (kN s rc c b)<|.int<|mOf m s,upM m s,λA=>?_,u,l,x,v,y⟩;have f:=K6 e A a r;have i:=O6 e A a r;generalize g:stD e A a r=ST at *;obtain⟨k,t,z,p⟩:∃k,ixN 2 (s-1)=some k/\atI [.int m.1,.int m.2] (s-1)=some (D.int<|mOf m s)/\[D.int m.1,.int m.2].set k (.int<|mOf m s+1)=[.int (upM m s).1,.int (upM m s).2]:=by
   rcases J with rfl|rfl
   ·exact⟨0,rfl,rfl,rfl⟩
   ·exact⟨1,rfl,rfl,rfl⟩
  generalize mOf m s=M at *;generalize upM m s=U at *;simp[dX,iu,iD,F.runST,lM,aH,bC,bu,aa,aB,aG,gIf,aK,aj,Oe,az,fC,f,i,zV,Tq,zL,dcK,j,q,aY,Me.let,Sl.let,sI,lA,DR,yw,yI,gIx,F.dZ,t,z,p,w,bR,l]
noncomputable def nameAt (e:En)(n:Int):Str:=e.pool.getD ((n+e.turn)%8).toNat ⟨#[]⟩
noncomputable def wordAt (e:En)(n k:Int):Str:=e.pool.getD ((3*n+k+e.turn/8)%8).toNat ⟨#[]⟩
structure o9 (e:En):Prop where
 c1:1<=e.cells.length
 c2:e.cells.length<=100
 p8:e.pool.length=8
 t0:0<=e.turn/\e.turn<64
 pok:∀x∈e.pool,h9 x=true
theorem HN (E:o9 e){i:Int}(h:0<=i/\i<8):atI (e.pool.map D.str) i=some (.str<|e.pool.getD i.toNat ⟨#[]⟩):=by
 have a:i.toNat<e.pool.length:=by rw[E.p8];lia
 have b:(e.pool.map D.str)[i.toNat]? = some (.str<|e.pool.getD i.toNat ⟨#[]⟩):=by
  rw[a5,aw a,cS,aw a];rfl
 have:=pO b
 rwa [show((i.toNat:Nat):Int)=i by lia] at this
theorem An (E:o9 e)(i:Nat)(h:i<8):h9 (e.pool.getD i ⟨#[]⟩)=true:=by
 have a:i<e.pool.length:=by rw[E.p8];exact h
 rw[cS,aw a];exact E.pok _<|nS a
def Row (e:En)(N:Nd)(s:Int)(nm:Str)(d:D):Prop:=∃(a:List D) (c:Nat) (b n:Int),Pr a/\rA a=true/\dH N.1 N.2 (kN s a (c:Int) b)=some (.int n)/\0<=n/\n<8/\(1<=c/\c<=3)/\nm=nameAt e n/\d=.tup [.int s,.str nm,.tup<|(cq c).map λ(k:Nat)=>.str<|wordAt e n k,.tup a]
theorem Row.mono (h:Row e N s nm d)(S:Sub N N'):Row e N' s nm d:=by
 obtain⟨j,c,b,n,f,g,i,a⟩:=h;exact⟨j,c,b,n,f,g,S _ _ i,a⟩
def Wo (e:En)(N:Nd)(p:Tr):Prop:=match p.2.1 with
 | .fin d=>smQ d/\∃q:Rat,d=rq q
 | .deal n ws=>aco ws/\n∈e.pool
 | .move s n ws=>Row e N s n<|jb s n ws p.2.2
theorem Wo.mono (h:Wo e N p)(S:Sub N N'):Wo e N' p:=by
 obtain⟨w,g,r⟩:=p;cases g with
 |fin d=>exact h
 |deal n ws=>exact h
 |move s n ws=>exact Row.mono h S
structure Grw (e:En)(N:Nd)(rc:Rc)(g:Gm)(dep:Nat):Prop where
 len:jn g
 sd:sdG g
 dep:dp g<=dep
 pl:∀w,∀p∈prG w rc g,Wo e N p
theorem Grw.mono {e:En}{N o:Nd}{rc:Rc}{g:Gm}{dep:Nat}(h:Grw e N rc g dep)(S:Sub N o):Grw e o rc g dep:=⟨h.len,h.sd,h.dep,λw p a=>(h.pl w p a).mono S⟩
abbrev Bf:=List D->D->Addr×D->Addr×D->Res (D×D×D×D)
def Lq (rc:Rc)(dep:Nat):Prop:=Pr rc.1/\Pr rc.2/\rA rc.1=true/\rA rc.2=true/\rc.1.length+dep<=12/\rc.2.length+dep<=12
noncomputable def cD (e:En):D:=.lst<|e.cells.map D.int
noncomputable def rcD (rc:Rc):D:=.lst [.tup rc.1,.tup rc.2]
noncomputable def nD (N:Nd):D:=.dcu N.1 N.2
noncomputable def mD (m:Int×Int):D:=.lst [.int m.1,.int m.2]
def Gives (e:En)(R:Addr×Addr->Res (D×D×D×D))(a r:Nat)(N:Nd)(rc:Rc)(dep:Nat):Prop:=∃(g:Gm) (c d:Nat) (b:Nd) (f:Int×Int),(∀A,R A=.ok (dG g,stD e A c d,nD b,mD f))/\qm b f/\Sub N b/\b.1.length<=c/\d+szG g=r+1/\c+d=a+r+1/\Grw e b rc g dep
def SpB (e:En)(o:Bf)(dep:Nat):Prop:=∀(a r:Nat) (N:Nd) (m:Int×Int) (b:Rc),qm N m->N.1.length<=a->a+r<=63->Lq b dep->Gives e (λA=>o [cD e,.int (dep:Int),rcD b] (stD e A a r) (A.1,nD N) (A.2,mD m)) a r N b dep
noncomputable def ofL:List (D×Gm)->Ws
 |[]=>.nil
 |p::l=>.cons p.1 p.2<|ofL l
theorem MF:∀l:List (D×Gm),dWs (ofL l)=l.map λp=>.tup [p.1,dG p.2]
 |[]=>rfl
 |p::l=>by show _::dWs (ofL l)=_;rw[MF l];rfl
theorem Il:∀l:List (D×Gm),gF (ofL l)=l.map (·.1)
 |[]=>rfl
 |p::l=>by show _::gF (ofL l)=_;rw[Il l];rfl
def mvM (e:En)(A:Addr×Addr)(a r:Int)(N:Nd)(m:Int×Int)(rc:Rc)(dep draw s c n:Int)(seen:Str)(C:List D)(o s12 s13:Sl):Me:=
 [.fz<|cD e,.io<|stD e A a r,.fz<|.int dep,.fz<|rcD rc,.fz<|.int draw,.fz<|.int s,.fz<|.int c,.fz<|.int n,.fz<|.lst<|e.pool.map D.str,.fz<|.str seen,.ow<|.lst C,o,s12,s13,.hd false A.1<|nD N,.hd false A.2<|mD m]
theorem ac7 (h:Lq rc (dep+1))(o:h9 n=true)(C:h9 x=true):Lq (rbm s n rc<|.str x) dep:=by
 refine pU h λc f g b j i=>?_;have app:∀l:List D,rA l=true->rA (l++[.tup [.str n,.str x]])=true:=by
  intro l;induction l with
  |nil=>intro _;simp[rA,okD,o,C]
  |cons d l ih=>intro h;simp[rA] at h ⊢;exact⟨h.1,ih h.2⟩
 have a:∀l:List D,Pr l->Pr (l++[.tup [.str n,.str x]]):=λl h d hd=>by
  rcases cE.mp hd with e|e
  ·exact h d e
  ·exact⟨n,x,cm.mp e⟩
 unfold rbm;split
 ·exact⟨a _ c,f,app _ g,b,by simp;lia,by simp;lia⟩
 ·exact⟨c,a _ f,g,app _ b,by simp;lia,by simp;lia⟩
theorem abH (E:o9 e){Φ:Bf}{dep:Nat}(hΦ:SpB e Φ dep){a r:Nat}{N:Nd}{m:Int×Int}{rc:Rc}{draw s c n k:Int}{seen:Str}{U:List D}{s12 s13:Sl}(I:qm N m)(hN:N.1.length<=a)(har:a+r<=63)(hr:Lq rc (dep+1))(hs:s=1\/s=2)(hn:0<=n/\n<8)(hk:0<=k/\k<3)(hse:h9 seen=true)(hw:U.length<=100):
  ∃(g:Gm) (J r':Nat) (o:Nd) (m':Int×Int) (t12 t13:Sl),(∀A:Addr×Addr,iV Φ (mvM e A a r N m rc (dep+1:Nat) draw s c n seen U (.fz<|.int k) s12 s13)=.ok (.nx,mvM e A J r' o m' rc (dep+1:Nat) draw s c n seen (U++[.tup [.str<|wordAt e n k,dG g]]) (.fz<|.int k) t12 t13))/\
   qm o m'/\Sub N o/\o.1.length<=J/\r'+szG g=r+1/\J+r'=a+r+1/\Grw e o (rbm s seen rc<|.str<|wordAt e n k) g dep:=by
 have T:=E.t0;have j:h9 (wordAt e n k)=true:=An E _ (by lia);refine Kv (hΦ a r N m _ I hN har<|ac7 (s:=s) hr hse j) λg J r' o m' f M R O Q S P=>?_;refine⟨g,J,r',o,m',.fz<|.str<|wordAt e n k,.fz<|rcD<|rbm s seen rc<|.str<|wordAt e n k,λA=>?_,M,R,O,Q,S,P⟩;have f:Φ [cD e,.int (dep:Int),rcD<|rbm s seen rc<|.str<|wordAt e n k] (stD e A a r) (A.1,nD N) (A.2,mD m)=.ok (dG g,stD e A J r',nD o,mD m'):=f A;have l:=HN E (i:=(3*n+k+e.turn/8)%8) (by lia);have G:Bq 3:=bgS (by decide);have y:Bq n:=bgS (by lia);have H:Bq 8:=bgS (by decide);have z:=Pa e A a r;have u:∀a b:D,atI [a,b] 0=some a:=λ_ _=>rfl;have B:∀a b:D,atI [a,b] 1=some b:=λ_ _=>rfl;have x:ixN 2 0=some 0:=rfl;have t:ixN 2 1=some 1:=rfl;have w:rc.1.length+1<=16777216:=by have:=hr.2.2.2.2.1;lia
 have p:rc.2.length+1<=16777216:=by have:=hr.2.2.2.2.2;lia
 have q:U.length<16777216:=by lia
 have v:((dep+1:Nat):Int)-1=(dep:Int):=by lia
 have L:wordAt e n k=e.pool.getD ((3*n+k+e.turn/8)%8).toNat ⟨#[]⟩:=rfl;rw[← L] at l;simp only[mvM];generalize wordAt e n k=X at *;generalize h:stD e A a r=ST at *;generalize d:stD e A (J:Int) (r':Int)=ST' at *;generalize cD e=C at *;generalize nD N=NN at *;generalize nD o=NN' at *;generalize mD m=MM at *;generalize mD m'=MM' at *;generalize K:((dep+1:Nat):Int)=DP at *;rcases hs with rfl|rfl
 ·simp only[rbm,rcD,if_pos] at f;simp[iV,aH,bC,az,aj,gIx,bc,mdI,bR,eX,fC,z,dq,dvI,G,y,H,h,d,l,eV,aP,qK,aa,aB,rcD,fD,F.dZ,u,B,jY,putL,x,t,bu,aG,w,p,X5,qO,Gk,tK,fX,wA,Ja,yI,v,f,CN,Hk,q,rbm]
 ·simp only[rbm,rcD,show((2:Int)=1)=False by simp,if_false] at f;simp[iV,aH,bC,az,aj,gIx,bc,mdI,bR,eX,fC,z,dq,dvI,G,y,H,h,d,l,eV,aP,qK,aa,aB,rcD,fD,F.dZ,u,B,jY,putL,x,t,bu,aG,w,p,X5,qO,Gk,tK,fX,wA,Ja,yI,v,f,CN,Hk,q,rbm]
noncomputable def szL (L:List (D×Gm)):Nat:=(L.map λp=>szG p.2).sum
def Oj (p:D×Gm):D:=.tup [p.1,dG p.2]
theorem Sub.refl (N:Nd):Sub N N:=λ_ _ h=>h
theorem Sub.trans (h:Sub A B)(k:Sub B C):Sub A C:=λx d z=>k x d<|h x d z
theorem O4 (E:o9 e){Φ:Bf}{dep:Nat}(hΦ:SpB e Φ dep){rc:Rc}{draw s cc n:Int}{seen:Str}(hr:Lq rc (dep+1))(hs:s=1\/s=2)(hn:0<=n/\n<8)(hse:h9 seen=true):
  ∀(c i a r:Nat) (N:Nd) (m:Int×Int) (ν:List D) (o s12 s13:Sl),qm N m->N.1.length<=a->a+r+c<=64->i+c<=3->ν.length+c<=100->
  ∃(L:List (D×Gm)) (a' r':Nat) (J:Nd) (m':Int×Int) (t11 C U:Sl),(∀A:Addr×Addr,bI (hName 11) (iV Φ) ((lI i c).map λ(k:Nat)=>D.int k) (mvM e A a r N m rc (dep+1:Nat) draw s cc n seen ν o s12 s13)=.ok (.nx,mvM e A a' r' J m' rc (dep+1:Nat) draw s cc n seen (ν++L.map Oj) t11 C U))/\
   qm J m'/\Sub N J/\J.1.length<=a'/\r'+szL L=r+c/\a'+r'=a+r+c/\L.map (·.1)=(lI i c).map (λ(k:Nat)=>D.str<|wordAt e n k)/\∀p∈L,Grw e J (rbm s seen rc p.1) p.2 dep
 |0,i,a,r,N,m,ν,o,s12,s13,I,hN,har,hi,hw=>⟨[],a,r,N,m,o,s12,s13,λA=>by simp[bI],I,Sub.refl N,hN,by simp[szL],by lia,rfl,λ_ z=>by cases z⟩
 |c+1,i,a,r,N,m,ν,o,s12,s13,I,hN,har,hi,hw=>by
  obtain⟨g,G,O,u,t,C,U,K,M,F,v,Q,S,x⟩:=(abH E hΦ (a:=a) (r:=r) (draw:=draw) (c:=cc) (s12:=s12) (s13:=s13) (k:=(i:Int)) I hN (by lia) hr hs hn (by lia) hse (by lia:ν.length<=100));obtain⟨L,a',r',J,m',d,f,b,H,w,h,y,R,P,j,B⟩:=O4 E hΦ hr hs hn hse c (i+1) G O u t (ν++[.tup [.str<|wordAt e n i,dG g]]) (.fz<|.int (i:Int)) C U M v (by lia) (by lia) (by simp;lia);refine⟨(.str<|wordAt e n i,g)::L,a',r',J,m',d,f,b,λA=>?_,w,F.trans h,y,?_,by lia,?_,λp l=>?_⟩
  ·rw[js,ay,dI rfl<|K A,H A,fy];rfl
  ·show r'+(szG g+szL L)=r+(c+1)
   lia
  ·rw[js,ay,ay,j]
  ·rcases a9.mp l with q|q
   ·rw[q];exact x.mono h
   ·exact B p q
theorem M9:∀L:List (D×Gm),szW (ofL L)=szL L
 |[]=>rfl
 |p::L=>by show szG p.2+szW (ofL L)=szG p.2+szL L;rw[M9 L]
theorem HD:∀L:List (D×Gm),lB (ofL L)=L.length
 |[]=>rfl
 |p::L=>by show lB (ofL L)+1=_;rw[HD L];rfl
theorem Cv:∀L:List (D×Gm),(∀p∈L,jn p.2)->z7 (ofL L)
 |[],_=>trivial
 |p::L,h=>⟨h p av,Cv L λq a=>h q<|ah _ a⟩
theorem N5:∀L:List (D×Gm),(∀p∈L,sdG p.2)->sdW (ofL L)
 |[],_=>trivial
 |p::L,h=>⟨h p av,N5 L λq a=>h q<|ah _ a⟩
theorem Mz:∀L:List (D×Gm),(∀p∈L,dp p.2<=k)->dpW (ofL L)<=k
 |[],_=>d5 _
 |p::L,h=>Nat.max_le.mpr ⟨h p av,Mz L λq a=>h q<|ah _ a⟩
theorem Ov:∀(L:List (D×Gm)) (i:Nat) (p:Tr),p∈prW w f i (ofL L)->∃q∈L,∃o,p∈prG o (f q.1) q.2
 |[],i,p,h=>by cases h
 |q::L,i,p,h=>by
  rcases cE.mp (h) with z|z
  ·exact⟨q,av,_,z⟩
  ·obtain⟨c,a,b⟩:=Ov L (i+1) p z;exact⟨c,ah _ a,b⟩
theorem Xe (C:s=1\/s=2)(I:L.length<=3)(h:∀p∈L,Grw e N (rbm s nm rc p.1) p.2 dep)(o:Row e N s nm (jb s nm (ofL L) rc)):Grw e N rc (.move s nm<|ofL L) (dep+1) where
 len:=⟨by rw[HD];lia,Cv L λp a=>(h p a).len⟩
 sd:=⟨C,N5 L λp a=>(h p a).sd⟩
 dep:=xE<|Mz L λp a=>(h p a).dep
 pl:=λw p a=>by
  rcases a9.mp (a) with z|z
  ·rw[z];exact o
  ·obtain⟨q,d,b,c⟩:=Ov L 0 p z;exact(h q d).pl b p c
theorem WT (I:L.length<=3)(h:∀p∈L,Grw e N rc p.2 dep)(o:aco (ofL L))(C:nm∈e.pool):Grw e N rc (.deal nm<|ofL L) (dep+1) where
 len:=⟨by rw[HD];lia,Cv L λp a=>(h p a).len⟩
 sd:=N5 L λp a=>(h p a).sd
 dep:=xE<|Mz L λp a=>(h p a).dep
 pl:=λw p a=>by
  rcases a9.mp (a) with z|z
  ·rw[z];exact⟨o,C⟩
  ·obtain⟨q,d,b,c⟩:=Ov L 0 p z;exact(h q d).pl b p c
theorem Rx (h:smQ (rq q)):Grw e N rc (.fin<|rq q) dep where
 len:=trivial
 sd:=trivial
 dep:=d5 _
 pl:=λw p a=>by
  have:p=(w,.fin<|rq q,rc):=by simpa[prG] using a
  rw[this];exact⟨h,q,rfl⟩
theorem gs (h:g m=.ok (.nx,m1)):aH g k m=k m1:=by unfold aH;rw[h]
theorem Rk (h:g m=.ok (.rt f d,m1)):aH g k m=.ok (.rt f d,m1):=by unfold aH;rw[h]
theorem BP (o:ds.length+1=n)(h0:lM p (.io d) (ds.map Sl.fz)++(c9 (N-n-2) Sl.un++[.hd false x.1 x.2,.hd false y.1 y.2])=m0)(U:g m0=.ok (.rt fr r,m'))(J:sI m' p=some d')(C:lA m' (N-2) x.1=some e)(I:lA m' (N-1) y.1=some f):
  F.runST p N n g ds d x y=.ok (r,d',e,f):=by simp_all[if_pos,F.runST]
def mx (e:En)(A:Addr×Addr)(a r:Int)(N:Nd)(m:Int×Int)(rc:Rc)(dep draw:Int)(s5 s6 s7 s8 s9 s10 o s12 s13:Sl):Me:=
 [.fz<|cD e,.io<|stD e A a r,.fz<|.int dep,.fz<|rcD rc,.fz<|.int draw,s5,s6,s7,s8,s9,s10,o,s12,s13,.hd false A.1<|nD N,.hd false A.2<|mD m]
theorem YX {φs:Zac}{φn:Bf}{L:Zab}{e:En}{A:Addr×Addr}{a r:Nat}{N o:Nd}{m m1:Int×Int}{rc:Rc}{DP draw s c b n:Int}(E:o9 e)
  (hs:s=1+draw%2) (hc:c=1+draw/16%3) (hb:b=draw/48%2) (en:φn [.int s,.tup<|CG rc s,.int c,.int b] (stD e A a r) (A.1,nD N) (A.2,mD m)=.ok (.int n,stD e A a r,nD o,mD m1)):
  (8<=n->∀q,φs [.int draw]=.ok (false,q)->F.runST 1 16 5 (jO φs φn L) [cD e,.int DP,rcD rc,.int draw] (stD e A a r) (A.1,nD N) (A.2,mD m)=.ok (.tup [.str "end",q],stD e A a r,nD o,mD m1))/\
  (0<=n->n<8->∀(U r':Nat) (N':Nd) (m':Int×Int) (ws:List D) (I J C:Sl),ws.length<=100->L (mvM e A a ((r:Int)-c) o m1 rc DP draw s c n (nameAt e n) [] .un .un .un)=.ok (.nx,mvM e A U r' N' m' rc DP draw s c n (nameAt e n) ws I J C)->
   F.runST 1 16 5 (jO φs φn L) [cD e,.int DP,rcD rc,.int draw] (stD e A a r) (A.1,nD N) (A.2,mD m)=.ok (.tup [.str "move",.int s,.str<|nameAt e n,.tup ws],stD e A U r',nD N',mD m')):=by
 have g:Bq 16:=bgS (by decide);have h:Bq 48:=bgS (by decide);have G:∀a b:D,atI [a,b] 0=some a:=λ_ _=>rfl;have O:∀a b:D,atI [a,b] 1=some b:=λ_ _=>rfl;have d:s=1\/s=2:=by lia
 have x:gIx (rcD rc) (.int<|s-1)=some (.tup<|CG rc s):=by
  rcases d with q|q
  ·rw[q];exact G _ _
  ·rw[q];exact O _ _
 have u:∀k,aH (bC 5<|az bR (fC<|.int 1)<|az bc (aj 4)<|fC<|.int 2) k (mx e A a r N m rc DP draw .un .un .un .un .un .un .un .un .un)=k (mx e A a r N m rc DP draw (.fz<|.int s) .un .un .un .un .un .un .un .un):=λk=>gs (by
  simp[mx,bC,az,fC,aj,bc,mdI,bR,hs])
 have l:∀k,aH (bC 6<|az bR (fC<|.int 1)<|az bc (az dq (aj 4)<|fC<|.int 16)<|fC<|.int 3) k (mx e A a r N m rc DP draw (.fz<|.int s) .un .un .un .un .un .un .un .un)=k (mx e A a r N m rc DP draw (.fz<|.int s) (.fz<|.int c) .un .un .un .un .un .un .un):=λk=>gs (by
  simp[mx,bC,az,fC,aj,bc,mdI,bR,dq,dvI,g,hc])
 have p:∀k,aH (Rt 7<|wA φn 1 0 14 15<|aa (aG 5)<|aa (az gIx (aj 3)<|az dZ (aj 5)<|fC<|.int 1)<|aa (aG 6)<|aa (az bc (az dq (aj 4)<|fC<|.int 48)<|fC<|.int 2) aB) k (mx e A a r N m rc DP draw (.fz<|.int s) (.fz<|.int c) .un .un .un .un .un .un .un)=k (mx e A a r o m1 rc DP draw (.fz<|.int s) (.fz<|.int c) (.fz<|.int n) .un .un .un .un .un .un):=λk=>gs (by
  rw[hb] at en;simp[mx,Rt,wA,Ja,yI,aa,aB,aG,az,aj,fC,F.dZ,x,bc,mdI,dq,dvI,h,en,CN])
 have start:lM 1 (.io<|stD e A a r) ([cD e,.int DP,rcD rc,.int draw].map Sl.fz)++(c9 (16-5-2) Sl.un++[.hd false A.1<|nD N,.hd false A.2<|mD m])=mx e A a r N m rc DP draw .un .un .un .un .un .un .un .un .un:=rfl;constructor
 ·intro t q w;have f:∀k,aH (gIf (aK gGe (aj 7)<|fC<|.int 8) (aY<|bu<|aa (fC<|.str "end")<|aa (fFn φs<|aa (aG 4) aB) aB) gNx) k (mx e A a r o m1 rc DP draw (.fz<|.int s) (.fz<|.int c) (.fz<|.int n) .un .un .un .un .un .un)=.ok (.rt false<|.tup [.str "end",q],mx e A a r o m1 rc DP draw (.fz<|.int s) (.fz<|.int c) (.fz<|.int n) .un .un .un .un .un .un):=λk=>Rk (by
   have:n≥8:=t
   simp[mx,gIf,aK,aj,fC,gGe,this,aY,Me.let,Sl.let,bu,aa,aB,fFn,aG,w])
  refine BP (m0:=mx e A a r N m rc DP draw .un .un .un .un .un .un .un .un .un) (m':=mx e A a r o m1 rc DP draw (.fz<|.int s) (.fz<|.int c) (.fz<|.int n) .un .un .un .un .un .un) (fr:=false) rfl start ?_ rfl (by simp[mx,lA]) (by simp[mx,lA]);unfold jO;rw[u,l,p,f]
 ·intro W t U r' N' m' ws I J C T B;have V:=E.t0;have j:=HN E (i:=(n+e.turn)%8) (by lia);have H:nameAt e n=e.pool.getD ((n+e.turn)%8).toNat ⟨#[]⟩:=rfl;rw[← H] at j;have M:=Pa e A a<|(r:Int)-c;have S:=Pq e A a<|(r:Int)-c;have y:=Hv e A a r;have f:∀k,aH (gIf (aK gGe (aj 7)<|fC<|.int 8) (aY<|bu<|aa (fC<|.str "end")<|aa (fFn φs<|aa (aG 4) aB) aB) gNx) k (mx e A a r o m1 rc DP draw (.fz<|.int s) (.fz<|.int c) (.fz<|.int n) .un .un .un .un .un .un)=k (mx e A a r o m1 rc DP draw (.fz<|.int s) (.fz<|.int c) (.fz<|.int n) .un .un .un .un .un .un):=λk=>gs (by
   have:¬n≥8:=by lia
   simp[mx,gIf,aK,aj,fC,gGe,this,gNx])
  have z:∀k,aH (iJ 1 (fC<|.str "room")<|az dZ (az dD (aj 1)<|fC<|.str "room")<|aj 6) k (mx e A a r o m1 rc DP draw (.fz<|.int s) (.fz<|.int c) (.fz<|.int n) .un .un .un .un .un .un)=k (mx e A a ((r:Int)-c) o m1 rc DP draw (.fz<|.int s) (.fz<|.int c) (.fz<|.int n) .un .un .un .un .un .un):=λk=>gs (LK (e:=e) (A:=A) (a:=a) (r:=r) rfl rfl (by
   simp[mx,az,aj,fC,y,F.dZ]))
  have P:∀k,aH (bC 8<|az dD (aj 1)<|fC<|.str "pool") k (mx e A a ((r:Int)-c) o m1 rc DP draw (.fz<|.int s) (.fz<|.int c) (.fz<|.int n) .un .un .un .un .un .un)=k (mx e A a ((r:Int)-c) o m1 rc DP draw (.fz<|.int s) (.fz<|.int c) (.fz<|.int n) (.fz<|.lst<|e.pool.map D.str) .un .un .un .un .un):=λk=>gs (by
   simp[mx,bC,az,aj,fC,S])
  have Q:∀k,aH (bC 9<|az gIx (aj 8)<|az bc (az bR (aj 7)<|az dD (aj 1)<|fC<|.str "turn")<|fC<|.int 8) k (mx e A a ((r:Int)-c) o m1 rc DP draw (.fz<|.int s) (.fz<|.int c) (.fz<|.int n) (.fz<|.lst<|e.pool.map D.str) .un .un .un .un .un)=k (mx e A a ((r:Int)-c) o m1 rc DP draw (.fz<|.int s) (.fz<|.int c) (.fz<|.int n) (.fz<|.lst<|e.pool.map D.str) (.fz<|.str<|nameAt e n) .un .un .un .un):=λk=>gs (by
   simp[mx,bC,az,aj,fC,M,gIx,bc,mdI,bR,j])
  have R:∀k,aH (eV 10<|dW aB) k (mx e A a ((r:Int)-c) o m1 rc DP draw (.fz<|.int s) (.fz<|.int c) (.fz<|.int n) (.fz<|.lst<|e.pool.map D.str) (.fz<|.str<|nameAt e n) .un .un .un .un)=k (mvM e A a ((r:Int)-c) o m1 rc DP draw s c n (nameAt e n) [] .un .un .un):=λk=>gs (by
   simp[mx,mvM,eV,dW,aB])
  have v:∀k,aH L k (mvM e A a ((r:Int)-c) o m1 rc DP draw s c n (nameAt e n) [] .un .un .un)=k (mvM e A U r' N' m' rc DP draw s c n (nameAt e n) ws I J C):=λk=>gs B;have K:ws.length<=16777216:=by lia
  refine BP (m0:=mx e A a r N m rc DP draw .un .un .un .un .un .un .un .un .un) (m':=Me.let<|mvM e A U r' N' m' rc DP draw s c n (nameAt e n) ws I J C) (fr:=false) rfl start ?_ rfl (by simp[mvM,lA,Me.let,Sl.let]) (by simp[mvM,lA,Me.let,Sl.let]);unfold jO;rw[u,l,p,f,z,P,Q,R,v];simp[mvM,aY,Me.let,Sl.let,bu,aa,aB,fC,aG,aP,aj,eU,K]
theorem ZP (E:o9 e){J:Bf}{dep:Nat}(hΦ:SpB e J dep){a r:Nat}{N:Nd}{m:Int×Int}{rc:Rc}{draw:Int}(I:qm N m)(hN:N.1.length+1<=a)(har:a+r<=64)(h3:3<=r)(U:Lq rc (dep+1))(hd:0<=draw/\draw<=9000000000):
  ∃(g:Gm) (C r':Nat) (o:Nd) (m':Int×Int),(∀A:Addr×Addr,mK J [cD e,.int ((dep+1:Nat):Int),rcD rc,.int draw] (stD e A a r) (A.1,nD N) (A.2,mD m)=.ok (dG g,stD e A C r',nD o,mD m'))/\qm o m'/\Sub N o/\o.1.length<=C/\r'+szG g=r+1/\C+r'=a+r/\Grw e o rc g (dep+1):=by
 obtain⟨d,u⟩:∃d:Nat,(d:Int)=1+draw/16%3:=⟨(1+draw/16%3).toNat,by lia⟩;have v:1+draw%2=1\/1+draw%2=2:=by lia
 have h:Pr (CG rc<|1+draw%2)/\rA (CG rc<|1+draw%2)=true:=by
  unfold CG;split
  ·exact⟨U.1,U.2.2.1⟩
  ·exact⟨U.2.1,U.2.2.2.1⟩
 have z:N.1.length<1000:=by lia
 refine DG (UW (e:=e) (a:=a) (r:=r) (c:=(d:Int)) (b:=draw/48%2) I v h.1 z) λn t s K y Y F H l1=>?_;have W:=λA:Addr×Addr=>YX (A:=A) (φs:=cQ) (φn:=dX) (L:=mC J) (DP:=((dep+1:Nat):Int)) E rfl u rfl<|K A;by_cases R:8<=n
 ·obtain⟨q,M,O⟩:=Ea (x:=draw) hd;exact⟨.fin<|rq q,a,r,t,s,λA=>(W A).1 R _ M,F,H,by lia,rfl,rfl,Rx O⟩
 ·have f:n<8:=by lia
  have p:(r:Int)-(d:Int)=((r-d:Nat):Int):=by lia
  have t0:=E.t0;obtain⟨L,C,r',o,m',l,i,j,X,P,G,Q,j4,j5,B,S⟩:=O4 E hΦ (rc:=rc) (draw:=draw) (cc:=(d:Int)) (seen:=nameAt e n) U v ⟨y,f⟩ (An E _<|by lia) d 0 a (r-d) t s [] .un .un .un F (by lia) (by lia) (by lia) (by simp;lia);have hL:L.length=d:=by
   have:=congrArg xk B
   simpa using this
  have w:∀A:Addr×Addr,mC J (mvM e A a ((r:Int)-(d:Int)) t s rc ((dep+1:Nat):Int) draw (1+draw%2) (d:Int) n (nameAt e n) [] .un .un .un)=.ok (.nx,mvM e A C r' o m' rc ((dep+1:Nat):Int) draw (1+draw%2) (d:Int) n (nameAt e n) (L.map Oj) l i j):=λA=>by
   have Z:(aa (aj 6) aB) (mvM e A a ((r:Int)-(d:Int)) t s rc ((dep+1:Nat):Int) draw (1+draw%2) (d:Int) n (nameAt e n) [] .un .un .un)=.ok [.int (d:Int)]:=by simp[mvM,aa,aB,aj]
   have V:=Nq Z (by lia) (by lia);unfold mC ir;rw[V];show bI (hName 11) (iV J) ((cq d).map λ(k:Nat)=>D.int k) _=_;rw[gT,p];exact X A
  have T:=λA:Addr×Addr=>(W A).2 y f C r' o m' (L.map Oj) l i j (by simp;lia)<|w A;refine⟨.move (1+draw%2) (nameAt e n)<|ofL L,C,r',o,m',λA=>?_,P,H.trans G,Q,?_,by lia,Xe v (by lia) S ?_⟩
  ·have:dG (.move (1+draw%2) (nameAt e n)<|ofL L)=.tup [.str "move",.int<|1+draw%2,.str<|nameAt e n,.tup<|L.map Oj]:=by
    show D.tup [_,_,_,.tup<|dWs<|ofL L]=_;rw[MF];rfl
   rw[this];exact T A
  ·show r'+(szW (ofL L)+1)=r+1;rw[M9];lia
  ·refine⟨CG rc<|1+draw%2,d,draw/48%2,n,h.1,h.2,G _ _ Y,y,f,by lia,rfl,?_⟩;show D.tup [_,_,.tup<|gF<|ofL L,_]=_;rw[Il,B,gT]
def bm (e:En)(A:Addr×Addr)(a r:Int)(N:Nd)(m:Int×Int)(rc:Rc)(dep:Int)(s4 s5 s6 s7 s8 s9:Sl):Me:=
 [.fz<|cD e,.io<|stD e A a r,.fz<|.int dep,.fz<|rcD rc,s4,s5,s6,s7,s8,s9,.hd false A.1<|nD N,.hd false A.2<|mD m]
theorem dl_step (hΦ:SpB e Φ dep){a r:Nat}{N:Nd}{m:Int×Int}{rc:Rc}{s4 s5 s6 s7:Sl}{l:D}{U:List D}(I:qm N m)(hN:N.1.length<=a)(har:a+r<=63)(hr:Lq rc (dep+1))(hw:U.length<=100):
  ∃(g:Gm) (J r':Nat) (o:Nd) (m':Int×Int),(∀A:Addr×Addr,jZ Φ (bm e A a r N m rc (dep+1:Nat) s4 s5 s6 s7 (.ow<|.lst U)<|.fz l)=.ok (.nx,bm e A J r' o m' rc (dep+1:Nat) s4 s5 s6 s7 (.ow<|.lst<|U++[.tup [l,dG g]])<|.fz l))/\
   qm o m'/\Sub N o/\o.1.length<=J/\r'+szG g=r+1/\J+r'=a+r+1/\Grw e o rc g dep:=by
 refine pU hr λv d s j y x=>?_;refine Kv (hΦ a r N m rc I hN har ⟨v,d,s,j,by lia,by lia⟩) λg J r' o m' b u n h k w i=>?_;refine⟨g,J,r',o,m',λA=>?_,u,n,h,k,w,i⟩;have b:Φ [cD e,.int (dep:Int),rcD rc] (stD e A a r) (A.1,nD N) (A.2,mD m)=.ok (dG g,stD e A J r',nD o,mD m'):=b A;have q:U.length<16777216:=by lia
 have t:((dep+1:Nat):Int)-1=(dep:Int):=by lia
 simp only[bm];generalize f:stD e A a r=ST at *;generalize c:stD e A (J:Int) (r':Int)=ST' at *;generalize cD e=C at *;generalize nD N=NN at *;generalize nD o=NN' at *;generalize mD m=MM at *;generalize mD m'=MM' at *;generalize rcD rc=RC at *;generalize p:((dep+1:Nat):Int)=DP at *;simp[jZ,qO,jY,putL,Gk,tK,fX,aG,wA,Ja,yI,aa,aB,az,aj,fC,F.dZ,t,b,CN,Hk,q]
theorem QG (J:SpB e Φ dep){rc:Rc}{s4 s5 s6 s7:Sl}(hr:Lq rc (dep+1)):
  ∀(ls:List D) (a r:Nat) (N:Nd) (m:Int×Int) (o:List D) (s9:Sl),qm N m->N.1.length<=a->a+r+ls.length<=64->o.length+ls.length<=100->
  ∃(L:List (D×Gm)) (U r':Nat) (C:Nd) (m':Int×Int) (t9:Sl),(∀A:Addr×Addr,bI (hName 9) (jZ Φ) ls (bm e A a r N m rc (dep+1:Nat) s4 s5 s6 s7 (.ow<|.lst o) s9)=.ok (.nx,bm e A U r' C m' rc (dep+1:Nat) s4 s5 s6 s7 (.ow<|.lst<|o++L.map Oj) t9))/\
   qm C m'/\Sub N C/\C.1.length<=U/\r'+szL L=r+ls.length/\U+r'=a+r+ls.length/\L.map (·.1)=ls/\∀p∈L,Grw e C rc p.2 dep
 |[],a,r,N,m,o,s9,I,hN,har,hw=>⟨[],a,r,N,m,s9,λA=>by simp[bI],I,Sub.refl N,hN,by simp[szL],by simp,rfl,λ_ z=>by cases z⟩
 |l::ls,a,r,N,m,o,s9,I,hN,har,hw=>by
  have b:a+r+(ls.length+1)<=64:=har;have E:o.length+(ls.length+1)<=100:=hw;refine Kv (dl_step J (a:=a) (r:=r) (s4:=s4) (s5:=s5) (s6:=s6) (s7:=s7) (l:=l) I hN (by lia) hr (by lia:o.length<=100)) λg j F t h B s y u K M v=>?_;obtain⟨L,U,r',C,m',n,k,i,c,w,G,H,d,x⟩:=QG J (s4:=s4) (s5:=s5) (s6:=s6) (s7:=s7) hr ls j F t h (o++[.tup [l,dG g]]) (.fz l) s u (by lia) (by simp;lia);refine⟨(l,g)::L,U,r',C,m',n,λA=>?_,i,y.trans c,w,?_,by simp;lia,by rw[ay,d],λp f=>?_⟩
  ·rw[dI rfl<|B A,k A,fy];rfl
  ·show r'+(szG g+szL L)=r+(ls.length+1)
   lia
  ·rcases a9.mp f with q|q
   ·rw[q];exact v.mono c
   ·exact x p q
theorem Sy (E:o9 e):∃v:Int,atI (e.cells.map D.int) (-1)=some (.int v):=by
 have h:=E.c1;have a:e.cells≠[]:=λz=>by rw[z] at h;simp at h
 refine⟨e.cells.getLast a,?_⟩
 have:=Xx (e.cells.dropLast.map D.int)<|D.int<|e.cells.getLast a
 rwa [← List.map_singleton,← cK,List.dropLast_concat_getLast a] at this
theorem Lz {e:En}(h:i<e.cells.length):∃v:Int,atI (e.cells.map D.int) (i:Int)=some (.int v):=by
 refine⟨e.cells[i],pO ?_⟩;rw[a5,aw h];rfl
theorem Xl {e:En}{i:Int}(o:0<=i)(h:i<e.cells.length):∃v:Int,atI (e.cells.map D.int) i=some (.int v):=by
 obtain⟨v,a⟩:=Lz (e:=e) (i:=i.toNat) (by lia);exact⟨v,by rwa [show((i.toNat:Nat):Int)=i by lia] at a⟩
section
variable {e:En}{A:Addr×Addr}{a r dep:Nat}{N:Nd}{m:Int×Int}{rc:Rc}
theorem bs1 (k:Zab):aH (bC 4<|az dD (aj 1)<|fC<|.str "at") k (bm e A a r N m rc dep .un .un .un .un .un .un)=k (bm e A a r N m rc dep (.fz<|.int a) .un .un .un .un .un):=by rfl
theorem bs2 (k:Zab):aH (iJ 1 (fC<|.str "at")<|az bR (aj 4)<|fC<|.int 1) k (bm e A a r N m rc dep (.fz<|.int a) .un .un .un .un .un)=k (bm e A (a+1:Nat) r N m rc dep (.fz<|.int a) .un .un .un .un .un):=by rfl
theorem bs3 (E:o9 e)(o:a<=64)(h:e.cells.length<=a):∃q:Rat,smQ (rq q)/\∀(A:Addr×Addr) k,aH (gIf (aK gGe (aj 4)<|aP cP<|aa (aj 0) aB) (aY<|bu<|aa (fC<|.str "end")<|aa (fFn cQ<|aa (fFn cV<|aa (az bR (az gIx (aj 0)<|fUn wY<|fC<|.int 1)<|az eX (aj 4)<|aj 4)<|aa (aG 4) aB) aB) aB) gNx) k (bm e A (a+1:Nat) r N m rc dep (.fz<|.int a) .un .un .un .un .un)=.ok (.rt false<|dG<|.fin<|rq q,bm e A (a+1:Nat) r N m rc dep (.fz<|.int a) .un .un .un .un .un):=by
 obtain⟨v,i⟩:=Sy E;obtain⟨x,d,c⟩:=Es (v+(a:Int)*a) a (by lia);obtain⟨q,g,j⟩:=Ea (x:=x) ⟨c.1,by have:=c.2;lia⟩;refine⟨q,j,λA k=>Rk ?_⟩;have f:Bq (a:Int):=bgS (by lia);have b:(a:Int)≥(e.cells.length:Int):=by lia
 have l:-(1:Int)=-1:=rfl;show _=Res.ok (Fl.rt false<|.tup [.str "end",rD q],_);simp only[bm];generalize stD e A ((a+1:Nat):Int) (r:Int)=ST;generalize cQ=FS at *;generalize cV=FM at *;simp[cD,gIf,aK,aj,aP,cP,aa,aB,gGe,b,aY,Me.let,Sl.let,bu,fC,fFn,az,fUn,wY,gIx,i,eX,f,bR,aG,d,g]
theorem adQ (k:Zab){X:Zab}(h:a<e.cells.length):aH (gIf (aK gGe (aj 4)<|aP cP<|aa (aj 0) aB) X gNx) k (bm e A (a+1:Nat) r N m rc dep (.fz<|.int a) .un .un .un .un .un)=k (bm e A (a+1:Nat) r N m rc dep (.fz<|.int a) .un .un .un .un .un):=gs (by
 have b:¬(a:Int)≥(e.cells.length:Int):=by lia
 simp only[bm];generalize stD e A ((a+1:Nat):Int) (r:Int)=ST;simp[cD,gIf,aK,aj,aP,cP,aa,aB,gGe,b,gNx])
theorem bs4 (h:a<e.cells.length)(o:a<=64):∃x,sm x/\∀(A:Addr×Addr) k,aH (bC 5<|fFn cV<|aa (az gIx (aj 0)<|aj 4)<|aa (aG 4) aB) k (bm e A (a+1:Nat) r N m rc dep (.fz<|.int a) .un .un .un .un .un)=k (bm e A (a+1:Nat) r N m rc dep (.fz<|.int a) (.fz<|.int x) .un .un .un .un):=by
 obtain⟨v,c⟩:=Lz h;obtain⟨x,b,d⟩:=Es v a (by lia);refine⟨x,d,λA k=>gs ?_⟩;simp only[bm];generalize stD e A ((a+1:Nat):Int) (r:Int)=ST;generalize cV=FM at *;simp[cD,bC,fFn,aa,aB,az,gIx,aj,aG,c,b]
theorem bs5 (k:Zab){x:Int}:aH (bC 6<|aG 5) k (bm e A (a+1:Nat) r N m rc dep (.fz<|.int a) (.fz<|.int x) .un .un .un .un)=k (bm e A (a+1:Nat) r N m rc dep (.fz<|.int a) (.fz<|.int x) (.fz<|.int x) .un .un .un):=gs rfl
theorem bs6 (E:o9 e)(hd:dep<=12){x:Int}(o:sm x):∃y:Int,(0<=y/\y<=9000000000)/\∀(A:Addr×Addr) k,aH (gIf (fTv<|az dD (aj 1)<|fC<|.str "level") (bC 6<|az bR (az dZ (aj 5)<|az bc (aj 5)<|fC<|.int 48)<|az bc (fFn cV<|aa (az gIx (aj 0)<|az bc (aj 2)<|aP cP<|aa (aj 0) aB)<|aa (aG 2) aB)<|fC<|.int 48) gNx) k (bm e A (a+1:Nat) r N m rc dep (.fz<|.int a) (.fz<|.int x) (.fz<|.int x) .un .un .un)=k (bm e A (a+1:Nat) r N m rc dep (.fz<|.int a) (.fz<|.int x) (.fz<|.int y) .un .un .un):=by
 have b:=λA:Addr×Addr=>Vu e A ((a+1:Nat):Int) r;cases j:e.lev with
 |false=>
  rw[j] at b;refine⟨x,⟨o.1,by have:=o.2;lia⟩,λA k=>gs ?_⟩
  replace b:=b A
  simp only[bm];generalize stD e A ((a+1:Nat):Int) (r:Int)=ST at *;simp[gIf,fTv,az,aj,fC,b,gNx]
 |true=>
  rw[j] at b;have l:=E.c1;have c:(0:Int)<(e.cells.length:Int):=by lia
  obtain⟨v,n⟩:=Xl (e:=e) (i:=(dep:Int)%(e.cells.length:Int)) (fq _<|by lia)<|fR _ c;obtain⟨y,p,q⟩:=Es v dep (by lia);have h:(e.cells.length:Int)≠0:=by lia
  have f:e.cells.length≠0:=by lia
  have d:e.cells≠[]:=λz=>by rw[z] at l;simp at l
  have g:0<e.cells.length:=by lia
  refine⟨x-x%48+y%48,⟨by have:=o.1;lia,by have:=o.2;lia⟩,λA k=>gs ?_⟩
  replace b:=b A
  simp only[bm];generalize stD e A ((a+1:Nat):Int) (r:Int)=ST at *;generalize cV=FM at *;simp[cD,gIf,fTv,az,aj,fC,b,bC,bc,mdI,bR,F.dZ,fFn,aa,aB,gIx,aP,cP,h,f,d,c,g,n,aG,p]
end
section
variable {e:En}{A:Addr×Addr}{a r dep:Nat}{N:Nd}{m:Int×Int}{rc:Rc}{x y:Int}
abbrev zB:Zaf:=(dR (aK gEq (aj 2)<|fC<|.int 0)<|dR (aK gLt (az dD (aj 1)<|fC<|.str "room")<|fC<|.int 3)<|sJ (aK gEq (az bc (aj 6)<|fC<|.int 8)<|fC<|.int 0)<|aK gGt (aj 4)<|fC<|.int 0)
theorem c7:zB (bm e A (a+1:Nat) r N m rc dep (.fz<|.int a) (.fz<|.int x) (.fz<|.int y) .un .un .un)=.ok (decide<|dep=0\/r<3\/(y%8=0/\0<a)):=by
 have g:=Hv e A ((a+1:Nat):Int) r;simp only[bm];generalize stD e A ((a+1:Nat):Int) (r:Int)=ST at *;by_cases f:dep=0
 ·simp[zB,dR,aK,aj,fC,f]
 ·have c:¬(dep:Int)=0:=by lia
  by_cases h:r<3
  ·have b:(r:Int)<3:=by lia
   simp[zB,dR,aK,aj,fC,f,c,az,g,gLt,h,b]
  ·have b:¬(r:Int)<3:=by lia
   by_cases i:y%8=0
   ·have k:=i;by_cases j:0<a
    ·have d:(a:Int)>0:=by lia
     simp[zB,dR,sJ,aK,aj,fC,f,c,az,g,gLt,h,b,bc,mdI,i,gGt,j,d]
    ·have d:¬(a:Int)>0:=by lia
     simp[zB,dR,sJ,aK,aj,fC,f,c,az,g,gLt,h,b,bc,mdI,i,gGt,j,d]
   ·simp[zB,dR,sJ,aK,aj,fC,f,c,az,g,gLt,h,b,bc,mdI,i]
theorem bs7 (o:sm x)(h:dep=0\/r<3\/(y%8=0/\0<a)):∃q:Rat,smQ (rq q)/\∀(A:Addr×Addr) k,aH (gIf zB (aY<|bu<|aa (fC<|.str "end")<|aa (fFn cQ<|aa (aG 5) aB) aB) gNx) k (bm e A (a+1:Nat) r N m rc dep (.fz<|.int a) (.fz<|.int x) (.fz<|.int y) .un .un .un)=.ok (.rt false<|dG<|.fin<|rq q,bm e A (a+1:Nat) r N m rc dep (.fz<|.int a) (.fz<|.int x) (.fz<|.int y) .un .un .un):=by
 obtain⟨q,b,d⟩:=Ea (x:=x) ⟨o.1,by have:=o.2;lia⟩;refine⟨q,d,λA k=>Rk ?_⟩;have c:=c7 (e:=e) (A:=A) (a:=a) (r:=r) (dep:=dep) (N:=N) (m:=m) (rc:=rc) (x:=x) (y:=y);rw[decide_eq_true h] at c;unfold gIf;rw[c];show aY _ _=Res.ok (Fl.rt false<|.tup [.str "end",rD q],_);simp only[bm];generalize stD e A ((a+1:Nat):Int) (r:Int)=ST;generalize cQ=FS at *;simp[aY,Me.let,Sl.let,bu,aa,aB,fC,fFn,aG,b]
theorem aeA (k:Zab){X:Zab}(h:¬(dep=0\/r<3\/(y%8=0/\0<a))):aH (gIf zB X gNx) k (bm e A (a+1:Nat) r N m rc dep (.fz<|.int a) (.fz<|.int x) (.fz<|.int y) .un .un .un)=k (bm e A (a+1:Nat) r N m rc dep (.fz<|.int a) (.fz<|.int x) (.fz<|.int y) .un .un .un):=gs (by
 have c:=c7 (e:=e) (A:=A) (a:=a) (r:=r) (dep:=dep) (N:=N) (m:=m) (rc:=rc) (x:=x) (y:=y);rw[decide_eq_false h] at c;unfold gIf;rw[c];rfl)
theorem bs8 (h:y%8>2){U:Bf}{d:D}{J r':Nat}{I:Nd}{m':Int×Int}(o:U [cD e,.int (dep:Int),rcD rc,.int y] (stD e A (a+1:Nat) r) (A.1,nD N) (A.2,mD m)=.ok (d,stD e A J r',nD I,mD m'))(k:Zab):
  aH (gIf (aK gGt (az bc (aj 6)<|fC<|.int 8)<|fC<|.int 2) (vO<|wA U 1 1 10 11<|aa (aG 0)<|aa (aG 2)<|aa (aG 3)<|aa (aG 6) aB) gNx) k (bm e A (a+1:Nat) r N m rc dep (.fz<|.int a) (.fz<|.int x) (.fz<|.int y) .un .un .un)=.ok (.rt false d,bm e A J r' I m' rc dep (.fz<|.int a) (.fz<|.int x) (.fz<|.int y) .un .un .un):=Rk (by
 simp only[bm];generalize stD e A ((a+1:Nat):Int) (r:Int)=ST at *;generalize stD e A (J:Int) (r':Int)=ST' at *;generalize cD e=C at *;generalize nD N=NN at *;generalize nD I=NN' at *;generalize mD m=MM at *;generalize mD m'=MM' at *;generalize rcD rc=RC at *;simp[gIf,aK,az,aj,fC,bc,mdI,gGt,h,vO,wA,Ja,yI,aa,aB,aG,o,CN])
theorem agJ (h:¬y%8>2){X:Zab}(k:Zab):
  aH (gIf (aK gGt (az bc (aj 6)<|fC<|.int 8)<|fC<|.int 2) X gNx) k (bm e A (a+1:Nat) r N m rc dep (.fz<|.int a) (.fz<|.int x) (.fz<|.int y) .un .un .un)=k (bm e A (a+1:Nat) r N m rc dep (.fz<|.int a) (.fz<|.int x) (.fz<|.int y) .un .un .un):=gs (by
 simp only[bm];generalize stD e A ((a+1:Nat):Int) (r:Int)=ST at *;simp[gIf,aK,az,aj,fC,bc,mdI,gGt,h,gNx])
theorem bs9 {c:Int}(o:c=1+y/16%3)(k:Zab):aH (bC 7<|az bR (fC<|.int 1)<|az bc (az dq (aj 6)<|fC<|.int 16)<|fC<|.int 3) k (bm e A (a+1:Nat) r N m rc dep (.fz<|.int a) (.fz<|.int x) (.fz<|.int y) .un .un .un)=k (bm e A (a+1:Nat) r N m rc dep (.fz<|.int a) (.fz<|.int x) (.fz<|.int y) (.fz<|.int c) .un .un):=gs (by
 have b:Bq 16:=bgS (by decide);simp only[bm];generalize stD e A ((a+1:Nat):Int) (r:Int)=ST at *;simp[bC,az,aj,fC,bc,mdI,bR,dq,dvI,b,o])
theorem aha {c:Int}{r1:Nat}(o:(r:Int)-c=r1)(k:Zab):aH (iJ 1 (fC<|.str "room")<|az dZ (az dD (aj 1)<|fC<|.str "room")<|aj 7) k (bm e A (a+1:Nat) r N m rc dep (.fz<|.int a) (.fz<|.int x) (.fz<|.int y) (.fz<|.int c) .un .un)=k (bm e A (a+1:Nat) r1 N m rc dep (.fz<|.int a) (.fz<|.int x) (.fz<|.int y) (.fz<|.int c) .un .un):=gs (by
 have b:=Hv e A ((a+1:Nat):Int) r
 have:=LK (e:=e) (A:=A) (a:=((a+1:Nat):Int)) (r:=r) (r':=(r1:Int)) (fk:=fC<|.str "room") (fv:=az dZ (az dD (aj 1)<|fC<|.str "room")<|aj 7) (i:=1) (m:=bm e A (a+1:Nat) r N m rc dep (.fz<|.int a) (.fz<|.int x) (.fz<|.int y) (.fz<|.int c) .un .un) rfl rfl (by simp only[bm];generalize stD e A ((a+1:Nat):Int) (r:Int)=ST at *;simp[az,aj,fC,b,F.dZ,o])
 exact this)
theorem ag8 {c:Int}(k:Zab):aH (eV 8<|dW aB) k (bm e A (a+1:Nat) r N m rc dep (.fz<|.int a) (.fz<|.int x) (.fz<|.int y) (.fz<|.int c) .un .un)=k (bm e A (a+1:Nat) r N m rc dep (.fz<|.int a) (.fz<|.int x) (.fz<|.int y) (.fz<|.int c) (.ow<|.lst []) .un):=gs rfl
theorem agO (E:o9 e){ws:List D}{s4 s6 s7 s9:Sl}(o:ws.length<=100):aY (bu<|aa (fC<|.str "deal")<|aa (az gIx (az dD (aj 1)<|fC<|.str "pool")<|az bc (az dq (aj 5)<|fC<|.int 48)<|fC<|.int 8)<|aa (aP eU<|aa (aj 8) aB) aB) (bm e A a r N m rc dep s4 (.fz<|.int y) s6 s7 (.ow<|.lst ws) s9)=.ok (.rt false<|.tup [.str "deal",.str<|e.pool.getD (y/48%8).toNat ⟨#[]⟩,.tup ws],Me.let<|bm e A a r N m rc dep s4 (.fz<|.int y) s6 s7 (.ow<|.lst ws) s9):=by
 have d:=Pq e A a r;have f:=HN E (i:=y/48%8) (by lia);have b:Bq 48:=bgS (by decide);have c:ws.length<=16777216:=by lia
 generalize e.pool.getD (y/48%8).toNat ⟨#[]⟩=Z at *;simp only[bm];generalize stD e A (a:Int) (r:Int)=ST at *;simp[aY,Me.let,Sl.let,bu,aa,aB,fC,az,aj,d,gIx,bc,mdI,dq,dvI,b,f,aP,eU,c]
end
theorem yJ {e:En}{A:Addr×Addr}{a r:Int}{N:Nd}{m:Int×Int}{rc:Rc}{dep:Int}{s4 s5 s6 s7 s8 s9:Sl}:sI (bm e A a r N m rc dep s4 s5 s6 s7 s8 s9) 1=some (stD e A a r)/\lA (bm e A a r N m rc dep s4 s5 s6 s7 s8 s9) (12-2) A.1=some (nD N)/\lA (bm e A a r N m rc dep s4 s5 s6 s7 s8 s9) (12-1) A.2=some (mD m):=⟨rfl,by simp[bm,lA],by simp[bm,lA]⟩
theorem Ii {e:En}{A:Addr×Addr}{a r:Int}{N:Nd}{m:Int×Int}{rc:Rc}{dep:Int}{s4 s5 s6 s7 s8 s9:Sl}:sI (Me.let<|bm e A a r N m rc dep s4 s5 s6 s7 s8 s9) 1=some (stD e A a r)/\lA (Me.let<|bm e A a r N m rc dep s4 s5 s6 s7 s8 s9) (12-2) A.1=some (nD N)/\lA (Me.let<|bm e A a r N m rc dep s4 s5 s6 s7 s8 s9) (12-1) A.2=some (mD m):=⟨rfl,by simp[bm,lA,Me.let,Sl.let],by simp[bm,lA,Me.let,Sl.let]⟩
theorem aaA {FS:Zac}{B:Zab}{e:En}{A:Addr×Addr}{a r:Int}{N:Nd}{m:Int×Int}{rc:Rc}{dep:Int}{s4 s6 s8 s9:Sl}{x c:D}{ls:List D}{R:Res (Fl×Me)}(h:FS [x,c]=.ok (true,.lst ls))(k:bI (hName 9) B ls (bm e A a r N m rc dep s4 (.fz x) s6 (.fz c) s8 s9)=R):
  ir (jf<|fFn FS<|aa (aG 5)<|aa (aG 7) aB) (hName 9) B (bm e A a r N m rc dep s4 (.fz x) s6 (.fz c) s8 s9)=R:=by
 have b:jf (fFn FS<|aa (aG 5)<|aa (aG 7) aB) (bm e A a r N m rc dep s4 (.fz x) s6 (.fz c) s8 s9)=.ok ls:=by
  simp only[bm];generalize stD e A a r=ST;simp[jf,fFn,aa,aB,aG,h]
 unfold ir;rw[b];exact k
theorem Ou (n:Nat):bL (n+1)=F.runST 1 12 4 (fG cQ cV (bL n)<|gW<|bL n):=by rw[bL]
theorem Mw {e:En}(E:o9 e){n dep:Nat}(hd:dep<=12)(ih:∀d,d+1=dep->SpB e (bL n) d):SpB e (bL<|n+1) dep:=by
 rw[Ou];intro a r N m b I hN har o;have start:∀A:Addr×Addr,lM 1 (.io<|stD e A a r) ([cD e,.int (dep:Int),rcD b].map Sl.fz)++(c9 (12-4-2) Sl.un++[.hd false (A.1,nD N).1 (A.1,nD N).2,.hd false (A.2,mD m).1 (A.2,mD m).2])=bm e A a r N m b dep .un .un .un .un .un .un:=λ_=>rfl;have fin:∀(q:Rat) (M S T O C s9:Sl),smQ (rq q)->(∀A:Addr×Addr,(fG cQ cV (bL n)<|gW<|bL n) (bm e A a r N m b dep .un .un .un .un .un .un)=.ok (.rt false<|dG<|.fin<|rq q,bm e A (a+1:Nat) r N m b dep M S T O C s9))->Gives e (λA=>F.runST 1 12 4 (fG cQ cV (bL n)<|gW<|bL n) [cD e,.int (dep:Int),rcD b] (stD e A a r) (A.1,nD N) (A.2,mD m)) a r N b dep:=λq M S T O C s9 t s=>
  ⟨.fin<|rq q,a+1,r,N,m,λA=>BP rfl (start A) (s A) yJ.1 yJ.2.1 yJ.2.2,I,Sub.refl N,by lia,rfl,by lia,Rx t⟩
 by_cases j:e.cells.length<=a
 ·obtain⟨q,t,s⟩:=bs3 (r:=r) (N:=N) (m:=m) (rc:=b) (dep:=dep) E (by lia) j;refine fin q (.fz<|.int a) .un .un .un .un .un t λA=>?_;unfold fG;rw[bs1,bs2,s]
 have j:a<e.cells.length:=by lia
 obtain⟨x,R,G⟩:=bs4 (r:=r) (N:=N) (m:=m) (rc:=b) (dep:=dep) j (by lia);obtain⟨y,hy,X⟩:=bs6 (a:=a) (r:=r) (N:=N) (m:=m) (rc:=b) E hd R;by_cases B:dep=0\/r<3\/(y%8=0/\0<a)
 ·obtain⟨q,t,s⟩:=bs7 (e:=e) (N:=N) (m:=m) (rc:=b) R B;refine fin q (.fz<|.int a) (.fz<|.int x) (.fz<|.int y) .un .un .un t λA=>?_;unfold fG;rw[bs1,bs2,adQ _ j,G,bs5,X,s]
 obtain⟨dep,rfl⟩:∃d,dep=d+1:=⟨dep-1,by lia⟩;have w:=ih dep rfl;by_cases U:y%8>2
 ·refine Kv (ZP E w (a:=a+1) (r:=r) (draw:=y) I (by lia) (by lia) (by lia) o hy) λg k i p h em H Q W P J z=>?_;refine⟨g,k,i,p,h,λA=>BP (fr:=false) (m':=bm e A k i p h b ((dep+1:Nat):Int) (.fz<|.int a) (.fz<|.int x) (.fz<|.int y) .un .un .un) rfl (start A) ?_ yJ.1 yJ.2.1 yJ.2.2,H,Q,W,P,by lia,z⟩;unfold fG;rw[bs1,bs2,adQ _ j,G,bs5,X,aeA _ B,bs8 U<|em A]
 obtain⟨f,V⟩:∃f:Nat,(f:Int)=1+y/16%3:=⟨(1+y/16%3).toNat,by lia⟩;refine zE (Oc (x:=x) (c:=f) R<|by lia) λl el hl v Y=>?_;obtain⟨L,k,i,p,h,Z,eL,H,Q,W,P,J,z,j7⟩:=QG w (rc:=b) (s4:=.fz<|.int a) (s5:=.fz<|.int x) (s6:=.fz<|.int y) (s7:=.fz<|.int (f:Int)) o (l.map rD) (a+1) (r-f) N m [] .un I (by lia) (by simp;lia) (by simp;lia);rw[a6,v] at P J;have hL:L.length=f:=by
  have:=congrArg xk z
  simpa[v] using this
 have K:∀A:Addr×Addr,gW (bL n) (bm e A (a+1:Nat) (r-f:Nat) N m b ((dep+1:Nat):Int) (.fz<|.int a) (.fz<|.int x) (.fz<|.int y) (.fz<|.int (f:Int)) (.ow<|.lst []) .un)=.ok (.nx,bm e A k i p h b ((dep+1:Nat):Int) (.fz<|.int a) (.fz<|.int x) (.fz<|.int y) (.fz<|.int (f:Int)) (.ow<|.lst<|L.map Oj) Z):=λA=>by
  unfold gW;exact aaA el<|eL A
 refine⟨.deal (e.pool.getD (x/48%8).toNat ⟨#[]⟩)<|ofL L,k,i,p,h,λA=>BP (fr:=false) (m':=Me.let<|bm e A k i p h b ((dep+1:Nat):Int) (.fz<|.int a) (.fz<|.int x) (.fz<|.int y) (.fz<|.int (f:Int)) (.ow<|.lst<|L.map Oj) Z) rfl (start A) ?_ Ii.1 Ii.2.1 Ii.2.2,H,Q,W,?_,by lia,WT (by lia) j7 ?_ ?_⟩
 ·unfold fG;rw[bs1,bs2,adQ _ j,G,bs5,X,aeA _ B,agJ U,bs9 V,aha (r1:=r-f) (by lia),ag8,gs<|K A,agO E (by simp;lia)];show _=Res.ok (Fl.rt false<|D.tup [_,_,.tup<|dWs<|ofL L],_);rw[MF];rfl
 ·show i+(szW (ofL L)+1)=r+1;rw[M9];lia
 ·exact⟨l,by rw[Il,z],hl,by lia,Y⟩
 ·have u:(x/48%8).toNat<e.pool.length:=by rw[E.p8];lia
  rw[cS,aw u];exact nS u
theorem K4 {e:En}(E:o9 e):∀(n dep:Nat),dep+1<=n->dep<=12->SpB e (bL n) dep
 |0,dep,h,_=>by lia
 |n+1,dep,h,hd=>Mw E hd λd a=>K4 E n d (by lia)<|by lia
theorem getD_inj {l:List Str}(I:l.Nodup){i j:Nat}{d:Str}(o:i<l.length)(C:j<l.length)(h:l.getD i d=l.getD j d):i=j:=by
 rw[cS,cS,aw o,aw C] at h;rcases Nat.lt_trichotomy i j with q|q|q
 ·exact absurd h<|(uj.mp I) i j o C q
 ·exact q
 ·exact absurd h.symm<|(uj.mp I) j i C o q
theorem aaY {e:En}(E:o9 e)(C:e.pool.Nodup){N:Nd}{m:Int×Int}(I:qm N m){s:Int}{nm:Str}{d d':D}(o:s=1\/s=2)(h:Row e N s nm d)(h':Row e N s nm d'):d=d':=by
 obtain⟨u,c,b,n,v,z,t,A,L,B,l,rfl⟩:=h;obtain⟨a,f,w,j,p,H,k,G,M,F,x,rfl⟩:=h';have y:nameAt e n=nameAt e j:=by rw[← l,← x]
 have i:=E.p8
 have:=getD_inj C (by rw[i];lia) (by rw[i];lia) y
 have K:=E.t0;have r:n=j:=by lia
 subst r;obtain⟨q,g⟩:=I.inj s u c b a f w _ o v p t k;have g:c=f:=by lia
 subst q g;rfl
theorem Cd (E:o9 e)(n:Int):∀l:List Nat,rA (l.map λ(k:Nat)=>D.str<|wordAt e n k)=true/\pH (l.map λ(k:Nat)=>D.str<|wordAt e n k)=0
 |[]=>⟨rfl,rfl⟩
 |k::l=>by
  obtain⟨a,b⟩:=Cd E n l;have c:h9 (wordAt e n k)=true:=An E _ (by have:=E.t0;lia);exact⟨by simp[rA,okD,c,a],by simp[pH,tU,b]⟩
theorem WX:∀{rc:List D},Pr rc->pH rc<=1
 |[],_=>d5 _
 |d::rc,h=>by
  obtain⟨a,b,rfl⟩:=h d av
  have:=WX λx c=>h x<|ah _ c
  simp[pH,tU]
  lia
theorem aaQ (E:o9 e)(n:Int):h9 (nameAt e n)=true:=An E _ (by have:=E.t0;lia)
theorem acJ (E:o9 e){N:Nd}{s:Int}{nm:Str}{d:D}(h:Row e N s nm d):okR d:=by
 obtain⟨m,c,b,n,i,a,l,p,r,q,rfl,rfl⟩:=h;obtain⟨g,f⟩:=Cd E n<|cq c;have k:=WX i;have j:=aaQ E n;refine⟨by simp[okD,rA,j,g,a],?_⟩;simp only[tU,pH,f]
 lia
mutual
theorem PL:∀(w:List Int) (r:Rc) (g:Gm),jn g->∀p∈prG w r g,jn p.2.1
 |w,r,.fin d,h,p,hp=>by
  have:p=(w,.fin d,r):=by simpa[prG] using hp
  rw[this];exact h
 |w,r,.deal n ws,h,p,hp=>by
  rcases a9.mp (hp) with e|e
  ·rw[e];exact h
  ·exact Jz w _ 0 ws h.2 p e
 |w,r,.move s n ws,h,p,hp=>by
  rcases a9.mp (hp) with e|e
  ·rw[e];exact h
  ·exact Jz w _ 0 ws h.2 p e
theorem Jz:∀(w:List Int) (f:D->Rc) (i:Nat) (ws:Ws),z7 ws->∀p∈prW w f i ws,jn p.2.1
 |w,f,i,.nil,_,p,hp=>by cases hp
 |w,f,i,.cons l g r,h,p,hp=>by
  rcases cE.mp (hp) with e|e
  ·exact PL _ _ g h.1 p e
  ·exact Jz w f (i+1) r h.2 p e
end
noncomputable def nmD:D->Str
 | .tup [_,.str n,_,_]=>n
 |_=>⟨#[]⟩
def kOf (d:D):List Kt:=kn (sdD d)<|nmD d
def TI (T:Tb):Prop:=T.1=T.2.map kOf/\T.1.Nodup
theorem aaE (h:TI T)(p:Tr):TI (tst T p):=by
 unfold tst;split
 ·rename_i s n i r;split
  ·exact h
  ·rename_i q;have f:T.1.length=T.2.length:=by rw[h.1];simp
   have m:kn s n∉T.1:=λk=>by
    have:∀{c:List (List Kt)} {d:List D},c.length=d.length->kn s n∈c->(dH c d<|kn s n).isSome=true:=by
     intro c;induction c with
     |nil=>intro d _ h;cases h
     |cons a c ih=>
      intro d f h;cases d with
      |nil=>simp at f
      |cons x d=>
       unfold dH;by_cases g:a=kn s n
       ·rw[if_pos g];rfl
       ·rw[if_neg g];rcases a9.mp h with e|e
        ·exact absurd e.symm g
        ·exact ih (by simpa using f) e
    exact q<|this f k
   refine⟨?_,?_⟩
   ·show T.1++[kn s n]=(T.2++[jb s n i p.2.2]).map kOf;rw[cK,← h.1];rfl
   ·show(T.1++[kn s n]).Nodup;rw[wm];exact⟨h.2,by simp,λa l b j=>by rw[cm.mp j];exact λz=>m<|z▸l⟩
 ·exact h
theorem IV:∀(l:List Tr) (T:Tb),TI T->TI (l.foldl tst T)
 |[],T,h=>h
 |p::l,T,h=>IV l (tst T p)<|aaE h p
theorem sub_len:∀{l p:List Str},l.Nodup->(∀x∈l,x∈p)->l.length<=p.length
 |[],p,_,_=>d5 _
 |a::l,p,nd,h=>by
  have d:=h a av;have b:=kq.mp nd
  have:=sub_len b.2 λx c=>(List.mem_erase_of_ne λ(z:x=a)=>b.1 (by rw[← z];exact c)).mpr<|h x<|ah _ c
  rw[List.length_erase_of_mem d] at this
  have:=List.length_pos_of_mem d
  simp only[cy]
  lia
theorem name_mem (E:o9 e)(n:Int):nameAt e n∈e.pool:=by grind[E.p8,cS,aw,nameAt]
theorem Kf (G:Grw e N rc g dep){d:D}(h:d∈(tbl<|prG [] rc g).2):∃s n,(s=1\/s=2)/\Row e N s n d:=by
 rcases Ig (prG [] rc g) ([],[]) d h with z|⟨p,a,s,n,i,b,rfl⟩
 ·cases z
 ·have c:=G.pl [] p a;have f:=Kl [] rc g G.len G.sd p a;obtain⟨w,q,r⟩:=p;subst b;exact⟨s,n,f.1,c⟩
theorem ad8 (h:Row e N s n d):wdD d<=3:=by
 obtain⟨a,c,b,k,_,_,_,_,_,f,_,rfl⟩:=h;simpa[wdD] using f.2
theorem Vn (E:o9 e){N:Nd}{g:Gm}{rc:Rc}{dep:Nat}(G:Grw e N rc g dep)(s:Int):okT (tbl<|prG [] rc g).2 s:=by
 have T:=IV (prG [] rc g) ([],[]) ⟨rfl,qh⟩;generalize q:(tbl<|prG [] rc g).2=R at *;have f:∀d∈R,∃s n,(s=1\/s=2)/\Row e N s n d:=λd hd=>Kf G (by rw[q];exact hd);have F:((prG [] rc g).foldl tst ([],[])).2=R:=q;obtain⟨r,p⟩:=T;rw[F] at r;rw[r] at p;have w:(R.filter λd=>decide<|sdD d=s).Pairwise λa b=>kOf a≠kOf b:=by
  have:=(k8.mp p)
  exact this.sublist List.filter_sublist
 have j:((R.filter λd=>decide<|sdD d=s).map nmD).Nodup:=by
  refine k8.mpr<|w.imp_of_mem λ{a b} H A h z=>h ?_;have y:sdD a=s:=by simpa using(hG.mp H).2
  have t:sdD b=s:=by simpa using(hG.mp A).2
  unfold kOf;rw[y,t,z]
 have sub:∀x∈(R.filter λd=>decide<|sdD d=s).map nmD,x∈e.pool:=λx i=>by
  obtain⟨d,hd,rfl⟩:=dr.mp i;obtain⟨_,n,_,B,c,b,k,_,_,_,_,_,_,rfl,rfl⟩:=f d (hG.mp hd).1;exact name_mem E k
 have m:=sub_len j sub;rw[a6,E.p8] at m;have v:∀l:List D,(∀d∈l,∃s n,(s=1\/s=2)/\Row e N s n d)->(l.map λd=>(wdD d:Int)).sum<=3*l.length:=by
  intro l;induction l with
  |nil=>intro _;simp
  |cons d l ih=>
   intro h
   have:=ih λx i=>h x<|ah _ i
   obtain⟨_,n,_,u⟩:=h d av;have K:=ad8 u;simp only[ay,lP,cy]
   lia
 exact⟨m,Int.le_trans (v _ λd hd=>f d (hG.mp hd).1)<|by lia⟩
theorem afl (E:o9 e)(o:e.pool.Nodup){N:Nd}{m:Int×Int}(I:qm N m){g:Gm}{dep:Nat}(hd:dep<=12)(G:Grw e N ([],[]) g dep)(hz:szG g<=64):Gd g where
 len:=G.len
 sd:=G.sd
 dep:=hV G.dep hd
 sz:=hz
 row:=by
  classical
  refine⟨λs n=>if h:∃d,Row e N s n d then iF h else .non,λp b s n f j=>?_⟩;have c:=G.pl [] p b;have i:=Kl [] ([],[]) g G.len G.sd p b;obtain⟨w,q,r⟩:=p;subst j;have a:∃d,Row e N s n d:=⟨_,c⟩;have k:=aaY E o I i.1 c<|dQ a;simp only[dif_pos a];exact⟨k,acJ E<|dQ a⟩
 fr:=λp b=>by
  have c:=G.pl [] p b;refine⟨?_,PL [] ([],[]) g G.len p b⟩;obtain⟨w,q,r⟩:=p;cases q with
  |fin d=>exact c.1
  |deal n f=>exact c.1
  |move s n f=>trivial
 t1:=Vn E G 1
 t2:=Vn E G 2
theorem agZ:qm ([],[]) (0,0):=⟨rfl,by simp,by simp,λ_ _ _ _ _ _ _ h=>by simp[dH] at h,λ_ _ _ _ _ _ _ _ _ _ _ h=>by simp[dH] at h⟩
def gmM (e:En)(turn:Int)(rm dep:Nat)(s5 s6 s7:Sl):Me:=[.fz<|cD e,.fz<|.int turn,.fz<|.int (dep:Int),.fz<|.int (rm:Int),.fz<|.lst<|e.pool.map D.str,s5,s6,s7]
theorem acn (e:En)(rm:Nat)(o C:Addr):JH [] [] [(.str "at",.int 0),(.str "room",.int (rm:Int)),(.str "names",.adr o),(.str "many",.adr C),(.str "pool",.lst<|e.pool.map D.str)]=some ([sk "at",sk "room",sk "names",sk "many",sk "pool"],[.int 0,.int (rm:Int),.adr o,.adr C,.lst<|e.pool.map D.str]):=by
 simp[JH,jW,putD,sk]
theorem Yc {o : Bf} {e : En} {turn : Int} {rm dep : Nat} {d : D} (I : e.turn = turn % 64) (C : e.lev = decide (turn / 64 % 2 = 1))
    (h : ∀ A : Addr × Addr, ∃ s n m, o [cD e, .int (dep : Int), rcD ([], [])] (stD e A 0 (rm : Int)) (A.1, nD ([], [])) (A.2, mD (0, 0)) = .ok (d, s, n, m)) :
    aV 8 5 (pC o) [cD e, .int turn, .int (dep : Int), .int (rm : Int), .lst (e.pool.map D.str)] = .ok (false, d) := by
  have f : Bq 64 := bgS (by decide);have H : ∀ a b : Addr, a ≠ b → ∃ i, ((ofO (JH [] [] [(.str "at", .int 0), (.str "room", .int (rm : Int)), (.str "names", .adr a), (.str "many", .adr b), (.str "pool", .lst (e.pool.map D.str))])).bind λr => (aH (iJ 5 (fC (.str "turn")) (az bc (aj 1) (fC (.int 64))))
 (aH (iJ 5 (fC (.str "level")) (je gEq (az bc (az dq (aj 1) (fC (.int 64))) (fC (.int 2))) (fC (.int 1))))
 (vO (wA o 5 1 6 7 (aa (aG 0) (aa (aG 2) (aa (dW (aa (bu aB) (aa (bu aB) aB))) aB))))))) (((gmM e turn rm dep .un .un .un).set 5 (.ow (.dct r.1 r.2))).set 6 (.hd true a (nD ([], []))) |>.set 7 (.hd true b (mD (0, 0))))) = .ok (.rt false d, i) ∧ i.length = (gmM e turn rm dep .un .un .un).length := by
    intro a b t;obtain ⟨s, n, m, c⟩ := h (a, b);refine ⟨gmM e turn rm dep (.ow s) (.hd true a n) (.hd true b m), ?_, rfl⟩;rw [acn];simp only [qQ, Res.uQ];have q : ∀ k, aH (iJ 5 (fC (.str "turn")) (az bc (aj 1) (fC (.int 64)))) k (gmM e turn rm dep (.ow (.dct [sk "at", sk "room", sk "names", sk "many", sk "pool"] [.int 0, .int (rm : Int), .adr a, .adr b, .lst (e.pool.map D.str)])) (.hd true a (nD ([], []))) (.hd true b (mD (0, 0)))) = k (gmM e turn rm dep (.ow (.dct [sk "at", sk "room", sk "names", sk "many", sk "pool", sk "turn"] [.int 0, .int (rm : Int), .adr a, .adr b, .lst (e.pool.map D.str), .int e.turn])) (.hd true a (nD ([], []))) (.hd true b (mD (0, 0)))) := λk => gs (by
      simp [gmM, iJ, az, aj, fC, bc, mdI, qg, jW, nu, putD, sk, I])
    have l : ∀ k, aH (iJ 5 (fC (.str "level")) (je gEq (az bc (az dq (aj 1) (fC (.int 64))) (fC (.int 2))) (fC (.int 1)))) k (gmM e turn rm dep (.ow (.dct [sk "at", sk "room", sk "names", sk "many", sk "pool", sk "turn"] [.int 0, .int (rm : Int), .adr a, .adr b, .lst (e.pool.map D.str), .int e.turn])) (.hd true a (nD ([], []))) (.hd true b (mD (0, 0)))) = k (gmM e turn rm dep (.ow (stD e (a, b) 0 (rm : Int))) (.hd true a (nD ([], []))) (.hd true b (mD (0, 0)))) := λk => gs (by
      simp [gmM, iJ, je, az, aj, fC, bc, mdI, dq, dvI, f, qg, jW, nu, putD, sk, stD, Ue, C])
    show aH _ _ (gmM e turn rm dep (.ow (.dct [sk "at", sk "room", sk "names", sk "many", sk "pool"] [.int 0, .int (rm : Int), .adr a, .adr b, .lst (e.pool.map D.str)])) (.hd true a (nD ([], []))) (.hd true b (mD (0, 0)))) = _;rw [q, l];simp only [gmM, rcD] at c ⊢;generalize stD e (a, b) 0 (rm : Int) = ST at *;generalize nD ([], []) = NN at *;generalize mD (0, 0) = MM at *;simp [vO, wA, Ja, yI, aa, aB, aG, dW, bu, c, CN]
  have g := aaK H;have start : [cD e, .int turn, .int (dep : Int), .int (rm : Int), .lst (e.pool.map D.str)].map Sl.fz ++ c9 (8 - 5) Sl.un = gmM e turn rm dep .un .un .un := rfl;have j : pC o (gmM e turn rm dep .un .un .un) = .ok (.rt false d, (gmM e turn rm dep .un .un .un).map λ_ => .un) := by
    rw [← g];rfl
  have p : [cD e, .int turn, .int (dep : Int), .int (rm : Int), .lst (e.pool.map D.str)].length = 5 := rfl;unfold aV;rw [if_pos p, start, j]
theorem aag (E:o9 e){turn:Int}{rm dep:Nat}(hd:dep<=12)(J:rm<=63)(o:e.turn=turn%64)(C:e.lev=decide (turn/64%2=1)):
  ∃(g:Gm) (N:Nd) (m:Int×Int),pG [cD e,.int turn,.int (dep:Int),.int (rm:Int),.lst<|e.pool.map D.str]=.ok (false,dG g)/\qm N m/\szG g<=rm+1/\Grw e N ([],[]) g dep:=by
 refine Kv (K4 E 13 dep (by lia) hd 0 rm ([],[]) (0,0) ([],[]) agZ (by simp) (by lia) ⟨(λ_ z=>nomatch z),(λ_ z=>nomatch z),rfl,rfl,by simpa using hd,by simpa using hd⟩) λg b d N m a I _ _ c _ G=>?_;exact⟨g,N,m,Yc o C λA=>⟨_,_,_,a A⟩,I,by lia,G⟩
theorem cell_eq (o:List Int)(k:Nat)(hz:o.length<=1000):∃v:Int,gZ [.lst<|o.map D.int,.int (k:Int)]=.ok (false,.int v):=by
 by_cases h:k<o.length
 ·have b:atI (o.map D.int) (k:Int)=some (.int o[k]):=pO (by rw[a5,aw h];rfl);have a:(k:Int)<(o.length:Int):=by lia
  exact⟨o[k],by simp[gZ,kJ,kh,aV,aH,gIf,aK,aj,aP,cP,aa,aB,gLt,h,a,aY,Me.let,Sl.let,az,gIx,b]⟩
 ·have a:¬(k:Int)<(o.length:Int):=by lia
  exact⟨0,by simp[gZ,kJ,kh,aV,aH,gIf,aK,aj,aP,cP,aa,aB,gLt,h,a,aY,Me.let,Sl.let,gNx,fC]⟩
noncomputable def ss:List Nat:=[97,98,99,100,101,102,103,104,105,106,107,108,109,110,111,112,113,114,115,116,117,118,119,120,121,122,48,49,50,51,52,53,54,55,56,57]
theorem adC:eB "abcdefghijklmnopqrstuvwxyz0123456789" = tx ss:=by decide +kernel
theorem ab0:∀c∈ss,c<128:=by decide
theorem aeH:ss.Nodup:=by decide
def sgn (i:Int):Nat:=ss.getD i.toNat 0
theorem Ak (h:0<=i/\i<36):sgn i∈ss:=by
 have a:i.toNat<ss.length:=by show i.toNat<36;lia
 unfold sgn;rw[cS,aw a];exact nS a
theorem abo (h:0<=i/\i<36)(h':0<=j/\j<36)(e:sgn i=sgn j):i=j:=by
 have b:i.toNat<ss.length:=by show i.toNat<36;lia
 have a:j.toNat<ss.length:=by show j.toNat<36;lia
 unfold sgn at e;rw[cS,aw b,cS,aw a] at e
 have:=(List.getElem_inj aeH).mp e
 lia
theorem ab8 (h:0<=i/\i<36):gIx (.str "abcdefghijklmnopqrstuvwxyz0123456789") (.int i)=some (.str<|tx [sgn i]):=by
 show gIx (.str<|eB "abcdefghijklmnopqrstuvwxyz0123456789") _=_;rw[adC];have a:i.toNat<ss.length:=by show i.toNat<36;lia
 have e:atI ss i=some (sgn i):=by
  have:=pO<|aw a
  rw[show((i.toNat:Nat):Int)=i by lia] at this;rw[this];unfold sgn;rw[cS,aw a];rfl
 show(if(tx ss).length<=ai then(atI (tx ss).cps.toList i).map λc=>D.str ⟨#[c]⟩ else none)=_;rw[if_pos (by rw[vL];decide),Am,e];rfl
theorem aai:ai=16777216:=rfl
theorem Y0 (h:a.length+b.length<=1000):bR (.str<|tx a) (.str<|tx b)=some (.str<|tx<|a++b):=by
 show(if(tx a).length+(tx b).length<=ai then some (D.str<|tx a++tx b) else none)=_;rw[if_pos (by rw[vL,vL,aai];lia),adO]
theorem ab2 (C:0<=i)(o:i<=w.length)(I:w.length<=1000):gSl (.str<|tx w) none (some i)=some (.str<|tx<|w.take i.toNat):=by
 show(if(tx w).length<=ai then some (D.str<|zk (tx w) none<|some i) else none)=_;rw[if_pos (by rw[vL,aai];lia)]
 have:=StrLaws.sliceText_to ⟨C,by rw[Am];exact o⟩
 rw[show zk (tx w) none (some i)=Bz (tx w) none (some i) from rfl,this];simp[tx]
theorem V5 (C:0<=i)(o:i<=w.length):zk (tx w) (some i) none=tx (w.drop i.toNat):=by
 have:=StrLaws.sliceText_from ⟨C,by rw[Am];exact o⟩
 rw[show zk (tx w) (some i) none=Bz (tx w) (some i) none from rfl,this];refine OJ ?_;rw[Am];show((w.drop i.toNat).take _)=_;exact pS (by rw[nN];lia)
theorem aa4 (C:0<=i)(o:i<=w.length)(I:w.length<=1000):gSl (.str<|tx w) (some i) none=some (.str<|tx<|w.drop i.toNat):=by
 show(if(tx w).length<=ai then some (D.str<|zk (tx w) (some i) none) else none)=_;rw[if_pos (by rw[vL,aai];lia),V5 C o]
noncomputable def yu (w:List Nat):List Nat:=w++w++w++w++w++w++w++w
theorem agT (h:1<=w.length)(o:w.length<=100):PN (.int 8) (.str<|tx w)=some (.str<|tx<|yu w):=by
 show(if(0:Int)<=8/\(8:Int)<=1000/\(tx w).length<=1000 then some (D.str<|B7 (tx w) 8) else none)=_;rw[if_pos ⟨by decide,by decide,by rw[vL];lia⟩];congr 2;unfold B7;rw[if_neg (by decide),if_neg (by rw[vL];simp;intro z;rw[z] at h;simp at h)];refine OJ ?_;show(List.foldl (· ++ ·) #[] (c9 8 w.toArray)).toList=_;simp[c9,yu,fy]
theorem Hz (o:P.length<=100):ju [.fz<|.int x,s1,s2,s3,.ow<|.lst P,s5,s6,s7,s8,s9]=.ok (.nx,[.fz<|.int<|x/36,s1,s2,s3,.ow<|.lst<|P++[.int<|x%36],s5,s6,s7,s8,s9]):=by
 have b:Bq 36:=bgS (by decide);have a:P.length<16777216:=by lia
 simp[ju,aH,dh,jY,putL,az,aj,fC,bc,mdI,dq,dvI,b,a,bC]
theorem Az:∀(c i:Nat) (x:Int) (P:List Int) (s5:Sl),P.length+c<=100->(∀p∈P,0<=p/\p<36)->∃(o s5':Sl) (Q:List Int),bI (hName 5) ju ((lI i c).map λ(k:Nat)=>D.int k) [.fz<|.int x,s1,s2,s3,.ow<|.lst<|P.map D.int,s5,s6,s7,s8,s9]=.ok (.nx,[o,s1,s2,s3,.ow<|.lst<|Q.map D.int,s5',s6,s7,s8,s9])/\Q.length=P.length+c/\∀p∈Q,0<=p/\p<36
 |0,i,x,P,s5,_,hp=>⟨_,s5,P,rfl,rfl,hp⟩
 |c+1,i,x,P,s5,hz,hp=>by
  have b:=Hz (s1:=s1) (s2:=s2) (s3:=s3) (s5:=.fz<|.int (i:Int)) (s6:=s6) (s7:=s7) (s8:=s8) (s9:=s9) (x:=x) (P:=P.map D.int) (by simp;lia);obtain⟨o,d,Q,e,l,h⟩:=Az (s1:=s1) (s2:=s2) (s3:=s3) (s6:=s6) (s7:=s7) (s8:=s8) (s9:=s9) c (i+1) (x/36) (P++[x%36]) (.fz<|.int (i:Int)) (by simp;lia) λp a=>by
   rcases cE.mp a with e|e
   ·exact hp p e
   ·rw[cm.mp e];lia
  refine⟨o,d,Q,?_,by rw[l];simp;lia,h⟩;rw[js,ay,dI (m1:=[.fz<|.int x,s1,s2,s3,.ow<|.lst<|P.map D.int,.fz<|.int (i:Int),s6,s7,s8,s9]) rfl b];rw[cK] at e;exact e
theorem GZ:∀ps:List Int,IK (ps.map λp=>D.str<|tx [sgn p])=some ((ps.map sgn).map λc=>tx [c])
 |[]=>rfl
 |p::ps=>by simp[IK,GZ ps]
theorem aaC (ps:List Int)(o:ps.length<=1000):G4 (.str "") [.lst<|ps.map λp=>D.str<|tx [sgn p]]=some (.str<|tx<|ps.map sgn):=by
 have e:((ps.map sgn).map λc=>tx [c])=(ps.map sgn).map λc=>(⟨#[c]⟩:Str):=rfl;have a:=TY<|ps.map sgn;show(match IK (ps.map λp=>D.str<|tx [sgn p]) with
  |some zs=>if B6 (eB "") zs=true then some (D.str<|A5 (eB "") zs) else none
  |none=>none)=_
 rw[GZ,e];show(if B6 (eB "") _=true then some (D.str<|A5 (eB "") _) else none)=_;rw[if_pos<|joinOk_of (by rw[a];simp;lia)];congr 2;exact OJ<|by rw[VP,a]
theorem ae3 {ps:List Int}(C:ps.length<=1000)(o:∀p∈ps,0<=p/\p<36):qx [u0,u1,.fz<|.str "abcdefghijklmnopqrstuvwxyz0123456789",u3,.ow<|.lst<|ps.map D.int,u5,u6,u7,u8,u9]=.ok (.lst<|ps.map λp=>D.str<|tx [sgn p]):=by
 have c:fK (hName 0) jV qi [.un,.fz<|.str "abcdefghijklmnopqrstuvwxyz0123456789"] (ps.map D.int)=.ok (ps.map λp=>D.str<|tx [sgn p]):=iW ps λp a=>by
  refine⟨[.fz<|.int p,.fz<|.str "abcdefghijklmnopqrstuvwxyz0123456789"],rfl,rfl,?_⟩;have e:=ab8<|o p a;generalize D.str "abcdefghijklmnopqrstuvwxyz0123456789" = Z at *;simp[qi,az,aj,e]
 have b:ps.length<=16777216:=by lia
 generalize D.str "abcdefghijklmnopqrstuvwxyz0123456789" = Z at *;simp[qx,d7,jf,aj,cMe,Sl.bor,c,b]
theorem afs (o:1<=w.length)(C:w.length<=100):qF [u0,u1,u2,u3,u4,u5,.fz<|.str<|tx w,u7,u8,u9]=.ok (.lst<|(cq 8).map λ(k:Nat)=>D.str<|tx<|(yu w).take<|k+1):=by
 have g:(yu w).length=8*w.length:=by simp[yu];lia
 have f:=agT o C;have c:(aa (fC<|.int 1)<|aa (fC<|.int 9) aB) [u0,u1,u2,u3,u4,u5,.fz<|.str<|tx w,u7,u8,u9]=.ok [.int 1,.int 9]:=by simp[aa,fC,aB]
 have e:=agi c (by lia) (by lia) (by lia) (by lia);have d:fK (hName 0) jV lV [.un,.fz<|.str<|tx w] ((cq 8).map λ(k:Nat)=>D.int<|1+k)=.ok ((cq 8).map λ(k:Nat)=>D.str<|tx<|(yu w).take<|k+1):=iW (cq 8) λk a=>by
  have a:=l5.mp a;refine⟨[.fz<|.int<|1+k,.fz<|.str<|tx w],rfl,rfl,?_⟩;have b:=ab2 (w:=yu w) (i:=1+(k:Int)) (by lia) (by lia) (by lia);rw[show(1+(k:Int)).toNat=k+1 by lia] at b;generalize D.str (tx w)=W at *;simp[lV,fSl,az,fC,aj,f,fO0,fO1,b]
 unfold qF d7;rw[e];show(if((cq 8).map λ(k:Nat)=>D.int<|1+k).length<=ai then match fK (hName 0) jV lV [.un,.fz<|.str<|tx w] ((cq 8).map λ(k:Nat)=>D.int<|1+k) with
  | .ok ys=>Res.ok<|D.lst ys
  |_=>.stuck
 else .stuck)=_
 rw[d,if_pos<|by decide]
def Kg (w:List Nat)(a:Nat)(p:Int)(k:Nat):Str:=tx<|w.take a++[sgn<|(p+4*k)%36]++w.drop (a+1)
theorem ZL {s0 s1 s3 s9:Sl}{ps FF:List D}{w:List Nat}{a k:Nat}{p:Int}(o:atI ps (a:Int)=some (.int p))(J:a<w.length)(C:w.length<=100)(hk:k<=100)(I:FF.length<=100):
  jw [s0,s1,.fz<|.str "abcdefghijklmnopqrstuvwxyz0123456789",s3,.ow<|.lst ps,.fz<|.int (k:Int),.fz<|.str<|tx w,.fz<|.int (a:Int),.ow<|.lst FF,s9]=.ok (.nx,[s0,s1,.fz<|.str "abcdefghijklmnopqrstuvwxyz0123456789",s3,.ow<|.lst ps,.fz<|.int (k:Int),.fz<|.str<|tx w,.fz<|.int (a:Int),.ow<|.lst<|FF++[.str<|Kg w a p k],.fz<|.str<|tx [sgn<|(p+4*k)%36]]):=by
 have m:Bq 4:=bgS (by decide);have j:Bq (k:Int):=bgS (by lia);have q:FF.length<16777216:=by lia
 have l:=ab8 (i:=(p+4*(k:Int))%36) (by lia);have e:=ab2 (w:=w) (i:=(a:Int)) (by lia) (by lia) (by lia);have d:=aa4 (w:=w) (i:=(a:Int)+1) (by lia) (by lia) (by lia);rw[show((a:Int)).toNat=a by lia] at e;rw[show((a:Int)+1).toNat=a+1 by lia] at d;have g:=Y0 (a:=w.take a) (b:=[sgn<|(p+4*k)%36]) (by simp;lia);have h:=Y0 (a:=w.take a++[sgn<|(p+4*k)%36]) (b:=w.drop<|a+1) (by simp;lia);unfold Kg;generalize D.str "abcdefghijklmnopqrstuvwxyz0123456789" = Z at *;generalize D.str (tx<|w.take a++[sgn<|(p+4*k)%36]++w.drop (a+1))=R at *;generalize D.str (tx<|w.take a++[sgn<|(p+4*k)%36])=R1 at *;generalize D.str (tx w)=W at *;generalize D.str (tx<|w.take a)=W1 at *;generalize D.str (tx<|w.drop<|a+1)=W2 at *;generalize D.str (tx [sgn<|(p+4*k)%36])=W3 at *;have n:gIx (.lst ps) (.int (a:Int))=some (.int p):=o;have r:F.bR (.int p) (.int<|4*(k:Int))=some (.int<|p+4*k):=rfl;have s:F.bR (.int (a:Int)) (.int 1)=some (.int<|(a:Int)+1):=rfl;have f:F.eX (.int 4) (.int (k:Int))=some (.int<|4*(k:Int)):=by simp[eX,m,j]
 have c:F.bc (.int<|p+4*k) (.int 36)=some (.int<|(p+4*(k:Int))%36):=by simp[bc,mdI]
 simp only[jw];simp[aH,bC,az,aj,fC,n,r,s,f,c,l,dh,jY,putL,fSl,fO0,fO1,e,d,g,h,q]
theorem Q3 {s0 s1 s3:Sl}{ps:List D}{w:List Nat}{a:Nat}{p:Int}(I:atI ps (a:Int)=some (.int p))(C:a<w.length)(o:w.length<=100):∀(c i:Nat) (FF:List D) (s5 s9:Sl),FF.length+c<=100->i+c<=100->∃s5' s9':Sl,
  bI (hName 5) jw ((lI i c).map λ(k:Nat)=>D.int k) [s0,s1,.fz<|.str "abcdefghijklmnopqrstuvwxyz0123456789",s3,.ow<|.lst ps,s5,.fz<|.str<|tx w,.fz<|.int (a:Int),.ow<|.lst FF,s9] =
   .ok (.nx,[s0,s1,.fz<|.str "abcdefghijklmnopqrstuvwxyz0123456789",s3,.ow<|.lst ps,s5',.fz<|.str<|tx w,.fz<|.int (a:Int),.ow<|.lst<|FF++(lI i c).map λ(k:Nat)=>.str<|Kg w a p k,s9'])
 |0,i,FF,s5,s9,_,_=>⟨s5,s9,by simp[bI]⟩
 |c+1,i,FF,s5,s9,hz,hi=>by
  have b:=ZL (s0:=s0) (s1:=s1) (s3:=s3) (s9:=s9) (FF:=FF) (k:=i) I C o (by lia) (by lia);obtain⟨s5',s9',e⟩:=Q3 (s0:=s0) (s1:=s1) (s3:=s3) I C o c (i+1) (FF++[.str<|Kg w a p i]) (.fz<|.int (i:Int)) (.fz<|.str<|tx [sgn<|(p+4*i)%36]) (by simp;lia) (by lia);refine⟨s5',s9',?_⟩;rw[js,ay,dI (m1:=[s0,s1,.fz<|.str "abcdefghijklmnopqrstuvwxyz0123456789",s3,.ow<|.lst ps,.fz<|.int (i:Int),.fz<|.str<|tx w,.fz<|.int (a:Int),.ow<|.lst FF,s9]) rfl b,e]
  simp
structure ady (p:List Str):Prop where
 p8:p.length=8
 nd:p.Nodup
 ok:∀x∈p,h9 x=true
 ins:∀x∈p,∀c∈x.cps.toList,c∈ss
 len:∀x∈p,x.length<=20
theorem Tt {I L8:Zab}{J o:Zae}{r:D}{c tt:Int}{C s5:Sl}{P W:D}(h:tt/8%3=1)
  (eL:I [.fz<|.int<|c/8,.fz<|.int tt,.fz<|.str "abcdefghijklmnopqrstuvwxyz0123456789",.fz<|.int<|1+c%8,.ow<|.lst [],.un,.un,.un,.un,.un]=.ok (.nx,[C,.fz<|.int tt,.fz<|.str "abcdefghijklmnopqrstuvwxyz0123456789",.fz<|.int<|1+c%8,.ow P,s5,.un,.un,.un,.un]))
  (U:J [C,.fz<|.int tt,.fz<|.str "abcdefghijklmnopqrstuvwxyz0123456789",.fz<|.int<|1+c%8,.ow P,s5,.un,.un,.un,.un]=.ok r) (ej:G4 (.str "") [r]=some W)
  {R:D} (e6:∀u0 u1 u2 u3 u4 u5 u7 u8 u9:Sl,o [u0,u1,u2,u3,u4,u5,.fz W,u7,u8,u9]=.ok R):aV 10 2 (jU I J o L8) [.int c,.int tt]=.ok (true,R):=by
 unfold aV jU;have a:Bq 8:=bgS (by decide);have ty:tyD "str" (.str "")=true:=rfl;generalize D.str "abcdefghijklmnopqrstuvwxyz0123456789" = Z at *;generalize D.str "" = Z0 at *;simp[aH,bC,fC,az,aj,bR,bc,mdI,dq,dvI,a,eV,dW,aB,eL,Qa,ty,aa,U,ej,gIf,aK,h,pQ,Me.let,Sl.let,e6]
theorem Uw {C J:Zab}{I Q6:Zae}{r:D}{c tt:Int}{o s5 s5' s9':Sl}{P W:D}(h:¬tt/8%3=1)
  (eL:C [.fz<|.int<|c/8,.fz<|.int tt,.fz<|.str "abcdefghijklmnopqrstuvwxyz0123456789",.fz<|.int<|1+c%8,.ow<|.lst [],.un,.un,.un,.un,.un]=.ok (.nx,[o,.fz<|.int tt,.fz<|.str "abcdefghijklmnopqrstuvwxyz0123456789",.fz<|.int<|1+c%8,.ow P,s5,.un,.un,.un,.un]))
  (e4:I [o,.fz<|.int tt,.fz<|.str "abcdefghijklmnopqrstuvwxyz0123456789",.fz<|.int<|1+c%8,.ow P,s5,.un,.un,.un,.un]=.ok r) (U:G4 (.str "") [r]=some W)
  {R:D} (e8:J [o,.fz<|.int tt,.fz<|.str "abcdefghijklmnopqrstuvwxyz0123456789",.fz<|.int<|1+c%8,.ow P,s5,.fz W,.fz<|.int<|tt%(1+c%8),.ow<|.lst [],.un]=.ok (.nx,[o,.fz<|.int tt,.fz<|.str "abcdefghijklmnopqrstuvwxyz0123456789",.fz<|.int<|1+c%8,.ow P,s5',.fz W,.fz<|.int<|tt%(1+c%8),.ow R,s9'])):aV 10 2 (jU C I Q6 J) [.int c,.int tt]=.ok (true,R):=by
 unfold aV jU;have f:Bq 8:=bgS (by decide);have ty:tyD "str" (.str "")=true:=rfl;have d:0<1+c%8:=by lia
 have b:¬1+c%8=0:=by lia
 have e:mdI tt (1+c%8)=tt%(1+c%8):=if_pos d;generalize a:1+c%8=S at *;generalize D.str "abcdefghijklmnopqrstuvwxyz0123456789" = Z at *;generalize D.str "" = Z0 at *;simp[aH,bC,fC,az,aj,bR,bc,dq,dvI,f,eV,dW,aB,show mdI c 8=c%8 from if_pos (by decide),a,eL,Qa,ty,aa,e4,U,gIf,aK,show mdI (tt/8) 3=tt/8%3 from if_pos (by decide),h,gNx,b,e,e8,jg,Me.let,Sl.let]
theorem Z1 {c tt:Int}:∃(o s5:Sl) (ps:List Int),qH [.fz<|.int<|c/8,.fz<|.int tt,.fz<|.str "abcdefghijklmnopqrstuvwxyz0123456789",.fz<|.int<|1+c%8,.ow<|.lst [],.un,.un,.un,.un,.un]=.ok (.nx,[o,.fz<|.int tt,.fz<|.str "abcdefghijklmnopqrstuvwxyz0123456789",.fz<|.int<|1+c%8,.ow<|.lst<|ps.map D.int,s5,.un,.un,.un,.un])/\(ps.length:Int)=1+c%8/\∀p∈ps,0<=p/\p<36:=by
 have g:0<=1+c%8/\1+c%8<=8:=by lia
 generalize 1+c%8=S at *;obtain⟨o,s5,Q,e,a,d⟩:=Az S.toNat 0 (c/8) [] .un (by simp;lia) λ_ z=>nomatch z;refine⟨o,s5,Q,?_,by simp at a;lia,d⟩;have b:(aa (aj 3) aB) [.fz<|.int<|c/8,.fz<|.int tt,.fz<|.str "abcdefghijklmnopqrstuvwxyz0123456789",.fz<|.int S,.ow<|.lst [],.un,.un,.un,.un,.un]=.ok [.int S]:=by
  generalize D.str "abcdefghijklmnopqrstuvwxyz0123456789" = Z;simp[aa,aj,aB]
 have f:=Nq b (by lia) (by lia);unfold qH ir;rw[f];show bI (hName 5) ju ((cq S.toNat).map λ(k:Nat)=>D.int k) _=_;rw[gT];exact e
theorem aaf {w:List Nat}{a:Nat}{p:Int}{k:Nat}(o:∀c∈w,c<128):h9 (Kg w a p k)=true:=by
 refine Kq λc b=>?_;rcases cE.mp b with b|b
 ·rcases cE.mp b with b|b
  ·exact o c<|kM b
  ·rw[cm.mp b];exact ab0 _<|Ak<|by lia
 ·exact o c<|rV b
theorem WY {w:List Nat}{a:Nat}{p:Int}{k j:Nat}(hk:k<8)(o:j<8)(h:Kg w a p k=Kg w a p j):k=j:=by
 have h:=Xk.mp h;rw[fy,fy] at h;have h:=List.append_cancel_left h;injection h with h _
 have:=abo (by lia) (by lia) h
 lia
theorem Qd {w:List Nat}{c:Nat}(h:c∈yu w):c∈w:=by
 simpa[yu] using h
theorem aa2 (c t:Int):∃p:List Str,pK [.int c,.int t]=.ok (true,.lst<|p.map D.str)/\ady p:=by
 obtain⟨y,B,d,H,I,u⟩:=Z1 (c:=c) (tt:=t);have Y:1<=d.length/\d.length<=8:=by lia
 have F:=ae3 (u0:=y) (u1:=.fz<|.int t) (u3:=.fz<|.int<|1+c%8) (u5:=B) (u6:=.un) (u7:=.un) (u8:=.un) (u9:=.un) (by lia) u;have K:=aaC d (by lia);have G:∀k∈d.map sgn,k<128:=λk l=>by
  obtain⟨p,h,rfl⟩:=dr.mp l;exact ab0 _<|Ak<|u p h
 have A:∀k∈d.map sgn,k∈ss:=λk l=>by
  obtain⟨p,h,rfl⟩:=dr.mp l;exact Ak<|u p h
 have o:(d.map sgn).length=d.length:=by simp
 generalize hW:d.map sgn=w at *;by_cases h:t/8%3=1
 ·refine⟨(cq 8).map λk=>tx<|(yu w).take<|k+1,?_,by simp,?_,λx f=>?_,λx f c e=>?_,λx f=>?_⟩
  ·rw[kg];exact Tt h H F K λN W C P U S Z O T=>afs (by lia)<|by lia
  ·refine k8.mpr<|(rj (n:=8)).imp_of_mem λ{a b} r E g z=>g ?_;have r:=l5.mp r;have E:=l5.mp E;have J:(yu w).length=8*w.length:=by simp[yu];lia
   have:=congrArg xk<|Xk.mp z
   rw[lT,lT] at this
   lia
  ·obtain⟨k,_,rfl⟩:=dr.mp f;exact Kq λc e=>G c<|Qd<|kM e
  ·obtain⟨k,_,rfl⟩:=dr.mp f;exact A c<|Qd<|kM e
  ·obtain⟨k,l,rfl⟩:=dr.mp f
   have:=l5.mp l
   show((yu w).take<|k+1).toArray.size<=20
   simp
   lia
 ·obtain⟨a,r⟩:∃a:Nat,(a:Int)=t%(1+c%8):=⟨(t%(1+c%8)).toNat,by have:=fq t (show 1+c%8≠0 by lia);lia⟩;have v:a<w.length:=by have:=fR t (show 0<1+c%8 by lia);lia
  have s:a<d.length:=by lia
  have X:atI (d.map D.int) (a:Int)=some (.int d[a]):=pO (by rw[a5,aw s];rfl);obtain⟨m,q,V⟩:=Q3 (s0:=y) (s1:=.fz<|.int t) (s3:=.fz<|.int<|1+c%8) X v (by lia) 8 0 [] B .un (by simp) (by lia);refine⟨(cq 8).map λk=>Kg w a d[a] k,?_,by simp,?_,λx f=>?_,λx f c e=>?_,λx f=>?_⟩
  ·refine Uw (s5':=m) (s9':=q) h H F K ?_;rw[← r];rw[kg];have R:(aa (fC<|.int 8) aB) [y,.fz<|.int t,.fz<|.str "abcdefghijklmnopqrstuvwxyz0123456789",.fz<|.int<|1+c%8,.ow<|.lst<|d.map D.int,B,.fz<|.str<|tx w,.fz<|.int (a:Int),.ow<|.lst [],.un]=.ok [.int 8]:=by
    simp[aa,fC,aB]
   have Q:=Nq R (by lia) (by lia);unfold vg ir;rw[Q];show bI (hName 5) jw ((cq 8).map λ(k:Nat)=>D.int k) _=_;rw[gT];exact V
  ·refine k8.mpr<|(rj (n:=8)).imp_of_mem λ{i j} L M g z=>g ?_;exact WY (l5.mp L) (l5.mp M) z
  ·obtain⟨k,_,rfl⟩:=dr.mp f;exact aaf G
  ·obtain⟨k,_,rfl⟩:=dr.mp f;rcases cE.mp (show c∈w.take a++[sgn<|(d[a]+4*k)%36]++w.drop (a+1) from e) with e|e
   ·rcases cE.mp e with e|e
    ·exact A c<|kM e
    ·rw[cm.mp e];exact Ak<|by lia
   ·exact A c<|rV e
  ·obtain⟨k,_,rfl⟩:=dr.mp f;show(w.take a++[sgn<|(d[a]+4*k)%36]++w.drop (a+1)).toArray.size<=20
   simp
   lia
end Lw
namespace F
open PySem PySem.Spec PyProof.Rows L2 Hd
section
end
section
variable {X:Cx}{E:XK}{j k:Nat}{c m:Str}{ps:List Str}{Φ:Zac}{apos pos:Pos}{o e:Expr}{es:List Expr}{f0:Zae}{fs:Zad}{pl:Sem Bool}
end
section
variable {P:bE}{w:eI}{K:bo}{mg:Zp}{base:Heap}
end
section
end
section
variable {X:Cx}{E:XK}{e:Expr}{g:Zae}{k:Zab}{c f x kn vn:Str}{fs:List Str}{pos pos' pos2 pos3 spos np np2 kp vp:Pos}{rest:List Stmt}
end
section
variable {X:Cx}{E:XK}{e:Expr}{g:Zae}{c f x:Str}{fs:List Str}{pos pos' np:Pos}
end
section
variable {P:bE}{w:eI}{K:bo}{mg:Zp}{base:Heap}
end
section
end
section
variable {X:Cx}{E:XK}{jj k:Nat}{c f y:Str}{ps:List Str}{Φ:List D->Res (List Str×List D×D)}{py pos η np:Pos}{e:Expr}{es:List Expr}{fs:Zad}{rest:List Stmt}{kk:Zab}
end
end F
namespace Hd
open PySem L2
end Hd
namespace F
open PySem L2 Hd
section
variable {X:Cx}{E:XK}{es:List Expr}{b:Expr}{fs:Zad}{fa fb:Zae}{pos:Pos}
end
open PySem PySem.Spec PyProof.Rows L2 Hd
section
end
section
end
section
end
section
end
section
variable {X:Cx}{E:XK}{jj k:Nat}{x y:Str}{ps:List Str}{Φ:Zac}{py pos η np:Pos}{e:Expr}{es:List Expr}{fs:Zad}{rest:List Stmt}{kk:Zab}
end
section
end
section
end
noncomputable def Lr:Me->Addr->Nat->Option (Nat×Bool×D)
 |[],_,_=>none
 | .hd w b d::m,a,k=>if b=a then some (k,w,d) else Lr m a (k+1)
 |_::m,a,k=>Lr m a<|k+1
theorem Sg:∀{m:Me} {a:Addr} {k:Nat} {r:Nat×Bool×D},Lr m a k=some r->∃i,r.1=k+i/\m[i]? = some (.hd r.2.1 a r.2.2)
 |[],_,_,_,h=>by cases h
 |s::m,a,k,r,h=>by
  have go:Lr m a (k+1)=some r->∃i,r.1=k+i/\(s::m)[i]? = some (.hd r.2.1 a r.2.2):=λh=>by
   obtain⟨i,e,c⟩:=Sg h;exact⟨i+1,by lia,by simpa using c⟩
  cases s with
  |hd w b d=>
   have h:(if b=a then some (k,w,d) else Lr m a (k+1))=some r:=h;by_cases q:b=a
   ·rw[if_pos q] at h;cases h;exact⟨0,rfl,by rw[q];rfl⟩
   ·rw[if_neg q] at h;exact go h
  |un=>exact go h
  |fz d=>exact go h
  |ow d=>exact go h
  |io d=>exact go h
  |bw d=>exact go h
section
end
section
end
noncomputable def uF:List D->Option D
 |[.dct ks ds]=>some<|.dct ks ds
 |_=>none
section
theorem um:gU X (.type "dict") (aaj (gx X) uF):=by
 intro P s R H M L Q I r h;refine Rv h λO A d m E g q=>?_;unfold uF at g;split at g
 ·rename_i N A;cases g;obtain⟨v,rfl,x⟩:=uT E;obtain⟨p,n,K,rfl,t,rfl,rfl,hd⟩:=sX x;obtain⟨u,rfl,B⟩:=vals1 r;cases B;obtain⟨k,a,G,j,y⟩:=tH I.hok t;refine kt_call_dict a y (by rw[← j.length];exact k) λD l F=>?_;have f:=I.hok.fresh<|aS _;have i:(s.heap.objs.size==eW)=false:=by
   have:=I.big
   simpa using qq this
  refine⟨.ref _,_,I.laid (t':=s.toks) (λb u e=>?_) (aS _)<|show gO X.prog X.w _ D _ (.dK n) from⟨k,i,_,j,l⟩,rfl,q _ _ (bH f _) f ⟨_,_,aX,rfl,rfl,?_⟩⟩
  ·rw[F.2 b<|cw<|aE e];exact ar _ e
  ·exact(hd.bQ λc z=>z.elim .inl λe=>.inr (by rw[e];exact f)).mono (bH f _)
 ·cases g
end
section
end
section
end
section
end
section
end
section
variable {X:Cx}{E:XK}{y:Str}{py pos lp:Pos}{es:List Expr}{fs:Zad}{rest:List Stmt}{kk:Zab}
end
section
variable {X:Cx}
theorem vals2 (r:Vals [a,b] us):∃u v,us=[u,v]/\RelV a u/\RelV b v:=by
 cases r with
 |cons r1 r2=>
  cases r2 with
  |cons r2 r3=>cases r3;exact⟨_,_,rfl,r1,r2⟩
end
section
variable {pr:bE}{wo:eI}{Ar:fm}{Ex:Zs}{st:aI}
end
section
variable {pr:bE}{wo:eI}{Ar:fm}{Ex:Zs}{st:aI}
end
theorem mm4 {o:Type}{P:o->Prop}{a b c d:o}(J:P a)(I:P b)(U:P c)(C:P d):∀x∈[a,b,c,d],P x:=by simp[J,I,U,C]
theorem mm5 {o:Type}{P:o->Prop}{a b c d e:o}(U:P e)(I:P a)(J:P b)(h3:P c)(C:P d):∀x∈[e,a,b,c,d],P x:=by simp[U,I,J,h3,C]
theorem ahl {o:Type}{x a b c d:o}(h:x∉[a,b,c,d]):x≠a/\x≠b/\x≠c/\x≠d:=by simpa using h
theorem ahk {o:Type}{a b c d e:o}:∀x∈[e,b,c,d],x∈[e,a,b,c,d]:=mm4 (by simp) (by simp) (by simp)<|by simp
section
variable {X:Cx}
end
end F
namespace Pk
open PySem L2 Hd F
section
def Ce:Zab:=
 (aY<|nJ (ig "int" (aj 0))<|OD<|ig "bool" (aj 0))
def Ek:Zab:=
 Ce
def rM:Zac:=aV 1 1 Ek
def ou (C:Zac)(o:Zac):Zab:=
 (aH (gIf (dR (cG<|fTv<|ig "tuple" (aj 0))<|aK gNe (aP cP<|aa (aj 0) aB)<|fC<|.int 2) (aY<|fC<|.bl false) gNx)
 (aH (gIf (dR (cG<|fTv<|fFn C<|aa (az gIx (aj 0)<|fC<|.int 0) aB)<|cG<|fTv<|fFn C<|aa (az gIx (aj 0)<|fC<|.int 1) aB) (aY<|fC<|.bl false) gNx)
 (aY<|nJ (je gGe (az gIx (aj 0)<|fC<|.int 1)<|fC<|.int 1)<|je gEq (fFn o<|aa (az gIx (aj 0)<|fC<|.int 0)<|aa (az gIx (aj 0)<|fC<|.int 1) aB)<|fC<|.int 1)))
def nZ:Zab:=
 (ou rM gV)
def jE:Zac:=aV 1 1 nZ
def aZ:Zae:=
 (nJ (fFn jE<|aa (aG 0) aB)<|OD<|fFn Bj<|aa (aG 0)<|aa (fC<|.tup [(.int 0),(.int 1)]) aB)
def eZ:Zae:=
 (d7 1 [] (sU<|aG 0) (hName 0) jV aZ)
def cR (o:Zac)(C:Zae):Zab:=
 (aH (gIf (dR (cG<|fTv<|ig "tuple" (aj 0))<|aK gNe (aP cP<|aa (aj 0) aB)<|aj 1) (aY<|fC<|.bl false) gNx)
 (aH (gIf (cG<|fTv<|aP Fo<|aa C aB) (aY<|fC<|.bl false) gNx)
 (aY<|je gEq (fFn o<|aa (aP qK<|aa (aj 0) aB) aB)<|fC<|.tup [(.int 1),(.int 1)])))
def kY:Zab:=
 (cR Av eZ)
def cF:Zac:=aV 2 2 kY
def dB:Zae:=
 (nJ (je Ac (az gIx (aj 0)<|fC<|.int 1)<|aj 1)<|fFn cF<|aa (az dD (aj 1)<|az gIx (aj 0)<|fC<|.int 1)<|aa (aP cP<|aa (az gIx (aj 0)<|fC<|.int 2) aB) aB)
def gk:Zae:=
 (d7 1 [1] (jf<|aj 0) (hName 0) jV dB)
def dw (o:Zae):Zab:=
 (aH (gIf (dR (cG<|fTv<|ig "dict" (aj 1))<|aK gNe (aP cP<|aa (aj 1) aB)<|aP cP<|aa (aj 0) aB) (aY<|fC<|.bl false) gNx)
 (aY<|aP Fo<|aa o aB))
def qG:Zab:=
 (dw gk)
def gD:Zac:=aV 2 2 qG
def yH (C:Zac)(o:Zac):Zab:=
 (aY<|fFn o<|aa (fFn C<|aa (aG 0)<|aa (aG 1) aB)<|aa (aG 2) aB)
def yQ:Zab:=
 (yH lR gD)
def gj:Zac:=aV 3 3 yQ
end
theorem abJ (a b c d:Int):gEq (.tup [.int a,.int b]) (.tup [.int c,.int d])=some (decide (a=c)&&decide (b=d)):=by
 have s:∀x y:Int,kc (.tuple [.int x,.int y])=true:=λ_ _=>rfl;simp[gEq,uE,toPy,xY,s,l6,xt];rfl
theorem abX (x y:Rat):gEq (rD x) (rD y)=some (decide<|x=y):=by
 show gEq (.tup [.int x.num,.int x.den]) (.tup [.int y.num,.int y.den])=_;rw[abJ];congr 1;by_cases h:x=y
 ·subst h;simp
 ·rw[decide_eq_false h];cases e:(decide (x.num=y.num)&&decide ((x.den:Int)=y.den)) with
  |false=>rfl
  |true=>
   simp at e;exact absurd (Rat.ext e.1<|by exact_mod_cast e.2) h
noncomputable def nmR:D->Str
 | .tup [_,.str n,_,_]=>n
 |_=>⟨#[]⟩
def jc (o:List D)(q:Str->List Rat):D:=.dct (o.map λd=>.inr<|nmR d)<|o.map λd=>.tup<|(q<|nmR d).map rD
theorem BR (f:Str->D){n:Str}:∀o:List D,(∃d∈o,nmR d=n)->nH (o.map λd=>.inr<|nmR d) (o.map λd=>f<|nmR d) (.inr n)=some (f n)
 |[],⟨_,h,_⟩=>by cases h
 |d::o,⟨d',h,e⟩=>by
  show(if(yn (nmR d):Key)=.inr n then some (f<|nmR d) else nH (o.map λd=>.inr<|nmR d) (o.map λd=>f<|nmR d) (.inr n))=_;by_cases c:nmR d=n
  ·rw[c,if_pos rfl]
  ·rw[if_neg λz=>c<|Sum.inr.inj z];rcases a9.mp h with z|z
   ·exact absurd (z▸e) c
   ·exact BR f o ⟨d',z,e⟩
def okS (S:Nat)(l:List Rat)(c:Nat):Prop:=l.length=c/\(∀x∈l,0<=x.num/\Sz S x)/\l.sum=1/\l.length<=3
theorem BZ:jE [rD x]=.ok (false,.bl true):=by
 have g:∀a b:D,atI [a,b] 0=some a:=λ_ _=>rfl;have f:∀a b:D,atI [a,b] 1=some b:=λ_ _=>rfl;have w:∀i:Int,rM [.int i]=.ok (false,.bl true):=λ_=>rfl;have e:=gK x.num x.den;rw[Nk] at e;have d:=oA x;have c:cP [.tup [.int x.num,.int x.den]]=some (.int 2):=rfl;have h:ig "tuple" (aj 0) [.fz<|.tup [.int x.num,.int x.den]]=.ok (.bl true):=rfl;rw[ug];simp[jE,aV,nZ,ou,aH,gIf,dR,cG,fTv,h,aK,aP,aa,aB,aj,c,fC,gNe,gNx,fFn,az,gIx,g,f,w,aY,Me.let,Sl.let,nJ,je,gGe,d,e]
theorem VG (U:S<=100){l:List Rat}{c:Nat}(J:l.length=c)(o:∀x∈l,0<=x.num/\Sz S x)(C:l.sum=1)(I:1+l.length*(S+1)<=2000):cF [.tup<|l.map rD,.int c]=.ok (false,.bl true):=by
 have d:=G6 (k:=S) (λx a=>(o x a).2) I (by lia);rw[C] at d;have h:fK (hName 0) jV aZ [.un] (l.map rD)=.ok (l.map λ_=>.bl true):=iW l λx a=>by
  refine⟨[.fz<|rD x],rfl,rfl,?_⟩;have b:=Gs (o x a).2 Jp (by lia);have s:rD 0=.tup [.int 0,.int 1]:=rfl;have q:¬(x.num*(0:Rat).den<(0:Rat).num*x.den):=by
   have:=(o x a).1
   show ¬(x.num*1<0*(x.den:Int))
   lia
  rw[s,decide_eq_false q] at b;have e:=BZ (x:=x);simp[aZ,nJ,OD,fFn,aa,aB,fC,aG,b,e,fTv]
 have n:l.length<=16777216:=by have:l.length*1<=l.length*(S+1):=Nat.mul_le_mul_left _ (by lia);lia
 have i:eZ [.fz<|.tup<|l.map rD,.fz<|.int c]=.ok (.lst<|l.map λ_=>.bl true):=by
  simp[eZ,d7,sU,aG,cMe,h,n]
 have t:=RX (f:=λ_:Rat=>D.bl true) (l:=l) λ_ _=>rfl;have g:rD 1=.tup [.int 1,.int 1]:=rfl;have j:gEq (rD 1) (.tup [.int 1,.int 1])=some true:=by rw[← g,abX];simp
 have p:cP [.tup<|l.map rD]=some (.int c):=by simp[cP,J]
 have m:ig "tuple" (aj 0) [.fz<|.tup<|l.map rD,.fz<|.int c]=.ok (.bl true):=rfl;have r:qK [.tup<|l.map rD]=some (.lst<|l.map rD):=rfl;simp[cF,kY,cR,aV,aH,gIf,dR,cG,fTv,m,aK,aP,aa,aB,aj,p,gNe,gNx,i,t,aY,Me.let,Sl.let,je,fFn,r,d,fC,j]
theorem Y8 (o:S<=100){l:List Rat}{c:Nat}(h:okS S l c):cF [.tup<|l.map rD,.int c]=.ok (false,.bl true):=VG o h.1 h.2.1 h.2.2.1 (by have:l.length*(S+1)<=3*101:=nB h.2.2.2 (by lia);lia)
theorem V6 (J:S<=100){o:List D}{q:Str->List Rat}(C:∀d∈o,mO d)(U:o.length<=1000)(I:∀d∈o,okS S (q<|nmR d)<|wdD d):gD [.lst o,jc o q]=.ok (false,.bl true):=by
 have w:fK (hName 0) jV dB [.un,.fz<|jc o q] o=.ok (o.map λ_=>.bl true):=by
  have:=iW (h:=hName 0) (ft:=jV) (fe:=dB) (m0:=[.un,.fz<|jc o q]) (g:=id) (f:=λ_=>.bl true) o λd hd=>by
   refine⟨[.fz d,.fz<|jc o q],rfl,rfl,?_⟩;have i:=BR (λn=>.tup<|(q n).map rD) o ⟨d,hd,rfl⟩;have e:=Y8 J<|I d hd;obtain⟨s,n,j,r,rfl⟩:=C d hd;have p:∀a b c d:D,atI [a,b,c,d] 1=some b:=λ_ _ _ _=>rfl;have x:∀a b c d:D,atI [a,b,c,d] 2=some c:=λ_ _ _ _=>rfl;have i:nH (o.map λd=>.inr<|nmR d) (o.map λd=>.tup<|(q<|nmR d).map rD) (.inr n)=some (.tup<|(q n).map rD):=i;have e:cF [.tup<|(q n).map rD,.int ((gF j).length:Nat)]=.ok (false,.bl true):=e;have E:Ac (.str n) (jc o q)=some true:=by simp[Ac,jc,jW,i]
   have v:dD (jc o q) (.str n)=some (.tup<|(q n).map rD):=by simp[dD,jc,jW,i]
   have u:cP [.tup<|gF j]=some (.int ((gF j).length:Nat)):=rfl;simp[dB,nJ,je,az,aj,fC,gIx,jb,p,x,E,v,fFn,aa,aB,aP,u,e,fTv]
  simpa using this
 have z:o.length<=16777216:=by lia
 have k:gk [.fz<|.lst o,.fz<|jc o q]=.ok (.lst<|o.map λ_=>.bl true):=by
  have m:(Sl.fz<|jc o q).bor=.fz (jc o q):=rfl;simp[gk,d7,jf,aj,cMe,m,w,z]
 have B:=RX (f:=λ_:D=>D.bl true) (l:=o) λ_ _=>rfl;have t:cP [jc o q]=some (.int o.length):=by simp[cP,jc]
 have A:cP [.lst o]=some (.int o.length):=rfl;have y:ig "dict" (aj 1) [.fz<|.lst o,.fz<|jc o q]=.ok (.bl true):=rfl;simp[gD,qG,dw,aV,aH,gIf,dR,cG,fTv,y,aK,aP,aa,aB,aj,t,A,gNe,gNx,k,B,aY,Me.let,Sl.let]
abbrev rowsOf (g:Gm)(s:Int):List D:=(tbl<|prG [] ([],[]) g).2.filter λd=>decide<|sdD d=s
abbrev Tr3:=List Int×Gm×Rc
structure Gv (g:Gm):Prop extends Gd g where
 fn:∀p∈prG [] ([],[]) g,∀d,p.2.1=.fin d->∃q:Rat,d=rq q
end Pk
namespace Lw
open PySem L2 Hd F Pk
section
def ji:Zab:=
 (aH (dh 2<|az gIx (dW<|aa (az bc (az dq (aj 0)<|fC<|.int 4)<|fC<|.int 4)<|aa (az bc (az dq (aj 0)<|fC<|.int 4)<|fC<|.int 7)<|aa (fC<|.int 0)<|aa (az bc (az dq (aj 0)<|fC<|.int 4)<|fC<|.int 1000) aB)<|az bc (aj 0)<|fC<|.int 4)
 (bC 0<|az bc (az eX (aj 0)<|fC<|.int 48271)<|fC<|.int 2147483647))
def nY:Zab:=
 (ir (sW<|aa (aj 1) aB) (hName 3) ji)
def oO:Zae:=
 (fFn bT<|aa (aG 0)<|aa (aP Ka<|aa (aj 1) aB) aB)
def oK:Zae:=
 (d7 1 [2] (jf<|aj 2) (hName 0) jV oO)
def nT (C:Zab)(o:Zae):Zab:=
 (aH (eV 2<|dW aB)
 (aH C
 (aH (gIf (aK gEq (aP Ka<|aa (aj 2) aB)<|fC<|.int 0) (fD 2 (az bc (aj 0)<|aj 1)<|fC<|.int 1) gNx)
 (aY<|aP eU<|aa o aB))))
def xR:Zab:=
 (nT nY oK)
def kO:Zac:=aV 4 2 xR
def gH:Zab:=
 (gIf (aK gEq (az gIx (az gIx (aj 0)<|aj 4)<|fC<|.int 0)<|aj 1) (iJ 3 (az gIx (az gIx (aj 0)<|aj 4)<|fC<|.int 1)<|fFn kO<|aa (fFn cV<|aa (aG 2)<|aa (az bR (az eX (fC<|.int 3)<|aj 4)<|fC<|.int 1) aB)<|aa (aP cP<|aa (az gIx (az gIx (aj 0)<|aj 4)<|fC<|.int 2) aB) aB) gNx)
def qb:Zab:=
 (ir (sW<|aa (aP cP<|aa (aj 0) aB) aB) (hName 4) gH)
def pF (o:Zab):Zab:=
 (aH (eV 3 zW)
 (aH o
 (jg 3)))
def zG:Zab:=
 (pF qb)
def pR:Zac:=aV 5 3 zG
end
noncomputable def qt (x:Int):Int:=if x%4=0 then x/4%4 else if x%4=1 then x/4%7 else if x%4=2 then 0 else x/4%1000
theorem afF (x:Int):0<=qt x/\qt x<=999:=by
 unfold qt;split
 ·lia
 split
 ·lia
 split<;>lia
theorem abb (h:sm x)(o:P.length<=100):ji [.fz<|.int x,s1,.ow<|.lst P,s3]=.ok (.nx,[.fz<|.int<|x*48271%2147483647,s1,.ow<|.lst<|P++[.int<|qt x],s3]):=by
 obtain⟨g,f⟩:=h;have a:Bq x:=bgS (by lia);have d:Bq 48271:=bgS (by decide);have b:Bq 4:=bgS (by decide);have c:P.length<16777216:=by lia
 have e:atI [D.int<|x/4%4,.int<|x/4%7,.int 0,.int<|x/4%1000] (x%4)=some (.int<|qt x):=by
  have h:x%4=0\/x%4=1\/x%4=2\/x%4=3:=by lia
  unfold qt;rcases h with h|h|h|h<;>rw[h]<;>rfl
 simp[ji,aH,dh,jY,putL,dW,aa,aB,az,gIx,aj,fC,bc,mdI,eX,dq,dvI,a,d,b,e,c,bC]
theorem Rh:∀(c i:Nat) (x:Int) (P:List Int) (s3:Sl),sm x->P.length+c<=100->(∀p∈P,0<=p/\p<=999)->∃(y:Int) (o:Sl) (Q:List Int),bI (hName 3) ji ((lI i c).map λ(k:Nat)=>D.int k) [.fz<|.int x,s1,.ow<|.lst<|P.map D.int,s3]=.ok (.nx,[.fz<|.int y,s1,.ow<|.lst<|Q.map D.int,o])/\sm y/\Q.length=P.length+c/\∀p∈Q,0<=p/\p<=999
 |0,i,x,P,s3,h,_,hP=>⟨x,s3,P,rfl,h,rfl,hP⟩
 |c+1,i,x,P,s3,h,hl,hP=>by
  have b:=abb (s1:=s1) (s3:=.fz<|.int i) (P:=P.map D.int) h (by simp;lia);have f:sm (x*48271%2147483647):=⟨by lia,by lia⟩;obtain⟨y,o,Q,e,j,a,d⟩:=Rh (s1:=s1) c (i+1) (x*48271%2147483647) (P++[qt x]) (.fz<|.int i) f (by simp;lia) λp g=>by
   rcases cE.mp g with z|z
   ·exact hP p z
   ·rw[cm.mp z];exact afF x
  refine⟨y,o,Q,?_,j,by rw[a];simp;lia,d⟩;rw[js,ay,dI (m1:=[.fz<|.int x,s1,.ow<|.lst<|P.map D.int,.fz<|.int i]) rfl b];rw[cK] at e;exact e
theorem Ej:∀Q:List Int,(∀p∈Q,0<=p/\p<=999)->0<=Q.sum/\Q.sum<=999*Q.length
 |[],_=>by simp
 |p::Q,h=>by
  have:=Ej Q λq a=>h q<|ah _ a
  have b:=h p av;simp only[lP,cy]
  lia
theorem RG:∀Q:List Int,(∀p∈Q,0<=p/\p<=999)->1∈Q->1<=Q.sum
 |[],_,h=>by cases h
 |p::Q,h,m=>by
  have b:=Ej Q λq a=>h q<|ah _ a;have c:=h p av;rw[lP];rcases a9.mp m with z|z
  ·lia
  ·have:=RG Q (λq a=>h q<|ah _ a) z
   lia
theorem acv {Q:List Int}(o:0<Q.sum)(C:Q.sum<=5994)(I:Q.length<=1000):oK [u,.fz<|.int c,.fz<|.lst<|Q.map D.int,v]=.ok (.lst<|Q.map λp=>rD<|a8 p Q.sum):=by
 have a:fK (hName 0) jV oO [.un,.fz<|.lst<|Q.map D.int] (Q.map D.int)=.ok (Q.map λp=>rD<|a8 p Q.sum):=iW Q λp _=>by
  refine⟨[.fz<|.int p,.fz<|.lst<|Q.map D.int],rfl,rfl,?_⟩;have e:=v8 (t:=p) o<|bgS (by lia);simp[oO,fFn,aa,aB,aG,aP,aj,Bk,e]
 have z:Q.length<=16777216:=by lia
 simp[oK,d7,jf,aj,cMe,Sl.bor,a,z]
theorem adN {Q:List Int}(o:0<c)(C:Q.length=c)(I:c<=6):fD 2 (az bc (aj 0)<|aj 1) (fC<|.int 1) [.fz<|.int y,.fz<|.int (c:Int),.ow<|.lst<|Q.map D.int,s3]=.ok (.nx,[.fz<|.int y,.fz<|.int (c:Int),.ow<|.lst<|(Q.set (y%c).toNat 1).map D.int,s3]):=by
 have f:0<=y%(c:Int):=fq _ (by lia);have a:y%(c:Int)<c:=fR _ (by lia);have e:¬((c:Int)=0):=by lia
 have b:Bq (c:Int):=bgS (by lia);have d:ixN Q.length (y%(c:Int))=some (y%(c:Int)).toNat:=by
  unfold ixN;rw[if_pos f,if_pos (by rw[C];exact a)]
 have cn:¬(c=0):=by lia
 simp[fD,fC,jY,az,aj,bc,mdI,e,cn,o,b,d,putL,List.map_set]
theorem Ut {Q Q':List Int}(I:L [.fz<|.int x,.fz<|.int c,.ow<|.lst [],.un]=.ok (.nx,[.fz<|.int y,.fz<|.int c,.ow<|.lst<|Q.map D.int,s']))
  (C:gIf (aK gEq (aP Ka<|aa (aj 2) aB)<|fC<|.int 0) (fD 2 (az bc (aj 0)<|aj 1)<|fC<|.int 1) gNx [.fz<|.int y,.fz<|.int c,.ow<|.lst<|Q.map D.int,s']=.ok (.nx,[.fz<|.int y,.fz<|.int c,.ow<|.lst<|Q'.map D.int,s']))
  (o:∀u v:Sl,QQ [u,.fz<|.int c,.fz<|.lst<|Q'.map D.int,v]=.ok (.lst r)):aV 4 2 (nT L QQ) [.int x,.int c]=.ok (false,.tup r):=by
 have a:eU [.lst r]=some (.tup r):=rfl;simp[aV,nT,aH,eV,dW,aB,I,C,aY,Me.let,Sl.let,aP,aa,o,a]
def prt (c:Nat)(l:List Rat):Prop:=∃Q:List Int,Q.length=c/\(∀p∈Q,0<=p/\p<=999)/\0<Q.sum/\l=Q.map λp=>a8 p Q.sum
theorem adk (h:prt c l)(o:c<=6):l.length=c/\(∀x∈l,0<=x.num/\Sz 13 x)/\l.sum=1:=by
 obtain⟨Q,d,b,a,rfl⟩:=h;have i:=(Ej Q b).2;refine⟨by simp[d],λq f=>?_,by rw[HB,div_self a]⟩;obtain⟨p,e,rfl⟩:=dr.mp f;have g:=b p e;refine⟨?_,De (by lia) (by show p.natAbs<8192;lia) (by show Q.sum.natAbs<8192;lia)⟩;by_cases z:p=0
 ·subst z;simp
 ·exact Int.le_of_lt<|div_pos (by lia) a
theorem adm (h:prt c l)(o:c<=3):okS 20 l c/\∀q∈l,Sz 13 q:=
 let⟨a,b,d⟩:=adk h<|by lia
 ⟨⟨a,λx e=>⟨(b x e).1,(b x e).2.mono<|by decide⟩,d,by lia⟩,λq f=>(b q f).2⟩
theorem Wv {x:Int}{c:Nat}(h:sm x)(o:1<=c/\c<=6):∃l:List Rat,kO [.int x,.int (c:Int)]=.ok (false,.tup<|l.map rD)/\prt c l:=by
 obtain⟨y,f,Q,e,B,b,g⟩:=Rh c 0 x [] .un h (by simp;lia) (λ_ z=>by cases z);have b:Q.length=c:=by simpa using b
 have s:(aa (aj 1) aB) [.fz<|.int x,.fz<|.int (c:Int),.ow<|.lst [],.un]=.ok [.int (c:Int)]:=by simp[aa,aj,aB]
 have q:=Nq s (by lia) (by lia);have r:nY [.fz<|.int x,.fz<|.int (c:Int),.ow<|.lst [],.un]=.ok (.nx,[.fz<|.int y,.fz<|.int (c:Int),.ow<|.lst<|Q.map D.int,f]):=by
  unfold nY ir;rw[q];show bI (hName 3) ji ((cq c).map λ(k:Nat)=>D.int k) _=_;rw[gT];exact e
 have a:∀Q':List Int,Q'.length=c->(∀p∈Q',0<=p/\p<=999)->0<Q'.sum->gIf (aK gEq (aP Ka<|aa (aj 2) aB)<|fC<|.int 0) (fD 2 (az bc (aj 0)<|aj 1)<|fC<|.int 1) gNx [.fz<|.int y,.fz<|.int (c:Int),.ow<|.lst<|Q.map D.int,f]=.ok (.nx,[.fz<|.int y,.fz<|.int (c:Int),.ow<|.lst<|Q'.map D.int,f])->
   ∃l:List Rat,kO [.int x,.int (c:Int)]=.ok (false,.tup<|l.map rD)/\prt c l:=λQ' j d m n=>by
  have A:=(Ej Q' d).2;refine⟨_,?_,Q',j,d,m,rfl⟩;rw[kg];exact Ut r n λu v=>acv m (by lia)<|by lia
 by_cases z:Q.sum=0
 ·refine a (Q.set (y%c).toNat 1) (by simp[b]) (λp i=>?_) ?_ ?_
  ·rcases nK i with w|w
   ·exact g p w
   ·rw[w];lia
  ·have t:(y%(c:Int)).toNat<Q.length:=by
    have:=fR y<|show 0<(c:Int) by lia
    have:=fq y<|show(c:Int)≠0 by lia
    lia
   have:=RG (Q.set (y%c).toNat 1) (λp i=>by
    rcases nK i with w|w
    ·exact g p w
    ·rw[w];lia) (List.mem_set t 1)
   lia
  ·have:=adN (Q:=Q) (y:=y) (s3:=f) (by lia) b o.2
   simp[gIf,aK,aP,aa,aB,aj,Bk,fC,z,this]
 ·refine a Q b g ?_ ?_
  ·have:=(Ej Q g).1
   lia
  ·simp[gIf,aK,aP,aa,aB,aj,Bk,fC,z,gNx]
theorem abF {o:List D}{q:Str->List Rat}{d:D}{l:List Rat}(h:∀d'∈o,nmR d'≠nmR d):
  D.dct (putD (o.map λd=>.inr<|nmR d) (o.map λd=>.tup<|(q<|nmR d).map rD) (.inr<|nmR d)<|.tup<|l.map rD).1 (putD (o.map λd=>.inr<|nmR d) (o.map λd=>.tup<|(q<|nmR d).map rD) (.inr<|nmR d)<|.tup<|l.map rD).2=jc (o++[d]) λn=>if n=nmR d then l else q n:=by simp_all[if_neg,cK,if_pos,putD,jc]
theorem abf:gIx (jb s n ws r) (.int 0)=some (.int s)/\gIx (jb s n ws r) (.int 1)=some (.str n)/\gIx (jb s n ws r) (.int 2)=some (.tup<|gF ws):=⟨rfl,rfl,rfl⟩
theorem ad9 (C:Bq (i:Int))(I:gIx (.lst Rows) (.int i)=some row)(U:gIx row (.int 0)=some (.int s))(r1:gIx row (.int 1)=some (.str n))(r2:gIx row (.int 2)=some W)(ln:cP [W]=some (.int w))
  (o:cV [.int cell,.int<|3*i+1]=.ok (false,.int x)) (J:kO [.int x,.int w]=.ok (false,v)) (hz:ks.length<ai):
  gH [.fz<|.lst Rows,.fz<|.int s,.fz<|.int cell,.ow<|.dct ks ds,.fz<|.int i]=.ok (.nx,[.fz<|.lst Rows,.fz<|.int s,.fz<|.int cell,.ow<|.dct (putD ks ds (.inr n) v).1 (putD ks ds (.inr n) v).2,.fz<|.int i]):=by
 have b:Bq 3:=bgS (by decide);rw[aai] at hz;generalize a:putD ks ds (.inr n) v=p;obtain⟨d,c⟩:=p;simp[gH,gIf,aK,az,aj,I,fC,U,r1,r2,iJ,fFn,aa,aB,aG,eX,bR,b,C,o,aP,ln,J,qg,jW,hz,nu,a]
theorem Z8 (C:gIx (.lst Rows) (.int i)=some row)(o:gIx row (.int 0)=some (.int a))(c:¬a=s):
  gH [.fz<|.lst Rows,.fz<|.int s,S2,S3,.fz<|.int i]=.ok (.nx,[.fz<|.lst Rows,.fz<|.int s,S2,S3,.fz<|.int i]):=by
 simp[gH,gIf,aK,az,aj,C,fC,o,c,gNx]
def itl (it:Nat->D->D):Nat->List D->List D
 |_,[]=>[]
 |k,d::r=>it k d::itl it (k+1) r
theorem Rj:∀(r:List D) (k:Nat),itl (λk _=>.int k) k r=(lI k r.length).map λ(k:Nat)=>D.int k
 |[],_=>rfl
 |d::r,k=>by rw[itl,Rj r,cy,js,ay]
theorem Cj {X:Type}{h:Zba}{B:Zab}{it:Nat->D->D}{mk:D->X->Me}{s:Int}{Rows:List D}{P:D->List Rat->Prop}
  (step:∀(k:Nat) (d:D) (x:X) (ks:List Key) (ds:List D),Rows[k]? = some d->ks.length<=1000->∃m1,h (it k d) (mk (.dct ks ds) x)=some m1/\(sdD d≠s->∃I,B m1=.ok (.nx,mk (.dct ks ds) I))/\
   (sdD d=s->∃I l,P d l/\B m1=.ok (.nx,mk (.dct (putD ks ds (.inr<|nmR d)<|.tup<|l.map rD).1 (putD ks ds (.inr<|nmR d)<|.tup<|l.map rD).2) I))) (J:Rows.length<=300):
  ∀(o C done:List D) (q:Str->List Rat) (x:X),Rows=C++o->done.length<=C.length->((done++o.filter λd=>decide<|sdD d=s).map nmR).Nodup->(∀d∈done,P d<|q<|nmR d)->
  ∃U I,bI h B (itl it C.length o) (mk (jc done q) x)=.ok (.nx,mk (jc (done++o.filter λd=>decide<|sdD d=s) U) I)/\∀d∈done++o.filter (λd=>decide<|sdD d=s),P d<|U<|nmR d
 |[],C,done,q,x,_,_,_,ho=>⟨q,x,by simp[itl,bI],by simpa using ho⟩
 |d::o,C,done,q,x,e,hd,nd,ho=>by
  have v:Rows[C.length]? = some d:=by rw[e];simp
  have E:C.length<Rows.length:=by rw[e];simp
  have r:Rows=(C++[d])++o:=by rw[e];simp
  obtain⟨m1,t,w,A⟩:=step C.length d x _ (done.map λd=>D.tup<|(q<|nmR d).map rD) v (show(done.map λd=>(yn (nmR d):Key)).length<=1000 by rw[a6];lia);by_cases c:sdD d=s
  ·obtain⟨I,l,y,i⟩:=A c;have u:∀b∈done,nmR b≠nmR d:=λb f z=>by
    rw[l4,if_pos<|decide_eq_true c,cK,wm] at nd;exact nd.2.2 (nmR b) (dr.mpr ⟨b,f,rfl⟩) (nmR d) (by rw[ay];exact av) z
   rw[abF u] at i;have a:(done++[d])++o.filter (λd=>decide<|sdD d=s)=done++(d::o).filter (λd=>decide<|sdD d=s):=by
    rw[l4,if_pos<|decide_eq_true c];simp
   obtain⟨m,j,g,p⟩:=Cj step J o (C++[d]) (done++[d]) (λn=>if n=nmR d then l else q n) I r (by simp;lia) (by rw[a];exact nd) (λb f=>by
    rcases cE.mp f with z|z
    ·show P b (if nmR b=nmR d then l else q (nmR b));rw[if_neg<|u b z];exact ho b z
    ·rw[cm.mp z];show P d (if nmR d=nmR d then l else q (nmR d));rw[if_pos rfl];exact y)
   refine⟨m,j,?_,by rw[← a];exact p⟩;rw[be,dP] at g;rw[← a];exact(dI t i).trans g
  ·obtain⟨I,i⟩:=w c;have a:done++o.filter (λd=>decide<|sdD d=s)=done++(d::o).filter (λd=>decide<|sdD d=s):=by
    rw[l4,if_neg<|by simpa using c]
   obtain⟨m,j,g,p⟩:=Cj step J o (C++[d]) done q I r (by simp;lia) (by rw[a];exact nd) ho;refine⟨m,j,?_,by rw[← a];exact p⟩;rw[be,dP] at g;rw[← a];exact(dI t i).trans g
theorem WM (o:L [.fz a,.fz b,.fz c,.ow<|.dct [] [],.un]=.ok (.nx,[.fz a,.fz b,.fz c,.ow r,s4])):aV 5 3 (pF L) [a,b,c]=.ok (true,r):=by
 simp[pF,aV,aH,eV,zW,o,jg]
theorem Vx:(aa (aP cP<|aa (aj 0) aB) aB) [.fz<|.lst Rows,S1,S2,S3,S4]=.ok [.int (Rows.length:Int)]:=by rfl
theorem Pb {Rows:List D}{s cell:Int}(o:Rows.length<=300)(C:∀d∈Rows,mO d/\1<=wdD d/\wdD d<=3)(I:((Rows.filter λd=>decide<|sdD d=s).map nmR).Nodup):
  ∃q,pR [.lst Rows,.int s,.int cell]=.ok (true,jc (Rows.filter λd=>decide<|sdD d=s) q)/\∀d∈Rows.filter (λd=>decide<|sdD d=s),okS 20 (q<|nmR d) (wdD d)/\∀x∈q (nmR d),Sz 13 x:=by
 obtain⟨q,g,e,h⟩:=Cj (X:=Sl) (h:=hName 4) (B:=gH) (it:=λk _=>.int k) (mk:=λr A=>[.fz<|.lst Rows,.fz<|.int s,.fz<|.int cell,.ow r,A]) (s:=s) (P:=λd l=>okS 20 l (wdD d)/\∀x∈l,Sz 13 x) (Rows:=Rows) (λk d x L M b H=>by
  obtain⟨⟨a,n,f,r,rfl⟩,i⟩:=C d<|dy b;have v:k<Rows.length:=by
   rcases Nat.lt_or_ge k Rows.length with z|z
   ·exact z
   ·rw[qE z] at b;cases b
  have m:gIx (.lst Rows) (.int k)=some (jb a n f r):=pO b;obtain⟨j,K,G⟩:=abf (s:=a) (n:=n) (ws:=f) (r:=r);refine⟨_,rfl,λc=>⟨.fz<|.int k,Z8 m j c⟩,λc=>?_⟩;have F:a=s:=c;subst F;obtain⟨x,u,E⟩:=Es cell (3*k+1) (by lia);obtain⟨l,t,p⟩:=Wv (c:=wdD<|jb a n f r) E ⟨i.1,by lia⟩;exact⟨.fz<|.int k,l,adm p i.2,ad9 (bgS<|by lia) m j K G rfl u t<|pe H<|by decide⟩) o Rows [] [] (λ_=>[]) .un rfl (by simp) (by simpa using I) (λ_ z=>by cases z)
 refine⟨q,?_,by simpa using h⟩;rw[oI,Rj] at e;have w:=Nq (Vx (Rows:=Rows) (S1:=.fz<|.int s) (S2:=.fz<|.int cell) (S3:=.ow<|.dct [] []) (S4:=.un)) (by lia) (by lia);have y:qb [.fz<|.lst Rows,.fz<|.int s,.fz<|.int cell,.ow<|.dct [] [],.un]=.ok (.nx,[.fz<|.lst Rows,.fz<|.int s,.fz<|.int cell,.ow<|jc (Rows.filter λd=>decide<|sdD d=s) q,g]):=by
  unfold qb ir;rw[w];show bI (hName 4) gH ((cq Rows.length).map λ(k:Nat)=>D.int k) _=_;rw[gT];exact e
 exact WM y
end Lw
namespace F
open PySem L2 Hd
open PySem PySem.Spec PyProof.Rows L2 Hd
section
variable {P:bE}{w:eI}{K:bo}{mg:Zp}{base:Heap}
end
def yc (m:Me):Nat->List (Bool×Addr×D)->List D->Me
 |j,o::os,e::es=>yc (m.set j<|.hd o.1 o.2.1 e) (j+1) os es
 |_,_,_=>m
theorem GF:∀(C:List (Bool×Addr×D)) (es:List D) (m:Me) (j:Nat),(yc m j C es).length=m.length
 |[],_,m,j=>by cases ‹List D›<;>rfl
 |o::C,[],m,j=>rfl
 |o::C,e::es,m,j=>by rw[yc,GF C es];simp
theorem Cr:∀(C:List (Bool×Addr×D)) (es:List D) (m:Me) (j c:Nat),c<j\/j+C.length<=c->(yc m j C es)[c]? = m[c]?
 |[],_,m,j,c,_=>by cases ‹List D›<;>rfl
 |o::C,[],m,j,c,_=>rfl
 |o::C,e::es,m,j,c,h=>by
  simp only[cy] at h;rw[yc,Cr C es _ _ c (by lia),a0<|by lia]
theorem K1:∀(C:List (Bool×Addr×D)) (es:List D) (m:Me) (j t:Nat) (o:Bool×Addr×D) (e:D),C[t]? = some o->es[t]? = some e->j+C.length<=m.length->(yc m j C es)[j+t]? = some (.hd o.1 o.2.1 e)
 |[],_,m,j,t,o,e,h,_,_=>by cases h
 |o'::C,[],m,j,t,o,e,_,h,_=>by cases h
 |o'::C,e'::es,m,j,0,o,e,h1,h2,hl=>by
  cases h1;cases h2;simp only[cy] at hl;rw[yc,Cr C es _ _ _ (by lia),BC,aT<|by lia]
 |o'::C,e'::es,m,j,t+1,o,e,h1,h2,hl=>by
  simp only[cy] at hl;rw[yc,show j+(t+1)=j+1+t by lia];exact K1 C es _ _ t o e (by simpa using h1) (by simpa using h2) (by simp;lia)
open Classical in
def Sq (n:Nat)(h:List Addr->Res (Fl×Me))(m:Me):Res (Fl×Me):=
 if H:∃p:Bool×D,∀as:List Addr,as.length=n->as.Nodup->∃a,h as=.ok (.rt p.1 p.2,a)/\a.length=m.length then .ok (.rt (iF H).1 (iF H).2,m.map λ_=>.un) else .stuck
theorem YD {n:Nat}{h:List Addr->Res (Fl×Me)}{m:Me}{fr:Bool}{d:D}(H:∀as:List Addr,as.length=n->as.Nodup->∃m',h as=.ok (.rt fr d,m')/\m'.length=m.length):Sq n h m=.ok (.rt fr d,m.map λ_=>.un):=by
 have b:∃p:Bool×D,∀as:List Addr,as.length=n->as.Nodup->∃m',h as=.ok (.rt p.1 p.2,m')/\m'.length=m.length:=⟨(fr,d),H⟩;have e:=dQ b;obtain⟨i,c,_⟩:=e (cq n) List.length_range rj;obtain⟨j,a,_⟩:=H (cq n) List.length_range rj;rw[c] at a;unfold Sq;rw[dif_pos b];injection a with a
 injection a with a _
 injection a with f g
 rw[f,g]
def Cg (ow:Os)(i j0:Nat)(a:Addr)(xs:List (Addr×D)):Os:=λk=>if k=i then some a else if j0<=k/\k<j0+xs.length then(xs[k-j0]?).map (·.1) else ow k
def newHs (m:Me)(j0:Nat)(xs:List (Addr×D)):Me:=yc m j0 (xs.map λx=>(true,x))<|xs.map (·.2)
section
variable {G:Gx}{O0 M0:Zaa}{H0 H H':Hp}{ow:Os}{σ:L2.St}{m:Me}
theorem dF.aeC {i j0:Nat}{p:Addr}{d:D}{xs:List (Addr×D)}(R:dF G O0 M0 H0 ow σ H m)(g:aL H H')(n:H p=none)(nx:∀x∈xs,H x.1=none)(nd:(p::xs.map (·.1)).Nodup)(C:i<m.length)(J:j0+xs.length<=m.length)(ij:i<j0\/j0+xs.length<=i)
  (o:OV G (λb=>Ow O0 ow b\/b∈p::xs.map (·.1)) H' p d) (I:∀x∈xs,OV G (λb=>Ow O0 ow b\/b∈p::xs.map (·.1)) H' x.1 x.2):
  dF G O0 M0 H0 (Cg ow i j0 p xs) (σ.set i<|some<|.ref p) H' (newHs (m.set i<|.ow d) j0 xs)/\Go O0 ow H (Cg ow i j0 p xs) H':=by
 have K:=kq.mp nd;have free:∀b,b∈p::xs.map (·.1)->H b=none:=λb z=>by
  rcases a9.mp z with rfl|z
  ·exact n
  ·obtain⟨x,h,rfl⟩:=dr.mp z;exact nx x h
 have inv:∀k b,Cg ow i j0 p xs k=some b->(k=i/\b=p)\/(∃(t:Nat) (x:Addr×D),xs[t]? = some x/\k=j0+t/\b=x.1)\/(k≠i/\¬(j0<=k/\k<j0+xs.length)/\ow k=some b):=λk b e=>by
  unfold Cg at e;split at e
  ·rename_i q;cases e;exact .inl ⟨q,rfl⟩
  ·rename_i U;split at e
   ·rename_i q;obtain⟨x,f,S⟩:=iO.mp e;exact .inr<|.inl ⟨k-j0,x,f,by omega,S.symm⟩
   ·rename_i q;exact .inr<|.inr ⟨U,q,e⟩
 have A:∀b,Ow O0 (Cg ow i j0 p xs) b->Ow O0 ow b\/b∈p::xs.map (·.1):=λb z=>by
  rcases z with z|⟨k,e⟩
  ·exact .inl<|.inl z
  ·rcases inv k b e with⟨_,z⟩|⟨t,x,f,_,z⟩|⟨_,_,z⟩
   ·rw[z];exact .inr av
   ·rw[z];exact .inr<|ah _<|dr.mpr ⟨x,dy f,rfl⟩
   ·exact .inl<|.inr ⟨k,z⟩
 have sub:∀b,Ow O0 (Cg ow i j0 p xs) b->Ow O0 ow b\/H b=none:=λb z=>(A b z).imp id<|free b;have M:=R.mono g;have V:Cg ow i j0 p xs i=some p:=if_pos rfl;have X:∀(t:Nat) (x:Addr×D),xs[t]? = some x->Cg ow i j0 p xs (j0+t)=some x.1:=λt x h=>by
  have lt:=(cb.mp h).1;unfold Cg;rw[if_neg (by omega),if_pos (by omega),xl,h];rfl
 have N:∀k,k≠i->¬(j0<=k/\k<j0+xs.length)->Cg ow i j0 p xs k=ow k:=λk a b=>by unfold Cg;rw[if_neg a,if_neg b]
 have E:∀c,¬(j0<=c/\c<j0+xs.length)->(newHs (m.set i<|.ow d) j0 xs)[c]? = if c=i then some (.ow d) else m[c]?:=λc hc=>by
  unfold newHs;rw[Cr _ _ _ _ c (by simp;omega)];by_cases r:c=i
  ·subst r;rw[if_pos rfl,aT C]
  ·rw[if_neg r,a0<|eC r]
 have ext:∀(t:Nat) (x:Addr×D),xs[t]? = some x->(newHs (m.set i<|.ow d) j0 xs)[j0+t]? = some (.hd true x.1 x.2):=λt x h=>by
  unfold newHs;exact K1 _ _ _ _ t (true,x) x.2 (by rw[a5,h];rfl) (by rw[a5,h];rfl)<|by simpa using J
 have O:(newHs (m.set i<|.ow d) j0 xs).length=m.length:=by unfold newHs;rw[GF];simp
 refine⟨⟨⟨by rw[O];simp[R.len],M.keep,M.m0,λb z=>?_,λk a e=>?_,λk l a W a2=>?_,λk Q=>?_,λk s e=>?_⟩,λk Y e=>?_⟩,.of g,λk a e=>?_,(Go.refl (O0:=O0) (ow:=ow) g).dom⟩
 ·rcases A b z with z|z
  ·exact M.mutk b z
  ·rcases a9.mp z with rfl|z
   ·exact o.mut
   ·obtain⟨x,h,rfl⟩:=dr.mp z;exact(I x h).mut
 ·rcases inv k a e with⟨_,z⟩|⟨t,x,f,_,z⟩|⟨_,_,z⟩
  ·rw[z];exact λw=>R.toRel.xr n<|.inl w
  ·rw[z];exact λw=>R.toRel.xr (nx x<|dy f)<|.inl w
  ·exact R.no0 k a z
 ·have no:∀(t:Nat) (x:Addr×D),xs[t]? = some x->p≠x.1:=λt x h z=>K.1 (by rw[z];exact dr.mpr ⟨x,dy h,rfl⟩);rcases inv k a W with⟨u,z⟩|⟨t,x,f,u,z⟩|⟨_,_,z⟩<;>rcases inv l a a2 with⟨v,y⟩|⟨T,Z,B,v,y⟩|⟨_,_,y⟩
  ·rw[u,v]
  ·exact absurd (z.symm.trans y)<|no _ _ B
  ·exact absurd (.inr ⟨l,z▸y⟩)<|R.toRel.xr n
  ·exact absurd (y.symm.trans z)<|no _ _ f
  ·have F:t<(xs.map (·.1)).length:=by rw[a6];exact(cb.mp f).1
   have:=(List.getElem?_inj F K.2 (j:=T)).mp<|by rw[a5,a5,f,B,hJ,hJ,← z,← y]
   omega
  ·exact absurd (.inr ⟨l,z▸y⟩)<|R.toRel.xr<|nx x<|dy f
  ·exact absurd (.inr ⟨k,y▸z⟩)<|R.toRel.xr n
  ·exact absurd (.inr ⟨k,y▸z⟩)<|R.toRel.xr<|nx Z<|dy B
  ·exact R.inj k l a z y
 ·rw[O] at Q;rw[N k (by omega)<|by omega];exact R.out k Q
 ·by_cases L:j0<=k/\k<j0+xs.length
  ·obtain⟨t,rfl⟩:∃t,k=j0+t:=⟨k-j0,by omega⟩;have lt:t<xs.length:=by omega
   have F:=aw lt;have P:=dy F;rw[ext t _ F] at e;cases e;exact⟨X t _ F,λ_=>R.toRel.zN<|nx _ P,(λz=>by cases z),(I _ P).bQ λb z=>.inl<|A b z⟩
  ·rw[E k L] at e;by_cases r:k=i
   ·rw[if_pos r] at e;cases e;rw[r];exact⟨p,V,R.toRel.zN n,by rw[aT (by rw[R.len];exact C)],o.bQ λb z=>.inl<|A b z⟩
   ·rw[if_neg r] at e;rw[N k r L,a0<|eC r];exact((R.slot k s e).bQ sub λ_ _ b _=>oB _).mono g
 ·by_cases L:j0<=k/\k<j0+xs.length
  ·obtain⟨t,rfl⟩:∃t,k=j0+t:=⟨k-j0,by omega⟩;rw[ext t _<|aw<|by omega] at e;cases e
  ·rw[E k L] at e;split at e
   ·cases e
   ·exact R.nb k Y e
 ·rcases inv k a e with⟨_,z⟩|⟨t,x,f,_,z⟩|⟨_,_,z⟩
  ·rw[z];exact .inr n
  ·rw[z];exact .inr<|nx x<|dy f
  ·exact .inl<|.inr ⟨k,z⟩
end
section
variable {X:Cx}{E:XK}
end
section
variable {G:Gx}{O0 M0:Zaa}{H0 H:Hp}{ow:Os}{σ:L2.St}{m:Me}
end
section
variable {X:Cx}{E:XK}{x:Str}{pos pos':Pos}
end
section
variable {X:Cx}{tg:Expr}
end
section
variable {G:Gx}{O:Zaa}{H H':Hp}{a:Addr}{ι:List (Key×V)}
end
section
variable {X:Cx}{π:Zl}{s:aI}{σ:L2.St}{H:Hp}{a:Addr}{ι:List (Key×V)}{o:Obj}
end
section
variable {G:Gx}{E:XK}{O0 M0:Zaa}{H0 H:Hp}{ow:Os}{a:Addr}{o:Obj}{ι:List (Key×V)}{W:Ends}
end
theorem Sw {k:Key}{u:ax}(h:xQ k u=true):RelV (kV k) u:=by
 rcases cA h with⟨i,t,rfl,rfl⟩|⟨x,t,rfl,rfl⟩
 ·exact⟨t,rfl⟩
 ·exact⟨t,rfl⟩
section
def Ef (i:Nat)(fk:Zae)(fv:Me->Res (D×Me)):Zab:=λm=>(fv m).bind λp=>(ofO<|qg p.2 i).bind λo=>(fk p.2).bind λk=>(ofO<|jW k).bind λk=>
 if o.2.1.length<ai then .ok (.nx,nu p.2 i o.1 (putD o.2.1 o.2.2 k p.1).1 (putD o.2.1 o.2.2 k p.1).2) else .stuck
theorem Yb (i:Nat)(J:gG jj X.A)(he:FX X E e fa)(hk:FE X E ke fk)(hN:X.N[i]? = some x:=by rfl)(C:Vis X.env.scope x:=by simp_wf)(hd:(x==("__debug__":Str))=false:=by decide)(I:(x==("__classdict__":Str))=false:=by decide)
  (U:d4 e (some<|.Subscript (.Name x np) ke spos) pos.line X.env=pure false:=by rfl):FS X E (.Assign [.Subscript (.Name x np) ke spos] e pos) (Ef i fk fa):=
 bW (xm (iM J) (iZ hN C hd I) hk he U) λW Z H D=>xq5 D λn M0 H0 ow m R q=>
  ⟨n,M0,H0,ow,m,R,(Xs.ss (k:=λd f=>(ofO<|qg f i).bind λo=>(fk f).bind λk=>(ofO<|jW k).bind λk=>if o.2.1.length<ai then .ok (.nx,nu f i o.1 (putD o.2.1 o.2.2 k d).1 (putD o.2.1 o.2.2 k d).2) else .stuck) q).imp (Go.refl<|aL.refl _) λd T j c M t q v C=>by
   have q:=q j t c;obtain⟨o,w,q⟩:=Ss.ofO q;obtain⟨k,F,S⟩:=o;refine Km (uM c.toRel w) λa O B z s l y G=>?_;refine⟨_,z,n,M0,H0,ow,j,c.toRel,(Ss.pu c.toRel q).imp (aL.refl _) λV q P Q b g=>?_⟩;obtain⟨Y,L,q⟩:=Ss.ofO q;cases tD (.inl g) L;by_cases h:F.length<ai
   ·rw[if_pos h] at q;have R2:=c.mono b;obtain⟨p,r⟩:=Bh (C.mono b)<|y.mono b;rw[l] at p r;obtain⟨u,K⟩:=R2.nu B G p r;exact⟨a,_,rfl,Bw.k (b _ _ s) (by rw[← a6,l];exact h),q _ _ _ u<|(Go.refl b).trans K⟩
   ·rw[if_neg h] at q;exact q.elim⟩
end
section
end
section
variable {A:Type}{p:List A->Prop}
theorem xb1 (h:∀a,p [a])(us:List A)(e:us.length=1):p us:=by
 cases us with
 |nil=>cases e
 |cons a t=>cases t with
  |nil=>exact h a
  |cons _ _=>cases e
theorem xb0 (h:∀a t,t.length=n->p (a::t))(us:List A)(e:us.length=n+1):p us:=by
 cases us with
 |nil=>cases e
 |cons a t=>exact h a t (BA e)
theorem xb2 (h:∀a b,p [a,b]):∀us:List A,us.length=2->p us:=xb0 λa=>xb1<|h a
theorem xb3 (h:∀a b c,p [a,b,c]):∀us:List A,us.length=3->p us:=xb0 λa=>xb2<|h a
theorem xb4 (h:∀a b c d,p [a,b,c,d]):∀us:List A,us.length=4->p us:=xb0 λa=>xb3<|h a
theorem xb5 (h:∀a b c d f,p [a,b,c,d,f]):∀us:List A,us.length=5->p us:=xb0 λa=>xb4<|h a
end
structure QD (K:bo)(x:Str)(st:Stmt):Prop where
 ex:∃f fd,Fun K x x st f fd/\xI K dA x=some (some (.ref f))
section
variable {P:bE}{w:eI}{K:bo}{mg:Zp}{base h:Heap}{x q c:Str}{st:Stmt}{ps:List Str}{C f:Addr}{oc:ax}{od an:Option Addr}{osl:Array (Option ax)}{kV doc pm cdv ct:ax}{k:Nat}{sp:Sp}
theorem qd (a:xI K dA x=some (some<|.ref f))(l:K.lookup f=some ⟨oc,od,.func<|AY x x (pN st) (jB st) (aM st) .none kV doc pm an cdv ct,osl⟩)(c:W.codeIn K cdv x=true)(k:AX K (.ref f)=true):QD K x st:=⟨f,_,acQ l c k,a⟩
theorem QD.df (Q:QD K x st)(X:K.In h)(G:h.Ns dA mg)(o:∀(kV doc pm:ax) (an:Option Addr) (cdv ct:ax) (us:List ax),us.length=ps.length->bindArgs (AY x x (pN st) (jB st) (aM st) .none kV doc pm an cdv ct) ⟨us,[]⟩=pure (ps.zip us)):Df K mg x st ps:=by
 obtain⟨f,b,F,a⟩:=Q.ex;exact⟨f,b,F,F.binds o,sM X G a⟩
end
section
variable {X:Cx}{E:XK}{e a b tg iter:Expr}{body:List Stmt}{f fa fb:Zae}{fi:Zad}{g:Zab}{h:Zba}{pos pos':Pos}{i:Nat}{x:Str}
theorem aO (o:FB X E a fa)(C:FB X E b fb)(I:Ir b:=by exact λ_ _=>rfl):FE X E (.Subscript a b pos) (az gIx fa fb):=aeU ahe o C I
theorem cu (C:X.N.Nodup)(J:FE X E e f)(I:X.N[i]? = some x:=by rfl)(hx:Loc X.env.scope x:=by first|exact .inl rfl|exact .inr rfl)(o:d4 e (some<|.Name x pos') pos.line X.env=pure false:=by rfl)
  (U:X.fn x=true\/X.env.scope.names.lookup x=some .local:=by clean_wf):FS X E (.Assign [.Name x pos'] e pos) (bC i f):=adP C I hx J o U
theorem kZ (C:X.N.Nodup)(J:FN X E e f)(I:X.N[i]? = some x:=by rfl)(hx:Loc X.env.scope x:=by first|exact .inl rfl|exact .inr rfl)(o:d4 e (some<|.Name x pos') pos.line X.env=pure false:=by rfl)
  (U:X.fn x=true\/X.env.scope.names.lookup x=some .local:=by clean_wf):FS X E (.Assign [.Name x pos'] e pos) (eV i f):=Yj C I hx J o U
theorem cT {k:Nat}(o:X.N.Nodup)(C:X.N[i]? = some x:=by rfl)(J:Loc X.env.scope x:=by first|exact .inl rfl|exact .inr rfl)(hk:i<k:=by decide)
  (I:X.fn x=true\/X.env.scope.names.lookup x=some .local:=by clean_wf):FG X k (.Name x pos) (hName i):=abw o C J hk I
theorem lF (J:FI X E tg iter fi)(hg:FG X 1000 tg h)(C:FSs X E body g)(o:yA (cx X.prog X.w) X.A X.env X.xe:=by exact ng)(U:X.calm=true:=by rfl)
  (I:∀x,hZ iter X.env x=pure x:=by intro _;rfl):FS X E (.For tg iter body [] pos) (ir fi h g):=adg o U J hg C I
end
theorem nds {N:List Str}(h:decide N.Nodup=true):N.Nodup:=of_decide_eq_true h
abbrev NO (K:bo)(x:Str):Prop:=xI K dA x=some none
structure Cb (K:bo)(mg:Zp)(base:Heap):Prop where
 X:K.In base
 N:base.Ns dA mg
structure Ck (K:bo)(x:Str)(i j:Int):Prop where
 ex:∃C nn sl t u,xI K dA x=some (some (.ref C))/\K.lookup C=some ⟨.type "tuple",none,.seq #[.int i t,.int j u] nn,sl⟩
section
variable {P:bE}{w:eI}{K:bo}{mg:Zp}{base:Heap}{x:Str}{st:Stmt}{N ps:List Str}{k:Nat}{g:Zab}{i j:Int}
theorem ck {C:Addr}{I:Nat}{o:Array (Option ax)}{t u:Tok}(a:xI K dA x=some (some<|.ref C))(b:K.lookup C=some ⟨.type "tuple",none,.seq #[.int i t,.int j u] I,o⟩):Ck K x i j:=⟨_,_,_,_,_,a,b⟩
theorem Cb.no (C:Cb K mg base)(h:NO K x):mg x=none:=W.mg_none_of C.X C.N h
theorem Cb.cn {X:Cx}{E:XK}{o:Pos}(B:Cb X.K X.mg X.base)(c:Ck X.K x i j)(I:Gl X x:=by rfl)(hd:(x==("__debug__":Str))=false:=by decide):FE X E (.Name x o) (fC<|.tup [.int i,.int j]):=by
 obtain⟨C,_,_,t,u,a,b⟩:=c.ex;exact QF I (sM B.X B.N a) (v:=.ref C) rfl (λ_ _=>.tup (xs:=[.int i,.int j]) (.inr ⟨_,_,_,b,rfl,⟨rfl,rfl⟩,(show 2<=ai by decide),(.cons ⟨t,rfl⟩<|.cons ⟨u,rfl⟩ .nil)⟩) (.cons (.int i)<|.cons (.int j) .nil)) hd
abbrev Bds (x:Str)(st:Stmt)(ps:List Str):Prop:=∀(kV b e:ax) (d:Option Addr) (c ct:ax) (a:List ax),a.length=ps.length->bindArgs (AY x x (pN st) (jB st) (aM st) .none kV b e d c ct) ⟨a,[]⟩=pure (ps.zip a)
theorem QD.ff {sp:Sp}(Q:QD K x st)(C:Cb K mg base)(hk:∀f o,Fun K x x st f o->ph P w K mg base (CX1 P w) k f o ps sp)
  (I:Bds x st ps:=by first|exact λ_ _ _ _ _ _=>xb1 λ_=>rfl|exact λ_ _ _ _ _ _=>xb2 λ_ _=>rfl|exact λ_ _ _ _ _ _=>xb3 λ_ _ _=>rfl|exact λ_ _ _ _ _ _=>xb4 λ_ _ _ _=>rfl|exact λ_ _ _ _ _ _=>xb5 λ_ _ _ _ _=>rfl|exact λ_ _ _ _ _ _=>xb6 λ_ _ _ _ _ _=>rfl):Hd.Fn P w K mg base k x ps sp:=(Q.df C.X C.N I).fn hk
end
theorem QD.go {P:bE}{w:eI}{K:bo}{mg:Zp}{I:Heap}{x:Str}{st:Stmt}{N ps:List Str}{k:Nat}{g:Zab}(Q:QD K x st)(C:Cb K mg I)(S:bj N ps (aM st))
  (hk:∀f (J:ax) (A:fm) (o:List Env) (s:aI) (H:Hp) (E:XK),gG k (A.deeper<|y6 x (aM st) s.heap.objs.size f J)->N.Nodup->FSs (pq (CX1 P w) P w K mg I N x (aM st) f J A o s H E) E (jB st) g)
  (U:Bds x st ps:=by first|exact λ_ _ _ _ _ _=>xb1 λ_=>rfl|exact λ_ _ _ _ _ _=>xb2 λ_ _=>rfl|exact λ_ _ _ _ _ _=>xb3 λ_ _ _=>rfl|exact λ_ _ _ _ _ _=>xb4 λ_ _ _ _=>rfl|exact λ_ _ _ _ _ _=>xb5 λ_ _ _ _ _=>rfl|exact λ_ _ _ _ _ _=>xb6 λ_ _ _ _ _ _=>rfl):FF P w K mg I (k+1) x ps (aV N.length ps.length g):=
 Q.ff C (λf c a=>bG a S λJ A o s H E b=>hk f J A o s H E b S.nd) U
section
variable {X:Cx}{π:Zl}{s:aI}{σ:L2.St}{H:Hp}{a:Addr}{o:Obj}{u:HO}{vals:List V}
end
section
variable {X:Cx}{tg:Expr}
end
section
variable {X:Cx}{tg:Expr}
end
section
variable {prog:bE}{w:eI}{A:fm}{E:Zs}{s:aI}
end
section
variable {X:Cx}
end
section
variable {X:Cx}
def agI:List V->Hp->VK->Prop:=λc H Q=>∃a b,c=[.ref a]/\Rd H a (.dK b)/\∀l,H l=none->Q (.ref l) (upd H l<|.lst<|b.map λp=>kV p.1)
theorem VN {J:Zl}{U:L2.St}{H:Hp}{s:aI}{a:Addr}{ι:List (Key×V)}(I:Inv X J U H s)(e:Rd H a (.dK ι)):
  ι.length<=ai/\(a==eW)=false/\∃o es C,s.heap.get? a=some o/\o.ExactDict/\o.data=.dict es C/\es.size=ι.length/\Vals (ι.map λp=>kV p.1) (es.toList.map (·.key)):=by
 obtain⟨c,hd,k,g,o,es,C,i,f,d,_,b,j⟩:=(e.ok I.hok);have v:Vals (ι.map λp=>kV p.1) (es.toList.map (·.key)):=by
  clear j d e c;generalize es.toList=l at b;induction g generalizing l with
  |nil=>cases b;exact .nil
  |cons h _ ih=>
   cases b with
   |cons k1 k2 k3=>exact .cons (by dsimp only;rw[h.1];exact Sw k1) (ih _ k3)
 exact⟨c,hd,o,es,C,i,f,d,by have:=v.length;simpa using this.symm,v⟩
theorem K3 (C:X.calm=true):gU X (.type "list") agI:=by
 intro L s M H G F Q I r h;obtain⟨a,j,rfl,e,q⟩:=h;obtain⟨u,rfl,n⟩:=vals1 r;cases n;obtain⟨v,hd,o,g,K,k,B,l,sz,A⟩:=VN I e;refine W.kdl_call (agw hd B l) (I.ok.hd C) k (by lia) λt tk b c kp m x=>?_;have D:b.toList=g.toList.map (·.key):=by
  obtain⟨z,h⟩:=x;refine List.ext_getElem (by simp[z]) λi f E=>?_;obtain⟨y,d,ev⟩:=h i b[i] (by simp at f;simp[f]);obtain⟨lt,d⟩:=fg.mp d;simp only[Au,List.getElem_map];rw[ev,d]
 refine⟨.ref _,_,I.laid (t':=tk) kp (aS _)<|show gO X.prog X.w _ t _ (.lst<|j.map λp=>kV p.1) from⟨?_,g.toList.map (·.key),c,A,?_⟩,rfl,q _<|I.hok.fresh<|aS _⟩
 ·rw[a6];exact v
 ·rw[← D];simpa using m
theorem Gf {G:Gx}{O:Zaa}{H:Hp}:∀{ι:List (Key×V)},DVs G O H (ι.map λp=>kV p.1) ((ι.map (·.1)).map keyV)
 |[]=>.nil
 |p::ι=>.cons (abg p.1) Gf
def wZ (o:Zae):Zae:=λm=>(o m).bind λd=>match d with
 | .dct ks _=>.ok<|.lst<|ks.map keyV
 |_=>.stuck
theorem TJ {E:XK}{o:Expr}{J:Zae}{p I:Pos}(hc:X.calm=true)(hg:Gl X "list")(U:X.mg "list" = none)(ho:FE X E o J)
  (C:ag [o] X.env=(false,eval o X.env)::ag [] X.env:=by rfl):
  FN X E (.Call (.Name "list" p) [o] [] I) (wZ J):=
 bJ (uN (K3 hc) hg U nG (cL ho jh C) (by decide) (by decide) C rfl) λg H Q h=>by
  obtain⟨e,M0,H0,ow,m,R,q⟩:=h;refine⟨e,M0,H0,ow,m,R,q.bind.imp (aL.refl _) λd q v f a c=>?_⟩;cases d with
  |dct ks ds=>
   cases c with
   |dct n e1 e2 e3 C=>
    subst e2;exact⟨_,_,rfl,e1,λl b=>q l _ (a.trans<|bH b _) (a.free b) ⟨_,aX,Gf⟩⟩
  |_=>exact q.elim
end
section
variable {X:Cx}{E:XK}{o e:Expr}{es:List Expr}{fa:Zae}{fs:Zad}{apos η:Pos}
end
def abV:V->List V->Hp->VK->Prop:=λx b H Q=>∃a c,x=.ref a/\b=[]/\H a=some (.dK c)/\Q .non (upd H a<|.dK [])
def afo:V->List V->Hp->VK->Prop:=λx c H Q=>∃a b more,x=.ref a/\c=[.ref b]/\H a=some (.dK [])/\Rd H b (.dK more)/\a≠b/\Q .non (upd H a<|.dK more)
section
variable {X:Cx}
theorem aaM:MtM X "dict.clear" abV:=by
 intro l s m H x g v k Q I c d h;obtain⟨a,i,rfl,rfl,e,q⟩:=h;cases c;have b:=d.zero;subst b;exact aaR I e λj f=>⟨.non,_,f,rfl,q⟩
theorem Z2:MtM X "dict.update" afo:=by
 intro M s N H x g v L Q I t E h;obtain⟨a,b,more,rfl,rfl,e,p,G,q⟩:=h;cases t;obtain⟨u,rfl,y⟩:=E.one;cases y;obtain⟨z,hd,g,f,i⟩:=Hm I.hok e;obtain⟨A,l,c,k,j⟩:=tH I.hok p;have m:g=[]:=by cases f;rfl
 subst m;have B:(c.map (·.1)).Nodup:=by
  obtain⟨_,_,_,_,_,_,_,_,n⟩:=j;exact n
 refine tw w9 i.typeIs PySem.F.entry_dict_update (PySem.F.args_dict_update_2 _ _) (meets_dict_update (eF X.prog X.w) a b G l) ⟨_,c,i,j,by have:=k.length;have s:ai=16777216:=rfl;simp;lia,λD d _ r=>?_⟩;rw[merged_nil_of_nodup c B] at d;have K:∃q,D.get? a=some q:=let⟨q,_,_,hq,_⟩:=d;⟨q,hq⟩
 exact⟨.non,_,mF (t':=s.toks) I (by rw[e];exact gu) r K<|zm A hd k d,rfl,q⟩
end
section
variable {X:Cx}{E:XK}{b e:Expr}{fb f:Zae}{pos apos η:Pos}
end
open PySem.AutoSeq1 (wpAny_loadPart')
open PySem.MeetsSeq PySem.MeetsSeq2 PySem.MeetsSeq3
section
variable {P:bE}{w:eI}{Ar:fm}{st:aI}
end
section
variable {X:Cx}
end
open PySem.AutoSeq1 (wpAny_loadPart')
def w5 (i:Nat):Zab:=λm=>match m[i]? with
 |some (.ow<|.odd _)=>.ok (.nx,m.set i<|.ow<|.dct [] [])
 |_=>(ofO<|qg m i).bind λo=>.ok (.nx,nu m i o.1 [] [])
def afn:V->List V->Hp->VK->Prop:=λx b H Q=>abV x b H Q\/∃a n,x=.ref a/\b=[]/\H a=some (.odd n)/\Q .non (upd H a<|.dK [])
theorem aaG {X:Cx}:MtM X "dict.clear" afn:=by
 intro i s k H x f v g Q I c d h;rcases h with h|⟨a,n,rfl,rfl,e,q⟩
 ·exact aaM i s k H x f v g Q I c d h
 ·cases c;have b:=d.zero;subst b;exact ZD I e λl j=>⟨.non,_,j,rfl,q⟩
theorem Tz {X:Cx}{E:XK}{x:Str}{I C U J:Pos}(i:Nat)(hN:X.N[i]? = some x:=by rfl)(hv:Vis X.env.scope x:=by simp_wf)(hd:(x==("__debug__":Str))=false:=by decide)(hcd:(x==("__classdict__":Str))=false:=by decide)
  (θ:gE (.Name x I) "clear" X.env (eval (.Name x I) X.env)=eval (.Name x I) X.env:=by rfl) (ζ:(C.endLine==U.line)=true:=by rfl)
  (τ:d4 (.Call (.Attribute (.Name x I) "clear" C) [] [] U) none J.line X.env=pure false:=by rfl):FS X E (.Expr (.Call (.Attribute (.Name x I) "clear" C) [] [] U) J) (w5 i):=
 bW (pW (Ib ka pd PySem.F.type_dict_clear aaG (iZ hN hv hd hcd) θ ζ) τ) λW y H s=>xq5 s λj M0 H0 ow m R q=>by
  unfold w5 at q;split at q
  ·rename_i n h;obtain⟨a,e,_,c,b⟩:=R.toRel.slot i _ h;have b:H a=some (.odd n):=b;have g:OV (gx X) (Ow j ow) (upd H a<|.dK []) a (.dct [] []):=⟨[],[],aX,rfl,rfl,.nil⟩;exact⟨_,c,.inr<|.inr<|.inr<|.inr ⟨rfl,n,b⟩,.inr ⟨a,n,rfl,rfl,b,q _ _ _ (R.chg (d:=.odd n) (d':=.dct [] []) e jJ g<|.inl ⟨h,rfl⟩)<|Go.chg e jJ g⟩⟩
  ·obtain⟨o,p,q⟩:=Ss.ofO q;obtain⟨k,v,w⟩:=o;obtain⟨a,f,e,r,c,b,u,t⟩:=uM R.toRel p;obtain⟨R2,l⟩:=R.nu (ι:=[]) (ls:=[]) (es:=[]) e t rfl .nil;exact⟨_,r,.inr<|.inr<|.inl ⟨rfl,.inl ⟨f,.inl c⟩⟩,.inl ⟨a,f,rfl,rfl,c,q _ _ _ R2 l⟩⟩
section
variable {P:bE}{w:eI}{Ar:fm}{st:aI}
end
section
variable {X:Cx}{π:Zl}{s:aI}{σ:L2.St}{H:Hp}{O:Zaa}
end
open PySem.AutoSeq1 (wpAny_loadPart')
theorem yF:fillsNumberSlot (.type "tuple") "mul" = pure false:=
 PySem.fillsNumberSlot_seq ku.lookup (by decide +kernel) xy.lookup (by decide +kernel)
theorem Jy:seqRepeat? (.type "tuple")=pure (some<|.builtin "tuple.__mul__"):=by
 unfold seqRepeat?;rw[PySem.seqSlot_of (T:="tuple") (name:="__mul__") (id:="tuple.__mul__") ku.lookup (by decide +kernel),PySem.seqSlot_of (T:="tuple") (name:="__rmul__") (id:="tuple.__rmul__") xy.lookup<|by decide +kernel];rfl
theorem Tu (k:Int)(t:Tok)(p:Addr)(v:Array ax)(c:Nat)(dd:Option Addr)(o:Array (Option ax)):
  Meets (sx.«int.__rmul__» ⟨[.int k t,.ref p],[]⟩) (λ_ R s=>s.heap.get? p=some { cls:=.type "tuple",dict:=dd,data:=.seq v c,slots:=o }/\R (.ok<|.ret Value.notImplemented) s):=
 .of_wp λ_ _ _ R s w=>by
  obtain⟨d,b,g,f,a⟩:=s;obtain⟨e,w⟩:=w
  wp_walk
  exact⟨_,rfl,w⟩
theorem Ny (p:Addr)(v:Array ax)(c:Nat)(t:Tok)(dd:Option Addr)(o:Array (Option ax)):
  Meets (sx.«tuple.__mul__» ⟨[.ref p,.int 1 t],[]⟩) (λ_ R s=>s.heap.get? p=some { cls:=.type "tuple",dict:=dd,data:=.seq v c,slots:=o }/\R (.ok<|.ret<|eK p) s):=
 .of_wp λ_ _ _ R s w=>by
  obtain⟨d,b,g,f,a⟩:=s;obtain⟨e,w⟩:=w
  wp_walk using zI e
  exact⟨_,rfl,w⟩
section
variable {X:Cx}{tg:Expr}
end
def KX (K:bo)(H:Hp)(x:V)(t:ax):Prop:=(x=.non/\t=.type "NoneType")\/∃a C,x=.ref a/\t=.ref C/\(∃b,H a=some (.frz b<|.ext<|zz a<|.ref C))/\XC K C
def agd (K:bo):List V->Hp->VK->Prop:=λa H Q=>∃x t C b,a=[x,.ref C]/\KX K H x t/\fw K t (.ref C)=some b/\Q (.bl b) H
def agE (K:bo):List V->Hp->VK->Prop:=λc H Q=>∃x t l,∃a:List Addr,∃b,c=[x,.ref l]/\H l=some (.tup<|a.map V.ref)/\KX K H x t/\BQ K t (a.map eK)=some b/\Q (.bl b) H
theorem Hi:∀{o:List Addr} {us:List ax},Vals (o.map V.ref) us->us=o.map eK
 |[],_,.nil=>rfl
 |_::_,_,.cons r t=>by rw[Hi t];cases r;rfl
section
variable {X:Cx}
theorem W8:gU X (.builtin "isinstance") (agd X.K):=by
 intro p s v H n l Q I r h;obtain⟨x,t,C,b,rfl,d,e,q⟩:=h;obtain⟨u,k,rfl,c,a⟩:=vals2 r;cases(a);rcases d with⟨rfl,rfl⟩|⟨i,D,rfl,rfl,⟨m,j⟩,Z⟩
 ·cases(c);exact jv W.kitx_none I.kIn trivial e (λz=>nomatch z) λtk=>⟨.bl b,H,I.tok _,rfl,q⟩
 ·cases(c);obtain⟨_,⟨o,f,g,_⟩,_⟩:=(I.hok i _ j);exact jv (Bo Z) I.kIn ⟨o,f,g⟩ e (λz=>nomatch z) λtk=>⟨.bl b,H,I.tok _,rfl,q⟩
theorem YK:gU X (.builtin "isinstance") (agE X.K):=by
 intro N s O H L E Q I r h;obtain⟨x,t,l,P,b,rfl,k,m,e,q⟩:=h;obtain⟨u,A,rfl,i,c⟩:=vals2 r;cases(c);obtain⟨_,B,j,⟨⟨p,G,g,M⟩,f,v,n,hd,_⟩⟩:=(I.hok l _ k);cases(v);cases(hd);cases Hi j;rcases m with⟨rfl,rfl⟩|⟨w,D,rfl,rfl,⟨F,y⟩,Z⟩
 ·cases(i);exact W.kia_tup W.kitx_none I.kIn trivial f e (λz=>nomatch z) λtk=>⟨.bl b,H,I.tok _,rfl,q⟩
 ·cases(i);obtain⟨_,⟨o,a,d,_⟩,_⟩:=(I.hok w _ y);exact W.kia_tup (Bo Z) I.kIn ⟨o,a,d⟩ f e (λz=>nomatch z) λtk=>⟨.bl b,H,I.tok _,rfl,q⟩
end
def ICl (K:bo)(mg:Zp)(y:Str)(tab:Str->Option Bool):Prop:=∃C,mg y=some (.ref C)/\(∀c D b,tab c=some b->mg c=some (.ref D)->XC K D/\fw K (.ref D) (.ref C)=some b)/\fw K (.type "NoneType") (.ref C)=some false
def EY:List (Str->Option Bool)->Str->Option Bool
 |[],_=>some false
 |t::r,c=>match t c with
  |some true=>some true
  |some false=>EY r c
  |none=>none
def Kh (tab:Str->Option Bool)(f:Zae):Zae:=λm=>(f m).bind λd=>match d with
 | .exc c _ _=>ofO<|(tab c).map D.bl
 | .non=>.ok<|.bl false
 |_=>.stuck
inductive ICs (X:Cx):List Expr->List (Str->Option Bool)->List Addr->Prop
 |nil:ICs X [] [] []
 |cons {y:Str} {py:Pos} {tab:Str->Option Bool} {es:List Expr} {ts:List (Str->Option Bool)} {C:Addr} {Cs:List Addr}:Gl X y->(y==("__debug__":Str))=false->X.mg y=some (.ref C)->
   (∀c D b,tab c=some b->X.mg c=some (.ref D)->XC X.K D/\fw X.K (.ref D) (.ref C)=some b)->fw X.K (.type "NoneType") (.ref C)=some false->
   ag (.Name y py::es) X.env=(false,eval (.Name y py) X.env)::ag es X.env->ICs X es ts Cs->ICs X (.Name y py::es) (tab::ts) (C::Cs)
section
variable {X:Cx}{E:XK}{a:Expr}{fa:Zae}{y:Str}{pos p py:Pos}
def afu (o:List Addr):TA:=λ_ H Q=>Q (o.map V.ref) H
theorem PX:∀{es:List Expr} {ts:List (Str->Option Bool)} {o:List Addr},ICs X es ts o->PA X es (afu o)
 |_,_,_,.nil=>λpos a s b H Q I h=>jh pos a s b H Q I h
 |_,_,_,.cons hg hd hm _ _ hs t=>λpos a s b H Q I h=>cL (Ie (v:=.ref _) hg hm rfl hd) (PX t) hs pos a s b H Q I h
theorem PK:∀{es:List Expr} {ts:List (Str->Option Bool)} {o:List Addr},ICs X es ts o->o.length=es.length
 |_,_,_,.nil=>rfl
 |_,_,_,.cons _ _ _ _ _ _ t=>congrArg (· + 1)<|PK t
theorem Rr:∀{es:List Expr} {ts:List (Str->Option Bool)} {o:List Addr},ICs X es ts o->BQ X.K (.type "NoneType") (o.map eK)=some false
 |_,_,_,.nil=>rfl
 |_,_,_,.cons _ _ _ _ hn _ t=>by rw[ay,BQ,hn];exact Rr t
theorem Yn {c:Str}{D:Addr}(o:X.mg c=some (.ref D)):∀{es:List Expr} {ts:List (Str->Option Bool)} {C:List Addr} {b:Bool},ICs X es ts C->EY ts c=some b->BQ X.K (.ref D) (C.map eK)=some b
 |_,_,_,_,.nil,e=>e
 |_,_,_,b,.cons (tab:=tab) _ _ _ hx _ _ t,e=>by
  unfold EY at e;rw[ay,BQ];cases q:tab c with
  |none=>rw[q] at e;cases e
  |some z=>
   rw[q] at e;obtain⟨_,a⟩:=hx c D z q o;rw[a];cases z with
   |true=>exact e
   |false=>exact Yn o t e
theorem aee {tab:Str->Option Bool}(ha:FB X E a fa)(hg:Gl X "isinstance")(hm:X.mg "isinstance" = none)(o:bP "isinstance" = some (.builtin "isinstance"))(J:Gl X y)(U:ICl X.K X.mg y tab)
  (hdy:(y==("__debug__":Str))=false:=by decide) (he:ag [a,.Name y py] X.env=(false,eval a X.env)::ag [.Name y py] X.env:=by rfl) (I:ag [.Name y py] X.env=(false,eval (.Name y py) X.env)::ag [] X.env:=by rfl) (ξ:(iE pos<|ag [.Name y py] X.env).any (·.1)=false:=by rfl):
  FE X E (.Call (.Name "isinstance" p) [a,.Name y py] [] pos) (Kh tab fa):=by
 obtain⟨C,c,U,t⟩:=U;refine bJ (uo W8 hg hm o (cL ha (cL (Ie (v:=.ref C) J c rfl hdy) jh I) he) (by decide) (by decide) he ξ) λx H Q h=>?_;obtain⟨j,M0,H0,ow,m,R,q⟩:=h;refine⟨j,M0,H0,ow,m,R,q.bind.imp (aL.refl _) λd q v H' g o=>?_⟩;cases d with
 |exc k=>
  obtain⟨r,l,f⟩:=q.ofO;obtain⟨b,i,rfl⟩:=omap l;obtain⟨u,D,rfl,w,s⟩:=MJ o;obtain⟨n,e⟩:=U k D b i w;exact⟨_,_,C,b,rfl,.inr ⟨u,D,rfl,rfl,s,n⟩,e,f _ _ g<|.bl _⟩
 |non=>
  cases tu o;exact⟨_,_,C,false,rfl,.inl ⟨rfl,rfl⟩,t,q _ _ g<|.bl _⟩
 |_=>exact q.elim
theorem adK {es:List Expr}{ts:List (Str->Option Bool)}{U:List Addr}{J:Str->Option Bool}{x1}(ha:FB X E a fa)(hg:Gl X "isinstance")(hm:X.mg "isinstance" = none)(C:bP "isinstance" = some (.builtin "isinstance"))(o:ICs X es (J::ts) U)(hz:es.length<=ai:=by decide)
  (he:ag [a,.Tuple es x1 py] X.env=(false,eval a X.env)::ag [.Tuple es x1 py] X.env:=by rfl) (I:ag [.Tuple es x1 py] X.env=(false,eval (.Tuple es x1 py) X.env)::ag [] X.env:=by rfl) (ξ:(iE pos<|ag [.Tuple es x1 py] X.env).any (·.1)=false:=by rfl):
  FE X E (.Call (.Name "isinstance" p) [a,.Tuple es x1 py] [] pos) (Kh (EY (J::ts)) fa):=by
 refine bJ (uo YK hg hm C (cL ha (cL (Wi<|PX o) jh I) he) (by decide) (by decide) he ξ) λy H Q h=>?_;obtain⟨s,M0,H0,ow,m,R,q⟩:=h;refine⟨s,M0,H0,ow,m,R,q.bind.imp (aL.refl _) λd q v H' g C=>?_⟩;have i:=PK o;cases d with
 |exc k=>
  obtain⟨r,t,n⟩:=q.ofO;obtain⟨b,f,rfl⟩:=omap t;obtain⟨x,D,rfl,j,e⟩:=MJ C;have w:XC X.K D:=by
   cases o with
   |cons _ _ _ hx _ _ _=>
    unfold EY at f;cases q:J k with
    |none=>rw[q] at f;cases f
    |some z=>exact(hx k D z q j).1
  refine⟨by simpa[i] using hz,λl c=>⟨_,_,l,U,b,rfl,aX,.inr ⟨x,D,rfl,rfl,?_,w⟩,Yn j o f,n _ _ (g.trans<|bH c _)<|.bl _⟩⟩;obtain⟨u,e⟩:=e;exact⟨u,by rw[cB (λz=>by rw[z,c] at e;cases e)];exact e⟩
 |non=>
  cases tu C;exact⟨by simpa[i] using hz,λl c=>⟨_,_,l,U,false,rfl,aX,.inl ⟨rfl,rfl⟩,Rr o,q _ _ (g.trans<|bH c _)<|.bl _⟩⟩
 |_=>exact q.elim
theorem ZS:∃o,ICs X [] [] o:=⟨_,.nil⟩
theorem xN {tab:Str->Option Bool}{es:List Expr}{ts:List (Str->Option Bool)}(h:ICl X.K X.mg y tab)(t:∃o,ICs X es ts o)(I:Gl X y:=by rfl)(hd:(y==("__debug__":Str))=false:=by decide)
  (C:ag (.Name y py::es) X.env=(false,eval (.Name y py) X.env)::ag es X.env:=by rfl):∃o,ICs X (.Name y py::es) (tab::ts) o:=let⟨_,a,b,c⟩:=h;let⟨_,t⟩:=t;⟨_,.cons I hd a b c C t⟩
theorem aaO {es:List Expr}{ts:List (Str->Option Bool)}{I:Str->Option Bool}{x1}(ha:FB X E a fa)(hg:Gl X "isinstance")(hm:X.mg "isinstance" = none)(J:bP "isinstance" = some (.builtin "isinstance"))(C:∃Cs,ICs X es (I::ts) Cs)(hz:es.length<=ai:=by decide)
  (he:ag [a,.Tuple es x1 py] X.env=(false,eval a X.env)::ag [.Tuple es x1 py] X.env:=by rfl) (o:ag [.Tuple es x1 py] X.env=(false,eval (.Tuple es x1 py) X.env)::ag [] X.env:=by rfl) (U:(iE pos<|ag [.Tuple es x1 py] X.env).any (·.1)=false:=by rfl):
  FE X E (.Call (.Name "isinstance" p) [a,.Tuple es x1 py] [] pos) (Kh (EY (I::ts)) fa):=let⟨_,C⟩:=C;adK ha hg hm J C hz he o U
end
end F
namespace Hd
open PySem PySem.Spec PyProof.Rows L2
section
variable {X:Cx}{i j k:Nat}{x:Str}{ps:List Str}{sp:Sp}{p pos:Pos}{e:Expr}{es:List Expr}{t:TA}{f:Addr}{fd:iL}
end
end Hd
namespace F
open PySem PySem.Spec PyProof.Rows L2 Hd
section
variable {X:Cx}{E:XK}{i j k l:Nat}{x y z:Str}{ps qs:List Str}{p pos η:Pos}{e:Expr}{es:List Expr}{fs:Zad}{Φ Ψ:Zac}{a b:Addr}
end
section
variable {prog:bE}{w:eI}{κ:Type}[DecidableEq κ]{kn:HeapKind prog w κ}{A:fm}{E:Zs}{s:aI}
end
section
variable {X:Cx}{π:Zl}{σ:L2.St}{H:Hp}{s:aI}
end
def delD:List Key->List D->Key->List Key×List D
 |k'::ks,d::ds,k=>if k'=k then delD ks ds k else(k'::(delD ks ds k).1,d::(delD ks ds k).2)
 |_,_,_=>([],[])
theorem O7 {G:Gx}{O:Zaa}{H:Hp}{k:Key}:∀{ι:List (Key×V)} {ds:List D},DVs G O H (ι.map (·.2)) ds->
  (zJ ι k).map (·.1)=(delD (ι.map (·.1)) ds k).1/\DVs G O H ((zJ ι k).map (·.2)) (delD (ι.map (·.1)) ds k).2
 |[],_,.nil=>⟨rfl,.nil⟩
 |(k',v)::ι,_,.cons h hs=>by
  obtain⟨a,b⟩:=O7 hs;show _=(if k'=k then _ else _:List Key×List D).1/\DVs G O H _ (if k'=k then _ else _:List Key×List D).2;unfold zJ at a b ⊢;by_cases q:k'=k
  ·rw[if_pos q,List.filter_cons_of_neg<|by simp[q]];exact⟨a,b⟩
  ·rw[if_neg q,List.filter_cons_of_pos<|by simp[q]];exact⟨by rw[ay,a],.cons h b⟩
section
variable {X:Cx}
def afX:V->List V->Hp->VK->Prop:=λx c H Q=>∃a b k v,x=.ref a/\c=[kV k]/\H a=some (.dK b)/\nj b k=some v/\Q v (upd H a<|.dK<|zJ b k)
theorem abC:MtM X "dict.pop" afX:=by
 intro p s t H x i v n Q I b d h;obtain⟨a,j,k,y,rfl,rfl,e,l,q⟩:=h;cases b;obtain⟨u,rfl,c⟩:=d.one;exact afB I e c l (.inl rfl) λg m f r=>⟨y,_,f,r,q⟩
end
def wk (i:Nat)(fk:Zae):Me->Res (D×Me):=λm=>(ofO<|qg m i).bind λo=>(fk m).bind λk=>(ofO<|jW k).bind λk=>(ofO<|nH o.2.1 o.2.2 k).bind λd=>.ok (d,nu m i o.1 (delD o.2.1 o.2.2 k).1 (delD o.2.1 o.2.2 k).2)
section
variable {X:Cx}{E:XK}{ke:Expr}{fk:Zae}{np apos η:Pos}{x:Str}
theorem QV (i:Nat)(hk:FE X E ke fk)(hN:X.N[i]? = some x:=by rfl)(hv:Vis X.env.scope x:=by simp_wf)(hd:(x==("__debug__":Str))=false:=by decide)(I:(x==("__classdict__":Str))=false:=by decide)
  (θ:gE (.Name x np) "pop" X.env (eval (.Name x np) X.env)=eval (.Name x np) X.env:=by rfl)
  (ψ:((iE η<|ag [ke] X.env).all (λx=>!x.1)&&(tm η<|md [] X.env).all (λx=>x.1.isSome)&&decide ([ke].length+([]:List me).length+(if([]:List me).isEmpty then 0 else 1)<30))=true:=by rfl)
  (U:(apos.endLine==η.line)=true:=by rfl) (J:ag [ke] X.env=(false,eval ke X.env)::ag [] X.env:=by rfl) (C:(iE η<|ag [] X.env).any (·.1)=false:=by rfl):
  FX X E (.Call (.Attribute (.Name x np) "pop" apos) [ke] [] η) (wk i fk):=
 bJ (FZ ka ze PySem.F.type_dict_pop abC (iZ hN hv hd I) (cL hk jh J) θ ψ U J C) λW H Q y=>xq5 y λB M0 H0 ow m R q=>by
  obtain⟨o,u,q⟩:=(Xs.pu R.toRel q).ofO;obtain⟨k,S,T⟩:=o;obtain⟨a,j,G,w,r,h,v,K⟩:=uM R.toRel u;refine⟨_,w,.inr<|.inr<|.inl ⟨rfl,.inl ⟨j,.inl r⟩⟩,B,M0,H0,ow,m,R.toRel,(Xs.pu R.toRel q).imp (aL.refl _) λM q P V e g=>?_⟩;have n:=R.mono e;obtain⟨L,z,q⟩:=(Xs.pu R.toRel q).ofO;obtain⟨d,f,q⟩:=(Xs.pu R.toRel q).ofO;cases tD (.inl g) z;have b:=v.mono e;rcases uO b with⟨A,O,p,c,dv⟩|⟨p,c⟩
  ·rw[h] at c;cases c.symm.trans f;obtain⟨s,t⟩:=O7 b;rw[h] at s t;obtain⟨D,l⟩:=n.nu G K s t;exact⟨a,j,L,A,rfl,rfl,e _ _ r,p,q _ D ((Go.refl e).trans l) _<|dv.go n.mutk l.ev⟩
  ·rw[h] at c;rw[c] at f;cases f
end
def Yd (i:Nat)(fv:Zae):Zab:=λm=>(ofO<|qg m i).bind λo=>match o.2.1,o.2.2 with
 |[],[]=>(fv m).bind λd=>match d with
  | .dct ks ds=>.ok (.nx,nu m i o.1 ks ds)
  |_=>.stuck
 |_,_=>.stuck
section
variable {X:Cx}{E:XK}{e:Expr}{f:Zae}{x:Str}{np pos apos η:Pos}
theorem Zt (i : Nat) (he : FE X E e f) (hN : X.N[i]? = some x := by rfl) (I : Vis X.env.scope x := by first | exact fN rfl | exact eR (fN rfl) | exact eR (eR rfl)) (hd : (x == ("__debug__" : Str)) = false := by decide) (J : (x == ("__classdict__" : Str)) = false := by decide)
    (θ : gE (.Name x np) "update" X.env (eval (.Name x np) X.env) = eval (.Name x np) X.env := by rfl)
    (ψ : ((iE η (ag [e] X.env)).all (λx => !x.1) && (tm η (md [] X.env)).all (λx => x.1.isSome) && decide ([e].length + ([] : List me).length + (if ([] : List me).isEmpty then 0 else 1) < 30)) = true := by rfl)
    (ζ : (apos.endLine == η.line) = true := by rfl) (U : ag [e] X.env = (false, eval e X.env) :: ag [] X.env := by rfl) (C : (iE η (ag [] X.env)).any (·.1) = false := by rfl)
    (τ : d4 (.Call (.Attribute (.Name x np) "update" apos) [e] [] η) none pos.line X.env = pure false := by rfl) :
    FS X E (.Expr (.Call (.Attribute (.Name x np) "update" apos) [e] [] η) pos) (Yd i f) :=
  bW (pW (FZ ka w9 PySem.F.type_dict_update Z2 (iZ hN I hd J) (cL he jh U) θ ψ ζ U C) τ) λW M H u => xq5 u λy M0 H0 ow m R q => by
    obtain ⟨o, l, q⟩ := Ss.ofO q;obtain ⟨k, B, D⟩ := o;obtain ⟨a, h, g, s, c, j, K, G⟩ := uM R.toRel l;cases B with
    | cons _ _ => exact q.elim
    | nil => cases D with
      | cons _ _ => exact q.elim
      | nil =>
        have r : h = [] := by simpa using j
        subst r;have t
 := q
        refine ⟨_, s, .inr (.inr (.inl ⟨rfl, .inl ⟨[], .inl c⟩⟩)), y, M0, H0, ow, m, R.toRel, (Ss.pu R.toRel t).imp (aL.refl _) λd q v L b I => ?_⟩;have R2 := R.mono b;cases d with
        | dct ls us =>
          cases I with
          | @dct p more _ ws _ n e7 e8 e9 e10 =>
            subst e9;obtain ⟨A, w⟩ := R2.nu g G e8 e10;exact ⟨a, p, more, rfl, rfl, b _ _ c, e7, λz => n (z ▸ .inr ⟨i, g⟩), q _ _ _ A ((Go.refl b).trans w)⟩
        | _ => exact q.elim
end
def wy (i:Nat)(o:Zac)(fs:Zad):Zab:=λm=>(fs m).bind λa=>(o a).bind λr=>
 if(r.1&&!isTup r.2)=true then(if i<m.length then .ok (.nx,m.set i<|.ow r.2) else .stuck) else .ok (.nx,m.set i<|.fz r.2)
section
variable {X:Cx}{E:XK}{j k i:Nat}{x y:Str}{ps:List Str}{Φ:Zac}{p pos py η:Pos}{e:Expr}{es:List Expr}{fs:Zad}
theorem X8 (hN:X.N.Nodup)(I:X.N[i]? = some y)(hy:Loc X.env.scope y)(Fh:FF X.prog X.w X.K X.mg X.base k x ps Φ)(hr:gG j X.A)(hx:Passes (CX1 X.prog X.w) X E)(ha:FAE X E (e::es) fs)(hk:k<=j:=by decide)(hg:Gl X x:=by rfl)
  (C:(x==("__debug__":Str))=false:=by decide) (he:ag (e::es) X.env=(false,eval e X.env)::ag es X.env:=by rfl) (J:(iE η<|ag es X.env).any (·.1)=false:=by rfl)
  (hs:d4 (.Call (.Name x p) (e::es) [] η) (some<|.Name y py) pos.line X.env=pure false:=by rfl)
  (U:X.fn y=true\/X.env.scope.names.lookup y=some .local:=by clean_wf):
  FS X E (.Assign [.Name y py] (.Call (.Name x p) (e::es) [] η) pos) (wy i Φ fs):=by
 obtain⟨f,Q,G,b,kp,m⟩:=Fh.ex;refine bW (wD hN I hy (Aj G (hr.mono hk) hg m kp b .nil hx ha C he J) hs U) λW T H L=>xq5 L λD M0 H0 ow m R q=>⟨D,M0,H0,ow,m,R.toRel,(Ss.pu R.toRel q).imp (aL.refl _) λM q z S c B=>?_⟩;have O:=R.mono c;show spF _ _ (z++[]) _ _ _;rw[dc];refine⟨_,M,O.mutk,B,(Ss.pu R.toRel q).imp c λr q v H' F h P=>?_⟩;have g:=c.trans F;by_cases l:(r.1&&!isTup r.2)=true
 ·rw[if_pos l] at q;obtain⟨s,t⟩:=Bool.and_eq_true_iff.mp l;obtain⟨a,rfl,n,o⟩:=(P s).lst (by simpa using t);have u:=c.free n;by_cases d:i<m.length
  ·rw[if_pos d] at q;exact q _ _ _ (R.own g u (R.toRel.zN u) o d)<|Go.own g u
  ·rw[if_neg d] at q;exact q.elim
 ·rw[if_neg l] at q;exact q _ _ _ ((R.mono g).set h)<|(Go.refl g).trans Go.set
end
def Uo:List (Bool×(Zae))->Me->Res (List<|Bool×D)
 |[],_=>.ok []
 |(b,f)::r,m=>(f m).bind λd=>(Uo r m).bind λl=>.ok ((b,d)::l)
def elP:List (Bool×D)->List Addr->List D
 |[],_=>[]
 |(true,_)::l,a::as=>.adr a::elP l as
 |(true,_)::l,[]=>.adr 0::elP l []
 |(false,d)::l,as=>d::elP l as
def newsE:List (Bool×D)->List D
 |[]=>[]
 |(true,d)::l=>d::newsE l
 |(false,_)::l=>newsE l
theorem Bd:∀(l:List (Bool×D)) (as:List Addr),(elP l as).length=l.length
 |[],_=>rfl
 |(true,_)::l,a::as=>congrArg (· + 1)<|Bd l as
 |(true,_)::l,[]=>congrArg (· + 1)<|Bd l []
 |(false,d)::l,as=>congrArg (· + 1)<|Bd l as
def RK (i j0:Nat)(fs:List (Bool×(Zae)))(k:Zab):Zab:=λm=>
 (Uo fs m).bind λl=>if l.length<=ai/\i<m.length/\j0+(newsE l).length<=m.length/\i<j0 then
  Sq (newsE l).length (λas=>k<|newHs (m.set i<|.ow<|.lst<|elP l as) j0<|as.zip<|newsE l) m
 else .stuck
def tEl (X:Cx)(E:XK):List (Bool×(Zae))->TA
 |[]=>acC
 |(b,f)::r=>R0 (if b then tN (gx X) E f else tE (gx X) E f) (tEl X E r)
section
variable {X:Cx}{E:XK}
theorem DK {M0:Zaa}{H0:Hp}{ow:Os}{J:L2.St}{m:Me}{U:Hp}:∀(fs:List (Bool×(Zae))) {C:Zaa} {H:Hp} {K:List (Bool×D)->Prop} {Q:List V->Hp->Prop},aL U H->Rel (gx X) C M0 H0 ow J H m->Pu (gx X) E (Uo fs m) U K->
  (∀l I as H' o,K l->aL H H'->as.length=(newsE l).length->as.Nodup->(∀a∈as,H a=none)->Rel (gx X) o M0 H0 ow J H' m->(∀b,o b↔C b\/b∈as)->DVs (gx X) (Ow o ow) H' I (elP l as)->(∀x∈as.zip (newsE l),OV (gx X) (Ow o ow) H' x.1 x.2)->Q I H')->tEl X E fs J H Q
 |[],C,H,K,Q,_,R,q,f=>f [] [] [] H C q (aL.refl _) rfl qh (λ_ h=>nomatch h) R (λb=>by simp) .nil λ_ h=>nomatch h
 |(bb,vf)::r,C,H,K,Q,gb,R,q,f=>by
  cases bb with
  |false=>
   refine⟨_,M0,H0,ow,m,R,q.bind.imp gb λd q y L c M=>?_⟩;refine DK r (gb.trans c) (R.mono c) q.bind λl I as B o k n v t i A j s u=>?_;have sub:∀b,Ow o ow b->Ow C ow b\/L b=none:=λb z=>by
    rcases z with z|z
    ·exact((j b).mp z).imp .inl (i b)
    ·exact .inl<|.inr z
   exact f _ (y::I) as B o k (c.trans n) v t (λa h=>c.free<|i a h) A j (.cons ((M.bQ sub).mono n) s) u
  |true=>
   refine⟨_,M0,H0,ow,m,R,q.bind.imp gb λd q p L c F g=>?_⟩;refine DK r (gb.trans c) (R.more c F g.mut) q.bind λl I as B o k n v t i A j s u=>?_;have N:p∉as:=λz=>by
    have w:=i p z;have G:=g.mut;rw[w] at G;rcases G with⟨_,e⟩|⟨_,e⟩|⟨_,e⟩|⟨_,e⟩|⟨_,e⟩<;>cases e
   refine f _ (.ref p::I) (p::as) B o k (c.trans n) (by simp[newsE,v]) (kq.mpr ⟨N,t⟩) (λa h=>?_) A (λb=>?_) (.cons (.adr p) s) λx h=>?_
   ·rcases a9.mp h with rfl|h
    ·exact F
    ·exact c.free<|i a h
   ·rw[j b,a9];constructor
    ·rintro((z|z)|z)
     ·exact .inl z
     ·exact .inr<|.inl z
     ·exact .inr<|.inr z
    ·rintro(z|z|z)
     ·exact .inl<|.inl z
     ·exact .inl<|.inr z
     ·exact .inr z
   ·rcases a9.mp (h) with rfl|h
    ·refine(g.bQ λb z=>?_).mono n;rcases z with z|z
     ·rcases(j b).mp z with(z|z)|z
      ·exact .inl<|.inl<|.inl z
      ·exact .inl<|.inr z
      ·exact .inr<|i b z
     ·exact .inl<|.inl<|.inr z
    ·exact u x h
theorem Xq {i j0:Nat}{y:Str}{J C I:Pos}{es:List Expr}{o:List Stmt}{fs:List (Bool×(Zae))}{k:Zab}
  (hN:X.N.Nodup) (hi:X.N[i]? = some y) (hy:Loc X.env.scope y) (h:PA X es (tEl X E fs)) (hr:FSs X E o k)
  (hs:d4 (.List es I) (some<|.Name y J) C.line X.env=pure false:=by rfl)
  (U:X.fn y=true\/X.env.scope.names.lookup y=some .local:=by clean_wf):
  FSs X E (.Assign [.Name y J] (.List es I) C::o) (RK i j0 fs k):=by
 refine qU (Br (wD hN hi hy (YL h) hs U) hr) λW σ H hE=>xq5 hE λY M0 H0 ow m R q=>?_;refine DK fs (aL.refl _) R.toRel (Ss.pu R.toRel q) λl r as c O2 q Q Z S fr R7 P j d=>?_;by_cases F:l.length<=ai/\i<m.length/\j0+(newsE l).length<=m.length/\i<j0
 case neg=>rw[if_neg F] at q;exact q.elim
 rw[if_pos F] at q;obtain⟨ω,li,lj,ij⟩:=F;unfold Sq at q;split at q
 case isFalse=>exact q.elim
 rename_i M;have sp:=dQ M;generalize hfd:iF M=fd at sp q;obtain⟨B,dd⟩:=fd;refine⟨by rw[cC j,Bd];exact ω,λp n=>?_⟩;have np:p∉as:=λz=>by
  obtain⟨t,T⟩:=List.getElem?_of_mem z;have lt:t<(newsE l).length:=by rw[← Z];exact(cb.mp T).1
  have:=(d (p,(newsE l)[t])<|dy (i:=t) (by rw[List.getElem?_zip_eq_some];exact⟨T,aw lt⟩)).mut
  rw[n] at this;rcases this with⟨_,e⟩|⟨_,e⟩|⟨_,e⟩|⟨_,e⟩|⟨_,e⟩<;>cases e
 obtain⟨V,s,u⟩:=sp as Z S;have s:k (newHs (m.set i<|.ow<|.lst<|elP l as) j0<|as.zip<|newsE l)=.ok (.rt B dd,V):=s;have O:(as.zip<|newsE l).map (·.1)=as:=List.map_fst_zip<|by lia
 let OO:Zaa:=λb=>Ow Y ow b\/b∈p::(as.zip<|newsE l).map (·.1)
 have a:∀b,OO b->Ow O2 ow b\/c b=none:=λb z=>by
  rcases z with(z|z)|z
  ·exact .inl<|.inl<|(P b).mpr<|.inl z
  ·exact .inl<|.inr z
  ·rw[O] at z;rcases a9.mp z with z|z
   ·exact .inr (by rw[z];exact n)
   ·exact .inl<|.inl<|(P b).mpr<|.inr z
 have gs:aL c (upd c p<|.lst r):=bH n _;have b1:OV (gx X) OO (upd c p<|.lst r) p (.lst<|elP l as):=⟨r,aX,(j.bQ a).mono gs⟩;have f:∀x∈as.zip (newsE l),x.1∈as:=λx g=>(sv g).1;have b2:∀x∈as.zip (newsE l),OV (gx X) OO (upd c p<|.lst r) x.1 x.2:=λx g=>((d x g).bQ a).mono gs;have K:(p::(as.zip<|newsE l).map (·.1)).Nodup:=by rw[O];exact kq.mpr ⟨np,S⟩
 have zl:(as.zip<|newsE l).length=(newsE l).length:=by rw[List.length_zip];lia
 obtain⟨R8,g8⟩:=R.aeC (j0:=j0) (Q.trans gs) (Q.free n) (λx g=>fr _<|f x g) K li (by lia) (.inl ij) b1 b2;refine⟨Y,M0,H0,_,_,R8,?_⟩;rw[s];intro v ow' A H' R9 g9 hv L;obtain⟨G,D⟩:=R9.forget (m':=m) u.symm;refine q v _ A H' G ((g8.trans g9).trans D) (hv.bQ λb z=>.inl<|z.elim .inl λ⟨_,e⟩=>by cases e) λz=>?_;rcases L z with⟨p0,u1,u2,u3⟩|t
 ·exact .inl ⟨p0,u1,u2,u3.bQ λb z=>.inl<|z.elim (λw=>.inl<|w.elim .inl λ⟨_,e⟩=>by cases e) .inr⟩
 ·exact .inr t
def BV (f:Zae):Zab:=λm=>(f m).bind λd=>match d with
 | .adr a=>(ofO<|Lr m a 0).bind λo=>if o.2.1=true then .ok (.rt true o.2.2,m.map λ_=>.un) else .stuck
 |d=>.ok (.rt false d,m.map λ_=>.un)
theorem aat {e:Expr}{f:Zae}{C:Pos}(I:FE X E e f):FS X E (.Return (some e) C) (BV f):=bW (Di I) λW t H x=>xq5 x λg M0 H0 ow m R q=>
 ⟨g,M0,H0,ow,m,R.toRel,(Ss.pu R.toRel q).imp (aL.refl _) λd q v H' h n=>by
  have l:=R.mono h;obtain⟨R2,r⟩:=l.forget rfl;have i:Ow g (λ_=>none)=g:=by
   funext b;exact propext ⟨λz=>z.elim id λ⟨_,e⟩=>(by cases e),.inl⟩
  have c:Ss (gx X) E g M0 H0 ow H W (.ok (.rt false d,m.map λ_=>.un))->W.rt v H':=λq=>by
   refine q v _ t H' R2 ((Go.refl h).trans r) ?_ (λz=>by cases z);rw[i];exact n.bQ λb z=>.inl<|.inl z
  cases d with
  |adr a=>
   cases n;obtain⟨o,A,q⟩:=Ss.ofO q;obtain⟨j,_,u⟩:=Sg A;by_cases k:o.2.1=true
   ·rw[if_pos k] at q;obtain⟨p,y,B,s⟩:=l.slot j _ u;refine q _ _ t H' R2 ((Go.refl h).trans r) ?_ λ_=>.inl ⟨a,rfl,y k,?_⟩
    ·rw[i];exact(s.bQ λb z=>.inl<|.inl z).dv (l.no0 j a p)
    ·rw[i];exact s.bQ λb z=>.inl<|z.elim .inl λw=>.inr ⟨j,by rw[w];exact p⟩
   ·rw[if_neg k] at q;exact q.elim
  |_=>exact c q⟩
end
open PySem.AutoSeq1 (wpAny_loadPart')
theorem Nf (p:Addr)(x:ax)(c:Nat)(t:Tok)(dd:Option Addr)(o:Array (Option ax)):
  Meets (sx.«tuple.__mul__» ⟨[.ref p,.int 2 t],[]⟩) (λ_ R s=>s.heap.get? p=some { cls:=.type "tuple",dict:=dd,data:=.seq #[x] c,slots:=o }/\
   R (.ok<|.ret<|eK s.heap.objs.size) { s with heap:=s.heap.push { cls:=B3 "tuple",data:=Data.seq #[x,x] },toks:=s.toks }):=
 .of_wp λ_ _ _ R s w=>by
  obtain⟨d,b,g,f,a⟩:=s;obtain⟨e,w⟩:=w
  wp_walk using zI e
  exact⟨_,rfl,w⟩
theorem Od (p:Addr)(x:ax)(c:Nat)(t:Tok)(dd:Option Addr)(o:Array (Option ax)):
  Meets (sx.«tuple.__mul__» ⟨[.ref p,.int 3 t],[]⟩) (λ_ R s=>s.heap.get? p=some { cls:=.type "tuple",dict:=dd,data:=.seq #[x] c,slots:=o }/\
   R (.ok<|.ret<|eK s.heap.objs.size) { s with heap:=s.heap.push { cls:=B3 "tuple",data:=Data.seq #[x,x,x] },toks:=s.toks }):=
 .of_wp λ_ _ _ R s w=>by
  obtain⟨d,b,g,f,a⟩:=s;obtain⟨e,w⟩:=w
  wp_walk using zI e
  exact⟨_,rfl,w⟩
def Ls:D->D->Option D
 | .tup [d],.int k=>if k=1 then some (.tup [d]) else if k=2 then some (.tup [d,d]) else if k=3 then some (.tup [d,d,d]) else none
 |_,_=>none
theorem Xo {X:Cx}:OpR X (iP .Mult) (rG (gx X) Ls):=by
 intro Y s Z H x y v u Q I N P h;obtain⟨O,d,e,r,m,S,K,c,q⟩:=h
 match d,e,c with
 | .tup [d0],.int k,c=>
  obtain⟨a,W,rfl,E,hd⟩:=xu S;cases cI K;cases N;obtain⟨t,rfl⟩:=P;obtain⟨V,R,T,_⟩:=I.tuple E.sq;cases hd with
  |cons hd1 hd2=>
  cases hd2;cases R with
  |cons r1 r2=>
  cases r2;obtain⟨⟨M,i,z,j⟩,f,B,n,g⟩:=id T;simp only at B g;subst B g;have go:∀{Q':Zs},bt (cx X.prog X.w) X.A (call (.builtin "tuple.__mul__") [.ref a,.int k t]) Q' X.xe s->bt (cx X.prog X.w) X.A (iP .Mult (.ref a)<|.int k t) Q' X.xe s:=λG=>
   wpAny_binaryOp_repeat_ref (by decide) ⟨_,f,rfl⟩ (λL=>z0 L k t) yF zw zS Jy yi.lookup
    (si zS (z0 s k t) PySem.F.entry_int_rmul (PySem.F.args_int_rmul_2 _ _) (Tu k t a _ n i j) ⟨f,rfl,⟨_,f,rfl⟩,G⟩)
  refine go ?_
  replace c:(if k=1 then some (.tup [d0]) else if k=2 then some (.tup [d0,d0]) else if k=3 then some (.tup [d0,d0,d0]) else none)=some r:=c
  by_cases p:k=1
  ·subst p;rw[if_pos rfl] at c;cases c;refine si ku ⟨_,f,rfl⟩ pj (oD _ _) (Ny a _ n t i j) ⟨f,?_⟩;exact⟨.ref a,H,I,rfl,q _ _ (aL.refl _)<|.tup E<|.cons hd1 .nil⟩
  ·rw[if_neg p] at c;by_cases D:k=2
   ·subst D;rw[if_pos rfl] at c;cases c;refine si ku ⟨_,f,rfl⟩ pj (oD _ _) (Nf a _ n t i j) ⟨f,?_⟩;exact QK I (.cons hd1<|.cons hd1 .nil) (.cons r1<|.cons r1 .nil) (by rw[so];simp) (λb o e=>ar _ e) (Bp.new _ _) q
   ·rw[if_neg D] at c;by_cases l:k=3
    ·subst l;rw[if_pos rfl] at c;cases c;refine si ku ⟨_,f,rfl⟩ pj (oD _ _) (Od a _ n t i j) ⟨f,?_⟩;exact QK I (.cons hd1<|.cons hd1<|.cons hd1 .nil) (.cons r1<|.cons r1<|.cons r1 .nil) (by rw[so];simp) (λb o e=>ar _ e) (Bp.new _ _) q
    ·rw[if_neg l] at c;cases c
section
variable {prog:bE}{w:eI}{A:fm}{E:Zs}{s:aI}
end
section
variable {X:Cx}{tg:Expr}
end
section
variable {X:Cx}{E:XK}{tg e:Expr}{f:Zae}
end
section
variable {P:bE}{w:eI}{K:bo}{mg:Zp}{base:Heap}
end
section
variable {X:Cx}{CX:CXT}{j k:Nat}{f:Addr}{fd:iL}{ps:List Str}{sp:Sp}{dvs:List V}{ds:List ax}{E:XK}{x:Str}{p pos:Pos}{e:Expr}{es:List Expr}{t:TA}{Φ:Zac}{fs:Zad}
end
section
variable {P:bE}{w:eI}{K:bo}{mg:Zp}{base:Heap}{N:List Str}{qual:Str}{scope:x8}{f:Addr}{cd:ax}{A:fm}{outer:List Env}{s:aI}{H:Hp}{E:XK}
end
section
variable {X:Cx}{CX:CXT}{i j k:Nat}{f:Addr}{fd:iL}{ps:List Str}{sp:Sp}{dvs:List V}{ds:List ax}{E:XK}{x y:Str}{p pos pos' η:Pos}{e:Expr}{es:List Expr}{t:TA}{Φ:Zac}{fs:Zad}
end
section
variable {prog:bE}{w:eI}{A:fm}{E:Zs}{s:aI}
end
end F
namespace Hd
open PySem PySem.Spec PyProof.Rows L2
section
variable {prog:bE}{w:eI}{A:fm}{E:Zs}{h:Heap}{g:Array qc}{d:Drawn}{t:Nat}{os:OsState}
variable {nm q:Str}{C N fI:Addr}{bs bm bmB:List ax}{hdct:Bool}{sn:List Str}{sub:List ax}{ab:Bool}{col:Option Bool}{dd:Option Addr}{k0 k1 k2 k3 k5:Option ax}{B newId initId:String}
end
section
variable {prog:bE}{w:eI}{A:fm}{E:Zs}{s:aI}{x C:Addr}{ox:Obj}{od:Option Obj}{K:bo}{f:Str}{v:ax}{Q:Unit->aI->Prop}
end
section
variable {prog:bE}{w:eI}{A:fm}{E:Zs}{h:Heap}{g:Array qc}{d:Drawn}{t:Nat}{os:OsState}{a C dx:Addr}{o:Obj}{K:bo}{f:Str}{v:ax}{mA:Zp}
end
section
variable {P:bE}{w:eI}{H:Hp}{h:Heap}{e dx:Addr}{ob:Obj}{fs:List (Str×V)}
end
section
variable {X:Cx}{π:Zl}{σ:St}{H:Hp}{s:aI}{e dx C fI:Addr}{ob:Obj}{fs:List (Str×V)}{φ:Heap->Prop}{f:Str}{v:V}{u:ax}{A:fm}{E:Zs}{Q:Unit->aI->Prop}
end
section
variable {X:Cx}{o value:Expr}{f:Str}{pos pos':Pos}{ta tv:TE}
end
section
variable {P:bE}{w:eI}{K:bo}{mg:Zp}{base:Heap}{q a b:Str}{st:Stmt}{f C:Addr}{fd:iL}{p1 p2 p3 p4 p5 p6 p7 p8:Pos}
end
section
variable {X:Cx}{k:Nat}{f C:Addr}{fd:iL}{ps ns:List Str}{x:Str}{p pos η:Pos}{e:Expr}{es:List Expr}{t:TA}
end
section
variable {P:bE}{w:eI}{K:bo}{mg:Zp}{base:Heap}{N:List Str}{qual:Str}{scope:x8}{f:Addr}{cd:ax}{A:fm}{outer:List Env}{s:aI}{H:Hp}{E:XK}
end
end Hd
namespace F
open PySem PySem.Spec PyProof.Rows L2 Hd
section
variable {X:Cx}{E:XK}{e a:Expr}{es:List Expr}{fs:Zad}{fa:Zae}{x f:Str}{np η pos p:Pos}{j k:Nat}{ns:List Str}
end
def Yg:D->Bool
 | .non=>true
 |d=>(xf d).isSome
def vZ (i:Nat)(fk fv:Zae):Zab:=λm=>(fv m).bind λd=>(ofO<|qg m i).bind λo=>(fk m).bind λk=>match jW k with
 |some k=>if o.2.1.length<ai then .ok (.nx,nu m i o.1 (putD o.2.1 o.2.2 k d).1 (putD o.2.1 o.2.2 k d).2) else .stuck
 |none=>if o.1=true/\Yg k=true/\o.2.1.length<ai then .ok (.nx,m.set i<|.ow<|.odd<|o.2.1.length+1) else .stuck
section
theorem abd (h:DW G O H v d)(e:Yg d=true):v=.non\/∃b k,v=.ref b/\TrT (KTp G.K) H b k:=by
 cases d with
 |non=>
  rcases h with h|⟨a,_,_,h⟩
  ·cases h;exact .inl rfl
  ·exact h.elim
 |tup ds=>
  obtain⟨k,g⟩:=vi.mp e;obtain⟨b,c,f⟩:=rC h g;exact .inr ⟨b,k,c,f⟩
 |_=>exact nomatch (show false=true from e)
theorem Vc (i:Nat)(J:gG jj X.A)(he:FE X E e f)(hk:FE X E ke fk)(hN:X.N[i]? = some x:=by rfl)(C:Vis X.env.scope x:=by simp_wf)(hd:(x==("__debug__":Str))=false:=by decide)(I:(x==("__classdict__":Str))=false:=by decide)
  (U:d4 e (some<|.Subscript (.Name x np) ke spos) pos.line X.env=pure false:=by rfl):FS X E (.Assign [.Subscript (.Name x np) ke spos] e pos) (vZ i fk f):=
 bW (xm (iM J) (iZ hN C hd I) hk he U) λW σ H S=>xq5 S λn M0 H0 ow m R q=>
  ⟨n,M0,H0,ow,m,R.toRel,(Ss.pu R.toRel q).imp (aL.refl _) λd q v H1 r C=>by
   obtain⟨o,M,q⟩:=Ss.ofO q;obtain⟨k,c,D⟩:=o;have l:=R.mono r;obtain⟨a,s,p,P,w,u,O,F⟩:=uM l.toRel M;refine⟨_,P,n,M0,H0,ow,m,l.toRel,(Ss.pu l.toRel<|q.go<|Go.refl r).imp (aL.refl _) λT q vk Q g j=>?_⟩;have R2:=l.mono g;have h:s.length=c.length:=by rw[← a6 (f:=(·.1)),u]
   split at q
   ·rename_i Y Z;cases tD (.inl j) Z;by_cases b:c.length<ai
    ·rw[if_pos b] at q;obtain⟨y,B⟩:=Bh (k:=Y) (C.mono g)<|O.mono g;rw[u] at y B;obtain⟨G,V⟩:=R2.nu p F y B;exact⟨a,_,rfl,Bw.k (g _ _ w) (by rw[h];exact b),q _ _ _ G<|(Go.refl g).trans V⟩
    ·rw[if_neg b] at q;exact q.elim
   ·by_cases b:k=true/\Yg T=true/\c.length<ai
    ·rw[if_pos b] at q;obtain⟨rfl,b,L⟩:=b;have K:m[i]? = some (.ow<|.dct c D):=by
      rcases F with⟨z,_⟩|⟨_,z⟩
      ·exact z
      ·cases z
     have t:OV (gx X) (Ow n ow) (L2.upd Q a<|.odd<|c.length+1) a (.odd<|c.length+1):=L2.aX;exact⟨a,_,rfl,.inr<|.inr ⟨s,g _ _ w,abd (.inl j) b,by rw[h];exact L,by rw[h]⟩,q _ _ _ (R2.chg (d:=.dct c D) (d':=.odd<|c.length+1) p jJ t<|.inl ⟨K,rfl⟩)<|(Go.refl g).trans<|Go.chg p jJ t⟩
    ·rw[if_neg b] at q;exact q.elim⟩
end
end F
namespace K18
open PySem L2 Hd F Pk Lw
section
def jM:Str->Option Bool:=λc=>if c = "NoPlan" then some false else none
def iz:Str->Option Bool:=λc=>if c = "NoPlan" then some false else none
def lK:Str->Option Bool:=λc=>if c = "NoPlan" then some true else none
def jN:Str->Option Bool:=λc=>if c = "NoPlan" then some false else none
def iC:Str->Option Bool:=λc=>if c = "NoPlan" then some false else none
def gQ:Str->Option Bool:=λc=>if c = "NoPlan" then some true else none
def fL:Str->Bool:=λc=>c=="NoPlan"
def jm (o:Zac):Zab:=
 (gIf (cG<|fTv<|fFn o<|aa (aG 0)<|aa (aG 1)<|aa (aG 2) aB) (Jw "NoPlan" (fM<|Ho<|Ke (fC<|.str "this is no plan of side ")<|Ke (fUn aa0<|aj 1) acN)) gNx)
def qR:Zab:=
 (jm gj)
def fP:Zac:=aV 3 3 qR
def vD:Zac:=λ_=>.stuck
def nO (I:Zac)(o:Zac)(C:Zac):Zab:=
 (aH (gEx<|fFn o<|aa (aG 0)<|aa (aG 1)<|aa (aG 2) aB)
 (aY<|fFn C<|aa (fFn I<|aa (aG 0)<|aa (aG 1) aB)<|aa (aG 2) aB))
def xU:Zab:=
 (nO lR fP vD)
def xG:Zac:=aV 3 3 xU
def Ed:Zac:=λ_=>.stuck
def qP (o:Zac)(C:Zac):Zab:=
 (aH (gEx<|fFn o<|aa (aG 0)<|aa (fC<|.int 1)<|aa (aG 1) aB)
 (aH (gEx<|fFn o<|aa (aG 0)<|aa (fC<|.int 2)<|aa (aG 2) aB)
 (aY<|fFn C<|aa (aG 0)<|aa (abK [((fC<|.int 1),(aG 1)),((fC<|.int 2),(aG 2))]) aB)))
def Kc:Zab:=
 (qP fP Ed)
def KZ:Zac:=aV 3 3 Kc
def tW:Zac:=λ_=>.stuck
def zX:Zac:=λ_=>.stuck
def M5:Zab:=
 (bC 3<|fFn zX<|aa (aG 3)<|aa (az gIx (aj 4)<|fC<|.int 1)<|aa (az gIx (aj 2)<|az gIx (aj 4)<|fC<|.int 1) aB)
def Mv:Zab:=
 (ir (jf<|fFn lR<|aa (aG 0)<|aa (aG 1) aB) (hName 4) M5)
def wR (o:Zac)(C:Zac)(I:Zab):Zab:=
 (aH (gEx<|fFn o<|aa (aG 0)<|aa (aG 1)<|aa (aG 2) aB)
 (aH (gIf (aK gGt (fFn C<|aa (aG 2) aB)<|fC<|.int 64) XS gNx)
 (aH (bC 3<|dW<|aa (bu<|aa (fC<|.tup [(.int 1),(.int 1)])<|aa zW aB) aB)
 (aH I
 (aY<|aG 3)))))
def Kz:Zab:=
 (wR fP tW Mv)
def Lk:Zac:=aV 5 3 Kz
def xW:Zab:=
 (aY<|nJ (ig "int" (aj 0))<|OD<|ig "bool" (aj 0))
def xn:Zab:=
 xW
def nA:Zac:=aV 1 1 xn
def iH (C:Zac)(o:Zac):Zab:=
 (aH (gIf (dR (cG<|fTv<|ig "tuple" (aj 0))<|dR (aK gNe (aP cP<|aa (aj 0) aB)<|fC<|.int 2)<|dR (cG<|fTv<|fFn o<|aa (az gIx (aj 0)<|fC<|.int 0) aB)<|cG<|fTv<|fFn o<|aa (az gIx (aj 0)<|fC<|.int 1) aB) (aY<|fC<|.bl false) gNx)
 (aY<|nJ (je gGt (az gIx (aj 0)<|fC<|.int 1)<|fC<|.int 0)<|je gEq (fFn C<|aa (az gIx (aj 0)<|fC<|.int 0)<|aa (az gIx (aj 0)<|fC<|.int 1) aB)<|aj 0))
def iG:Zab:=
 (iH bT nA)
def eN:Zac:=aV 1 1 iG
def bf:Zab:=
 (aH (gIf (dR (cG<|fTv<|fFn eN<|aa (aG 4) aB)<|aK gLt (az gIx (aj 4)<|fC<|.int 0)<|fC<|.int 0) (aY<|fC<|.bl false) gNx)
 (aH (bC 2<|az bR (az eX (aj 2)<|az gIx (aj 4)<|fC<|.int 1)<|az eX (az gIx (aj 4)<|fC<|.int 0)<|aj 3)
 (bC 3<|az eX (aj 3)<|az gIx (aj 4)<|fC<|.int 1)))
def uh:Zab:=
 (ir (sU<|aG 0) (hName 4) bf)
def cW (o:Zab):Zab:=
 (aH (gIf (dR (cG<|fTv<|ig "tuple" (aj 0))<|aK gNe (aP cP<|aa (aj 0) aB)<|aj 1) (aY<|fC<|.bl false) gNx)
 (aH (bC 2<|fC<|.int 0)
 (aH (bC 3<|fC<|.int 1)
 (aH o
 (aY<|je gEq (aj 2)<|aj 3)))))
def oX:Zab:=
 (cW uh)
def jG:Zac:=aV 5 2 oX
def rY:Zae:=
 (d7 1 [1] (jf<|aj 0) (hName 0) (aK gEq (az gIx (aj 0)<|fC<|.int 0)<|aj 1)<|aG 0)
def cY:Zab:=
 (gIf (dR (aK Ge (az gIx (aj 4)<|fC<|.int 1)<|aj 2)<|cG<|fTv<|fFn jG<|aa (az dD (aj 2)<|az gIx (aj 4)<|fC<|.int 1)<|aa (aP cP<|aa (az gIx (aj 4)<|fC<|.int 2) aB) aB) (aY<|fC<|.bl false) gNx)
def wW:Zab:=
 (ir (jf<|aG 3) (hName 4) cY)
def eQ (o:Zae)(C:Zab):Zab:=
 (aH (bC 3 o)
 (aH (gIf (dR (cG<|fTv<|ig "dict" (aj 2))<|aK gNe (aP cP<|aa (aj 2) aB)<|aP cP<|aa (aj 3) aB) (aY<|fC<|.bl false) gNx)
 (aH C
 (aY<|fC<|.bl true))))
def Dk:Zab:=
 (eQ rY wW)
def oY:Zac:=aV 5 3 Dk
def eY (o:Zac):Zab:=
 (aH (bC 2<|aP cP<|aa (aj 0) aB)
 (aH (bC 3<|az bc (az dq (aj 1)<|fC<|.int 15)<|aj 2)
 (aH (eV 4<|aP qK<|aa (aj 0) aB)
 (aH (aaH (az gIx (aj 4)<|aj 3)<|lC 2<|cz (hName 5)<|cz (hName 6) lD)
 (aH (gIf (aK gEq (az bc (aj 1)<|fC<|.int 15)<|fC<|.int 14) (aH (fD 4 (aG 3)<|fFn o<|aa (aG 5)<|aa (az eX (fC<|.int 2)<|aj 6) aB)
 (aY<|aP eU<|aa (aj 4) aB)) gNx)
 (aH (gIf (aK gLt (az bc (aj 1)<|fC<|.int 15)<|fC<|.int 6) (aH (fD 4 (aG 3)<|az gIx (dW<|aa (bu<|aa (az bR (aj 5)<|fC<|.int 1)<|aa (aG 6) aB)<|aa (bu<|aa (az eX (fC<|.int 2)<|aj 5)<|aa (az eX (fC<|.int 2)<|aj 6) aB)<|aa (fC<|.bl true)<|aa (aG 5)<|aa (aP Vw<|aa (aj 5) aB)<|aa (dW<|aa (aG 5)<|aa (aG 6) aB) aB)<|az bc (aj 1)<|fC<|.int 15)
 (aY<|aP eU<|aa (aj 4) aB)) gNx)
 (aH (gIf (aK gEq (az bc (aj 1)<|fC<|.int 15)<|fC<|.int 6) (aH (fD 4 (aG 3)<|bu<|aa (az dZ (az dZ (fC<|.int 0)<|aj 5)<|fC<|.int 1)<|aa (aG 6) aB)
 (aH (bC 7<|az gIx (aj 4)<|az bc (az bR (aj 3)<|fC<|.int 1)<|aj 2)
 (aH (fD 4 (az bc (az bR (aj 3)<|fC<|.int 1)<|aj 2)<|fFn o<|aa (az bR (az eX (az gIx (aj 7)<|fC<|.int 0)<|aj 6)<|az eX (az bR (az eX (fC<|.int 2)<|aj 5)<|fC<|.int 1)<|az gIx (aj 7)<|fC<|.int 1)<|aa (az eX (az gIx (aj 7)<|fC<|.int 1)<|aj 6) aB)
 (aY<|aP eU<|aa (aj 4) aB)))) gNx)
 (aH (gIf (aK gEq (az bc (aj 1)<|fC<|.int 15)<|fC<|.int 7) (aH (fD 4 (aG 3)<|bu<|aa (aG 5)<|aa (az dZ (fC<|.int 0)<|aj 6) aB)
 (aY<|aP eU<|aa (aj 4) aB)) gNx)
 (aY<|az gIx (dW<|aa (az bR (aj 0)<|bu<|aa (bu<|aa (fC<|.int 0)<|aa (fC<|.int 1) aB) aB)<|aa (fSl (aj 0) (fO1<|fC<|.int 1) fO0)<|aa (aP qK<|aa (aj 0) aB)<|aa (fC .non)<|aa (az Ls (bu<|aa (fC<|.bl true) aB)<|aj 2)<|aa (bu aB) aB)<|az dZ (az bc (aj 1)<|fC<|.int 15)<|fC<|.int 8)))))))))
def jo:Zab:=
 (eY bT)
def bU:Zac:=aV 8 2 jo
def su:Zae:=
 (az gIx (aj 0)<|fC<|.int 1)
def jC:Zae:=
 (d7 1 [1] (jf<|aj 0) (hName 0) (aK gEq (az gIx (aj 0)<|fC<|.int 0)<|aj 1) su)
def qp (o:Zac)(C:Zae):Zab:=
 (aH (bC 5 C)
 (RK 6 9 [(false,(fC .non)),(false,(dW aB)),(false,(wZ<|aG 2)),(false,(bu<|aa (aG 2) aB)),(false,(fC<|.str "")),(false,(fC<|.int 7)),(true,zW),(false,(fC<|.bl true))]
 (aH (gIf (aK gEq (az bc (aj 3)<|fC<|.int 8)<|fC<|.int 1) (BV<|az gIx (aj 6)<|az bc (az dq (aj 3)<|fC<|.int 8)<|fC<|.int 8) gNx)
 (aH (eV 7<|aP uF<|aa (aj 2) aB)
 (aH (gIf (dR (aK gEq (az bc (aj 3)<|fC<|.int 8)<|fC<|.int 2)<|aK gEq (aP cP<|aa (aj 5) aB)<|fC<|.int 0) (aH (vZ 7 (az gIx (az bR (aj 4)<|dW<|aa (fC .non)<|aa (fC<|.int 7)<|aa (bu<|aa (fC<|.str "a")<|aa (fC<|.str "b") aB)<|aa (fC<|.str "") aB)<|az bc (az dq (aj 3)<|fC<|.int 8)<|fC<|.int 12)<|bu<|aa (bu<|aa (fC<|.int 1)<|aa (fC<|.int 1) aB) aB)
 (jg 7)) gNx)
 (aH (bC 8<|az gIx (aj 5)<|az bc (az dq (aj 3)<|fC<|.int 8)<|aP cP<|aa (aj 5) aB)
 (aH (gIf (aK gEq (az bc (aj 3)<|fC<|.int 8)<|fC<|.int 3) (aH (Vd<|wk 7<|aG 8)
 (jg 7)) gNx)
 (aH (gIf (aK gEq (az bc (aj 3)<|fC<|.int 8)<|fC<|.int 4) (aH (Ef 7 (az gIx (aj 4)<|az bc (az dq (aj 3)<|fC<|.int 64)<|fC<|.int 8)<|wk 7<|aG 8)
 (jg 7)) gNx)
 (aH (iJ 7 (aG 8)<|fFn o<|aa (az dD (aj 7)<|aj 8)<|aa (az dq (aj 3)<|fC<|.int 64) aB)
 (jg 7))))))))))
def qC:Zab:=
 (qp bU jC)
def jr:Zac:=aV 10 5 qC
def iw (C:Zac)(o:Zac)(I:Zac):Zab:=
 (aH (gIf (aK gEq (aj 0)<|fC<|.int 0) (aY<|fFn C<|aa (aG 1)<|aa (aG 2)<|aa (aG 3) aB) gNx)
 (aH (gIf (aK gEq (aj 0)<|fC<|.int 1) (aY<|fFn I<|aa (aG 1)<|aa (aG 2)<|aa (aG 3) aB) gNx)
 (aH (gIf (aK gEq (aj 2)<|fC<|.int 1) (aY<|fFn o<|aa (aG 1)<|aa (aG 3)<|aa (aG 4) aB) gNx)
 (aY<|fFn o<|aa (aG 1)<|aa (aG 4)<|aa (aG 3) aB))))
def wH:Zab:=
 (iw xG KZ Lk)
def xT:Zac:=aV 5 5 wH
def j8 (o:Zac):Zab:=
 (aH (bC 5<|bu aB)
 (aH (Nj 6 (fL) (Ei o<|aa (aG 0)<|aa (aG 1)<|aa (aG 2)<|aa (aG 3)<|aa (aG 4) aB) (aH (bC 7<|Kh (EY [iC,jM,iz,jN])<|aj 6)
 (bC 5<|bu<|aa (Kh lK<|aj 6)<|aa (Mi gQ<|aj 6)<|aa (aG 7) aB)))
 (aY<|je gEq (aj 5)<|bu<|aa (fC<|.bl true)<|aa (fC<|.bl true)<|aa (fC<|.bl false) aB)))
def tQ:Zab:=
 (j8 xT)
def kW:Zac:=aV 8 5 tQ
def rJ (o:Zac):Zab:=
 (aH (bC 4<|fFn o<|aa (aG 0)<|aa (aG 1)<|aa (aG 2) aB)
 (aY<|nJ (ig "bool" (aj 4))<|je gEq (aj 4)<|aj 3))
def qY:Zab:=
 (rJ gj)
def km:Zac:=aV 5 4 qY
def Ht:Zab:=
 (gIf (cG<|fTv<|NK kW<|aa (az bc (az bR (aj 11)<|az dq (aj 2)<|fC<|.int 256)<|fC<|.int 3)<|aa (aj 3)<|aa (aj 5)<|aa (aj 9)<|aa (aj 7) aB) (aY<|fC<|.bl false) gNx)
def JN:Zab:=
 (ir (sW<|aa (fC<|.int 3) aB) (hName 11) Ht)
def QX (I:Zac)(o:Zac)(φ__law_pool:Zac)(φ__law_mix:Zac)(φ__law_game:Zac)(φ__law_table:Zac)(J:Zac)(U:Zac)(φ__law_spoilt:Zac)(C:Zac)(l_2:Zab):Zab:=
 (aH (bC 1<|fFn φ__law_pool<|aa (fFn o<|aa (aG 0)<|aa (fC<|.int 0) aB)<|aa (fFn o<|aa (aG 0)<|aa (fC<|.int 1) aB) aB)
 (aH (bC 2<|fFn o<|aa (aG 0)<|aa (fC<|.int 2) aB)
 (aH (bC 3<|fFn φ__law_game<|aa (az bR (fSl (aj 0) (fO1<|fC<|.int 8)<|fO1<|fC<|.int 38)<|dW<|aa (fFn o<|aa (aG 0)<|aa (fC<|.int 3) aB) aB)<|aa (aG 2)<|aa (fC<|.int 6)<|aa (fC<|.int 39)<|aa (aG 1) aB)
 (aH (bC 4<|fFn φ__law_table<|aa (aG 3) aB)
 (aH (bC 5<|az bR (fC<|.int 1)<|az bc (az dq (aj 2)<|fC<|.int 128)<|fC<|.int 2)
 (aH (bC 6<|fFn J<|aa (aG 4)<|aa (aG 5)<|aa (fFn o<|aa (aG 0)<|aa (fC<|.int 4) aB) aB)
 (aH (bC 7<|fFn J<|aa (aG 4)<|aa (az dZ (fC<|.int 3)<|aj 5)<|aa (fFn o<|aa (aG 0)<|aa (fC<|.int 5) aB) aB)
 (aH (bC 8<|aP uF<|aa (aj 6) aB)
 (aH (gIf (dR (aK abL (fFn I<|aa (aG 3)<|aa (aG 5)<|aa (aG 8) aB)<|fC<|.bl true)<|aK Xw (aj 8)<|aj 6) (aY<|fC<|.bl false) gNx)
 (aH (gIf (cG<|fTv<|fFn C<|aa (aG 3)<|aa (aG 5)<|aa (aP uF<|aa (aj 7) aB)<|aa (fFn U<|aa (aG 4)<|aa (aG 5)<|aa (aG 7) aB) aB) (aY<|fC<|.bl false) gNx)
 (aH (wy 9 φ__law_spoilt<|aa (aG 4)<|aa (aG 5)<|aa (aG 6)<|aa (fFn φ__law_mix<|aa (fFn o<|aa (aG 0)<|aa (fC<|.int 6) aB)<|aa (fC<|.int 77) aB)<|aa (aG 1) aB)
 (aH (bC 10<|NK U<|aa (aj 4)<|aa (aj 5)<|aa (aj 9) aB)
 (aH (gIf (cG<|fTv<|NK C<|aa (aj 3)<|aa (aj 5)<|aa (aj 9)<|aa (aj 10) aB) (aY<|fC<|.bl false) gNx)
 (aH (gIf (cG<|fTv<|aG 10) l_2 gNx)
 (aH (gIf (fTv<|ig "dict" (aj 9)) (aH (w5 9)
 (aH (Yd 9<|aG 6)
 (aY<|je gIs (fFn I<|aa (aG 3)<|aa (aG 5)<|aa (aG 9) aB)<|fC<|.bl true))) gNx)
 (aY<|je gIs (fFn I<|aa (aG 3)<|aa (aG 5)<|aa (aG 8) aB)<|fC<|.bl true))))))))))))))))
def abN:Zab:=
 (QX gj gZ pK cV pG lg pR oY jr km JN)
def abM:Zac:=aV 12 1 abN
end
open L2 (atI ixN Key)
def Bad (d:D):Prop:=jE [d]=.ok (false,.bl false)/\eN [d]=.ok (false,.bl false)
theorem Vh (b:Bool):Bad (.bl b):=⟨rfl,rfl⟩
theorem aa1 (i:Int):Bad (.int i):=⟨rfl,rfl⟩
theorem Zd (x:Str):Bad (.str x):=⟨rfl,rfl⟩
theorem aah (l:List D):Bad (.lst l):=⟨rfl,rfl⟩
theorem Wu {a b:Int}(h:¬(0<b/\gI a b=1))(o:Bq b):Bad (.tup [.int a,.int b]):=by
 have j:∀a b:D,atI [a,b] 0=some a:=λ_ _=>rfl;have f:∀a b:D,atI [a,b] 1=some b:=λ_ _=>rfl;have d:cP [.tup [.int a,.int b]]=some (.int 2):=rfl;have k:ig "tuple" (aj 0) [.fz<|.tup [.int a,.int b]]=.ok (.bl true):=rfl;constructor
 ·have w:∀i:Int,rM [.int i]=.ok (false,.bl true):=λ_=>rfl;have e:=gK a b;by_cases c:(1:Int)<=b
  ·have g:¬gI a b=1:=λz=>h ⟨by lia,z⟩;simp[jE,aV,nZ,ou,aH,gIf,dR,cG,fTv,k,aK,aP,aa,aB,aj,d,fC,gNe,gNx,fFn,az,gIx,j,f,w,aY,Me.let,Sl.let,nJ,je,gGe,c,e,g]
  ·have m:b<1:=by lia
   simp[jE,aV,nZ,ou,aH,gIf,dR,cG,fTv,k,aK,aP,aa,aB,aj,d,fC,gNe,gNx,fFn,az,gIx,j,f,w,aY,Me.let,Sl.let,nJ,je,gGe,c]
 ·have w:∀i:Int,nA [.int i]=.ok (false,.bl true):=λ_=>rfl;by_cases c:0<b
  ·have e:=v8 (t:=a) c o;rw[ug] at e;have g:gEq (.tup [.int (a8 a b).num,.int ((a8 a b).den:Int)]) (.tup [.int a,.int b])=some false:=by
    rw[abJ];congr 1;rw[Bool.and_eq_false_iff];by_cases z:(a8 a b).num=a/\((a8 a b).den:Int)=b
    ·refine absurd ⟨c,?_⟩ h
     have:=Nk<|a8 a b
     rwa [z.1,z.2] at this
    ·by_cases l:(a8 a b).num=a
     ·exact .inr<|decide_eq_false λy=>z ⟨l,y⟩
     ·exact .inl<|decide_eq_false l
   simp[eN,aV,iG,iH,aH,gIf,dR,cG,fTv,k,aK,aP,aa,aB,aj,d,fC,gNe,gNx,fFn,az,gIx,j,f,w,aY,Me.let,Sl.let,nJ,je,gGt,c,e,g]
  ·simp[eN,aV,iG,iH,aH,gIf,dR,cG,fTv,k,aK,aP,aa,aB,aj,d,fC,gNe,gNx,fFn,az,gIx,j,f,w,aY,Me.let,Sl.let,nJ,je,gGt,c]
theorem ab4 {x:Rat}{k:Nat}(h:Sz k x)(hk:k<=4000):eN [rD x]=.ok (false,.bl true):=by
 have n:=oA x;have e:=v8 (t:=x.num) (b:=x.den) (by lia) (Gw h hk).2;have g:a8 x.num x.den=x:=l8 x;rw[g] at e;rw[ug] at e ⊢;have f:∀a b:D,atI [a,b] 0=some a:=λ_ _=>rfl;have d:∀a b:D,atI [a,b] 1=some b:=λ_ _=>rfl;have l:cP [.tup [.int x.num,.int x.den]]=some (.int 2):=rfl;have j:ig "tuple" (aj 0) [.fz<|.tup [.int x.num,.int x.den]]=.ok (.bl true):=rfl;have w:∀i:Int,nA [.int i]=.ok (false,.bl true):=λ_=>rfl;have m:gEq (.tup [.int x.num,.int x.den]) (.tup [.int x.num,.int x.den])=some true:=Mg rfl (show(1:Nat)<=64 by decide);have p:(0:Int)<x.den:=by lia
 have c:0<x.den:=by lia
 simp[eN,aV,iG,iH,aH,gIf,dR,cG,fTv,j,aK,aP,aa,aB,aj,l,fC,gNe,gNx,fFn,az,gIx,f,d,w,aY,Me.let,Sl.let,nJ,je,gGt,c,e,m]
def El (S:Nat)(d:D):Prop:=Bad d\/∃x:Rat,d=rD x/\Sz S x
def aae (d:D):Prop:=Bad d\/∃x:Rat,d=rD x/\x.num<0
theorem aeI {a b s2 s3:Sl}{S:Nat}(C:S<=1000){d:D}(h:aae d)(o:El S d):∃m',bf [a,b,s2,s3,.fz d]=.ok (.rt false<|.bl false,m'):=by
 rcases h with h|⟨x,rfl,j⟩
 ·exact⟨_,by simp[bf,aH,gIf,dR,cG,fTv,fFn,aa,aB,aG,h.2,aY,fC];rfl⟩
 ·rcases o with f|⟨y,e,g⟩
  ·exact⟨_,by simp[bf,aH,gIf,dR,cG,fTv,fFn,aa,aB,aG,f.2,aY,fC];rfl⟩
  ·have c:=ab4 g (by lia);rw[← e] at c;have i:gIx (rD x) (.int 0)=some (.int x.num):=rfl;exact⟨_,by simp[bf,aH,gIf,dR,cG,fTv,fFn,aa,aB,aG,aj,az,aK,fC,c,i,gLt,j,aY];rfl⟩
theorem adG {a b s4:Sl}{T B:Int}{k S:Nat}(I:T.natAbs<2^k)(C:B.natAbs<2^k)(hk:k<=4000){x:Rat}(o:Sz S x)(J:S<=1000)(U:0<=x.num):
  bf [a,b,.fz<|.int T,.fz<|.int B,.fz<|rD x]=.ok (.nx,[a,b,.fz<|.int<|T*x.den+x.num*B,.fz<|.int<|B*x.den,.fz<|rD x]):=by
 have d:=ab4 o (by lia);have g:gIx (rD x) (.int 0)=some (.int x.num):=rfl;have e:gIx (rD x) (.int 1)=some (.int x.den):=rfl;have i:=Ca<|gJ I (by lia);have h:=Ca<|gJ C (by lia);obtain⟨f,j⟩:=Gw o (by lia);have c:¬x.num<0:=by lia
 simp[bf,aH,gIf,bC,dR,cG,fTv,fFn,aa,aB,aG,aj,az,aK,fC,d,g,e,gLt,c,gNx,eX,bR,i,h,f,j]
theorem QH {a b:Sl}{S:Nat}(I:S<=300):∀(ws:List D) (T B:Int) (k:Nat) (s4:Sl),(∀d∈ws,El S d)->T.natAbs<2^k->B.natAbs<2^k->k+ws.length*(S+1)<=4000->0<B->
  (∃l:List Rat,ws=l.map rD/\(∀x∈l,0<=x.num/\Sz S x)/\∃C o s',bI (hName 4) bf ws [a,b,.fz<|.int T,.fz<|.int B,s4]=.ok (.nx,[a,b,.fz<|.int C,.fz<|.int o,s'])/\0<o/\a8 C o=a8 T B+l.sum) ∨
  ((∃y∈ws,aae y)/\∃m',bI (hName 4) bf ws [a,b,.fz<|.int T,.fz<|.int B,s4]=.ok (.rt false<|.bl false,m'))
 |[],T,B,k,s4,_,_,_,_,h0=>.inl ⟨[],rfl,by simp,T,B,s4,rfl,h0,by rw[List.sum_nil];grind⟩
 |d::ws,T,B,k,s4,h,hT,hB,hk,h0=>by
  have m:hName 4 d [a,b,.fz<|.int T,.fz<|.int B,s4]=some [a,b,.fz<|.int T,.fz<|.int B,.fz d]:=rfl;have g:k+S+1+ws.length*(S+1)<=4000:=by rw[cy,Nat.succ_mul] at hk;lia
  have no:aae d->∃m',bI (hName 4) bf (d::ws) [a,b,.fz<|.int T,.fz<|.int B,s4]=.ok (.rt false<|.bl false,m'):=λn=>by
   obtain⟨m',e⟩:=aeI (a:=a) (b:=b) (s2:=.fz<|.int T) (s3:=.fz<|.int B) (S:=S) (by lia) n<|h d av;exact⟨m',by simp only[bI,m,e]⟩
  rcases h d av with j|⟨x,rfl,f⟩
  ·exact .inr ⟨⟨d,av,.inl j⟩,no<|.inl j⟩
  by_cases c:0<=x.num
  ·have e:=adG (a:=a) (b:=b) (s4:=.un) hT hB (by lia) f (by lia) c;have H:=x.den_pos;have F:(B*(x.den:Int)).natAbs<2^(k+S):=wB hB (by simpa using f.2);have q:(T*(x.den:Int)).natAbs<2^(k+S):=wB hT (by simpa using f.2);have w:(x.num*B).natAbs<2^(k+S):=by rw[BH];exact wB f.1 hB
   have p:bI (hName 4) bf (rD x::ws) [a,b,.fz<|.int T,.fz<|.int B,s4]=bI (hName 4) bf ws [a,b,.fz<|.int<|T*x.den+x.num*B,.fz<|.int<|B*x.den,.fz<|rD x]:=by
    simp only[bI,m,e]
   have v:0<B*(x.den:Int):=B2 h0 (by lia);have r:a8 (T*x.den+x.num*B) (B*x.den)=a8 T B+x:=by
    conv=>rhs;rw[← l8 x,zD _ _ (by lia)<|by lia]
   rcases QH (a:=a) (b:=b) I ws _ _ (k+S+1) (.fz<|rD x) (λe G=>h e<|ah _ G) (Vz q w) (gJ F<|by lia) g v with⟨l,rfl,u,C,o,s',i,A,s⟩|⟨⟨y,t,n⟩,m',i⟩
   ·exact .inl ⟨x::l,rfl,λz E=>(a9.mp E).elim (λe=>e▸⟨c,f⟩)<|u z,C,o,s',p.trans i,A,by rw[s,r,lP];grind⟩
   ·exact .inr ⟨⟨y,ah _ t,n⟩,m',p.trans i⟩
  ·exact .inr ⟨⟨_,av,.inr ⟨x,rfl,by lia⟩⟩,no<|.inr ⟨x,rfl,by lia⟩⟩
theorem Q7 {o:Type}(f:o->Bool):∀l:List o,vz (l.map λx=>.bl<|f x)=some (l.map f)
 |[]=>rfl
 |x::l=>by rw[ay,vz,Q7 f l];rfl
theorem WR {o:Type}(f:o->Bool)(l:List o):Fo [.lst<|l.map λx=>.bl<|f x]=some (.bl<|l.all f):=by
 show(vz _).map _=_;rw[Q7];simp[List.all_map]
theorem aec {o:Type}{f:o->Bool}{l:List o}{y:o}(h:y∈l)(e:f y=false):Fo [.lst<|l.map λx=>.bl<|f x]=some (.bl false):=by
 rw[WR,List.all_eq_false.mpr ⟨y,h,by rw[e];decide⟩]
noncomputable def tru (r:Res (Bool×D)):Bool:=match r with
 | .ok (_,.bl b)=>b
 |_=>false
def adM (r:Res D):Bool:=match r with
 | .ok (.bl b)=>b
 |_=>false
theorem abI {r:Res D}(h:∃b,r=.ok (.bl b)):r=.ok (.bl<|adM r):=by obtain⟨b,rfl⟩:=h;rfl
theorem aen {Ft:Zac}{L:Zae}{ws l:List D}(C:L [.fz<|.tup ws,.fz<|.int ws.length]=.ok (.lst l))(o:Fo [.lst l]=some (.bl false)):aV 2 2 (cR Ft L) [.tup ws,.int ws.length]=.ok (false,.bl false):=by
 have a:cP [.tup ws]=some (.int ws.length):=rfl;have b:ig "tuple" (aj 0) [.fz<|.tup ws,.fz<|.int ws.length]=.ok (.bl true):=rfl;simp[cR,aV,aH,gIf,dR,cG,fTv,b,aK,aP,aa,aB,aj,a,gNe,gNx,C,o,aY,Me.let,Sl.let,fC]
theorem agm {ws:List D}(C:ws.length<=1000)(o:∀d∈ws,∃b,aZ [.fz d]=.ok (.bl b)):eZ [.fz<|.tup ws,.fz<|.int ws.length]=.ok (.lst<|ws.map λd=>.bl<|adM<|aZ [.fz d]):=by
 have a:fK (hName 0) jV aZ [.un] (ws.map id)=.ok (ws.map λd=>.bl<|adM<|aZ [.fz d]):=iW ws λd hd=>⟨[.fz d],rfl,rfl,abI<|o d hd⟩;rw[List.map_id] at a;have z:ws.length<=16777216:=by lia
 simp[eZ,d7,sU,aG,cMe,a,z]
theorem Wq {x:Rat}{S:Nat}(o:S<=1000)(h:Sz S x):aZ [.fz<|rD x]=.ok (.bl<|decide<|0<=x.num):=by
 have a:=Gs h Jp (by lia);have d:rD 0=.tup [.int 0,.int 1]:=rfl;have q:decide (x.num*(0:Rat).den<(0:Rat).num*x.den)=!decide (0<=x.num):=by
  show decide (x.num*1<0*(x.den:Int))=_;by_cases c:0<=x.num
  ·rw[decide_eq_true c,decide_eq_false<|by lia];rfl
  ·rw[decide_eq_false c,decide_eq_true<|by lia];rfl
 rw[d,q] at a;have b:=BZ (x:=x);by_cases c:0<=x.num
 ·rw[decide_eq_true c] at a ⊢;simp[aZ,nJ,OD,fFn,aa,aB,fC,aG,a,b,fTv]
 ·rw[decide_eq_false c] at a ⊢;simp[aZ,nJ,OD,fFn,aa,aB,fC,aG,a,b,fTv]
theorem agq {S:Nat}(o:S<=1000){d:D}(h:El S d):∃b,aZ [.fz d]=.ok (.bl b):=by
 rcases h with h|⟨x,rfl,a⟩
 ·exact⟨false,by simp[aZ,nJ,fFn,aa,aB,aG,h.1,fTv]⟩
 ·exact⟨_,Wq o a⟩
theorem agB {S:Nat}(o:S<=1000){d:D}(h:El S d)(n:aae d):aZ [.fz d]=.ok (.bl false):=by
 rcases n with n|⟨x,rfl,b⟩
 ·simp[aZ,nJ,fFn,aa,aB,aG,n.1,fTv]
 ·rcases h with h|⟨y,e,a⟩
  ·simp[aZ,nJ,fFn,aa,aB,aG,h.1,fTv]
  ·rw[e,Wq o a]
   have:=ad1 e
   subst this;rw[decide_eq_false<|by lia]
open L2 (atI ixN Key)
theorem ag6 (I:L [.fz<|.tup ws,.fz<|.int ws.length]=.ok (.lst l))(o:Fo [.lst l]=some (.bl true))(C:Ft [.lst ws]=.ok (b,t))(J:gEq t (.tup [.int 1,.int 1])=some b0):aV 2 2 (cR Ft L) [.tup ws,.int ws.length]=.ok (false,.bl b0):=by
 have d:cP [.tup ws]=some (.int ws.length):=rfl;have a:ig "tuple" (aj 0) [.fz<|.tup ws,.fz<|.int ws.length]=.ok (.bl true):=rfl;have c:qK [.tup ws]=some (.lst ws):=rfl;simp[cR,aV,aH,gIf,dR,cG,fTv,a,aK,aP,aa,aB,aj,d,gNe,gNx,I,o,aY,Me.let,Sl.let,fC,je,fFn,c,C,J]
theorem acw (h:¬(ws.length:Int)=n):aV 2 2 (cR Ft L) [.tup ws,.int n]=.ok (false,.bl false):=by
 have b:cP [.tup ws]=some (.int ws.length):=rfl;have a:ig "tuple" (aj 0) [.fz<|.tup ws,.fz<|.int n]=.ok (.bl true):=rfl;simp[cR,aV,aH,gIf,dR,cG,fTv,a,aK,aP,aa,aB,aj,b,gNe,h,gNx,aY,Me.let,Sl.let,fC]
theorem acf (h:¬(ws.length:Int)=n):aV 5 2 (cW L) [.tup ws,.int n]=.ok (false,.bl false):=by
 have b:cP [.tup ws]=some (.int ws.length):=rfl;have a:ig "tuple" (aj 0) [.fz<|.tup ws,.fz<|.int n,.un,.un,.un]=.ok (.bl true):=rfl;simp[cW,aV,aH,gIf,dR,cG,fTv,a,aK,aP,aa,aB,aj,b,gNe,h,gNx,aY,Me.let,Sl.let,fC]
theorem aeO (h:L [.fz<|.tup ws,.fz<|.int ws.length,.fz<|.int 0,.fz<|.int 1,.un]=.ok (.rt false<|.bl false,m')):aV 5 2 (cW L) [.tup ws,.int ws.length]=.ok (false,.bl false):=by
 have b:cP [.tup ws]=some (.int ws.length):=rfl;have a:ig "tuple" (aj 0) [.fz<|.tup ws,.fz<|.int ws.length,.un,.un,.un]=.ok (.bl true):=rfl;simp[cW,aV,aH,gIf,bC,dR,cG,fTv,a,aK,aP,aa,aB,aj,b,gNe,gNx,aY,fC,h]
theorem afH (h:L [.fz<|.tup ws,.fz<|.int ws.length,.fz<|.int 0,.fz<|.int 1,.un]=.ok (.nx,[.fz<|.tup ws,.fz<|.int ws.length,.fz<|.int T,.fz<|.int B,s'])):aV 5 2 (cW L) [.tup ws,.int ws.length]=.ok (false,.bl<|decide<|T=B):=by
 have b:cP [.tup ws]=some (.int ws.length):=rfl;have a:ig "tuple" (aj 0) [.fz<|.tup ws,.fz<|.int ws.length,.un,.un,.un]=.ok (.bl true):=rfl;simp[cW,aV,aH,gIf,bC,dR,cG,fTv,a,aK,je,aP,aa,aB,aj,b,gNe,gNx,aY,Me.let,Sl.let,fC,h]
def Two (d:D)(n:Int)(v:Bool):Prop:=cF [d,.int n]=.ok (false,.bl v)/\jG [d,.int n]=.ok (false,.bl v)
theorem aa7 (C:S<=100){ws:List D}(o:ws.length<=10)(h:∀d∈ws,El S d)(n:Int):∃v,Two (.tup ws) n v:=by
 by_cases c:¬(ws.length:Int)=n
 ·exact⟨false,acw c,acf c⟩
 have c:=Decidable.not_not.mp c;subst c;have j:=agm (by lia) λd hd=>agq (by lia)<|h d hd;have i:∀m,ir (sU<|aG 0) (hName 4) bf (.fz (.tup ws)::m)=bI (hName 4) bf ws (.fz (.tup ws)::m):=λ_=>rfl;have q:1+ws.length*(S+1)<=2000:=by
  have:ws.length*(S+1)<=10*101:=nB o<|by lia
  lia
 rcases QH (by lia) ws 0 1 1 .un h (by decide) (by decide) (by lia) (by decide) with⟨l,f,g,T,B,F,e,G,A⟩|⟨⟨y,k,r⟩,E,e⟩
 ·refine⟨decide<|T=B,?_,afH<|(i _).trans e⟩;have u:(a8 T B=1)=(T=B):=by
   have:(1:Rat)=a8 1 1:=rfl
   rw[this];exact propext<|(oC (by lia)<|by decide).trans ⟨λz=>by lia,λz=>by lia⟩
  have s:l.sum=a8 T B:=by rw[A,show a8 0 1=0 from rfl];grind
  have p:rD 1=.tup [.int 1,.int 1]:=rfl;refine ag6 j ?_ (t:=rD l.sum) (b:=false) ?_ ?_
  ·rw[WR,xD.mpr λd hd=>?_];subst f;obtain⟨x,a,rfl⟩:=dr.mp hd;rw[Wq (by lia) (g x a).2,decide_eq_true (g x a).1];rfl
  ·rw[f];exact G6 (λx w=>(g x w).2) (by rw[← a6,← f];exact q)<|by lia
  ·rw[← p,abX,s];congr 1;exact decide_eq_decide.mpr<|iff_of_eq u
 ·exact⟨false,aen j<|aec k (by rw[agB (by lia) (h y k) r];rfl),aeO<|(i _).trans e⟩
def Val (S:Nat)(d:D):Prop:=(∀n,Two d n false)\/∃a:List D,d=.tup a/\a.length<=10/\∀e∈a,El S e
theorem Zy:∀n,Two .non n false:=λ_=>⟨rfl,rfl⟩
theorem abi (l:List D):∀n,Two (.lst l) n false:=λ_=>⟨rfl,rfl⟩
theorem val_two (o:S<=100){d:D}(h:Val S d)(n:Int):∃v,Two d n v:=by
 rcases h with h|⟨b,rfl,a,h⟩
 ·exact⟨false,h n⟩
 ·exact aa7 o a h n
open L2 (atI ixN Key)
theorem ux:∀{ks:List Key} {ds:List D},nH ks ds k=some d->d∈ds
 |[],_,h=>by simp[nH] at h
 |_::_,[],h=>by simp[nH] at h
 |k'::ks,e::ds,h=>by
  rw[nH] at h;by_cases c:k'=k
  ·rw[if_pos c] at h;cases h;exact av
  ·rw[if_neg c] at h;exact ah _<|ux h
def j9 (ks:List Key)(ds:List D)(o:D):Bool:=match nH ks ds (.inr<|nmR o) with
 |some d=>tru<|cF [d,.int<|wdD o]
 |none=>false
section
theorem aeG (C:S<=100)(I:∀d∈ds,Val S d){o:D}(J:mO o):dB [.fz o,.fz<|.dct ks ds]=.ok (.bl<|j9 ks ds o):=by
 obtain⟨a,n,f,r,rfl⟩:=J;have i:∀a b c d:D,atI [a,b,c,d] 1=some b:=λ_ _ _ _=>rfl;have k:∀a b c d:D,atI [a,b,c,d] 2=some c:=λ_ _ _ _=>rfl;have l:cP [.tup<|gF f]=some (.int ((gF f).length:Nat)):=rfl;cases e:nH ks ds (.inr n) with
 |none=>
  have g:j9 ks ds (jb a n f r)=false:=by unfold j9;rw[show nmR (jb a n f r)=n from rfl,e]
  have h:Ac (.str n) (.dct ks ds)=some false:=by simp[Ac,jW,e]
  rw[g];simp[dB,nJ,je,az,aj,fC,gIx,jb,i,h,fTv]
 |some d=>
  have g:j9 ks ds (jb a n f r)=tru (cF [d,.int ((gF f).length:Nat)]):=by unfold j9;rw[show nmR (jb a n f r)=n from rfl,e];rfl
  obtain⟨v,q,_⟩:=val_two C (I d<|ux e) ((gF f).length:Nat);have h:Ac (.str n) (.dct ks ds)=some true:=by simp[Ac,jW,e]
  have j:dD (.dct ks ds) (.str n)=some d:=by simp[dD,jW,e]
  rw[g,q];simp[dB,nJ,je,az,aj,fC,gIx,jb,i,k,h,j,fFn,aa,aB,aP,l,q,fTv,tru]
theorem ae5 (C:S<=100)(I:∀d∈ds,Val S d){o:D}(J:mO o)(a b c:Sl):(j9 ks ds o=true->cY [a,b,.fz<|.dct ks ds,c,.fz o]=.ok (.nx,[a,b,.fz<|.dct ks ds,c,.fz o]))/\
  (j9 ks ds o=false->∃m',cY [a,b,.fz<|.dct ks ds,c,.fz o]=.ok (.rt false<|.bl false,m')):=by
 obtain⟨i,n,f,r,rfl⟩:=J;have j:∀a b c d:D,atI [a,b,c,d] 1=some b:=λ_ _ _ _=>rfl;have l:∀a b c d:D,atI [a,b,c,d] 2=some c:=λ_ _ _ _=>rfl;have m:cP [.tup<|gF f]=some (.int ((gF f).length:Nat)):=rfl;cases e:nH ks ds (.inr n) with
 |none=>
  have h:j9 ks ds (jb i n f r)=false:=by unfold j9;rw[show nmR (jb i n f r)=n from rfl,e]
  have g:Ge (.str n) (.dct ks ds)=some true:=by simp[Ge,Ac,jW,e]
  refine⟨λz=>(by rw[h] at z;cases z),λ_=>⟨_,by simp[cY,gIf,dR,aK,az,aj,fC,gIx,jb,j,g,aY];rfl⟩⟩
 |some d=>
  have h:j9 ks ds (jb i n f r)=tru (cF [d,.int ((gF f).length:Nat)]):=by unfold j9;rw[show nmR (jb i n f r)=n from rfl,e];rfl
  obtain⟨v,q,p⟩:=val_two C (I d<|ux e) ((gF f).length:Nat);have g:Ge (.str n) (.dct ks ds)=some false:=by simp[Ge,Ac,jW,e]
  have k:dD (.dct ks ds) (.str n)=some d:=by simp[dD,jW,e]
  rw[h,q];cases v with
  |true=>exact⟨λ_=>by simp[cY,gIf,dR,aK,az,aj,aG,fC,gIx,jb,j,l,g,k,cG,fTv,fFn,aa,aB,aP,m,p,gNx],λz=>(by cases z)⟩
  |false=>exact⟨λz=>(by cases z),λ_=>⟨_,by simp[cY,gIf,dR,aK,az,aj,aG,fC,gIx,jb,j,l,g,k,cG,fTv,fFn,aa,aB,aP,m,p,aY];rfl⟩⟩
theorem Li (C:S<=100)(I:∀d∈ds,Val S d)(a b c:Sl):∀(o:List D) (u:Sl),(∀d∈o,mO d)->
  (o.all (j9 ks ds)=true->∃J,bI (hName 4) cY o [a,b,.fz<|.dct ks ds,c,u]=.ok (.nx,[a,b,.fz<|.dct ks ds,c,J]))/\
  (o.all (j9 ks ds)=false->∃m',bI (hName 4) cY o [a,b,.fz<|.dct ks ds,c,u]=.ok (.rt false<|.bl false,m'))
 |[],u,_=>⟨λ_=>⟨u,rfl⟩,λz=>(by cases z)⟩
 |d::o,u,h=>by
  obtain⟨m,n⟩:=ae5 (ks:=ks) C I (h d av) a b c;have f:hName 4 d [a,b,.fz<|.dct ks ds,c,u]=some [a,b,.fz<|.dct ks ds,c,.fz d]:=rfl;obtain⟨l,i⟩:=Li C I a b c o (.fz d) λe k=>h e<|ah _ k;rw[AR];cases e:j9 ks ds d with
  |true=>
   have j:bI (hName 4) cY (d::o) [a,b,.fz<|.dct ks ds,c,u]=bI (hName 4) cY o [a,b,.fz<|.dct ks ds,c,.fz d]:=by simp only[bI,f,m e]
   rw[j,Bool.true_and];exact⟨l,i⟩
  |false=>
   obtain⟨m',g⟩:=n e;exact⟨λz=>(by simp at z),λ_=>⟨m',by simp only[bI,f,g]⟩⟩
theorem adn (o:ks.length=rs.length)(e:L [.fz<|.lst rs,.fz<|.dct ks ds]=.ok (.lst l))(C:Fo [.lst l]=some (.bl b)):aV 2 2 (dw L) [.lst rs,.dct ks ds]=.ok (false,.bl b):=by
 have d:cP [.dct ks ds]=some (.int ks.length):=rfl;have a:cP [.lst rs]=some (.int rs.length):=rfl;have c:ig "dict" (aj 1) [.fz<|.lst rs,.fz<|.dct ks ds]=.ok (.bl true):=rfl;simp[aV,dw,aH,gIf,dR,cG,fTv,c,aK,aP,aa,aB,aj,d,a,o,gNe,gNx,e,C,aY,Me.let,Sl.let]
theorem afb (o:¬ks.length=rs.length):aV 2 2 (dw L) [.lst rs,.dct ks ds]=.ok (false,.bl false):=by
 have c:cP [.dct ks ds]=some (.int ks.length):=rfl;have a:cP [.lst rs]=some (.int rs.length):=rfl;have b:ig "dict" (aj 1) [.fz<|.lst rs,.fz<|.dct ks ds]=.ok (.bl true):=rfl;have z:¬((ks.length:Int)=rs.length):=by lia
 simp[aV,dw,aH,gIf,dR,cG,fTv,b,aK,aP,aa,aB,aj,c,a,z,o,gNe,aY,fC]
theorem ae0 (C:Q [.fz<|.lst Rows,.fz<|.int s,.fz<|.dct ks ds,.un,.un]=.ok (.lst rs))(o:ks.length=rs.length)(e:L [.fz<|.lst Rows,.fz<|.int s,.fz<|.dct ks ds,.fz<|.lst rs,.un]=.ok (.nx,[.fz<|.lst Rows,.fz<|.int s,.fz<|.dct ks ds,.fz<|.lst rs,u])):aV 5 3 (eQ Q L) [.lst Rows,.int s,.dct ks ds]=.ok (false,.bl true):=by
 have c:cP [.dct ks ds]=some (.int ks.length):=rfl;have a:cP [.lst rs]=some (.int rs.length):=rfl;have b:ig "dict" (aj 2) [.fz<|.lst Rows,.fz<|.int s,.fz<|.dct ks ds,.fz<|.lst rs,.un]=.ok (.bl true):=rfl;simp[aV,eQ,aH,bC,C,gIf,dR,cG,fTv,b,aK,aP,aa,aB,aj,c,a,o,gNe,gNx,e,aY,fC]
theorem aew (C:Q [.fz<|.lst Rows,.fz<|.int s,.fz<|.dct ks ds,.un,.un]=.ok (.lst rs))(o:ks.length=rs.length)(e:L [.fz<|.lst Rows,.fz<|.int s,.fz<|.dct ks ds,.fz<|.lst rs,.un]=.ok (.rt false<|.bl false,m')):aV 5 3 (eQ Q L) [.lst Rows,.int s,.dct ks ds]=.ok (false,.bl false):=by
 have c:cP [.dct ks ds]=some (.int ks.length):=rfl;have a:cP [.lst rs]=some (.int rs.length):=rfl;have b:ig "dict" (aj 2) [.fz<|.lst Rows,.fz<|.int s,.fz<|.dct ks ds,.fz<|.lst rs,.un]=.ok (.bl true):=rfl;simp[aV,eQ,aH,bC,C,gIf,dR,cG,fTv,b,aK,aP,aa,aB,aj,c,a,o,gNe,gNx,e,fC]
theorem aeX (C:Q [.fz<|.lst Rows,.fz<|.int s,.fz<|.dct ks ds,.un,.un]=.ok (.lst rs))(o:¬ks.length=rs.length):aV 5 3 (eQ Q L) [.lst Rows,.int s,.dct ks ds]=.ok (false,.bl false):=by
 have c:cP [.dct ks ds]=some (.int ks.length):=rfl;have a:cP [.lst rs]=some (.int rs.length):=rfl;have b:ig "dict" (aj 2) [.fz<|.lst Rows,.fz<|.int s,.fz<|.dct ks ds,.fz<|.lst rs,.un]=.ok (.bl true):=rfl;have z:¬((ks.length:Int)=rs.length):=by lia
 simp[aV,eQ,aH,bC,C,gIf,dR,cG,fTv,b,aK,aP,aa,aB,aj,c,a,z,o,gNe,aY,fC]
abbrev dN (Rows:List D)(s:Int):List D:=Rows.filter λd=>decide<|sdD d=s
theorem Yu (o:∀d∈Rows,mO d)(C:Rows.length<=1000)(c d:Sl)(t:Sl):rY [.fz<|.lst Rows,.fz<|.int s,t,c,d]=.ok (.lst<|dN Rows s):=by
 have f:fK (hName 0) (aK gEq (az gIx (aj 0)<|fC<|.int 0)<|aj 1) (aG 0) [.un,.fz<|.int s] Rows=.ok (dN Rows s):=sY _ _ λd hd=>by
  obtain⟨a,n,e,r,rfl⟩:=o d hd;refine⟨[.fz<|jb a n e r,.fz<|.int s],rfl,?_,rfl⟩;have i:∀a b c d:D,atI [a,b,c,d] 0=some a:=λ_ _ _ _=>rfl;simp[aK,az,aj,fC,gIx,jb,i,sdD];exact decide_eq_decide.mpr Iff.rfl
 have h:Rows.length<=16777216:=by lia
 have g:(Sl.fz<|.int s).bor=.fz (.int s):=rfl;simp[rY,d7,jf,aj,cMe,g,f,h]
theorem Vk (o:S<=100)(I:∀d∈Rows,mO d)(J:Rows.length<=1000)(C:∀d∈ds,Val S d):∃v,gD [.lst<|dN Rows s,.dct ks ds]=.ok (false,.bl v)/\oY [.lst Rows,.int s,.dct ks ds]=.ok (false,.bl v):=by
 have e:=Yu (s:=s) I J .un .un<|.fz<|.dct ks ds;have a:∀d∈dN Rows s,mO d:=λd hd=>I d (hG.mp hd).1;have p:(dN Rows s).length<=1000:=by have:=kF (λd=>decide<|sdD d=s) Rows;lia
 by_cases c:ks.length=(dN Rows s).length
 ·have q:fK (hName 0) jV dB [.un,.fz<|.dct ks ds] (dN Rows s)=.ok ((dN Rows s).map λd=>.bl<|j9 ks ds d):=by
   have:=iW (h:=hName 0) (ft:=jV) (fe:=dB) (m0:=[.un,.fz<|.dct ks ds]) (g:=id) (f:=λd=>.bl<|j9 ks ds d) (dN Rows s) λd hd=>⟨[.fz d,.fz<|.dct ks ds],rfl,rfl,aeG o C<|a d hd⟩
   simpa using this
  have r:(dN Rows s).length<=16777216:=by lia
  have w:gk [.fz<|.lst<|dN Rows s,.fz<|.dct ks ds]=.ok (.lst<|(dN Rows s).map λd=>.bl<|j9 ks ds d):=by
   have k:(Sl.fz<|.dct ks ds).bor=.fz (.dct ks ds):=rfl;simp only[gk,d7,jf,aj,cMe,k];simp[k,q,r]
  have b:=adn (L:=gk) c w<|WR (j9 ks ds)<|dN Rows s;obtain⟨t,n⟩:=Li (ks:=ks) o C (.fz<|.lst Rows) (.fz<|.int s) (.fz<|.lst<|dN Rows s) (dN Rows s) .un a;have j:∀m,wW m=ir (jf<|aG 3) (hName 4) cY m:=λ_=>rfl;have l:∀u,ir (jf<|aG 3) (hName 4) cY [.fz<|.lst Rows,.fz<|.int s,.fz<|.dct ks ds,.fz<|.lst<|dN Rows s,u]=bI (hName 4) cY (dN Rows s) [.fz<|.lst Rows,.fz<|.int s,.fz<|.dct ks ds,.fz<|.lst<|dN Rows s,u]:=λ_=>rfl;cases ev:(dN Rows s).all (j9 ks ds) with
  |true=>
   rw[ev] at b;obtain⟨u,i⟩:=t ev;exact⟨true,b,ae0 e c<|((j _).trans<|l _).trans i⟩
  |false=>
   rw[ev] at b;obtain⟨x,i⟩:=n ev;exact⟨false,b,aew e c<|((j _).trans<|l _).trans i⟩
 ·exact⟨false,afb c,aeX e c⟩
end
open L2 (atI ixN Key)
theorem wG (o:0<b):bc (.int a) (.int b)=some (.int<|a%b):=by
 have:¬b=0:=by lia
 simp[bc,mdI,this,o]
theorem Hf (C:0<b)(o:Bq b):dq (.int a) (.int b)=some (.int<|a/b):=by
 have:¬b=0:=by lia
 simp[dq,dvI,this,C,o]
theorem aU (h:f m=.ok d)(o:fs m=.ok ds):aa f fs m=.ok (d::ds):=by simp[aa,h,o]
theorem bZ (h:f m=.ok d):aa f aB m=.ok [d]:=aU h rfl
theorem jP (h:fs m=.ok ds)(o:Φ ds=.ok (b,d)):fFn Φ fs m=.ok d:=by simp[fFn,h,o]
theorem lq (h:f m=.ok d):bC i f m=.ok (.nx,m.set i<|.fz d):=by simp[bC,h]
theorem bN (h:f m=.ok (.nx,m')):aH f k m=k m':=by simp[aH,h]
theorem o7 (h:f m=.ok (.rt b d,m')):aH f k m=.ok (.rt b d,m'):=by simp[aH,h]
theorem bO (o:f1 m=.ok a)(C:f2 m=.ok b)(h:g a b=some d):az g f1 f2 m=.ok d:=by simp[az,o,C,h]
theorem nF (o:fs m=.ok ds)(h:g ds=some d):aP g fs m=.ok d:=by simp[aP,o,h]
theorem Ep (h:fs m=.ok ds)(o:ds.length<=100):dW fs m=.ok (.lst ds):=by
 have:ds.length<=16777216:=by lia
 simp[dW,h,this]
theorem tY (h:fs m=.ok ds)(o:ds.length<=100):bu fs m=.ok (.tup ds):=by
 have:ds.length<=16777216:=by lia
 simp[bu,h,this]
theorem acA (e:f m=.ok d)(o:h d m=some m'):aaH f h m=.ok (.nx,m'):=by simp[aaH,e,o]
theorem vC (o:f1 m=.ok a)(C:f2 m=.ok b)(h:g a b=some false):gIf (aK g f1 f2) k gNx m=.ok (.nx,m):=by simp[gIf,aK,o,C,h,gNx]
theorem Ia (o:f1 m=.ok a)(C:f2 m=.ok b)(h:g a b=some true):gIf (aK g f1 f2) k k2 m=k m:=by simp[gIf,aK,o,C,h]
theorem V1 (h:f m.let=.ok d):aY f m=.ok (.rt false d,m.let):=by simp[aY,h]
theorem XM (h:f m=.ok d)(o:i<m.length):eV i f m=.ok (.nx,m.set i<|.ow d):=by simp[eV,h,o]
theorem Dj {m:Me}{l:List D}(o:fv m=.ok d)(C:m[i]? = some (.ow<|.lst l))(hk:fk m=.ok (.int n))(I:n<l.length):fD i fk fv m=.ok (.nx,m.set i<|.ow<|.lst<|l.set n d):=by
 have e:ixN l.length (n:Int)=some n:=by simp[ixN,I]
 simp[fD,o,jY,C,hk,e,putL]
theorem ZW (I:S<=4000){a b:Int}(C:a.natAbs<2^S)(o:b.natAbs<2^S):El S (.tup [.int a,.int b]):=by
 by_cases c:0<b/\gI a b=1
 ·have e:=CV (t:=a) (show b≠0 by lia);have d:dv a b=1:=(if_neg<|by lia).trans c.2;have f:lt a b=a:=by unfold lt;rw[d,Int.fdiv_one]
  have h:lb a b=b:=by unfold lb;rw[d,Int.fdiv_one]
  rw[f,h] at e;have i:a=(a8 a b).num:=congrArg xw e;have g:b=((a8 a b).den:Int):=congrArg B9 e;refine .inr ⟨a8 a b,?_,De (by lia) C o⟩;rw[ug,← i,← g]
 ·exact .inl<|Wu c<|Ca<|gJ o<|by lia
theorem NP {l:List D}(h:∀e∈l,El S e)(hd:El S d):∀e∈l.set n d,El S e:=λe a=>by
 rcases nK a with z|z
 ·exact h e z
 ·exact z▸hd
theorem pw {a:Int}(h:a.natAbs<n)(o:n<=2^60):a.natAbs<2^60:=br h o
open L2 (atI ixN Key)
section
def osT (φ:Zac):Zab:=
 (aH (gIf (aK gEq (az bc (aj 1)<|fC<|.int 15)<|fC<|.int 14) (aH (fD 4 (aG 3)<|fFn φ<|aa (aG 5)<|aa (az eX (fC<|.int 2)<|aj 6) aB)
 (aY<|aP eU<|aa (aj 4) aB)) gNx)
 (aH (gIf (aK gLt (az bc (aj 1)<|fC<|.int 15)<|fC<|.int 6) (aH (fD 4 (aG 3)<|az gIx (dW<|aa (bu<|aa (az bR (aj 5)<|fC<|.int 1)<|aa (aG 6) aB)<|aa (bu<|aa (az eX (fC<|.int 2)<|aj 5)<|aa (az eX (fC<|.int 2)<|aj 6) aB)<|aa (fC<|.bl true)<|aa (aG 5)<|aa (aP Vw<|aa (aj 5) aB)<|aa (dW<|aa (aG 5)<|aa (aG 6) aB) aB)<|az bc (aj 1)<|fC<|.int 15)
 (aY<|aP eU<|aa (aj 4) aB)) gNx)
 (aH (gIf (aK gEq (az bc (aj 1)<|fC<|.int 15)<|fC<|.int 6) (aH (fD 4 (aG 3)<|bu<|aa (az dZ (az dZ (fC<|.int 0)<|aj 5)<|fC<|.int 1)<|aa (aG 6) aB)
 (aH (bC 7<|az gIx (aj 4)<|az bc (az bR (aj 3)<|fC<|.int 1)<|aj 2)
 (aH (fD 4 (az bc (az bR (aj 3)<|fC<|.int 1)<|aj 2)<|fFn φ<|aa (az bR (az eX (az gIx (aj 7)<|fC<|.int 0)<|aj 6)<|az eX (az bR (az eX (fC<|.int 2)<|aj 5)<|fC<|.int 1)<|az gIx (aj 7)<|fC<|.int 1)<|aa (az eX (az gIx (aj 7)<|fC<|.int 1)<|aj 6) aB)
 (aY<|aP eU<|aa (aj 4) aB)))) gNx)
 (aH (gIf (aK gEq (az bc (aj 1)<|fC<|.int 15)<|fC<|.int 7) (aH (fD 4 (aG 3)<|bu<|aa (aG 5)<|aa (az dZ (fC<|.int 0)<|aj 6) aB)
 (aY<|aP eU<|aa (aj 4) aB)) gNx)
 (aY<|az gIx (dW<|aa (az bR (aj 0)<|bu<|aa (bu<|aa (fC<|.int 0)<|aa (fC<|.int 1) aB) aB)<|aa (fSl (aj 0) (fO1<|fC<|.int 1) fO0)<|aa (aP qK<|aa (aj 0) aB)<|aa (fC .non)<|aa (az Ls (bu<|aa (fC<|.bl true) aB)<|aj 2)<|aa (bu aB) aB)<|az dZ (az bc (aj 1)<|fC<|.int 15)<|fC<|.int 8)))))
end
section
variable {ds:List D}{cell a b:Int}{at':Nat}
theorem aa8 {φ:Zac}(I:0<ds.length)(o:cell/15%ds.length=at')(C:gIx (.lst ds) (.int at')=some (.tup [.int a,.int b])):
  eY φ [.fz<|.tup ds,.fz<|.int cell,.un,.un,.un,.un,.un,.un]=osT φ [.fz<|.tup ds,.fz<|.int cell,.fz<|.int ds.length,.fz<|.int at',.ow<|.lst ds,.fz<|.int a,.fz<|.int b,.un]:=by
 have c:dq (.int cell) (.int 15)=some (.int<|cell/15):=Hf (by decide)<|bgS (by decide);have d:bc (.int<|cell/15) (.int ds.length)=some (.int at'):=by rw[wG (by lia),o]
 unfold eY;refine(bN<|lq<|nF (ds:=[.tup ds]) (bZ rfl) rfl).trans ?_;refine(bN<|lq<|bO (bO (a:=.int cell) (b:=.int 15) rfl rfl c) (b:=.int ds.length) rfl d).trans ?_;refine(bN<|XM (nF (ds:=[.tup ds]) (bZ rfl) rfl)<|show 4<8 by decide).trans ?_;refine(bN<|acA (bO (a:=.lst ds) (b:=.int at') rfl rfl C) rfl).trans ?_;rfl
abbrev osM (ds:List D)(cell:Int)(at':Nat)(L:List D)(a b:Int)(s:Sl):Me:=[.fz<|.tup ds,.fz<|.int cell,.fz<|.int ds.length,.fz<|.int at',.ow<|.lst L,.fz<|.int a,.fz<|.int b,s]
theorem jF (s:Sl)(L:List D):az bc (aj 1) (fC<|.int 15) (osM ds cell at' L a b s)=.ok (.int<|cell%15):=bO rfl rfl<|wG<|by decide
theorem Jt (s:Sl)(L:List D):aY (aP eU<|aa (aj 4) aB) (osM ds cell at' L a b s)=.ok (.rt false<|.tup L,(osM ds cell at' L a b s).let):=V1<|nF (bZ rfl) rfl
theorem Dw (o:Bq i)(C:Bq j):eX (.int i) (.int j)=some (.int<|i*j):=by simp[eX,o,C]
theorem CW (h:¬i=j):gEq (.int i) (.int j)=some false:=by show some (decide _)=_;rw[decide_eq_false h]
theorem Vs (h:¬i<j):gLt (.int i) (.int j)=some false:=by show some (decide _)=_;rw[decide_eq_false h]
theorem aeg (h:i<j):gLt (.int i) (.int j)=some true:=by show some (decide _)=_;rw[decide_eq_true h]
theorem aeS (h:cell%15=14)(o:at'<ds.length)(I:Bq b)(C:φ [.int a,.int<|2*b]=.ok (f,e)):∃m',osT φ (osM ds cell at' ds a b .un)=.ok (.rt false<|.tup<|ds.set at' e,m'):=
 ⟨_,(o7<|(Ia (jF _ _) rfl (by rw[h];rfl)).trans<|(bN<|Dj (jP (aU rfl<|bZ<|bO rfl rfl<|Dw (bgS<|by decide) I) C) rfl rfl o).trans<|Jt _ _)⟩
abbrev os6 (a b:Int):List D:=[.tup [.int<|a+1,.int b],.tup [.int<|2*a,.int<|2*b],.bl true,.int a,.str (toString a:String),.lst [.int a,.int b]]
theorem acK (J:cell%15<6)(C:at'<ds.length)(I:Bq a)(o:Bq b)(U:a.natAbs<2^60)(he:gIx (.lst<|os6 a b) (.int<|cell%15)=some e):∃m',osT φ (osM ds cell at' ds a b .un)=.ok (.rt false<|.tup<|ds.set at' e,m'):=by
 have c:Bq 2:=bgS (by decide);have gs:Vw [.int a]=some (.str (toString a:String)):=if_pos (by
  by_cases z:a.natAbs=0
  ·rw[z];decide
  ·exact br ((Nat.log2_lt z).mpr U)<|by decide)
 have f:dW (aa (bu<|aa (az bR (aj 5)<|fC<|.int 1)<|aa (aG 6) aB)<|aa (bu<|aa (az eX (fC<|.int 2)<|aj 5)<|aa (az eX (fC<|.int 2)<|aj 6) aB)<|aa (fC<|.bl true)<|aa (aG 5)<|aa (aP Vw<|aa (aj 5) aB)<|aa (dW<|aa (aG 5)<|aa (aG 6) aB) aB) (osM ds cell at' ds a b .un)=.ok (.lst<|os6 a b):=
  Ep (aU (tY (aU (bO (a:=.int a) (b:=.int 1) rfl rfl rfl)<|bZ (d:=.int b) rfl)<|show(2:Nat)<=100 by decide) (aU (tY (aU (bO (a:=.int 2) (b:=.int a) rfl rfl<|Dw c I)<|bZ<|bO (a:=.int 2) (b:=.int b) rfl rfl<|Dw c o)<|show(2:Nat)<=100 by decide) (aU (d:=.bl true) rfl<|aU (d:=.int a) rfl<|aU (nF (ds:=[.int a]) (bZ rfl) gs)<|bZ<|Ep (ds:=[.int a,.int b]) rfl<|show(2:Nat)<=100 by decide))) (show(6:Nat)<=100 by decide)
 exact⟨_,(bN<|vC (jF _ _) (b:=.int 14) rfl<|CW<|by lia).trans<|o7<|(Ia (jF _ _) (b:=.int 6) rfl<|aeg J).trans<|(bN<|Dj (bO f (jF _ _) he) rfl rfl C).trans<|Jt _ _⟩
theorem agD {φ:Zac}{e:D}{f:Bool}{p q:Int}{j:Nat}(h:cell%15=6)(hl:at'<ds.length)(U:((at':Int)+1)%ds.length=j)(o:j<ds.length)(ha:Bq (2*a+1))(C:Bq a)(I:Bq b)(hp:Bq p)(J:Bq q)
  (ix:gIx (.lst<|ds.set at'<|.tup [.int<|0-a-1,.int b]) (.int j)=some (.tup [.int p,.int q])) (ef:φ [.int<|p*b+(2*a+1)*q,.int<|q*b]=.ok (f,e)):∃m',osT φ (osM ds cell at' ds a b .un)=.ok (.rt false<|.tup<|(ds.set at'<|.tup [.int<|0-a-1,.int b]).set j e,m'):=by
 have i:Bq 2:=bgS (by decide);have g:(ds.set at'<|.tup [.int<|0-a-1,.int b]).length=ds.length:=List.length_set;have c:∀s L,az bc (az bR (aj 3)<|fC<|.int 1) (aj 2) (osM ds cell at' L a b s)=.ok (.int j):=λs L=>bO (bO (a:=.int at') (b:=.int 1) rfl rfl rfl) (b:=.int ds.length) rfl (by rw[wG (by lia),U]);exact⟨_,(bN<|vC (jF _ _) (b:=.int 14) rfl<|CW<|by lia).trans ((bN<|vC (jF _ _) (b:=.int 6) rfl<|Vs<|by lia).trans (o7 ((Ia (jF _ _) (b:=.int 6) rfl (by rw[h];rfl)).trans
  ((bN<|Dj (tY (aU (bO (bO (a:=.int 0) (b:=.int a) rfl rfl rfl) (b:=.int 1) rfl rfl)<|bZ (d:=.int b) rfl)<|show(2:Nat)<=100 by decide) rfl rfl hl).trans
  ((bN<|lq<|bO (a:=.lst<|ds.set at'<|.tup [.int<|0-a-1,.int b]) rfl (c _ _) ix).trans
  ((bN<|Dj (jP (aU (bO (bO (bO (a:=.tup [.int p,.int q]) (b:=.int 0) rfl rfl rfl) (b:=.int b) rfl<|Dw hp I) (bO (bO (bO (a:=.int 2) (b:=.int a) rfl rfl<|Dw i C) (b:=.int 1) rfl rfl) (bO (a:=.tup [.int p,.int q]) (b:=.int 1) rfl rfl rfl)<|Dw ha J) rfl)<|bZ<|bO (bO (a:=.tup [.int p,.int q]) (b:=.int 1) rfl rfl rfl) (b:=.int b) rfl<|Dw J I) ef) rfl (c _ _) (by rw[g];exact o)).trans<|Jt _ _))))))⟩
theorem agf (h:cell%15=7)(o:at'<ds.length):∃m',osT φ (osM ds cell at' ds a b .un)=.ok (.rt false<|.tup<|ds.set at'<|.tup [.int a,.int<|0-b],m'):=
 ⟨_,(bN<|vC (jF _ _) rfl<|CW<|by lia).trans ((bN<|vC (jF _ _) rfl<|Vs<|by lia).trans ((bN<|vC (jF _ _) rfl<|CW<|by lia).trans (o7 ((Ia (jF _ _) rfl (by rw[h];rfl)).trans
  ((bN<|Dj (tY (aU rfl<|bZ<|bO rfl rfl rfl)<|show(2:Nat)<=100 by decide) rfl rfl o).trans (Jt _ _))))))⟩
theorem ag5 (h:8<=cell%15/\cell%15<14)(hd:ds.length<=1000)(C:gSl (.tup ds) (some 1) none=some T2)(o:Ls (.tup [.bl true]) (.int ds.length)=some Q)(I:gIx (.lst [.tup<|ds++[.tup [.int 0,.int 1]],T2,.lst ds,.non,Q,.tup []]) (.int<|cell%15-8)=some e):∃m',osT φ (osM ds cell at' ds a b .un)=.ok (.rt false e,m'):=by
 have f:bR (.tup ds) (.tup [.tup [.int 0,.int 1]])=some (.tup<|ds++[.tup [.int 0,.int 1]]):=if_pos (by show _+1<=16777216;lia);refine⟨_,(bN<|vC (jF _ _) (b:=.int 14) rfl<|CW<|by lia).trans<|(bN<|vC (jF _ _) (b:=.int 6) rfl<|Vs<|by lia).trans<|(bN<|vC (jF _ _) (b:=.int 6) rfl<|CW<|by lia).trans<|(bN<|vC (jF _ _) (b:=.int 7) rfl<|CW<|by lia).trans<|V1 ?_⟩;have c:fSl (aj 0) (fO1<|fC<|.int 1) fO0 (osM ds cell at' ds a b .un).let=.ok T2:=by simp[fSl,aj,Me.let,Sl.let,fO1,fO0,fC,C]
 exact bO (Ep (aU (bO (a:=.tup ds) rfl (tY (ds:=[.tup [.int 0,.int 1]]) rfl<|show(1:Nat)<=100 by decide) f) (aU c<|aU (nF (ds:=[.tup ds]) (bZ rfl) rfl)<|aU (d:=.non) rfl<|aU (bO (a:=.tup [.bl true]) (b:=.int ds.length) rfl rfl o)<|bZ (d:=.tup []) rfl)) (show(6:Nat)<=100 by decide)) (bO (a:=.int<|cell%15) (b:=.int 8) (bO (a:=.int cell) (b:=.int 15) rfl rfl<|wG<|by decide) rfl rfl) I
end
open L2 (atI ixN Key)
theorem adL (h:eY bT [.fz<|.tup ds,.fz<|.int cell,.un,.un,.un,.un,.un,.un]=.ok (.rt false d,m')):bU [.tup ds,.int cell]=.ok (false,d):=by
 simp[bU,jo,aV,h]
theorem Gj {ds:List D}{j:Nat}{d:D}(h:ds[j]? = some d):gIx (.lst ds) (.int j)=some d:=by
 obtain⟨a,e⟩:=cb.mp h;simp[gIx,atI,ixN,a];exact e
theorem Vq {l:List Rat}(hn:1<=l.length/\l.length<=3)(o:∀x∈l,0<=x.num/\Sz 13 x){cell:Int}(hc:0<=cell):∃d,bU [.tup<|l.map rD,.int cell]=.ok (false,d)/\Val 60 d:=by
 have n0:0<(l.map rD).length:=by simp;lia
 have ln:(l.map rD).length=l.length:=a6 ..;obtain⟨at',M,f⟩:∃k:Nat,cell/15%((l.map rD).length:Int)=k/\k<(l.map rD).length:=⟨(cell/15%((l.map rD).length:Int)).toNat,by rw[sN<|fq _<|by lia],by have:=fR (cell/15) (b:=((l.map rD).length:Int)) (by lia);have:=fq (cell/15) (b:=((l.map rD).length:Int)) (by lia);lia⟩;have r:at'<l.length:=by lia
 have P:=nS r;obtain⟨x0,Y⟩:=o _ P;have W:(l.map rD)[at']? = some (rD l[at']):=by simp[r]
 have ix:=Gj W;generalize hX:l[at']=x at *;have sa:x.num.natAbs<2^13:=Y.1;have sb:((x.den:Int)).natAbs<2^13:=by simpa using Y.2
 have m:∀i:Int,i.natAbs<=1000000->Bq i:=λi h=>bgS (by lia);have F:∀d∈l.map rD,El 60 d:=λd hd=>by
  obtain⟨y,X,rfl⟩:=dr.mp hd;exact .inr ⟨y,rfl,gJ (o y X).2.1 (by decide),gJ (o y X).2.2<|by decide⟩
 have u:∀a b:Int,a.natAbs<=1000000000000->b.natAbs<=1000000000000->El 60 (.tup [.int a,.int b]):=λa b w H=>ZW (by decide) (pw (n:=1000000000001) (by lia)<|by decide)<|pw (n:=1000000000001) (by lia) (by decide);have d0:=x.den_pos;have g:∀B:List D,B.length<=10->(∀e∈B,El 60 e)->Val 60 (.tup B):=λB w H=>.inr ⟨B,rfl,w,H⟩;have R:∀j e,El 60 e->Val 60 (.tup<|(l.map rD).set j e):=λj e c=>g _ (by simp;lia)<|NP F c;have hd:=aa8 (φ:=bT) n0 M ix;have r0:=fq cell (b:=15) (by decide);have r1:=fR cell (b:=15) (by decide);have go:∀{d:D} {s:Me},osT bT (osM (l.map rD) cell at' (l.map rD) x.num x.den .un)=.ok (.rt false d,s)->bU [.tup<|l.map rD,.int cell]=.ok (false,d):=λh=>adL<|hd.trans h;have v:∀t b:Int,0<b->t.natAbs<=1000000000000->b<=1000000000000->bT [.int t,.int b]=.ok (false,rD<|a8 t b)/\El 60 (rD<|a8 t b):=λt b w H h3=>⟨v8 w<|bgS (by lia),.inr ⟨_,rfl,De (by lia) (pw (n:=1000000000001) (by lia)<|by decide)<|pw (n:=1000000000001) (by lia)<|by decide⟩⟩;by_cases O:cell%15=14
 ·obtain⟨V,K⟩:=v x.num (2*x.den) (by lia) (by lia) (by lia);obtain⟨s,e⟩:=aeS O f (m _<|by lia) V;exact⟨_,go e,R _ _ K⟩
 by_cases I:cell%15<6
 ·have:∃e,gIx (.lst<|os6 x.num x.den) (.int<|cell%15)=some e/\El 60 e:=by
   rcases(by lia:cell%15=0\/cell%15=1\/cell%15=2\/cell%15=3\/cell%15=4\/cell%15=5) with z|z|z|z|z|z<;>rw[z]
   ·exact⟨_,rfl,u _ _ (by lia)<|by lia⟩
   ·exact⟨_,rfl,u _ _ (by lia)<|by lia⟩
   ·exact⟨_,rfl,.inl<|Vh _⟩
   ·exact⟨_,rfl,.inl<|aa1 _⟩
   ·exact⟨_,rfl,.inl<|Zd _⟩
   ·exact⟨_,rfl,.inl<|aah _⟩
  obtain⟨e,c,C⟩:=this;obtain⟨s,G⟩:=acK (φ:=bT) I f (m _<|by lia) (m _<|by lia) (gJ sa<|by decide) c;exact⟨_,go G,R _ _ C⟩
 by_cases c7:cell%15=7
 ·obtain⟨s,e⟩:=agf (φ:=bT) (a:=x.num) (b:=x.den) c7 f;exact⟨_,go e,R _ _<|u _ _ (by lia)<|by lia⟩
 by_cases c8:cell%15=6
 ·obtain⟨j,hj,N⟩:∃k:Nat,((at':Int)+1)%((l.map rD).length:Int)=k/\k<(l.map rD).length:=⟨(((at':Int)+1)%((l.map rD).length:Int)).toNat,by rw[sN<|fq _<|by lia],by have:=fR ((at':Int)+1) (b:=((l.map rD).length:Int)) (by lia);have:=fq ((at':Int)+1) (b:=((l.map rD).length:Int)) (by lia);lia⟩;obtain⟨p,q,L,J,S,hq⟩:∃p q:Int,((l.map rD).set at'<|.tup [.int<|0-x.num-1,.int x.den])[j]? = some (.tup [.int p,.int q])/\p.natAbs<=20000/\0<q/\q<=20000:=by
   by_cases z:at'=j
   ·subst z;exact⟨0-x.num-1,x.den,by simp[r],by lia,by lia,by lia⟩
   ·have A:j<l.length:=by lia
    obtain⟨y0,Z⟩:=o _<|nS A;have d1:=l[j].den_pos;have s1:l[j].num.natAbs<2^13:=Z.1;have s2:l[j].den<2^13:=Z.2;exact⟨l[j].num,l[j].den,by rw[a0 z];simp[A];rfl,by lia,by lia,by lia⟩
  have b1:p*x.den<=20000*8192/\-(20000*8192)<=p*x.den:=by
   have w:(p*(x.den:Int)).natAbs<=20000*8192:=by rw[qk];exact nB J<|by lia
   lia
  have b2:((2*x.num+1)*q).natAbs<=20000*20000:=by rw[qk];exact nB (by lia)<|by lia
  have b3:0<q*(x.den:Int):=B2 S (by lia);have b4:(q*(x.den:Int)).natAbs<=20000*8192:=by rw[qk];exact nB (by lia)<|by lia
  obtain⟨V,K⟩:=v (p*x.den+(2*x.num+1)*q) (q*x.den) b3 (by lia) (by lia);obtain⟨s,e⟩:=agD (φ:=bT) c8 f hj N (m _<|by lia) (m _<|by lia) (m _<|by lia) (m _<|by lia) (m _<|by lia) (Gj L) V;exact⟨_,go e,g _ (by simp;lia)<|NP (NP F<|u _ _ (by lia)<|by lia) K⟩
 ·have sl:gSl (.tup<|l.map rD) (some 1) none=some (.tup<|cut (l.map rD) (some 1) none):=by
   have:HT.sIx (l.map rD).length 0 (some 1)=1:=by
    exact(HT.aaW (n:=(l.map rD).length) (d:=0) (k:=1)).trans (by lia)
   exact if_neg λz=>by rw[this] at z;exact absurd z.1<|by decide
  have E:∀e∈cut (l.map rD) (some 1) none,El 60 e:=λe c=>F e<|abx c;obtain⟨Q,U,hQ⟩:∃Q,Ls (.tup [.bl true]) (.int ((l.map rD).length:Int))=some Q/\Val 60 Q:=by
   have T:∀n,∀e∈c9 n (D.bl true),El 60 e:=λn e c=>(List.eq_of_mem_replicate c)▸.inl (Vh _);rw[ln];rcases(by lia:l.length=1\/l.length=2\/l.length=3) with z|z|z<;>rw[z]
   ·exact⟨_,rfl,g _ (by decide)<|T 1⟩
   ·exact⟨_,rfl,g _ (by decide)<|T 2⟩
   ·exact⟨_,rfl,g _ (by decide)<|T 3⟩
  have:∃e,gIx (.lst [.tup<|(l.map rD)++[.tup [.int 0,.int 1]],.tup<|cut (l.map rD) (some 1) none,.lst<|l.map rD,.non,Q,.tup []]) (.int<|cell%15-8)=some e/\Val 60 e:=by
   rcases(by lia:cell%15-8=0\/cell%15-8=1\/cell%15-8=2\/cell%15-8=3\/cell%15-8=4\/cell%15-8=5) with z|z|z|z|z|z<;>rw[z]
   ·exact⟨_,rfl,g _ (by simp;lia) λe c=>(cE.mp c).elim (F e) λz=>(cm.mp z)▸u _ _ (by decide) (by decide)⟩
   ·exact⟨_,rfl,g _ (by unfold cut;simp;lia) E⟩
   ·exact⟨_,rfl,.inl<|abi _⟩
   ·exact⟨_,rfl,.inl Zy⟩
   ·exact⟨_,rfl,hQ⟩
   ·exact⟨_,rfl,g _ (by decide) λ_ h=>nomatch h⟩
  obtain⟨e,c,ev⟩:=this;obtain⟨s,G⟩:=ag5 (φ:=bT) (a:=x.num) (b:=x.den) (at':=at') ⟨by lia,by lia⟩ (by simp;lia) sl U c;exact⟨_,go G,ev⟩
open L2 (atI ixN Key)
abbrev noP:Xn:=("NoPlan",[],[])
theorem acp (o:s=1\/s=2){g m:D}:fM (Ho<|Ke (fC<|.str "this is no plan of side ")<|Ke (fUn aa0<|aj 1) acN) [.fz g,.fz<|.int s,.fz m]=.ok ():=by
 rcases o with rfl|rfl<;>rfl
theorem XJ (o:s=1\/s=2){g m:D}{b v:Bool}(e:Φ [g,.int s,m]=.ok (b,.bl v)):aV 3 3 (jm Φ) [g,.int s,m]=if v then .ok (false,.non) else .exc noP:=by
 have mk:=acp o (g:=g) (m:=m);unfold jm noP;generalize fM _=FM at *;generalize("NoPlan":Str)=N at *;cases v<;>simp[aV,gIf,cG,fTv,fFn,aa,aB,aG,e,Jw,mk,gNx]
theorem aev (o:s=1\/s=2){g m:D}{b:Bool}(e:gj [g,.int s,m]=.ok (b,.bl false)):fP [g,.int s,m]=.exc noP:=XJ o e
theorem ad7 (o:s=1\/s=2){g m:D}{b:Bool}(e:gj [g,.int s,m]=.ok (b,.bl true)):fP [g,.int s,m]=.ok (false,.non):=XJ o e
theorem agY (e:Φp [g,s,m]=.exc x):aV 3 3 (nO Φr Φp Φw) [g,s,m]=.exc x:=by
 simp[nO,aV,aH,gEx,fFn,aa,aB,aG,e]
theorem agQ (e:Φp [g,s,m]=.exc x):aV 5 3 (wR Φp Φw L) [g,s,m]=.exc x:=by
 simp[wR,aV,aH,gEx,fFn,aa,aB,aG,e]
theorem ag3 (e:Φp [g,.int 1,a]=.exc x):aV 3 3 (qP Φp Φc) [g,a,b]=.exc x:=by
 simp[qP,aV,aH,gEx,fFn,aa,aB,aG,fC,e]
theorem agU (o:Φp [g,.int 1,a]=.ok (f,r))(e:Φp [g,.int 2,b]=.exc x):aV 3 3 (qP Φp Φc) [g,a,b]=.exc x:=by
 simp[qP,aV,aH,gEx,fFn,aa,aB,aG,fC,o,e]
theorem agA (hk:k=0\/k=1\/k=2)(C:s=1\/s=2)(U:Φw [g,.int s,t]=.exc x)(es:Φs [g,.int s,t]=.exc x)(I:s=1->Φb [g,t,o]=.exc x)(J:s=2->Φb [g,o,t]=.exc x):aV 5 5 (iw Φw Φb Φs) [.int k,g,.int s,t,o]=.exc x:=by
 rcases hk with rfl|rfl|rfl
 ·simp[iw,aV,aH,gIf,aK,aG,aj,fC,aY,Me.let,Sl.let,fFn,aa,aB,U]
 ·simp[iw,aV,aH,gIf,aK,aG,aj,fC,aY,gNx,Me.let,Sl.let,fFn,aa,aB,es]
 ·rcases C with rfl|rfl
  ·simp[iw,aV,aH,gIf,aK,aG,aj,fC,aY,gNx,Me.let,Sl.let,fFn,aa,aB,I rfl]
  ·simp[iw,aV,aH,gIf,aK,aG,aj,fC,aY,gNx,Me.let,Sl.let,fFn,aa,aB,J rfl]
theorem adF (e:Φ [k,g,s,t,o]=.exc noP):aV 8 5 (j8 Φ) [k,g,s,t,o]=.ok (false,.bl true):=by
 have f:fL "NoPlan" = true:=by decide
 have c:EY [iC,jM,iz,jN] "NoPlan" = some false:=rfl;have d:lK "NoPlan" = some true:=rfl;have a:gQ "NoPlan" = some true:=rfl;have h:gEq (.tup [.bl true,.bl true,.bl false]) (.tup [.bl true,.bl true,.bl false])=some true:=Mg rfl (show(1:Nat)<=64 by decide);have b:Nj 6 fL (Ei Φ<|aa (aG 0)<|aa (aG 1)<|aa (aG 2)<|aa (aG 3)<|aa (aG 4) aB) (aH (bC 7<|Kh (EY [iC,jM,iz,jN])<|aj 6)<|bC 5<|bu<|aa (Kh lK<|aj 6)<|aa (Mi gQ<|aj 6)<|aa (aG 7) aB) [.fz k,.fz g,.fz s,.fz t,.fz o,.fz<|.tup [],.un,.un]=.ok (.nx,[.fz k,.fz g,.fz s,.fz t,.fz o,.fz<|.tup [.bl true,.bl true,.bl false],.un,.fz<|.bl false]):=by
  unfold noP at e;generalize EY [iC,jM,iz,jN]=A at *;generalize("NoPlan":Str)=N at *;simp[Nj,Ei,aa,aB,aG,e,f,aH,bC,bu,Kh,aj,c,d,a,Mi]
 unfold j8;generalize Nj 6 fL _ _=TT at *;simp[aV,aH,bC,bu,aB,b,aY,Me.let,Sl.let,je,aj,aa,fC,h]
theorem Ot (hk:k=0\/k=1\/k=2)(C:s=1\/s=2)(e:gj [g,.int s,t]=.ok (b,.bl false))(I:gj [g,.int<|3-s,o]=.ok (b',.bl true)):kW [.int k,g,.int s,t,o]=.ok (false,.bl true):=by
 have r:=aev C e;refine adF<|agA hk C (agY r) (agQ r) (λz=>?_) λz=>?_
 ·subst z;exact ag3 r
 ·subst z;exact agU (ad7 (.inl rfl) I) r
theorem tells_eq (e:gj [g,.int s,t]=.ok (b,.bl v)):km [g,.int s,t,.bl v]=.ok (false,.bl true):=by
 have c:∀w:Bool,ig "bool" (aj 4) [.fz g,.fz<|.int s,.fz t,.fz<|.bl w,.fz<|.bl w]=.ok (.bl true):=λ_=>rfl;have d:gEq (.bl v) (.bl v)=some true:=by simp[gEq]
 have a:=c v;simp[km,qY,rJ,aV,aH,bC,fFn,aa,aB,aG,e,aY,Me.let,Sl.let,nJ,fTv,a,je,aj,d]
theorem wg (o:lR [g,s]=.ok (b,r))(e:gD [r,t]=.ok (false,.bl v)):gj [g,s,t]=.ok (false,.bl v):=by
 simp[gj,yQ,yH,aV,aY,Me.let,Sl.let,fFn,aa,aB,aG,o,e]
open L2 (atI ixN Key)
theorem Zi (it:ig "dict" (aj 1) [.fz<|.lst rs,.fz t]=.ok (.bl false)):aV 2 2 (dw L) [.lst rs,t]=.ok (false,.bl false):=by
 simp[aV,dw,aH,gIf,dR,cG,fTv,it,aY,fC]
theorem aao (o:Q [.fz<|.lst Rows,.fz<|.int s,.fz t,.un,.un]=.ok (.lst rs))(it:ig "dict" (aj 2) [.fz<|.lst Rows,.fz<|.int s,.fz t,.fz<|.lst rs,.un]=.ok (.bl false)):aV 5 3 (eQ Q L) [.lst Rows,.int s,t]=.ok (false,.bl false):=by
 simp[aV,eQ,aH,bC,o,gIf,dR,cG,fTv,it,aY,fC]
def Told (Rows:List D)(s:Int)(t:D)(v:Bool):Prop:=gD [.lst<|dN Rows s,t]=.ok (false,.bl v)/\oY [.lst Rows,.int s,t]=.ok (false,.bl v)
theorem S6 (C:∀d∈Rows,mO d)(o:Rows.length<=1000){t:D}(h:eE t≠""/\eE t≠"dict"):Told Rows s t false:=by
 have a:∀m:Me,∀i,m[i]? = some (.fz t)->ig "dict" (aj i) m=.ok (.bl false):=λm i e=>by
  have z:SQ (eE t) "dict" = false:=by
   have:=h.2
   simp[SQ,this]
  simp[ig,aj,e,h.1,z]
 exact⟨Zi<|a _ 1 rfl,aao (Yu C o .un .un<|.fz t)<|a _ 2 rfl⟩
theorem Kr (C:S<=100)(I:∀d∈Rows,mO d)(o:Rows.length<=1000)(J:∀d∈ds,Val S d):∃v,Told Rows s (.dct ks ds) v:=Vk C I o J
theorem Ph (P:D->Bool)(φ:D->D):∀ds:List D,(∀d∈ds,∃m1,h d m0=some m1/\ft m1=.ok (P d)/\fe m1=.ok (φ d))->fK h ft fe m0 ds=.ok ((ds.filter P).map φ)
 |[],_=>rfl
 |d::ds,H=>by
  obtain⟨m1,a,b,f⟩:=H d av;have e:=Ph P φ ds λd hd=>H d<|ah _ hd;rw[fK,a];simp only[b];cases c:P d<;>simp[c,f,e]
theorem Xm (o:∀d∈Rows,mO d)(C:Rows.length<=1000)(m:Me):jC (.fz (.lst Rows)::.fz (.int s)::m)=.ok (.lst<|(dN Rows s).map λd=>.str<|nmR d):=by
 have g:fK (hName 0) (aK gEq (az gIx (aj 0)<|fC<|.int 0)<|aj 1) su [.un,.fz<|.int s] Rows=.ok ((dN Rows s).map λd=>.str<|nmR d):=Ph (λd=>decide<|sdD d=s) (λd=>.str<|nmR d) Rows λd hd=>by
  obtain⟨a,n,f,r,rfl⟩:=o d hd;refine⟨[.fz<|jb a n f r,.fz<|.int s],rfl,?_,rfl⟩;have i:∀a b c d:D,atI [a,b,c,d] 0=some a:=λ_ _ _ _=>rfl;simp[aK,az,aj,fC,gIx,jb,i,sdD];exact decide_eq_decide.mpr Iff.rfl
 have j:(dN Rows s).length<=16777216:=by have:=kF (λd=>decide<|sdD d=s) Rows;lia
 have e:Rows.length<=16777216:=by lia
 have h:(Sl.fz<|.int s).bor=.fz (.int s):=rfl;simp[jC,d7,jf,aj,cMe,h,g,j,e]
open L2 (atI ixN Key)
theorem Wb (C:∀d∈Rows,mO d)(o:Rows.length<=1000){n:Nat}(h:¬n=(dN Rows s).length):Told Rows s (.odd n) false:=by
 have a:cP [.odd n]=some (.int n):=rfl;have b:∀l:List D,cP [.lst l]=some (.int l.length):=λ_=>rfl;have z:¬((n:Int)=(dN Rows s).length):=by lia
 have f:ig "dict" (aj 1) [.fz<|.lst<|dN Rows s,.fz<|.odd n]=.ok (.bl true):=rfl;have e:ig "dict" (aj 2) [.fz<|.lst Rows,.fz<|.int s,.fz<|.odd n,.fz<|.lst<|dN Rows s,.un]=.ok (.bl true):=rfl;have c:=Yu (s:=s) C o .un .un<|.fz<|.odd n;constructor
 ·show aV 2 2 (dw _) _=_;simp[aV,dw,aH,gIf,dR,cG,fTv,f,aK,aP,aa,aB,aj,a,b,z,gNe,aY,fC]
 ·show aV 5 3 (eQ _ _) _=_;simp[aV,eQ,aH,bC,c,gIf,dR,cG,fTv,e,aK,aP,aa,aB,aj,a,b,z,gNe,aY,fC]
theorem J3:∀{ks:List Key} {ds:List D},e∈Dn ks ds k d->e∈ds\/e=d
 |[],_,h=>nomatch h
 |_::_,[],h=>nomatch h
 |k'::ks,d'::ds,h=>by
  rcases a9.mp h with z|z
  ·by_cases c:k'=k
   ·rw[if_pos c] at z;exact .inr z
   ·rw[if_neg c] at z;exact .inl<|z▸av
  ·exact(J3 z).imp (ah _) id
theorem Jb (h:e∈(putD ks ds k d).2):e∈ds\/e=d:=by
 unfold putD at h;split at h
 ·exact J3 h
 ·exact(cE.mp h).imp id cm.mp
theorem Bl:∀{ks:List Key} {ds:List D},e∈(delD ks ds k).2->e∈ds
 |[],_,h=>nomatch h
 |_::_,[],h=>nomatch h
 |k'::ks,d'::ds,h=>by
  rw[delD] at h;by_cases c:k'=k
  ·rw[if_pos c] at h;exact ah _<|Bl h
  ·rw[if_neg c] at h;rcases a9.mp h with z|z
   ·exact z▸av
   ·exact ah _<|Bl z
theorem Iz:∀{ks:List Key} {ds:List D},(delD ks ds k).1.length<=ks.length
 |[],_=>d5 _
 |_::_,[]=>d5 _
 |k'::ks,d'::ds=>by
  rw[delD];by_cases c:k'=k
  ·rw[if_pos c];exact Nat.le_succ_of_le Iz
  ·rw[if_neg c];exact xE Iz
theorem Gy:∀{ks:List Key} {ds:List D},k∈ks->ks.length=ds.length->∃d,nH ks ds k=some d
 |k'::ks,d::ds,h,l=>by
  rw[nH];by_cases c:k'=k
  ·exact⟨d,if_pos c⟩
  ·rw[if_neg c];exact Gy ((a9.mp h).resolve_left λe=>c e.symm)<|BA l
theorem ZC (h:Uo fs m=.ok L)(o:L.length<=ai/\i<m.length/\j0+(newsE L).length<=m.length/\i<j0)
  (H:∀as:List Addr,as.length=(newsE L).length->as.Nodup->∃m',k (newHs (m.set i<|.ow<|.lst<|elP L as) j0<|as.zip<|newsE L)=.ok (.rt fr d,m')/\m'.length=m.length):RK i j0 fs k m=.ok (.rt fr d,m.map λ_=>.un):=by
 unfold RK;rw[h];exact(if_pos o).trans (YD H)
theorem ZK (h:f m=.ok d)(o:∀a,d≠.adr a):BV f m=.ok (.rt false d,m.map λ_=>.un):=by
 unfold BV;rw[h];cases d<;>first|rfl|exact absurd rfl (o _)
theorem W7 (h:f m=.ok (.adr a))(e:Lr m a 0=some o)(C:o.2.1=true):BV f m=.ok (.rt true o.2.2,m.map λ_=>.un):=by
 unfold BV;rw[h];show(ofO<|Lr m a 0).bind _=_;rw[e];exact if_pos C
theorem ae2 (o:t1 m=.ok b1)(C:t2 m=.ok b2):gIf (dR t1 t2) g k m=if b1||b2 then g m else k m:=by
 cases b1<;>simp[gIf,dR,o,C]
theorem Bc (o:f1 m=.ok a)(C:f2 m=.ok b)(h:g a b=some r):aK g f1 f2 m=.ok r:=by simp[aK,o,C,h]
theorem ZF (J:m[i]? = some (.ow<|.dct ks ds))(I:fv m=.ok d)(C:fk m=.ok k)(hk:jW k=some ky)(o:ks.length<ai):vZ i fk fv m=.ok (.nx,m.set i<|.ow<|.dct (putD ks ds ky d).1 (putD ks ds ky d).2):=by
 have o:ks.length<16777216:=o;simp[vZ,I,C,qg,J,hk,o,nu]
theorem Yp (J:m[i]? = some (.ow<|.dct ks ds))(I:fv m=.ok d)(C:fk m=.ok k)(hk:jW k=none)(U:Yg k=true)(o:ks.length<ai):vZ i fk fv m=.ok (.nx,m.set i<|.ow<|.odd<|ks.length+1):=by
 have o:ks.length<16777216:=o;simp[vZ,I,C,qg,J,hk,U,o]
theorem acj (J:m[i]? = some (.ow<|.dct ks ds))(I:fv m=.ok d)(C:fk m=.ok k)(hk:jW k=some ky)(o:ks.length<ai):iJ i fk fv m=.ok (.nx,m.set i<|.ow<|.dct (putD ks ds ky d).1 (putD ks ds ky d).2):=by
 have o:ks.length<16777216:=o;simp[iJ,I,C,qg,J,hk,o,nu]
theorem YH (o:m[i]? = some (.ow<|.dct ks ds))(I:fk m=.ok k)(hk:jW k=some ky)(C:nH ks ds ky=some d):wk i fk m=.ok (d,m.set i<|.ow<|.dct (delD ks ds ky).1 (delD ks ds ky).2):=by
 simp[wk,qg,o,I,hk,C,nu]
theorem aek (h:f m=.ok (d,m')):Vd f m=.ok (.nx,m'):=by simp[Vd,h]
theorem aaB (I:fv m=.ok (d,m'))(J:m'[i]? = some (.ow<|.dct ks ds))(C:fk m'=.ok k)(hk:jW k=some ky)(o:ks.length<ai):Ef i fk fv m=.ok (.nx,m'.set i<|.ow<|.dct (putD ks ds ky d).1 (putD ks ds ky d).2):=by
 have o:ks.length<16777216:=o;simp[Ef,I,C,qg,J,hk,o,nu]
def Spo (Rows:List D)(s:Int)(fr:Bool)(d:D):Prop:=(fr=false/\eE d≠""/\eE d≠"dict")\/(fr=true/\((∃b a,d=.dct b a/\∀e∈a,Val 60 e)\/∃n,d=.odd n/\¬n=(dN Rows s).length))
theorem Spo.told (C:∀d∈Rows,mO d)(o:Rows.length<=1000){fr:Bool}{d:D}(h:Spo Rows s fr d):∃v,Told Rows s d v:=by
 rcases h with⟨_,h⟩|⟨_,⟨c,e,rfl,a⟩|⟨n,rfl,b⟩⟩
 ·exact⟨_,S6 C o h⟩
 ·exact Kr (by decide) C o a
 ·exact⟨_,Wb C o b⟩
def Shr (d:D):Prop:=∃l:List Rat,d=.tup (l.map rD)/\(1<=l.length/\l.length<=3)/\∀x∈l,0<=x.num/\Sz 13 x
theorem Shr.val (h:Shr d):Val 60 d:=by
 obtain⟨l,rfl,f,a⟩:=h;refine .inr ⟨_,rfl,by simp;lia,λe c=>?_⟩;obtain⟨x,b,rfl⟩:=dr.mp c;exact .inr ⟨x,rfl,gJ (a x b).2.1 (by decide),gJ (a x b).2.2<|by decide⟩
section
variable {Rows:List D}{s:Int}{ds:List D}{cell:Int}{ps:List Str}
abbrev kR (Rows:List D)(s:Int):List Key:=(dN Rows s).map λd=>.inr<|nmR d
abbrev af2:D:=.tup [.tup [.int 1,.int 1]]
theorem val_one:Val 60 af2:=.inr ⟨_,rfl,by decide,λe a=>(cm.mp a)▸.inr ⟨1,rfl,by decide,by decide⟩⟩
abbrev spT (o:Zac):Zab:=
 (aH (gIf (aK gEq (az bc (aj 3)<|fC<|.int 8)<|fC<|.int 1) (BV<|az gIx (aj 6)<|az bc (az dq (aj 3)<|fC<|.int 8)<|fC<|.int 8) gNx)
 (aH (eV 7<|aP uF<|aa (aj 2) aB)
 (aH (gIf (dR (aK gEq (az bc (aj 3)<|fC<|.int 8)<|fC<|.int 2)<|aK gEq (aP cP<|aa (aj 5) aB)<|fC<|.int 0) (aH (vZ 7 (az gIx (az bR (aj 4)<|dW<|aa (fC .non)<|aa (fC<|.int 7)<|aa (bu<|aa (fC<|.str "a")<|aa (fC<|.str "b") aB)<|aa (fC<|.str "") aB)<|az bc (az dq (aj 3)<|fC<|.int 8)<|fC<|.int 12)<|bu<|aa (bu<|aa (fC<|.int 1)<|aa (fC<|.int 1) aB) aB)
 (jg 7)) gNx)
 (aH (bC 8<|az gIx (aj 5)<|az bc (az dq (aj 3)<|fC<|.int 8)<|aP cP<|aa (aj 5) aB)
 (aH (gIf (aK gEq (az bc (aj 3)<|fC<|.int 8)<|fC<|.int 3) (aH (Vd<|wk 7<|aG 8)
 (jg 7)) gNx)
 (aH (gIf (aK gEq (az bc (aj 3)<|fC<|.int 8)<|fC<|.int 4) (aH (Ef 7 (az gIx (aj 4)<|az bc (az dq (aj 3)<|fC<|.int 64)<|fC<|.int 8)<|wk 7<|aG 8)
 (jg 7)) gNx)
 (aH (iJ 7 (aG 8)<|fFn o<|aa (az dD (aj 7)<|aj 8)<|aa (az dq (aj 3)<|fC<|.int 64) aB)
 (jg 7))))))))
theorem SM (hr:∀d∈Rows,mO d)(hl:Rows.length<=1000)(hd:ds.length=(dN Rows s).length)(hs:∀d∈ds,Shr d)(hc:0<=cell)(C:ps.length=8):
  ∃fr d,jr [.lst Rows,.int s,.dct (kR Rows s) ds,.int cell,.lst<|ps.map .str]=.ok (fr,d)/\Spo Rows s fr d:=by
 have hl':(dN Rows s).length<=1000:=by have:=kF (λd=>decide<|sdD d=s) Rows;lia
 have kl:(kR Rows s).length=(dN Rows s).length:=a6 ..;have V:(kR Rows s).length<ai:=by rw[kl];show _<16777216;lia
 have K:∀d∈ds,Val 60 d:=λd h=>(hs d h).val;have en:=Xm (s:=s) hr hl [.fz<|.dct (kR Rows s) ds,.fz<|.int cell,.fz<|.lst<|ps.map .str,.un,.un,.un,.un,.un];have nn:∀{j:Nat} {e:D},((dN Rows s).map λd=>D.str<|nmR d)[j]? = some e->∃x,e=.str x/\.inr x∈kR Rows s:=λ{j e} h=>by
  rw[a5,iO] at h;obtain⟨r,p,rfl⟩:=h;exact⟨_,rfl,dr.mpr ⟨r,dy p,rfl⟩⟩
 have nl:((dN Rows s).map λd=>D.str<|nmR d).length=(dN Rows s).length:=a6 ..;generalize((dN Rows s).map λd=>D.str<|nmR d)=N at *;generalize kR Rows s=ks at *
 let M:Addr->Sl->Sl->Me:=λa R u=>[.fz<|.lst Rows,.fz<|.int s,.fz<|.dct ks ds,.fz<|.int cell,.fz<|.lst<|ps.map .str,.fz<|.lst N,.ow<|.lst [.non,.lst [],.lst<|ks.map keyV,.tup [.dct ks ds],.str "",.int 7,.adr a,.bl true],R,u,.hd true a<|.dct [] []]
 let T:=spT bU
 suffices H:∃fr d,Spo Rows s fr d/\∀a,∃G,T (M a .un .un)=.ok (.rt fr d,G)/\G.length=10 by
  obtain⟨fr,d,p,H⟩:=H;have e2:aG 2 [.fz<|.lst Rows,.fz<|.int s,.fz<|.dct ks ds,.fz<|.int cell,.fz<|.lst<|ps.map .str,.fz<|.lst N,.un,.un,.un,.un]=.ok (.dct ks ds):=rfl;have E:=(bN<|lq (i:=5) en).trans ((ZC (i:=6) (j0:=9) (k:=T) (show Uo [(false,fC .non),(false,dW aB),(false,wZ<|aG 2),(false,bu<|aa (aG 2) aB),(false,fC<|.str ""),(false,fC<|.int 7),(true,zW),(false,fC<|.bl true)] _=.ok [(false,.non),(false,.lst []),(false,.lst<|ks.map keyV),(false,.tup [.dct ks ds]),(false,.str ""),(false,.int 7),(true,.dct [] []),(false,.bl true)] by simp[Uo,fC,dW,aB,wZ,bu,aa,e2,zW]) ⟨by show 8<=16777216;decide,by show 6<10;decide,by show 9+1<=10;decide,by decide⟩ λas p _=>by
   obtain⟨a,rfl⟩:=List.length_eq_one_iff.mp p;exact H a))
  exact⟨fr,d,by simp[jr,qC,aV,show qp bU jC [.fz<|.lst Rows,.fz<|.int s,.fz<|.dct ks ds,.fz<|.int cell,.fz<|.lst<|ps.map .str,.un,.un,.un,.un,.un]=_ from E],p⟩
 have c8:∀(k:Int) (q:Bool) (m:Me),m[3]? = some (.fz<|.int cell)->decide (cell%8=k)=q->aK gEq (az bc (aj 3)<|fC<|.int 8) (fC<|.int k) m=.ok q:=λk q m h e=>by
  have e3:aj 3 m=.ok (.int cell):=by simp[aj,h]
  exact Bc (bO e3 rfl<|wG<|by decide) rfl (by show some (decide _)=_;rw[e])
 have w:∀{k:Int} {g:Zab} {m:Me},m[3]? = some (.fz<|.int cell)->¬cell%8=k->gIf (aK gEq (az bc (aj 3)<|fC<|.int 8)<|fC<|.int k) g gNx m=.ok (.nx,m):=λh e=>by simp[gIf,c8 _ false _ h<|decide_eq_false e,gNx]
 have A:∀{k:Int} {g:Zab} {m:Me},m[3]? = some (.fz<|.int cell)->cell%8=k->gIf (aK gEq (az bc (aj 3)<|fC<|.int 8)<|fC<|.int k) g gNx m=g m:=λh e=>by simp[gIf,c8 _ true _ h<|decide_eq_true e]
 have W:∀(i j:Int) (m:Me),0<i->Bq i->0<j->m[3]? = some (.fz<|.int cell)->az bc (az dq (aj 3)<|fC<|.int i) (fC<|.int j) m=.ok (.int<|cell/i%j):=λi j m p E I h=>by
  have e3:aj 3 m=.ok (.int cell):=by simp[aj,h]
  exact bO (bO e3 rfl<|Hf p E) rfl<|wG I
 have Z:Bq 8:=bgS (by decide);have Q:Bq 64:=bgS (by decide);have S:∀j:Int,0<j->∀i:Int,0<i->∃k:Nat,cell/i%j=k/\(k:Int)<j:=λj F i _=>⟨(cell/i%j).toNat,by rw[sN<|fq _<|by lia],by have:=fR (cell/i) F;have:=fq (cell/i) (b:=j) (by lia);lia⟩;by_cases J:cell%8=1
 ·-- no plan
  obtain⟨j,F,O⟩:=S 8 (by decide) 8 (by decide);have ix:∀{e:D} {a:Addr},([.non,.lst [],.lst<|ks.map keyV,.tup [.dct ks ds],.str "",.int 7,.adr a,.bl true]:List D)[j]? = some e->az gIx (aj 6) (az bc (az dq (aj 3)<|fC<|.int 8)<|fC<|.int 8) (M a .un .un)=.ok e:=λh=>bO rfl (W 8 8 _ (by decide) Z (by decide) rfl) (by rw[F];exact Gj h);have non:∀{e:D},(∀a,([.non,.lst [],.lst<|ks.map keyV,.tup [.dct ks ds],.str "",.int 7,.adr a,.bl true]:List D)[j]? = some e)->(∀a,e≠.adr a)->eE e≠""/\eE e≠"dict"->∃fr d,Spo Rows s fr d/\∀a,∃G,T (M a .un .un)=.ok (.rt fr d,G)/\G.length=10:=λp E I=>⟨false,_,.inl ⟨rfl,I⟩,λa=>⟨_,o7<|(A rfl J).trans<|ZK (ix<|p a) E,rfl⟩⟩;rcases(by lia:j=0\/j=1\/j=2\/j=3\/j=4\/j=5\/j=6\/j=7) with z|z|z|z|z|z|z|z<;>subst z
  ·exact non (λ_=>rfl) (λ_ h=>nomatch h) ⟨by decide,by decide⟩
  ·exact non (λ_=>rfl) (λ_ h=>nomatch h) ⟨by decide,by decide⟩
  ·exact non (λ_=>rfl) (λ_ h=>nomatch h) ⟨by show "list"≠"";decide,by show "list"≠"dict";decide⟩
  ·exact non (λ_=>rfl) (λ_ h=>nomatch h) ⟨by show "tuple"≠"";decide,by show "tuple"≠"dict";decide⟩
  ·exact non (λ_=>rfl) (λ_ h=>nomatch h) ⟨by decide,by decide⟩
  ·exact non (λ_=>rfl) (λ_ h=>nomatch h) ⟨by decide,by decide⟩
  ·exact⟨true,.dct [] [],.inr ⟨rfl,.inl ⟨[],[],rfl,λ_ h=>nomatch h⟩⟩,λa=>⟨_,o7<|(A rfl J).trans<|W7 (o:=(9,true,.dct [] [])) (ix rfl) (if_pos rfl) rfl,rfl⟩⟩
  ·exact non (λ_=>rfl) (λ_ h=>nomatch h) ⟨by decide,by decide⟩
 have own:∀a,eV 7 (aP uF<|aa (aj 2) aB) (M a .un .un)=.ok (.nx,M a (.ow<|.dct ks ds) .un):=λa=>XM (nF (ds:=[.dct ks ds]) (bZ rfl) rfl) (show 7<10 by decide);have l0:∀a R u,aP cP (aa (aj 5) aB) (M a R u)=.ok (.int N.length):=λa R u=>nF (ds:=[.lst N]) (bZ rfl) rfl;have f:∀a,∀{r:Res (Fl×Me)},_=r->spT bU (M a .un .un)=r:=λa {r} h=>((bN<|w rfl J).trans<|bN<|own a).trans h;have n:=λa (g:Zab)=>ae2 (g:=g) (k:=gNx) (m:=M a (.ow<|.dct ks ds) .un) (c8 2 (decide<|cell%8=2) _ rfl rfl)<|Bc (f2:=fC<|.int 0) (l0 a (.ow<|.dct ks ds) .un) (b:=.int 0) rfl<|show gEq (.int N.length) (.int 0)=some (decide<|(N.length:Int)=0) from rfl;have P:∀a (d:D) u,jg 7 (M a (.ow d) u)=.ok (.rt true d,(M a (.ow d) u).let):=λ_ _ _=>rfl;have L:∀a (d:D) u,(M a (.ow d) u).let.length=10:=λ_ _ _=>rfl;by_cases U:(decide (cell%8=2)||decide ((N.length:Int)=0))=true
 ·have n:∀a (g:Zab),_:=λa g=>(n a g).trans<|if_pos U;obtain⟨j,F,O⟩:=S 12 (by decide) 8 (by decide);obtain⟨e,B⟩:∃e,(ps.map D.str++[.non,.int 7,.tup [.str "a",.str "b"],.str ""])[j]? = some e:=⟨_,aw (by simp[C];lia)⟩;have ad:bR (.lst<|ps.map .str) (.lst [.non,.int 7,.tup [.str "a",.str "b"],.str ""])=some (.lst<|ps.map .str++[.non,.int 7,.tup [.str "a",.str "b"],.str ""]):=if_pos (by simp[C]);have ke:∀a,az gIx (az bR (aj 4)<|dW<|aa (fC .non)<|aa (fC<|.int 7)<|aa (bu<|aa (fC<|.str "a")<|aa (fC<|.str "b") aB)<|aa (fC<|.str "") aB) (az bc (az dq (aj 3)<|fC<|.int 8)<|fC<|.int 12) (M a (.ow<|.dct ks ds) .un)=.ok e:=λa=>
   bO (bO (a:=.lst<|ps.map .str) rfl (Ep (aU rfl<|aU rfl<|aU (tY (ds:=[.str "a",.str "b"]) rfl<|show(2:Nat)<=100 by decide) (bZ rfl)) (show(4:Nat)<=100 by decide)) ad) (W 8 12 _ (by decide) Z (by decide) rfl) (by rw[F];exact Gj B)
  have ev:∀a,bu (aa (bu<|aa (fC<|.int 1)<|aa (fC<|.int 1) aB) aB) (M a (.ow<|.dct ks ds) .un)=.ok af2:=λa=>tY (bZ<|tY (ds:=[.int 1,.int 1]) rfl<|show(2:Nat)<=100 by decide) (show(1:Nat)<=100 by decide);have kk:(∃ky,jW e=some ky)\/(jW e=none/\Yg e=true):=by
   by_cases c:j<8
   ·rw[cf (by simp[C,c]),a5,iO] at B;obtain⟨x,_,rfl⟩:=B;exact .inl ⟨_,rfl⟩
   ·rw[cp (by simp[C];lia),a6,C] at B;rcases(by lia:j-8=0\/j-8=1\/j-8=2\/j-8=3) with z|z|z|z<;>rw[z] at B<;>cases B
    ·exact .inr ⟨rfl,rfl⟩
    ·exact .inl ⟨_,rfl⟩
    ·exact .inr ⟨rfl,rfl⟩
    ·exact .inl ⟨_,rfl⟩
  rcases kk with⟨ky,X⟩|⟨X,ho⟩
  ·refine⟨true,_,.inr ⟨rfl,.inl ⟨_,_,rfl,λd hd=>?_⟩⟩,λa=>⟨_,f a<|o7<|(n a _).trans<|(bN<|ZF (i:=7) (ks:=ks) (ds:=ds) rfl (ev a) (ke a) X V).trans<|P a _ _,L a _ _⟩⟩;rcases Jb hd with z|z
   ·exact K d z
   ·exact z▸val_one
  ·exact⟨true,_,.inr ⟨rfl,.inr ⟨ks.length+1,rfl,by lia⟩⟩,λa=>⟨_,f a<|o7<|(n a _).trans<|(bN<|Yp (i:=7) (ks:=ks) (ds:=ds) rfl (ev a) (ke a) X ho V).trans<|P a _ _,L a _ _⟩⟩
 ·have n:∀a (g:Zab),_:=λa g=>(n a g).trans<|if_neg U;have n0:0<N.length:=by
   rcases Nat.eq_zero_or_pos N.length with z|z
   ·exact absurd (by simp[z]) U
   ·exact z
  obtain⟨j,F,O⟩:=S N.length (by lia) 8 (by decide);obtain⟨e,B⟩:∃e,N[j]? = some e:=⟨_,aw<|by lia⟩;obtain⟨x,rfl,hx⟩:=nn B;obtain⟨v,t⟩:=Gy hx (by lia:ks.length=ds.length);have e8:∀a,bC 8 (az gIx (aj 5)<|az bc (az dq (aj 3)<|fC<|.int 8)<|aP cP<|aa (aj 5) aB) (M a (.ow<|.dct ks ds) .un)=.ok (.nx,M a (.ow<|.dct ks ds)<|.fz<|.str x):=λa=>
   lq (bO (a:=.lst N) rfl (bO (bO (a:=.int cell) (b:=.int 8) rfl rfl<|Hf (by decide) Z) (l0 a _ _)<|wG<|by lia) (by rw[F];exact Gj B))
  have f:∀a,∀{r:Res (Fl×Me)},_=r->spT bU (M a .un .un)=r:=λa {r} h=>f a<|(bN<|n a _).trans<|(bN<|e8 a).trans h;have lzd:(delD ks ds<|.inr x).1.length<ai:=pe Iz V;by_cases Y:cell%8=3
  ·exact⟨true,_,.inr ⟨rfl,.inl ⟨_,_,rfl,λd hd=>K d<|Bl hd⟩⟩,λa=>⟨_,f a<|o7<|(A rfl Y).trans<|(bN<|aek<|YH (i:=7) (ks:=ks) (ds:=ds) rfl (k:=.str x) rfl rfl t).trans<|P a _ _,L a _ _⟩⟩
  by_cases c4:cell%8=4
  ·obtain⟨j',hj',hjl'⟩:=S 8 (by decide) 64 (by decide);obtain⟨y,hy⟩:∃y,(ps.map D.str)[j']? = some (.str y):=⟨_,by rw[a5,aw<|by lia];rfl⟩;refine⟨true,_,.inr ⟨rfl,.inl ⟨_,_,rfl,λd hd=>?_⟩⟩,λa=>⟨_,f a<|(bN<|w rfl Y).trans<|o7<|(A rfl c4).trans<|(bN<|aaB (i:=7) (ks:=(delD ks ds<|.inr x).1) (ds:=(delD ks ds<|.inr x).2) (m':=M a (.ow<|.dct (delD ks ds<|.inr x).1 (delD ks ds<|.inr x).2)<|.fz<|.str x) (YH (i:=7) (ks:=ks) (ds:=ds) rfl (k:=.str x) rfl rfl t) rfl (bO (a:=.lst<|ps.map .str) rfl (W 64 8 _ (by decide) Q (by decide) rfl) (by rw[hj'];exact Gj hy)) rfl lzd).trans<|P a _ _,L a _ _⟩⟩;rcases Jb hd with z|z
   ·exact K d<|Bl z
   ·exact z▸K v (ux t)
  ·obtain⟨l,rfl,p,E⟩:=hs v<|ux t;obtain⟨d,ed,vd⟩:=Vq p E (cell:=cell/64)<|Int.ediv_nonneg hc (by decide);refine⟨true,_,.inr ⟨rfl,.inl ⟨_,_,rfl,λd' hd=>?_⟩⟩,λa=>⟨_,f a<|(bN<|w rfl Y).trans<|(bN<|w rfl c4).trans<|(bN<|acj (i:=7) (ks:=ks) (ds:=ds) (k:=.str x) rfl (jP (aU (bO (a:=.dct ks ds) (b:=.str x) rfl rfl t)<|bZ<|bO (a:=.int cell) (b:=.int 64) rfl rfl<|Hf (by decide) Q) ed) rfl rfl V).trans<|P a _ _,L a _ _⟩⟩;rcases Jb hd with z|z
   ·exact K d' z
   ·exact z▸vd
end
end K18
namespace F
open PySem PySem.Spec PyProof.Rows L2 Hd
section
end
section
end
end F
namespace Pk
open PySem L2 Hd F
section
end
open L2 (atI ixN Key)
open L2 (atI ixN Key)
open L2 (atI ixN Key)
open L2 (atI ixN Key)
open L2 (atI ixN Key)
open L2 (atI ixN Key)
end Pk
namespace Lw
open PySem L2 Hd F Pk
theorem RM (s:Int):((rowsOf g s).map nmR).Nodup:=by
 have T:=IV (prG [] ([],[]) g) ([],[]) ⟨rfl,qh⟩;have f:=T.2;rw[T.1] at f;have pw:=k8.mp f;refine k8.mpr<|(pw.filter λd=>decide<|sdD d=s).imp_of_mem λ{a b} u k h z=>h ?_;obtain⟨m,t⟩:=hG.mp u;obtain⟨r,p⟩:=hG.mp k;obtain⟨j,e,w,x,rfl⟩:=Aq m;obtain⟨i,c,v,y,rfl⟩:=Aq r;have q:j=s:=of_decide_eq_true t;have n:i=s:=of_decide_eq_true p;have l:e=c:=z;show kn j e=kn i c;rw[q,n,l]
theorem afp (E:o9 e)(o:e.pool.Nodup){N:Nd}{m:Int×Int}(I:qm N m){g:Gm}{dep:Nat}(hd:dep<=12)(G:Grw e N ([],[]) g dep)(hz:szG g<=64):Gv g where
 toGd:=afl E o I hd G hz
 fn:=λp b d a=>by
  have:=G.pl [] p b
  unfold Wo at this;rw[a] at this;exact this.2
end Lw
namespace K18
open PySem L2 Hd F Pk Lw
open L2 (atI ixN Key)
theorem abQ:∀l:List Rat,rA (l.map rD)=true/\pH (l.map rD)<=1
 |[]=>⟨rfl,by decide⟩
 |x::l=>by
  obtain⟨a,b⟩:=abQ l;refine⟨by simp[rA,a,okD,ug],?_⟩;simp only[ay,pH]
  have:tU (rD x)=1:=by simp[ug,tU,pH]
  lia
theorem KJ {q:Str->List Rat}{C:List D}:∀o:List D,(∀d∈o,d∈C)->Ds (C.map λd=>.inr<|nmR d) (C.map λd=>.tup<|(q<|nmR d).map rD) (o.map λd=>.inr<|nmR d) (o.map λd=>.tup<|(q<|nmR d).map rD)=some true
 |[],_=>rfl
 |d::o,h=>by
  have b:=BR (λn=>.tup<|(q n).map rD) C ⟨d,h d av,rfl⟩;obtain⟨a,c⟩:=abQ<|q<|nmR d;have e:=tZ (d:=.tup<|(q<|nmR d).map rD) (by simpa[okD] using a) (by simp[tU];lia);rw[ay,ay,Ds];simp only[b,e,KJ o λd hd=>h d<|ah _ hd,Option.bind_some,hJ];rfl
theorem Ww:Xw (jc Rs q) (jc Rs q)=some false:=by
 have:Zk (jc Rs q) (jc Rs q)=some true:=(if_pos rfl).trans<|KJ Rs λ_ h=>h
 unfold Xw;rw[this];rfl
theorem Mh:∀(l:List Tr3) (T:Tb),(l.foldl tst T).2.length<=T.2.length+l.length
 |[],T=>by simp
 |p::l,T=>by
  have h:=Mh l<|tst T p
  have:(tst T p).2.length<=T.2.length+1:=by
   unfold tst;split
   ·split<;>simp
   ·lia
  simp only[sD,cy]
  lia
theorem ad5 (h:Row e N s n d):1<=wdD d/\wdD d<=3:=by
 obtain⟨f,c,b,k,_,_,_,_,_,a,_,rfl⟩:=h;show 1<=((cq c).map _).length/\((cq c).map _).length<=3;simpa using a
theorem ada (o:fs m=.ok ds)(C:Φ ds=.ok (f,.bl true)):gIf (cG<|fTv<|fFn Φ fs) k gNx m=.ok (.nx,m):=by simp[gIf,cG,fTv,fFn,o,C,gNx]
theorem Xf (o:fs m=.ok ds)(C:Φ ds=.ok (f,.bl b)):NK Φ fs m=.ok (.bl b):=by
 have:flat (.bl b)=true:=rfl
 simp[NK,o,C,this]
theorem Qj (o:fs m=.ok ds)(C:Φ ds=.ok (f,.bl true)):gIf (cG<|fTv<|NK Φ fs) k gNx m=.ok (.nx,m):=by simp[gIf,cG,fTv,Xf o C,gNx]
theorem acW (o:t1 m=.ok false)(C:t2 m=.ok false):gIf (dR t1 t2) k gNx m=.ok (.nx,m):=by simp[gIf,dR,o,C,gNx]
theorem Xi (C:fs m=.ok ds)(J:Φ ds=.ok (true,d))(I:isTup d=false)(o:i<m.length):wy i Φ fs m=.ok (.nx,m.set i<|.ow d):=by simp[wy,C,J,I,o]
theorem WN (o:fs m=.ok ds)(C:Φ ds=.ok (false,d)):wy i Φ fs m=.ok (.nx,m.set i<|.fz d):=by simp[wy,o,C]
theorem YB (h:aj 9 m=.ok d)(hk:eE d≠""):gIf (fTv<|ig "dict" (aj 9)) k1 k2 m=if eE d = "dict" then k1 m else k2 m:=by
 have a:SQ (eE d) "dict" = decide (eE d = "dict"):=by by_cases c:eE d = "dict"<;>simp[SQ,c]
 have:ig "dict" (aj 9) m=.ok (.bl<|decide<|eE d = "dict"):=by simp[ig,h,hk,a]
 by_cases c:eE d = "dict"<;>simp[gIf,fTv,this,c]
theorem aaN {Fi Fc Fp Fm Fg Ft Fy Fd Fs Fq:Zac}{L:Zab}{C J G O o:D}{R s1:List D}{ks:List Key}{ds:List D}{c0 c1 U c3 c4 c5 c6 s x:Int}{vo v fr bi:Bool}{t:Sl}(h0:Fc [C,.int 0]=.ok (false,.int c0))(h1:Fc [C,.int 1]=.ok (false,.int c1))(h2:Fc [C,.int 2]=.ok (false,.int U))(h3:Fc [C,.int 3]=.ok (false,.int c3))(h4:Fc [C,.int 4]=.ok (false,.int c4))(h5:Fc [C,.int 5]=.ok (false,.int c5))(h6:Fc [C,.int 6]=.ok (false,.int c6))
  (hp:Fp [.int c0,.int c1]=.ok (true,J)) (e1:fSl (aj 0) (fO1<|fC<|.int 8) (fO1<|fC<|.int 38) [.fz C,.fz J,.fz<|.int U,.un,.un,.un,.un,.un,.un,.un,.un,.un]=.ok (.lst s1)) (ga:bR (.lst s1) (.lst [.int c3])=some (.lst<|s1++[.int c3])) (eg:Fg [.lst<|s1++[.int c3],.int U,.int 6,.int 39,J]=.ok (false,G))
  (et:Ft [G]=.ok (true,.lst R)) (es:bR (.int 1) (.int<|U/128%2)=some (.int s)) (e3:dZ (.int 3) (.int s)=some (.int<|3-s)) (el:Fy [.lst R,.int s,.int c4]=.ok (true,.dct ks ds)) (eo:Fy [.lst R,.int<|3-s,.int c5]=.ok (true,O)) (hO:uF [O]=some O)
  (ip:Fi [G,.int s,.dct ks ds]=.ok (bi,.bl true)) (nd:Xw (.dct ks ds) (.dct ks ds)=some false) (eu:Fd [.lst R,.int s,O]=.ok (false,.bl vo)) (eq:Fq [G,.int s,O,.bl vo]=.ok (false,.bl true)) (em:Fm [.int c6,.int 77]=.ok (false,.int x)) (sp:Fs [.lst R,.int s,.dct ks ds,.int x,J]=.ok (fr,o))
  (bd:Fd [.lst R,.int s,o]=.ok (false,.bl v)) (bq:Fq [G,.int s,o,.bl v]=.ok (false,.bl true)) (hk:(fr=false/\eE o≠""/\eE o≠"dict")\/(fr=true/\((∃ks ds,o=.dct ks ds)\/∃n,o=.odd n)))
  (eL:v=false->∀I:Sl,(I=.ow o\/I=.fz o)->L [.fz C,.fz J,.fz<|.int U,.fz G,.fz<|.lst R,.fz<|.int s,.fz<|.dct ks ds,.fz O,.fz<|.dct ks ds,I,.fz<|.bl v,.un]=.ok (.nx,[.fz C,.fz J,.fz<|.int U,.fz G,.fz<|.lst R,.fz<|.int s,.fz<|.dct ks ds,.fz O,.fz<|.dct ks ds,I,.fz<|.bl v,t])):
  ∃m'',QX Fi Fc Fp Fm Fg Ft Fy Fd Fs Fq L [.fz C,.un,.un,.un,.un,.un,.un,.un,.un,.un,.un,.un]=.ok (.rt false<|.bl true,m''):=by
 have B:∀n:Int,0<n->n<=5000->Bq n:=λn _ _=>bgS (by lia);unfold QX;refine i8 (λ_ h=>(bN<|lq<|jP (aU (jP (aU rfl<|bZ rfl) h0)<|bZ<|jP (aU rfl<|bZ rfl) h1) hp).trans h) ?_;refine i8 (λ_ h=>(bN<|lq<|jP (aU rfl<|bZ rfl) h2).trans h) ?_;refine i8 (λ_ h=>(bN<|lq<|jP (aU (bO e1 (Ep (bZ<|jP (aU rfl<|bZ rfl) h3)<|show(1:Nat)<=100 by decide) ga) (aU rfl<|aU rfl<|aU rfl<|bZ rfl)) eg).trans h) ?_;refine i8 (λ_ h=>(bN<|lq<|jP (bZ rfl) et).trans h) ?_;refine i8 (λ_ h=>(bN<|lq<|bO rfl (bO (bO rfl rfl<|Hf (by decide)<|B _ (by decide)<|by decide) rfl<|wG<|by decide) es).trans h) ?_;refine i8 (λ_ h=>(bN<|lq<|jP (aU rfl<|aU rfl<|bZ<|jP (aU rfl<|bZ rfl) h4) el).trans h) ?_;refine i8 (λ_ h=>(bN<|lq<|jP (aU rfl<|aU (bO rfl rfl e3)<|bZ<|jP (aU rfl<|bZ rfl) h5) eo).trans h) ?_;refine i8 (λ_ h=>(bN<|lq<|nF (bZ rfl) rfl).trans h) ?_;refine i8 (λ_ h=>(bN<|acW (Bc (jP (aU rfl<|aU rfl<|bZ rfl) ip) rfl rfl)<|Bc rfl rfl nd).trans h) ?_;refine i8 (λ_ h=>(bN<|ada (aU rfl<|aU rfl<|aU (nF (bZ rfl) hO)<|bZ<|jP (aU rfl<|aU rfl<|bZ rfl) eu) eq).trans h) ?_;have A:∀m:Me,m=[.fz C,.fz J,.fz<|.int U,.fz G,.fz<|.lst R,.fz<|.int s,.fz<|.dct ks ds,.fz O,.fz<|.dct ks ds,.un,.un,.un]->aa (aG 4) (aa (aG 5)<|aa (aG 6)<|aa (fFn Fm<|aa (fFn Fc<|aa (aG 0)<|aa (fC<|.int 6) aB)<|aa (fC<|.int 77) aB)<|aa (aG 1) aB) m=.ok [.lst R,.int s,.dct ks ds,.int x,J]:=λm e=>by
  subst e;exact aU rfl<|aU rfl<|aU rfl<|aU (jP (aU (jP (aU rfl<|bZ rfl) h6)<|bZ rfl) em)<|bZ rfl
 obtain⟨I,F,p,H⟩:∃I:Sl,(I=.ow o\/I=.fz o)/\wy 9 Fs (aa (aG 4)<|aa (aG 5)<|aa (aG 6)<|aa (fFn Fm<|aa (fFn Fc<|aa (aG 0)<|aa (fC<|.int 6) aB)<|aa (fC<|.int 77) aB)<|aa (aG 1) aB) [.fz C,.fz J,.fz<|.int U,.fz G,.fz<|.lst R,.fz<|.int s,.fz<|.dct ks ds,.fz O,.fz<|.dct ks ds,.un,.un,.un]=.ok (.nx,[.fz C,.fz J,.fz<|.int U,.fz G,.fz<|.lst R,.fz<|.int s,.fz<|.dct ks ds,.fz O,.fz<|.dct ks ds,I,.un,.un])/\((fr=false/\eE o≠""/\eE o≠"dict")\/(I=.ow o/\((∃ks ds,o=.dct ks ds)\/∃n,o=.odd n))):=by
  rcases hk with⟨rfl,y,w⟩|⟨rfl,l⟩
  ·exact⟨.fz o,.inr rfl,WN (A _ rfl) sp,.inl ⟨rfl,y,w⟩⟩
  ·refine⟨.ow o,.inl rfl,Xi (A _ rfl) sp ?_ (show 9<12 by decide),.inr ⟨rfl,l⟩⟩;rcases l with⟨_,_,rfl⟩|⟨_,rfl⟩<;>rfl
 refine i8 (λ_ h=>(bN p).trans h) ?_;have u:∀a b c d e f g h i j k,aj 9 [a,b,c,d,e,f,g,h,i,I,j,k]=.ok o:=λa b c d e f g h i j k=>by rcases F with rfl|rfl<;>rfl
 refine i8 (λ_ h=>(bN<|lq<|Xf (aU rfl<|aU rfl<|bZ<|u ..) bd).trans h) ?_;refine i8 (λ_ h=>(bN<|Qj (aU rfl<|aU rfl<|aU (u ..)<|bZ rfl) bq).trans h) ?_;have fin:∀r:Sl,∃m'',aH (gIf (fTv<|ig "dict" (aj 9)) (aH (w5 9)<|aH (Yd 9<|aG 6)<|aY<|je gIs (fFn Fi<|aa (aG 3)<|aa (aG 5)<|aa (aG 9) aB)<|fC<|.bl true) gNx) (aY<|je gIs (fFn Fi<|aa (aG 3)<|aa (aG 5)<|aa (aG 8) aB)<|fC<|.bl true) [.fz C,.fz J,.fz<|.int U,.fz G,.fz<|.lst R,.fz<|.int s,.fz<|.dct ks ds,.fz O,.fz<|.dct ks ds,I,.fz<|.bl v,r]=.ok (.rt false<|.bl true,m''):=λr=>by
  have q:∀{z:Zae} {m:Me},z m.let=.ok (.bl true)->aY (je gIs z<|fC<|.bl true) m=.ok (.rt false<|.bl true,m.let):=λ{z m} h=>by
   have:gIs (.bl true) (.bl true)=some true:=rfl
   simp[aY,je,h,fC,this]
  rcases H with⟨_,y,w⟩|⟨rfl,l⟩
  ·exact⟨_,(bN<|(YB (u ..) y).trans<|(if_neg w).trans rfl).trans<|q<|jP (aU rfl<|aU rfl<|bZ rfl) ip⟩
  ·have E:eE o = "dict":=by rcases l with⟨_,_,rfl⟩|⟨_,rfl⟩<;>rfl
   have K:w5 9 [.fz C,.fz J,.fz<|.int U,.fz G,.fz<|.lst R,.fz<|.int s,.fz<|.dct ks ds,.fz O,.fz<|.dct ks ds,.ow o,.fz<|.bl v,r]=.ok (.nx,[.fz C,.fz J,.fz<|.int U,.fz G,.fz<|.lst R,.fz<|.int s,.fz<|.dct ks ds,.fz O,.fz<|.dct ks ds,.ow<|.dct [] [],.fz<|.bl v,r]):=by rcases l with⟨_,_,rfl⟩|⟨_,rfl⟩<;>rfl
   exact⟨_,o7<|(YB (u ..) (by rw[E];decide)).trans<|(if_pos E).trans<|(bN K).trans<|(bN rfl).trans<|q<|jP (aU rfl<|aU rfl<|bZ rfl) ip⟩
 cases v with
 |true=>exact i8 (λ_ h=>(bN<|rfl).trans h) (fin .un)
 |false=>exact i8 (λ_ h=>(bN<|(rfl).trans<|eL rfl I F).trans h) (fin t)
theorem acG (e:g [.fz ns,.un,.un,.un,.un,.un,.un,.un,.un,.un,.un,.un]=.ok (.rt false d,m')):aV 12 1 g [ns]=.ok (false,d):=by
 simp[aV,e]
theorem Xa (o:S9=.ow bad\/S9=.fz bad)(h:∀k:Int,k=0\/k=1\/k=2->kW [.int k,G,.int s,bad,O]=.ok (false,.bl true)):
  JN [.fz ns,.fz pl,.fz<|.int c2,.fz G,.fz R,.fz<|.int s,.fz P,.fz O,.fz H,S9,.fz v,.un]=.ok (.nx,[.fz ns,.fz pl,.fz<|.int c2,.fz G,.fz R,.fz<|.int s,.fz P,.fz O,.fz H,S9,.fz v,.fz<|.int 2]):=by
 have n:∀a b c d e f g h i j k,aj 9 [a,b,c,d,e,f,g,h,i,S9,j,k]=.ok bad:=λa b c d e f g h i j k=>by rcases o with rfl|rfl<;>rfl
 have l:∀k:Int,Ht [.fz ns,.fz pl,.fz<|.int c2,.fz G,.fz R,.fz<|.int s,.fz P,.fz O,.fz H,S9,.fz v,.fz<|.int k]=.ok (.nx,[.fz ns,.fz pl,.fz<|.int c2,.fz G,.fz R,.fz<|.int s,.fz P,.fz O,.fz H,S9,.fz v,.fz<|.int k]):=λk=>
  Qj (aU (bO (bO rfl (bO rfl rfl<|Hf (by decide)<|bgS<|by decide) rfl) rfl<|wG<|by decide)<|aU rfl<|aU rfl<|aU (n ..)<|bZ rfl) (h _<|by lia)
 have m:∀k t,hName 11 (.int k) [.fz ns,.fz pl,.fz<|.int c2,.fz G,.fz R,.fz<|.int s,.fz P,.fz O,.fz H,S9,.fz v,t]=some [.fz ns,.fz pl,.fz<|.int c2,.fz G,.fz R,.fz<|.int s,.fz P,.fz O,.fz H,S9,.fz v,.fz<|.int k]:=λ_ _=>rfl;show bI (hName 11) Ht [.int 0,.int 1,.int 2] _=_;simp only[bI,m,l]
theorem Ve:∀o:List Int,o.length<=63->∃fr,abM [.lst<|o.map D.int]=.ok (fr,.bl true):=by
 intro o hn;obtain⟨X,h0⟩:=cell_eq o 0 (by lia);obtain⟨C,h1⟩:=cell_eq o 1 (by lia);obtain⟨f,h2⟩:=cell_eq o 2 (by lia);obtain⟨l,h3⟩:=cell_eq o 3 (by lia);obtain⟨Q,U⟩:=cell_eq o 4 (by lia);obtain⟨c5,h5⟩:=cell_eq o 5 (by lia);obtain⟨O,h6⟩:=cell_eq o 6 (by lia);obtain⟨p,Y,P⟩:=aa2 X C;have cl:(cut o (some 8)<|some 38).length<=63:=by unfold cut;simp only[lT,nN];lia
 have E:o9 ⟨cut o (some 8) (some 38)++[l],p,f%64,decide<|f/64%2=1⟩:=⟨by simp,by simp;lia,P.p8,by show 0<=f%64/\f%64<64;lia,P.ok⟩;obtain⟨g,N,m,H,I,u,B⟩:=aag E (turn:=f) (rm:=39) (dep:=6) (by decide) (by decide) rfl rfl;rw[show cD ⟨cut o (some 8) (some 38)++[l],p,f%64,decide<|f/64%2=1⟩=.lst ((cut o (some 8)<|some 38).map D.int++[.int l]) by simp[cD]] at H;have u:szG g<=40:=u;have j:Gv g:=afp E P.nd I (by decide) B (by lia);have V:=Tw j.len j.sd (by have:=j.dep;lia) (by lia);have Tl:(tbl<|prG [] ([],[]) g).2.length<=100:=by
  have:=Mh (prG [] ([],[]) g) ([],[])
  rw[Hr] at this;show((prG [] ([],[]) g).foldl tst ([],[])).2.length<=100;simp only[y9] at this
  lia
 have Tr:∀d∈(tbl<|prG [] ([],[]) g).2,mO d/\1<=wdD d/\wdD d<=3:=λd hd=>by
  obtain⟨s,n,_,hR⟩:=Kf B hd;exact⟨Aq hd,ad5 hR⟩
 have w:∀d∈(tbl<|prG [] ([],[]) g).2,mO d:=λd hd=>(Tr d hd).1;obtain⟨s,hs,J⟩:∃s:Int,(s=1\/s=2)/\s=1+f/128%2:=⟨1+f/128%2,by lia,rfl⟩;have h:=λs:Int=>aar (s:=s) j.len j.sd (by have:=j.dep;lia) (by lia:szG g<=10000);obtain⟨q,el,i⟩:=Pb (s:=s) (cell:=Q) (by lia:(tbl<|prG [] ([],[]) g).2.length<=300) Tr<|RM s;obtain⟨q',eo,r⟩:=Pb (s:=3-s) (cell:=c5) (by lia:(tbl<|prG [] ([],[]) g).2.length<=300) Tr<|RM<|3-s;generalize(tbl<|prG [] ([],[]) g).2=R at *;have sl:∀s,(dN R s).length<=1000:=λs=>by have:=kF (λd=>decide<|sdD d=s) R;lia
 have K:=λ{s:Int} {q:Str->List Rat} (i:∀d∈R.filter (λd=>decide<|sdD d=s),okS 20 (q<|nmR d) (wdD d)/\∀x∈q (nmR d),Sz 13 x)=>wg (h s)<|V6 (by decide) (λd hd=>w d (hG.mp hd).1) (sl s) λd hd=>(i d hd).1;have M:∀{s:Int} {q:Str->List Rat},(∀d∈R.filter (λd=>decide<|sdD d=s),okS 20 (q<|nmR d) (wdD d)/\∀x∈q (nmR d),Sz 13 x)->∀e∈(dN R s).map (λd=>D.tup<|(q<|nmR d).map rD),Shr e:=λ{s q} i e z=>by
  obtain⟨d,hd,rfl⟩:=dr.mp z;obtain⟨⟨o1,o2,o3,o4⟩,Z⟩:=i d hd
  have:=Tr d (hG.mp hd).1
  exact⟨_,rfl,by lia,λx y=>⟨(o2 x y).1,Z x y⟩⟩
 obtain⟨vo,t1,t2⟩:=Kr (S:=60) (s:=s) (ks:=(dN R<|3-s).map λd=>.inr<|nmR d) (by decide) w (by lia) λe z=>(M r e z).val;obtain⟨x,T,y⟩:=Es O 77 (by decide);obtain⟨fr,bad,sp,A⟩:=SM (s:=s) (cell:=x) (ps:=p) w (by lia) (a6 ..) (M i) y.1 P.p8;obtain⟨v,u1,u2⟩:=A.told w (by lia);have ga:bR (.lst<|(cut o (some 8)<|some 38).map D.int) (.lst [.int l])=some (.lst<|(cut o (some 8)<|some 38).map D.int++[.int l]):=by
  have:(cut o (some 8)<|some 38).length+1<=16777216:=by lia
  simp[bR,this]
 have gs:bR (.int 1) (.int<|f/128%2)=some (.int s):=by rw[J];simp[bR]
 have F:=wg (h s) u1;obtain⟨m'',e⟩:=aaN (Fi:=gj) (Fc:=gZ) (Fp:=pK) (Fm:=cV) (Fg:=pG) (Ft:=lg) (Fy:=pR) (Fd:=oY) (Fs:=jr) (Fq:=km) (L:=JN) (t:=.fz<|.int 2) h0 h1 h2 h3 U h5 h6 Y (s1:=(cut o (some 8)<|some 38).map D.int) (by
  show Res.ok (D.lst<|cut (o.map D.int) (some 8)<|some 38)=_;unfold cut;simp[List.map_take,List.map_drop]) ga H V gs rfl el eo rfl (K i) Ww t2 (tells_eq<|wg (h s) t1) T sp u2 (tells_eq F) (by
  rcases A with⟨a,b,c⟩|⟨a,⟨G,ds,b,_⟩|⟨n,b,_⟩⟩
  ·exact .inl ⟨a,b,c⟩
  ·exact .inr ⟨a,.inl ⟨G,ds,b⟩⟩
  ·exact .inr ⟨a,.inr ⟨n,b⟩⟩) (λhv S9 hS=>Xa hS λk W=>Ot W hs (hv▸F)<|K r)
 exact⟨false,acG e⟩
end K18
namespace F
open PySem L2 Hd
structure Ci (K:bo)(x:Str)(i:Int):Prop where
 ex:∃t,xI K dA x=some (some (.int i t))
section
variable {K:bo}{x:Str}{i:Int}
theorem ci {t:Tok}(a:xI K dA x=some (some<|.int i t)):Ci K x i:=⟨_,a⟩
theorem Cb.ci {X:Cx}{E:XK}{o:Pos}(B:Cb X.K X.mg X.base)(c:Ci X.K x i)(C:Gl X x:=by rfl)(hd:(x==("__debug__":Str))=false:=by decide):FE X E (.Name x o) (fC<|.int i):=by
 obtain⟨t,a⟩:=c.ex;exact QF C (sM B.X B.N a) (v:=.int i) ⟨t,rfl⟩ (λ_ _=>.int i) hd
end
end F
namespace K18
open PySem L2 Hd F Pk Lw
local macro_rules | `(tactic| trivial)=>`(tactic| first|exact⟨rfl,rfl,rfl,by decide +kernel,rfl,by decide +kernel,by decide +kernel⟩|exact⟨rfl,by decide +kernel,by decide +kernel,by decide +kernel,by decide +kernel⟩)
noncomputable def top (i:Nat):Stmt:=PySem.Challenge.pw_hushduel_k18_what_is_a_plan.main.body.getD i<|.Pass ⟨0,0,0,0⟩
theorem Eu:bP "ValueError" = some (.type "ValueError"):=by decide +kernel
theorem Mt:bP "abs" = some (.builtin "abs"):=by decide +kernel
theorem Ys:bP "all" = some (.builtin "all"):=by decide +kernel
theorem Hq:bP "bool" = some (.type "bool"):=by decide +kernel
theorem uJ:bP "dict" = some (.type "dict"):=by decide +kernel
theorem Wx:bP "int" = some (.type "int"):=by decide +kernel
theorem bY:bP "isinstance" = some (.builtin "isinstance"):=by decide +kernel
theorem fZ:bP "len" = some (.builtin "len"):=by decide +kernel
theorem nG:bP "list" = some (.type "list"):=by decide +kernel
theorem aci:bP "str" = some (.type "str"):=by decide +kernel
theorem Nh:bP "sum" = some (.builtin "sum"):=by decide +kernel
theorem gq:bP "tuple" = some (.type "tuple"):=by decide +kernel
abbrev Eb:Stmt:=top 10
abbrev qM:Stmt:=top 11
abbrev Ml:Stmt:=top 12
abbrev Dr:Stmt:=top 13
abbrev VF:Stmt:=top 14
abbrev Q5:Stmt:=top 16
abbrev RB:Stmt:=top 17
abbrev qz:Stmt:=top 19
abbrev uw:Stmt:=top 20
abbrev vX:Stmt:=top 22
abbrev qI:Stmt:=top 23
abbrev lE:Stmt:=top 24
abbrev K8:Stmt:=top 25
abbrev DX:Stmt:=top 26
abbrev zc:Stmt:=top 27
abbrev jX:Stmt:=top 29
abbrev qj:Stmt:=top 30
abbrev Gu:Stmt:=top 31
abbrev qN:Stmt:=top 32
abbrev Ff:Stmt:=top 34
abbrev ye:Stmt:=top 35
abbrev M3:Stmt:=top 38
abbrev JQ:Stmt:=top 39
abbrev Dq:Stmt:=top 42
abbrev Ln:Stmt:=top 43
abbrev Ly:Stmt:=top 44
abbrev uB:Stmt:=top 46
abbrev vA:Stmt:=top 47
abbrev pM:Stmt:=top 48
abbrev xZ:Stmt:=top 49
abbrev pZ:Stmt:=top 50
abbrev Eo:Stmt:=top 51
abbrev oJ:Stmt:=top 52
abbrev zA:Stmt:=top 53
abbrev wL:Stmt:=top 54
abbrev zR:Stmt:=top 55
abbrev ql:Stmt:=top 56
abbrev rO:Stmt:=top 57
abbrev rK:Stmt:=top 58
abbrev zF:Stmt:=top 59
abbrev yd:Stmt:=top 61
abbrev sG:Stmt:=top 62
abbrev oU:Stmt:=top 63
abbrev vH:Stmt:=top 64
abbrev nq:Stmt:=top 65
abbrev qe:Stmt:=top 66
abbrev wK:Stmt:=top 67
abbrev sV:Stmt:=top 68
abbrev xP:Stmt:=top 69
abbrev Hl:Stmt:=top 70
structure Qs (K:bo):Prop where
 q0:QD K "is_whole" Eb
 q1:QD K "common_divisor" qM
 q2:QD K "lowest" Ml
 q3:QD K "is_ratio" Dr
 q4:QD K "plus" VF
 q5:QD K "under" Q5
 q6:QD K "total" RB
 q7:QD K "branches_of" qz
 q8:QD K "places_of" uw
 q9:QD K "words_at" vX
 q10:QD K "records_behind" qI
 q11:QD K "places_with_records" lE
 q12:QD K "row_at" K8
 q13:QD K "table_of" DX
 q14:QD K "rows_of" zc
 q15:QD K "are_full_shares" jX
 q16:QD K "is_plan_for" qj
 q17:QD K "is_plan" Gu
 q18:QD K "refuse_no_plan" qN
 q19:QD K "weights_for" Ff
 q20:QD K "weights_of" ye
 q21:QD K "comes_of" M3
 q22:QD K "brings" JQ
 q23:QD K "count_spread" Dq
 q24:QD K "with_name" Ln
 q25:QD K "spread" Ly
 q26:QD K "_law_cell_at" uB
 q27:QD K "_law_lowest" vA
 q28:QD K "_law_pool" pM
 q29:QD K "_law_stake" xZ
 q30:QD K "_law_shares" pZ
 q31:QD K "_law_mix" Eo
 q32:QD K "_law_name_number" oJ
 q33:QD K "_law_move" zA
 q34:QD K "_law_built" wL
 q35:QD K "_law_game" zR
 q36:QD K "_law_places" ql
 q37:QD K "_law_table" rO
 q38:QD K "_law_parts" rK
 q39:QD K "_law_plan" zF
 q40:QD K "_law_whole" yd
 q41:QD K "_law_is_ratio" sG
 q42:QD K "_law_good_shares" oU
 q43:QD K "_law_due" vH
 q44:QD K "_law_other_shares" nq
 q45:QD K "_law_spoilt" qe
 q46:QD K "_law_asked" wK
 q47:QD K "_law_refused" sV
 q48:QD K "_law_tells" xP
 q49:QD K "law" Hl
 n0:NO K "ValueError"
 n1:NO K "abs"
 n2:NO K "all"
 n3:NO K "bool"
 n4:NO K "dict"
 n5:NO K "enumerate"
 n6:NO K "int"
 n7:NO K "isinstance"
 n8:NO K "len"
 n9:NO K "list"
 n10:NO K "range"
 n11:NO K "reversed"
 n12:NO K "str"
 n13:NO K "sum"
 n14:NO K "tuple"
 n15:NO K "zip"
 c0:Ck K "NOUGHT" 0 1
 c1:Ck K "ONE" 1 1
 i0:Ci K "MOST_SPREAD" 64
structure ExT (K:bo)(mg:Zp):Prop where
 NoPlan:∃C,mg "NoPlan" = some (.ref C)/\BU K C [.type "ValueError",.type "Exception",.type "BaseException",.type "object"] "ValueError.__new__" = true
structure XcT (K:bo)(mg:Zp):Prop where
 c_DuelError:∃C,mg "DuelError" = some (.ref C)/\∀c D,fL c=true->mg c=some (.ref D)->A2 K (.ref D) (.ref C)=some true
 i_NoName:ICl K mg "NoName" jM
 i_NoNumber:ICl K mg "NoNumber" iz
 i_NoPlan:ICl K mg "NoPlan" lK
 i_NoWord:ICl K mg "NoWord" jN
 i_TooGreat:ICl K mg "TooGreat" iC
 i_ValueError:mg "ValueError" = none/\∀c D b,gQ c=some b->mg c=some (.ref D)->XC K D/\fw K (.ref D) (.type "ValueError")=some b
structure Bt (K:bo)(mg:Zp)(base:Heap):Prop where
 c:Cb K mg base
 q:Qs K
 e:ExT K mg
 x:XcT K mg
theorem Nx:bj ["thing"] ["thing"] (aM Eb):=by trivial
theorem fQ:bj ["first", "second", "great", "small", "rest"] ["first", "second"] (aM qM):=by trivial
theorem CQ:bj ["top", "bottom", "divisor"] ["top", "bottom"] (aM Ml):=by trivial
theorem Nr:bj ["thing"] ["thing"] (aM Dr):=by trivial
theorem adT:bj ["first", "second"] ["first", "second"] (aM VF):=by trivial
theorem Zf:bj ["first", "second"] ["first", "second"] (aM Q5):=by trivial
theorem Ao:bj ["some", "result", "each"] ["some"] (aM RB):=by trivial
theorem Fz:bj ["game"] ["game"] (aM qz):=by trivial
theorem mL:bj ["game", "places", "waiting", "place", "behind"] ["game"] (aM uw):=by trivial
theorem M6:bj ["move"] ["move"] (aM vX):=by trivial
theorem qT:bj ["place", "records", "number", "pair"] ["place", "records", "number"] (aM qI):=by trivial
theorem du:bj ["game", "known", "found", "way", "place", "number"] ["game"] (aM lE):=by trivial
theorem Xz:bj ["move", "records"] ["move", "records"] (aM K8):=by trivial
theorem oM:bj ["game", "rows", "way", "place", "records"] ["game"] (aM DX):=by trivial
theorem Ug:bj ["game", "side"] ["game", "side"] (aM zc):=by trivial
theorem xq:bj ["thing", "count"] ["thing", "count"] (aM jX):=by trivial
theorem Ey:bj ["rows", "thing"] ["rows", "thing"] (aM qj):=by trivial
theorem Tn:bj ["game", "side", "thing"] ["game", "side", "thing"] (aM Gu):=by trivial
theorem yN:bj ["game", "side", "thing"] ["game", "side", "thing"] (aM qN):=by trivial
theorem IW:bj ["game", "side", "plan"] ["game", "side", "plan"] (aM ye):=by trivial
theorem Vp:bj ["game", "one", "two"] ["game", "one", "two"] (aM JQ):=by trivial
theorem yg:bj ["game", "side", "plan", "mix", "row"] ["game", "side", "plan"] (aM Ly):=by trivial
theorem CZ:bj ["_law_script", "_law_k"] ["_law_script", "_law_k"] (aM uB):=by trivial
theorem mH:bj ["_law_top", "_law_bottom", "_law_one", "_law_other"] ["_law_top", "_law_bottom"] (aM vA):=by trivial
theorem dU:bj ["_law_cell", "_law_turn", "_law_signs", "_law_size", "_law_places_here", "_law_k", "_law_word", "_law_at", "_law_found", "_law_sign"] ["_law_cell", "_law_turn"] (aM pM):=by trivial
theorem HQ:bj ["_law_number"] ["_law_number"] (aM xZ):=by trivial
theorem mj:bj ["_law_number", "_law_many", "_law_parts_here", "_law_k"] ["_law_number", "_law_many"] (aM pZ):=by trivial
theorem NB:bj ["_law_cell", "_law_k"] ["_law_cell", "_law_k"] (aM Eo):=by trivial
theorem oh:bj ["_law_state", "_law_side", "_law_record", "_law_many", "_law_bit", "_law_key", "%1", "%2"] ["_law_state", "_law_side", "_law_record", "_law_many", "_law_bit"] (aM oJ):=by trivial
theorem fH:bj ["_law_cells", "_law_state", "_law_depth", "_law_records", "_law_draw", "_law_side", "_law_many", "_law_number", "_law_pool_here", "_law_seen", "_law_ways", "_law_k", "_law_word", "_law_others", "%1", "%2"] ["_law_cells", "_law_state", "_law_depth", "_law_records", "_law_draw"] (aM zA):=by trivial
theorem gC:bj ["_law_cells", "_law_state", "_law_depth", "_law_records", "_law_at", "_law_own", "_law_draw", "_law_many", "_law_ways", "_law_share", "%1", "%2"] ["_law_cells", "_law_state", "_law_depth", "_law_records"] (aM wL):=by trivial
theorem zx:bj ["_law_cells", "_law_turn", "_law_depth", "_law_room", "_law_pool_here", "_law_state", "%1", "%2"] ["_law_cells", "_law_turn", "_law_depth", "_law_room", "_law_pool_here"] (aM zR):=by trivial
theorem cX:bj ["_law_game_here", "_law_found", "_law_waiting", "_law_way", "_law_place", "_law_records", "_law_parts_here", "_law_word", "_law_part", "_law_others", "_law_k"] ["_law_game_here"] (aM ql):=by trivial
theorem iy:bj ["_law_game_here", "_law_rows", "_law_known", "_law_way", "_law_place", "_law_records", "_law_words"] ["_law_game_here"] (aM rO):=by trivial
theorem nP:bj ["_law_number", "_law_many", "_law_parts_here", "_law_k"] ["_law_number", "_law_many"] (aM rK):=by trivial
theorem uv:bj ["_law_rows", "_law_side", "_law_cell", "_law_plan_here", "_law_k"] ["_law_rows", "_law_side", "_law_cell"] (aM zF):=by trivial
theorem Iw:bj ["_law_found"] ["_law_found"] (aM yd):=by trivial
theorem Ah:bj ["_law_found"] ["_law_found"] (aM sG):=by trivial
theorem dY:bj ["_law_found", "_law_many", "_law_top", "_law_bottom", "_law_share"] ["_law_found", "_law_many"] (aM oU):=by trivial
theorem v7:bj ["_law_rows", "_law_side", "_law_thing", "_law_mine", "_law_row"] ["_law_rows", "_law_side", "_law_thing"] (aM vH):=by trivial
theorem dg:bj ["_law_shares_here", "_law_cell", "_law_many", "_law_at", "_law_some", "_law_one", "_law_other", "_law_last"] ["_law_shares_here", "_law_cell"] (aM nq):=by trivial
theorem jq:bj ["_law_rows", "_law_side", "_law_plan_here", "_law_cell", "_law_pool_here", "_law_names", "_law_things", "_law_found", "_law_name", "%1"] ["_law_rows", "_law_side", "_law_plan_here", "_law_cell", "_law_pool_here"] (aM qe):=by trivial
theorem Hs:bj ["_law_way", "_law_game_here", "_law_side", "_law_thing", "_law_other"] ["_law_way", "_law_game_here", "_law_side", "_law_thing", "_law_other"] (aM wK):=by trivial
theorem jl:bj ["_law_way", "_law_game_here", "_law_side", "_law_thing", "_law_other", "_law_kinds", "e", "_law_strange"] ["_law_way", "_law_game_here", "_law_side", "_law_thing", "_law_other"] (aM sV):=by trivial
theorem xg:bj ["_law_game_here", "_law_side", "_law_thing", "_law_due_here", "_law_found"] ["_law_game_here", "_law_side", "_law_thing", "_law_due_here"] (aM xP):=by trivial
theorem sH:bj ["_law_script", "_law_pool_here", "_law_turn", "_law_game_here", "_law_rows", "_law_side", "_law_plan_here", "_law_other", "_law_handed", "_law_bad", "_law_due_here", "_law_k"] ["_law_script"] (aM Hl):=by trivial
section
variable {P:bE}{w:eI}{K:bo}{mg:Zp}{base:Heap}(B:Bt K mg base)
include B
theorem zK:FF P w K mg base 1 "is_whole" ["thing"] rM:=B.2.q0.ff B.1 λ_ _ a=>
 bG a Nx λ_ _ _ _ _ _ b=>by
 unfold Ek Ce;exact(aJ<|bx<|vP (mW (x:="") (aq 0) rfl (B.1.no B.2.n7) bY rfl (B.1.no B.2.n6) Wx)<|wj<|Nt<|mW (x:="") (aq 0) rfl (B.1.no B.2.n7) bY rfl (B.1.no B.2.n3) Hq)
theorem pJ:FF P w K mg base 1 "common_divisor" ["first", "second"] gV:=B.2.q1.ff B.1 λ_ _ b=>
 bG b fQ λ_ _ _ _ _ _ c=>by
 have a:=c.units;unfold lL lO;exact(aA (cu fQ.nd<|bV yx rfl (B.1.no B.2.n1) Mt<|aN (aq 0) aR)
  (aA (cu fQ.nd<|bV yx rfl (B.1.no B.2.n1) Mt<|aN (aq 1) aR)
  (aA (yj ng (bK (rN a) (aq 3) (ao au)<|bz _)
  (aA (cu fQ.nd<|aF aW (aq 2)<|aq 3)
  (aA (cu fQ.nd<|aD 3)
  (aJ<|cu fQ.nd<|aD 4))))
  (aJ<|bx<|aD 2))))
theorem U3:FF P w K mg base 2 "lowest" ["top", "bottom"] qL:=B.2.q2.ff B.1 λ_ _ c=>
 bG c CQ λ_ _ _ _ _ _ a=>by
 have b:=a.units;unfold wJ yl;exact(aA (cu CQ.nd<|bD (pJ B) a aQ<|ak (aD 0)<|ak (aD 1) aC)
  (aA (cU (bK (yK b) (aq 1) (ao au)<|bz _)
  (aJ<|cu CQ.nd<|J4 wI<|aq 2)
  bA)
  (aJ<|bx<|bB<|ak (aF cM (aq 0)<|aq 2)<|ak (aF cM (aq 1)<|aq 2) aC)))
theorem KQ:FF P w K mg base 2 "is_ratio" ["thing"] jE:=B.2.q3.ff B.1 λ_ _ c=>
 bG c Nr λ_ _ _ _ _ _ a=>by
 have b:=a.units;unfold nZ ou;exact(aA (cU (w6<|o6 (iY<|gP<|mW (x:="") (aq 0) rfl (B.1.no B.2.n7) bY rfl (B.1.no B.2.n14) gq)<|ni<|bK (rN b) (ao<|bV cH rfl (B.1.no B.2.n8) fZ<|aN (aq 0) aR) (ao au)<|bz _)
  (aJ<|bx iI)
  bA)
  (aA (cU (w6<|o6 (iY<|gP<|bD (zK B) a aQ<|ak (aO (aq 0)<|ao au) aC)<|ni<|iY<|gP<|bD (zK B) a aQ<|ak (aO (aq 0)<|ao au) aC)
  (aJ<|bx iI)
  bA)
  (aJ<|bx<|vP (lQ Oh (ao<|aO (aq 0)<|ao au) (ao au)<|bz _)<|wj<|lQ (cZ b) (ao<|bD (pJ B) a aQ<|ak (aO (aq 0)<|ao au)<|ak (aO (aq 0)<|ao au) aC) (ao au)<|bz _)))
theorem abn:FF P w K mg base 3 "plus" ["first", "second"] Jd:=B.2.q4.ff B.1 λ_ _ a=>
 bG a adT λ_ _ _ _ _ _ b=>by
 unfold Nv Mr;exact(aJ<|bx<|bD (U3 B) b aQ<|ak (aF bM (ao<|aF dC (ao<|aO (aq 0)<|ao au)<|ao<|aO (aq 1)<|ao au)<|ao<|aF dC (ao<|aO (aq 1)<|ao au)<|ao<|aO (aq 0)<|ao au)<|ak (aF dC (ao<|aO (aq 0)<|ao au)<|ao<|aO (aq 1)<|ao au) aC)
theorem XD:FF P w K mg base 1 "under" ["first", "second"] Bj:=B.2.q5.ff B.1 λ_ _ b=>
 bG b Zf λ_ _ _ _ _ _ c=>by
 have a:=c.units;unfold Jo Jg;exact(aJ<|bx<|lQ (yK a) (ao<|aF dC (ao<|aO (aq 0)<|ao au)<|ao<|aO (aq 1)<|ao au) (ao<|aF dC (ao<|aO (aq 1)<|ao au)<|ao<|aO (aq 0)<|ao au)<|bz _)
theorem Yl:FF P w K mg base 4 "total" ["some"] Av:=B.2.q6.ff B.1 λ_ _ a=>
 bG a Ao λ_ _ _ _ _ _ b=>by
 unfold Jf JK;exact(aA (cu Ao.nd<|B.1.cn B.2.c0)
  (aA (lF (rB<|aD 0) (cT Ao.nd)
  (aJ<|cu Ao.nd<|bD (abn B) b aQ<|ak (aD 1)<|ak (aD 2) aC))
  (aJ<|bx<|aD 1)))
theorem tL:FF P w K mg base 1 "branches_of" ["game"] jx:=B.2.q7.ff B.1 λ_ _ b=>
 bG b Fz λ_ _ _ _ _ _ c=>by
 have a:=c.units;unfold uY iR;exact(aA (cU (bK (cZ a) (ao<|aO (aq 0)<|ao au) (ao cg)<|bz _)
  (aJ<|uK<|fB aC)
  bA)
  (aJ<|uK<|lW (aM qz) ["lead", "branch"] [] 2 [] rfl (by trivial) .nil (yO<|wC<|aO (aq 0)<|ao<|J4 wI<|ao au) (λ_ _ _ _ _ _=>(o8 rfl<|cJ (cT<|nds rfl)<|cJ (cT<|nds rfl) kI)) (λ_ _ _ _ _ _=>jk) λ_ _ _ _ _ _=>(aD 1)))
theorem Jc:FF P w K mg base 2 "places_of" ["game"] pI:=B.2.q8.ff B.1 λ_ _ a=>
 bG a mL λ_ _ _ _ _ _ b=>by
 unfold zM pX;exact(aA (kZ mL.nd<|fB aC)
  (aA (kZ mL.nd<|fB<|ak (bB<|ak (bB aC)<|ak (aD 0) aC) aC)
  (aA (yj ng (bK yW (ao<|bV cH rfl (B.1.no B.2.n8) fZ<|aN (aq 2) aR) (ao au)<|bz _)
  (aA (S8 3 2 mL.nd rfl<|eR rfl)
  (aA (iU 1<|aD 3)
  (aA (vK (i:=4) (aM uw) ["number", "branch", "place"] ["place"] 2 [3] mL.nd rfl (fN rfl) rfl (by trivial) (.cons rfl .nil) (U9 rfl (B.1.no B.2.n5)<|aN (ao<|bD (tL B) b aQ<|ak (aO (aq 3)<|ao au) aC) aR) (λ_ _ _ _ _ _=>(o8 rfl<|cJ (cT<|nds rfl)<|cJ (cT<|nds rfl) kI)) (λ_ _ _ _ _ _=>jk) λ_ _ _ _ _ _=>(bB<|ak (aF bM (ao<|aO (aq 2)<|ao au)<|ao<|bB<|ak (aD 0) aC)<|ak (aD 1) aC))
  (aJ<|Tv 2<|aa3 rfl rfl (B.1.no B.2.n9) rfl (B.1.no B.2.n11)<|aN (aq 4) aR)))))
  (aJ<|mJ 1))))
theorem Ky:FF P w K mg base 1 "words_at" ["move"] rT:=B.2.q9.ff B.1 λ_ _ a=>
 bG a M6 λ_ _ _ _ _ _ b=>by
 unfold vQ wu;exact(aJ<|bx<|gM fJ rfl (B.1.no B.2.n14) gq<|aN (ao<|f9<|lW (aM vX) ["word", "branch"] [] 2 [] rfl (by trivial) .nil (yO<|wC<|aO (aq 0)<|ao au) (λ_ _ _ _ _ _=>(o8 rfl<|cJ (cT<|nds rfl)<|cJ (cT<|nds rfl) kI)) (λ_ _ _ _ _ _=>jk) λ_ _ _ _ _ _=>(aD 0)) aR)
theorem xJ:FF P w K mg base 1 "records_behind" ["place", "records", "number"] fO:=B.2.q10.ff B.1 λ_ _ b=>
 bG b qT λ_ _ _ _ _ _ c=>by
 have a:=c.units;unfold gR gY;exact(aA (cU (bK (rN a) (ao<|aO (aq 0)<|ao au) (ao cg)<|bz _)
  (aJ<|bx<|aD 1)
  bA)
  (aA (cu qT.nd<|bB<|ak (aO (aq 0)<|ao au)<|ak (aO (ao<|aO (ao<|aO (aq 0)<|ao au)<|aq 2)<|ao au) aC)
  (aA (cU (bK (cZ a) (ao<|aO (aq 0)<|ao au) (ao au)<|bz _)
  (aJ<|bx<|bB<|ak (aF bM (ao<|aO (aq 1)<|ao au)<|ao<|bB<|ak (aD 3) aC)<|ak (aO (aq 1)<|ao au) aC)
  bA)
  (aJ<|bx<|bB<|ak (aO (aq 1)<|ao au)<|ak (aF bM (ao<|aO (aq 1)<|ao au)<|ao<|bB<|ak (aD 3) aC) aC))))
theorem rP:FF P w K mg base 3 "places_with_records" ["game"] fW:=B.2.q11.ff B.1 λ_ _ b=>
 bG b du λ_ _ _ _ _ _ a=>by
 unfold lG fY;refine Wr.out ?_;exact(BW (abO (i:=1) du.nd rfl (fN rfl)<|Wr.mk<|V0 a (bB aC)<|bB<|ak (bB aC)<|ak (bB aC) aC)<|BW (abO (i:=2) du.nd rfl (fN rfl)<|afr<|Wr.mk aC)<|BW (Wr.mk<|lF (rB<|bD (Jc B) a aQ<|ak (aD 0) aC) (o8 rfl<|cJ (cT du.nd)<|cJ (cT du.nd) kI)<|Wr.out<|BW (afy 2<|afS<|W0 (Wr.mk<|aD 3)<|W0 (Wr.mk<|aD 4)<|W0 (Wr.mk<|Jq a (aq 1) (aq 3) λ_ _=>rfl)<|Wr.mk aC)<|Yr<|Wr.mk<|lF (jR rfl (B.1.no B.2.n10)<|aN (ao<|bV cH rfl (B.1.no B.2.n8) fZ<|aN (ao<|bD (tL B) a aQ<|ak (aD 4) aC) aR) aR) (cT du.nd)<|Wr.out<|Yr<|Wr.mk<|Q9 1 a (bD (xJ B) a aQ<|ak (aD 4)<|ak (Jq a (aq 1) (aq 3) λ_ _=>rfl)<|ak (aD 5) aC)<|aF bM (aq 3)<|ao<|bB<|ak (aD 5) aC)<|Yr<|Wr.mk<|mJ 2)
theorem Ui:FF P w K mg base 2 "row_at" ["move", "records"] uc:=B.2.q12.ff B.1 λ_ _ a=>
 bG a Xz λ_ _ _ _ _ _ b=>by
 unfold xO wM;exact(aJ<|bx<|bB<|ak (aO (aq 0)<|ao au)<|ak (aO (aq 0)<|ao au)<|ak (bD (Ky B) b aQ<|ak (aD 0) aC)<|ak (aO (aq 1)<|ao<|aF dO (ao<|aO (aq 0)<|ao au)<|ao au) aC)
theorem JT:FF P w K mg base 4 "table_of" ["game"] vJ:=B.2.q13.ff B.1 λ_ _ c=>
 bG c oM λ_ _ _ _ _ _ a=>by
 have b:=a.units;unfold Eh qX;exact(aA (kZ oM.nd JL)
  (aA (lF (rB<|bD (rP B) a aQ<|ak (aD 0) aC) (o8 rfl<|cJ (cT oM.nd)<|cJ (cT oM.nd)<|cJ (cT oM.nd) kI)
  (aJ (cU (bK (cZ b) (ao<|aO (aq 3)<|ao au) (ao cg)<|bz _)
  (aJ<|acM 1 a (bB<|ak (aO (aq 3)<|ao au)<|ak (aO (aq 3)<|ao au) aC) (bD (Ui B) a aQ<|ak (aD 3)<|ak (aD 4) aC) ⟨rfl,rfl,rfl,rfl⟩)
  bA)))
  (aJ<|uK<|YF rfl rfl (B.1.no B.2.n9)<|aq 1)))
theorem vR:FF P w K mg base 5 "rows_of" ["game", "side"] lR:=B.2.q14.ff B.1 λ_ _ c=>
 bG c Ug λ_ _ _ _ _ _ a=>by
 have b:=a.units;unfold yZ yE;exact(aJ<|uK<|lW (aM zc) ["row", "side"] ["side"] 1 [1] rfl (by trivial) (.cons rfl .nil) (oZ<|ao<|bD (JT B) a aQ<|ak (aD 0) aC) (λ_ _ _ _ _ _=>(cT<|nds rfl)) (λ_ _ _ _ _ _=>(Bx<|bK (cZ b) (ao<|aO (aq 0)<|ao au) (aq 1)<|bz _)) λ_ _ _ _ _ _=>(aD 0))
theorem vU:FF P w K mg base 5 "are_full_shares" ["thing", "count"] cF:=B.2.q15.ff B.1 λ_ _ c=>
 bG c xq λ_ _ _ _ _ _ a=>by
 have b:=a.units;unfold kY cR;exact(aA (cU (w6<|o6 (iY<|gP<|mW (x:="") (aq 0) rfl (B.1.no B.2.n7) bY rfl (B.1.no B.2.n14) gq)<|ni<|bK (rN b) (ao<|bV cH rfl (B.1.no B.2.n8) fZ<|aN (aq 0) aR) (aq 1)<|bz _)
  (aJ<|bx iI)
  bA)
  (aA (cU (iY<|gP<|bV (Gn rfl) rfl (B.1.no B.2.n2) Ys<|aN (ao<|f9<|lW (aM jX) ["share"] [] 1 [] rfl (by trivial) .nil (yO<|wC<|aD 0) (λ_ _ _ _ _ _=>(cT<|nds rfl)) (λ_ _ _ _ _ _=>jk) λ_ _ _ _ _ _=>(vP (bD (KQ B) a Ku<|ak (aD 0) aC)<|wj<|Nt<|bD (XD B) a Ku<|ak (aD 0)<|ak (B.1.cn B.2.c0) aC)) aR)
  (aJ<|bx iI)
  bA)
  (aJ<|bx<|lQ (cZ b) (ao<|bD (Yl B) a aQ<|ak (f9<|jQ oR rfl (B.1.no B.2.n9) nG<|aN (aq 0) aR) aC) (ao<|B.1.cn B.2.c1)<|bz _)))
theorem Dz:FF P w K mg base 6 "is_plan_for" ["rows", "thing"] gD:=B.2.q16.ff B.1 λ_ _ c=>
 bG c Ey λ_ _ _ _ _ _ a=>by
 have b:=a.units;unfold qG dw;exact(aA (cU (w6<|o6 (iY<|gP<|mW (x:="") (aq 1) rfl (B.1.no B.2.n7) bY rfl (B.1.no B.2.n4) uJ)<|ni<|bK (rN b) (ao<|bV cH rfl (B.1.no B.2.n8) fZ<|aN (aq 1) aR) (ao<|bV cH rfl (B.1.no B.2.n8) fZ<|aN (aq 0) aR)<|bz _)
  (aJ<|bx iI)
  bA)
  (aJ<|bx<|bV (Gn rfl) rfl (B.1.no B.2.n2) Ys<|aN (ao<|f9<|lW (aM qj) ["row", "thing"] ["thing"] 1 [1] rfl (by trivial) (.cons rfl .nil) (oZ<|aq 0) (λ_ _ _ _ _ _=>(cT<|nds rfl)) (λ_ _ _ _ _ _=>jk) λ_ _ _ _ _ _=>(vP (lQ (adZ a) (ao<|aO (aq 0)<|ao au) (aq 1)<|by with_unfolding_all rfl)<|wj<|bD (vU B) a Ku<|ak (fV a (aq 1) (ao<|aO (aq 0)<|ao au) λ_ _=>rfl)<|ak (bV cH rfl (B.1.no B.2.n8) fZ<|aN (ao<|aO (aq 0)<|ao au) aR) aC)) aR))
theorem oG:FF P w K mg base 7 "is_plan" ["game", "side", "thing"] gj:=B.2.q17.ff B.1 λ_ _ b=>
 bG b Tn λ_ _ _ _ _ _ a=>by
 unfold yQ yH;exact(aJ<|bx<|bD (Dz B) a aQ<|ak (bD (vR B) a aQ<|ak (aD 0)<|ak (aD 1) aC)<|ak (aD 2) aC)
theorem jd:FF P w K mg base 8 "refuse_no_plan" ["game", "side", "thing"] fP:=B.2.q18.ff B.1 λ_ _ b=>
 bG b yN λ_ _ _ _ _ _ a=>by
 unfold qR jm;exact(aJ (cU (iY<|gP<|bD (oG B) a aQ<|ak (aD 0)<|ak (aD 1)<|ak (aD 2) aC)
  (aJ<|TF B.3.NoPlan rfl a.hd (afd<|U0<|Rg cg<|Rg (acV<|aq 1) ac5) λ_ _ _ _ _ _ _ _ I mk q=>X3 I mk q)
  bA))
theorem Cp:FF P w K mg base 1 "weights_for" ["rows", "plan"] vD:=B.2.q19.ff B.1 λ_ _ _=>RN
theorem K7:FF P w K mg base 1 "comes_of" ["place", "plans"] Ed:=B.2.q21.ff B.1 λ_ _ _=>RN
theorem Af:FF P w K mg base 1 "count_spread" ["plan"] tW:=B.2.q23.ff B.1 λ_ _ _=>RN
theorem Ji:FF P w K mg base 1 "with_name" ["mix", "seen", "shares"] zX:=B.2.q24.ff B.1 λ_ _ _=>RN
theorem Ew:FF P w K mg base 9 "weights_of" ["game", "side", "plan"] xG:=B.2.q20.ff B.1 λ_ _ b=>
 bG b IW λ_ _ _ _ _ _ a=>by
 unfold xU nO;exact(aA (Ay<|bD (jd B) a aQ<|ak (aD 0)<|ak (aD 1)<|ak (aD 2) aC)
  (aJ<|bx<|bD (Cp B) a aQ<|ak (bD (vR B) a aQ<|ak (aD 0)<|ak (aD 1) aC)<|ak (aD 2) aC))
theorem Gi:FF P w K mg base 9 "brings" ["game", "one", "two"] KZ:=B.2.q22.ff B.1 λ_ _ b=>
 bG b Vp λ_ _ _ _ _ _ a=>by
 unfold Kc qP;exact(aA (Ay<|bD (jd B) a aQ<|ak (aD 0)<|ak au<|ak (aD 1) aC)
  (aA (Ay<|bD (jd B) a aQ<|ak (aD 0)<|ak au<|ak (aD 2) aC)
  (aJ<|bx<|bD (K7 B) a aQ<|ak (aD 0)<|ak (f9<|Zg (oF au (aD 1)<|oF au (aD 2) Qx) rfl rfl (λz=>nomatch z)<|by decide) aC)))
theorem U6:FF P w K mg base 9 "spread" ["game", "side", "plan"] Lk:=B.2.q25.ff B.1 λ_ _ b=>
 bG b yg λ_ _ _ _ _ _ a=>by
 unfold Kz wR;exact(aA (Ay<|bD (jd B) a aQ<|ak (aD 0)<|ak (aD 1)<|ak (aD 2) aC)
  (aA (cU (bK yW (ao<|bD (Af B) a aQ<|ak (aD 2) aC) (ao<|B.1.ci B.2.i0)<|bz _)
  (aJ Wf)
  bA)
  (aA (cu yg.nd<|f9<|fB<|ak (bB<|ak (B.1.cn B.2.c1)<|ak (f9 Hw) aC) aC)
  (aA (lF (rB<|bD (vR B) a aQ<|ak (aD 0)<|ak (aD 1) aC) (cT yg.nd)
  (aJ<|cu yg.nd<|bD (Ji B) a aQ<|ak (aD 3)<|ak (aO (aq 4)<|ao au)<|ak (aO (aq 2)<|ao<|aO (aq 4)<|ao au) aC))
  (aJ<|bx<|aD 3)))))
theorem eG:FF P w K mg base 1 "_law_cell_at" ["_law_script", "_law_k"] gZ:=B.2.q26.ff B.1 λ_ _ b=>
 bG b CZ λ_ _ _ _ _ _ c=>by
 have a:=c.units;unfold kJ kh;exact(aA (cU (bK (yK a) (aq 1) (ao<|bV cH rfl (B.1.no B.2.n8) fZ<|aN (aq 0) aR)<|bz _)
  (aJ<|bx<|aO (aq 0)<|aq 1)
  bA)
  (aJ<|bx au))
theorem fU:FF P w K mg base 1 "_law_lowest" ["_law_top", "_law_bottom"] bT:=B.2.q27.ff B.1 λ_ _ b=>
 bG b mH λ_ _ _ _ _ _ c=>by
 have a:=c.units;unfold qy qu;exact(aA (cu mH.nd<|bV yx rfl (B.1.no B.2.n1) Mt<|aN (aq 0) aR)
  (aA (cu mH.nd<|aD 1)
  (aA (yj ng (bK (rN a) (aq 3) (ao au)<|bz _)
  (aJ<|acu (i:=2) (j:=3) rfl mH.nd rfl rfl (by decide) rfl rfl<|ak (aD 3)<|ak (aF aW (aq 2)<|aq 3) aC))
  (aJ<|bx<|bB<|ak (aF cM (aq 0)<|aq 2)<|ak (aF cM (aq 1)<|aq 2) aC))))
theorem JM:FF P w K mg base 1 "_law_pool" ["_law_cell", "_law_turn"] pK:=B.2.q28.ff B.1 λ_ _ b=>
 bG b dU λ_ _ _ _ _ _ c=>by
 have a:=c.units;unfold zP jU;exact(aA (cu dU.nd cg)
  (aA (cu dU.nd<|aF bM (ao au)<|ao<|aF aW (aq 0)<|ao au)
  (aA (cu dU.nd<|aF cM (aq 0)<|ao au)
  (aA (kZ dU.nd<|fB aC)
  (aA (lF (jR rfl (B.1.no B.2.n10)<|aN (aq 3) aR) (cT dU.nd)
  (aA (iU 4<|aF aW (aq 0)<|ao au)
  (aJ<|cu dU.nd<|aF cM (aq 0)<|ao au)))
  (aA (cu dU.nd<|aeV PySem.F.plainAttrs_str PySem.F.slot_str_join PySem.F.type_str_join V2 (ao cg)<|aN (ao<|f9<|lW (aM pM) ["_law_k", "_law_signs"] ["_law_signs"] 1 [2] rfl (by trivial) (.cons rfl .nil) (oZ<|aq 4) (λ_ _ _ _ _ _=>(cT<|nds rfl)) (λ_ _ _ _ _ _=>jk) λ_ _ _ _ _ _=>(aO (aq 1)<|aq 0)) aR)
  (aA (cU (bK (cZ a) (ao<|aF aW (ao<|aF cM (aq 1)<|ao au)<|ao au) (ao au)<|bz _)
  (aJ<|uK<|lW (aM pM) ["_law_k", "_law_word"] ["_law_word"] 1 [6] rfl (by trivial) (.cons rfl .nil) (yO<|T7 rfl (B.1.no B.2.n10)<|aN (ao au)<|aN (ao au) aR) (λ_ _ _ _ _ _=>(cT<|nds rfl)) (λ_ _ _ _ _ _=>jk) λ_ _ _ _ _ _=>(ur (ao<|aF Xj (ao au)<|aq 1) Be<|uP<|aq 0))
  bA)
  (aA (cu dU.nd<|aF aW (aq 1)<|aq 3)
  (aA (kZ dU.nd<|fB aC)
  (aA (lF (jR rfl (B.1.no B.2.n10)<|aN (ao au) aR) (cT dU.nd)
  (aA (cu dU.nd<|aO (aq 2)<|ao<|aF aW (ao<|aF bM (ao<|aO (aq 4)<|aq 7)<|ao<|aF dC (ao au)<|aq 5)<|ao au)
  (aJ<|iU 8<|aF bM (ao<|aF bM (ao<|ur (aq 6) Be<|uP<|aq 7)<|aq 9)<|ao<|ur (aq 6) (uP<|ao<|aF bM (aq 7)<|ao au) Be)))
  (aJ<|mJ 8)))))))))))
theorem qw:FF P w K mg base 2 "_law_stake" ["_law_number"] cQ:=B.2.q29.ff B.1 λ_ _ c=>
 bG c HQ λ_ _ _ _ _ _ a=>by
 have b:=a.units;unfold nM nU;exact(aA (cU (bK (cZ b) (ao<|aF aW (aq 0)<|ao au) (ao au)<|bz _)
  (aJ<|bx<|bD (fU B) a aQ<|ak (aF dO (ao<|aF aW (ao<|aF dC (aq 0)<|ao au)<|ao au)<|ao au)<|ak (aF bM (ao au)<|ao<|aF aW (ao<|aF cM (aq 0)<|ao au)<|ao au) aC)
  bA)
  (aJ<|bx<|bD (fU B) a aQ<|ak (aF dO (ao<|aF aW (ao<|aF cM (aq 0)<|ao au)<|ao au)<|ao au)<|ak (aF bM (ao au)<|ao<|aF aW (ao<|aF cM (aq 0)<|ao au)<|ao au) aC))
theorem BL:FF P w K mg base 2 "_law_shares" ["_law_number", "_law_many"] my:=B.2.q30.ff B.1 λ_ _ a=>
 bG a mj λ_ _ _ _ _ _ b=>by
 unfold vB lY;exact(aA (kZ mj.nd<|fB aC)
  (aA (lF (jR rfl (B.1.no B.2.n10)<|aN (aq 1) aR) (cT mj.nd)
  (aA (iU 2<|aF bM (ao<|aF bM (ao au)<|ao<|aF aW (aq 0)<|ao au)<|ao<|aF dC (ao<|aF cM (ao<|aF aW (ao<|aF cM (aq 0)<|ao au)<|ao au)<|ao au)<|ao<|aF aW (ao<|aF cM (aq 0)<|ao au)<|ao au)
  (aJ<|cu mj.nd<|aF aW (ao<|aF dC (aq 0)<|ao au)<|ao au)))
  (aJ<|uK<|lW (aM pZ) ["_law_part", "_law_parts_here"] ["_law_parts_here"] 1 [2] rfl (by trivial) (.cons rfl .nil) (oZ<|aq 2) (λ_ _ _ _ _ _=>(cT<|nds rfl)) (λ_ _ _ _ _ _=>jk) λ_ _ _ _ _ _=>(bD (fU B) b Ku<|ak (aD 0)<|ak (bV (yz rfl) rfl (B.1.no B.2.n13) Nh<|aN (aq 1) aR) aC))))
theorem mU:FF P w K mg base 1 "_law_mix" ["_law_cell", "_law_k"] cV:=B.2.q31.ff B.1 λ_ _ a=>
 bG a NB λ_ _ _ _ _ _ b=>by
 unfold vW vG;exact(aJ<|bx<|aF aW (ao<|aF dC (ao<|aF bM (ao<|aF aW (aq 0)<|ao au)<|ao au)<|ao<|aF bM (ao au)<|ao<|aF dC (ao au)<|aq 1)<|ao au)
theorem uR:FST P w K mg base 1 "_law_name_number" ["_law_state", "_law_side", "_law_record", "_law_many", "_law_bit"] 0 dX:=B.2.q32.ff B.1 λ_ _ b=>
 Dv 0 b oh (by decide) λ_ _ _ _ _ _ a=>by
 unfold iu iD;exact(aA (cu oh.nd<|bB<|ak (aD 1)<|ak (aD 2)<|ak (aD 3)<|ak (aD 4) aC)
  (aA (cU (bK (QS a) (aq 5) (HR 6<|fV a (aq 0) (ao cg) λ_ _=>rfl)<|by with_unfolding_all rfl)
  (aA (N8 6 a (aO (HR 7<|fV a (aq 0) (ao cg) λ_ _=>rfl)<|ao<|aF dO (aq 1)<|ao au) (fV a (aq 0) (ao cg) λ_ _=>rfl)<|aD 5)
  (aJ<|Lg 7 (aF bM (ao<|aO (HR 7<|fV a (aq 0) (ao cg) λ_ _=>rfl)<|ao<|aF dO (aq 1)<|ao au)<|ao au) (fV a (aq 0) (ao cg) λ_ _=>rfl)<|aF dO (aq 1)<|ao au))
  bA)
  (aJ<|bx<|Jq a (HR 6<|fV a (aq 0) (ao cg) λ_ _=>rfl) (aq 5) λ_ _=>rfl)))
theorem Hy (k:Nat)(C:2<=k)(Φb:List D->D->Addr×D->Addr×D->Res (D×D×D×D))(o:FST P w K mg base k "_law_built" ["_law_cells", "_law_state", "_law_depth", "_law_records"] 1 Φb):FST P w K mg base (k+1) "_law_move" ["_law_cells", "_law_state", "_law_depth", "_law_records", "_law_draw"] 1 (mK Φb):=B.2.q33.ff B.1 λ_ _ b=>
 Dv 1 b fH (by decide) λ_ _ _ _ _ _ a=>by
 unfold jO;exact(aA (cu fH.nd<|aF bM (ao au)<|ao<|aF aW (aq 4)<|ao au)
  (aA (cu fH.nd<|aF bM (ao au)<|ao<|aF aW (ao<|aF cM (aq 4)<|ao au)<|ao au)
  (aA (aaI (i:=7) fH.nd rfl (fN rfl)<|Ma 1 14 15 (uR B) a aQ (ue (i:=1)<|ak (aD 5)<|ak (aO (aq 3)<|ao<|aF dO (aq 5)<|ao au)<|ak (aD 6)<|ak (aF aW (ao<|aF cM (aq 4)<|ao au)<|ao au) aC) (hk:=by omega))
  (aA (cU (bK Oh (aq 7) (ao au)<|bz _)
  (aJ<|bx<|bB<|ak cg<|ak (bD (qw B) a aQ (ak (aD 4) aC) (hk:=by omega)) aC)
  bA)
  (aA (rE 1 a (aF dO (ao<|fV a (aq 1) (ao cg) λ_ _=>rfl)<|aq 6) cg)
  (aA (cu fH.nd<|fV a (aq 1) (ao cg) λ_ _=>rfl)
  (aA (cu fH.nd<|aO (aq 8)<|ao<|aF aW (ao<|aF bM (aq 7)<|ao<|fV a (aq 1) (ao cg) λ_ _=>rfl)<|ao au)
  (aA (kZ fH.nd<|fB aC)
  (aA (lF (jR rfl (B.1.no B.2.n10)<|aN (aq 6) aR) (cT fH.nd)
  (aA (cu fH.nd<|aO (aq 8)<|ao<|aF aW (ao<|aF bM (ao<|aF bM (ao<|aF dC (ao au)<|aq 7)<|aq 11)<|ao<|aF cM (ao<|fV a (aq 1) (ao cg) λ_ _=>rfl)<|ao au)<|ao au)
  (aA (kZ fH.nd<|jQ oR rfl (B.1.no B.2.n9) nG<|aN (aq 3) aR)
  (aA (mR 13 (aF bM (ao<|aO (aq 13)<|ao<|aF dO (aq 5)<|ao au)<|ao<|bB<|ak (bB<|ak (aD 9)<|ak (aD 12) aC) aC)<|aF dO (aq 5)<|ao au)
  (ZJ 13<|aJ<|Dh 10<|Xb<|xM (abT<|aD 12)<|xM (Ma 1 14 15 o a aQ (xH (aD 0)<|ue (i:=1)<|ak (aF dO (aq 2)<|ao au)<|ak (aD 13) aC) (hk:=by omega)) Sh)))))
  (aJ<|bx<|bB<|ak cg<|ak (aD 5)<|ak (aD 9)<|ak (gM fJ rfl (B.1.no B.2.n14) gq<|aN (aq 10) aR) aC))))))))))
theorem Fw (n:Nat)(o:FST P w K mg base (2+2*n) "_law_built" ["_law_cells", "_law_state", "_law_depth", "_law_records"] 1 (bL n))(C:FST P w K mg base (2+2*n+1) "_law_move" ["_law_cells", "_law_state", "_law_depth", "_law_records", "_law_draw"] 1 (mK<|bL n)):FST P w K mg base (2+2*n+1+1) "_law_built" ["_law_cells", "_law_state", "_law_depth", "_law_records"] 1 (bL<|n+1):=B.2.q34.ff B.1 λ_ _ c=>
 Dv 1 c gC (by decide) λ_ _ _ _ _ _ a=>by
 have b:=a.units;unfold fG;exact(aA (cu gC.nd<|fV a (aq 1) (ao cg) λ_ _=>rfl)
  (aA (rE 1 a (aF bM (aq 4)<|ao au) cg)
  (aA (cU (bK Oh (aq 4) (ao<|bV cH rfl (B.1.no B.2.n8) fZ<|aN (aq 0) aR)<|bz _)
  (aJ<|bx<|bB<|ak cg<|ak (bD (qw B) a aQ (ak (bD (mU B) a aQ (ak (aF bM (ao<|aO (aq 0)<|ao<|J4 wI<|ao au)<|ao<|aF dC (aq 4)<|aq 4)<|ak (aD 4) aC) (hk:=by omega)) aC) (hk:=by omega)) aC)
  bA)
  (aA (cu gC.nd<|bD (mU B) a aQ (ak (aO (aq 0)<|aq 4)<|ak (aD 4) aC) (hk:=by omega))
  (aA (cu gC.nd<|aD 5)
  (aA (cU (gP<|fV a (aq 1) (ao cg) λ_ _=>rfl)
  (aJ<|cu gC.nd<|aF bM (ao<|aF dO (aq 5)<|ao<|aF aW (aq 5)<|ao au)<|ao<|aF aW (ao<|bD (mU B) a aQ (ak (aO (aq 0)<|ao<|aF aW (aq 2)<|ao<|bV cH rfl (B.1.no B.2.n8) fZ<|aN (aq 0) aR)<|ak (aD 2) aC) (hk:=by omega))<|ao au)
  bA)
  (aA (cU (w6<|o6 (bK (cZ b) (aq 2) (ao au)<|bz _)<|o6 (bK (yK b) (ao<|fV a (aq 1) (ao cg) λ_ _=>rfl) (ao au)<|bz _)<|ni<|w6<|V8 (bK (cZ b) (ao<|aF aW (aq 6)<|ao au) (ao au)<|bz _)<|QJ<|bK yW (aq 4) (ao au)<|bz _)
  (aJ<|bx<|bB<|ak cg<|ak (bD (qw B) a aQ (ak (aD 5) aC) (hk:=by omega)) aC)
  bA)
  (aA (cU (bK yW (ao<|aF aW (aq 6)<|ao au) (ao au)<|bz _)
  (aJ<|Lh<|Ma 1 10 11 C a aQ (xH (aD 0)<|ue (i:=1)<|ak (aD 2)<|ak (aD 3)<|ak (aD 6) aC) (hk:=by omega))
  bA)
  (aA (cu gC.nd<|aF bM (ao au)<|ao<|aF aW (ao<|aF cM (aq 6)<|ao au)<|ao au)
  (aA (rE 1 a (aF dO (ao<|fV a (aq 1) (ao cg) λ_ _=>rfl)<|aq 7) cg)
  (aA (kZ gC.nd<|fB aC)
  (aA (lF (rB<|bD (BL B) a aQ (ak (aD 5)<|ak (aD 7) aC) (hk:=by omega)) (cT gC.nd)
  (aJ<|Dh 8<|Xb<|xM (abT<|aD 9)<|xM (Ma 1 10 11 o a aQ (xH (aD 0)<|ue (i:=1)<|ak (aF dO (aq 2)<|ao au)<|ak (aD 3) aC) (hk:=by omega)) Sh))
  (aJ<|bx<|bB<|ak cg<|ak (aO (ao<|fV a (aq 1) (ao cg) λ_ _=>rfl)<|ao<|aF aW (ao<|aF cM (aq 5)<|ao au)<|ao au)<|ak (gM fJ rfl (B.1.no B.2.n14) gq<|aN (aq 8) aR) aC)))))))))))))
theorem FP:∀n:Nat,FST P w K mg base (2+2*n) "_law_built" ["_law_cells", "_law_state", "_law_depth", "_law_records"] 1 (bL n):=by
 intro n;induction n with
 |zero=>exact B.2.q34.ff B.1 λ_ _ _=>ae6
 |succ n ih=>
  have a:FST P w K mg base (2+2*n+1) "_law_move" ["_law_cells", "_law_state", "_law_depth", "_law_records", "_law_draw"] 1 (mK<|bL n):=Hy B (2+2*n) (by omega) _ ih;exact Fw B n ih a
theorem Io:FF P w K mg base 29 "_law_game" ["_law_cells", "_law_turn", "_law_depth", "_law_room", "_law_pool_here"] pG:=B.2.q35.ff B.1 λ_ _ c=>
 bG c zx λ_ _ _ _ _ _ a=>by
 have b:=a.units;unfold zu pC;exact(Wy (i:=5) (j1:=6) (j2:=7) zx.nd rfl (fN rfl) (oF cg au<|oF cg (aD 3)<|oF cg JL<|oF cg (fB<|ak au<|ak au aC)<|oF cg (aD 4) Qx)
  (aA (rE 5 a (aF aW (aq 1)<|ao au) cg)
  (aA (rE 5 a (lQ (cZ b) (ao<|aF aW (ao<|aF cM (aq 1)<|ao au)<|ao au) (ao au)<|bz _) cg)
  (aJ<|Lh<|Ma 5 6 7 (FP B 13) a aQ<|xH (aD 0)<|ue (i:=5)<|ak (aD 2)<|ak (f9<|fB<|ak (bB aC)<|ak (bB aC) aC) aC))))
theorem CP:FF P w K mg base 1 "_law_places" ["_law_game_here"] lZ:=B.2.q36.ff B.1 λ_ _ b=>
 bG b cX λ_ _ _ _ _ _ c=>by
 have a:=c.units;unfold uW mz;exact(aA (kZ cX.nd<|fB aC)
  (aA (kZ cX.nd<|fB<|ak (bB<|ak (bB aC)<|ak (aD 0)<|ak (bB<|ak (bB aC)<|ak (bB aC) aC) aC) aC)
  (aA (yj ng (bK yW (ao<|bV cH rfl (B.1.no B.2.n8) fZ<|aN (aq 2) aR) (ao au)<|bz _)
  (aA (aaw (k:=1000) (adR 2)<|o8 rfl<|cJ (cT cX.nd)<|cJ (cT cX.nd)<|cJ (cT cX.nd) kI)
  (aA (iU 1<|bB<|ak (aD 3)<|ak (aD 4)<|ak (aD 5) aC)
  (aA (kZ cX.nd<|fB aC)
  (aA (cU (bK (cZ a) (ao<|aO (aq 4)<|ao au) (ao cg)<|bz _)
  (aJ<|My (i:=6) (aM ql) ["_law_share", "_law_part", "_law_records"] ["_law_records"] 2 [5] cX.nd rfl (fN rfl) rfl (by trivial) (.cons rfl .nil) (yO<|wC<|aO (aq 4)<|ao au) (λ_ _ _ _ _ _=>(o8 rfl<|cJ (cT<|nds rfl)<|cJ (cT<|nds rfl) kI)) (λ_ _ _ _ _ _=>jk) λ_ _ _ _ _ _=>(bB<|ak (aD 1)<|ak (aD 2) aC))
  bA)
  (aA (cU (bK (cZ a) (ao<|aO (aq 4)<|ao au) (ao cg)<|bz _)
  (aJ (lF (wC<|aO (aq 4)<|ao au) (o8 rfl<|cJ (cT cX.nd)<|cJ (cT cX.nd) kI)
  (aA (kZ cX.nd<|jQ oR rfl (B.1.no B.2.n9) nG<|aN (aq 5) aR)
  (aA (mR 9 (aF bM (ao<|aO (aq 9)<|ao<|aF dO (ao<|aO (aq 4)<|ao au)<|ao au)<|ao<|bB<|ak (bB<|ak (aO (aq 4)<|ao au)<|ak (aD 7) aC) aC)<|aF dO (ao<|aO (aq 4)<|ao au)<|ao au)
  (aJ<|iU 6<|bB<|ak (aD 8)<|ak (gM fJ rfl (B.1.no B.2.n14) gq<|aN (aq 9) aR) aC)))))
  bA)
  (aJ (lF (Zz rfl (B.1.no B.2.n10)<|aN (ao<|aF dO (ao<|bV cH rfl (B.1.no B.2.n8) fZ<|aN (aq 6) aR)<|ao au)<|aN (ao<|J4 wI<|ao au)<|aN (ao<|J4 wI<|ao au) aR) (cT cX.nd)
  (aJ<|iU 2<|bB<|ak (aF bM (aq 3)<|ao<|bB<|ak (aD 10) aC)<|ak (aO (ao<|aO (aq 6)<|aq 10)<|ao au)<|ak (aO (ao<|aO (aq 6)<|aq 10)<|ao au) aC)))))))))
  (aJ<|mJ 1))))
theorem Fb:FF P w K mg base 2 "_law_table" ["_law_game_here"] lg:=B.2.q37.ff B.1 λ_ _ c=>
 bG c iy λ_ _ _ _ _ _ a=>by
 have b:=a.units;unfold rQ rZ;exact(aA (kZ iy.nd<|fB aC)
  (aA (kZ iy.nd JL)
  (aA (lF (rB<|bD (CP B) a aQ<|ak (aD 0) aC) (o8 rfl<|cJ (cT iy.nd)<|cJ (cT iy.nd)<|cJ (cT iy.nd) kI)
  (aJ (cU (w6<|V8 (bK (cZ b) (ao<|aO (aq 4)<|ao au) (ao cg)<|bz _)<|QJ<|bK (QS a) (ao<|bB<|ak (aO (aq 4)<|ao au)<|ak (aO (aq 4)<|ao au) aC) (aq 2)<|by with_unfolding_all rfl)
  (aA (Q9 2 a iI<|bB<|ak (aO (aq 4)<|ao au)<|ak (aO (aq 4)<|ao au) aC)
  (aA (cu iy.nd<|gM fJ rfl (B.1.no B.2.n14) gq<|aN (ao<|f9<|lW (aM rO) ["_law_word", "_law_part"] [] 2 [] rfl (by trivial) .nil (yO<|wC<|aO (aq 4)<|ao au) (λ_ _ _ _ _ _=>(o8 rfl<|cJ (cT<|nds rfl)<|cJ (cT<|nds rfl) kI)) (λ_ _ _ _ _ _=>jk) λ_ _ _ _ _ _=>(aD 0)) aR)
  (aJ<|iU 1<|bB<|ak (aO (aq 4)<|ao au)<|ak (aO (aq 4)<|ao au)<|ak (aD 6)<|ak (aO (aq 5)<|ao<|aF dO (ao<|aO (aq 4)<|ao au)<|ao au) aC)))
  bA)))
  (aJ<|mJ 1))))
theorem Fx:FF P w K mg base 2 "_law_parts" ["_law_number", "_law_many"] kO:=B.2.q38.ff B.1 λ_ _ c=>
 bG c nP λ_ _ _ _ _ _ a=>by
 have b:=a.units;unfold xR nT;exact(aA (kZ nP.nd<|fB aC)
  (aA (lF (jR rfl (B.1.no B.2.n10)<|aN (aq 1) aR) (cT nP.nd)
  (aA (iU 2<|aO (ao<|f9<|fB<|ak (aF aW (ao<|aF cM (aq 0)<|ao au)<|ao au)<|ak (aF aW (ao<|aF cM (aq 0)<|ao au)<|ao au)<|ak au<|ak (aF aW (ao<|aF cM (aq 0)<|ao au)<|ao au) aC)<|ao<|aF aW (aq 0)<|ao au)
  (aJ<|cu nP.nd<|aF aW (ao<|aF dC (aq 0)<|ao au)<|ao au)))
  (aA (cU (bK (cZ b) (ao<|bV (yz rfl) rfl (B.1.no B.2.n13) Nh<|aN (aq 2) aR) (ao au)<|bz _)
  (aJ<|mR 2 au<|aF aW (aq 0)<|aq 1)
  bA)
  (aJ<|bx<|gM fJ rfl (B.1.no B.2.n14) gq<|aN (ao<|f9<|lW (aM rK) ["_law_part", "_law_parts_here"] ["_law_parts_here"] 1 [2] rfl (by trivial) (.cons rfl .nil) (oZ<|aq 2) (λ_ _ _ _ _ _=>(cT<|nds rfl)) (λ_ _ _ _ _ _=>jk) λ_ _ _ _ _ _=>(bD (fU B) a Ku<|ak (aD 0)<|ak (bV (yz rfl) rfl (B.1.no B.2.n13) Nh<|aN (aq 1) aR) aC)) aR))))
theorem wX:FF P w K mg base 3 "_law_plan" ["_law_rows", "_law_side", "_law_cell"] pR:=B.2.q39.ff B.1 λ_ _ c=>
 bG c uv λ_ _ _ _ _ _ a=>by
 have b:=a.units;unfold zG pF;exact(aA (kZ uv.nd Hw)
  (aA (lF (jR rfl (B.1.no B.2.n10)<|aN (ao<|bV cH rfl (B.1.no B.2.n8) fZ<|aN (aq 0) aR) aR) (cT uv.nd)
  (aJ (cU (bK (cZ b) (ao<|aO (ao<|aO (aq 0)<|aq 4)<|ao au) (aq 1)<|bz _)
  (aJ<|rE 3 a (bD (Fx B) a aQ<|ak (bD (mU B) a aQ<|ak (aD 2)<|ak (aF bM (ao<|aF dC (ao au)<|aq 4)<|ao au) aC)<|ak (bV cH rfl (B.1.no B.2.n8) fZ<|aN (ao<|aO (ao<|aO (aq 0)<|aq 4)<|ao au) aR) aC)<|aO (ao<|aO (aq 0)<|aq 4)<|ao au)
  bA)))
  (aJ<|mJ 3)))
theorem vh:FF P w K mg base 1 "_law_whole" ["_law_found"] nA:=B.2.q40.ff B.1 λ_ _ a=>
 bG a Iw λ_ _ _ _ _ _ b=>by
 unfold xn xW;exact(aJ<|bx<|vP (mW (x:="") (aq 0) rfl (B.1.no B.2.n7) bY rfl (B.1.no B.2.n6) Wx)<|wj<|Nt<|mW (x:="") (aq 0) rfl (B.1.no B.2.n7) bY rfl (B.1.no B.2.n3) Hq)
theorem yL:FF P w K mg base 2 "_law_is_ratio" ["_law_found"] eN:=B.2.q41.ff B.1 λ_ _ c=>
 bG c Ah λ_ _ _ _ _ _ a=>by
 have b:=a.units;unfold iG iH;exact(aA (cU (w6<|o6 (iY<|gP<|mW (x:="") (aq 0) rfl (B.1.no B.2.n7) bY rfl (B.1.no B.2.n14) gq)<|o6 (bK (rN b) (ao<|bV cH rfl (B.1.no B.2.n8) fZ<|aN (aq 0) aR) (ao au)<|bz _)<|o6 (iY<|gP<|bD (vh B) a aQ<|ak (aO (aq 0)<|ao au) aC)<|ni<|iY<|gP<|bD (vh B) a aQ<|ak (aO (aq 0)<|ao au) aC)
  (aJ<|bx iI)
  bA)
  (aJ<|bx<|vP (lQ yW (ao<|aO (aq 0)<|ao au) (ao au)<|bz _)<|wj<|lQ (cZ b) (ao<|bD (fU B) a aQ<|ak (aO (aq 0)<|ao au)<|ak (aO (aq 0)<|ao au) aC) (aq 0)<|bz _))
theorem uU:FF P w K mg base 3 "_law_good_shares" ["_law_found", "_law_many"] jG:=B.2.q42.ff B.1 λ_ _ c=>
 bG c dY λ_ _ _ _ _ _ b=>by
 have a:=b.units;unfold oX cW;exact(aA (cU (w6<|o6 (iY<|gP<|mW (x:="") (aq 0) rfl (B.1.no B.2.n7) bY rfl (B.1.no B.2.n14) gq)<|ni<|bK (rN a) (ao<|bV cH rfl (B.1.no B.2.n8) fZ<|aN (aq 0) aR) (aq 1)<|bz _)
  (aJ<|bx iI)
  bA)
  (aA (cu dY.nd au)
  (aA (cu dY.nd au)
  (aA (lF (wC<|aD 0) (cT dY.nd)
  (aA (cU (w6<|o6 (iY<|gP<|bD (yL B) b aQ<|ak (aD 4) aC)<|ni<|bK (yK a) (ao<|aO (aq 4)<|ao au) (ao au)<|bz _)
  (aJ<|bx iI)
  bA)
  (aA (cu dY.nd<|aF bM (ao<|aF dC (aq 2)<|ao<|aO (aq 4)<|ao au)<|ao<|aF dC (ao<|aO (aq 4)<|ao au)<|aq 3)
  (aJ<|cu dY.nd<|aF dC (aq 3)<|ao<|aO (aq 4)<|ao au))))
  (aJ<|bx<|lQ (cZ a) (aq 2) (aq 3)<|bz _)))))
theorem zY:FF P w K mg base 4 "_law_due" ["_law_rows", "_law_side", "_law_thing"] oY:=B.2.q43.ff B.1 λ_ _ c=>
 bG c v7 λ_ _ _ _ _ _ a=>by
 have b:=a.units;unfold Dk eQ;exact(aA (vK (i:=3) (aM vH) ["_law_row", "_law_side"] ["_law_side"] 1 [1] v7.nd rfl (fN rfl) rfl (by trivial) (.cons rfl .nil) (oZ<|aq 0) (λ_ _ _ _ _ _=>(cT<|nds rfl)) (λ_ _ _ _ _ _=>(Bx<|bK (cZ b) (ao<|aO (aq 0)<|ao au) (aq 1)<|bz _)) λ_ _ _ _ _ _=>(aD 0))
  (aA (cU (w6<|o6 (iY<|gP<|mW (x:="") (aq 2) rfl (B.1.no B.2.n7) bY rfl (B.1.no B.2.n4) uJ)<|ni<|bK (rN b) (ao<|bV cH rfl (B.1.no B.2.n8) fZ<|aN (aq 2) aR) (ao<|bV cH rfl (B.1.no B.2.n8) fZ<|aN (aq 3) aR)<|bz _)
  (aJ<|bx iI)
  bA)
  (aA (lF (rB<|aD 3) (cT v7.nd)
  (aJ (cU (w6<|o6 (bK (aaF a) (ao<|aO (aq 4)<|ao au) (aq 2)<|by with_unfolding_all rfl)<|ni<|iY<|gP<|bD (uU B) a aQ<|ak (fV a (aq 2) (ao<|aO (aq 4)<|ao au) λ_ _=>rfl)<|ak (bV cH rfl (B.1.no B.2.n8) fZ<|aN (ao<|aO (aq 4)<|ao au) aR) aC)
  (aJ<|bx iI)
  bA)))
  (aJ<|bx iI))))
theorem uz:FF P w K mg base 2 "_law_other_shares" ["_law_shares_here", "_law_cell"] bU:=B.2.q44.ff B.1 λ_ _ c=>
 bG c dg λ_ _ _ _ _ _ b=>by
 have a:=b.units;unfold jo eY;exact(aA (cu dg.nd<|bV cH rfl (B.1.no B.2.n8) fZ<|aN (aq 0) aR)
  (aA (cu dg.nd<|aF aW (ao<|aF cM (aq 1)<|ao au)<|aq 2)
  (aA (kZ dg.nd<|jQ oR rfl (B.1.no B.2.n9) nG<|aN (aq 0) aR)
  (aA (adY (k:=1000) (aO (aq 4)<|aq 3)<|o8 rfl<|cJ (cT dg.nd)<|cJ (cT dg.nd) kI)
  (aA (cU (bK (cZ a) (ao<|aF aW (aq 1)<|ao au) (ao au)<|bz _)
  (aA (mR 4 (bD (fU B) b aQ<|ak (aD 5)<|ak (aF dC (ao au)<|aq 6) aC)<|aD 3)
  (aJ<|bx<|gM fJ rfl (B.1.no B.2.n14) gq<|aN (aq 4) aR))
  bA)
  (aA (cU (bK (yK a) (ao<|aF aW (aq 1)<|ao au) (ao au)<|bz _)
  (aA (mR 4 (aO (ao<|f9<|fB<|ak (bB<|ak (aF bM (aq 5)<|ao au)<|ak (aD 6) aC)<|ak (bB<|ak (aF dC (ao au)<|aq 5)<|ak (aF dC (ao au)<|aq 6) aC)<|ak iI<|ak (aD 5)<|ak (gM TX rfl (B.1.no B.2.n12) aci<|aN (aq 5) aR)<|ak (f9<|fB<|ak (aD 5)<|ak (aD 6) aC) aC)<|ao<|aF aW (aq 1)<|ao au)<|aD 3)
  (aJ<|bx<|gM fJ rfl (B.1.no B.2.n14) gq<|aN (aq 4) aR))
  bA)
  (aA (cU (bK (cZ a) (ao<|aF aW (aq 1)<|ao au) (ao au)<|bz _)
  (aA (mR 4 (bB<|ak (aF dO (ao<|aF dO (ao au)<|aq 5)<|ao au)<|ak (aD 6) aC)<|aD 3)
  (aA (cu dg.nd<|aO (aq 4)<|ao<|aF aW (ao<|aF bM (aq 3)<|ao au)<|aq 2)
  (aA (mR 4 (bD (fU B) b aQ<|ak (aF bM (ao<|aF dC (ao<|aO (aq 7)<|ao au)<|aq 6)<|ao<|aF dC (ao<|aF bM (ao<|aF dC (ao au)<|aq 5)<|ao au)<|ao<|aO (aq 7)<|ao au)<|ak (aF dC (ao<|aO (aq 7)<|ao au)<|aq 6) aC)<|aF aW (ao<|aF bM (aq 3)<|ao au)<|aq 2)
  (aJ<|bx<|gM fJ rfl (B.1.no B.2.n14) gq<|aN (aq 4) aR))))
  bA)
  (aA (cU (bK (cZ a) (ao<|aF aW (aq 1)<|ao au) (ao au)<|bz _)
  (aA (mR 4 (bB<|ak (aD 5)<|ak (aF dO (ao au)<|aq 6) aC)<|aD 3)
  (aJ<|bx<|gM fJ rfl (B.1.no B.2.n14) gq<|aN (aq 4) aR))
  bA)
  (aJ<|bx<|aO (ao<|f9<|fB<|ak (aF bM (aq 0)<|ao<|bB<|ak (bB<|ak au<|ak au aC) aC)<|ak (ur (aq 0) (uP<|ao au) Be)<|ak (f9<|jQ oR rfl (B.1.no B.2.n9) nG<|aN (aq 0) aR)<|ak N7<|ak (aF Xo (ao<|bB<|ak iI aC)<|aq 2)<|ak (bB aC) aC)<|ao<|aF dO (ao<|aF aW (aq 1)<|ao au)<|ao au)))))))))
theorem Dl:FF P w K mg base 3 "_law_spoilt" ["_law_rows", "_law_side", "_law_plan_here", "_law_cell", "_law_pool_here"] jr:=B.2.q45.ff B.1 λ_ _ c=>
 bG c jq λ_ _ _ _ _ _ b=>by
 have a:=b.units;unfold qC qp;refine Wr.out ?_;exact(BW (Wr.mk<|vK (i:=5) (aM qe) ["_law_row", "_law_side" ] ["_law_side"] 1 [1] jq.nd rfl (fN rfl) rfl (by trivial) (.cons rfl .nil) (oZ<|aq 0) (λ_ _ _ _ _ _=>(cT<|nds rfl)) (λ_ _ _ _ _ _=>(Bx<|bK (cZ a) (ao<|aO (aq 0)<|ao au) (aq 1)<|bz _)) λ_ _ _ _ _ _=>(aO (aq 0)<|ao au))<|Wr.mk<|Xq (i:=6) (j0:=9) (fs:=[ (false,(fC .non)) ,(false,(dW aB)) ,(false,(wZ<|aG 2)) ,(false,(bu<|aa (aG 2) aB)) ,(false,(fC<|.str "")) ,(false,(fC<|.int 7)) ,(true,zW) ,(false,(fC<|.bl true)) ]) jq.nd rfl (fN rfl) (cL N7<|cL (f9<|fB aC)<|cL (f9<|TJ rfl rfl (B.1.no B.2.n9)<|aD 2)<|cL (bB<|ak (aD 2) aC)<|cL cg<|cL au<|cL Hw<|cL iI jh)<|aA (cU (bK (cZ a) (ao<|aF aW (aq 3)<|ao au) (ao au)<|bz _) (aJ<|aat<|aO (aq 6)<|ao<|aF aW (ao<|aF cM (aq 3)<|ao au)<|ao au) bA)<|aA (kZ jq.nd<|jQ um rfl (B.1.no B.2.n4) uJ<|aN (aq 2) aR)<|aA (cU (w6<|o6 (bK (cZ a) (ao<|aF aW (aq 3)<|ao au) (ao au)<|bz _)<|ni<|bK (cZ a) (ao<|bV cH rfl (B.1.no B.2.n8) fZ<|aN (aq 5) aR) (ao au)<|bz _) (aA (Vc 7 b (bB<|ak (bB<|ak au<|ak au aC) aC)<|aO (ao<|aF bM (aq 4)<|ao<|f9<|fB<|ak N7<|ak au<|ak (bB<|ak cg<|ak cg aC)<|ak cg aC)<|ao<|aF aW (ao<|aF cM (aq 3)<|ao au)<|ao au)<|aJ<|mJ 7) bA)<|aA (cu jq.nd<|aO (aq 5)<|ao<|aF aW (ao<|aF cM (aq 3)<|ao au)<|ao<|bV cH rfl (B.1.no B.2.n8) fZ<|aN (aq 5) aR)<|aA (cU (bK (cZ a) (ao<|aF aW (aq 3)<|ao au) (ao au)<|bz _) (aA (V9<|QV 7<|aD 8)<|aJ<|mJ 7) bA)<|aA (cU (bK (cZ a) (ao<|aF aW (aq 3)<|ao au) (ao au)<|bz _) (aA (Yb 7 b (QV 7<|aD 8)<|aO (aq 4)<|ao<|aF aW (ao<|aF cM (aq 3)<|ao au)<|ao au)<|aJ<|mJ 7) bA)<|aA (rE 7 b (bD (uz B) b aQ<|ak (fV b (aq 7) (aq 8) λ_ _=>rfl)<|ak (aF cM (aq 3)<|ao au) aC)<|aD 8)<|aJ<|mJ 7)
theorem Fv:FF P w K mg base 10 "_law_asked" ["_law_way", "_law_game_here", "_law_side", "_law_thing", "_law_other"] xT:=B.2.q46.ff B.1 λ_ _ c=>
 bG c Hs λ_ _ _ _ _ _ a=>by
 have b:=a.units;unfold wH iw;exact(aA (cU (bK (cZ b) (aq 0) (ao au)<|bz _)
  (aJ<|bx<|bD (Ew B) a aQ<|ak (aD 1)<|ak (aD 2)<|ak (aD 3) aC)
  bA)
  (aA (cU (bK (cZ b) (aq 0) (ao au)<|bz _)
  (aJ<|bx<|bD (U6 B) a aQ<|ak (aD 1)<|ak (aD 2)<|ak (aD 3) aC)
  bA)
  (aA (cU (bK (cZ b) (aq 2) (ao au)<|bz _)
  (aJ<|bx<|bD (Gi B) a aQ<|ak (aD 1)<|ak (aD 3)<|ak (aD 4) aC)
  bA)
  (aJ<|bx<|bD (Gi B) a aQ<|ak (aD 1)<|ak (aD 4)<|ak (aD 3) aC))))
theorem z8:FF P w K mg base 11 "_law_refused" ["_law_way", "_law_game_here", "_law_side", "_law_thing", "_law_other"] kW:=B.2.q47.ff B.1 λ_ _ b=>
 bG b jl λ_ _ _ _ _ _ a=>by
 have c:=a.units;unfold tQ j8;exact(aA (cu jl.nd<|bB aC)
  (aA (aaV (i:=6) (fL) rfl rfl (Yy (Fv B) a<|ak (aD 0)<|ak (aD 1)<|ak (aD 2)<|ak (aD 3)<|ak (aD 4) aC) jl.nd rfl rfl rfl B.4.c_DuelError (λd=>
  (aA (cu jl.nd<|aaO (aq 6) rfl (B.1.no B.2.n7) bY<|xN B.4.i_TooGreat<|xN B.4.i_NoName<|xN B.4.i_NoNumber<|xN B.4.i_NoWord ZS)
  (aJ<|cu jl.nd<|bB<|ak (aee (aq 6) rfl (B.1.no B.2.n7) bY rfl B.4.i_NoPlan)<|ak (ZX (aq 6) rfl (B.1.no B.2.n7) bY rfl B.4.i_ValueError Eu)<|ak (aD 7) aC))))
  (aJ<|bx<|lQ (cZ c) (aq 5) (ao<|bB<|ak iI<|ak iI<|ak iI aC)<|bz _)))
theorem vy:FF P w K mg base 8 "_law_tells" ["_law_game_here", "_law_side", "_law_thing", "_law_due_here"] km:=B.2.q48.ff B.1 λ_ _ c=>
 bG c xg λ_ _ _ _ _ _ a=>by
 have b:=a.units;unfold qY rJ;exact(aA (cu xg.nd<|bD (oG B) a aQ<|ak (aD 0)<|ak (aD 1)<|ak (aD 2) aC)
  (aJ<|bx<|vP (mW (x:="") (aq 4) rfl (B.1.no B.2.n7) bY rfl (B.1.no B.2.n3) Hq)<|wj<|lQ (cZ b) (aq 4) (aq 3)<|bz _))
theorem adu {f:Addr}{o:iL}(C:Fun K "law" "law" Hl f o):
  ph P w K mg base (CX1 P w) 30 f o ["_law_script"] (spF ⟨K,mg⟩ abM):=
 bG C sH λ_ _ _ _ _ _ a=>by
 unfold abN QX;exact(aA (cu sH.nd<|bD (JM B) a aQ<|ak (bD (eG B) a aQ<|ak (aD 0)<|ak au aC)<|ak (bD (eG B) a aQ<|ak (aD 0)<|ak au aC) aC)
  (aA (cu sH.nd<|bD (eG B) a aQ<|ak (aD 0)<|ak au aC)
  (aA (cu sH.nd<|bD (Io B) a aQ<|ak (aF bM (ao<|ur (aq 0) (uP<|ao au)<|uP<|ao au)<|ao<|f9<|fB<|ak (bD (eG B) a aQ<|ak (aD 0)<|ak au aC) aC)<|ak (aD 2)<|ak au<|ak au<|ak (aD 1) aC)
  (aA (cu sH.nd<|bD (Fb B) a aQ<|ak (aD 3) aC)
  (aA (cu sH.nd<|aF bM (ao au)<|ao<|aF aW (ao<|aF cM (aq 2)<|ao au)<|ao au)
  (aA (cu sH.nd<|bD (wX B) a aQ<|ak (aD 4)<|ak (aD 5)<|ak (bD (eG B) a aQ<|ak (aD 0)<|ak au aC) aC)
  (aA (cu sH.nd<|bD (wX B) a aQ<|ak (aD 4)<|ak (aF dO (ao au)<|aq 5)<|ak (bD (eG B) a aQ<|ak (aD 0)<|ak au aC) aC)
  (aA (cu sH.nd<|f9<|jQ um rfl (B.1.no B.2.n4) uJ<|aN (aq 6) aR)
  (aA (cU (w6<|o6 (bK Vm (ao<|bD (oG B) a aQ<|ak (aD 3)<|ak (aD 5)<|ak (aD 8) aC) (ao iI)<|bz _)<|ni<|bK (aap a) (aq 8) (aq 6)<|bz _)
  (aJ<|bx iI)
  bA)
  (aA (cU (iY<|gP<|bD (vy B) a aQ<|ak (aD 3)<|ak (aD 5)<|ak (f9<|jQ um rfl (B.1.no B.2.n4) uJ<|aN (aq 7) aR)<|ak (bD (zY B) a aQ<|ak (aD 4)<|ak (aD 5)<|ak (aD 7) aC) aC)
  (aJ<|bx iI)
  bA)
  (aA (X8 sH.nd rfl (fN rfl) (Dl B) a aQ<|ak (aD 4)<|ak (aD 5)<|ak (aD 6)<|ak (bD (mU B) a aQ<|ak (bD (eG B) a aQ<|ak (aD 0)<|ak au aC)<|ak au aC)<|ak (aD 1) aC)
  (aA (cu sH.nd<|Nu (zY B) a aQ<|aN (aq 4)<|aN (aq 5)<|aN (aq 9) aR)
  (aA (cU (iY<|gP<|Nu (vy B) a aQ<|aN (aq 3)<|aN (aq 5)<|aN (aq 9)<|aN (aq 10) aR)
  (aJ<|bx iI)
  bA)
  (aA (cU (iY<|gP<|aD 10)
  (aJ (lF (jR rfl (B.1.no B.2.n10)<|aN (ao au) aR) (cT sH.nd)
  (aJ (cU (iY<|gP<|Nu (z8 B) a aQ<|aN (ao<|aF aW (ao<|aF bM (aq 11)<|ao<|aF cM (aq 2)<|ao au)<|ao au)<|aN (aq 3)<|aN (aq 5)<|aN (aq 9)<|aN (aq 7) aR)
  (aJ<|bx iI)
  bA))))
  bA)
  (aA (cU (gP<|mW (x:="") (aq 9) rfl (B.1.no B.2.n7) bY rfl (B.1.no B.2.n4) uJ)
  (aA (Tz 9)
  (aA (Zt 9<|aD 6)
  (aJ<|bx<|lQ Yw (ao<|bD (oG B) a aQ<|ak (aD 3)<|ak (aD 5)<|ak (aD 9) aC) (ao iI)<|bz _)))
  bA)
  (aJ<|bx<|lQ Yw (ao<|bD (oG B) a aQ<|ak (aD 3)<|ak (aD 5)<|ak (aD 8) aC) (ao iI)<|bz _))))))))))))))))
end
theorem all_mk {l:W.OpenLaw}{w:eI}{K:bo}{h:Heap}{mg:Zp}{fa:Addr}(X:K.In h)(G:h.Ns dA mg)(hfa:mg "law" = some (.ref fa))(Q:Qs K)
  {J:Addr} (nDuelError:xI K dA "DuelError" = some (some<|.ref J))
  {U:Addr} (nNoName:xI K dA "NoName" = some (some<|.ref U))
  {I:Addr} (nNoNumber:xI K dA "NoNumber" = some (some<|.ref I))
  {o:Addr} (nNoPlan:xI K dA "NoPlan" = some (some<|.ref o))
  {CNoWord:Addr} (nNoWord:xI K dA "NoWord" = some (some<|.ref CNoWord))
  {C:Addr} (nTooGreat:xI K dA "TooGreat" = some (some<|.ref C))
  (eNoPlan:BU K o [.type "ValueError",.type "Exception",.type "BaseException",.type "object"] "ValueError.__new__" = true)
  (xNoPlan0:xh K (.ref o) "__getattribute__" = some (some<|.builtin "BaseException.__getattribute__"))
  (xNoPlan1:xh K (.ref o) "__getattr__" = some none)
  (xNoPlan2:xh K (.ref o) "__class__" = some (some<|.builtin "object.__class__"))
  (xNoPlan3:W.subIn K (.ref o) (.type "BaseException")=some true)
  (xNoPlan4:W.subIn K (.ref o) (.type "object")=some true)
  (xNoPlan5:W.hasDictIn K o=true)
  (uDuelErrorNoPlan:A2 K (.ref o) (.ref J)=some true)
  (wNoNameNoPlan:fw K (.ref o) (.ref U)=some false)
  (vNoName:fw K (.type "NoneType") (.ref U)=some false)
  (wNoNumberNoPlan:fw K (.ref o) (.ref I)=some false)
  (vNoNumber:fw K (.type "NoneType") (.ref I)=some false)
  (wNoPlanNoPlan:fw K (.ref o) (.ref o)=some true)
  (vNoPlan:fw K (.type "NoneType") (.ref o)=some false)
  (wNoWordNoPlan:fw K (.ref o) (.ref CNoWord)=some false)
  (vNoWord:fw K (.type "NoneType") (.ref CNoWord)=some false)
  (wTooGreatNoPlan:fw K (.ref o) (.ref C)=some false)
  (vTooGreat:fw K (.type "NoneType") (.ref C)=some false)
  (wValueErrorNoPlan:fw K (.ref o) (.type "ValueError")=some true):
  ∃fd:iL,(∀(s:aI) (v:ax),BS s fd ⟨[v],[]⟩ [("_law_script",v)])/\∀base:Heap,K.In base->base.Ns dA mg->ph l.prog w K mg base (CX1 l.prog w) 30 fa fd ["_law_script"] (QM K):=by
 obtain⟨f,fd,A,a⟩:=Q.q49.ex;have e:=hfa.symm.trans<|sM X G a;cases e;obtain⟨R,P,kV,y,L,F,z,ct,O,rfl,T,H⟩:=A.ex;refine⟨AY "law" "law" (pN Hl) (jB Hl) (aM Hl) .none kV y L F z ct,λs v=>.of_eq rfl,λbase E B=>?_⟩;have Ex:ExT K mg:=⟨⟨o,sM X G nNoPlan,eNoPlan⟩⟩;have t:(W.clsIn K o).isSome=true:=by
  obtain⟨S,M,_⟩:=W.any_some xNoPlan5;rw[M];rfl
 have i:XC K o:=⟨xNoPlan0,xNoPlan1,xNoPlan2,xNoPlan3,xNoPlan4,t⟩;have g:∀{D:Addr},mg "NoPlan" = some (.ref D)->D=o:=λh=>by rw[sM X G nNoPlan] at h;cases h;rfl
 have m:∀c D,fL c=true->mg c=some (.ref D)->A2 K (.ref D) (.ref J)=some true:=by
  intro c D j q;simp only[fL,Bool.or_eq_true,beq_iff_eq] at j;subst j;rw[g q];exact uDuelErrorNoPlan
 have x:∀c D b,jM c=some b->mg c=some (.ref D)->XC K D/\fw K (.ref D) (.ref U)=some b:=by
  intro c D b j q;simp only[jM] at j;by_cases d:c = "NoPlan"
  ·rw[if_pos d] at j;cases j;subst d;rw[g q];exact⟨i,wNoNameNoPlan⟩
  rw[if_neg d] at j;cases j
 have p:∀c D b,iz c=some b->mg c=some (.ref D)->XC K D/\fw K (.ref D) (.ref I)=some b:=by
  intro c D b j q;simp only[iz] at j;by_cases d:c = "NoPlan"
  ·rw[if_pos d] at j;cases j;subst d;rw[g q];exact⟨i,wNoNumberNoPlan⟩
  rw[if_neg d] at j;cases j
 have r:∀c D b,lK c=some b->mg c=some (.ref D)->XC K D/\fw K (.ref D) (.ref o)=some b:=by
  intro c D b j q;simp only[lK] at j;by_cases d:c = "NoPlan"
  ·rw[if_pos d] at j;cases j;subst d;rw[g q];exact⟨i,wNoPlanNoPlan⟩
  rw[if_neg d] at j;cases j
 have u:∀c D b,jN c=some b->mg c=some (.ref D)->XC K D/\fw K (.ref D) (.ref CNoWord)=some b:=by
  intro c D b j q;simp only[jN] at j;by_cases d:c = "NoPlan"
  ·rw[if_pos d] at j;cases j;subst d;rw[g q];exact⟨i,wNoWordNoPlan⟩
  rw[if_neg d] at j;cases j
 have n:∀c D b,iC c=some b->mg c=some (.ref D)->XC K D/\fw K (.ref D) (.ref C)=some b:=by
  intro c D b j q;simp only[iC] at j;by_cases d:c = "NoPlan"
  ·rw[if_pos d] at j;cases j;subst d;rw[g q];exact⟨i,wTooGreatNoPlan⟩
  rw[if_neg d] at j;cases j
 have k:∀c D b,gQ c=some b->mg c=some (.ref D)->XC K D/\fw K (.ref D) (.type "ValueError")=some b:=by
  intro c D b j q;simp only[gQ] at j;by_cases d:c = "NoPlan"
  ·rw[if_pos d] at j;cases j;subst d;rw[g q];exact⟨i,wValueErrorNoPlan⟩
  rw[if_neg d] at j;cases j
 have N:XcT K mg:=⟨⟨J,sM X G nDuelError,m⟩,⟨U,sM X G nNoName,x,vNoName⟩,⟨I,sM X G nNoNumber,p,vNoNumber⟩,⟨o,sM X G nNoPlan,r,vNoPlan⟩,⟨CNoWord,sM X G nNoWord,u,vNoWord⟩,⟨C,sM X G nTooGreat,n,vTooGreat⟩,⟨(⟨E,B⟩:Cb K mg base).no Q.n0,k⟩⟩;exact Zr Ve<|adu ⟨⟨E,B⟩,Q,Ex,N⟩ A
theorem walk {l:W.OpenLaw}{q:bE}{C:List Str}{XP:(Zp)->Heap->Prop}{YP:eI->Heap->Prop}{d:DefRec}{K:Params->bo}(hn:l.most=some 63)(I:d.params.defaults=[])
  (hY:∀(w:eI) (h:Heap),YP w h->(K w.params).In h)
  (F:∀(w:eI) (mg:Zp) (J:Addr) (h:Heap),(K w.params).In h->h.Ns dA mg->mg d.name=some (.ref J)->
   ∃U:iL,(∀(s:aI) (u:ax),BS s U ⟨[u],[]⟩ [("_law_script",u)])/\∀o:Heap,(K w.params).In o->o.Ns dA mg->ph l.prog w (K w.params) mg o (CX1 l.prog w) 30 J U ["_law_script"] (QM<|K w.params)):
  W.WalkO q C XP YP l.row.toRowW d [] (λf vs=>B5 f vs):=
 L2.aaa (n:=63) (k:=30) (x:="_law_script") (CX:=λw=>CX1 l.prog w) (sp:=λw=>QM<|K w.params) hn (by decide) I ⟨rfl,by decide,by decide,rfl⟩ hY F (λ_ _ a e c _ b=>⟨a,e,rfl,b,c,λ_=>rfl⟩) λ_ _ _ _ _ ⟨_,_,_,_,_,_,z⟩=>z.elim
end K18
namespace PySem.W.Fast
theorem tw793067053181162035:True:=⟨⟩
theorem tw16046451895296026260:True:=⟨⟩
theorem tw4067898978696093587:True:=⟨⟩
theorem tw17649649347557483084:True:=⟨⟩
theorem tw7912203224017791257:True:=⟨⟩
theorem tw5178851550895849197:True:=⟨⟩
theorem tw4462070457174060265:True:=⟨⟩
theorem tw3048287480402981261:True:=⟨⟩
theorem tw9750942538176337515:True:=⟨⟩
theorem tw15769093754586486766:True:=⟨⟩
theorem tw8679157404794013685:True:=⟨⟩
theorem tw3075542500829638665:True:=⟨⟩
theorem tw5130695953858089458:True:=⟨⟩
theorem tw15986059744548549743:True:=⟨⟩
theorem tw17854244321605629428:True:=⟨⟩
theorem tw1960507663008201870:True:=⟨⟩
theorem tw14179859246856938916:True:=⟨⟩
theorem tw15655821517113514148:True:=⟨⟩
theorem tw17243251566298988898:True:=⟨⟩
theorem tw6304590307011069428:True:=⟨⟩
theorem tw1021447143640673368:True:=⟨⟩
theorem tw16427367321229340539:True:=⟨⟩
theorem tw12742124231816275279:True:=⟨⟩
theorem tw11233399328021614591:True:=⟨⟩
theorem tw13236536679009044367:True:=⟨⟩
theorem tw12922877388303744105:True:=⟨⟩
theorem tw5037741651750457365:True:=⟨⟩
theorem tw11204354739538229438:True:=⟨⟩
theorem tw4853542691296210932:True:=⟨⟩
theorem tw1532639582244865380:True:=⟨⟩
theorem tw7633484221188963596:True:=⟨⟩
theorem tw8458124620956407525:True:=⟨⟩
theorem tw15199628401421731496:True:=⟨⟩
theorem tw4068290535449632772:True:=⟨⟩
theorem tw11102445301198894025:True:=⟨⟩
theorem tw9590992476442879922:True:=⟨⟩
theorem tw3162308161327333329:True:=⟨⟩
theorem tw2757801016441638730:True:=⟨⟩
theorem tw13720537714897165772:True:=⟨⟩
theorem tw11362972428940907090:True:=⟨⟩
theorem tw11151807427631665953:True:=⟨⟩
theorem tw1665930777811248866:True:=⟨⟩
theorem tw3968721316147165039:True:=⟨⟩
theorem tw11786311886547300484:True:=⟨⟩
theorem tw3185331611998144550:True:=⟨⟩
theorem tw16363866921264446294:True:=⟨⟩
theorem tw18122116418155766407:True:=⟨⟩
theorem tw12650587656798466153:True:=⟨⟩
theorem tw12547214524389226328:True:=⟨⟩
theorem tw11969234896187723515:True:=⟨⟩
theorem tw13273025390298082019:True:=⟨⟩
theorem tw10601524121207792385:True:=⟨⟩
theorem tw6320079187629755169:True:=⟨⟩
theorem tw10359135629760125784:True:=⟨⟩
theorem tw13679338379958811374:True:=⟨⟩
theorem tw4401153807787416148:True:=⟨⟩
theorem tw15644578420679608873:True:=⟨⟩
theorem tw17914890235985803998:True:=⟨⟩
theorem tw9160114499152550057:True:=⟨⟩
theorem tw15021443820907705734:True:=⟨⟩
theorem tw3795557060036764808:True:=⟨⟩
theorem tw8338354729786500571:True:=⟨⟩
theorem tw11547061811327050901:True:=⟨⟩
theorem tw16880411269281379080:True:=⟨⟩
theorem tw265523226124595361:True:=⟨⟩
theorem tw7974442237936005968:True:=⟨⟩
theorem tw18137861654436308806:True:=⟨⟩
theorem tw13482933969334183665:True:=⟨⟩
theorem tw1159178314587146650:True:=⟨⟩
theorem tw5860911712590016149:True:=⟨⟩
theorem tw1965793002584030761:True:=⟨⟩
theorem tw4554284391825457297:True:=⟨⟩
theorem tw8513358307000063324:True:=⟨⟩
theorem tw9397334028629542959:True:=⟨⟩
theorem tw15984440981675605826:True:=⟨⟩
theorem tw14822868448902538633:True:=⟨⟩
theorem tw1918131189997279050:True:=⟨⟩
theorem tw709461847948096697:True:=⟨⟩
theorem tw16225096377720771155:True:=⟨⟩
theorem tw1840492847825407868:True:=⟨⟩
theorem tw12250986815331142240:True:=⟨⟩
theorem tw8812225248015756803:True:=⟨⟩
theorem tw3234869648210854419:True:=⟨⟩
theorem tw1265862583589082699:True:=⟨⟩
theorem tw9331999149730504318:True:=⟨⟩
theorem tw8794046198607253263:True:=⟨⟩
theorem tw10887718123999480592:True:=⟨⟩
theorem tw6481580586533464855:True:=⟨⟩
theorem tw8564773248762870128:True:=⟨⟩
theorem tw608599025752156335:True:=⟨⟩
theorem tw9389818398990980689:True:=⟨⟩
theorem tw17319829629470743497:True:=⟨⟩
theorem tw2084578456519089935:True:=⟨⟩
theorem tw17039332369829450363:True:=⟨⟩
theorem tw17575732969662089104:True:=⟨⟩
theorem tw8768000338941576141:True:=⟨⟩
theorem tw10582461171423906337:True:=⟨⟩
theorem tw10601876683082413005:True:=⟨⟩
theorem tw15604749856896404320:True:=⟨⟩
theorem tw6850311419343705861:True:=⟨⟩
theorem tw2619150693400628879:True:=⟨⟩
theorem tw11257617713476766041:True:=⟨⟩
theorem tw4070769489467357963:True:=⟨⟩
theorem tw8684250411929028328:True:=⟨⟩
theorem tw2816278947314761254:True:=⟨⟩
theorem tw16737560370549933430:True:=⟨⟩
theorem tw5636356023492888446:True:=⟨⟩
theorem tw1346736810488132960:True:=⟨⟩
theorem tw4081654824220831026:True:=⟨⟩
theorem tw6144010069435081672:True:=⟨⟩
theorem tw696860265287774477:True:=⟨⟩
theorem tw16624316158251616403:True:=⟨⟩
theorem tw4866223729248149593:True:=⟨⟩
theorem tw12685477884586614476:True:=⟨⟩
theorem tw17465785538229319579:True:=⟨⟩
theorem tw838342137459002324:True:=⟨⟩
theorem tw4099025364875833267:True:=⟨⟩
theorem tw17540491287076034064:True:=⟨⟩
theorem tw9884163779635146664:True:=⟨⟩
theorem tw17789238090465400116:True:=⟨⟩
theorem tw1129195291516424942:True:=⟨⟩
theorem tw7969443885964433143:True:=⟨⟩
theorem tw4998567192736981673:True:=⟨⟩
theorem tw8879581901444546856:True:=⟨⟩
theorem tw8481338885328730590:True:=⟨⟩
theorem tw15838227151941007986:True:=⟨⟩
theorem tw4262620026771497181:True:=⟨⟩
theorem tw16404872515453811103:True:=⟨⟩
theorem tw3972784647333784833:True:=⟨⟩
theorem tw8893720359772688300:True:=⟨⟩
theorem tw12056048169823351381:True:=⟨⟩
theorem tw104816169071191892:True:=⟨⟩
theorem tw17916357716789434628:True:=⟨⟩
theorem tw5463343248017150525:True:=⟨⟩
theorem tw1757715445984085363:True:=⟨⟩
theorem tw14040381691137025839:True:=⟨⟩
theorem tw12353742251757800746:True:=⟨⟩
theorem tw3932031727256366568:True:=⟨⟩
theorem tw12601319498442332962:True:=⟨⟩
theorem tw10940877751552664829:True:=⟨⟩
theorem tw4647652808720344823:True:=⟨⟩
theorem tw196081682945658396:True:=⟨⟩
theorem tw8903368839129439504:True:=⟨⟩
theorem tw3545822690572880140:True:=⟨⟩
theorem tw9625372172736795669:True:=⟨⟩
theorem tw92710565938487751:True:=⟨⟩
theorem tw1553419836476780917:True:=⟨⟩
theorem tw16679085093006139514:True:=⟨⟩
theorem tw7287508207616130166:True:=⟨⟩
theorem tw499105548896716215:True:=⟨⟩
theorem tw1167353341996785701:True:=⟨⟩
theorem tw14377589848061749009:True:=⟨⟩
theorem tw9421698953167832713:True:=⟨⟩
theorem tw6939875455022121316:True:=⟨⟩
theorem tw3646380517552101577:True:=⟨⟩
theorem tw3251773115468029992:True:=⟨⟩
theorem tw11266971163427507576:True:=⟨⟩
theorem tw18072299943772876319:True:=⟨⟩
theorem tw14087745020362219690:True:=⟨⟩
theorem tw5829900366205875760:True:=⟨⟩
theorem tw416357955759504252:True:=⟨⟩
theorem tw17116137439254523972:True:=⟨⟩
theorem tw9826842872106139912:True:=⟨⟩
theorem tw9282455314942669496:True:=⟨⟩
theorem tw3213358237648602382:True:=⟨⟩
theorem tw6457287671686905792:True:=⟨⟩
theorem tw6366845150744028864:True:=⟨⟩
theorem tw1364394857662940940:True:=⟨⟩
theorem tw10283675202001168789:True:=⟨⟩
theorem tw1413957015148461930:True:=⟨⟩
theorem tw2890708781690698105:True:=⟨⟩
theorem tw8587413327365899455:True:=⟨⟩
theorem tw7927423334141275021:True:=⟨⟩
theorem tw3737048453214400138:True:=⟨⟩
theorem tw15614866870847884676:True:=⟨⟩
theorem tw15057555315109046969:True:=⟨⟩
theorem tw15616201956213749273:True:=⟨⟩
theorem tw9026492087644701967:True:=⟨⟩
theorem tw7672816725265364431:True:=⟨⟩
theorem tw7592413105594612072:True:=⟨⟩
theorem tw4649186059241258536:True:=⟨⟩
theorem tw17327082832035256335:True:=⟨⟩
theorem tw2789039020277059465:True:=⟨⟩
theorem tw1981912863317553081:True:=⟨⟩
theorem tw17963084881260311845:True:=⟨⟩
theorem tw7584926795044141310:True:=⟨⟩
theorem tw8696076859814605323:True:=⟨⟩
theorem tw7312093232653336908:True:=⟨⟩
theorem tw15761675836525926613:True:=⟨⟩
theorem tw11060409820914518382:True:=⟨⟩
theorem tw192098086096390763:True:=⟨⟩
theorem tw11088994182634772815:True:=⟨⟩
theorem tw10477367175084753696:True:=⟨⟩
theorem tw13602505413918407140:True:=⟨⟩
theorem tw12599154149453762172:True:=⟨⟩
theorem tw11199354349684144071:True:=⟨⟩
theorem tw10559847970557458520:True:=⟨⟩
theorem tw15519382434606354873:True:=⟨⟩
theorem tw10348979663072435605:True:=⟨⟩
theorem tw12968700244364087924:True:=⟨⟩
theorem tw12496288222972607169:True:=⟨⟩
theorem tw12040610782272107892:True:=⟨⟩
theorem tw12776590884772825469:True:=⟨⟩
theorem tw13436499416033401625:True:=⟨⟩
theorem tw12913345940100931149:True:=⟨⟩
theorem tw11311781242542744233:True:=⟨⟩
theorem tw12791681747067763575:True:=⟨⟩
theorem tw14706072513883632526:True:=⟨⟩
theorem tw17169079195650142772:True:=⟨⟩
theorem tw12890850815590727021:True:=⟨⟩
theorem tw5776095941029250377:True:=⟨⟩
theorem tw13348764509084976600:True:=⟨⟩
theorem tw13915039389653289436:True:=⟨⟩
theorem tw13848818647906085368:True:=⟨⟩
theorem tw13763515164316065143:True:=⟨⟩
theorem tw13452140310305924438:True:=⟨⟩
theorem tw13336721647615923985:True:=⟨⟩
theorem tw12647233966899291655:True:=⟨⟩
theorem tw12491374656261622191:True:=⟨⟩
theorem tw11707731221205752756:True:=⟨⟩
theorem tw15496477909187448181:True:=⟨⟩
theorem tw15360894261056874254:True:=⟨⟩
theorem tw7784009378770273899:True:=⟨⟩
theorem tw6639306589898545478:True:=⟨⟩
theorem tw4926357274969356763:True:=⟨⟩
theorem tw3971689228761266930:True:=⟨⟩
theorem tw3167475834128034020:True:=⟨⟩
theorem tw18345743556950748225:True:=⟨⟩
theorem tw1269632080560212488:True:=⟨⟩
theorem tw18056721751841767601:True:=⟨⟩
theorem tw17577422502555831882:True:=⟨⟩
theorem tw17218776618055179663:True:=⟨⟩
theorem tw16857759600297945939:True:=⟨⟩
theorem tw1677409860539641797:True:=⟨⟩
theorem tw1632300810017623810:True:=⟨⟩
theorem tw9710613359258347376:True:=⟨⟩
theorem tw9695444045342863339:True:=⟨⟩
theorem tw8007136992611811012:True:=⟨⟩
theorem tw7907106108174176483:True:=⟨⟩
theorem tw7699485226758569257:True:=⟨⟩
theorem tw7360734909409049482:True:=⟨⟩
theorem tw7286566561872990158:True:=⟨⟩
theorem tw6735493396406849641:True:=⟨⟩
theorem tw6275539250505411818:True:=⟨⟩
theorem tw6051241101468189276:True:=⟨⟩
theorem tw5358356035894121385:True:=⟨⟩
theorem tw5044889393749849013:True:=⟨⟩
theorem tw4769433612913108327:True:=⟨⟩
theorem tw4650590054750433804:True:=⟨⟩
theorem tw4097186157412917475:True:=⟨⟩
theorem tw3448746259696873185:True:=⟨⟩
theorem tw328403185504558303:True:=⟨⟩
theorem tw3211282471984937907:True:=⟨⟩
theorem tw3163088246846816383:True:=⟨⟩
theorem tw2520802761394203063:True:=⟨⟩
theorem tw2263195266344650134:True:=⟨⟩
theorem tw1972164182752988718:True:=⟨⟩
theorem tw18411027355470322263:True:=⟨⟩
theorem tw17711762945341059776:True:=⟨⟩
theorem tw111876120673608205:True:=⟨⟩
theorem tw12254471300896281593:True:=⟨⟩
theorem tw5918721274611430100:True:=⟨⟩
theorem tw5346590430995836318:True:=⟨⟩
theorem tw4088656771973417855:True:=⟨⟩
theorem tw4034522033996121348:True:=⟨⟩
theorem tw1854971686004990358:True:=⟨⟩
theorem tw14954465931772329703:True:=⟨⟩
theorem tw13634799325389219524:True:=⟨⟩
theorem tw3706062302322750386:True:=⟨⟩
theorem tw6961201245844809953:True:=⟨⟩
theorem tw9272925099917058196:True:=⟨⟩
theorem tw10083314339800831764:True:=⟨⟩
theorem tw11841877157762418935:True:=⟨⟩
theorem tw1443919009386173885:True:=⟨⟩
theorem tw15370913193484586115:True:=⟨⟩
theorem tw9023617974646968873:True:=⟨⟩
theorem tw5989549488797505168:True:=⟨⟩
theorem tw3574497831900341762:True:=⟨⟩
theorem tw16725721060933635036:True:=⟨⟩
theorem tw8439587239185578912:True:=⟨⟩
theorem tw8167414436888567647:True:=⟨⟩
theorem tw696375709716112854:True:=⟨⟩
theorem tw5306057644218698318:True:=⟨⟩
theorem tw2412745903134819145:True:=⟨⟩
theorem tw9162080807646266209:True:=⟨⟩
theorem tw7826255443659210492:True:=⟨⟩
theorem tw3686795690645959954:True:=⟨⟩
theorem tw2951376828131032041:True:=⟨⟩
theorem tw16503398415143109670:True:=⟨⟩
theorem tw10145539047183898406:True:=⟨⟩
theorem tw1487920961924819610:True:=⟨⟩
theorem tw16193122015705932330:True:=⟨⟩
theorem tw14135129494116685457:True:=⟨⟩
theorem tw13935037798151574470:True:=⟨⟩
theorem tw9566999425275071562:True:=⟨⟩
theorem tw7959987355747705521:True:=⟨⟩
theorem tw6505111451234800582:True:=⟨⟩
theorem tw3939585525737286913:True:=⟨⟩
theorem tw2219847198653974872:True:=⟨⟩
theorem tw17445970899024330194:True:=⟨⟩
theorem tw17355268142705544201:True:=⟨⟩
theorem tw17343811205321589157:True:=⟨⟩
theorem tw17119353742412682439:True:=⟨⟩
theorem tw16657224301313789942:True:=⟨⟩
theorem tw16477558197537979478:True:=⟨⟩
theorem tw16068035217732630207:True:=⟨⟩
theorem tw15810454655315133341:True:=⟨⟩
theorem tw15806605368522894508:True:=⟨⟩
theorem tw1577288330594384142:True:=⟨⟩
theorem tw15416624845519460539:True:=⟨⟩
theorem tw15285570042532782673:True:=⟨⟩
theorem tw15121290065168170477:True:=⟨⟩
theorem tw14910670984983820269:True:=⟨⟩
theorem tw14791824920167759741:True:=⟨⟩
theorem tw14750727677409573561:True:=⟨⟩
theorem tw14642533462734102476:True:=⟨⟩
theorem tw14617366314508848409:True:=⟨⟩
theorem tw14598443630684621705:True:=⟨⟩
theorem tw14587730879902586400:True:=⟨⟩
theorem tw14116741446487415864:True:=⟨⟩
theorem tw1405422420530117000:True:=⟨⟩
theorem tw14026930953052062915:True:=⟨⟩
theorem tw13465168974648924695:True:=⟨⟩
theorem tw13444572778036374492:True:=⟨⟩
theorem tw13087978199607836978:True:=⟨⟩
theorem tw12837250305449170011:True:=⟨⟩
theorem tw12813137413929628411:True:=⟨⟩
theorem tw12738326544126169322:True:=⟨⟩
theorem tw12642103871383221635:True:=⟨⟩
end PySem.W.Fast
open PySem PySem.W PyProof.Rows
set_option maxRecDepth 100000 in
set_option maxHeartbeats 0 in
theorem PySem.Challenge.cw_hushduel_k18_what_is_a_plan_holds : PySem.Challenge.rw_hushduel_k18_what_is_a_plan.Holds := by
 w_on;o_law;k_head;(case hw=>w_witness2)
 k_fill
 refine K18.walk (l:=PySem.Challenge.rw_hushduel_k18_what_is_a_plan) rfl rfl (λw h Y=>PySem.W.kIn_of Y) ?F
 case F=>
  intro w mg e h KX G d;refine' K18.all_mk KX G d ⟨?_,?_,?_,?_,?_,?_,?_,?_,?_,?_,?_,?_,?_,?_,?_,?_,?_,?_,?_,?_,?_,?_,?_,?_,?_,?_,?_,?_,?_,?_,?_,?_,?_,?_,?_,?_,?_,?_,?_,?_,?_,?_,?_,?_,?_,?_,?_,?_,?_,?_,?_,?_,?_,?_,?_,?_,?_,?_,?_,?_,?_,?_,?_,?_,?_,?_,?_,?_,?_⟩ ?_ ?_ ?_ ?_ ?_ ?_ ?eNoPlan ?_ ?_ ?_ ?_ ?_ ?_ ?uDuelErrorNoPlan ?wNoNameNoPlan ?vNoName ?wNoNumberNoPlan ?vNoNumber ?wNoPlanNoPlan ?vNoPlan ?wNoWordNoPlan ?vNoWord ?wTooGreatNoPlan ?vTooGreat ?wValueErrorNoPlan
  all_goals try first | (refine' F.qd ?a ?l ?c ?k;(case a=>k_is);(case l=>k_is);(case c=>k_is);(case k=>k_is)) | (refine' F.ck ?a ?b;(case a=>k_is);(case b=>k_is)) | (refine' F.ci ?a;(case a=>k_is)) | (unfold F.NO;k_is) | k_is
  (case eNoPlan=>k_exc)
  (case uDuelErrorNoPlan=>kts_exm)
  (case wNoNameNoPlan=>(first | kit_is | (unfold ic;rw [if_pos (by simp)])))
  (case vNoName=>(first | kit_is | (unfold ic;rw [if_neg (by simp)];k_is) | k_is))
  (case wNoNumberNoPlan=>(first | kit_is | (unfold ic;rw [if_pos (by simp)])))
  (case vNoNumber=>(first | kit_is | (unfold ic;rw [if_neg (by simp)];k_is) | k_is))
  (case wNoPlanNoPlan=>(first | kit_is | (unfold ic;rw [if_pos (by simp)])))
  (case vNoPlan=>(first | kit_is | (unfold ic;rw [if_neg (by simp)];k_is) | k_is))
  (case wNoWordNoPlan=>(first | kit_is | (unfold ic;rw [if_pos (by simp)])))
  (case vNoWord=>(first | kit_is | (unfold ic;rw [if_neg (by simp)];k_is) | k_is))
  (case wTooGreatNoPlan=>(first | kit_is | (unfold ic;rw [if_pos (by simp)])))
  (case vTooGreat=>(first | kit_is | (unfold ic;rw [if_neg (by simp)];k_is) | k_is))
  (case wValueErrorNoPlan=>(first | kit_is | (unfold ic;rw [if_pos (by simp)])))
