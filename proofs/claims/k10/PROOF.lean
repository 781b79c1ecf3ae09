import PyProof.Rows.All
import Wide.All
import OpenK.AllK
import Wide.FinOn
import Lean
import PyProof.EqAt
import PyProof.EqKinds
import PyProof.TupleCall
import PyProof.TupleKey
import PyProof.Rows.Catch
import KE.KRevSl
import PyProof.P3Eq
import KE.LcSums
import PyProof.EnumMake
import PyProof.StrWalks
import PyProof.Conv_int_bool
import KE.KIntText
import PyProof.Rows.StrNews2
import PyProof.StrBlock2
import PyProof.Rows.StrNews
import PyProof.StrLawsRepr
import PyProof.ReprStr
import PyProof.ReprRoads
import PyProof.DictIter
import PyProof.Rows.SetFrom
import KE.KDictList
import KE.KDictOf
import PyProof.AttrMissHeap
import KE.KEqDict
import PyProof.DictItems
import KE.KPairComp
import PyProof.Rows.Range3
import KE.IntTextText
import PyProof.StrLawsFirst
import PyProof.ReprBulk
import PyProof.ZipIter
import PyProof.Rows.ZipGen
import PyProof.TupleIter
import PyProof.ListRange
import PyProof.NeKinds
import PyProof.StrLawsTight
import PyProof.StrLawsChain
import PyProof.Draws
import PyProof.Rows.MatchSeqLen
import PyProof.SumAnyB
import PyProof.ExcInit
import PyProof.InstStoreFacts
import PyProof.DictUpdate
import PySem.Challenge.RW_hushduel_k10_no_text_of_a_game
set_option compiler.extract_closed false
set_option genSizeOf false
noncomputable section
open PySem.Str renaming ofString->ae,empty->js,ofString_eq_toList->lI
open Or renaming inl->af,inr->kF
open List renaming mem_cons->ag,length_append->aw,mem_cons_of_mem->ax,append_assoc->aE,mem_cons_self->a8,size_toArray->bp,cons_append->br,mem_append->bE,replicate->bP,length_cons->bX,getElem?_append_left->b9,getElem?_append_right->cc,not_mem_nil->cp,mem_singleton->cx,getElem?_map->c9,lookup_cons->de,getElem?_set_self->dy,getElem?_set_ne->dA,mem_append_right->dE,nil_append->ef,getElem?_replicate->eA,append_nil->eC,getElem?_eq_getElem->eI,map_cons->eJ,count_append->eM,getElem?_eq_some_iff->eW,length_map->fA,replicate_succ->gc,all_eq_true->gL,count_cons->h8,range->ij,length_take->ip,length_drop->iq,lookup->iL,mem_of_getElem?->iO,flatten_cons->i4,mem_filterMap->jI,length_replicate->kl,length_singleton->ko,Nodup->kB,filterMap_cons->kK,mem_map->kQ,foldl_cons->k9,getElem?_cons_succ->lh,length_nil->lx,take_of_length_le->lP,mem_range'_1->l7,dropLast_concat_getLast->mn,nodup_cons->mS,map_append->nv,drop_eq_getElem_cons->oq,drop_left->oz,all_cons->pd,length_eq_zero_iff->p0,range'->qf,of_mem_zip->rh,dropLast_eq_take->rL,take_append_drop->rX,isPrefixOf->sj,mem_append_left->sF,mem_of_mem_take->sN,mem_of_mem_drop->sP,sum_cons->vb,foldl->vk
open PySem.Heap renaming get?_push_of_some->ah,lt_size->bq,get?_push_size->b0,get?_update_other->eP,MadeExcOf->l9,SameBut->ma,size_push->om,get?_update_self->rp
open PySem renaming starEach->ar,wpAny_bind->ay,Shared->aT,Value->a7,sizeLine->be,Program->bg,mainGlobals->bo,wpAny_pure->bS,bootBuiltins->cf,wpAny->cn,model->cq,World->cw,compareOp->dk,FuncData->dQ,Around->eB,binaryOp->gp,wpAny_mono->gS,wpAny_truthy_bool->gT,foldedSetIterable->gX,backTo->hJ,behindInMarks->iv,wpAny_passesOwn->iS,attributeBase->i7,mem_of_lookup->i8,swapsWith->ja,wpAny_Call_Name_kw->jS,Paired->j3,wpAny_execs_nil->ka,wpAny_newObj_type->ky,wpAny_loadPart_at->kA,assignEach->kM,codeAny_mono->kN,scanBound->ll,wpAny_field->l0,sliceBounds->l6,GenState->l8,codeAny_call_builtin->mi,sysModules->mo,keywordEach->mT,codeAny_builtin->nc,strKind->nk,Scope->oB,wpAny_pyIter_list->oC,typeIs_str->oD,wpAny_comprehension_free->oQ,codeAny->pk,NameKind->pw,reprText->pE,wpAny_execs_cons->qh,noFill_tuple_add->qk,PyData->qo,wpAny_specialOf->qE,letOwnedTupleGo->qV,concat_meets->rj,call_meets->sx,intText?->sC,wpAny_setField->sR,intText_digits->sT,Keyword->tj,strIterType->tq,PassesOwn->t9,seq_tuple_add->uj,wpAny_holding->uk,backToKw->uu,wpAny_call->vj,callerA->vt,strKind_is->vv,Within->vE,IsPart->wb,bindArgs->wq,evalEach->wx,cLine->w4,getItem->xb,BindsTo->xc,JoinOk->xk,assign->xo,call->xt
open PySem.W renaming Frag->av,kitOne->d4,kitOne->eu,nsIn->ff,findIn->fv,mg_none_of->fT,kia_one->hU,mg_of->ia,emptyDict->kg,keepIn->kX,instObj->mB,hasDictIn->mP,looks_findIn->oj,plainGet->oI,hideAll_get->pf,callWith_K->rg,fnOf->ri,plainOver->tf,plainGet_of->ua,makesIn->ub,exmOne->uS,of_hideAll->vF,codeIn->wt,hideAll->xa,excIn->xi
open Bool renaming false_ne_true->aI,and_eq_true->cy,false_eq_true->kU,eq_iff_iff->mM,or_eq_true->r9
open Nat renaming lt_of_lt_of_le->aS,le_refl->a9,le_trans->cm,ne_of_lt->c8,lt_irrefl->fw,zero_le->fF,pow_le_pow_right->iP,lt_succ_self->kH,strongRecOn->nB,add_assoc->pb,add_sub_cancel_left->pz,ne_of_gt->qS,toDigits->rV,le_of_dvd->va,le_of_lt->vS,gcd_comm->wc,le_succ->xh,add_mul->xl
open Option.some renaming inj->ck
open List.cons renaming injEq->cE
open PySem.Txt renaming partition->cK,startswith->gu,slice->h7,startswith3->kv,join->sA
open PySem.Value renaming ref->cS,none->gE,str->kR,builtin->mm,bool->sk,type->sv,int->tw,float->w9
open PySem.Builtin.Str renaming occurrences->dP,tooLong->nh,strSub->oe
open PySem.F renaming plainAttrs_list->dS,plainAttrs_str->eD,slot_list_append->fg,type_list_append->fq,called_set->fN,slot_str_join->iE,type_str_join->iF,slot_tuple_hash->i6,args_tuple_add_2->kP,entry_tuple_add->k8,slot_tuple_add->ly,typeOf_object_class->me,slot_list_pop->mf,type_list_pop->mh,slot_str_startswith->nE,type_str_startswith->nI,excBase_ValueError->nS,slot_str_partition->nV,slot_str_getitem->oT,slot_int_rmul->rS,slot_gs_get->u7
open PySem.NameKind renaming free->eK,cell->i9
open PySem.Builtin.Tuple renaming tupleHashOf->eR,tupleExact->i0,tupleItemsOf->nK
open Int renaming emod_lt_of_pos->fR,emod_nonneg->gy,natAbs_dvd_natAbs->iA,fdiv_eq_ediv_of_nonneg->kC,mul_comm->nX,gcd->pS,eq_ofNat_of_zero_le->pV
open False renaming elim->fS
open PyProof.Rows.F renaming plain_set_update_loop->gN,entry_set_update_loop->kG
open PySem.PassesOwn renaming leaving->hG
open PySem.Builtin.Int renaming intBits->hV,intTooBig->rl
open Option renaming map_some->hZ
open Array renaming getElem?_eq_some_iff->h9,length_toList->mE,getElem?_toList->rk,forIn_toList->tJ,append_assoc->tP,toList->vT
open Classical renaming choose_spec->ix,em->rq,choose->wm
open PySem.Builtin.Slice renaming slicePlaces->iN,sliceAdjust->kD,sliceApplied->nN
open PyProof.Rows renaming slot_tuple_getitem->iX,callWith_type1->mI,kindOf->oP,AllBare->pj,envOfC->sQ
open PySem.Builtin.List renaming listTooLong->i5
open Char renaming toNat->jv
open PySem.SeqAt renaming shaped->ku,EqAt->vi
open Ne renaming symm->kL
open True renaming intro->mx
open ForInStep renaming yield->ng
open PySem.Calls renaming Name_function_global->nL,callWith_builtin->qA,evalArgs_plain->sL
open Prod renaming fst->n9
open PySem.Paired renaming length->pe
open PySem.Obj renaming mapFields->px
open PySem.StrLaws renaming occ_head->qq,subAt_eq->qr,sliceText_from->qB,strSub_toList->si,sliceText->vw
open PySem.Around renaming under_plainId->sM,under->v8
open PySem.EntryCells renaming newEntry->tm
open PySem.SeqAt.EqAt renaming int_str->tz,str_int->tF,int_int->ui,same->w8
open Sum renaming inl->vc,inr->ve
open PySem.Code renaming isFrame->v9
open PySem.DictEntry renaming refKey->we
open PySem.PyData renaming eqv->xw
abbrev Za:=PySem.Addr->Prop
abbrev Zs:=PySem.Str->Option PySem.Value
abbrev Zo:=List<|PySem.Addr×PySem.Obj
abbrev Zv:=PySem.Value->PySem.Shared->Prop
theorem xq5 {A B C D E:Sort _}{R Q:A->B->C->D->E->Prop}{P:Prop}(h:∃a b c d e,R a b c d e/\Q a b c d e)(k:∀a b c d e,R a b c d e->Q a b c d e->P):P:=by
 obtain⟨a,b,c,d,e,r,q⟩:=h;exact k a b c d e r q
theorem xq7 {A B C D E F G:Sort _}{R Q S T:A->B->C->D->E->F->G->Prop}{P:Prop}(h:∃a b c d e f g,R a b c d e f g/\Q a b c d e f g/\S a b c d e f g/\T a b c d e f g)(k:∀a b c d e f g,R a b c d e f g->Q a b c d e f g->S a b c d e f g->T a b c d e f g->P):P:=by
 obtain⟨a,b,c,d,e,f,g,r,q,s,t⟩:=h;exact k a b c d e f g r q s t
theorem xq2 {A B:Sort _}{R Q S:A->B->Prop}{P:Prop}(h:∃a b,R a b/\Q a b/\S a b)(k:∀a b,R a b->Q a b->S a b->P):P:=by
 obtain⟨a,b,r,q,s⟩:=h;exact k a b r q s
theorem xl1 {A:Type _}{us:List A}(h:us.length=1):∃a,us=[a]:=by
 cases us with
 |nil=>cases h
 |cons a t=>cases t with
  |nil=>exact⟨a,rfl⟩
  |cons _ _=>cases h
theorem xl0 {A:Type _}{us:List A}{n:Nat}(h:us.length=n+1):∃a t,us=a::t/\t.length=n:=by
 cases us with
 |nil=>cases h
 |cons a t=>exact⟨a,t,rfl,Nat.succ.inj h⟩
theorem xl2 {A:Type _}{us:List A}(h:us.length=2):∃a b,us=[a,b]:=by
 obtain⟨a,t,rfl,h'⟩:=xl0 (n:=1) h;obtain⟨b,rfl⟩:=xl1 h';exact⟨a,b,rfl⟩
theorem xl3 {A:Type _}{us:List A}(h:us.length=3):∃a b c,us=[a,b,c]:=by
 obtain⟨a,t,rfl,h'⟩:=xl0 (n:=2) h;obtain⟨b,c,rfl⟩:=xl2 h';exact⟨a,b,c,rfl⟩
theorem xl4 {A:Type _}{us:List A}(h:us.length=4):∃a b c d,us=[a,b,c,d]:=by
 obtain⟨a,t,rfl,h'⟩:=xl0 (n:=3) h;obtain⟨b,c,d,rfl⟩:=xl3 h';exact⟨a,b,c,d,rfl⟩
set_option Elab.async false
set_option linter.all false
set_option maxRecDepth 100000
theorem Dv {P0 P1 P2 P3 P4:Prop}{Z:Prop}(h:P0/\P1/\P2/\P3/\P4)(z:P0->P1->P2->P3->P4->Z):Z:=by
 obtain⟨h0,h1,h2,h3,h4⟩:=h;exact z h0 h1 h2 h3 h4
theorem rP {P0 P1 P2 P3 P4 P5:Prop}{Z:Prop}(h:P0/\P1/\P2/\P3/\P4/\P5)(z:P0->P1->P2->P3->P4->P5->Z):Z:=by
 obtain⟨h0,h1,h2,h3,h4,h5⟩:=h;exact z h0 h1 h2 h3 h4 h5
theorem W2 {Ta Tb Tc Td Te Tf Tg Th Ti Tj:Sort _}{P0 P1:Ta->Tb->Tc->Td->Te->Tf->Tg->Th->Ti->Tj->Prop}{Z:Prop}(h:∃a b c d e f g h i j,P0 a b c d e f g h i j/\P1 a b c d e f g h i j)(z:∀a,∀b,∀c,∀d,∀e,∀f,∀g,∀h,∀i,∀j,P0 a b c d e f g h i j->P1 a b c d e f g h i j->Z):Z:=by
 obtain⟨a,b,c,d,e,f,g,h,i,j,h0,h1⟩:=h;exact z a b c d e f g h i j h0 h1
theorem W3 {Ta Tb Tc Td Te Tf Tg Th Ti Tj Tk Tl:Sort _}{P0 P1:Ta->Tb->Tc->Td->Te->Tf->Tg->Th->Ti->Tj->Tk->Tl->Prop}{Z:Prop}(h:∃a b c d e f g h i j k l,P0 a b c d e f g h i j k l/\P1 a b c d e f g h i j k l)(z:∀a,∀b,∀c,∀d,∀e,∀f,∀g,∀h,∀i,∀j,∀k,∀l,P0 a b c d e f g h i j k l->P1 a b c d e f g h i j k l->Z):Z:=by
 obtain⟨a,b,c,d,e,f,g,h,i,j,k,l,h0,h1⟩:=h;exact z a b c d e f g h i j k l h0 h1
theorem t7 {Ta:Sort _}{P0 P1 P2 P3:Ta->Prop}{Z:Prop}(h:∃a,P0 a/\P1 a/\P2 a/\P3 a)(z:∀a,P0 a->P1 a->P2 a->P3 a->Z):Z:=by
 obtain⟨a,h0,h1,h2,h3⟩:=h;exact z a h0 h1 h2 h3
theorem vQ {Ta:Sort _}{P0 P1 P2 P3 P4:Ta->Prop}{Z:Prop}(h:∃a,P0 a/\P1 a/\P2 a/\P3 a/\P4 a)(z:∀a,P0 a->P1 a->P2 a->P3 a->P4 a->Z):Z:=by
 obtain⟨a,h0,h1,h2,h3,h4⟩:=h;exact z a h0 h1 h2 h3 h4
theorem uM {Ta Tb:Sort _}{P0 P1 P2:Ta->Tb->Prop}{Z:Prop}(h:∃a b,P0 a b/\P1 a b/\P2 a b)(z:∀a,∀b,P0 a b->P1 a b->P2 a b->Z):Z:=by
 obtain⟨a,b,h0,h1,h2⟩:=h;exact z a b h0 h1 h2
theorem rz {Ta Tb:Sort _}{P0 P1 P2 P3:Ta->Tb->Prop}{Z:Prop}(h:∃a b,P0 a b/\P1 a b/\P2 a b/\P3 a b)(z:∀a,∀b,P0 a b->P1 a b->P2 a b->P3 a b->Z):Z:=by
 obtain⟨a,b,h0,h1,h2,h3⟩:=h;exact z a b h0 h1 h2 h3
theorem uD {Ta Tb:Sort _}{P0 P1 P2 P3 P4:Ta->Tb->Prop}{Z:Prop}(h:∃a b,P0 a b/\P1 a b/\P2 a b/\P3 a b/\P4 a b)(z:∀a,∀b,P0 a b->P1 a b->P2 a b->P3 a b->P4 a b->Z):Z:=by
 obtain⟨a,b,h0,h1,h2,h3,h4⟩:=h;exact z a b h0 h1 h2 h3 h4
theorem Rw {Ta Tb:Sort _}{P0 P1 P2 P3 P4 P5:Ta->Tb->Prop}{Z:Prop}(h:∃a b,P0 a b/\P1 a b/\P2 a b/\P3 a b/\P4 a b/\P5 a b)(z:∀a,∀b,P0 a b->P1 a b->P2 a b->P3 a b->P4 a b->P5 a b->Z):Z:=by
 obtain⟨a,b,h0,h1,h2,h3,h4,h5⟩:=h;exact z a b h0 h1 h2 h3 h4 h5
theorem Fo {Ta Tb Tc:Sort _}{P0 P1:Ta->Tb->Tc->Prop}{Z:Prop}(h:∃a b c,P0 a b c/\P1 a b c)(z:∀a,∀b,∀c,P0 a b c->P1 a b c->Z):Z:=by
 obtain⟨a,b,c,h0,h1⟩:=h;exact z a b c h0 h1
theorem Kz {Ta Tb Tc:Sort _}{P0 P1 P2:Ta->Tb->Tc->Prop}{Z:Prop}(h:∃a b c,P0 a b c/\P1 a b c/\P2 a b c)(z:∀a,∀b,∀c,P0 a b c->P1 a b c->P2 a b c->Z):Z:=by
 obtain⟨a,b,c,h0,h1,h2⟩:=h;exact z a b c h0 h1 h2
theorem Ir {Ta Tb Tc:Sort _}{P0 P1 P2 P3:Ta->Tb->Tc->Prop}{Z:Prop}(h:∃a b c,P0 a b c/\P1 a b c/\P2 a b c/\P3 a b c)(z:∀a,∀b,∀c,P0 a b c->P1 a b c->P2 a b c->P3 a b c->Z):Z:=by
 obtain⟨a,b,c,h0,h1,h2,h3⟩:=h;exact z a b c h0 h1 h2 h3
theorem U7 {Ta Tb Tc:Sort _}{P0 P1 P2 P3 P4:Ta->Tb->Tc->Prop}{Z:Prop}(h:∃a b c,P0 a b c/\P1 a b c/\P2 a b c/\P3 a b c/\P4 a b c)(z:∀a,∀b,∀c,P0 a b c->P1 a b c->P2 a b c->P3 a b c->P4 a b c->Z):Z:=by
 obtain⟨a,b,c,h0,h1,h2,h3,h4⟩:=h;exact z a b c h0 h1 h2 h3 h4
theorem XM {Ta Tb Tc:Sort _}{P0 P1 P2 P3 P4 P5:Ta->Tb->Tc->Prop}{Z:Prop}(h:∃a b c,P0 a b c/\P1 a b c/\P2 a b c/\P3 a b c/\P4 a b c/\P5 a b c)(z:∀a,∀b,∀c,P0 a b c->P1 a b c->P2 a b c->P3 a b c->P4 a b c->P5 a b c->Z):Z:=by
 obtain⟨a,b,c,h0,h1,h2,h3,h4,h5⟩:=h;exact z a b c h0 h1 h2 h3 h4 h5
theorem XH {Ta Tb Tc Td:Sort _}{P0:Ta->Tb->Tc->Td->Prop}{Z:Prop}(h:∃a b c d,P0 a b c d)(z:∀a,∀b,∀c,∀d,P0 a b c d->Z):Z:=by
 obtain⟨a,b,c,d,h0⟩:=h;exact z a b c d h0
theorem Rq {Ta Tb Tc Td:Sort _}{P0 P1:Ta->Tb->Tc->Td->Prop}{Z:Prop}(h:∃a b c d,P0 a b c d/\P1 a b c d)(z:∀a,∀b,∀c,∀d,P0 a b c d->P1 a b c d->Z):Z:=by
 obtain⟨a,b,c,d,h0,h1⟩:=h;exact z a b c d h0 h1
theorem Vm {Ta Tb Tc Td:Sort _}{P0 P1 P2:Ta->Tb->Tc->Td->Prop}{Z:Prop}(h:∃a b c d,P0 a b c d/\P1 a b c d/\P2 a b c d)(z:∀a,∀b,∀c,∀d,P0 a b c d->P1 a b c d->P2 a b c d->Z):Z:=by
 obtain⟨a,b,c,d,h0,h1,h2⟩:=h;exact z a b c d h0 h1 h2
theorem j4 {Ta Tb Tc Td:Sort _}{P0 P1 P2 P3 P4:Ta->Tb->Tc->Td->Prop}{Z:Prop}(h:∃a b c d,P0 a b c d/\P1 a b c d/\P2 a b c d/\P3 a b c d/\P4 a b c d)(z:∀a,∀b,∀c,∀d,P0 a b c d->P1 a b c d->P2 a b c d->P3 a b c d->P4 a b c d->Z):Z:=by
 obtain⟨a,b,c,d,h0,h1,h2,h3,h4⟩:=h;exact z a b c d h0 h1 h2 h3 h4
theorem XF {Ta Tb Tc Td Te:Sort _}{P0:Ta->Tb->Tc->Td->Te->Prop}{Z:Prop}(h:∃a b c d e,P0 a b c d e)(z:∀a,∀b,∀c,∀d,∀e,P0 a b c d e->Z):Z:=by
 obtain⟨a,b,c,d,e,h0⟩:=h;exact z a b c d e h0
theorem Jp {Ta Tb Tc Td Te:Sort _}{P0 P1:Ta->Tb->Tc->Td->Te->Prop}{Z:Prop}(h:∃a b c d e,P0 a b c d e/\P1 a b c d e)(z:∀a,∀b,∀c,∀d,∀e,P0 a b c d e->P1 a b c d e->Z):Z:=by
 obtain⟨a,b,c,d,e,h0,h1⟩:=h;exact z a b c d e h0 h1
theorem XQ {Ta Tb Tc Td Te:Sort _}{P0 P1 P2 P3 P4 P5 P6:Ta->Tb->Tc->Td->Te->Prop}{Z:Prop}(h:∃a b c d e,P0 a b c d e/\P1 a b c d e/\P2 a b c d e/\P3 a b c d e/\P4 a b c d e/\P5 a b c d e/\P6 a b c d e)(z:∀a,∀b,∀c,∀d,∀e,P0 a b c d e->P1 a b c d e->P2 a b c d e->P3 a b c d e->P4 a b c d e->P5 a b c d e->P6 a b c d e->Z):Z:=by
 obtain⟨a,b,c,d,e,h0,h1,h2,h3,h4,h5,h6⟩:=h;exact z a b c d e h0 h1 h2 h3 h4 h5 h6
theorem XN {Ta Tb Tc Td Te Tf:Sort _}{P0:Ta->Tb->Tc->Td->Te->Tf->Prop}{Z:Prop}(h:∃a b c d e f,P0 a b c d e f)(z:∀a,∀b,∀c,∀d,∀e,∀f,P0 a b c d e f->Z):Z:=by
 obtain⟨a,b,c,d,e,f,h0⟩:=h;exact z a b c d e f h0
namespace L2
open PySem PySem.Spec PyProof.Rows
abbrev Key:=Sum Int Str
noncomputable def CT:Key->a7->Bool
 | .inl k,v=>Value.isInt k v
 | .inr x,v=>Value.isStrOf x v
noncomputable def Ve (w:cw):Key->Int
 | .inl k=>hashInt k
 | .inr x=>hashStr w x
theorem bI:∀{k:Key} {v:a7},CT k v=true->(∃i t,k=vc i/\v=tw i t)\/(∃x t,k=ve x/\v=kR x t)
 | .inl i,v,h=>by
  obtain⟨t,e⟩:=Value.isInt_shape (k:=i) (v:=v) h;exact .inl ⟨i,t,rfl,e⟩
 | .inr x,v,h=>by
  obtain⟨t,e⟩:=Value.isStrOf_shape (x:=x) (v:=v) h;exact .inr ⟨x,t,rfl,e⟩
theorem Ur (a b:Int):decide ((vc a:Key)=vc b)=(a==b):=by
 by_cases e:a=b
 ·subst e;simp
 ·have h:¬(vc a:Key)=vc b:=λq=>e<|Sum.inl.inj q;rw[decide_eq_false h];exact(beq_eq_false_iff_ne.mpr e).symm
theorem Su (a b:Str):decide ((ve a:Key)=ve b)=decide (a=b):=by
 by_cases e:a=b
 ·subst e;simp
 ·have h:¬(ve a:Key)=ve b:=λq=>e<|Sum.inr.inj q;rw[decide_eq_false h,decide_eq_false e]
theorem TY (a:Int)(b:Str):decide ((vc a:Key)=ve b)=false:=decide_eq_false λq=>nomatch q
theorem Ut (a:Str)(b:Int):decide ((ve a:Key)=vc b)=false:=decide_eq_false λq=>nomatch q
def pY (prog:bg)(w:cw):PySem.KeyKind prog w Key where
 is:=CT
 hash:=Ve w
 inj:=λv a b ha hb=>by
  rcases bI ha with⟨i,t,rfl,rfl⟩|⟨x,t,rfl,rfl⟩
  ·rcases bI hb with⟨j,u,rfl,e⟩|⟨y,u,rfl,e⟩
   ·injection e with e1 _;rw[e1]
   ·exact nomatch e
  ·rcases bI hb with⟨j,u,rfl,e⟩|⟨y,u,rfl,e⟩
   ·exact nomatch e
   ·injection e with e1 _;rw[e1]
 byValue:=λk v h=>by
  rcases bI h with⟨i,t,rfl,rfl⟩|⟨x,t,rfl,rfl⟩<;>rfl
 pyHash:=λhv h=>by
  rcases bI hv with⟨i,t,rfl,rfl⟩|⟨x,t,rfl,rfl⟩
  ·exact wpAny_pyHash_int h
  ·exact wpAny_pyHash_str h
 eqBool:=λhu hv h=>by
  rcases bI hu with⟨i,t,rfl,rfl⟩|⟨x,t,rfl,rfl⟩
  ·rcases bI hv with⟨j,u,rfl,rfl⟩|⟨y,u,rfl,rfl⟩
   ·rw[Ur] at h;exact wpAny_eqBool_int h
   ·rw[TY] at h;exact tz i t y u _ _ _ _ h
  ·rcases bI hv with⟨j,u,rfl,rfl⟩|⟨y,u,rfl,rfl⟩
   ·rw[Ut] at h;exact tF x t j u _ _ _ _ h
   ·rw[Su] at h;exact wpAny_eqBool_str h
 «strs»:=λk x t v h=>by
  rcases bI h with⟨i,u,rfl,e⟩|⟨y,u,rfl,e⟩
  ·exact nomatch e
  ·injection e with e1 _
   subst e1;cases v<;>rfl
inductive Kt where
 |k (x:Key)|t (xs:List Kt)
mutual
def Kt.dec:(a b:Kt)->Decidable (a=b)
 | .k x,.k y=>if h:x=y then .isTrue (by rw[h]) else .isFalse λe=>h<|by injection e
 | .t xs,.t ys=>match Kt.decs xs ys with
  | .isTrue h=>.isTrue<|by rw[h]
  | .isFalse h=>.isFalse λe=>h<|by injection e
 | .k _,.t _=>.isFalse λe=>nomatch e
 | .t _,.k _=>.isFalse λe=>nomatch e
def Kt.decs:(a b:List Kt)->Decidable (a=b)
 |[],[]=>.isTrue rfl
 |[],_::_=>.isFalse λe=>nomatch e
 |_::_,[]=>.isFalse λe=>nomatch e
 |x::xs,y::ys=>match Kt.dec x y,Kt.decs xs ys with
  | .isTrue h,.isTrue g=>.isTrue<|by rw[h,g]
  | .isFalse h,_=>.isFalse λe=>h<|by injection e
  |_,.isFalse g=>.isFalse λe=>g<|by injection e
end
instance:DecidableEq Kt:=Kt.dec
mutual
def pC (w:cw):Kt->Int
 | .k x=>Ve w x
 | .t xs=>reduceHash<|eR<|je w xs
def je (w:cw):List Kt->List Int
 |[]=>[]
 |x::xs=>pC w x::je w xs
end
mutual
def nY:Kt->Nat
 | .k _=>1
 | .t xs=>dF xs+1
def dF:List Kt->Nat
 |[]=>0
 |x::xs=>nY x+dF xs
end
def jm (h:Heap):Nat->Kt->a7->Prop
 |_,.k x,v=>CT x v=true
 |0,.t _,_=>False
 |n+1,.t xs,v=>∃a o items m,v=.ref a/\h.get? a=some o/\o.cls=.type "tuple"/\o.data=.seq items m/\j3 (jm h n) xs items.toList
theorem iV:jm h (n+1) (.t xs) v↔∃a o items m,v=.ref a/\h.get? a=some o/\o.cls=.type "tuple"/\o.data=.seq items m/\j3 (jm h n) xs items.toList:=by rw[jm]
theorem lE:jm h n (.k x) v↔CT x v=true:=by cases n<;>rw[jm]
theorem um {α β:Type}{F G:α->β->Prop}(f:∀a b,F a b->G a b):∀{l:List α} {m:List β},j3 F l m->j3 G l m
 |_,_,.nil=>.nil
 |_,_,.cons r t=>.cons (f _ _ r)<|um f t
theorem uP {α β:Type}{F:α->β->Prop}(f:∀x y b,F x b->F y b->x=y):∀{l l':List α} {m:List β},j3 F l m->j3 F l' m->l=l'
 |_,_,_,.nil,.nil=>rfl
 |_,_,_,.cons r t,.cons r' t'=>by rw[f _ _ _ r r',uP f t t']
theorem uq {h:Heap}:∀(n:Nat) (x y:Kt) (v:a7),jm h n x v->jm h n y v->x=y
 |n,.k x,.k y,v,hx,hy=>by
  rw[lE] at hx hy;rcases bI hx with⟨i,t,rfl,rfl⟩|⟨z,t,rfl,rfl⟩
  ·rcases bI hy with⟨j,u,rfl,e⟩|⟨y,u,rfl,e⟩
   ·injection e with e1 _;rw[e1]
   ·exact nomatch e
  ·rcases bI hy with⟨j,u,rfl,e⟩|⟨y,u,rfl,e⟩
   ·exact nomatch e
   ·injection e with e1 _;rw[e1]
 |0,.t _,_,_,hx,_=>by rw[jm] at hx;exact hx.elim
 |0,.k _,.t _,_,_,hy=>by rw[jm] at hy;exact hy.elim
 |n+1,.k x,.t ys,v,hx,hy=>by
  rw[lE] at hx;refine Rq (iV.mp hy) λa _ _ _ e _=>?_;subst e;rcases bI hx with⟨_,_,_,e⟩|⟨_,_,_,e⟩<;>exact nomatch e
 |n+1,.t xs,.k y,v,hx,hy=>by
  rw[lE] at hy;refine Rq (iV.mp hx) λa _ _ _ e _=>?_;subst e;rcases bI hy with⟨_,_,_,e⟩|⟨_,_,_,e⟩<;>exact nomatch e
 |n+1,.t xs,.t ys,v,hx,hy=>by
  refine j4 (iV.mp hx) λa o it m e g _ d p=>?_;refine j4 (iV.mp hy) λa' o' it' m' e' g' _ d' p'=>?_;subst e;injection e' with e'
  subst e';cases g.symm.trans g';rw[d] at d';injection d' with d' _
  subst d';rw[uP (uq n) p p']
theorem uO {h h':Heap}{d:Addr}{o:Obj}{es ep}(ho:h.get? d=some o)(hd:o.data=.dict es ep)(hs:ma d h h'):∀(n:Nat) (x:Kt) (v:a7),jm h n x v->jm h' n x v
 |n,.k x,v,hx=>by rw[lE] at hx ⊢;exact hx
 |0,.t _,_,hx=>by rw[jm] at hx;exact hx.elim
 |n+1,.t xs,v,hx=>by
  refine j4 (iV.mp hx) λa o' it m e g c dd p=>?_;have ne:a≠d:=by
   rintro rfl;cases g.symm.trans ho;rw[hd] at dd;cases dd
  exact iV.mpr ⟨a,o',it,m,e,(hs.2 a ne).trans g,c,dd,um (uO ho hd hs n) p⟩
section
theorem rK (w:cw):∀xs:List Kt,je w xs=xs.map (pC w)
 |[]=>by rw[je];rfl
 |x::xs=>by rw[je,rK w xs];rfl
theorem pK:∀xs ys:List Kt,dF (xs++ys)=dF xs+dF ys
 |[],ys=>by rw[ef,dF,Nat.zero_add]
 |x::xs,ys=>by rw[br,dF,dF,pK xs ys,pb]
theorem xf (x:Kt):dF [x]=nY x:=by rw[dF,dF,Nat.add_zero]
theorem wU:∀(n:Nat) {A:eB} {s:aT} {x:Kt} {v:a7} {Q:Int->aT->Prop},A.units+n<w4->jm s.heap n x v->Q (pC wo x) { s with toks:=s.toks+nY x }->cn (cq pr wo) A (pyHash v) Q E s
 |n,A,s,.k x,v,Q,hu,hx,q=>by
  rw[lE] at hx;rw[pC,nY] at q;exact(pY pr wo).pyHash hx q
 |0,_,_,.t _,_,_,_,hx,_=>by rw[jm] at hx;exact hx.elim
 |n+1,A,s,.t xs,v,Q,hu,hx,h=>by
  refine j4 (iV.mp hx) λa o items m e ho hc hd hi=>?_;subst e;have hT:s.TypeIs (.ref a) "tuple":=⟨o,ho,hc⟩;rw[pC,nY] at h;unfold pyHash
  first|unfold pyHashByItsType|skip
  first|refine ay (wpAny_cRoomFor_or (.inr<|by lia) ?_)|skip
  refine ay<|qE hT i6.lookup ?_;show cn _ _ (if(some (mm "tuple.__hash__")==some gE)=true then _ else _) Q E s;rw[if_neg (by rw[beq_builtin_none];exact aI)];refine ay<|qE hT i6.lookup ?_;show cn _ _ (callSpecialIfBoundUnlessNone? (.ref a) "__hash__" _ >>= _) Q E s;refine ay<|wpAny_callSpecialIfBoundUnlessNone?_slot hT i6<|wpAny_call_entry i6 hT PySem.F.entry_tuple_hash ?_<|PySem.F.args_tuple_hash_1 _;show cn _ _ (nK (.ref a) >>= _) _ _ s;refine ay<|wpAny_tupleItemsOf ho hd ?_;refine ay ?_;rw[← tJ];refine wpAny_forIn_list _
   (λrest (b:Array Int) s'=>∃done left,xs=done++left/\j3 (jm s.heap n) left rest/\b.toList=done.map (pC wo)/\s'={ s with toks:=s.toks+dF done })
   _ ?_ ?_ _ _ ⟨[],xs,rfl,hi,rfl,by rw[dF];rfl⟩
  ·rintro x rest b s' ⟨done,left,rfl,hl,hb,rfl⟩;cases hl with
   | @cons k _ ks' _ h1 hl'=>
    refine ay<|wU n (A:=A.in1) (show A.units+1+n<w4 by lia) (s:={ s with toks:=s.toks+dF done }) h1 ?_;refine bS ⟨done++[k],ks',by simp,hl',by simp[hb],?_⟩;rw[pK,xf,pb]
  ·rintro b s' ⟨done,left,rfl,hl,hb,rfl⟩;cases hl;rw[eC] at h;show cn _ _ (retInt<|eR b.toList) _ _ _;rw[hb,← rK];refine wpAny_ret_mkInt ?_;show cn _ _ (if(decide (-(2:Int)^63<=eR (je wo done))&&decide (eR (je wo done)<2^63))=true then _ else _) Q E _;unfold reduceHash at h;by_cases hr:(decide (-(2:Int)^63<=eR (je wo done))&&decide (eR (je wo done)<2^63))=true
   ·rw[if_pos hr];rw[if_pos hr] at h;exact bS<|by simpa[pb] using h
   ·rw[if_neg hr];rw[if_neg hr] at h;exact ay<|wpAny_rule<|bS<|by simpa[pb] using h
noncomputable def nD (xs ys:List Kt)(j:Nat):Bool:=match xs[j]?,ys[j]? with
 |some x,some y=>decide<|x=y
 |_,_=>true
theorem uC:∀xs ys:List Kt,((ij<|min xs.length ys.length).all (nD xs ys)&&xs.length==ys.length)=decide (xs=ys)
 |[],[]=>by simp
 |[],_::_=>by simp
 |_::_,[]=>by simp
 |x::xs,y::ys=>by
  have ih:=uC xs ys;rw[bX,bX,Nat.succ_min_succ,List.range_succ_eq_map,pd,List.all_map];have e:(nD (x::xs) (y::ys)∘Nat.succ)=nD xs ys:=by funext j;simp[nD]
  rw[e];have e0:nD (x::xs) (y::ys) 0=decide (x=y):=by simp[nD]
  rw[e0,Bool.and_assoc];have e1:((xs.length+1==ys.length+1):Bool)=(xs.length==ys.length):=by simp
  rw[e1,ih];by_cases a:x=y<;>by_cases b:xs=ys<;>simp[a,b]
theorem qT:∀{l:List α} {m:List β} (j:Nat) (h:j<m.length),j3 F l m->∃a,l[j]? = some a/\F a m[j]
 |_,_,j,h,.nil=>absurd h<|Nat.not_lt_zero _
 |_,_,0,_,.cons r _=>⟨_,rfl,r⟩
 |_,_,j+1,h,.cons _ t=>by
  obtain⟨a,h1,h2⟩:=qT j (by simpa using h) t;exact⟨a,by simpa using h1,by simpa using h2⟩
theorem Di:∀(n:Nat) (A:eB) (s:aT) (x y:Kt) (v u:a7),A.units+n<w4->jm s.heap n x v->jm s.heap n y u->vi A s v u (decide<|x=y)
 |n,A,s,.k x,.k y,v,u,hu,hx,hy=>by
  rw[lE] at hx hy;intro pr wo E Q q;refine(pY pr wo).eqBool (a:=x) (b:=y) hx hy ?_;have e:decide (Kt.k x=Kt.k y)=decide (x=y):=decide_eq_decide.mpr ⟨λe=>by injection e,λe=>by rw[e]⟩;rw[← e];exact q
 |0,_,_,.t _,_,_,_,_,hx,_=>by rw[jm] at hx;exact hx.elim
 |0,_,_,.k _,.t _,_,_,_,_,hy=>by rw[jm] at hy;exact hy.elim
 |n+1,A,s,.k x,.t ys,v,u,hu,hx,hy=>by
  rw[lE] at hx;refine j4 (iV.mp hy) λa o it m e g c d _=>?_;subst e;have hl:s.heap.IsTuple a it:=⟨o,g,c,m,d⟩;rw[show decide (Kt.k x=Kt.t ys)=false from decide_eq_false λe=>nomatch e];rcases bI hx with⟨i,t,rfl,rfl⟩|⟨z,t,rfl,rfl⟩
  ·exact SeqAt.EqAt.int_tuple i t hl<|by lia
  ·exact SeqAt.EqAt.str_tuple z t hl<|by lia
 |n+1,A,s,.t xs,.k y,v,u,hu,hx,hy=>by
  rw[lE] at hy;refine j4 (iV.mp hx) λa o it m e g c d _=>?_;subst e;have hl:s.heap.IsTuple a it:=⟨o,g,c,m,d⟩;rw[show decide (Kt.t xs=Kt.k y)=false from decide_eq_false λe=>nomatch e];rcases bI hy with⟨i,t,rfl,rfl⟩|⟨z,t,rfl,rfl⟩
  ·exact SeqAt.EqAt.tuple_int i t hl<|by lia
  ·exact SeqAt.EqAt.tuple_str z t hl<|by lia
 |n+1,A,s,.t xs,.t ys,v,u,hu,hx,hy=>by
  have hx':=hx;have hy':=hy;refine j4 (iV.mp hx) λa o it m e g c d p=>?_;refine j4 (iV.mp hy) λa' o' it' m' e' g' c' d' p'=>?_;subst e e';by_cases ne:a=a'
  ·subst ne;rw[uq _ _ _ _ hx' hy',decide_eq_true rfl];exact w8 _
  ·have hl:s.heap.IsTuple a it:=⟨o,g,c,m,d⟩;have hl':s.heap.IsTuple a' it':=⟨o',g',c',m',d'⟩;have n1:it.size=xs.length:=by have:=pe p;simpa using this.symm
   have n2:it'.size=ys.length:=by have:=pe p';simpa using this.symm
   have e2:decide (Kt.t xs=Kt.t ys)=decide (xs=ys):=decide_eq_decide.mpr ⟨λe=>by injection e,λe=>by rw[e]⟩;rw[e2,← uC xs ys,← n1,← n2];refine SeqAt.EqAt.of_refs ne<|SeqAt.RcAt.tuples hl hl' (by lia) λj j1 j2=>?_;obtain⟨b,q1,q2⟩:=qT j (by simpa using j1) p;obtain⟨b',r1,r2⟩:=qT j (by simpa using j2) p'
   have:nD xs ys j=decide (b=b'):=by unfold nD;rw[q1,r1]
   rw[this];exact Di n A.in1 s b b' _ _ (show A.units+1+n<w4 by lia) (by simpa using q2) (by simpa using r2)
theorem Fw:∀(n:Nat) {A:eB} {s:aT} {x:Kt} {v:a7} {Q:Bool->aT->Prop},jm s.heap n x v->Q true s->cn (cq pr wo) A (eqIsQuiet n v) Q E s
 |n,A,s,.k x,v,Q,hx,q=>by
  rw[lE] at hx;rw[eqIsQuiet_byValue _<|(pY pr wo).byValue _ _ hx];exact bS q
 |0,_,_,.t _,_,_,hx,_=>by rw[jm] at hx;exact hx.elim
 |n+1,A,s,.t xs,v,Q,hx,h=>by
  refine j4 (iV.mp hx) λa o items m e ho hc hd hi=>?_;subst e;have hT:s.TypeIs (.ref a) "tuple":=⟨o,ho,hc⟩;unfold eqIsQuiet;refine ay<|qE hT PySem.F.slot_tuple_eq.lookup ?_;show cn _ _ (isInstance (.ref a) (.type "tuple") >>= _) _ _ s;refine ay<|wpAny_isInstance hT isSubtype_tuple_tuple ?_;simp only[Bool.not_true,kU,if_false];refine ay<|wpAny_seqItems ho hd<|ay ?_;show cn _ _ (forIn items _ _) _ _ s;rw[← tJ];refine wpAny_forIn_list _ (λrest r s'=>r.1=none/\s'=s/\∃ks,j3 (jm s.heap n) ks rest) _ ?_ ?_ _ _ ⟨rfl,rfl,xs,hi⟩
  ·rintro v rest r s' ⟨hr,rfl,ks,al⟩;cases al with
   |cons h1 al'=>
    refine ay<|Fw n h1 ?_;simp only[Bool.not_true,kU,if_false];exact bS ⟨rfl,rfl,_,al'⟩
  ·rintro⟨r1,r2⟩ s' ⟨hr,rfl,_⟩;simp only at hr;subst hr;exact bS h
end
def Js (pr:bg)(wo:cw):HeapKind pr wo (List Kt) where
 is:=λh ks a=>jm h 8 (.t ks)<|.ref a
 hash:=λks=>pC wo<|.t ks
 draws:=λks=>nY<|.t ks
 room:=λA=>A.units+8<w4
 inj:=λa b=>by have:=uq _ _ _ _ a b;injection this
 keeps:=λx a b c=>uO a b c _ _ _ x
 pyHash:=λa b c=>wU 8 a b c
 eqBool:=λ{A E s x y a b Q} h1 h2 h3 h4=>by
  refine Di 8 A s _ _ _ _ h1 h2 h3 _ _ _ _ ?_;rw[show decide (Kt.t x=Kt.t y)=decide (x=y) from decide_eq_decide.mpr ⟨λe=>by injection e,λe=>by rw[e]⟩];exact h4
 quiet:=λa b=>Fw 8 a b
inductive V where
 |non|bl (b:Bool)|int (i:Int)|str (x:Str)|byt (b:Array UInt8)|flt (b:UInt64)|ref (a:Addr)|ty (n:String)
 deriving DecidableEq
def RelV:V->a7->Prop
 | .non,u=>u=gE
 | .bl b,u=>u=sk b
 | .int i,u=>∃t,u=tw i t
 | .str x,u=>∃t,u=kR x t
 | .byt b,u=>∃t,u=Value.bytes b t
 | .flt b,u=>∃t,u=w9 b t
 | .ref a,u=>u=cS a
 | .ty n,u=>u=sv n
abbrev Vals:List V->List a7->Prop:=j3 RelV
theorem Vals.length (r:Vals xs us):xs.length=us.length:=pe r
theorem Vals.get:∀{xs:List V} {us:List a7} {i:Nat} {x:V},Vals xs us->xs[i]? = some x->∃u,us[i]? = some u/\RelV x u
 |_,_,_,_,.nil,e=>by simp at e
 |_,_,0,_,.cons r _,e=>by simp at e;subst e;exact⟨_,rfl,r⟩
 |_,_,i+1,x,.cons _ t,e=>by
  obtain⟨u,h1,h2⟩:=Vals.get (i:=i) (x:=x) t (by simpa using e);exact⟨u,by simpa using h1,h2⟩
theorem Vals.append:∀{xs ys:List V} {us ws:List a7},Vals xs us->Vals ys ws->Vals (xs++ys) (us++ws)
 |_,_,_,_,.nil,s=>s
 |_,_,_,_,.cons r t,s=>.cons r<|Vals.append t s
theorem Vals.take:∀{xs:List V} {us:List a7} (n:Nat),Vals xs us->Vals (xs.take n) (us.take n)
 |_,_,0,_=>.nil
 |_,_,_+1,.nil=>.nil
 |_,_,n+1,.cons r t=>.cons r<|Vals.take n t
theorem Vals.drop:∀{xs:List V} {us:List a7} (n:Nat),Vals xs us->Vals (xs.drop n) (us.drop n)
 |_,_,0,r=>r
 |_,_,_+1,.nil=>.nil
 |_,_,n+1,.cons _ t=>Vals.drop n t
def vM:Option V->Option a7->Prop
 |some v,some u=>RelV v u
 |none,none=>True
 |_,_=>False
def KV {κ:Type}:List (κ×V)->List (κ×a7)->Prop:=j3 λ(p:κ×V) (q:κ×a7)=>p.1=q.1/\RelV p.2 q.2
noncomputable def kV:Key->V
 | .inl i=>.int i
 | .inr x=>.str x
inductive HO where
  |lst (xs:List V)
  |tup (xs:List V)
  |dK (ι:List (Key×V))|dT (T:Addr->List V->Prop) (ι:List (List Kt×V))
  |set (S:Int->Bool) (n:Nat)
  |ins (C dx:Addr) (fs:List (Str×V))
  |own (x:Addr)
  |xd (fs:List (Str×V))
  |met (f x:Addr)
  |rng (lo hi:Int)
  |frz (o:Obj) (u:HO)
  |tbl (ps:Array a7)
  |ext (φ:Heap->Prop)
abbrev Hp:=Addr->Option HO
noncomputable def upd (H:Hp)(a:Addr)(o:HO):Hp:=λb=>if b=a then some o else H b
theorem az:upd H a o a=some o:=by unfold upd;rw[if_pos rfl]
theorem aC (h:b≠a):upd H a o b=H b:=by unfold upd;rw[if_neg h]
theorem jh:upd (upd H a o) a u=upd H a u:=by
 funext b;unfold upd;split<;>rfl
theorem iu {H:Hp}{a b:Addr}{o:HO}(h:H a=some o)(h':H b=none):a≠b:=by
 intro e;subst e;rw[h] at h';cases h'
mutual
inductive Be (T:Addr->List V->Prop)(H:Hp):Nat->V->Kt->Prop where
 |k {n:Nat} {x:Key}:Be T H n (kV x) (.k x)
 |t {n:Nat} {b:Addr} {vs:List V} {ks:List Kt}:(H b=some (.tup vs)\/T b vs)->oV T H n vs ks->Be T H (n+1) (.ref b) (.t ks)
inductive oV (T:Addr->List V->Prop)(H:Hp):Nat->List V->List Kt->Prop where
 |nil {n:Nat}:oV T H n [] []
 |cons {n:Nat} {v:V} {vs:List V} {k:Kt} {ks:List Kt}:Be T H n v k->oV T H n vs ks->oV T H n (v::vs) (k::ks)
end
def TrT (T:Addr->List V->Prop)(H:Hp)(b:Addr)(ks:List Kt):Prop:=∃vs,(H b=some (.tup vs)\/T b vs)/\oV T H 7 vs ks
section
mutual
theorem Be.imp (ht:∀b xs,H b=some (.tup xs)->H' b=some (.tup xs)):∀{n:Nat} {v:V} {k:Kt},Be T H n v k->Be T H' n v k
 |_,_,_,.k=>.k
 |_,_,_,.t h hs=>.t (h.imp (ht _ _) id)<|oV.imp ht hs
theorem oV.imp (ht:∀b xs,H b=some (.tup xs)->H' b=some (.tup xs)):∀{n:Nat} {vs:List V} {ks:List Kt},oV T H n vs ks->oV T H' n vs ks
 |_,_,_,.nil=>.nil
 |_,_,_,.cons h hs=>.cons (Be.imp ht h)<|oV.imp ht hs
end
theorem TrT.imp (h:TrT T H b ks)(ht:∀b xs,H b=some (.tup xs)->H' b=some (.tup xs)):TrT T H' b ks:=
 let⟨vs,h1,h2⟩:=h;⟨vs,h1.imp (ht _ _) id,h2.imp ht⟩
end
section
variable (P:bg)(w:cw)
def yE (h:Heap)(a:Addr)(its:Array a7):Prop:=∃o,h.get? a=some o/\o.cls=.type "tuple"/\∃n,o.data=.seq its n/\o.dict=none
theorem yE.tup {h:Heap}{a:Addr}{its:Array a7}(x:yE h a its):IsTup h a its:=let⟨o,e,c,n,d,_⟩:=x;⟨o,e,c,n,d⟩
theorem yE.new (h:Heap)(its:Array a7):yE (h.push { cls:=.type "tuple",data:=.seq its }) h.objs.size its:=⟨_,b0 _ rfl,rfl,_,rfl,rfl⟩
def cY (H:Hp)(h:Heap)(a:Addr):HO->Prop
 | .lst xs=>xs.length<=be/\∃(its:List a7) (n:Nat),Vals xs its/\h.get? a=some { cls:=.type "list",data:=.seq its.toArray n }
 | .tup xs=>xs.length<=be/\∃its:List a7,Vals xs its/\yE h a its.toArray
 | .dK ι=>ι.length<=be/\(a==mo)=false/\∃vs,KV ι vs/\h.DictOf (pY P w) a vs
 | .dT T ι=>ι.length<=be/\(a==mo)=false/\∃xs:List (List Kt×Addr×a7),
   j3 (λ(p:List Kt×V) (q:List Kt×Addr×a7)=>p.1=q.1/\TrT T H q.2.1 p.1/\RelV p.2 q.2.2) ι xs/\
   ∃o es ep,h.get? a=some o/\o.ExactDict/\o.data=.dict es ep/\es.toList=xs.map (entryOfKey<|Js P w)/\(xs.map (·.1)).Nodup
 | .set S n=>h.SetOf (intKind P w) a S n
 | .ins C dx fs=>H dx=some (.own a)/\fs.length<=1000/\dx≠a/\h.get? a=some (mB C dx)/\
   ∃mA,h.Ns1 dx mA/\(∀f,vM (fs.lookup f)<|mA f)/\vE mA (fs.map (·.1))
 | .own _=>∃o,h.get? a=some o
 | .xd fs=>∃mA,h.Ns1 a mA/\∀f,vM (fs.lookup f)<|mA f
 | .rng lo hi=>∃t u v,h.get? a=some { cls:=.type "range",data:=.fields #[.int lo t,.int hi u,.int 1 v] }
 | .frz o u=>h.get? a=some o/\cY H h a u
 | .tbl ps=>h.get? a=some { cls:=.none,data:=.fields ps }
 | .met f x=>h.get? a=some (W.methodObj (.ref f)<|.ref x)
 | .ext φ=>φ h/\(∃o,h.get? a=some o)/\∀h1 h2:Heap,φ h1->(∀o,h1.get? a=some o->h2.get? a=some o)->φ h2
def HOk (H:Hp)(h:Heap):Prop:=∀a o,H a=some o->cY P w H h a o
end
section
variable {P:bg}{w:cw}{H H':Hp}{h h':Heap}{a:Addr}{o:HO}
theorem cY.lt (x:cY P w H h a o):a<h.objs.size:=by
 cases o with
 |lst xs=>obtain⟨_,_,_,_,e⟩:=x;exact bq e
 |tup xs=>obtain⟨_,_,_,p⟩:=x;exact p.tup.lt
 |dK ι=>obtain⟨_,_,_,_,o,_,_,e,_⟩:=x;exact bq e
 |dT T ι=>obtain⟨_,_,_,_,o,_,_,e,_⟩:=x;exact bq e
 |set S n=>obtain⟨o,_,_,_,e,_⟩:=x;exact bq e
 |ins C dx fs=>obtain⟨_,_,_,e,_⟩:=x;exact bq e
 |own y=>obtain⟨_,e⟩:=x;exact bq e
 |xd fs=>obtain⟨_,⟨_,_,_,e,_⟩,_⟩:=x;exact bq e
 |rng lo hi=>obtain⟨_,_,_,e⟩:=x;exact bq e
 |frz ob u=>obtain⟨e,_⟩:=x;exact bq e
 |tbl ps=>exact bq (show h.get? a=some _ from x)
 |met f y=>exact bq (show h.get? a=some _ from x)
 |ext φ=>obtain⟨_,⟨_,e⟩,_⟩:=x;exact bq e
theorem j3.VJ:∀{l₁:List α} {l₂:List β},j3 F l₁ l₂->(∀a b,F a b->G a b)->j3 G l₁ l₂
 |_,_,.nil,_=>.nil
 |_,_,.cons r t,f=>.cons (f _ _ r)<|j3.VJ t f
theorem cY.stay (x:cY P w H h a o)(k:∀b u,(b=a\/H b=some (.own a))->h.get? b=some u->h'.get? b=some u)
  (ho:∀b,H b=some (.own a)->H' b=some (.own a)) (ht:∀b xs,H b=some (.tup xs)->H' b=some (.tup xs)):cY P w H' h' a o:=by
 induction o with
 |lst xs=>obtain⟨z,its,n,r,e⟩:=x;exact⟨z,its,n,r,k _ _ (.inl rfl) e⟩
 |tup xs=>obtain⟨z,its,r,ob,e,c⟩:=x;exact⟨z,its,r,ob,k _ _ (.inl rfl) e,c⟩
 |dK ι=>obtain⟨z,y,vs,r,ob,es,ep,e,c⟩:=x;exact⟨z,y,vs,r,ob,es,ep,k _ _ (.inl rfl) e,c⟩
 |dT T ι=>
  obtain⟨z,y,xs,r,ob,es,ep,e,c⟩:=x;exact⟨z,y,xs,j3.VJ r λp q z=>⟨z.1,z.2.1.imp ht,z.2.2⟩,ob,es,ep,k _ _ (.inl rfl) e,c⟩
 |set S n=>obtain⟨ob,es,ep,t,e,c⟩:=x;exact⟨ob,es,ep,t,k _ _ (.inl rfl) e,c⟩
 |ins C dx fs=>
  obtain⟨d,z,ne,e,mA,⟨od,es,ep,e2,c⟩,r⟩:=x;exact⟨ho _ d,z,ne,k _ _ (.inl rfl) e,mA,⟨od,es,ep,k _ _ (.inr d) e2,c⟩,r⟩
 |own y=>obtain⟨ob,e⟩:=x;exact⟨ob,k _ _ (.inl rfl) e⟩
 |xd fs=>obtain⟨mA,⟨od,es,ep,e,c⟩,r⟩:=x;exact⟨mA,⟨od,es,ep,k _ _ (.inl rfl) e,c⟩,r⟩
 |rng lo hi=>obtain⟨t,u,v,e⟩:=x;exact⟨t,u,v,k _ _ (.inl rfl) e⟩
 |frz ob u ih=>obtain⟨e,q⟩:=x;exact⟨k _ _ (.inl rfl) e,ih q⟩
 |tbl ps=>
  have e:h.get? a=some { cls:=.none,data:=.fields ps }:=x;show h'.get? a=some { cls:=.none,data:=.fields ps };exact k a _ (.inl rfl) e
 |met f y=>
  have e:h.get? a=some (W.methodObj (.ref f)<|.ref y):=x;show h'.get? a=some (W.methodObj (.ref f)<|.ref y);exact k a _ (.inl rfl) e
 |ext φ=>obtain⟨p,⟨o,e⟩,st⟩:=x;exact⟨st _ _ p λo q=>k _ _ (.inl rfl) q,⟨o,k _ _ (.inl rfl) e⟩,st⟩
theorem HOk.lt (x:HOk P w H h)(e:H a=some o):a<h.objs.size:=(x a o e).lt
theorem HOk.fresh (x:HOk P w H h)(e:h.objs.size<=a):H a=none:=by
 cases q:H a with
 |none=>rfl
 |some u=>exact absurd (aS (x.lt q) e) (fw _)
theorem HOk.kept (x:HOk P w H h)(k:∀b u,h.get? b=some u->h'.get? b=some u):HOk P w H h':=λa o e=>
 (x a o e).stay (λb u _ q=>k b u q) (λ_ q=>q) λ_ _ q=>q
theorem HOk.laid (x:HOk P w H h)(k:∀b u,h.get? b=some u->h'.get? b=some u)(hp:h.objs.size<=a)(new:cY P w (upd H a o) h' a o):HOk P w (upd H a o) h':=λb u e=>by
 have hn:=x.fresh hp;by_cases hb:b=a
 ·subst hb;rw[az] at e;cases e;exact new
 ·rw[aC hb] at e;exact(x b u e).stay (λc v _ q=>k c v q) (λc q=>by rw[aC<|iu q hn];exact q) λc xs q=>by rw[aC<|iu q hn];exact q
end
def Rd (H:Hp)(a:Addr)(u:HO):Prop:=H a=some u\/∃o,H a=some (.frz o u)
theorem Rd.ok (r:Rd H a u)(x:HOk P w H h):cY P w H h a u:=by
 rcases r with r|⟨o,r⟩
 ·exact x a u r
 ·obtain⟨_,q⟩:=x a _ r;exact q
def Mut:Option HO->Prop
 |some (.lst _)=>True
 |some (.dK _)=>True
 |some (.dT _ _)=>True
 |some (.set _ _)=>True
 |some (.ins _ _ _)=>True
 |some (.ext _)=>True
 |_=>False
section
theorem HOk.write (ok:HOk P w H h)(mu:Mut (H x))(he:e=x\/H e=some (.own x))(k:∀b u,b≠e->h.get? b=some u->h'.get? b=some u)(heo:∃u,h'.get? e=some u)
  (new:cY P w (upd H x o') h' x o'):HOk P w (upd H x o') h':=λb u q=>by
 have nown:∀c y,H c=some (.own y)->c≠x:=λc y r z=>by subst z;rw[r] at mu;exact mu
 have ntup:∀c xs,H c=some (.tup xs)->c≠x:=λc xs r z=>by subst z;rw[r] at mu;exact mu
 by_cases hb:b=x
 ·subst hb;rw[az] at q;cases q;exact new
 ·rw[aC hb] at q;by_cases hbe:b=e
  ·have q':H b=some (.own x):=by
    rcases he with z|z
    ·exact absurd (hbe.trans z) hb
    ·rw[hbe];exact z
   rw[q] at q';cases q';obtain⟨v,hv⟩:=heo;exact⟨v,by rw[hbe];exact hv⟩
  ·refine(ok b u q).stay (λc v hc r=>k c v ?_ r) (λc r=>by rw[aC<|nown c b r];exact r) λc xs r=>by rw[aC<|ntup c xs r];exact r
   rcases hc with rfl|hc
   ·exact hbe
   ·rintro rfl;rcases he with z|z
    ·exact nown c b hc z
    ·rw[hc] at z;cases z;exact hb rfl
end
structure Un (fs ex:List Addr)(H H':Hp)(h h':Heap):Prop where
 keep:∀b o,h.get? b=some o->H b=none->b∉fs->b∉ex->h'.get? b=some o
 slot:∀b o,h.get? b=some o->H b=none->b∈fs->b∉ex->∃sl,h'.get? b=some { o with slots:=sl }
 free:∀b o,h.get? b=some o->H b=none->b∉ex->H' b=none
 there:∀b o,h.get? b=some o->b∉ex->∃o',h'.get? b=some o'
 tups:∀b xs,H b=some (.tup xs)->H' b=some (.tup xs)
 frzs:∀b o u,H b=some (.frz o u)->H' b=some (.frz o u)
 tbls:∀b ps,H b=some (.tbl ps)->∃more,H' b=some (.tbl (ps++more))
section
variable {fs fs' ex ex':List Addr}{H H1 H2:Hp}{h h1 h2 h':Heap}{a x e:Addr}{o:HO}
theorem Un.any (u:Un fs ex H H1 h h1){b:Addr}{ob:Obj}(q:h.get? b=some ob)(n:H b=none)(hx:b∉ex):∃sl,h1.get? b=some { ob with slots:=sl }:=by
 by_cases hb:b∈fs
 ·exact u.slot b ob q n hb hx
 ·exact⟨ob.slots,u.keep b ob q n hb hx⟩
theorem Un.kept (k:∀b u,h.get? b=some u->h'.get? b=some u):Un fs ex H H h h':=
 ⟨λb ob q _ _ _=>k b ob q,λb ob q _ _ _=>⟨ob.slots,k b ob q⟩,λ_ _ _ n _=>n,λb ob q _=>⟨ob,k b ob q⟩,λ_ _ q=>q,λ_ _ _ q=>q,λ_ ps q=>⟨#[],by rw[q];simp⟩⟩
theorem Un.refl:Un fs ex H H h h:=Un.kept λ_ _ q=>q
theorem Un.laid (k:∀b u,h.get? b=some u->h'.get? b=some u)(hp:h.objs.size<=a)(hn:H a=none):Un fs ex H (upd H a o) h h' where
 keep:=λb u q _ _ _=>k b u q
 slot:=λb u q _ _ _=>⟨u.slots,k b u q⟩
 free:=λb u q n _=>by rw[aC<|c8<|aS (bq q) hp];exact n
 there:=λb u q _=>⟨u,k b u q⟩
 tups:=λb xs q=>by rw[aC<|iu q hn];exact q
 frzs:=λb u xs q=>by rw[aC<|iu q hn];exact q
 tbls:=λb ps q=>⟨#[],by rw[aC<|iu q hn,q];simp⟩
theorem Un.write (mu:Mut (H x))(he:e=x\/H e=some (.own x))(k:∀b u,b≠e->h.get? b=some u->h'.get? b=some u)(heo:∃u,h'.get? e=some u):Un fs ex H (upd H x o) h h':=by
 have hx:∀b,H b=none->b≠x:=λb n z=>by subst z;rw[n] at mu;exact mu
 have hb:∀b,H b=none->b≠e:=λb n z=>by
  subst z;rcases he with r|r
  ·exact hx b n r
  ·rw[n] at r;cases r
 have hm:∀b u,H b=some u->¬Mut (some u)->b≠x:=λb u q nm z=>by subst z;rw[q] at mu;exact nm mu
 refine⟨λb u q n _ _=>k b u (hb b n) q,λb u q n _ _=>⟨u.slots,k b u (hb b n) q⟩,λb u q n _=>by rw[aC<|hx b n];exact n,λb u q _=>?_,
  λb xs q=>by rw[aC<|hm b _ q λz=>z];exact q,λb u xs q=>by rw[aC<|hm b _ q λz=>z];exact q,λb ps q=>⟨#[],by rw[aC<|hm b _ q λz=>z,q];simp⟩⟩
 by_cases hbe:b=e
 ·subst hbe;exact heo
 ·exact⟨u,k b u hbe q⟩
end
noncomputable def trk (h:Heap)(H:Hp):List Addr:=(ij h.objs.size).filter λa=>(H a).isSome
def yF (h:Heap)(H:Hp):Heap:=xa h<|trk h H
theorem HQ (h:Heap)(H:Hp):(yF h H).objs.size=h.objs.size:=W.hideAll_size _ _
theorem Lq (e:h.get? b=some o)(n:H b=none):(yF h H).get? b=some o:=
 pf _ e λhm=>by
  have q:(H b).isSome=true:=(List.mem_filter.mp hm).2;rw[n] at q;simp at q
theorem PJ (e:(yF h H).get? b=some o):h.get? b=some o/\H b=none:=by
 have e':h.get? b=some o:=vF (trk h H) e;refine⟨e',?_⟩;cases q:H b with
 |none=>rfl
 |some x=>
  have hm:b∈trk h H:=List.mem_filter.mpr ⟨List.mem_range.mpr<|bq e',by simp[q]⟩;have z:(yF h H).get? b=none:=W.hideAll_none (trk h H) hm;rw[z] at e;cases e
structure Mod (K:av)(mg:Zs)(base:Heap):Prop where
 kin:K.In base
 glob:base.Ns bo mg
 blt:∃mb,base.Ns builtinsNs mb/\∀x:Str,x≠"__name__"->mb x=cf x
 nolimit:base.NoLimit
structure Cx where
 prog:bg
 w:cw
 K:av
 mg:Zs
 base:Heap
 A:eB
 N:List Str
 s₀:aT
 H₀:Hp
 env:Env
 outer:List Env
 stack:List Env
 ex:List Addr
 fn:Str->Bool
 calm:Bool
 pn:Zo
 xe:Zv
noncomputable def frs (l:List Env):List Addr:=l.filterMap (·.frame)
abbrev Cx.fs (X:Cx):List Addr:=frs X.outer
def Vis (sc:oB)(x:Str):Prop:=sc.names.lookup x=some .local\/sc.names.lookup x=some .cell\/sc.names.lookup x=some .free
def Loc (sc:oB)(x:Str):Prop:=sc.names.lookup x=some .local\/sc.names.lookup x=some .cell
def Look (env:Env)(h:Heap)(m:Zs)(x:Str)(u:a7):Prop:=
 (env.kindOf x=some .local/\m x=some u)\/((env.kindOf x=some .cell\/env.kindOf x=some .free)/\∃c,env.cells.lookup x=some c/\h.IsCell c (some u))
structure Cx.Ok (X:Cx):Prop where
 mod:Mod X.K X.mg X.base
 kind:X.env.scope.kind=.function
 glob:X.env.globals=bo
 blt:X.env.builtins=builtinsNs
 above:X.s₀.heap.objs.size<=X.env.locals
 inj:∀x y c,X.env.cells.lookup x=some c->X.env.cells.lookup y=some c->x=y
 has:∀x,(X.env.kindOf x=some .cell\/X.env.kindOf x=some .free)->∃c,X.env.cells.lookup x=some c
 cab:∀x c,X.fn x=true->X.env.cells.lookup x=some c->X.s₀.heap.objs.size<=c
 hd:X.calm=true->X.A.handled=none
 frames:X.A.frames=some X.stack
 stk:X.stack=X.outer\/(X.stack=X.env::X.outer/\X.env.frame=some X.env.locals)
 exf:∀b∈X.ex,b≠X.env.locals/\∀x c,X.env.cells.lookup x=some c->c≠b
 bs:∀b o,X.base.get? b=some o->X.s₀.heap.get? b=some o/\X.H₀ b=none
 bsz:X.base.objs.size<=X.s₀.heap.objs.size
 noex:∀b o,X.base.get? b=some o->b∉X.ex
 exfs:∀b∈X.ex,b∉X.fs
 oE:X.s₀.heap.FunFrames X.base X.outer
 frf:∀b∈X.fs,X.H₀ b=none
structure Inv (X:Cx)(π:Zo)(σ:List (Option V))(H:Hp)(s:aT):Prop where
 ok:X.Ok
 os:s.os=X.s₀.os
 bare:pj s.gens
 base:Un X.fs X.ex X.H₀ H X.s₀.heap s.heap
 loc:∃m,s.heap.Ns X.env.locals m/\∀(i:Nat) (x:Str) (v:V),X.N[i]? = some x->σ[i]? = some (some v)->Vis X.env.scope x->∃u,RelV v u/\Look X.env s.heap m x u
 cell:∀x c,X.env.cells.lookup x=some c->∃v,s.heap.IsCell c v
 free:H X.env.locals=none
 freeC:∀x c,X.env.cells.lookup x=some c->H c=none
 pin:∀p∈X.pn++π,s.heap.get? p.1=some p.2/\H p.1=none/\p.1≠X.env.locals/\p.1∉X.fs/\∀v,p.2.data≠.cell v
 hok:HOk X.prog X.w H s.heap
 len:σ.length=X.N.length
section
variable {X:Cx}{π:Zo}{σ:List (Option V)}{H H':Hp}{s:aT}{h':Heap}
theorem Cx.Ok.W0 (ok:X.Ok){b:Addr}{o:Obj}(e:X.base.get? b=some o):b∉X.fs:=λhb=>by
 have:=(ok.oE.mem hb).1
 rw[e] at this;cases this
theorem Inv.bs (I:Inv X π σ H s):∀b o,X.base.get? b=some o->s.heap.get? b=some o/\H b=none:=λb o e=>
 ⟨I.base.keep b o (I.ok.bs b o e).1 (I.ok.bs b o e).2 (I.ok.W0 e)<|I.ok.noex b o e,I.base.free b o (I.ok.bs b o e).1 (I.ok.bs b o e).2<|I.ok.noex b o e⟩
theorem Inv.bk (I:Inv X π σ H s):∀b o,X.base.get? b=some o->s.heap.get? b=some o:=λb o e=>(I.bs b o e).1
theorem Inv.mod (I:Inv X π σ H s):Mod X.K X.mg X.base:=I.ok.mod
theorem Inv.kIn (I:Inv X π σ H s):X.K.In s.heap:=I.ok.mod.kin.keeps I.bk
theorem Inv.lt (I:Inv X π σ H s):X.env.locals<s.heap.objs.size:=let⟨_,hn,_⟩:=I.loc;hn.lt
theorem Inv.sz (I:Inv X π σ H s):X.s₀.heap.objs.size<=s.heap.objs.size:=cm I.ok.above<|vS I.lt
theorem Inv.WR (I:Inv X π σ H s){a:Addr}(h:s.heap.objs.size<=a):a∉X.fs:=λhb=>by
 obtain⟨_,o,ho,_⟩:=I.ok.oE.mem hb;exact absurd (aS (bq ho)<|cm I.sz h)<|fw _
theorem Inv.cne (I:Inv X π σ H s):∀x c,X.env.cells.lookup x=some c->c≠X.env.locals:=λx c e z=>by
 obtain⟨v,o,ho,hd⟩:=I.cell x c e;obtain⟨m,⟨o',es,ep,ho',hd',_⟩,_⟩:=I.loc;rw[z,ho'] at ho;cases ho;rw[hd'] at hd;cases hd
theorem Inv.oE (I:Inv X π σ H s):s.heap.FunFrames X.base X.outer:=by
 have all:∀(l:List Env),(∀b∈frs l,b∈X.fs)->X.s₀.heap.FunFrames X.base l->s.heap.FunFrames X.base l:=by
  intro l;induction l with
  |nil=>intro _ _;trivial
  |cons env r ih=>
   intro hs hl;obtain⟨hk,⟨L,o,hf,hn,ho,hd⟩,hr⟩:=hl;have hL:L∈X.fs:=hs L (by unfold frs;rw[kK,hf];exact a8);obtain⟨sl,e⟩:=I.base.slot L o ho (I.ok.frf L hL) hL λz=>I.ok.exfs L z hL;exact⟨hk,⟨L,_,hf,hn,e,hd⟩,ih (λb hb=>hs b (by unfold frs;rw[kK,hf];exact ax _ hb)) hr⟩
 exact all X.outer (λ_ hb=>hb) I.ok.oE
theorem Inv.stack (I:Inv X π σ H s):s.heap.FunFrames X.base X.stack:=by
 rcases I.ok.stk with e|⟨e,hf⟩
 ·rw[e];exact I.oE
 ·rw[e];obtain⟨m,hn,_⟩:=I.loc;refine .cons (by rw[I.ok.kind];decide) hf hn ?_ I.oE;exact Heap.get?_none_of_le<|cm I.ok.bsz I.ok.above
theorem Inv.w6 (I:Inv X π σ H s):∀b∈frs X.stack,b∈X.env.locals::X.fs:=λb hb=>by
 rcases I.ok.stk with e|⟨e,hf⟩
 ·rw[e] at hb;exact ax _ hb
 ·rw[e] at hb;unfold frs at hb;rw[kK,hf] at hb;exact hb
theorem Inv.yo (I:Inv X π σ H s):∀b∈frs X.stack,H b=none:=λb hb=>by
 rcases ag.mp (I.w6 b hb) with e|hb
 ·rw[e];exact I.free
 ·obtain⟨_,o,ho,_⟩:=I.ok.oE.mem hb;exact I.base.free b o ho (I.ok.frf b hb) λz=>I.ok.exfs b z hb
theorem Inv.step {g':Array l8}{t':Nat}{d':Drawn}{ch:List Addr}(I:Inv X π σ H s)
  (hch:∀b∈ch,(b∈X.ex\/X.s₀.heap.objs.size<=b)/\b≠X.env.locals/\(∀x c,X.env.cells.lookup x=some c->c≠b)/\∀p∈X.pn++π,p.1≠b)
  (keep:∀b o,b≠X.env.locals->b∉X.fs->b∉ch->s.heap.get? b=some o->H b=none->h'.get? b=some o)
  (slot:∀b o,b≠X.env.locals->b∈X.fs->b∉ch->s.heap.get? b=some o->H b=none->∃sl,h'.get? b=some { o with slots:=sl }) (free:∀b o,b∉ch->s.heap.get? b=some o->H b=none->H' b=none)
  (there:∀b o,b∉ch->s.heap.get? b=some o->∃o',h'.get? b=some o')
  (tups:∀b xs,H b=some (.tup xs)->H' b=some (.tup xs)) (frzs:∀b o u,H b=some (.frz o u)->H' b=some (.frz o u)) (tbls:∀b ps,H b=some (.tbl ps)->∃more,H' b=some (.tbl<|ps++more))
  (ns:∀m,s.heap.Ns X.env.locals m->h'.Ns X.env.locals m) (hok:HOk X.prog X.w H' h') (hg:pj g'):
  Inv X π σ H' { s with heap:=h',gens:=g',drawn:=d',toks:=t' }:=by
 have neL:∀b o,X.s₀.heap.get? b=some o->b≠X.env.locals:=λb o e=>c8<|aS (bq e) I.ok.above;have neC:∀b o,X.s₀.heap.get? b=some o->b∉X.ex->b∉ch:=λb o e hx hb=>by
  rcases(hch b hb).1 with z|z
  ·exact hx z
  ·exact absurd (aS (bq e) z)<|fw _
 have cellK:∀x c,X.env.cells.lookup x=some c->∀v,s.heap.IsCell c v->h'.IsCell c v:=λx c e v ⟨o,ho,hd⟩=>by
  have nch:c∉ch:=λz=>(hch c z).2.2.1 x c e rfl;by_cases hc:c∈X.fs
  ·obtain⟨sl,q⟩:=slot c o (I.cne x c e) hc nch ho<|I.freeC x c e;exact⟨_,q,hd⟩
  ·exact⟨o,keep c o (I.cne x c e) hc nch ho<|I.freeC x c e,hd⟩
 refine⟨I.ok,I.os,hg,⟨λb o e n hb hx=>?_,λb o e n hb hx=>?_,λb o e n hx=>?_,λb o e hx=>?_,λb xs e=>tups b xs<|I.base.tups b xs e,λb o xs e=>frzs b o xs<|I.base.frzs b o xs e,λb ps e=>?_⟩,?_,λx c e=>?_,?_,λx c e=>?_,λp hp=>?_,hok,I.len⟩
 ·exact keep b o (neL b o e) hb (neC b o e hx) (I.base.keep b o e n hb hx)<|I.base.free b o e n hx
 ·obtain⟨sl,e1⟩:=I.base.slot b o e n hb hx;obtain⟨sl',e2⟩:=slot b _ (neL b o e) hb (neC b o e hx) e1<|I.base.free b o e n hx;exact⟨sl',e2⟩
 ·obtain⟨o',e1⟩:=I.base.there b o e hx;exact free b o' (neC b o e hx) e1<|I.base.free b o e n hx
 ·obtain⟨o',e1⟩:=I.base.there b o e hx;exact there b o' (neC b o e hx) e1
 ·obtain⟨m1,e1⟩:=I.base.tbls b ps e;obtain⟨m2,e2⟩:=tbls b _ e1;exact⟨m1++m2,by rw[e2,tP]⟩
 ·obtain⟨m,hn,hl⟩:=I.loc;refine⟨m,ns m hn,λi x v e1 e2 e3=>?_⟩;obtain⟨u,r,l⟩:=hl i x v e1 e2 e3;refine⟨u,r,?_⟩;rcases l with l|⟨k,c,e,z⟩
  ·exact .inl l
  ·exact .inr ⟨k,c,e,cellK x c e _ z⟩
 ·obtain⟨v,z⟩:=I.cell x c e;exact⟨v,cellK x c e v z⟩
 ·obtain⟨m,⟨o,_,_,ho,_⟩,_⟩:=I.loc;exact free _ o (λz=>(hch _ z).2.1 rfl) ho I.free
 ·obtain⟨v,o,ho,hd⟩:=I.cell x c e;exact free c o (λz=>(hch c z).2.2.1 x c e rfl) ho<|I.freeC x c e
 ·refine Dv (I.pin p hp) λe n ne nf d=>?_;have nch:p.1∉ch:=λz=>(hch p.1 z).2.2.2 p hp rfl;exact⟨keep p.1 p.2 ne nf nch e n,free p.1 p.2 nch e n,ne,nf,d⟩
theorem Inv.un {t':Nat}(I:Inv X π σ H s)(u:Un X.fs [] H H' s.heap h')(hok:HOk X.prog X.w H' h'):Inv X π σ H' { s with heap:=h',toks:=t' }:=by
 obtain⟨m,⟨o,es,ep,ho,r⟩,_⟩:=id I.loc;obtain⟨sl,hL⟩:=u.any ho I.free (by simp);exact I.step (g':=s.gens) (d':=s.drawn) (ch:=[]) (λ_ z=>nomatch z) (λb o _ hb _ e n=>u.keep b o e n hb<|by simp) (λb o _ hb _ e n=>u.slot b o e n hb<|by simp) (λb o _ e n=>u.free b o e n<|by simp) (λb o _ e=>u.there b o e<|by simp) u.tups u.frzs u.tbls (λm' hm=>by
  refine Fo hm λo' es' ep' ho' r'=>?_;rw[ho] at ho';cases ho';exact⟨_,es',ep',hL,r'⟩) hok I.bare
theorem Inv.call {g':Array l8}{t':Nat}{d':Drawn}{ch:List Addr}(I:Inv X π σ H s)(u:Un (frs X.stack) ch H H' s.heap h')(hok:HOk X.prog X.w H' h')(hg:pj g')
  (hch:∀b∈ch,(b∈X.ex\/X.s₀.heap.objs.size<=b)/\b≠X.env.locals/\(∀x c,X.env.cells.lookup x=some c->c≠b)/\∀p∈X.pn++π,p.1≠b):
  Inv X π σ H' { s with heap:=h',gens:=g',drawn:=d',toks:=t' }:=by
 obtain⟨m,⟨o,es,ep,ho,r⟩,_⟩:=id I.loc;obtain⟨sl,hL⟩:=u.any ho I.free λz=>(hch _ z).2.1 rfl;exact I.step (ch:=ch) hch (λb o hL hb hc e n=>u.keep b o e n (λz=>(ag.mp<|I.w6 b z).elim hL hb) hc) (λb o _ _ hc e n=>u.any e n hc) (λb o hc e n=>u.free b o e n hc) (λb o hc e=>u.there b o e hc) u.tups u.frzs u.tbls (λm' hm=>by
  refine Fo hm λo' es' ep' ho' r'=>?_;rw[ho] at ho';cases ho';exact⟨_,es',ep',hL,r'⟩) hok hg
theorem Inv.turned {t':Nat}{it:Addr}(I:Inv X π σ H s)(k:∀b o,b≠it->s.heap.get? b=some o->h'.get? b=some o)(hn:H it=none)(hL:it≠X.env.locals)
  (h1:it∈X.ex\/X.s₀.heap.objs.size<=it) (h2:∀x c,X.env.cells.lookup x=some c->c≠it) (h3:∀p∈X.pn++π,p.1≠it):Inv X π σ H { s with heap:=h',toks:=t' }:=by
 have nit:∀b u,H b=some u->b≠it:=λb u e z=>by rw[z,hn] at e;cases e
 refine I.step (g':=s.gens) (d':=s.drawn) (ch:=[it]) (λb hb=>?_) (λb o _ _ hc e _=>k b o (λz=>hc<|by simp[z]) e) (λb o _ _ hc e _=>⟨o.slots,k b o (λz=>hc<|by simp[z]) e⟩) (λ_ _ _ _ n=>n)
  (λb o hc e=>⟨o,k b o (λz=>hc<|by simp[z]) e⟩) (λ_ _ e=>e) (λ_ _ _ e=>e) (λb ps e=>⟨#[],by rw[e];simp⟩) (λm hm=>?_) (λb u e=>?_) I.bare
 ·have e:b=it:=by simpa using hb
  subst e;exact⟨h1,hL,h2,h3⟩
 ·refine Fo hm λo es ep ho r=>?_;exact⟨o,es,ep,k _ o (kL hL) ho,r⟩
 ·refine(I.hok b u e).stay (λc v hc q=>k c v ?_ q) (λ_ q=>q) λ_ _ q=>q;rcases hc with z|z
  ·rw[z];exact nit b u e
  ·exact nit c _ z
theorem Inv.tok (I:Inv X π σ H s)(t:Nat):Inv X π σ H { s with toks:=t }:=I.un (h':=s.heap) (t':=t) Un.refl I.hok
theorem Inv.kept (I:Inv X π σ H s)(k:∀b u,s.heap.get? b=some u->h'.get? b=some u):Inv X π σ H { s with heap:=h',toks:=t' }:=I.un (Un.kept k)<|I.hok.kept k
theorem Inv.laid (I:Inv X π σ H s)(k:∀b u,s.heap.get? b=some u->h'.get? b=some u)(hp:s.heap.objs.size<=a)(new:cY X.prog X.w (upd H a o) h' a o):
  Inv X π σ (upd H a o) { s with heap:=h',toks:=t' }:=I.un (Un.laid k hp<|I.hok.fresh hp)<|I.hok.laid k hp new
theorem Inv.write (I:Inv X π σ H s)(mu:Mut (H x))(he:e=x\/H e=some (.own x))(k:∀b u,b≠e->s.heap.get? b=some u->h'.get? b=some u)(heo:∃u,h'.get? e=some u)
  (new:cY X.prog X.w (upd H x o) h' x o):Inv X π σ (upd H x o) { s with heap:=h',toks:=t' }:=I.un (Un.write mu he k heo)<|I.hok.write mu he k heo new
theorem Inv.weak (I:Inv X π σ H s)(hl:σ'.length=σ.length)(w:∀(i:Nat) v,σ'[i]? = some (some v)->σ[i]? = some (some v)):Inv X π σ' H s:=
 ⟨I.ok,I.os,I.bare,I.base,let⟨m,hn,hl'⟩:=I.loc;⟨m,hn,λi x v e1 e2 e3=>hl' i x v e1 (w i v e2) e3⟩,I.cell,I.free,I.freeC,I.pin,I.hok,hl.trans I.len⟩
theorem Inv.Ei (I:Inv X π σ H s)(h:∀p∈pins',s.heap.get? p.1=some p.2/\H p.1=none/\p.1≠X.env.locals/\p.1∉X.fs/\∀v,p.2.data≠.cell v):Inv X pins' σ H s:=
 ⟨I.ok,I.os,I.bare,I.base,I.loc,I.cell,I.free,I.freeC,λp hp=>(bE.mp hp).elim (λz=>I.pin p<|sF _ z)<|h p,I.hok,I.len⟩
theorem tV {N:List Str}(hN:N.Nodup){i j:Nat}{x:Str}(a:N[i]? = some x)(b:N[j]? = some x):i=j:=by
 obtain⟨h1,e1⟩:=eW.mp a;obtain⟨h2,e2⟩:=eW.mp b;exact(List.getElem_inj hN).mp (e1.trans e2.symm)
theorem vY (I:Inv X π σ H s)(hN:X.N.Nodup)(hi:X.N[i]? = some x)(hx:Loc X.env.scope x)(r:RelV v u)
  (h:∀s',Inv X π (σ.set i<|some v) H s'->(∃a,ma a s.heap s'.heap/\(a=X.env.locals\/X.env.cells.lookup x=some a))->Q () s') (hf:X.fn x=true\/X.env.scope.names.lookup x=some .local:=by first|exact .inl rfl|exact .inr rfl|assumption):cn M A (storeName X.env x u) Q E s:=by
 obtain⟨m,hn,hl⟩:=id I.loc;have hcls:(X.env.scope.kind==.class||(X.env.scope.kind==.module&&X.env.locals != X.env.globals))=false:=by rw[I.ok.kind];rfl
 have hiσ:i<σ.length:=by rw[I.len];exact(eW.mp hi).1
 have cne:=I.cne;have tracked:∀{a:Addr} {h':Heap},(∃o,s.heap.get? a=some o/\H a=none)->ma a s.heap h'->HOk X.prog X.w H h':=λ{a h'} ha hs b ob e=>by
  obtain⟨_,_,hfree⟩:=ha;refine(I.hok b ob e).stay (λc w' hc q=>(hs.2 c ?_).trans q) (λ_ q=>q) λ_ _ q=>q;rintro rfl;rcases hc with rfl|hc
  ·rw[hfree] at e;cases e
  ·rw[hfree] at hc;cases hc
 rcases hx with hk|hk
 ·refine wpAny_storeName_local hk hn (λh' hn' hs=>?_) hcls;refine Fo (id hn) λoL _ _ hoL _=>?_;refine h _ ⟨I.ok,I.os,I.bare,⟨λb o e n hb hx=>?_,λb o e n hb hx=>?_,I.base.free,λb o e hx=>?_,I.base.tups,I.base.frzs,I.base.tbls⟩,⟨_,hn',λj y v' e1 e2 e3=>?_⟩,λy c e=>?_,I.free,I.freeC,λp hp=>?_,tracked ⟨oL,hoL,I.free⟩ hs,by simpa using I.len⟩ ⟨_,hs,.inl rfl⟩
  ·exact(hs.2 b<|c8<|aS (bq e) I.ok.above).trans (I.base.keep b o e n hb hx)
  ·obtain⟨sl,e1⟩:=I.base.slot b o e n hb hx;exact⟨sl,(hs.2 b<|c8<|aS (bq e) I.ok.above).trans e1⟩
  ·obtain⟨o',e1⟩:=I.base.there b o e hx;exact⟨o',(hs.2 b<|c8<|aS (bq e) I.ok.above).trans e1⟩
  ·by_cases hj:j=i
   ·subst hj;rw[hi] at e1;cases e1;rw[dy hiσ] at e2;cases e2;exact⟨u,r,.inl ⟨hk,by simp⟩⟩
   ·rw[dA<|kL hj] at e2;obtain⟨u',r',q⟩:=hl j y v' e1 e2 e3;refine⟨u',r',?_⟩;rcases q with⟨k,e⟩|⟨k,c,e,z⟩
    ·refine .inl ⟨k,?_⟩
     have:y≠x:=λe=>hj<|tV hN e1<|e▸hi
     simp[this,e]
    ·exact .inr ⟨k,c,e,z.sameBut hs<|cne y c e⟩
  ·obtain⟨w',z⟩:=I.cell y c e;exact⟨w',z.sameBut hs<|cne y c e⟩
  ·refine Dv (I.pin p hp) λe n ne nf d=>?_;exact⟨(hs.2 p.1 ne).trans e,n,ne,nf,d⟩
 ·have hfn:X.fn x=true:=by
   rcases hf with z|z
   ·exact z
   ·rw[z] at hk;cases hk
  obtain⟨c,hc⟩:=I.ok.has x<|.inl hk;obtain⟨w',z⟩:=I.cell x c hc;refine wpAny_storeName_cell I.ok.kind hk hc z λh' hc' hs=>?_;obtain⟨oc,hoc,hocd⟩:=id z;refine h { s with heap:=h' } ⟨I.ok,I.os,I.bare,⟨λb o e n hb hx=>?_,λb o e n hb hx=>?_,I.base.free,λb o e hx=>?_,I.base.tups,I.base.frzs,I.base.tbls⟩,⟨m,hn.sameBut hs<|kL<|cne x c hc,λj y v' e1 e2 e3=>?_⟩,λy c' e=>?_,I.free,I.freeC,λp hp=>?_,tracked ⟨oc,hoc,I.freeC x c hc⟩ hs,by simpa using I.len⟩ ⟨c,hs,.inr hc⟩
  ·exact(hs.2 b<|c8<|aS (bq e)<|I.ok.cab x c hfn hc).trans (I.base.keep b o e n hb hx)
  ·obtain⟨sl,e1⟩:=I.base.slot b o e n hb hx;exact⟨sl,(hs.2 b<|c8<|aS (bq e)<|I.ok.cab x c hfn hc).trans e1⟩
  ·obtain⟨o',e1⟩:=I.base.there b o e hx;exact⟨o',(hs.2 b<|c8<|aS (bq e)<|I.ok.cab x c hfn hc).trans e1⟩
  ·by_cases hj:j=i
   ·subst hj;rw[hi] at e1;cases e1;rw[dy hiσ] at e2;cases e2;exact⟨u,r,.inr ⟨.inl hk,c,hc,hc'⟩⟩
   ·rw[dA<|kL hj] at e2;obtain⟨u',r',q⟩:=hl j y v' e1 e2 e3;refine⟨u',r',?_⟩;rcases q with q|⟨k,c',e,z'⟩
    ·exact .inl q
    ·refine .inr ⟨k,c',e,z'.sameBut hs ?_⟩;rintro rfl;exact hj<|tV hN e1<|I.ok.inj _ _ _ e hc▸hi
  ·by_cases hcc:c'=c
   ·subst hcc;exact⟨_,hc'⟩
   ·obtain⟨w2,z2⟩:=I.cell y c' e;exact⟨w2,z2.sameBut hs hcc⟩
  ·refine Dv (I.pin p hp) λe n ne nf d=>?_;refine⟨(hs.2 p.1 ?_).trans e,n,ne,nf,d⟩;intro q;rw[q,hoc] at e;have q':oc=p.2:=ck e;exact d w' (by rw[← q'];exact hocd)
theorem vd (I:Inv X π σ H s)(hN:X.N.Nodup)(hi:X.N[i]? = some x)(hx:Loc X.env.scope x)(r:RelV v u)
  (h:∀s',Inv X π (σ.set i<|some v) H s'->Q () s') (hf:X.fn x=true\/X.env.scope.names.lookup x=some .local:=by first|exact .inl rfl|exact .inr rfl|assumption):cn M A (storeName X.env x u) Q E s:=
 vY I hN hi hx r (λs' I' _=>h s' I') hf
theorem Inv.call' (I:Inv X π σ H s)(ho:s'.os=s.os)(u:Un (frs X.stack) ch H H' s.heap s'.heap)(hok:HOk X.prog X.w H' s'.heap)(hg:pj s'.gens)
  (hch:∀b∈ch,(b∈X.ex\/X.s₀.heap.objs.size<=b)/\b≠X.env.locals/\(∀x c,X.env.cells.lookup x=some c->c≠b)/\∀p∈X.pn++π,p.1≠b):Inv X π σ H' s':=by
 obtain⟨h',g',d',t',o'⟩:=s';have e:o'=s.os:=ho;subst e;exact I.call (g':=g') (t':=t') (d':=d') u hok hg hch
end
abbrev XK:=a7->Option Addr->Hp->Prop
abbrev St:=List<|Option V
abbrev VK:=V->Hp->Prop
abbrev TE:=St->Hp->VK->Prop
abbrev TT:=St->Hp->(Bool->Hp->Prop)->Prop
abbrev TA:=St->Hp->(List V->Hp->Prop)->Prop
structure Ends where
 nx:St->Hp->Prop
 rt:VK
 bk:St->Hp->Prop:=λ_ _=>False
 ct:St->Hp->Prop:=λ_ _=>False
abbrev TS:=Ends->St->Hp->Prop
def EP (X:Cx)(π:Zo)(σ:St)(Q:VK)(u:a7)(s':aT):Prop:=∃v H',Inv X π σ H' s'/\RelV v u/\Q v H'
def TP (X:Cx)(π:Zo)(σ:St)(Q:Bool->Hp->Prop)(b:Bool)(s':aT):Prop:=∃H',Inv X π σ H' s'/\Q b H'
def AP (X:Cx)(π:Zo)(σ:St)(Q:List V->Hp->Prop)(us:List a7)(s':aT):Prop:=∃vs H',Inv X π σ H' s'/\Vals vs us/\Q vs H'
def SP (X:Cx)(π:Zo)(D:Ends)(f:Flow)(s':aT):Prop:=
 match f with
 | .next=>∃σ' H',Inv X π σ' H' s'/\D.nx σ' H'
 | .brk=>∃σ' H',Inv X π σ' H' s'/\D.bk σ' H'
 | .cont=>∃σ' H',Inv X π σ' H' s'/\D.ct σ' H'
 | .ret u=>∃v σ' H',Inv X π σ' H' s'/\RelV v u/\D.rt v H'
def PE (X:Cx)(e:Expr)(t:TE):Prop:=
 ∀(π:Zo) (s:aT) (σ:St) (H:Hp) (Q:VK),Inv X π σ H s->t σ H Q->cn (cq X.prog X.w) X.A (eval e X.env) (EP X π σ Q) X.xe s
def PT (X:Cx)(e:Expr)(t:TT):Prop:=
 ∀(π:Zo) (s:aT) (σ:St) (H:Hp) (Q:Bool->Hp->Prop),Inv X π σ H s->t σ H Q->cn (cq X.prog X.w) X.A (isTrue e X.env<|eval e X.env) (TP X π σ Q) X.xe s
def PW (X:Cx)(e:Expr)(t:TT):Prop:=
 ∀(whole:Sem a7) (π:Zo) (s:aT) (σ:St) (H:Hp) (Q:Bool->Hp->Prop),Inv X π σ H s->t σ H Q->cn (cq X.prog X.w) X.A (isTrue e X.env whole) (TP X π σ Q) X.xe s
theorem PW.pt (h:PW X e t):PT X e t:=h _
def PA (X:Cx)(es:List Expr)(t:TA):Prop:=
 ∀(pos:Pos) (π:Zo) (s:aT) (σ:St) (H:Hp) (Q:List V->Hp->Prop),Inv X π σ H s->t σ H Q->cn (cq X.prog X.w) X.A (spliced<|hJ pos<|ar es X.env) (AP X π σ Q) X.xe s
def PS (X:Cx)(st:Stmt)(t:TS):Prop:=
 ∀(π:Zo) (s:aT) (σ:St) (H:Hp) (D:Ends),Inv X π σ H s->t D σ H->cn (cq X.prog X.w) X.A (exec st X.env) (SP X π D) X.xe s
def PSs (X:Cx)(st:List Stmt)(t:TS):Prop:=
 ∀(π:Zo) (s:aT) (σ:St) (H:Hp) (D:Ends),Inv X π σ H s->t D σ H->cn (cq X.prog X.w) X.A (execs st X.env) (SP X π D) X.xe s
theorem thn (h:cn M A t Q E s)(hQ:∀a s,Q a s->Q' a s):cn M A t Q' E s:=gS h hQ λ_ _ x=>x
section
variable {X:Cx}
theorem bin (ha:PE X a ta)(hb:PE X b tb){π:Zo}{s:aT}{σ:St}{H:Hp}{R:V->V->Hp->Prop}(I:Inv X π σ H s)(h:ta σ H λx H1=>tb σ H1 λy H2=>R x y H2)
  {α:Type} {Q:α->aT->Prop} {f:a7->a7->Sem α}
  (hf:∀v u s2 x y H2,Inv X π σ H2 s2->RelV x v->RelV y u->R x y H2->cn (cq X.prog X.w) X.A (f v u) Q X.xe s2):
  cn (cq X.prog X.w) X.A (eval a X.env) (λv s₁=>cn (cq X.prog X.w) X.A (eval b X.env) (λu s₂=>cn (cq X.prog X.w) X.A (f v u) Q X.xe s₂) X.xe s₁) X.xe s:=by
 refine thn (ha π s σ H _ I h) λv s1 hE=>xq2 hE λx H1 I1 r1 q1=>?_;refine thn (hb π s1 σ H1 _ I1 q1) λu s2 hE=>xq2 hE λy H2 I2 r2 q2=>?_;exact hf v u s2 x y H2 I2 r1 r2 q2
def uF (i:Nat):TE:=λσ H Q=>∃v,σ[i]? = some (some v)/\Q v H
def tC (v:V):TE:=λ_ H Q=>Q v H
theorem aA (hN:X.N[i]? = some x)(hv:Vis X.env.scope x)(hd:(x==("__debug__":Str))=false:=by decide)(hcd:(x==("__classdict__":Str))=false:=by decide):PE X (.Name x pos) (uF i):=by
 intro π s σ H Q I h;obtain⟨v,e,h⟩:=h;obtain⟨m,hn,hl⟩:=I.loc;obtain⟨u,r,l⟩:=hl i x v hN e hv;have fin:EP X π σ Q u s:=⟨v,H,I,r,h⟩;rcases l with⟨hk,hm⟩|⟨hk,c,hc,hcell⟩
 ·exact wpAny_Name (wpAny_loadName_local I.ok.kind hk hn hm fin) hd
 ·rcases hk with hk|hk
  ·exact wpAny_Name (wpAny_loadName_cell I.ok.kind hk hc hcell fin) hd
  ·exact wpAny_Name (wpAny_loadName_free I.ok.kind hk hc hcell fin hcd) hd
theorem lJ:PE X (.Constant (.int i) j pos) (tC<|.int i):=λ_ _ _ H _ I h=>wpAny_Constant_int ⟨.int i,H,I.tok _,⟨_,rfl⟩,h⟩
theorem J4:PE X (.Constant (.bool b) j pos) (tC<|.bl b):=λ_ _ _ H _ I h=>Constant_bool ⟨.bl b,H,I,rfl,h⟩
theorem qH:PE X (.Constant .none j pos) (tC .non):=λ_ _ _ H _ I h=>Constant_none ⟨.non,H,I,rfl,h⟩
theorem cj:PE X (.Constant (.str x) j pos) (tC<|.str x):=λ_ _ _ H _ I h=>Calls.Constant_str ⟨.str x,H,I.tok _,⟨_,rfl⟩,h⟩
def Gl (X:Cx)(x:Str):Prop:=X.env.kindOf x=some .globalImplicit
theorem nZ (I:Inv X π σ H s)(hg:Gl X x)(hm:X.mg x=some u)(h:Q u s)
  (hd:(x==("__debug__":Str))=false:=by decide):cn (cq X.prog X.w) X.A (eval (.Name x pos) X.env) Q E s:=
 nL I.ok.kind hg (Calls.loadGlobal_global (by rw[I.ok.glob];exact I.mod.glob.keeps I.bk) hm h) hd
theorem yG (I:Inv X π σ H s)(hg:Gl X x)(hm:X.mg x=none)(hv:cf x=some u)(h:Q u s)
  (hn:x≠"__name__":=by decide) (hd:(x==("__debug__":Str))=false:=by decide):cn (cq X.prog X.w) X.A (eval (.Name x pos) X.env) Q E s:=by
 obtain⟨mb,h1,h2⟩:=I.mod.blt;exact nL I.ok.kind hg (Calls.loadGlobal_builtin (by rw[I.ok.glob];exact I.mod.glob.keeps I.bk) hm (by rw[I.ok.blt];exact h1.keeps I.bk) ((h2 x hn).trans hv) h) hd
theorem mz (hg:Gl X x)(hm:X.mg x=some u)(r:RelV v u)(hd:(x==("__debug__":Str))=false:=by decide):PE X (.Name x pos) (tC v):=
 λ_ _ _ H _ I h=>nZ I hg hm ⟨v,H,I,r,h⟩ hd
theorem sX (hg:Gl X x)(hm:X.mg x=none)(hv:cf x=some u)(r:RelV v u)(hn:x≠"__name__":=by decide)(hd:(x==("__debug__":Str))=false:=by decide):PE X (.Name x pos) (tC v):=
 λ_ _ _ H _ I h=>yG I hg hm hv ⟨v,H,I,r,h⟩ hn hd
def t2I (ta tb:TE)(k:Int->Int->Hp->Prop):St->Hp->Prop:=λσ H=>ta σ H λx H1=>tb σ H1 λy H2=>∃i j,x=.int i/\y=.int j/\k i j H2
def VP (ta tb:TE):TE:=λσ H Q=>t2I ta tb (λi j H2=>Q (.int<|i+j) H2) σ H
variable {a b:Expr}{ta tb:TE}{pos:Pos}
theorem Ld (ha:PE X a ta)(hb:PE X b tb):PE X (.BinOp a .Add b pos) (VP ta tb):=by
 intro π s σ H Q I h;refine wpAny_BinOp<|bin ha hb I h λv u s2 x y H2 I2 rx ry q=>?_;obtain⟨i,j,rfl,rfl,q⟩:=q;obtain⟨t,rfl⟩:=rx;obtain⟨t',rfl⟩:=ry;exact add_int ⟨.int _,H2,I2.tok _,⟨_,rfl⟩,q⟩
def PC (X:Cx)(op:CmpOp)(a b:Expr)(t:TE):Prop:=
 ∀(π:Zo) (s:aT) (σ:St) (H:Hp) (Q:VK),Inv X π σ H s->t σ H Q->
  cn (cq X.prog X.w) X.A (eval a X.env) (λv s₁=>cn (cq X.prog X.w) X.A (eval b X.env) (λu s₂=>cn (cq X.prog X.w) X.A (dk op v u) (EP X π σ Q) X.xe s₂) X.xe s₁) X.xe s
theorem K6 (b:Expr){op:CmpOp}(h:op≠.In)(h2:op≠.NotIn):iv op b=false:=by
 have e1:(op==CmpOp.In)=false:=by cases op<;>first|rfl|exact absurd rfl h
 have e2:(op==CmpOp.NotIn)=false:=by cases op<;>first|rfl|exact absurd rfl h2
 cases b<;>simp[iv,e1,e2]
def S5 (p:Int->Int->Bool)(ta tb:TE):TE:=λσ H Q=>t2I ta tb (λi j H2=>Q (.bl<|p i j) H2) σ H
abbrev tLt:TE->TE->TE:=S5 λi j=>decide<|i<j
abbrev tGt:TE->TE->TE:=S5 λi j=>decide<|j<i
theorem J2 (ha:PE X a ta)(hb:PE X b tb)
  (rule:∀(i j:Int) (t u:Tok) (Q:Zv) (s:aT),Q (.bool<|p i j) s->cn (cq X.prog X.w) X.A (dk op (.int i t)<|.int j u) Q X.xe s):PC X op a b (S5 p ta tb):=by
 intro π s σ H Q I h;refine bin ha hb I h λv u s2 x y H2 I2 rx ry q=>?_;obtain⟨i,j,rfl,rfl,q⟩:=q;obtain⟨t,rfl⟩:=rx;obtain⟨t',rfl⟩:=ry;exact rule i j t t' _ s2 ⟨.bl _,H2,I2,rfl,q⟩
theorem Kg (ha:PE X a ta)(hb:PE X b tb):PC X .Lt a b (tLt ta tb):=J2 ha hb λ_ _ _ _ _ _ h=>lt_int h
theorem QV (ha:PE X a ta)(hb:PE X b tb):PC X .Gt a b (tGt ta tb):=J2 ha hb λ_ _ _ _ _ _ h=>gt_int h
def Xo (ta:TE):TE:=λσ H Q=>ta σ H λx H1=>Q (.bl<|decide<|x=.non) H1
theorem RelV.J0 (r:RelV x v):(v==gE)=decide (x=.non):=by
 cases x with
 |non=>cases r;rfl
 |bl _=>cases r;rfl
 |int _=>obtain⟨t,rfl⟩:=r;rfl
 |str _=>obtain⟨t,rfl⟩:=r;rfl
 |byt _=>obtain⟨t,rfl⟩:=r;rfl
 |flt _=>obtain⟨t,rfl⟩:=r;rfl
 |ref _=>cases r;rfl
 |ty _=>cases r;rfl
theorem K7 (ha:PE X a ta):PC X .Is a (.Constant .none j pos') (Xo ta):=by
 intro π s σ H Q I h;refine thn (ha π s σ H _ I h) λv s1 hE=>xq2 hE λx H1 I1 r1 q1=>?_;exact Constant_none<|is_none_gen ⟨.bl _,H1,I1,by rw[r1.J0];rfl,q1⟩
def tB (t:TE):TT:=λσ H Q=>t σ H λx H1=>∃c,x=.bl c/\Q c H1
theorem pI (h:PC X op a b t)(h1:iv op b=false:=by first|exact K6 _ (by decide) (by decide)|rfl):PT X (.Compare a [op] [b] pos) (tB t):=by
 intro π s σ H Q I hw;refine wpAny_isTrue_Compare1 (thn (h π s σ H _ I hw) λv s1 h1=>thn h1 λu s2 h2=>thn h2 λc s3 hE=>xq2 hE λx H1 I1 r1 q1=>?_) h1;obtain⟨d,rfl,q⟩:=q1;cases r1;exact gT ⟨H1,I1,q⟩
theorem gK (h:PE X e t)(he:∀whole,isTrue e X.env whole=(do let v←whole;standAt e.pos;holding [v] (truthy v)):=by intro _;rfl):PT X e (tB t):=by
 intro π s σ H Q I hw;refine isTrue_plain (thn (h π s σ H _ I hw) λv s1 hE=>xq2 hE λx H1 I1 r1 q1=>?_)<|he _;obtain⟨d,rfl,q⟩:=q1;cases r1;exact gT ⟨H1,I1,q⟩
variable {tA tB':TT}{rest:List Expr}
def WQ (t u:TT):TT:=λσ H Q=>t σ H λc H1=>if c=true then u σ H1 Q else Q false H1
def tOr (t u:TT):TT:=λσ H Q=>t σ H λc H1=>if c=true then Q true H1 else u σ H1 Q
def Qs (t:TT):TT:=λσ H Q=>t σ H λc H1=>Q (!c) H1
theorem QJ (ha:PT X a tA):PW X (.BoolOp .And [a] pos) tA:=by
 intro wh π s σ H Q I h;refine isTrue_and<|thn (ha π s σ H Q I h) λc s1 e=>?_;cases c with
 |true=>exact isTrue_and_nil e
 |false=>exact e
theorem RW (ha:PT X a tA):PW X (.BoolOp .Or [a] pos) tA:=by
 intro wh π s σ H Q I h;refine isTrue_or<|thn (ha π s σ H Q I h) λc s1 e=>?_;cases c with
 |false=>exact isTrue_or_nil e
 |true=>exact e
theorem Ub (ha:PT X a tA)(hb:PW X (.BoolOp .And (b::rest) pos) tB'):PW X (.BoolOp .And (a::b::rest) pos) (WQ tA tB'):=by
 intro wh π s σ H Q I h;refine isTrue_and<|thn (ha π s σ H _ I h) λc s1 ⟨H1,I1,q1⟩=>?_;cases c with
 |true=>exact hb wh π s1 σ H1 Q I1 q1
 |false=>exact⟨H1,I1,q1⟩
theorem Wi (ha:PT X a tA)(hb:PW X (.BoolOp .Or (b::rest) pos) tB'):PW X (.BoolOp .Or (a::b::rest) pos) (tOr tA tB'):=by
 intro wh π s σ H Q I h;refine isTrue_or<|thn (ha π s σ H _ I h) λc s1 ⟨H1,I1,q1⟩=>?_;cases c with
 |true=>exact⟨H1,I1,q1⟩
 |false=>exact hb wh π s1 σ H1 Q I1 q1
theorem nu (ha:PT X a tA):PT X (.UnaryOp .Not a pos) (Qs tA):=by
 intro π s σ H Q I h;exact isTrue_not<|ha π s σ H (λc H1=>Q (!c) H1) I h
def Wj (ta tb:TE):TE:=λσ H Q=>ta σ H λx H1=>∃c,x=.bl c/\if c=true then tb σ H1 Q else Q (.bl false) H1
def V7 (ta:TE):TE:=λσ H Q=>ta σ H λx H1=>∃c,x=.bl c/\Q (.bl<|!c) H1
theorem T5 (h:PE X a t):PE X (.BoolOp op [a] pos) t:=λπ s σ H Q I hw=>BoolOp_one<|h π s σ H Q I hw
theorem UL (ha:PE X a ta)(hb:PE X (.BoolOp .And (b::rest) pos) tb):PE X (.BoolOp .And (a::b::rest) pos) (Wj ta tb):=by
 intro π s σ H Q I h;refine BoolOp_and<|thn (ha π s σ H _ I h) λv s1 hE=>xq2 hE λx H1 I1 r1 q1=>?_;obtain⟨c,rfl,q1⟩:=q1;cases r1;refine gT ?_;cases c with
 |true=>exact hb π s1 σ H1 Q I1 q1
 |false=>exact⟨.bl false,H1,I1,rfl,q1⟩
theorem Tp (ha:PE X a ta):PE X (.UnaryOp .Not a pos) (V7 ta):=by
 intro π s σ H Q I h;refine UnaryOp_<|thn (ha π s σ H _ I h) λv s1 hE=>xq2 hE λx H1 I1 r1 q1=>?_;obtain⟨c,rfl,q1⟩:=q1;cases r1;exact not_of<|gT ⟨.bl<|!c,H1,I1,rfl,q1⟩
def tIf (t:TT)(ta tb:TE):TE:=λσ H Q=>t σ H λc H1=>if c=true then ta σ H1 Q else tb σ H1 Q
theorem t6 (hc:PT X c tA)(ha:PE X a ta)(hb:PE X b tb):PE X (.IfExp c a b pos) (tIf tA ta tb):=by
 intro π s σ H Q I h;refine wpAny_IfExp<|thn (hc π s σ H _ I h) λd s1 ⟨H1,I1,q1⟩=>?_;cases d with
 |true=>exact ha π s1 σ H1 Q I1 q1
 |false=>exact hb π s1 σ H1 Q I1 q1
end
def SqL (K:av)(H:Hp)(a:Addr)(xs:List V):Prop:=
 Rd H a (.lst xs) ∨
  ∃(o:Obj) (its:Array a7) (n:Nat),K.lookup a=some o/\o.cls=.type "list"/\o.dict=none/\o.data=.seq its n/\its.size<=be/\Vals xs its.toList
def SqT (K:av)(H:Hp)(a:Addr)(xs:List V):Prop:=
 Rd H a (.tup xs) ∨
  ∃(o:Obj) (its:Array a7) (n:Nat),K.lookup a=some o/\o.cls=.type "tuple"/\(o.data=.seq its n/\o.dict=none)/\its.size<=be/\Vals xs its.toList
abbrev KTp (K:av)(a:Addr)(xs:List V):Prop:=
  ∃(o:Obj) (its:Array a7) (n:Nat),K.lookup a=some o/\o.cls=.type "tuple"/\(o.data=.seq its n/\o.dict=none)/\its.size<=be/\Vals xs its.toList
def SqU (K:av)(H:Hp)(a:Addr)(xs:List V):Prop:=H a=some (.tup xs)\/KTp K a xs
theorem SqU.sq {K:av}{H:Hp}{a:Addr}{xs:List V}(h:SqU K H a xs):SqT K H a xs:=h.elim (λe=>.inl<|.inl e) .inr
theorem SqU.of {K:av}{H:Hp}{a:Addr}{xs:List V}(h:H a=some (.tup xs)):SqU K H a xs:=.inl h
noncomputable def W9:a7->Option V
 | .none=>some .non
 | .bool b=>some<|.bl b
 | .int i _=>some<|.int i
 | .str x _=>some<|.str x
 | .bytes b _=>some<|.byt b
 | .float b _=>some<|.flt b
 | .ref a=>some<|.ref a
 | .type n=>some<|.ty n
 |_=>none
theorem RelV.abs (r:RelV x u):W9 u=some x:=by
 cases x with
 |non=>cases r;rfl
 |bl _=>cases r;rfl
 |int _=>obtain⟨t,rfl⟩:=r;rfl
 |str _=>obtain⟨t,rfl⟩:=r;rfl
 |byt _=>obtain⟨t,rfl⟩:=r;rfl
 |flt _=>obtain⟨t,rfl⟩:=r;rfl
 |ref _=>cases r;rfl
 |ty _=>cases r;rfl
theorem RelV.inj (r:RelV x u)(q:RelV y u):x=y:=ck<|r.abs.symm.trans q.abs
theorem Vals.inj:∀{xs ys:List V} {us:List a7},Vals xs us->Vals ys us->xs=ys
 |_,_,_,.nil,.nil=>rfl
 |_,_,_,.cons r t,.cons r' t'=>by rw[r.inj r',Vals.inj t t']
section
variable {X:Cx}{π:Zo}{σ:St}{H:Hp}{s:aT}{a:Addr}{xs ys:List V}
theorem SqL.of {K:av}(h:H a=some (.lst xs)):SqL K H a xs:=.inl<|.inl h
theorem Inv.list (I:Inv X π σ H s)(h:SqL X.K H a xs):∃its:List a7,Vals xs its/\PlainL s.heap a its.toArray/\xs.length<=be:=by
 rcases h with h|⟨o,its,n,hk,hc,hd,hs,hz,r⟩
 ·obtain⟨z,its,n,r,e⟩:=h.ok I.hok;exact⟨its,r,⟨_,n,e,rfl,rfl,rfl⟩,z⟩
 ·refine⟨its.toList,r,⟨o,n,I.kIn a o hk,hc,hd,by simpa using hs⟩,?_⟩;have e:=r.length;simp only[mE] at e
  lia
theorem Inv.tuple (I:Inv X π σ H s)(h:SqT X.K H a xs):∃its:List a7,Vals xs its/\IsTup s.heap a its.toArray/\xs.length<=be:=by
 rcases h with h|⟨o,its,n,hk,hc,hs,hz,r⟩
 ·obtain⟨z,its,r,p⟩:=h.ok I.hok;exact⟨its,r,p.tup,z⟩
 ·refine⟨its.toList,r,⟨o,I.kIn a o hk,hc,n,by simpa using hs.1⟩,?_⟩;have e:=r.length;simp only[mE] at e
  lia
theorem Inv.Jl (I:Inv X π σ H s)(h:SqL X.K H a xs)(h':SqL X.K H a ys):xs=ys:=by
 obtain⟨its,r,⟨o,n,e,_,_,d⟩,_⟩:=I.list h;obtain⟨its',r',⟨o',n',e',_,_,d'⟩,_⟩:=I.list h';rw[e] at e';cases e';rw[d] at d';injection d' with d1 _
 have:its=its':=by simpa using congrArg vT d1
 subst this;exact r.inj r'
theorem Inv.GQ (I:Inv X π σ H s)(h:SqT X.K H a xs)(h':SqT X.K H a ys):xs=ys:=by
 obtain⟨its,r,⟨o,e,_,n,d⟩,_⟩:=I.tuple h;obtain⟨its',r',⟨o',e',_,n',d'⟩,_⟩:=I.tuple h';rw[e] at e';cases e';rw[d] at d';injection d' with d1 _
 have:its=its':=by simpa using congrArg vT d1
 subst this;exact r.inj r'
end
abbrev Cx.wish (X:Cx)(E:Zv):Cx:={ X with xe:=E }
abbrev Cx.nox (X:Cx):Cx:=X.wish λ_ _=>False
theorem Cx.Ok.wish {X:Cx}(ok:X.Ok)(E:Zv):(X.wish E).Ok:=
 ⟨ok.mod,ok.kind,ok.glob,ok.blt,ok.above,ok.inj,ok.has,ok.cab,ok.hd,ok.frames,ok.stk,ok.exf,ok.bs,ok.bsz,ok.noex,ok.exfs,ok.oE,ok.frf⟩
theorem Cx.Ok.xu {X:Cx}(ok:(X.wish E).Ok):X.Ok:=
 ⟨ok.mod,ok.kind,ok.glob,ok.blt,ok.above,ok.inj,ok.has,ok.cab,ok.hd,ok.frames,ok.stk,ok.exf,ok.bs,ok.bsz,ok.noex,ok.exfs,ok.oE,ok.frf⟩
section
variable {X:Cx}{π:Zo}{σ:St}{H:Hp}{s:aT}{E:Zv}
theorem Inv.wish (I:Inv X π σ H s)(E:Zv):Inv (X.wish E) π σ H s:=⟨I.ok.wish E,I.os,I.bare,I.base,I.loc,I.cell,I.free,I.freeC,I.pin,I.hok,I.len⟩
theorem Inv.xu (I:Inv (X.wish E) π σ H s):Inv X π σ H s:=⟨I.ok.xu,I.os,I.bare,I.base,I.loc,I.cell,I.free,I.freeC,I.pin,I.hok,I.len⟩
end
section
variable {X:Cx}{st:Stmt}{rest:List Stmt}{t u:TS}{e:Expr}{te:TE}{pos:Pos}
def Ea:TS:=λD σ H=>D.nx σ H
def Mu (t u:TS):TS:=λD σ H=>t { D with nx:=u D } σ H
theorem dH:PSs X [] Ea:=λ_ _ σ H _ I h=>ka ⟨σ,H,I,h⟩
theorem aJ (h1:PS X st t)(h2:PSs X rest u):PSs X (st::rest) (Mu t u):=by
 intro π s σ H D I h;refine qh<|thn (h1 π s σ H { D with nx:=u D } I h) λf s1 q=>?_;cases f with
 |next=>
  obtain⟨σ',H',I',q⟩:=q;exact h2 π s1 σ' H' D I' q
 |ret v=>exact q
 |brk=>exact q
 |cont=>exact q
theorem bA (h1:PS X st t):PSs X [st] t:=by
 intro π s σ H D I h;refine qh<|thn (h1 π s σ H D I h) λf s1 q=>?_;cases f with
 |next=>exact ka q
 |ret v=>exact q
 |brk=>exact q
 |cont=>exact q
theorem Inv.quiet (I:Inv X π σ H s):interactive X.env=false:=by simp[interactive,I.ok.kind]
def LR (te:TE):TS:=λD σ H=>te σ H λ_ H1=>D.nx σ H1
theorem cF (he:PE X e te)(hs:ja e none pos.line X.env=pure false:=by rfl):PS X (.Expr e pos) (LR te):=by
 intro π s σ H D I h;exact wpAny_Expr_any (thn (he π s σ H _ I h) λv s1 hE=>xq2 hE λx H1 I1 r1 q1=>⟨σ,H1,I1,q1⟩) I.quiet hs
def JL (te:TE):TS:=λD σ H=>te σ H D.rt
theorem dW (he:PE X e te):PS X (.Return (some e) pos) (JL te):=by
 intro π s σ H D I h;exact wpAny_Return_some<|thn (he π s σ H _ I h) λv s1 hE=>xq2 hE λx H1 I1 r1 q1=>⟨x,σ,H1,I1,r1,q1⟩
def Qm (c:TT)(t u:TS):TS:=λD σ H=>c σ H λb H1=>if b=true then t D σ H1 else u D σ H1
theorem gf (hc:PT X c tc)(ha:PSs X a t)(hb:PSs X b u):PS X (.If c a b pos) (Qm tc t u):=by
 intro π s σ H D I h;refine wpAny_If<|thn (hc π s σ H _ I h) λd s1 ⟨H1,I1,q1⟩=>?_;cases d with
 |true=>exact ha π s1 σ H1 D I1 q1
 |false=>exact hb π s1 σ H1 D I1 q1
def SM:TS:=λ_ _ _=>False
theorem kJ:PSs X sts SM:=λ_ _ _ _ _ _ h=>h.elim
end
abbrev TG:=V->St->Hp->(St->Hp->Prop)->Prop
abbrev TGs:=List V->St->Hp->(St->Hp->Prop)->Prop
def PG (X:Cx)(target:Expr)(t:TG):Prop:=
 ∀(π:Zo) (s:aT) (σ:St) (H:Hp) (v:V) (u:a7) (Q:St->Hp->Prop),Inv X π σ H s->RelV v u->t v σ H Q->
  cn (cq X.prog X.w) X.A (xo target X.env u) (λ_ s'=>∃σ' H',Inv X π σ' H' s'/\Q σ' H') X.xe s
def PGs (X:Cx)(ts:List Expr)(t:TGs):Prop:=
 ∀(π:Zo) (s:aT) (σ:St) (H:Hp) (vs:List V) (us:List a7) (Q:St->Hp->Prop),Inv X π σ H s->Vals vs us->t vs σ H Q->
  cn (cq X.prog X.w) X.A (assignInOrder ((kM ts X.env).map (·.2)) us) (λ_ s'=>∃σ' H',Inv X π σ' H' s'/\Q σ' H') X.xe s
section
def vV (i:Nat):TG:=λv σ H Q=>Q (σ.set i<|some v) H
theorem Oj (hN:X.N.Nodup)(hi:X.N[i]? = some x)(hx:Loc X.env.scope x)(hf:X.fn x=true\/X.env.scope.names.lookup x=some .local:=by first|exact .inl rfl|exact .inr rfl|assumption):PG X (.Name x pos) (vV i):=by
 intro π s σ H v u Q I r h;exact wpAny_assign_Name<|vd I hN hi hx r (λs' I'=>⟨_,H,I',h⟩) hf
def Xw:TGs:=λvs σ H Q=>vs=[]/\Q σ H
def Vh (t:TG)(u:TGs):TGs:=λvs σ H Q=>∃v r,vs=v::r/\t v σ H λσ' H'=>u r σ' H' Q
theorem Nr:PGs X [] Xw:=by
 intro π s σ H vs us Q I r h;obtain⟨e,h⟩:=h;subst e;cases r;exact assignInOrder_nil ⟨σ,H,I,h⟩
theorem Ia (h1:PG X e t)(h2:PGs X es u)
  (hs:(kM (e::es) X.env).map (·.2)=xo e X.env::(kM es X.env).map (·.2):=by rfl):PGs X (e::es) (Vh t u):=by
 intro π s σ H vs us Q I r h;obtain⟨v,vr,e1,h⟩:=h;subst e1;cases r with
 |cons r rr=>
  rw[hs];refine assignInOrder_cons<|thn (h1 π s σ H _ _ _ I r h) λ_ s1 hE=>?_;obtain⟨σ1,H1,I1,q1⟩:=hE;exact h2 π s1 σ1 H1 _ _ Q I1 rr q1
def W4 (K:av)(n:Nat)(t:TGs):TG:=λv σ H Q=>∃a xs,v=.ref a/\SqT K H a xs/\xs.length=n/\t xs σ H Q
theorem R7 (hc:X.calm=true)(h:PGs X es t)
  (hn:(kM es X.env).length=n:=by rfl) (hst:(kM es X.env).findIdx? (·.1)=none:=by rfl):PG X (.Tuple es k pos) (W4 X.K n t):=by
 intro π s σ H v u Q I r hw;obtain⟨a,xs,e1,hq,hl,hw⟩:=hw;subst e1;cases r;obtain⟨its,rv,ht,hz⟩:=I.tuple hq;refine assign_Tuple_tuple (I.ok.hd hc) ht (by simp[hn,← hl,rv.length]) hst λh' hx=>?_;have I1:Inv X π σ H { s with heap:=h' }:=I.kept (t':=s.toks) λb o e=>hx b o (c8<|bq e) e;exact h π _ σ H xs _ Q I1 (by simpa using rv) hw
def Om (te:TE)(g:TG):TS:=λD σ H=>te σ H λx H1=>g x σ H1 D.nx
theorem cu (hN:X.N.Nodup)(hi:X.N[i]? = some x)(hx:Loc X.env.scope x)(he:PE X e te)(hs:ja e (some<|.Name x pos') pos.line X.env=pure false:=by rfl)(hf:X.fn x=true\/X.env.scope.names.lookup x=some .local:=by first|exact .inl rfl|exact .inr rfl|assumption):
  PS X (.Assign [.Name x pos'] e pos) (Om te<|vV i):=by
 intro π s σ H D I h;refine wpAny_Assign_Name (thn (he π s σ H _ I h) λv s1 hE=>xq2 hE λy H1 I1 r1 q1=>?_) hs;exact vd I1 hN hi hx r1 (λs2 I2=>⟨_,H1,I2,q1⟩) hf
end
section
def Ug (c:TT)(tb:TS):TS:=λD σ H=>∃W:Nat->St->Hp->Prop,(∃m,W m σ H)/\∀m σ H,W m σ H->
 c σ H λb H1=>if b=true then ∃N:St->Hp->Prop,(∀σ' H',N σ' H'->∃m',m'<m/\W m' σ' H')/\tb { D with nx:=N,ct:=N,bk:=D.nx } σ H1 else D.nx σ H1
theorem pU (hp:t9 (cq X.prog X.w) X.A X.env X.xe)(hc:PT X c tc)(hb:PSs X body tb):PS X (.While c body [] pos) (Ug tc tb):=by
 intro π s σ H D I h;obtain⟨W,⟨m0,w0⟩,turn⟩:=h;refine wpAny_While<|codeAny_whileLoop (λn s'=>∃σ' H',Inv X π σ' H' s'/\W n σ' H') ?_ m0 ⟨σ,H,I,w0⟩;rintro n s1 ⟨σ1,H1,I1,w1⟩;refine iS hp<|thn (hc π s1 σ1 H1 _ I1<|turn n σ1 H1 w1) λb s2 ⟨H2,I2,q2⟩=>?_;cases b with
 |true=>
  obtain⟨N,hN,q2⟩:=q2;rw[if_pos rfl];refine iS hp<|thn (hb π s2 σ1 H2 _ I2 q2) λf s3 q3=>?_;cases f with
  |next=>
   obtain⟨σ3,H3,I3,n3⟩:=q3;obtain⟨m',hm,w3⟩:=hN σ3 H3 n3;exact⟨m',hm,σ3,H3,I3,w3⟩
  |cont=>
   obtain⟨σ3,H3,I3,n3⟩:=q3;obtain⟨m',hm,w3⟩:=hN σ3 H3 n3;exact⟨m',hm,σ3,H3,I3,w3⟩
  |brk=>exact q3
  |ret v=>exact q3
 |false=>
  rw[if_neg aI];exact ka ⟨σ1,H2,I2,q2⟩
end
structure It where
 go:Nat->Hp->Prop
 yld:Nat->Hp->V->Hp->Prop
 stop:Nat->Hp->Prop
def su (X:Cx)(π:Zo)(H:Hp)(b:Addr):Prop:=
 H b=none/\b≠X.env.locals/\b∉X.fs/\(b∈X.ex\/X.s₀.heap.objs.size<=b)/\(∀x c,X.env.cells.lookup x=some c->c≠b)/\∀p∈X.pn++π,p.1≠b
theorem Inv.Qx (I:Inv X π σ H s)(hb:s.heap.objs.size<=b)(hn:H' b=none):su X π H' b:=by
 refine⟨hn,qS<|aS I.lt hb,I.WR hb,.inr<|cm I.sz hb,λx c e z=>?_,λp hp z=>?_⟩
 ·obtain⟨v,q⟩:=I.cell x c e;exact absurd (aS q.lt (by rw[z];exact hb))<|fw _
 ·exact absurd (aS (bq (I.pin p hp).1) (by rw[z];exact hb))<|fw _
abbrev Calm (X:Cx):Prop:=X.calm=true
structure Turn (Cm:Cx->Prop)(P:bg)(w:cw)(K:av)(tg:Expr)(J:It)(fp:List Addr)(it:Addr)(tn:Nat->Heap->Prop):Prop where
 mem:it∈fp
 obj:∀i h,tn i h->∀b∈fp,∃o,h.get? b=some o/\∀v,o.data≠.cell v
 keep:∀i h h',tn i h->(∀b∈fp,∀o,h.get? b=some o->h'.get? b=some o)->tn i h'
 item:∀(X:Cx),X.prog=P->X.w=w->X.K=K->Cm X->∀(i:Nat) (π:Zo) (s:aT) (σ:St) (H:Hp) (E:Zv),Inv X π σ H s->(∀b∈fp,su X π H b)->tn i s.heap->J.go i H->
  cn (cq P w) X.A (pyNext (.ref it)) (λr s1=>∃u,r=some u/\
   cn (cq P w) X.A (qV tg (.ref it) u) (λ_ s2=>∃x H',Inv X π σ H' s2/\RelV x u/\J.yld i H x H'/\tn (i+1) s2.heap/\∀b∈fp,H' b=none) E s1) E s
 done:∀(X:Cx),X.prog=P->X.w=w->X.K=K->Cm X->∀(i:Nat) (π:Zo) (s:aT) (σ:St) (H:Hp) (E:Zv),Inv X π σ H s->(∀b∈fp,su X π H b)->tn i s.heap->J.stop i H->
  cn (cq P w) X.A (pyNext (.ref it)) (λr s1=>r=none/\Inv X π σ H s1) E s
 self:∀(A:eB) (i:Nat) (s:aT) (Q:Zv) (E:Zv),tn i s.heap->Q (.ref it) s->cn (cq P w) A (pyIter (.ref it)) Q E s
abbrev TI:=St->Hp->(It->Hp->Prop)->Prop
def PIE (Cm:Cx->Prop)(X:Cx)(π:Zo)(σ:St)(tg:Expr)(R:It->Hp->Prop)(itv:a7)(s2:aT):Prop:=
 ∃(it:Addr) (fp:List Addr) (tn:Nat->Heap->Prop) (J:It) (H':Hp),itv=.ref it/\Inv X π σ H' s2/\Turn Cm X.prog X.w X.K tg J fp it tn/\tn 0 s2.heap/\(∀b∈fp,su X π H' b)/\R J H'
def PI (Cm:Cx->Prop)(X:Cx)(tg iter:Expr)(wi:TI):Prop:=
 ∀(π:Zo) (s:aT) (σ:St) (H:Hp) (R:It->Hp->Prop),Inv X π σ H s->wi σ H R->
  cn (cq X.prog X.w) X.A (eval iter X.env) (λv s1=>cn (cq X.prog X.w) X.A (pyIter v) (PIE Cm X π σ tg R) X.xe s1) X.xe s
theorem Dg (ho : s.heap.get? it = some o) (hc : o.cls = .type n) (hd : o.data = .fields vs)
    (hn : ["enumerate", "zip", "dict_itemiterator", "dict_reverseitemiterator", "odict_iterator", "itertools.zip_longest", "itertools.pairwise"].contains n = false) (hQ : Q () s) : cn M A (qV tg (.ref it) u) Q E s := by
  unfold qV;cases tg<;>first
    | exact bS hQ
    | (cases u<;>first
        | exact bS hQ
        | (refine ay (wpAny_load ho ?_)
           rw [hc, hd];show cn M A (if (["enumerate", "zip", "dict_itemiterator", "dict_reverseitemiterator", "odict_iterator", "itertools.zip_longest", "itertools.pairwise"].contains n && vs[0]? == some (rawInt _)) = true then _ else _) Q E s;rw [if_neg (by intro h;rw [hn, Bool.false_and] at h;cases h)];exact bS hQ))
def Itl (K:av)(a:Addr):It:=
 ⟨λi H=>∃xs x,SqL K H a xs/\xs[i]? = some x,λi H x H'=>H'=H/\∀xs,SqL K H a xs->xs[i]? = some x,λi H=>∃xs,SqL K H a xs/\xs.length<=i⟩
def Itt (K:av)(a:Addr):It:=
 ⟨λi H=>∃xs x,SqT K H a xs/\xs[i]? = some x,λi H x H'=>H'=H/\∀xs,SqT K H a xs->xs[i]? = some x,λi H=>∃xs,SqT K H a xs/\xs.length<=i⟩
def Itr (lo:Int)(n:Nat):It:=⟨λi _=>i<n,λi H x H'=>H'=H/\x=.int (lo+i),λi _=>n<=i⟩
theorem HD {P:bg}{w:cw}{K:av}{tg:Expr}(a it:Addr):Turn Calm P w K tg (Itl K a) [it] it (λi h=>h.IsListIter it a i) where
 mem:=by simp
 obj:=λi h st b hb=>by
  have e:b=it:=by simpa using hb
  subst e;obtain⟨o,e,c,d⟩:=st;exact⟨o,e,λv z=>by rw[d] at z;cases z⟩
 keep:=λi h h' st k=>st.at λo e=>k it (by simp) o e
 item:=by
  intro X hP hw hK hc i π s σ H E I hf st hg;subst hP hw hK;obtain⟨xs,x,hq,hx⟩:=hg;obtain⟨its,rv,p,hz⟩:=I.list hq;obtain⟨u,hu,ru⟩:=rv.get hx;refine rP (hf it<|by simp) λf0 f1 f2 f3 f4 f5=>?_;refine wpAny_pyNext_list_item st p.isList (x:=u) (by simpa using hu) λh' st' sb=>?_;have I1:Inv X π σ H { s with heap:=h' }:=I.turned (t':=s.toks) (λb o hb e=>(sb.2 b hb).trans e) f0 f1 f3 f4 f5;obtain⟨o,e,c,d⟩:=id st';exact⟨u,rfl,Dg (s:={ s with heap:=h' }) e c d (by decide) ⟨x,H,I1,ru,⟨rfl,λys hy=>by rw[I.Jl hy hq];exact hx⟩,st',λb hb=>(hf b hb).1⟩⟩
 done:=by
  intro X hP hw hK hc i π s σ H E I hf st hg;subst hP hw hK;obtain⟨xs,hq,hx⟩:=hg;obtain⟨its,rv,p,hz⟩:=I.list hq;refine rP (hf it<|by simp) λf0 f1 f2 f3 f4 f5=>?_;have hl:=rv.length;exact wpAny_pyNext_list_end (I.ok.hd hc) st p.isList (by simp;lia) λh' eb=>⟨rfl,I.turned (t':=s.toks) (λb o hb e=>eb b o hb e) f0 f1 f3 f4 f5⟩
 self:=λ_ _ _ _ _ st h=>wpAny_pyIter_listiter st h
theorem By {P:bg}{w:cw}{K:av}{tg:Expr}(a it:Addr):Turn Calm P w K tg (Itt K a) [it] it (λi h=>h.IsTupleIter it a i) where
 mem:=by simp
 obj:=λi h st b hb=>by
  have e:b=it:=by simpa using hb
  subst e;obtain⟨o,e,c,d⟩:=st;exact⟨o,e,λv z=>by rw[d] at z;cases z⟩
 keep:=λi h h' st k=>st.at λo e=>k it (by simp) o e
 item:=by
  intro X hP hw hK hc i π s σ H E I hf st hg;subst hP hw hK;obtain⟨xs,x,hq,hx⟩:=hg;obtain⟨its,rv,p,hz⟩:=I.tuple hq;obtain⟨u,hu,ru⟩:=rv.get hx;refine rP (hf it<|by simp) λf0 f1 f2 f3 f4 f5=>?_;refine wpAny_pyNext_tuple_item st (show s.heap.IsTuple a its.toArray from p) (x:=u) (by simpa using hu) λh' st' sb=>?_;have I1:Inv X π σ H { s with heap:=h' }:=I.turned (t':=s.toks) (λb o hb e=>(sb.2 b hb).trans e) f0 f1 f3 f4 f5;obtain⟨o,e,c,d⟩:=id st';exact⟨u,rfl,Dg (s:={ s with heap:=h' }) e c d (by decide) ⟨x,H,I1,ru,⟨rfl,λys hy=>by rw[I.GQ hy hq];exact hx⟩,st',λb hb=>(hf b hb).1⟩⟩
 done:=by
  intro X hP hw hK hc i π s σ H E I hf st hg;subst hP hw hK;obtain⟨xs,hq,hx⟩:=hg;obtain⟨its,rv,p,hz⟩:=I.tuple hq;refine rP (hf it<|by simp) λf0 f1 f2 f3 f4 f5=>?_;have hl:=rv.length;exact wpAny_pyNext_tuple_end (I.ok.hd hc) st (show s.heap.IsTuple a its.toArray from p) (by simp;lia) λh' eb=>⟨rfl,I.turned (t':=s.toks) (λb o hb e=>eb b o hb e) f0 f1 f3 f4 f5⟩
 self:=λ_ _ _ _ _ st h=>wpAny_pyIter_tupleiter st h
theorem Bj {P:bg}{w:cw}{K:PySem.W.Frag}{tg:Expr}(it:Addr)(lo:Int)(n:Nat):Turn Calm P w K tg (Itr lo n) [it] it (λi h=>IsRangeIter h it (lo+(i:Nat)*1) ((n:Int)-(i:Nat)) 1) where
 mem:=by simp
 obj:=λi h st b hb=>by
  have e:b=it:=by simpa using hb
  subst e;exact⟨_,st,λv z=>by
   have z':Data.fields _=Data.cell v:=z;cases z'⟩
 keep:=λi h h' st k=>k it (by simp) _ st
 item:=by
  intro X hP hw hK hc i π s σ H E I hf st hg;subst hP hw hK;refine rP (hf it<|by simp) λf0 f1 f2 f3 f4 f5=>?_;have W:=Walks.range (prog:=X.prog) (w:=X.w) (I.ok.hd hc) it lo 1 n;refine W.item i s _ _ hg st λv h' tk hv st' kk=>?_;obtain⟨t,rfl⟩:=hv;have I1:Inv X π σ H { s with heap:=h',toks:=tk }:=I.turned (λb o hb e=>kk b o (by simpa using hb) e) f0 f1 f3 f4 f5;refine⟨_,rfl,Dg (s:={ s with heap:=h',toks:=tk }) (n:="range_iterator") st' rfl rfl (by decide) ⟨.int<|lo+i,H,I1,⟨t,?_⟩,⟨rfl,rfl⟩,st',λb hb=>(hf b hb).1⟩⟩;rw[Int.mul_one]
 done:=by
  intro X hP hw hK hc i π s σ H E I hf st hg;subst hP hw hK;refine rP (hf it<|by simp) λf0 f1 f2 f3 f4 f5=>?_;exact wpAny_pyNext_range_end (I.ok.hd hc) st (by have:n<=i:=hg;lia) λh' eb=>⟨rfl,I.turned (t':=s.toks) (λb o hb e=>eb b o hb e) f0 f1 f3 f4 f5⟩
 self:=λ_ _ _ _ _ st h=>wpAny_pyIter_rangeiter st h
section
variable {X:Cx}{tg:Expr}
def VL (K:av)(tl:TE):TI:=λσ H R=>tl σ H λx H1=>∃a,x=.ref a/\(∃xs,SqL K H1 a xs)/\R (Itl K a) H1
def Xf (K:av)(tl:TE):TI:=λσ H R=>tl σ H λx H1=>∃a,x=.ref a/\(∃xs,SqT K H1 a xs)/\R (Itt K a) H1
theorem CW {l:Expr}{tl:TE}(hl:PE X l tl):PI Calm X tg l (VL X.K tl):=by
 intro π s σ H R I h;refine thn (hl π s σ H _ I h) λv s1 hE=>xq2 hE λx H1 I1 r1 q1=>?_;obtain⟨a,e,⟨xs,hq⟩,q⟩:=q1;subst e;cases r1;obtain⟨its,rv,p,hz⟩:=I1.list hq;refine oC p.isList ?_;refine⟨s1.heap.objs.size,[s1.heap.objs.size],_,_,H1,rfl,I1.kept (t':=s1.toks) λb o e=>ah _ e,HD a _,⟨_,b0 _ rfl,rfl,rfl⟩,λb hb=>?_,q⟩;have e:b=s1.heap.objs.size:=by simpa using hb
 subst e;exact I1.Qx (a9 _)<|I1.hok.fresh<|a9 _
theorem Ui {l:Expr}{tl:TE}(hl:PE X l tl):PI Calm X tg l (Xf X.K tl):=by
 intro π s σ H R I h;refine thn (hl π s σ H _ I h) λv s1 hE=>xq2 hE λx H1 I1 r1 q1=>?_;obtain⟨a,e,⟨xs,hq⟩,q⟩:=q1;subst e;cases r1;obtain⟨its,rv,p,hz⟩:=I1.tuple hq;refine wpAny_pyIter_tuple (show s1.heap.IsTuple a its.toArray from p) ?_;refine⟨s1.heap.objs.size,[s1.heap.objs.size],_,_,H1,rfl,I1.kept (t':=s1.toks) λb o e=>ah _ e,By a _,⟨_,b0 _ rfl,rfl,rfl⟩,λb hb=>?_,q⟩;have e:b=s1.heap.objs.size:=by simpa using hb
 subst e;exact I1.Qx (a9 _)<|I1.hok.fresh<|a9 _
theorem KR {π:Zo}{σ:St}{H:Hp}{s:aT}{R:It->Hp->Prop}{E:Zv}{lo hi:Int}{t u v:Tok}{tk:Nat}(I:Inv X π σ H s)(h1:-(2^62)<=lo)(h2:lo<2^62)(h3:-(2^62)<=hi)(h4:hi<2^62)
  (q:R (Itr lo (hi-lo).toNat) H):cn (cq X.prog X.w) X.A (pyIter<|.ref s.heap.objs.size) (PIE Calm X π σ tg R) E { s with heap:=s.heap.push { cls:=.type "range",data:=.fields #[.int lo t,.int hi u,.int 1 v] },toks:=tk }:=by
 refine wpAny_pyIter_range (IsRange.new ..) (small_one h1 h2 h3 h4) ?_;have I1:Inv X π σ H { s with heap:=s.heap.push { cls:=.type "range",data:=.fields #[.int lo t,.int hi u,.int 1 v] },toks:=tk }:=I.kept λb o e=>ah _ e;refine⟨(s.heap.push { cls:=.type "range",data:=.fields #[.int lo t,.int hi u,.int 1 v] }).objs.size,[(s.heap.push { cls:=.type "range",data:=.fields #[.int lo t,.int hi u,.int 1 v] }).objs.size],_,_,H,rfl,
  I1.kept (t':=tk) λb o e=>ah _ e,Bj _ lo (hi-lo).toNat,?_,λb hb=>?_,q⟩
 ·have e1:lo+((0:Nat):Int)*1=lo:=by simp
  have e2:(((hi-lo).toNat:Nat):Int)-((0:Nat):Int)=Builtin.Range.rangeSize lo hi 1:=by rw[rangeSize_one];split<;>lia
  show IsRangeIter _ _ (lo+((0:Nat):Int)*1) ((((hi-lo).toNat:Nat):Int)-((0:Nat):Int)) 1;rw[e1,e2];exact b0 _ rfl
 ·have e:b=(s.heap.push { cls:=.type "range",data:=.fields #[.int lo t,.int hi u,.int 1 v] }).objs.size:=by simpa using hb
  subst e;exact I1.Qx (a9 _)<|I1.hok.fresh<|a9 _
def Wq (ta:TA):TI:=λσ H R=>ta σ H λvs H1=>∃j:Int,vs=[.int j]/\-(2^62)<=j/\j<2^62/\R (Itr 0 j.toNat) H1
theorem Hl (hg:Gl X "range")(hm:X.mg "range" = none)(ha:PA X [a] ta)(hs:ar [a] X.env=[(false,eval a X.env)]:=by rfl):PI Calm X tg (.Call (.Name "range" p) [a] [] pos) (Wq ta):=by
 intro π s σ H R I h;refine Call_<|yG I hg hm boot_range<|mI (thn (ha pos π s σ H _ I h) λus s1 hE=>xq2 hE λvs H1 I1 r1 q1=>?_) hs rfl;obtain⟨j,e,q1,q2,q⟩:=q1;subst e;cases r1 with
 |cons r rr=>
  cases rr;obtain⟨t,rfl⟩:=r;exact call_range_1<|KR I1 (by lia) (by lia) q1 q2<|by simpa using q
def W8 (wi:TI)(g:TG)(tb:TS):TS:=λD σ H=>wi σ H λJ H1=>∃W:Nat->Nat->St->Hp->Prop,(∃m,W 0 m σ H1)/\∀i m σ H,W i m σ H->
 (J.stop i H/\D.nx σ H)\/(J.go i H/\∃N:St->Hp->Prop,(∀σ' H',N σ' H'->∃m',m'<m/\W (i+1) m' σ' H')/\∀x H',J.yld i H x H'->g x σ H' λσ2 H2=>tb { D with nx:=N,ct:=N,bk:=D.nx } σ2 H2)
noncomputable def ph (fp:List Addr)(h:Heap):Zo:=fp.filterMap λb=>(h.get? b).map λo=>(b,o)
theorem mq (hb:b∈fp)(e:h.get? b=some o):(b,o)∈ph fp h:=jI.mpr ⟨b,hb,by rw[e];rfl⟩
theorem Hf (hp:p∈ph fp h):p.1∈fp/\h.get? p.1=some p.2:=by
 obtain⟨b,hb,e⟩:=jI.mp hp;cases q:h.get? b with
 |none=>rw[q] at e;cases e
 |some o=>
  rw[q] at e;have e':(b,o)=p:=ck e;subst e';exact⟨hb,q⟩
theorem Inv.pinned (I:Inv X π σ H s)(hf:∀b∈fp,su X π H b)(ho:∀b∈fp,∃o,s.heap.get? b=some o/\∀v,o.data≠.cell v):Inv X (π++ph fp s.heap) σ H s:=
 I.Ei λp hp=>(bE.mp hp).elim (λz=>I.pin p<|dE _ z) λz=>by
  obtain⟨hb,e⟩:=Hf z;obtain⟨f0,f1,f2,_⟩:=hf p.1 hb;obtain⟨o,e',d⟩:=ho p.1 hb;rw[e] at e';cases e';exact⟨e,f0,f1,f2,d⟩
theorem Inv.pN (I:Inv X (π++pl) σ H s):Inv X π σ H s:=I.Ei λp hp=>I.pin p<|dE _<|sF _ hp
theorem S6 (hp:t9 (cq X.prog X.w) X.A X.env X.xe){Cm:Cx->Prop}(hc:Cm X)(hi:PI Cm X tg iter wi)(hg:PG X tg g)(hb:PSs X body tb)
  (hs:∀x,gX iter X.env x=pure x:=by intro _;rfl):PS X (.For tg iter body [] pos) (W8 wi g tb):=by
 intro π s σ H D I h;refine wpAny_For (thn (hi π s σ H _ I h) λv s1 h1=>thn h1 λitv s2 h2=>?_) hs;obtain⟨it,fp,tn,J,H2,e,I2,T,st2,f2,W,⟨m0,w0⟩,turn⟩:=h2;subst e;have stat:∀{H':Hp},(∀b∈fp,H' b=none)->∀b∈fp,su X π H' b:=λhn b hb=>⟨hn b hb,(f2 b hb).2⟩;refine codeAny_forLoop_any (λn s'=>∃i σ' H',Inv X π σ' H' s'/\tn i s'.heap/\(∀b∈fp,H' b=none)/\W i n σ' H') ?_ m0 ⟨0,σ,H2,I2,st2,λb hb=>(f2 b hb).1,w0⟩;rintro n s3 ⟨i,σ3,H3,I3,st3,fr3,w3⟩;rcases turn i n σ3 H3 w3 with⟨stop,qn⟩|⟨go,N,hN,step⟩
 ·refine iS hp<|thn (T.done X rfl rfl rfl hc i π s3 σ3 H3 X.xe I3 (stat fr3) st3 stop) λr s4 ⟨hr,I4⟩=>?_;subst hr;exact ka ⟨σ3,H3,I4,qn⟩
 ·refine iS hp<|thn (T.item X rfl rfl rfl hc i π s3 σ3 H3 X.xe I3 (stat fr3) st3 go) λr s4 ⟨u,hr,h4⟩=>?_;subst hr;refine iS hp<|thn h4 λ_ s5 hE=>?_;refine uD hE λx H5 I5 r5 y5 st5 fr5=>?_;have I5':=I5.pinned (stat fr5)<|T.obj _ _ st5;refine iS hp<|thn (hg _ s5 σ3 H5 x u _ I5' r5<|step x H5 y5) λ_ s6 hE=>?_;obtain⟨σ6,H6,I6,q6⟩:=hE;refine iS hp<|thn (hb _ s6 σ6 H6 _ I6 q6) λf s7 q7=>?_;have again:∀{σ7:St} {H7:Hp},Inv X (π++ph fp s5.heap) σ7 H7 s7->N σ7 H7->∃m,m<n/\∃i σ' H',Inv X π σ' H' s7/\tn i s7.heap/\(∀b∈fp,H' b=none)/\W i m σ' H':=λ{σ7 H7} I7 n7=>by
   obtain⟨m',hm,w7⟩:=hN σ7 H7 n7;refine⟨m',hm,i+1,σ7,H7,I7.pN,T.keep _ _ _ st5 λb hb o e=>(I7.pin (b,o)<|dE _<|dE _<|mq hb e).1,λb hb=>?_,w7⟩;obtain⟨o,e,d⟩:=T.obj _ _ st5 b hb;exact(I7.pin (b,o)<|dE _<|dE _<|mq hb e).2.1
  cases f with
  |next=>obtain⟨σ7,H7,I7,n7⟩:=q7;exact again I7 n7
  |cont=>obtain⟨σ7,H7,I7,n7⟩:=q7;exact again I7 n7
  |brk=>obtain⟨σ7,H7,I7,q7⟩:=q7;exact⟨σ7,H7,I7.pN,q7⟩
  |ret v=>obtain⟨x7,σ7,H7,I7,r7,q7⟩:=q7;exact⟨x7,σ7,H7,I7.pN,r7,q7⟩
end
abbrev R2:=V->V->Hp->VK->Prop
def OpR (X:Cx)(f:a7->a7->Sem a7)(r:R2):Prop:=
 ∀(π:Zo) (s:aT) (σ:St) (H:Hp) (x y:V) (v u:a7) (Q:VK),Inv X π σ H s->RelV x v->RelV y u->r x y H Q->
  cn (cq X.prog X.w) X.A (f v u) (EP X π σ Q) X.xe s
def UnR (X:Cx)(f:a7->Sem a7)(r:V->Hp->VK->Prop):Prop:=
 ∀(π:Zo) (s:aT) (σ:St) (H:Hp) (x:V) (v:a7) (Q:VK),Inv X π σ H s->RelV x v->r x H Q->
  cn (cq X.prog X.w) X.A (f v) (EP X π σ Q) X.xe s
def eQ (X:Cx)(f:a7)(r:List V->Hp->VK->Prop):Prop:=
 ∀(π:Zo) (s:aT) (σ:St) (H:Hp) (xs:List V) (us:List a7) (Q:VK),Inv X π σ H s->Vals xs us->r xs H Q->
  cn (cq X.prog X.w) X.A (call f us) (EP X π σ Q) X.xe s
def tOp (r:R2)(ta tb:TE):TE:=λσ H Q=>ta σ H λx H1=>tb σ H1 λy H2=>r x y H2 Q
def tUn (r:V->Hp->VK->Prop)(ta:TE):TE:=λσ H Q=>ta σ H λx H1=>r x H1 Q
def rI (C:Int->Int->Prop)(g:Int->Int->V):R2:=λx y H Q=>∃i j,x=.int i/\y=.int j/\C i j/\Q (g i j) H
def rI0 (g:Int->Int->V):R2:=λx y H Q=>∃i j,x=.int i/\y=.int j/\Q (g i j) H
def rU (g:Int->V):V->Hp->VK->Prop:=λx H Q=>∃i,x=.int i/\Q (g i) H
section
variable {X:Cx}{a b c:Expr}{ta tb tc:TE}{pos:Pos}
theorem Ov (ha:PE X a ta)(hb:PE X b tb){π:Zo}{s:aT}{σ:St}{H:Hp}{R:V->V->Hp->Prop}(I:Inv X π σ H s)
  (h:ta σ H λx H1=>tb σ H1 λy H2=>R x y H2) {Q:Zv} {f:a7->a7->Sem a7}
  (hf:∀v u s2 x y H2,Inv X π σ H2 s2->RelV x v->RelV y u->R x y H2->cn (cq X.prog X.w) X.A (f v u) Q X.xe s2):
  cn (cq X.prog X.w) X.A (eval a X.env) (λv s₁=>cn (cq X.prog X.w) X.A (eval b X.env) (λu s₂=>cn (cq X.prog X.w) X.A (f v u) Q X.xe s₂) X.xe s₁) X.xe s:=by
 refine thn (ha π s σ H _ I h) λv s1 hE=>xq2 hE λx H1 I1 r1 q1=>?_;refine thn (hb π s1 σ H1 _ I1 q1) λu s2 hE=>xq2 hE λy H2 I2 r2 q2=>?_;exact hf v u s2 x y H2 I2 r1 r2 q2
theorem Dq (ho:OpR X (gp op) r)(ha:PE X a ta)(hb:PE X b tb):PE X (.BinOp a op b pos) (tOp r ta tb):=by
 intro π s σ H Q I h;exact wpAny_BinOp<|Ov ha hb I h λv u s2 x y H2 I2 rx ry q=>ho π s2 σ H2 x y v u Q I2 rx ry q
theorem Mq (ho:UnR X (unaryOp op) r)(ha:PE X a ta):PE X (.UnaryOp op a pos) (tUn r ta):=by
 intro π s σ H Q I h;exact UnaryOp_<|thn (ha π s σ H _ I h) λv s1 hE=>xq2 hE λx H1 I1 r1 q1=>ho π s1 σ H1 x v Q I1 r1 q1
theorem opI {f:a7->a7->Sem a7}{C:Int->Int->Prop}{g:Int->Int->Int}
  (rule:∀(i j:Int) (t u:Tok) (s:aT) (Q:Zv) (E:Zv),C i j->Q (.int (g i j) s.toks) { s with toks:=s.toks+1 }->cn (cq X.prog X.w) X.A (f (.int i t)<|.int j u) Q E s):
  OpR X f (rI C λi j=>.int<|g i j):=by
 intro π s σ H x y v u Q I rx ry h;obtain⟨i,j,rfl,rfl,hc,q⟩:=h;obtain⟨t,rfl⟩:=rx;obtain⟨t',rfl⟩:=ry;exact rule i j t t' s _ _ hc ⟨.int<|g i j,H,I.tok _,⟨_,rfl⟩,q⟩
theorem Vi {f:a7->a7->Sem a7}{g:Int->Int->Int}
  (rule:∀(i j:Int) (t u:Tok) (s:aT) (Q:Zv) (E:Zv),Q (.int (g i j) s.toks) { s with toks:=s.toks+1 }->cn (cq X.prog X.w) X.A (f (.int i t)<|.int j u) Q E s):
  OpR X f (rI0 λi j=>.int<|g i j):=by
 intro π s σ H x y v u Q I rx ry h;obtain⟨i,j,rfl,rfl,q⟩:=h;obtain⟨t,rfl⟩:=rx;obtain⟨t',rfl⟩:=ry;exact rule i j t t' s _ _ ⟨.int<|g i j,H,I.tok _,⟨_,rfl⟩,q⟩
theorem Nj {f:a7->a7->Sem a7}{g:Int->Int->Bool}
  (rule:∀(i j:Int) (t u:Tok) (s:aT) (Q:Zv) (E:Zv),Q (.bool<|g i j) s->cn (cq X.prog X.w) X.A (f (.int i t)<|.int j u) Q E s):
  OpR X f (rI0 λi j=>.bl<|g i j):=by
 intro π s σ H x y v u Q I rx ry h;obtain⟨i,j,rfl,rfl,q⟩:=h;obtain⟨t,rfl⟩:=rx;obtain⟨t',rfl⟩:=ry;exact rule i j t t' s _ _ ⟨.bl<|g i j,H,I,rfl,q⟩
theorem RV:OpR X (gp .Add) (rI0 λi j=>.int<|i+j):=Vi λ_ _ _ _ _ _ _ q=>add_int q
theorem Ul:OpR X (gp .Sub) (rI0 λi j=>.int<|i-j):=Vi λ_ _ _ _ _ _ _ q=>sub_int q
theorem Py:OpR X (gp .Mod) (rI (λ_ j=>j≠0) λi j=>.int<|i.fmod j):=opI λ_ _ _ _ _ _ _ hc q=>mod_int' hc q
theorem unI {f:a7->Sem a7}{g:Int->Int}
  (rule:∀(i:Int) (t:Tok) (s:aT) (Q:Zv) (E:Zv),Q (.int (g i) s.toks) { s with toks:=s.toks+1 }->cn (cq X.prog X.w) X.A (f<|.int i t) Q E s):
  UnR X f (rU λi=>.int<|g i):=by
 intro π s σ H x v Q I rx h;obtain⟨i,rfl,q⟩:=h;obtain⟨t,rfl⟩:=rx;exact rule i t s _ _ ⟨.int<|g i,H,I.tok _,⟨_,rfl⟩,q⟩
theorem Sv:UnR X (unaryOp .USub) (rU λi=>.int (-i)):=unI λ_ _ _ _ _ q=>neg_int q
end
noncomputable def V5:V->V->Bool
 | .non,.non=>true|.non,.int _=>true|.int _,.non=>true|.non,.bl _=>true|.bl _,.non=>true|.non,.str _=>true|.str _,.non=>true
 | .int _,.int _=>true|.bl _,.bl _=>true|.str _,.str _=>true|.byt _,.byt _=>true
 | .int _,.str _=>true|.str _,.int _=>true|.bl _,.str _=>true|.str _,.bl _=>true
 |_,_=>false
def rEq:R2:=λx y H Q=>V5 x y=true/\Q (.bl<|decide<|x=y) H
def rNe:R2:=λx y H Q=>V5 x y=true/\Q (.bl<|!decide (x=y)) H
theorem Eg:decide (V.int i=V.int j)=(i==j):=by
 rw[mM]
 simp
theorem M7:decide (V.bl i=V.bl j)=(i==j):=by
 rw[mM]
 simp
theorem Ef:decide (V.str i=V.str j)=(i==j):=by
 rw[mM]
 simp
theorem DP:decide (V.byt i=V.byt j)=(i.toList==j.toList):=by
 rw[mM];cases i;cases j
 simp
section
theorem bU (I:Inv X π σ H s)(q:Q (.bl k) H)(e:k=k'):EP X π σ Q (.bool k') s:=by
 subst e;exact⟨.bl k,H,I,rfl,q⟩
theorem Gv:OpR X (dk .Eq) rEq:=by
 intro π s σ H x y v u Q I rx ry h;obtain⟨hs,q⟩:=h;cases x with
 |non=>
  cases rx;cases y with
  |non=>cases ry;exact PySem.EqNone.eq_none_none<|bU I q<|by simp
  |bl j=>cases ry;exact PySem.EqNone.eq_none_bool<|bU I q<|by simp
  |int j=>obtain⟨t',rfl⟩:=ry;exact PySem.EqNone.eq_none_int<|bU I q<|by simp
  |str j=>obtain⟨t',rfl⟩:=ry;exact PySem.EqNone.eq_none_str<|bU I q<|by simp
  |_=>exact absurd (show false=true from hs) aI
 |bl i=>
  cases rx;cases y with
  |non=>cases ry;exact PySem.EqNone.eq_bool_none<|bU I q<|by simp
  |bl j=>cases ry;exact eq_bool<|bU I q M7
  |str j=>obtain⟨t',rfl⟩:=ry;exact PySem.EqMixed.eq_bool_str<|bU I q<|by simp
  |_=>exact absurd (show false=true from hs) aI
 |int i=>
  obtain⟨t,rfl⟩:=rx;cases y with
  |non=>cases ry;exact PySem.EqNone.eq_int_none<|bU I q<|by simp
  |int j=>obtain⟨t',rfl⟩:=ry;exact eq_int<|bU I q Eg
  |str j=>obtain⟨t',rfl⟩:=ry;exact PySem.EqMixed.eq_int_str<|bU I q<|by simp
  |_=>exact absurd (show false=true from hs) aI
 |str i=>
  obtain⟨t,rfl⟩:=rx;cases y with
  |non=>cases ry;exact PySem.EqNone.eq_str_none<|bU I q<|by simp
  |bl j=>cases ry;exact PySem.EqMixed.eq_str_bool<|bU I q<|by simp
  |int j=>obtain⟨t',rfl⟩:=ry;exact PySem.EqMixed.eq_str_int<|bU I q<|by simp
  |str j=>obtain⟨t',rfl⟩:=ry;exact eq_str<|bU I q Ef
  |_=>exact absurd (show false=true from hs) aI
 |byt i=>
  obtain⟨t,rfl⟩:=rx;cases y with
  |byt j=>obtain⟨t',rfl⟩:=ry;exact W.eq_bytes<|bU I q DP
  |_=>exact absurd (show false=true from hs) aI
 |_=>cases y<;>exact absurd (show false=true from hs) aI
theorem Fq:OpR X (dk .NotEq) rNe:=by
 intro π s σ H x y v u Q I rx ry h;obtain⟨hs,q⟩:=h;cases x with
 |non=>
  cases rx;cases y with
  |non=>cases ry;exact PySem.EqNone.ne_none_none<|bU I q<|by simp
  |bl j=>cases ry;exact PySem.EqNone.ne_none_bool<|bU I q<|by simp
  |int j=>obtain⟨t',rfl⟩:=ry;exact PySem.EqNone.ne_none_int<|bU I q<|by simp
  |str j=>obtain⟨t',rfl⟩:=ry;exact PySem.EqNone.ne_none_str<|bU I q<|by simp
  |_=>exact absurd (show false=true from hs) aI
 |bl i=>
  cases rx;cases y with
  |non=>cases ry;exact PySem.EqNone.ne_bool_none<|bU I q<|by simp
  |bl j=>cases ry;exact ne_bool<|bU I q<|congrArg not M7
  |str j=>obtain⟨t',rfl⟩:=ry;exact PySem.EqMixed.ne_bool_str<|bU I q<|by simp
  |_=>exact absurd (show false=true from hs) aI
 |int i=>
  obtain⟨t,rfl⟩:=rx;cases y with
  |non=>cases ry;exact PySem.EqNone.ne_int_none<|bU I q<|by simp
  |int j=>obtain⟨t',rfl⟩:=ry;exact ne_int<|bU I q<|congrArg not Eg
  |str j=>obtain⟨t',rfl⟩:=ry;exact PySem.EqMixed.ne_int_str<|bU I q<|by simp
  |_=>exact absurd (show false=true from hs) aI
 |str i=>
  obtain⟨t,rfl⟩:=rx;cases y with
  |non=>cases ry;exact PySem.EqNone.ne_str_none<|bU I q<|by simp
  |bl j=>cases ry;exact PySem.EqMixed.ne_str_bool<|bU I q<|by simp
  |int j=>obtain⟨t',rfl⟩:=ry;exact PySem.EqMixed.ne_str_int<|bU I q<|by simp
  |str j=>obtain⟨t',rfl⟩:=ry;exact ne_str<|bU I q<|congrArg not Ef
  |_=>exact absurd (show false=true from hs) aI
 |byt i=>
  obtain⟨t,rfl⟩:=rx;cases y with
  |byt j=>obtain⟨t',rfl⟩:=ry;exact W.ne_bytes<|bU I q<|congrArg not DP
  |_=>exact absurd (show false=true from hs) aI
 |_=>cases y<;>exact absurd (show false=true from hs) aI
theorem U4:OpR X (dk .Lt) (rI0 λi j=>.bl<|decide<|i<j):=Nj λ_ _ _ _ _ _ _ q=>lt_int q
theorem Vl:OpR X (dk .LtE) (rI0 λi j=>.bl<|decide<|i<=j):=Nj λ_ _ _ _ _ _ _ q=>le_int q
theorem Vb:OpR X (dk .Gt) (rI0 λi j=>.bl<|decide<|j<i):=Nj λ_ _ _ _ _ _ _ q=>gt_int q
theorem V9:OpR X (dk .GtE) (rI0 λi j=>.bl<|decide<|j<=i):=Nj λ_ _ _ _ _ _ _ q=>ge_int q
theorem Hj:OpR X (dk .In) (λx y H Q=>∃i j,x=.str i/\y=.str j/\Q (.bl<|!(dP j i 0 j.length 1).isEmpty) H):=by
 intro π s σ H x y v u Q I rx ry h;obtain⟨i,j,rfl,rfl,q⟩:=h;obtain⟨t,rfl⟩:=rx;obtain⟨t',rfl⟩:=ry;exact in_str<|bU I q rfl
theorem yC:OpR X (dk .NotIn) (λx y H Q=>∃i j,x=.str i/\y=.str j/\Q (.bl<|!(!(dP j i 0 j.length 1).isEmpty)) H):=by
 intro π s σ H x y v u Q I rx ry h;obtain⟨i,j,rfl,rfl,q⟩:=h;obtain⟨t,rfl⟩:=rx;obtain⟨t',rfl⟩:=ry;exact notIn_str<|bU I q rfl
theorem cC (b:Expr){op:CmpOp}(h:op≠.In:=by decide)(h2:op≠.NotIn:=by decide):iv op b=false:=by
 have e1:(op==CmpOp.In)=false:=by cases op<;>first|rfl|exact absurd rfl h
 have e2:(op==CmpOp.NotIn)=false:=by cases op<;>first|rfl|exact absurd rfl h2
 cases b<;>simp[iv,e1,e2]
theorem Nk (ho:OpR X (dk op) r)(ha:PE X a ta)(hb:PE X b tb)(hm:iv op b=false):PE X (.Compare a [op] [b] pos) (tOp r ta tb):=by
 intro π s σ H Q I h;exact wpAny_Compare1 (Ov ha hb I h λv u s2 x y H2 I2 rx ry q=>ho π s2 σ H2 x y v u Q I2 rx ry q) hm
def Vj (t:TE):TT:=λσ H Q=>t σ H λx H'=>∃k,x=.bl k/\Q k H'
theorem ou (ho:OpR X (dk op) r)(ha:PE X a ta)(hb:PE X b tb)(hm:iv op b=false):PT X (.Compare a [op] [b] pos) (Vj<|tOp r ta tb):=by
 intro π s σ H Q I h;refine wpAny_isTrue_Compare1 (thn (ha π s σ H _ I h) λv s1 hE=>xq2 hE λx H1 I1 r1 q1=>thn (hb π s1 σ H1 _ I1 q1) λu s2 hE=>xq2 hE λy H2 I2 r2 q2=>
  thn (ho π s2 σ H2 x y v u _ I2 r1 r2 q2) λc s3 ⟨z,H3,I3,r3,k,e,q3⟩=>?_) hm
 subst e;cases r3;exact gT ⟨H3,I3,q3⟩
def Jk (r r':R2)(ta tb tc:TE):TE:=λσ H Q=>ta σ H λx H1=>tb σ H1 λy H2=>r x y H2 λz H3=>∃k,z=.bl k/\
 (if k=true then tc σ H3 λw' H4=>r' y w' H4 Q else Q (.bl false) H3)
theorem Jt (ho:OpR X (dk op) r)(ho':OpR X (dk op') r')(ha:PE X a ta)(hb:PE X b tb)(hc:PE X c tc)
  (hm:lastMarks [op,op'] [b,c]=false:=by with_unfolding_all rfl):PE X (.Compare a [op,op'] [b,c] pos) (Jk r r' ta tb tc):=by
 intro π s σ H Q I h;refine Compare_chain (thn (ha π s σ H _ I h) λv s1 hE=>xq2 hE λx H1 I1 r1 q1=>chain_link (thn (hb π s1 σ H1 _ I1 q1) λu s2 hE=>xq2 hE λy H2 I2 r2 q2=>
  thn (ho π s2 σ H2 x y v u _ I2 r1 r2 q2) λd s3 ⟨z,H3,I3,r3,k,e,q3⟩=>?_)) hm
 subst e;cases r3;refine gT ?_;cases k with
 |false=>exact ite_ff ⟨.bl false,H3,I3,rfl,q3⟩
 |true=>exact ite_tt (chain_last (thn (hc π s3 σ H3 _ I3 q3) λw' s4 hE=>by obtain⟨z',H4,I4,r4,q4⟩:=hE;exact ho' π s4 σ H4 y z' u w' Q I4 r2 r4 q4))
theorem uv:(be:Nat)<2^63:=by rw[sizeLine_eq];decide
theorem Ak:OpR X (gp .Add) (λx y H Q=>∃i j,x=.str i/\y=.str j/\i.length+j.length<=be/\Q (.str<|i++j) H):=by
 intro π s σ H x y v u Q I rx ry h;obtain⟨i,j,rfl,rfl,hz,q⟩:=h;obtain⟨t,rfl⟩:=rx;obtain⟨t',rfl⟩:=ry;exact add_str (λt' tk=>⟨.str<|i++j,H,I.tok _,⟨_,rfl⟩,q⟩) hz
def Jh (b:Expr):Prop:=∀o i,subscripted b false o i=operate [o,i] (xb o i)
theorem zL (ha:PE X a ta)(hb:PE X b tb)(hs:Jh b):
  PE X (.Subscript a b pos) (tOp (λx y H Q=>∃z i c,x=.str z/\y=.int i/\0<=i/\i<2^63/\i<z.length/\z.cps[i.toNat]? = some c/\Q (.str ⟨#[c]⟩) H) ta tb):=by
 intro π s σ H Q I h;refine Subscript_<|Ov ha hb I h λv u s2 x y H2 I2 rx ry q=>?_;obtain⟨z,i,c,rfl,rfl,h0,h63,h1,hc,q⟩:=q;obtain⟨t,rfl⟩:=rx;obtain⟨t',rfl⟩:=ry;have e:seqIndex? i z.length=some i.toNat:=PySem.StrLaws.seqIndex_nonneg h0 h1;exact tail_any (oD s2 z t) slot_str_getitem.lookup (getItem_str (c:=c) (by
  have e1:decide (i < -(2^63:Int))=false:=decide_eq_false (by lia);have e2:decide (i≥2^63)=false:=decide_eq_false (by lia);rw[e1,e2]<;>rfl) (by rw[e];exact hc) ⟨.str ⟨#[c]⟩,H2,I2.tok _,⟨_,rfl⟩,q⟩) (hs _ _)
theorem vals1 (r:Vals [x] us):∃u,us=[u]/\RelV x u:=by
 cases r with
 |cons r1 r2=>cases r2;exact⟨_,rfl,r1⟩
theorem vals2 (r:Vals [x,y] us):∃u w',us=[u,w']/\RelV x u/\RelV y w':=by
 cases r with
 |cons r1 r2=>
  cases r2 with
  |cons r3 r4=>cases r4;exact⟨_,_,rfl,r1,r3⟩
theorem M9:eQ X (.builtin "abs") (λxs H Q=>∃i,xs=[.int i]/\Q (.int<|if i<0 then -i else i) H):=by
 intro π s σ H xs us Q I r h;obtain⟨i,rfl,q⟩:=h;obtain⟨u,rfl,t,rfl⟩:=vals1 r;exact call_abs_int λu tk=>⟨.int<|if i<0 then -i else i,H,I.tok _,⟨_,rfl⟩,q⟩
theorem xn:eQ X (.type "str") (λxs H Q=>∃i,xs=[.int i]/\i.natAbs.log2<1920/\Q (.str<|toString i) H):=by
 intro π s σ H xs us Q I r h;obtain⟨i,rfl,hz,q⟩:=h;obtain⟨u,rfl,t,rfl⟩:=vals1 r;exact PySem.P.str_of_int hz ⟨.str _,H,I.tok _,⟨_,rfl⟩,q⟩
end
structure Br (h:Heap)(x dx C:Addr)(mA:Zs):Prop where
 obj:h.get? x=some (mB C dx)
 ns:h.Ns1 dx mA
 ne:dx≠x
theorem Hu {h:Heap}(n:h.Ns1 dx mA):∃od,h.get? dx=some od/\∀name,W.lookIn name od=some (mA name):=by
 refine U7 n λo es ep ho hd hk _ hm=>?_;refine⟨o,ho,λname=>?_⟩;have e:=hm name;unfold nsFind findBy at e;rw[← Array.find?_toList] at e;unfold W.lookIn;rw[hd];dsimp only;split
 ·rename_i y q;rw[q] at e;exact congrArg some e
 ·rename_i q;rw[q] at e;have a:es.toList.any (·.refKey)=false:=by
   rw[List.any_eq_false];intro y hy;obtain⟨z,t,hkey⟩:=hk y<|Array.mem_toList_iff.mp hy;simp[we,hkey]
  have a':¬es.toList.any (·.refKey)=true:=by rw[a];exact aI
  rw[if_neg a'];exact congrArg some e
theorem Br.look (I:Br h x dx C mA):∃od,W.InstAt h x (mB C dx) C (some od)/\∀name,W.lookIn name od=some (mA name):=
 let⟨od,ho,hl⟩:=Hu I.ns
 ⟨od,⟨I.obj,rfl,rfl,ho⟩,hl⟩
section
variable {prog:bg}{w:cw}{A:eB}{E:Zv}{s:aT}{K:av}{x dx C f:Addr}{mA:Zs}{name:Str}{v:a7}
theorem get_map (X:K.In s.heap)(I:Br s.heap x dx C mA)(hg:oI K C name=true)(hh:mP K C=true)
  (ha:fv K (.ref C) name=some none) (hv:mA name=some v) (hv':W.handedIn v=true) (h:Q v { s with toks:=s.toks+1 }):
  cn (cq prog w) A (getAttr (.ref x) name expr) Q E s:=by
 obtain⟨od,J,hl⟩:=I.look;exact W.get_value X J (ua hg).1 (W.findObj_own hh ha rfl<|by rw[hl,hv]) hv' h
theorem K4 (X:K.In s.heap)(I:Br s.heap x dx C mA)(hg:oI K C name=true)
  (hf:fv K (.ref C) name=some (some<|.ref f)) (ht:W.isFn K (.ref f)=true) (hv:mA name=none) (h:Q (.ref f,[.ref x]) s):
  cn (cq prog w) A (getMethod (.ref x) name pl) Q E s:=by
 obtain⟨od,J,hl⟩:=I.look;exact W.method_fn X J (ua hg).1 (ua hg).2 hf (beq_iff_eq.mp ht) (by show(W.lookIn name od).map (·.isSome)=some false;rw[hl,hv];rfl) h
theorem Qf (X:K.In s.heap)(I:Br s.heap x dx C mA)
  (hs:fv K (.ref C) "__setattr__" = some (some<|.builtin "object.__setattr__")) (hp:tf K C=true) (ht:W.takerIn K C name=some none) (hh:mP K C=true)
  (hw:vE mA ns) (hsz:ns.length<=be)
  (h:∀h',Br h' x dx C (λy=>if y=name then some v else mA y)->ma dx s.heap h'->Q () { s with heap:=h',toks:=s.toks+2 }):
  cn (cq prog w) A (setAttr (.ref x) name v) Q E s:=by
 obtain⟨od,J,hl⟩:=I.look;refine W.set_plain X J hs<|W.osa_open (s:={ s with toks:=s.toks+1 }) (r:=none) X J hp ht λb=>?_;obtain⟨cd,hc,hd'⟩:=W.any_some hh;have hx:s.heap.get? x=some ⟨.ref C,some dx,.plain,#[]⟩:=I.obj;refine ay<|bS<|ay<|ay<|wpAny_loadPart hx<|ay<|W.Looks.here (s:={ s with toks:=s.toks+1 }) (W.looks_clsIn X hc) ?_;rw[hd'];refine bS (a:=some dx)<|ay<|bS<|ay ?_;refine wpAny_nsSet1 (s:={ s with toks:=s.toks+1 }) I.ns λh' hn2 hs2=>?_;refine Kz (hn2.count<|PySem.Within.cons name v hw) λoD esD epD hoD hdD hcD=>?_;refine ay<|wpAny_lookBehind hoD (by rw[hdD];exact pastItsLine_dict<|cm hcD (by rw[bX];lia)) ?_;exact bS<|h _ ⟨(hs2.2 _<|kL I.ne).trans I.obj,hn2,I.ne⟩ hs2
theorem Ii (X:K.In s.heap)(hm:ub K C=true)
  (hi:fv K (.ref C) "__init__" = some (some<|.ref f)) (hf:W.typeIn K (.ref f)=some (.type "function"))
  (h:pk (cq prog w) (A.under<|.builtin "type.__call__" ⟨.ref C::vs,kw⟩) (.call (.ref f) ⟨.ref (s.heap.objs.size+1)::vs,kw⟩) (W.InitBack (s.heap.objs.size+1) R)
   { s with heap:=(s.heap.push kg).push (mB C s.heap.objs.size) }):
  pk (cq prog w) A (.call (.ref C) ⟨vs,kw⟩) R s:=by
 obtain⟨hh,g,d,t,os⟩:=s;exact W.make_core (W.makes_of X hm) (oj X hi) (λself=>W.bind_fn X self hf) (.inl rfl) h
end
def j9 (f:Str)(v:V):List (Str×V)->List (Str×V)
 |[]=>[(f,v)]
 |(g,x)::r=>if g=f then(g,v)::r else(g,x)::j9 f v r
theorem rD (f g:Str)(v:V):∀fs:List (Str×V),(j9 f v fs).lookup g=if g=f then some v else fs.lookup g
 |[]=>by
  show iL g [(f,v)]=_;by_cases h:g=f
  ·have hb:(g==f)=true:=beq_iff_eq.mpr h;simp only[iL,hb,if_pos h]
  ·have hb:(g==f)=false:=beq_eq_false_iff_ne.mpr h;simp only[iL,hb,if_neg h]
 |(k,x)::r=>by
  have ih:=rD f g v r;rw[show j9 f v ((k,x)::r)=(if k=f then(k,v)::r else(k,x)::j9 f v r) from rfl];by_cases hk:k=f
  ·rw[if_pos hk];by_cases h:g=k
   ·have hb:(g==k)=true:=beq_iff_eq.mpr h;simp only[iL,hb,if_pos<|h.trans hk]
   ·have hb:(g==k)=false:=beq_eq_false_iff_ne.mpr h;simp only[iL,hb,if_neg (λe:g=f=>h<|e.trans hk.symm)]
  ·rw[if_neg hk];by_cases h:g=k
   ·have hb:(g==k)=true:=beq_iff_eq.mpr h;simp only[iL,hb,if_neg (λe:g=f=>hk<|h.symm.trans e)]
   ·have hb:(g==k)=false:=beq_eq_false_iff_ne.mpr h;simp only[iL,hb];exact ih
theorem rn (f:Str)(v:V):∀fs:List (Str×V),f∈(j9 f v fs).map (·.1)/\∀g,g∈fs.map (·.1)->g∈(j9 f v fs).map (·.1)
 |[]=>⟨by simp[j9],λg h=>by simp at h⟩
 |(k,x)::r=>by
  obtain⟨i1,i2⟩:=rn f v r;rw[show j9 f v ((k,x)::r)=(if k=f then(k,v)::r else(k,x)::j9 f v r) from rfl];by_cases hk:k=f
  ·rw[if_pos hk];subst hk;exact⟨by simp,λg h=>by simpa using h⟩
  ·rw[if_neg hk];refine⟨?_,λg h=>?_⟩
   ·rw[eJ];exact ax _ i1
   ·rw[eJ] at h ⊢;rcases ag.mp h with e|e
    ·exact ag.mpr<|.inl e
    ·exact ax _<|i2 g e
theorem rM (f:Str)(v:V):∀fs:List (Str×V),(j9 f v fs).length<=fs.length+1
 |[]=>by simp[j9]
 |(k,x)::r=>by
  have ih:=rM f v r;rw[show j9 f v ((k,x)::r)=(if k=f then(k,v)::r else(k,x)::j9 f v r) from rfl];by_cases hk:k=f
  ·rw[if_pos hk,bX,bX];lia
  ·rw[if_neg hk,bX,bX];lia
theorem vM.some_of (r:vM (some v) o):∃u,o=some u/\RelV v u:=by
 cases o with
 |none=>exact(show False from r).elim
 |some u=>exact⟨u,rfl,r⟩
theorem vM.none_of (r:vM none o):o=none:=by
 cases o with
 |none=>rfl
 |some u=>exact(show False from r).elim
theorem GK (r:RelV v u):W.handedIn u=true:=by
 cases v with
 |non=>cases(show u=gE from r);rfl
 |bl b=>cases(show u=sk b from r);rfl
 |int i=>obtain⟨t,e⟩:=(show ∃t,u=tw i t from r);cases e;rfl
 |str x=>obtain⟨t,e⟩:=(show ∃t,u=kR x t from r);cases e;rfl
 |byt b=>obtain⟨t,e⟩:=(show ∃t,u=Value.bytes b t from r);cases e;rfl
 |flt b=>obtain⟨t,e⟩:=(show ∃t,u=w9 b t from r);cases e;rfl
 |ref a=>cases(show u=cS a from r);rfl
 |ty n=>cases(show u=sv n from r);rfl
section
theorem sI (hok:HOk P w H h)(e:H a=some (.ins C dx fs)):∃mA,Br h a dx C mA/\(∀f,vM (fs.lookup f)<|mA f)/\vE mA (fs.map (·.1))/\fs.length<=1000/\H dx=some (.own a):=by
 obtain⟨d,z,ne,ob,mA,n,r,q⟩:=(show cY P w H h a (.ins C dx fs) from hok a _ e);exact⟨mA,⟨ob,n,ne⟩,r,q,z,d⟩
end
structure Cls (K:av)(C:Addr):Prop where
 pg:oI K C js=true
 hd:mP K C=true
 po:tf K C=true
 sa:fv K (.ref C) "__setattr__" = some (some (.builtin "object.__setattr__"))
theorem Cls.get {K:av}{C:Addr}(c:Cls K C)(f:Str):oI K C f=true:=c.pg
def iw (K:av)(C:Addr)(f:Str):Prop:=fv K (.ref C) f=some none
theorem iw.taker {K:av}{C:Addr}{f:Str}(n:iw K C f):W.takerIn K C f=some none:=by
 unfold W.takerIn;rw[show fv K (.ref C) f=some none from n];rfl
structure Meth (K:av)(C:Addr)(m:Str)(f:Addr):Prop where
 at_:fv K (.ref C) m=some (some (.ref f))
 fn:W.isFn K (.ref f)=true
 kp:kX K (.ref f)=true
section
variable {X:Cx}{π:Zo}{σ:St}{H:Hp}{s:aT}{a C dx:Addr}{fs:List (Str×V)}{f:Str}{v:V}{A:eB}{E:Zv}
theorem An (I:Inv X π σ H s)(e:H a=some (.ins C dx fs))(c:Cls X.K C)(n:iw X.K C f)(l:fs.lookup f=some v)
  (h:∀u s',Inv X π σ H s'->RelV v u->Q u s'):cn (cq X.prog X.w) A (getAttr (.ref a) f b) Q E s:=by
 refine vQ (sI I.hok e) λmA O r _ _ _=>?_;obtain⟨u,hu,ru⟩:=vM.some_of (v:=v) (o:=mA f) (by rw[← l];exact r f);exact get_map I.kIn O (c.get f) c.hd n hu (GK ru)<|h u _ (I.tok _) ru
theorem uU (I:Inv X π σ H s)(e:H a=some (.ins C dx fs))(c:Cls X.K C)(k:Meth X.K C m g)(l:fs.lookup m=none)
  (h:Q (.ref g,[.ref a]) s):cn (cq X.prog X.w) A (getMethod (.ref a) m pl) Q E s:=by
 refine vQ (sI I.hok e) λmA O r _ _ _=>?_;have hn:mA m=none:=vM.none_of (by rw[← l];exact r m);exact K4 I.kIn O (c.get m) k.at_ k.fn hn h
theorem Ay (I:Inv X π σ H s)(e:H a=some (.ins C dx fs))(c:Cls X.K C)(n:iw X.K C f)(hl:fs.length<1000)(ry:RelV y u)
  (h:∀s',Inv X π σ (upd H a<|.ins C dx<|j9 f y fs) s'->Q () s'):cn (cq X.prog X.w) A (setAttr (.ref a) f u) Q E s:=by
 refine vQ (sI I.hok e) λmA O r wi _ ho=>?_;have hz:(fs.map (·.1)).length<=be:=by rw[fA,sizeLine_eq];lia
 refine Qf I.kIn O c.sa c.po n.taker c.hd wi hz λh' O' sb=>h _ ?_;have hd:∃o,h'.get? dx=some o:=let⟨o,_,_,e',_⟩:=O'.ns;⟨o,e'⟩
 refine I.write (x:=a) (e:=dx) (by rw[e];exact mx) (.inr ho) (λb q hb z=>(sb.2 b hb).trans z) hd ?_;refine⟨by rw[aC O.ne];exact ho,?_,O.ne,O'.obj,_,O'.ns,λg=>?_,λg hg=>?_⟩
 ·have:=rM f y fs;lia
 ·show vM ((j9 f y fs).lookup g) (if g=f then some u else mA g);rw[rD];by_cases q:g=f
  ·rw[if_pos q,if_pos q];exact ry
  ·rw[if_neg q,if_neg q];exact r g
 ·by_cases q:g=f
  ·rw[q];exact(rn f y fs).1
  ·refine(rn f y fs).2 g (wi g λz=>hg ?_);show(if g=f then some u else mA g)=none;rw[if_neg q];exact z
theorem Inv.made (I:Inv X π σ H s):Inv X π σ (upd (upd H s.heap.objs.size<|.own<|s.heap.objs.size+1) (s.heap.objs.size+1)<|.ins C s.heap.objs.size [])
  { s with heap:=(s.heap.push kg).push (mB C s.heap.objs.size) }:=by
 have e1:(s.heap.push kg).get? s.heap.objs.size=some kg:=b0 s.heap rfl;have e2:((s.heap.push kg).push<|mB C s.heap.objs.size).get? (s.heap.objs.size+1)=some (mB C s.heap.objs.size):=by
  have:=b0 (s.heap.push kg) (o:=mB C s.heap.objs.size) rfl
  rwa [om] at this
 have e3:(s.heap.push kg).Ns s.heap.objs.size (λ_=>none):=⟨kg,#[],_,e1,rfl,(λe he=>absurd he<|by simp),λ_=>rfl⟩;have I1:=I.laid (a:=s.heap.objs.size) (o:=.own<|s.heap.objs.size+1) (h':=s.heap.push kg) (t':=s.toks) (λb u q=>ah _ q) (a9 _) ⟨_,e1⟩;refine I1.laid (a:=s.heap.objs.size+1) (o:=.ins C s.heap.objs.size []) (t':=s.toks) (λb u q=>ah _ q) (Nat.le_of_eq<|om _ _) ?_;have ne:s.heap.objs.size≠s.heap.objs.size+1:=c8<|kH _;refine⟨by rw[aC ne,az],fF _,ne,e2,λ_=>none,(Heap.Ns1.of_empty e3).at λo q=>ah _ q,λ_=>mx,λy hy=>absurd rfl hy⟩
theorem Nx (hb:i7 e f env (eval e env)=eval e env)
  (h:cn (cq prog w) A (eval e env) (λo s₁=>cn (cq prog w) A (getAttr o f true) Q E s₁) E s):cn (cq prog w) A (eval (.Attribute e f pos) env) Q E s:=
 Attribute_any_ h (by rw[arm_eval_Attribute,hb])
end
def PQ (K:av)(ta:TE)(f:Str):TE:=λσ H Q=>ta σ H λx H1=>∃a C dx fs v,x=.ref a/\H1 a=some (.ins C dx fs)/\Cls K C/\iw K C f/\fs.lookup f=some v/\Q v H1
def Wn (K:av)(ta tv:TE)(f:Str):TS:=λD σ H=>tv σ H λy H1=>ta σ H1 λx H2=>∃a C dx fs,x=.ref a/\H2 a=some (.ins C dx fs)/\Cls K C/\iw K C f/\fs.length<1000/\
 D.nx σ (upd H2 a<|.ins C dx<|j9 f y fs)
section
theorem dj (he:PE X e ta)(hb:i7 e f X.env (eval e X.env)=eval e X.env):PE X (.Attribute e f pos) (PQ X.K ta f):=by
 intro π s σ H Q I h;refine Nx hb<|thn (he π s σ H _ I h) λu s1 hE=>?_;obtain⟨x,H1,I1,rx,a,C,dx,fs,v,ex,ea,c,n,l,q⟩:=hE;subst ex;obtain rfl:u=cS a:=rx;exact An I1 ea c n l λu' s2 I2 ru=>⟨v,H1,I2,ru,q⟩
theorem lV (ha:PE X o ta)(hv:PE X value tv)(hs:ja value (some<|.Attribute o f pos') pos.line X.env=pure false):PS X (.Assign [.Attribute o f pos'] value pos) (Wn X.K ta tv f):=by
 intro π s σ H D I h;refine plainObj_wpAny_Assign_Attribute (thn (hv π s σ H _ I h) λu s1 hE=>xq2 hE λy H1 I1 ry q=>thn (ha π s1 σ H1 _ I1 q) λov s2 ⟨x,H2,I2,rx,a,C,dx,fs,ex,ea,c,n,l,q2⟩=>?_) hs;subst ex;obtain rfl:ov=cS a:=rx;exact Ay I2 ea c n l ry λs3 I3=>⟨σ,_,I3,q2⟩
end
section
inductive qR (K:av)(H:Hp):V->a7->Prop where
 |non:qR K H .non (.type "NoneType")
 |bl (x:Bool):qR K H (.bl x) (.type "bool")
 |int (i:Int):qR K H (.int i) (.type "int")
 |str (x:Str):qR K H (.str x) (.type "str")
 |flt (x:UInt64):qR K H (.flt x) (.type "float")
 |lst {a:Addr} {xs:List V} (e:H a=some (.lst xs)):qR K H (.ref a) (.type "list")
 |frz {a:Addr} {o:Obj} {xs:List V} (e:H a=some (.frz o (.lst xs))):qR K H (.ref a) (.type "list")
 |tup {a:Addr} {xs:List V} (e:H a=some (.tup xs)):qR K H (.ref a) (.type "tuple")
 |dK {a:Addr} {ι:List (Key×V)} (e:Rd H a (.dK ι)):qR K H (.ref a) (.type "dict")
 |dT {a:Addr} {T:Addr->List V->Prop} {ι:List (List Kt×V)} (e:H a=some (.dT T ι)):qR K H (.ref a) (.type "dict")
 |ins {a C dx:Addr} {fs:List (Str×V)} (e:H a=some (.ins C dx fs)) (cl:Cls K C) (ha:fv K (.ref C) "__class__" = some (some (.builtin "object.__class__")))
   (hn:W.specialIn K (.builtin "object.__class__") "__get__" = some (some (.builtin "getset_descriptor.__get__"))) (htk:W.takesIn K (.builtin "object.__class__")=some true)
   (hm:W.mroIn K C (.type "object")=some true):qR K H (.ref a) (.ref C)
theorem G7 (I:Inv X π σ H s)(rx:RelV x u)(ty:qR X.K H x t)(e:d4 X.K t c=some b)(h:∀tk,Q (.bool b) { s with toks:=tk }):
  cn (cq X.prog X.w) A (call (.builtin "isinstance") [u,c]) Q E s:=by
 cases ty with
 |non=>cases(show u=gE from rx);exact hU W.kitx_none I.kIn mx e (λz=>nomatch z) h
 |bl y=>cases(show u=sk y from rx);exact hU W.kitx_bool I.kIn mx e (λz=>nomatch z) h
 |int i=>obtain⟨t,q⟩:=(show ∃t,u=tw i t from rx);cases q;exact hU W.kitx_int I.kIn mx e (λz=>nomatch z) h
 |str y=>obtain⟨t,q⟩:=(show ∃t,u=kR y t from rx);cases q;exact hU W.kitx_str I.kIn mx e (λz=>nomatch z) h
 |flt y=>obtain⟨t,q⟩:=(show ∃t,u=w9 y t from rx);cases q;exact hU W.kitx_float I.kIn mx e (λz=>nomatch z) h
 | @lst a xs ea=>
  cases(show u=cS a from rx);obtain⟨_,_,n,_,h1⟩:=(show cY X.prog X.w H s.heap a (.lst xs) from I.hok a _ ea);exact hU W.kitx_list I.kIn ⟨_,h1,rfl⟩ e (λz=>nomatch z) h
 | @frz a ob xs ea=>
  cases(show u=cS a from rx);obtain⟨_,_,_,n,_,h1⟩:=(show cY X.prog X.w H s.heap a (.frz ob<|.lst xs) from I.hok a _ ea);exact hU W.kitx_list I.kIn ⟨_,h1,rfl⟩ e (λz=>nomatch z) h
 | @tup a xs ea=>
  cases(show u=cS a from rx);obtain⟨_,_,_,p⟩:=(show cY X.prog X.w H s.heap a (.tup xs) from I.hok a _ ea);obtain⟨o,h1,h2,_⟩:=p;exact hU W.kitx_tuple I.kIn ⟨o,h1,h2⟩ e (λz=>nomatch z) h
 | @dK a ι ea=>
  cases(show u=cS a from rx);obtain⟨_,_,vs,_,p⟩:=(show cY X.prog X.w H s.heap a (.dK ι) from ea.ok I.hok);refine Kz p λo es ep h1 h2 _=>?_;exact hU W.kitx_dict I.kIn ⟨o,h1,h2.1⟩ e (λz=>nomatch z) h
 | @dT a T ι ea=>
  cases(show u=cS a from rx);obtain⟨_,_,xs,_,o,es,ep,h1,h2,_⟩:=(show cY X.prog X.w H s.heap a (.dT T ι) from I.hok a _ ea);exact hU W.kitx_dict I.kIn ⟨o,h1,h2.1⟩ e (λz=>nomatch z) h
 | @ins a C dx fs ea cl ha hn htk hm=>
  cases(show u=cS a from rx);obtain⟨mA,O,_⟩:=sI I.hok ea;obtain⟨od,J,_⟩:=O.look;exact hU (W.kitx_own (cl.get _) cl.hd ha hn htk hm) I.kIn J e (λz=>nomatch z) h
end
structure fD (k:Nat)(A:eB):Prop where
 hd:A.handled=none
 dp:A.depth+3*k+5<recursionLimit
 un:A.units+16*k+200<w4
 gd:A.guards=some []
theorem fD.mono (r:fD k A)(h:j<=k):fD j A:=⟨r.hd,by have:=r.dp;lia,by have:=r.un;lia,r.gd⟩
theorem fD.deeper (r:fD (k+1) A)(env:Env):fD k (A.deeper env):=
 ⟨r.hd,by have:=r.dp;show A.depth+1+3*k+5<_;lia,by have:=r.un;show A.units+3+16*k+200<_;lia,r.gd⟩
theorem Av {A:eB}:(A.under<|.builtin "type.__call__" ⟨.ref C::us,kw⟩).depth=A.depth+1:=by
 first|rfl|simp[v8,Code.weight,Code.isCreation,Code.isGuard,Code.isCaller,Code.frames,v9,guardIds]
theorem BK {A:eB}:(A.under<|.builtin "type.__call__" ⟨.ref C::us,kw⟩).units=A.units+1:=by
 first|rfl|simp[v8,Code.cUnits,Code.frames,v9]
theorem fD.make (r:fD (k+1) A)(C:Addr)(us:List a7)(kw:List (Str×a7)):fD k (A.under<|.builtin "type.__call__" ⟨.ref C::us,kw⟩):=
 ⟨r.hd,by have:=r.dp;rw[Av];lia,by have:=r.un;rw[BK];lia,r.gd⟩
theorem fD.depth (r:fD k A):A.depth<recursionLimit:=by have:=r.dp;lia
theorem fD.units (r:fD k A):A.units+64<w4:=by have:=r.un;lia
def yd:TA:=λ_ H Q=>Q [] H
def rO (ta:TE)(tr:TA):TA:=λσ H Q=>ta σ H λx H1=>tr σ H1 λxs H2=>Q (x::xs) H2
section
theorem aP:PA X [] yd:=λ_ _ _ _ H Q I h=>Calls.spliced_nil ⟨[],H,I,.nil,h⟩
theorem aB (ha:PE X e te)(hr:PA X es t)(hs:ar (e::es) X.env=(false,eval e X.env)::ar es X.env:=by rfl):PA X (e::es) (rO te t):=by
 intro pos π s σ H Q I h;rw[hs];show cn _ _ (spliced ((false,eval e X.env)::hJ pos (ar es X.env))) _ _ s;refine Calls.spliced_cons<|thn (ha π s σ H _ I h) λu s1 hE=>xq2 hE λx H1 I1 r1 q1=>?_;exact thn (hr pos π s1 σ H1 _ I1 q1) λus s2 hE=>xq2 hE λxs H2 I2 r2 q2=>⟨x::xs,H2,I2,.cons r1 r2,q2⟩
def Xp (t:TA):TE:=λσ H Q=>t σ H λxs H1=>xs.length<=be/\∀p,H1 p=none->Q (.ref p) (upd H1 p<|.tup xs)
def W5 (t:TA):TE:=λσ H Q=>t σ H λxs H1=>xs.length<=be/\∀p,H1 p=none->Q (.ref p) (upd H1 p<|.lst xs)
theorem jA (h:PA X es t):PE X (.Tuple es x1 pos) (Xp t):=by
 intro π s σ H Q I hq;refine wpAny_Tuple_spliced<|thn (h pos π s σ H _ I hq) λus s1 ⟨xs,H1,I1,r,z,q⟩=>⟨by rw[← r.length];exact z,?_⟩;have hf:H1 s1.heap.objs.size=none:=I1.hok.fresh<|a9 _;refine⟨.ref s1.heap.objs.size,upd H1 s1.heap.objs.size<|.tup xs,I1.laid (t':=s1.toks) (λb u e=>ah _ e) (a9 _) ?_,rfl,q _ hf⟩;exact⟨z,us,r,⟨_,b0 _ rfl,rfl,_,rfl,rfl⟩⟩
theorem xT (h:PA X es t):PE X (.List es pos) (W5 t):=by
 intro π s σ H Q I hq;refine wpAny_List_spliced<|thn (h pos π s σ H _ I hq) λus s1 ⟨xs,H1,I1,r,z,q⟩=>⟨by rw[← r.length];exact z,?_⟩;have hf:H1 s1.heap.objs.size=none:=I1.hok.fresh<|a9 _;refine⟨.ref s1.heap.objs.size,upd H1 s1.heap.objs.size<|.lst xs,I1.laid (t':=s1.toks) (λb u e=>ah _ e) (a9 _) ?_,rfl,q _ hf⟩;exact⟨z,us,0,r,b0 _ rfl⟩
end
abbrev Sp:=List V->Hp->VK->XK->Prop
abbrev CXT:=List Env->Hp->aT->XK->Zv
structure Bk (P:bg)(w:cw)(K:av)(mg:Zs)(base:Heap)(A:eB)(outer:List Env)(s:aT)(H:Hp):Prop where
 frames:A.frames=some outer
 mod:Mod K mg base
 bs:∀b o,base.get? b=some o->s.heap.get? b=some o/\H b=none
 bsz:base.objs.size<=s.heap.objs.size
 oE:s.heap.FunFrames base outer
 frf:∀b∈frs outer,H b=none
 hok:HOk P w H s.heap
 bare:pj s.gens
def CE (outer:List Env)(P:bg)(w:cw)(H:Hp)(s:aT)(Q:VK)(u:a7)(s':aT):Prop:=
 ∃v H',s'.os=s.os/\pj s'.gens/\Un (frs outer) [] H H' s.heap s'.heap/\HOk P w H' s'.heap/\RelV v u/\Q v H'
def CR (CX:CXT)(outer:List Env)(P:bg)(w:cw)(H:Hp)(s:aT)(Q:VK)(E:XK)(r:Result)(s':aT):Prop:=
 match r with
 | .ok (.ret u)=>CE outer P w H s Q u s'
 | .ok _=>False
 | .error e=>CX outer H s E e s'
structure bR (P:bg)(w:cw)(K:av)(mg:Zs)(base:Heap)(CX:CXT)(k:Nat)(f:Addr)(fd:dQ)(ps:List Str)(sp:Sp):Prop where
 len:∀vs H Q E,sp vs H Q E->vs.length=ps.length
 run:∀(A:eB) (outer:List Env) (s:aT) (H:Hp) (args:Args) (us:List a7) (vs:List V) (Q:VK) (E:XK),fD k A->Bk P w K mg base A outer s H->xc s fd args (ps.zip us)->Vals vs us->sp vs H Q E->
  pk (cq P w) A (.call (.ref f) args) (CR CX outer P w H s Q E) s
theorem bR.mono {P:bg}{w:cw}{K:av}{mg:Zs}{base:Heap}{CX:CXT}{j k:Nat}{f:Addr}{fd:dQ}{ps:List Str}{sp:Sp}(F:bR P w K mg base CX j f fd ps sp)(h:j<=k):
  bR P w K mg base CX k f fd ps sp:=⟨F.len,λA outer s H args us vs Q E hr=>F.run A outer s H args us vs Q E<|hr.mono h⟩
theorem bR.imp {P:bg}{w:cw}{K:av}{mg:Zs}{base:Heap}{CX:CXT}{k:Nat}{f:Addr}{fd:dQ}{ps:List Str}{sp sp':Sp}(F:bR P w K mg base CX k f fd ps sp)
  (h:∀vs H Q E,sp' vs H Q E->sp vs H Q E):bR P w K mg base CX k f fd ps sp':=
 ⟨λvs H Q E q=>F.len vs H Q E<|h _ _ _ _ q,λA outer s H args us vs Q E hr he hb hv hs=>F.run A outer s H args us vs Q E hr he hb hv<|h _ _ _ _ hs⟩
theorem Bk.make {P:bg}{w:cw}{K:av}{mg:Zs}{base:Heap}{A:eB}{outer:List Env}{s:aT}{H:Hp}(e:Bk P w K mg base A outer s H)(C:Addr)(us:List a7)(kw:List (Str×a7)):
  Bk P w K mg base (A.under<|.builtin "type.__call__" ⟨.ref C::us,kw⟩) outer s H:=⟨by first|exact e.frames|(simpa[v8,Code.envs,v9,pushEnvs] using e.frames),e.mod,e.bs,e.bsz,e.oE,e.frf,e.hok,e.bare⟩
section
theorem Inv.env0 (I:Inv X π σ H s):Bk X.prog X.w X.K X.mg X.base X.A X.stack s H:=
 ⟨I.ok.frames,I.ok.mod,I.bs,cm I.ok.bsz I.sz,I.stack,I.yo,I.hok,I.bare⟩
theorem Inv.after (I:Inv X π σ H s)(h:CE X.stack X.prog X.w H s Q u s'):EP X π σ Q u s':=by
 refine Rw h λv H' os bare un hok r q=>?_;obtain⟨hh,g,d,t,os'⟩:=s';obtain rfl:os'=s.os:=os;exact⟨v,H',I.call (h':=hh) (g':=g) (d':=d) (t':=t) (ch:=[]) un hok bare λb z=>absurd z (by simp),r,q⟩
end
def Li (sp:Sp)(dvs:List V)(E:XK)(t:TA):TE:=λσ H Q=>t σ H λvs H1=>sp (vs++dvs) H1 Q E
def U6 (C:Addr)(sp:Sp)(dvs:List V)(E:XK)(t:TA):TE:=λσ H Q=>t σ H λvs H1=>∀x dx,H1 x=none->H1 dx=none->dx≠x->
 sp (.ref x::(vs++dvs)) (upd (upd H1 dx<|.own x) x<|.ins C dx []) (λv H2=>v=.non/\Q (.ref x) H2) E
def Binds (K:av)(fd:dQ)(ps:List Str)(ds:List a7):Prop:=
 ∀(s:aT) (us:List a7),K.In s.heap->(us++ds).length=ps.length->xc s fd ⟨us,[]⟩ (ps.zip<|us++ds)
theorem Binds.all {K:av}{fd:dQ}{ps:List Str}(h:∀us:List a7,us.length=ps.length->wq fd ⟨us,[]⟩=pure (ps.zip us)):Binds K fd ps []:=λs us _ hl=>by
 rw[eC] at hl ⊢;exact .of_eq<|h us hl
def Passes (CX:CXT)(X:Cx)(E:XK):Prop:=∀(π:Zo) (σ:St) (H:Hp) (s:aT) (e:a7) (s':aT),Inv X π σ H s->CX X.stack H s E e s'->X.xe e s'
section
variable {X:Cx}{CX:CXT}{k:Nat}{f C:Addr}{fd:dQ}{ps:List Str}{sp:Sp}{dvs:List V}{ds:List a7}{E:XK}{x m:Str}{p pos apos:Pos}{e o:Expr}{es:List Expr}{ta:TE}{t:TA}
theorem Af (F:bR X.prog X.w X.K X.mg X.base CX k f fd ps sp)(hr:fD k X.A)(hb:Binds X.K fd ps ds)(hd:Vals dvs ds)(hx:Passes CX X E)
  (I:Inv X π σ H s) (r:Vals vs us) (h:sp (vs++dvs) H Q E):cn (cq X.prog X.w) X.A (call (.ref f) us) (EP X π σ Q) X.xe s:=by
 have r2:Vals (vs++dvs) (us++ds):=r.append hd;have hl:(us++ds).length=ps.length:=by rw[← r2.length];exact F.len _ _ _ _ h
 refine vj<|kN (F.run X.A X.stack s H ⟨us,[]⟩ (us++ds) (vs++dvs) Q E hr I.env0 (hb s us I.kIn hl) r2 h) λr s' hq=>?_;cases r with
 |error e=>exact hx π σ H s e s' I hq
 |ok fl=>
  cases fl with
  |ret u=>exact I.after hq
  |next=>exact fS hq
  |brk=>exact fS hq
  |cont=>exact fS hq
theorem pQ (F:bR X.prog X.w X.K X.mg X.base CX k f fd ps sp)(hr:fD k X.A)(hg:Gl X x)(hm:X.mg x=some (.ref f))(hk:kX X.K (.ref f)=true)(hb:Binds X.K fd ps ds)(hd:Vals dvs ds)(hx:Passes CX X E)
  (ha:PA X (e::es) t) (hdb:(x==("__debug__":Str))=false:=by decide) (he:ar (e::es) X.env=(false,eval e X.env)::ar es X.env:=by rfl) (ζ:(hJ pos<|ar es X.env).any (·.1)=false:=by rfl):
  PE X (.Call (.Name x p) (e::es) [] pos) (Li sp dvs E t):=by
 intro π s σ H Q I h;refine jS<|nZ I hg hm ?_ hdb;refine rg (h₀:=X.base) I.ok.mod.kin hk (thn (ha pos π s σ H _ I h) λus s1 hE=>xq2 hE λvs H1 I1 r q=>⟨I1.kIn,?_⟩) he ζ;exact Af F hr hb hd hx I1 r q
structure Mk (K:av)(C f:Addr):Prop where
 makes:ub K C=true
 init:fv K (.ref C) "__init__" = some (some (.ref f))
 fn:W.isFn K (.ref f)=true
 kp:kX K (.ref C)=true
theorem Mx (M:Mk X.K C f)(F:bR X.prog X.w X.K X.mg X.base CX k f fd ps sp)(hr:fD (k+1) X.A)(hb:Binds X.K fd ps ds)(hd:Vals dvs ds)
  (hx:Passes CX X E) (I:Inv X π σ H s) (r:Vals vs us)
  (h:∀x dx,H x=none->H dx=none->dx≠x->sp (.ref x::(vs++dvs)) (upd (upd H dx<|.own x) x<|.ins C dx []) (λv H2=>v=.non/\Q (.ref x) H2) E):
  cn (cq X.prog X.w) X.A (call (.ref C) us) (EP X π σ Q) X.xe s:=by
 have hq:=h (s.heap.objs.size+1) s.heap.objs.size (I.hok.fresh<|xh _) (I.hok.fresh<|a9 _)<|c8<|kH _;have I2:=Inv.made (C:=C) I;have r2:Vals (V.ref (s.heap.objs.size+1)::(vs++dvs)) (cS (s.heap.objs.size+1)::(us++ds)):=.cons rfl<|r.append hd;have hl:(cS (s.heap.objs.size+1)::us++ds).length=ps.length:=by
  have e:=r2.length;rw[F.len _ _ _ _ hq] at e;exact e.symm
 refine vj (Ii (f:=f) I.kIn M.makes M.init (beq_iff_eq.mp M.fn) (kN (F.run _ X.stack _ _ ⟨cS (s.heap.objs.size+1)::us,[]⟩ (cS (s.heap.objs.size+1)::(us++ds)) _ _ E (hr.make C us [])
  (I2.env0.make C us []) (hb _ (cS (s.heap.objs.size+1)::us) I2.kIn hl) r2 hq) λr s' hq'=>?_))
 cases r with
 |error e=>exact hx π σ _ _ e s' I2 hq'
 |ok fl=>
  cases fl with
  |ret u=>
   refine rz (I2.after hq') λv H' I3 rv ev q3=>?_;subst ev;exact⟨rv,⟨V.ref<|s.heap.objs.size+1,H',I3,rfl,q3⟩⟩
  |next=>exact fS hq'
  |brk=>exact fS hq'
  |cont=>exact fS hq'
theorem tu (M:Mk X.K C f)(F:bR X.prog X.w X.K X.mg X.base CX k f fd ps sp)(hr:fD (k+1) X.A)(hg:Gl X x)(hm:X.mg x=some (.ref C))(hb:Binds X.K fd ps ds)(hd:Vals dvs ds)(hx:Passes CX X E)
  (ha:PA X (e::es) t) (hdb:(x==("__debug__":Str))=false:=by decide) (he:ar (e::es) X.env=(false,eval e X.env)::ar es X.env:=by rfl) (ζ:(hJ pos<|ar es X.env).any (·.1)=false:=by rfl):
  PE X (.Call (.Name x p) (e::es) [] pos) (U6 C sp dvs E t):=by
 intro π s σ H Q I h;refine jS<|nZ I hg hm ?_ hdb;refine rg (h₀:=X.base) I.ok.mod.kin M.kp (thn (ha pos π s σ H _ I h) λus s1 hE=>xq2 hE λvs H1 I1 r q=>⟨I1.kIn,?_⟩) he ζ;exact Mx M F hr hb hd hx I1 r q
end
section
end
structure bB (N P:List Str)(sc:oB):Prop where
 kind:sc.kind=.function
 co:sc.isCoroutine=false
 gen:sc.isGenerator=false
 nd:N.Nodup
 pre:N.take P.length=P
 par:∀x∈P,sc.names.lookup x=some .local\/sc.names.lookup x=some .cell
 nofree:∀y∈sc.names,y.2≠.free
theorem vX {oP:Str->Option pw}{x:Str}:∀{binds:List (Str×a7)} {m:Zs},(∀v,(x,v)∉binds)->bindL oP binds m x=m x
 |[],_,_=>rfl
 |(n,v)::r,m,h=>by
  unfold bindL;rw[vX λw hw=>h w<|ax _ hw];split
  ·have:x≠n:=by rintro rfl;exact h v a8
   simp[this]
  ·rfl
theorem wK {oP:Str->Option pw}{x:Str}:∀{binds:List (Str×a7)} {m:Zs},(∀v,(x,v)∉binds)->bindC oP binds m x=m x
 |[],_,_=>rfl
 |(n,v)::r,m,h=>by
  unfold bindC;rw[wK λw hw=>h w<|ax _ hw];split
  ·rfl
  ·have:x≠n:=by rintro rfl;exact h v a8
   simp[this]
theorem wN {oP:Str->Option pw}{x:Str}{v:a7}:∀{P:List Str} {vs:List a7} {i:Nat} {m:Zs},P.Nodup->P[i]? = some x->vs[i]? = some v->oP x=some .local->
  bindL oP (P.zip vs) m x=some v
 |[],_,_,_,_,h,_,_=>by simp at h
 |_::_,[],_,_,_,_,h,_=>by simp at h
 |p::P,w::vs,0,m,nd,h1,h2,hk=>by
  simp at h1 h2;subst h1;subst h2;show bindL oP ((p,w)::P.zip vs) m p=_;unfold bindL;rw[vX λv hv=>(mS.mp nd).1 (rh hv).1,if_pos hk]
  simp
 |p::P,w::vs,i+1,m,nd,h1,h2,hk=>by
  show bindL oP ((p,w)::P.zip vs) m x=_;unfold bindL;exact wN (i:=i) (mS.mp nd).2 (by simpa using h1) (by simpa using h2) hk
theorem wF {oP:Str->Option pw}{x:Str}{v:a7}:∀{P:List Str} {vs:List a7} {i:Nat} {m:Zs},P.Nodup->P[i]? = some x->vs[i]? = some v->oP x≠some .local->
  bindC oP (P.zip vs) m x=some v
 |[],_,_,_,_,h,_,_=>by simp at h
 |_::_,[],_,_,_,_,h,_=>by simp at h
 |p::P,w::vs,0,m,nd,h1,h2,hk=>by
  simp at h1 h2;subst h1;subst h2;show bindC oP ((p,w)::P.zip vs) m p=_;unfold bindC;rw[wK λv hv=>(mS.mp nd).1 (rh hv).1,if_neg hk]
  simp
 |p::P,w::vs,i+1,m,nd,h1,h2,hk=>by
  show bindC oP ((p,w)::P.zip vs) m x=_;unfold bindC;exact wF (i:=i) (mS.mp nd).2 (by simpa using h1) (by simpa using h2) hk
noncomputable def start (N:List Str)(vs:List V):St:=vs.map some++bP (N.length-vs.length) none
noncomputable def jR (CX:CXT)(P:bg)(w:cw)(K:av)(mg:Zs)(base:Heap)(N:List Str)(qual:Str)(scope:oB)(f:Addr)(cd:a7)(A:eB)(outer:List Env)(s:aT)(H:Hp)(E:XK):Cx where
 prog:=P
 w:=w
 K:=K
 mg:=mg
 base:=base
 A:=A.deeper<|sQ qual scope s.heap.objs.size f cd
 N:=N
 s₀:=s
 H₀:=H
 env:=sQ qual scope s.heap.objs.size f cd
 outer:=outer
 stack:=sQ qual scope s.heap.objs.size f cd::outer
 ex:=[]
 calm:=true
 fn:=λ_=>true
 pn:=[]
 xe:=λe s'=>cn (cq P w) (A.deeper<|sQ qual scope s.heap.objs.size f cd) (leaving (sQ qual scope s.heap.objs.size f cd) e) (λ_ s''=>CX outer H s E e s'') (λe' s''=>CX outer H s E e' s'') s'
theorem zy {sc:oB}(h:sc.names.lookup x=some .cell):∃c,(cellsFrom n sc.names []).lookup x=some c:=by
 have q:=W.cellsFrom_some sc.names n []<|.inl h;exact Option.isSome_iff_exists.mp q
theorem Hk {CX:CXT}{P:bg}{w:cw}{K:av}{mg:Zs}{base:Heap}{N ps:List Str}{qual:Str}{scope:oB}{f:Addr}{cd:a7}{A:eB}{outer:List Env}{s s1:aT}{H:Hp}{E:XK}{us:List a7}{vs:List V}
  (S:bB N ps scope) (hd:A.handled=none) (e0:Bk P w K mg base A outer s H) (hl:vs.length=ps.length) (r:Vals vs us)
  (x:InCallC s s.heap.objs.size (bindL (sQ qual scope s.heap.objs.size f cd).kindOf (ps.zip us) λ_=>none) (cellsFrom (s.heap.objs.size+1) scope.names []) (bindC (sQ qual scope s.heap.objs.size f cd).kindOf (ps.zip us) λ_=>none) s1):
  Inv (jR CX P w K mg base N qual scope f cd A outer s H E) [] (start N vs) H s1:=by
 have ζ:ps.length<=N.length:=by have:=congrArg List.length S.pre;rw[ip] at this;lia
 obtain⟨h1,tk,rfl,hk⟩:=x.done;have noA:∀b:Addr,b∉(jR CX P w K mg base N qual scope f cd A outer s H E).ex:=λb z=>absurd (show b∈([]:List Addr) from z) (by simp);refine⟨⟨e0.mod,S.kind,rfl,rfl,a9 _,λy z c h1 h2=>?_,λy hy=>?_,λy c _ h=>?_,λ_=>hd,Around.frames_deeper e0.frames,.inr ⟨rfl,rfl⟩,λb z=>absurd z<|noA b,e0.bs,e0.bsz,λb _ _=>noA b,λb z=>absurd z<|noA b,e0.oE,e0.frf⟩,
  rfl,e0.bare,Un.kept hk,⟨_,x.toInCall.ns,λi y v h1 h2 h3=>?_⟩,λy c h=>⟨_,x.cell y c h⟩,e0.hok.fresh<|a9 _,λy c h=>?_,λp hp=>absurd (show p∈([]:Zo) from hp) (by simp),e0.hok.kept hk,?_⟩
 ·exact name_of_addr x.apart (i8 h1)<|i8 h2
 ·have hy:scope.names.lookup y=some .cell\/scope.names.lookup y=some .free:=hy;rcases hy with hy|hy
  ·exact zy hy
  ·exact absurd rfl<|S.nofree _<|i8 hy
 ·exact vS<|x.above y c<|i8 h
 ·have hi:i<vs.length:=by
   unfold start at h2;by_cases hi:i<vs.length
   ·exact hi
   ·rw[cc<|by simpa using hi] at h2;rw[eA] at h2;split at h2<;>cases h2
  have ha:vs[i]? = some v:=by
   unfold start at h2;rw[b9 (by simpa using hi),c9] at h2;cases e:vs[i]? with
   |none=>rw[e] at h2;cases h2
   |some a=>rw[e] at h2;cases h2;rfl
  obtain⟨u,hu,rv⟩:=r.get ha;have hp:ps[i]? = some y:=by
   rw[← S.pre,List.getElem?_take_of_lt<|by lia];exact h1
  have ndP:ps.Nodup:=by rw[← S.pre];exact S.nd.sublist<|List.take_sublist _ _
  refine⟨u,rv,?_⟩;rcases S.par y (iO hp) with k|k
  ·exact .inl ⟨k,wN ndP hp hu k⟩
  ·obtain⟨c,e⟩:=zy (n:=s.heap.objs.size+1) k;refine .inr ⟨.inl k,c,e,?_⟩;have q:=x.cell y c e;rw[wF ndP hp hu (by show scope.names.lookup y≠_;rw[k];decide)] at q;exact q
 ·exact e0.hok.fresh<|vS<|x.above y c<|i8 h
 ·unfold start;show _=N.length;rw[aw,fA,kl]
  lia
theorem VV {CX:CXT}{P:bg}{w:cw}{K:av}{mg:Zs}{base:Heap}{k:Nat}{f:Addr}{name qual:Str}{params:Arguments}{body:List Stmt}{scope:oB}{dV kV doc pm cdv ct oc:a7}{an od:Option Addr}
  {osl:Array (Option a7)} {N ps:List Str} {sp:Sp} (lk:K.lookup f=some ⟨oc,od,.func<|ri name qual params body scope dV kV doc pm an cdv ct,osl⟩) (hcd:wt K cdv qual=true) (S:bB N ps scope)
  (len:∀vs H Q E,sp vs H Q E->vs.length=ps.length)
  (hbody:∀(A:eB) (outer:List Env) (s:aT) (H:Hp) (vs:List V) (Q:VK) (E:XK),fD k (A.deeper<|sQ qual scope s.heap.objs.size f cdv)->sp vs H Q E->
   ∃t,PSs (jR CX P w K mg base N qual scope f cdv A outer s H E) body t/\t { nx:=λ_ H'=>Q .non H',rt:=Q } (start N vs) H):
  bR P w K mg base CX (k+1) f (ri name qual params body scope dV kV doc pm an cdv ct) ps sp:=by
 refine⟨len,λA outer s H args us vs Q E hr e0 hb r hsp=>?_⟩;have hl:=len _ _ _ _ hsp;have KX:K.In s.heap:=e0.mod.kin.keeps λb o e=>(e0.bs b o e).1;have lim:s.heap.NoLimit:=e0.mod.nolimit.keeps λb o e=>(e0.bs b o e).1;have hkind:∀y∈ps.zip us,scope.names.lookup y.1=some .local\/(scope.names.lookup y.1=some .cell/\((cellsFrom (s.heap.objs.size+1) scope.names []).lookup y.1).isSome=true):=λ⟨n,v⟩ hy=>by
  rcases S.par n (rh hy).1 with q|q
  ·exact .inl q
  ·exact .inr ⟨q,W.cellsFrom_some _ _ _<|.inl q⟩
 refine codeAny_call_function hr.depth (KX _ _ lk) rfl S.co S.gen rfl (W.codeRec_of KX hcd)<|hb _ _ _ _ ?_;refine wpAny_newFunctionEnv_cells S.kind hkind λenv he s1 x=>?_;subst he;refine⟨lim.keeps x.toInCall.keep,codeAny_func ?_⟩;obtain⟨t,ht,hq⟩:=hbody A outer s H vs Q E (hr.deeper _) hsp;have I:Inv (jR CX P w K mg base N qual scope f cdv A outer s H E) [] (start N vs) H s1:=Hk S hr.hd e0 hl r x;refine gS (ht [] s1 (start N vs) H _ I hq) (λfl s' hs=>?_) λe s' hs=>hs;have fin:∀{σ':St} {H':Hp} {v:V} {u:a7},Inv (jR CX P w K mg base N qual scope f cdv A outer s H E) [] σ' H' s'->RelV v u->Q v H'->CE outer P w H s Q u s':=
  λ{σ' H' v u} J rv q=>⟨v,H',J.os,J.bare,J.base,J.hok,rv,q⟩
 cases fl with
 |ret u=>
  refine Kz hs λv σ' H' J rv q=>?_;exact fin J rv q
 |next=>
  obtain⟨σ',H',J,q⟩:=hs;exact fin (v:=V.non) (u:=gE) J rfl q
 |brk=>
  obtain⟨_,_,_,q⟩:=hs;exact fS q
 |cont=>
  obtain⟨_,_,_,q⟩:=hs;exact fS q
section
variable {X:Cx}{x:Str}{p pos:Pos}{e:Expr}{es:List Expr}{t:TA}{id T:String}{r:List V->Hp->VK->Prop}
def tCB (r:List V->Hp->VK->Prop)(t:TA):TE:=λσ H Q=>t σ H λvs H1=>r vs H1 Q
theorem dI (hc:eQ X (.builtin id) r)(hg:Gl X x)(hm:X.mg x=none)(hv:cf x=some (.builtin id))(ha:PA X (e::es) t)(hn:x≠"__name__":=by decide)(hdb:(x==("__debug__":Str))=false:=by decide)
  (he:ar (e::es) X.env=(false,eval e X.env)::ar es X.env:=by rfl) (ζ:(hJ pos<|ar es X.env).any (·.1)=false:=by rfl):PE X (.Call (.Name x p) (e::es) [] pos) (tCB r t):=by
 intro π s σ H Q I h;refine jS<|yG I hg hm hv ?_ hn hdb;exact PyProof.Rows.callWith_builtin1 (thn (ha pos π s σ H _ I h) λus s1 hE=>xq2 hE λvs H1 I1 r1 q1=>hc π s1 σ H1 vs us Q I1 r1 q1) he ζ
theorem kW (hc:eQ X (.type T) r)(hg:Gl X x)(hm:X.mg x=none)(hv:cf x=some (.type T))(ha:PA X (e::es) t)(hn:x≠"__name__":=by decide)(hdb:(x==("__debug__":Str))=false:=by decide)
  (he:ar (e::es) X.env=(false,eval e X.env)::ar es X.env:=by rfl) (ζ:(hJ pos<|ar es X.env).any (·.1)=false:=by rfl):PE X (.Call (.Name x p) (e::es) [] pos) (tCB r t):=by
 intro π s σ H Q I h;refine jS<|yG I hg hm hv ?_ hn hdb;exact mI (thn (ha pos π s σ H _ I h) λus s1 hE=>xq2 hE λvs H1 I1 r1 q1=>hc π s1 σ H1 vs us Q I1 r1 q1) he ζ
end
end L2
namespace HT
open PySem PyProof.Rows
theorem Vx (A:eB)(s:aT)(a:Int)(t:Tok)(c:Int)(u:Tok):∃e,vi A s (.int a t) (.int c u) e/\(e=true↔a=c):=
 ⟨(a==c),ui a t c u,by simp⟩
theorem VR (A:eB)(s:aT)(a:Int)(t:Tok)(c:Int)(u:Tok)(prog:bg)(w:cw)(E:Zv)(Q:Zv)(h:Q (.bool<|decide<|a<c) s):
  cn (cq prog w) A (richCompare .Lt (.int a t)<|.int c u) Q E s:=
 (PyProof.Rows.lt_int h:cn (cq prog w) A (dk .Lt (.int a t)<|.int c u) Q E s)
section
open PySem.SeqAt
open PySem.AutoSeq1 (wpAny_loadPart')
open PySem.MeetsSeq PySem.MeetsSeq2 PySem.MeetsSeq3
end
section
variable {prog:bg}{w:cw}{A:eB}{E:Zv}{s:aT}
theorem Oz (ht:IsTup s.heap t vs.toArray)(hb:IsTup s.heap b ws.toArray)(hv:vs≠[])
  (h1:ws=[]->Q (.ref t) s) (h2:ws≠[]->Q (.ref s.heap.objs.size) { s with heap:=s.heap.push { cls:=.type "tuple",data:=.seq (vs++ws).toArray } })
  (hsz:vs.length+ws.length<=be):cn (cq prog w) A (gp .Add (.ref t)<|.ref b) Q E s:=by
 obtain⟨⟨cls,dd,data,sl⟩,ho,hc,n,hd⟩:=id ht;obtain⟨⟨cls2,dd2,data2,sl2⟩,ho2,hc2,n2,hd2⟩:=id hb;simp only at hc hd hc2 hd2;subst hc hd hc2 hd2;have e:vs.toArray++ws.toArray=(vs++ws).toArray:=by simp
 by_cases hw:ws=[]
 ·exact rj ⟨_,ho,rfl⟩ ⟨_,ho2,rfl⟩ qk uj ly k8 (kP _ _)
   (tuple_addW1 t b vs.toArray ws.toArray n n2 dd dd2 sl sl2 (by simpa using hv) (by simp[hw])) ⟨ho,ho2,h1 hw⟩
 ·refine rj ⟨_,ho,rfl⟩ ⟨_,ho2,rfl⟩ qk uj ly k8 (kP _ _)
   (tuple_addW2 t b vs.toArray ws.toArray n n2 dd dd2 sl sl2 (by simpa using hv) (by simpa using hw) (by rw[bp,bp];exact hsz)) ⟨ho,ho2,?_⟩
  rw[e];exact h2 hw
noncomputable def sIx (n d:Nat):Option Int->Nat
 |none=>d
 |some v=>if v<0 then(v+(n:Int)).toNat else min v.toNat n
theorem R8 (n d:Nat)(hd:d<=n)(o:Option Int):sIx n d o<=n:=by
 cases o with
 |none=>exact hd
 |some v=>
  show(if v<0 then(v+(n:Int)).toNat else min v.toNat n)<=n;by_cases hv:v<0
  ·rw[if_pos hv];lia
  ·rw[if_neg hv];exact Nat.min_le_right _ _
theorem Dl (v:Int)(n d:Nat):(if v<0 then max (v+(n:Int)) 0 else min v (n:Int))=((sIx n d (some v):Nat):Int):=by
 show(if v<0 then max (v+(n:Int)) 0 else min v (n:Int))=(((if v<0 then(v+(n:Int)).toNat else min v.toNat n):Nat):Int);by_cases hv:v<0
 ·simp only[if_pos hv];lia
 ·simp only[if_neg hv];lia
theorem BW (lo hi:Option Int)(n:Nat):kD lo hi 1 (n:Int)=(((sIx n 0 lo:Nat):Int),((sIx n n hi:Nat):Int)):=by
 have h1:¬((1:Int)<0):=by lia
 unfold kD;simp only[h1,if_false];refine Prod.ext ?_ ?_
 ·cases lo with
  |none=>rfl
  |some v=>exact Dl v n 0
 ·cases hi with
  |none=>rfl
  |some v=>exact Dl v n n
theorem Am (i j:Nat):iN (i:Int) (j:Int) 1=j-i:=by
 unfold iN;have h1:(1:Int)>0:=by lia
 simp only[h1,if_true,Int.ediv_one];split<;>lia
theorem uJ (p:wb v o)(h:Q o s):cn (cq prog w) A (Builtin.Slice.slicePartIndex v) Q E s:=by
 cases p with
 |none=>exact slicePart_none h
 |int i t=>exact slicePart_int h
theorem qG {sl:Addr}{vl vu:a7}{lo hi:Option Int}{n:Nat}{Q:Int×Int×Nat->aT->Prop}(hs:s.heap.IsSliceOf sl vl vu .none)(pl:wb vl lo)(pu:wb vu hi)
  (h:Q (((sIx n 0 lo:Nat):Int),1,sIx n n hi-sIx n 0 lo) s):cn (cq prog w) A (nN (.ref sl)<|pure (n:Int)) Q E s:=by
 obtain⟨os,hos,hcs,hds⟩:=id hs;unfold nN Builtin.Slice.sliceFields;refine ay<|ay<|l0 hos hds (x:=vl) rfl<|ay<|l0 hos hds (x:=vu) rfl<|ay<|l0 hos hds (x:=.none) rfl<|bS ?_;refine ay<|slicePart_none ?_;show cn _ _ (if((1:Int)==0)=true then _ else _) _ _ s;rw[if_neg<|by decide];refine ay<|uJ pl<|ay<|uJ pu<|ay<|bS ?_;show cn _ _ (match kD lo hi 1 (n:Int) with|(lo,hi)=>pure (lo,(1:Int),iN lo hi 1)) _ _ s;rw[BW lo hi n];show cn _ _ (pure (((sIx n 0 lo:Nat):Int),(1:Int),iN ((sIx n 0 lo:Nat):Int) ((sIx n n hi:Nat):Int) 1)) _ _ s;rw[Am];exact bS h
theorem Lg (xs:Array a7)(i k:Nat):((ij k).filterMap λ(m:Nat)=>xs[((i:Int)+(m:Int)*1).toNat]?).toArray=((xs.toList.drop i).take k).toArray:=by
 have e:(λ(m:Nat)=>xs[((i:Int)+(m:Int)*1).toNat]?)=λm=>xs[i+m]?:=by
  funext m
  have:((i:Int)+(m:Int)*1).toNat=i+m:=by lia
  rw[this]
 rw[e]
 have:=pick_run xs i k
 rw[List.filterMap_map] at this;have e2:((λx=>xs[x]?)∘λx=>i+x)=λm=>xs[i+m]?:=rfl;rw[e2] at this;rw[this]
theorem qu {t sl:Addr}{items:Array a7}{vl vu:a7}{lo hi:Option Int}{Q:Zv}(ht:IsTup s.heap t items)(hs:s.heap.IsSliceOf sl vl vu .none)(pl:wb vl lo)(pu:wb vu hi)
  (hw:¬(sIx items.size 0 lo=0/\sIx items.size items.size hi=items.size))
  (h:Q (.ref s.heap.objs.size) { s with heap:=s.heap.push { cls:=.type "tuple",data:=.seq ((items.toList.drop<|sIx items.size 0 lo).take<|sIx items.size items.size hi-sIx items.size 0 lo).toArray } })
  (hsz:items.size<=be):cn (cq prog w) A (xb (.ref t)<|.ref sl) Q E s:=by
 have htake:sizeOk (.seq ((items.toList.drop<|sIx items.size 0 lo).take<|sIx items.size items.size hi-sIx items.size 0 lo).toArray):=by
  show((items.toList.drop<|sIx items.size 0 lo).take<|sIx items.size items.size hi-sIx items.size 0 lo).toArray.size<=be;rw[bp,ip,iq,mE]
  lia
 have hj:sIx items.size items.size hi<=items.size:=R8 _ _ (a9 _) hi;obtain⟨os,hos,hcs,hds⟩:=id hs;have hTs:s.TypeIs (.ref sl) "slice":=⟨os,hos,hcs⟩;unfold xb
 try with_reducible refine uk ?_
 first|refine ay (bS ?_)|skip
 refine ay<|wpAny_sequenceKey ht.typeIs (by decide) ?_;refine ay (wpAny_callSpecial?_slot (name:=ae "__getitem__") ht.typeIs iX
  (wpAny_call_entry iX ht.typeIs entry_tuple_getitem ?_<|args_tuple_getitem _ _))
 show cn _ _ (nK (.ref t) >>= _) _ _ s;refine ay<|tupleItemsOf_ ht ?_;refine ay<|wpAny_typeOf hTs ?_;rw[if_pos<|by decide];refine ay<|qG hs pl pu ?_;have hno:¬((((sIx items.size 0 lo:Nat):Int)==0&&(1:Int)==1&&(sIx items.size items.size hi-sIx items.size 0 lo)==items.size)=true):=by
  intro q;rw[cy,cy] at q;have q1:((sIx items.size 0 lo:Nat):Int)=0:=eq_of_beq q.1.1;have q2:sIx items.size items.size hi-sIx items.size 0 lo=items.size:=eq_of_beq q.2;exact hw ⟨by lia,by lia⟩
 show cn _ _ (if(((sIx items.size 0 lo:Nat):Int)==0&&(1:Int)==1&&(sIx items.size items.size hi-sIx items.size 0 lo)==items.size)=true then _ else _) _ _ s;rw[if_neg hno,Lg]
 first
  |exact ay (m:=i0 _) (ky (bS ⟨_,rfl,bS h⟩) htake)
  |exact ay (m:=i0 _) (ky (ay<|bS<|bS ⟨_,rfl,bS h⟩) htake)
  |exact ay (ay (m:=i0 _)<|ky (bS<|bS ⟨_,rfl,bS h⟩) htake)
  |exact ay (ay (m:=i0 _)<|ky (bS ⟨_,rfl,bS h⟩) htake)
end
end HT
namespace L2
open PySem PySem.Spec PyProof.Rows
abbrev TO:=St->Hp->(Option Int->Hp->Prop)->Prop
def PO (X:Cx)(e:Option Expr)(t:TO):Prop:=
 ∀(π:Zo) (s:aT) (σ:St) (H:Hp) (Q:Option Int->Hp->Prop),Inv X π σ H s->t σ H Q->
  cn (cq X.prog X.w) X.A (evalPart e X.env) (λu s'=>∃o H',Inv X π σ H' s'/\wb u o/\Q o H') X.xe s
def Nz:TO:=λ_ H Q=>Q none H
def JH (t:TE):TO:=λσ H Q=>t σ H λx H1=>∃i,x=.int i/\Q (some i) H1
section
variable {X:Cx}{e:Expr}{te:TE}{lo hi:Option Expr}{tl th:TO}{pos p2:Pos}
theorem Ng:PO X none Nz:=by
 intro π s σ H Q I h;rw[evalPart_none];exact bS ⟨none,H,I,.none,h⟩
theorem xQ (h:PE X e te):PO X (some e) (JH te):=by
 intro π s σ H Q I hw;rw[evalPart_some];refine thn (h π s σ H _ I hw) λu s1 hE=>xq2 hE λx H1 I1 r1 q1=>?_;obtain⟨i,rfl,q⟩:=q1;obtain⟨t,rfl⟩:=r1;exact⟨some i,H1,I1,.int i t,q⟩
def SlR (X:Cx)(r:V->Option Int->Option Int->Hp->VK->Prop):Prop:=
 ∀(π:Zo) (s:aT) (σ:St) (H:Hp) (x:V) (v vl vu:a7) (lo hi:Option Int) (sl:Addr) (Q:VK),Inv X π σ H s->RelV x v->s.heap.IsSliceOf sl vl vu .none->wb vl lo->wb vu hi->r x lo hi H Q->
  ∃T id,typeLookup (.type T) "__getitem__" = pure (some<|.builtin id)/\s.TypeIs v T/\cn (cq X.prog X.w) X.A (xb v<|.ref sl) (EP X π σ Q) X.xe s
def tSl (r:V->Option Int->Option Int->Hp->VK->Prop)(te:TE)(tl th:TO):TE:=λσ H Q=>te σ H λx H1=>tl σ H1 λl H2=>th σ H2 λu H3=>r x l u H3 Q
theorem zZ (hr:SlR X r)(he:PE X e te)(hl:PO X lo tl)(hu:PO X hi th):PE X (.Subscript e (.Slice lo hi none p2) pos) (tSl r te tl th):=by
 intro π s σ H Q I h;refine Subscript_<|thn (he π s σ H _ I h) λv s1 hE=>xq2 hE λx H1 I1 r1 q1=>?_;refine wpAny_Slice<|thn (hl π s1 σ H1 _ I1 q1) λvl s2 ⟨l,H2,I2,pl,q2⟩=>thn (hu π s2 σ H2 _ I2 q2) λvu s3 hE=>?_;refine uM hE λu H3 I3 pu q3=>?_;rw[evalPart_none];refine bS ?_;have I4:Inv X π σ H3 { s3 with heap:=s3.heap.push { cls:=.type "slice",data:=.fields #[vl,vu,.none] } }:=I3.kept (t':=s3.toks) λb ob q=>ah _ q;refine uM (hr π { s3 with heap:=s3.heap.push { cls:=.type "slice",data:=.fields #[vl,vu,.none] } } σ H3 x v vl vu l u s3.heap.objs.size Q I4 r1 (Heap.IsSliceOf.new ..) pl pu q3) λT id hT ht hg=>?_;show cn (cq X.prog X.w) X.A (subscriptTail e (.Slice lo hi none p2) v<|.ref s3.heap.objs.size) (EP X π σ Q) X.xe { s3 with heap:=s3.heap.push { cls:=.type "slice",data:=.fields #[vl,vu,.none] } };exact tail_any (ops:=[.ref s3.heap.objs.size,v]) ht hT hg<|by with_unfolding_all rfl
def yN (xs:List V)(lo hi:Option Int):List V:=(xs.drop<|HT.sIx xs.length 0 lo).take<|HT.sIx xs.length xs.length hi-HT.sIx xs.length 0 lo
theorem rN (xs:List V)(lo hi:Option Int):(yN xs lo hi).length<=xs.length:=by
 unfold yN;rw[ip,iq]
 lia
def Xa (K:av):V->Option Int->Option Int->Hp->VK->Prop:=λx lo hi H Q=>∃a xs,x=.ref a/\SqT K H a xs/\
 ¬(HT.sIx xs.length 0 lo=0/\HT.sIx xs.length xs.length hi=xs.length)/\∀p,H p=none->Q (.ref p) (upd H p<|.tup<|yN xs lo hi)
theorem S8:SlR X (Xa X.K):=by
 intro π s σ H x v vl vu lo hi sl Q I rx hs pl pu h;obtain⟨a,xs,rfl,hx,hw,q⟩:=h;cases rx;obtain⟨its,r,ht,hz⟩:=I.tuple hx;have ρ:its.toArray.size=xs.length:=by rw[bp];exact r.length.symm
 refine⟨"tuple",_,iX.lookup,ht.typeIs,?_⟩;refine HT.qu ht hs pl pu (by rw[ρ];exact hw) ?_ (by rw[ρ];exact hz);rw[ρ];refine⟨.ref s.heap.objs.size,_,I.laid (t':=s.toks) (o:=.tup<|yN xs lo hi) (λb ob q=>ah _ q) (a9 _) ?_,rfl,q _<|I.hok.fresh<|a9 _⟩;exact⟨cm (rN xs lo hi) hz,_,(r.drop<|HT.sIx xs.length 0 lo).take<|HT.sIx xs.length xs.length hi-HT.sIx xs.length 0 lo,yE.new _ _⟩
def Ww (K:av):R2:=λx y H Q=>∃a b xs ys,x=.ref a/\y=.ref b/\SqT K H a xs/\SqT K H b ys/\xs≠[]/\xs.length+ys.length<=be/\
 (ys=[]->Q (.ref a) H)/\(ys≠[]->∀p,H p=none->Q (.ref p) (upd H p<|.tup<|xs++ys))
theorem Vals.xr (r:Vals xs us):us=[]↔xs=[]:=by
 cases r with
 |nil=>simp
 |cons _ _=>simp
theorem QS:OpR X (gp .Add) (Ww X.K):=by
 intro π s σ H x y v u Q I rx ry h;obtain⟨a,b,xs,ys,rfl,rfl,ha,hb,hx,hz,q1,q2⟩:=h;cases rx;cases ry;obtain⟨its,r1,p1,_⟩:=I.tuple ha;obtain⟨its2,r2,p2,_⟩:=I.tuple hb;refine HT.Oz p1 p2 (λz=>hx<|r1.xr.mp z) (λz=>⟨.ref a,H,I,rfl,q1<|r2.xr.mp z⟩) (λz=>?_) (by rw[← r1.length,← r2.length];exact hz);refine⟨.ref s.heap.objs.size,_,I.laid (t':=s.toks) (o:=.tup<|xs++ys) (λb ob q=>ah _ q) (a9 _) ?_,rfl,q2 (λw=>z<|r2.xr.mpr w) _<|I.hok.fresh<|a9 _⟩;exact⟨by rw[aw];exact hz,_,r1.append r2,yE.new _ _⟩
end
noncomputable def ixN (n:Nat)(i:Int):Option Nat:=if 0<=i then(if i<n then some i.toNat else none) else if -(n:Int)<=i then some (i+n).toNat else none
def atI {α:Type}(xs:List α)(i:Int):Option α:=(ixN xs.length i).bind λj=>xs[j]?
theorem QC (h:ixN n i=some j):seqIndex? i n=some j/\j<n/\-(n:Int)<=i/\i<n:=by
 unfold ixN at h;by_cases h0:0<=i
 ·rw[if_pos h0] at h;by_cases h1:i<n
  ·rw[if_pos h1] at h;have e:i.toNat=j:=ck h;exact⟨by rw[seqIndex_of h0 h1,e],by lia,by lia,h1⟩
  ·rw[if_neg h1] at h;cases h
 ·rw[if_neg h0] at h;by_cases h1:-(n:Int)<=i
  ·rw[if_pos h1] at h;have e:(i+n).toNat=j:=ck h;exact⟨by rw[seqIndex_neg (by lia) h1,e],by lia,h1,by lia⟩
  ·rw[if_neg h1] at h;cases h
theorem xX (h:atI xs i=some v):∃j,seqIndex? i xs.length=some j/\xs[j]? = some v/\j<xs.length/\-(xs.length:Int)<=i/\i<xs.length:=by
 unfold atI at h;cases e:ixN xs.length i with
 |none=>rw[e] at h;cases h
 |some j=>
  rw[e] at h;obtain⟨h1,h2,h3,h4⟩:=QC e;exact⟨j,h1,h,h2,h3,h4⟩
theorem Ol {α:Type}{xs:List α}{j:Nat}{v:α}(h:xs[j]? = some v):atI xs (j:Int)=some v:=by
 have hj:j<xs.length:=(eW.mp h).1;have e:ixN xs.length (j:Int)=some j:=by
  unfold ixN;rw[if_pos (by lia),if_pos<|by lia];simp
 unfold atI;rw[e];exact h
def xW (b:Expr):Prop:=∀o i,subscripted b false o i=operate [o,i] (xb o i)
def IxR (X:Cx)(r:R2):Prop:=
 ∀(value slice:Expr) (π:Zo) (s:aT) (σ:St) (H:Hp) (x y:V) (v u:a7) (Q:VK),Inv X π σ H s->RelV x v->RelV y u->r x y H Q->
  subscripted slice false v u=operate [v,u] (xb v u)->cn (cq X.prog X.w) X.A (subscriptTail value slice v u) (EP X π σ Q) X.xe s
def MtR (X:Cx)(id:String)(r:V->List V->Hp->VK->Prop):Prop:=
 ∀(π:Zo) (s:aT) (σ:St) (H:Hp) (x:V) (xs:List V) (v:a7) (us:List a7) (Q:VK),Inv X π σ H s->RelV x v->Vals xs us->r x xs H Q->
  cn (cq X.prog X.w) X.A (call (.builtin id) (v::us)) (EP X π σ Q) X.xe s
section
variable {X:Cx}{a b:Expr}{ta tb:TE}{pos:Pos}
theorem uQ (hr:IxR X r)(ha:PE X a ta)(hb:PE X b tb)(hs:xW b):PE X (.Subscript a b pos) (tOp r ta tb):=by
 intro π s σ H Q I h;exact Subscript_<|Ov ha hb I h λv u s2 x y H2 I2 rx ry q=>hr a b π s2 σ H2 x y v u Q I2 rx ry q<|hs _ _
def WT (K:av):R2:=λx y H Q=>∃p xs i v,x=.ref p/\y=.int i/\SqL K H p xs/\atI xs i=some v/\Q v H
def Xz (K:av):R2:=λx y H Q=>∃p xs i v,x=.ref p/\y=.int i/\SqT K H p xs/\atI xs i=some v/\Q v H
def Xd:R2:=λx y H Q=>∃z i c,x=.str z/\y=.int i/\z.length<=be/\atI z.cps.toList i=some c/\Q (.str ⟨#[c]⟩) H
theorem QB:IxR X (WT X.K):=by
 intro value slice π s σ H x y v u Q I rx ry h hs;obtain⟨p,xs,i,z,rfl,rfl,hq,he,q⟩:=h;cases rx;obtain⟨t,rfl⟩:=ry;obtain⟨its,r,pl,hz⟩:=I.list hq;refine vQ (xX he) λj h1 h2 h3 h4 h5=>?_;obtain⟨w,ew,rw'⟩:=r.get h2;have hl:=r.length;have hn:=uv;have fin:EP X π σ Q w s:=⟨z,H,I,rw',q⟩;by_cases h0:0<=i
 ·have hj:i.toNat=j:=by
   rw[seqIndex_of h0 h5] at h1;exact ck h1
  exact item_listR pl.isList h0 (by lia) (by rw[hj];simpa using ew) fin hs
 ·have hj:(i+(its.toArray.size:Int)).toNat=j:=by
   rw[seqIndex_neg (by lia) h4] at h1;rw[bp,← hl];exact ck h1
  exact subscriptTail_builtinR (x:=w) pl.isList.typeIs slot_list_getitem.lookup
   (wpAny_getItem_list_neg (Q:=λr s'=>r=w/\EP X π σ Q r s') pl.isList (by lia) (by rw[bp]<;>lia) (by lia) (by rw[hj];simpa using ew) ⟨rfl,fin⟩) hs
theorem Uw:IxR X (Xz X.K):=by
 intro value slice π s σ H x y v u Q I rx ry h hs;obtain⟨p,xs,i,z,rfl,rfl,hq,he,q⟩:=h;cases rx;obtain⟨t,rfl⟩:=ry;obtain⟨its,r,pl,hz⟩:=I.tuple hq;refine vQ (xX he) λj h1 h2 h3 h4 h5=>?_;obtain⟨w,ew,rw'⟩:=r.get h2;have hl:=r.length;have hn:=uv;have fin:EP X π σ Q w s:=⟨z,H,I,rw',q⟩;exact subscriptTail_builtinR (x:=w) pl.typeIs slot_tuple_getitem.lookup
  (getItem_tuple (j:=j) (Q:=λr s'=>r=w/\EP X π σ Q r s') pl (by lia) (by lia) (by rw[bp,← hl];exact h1) (by simpa using ew) ⟨rfl,fin⟩) hs
theorem TF:IxR X Xd:=by
 intro value slice π s σ H x y v u Q I rx ry h hs;obtain⟨z,i,c,rfl,rfl,hz,he,q⟩:=h;obtain⟨t,rfl⟩:=rx;obtain⟨t',rfl⟩:=ry;refine vQ (xX he) λj h1 h2 h3 h4 h5=>?_;have hl:z.cps.toList.length=z.length:=by simp[Str.length]
 rw[hl] at h1 h4 h5;have hn:=uv;exact tail_any (oD s z t) slot_str_getitem.lookup (getItem_str (c:=c) (by
  have e1:decide (i < -(2^63:Int))=false:=decide_eq_false (by lia);have e2:decide (i≥2^63)=false:=decide_eq_false (by lia);rw[e1,e2,Bool.or_false]) (by rw[h1];simpa using h2) ⟨.str ⟨#[c]⟩,H,I.tok _,⟨_,rfl⟩,q⟩) hs
theorem w5 (lo hi:Option Int)(n:Nat):(l6 lo hi none n).1=((HT.sIx n 0 lo:Nat):Int)/\(l6 lo hi none n).2.1=((HT.sIx n n hi:Nat):Int)/\(l6 lo hi none n).2.2=1:=by
 refine⟨?_,?_,rfl⟩
 ·cases lo with
  |none=>simp[l6,HT.sIx]
  |some i=>
   simp only[l6,HT.sIx,Option.getD_none,show(1:Int)>0 by decide,if_true];by_cases h:i<0
   ·simp only[h,if_true]<;>lia
   ·simp only[h,if_false]<;>lia
 ·cases hi with
  |none=>simp[l6,HT.sIx]
  |some i=>
   simp only[l6,HT.sIx,Option.getD_none,show(1:Int)>0 by decide,if_true];by_cases h:i<0
   ·simp only[h,if_true]<;>lia
   ·simp only[h,if_false]<;>lia
theorem vq (its:List a7)(lo hi:Option Int):slicePick its.toArray lo hi none=((its.drop<|HT.sIx its.length 0 lo).take<|HT.sIx its.length its.length hi-HT.sIx its.length 0 lo).toArray:=by
 obtain⟨h1,h2,h3⟩:=w5 lo hi its.toArray.size;unfold slicePick;rw[h1,h2,h3];simp only[sliceRange_one,pick_run,bp]<;>rfl
def Xg (K:av):V->Option Int->Option Int->Hp->VK->Prop:=λx lo hi H Q=>∃a xs,x=.ref a/\SqL K H a xs/\∀p,H p=none->Q (.ref p) (upd H p<|.lst<|yN xs lo hi)
theorem PN:SlR X (Xg X.K):=by
 intro π s σ H x v vl vu lo hi sl Q I rx hs pl pu h;obtain⟨a,xs,rfl,hx,q⟩:=h;cases rx;obtain⟨its,r,ht,hz⟩:=I.list hx;have ρ:=r.length;refine⟨"list",_,slot_list_getitem.lookup,ht.isList.typeIs,?_⟩;refine wpAny_getItem_list_slice ht.isList hs pl pu .none (by simp) ?_ (by rw[bp]<;>lia);rw[vq,← ρ];refine⟨.ref s.heap.objs.size,_,I.laid (t':=s.toks) (o:=.lst<|yN xs lo hi) (λb ob q=>ah _ q) (a9 _) ?_,rfl,q _<|I.hok.fresh<|a9 _⟩;exact⟨cm (rN xs lo hi) hz,_,0,(r.drop<|HT.sIx xs.length 0 lo).take<|HT.sIx xs.length xs.length hi-HT.sIx xs.length 0 lo,b0 _ rfl⟩
def oW:V->Bool
 | .non=>true
 | .bl _=>true
 | .int _=>true
 | .str _=>true
 |_=>false
def eqV:V->V->Bool
 | .non,.non=>true
 | .bl a,.bl b=>a==b
 | .bl a,.int b=>(if a then 1 else 0)==b
 | .int a,.bl b=>a==(if b then 1 else 0)
 | .int a,.int b=>a==b
 | .str a,.str b=>a==b
 |_,_=>false
theorem RK (ry:RelV y u)(rx:RelV x v)(fy:oW y=true)(fx:oW x=true):vi A s u v (eqV y x):=by
 cases y with
 |non=>
  cases ry;cases x with
  |non=>cases rx;exact w8 _
  |bl b=>cases rx;exact SeqAt.EqAt.none_bool b
  |int b=>obtain⟨t,rfl⟩:=rx;exact SeqAt.EqAt.none_int b t
  |str b=>obtain⟨t,rfl⟩:=rx;exact SeqAt.EqAt.none_str b t
  |_=>exact absurd (show false=true from fx) aI
 |bl a=>
  cases ry;cases x with
  |non=>cases rx;exact SeqAt.EqAt.bool_none a
  |bl b=>cases rx;exact SeqAt.EqAt.bool_bool a b
  |int b=>obtain⟨t,rfl⟩:=rx;exact SeqAt.EqAt.bool_int a b t
  |str b=>obtain⟨t,rfl⟩:=rx;exact SeqAt.EqAt.bool_str a b t
  |_=>exact absurd (show false=true from fx) aI
 |int a=>
  obtain⟨t',rfl⟩:=ry;cases x with
  |non=>cases rx;exact SeqAt.EqAt.int_none a t'
  |bl b=>cases rx;exact SeqAt.EqAt.int_bool a t' b
  |int b=>obtain⟨t,rfl⟩:=rx;exact ui a t' b t
  |str b=>obtain⟨t,rfl⟩:=rx;exact tz a t' b t
  |_=>exact absurd (show false=true from fx) aI
 |str a=>
  obtain⟨t',rfl⟩:=ry;cases x with
  |non=>cases rx;exact SeqAt.EqAt.str_none a t'
  |bl b=>cases rx;exact SeqAt.EqAt.str_bool a t' b
  |int b=>obtain⟨t,rfl⟩:=rx;exact tF a t' b t
  |str b=>obtain⟨t,rfl⟩:=rx;exact SeqAt.EqAt.str_str a t' b t
  |_=>exact absurd (show false=true from fx) aI
 |_=>exact absurd (show false=true from fy) aI
def eqU (x:V)(u:a7):Bool:=match u with
 | .none=>eqV .non x
 | .bool b=>eqV (.bl b) x
 | .int i _=>eqV (.int i) x
 | .str z _=>eqV (.str z) x
 |_=>false
theorem Mv (r:RelV y u)(f:oW y=true):eqU x u=eqV y x:=by
 cases y with
 |non=>cases r;rfl
 |bl b=>cases r;rfl
 |int i=>obtain⟨t,rfl⟩:=r;rfl
 |str z=>obtain⟨t,rfl⟩:=r;rfl
 |_=>exact absurd (show false=true from f) aI
theorem qe:∀{xs:List V} {us:List a7},Vals xs us->xs.all oW=true->us.any (eqU x)=xs.any λy=>eqV y x
 |_,_,.nil,_=>rfl
 |y::xs,u::us,.cons r t,f=>by
  rw[pd,cy] at f;rw[List.any_cons,List.any_cons,Mv r f.1,qe t f.2]
theorem nM (rx:RelV x v)(fx:oW x=true):∀{xs:List V} {us:List a7},Vals xs us->xs.all oW=true->∀u∈us,vi A s u v (eqU x u)
 |_,_,.nil,_=>λu hu=>by cases hu
 |y::xs,u::us,.cons r t,f=>λu' hu=>by
  rw[pd,cy] at f;rcases ag.mp hu with rfl|hu
  ·rw[Mv r f.1];exact RK r rx f.1 fx
  ·exact nM rx fx t f.2 u' hu
def inV (x:V)(xs:List V):Bool:=xs.any λy=>eqV y x
def rIn (K:av)(neg:Bool):R2:=λx y H Q=>∃p xs,y=.ref p/\(SqL K H p xs\/SqT K H p xs)/\oW x=true/\xs.all oW=true/\Q (.bl<|if neg then !inV x xs else inV x xs) H
theorem vW:OpR X (dk .In) (rIn X.K false):=by
 intro π s σ H x y v u Q I rx ry h;obtain⟨p,xs,rfl,hq,fx,fs,q⟩:=h;cases ry;rcases hq with hq|hq
 ·obtain⟨its,r,pl,hz⟩:=I.list hq;refine SeqAt.in_listAt (eqU x) pl.isList (λw hw=>nM rx fx r fs w<|by simpa using hw) ⟨.bl _,H,I,rfl,?_⟩;rw[show its.toArray.any (eqU x)=its.any (eqU x) by simp,qe r fs];exact q
 ·obtain⟨its,r,pl,hz⟩:=I.tuple hq;refine SeqAt.in_tupleAt (eqU x) pl (λw hw=>nM rx fx r fs w<|by simpa using hw) ⟨.bl _,H,I,rfl,?_⟩;rw[show its.toArray.any (eqU x)=its.any (eqU x) by simp,qe r fs];exact q
theorem qz:OpR X (dk .NotIn) (rIn X.K true):=by
 intro π s σ H x y v u Q I rx ry h;obtain⟨p,xs,rfl,hq,fx,fs,q⟩:=h;cases ry;rcases hq with hq|hq
 ·obtain⟨its,r,pl,hz⟩:=I.list hq;refine SeqAt.notIn_listAt (eqU x) pl.isList (λw hw=>nM rx fx r fs w<|by simpa using hw) ⟨.bl _,H,I,rfl,?_⟩;rw[show its.toArray.any (eqU x)=its.any (eqU x) by simp,qe r fs];exact q
 ·obtain⟨its,r,pl,hz⟩:=I.tuple hq;refine SeqAt.notIn_tupleAt (eqU x) pl (λw hw=>nM rx fx r fs w<|by simpa using hw) ⟨.bl _,H,I,rfl,?_⟩;rw[show its.toArray.any (eqU x)=its.any (eqU x) by simp,qe r fs];exact q
theorem ji:eQ X (.builtin "len") (λxs H Q=>∃p ys,xs=[.ref p]/\(SqL X.K H p ys\/SqT X.K H p ys)/\Q (.int ys.length) H):=by
 intro π s σ H xs us Q I r h;obtain⟨p,ys,rfl,hq,q⟩:=h;obtain⟨u,rfl,rx⟩:=vals1 r;cases rx;have hn:=uv;rcases hq with hq|hq
 ·obtain⟨its,r',pl,hz⟩:=I.list hq;have ρ:=r'.length;exact Calls.call_len_list pl.isList (by simp only[bp]<;>lia) ⟨.int ys.length,H,I.tok _,⟨s.toks+1,by rw[bp,ρ]⟩,q⟩
 ·obtain⟨its,r',pl,hz⟩:=I.tuple hq;have ρ:=r'.length;exact len_tuple pl (by simp only[bp]<;>lia) ⟨.int ys.length,H,I.tok _,⟨s.toks+1,by rw[bp,ρ]⟩,q⟩
theorem gP:eQ X (.builtin "len") (λxs H Q=>∃z,xs=[.str z]/\z.length<=be/\Q (.int z.length) H):=by
 intro π s σ H xs us Q I r h;obtain⟨z,rfl,hz,q⟩:=h;obtain⟨u,rfl,t,rfl⟩:=vals1 r;have hn:=uv;exact len_str (by lia) ⟨.int z.length,H,I.tok _,⟨_,rfl⟩,q⟩
theorem xR:eQ X (.type "list") (λxs H Q=>∃p ys,xs=[.ref p]/\(SqL X.K H p ys\/SqT X.K H p ys)/\∀l,H l=none->Q (.ref l) (upd H l<|.lst ys)):=by
 intro π s σ H xs us Q I r h;obtain⟨p,ys,rfl,hq,q⟩:=h;obtain⟨u,rfl,rx⟩:=vals1 r;cases rx;have fin:∀(its:List a7),Vals ys its->ys.length<=be->∀(h':Heap) (c':Nat),(∀b o',s.heap.get? b=some o'->h'.get? b=some o')->
   h'.get? s.heap.objs.size=some { cls:=.type "list",dict:=none,data:=.seq its.toArray c',slots:=#[] }->EP X π σ Q (.ref s.heap.objs.size) { s with heap:=h' }:=λits r' hz h' c' kp e=>
  ⟨.ref s.heap.objs.size,_,I.laid (t':=s.toks) kp (a9 _)<|show cY X.prog X.w _ h' _ (.lst ys) from⟨hz,its,c',r',e⟩,rfl,q _<|I.hok.fresh<|a9 _⟩
 rcases hq with hq|hq
 ·obtain⟨its,r',pl,hz⟩:=I.list hq;have ρ:=r'.length;obtain⟨o,ho,hc,n,hd⟩:=pl.isList;exact call_list_seq p (.inl rfl) ho hc hd (λh' c' kp e=>fin its r' hz h' c' kp e) (by simp only[bp]<;>lia)
 ·obtain⟨its,r',pl,hz⟩:=I.tuple hq;have ρ:=r'.length;obtain⟨o,ho,hc,n,hd⟩:=pl;exact call_list_seq p (.inr rfl) ho hc hd (λh' c' kp e=>fin its r' hz h' c' kp e) (by simp only[bp]<;>lia)
theorem oH:eQ X (.type "tuple") (λxs H Q=>∃p ys,xs=[.ref p]/\((SqL X.K H p ys/\∀l,H l=none->Q (.ref l) (upd H l<|.tup ys))\/(SqT X.K H p ys/\Q (.ref p) H))):=by
 intro π s σ H xs us Q I r h;obtain⟨p,ys,rfl,h⟩:=h;obtain⟨u,rfl,rx⟩:=vals1 r;cases rx;rcases h with⟨hq,q⟩|⟨hq,q⟩
 ·obtain⟨its,r',pl,hz⟩:=I.list hq;have ρ:=r'.length;refine call_tuple_list pl.isList (λh' kp=>?_) (by simp only[bp]<;>lia);have I1:Inv X π σ H { s with heap:=h' }:=I.kept (t':=s.toks) kp;have I2:Inv X π σ (upd H h'.objs.size<|.tup ys) { s with heap:=h'.push { cls:=.type "tuple",data:=.seq its.toArray } }:=
   I1.laid (t':=s.toks) (λb o e=>ah _ e) (a9 _) (show cY X.prog X.w _ _ _ (.tup ys) from⟨hz,its,r',yE.new _ _⟩)
  exact⟨.ref h'.objs.size,_,I2,rfl,q _<|I1.hok.fresh<|a9 _⟩
 ·obtain⟨its,r',pl,hz⟩:=I.tuple hq;exact call_tuple_same pl ⟨.ref p,H,I,rfl,q⟩
def tyV (K:av)(T:String)(x:V)(H:Hp):Prop:=match x with
 | .str _=>T = "str"
 | .int _=>T = "int"
 | .ref p=>(T = "list"/\∃xs,SqL K H p xs)\/(T = "tuple"/\∃o,K.lookup p=some o/\o.cls=.type "tuple"/\o.dict=none) ∨
   (T = "dict"/\((∃ι,Rd H p<|.dK ι)\/∃T ι,Rd H p<|.dT T ι))\/(T = "set"/\∃S n,H p=some (.set S n))
 |_=>False
theorem Mt (I:Inv X π σ H s)(r:RelV x v)(ty:tyV X.K T x H):
  s.TypeIs v T/\∀a,v=.ref a->∃ob,s.heap.get? a=some ob/\ob.dict=none:=by
 cases x with
 |str z=>
  obtain⟨t,rfl⟩:=r;cases(show T = "str" from ty);exact⟨oD s z t,λ_ e=>nomatch e⟩
 |int i=>
  obtain⟨t,rfl⟩:=r;cases(show T = "int" from ty);exact⟨typeIs_int s i t,λ_ e=>nomatch e⟩
 |ref p=>
  cases r;rcases ty with⟨rfl,xs,hq⟩|⟨rfl,o,hk,hc,hd⟩|⟨rfl,hk⟩|⟨rfl,S,n,hk⟩
  ·obtain⟨its,_,pl,_⟩:=I.list hq;refine⟨pl.isList.typeIs,λa e=>?_⟩;cases e;refine rz pl λo n e c hd _=>?_;exact⟨o,e,hd⟩
  ·refine⟨⟨o,I.kIn p o hk,hc⟩,λa e=>?_⟩;cases e;exact⟨o,I.kIn _ o hk,hd⟩
  ·have z:∃o,s.heap.get? p=some o/\o.ExactDict:=by
    rcases hk with⟨ι,hk⟩|⟨_,ι,hk⟩
    ·obtain⟨_,_,_,_,o,_,_,e,ex,_⟩:=(show cY X.prog X.w H s.heap p (.dK ι) from hk.ok I.hok);exact⟨o,e,ex⟩
    ·obtain⟨_,_,_,_,o,_,_,e,ex,_⟩:=(show cY X.prog X.w H s.heap p (.dT _ ι) from hk.ok I.hok);exact⟨o,e,ex⟩
   obtain⟨o,e,ex⟩:=z;refine⟨⟨o,e,ex.1⟩,λa e2=>?_⟩;cases e2;exact⟨o,e,ex.2.1⟩
  ·refine Vm (I.hok p _ hk) λo _ _ _ e ex _=>?_;refine⟨⟨o,e,ex.1⟩,λa e2=>?_⟩;cases e2;exact⟨o,e,ex.2.1⟩
 |_=>exact fS ty
def Xq (K:av)(T:String)(r:V->List V->Hp->VK->Prop)(to:TE):TE:=λσ H Q=>to σ H λx H1=>tyV K T x H1/\r x [] H1 Q
def tBM (K:av)(T:String)(r:V->List V->Hp->VK->Prop)(to:TE)(t:TA):TE:=λσ H Q=>to σ H λx H1=>tyV K T x H1/\t σ H1 λxs H2=>r x xs H2 Q
variable {o e:Expr}{es:List Expr}{to:TE}{t:TA}{name:Str}{apos χ:Pos}{T id:String}{r:V->List V->Hp->VK->Prop}
theorem Az (pa:PlainAttrs T)(slot:Slot T name id)(hty:typeOf (.builtin id)=pure (.type "method_descriptor"))(hm:MtR X id r)(ho:PE X o to)
  (ω:i7 o name X.env (eval o X.env)=eval o X.env:=by rfl) (η:(apos.endLine==χ.line)=true:=by rfl):PE X (.Call (.Attribute o name apos) [] [] χ) (Xq X.K T r to):=by
 intro π s σ H Q I h;refine wpAny_Call_method0_late ω η<|thn (ho π s σ H _ I h) λv s1 hE=>?_;refine rz hE λx H1 I1 r1 ty q1=>?_;obtain⟨h1,h2⟩:=Mt I1 r1 ty;exact⟨T,id,pa,slot,hty,h1,h2,qA rfl<|PySem.evalArgs_none<|hm π s1 σ H1 x [] v [] Q I1 r1 .nil q1⟩
theorem rH (pa:PlainAttrs T)(slot:Slot T name id)(hty:typeOf (.builtin id)=pure (.type "method_descriptor"))(hm:MtR X id r)(ho:PE X o to)(ha:PA X (e::es) t)
  (ω:i7 o name X.env (eval o X.env)=eval o X.env:=by rfl)
  (ν:((hJ χ<|ar (e::es) X.env).all (λx=>!x.1)&&(uu χ<|mT [] X.env).all (λx=>x.1.isSome)
   && decide ((e::es).length+([]:List tj).length+(if([]:List tj).isEmpty then 0 else 1)<30))=true:=by rfl)
  (η:(apos.endLine==χ.line)=true:=by rfl) (hs:ar (e::es) X.env=(false,eval e X.env)::ar es X.env:=by rfl) (hplain:(hJ χ<|ar es X.env).any (·.1)=false:=by rfl):
  PE X (.Call (.Attribute o name apos) (e::es) [] χ) (tBM X.K T r to t):=by
 intro π s σ H Q I h;refine wpAny_Call_method_late ω ν η rfl<|thn (ho π s σ H _ I h) λv s1 hE=>?_;refine rz hE λx H1 I1 r1 ty q1=>?_;obtain⟨h1,h2⟩:=Mt I1 r1 ty;refine⟨T,id,pa,slot,hty,h1,h2,?_⟩;have hA:=ha χ π s1 σ H1 _ I1 q1;rw[hs] at hA ⊢;refine qA (by show(false||(hJ χ<|ar es X.env).any (·.1))=false;rw[hplain]<;>rfl)<|sL ?_;exact thn hA λus s2 hE=>xq2 hE λvs H2 I2 r2 q2=>hm π s2 σ H2 x vs v us Q I2 r1 r2 q2
end
def MtM (X:Cx)(id:String)(r:V->List V->Hp->VK->Prop):Prop:=
 ∀(π:Zo) (s:aT) (σ:St) (H:Hp) (x:V) (xs:List V) (v:a7) (us:List a7) (Q:VK),Inv X π σ H s->RelV x v->Vals xs us->r x xs H Q->
  cn (cq X.prog X.w) X.A (call (.builtin id) (v::us)) (EP X π σ Q) X.xe s
theorem Vals.one:∀{x:V} {us:List a7},Vals [x] us->∃u,us=[u]/\RelV x u
 |_,_,.cons r .nil=>⟨_,rfl,r⟩
theorem Vals.zero:∀{us:List a7},Vals [] us->us=[]
 |_,.nil=>rfl
theorem Vals.dropLast (h:Vals xs us):Vals xs.dropLast us.dropLast:=by
 induction h with
 |nil=>exact .nil
 |cons r t ih=>
  cases t with
  |nil=>exact .nil
  |cons q t'=>exact .cons r ih
theorem Vals.rep (h:Vals xs us):∀k:Nat,Vals (bP k xs).flatten (bP k us).flatten
 |0=>.nil
 |k+1=>by
  rw[gc,gc,i4,i4];exact Vals.append h<|Vals.rep h k
theorem Aq (l:List α):l.eraseIdx (l.length-1)=l.dropLast:=by
 induction l with
 |nil=>rfl
 |cons a r ih=>
  cases r with
  |nil=>rfl
  |cons b r=>
   have e:(a::b::r).length-1=((b::r).length-1)+1:=by
    have h1:(a::b::r).length=r.length+2:=rfl;have h2:(b::r).length=r.length+1:=rfl
    lia
   rw[e,List.eraseIdx_cons_succ,ih]
   all_goals rfl
theorem foldl_rep (its:List a7):∀(k:Nat) (acc:List a7),
  vk (λx1 x2=>x1++x2) acc.toArray (bP k its.toArray)=(acc++(bP k its).flatten).toArray
 |0,acc=>by simp
 |k+1,acc=>by
  have e:acc.toArray++its.toArray=(acc++its).toArray:=by simp
  have e2:(acc++its)++(bP k its).flatten=acc++(bP (k+1) its).flatten:=by
   rw[gc,i4,aE]
  rw[← e2,← foldl_rep its k (acc++its),← e,gc,k9]
section
variable {X:Cx}{π:Zo}{σ:St}{H:Hp}{s:aT}{l b:Addr}{xs ys zs:List V}
theorem Inv.Wv {its its':List a7}(I:Inv X π σ H s)(hH:H l=some (.lst xs))
  (e:s.heap.get? l=some { cls:=.type "list",data:=.seq its.toArray n }) (hf:f its.toArray=its'.toArray) (hv:Vals ys its') (hz:ys.length<=be):
  Inv X π σ (upd H l<|.lst ys) { s with heap:=s.heap.update l<|Obj.mapSeq f,toks:=t' }:=by
 have q:=PySem.IsL.update e f;rw[hf] at q;refine I.write (x:=l) (e:=l) (by rw[hH];exact trivial) (.inl rfl) (λb' u hb hu=>(eP s.heap (Obj.mapSeq f)<|kL hb).trans hu) ⟨_,q⟩ ?_;exact⟨hz,its',_,hv,q⟩
theorem Inv.Vc (I:Inv X π σ H s)(hH:H l=some (.lst xs)):xs.length<=be/\∃(its:List a7) (n:Nat),Vals xs its/\xs.length=its.length/\s.heap.get? l=some { cls:=.type "list",data:=.seq its.toArray n }:=by
 obtain⟨z,its,n,r,e⟩:=I.hok l _ hH;exact⟨z,its,n,r,r.length,e⟩
theorem Lp (h:n<=be):i5 n=false:=by
 unfold i5;exact decide_eq_false<|by lia
end
section
variable {X:Cx}
def Od:V->List V->Hp->VK->Prop:=λx vs H Q=>∃l xs y,x=.ref l/\vs=[y]/\H l=some (.lst xs)/\xs.length<be/\Q .non (upd H l<|.lst<|xs++[y])
theorem ig:MtM X "list.append" Od:=by
 intro π s σ H x vs v us Q I rx rv h;obtain⟨l,xs,y,rfl,rfl,hH,hz,q⟩:=h;cases rx;obtain⟨u,rfl,ru⟩:=rv.one;obtain⟨z,its,n,r,hl,e⟩:=I.Vc hH;refine sx F.slot_list_append ⟨_,e,rfl⟩ F.entry_list_append (F.args_list_append_2 _ _) (PySem.list_append l its.toArray n u (by rw[bp];lia)) ⟨e,?_⟩;refine⟨.non,_,I.Wv (its':=its++[u]) hH e (by simp) (r.append<|.cons ru .nil) ?_,rfl,q⟩;rw[aw,ko]
 lia
def Xl:V->List V->Hp->VK->Prop:=λx vs H Q=>∃l xs y,x=.ref l/\vs=[]/\H l=some (.lst xs)/\xs[xs.length-1]? = some y/\Q y (upd H l<|.lst xs.dropLast)
theorem Ck:MtM X "list.pop" Xl:=by
 intro π s σ H x vs v us Q I rx rv h;obtain⟨l,xs,y,rfl,rfl,hH,hy,q⟩:=h;cases rx;have hus:=rv.zero;subst hus;obtain⟨z,its,n,r,hl,e⟩:=I.Vc hH;obtain⟨u,hu,ru⟩:=r.get hy;have hy':its.toArray[its.toArray.size-1]? = some u:=by
  show its.toArray[its.length-1]? = some u;rw[← rk,← hl];exact hu
 refine sx F.slot_list_pop ⟨_,e,rfl⟩ F.entry_list_pop (F.args_list_pop_1 _) (MeetsSeq.list_pop_last l its.toArray n u hy' (by rw[bp];lia)) ⟨e,?_⟩;refine⟨y,_,I.Wv (its':=its.dropLast) hH e ?_ r.dropLast ?_,ru,q⟩
 ·show its.toArray.eraseIdxIfInBounds (its.toArray.size-1)=its.dropLast.toArray;rw[bp,List.eraseIdxIfInBounds_toArray,Aq]
 ·rw[List.length_dropLast]
  lia
theorem len_rep (xs:List α)(k:Nat):(bP k xs).flatten.length=k*xs.length:=by
 induction k with
 |zero=>simp
 |succ k ih=>rw[gc,i4,aw,ih,Nat.succ_mul,Nat.add_comm]
end
section
variable {prog:bg}{w:cw}{A:eB}{E:Zv}{s:aT}
end
section
end
end L2
namespace Att
open PySem PySem.W PySem.Calls PyProof.Rows
theorem rQ:∀(ns:List Int) (vs:List a7),WellAll P h vs (ns.map WData.int)->IntsAre vs ns:=by
 intro ns;induction ns with
 |nil=>
  intro vs w;rw[List.map_nil] at w;cases w;exact .nil
 |cons n ns ih=>
  intro vs w;rw[eJ] at w;cases w with
  |cons a b=>
   cases a;exact .cons _ _<|ih _ b
theorem Ha {l:OpenLaw}(hn:l.most=some n){P:Params}{h:Heap}{args:List WData}{vals:List a7}
  (hpre:l.row.toRowW.claim.pre args=true) (hwl:WellAll P h vals args):
  ∃a vs ns,vals=[cS a]/\args=[WData.list<|ns.map WData.int]/\h.get? a=some { cls:=.type "list",data:=.seq vs.toArray }/\IntsAre vs ns/\ns.length<=n:=by
 have hsh:WShape.hasAll [] args [.list .int]=true:=(pre_splitW hpre).1;have hc:l.pre.holds [] { args:=args }=true:=(pre_splitW hpre).2;obtain⟨d,r,rfl,h1,h2⟩:=hasAllW_cons hsh;obtain rfl:=hasAllW_nil h2;obtain⟨xs,rfl,h3⟩:=hasW_list h1;obtain⟨ns,rfl⟩:=items_int h3;have ρ:ns.length<=n:=by
  unfold OpenLaw.pre at hc;have h4:(WTm.not<|.lt (.lit<|.int (n:Int))<|.len<|.arg 0).holds [] { args:=[.list<|ns.map .int] }=true:=by
   have h4:=(holds_andW hc).1;rw[hn] at h4;exact h4
  have h5:=condW_of h4<|w_not<|w_lt w_lit<|w_len_list<|w_arg rfl;rw[fA] at h5;refine Nat.le_of_not_lt λq=>?_;have q':(n:Int)<((ns.length:Nat):Int):=by lia
  first
   |(rw[decide_eq_true q'] at h5;exact absurd h5<|by decide)
   |(simp at h5;lia)
 cases hwl with
 |cons w1 w2=>
  cases w2;cases w1 with
  |list ho hall=>exact⟨_,_,ns,rfl,rfl,ho,rQ ns _ hall,ρ⟩
theorem HS (l:OpenLaw)(args:List WData):l.row.toRowW.claim.post args (.bool true) args=true:=
 postW_of (r:=l.row.toRowW) (X:=(true==true))
  (show WShape.has [] (.bool true) .bool=true by first|rfl|decide|simp[WShape.has,WShape.arms,WShape.armsAll])
  (show(WTm.eq .res<|.lit<|.bool true).value [] { args:=args,res:=some<|.bool true,after:=args }=some (.bool<|true==true) from w_eq_bool (w_res rfl) w_lit) rfl
theorem yL {l:OpenLaw}{d:DefRec}
  (hn:l.most=some n) (hdf:d.params.defaults=[])
  (call:∀(w:cw) (s₀ s₁:aT) (mg mb:Zs) (fa:Addr) (o:Obj) (pm cd doc:a7) (a:Addr) (vs:List a7) (ns:List Int),
   Ground q loose [] XP w s₀ mg mb s₁.heap->YP w s₁.heap->
   s₁.heap.get? fa=some o->o.data=.func (docDef d.name d.params d.body d.scope pm cd doc)->s₁.heap.CodeRec cd d.name->mg d.name=some (.ref fa)->
   s₁.heap.get? a=some { cls:=.type "list",data:=.seq vs.toArray }->IntsAre vs ns->ns.length<=n->s₁.gens=#[]->
   pk (cq l.prog w) vt (.call (.ref fa) ⟨[.ref a],[]⟩) (λr s'=>r=.ok (.ret<|.bool true)/\OldK s₁.heap s'.heap/\s'.os=s₁.os/\pj s'.gens) s₁):
  WalkO q loose XP YP l.row.toRowW d [] (λf vs=>xt f vs):=by
 intro w s₀ s₁ mg mb G Y fa o pm cd doc dV kV ho hd hcd hD hmg hg args vals as hpre hlay hrd hwl hlo;obtain rfl:dV=.none:=Dflts.none hD hdf;obtain rfl:kV=.none:=Dflts.noKw hD;obtain⟨a,vs,ns,rfl,rfl,hobj,hints,ρ⟩:=Ha hn hpre hwl;refine enter_call<|kN (call w s₀ s₁ mg mb fa o pm cd doc a vs ns G Y ho (fd_plain hd) hcd hmg hobj hints ρ hg) λr s' hq=>?_;obtain⟨rfl,h2,h3,h4⟩:=hq;exact⟨.inl ⟨.bool true,.bool true,[],rfl,λ_=>rfl,.bool true,HS l _,λ_=>⟨List.Pairwise.nil,λ_ hm=>(nomatch hm)⟩⟩,h2,h3,h4⟩
section
variable {prog:bg}{w:cw}{A:eB}{E:Zv}{s:aT}{K:Frag}
end
end Att
namespace L2
open PySem PySem.Spec PyProof.Rows
theorem wJ:∀{vs:List a7} {ns:List Int},IntsAre vs ns->Vals (ns.map V.int) vs
 |_,_,.nil=>.nil
 |_,_,.cons n t h=>.cons ⟨t,rfl⟩<|wJ h
def Only (H:Hp):Prop:=∀b,H b=none\/∃o xs,H b=some (.frz o<|.lst xs)
theorem Km {K:av}{s₁:aT}{vs:List a7}{ns:List Int}
  (KX:K.In s₁.heap) (hns:s₁.heap.Ns bo mg) (hb:s₁.heap.Ns builtinsNs mb) (hbb:∀x:Str,x≠"__name__"->mb x=cf x) (hlim:s₁.heap.NoLimit) (hg:s₁.gens=#[])
  (ha:s₁.heap.get? a=some { cls:=.type "list",data:=.seq vs.toArray }) (hi:IntsAre vs ns) (hl:ns.length<=be) (hr:fD k vt)
  (F:∀base:Heap,K.In base->base.Ns bo mg->bR P w K mg base CX k fa fd [x] sp) (hbind:∀(s:aT) (u:a7),xc s fd ⟨[u],[]⟩ [(x,u)])
  (hsp:∀H:Hp,Only H->SqL K H a (ns.map V.int)->sp [.ref a] H (λv _=>v=.bl true) λ_ _ _=>False)
  (hCX:∀H e s',CX [] H s₁ (λ_ _ _=>False) e s'->False):
  pk (cq P w) vt (.call (.ref fa) ⟨[.ref a],[]⟩) (λr s'=>r=.ok (.ret<|.bool true)/\OldK s₁.heap s'.heap/\s'.os=s₁.os/\pj s'.gens) s₁:=by
 have rv:=wJ hi;have lenV:=hi.length;have core:∀H:Hp,Only H->SqL K H a (ns.map V.int)->HOk P w H s₁.heap->(∀b,H b≠none->b=a)->(H a≠none->K.lookup a=none)->
   pk (cq P w) vt (.call (.ref fa) ⟨[.ref a],[]⟩) (λr s'=>r=.ok (.ret<|.bool true)/\OldK s₁.heap s'.heap/\s'.os=s₁.os/\pj s'.gens) s₁:=by
  intro H hO hS hok hA hK;have base_of:∀{b:Addr} {o:Obj},s₁.heap.get? b=some o->H b=none->(yF s₁.heap H).get? b=some o:=λe n=>Lq e n;have noA:∀{b:Addr} {o:Obj} {es:Array DictEntry} {ep:Nat},s₁.heap.get? b=some o->o.data=.dict es ep->H b=none:=λ{b o es ep} e d=>by
   cases q:H b with
   |none=>rfl
   |some u=>
    have e':b=a:=hA b (by rw[q];simp);subst e';rw[ha] at e;cases e;have d':Data.seq vs.toArray _=Data.dict es ep:=d;cases d'
  have nsK:∀{b:Addr} {m:Zs},s₁.heap.Ns b m->(yF s₁.heap H).Ns b m:=λ{b m} ⟨o,es,ep,e,d,r⟩=>⟨o,es,ep,base_of e<|noA e d,d,r⟩;have hKb:K.In (yF s₁.heap H):=λb o e=>base_of (KX b o e) (by
   cases q:H b with
   |none=>rfl
   |some u=>
    have e':b=a:=hA b (by rw[q];simp);subst e';rw[hK (by rw[q];simp)] at e;cases e)
  have hM:Mod K mg (yF s₁.heap H):=⟨hKb,nsK hns,⟨mb,nsK hb,hbb⟩,let⟨mc,h1,h2⟩:=hlim;⟨mc,nsK h1,h2⟩⟩;have e0:Bk P w K mg (yF s₁.heap H) vt [] s₁ H:=⟨rfl,hM,λb o e=>PJ e,Nat.le_of_eq<|HQ _ _,trivial,λb hb=>absurd (show b∈([]:List Addr) from hb) (by simp),hok,.of_eq hg⟩;refine kN ((F _ hKb<|nsK hns).run vt [] s₁ H ⟨[.ref a],[]⟩ [.ref a] [.ref a] _ _ hr e0 (hbind s₁<|.ref a) (.cons rfl .nil)<|hsp H hO hS) λr s' h=>?_;cases r with
  |error e=>exact(hCX H e s' h).elim
  |ok fl=>
   cases fl with
   |next=>exact fS h
   |brk=>exact fS h
   |cont=>exact fS h
   |ret u=>
    refine Rw h λv H' os bare un hok' r' q=>?_;have q':v=.bl true:=q;subst q';obtain rfl:u=sk true:=r';refine⟨rfl,OldK.of_keep λb o e=>?_,os,bare⟩;cases q:H b with
    |none=>exact un.keep b o e q (by intro z;exact absurd (show b∈([]:List Addr) from z) (by simp)) (by simp)
    |some u=>
     rcases hO b with z|⟨ob,xs,z⟩
     ·rw[q] at z;cases z
     ·have z2:=un.frzs b ob _ z;obtain⟨e1,_⟩:=hok b _ z;obtain⟨e2,_⟩:=hok' b _ z2;rw[e] at e1;cases e1;exact e2
 cases hk:K.lookup a with
 |some o=>
  have e:=KX a o hk;rw[ha] at e;cases e;refine core (λ_=>none) (λ_=>.inl rfl) (.inr ⟨_,vs.toArray,_,hk,rfl,rfl,rfl,by rw[bp,lenV];exact hl,by simpa using rv⟩) (λb u z=>by have z':(none:Option HO)=some u:=z;cases z') (λb z=>absurd rfl z) λz=>absurd rfl z
 |none=>
  refine core (λb=>if b=a then some (.frz { cls:=.type "list",data:=.seq vs.toArray }<|.lst<|ns.map V.int) else none) (λb=>?_) (.inl<|.inr ⟨{ cls:=.type "list",data:=.seq vs.toArray },if_pos rfl⟩) (λb u z=>?_) (λb z=>?_) λ_=>hk
  ·by_cases hb:b=a
   ·exact .inr ⟨_,_,if_pos hb⟩
   ·exact .inl<|if_neg hb
  ·by_cases hb:b=a
   ·have z':=(if_pos hb).symm.trans z;cases z';subst hb;exact⟨ha,by rw[fA];exact hl,vs,_,rv,ha⟩
   ·have z':=(if_neg hb).symm.trans z;cases z'
  ·by_cases hb:b=a
   ·exact hb
   ·exact absurd (if_neg hb) z
theorem Ny {l:W.OpenLaw}{n k:Nat}{q:bg}{loose:List Str}{XP:(Zs)->Heap->Prop}{YP:cw->Heap->Prop}{d:DefRec}{K:Params->av}{CX:cw->CXT}{sp:cw->Sp}{x:Str}
  (hn:l.most=some n) (hn2:n<=be) (hdf:d.params.defaults=[]) (hr:fD k vt)
  (hY:∀(w:cw) (h:Heap),YP w h->(K w.params).In h)
  (F:∀(w:cw) (mg:Zs) (fa:Addr) (h:Heap),(K w.params).In h->h.Ns bo mg->mg d.name=some (.ref fa)->
   ∃fd:dQ,(∀(s:aT) (u:a7),xc s fd ⟨[u],[]⟩ [(x,u)])/\
    ∀base:Heap,(K w.params).In base->base.Ns bo mg->bR l.prog w (K w.params) mg base (CX w) k fa fd [x] (sp w))
  (hsp:∀(w:cw) (H:Hp) (a:Addr) (ns:List Int),ns.length<=n->Only H->SqL (K w.params) H a (ns.map V.int)->sp w [.ref a] H (λv _=>v=.bl true) λ_ _ _=>False)
  (hCX:∀(w:cw) (H:Hp) (s:aT) (e:a7) (s':aT),CX w [] H s (λ_ _ _=>False) e s'->False):
  W.WalkO q loose XP YP l.row.toRowW d [] (λf vs=>xt f vs):=by
 refine Att.yL hn hdf λw s₀ s₁ mg mb fa o pm cd doc a vs ns G Y ho hd hcd hmg hobj hints ρ hg=>?_;have KX:=hY w _ Y;obtain⟨fd,hb,hF⟩:=F w mg fa _ KX G.T.g hmg;exact Km KX G.T.g G.T.b G.T.builtins G.T.nolimit hg hobj hints (cm ρ hn2) hr hF hb (λH hO hS=>hsp w H a ns ρ hO hS) λH e s'=>hCX w H s₁ e s'
noncomputable def iH (s:Stmt):Arguments:=match s with
 | .FunctionDef _ a _ _ _ _ _ _ _ _=>a
 |_=>{ posonlyargs:=[],args:=[],vararg:=none,kwonlyargs:=[],kw_defaults:=[],kwarg:=none,defaults:=[] }
def fj (s:Stmt):List Stmt:=match s with
 | .FunctionDef _ _ b _ _ _ _ _ _ _=>b
 |_=>[]
noncomputable def aL (s:Stmt):oB:=match s with
 | .FunctionDef _ _ _ _ _ _ sc _ _ _=>sc
 |_=>{ kind:=.function,names:=[],isGenerator:=false,isCoroutine:=false }
abbrev E0:XK:=λ_ _ _=>False
structure Fun (K:av)(x qual:Str)(st:Stmt)(f:Addr)(fd:dQ):Prop where
 ex:∃(oc:a7) (od:Option Addr) (kV doc pm:a7) (an:Option Addr) (cdv ct:a7) (osl:Array (Option a7)),
  fd=ri x qual (iH st) (fj st) (aL st) .none kV doc pm an cdv ct/\K.lookup f=some ⟨oc,od,.func fd,osl⟩/\wt K cdv qual=true
 kp:kX K (.ref f)=true
section
variable {P:bg}{w:cw}{K:av}{mg:Zs}{base:Heap}
theorem Fun.binds {x qual:Str}{st:Stmt}{f:Addr}{fd:dQ}{ps:List Str}(F:Fun K x qual st f fd)
  (h:∀(kV doc pm:a7) (an:Option Addr) (cdv ct:a7) (us:List a7),us.length=ps.length->wq (ri x qual (iH st) (fj st) (aL st) .none kV doc pm an cdv ct) ⟨us,[]⟩=pure (ps.zip us)):Binds K fd ps []:=by
 obtain⟨oc,od,kV,doc,pm,an,cdv,ct,osl,rfl,lk,hcd⟩:=F.ex;exact .all<|h kV doc pm an cdv ct
theorem JM {x qual:Str}{st:Stmt}{f:Addr}{oc:a7}{od an:Option Addr}{osl:Array (Option a7)}{kV doc pm cdv ct:a7}(l:K.lookup f=some ⟨oc,od,.func<|ri x qual (iH st) (fj st) (aL st) .none kV doc pm an cdv ct,osl⟩)
  (c:wt K cdv qual=true) (k:kX K (.ref f)=true):Fun K x qual st f (ri x qual (iH st) (fj st) (aL st) .none kV doc pm an cdv ct):=⟨⟨oc,od,kV,doc,pm,an,cdv,ct,osl,rfl,l,c⟩,k⟩
end
section
end
def aD (H H':Hp):Prop:=∀b o,H b=some o->H' b=some o
theorem aD.refl (H:Hp):aD H H:=λ_ _ h=>h
theorem aD.trans (a:aD H H1)(b:aD H1 H2):aD H H2:=λc o h=>b c o<|a c o h
theorem aD.free (e:aD H H'){l:Addr}(h:H' l=Option.none):H l=Option.none:=by
 cases q:H l with
 |none=>rfl
 |some o=>
  rw[e l o q] at h;cases h
end L2
set_option maxHeartbeats 4000000
namespace Hd
open PySem PySem.Spec PyProof.Rows L2
abbrev St:=L2.St
theorem Ce (h:n<2^k)(hk:0<k):n.log2<k:=by
 by_cases z:n=0
 ·rw[z];exact hk
 ·exact(Nat.log2_lt z).mpr h
@[irreducible] def lmM:Nat:=2^60000
@[irreducible] def lmD:Nat:=2^8900
theorem Mr:lmM=2^60000:=by unfold lmM;rfl
theorem Bd:lmD=2^8900:=by unfold lmD;rfl
theorem bits_le (h:i.natAbs<lmM):hV i<=60000:=by
 unfold hV;split
 ·exact fF _
 ·rw[Mr] at h;exact Ce (k:=60000) h<|by decide
def Vg (_ j:Int):Prop:=j≠0/\j.natAbs<lmD
def M3 (i j:Int):Prop:=i.natAbs<lmM/\j.natAbs<lmM
theorem M3.ok (h:M3 i j):IntMulOk i j:=by
 have h1:=bits_le h.1;have h2:=bits_le h.2;have hb:bitsLine=134217728:=rfl;have z:rl (hV i+hV j)=false:=by
  unfold rl;refine decide_eq_false ?_
  lia
 unfold IntMulOk;rw[z]
 simp
section
theorem Pq {i:Int}(h:i.natAbs<2^62):hV i<=64:=by
 unfold hV;split
 ·exact fF _
 ·have:=Ce h (by decide)
  omega
theorem Qc:OpR X (gp .Mult) (rI (λ_ j=>j.natAbs<2^62) λi j=>.int<|i*j):=opI λ_ _ _ _ _ _ _ hc q=>mul_int q<|IntMulOk.of_right<|Pq hc
theorem KJ:OpR X (gp .FloorDiv) (rI Vg λi j=>.int<|i.fdiv j):=
 opI λ_ _ _ _ _ _ _ hc q=>floordiv_int hc.1 q<|.inl<|PyProof.noPylong_of_log2<|aS (Ce (k:=8900) (Bd▸hc.2)<|by decide)<|by decide
theorem Oq:OpR X (gp .Mult) (rI M3 λi j=>.int<|i*j):=opI λ_ _ _ _ _ _ _ hc q=>mul_int q hc.ok
end
mutual
inductive DV (K:av)(H:Hp):V->qo->Prop where
 |non:DV K H .non .none
 |bl (b:Bool):DV K H (.bl b) (.bool b)
 |int (i:Int):DV K H (.int i) (.int i)
 |str (x:Str):DV K H (.str x) (.str x)
 |tup {a:Addr} {xs:List V} {ds:List qo}:SqT K H a xs->DVs K H xs ds->DV K H (.ref a) (.tuple ds)
 |lst {a:Addr} {xs:List V} {ds:List qo}:SqL K H a xs->DVs K H xs ds->DV K H (.ref a) (.list ds)
inductive DVs (K:av)(H:Hp):List V->List qo->Prop where
 |nil:DVs K H [] []
 |cons {v:V} {vs:List V} {d:qo} {ds:List qo}:DV K H v d->DVs K H vs ds->DVs K H (v::vs) (d::ds)
end
section
mutual
theorem DV.reads (I:Inv X π σ H s):∀{v:V} {d:qo} {u:a7},DV X.K H v d->RelV v u->∃as,Reads s.heap u d as
 |_,_,u,.non,r=>by cases(show u=gE from r);exact⟨_,.none⟩
 |_,_,u,.bl b,r=>by cases(show u=sk b from r);exact⟨_,.bool b⟩
 |_,_,u,.int i,r=>by obtain⟨t,e⟩:=(show ∃t,u=tw i t from r);subst e;exact⟨_,.int i t⟩
 |_,_,u,.str x,r=>by obtain⟨t,e⟩:=(show ∃t,u=kR x t from r);subst e;exact⟨_,.str x t⟩
 |_,_,u,.tup (a:=a) h hs,r=>by
  cases(show u=cS a from r);obtain⟨its,rv,⟨o,ho,hc,n,hd⟩,_⟩:=I.tuple h;obtain⟨as,ra⟩:=DVs.reads I hs rv;exact⟨as,.tuple ho hc hd<|by simpa using ra⟩
 |_,_,u,.lst (a:=a) h hs,r=>by
  cases(show u=cS a from r);obtain⟨its,rv,⟨o,n,ho,hc,_,hd⟩,_⟩:=I.list h;obtain⟨as,ra⟩:=DVs.reads I hs rv;exact⟨a::as,.list ho hc hd<|by simpa using ra⟩
theorem DVs.reads (I:Inv X π σ H s):∀{vs:List V} {ds:List qo} {us:List a7},DVs X.K H vs ds->Vals vs us->∃as,ReadsAll s.heap us ds as
 |_,_,_,.nil,.nil=>⟨[],.nil⟩
 |_,_,_,.cons h hs,.cons r rs=>by
  obtain⟨as,ra⟩:=DV.reads I h r;obtain⟨bs,rb⟩:=DVs.reads I hs rs;exact⟨as++bs,.cons ra rb⟩
end
end
section
def WX (K:av):R2:=λx y H Q=>∃d e,DV K H x d/\DV K H y e/\ku d=true/\ku e=true/\Q (.bl<|xw d e) H
def Xb (K:av):R2:=λx y H Q=>∃d e,DV K H x d/\DV K H y e/\ku d=true/\ku e=true/\Q (.bl<|!PyData.eqv d e) H
theorem Tv (hu:X.A.units+64<w4):OpR X (dk .Eq) (WX X.K):=by
 intro π s σ H x y v u Q I rx ry h;refine uD h λd e hd he sd se q=>?_;obtain⟨as,ra⟩:=hd.reads I rx;obtain⟨bs,rb⟩:=he.reads I ry;exact eq_dataH ra rb sd se hu<|bU I q rfl
theorem Tt (hu:X.A.units+64<w4):OpR X (dk .NotEq) (Xb X.K):=by
 intro π s σ H x y v u Q I rx ry h;refine uD h λd e hd he sd se q=>?_;obtain⟨as,ra⟩:=hd.reads I rx;obtain⟨bs,rb⟩:=he.reads I ry;exact ne_dataH ra rb sd se hu<|bU I q rfl
end
section
noncomputable def O9:V->Option a7
 | .ty n=>some<|.type n
 | .ref a=>some<|.ref a
 |_=>none
theorem zT (e:O9 c=some cv)(r:RelV c u):u=cv:=by
 cases c with
 |ty n=>cases e;exact r
 |ref a=>cases e;exact r
 |_=>cases e
end
section
end
def Tr (B:Heap)(e:Addr)(o:Obj)(us:Array a7)(fl:a7)(h:Heap):Prop:=
 1<us.size/\∃T q ts,h.get? e=some { o with data:=.fields (us.setIfInBounds 1<|.ref T) }/\B.get? T=none/\T≠e/\h.get? T=some q/\q.data=.fields ts/\ts[3]? = some fl
def Fy (B:Heap)(l:List Env)(e:Addr)(o:Obj)(us:Array a7)(fl:a7)(h:Heap):Prop:=B.StaysIn h/\B.get? e=none/\h.FunFrames B l/\Tr B e o us fl h
section
variable {M:Model}{A:eB}{E:Zv}{s:aT}{B:Heap}{env:Env}{l:List Env}{L e:Addr}{o:Obj}{us vs:Array a7}{Q:Unit->aT->Prop}{fl:a7}
theorem MT {head:a7}{nx:Bool}(hA:A.frames=some (env::l))(hf:env.frame=some L)(hl:s.heap.FunFrames B (env::l))(he:s.heap.get? e=some { o with data:=.fields us })(hz:1<us.size)(kb:B.StaysIn s.heap)(hn:B.get? e=none)
  (q:∀h',Fy B (env::l) e o us (rawInt L) h'->s.heap.UpToSlots h'->Q () { s with heap:=h' }):
  cn M A (do let a←frameOf env;let pl←entryPlaceOf L nx;let b←tm head a .none (rawInt L) .none pl;setField (.ref e) 1 b) Q E s:=by
 have ne:e∉(env::l).filterMap (·.frame):=λz=>by
  obtain⟨_,x,hx,nf⟩:=hl.mem z;rw[he] at hx;cases hx;exact nf us rfl
 refine ay<|wpAny_frameOf_fun hA hl hf λh1 k1=>ay<|wpAny_entryPlaceOf λpl hp=>?_;unfold tm newFields;refine ay<|ky ?_<|hp.sizeOk5 _ _ _ _ _;have e1:=(k1.2.1 e ne).trans he;have b1:B.StaysIn h1:=λb x hb=>(k1.2.1 b λz=>by rw[(hl.mem z).1] at hb;cases hb).trans (kb b x hb);refine sR (ah _ e1) rfl hz<|q _ ?_ ?_
 all_goals
  have te:h1.objs.size≠e:=qS<|bq e1
 ·refine⟨λb x hb=>?_,hn,hl.of_keeps λb x hb nf=>?_,hz,h1.objs.size,_,_,rp _ (ah _ e1) rfl,b1.fresh,te,(eP _ _ te.symm).trans<|b0 h1 rfl,rfl,?_⟩
  ·exact(eP _ _ λz=>by rw[z,hb] at hn;cases hn).trans (ah _<|b1 b x hb)
  ·obtain⟨sl,z⟩:=k1.2.2 b x hb;exact⟨_,(eP _ _ λw=>by rw[← w,he] at hb;cases hb;exact nf us rfl).trans (ah _ z),rfl⟩
  ·rcases hp with rfl|⟨_,_,_,_,_,_,_,rfl⟩<;>simp
 ·intro b x hb nf;obtain⟨sl,z⟩:=k1.2.2 b x hb;exact⟨sl,(eP _ _ λw=>by rw[← w,he] at hb;cases hb;exact nf us rfl).trans (ah _ z)⟩
theorem Xx {a b:a7}:(us.setIfInBounds 1 a).setIfInBounds 1 b=us.setIfInBounds 1 b:=by simp
theorem Ky {x:a7}(g:Fy B l e o us fl s.heap):∀T q ts,s.heap.get? T=some q->q.data=.fields ts->ts[3]? = some fl->B.get? T=none->T≠e->s.heap.get? e=some { o with data:=.fields (us.setIfInBounds 1<|.ref T) }->
  Fy B l e o us x (s.heap.update T<|px (·.setIfInBounds 3 x))/\s.heap.UpToSlots (s.heap.update T<|px (·.setIfInBounds 3 x)):=by
 intro T q ts hT hd h3 hb ne he;have ot:∀b,b≠T->(s.heap.update T<|px (·.setIfInBounds 3 x)).get? b=s.heap.get? b:=λb z=>eP _ _ z.symm;have nr:∀b y,s.heap.get? b=some y->(∀vs,y.data≠.fields vs)->b≠T:=λb y z nf w=>by rw[w,hT] at z;cases z;exact nf ts hd
 obtain⟨g1,g2,g3,gz,_⟩:=g;refine⟨⟨λb y z=>(ot b λw=>by rw[w,hb] at z;cases z).trans (g1 b y z),g2,g3.of_keeps λb y z nf=>⟨y,(ot b<|nr b y z nf).trans z,rfl⟩,gz,T,_,_,(ot e ne.symm).trans he,hb,ne,rp _ hT<|Obj.isFreed_of_fields<|Obj.data_mapFields hd _,Obj.data_mapFields hd _,?_⟩,λb y z nf=>⟨y.slots,(ot b<|nr b y z nf).trans z⟩⟩
 have:=(h9.mp h3).1
 simp[this]
theorem tL (g:Fy B l e o us fl s.heap)(q:∀h',Fy B l e o us .none h'->s.heap.UpToSlots h'->Q () { s with heap:=h' }):cn M A (setFlight (.ref e) none) Q E s:=by
 obtain⟨_,_,_,z,T,y,ts,he,hb,ne,hT,hd,h3⟩:=id g;unfold setFlight;refine ay<|l0 he rfl (x:=.ref T) (by simp[z]) ?_;rw[if_pos<|show(cS T != gE)=true from by simp]
 have:=Ky (x:=.none) g T y ts hT hd h3 hb ne he
 exact sR hT hd (h9.mp h3).1<|q _ this.1 this.2
theorem Ez (hA:A.frames=some (env::l))(hf:env.frame=some L)(g:Fy B (env::l) e o us .none s.heap)(q:∀h',Fy B (env::l) e o us (rawInt L) h'->s.heap.UpToSlots h'->Q () { s with heap:=h' }):cn M A (noteFrame (.ref e) env) Q E s:=by
 obtain⟨_,_,_,z,T,y,ts,he,hb,ne,hT,hd,h3⟩:=id g;unfold noteFrame;simp only[hf];refine ay<|l0 he rfl (x:=.ref T) (by simp[z]) ?_;rw[if_pos<|show(cS T != gE)=true from by simp];refine ay<|l0 hT hd h3 ?_;rw[if_neg<|show ¬((gE==rawInt L)=true) from by simp[rawInt]];obtain⟨g',u'⟩:=Ky (x:=.none) g T y ts hT hd h3 hb ne he;refine ay<|sR hT hd (h9.mp h3).1 ?_;have he':=(eP s.heap (px (·.setIfInBounds 3 gE)) ne).trans he;refine MT (us:=us.setIfInBounds 1<|.ref T) hA hf g'.2.2.1 he' (by simpa using z) g'.1 g.2.1 λh2 g2 u2=>q h2 ?_<|u'.trans u2;obtain⟨a,b,c,z',T',r⟩:=g2;rw[Xx] at r;exact⟨a,b,c,z,T',r⟩
theorem Fy.tail (g:Fy B (env::l) e o us fl h):Fy B l e o us fl h:=let⟨a,b,⟨_,_,c⟩,d⟩:=g;⟨a,b,c,d⟩
theorem Ie (hA:A.frames=some (env::l))(hf:env.frame=some L)(g:Fy B (env::l) e o us .none s.heap)(q:∀h',Fy B l e o us .none h'->s.heap.UpToSlots h'->Q () { s with heap:=h' }):cn M A (leaving env<|.ref e) Q E s:=by
 unfold leaving;exact ay<|Ez hA hf g λh1 g1 u1=>tL g1 λh2 g2 u2=>q h2 g2.tail<|u1.trans u2
theorem K3 (hA:A.frames=some (env::l))(hf:env.frame=some L)(hl:s.heap.FunFrames B (env::l))(he:s.heap.get? e=some { o with data:=.fields us })(h1:us[1]? = some .none)(kb:B.StaysIn s.heap)(hn:B.get? e=none)
  (q:∀h',Fy B l e o us .none h'->s.heap.UpToSlots h'->Q () { s with heap:=h' }):cn M A (leaving env<|.ref e) Q E s:=by
 unfold leaving noteFrame;simp only[hf];refine ay<|ay<|l0 he rfl h1 ?_;rw[if_neg<|by decide];exact MT hA hf hl he (h9.mp h1).1 kb hn λh2 g2 u2=>tL g2 λh3 g3 u3=>q h3 g3.tail<|u2.trans u3
end
theorem cY.at' {P:bg}{w:cw}{H:Hp}{h:Heap}{a:Addr}{o:HO}(x:cY P w H h a o):∃u,h.get? a=some u:=by
 cases o with
 |lst xs=>obtain⟨_,_,_,_,e⟩:=x;exact⟨_,e⟩
 |tup xs=>obtain⟨_,_,_,o,e,_⟩:=x;exact⟨_,e⟩
 |dK ι=>obtain⟨_,_,_,_,o,_,_,e,_⟩:=x;exact⟨_,e⟩
 |dT ι=>obtain⟨_,_,_,_,o,_,_,e,_⟩:=x;exact⟨_,e⟩
 |set S n=>obtain⟨o,_,_,_,e,_⟩:=x;exact⟨_,e⟩
 |ins C dx fs=>obtain⟨_,_,_,e,_⟩:=x;exact⟨_,e⟩
 |own y=>exact x
 |xd fs=>obtain⟨_,⟨_,_,_,e,_⟩,_⟩:=x;exact⟨_,e⟩
 |rng lo hi=>obtain⟨_,_,_,e⟩:=x;exact⟨_,e⟩
 |frz ob u=>obtain⟨e,_⟩:=x;exact⟨_,e⟩
 |tbl ps=>exact⟨_,(show h.get? a=some _ from x)⟩
 |met f y=>exact⟨_,(show h.get? a=some _ from x)⟩
 |ext φ=>obtain⟨_,e,_⟩:=x;exact e
structure Fly (P:bg)(w:cw)(outer:List Env)(H:Hp)(s:aT)(e:a7)(s':aT)(ea:Addr)(ob:Obj)(us:Array a7)(B:Heap)(H':Hp):Prop where
 is:e=.ref ea
 os:s'.os=s.os
 bare:pj s'.gens
 fly:Fy B outer ea ob us .none s'.heap
 ctx:us[2]? = some .none
 keep:∀b o,s.heap.get? b=some o->H b=none->b∉frs outer->B.get? b=some o
 slot:∀b o,s.heap.get? b=some o->b∈frs outer->∃sl,s'.heap.get? b=some { o with slots:=sl }
 free:∀b o,s.heap.get? b=some o->H b=none->H' b=none
 there:∀b o,s.heap.get? b=some o->b∉frs outer->∃o',B.get? b=some o'
 tups:∀b xs,H b=some (.tup xs)->H' b=some (.tup xs)
 frzs:∀b o u,H b=some (.frz o u)->H' b=some (.frz o u)
 tbls:∀b ps,H b=some (.tbl ps)->∃more,H' b=some (.tbl (ps++more))
 hok:HOk P w H' B
 new:s.heap.get? ea=none
 nin:H' ea=none
def CX1 (P:bg)(w:cw):CXT:=λouter H s E e s'=>∃ea ob us B H',Fly P w outer H s e s' ea ob us B H'/\E ob.cls ob.dict H'
theorem zf {env:Env}{l:List Env}{L b:Addr}(hf:env.frame=some L)(h:b∈frs (env::l)):b=L\/b∈frs l:=by
 unfold frs at h;rw[kK,hf] at h;rcases ag.mp h with z|z
 ·exact .inl z
 ·exact .inr z
theorem Lx {env:Env}{l:List Env}{b:Addr}(h:b∈frs l):b∈frs (env::l):=by
 unfold frs at h ⊢;obtain⟨e,he,hf⟩:=jI.mp h;exact jI.mpr ⟨e,ax _ he,hf⟩
section
variable {P:bg}{w:cw}{K:av}{mg:Zs}{base:Heap}{N:List Str}{qual:Str}{scope:oB}{f:Addr}{cd:a7}{A:eB}{outer:List Env}{s:aT}{H:Hp}{E:XK}
theorem Hh {π:Zo}{σ:St}{H1:Hp}{s1:aT}{h':Heap}{ea:Addr}{ob:Obj}{us:Array a7}
  (I:Inv (jR (CX1 P w) P w K mg base N qual scope f cd A outer s H E) π σ H1 s1) (kp:∀b o,s1.heap.get? b=some o->h'.get? b=some o) (new:s1.heap.get? ea=none) (he:h'.get? ea=some { ob with data:=.fields us }) (u1:us[1]? = some .none) (u2:us[2]? = some .none) (hw:E ob.cls ob.dict H1):
  (jR (CX1 P w) P w K mg base N qual scope f cd A outer s H E).xe (.ref ea) { s1 with heap:=h' }:=by
 have hin:∀env∈(jR (CX1 P w) P w K mg base N qual scope f cd A outer s H E).stack,∀b,env.frame=some b->b∈(jR (CX1 P w) P w K mg base N qual scope f cd A outer s H E).stack.filterMap (·.frame):=
  λenv he b hb=>jI.mpr ⟨env,he,hb⟩
 have nfr:∀b o,s.heap.get? b=some o->b∉frs outer->b∉(jR (CX1 P w) P w K mg base N qual scope f cd A outer s H E).stack.filterMap (·.frame):=λb o q nb hb=>by
  rcases zf (L:=s.heap.objs.size) rfl hb with z|z
  ·exact absurd (bq q) (by rw[z];exact fw _)
  ·exact nb z
 have nx:∀b:Addr,b∉(jR (CX1 P w) P w K mg base N qual scope f cd A outer s H E).ex:=λb z=>absurd (show b∈([]:List Addr) from z) (by simp);have nb:(xa s1.heap<|frs (jR (CX1 P w) P w K mg base N qual scope f cd A outer s H E).stack).get? ea=none:=by
  cases q:(xa s1.heap<|frs (jR (CX1 P w) P w K mg base N qual scope f cd A outer s H E).stack).get? ea with
  |none=>rfl
  |some o=>have:=vF _ q;rw[new] at this;cases this
 refine K3 (B:=xa s1.heap<|frs (jR (CX1 P w) P w K mg base N qual scope f cd A outer s H E).stack) (L:=s.heap.objs.size) (l:=outer) I.ok.frames rfl ((W.funFrames_hide I.stack hin).of_keeps λb o q _=>⟨o,kp b o q,rfl⟩) he u1 (λb o q=>kp b o<|vF _ q) nb λh2 x1 x4=>?_;refine⟨ea,ob,us,_,H1,⟨rfl,I.os,I.bare,x1,u2,λb o q n nb=>?_,λb o q hb=>?_,λb o q n=>I.base.free b o q n<|nx b,λb o q nb=>?_,I.base.tups,I.base.frzs,I.base.tbls,λb u e=>?_,?_,?_⟩,hw⟩
 ·exact pf _ (I.base.keep b o q n nb<|nx b)<|nfr b o q nb
 ·obtain⟨sl,e1⟩:=I.base.slot b o q (I.ok.frf b hb) hb<|nx b;obtain⟨_,o',ho',hnf⟩:=I.ok.oE.mem hb;have eo:o=o':=ck<|q.symm.trans ho';obtain⟨sl2,e2⟩:=x4 b _ (kp _ _ e1) λv z=>hnf v (by rw[← eo];exact z);exact⟨sl2,e2⟩
 ·obtain⟨o',e1⟩:=I.base.there b o q<|nx b;exact⟨o',pf _ e1<|nfr b o q nb⟩
 ·refine(I.hok b u e).stay (λc v hc q=>pf _ q λhm=>?_) (λ_ q=>q) λ_ _ q=>q;have z:=I.yo c hm;rcases hc with hc|hc
  ·rw[hc,e] at z;cases z
  ·rw[hc] at z;cases z
 ·cases q:s.heap.get? ea with
  |none=>rfl
  |some o=>
   obtain⟨o',e1⟩:=I.base.there ea o q<|nx ea;rw[new] at e1;cases e1
 ·cases q:H1 ea with
  |none=>rfl
  |some o=>
   obtain⟨o',e1⟩:=cY.at'<|I.hok ea o q;rw[new] at e1;cases e1
theorem iJ {π:Zo}{σ:St}{H1:Hp}{s1:aT}{h':Heap}{ea:Addr}{cls:a7}{vs:List a7}
  (I:Inv (jR (CX1 P w) P w K mg base N qual scope f cd A outer s H E) π σ H1 s1) (hx:l9 s1.heap h' ea cls vs) (hw:E cls none H1):
  (jR (CX1 P w) P w K mg base N qual scope f cd A outer s H E).xe (.ref ea) { s1 with heap:=h' }:=by
 obtain⟨t,he,_⟩:=hx.there;exact Hh (ob:={ cls:=cls }) I hx.keeps hx.new he rfl rfl hw
theorem aK:Passes (CX1 P w) (jR (CX1 P w) P w K mg base N qual scope f cd A outer s H E) E:=by
 intro π σ H1 s1 e s' I h;obtain⟨ea,ob,us,B,H',F,hw⟩:=h;obtain rfl:=F.is;have nfr:∀b o,s.heap.get? b=some o->b∉frs outer->b∉frs (jR (CX1 P w) P w K mg base N qual scope f cd A outer s H E).stack:=λb o q nb hb=>by
  rcases zf (L:=s.heap.objs.size) rfl hb with z|z
  ·exact absurd (bq q) (by rw[z];exact fw _)
  ·exact nb z
 have nx:∀b:Addr,b∉(jR (CX1 P w) P w K mg base N qual scope f cd A outer s H E).ex:=λb z=>absurd (show b∈([]:List Addr) from z) (by simp);refine Ie (B:=B) (l:=outer) (L:=s.heap.objs.size) I.ok.frames rfl F.fly λh2 x1 x2=>?_;refine⟨ea,ob,us,B,H',⟨rfl,F.os.trans I.os,F.bare,x1,F.ctx,λb o q n nb=>?_,λb o q hb=>?_,λb o q n=>?_,λb o q nb=>?_,λb xs q=>F.tups b xs<|I.base.tups b xs q,λb o u q=>F.frzs b o u<|I.base.frzs b o u q,λb ps q=>?_,F.hok,?_,F.nin⟩,hw⟩
 ·exact F.keep b o (I.base.keep b o q n nb<|nx b) (I.base.free b o q n<|nx b)<|nfr b o q nb
 ·obtain⟨sl,e1⟩:=I.base.slot b o q (I.ok.frf b hb) hb<|nx b;obtain⟨_,o',ho',hnf⟩:=I.ok.oE.mem hb;have eo:o=o':=ck<|q.symm.trans ho';obtain⟨sl1,e2⟩:=F.slot b _ e1<|Lx hb;obtain⟨sl2,e3⟩:=x2 b _ e2 λv z=>hnf v (by rw[← eo];exact z);exact⟨sl2,e3⟩
 ·obtain⟨o',e1⟩:=I.base.there b o q<|nx b;exact F.free b o' e1<|I.base.free b o q n<|nx b
 ·obtain⟨o',e1⟩:=I.base.there b o q<|nx b;exact F.there b o' e1<|nfr b o q nb
 ·obtain⟨m1,e1⟩:=I.base.tbls b ps q;obtain⟨m2,e2⟩:=F.tbls b _ e1;exact⟨m1++m2,by rw[e2,tP]⟩
 ·cases q:s.heap.get? ea with
  |none=>rfl
  |some o=>
   obtain⟨o',e1⟩:=I.base.there ea o q<|nx ea;rw[F.new] at e1;cases e1
end
theorem Ew {P:bg}{w:cw}{X:Cx}:Passes (CX1 P w) X E0:=λ_ _ _ _ _ _ _ ⟨_,_,_,_,_,_,z⟩=>z.elim
def oK (ea:Addr)(cls:a7)(h:Heap):Prop:=∃o,h.get? ea=some o/\o.cls=cls/\∃vs,o.data=.fields vs
section
variable {X:Cx}{π:Zo}{σ:St}{H H':Hp}{s s':aT}{e:a7}{ea:Addr}{ob:Obj}{us:Array a7}{B:Heap}
theorem Fly.inv (F:Fly X.prog X.w X.stack H s e s' ea ob us B H')(I:Inv X π σ H s){h2:Heap}{tk:Nat}(k1:B.StaysIn h2)(k2:s'.heap.UpToSlots h2):Inv X π σ H' { s' with heap:=h2,toks:=tk }:=by
 have nf:∀b∈frs X.stack,∀o,s.heap.get? b=some o->∀vs,o.data≠.fields vs:=λb hb o q=>by
  obtain⟨_,o',ho',hnf⟩:=I.stack.mem hb;have eo:o=o':=ck<|q.symm.trans ho';rw[eo];exact hnf
 refine I.call' (s':={ s' with heap:=h2,toks:=tk }) (ch:=[]) F.os ⟨λb o q n hb _=>k1 b o<|F.keep b o q n hb,λb o q n hb _=>?_,λb o q n _=>F.free b o q n,λb o q _=>?_,F.tups,F.frzs,F.tbls⟩ (F.hok.kept k1) F.bare (λb z=>nomatch z)
 ·obtain⟨sl,e1⟩:=F.slot b o q hb;obtain⟨sl2,e2⟩:=k2 b _ e1<|nf b hb o q;exact⟨sl2,e2⟩
 ·by_cases hb:b∈frs X.stack
  ·obtain⟨sl,e1⟩:=F.slot b o q hb;obtain⟨sl2,e2⟩:=k2 b _ e1<|nf b hb o q;exact⟨_,e2⟩
  ·obtain⟨o',e1⟩:=F.there b o q hb;exact⟨o',k1 b o' e1⟩
end
section
variable {X:Cx}{π:Zo}{σ:St}{H H':Hp}{s s':aT}{e:a7}{ea:Addr}{ob:Obj}{us:Array a7}{B:Heap}
theorem Fly.Xk (F:Fly X.prog X.w X.stack H s e s' ea ob us B H')(I:Inv X π σ H s){h2:Heap}{tk:Nat}{ox:Obj}(k1:B.StaysIn h2)(k2:s'.heap.UpToSlots h2)(kx:h2.get? ea=some ox)(kf:∃vs,ox.data=.fields vs):
  Inv X π σ (upd H' ea<|.frz ox<|.ext<|oK ea ox.cls) { s' with heap:=h2,toks:=tk }:=by
 have J:=F.inv I (tk:=tk) k1 k2;have nf:∀b∈frs X.stack,∀o,s.heap.get? b=some o->∀vs,o.data≠.fields vs:=λb hb o q=>by
  obtain⟨_,o',ho',hnf⟩:=I.stack.mem hb;have eo:o=o':=ck<|q.symm.trans ho';rw[eo];exact hnf
 have ne:∀b o,s.heap.get? b=some o->b≠ea:=λb o q z=>by rw[z,F.new] at q;cases q
 have ne':∀b u,H' b=some u->b≠ea:=λb u q z=>by rw[z,F.nin] at q;cases q
 refine I.call' (s':={ s' with heap:=h2,toks:=tk }) (ch:=[]) F.os ⟨λb o q n hb _=>k1 b o<|F.keep b o q n hb,λb o q n hb _=>?_,λb o q n _=>?_,λb o q _=>?_,λb xs q=>?_,λb o u q=>?_,λb ps q=>?_⟩ (λb u q=>?_) F.bare (λb z=>nomatch z)
 ·obtain⟨sl,e1⟩:=F.slot b o q hb;obtain⟨sl2,e2⟩:=k2 b _ e1<|nf b hb o q;exact⟨sl2,e2⟩
 ·rw[aC<|ne b o q];exact F.free b o q n
 ·by_cases hb:b∈frs X.stack
  ·obtain⟨sl,e1⟩:=F.slot b o q hb;obtain⟨sl2,e2⟩:=k2 b _ e1<|nf b hb o q;exact⟨_,e2⟩
  ·obtain⟨o',e1⟩:=F.there b o q hb;exact⟨o',k1 b o' e1⟩
 ·have z:=F.tups b xs q;rw[aC<|ne' b _ z];exact z
 ·have z:=F.frzs b o u q;rw[aC<|ne' b _ z];exact z
 ·obtain⟨m,z⟩:=F.tbls b ps q;exact⟨m,by rw[aC<|ne' b _ z];exact z⟩
 ·by_cases hb:b=ea
  ·subst hb;rw[az] at q;cases q;exact⟨kx,⟨ox,kx,rfl,kf⟩,⟨ox,kx⟩,λh1 h3 ⟨o1,ho1,r1⟩ k=>⟨o1,k o1 ho1,r1⟩⟩
  ·rw[aC hb] at q;refine(F.hok.kept k1 b u q).stay (λ_ _ _ z=>z) (λc z=>?_) λc xs z=>?_
   ·rw[aC<|ne' c _ z];exact z
   ·rw[aC<|ne' c _ z];exact z
theorem Ae {i:Nat}{n:Str}{h2:Heap}{tk:Nat}{m:Zs}{v:Option a7}(I:Inv X π σ H s)(hN:X.N.Nodup)(hi:X.N[i]? = some n)
  (hl:∀(j:Nat) (y:Str) (v:V),X.N[j]? = some y->σ[j]? = some (some v)->Vis X.env.scope y->∃u,RelV v u/\Look X.env s.heap m y u)
  (hn:h2.Ns X.env.locals (λy=>if y=n then v else m y)) (hs:ma X.env.locals s.heap h2):Inv X π (σ.set i none) H { s with heap:=h2,toks:=tk }:=by
 have hiσ:i<σ.length:=by rw[I.len];exact(eW.mp hi).1
 have neL:∀b o,X.s₀.heap.get? b=some o->b≠X.env.locals:=λb o q=>c8<|aS (bq q) I.ok.above;have neT:∀b u,H b=some u->b≠X.env.locals:=λb u q z=>by rw[z,I.free] at q;cases q
 refine⟨I.ok,I.os,I.bare,⟨λb o q n' hb hx=>?_,λb o q n' hb hx=>?_,I.base.free,λb o q hx=>?_,I.base.tups,I.base.frzs,I.base.tbls⟩,⟨_,hn,λj y w' e1 e2 e3=>?_⟩,λy c q=>?_,I.free,I.freeC,λp hp=>?_,λb u q=>?_,by simpa using I.len⟩
 ·exact(hs.2 b<|neL b o q).trans (I.base.keep b o q n' hb hx)
 ·obtain⟨sl,e1⟩:=I.base.slot b o q n' hb hx;exact⟨sl,(hs.2 b<|neL b o q).trans e1⟩
 ·obtain⟨o',e1⟩:=I.base.there b o q hx;exact⟨o',(hs.2 b<|neL b o q).trans e1⟩
 ·by_cases hj:j=i
  ·subst hj;rw[dy hiσ] at e2;cases e2
  ·rw[dA<|kL hj] at e2;obtain⟨u,r,l⟩:=hl j y w' e1 e2 e3;refine⟨u,r,?_⟩;rcases l with⟨k,z⟩|⟨k,c,z,z2⟩
   ·refine .inl ⟨k,?_⟩;have ny:y≠n:=λq=>hj<|tV hN e1<|q▸hi;show(if y=n then v else m y)=some u;rw[if_neg ny];exact z
   ·exact .inr ⟨k,c,z,z2.sameBut hs<|I.cne y c z⟩
 ·obtain⟨w',z⟩:=I.cell y c q;exact⟨w',z.sameBut hs<|I.cne y c q⟩
 ·obtain⟨e1,n1,ne1,nf1,d1⟩:=I.pin p hp;exact⟨(hs.2 p.1 ne1).trans e1,n1,ne1,nf1,d1⟩
 ·refine(I.hok b u q).stay (λc w' hc z=>(hs.2 c ?_).trans z) (λ_ z=>z) λ_ _ z=>z;rcases hc with hc|hc
  ·rw[hc];exact neT b u q
  ·exact neT c _ hc
def Xv (A:eB)(H:Hp):Prop:=∃x o u vs,A.handled=some (.ref x)/\H x=some (.frz o u)/\o.data=.fields vs/\vs[2]? = some .none
def inh (X:Cx)(ea:Addr):Cx:={ X with A:=X.A.mark<|some<|.ref ea,calm:=false,xe:=λ_ _=>False }
theorem Uk (ok:X.Ok)(ea:Addr):(inh X ea).Ok:=
 ⟨ok.mod,ok.kind,ok.glob,ok.blt,ok.above,ok.inj,ok.has,ok.cab,λz=>(by cases(show false=true from z)),ok.frames,ok.stk,ok.exf,ok.bs,ok.bsz,ok.noex,ok.exfs,ok.oE,ok.frf⟩
theorem Eo (I:Inv X π σ H s)(ea:Addr):Inv (inh X ea) π σ H s:=⟨Uk I.ok ea,I.os,I.bare,I.base,I.loc,I.cell,I.free,I.freeC,I.pin,I.hok,I.len⟩
theorem G6 (I:Inv (inh X ea) π σ H s)(ok:X.Ok):Inv X π σ H s:=⟨ok,I.os,I.bare,I.base,I.loc,I.cell,I.free,I.freeC,I.pin,I.hok,I.len⟩
end
def PEx (X:Cx)(e:Expr)(t:St->Hp->VK->XK->Prop):Prop:=
 ∀(π:Zo) (s:aT) (σ:St) (H:Hp) (Q:VK) (E:XK),Inv X π σ H s->t σ H Q E->
  cn (cq X.prog X.w) X.A (eval e X.env) (EP X π σ Q) (λx s'=>∃H1 s1,Inv X π σ H1 s1/\CX1 X.prog X.w X.stack H1 s1 E x s') s
def PSx (X:Cx)(sts:List Stmt)(t:Ends->(St->XK)->St->Hp->Prop):Prop:=
 ∀(π:Zo) (s:aT) (σ:St) (H:Hp) (D:Ends) (E:St->XK),Inv X π σ H s->t D E σ H->
  cn (cq X.prog X.w) X.A (execs sts X.env) (SP X π D) (λx s'=>∃σ1 H1 s1,Inv X π σ1 H1 s1/\CX1 X.prog X.w X.stack H1 s1 (E σ1) x s') s
section
variable {X:Cx}{k:Nat}{f:Addr}{fd:dQ}{ps:List Str}{sp:Sp}{x:Str}{p pos pos':Pos}{e:Expr}{es:List Expr}{t:TA}
theorem Qt (F:bR X.prog X.w X.K X.mg X.base (CX1 X.prog X.w) k f fd ps sp)(hr:fD k X.A)(hg:Gl X x)(hm:X.mg x=some (.ref f))(hk:kX X.K (.ref f)=true)(hb:Binds X.K fd ps [])
  (ha:PA X.nox (e::es) t) (hdb:(x==("__debug__":Str))=false:=by decide) (he:ar (e::es) X.env=(false,eval e X.env)::ar es X.env:=by rfl) (ζ:(hJ pos<|ar es X.env).any (·.1)=false:=by rfl):
  PEx X (.Call (.Name x p) (e::es) [] pos) (λσ H Q E=>t σ H λvs H1=>sp vs H1 Q E):=by
 intro π s σ H Q E I h;refine jS<|nZ I hg hm ?_ hdb;refine rg (h₀:=X.base) I.ok.mod.kin hk (gS (ha pos π s σ H _ (I.wish _) h) (λus s1 hE=>xq2 hE λvs H1 I1 r q=>⟨I1.xu.kIn,?_⟩) λ_ _ z=>fS z) he ζ;have I2:=I1.xu;have hl:(us++[]).length=ps.length:=by rw[eC,← r.length];exact F.len _ _ _ _ q
 have hbs:=hb s1 us I2.kIn hl;rw[eC] at hbs;refine vj<|kN (F.run X.A X.stack s1 H1 ⟨us,[]⟩ us vs Q E hr I2.env0 hbs r q) λr s' hq=>?_;cases r with
 |error e=>exact⟨H1,s1,I2,hq⟩
 |ok fl=>
  cases fl with
  |ret u=>exact I2.after hq
  |next=>exact fS hq
  |brk=>exact fS hq
  |cont=>exact fS hq
theorem T3 {st:Stmt}{t:Ends->(St->XK)->St->Hp->Prop}
  (h:∀(π:Zo) (s:aT) (σ:St) (H:Hp) (D:Ends) (E:St->XK),Inv X π σ H s->t D E σ H->
   cn (cq X.prog X.w) X.A (exec st X.env) (SP X π D) (λx s'=>∃σ1 H1 s1,Inv X π σ1 H1 s1/\CX1 X.prog X.w X.stack H1 s1 (E σ1) x s') s):PSx X [st] t:=by
 intro π s σ H D E I hq;refine qh<|thn (h π s σ H D E I hq) λfl s1 q=>?_;cases fl with
 |next=>exact ka q
 |ret v=>exact q
 |brk=>exact q
 |cont=>exact q
theorem NZ {te:St->Hp->VK->XK->Prop}(he:PEx X e te)(hs:ja e none pos.line X.env=pure false:=by rfl):PSx X [.Expr e pos] (λD E σ H=>te σ H (λ_ H1=>D.nx σ H1)<|E σ):=
 T3 λπ s σ H D E I h=>
  wpAny_Expr_any (gS (he π s σ H _ _ I h) (λ_ _ ⟨_,H1,I1,_,q1⟩=>⟨σ,H1,I1,q1⟩) λ_ _ ⟨H1,s1,J,c⟩=>⟨σ,H1,s1,J,c⟩) I.quiet hs
end
def Q3 (i:Nat)(D:Ends):Ends:={ nx:=λσ H=>D.nx (σ.set i none) H,rt:=D.rt,bk:=λσ H=>D.bk (σ.set i none) H,ct:=λσ H=>D.ct (σ.set i none) H }
def Xy (K:av)(DC:Addr)(i:Nat)(tb:Ends->(St->XK)->St->Hp->Prop)(ts:Addr->TS):TS:=λD σ H=>
 tb D (λσ1 cls od H'=>uS K cls (.ref DC)=some true/\∀ea ox,H' ea=none->ox.cls=cls->ox.dict=od->(∃vs,ox.data=.fields vs/\vs[2]? = some .none)->ts ea (Q3 i D) (σ1.set i<|some<|.ref ea) (upd H' ea<|.frz ox<|.ext<|oK ea cls)) σ H
theorem Tw {X:Cx}{body suite:List Stmt}{b₀:Stmt}{x n:Str}{np hpos pos:Pos}{i:Nat}{DC:Addr}{tb:Ends->(St->XK)->St->Hp->Prop}{ts:Addr->TS}
  (hst:X.stack=X.env::X.outer) (hfr:X.env.frame=some X.env.locals) (hb:PSx X body tb) (hN:X.N.Nodup) (hi:X.N[i]? = some n) (hn:X.env.scope.names.lookup n=some .local)
  (hg:Gl X x) (hm:X.mg x=some (.ref DC)) (hs:∀ea,PSs (inh X ea) (b₀::suite)<|ts ea) (hd:(x==("__debug__":Str))=false:=by decide):
  PS X (.Try body [.ExceptHandler (some<|.Name x np) (some n) (b₀::suite) hpos] [] [] pos) (Xy X.K DC i tb ts):=by
 intro π s σ H D I h;refine wpAny_Try_except<|gS (hb π s σ H D _ I h) (λfl s1 q=>?_) λx' s' ⟨σ1,H1,s1,J,c⟩=>?_
 ·cases fl with
  |next=>exact ka q
  |ret v=>exact q
  |brk=>exact q
  |cont=>exact q
 ·obtain⟨ea,ob,us,B,H',F,hx,hw⟩:=c;obtain rfl:=F.is;have hcls:(X.env.scope.kind==.class||(X.env.scope.kind==.module&&X.env.locals != X.env.globals))=false:=by rw[J.ok.kind];rfl
  have hfly:=F.fly;rw[hst] at hfly;have hA:=J.ok.frames;rw[hst] at hA;refine Ez hA hfr hfly λh4 g4 u4=>?_;refine tL g4 λh5 g5 u5=>?_;have J5:=F.inv J (tk:=s'.toks) g5.1<|u4.trans u5;have JI5:=Eo J5 ea;have x5:∀{hh:Heap},Fy B (X.env::X.outer) ea ob us .none hh->∃o,hh.get? ea=some o/\o.cls=ob.cls:=λ⟨_,_,_,_,_,_,_,q,_⟩=>⟨_,q,rfl⟩;refine wpAny_handleBy_cons (codeAny_handlers_test<|nZ (X:=inh X ea) JI5 hg hm ?_ hd) (by intro q;cases q);obtain⟨o5,e5,c5⟩:=x5 g5;have LT:W.Looks (cq X.prog X.w) h5 (typeOf<|.ref ea) ob.cls:=c5▸(W.Looks.ld e5).andThen .now;refine(W.exm_one (M:=cq X.prog X.w) J5.kIn LT hx).here ?_;refine codeAny_handlers_suite_as ?_;refine tL g5 λh6 g6 u6=>?_;obtain⟨_,_,_,z6,T6,_,_,e6,_⟩:=id g6;have c6:(us.setIfInBounds 1<|.ref T6)[2]? = some gE:=by rw[Array.getElem?_setIfInBounds_ne<|by decide];exact F.ctx
  have J6:=F.Xk J (tk:=s'.toks) g6.1 ((u4.trans u5).trans u6) e6 ⟨_,rfl⟩;refine vd (X:=inh X ea) (Eo J6 ea) hN hi (.inl hn) (show RelV (.ref ea) (.ref ea) from rfl) (λs7 J7=>?_) (.inr hn);refine gS (hs ea π s7 _ _ (Q3 i D) J7<|hw ea _ F.nin rfl rfl ⟨_,rfl,c6⟩) (λfl s8 q=>?_) λ_ _ z=>fS z;have go:∀{σ8:St} {H8:Hp},Inv (inh X ea) π σ8 H8 s8->(∀{s9:aT},Inv X π (σ8.set i none) H8 s9->SP X π D fl s9)->
    cn (cq X.prog X.w) X.A (do bindName X.env n .none;unbindBehindTheSuite X.env n hpos) (λ_ s9=>SP X π D fl s9) X.xe s8:=λJ8 k=>by
   have J9:=G6 J8 J.ok;obtain⟨m,hm',hl⟩:=J9.loc;exact wpAny_nameGoes_keeps (m:=m) hn hm' hcls λh9 v hn9 hs9=>k<|Ae J9 hN hi hl hn9 hs9
  cases fl with
  |next=>obtain⟨σ8,H8,J8,q⟩:=q;exact go J8 λJ9=>⟨_,H8,J9,q⟩
  |brk=>obtain⟨σ8,H8,J8,q⟩:=q;exact go J8 λJ9=>⟨_,H8,J9,q⟩
  |cont=>obtain⟨σ8,H8,J8,q⟩:=q;exact go J8 λJ9=>⟨_,H8,J9,q⟩
  |ret u=>obtain⟨v,σ8,H8,J8,r,q⟩:=q;exact go J8 λJ9=>⟨v,_,H8,J9,r,q⟩
theorem NT {K:av}{h:Heap}(X:K.In h)(q:xi K C bmB newId=true):
  ∃bm N nm qn bs hdct sn sub ab col dd k0 k1 k2 k3 k5 mN,h.get? C=some (excClassObj nm qn C N bs bm hdct sn sub ab col dd k0 k1 k2 k3 k5 newId)/\h.Ns N mN/\mN "__init__" = none/\OwnTail h bmB bm:=by
 unfold xi at q;split at q
 case h_2=>cases q
 case h_1 dd cd sl ho=>
  split at q
  case h_2=>cases q
  case h_1 C' bm k0 k1 k2 k3 n k5 hm hs=>
   simp only[beq_iff_eq,cy,Bool.not_eq_true'] at q;obtain⟨⟨⟨⟨⟨z1,z2⟩,hdel⟩,ht⟩,hok⟩,hni⟩:=q;subst z1;subst z2;obtain⟨nm,bs,mro,ns,qn,hd,sn,sub,ab,col,del⟩:=cd;have hm':mro=.ref C'::bm:=hm;have hdel':del=false:=hdel;subst hm';subst hdel';obtain⟨l⟩:=sl;have hs':l=[k0,k1,k2,k3,some<|.builtin n,k5]:=hs;subst hs';exact⟨bm,ns,nm,qn,bs,hd,sn,sub,ab,col,dd,k0,k1,k2,k3,k5,_,X _ _ ho,.of_isNs<|W.isNs_of_in X hok,W.nsMap_none_of_in X hok hni,W.tail_of_in X ht⟩
section
variable {X:Cx}{x:Str}{e₀:Expr}{np χ pos:Pos}{te:TE}{C:Addr}{bmB:List a7}{B newId initId:String}
theorem zg {W:XK}(FB:ExcBaseFacts B newId initId bmB)(hq:PySem.W.excIn X.K C bmB newId=true)(hg:Gl X x)(hm:X.mg x=some (.ref C))(hh:X.A.handled=none)(he:PE X e₀ te)
  (hx:∀(π:Zo) (σ:St) (H:Hp) (s:aT) (h':Heap) (ea:Addr) (vs:List a7),Inv X π σ H s->l9 s.heap h' ea (.ref C) vs->W (.ref C) none H->X.xe (.ref ea) { s with heap:=h' })
  (hd:(x==("__debug__":Str))=false:=by decide) (hs:ar [e₀] X.env=(false,eval e₀ X.env)::ar [] X.env:=by rfl):
  PS X (.Raise (some<|.Call (.Name x np) [e₀] [] χ) none pos) (λ_ σ H=>te σ H λv H1=>[v].length=1/\W (.ref C) none H1):=by
 intro π s σ H D I h;obtain⟨bm,N,nm,qn,bs,hdct,sn,sub,ab,col,dd,k0,k1,k2,k3,k5,mN,hC,hN,hni,T⟩:=NT I.ok.mod.kin hq;refine wpAny_Raise_call_subT (C:=C) (N:=N) (nm:=nm) (q:=qn) (bs:=bs) (bm:=bm) (hdct:=hdct) (sn:=sn) (sub:=sub) (ab:=ab) (col:=col) (dd:=dd) (k0:=k0) (k1:=k1) (k2:=k2) (k3:=k3) (k5:=k5) FB (T.hasType FB.hasBase) hh (by rw[hs];rfl) hni<|nZ I hg hm ⟨rfl,?_⟩ hd;have pa:=aB he aP hs χ π s σ H (λvs H1=>vs.length=1/\W (.ref C) none H1) I h;rw[hs] at pa ⊢;refine sL<|thn pa λus s2 hE=>xq2 hE λvs H2 I2 r q=>⟨rfl,?_,I2.bk _ _ hC,hN.keeps I2.bk,T.keeps I2.bk,λh' ea mk=>hx π σ H2 s2 h' ea us I2 mk q.2⟩;rw[← r.length,q.1];decide
end
structure Fn (P:bg)(w:cw)(K:av)(mg:Zs)(base:Heap)(k:Nat)(x:Str)(ps:List Str)(sp:Sp):Prop where
 ex:∃f fd,bR P w K mg base (CX1 P w) k f fd ps sp/\Binds K fd ps []/\kX K (.ref f)=true/\mg x=some (.ref f)
section
theorem nF (F:Fn X.prog X.w X.K X.mg X.base k x ps sp)(hr:fD j X.A)(ha:PA X (e::es) t)(hk:k<=j:=by decide)(hg:Gl X x:=by rfl)
  (hdb:(x==("__debug__":Str))=false:=by decide) (he:ar (e::es) X.env=(false,eval e X.env)::ar es X.env:=by rfl) (ζ:(hJ pos<|ar es X.env).any (·.1)=false:=by rfl):
  PE X (.Call (.Name x p) (e::es) [] pos) (Li sp [] E0 t):=by
 refine rz F.ex λf fd G b kp m=>?_;exact pQ G (hr.mono hk) hg m kp b .nil Ew ha hdb he ζ
theorem VB (F:Fn X.prog X.w X.K X.mg X.base k x ps sp)(hr:fD j X.A)(ha:PA X.nox (e::es) t)(hk:k<=j:=by decide)(hg:Gl X x:=by rfl)
  (hdb:(x==("__debug__":Str))=false:=by decide) (he:ar (e::es) X.env=(false,eval e X.env)::ar es X.env:=by rfl) (ζ:(hJ pos<|ar es X.env).any (·.1)=false:=by rfl):
  PEx X (.Call (.Name x p) (e::es) [] pos) (λσ H Q E=>t σ H λvs H1=>sp vs H1 Q E):=by
 refine rz F.ex λf fd G b kp m=>?_;exact Qt G (hr.mono hk) hg m kp b ha hdb he ζ
end
section
variable {P:bg}{w:cw}{K:av}{mg:Zs}{base:Heap}
theorem cO {x qual:Str}{st:Stmt}{f:Addr}{fd:dQ}{N ps:List Str}{k:Nat}{sp:Sp}(F:Fun K x qual st f fd)(S:bB N ps (aL st))(len:∀vs H Q E,sp vs H Q E->vs.length=ps.length)
  (hbody:∀(cdv:a7) (A:eB) (outer:List Env) (s:aT) (H:Hp) (vs:List V) (Q:VK) (E:XK),fD k (A.deeper<|sQ qual (aL st) s.heap.objs.size f cdv)->sp vs H Q E->
   ∃t,PSs (jR (CX1 P w) P w K mg base N qual (aL st) f cdv A outer s H E) (fj st) t/\t { nx:=λ_ H'=>Q .non H',rt:=Q } (start N vs) H):bR P w K mg base (CX1 P w) (k+1) f fd ps sp:=by
 obtain⟨oc,od,kV,doc,pm,an,cdv,ct,osl,rfl,lk,hcd⟩:=F.ex;refine VV lk hcd S len λA outer s H vs Q E hr hsp=>?_;obtain⟨t,h,q⟩:=hbody cdv A outer s H vs Q E hr hsp;exact⟨t,h,q⟩
end
structure Df (K:av)(mg:Zs)(x:Str)(st:Stmt)(ps:List Str):Prop where
 ex:∃f fd,Fun K x x st f fd/\Binds K fd ps []/\mg x=some (.ref f)
theorem Df.fn {P:bg}{w:cw}{K:av}{mg:Zs}{base:Heap}{x:Str}{st:Stmt}{ps:List Str}{k:Nat}{sp:Sp}(D:Df K mg x st ps)
  (h:∀f fd,Fun K x x st f fd->bR P w K mg base (CX1 P w) k f fd ps sp):Fn P w K mg base k x ps sp:=by
 refine uM D.ex λf fd F b m=>?_;exact⟨f,fd,h f fd F,b,F.kp,m⟩
structure XC (K:av)(C:Addr):Prop where
 ga:fv K (.ref C) "__getattribute__" = some (some (.builtin "BaseException.__getattribute__"))
 no:fv K (.ref C) "__getattr__" = some none
 cl:fv K (.ref C) "__class__" = some (some (.builtin "object.__class__"))
 bs:W.subIn K (.ref C) (.type "BaseException")=some true
 ob:W.subIn K (.ref C) (.type "object")=some true
 is:(W.clsIn K C).isSome=true
section
variable {prog:bg}{w:cw}{A:eB}{E:Zv}{h:Heap}{g:Array l8}{d:Drawn}{t:Nat}{os:OsState}{a C:Addr}{o:Obj}{K:av}
theorem Uq {R:Result->aT->Prop}(X:K.In h)(Z:XC K C)(hx:h.get? a=some o)(hc:o.cls=.ref C)(hq:R (.ok<|.ret<|.ref C) ⟨h,g,d,t,os⟩):
  pk (cq prog w) A (.call (.builtin "getset_descriptor.__get__") ⟨[.builtin "object.__class__",.ref a,.ref C],[]⟩) R ⟨h,g,d,t,os⟩:=by
 have hT5:(⟨h,g,d,t,os⟩:aT).TypeIs (.builtin "object.__class__") "getset_descriptor":=me;have L8:W.Looks (cq prog w) h (isSubtype (.ref C)<|.type<|".".intercalate ("object.__class__".cutAt '.').dropLast) true:=by
  rw[F.owner_object_class];exact W.looks_subIn X Z.ob
 refine mi u7.plain F.entry_gs_get<|u7.check _ _ _ _ _ _ _ _ hT5 (F.args_gs_get _ _ _) ?_
 repeat (any_goals (first|assumption|(with_reducible refine kA hx ?_;rw[hc])|with_reducible refine L8.at ?_|wp_step))
 refine⟨Code.quiet_builtin _ (by decide +kernel),nc F.entry_object_class ?_⟩
 repeat (any_goals (first|assumption|(with_reducible refine kA hx ?_;rw[hc])|wp_step))
theorem Ik {tk:Tok}{Q:Fin->aT->Prop}(X:K.In h)(Z:XC K C)(hx:h.get? a=some o)(hc:o.cls=.ref C)(hq:Q (.done<|.ret<|.ref C) ⟨h,g,d,t,os⟩):
  cn (cq prog w) A (Builtin.«object.__getattribute__» ⟨[.ref a,.str "__class__" tk],[]⟩) Q E ⟨h,g,d,t,os⟩:=by
 have hT5:(⟨h,g,d,t,os⟩:aT).TypeIs (.builtin "object.__class__") "getset_descriptor":=me;have f5:=me;have f6:=u7.lookup;have f7:=F.slot_gs_set.lookup;have L4:=oj (M:=cq prog w) X Z.cl
 repeat (any_goals (first|assumption|(with_reducible refine kA hx ?_;rw[hc])|with_reducible refine L4.at ?_|wp_step))
 refine Uq X Z hx hc ?_
 repeat (any_goals (first|assumption|wp_step))
theorem Mp {nameV:a7}{Q:Unit->aT->Prop}(X:K.In h)(Z:XC K C)(hx:h.get? a=some o)(hc:o.cls=.ref C)(hq:Q () ⟨h,g,d,t,os⟩):
  cn (cq prog w) A (checkBuiltinCall "BaseException.__getattribute__" ⟨[.ref a,nameV],[]⟩) Q E ⟨h,g,d,t,os⟩:=by
 have hk:builtinKind "BaseException.__getattribute__" = some .slot:=by decide +kernel
 have hsp:splitId "BaseException.__getattribute__" = some ("BaseException", "__getattribute__"):=by decide +kernel
 have ha:=F.args_bexc_ga (.ref a) nameV;have L8:=W.looks_subIn (M:=cq prog w) X Z.bs;simp only[checkBuiltinCall,hk,hsp];refine ay ?_;unfold isInstance
 repeat (first|(with_reducible refine kA hx ?_;rw[hc])|with_reducible refine L8.at ?_|wp_step)
 exact hq
theorem UW {tk:Tok}{Q:Zv}(X:K.In h)(Z:XC K C)(hx:h.get? a=some o)(hc:o.cls=.ref C)(hq:Q (.ref C) ⟨h,g,d,t,os⟩):
  cn (cq prog w) A (getAttrBy (.ref a) (.str "__class__" tk) false) Q E ⟨h,g,d,t,os⟩:=by
 have f3:=F.excAttr_ValueError.ga.bind<|.ref a;have L1:=oj (M:=cq prog w) X Z.ga;have L2:=oj (M:=cq prog w) X Z.no;have n1:(mm "BaseException.__getattribute__"==mm "object.__getattribute__")=false:=by decide +kernel
 have n2:(onTheHeap (cS C)&&mm "BaseException.__getattribute__"==mm "object.__getattribute__")=false:=by rw[n1];rfl
 repeat (any_goals (first|assumption|(with_reducible refine kA hx ?_;rw[hc])|with_reducible refine L1.at ?_|with_reducible refine L2.at ?_|wp_step))
 refine mi F.excAttr_ValueError.ga.plain F.entry_bexc_ga<|Mp X Z hx hc<|Ik X Z hx hc ?_
 repeat (any_goals (first|assumption|wp_step))
theorem Ql {Q:Option a7->aT->Prop}(X:K.In h)(Z:XC K C)(hx:h.get? a=some o)(hc:o.cls=.ref C)(hq:Q (some<|.ref C) ⟨h,g,d,t+1,os⟩):
  cn (cq prog w) A (getAttr? (.ref a) "__class__") Q E ⟨h,g,d,t,os⟩:=by
 unfold getAttr? getAttrBy?
 repeat (any_goals (first|assumption|with_reducible apply UW X Z hx hc|wp_step))
def XAt (a C:Addr)(h:Heap):Prop:=∃o,h.get? a=some o/\o.cls=.ref C
theorem zY (Z:XC K C):W.KitX K (.ref a) (.ref C) (XAt a C) where
 ty:=λ_ _ _ ⟨_,hx,hc⟩=>hc▸(W.Looks.ld hx).andThen .now
 it:=λ_ _ X _=>by
  have z:=Z.is;unfold W.clsIn at z;split at z
  ·rename_i ho;intro A' Q' E' s' k q;unfold isType loadHead;exact ay<|wpAny_loadPart (k _ _<|X _ _ ho)<|bS q
  ·cases z
 ne:=λh tp dd its n sl X htp=>by
  have z:=Z.is;refine Bool.eq_false_iff.mpr λq=>?_;have e:C=tp:=Value.ref.inj<|beq_iff_eq.mp q;subst e;unfold W.clsIn at z;split at z
  ·rename_i ho;have z2:=(X _ _ ho).symm.trans htp;cases z2
  ·cases z
 ca:=λ{_ _ _ _ _ s} X ⟨_,hx,hc⟩ k=>by
  obtain⟨h,g,d,t,os⟩:=s;exact Ql X Z hx hc k
end
section
variable {X:Cx}
def Rp (K:av):List V->Hp->VK->Prop:=λxs H Q=>∃ea C c cv b,xs=[.ref ea,c]/\O9 c=some cv/\(∃ox,H ea=some (.frz ox<|.ext<|oK ea<|.ref C))/\XC K C/\d4 K (.ref C) cv=some b/\Q (.bl b) H
theorem Hm:eQ X (.builtin "isinstance") (Rp X.K):=by
 intro π s σ H xs us Q I r h;obtain⟨ea,C,c,cv,b,rfl,rc,⟨ox,he⟩,Z,e,q⟩:=h;obtain⟨u,w',rfl,ru,rw'⟩:=vals2 r;have z:=zT rc rw';subst z;cases(show u=cS ea from ru);obtain⟨_,⟨o,ho,hc,_⟩,_⟩:=(show cY X.prog X.w H s.heap ea (.frz ox<|.ext<|oK ea<|.ref C) from I.hok ea _ he);exact hU (zY Z) I.kIn ⟨o,ho,hc⟩ e (λz=>nomatch z) λtk=>⟨.bl b,H,I.tok _,rfl,q⟩
end
end Hd
namespace L2
open PySem PySem.Spec PyProof.Rows
section
variable {κ:Type}[DecidableEq κ]
theorem KV.length (r:KV ι vs):ι.length=vs.length:=pe r
end
section
theorem Vo (ok:HOk P w H h)(e:Rd H a u):cY P w H h a u:=e.ok ok
theorem Vt (ok:HOk P w H h)(e:Rd H a (.dK ι)):ι.length<=be/\(a==mo)=false/\∃vs,KV ι vs/\h.DictOf (pY P w) a vs:=
 show cY P w H h a (.dK ι) from Vo ok e
end
section
variable {X:Cx}{π:Zo}{σ:St}{H:Hp}{s:aT}{a:Addr}{y v:V}{u r:a7}{o:Option V}{A:eB}{E:Zv}
theorem Inv.big (I:Inv X π σ H s):mo<s.heap.objs.size:=by
 have h:bo<s.heap.objs.size:=(I.mod.glob.keeps I.bk).lt;exact Nat.lt_trans (by decide) h
end
section
theorem Vu (I:Inv X π σ H s)(e:Rd H a (.dK ι))(h:∀t s',Inv X π σ H s'->Q (.int ι.length t) s'):cn (cq X.prog X.w) A (call (.builtin "len") [.ref a]) Q E s:=by
 obtain⟨z,hd,vs,rel,dd⟩:=Vt I.hok e;refine call_len_dict hd dd (by rw[← rel.length];rw[sizeLine_eq] at z;lia) ?_;rw[← rel.length];exact h _ _<|I.tok _
end
section
end
theorem Jd (h:Heap)(hb:mo<h.objs.size):cY P w H (h.push { cls:=.type "dict",data:=.dict #[] }) h.objs.size (.dK []):=
 ⟨fF _,beq_eq_false_iff_ne.mpr<|kL<|c8 hb,[],.nil,Heap.DictOf.new h⟩
def Uz:TE:=λ_ H Q=>∀p,H p=none->Q (.ref p) (upd H p<|.dK [])
section
theorem KN:PE X (.Dict [] [] pos) Uz:=λπ s σ H Q I h=>
 wpAny_Dict_empty ⟨.ref s.heap.objs.size,_,I.laid (a:=s.heap.objs.size) (o:=.dK []) (t':=s.toks) (λ_ _ q=>ah _ q) (a9 _)<|Jd s.heap I.big,rfl,h _<|I.hok.fresh<|a9 _⟩
end
section
end
section
end
section
end
section
end
section
end
section
variable {κ:Type}[DecidableEq κ]
end
end L2
namespace Hd
open PySem PySem.Spec PyProof.Rows L2
theorem bC (h:H p=none)(o:HO):aD H (upd H p o):=λb u q=>by
 rw[aC<|iu q h];exact q
section
theorem bF (h:PE X e T)(k:∀σ H Q,T' σ H Q->T σ H Q):PE X e T':=λπ s σ H Q I q=>h π s σ H Q I<|k σ H Q q
def clA (t:TA):TA:=λσ H Q=>∃R,t σ H R/\∀xs H1,R xs H1->Q xs H1
theorem Ro (h:PA X es t):PA X es (clA t):=λpos π s σ H Q I ⟨R,hR,k⟩=>thn (h pos π s σ H R I hR) λ_ _ hE=>xq2 hE λvs H1 I1 r q=>⟨vs,H1,I1,r,k _ _ q⟩
def V1 (t:TA):TE:=λσ H Q=>t σ H λxs H1=>xs.length<=be/\∀p H',aD H1 H'->H' p=some (.tup xs)->Q (.ref p) H'
theorem N7 (h:PA X es t):PE X (.Tuple es x1 pos) (V1 t):=
 bF (jA<|Ro h) λ_ _ _ q=>⟨_,q,λ_ _ ⟨z,k⟩=>⟨z,λp hp=>k p _ (bC hp _) az⟩⟩
end
abbrev cI (X:Cx)(N':List Str)(scope:oB)(cl:List (Str×Addr))(C:Addr)(sE:aT)(HE:Hp)(fp:List Addr)(π:Zo):Cx:=
 { X with N:=N',s₀:=sE,H₀:=HE,env:=compEnvC scope cl C X.env,outer:=X.stack,ex:=fp,fn:=λ_=>false,pn:=X.pn++π,xe:=λ_ _=>False }
structure CSc (sc scope:oB)(caps:List Str):Prop where
 kind:scope.kind=.function
 nocell:∀y∈scope.names,y.2≠.cell
 loc:∀y∈scope.names,y.2=.local->scope.names.lookup y.1=some .local
 free:∀y∈scope.names,y.2=.free->sc.names.lookup y.1=some .cell\/sc.names.lookup y.1=some .free
 caps:∀x∈caps,scope.names.lookup x=some .free/\(sc.names.lookup x=some .cell\/sc.names.lookup x=some .free)
theorem mem_of_lookup:∀{l:List (Str×β)} {x:Str} {k:β},l.lookup x=some k->(x,k)∈l
 |[],_,_,h=>by simp at h
 |(n,k')::r,x,k,h=>by
  rw[de] at h;split at h
  ·rename_i e;have e':x=n:=by simpa using e
   cases h;rw[e'];exact a8
  ·exact ax _<|mem_of_lookup h
theorem pX {env:Env}:∀{names:List (Str×pw)} {x:Str},names.lookup x=some .free->
  (names.map λ(n,k)=>if(k==eK&&env.scope.kind==.function&&env.kindOf n==some .cell) then(n,i9) else(n,k)).lookup x=some .cell ∨
  (names.map λ(n,k)=>if(k==eK&&env.scope.kind==.function&&env.kindOf n==some .cell) then(n,i9) else(n,k)).lookup x=some .free
 |[],_,h=>by simp at h
 |(n,k)::r,x,h=>by
  have ih:=@pX env r x;show iL x ((if(k==eK&&env.scope.kind==.function&&env.kindOf n==some .cell)=true then(n,i9) else(n,k))::_)=_\/iL x ((if(k==eK&&env.scope.kind==.function&&env.kindOf n==some .cell)=true then(n,i9) else(n,k))::_)=_;cases hx:x==n with
  |true=>
   simp only[de,hx] at h;cases h;by_cases hc:(eK==eK&&env.scope.kind==.function&&env.kindOf n==some .cell)=true
   ·rw[if_pos hc];simp only[de,hx];exact .inl trivial
   ·rw[if_neg hc];simp only[de,hx];exact .inr trivial
  |false=>
   simp only[de,hx] at h;by_cases hc:(k==eK&&env.scope.kind==.function&&env.kindOf n==some .cell)=true
   ·rw[if_pos hc];simp only[de,hx];exact ih h
   ·rw[if_neg hc];simp only[de,hx];exact ih h
theorem ug {env:Env}:∀{names:List (Str×pw)} {x:Str},(∀y∈names,y.2≠.cell)->
  ((names.map λ(n,k)=>if(k==eK&&env.scope.kind==.function&&env.kindOf n==some .cell) then(n,i9) else(n,k)).lookup x=some .cell ∨
  (names.map λ(n,k)=>if(k==eK&&env.scope.kind==.function&&env.kindOf n==some .cell) then(n,i9) else(n,k)).lookup x=some .free)->names.lookup x=some .free
 |[],_,_,h=>by simp at h
 |(n,k)::r,x,hn,h=>by
  have ih:=@ug env r x λy hy=>hn y<|ax _ hy;have h':iL x ((if(k==eK&&env.scope.kind==.function&&env.kindOf n==some .cell)=true then(n,i9) else(n,k))::_)=some .cell\/iL x ((if(k==eK&&env.scope.kind==.function&&env.kindOf n==some .cell)=true then(n,i9) else(n,k))::_)=some .free:=h;have hk:k≠.cell:=hn (n,k) a8;by_cases hc:(k==eK&&env.scope.kind==.function&&env.kindOf n==some .cell)=true
  ·rw[if_pos hc] at h';have kf:k=.free:=by
    simp only[cy,beq_iff_eq] at hc;exact hc.1.1
   subst kf;cases hx:x==n with
   |true=>simp only[de,hx]
   |false=>
    simp only[de,hx] at h' ⊢;exact ih h'
  ·rw[if_neg hc] at h';cases hx:x==n with
   |true=>
    simp only[de,hx] at h' ⊢;rcases h' with z|z
    ·exact absurd (ck z) hk
    ·exact z
   |false=>
    simp only[de,hx] at h' ⊢;exact ih h'
theorem pA:∀(names:List (Str×pw)) (acc:List (Str×Addr)),(∀y∈names,y.2=.free->∃c,env.cells.lookup y.1=some c)->
  ∃cl,(forIn names acc λ(y:Str×pw) (cs:List (Str×Addr))=>(if y.2==.free then do let c←cellOf env y.1;pure (ng ((y.1,c)::cs)) else pure (ng cs):Sem (ForInStep<|List<|Str×Addr)))=pure cl/\
   (∀x c,cl.lookup x=some c->acc.lookup x=some c\/env.cells.lookup x=some c)/\(∀x c,acc.lookup x=some c->∃c',cl.lookup x=some c')/\∀y∈names,y.2=.free->∃c,cl.lookup y.1=some c
 |[],acc,_=>⟨acc,rfl,λ_ _ e=>.inl e,λ_ c e=>⟨c,e⟩,λ_ z=>nomatch z⟩
 |(n,k)::r,acc,h=>by
  have hr:∀y∈r,y.2=.free->∃c,env.cells.lookup y.1=some c:=λy hy=>h y<|ax _ hy;by_cases hk:(k==eK)=true
  ·obtain⟨c,hc⟩:=h (n,k) a8 (by simpa using hk);refine t7 (pA r ((n,c)::acc) hr) λcl e h1 h2 h3=>?_;refine⟨cl,?_,λx d q=>?_,λx d q=>?_,λy hy q=>?_⟩
   ·have ec:cellOf env n=pure c:=by unfold cellOf;rw[show env.cells.lookup n=some c from hc]
    rw[List.forIn_cons];simp only[hk,if_true,ec,pure_bind];exact e
   ·rcases h1 x d q with z|z
    ·rw[de] at z;split at z
     ·rename_i e1;have e1':x=n:=by simpa using e1
      cases z;rw[e1'];exact .inr hc
     ·exact .inl z
    ·exact .inr z
   ·by_cases e1:(x==n)=true
    ·exact h2 x c<|by rw[de,e1]
    ·exact h2 x d (by rw[de];simp only[Bool.not_eq_true] at e1;rw[e1];exact q)
   ·rcases ag.mp hy with z|z
    ·subst z;exact h2 n c (by rw[de];simp)
    ·exact h3 y z q
  ·refine t7 (pA r acc hr) λcl e h1 h2 h3=>?_;refine⟨cl,?_,h1,h2,λy hy q=>?_⟩
   ·rw[List.forIn_cons];simp only[hk,if_false,pure_bind,kU];exact e
   ·rcases ag.mp hy with z|z
    ·subst z;exact absurd (show(k==eK)=true by simpa using q) hk
    ·exact h3 y z q
theorem rB (h:∀y∈scope.names,y.2=.free->∃c,env.cells.lookup y.1=some c):
  ∃cl,closureFor scope env=pure cl/\(∀x c,cl.lookup x=some c->env.cells.lookup x=some c)/\∀y∈scope.names,y.2=.free->∃c,cl.lookup y.1=some c:=by
 refine t7 (pA scope.names [] h) λcl e h1 _ h3=>?_;refine⟨cl,?_,λx c q=>(h1 x c q).elim (λz=>by simp at z) id,h3⟩;unfold closureFor;simp only[bind_pure];refine Eq.trans ?_ e;rfl
section
variable {X:Cx}{π:Zo}{σ:St}{HE:Hp}{sE:aT}{N':List Str}{scope sc:oB}{cl:List (Str×Addr)}{fp:List Addr}{caps:List Str}
theorem N8 (I:Inv X π σ HE sE)(S:CSc sc scope caps)(hfp:∀b∈fp,su X π HE b/\b<sE.heap.objs.size)
  (hc1:∀x c,cl.lookup x=some c->X.env.cells.lookup x=some c) (hc2:∀y∈scope.names,y.2=.free->∃c,cl.lookup y.1=some c):
  (cI X N' scope cl sE.heap.objs.size sE HE fp π).Ok where
 mod:=I.ok.mod
 kind:=S.kind
 glob:=I.ok.glob
 blt:=I.ok.blt
 above:=a9 _
 inj:=λx y c h1 h2=>I.ok.inj x y c (hc1 x c h1)<|hc1 y c h2
 has:=λx h=>hc2 (x,.free) (mem_of_lookup<|ug S.nocell h) rfl
 cab:=λx c h=>nomatch h
 hd:=I.ok.hd
 frames:=I.ok.frames
 stk:=.inl rfl
 exf:=λb hb=>⟨c8 (hfp b hb).2,λx c h=>(hfp b hb).1.2.2.2.2.1 x c<|hc1 x c h⟩
 bs:=I.bs
 bsz:=cm I.ok.bsz I.sz
 noex:=λb o e hb=>by
  rcases(hfp b hb).1.2.2.2.1 with z|z
  ·exact I.ok.noex b o e z
  ·exact absurd (aS (bq e)<|cm I.ok.bsz z)<|fw _
 exfs:=λb hb hz=>by
  rcases ag.mp (I.w6 b hz) with z|z
  ·exact(hfp b hb).1.2.1 z
  ·exact(hfp b hb).1.2.2.1 z
 oE:=I.stack
 frf:=I.yo
theorem Ml {cap:List Nat}{h':Heap}(I:Inv X π σ HE sE)(S:CSc sc scope caps)(hsc:X.env.scope=sc)(hfp:∀b∈fp,su X π HE b/\b<sE.heap.objs.size)
  (hc1:∀x c,cl.lookup x=some c->X.env.cells.lookup x=some c) (hc2:∀y∈scope.names,y.2=.free->∃c,cl.lookup y.1=some c)
  (hN:N'.drop k=caps) (hk:k<=N'.length) (hcap:j3 (λj x=>X.N[j]? = some x) cap caps) {m:Zs}
  (kp:∀b o,sE.heap.get? b=some o->h'.get? b=some o) (hns:h'.Ns sE.heap.objs.size m) (tk:Nat):
  Inv (cI X N' scope cl sE.heap.objs.size sE HE fp π) [] (bP k none++cap.map λj=>(σ[j]?).join) HE { sE with heap:=h',toks:=tk } where
 ok:=N8 I S hfp hc1 hc2
 os:=rfl
 bare:=I.bare
 base:=Un.kept kp
 loc:=by
  refine⟨m,hns,λi x v e1 e2 e3=>?_⟩;have hik:k<=i:=by
   by_cases z:k<=i
   ·exact z
   ·rw[b9 (by simp;lia),eA] at e2;rw[if_pos<|by lia] at e2;cases e2
  obtain⟨j',rfl⟩:∃j',i=k+j':=⟨i-k,by lia⟩;rw[cc (by simp),kl,pz,c9] at e2;have hx:caps[j']? = some x:=by rw[← hN,List.getElem?_drop];exact e1
  have:∀{l:List Nat} {l':List Str} {i:Nat},j3 (λj x=>X.N[j]? = some x) l l'->l'[i]? = some x->∃j,l[i]? = some j/\X.N[j]? = some x:=by
   intro l l' i p;induction p generalizing i with
   |nil=>intro z;simp at z
   |cons a _ ih=>
    intro z;cases i with
    |zero=>simp at z;subst z;exact⟨_,rfl,a⟩
    |succ i=>exact ih (by simpa using z)
  obtain⟨j,hj,hNj⟩:=this hcap hx;rw[hj] at e2;have e2':σ[j]? = some (some v):=by
   cases q:σ[j]? with
   |none=>rw[hZ,q] at e2;cases e2
   |some o=>
    rw[hZ,q] at e2
    have:o=some v:=ck e2
    rw[this]
  obtain⟨hxf,hxo⟩:=S.caps x<|iO hx;rw[← hsc] at hxo;obtain⟨m0,_,hl⟩:=I.loc;obtain⟨u,r,L⟩:=hl j x v hNj e2'<|hxo.elim (λz=>.inr<|.inl z) λz=>.inr<|.inr z;refine⟨u,r,.inr ⟨pX hxf,?_⟩⟩;rcases L with⟨z,_⟩|⟨_,c,hc,hcell⟩
  ·have z':X.env.scope.names.lookup x=some .local:=z;rcases hxo with q|q<;>rw[z'] at q<;>cases q
  ·obtain⟨c',hc'⟩:=hc2 (x,.free) (mem_of_lookup hxf) rfl;have e:=hc1 x c' hc';rw[hc] at e;cases e;obtain⟨o,ho,hd⟩:=hcell;exact⟨c,hc',o,kp c o ho,hd⟩
 cell:=λx c e=>by
  obtain⟨v,o,ho,hd⟩:=I.cell x c<|hc1 x c e;exact⟨v,o,kp c o ho,hd⟩
 free:=I.hok.fresh<|a9 _
 freeC:=λx c e=>I.freeC x c<|hc1 x c e
 pin:=λp hp=>by
  rw[eC] at hp;refine Dv (I.pin p hp) λe n ne nf d=>?_;refine⟨kp _ _ e,n,c8<|bq e,λz=>?_,d⟩;rcases ag.mp (I.w6 p.1 z) with q|q
  ·exact ne q
  ·exact nf q
 hok:=I.hok.kept kp
 len:=by
  show(bP k none++cap.map λj=>(σ[j]?).join).length=N'.length
  have:=hcap.length
  rw[← hN,iq] at this
  simp
  lia
theorem comp_back (I:Inv X π σ HE sE)(hfp:∀b∈fp,su X π HE b/\b<sE.heap.objs.size)
  (I':Inv (cI X N' scope cl sE.heap.objs.size sE HE fp π) p' σ' H' s'):Inv X π σ H' s':=
 I.call' (ch:=fp) I'.os I'.base I'.hok I'.bare λb hb=>⟨(hfp b hb).1.2.2.2.1,(hfp b hb).1.2.1,(hfp b hb).1.2.2.2.2.1,(hfp b hb).1.2.2.2.2.2⟩
end
theorem zF (I:Inv X π σ HE sE)(I':Inv X π σ' H' s')(hn:H' sE.heap.objs.size=none)
  (hs:ma sE.heap.objs.size s'.heap h'):Inv X π σ' H' { s' with heap:=h' }:=by
 refine I'.turned (t':=s'.toks) (λb o hb e=>(hs.2 b hb).trans e) hn (qS I.lt) (.inr I.sz) (λx c e z=>?_) λp hp z=>?_
 ·obtain⟨v,q⟩:=I.cell x c e;exact absurd q.lt (by rw[z];exact fw _)
 ·exact absurd (bq (I.pin p hp).1) (by rw[z];exact fw _)
def Ka (X:Cx)(ifs:List Expr)(t:TT):Prop:=
 ∀(π:Zo) (s:aT) (σ:St) (H:Hp) (Q:Bool->Hp->Prop),Inv X π σ H s->t σ H Q->
  cn (cq X.prog X.w) X.A (forIn ifs true λc r=>if r=true then do let ok←isTrue c X.env (eval c X.env);pure (ng ok) else pure (ng r)) (TP X π σ Q) X.xe s
def Xu:TT:=λ_ H Q=>Q true H
theorem OD:Ka X [] Xu:=λ_ _ _ H _ I q=>wpAny_tests_nil ⟨H,I,q⟩
noncomputable def cSt (k:Nat)(cap:List Nat)(σ:St):St:=bP k none++cap.map λj=>(σ[j]?).join
def V4 (J:It)(k:Nat)(cap:List Nat)(g:TG)(tt:TT)(te:TE)(σ:St)(H1:Hp)(l:Addr)(Q:VK):Prop:=
 ∃W:Nat->Nat->List V->Hp->Prop,(∃m,W 0 m []<|upd H1 l<|.lst [])/\∀i m ys H,W i m ys H->
  (J.stop i H/\Q (.ref l) H)\/(J.go i H/\∀x H',J.yld i H x H'->g x (cSt k cap σ) H' λσ2 H3=>σ2.drop k=(cSt k cap σ).drop k/\tt σ2 H3 λb H4=>
   if b=true then te σ2 H4 λy H5=>H5 l=some (.lst ys)/\ys.length<be/\∃m',m'<m/\W (i+1) m' (ys++[y]) (upd H5 l<|.lst<|ys++[y])
   else ∃m',m'<m/\W (i+1) m' ys H4)
def CZ (k:Nat)(cap:List Nat)(wi:TI)(g:TG)(tt:TT)(te:TE):TE:=λσ H Q=>wi σ H λJ H1=>∀l,H1 l=none->V4 J k cap g tt te σ H1 l Q
section
theorem yZ (hcalm:X.calm=true)(S:CSc sc scope caps)(hsc:X.env.scope=sc)(hN:N'.drop k=caps)(hk:k<=N'.length)(hcap:j3 (λj x=>X.N[j]? = some x) cap caps)
  (hi:PI Calm X tg iter wi) (hg:∀cl C sE HE fp π,PG (cI X N' scope cl C sE HE fp π) tg g) (ht:∀cl C sE HE fp π,Ka (cI X N' scope cl C sE HE fp π) ifs tt) (he:∀cl C sE HE fp π,PE (cI X N' scope cl C sE HE fp π) elt te)
  (I:Inv X π σ H s) (h:CZ k cap wi g tt te σ H Q) {cl:List (Str×Addr)} (hc1:∀x c,cl.lookup x=some c->X.env.cells.lookup x=some c) (hc2:∀y∈scope.names,y.2=.free->∃c,cl.lookup y.1=some c)
  {RR:a7->Addr->Result->aT->Prop}
  (hRR:∀l sE HE H' s' m,Inv X π σ HE sE->Inv X π σ H' s'->H' sE.heap.objs.size=none->s'.heap.Ns sE.heap.objs.size m->Q (.ref l) H'->RR (.ref l) sE.heap.objs.size (.ok .next) s'):
  cn (cq X.prog X.w) X.A (eval iter X.env) (λxv s₁=>cn (cq X.prog X.w) X.A (pyIter xv) (λit s₂=>cn (cq X.prog X.w) X.A (newList []) (λacc s₃=>
   cn (cq X.prog X.w) X.A (newFunctionEnv scope X.env.globals cl [] X.env.qual none .none<|some X.env) (λcenv s₄=>
    pk (cq X.prog X.w) X.A (.compStart (.ListComp elt [⟨tg,iter,ifs,0⟩] scope pos) 0 it acc { cenv with scope:=relabel scope X.env }) (RR acc cenv.locals) s₄) X.xe s₃) X.xe s₂) X.xe s₁) X.xe s:=by
 refine thn (hi π s σ H _ I h) λv s1 h1=>thn h1 λitv s2 h2=>?_;obtain⟨it,fp,tn,J,H1,e,I1,T,st1,f1,q1⟩:=h2;subst e;refine wpAny_newList ?_;have hfree:H1 s2.heap.objs.size=none:=I1.hok.fresh<|a9 _;have fpl:∀b∈fp,b<s2.heap.objs.size:=λb hb=>by
  obtain⟨o,e,_⟩:=T.obj _ _ st1 b hb;exact bq e
 generalize hE:({ s2 with heap:=s2.heap.push { cls:=.type "list",data:=.seq ([]:List a7).toArray } }:aT)=sE;have k2:∀b o,s2.heap.get? b=some o->sE.heap.get? b=some o:=λb o e=>by rw[← hE];exact ah _ e
 have szE:s2.heap.objs.size<sE.heap.objs.size:=by rw[← hE];show _<(s2.heap.push _).objs.size;rw[om];exact kH _
 have IE:Inv X π σ (upd H1 s2.heap.objs.size<|.lst []) sE:=by
  rw[← hE];refine I1.laid (t':=s2.toks) (λb o e=>ah _ e) (a9 _) ?_;exact⟨fF _,[],0,.nil,b0 _ rfl⟩
 have fE:∀b∈fp,su X π (upd H1 s2.heap.objs.size<|.lst []) b/\b<sE.heap.objs.size:=λb hb=>
  ⟨⟨by rw[aC<|c8<|fpl b hb];exact(f1 b hb).1,(f1 b hb).2⟩,Nat.lt_trans (fpl b hb) szE⟩
 obtain⟨W,⟨m0,w0⟩,turn⟩:=q1 _ hfree;generalize hl:s2.heap.objs.size=l at *;clear hl;generalize hHE:upd H1 l (.lst [])=HE at *;refine wpAny_newFunctionEnv S.nocell (by intro y hy;simp at hy) (λh₁ hns₁ hsb₁=>?_) S.kind;have kE:∀b o,sE.heap.get? b=some o->h₁.get? b=some o:=λb o e=>(hsb₁.2 b<|c8<|bq e).trans<|ah _ e;have I0:=Ml (k:=k) (cap:=cap) (N':=N') IE S hsc fE hc1 hc2 hN hk hcap kE hns₁<|sE.toks+([]:List (Str×a7)).length;have st0:tn 0 h₁:=T.keep _ _ _ st1 λb hb o e=>kE b o<|k2 b o e;have hX:∀{H':Hp},(∀b∈fp,H' b=none)->∀b∈fp,su (cI X N' scope cl sE.heap.objs.size sE HE fp π) [] H' b:=λhn b hb=>
  ⟨hn b hb,(I0.ok.exf b hb).1,I0.ok.exfs b hb,.inl hb,(I0.ok.exf b hb).2,λp hp=>by
   rw[eC] at hp;exact(fE b hb).1.2.2.2.2.2 p hp⟩
 have loop:∀s₃:aT,s₃={ sE with heap:=h₁,toks:=sE.toks+([]:List (Str×a7)).length }->
   pk (cq X.prog X.w) X.A (.compLoop (.ListComp elt [⟨tg,iter,ifs,0⟩] scope pos) 0 (.ref it) (.ref l)<|compEnvC scope cl sE.heap.objs.size X.env) (RR (.ref l) sE.heap.objs.size) s₃:=by
  rintro s₃ rfl;refine codeAny_loop rfl (λn s'=>∃i ys H',Inv (cI X N' scope cl sE.heap.objs.size sE HE fp π) [] (cSt k cap σ) H' s'/\tn i s'.heap/\(∀b∈fp,H' b=none)/\W i n ys H') (λn s3 hI=>?_) m0
   ⟨0,[],HE,I0,st0,λb hb=>(fE b hb).1.1,w0⟩
  refine Ir hI λi ys H3 I3 st3 fr3 w3=>?_;show cn _ X.A ((compTurn (.ListComp elt [⟨tg,iter,ifs,0⟩] scope pos) 0 (.ref it) (.ref l)<|compEnvC scope cl sE.heap.objs.size X.env).onRaise (λx=>do noteFrame x (compEnvC scope cl sE.heap.objs.size X.env);theTreesLotGoes x)) _ _ s3;refine wpAny_noted ?_;rw[compTurn_list];refine ay<|wpAny_standAt<|ay ?_;rcases turn i n ys H3 w3 with⟨stop,qn⟩|⟨go,step⟩
  ·refine gS (T.done (cI X N' scope cl sE.heap.objs.size sE HE fp π) rfl rfl rfl hcalm i [] s3 _ H3 (λ_ _=>False) I3 (hX fr3) st3 stop) (λr s4 ⟨hr,I4⟩=>?_) λ_ _ z=>z.elim;subst hr;obtain⟨m4,hn4,_⟩:=I4.loc;exact bS<|hRR l sE HE H3 s4 m4 IE (comp_back IE fE I4) I4.free hn4 qn
  ·refine gS (T.item (cI X N' scope cl sE.heap.objs.size sE HE fp π) rfl rfl rfl hcalm i [] s3 _ H3 (λ_ _=>False) I3 (hX fr3) st3 go) (λr s4 ⟨u,hr,h4⟩=>?_) λ_ _ z=>z.elim;subst hr;refine ay<|gS h4 (λ_ s5 ⟨x,H5,I5,r5,y5,st5,fr5⟩=>?_) λ_ _ z=>z.elim;have I5':=I5.pinned (hX fr5)<|T.obj _ _ st5;refine ay<|gS (hg _ _ _ _ _ _ _ s5 _ H5 x u _ I5' r5<|step x H5 y5) (λ_ s6 ⟨σ6,H6,I6,q6⟩=>?_) λ_ _ z=>z.elim;obtain⟨d6,q6⟩:=q6;have weak:∀{H7 s7},Inv (cI X N' scope cl sE.heap.objs.size sE HE fp π) ([]++ph fp s5.heap) σ6 H7 s7->Inv (cI X N' scope cl sE.heap.objs.size sE HE fp π) ([]++ph fp s5.heap) (cSt k cap σ) H7 s7:=λ{H7 s7} I7=>by
    refine I7.weak (I0.len.trans I7.len.symm) λj v e=>?_;by_cases z:k<=j
    ·obtain⟨j',rfl⟩:∃j',j=k+j':=⟨j-k,by lia⟩;rw[← List.getElem?_drop] at e ⊢;rw[d6];exact e
    ·unfold cSt at e;rw[b9 (by simp;lia),eA,if_pos<|by lia] at e;cases e
   have again:∀{H7:Hp} {s7:aT} {zs:List V},Inv (cI X N' scope cl sE.heap.objs.size sE HE fp π) ([]++ph fp s5.heap) σ6 H7 s7->(∃m',m'<n/\W (i+1) m' zs H7)->
     ∃m,m<n/\∃i ys H',Inv (cI X N' scope cl sE.heap.objs.size sE HE fp π) [] (cSt k cap σ) H' s7/\tn i s7.heap/\(∀b∈fp,H' b=none)/\W i m ys H':=λ{H7 s7 zs} I7 ⟨m',hm,w7⟩=>by
    refine⟨m',hm,i+1,zs,H7,(weak I7).pN,T.keep _ _ _ st5 λb hb o e=>(I7.pin (b,o)<|dE _<|dE _<|mq hb e).1,λb hb=>?_,w7⟩;obtain⟨o,e,d⟩:=T.obj _ _ st5 b hb;exact(I7.pin (b,o)<|dE _<|dE _<|mq hb e).2.1
   refine ay<|gS (ht _ _ _ _ _ _ _ s6 σ6 H6 _ I6 q6) (λb s7 ⟨H7,I7,q7⟩=>?_) λ_ _ z=>z.elim;cases b with
   |false=>
    rw[if_neg aI] at q7;exact bS ⟨rfl,again I7 q7⟩
   |true=>
    rw[if_pos rfl] at q7;refine ay<|ay<|gS (he _ _ _ _ _ _ _ s7 σ6 H7 _ I7 q7) (λyv s8 ⟨y,H8,I8,r8,hl8,hz8,q8⟩=>?_) λ_ _ z=>z.elim;refine ay (gS (ig (X:=cI X N' scope cl sE.heap.objs.size sE HE fp π) _ s8 σ6 H8 (.ref l) [y] (.ref l) [yv] (λ_ H9=>H9=upd H8 l (.lst<|ys++[y])) I8 rfl (.cons r8 .nil) ⟨l,ys,y,rfl,rfl,hl8,hz8,rfl⟩)
     (λ_ s9 ⟨_,H9,I9,_,e9⟩=>?_) λ_ _ z=>z.elim)
    subst e9;exact bS<|bS ⟨rfl,again I9 q8⟩
 exact codeAny_compStart_list (loop _ rfl)<|T.self _ 0 _ _ _ st0<|loop _ rfl
theorem Ox (sc:oB)(N' caps:List Str)(k:Nat)(cap:List Nat)(hcalm:X.calm=true)(S:CSc sc scope caps)(hcap:j3 (λj x=>X.N[j]? = some x) cap caps)
  (hi:PI Calm X tg iter wi) (hg:∀cl C sE HE fp π,PG (cI X N' scope cl C sE HE fp π) tg g) (ht:∀cl C sE HE fp π,Ka (cI X N' scope cl C sE HE fp π) ifs tt) (he:∀cl C sE HE fp π,PE (cI X N' scope cl C sE HE fp π) elt te)
  (hsc:X.env.scope=sc:=by rfl) (hN:N'.drop k=caps:=by rfl) (hk:k<=N'.length:=by decide) (hs:∀x,gX iter X.env x=pure x:=by intro _;rfl):
  PE X (.ListComp elt [⟨tg,iter,ifs,0⟩] scope pos) (CZ k cap wi g tt te):=by
 intro π s σ H Q I h;obtain⟨cl,hcl,hc1,hc2⟩:=rB (scope:=scope) (env:=X.env) λy hy e=>I.ok.has y.1 (by
  have z:=S.free y hy e;rw[← hsc] at z;exact z)
 rw[eval_ListComp];refine oQ (use:=none) rfl hs hcl S.kind S.loc<|yZ (RR:=λacc C=>compPost (cq X.prog X.w) X.A X.xe none (EP X π σ Q) acc C) hcalm S hsc hN hk hcap hi hg ht he I h hc1 hc2 ?_;intro l sE HE H' s' m IE I' hn hns q;exact⟨m,hns,λh' hs'=>⟨.ref l,H',zF IE I' hn hs',rfl,q⟩⟩
theorem Ax (sc:oB)(N' caps:List Str)(k:Nat)(cap:List Nat)(hnd:X.N.Nodup)(hi':X.N[i]? = some y)(hy:Loc X.env.scope y)(hcalm:X.calm=true)(S:CSc sc scope caps)(hcap:j3 (λj x=>X.N[j]? = some x) cap caps)
  (hi:PI Calm X tg iter wi) (hg:∀cl C sE HE fp π,PG (cI X N' scope cl C sE HE fp π) tg g) (ht:∀cl C sE HE fp π,Ka (cI X N' scope cl C sE HE fp π) ifs tt) (he:∀cl C sE HE fp π,PE (cI X N' scope cl C sE HE fp π) elt te)
  (θ:ja (.ListComp elt [⟨tg,iter,ifs,0⟩] scope pos) (some<|.Name y py) spos.line X.env=pure true:=by rfl)
  (hsc:X.env.scope=sc:=by rfl) (hN:N'.drop k=caps:=by rfl) (hk:k<=N'.length:=by decide) (hs:∀x,gX iter X.env x=pure x:=by intro _;rfl)
  (hf:X.fn y=true\/X.env.scope.names.lookup y=some .local:=by first|exact .inl rfl|exact .inr rfl|assumption):
  PS X (.Assign [.Name y py] (.ListComp elt [⟨tg,iter,ifs,0⟩] scope pos) spos) (Om (CZ k cap wi g tt te)<|vV i):=by
 intro π s σ H D I h;obtain⟨cl,hcl,hc1,hc2⟩:=rB (scope:=scope) (env:=X.env) λy hy e=>I.ok.has y.1 (by
  have z:=S.free y hy e;rw[← hsc] at z;exact z)
 rw[exec_Assign_Name_used _ _ _ _ θ];refine ay<|wpAny_standAt<|ay ?_;show cn _ X.A (do let _←comprehension (.ListComp elt [⟨tg,iter,ifs,0⟩] scope pos) scope X.env _ (newList []) false (eval iter X.env) (some<|xo (.Name y py) X.env)) _ _ s;refine ay (gS (oQ (use:=some<|xo (.Name y py) X.env) (Q:=λ_ s'=>SP X π D .next s') rfl hs hcl S.kind S.loc
  (yZ (RR:=λacc C=>compPost (cq X.prog X.w) X.A X.xe (some<|xo (.Name y py) X.env) (λ_ s'=>SP X π D .next s') acc C) hcalm S hsc hN hk hcap hi hg ht he I h hc1 hc2 ?_)) (λ_ s' hq=>bS<|bS hq) λ_ _ e=>e)
 intro l sE HE H' s' m IE I' hn hns q;show cn _ X.A (xo (.Name y py) X.env<|.ref l) _ _ _;refine wpAny_assign_Name<|vY I' hnd hi' hy (v:=.ref l) rfl (λs2 I2 hb=>?_) hf;obtain⟨a,hsb,ha⟩:=hb;have hne:sE.heap.objs.size≠a:=λz=>by
  rcases ha with e|e
  ·exact absurd IE.lt (by rw[← e,← z];exact fw _)
  ·obtain⟨v,q⟩:=IE.cell y a e;exact absurd q.lt (by rw[z];exact fw _)
 exact⟨m,hns.sameBut hsb hne,λh' hs'=>⟨_,H',zF IE I2 hn hs',q⟩⟩
end
inductive TyK (K:av)(H:Hp):V->a7->Prop where
 |of {v:V} {t:a7}:qR K H v t->TyK K H v t
 |tup {a:Addr} {xs:List V}:SqT K H a xs->TyK K H (.ref a) (.type "tuple")
 |lst {a:Addr} {xs:List V}:SqL K H a xs->TyK K H (.ref a) (.type "list")
section
def U8 (K:av):List V->Hp->VK->Prop:=λxs H Q=>∃x c t cv b,xs=[x,c]/\O9 c=some cv/\TyK K H x t/\d4 K t cv=some b/\Q (.bl b) H
theorem qY:eQ X (.builtin "isinstance") (U8 X.K):=by
 intro π s σ H xs us Q I r h;obtain⟨x,c,t,cv,b,rfl,rc,ty,e,q⟩:=h;obtain⟨u,w',rfl,ru,rw'⟩:=vals2 r;have z:=zT rc rw';subst z;cases ty with
 |of ty=>exact G7 I ru ty e λtk=>⟨.bl b,H,I.tok _,rfl,q⟩
 | @tup a xs hs=>
  cases(show u=cS a from ru);obtain⟨its,_,⟨o,h1,h2,_⟩,_⟩:=I.tuple hs;exact hU W.kitx_tuple I.kIn ⟨o,h1,h2⟩ e (λz=>nomatch z) λtk=>⟨.bl b,H,I.tok _,rfl,q⟩
 | @lst a xs hs=>
  cases(show u=cS a from ru);obtain⟨its,_,⟨o,n,h1,h2,_⟩,_⟩:=I.list hs;exact hU W.kitx_list I.kIn ⟨o,h1,h2⟩ e (λz=>nomatch z) λtk=>⟨.bl b,H,I.tok _,rfl,q⟩
end
theorem Rd.mono (h:Rd H a u)(g:aD H H'):Rd H' a u:=h.elim (λe=>.inl<|g _ _ e) λ⟨o,e⟩=>.inr ⟨o,g _ _ e⟩
theorem JR {K:av}{H H':Hp}{a:Addr}{xs:List V}(h:SqL K H a xs)(g:aD H H'):SqL K H' a xs:=h.elim (λe=>.inl<|Rd.mono e g) .inr
def SameBut (l:Addr)(H H':Hp):Prop:=∀b u,b≠l->H b=some u->H' b=some u
theorem Wd (g:aD H H'):SameBut l H H':=λb u _ e=>g b u e
theorem Ua:SameBut l H (upd H l o):=λb u n e=>by rw[aC n];exact e
theorem SameBut.trans (a:SameBut l H H1)(b:SameBut l H1 H2):SameBut l H H2:=λc u n e=>b c u n<|a c u n e
theorem Pg (g:SameBut l H H')(n:H l=none):aD H H':=λb u e=>g b u (λz=>by rw[z,n] at e;cases e) e
section
end
section
end
section
def rJoin (K:av):V->List V->Hp->VK->Prop:=λx vs H Q=>∃z l zs,x=.str z/\vs=[.ref l]/\SqL K H l (zs.map V.str)/\xk z zs=true/\Q (.str<|sA z zs) H
theorem mK:∀{zs:List Str} {us:List a7},Vals (zs.map V.str) us->∃l:List (Str×Tok),us=strValues l/\l.map (·.1)=zs
 |[],_,.nil=>⟨[],rfl,rfl⟩
 |z::zs,_,.cons r t=>by
  obtain⟨tk,rfl⟩:=r;obtain⟨l,rfl,e⟩:=mK t;exact⟨(z,tk)::l,rfl,by rw[eJ,e]⟩
theorem Nu (K:av)(hK:X.K=K:=by rfl):MtM X "str.join" (rJoin K):=by
 subst hK;intro π s σ H x vs v us Q I rx rv h;obtain⟨z,l,zs,rfl,rfl,hL,ok,q⟩:=h;obtain⟨t,rfl⟩:=rx;obtain⟨u,rfl,ru⟩:=rv.one;cases ru;obtain⟨its,r,hp,_⟩:=I.list hL;obtain⟨ls,rfl,e⟩:=mK r;exact SC.join hp.isList e ok λt' k=>⟨.str _,H,I.tok _,⟨t',rfl⟩,q⟩
end
end Hd
namespace F
open PySem PySem.Spec PyProof.Rows L2 Hd
inductive D where
 |non|bl (b:Bool)|int (i:Int)|str (x:Str)|exc (c:Str) (ns:List Str) (ds:List D)
 |tup (xs:List D)|lst (xs:List D)
 |dct (ks:List Key) (vs:List D)|dcu (ks:List (List Kt)) (vs:List D)
  |dcf (ks:List (List Kt)) (vs:List D)
  |adr (a:Addr)
  |ins (c:Str) (ns:List Str) (vs:List D)
abbrev Xn:=Str×List Str×List D
inductive Res (α:Type) where
 |ok (a:α)|exc (c:Xn)|stuck
def Res.bind {α β:Type}(r:Res α)(f:α->Res β):Res β:=match r with
 | .ok a=>f a
 | .exc c=>.exc c
 | .stuck=>.stuck
@[simp] theorem Res.O8 {α β:Type}(a:α)(f:α->Res β):(Res.ok a).bind f=f a:=rfl
@[simp] theorem Res.Vp {α β:Type}(c:Xn)(f:α->Res β):(Res.exc c:Res α).bind f=.exc c:=rfl
@[simp] theorem Res.RJ {α β:Type}(f:α->Res β):(Res.stuck:Res α).bind f=.stuck:=rfl
def ofO {α:Type}:Option α->Res α
 |some a=>.ok a
 |none=>.stuck
@[simp] theorem VN {α:Type}(a:α):ofO (some a)=.ok a:=rfl
@[simp] theorem Wu {α:Type}:ofO (none:Option α)=.stuck:=rfl
structure Gx where
 K:av
 mg:Zs
abbrev gx (X:Cx):Gx:=⟨X.K,X.mg⟩
def Xe (K:av)(a:Addr)(xs:List V):Prop:=
 ∃(o:Obj) (its:Array a7) (n:Nat),K.lookup a=some o/\o.cls=.type "list"/\o.dict=none/\o.data=.seq its n/\its.size<=be/\Vals xs its.toList
def LstAt (K:av)(O:Za)(H:Hp)(a:Addr)(xs:List V):Prop:=(¬O a/\Rd H a (.lst xs))\/Xe K a xs
def XO (H:Hp)(od:Option Addr)(fs:List (Str×V)):Prop:=(fs=[]/\od=none)\/∃dx q,od=some dx/\H dx=some (.frz q<|.xd fs)
mutual
inductive DV (G:Gx)(O:Za)(H:Hp):V->D->Prop where
 |non:DV G O H .non .non
 |bl (b:Bool):DV G O H (.bl b) (.bl b)
 |int (i:Int):DV G O H (.int i) (.int i)
 |str (x:Str):DV G O H (.str x) (.str x)
 |adr (a:Addr):DV G O H (.ref a) (.adr a)
 |ins {a C dx:Addr} {c:Str} {ι:List (Str×V)} {ns:List Str} {vs:List V} {ds:List D}:¬O a->G.mg c=some (.ref C)->H a=some (.ins C dx ι)->ι.map (·.1)=ns->ι.map (·.2)=vs->DVs G O H vs ds->DV G O H (.ref a) (.ins c ns ds)
 |exc {a C:Addr} {c:Str} {ox:Obj} {fs:List (Str×V)} {ns:List Str} {vs:List V} {ds:List D}:G.mg c=some (.ref C)->H a=some (.frz ox (.ext (oK a (.ref C))))->XO H ox.dict fs->fs.map (·.1)=ns->fs.map (·.2)=vs->DVs G O H vs ds->DV G O H (.ref a) (.exc c ns ds)
 |tup {a:Addr} {xs:List V} {ds:List D}:SqU G.K H a xs->DVs G O H xs ds->DV G O H (.ref a) (.tup ds)
 |lst {a:Addr} {xs:List V} {ds:List D}:LstAt G.K O H a xs->DVs G O H xs ds->DV G O H (.ref a) (.lst ds)
 |dct {a:Addr} {ι:List (Key×V)} {ks:List Key} {vs:List V} {ds:List D}:¬O a->Rd H a (.dK ι)->ι.map (·.1)=ks->ι.map (·.2)=vs->DVs G O H vs ds->DV G O H (.ref a) (.dct ks ds)
 |dcu {a:Addr} {ι:List (List Kt×V)} {ks:List (List Kt)} {vs:List V} {ds:List D}:¬O a->H a=some (.dT (KTp G.K) ι)->ι.map (·.1)=ks->ι.map (·.2)=vs->DVs G O H vs ds->DV G O H (.ref a) (.dcu ks ds)
 |dcf {a:Addr} {o:Obj} {ι:List (List Kt×V)} {ks:List (List Kt)} {vs:List V} {ds:List D}:H a=some (.frz o (.dT (KTp G.K) ι))->ι.map (·.1)=ks->ι.map (·.2)=vs->DVs G O H vs ds->DV G O H (.ref a) (.dcf ks ds)
inductive DVs (G:Gx)(O:Za)(H:Hp):List V->List D->Prop where
 |nil:DVs G O H [] []
 |cons {v:V} {vs:List V} {d:D} {ds:List D}:DV G O H v d->DVs G O H vs ds->DVs G O H (v::vs) (d::ds)
end
def XP (G:Gx)(H:Hp)(c:Xn)(C:Addr×Option Addr):Prop:=G.mg c.1=some (.ref C.1)/\∃fs vs,XO H C.2 fs/\fs.map (·.1)=c.2.1/\fs.map (·.2)=vs/\∀O,DVs G O H vs c.2.2
def OV (G:Gx)(O:Za)(H:Hp)(a:Addr):D->Prop
 | .lst ds=>∃xs,H a=some (.lst xs)/\DVs G O H xs ds
 | .dct ks ds=>∃ι vs,H a=some (.dK ι)/\ι.map (·.1)=ks/\ι.map (·.2)=vs/\DVs G O H vs ds
 | .dcu ks ds=>∃ι vs,H a=some (.dT (KTp G.K) ι)/\ι.map (·.1)=ks/\ι.map (·.2)=vs/\DVs G O H vs ds
 | .ins c ns ds=>∃C dx ι vs,G.mg c=some (.ref C)/\H a=some (.ins C dx ι)/\ι.map (·.1)=ns/\ι.map (·.2)=vs/\DVs G O H vs ds
 |_=>False
def DW (G:Gx)(O:Za)(H:Hp)(v:V)(d:D):Prop:=DV G O H v d\/∃a,v=.ref a/\O a/\OV G O H a d
inductive DWs (G:Gx)(O:Za)(H:Hp):List V->List D->Prop where
 |nil:DWs G O H [] []
 |cons {v:V} {vs:List V} {d:D} {ds:List D}:DW G O H v d->DWs G O H vs ds->DWs G O H (v::vs) (d::ds)
def bL (o:Option HO):Prop:=(∃xs,o=some (.lst xs))\/(∃k,o=some (.dK k))\/(∃k:(Addr->List V->Prop)×List (List Kt×V),o=some (.dT k.1 k.2))\/∃k:Addr×Addr×List (Str×V),o=some (.ins k.1 k.2.1 k.2.2)
def Kp (O:Za)(H H':Hp):Prop:=∀b o,H b=some o->¬O b->H' b=some o
theorem Rv {O:Za}{H H':Hp}{a:Addr}{u:HO}(g:Kp O H H')(n:¬O a)(e:Rd H a u):Rd H' a u:=e.imp (λe=>g _ _ e n) λ⟨o,e⟩=>⟨o,g _ _ e n⟩
theorem VM {H H':Hp}{a:Addr}{u:HO}(g:aD H H')(e:Rd H a u):Rd H' a u:=e.imp (g _ _) λ⟨o,e⟩=>⟨o,g _ _ e⟩
theorem Rt {H:Hp}{a:Addr}{u:HO}(e:Rd H a u)(z:H a=none):False:=by rcases e with e|⟨_,e⟩<;>(rw[z] at e;cases e)
theorem Kp.of {O:Za}{H H':Hp}(g:aD H H'):Kp O H H':=λb o e _=>g b o e
theorem jq {O:Za}{H:Hp}(m:∀b,O b->bL (H b)){a:Addr}{o:HO}(e:H a=some o)(n:¬bL (some o)):¬O a:=λz=>n<|e▸m a z
theorem Dh {xs:List V}:¬bL (some<|.tup xs):=by rintro(⟨_,e⟩|⟨_,e⟩|⟨_,e⟩|⟨_,e⟩)<;>cases e
theorem lN {o:Obj}{u:HO}:¬bL (some<|.frz o u):=by rintro(⟨_,e⟩|⟨_,e⟩|⟨_,e⟩|⟨_,e⟩)<;>cases e
theorem SX {K:av}{O:Za}{H H':Hp}{a:Addr}{xs:List V}(m:∀b,O b->bL (H b))(g:Kp O H H')(h:SqT K H a xs):SqT K H' a xs:=by
 rcases h with(e|⟨o,e⟩)|h
 ·exact .inl<|.inl<|g a _ e<|jq m e Dh
 ·exact .inl<|.inr ⟨o,g a _ e<|jq m e lN⟩
 ·exact .inr h
theorem Ly {K:av}{O:Za}{H H':Hp}{a:Addr}{xs:List V}(m:∀b,O b->bL (H b))(g:Kp O H H')(h:SqU K H a xs):SqU K H' a xs:=by
 rcases h with e|h
 ·exact .inl<|g a _ e<|jq m e Dh
 ·exact .inr h
theorem IW {K:av}{H H':Hp}{a:Addr}{xs:List V}(h:SqU K H a xs)(g:aD H H'):SqU K H' a xs:=h.imp (g _ _) id
theorem pO {K:av}{O:Za}{H H':Hp}{a:Addr}{xs:List V}(g:Kp O H H')(h:LstAt K O H a xs):LstAt K O H' a xs:=by
 rcases h with⟨n,e|⟨o,e⟩⟩|h
 ·exact .inl ⟨n,.inl<|g a _ e n⟩
 ·exact .inl ⟨n,.inr ⟨o,g a _ e n⟩⟩
 ·exact .inr h
theorem LstAt.sq {K:av}{O:Za}{H:Hp}{a:Addr}{xs:List V}(h:LstAt K O H a xs):SqL K H a xs:=h.elim (λz=>.inl z.2) .inr
section
variable {G:Gx}{O O':Za}{H H':Hp}
mutual
theorem DV.kp (m:∀b,O b->bL (H b))(g:Kp O H H'):∀{v:V} {d:D},DV G O H v d->DV G O H' v d
 |_,_,.non=>.non
 |_,_,.bl b=>.bl b
 |_,_,.int i=>.int i
 |_,_,.str x=>.str x
 |_,_,.adr a=>.adr a
 |_,_,.exc h e x a b hs=>.exc h (g _ _ e<|jq m e lN) (x.imp id λ⟨d,q,z,y⟩=>⟨d,q,z,g _ _ y<|jq m y lN⟩) a b<|DVs.kp m g hs
 |_,_,.tup h hs=>.tup (Ly m g h)<|DVs.kp m g hs
 |_,_,.lst h hs=>.lst (pO g h)<|DVs.kp m g hs
 |_,_,.dct n e a b hs=>.dct n (Rv g n e) a b<|DVs.kp m g hs
 |_,_,.dcu n e a b hs=>.dcu n (g _ _ e n) a b<|DVs.kp m g hs
 |_,_,.dcf e a b hs=>.dcf (g _ _ e<|jq m e lN) a b<|DVs.kp m g hs
 |_,_,.ins n c e a b hs=>.ins n c (g _ _ e n) a b<|DVs.kp m g hs
theorem DVs.kp (m:∀b,O b->bL (H b))(g:Kp O H H'):∀{vs:List V} {ds:List D},DVs G O H vs ds->DVs G O H' vs ds
 |_,_,.nil=>.nil
 |_,_,.cons h hs=>.cons (DV.kp m g h)<|DVs.kp m g hs
end
mutual
theorem DV.mono (g:aD H H'):∀{v:V} {d:D},DV G O H v d->DV G O H' v d
 |_,_,.non=>.non
 |_,_,.bl b=>.bl b
 |_,_,.int i=>.int i
 |_,_,.str x=>.str x
 |_,_,.adr a=>.adr a
 |_,_,.exc h e x a b hs=>.exc h (g _ _ e) (x.imp id λ⟨d,q,z,y⟩=>⟨d,q,z,g _ _ y⟩) a b<|DVs.mono g hs
 |_,_,.tup h hs=>.tup (IW h g)<|DVs.mono g hs
 |_,_,.lst h hs=>.lst (pO (.of g) h)<|DVs.mono g hs
 |_,_,.dct n e a b hs=>.dct n (VM g e) a b<|DVs.mono g hs
 |_,_,.dcu n e a b hs=>.dcu n (g _ _ e) a b<|DVs.mono g hs
 |_,_,.dcf e a b hs=>.dcf (g _ _ e) a b<|DVs.mono g hs
 |_,_,.ins n c e a b hs=>.ins n c (g _ _ e) a b<|DVs.mono g hs
theorem DVs.mono (g:aD H H'):∀{vs:List V} {ds:List D},DVs G O H vs ds->DVs G O H' vs ds
 |_,_,.nil=>.nil
 |_,_,.cons h hs=>.cons (DV.mono g h)<|DVs.mono g hs
end
mutual
theorem DV.bZ (s:∀b,O' b->O b\/H b=none):∀{v:V} {d:D},DV G O H v d->DV G O' H v d
 |_,_,.non=>.non
 |_,_,.bl b=>.bl b
 |_,_,.int i=>.int i
 |_,_,.str x=>.str x
 |_,_,.adr a=>.adr a
 |_,_,.exc h e x a b hs=>.exc h e x a b<|DVs.bZ s hs
 |_,_,.tup h hs=>.tup h<|DVs.bZ s hs
 |_,_,.lst h hs=>.lst (h.elim (λz=>.inl ⟨λo=>(s _ o).elim z.1 λn=>by rcases z.2 with e|⟨_,e⟩<;>(rw[n] at e;cases e),z.2⟩) .inr) (DVs.bZ s hs)
 |_,_,.dct n e a b hs=>.dct (λo=>(s _ o).elim n λz=>Rt e z) e a b<|DVs.bZ s hs
 |_,_,.dcu n e a b hs=>.dcu (λo=>(s _ o).elim n λz=>by rw[z] at e;cases e) e a b (DVs.bZ s hs)
 |_,_,.dcf e a b hs=>.dcf e a b<|DVs.bZ s hs
 |_,_,.ins n c e a b hs=>.ins (λo=>(s _ o).elim n λz=>by rw[z] at e;cases e) c e a b (DVs.bZ s hs)
theorem DVs.bZ (s:∀b,O' b->O b\/H b=none):∀{vs:List V} {ds:List D},DVs G O H vs ds->DVs G O' H vs ds
 |_,_,.nil=>.nil
 |_,_,.cons h hs=>.cons (DV.bZ s h)<|DVs.bZ s hs
end
def Ev (O:Za)(H:Hp)(O':Za)(H':Hp):Prop:=(∀b,O' b->O b\/H b=none)/\Kp O H H'
mutual
theorem DV.go (m:∀b,O b->bL (H b))(g:Ev O H O' H'):∀{v:V} {d:D},DV G O H v d->DV G O' H' v d
 |_,_,.non=>.non
 |_,_,.bl b=>.bl b
 |_,_,.int i=>.int i
 |_,_,.str x=>.str x
 |_,_,.adr a=>.adr a
 |_,_,.exc h e x a b hs=>.exc h (g.2 _ _ e<|jq m e lN) (x.imp id λ⟨d,q,z,y⟩=>⟨d,q,z,g.2 _ _ y<|jq m y lN⟩) a b<|DVs.go m g hs
 |_,_,.tup h hs=>.tup (Ly m g.2 h)<|DVs.go m g hs
 |_,_,.lst h hs=>.lst (h.elim (λz=>.inl ⟨λo=>(g.1 _ o).elim z.1 λn=>by rcases z.2 with e|⟨_,e⟩<;>(rw[n] at e;cases e),(pO g.2 (.inl z):LstAt G.K O H' _ _).elim (λy=>y.2) λy=>z.2.elim (λe=>.inl<|g.2 _ _ e z.1) λ⟨o,e⟩=>.inr ⟨o,g.2 _ _ e z.1⟩⟩) .inr) (DVs.go m g hs)
 |_,_,.dct n e a b hs=>.dct (λo=>(g.1 _ o).elim n λz=>Rt e z) (Rv g.2 n e) a b<|DVs.go m g hs
 |_,_,.dcu n e a b hs=>.dcu (λo=>(g.1 _ o).elim n λz=>by rw[z] at e;cases e) (g.2 _ _ e n) a b (DVs.go m g hs)
 |_,_,.dcf e a b hs=>.dcf (g.2 _ _ e<|jq m e lN) a b<|DVs.go m g hs
 |_,_,.ins n c e a b hs=>.ins (λo=>(g.1 _ o).elim n λz=>by rw[z] at e;cases e) c (g.2 _ _ e n) a b (DVs.go m g hs)
theorem DVs.go (m:∀b,O b->bL (H b))(g:Ev O H O' H'):∀{vs:List V} {ds:List D},DVs G O H vs ds->DVs G O' H' vs ds
 |_,_,.nil=>.nil
 |_,_,.cons h hs=>.cons (DV.go m g h)<|DVs.go m g hs
end
theorem OV.bZ {a:Addr}{d:D}(s:∀b,O' b->O b\/H b=none)(h:OV G O H a d):OV G O' H a d:=by
 cases d with
 |lst ds=>obtain⟨xs,e,hs⟩:=h;exact⟨xs,e,hs.bZ s⟩
 |dct ks ds=>obtain⟨k,v,e,a1,a2,hs⟩:=h;exact⟨k,v,e,a1,a2,hs.bZ s⟩
 |dcu ks ds=>obtain⟨k,v,e,a1,a2,hs⟩:=h;exact⟨k,v,e,a1,a2,hs.bZ s⟩
 |ins c ns ds=>obtain⟨C,dx,k,v,ec,e,a1,a2,hs⟩:=h;exact⟨C,dx,k,v,ec,e,a1,a2,hs.bZ s⟩
 |_=>exact h.elim
theorem OV.mono {a:Addr}{d:D}(g:aD H H')(h:OV G O H a d):OV G O H' a d:=by
 cases d with
 |lst ds=>obtain⟨xs,e,hs⟩:=h;exact⟨xs,g _ _ e,hs.mono g⟩
 |dct ks ds=>obtain⟨k,v,e,a1,a2,hs⟩:=h;exact⟨k,v,g _ _ e,a1,a2,hs.mono g⟩
 |dcu ks ds=>obtain⟨k,v,e,a1,a2,hs⟩:=h;exact⟨k,v,g _ _ e,a1,a2,hs.mono g⟩
 |ins c ns ds=>obtain⟨C,dx,k,v,ec,e,a1,a2,hs⟩:=h;exact⟨C,dx,k,v,ec,g _ _ e,a1,a2,hs.mono g⟩
 |_=>exact h.elim
theorem OV.kp {a:Addr}{d:D}(m:∀b,O b->bL (H b))(g:Kp O H H')(e':H' a=H a)(h:OV G O H a d):OV G O H' a d:=by
 cases d with
 |lst ds=>obtain⟨xs,e,hs⟩:=h;exact⟨xs,e'.trans e,hs.kp m g⟩
 |dct ks ds=>obtain⟨k,v,e,a1,a2,hs⟩:=h;exact⟨k,v,e'.trans e,a1,a2,hs.kp m g⟩
 |dcu ks ds=>obtain⟨k,v,e,a1,a2,hs⟩:=h;exact⟨k,v,e'.trans e,a1,a2,hs.kp m g⟩
 |ins c ns ds=>obtain⟨C,dx,k,v,ec,e,a1,a2,hs⟩:=h;exact⟨C,dx,k,v,ec,e'.trans e,a1,a2,hs.kp m g⟩
 |_=>exact h.elim
theorem OV.mut {a:Addr}{d:D}(h:OV G O H a d):bL (H a):=by
 cases d with
 |lst ds=>obtain⟨xs,e,hs⟩:=h;exact .inl ⟨xs,e⟩
 |dct ks ds=>obtain⟨k,v,e,_⟩:=h;exact .inr<|.inl ⟨k,e⟩
 |dcu ks ds=>obtain⟨k,v,e,_⟩:=h;exact .inr<|.inr<|.inl ⟨(_,k),e⟩
 |ins c ns ds=>obtain⟨C,dx,k,v,_,e,_⟩:=h;exact .inr<|.inr<|.inr ⟨(C,dx,k),e⟩
 |_=>exact h.elim
theorem OV.dv {a:Addr}{d:D}(n:¬O a)(h:OV G O H a d):DV G O H (.ref a) d:=by
 cases d with
 |lst ds=>obtain⟨xs,e,hs⟩:=h;exact .lst (.inl ⟨n,.inl e⟩) hs
 |dct ks ds=>obtain⟨k,v,e,a1,a2,hs⟩:=h;exact .dct n (.inl e) a1 a2 hs
 |dcu ks ds=>obtain⟨k,v,e,a1,a2,hs⟩:=h;exact .dcu n e a1 a2 hs
 |ins c ns ds=>obtain⟨C,dx,k,v,ec,e,a1,a2,hs⟩:=h;exact .ins n ec e a1 a2 hs
 |_=>exact h.elim
theorem DW.mono {v:V}{d:D}(g:aD H H')(h:DW G O H v d):DW G O H' v d:=h.elim (λz=>.inl<|z.mono g) λ⟨a,e,o,z⟩=>.inr ⟨a,e,o,z.mono g⟩
theorem DW.any {v:V}{d:D}(h:DW G O H v d):DV G (λ_=>False) H v d:=by
 rcases h with h|⟨a,e,_,h⟩
 ·exact h.bZ λ_ z=>z.elim
 ·subst e;exact(h.bZ (O':=λ_=>False) λ_ z=>z.elim).dv id
end
section
variable {G:Gx}{O:Za}{H:Hp}{v:V}
theorem qQ (h:DW G O H v .non):v=.non:=by
 rcases h with h|⟨_,_,_,h⟩
 ·cases h;rfl
 ·exact h.elim
theorem zq {b:Bool}(h:DW G O H v (.bl b)):v=.bl b:=by
 rcases h with h|⟨_,_,_,h⟩
 ·cases h;rfl
 ·exact h.elim
theorem bN {i:Int}(h:DW G O H v (.int i)):v=.int i:=by
 rcases h with h|⟨_,_,_,h⟩
 ·cases h;rfl
 ·exact h.elim
theorem cV {x:Str}(h:DW G O H v (.str x)):v=.str x:=by
 rcases h with h|⟨_,_,_,h⟩
 ·cases h;rfl
 ·exact h.elim
theorem Ji {c:Str}{ns:List Str}{es:List D}(h:DW G O H v (.exc c ns es)):∃a C,v=.ref a/\G.mg c=some (.ref C)/\∃ox,H a=some (.frz ox<|.ext<|oK a<|.ref C):=by
 rcases h with h|⟨_,_,_,h⟩
 ·cases h with
  |exc h e=>exact⟨_,_,rfl,h,_,e⟩
 ·exact h.elim
theorem oZ {ds:List D}(h:DW G O H v (.tup ds)):∃a xs,v=.ref a/\SqT G.K H a xs/\DVs G O H xs ds:=by
 rcases h with h|⟨_,_,_,h⟩
 ·cases h with
  |tup h hs=>exact⟨_,_,rfl,h.sq,hs⟩
 ·exact h.elim
theorem yr {ds:List D}(h:DW G O H v (.tup ds)):∃a xs,v=.ref a/\SqU G.K H a xs/\DVs G O H xs ds:=by
 rcases h with h|⟨_,_,_,h⟩
 ·cases h with
  |tup h hs=>exact⟨_,_,rfl,h,hs⟩
 ·exact h.elim
theorem f9 {ds:List D}(h:DW G O H v (.lst ds)):∃a xs,v=.ref a/\SqL G.K H a xs/\DVs G O H xs ds:=by
 rcases h with h|⟨a,e,_,h⟩
 ·cases h with
  |lst h hs=>exact⟨_,_,rfl,h.sq,hs⟩
 ·obtain⟨xs,e',hs⟩:=h;exact⟨a,xs,e,.inl<|.inl e',hs⟩
theorem Kr {ks:List Key}{ds:List D}(h:DW G O H v (.dct ks ds)):∃a ι vs,v=.ref a/\Rd H a (.dK ι)/\ι.map (·.1)=ks/\ι.map (·.2)=vs/\DVs G O H vs ds:=by
 rcases h with h|⟨a,e,_,h⟩
 ·cases h with
  |dct n e a b hs=>exact⟨_,_,_,rfl,e,a,b,hs⟩
 ·obtain⟨k,w,e',a1,a2,hs⟩:=h;exact⟨a,k,w,e,.inl e',a1,a2,hs⟩
theorem T9 {ks:List (List Kt)}{ds:List D}(h:DW G O H v (.dcu ks ds)):∃a ι vs,v=.ref a/\H a=some (.dT (KTp G.K) ι)/\ι.map (·.1)=ks/\ι.map (·.2)=vs/\DVs G O H vs ds:=by
 rcases h with h|⟨a,e,_,h⟩
 ·cases h with
  |dcu n e a b hs=>exact⟨_,_,_,rfl,e,a,b,hs⟩
 ·obtain⟨k,w,e',a1,a2,hs⟩:=h;exact⟨a,k,w,e,e',a1,a2,hs⟩
theorem bT:∀{vs:List V} {ds:List D},DVs G O H vs ds->vs.length=ds.length
 |_,_,.nil=>rfl
 |_,_,.cons _ hs=>by rw[bX,bX,bT hs]
theorem gU:∀{vs us:List V} {ds es:List D},DVs G O H vs ds->DVs G O H us es->DVs G O H (vs++us) (ds++es)
 |_,_,_,_,.nil,h=>h
 |_,_,_,_,.cons a t,h=>.cons a<|gU t h
theorem tK:∀{vs:List V} {ds:List D} {i:Nat} {x:V},DVs G O H vs ds->vs[i]? = some x->∃d,ds[i]? = some d/\DV G O H x d
 |_,_,_,_,.nil,e=>by simp at e
 |_,_,0,_,.cons a _,e=>by simp at e;subst e;exact⟨_,rfl,a⟩
 |_,_,i+1,x,.cons _ t,e=>by
  obtain⟨d,h1,h2⟩:=tK (i:=i) (x:=x) t (by simpa using e);exact⟨d,by simpa using h1,h2⟩
theorem tZ:∀{vs:List V} {ds:List D} {i:Nat} {d:D},DVs G O H vs ds->ds[i]? = some d->∃x,vs[i]? = some x/\DV G O H x d
 |_,_,_,_,.nil,e=>by simp at e
 |_,_,0,_,.cons a _,e=>by simp at e;subst e;exact⟨_,rfl,a⟩
 |_,_,i+1,d,.cons _ t,e=>by
  obtain⟨x,h1,h2⟩:=tZ (i:=i) (d:=d) t (by simpa using e);exact⟨x,by simpa using h1,h2⟩
theorem vf:∀{vs:List V} {ds:List D} (n:Nat),DVs G O H vs ds->DVs G O H (vs.take n) (ds.take n)
 |_,_,0,_=>by simp only[List.take_zero];exact .nil
 |_,_,_+1,.nil=>.nil
 |_,_,n+1,.cons a t=>.cons a<|vf n t
theorem zu:∀{vs:List V} {ds:List D} (n:Nat),DVs G O H vs ds->DVs G O H (vs.drop n) (ds.drop n)
 |_,_,0,h=>h
 |_,_,_+1,.nil=>.nil
 |_,_,n+1,.cons _ t=>zu n t
noncomputable def flat:D->Bool
 | .non|.bl _|.int _|.str _=>true
 |_=>false
end
inductive Sl where
  |un|fz (d:D)|ow (d:D)|io (d:D)|bw (d:D)
  |hd (w:Bool) (a:Addr) (d:D)
abbrev Me:=List Sl
abbrev Os:=Nat->Option Addr
def Ow (O0:Za)(ow:Os):Za:=λb=>O0 b\/∃i,ow i=some b
def Op (O:Za)(p:Addr):Za:=λb=>O b\/b=p
noncomputable def owS (ow:Os)(i:Nat)(x:Option Addr):Os:=λj=>if j=i then x else ow j
theorem dB {ow:Os}{i:Nat}{x:Option Addr}:owS ow i x i=x:=by unfold owS;rw[if_pos rfl]
theorem du {ow:Os}{i j:Nat}{x:Option Addr}(h:j≠i):owS ow i x j=ow j:=by unfold owS;rw[if_neg h]
def Cv (G:Gx)(O M0:Za)(H0:Hp)(oi:Option Addr)(v:Option (Option V))(H:Hp):Sl->Prop
 | .un=>oi=none
 | .fz d=>oi=none/\∃x,v=some (some x)/\DV G O H x d
 | .ow d=>∃a,oi=some a/\H0 a=none/\v=some (some<|.ref a)/\OV G O H a d
 | .io d=>∃a,oi=some a/\M0 a/\v=some (some<|.ref a)/\OV G O H a d
 | .bw d=>oi=none/\∃x,v=some (some x)/\DW G O H x d
 | .hd w a d=>oi=some a/\(w=true->H0 a=none)/\(w=false->M0 a)/\OV G O H a d
structure Rel (G:Gx)(O0 M0:Za)(H0:Hp)(ow:Os)(σ:L2.St)(H:Hp)(m:Me):Prop where
 len:σ.length=m.length
 keep:Kp M0 H0 H
 m0:∀b,M0 b->H b≠none
 mutk:∀b,Ow O0 ow b->bL (H b)
 no0:∀i a,ow i=some a->¬O0 a
 inj:∀i j a,ow i=some a->ow j=some a->i=j
 out:∀i,m.length<=i->ow i=none
 slot:∀i s,m[i]? = some s->Cv G (Ow O0 ow) M0 H0 (ow i) (σ[i]?) H s
structure dO (G:Gx)(O0 M0:Za)(H0:Hp)(ow:Os)(σ:L2.St)(H:Hp)(m:Me):Prop extends Rel G O0 M0 H0 ow σ H m where
 nb:∀(j:Nat) (d:D),m[j]?≠some (Sl.bw d)
structure Go (O0:Za)(ow:Os)(H:Hp)(ow':Os)(H':Hp):Prop where
 keep:Kp (Ow O0 ow) H H'
 new:∀i a,ow' i=some a->Ow O0 ow a\/H a=none
 dom:∀b,H b≠none->H' b≠none
theorem Go.refl {O0:Za}{ow:Os}{H H':Hp}(g:aD H H'):Go O0 ow H ow H':=
 ⟨.of g,λi a e=>.inl<|.inr ⟨i,e⟩,λb n z=>by
  cases q:H b with
  |none=>exact n q
  |some o=>rw[g b o q] at z;cases z⟩
theorem Go.trans {O0:Za}{ow ow1 ow2:Os}{H H1 H2:Hp}(a:Go O0 ow H ow1 H1)(b:Go O0 ow1 H1 ow2 H2):Go O0 ow H ow2 H2 where
 keep:=λc o e n=>b.keep c o (a.keep c o e n) λz=>by
  rcases z with z|⟨i,z⟩
  ·exact n<|.inl z
  ·rcases a.new i c z with y|y
   ·exact n y
   ·rw[y] at e;cases e
 new:=λi c e=>by
  rcases b.new i c e with(z|⟨j,z⟩)|z
  ·exact .inl<|.inl z
  ·exact a.new j c z
  ·refine .inr ?_;cases q:H c with
   |none=>rfl
   |some o=>exact absurd z (a.dom c (by rw[q];simp))
 dom:=λc n=>b.dom c<|a.dom c n
theorem Go.ev {O0:Za}{ow ow':Os}{H H':Hp}(g:Go O0 ow H ow' H'):Ev (Ow O0 ow) H (Ow O0 ow') H':=
 ⟨λb z=>z.elim (λz=>.inl<|.inl z) λ⟨i,e⟩=>g.new i b e,g.keep⟩
theorem qp (O:Za):Ow O (λ_=>none)=O:=by
 funext b;exact propext ⟨λz=>z.elim id λ⟨_,e⟩=>(by cases e),af⟩
section
variable {G:Gx}{O0 M0:Za}{H0 H H':Hp}{ow:Os}{σ:L2.St}{m:Me}
theorem Cv.mono {O:Za}{oi:Option Addr}{v:Option (Option V)}{s:Sl}(g:aD H H')(h:Cv G O M0 H0 oi v H s):Cv G O M0 H0 oi v H' s:=by
 cases s with
 |un=>exact h
 |fz d=>obtain⟨a,x,e,q⟩:=h;exact⟨a,x,e,q.mono g⟩
 |ow d=>obtain⟨a,x,e,f,q⟩:=h;exact⟨a,x,e,f,q.mono g⟩
 |io d=>obtain⟨a,x,e,f,q⟩:=h;exact⟨a,x,e,f,q.mono g⟩
 |bw d=>obtain⟨a,x,e,q⟩:=h;exact⟨a,x,e,q.mono g⟩
 |hd w a d=>obtain⟨x,e,f,q⟩:=h;exact⟨x,e,f,q.mono g⟩
theorem c7 {b:Addr}(g:aD H H')(h:bL (H b)):bL (H' b):=by
 rcases h with⟨x,e⟩|⟨x,e⟩|⟨x,e⟩|⟨x,e⟩
 ·exact .inl ⟨x,g _ _ e⟩
 ·exact .inr<|.inl ⟨x,g _ _ e⟩
 ·exact .inr<|.inr<|.inl ⟨x,g _ _ e⟩
 ·exact .inr<|.inr<|.inr ⟨x,g _ _ e⟩
theorem Rel.mono (R:Rel G O0 M0 H0 ow σ H m)(g:aD H H'):Rel G O0 M0 H0 ow σ H' m:=
 ⟨R.len,λb o e n=>g b o<|R.keep b o e n,λb z q=>R.m0 b z<|aD.free g q,λb z=>c7 g<|R.mutk b z,R.no0,R.inj,R.out,λi s e=>(R.slot i s e).mono g⟩
theorem Cv.bZ {O O':Za}{oi:Option Addr}{v:Option (Option V)}{s:Sl}(sub:∀b,O' b->O b\/H b=none)(h:Cv G O M0 H0 oi v H s)(hb:∀d,s=.bw d->∀b,O b->O' b\/¬O' b):Cv G O' M0 H0 oi v H s:=by
 cases s with
 |un=>exact h
 |fz d=>obtain⟨a,x,e,q⟩:=h;exact⟨a,x,e,q.bZ sub⟩
 |ow d=>obtain⟨a,x,e,f,q⟩:=h;exact⟨a,x,e,f,q.bZ sub⟩
 |io d=>obtain⟨a,x,e,f,q⟩:=h;exact⟨a,x,e,f,q.bZ sub⟩
 |bw d=>
  obtain⟨a,x,e,q⟩:=h;refine⟨a,x,e,?_⟩;rcases q with q|⟨b,e1,o,q⟩
  ·exact .inl<|q.bZ sub
  ·rcases hb d rfl b o with w|w
   ·exact .inr ⟨b,e1,w,q.bZ sub⟩
   ·subst e1;exact .inl<|(q.bZ sub).dv w
 |hd w a d=>obtain⟨x,e,f,q⟩:=h;exact⟨x,e,f,q.bZ sub⟩
theorem Ow.sub {i:Nat}{b:Addr}(z:Ow O0 (owS ow i none) b):Ow O0 ow b:=by
 rcases z with z|⟨j,e⟩
 ·exact .inl z
 ·by_cases q:j=i
  ·subst q;rw[dB] at e;cases e
  ·rw[du q] at e;exact .inr ⟨j,e⟩
theorem xq {α:Type}{l:List α}{i:Nat}{x:α}(e:l[i]? = some x):i<l.length:=(eW.mp e).1
theorem Rel.set {i:Nat}{v:V}{d:D}(R:Rel G O0 M0 H0 ow σ H m)(h:DV G (Ow O0 ow) H v d):
  Rel G O0 M0 H0 (owS ow i none) (σ.set i<|some v) H (m.set i<|.fz d):=by
 have sub:∀b,Ow O0 (owS ow i none) b->Ow O0 ow b\/H b=none:=λb z=>.inl z.sub;refine⟨by simp[R.len],R.keep,R.m0,λb z=>R.mutk b z.sub,λj a e=>?_,λj k a e1 e2=>?_,λj hj=>?_,λj s e=>?_⟩
 ·by_cases q:j=i
  ·subst q;rw[dB] at e;cases e
  ·rw[du q] at e;exact R.no0 j a e
 ·by_cases q:j=i
  ·subst q;rw[dB] at e1;cases e1
  ·by_cases q':k=i
   ·subst q';rw[dB] at e2;cases e2
   ·rw[du q] at e1;rw[du q'] at e2;exact R.inj j k a e1 e2
 ·by_cases q:j=i
  ·subst q;exact dB
  ·rw[du q];exact R.out j<|by simpa using hj
 ·by_cases q:j=i
  ·subst q;have hj:j<m.length:=by simpa using xq e
   rw[dy hj] at e;cases e;rw[dB,dy (by rw[R.len];exact hj)];exact⟨rfl,v,rfl,h.bZ sub⟩
  ·rw[dA<|kL q] at e;rw[du q,dA<|kL q];exact(R.slot j s e).bZ sub λ_ _ b _=>rq _
theorem Go.set {i:Nat}:Go O0 ow H (owS ow i none) H:=
 ⟨λ_ _ e _=>e,λj a e=>.inl (by
  by_cases q:j=i
  ·subst q;rw[dB] at e;cases e
  ·rw[du q] at e;exact .inr ⟨j,e⟩),λ_ n=>n⟩
theorem Rel.U0 (R:Rel G O0 M0 H0 ow σ H m){p:Addr}(n:H p=none):H0 p=none:=by
 cases q:H0 p with
 |none=>rfl
 |some o=>
  by_cases z:M0 p
  ·exact absurd n<|R.m0 p z
  ·rw[R.keep p o q z] at n;cases n
theorem Rel.OJ (R:Rel G O0 M0 H0 ow σ H m){p:Addr}(n:H p=none):¬Ow O0 ow p:=λz=>by
 have:=R.mutk p z
 rw[n] at this;rcases this with⟨_,e⟩|⟨_,e⟩|⟨_,e⟩|⟨_,e⟩<;>cases e
theorem Ow.new {i:Nat}{b p:Addr}(z:Ow O0 (owS ow i<|some p) b):Ow O0 ow b\/b=p:=by
 rcases z with z|⟨j,e⟩
 ·exact .inl<|.inl z
 ·by_cases q:j=i
  ·subst q;rw[dB] at e;cases e;exact .inr rfl
  ·rw[du q] at e;exact .inl<|.inr ⟨j,e⟩
theorem Rel.own {i:Nat}{p:Addr}{d:D}(R:Rel G O0 M0 H0 ow σ H m)(g:aD H H')(n:H p=none)(n0:H0 p=none)(h:OV G (Op (Ow O0 ow) p) H' p d)(hi:i<m.length):
  Rel G O0 M0 H0 (owS ow i<|some p) (σ.set i<|some<|.ref p) H' (m.set i<|.ow d):=by
 have np:=R.OJ n;have sub:∀b,Ow O0 (owS ow i<|some p) b->Ow O0 ow b\/H b=none:=λb z=>z.new.elim .inl λe=>.inr (by rw[e];exact n);refine⟨by simp[R.len],(R.mono g).keep,(R.mono g).m0,λb z=>?_,λj a e=>?_,λj k a e1 e2=>?_,λj hj=>?_,λj s e=>?_⟩
 ·rcases z.new with z|z
  ·exact(R.mono g).mutk b z
  ·rw[z];exact h.mut
 ·by_cases q:j=i
  ·subst q;rw[dB] at e;cases e;exact λz=>np<|.inl z
  ·rw[du q] at e;exact R.no0 j a e
 ·by_cases q:j=i
  ·subst q;rw[dB] at e1;cases e1;by_cases q':k=j
   ·exact q'.symm
   ·rw[du q'] at e2;exact absurd (.inr ⟨k,e2⟩) np
  ·rw[du q] at e1;by_cases q':k=i
   ·subst q';rw[dB] at e2;cases e2;exact absurd (.inr ⟨j,e1⟩) np
   ·rw[du q'] at e2;exact R.inj j k a e1 e2
 ·have hj':m.length<=j:=by simpa using hj
  rw[du<|by omega];exact R.out j hj'
 ·by_cases q:j=i
  ·subst q;rw[dy hi] at e;cases e;rw[dB,dy (by rw[R.len];exact hi)];exact⟨p,rfl,n0,rfl,h.bZ λb z=>.inl<|z.new.elim .inl .inr⟩
  ·rw[dA<|kL q] at e;rw[du q,dA<|kL q];exact((R.slot j s e).bZ sub λ_ _ b _=>rq _).mono g
theorem Go.own {i:Nat}{p:Addr}(g:aD H H')(n:H p=none):Go O0 ow H (owS ow i<|some p) H':=
 ⟨.of g,λj a e=>by
  by_cases q:j=i
  ·subst q;rw[dB] at e;cases e;exact .inr n
  ·rw[du q] at e;exact .inl<|.inr ⟨j,e⟩,(Go.refl (O0:=O0) (ow:=ow) g).dom⟩
theorem uz {i:Nat}{s:Sl}(nb:∀(j:Nat) (d:D),m[j]?≠some (Sl.bw d))(hs:∀d,s≠.bw d):∀(j:Nat) (d:D),(m.set i s)[j]?≠some (Sl.bw d):=λj d e=>by
 by_cases q:j=i
 ·subst q;have hj:j<m.length:=by simpa using xq e
  rw[dy hj] at e;exact hs d<|ck e
 ·rw[dA<|kL q] at e;exact nb j d e
theorem dO.mono (R:dO G O0 M0 H0 ow σ H m)(g:aD H H'):dO G O0 M0 H0 ow σ H' m:=⟨R.toRel.mono g,R.nb⟩
theorem dO.set {i:Nat}{v:V}{d:D}(R:dO G O0 M0 H0 ow σ H m)(h:DV G (Ow O0 ow) H v d):dO G O0 M0 H0 (owS ow i none) (σ.set i<|some v) H (m.set i<|.fz d):=
 ⟨R.toRel.set h,uz R.nb λ_ z=>by cases z⟩
theorem dO.own {i:Nat}{p:Addr}{d:D}(R:dO G O0 M0 H0 ow σ H m)(g:aD H H')(n:H p=none)(n0:H0 p=none)(h:OV G (Op (Ow O0 ow) p) H' p d)(hi:i<m.length):
  dO G O0 M0 H0 (owS ow i<|some p) (σ.set i<|some<|.ref p) H' (m.set i<|.ow d):=⟨R.toRel.own g n n0 h hi,uz R.nb λ_ z=>by cases z⟩
noncomputable def Sl.let:Sl->Sl
 | .ow d=>.fz d
 |s=>s
noncomputable def Me.let (m:Me):Me:=m.map Sl.let
theorem dO.let (R:dO G O0 M0 H0 ow σ H m):∃ow',dO G O0 M0 H0 ow' σ H m.let/\Go O0 ow H ow' H:=by
 let ow':Os:=λi=>match m[i]? with
  |some (.io _)=>ow i
  |some (.hd _ _ _)=>ow i
  |_=>none
 have le:∀i a,ow' i=some a->ow i=some a/\∀d,m[i]?≠some (.ow d):=λi a e=>by
  simp only[ow'] at e;split at e
  ·rename_i d q;exact⟨e,λd z=>by rw[q] at z;cases z⟩
  ·rename_i w b d q;exact⟨e,λd z=>by rw[q] at z;cases z⟩
  ·cases e
 have sub:∀b,Ow O0 ow' b->Ow O0 ow b\/H b=none:=λb z=>.inl<|z.elim .inl λ⟨i,e⟩=>.inr ⟨i,(le i b e).1⟩;refine⟨ow',⟨⟨by simp[Me.let,R.len],R.keep,R.m0,λb z=>?_,λi a e=>R.no0 i a (le i a e).1,λi j a e1 e2=>R.inj i j a (le i a e1).1 (le j a e2).1,λi hi=>?_,λi s e=>?_⟩,λj d e=>?_⟩,λb o e n=>e,λi a e=>.inl<|.inr ⟨i,(le i a e).1⟩,λ_ n=>n⟩
 ·exact R.mutk b<|z.elim .inl λ⟨i,e⟩=>.inr ⟨i,(le i b e).1⟩
 ·have hi':m.length<=i:=by simpa[Me.let] using hi
  simp only[ow'];rw[List.getElem?_eq_none hi']
 ·unfold Me.let at e;rw[c9] at e;cases q:m[i]? with
  |none=>rw[q] at e;cases e
  |some s0=>
   rw[q] at e;cases e;have z:=R.slot i s0 q;cases s0 with
   |un=>exact(show ow' i=none by simp only[ow',q])
   |fz d=>obtain⟨_,x,e,h⟩:=z;exact⟨(show ow' i=none by simp only[ow',q]),x,e,h.bZ sub⟩
   |ow d=>
    obtain⟨a,e1,e2,e3,h⟩:=z;refine⟨(show ow' i=none by simp only[ow',q]),.ref a,e3,(h.bZ sub).dv λw=>?_⟩;rcases w with w|⟨j,w⟩
    ·exact R.no0 i a e1 w
    ·obtain⟨w1,w2⟩:=le j a w
     have:=R.inj i j a e1 w1
     subst this;exact w2 d q
   |io d=>
    obtain⟨a,e1,e2,e3,h⟩:=z;exact⟨a,(show ow' i=some a by simp only[ow',q];exact e1),e2,e3,h.bZ sub⟩
   |bw d=>exact(R.nb i d q).elim
   |hd w a d=>
    obtain⟨e1,e2,e3,h⟩:=z;exact⟨(show ow' i=some a by simp only[ow',q];exact e1),e2,e3,h.bZ sub⟩
 ·unfold Me.let at e;rw[c9] at e;cases q:m[j]? with
  |none=>rw[q] at e;cases e
  |some s0=>
   rw[q] at e;cases s0 with
   |bw d'=>exact R.nb j d' q
   |_=>cases e
end
def Pu (G:Gx)(E:XK){α:Type}(r:Res α)(H:Hp)(k:α->Prop):Prop:=match r with
 | .ok a=>k a
 | .exc c=>∀C H',XP G H' c C->aD H H'->E (.ref C.1) C.2 H'
 | .stuck=>False
theorem Pu.bind {G:Gx}{E:XK}{α β:Type}{r:Res α}{f:α->Res β}{H:Hp}{k:β->Prop}(h:Pu G E (r.bind f) H k):Pu G E r H λa=>Pu G E (f a) H k:=by
 cases r with
 |ok a=>exact h
 |exc c=>exact h
 |stuck=>exact h
theorem Pu.imp {G:Gx}{E:XK}{α:Type}{r:Res α}{H H':Hp}{k k':α->Prop}(h:Pu G E r H k)(g:aD H H')(hk:∀a,k a->k' a):Pu G E r H' k':=by
 cases r with
 |ok a=>exact hk a h
 |exc c=>exact λC H1 e g1=>h C H1 e<|g.trans g1
 |stuck=>exact h
theorem Pu.ofO {G:Gx}{E:XK}{α:Type}{r:Option α}{H:Hp}{k:α->Prop}(h:Pu G E (ofO r) H k):∃a,r=some a/\k a:=by
 cases r with
 |some a=>exact⟨a,rfl,h⟩
 |none=>exact h.elim
def tE (G:Gx)(E:XK)(f:Me->Res D):TE:=λσ H Q=>∃O0 M0 H0 ow m,Rel G O0 M0 H0 ow σ H m/\Pu G E (f m) H λd=>∀v H',aD H H'->DV G (Ow O0 ow) H' v d->Q v H'
def tB (G:Gx)(E:XK)(f:Me->Res D):TE:=λσ H Q=>∃O0 M0 H0 ow m,Rel G O0 M0 H0 ow σ H m/\Pu G E (f m) H λd=>∀v H',aD H H'->DW G (Ow O0 ow) H' v d->Q v H'
def tN (G:Gx)(E:XK)(f:Me->Res D):TE:=λσ H Q=>∃O0 M0 H0 ow m,Rel G O0 M0 H0 ow σ H m/\Pu G E (f m) H λd=>∀p H',aD H H'->H p=none->OV G (Op (Ow O0 ow) p) H' p d->Q (.ref p) H'
def tT (G:Gx)(E:XK)(f:Me->Res Bool):TT:=λσ H Q=>∃O0 M0 H0 ow m,Rel G O0 M0 H0 ow σ H m/\Pu G E (f m) H λb=>∀H',aD H H'->Q b H'
def tAE (G:Gx)(E:XK)(f:Me->Res (List D)):TA:=λσ H Q=>∃O0 M0 H0 ow m,Rel G O0 M0 H0 ow σ H m/\Pu G E (f m) H λds=>∀vs H',aD H H'->DVs G (Ow O0 ow) H' vs ds->Q vs H'
def tAB (G:Gx)(E:XK)(f:Me->Res (List D)):TA:=λσ H Q=>∃O0 M0 H0 ow m,Rel G O0 M0 H0 ow σ H m/\Pu G E (f m) H λds=>∀vs H',aD H H'->DWs G (Ow O0 ow) H' vs ds->Q vs H'
abbrev FE (X:Cx)(E:XK)(e:Expr)(f:Me->Res D):Prop:=PE X e<|tE (gx X) E f
abbrev FB (X:Cx)(E:XK)(e:Expr)(f:Me->Res D):Prop:=PE X e<|tB (gx X) E f
abbrev FN (X:Cx)(E:XK)(e:Expr)(f:Me->Res D):Prop:=PE X e<|tN (gx X) E f
abbrev FT (X:Cx)(E:XK)(e:Expr)(f:Me->Res Bool):Prop:=PT X e<|tT (gx X) E f
abbrev FW (X:Cx)(E:XK)(e:Expr)(f:Me->Res Bool):Prop:=PW X e<|tT (gx X) E f
abbrev FAE (X:Cx)(E:XK)(es:List Expr)(f:Me->Res (List D)):Prop:=PA X es<|tAE (gx X) E f
abbrev FAB (X:Cx)(E:XK)(es:List Expr)(f:Me->Res (List D)):Prop:=PA X es<|tAB (gx X) E f
theorem wZ {X:Cx}{e:Expr}{T T':TT}(h:PT X e T)(k:∀σ H Q,T' σ H Q->T σ H Q):PT X e T':=λπ s σ H Q I q=>h π s σ H Q I<|k σ H Q q
theorem Ni {X:Cx}{e:Expr}{T T':TT}(h:PW X e T)(k:∀σ H Q,T' σ H Q->T σ H Q):PW X e T':=λwh π s σ H Q I q=>h wh π s σ H Q I<|k σ H Q q
theorem sU {X:Cx}{es:List Expr}{T T':TA}(h:PA X es T)(k:∀σ H Q,T' σ H Q->T σ H Q):PA X es T':=λpos π s σ H Q I q=>h pos π s σ H Q I<|k σ H Q q
section
variable {X:Cx}{E:XK}{e a b c:Expr}{es:List Expr}{f fa fb fc:Me->Res D}{fs:Me->Res (List D)}{ft fu:Me->Res Bool}{pos:Pos}
theorem ak (h:FE X E e f):FB X E e f:=bF h λ_ _ _ hE=>xq5 hE λO0 M0 H0 ow m R q=>⟨O0,M0,H0,ow,m,R,q.imp (aD.refl _) λ_ k v H' g d=>k v H' g<|.inl d⟩
theorem di (h:FN X E e f):FE X E e f:=bF h λ_ _ _ hE=>xq5 hE λO0 M0 H0 ow m R q=>⟨O0,M0,H0,ow,m,R,q.imp (aD.refl _) λ_ k p H' g n o=>
 k _ H' g ((o.bZ λb z=>.inl<|.inl z).dv<|R.OJ n)⟩
noncomputable def bW (i:Nat):Me->Res D:=λm=>match m[i]? with
 |some (.fz d)=>.ok d
 |_=>.stuck
noncomputable def aj (i:Nat):Me->Res D:=λm=>match m[i]? with
 |some (.fz d)=>.ok d
 |some (.ow d)=>.ok d
 |some (.io d)=>.ok d
 |some (.bw d)=>.ok d
 |_=>.stuck
theorem bV (i:Nat){x:Str}(hN:X.N[i]? = some x:=by rfl)(hv:Vis X.env.scope x:=by first|exact af rfl|exact kF (af rfl)|exact kF (kF rfl))(hd:(x==("__debug__":Str))=false:=by decide)
  (hcd:(x==("__classdict__":Str))=false:=by decide):FE X E (.Name x pos) (bW i):=bF (aA hN hv hd hcd) λσ H Q hE=>xq5 hE λO0 M0 H0 ow m R q=>by
 unfold bW at q;cases e:m[i]? with
 |none=>rw[e] at q;exact q.elim
 |some s=>
  rw[e] at q;cases s with
  |fz d=>
   obtain⟨_,x,h1,h2⟩:=R.slot i _ e;exact⟨x,h1,q x H (aD.refl _) h2⟩
  |_=>exact q.elim
theorem aq (i:Nat){x:Str}(hN:X.N[i]? = some x:=by rfl)(hv:Vis X.env.scope x:=by first|exact af rfl|exact kF (af rfl)|exact kF (kF rfl))(hd:(x==("__debug__":Str))=false:=by decide)
  (hcd:(x==("__classdict__":Str))=false:=by decide):FB X E (.Name x pos) (aj i):=bF (aA hN hv hd hcd) λσ H Q hE=>xq5 hE λO0 M0 H0 ow m R q=>by
 unfold aj at q;cases e:m[i]? with
 |none=>rw[e] at q;exact q.elim
 |some s=>
  rw[e] at q;cases s with
  |fz d=>
   obtain⟨_,x,h1,h2⟩:=R.slot i _ e;exact⟨x,h1,q x H (aD.refl _)<|.inl h2⟩
  |bw d=>
   obtain⟨_,x,h1,h2⟩:=R.slot i _ e;exact⟨x,h1,q x H (aD.refl _) h2⟩
  |ow d=>
   obtain⟨a,h1,h2,h3,h4⟩:=R.slot i _ e;exact⟨_,h3,q _ H (aD.refl _)<|.inr ⟨a,rfl,.inr ⟨i,h1⟩,h4⟩⟩
  |io d=>
   obtain⟨a,h1,h2,h3,h4⟩:=R.slot i _ e;exact⟨_,h3,q _ H (aD.refl _)<|.inr ⟨a,rfl,.inr ⟨i,h1⟩,h4⟩⟩
  |un=>exact q.elim
  |hd _ _ _=>exact q.elim
def fC (d:D):Me->Res D:=λ_=>.ok d
theorem Lk {d:D}{v:V}(h:PE X e (tC v))(hd:∀O H,DV (gx X) O H v d):FE X E e (fC d):=bF h λσ H Q hE=>xq5 hE λO0 M0 H0 ow m R q=>q v H (aD.refl _)<|hd _ _
theorem aH {i j pos}:FE X E (.Constant (.int i) j pos) (fC<|.int i):=Lk lJ λ_ _=>.int i
theorem gM {b j pos}:FE X E (.Constant (.bool b) j pos) (fC<|.bl b):=Lk J4 λ_ _=>.bl b
theorem Tq {j pos}:FE X E (.Constant .none j pos) (fC .non):=Lk qH λ_ _=>.non
theorem aM {x j pos}:FE X E (.Constant (.str x) j pos) (fC<|.str x):=Lk cj λ_ _=>.str x
theorem nR {x:Str}{v:V}{u:a7}{d:D}(hg:Gl X x)(hm:X.mg x=some u)(r:RelV v u)(hd:∀O H,DV (gx X) O H v d)(hdb:(x==("__debug__":Str))=false:=by decide):FE X E (.Name x pos) (fC d):=Lk (mz hg hm r hdb) hd
def rG (G:Gx)(g:D->D->Option D):R2:=λx y H Q=>∃O d e r,(∀b,O b->bL (H b))/\DW G O H x d/\DW G O H y e/\g d e=some r/\∀v H',aD H H'->DV G O H' v r->Q v H'
def rGB (G:Gx)(g:D->D->Option Bool):R2:=λx y H Q=>∃O d e r,(∀b,O b->bL (H b))/\DW G O H x d/\DW G O H y e/\g d e=some r/\Q (.bl r) H
def rG1 (G:Gx)(g:D->Option D):V->Hp->VK->Prop:=λx H Q=>∃O d r,(∀b,O b->bL (H b))/\DW G O H x d/\g d=some r/\∀v H',aD H H'->DV G O H' v r->Q v H'
def rGC (G:Gx)(g:List D->Option D):List V->Hp->VK->Prop:=λxs H Q=>∃O ds r,(∀b,O b->bL (H b))/\DWs G O H xs ds/\g ds=some r/\∀v H',aD H H'->DV G O H' v r->Q v H'
def R9 (G:Gx)(g:List D->Option D):List V->Hp->VK->Prop:=λxs H Q=>∃O ds r,(∀b,O b->bL (H b))/\DWs G O H xs ds/\g ds=some r/\∀p H',aD H H'->H p=none->OV G (Op O p) H' p r->Q (.ref p) H'
def rGM (G:Gx)(g:D->List D->Option D):V->List V->Hp->VK->Prop:=λx xs H Q=>∃O d ds r,(∀b,O b->bL (H b))/\DW G O H x d/\DWs G O H xs ds/\g d ds=some r/\∀v H',aD H H'->DV G O H' v r->Q v H'
noncomputable def aF (g:D->D->Option D)(fa fb:Me->Res D):Me->Res D:=λm=>(fa m).bind λx=>(fb m).bind λy=>ofO<|g x y
noncomputable def gQ (g:D->D->Option Bool)(fa fb:Me->Res D):Me->Res D:=λm=>(fa m).bind λx=>(fb m).bind λy=>ofO<|(g x y).map D.bl
noncomputable def bK (g:D->D->Option Bool)(fa fb:Me->Res D):Me->Res Bool:=λm=>(fa m).bind λx=>(fb m).bind λy=>ofO<|g x y
noncomputable def fUn (g:D->Option D)(fa:Me->Res D):Me->Res D:=λm=>(fa m).bind λx=>ofO<|g x
theorem two {G:Gx}{σ:L2.St}{H:Hp}{Q:VK}{r:R2}{O0 M0:Za}{H0:Hp}{ow:Os}{m:Me}{β:Type}{g:D->D->Res β}{K:β->Hp->Prop}(R:Rel G O0 M0 H0 ow σ H m)(h:Pu G E ((fa m).bind λx=>(fb m).bind λy=>g x y) H λz=>K z H)
  (hm:∀z H',K z H->aD H H'->K z H')
  (k:∀x y d e H',aD H H'->DW G (Ow O0 ow) H' x d->DW G (Ow O0 ow) H' y e->Pu G E (g d e) H' (λz=>K z H')->Rel G O0 M0 H0 ow σ H' m->r x y H' Q):tOp r (tB G E fa) (tB G E fb) σ H Q:=by
 refine⟨O0,M0,H0,ow,m,R,h.bind.imp (aD.refl _) λd q x H1 g1 hx=>⟨O0,M0,H0,ow,m,R.mono g1,q.bind.imp g1 λe q2 y H2 g2 hy=>?_⟩⟩;exact k x y d e H2 (g1.trans g2) (hx.mono g2) hy (q2.imp (g1.trans g2) λz kz=>hm z _ kz<|g1.trans g2)<|R.mono<|g1.trans g2
theorem aQ {g:D->D->Option D}{op:Operator}(ho:OpR X (gp op) (rG (gx X) g))(ha:FB X E a fa)(hb:FB X E b fb):FE X E (.BinOp a op b pos) (aF g fa fb):=
 bF (Dq ho ha hb) λσ H Q hE=>xq5 hE λO0 M0 H0 ow m R q=>two R (K:=λz H=>∀v H',aD H H'->DV (gx X) (Ow O0 ow) H' v z->Q v H') q (λ_ _ k g v H' g' d=>k v H' (g.trans g') d) λx y d e H' g hx hy q' R'=>by
  obtain⟨r,hr,k⟩:=q'.ofO;exact⟨_,d,e,r,R'.mutk,hx,hy,hr,k⟩
theorem cR {g:D->D->Option D}(ho:IxR X (rG (gx X) g))(ha:FB X E a fa)(hb:FB X E b fb)(hs:xW b):FE X E (.Subscript a b pos) (aF g fa fb):=
 bF (uQ ho ha hb hs) λσ H Q hE=>xq5 hE λO0 M0 H0 ow m R q=>two R (K:=λz H=>∀v H',aD H H'->DV (gx X) (Ow O0 ow) H' v z->Q v H') q (λ_ _ k g v H' g' d=>k v H' (g.trans g') d) λx y d e H' g hx hy q' R'=>by
  obtain⟨r,hr,k⟩:=q'.ofO;exact⟨_,d,e,r,R'.mutk,hx,hy,hr,k⟩
theorem omap {α β:Type}{o:Option α}{f:α->β}{r:β}(h:o.map f=some r):∃a,o=some a/\f a=r:=by
 cases o with
 |none=>cases h
 |some a=>exact⟨a,rfl,ck h⟩
theorem iW {g:D->D->Option Bool}{op:CmpOp}(ho:OpR X (dk op) (rGB (gx X) g))(ha:FB X E a fa)(hb:FB X E b fb)(hm:iv op b=false):FE X E (.Compare a [op] [b] pos) (gQ g fa fb):=
 bF (Nk ho ha hb hm) λσ H Q hE=>xq5 hE λO0 M0 H0 ow m R q=>two R (K:=λz H=>∀v H',aD H H'->DV (gx X) (Ow O0 ow) H' v z->Q v H') q (λ_ _ k g v H' g' d=>k v H' (g.trans g') d) λx y d e H' g hx hy q' R'=>by
  obtain⟨r,hr,k⟩:=q'.ofO;obtain⟨c,hc,rfl⟩:=omap hr;exact⟨_,d,e,c,R'.mutk,hx,hy,hc,k _ _ (aD.refl _)<|.bl c⟩
theorem eG {g:D->D->Option Bool}{op:CmpOp}(ho:OpR X (dk op) (rGB (gx X) g))(ha:FB X E a fa)(hb:FB X E b fb)(hm:iv op b=false):FT X E (.Compare a [op] [b] pos) (bK g fa fb):=
 wZ (ou ho ha hb hm) λσ H Q hE=>xq5 hE λO0 M0 H0 ow m R q=>two R (K:=λz H=>∀H',aD H H'->Q z H') q (λ_ _ k g H' g'=>k H'<|g.trans g') λx y d e H' g hx hy q' R'=>by
  obtain⟨c,hc,k⟩:=q'.ofO;exact⟨_,d,e,c,R'.mutk,hx,hy,hc,c,rfl,k _<|aD.refl _⟩
theorem Vs {g:D->Option D}{op:UnaryOp}(ho:UnR X (unaryOp op) (rG1 (gx X) g))(ha:FB X E a fa):FE X E (.UnaryOp op a pos) (fUn g fa):=
 bF (Mq ho ha) λσ H Q hE=>xq5 hE λO0 M0 H0 ow m R q=>⟨O0,M0,H0,ow,m,R,q.bind.imp (aD.refl _) λd q x H1 g1 hx=>by
  obtain⟨r,hr,k⟩:=q.ofO;exact⟨_,d,r,(R.mono g1).mutk,hx,hr,λv H' g d=>k v H' (g1.trans g) d⟩⟩
def iR (g g':D->D->Option Bool)(fa fb fc:Me->Res D):Me->Res D:=λm=>(fa m).bind λx=>(fb m).bind λy=>(ofO<|g x y).bind λc=>if c then(fc m).bind λz=>ofO ((g' y z).map D.bl) else .ok (.bl false)
theorem M8 {r:R2}{g g':D->D->Option Bool}{β:Type}{w:Bool->β}{O0 M0:Za}{H0:Hp}{ow:Os}{m:Me}{σ:L2.St}{H:Hp}{Q:VK}{K:β->Hp->Prop}(R:Rel (gx X) O0 M0 H0 ow σ H m)
  (h:Pu (gx X) E ((fa m).bind λx=>(fb m).bind λy=>(ofO<|g x y).bind λc=>if c then(fc m).bind λz=>ofO ((g' y z).map w) else .ok (w false)) H λz=>K z H) (hm:∀z H',K z H->aD H H'->K z H') (kq:∀z H',K (w z) H'->Q (.bl z) H'):
  Jk (rGB (gx X) g) (rGB (gx X) g') (tB (gx X) E fa) (tB (gx X) E fb) (tB (gx X) E fc) σ H Q:=by
 refine⟨O0,M0,H0,ow,m,R,h.bind.imp (aD.refl _) λd q x H1 g1 hx=>⟨O0,M0,H0,ow,m,R.mono g1,q.bind.imp g1 λe q2 y H2 g2 hy=>?_⟩⟩;obtain⟨c,hc,q3⟩:=q2.bind.ofO;have G2:=g1.trans g2;refine⟨_,d,e,c,(R.mono G2).mutk,hx.mono g2,hy,hc,c,rfl,?_⟩;cases c with
 |true=>
  rw[if_pos rfl] at q3 ⊢;refine⟨O0,M0,H0,ow,m,R.mono G2,q3.bind.imp G2 λz q4 u H3 g3 hu=>?_⟩;obtain⟨r',hr,k⟩:=q4.ofO;obtain⟨c',hc',rfl⟩:=omap hr;exact⟨_,e,z,c',(R.mono<|G2.trans g3).mutk,hy.mono g3,hu,hc',kq c' H3<|hm _ _ k<|G2.trans g3⟩
 |false=>
  rw[if_neg aI] at q3 ⊢;exact kq _ _<|hm _ _ q3 G2
theorem uE {g g':D->D->Option Bool}{op op':CmpOp}(ho:OpR X (dk op) (rGB (gx X) g))(ho':OpR X (dk op') (rGB (gx X) g'))(ha:FB X E a fa)(hb:FB X E b fb)(hc:FB X E c fc)(hm:lastMarks [op,op'] [b,c]=false:=by with_unfolding_all rfl):
  FE X E (.Compare a [op,op'] [b,c] pos) (iR g g' fa fb fc):=bF (Jt ho ho' ha hb hc hm) λσ H Q hE=>xq5 hE λO0 M0 H0 ow m R q=>
 M8 (w:=D.bl) (r:=rGB (gx X) g) R (K:=λz H=>∀v H',aD H H'->DV (gx X) (Ow O0 ow) H' v z->Q v H') q (λ_ _ k g v H' g' d=>k v H' (g.trans g') d) λz H' k=>k _ _ (aD.refl _)<|.bl z
noncomputable def fTv (fa:Me->Res D):Me->Res Bool:=λm=>(fa m).bind λx=>match x with
 | .bl b=>.ok b
 |_=>.stuck
theorem dJ (h:FE X E e f)(he:∀whole,isTrue e X.env whole=(do let v←whole;standAt e.pos;holding [v] (truthy v)):=by intro _;rfl):FT X E e (fTv f):=
 wZ (gK h he) λσ H Q hE=>xq5 hE λO0 M0 H0 ow m R q=>⟨O0,M0,H0,ow,m,R,q.bind.imp (aD.refl _) λd q v H' g hv=>by
  cases d with
  |bl b=>cases hv;exact⟨b,rfl,q H' g⟩
  |_=>exact q.elim⟩
noncomputable def cz (ft:Me->Res Bool):Me->Res Bool:=λm=>(ft m).bind λc=>.ok<|!c
noncomputable def dN (ft fu:Me->Res Bool):Me->Res Bool:=λm=>(ft m).bind λc=>if c then .ok true else fu m
theorem dX (h:FT X E a ft):FT X E (.UnaryOp .Not a pos) (cz ft):=wZ (nu h) λσ H Q hE=>xq5 hE λO0 M0 H0 ow m R q=>⟨O0,M0,H0,ow,m,R,q.bind.imp (aD.refl _) λb q H' g=>q H' g⟩
theorem my (h:FT X E a ft):FW X E (.BoolOp .Or [a] pos) ft:=RW h
theorem jF (ha:FT X E a ft)(hb:FW X E (.BoolOp .Or (b::es) pos) fu):FW X E (.BoolOp .Or (a::b::es) pos) (dN ft fu):=
 Ni (Wi ha hb) λσ H Q hE=>xq5 hE λO0 M0 H0 ow m R q=>⟨O0,M0,H0,ow,m,R,q.bind.imp (aD.refl _) λb q H' g=>by
  cases b with
  |false=>rw[if_neg aI] at q ⊢;exact⟨O0,M0,H0,ow,m,R.mono g,q.imp g λ_ k H1 g1=>k H1<|g.trans g1⟩
  |true=>rw[if_pos rfl] at q ⊢;exact q H' g⟩
theorem xU (h:FW X E e ft):FT X E e ft:=L2.PW.pt h
def V6 (fa:Me->Res D):Me->Res D:=λm=>(fTv fa m).bind λc=>.ok<|.bl !c
def jT (fa fb:Me->Res D):Me->Res D:=λm=>(fTv fa m).bind λc=>if c then fb m else .ok (.bl false)
theorem JP {G:Gx}{O:Za}{m:Me}{H:Hp}{k:Bool->Prop}(h:Pu G E (fTv fa m) H k):Pu G E (fa m) H λd=>∃b,d=.bl b/\k b:=by
 refine h.bind.imp (aD.refl _) λd q=>?_;cases d with
 |bl b=>exact⟨b,rfl,q⟩
 |_=>exact q.elim
theorem lK {op}(h:FE X E a fa):FE X E (.BoolOp op [a] pos) fa:=T5 h
theorem kj (ha:FE X E a fa)(hb:FE X E (.BoolOp .And (b::es) pos) fb):FE X E (.BoolOp .And (a::b::es) pos) (jT fa fb):=
 bF (UL ha hb) λσ H Q hE=>xq5 hE λO0 M0 H0 ow m R q=>⟨O0,M0,H0,ow,m,R,(JP (O:=O0) q.bind).imp (aD.refl _) λd ⟨b,e,q⟩ v H' g hv=>by
  subst e;cases hv;refine⟨b,rfl,?_⟩;cases b with
  |true=>rw[if_pos rfl] at q ⊢;exact⟨O0,M0,H0,ow,m,R.mono g,q.imp g λ_ k v H1 g1=>k v H1<|g.trans g1⟩
  |false=>rw[if_neg aI] at q ⊢;exact q _ H' g<|.bl false⟩
theorem RN (ha:FE X E a fa):FE X E (.UnaryOp .Not a pos) (V6 fa):=
 bF (Tp ha) λσ H Q hE=>xq5 hE λO0 M0 H0 ow m R q=>⟨O0,M0,H0,ow,m,R,(JP (O:=O0) q.bind).imp (aD.refl _) λd ⟨b,e,q⟩ v H' g hv=>by
  subst e;cases hv;exact⟨b,rfl,q _ H' g<|.bl _⟩⟩
def fIf (ft:Me->Res Bool)(fa fb:Me->Res D):Me->Res D:=λm=>(ft m).bind λc=>if c then fa m else fb m
theorem RD (hc:FT X E c ft)(ha:FE X E a fa)(hb:FE X E b fb):FE X E (.IfExp c a b pos) (fIf ft fa fb):=
 bF (t6 hc ha hb) λσ H Q hE=>xq5 hE λO0 M0 H0 ow m R q=>⟨O0,M0,H0,ow,m,R,q.bind.imp (aD.refl _) λb q H' g=>by
  cases b with
  |false=>rw[if_neg aI] at q ⊢;exact⟨O0,M0,H0,ow,m,R.mono g,q.imp g λ_ k v H1 g1=>k v H1<|g.trans g1⟩
  |true=>rw[if_pos rfl] at q ⊢;exact⟨O0,M0,H0,ow,m,R.mono g,q.imp g λ_ k v H1 g1=>k v H1<|g.trans g1⟩⟩
def aG:Me->Res (List D):=λ_=>.ok []
noncomputable def aa (fa:Me->Res D)(fs:Me->Res (List D)):Me->Res (List D):=λm=>(fa m).bind λx=>(fs m).bind λxs=>.ok (x::xs)
theorem aN:FAE X E [] aG:=sU aP λσ H Q hE=>xq5 hE λO0 M0 H0 ow m R q=>q [] H (aD.refl _) .nil
theorem aX:FAB X E [] aG:=sU aP λσ H Q hE=>xq5 hE λO0 M0 H0 ow m R q=>q [] H (aD.refl _) .nil
theorem au (ha:FE X E e fa)(hr:FAE X E es fs)(hs:ar (e::es) X.env=(false,eval e X.env)::ar es X.env:=by rfl):FAE X E (e::es) (aa fa fs):=
 sU (aB ha hr hs) λσ H Q hE=>xq5 hE λO0 M0 H0 ow m R q=>⟨O0,M0,H0,ow,m,R,q.bind.imp (aD.refl _) λd q v H1 g1 hv=>⟨O0,M0,H0,ow,m,R.mono g1,q.bind.imp g1 λds q vs H2 g2 hvs=>q _ H2 (g1.trans g2)<|.cons (hv.mono g2) hvs⟩⟩
theorem aR (ha:FB X E e fa)(hr:FAB X E es fs)(hs:ar (e::es) X.env=(false,eval e X.env)::ar es X.env:=by rfl):FAB X E (e::es) (aa fa fs):=
 sU (aB ha hr hs) λσ H Q hE=>xq5 hE λO0 M0 H0 ow m R q=>⟨O0,M0,H0,ow,m,R,q.bind.imp (aD.refl _) λd q v H1 g1 hv=>⟨O0,M0,H0,ow,m,R.mono g1,q.bind.imp g1 λds q vs H2 g2 hvs=>q _ H2 (g1.trans g2)<|.cons (hv.mono g2) hvs⟩⟩
noncomputable def rW (fs:Me->Res (List D)):Me->Res D:=λm=>(fs m).bind λds=>if ds.length<=be then .ok (.tup ds) else .stuck
noncomputable def dq (fs:Me->Res (List D)):Me->Res D:=λm=>(fs m).bind λds=>if ds.length<=be then .ok (.lst ds) else .stuck
theorem Dw {G:Gx}{α:Type}{c:Prop}[Decidable c]{r:α}{H:Hp}{k:α->Prop}(h:Pu G E (if c then .ok r else .stuck) H k):c/\k r:=by
 by_cases z:c
 ·rw[if_pos z] at h;exact⟨z,h⟩
 ·rw[if_neg z] at h;exact h.elim
theorem uT {x1}(h:FAE X E es fs):FE X E (.Tuple es x1 pos) (rW fs):=bF (N7 h) λσ H Q hE=>xq5 hE λO0 M0 H0 ow m R q=>⟨O0,M0,H0,ow,m,R,q.bind.imp (aD.refl _) λds q vs H1 g1 hv=>by
 obtain⟨hz,k⟩:=Dw q;exact⟨by rw[bT hv];exact hz,λp H' g e=>k _ H' (g1.trans g)<|.tup (SqU.of e)<|hv.mono g⟩⟩
theorem eX (h:FAE X E es fs):FN X E (.List es pos) (dq fs):=bF (xT<|Ro h) λσ H Q hE=>xq5 hE λO0 M0 H0 ow m R q=>⟨λvs H1=>aD H H1/\∃ds,DVs (gx X) (Ow O0 ow) H1 vs ds/\ds.length<=be/\∀p H',aD H H'->H p=none->OV (gx X) (Op (Ow O0 ow) p) H' p (.lst ds)->Q (.ref p) H',⟨O0,M0,H0,ow,m,R,q.bind.imp (aD.refl _) λds q vs H1 g1 hv=>⟨g1,ds,hv,Dw q⟩⟩,λvs H1 ⟨g1,ds,hv,hz,k⟩=>
 ⟨by rw[bT hv];exact hz,λp hp=>k p _ (g1.trans<|bC hp _) (g1.free hp) ⟨vs,az,(hv.bZ λb z=>z.elim .inl λe=>.inr (by rw[e];exact hp)).mono<|bC hp _⟩⟩⟩
noncomputable def aU (g:List D->Option D)(fs:Me->Res (List D)):Me->Res D:=λm=>(fs m).bind λds=>ofO<|g ds
theorem FP {g:List D->Option D}{σ:L2.St}{H:Hp}{Q:VK}(h:tE (gx X) E (aU g fs) σ H Q):tCB (rGC (gx X) g) (tAB (gx X) E fs) σ H Q:=by
 obtain⟨O0,M0,H0,ow,m,R,q⟩:=h;refine⟨O0,M0,H0,ow,m,R,q.bind.imp (aD.refl _) λds q vs H1 g1 hv=>?_⟩;obtain⟨r,hr,k⟩:=q.ofO;exact⟨_,ds,r,(R.mono g1).mutk,hv,hr,λv H' g d=>k v H' (g1.trans g) d⟩
theorem Jr {g:List D->Option D}{σ:L2.St}{H:Hp}{Q:VK}(h:tN (gx X) E (aU g fs) σ H Q):tCB (R9 (gx X) g) (tAB (gx X) E fs) σ H Q:=by
 obtain⟨O0,M0,H0,ow,m,R,q⟩:=h;refine⟨O0,M0,H0,ow,m,R,q.bind.imp (aD.refl _) λds q vs H1 g1 hv=>?_⟩;obtain⟨r,hr,k⟩:=q.ofO;exact⟨_,ds,r,(R.mono g1).mutk,hv,hr,λp H' g n d=>k p H' (g1.trans g) (g1.free n) d⟩
section
variable {x:Str}{p:Pos}{id T:String}{g:List D->Option D}
theorem bQ (hc:eQ X (.builtin id) (rGC (gx X) g))(hg:Gl X x)(hm:X.mg x=none)(hv:cf x=some (.builtin id))(ha:FAB X E (e::es) fs)(hn:x≠"__name__":=by decide)(hdb:(x==("__debug__":Str))=false:=by decide)
  (he:ar (e::es) X.env=(false,eval e X.env)::ar es X.env:=by rfl) (ζ:(hJ pos<|ar es X.env).any (·.1)=false:=by rfl):FE X E (.Call (.Name x p) (e::es) [] pos) (aU g fs):=
 bF (dI hc hg hm hv ha hn hdb he ζ) λ_ _ _ h=>FP h
theorem dC (hc:eQ X (.type T) (rGC (gx X) g))(hg:Gl X x)(hm:X.mg x=none)(hv:cf x=some (.type T))(ha:FAB X E (e::es) fs)(hn:x≠"__name__":=by decide)(hdb:(x==("__debug__":Str))=false:=by decide)
  (he:ar (e::es) X.env=(false,eval e X.env)::ar es X.env:=by rfl) (ζ:(hJ pos<|ar es X.env).any (·.1)=false:=by rfl):FE X E (.Call (.Name x p) (e::es) [] pos) (aU g fs):=
 bF (kW hc hg hm hv ha hn hdb he ζ) λ_ _ _ h=>FP h
theorem wj (hc:eQ X (.type T) (R9 (gx X) g))(hg:Gl X x)(hm:X.mg x=none)(hv:cf x=some (.type T))(ha:FAB X E (e::es) fs)(hn:x≠"__name__":=by decide)(hdb:(x==("__debug__":Str))=false:=by decide)
  (he:ar (e::es) X.env=(false,eval e X.env)::ar es X.env:=by rfl) (ζ:(hJ pos<|ar es X.env).any (·.1)=false:=by rfl):FN X E (.Call (.Name x p) (e::es) [] pos) (aU g fs):=
 bF (kW hc hg hm hv ha hn hdb he ζ) λ_ _ _ h=>Jr h
end
noncomputable def tyD:String->D->Bool
 | "str",.str _=>true
 | "list",.lst _=>true
 | "dict",.dct _ _=>true
 | "dict",.dcu _ _=>true
 |_,_=>false
theorem Vn {G:Gx}{O:Za}{H:Hp}{v:V}{d:D}{T:String}(h:DW G O H v d)(t:tyD T d=true):tyV G.K T v H:=by
 unfold tyD at t;split at t
 ·cases cV h;rfl
 ·obtain⟨a,xs,rfl,hx,_⟩:=f9 h;exact .inl ⟨rfl,xs,hx⟩
 ·obtain⟨a,ι,vs,rfl,hx,_⟩:=Kr h;exact .inr<|.inr<|.inl ⟨rfl,.inl ⟨ι,hx⟩⟩
 ·obtain⟨a,ι,vs,rfl,hx,_⟩:=T9 h;exact .inr<|.inr<|.inl ⟨rfl,.inr ⟨_,ι,.inl hx⟩⟩
 ·cases t
def fU (T:String)(g:D->List D->Option D)(fo:Me->Res D)(fs:Me->Res (List D)):Me->Res D:=λm=>(fo m).bind λd=>if tyD T d=true then(fs m).bind λds=>ofO (g d ds) else .stuck
theorem yx {G:Gx}{α:Type}{c:Prop}[Decidable c]{r:Res α}{H:Hp}{k:α->Prop}(h:Pu G E (if c then r else .stuck) H k):c/\Pu G E r H k:=by
 by_cases z:c
 ·rw[if_pos z] at h;exact⟨z,h⟩
 ·rw[if_neg z] at h;exact h.elim
section
variable {o:Expr}{name:Str}{apos χ:Pos}{T id:String}{g:D->List D->Option D}
theorem uw (pa:PlainAttrs T)(slot:Slot T name id)(hty:typeOf (.builtin id)=pure (.type "method_descriptor"))(hm:MtR X id (rGM (gx X) g))(ho:FB X E o fa)(ha:FAB X E (e::es) fs)
  (ω:i7 o name X.env (eval o X.env)=eval o X.env:=by rfl)
  (ν:((hJ χ<|ar (e::es) X.env).all (λx=>!x.1)&&(uu χ<|mT [] X.env).all (λx=>x.1.isSome)
   && decide ((e::es).length+([]:List tj).length+(if([]:List tj).isEmpty then 0 else 1)<30))=true:=by rfl)
  (η:(apos.endLine==χ.line)=true:=by rfl) (hs:ar (e::es) X.env=(false,eval e X.env)::ar es X.env:=by rfl) (hplain:(hJ χ<|ar es X.env).any (·.1)=false:=by rfl):
  FE X E (.Call (.Attribute o name apos) (e::es) [] χ) (fU T g fa fs):=
 bF (rH pa slot hty hm ho ha ω ν η hs hplain) λσ H Q hE=>xq5 hE λO0 M0 H0 ow m R q=>⟨O0,M0,H0,ow,m,R,q.bind.imp (aD.refl _) λd q v H1 g1 hv=>by
  obtain⟨t,q⟩:=yx q;refine⟨Vn hv t,O0,M0,H0,ow,m,R.mono g1,q.bind.imp g1 λds q vs H2 g2 hvs=>?_⟩;obtain⟨r,hr,k⟩:=q.ofO;exact⟨_,d,ds,r,(R.mono<|g1.trans g2).mutk,hv.mono g2,hvs,hr,λv H' g d=>k v H' ((g1.trans g2).trans g) d⟩⟩
end
end
inductive Fl where
 |nx|bk|ct|rt (fr:Bool) (d:D)
abbrev Zh:=D->Me->Option Me
abbrev Zb:=Me->Res Bool
abbrev Zl:=Me->Res D
abbrev Ze:=Me->Res (List D)
abbrev Zf:=List D->Res (Bool×D)
abbrev Zg:=Me->Res (Fl×Me)
mutual
def Ry:D->Bool
 | .non|.bl _|.int _|.str _=>true
 | .tup ds=>Aw ds
 |_=>false
def Aw:List D->Bool
 |[]=>true
 |d::ds=>Ry d&&Aw ds
end
section
variable {G:Gx}{O O':Za}{H:Hp}
end
inductive Hs (G:Gx)(H0 H':Hp):List Addr->List V->List D->Prop where
 |nil:Hs G H0 H' [] [] []
 |flat {v:V} {d:D} {vs:List V} {ds:List D} {qs:List Addr}:DV G (λ_=>False) H' v d->Ry d=true->Hs G H0 H' qs vs ds->Hs G H0 H' qs (v::vs) (d::ds)
 |new {q:Addr} {xs:List V} {es:List D} {vs:List V} {ds:List D} {qs:List Addr}:H0 q=none->H' q=some (.lst xs)->DVs G (λ_=>False) H' xs es->Aw es=true->q∉qs->Hs G H0 H' qs vs ds->Hs G H0 H' (q::qs) (.ref q::vs) (.lst es::ds)
def Fr (G:Gx)(O:Za)(H0:Hp)(v:V)(H':Hp)(d:D):Prop:=(∃p,v=.ref p/\H0 p=none/\OV G (Op O p) H' p d)\/∃p xs ds qs,d=.tup ds/\v=.ref p/\SqU G.K H' p xs/\Hs G H0 H' qs xs ds
def Ss (G:Gx)(E:XK)(O0 M0:Za)(H0:Hp)(ow:Os)(H:Hp)(W:Ends)(r:Res (Fl×Me)):Prop:=match r with
 | .ok (.nx,m')=>∀ow' σ' H',dO G O0 M0 H0 ow' σ' H' m'->Go O0 ow H ow' H'->W.nx σ' H'
 | .ok (.bk,m')=>∀ow' σ' H',dO G O0 M0 H0 ow' σ' H' m'->Go O0 ow H ow' H'->W.bk σ' H'
 | .ok (.ct,m')=>∀ow' σ' H',dO G O0 M0 H0 ow' σ' H' m'->Go O0 ow H ow' H'->W.ct σ' H'
 | .ok (.rt fr d,m')=>∀v ow' σ' H',dO G O0 M0 H0 ow' σ' H' m'->Go O0 ow H ow' H'->DV G (Ow O0 ow') H' v d->(fr=true->Fr G (Ow O0 ow') H0 v H' d)->W.rt v H'
 | .exc c=>∀C H',XP G H' c C->Kp M0 H0 H'->E (.ref C.1) C.2 H'
 | .stuck=>False
def tS (G:Gx)(E:XK)(g:Zg):TS:=λW σ H=>∃O0 M0 H0 ow m,dO G O0 M0 H0 ow σ H m/\Ss G E O0 M0 H0 ow H W (g m)
abbrev FS (X:Cx)(E:XK)(st:Stmt)(g:Zg):Prop:=PS X st<|tS (gx X) E g
abbrev FSs (X:Cx)(E:XK)(st:List Stmt)(g:Zg):Prop:=PSs X st<|tS (gx X) E g
theorem eU {X:Cx}{st:Stmt}{T T':TS}(h:PS X st T)(k:∀W σ H,T' W σ H->T W σ H):PS X st T':=λπ s σ H W I q=>h π s σ H W I<|k W σ H q
theorem ux {X:Cx}{st:List Stmt}{T T':TS}(h:PSs X st T)(k:∀W σ H,T' W σ H->T W σ H):PSs X st T':=λπ s σ H W I q=>h π s σ H W I<|k W σ H q
section
variable {G:Gx}{E:XK}{O0 M0:Za}{H0 H H':Hp}{ow ow':Os}{σ:L2.St}{m:Me}{W:Ends}{r:Res (Fl×Me)}
theorem Ss.pu {α:Type}{x:Res α}{k:α->Res (Fl×Me)}(R:Rel G O0 M0 H0 ow σ H m)(h:Ss G E O0 M0 H0 ow H W (x.bind k)):Pu G E x H λa=>Ss G E O0 M0 H0 ow H W (k a):=by
 cases x with
 |ok a=>exact h
 |exc c=>exact λC H' e g=>h C H' e λb o e n=>g b o<|R.keep b o e n
 |stuck=>exact h
theorem Ss.go (h:Ss G E O0 M0 H0 ow H W r)(g:Go O0 ow H ow' H'):Ss G E O0 M0 H0 ow' H' W r:=by
 cases r with
 |ok a=>
  obtain⟨f,m'⟩:=a;cases f with
  |nx=>exact λow1 σ1 H1 R g1=>h ow1 σ1 H1 R<|g.trans g1
  |bk=>exact λow1 σ1 H1 R g1=>h ow1 σ1 H1 R<|g.trans g1
  |ct=>exact λow1 σ1 H1 R g1=>h ow1 σ1 H1 R<|g.trans g1
  |rt fr d=>exact λv ow1 σ1 H1 R g1=>h v ow1 σ1 H1 R<|g.trans g1
 |exc c=>exact h
 |stuck=>exact h
theorem Ss.ofO {α:Type}{x:Option α}{k:α->Res (Fl×Me)}(h:Ss G E O0 M0 H0 ow H W ((ofO x).bind k)):∃a,x=some a/\Ss G E O0 M0 H0 ow H W (k a):=by
 cases x with
 |some a=>exact⟨a,rfl,h⟩
 |none=>exact h.elim
end
def gNx:Zg:=λm=>.ok (.nx,m)
noncomputable def bj (g k:Zg):Zg:=λm=>match g m with
 | .ok (.nx,m')=>k m'
 |r=>r
noncomputable def bM (i:Nat)(f:Zl):Zg:=λm=>(f m).bind λd=>.ok (.nx,m.set i<|.fz d)
noncomputable def xH (i:Nat)(f:Zl):Zg:=λm=>(f m).bind λd=>if i<m.length then .ok (.nx,m.set i<|.ow d) else .stuck
def bH (f:Zl):Zg:=λm=>(f m.let).bind λd=>.ok (.rt false d,m.let)
def yO (i:Nat):Zg:=λm=>match m[i]? with
 |some (.ow d)=>.ok (.rt true d,m.let)
 |some (.fz d)=>.ok (.rt false d,m.let)
 |_=>.stuck
noncomputable def gIf (t:Zb)(g k:Zg):Zg:=λm=>(t m).bind λc=>if c then g m else k m
section
variable {X:Cx}{E:XK}{e c:Expr}{es:List Expr}{st:Stmt}{rest sa sb:List Stmt}{f:Zl}{ft:Zb}{g k ga gb:Zg}{pos pos':Pos}{i:Nat}{x:Str}
theorem cP:FSs X E [] gNx:=ux dH λW σ H hE=>xq5 hE λO0 M0 H0 ow m R q=>q ow σ H R<|Go.refl<|aD.refl _
theorem SQ {G:Gx}{W:Ends}{σ:L2.St}{H:Hp}(h:tS G E (bj g k) W σ H):Mu (tS G E g) (tS G E k) W σ H:=by
 obtain⟨O0,M0,H0,ow,m,R,q⟩:=h;refine⟨O0,M0,H0,ow,m,R,?_⟩;unfold bj at q;cases z:g m with
 |ok a=>
  obtain⟨f,m'⟩:=a;rw[z] at q;cases f with
  |nx=>exact λow' σ' H' R' g'=>⟨O0,M0,H0,ow',m',R',Ss.go q g'⟩
  |bk=>exact q
  |ct=>exact q
  |rt fr d=>exact q
 |exc c=>rw[z] at q;exact q
 |stuck=>rw[z] at q;exact q
theorem aO (h1:FS X E st g)(h2:FSs X E rest k):FSs X E (st::rest) (bj g k):=ux (aJ h1 h2) λW σ H h=>SQ h
theorem bh (h1:FS X E st g):FSs X E [st] g:=bA h1
theorem Ib {G:Gx}{W:Ends}{σ:L2.St}{H:Hp}(h:tS G E (bM i f) W σ H):Om (tE G E f) (vV i) W σ H:=by
 obtain⟨O0,M0,H0,ow,m,R,q⟩:=h;refine⟨O0,M0,H0,ow,m,R.toRel,(Ss.pu R.toRel q).imp (aD.refl _) λd q v H' g' hv=>?_⟩;exact q _ _ _ ((R.mono g').set hv)<|(Go.refl g').trans Go.set
theorem Uj {G:Gx}{W:Ends}{σ:L2.St}{H:Hp}(h:tS G E (xH i f) W σ H):Om (tN G E f) (vV i) W σ H:=by
 obtain⟨O0,M0,H0,ow,m,R,q⟩:=h;refine⟨O0,M0,H0,ow,m,R.toRel,(Ss.pu R.toRel q).imp (aD.refl _) λd q p H' g' n hv=>?_⟩;by_cases hi:i<m.length
 ·rw[if_pos hi] at q;exact q _ _ _ (R.own g' n (R.toRel.U0 n) hv hi)<|Go.own g' n
 ·rw[if_neg hi] at q;exact q.elim
theorem cB (hN:X.N.Nodup)(hi:X.N[i]? = some x)(hx:Loc X.env.scope x)(he:FE X E e f)(hs:ja e (some<|.Name x pos') pos.line X.env=pure false:=by rfl)
  (hf:X.fn x=true\/X.env.scope.names.lookup x=some .local:=by first|exact .inl rfl|exact .inr rfl|assumption):FS X E (.Assign [.Name x pos'] e pos) (bM i f):=eU (cu hN hi hx he hs hf) λ_ _ _ h=>Ib h
theorem Io (hN:X.N.Nodup)(hi:X.N[i]? = some x)(hx:Loc X.env.scope x)(he:FN X E e f)(hs:ja e (some<|.Name x pos') pos.line X.env=pure false:=by rfl)
  (hf:X.fn x=true\/X.env.scope.names.lookup x=some .local:=by first|exact .inl rfl|exact .inr rfl|assumption):FS X E (.Assign [.Name x pos'] e pos) (xH i f):=eU (cu hN hi hx he hs hf) λ_ _ _ h=>Uj h
theorem bO (he:FE X E e f):FS X E (.Return (some e) pos) (bH f):=eU (dW he) λW σ H hE=>xq5 hE λO0 M0 H0 ow m R q=>by
 obtain⟨ow',R',g1⟩:=R.let;exact⟨O0,M0,H0,ow',m.let,R'.toRel,(Ss.pu R'.toRel<|Ss.go q g1).imp (aD.refl _) λd q v H' g' hv=>q v ow' σ H' (R'.mono g') (Go.refl g') hv λz=>by cases z⟩
theorem NQ (i:Nat)(hN:X.N[i]? = some x:=by rfl)(hv:Vis X.env.scope x:=by first|exact af rfl|exact kF (af rfl)|exact kF (kF rfl))(hd:(x==("__debug__":Str))=false:=by decide)
  (hcd:(x==("__classdict__":Str))=false:=by decide):FS X E (.Return (some<|.Name x pos') pos) (yO i):=eU (dW<|aA hN hv hd hcd) λW σ H hE=>xq5 hE λO0 M0 H0 ow m R q=>by
 obtain⟨ow',R',g1⟩:=R.let;unfold yO at q;cases z:m[i]? with
 |none=>rw[z] at q;exact q.elim
 |some s=>
  rw[z] at q;have zl:m.let[i]? = some s.let:=by unfold Me.let;rw[c9,z];rfl
  cases s with
  |fz d=>
   obtain⟨_,v,e,hv⟩:=R'.slot i _ zl;exact⟨v,e,q v ow' σ H R' g1 hv λz=>by cases z⟩
  |ow d=>
   obtain⟨_,v,e,hv⟩:=R'.slot i _ zl;obtain⟨a,h1,h2,h3,h4⟩:=R.slot i _ z;rw[h3] at e;cases e;refine⟨_,h3,q _ ow' σ H R' g1 hv λ_=>.inl ⟨a,rfl,h2,h4.bZ λb w=>.inl ?_⟩⟩;rcases w with w|w
   ·rcases w with w|⟨j,w⟩
    ·exact .inl w
    ·rcases g1.new j b w with w'|w'
     ·exact w'
     ·have:=R'.mutk b (.inr ⟨j,w⟩)
      rw[w'] at this;rcases this with⟨_,e⟩|⟨_,e⟩|⟨_,e⟩|⟨_,e⟩<;>cases e
   ·rw[w];exact .inr ⟨i,h1⟩
  |_=>exact q.elim
theorem gk (hc:FT X E c ft)(ha:FSs X E sa ga)(hb:FSs X E sb gb):FS X E (.If c sa sb pos) (gIf ft ga gb):=eU (gf hc ha hb) λW σ H hE=>xq5 hE λO0 M0 H0 ow m R q=>
 ⟨O0,M0,H0,ow,m,R.toRel,(Ss.pu R.toRel q).imp (aD.refl _) λb q H' g'=>by
  cases b with
  |true=>rw[if_pos rfl] at q ⊢;exact⟨O0,M0,H0,ow,m,R.mono g',Ss.go q<|Go.refl g'⟩
  |false=>rw[if_neg aI] at q ⊢;exact⟨O0,M0,H0,ow,m,R.mono g',Ss.go q<|Go.refl g'⟩⟩
noncomputable def wh (t:Zb)(b:Zg):Nat->Me->Option (Res<|Fl×Me)
 |0,_=>none
 |n+1,m=>match t m with
  | .ok true=>match b m with
   | .ok (.nx,m')=>wh t b n m'
   | .ok (.ct,m')=>wh t b n m'
   | .ok (.bk,m')=>some<|.ok (.nx,m')
   | .ok (.rt fr d,m')=>some<|.ok (.rt fr d,m')
   | .exc c=>some<|.exc c
   | .stuck=>some .stuck
  | .ok false=>some<|.ok (.nx,m)
  | .exc c=>some<|.exc c
  | .stuck=>some .stuck
theorem GC {t:Zb}{b:Zg}:∀{n:Nat} {m:Me} {r:Res (Fl×Me)},wh t b n m=some r->wh t b (n+1) m=some r
 |0,_,_,h=>by cases h
 |n+1,m,r,h=>by
  have ih:=@GC t b n;unfold wh at h ⊢;split
  ·rename_i e;rw[e] at h;split
   ·rename_i m' e2;rw[e2] at h;exact ih h
   ·rename_i m' e2;rw[e2] at h;exact ih h
   ·rename_i m' e2;rw[e2] at h;exact h
   ·rename_i fr d m' e2;rw[e2] at h;exact h
   ·rename_i c e2;rw[e2] at h;exact h
   ·rename_i e2;rw[e2] at h;exact h
  ·rename_i e;rw[e] at h;exact h
  ·rename_i e;rw[e] at h;exact h
  ·rename_i e;rw[e] at h;exact h
theorem BP {t:Zb}{b:Zg}{n:Nat}{m:Me}{r:Res (Fl×Me)}(h:wh t b n m=some r):∀k,wh t b (n+k) m=some r
 |0=>h
 |k+1=>GC<|BP h k
open Classical in
def ni (t:Zb)(b:Zg):Zg:=λm=>
 if h:∃n r,wh t b n m=some r then wm (ix h) else .stuck
theorem GR {t:Zb}{b:Zg}{m:Me}(h:ni t b m≠.stuck):∃n,wh t b n m=some (ni t b m):=by
 unfold ni at h ⊢;split at h
 ·rename_i q;rw[dif_pos q];exact⟨_,ix<|ix q⟩
 ·exact absurd rfl h
theorem Hr {t:Zb}{b:Zg}{m:Me}{r:Res (Fl×Me)}(n:Nat)(h:wh t b n m=some r):ni t b m=r:=by
 unfold ni;have q:∃n r,wh t b n m=some r:=⟨n,r,h⟩;rw[dif_pos q];have z:=ix<|ix q;have a:=BP z n;have b':=BP h<|wm q;rw[Nat.add_comm] at b';rw[a] at b';exact ck b'
theorem JZ {body:List Stmt}(hp:t9 (cq X.prog X.w) X.A X.env X.xe)(hc:FT X E c ft)(hb:FSs X E body g):FS X E (.While c body [] pos) (ni ft g):=eU (pU hp hc hb) λW σ H hE=>xq5 hE λO0 M0 H0 ow m R q=>by
 obtain⟨n,hn⟩:=GR (t:=ft) (b:=g) (m:=m) (λz=>by rw[z] at q;exact q);generalize ni ft g m=r at *;refine⟨λn σ' H'=>∃ow' m',dO (gx X) O0 M0 H0 ow' σ' H' m'/\Go O0 ow H ow' H'/\wh ft g n m'=some r,⟨n,ow,m,R,Go.refl<|aD.refl _,hn⟩,?_⟩;rintro n σ1 H1 ⟨ow1,m1,R1,g1,h1⟩;cases n with
 |zero=>cases h1
 |succ n=>
  refine⟨O0,M0,H0,ow1,m1,R1.toRel,?_⟩;unfold wh at h1;cases e:ft m1 with
  |exc c=>
   rw[e] at h1;cases h1;exact λC H' e g'=>q C H' e λb o e n=>g' b o<|R1.keep b o e n
  |stuck=>rw[e] at h1;cases h1;exact q.elim
  |ok t=>
   rw[e] at h1;intro H2 g2;have R2:=R1.mono g2;have G2:=g1.trans<|Go.refl g2;cases t with
   |false=>
    cases h1;rw[if_neg aI];exact q _ _ _ R2 G2
   |true=>
    rw[if_pos rfl];have h1:(match g m1 with
     | .ok (.nx,m')=>wh ft g n m'
     | .ok (.ct,m')=>wh ft g n m'
     | .ok (.bk,m')=>some<|.ok (.nx,m')
     | .ok (.rt fr d,m')=>some<|.ok (.rt fr d,m')
     | .exc c=>some<|.exc c
     | .stuck=>some .stuck)=some r:=h1
    refine⟨λσ' H'=>∃ow' m',dO (gx X) O0 M0 H0 ow' σ' H' m'/\Go O0 ow H ow' H'/\wh ft g n m'=some r,λσ' H' z=>⟨n,kH _,z⟩,O0,M0,H0,ow1,m1,R2,?_⟩;cases e2:g m1 with
    |exc c=>rw[e2] at h1;cases h1;exact q
    |stuck=>rw[e2] at h1;cases h1;exact q
    |ok a=>
     obtain⟨f2,m2⟩:=a;rw[e2] at h1;cases f2 with
     |nx=>exact λow' σ' H' R' g'=>⟨ow',m2,R',G2.trans g',h1⟩
     |ct=>exact λow' σ' H' R' g'=>⟨ow',m2,R',G2.trans g',h1⟩
     |bk=>cases h1;exact λow' σ' H' R' g'=>q ow' σ' H' R'<|G2.trans g'
     |rt fr d=>cases h1;exact λv ow' σ' H' R' g'=>q v ow' σ' H' R'<|G2.trans g'
end
def NbP (m m':Me):Prop:=(∀(j:Nat) (d:D),m[j]?≠some (Sl.bw d))->∀(j:Nat) (d:D),m'[j]?≠some (Sl.bw d)
def tG (G:Gx)(k:Nat)(h:Zh):TG:=λv σ H Q=>∃O0 M0 H0 ow m d m',Rel G O0 M0 H0 ow σ H m/\DV G (Ow O0 ow) H v d/\h d m=some m'/\
 ∀ow' σ',Rel G O0 M0 H0 ow' σ' H m'->Go O0 ow H ow' H->NbP m m'->σ'.drop k=σ.drop k->Q σ' H
def tGs (G:Gx)(k:Nat)(h:List D->Me->Option Me):TGs:=λvs σ H Q=>∃O0 M0 H0 ow m ds m',Rel G O0 M0 H0 ow σ H m/\DVs G (Ow O0 ow) H vs ds/\h ds m=some m'/\
 ∀ow' σ',Rel G O0 M0 H0 ow' σ' H m'->Go O0 ow H ow' H->NbP m m'->σ'.drop k=σ.drop k->Q σ' H
abbrev FG (X:Cx)(k:Nat)(tg:Expr)(h:Zh):Prop:=PG X tg<|tG (gx X) k h
abbrev FGs (X:Cx)(k:Nat)(tgs:List Expr)(h:List D->Me->Option Me):Prop:=PGs X tgs<|tGs (gx X) k h
theorem FZ {X:Cx}{e:Expr}{T T':TG}(h:PG X e T)(k:∀v σ H Q,T' v σ H Q->T v σ H Q):PG X e T':=λπ s σ H v u Q I r q=>h π s σ H v u Q I r<|k v σ H Q q
theorem z9 {X:Cx}{es:List Expr}{T T':TGs}(h:PGs X es T)(k:∀v σ H Q,T' v σ H Q->T v σ H Q):PGs X es T':=λπ s σ H v u Q I r q=>h π s σ H v u Q I r<|k v σ H Q q
noncomputable def hName (i:Nat):Zh:=λd m=>some<|m.set i<|.fz d
noncomputable def O7:List D->Me->Option Me
 |[],m=>some m
 |_,_=>none
noncomputable def vg (h:Zh)(hs:List D->Me->Option Me):List D->Me->Option Me
 |d::ds,m=>(h d m).bind λm'=>hs ds m'
 |_,_=>none
noncomputable def Px (n:Nat)(hs:List D->Me->Option Me):Zh
 | .tup ds,m=>if ds.length=n then hs ds m else none
 |_,_=>none
section
variable {X:Cx}{pos:Pos}{k:Nat}{e:Expr}{es:List Expr}{h:Zh}{hs:List D->Me->Option Me}
theorem fH {i:Nat}{x:Str}(hN:X.N.Nodup)(hi:X.N[i]? = some x)(hx:Loc X.env.scope x)(hk:i<k:=by decide)(hf:X.fn x=true\/X.env.scope.names.lookup x=some .local:=by first|exact .inl rfl|exact .inr rfl|assumption):FG X k (.Name x pos) (hName i):=
 FZ (Oj hN hi hx hf) λv σ H Q hE=>xq7 hE λO0 M0 H0 ow m d m' R hv e q=>by
  cases e;refine q _ _ (R.set hv) Go.set (λnb=>uz nb λ_ z=>by cases z) ?_;rw[List.drop_set,if_pos<|by omega]
theorem Ga:FGs X k [] O7:=z9 Nr λvs σ H Q hE=>xq7 hE λO0 M0 H0 ow m ds m' R hv e q=>by
 cases hv with
 |nil=>cases e;exact⟨rfl,q _ _ R (Go.refl<|aD.refl _) id rfl⟩
 |cons a t=>cases e
theorem qi (h1:FG X k e h)(h2:FGs X k es hs)(hst:(kM (e::es) X.env).map (·.2)=xo e X.env::(kM es X.env).map (·.2):=by rfl):FGs X k (e::es) (vg h hs):=
 z9 (Ia h1 h2 hst) λvs σ H Q hE=>xq7 hE λO0 M0 H0 ow m ds m' R hv e q=>by
  cases hv with
  |nil=>cases e
  | @cons v vs' d ds' a t=>
   have e':(h d m).bind (λm'=>hs ds' m')=some m':=e;cases e1:h d m with
   |none=>rw[e1] at e';cases e'
   |some m1=>
    rw[e1] at e';exact⟨v,vs',rfl,O0,M0,H0,ow,m,d,m1,R,a,e1,λow' σ' R' g' nb hd=>⟨O0,M0,H0,ow',m1,ds',m',R',t.go R.mutk g'.ev,e',λow2 σ2 R2 g2 nb2 hd2=>q ow2 σ2 R2 (g'.trans g2) (λz=>nb2<|nb z)<|hd2.trans hd⟩⟩
theorem Ig {j n:Nat}(hc:X.calm=true)(h:FGs X k es hs)(hn:(kM es X.env).length=n:=by rfl)(hst:(kM es X.env).findIdx? (·.1)=none:=by rfl):FG X k (.Tuple es j pos) (Px n hs):=
 FZ (R7 hc h hn hst) λv σ H Q hE=>xq7 hE λO0 M0 H0 ow m d m' R hv e q=>by
  cases d with
  |tup ds=>
   obtain⟨a,xs,rfl,hx,hd⟩:=oZ<|.inl hv;have e':(if ds.length=n then hs ds m else none)=some m':=e;by_cases z:ds.length=n
   ·rw[if_pos z] at e';exact⟨a,xs,rfl,hx,by rw[bT hd];exact z,O0,M0,H0,ow,m,ds,m',R,hd,e',q⟩
   ·rw[if_neg z] at e';cases e'
  |_=>cases e
end
def vD (G:Gx)(J:It)(ds:List D)(P:(Za)->Hp->Prop):Prop:=∀O H,P O H->
 (∀i,i<ds.length->J.go i H)/\(∀i x H',i<ds.length->J.yld i H x H'->aD H H'/\∃d,ds[i]? = some d/\DV G O H' x d)/\J.stop ds.length H
def tI (G:Gx)(E:XK)(f:Ze):TI:=λσ H R=>∃O0 M0 H0 ow m,Rel G O0 M0 H0 ow σ H m/\Pu G E (f m) H λds=>∀J H',aD H H'->vD G J ds (λO H2=>Ev (Ow O0 ow) H' O H2)->R J H'
def tIw (G:Gx)(E:XK)(f:Ze):TI:=λσ H R=>∃O0 M0 H0 ow m,Rel G O0 M0 H0 ow σ H m/\Pu G E (f m) H λds=>∀J H',aD H H'->vD G J ds (λO H2=>(∀b,O b->Ow O0 ow b\/H' b=none)/\aD H' H2)->R J H'
abbrev FI (X:Cx)(E:XK)(tg e:Expr)(f:Ze):Prop:=PI Calm X tg e<|tI (gx X) E f
abbrev FIw (X:Cx)(E:XK)(tg e:Expr)(f:Ze):Prop:=PI Calm X tg e<|tIw (gx X) E f
theorem nU {X:Cx}{tg e:Expr}{T T':TI}(h:PI Calm X tg e T)(k:∀σ H R,T' σ H R->T σ H R):PI Calm X tg e T':=λπ s σ H R I q=>h π s σ H R I<|k σ H R q
noncomputable def Cj (f:Zl):Ze:=λm=>(f m).bind λd=>match d with
 | .lst ds=>.ok ds
 |_=>.stuck
noncomputable def Bf (f:Zl):Ze:=λm=>(f m).bind λd=>match d with
 | .tup ds=>.ok ds
 |_=>.stuck
noncomputable def qy (f:Ze):Ze:=λm=>(f m).bind λd=>match d with
 |[.int j]=>if -(2^62)<=j/\j<2^62 then .ok ((ij j.toNat).map λ(i:Nat)=>D.int i) else .stuck
 |_=>.stuck
theorem Qz {G:Gx}{O:Za}{H:Hp}{a:Addr}{xs:List V}{ds:List D}(m:∀b,O b->bL (H b))(hl:LstAt G.K O H a xs)(hd:DVs G O H xs ds):vD G (Itl G.K a) ds (λO' H2=>Ev O H O' H2):=by
 intro O' H2 ev;have hq:SqL G.K H2 a xs:=(pO ev.2 hl).sq;have hd2:=hd.go m ev;have ρ:=bT hd;refine⟨λi hi=>⟨xs,xs[i]'(by omega),hq,by simp⟩,λi x H' hi y=>?_,xs,hq,by omega⟩;obtain⟨e,y⟩:=y;subst e;obtain⟨d,h1,h2⟩:=tK hd2<|y xs hq;exact⟨aD.refl _,d,h1,h2⟩
theorem Jv {G:Gx}{O:Za}{H:Hp}{a:Addr}{xs:List V}{ds:List D}(m:∀b,O b->bL (H b))(hl:SqL G.K H a xs)(hd:DVs G O H xs ds):vD G (Itl G.K a) ds (λO' H2=>(∀b,O' b->O b\/H b=none)/\aD H H2):=by
 intro O' H2 ⟨sub,g⟩;have hq:SqL G.K H2 a xs:=JR hl g;have hd2:=hd.go m ⟨sub,.of g⟩;have ρ:=bT hd;refine⟨λi hi=>⟨xs,xs[i]'(by omega),hq,by simp⟩,λi x H' hi y=>?_,xs,hq,by omega⟩;obtain⟨e,y⟩:=y;subst e;obtain⟨d,h1,h2⟩:=tK hd2<|y xs hq;exact⟨aD.refl _,d,h1,h2⟩
theorem Ux {G:Gx}{O:Za}{H:Hp}{a:Addr}{xs:List V}{ds:List D}(m:∀b,O b->bL (H b))(hl:SqT G.K H a xs)(hd:DVs G O H xs ds):vD G (Itt G.K a) ds (λO' H2=>Ev O H O' H2):=by
 intro O' H2 ev;have hq:SqT G.K H2 a xs:=SX m ev.2 hl;have hd2:=hd.go m ev;have ρ:=bT hd;refine⟨λi hi=>⟨xs,xs[i]'(by omega),hq,by simp⟩,λi x H' hi y=>?_,xs,hq,by omega⟩;obtain⟨e,y⟩:=y;subst e;obtain⟨d,h1,h2⟩:=tK hd2<|y xs hq;exact⟨aD.refl _,d,h1,h2⟩
theorem vD.weak {G:Gx}{J:It}{ds:List D}{O:Za}{H:Hp}(h:vD G J ds (λO' H2=>Ev O H O' H2)):vD G J ds (λO' H2=>(∀b,O' b->O b\/H b=none)/\aD H H2):=
 λO' H2 ⟨s,g⟩=>h O' H2 ⟨s,.of g⟩
theorem Kh {G:Gx}{lo:Int}{n:Nat}{P:(Za)->Hp->Prop}:vD G (Itr lo n) ((ij n).map λ(k:Nat)=>D.int<|lo+k) P:=by
 intro O H _;refine⟨λi hi=>(show i<n by simpa using hi),λi x H' hi y=>?_,by show n<=_;simp⟩;obtain⟨e,y⟩:=y;subst e y;have hi':i<n:=by simpa using hi
 exact⟨aD.refl _,_,by simp[c9,List.getElem?_range hi'],.int _⟩
section
variable {X:Cx}{E:XK}{tg e a b:Expr}{f:Zl}{fs:Ze}{p pos:Pos}
theorem Qv (h:FE X E e f):FI X E tg e (Cj f):=nU (CW h) λσ H R hE=>xq5 hE λO0 M0 H0 ow m Re q=>⟨O0,M0,H0,ow,m,Re,q.bind.imp (aD.refl _) λd q v H' g hv=>by
 cases d with
 |lst ds=>
  cases hv with
  |lst hl hd=>exact⟨_,rfl,⟨_,hl.sq⟩,q _ H' g<|Qz (Re.mono g).mutk hl hd⟩
 |_=>exact q.elim⟩
theorem Bm (h:FE X E e f):FI X E tg e (Bf f):=nU (Ui h) λσ H R hE=>xq5 hE λO0 M0 H0 ow m Re q=>⟨O0,M0,H0,ow,m,Re,q.bind.imp (aD.refl _) λd q v H' g hv=>by
 cases d with
 |tup ds=>
  cases hv with
  |tup hl hd=>exact⟨_,rfl,⟨_,hl.sq⟩,q _ H' g<|Ux (Re.mono g).mutk hl.sq hd⟩
 |_=>exact q.elim⟩
theorem Kv (h:FB X E e f):FIw X E tg e (Cj f):=nU (CW h) λσ H R hE=>xq5 hE λO0 M0 H0 ow m Re q=>⟨O0,M0,H0,ow,m,Re,q.bind.imp (aD.refl _) λd q v H' g hv=>by
 cases d with
 |lst ds=>
  obtain⟨a,xs,rfl,hl,hd⟩:=f9 hv;exact⟨a,rfl,⟨_,hl⟩,q _ H' g<|Jv (Re.mono g).mutk hl hd⟩
 |_=>exact q.elim⟩
theorem pB {fl:Ze}(h:FI X E tg e fl):FIw X E tg e fl:=nU h λσ H R hE=>xq5 hE λO0 M0 H0 ow m Re q=>⟨O0,M0,H0,ow,m,Re,q.imp (aD.refl _) λds q J H' g hi=>q J H' g hi.weak⟩
theorem nQ (hg:Gl X "range")(hm:X.mg "range" = none)(ha:FAB X E [a] fs)(hs:ar [a] X.env=[(false,eval a X.env)]:=by rfl):FI X E tg (.Call (.Name "range" p) [a] [] pos) (qy fs):=
 nU (Hl hg hm ha hs) λσ H R hE=>xq5 hE λO0 M0 H0 ow m Re q=>⟨O0,M0,H0,ow,m,Re,q.bind.imp (aD.refl _) λds q vs H' g hv=>by
  cases hv with
  |nil=>exact q.elim
  | @cons v vs d ds h1 h2=>
   cases h2 with
   |cons _ _=>cases d<;>exact q.elim
   |nil=>
    cases d with
    |int j=>
     cases bN h1;obtain⟨⟨z1,z2⟩,k⟩:=Dw q;refine⟨j,rfl,z1,z2,k _ H' g ?_⟩
     have:=Kh (G:=gx X) (lo:=0) (n:=j.toNat) (P:=λO H2=>Ev (Ow O0 ow) H' O H2)
     simpa using this
    |_=>exact q.elim⟩
end
noncomputable def iZ (h:Zh)(g:Zg):List D->Zg
 |[],m=>.ok (.nx,m)
 |d::ds,m=>match h d m with
  |none=>.stuck
  |some m1=>match g m1 with
   | .ok (.nx,m2)=>iZ h g ds m2
   | .ok (.ct,m2)=>iZ h g ds m2
   | .ok (.bk,m2)=>.ok (.nx,m2)
   | .ok (.rt fr v,m2)=>.ok (.rt fr v,m2)
   | .exc c=>.exc c
   | .stuck=>.stuck
def yj (fi:Ze)(h:Zh)(g:Zg):Zg:=λm=>(fi m).bind λds=>iZ h g ds m
theorem QF {Cm:Cx->Prop}{X:Cx}{E:XK}{tg iter:Expr}{body:List Stmt}{fi:Ze}{k:Nat}{h:Zh}{g:Zg}{pos:Pos}(hp:t9 (cq X.prog X.w) X.A X.env X.xe)(hc:Cm X)(hi:PI Cm X tg iter (tI (gx X) E fi))(hg:FG X k tg h)(hb:FSs X E body g)
  (hs:∀x,gX iter X.env x=pure x:=by intro _;rfl):FS X E (.For tg iter body [] pos) (yj fi h g):=eU (S6 hp hc hi hg hb hs) λW σ H hE=>xq5 hE λO0 M0 H0 ow m R q=>
 ⟨O0,M0,H0,ow,m,R.toRel,(Ss.pu R.toRel q).imp (aD.refl _) λds q J H1 g1 it=>by
  have R1:=R.mono g1;have q1:=Ss.go q<|Go.refl g1;generalize hr:iZ h g ds m=r at *;refine⟨λi n σ' H'=>∃ow' m',dO (gx X) O0 M0 H0 ow' σ' H' m'/\Go O0 ow H1 ow' H'/\n=ds.length-i/\i<=ds.length/\iZ h g (ds.drop i) m'=r,⟨_,ow,m,R1,Go.refl<|aD.refl _,rfl,fF _,hr⟩,?_⟩;rintro i n σ2 H2 ⟨ow2,m2,R2,g2,rfl,hi,e2⟩;obtain⟨i1,i2,i3⟩:=it _ H2 g2.ev;by_cases hlt:i<ds.length
  ·refine .inr ⟨i1 i hlt,λσ' H'=>∃ow' m',dO (gx X) O0 M0 H0 ow' σ' H' m'/\Go O0 ow H1 ow' H'/\iZ h g (ds.drop<|i+1) m'=r,λσ' H' ⟨ow',m',R',g',e'⟩=>⟨ds.length-(i+1),by omega,ow',m',R',g',rfl,hlt,e'⟩,λx H3 y=>?_⟩;obtain⟨s3,d,hd,dv⟩:=i2 i x H3 hlt y;have ed:ds.drop i=d::ds.drop (i+1):=by
    rw[oq hlt];rw[eI hlt] at hd;cases hd;rfl
   rw[ed] at e2;unfold iZ at e2;cases eh:h d m2 with
   |none=>rw[eh] at e2;subst e2;exact q1.elim
   |some m3=>
    rw[eh] at e2;refine⟨O0,M0,H0,ow2,m2,d,m3,(R2.mono s3).toRel,dv,eh,λow' σ' R' g' nb _=>?_⟩;have G3:=(g2.trans<|Go.refl s3).trans g';refine⟨O0,M0,H0,ow',m3,⟨R',nb R2.nb⟩,?_⟩;cases eg:g m3 with
    |exc c=>simp only[eg] at e2;subst e2;exact q1
    |stuck=>simp only[eg] at e2;subst e2;exact q1
    |ok a=>
     obtain⟨f4,m4⟩:=a;simp only[eg] at e2;cases f4 with
     |nx=>exact λow4 σ4 H4 R4 g4=>⟨ow4,m4,R4,G3.trans g4,e2⟩
     |ct=>exact λow4 σ4 H4 R4 g4=>⟨ow4,m4,R4,G3.trans g4,e2⟩
     |bk=>subst e2;exact λow4 σ4 H4 R4 g4=>q1 ow4 σ4 H4 R4<|G3.trans g4
     |rt fr v=>subst e2;exact λv ow4 σ4 H4 R4 g4=>q1 v ow4 σ4 H4 R4<|G3.trans g4
  ·have e:i=ds.length:=by omega
   subst e;rw[List.drop_length] at e2;unfold iZ at e2;subst e2;exact .inl ⟨i3,q1 ow2 σ2 H2 R2 g2⟩⟩
theorem CJ {X:Cx}{E:XK}{tg iter:Expr}{body:List Stmt}{fi:Ze}{k:Nat}{h:Zh}{g:Zg}{pos:Pos}(hp:t9 (cq X.prog X.w) X.A X.env X.xe)(hc:X.calm=true)(hi:FI X E tg iter fi)(hg:FG X k tg h)(hb:FSs X E body g)
  (hs:∀x,gX iter X.env x=pure x:=by intro _;rfl):FS X E (.For tg iter body [] pos) (yj fi h g):=QF (Cm:=Calm) hp hc hi hg hb hs
noncomputable def Sl.bor:Sl->Sl
 | .ow d=>.bw d
 | .io d=>.bw d
 | .hd _ _ _=>.un
 |s=>s
def cMe (k:Nat)(cap:List Nat)(m:Me):Me:=bP k .un++cap.map λj=>(m.getD j .un).bor
noncomputable def jd (h:Zh)(ft:Zb)(fe:Zl)(m0:Me):List D->Res (List D)
 |[]=>.ok []
 |d::ds=>match h d m0 with
  |none=>.stuck
  |some m1=>match ft m1 with
   | .ok true=>match fe m1 with
    | .ok y=>match jd h ft fe m0 ds with
     | .ok ys=>.ok (y::ys)
     |_=>.stuck
    |_=>.stuck
   | .ok false=>jd h ft fe m0 ds
   |_=>.stuck
def gW (k:Nat)(cap:List Nat)(fi:Ze)(h:Zh)(ft:Zb)(fe:Zl):Zl:=λm=>(fi m).bind λds=>
 if ds.length<=be then match jd h ft fe (cMe k cap m) ds with
  | .ok ys=>.ok<|.lst ys
  |_=>.stuck
 else .stuck
abbrev SJ (X:Cx)(E:XK)(ifs:List Expr)(f:Zb):Prop:=Ka X ifs<|tT (gx X) E f
def pq:Zb:=λ_=>.ok true
theorem iM:SJ X E [] pq:=λπ s σ H Q I hE=>xq5 hE λO0 M0 H0 ow m R q=>OD π s σ H Q I<|q H<|aD.refl _
section
theorem Nb (R:Rel G O0 M0 H0 ow σ H m)(g:aD H H2)(hl:H l=none)(hz:H2 l=some (.lst zs)):
  Rel G (Op (Ow O0 ow) l) (λ_=>False) (λ_=>none) (λ_=>none) (cSt k cap σ) H2 (cMe k cap m):=by
 have sub:∀b,Ow (Op (Ow O0 ow) l) (λ_=>none) b->Ow O0 ow b\/H b=none:=λb z=>by
  rw[qp] at z;exact z.elim .inl λe=>.inr (by rw[e];exact hl)
 have sup:∀b,Ow O0 ow b->Ow (Op (Ow O0 ow) l) (λ_=>none) b:=λb z=>.inl<|.inl z;refine⟨by simp[cSt,cMe],λb o e _=>(by cases e),λb z=>z.elim,λb z=>?_,λi a e=>(by cases e),λi j a e=>(by cases e),λ_ _=>rfl,λi s e=>?_⟩
 ·rw[qp] at z;rcases z with z|z
  ·exact c7 g<|R.mutk b z
  ·rw[z,hz];exact .inl ⟨zs,rfl⟩
 ·unfold cMe at e;by_cases hi:i<k
  ·rw[b9 (by simpa using hi),eA,if_pos hi] at e;cases e;rfl
  ·rw[cc (by simp;lia),kl,c9] at e;have eσ:(cSt k cap σ)[i]? = (cap[i-k]?).map λj=>(σ[j]?).join:=by
    unfold cSt;rw[cc (by simp;lia),kl,c9]
   cases ec:cap[i-k]? with
   |none=>rw[ec] at e;cases e
   |some j=>
    rw[ec] at e eσ;rw[eσ];cases ej:m[j]? with
    |none=>
     have:m.getD j .un=.un:=by simp[List.getD,ej]
     rw[hZ,this] at e;cases e;rfl
    |some s0=>
     have:m.getD j .un=s0:=by simp[List.getD,ej]
     rw[hZ,this] at e;cases e;have z:=R.slot j s0 ej;cases s0 with
     |un=>rfl
     |fz d=>
      obtain⟨_,x,e1,hv⟩:=z;exact⟨rfl,x,by rw[hZ,e1];rfl,(hv.bZ sub).mono g⟩
     |ow d=>
      refine t7 z λa h1 h2 h3 h4=>?_;exact⟨rfl,.ref a,by rw[hZ,h3];rfl,.inr ⟨a,rfl,sup a<|.inr ⟨j,h1⟩,(h4.bZ sub).mono g⟩⟩
     |io d=>
      refine t7 z λa h1 h2 h3 h4=>?_;exact⟨rfl,.ref a,by rw[hZ,h3];rfl,.inr ⟨a,rfl,sup a<|.inr ⟨j,h1⟩,(h4.bZ sub).mono g⟩⟩
     |bw d=>
      obtain⟨_,x,e1,hv⟩:=z;refine⟨rfl,x,by rw[hZ,e1];rfl,?_⟩;rcases hv with hv|⟨a,e2,o,hv⟩
      ·exact .inl<|(hv.bZ sub).mono g
      ·exact .inr ⟨a,e2,sup a o,(hv.bZ sub).mono g⟩
     |hd w a d=>rfl
theorem Dt (hq:tN (gx X) E (gW k cap fi h ft fe) σ H Q):CZ k cap (tIw (gx X) E fi) (tG (gx X) k h) (tT (gx X) E0 ft) (tE (gx X) E0 fe) σ H Q:=by
 refine Jp hq λO0 M0 H0 ow m R q=>?_;refine⟨O0,M0,H0,ow,m,R,q.bind.imp (aD.refl _) λds q J H1 g1 it l hl=>?_⟩;obtain⟨hz,q⟩:=yx q;cases hc:jd h ft fe (cMe k cap m) ds with
 |exc c=>rw[hc] at q;exact q.elim
 |stuck=>rw[hc] at q;exact q.elim
 |ok ys=>
  rw[hc] at q;have hlH:H l=none:=g1.free hl;have mk1:∀b,Op (Ow O0 ow) l b->Ow O0 ow b\/H1 b=none:=λb z=>z.elim .inl λe=>.inr (by rw[e];exact hl);refine⟨λi n zs H'=>n=ds.length-i/\i<=ds.length/\zs.length<=i/\aD H1 H'/\H' l=some (.lst zs)/\∃es rest,DVs (gx X) (Op (Ow O0 ow) l) H' zs es/\jd h ft fe (cMe k cap m) (ds.drop i)=.ok rest/\es++rest=ys,
   ⟨ds.length,by simp,fF _,a9 _,bC hl _,az,[],ys,.nil,hc,rfl⟩,?_⟩
  rintro i n zs H' ⟨rfl,hi,hzi,g2,hH,es,rest,hes,hcr,hys⟩;obtain⟨i1,i2,i3⟩:=it (Op (Ow O0 ow) l) H' ⟨mk1,g2⟩;by_cases hlt:i<ds.length
  ·refine .inr ⟨i1 i hlt,λx H2 y=>?_⟩;obtain⟨g3,d,hd,dv⟩:=i2 i x H2 hlt y;have ed:ds.drop i=d::ds.drop (i+1):=by
    rw[oq hlt];rw[eI hlt] at hd;cases hd;rfl
   rw[ed] at hcr;unfold jd at hcr;cases eh:h d (cMe k cap m) with
   |none=>rw[eh] at hcr;cases hcr
   |some m1=>
    rw[eh] at hcr;have G2:aD H H2:=(g1.trans g2).trans g3;have R2:=Nb (k:=k) (cap:=cap) (l:=l) (zs:=zs) R G2 hlH<|g3 _ _ hH;refine⟨_,_,_,_,_,d,m1,R2,by rw[qp];exact dv,eh,λow' σ' R' g' nb hdr=>⟨hdr,_,_,_,ow',m1,R',?_⟩⟩;simp only[] at hcr;cases et:ft m1 with
    |exc c=>rw[et] at hcr;cases hcr
    |stuck=>rw[et] at hcr;cases hcr
    |ok t=>
     rw[et] at hcr;intro H3 g4;cases t with
     |false=>
      rw[if_neg aI];exact⟨ds.length-(i+1),by lia,rfl,hlt,by lia,(g2.trans g3).trans g4,g4 _ _<|g3 _ _ hH,es,rest,hes.mono<|g3.trans g4,hcr,hys⟩
     |true=>
      rw[if_pos rfl];refine⟨_,_,_,ow',m1,R'.mono g4,?_⟩;simp only[] at hcr;cases ee:fe m1 with
      |exc c=>rw[ee] at hcr;cases hcr
      |stuck=>rw[ee] at hcr;cases hcr
      |ok y'=>
       rw[ee] at hcr;intro v H5 g5 hv;simp only[] at hcr;cases er:jd h ft fe (cMe k cap m) (ds.drop<|i+1) with
       |exc c=>rw[er] at hcr;cases hcr
       |stuck=>rw[er] at hcr;cases hcr
       |ok rest'=>
        rw[er] at hcr;cases hcr;have G5:aD H' H5:=(g3.trans g4).trans g5;have mk5:∀b,Op (Ow O0 ow) l b->bL (H5 b):=λb z=>by
         rcases z with z|z
         ·exact c7 (((g1.trans g2).trans G5))<|R.mutk b z
         ·rw[z,G5 _ _ hH];exact .inl ⟨zs,rfl⟩
        have kp5:Kp (Op (Ow O0 ow) l) H5 (upd H5 l<|.lst<|zs++[v]):=λb o e n=>by
         rw[aC<|show b≠l from λz=>n<|.inr z];exact e
        refine⟨G5 _ _ hH,by lia,ds.length-(i+1),by lia,rfl,hlt,by rw[aw,ko];lia,?_,az,es++[y'],rest',?_,er,by rw[aE];exact hys⟩
        ·exact Pg ((Wd<|g2.trans G5).trans Ua) hl
        ·exact gU ((hes.mono G5).kp mk5 kp5)<|.cons ((hv.bZ λb z=>.inl<|.inl z).kp mk5 kp5) .nil
  ·have e:i=ds.length:=by lia
   subst e;rw[List.drop_length] at hcr;cases hcr;rw[eC] at hys;subst hys;exact .inl ⟨i3,q l H' (g1.trans g2) hlH ⟨zs,hH,hes⟩⟩
section
theorem lX (sc:oB)(N' caps:List Str)(k:Nat)(cap:List Nat)(hcalm:X.calm=true)(S:CSc sc scope caps)(hcap:j3 (λj x=>X.N[j]? = some x) cap caps)
  (hi:FIw X E tg iter fi) (hg:∀cl C sE HE fp π,FG (cI X N' scope cl C sE HE fp π) k tg h) (ht:∀cl C sE HE fp π,SJ (cI X N' scope cl C sE HE fp π) E0 ifs ft) (he:∀cl C sE HE fp π,FE (cI X N' scope cl C sE HE fp π) E0 elt fe)
  (hsc:X.env.scope=sc:=by rfl) (hN:N'.drop k=caps:=by rfl) (hk:k<=N'.length:=by decide) (hs:∀x,gX iter X.env x=pure x:=by intro _;rfl):
  FN X E (.ListComp elt [⟨tg,iter,ifs,0⟩] scope pos) (gW k cap fi h ft fe):=bF (Ox sc N' caps k cap hcalm S hcap hi hg ht he hsc hN hk hs) λ_ _ _ q=>Dt q
theorem Cp (sc:oB)(N' caps:List Str)(k:Nat)(cap:List Nat)(hnd:X.N.Nodup)(hi':X.N[i]? = some y)(hy:Loc X.env.scope y)(hcalm:X.calm=true)(S:CSc sc scope caps)(hcap:j3 (λj x=>X.N[j]? = some x) cap caps)
  (hi:FIw X E tg iter fi) (hg:∀cl C sE HE fp π,FG (cI X N' scope cl C sE HE fp π) k tg h) (ht:∀cl C sE HE fp π,SJ (cI X N' scope cl C sE HE fp π) E0 ifs ft) (he:∀cl C sE HE fp π,FE (cI X N' scope cl C sE HE fp π) E0 elt fe)
  (θ:ja (.ListComp elt [⟨tg,iter,ifs,0⟩] scope pos) (some<|.Name y py) spos.line X.env=pure true:=by rfl)
  (hsc:X.env.scope=sc:=by rfl) (hN:N'.drop k=caps:=by rfl) (hk:k<=N'.length:=by decide) (hs:∀x,gX iter X.env x=pure x:=by intro _;rfl)
  (hf:X.fn y=true\/X.env.scope.names.lookup y=some .local:=by first|exact .inl rfl|exact .inr rfl|assumption):
  FS X E (.Assign [.Name y py] (.ListComp elt [⟨tg,iter,ifs,0⟩] scope pos) spos) (bM i<|gW k cap fi h ft fe):=
 eU (Ax sc N' caps k cap hnd hi' hy hcalm S hcap hi hg ht he θ hsc hN hk hs hf) λW σ H q=>by
  refine Dt (h:=h) (ft:=ft) (fe:=fe) (Q:=λx H1=>vV i x σ H1 W.nx) ?_;refine Jp (Ib q) λO0 M0 H0 ow m R q=>?_;exact⟨O0,M0,H0,ow,m,R,q.imp (aD.refl _) λ_ k p H' g n o=>k _ H' g<|(o.bZ λb z=>.inl<|.inl z).dv<|R.OJ n⟩
end
end
def spF (G:Gx)(Φ:Zf):Sp:=λvs H Q E=>∃O ds,(∀b,O b->bL (H b))/\DVs G O H vs ds/\Pu G E (Φ ds) H λr=>∀v H',aD H H'->DV G O H' v r.2->(r.1=true->Fr G O H v H' r.2)->Q v H'
noncomputable def bY (N n:Nat)(g:Zg):Zf:=λds=>if ds.length=n then match g (ds.map Sl.fz++bP (N-n) Sl.un) with
  | .ok (.rt fr d,_)=>.ok (fr,d)
  | .ok (.nx,_)=>.ok (false,.non)
  | .exc c=>.exc c
  |_=>.stuck
 else .stuck
abbrev FF (P:bg)(w:cw)(K:av)(mg:Zs)(base:Heap)(k:Nat)(x:Str)(ps:List Str)(Φ:Zf):Prop:=Hd.Fn P w K mg base k x ps<|spF ⟨K,mg⟩ Φ
theorem G8 (hm:∀b,O b->bL (H b))(hd:DVs G O H vs ds)(hn:ds.length=n):
  dO G O (λ_=>False) H (λ_=>none) (L2.start N vs) H (ds.map Sl.fz++bP (N.length-n) Sl.un):=by
 have hl:=bT hd;refine⟨⟨by simp[L2.start,hl,hn],λb o e _=>e,λb z=>z.elim,λb z=>by rw[qp] at z;exact hm b z,λi a e=>(by cases e),λi j a e=>(by cases e),λ_ _=>rfl,λi s e=>?_⟩,λj d e=>?_⟩
 ·by_cases hi:i<ds.length
  ·rw[b9 (by simpa using hi),c9] at e;cases ed:ds[i]? with
   |none=>rw[ed] at e;cases e
   |some d=>
    rw[ed] at e;cases e;obtain⟨x,hx,dx⟩:=tZ hd ed;refine⟨rfl,x,?_,by rw[qp];exact dx⟩;unfold L2.start;rw[b9 (by simpa[hl] using hi),c9,hx];rfl
  ·rw[cc (by simp;lia),eA] at e;split at e
   ·cases e;rfl
   ·cases e
 ·by_cases hi:j<ds.length
  ·rw[b9 (by simpa using hi),c9] at e;cases ed:ds[j]? with
   |none=>rw[ed] at e;cases e
   |some d=>rw[ed] at e;cases e
  ·rw[cc (by simp;lia),eA] at e;split at e<;>cases e
section
variable {P:bg}{w:cw}{K:av}{mg:Zs}{base:Heap}
theorem cQ {x qual:Str}{st:Stmt}{f:Addr}{fd:dQ}{N ps:List Str}{k:Nat}{g:Zg}(Fu:Fun K x qual st f fd)(S:bB N ps (aL st))
  (hbody:∀(cdv:a7) (A:eB) (outer:List Env) (s:aT) (H:Hp) (E:XK),fD k (A.deeper<|sQ qual (aL st) s.heap.objs.size f cdv)->
   FSs (jR (CX1 P w) P w K mg base N qual (aL st) f cdv A outer s H E) E (fj st) g):bR P w K mg base (CX1 P w) (k+1) f fd ps (spF ⟨K,mg⟩<|bY N.length ps.length g):=by
 refine cO Fu S (λvs H Q E h=>?_) λcdv A outer s H vs Q E hr h=>?_
 ·refine uM h λO ds _ hd q=>?_;rw[bT hd];unfold bY at q;exact(yx q).1
 ·refine uM h λO ds hm hd q=>?_;unfold bY at q;obtain⟨hn,q⟩:=yx q;refine⟨_,hbody cdv A outer s H E hr,O,λ_=>False,H,λ_=>none,_,G8 hm hd hn,?_⟩;have sm:∀{ow' σ' H' m'},dO (⟨K,mg⟩:Gx) O (λ_=>False) H ow' σ' H' m'->aD H H':=λR b o e=>R.keep b o e id;cases z:g (ds.map Sl.fz++bP (N.length-ps.length) Sl.un) with
  |exc c=>rw[z] at q;exact λC H' e kp=>q C H' e λb o e=>kp b o e id
  |stuck=>rw[z] at q;exact q.elim
  |ok a=>
   obtain⟨fl,m'⟩:=a;rw[z] at q;cases fl with
   |bk=>exact q.elim
   |ct=>exact q.elim
   |nx=>exact λow' σ' H' R' _=>q _ H' (sm R') .non λz=>by cases z
   |rt fr d=>
    intro v ow' σ' H' R' _ hv hf;refine q v H' (sm R') (hv.bZ λb z=>.inl<|.inl z) λz=>?_;rcases hf z with⟨p,e1,e2,e3⟩|t
    ·exact .inl ⟨p,e1,e2,e3.bZ λb z=>.inl<|z.elim (λy=>.inl<|.inl y) .inr⟩
    ·exact .inr t
end
noncomputable def fFn (Φ:Zf)(fs:Ze):Zl:=λm=>(fs m).bind λds=>(Φ ds).bind λr=>.ok r.2
section
theorem cW (Fh:FF X.prog X.w X.K X.mg X.base k x ps Φ)(hr:fD j X.A)(hx:Passes (CX1 X.prog X.w) X E)(ha:FAE X E (e::es) fs)(hk:k<=j:=by decide)(hg:Gl X x:=by rfl)
  (hdb:(x==("__debug__":Str))=false:=by decide) (he:ar (e::es) X.env=(false,eval e X.env)::ar es X.env:=by rfl) (ζ:(hJ pos<|ar es X.env).any (·.1)=false:=by rfl):
  FE X E (.Call (.Name x p) (e::es) [] pos) (fFn Φ fs):=by
 refine rz Fh.ex λf fd G b kp m=>?_;refine bF (pQ G (hr.mono hk) hg m kp b .nil hx ha hdb he ζ) λσ H Q hE=>xq5 hE λO0 M0 H0 ow m R q=>⟨O0,M0,H0,ow,m,R,q.bind.imp (aD.refl _) λds q vs H1 g1 hv=>?_⟩;show spF _ _ (vs++[]) _ _ _;rw[eC];exact⟨_,ds,(R.mono g1).mutk,hv,q.bind.imp g1 λr q v H' g2 hv' _=>q v H' (g1.trans g2) hv'⟩
end
def Bg (i:Int):Prop:=i.natAbs<lmM
instance (i:Int):Decidable (Bg i):=inferInstanceAs<|Decidable<|_<_
def Bq (i:Int):Prop:=i.natAbs<lmD
instance (i:Int):Decidable (Bq i):=inferInstanceAs<|Decidable<|_<_
theorem Rh {i:Int}(h:i.natAbs<2^60000):Bg i:=by unfold Bg;rw[Mr];exact h
theorem Vr {i:Int}(h:i.natAbs<2^8900):Bq i:=by unfold Bq;rw[Bd];exact h
@[simp] theorem XJ {i:Int}(h:Bq i):Bg i:=by
 unfold Bq at h;rw[Bd] at h;exact Rh<|aS h<|iP (by decide)<|by decide
noncomputable def dvI (i j:Int):Int:=if 0<j then i/j else i.fdiv j
noncomputable def mdI (i j:Int):Int:=if 0<j then i%j else i.fmod j
noncomputable def aY:D->D->Option D
 | .int i,.int j=>some<|.int<|i+j
 | .str a,.str b=>if a.length+b.length<=be then some (.str<|a++b) else none
 | .lst a,.lst b=>if a.length+b.length<=be then some (.lst<|a++b) else none
 | .tup a,.tup b=>if a.length+b.length<=be then some (.tup<|a++b) else none
 |_,_=>none
noncomputable def HH:D->D->Option D
 | .int i,.int j=>some<|.int<|i-j
 |_,_=>none
noncomputable def uZ:D->D->Option D
 | .int i,.int j=>if Bg i/\Bg j\/j.natAbs<2^62 then some (.int<|i*j) else none
 |_,_=>none
def iz:D->D->Option D
 | .int i,.int j=>if j≠0/\Bq j then some (.int<|dvI i j) else none
 |_,_=>none
def dG:D->D->Option D
 | .int i,.int j=>if j≠0 then some (.int<|mdI i j) else none
 |_,_=>none
noncomputable def Ms:D->Option D
 | .int i=>some<|.int (-i)
 |_=>none
section
variable {X:Cx}
theorem oif {c:Prop}[Decidable c]{α:Type}{a r:α}(h:(if c then some a else none)=some r):c/\a=r:=by
 by_cases z:c
 ·rw[if_pos z] at h;exact⟨z,ck h⟩
 ·rw[if_neg z] at h;cases h
theorem Ej {π:Zo}{σ:L2.St}{H:Hp}{s:aT}{Q:VK}{O:Za}{i:Str}{t:Tok}{tk:Nat}(I:Inv X π σ H s)(q:∀v H',aD H H'->DV (gx X) O H' v (.str i)->Q v H'):EP X π σ Q (.str i t) { s with toks:=tk }:=
 ⟨.str i,H,I.tok _,⟨t,rfl⟩,q _ _ (aD.refl _)<|.str i⟩
theorem DG {π:Zo}{σ:L2.St}{H:Hp}{s:aT}{Q:VK}{O:Za}{xs:List V}{ds:List D}{its:List a7}{h':Heap}{tk:Nat}(I:Inv X π σ H s)(m:∀b,O b->bL (H b))(hd:DVs (gx X) O H xs ds)(r:Vals xs its)(hz:xs.length<=be)
  (kp:∀b o,s.heap.get? b=some o->h'.get? b=some o) (e:∃n,h'.get? s.heap.objs.size=some { cls:=.type "list",data:=.seq its.toArray n }) (q:∀p H',aD H H'->H p=none->OV (gx X) (Op O p) H' p (.lst ds)->Q (.ref p) H'):EP X π σ Q (.ref s.heap.objs.size) { s with heap:=h',toks:=tk }:=by
 have hf:H s.heap.objs.size=none:=I.hok.fresh<|a9 _;obtain⟨n,e⟩:=e;refine⟨.ref s.heap.objs.size,upd H s.heap.objs.size<|.lst xs,I.laid kp (a9 _) ⟨hz,its,n,r,e⟩,rfl,q _ _ (bC hf _) hf ⟨xs,az,?_⟩⟩;exact(hd.bZ λb z=>z.elim .inl λe=>.inr (by rw[e];exact hf)).mono (bC hf _)
theorem BX {G:Gx}{O:Za}{H:Hp}{r:D}{Q:VK}(m:∀b,O b->bL (H b))(q:∀v H',aD H H'->DV G O H' v r->Q v H'):∀p H',aD H H'->H p=none->OV G (Op O p) H' p r->Q (.ref p) H':=λp H' g n o=>
 q _ H' g ((o.bZ λb z=>.inl<|.inl z).dv λz=>by
  have:=m p z
  rw[n] at this;rcases this with⟨_,e⟩|⟨_,e⟩|⟨_,e⟩|⟨_,e⟩<;>cases e)
def V2 (G:Gx):R2:=λx y H Q=>∃O ds es,(∀b,O b->bL (H b))/\DW G O H x (.lst ds)/\DW G O H y (.lst es)/\ds.length+es.length<=be/\∀p H',aD H H'->H p=none->OV G (Op O p) H' p (.lst<|ds++es)->Q (.ref p) H'
theorem NB:OpR X (gp .Add) (V2<|gx X):=by
 intro π s σ H x y v u Q I rx ry h;obtain⟨O,ds,es,m,hx,hy,hz,q⟩:=h;obtain⟨a,xs,rfl,ha,hd⟩:=f9 hx;obtain⟨b,ys,rfl,hb,he⟩:=f9 hy;cases rx;cases ry;obtain⟨its,r1,p1,_⟩:=I.list ha;obtain⟨its2,r2,p2,_⟩:=I.list hb;have l1:=bT hd;have l2:=bT he;have k1:=r1.length;have k2:=r2.length;obtain⟨⟨cls,dd,data,sl⟩,ho,hc,n,hdt⟩:=id p1.isList;obtain⟨⟨cls2,dd2,data2,sl2⟩,ho2,hc2,n2,hd2⟩:=id p2.isList;simp only at hc hdt hc2 hd2;subst hc hdt hc2 hd2;refine rj ⟨_,ho,rfl⟩ ⟨_,ho2,rfl⟩ noFill_list_add seq_list_add PySem.F.slot_list_add PySem.F.entry_list_add (PySem.F.args_list_add_2 _ _) (list_addW a b its.toArray its2.toArray n n2 dd dd2 sl sl2 (by simp;omega)) ⟨ho,ho2,?_⟩;rw[show its.toArray++its2.toArray=(its++its2).toArray by simp];exact DG (tk:=s.toks) I m (gU hd he) (r1.append r2) (by rw[aw];omega) (λb o e=>ah _ e) ⟨0,b0 _ rfl⟩ q
theorem Jq:OpR X (gp .Add) (λx y H Q=>∃O ds es,DW (gx X) O H x (.tup ds)/\DW (gx X) O H y (.tup es)/\ds.length+es.length<=be/\∀v H',aD H H'->DV (gx X) O H' v (.tup<|ds++es)->Q v H'):=by
 intro π s σ H x y v u Q I rx ry h;obtain⟨O,ds,es,hx,hy,hz,q⟩:=h;obtain⟨a,xs,rfl,ha,hd⟩:=yr hx;obtain⟨b,ys,rfl,hb,he⟩:=yr hy;have l1:=bT hd;have l2:=bT he;by_cases hx0:xs=[]
 ·subst hx0;cases hd;cases rx;cases ry;obtain⟨its,r1,p1,_⟩:=I.tuple ha.sq;obtain⟨its2,r2,p2,_⟩:=I.tuple hb.sq;cases r1;obtain⟨⟨cls,dd,data,sl⟩,ho,hc,n,hdt⟩:=id p1;obtain⟨⟨cls2,dd2,data2,sl2⟩,ho2,hc2,n2,hd2⟩:=id p2;simp only at hc hdt hc2 hd2;subst hc hdt hc2 hd2;exact rj ⟨_,ho,rfl⟩ ⟨_,ho2,rfl⟩ qk uj ly k8 (kP _ _)
   (tuple_addW0 a b ([]:List a7).toArray its2.toArray n n2 dd dd2 sl sl2<|by rfl) ⟨ho,ho2,⟨.ref b,H,I,rfl,q _ _ (aD.refl _)<|.tup hb he⟩⟩
 ·refine QS π s σ H _ _ v u Q I rx ry ⟨a,b,xs,ys,rfl,rfl,ha.sq,hb.sq,hx0,by omega,λz=>?_,λz p hp=>?_⟩
  ·subst z;cases he;exact q _ _ (aD.refl _) (by rw[eC];exact .tup ha hd)
  ·exact q _ _ (bC hp _)<|.tup (SqU.of az)<|(gU hd he).mono<|bC hp _
theorem aV:OpR X (gp .Add) (rG (gx X) aY):=by
 intro π s σ H x y v u Q I rx ry h;obtain⟨O,d,e,r,m,hx,hy,hr,q⟩:=h
 match d,e,hr with
 | .int i,.int j,hr=>
  cases hr;exact RV π s σ H x y v u Q I rx ry ⟨i,j,bN hx,bN hy,q _ _ (aD.refl _)<|.int _⟩
 | .str i,.str j,hr=>
  obtain⟨z,rfl⟩:=oif hr;exact Ak π s σ H x y v u Q I rx ry ⟨i,j,cV hx,cV hy,z,q _ _ (aD.refl _)<|.str _⟩
 | .lst ds,.lst es,hr=>
  obtain⟨z,rfl⟩:=oif hr;exact NB π s σ H x y v u Q I rx ry ⟨O,ds,es,m,hx,hy,z,BX m q⟩
 | .tup ds,.tup es,hr=>
  obtain⟨z,rfl⟩:=oif hr;exact Jq π s σ H x y v u Q I rx ry ⟨O,ds,es,hx,hy,z,q⟩
theorem EY:OpR X (gp .Sub) (rG (gx X) HH):=by
 intro π s σ H x y v u Q I rx ry h;obtain⟨O,d,e,r,m,hx,hy,hr,q⟩:=h
 match d,e,hr with
 | .int i,.int j,hr=>
  cases hr;exact Ul π s σ H x y v u Q I rx ry ⟨i,j,bN hx,bN hy,q _ _ (aD.refl _)<|.int _⟩
theorem lH:OpR X (gp .Mult) (rG (gx X) uZ):=by
 intro π s σ H x y v u Q I rx ry h;obtain⟨O,d,e,r,m,hx,hy,hr,q⟩:=h
 match d,e,hr with
 | .int i,.int j,hr=>
  obtain⟨z,rfl⟩:=oif hr;rcases z with z|z
  ·exact Oq π s σ H x y v u Q I rx ry ⟨i,j,bN hx,bN hy,z,q _ _ (aD.refl _)<|.int _⟩
  ·exact Qc π s σ H x y v u Q I rx ry ⟨i,j,bN hx,bN hy,z,q _ _ (aD.refl _)<|.int _⟩
theorem fV:OpR X (gp .FloorDiv) (rG (gx X) iz):=by
 intro π s σ H x y v u Q I rx ry h;obtain⟨O,d,e,r,m,hx,hy,hr,q⟩:=h
 match d,e,hr with
 | .int i,.int j,hr=>
  obtain⟨z,rfl⟩:=oif hr;refine KJ π s σ H x y v u Q I rx ry ⟨i,j,bN hx,bN hy,z,?_⟩;have e:i.fdiv j=dvI i j:=by
   unfold dvI;split
   ·rw[kC i<|by omega]
   ·rfl
  show Q (.int<|i.fdiv j) H;rw[e];exact q _ _ (aD.refl _)<|.int _
theorem dm:OpR X (gp .Mod) (rG (gx X) dG):=by
 intro π s σ H x y v u Q I rx ry h;obtain⟨O,d,e,r,m,hx,hy,hr,q⟩:=h
 match d,e,hr with
 | .int i,.int j,hr=>
  obtain⟨z,rfl⟩:=oif hr;refine Py π s σ H x y v u Q I rx ry ⟨i,j,bN hx,bN hy,z,?_⟩;have e:i.fmod j=mdI i j:=by
   unfold mdI;split
   ·rw[Int.fmod_eq_emod_of_nonneg i<|by omega]
   ·rfl
  show Q (.int<|i.fmod j) H;rw[e];exact q _ _ (aD.refl _)<|.int _
theorem xK:UnR X (unaryOp .USub) (rG1 (gx X) Ms):=by
 intro π s σ H x v Q I rx h;obtain⟨O,d,r,m,hx,hr,q⟩:=h
 match d,hr with
 | .int i,hr=>
  cases hr;exact Sv π s σ H x v Q I rx ⟨i,bN hx,q _ _ (aD.refl _)<|.int _⟩
mutual
def toPy:D->Option qo
 | .non=>some .none
 | .bl b=>some<|.bool b
 | .int i=>some<|.int i
 | .str x=>some<|.str x
 | .tup xs=>(yK xs).map .tuple
 | .lst xs=>(yK xs).map .list
 | .exc _ _ _=>none
 | .dct _ _=>none
 | .dcu _ _=>none
 | .adr _=>none
 | .ins _ _ _=>none
 | .dcf _ _=>none
def yK:List D->Option (List qo)
 |[]=>some []
 |d::ds=>(toPy d).bind λp=>(yK ds).map λps=>p::ps
end
mutual
theorem Dp {G:Gx}{O:Za}{H:Hp}:∀{v:V} {d:D} {p:qo},DV G O H v d->toPy d=some p->Hd.DV G.K H v p
 |_,_,_,.non,e=>by cases e;exact .non
 |_,_,_,.bl b,e=>by cases e;exact .bl b
 |_,_,_,.int i,e=>by cases e;exact .int i
 |_,_,_,.str x,e=>by cases e;exact .str x
 |_,_,_,.exc ..,e=>by cases e
 |_,_,_,.tup h hs,e=>by
  obtain⟨ps,e1,rfl⟩:=omap (by simpa[toPy] using e);exact .tup h.sq<|uN hs e1
 |_,_,_,.lst h hs,e=>by
  obtain⟨ps,e1,rfl⟩:=omap (by simpa[toPy] using e);exact .lst h.sq<|uN hs e1
 |_,_,_,.dct _ _ _ _ _,e=>by cases e
 |_,_,_,.dcu _ _ _ _ _,e=>by cases e
 |_,_,_,.adr _,e=>by cases e
 |_,_,_,.ins _ _ _ _ _ _,e=>by cases e
 |_,_,_,.dcf _ _ _ _,e=>by cases e
theorem uN {G:Gx}{O:Za}{H:Hp}:∀{vs:List V} {ds:List D} {ps:List qo},DVs G O H vs ds->yK ds=some ps->Hd.DVs G.K H vs ps
 |_,_,_,.nil,e=>by cases e;exact .nil
 |_,_,_,.cons (d:=d) (ds:=ds) h hs,e=>by
  unfold yK at e;cases e1:toPy d with
  |none=>rw[e1] at e;cases e
  |some p=>
   rw[e1] at e;obtain⟨ps,e2,rfl⟩:=omap e;exact .cons (Dp h e1)<|uN hs e2
end
theorem tH {G:Gx}{O:Za}{H:Hp}{v:V}{d:D}{p:qo}(h:DW G O H v d)(e:toPy d=some p):Hd.DV G.K H v p:=Dp h.any e
noncomputable def xP (d e:D):Option Bool:=match toPy d,toPy e with
 |some p,some q=>if ku p=true/\ku q=true then some (xw p q) else none
 |_,_=>none
def gEq:D->D->Option Bool
 | .int i,.int j=>some<|decide<|i=j
 | .str i,.str j=>some<|decide<|i=j
 | .bl i,.bl j=>some<|decide<|i=j
 | .non,.non=>some true
 |d,e=>xP d e
def gNe (d e:D):Option Bool:=(gEq d e).map (!·)
theorem vZ {d e:D}{b:Bool}(h:xP d e=some b):∃p q,toPy d=some p/\toPy e=some q/\ku p=true/\ku q=true/\xw p q=b:=by
 unfold xP at h;cases e1:toPy d with
 |none=>rw[e1] at h;cases h
 |some p=>
  cases e2:toPy e with
  |none=>rw[e1,e2] at h;cases h
  |some q=>
   rw[e1,e2] at h;obtain⟨⟨z1,z2⟩,rfl⟩:=oif h;exact⟨p,q,rfl,rfl,z1,z2,rfl⟩
theorem wH {d e:D}{b:Bool}(h:gEq d e=some b):(∃i j,d=.int i/\e=.int j/\b=decide (i=j))\/(∃i j,d=.str i/\e=.str j/\b=decide (i=j))\/(∃i j,d=.bl i/\e=.bl j/\b=decide (i=j))\/(d=.non/\e=.non/\b=true)\/xP d e=some b:=by
 unfold gEq at h;split at h
 ·cases h;exact .inl ⟨_,_,rfl,rfl,rfl⟩
 ·cases h;exact .inr<|.inl ⟨_,_,rfl,rfl,rfl⟩
 ·cases h;exact .inr<|.inr<|.inl ⟨_,_,rfl,rfl,rfl⟩
 ·cases h;exact .inr<|.inr<|.inr<|.inl ⟨rfl,rfl,rfl⟩
 ·exact .inr<|.inr<|.inr<|.inr h
theorem eN (hu:X.A.units+64<w4):OpR X (dk .Eq) (rGB (gx X) gEq):=by
 intro π s σ H x y v u Q I rx ry h;obtain⟨O,d,e,r,m,hx,hy,hr,q⟩:=h;rcases wH hr with⟨i,j,rfl,rfl,rfl⟩|⟨i,j,rfl,rfl,rfl⟩|⟨i,j,rfl,rfl,rfl⟩|⟨rfl,rfl,rfl⟩|h
 ·cases bN hx;cases bN hy;exact Gv π s σ H _ _ v u Q I rx ry ⟨rfl,by simpa using q⟩
 ·cases cV hx;cases cV hy;exact Gv π s σ H _ _ v u Q I rx ry ⟨rfl,by simpa using q⟩
 ·cases zq hx;cases zq hy;exact Gv π s σ H _ _ v u Q I rx ry ⟨rfl,by simpa using q⟩
 ·cases qQ hx;cases qQ hy;exact Gv π s σ H _ _ v u Q I rx ry ⟨rfl,by simpa using q⟩
 ·obtain⟨p,p',e1,e2,z1,z2,rfl⟩:=vZ h;exact Tv hu π s σ H x y v u Q I rx ry ⟨p,p',tH hx e1,tH hy e2,z1,z2,q⟩
theorem ue (hu:X.A.units+64<w4):OpR X (dk .NotEq) (rGB (gx X) gNe):=by
 intro π s σ H x y v u Q I rx ry h;obtain⟨O,d,e,r,m,hx,hy,hr,q⟩:=h;obtain⟨c,hc,rfl⟩:=omap hr;rcases wH hc with⟨i,j,rfl,rfl,rfl⟩|⟨i,j,rfl,rfl,rfl⟩|⟨i,j,rfl,rfl,rfl⟩|⟨rfl,rfl,rfl⟩|h
 ·cases bN hx;cases bN hy;exact Fq π s σ H _ _ v u Q I rx ry ⟨rfl,by simpa using q⟩
 ·cases cV hx;cases cV hy;exact Fq π s σ H _ _ v u Q I rx ry ⟨rfl,by simpa using q⟩
 ·cases zq hx;cases zq hy;exact Fq π s σ H _ _ v u Q I rx ry ⟨rfl,by simpa using q⟩
 ·cases qQ hx;cases qQ hy;exact Fq π s σ H _ _ v u Q I rx ry ⟨rfl,by simpa using q⟩
 ·obtain⟨p,p',e1,e2,z1,z2,rfl⟩:=vZ h;exact Tt hu π s σ H x y v u Q I rx ry ⟨p,p',tH hx e1,tH hy e2,z1,z2,q⟩
noncomputable def RG:List D->Option (List Int)
 |[]=>some []
 | .int i::ds=>(RG ds).map (i::·)
 |_::_=>none
theorem Ph {G:Gx}{O:Za}{H:Hp}:∀{vs:List V} {ds:List D} {ns:List Int},DVs G O H vs ds->RG ds=some ns->vs=ns.map V.int
 |_,_,_,.nil,e=>by cases e;rfl
 |_,_,_,.cons (d:=d) h hs,e=>by
  cases d with
  |int i=>
   obtain⟨ns,e1,rfl⟩:=omap (by simpa[RG] using e);cases h;rw[Ph hs e1];rfl
  |_=>cases e
noncomputable def gLt:D->D->Option Bool
 | .int i,.int j=>some<|decide<|i<j
 |_,_=>none
def gLe:D->D->Option Bool
 | .int i,.int j=>some<|decide<|i<=j
 |_,_=>none
noncomputable def gGt:D->D->Option Bool
 | .int i,.int j=>some<|decide<|j<i
 |_,_=>none
noncomputable def gGe:D->D->Option Bool
 | .int i,.int j=>some<|decide<|j<=i
 |_,_=>none
theorem K1 (hu:X.A.units+64<w4):OpR X (dk .Lt) (rGB (gx X) gLt):=by
 intro π s σ H x y v u Q I rx ry h;obtain⟨O,d,e,r,m,hx,hy,hr,q⟩:=h;unfold gLt at hr;split at hr
 ·rename_i i j;cases hr;exact U4 π s σ H x y v u Q I rx ry ⟨i,j,bN hx,bN hy,q⟩
 ·cases hr
theorem qC:OpR X (dk .LtE) (rGB (gx X) gLe):=by
 intro π s σ H x y v u Q I rx ry h;obtain⟨O,d,e,r,m,hx,hy,hr,q⟩:=h
 match d,e,hr with
 | .int i,.int j,hr=>cases hr;exact Vl π s σ H x y v u Q I rx ry ⟨i,j,bN hx,bN hy,q⟩
theorem Bo:OpR X (dk .Gt) (rGB (gx X) gGt):=by
 intro π s σ H x y v u Q I rx ry h;obtain⟨O,d,e,r,m,hx,hy,hr,q⟩:=h
 match d,e,hr with
 | .int i,.int j,hr=>cases hr;exact Vb π s σ H x y v u Q I rx ry ⟨i,j,bN hx,bN hy,q⟩
theorem Uv:OpR X (dk .GtE) (rGB (gx X) gGe):=by
 intro π s σ H x y v u Q I rx ry h;obtain⟨O,d,e,r,m,hx,hy,hr,q⟩:=h
 match d,e,hr with
 | .int i,.int j,hr=>cases hr;exact V9 π s σ H x y v u Q I rx ry ⟨i,j,bN hx,bN hy,q⟩
end
section
variable {X:Cx}{E:XK}{e a b:Expr}{es:List Expr}{f fa:Zl}{fs:Ze}{pos p:Pos}
noncomputable def gIx:D->D->Option D
 | .lst ds,.int i=>atI ds i
 | .tup ds,.int i=>atI ds i
 | .str z,.int i=>if z.length<=be then(atI z.cps.toList i).map λc=>.str ⟨#[c]⟩ else none
 |_,_=>none
theorem Dr {G:Gx}{O:Za}{H:Hp}{xs:List V}{ds:List D}{i:Int}{d:D}(h:DVs G O H xs ds)(e:atI ds i=some d):∃x,atI xs i=some x/\DV G O H x d:=by
 unfold atI at e ⊢;rw[bT h];cases q:ixN ds.length i with
 |none=>rw[q] at e;cases e
 |some j=>rw[q] at e;exact tZ h e
theorem eO:IxR X (rG (gx X) gIx):=by
 intro value slice π s σ H x y v u Q I rx ry h hs;obtain⟨O,d,e,r,m,hx,hy,hr,q⟩:=h
 match d,e,hr with
 | .lst ds,.int i,hr=>
  cases bN hy;obtain⟨p,xs,rfl,hp,hd⟩:=f9 hx;obtain⟨z,hz,dz⟩:=Dr hd hr;exact QB value slice π s σ H _ _ v u Q I rx ry ⟨p,xs,i,z,rfl,rfl,hp,hz,q _ _ (aD.refl _) dz⟩ hs
 | .tup ds,.int i,hr=>
  cases bN hy;obtain⟨p,xs,rfl,hp,hd⟩:=oZ hx;obtain⟨z,hz,dz⟩:=Dr hd hr;exact Uw value slice π s σ H _ _ v u Q I rx ry ⟨p,xs,i,z,rfl,rfl,hp,hz,q _ _ (aD.refl _) dz⟩ hs
 | .str z,.int i,hr=>
  cases bN hy;cases cV hx;have hr':(if z.length<=be then(atI z.cps.toList i).map λc=>D.str ⟨#[c]⟩ else none)=some r:=hr;by_cases hz:z.length<=be
  ·rw[if_pos hz] at hr';obtain⟨c,hc,rfl⟩:=omap hr';exact TF value slice π s σ H _ _ v u Q I rx ry ⟨z,i,c,rfl,rfl,hz,hc,q _ _ (aD.refl _)<|.str _⟩ hs
  ·rw[if_neg hz] at hr';cases hr'
def tO (G:Gx)(E:XK)(f:Me->Res (Option Int)):TO:=λσ H Q=>∃O0 M0 H0 ow m,Rel G O0 M0 H0 ow σ H m/\Pu G E (f m) H λo=>∀H',aD H H'->Q o H'
abbrev FO (X:Cx)(E:XK)(e:Option Expr)(f:Me->Res (Option Int)):Prop:=PO X e<|tO (gx X) E f
theorem Et {e:Option Expr}{T T':TO}(h:PO X e T)(k:∀σ H Q,T' σ H Q->T σ H Q):PO X e T':=λπ s σ H Q I q=>h π s σ H Q I<|k σ H Q q
noncomputable def fO0:Me->Res (Option Int):=λ_=>.ok none
noncomputable def fO1 (f:Zl):Me->Res (Option Int):=λm=>(f m).bind λd=>match d with
 | .int i=>.ok<|some i
 |_=>.stuck
theorem j0:FO X E none fO0:=Et Ng λσ H Q hE=>xq5 hE λO0 M0 H0 ow m R q=>q H<|aD.refl _
theorem iG (h:FB X E e f):FO X E (some e) (fO1 f):=Et (xQ h) λσ H Q hE=>xq5 hE λO0 M0 H0 ow m R q=>⟨O0,M0,H0,ow,m,R,q.bind.imp (aD.refl _) λd q v H' g hv=>by
 cases d with
 |int i=>cases bN hv;exact⟨i,rfl,q H' g⟩
 |_=>exact q.elim⟩
def cut {α:Type}(xs:List α)(lo hi:Option Int):List α:=(xs.drop<|HT.sIx xs.length 0 lo).take<|HT.sIx xs.length xs.length hi-HT.sIx xs.length 0 lo
def gSl:D->Option Int->Option Int->Option D
 | .lst ds,lo,hi=>some<|.lst<|cut ds lo hi
 | .tup ds,lo,hi=>if HT.sIx ds.length 0 lo=0/\HT.sIx ds.length ds.length hi=ds.length then none else some (.tup<|cut ds lo hi)
 | .str z,lo,hi=>if z.length<=be then some (.str<|h7 z lo hi) else none
 |_,_,_=>none
def rSl (G:Gx):V->Option Int->Option Int->Hp->VK->Prop:=λx lo hi H Q=>∃O d r,(∀b,O b->bL (H b))/\DW G O H x d/\gSl d lo hi=some r/\∀v H',aD H H'->DV G O H' v r->Q v H'
noncomputable def Xr:D->Option Int->Option Int->Option D
 | .lst ds,lo,hi=>some<|.lst<|cut ds lo hi
 |_,_,_=>none
def W6 (G:Gx):V->Option Int->Option Int->Hp->VK->Prop:=λx lo hi H Q=>∃O d r,(∀b,O b->bL (H b))/\DW G O H x d/\Xr d lo hi=some r/\∀p H',aD H H'->H p=none->OV G (Op O p) H' p r->Q (.ref p) H'
theorem DN {G:Gx}{O:Za}{H:Hp}{xs:List V}{ds:List D}{lo hi:Option Int}(h:DVs G O H xs ds):DVs G O H (yN xs lo hi) (cut ds lo hi):=by
 unfold yN cut;rw[bT h];exact vf _<|zu _ h
theorem Vy:SlR X (W6<|gx X):=by
 intro π s σ H x v vl vu lo hi sl Q I rx hs pl pu h;obtain⟨O,d,r,m,hx,hr,q⟩:=h
 match d,hr with
 | .lst ds,hr=>
  cases hr;obtain⟨p,xs,rfl,hp,hd⟩:=f9 hx;exact PN π s σ H _ v vl vu lo hi sl Q I rx hs pl pu ⟨p,xs,rfl,hp,λp hp'=>q p _ (bC hp' _) hp' ⟨_,az,((DN hd).bZ λb z=>z.elim .inl λe=>.inr (by rw[e];exact hp')).mono<|bC hp' _⟩⟩
theorem wW {u:a7}{o:Option Int}(h:wb u o):∃l:Option (Int×Tok),u=partValue l/\l.map (·.1)=o:=by
 cases h with
 |none=>exact⟨none,rfl,rfl⟩
 |int i t=>exact⟨some (i,t),rfl,rfl⟩
theorem WN:SlR X (rSl<|gx X):=by
 intro π s σ H x v vl vu lo hi sl Q I rx hs pl pu h;obtain⟨O,d,r,m,hx,hr,q⟩:=h
 match d,hr with
 | .lst ds,hr=>exact Vy π s σ H x v vl vu lo hi sl Q I rx hs pl pu ⟨O,.lst ds,r,m,hx,hr,BX m q⟩
 | .tup ds,hr=>
  obtain⟨p,xs,rfl,hp,hd⟩:=oZ hx;have hr':(if HT.sIx ds.length 0 lo=0/\HT.sIx ds.length ds.length hi=ds.length then none else some (D.tup<|cut ds lo hi))=some r:=hr;by_cases z:HT.sIx ds.length 0 lo=0/\HT.sIx ds.length ds.length hi=ds.length
  ·rw[if_pos z] at hr';cases hr'
  ·rw[if_neg z] at hr';cases hr';exact S8 π s σ H _ v vl vu lo hi sl Q I rx hs pl pu ⟨p,xs,rfl,hp,by rw[bT hd];exact z,λp hp'=>q _ _ (bC hp' _)<|.tup (SqU.of az)<|(DN hd).mono<|bC hp' _⟩
 | .str z,hr=>
  cases cV hx;obtain⟨t,rfl⟩:=rx;obtain⟨hz,rfl⟩:=oif hr;obtain⟨l,rfl,rfl⟩:=wW pl;obtain⟨u,rfl,rfl⟩:=wW pu;refine⟨"str",_,oT.lookup,oD _ _ _,wpAny_getItem_str_slice (l:=l) (u:=u) (st:=none) hs rfl<|post_val_or_str ⟨cm (Txt.slice_le z _ _) hz,λt' k=>Ej (tk:=k) I q⟩⟩
def fSl (f:Zl)(lo hi:Me->Res (Option Int)):Zl:=λm=>(f m).bind λd=>(lo m).bind λl=>(hi m).bind λu=>ofO<|gSl d l u
variable {lo hi:Option Expr}{fl fh:Me->Res (Option Int)}{p2:Pos}
theorem gG (he:FB X E e f)(hl:FO X E lo fl)(hu:FO X E hi fh):FE X E (.Subscript e (.Slice lo hi none p2) pos) (fSl f fl fh):=
 bF (zZ WN he hl hu) λσ H Q hE=>xq5 hE λO0 M0 H0 ow m R q=>⟨O0,M0,H0,ow,m,R,q.bind.imp (aD.refl _) λd q v H1 g1 hv=>⟨O0,M0,H0,ow,m,R.mono g1,q.bind.imp g1 λl q H2 g2=>⟨O0,M0,H0,ow,m,R.mono<|g1.trans g2,q.bind.imp (g1.trans g2) λu q H3 g3=>by
  obtain⟨r,hr,k⟩:=q.ofO;exact⟨_,d,r,(R.mono<|(g1.trans g2).trans g3).mutk,hv.mono<|g2.trans g3,hr,λv H' g d=>k v H' (((g1.trans g2).trans g3).trans g) d⟩⟩⟩⟩
noncomputable def cT:List D->Option D
 |[.lst ds]=>some<|.int ds.length
 |[.tup ds]=>some<|.int ds.length
 |[.str z]=>if z.length<=be then some (.int z.length) else none
 |[.dct ks _]=>some<|.int ks.length
 |_=>none
theorem nA {G:Gx}{O:Za}{H:Hp}{vs:List V}{d:D}(h:DWs G O H vs [d]):∃v,vs=[v]/\DW G O H v d:=by
 cases h with
 |cons a t=>cases t;exact⟨_,rfl,a⟩
theorem HN:eQ X (.builtin "len") (λxs H Q=>∃a ι,xs=[V.ref a]/\Rd H a (.dK ι)/\Q (.int ι.length) H):=by
 intro π s σ H xs us Q I r h;obtain⟨a,ι,rfl,e,q⟩:=h;obtain⟨u,rfl,rx⟩:=vals1 r;cases rx;exact Vu I e λt s' I'=>⟨.int ι.length,H,I',⟨t,rfl⟩,q⟩
theorem cD:eQ X (.builtin "len") (rGC (gx X) cT):=by
 intro π s σ H xs us Q I r h;obtain⟨O,ds,d,m,hx,hr,q⟩:=h
 match ds,hr with
 |[.lst ds],hr=>
  cases hr;obtain⟨v,rfl,hv⟩:=nA hx;obtain⟨p,xs,rfl,hp,hd⟩:=f9 hv;exact ji π s σ H _ us Q I r ⟨p,xs,rfl,.inl hp,by rw[bT hd];exact q _ _ (aD.refl _)<|.int _⟩
 |[.tup ds],hr=>
  cases hr;obtain⟨v,rfl,hv⟩:=nA hx;obtain⟨p,xs,rfl,hp,hd⟩:=oZ hv;exact ji π s σ H _ us Q I r ⟨p,xs,rfl,.inr hp,by rw[bT hd];exact q _ _ (aD.refl _)<|.int _⟩
 |[.str z],hr=>
  obtain⟨hz,rfl⟩:=oif hr;obtain⟨v,rfl,hv⟩:=nA hx;cases cV hv;exact gP π s σ H _ us Q I r ⟨z,rfl,hz,q _ _ (aD.refl _)<|.int _⟩
 |[.dct ks vs],hr=>
  cases hr;obtain⟨v,rfl,hv⟩:=nA hx;obtain⟨p,ι,ws,rfl,hp,e1,e2,hd⟩:=Kr hv;exact HN π s σ H _ us Q I r ⟨p,ι,rfl,hp,by rw[show ι.length=ks.length by rw[← e1,fA]];exact q _ _ (aD.refl _)<|.int _⟩
noncomputable def QG:List D->Option D
 |[.int i]=>some<|.int<|if i<0 then -i else i
 |_=>none
theorem vP:eQ X (.builtin "abs") (rGC (gx X) QG):=by
 intro π s σ H xs us Q I r h;obtain⟨O,ds,d,m,hx,hr,q⟩:=h
 match ds,hr with
 |[.int i],hr=>
  cases hr;obtain⟨v,rfl,hv⟩:=nA hx;cases bN hv;exact M9 π s σ H _ us Q I r ⟨i,rfl,q _ _ (aD.refl _)<|.int _⟩
def sr:List D->Option D
 |[.int i]=>if i.natAbs.log2<1920 then some (.str (toString i:String)) else none
 |_=>none
theorem jw:eQ X (.type "str") (rGC (gx X) sr):=by
 intro π s σ H xs us Q I r h;obtain⟨O,ds,d,m,hx,hr,q⟩:=h
 match ds,hr with
 |[.int i],hr=>
  obtain⟨hz,rfl⟩:=oif hr;obtain⟨v,rfl,hv⟩:=nA hx;cases bN hv;exact xn π s σ H _ us Q I r ⟨i,rfl,hz,q _ _ (aD.refl _)<|.str _⟩
noncomputable def TQ:List D->Option D
 |[.lst ds]=>some<|.tup ds
 |[.tup ds]=>some<|.tup ds
 |_=>none
theorem rC:eQ X (.type "tuple") (rGC (gx X) TQ):=by
 intro π s σ H xs us Q I r h;obtain⟨O,ds,d,m,hx,hr,q⟩:=h
 match ds,hr with
 |[.lst ds],hr=>
  cases hr;obtain⟨v,rfl,hv⟩:=nA hx;obtain⟨p,xs,rfl,hp,hd⟩:=f9 hv;exact oH π s σ H _ us Q I r ⟨p,xs,rfl,.inl ⟨hp,λl hl=>q _ _ (bC hl _)<|.tup (SqU.of az)<|hd.mono<|bC hl _⟩⟩
 |[.tup ds],hr=>
  cases hr;obtain⟨v,rfl,hv⟩:=nA hx;obtain⟨p,xs,rfl,hp,hd⟩:=yr hv;exact oH π s σ H _ us Q I r ⟨p,xs,rfl,.inr ⟨hp.sq,q _ _ (aD.refl _)<|.tup hp hd⟩⟩
noncomputable def yM:List D->Option D
 |[.lst ds]=>some<|.lst ds
 |[.tup ds]=>some<|.lst ds
 |_=>none
theorem uX:eQ X (.type "list") (R9 (gx X) yM):=by
 intro π s σ H xs us Q I r h;obtain⟨O,ds,d,m,hx,hr,q⟩:=h;have go:∀{p:Addr} {ys:List V} {ds:List D},(SqL X.K H p ys\/SqT X.K H p ys)->DVs (gx X) O H ys ds->(∀p H',aD H H'->H p=none->OV (gx X) (Op O p) H' p (.lst ds)->Q (.ref p) H')->Vals [V.ref p] us->cn (cq X.prog X.w) X.A (call (.type "list") us) (EP X π σ Q) X.xe s:=
  λhp hd q r=>xR π s σ H _ us Q I r ⟨_,_,rfl,hp,λl hl=>q _ _ (bC hl _) hl ⟨_,az,(hd.bZ λb z=>z.elim .inl λe=>.inr (by rw[e];exact hl)).mono<|bC hl _⟩⟩
 match ds,hr with
 |[.lst ds],hr=>
  cases hr;obtain⟨v,rfl,hv⟩:=nA hx;obtain⟨p,xs,rfl,hp,hd⟩:=f9 hv;exact go (.inl hp) hd q r
 |[.tup ds],hr=>
  cases hr;obtain⟨v,rfl,hv⟩:=nA hx;obtain⟨p,xs,rfl,hp,hd⟩:=oZ hv;exact go (.inr hp) hd q r
noncomputable def cH:D->String
 | .non=>"NoneType"
 | .bl _=>"bool"
 | .int _=>"int"
 | .str _=>"str"
 | .tup _=>"tuple"
 | .lst _=>"list"
 | .dct _ _=>"dict"
 | .dcu _ _=>"dict"
 | .exc _ _ _=>""
 | .dcf _ _=>""
 | .adr _=>""
 | .ins _ _ _=>""
noncomputable def qK (t T:String):Bool:=t==T||(t=="bool" && T=="int")
noncomputable def kinds:List String:=["NoneType", "bool", "int", "str", "tuple", "list", "dict"]
theorem Nh {K:av}{t:String}:d4 K (.type t) (.type t)=some true:=by unfold d4;rw[if_pos<|by simp]
theorem CQ {K:av}:∀t∈kinds,∀T∈kinds,d4 K (.type t) (.type T)=some (qK t T):=by
 intro t ht T hT;simp only[kinds,ag,cp,or_false] at ht hT;rcases ht with rfl|rfl|rfl|rfl|rfl|rfl|rfl<;>rcases hT with rfl|rfl|rfl|rfl|rfl|rfl|rfl<;>first|exact Nh|kernel_rfl
theorem za {G:Gx}{O:Za}{H:Hp}{v:V}{d:D}(h:DW G O H v d)(n:cH d≠""):cH d∈kinds/\TyK G.K H v (.type<|cH d):=by
 have z:=h.any;cases z with
 |non=>exact⟨by simp[cH,kinds],.of .non⟩
 |bl b=>exact⟨by simp[cH,kinds],.of<|.bl b⟩
 |int b=>exact⟨by simp[cH,kinds],.of<|.int b⟩
 |str b=>exact⟨by simp[cH,kinds],.of<|.str b⟩
 |exc _ _=>exact absurd rfl n
 |dcf _ _ _ _=>exact absurd rfl n
 |adr _=>exact absurd rfl n
 |ins _ _ _ _ _ _=>exact absurd rfl n
 |tup hq _=>exact⟨by simp[cH,kinds],.tup hq.sq⟩
 |lst hq _=>exact⟨by simp[cH,kinds],.lst hq.sq⟩
 |dct _ e _ _ _=>exact⟨by simp[cH,kinds],.of<|.dK e⟩
 |dcu _ e _ _ _=>exact⟨by simp[cH,kinds],.of<|.dT e⟩
def gn (T:String)(f:Zl):Zl:=λm=>(f m).bind λd=>if cH d = "" then .stuck else .ok (.bl<|qK (cH d) T)
theorem jy {x y:Str}{py:Pos}{T:String}(ha:FB X E a fa)(hg:Gl X "isinstance")(hm:X.mg "isinstance" = none)(hv:cf "isinstance" = some (.builtin "isinstance"))(hgy:Gl X y)(hmy:X.mg y=none)(hvy:cf y=some (.type T))(hT:T∈kinds:=by decide)
  (hny:y≠"__name__":=by decide) (hdy:(y==("__debug__":Str))=false:=by decide)
  (he:ar [a,.Name y py] X.env=(false,eval a X.env)::ar [.Name y py] X.env:=by rfl) (he2:ar [.Name y py] X.env=(false,eval (.Name y py) X.env)::ar [] X.env:=by rfl) (ζ:(hJ pos<|ar [.Name y py] X.env).any (·.1)=false:=by rfl):
  FE X E (.Call (.Name "isinstance" p) [a,.Name y py] [] pos) (gn T fa):=
 bF (dI qY hg hm hv (aB ha (aB (sX (v:=.ty T) hgy hmy hvy rfl hny hdy) aP he2) he) (by decide) (by decide) he ζ) λσ H Q hE=>xq5 hE λO0 M0 H0 ow m R q=>⟨O0,M0,H0,ow,m,R,q.bind.imp (aD.refl _) λd q v H' g hv=>by
  by_cases n:cH d = ""
  ·rw[if_pos n] at q;exact q.elim
  ·rw[if_neg n] at q;obtain⟨k1,k2⟩:=za hv n;exact⟨v,.ty T,_,_,_,rfl,rfl,k2,CQ _ k1 T hT,q _ _ g<|.bl _⟩⟩
end
section
theorem dO.chg (R:dO G O0 M0 H0 ow σ H m)(ho:ow i=some a)(g:Kp (· = a) H H')(h:OV G (Ow O0 ow) H' a d')
  (hs:(m[i]? = some (.ow d)/\s'=.ow d')\/(m[i]? = some (.io d)/\s'=.io d')):dO G O0 M0 H0 ow σ H' (m.set i s'):=by
 have oa:Ow O0 ow a:=.inr ⟨i,ho⟩;have kp:Kp (Ow O0 ow) H H':=λb u e n=>g b u e λz=>n<|z▸oa;have hi:i<m.length:=by rcases hs with⟨e,_⟩|⟨e,_⟩<;>exact xq e
 have ne:∀b o,H b=some o->b≠a->H' b=H b:=λb o e n=>by rw[e];exact g b o e n
 refine⟨⟨by simp[R.len],λb u e n=>?_,λb z=>?_,λb z=>?_,R.no0,R.inj,λj hj=>R.out j (by simpa using hj),λj s e=>?_⟩,uz R.nb λ_ z=>by rcases hs with⟨_,w⟩|⟨_,w⟩<;>(rw[w] at z;cases z)⟩
 ·refine g b u (R.keep b u e n) λz=>?_;subst z;rcases hs with⟨q,_⟩|⟨q,_⟩
  ·obtain⟨a',e1,e2,_⟩:=R.slot i _ q;rw[ho] at e1;cases e1;rw[e2] at e;cases e
  ·obtain⟨a',e1,e2,_⟩:=R.slot i _ q;rw[ho] at e1;cases e1;exact n e2
 ·by_cases q:b=a
  ·rw[q]
   have:=h.mut
   intro w;rw[w] at this;rcases this with⟨_,e⟩|⟨_,e⟩|⟨_,e⟩|⟨_,e⟩<;>cases e
  ·cases w:H b with
   |none=>exact absurd w (R.m0 b z)
   |some o=>rw[g b o w q];simp
 ·by_cases q:b=a
  ·rw[q];exact h.mut
  ·have:=R.mutk b z
   rcases this with⟨_,e⟩|⟨_,e⟩|⟨_,e⟩|⟨_,e⟩
   ·rw[ne b _ e q];exact .inl ⟨_,e⟩
   ·rw[ne b _ e q];exact .inr<|.inl ⟨_,e⟩
   ·rw[ne b _ e q];exact .inr<|.inr<|.inl ⟨_,e⟩
   ·rw[ne b _ e q];exact .inr<|.inr<|.inr ⟨_,e⟩
 ·by_cases q:j=i
  ·subst q;rw[dy hi] at e;cases e;rcases hs with⟨q,rfl⟩|⟨q,rfl⟩
   ·refine t7 (R.slot j _ q) λa' e1 e2 e3 _=>?_;rw[ho] at e1;cases e1;exact⟨a,ho,e2,e3,h⟩
   ·refine t7 (R.slot j _ q) λa' e1 e2 e3 _=>?_;rw[ho] at e1;cases e1;exact⟨a,ho,e2,e3,h⟩
  ·rw[dA<|kL q] at e;have z:=R.slot j s e;have other:∀{b:Addr} {d:D},ow j=some b->OV G (Ow O0 ow) H b d->OV G (Ow O0 ow) H' b d:=λ{b d} e1 h1=>by
    have nb:b≠a:=λw=>q<|R.inj j i b e1<|w▸ho;rcases h1.mut with⟨_,e⟩|⟨_,e⟩|⟨_,e⟩|⟨_,e⟩<;>exact h1.kp R.mutk kp (ne b _ e nb)
   cases s with
   |un=>exact z
   |fz d=>obtain⟨b,x,e,q⟩:=z;exact⟨b,x,e,q.kp R.mutk kp⟩
   |ow d=>obtain⟨b,x,e,f,q'⟩:=z;exact⟨b,x,e,f,other x q'⟩
   |io d=>obtain⟨b,x,e,f,q'⟩:=z;exact⟨b,x,e,f,other x q'⟩
   |bw d=>exact(R.nb j d e).elim
   |hd w b d=>obtain⟨x,e,f,q'⟩:=z;exact⟨x,e,f,other x q'⟩
theorem Go.chg (ho:ow i=some a)(g:Kp (· = a) H H')(h:OV G (Ow O0 ow) H' a d):Go O0 ow H ow H':=
 ⟨λb u e n=>g b u e λz=>n<|z▸.inr ⟨i,ho⟩,λj b e=>.inl<|.inr ⟨j,e⟩,λb n=>by
  by_cases q:b=a
  ·rw[q]
   have:=h.mut
   intro w;rw[w] at this;rcases this with⟨_,e⟩|⟨_,e⟩|⟨_,e⟩|⟨_,e⟩<;>cases e
  ·cases w:H b with
   |none=>exact absurd w n
   |some o=>rw[g b o w q];simp⟩
theorem CG:Kp (· = a) H (L2.upd H a o):=λb u e n=>by rw[L2.aC n];exact e
noncomputable def o7 (m:Me)(i:Nat):Option (Bool×List D):=match m[i]? with
 |some (.ow<|.lst ds)=>some (true,ds)
 |some (.io<|.lst ds)=>some (false,ds)
 |_=>none
noncomputable def putL (m:Me)(i:Nat)(k:Bool)(ds:List D):Me:=m.set i<|if k then .ow (.lst ds) else .io (.lst ds)
theorem pZ (R:Rel G O0 M0 H0 ow σ H m){i:Nat}{k:Bool}{ds:List D}(e:o7 m i=some (k,ds)):∃a xs,ow i=some a/\σ[i]? = some (some<|.ref a)/\H a=some (.lst xs)/\DVs G (Ow O0 ow) H xs ds/\((m[i]? = some (.ow<|.lst ds)/\k=true)\/(m[i]? = some (.io<|.lst ds)/\k=false)):=by
 unfold o7 at e;split at e
 ·rename_i q;cases e;obtain⟨a,e1,e2,e3,xs,e4,e5⟩:=R.slot i _ q;exact⟨a,xs,e1,e3,e4,e5,.inl ⟨q,rfl⟩⟩
 ·rename_i q;cases e;obtain⟨a,e1,e2,e3,xs,e4,e5⟩:=R.slot i _ q;exact⟨a,xs,e1,e3,e4,e5,.inr ⟨q,rfl⟩⟩
 ·cases e
theorem dO.put (R:dO G O0 M0 H0 ow σ H m)(ho:ow i=some a)(hm:(m[i]? = some (.ow<|.lst ds)/\k=true)\/(m[i]? = some (.io<|.lst ds)/\k=false))(hd:DVs G (Ow O0 ow) H ys es):
  dO G O0 M0 H0 ow σ (L2.upd H a<|.lst ys) (putL m i k es)/\Go O0 ow H ow (L2.upd H a<|.lst ys):=by
 have oa:Ow O0 ow a:=.inr ⟨i,ho⟩;have kp:Kp (Ow O0 ow) H (L2.upd H a<|.lst ys):=λb u e n=>CG b u e λz=>n<|z▸oa;have ov:OV G (Ow O0 ow) (L2.upd H a<|.lst ys) a (.lst es):=⟨ys,L2.az,hd.kp R.mutk kp⟩;refine⟨R.chg (d:=.lst ds) (d':=.lst es) ho CG ov ?_,Go.chg ho CG ov⟩;rcases hm with⟨e,rfl⟩|⟨e,rfl⟩
 ·exact .inl ⟨e,rfl⟩
 ·exact .inr ⟨e,rfl⟩
end
section
def yu (i:Nat)(f:Zl):Zg:=λm=>(ofO<|o7 m i).bind λo=>(f m).bind λd=>if o.2.length<be then .ok (.nx,putL m i o.1<|o.2++[d]) else .stuck
theorem Hx (i:Nat)(he:FE X E e f)(hN:X.N[i]? = some x:=by rfl)(hv:Vis X.env.scope x:=by first|exact af rfl|exact kF (af rfl)|exact kF (kF rfl))(hd:(x==("__debug__":Str))=false:=by decide)(hcd:(x==("__classdict__":Str))=false:=by decide)
  (ω:i7 (.Name x np) "append" X.env (eval (.Name x np) X.env)=eval (.Name x np) X.env:=by rfl)
  (ν:((hJ χ<|ar [e] X.env).all (λx=>!x.1)&&(uu χ<|mT [] X.env).all (λx=>x.1.isSome)&&decide ([e].length+([]:List tj).length+(if([]:List tj).isEmpty then 0 else 1)<30))=true:=by rfl)
  (η:(apos.endLine==χ.line)=true:=by rfl) (hs:ar [e] X.env=(false,eval e X.env)::ar [] X.env:=by rfl) (hplain:(hJ χ<|ar [] X.env).any (·.1)=false:=by rfl)
  (θ:ja (.Call (.Attribute (.Name x np) "append" apos) [e] [] χ) none pos.line X.env=pure false:=by rfl):
  FS X E (.Expr (.Call (.Attribute (.Name x np) "append" apos) [e] [] χ) pos) (yu i f):=
 eU (cF (rH dS fg fq ig (aA hN hv hd hcd) (aB he aP hs) ω ν η hs hplain) θ) λW σ H hE=>xq5 hE λO0 M0 H0 ow m R q=>by
  obtain⟨o,ho,q⟩:=Ss.ofO q;obtain⟨k,ds⟩:=o;refine uD (pZ R.toRel ho) λa xs e1 e2 e3 e4 e5=>?_;refine⟨_,e2,.inl ⟨rfl,xs,SqL.of e3⟩,O0,M0,H0,ow,m,R.toRel,(Ss.pu R.toRel q).imp (aD.refl _) λd q v H1 g1 hv=>?_⟩;have R1:=R.mono g1;by_cases hz:ds.length<be
  ·rw[if_pos hz] at q;obtain⟨R2,g2⟩:=R1.put (es:=ds++[d]) (ys:=xs++[v]) e1 e5<|gU (e4.mono g1)<|.cons hv .nil;exact⟨a,xs,v,rfl,rfl,g1 _ _ e3,by rw[bT e4];exact hz,q _ _ _ R2<|(Go.refl g1).trans g2⟩
  ·rw[if_neg hz] at q;exact q.elim
def jV (j i:Nat):Zg:=λm=>(ofO<|o7 m i).bind λo=>(ofO<|o.2[o.2.length-1]?).bind λd=>.ok (.nx,(putL m i o.1 o.2.dropLast).set j<|.fz d)
theorem wY (h:DVs G O H xs ds):DVs G O H xs.dropLast ds.dropLast:=by
 rw[rL,rL,bT h];exact vf _ h
theorem GJ (j i:Nat)(hnd:X.N.Nodup)(hj:X.N[j]? = some y)(hy:Loc X.env.scope y)(hN:X.N[i]? = some x:=by rfl)(hv:Vis X.env.scope x:=by first|exact af rfl|exact kF (af rfl)|exact kF (kF rfl))(hd:(x==("__debug__":Str))=false:=by decide)(hcd:(x==("__classdict__":Str))=false:=by decide)
  (ω:i7 (.Name x np) "pop" X.env (eval (.Name x np) X.env)=eval (.Name x np) X.env:=by rfl) (η:(apos.endLine==χ.line)=true:=by rfl) {yp:Pos}
  (θ:ja (.Call (.Attribute (.Name x np) "pop" apos) [] [] χ) (some<|.Name y yp) pos.line X.env=pure false:=by rfl) (hf:X.fn y=true\/X.env.scope.names.lookup y=some .local:=by first|exact .inl rfl|exact .inr rfl|assumption):
  FS X E (.Assign [.Name y yp] (.Call (.Attribute (.Name x np) "pop" apos) [] [] χ) pos) (jV j i):=
 eU (cu hnd hj hy (Az dS mf mh Ck (aA hN hv hd hcd) ω η) θ hf) λW σ H hE=>xq5 hE λO0 M0 H0 ow m R q=>by
  obtain⟨o,ho,q⟩:=Ss.ofO q;obtain⟨k,ds⟩:=o;obtain⟨d,hd',q⟩:=Ss.ofO q;refine uD (pZ R.toRel ho) λa xs e1 e2 e3 e4 e5=>?_;obtain⟨v,hv,dv⟩:=tZ e4 hd';obtain⟨R2,g2⟩:=R.put (es:=ds.dropLast) (ys:=xs.dropLast) e1 e5<|wY e4;have dv2:=dv.go R.mutk g2.ev;exact⟨_,e2,.inl ⟨rfl,xs,SqL.of e3⟩,a,xs,v,rfl,rfl,e3,by rw[bT e4];exact hv,q _ _ _ (R2.set dv2)<|g2.trans Go.set⟩
end
def Xs (G:Gx)(E:XK){α:Type}(O0 M0:Za)(H0:Hp)(ow:Os)(σ:L2.St)(H:Hp)(r:Res (α×Me))(k:α->Hp->Prop):Prop:=match r with
 | .ok (a,m')=>∀H',dO G O0 M0 H0 ow σ H' m'->Go O0 ow H ow H'->k a H'
 | .exc c=>∀C H',XP G H' c C->Kp M0 H0 H'->E (.ref C.1) C.2 H'
 | .stuck=>False
def tX (G:Gx)(E:XK)(f:Me->Res (D×Me)):TE:=λσ H Q=>∃O0 M0 H0 ow m,dO G O0 M0 H0 ow σ H m/\Xs G E O0 M0 H0 ow σ H (f m) λd H'=>∀v,DV G (Ow O0 ow) H' v d->Q v H'
abbrev FX (X:Cx)(E:XK)(e:Expr)(f:Me->Res (D×Me)):Prop:=PE X e<|tX (gx X) E f
section
variable {G:Gx}{E:XK}{O0 M0:Za}{H0 H H1:Hp}{ow:Os}{σ:L2.St}{m:Me}
theorem Xs.imp {α:Type}{r:Res (α×Me)}{k k':α->Hp->Prop}(h:Xs G E O0 M0 H0 ow σ H r k)(g:Go O0 ow H ow H1)(hk:∀a H' m',dO G O0 M0 H0 ow σ H' m'->Go O0 ow H1 ow H'->r=.ok (a,m')->k a H'->k' a H'):Xs G E O0 M0 H0 ow σ H1 r k':=by
 cases r with
 |ok a=>obtain⟨a,m'⟩:=a;exact λH' R g'=>hk a H' m' R g' rfl<|h H' R<|g.trans g'
 |exc c=>exact h
 |stuck=>exact h
theorem Xs.bind {α β:Type}{r:Res (α×Me)}{f:α->Me->Res (β×Me)}{k:β->Hp->Prop}(h:Xs G E O0 M0 H0 ow σ H (r.bind λp=>f p.1 p.2) k):
  Xs G E O0 M0 H0 ow σ H r λa H'=>∀m',r=.ok (a,m')->dO G O0 M0 H0 ow σ H' m'->Xs G E O0 M0 H0 ow σ H' (f a m') k:=by
 cases r with
 |ok a=>
  obtain⟨a,m1⟩:=a;intro H' R g m' e R';cases e;have h:Xs G E O0 M0 H0 ow σ H (f a m1) k:=h;cases z:f a m1 with
  |ok b=>obtain⟨b,m2⟩:=b;rw[z] at h;exact λH2 R2 g2=>h H2 R2<|g.trans g2
  |exc c=>rw[z] at h;exact h
  |stuck=>rw[z] at h;exact h
 |exc c=>exact h
 |stuck=>exact h
theorem Xs.pu {α β:Type}{r:Res α}{f:α->Res (β×Me)}{k:β->Hp->Prop}(R:Rel G O0 M0 H0 ow σ H m)(h:Xs G E O0 M0 H0 ow σ H (r.bind f) k):Pu G E r H λa=>Xs G E O0 M0 H0 ow σ H (f a) k:=by
 cases r with
 |ok a=>exact h
 |exc c=>exact λC H' e g=>h C H' e λb o e n=>g b o<|R.keep b o e n
 |stuck=>exact h
end
noncomputable def fX (f:Zl):Me->Res (D×Me):=λm=>(f m).bind λd=>.ok (d,m)
section
variable {X:Cx}{E:XK}{e:Expr}{es:List Expr}{f:Zl}{fa:Me->Res (D×Me)}{fs:Me->Res (List D×Me)}{pos:Pos}{i:Nat}{x:Str}
theorem Wb (h:FE X E e f):FX X E e (fX f):=bF h λσ H Q hE=>xq5 hE λO0 M0 H0 ow m R q=>⟨O0,M0,H0,ow,m,R.toRel,(Xs.pu R.toRel q).imp (aD.refl _) λd q v H' g hv=>q H' (R.mono g) (Go.refl g) v hv⟩
theorem Xs.ss {G:Gx}{O0 M0:Za}{H0 H:Hp}{ow:Os}{σ:L2.St}{W:Ends}{r:Res (D×Me)}{k:D->Zg}(h:Ss G E O0 M0 H0 ow H W (r.bind λp=>k p.1 p.2)):
  Xs G E O0 M0 H0 ow σ H r λd H'=>∀m',r=.ok (d,m')->dO G O0 M0 H0 ow σ H' m'->Ss G E O0 M0 H0 ow H' W (k d m'):=by
 cases r with
 |ok a=>
  obtain⟨d,m1⟩:=a;intro H' R g m' e R';cases e;exact Ss.go h g
 |exc c=>exact h
 |stuck=>exact h
end
def Ht (G:Gx)(Φ:List D->List D->Res (D×List D)):Sp:=λvs H Q E=>∃O a us es ds,vs=.ref a::us/\(∀b,O b->bL (H b))/\O a/\OV G O H a (.lst es)/\DVs G O H us ds/\match Φ es ds with
 | .ok (d,es')=>∀v H',Kp (· = a) H H'->OV G O H' a (.lst es')->DV G O H' v d->Q v H'
 | .exc c=>∀C H',XP G H' c C->Kp (· = a) H H'->E (.ref C.1) C.2 H'
 | .stuck=>False
def sy (m:Me):Option (List D):=match m[(0:Nat)]? with
 |some (.io<|.lst es)=>some es
 |_=>none
def jb (N n:Nat)(g:Zg):List D->List D->Res (D×List D):=λes ds=>if ds.length+1=n then match g (.io (.lst es)::(ds.map Sl.fz++bP (N-n) Sl.un)) with
  | .ok (.rt _ d,m')=>(ofO<|sy m').bind λes'=>.ok (d,es')
  | .ok (.nx,m')=>(ofO<|sy m').bind λes'=>.ok (.non,es')
  | .exc c=>.exc c
  |_=>.stuck
 else .stuck
theorem Fb {m:Me}{es:List D}(h:sy m=some es):m[(0:Nat)]? = some (.io<|.lst es):=by
 unfold sy at h;split at h
 ·rename_i q;cases h;exact q
 ·cases h
abbrev FIO (P:bg)(w:cw)(K:av)(mg:Zs)(base:Heap)(k:Nat)(x:Str)(ps:List Str)(Φ:List D->List D->Res (D×List D)):Prop:=Hd.Fn P w K mg base k x ps<|Ht ⟨K,mg⟩ Φ
theorem MP {O:Za}{a:Addr}(h:O a):Ow (λb=>O b/\b≠a) (owS (λ_=>none) 0<|some a)=O:=by
 funext b;refine propext ⟨λz=>?_,λz=>?_⟩
 ·rcases z with z|⟨i,e⟩
  ·exact z.1
  ·by_cases q:i=0
   ·subst q;rw[dB] at e;cases e;exact h
   ·rw[du q] at e;cases e
 ·by_cases q:b=a
  ·subst q;exact .inr ⟨0,dB⟩
  ·exact .inl ⟨z,q⟩
theorem IK {G:Gx}{O:Za}{H:Hp}{N:List Str}{a:Addr}{us:List V}{es ds:List D}{n:Nat}(hm:∀b,O b->bL (H b))(oa:O a)(ho:OV G O H a (.lst es))(hd:DVs G O H us ds)(hn:ds.length+1=n):
  dO G (λb=>O b/\b≠a) (· = a) H (owS (λ_=>none) 0<|some a) (L2.start N (.ref a::us)) H (.io (.lst es)::(ds.map Sl.fz++bP (N.length-n) Sl.un)):=by
 have hl:=bT hd;have nz:∀i,i≠0->owS (λ_=>none) 0 (some a) i=none:=λi h=>du h;refine⟨⟨by simp[L2.start,hl];omega,λb o e _=>e,λb z=>?_,λb z=>by rw[MP oa] at z;exact hm b z,λi b e=>?_,λi j b e1 e2=>?_,λi hi=>?_,λi s e=>?_⟩,λj d e=>?_⟩
 ·have z:b=a:=z;rw[z];obtain⟨xs,e,_⟩:=ho;rw[e];simp
 ·by_cases q:i=0
  ·subst q;rw[dB] at e;cases e;exact λz=>z.2 rfl
  ·rw[nz i q] at e;cases e
 ·by_cases q:i=0
  ·by_cases q':j=0
   ·rw[q,q']
   ·rw[nz j q'] at e2;cases e2
  ·rw[nz i q] at e1;cases e1
 ·exact nz i (by simp at hi;omega)
 ·rw[MP oa];cases i with
  |zero=>
   cases e;exact⟨a,dB,rfl,rfl,ho⟩
  |succ i=>
   rw[lh] at e;by_cases hi:i<ds.length
   ·rw[b9 (by simpa using hi),c9] at e;cases ed:ds[i]? with
    |none=>rw[ed] at e;cases e
    |some d=>
     rw[ed] at e;cases e;obtain⟨x,hx,dx⟩:=tZ hd ed;refine⟨nz _ (by omega),x,?_,dx⟩;unfold L2.start;rw[b9 (by simp;omega),c9,lh,hx];rfl
   ·rw[cc (by simp;omega),eA] at e;split at e
    ·cases e;exact nz _<|by omega
    ·cases e
 ·cases j with
  |zero=>cases e
  |succ j=>
   rw[lh] at e;by_cases hi:j<ds.length
   ·rw[b9 (by simpa using hi),c9] at e;cases ed:ds[j]? with
    |none=>rw[ed] at e;cases e
    |some d=>rw[ed] at e;cases e
   ·rw[cc (by simp;omega),eA] at e;split at e<;>cases e
section
variable {P:bg}{w:cw}{K:av}{mg:Zs}{base:Heap}
theorem Jj {x qual:Str}{st:Stmt}{f:Addr}{fd:dQ}{N ps:List Str}{k:Nat}{g:Zg}(Fu:Fun K x qual st f fd)(S:bB N ps (aL st))
  (hbody:∀(cdv:a7) (A:eB) (outer:List Env) (s:aT) (H:Hp) (E:XK),fD k (A.deeper<|sQ qual (aL st) s.heap.objs.size f cdv)->
   FSs (jR (CX1 P w) P w K mg base N qual (aL st) f cdv A outer s H E) E (fj st) g):bR P w K mg base (CX1 P w) (k+1) f fd ps (Ht ⟨K,mg⟩<|jb N.length ps.length g):=by
 have cond:∀{es ds:List D},jb N.length ps.length g es ds≠.stuck->ds.length+1=ps.length:=λ{es ds} h=>by
  by_cases z:ds.length+1=ps.length
  ·exact z
  ·unfold jb at h;rw[if_neg z] at h;exact absurd rfl h
 refine cO Fu S (λvs H Q E h=>?_) λcdv A outer s H vs Q E hr h=>?_
 ·obtain⟨O,a,us,es,ds,rfl,_,_,_,hd,q⟩:=h;rw[bX,bT hd];exact cond λz=>by rw[z] at q;exact q
 ·obtain⟨O,a,us,es,ds,rfl,hm,oa,ho,hd,q⟩:=h;have hn:=cond (es:=es) (ds:=ds) λz=>by rw[z] at q;exact q
  unfold jb at q;rw[if_pos hn] at q;refine⟨_,hbody cdv A outer s H E hr,_,_,H,_,_,IK hm oa ho hd hn,?_⟩;have fin:∀{ow' σ' H' m' es'},dO (⟨K,mg⟩:Gx) (λb=>O b/\b≠a) (· = a) H ow' σ' H' m'->m'[(0:Nat)]? = some (Sl.io<|.lst es')->Kp (· = a) H H'/\OV ⟨K,mg⟩ O H' a (.lst es')/\∀v d,DV (⟨K,mg⟩:Gx) (Ow (λb=>O b/\b≠a) ow') H' v d->DV ⟨K,mg⟩ O H' v d:=λ{ow' σ' H' m' es'} R e=>by
   obtain⟨a',e1,e2,e3,e4⟩:=R.slot 0 _ e;have e2:a'=a:=e2;subst e2;have sub:∀b,O b->Ow (λb=>O b/\b≠a') ow' b\/H' b=none:=λb z=>by
    by_cases q:b=a'
    ·exact .inl<|.inr ⟨0,by rw[q];exact e1⟩
    ·exact .inl<|.inl ⟨z,q⟩
   exact⟨R.keep,e4.bZ sub,λv d h=>h.bZ sub⟩
  cases z:g (.io (.lst es)::(ds.map Sl.fz++bP (N.length-ps.length) Sl.un)) with
  |exc c=>rw[z] at q;exact λC H' e kp=>q C H' e kp
  |stuck=>rw[z] at q;exact q.elim
  |ok b=>
   obtain⟨fl,m'⟩:=b;rw[z] at q;cases fl with
   |bk=>exact q.elim
   |ct=>exact q.elim
   |nx=>
    intro ow' σ' H' R' _;cases e0:sy m' with
    |none=>simp only[e0] at q;exact q.elim
    |some es'=>
     simp only[e0] at q;obtain⟨k1,k2,k3⟩:=fin R'<|Fb e0;exact q _ H' k1 k2 .non
   |rt fr d=>
    intro v ow' σ' H' R' _ hv _;cases e0:sy m' with
    |none=>simp only[e0] at q;exact q.elim
    |some es'=>
     simp only[e0] at q;obtain⟨k1,k2,k3⟩:=fin R'<|Fb e0;exact q v H' k1 k2<|k3 _ _ hv
theorem Vw {k:Nat}{f:Addr}{fd:dQ}{ps:List Str}:bR P w K mg base (CX1 P w) k f fd ps (Ht ⟨K,mg⟩ λ_ _=>.stuck):=
 ⟨λ_ _ _ _ ⟨_,_,_,_,_,_,_,_,_,_,q⟩=>q.elim,λ_ _ _ _ _ _ _ _ _ _ _ _ _ ⟨_,_,_,_,_,_,_,_,_,_,q⟩=>q.elim⟩
end
def UJ (Φ:List D->List D->Res (D×List D))(i:Nat)(fs:Ze):Me->Res (D×Me):=λm=>(ofO<|o7 m i).bind λo=>(fs m).bind λds=>(Φ o.2 ds).bind λr=>.ok (r.1,putL m i o.1 r.2)
theorem V3 {X:Cx}{E:XK}{es:List Expr}{fs:Ze}{pos p np:Pos}{j k:Nat}{x y:Str}{ps:List Str}{Φ:List D->List D->Res (D×List D)}(i:Nat)(Fh:FIO X.prog X.w X.K X.mg X.base k x ps Φ)(hr:fD j X.A)(hx:Passes (CX1 X.prog X.w) X E)(ha:FAE X E es fs)(hk:k<=j:=by decide)(hg:Gl X x:=by rfl)
  (hN:X.N[i]? = some y:=by rfl) (hv:Vis X.env.scope y:=by first|exact af rfl|exact kF (af rfl)|exact kF (kF rfl)) (hd:(y==("__debug__":Str))=false:=by decide) (hcd:(y==("__classdict__":Str))=false:=by decide)
  (hdb:(x==("__debug__":Str))=false:=by decide) (he:ar (.Name y np::es) X.env=(false,eval (.Name y np) X.env)::ar es X.env:=by rfl) (ζ:(hJ pos<|ar es X.env).any (·.1)=false:=by rfl):
  FX X E (.Call (.Name x p) (.Name y np::es) [] pos) (UJ Φ i fs):=by
 obtain⟨f,fd,G,b,kp,m⟩:=Fh.ex;refine bF (pQ G (hr.mono hk) hg m kp b .nil hx (aB (aA hN hv hd hcd) ha he) hdb he ζ) λσ H Q hE=>xq5 hE λO0 M0 H0 ow m R q=>?_;obtain⟨o,ho,q⟩:=(Xs.pu R.toRel q).ofO;obtain⟨kk,ds0⟩:=o;obtain⟨a,xs,e1,e2,e3,e4,e5⟩:=pZ R.toRel ho;refine⟨_,e2,O0,M0,H0,ow,m,R.toRel,(Xs.pu R.toRel q).imp (aD.refl _) λds q vs H1 g1 hvs=>?_⟩;have R1:=R.mono g1;show Ht _ _ ((V.ref a::vs)++[]) _ _ _;rw[eC];refine⟨Ow O0 ow,a,vs,ds0,ds,rfl,R1.mutk,.inr ⟨i,e1⟩,⟨xs,g1 _ _ e3,e4.mono g1⟩,hvs,?_⟩;cases z:Φ ds0 ds with
 |stuck=>rw[z] at q;exact q.elim
 |exc c=>
  rw[z] at q;refine λC H' e g=>q C H' e λb o e n=>?_;refine g b o (R1.keep b o e n) λw=>?_;subst w;rcases e5 with⟨s,_⟩|⟨s,_⟩
  ·obtain⟨a',s1,s2,_⟩:=R.slot i _ s;rw[e1] at s1;cases s1;rw[s2] at e;cases e
  ·obtain⟨a',s1,s2,_⟩:=R.slot i _ s;rw[e1] at s1;cases s1;exact n s2
 |ok r=>
  obtain⟨d,es'⟩:=r;rw[z] at q;intro v H' g ov hv;have gg:Kp (· = a) H H':=λb o e n=>g b o (g1 b o e) n;refine q H' (R1.chg (d:=.lst ds0) (d':=.lst es') e1 g ov ?_) ((Go.refl g1).trans<|Go.chg e1 g ov) v hv;rcases e5 with⟨s,rfl⟩|⟨s,rfl⟩
  ·exact .inl ⟨s,rfl⟩
  ·exact .inr ⟨s,rfl⟩
section
end
section
variable {G:Gx}{O0 M0:Za}{H0 H H':Hp}{ow:Os}{σ:L2.St}{m:Me}{k:Nat}{cap:List Nat}
end
section
variable {X:Cx}{E:XK}{k:Nat}{cap:List Nat}{fi:Ze}{h:Zh}{fe:Me->Res (D×Me)}
theorem JT {O0:Za}{ow:Os}{l b:Addr}(z:Ow (Op O0 l) ow b):Ow O0 ow b\/b=l:=z.elim (λy=>y.elim (λw=>.inl<|.inl w) .inr) λy=>.inl<|.inr y
end
def tM (G:Gx)(E:XK)(f:Me->Res Unit):TE:=λσ H Q=>∃O0 M0 H0 ow m,Rel G O0 M0 H0 ow σ H m/\Pu G E (f m) H λ_=>∀v H',aD H H'->Q v H'
abbrev FM (X:Cx)(E:XK)(e:Expr)(f:Me->Res Unit):Prop:=PE X e<|tM (gx X) E f
def fM (f:Zl):Me->Res Unit:=λm=>(f m).bind λ_=>.ok ()
def lO (c:Str)(f:Me->Res Unit):Zg:=λm=>(f m).bind λ_=>.exc (c,[],[])
section
variable {X:Cx}{E:XK}{e:Expr}{f:Zl}{fu:Me->Res Unit}{x:Str}{np χ pos:Pos}{C:Addr}{bmB:List a7}{B newId initId:String}
theorem LK (h:FE X E e f):FM X E e (fM f):=bF h λσ H Q hE=>xq5 hE λO0 M0 H0 ow m R q=>⟨O0,M0,H0,ow,m,R,q.bind.imp (aD.refl _) λd k v H' g _=>k v H' g⟩
theorem JS (FB:ExcBaseFacts B newId initId bmB)(hq:PySem.W.excIn X.K C bmB newId=true)(hg:Gl X x)(hm:X.mg x=some (.ref C))(hh:X.A.handled=none)(he:FM X E e fu)
  (hx:∀(π:Zo) (σ:L2.St) (H:Hp) (s:aT) (h':Heap) (ea:Addr) (vs:List a7),Inv X π σ H s->l9 s.heap h' ea (.ref C) vs->E (.ref C) none H->X.xe (.ref ea) { s with heap:=h' })
  (hd:(x==("__debug__":Str))=false:=by decide) (hs:ar [e] X.env=(false,eval e X.env)::ar [] X.env:=by rfl):
  FS X E (.Raise (some<|.Call (.Name x np) [e] [] χ) none pos) (lO x fu):=eU (zg (W:=E) FB hq hg hm hh he hx hd hs) λW σ H hE=>xq5 hE λO0 M0 H0 ow m R q=>
 ⟨O0,M0,H0,ow,m,R.toRel,(Ss.pu R.toRel q).imp (aD.refl _) λ_ q v H' g=>⟨rfl,q (C,none) H' ⟨hm,[],[],.inl ⟨rfl,rfl⟩,rfl,rfl,λ_=>.nil⟩ λb o e n=>g b o<|R.keep b o e n⟩⟩
end
def tSx (G:Gx)(g:Zg):Ends->(L2.St->XK)->L2.St->Hp->Prop:=λW Ex σ H=>∃O0 M0 H0 ow m,dO G O0 M0 H0 ow σ H m/\match g m with
 | .exc c=>∀C H',XP G H' c C->aD H H'->Ex σ (.ref C.1) C.2 H'
 |r=>Ss G E0 O0 M0 H0 ow H W r
abbrev FSx (X:Cx)(st:List Stmt)(g:Zg):Prop:=PSx X st<|tSx (gx X) g
def Ln (i:Nat)(sub:Str->Bool)(b h:Zg):Zg:=λm=>match b m with
 | .exc c=>if sub c.1=true then match h (m.set i<|.fz<|.exc c.1 c.2.1 c.2.2) with
   | .ok (fl,m')=>.ok (fl,m'.set i .un)
   |_=>.stuck
  else .stuck
 |r=>r
theorem MN {X:Cx}{st:List Stmt}{T T':Ends->(L2.St->XK)->L2.St->Hp->Prop}(h:PSx X st T)(k:∀W E σ H,T' W E σ H->T W E σ H):PSx X st T':=λπ s σ H W E I q=>h π s σ H W E I<|k W E σ H q
section
variable {X:Cx}{j k:Nat}{x y:Str}{ps:List Str}{Φ:Zf}{p pos χ pos':Pos}{e:Expr}{es:List Expr}{fs:Ze}{i:Nat}
def yw (Φ:Zf)(fs:Ze):Zg:=λm=>match fs m with
 | .ok ds=>(Φ ds).bind λ_=>.ok (.nx,m)
 |_=>.stuck
theorem Lr (Fh:FF X.prog X.w X.K X.mg X.base k x ps Φ)(hr:fD j X.A)(ha:FAE X.nox E0 (e::es) fs)(hk:k<=j:=by decide)(hg:Gl X x:=by rfl)(hdb:(x==("__debug__":Str))=false:=by decide)
  (he:ar (e::es) X.env=(false,eval e X.env)::ar es X.env:=by rfl) (ζ:(hJ χ<|ar es X.env).any (·.1)=false:=by rfl) (hs:ja (.Call (.Name x p) (e::es) [] χ) none pos.line X.env=pure false:=by rfl):
  FSx X [.Expr (.Call (.Name x p) (e::es) [] χ) pos] (yw Φ fs):=MN (NZ (VB Fh hr ha hk hg hdb he ζ) hs) λW Ex σ H hE=>xq5 hE λO0 M0 H0 ow m R q=>by
 refine⟨O0,M0,H0,ow,m,R.toRel,?_⟩;unfold yw at q;cases z:fs m with
 |exc c=>rw[z] at q;exact q.elim
 |stuck=>rw[z] at q;exact q.elim
 |ok ds=>
  rw[z] at q;intro vs H1 g1 hv;refine⟨Ow O0 ow,ds,(R.mono g1).mutk,hv,?_⟩;cases w:Φ ds with
  |exc c=>simp only[w] at q;exact λC H' e g=>q C H' e<|g1.trans g
  |stuck=>simp only[w] at q;exact q.elim
  |ok r=>simp only[w] at q;exact λv H' g hv' _=>q ow σ H' (R.mono<|g1.trans g)<|Go.refl<|g1.trans g
theorem dO.unset {G:Gx}{O0 M0:Za}{H0 H:Hp}{ow:Os}{σ:L2.St}{m:Me}(i:Nat)(R:dO G O0 M0 H0 ow σ H m):dO G O0 M0 H0 (owS ow i none) (σ.set i none) H (m.set i .un):=by
 have sub:∀b,Ow O0 (owS ow i none) b->Ow O0 ow b\/H b=none:=λb z=>.inl z.sub;refine⟨⟨by simp[R.len],R.keep,R.m0,λb z=>R.mutk b z.sub,λj a e=>?_,λj k a e1 e2=>?_,λj hj=>?_,λj s e=>?_⟩,uz R.nb λ_ z=>by cases z⟩
 ·by_cases q:j=i
  ·subst q;rw[dB] at e;cases e
  ·rw[du q] at e;exact R.no0 j a e
 ·by_cases q:j=i
  ·subst q;rw[dB] at e1;cases e1
  ·by_cases q':k=i
   ·subst q';rw[dB] at e2;cases e2
   ·rw[du q] at e1;rw[du q'] at e2;exact R.inj j k a e1 e2
 ·by_cases q:j=i
  ·subst q;exact dB
  ·rw[du q];exact R.out j<|by simpa using hj
 ·by_cases q:j=i
  ·subst q;have hj:j<m.length:=by simpa using xq e
   rw[dy hj] at e;cases e;exact dB
  ·rw[dA<|kL q] at e;rw[du q,dA<|kL q];exact(R.slot j s e).bZ sub λ_ _ b _=>rq _
def tSA (X:Cx)(g:Zg):TS:=λW σ H=>Xv X.A H/\tS (gx X) E0 g W σ H
theorem Tz {E:XK}{body suite:List Stmt}{b₀:Stmt}{n:Str}{np hpos:Pos}{DC:Addr}{gb gh:Zg}(sub:Str->Bool)
  (hst:X.stack=X.env::X.outer) (hfr:X.env.frame=some X.env.locals) (hb:FSx X body gb) (hN:X.N.Nodup) (hi:X.N[i]? = some n) (hn:X.env.scope.names.lookup n=some .local)
  (hg:Gl X x) (hm:X.mg x=some (.ref DC)) (hsub:∀c C,sub c=true->X.mg c=some (.ref C)->uS X.K (.ref C) (.ref DC)=some true) (hs:∀ea,PSs (inh X ea) (b₀::suite)<|tSA (inh X ea) gh) (hd:(x==("__debug__":Str))=false:=by decide):
  FS X E (.Try body [.ExceptHandler (some<|.Name x np) (some n) (b₀::suite) hpos] [] [] pos) (Ln i sub gb gh):=eU (Tw (ts:=λea=>tSA (inh X ea) gh) hst hfr hb hN hi hn hg hm (λea=>hs ea) hd) λW σ H hE=>xq5 hE λO0 M0 H0 ow m R q=>by
 refine⟨O0,M0,H0,ow,m,R,?_⟩;unfold Ln at q;cases z:gb m with
 |ok a=>
  obtain⟨fl,m'⟩:=a;rw[z] at q;cases fl<;>exact q
 |stuck=>rw[z] at q;exact q.elim
 |exc c=>
  rw[z] at q;intro C H' hc g;by_cases hsc:sub c.1=true
  case neg=>simp only[if_neg hsc] at q;exact q.elim
  simp only[if_pos hsc] at q;obtain⟨hc,fs,vs,x1,x2,x3,x4⟩:=hc;refine⟨hsub c.1 C.1 hsc hc,λea ox hea o1 o2 o3=>?_⟩;have R':=R.mono g;have g2:aD H' (upd H' ea<|.frz ox<|.ext<|oK ea<|.ref C.1):=bC hea _;have R2:=(R'.mono g2).set (i:=i) (v:=.ref ea) (d:=.exc c.1 c.2.1 c.2.2)<|.exc hc az (o2▸x1.imp id λ⟨d,q,z,y⟩=>⟨d,q,z,g2 _ _ y⟩) x2 x3<|(x4 _).mono g2;obtain⟨ws,o3,o4⟩:=o3;refine⟨⟨ea,ox,_,ws,rfl,az,o3,o4⟩,O0,M0,H0,_,_,R2,?_⟩;have G2:Go O0 ow H (owS ow i none) (upd H' ea<|.frz ox<|.ext<|oK ea<|.ref C.1):=(Go.refl<|g.trans g2).trans Go.set;cases w:gh (m.set i<|.fz<|.exc c.1 c.2.1 c.2.2) with
  |exc c'=>rw[w] at q;exact q.elim
  |stuck=>rw[w] at q;exact q.elim
  |ok a=>
   obtain⟨fl,m'⟩:=a;rw[w] at q;cases fl with
   |nx=>exact λow' σ' H2 R3 g3=>q _ _ H2 (R3.unset i)<|(G2.trans g3).trans Go.set
   |bk=>exact λow' σ' H2 R3 g3=>q _ _ H2 (R3.unset i)<|(G2.trans g3).trans Go.set
   |ct=>exact λow' σ' H2 R3 g3=>q _ _ H2 (R3.unset i)<|(G2.trans g3).trans Go.set
   |rt fr d=>
    intro v ow' σ' H2 R3 g3 hv hf;refine q v _ _ H2 (R3.unset i) ((G2.trans g3).trans Go.set) (hv.bZ λb z=>.inl z.sub) λz=>?_;rcases hf z with⟨p,e1,e2,e3⟩|t
    ·exact .inl ⟨p,e1,e2,e3.bZ λb z=>.inl<|z.elim (λy=>.inl y.sub) .inr⟩
    ·exact .inr t
end
theorem Rel.more {G:Gx}{O0 M0:Za}{H0 H H1:Hp}{ow:Os}{σ:L2.St}{m:Me}{l:Addr}(R:Rel G O0 M0 H0 ow σ H m)(g:aD H H1)(hl:H l=none)(ho:bL (H1 l)):Rel G (Op O0 l) M0 H0 ow σ H1 m:=by
 have nl:=R.OJ hl;have sub':∀b,Ow (Op O0 l) ow b->Ow O0 ow b\/H b=none:=λb z=>(JT z).elim .inl λe=>.inr (by rw[e];exact hl);have R':=R.mono g;refine⟨R.len,R'.keep,R'.m0,λb z=>?_,λi a e z=>?_,R.inj,R.out,λi s e=>?_⟩
 ·rcases JT z with z|z
  ·exact R'.mutk b z
  ·rw[z];exact ho
 ·rcases z with z|z
  ·exact R.no0 i a e z
  ·exact nl<|z▸.inr ⟨i,e⟩
 ·exact((R.slot i s e).bZ sub' λ_ _ b _=>rq _).mono g
def K8 (Φ:List D->List D->Res (D×List D))(f0:Zl)(fs:Ze):Zl:=λm=>(f0 m).bind λd=>match d with
 | .lst es=>(fs m).bind λds=>(Φ es ds).bind λr=>.ok r.1
 |_=>.stuck
theorem JN {X:Cx}{E:XK}{e:Expr}{es:List Expr}{f0:Zl}{fs:Ze}{pos p:Pos}{j k:Nat}{x:Str}{ps:List Str}{Φ:List D->List D->Res (D×List D)}(Fh:FIO X.prog X.w X.K X.mg X.base k x ps Φ)(hr:fD j X.A)(hx:Passes (CX1 X.prog X.w) X E)(h0:FN X E e f0)(ha:FAE X E es fs)(hk:k<=j:=by decide)(hg:Gl X x:=by rfl)
  (hdb:(x==("__debug__":Str))=false:=by decide) (he:ar (e::es) X.env=(false,eval e X.env)::ar es X.env:=by rfl) (ζ:(hJ pos<|ar es X.env).any (·.1)=false:=by rfl):
  FE X E (.Call (.Name x p) (e::es) [] pos) (K8 Φ f0 fs):=by
 obtain⟨f,fd,G,b,kp,m⟩:=Fh.ex;refine bF (pQ G (hr.mono hk) hg m kp b .nil hx (aB h0 ha he) hdb he ζ) λσ H Q hE=>xq5 hE λO0 M0 H0 ow m R q=>⟨O0,M0,H0,ow,m,R,q.bind.imp (aD.refl _) λd q a H1 g1 n ov=>?_⟩;cases d with
 |lst es0=>
  have q:Pu (gx X) E ((fs m).bind λds=>(Φ es0 ds).bind λr=>.ok r.1) H _:=q;have R1:=R.more g1 n ov.mut;refine⟨_,_,_,_,_,R1,q.bind.imp g1 λds q vs H2 g2 hv=>?_⟩;show Ht _ _ ((V.ref a::vs)++[]) _ _ _;rw[eC];refine⟨Ow (Op O0 a) ow,a,vs,es0,ds,rfl,(R1.mono g2).mutk,.inl<|.inr rfl,(ov.bZ λb z=>.inl<|JT z).mono g2,hv,?_⟩;have same:∀{H'},Kp (· = a) H2 H'->aD H H':=λg b o e=>g b o (g2 b o<|g1 b o e) λz=>by rw[z,n] at e;cases e
  cases z:Φ es0 ds with
  |stuck=>rw[z] at q;exact q.elim
  |exc c=>rw[z] at q;exact λC H' e g=>q C H' e<|same g
  |ok r=>
   obtain⟨d,es'⟩:=r;rw[z] at q;exact λv H' g _ hv'=>q v H' (same g)<|hv'.bZ λb z=>.inl<|z.elim (λy=>.inl<|.inl y) .inr
 |_=>exact q.elim
section
noncomputable def vH:List D->Option (List Str)
 |[]=>some []
 | .str x::ds=>(vH ds).map (x::·)
 |_::_=>none
theorem Gk:∀{vs:List V} {ds:List D} {zs:List Str},DVs G O H vs ds->vH ds=some zs->vs=zs.map V.str
 |_,_,_,.nil,e=>by cases e;rfl
 |_,_,_,.cons (d:=d) h hs,e=>by
  cases d with
  |str i=>
   obtain⟨ns,e1,rfl⟩:=omap (by simpa[vH] using e);cases h;rw[Gk hs e1];rfl
  |_=>cases e
def jc:D->List D->Option D
 | .str z,[.lst es]=>match vH es with
  |some zs=>if xk z zs=true then some (.str<|sA z zs) else none
  |none=>none
 |_,_=>none
theorem mQ:MtR X "str.join" (rGM (gx X) jc):=by
 intro π s σ H x vs v us Q I rx rv h;refine j4 h λO d ds r m hx hy hr q=>?_;unfold jc at hr;split at hr
 ·rename_i z es;cases cV hx;obtain⟨y,rfl,hy2⟩:=nA hy;obtain⟨p,xs,rfl,hp,hd⟩:=f9 hy2;have hr:(match vH es with|some zs=>if xk z zs=true then some (D.str<|sA z zs) else none|none=>none)=some r:=hr;cases e1:vH es with
  |none=>rw[e1] at hr;cases hr
  |some zs=>
   rw[e1] at hr;obtain⟨ok,rfl⟩:=oif hr
   have:=Gk hd e1
   subst this;exact Nu X.K rfl π s σ H _ _ v us Q I rx rv ⟨z,p,zs,rfl,rfl,hp,ok,q _ _ (aD.refl _)<|.str _⟩
 ·cases hr
end
def Dz (K:av):Sp:=λvs H Q _=>∃(a:Addr) (ns:List Int),vs=[.ref a]/\SqL K H a (ns.map V.int)/\ns.length<=63/\∀H',Q (.bl true) H'
theorem yI:∀ns:List Int,DVs G O H (ns.map V.int) (ns.map D.int)
 |[]=>.nil
 |n::ns=>.cons (.int n)<|yI ns
theorem Oh {P:bg}{w:cw}{K:av}{mg:Zs}{base:Heap}{CX:CXT}{k:Nat}{f:Addr}{fd:dQ}{ps:List Str}{Φ:Zf}(h:∀ns:List Int,ns.length<=63->∃fr,Φ [.lst<|ns.map D.int]=.ok (fr,.bl true))
  (F:bR P w K mg base CX k f fd ps (spF ⟨K,mg⟩ Φ)):bR P w K mg base CX k f fd ps (Dz K):=F.imp λvs H Q E hE=>by
 refine rz hE λa ns e hS hl q=>?_;subst e;obtain⟨fr,e⟩:=h ns hl;refine⟨λ_=>False,[.lst<|ns.map D.int],λ_ z=>z.elim,.cons (.lst (hS.elim (λz=>.inl ⟨id,z⟩) .inr)<|yI ns) .nil,?_⟩;rw[e];intro v H' _ hv _;cases hv;exact q H'
section
variable {X:Cx}{E:XK}{e a:Expr}{f fa:Zl}{fu:Me->Res Unit}{x y:Str}{np χ pos p py:Pos}{i:Nat}
theorem qP (Ex:∃C,X.mg x=some (.ref C)/\xi X.K C [.type "ValueError",.type "Exception",.type "BaseException",.type "object"] "ValueError.__new__" = true)(hg:Gl X x)(hh:X.A.handled=none)(he:FM X E e fu)
  (hx:∀(C:Addr) (π:Zo) (σ:L2.St) (H:Hp) (s:aT) (h':Heap) (ea:Addr) (vs:List a7),Inv X π σ H s->l9 s.heap h' ea (.ref C) vs->E (.ref C) none H->X.xe (.ref ea) { s with heap:=h' })
  (hd:(x==("__debug__":Str))=false:=by decide) (hs:ar [e] X.env=(false,eval e X.env)::ar [] X.env:=by rfl):
  FS X E (.Raise (some<|.Call (.Name x np) [e] [] χ) none pos) (lO x fu):=by
 obtain⟨C,hm,hq⟩:=Ex;exact JS nS hq hg hm hh he (hx C) hd hs
theorem Pn {body suite:List Stmt}{b₀:Stmt}{n:Str}{hpos:Pos}{gb gh:Zg}(sub:Str->Bool)
  (hst:X.stack=X.env::X.outer) (hfr:X.env.frame=some X.env.locals) (hb:FSx X body gb) (hN:X.N.Nodup) (hi:X.N[i]? = some n) (hn:X.env.scope.names.lookup n=some .local)
  (hg:Gl X x) (Xc:∃C,X.mg x=some (.ref C)/\∀c D,sub c=true->X.mg c=some (.ref D)->uS X.K (.ref D) (.ref C)=some true) (hs:∀ea,FSs (inh X ea) E0 (b₀::suite) gh) (hd:(x==("__debug__":Str))=false:=by decide):
  FS X E (.Try body [.ExceptHandler (some<|.Name x np) (some n) (b₀::suite) hpos] [] [] pos) (Ln i sub gb gh):=by
 obtain⟨C,hm,hq⟩:=Xc;exact Tz sub hst hfr hb hN hi hn hg hm hq (λea=>ux (hs ea) λ_ _ _ z=>z.2) hd
def Fx (tab:Str->Option Bool)(f:Zl):Zl:=λm=>(f m).bind λd=>match d with
 | .exc c _ _=>ofO<|(tab c).map D.bl
 |_=>.stuck
theorem PL {tab:Str->Option Bool}{c:V}{cv:a7}{σ:L2.St}{H:Hp}{Q:VK}(hc:O9 c=some cv)(ht:∀c D b,tab c=some b->X.mg c=some (.ref D)->XC X.K D/\d4 X.K (.ref D) cv=some b)
  (h:tE (gx X) E (Fx tab fa) σ H Q):tCB (Rp X.K) (rO (tB (gx X) E fa)<|rO (tC c) yd) σ H Q:=by
 obtain⟨O0,M0,H0,ow,m,R,q⟩:=h;refine⟨O0,M0,H0,ow,m,R,q.bind.imp (aD.refl _) λd q v H' g hv=>?_⟩;cases d with
 |exc k _ _=>
  obtain⟨r,hr,kk⟩:=q.ofO;obtain⟨b,hb,rfl⟩:=omap hr;obtain⟨ea,C,rfl,hC,hH⟩:=Ji hv;obtain⟨z1,z2⟩:=ht k C b hb hC;exact⟨ea,C,c,cv,b,rfl,hc,hH,z1,z2,kk _ _ g<|.bl _⟩
 |_=>exact q.elim
theorem Pr {tab:Str->Option Bool}{T:String}(ha:FB X E a fa)(hg:Gl X "isinstance")(hm:X.mg "isinstance" = none)(hv:cf "isinstance" = some (.builtin "isinstance"))(hgy:Gl X y)(ht:X.mg y=none/\∀c D b,tab c=some b->X.mg c=some (.ref D)->XC X.K D/\d4 X.K (.ref D) (.type T)=some b)(hvy:cf y=some (.type T))
  (hny:y≠"__name__":=by decide) (hdy:(y==("__debug__":Str))=false:=by decide) (he:ar [a,.Name y py] X.env=(false,eval a X.env)::ar [.Name y py] X.env:=by rfl) (he2:ar [.Name y py] X.env=(false,eval (.Name y py) X.env)::ar [] X.env:=by rfl) (ζ:(hJ pos<|ar [.Name y py] X.env).any (·.1)=false:=by rfl):
  FE X E (.Call (.Name "isinstance" p) [a,.Name y py] [] pos) (Fx tab fa):=
 bF (dI Hm hg hm hv (aB ha (aB (sX (v:=.ty T) hgy ht.1 hvy rfl hny hdy) aP he2) he) (by decide) (by decide) he ζ) λ_ _ _ h=>PL (c:=.ty T) (cv:=.type T) rfl ht.2 h
end
section
variable {X:Cx}
def vOf:D->V
 | .bl b=>.bl b
 | .int i=>.int i
 | .str x=>.str x
 |_=>.non
theorem J1 {G:Gx}{O:Za}{H:Hp}{v:V}{d:D}(f:flat d=true)(h:DW G O H v d):v=vOf d:=by
 cases d with
 |non=>exact qQ h
 |bl b=>exact zq h
 |int i=>exact bN h
 |str x=>exact cV h
 |_=>cases f
theorem zP {d:D}(f:flat d=true):oW (vOf d)=true:=by cases d<;>first|rfl|cases f
theorem FQ {G:Gx}{O:Za}{H:Hp}:∀{vs:List V} {ds:List D},DVs G O H vs ds->ds.all flat=true->vs=ds.map vOf
 |_,_,.nil,_=>rfl
 |_,_,.cons (d:=d) (ds:=ds) h hs,f=>by
  have f':flat d=true/\ds.all flat=true:=by simpa using f
  rw[J1 f'.1<|.inl h,FQ hs f'.2];rfl
def inD (x:D)(ds:List D):Option Bool:=if flat x=true/\ds.all flat=true then some (inV (vOf x)<|ds.map vOf) else none
def gIn:D->D->Option Bool
 | .str i,.str j=>some<|!(dP j i 0 j.length 1).isEmpty
 |x,.lst ds=>inD x ds
 |x,.tup ds=>inD x ds
 |_,_=>none
def Ho (d e:D):Option Bool:=(gIn d e).map (!·)
theorem Ju (ds:List D):ds.all flat=true->(ds.map vOf).all oW=true:=by
 induction ds with
 |nil=>intro;rfl
 |cons d ds ih=>
  intro h;have h':flat d=true/\ds.all flat=true:=by simpa using h
  rw[eJ,pd,zP h'.1,ih h'.2];rfl
theorem ye {O:Za}{H:Hp}{x y:V}{d:D}{b:Bool}{ds:List D}{neg:Bool}{Q:VK}(hx:DW (gx X) O H x d)(hy:(∃p xs,y=.ref p/\(SqL X.K H p xs\/SqT X.K H p xs)/\DVs (gx X) O H xs ds))(h:inD d ds=some b)(q:Q (.bl<|if neg then !b else b) H):rIn X.K neg x y H Q:=by
 obtain⟨p,xs,rfl,hp,hd⟩:=hy;obtain⟨⟨f1,f2⟩,rfl⟩:=oif h;rw[J1 f1 hx]
 have:=FQ hd f2
 subst this;exact⟨p,_,rfl,hp,zP f1,Ju _ f2,q⟩
theorem JW:OpR X (dk .In) (rGB (gx X) gIn):=by
 intro π s σ H x y v u Q I rx ry h;obtain⟨O,d,e,r,m,hx,hy,hr,q⟩:=h;unfold gIn at hr;split at hr
 ·cases hr;exact Hj π s σ H x y v u Q I rx ry ⟨_,_,cV hx,cV hy,q⟩
 ·obtain⟨p,xs,rfl,hp,hd⟩:=f9 hy;exact vW π s σ H x _ v u Q I rx ry<|ye (neg:=false) hx ⟨p,xs,rfl,.inl hp,hd⟩ hr q
 ·obtain⟨p,xs,rfl,hp,hd⟩:=oZ hy;exact vW π s σ H x _ v u Q I rx ry<|ye (neg:=false) hx ⟨p,xs,rfl,.inr hp,hd⟩ hr q
 ·cases hr
theorem Ge:OpR X (dk .NotIn) (rGB (gx X) Ho):=by
 intro π s σ H x y v u Q I rx ry h;obtain⟨O,d,e,r,m,hx,hy,hr,q⟩:=h;obtain⟨c,hc,rfl⟩:=omap hr;unfold gIn at hc;split at hc
 ·cases hc;exact yC π s σ H x y v u Q I rx ry ⟨_,_,cV hx,cV hy,q⟩
 ·obtain⟨p,xs,rfl,hp,hd⟩:=f9 hy;exact qz π s σ H x _ v u Q I rx ry<|ye (neg:=true) hx ⟨p,xs,rfl,.inl hp,hd⟩ hc q
 ·obtain⟨p,xs,rfl,hp,hd⟩:=oZ hy;exact qz π s σ H x _ v u Q I rx ry<|ye (neg:=true) hx ⟨p,xs,rfl,.inr hp,hd⟩ hc q
 ·cases hc
noncomputable def oX:List D->Option (List Bool)
 |[]=>some []
 | .bl b::ds=>(oX ds).map (b::·)
 |_::_=>none
theorem yX {G:Gx}{O:Za}{H:Hp}:∀{vs:List V} {ds:List D} {bs:List Bool},DVs G O H vs ds->oX ds=some bs->vs=bs.map V.bl
 |_,_,_,.nil,e=>by cases e;rfl
 |_,_,_,.cons (d:=d) h hs,e=>by
  cases d with
  |bl b=>
   obtain⟨bs,e1,rfl⟩:=omap (by simpa[oX] using e);cases h;rw[yX hs e1];rfl
  |_=>cases e
def vJ:List D->Option D
 |[.lst ds]=>(oX ds).map λbs=>.bl<|bs.all id
 |_=>none
end
section
theorem yP:∀{bs:List Bool} {us:List a7},Vals (bs.map V.bl) us->LSm.BoolsAre us bs
 |[],_,.nil=>.nil
 |b::bs,_,.cons r t=>by cases r;exact .cons b<|yP t
theorem km (hc:X.calm=true):eQ X (.builtin "all") (rGC (gx X) vJ):=by
 intro π s σ H xs us Q I r h;refine Ir h λO ds d m hx hr q=>?_;unfold vJ at hr;split at hr
 ·rename_i ds;obtain⟨bs,e1,rfl⟩:=omap hr;obtain⟨v,rfl,hv⟩:=nA hx;obtain⟨p,xs,rfl,hp,hd⟩:=f9 hv
  have:=yX hd e1
  subst this;obtain⟨u,rfl,rx⟩:=vals1 r;cases rx;obtain⟨wa,r',pl,hz⟩:=I.list hp;have ba:=yP r';have li:=pl.isList;have lt1:p<s.heap.objs.size:=by obtain⟨_,e,_⟩:=li;exact bq e
  refine call_all_walk<|oC li ?_;refine⟨s.heap.objs.size,[s.heap.objs.size,p],[s.heap.objs.size],wa.toArray.size,_,_,λi=>(bs[i]?).getD true,rfl,Walks.list (A:=X.A.in1) (I.ok.hd hc) _ p (c8 lt1) wa.toArray,
   ⟨⟨_,b0 _ rfl,rfl,rfl⟩,li.push _⟩,λi v sn Qn En pv qv=>?_,λh' tk kp=>?_⟩
  ·obtain⟨b,e,rfl⟩:=ba.get i v (by simpa using pv);simp only[e,Option.getD_some] at qv;exact gT qv
  ·have e:((ij wa.toArray.size).all λi=>(bs[i]?).getD true)=bs.all id:=by
    rw[bp,ba.length];exact LSm.range_all bs
   rw[e];exact⟨.bl _,H,I.kept<|LSm.kept_iter kp,rfl,q _ _ (aD.refl _)<|.bl _⟩
 ·cases hr
end
section
variable {X:Cx}{tg:Expr}
end
section
variable {pr:bg}{wo:cw}{A:eB}{s:aT}{R:Result->aT->Prop}
variable {St:Nat->aT->Prop}{P:Nat->a7->Prop}{n:Nat}{I:Addr}{fp wr:List Addr}{G:Array l8->Array l8->Prop}
end
section
end
section
end
def signs (z:Str):List D:=z.cps.toList.map λc=>.str ⟨#[c]⟩
def Its (z:Str):It:=⟨λi _=>i<z.cps.size,λi H v H'=>H'=H/\∃c,z.cps[i]? = some c/\v=.str ⟨#[c]⟩,λi _=>i=z.cps.size⟩
theorem z8 {P:bg}{w:cw}{K:av}{tg:Expr}{ty:String}(it:Addr)(z:Str)(t:Tok)
  (wk:∀A:eB,A.handled=none->Walks P w A it [it] [it] z.cps.size (SignAt z) (λi h=>h.IsStrIter it ty z t i))
  (sf:∀(A:eB) (i:Nat) (s:aT) (Q:Zv) (E:Zv),s.heap.IsStrIter it ty z t i->Q (.ref it) s->cn (cq P w) A (pyIter<|.ref it) Q E s)
  (hn:["enumerate", "zip", "dict_itemiterator", "dict_reverseitemiterator", "odict_iterator", "itertools.zip_longest", "itertools.pairwise"].contains ty=false):Turn Calm P w K tg (Its z) [it] it (λi h=>h.IsStrIter it ty z t i) where
 mem:=by simp
 obj:=λi h st b hb=>by
  cases cx.mp hb;obtain⟨o,e,c,d⟩:=st;exact⟨o,e,λv y=>by rw[d] at y;cases y⟩
 keep:=λi h h' st k=>by
  obtain⟨o,e,r⟩:=st;exact⟨o,k it (by simp) o e,r⟩
 item:=by
  intro X hP hw hK hc i π s σ H E I hf st hg;subst hP hw hK;refine rP (hf it<|by simp) λf0 f1 f2 f3 f4 f5=>?_;refine(wk X.A<|I.ok.hd hc).item i s _ _ hg st λv h' tk hv st' kk=>?_;obtain⟨c,u,e1,rfl⟩:=hv;have I1:Inv X π σ H { s with heap:=h',toks:=tk }:=I.turned (λb o hb e=>kk b o (by simpa using hb) e) f0 f1 f3 f4 f5;obtain⟨o,e,cl,d⟩:=id st';exact⟨_,rfl,Dg (s:={ s with heap:=h',toks:=tk }) (n:=ty) e cl d hn ⟨.str ⟨#[c]⟩,H,I1,⟨u,rfl⟩,⟨rfl,c,e1,rfl⟩,st',λb hb=>(hf b hb).1⟩⟩
 done:=by
  intro X hP hw hK hc i π s σ H E I hf st hg;subst hP hw hK;cases(show i=z.cps.size from hg);refine rP (hf it<|by simp) λf0 f1 f2 f3 f4 f5=>?_;exact(wk X.A<|I.ok.hd hc).done s _ _ st λh' tk kk=>⟨rfl,I.turned (λb o hb e=>kk b o (by simpa using hb) e) f0 f1 f3 f4 f5⟩
 self:=λA i s Q E st h=>sf A i s Q E st h
section
def Xi (tl:TE):TI:=λσ H R=>tl σ H λx H1=>∃z,x=.str z/\R (Its z) H1
theorem RX (hl:PE X l tl):PI Calm X tg l (Xi tl):=by
 intro π s σ H R I h;refine thn (hl π s σ H _ I h) λv s1 hE=>xq2 hE λx H1 I1 r1 q1=>?_;obtain⟨z,rfl,q⟩:=q1;obtain⟨t,rfl⟩:=r1;refine wpAny_pyIter_strU ?_;have fp:∀b∈[s1.heap.objs.size],su X π H1 b:=λb hb=>by
  cases cx.mp hb;exact I1.Qx (a9 _)<|I1.hok.fresh<|a9 _
 have st:(s1.heap.push { cls:=.type<|tq z,data:=.fields #[.str z t,.int 0 0] }).IsStrIter s1.heap.objs.size (tq z) z t 0:=⟨_,b0 _ rfl,rfl,rfl⟩;refine⟨s1.heap.objs.size,[s1.heap.objs.size],(λi h=>h.IsStrIter s1.heap.objs.size (tq z) z t i),Its z,H1,rfl,I1.kept (t':=s1.toks) λb o e=>ah _ e,?_,st,fp,q⟩;unfold tq;split
 ·exact z8 _ z t (λA hA=>Walks.strAscii hA _ z t) (λ_ _ _ _ _ a b=>wpAny_pyIter_striter_ascii a b)<|by decide
 ·exact z8 _ z t (λA hA=>Walks.strWide hA _ z t) (λ_ _ _ _ _ a b=>wpAny_pyIter_striter_wide a b)<|by decide
theorem Sy:vD G (Its z) (signs z) P:=by
 intro O H _;refine⟨λi hi=>(show i<z.cps.size by simpa[signs] using hi),λi x H' hi y=>?_,show _=_ by simp[signs]⟩;obtain⟨rfl,c,e,rfl⟩:=y;have e':z.cps.toList[i]? = some c:=by simpa using e
 exact⟨aD.refl _,.str ⟨#[c]⟩,by simp[signs,e],.str _⟩
def KY (f:Zl):Ze:=λm=>(f m).bind λd=>match d with
 | .str z=>.ok<|signs z
 |_=>.stuck
theorem Iw (h:FE X E e f):FI X E tg e (KY f):=nU (RX h) λσ H R hE=>xq5 hE λO0 M0 H0 ow m Re q=>⟨O0,M0,H0,ow,m,Re,q.bind.imp (aD.refl _) λd q v H' g hv=>by
 cases d with
 |str z=>
  cases hv with
  |str=>exact⟨_,rfl,q _ H' g Sy⟩
 |_=>exact q.elim⟩
end
section
end
section
end
section
noncomputable def KC:Zl:=λ_=>.ok<|.dct [] []
theorem PB:FN X E (.Dict [] [] pos) KC:=bF KN λσ H Q ⟨O0,M0,H0,ow,m,R,q⟩ p hp=>q p _ (bC hp _) hp ⟨[],[],az,rfl,rfl,.nil⟩
end
section
end
section
end
def Hc:D->Option D
 | .str z=>if z.length<=be then some (.str z) else none
 | .int i=>if i.natAbs.log2<1920 then some (.str (toString i:String)) else none
 |_=>none
section
theorem Iv (h:FB X E e f):FE X E (.FormattedValue e (-1) none pos) (fUn Hc f):=by
 intro π s σ H Q I ⟨O0,M0,H0,ow,m,R,q⟩;refine FormattedValue_plain<|thn (h π s σ H (λx H1=>aD H H1/\∃d r,DW (gx X) (Ow O0 ow) H1 x d/\Hc d=some r/\∀v H',aD H H'->DV (gx X) (Ow O0 ow) H' v r->Q v H') I ⟨O0,M0,H0,ow,m,R,q.bind.imp (aD.refl _) λd q x H1 g1 hx=>?_⟩) λu s1 ⟨x,H1,I1,rx,g1,d,r,hx,e1,k⟩=>?_
 ·obtain⟨r,hr,k⟩:=q.ofO;exact⟨g1,d,r,hx,hr,k⟩
 ·match d,e1 with
  | .str z,e1=>
   obtain⟨hz,rfl⟩:=oif e1;cases cV hx;obtain⟨t,rfl⟩:=rx;exact formatField_str (λt' tk=>⟨.str z,H1,I1.tok _,⟨t',rfl⟩,k _ _ g1<|.str z⟩) hz
  | .int i,e1=>
   obtain⟨hz,rfl⟩:=oif e1;cases bN hx;obtain⟨t,rfl⟩:=rx;exact formatField_int_small hz ⟨.str _,H1,I1.tok _,⟨_,rfl⟩,k _ _ g1<|.str _⟩
def FJ (X:Cx)(E:XK)(es:List Expr)(f:Str->Me->Res Str):Prop:=∀(π:Zo) (s:aT) (σ:L2.St) (H:Hp) (Q:VK) (out:Str),Inv X π σ H s->
 (∃O0 M0 H0 ow m,Rel (gx X) O0 M0 H0 ow σ H m/\Pu (gx X) E (f out m) H λz=>∀H',aD H H'->Q (.str z) H')->cn (cq X.prog X.w) X.A (joinParts out<|wx es X.env) (EP X π σ Q) X.xe s
def yt:Str->Me->Res Str:=λout _=>if out.length<=be then .ok out else .stuck
def lg (f:Zl)(g:Str->Me->Res Str):Str->Me->Res Str:=λout m=>(f m).bind λd=>match d with
 | .str y=>if(out++y).length<=be then g (out++y) m else .stuck
 |_=>.stuck
theorem Bp:FJ X E [] yt:=by
 intro π s σ H Q out I ⟨O0,M0,H0,ow,m,R,q⟩;obtain⟨hz,k⟩:=Dw q;exact joinParts_nil ⟨.str out,H,I.tok _,⟨_,rfl⟩,k H<|aD.refl _⟩ hz
theorem lU (h:FE X E e f)(hr:FJ X E es g)(hs:wx (e::es) X.env=eval e X.env::wx es X.env:=by rfl):FJ X E (e::es) (lg f g):=by
 intro π s σ H Q out I ⟨O0,M0,H0,ow,m,R,q⟩;rw[hs];refine joinParts_cons<|thn (h π s σ H (λx H1=>∃y,x=.str y/\(out++y).length<=be/\∃O0 M0 H0 ow m,Rel (gx X) O0 M0 H0 ow σ H1 m/\Pu (gx X) E (g (out++y) m) H1 λz=>∀H',aD H1 H'->Q (.str z) H') I ⟨O0,M0,H0,ow,m,R,q.bind.imp (aD.refl _) λd q x H1 g1 hx=>?_⟩) λu s1 ⟨x,H1,I1,rx,y,ex,hz,q1⟩=>?_
 ·cases d with
  |str y=>
   cases hx;by_cases hz:(out++y).length<=be
   ·simp only[if_pos hz] at q;exact⟨y,rfl,hz,O0,M0,H0,ow,m,R.mono g1,q.imp g1 λz k H' g'=>k H'<|g1.trans g'⟩
   ·simp only[if_neg hz] at q;exact q.elim
  |_=>exact q.elim
 ·subst ex;obtain⟨t,rfl⟩:=rx;exact⟨hz,hr π s1 σ H1 Q (out++y) I1 q1⟩
def jn (g:Str->Me->Res Str):Zl:=λm=>(g js m).bind λz=>.ok<|.str z
theorem qZ (h:FJ X E (v₁::v₂::es) g)(hs:wx (v₁::v₂::es) X.env=eval v₁ X.env::eval v₂ X.env::wx es X.env:=by rfl):FE X E (.JoinedStr (v₁::v₂::es) pos) (jn g):=by
 intro π s σ H Q I ⟨O0,M0,H0,ow,m,R,q⟩;refine JoinedStr_many ?_;rw[← hs];exact h π s σ H Q js I ⟨O0,M0,H0,ow,m,R,q.bind.imp (aD.refl _) λz k H' g=>k _ H' g<|.str z⟩
end
noncomputable def XX:List D->Option D
 |[.int i,.int j]=>some<|.int<|if j<i then j else i
 |_=>none
section
noncomputable def jQ:List D->Option D
 |[.bl b]=>some<|.int<|if b then 1 else 0
 |[.str x]=>if x.length<=640 then(PySem.intText? x).map D.int else none
 |_=>none
theorem jr:eQ X (.type "int") (rGC (gx X) jQ):=by
 intro π s σ H xs us Q I r h;refine Ir h λO ds d m hx hr q=>?_;unfold jQ at hr;split at hr
 ·rename_i b;cases hr;obtain⟨v,rfl,hv⟩:=nA hx;have e:v=.bl b:=by
   rcases hv with hv|⟨_,_,_,z⟩
   ·cases hv;rfl
   ·exact z.elim
  subst e;obtain⟨u,rfl,rx⟩:=vals1 r;cases rx;exact call_int_bool ⟨.int _,H,I.tok _,⟨_,rfl⟩,q _ _ (aD.refl _)<|.int _⟩
 ·rename_i x;obtain⟨v,rfl,hv⟩:=nA hx;cases cV hv;have hr:(if x.length<=640 then(PySem.intText? x).map D.int else none)=some d:=hr;by_cases hl:x.length<=640
  ·rw[if_pos hl] at hr;obtain⟨n,hn,rfl⟩:=omap hr;obtain⟨u,rfl,rx⟩:=vals1 r;obtain⟨t,rfl⟩:=rx;exact W.KIN.call_text hn hl ⟨.int n,H,I.tok _,⟨_,rfl⟩,q _ _ (aD.refl _)<|.int _⟩
  ·rw[if_neg hl] at hr;cases hr
 ·cases hr
end
section
def gR:D->List D->Option D
 | .str z,[.str y]=>some<|.bl<|gu z y
 |_,_=>none
theorem Bl:MtR X "str.startswith" (rGM (gx X) gR):=by
 intro π s σ H x vs v us Q I rx rv h;refine j4 h λO d ds r m hx hy hr q=>?_;unfold gR at hr;split at hr
 ·rename_i z y;cases hr;cases cV hx;obtain⟨w,rfl,hw⟩:=nA hy;cases cV hw;obtain⟨t,rfl⟩:=rx;obtain⟨u,rfl,ru⟩:=rv.one;obtain⟨t2,rfl⟩:=ru;exact SC.startswith ⟨.bl _,H,I,rfl,q _ _ (aD.refl _)<|.bl _⟩
 ·cases hr
def ir:D->List D->Option D
 | .str z,[.str y]=>if z.length<=be/\(y.length==0)=false then some (.tup [.str (cK z y).1,.str (cK z y).2.1,.str (cK z y).2.2]) else none
 |_,_=>none
theorem vO:MtR X "str.partition" (rGM (gx X) ir):=by
 intro π s σ H x vs v us Q I rx rv h;refine j4 h λO d ds r m hx hy hr q=>?_;unfold ir at hr;split at hr
 ·rename_i z y;obtain ⟨⟨h1,h2⟩,rfl⟩:=oif hr;cases cV hx;obtain ⟨w,rfl,hw⟩:=nA hy;cases cV hw;obtain ⟨t,rfl⟩:=rx;obtain ⟨u,rfl,ru⟩:=rv.one;obtain ⟨t2,rfl⟩:=ru;refine sx nV (oD _ _ _) PySem.F.entry_str_partition (PySem.F.args_str_partition_2 _ _) (meets_str_partition z y t t2 h2 h1) ?_;have go:∀(a b c:Str) (ta tb tc tk:Tok),(∀v H',aD H H'->DV (gx X) O H' v (.tup [.str a,.str b,.str c])->Q v H')->
    EP X π σ Q (.ref s.heap.objs.size) { s with toks:=tk,heap:=s.heap.push { cls:=.type "tuple",data:=.seq [.str a ta,.str b tb,.str c tc].toArray } }:=by
   intro a b c ta tb tc tk q;have I2:Inv X π σ (upd H s.heap.objs.size (.tup [.str a,.str b,.str c])) { s with toks:=tk,heap:=s.heap.push { cls:=.type "tuple",data:=.seq [.str a ta,.str b tb,.str c tc].toArray } }:=
    I.laid (t':=tk) (λb o e=>ah _ e) (a9 _) (show cY X.prog X.w _ _ _ (.tup [.str a,.str b,.str c]) from ⟨by show 3<=be;decide,[.str a ta,.str b tb,.str c tc],.cons ⟨ta,rfl⟩ (.cons ⟨tb,rfl⟩ (.cons ⟨tc,rfl⟩ .nil)),yE.new _ _⟩)
   exact ⟨.ref s.heap.objs.size,_,I2,rfl,q _ _ (bC (I.hok.fresh (a9 _)) _) (.tup (SqU.of az) (.cons (.str _) (.cons (.str _) (.cons (.str _) .nil))))⟩
  unfold cK at q
  revert q
  cases dP z y 0 z.length 1 with
  |nil=>intro q;exact go _ _ _ _ _ _ _ q
  |cons i r=>intro q;exact go _ _ _ _ _ _ _ q
 ·cases hr
end
section
def rA:D->Option D
 | .str z=>if(pE z).length<=be then some (.str<|pE z) else none
 |_=>none
theorem Ds (h:FB X E e f):FE X E (.FormattedValue e 114 none pos) (fUn rA f):=by
 intro π s σ H Q I ⟨O0,M0,H0,ow,m,R,q⟩;refine wpAny_FormattedValue_repr<|thn (h π s σ H (λx H1=>aD H H1/\∃d r,DW (gx X) (Ow O0 ow) H1 x d/\rA d=some r/\∀v H',aD H H'->DV (gx X) (Ow O0 ow) H' v r->Q v H') I ⟨O0,M0,H0,ow,m,R,q.bind.imp (aD.refl _) λd q x H1 g1 hx=>?_⟩) λu s1 ⟨x,H1,I1,rx,g1,d,r,hx,e1,k⟩=>?_
 ·obtain⟨r,hr,k⟩:=q.ofO;exact⟨g1,d,r,hx,hr,k⟩
 ·match d,e1 with
  | .str z,e1=>
   obtain⟨hz,rfl⟩:=oif e1;cases cV hx;obtain⟨t,rfl⟩:=rx;exact wpAny_pyReprObj_str (formatField_str (λt' tk=>⟨.str<|pE z,H1,I1.tok _,⟨t',rfl⟩,k _ _ g1<|.str _⟩) hz) hz
def Fz:D->D->Option D
 | .str z,.int n=>if 0<=n/\n<=1000/\z.length<=1000 then some (.str<|Txt.mul z n) else none
 |_,_=>none
theorem mulOk_of (h0:0<=n)(h1:n<=1000)(hz:z.length<=1000):MulOk z n:=by
 refine⟨by simp;lia,λp _=>?_,λp _=>?_⟩
 ·have:(1000:Int)<=(2^63-1)/n:=by
   rw[Int.le_ediv_iff_mul_le<|by lia]
   lia
  lia
 ·have:z.length*n.toNat<=1000*1000:=Nat.mul_le_mul hz (by lia)
  have e:be=16777216:=by decide
  simp[nh,e]
  lia
theorem zN:OpR X (gp .Mult) (rG (gx X) Fz):=by
 intro π s σ H x y v u Q I rx ry h;refine j4 h λO d e r m hx hy hr q=>?_;unfold Fz at hr;split at hr
 ·rename_i z n;obtain⟨⟨h0,h1,hz⟩,rfl⟩:=oif hr;cases cV hx;cases bN hy;obtain⟨t,rfl⟩:=rx;obtain⟨t2,rfl⟩:=ry;exact SB.mul (mulOk_of h0 h1 hz) λt' k=>Ej (tk:=k) I q
 ·cases hr
end
section
variable {X:Cx}{E:XK}
variable {a b:Expr}{fa fb:Zl}{pos:Pos}
end
section
variable {G:Gx}{O0 M0:Za}{H0:Hp}{ow:Os}{σ:L2.St}{H:Hp}{m:Me}
end
section
variable {X:Cx}{E:XK}{e ke:Expr}{f fk:Zl}{pos spos np:Pos}{x:Str}
end
section
end
section
end
section
variable {X:Cx}{E:XK}{rest:List Stmt}{k:Zg}
end
section
variable {X:Cx}{tg:Expr}
end
theorem Hq (p:Addr)(v:Array a7)(c:Nat)(k:Int)(t:Tok)(dd:Option Addr)(sl:Array (Option a7))(z0:¬(!Builtin.List.listFitsIndex k)=true)(z1:¬v.size*k.toNat>(2^63-1)/8)(z2:¬i5 (v.size*k.toNat)=true):
  Meets (Builtin.«list.__mul__» ⟨[.ref p,.int k t],[]⟩) (λ_ R s=>s.heap.get? p=some { cls:=.type "list",dict:=dd,data:=.seq v c,slots:=sl }/\
   R (.ok<|.ret<|cS s.heap.objs.size) { s with heap:=s.heap.push { cls:=sv "list",data:=Data.seq (vk (λx1 x2=>x1++x2) #[] (bP (if v.isEmpty=true then 0 else k.toNat) v)) },toks:=s.toks }):=
 .of_wp λ_ _ _ R s w=>by
  obtain⟨h0,g0,d0,k0,o0⟩:=s;obtain⟨e,w⟩:=w;have z:=AutoListH.joined_fits z2
  wp_walk
  refine wpAny_ite_false (decide_eq_false<|Nat.not_lt.mpr z) ?_
  wp_walk
  exact⟨_,rfl,w⟩
theorem G9 (k:Int)(t:Tok)(p:Addr)(v:Array a7)(c:Nat)(dd:Option Addr)(sl:Array (Option a7)):
  Meets (Builtin.«int.__rmul__» ⟨[.int k t,.ref p],[]⟩) (λ_ R s=>s.heap.get? p=some { cls:=.type "list",dict:=dd,data:=.seq v c,slots:=sl }/\R (.ok<|.ret Value.notImplemented) s):=
 .of_wp λ_ _ _ R s w=>by
  obtain⟨h0,g0,d0,k0,o0⟩:=s;obtain⟨e,w⟩:=w
  wp_walk
  exact⟨_,rfl,w⟩
def KQ:D->D->Option D
 | .lst ds,.int k=>if 0<=k/\k<2^63/\ds.length*k.toNat<=be then some (.lst (bP k.toNat ds).flatten) else none
 |_,_=>none
section
theorem Em (h:DVs G O H xs ds):∀k,DVs G O H (bP k xs).flatten (bP k ds).flatten
 |0=>.nil
 |k+1=>by rw[gc,gc,i4,i4];exact gU h<|Em h k
theorem Kl:OpR X (gp .Mult) (rG (gx X) KQ):=by
 intro π s σ H x y v u Q I rx ry h;refine j4 h λO d e r m hx hy hr q=>?_;unfold KQ at hr;split at hr
 ·rename_i ds k;obtain⟨⟨h0,h1,hz⟩,rfl⟩:=oif hr;obtain⟨a,xs,rfl,ha,hd⟩:=f9 hx;cases bN hy;cases rx;obtain⟨t,rfl⟩:=ry;obtain⟨its,rv,pl,_⟩:=I.list ha;have l1:=bT hd;have l2:=rv.length;obtain⟨⟨cls,dd,data,sl⟩,ho,hc,n,hdt⟩:=id pl.isList;simp only at hc hdt;subst hc hdt;have sz:its.toArray.size*k.toNat<=be:=by rw[bp,← l2,l1];exact hz
  have w1:¬its.toArray.size*k.toNat>(2^63-1)/8:=by
   have:(be:Nat)<=(2^63-1)/8:=by decide
   lia
  have w0:¬(!Builtin.List.listFitsIndex k)=true:=by
   rw[fitsIndex_both (by lia) h1];exact aI
  have w2:¬i5 (its.toArray.size*k.toNat)=true:=by
   rw[Lp sz];exact aI
  have en:vk (λx1 x2=>x1++x2) #[] (bP (if its.toArray.isEmpty=true then 0 else k.toNat) its.toArray)=(bP k.toNat its).flatten.toArray:=by
   have f0:∀m:Nat,vk (λx1 x2=>x1++x2) #[] (bP m its.toArray)=(bP m its).flatten.toArray:=λm=>by
    have z:=foldl_rep its m [];rw[ef] at z;exact z
   rw[f0];cases its with
   |nil=>simp
   |cons _ _=>rw[if_neg<|by simp]
  refine wpAny_binaryOp_repeat_ref (T:="list") (U:="int") (by decide) ⟨_,ho,rfl⟩ (λs'=>typeIs_int s' k t) noFill_list_mul PySem.F.fills_int_mul rS repeat_list PySem.F.slot_int_index.lookup
   (sx rS (typeIs_int s k t) PySem.F.entry_int_rmul (PySem.F.args_int_rmul_2 _ _) (G9 k t a its.toArray n dd sl)
    ⟨ho,rfl,⟨_,ho,rfl⟩,sx PySem.F.slot_list_mul ⟨_,ho,rfl⟩ PySem.F.entry_list_mul (PySem.F.args_list_mul_2 _ _) (Hq a its.toArray n k t dd sl w0 w1 w2) ⟨ho,?_⟩⟩)
  rw[en];exact DG (tk:=s.toks) I m (Em hd k.toNat) (rv.rep k.toNat) (by rw[len_rep,Nat.mul_comm,l1];exact hz) (λb o e=>ah _ e) ⟨0,b0 _ rfl⟩<|BX m q
 ·cases hr
end
noncomputable def met (f:Nat->Str):Nat->List Str
 |0=>[]
 |i+1=>if(met f i).any (· == f i) then met f i else met f i++[f i]
theorem DK (f:Nat->Str):∀i,(met f i).length<=i
 |0=>a9 _
 |i+1=>by
  have:=DK f i
  rw[met];split
  ·lia
  ·rw[aw,ko];lia
theorem Oa (f:Nat->Str)(i:Nat):(met f<|i+1).length=if(met f i).any (· == f i) then(met f i).length else(met f i).length+1:=by
 rw[met];split<;>simp
theorem Qe (f:Nat->Str)(i:Nat)(z:Str):(met f<|i+1).any (· == z)=((met f i).any (· == z)||decide (z=f i)):=by grind[met]
theorem yS {h:Heap}(x:h.SetOf (nk pr wo) a S n)(e:∀k,S k=S' k)(en:n=n'):h.SetOf (nk pr wo) a S' n':=by
 cases(funext e:S=S');cases en;exact x
theorem uV {h h':Heap}(x:h.SetOf (nk pr wo) a S n)(k:∀o,h.get? a=some o->h'.get? a=some o):h'.SetOf (nk pr wo) a S n:=by
 obtain⟨o,es,ep,t,e,r⟩:=x;exact⟨o,es,ep,t,k _ e,r⟩
section
variable {pr:bg}{wo:cw}{A:eB}{R:Result->aT->Prop}{I:Addr}{fp wr:List Addr}{G:Array l8->Array l8->Prop}{n:Nat}{P:Nat->a7->Prop}{St:Nat->aT->Prop}
theorem setLoop (W:WalksS pr wo A.in1 I fp wr G n P St)(S:Addr)(nf:S∉fp)(f:Nat->Str)(hf:∀i v,P i v->∃t,v=.str (f i) t)(hb:n+1<ll):
  ∀(k i:Nat) (s:aT),n-i=k->i<=n->St i s->s.heap.SetOf (nk pr wo) S (λz=>(met f i).any (· == z)) (met f i).length->
   (∀t,Moved (S::wr) G s t->t.heap.SetOf (nk pr wo) S (λz=>(met f n).any (· == z)) (met f n).length->R (.ok<|.ret .none) t)->
   pk (cq pr wo) A (.builtin "set.update.loop" ⟨[.ref S,.ref I],[]⟩) R s:=by
 have nw:S∉wr:=λz=>nf<|W.sub _ z;have up:∀b∈wr,b∈S::wr:=λb z=>.tail _ z;intro k;induction k with
 |zero=>
  intro i s ek hi st x fin;obtain rfl:i=n:=by lia
  refine nc kG ?_;rw[sM gN _];show cn (cq pr wo) A.in1 (pyNext (.ref I) >>= _) _ _ _;refine ay<|W.done s _ _ st λt mv=>?_;show cn (cq pr wo) A.in1 (ret gE) _ _ t;exact bS<|fin t (mv.mono up)<|uV x λo e=>mv.heap S o nw e
 |succ k ih=>
  intro i s ek hi st x fin;have lt:i<n:=by lia
  refine nc kG ?_;rw[sM gN _];show cn (cq pr wo) A.in1 (pyNext (.ref I) >>= _) _ _ _;refine ay<|W.item i s _ _ lt st λv t hv st' mv=>?_;obtain⟨tk,rfl⟩:=hf i v hv;have x':=uV (h':=t.heap) x λo e=>mv.heap S o nw e;show cn (cq pr wo) A.in1 (holding [kR (f i) tk] (setAdd S<|.str (f i) tk) >>= _) _ _ t;refine ay<|uk ?_;unfold setAdd;refine uk<|ay<|(nk pr wo).pyHash (k:=f i) (vv _ _ _ _) ?_;have rm:(met f i).length+1<ll:=by have:=DK f i;lia
  refine wpAny_setAddHashed_of (knd:=nk pr wo) (s:={ t with toks:=t.toks+1 }) (vv _ _ _ _) rfl x' rm λh' sb x2=>?_;have x3:=yS x2 (λz=>(Qe f i z).symm) (Oa f i).symm;refine bS ⟨plainId_quiet gN _,ih (i+1) _ (by lia) lt (W.frame _ t _ _ st' (xh _) λb hb' o e=>?_) x3 λt2 mv2 x4=>?_⟩
  ·rw[sb.2 b λz=>nf<|z▸hb'];exact e
  ·refine fin t2 (Moved.trans W.gtrans ((mv.mono up).then_heap (xh _) λb o hb' e=>?_) mv2) x4;rw[sb.2 b λz=>hb'<|z▸.head _];exact e
end
section
abbrev mC (b:Bool):Obj:={ cls:=.type "set",dict:=none,data:=.set #[] 0 (.fresh 0 0 b) }
theorem GD {v:Array a7}(hh:A.handled=none)(li:s.heap.IsList l v)(hf:∀(i:Nat) (u:a7),v[i]? = some u->∃t,u=kR (f i) t)(hb:v.size+1<ll)
  (fin:∀(h':Heap) (tk:Nat),h'.SetOf (nk pr wo) s.heap.objs.size (λz=>(met f v.size).any (· == z)) (met f v.size).length->
   (∀b o,s.heap.get? b=some o->h'.get? b=some o)->Q (.ref s.heap.objs.size) { s with heap:=h',toks:=tk }):
  cn (cq pr wo) A (call (.type "set") [.ref l]) Q E s:=by
 obtain⟨c0,tl0,e0⟩:=fN.mro;have e1:=fN.made;have e2:=fN.sub;have e3:=fN.notType;have e4:=fN.canCreate;have e5:=PySem.F.typeCall_set_1<|.ref l;refine vj<|codeAny_of_tree ?_;show cn _ _ (callAny (.type "set") _) _ _ s;refine bS ⟨Code.quiet_builtin _ (by decide +kernel),nc PySem.F.entry_type_call ?_⟩;rw[Around.under_plain (weight_type_call_type "set" [.ref l] []) rfl]
 repeat (any_goals (first|(assumption)|(wp_step)))
 refine kN (code_set_new_1 (.ref l) (E:=E) (Q₁:=λo t=>∃b:Bool,o=.ref s.heap.objs.size/\t={ s with heap:=s.heap.push (mC b) }) λb=>⟨b,rfl,rfl⟩) λr t ht=>?_
 match r,ht with
 | .error e,ht=>exact ht
 | .ok (.ret o),ht=>
  obtain⟨b,rfl,rfl⟩:=ht;have oS:(s.heap.push<|mC b).get? s.heap.objs.size=some (mC b):=b0 _ rfl;have ty:Shared.TypeIs { s with heap:=s.heap.push (mC b) } (.ref s.heap.objs.size) "set":=⟨_,oS,rfl⟩;have e6:=fN.init.lookup;have e7:=fN.init.bind<|.ref s.heap.objs.size
  repeat (any_goals (first|(assumption)|(wp_step)))
  refine kN (mi (R:=wants (λu t=>u=.none/\∃h' tk,t={ s with heap:=h',toks:=tk }/\h'.SetOf (nk pr wo) s.heap.objs.size (λz=>(met f v.size).any (· == z)) (met f v.size).length/\
    ∀b o,s.heap.get? b=some o->h'.get? b=some o) E) fN.init.plain PySem.F.entry_set_init (check_set_init_1 ty ?_)) λr2 t2 ht2=>?_
  ·obtain⟨⟨c1,d1,dt1,sl1⟩,ol,hc,n1,hd⟩:=id li;simp only at hc hd;subst hc hd;have ol':=ah (mC b) ol;have li':=li.push<|mC b;have s1:=PySem.F.sub_list_set;have s2:=PySem.F.sub_list_frozenset;have s3:(sv "list"==sv "dict")=false:=by decide
   unfold Builtin.«set.__init__» noKeywords Builtin.Frozenset.updateFrom;generalize ei:pyIter=it0
   wp_walk
   subst ei;refine oC li'<|ay<|wpAny_runValue ?_;have lt:l<s.heap.objs.size:=bq ol;have hx:A.in1.in1.in1.handled=none:=by simp[hh]
   have sz:(s.heap.push<|mC b).objs.size=s.heap.objs.size+1:=om _ _;refine setLoop ((Walks.list hx _ l (by rw[sz];exact c8<|Nat.lt_succ_of_lt lt) v).toS) s.heap.objs.size (by rw[sz];exact λm=>(ag.mp m).elim (λz=>c8 (kH _) z) λm=>qS lt<|cx.mp m) f hf hb v.size 0 _ rfl (fF _)
    ⟨⟨_,b0 _ rfl,rfl,rfl⟩,li'.push _⟩ (yS ((PyProof.Rows.setObjOf_fresh (knd:=nk pr wo) b).setOf (ah _ oS) (by unfold ll;lia)) (λ_=>rfl) rfl) λt mv x=>?_
   obtain⟨h',g',d',tk',os'⟩:=t;obtain rfl:g'=s.gens:=mv.gens;obtain rfl:d'=s.drawn:=mv.drawn;obtain rfl:os'=s.os:=mv.os;show cn _ _ _ _ _ _;refine bS ?_;show cn _ _ (ret gE) _ _ _;refine bS ⟨rfl,h',tk',rfl,x,λc o e=>mv.heap c o ?_<|ah _<|ah _ e⟩;have ltc:=bq e;rw[sz];exact λm=>(ag.mp m).elim (λz=>c8 ltc z) λm=>c8 (Nat.lt_succ_of_lt ltc)<|cx.mp m
  ·match r2,ht2 with
   | .error e,ht2=>exact ht2
   | .ok (.ret u),ht2=>
    obtain⟨rfl,h',tk,rfl,x,kp⟩:=ht2
    repeat (any_goals (first|(assumption)|(wp_step)))
    exact fin _ _ x kp
end
def stp (l:List Str)(x:Str):List Str:=if l.any (· == x) then l else l++[x]
def cnt (zs:List Str):Nat:=(zs.foldl stp []).length
theorem zX (f:Nat->Str):∀n,met f n=((ij n).map f).foldl stp []
 |0=>rfl
 |n+1=>by rw[met,zX f n,List.range_succ,nv,List.foldl_append];rfl
theorem Ke (zs:List Str):(met (λi=>zs.getD i "") zs.length).length=cnt zs:=by
 have:(ij zs.length).map (λi=>zs.getD i "")=zs:=by
  refine List.ext_getElem (by simp) λi h1 h2=>?_;simp[List.getD,h2]
 rw[zX,this];rfl
theorem Nq (l:List Str)(x:Str):(stp l x).length<=l.length+1:=by unfold stp;split<;>simp
theorem Dy:∀(zs l:List Str),(zs.foldl stp l).length<=l.length+zs.length
 |[],_=>a9 _
 |x::zs,l=>by
  have:=Dy zs<|stp l x
  have:=Nq l x
  simp only[k9,bX]
  lia
section
def Ih (pr:bg)(wo:cw)(a:Addr)(n:Nat)(h:Heap):Prop:=∃S,h.SetOf (nk pr wo) a S n
theorem N5:cf "len" = some (.builtin "len"):=by decide +kernel
theorem Il:cf "set" = some (.type "set"):=by decide +kernel
def Ws (X:Cx):List V->Hp->VK->Prop:=λxs H Q=>∃p zs,xs=[.ref p]/\SqL X.K H p (zs.map V.str)/\zs.length+1<ll/\∀l,H l=none->Q (.ref l) (upd H l<|.ext<|Ih X.prog X.w l<|cnt zs)
theorem mK:∀{zs:List Str} {its:List a7},Vals (zs.map V.str) its->∀(i:Nat) (u:a7),its[i]? = some u->∃t,u=kR (zs.getD i "") t
 |[],_,h,i,u,e=>by cases h;cases e
 |z::zs,_,h,i,u,e=>by
  cases h with
  |cons a b=>
   cases i with
   |zero=>obtain⟨t,ea⟩:=a;subst ea;cases e;exact⟨t,rfl⟩
   |succ i=>exact mK b i u e
theorem GZ (hc:X.calm=true):eQ X (.type "set") (Ws X):=by
 intro π s σ H xs us Q I r h;obtain⟨p,zs,rfl,hq,hb,q⟩:=h;obtain⟨u,rfl,rx⟩:=vals1 r;cases rx;obtain⟨its,rv,pl,_⟩:=I.list hq;have hl:=rv.length;rw[fA] at hl;refine GD (f:=λi=>zs.getD i "") (I.ok.hd hc) pl.isList (λi u e=>mK rv i u<|by simpa using e) (by rw[bp,← hl];exact hb) λh' tk x kp=>?_;have es:its.toArray.size=zs.length:=by rw[bp,← hl]
 rw[es,Ke] at x;have y:=x;obtain⟨o,es,ep,t,e,_⟩:=y;exact⟨.ref _,_,I.laid (t':=tk) kp (a9 _)<|show cY X.prog X.w _ h' _ (.ext<|Ih X.prog X.w s.heap.objs.size<|cnt zs) from⟨⟨_,x⟩,⟨o,e⟩,λh1 h2 ⟨S,z⟩ k=>⟨S,uV z k⟩⟩,rfl,q _<|I.hok.fresh<|a9 _⟩
def Wo (X:Cx):List V->Hp->VK->Prop:=λxs H Q=>∃p n,xs=[.ref p]/\H p=some (.ext<|Ih X.prog X.w p n)/\n<ll/\Q (.int n) H
theorem GX:eQ X (.builtin "len") (Wo X):=by
 intro π s σ H xs us Q I r h;obtain⟨p,n,rfl,hp,hn,q⟩:=h;obtain⟨u,rfl,rx⟩:=vals1 r;cases rx;obtain⟨⟨S,o,es,ep,t,ho,hex,hd,_,_,_,hf,e⟩,_⟩:=I.hok p _ hp;subst e;refine call_len_set ho hex hd hf (by unfold ll at hn;lia) ?_;exact⟨.int _,_,I.tok _,⟨_,rfl⟩,q⟩
def txs:List D->Option (List Str)
 |[]=>some []
 | .str x::ds=>(txs ds).map (x::·)
 |_=>none
def qj:List D->Option D
 |[.lst ds]=>match txs ds with
  |some zs=>if zs.length+1<ll then some (.int<|cnt zs) else none
  |none=>none
 |_=>none
theorem Fi:∀{xs:List V} {ds:List D} {zs:List Str},DVs G O H xs ds->txs ds=some zs->xs=zs.map V.str
 |_,_,zs,.nil,e=>by cases e;rfl
 |_,_,zs,.cons (d:=d) a b,e=>by
  cases d with
  |str x=>
   rw[txs] at e;cases ez:txs _ with
   |none=>rw[ez] at e;cases e
   |some ys=>
    rw[ez] at e;cases e;cases a;rw[Fi b ez];rfl
  |_=>cases e
theorem Hv (hc:X.calm=true)(hg:Gl X "len")(hm:X.mg "len" = none)(hg':Gl X "set")(hm':X.mg "set" = none)(ha:FAB X E [e] fs)
  (hs:ar [e] X.env=(false,eval e X.env)::ar [] X.env:=by rfl) (hs':ar [.Call (.Name "set" p') [e] [] pos'] X.env=(false,eval (.Call (.Name "set" p') [e] [] pos') X.env)::ar [] X.env:=by rfl):
  FE X E (.Call (.Name "len" p) [.Call (.Name "set" p') [e] [] pos'] [] pos) (aU qj fs):=
 bF (dI GX hg hm N5 (aB (kW (GZ hc) hg' hm' Il ha (by decide) (by decide) hs rfl) aP hs') (by decide) (by decide) hs' rfl) λσ H Q h=>by
  refine Jp h λO0 M0 H0 ow m R q=>?_;refine⟨O0,M0,H0,ow,m,R,q.bind.imp (aD.refl _) λds q vs H1 g1 hv=>?_⟩;obtain⟨r,hr,k⟩:=q.ofO
  match ds,hr with
  |[.lst ds],hr=>
   rw[qj] at hr;cases ez:txs ds with
   |none=>rw[ez] at hr;cases hr
   |some zs=>
    rw[ez] at hr;obtain⟨hb,rfl⟩:=oif hr;obtain⟨v,rfl,hw⟩:=nA hv;obtain⟨l,xs,rfl,hp,hd⟩:=f9 hw;have ex:=Fi hd ez;subst ex;have hle:cnt zs<=zs.length:=by have:=Dy zs [];simpa[cnt] using this
    exact⟨l,zs,rfl,hp,hb,λb hb'=>⟨b,cnt zs,rfl,az,by lia,k _ _ (g1.trans<|bC hb' _)<|.int _⟩⟩
end
structure Wr (p:Prop):Prop where
 out:p
section
variable {X:Cx}{E:XK}{e a b c ke:Expr}{es:List Expr}{st:Stmt}{rest sa sb:List Stmt}{f fa fb fk:Zl}{fs:Ze}{ft:Zb}{gg k ga gb:Zg}{pos pos' apos χ np spos p:Pos}{i:Nat}{x:Str}
theorem gZ (h1:Wr (FS X E st gg))(h2:Wr (FSs X E rest k)):Wr (FSs X E (st::rest)<|bj gg k):=⟨aO h1.out h2.out⟩
theorem Wx (h1:Wr (FS X E st gg)):Wr (FSs X E [st] gg):=⟨bh h1.out⟩
theorem kI (hN:X.N.Nodup)(hi:X.N[i]? = some x)(hx:Loc X.env.scope x)(he:Wr (FE X E e f))(hs:ja e (some<|.Name x pos') pos.line X.env=pure false:=by rfl)
  (hf:X.fn x=true\/X.env.scope.names.lookup x=some .local:=by first|exact .inl rfl|exact .inr rfl|assumption):Wr (FS X E (.Assign [.Name x pos'] e pos)<|bM i f):=⟨cB hN hi hx he.out hs hf⟩
theorem Wm (he:Wr (FE X E e f)):Wr (FS X E (.Return (some e) pos)<|bH f):=⟨bO he.out⟩
theorem cA (ha:Wr (FE X E e fa))(hr:Wr (FAE X E es fs))(hs:ar (e::es) X.env=(false,eval e X.env)::ar es X.env:=by rfl):Wr (FAE X E (e::es)<|aa fa fs):=⟨au ha.out hr.out hs⟩
theorem lq (h:Wr (FAE X E es fs)):Wr (FN X E (.List es pos)<|dq fs):=⟨eX h.out⟩
theorem lA (h:Wr (FN X E e f)):Wr (FE X E e f):=⟨di h.out⟩
theorem fQ (h:Wr (FE X E e f)):Wr (FB X E e f):=⟨ak h.out⟩
theorem fK (ho:OpR X (gp op) (rG (gx X) g))(ha:Wr (FB X E a fa))(hb:Wr (FB X E b fb)):Wr (FE X E (.BinOp a op b pos)<|aF g fa fb):=⟨aQ ho ha.out hb.out⟩
theorem Xm (ho:IxR X (rG (gx X) g))(ha:Wr (FB X E a fa))(hb:Wr (FB X E b fb))(hs:xW b):Wr (FE X E (.Subscript a b pos)<|aF g fa fb):=⟨cR ho ha.out hb.out hs⟩
end
section
variable {pr:bg}{wo:cw}{A:eB}{E:Zv}{s:aT}{κ:Type}[DecidableEq κ]{kn:HeapKind pr wo κ}
end
section
end
section
end
section
variable {prog:bg}{w:cw}{A:eB}{E:Zv}{s:aT}{d it v:Addr}{es:Array DictEntry}{ep i:Nat}
end
section
variable {X:Cx}
end
section
end
section
end
section
end
section
end
section
end
section
variable {pr:bg}{wo:cw}{κ:Type}[DecidableEq κ]{kn:KeyKind pr wo κ}{A:eB}{R:Result->aT->Prop}{I:Addr}{fp wr:List Addr}{G:Array l8->Array l8->Prop}{n:Nat}{P:Nat->a7->Prop}{St:Nat->aT->Prop}
end
section
variable {pr:bg}{wo:cw}{κ:Type}[DecidableEq κ]{kn:KeyKind pr wo κ}{A:eB}{E:Zv}{s:aT}
end
section
end
section
end
section
end
section
end
section
variable {X:Cx}
end
section
end
section
end
section
variable {G:Gx}{O0 M0:Za}{H0:Hp}{ow:Os}{σ:L2.St}{H:Hp}{m:Me}
end
section
variable {P:bg}{w:cw}{K:av}{mg:Zs}{base:Heap}
end
section
variable {X:Cx}{E:XK}{e:Expr}{es:List Expr}{fa:Zl}{fs:Ze}{i p:Nat}{y:Str}{np:Pos}
end
section
variable {G:Gx}{O0 M0:Za}{H0 H H':Hp}{ow:Os}{σ:L2.St}{m m':Me}
end
section
variable {X:Cx}{E:XK}{e b ke:Expr}{f fb fk:Zl}{pos spos:Pos}
end
section
variable {P:bg}{w:cw}{K:av}{mg:Zs}{base:Heap}
end
section
end
section
variable {X:Cx}{E:XK}
end
section
def vm (i:Nat)(f:Me->Res (D×Me)):Zg:=λm=>(ofO<|o7 m i).bind λ_=>(f m).bind λp=>(ofO<|o7 p.2 i).bind λo=>if o.2.length<be then .ok (.nx,putL p.2 i o.1<|o.2++[p.1]) else .stuck
theorem Bx (i:Nat)(he:FX X E e fa)(hN:X.N[i]? = some x:=by rfl)(hv:Vis X.env.scope x:=by first|exact af rfl|exact kF (af rfl)|exact kF (kF rfl))(hd:(x==("__debug__":Str))=false:=by decide)(hcd:(x==("__classdict__":Str))=false:=by decide)
  (ω:i7 (.Name x np) "append" X.env (eval (.Name x np) X.env)=eval (.Name x np) X.env:=by rfl)
  (ν:((hJ χ<|ar [e] X.env).all (λx=>!x.1)&&(uu χ<|mT [] X.env).all (λx=>x.1.isSome)&&decide ([e].length+([]:List tj).length+(if([]:List tj).isEmpty then 0 else 1)<30))=true:=by rfl)
  (η:(apos.endLine==χ.line)=true:=by rfl) (hs:ar [e] X.env=(false,eval e X.env)::ar [] X.env:=by rfl) (hplain:(hJ χ<|ar [] X.env).any (·.1)=false:=by rfl)
  (θ:ja (.Call (.Attribute (.Name x np) "append" apos) [e] [] χ) none pos.line X.env=pure false:=by rfl):
  FS X E (.Expr (.Call (.Attribute (.Name x np) "append" apos) [e] [] χ) pos) (vm i fa):=
 eU (cF (rH dS fg fq ig (aA hN hv hd hcd) (aB he aP hs) ω ν η hs hplain) θ) λW σ H hE=>xq5 hE λO0 M0 H0 ow m R q=>by
  obtain⟨o,ho,q⟩:=Ss.ofO q;obtain⟨k,ds⟩:=o;refine uD (pZ R.toRel ho) λa xs e1 e2 e3 e4 e5=>?_;refine⟨_,e2,.inl ⟨rfl,xs,SqL.of e3⟩,O0,M0,H0,ow,m,R,(Xs.ss (k:=λd m'=>(ofO<|o7 m' i).bind λo=>if o.2.length<be then .ok (.nx,putL m' i o.1<|o.2++[d]) else .stuck) q).imp (Go.refl<|aD.refl _) λd H1 m1 R1 g1 em q v hv=>?_⟩;have q:=q m1 em R1;obtain⟨o,ho,q⟩:=Ss.ofO q;obtain⟨k',ds'⟩:=o;refine uD (pZ R1.toRel ho) λa' xs' f1 f2 f3 f4 f5=>?_;rw[e1] at f1;cases f1;by_cases hz:ds'.length<be
  ·have q:Ss (gx X) E O0 M0 H0 ow H1 W (if ds'.length<be then .ok (.nx,putL m1 i k'<|ds'++[d]) else .stuck):=q;rw[if_pos hz] at q;obtain⟨R2,g2⟩:=R1.put (es:=ds'++[d]) (ys:=xs'++[v]) e1 f5<|gU f4<|.cons hv .nil;exact⟨a,xs',v,rfl,rfl,f3,by rw[bT f4];exact hz,q _ _ _ R2 g2⟩
  ·have q:Ss (gx X) E O0 M0 H0 ow H1 W (if ds'.length<be then .ok (.nx,putL m1 i k'<|ds'++[d]) else .stuck):=q;rw[if_neg hz] at q;exact q.elim
end
end F
namespace L2
open PySem PySem.Spec PyProof.Rows
section
variable {X:Cx}{tg:Expr}
end
end L2
namespace F
open PySem PySem.Spec PyProof.Rows L2 Hd
section
variable {X:Cx}{E:XK}{tg e a b c:Expr}{f:Zl}{fs:Ze}{fa:Me->Res (D×Me)}{p pos:Pos}
end
section
end
end F
namespace L2
open PySem PySem.Spec PyProof.Rows
section
variable {X:Cx}{e st:Expr}{te:TE}{tst:TO}{p2 pos:Pos}
end
end L2
namespace F
open PySem PySem.Spec PyProof.Rows L2 Hd
section
variable {X:Cx}{E:XK}{e st:Expr}{f:Zl}{fk:Me->Res (Option Int)}{p2 pos:Pos}
end
end F
namespace Pk
open PySem L2 Hd F
section
def fW:Zb:=
 (bK gNe (aj 3)<|fC<|.int 0)
def fZ:Zg:=
 (bj (bM 4<|aF dG (aj 2)<|aj 3)
 (bj (bM 2<|bW 3)
 (bM 3<|bW 4)))
def jz:Zg:=
 (ni fW fZ)
def ie (l_3:Zg):Zg:=
 (bj (bM 2<|aU QG<|aa (aj 0) aG)
 (bj (bM 3<|aU QG<|aa (aj 1) aG)
 (bj l_3
 (bH<|bW 2))))
def ik:Zg:=
 (ie jz)
def cJ:Zf:=bY 5 2 ik
def pW (φ_common_divisor:Zf):Zg:=
 (bj (bM 2<|fFn φ_common_divisor<|aa (bW 0)<|aa (bW 1) aG)
 (bj (gIf (bK gLt (aj 1)<|fC<|.int 0) (bM 2<|fUn Ms<|aj 2) gNx)
 (bH<|rW<|aa (aF iz (aj 0)<|aj 2)<|aa (aF iz (aj 1)<|aj 2) aG)))
def pM:Zg:=
 (pW cJ)
def jB:Zf:=bY 3 2 pM
end
end Pk
namespace Hd
noncomputable def gI (a b:Int):Int:=(pS a b:Nat)
theorem Ob (ha:0<=a)(hb:0<b):gI b (a%b)=gI a b:=by
 unfold gI pS;have e:(a%b).natAbs=a.natAbs%b.natAbs:=by
  obtain⟨n,rfl⟩:=pV ha;obtain⟨m,rfl⟩:=pV<|Int.le_of_lt hb;rfl
 rw[e,wc a.natAbs b.natAbs,Nat.gcd_rec b.natAbs a.natAbs,wc]
theorem PK (ha:0<=a):gI a 0=a:=by
 unfold gI;rw[Int.gcd_zero_right]
 lia
theorem Tu (a b:Int):gI (if a<0 then -a else a) (if b<0 then -b else b)=gI a b:=by
 unfold gI pS;have h:∀x:Int,(if x<0 then -x else x).natAbs=x.natAbs:=λx=>by split<;>lia
 rw[h,h]
theorem Vq (a b:Int):0<=gI a b:=Int.natCast_nonneg _
theorem Cz (hb:b≠0):0<gI a b:=by
 have:0<pS a b:=Nat.pos_of_ne_zero λh=>hb (Int.gcd_eq_zero_iff.mp h).2
 unfold gI;lia
theorem DQ (a b:Int):gI a b ∣ a:=Int.gcd_dvd_left a b
theorem uy (a b:Int):gI a b ∣ b:=Int.gcd_dvd_right a b
theorem Vf (hb:b≠0):(gI a b).natAbs<=b.natAbs:=by
 have h:(gI a b).natAbs ∣ b.natAbs:=iA.mpr<|uy a b;exact va (by lia) h
def dv (t b:Int):Int:=if b<0 then -gI t b else gI t b
theorem De (hb:b≠0):dv t b≠0:=by
 have:=Cz (a:=t) hb
 unfold dv;split<;>lia
theorem Mz (t b:Int):(dv t b).natAbs=(gI t b).natAbs:=by unfold dv;split<;>lia
def lt (t b:Int):Int:=t.fdiv<|dv t b
def lb (t b:Int):Int:=b.fdiv<|dv t b
theorem uA {a d q:Int}(hd:d≠0)(h:a=d*q):a.fdiv d=q:=by simp_all
theorem O3 (t b:Int):dv t b ∣ t:=by
 unfold dv;split
 ·exact Int.neg_dvd.mpr<|DQ t b
 ·exact DQ t b
theorem JG (t b:Int):dv t b ∣ b:=by
 unfold dv;split
 ·exact Int.neg_dvd.mpr<|uy t b
 ·exact uy t b
theorem lt_mul (hb:b≠0):dv t b*lt t b=t:=by
 obtain⟨q,hq⟩:=O3 t b;have e:lt t b=q:=uA (De hb) hq;rw[e];exact hq.symm
theorem xG (hb:b≠0):dv t b*lb t b=b:=by
 obtain⟨q,hq⟩:=JG t b;have e:lb t b=q:=uA (De hb) hq;rw[e];exact hq.symm
theorem HX (hb:b≠0):1<=lb t b:=by
 have e:=xG (t:=t) hb;have g:=Cz (a:=t) hb;by_cases h:lb t b<=0
 ·exfalso;unfold dv at e;split at e
  ·have:0<=-gI t b*lb t b:=Int.mul_nonneg_of_nonpos_of_nonpos (by lia) h
   lia
  ·have:gI t b*lb t b<=0:=Int.mul_nonpos_of_nonneg_of_nonpos (by lia) h
   lia
 ·lia
theorem DX (hb:b≠0):gI (lt t b) (lb t b)=1:=by
 have e1:=lt_mul (t:=t) hb;have e2:=xG (t:=t) hb;have g:=Cz (a:=t) hb;have q:gI t b=(dv t b).natAbs*gI (lt t b) (lb t b):=by
  have:pS (dv t b*lt t b) (dv t b*lb t b)=(dv t b).natAbs*pS (lt t b) (lb t b):=Int.gcd_mul_left ..
  rw[e1,e2] at this;unfold gI;rw[this];push_cast;rfl
 have ed:((dv t b).natAbs:Int)=gI t b:=by rw[Mz];have:=Vq t b;lia
 rw[ed] at q;have h:gI t b*gI (lt t b) (lb t b)=gI t b*1:=by rw[Int.mul_one];exact q.symm
 exact Int.eq_of_mul_eq_mul_left (by lia) h
theorem HF (hb:b≠0):lt t b*b=t*lb t b:=by
 have e1:=lt_mul (t:=t) hb;have e2:=xG (t:=t) hb
 calc lt t b*b=lt t b*(dv t b*lb t b):=by rw[e2]
  _=(dv t b*lt t b)*lb t b:=by rw[← Int.mul_assoc,nX (lt t b)<|dv t b]
  _=t*lb t b:=by rw[e1]
theorem Wl (hb:b≠0):(lt t b).natAbs<=t.natAbs:=by
 have e:=lt_mul (t:=t) hb;have h:(lt t b).natAbs ∣ t.natAbs:=iA.mpr ⟨dv t b,by rw[nX];exact e.symm⟩;by_cases z:t=0
 ·have:lt t b=0:=by
   have e':dv t b*lt t b=0:=e.trans z;rcases Int.mul_eq_zero.mp e' with h|h
   ·exact absurd h<|De hb
   ·exact h
  rw[this];exact fF _
 ·exact va (by lia) h
theorem Wa (hb:b≠0):(lb t b).natAbs<=b.natAbs:=by
 have e:=xG (t:=t) hb;have h:(lb t b).natAbs ∣ b.natAbs:=iA.mpr ⟨dv t b,by rw[nX];exact e.symm⟩;exact va (by lia) h
theorem mF (c:pS p q=1)(h:q ∣ p*s):q ∣ s:=by
 have h2:q.natAbs ∣ p.natAbs*s.natAbs:=by rw[← Int.natAbs_mul];exact iA.mpr h
 have c2:Nat.Coprime q.natAbs p.natAbs:=by unfold Nat.Coprime;rw[wc];exact c
 exact iA.mp<|Nat.Coprime.dvd_of_dvd_mul_left c2 h2
theorem Ao (hq:1<=q)(hs:1<=s)(g1:gI p q=1)(g2:gI r s=1)(h:p*s=r*q):p=r/\q=s:=by
 have c1:pS p q=1:=by unfold gI at g1;lia
 have c2:pS r s=1:=by unfold gI at g2;lia
 have d1:q ∣ s:=by
  have:q ∣ p*s:=⟨r,by rw[h,nX]⟩
  exact mF c1 this
 have d2:s ∣ q:=by
  have:s ∣ r*q:=⟨p,by rw[← h,nX]⟩
  exact mF c2 this
 have e:q=s:=Int.dvd_antisymm (by lia) (by lia) d1 d2;subst e;exact⟨Int.eq_of_mul_eq_mul_right (by lia) h,rfl⟩
theorem Oe (hq:1<=q)(g:gI p q=1):lt p q=p/\lb p q=q:=by
 have hb:q≠0:=by lia
 exact Ao (HX hb) hq (DX hb) g<|by rw[HF hb]
theorem Fp (h:n<2^m)(hk:m<=k):n<2^k:=aS h<|iP (by decide) hk
abbrev Q2:=Int×Int
end Hd
namespace F
open PySem L2 Hd
@[simp] theorem szl:be=16777216:=by decide
theorem oY:∀{a b:List Char},a.map jv=b.map jv->a=b
 |[],[],_=>rfl
 |[],_::_,h=>by simp at h
 |_::_,[],h=>by simp at h
 |x::a,y::b,h=>by
  have h':x.toNat=y.toNat/\a.map jv=b.map jv:=by simpa using h
  rw[Char.toNat_inj.mp h'.1,oY h'.2]
@[simp] theorem WL {a b:String}:(ae a=ae b)↔a=b:=by
 constructor
 ·intro h;rw[lI,lI] at h;have h2:(a.toList.map jv).toArray=(b.toList.map jv).toArray:=congrArg Str.cps h;have h3:a.toList.map jv=b.toList.map jv:=by simpa using congrArg vT h2
  exact String.toList_inj.mp<|oY h3
 ·intro h;rw[h]
@[simp] theorem WD (i j:Int):gEq (.int i) (.int j)=some (decide<|i=j):=rfl
@[simp] theorem WK (i j:Str):gEq (.str i) (.str j)=some (decide<|i=j):=rfl
@[simp] theorem Xj (i j:Bool):gEq (.bl i) (.bl j)=some (decide<|i=j):=rfl
@[simp] theorem WM (i j:Int):gNe (.int i) (.int j)=some (!decide (i=j)):=rfl
@[simp] theorem Wz (i j:Str):gNe (.str i) (.str j)=some (!decide (i=j)):=rfl
@[simp] theorem WY (i j:Bool):gNe (.bl i) (.bl j)=some (!decide (i=j)):=rfl
theorem zV {h:Zh}{g:Zg}(P:Nat->Me->Prop):∀(ds:List D) (i:Nat) (m:Me),P i m->(∀j d m,ds[j]? = some d->P (i+j) m->∃m1 m2,h d m=some m1/\g m1=.ok (.nx,m2)/\P (i+j+1) m2)->
  ∃m',iZ h g ds m=.ok (.nx,m')/\P (i+ds.length) m'
 |[],i,m,p,_=>⟨m,rfl,p⟩
 |d::ds,i,m,p,st=>by
  obtain⟨m1,m2,e1,e2,p2⟩:=st 0 d m rfl p;obtain⟨m',e,q⟩:=zV P ds (i+1) m2 p2 λj d m hj p=>by
   have:=st (j+1) d m (by simpa using hj) (by rw[show i+(j+1)=i+1+j by omega];exact p)
   rw[show i+(j+1)+1=i+1+j+1 by omega] at this;exact this
  refine⟨m',?_,by rw[show i+(d::ds).length=i+1+ds.length by simp;omega];exact q⟩;unfold iZ;rw[e1];simp only[e2];exact e
theorem Gw {h:Zh}{ft:Zb}{fe:Zl}{m0:Me}(P:D->Prop):∀ds:List D,(∀d∈ds,∃m1 y,h d m0=some m1/\ft m1=.ok true/\fe m1=.ok y/\P y)->∃ys,jd h ft fe m0 ds=.ok ys/\ys.length=ds.length/\∀y∈ys,P y
 |[],_=>⟨[],rfl,rfl,λ_ z=>nomatch z⟩
 |d::ds,H=>by
  obtain⟨m1,y,e1,e2,e3,p⟩:=H d a8;obtain⟨ys,e,l,q⟩:=Gw P ds λd hd=>H d<|ax _ hd;refine⟨y::ys,?_,by simp[l],λz hz=>?_⟩
  ·unfold jd;simp only[e1,e2,e3,e]
  ·rcases ag.mp hz with w|w
   ·rw[w];exact p
   ·exact q z w
noncomputable def qD (d:Q2):D:=.tup [.int d.1,.int d.2]
def rR (zs:List Str):List Nat:=zs.flatMap λz=>z.cps.toList
theorem Hi:(ae "").cps=#[]:=by decide +kernel
theorem Dk:∀(zs:List Str) (acc:Array Nat),(zs.foldl (λacc p=>acc++(ae "").cps++p.cps) acc).toList=acc.toList++rR zs
 |[],acc=>by simp[rR]
 |z::zs,acc=>by
  rw[k9,Dk zs,Hi];simp[rR]
theorem KD (zs:List Str):(sA (ae "") zs).cps.toList=rR zs:=by
 show((zs.drop 1).foldl (λacc p=>acc++(ae "").cps++p.cps) (zs.headD js).cps).toList=_;rw[Dk];cases zs with
 |nil=>simp[rR,js]
 |cons z zs=>simp[rR]
theorem wA:∀(zs:List Str) (n:Nat),zs.foldl (λn z=>n+z.length+(ae "").length) n=n+(rR zs).length
 |[],n=>by simp[rR]
 |z::zs,n=>by
  rw[k9,wA zs]
  have:(ae "").length=0:=by decide +kernel
  rw[this];simp[rR,Str.length]
  lia
theorem joinOk_of (h:(rR zs).length<=16777216):xk (ae "") zs=true:=by
 unfold xk;rw[List.foldl_toArray,wA];simp[nh]
 lia
def One (P:Nat->Prop)(d:D):Prop:=∃c,P c/\d=.str ⟨#[c]⟩
theorem ones:∀ys:List D,(∀y∈ys,One P y)->∃cs:List Nat,vH ys=some (cs.map λc=>⟨#[c]⟩)/\cs.length=ys.length/\∀c∈cs,P c
 |[],_=>⟨[],rfl,rfl,λ_ z=>nomatch z⟩
 |y::ys,h=>by
  obtain⟨c,pc,rfl⟩:=h y a8;obtain⟨cs,e,l,q⟩:=ones ys λy hy=>h y<|ax _ hy;refine⟨c::cs,by simp[vH,e],by simp[l],λd hd=>?_⟩;rcases ag.mp hd with w|w
  ·rw[w];exact pc
  ·exact q d w
theorem wC (cs:List Nat):rR (cs.map λc=>(⟨#[c]⟩:Str))=cs:=by
 induction cs with
 |nil=>rfl
 |cons c cs ih=>simp[rR] at ih ⊢;exact ih
theorem join_ones (h:∀y∈ys,One P y)(hl:ys.length<=16777216):∃cs:List Nat,jc (.str "") [.lst ys]=some (.str ⟨cs.toArray⟩)/\cs.length=ys.length/\∀c∈cs,P c:=by
 obtain⟨cs,e,l,q⟩:=ones ys h;refine⟨cs,?_,l,q⟩;have hj:xk (ae "") (cs.map λc=>(⟨#[c]⟩:Str))=true:=joinOk_of (by rw[wC];lia);have hc:=KD<|cs.map λc=>(⟨#[c]⟩:Str);rw[wC] at hc
 have:sA (ae "") (cs.map λc=>(⟨#[c]⟩:Str))=⟨cs.toArray⟩:=by
  rcases hz:sA (ae "") (cs.map λc=>(⟨#[c]⟩:Str)) with⟨a⟩
  rw[hz] at hc
  have:a=cs.toArray:=by rw[← hc]
  rw[this]
 simp[jc,e,hj,this]
theorem Dj (hz:z.length<=16777216)(hP:∀c∈z.cps.toList,P c)(h0:0<=i)(h1:i<z.cps.toList.length):∃y,gIx (.str z) (.int i)=some y/\One P y:=by
 have hi:i.toNat<z.cps.toList.length:=by lia
 have e:atI z.cps.toList i=some (z.cps.toList[i.toNat]):=by
  unfold atI ixN;rw[if_pos h0,if_pos<|by lia];simp[eI hi]
 refine⟨.str ⟨#[z.cps.toList[i.toNat]]⟩,?_,_,hP _<|List.getElem_mem hi,rfl⟩;simp only[gIx,szl,if_pos hz,e];rfl
theorem fP (h1:-1000000000000000000000000000000<=i)(h2:i<=1000000000000000000000000000000):Bg i:=by
 have:i.natAbs<2^100:=by
  have e:(2:Nat)^100=1267650600228229401496703205376:=by decide
  lia
 exact Rh<|Fp this<|by decide
theorem Ue {ns:List Int}{k:Int}(h0:0<=k)(h:k<(ns.length:Int)):∃c:Int,c∈ns/\atI (ns.map D.int) k=some (.int c):=by simp_all[if_pos,eI,atI,ixN]
theorem HY (h:((ij n).map λ(i:Nat)=>D.int i)[j]? = some d):j<n/\d=.int j:=by grind
theorem Vk (h:f m=.ok [.int j])(h1:-1000000000<=j)(h2:j<=1000000000):qy f m=.ok ((ij j.toNat).map λ(i:Nat)=>D.int i):=by
 unfold qy;rw[h];show(if -(2^62)<=j/\j<2^62 then _ else _)=_;rw[if_pos ⟨by lia,by lia⟩]
theorem NK (h:xs≠[]):∃ys x,xs=ys++[x]:=⟨xs.dropLast,xs.getLast h,(mn h).symm⟩
open PySem PySem.NumText
def dg (n:Nat):List Nat:=(rV 10 n).map jv
def sg (i:Int):List Nat:=(if i<0 then[45] else[])++dg i.natAbs
def tx (l:List Nat):Str:=⟨l.toArray⟩
theorem cg (l:List Nat):(tx l).cps.toList=l:=rfl
theorem aW (l:List Nat):(tx l).length=l.length:=by rfl
theorem wu (h:x.cps.toList=l):x=tx l:=by
 cases x with
 |mk a=>subst h;unfold tx;simp
theorem lF (a b:List Nat):tx a++tx b=tx (a++b):=wu (by show(a.toArray++b.toArray).toList=_;simp)
theorem pH:tx a=tx b↔a=b:=⟨λh=>by have:=congrArg (λz:Str=>z.cps.toList) h;exact this,λh=>by rw[h]⟩
theorem iK:∀d:Nat,d<10->dg d=[48+d]:=by decide
theorem qx (h:10<=n):dg n=dg (n/10)++[48+n%10]:=by
 have hm:n%10<10:=Nat.mod_lt n (by decide);have t:rV 10 (n/10)++rV 10 (n%10)=rV 10 (10*(n/10)+n%10):=Nat.toDigits_append_toDigits (by decide) (by lia) hm;rw[Nat.div_add_mod] at t;have e:=iK _ hm;unfold dg at e ⊢;rw[← t,nv,e]
theorem lQ (n:Nat):AllDigits (dg n):=by
 induction n using nB with
 |_ n ih=>
  by_cases h:n<10
  ·rw[iK n h];intro c hc;rw[cx.mp hc]
   lia
  ·rw[qx<|by lia];intro c hc;rcases bE.mp hc with w|w
   ·exact ih (n/10) (by lia) c w
   ·rw[cx.mp w]
    lia
theorem Es (n:Nat):dg n≠[]:=by
 by_cases h:n<10
 ·rw[iK n h];exact List.cons_ne_nil _ _
 ·rw[qx<|by lia];simp
theorem yh (n:Nat):digitsVal (dg n)=n:=by
 induction n using nB with
 |_ n ih=>
  by_cases h:n<10
  ·rw[iK n h];show 0*10+(48+n-48)=n
   lia
  ·rw[qx (by lia),digitsVal_snoc,ih (n/10)<|by lia]
   lia
theorem qI:∀(k n:Nat),n<10^(k+1)->(dg n).length<=k+1
 |0,n,h=>by rw[iK n<|by simpa using h];exact a9 _
 |k+1,n,h=>by
  by_cases z:n<10
  ·rw[iK n z];simp
  ·rw[qx (by lia),aw]
   have:=qI k (n/10) (by rw[Nat.pow_succ] at h;lia)
   simp
   lia
theorem xx (n:Nat):1<=(dg n).length:=by
 have:=Es n
 cases h:dg n with
 |nil=>exact absurd h this
 |cons a b=>simp
theorem RT (i:Int):ae (toString i)=tx (sg i):=by
 rw[lI];unfold tx sg dg;congr 2
 match i with
 | .ofNat m=>
  show(Nat.repr m).toList.map jv=_;rw[Nat.toList_repr];rfl
 | .negSucc m=>
  show("-"++Nat.repr (m+1)).toList.map jv=_;rw[String.toList_append,Nat.toList_repr];rw[if_pos<|Int.negSucc_lt_zero m];rfl
theorem Jw (h:i.natAbs<10^30):sC (tx<|sg i)=some i/\(tx<|sg i).length<=31:=by
 have hl:=qI 29 i.natAbs h;have hz:(tx<|sg i).length<=31:=by
  rw[aW];unfold sg;rw[aw];split<;>simp<;>lia
 refine⟨?_,hz⟩;by_cases n:i<0
 ·have e:sg i=45::dg i.natAbs:=by unfold sg;rw[if_pos n];rfl
  rw[intText_neg (x:=tx<|sg i) (cs:=dg i.natAbs) (by rw[cg,e]) (lQ _) (Es _) (by lia),yh];congr 1
  lia
 ·have e:sg i=dg i.natAbs:=by unfold sg;rw[if_neg n];rfl
  rw[sT (x:=tx<|sg i) (by rw[cg,e];exact lQ _) (by rw[cg,e];exact Es _) (by lia),cg,e,yh];congr 1
  lia
theorem ud:StrLaws.At x ⟨#[c]⟩ x.length i↔x.cps.toList[i]? = some c:=StrLaws.subAt_one x c i
theorem Bh (h:c∉l):dP (tx l) ⟨#[c]⟩ 0 (tx l).length 1=[]:=by
 rcases qq (tx l) ⟨#[c]⟩ 1 (a9 1) with⟨h0,_⟩|⟨i,r,h0,hi,hn⟩
 ·exact h0
 ·have:=ud.mp hi
  exact absurd (iO this) h
theorem Eh (h:c∈l):(dP (tx l) ⟨#[c]⟩ 0 (tx l).length 1).isEmpty=false:=by
 rcases qq (tx l) ⟨#[c]⟩ 1 (a9 1) with⟨h0,hn⟩|⟨i,r,h0,hi,hn⟩
 ·obtain⟨j,hj⟩:=List.getElem?_of_mem h;exact absurd (ud.mpr hj)<|hn j
 ·rw[h0];rfl
theorem RL (h:c∉a):∃r,dP (tx (a++c::b)) ⟨#[c]⟩ 0 (tx (a++c::b)).length 1=a.length::r:=by
 rcases qq (tx (a++c::b)) ⟨#[c]⟩ 1 (a9 1) with⟨h0,hn⟩|⟨i,r,h0,hi,hn⟩
 ·exact absurd (ud.mpr<|show(a++c::b)[a.length]? = some c by simp) (hn a.length)
 ·refine⟨r,?_⟩;have e:i=a.length:=by
   by_cases z:i<a.length
   ·have:=ud.mp hi
    have w:(a++c::b)[i]? = some c:=this;rw[b9 z] at w;exact absurd (iO w) h
   ·by_cases y:a.length<i
    ·exact absurd (ud.mpr<|show(a++c::b)[a.length]? = some c by simp) (hn _ y)
    ·lia
  rw[h0,e]
end F
namespace Pk
open PySem L2 Hd F
theorem jt:∀l:List α,(∀c∈l,∃m1,h (g c) m0=some m1/\ft m1=.ok true/\fe m1=.ok (f c))->jd h ft fe m0 (l.map g)=.ok (l.map f)
 |[],_=>rfl
 |d::ds,H=>by
  obtain⟨m1,e1,e2,e3⟩:=H d a8;have ih:=jt ds λd hd=>H d<|ax _ hd;rw[eJ];unfold jd;simp only[e1,e2,e3,ih,eJ]
theorem QQ (h1:t m=.ok true)(h2:b m=.ok (.nx,m'))(h3:wh t b n m'=some r):wh t b (n+1) m=some r:=by
 unfold wh;rw[h1,h2];exact h3
theorem Pa (h1:t m=.ok false):wh t b 1 m=some (.ok (.nx,m)):=by
 unfold wh;rw[h1]
end Pk
namespace F
open PySem L2 Hd
end F
namespace Pk
open PySem L2 Hd F
theorem N6 (x y:Sl):∀(n:Nat) (a b:Int) (z:Sl),b.toNat=n->0<=a->0<=b->∃k z',wh fW fZ k [x,y,.fz<|.int a,.fz<|.int b,z] =
  some (.ok (.nx,[x,y,.fz<|.int<|gI a b,.fz<|.int 0,z'])):=by
 intro n;induction n using nB with
 |_ n ih=>
  intro a b z hn ha hb;by_cases h0:b=0
  ·subst h0;refine⟨1,z,?_⟩;rw[PK ha];exact Pa rfl
  ·have hb':0<b:=by lia
   have hm:=fR a hb';have hm0:=gy a h0;obtain⟨k,z',e⟩:=ih (a%b).toNat (by lia) b (a%b) (.fz<|.int<|a%b) rfl hb hm0;rw[Ob ha hb'] at e;refine⟨k+1,z',QQ (m':=[x,y,.fz<|.int b,.fz<|.int<|a%b,.fz<|.int<|a%b]) ?_ ?_ e⟩
   ·simp[fW,bK,aj,fC,h0]
   ·simp[fZ,bj,bM,aF,aj,bW,dG,mdI,h0,hb']
theorem fL (a b:Int):cJ [.int a,.int b]=.ok (false,.int<|gI a b):=by
 obtain⟨k,z',e⟩:=N6 (.fz<|.int a) (.fz<|.int b) _ (if a<0 then -a else a) (if b<0 then -b else b) .un rfl (by split<;>lia) (by split<;>lia);rw[Tu] at e;have e2:=Hr k e;simp[cJ,bY,ik,ie,jz,bj,bM,aU,aa,aG,aj,QG,e2,bH,Me.let,Sl.let,bW]
theorem K5 (h:i.natAbs<2^k)(hk:k<=4000:=by decide):Bq i:=Vr<|Fp h<|by lia
theorem rE (hb:b≠0)(hB:Bq b):jB [.int t,.int b]=.ok (false,.tup [.int<|lt t b,.int<|lb t b]):=by
 have hd:=De (t:=t) hb;have hB':Bq (dv t b):=by
  have h1:=Vf (a:=t) hb;have h2:=Mz t b;unfold Bq at hB ⊢
  lia
 have e1:dvI t (dv t b)=lt t b:=by
  unfold dvI lt;split
  ·rw[kC t<|by lia]
  ·rfl
 have e2:dvI b (dv t b)=lb t b:=by
  unfold dvI lb;split
  ·rw[kC b<|by lia]
  ·rfl
 by_cases h:b<0
 ·have e:dv t b=-gI t b:=if_pos h;rw[e] at e1 e2 hd hB';have hg:gI t b≠0:=by lia
  simp[hg,jB,bY,pM,pW,bj,bM,fFn,aa,aG,bW,aj,fL,gIf,bK,fC,gLt,h,fUn,Ms,bH,Me.let,Sl.let,rW,aF,iz,hB',e1,e2]
 ·have e:dv t b=gI t b:=if_neg h;rw[e] at e1 e2 hd hB';have hg:gI t b≠0:=by lia
  simp[hg,jB,bY,pM,pW,bj,bM,fFn,aa,aG,bW,aj,fL,gIf,bK,fC,gLt,h,gNx,bH,Me.let,Sl.let,rW,aF,iz,hB',e1,e2,hd]
theorem ix0:atI [a,b] 0=some a:=rfl
theorem ix1:atI [a,b] 1=some b:=rfl
end Pk
namespace Lw
open PySem L2 Hd F Pk
section
end
section
variable {e:En}{A:Addr×Addr}{a r dep:Nat}{N:Nd}{m:Int×Int}{rc:Rc}
end
section
variable {e:En}{A:Addr×Addr}{a r dep:Nat}{N:Nd}{m:Int×Int}{rc:Rc}{x y:Int}
end
end Lw
namespace F
open PySem PySem.Spec PyProof.Rows L2 Hd
section
end
structure FMt (P:bg)(w:cw)(K:av)(mg:Zs)(base:Heap)(k:Nat)(c m:Str)(ps:List Str)(sp:Sp):Prop where
 ex:∃C g fd,mg c=some (.ref C)/\Cls K C/\Meth K C m g/\bR P w K mg base (CX1 P w) k g fd ps sp/\Binds K fd ps []
section
variable {X:Cx}{E:XK}{j k:Nat}{c m:Str}{ps:List Str}{Φ:Zf}{apos pos:Pos}{o e:Expr}{es:List Expr}{f0:Zl}{fs:Ze}{pl:Sem Bool}
end
section
variable {P:bg}{w:cw}{K:av}{mg:Zs}{base:Heap}
end
section
end
section
variable {X:Cx}{E:XK}{e:Expr}{g:Zl}{k:Zg}{c f x kn vn:Str}{fs:List Str}{pos pos' pos2 pos3 spos np np2 kp vp:Pos}{rest:List Stmt}
end
section
variable {X:Cx}{E:XK}{e:Expr}{g:Zl}{c f x:Str}{fs:List Str}{pos pos' np:Pos}
end
section
variable {P:bg}{w:cw}{K:av}{mg:Zs}{base:Heap}
end
section
end
structure MkT (P:bg)(w:cw)(K:av)(mg:Zs)(base:Heap)(k:Nat)(c:Str)(ps:List Str)(sp:Sp):Prop where
 ex:∃C g fd,mg c=some (.ref C)/\Mk K C g/\bR P w K mg base (CX1 P w) k g fd ps sp/\Binds K fd ps []
section
variable {X:Cx}{E:XK}{jj k:Nat}{c f y:Str}{ps:List Str}{Φ:List D->Res (List Str×List D×D)}{py pos χ np:Pos}{e:Expr}{es:List Expr}{fs:Ze}{rest:List Stmt}{kk:Zg}
end
end F
namespace Hd
open PySem L2
end Hd
namespace F
open PySem L2 Hd
section
variable {X:Cx}{E:XK}{es:List Expr}{b:Expr}{fs:Ze}{fa fb:Zl}{pos:Pos}
end
open PySem PySem.Spec PyProof.Rows L2 Hd
section
end
section
end
section
end
section
end
section
variable {X:Cx}{E:XK}{jj k:Nat}{x y:Str}{ps:List Str}{Φ:Zf}{py pos χ np:Pos}{e:Expr}{es:List Expr}{fs:Ze}{rest:List Stmt}{kk:Zg}
end
section
end
section
end
section
end
section
end
section
end
section
end
section
end
section
end
section
end
section
variable {X:Cx}{E:XK}{y:Str}{py pos lp:Pos}{es:List Expr}{fs:Ze}{rest:List Stmt}{kk:Zg}
end
section
variable {X:Cx}
theorem vals2 (r:Vals [a,b] us):∃u v,us=[u,v]/\RelV a u/\RelV b v:=by
 cases r with
 |cons r1 r2=>
  cases r2 with
  |cons r2 r3=>cases r3;exact⟨_,_,rfl,r1,r2⟩
end
section
variable {pr:bg}{wo:cw}{Ar:eB}{Ex:Zv}{st:aT}
end
section
variable {pr:bg}{wo:cw}{Ar:eB}{Ex:Zv}{st:aT}
end
theorem mm4 {α:Type}{P:α->Prop}{a b c d:α}(h1:P a)(h2:P b)(h3:P c)(h4:P d):∀x∈[a,b,c,d],P x:=by simp[h1,h2,h3,h4]
theorem mm5 {α:Type}{P:α->Prop}{a b c d e:α}(h0:P e)(h1:P a)(h2:P b)(h3:P c)(h4:P d):∀x∈[e,a,b,c,d],P x:=by simp[h0,h1,h2,h3,h4]
theorem XR {α:Type}{x a b c d:α}(h:x∉[a,b,c,d]):x≠a/\x≠b/\x≠c/\x≠d:=by simpa using h
theorem XS {α:Type}{a b c d e:α}:∀x∈[e,b,c,d],x∈[e,a,b,c,d]:=mm4 (by simp) (by simp) (by simp)<|by simp
section
variable {X:Cx}
end
end F
namespace Pk
open PySem L2 Hd F
section
def tQ:Zg:=
 (bH<|jT (gn "int" (aj 0))<|V6<|gn "bool" (aj 0))
def uB:Zg:=
 tQ
def fY:Zf:=bY 1 1 uB
def o9 (φ_is_whole:Zf)(φ_common_divisor:Zf):Zg:=
 (bj (gIf (dN (cz<|fTv<|gn "tuple" (aj 0))<|bK gNe (aU cT<|aa (aj 0) aG)<|fC<|.int 2) (bH<|fC<|.bl false) gNx)
 (bj (gIf (dN (cz<|fTv<|fFn φ_is_whole<|aa (aF gIx (aj 0)<|fC<|.int 0) aG)<|cz<|fTv<|fFn φ_is_whole<|aa (aF gIx (aj 0)<|fC<|.int 1) aG) (bH<|fC<|.bl false) gNx)
 (bH<|jT (gQ gGe (aF gIx (aj 0)<|fC<|.int 1)<|fC<|.int 1)<|gQ gEq (fFn φ_common_divisor<|aa (aF gIx (aj 0)<|fC<|.int 0)<|aa (aF gIx (aj 0)<|fC<|.int 1) aG)<|fC<|.int 1)))
def pD:Zg:=
 (o9 fY cJ)
def eY:Zf:=bY 1 1 pD
end
end Pk
namespace Lw
open PySem L2 Hd F Pk
section
end
end Lw
namespace F
open PySem PySem.Spec PyProof.Rows L2 Hd
section
end
section
end
section
variable {A:Type}{p:List A->Prop}
theorem xb1 (h:∀a,p [a])(us:List A)(e:us.length=1):p us:=by
 cases us with
 |nil=>cases e
 |cons a t=>cases t with
  |nil=>exact h a
  |cons _ _=>cases e
theorem xb0 (h:∀a t,t.length=n->p (a::t))(us:List A)(e:us.length=n+1):p us:=by
 cases us with
 |nil=>cases e
 |cons a t=>exact h a t (Nat.succ.inj e)
theorem xb2 (h:∀a b,p [a,b]):∀us:List A,us.length=2->p us:=xb0 λa=>xb1 (p:=λt=>p (a::t))<|h a
theorem xb3 (h:∀a b c,p [a,b,c]):∀us:List A,us.length=3->p us:=xb0 λa=>xb2 (p:=λt=>p (a::t))<|h a
end
structure QD (K:av)(x:Str)(st:Stmt):Prop where
 ex:∃f fd,Fun K x x st f fd/\ff K bo x=some (some (.ref f))
structure QM (K:av)(C:Addr)(x q:Str)(st:Stmt):Prop where
 ex:∃f fd,Fun K x q st f fd/\fv K (.ref C) x=some (some (.ref f))/\W.isFn K (.ref f)=true
section
variable {P:bg}{w:cw}{K:av}{mg:Zs}{base h:Heap}{x q c:Str}{st:Stmt}{ps:List Str}{C f:Addr}{oc:a7}{od an:Option Addr}{osl:Array (Option a7)}{kV doc pm cdv ct:a7}{k:Nat}{sp:Sp}
theorem qd (a:ff K bo x=some (some<|.ref f))(l:K.lookup f=some ⟨oc,od,.func<|ri x x (iH st) (fj st) (aL st) .none kV doc pm an cdv ct,osl⟩)(c:wt K cdv x=true)(k:kX K (.ref f)=true):QD K x st:=⟨f,_,JM l c k,a⟩
theorem qm (a:fv K (.ref C) x=some (some<|.ref f))(i:W.isFn K (.ref f)=true)(l:K.lookup f=some ⟨oc,od,.func<|ri x q (iH st) (fj st) (aL st) .none kV doc pm an cdv ct,osl⟩)(c:wt K cdv q=true)(k:kX K (.ref f)=true):QM K C x q st:=⟨f,_,JM l c k,a,i⟩
theorem QD.df (Q:QD K x st)(X:K.In h)(G:h.Ns bo mg)(hb:∀(kV doc pm:a7) (an:Option Addr) (cdv ct:a7) (us:List a7),us.length=ps.length->wq (ri x x (iH st) (fj st) (aL st) .none kV doc pm an cdv ct) ⟨us,[]⟩=pure (ps.zip us)):Df K mg x st ps:=by
 obtain⟨f,fd,F,a⟩:=Q.ex;exact⟨f,fd,F,F.binds hb,ia X G a⟩
theorem QM.mt (Q:QM K C x q st)(M:mg c=some (.ref C))(L:Cls K C)(ok:∀f fd,Fun K x q st f fd->bR P w K mg base (CX1 P w) k f fd ps sp)
  (hb:∀(kV doc pm:a7) (an:Option Addr) (cdv ct:a7) (us:List a7),us.length=ps.length->wq (ri x q (iH st) (fj st) (aL st) .none kV doc pm an cdv ct) ⟨us,[]⟩=pure (ps.zip us)):FMt P w K mg base k c x ps sp:=by
 refine uM Q.ex λf fd F a i=>?_;exact⟨C,f,fd,M,L,⟨a,i,F.kp⟩,ok f fd F,F.binds hb⟩
theorem QM.mkT (Q:QM K C "__init__" q st)(M:mg c=some (.ref C))(m:ub K C=true)(kc:kX K (.ref C)=true)(ok:∀f fd,Fun K "__init__" q st f fd->bR P w K mg base (CX1 P w) k f fd ps sp)
  (hb:∀(kV doc pm:a7) (an:Option Addr) (cdv ct:a7) (us:List a7),us.length=ps.length->wq (ri "__init__" q (iH st) (fj st) (aL st) .none kV doc pm an cdv ct) ⟨us,[]⟩=pure (ps.zip us)):MkT P w K mg base k c ps sp:=by
 refine uM Q.ex λf fd F a i=>?_;exact⟨C,f,fd,M,⟨m,a,i,kc⟩,ok f fd F,F.binds hb⟩
end
section
variable {X:Cx}{E:XK}{e a b tg iter:Expr}{body:List Stmt}{f fa fb:Zl}{fi:Ze}{g:Zg}{h:Zh}{pos pos':Pos}{i:Nat}{x:Str}
end
section
variable {P:bg}{w:cw}{K:av}{mg:Zs}{base:Heap}{x:Str}{st:Stmt}{N ps:List Str}{k:Nat}{g:Zg}{i j:Int}
end
section
end
section
end
end F
namespace Pk
open PySem L2 Hd F
section
def wL:Zg:=
 (bH<|jT (gn "tuple" (aj 0))<|gQ gEq (aU cT<|aa (aj 0) aG)<|fC<|.int 2)
def wD:Zg:=
 wL
def nO:Zf:=bY 1 1 wD
end
end Pk
namespace F
open PySem PySem.NumText Hd
def jl (s:List Nat):List (List Nat)->List Nat
 |[]=>[]
 |[a]=>a
 |a::b::r=>a++s++jl s (b::r)
theorem CV (s:List Nat):∀l:List (List Nat),Str.join (tx s) (l.map tx)=tx (jl s l)
 |[]=>rfl
 |[a]=>rfl
 |a::b::r=>by
  have ih:=CV s (b::r);show tx a++tx s++Str.join (tx s) ((b::r).map tx)=_;rw[ih,lF,lF];rfl
def oF (l:List (List Nat)):Nat:=(l.map List.length).sum
theorem Eb (s:List Nat):∀(l:List (List Nat)) (n:Nat),(l.map tx).foldl (λn z=>n+z.length+(tx s).length) n=n+oF l+l.length*s.length
 |[],n=>by simp[oF]
 |a::r,n=>by
  rw[eJ,k9,Eb s r,aW,aW];simp[oF,xl];omega
theorem Vz {s:List Nat}{l:List (List Nat)}(h:oF l+l.length*s.length<=16777216):xk (tx s) (l.map tx)=true:=by
 unfold xk;rw[List.foldl_toArray,Eb];simp[nh]
 have:be=16777216:=rfl
 omega
theorem DR:∀l:List (List Nat),vH (l.map λa=>D.str<|tx a)=some (l.map tx)
 |[]=>rfl
 |a::r=>by simp[vH,DR r]
theorem Qk {s:List Nat}{l:List (List Nat)}(h:oF l+l.length*s.length<=16777216):jc (.str<|tx s) [.lst<|l.map λa=>D.str<|tx a]=some (.str<|tx<|jl s l):=by
 have e:sA (tx s) (l.map tx)=tx (jl s l):=(StrLaws.glued_eq_join _ _).trans<|CV s l;simp[jc,DR,Vz h,e]
open PySem PySem.Spec PyProof.Rows L2 Hd
section
variable {X:Cx}{tg:Expr}
end
def KX (K:av)(H:Hp)(x:V)(t:a7):Prop:=(x=.non/\t=.type "NoneType")\/∃ea C,x=.ref ea/\t=.ref C/\(∃ox,H ea=some (.frz ox<|.ext<|oK ea<|.ref C))/\XC K C
def Xh (K:av):List V->Hp->VK->Prop:=λxs H Q=>∃x t C b,xs=[x,.ref C]/\KX K H x t/\d4 K t (.ref C)=some b/\Q (.bl b) H
section
variable {X:Cx}
theorem Jm:eQ X (.builtin "isinstance") (Xh X.K):=by
 intro π s σ H xs us Q I r h;obtain⟨x,t,C,b,rfl,hk,e,q⟩:=h;obtain⟨u,w',rfl,ru,rw'⟩:=vals2 r;cases(show w'=cS C from rw');rcases hk with⟨rfl,rfl⟩|⟨ea,D,rfl,rfl,⟨ox,he⟩,Z⟩
 ·cases(show u=gE from ru);exact hU W.kitx_none I.kIn trivial e (λz=>nomatch z) λtk=>⟨.bl b,H,I.tok _,rfl,q⟩
 ·cases(show u=cS ea from ru);obtain⟨_,⟨o,ho,hc,_⟩,_⟩:=(show cY X.prog X.w H s.heap ea (.frz ox<|.ext<|oK ea<|.ref D) from I.hok ea _ he);exact hU (zY Z) I.kIn ⟨o,ho,hc⟩ e (λz=>nomatch z) λtk=>⟨.bl b,H,I.tok _,rfl,q⟩
end
def ICl (K:av)(mg:Zs)(y:Str)(tab:Str->Option Bool):Prop:=∃C,mg y=some (.ref C)/\(∀c D b,tab c=some b->mg c=some (.ref D)->XC K D/\d4 K (.ref D) (.ref C)=some b)/\d4 K (.type "NoneType") (.ref C)=some false
def xO (tab:Str->Option Bool)(f:Zl):Zl:=λm=>(f m).bind λd=>match d with
 | .exc c _ _=>ofO<|(tab c).map D.bl
 | .non=>.ok<|.bl false
 |_=>.stuck
section
variable {X:Cx}{E:XK}{a:Expr}{fa:Zl}{y:Str}{pos p py:Pos}
theorem pG {tab:Str->Option Bool}(ha:FB X E a fa)(hg:Gl X "isinstance")(hm:X.mg "isinstance" = none)(hv:cf "isinstance" = some (.builtin "isinstance"))(hgy:Gl X y)(ht:ICl X.K X.mg y tab)
  (hdy:(y==("__debug__":Str))=false:=by decide) (he:ar [a,.Name y py] X.env=(false,eval a X.env)::ar [.Name y py] X.env:=by rfl) (he2:ar [.Name y py] X.env=(false,eval (.Name y py) X.env)::ar [] X.env:=by rfl) (ζ:(hJ pos<|ar [.Name y py] X.env).any (·.1)=false:=by rfl):
  FE X E (.Call (.Name "isinstance" p) [a,.Name y py] [] pos) (xO tab fa):=by
 obtain⟨C,hC,ht,hn⟩:=ht;refine bF (dI Jm hg hm hv (aB ha (aB (mz (v:=.ref C) hgy hC rfl hdy) aP he2) he) (by decide) (by decide) he ζ) λσ H Q h=>?_;obtain⟨O0,M0,H0,ow,m,R,q⟩:=h;refine⟨O0,M0,H0,ow,m,R,q.bind.imp (aD.refl _) λd q v H' g hv=>?_⟩;cases d with
 |exc k=>
  obtain⟨r,hr,kk⟩:=q.ofO;obtain⟨b,hb,rfl⟩:=omap hr;obtain⟨ea,D,rfl,hD,hH⟩:=Ji hv;obtain⟨z1,z2⟩:=ht k D b hb hD;exact⟨_,_,C,b,rfl,.inr ⟨ea,D,rfl,rfl,hH,z1⟩,z2,kk _ _ g<|.bl _⟩
 |non=>
  cases qQ hv;exact⟨_,_,C,false,rfl,.inl ⟨rfl,rfl⟩,hn,q _ _ g<|.bl _⟩
 |_=>exact q.elim
end
end F
namespace Hd
open PySem PySem.Spec PyProof.Rows L2
section
variable {X:Cx}{i j k:Nat}{x:Str}{ps:List Str}{sp:Sp}{p pos:Pos}{e:Expr}{es:List Expr}{t:TA}{f:Addr}{fd:dQ}
end
end Hd
namespace F
open PySem PySem.Spec PyProof.Rows L2 Hd
section
variable {X:Cx}{E:XK}{i j k l:Nat}{x y z:Str}{ps qs:List Str}{p pos χ:Pos}{e:Expr}{es:List Expr}{fs:Ze}{Φ Ψ:Zf}{a b:Addr}
end
section
variable {prog:bg}{w:cw}{A:eB}{E:Zv}{s:aT}
end
section
variable {X:Cx}{tg:Expr}
end
section
variable {X:Cx}{E:XK}{tg e:Expr}{f:Zl}
end
section
variable {P:bg}{w:cw}{K:av}{mg:Zs}{base:Heap}
end
section
variable {X:Cx}{CX:CXT}{j k:Nat}{f:Addr}{fd:dQ}{ps:List Str}{sp:Sp}{dvs:List V}{ds:List a7}{E:XK}{x:Str}{p pos:Pos}{e:Expr}{es:List Expr}{t:TA}{Φ:Zf}{fs:Ze}
end
section
variable {P:bg}{w:cw}{K:av}{mg:Zs}{base:Heap}{N:List Str}{qual:Str}{scope:oB}{f:Addr}{cd:a7}{A:eB}{outer:List Env}{s:aT}{H:Hp}{E:XK}
end
section
variable {X:Cx}{CX:CXT}{i j k:Nat}{f:Addr}{fd:dQ}{ps:List Str}{sp:Sp}{dvs:List V}{ds:List a7}{E:XK}{x y:Str}{p pos pos' χ:Pos}{e:Expr}{es:List Expr}{t:TA}{Φ:Zf}{fs:Ze}
end
section
variable {prog:bg}{w:cw}{A:eB}{E:Zv}{s:aT}
end
end F
namespace Hd
open PySem PySem.Spec PyProof.Rows L2
section
variable {prog:bg}{w:cw}{A:eB}{E:Zv}{h:Heap}{g:Array l8}{d:Drawn}{t:Nat}{os:OsState}
variable {nm q:Str}{C N fI:Addr}{bs bm bmB:List a7}{hdct:Bool}{sn:List Str}{sub:List a7}{ab:Bool}{col:Option Bool}{dd:Option Addr}{k0 k1 k2 k3 k5:Option a7}{B newId initId:String}
end
section
variable {prog:bg}{w:cw}{A:eB}{E:Zv}{s:aT}{x C:Addr}{ox:Obj}{od:Option Obj}{K:av}{f:Str}{v:a7}{Q:Unit->aT->Prop}
end
section
variable {prog:bg}{w:cw}{A:eB}{E:Zv}{h:Heap}{g:Array l8}{d:Drawn}{t:Nat}{os:OsState}{a C dx:Addr}{o:Obj}{K:av}{f:Str}{v:a7}{mA:Zs}
end
section
variable {P:bg}{w:cw}{H:Hp}{h:Heap}{e dx:Addr}{ob:Obj}{fs:List (Str×V)}
end
section
variable {X:Cx}{π:Zo}{σ:St}{H:Hp}{s:aT}{e dx C fI:Addr}{ob:Obj}{fs:List (Str×V)}{φ:Heap->Prop}{f:Str}{v:V}{u:a7}{A:eB}{E:Zv}{Q:Unit->aT->Prop}
end
section
variable {X:Cx}{o value:Expr}{f:Str}{pos pos':Pos}{ta tv:TE}
end
section
variable {P:bg}{w:cw}{K:av}{mg:Zs}{base:Heap}{q a b:Str}{st:Stmt}{f C:Addr}{fd:dQ}{p1 p2 p3 p4 p5 p6 p7 p8:Pos}
end
section
variable {X:Cx}{k:Nat}{f C:Addr}{fd:dQ}{ps ns:List Str}{x:Str}{p pos χ:Pos}{e:Expr}{es:List Expr}{t:TA}
end
section
variable {P:bg}{w:cw}{K:av}{mg:Zs}{base:Heap}{N:List Str}{qual:Str}{scope:oB}{f:Addr}{cd:a7}{A:eB}{outer:List Env}{s:aT}{H:Hp}{E:XK}
end
end Hd
namespace F
open PySem PySem.Spec PyProof.Rows L2 Hd
section
variable {X:Cx}{E:XK}{e a:Expr}{es:List Expr}{fs:Ze}{fa:Zl}{x f:Str}{np χ pos p:Pos}{j k:Nat}{ns:List Str}
end
end F
namespace Hd
open PySem PySem.Spec PyProof.Rows L2
section
variable {M:Model}{A:eB}{E:Zv}{s:aT}{B:Heap}{env:Env}{l:List Env}{L e:Addr}{o:Obj}{us vs:Array a7}{Q:Unit->aT->Prop}{fl:a7}
end
section
variable {X:Cx}{E:XK}{N' caps:List Str}{scope sc:oB}{cl:List (Str×Addr)}{C:Addr}{sE:aT}{HE:Hp}{fp:List Addr}{π:Zo}
end
section
variable {X:Cx}{Cm:Cx->Prop}{E:XK}{tg iter elt:Expr}{ifs:List Expr}{sc scope:oB}{caps N':List Str}{cap:List Nat}{k:Nat}{wi:TI}{g:TG}{tt:TT}{te:TE}{pos:Pos}
end
end Hd
namespace F
open PySem PySem.Spec PyProof.Rows L2 Hd
section
variable {X:Cx}{E:XK}{k:Nat}{cap:List Nat}{fi:Ze}{h:Zh}{ft:Zb}{fe:Zl}
section
variable {tg iter elt:Expr}{ifs:List Expr}{scope:oB}{pos:Pos}
end
end
section
variable {prog:bg}{w:cw}{A:eB}{E:Zv}{s:aT}
end
section
variable {X:Cx}{k:Nat}{es:List Expr}{hs:List D->Me->Option Me}{pos:Pos}
end
section
variable {X:Cx}{tg:Expr}
end
section
variable {G:Gx}{O:Za}{H H':Hp}{a:Addr}{ι:List (Key×V)}
end
section
variable {X:Cx}{π:Zo}{s:aT}{σ:L2.St}{H:Hp}{a:Addr}{ι:List (Key×V)}{o:Obj}
end
section
variable {G:Gx}{E:XK}{O0 M0:Za}{H0 H:Hp}{ow:Os}{a:Addr}{o:Obj}{ι:List (Key×V)}{W:Ends}
end
section
variable {X:Cx}{π:Zo}{s:aT}{σ:L2.St}{H:Hp}{a:Addr}{o:Obj}{u:HO}{vals:List V}
end
section
variable {X:Cx}{tg:Expr}
end
section
variable {X:Cx}{tg:Expr}
end
section
variable {prog:bg}{w:cw}{A:eB}{E:Zv}{s:aT}
end
section
variable {X:Cx}
end
section
variable {X:Cx}
end
section
variable {X:Cx}{E:XK}{o e:Expr}{es:List Expr}{fa:Zl}{fs:Ze}{apos χ:Pos}
end
section
variable {X:Cx}
end
section
variable {X:Cx}{E:XK}{b e:Expr}{fb f:Zl}{pos apos χ:Pos}
end
open PySem.AutoSeq1 (wpAny_loadPart')
open PySem.MeetsSeq PySem.MeetsSeq2 PySem.MeetsSeq3
section
variable {P:bg}{w:cw}{Ar:eB}{st:aT}
end
section
variable {X:Cx}
end
open PySem.AutoSeq1 (wpAny_loadPart')
section
variable {P:bg}{w:cw}{Ar:eB}{st:aT}
end
section
variable {X:Cx}{π:Zo}{s:aT}{σ:L2.St}{H:Hp}{O:Za}
end
open PySem.AutoSeq1 (wpAny_loadPart')
section
variable {prog:bg}{w:cw}{A:eB}{E:Zv}{s:aT}
end
section
variable {X:Cx}{E:XK}{e:Expr}{f:Zl}{pos p:Pos}
variable {lo hi:Option Expr}{fl fh:Me->Res (Option Int)}{p2:Pos}
end
def Iz (g:D->D->Option D)(fa fb:Me->Res (D×Me)):Me->Res (D×Me):=λm=>(fa m).bind λp=>(fb p.2).bind λq=>(ofO<|g p.1 q.1).bind λd=>.ok (d,q.2)
section
variable {X:Cx}{E:XK}{a b:Expr}{fa fb:Me->Res (D×Me)}{pos:Pos}
theorem RP {g:D->D->Option D}{op:Operator}(ho:OpR X (gp op) (rG (gx X) g))(ha:FX X E a fa)(hb:FX X E b fb):FX X E (.BinOp a op b pos) (Iz g fa fb):=
 bF (Dq ho ha hb) λσ H Q hE=>xq5 hE λO0 M0 H0 ow m R q=>⟨O0,M0,H0,ow,m,R,(Xs.bind (f:=λd m1=>(fb m1).bind λq=>(ofO<|g d q.1).bind λr=>.ok (r,q.2)) q).imp (Go.refl<|aD.refl _) λd H1 m1 R1 g1 e1 q v hv=>⟨O0,M0,H0,ow,m1,R1,?_⟩⟩
where finally
 refine(Xs.bind (f:=λy m2=>(ofO<|g d y).bind λr=>.ok (r,m2))<|q m1 e1 R1).imp (Go.refl<|aD.refl _) λy H2 m2 R2 g2 e2 q u hu=>?_;obtain⟨r,hr,k⟩:=(Xs.pu R2.toRel<|q m2 e2 R2).ofO;exact⟨Ow O0 ow,d,y,r,R2.mutk,.inl<|hv.go R1.mutk g2.ev,.inl hu,hr,λv H' g d=>k H' (R2.mono g) (Go.refl g) v d⟩
end
end F
namespace K10
open PySem L2 Hd F
abbrev stops:List Nat:=[32,40,41,44]
def sdS (s:Int):List Nat:=if s=1 then[49] else[50]
abbrev dlT:List Nat:=[100,101,97,108,32]
abbrev mvT:List Nat:=[109,111,118,101,32]
def hT:Option Int->List Nat->List Nat
 |none,n=>dlT++n
 |some s,n=>mvT++(sdS s++32::n)
def hD:Option Int->List Nat->D
 |none,n=>.tup [.str "deal",.str<|tx n]
 |some s,n=>.tup [.str "move",.int s,.str<|tx n]
def Led (Φ:Zf)(hd:Str)(c:List Nat)(d:D):Prop:=if hd = "deal" then ∃fr,Φ [.str<|tx c]=.ok (fr,d) else d=.str (tx c)
abbrev enT:List Nat:=[101,110,100,32]
def hN:Option Int->Str
 |none=>"deal"
 |some _=>"move"
mutual
inductive Gt where
 |fin (c:List Nat) (d:D)
 |nd (ho:Option Int) (n:List Nat) (ws:Wt)
inductive Wt where
 |one (c:List Nat) (d:D) (g:Gt)
 |more (c:List Nat) (d:D) (g:Gt) (r:Wt)
end
mutual
def tG:Gt->List Nat
 | .fin c _=>enT++c
 | .nd ho n ws=>hT ho n++40::(tW ws++[41])
def tW:Wt->List Nat
 | .one c _ g=>c++32::tG g
 | .more c _ g r=>c++32::(tG g++44::32::tW r)
end
def hP:Option Int->List Nat->List D
 |none,n=>[.str<|tx n]
 |some s,n=>[.int s,.str<|tx n]
theorem Ru (ho:Option Int)(n:List Nat):hD ho n=.tup (.str (hN ho)::hP ho n):=by cases ho<;>rfl
def clD (ho:Option Int)(n:List Nat)(ws:List D):D:=.tup (.str (hN ho)::hP ho n++[.tup ws])
mutual
def dGt:Gt->D
 | .fin _ d=>.tup [.str "end",d]
 | .nd ho n ws=>clD ho n<|dWt ws
def dWt:Wt->List D
 | .one _ d g=>[.tup [d,dGt g]]
 | .more _ d g r=>.tup [d,dGt g]::dWt r
end
section
variable (Φ Ψ:Zf)
mutual
def okG:Gt->Prop
 | .fin c d=>(∀x∈c,x∉stops)/\∃fr,Φ [.str<|tx c]=.ok (fr,d)
 | .nd ho n ws=>(∀s,ho=some s->s=1\/s=2)/\(∀x∈n,x∉stops)/\okW ho ws/\∃fr,Ψ [clD ho n<|dWt ws]=.ok (fr,.bl true)
def okW (ho:Option Int):Wt->Prop
 | .one c d g=>(∀x∈c,x∉stops)/\Led Φ (hN ho) c d/\okG g
 | .more c d g r=>(∀x∈c,x∉stops)/\Led Φ (hN ho) c d/\okG g/\okW ho r
end
end
abbrev nT:Xn:=("NoText",[],[])
def Rdb (Φ Ψ:Zf)(ds:List D)(g:Gt):Prop:=ds=[.str<|tx<|tG g]/\okG Φ Ψ g
def Qh (z:Str):Prop:=∃l:List Nat,z=tx l/\l.length<=100000/\∀x∈l,x<128
open Classical in
def zR (Φ Ψ:Zf):Zf
 |[.str z]=>if Qh z then(if h:∃g,Rdb Φ Ψ [.str z] g then .ok (false,dGt h.choose) else .exc nT) else .stuck
 |[d]=>if cH d = "" then .stuck else .exc nT
 |_=>.stuck
open PySem L2 Hd F Pk Lw
section
def jO:Str->Option Bool:=λc=>if c = "NoText" then some false else none
def gH:Str->Option Bool:=λc=>if c = "NoText" then some false else none
def jE:Str->Option Bool:=λc=>if c = "NoText" then some false else none
def lu:Str->Option Bool:=λc=>if c = "NoText" then some false else none
def gA:Str->Option Bool:=λc=>if c = "NoText" then some false else none
def jJ:Str->Option Bool:=λc=>if c = "NoText" then some true else none
def gO:Str->Option Bool:=λc=>if c = "NoText" then some false else none
def eV:Str->Option Bool:=λc=>if c = "NoText" then some true else none
def eE:Str->Bool:=λc=>c=="NoText"
def jo:Zg:=
 (bj (bM 1<|aU sr<|aa (aF gIx (aj 0)<|fC<|.int 0) aG)
 (bj (gIf (bK gEq (aF gIx (aj 0)<|fC<|.int 1)<|fC<|.int 1) (bH<|bW 1) gNx)
 (bj (bM 2<|aU sr<|aa (aF gIx (aj 0)<|fC<|.int 1) aG)
 (bH<|jn<|lg (fUn Hc<|aj 1)<|lg (fC<|.str "/")<|lg (fUn Hc<|aj 2) yt))))
def jf:Zg:=
 jo
def fJ:Zf:=bY 3 1 jf
def iU:Zl:=
 (gQ gIn (aj 0)<|fC<|.str "0123456789")
def mG:Zl:=
 (gW 1 [] (KY<|bW 0) (hName 0) pq iU)
def dY (l_2:Zl):Zg:=
 (bH<|jT (iR gLe gLe (fC<|.int 1) (aU cT<|aa (aj 0) aG)<|fC<|.int 30)<|aU vJ<|aa l_2 aG)
def oG:Zg:=
 (dY mG)
def dZ:Zf:=bY 1 1 oG
def b8 (φ_lowest:Zf)(φ_show_ratio:Zf)(φ_are_figures:Zf):Zg:=
 (bj (gIf (cz<|fTv<|gn "str" (aj 0)) (lO "NoText" (fM<|fC<|.str "a fraction is read from a text")) gNx)
 (bj (bM 1<|fU "str" ir (aj 0) (aa (fC<|.str "/") aG))
 (bj (bM 2<|aF gIx (aj 1)<|fC<|.int 0)
 (bj (bM 3<|fIf (bK gEq (aF gIx (aj 1)<|fC<|.int 1)<|fC<|.str "/") (aF gIx (aj 1)<|fC<|.int 2)<|fC<|.str "1")
 (bj (bM 4<|fIf (fTv<|fU "str" gR (aj 2) (aa (fC<|.str "-") aG)) (fSl (aj 2) (fO1<|fC<|.int 1) fO0)<|bW 2)
 (bj (gIf (dN (cz<|fTv<|fFn φ_are_figures<|aa (bW 4) aG)<|dN (cz<|fTv<|fFn φ_are_figures<|aa (bW 3) aG)<|bK gEq (aU jQ<|aa (aj 3) aG)<|fC<|.int 0) (lO "NoText" (fM<|jn<|lg (fUn rA<|aj 0)<|lg (fC<|.str " is no fraction") yt)) gNx)
 (bj (bM 5<|fFn φ_lowest<|aa (aU jQ<|aa (aj 2) aG)<|aa (aU jQ<|aa (aj 3) aG) aG)
 (bj (gIf (bK gNe (fFn φ_show_ratio<|aa (bW 5) aG)<|aj 0) (lO "NoText" (fM<|jn<|lg (fUn rA<|aj 0)<|lg (fC<|.str " is not how its fraction is shown") yt)) gNx)
 (bH<|bW 5)))))))))
def qt:Zg:=
 (b8 jB fJ dZ)
def bu:Zf:=bY 6 1 qt
def mY:Zl:=
 (gQ gIn (aj 0)<|fC<|.str "abcdefghijklmnopqrstuvwxyz0123456789")
def mZ:Zl:=
 (gW 1 [] (KY<|bW 0) (hName 0) pq mY)
def ju (l_2:Zl):Zg:=
 (bj (gIf (cz<|fTv<|gn "str" (aj 0)) (bH<|fC<|.bl false) gNx)
 (bH<|jT (iR gLe gLe (fC<|.int 1) (aU cT<|aa (aj 0) aG)<|fC<|.int 8)<|aU vJ<|aa l_2 aG))
def wQ:Zg:=
 (ju mZ)
def iC:Zf:=bY 1 1 wQ
def j8:Zl:=
 (fFn nO<|aa (bW 0) aG)
def j7:Zl:=
 (gW 1 [] (Bf<|bW 0) (hName 0) pq j8)
def jU (l_2:Zl):Zg:=
 (bH<|jT (gn "tuple" (aj 0))<|jT (iR gLe gLe (fC<|.int 1) (aU cT<|aa (aj 0) aG)<|aj 1)<|aU vJ<|aa l_2 aG)
def jX:Zg:=
 (jU j7)
def cX:Zf:=bY 2 2 jX
def yW (φ_is_ratio:Zf):Zg:=
 (bH<|jT (gQ gEq (aU cT<|aa (aj 0) aG)<|fC<|.int 2)<|fFn φ_is_ratio<|aa (aF gIx (aj 0)<|fC<|.int 1) aG)
def Ac:Zg:=
 (yW eY)
def uK:Zf:=bY 1 1 Ac
def nH:Zl:=
 (fFn eY<|aa (bW 0) aG)
def mX:Zl:=
 (gW 2 [] (Bf<|aF gIx (aj 0)<|fC<|.int 2) (Px 2<|vg (hName 0)<|vg (hName 1) O7) pq nH)
def qW (φ_is_name:Zf)(φ_are_pairs:Zf)(l_2:Zl):Zg:=
 (bj (gIf (dN (bK gNe (aU cT<|aa (aj 0) aG)<|fC<|.int 3)<|dN (cz<|fTv<|fFn φ_is_name<|aa (aF gIx (aj 0)<|fC<|.int 1) aG)<|cz<|fTv<|fFn φ_are_pairs<|aa (aF gIx (aj 0)<|fC<|.int 2)<|aa (fC<|.int 64) aG) (bH<|fC<|.bl false) gNx)
 (bH<|aU vJ<|aa l_2 aG))
def qX:Zg:=
 (qW iC cX mX)
def kO:Zf:=bY 1 1 qX
def m9:Zl:=
 (gW 2 [] (Bf<|aF gIx (aj 0)<|fC<|.int 3) (Px 2<|vg (hName 0)<|vg (hName 1) O7) pq<|bW 0)
def nJ:Zl:=
 (fFn iC<|aa (bW 0) aG)
def nG:Zl:=
 (gW 1 [] (Cj<|aj 1) (hName 0) pq nJ)
def lB (φ_is_whole:Zf)(φ_is_name:Zf)(φ_are_pairs:Zf)(l_1:Zl)(l_3:Zl):Zg:=
 (bj (gIf (dN (bK gNe (aU cT<|aa (aj 0) aG)<|fC<|.int 4)<|dN (cz<|fTv<|fFn φ_is_whole<|aa (aF gIx (aj 0)<|fC<|.int 1) aG)<|bK Ho (aF gIx (aj 0)<|fC<|.int 1)<|rW<|aa (fC<|.int 1)<|aa (fC<|.int 2) aG) (bH<|fC<|.bl false) gNx)
 (bj (gIf (dN (cz<|fTv<|fFn φ_is_name<|aa (aF gIx (aj 0)<|fC<|.int 2) aG)<|cz<|fTv<|fFn φ_are_pairs<|aa (aF gIx (aj 0)<|fC<|.int 3)<|aa (fC<|.int 6) aG) (bH<|fC<|.bl false) gNx)
 (bj (bM 1 l_1)
 (bH<|jT (aU vJ<|aa l_3 aG)<|gQ gEq (aU qj<|aa (aj 1) aG)<|aU cT<|aa (aj 1) aG))))
def lz:Zg:=
 (lB fY iC cX m9 nG)
def gY:Zf:=bY 2 1 lz
def jY (φ_is_end:Zf)(φ_is_deal:Zf)(φ_is_move:Zf):Zg:=
 (bj (gIf (dN (cz<|fTv<|gn "tuple" (aj 0))<|dN (bK gEq (aU cT<|aa (aj 0) aG)<|fC<|.int 0)<|cz<|fTv<|gn "str" (aF gIx (aj 0)<|fC<|.int 0)) (bH<|fC<|.bl false) gNx)
 (bj (gIf (bK gEq (aF gIx (aj 0)<|fC<|.int 0)<|fC<|.str "end") (bH<|fFn φ_is_end<|aa (bW 0) aG) gNx)
 (bj (gIf (bK gEq (aF gIx (aj 0)<|fC<|.int 0)<|fC<|.str "deal") (bH<|fFn φ_is_deal<|aa (bW 0) aG) gNx)
 (bH<|jT (gQ gEq (aF gIx (aj 0)<|fC<|.int 0)<|fC<|.str "move")<|fFn φ_is_move<|aa (bW 0) aG))))
def j6:Zg:=
 (jY uK kO gY)
def bJ:Zf:=bY 1 1 j6
def jN:Zf:=zR bu bJ
def dM:Zg:=
 (yu 1<|aF dG (aF uZ (aF aY (aF aY (aF aY (aF dG (aF gIx (aj 0)<|aj 2)<|fC<|.int 1000000007)<|aF uZ (aF uZ (fC<|.int 47)<|aj 2)<|aj 2)<|aF uZ (fC<|.int 19)<|aj 2)<|fC<|.int 5)<|fC<|.int 39373)<|fC<|.int 1000003)
def iy:Zg:=
 (yj (qy<|aa (aU cT<|aa (fSl (aj 0) fO0<|fO1<|fC<|.int 12) aG) aG) (hName 2) dM)
def gC (l_2:Zg):Zg:=
 (bj (xH 1<|dq aG)
 (bj l_2
 (yO 1)))
def mW:Zg:=
 (gC iy)
def gD:Zf:=bY 3 1 mW
def kh:Zl:=
 (aF gIx (aj 1)<|aF dG (aF aY (aF iz (aj 2)<|aF aY (aj 0)<|fC<|.int 1)<|aF uZ (aF uZ (aj 0)<|aj 0)<|fC<|.int 5)<|fC<|.int 36)
def oU:Zl:=
 (gW 1 [1,0] (qy<|aa (aF aY (fC<|.int 1)<|aF dG (aj 0)<|fC<|.int 8) aG) (hName 0) pq kh)
def mV (l_2:Zl):Zg:=
 (bj (bM 1<|fC<|.str "abcdefghijklmnopqrstuvwxyz0123456789")
 (bH<|fU "str" jc (fC<|.str "") (aa l_2 aG)))
def nj:Zg:=
 (mV oU)
def gj:Zf:=bY 2 1 nj
def gB (Φ:List D->List D->Res (D×List D)):Zg:=
 (bj (bM 7<|aF gIx (dq<|aa (fC<|.str "1/3")<|aa (aF aY (fC<|.str "b")<|aU sr<|aa (aj 6) aG) aG)<|aU jQ<|aa (gQ gGt (aF dG (aj 3)<|fC<|.int 6)<|fC<|.int 2) aG)
 (vm 5<|Iz aY (fX<|aF aY (aj 7)<|fC<|.str " ")<|UJ Φ 0<|aa (aF HH (aj 1)<|fC<|.int 1)<|aa (aF gIx (dq<|aa (bW 2)<|aa (fC<|.str "") aG)<|aU jQ<|aa (gQ gGt (aj 6)<|fC<|.int 0) aG) aG))
def gF (Φ:List D->List D->Res (D×List D)):Zg:=
 (yj (qy<|aa (aj 4) aG) (hName 6)<|gB Φ)
def jk (φ__law_name:Zf)(l_2:Zg):Zg:=
 (bj (bM 3<|fC<|.int 0)
 (bj (gIf (bK gGt (aU cT<|aa (aj 0) aG)<|fC<|.int 0) (jV 3 0) gNx)
 (bj (gIf (dN (bK gEq (aj 1)<|fC<|.int 0)<|dN (bK gEq (aU cT<|aa (aj 0) aG)<|fC<|.int 0)<|bK gEq (aF dG (aj 3)<|fC<|.int 6)<|fC<|.int 0) (bH<|aF gIx (dq<|aa (bW 2)<|aa (aF aY (fC<|.str "end ")<|aU sr<|aa (aF HH (aF dG (aF iz (aj 3)<|fC<|.int 6)<|fC<|.int 23)<|fC<|.int 11) aG) aG)<|aU jQ<|aa (gQ gEq (aj 2)<|fC<|.str "") aG) gNx)
 (bj (bM 4<|aF aY (fC<|.int 1)<|aF dG (aF iz (aj 3)<|fC<|.int 6)<|fC<|.int 3)
 (bj (xH 5<|dq aG)
 (bj l_2
 (bj (gIf (bK gLt (aF dG (aj 3)<|fC<|.int 6)<|fC<|.int 3) (bH<|aF aY (aF aY (aF aY (aF aY (fC<|.str "deal ")<|fFn φ__law_name<|aa (aF iz (aj 3)<|fC<|.int 2) aG)<|fC<|.str "(")<|fU "str" jc (fC<|.str ", ") (aa (aj 5) aG))<|fC<|.str ")") gNx)
 (bH<|aF aY (aF aY (aF aY (aF aY (aF aY (aF aY (fC<|.str "move ")<|aU sr<|aa (aF aY (fC<|.int 1)<|aF dG (aF iz (aj 3)<|fC<|.int 3)<|fC<|.int 2) aG)<|fC<|.str " ")<|fFn φ__law_name<|aa (aF iz (aj 3)<|fC<|.int 5) aG)<|fC<|.str "(")<|fU "str" jc (fC<|.str ", ") (aa (aj 5) aG))<|fC<|.str ")"))))))))
def cL:Nat->List D->List D->Res (D×List D)
 |0=>λ_ _=>.stuck
 |n+1=>jb 8 3
   (jk gj<|gF<|cL n)
def qJ:Zl:=
 (aF aY (aF aY (fC<|.str "a")<|aU sr<|aa (aj 0) aG)<|fC<|.str " end 1")
def kY:Zl:=
 (gW 1 [] (qy<|aa (fC<|.int 7) aG) (hName 0) pq qJ)
def jD (l_2:Zl):Zg:=
 (bj (bM 1<|dq<|aa (fC<|.str "end 2/4")<|aa (fC<|.str "end")<|aa (fC<|.str "end ")<|aa (fC<|.str "end 01")<|aa (fC<|.str "end 1/0")<|aa (fC<|.str "end +1")<|aa (fC<|.str "end --1")<|aa (fC<|.str "end 1 ")<|aa (fC<|.str "end  1")<|aa (fC<|.str "End 1") aG)
 (bj (bM 1<|aF aY (aj 1)<|dq<|aa (fC<|.str "fin 1")<|aa (fC<|.str "1") aG)
 (bj (bM 1<|aF aY (aj 1)<|dq<|aa (fC<|.str "move 3 s(a end 1)")<|aa (fC<|.str "move 1 (a end 1)")<|aa (fC<|.str "move 1 abcdefghi(a end 1)")<|aa (fC<|.str "move 1 s()") aG)
 (bj (bM 1<|aF aY (aj 1)<|dq<|aa (fC<|.str "move 1 s(a end 1") aG)
 (bj (bM 1<|aF aY (aj 1)<|dq<|aa (fC<|.str "move 1 s(a end 1,b end 1)")<|aa (fC<|.str "move 1 s(a end 1, a end 1)")<|aa (fC<|.str "move 1 s(a end 1,  b end 1)") aG)
 (bj (bM 1<|aF aY (aj 1)<|dq<|aa (fC<|.str "move s(a end 1)") aG)
 (bj (bM 1<|aF aY (aj 1)<|dq<|aa (fC<|.str "deal d(1 end 1, )")<|aa (fC<|.str "deal D(1 end 1)")<|aa (fC<|.str "deal d(1/1 end 1)")<|aa (fC<|.str "deal d(end 1)")<|aa (fC<|.str "deal d(a end 1)") aG)
 (bj (bM 1<|aF aY (aj 1)<|dq<|aa (fC<|.str "deal d") aG)
 (bj (bM 1<|aF aY (aj 1)<|dq<|aa (fC<|.str "move 1 s(abcdefghi end 1)")<|aa (fC<|.str "deal abcdefghi(1 end 1)")<|aa (fC<|.str "move 1 s (a end 1)")<|aa (fC<|.str "deal d_(1 end 1)") aG)
 (bj (bM 1<|aF aY (aj 1)<|dq<|aa (aF aY (aF aY (fC<|.str "deal d(")<|fU "str" jc (fC<|.str ", ") (aa (aF KQ (dq<|aa (fC<|.str "1/65 end 1") aG)<|fC<|.int 65) aG))<|fC<|.str ")") aG)
 (bj (bM 1<|aF aY (aj 1)<|dq<|aa (fC<|.str "deal d(2/4 end 1)")<|aa (fC<|.str "deal d(01 end 1)")<|aa (fC<|.str "move 1 s(a end 1, b end 1, a end 1)") aG)
 (bj (bM 1<|aF aY (aj 1)<|dq<|aa (aF aY (aF aY (fC<|.str "deal d(")<|aF Fz (fC<|.str "1")<|fC<|.int 31)<|fC<|.str " end 1)")<|aa (aF aY (fC<|.str "end ")<|aF Fz (fC<|.str "1")<|fC<|.int 31) aG)
 (bj (bM 2<|fU "str" jc (fC<|.str ", ") (aa l_2 aG))
 (bH<|aF gIx (aF aY (aj 1)<|dq<|aa (aF aY (aF aY (fC<|.str "move 2 s(")<|aj 2)<|fC<|.str ")")<|aa (fC<|.str "move 2 s(A end 1)")<|aa (fC<|.str "deal d (1 end 1)") aG)<|aF dG (aj 0)<|fC<|.int 40))))))))))))))
def mL:Zg:=
 (jD kY)
def cM:Zf:=bY 3 1 mL
def jG:Zg:=
 (bj (bM 2<|aF dG (aF iz (aj 1)<|fC<|.int 7)<|aU cT<|aa (aj 0) aG)
 (bj (bM 3<|aF gIx (fC<|.str "AZ_.+#~!:;=")<|aF dG (aF iz (aF iz (aj 1)<|fC<|.int 7)<|aU cT<|aa (aj 0) aG)<|fC<|.int 11)
 (bj (bM 4<|dq<|aa (aF aY (aj 0)<|fC<|.str " ")<|aa (aF aY (fC<|.str " ")<|aj 0)<|aa (aF aY (aj 0)<|fC<|.str ")")<|aa (aF aY (aF aY (fSl (aj 0) fO0<|fO1<|aj 2)<|fC<|.str "(")<|fSl (aj 0) (fO1<|aj 2) fO0)<|aa (aF aY (aF aY (fSl (aj 0) fO0<|fO1<|aj 2)<|aj 3)<|fSl (aj 0) (fO1<|aj 2) fO0)<|aa (aF aY (aj 0)<|fC<|.str ", ") aG)
 (bH<|aF gIx (aF aY (aj 4)<|dq<|aa (aF aY (aF aY (fSl (aj 0) fO0<|fO1<|aj 2)<|fC<|.str ")")<|fSl (aj 0) (fO1<|aj 2) fO0) aG)<|aF dG (aj 1)<|fC<|.int 7))))
def jC:Zg:=
 jG
def cN:Zf:=bY 5 2 jC
def gr (φ_read:Zf):Zg:=
 (bj (bM 1<|dq aG)
 (bj (Ln 2 (eE) (yw φ_read<|aa (bW 0) aG) (bj (bM 1<|dq<|aa (xO jJ<|aj 2)<|aa (Fx eV<|aj 2)<|aa (xO gH<|aj 2)<|aa (xO jE<|aj 2) aG)
 (bM 1<|aF aY (aj 1)<|dq<|aa (xO lu<|aj 2)<|aa (xO jO<|aj 2)<|aa (xO gO<|aj 2)<|aa (xO gA<|aj 2) aG)))
 (bH<|gQ gEq (aj 1)<|dq<|aa (fC<|.bl true)<|aa (fC<|.bl true)<|aa (fC<|.bl false)<|aa (fC<|.bl false)<|aa (fC<|.bl false)<|aa (fC<|.bl false)<|aa (fC<|.bl false)<|aa (fC<|.bl false) aG)))
def mU:Zg:=
 (gr jN)
def bG:Zf:=bY 3 1 mU
def pR:Zg:=
 (bj (bM 4<|aF dG (aF uZ (aF dG (aj 3)<|fC<|.int 1000000007)<|fC<|.int 48271)<|fC<|.int 1000003)
 (bj (bM 5<|K8 (cL 30) (aU yM<|aa (aj 1) aG)<|aa (fC<|.int 4)<|aa (fFn cM<|aa (aF iz (aj 4)<|fC<|.int 3) aG) aG)
 (bj (gIf (dN (cz<|fTv<|fFn bG<|aa (bW 5) aG)<|dN (cz<|fTv<|fFn bG<|aa (fFn cN<|aa (bW 2)<|aa (bW 4) aG) aG)<|cz<|fTv<|fFn bG<|aa (fFn cM<|aa (bW 4) aG) aG) (bH<|fC<|.bl false) gNx)
 (gIf (cz<|fTv<|fFn bG<|aa (aF gIx (dq<|aa (fC .non)<|aa (fC<|.int 5)<|aa (fC<|.bl true)<|aa (dq<|aa (bW 2) aG)<|aa (rW<|aa (bW 2) aG)<|aa KC<|aa (rW<|aa (fC<|.str "end")<|aa (rW<|aa (fC<|.int 1)<|aa (fC<|.int 1) aG) aG)<|aa (dq<|aa (fC<|.str "end 1") aG) aG)<|aF dG (aj 4)<|fC<|.int 8) aG) (bH<|fC<|.bl false) gNx))))
def DY:Zg:=
 (yj (Cj<|aF aY (fSl (aj 0) (fO1<|fC<|.int 12)<|fO1<|fC<|.int 24)<|dq<|aa (aU cT<|aa (aj 0) aG) aG) (hName 3) pR)
def Ed (φ_read:Zf)(φ__law_numbers:Zf)(φ__law_grown:List D->List D->Res (D×List D))(l_2:Zg):Zg:=
 (bj (bM 1<|fFn φ__law_numbers<|aa (bW 0) aG)
 (bj (bM 2<|K8 φ__law_grown (aU yM<|aa (aj 1) aG)<|aa (fC<|.int 4)<|aa (fC<|.str "") aG)
 (bj (gIf (cz<|fTv<|gn "tuple" (fFn φ_read<|aa (bW 2) aG)) (bH<|fC<|.bl false) gNx)
 (bj l_2
 (bH<|gn "tuple" (fFn φ_read<|aa (bW 2) aG))))))
def QZ:Zg:=
 (Ed jN gD (cL 30) DY)
def Rb:Zf:=bY 6 1 QZ
end
def clsAt (s:Stmt)(j:Nat):Stmt:=match s with
 | .ClassDef _ _ _ b ..=>b.getD j<|.Pass ⟨0,0,0,0⟩
 |_=>.Pass ⟨0,0,0,0⟩
noncomputable def top (i:Nat):Stmt:=PySem.Challenge.pw_hushduel_k10_no_text_of_a_game.main.body.getD i<|.Pass ⟨0,0,0,0⟩
theorem vC:cf "ValueError" = some (.type "ValueError"):=by decide +kernel
theorem Iu:cf "abs" = some (.builtin "abs"):=by decide +kernel
theorem uf:cf "all" = some (.builtin "all"):=by decide +kernel
theorem Np:cf "bool" = some (.type "bool"):=by decide +kernel
theorem pJ:cf "int" = some (.type "int"):=by decide +kernel
theorem aZ:cf "isinstance" = some (.builtin "isinstance"):=by decide +kernel
theorem fO:cf "len" = some (.builtin "len"):=by decide +kernel
theorem Fj:cf "list" = some (.type "list"):=by decide +kernel
theorem Il:cf "set" = some (.type "set"):=by decide +kernel
theorem jM:cf "str" = some (.type "str"):=by decide +kernel
theorem iQ:cf "tuple" = some (.type "tuple"):=by decide +kernel
structure Bt (mg:Zs):Prop where
 ValueError:mg "ValueError" = none
 abs:mg "abs" = none
 all:mg "all" = none
 bool:mg "bool" = none
 int:mg "int" = none
 isinstance:mg "isinstance" = none
 len:mg "len" = none
 list:mg "list" = none
 range:mg "range" = none
 set:mg "set" = none
 str:mg "str" = none
 tuple:mg "tuple" = none
structure CnT (K:av)(mg:Zs):Prop where
 FIGURES:∃v u,mg "FIGURES" = some u/\RelV v u/\∀O H,DV ⟨K,mg⟩ O H v (.str "0123456789")
 MOST_FIGURES:∃v u,mg "MOST_FIGURES" = some u/\RelV v u/\∀O H,DV ⟨K,mg⟩ O H v (.int 30)
 NAME_SIGNS:∃v u,mg "NAME_SIGNS" = some u/\RelV v u/\∀O H,DV ⟨K,mg⟩ O H v (.str "abcdefghijklmnopqrstuvwxyz0123456789")
 MOST_SIGNS:∃v u,mg "MOST_SIGNS" = some u/\RelV v u/\∀O H,DV ⟨K,mg⟩ O H v (.int 8)
 MOST_DEALT:∃v u,mg "MOST_DEALT" = some u/\RelV v u/\∀O H,DV ⟨K,mg⟩ O H v (.int 64)
 MOST_WORDS:∃v u,mg "MOST_WORDS" = some u/\RelV v u/\∀O H,DV ⟨K,mg⟩ O H v (.int 6)
 STOPS:∃v u,mg "STOPS" = some u/\RelV v u/\∀O H,DV ⟨K,mg⟩ O H v (.str " (),")
theorem Ah {X:Cx}{E:XK}{pos:Pos}(Cn:CnT X.K X.mg)(hg:Gl X "FIGURES"):FE X E (.Name "FIGURES" pos) (fC<|.str "0123456789"):=by
 obtain⟨v,u,h1,h2,h3⟩:=Cn.FIGURES;exact nR hg h1 h2 h3
theorem rZ {X:Cx}{E:XK}{pos:Pos}(Cn:CnT X.K X.mg)(hg:Gl X "MOST_FIGURES"):FE X E (.Name "MOST_FIGURES" pos) (fC<|.int 30):=by
 obtain⟨v,u,h1,h2,h3⟩:=Cn.MOST_FIGURES;exact nR hg h1 h2 h3
theorem vB {X:Cx}{E:XK}{pos:Pos}(Cn:CnT X.K X.mg)(hg:Gl X "NAME_SIGNS"):FE X E (.Name "NAME_SIGNS" pos) (fC<|.str "abcdefghijklmnopqrstuvwxyz0123456789"):=by
 obtain⟨v,u,h1,h2,h3⟩:=Cn.NAME_SIGNS;exact nR hg h1 h2 h3
theorem vK {X:Cx}{E:XK}{pos:Pos}(Cn:CnT X.K X.mg)(hg:Gl X "MOST_SIGNS"):FE X E (.Name "MOST_SIGNS" pos) (fC<|.int 8):=by
 obtain⟨v,u,h1,h2,h3⟩:=Cn.MOST_SIGNS;exact nR hg h1 h2 h3
theorem vL {X:Cx}{E:XK}{pos:Pos}(Cn:CnT X.K X.mg)(hg:Gl X "MOST_DEALT"):FE X E (.Name "MOST_DEALT" pos) (fC<|.int 64):=by
 obtain⟨v,u,h1,h2,h3⟩:=Cn.MOST_DEALT;exact nR hg h1 h2 h3
theorem vN {X:Cx}{E:XK}{pos:Pos}(Cn:CnT X.K X.mg)(hg:Gl X "MOST_WORDS"):FE X E (.Name "MOST_WORDS" pos) (fC<|.int 6):=by
 obtain⟨v,u,h1,h2,h3⟩:=Cn.MOST_WORDS;exact nR hg h1 h2 h3
structure ExT (K:av)(mg:Zs):Prop where
 NoText:∃C,mg "NoText" = some (.ref C)/\xi K C [.type "ValueError",.type "Exception",.type "BaseException",.type "object"] "ValueError.__new__" = true
structure XcT (K:av)(mg:Zs):Prop where
 c_DuelError:∃C,mg "DuelError" = some (.ref C)/\∀c D,eE c=true->mg c=some (.ref D)->uS K (.ref D) (.ref C)=some true
 i_NoName:ICl K mg "NoName" jO
 i_NoNumber:ICl K mg "NoNumber" gH
 i_NoPlan:ICl K mg "NoPlan" jE
 i_NoRow:ICl K mg "NoRow" lu
 i_NoShares:ICl K mg "NoShares" gA
 i_NoText:ICl K mg "NoText" jJ
 i_TooGreat:ICl K mg "TooGreat" gO
 i_ValueError:mg "ValueError" = none/\∀c D b,eV c=some b->mg c=some (.ref D)->XC K D/\d4 K (.ref D) (.type "ValueError")=some b
abbrev o6:Stmt:=top 12
theorem Cr:bB ["thing"] ["thing"] (aL o6):=⟨rfl,rfl,rfl,by decide +kernel,rfl,by decide +kernel,by decide +kernel⟩
abbrev iB:Stmt:=top 13
theorem cZ:bB ["first", "second", "great", "small", "rest"] ["first", "second"] (aL iB):=⟨rfl,rfl,rfl,by decide +kernel,rfl,by decide +kernel,by decide +kernel⟩
abbrev tR:Stmt:=top 14
theorem uY:bB ["top", "bottom", "divisor"] ["top", "bottom"] (aL tR):=⟨rfl,rfl,rfl,by decide +kernel,rfl,by decide +kernel,by decide +kernel⟩
abbrev pF:Stmt:=top 15
theorem BJ:bB ["thing"] ["thing"] (aL pF):=⟨rfl,rfl,rfl,by decide +kernel,rfl,by decide +kernel,by decide +kernel⟩
abbrev lR:Stmt:=top 16
theorem lY:bB ["first", "top", "bottom"] ["first"] (aL lR):=⟨rfl,rfl,rfl,by decide +kernel,rfl,by decide +kernel,by decide +kernel⟩
abbrev iD:Stmt:=top 17
theorem vo:bB ["text"] ["text"] (aL iD):=⟨rfl,rfl,rfl,by decide +kernel,rfl,by decide +kernel,by decide +kernel⟩
abbrev lZ:Stmt:=top 18
theorem fG:bB ["text", "halves", "top", "bottom", "bare", "result"] ["text"] (aL lZ):=⟨rfl,rfl,rfl,by decide +kernel,rfl,by decide +kernel,by decide +kernel⟩
abbrev n8:Stmt:=top 24
theorem Hg:bB ["thing"] ["thing"] (aL n8):=⟨rfl,rfl,rfl,by decide +kernel,rfl,by decide +kernel,by decide +kernel⟩
abbrev qF:Stmt:=top 25
theorem Hb:bB ["thing"] ["thing"] (aL qF):=⟨rfl,rfl,rfl,by decide +kernel,rfl,by decide +kernel,by decide +kernel⟩
abbrev j5:Stmt:=top 26
theorem yQ:bB ["thing", "most"] ["thing", "most"] (aL j5):=⟨rfl,rfl,rfl,by decide +kernel,rfl,by decide +kernel,by decide +kernel⟩
abbrev vh:Stmt:=top 27
theorem Lh:bB ["thing"] ["thing"] (aL vh):=⟨rfl,rfl,rfl,by decide +kernel,rfl,by decide +kernel,by decide +kernel⟩
abbrev nW:Stmt:=top 28
theorem Hz:bB ["thing"] ["thing"] (aL nW):=⟨rfl,rfl,rfl,by decide +kernel,rfl,by decide +kernel,by decide +kernel⟩
abbrev kZ:Stmt:=top 29
theorem wy:bB ["thing", "words"] ["thing"] (aL kZ):=⟨rfl,rfl,rfl,by decide +kernel,rfl,by decide +kernel,by decide +kernel⟩
abbrev nC:Stmt:=top 30
theorem zB:bB ["thing"] ["thing"] (aL nC):=⟨rfl,rfl,rfl,by decide +kernel,rfl,by decide +kernel,by decide +kernel⟩
abbrev uH:Stmt:=top 41
abbrev jK:Stmt:=top 44
theorem jx:bB ["_law_script", "_law_found", "_law_k"] ["_law_script"] (aL jK):=⟨rfl,rfl,rfl,by decide +kernel,rfl,by decide +kernel,by decide +kernel⟩
abbrev jW:Stmt:=top 45
theorem rJ:bB ["_law_x", "_law_signs"] ["_law_x"] (aL jW):=⟨rfl,rfl,rfl,by decide +kernel,rfl,by decide +kernel,by decide +kernel⟩
abbrev lM:Stmt:=top 46
theorem dU:bB ["_law_xs", "_law_deep", "_law_part", "_law_x", "_law_many", "_law_ways", "_law_k", "_law_label"] ["_law_xs", "_law_deep", "_law_part"] (aL lM):=⟨rfl,rfl,rfl,by decide +kernel,rfl,by decide +kernel,by decide +kernel⟩
abbrev gJ:Stmt:=top 47
theorem bD:bB ["_law_x", "_law_some", "_law_seven"] ["_law_x"] (aL gJ):=⟨rfl,rfl,rfl,by decide +kernel,rfl,by decide +kernel,by decide +kernel⟩
abbrev jL:Stmt:=top 48
theorem gq:bB ["_law_text", "_law_x", "_law_at", "_law_sign", "_law_some"] ["_law_text", "_law_x"] (aL jL):=⟨rfl,rfl,rfl,by decide +kernel,rfl,by decide +kernel,by decide +kernel⟩
abbrev jH:Stmt:=top 49
theorem eZ:bB ["_law_thing", "_law_words", "e"] ["_law_thing"] (aL jH):=⟨rfl,rfl,rfl,by decide +kernel,rfl,by decide +kernel,by decide +kernel⟩
abbrev wR:Stmt:=top 50
theorem wz:bB ["_law_script", "_law_numbers_here", "_law_text", "_law_cell", "_law_x", "_law_bad"] ["_law_script"] (aL wR):=⟨rfl,rfl,rfl,by decide +kernel,rfl,by decide +kernel,by decide +kernel⟩
end K10
namespace F
open PySem PySem.Spec PyProof.Rows L2 Hd
theorem Cq {X:Cx}:MtR X "str.startswith" (λx vs H Q=>∃z y i,x=.str z/\vs=[.str y,.int i]/\Q (.bl<|kv z y i) H):=by
 intro π s σ H x vs v us Q I rx rv h;obtain⟨z,y,i,rfl,rfl,q⟩:=h;obtain⟨t,rfl⟩:=rx;cases rv with
 |cons r1 rv=>
  cases rv with
  |cons r2 rv=>
   cases rv;obtain⟨t1,rfl⟩:=r1;obtain⟨t2,rfl⟩:=r2;exact SC.startswith3 ⟨.bl _,H,I,rfl,q⟩
theorem Qy {X:Cx}:SlR X (λx lo hi H Q=>∃z,x=.str z/\z.length<=be/\Q (.str<|h7 z lo hi) H):=by
 intro π s σ H x v vl vu lo hi sl Q I rx hs pl pu h;obtain⟨z,rfl,hz,q⟩:=h;obtain⟨t,rfl⟩:=rx;obtain⟨l,rfl,rfl⟩:=wW pl;obtain⟨u,rfl,rfl⟩:=wW pu;exact⟨"str",_,oT.lookup,oD _ _ _,wpAny_getItem_str_slice (l:=l) (u:=u) (st:=none) hs rfl<|post_val_or_str ⟨cm (Txt.slice_le z _ _) hz,λt' k=>⟨.str _,H,I.tok _,⟨t',rfl⟩,q⟩⟩⟩
def KDict (w:cw)(K:av)(a:Addr):Prop:=∃es n,K.lookup a=some ⟨.type "dict",none,.dict es n,#[]⟩/\W.KeysLit w.params es.toList/\(a==mo)=false
theorem zA {X:Cx}:IxR X (λx y H Q=>∃z a v u,x=.ref a/\y=.str z/\KDict X.w X.K a/\ff X.K a z=some (some u)/\RelV v u/\Q v H):=by
 intro value slice π s σ H x y vx vy Q I rx ry h hs;obtain⟨z,a,v,u,rfl,rfl,⟨es,n,hl,hk,_⟩,e,ru,q⟩:=h;obtain rfl:vx=cS a:=rx;obtain⟨t,rfl⟩:=ry;have hm:=W.mapOf_K (prog:=X.prog) (w:=X.w) I.kIn hl hk;exact tail_any hm.typeIs slot_dict_getitem.lookup (wpAny_getItem_of (vv X.prog X.w z t) hm (W.find_K hl e) ⟨v,H,I.tok _,ru,q⟩) hs
theorem Dn {X:Cx}:OpR X (dk .NotIn) (λx y H Q=>∃z a r,x=.str z/\y=.ref a/\KDict X.w X.K a/\ff X.K a z=some r/\Q (.bl !r.isSome) H):=by
 intro π s σ H x y vx vy Q I rx ry h;obtain⟨z,a,r,rfl,rfl,⟨es,n,hl,hk,lo⟩,e,q⟩:=h;obtain rfl:vy=cS a:=ry;obtain⟨t,rfl⟩:=rx;have hm:=W.mapOf_K (prog:=X.prog) (w:=X.w) I.kIn hl hk;refine wpAny_notIn_of (vv X.prog X.w z t) lo hm ?_;rw[W.find_K hl e];exact⟨.bl _,H,I.tok _,rfl,q⟩
def tMt (mg:Zs)(c m:Str)(sp:Sp)(E:XK)(ta:TE)(t:TA):TE:=λσ H Q=>ta σ H λx H1=>∃a C dx fs,x=.ref a/\mg c=some (.ref C)/\H1 a=some (.ins C dx fs)/\fs.lookup m=none/\t σ H1 λvs H2=>sp (.ref a::vs) H2 Q E
section
variable {X:Cx}{E:XK}{o e:Expr}{es:List Expr}{ta:TE}{t:TA}{pos apos:Pos}{c m:Str}{ps:List Str}{sp:Sp}{j k:Nat}
theorem eF {pl:Sem Bool}(Fh:FMt X.prog X.w X.K X.mg X.base k c m ps sp)(hr:fD j X.A)(hx:Passes (CX1 X.prog X.w) X E)(he:PE X o ta)(ha:PA X (e::es) t)(hk:k<=j:=by decide)
  (hst:ar (e::es) X.env=(false,eval e X.env)::ar es X.env:=by rfl) (ζ:(hJ pos<|ar es X.env).any (·.1)=false:=by rfl)
  (ht:eval (.Call (.Attribute o m apos) (e::es) [] pos) X.env=(do
   let ov←eval o X.env
   standAt apos.atName
   let(f,first)←holding [ov] (getMethod ov m pl)
   callWith pos f first (hJ pos<|ar (e::es) X.env) (uu pos<|mT [] X.env)):=by rfl):
  PE X (.Call (.Attribute o m apos) (e::es) [] pos) (tMt X.mg c m sp E ta t):=by
 intro π s σ H Q I h;obtain⟨C,g,fd,hC,hc,hm,G,b⟩:=Fh.ex;refine W.methodCall_KW (pl:=pl) (thn (he π s σ H _ I h) λu s1 ⟨x,H1,I1,rx,a,C',dx,fs,ex,ec,ea,l,q⟩=>?_) ht;subst ex;obtain rfl:u=cS a:=rx
 have:some (cS C')=some (.ref C):=ec.symm.trans hC
 cases this;refine uU I1 ea hc hm l ?_;refine rg (first:=[.ref a]) (h₀:=X.base) I.ok.mod.kin hm.kp (thn (ha pos π s1 σ H1 _ I1 q) λus s2 hE=>xq2 hE λvs H2 I2 r q2=>⟨I2.kIn,?_⟩) hst ζ;exact Af (us:=.ref a::us) (vs:=.ref a::vs) G (hr.mono hk) b .nil hx I2 (.cons rfl r) (by rw[eC];exact q2)
theorem iI {pl:Sem Bool}(Fh:FMt X.prog X.w X.K X.mg X.base k c m ps sp)(hr:fD j X.A)(hx:Passes (CX1 X.prog X.w) X E)(he:PE X o ta)(hk:k<=j:=by decide)
  (ht:eval (.Call (.Attribute o m apos) [] [] pos) X.env=(do
   let ov←eval o X.env
   standAt apos.atName
   let(f,first)←holding [ov] (getMethod ov m pl)
   callWith pos f first (hJ pos<|ar [] X.env) (uu pos<|mT [] X.env)):=by rfl):
  PE X (.Call (.Attribute o m apos) [] [] pos) (tMt X.mg c m sp E ta yd):=by
 intro π s σ H Q I h;obtain⟨C,g,fd,hC,hc,hm,G,b⟩:=Fh.ex;refine W.methodCall_KW (pl:=pl) (thn (he π s σ H _ I h) λu s1 ⟨x,H1,I1,rx,a,C',dx,fs,ex,ec,ea,l,q⟩=>?_) ht;subst ex;obtain rfl:u=cS a:=rx
 have:some (cS C')=some (.ref C):=ec.symm.trans hC
 cases this;refine uU I1 ea hc hm l ?_;exact W.callWith_K0 (first:=[.ref a]) I1.kIn hm.kp<|Af (us:=[.ref a]) (vs:=[.ref a]) G (hr.mono hk) b .nil hx I1 (.cons rfl .nil) q
end
end F
namespace K10
open PySem PySem.Spec PyProof.Rows L2 Hd F
abbrev uI:Stmt:=clsAt (top 34) 1
abbrev yg:Stmt:=clsAt (top 34) 2
abbrev xm:Stmt:=clsAt (top 34) 3
theorem Lj:bB ["self", "piece"] ["self", "piece"] (aL uI):=⟨rfl,rfl,rfl,by decide +kernel,rfl,by decide +kernel,by decide +kernel⟩
theorem Lz:bB ["self", "piece"] ["self", "piece"] (aL yg):=⟨rfl,rfl,rfl,by decide +kernel,rfl,by decide +kernel,by decide +kernel⟩
theorem Ep:bB ["self", "start"] ["self"] (aL xm):=⟨rfl,rfl,rfl,by decide +kernel,rfl,by decide +kernel,by decide +kernel⟩
abbrev rdF (z:Str)(i:Int):List (Str×V):=[("text",.str z),("spot",.int i)]
structure RC (K:av)(mg:Zs)(C:Addr):Prop where
 at_:mg "Reader" = some (.ref C)
 cls:Cls K C
 text:iw K C "text"
 spot:iw K C "spot"
structure Rd1 (K:av)(mg:Zs)(H:Hp)(r C dx:Addr)(z:Str)(i:Nat):Prop where
 at_:H r=some (.ins C dx (rdF z i))
 rc:RC K mg C
 zl:z.length<=100000
 il:i<=z.length
abbrev rdU (H:Hp)(r C dx:Addr)(z:Str)(i:Nat):Hp:=upd H r<|.ins C dx<|rdF z i
def Pc (z:Str)(i:Nat)(p:Str):Bool:=kv z p i
def gV (K:av)(mg:Zs):Sp:=λvs H Q E=>∃r C dx z i p,vs=[.ref r,.str p]/\Rd1 K mg H r C dx z i/\p.length<=1000/\
 if Pc z i p=true then Q (.bl true) (rdU H r C dx z<|i+p.length) else Q (.bl false) H
def qO (K:av)(mg:Zs):Sp:=λvs H Q E=>∃r C dx z i p,vs=[.ref r,.str p]/\Rd1 K mg H r C dx z i/\p.length<=1000/\Pc z i p=true/\Q .non (rdU H r C dx z<|i+p.length)
section
variable {P:bg}{w:cw}{K:av}{mg:Zs}{base:Heap}{f:Addr}{fd:dQ}
theorem HB (B:Bt mg)(Fu:Fun K "passes" "Reader.passes" uI f fd):bR P w K mg base (CX1 P w) 1 f fd ["self", "piece"] (gV K mg):=by
 refine cO Fu Lj (λvs H Q E h=>?_) λcdv A outer s H vs Q E hr h=>?_
 ·obtain⟨r,C,dx,z,i,p,rfl,_⟩:=h;rfl
 ·obtain⟨r,C,dx,z,i,p,rfl,R,p1,q⟩:=h;obtain⟨hr0,rc,z1,i1⟩:=R;refine⟨_,aJ (gf (nu<|gK<|rH eD nE nI Cq (dj (aA (i:=0) rfl<|af rfl) rfl)<|aB (aA (i:=1) rfl<|af rfl)<|aB (dj (aA (i:=0) rfl<|af rfl) rfl) aP) (bA<|dW J4) dH)
   (aJ (lV (aA (i:=0) rfl<|af rfl) (Ld (dj (aA (i:=0) rfl<|af rfl) rfl)<|dI gP rfl B.len rfl<|aB (aA (i:=1) rfl<|af rfl) aP) rfl)<|bA<|dW J4),?_⟩
  have k0:(start ["self", "piece"] [.ref r,.str p])[0]? = some (some<|.ref r):=rfl;have k1:(start ["self", "piece"] [.ref r,.str p])[1]? = some (some<|.str p):=rfl;dsimp only[Mu,Qm,Qs,L2.tB,tBM,rO,yd,PQ,uF,Wn,VP,t2I,tCB,JL,tC,Ea];refine⟨_,k0,r,C,dx,_,.str z,rfl,hr0,rc.cls,rc.text,rfl,rfl,_,k1,_,k0,r,C,dx,_,.int i,rfl,hr0,rc.cls,rc.spot,rfl,z,p,i,rfl,rfl,_,rfl,?_⟩;unfold Pc at q;by_cases c:kv z p i=true
  ·rw[if_pos c] at q;rw[c,if_neg<|by simp];exact⟨_,k0,r,C,dx,_,.int i,rfl,hr0,rc.cls,rc.spot,rfl,_,k1,p,rfl,cm p1 (by decide),i,_,rfl,rfl,_,k0,r,C,dx,_,rfl,hr0,rc.cls,rc.spot,by simp,q⟩
  ·rw[if_neg c] at q;have c':kv z p i=false:=by simpa using c
   rw[c',if_pos<|by simp];exact q
theorem Nm (Gp:FMt P w K mg base 1 "Reader" "passes" ["self", "piece"] (gV K mg))(Fu:Fun K "need" "Reader.need" yg f fd):bR P w K mg base (CX1 P w) 2 f fd ["self", "piece"] (qO K mg):=by
 refine cO Fu Lz (λvs H Q E h=>?_) λcdv A outer s H vs Q E hr h=>?_
 ·obtain⟨r,C,dx,z,i,p,rfl,_⟩:=h;rfl
 ·obtain⟨r,C,dx,z,i,p,rfl,R,p1,c,q⟩:=h;refine⟨_,bA<|gf (nu<|gK<|eF Gp hr (E:=E) aK (aA (i:=0) rfl<|af rfl)<|aB (aA (i:=1) rfl<|af rfl) aP) kJ dH,?_⟩;have k0:(start ["self", "piece"] [.ref r,.str p])[0]? = some (some<|.ref r):=rfl;have k1:(start ["self", "piece"] [.ref r,.str p])[1]? = some (some<|.str p):=rfl;dsimp only[Qm,Qs,L2.tB,tMt,rO,yd,uF,Ea];refine⟨_,k0,r,C,dx,_,rfl,R.rc.at_,R.at_,rfl,_,k1,r,C,dx,z,i,p,rfl,R,p1,?_⟩;rw[if_pos c];exact⟨_,rfl,by rw[if_neg<|by simp];exact q⟩
end
theorem Qp:ae " (),"  = tx stops:=by decide +kernel
def jg (K:av)(mg:Zs):Sp:=λvs H Q E=>∃r C dx,∃a c b:List Nat,vs=[.ref r]/\Rd1 K mg H r C dx (tx<|a++c++b) a.length/\(∀x∈c,x∉stops)/\(∀x,b.head? = some x->x∈stops)/\
 Q (.str<|tx c) (rdU H r C dx (tx<|a++c++b)<|a.length+c.length)
theorem Up {H:Hp}{r:Addr}{o:HO}(h:H r=some o):upd H r o=H:=by
 funext b;unfold upd;split
 ·rename_i e;rw[e,h]
 ·rfl
theorem TV {x:Nat}:Ho (.str ⟨#[x]⟩) (.str<|ae " (),")=some (!decide (x∈stops)):=by
 rw[Qp];show some (!(!(dP (tx stops) ⟨#[x]⟩ 0 (tx stops).length 1).isEmpty))=_;by_cases h:x∈stops
 ·rw[Eh h,decide_eq_true h];rfl
 ·rw[Bh h,decide_eq_false h];rfl
theorem Sw {a c b:List Nat}:h7 (tx<|a++c++b) (some (a.length:Int)) (some ((a.length+c.length:Nat):Int))=tx c:=by
 have:=StrLaws.sliceText_plain (x:=tx<|a++c++b) (i:=(a.length:Int)) (j:=((a.length+c.length:Nat):Int)) ⟨by omega,by omega,by rw[cg];simp;omega⟩
 refine(show h7 (tx<|a++c++b) _ _=_ from this).trans (wu ?_);rw[cg,show(((a.length+c.length:Nat):Int)-(a.length:Int)).toNat=c.length by omega,show((a.length:Int)).toNat=a.length by omega,aE,oz,List.take_left]
section
variable {P:bg}{w:cw}{K:av}{mg:Zs}{base:Heap}{f:Addr}{fd:dQ}
theorem Jz (B:Bt mg)(Cn:CnT K mg)(Fu:Fun K "chunk" "Reader.chunk" xm f fd):bR P w K mg base (CX1 P w) 1 f fd ["self"] (jg K mg):=by
 refine cO Fu Ep (λvs H Q E h=>?_) λcdv A outer s H vs Q E hr h=>?_
 ·obtain⟨r,C,dx,a,c,b,rfl,_⟩:=h;rfl
 ·obtain⟨r,C,dx,a,c,b,rfl,R,hc,hb,q⟩:=h;obtain⟨v0,u0,m0,r0,d0⟩:=Cn.STOPS;refine⟨_,aJ (cu (i:=1) Ep.nd rfl (af rfl)<|dj (aA (i:=0) rfl<|af rfl) rfl)
   (aJ (pU hG (PW.pt (Ub (pI<|Kg (dj (aA (i:=0) rfl<|af rfl) rfl)<|dI gP rfl B.len rfl<|aB (dj (aA (i:=0) rfl<|af rfl) rfl) aP)
    (QJ<|ou Ge (zL (dj (aA (i:=0) rfl<|af rfl) rfl) (dj (aA (i:=0) rfl<|af rfl) rfl) λ_ _=>rfl) (mz rfl m0 r0)<|by with_unfolding_all rfl)))
    (bA<|lV (aA (i:=0) rfl<|af rfl) (Ld (dj (aA (i:=0) rfl<|af rfl) rfl) lJ) rfl))
   (bA<|dW<|zZ Qy (dj (aA (i:=0) rfl<|af rfl) rfl) (xQ<|aA (i:=1) rfl<|af rfl)<|xQ<|dj (aA (i:=0) rfl<|af rfl) rfl)),?_⟩
  have n0:a.length<=100000:=by have:=R.il;have:=R.zl;omega
  have fl:(tx<|a++c++b).length=a.length+c.length+b.length:=by rw[aW];simp;omega
  have z1:(tx<|a++c++b).length<=100000:=R.zl;obtain⟨at0,rc,_,_⟩:=R;have zs:(tx<|a++c++b).length<=be:=cm z1 (by decide);have k0:(start ["self", "start"] [.ref r])[0]? = some (some<|.ref r):=rfl;refine⟨_,k0,r,C,dx,_,.int a.length,rfl,at0,rc.cls,rc.spot,rfl,?_⟩;refine⟨λm σ H'=>∃k,k<=c.length/\m=c.length-k/\σ=[some<|.ref r,some<|.int a.length]/\H'=rdU H r C dx (tx<|a++c++b) (a.length+k),⟨c.length,0,fF _,rfl,rfl,(Up at0).symm⟩,?_⟩;rintro m σ H' ⟨k,hk,rfl,rfl,rfl⟩;have at1:(rdU H r C dx (tx<|a++c++b)<|a.length+k) r=some (.ins C dx<|rdF (tx<|a++c++b) ((a.length+k:Nat):Int)):=az;refine⟨_,rfl,r,C,dx,_,.int (a.length+k:Nat),rfl,at1,rc.cls,rc.spot,rfl,_,rfl,r,C,dx,_,.str<|tx<|a++c++b,rfl,at1,rc.cls,rc.text,rfl,_,rfl,zs,_,_,rfl,rfl,_,rfl,?_⟩;have out:k=c.length->(JL<|tSl (λx lo hi H Q=>∃z,x=.str z/\z.length<=be/\Q (.str<|h7 z lo hi) H) (PQ K (uF 0) "text") (JH<|uF 1)<|JH<|PQ K (uF 0) "spot") { nx:=λ_ H'=>Q .non H',rt:=Q } [some<|.ref r,some<|.int a.length] (rdU H r C dx (tx<|a++c++b)<|a.length+k):=λe=>by
   subst e;refine⟨_,rfl,r,C,dx,_,.str<|tx<|a++c++b,rfl,at1,rc.cls,rc.text,rfl,_,rfl,_,rfl,_,rfl,r,C,dx,_,.int (a.length+c.length:Nat),rfl,at1,rc.cls,rc.spot,rfl,_,rfl,_,rfl,zs,?_⟩;rw[Sw];exact q
  show if decide (((a.length+k:Nat):Int)<((tx<|a++c++b).length:Int))=true then _ else _
  by_cases h1:a.length+k<(tx<|a++c++b).length
  ·rw[if_pos<|show decide (((a.length+k:Nat):Int)<((tx<|a++c++b).length:Int))=true from decide_eq_true (by omega)];have gl:∃ch,(tx<|a++c++b).cps[(((a.length+k:Nat):Int)).toNat]? = some ch/\(a++c++b)[a.length+k]? = some ch:=by
    have h2:a.length+k<(a++c++b).length:=by rw[aW] at h1;exact h1
    refine⟨(a++c++b)[a.length+k],?_,eI h2⟩;rw[show(((a.length+k:Nat):Int)).toNat=a.length+k by omega];have e:(tx<|a++c++b).cps[a.length+k]? = (a++c++b)[a.length+k]?:=by
     rw[← rk,cg]
    rw[e];exact eI h2
   obtain⟨ch,g1,g2⟩:=gl;refine⟨_,rfl,r,C,dx,_,.str<|tx<|a++c++b,rfl,at1,rc.cls,rc.text,rfl,_,rfl,r,C,dx,_,.int (a.length+k:Nat),rfl,at1,rc.cls,rc.spot,rfl,_,_,ch,rfl,rfl,by omega,by omega,by omega,g1,λ_=>False,_,_,_,λ_ z=>z.elim,.inl<|.str _,.inl<|d0 _ _,TV,_,rfl,?_⟩;rw[aE,cc (by omega),pz] at g2;show if(!decide (ch∈stops))=true then _ else _
   by_cases h3:k<c.length
   ·rw[b9 h3] at g2;rw[decide_eq_false<|hc ch<|iO g2,if_pos<|by rfl];refine⟨λσ' H'=>σ'=[some<|.ref r,some<|.int a.length]/\H'=rdU H r C dx (tx<|a++c++b) (a.length+(k+1)),λσ' H' ⟨e1,e2⟩=>⟨c.length-(k+1),by omega,k+1,h3,rfl,e1,e2⟩,?_⟩;exact⟨_,rfl,r,C,dx,_,.int (a.length+k:Nat),rfl,at1,rc.cls,rc.spot,rfl,_,_,rfl,rfl,_,rfl,r,C,dx,_,rfl,at1,rc.cls,rc.spot,by simp,rfl,jh⟩
   ·have e:k=c.length:=by omega
    rw[cc (by omega),e,Nat.sub_self] at g2;rw[decide_eq_true<|hb ch (by rw[List.head?_eq_getElem?];exact g2),if_neg<|by simp];exact out e
  ·rw[if_neg (show ¬decide (((a.length+k:Nat):Int)<((tx<|a++c++b).length:Int))=true from by rw[decide_eq_true_eq];omega)];show if false=true then _ else _
   rw[if_neg<|by simp];exact out<|by omega
end
abbrev Cd:Stmt:=clsAt (top 34) 0
abbrev Cg:Stmt:=clsAt (top 35) 0
theorem R6:bB ["self", "text"] ["self", "text"] (aL Cd):=⟨rfl,rfl,rfl,by decide +kernel,rfl,by decide +kernel,by decide +kernel⟩
theorem T7:bB ["self", "head"] ["self", "head"] (aL Cg):=⟨rfl,rfl,rfl,by decide +kernel,rfl,by decide +kernel,by decide +kernel⟩
abbrev opF (h l w:V):List (Str×V):=[("head",h),("lead",l),("ways",w)]
structure OC (K:av)(mg:Zs)(C:Addr):Prop where
 at_:mg "Opened" = some (.ref C)
 cls:Cls K C
 head:iw K C "head"
 lead:iw K C "lead"
 ways:iw K C "ways"
def yz (K:av)(mg:Zs):Sp:=λvs H Q E=>∃r C dx z,vs=[.ref r,.str z]/\H r=some (.ins C dx [])/\RC K mg C/\Q .non (rdU H r C dx z 0)
def BV (K:av)(mg:Zs):Sp:=λvs H Q E=>∃o C dx h,vs=[.ref o,h]/\H o=some (.ins C dx [])/\OC K mg C/\∀l,H l=none->l≠o->Q .non (upd (upd H l<|.lst []) o<|.ins C dx<|opF h .non<|.ref l)
section
variable {P:bg}{w:cw}{K:av}{mg:Zs}{base:Heap}{f:Addr}{fd:dQ}
theorem QR (Fu:Fun K "__init__" "Reader.__init__" Cd f fd):bR P w K mg base (CX1 P w) 1 f fd ["self", "text"] (yz K mg):=by
 refine cO Fu R6 (λvs H Q E h=>?_) λcdv A outer s H vs Q E hr h=>?_
 ·obtain⟨r,C,dx,z,rfl,_⟩:=h;rfl
 ·obtain⟨r,C,dx,z,rfl,a0,rc,q⟩:=h;refine⟨_,aJ (lV (aA (i:=0) rfl<|af rfl) (aA (i:=1) rfl<|af rfl) rfl)<|bA<|lV (aA (i:=0) rfl<|af rfl) lJ rfl,?_⟩;refine⟨_,rfl,_,rfl,r,C,dx,_,rfl,a0,rc.cls,rc.text,by simp,?_⟩;refine⟨_,rfl,r,C,dx,_,rfl,az,rc.cls,rc.spot,by simp[j9],?_⟩;rw[jh];exact q
theorem Qo (Fu:Fun K "__init__" "Opened.__init__" Cg f fd):bR P w K mg base (CX1 P w) 1 f fd ["self", "head"] (BV K mg):=by
 refine cO Fu T7 (λvs H Q E h=>?_) λcdv A outer s H vs Q E hr h=>?_
 ·obtain⟨r,C,dx,z,rfl,_⟩:=h;rfl
 ·obtain⟨o,C,dx,h,rfl,a0,rc,q⟩:=h;refine⟨_,aJ (lV (aA (i:=0) rfl<|af rfl) (aA (i:=1) rfl<|af rfl) rfl)<|aJ (lV (aA (i:=0) rfl<|af rfl) qH rfl)<|bA<|lV (aA (i:=0) rfl<|af rfl) (xT aP) rfl,?_⟩;refine⟨_,rfl,_,rfl,o,C,dx,_,rfl,a0,rc.cls,rc.head,by simp,?_⟩;refine⟨_,rfl,o,C,dx,_,rfl,az,rc.cls,rc.lead,by simp[j9],?_⟩;rw[jh];refine⟨fF _,λl hl=>?_⟩;have ne:l≠o:=λz=>by rw[z,az] at hl;cases hl
  have hl':H l=none:=by rw[aC ne] at hl;exact hl
  refine⟨_,rfl,o,C,dx,_,rfl,(aC ne.symm).trans az,rc.cls,rc.ways,by simp[j9],?_⟩;have e:∀x y z:HO,upd (upd (upd H o x) l y) o z=upd (upd H l y) o z:=λx y z=>by
   funext b;unfold upd;by_cases b1:b=o<;>by_cases b2:b=l<;>simp[b1,b2]
  rw[e];exact q l hl' ne
end
abbrev yq:Stmt:=top 36
theorem xj:bB ["reader", "opened", "chunk"] ["reader", "opened"] (aL yq):=⟨rfl,rfl,rfl,by decide +kernel,rfl,by decide +kernel,by decide +kernel⟩
def Bs (K:av)(mg:Zs)(Φ:Zf):Sp:=λvs H Q E=>∃(O:Za) (r C dx o Co dxo:Addr) (hv lv wv:V) (hd:Str) (ds:List D) (a c b:List Nat) (d:D),vs=[.ref r,.ref o]/\(∀b,O b->bL (H b))/\r≠o/\
 Rd1 K mg H r C dx (tx (a++c++32::b)) a.length/\(∀x∈c,x∉stops)/\H o=some (.ins Co dxo<|opF hv lv wv)/\OC K mg Co/\O r/\DV ⟨K,mg⟩ O H hv (.tup (.str hd::ds))/\Led Φ hd c d/\
 ∀v H',aD (rdU H r C dx (tx (a++c++32::b))<|a.length+c.length+1) H'->DV ⟨K,mg⟩ O H' v d->Q .non (upd H' o<|.ins Co dxo<|opF hv v wv)
theorem Ij {a b p:List Nat}(hp:p≠[]):Pc (tx<|a++p++b) a.length (tx p)=true:=by
 unfold Pc kv;have e:fromIndex (tx<|a++p++b).length (a.length:Int)=a.length:=by
  unfold fromIndex;rw[aW]
  simp
  omega
 rw[e,qr,cg,cg,aW,aW,aE,oz,List.take_left]
 simp
theorem t8 {H:Hp}{O:Za}{r:Addr}{o:HO}(h:O r):Kp O H (upd H r o):=λb u e n=>by
 rw[aC λz=>n (by rw[z];exact h)];exact e
theorem wO {H:Hp}{O:Za}{r C dx:Addr}{fs:List (Str×V)}(m:∀b,O b->bL (H b)):∀b,O b->bL (upd H r (.ins C dx fs) b):=λb z=>by
 by_cases e:b=r
 ·rw[e,az];exact .inr<|.inr<|.inr ⟨(C,dx,fs),rfl⟩
 ·rw[aC e];exact m b z
section
variable {P:bg}{w:cw}{K:av}{mg:Zs}{base:Heap}{f:Addr}{fd:dQ}{Φ:Zf}{kr:Nat}
theorem Nv (Gc:FMt P w K mg base 1 "Reader" "chunk" ["self"] (jg K mg))(Gn:FMt P w K mg base 2 "Reader" "need" ["self", "piece"] (qO K mg))(Gr:FF P w K mg base 4 "read_ratio" ["text"] Φ)(Fu:Fun K "read_lead" "read_lead" yq f fd):bR P w K mg base (CX1 P w) 5 f fd ["reader", "opened"] (Bs K mg Φ):=by
 refine cO Fu xj (λvs H Q E h=>?_) λcdv A outer s H vs Q E hr h=>?_
 ·obtain⟨O,r,C,dx,o,Co,dxo,hv,lv,wv,hd,ds,a,c,b,d,rfl,_⟩:=h;rfl
 ·obtain⟨O,r,C,dx,o,Co,dxo,hv,lv,wv,hd,ds,a,c,b,d,rfl,mO,ro,R,hc,ao,oc,or,dh,ld,q⟩:=h;have hu:=hr.units;refine⟨_,aJ (cu (i:=2) xj.nd rfl (af rfl)<|iI Gc hr (E:=E) aK<|aA (i:=0) rfl<|af rfl)
   (aJ (cF<|eF Gn hr (E:=E) aK (aA (i:=0) rfl<|af rfl)<|aB cj aP)
   (bA<|lV (aA (i:=1) rfl<|af rfl) (t6 (ou (eN hu) (uQ eO (dj (aA (i:=1) rfl<|af rfl) rfl) lJ λ_ _=>rfl) cj<|cC _) (nF Gr hr<|aB (aA (i:=2) rfl<|af rfl) aP)<|aA (i:=2) rfl<|af rfl) rfl)),?_⟩
  have hst:∀x,(32::b).head? = some x->x∈stops:=λx e=>by cases e;decide
  refine⟨_,rfl,r,C,dx,_,rfl,R.rc.at_,R.at_,rfl,r,C,dx,a,c,32::b,rfl,R,hc,hst,?_⟩;have zl:(tx (a++c++32::b)).length=a.length+c.length+b.length+1:=by rw[aW];simp;omega
  have R1:Rd1 K mg (rdU H r C dx (tx (a++c++32::b))<|a.length+c.length) r C dx (tx (a++c++32::b)) (a.length+c.length):=⟨az,R.rc,R.zl,by omega⟩;have s32:ae " " = tx [32]:=by decide +kernel
  have pc:Pc (tx (a++c++32::b)) (a.length+c.length) " " = true:=by
   have:=Ij (a:=a++c) (p:=[32]) (b:=b)<|by simp
   rw[aw] at this;show Pc _ _ (ae " ")=true;rw[s32];simpa using this
  have l1:(ae " ").length=1:=by decide +kernel
  refine⟨_,rfl,r,C,dx,_,rfl,R.rc.at_,az,rfl,r,C,dx,_,_,_,rfl,R1,by rw[l1];decide,pc,?_⟩;unfold rdU;rw[jh,l1];generalize hH:upd H r (.ins C dx<|rdF (tx (a++c++32::b)) ((a.length+c.length+1:Nat):Int))=H2;have mO2:∀b,O b->bL (H2 b):=by rw[← hH];exact wO mO
  have dh2:DV ⟨K,mg⟩ O H2 hv (.tup (.str hd::ds)):=by rw[← hH];exact dh.kp mO<|t8 or
  have ao2:H2 o=some (.ins Co dxo<|opF hv lv wv):=by rw[← hH,aC ro.symm];exact ao
  have q:∀v H',aD H2 H'->DV ⟨K,mg⟩ O H' v d->Q .non (upd H' o<|.ins Co dxo<|opF hv v wv):=λv H' g dv=>q v H' (by unfold rdU;rw[hH];exact g) dv;refine⟨_,rfl,o,Co,dxo,_,hv,rfl,ao2,oc.cls,oc.head,rfl,O,_,_,_,mO2,.inl dh2,.inl<|.int 0,(by show atI (D.str hd::ds) 0=_;unfold L2.atI L2.ixN;simp:gIx (.tup (.str hd::ds)) (.int 0)=some (.str hd)),λv H3 g3 dv=>?_⟩;cases dv;have mO3:∀b,O b->bL (H3 b):=λb z=>c7 g3<|mO2 b z;refine⟨O,_,_,_,mO3,.inl<|.str _,.inl<|.str _,rfl,_,rfl,?_⟩;show if decide (hd = "deal")=true then _ else _
  have fin:∀v H',aD H3 H'->DV ⟨K,mg⟩ O H' v d->∃v0,([some<|.ref r,some<|.ref o,some<|.str<|tx c]:L2.St)[1]? = some (some v0)/\∃a C dx fs,v0=.ref a/\H' a=some (.ins C dx fs)/\Cls K C/\iw K C "lead"/\fs.length<1000/\Q .non (upd H' a<|.ins C dx<|j9 "lead" v fs):=λv H' g dv=>
   ⟨_,rfl,o,Co,dxo,_,rfl,g _ _<|g3 _ _ ao2,oc.cls,oc.lead,by simp,q v H' (g3.trans g) dv⟩
  unfold Led at ld;by_cases hdl:hd = "deal"
  ·rw[if_pos hdl] at ld;obtain⟨fr,e⟩:=ld;rw[if_pos<|decide_eq_true hdl];refine⟨_,rfl,O,[.str<|tx c],mO3,.cons (.str _) .nil,?_⟩;rw[e];exact λv H' g dv _=>fin v H' g dv
  ·rw[if_neg hdl] at ld;subst ld;rw[if_neg<|by simpa using hdl];exact⟨_,rfl,fin _ H3 (aD.refl _)<|.str _⟩
end
abbrev xV:Stmt:=top 37
abbrev xY:Stmt:=top 38
theorem wV:bB ["reader", "chunk"] ["reader"] (aL xV):=⟨rfl,rfl,rfl,by decide +kernel,rfl,by decide +kernel,by decide +kernel⟩
theorem mR:bB ["reader", "head", "side"] ["reader"] (aL xY):=⟨rfl,rfl,rfl,by decide +kernel,rfl,by decide +kernel,by decide +kernel⟩
structure SdT (w:cw)(K:av)(mg:Zs):Prop where
 ex:∃a,mg "SIDES" = some (.ref a)/\KDict w K a/\(∃t,ff K a "1" = some (some (.int 1 t)))/\∃t,ff K a "2" = some (some (.int 2 t))
theorem Kd {w:cw}{K:av}{mg:Zs}(S:SdT w K mg){s:Int}(h:s=1\/s=2):∃a t,mg "SIDES" = some (.ref a)/\KDict w K a/\ff K a (tx<|sdS s)=some (some<|.int s t):=by
 obtain⟨a,h1,h2,⟨t1,h3⟩,t2,h4⟩:=S.ex;have e1:ae "1" = tx [49]:=by decide +kernel
 have e2:ae "2" = tx [50]:=by decide +kernel
 rcases h with rfl|rfl
 ·exact⟨a,t1,h1,h2,by show ff K a (tx [49])=_;rw[← e1];exact h3⟩
 ·exact⟨a,t2,h1,h2,by show ff K a (tx [50])=_;rw[← e2];exact h4⟩
def Mj (K:av)(mg:Zs):Sp:=λvs H Q E=>∃(r C dx:Addr) (s:Int) (a b:List Nat),vs=[.ref r]/\(s=1\/s=2)/\Rd1 K mg H r C dx (tx (a++sdS s++32::b)) a.length/\Q (.int s) (rdU H r C dx (tx (a++sdS s++32::b))<|a.length+(sdS s).length+1)
theorem s32:ae " " = tx [32]:=by decide +kernel
theorem l32:(ae " ").length=1:=by decide +kernel
theorem VF {a c b:List Nat}:Pc (tx (a++c++32::b)) (a.length+c.length) " " = true:=by
 have:=Ij (a:=a++c) (p:=[32]) (b:=b)<|by simp
 rw[aw] at this;show Pc _ _ (ae " ")=true;rw[s32];simpa using this
section
variable {P:bg}{w:cw}{K:av}{mg:Zs}{base:Heap}{f:Addr}{fd:dQ}
theorem Pz (S:SdT w K mg)(Gc:FMt P w K mg base 1 "Reader" "chunk" ["self"] (jg K mg))(Gn:FMt P w K mg base 2 "Reader" "need" ["self", "piece"] (qO K mg))(Fu:Fun K "read_side" "read_side" xV f fd):bR P w K mg base (CX1 P w) 3 f fd ["reader"] (Mj K mg):=by
 refine cO Fu wV (λvs H Q E h=>?_) λcdv A outer s H vs Q E hr h=>?_
 ·obtain⟨r,C,dx,s,a,b,rfl,_⟩:=h;rfl
 ·obtain⟨r,C,dx,sd,a,b,rfl,hs,R,q⟩:=h;obtain⟨da,t,m0,kd,ns⟩:=Kd S hs;refine⟨_,aJ (cu (i:=1) wV.nd rfl (af rfl)<|iI Gc hr (E:=E) aK<|aA (i:=0) rfl<|af rfl)
   (aJ (gf (ou Dn (aA (i:=1) rfl<|af rfl) (mz (v:=.ref da) rfl m0 rfl)<|by with_unfolding_all rfl) kJ dH)
   (aJ (cF<|eF Gn hr (E:=E) aK (aA (i:=0) rfl<|af rfl)<|aB cj aP)
   (bA<|dW<|uQ zA (mz (v:=.ref da) rfl m0 rfl) (aA (i:=1) rfl<|af rfl) λ_ _=>rfl))),?_⟩
  have hst:∀x,(32::b).head? = some x->x∈stops:=λx e=>by cases e;decide
  have hc:∀x∈sdS sd,x∉stops:=by rcases hs with rfl|rfl<;>decide
  refine⟨_,rfl,r,C,dx,_,rfl,R.rc.at_,R.at_,rfl,r,C,dx,a,sdS sd,32::b,rfl,R,hc,hst,?_⟩;have zl:(tx (a++sdS sd++32::b)).length=a.length+(sdS sd).length+b.length+1:=by rw[aW];simp;omega
  refine⟨_,rfl,tx<|sdS sd,da,_,rfl,rfl,kd,ns,_,rfl,?_⟩;show if false=true then _ else _
  rw[if_neg<|by simp];have R1:Rd1 K mg (rdU H r C dx (tx (a++sdS sd++32::b))<|a.length+(sdS sd).length) r C dx (tx (a++sdS sd++32::b)) (a.length+(sdS sd).length):=⟨az,R.rc,R.zl,by omega⟩;refine⟨_,rfl,r,C,dx,_,rfl,R.rc.at_,az,rfl,r,C,dx,_,_,_,rfl,R1,by rw[l32];decide,VF,?_⟩;refine⟨_,rfl,tx<|sdS sd,da,.int sd,.int sd t,rfl,rfl,kd,ns,⟨t,rfl⟩,?_⟩;unfold rdU at q ⊢;rw[jh,l32];exact q
end
theorem Sg:ae "deal " = tx dlT:=by decide +kernel
theorem U5:ae "move " = tx mvT:=by decide +kernel
theorem Wc:ae "(" = tx [40]:=by decide +kernel
theorem wM {T a p b:List Nat}{P:Str}(hP:P=tx p)(hp:p≠[])(e:T=a++p++b):Pc (tx T) a.length P=true:=by rw[hP,e];exact Ij hp
theorem xF {a b p:List Nat}{P:Str}(hP:P=tx p)(h:b.take p.length≠p):Pc (tx<|a++b) a.length P=false:=by
 unfold Pc kv;have e:fromIndex (tx<|a++b).length (a.length:Int)=a.length:=by
  unfold fromIndex;rw[aW]
  simp
  omega
 rw[e,hP,qr,cg,cg,aW,aW,oz]
 have:(b.take p.length==p)=false:=by simpa using h
 rw[this]
 simp
theorem Gu {H H2:Hp}{r:Addr}{x y:HO}(k:∀b o,b≠r->H b=some o->H2 b=some o):aD (upd H r x) (upd H2 r x):=λb o e=>by
 by_cases z:b=r
 ·rw[z,az] at e ⊢;exact e
 ·rw[aC z] at e ⊢;exact k b o z e
def Mi (K:av)(mg:Zs):Sp:=λvs H Q E=>∃(O:Za) (r C dx:Addr) (ho:Option Int) (n a b:List Nat),vs=[.ref r]/\(∀s,ho=some s->s=1\/s=2)/\(∀x∈n,x∉stops)/\Rd1 K mg H r C dx (tx (a++hT ho n++40::b)) a.length/\
 ∀v H',aD (rdU H r C dx (tx (a++hT ho n++40::b))<|a.length+(hT ho n).length+1) H'->DV ⟨K,mg⟩ O H' v (hD ho n)->Q v H'
section
variable {P:bg}{w:cw}{K:av}{mg:Zs}{base:Heap}{f:Addr}{fd:dQ}
theorem Pj (Gp:FMt P w K mg base 1 "Reader" "passes" ["self", "piece"] (gV K mg))(Gc:FMt P w K mg base 1 "Reader" "chunk" ["self"] (jg K mg))(Gn:FMt P w K mg base 2 "Reader" "need" ["self", "piece"] (qO K mg))(Gs:Hd.Fn P w K mg base 3 "read_side" ["reader"] (Mj K mg))(Fu:Fun K "read_head" "read_head" xY f fd):bR P w K mg base (CX1 P w) 4 f fd ["reader"] (Mi K mg):=by
 refine cO Fu mR (λvs H Q E h=>?_) (λcdv A outer s H vs Q E hr h=>?_)
 ·obtain ⟨O,r,C,dx,ho,n,a,b,rfl,_⟩:=h;rfl
 ·obtain ⟨O,r,C,dx,ho,n,a,b,rfl,hs,hn,R,q⟩:=h;refine ⟨_,aJ (gf (gK (eF Gp hr (E:=E) aK (aA (i:=0) rfl (af rfl)) (aB cj aP)))
    (bA (cu (i:=1) mR.nd rfl (af rfl) (jA (aB cj (aB (iI Gc hr (E:=E) aK (aA (i:=0) rfl (af rfl))) aP)))))
    (aJ (cF (eF Gn hr (E:=E) aK (aA (i:=0) rfl (af rfl)) (aB cj aP)))
    (aJ (cu (i:=2) mR.nd rfl (af rfl) (nF Gs hr (aB (aA (i:=0) rfl (af rfl)) aP)))
    (bA (cu (i:=1) mR.nd rfl (af rfl) (jA (aB cj (aB (aA (i:=2) rfl (af rfl)) (aB (iI Gc hr (E:=E) aK (aA (i:=0) rfl (af rfl))) aP)))))))))
   (aJ (cF (eF Gn hr (E:=E) aK (aA (i:=0) rfl (af rfl)) (aB cj aP)))
   (bA (dW (aA (i:=1) rfl (af rfl))))),?_⟩
  have zl:(tx (a++hT ho n++40::b)).length=a.length+(hT ho n).length+b.length+1:=by rw [aW];simp;omega
  generalize hz:tx (a++hT ho n++40::b)=z at *;have zl1:=R.zl;have Rk:∀{H':Hp} {i:Nat},i<=z.length->Rd1 K mg (rdU H' r C dx z i) r C dx z i:=λh=>⟨az,R.rc,zl1,h⟩;have hst:∀x,(40::b).head? = some x->x∈stops:=λx e=>by cases e;decide
  have lo:(ae "(").length=1:=by decide +kernel
  have fin:∀(H1:Hp) (p:Addr) (xs:List V) (σ:L2.St),(∀b o,b≠r->H b=some o->H1 b=some o)->H1 p=none->p≠r->DVs ⟨K,mg⟩ O (upd (upd H1 p (.tup xs)) r (.ins C dx (rdF z ((a.length+(hT ho n).length+1:Nat):Int)))) xs (match hD ho n with | .tup ds=>ds | _=>[])->σ[0]? = some (some (.ref r))->σ[1]? = some (some (.ref p))->H1 r=some (.ins C dx (rdF z ((a.length+(hT ho n).length:Nat):Int)))->
    (Mu (LR (tMt mg "Reader" "need" (qO K mg) E (uF 0) (rO (tC (.str "(")) yd))) (JL (uF 1))) { nx:=λ_ H'=>Q .non H',rt:=Q } σ (upd H1 p (.tup xs)):=λH1 p xs σ kp hp pr dv s0 s1 hr1=>by
   have h2:upd H1 p (.tup xs) r=some (.ins C dx (rdF z ((a.length+(hT ho n).length:Nat):Int))):=(aC pr.symm).trans hr1;have R2:Rd1 K mg (upd H1 p (.tup xs)) r C dx z (a.length+(hT ho n).length):=⟨h2,R.rc,zl1,by omega⟩;have pc:Pc z (a.length+(hT ho n).length) "(" = true:=by
    rw [← hz,← aw];exact wM (a:=a++hT ho n) (p:=[40]) (b:=b) Wc (by simp) (by simp)
   refine ⟨_,s0,r,C,dx,_,rfl,R.rc.at_,h2,rfl,r,C,dx,z,_,_,rfl,R2,by rw [lo];decide,pc,?_⟩;refine ⟨_,s1,?_⟩;unfold rdU;rw [lo];refine q _ _ (Gu (y:=.lst []) λb o nb e=>?_) ?_
   ·rw [aC (λz=>by rw [z] at nb e;rw [kp p o pr e] at hp;cases hp)];exact kp b o nb e
   ·have dt:∃ds,hD ho n=.tup ds:=by cases ho<;>exact ⟨_,rfl⟩
    obtain ⟨ds,ed⟩:=dt;rw [ed] at dv ⊢;exact .tup (.inl ((aC pr).trans az)) dv
  have l5:(ae "deal ").length=5:=by decide +kernel
  have m5:(ae "move ").length=5:=by decide +kernel
  cases ho with
  |none=>
   have hz2:tx ((a++dlT)++n++40::b)=z:=by rw [← hz];congr 1;simp [hT]
   have le:(hT none n).length=5+n.length:=by simp [hT];omega
   have pc:Pc z a.length "deal " = true:=by rw [← hz];exact wM (p:=dlT) (b:=n++40::b) Sg (by simp) (by simp [hT])
   refine ⟨_,rfl,r,C,dx,_,rfl,R.rc.at_,R.at_,rfl,r,C,dx,z,_,_,rfl,R,by rw [l5];decide,?_⟩;rw [if_pos pc];refine ⟨_,rfl,?_⟩;show if true=true then _ else _
   rw [if_pos rfl];have R1:Rd1 K mg (rdU H r C dx z (a.length+(ae "deal ").length)) r C dx (tx ((a++dlT)++n++40::b)) (a++dlT).length:=by
    rw [hz2,l5,show (a++dlT).length=a.length+5 by simp];exact Rk (by omega)
   refine ⟨_,rfl,r,C,dx,_,rfl,R.rc.at_,az,rfl,r,C,dx,a++dlT,n,40::b,rfl,R1,hn,hst,by simp,λp hp=>?_⟩;have pr:p≠r:=λe=>by rw [e] at hp;unfold rdU at hp;rw [az] at hp;cases hp
   refine fin _ p _ _ (λb o nb e=>?_) hp pr (.cons (.str _) (.cons (.str _) .nil)) rfl rfl ?_
   ·unfold rdU;rw [aC nb,aC nb];exact e
   ·unfold rdU;rw [az,hz2,show (a++dlT).length+n.length=a.length+(hT none n).length by rw [le];simp;omega]
  |some sd=>
   have hsd:=hs sd rfl;have ls:(sdS sd).length=1:=by unfold sdS;split<;>rfl
   have hz2:tx ((a++mvT)++sdS sd++32::(n++40::b))=z:=by rw [← hz];congr 1;simp [hT]
   have hz3:tx ((a++mvT++sdS sd++[32])++n++40::b)=z:=by rw [← hz];congr 1;simp [hT]
   have le:(hT (some sd) n).length=7+n.length:=by simp [hT,ls];omega
   have pc0:Pc z a.length "deal " = false:=by rw [← hz,aE];exact xF Sg (by simp [hT])
   have pc:Pc z a.length "move " = true:=by rw [← hz];exact wM (p:=mvT) (b:=sdS sd++32::n++40::b) U5 (by simp) (by simp [hT])
   refine ⟨_,rfl,r,C,dx,_,rfl,R.rc.at_,R.at_,rfl,r,C,dx,z,_,_,rfl,R,by rw [l5];decide,?_⟩;rw [if_neg (by rw [pc0];simp)];refine ⟨_,rfl,?_⟩;show if false=true then _ else _
   rw [if_neg (by simp)];refine ⟨_,rfl,r,C,dx,_,rfl,R.rc.at_,R.at_,rfl,r,C,dx,z,_,_,rfl,R,by rw [m5];decide,pc,?_⟩;have R1:Rd1 K mg (rdU H r C dx z (a.length+(ae "move ").length)) r C dx (tx ((a++mvT)++sdS sd++32::(n++40::b))) (a++mvT).length:=by
    rw [hz2,m5,show (a++mvT).length=a.length+5 by simp];exact Rk (by omega)
   refine ⟨_,rfl,r,C,dx,sd,a++mvT,n++40::b,rfl,hsd,R1,?_⟩;have e7:(a++mvT++sdS sd++([32]:List Nat)).length=(a++mvT).length+(sdS sd).length+1:=by simp [ls]
   have e8:(a++mvT++sdS sd++([32]:List Nat)).length=a.length+7:=by simp [ls]
   have e9:(a++mvT++sdS sd++([32]:List Nat)).length+n.length=a.length+(hT (some sd) n).length:=by rw [le,e8];omega
   have R2:Rd1 K mg (rdU (rdU H r C dx z (a.length+(ae "move ").length)) r C dx (tx ((a++mvT)++sdS sd++32::(n++40::b))) ((a++mvT).length+(sdS sd).length+1)) r C dx (tx ((a++mvT++sdS sd++[32])++n++40::b)) (a++mvT++sdS sd++[32]).length:=by
    rw [hz3,hz2,e7];exact Rk (by rw [← e7,e8];omega)
   refine ⟨_,rfl,_,rfl,r,C,dx,_,rfl,R.rc.at_,az,rfl,r,C,dx,a++mvT++sdS sd++[32],n,40::b,rfl,R2,hn,hst,by simp,λp hp=>?_⟩;have pr:p≠r:=λe=>by rw [e] at hp;unfold rdU at hp;rw [az] at hp;cases hp
   refine fin _ p _ _ (λb o nb e=>?_) hp pr (.cons (.str _) (.cons (.int _) (.cons (.str _) .nil))) rfl rfl ?_
   ·unfold rdU;rw [aC nb,aC nb,aC nb];exact e
   ·unfold rdU;rw [az,hz3,e9]
end
abbrev sO:Stmt:=top 39
theorem sJ:bB ["reader", "waiting", "opened"] ["reader", "waiting"] (aL sO):=⟨rfl,rfl,rfl,by decide +kernel,rfl,by decide +kernel,by decide +kernel⟩
theorem Tn:ae "end " = tx enT:=by decide +kernel
def BgE (K:av)(mg:Zs)(Φ:Zf)(O:Za)(r C dx:Addr)(H:Hp)(Q:VK):Prop:=∃(a c b:List Nat) (d:D) (fr:Bool),Rd1 K mg H r C dx (tx<|a++(enT++c)++b) a.length/\(∀x∈c,x∉stops)/\(∀x,b.head? = some x->x∈stops)/\Φ [.str<|tx c]=.ok (fr,d)/\
 ∀v H',aD (rdU H r C dx (tx<|a++(enT++c)++b)<|a.length+(enT++c).length) H'->DV ⟨K,mg⟩ O H' v (.tup [.str "end",d])->Q v H'
def BgO (K:av)(mg:Zs)(Φ:Zf)(O:Za)(r C dx w:Addr)(H:Hp)(Q:VK):Prop:=∃(ho:Option Int) (n a c b:List Nat) (d:D) (xs:List V),Rd1 K mg H r C dx (tx (a++hT ho n++40::(c++32::b))) a.length/\(∀s,ho=some s->s=1\/s=2)/\(∀x∈n,x∉stops)/\(∀x∈c,x∉stops)/\
 Led Φ (hN ho) c d/\H w=some (.lst xs)/\xs.length<1000000/\
 ∀o Co dxo l hv lv H',OC K mg Co->H o=none->H l=none->o≠l->H' r=some (.ins C dx<|rdF (tx (a++hT ho n++40::(c++32::b))) ((a.length+(hT ho n).length+1+c.length+1:Nat):Int))->H' w=some (.lst<|xs++[.ref o])->H' o=some (.ins Co dxo<|opF hv lv<|.ref l)->H' l=some (.lst [])->(∀b u,b≠r->b≠w->H b=some u->H' b=some u)->
  DV ⟨K,mg⟩ (λb=>O b\/b=o\/b=l) H' hv (hD ho n)->DV ⟨K,mg⟩ (λb=>O b\/b=o\/b=l) H' lv d->Q .non H'
def sY (K:av)(mg:Zs)(Φ:Zf):Sp:=λvs H Q E=>∃(O:Za) (r C dx w:Addr),vs=[.ref r,.ref w]/\(∀b,O b->bL (H b))/\O r/\O w/\r≠w/\(BgE K mg Φ O r C dx H Q\/BgO K mg Φ O r C dx w H Q)
section
variable {P:bg}{w:cw}{K:av}{mg:Zs}{base:Heap}{f:Addr}{fd:dQ}{Φ:Zf}
theorem Mg (Gp:FMt P w K mg base 1 "Reader" "passes" ["self", "piece"] (gV K mg))(Gc:FMt P w K mg base 1 "Reader" "chunk" ["self"] (jg K mg))(Gr:FF P w K mg base 4 "read_ratio" ["text"] Φ)(Gm:MkT P w K mg base 1 "Opened" ["self", "head"] (BV K mg))(oc:∀C,mg "Opened" = some (.ref C)->OC K mg C)
  (Gh:Hd.Fn P w K mg base 4 "read_head" ["reader"] (Mi K mg)) (Gl:Hd.Fn P w K mg base 5 "read_lead" ["reader", "opened"] (Bs K mg Φ)) (Fu:Fun K "begun" "begun" sO f fd):bR P w K mg base (CX1 P w) 6 f fd ["reader", "waiting"] (sY K mg Φ):=by
 refine cO Fu sJ (λvs H Q E h=>?_) (λcdv A outer s H vs Q E hr h=>?_)
 ·obtain ⟨O,r,C,dx,w,rfl,_⟩:=h;rfl
 ·obtain ⟨O,r,C,dx,wa,rfl,mO,or,ow,rw_,h⟩:=h;obtain ⟨Co,gi,fdi,hC,M,Gi,bi⟩:=Gm.ex;have occ:=oc Co hC;refine ⟨_,aJ (gf (gK (eF Gp hr (E:=E) aK (aA (i:=0) rfl (af rfl)) (aB cj aP)))
    (bA (dW (jA (aB cj (aB (nF Gr hr (aB (iI Gc hr (E:=E) aK (aA (i:=0) rfl (af rfl))) aP)) aP))))) dH)
   (aJ (cu (i:=2) sJ.nd rfl (af rfl) (tu M Gi (hr.mono (by decide)) rfl hC bi .nil (E:=E) aK (aB (nF Gh hr (aB (aA (i:=0) rfl (af rfl)) aP)) aP)))
   (aJ (cF (nF Gl hr (aB (aA (i:=0) rfl (af rfl)) (aB (aA (i:=2) rfl (af rfl)) aP))))
   (aJ (cF (rH dS fg fq ig (aA (i:=1) rfl (af rfl)) (aB (aA (i:=2) rfl (af rfl)) aP)))
   (bA (dW qH))))),?_⟩
  have l4:(ae "end ").length=4:=by decide +kernel
  rcases h with ⟨a,c,b,d,fr,R,hc,hb,e,q⟩ | ⟨ho,n,a,c,b,d,xs,R,hs,hn,hc,ld,hw,hx,q⟩
  ·have zl:(tx (a++(enT++c)++b)).length=a.length+4+c.length+b.length:=by rw [aW];simp;omega
   have el:(enT++c).length=4+c.length:=by simp;omega
   generalize hz:tx (a++(enT++c)++b)=z at *;have hz2:tx ((a++enT)++c++b)=z:=by rw [← hz];congr 1;simp
   have pc:Pc z a.length "end " = true:=by rw [← hz];exact wM (p:=enT) (b:=c++b) Tn (by simp) (by simp)
   refine ⟨_,rfl,r,C,dx,_,rfl,R.rc.at_,R.at_,rfl,r,C,dx,z,_,_,rfl,R,by rw [l4];decide,?_⟩;rw [if_pos pc];refine ⟨_,rfl,?_⟩;show if true=true then _ else _
   rw [if_pos rfl];have R1:Rd1 K mg (rdU H r C dx z (a.length+(ae "end ").length)) r C dx (tx ((a++enT)++c++b)) (a++enT).length:=by
    rw [hz2,l4,show (a++enT).length=a.length+4 by simp];exact ⟨az,R.rc,R.zl,by omega⟩
   refine ⟨_,rfl,r,C,dx,_,rfl,R.rc.at_,az,rfl,r,C,dx,a++enT,c,b,rfl,R1,hc,hb,?_⟩;have eH:rdU (rdU H r C dx z (a.length+(ae "end ").length)) r C dx (tx ((a++enT)++c++b)) ((a++enT).length+c.length)=rdU H r C dx z (a.length+(enT++c).length):=by
    unfold rdU;rw [jh,hz2,show (a++enT).length+c.length=a.length+(enT++c).length by rw [el];simp;omega]
   rw [eH];refine ⟨O,[.str (tx c)],wO mO,.cons (.str _) .nil,?_⟩;rw [e];refine λv H3 g3 dv _=>⟨by simp,λp hp=>q _ _ (g3.trans (bC hp _)) (.tup (.inl az) (.cons (.str _) (.cons (dv.mono (bC hp _)) .nil)))⟩
  ·have zl:(tx (a++hT ho n++40::(c++32::b))).length=a.length+(hT ho n).length+1+c.length+1+b.length:=by rw [aW];simp;omega
   have hz2:tx ((a++hT ho n++[40])++c++32::b)=tx (a++hT ho n++40::(c++32::b)):=by congr 1;simp
   have a2l:(a++hT ho n++([40]:List Nat)).length=a.length+(hT ho n).length+1:=by simp;omega
   have pc:Pc (tx (a++hT ho n++40::(c++32::b))) a.length "end " = false:=by rw [aE];exact xF Tn (by cases ho<;>simp [hT])
   refine ⟨_,rfl,r,C,dx,_,rfl,R.rc.at_,R.at_,rfl,r,C,dx,_,_,_,rfl,R,by rw [l4];decide,?_⟩;rw [if_neg (by rw [pc];simp)];refine ⟨_,rfl,?_⟩;show if false=true then _ else _
   rw [if_neg (by simp)];refine ⟨_,rfl,O,r,C,dx,ho,n,a,c++32::b,rfl,hs,hn,R,λv H1 g1 dv x dx' hx1 hd1 hdx=>?_⟩;generalize hz:tx (a++hT ho n++40::(c++32::b))=z at *;have h1r:H1 r=some (.ins C dx (rdF z ((a.length+(hT ho n).length+1:Nat):Int))):=g1 _ _ az;have k1:∀b u,b≠r->H b=some u->H1 b=some u:=λb u nb e=>g1 b u (by unfold rdU;rw [aC nb];exact e);have back:∀b,H1 b=none->H b=none:=λb e=>by
    cases hb:H b with
    |none=>rfl
    |some u=>
     by_cases z:b=r
     ·rw [z,h1r] at e;cases e
     ·rw [k1 b u z hb] at e;cases e
   have m1:∀b,O b->bL (H1 b):=λb ob=>by
    by_cases z:b=r
    ·rw [z,h1r];exact .inr (.inr (.inr ⟨(C,dx,_),rfl⟩))
    ·cases hb:H b with
     |none=>have:=mO b ob;rw [hb] at this;rcases this with ⟨_,e⟩ | ⟨_,e⟩ | ⟨_,e⟩ | ⟨_,e⟩<;>cases e
     |some u=>rw [k1 b u z hb,← hb];exact mO b ob
   have h1w:H1 wa=some (.lst xs):=k1 _ _ rw_.symm hw;refine ⟨x,Co,dx',v,rfl,az,occ,λl hl nlx=>⟨rfl,?_⟩⟩;rw [aC nlx] at hl;have nld:l≠dx':=λe=>by rw [e,az] at hl;cases hl
   rw [aC nld] at hl;have nxr:x≠r:=λe=>by rw [e,h1r] at hx1;cases hx1
   have nxw:x≠wa:=λe=>by rw [e,h1w] at hx1;cases hx1
   have nlr:l≠r:=λe=>by rw [e,h1r] at hl;cases hl
   have nlw:l≠wa:=λe=>by rw [e,h1w] at hl;cases hl
   have ndr:dx'≠r:=λe=>by rw [e,h1r] at hd1;cases hd1
   have ndw:dx'≠wa:=λe=>by rw [e,h1w] at hd1;cases hd1
   generalize hH2:upd (upd (upd (upd H1 dx' (.own x)) x (.ins Co dx' [])) l (.lst [])) x (.ins Co dx' (opF v .non (.ref l)))=H2;have old:∀b,b≠x->b≠l->b≠dx'->H2 b=H1 b:=λb b1 b2 b3=>by rw [← hH2,aC b1,aC b2,aC b1,aC b3]
   have h2x:H2 x=some (.ins Co dx' (opF v .non (.ref l))):=by rw [← hH2];exact az
   have h2l:H2 l=some (.lst []):=by rw [← hH2,aC nlx];exact az
   have h2r:H2 r=some (.ins C dx (rdF z ((a.length+(hT ho n).length+1:Nat):Int))):=(old r nxr.symm nlr.symm ndr.symm).trans h1r;have h2w:H2 wa=some (.lst xs):=(old wa nxw.symm nlw.symm ndw.symm).trans h1w;have s12:aD H1 H2:=λb u e=>by
    rw [old b (λz=>by rw [z,hx1] at e;cases e) (λz=>by rw [z,hl] at e;cases e) (λz=>by rw [z,hd1] at e;cases e)];exact e
   have mO2:∀b,(O b\/b=x\/b=l)->bL (H2 b):=λb z=>by
    rcases z with z | z | z
    ·exact c7 s12 (m1 b z)
    ·rw [z,h2x];exact .inr (.inr (.inr ⟨(Co,dx',_),rfl⟩))
    ·rw [z,h2l];exact .inl ⟨[],rfl⟩
   have dv2:DV ⟨K,mg⟩ (λb=>O b\/b=x\/b=l) H2 v (hD ho n):=(dv.bZ (O':=λb=>O b\/b=x\/b=l) λb z=>by
    rcases z with z | z | z
    ·exact .inl z
    ·exact .inr (by rw [z];exact hx1)
    ·exact .inr (by rw [z];exact hl)).mono s12
   have R2:Rd1 K mg H2 r C dx (tx ((a++hT ho n++[40])++c++32::b)) (a++hT ho n++([40]:List Nat)).length:=by
    rw [hz2,a2l];exact ⟨h2r,R.rc,R.zl,by omega⟩
   obtain ⟨hd,ds,ed,ehd⟩:∃hd ds,hD ho n=.tup (.str hd::ds)/\hN ho=hd:=by cases ho<;>exact ⟨_,_,rfl,rfl⟩
   rw [ehd] at ld;refine ⟨_,rfl,_,rfl,λb=>O b\/b=x\/b=l,r,C,dx,x,Co,dx',v,.non,.ref l,hd,ds,a++hT ho n++[40],c,b,d,rfl,mO2,nxr.symm,R2,hc,h2x,occ,.inl or,by rw [← ed];exact dv2,ld,λlv H3 g3 dv3=>?_⟩;rw [hz2,a2l] at g3;have h3r:H3 r=some (.ins C dx (rdF z ((a.length+(hT ho n).length+1+c.length+1:Nat):Int))):=g3 _ _ az;have k3:∀b u,b≠r->H2 b=some u->H3 b=some u:=λb u nb e=>g3 b u (by unfold rdU;rw [aC nb];exact e);have h3w:H3 wa=some (.lst xs):=k3 _ _ rw_.symm h2w;have h3l:H3 l=some (.lst []):=k3 _ _ nlr h2l;have h3x:H3 x=some (.ins Co dx' (opF v .non (.ref l))):=k3 _ _ nxr h2x;have h4w:upd H3 x (.ins Co dx' (opF v lv (.ref l))) wa=some (.lst xs):=(aC nxw.symm).trans h3w;refine ⟨_,rfl,.inl ⟨rfl,xs,.inl (.inl h4w)⟩,_,rfl,wa,xs,.ref x,rfl,rfl,h4w,aS hx (by decide),?_⟩;have m3:∀b,(O b\/b=x\/b=l)->bL (H3 b):=λb z=>by
    by_cases e:b=r
    ·rw [e,h3r];exact .inr (.inr (.inr ⟨(C,dx,_),rfl⟩))
    ·cases hb:H2 b with
     |none=>have:=mO2 b z;rw [hb] at this;rcases this with ⟨_,e⟩ | ⟨_,e⟩ | ⟨_,e⟩ | ⟨_,e⟩<;>cases e
     |some u=>rw [k3 b u e hb,← hb];exact mO2 b z
   have kp:Kp (λb=>O b\/b=x\/b=l) H3 (upd (upd H3 x (.ins Co dx' (opF v lv (.ref l)))) wa (.lst (xs++[.ref x]))):=λb u e nb=>by
    rw [aC (λz=>nb (.inl (by rw [z];exact ow))),aC (λz=>nb (.inr (.inl z)))];exact e
   have kp2:Kp (λb=>O b\/b=x\/b=l) H2 H3:=λb u e nb=>k3 b u (λz=>nb (.inl (by rw [z];exact or))) e;refine q x Co dx' l v lv _ occ (back x hx1) (back l hl) nlx.symm ?_ az ?_ ?_ ?_ ((dv2.kp mO2 kp2).kp m3 kp) (dv3.kp m3 kp)
   ·rw [aC rw_,aC nxr.symm];exact h3r
   ·rw [aC nxw];exact az
   ·rw [aC nlw,aC nlx];exact h3l
   ·intro b u b1 b2 e;have e1:=k1 b u b1 e;have bx:b≠x:=λz=>by rw [z,hx1] at e1;cases e1
    rw [aC b2,aC bx];exact k3 b u b1 (s12 b u e1)
end
abbrev xZ:Stmt:=top 40
theorem qL:bB ["reader", "waiting", "game", "opened", "closed"] ["reader", "waiting", "game"] (aL xZ):=⟨rfl,rfl,rfl,by decide +kernel,rfl,by decide +kernel,by decide +kernel⟩
structure Top (K:av)(mg:Zs)(O:Za)(H:Hp)(r wa o Co dxo l:Addr)(hv lv:V)(xs:List Addr)(ws:List V)(hd:Str)(ds wd:List D)(dl:D):Prop where
 mO:∀b,O b->bL (H b)
 or:O r
 ow:O wa
 oo:O o
 ol:O l
 n1:r≠wa
 n2:r≠o
 n3:r≠l
 n4:wa≠o
 n5:wa≠l
 n6:o≠l
 hw:H wa=some (.lst ((xs++[o]).map V.ref))
 ho:H o=some (.ins Co dxo (opF hv lv (.ref l)))
 oc:OC K mg Co
 hl:H l=some (.lst ws)
 lw:ws.length<1000000
 dh:DV ⟨K,mg⟩ O H hv (.tup (.str hd::ds))
 dl:DV ⟨K,mg⟩ O H lv dl
 dw:DVs ⟨K,mg⟩ O H ws wd
theorem Top.mono {K:av}{mg:Zs}{O:Za}{H H':Hp}{r wa o Co dxo l:Addr}{hv lv:V}{xs:List Addr}{ws:List V}{hd:Str}{ds wd:List D}{dl:D}(T:Top K mg O H r wa o Co dxo l hv lv xs ws hd ds wd dl)(g:aD H H'):Top K mg O H' r wa o Co dxo l hv lv xs ws hd ds wd dl:=
 ⟨λb z=>c7 g<|T.mO b z,T.or,T.ow,T.oo,T.ol,T.n1,T.n2,T.n3,T.n4,T.n5,T.n6,g _ _ T.hw,g _ _ T.ho,T.oc,g _ _ T.hl,T.lw,T.dh.mono g,T.dl.mono g,T.dw.mono g⟩
def GnN (K:av)(mg:Zs)(Φ:Zf)(O:Za)(r C dx o Co dxo l:Addr)(hv:V)(ws:List V)(hd:Str)(dl dg:D)(H:Hp)(Q:VK):Prop:=∃(a c b:List Nat) (d:D),Rd1 K mg H r C dx (tx<|a++[44,32]++(c++32::b)) a.length/\(∀x∈c,x∉stops)/\Led Φ hd c d/\
 ∀p lv H',H p=none->H' r=some (.ins C dx<|rdF (tx<|a++[44,32]++(c++32::b)) ((a.length+2+c.length+1:Nat):Int))->H' l=some (.lst<|ws++[.ref p])->H' o=some (.ins Co dxo<|opF hv lv<|.ref l)->(∀b u,b≠r->b≠o->b≠l->H b=some u->H' b=some u)->
  DV ⟨K,mg⟩ O H' lv d->DV ⟨K,mg⟩ O H' (.ref p) (.tup [dl,dg])->Q .non H'
def GnC (K:av)(mg:Zs)(Ψ:Zf)(O:Za)(r C dx wa l:Addr)(xs:List Addr)(hd:Str)(ds wd:List D)(dl dg:D)(H:Hp)(Q:VK):Prop:=∃(a b:List Nat) (fr:Bool),Rd1 K mg H r C dx (tx<|a++[41]++b) a.length/\Ψ [.tup (.str hd::ds++[.tup<|wd++[.tup [dl,dg]]])]=.ok (fr,.bl true)/\ds.length<=10/\
 ∀v H',H' r=some (.ins C dx<|rdF (tx<|a++[41]++b) ((a.length+1:Nat):Int))->H' wa=some (.lst<|xs.map V.ref)->(∀b u,b≠r->b≠wa->b≠l->H b=some u->H' b=some u)->DV ⟨K,mg⟩ O H' v (.tup (.str hd::ds++[.tup<|wd++[.tup [dl,dg]]]))->Q v H'
def wX (K:av)(mg:Zs)(Φ Ψ:Zf):Sp:=λvs H Q E=>∃(O:Za) (r C dx wa o Co dxo l:Addr) (hv lv gv:V) (xs:List Addr) (ws:List V) (hd:Str) (ds wd:List D) (dl dg:D),vs=[.ref r,.ref wa,gv]/\Top K mg O H r wa o Co dxo l hv lv xs ws hd ds wd dl/\DV ⟨K,mg⟩ O H gv dg/\
 (GnN K mg Φ O r C dx o Co dxo l hv ws hd dl dg H Q\/GnC K mg Ψ O r C dx wa l xs hd ds wd dl dg H Q)
theorem K9 {G:Gx}{O:Za}{H:Hp}:∀xs:List Addr,DVs G O H (xs.map V.ref) (xs.map D.adr)
 |[]=>.nil
 |a::xs=>.cons (.adr a)<|K9 xs
theorem Ff {xs:List Addr}{o:Addr}:gIx (.lst<|(xs++[o]).map D.adr) (.int (-1))=some (.adr o):=by
 show atI ((xs++[o]).map D.adr) (-1)=_;unfold L2.atI L2.ixN
 simp
 rw[if_pos<|by omega];show(List.map D.adr xs++[D.adr o])[(-1+((xs.length:Int)+1)).toNat]? = _;rw[show(-1+((xs.length:Int)+1)).toNat=xs.length by omega]
 simp
theorem zE {xs:List Addr}{o:Addr}:((xs++[o]).map V.ref).dropLast=xs.map V.ref:=by
 rw[show(xs++[o]).map V.ref=xs.map V.ref++[V.ref o] by simp];exact List.dropLast_concat
theorem zM {xs:List Addr}{o:Addr}:((xs++[o]).map V.ref)[((xs++[o]).map V.ref).length-1]? = some (.ref o):=by
 have e:(xs++[o]).map V.ref=xs.map V.ref++[V.ref o]:=by simp
 rw[e,show(xs.map V.ref++[V.ref o]).length-1=(xs.map V.ref).length by simp,cc<|a9 _]
 simp
section
variable {P:bg}{w:cw}{K:av}{mg:Zs}{base:Heap}{f:Addr}{fd:dQ}{Φ Ψ:Zf}
theorem Oo (B:Bt mg)(Gp:FMt P w K mg base 1 "Reader" "passes" ["self", "piece"] (gV K mg))(Gn:FMt P w K mg base 2 "Reader" "need" ["self", "piece"] (qO K mg))(Gf:FF P w K mg base 6 "is_formed" ["thing"] Ψ)
  (Gl:Hd.Fn P w K mg base 5 "read_lead" ["reader", "opened"] (Bs K mg Φ)) (Fu:Fun K "gone_on" "gone_on" xZ f fd):bR P w K mg base (CX1 P w) 7 f fd ["reader", "waiting", "game"] (wX K mg Φ Ψ):=by
 refine cO Fu qL (λvs H Q E h=>by obtain⟨O,r,C,dx,wa,o,Co,dxo,l,hv,lv,gv,xs,ws,hd,ds,wd,dl,dg,rfl,_⟩:=h;rfl) λcdv A outer s H vs Q E hr h=>?_;obtain⟨O,r,C,dx,wa,o,Co,dxo,l,hv,lv,gv,xs,ws,hd,ds,wd,dl,dg,rfl,T,dgv,h⟩:=h;have hu:=hr.units;refine⟨_,aJ (cu (i:=3) qL.nd rfl (af rfl)<|uQ eO (aA (i:=1) rfl<|af rfl) (Mq xK lJ) λ_ _=>rfl)
  (aJ (cF<|rH dS fg fq ig (dj (aA (i:=3) rfl<|af rfl) rfl)<|aB (jA<|aB (dj (aA (i:=3) rfl<|af rfl) rfl)<|aB (aA (i:=2) rfl<|af rfl) aP) aP)
  (aJ (gf (gK<|eF Gp hr (E:=E) aK (aA (i:=0) rfl<|af rfl)<|aB cj aP)
   (aJ (cF<|nF Gl hr<|aB (aA (i:=0) rfl<|af rfl)<|aB (aA (i:=3) rfl<|af rfl) aP)<|bA<|dW qH) dH)
  (aJ (cF<|eF Gn hr (E:=E) aK (aA (i:=0) rfl<|af rfl)<|aB cj aP)
  (aJ (cF<|Az dS mf mh Ck<|aA (i:=1) rfl<|af rfl)
  (aJ (cu (i:=4) qL.nd rfl (af rfl)<|Dq aV (dj (aA (i:=3) rfl<|af rfl) rfl)<|jA<|aB (kW rC rfl B.tuple iQ<|aB (dj (aA (i:=3) rfl<|af rfl) rfl) aP) aP)
  (aJ (gf (nu<|gK<|nF Gf hr<|aB (aA (i:=4) rfl<|af rfl) aP) kJ dH)
  (bA<|dW<|aA (i:=4) rfl<|af rfl))))))),?_⟩
 refine⟨_,rfl,O,_,_,T.mO,.inl<|.int 1,(rfl:Ms (.int 1)=some (.int (-1))),λv1 H1 g1 d1=>?_⟩;cases d1;have T1:=T.mono g1;refine⟨O,.lst<|(xs++[o]).map D.adr,.int (-1),_,T1.mO,.inr ⟨wa,rfl,T1.ow,_,T1.hw,K9 _⟩,.inl<|.int _,Ff,λv2 H2 g2 d2=>?_⟩;have T2:=T1.mono g2;have g02:=g1.trans g2;cases d2;refine⟨_,rfl,o,Co,dxo,_,.ref l,rfl,T2.ho,T2.oc.cls,T2.oc.ways,rfl,.inl ⟨rfl,ws,.inl<|.inl T2.hl⟩,_,rfl,o,Co,dxo,_,lv,rfl,T2.ho,T2.oc.cls,T2.oc.lead,rfl,_,rfl,by simp,λp hp=>?_⟩;have ne:∀{b u},H2 b=some u->b≠p:=λe z=>by rw[z,hp] at e;cases e
 have h3l:upd H2 p (.tup [lv,gv]) l=some (.lst ws):=(aC<|ne T2.hl).trans T2.hl;refine⟨l,ws,.ref p,rfl,rfl,h3l,aS T2.lw (by decide),?_⟩;generalize hH4:upd (upd H2 p<|.tup [lv,gv]) l (.lst<|ws++[.ref p])=H4;have old:∀b,b≠p->b≠l->H4 b=H2 b:=λb b1 b2=>by rw[← hH4,aC b2,aC b1]
 have np:H p=none:=by
  cases e:H p with
  |none=>rfl
  |some u=>rw[g02 _ _ e] at hp;cases hp
 have npl:p≠l:=λz=>ne T2.hl z.symm;have h4p:H4 p=some (.tup [lv,gv]):=by rw[← hH4,aC npl];exact az
 have h4l:H4 l=some (.lst<|ws++[.ref p]):=by rw[← hH4];exact az
 have h4o:H4 o=some (.ins Co dxo<|opF hv lv<|.ref l):=(old o (ne T2.ho) T2.n6).trans T2.ho;have h4w:H4 wa=some (.lst<|(xs++[o]).map V.ref):=(old wa (ne T2.hw) T2.n5).trans T2.hw;have kp4:Kp O H2 H4:=λb u e nb=>by
  rw[old b (ne e) λz=>nb (by rw[z];exact T2.ol)];exact e
 have mO4:∀b,O b->bL (H4 b):=λb ob=>by
  by_cases z:b=l
  ·rw[z,h4l];exact .inl ⟨_,rfl⟩
  ·have m2:=T2.mO b ob;have nb:b≠p:=λy=>by rw[y,hp] at m2;rcases m2 with⟨_,e⟩|⟨_,e⟩|⟨_,e⟩|⟨_,e⟩<;>cases e
   rw[old b nb z];exact m2
 have dh4:=T2.dh.kp T2.mO kp4;have dl4:=T2.dl.kp T2.mO kp4;have dg4:DV ⟨K,mg⟩ O H4 gv dg:=(dgv.mono g02).kp T2.mO kp4;have dp4:DV ⟨K,mg⟩ O H4 (.ref p) (.tup [dl,dg]):=.tup (.inl h4p)<|.cons dl4<|.cons dg4 .nil;have dw4:DVs ⟨K,mg⟩ O H4 (ws++[.ref p]) (wd++[.tup [dl,dg]]):=gU (T2.dw.kp T2.mO kp4)<|.cons dp4 .nil;have rd4:∀{z i},Rd1 K mg H r C dx z i->Rd1 K mg H4 r C dx z i:=λR=>⟨(old r (ne<|g02 _ _ R.at_) T2.n3).trans<|g02 _ _ R.at_,R.rc,R.zl,R.il⟩;have k4:∀b u,b≠l->H b=some u->H4 b=some u:=λb u nb e=>(old b (ne<|g02 _ _ e) nb).trans<|g02 _ _ e;have lc:(ae ", ").length=2:=by decide +kernel
 have lp:(ae ")").length=1:=by decide +kernel
 have sc:ae ", " = tx [44,32]:=by decide +kernel
 have sp:ae ")" = tx [41]:=by decide +kernel
 rcases h with⟨a,c,b,d,R,hc,ld,q⟩|⟨a,b,fr,R,e,dsl,q⟩
 ·have zl:(tx<|a++[44,32]++(c++32::b)).length=a.length+2+c.length+1+b.length:=by rw[aW];simp;omega
  have hz2:tx ((a++[44,32])++c++32::b)=tx (a++[44,32]++(c++32::b)):=by congr 1;simp
  have a2l:(a++([44,32]:List Nat)).length=a.length+2:=by simp
  have pc:Pc (tx<|a++[44,32]++(c++32::b)) a.length ", " = true:=wM (p:=[44,32]) (b:=c++32::b) sc (by simp) rfl;have R4:=rd4 R;refine⟨_,rfl,r,C,dx,_,rfl,R.rc.at_,R4.at_,rfl,r,C,dx,_,_,_,rfl,R4,by rw[lc];decide,?_⟩;rw[if_pos pc];refine⟨_,rfl,?_⟩;show if true=true then _ else _
  rw[if_pos rfl,lc];generalize hz:tx (a++[44,32]++(c++32::b))=z at *;have m5:∀b,O b->bL (rdU H4 r C dx z (a.length+2) b):=wO mO4;have k5:Kp O H4 (rdU H4 r C dx z<|a.length+2):=t8 T2.or;have R5:Rd1 K mg (rdU H4 r C dx z<|a.length+2) r C dx (tx ((a++[44,32])++c++32::b)) (a++([44,32]:List Nat)).length:=by
   rw[hz2,a2l];exact⟨az,R.rc,R.zl,by omega⟩
  refine⟨_,rfl,_,rfl,O,r,C,dx,o,Co,dxo,hv,lv,.ref l,hd,ds,a++[44,32],c,b,d,rfl,m5,T2.n2,R5,hc,(aC T2.n2.symm).trans h4o,T2.oc,T2.or,dh4.kp mO4 k5,ld,λlv' H6 g6 dv6=>?_⟩;rw[hz2,a2l] at g6;have h6r:H6 r=some (.ins C dx<|rdF z ((a.length+2+c.length+1:Nat):Int)):=g6 _ _ az;have k6:∀b u,b≠r->H4 b=some u->H6 b=some u:=λb u nb e=>g6 b u (by unfold rdU;rw[aC nb,aC nb];exact e);have kq:Kp O H4 H6:=λb u e nb=>k6 b u (λz=>nb (by rw[z];exact T2.or)) e;have m6:∀b,O b->bL (H6 b):=λb ob=>by
   by_cases z:b=r
   ·rw[z,h6r];exact .inr<|.inr<|.inr ⟨(C,dx,_),rfl⟩
   ·cases hb:H4 b with
    |none=>have:=mO4 b ob;rw[hb] at this;rcases this with⟨_,e⟩|⟨_,e⟩|⟨_,e⟩|⟨_,e⟩<;>cases e
    |some u=>rw[k6 b u z hb,← hb];exact mO4 b ob
  have k7:Kp O H6 (upd H6 o<|.ins Co dxo<|opF hv lv'<|.ref l):=t8 T2.oo;refine q p lv' _ np ((aC T2.n2).trans h6r) ((aC T2.n6.symm).trans<|k6 _ _ T2.n3.symm h4l) az (λb u b1 b2 b3 e=>(aC b2).trans<|k6 b u b1<|k4 b u b3 e) (dv6.kp m6 k7)<|(dp4.kp mO4 kq).kp m6 k7
 ·have zl:(tx<|a++[41]++b).length=a.length+1+b.length:=by rw[aW];simp;omega
  have pc0:Pc (tx<|a++[41]++b) a.length ", " = false:=by rw[aE];exact xF sc<|by simp
  have pc:Pc (tx<|a++[41]++b) a.length ")" = true:=wM (p:=[41]) (b:=b) sp (by simp) rfl;have R4:=rd4 R;refine⟨_,rfl,r,C,dx,_,rfl,R.rc.at_,R4.at_,rfl,r,C,dx,_,_,_,rfl,R4,by rw[lc];decide,?_⟩;rw[if_neg (by rw[pc0];simp)];refine⟨_,rfl,?_⟩;show if false=true then _ else _
  rw[if_neg<|by simp];refine⟨_,rfl,r,C,dx,_,rfl,R.rc.at_,R4.at_,rfl,r,C,dx,_,_,_,rfl,R4,by rw[lp];decide,pc,?_⟩;rw[lp];generalize hz:tx (a++[41]++b)=z at *;have h5w:rdU H4 r C dx z (a.length+1) wa=some (.lst<|(xs++[o]).map V.ref):=(aC T2.n1.symm).trans h4w;refine⟨_,rfl,.inl ⟨rfl,_,.inl<|.inl h5w⟩,wa,_,.ref o,rfl,rfl,h5w,zM,?_⟩;rw[zE];generalize hH6:upd (rdU H4 r C dx z<|a.length+1) wa (.lst<|xs.map V.ref)=H6;have old6:∀b,b≠wa->b≠r->H6 b=H4 b:=λb b1 b2=>by rw[← hH6,aC b1];exact aC b2
  have h6r:H6 r=some (.ins C dx<|rdF z ((a.length+1:Nat):Int)):=by rw[← hH6,aC T2.n1];exact az
  have h6w:H6 wa=some (.lst<|xs.map V.ref):=by rw[← hH6];exact az
  have k6:Kp O H4 H6:=λb u e nb=>by rw[old6 b (λz=>nb (by rw[z];exact T2.ow)) λz=>nb (by rw[z];exact T2.or)];exact e
  have m6:∀b,O b->bL (H6 b):=λb ob=>by
   by_cases z:b=r
   ·rw[z,h6r];exact .inr<|.inr<|.inr ⟨(C,dx,_),rfl⟩
   ·by_cases y:b=wa
    ·rw[y,h6w];exact .inl ⟨_,rfl⟩
    ·rw[old6 b y z];exact mO4 b ob
  have h6o:H6 o=some (.ins Co dxo<|opF hv lv<|.ref l):=(old6 o T2.n4.symm T2.n2.symm).trans h4o;have h6l:H6 l=some (.lst<|ws++[.ref p]):=(old6 l T2.n5.symm T2.n3.symm).trans h4l;refine⟨_,rfl,o,Co,dxo,_,hv,rfl,h6o,T2.oc.cls,T2.oc.head,rfl,_,rfl,o,Co,dxo,_,.ref l,rfl,h6o,T2.oc.cls,T2.oc.ways,rfl,O,[D.lst<|wd++[D.tup [dl,dg]]],D.tup<|wd++[D.tup [dl,dg]],m6,.cons (.inr ⟨l,rfl,T2.ol,_,h6l,dw4.kp mO4 k6⟩) .nil,rfl,λv7 H7 g7 d7=>⟨by simp,λp' hp'=>?_⟩⟩;have g67:aD H6 (upd H7 p'<|.tup [v7]):=g7.trans<|bC hp' _;have m7:∀b,O b->bL (upd H7 p' (.tup [v7]) b):=λb ob=>c7 g67<|m6 b ob;refine⟨O,.tup (.str hd::ds),.tup [.tup<|wd++[.tup [dl,dg]]],.tup (.str hd::ds++[.tup<|wd++[.tup [dl,dg]]]),m7,.inl<|(dh4.kp mO4 k6).mono g67,.inl<|.tup (.inl az)<|.cons (d7.mono<|bC hp' _) .nil,?_,λv8 H8 g8 d8=>?_⟩
  ·show(if(D.str hd::ds).length+[D.tup<|wd++[.tup [dl,dg]]].length<=be then some (D.tup<|(D.str hd::ds)++[D.tup<|wd++[.tup [dl,dg]]]) else none)=_;have zz:be=16777216:=rfl;rw[if_pos (by simp only[bX,lx];omega)]
  ·have g68:=g67.trans g8;have m8:∀b,O b->bL (H8 b):=λb ob=>c7 g68<|m6 b ob;refine⟨_,rfl,O,_,m8,.cons d8 .nil,?_⟩;rw[e];refine λv9 H9 g9 d9 _=>?_;cases d9;refine⟨_,rfl,?_⟩;show if false=true then _ else _
   rw[if_neg<|by simp];refine⟨_,rfl,q _ _ ((g68.trans g9) _ _ h6r) ((g68.trans g9) _ _ h6w) (λb u b1 b2 b3 e=>(g68.trans g9) _ _<|(old6 b b2 b1).trans<|k4 b u b3 e)<|d8.mono g9⟩
end
structure Frm where
 ho:Option Int
 n:List Nat
 dn:List D
 d:D
 left:Option Wt
def lT:Option Wt->List Nat
 |none=>[41]
 |some r=>44::32::(tW r++[41])
def lD:Option Wt->List D
 |none=>[]
 |some r=>dWt r
def kT:List Frm->List Nat
 |[]=>[]
 |f::fs=>lT f.left++kT fs
def pP:List Frm->D->D
 |[],d=>d
 |f::fs,d=>pP fs<|clD f.ho f.n (f.dn++.tup [f.d,d]::lD f.left)
def hdW:Wt->List Nat×D×Gt×Option Wt
 | .one c d g=>(c,d,g,none)
 | .more c d g r=>(c,d,g,some r)
theorem Rm (ws:Wt):tW ws++[41]=(hdW ws).1++32::(tG (hdW ws).2.2.1++lT (hdW ws).2.2.2):=by
 cases ws<;>simp[tW,hdW,lT]
theorem Fe (ws:Wt):dWt ws=.tup [(hdW ws).2.1,dGt (hdW ws).2.2.1]::lD (hdW ws).2.2.2:=by
 cases ws<;>simp[dWt,hdW,lD]
theorem Uu (ho:Option Int)(n:List Nat)(ws:Wt)(fs:List Frm):tG (.nd ho n ws)++kT fs=hT ho n++40::((hdW ws).1++32::(tG (hdW ws).2.2.1++kT (⟨ho,n,[],(hdW ws).2.1,(hdW ws).2.2.2⟩::fs))):=by
 have e:=congrArg (· ++ kT fs)<|Rm ws;simp only[tG,kT,aE,br,ef] at e ⊢;rw[e]
theorem Uo (ho:Option Int)(n:List Nat)(ws:Wt)(fs:List Frm):pP fs (dGt<|.nd ho n ws)=pP (⟨ho,n,[],(hdW ws).2.1,(hdW ws).2.2.2⟩::fs) (dGt (hdW ws).2.2.1):=by
 simp only[pP,dGt,ef];rw[Fe ws]
theorem SN (f:Frm)(r:Wt)(h:f.left=some r)(fs:List Frm):kT (f::fs)=44::32::((hdW r).1++32::(tG (hdW r).2.2.1++kT (⟨f.ho,f.n,[],(hdW r).2.1,(hdW r).2.2.2⟩::fs))):=by
 show lT f.left++kT fs=_;rw[h];show 44::32::(tW r++[41])++kT fs=_;rw[Rm r];simp[kT]
theorem Uh (f:Frm)(r:Wt)(h:f.left=some r)(fs:List Frm)(d:D):pP (f::fs) d=pP (⟨f.ho,f.n,f.dn++[.tup [f.d,d]],(hdW r).2.1,(hdW r).2.2.2⟩::fs) (dGt (hdW r).2.2.1):=by
 show pP fs (clD f.ho f.n (f.dn++.tup [f.d,d]::lD f.left))=pP fs (clD f.ho f.n ((f.dn++[.tup [f.d,d]])++.tup [(hdW r).2.1,dGt (hdW r).2.2.1]::lD (hdW r).2.2.2));rw[h];show pP fs (clD f.ho f.n (f.dn++.tup [f.d,d]::dWt r))=_;rw[Fe r,aE];rfl
theorem QL (f:Frm)(h:f.left=none)(fs:List Frm)(d:D):pP (f::fs) d=pP fs (clD f.ho f.n<|f.dn++[.tup [f.d,d]]):=by
 simp only[pP,h,lD]
theorem iT:bB ["text", "reader", "waiting", "game"] ["text"] (aL uH):=⟨rfl,rfl,rfl,by decide +kernel,rfl,by decide +kernel,by decide +kernel⟩
def FrO (K:av)(mg:Zs)(O:Za)(H:Hp)(f:Frm)(p:Addr×Addr):Prop:=∃(Co dxo:Addr) (hv lv:V) (ws:List V),OC K mg Co/\H p.1=some (.ins Co dxo<|opF hv lv<|.ref p.2)/\H p.2=some (.lst ws)/\DV ⟨K,mg⟩ O H hv (hD f.ho f.n)/\DV ⟨K,mg⟩ O H lv f.d/\DVs ⟨K,mg⟩ O H ws f.dn
structure Ad (H0:Hp)(r wa:Addr)(p:Addr×Addr)(ps:List (Addr×Addr)):Prop where
 n1:H0 p.1=none
 n2:H0 p.2=none
 n12:p.1≠p.2
 r1:p.1≠r
 r2:p.2≠r
 w1:p.1≠wa
 w2:p.2≠wa
 ps:∀q∈ps,(q.1≠p.1/\q.1≠p.2)/\q.2≠p.1/\q.2≠p.2
def FrS (K:av)(mg:Zs)(O:Za)(H0 H:Hp)(r wa:Addr):List Frm->List (Addr×Addr)->Prop
 |[],[]=>True
 |f::fs,p::ps=>FrO K mg O H f p/\Ad H0 r wa p ps/\FrS K mg O H0 H r wa fs ps
 |_,_=>False
def Own (O0:Za)(r wa:Addr)(ps:List (Addr×Addr)):Za:=λb=>O0 b\/b=r\/b=wa\/∃p∈ps,b=p.1\/b=p.2
theorem KZ {G:Gx}{O O':Za}{H H':Hp}(t:∀v d,DV G O H v d->DV G O' H' v d):∀{vs:List V} {ds:List D},DVs G O H vs ds->DVs G O' H' vs ds
 |_,_,.nil=>.nil
 |_,_,.cons h hs=>.cons (t _ _ h)<|KZ t hs
theorem Oi {G:Gx}{O O':Za}{H H':Hp}(s:∀b,O' b->O b\/H b=none)(m:∀b,O b->bL (H b))(m':∀b,O' b->bL (H' b))(k:Kp O' H H'){v:V}{d:D}(h:DV G O H v d):DV G O' H' v d:=by
 classical
 have h1:DV G O' H v d:=h.bZ s
 let H1:Hp:=λb=>if H b=none/\O' b then H' b else H b
 have e1:aD H H1:=λb u e=>by
  show(if H b=none/\O' b then H' b else H b)=_;rw[if_neg (λz=>by rw[z.1] at e;cases e)];exact e
 have h2:DV G O' H1 v d:=h1.mono e1;refine h2.kp (λb ob=>?_) λb u e nb=>?_
 ·show bL (if H b=none/\O' b then H' b else H b);by_cases z:H b=none
  ·rw[if_pos ⟨z,ob⟩];exact m' b ob
  ·rw[if_neg λy=>z y.1];exact m b<|(s b ob).resolve_right z
 ·have e':(if H b=none/\O' b then H' b else H b)=some u:=e;rw[if_neg λy=>nb y.2] at e';exact k b u e' nb
section
variable {K:av}{mg:Zs}{O O':Za}{H0 H H':Hp}{r wa:Addr}
theorem FrO.tr {f:Frm}{p:Addr×Addr}(h:FrO K mg O H f p)(t:∀v d,DV ⟨K,mg⟩ O H v d->DV ⟨K,mg⟩ O' H' v d)(k1:∀u,H p.1=some u->H' p.1=some u)(k2:∀u,H p.2=some u->H' p.2=some u):FrO K mg O' H' f p:=by
 obtain⟨Co,dxo,hv,lv,ws,oc,e1,e2,d1,d2,d3⟩:=h;exact⟨Co,dxo,hv,lv,ws,oc,k1 _ e1,k2 _ e2,t _ _ d1,t _ _ d2,KZ t d3⟩
theorem FrS.tr (t:∀v d,DV ⟨K,mg⟩ O H v d->DV ⟨K,mg⟩ O' H' v d):∀{fs:List Frm} {ps:List (Addr×Addr)},FrS K mg O H0 H r wa fs ps->(∀q∈ps,(∀u,H q.1=some u->H' q.1=some u)/\∀u,H q.2=some u->H' q.2=some u)->FrS K mg O' H0 H' r wa fs ps
 |[],[],_,_=>trivial
 |f::fs,p::ps,⟨h,a,hs⟩,k=>⟨h.tr t (k p<|a8).1 (k p<|a8).2,a,FrS.tr t hs λq hq=>k q<|ax _ hq⟩
 |[],_::_,h,_=>h.elim
 |_::_,[],h,_=>h.elim
theorem FrS.mut:∀{fs:List Frm} {ps:List (Addr×Addr)},FrS K mg O H0 H r wa fs ps->∀q∈ps,bL (H q.1)/\bL (H q.2)
 |[],[],_,q,hq=>by cases hq
 |f::fs,p::ps,⟨⟨Co,dxo,hv,lv,ws,_,e1,e2,_⟩,_,hs⟩,q,hq=>by
  rcases ag.1 hq with rfl|hq
  ·exact⟨by rw[e1];exact .inr<|.inr<|.inr ⟨(Co,dxo,_),rfl⟩,by rw[e2];exact .inl ⟨_,rfl⟩⟩
  ·exact hs.mut q hq
 |[],_::_,h,_,_=>h.elim
 |_::_,[],h,_,_=>h.elim
theorem FrS.new:∀{fs:List Frm} {ps:List (Addr×Addr)},FrS K mg O H0 H r wa fs ps->∀q∈ps,(H0 q.1=none/\H0 q.2=none)/\(q.1≠r/\q.1≠wa)/\q.2≠r/\q.2≠wa
 |[],[],_,q,hq=>by cases hq
 |f::fs,p::ps,⟨_,a,hs⟩,q,hq=>by
  rcases ag.1 hq with rfl|hq
  ·exact⟨⟨a.n1,a.n2⟩,⟨a.r1,a.w1⟩,a.r2,a.w2⟩
  ·exact hs.new q hq
 |[],_::_,h,_,_=>h.elim
 |_::_,[],h,_,_=>h.elim
theorem FrS.len:∀{fs:List Frm} {ps:List (Addr×Addr)},FrS K mg O H0 H r wa fs ps->ps.length=fs.length
 |[],[],_=>rfl
 |f::fs,p::ps,⟨_,_,hs⟩=>by simp[hs.len]
 |[],_::_,h=>h.elim
 |_::_,[],h=>h.elim
end
structure RS (K:av)(mg:Zs)(O0:Za)(H0:Hp)(r C dx wa:Addr)(z:Str)(fs:List Frm)(ps:List (Addr×Addr))(i:Nat)(H:Hp):Prop where
 sm:aD H0 H
 m0:∀b,O0 b->bL (H0 b)
 rd:Rd1 K mg H r C dx z i
 rw:r≠wa
 r0:H0 r=none
 w0:H0 wa=none
 hw:H wa=some (.lst ((ps.map n9).reverse.map V.ref))
 fr:FrS K mg (Own O0 r wa ps) H0 H r wa fs ps
section
variable {K:av}{mg:Zs}{O0:Za}{H0 H H':Hp}{r C dx wa:Addr}{z:Str}{fs:List Frm}{ps:List (Addr×Addr)}{i j:Nat}
theorem RS.mO (R:RS K mg O0 H0 r C dx wa z fs ps i H):∀b,Own O0 r wa ps b->bL (H b):=λb ob=>by
 rcases ob with o|o|o|⟨p,hp,o|o⟩
 ·exact c7 R.sm<|R.m0 b o
 ·rw[o,R.rd.at_];exact .inr<|.inr<|.inr ⟨(C,dx,_),rfl⟩
 ·rw[o,R.hw];exact .inl ⟨_,rfl⟩
 ·rw[o];exact(R.fr.mut p hp).1
 ·rw[o];exact(R.fr.mut p hp).2
theorem oJ:Own O0 r wa ps r:=.inr<|.inl rfl
theorem wI:Own O0 r wa ps wa:=.inr<|.inr<|.inl rfl
theorem zx {p:Addr×Addr}:Own O0 r wa (p::ps) p.1:=.inr<|.inr<|.inr ⟨p,a8,.inl rfl⟩
theorem v5 {p:Addr×Addr}:Own O0 r wa (p::ps) p.2:=.inr<|.inr<|.inr ⟨p,a8,.inr rfl⟩
theorem zc {p:Addr×Addr}{b:Addr}(h:Own O0 r wa ps b):Own O0 r wa (p::ps) b:=by
 rcases h with h|h|h|⟨q,hq,h⟩
 ·exact .inl h
 ·exact .inr<|.inl h
 ·exact .inr<|.inr<|.inl h
 ·exact .inr<|.inr<|.inr ⟨q,ax _ hq,h⟩
theorem Du {p:Addr×Addr}{b:Addr}(h:Own O0 r wa (p::ps) b):Own O0 r wa ps b\/b=p.1\/b=p.2:=by
 rcases h with h|h|h|⟨q,hq,h⟩
 ·exact .inl<|.inl h
 ·exact .inl<|.inr<|.inl h
 ·exact .inl<|.inr<|.inr<|.inl h
 ·rcases ag.1 hq with rfl|hq
  ·exact .inr h
  ·exact .inl<|.inr<|.inr<|.inr ⟨q,hq,h⟩
theorem RS.on (R:RS K mg O0 H0 r C dx wa z fs ps i H)(hj:j<=z.length)(g:aD (rdU H r C dx z j) H'):RS K mg O0 H0 r C dx wa z fs ps j H':=by
 have k:∀b u,b≠r->H b=some u->H' b=some u:=λb u nb e=>g b u (by unfold rdU;rw[aC nb];exact e);refine⟨λb u e=>k b u (λz=>by rw[z,R.r0] at e;cases e) (R.sm b u e),R.m0,⟨g _ _ az,R.rd.rc,R.rd.zl,hj⟩,R.rw,R.r0,R.w0,k _ _ R.rw.symm R.hw,R.fr.tr (λv d h=>h.kp R.mO λb u e nb=>k b u (λz=>nb (by rw[z];exact oJ)) e) λq hq=>?_⟩;obtain⟨_,⟨a,_⟩,b,_⟩:=R.fr.new q hq;exact⟨λu e=>k _ u a e,λu e=>k _ u b e⟩
theorem RS.open {f:Frm}{o l Co dxo:Addr}{hv lv:V}(R:RS K mg O0 H0 r C dx wa z fs ps i H)(hj:j<=z.length)(oc:OC K mg Co)(no:H o=none)(nl:H l=none)(ol:o≠l)(hr:H' r=some (.ins C dx<|rdF z (j:Int)))(hw:H' wa=some (.lst<|(ps.map n9).reverse.map V.ref++[.ref o]))
  (ho:H' o=some (.ins Co dxo<|opF hv lv<|.ref l)) (hl:H' l=some (.lst [])) (k:∀b u,b≠r->b≠wa->H b=some u->H' b=some u) (hd:f.dn=[])
  (d1:DV ⟨K,mg⟩ (Own O0 r wa ((o,l)::ps)) H' hv (hD f.ho f.n)) (d2:DV ⟨K,mg⟩ (Own O0 r wa ((o,l)::ps)) H' lv f.d):RS K mg O0 H0 r C dx wa z (f::fs) ((o,l)::ps) j H':=by
 have n0:∀{b},H b=none->H0 b=none:=λ{b} e=>by
  cases h:H0 b with
  |none=>rfl
  |some u=>rw[R.sm _ _ h] at e;cases e
 have s:∀b,Own O0 r wa ((o,l)::ps) b->Own O0 r wa ps b\/H b=none:=λb h=>by
  rcases Du h with h|h|h
  ·exact .inl h
  ·exact .inr (by rw[h];exact no)
  ·exact .inr (by rw[h];exact nl)
 have ne:∀{b u},H b=some u->b≠o/\b≠l:=λe=>⟨λz=>(by rw[z,no] at e;cases e),λz=>(by rw[z,nl] at e;cases e)⟩;have m':∀b,Own O0 r wa ((o,l)::ps) b->bL (H' b):=λb h=>by
  rcases Du h with h|h|h
  ·by_cases z1:b=r
   ·rw[z1,hr];exact .inr<|.inr<|.inr ⟨(C,dx,_),rfl⟩
   ·by_cases z2:b=wa
    ·rw[z2,hw];exact .inl ⟨_,rfl⟩
    ·have m:=R.mO b h;cases hb:H b with
     |none=>rw[hb] at m;rcases m with⟨_,e⟩|⟨_,e⟩|⟨_,e⟩|⟨_,e⟩<;>cases e
     |some u=>rw[k b u z1 z2 hb,← hb];exact m
  ·rw[h,ho];exact .inr<|.inr<|.inr ⟨(Co,dxo,_),rfl⟩
  ·rw[h,hl];exact .inl ⟨_,rfl⟩
 have kp:Kp (Own O0 r wa ((o,l)::ps)) H H':=λb u e nb=>k b u (λz=>nb (by rw[z];exact oJ)) (λz=>nb (by rw[z];exact wI)) e;refine⟨λb u e=>k b u (λz=>by rw[z,R.r0] at e;cases e) (λz=>by rw[z,R.w0] at e;cases e) (R.sm b u e),R.m0,⟨hr,R.rd.rc,R.rd.zl,hj⟩,R.rw,R.r0,R.w0,by rw[hw];simp,⟨Co,dxo,hv,lv,[],oc,ho,hl,d1,d2,by rw[hd];exact .nil⟩,?_,?_⟩
 ·refine⟨n0 no,n0 nl,ol,(ne R.rd.at_).1.symm,(ne R.rd.at_).2.symm,(ne R.hw).1.symm,(ne R.hw).2.symm,λq hq=>?_⟩;obtain⟨m1,m2⟩:=R.fr.mut q hq;have f1:∀{b},bL (H b)->b≠o/\b≠l:=λ{b} m=>by
   cases hb:H b with
   |none=>rw[hb] at m;rcases m with⟨_,e⟩|⟨_,e⟩|⟨_,e⟩|⟨_,e⟩<;>cases e
   |some u=>exact ne hb
  exact⟨f1 m1,f1 m2⟩
 ·refine R.fr.tr (λv d h=>Oi s R.mO m' kp h) λq hq=>?_;obtain⟨_,⟨a1,a2⟩,b1,b2⟩:=R.fr.new q hq;exact⟨λu e=>k _ u a1 a2 e,λu e=>k _ u b1 b2 e⟩
theorem RS.next {f f':Frm}{p:Addr×Addr}{Co dxo:Addr}{hv lv:V}{ws:List V}(R:RS K mg O0 H0 r C dx wa z (f::fs) (p::ps) i H)(hj:j<=z.length)(oc:OC K mg Co)(hr:H' r=some (.ins C dx<|rdF z (j:Int)))(ho:H' p.1=some (.ins Co dxo<|opF hv lv<|.ref p.2))(hl:H' p.2=some (.lst ws))
  (k:∀b u,b≠r->b≠p.1->b≠p.2->H b=some u->H' b=some u) (d1:DV ⟨K,mg⟩ (Own O0 r wa (p::ps)) H' hv (hD f'.ho f'.n)) (d2:DV ⟨K,mg⟩ (Own O0 r wa (p::ps)) H' lv f'.d) (d3:DVs ⟨K,mg⟩ (Own O0 r wa (p::ps)) H' ws f'.dn):RS K mg O0 H0 r C dx wa z (f'::fs) (p::ps) j H':=by
 obtain⟨_,a,hs⟩:=R.fr;have kp:Kp (Own O0 r wa (p::ps)) H H':=λb u e nb=>k b u (λz=>nb (by rw[z];exact oJ)) (λz=>nb (by rw[z];exact zx)) (λz=>nb (by rw[z];exact v5)) e;refine⟨λb u e=>k b u (λz=>by rw[z,R.r0] at e;cases e) (λz=>by rw[z,a.n1] at e;cases e) (λz=>by rw[z,a.n2] at e;cases e) (R.sm b u e),R.m0,⟨hr,R.rd.rc,R.rd.zl,hj⟩,R.rw,R.r0,R.w0,k _ _ R.rw.symm a.w1.symm a.w2.symm R.hw,⟨Co,dxo,hv,lv,ws,oc,ho,hl,d1,d2,d3⟩,a,?_⟩;refine hs.tr (λv d h=>h.kp R.mO kp) λq hq=>?_;obtain⟨_,⟨a1,a2⟩,b1,b2⟩:=hs.new q hq;obtain⟨⟨c1,c2⟩,e1,e2⟩:=a.ps q hq;exact⟨λu e=>k _ u a1 c1 c2 e,λu e=>k _ u b1 e1 e2 e⟩
theorem RS.close {f:Frm}{p:Addr×Addr}(R:RS K mg O0 H0 r C dx wa z (f::fs) (p::ps) i H)(hj:j<=z.length)(hr:H' r=some (.ins C dx<|rdF z (j:Int)))(hw:H' wa=some (.lst<|(ps.map n9).reverse.map V.ref))
  (k:∀b u,b≠r->b≠wa->b≠p.2->H b=some u->H' b=some u):RS K mg O0 H0 r C dx wa z fs ps j H':=by
 obtain⟨_,a,hs⟩:=R.fr;have kp:Kp (Own O0 r wa (p::ps)) H H':=λb u e nb=>k b u (λz=>nb (by rw[z];exact oJ)) (λz=>nb (by rw[z];exact wI)) (λz=>nb (by rw[z];exact v5)) e;refine⟨λb u e=>k b u (λz=>by rw[z,R.r0] at e;cases e) (λz=>by rw[z,R.w0] at e;cases e) (λz=>by rw[z,a.n2] at e;cases e) (R.sm b u e),R.m0,⟨hr,R.rd.rc,R.rd.zl,hj⟩,R.rw,R.r0,R.w0,hw,?_⟩;refine hs.tr (λv d h=>(h.kp R.mO kp).bZ λb o=>.inl<|zc o) λq hq=>?_;obtain⟨_,⟨a1,a2⟩,b1,b2⟩:=hs.new q hq;obtain⟨⟨c1,c2⟩,e1,e2⟩:=a.ps q hq;exact⟨λu e=>k _ u a1 a2 c2 e,λu e=>k _ u b1 b2 e2 e⟩
end
section
variable (Φ Ψ:Zf)
def okL (ho:Option Int):Option Wt->Prop
 |none=>True
 |some r=>okW Φ Ψ ho r
def okP:List Frm->D->Prop
 |[],_=>True
 |f::fs,d=>(∃fr,Ψ [clD f.ho f.n (f.dn++.tup [f.d,d]::lD f.left)]=.ok (fr,.bl true))/\okL Φ Ψ f.ho f.left/\okP fs (clD f.ho f.n (f.dn++.tup [f.d,d]::lD f.left))
def Bnd (fs:List Frm)(i:Nat):Prop:=fs.length<=i/\∀f∈fs,f.dn.length<=i
def MdA (z:Str)(D0:D)(fs:List Frm)(a:List Nat):Prop:=Bnd fs a.length/\∃g,okG Φ Ψ g/\z=tx (a++(tG g++kT fs))/\pP fs (dGt g)=D0/\okP Φ Ψ fs (dGt g)
def MdB (z:Str)(D0:D)(fs:List Frm)(a:List Nat)(d:D):Prop:=Bnd fs a.length/\z=tx (a++kT fs)/\pP fs d=D0/\okP Φ Ψ fs d
theorem Jo {ho:Option Int}{ws:Wt}(h:okW Φ Ψ ho ws):(∀x∈(hdW ws).1,x∉stops)/\Led Φ (hN ho) (hdW ws).1 (hdW ws).2.1/\okG Φ Ψ (hdW ws).2.2.1/\okL Φ Ψ ho (hdW ws).2.2.2:=by
 cases ws with
 |one c d g=>simp only[okW] at h;exact⟨h.1,h.2.1,h.2.2,trivial⟩
 |more c d g r=>simp only[okW] at h;exact⟨h.1,h.2.1,h.2.2.1,h.2.2.2⟩
end
theorem Qi:∀(fs:List Frm) (x:Nat),(kT fs).head? = some x->x∈stops
 |[],x,h=>by cases h
 |f::fs,x,h=>by
  unfold kT lT at h;cases hl:f.left with
  |none=>rw[hl] at h;cases h;decide
  |some r=>rw[hl] at h;cases h;decide
theorem Bnd.mono {fs:List Frm}{i j:Nat}(h:Bnd fs i)(l:i<=j):Bnd fs j:=⟨cm h.1 l,λf hf=>cm (h.2 f hf) l⟩
section
variable {K:av}{mg:Zs}{Φ Ψ:Zf}{O0:Za}{H0 H:Hp}{r C dx wa:Addr}{z:Str}{D0:D}{fs:List Frm}{ps:List (Addr×Addr)}{a:List Nat}{Q:VK}{E:XK}
def Aft (K:av)(mg:Zs)(Φ Ψ:Zf)(O0:Za)(H0:Hp)(r C dx wa:Addr)(z:Str)(D0:D)(n:Nat)(v:V)(H:Hp):Prop:=∃(fs:List Frm) (ps:List (Addr×Addr)) (a:List Nat),n<a.length/\RS K mg O0 H0 r C dx wa z fs ps a.length H/\
 ((v=.non/\fs≠[]/\MdA Φ Ψ z D0 fs a)\/(v≠.non/\∃d,DV ⟨K,mg⟩ (Own O0 r wa ps) H v d/\MdB Φ Ψ z D0 fs a d))
theorem zO (R:RS K mg O0 H0 r C dx wa z fs ps a.length H)(m:MdA Φ Ψ z D0 fs a)(q:∀v H',Aft K mg Φ Ψ O0 H0 r C dx wa z D0 a.length v H'->Q v H'):sY K mg Φ [.ref r,.ref wa] H Q E:=by
 obtain⟨bd,g,og,ez,ep,op⟩:=m;have zl:=R.rd.zl;have il:=R.rd.il;refine⟨Own O0 r wa ps,r,C,dx,wa,rfl,R.mO,oJ,wI,R.rw,?_⟩;cases g with
 |fin c d=>
  obtain⟨hc,fr,e⟩:(∀x∈c,x∉stops)/\∃fr,Φ [.str<|tx c]=.ok (fr,d):=by simpa only[okG] using og
  have e1:z=tx (a++(enT++c)++kT fs):=by rw[ez];simp only[tG,aE]
  have l1:a.length+(enT++c).length<=z.length:=by rw[e1,aW];simp
  refine .inl ⟨a,c,kT fs,d,fr,by rw[← e1];exact R.rd,hc,Qi fs,e,λv H' g dv=>q v H' ⟨fs,ps,a++(enT++c),by simp,?_,.inr ⟨λz=>(by rw[z] at dv;cases dv),_,dv,bd.mono (by simp),e1,ep,op⟩⟩⟩;rw[← e1] at g;rw[aw];exact R.on l1 g
 |nd ho n ws=>
  obtain⟨hs,hn,ow,fr,e⟩:(∀s,ho=some s->s=1\/s=2)/\(∀x∈n,x∉stops)/\okW Φ Ψ ho ws/\∃fr,Ψ [clD ho n<|dWt ws]=.ok (fr,.bl true):=by simpa only[okG] using og
  obtain⟨hc,ld,og1,ol⟩:=Jo Φ Ψ ow;have e1:z=tx (a++hT ho n++40::((hdW ws).1++32::(tG (hdW ws).2.2.1++kT (⟨ho,n,[],(hdW ws).2.1,(hdW ws).2.2.2⟩::fs)))):=by rw[ez,Uu,aE]
  have ln:ps.length<=a.length:=by rw[R.fr.len];exact bd.1
  refine .inr ⟨ho,n,a,(hdW ws).1,_,(hdW ws).2.1,_,by rw[← e1];exact R.rd,hs,hn,hc,ld,R.hw,by simp;omega,λo Co dxo l hv lv H' oc no nl onl hr hw hho hl k d1 d2=>?_⟩;rw[← e1] at hr;have l1:(a++hT ho n++40::((hdW ws).1++[32])).length=a.length+(hT ho n).length+1+(hdW ws).1.length+1:=by simp;omega
  have l2:a.length+(hT ho n).length+1+(hdW ws).1.length+1<=z.length:=by rw[e1,aW];simp;omega
  have eo:(λb=>Own O0 r wa ps b\/b=o\/b=l)=Own O0 r wa ((o,l)::ps):=funext λb=>propext ⟨λh=>h.elim zc λh=>.inr<|.inr<|.inr ⟨(o,l),a8,h⟩,Du⟩;rw[eo] at d1 d2;refine q _ _ ⟨⟨ho,n,[],(hdW ws).2.1,(hdW ws).2.2.2⟩::fs,(o,l)::ps,a++hT ho n++40::((hdW ws).1++[32]),by rw[l1];omega,?_,.inl ⟨rfl,by simp,⟨by rw[l1];have:=bd.1;simp;omega,λf hf=>?_⟩,(hdW ws).2.2.1,og1,?_,?_,?_⟩⟩
  ·rw[l1];exact R.open l2 oc no nl onl hr hw hho hl k rfl d1 d2
  ·rcases ag.1 hf with rfl|hf
   ·simp
   ·exact cm (bd.2 f hf) (by rw[l1];omega)
  ·rw[e1];congr 1;simp
  ·rw[← ep,Uo]
  ·have ed:clD ho n ([]++D.tup [(hdW ws).2.1,dGt (hdW ws).2.2.1]::lD (hdW ws).2.2.2)=clD ho n (dWt ws):=by rw[Fe ws];rfl
   refine⟨⟨fr,by rw[ed];exact e⟩,ol,?_⟩;show okP Φ Ψ fs (clD ho n ([]++D.tup [(hdW ws).2.1,dGt (hdW ws).2.2.1]::lD (hdW ws).2.2.2));rw[ed];simpa only[dGt] using op
theorem Oc {f:Frm}{p:Addr×Addr}{v:V}{d:D}(R:RS K mg O0 H0 r C dx wa z (f::fs) (p::ps) a.length H)(dv:DV ⟨K,mg⟩ (Own O0 r wa (p::ps)) H v d)(m:MdB Φ Ψ z D0 (f::fs) a d)(q:∀v H',Aft K mg Φ Ψ O0 H0 r C dx wa z D0 a.length v H'->Q v H'):wX K mg Φ Ψ [.ref r,.ref wa,v] H Q E:=by
 obtain⟨bd,ez,ep,op⟩:=m;have zl:=R.rd.zl;have il:=R.rd.il;obtain⟨⟨Co,dxo,hv,lv,ws,oc,e1,e2,d1,d2,d3⟩,ad,hs⟩:=R.fr;have lw:ws.length=f.dn.length:=bT d3;have bf:=bd.2 f a8;have T:Top K mg (Own O0 r wa (p::ps)) H r wa p.1 Co dxo p.2 hv lv (ps.map n9).reverse ws (hN f.ho) (hP f.ho f.n) f.dn f.d:=
  ⟨R.mO,oJ,wI,zx,v5,R.rw,ad.r1.symm,ad.r2.symm,ad.w1.symm,ad.w2.symm,ad.n12,by rw[R.hw];simp,e1,oc,e2,by omega,by rw[← Ru];exact d1,d2,d3⟩
 obtain⟨⟨fr,op1⟩,op2,op3⟩:=op;refine⟨Own O0 r wa (p::ps),r,C,dx,wa,p.1,Co,dxo,p.2,hv,lv,v,_,ws,_,_,_,_,d,rfl,T,dv,?_⟩;cases hl:f.left with
 |some rw_=>
  rw[hl] at op2;obtain⟨hc,ld,og1,ol⟩:=Jo Φ Ψ op2;have e3:z=tx (a++[44,32]++((hdW rw_).1++32::(tG (hdW rw_).2.2.1++kT (⟨f.ho,f.n,[],(hdW rw_).2.1,(hdW rw_).2.2.2⟩::fs)))):=by rw[ez,SN f rw_ hl];simp
  refine .inl ⟨a,(hdW rw_).1,_,(hdW rw_).2.1,by rw[← e3];exact R.rd,hc,ld,λt lv' H' nt hr hl' ho k d5 d6=>?_⟩;rw[← e3] at hr;have l1:(a++[44,32]++((hdW rw_).1++[32])).length=a.length+2+(hdW rw_).1.length+1:=by simp;omega
  have l2:a.length+2+(hdW rw_).1.length+1<=z.length:=by rw[e3,aW];simp;omega
  have kp:Kp (Own O0 r wa (p::ps)) H H':=λb u e nb=>k b u (λz=>nb (by rw[z];exact oJ)) (λz=>nb (by rw[z];exact zx)) (λz=>nb (by rw[z];exact v5)) e;refine q _ _ ⟨⟨f.ho,f.n,f.dn++[.tup [f.d,d]],(hdW rw_).2.1,(hdW rw_).2.2.2⟩::fs,p::ps,a++[44,32]++((hdW rw_).1++[32]),by rw[l1];omega,?_,.inl ⟨rfl,by simp,⟨by rw[l1];have:=bd.1;simp at this ⊢;omega,λf' hf=>?_⟩,(hdW rw_).2.2.1,og1,?_,?_,?_⟩⟩
  ·rw[l1];exact R.next l2 oc hr ho hl' k (d1.kp R.mO kp) d5<|gU (d3.kp R.mO kp)<|.cons d6 .nil
  ·rcases ag.1 hf with rfl|hf
   ·rw[l1];simp;omega
   ·exact cm (bd.2 f'<|ax _ hf) (by rw[l1];omega)
  ·rw[e3];congr 1;simp[kT]
  ·rw[← ep,Uh f rw_ hl]
  ·have ed:clD f.ho f.n ((f.dn++[.tup [f.d,d]])++D.tup [(hdW rw_).2.1,dGt (hdW rw_).2.2.1]::lD (hdW rw_).2.2.2)=clD f.ho f.n (f.dn++.tup [f.d,d]::lD f.left):=by
    rw[hl];show _=clD f.ho f.n (f.dn++.tup [f.d,d]::dWt rw_);rw[Fe rw_];simp
   refine⟨⟨fr,by rw[ed];exact op1⟩,ol,?_⟩;show okP Φ Ψ fs (clD f.ho f.n ((f.dn++[.tup [f.d,d]])++D.tup [(hdW rw_).2.1,dGt (hdW rw_).2.2.1]::lD (hdW rw_).2.2.2));rw[ed];exact op3
 |none=>
  have e3:z=tx (a++[41]++kT fs):=by rw[ez,show kT (f::fs)=[41]++kT fs by show lT f.left++kT fs=_;rw[hl];rfl,aE]
  have ed:f.dn++.tup [f.d,d]::lD f.left=f.dn++[.tup [f.d,d]]:=by rw[hl];rfl
  rw[ed] at op1 op3;have l2:a.length+1<=z.length:=by rw[e3,aW];simp
  refine .inr ⟨a,kT fs,fr,by rw[← e3];exact R.rd,op1,by cases f.ho<;>simp[hP],λv' H' hr hw k d5=>?_⟩;rw[← e3] at hr;refine q _ _ ⟨fs,ps,a++[41],by simp,?_,.inr ⟨λz=>(by rw[z] at d5;cases d5),_,d5.bZ λb o=>.inl<|zc o,⟨?_,λf' hf=>?_⟩,e3,?_,op3⟩⟩
  ·rw[aw];exact R.close l2 hr hw k
  ·have:=bd.1;simp at this ⊢;omega
  ·exact cm (bd.2 f'<|ax _ hf)<|by simp
  ·rw[← ep,QL f hl];rfl
end
def RF (G:Gx)(E:XK)(O:Za)(H:Hp):Prop:=∀C H',XP G H' nT C->Kp O H H'->E (.ref C.1) C.2 H'
theorem RF.go {G:Gx}{E:XK}{O O2:Za}{H H2:Hp}(h:RF G E O H)(k:∀b u,H b=some u->¬O b->H2 b=some u/\¬O2 b):RF G E O2 H2:=λC H' x y=>h C H' x λb u e nb=>y b u (k b u e nb).1 (k b u e nb).2
def NtT (K:av)(mg:Zs):Prop:=∃C,mg "NoText" = some (.ref C)/\xi K C [.type "ValueError",.type "Exception",.type "BaseException",.type "object"] "ValueError.__new__" = true
section
variable {X:Cx}{E:XK}{e:Expr}{es:List Expr}{v:V}{np χ pos p:Pos}{x:Str}{ps:List Str}{sp:Sp}{t:TA}{k j:Nat}
theorem zm (Nt:NtT X.K X.mg)(hg:Gl X "NoText")(hh:X.A.handled=none)(he:PE X e (tC v))
  (hx:∀(C:Addr) (π:Zo) (σ:L2.St) (H:Hp) (s:aT) (h':Heap) (ea:Addr) (vs:List a7),Inv X π σ H s->l9 s.heap h' ea (.ref C) vs->E (.ref C) none H->X.xe (.ref ea) { s with heap:=h' })
  (hs:ar [e] X.env=(false,eval e X.env)::ar [] X.env:=by rfl):PS X (.Raise (some<|.Call (.Name "NoText" np) [e] [] χ) none pos) (λ_ _ H=>∃O,RF (gx X) E O H):=by
 obtain⟨C,hm,hq⟩:=Nt;exact eU (zg (W:=E) nS hq hg hm hh he (hx C) (by decide) hs) λW σ H ⟨O,q⟩=>⟨rfl,q (C,none) H ⟨hm,[],[],.inl ⟨rfl,rfl⟩,rfl,rfl,λ_=>.nil⟩ λb u e _=>e⟩
theorem mD (Fh:Hd.Fn X.prog X.w X.K X.mg X.base k x ps sp)(hr:fD j X.A)(hx:Passes (CX1 X.prog X.w) X E)(ha:PA X (e::es) t)(hk:k<=j:=by decide)(hg:Gl X x:=by rfl)
  (hdb:(x==("__debug__":Str))=false:=by decide) (he:ar (e::es) X.env=(false,eval e X.env)::ar es X.env:=by rfl) (ζ:(hJ pos<|ar es X.env).any (·.1)=false:=by rfl):
  PE X (.Call (.Name x p) (e::es) [] pos) (Li sp [] E t):=by
 obtain⟨f,fd,G,b,kp,m⟩:=Fh.ex;exact pQ G (hr.mono hk) hg m kp b .nil hx ha hdb he ζ
end
theorem lC:∀t:List Nat,∃c b,t=c++b/\(∀x∈c,x∉stops)/\∀x,b.head? = some x->x∈stops
 |[]=>⟨[],[],rfl,(λ_ z=>(nomatch z)),(λ_ z=>(nomatch z))⟩
 |y::t=>by
  by_cases h:y∈stops
  ·exact⟨[],y::t,rfl,(λ_ z=>(nomatch z)),λx e=>by cases e;exact h⟩
  ·obtain⟨c,b,e,h1,h2⟩:=lC t;exact⟨y::c,b,by rw[e];rfl,λx hx=>by rcases ag.mp hx with rfl|w;exact h;exact h1 x w,h2⟩
theorem rF {a b p:List Nat}{P:Str}(hP:P=tx p)(h:Pc (tx<|a++b) a.length P=true):∃b2,b=p++b2:=by
 by_cases e:b.take p.length=p
 ·exact⟨b.drop p.length,by have z:=rX p.length b;rw[e] at z;exact z.symm⟩
 ·rw[xF hP e] at h;cases h
def ROk (Φ:Zf)(c:List Nat):Prop:=(∃fr d,Φ [.str<|tx c]=.ok (fr,d))\/Φ [.str<|tx c]=.exc nT
def nP (K:av)(mg:Zs):Sp:=λvs H Q E=>∃r C dx z i p,vs=[.ref r,.str p]/\Rd1 K mg H r C dx z i/\p.length<=1000/\(Pc z i p=true->Q .non (rdU H r C dx z<|i+p.length))/\RF ⟨K,mg⟩ E (· = r) H
def xN (K:av)(mg:Zs)(Φ:Zf):Sp:=λvs H Q E=>∃(O M:Za) (r C dx o Co dxo:Addr) (hv lv wv:V) (hd:Str) (ds:List D) (a t:List Nat),vs=[.ref r,.ref o]/\(∀b,O b->bL (H b))/\r≠o/\
 Rd1 K mg H r C dx (tx<|a++t) a.length/\H o=some (.ins Co dxo<|opF hv lv wv)/\OC K mg Co/\O r/\DV ⟨K,mg⟩ O H hv (.tup (.str hd::ds))/\(∀c b,t=c++b->ROk Φ c)/\M r/\RF ⟨K,mg⟩ E M H/\
 ∀c b d,t=c++32::b->(∀x∈c,x∉stops)->Led Φ hd c d->∀v H',aD (rdU H r C dx (tx<|a++t)<|a.length+c.length+1) H'->DV ⟨K,mg⟩ O H' v d->Q .non (upd H' o<|.ins Co dxo<|opF hv v wv)
structure SdU (K:av)(mg:Zs):Prop where
 ex:∃a es n,mg "SIDES" = some (.ref a)/\K.lookup a=some ⟨.type "dict",none,.dict es n,#[]⟩/\∃h1 t1 v1 h2 t2 v2,es=#[⟨h1,.str "1" t1,v1⟩,⟨h2,.str "2" t2,v2⟩]
theorem Qj {K:av}{mg:Zs}(S:SdU K mg){a:Addr}(hm:mg "SIDES" = some (.ref a)){c:List Nat}(h1:c≠[49])(h2:c≠[50]):ff K a (tx c)=some none:=by
 obtain⟨a',es,n,m,l,h1',t1,v1,h2',t2,v2,rfl⟩:=S.ex;rw[hm] at m;cases m;have e1:ae "1" = tx [49]:=by decide +kernel
 have e2:ae "2" = tx [50]:=by decide +kernel
 have n1:(kR (ae "1") t1).isStr (tx c)=false:=by
  rw[e1];show(tx [49]==tx c)=false;rw[beq_eq_false_iff_ne];exact λz=>h1 (pH.mp z).symm
 have n2:(kR (ae "2") t2).isStr (tx c)=false:=by
  rw[e2];show(tx [50]==tx c)=false;rw[beq_eq_false_iff_ne];exact λz=>h2 (pH.mp z).symm
 unfold ff;rw[l];simp[n1,n2,we]
def Fd (K:av)(mg:Zs):Sp:=λvs H Q E=>∃(r C dx:Addr) (a t:List Nat),vs=[.ref r]/\Rd1 K mg H r C dx (tx<|a++t) a.length/\RF ⟨K,mg⟩ E (· = r) H/\∀s b,(s=1\/s=2)->t=sdS s++32::b->Q (.int s) (rdU H r C dx (tx<|a++t)<|a.length+(sdS s).length+1)
section
variable {P:bg}{w:cw}{K:av}{mg:Zs}{base:Heap}{f:Addr}{fd:dQ}{Φ:Zf}{kr:Nat}
theorem JB (Nt:NtT K mg)(Gp:FMt P w K mg base 1 "Reader" "passes" ["self", "piece"] (gV K mg))(Fu:Fun K "need" "Reader.need" yg f fd):bR P w K mg base (CX1 P w) 2 f fd ["self", "piece"] (nP K mg):=by
 refine cO Fu Lz (λvs H Q E h=>?_) λcdv A outer s H vs Q E hr h=>?_
 ·obtain⟨r,C,dx,z,i,p,rfl,_⟩:=h;rfl
 ·obtain⟨r,C,dx,z,i,p,rfl,R,p1,q,rf⟩:=h;refine⟨_,bA<|gf (nu<|gK<|eF Gp hr (E:=E) aK (aA (i:=0) rfl<|af rfl)<|aB (aA (i:=1) rfl<|af rfl) aP) (bA<|zm Nt rfl hr.hd cj λ_ _ _ _ _ _ _ _ I mk q=>iJ I mk q) dH,?_⟩;have k0:(start ["self", "piece"] [.ref r,.str p])[0]? = some (some<|.ref r):=rfl;have k1:(start ["self", "piece"] [.ref r,.str p])[1]? = some (some<|.str p):=rfl;dsimp only[Qm,Qs,L2.tB,tMt,rO,yd,uF,Ea];refine⟨_,k0,r,C,dx,_,rfl,R.rc.at_,R.at_,rfl,_,k1,r,C,dx,z,i,p,rfl,R,p1,?_⟩;by_cases c:Pc z i p=true
  ·rw[if_pos c];exact⟨_,rfl,by rw[if_neg<|by simp];exact q c⟩
  ·rw[if_neg c];exact⟨_,rfl,by rw[if_pos<|by simp];exact⟨_,rf⟩⟩
theorem Jx (Gc:FMt P w K mg base 1 "Reader" "chunk" ["self"] (jg K mg))(Gn:FMt P w K mg base 2 "Reader" "need" ["self", "piece"] (nP K mg))(Gr:FF P w K mg base 4 "read_ratio" ["text"] Φ)(Fu:Fun K "read_lead" "read_lead" yq f fd):bR P w K mg base (CX1 P w) 5 f fd ["reader", "opened"] (xN K mg Φ):=by
 refine cO Fu xj (λvs H Q E h=>?_) λcdv A outer s H vs Q E hr h=>?_
 ·obtain⟨O,M,r,C,dx,o,Co,dxo,hv,lv,wv,hd,ds,a,t,rfl,_⟩:=h;rfl
 ·obtain⟨O,M,r,C,dx,o,Co,dxo,hv,lv,wv,hd,ds,a,t,rfl,mO,ro,R,ao,oc,or,dh,hΦ,mr,rf,q⟩:=h;have hu:=hr.units;obtain⟨c,b',et,hc,hb⟩:=lC t;refine⟨_,aJ (cu (i:=2) xj.nd rfl (af rfl)<|iI Gc hr (E:=E) aK<|aA (i:=0) rfl<|af rfl)
   (aJ (cF<|eF Gn hr (E:=E) aK (aA (i:=0) rfl<|af rfl)<|aB cj aP)
   (bA<|lV (aA (i:=1) rfl<|af rfl) (t6 (ou (eN hu) (uQ eO (dj (aA (i:=1) rfl<|af rfl) rfl) lJ λ_ _=>rfl) cj<|cC _) (mD Gr hr (E:=E) aK<|aB (aA (i:=2) rfl<|af rfl) aP)<|aA (i:=2) rfl<|af rfl) rfl)),?_⟩
  have eat:a++t=a++c++b':=by rw[et,aE]
  rw[eat] at R q;refine⟨_,rfl,r,C,dx,_,rfl,R.rc.at_,R.at_,rfl,r,C,dx,a,c,b',rfl,R,hc,hb,?_⟩;have zl:(tx<|a++c++b').length=a.length+c.length+b'.length:=by rw[aW];simp;omega
  have R1:Rd1 K mg (rdU H r C dx (tx<|a++c++b')<|a.length+c.length) r C dx (tx<|a++c++b') (a.length+c.length):=⟨az,R.rc,R.zl,by omega⟩;have l1:(ae " ").length=1:=by decide +kernel
  refine⟨_,rfl,r,C,dx,_,rfl,R.rc.at_,az,rfl,r,C,dx,_,_,_,rfl,R1,by rw[l1];decide,λpc=>?_,rf.go λb u e nb=>⟨(aC λz=>nb (by rw[z];exact mr)).trans e,λz=>nb (by rw[z];exact mr)⟩⟩;rw[← aw] at pc;obtain⟨b,eb⟩:=rF s32 pc;have q:∀d,Led Φ hd c d->∀v H',aD (rdU H r C dx (tx<|a++c++b')<|a.length+c.length+1) H'->DV ⟨K,mg⟩ O H' v d->Q .non (upd H' o<|.ins Co dxo<|opF hv v wv):=λd ld=>q c b d (by rw[et,eb];rfl) hc ld;unfold rdU;rw[jh,l1];generalize hH:upd H r (.ins C dx<|rdF (tx<|a++c++b') ((a.length+c.length+1:Nat):Int))=H2;have mO2:∀b,O b->bL (H2 b):=by rw[← hH];exact wO mO
  have dh2:DV ⟨K,mg⟩ O H2 hv (.tup (.str hd::ds)):=by rw[← hH];exact dh.kp mO<|t8 or
  have ao2:H2 o=some (.ins Co dxo<|opF hv lv wv):=by rw[← hH,aC ro.symm];exact ao
  have kp2:Kp M H H2:=by rw[← hH];exact t8 mr
  have q:∀d,Led Φ hd c d->∀v H',aD H2 H'->DV ⟨K,mg⟩ O H' v d->Q .non (upd H' o<|.ins Co dxo<|opF hv v wv):=λd ld v H' g dv=>q d ld v H' (by unfold rdU;rw[hH];exact g) dv;refine⟨_,rfl,o,Co,dxo,_,hv,rfl,ao2,oc.cls,oc.head,rfl,O,_,_,_,mO2,.inl dh2,.inl<|.int 0,(by show atI (D.str hd::ds) 0=_;unfold L2.atI L2.ixN;simp:gIx (.tup (.str hd::ds)) (.int 0)=some (.str hd)),λv H3 g3 dv=>?_⟩;cases dv;have mO3:∀b,O b->bL (H3 b):=λb z=>c7 g3<|mO2 b z;refine⟨O,_,_,_,mO3,.inl<|.str _,.inl<|.str _,rfl,_,rfl,?_⟩;show if decide (hd = "deal")=true then _ else _
  have fin:∀d,Led Φ hd c d->∀v H',aD H3 H'->DV ⟨K,mg⟩ O H' v d->∃v0,([some<|.ref r,some<|.ref o,some<|.str<|tx c]:L2.St)[1]? = some (some v0)/\∃a C dx fs,v0=.ref a/\H' a=some (.ins C dx fs)/\Cls K C/\iw K C "lead"/\fs.length<1000/\Q .non (upd H' a<|.ins C dx<|j9 "lead" v fs):=λd ld v H' g dv=>
   ⟨_,rfl,o,Co,dxo,_,rfl,g _ _<|g3 _ _ ao2,oc.cls,oc.lead,by simp,q d ld v H' (g3.trans g) dv⟩
  by_cases hdl:hd = "deal"
  ·rw[if_pos<|decide_eq_true hdl];refine⟨_,rfl,O,[.str<|tx c],mO3,.cons (.str _) .nil,?_⟩;rcases hΦ c b' et with⟨fr,d,e⟩|e
   ·rw[e];exact λv H' g dv _=>fin d (by unfold Led;rw[if_pos hdl];exact⟨fr,e⟩) v H' g dv
   ·rw[e];exact λC' H' xp g=>rf C' H' xp λb u e nb=>g _ _<|g3 _ _<|kp2 b u e nb
  ·rw[if_neg<|by simpa using hdl];exact⟨_,rfl,fin _ (by unfold Led;rw[if_neg hdl]) _ H3 (aD.refl _) (.str _)⟩
theorem MK (Nt:NtT K mg)(S:SdT w K mg)(SU:SdU K mg)(Gc:FMt P w K mg base 1 "Reader" "chunk" ["self"] (jg K mg))(Gn:FMt P w K mg base 2 "Reader" "need" ["self", "piece"] (nP K mg))(Fu:Fun K "read_side" "read_side" xV f fd):bR P w K mg base (CX1 P w) 3 f fd ["reader"] (Fd K mg):=by
 refine cO Fu wV (λvs H Q E h=>?_) λcdv A outer s H vs Q E hr h=>?_
 ·obtain⟨r,C,dx,a,t,rfl,_⟩:=h;rfl
 ·obtain⟨r,C,dx,a,t,rfl,R,rf,q⟩:=h;obtain⟨c,b',et,hc,hb⟩:=lC t;obtain⟨da,_,m0,kd,_⟩:=Kd S (s:=1)<|.inl rfl;refine⟨_,aJ (cu (i:=1) wV.nd rfl (af rfl)<|iI Gc hr (E:=E) aK<|aA (i:=0) rfl<|af rfl)
   (aJ (gf (ou Dn (aA (i:=1) rfl<|af rfl) (mz (v:=.ref da) rfl m0 rfl)<|by with_unfolding_all rfl) (bA<|zm Nt rfl hr.hd cj λ_ _ _ _ _ _ _ _ I mk q=>iJ I mk q) dH)
   (aJ (cF<|eF Gn hr (E:=E) aK (aA (i:=0) rfl<|af rfl)<|aB cj aP)
   (bA<|dW<|uQ zA (mz (v:=.ref da) rfl m0 rfl) (aA (i:=1) rfl<|af rfl) λ_ _=>rfl))),?_⟩
  have eat:a++t=a++c++b':=by rw[et,aE]
  rw[eat] at R q;refine⟨_,rfl,r,C,dx,_,rfl,R.rc.at_,R.at_,rfl,r,C,dx,a,c,b',rfl,R,hc,hb,?_⟩;have zl:(tx<|a++c++b').length=a.length+c.length+b'.length:=by rw[aW];simp;omega
  have rf1:RF ⟨K,mg⟩ E (· = r) (rdU H r C dx (tx<|a++c++b')<|a.length+c.length):=rf.go λb u e nb=>⟨(aC nb).trans e,nb⟩;by_cases hx:∃sd:Int,(sd=1\/sd=2)/\c=sdS sd
  ·obtain⟨sd,hs,ec⟩:=hx;obtain⟨da',t',m0',kd',ns⟩:=Kd S hs;rw[m0] at m0';cases m0';rw[← ec] at ns;refine⟨_,rfl,tx c,da,_,rfl,rfl,kd,ns,_,rfl,?_⟩;show if false=true then _ else _
   rw[if_neg<|by simp];have R1:Rd1 K mg (rdU H r C dx (tx<|a++c++b')<|a.length+c.length) r C dx (tx<|a++c++b') (a.length+c.length):=⟨az,R.rc,R.zl,by omega⟩;refine⟨_,rfl,r,C,dx,_,rfl,R.rc.at_,az,rfl,r,C,dx,_,_,_,rfl,R1,by rw[l32];decide,λpc=>?_,rf1⟩;rw[← aw] at pc;obtain⟨b,eb⟩:=rF s32 pc;refine⟨_,rfl,tx c,da,.int sd,.int sd t',rfl,rfl,kd,ns,⟨t',rfl⟩,?_⟩;have q:=q sd b hs (by rw[et,eb,ec];rfl);rw[← ec] at q;unfold rdU at q ⊢;rw[jh,l32];exact q
  ·refine⟨_,rfl,tx c,da,_,rfl,rfl,kd,Qj SU m0 (λz=>hx ⟨1,.inl rfl,z⟩) λz=>hx ⟨2,.inr rfl,z⟩,_,rfl,?_⟩;show if true=true then _ else _
   rw[if_pos rfl];exact⟨_,rf1⟩
end
def CN (K:av)(mg:Zs):Sp:=λvs H Q E=>∃(O:Za) (r C dx:Addr) (a t:List Nat),vs=[.ref r]/\Rd1 K mg H r C dx (tx<|a++t) a.length/\RF ⟨K,mg⟩ E (· = r) H/\∀ho n b,(∀s,ho=some s->s=1\/s=2)->(∀x∈n,x∉stops)->t=hT ho n++40::b->
 ∀v H',aD (rdU H r C dx (tx<|a++t)<|a.length+(hT ho n).length+1) H'->DV ⟨K,mg⟩ O H' v (hD ho n)->Q v H'
def ql (K:av)(mg:Zs)(Φ:Zf):Sp:=λvs H Q E=>∃(O M:Za) (r C dx w:Addr) (a t:List Nat) (xs:List V),vs=[.ref r,.ref w]/\(∀b,O b->bL (H b))/\O r/\O w/\r≠w/\Rd1 K mg H r C dx (tx<|a++t) a.length/\H w=some (.lst xs)/\xs.length<1000000/\
 (∀p c b,t=p++c++b->ROk Φ c)/\M r/\RF ⟨K,mg⟩ E M H/\
 (∀c b fr d,t=enT++c++b->(∀x∈c,x∉stops)->(∀x,b.head? = some x->x∈stops)->Φ [.str<|tx c]=.ok (fr,d)->∀v H',aD (rdU H r C dx (tx<|a++t)<|a.length+(enT++c).length) H'->DV ⟨K,mg⟩ O H' v (.tup [.str "end",d])->Q v H')/\
 ∀ho n c b d,(∀s,ho=some s->s=1\/s=2)->(∀x∈n,x∉stops)->(∀x∈c,x∉stops)->t=hT ho n++40::(c++32::b)->Led Φ (hN ho) c d->
 ∀o Co dxo l hv lv H',OC K mg Co->H o=none->H l=none->o≠l->H' r=some (.ins C dx<|rdF (tx<|a++t) ((a.length+(hT ho n).length+1+c.length+1:Nat):Int))->H' w=some (.lst<|xs++[.ref o])->H' o=some (.ins Co dxo<|opF hv lv<|.ref l)->H' l=some (.lst [])->(∀b u,b≠r->b≠w->H b=some u->H' b=some u)->
  DV ⟨K,mg⟩ (λb=>O b\/b=o\/b=l) H' hv (hD ho n)->DV ⟨K,mg⟩ (λb=>O b\/b=o\/b=l) H' lv d->Q .non H'
section
variable {P:bg}{w:cw}{K:av}{mg:Zs}{base:Heap}{f:Addr}{fd:dQ}{Φ:Zf}
theorem IV (Gp:FMt P w K mg base 1 "Reader" "passes" ["self", "piece"] (gV K mg))(Gc:FMt P w K mg base 1 "Reader" "chunk" ["self"] (jg K mg))(Gn:FMt P w K mg base 2 "Reader" "need" ["self", "piece"] (nP K mg))(Gs:Hd.Fn P w K mg base 3 "read_side" ["reader"] (Fd K mg))(Fu:Fun K "read_head" "read_head" xY f fd):bR P w K mg base (CX1 P w) 4 f fd ["reader"] (CN K mg):=by
 refine cO Fu mR (λvs H Q E h=>?_) (λcdv A outer s H vs Q E hr h=>?_)
 ·obtain ⟨O,r,C,dx,a,t,rfl,_⟩:=h;rfl
 ·obtain ⟨O,r,C,dx,a,t,rfl,R,rf,q⟩:=h;refine ⟨_,aJ (gf (gK (eF Gp hr (E:=E) aK (aA (i:=0) rfl (af rfl)) (aB cj aP)))
    (bA (cu (i:=1) mR.nd rfl (af rfl) (jA (aB cj (aB (iI Gc hr (E:=E) aK (aA (i:=0) rfl (af rfl))) aP)))))
    (aJ (cF (eF Gn hr (E:=E) aK (aA (i:=0) rfl (af rfl)) (aB cj aP)))
    (aJ (cu (i:=2) mR.nd rfl (af rfl) (mD Gs hr (E:=E) aK (aB (aA (i:=0) rfl (af rfl)) aP)))
    (bA (cu (i:=1) mR.nd rfl (af rfl) (jA (aB cj (aB (aA (i:=2) rfl (af rfl)) (aB (iI Gc hr (E:=E) aK (aA (i:=0) rfl (af rfl))) aP)))))))))
   (aJ (cF (eF Gn hr (E:=E) aK (aA (i:=0) rfl (af rfl)) (aB cj aP)))
   (bA (dW (aA (i:=1) rfl (af rfl))))),?_⟩
  have zl:(tx (a++t)).length=a.length+t.length:=by rw [aW];simp
  generalize hz:tx (a++t)=z at *;have zl1:=R.zl;have Rk:∀{H':Hp} {i:Nat},i<=z.length->Rd1 K mg (rdU H' r C dx z i) r C dx z i:=λh=>⟨az,R.rc,zl1,h⟩;have lo:(ae "(").length=1:=by decide +kernel
  have rfo:∀{H1:Hp},(∀b o,b≠r->H b=some o->H1 b=some o)->RF ⟨K,mg⟩ E (· = r) H1:=λk=>rf.go λb u e nb=>⟨k b u nb e,nb⟩;have fin:∀(ho:Option Int) (n b':List Nat) (H1:Hp) (p:Addr) (xs:List V) (σ:L2.St),(∀s,ho=some s->s=1\/s=2)->(∀x∈n,x∉stops)->t=hT ho n++b'->(∀b o,b≠r->H b=some o->H1 b=some o)->H1 p=none->p≠r->DVs ⟨K,mg⟩ O (upd (upd H1 p (.tup xs)) r (.ins C dx (rdF z ((a.length+(hT ho n).length+1:Nat):Int)))) xs (match hD ho n with | .tup ds=>ds | _=>[])->σ[0]? = some (some (.ref r))->σ[1]? = some (some (.ref p))->H1 r=some (.ins C dx (rdF z ((a.length+(hT ho n).length:Nat):Int)))->
    (Mu (LR (tMt mg "Reader" "need" (nP K mg) E (uF 0) (rO (tC (.str "(")) yd))) (JL (uF 1))) { nx:=λ_ H'=>Q .non H',rt:=Q } σ (upd H1 p (.tup xs)):=λho n b' H1 p xs σ hs hn et kp hp pr dv s0 s1 hr1=>by
   have h2:upd H1 p (.tup xs) r=some (.ins C dx (rdF z ((a.length+(hT ho n).length:Nat):Int))):=(aC pr.symm).trans hr1;have R2:Rd1 K mg (upd H1 p (.tup xs)) r C dx z (a.length+(hT ho n).length):=⟨h2,R.rc,zl1,by rw [zl,et];simp⟩;refine ⟨_,s0,r,C,dx,_,rfl,R.rc.at_,h2,rfl,r,C,dx,z,_,_,rfl,R2,by rw [lo];decide,λpc=>?_,rfo λb o nb e=>(aC (λz=>by rw [z] at nb e;rw [kp p o pr e] at hp;cases hp)).trans (kp b o nb e)⟩;rw [← hz,et,← aw,← aE] at pc;obtain ⟨b,eb⟩:=rF Wc pc;refine ⟨_,s1,?_⟩;unfold rdU;rw [lo];refine q ho n b hs hn (by rw [et,eb];rfl) _ _ (Gu (y:=.lst []) λb o nb e=>?_) ?_
   ·rw [aC (λz=>by rw [z] at nb e;rw [kp p o pr e] at hp;cases hp)];exact kp b o nb e
   ·have dt:∃ds,hD ho n=.tup ds:=by cases ho<;>exact ⟨_,rfl⟩
    obtain ⟨ds,ed⟩:=dt;rw [ed] at dv ⊢;exact .tup (.inl ((aC pr).trans az)) dv
  have l5:(ae "deal ").length=5:=by decide +kernel
  have m5:(ae "move ").length=5:=by decide +kernel
  refine ⟨_,rfl,r,C,dx,_,rfl,R.rc.at_,R.at_,rfl,r,C,dx,z,_,_,rfl,R,by rw [l5];decide,?_⟩;by_cases pc:Pc z a.length "deal " = true
  ·rw [if_pos pc];rw [← hz] at pc;obtain ⟨t1,e1⟩:=rF Sg pc;obtain ⟨n,b',e2,hn,hb⟩:=lC t1;have et:t=hT none n++b':=by rw [e1,e2];simp [hT]
   have le:(hT none n).length=5+n.length:=by simp [hT];omega
   have tl:t.length=5+n.length+b'.length:=by rw [et,aw,le]
   have hz2:tx ((a++dlT)++n++b')=z:=by rw [← hz];congr 1;rw [et];simp [hT]
   refine ⟨_,rfl,?_⟩;show if true=true then _ else _
   rw [if_pos rfl];have R1:Rd1 K mg (rdU H r C dx z (a.length+(ae "deal ").length)) r C dx (tx ((a++dlT)++n++b')) (a++dlT).length:=by
    rw [hz2,l5,show (a++dlT).length=a.length+5 by simp];exact Rk (by omega)
   refine ⟨_,rfl,r,C,dx,_,rfl,R.rc.at_,az,rfl,r,C,dx,a++dlT,n,b',rfl,R1,hn,hb,by simp,λp hp=>?_⟩;have pr:p≠r:=λe=>by rw [e] at hp;unfold rdU at hp;rw [az] at hp;cases hp
   refine fin none n b' _ p _ _ (λ_ z=>(nomatch z)) hn et (λb o nb e=>?_) hp pr (.cons (.str _) (.cons (.str _) .nil)) rfl rfl ?_
   ·unfold rdU;rw [aC nb,aC nb];exact e
   ·unfold rdU;rw [az,hz2,show (a++dlT).length+n.length=a.length+(hT none n).length by rw [le];simp;omega]
  ·rw [if_neg pc];refine ⟨_,rfl,?_⟩;show if false=true then _ else _
   rw [if_neg (by simp)];refine ⟨_,rfl,r,C,dx,_,rfl,R.rc.at_,R.at_,rfl,r,C,dx,z,_,_,rfl,R,by rw [m5];decide,λpc=>?_,rf⟩;rw [← hz] at pc;obtain ⟨t1,e1⟩:=rF U5 pc;have hz1:tx ((a++mvT)++t1)=z:=by rw [← hz,e1,aE]
   have R1:Rd1 K mg (rdU H r C dx z (a.length+(ae "move ").length)) r C dx (tx ((a++mvT)++t1)) (a++mvT).length:=by
    rw [hz1,m5,show (a++mvT).length=a.length+5 by simp];exact Rk (by rw [zl,e1];simp)
   refine ⟨_,rfl,r,C,dx,a++mvT,t1,rfl,R1,rfo λb o nb e=>(aC nb).trans e,λsd t2 hsd e2=>?_⟩;obtain ⟨n,b',e3,hn,hb⟩:=lC t2;have ls:(sdS sd).length=1:=by unfold sdS;split<;>rfl
   have et:t=hT (some sd) n++b':=by rw [e1,e2,e3];simp [hT]
   have le:(hT (some sd) n).length=7+n.length:=by simp [hT,ls];omega
   have tl:t.length=7+n.length+b'.length:=by rw [et,aw,le]
   have hz3:tx ((a++mvT++sdS sd++[32])++n++b')=z:=by rw [← hz];congr 1;rw [et];simp [hT]
   have e7:(a++mvT++sdS sd++([32]:List Nat)).length=(a++mvT).length+(sdS sd).length+1:=by simp [ls]
   have e8:(a++mvT++sdS sd++([32]:List Nat)).length=a.length+7:=by simp [ls]
   have e9:(a++mvT++sdS sd++([32]:List Nat)).length+n.length=a.length+(hT (some sd) n).length:=by rw [le,e8];omega
   have R2:Rd1 K mg (rdU (rdU H r C dx z (a.length+(ae "move ").length)) r C dx (tx ((a++mvT)++t1)) ((a++mvT).length+(sdS sd).length+1)) r C dx (tx ((a++mvT++sdS sd++[32])++n++b')) (a++mvT++sdS sd++[32]).length:=by
    rw [hz3,hz1,e7];exact Rk (by rw [← e7,e8];omega)
   refine ⟨_,rfl,_,rfl,r,C,dx,_,rfl,R.rc.at_,az,rfl,r,C,dx,a++mvT++sdS sd++[32],n,b',rfl,R2,hn,hb,by simp,λp hp=>?_⟩;have pr:p≠r:=λe=>by rw [e] at hp;unfold rdU at hp;rw [az] at hp;cases hp
   refine fin (some sd) n b' _ p _ _ (λs e=>by cases e;exact hsd) hn et (λb o nb e=>?_) hp pr (.cons (.str _) (.cons (.int _) (.cons (.str _) .nil))) rfl rfl ?_
   ·unfold rdU;rw [aC nb,aC nb,aC nb];exact e
   ·unfold rdU;rw [az,hz3,e9]
end
section
variable {P:bg}{w:cw}{K:av}{mg:Zs}{base:Heap}{f:Addr}{fd:dQ}{Φ:Zf}
theorem Hy (Gp:FMt P w K mg base 1 "Reader" "passes" ["self", "piece"] (gV K mg))(Gc:FMt P w K mg base 1 "Reader" "chunk" ["self"] (jg K mg))(Gr:FF P w K mg base 4 "read_ratio" ["text"] Φ)(Gm:MkT P w K mg base 1 "Opened" ["self", "head"] (BV K mg))(oc:∀C,mg "Opened" = some (.ref C)->OC K mg C)
  (Gh:Hd.Fn P w K mg base 4 "read_head" ["reader"] (CN K mg)) (Gl:Hd.Fn P w K mg base 5 "read_lead" ["reader", "opened"] (xN K mg Φ)) (Fu:Fun K "begun" "begun" sO f fd):bR P w K mg base (CX1 P w) 6 f fd ["reader", "waiting"] (ql K mg Φ):=by
 refine cO Fu sJ (λvs H Q E h=>?_) (λcdv A outer s H vs Q E hr h=>?_)
 ·obtain ⟨O,M,r,C,dx,w,a,t,xs,rfl,_⟩:=h;rfl
 ·obtain ⟨O,M,r,C,dx,wa,a,t,xs,rfl,mO,or,ow,rw_,R,hw,hx,hΦ,mr,rf,q1,q2⟩:=h;obtain ⟨Co,gi,fdi,hC,Mm,Gi,bi⟩:=Gm.ex;have occ:=oc Co hC;refine ⟨_,aJ (gf (gK (eF Gp hr (E:=E) aK (aA (i:=0) rfl (af rfl)) (aB cj aP)))
    (bA (dW (jA (aB cj (aB (mD Gr hr (E:=E) aK (aB (iI Gc hr (E:=E) aK (aA (i:=0) rfl (af rfl))) aP)) aP))))) dH)
   (aJ (cu (i:=2) sJ.nd rfl (af rfl) (tu Mm Gi (hr.mono (by decide)) rfl hC bi .nil (E:=E) aK (aB (mD Gh hr (E:=E) aK (aB (aA (i:=0) rfl (af rfl)) aP)) aP)))
   (aJ (cF (mD Gl hr (E:=E) aK (aB (aA (i:=0) rfl (af rfl)) (aB (aA (i:=2) rfl (af rfl)) aP))))
   (aJ (cF (rH dS fg fq ig (aA (i:=1) rfl (af rfl)) (aB (aA (i:=2) rfl (af rfl)) aP)))
   (bA (dW qH))))),?_⟩
  have l4:(ae "end ").length=4:=by decide +kernel
  have zl:(tx (a++t)).length=a.length+t.length:=by rw [aW];simp
  refine ⟨_,rfl,r,C,dx,_,rfl,R.rc.at_,R.at_,rfl,r,C,dx,_,_,_,rfl,R,by rw [l4];decide,?_⟩;by_cases pc:Pc (tx (a++t)) a.length "end " = true
  ·rw [if_pos pc];obtain ⟨t1,e1⟩:=rF Tn pc;obtain ⟨c,b,e2,hc,hb⟩:=lC t1;have et:t=enT++c++b:=by rw [e1,e2,aE]
   have el:(enT++c).length=4+c.length:=by simp;omega
   have tl:t.length=4+c.length+b.length:=by rw [et,aw,el]
   have q1:=q1 c b;generalize hz:tx (a++t)=z at *;have hz2:tx ((a++enT)++c++b)=z:=by rw [← hz];congr 1;rw [et];simp
   refine ⟨_,rfl,?_⟩;show if true=true then _ else _
   rw [if_pos rfl];have R1:Rd1 K mg (rdU H r C dx z (a.length+(ae "end ").length)) r C dx (tx ((a++enT)++c++b)) (a++enT).length:=by
    rw [hz2,l4,show (a++enT).length=a.length+4 by simp];exact ⟨az,R.rc,R.zl,by omega⟩
   refine ⟨_,rfl,r,C,dx,_,rfl,R.rc.at_,az,rfl,r,C,dx,a++enT,c,b,rfl,R1,hc,hb,?_⟩;have eH:rdU (rdU H r C dx z (a.length+(ae "end ").length)) r C dx (tx ((a++enT)++c++b)) ((a++enT).length+c.length)=rdU H r C dx z (a.length+(enT++c).length):=by
    unfold rdU;rw [jh,hz2,show (a++enT).length+c.length=a.length+(enT++c).length by rw [el];simp;omega]
   rw [eH];refine ⟨O,[.str (tx c)],wO mO,.cons (.str _) .nil,?_⟩;rcases hΦ enT c b et with ⟨fr,d,e⟩ | e
   ·rw [e];refine λv H3 g3 dv _=>⟨by simp,λp hp=>q1 fr d et hc hb e _ _ (g3.trans (bC hp _)) (.tup (.inl az) (.cons (.str _) (.cons (dv.mono (bC hp _)) .nil)))⟩
   ·rw [e];exact λC' H' xp g=>rf C' H' xp λb u e nb=>g _ _ ((aC (λz=>nb (by rw [z];exact mr))).trans e)
  ·rw [if_neg pc];refine ⟨_,rfl,?_⟩;show if false=true then _ else _
   rw [if_neg (by simp)];refine ⟨_,rfl,O,r,C,dx,a,t,rfl,R,rf.go λb u e nb=>⟨e,λz=>nb (by rw [z];exact mr)⟩,λho n b1 hs hn et1 v H1 g1 dv x dx' hx1 hd1 hdx=>?_⟩;have hΦ1:∀c b,b1=c++b->ROk Φ c:=λc b e=>hΦ (hT ho n++[40]) c b (by rw [et1,e];simp);have q2:=λ(c b:List Nat) (d:D) (h3:∀x∈c,x∉stops) (e:b1=c++32::b)=>q2 ho n c b d hs hn h3 (by rw [et1,e]);have tl:t.length=(hT ho n).length+1+b1.length:=by rw [et1];simp;omega
   have hz2:tx ((a++hT ho n++[40])++b1)=tx (a++t):=by congr 1;rw [et1];simp
   have a2l:(a++hT ho n++([40]:List Nat)).length=a.length+(hT ho n).length+1:=by simp;omega
   generalize hz:tx (a++t)=z at *;have h1r:H1 r=some (.ins C dx (rdF z ((a.length+(hT ho n).length+1:Nat):Int))):=g1 _ _ az;have k1:∀b u,b≠r->H b=some u->H1 b=some u:=λb u nb e=>g1 b u (by unfold rdU;rw [aC nb];exact e);have back:∀b,H1 b=none->H b=none:=λb e=>by
    cases hb:H b with
    |none=>rfl
    |some u=>
     by_cases z:b=r
     ·rw [z,h1r] at e;cases e
     ·rw [k1 b u z hb] at e;cases e
   have m1:∀b,O b->bL (H1 b):=λb ob=>by
    by_cases z:b=r
    ·rw [z,h1r];exact .inr (.inr (.inr ⟨(C,dx,_),rfl⟩))
    ·cases hb:H b with
     |none=>have:=mO b ob;rw [hb] at this;rcases this with ⟨_,e⟩ | ⟨_,e⟩ | ⟨_,e⟩ | ⟨_,e⟩<;>cases e
     |some u=>rw [k1 b u z hb,← hb];exact mO b ob
   have h1w:H1 wa=some (.lst xs):=k1 _ _ rw_.symm hw;refine ⟨x,Co,dx',v,rfl,az,occ,λl hl nlx=>⟨rfl,?_⟩⟩;rw [aC nlx] at hl;have nld:l≠dx':=λe=>by rw [e,az] at hl;cases hl
   rw [aC nld] at hl;have nxr:x≠r:=λe=>by rw [e,h1r] at hx1;cases hx1
   have nxw:x≠wa:=λe=>by rw [e,h1w] at hx1;cases hx1
   have nlr:l≠r:=λe=>by rw [e,h1r] at hl;cases hl
   have nlw:l≠wa:=λe=>by rw [e,h1w] at hl;cases hl
   have ndr:dx'≠r:=λe=>by rw [e,h1r] at hd1;cases hd1
   have ndw:dx'≠wa:=λe=>by rw [e,h1w] at hd1;cases hd1
   generalize hH2:upd (upd (upd (upd H1 dx' (.own x)) x (.ins Co dx' [])) l (.lst [])) x (.ins Co dx' (opF v .non (.ref l)))=H2;have old:∀b,b≠x->b≠l->b≠dx'->H2 b=H1 b:=λb b1 b2 b3=>by rw [← hH2,aC b1,aC b2,aC b1,aC b3]
   have h2x:H2 x=some (.ins Co dx' (opF v .non (.ref l))):=by rw [← hH2];exact az
   have h2l:H2 l=some (.lst []):=by rw [← hH2,aC nlx];exact az
   have h2r:H2 r=some (.ins C dx (rdF z ((a.length+(hT ho n).length+1:Nat):Int))):=(old r nxr.symm nlr.symm ndr.symm).trans h1r;have h2w:H2 wa=some (.lst xs):=(old wa nxw.symm nlw.symm ndw.symm).trans h1w;have s12:aD H1 H2:=λb u e=>by
    rw [old b (λz=>by rw [z,hx1] at e;cases e) (λz=>by rw [z,hl] at e;cases e) (λz=>by rw [z,hd1] at e;cases e)];exact e
   have mO2:∀b,(O b\/b=x\/b=l)->bL (H2 b):=λb z=>by
    rcases z with z | z | z
    ·exact c7 s12 (m1 b z)
    ·rw [z,h2x];exact .inr (.inr (.inr ⟨(Co,dx',_),rfl⟩))
    ·rw [z,h2l];exact .inl ⟨[],rfl⟩
   have dv2:DV ⟨K,mg⟩ (λb=>O b\/b=x\/b=l) H2 v (hD ho n):=(dv.bZ (O':=λb=>O b\/b=x\/b=l) λb z=>by
    rcases z with z | z | z
    ·exact .inl z
    ·exact .inr (by rw [z];exact hx1)
    ·exact .inr (by rw [z];exact hl)).mono s12
   have R2:Rd1 K mg H2 r C dx (tx ((a++hT ho n++[40])++b1)) (a++hT ho n++([40]:List Nat)).length:=by
    rw [hz2,a2l];exact ⟨h2r,R.rc,R.zl,by omega⟩
   obtain ⟨hd,ds,ed,ehd⟩:∃hd ds,hD ho n=.tup (.str hd::ds)/\hN ho=hd:=by cases ho<;>exact ⟨_,_,rfl,rfl⟩
   have rf2:RF ⟨K,mg⟩ E (λb=>M b\/b=x\/b=l) H2:=rf.go λb u e nb=>by
    have e1:=k1 b u (λz=>nb (by rw [z];exact mr)) e;refine ⟨s12 b u e1,λz=>?_⟩;rcases z with z | z | z
    ·exact nb z
    ·rw [z,hx1] at e1;cases e1
    ·rw [z,hl] at e1;cases e1
   refine ⟨_,rfl,_,rfl,λb=>O b\/b=x\/b=l,λb=>M b\/b=x\/b=l,r,C,dx,x,Co,dx',v,.non,.ref l,hd,ds,a++hT ho n++[40],b1,rfl,mO2,nxr.symm,R2,h2x,occ,.inl or,by rw [← ed];exact dv2,hΦ1,.inl mr,rf2,λc b d eb hc ld lv H3 g3 dv3=>?_⟩;rw [← ehd] at ld;rw [hz2,a2l] at g3;have h3r:H3 r=some (.ins C dx (rdF z ((a.length+(hT ho n).length+1+c.length+1:Nat):Int))):=g3 _ _ az;have k3:∀b u,b≠r->H2 b=some u->H3 b=some u:=λb u nb e=>g3 b u (by unfold rdU;rw [aC nb];exact e);have h3w:H3 wa=some (.lst xs):=k3 _ _ rw_.symm h2w;have h3l:H3 l=some (.lst []):=k3 _ _ nlr h2l;have h3x:H3 x=some (.ins Co dx' (opF v .non (.ref l))):=k3 _ _ nxr h2x;have h4w:upd H3 x (.ins Co dx' (opF v lv (.ref l))) wa=some (.lst xs):=(aC nxw.symm).trans h3w;refine ⟨_,rfl,.inl ⟨rfl,xs,.inl (.inl h4w)⟩,_,rfl,wa,xs,.ref x,rfl,rfl,h4w,aS hx (by decide),?_⟩;have m3:∀b,(O b\/b=x\/b=l)->bL (H3 b):=λb z=>by
    by_cases e:b=r
    ·rw [e,h3r];exact .inr (.inr (.inr ⟨(C,dx,_),rfl⟩))
    ·cases hb:H2 b with
     |none=>have:=mO2 b z;rw [hb] at this;rcases this with ⟨_,e⟩ | ⟨_,e⟩ | ⟨_,e⟩ | ⟨_,e⟩<;>cases e
     |some u=>rw [k3 b u e hb,← hb];exact mO2 b z
   have kp:Kp (λb=>O b\/b=x\/b=l) H3 (upd (upd H3 x (.ins Co dx' (opF v lv (.ref l)))) wa (.lst (xs++[.ref x]))):=λb u e nb=>by
    rw [aC (λz=>nb (.inl (by rw [z];exact ow))),aC (λz=>nb (.inr (.inl z)))];exact e
   have kp2:Kp (λb=>O b\/b=x\/b=l) H2 H3:=λb u e nb=>k3 b u (λz=>nb (.inl (by rw [z];exact or))) e;refine q2 c b d hc eb ld x Co dx' l v lv _ occ (back x hx1) (back l hl) nlx.symm ?_ az ?_ ?_ ?_ ((dv2.kp mO2 kp2).kp m3 kp) (dv3.kp m3 kp)
   ·rw [aC rw_,aC nxr.symm];exact h3r
   ·rw [aC nxw];exact az
   ·rw [aC nlw,aC nlx];exact h3l
   ·intro b u b1 b2 e;have e1:=k1 b u b1 e;have bx:b≠x:=λz=>by rw [z,hx1] at e1;cases e1
    rw [aC b2,aC bx];exact k3 b u b1 (s12 b u e1)
end
def sW (K:av)(mg:Zs)(Φ Ψ:Zf):Sp:=λvs H Q E=>∃(O M:Za) (r C dx wa o Co dxo l:Addr) (hv lv gv:V) (xs:List Addr) (ws:List V) (hd:Str) (ds wd:List D) (dl dg:D) (a t:List Nat),vs=[.ref r,.ref wa,gv]/\Top K mg O H r wa o Co dxo l hv lv xs ws hd ds wd dl/\DV ⟨K,mg⟩ O H gv dg/\
 Rd1 K mg H r C dx (tx<|a++t) a.length/\ds.length<=10/\(∀p c b,t=p++c++b->ROk Φ c)/\(∃fr b,Ψ [.tup (.str hd::ds++[.tup<|wd++[.tup [dl,dg]]])]=.ok (fr,.bl b))/\M r/\M wa/\M l/\RF ⟨K,mg⟩ E M H/\
 (∀c b d,t=[44,32]++(c++32::b)->(∀x∈c,x∉stops)->Led Φ hd c d->
  ∀p lv H',H p=none->H' r=some (.ins C dx<|rdF (tx<|a++t) ((a.length+2+c.length+1:Nat):Int))->H' l=some (.lst<|ws++[.ref p])->H' o=some (.ins Co dxo<|opF hv lv<|.ref l)->(∀b u,b≠r->b≠o->b≠l->H b=some u->H' b=some u)->
  DV ⟨K,mg⟩ O H' lv d->DV ⟨K,mg⟩ O H' (.ref p) (.tup [dl,dg])->Q .non H')/\
 ∀b fr,t=41::b->Ψ [.tup (.str hd::ds++[.tup<|wd++[.tup [dl,dg]]])]=.ok (fr,.bl true)->
  ∀v H',H' r=some (.ins C dx<|rdF (tx<|a++t) ((a.length+1:Nat):Int))->H' wa=some (.lst<|xs.map V.ref)->(∀b u,b≠r->b≠wa->b≠l->H b=some u->H' b=some u)->DV ⟨K,mg⟩ O H' v (.tup (.str hd::ds++[.tup<|wd++[.tup [dl,dg]]]))->Q v H'
section
variable {P:bg}{w:cw}{K:av}{mg:Zs}{base:Heap}{f:Addr}{fd:dQ}{Φ Ψ:Zf}
theorem JQ (Nt:NtT K mg)(B:Bt mg)(Gp:FMt P w K mg base 1 "Reader" "passes" ["self", "piece"] (gV K mg))(Gn:FMt P w K mg base 2 "Reader" "need" ["self", "piece"] (nP K mg))(Gf:FF P w K mg base 6 "is_formed" ["thing"] Ψ)
  (Gl:Hd.Fn P w K mg base 5 "read_lead" ["reader", "opened"] (xN K mg Φ)) (Fu:Fun K "gone_on" "gone_on" xZ f fd):bR P w K mg base (CX1 P w) 7 f fd ["reader", "waiting", "game"] (sW K mg Φ Ψ):=by
 refine cO Fu qL (λvs H Q E h=>by obtain⟨O,M,r,C,dx,wa,o,Co,dxo,l,hv,lv,gv,xs,ws,hd,ds,wd,dl,dg,a,t,rfl,_⟩:=h;rfl) λcdv A outer s H vs Q E hr h=>?_;obtain⟨O,M,r,C,dx,wa,o,Co,dxo,l,hv,lv,gv,xs,ws,hd,ds,wd,dl,dg,a,t,rfl,T,dgv,R,dsl,hΦ,hΨ,mr,mw,ml,rf,q1,q2⟩:=h;have hu:=hr.units;refine⟨_,aJ (cu (i:=3) qL.nd rfl (af rfl)<|uQ eO (aA (i:=1) rfl<|af rfl) (Mq xK lJ) λ_ _=>rfl)
  (aJ (cF<|rH dS fg fq ig (dj (aA (i:=3) rfl<|af rfl) rfl)<|aB (jA<|aB (dj (aA (i:=3) rfl<|af rfl) rfl)<|aB (aA (i:=2) rfl<|af rfl) aP) aP)
  (aJ (gf (gK<|eF Gp hr (E:=E) aK (aA (i:=0) rfl<|af rfl)<|aB cj aP)
   (aJ (cF<|mD Gl hr (E:=E) aK<|aB (aA (i:=0) rfl<|af rfl)<|aB (aA (i:=3) rfl<|af rfl) aP)<|bA<|dW qH) dH)
  (aJ (cF<|eF Gn hr (E:=E) aK (aA (i:=0) rfl<|af rfl)<|aB cj aP)
  (aJ (cF<|Az dS mf mh Ck<|aA (i:=1) rfl<|af rfl)
  (aJ (cu (i:=4) qL.nd rfl (af rfl)<|Dq aV (dj (aA (i:=3) rfl<|af rfl) rfl)<|jA<|aB (kW rC rfl B.tuple iQ<|aB (dj (aA (i:=3) rfl<|af rfl) rfl) aP) aP)
  (aJ (gf (nu<|gK<|nF Gf hr<|aB (aA (i:=4) rfl<|af rfl) aP) (bA<|zm Nt rfl hr.hd cj λ_ _ _ _ _ _ _ _ I mk q=>iJ I mk q) dH)
  (bA<|dW<|aA (i:=4) rfl<|af rfl))))))),?_⟩
 refine⟨_,rfl,O,_,_,T.mO,.inl<|.int 1,(rfl:Ms (.int 1)=some (.int (-1))),λv1 H1 g1 d1=>?_⟩;cases d1;have T1:=T.mono g1;refine⟨O,.lst<|(xs++[o]).map D.adr,.int (-1),_,T1.mO,.inr ⟨wa,rfl,T1.ow,_,T1.hw,K9 _⟩,.inl<|.int _,Ff,λv2 H2 g2 d2=>?_⟩;have T2:=T1.mono g2;have g02:=g1.trans g2;cases d2;refine⟨_,rfl,o,Co,dxo,_,.ref l,rfl,T2.ho,T2.oc.cls,T2.oc.ways,rfl,.inl ⟨rfl,ws,.inl<|.inl T2.hl⟩,_,rfl,o,Co,dxo,_,lv,rfl,T2.ho,T2.oc.cls,T2.oc.lead,rfl,_,rfl,by simp,λp hp=>?_⟩;have ne:∀{b u},H2 b=some u->b≠p:=λe z=>by rw[z,hp] at e;cases e
 have h3l:upd H2 p (.tup [lv,gv]) l=some (.lst ws):=(aC<|ne T2.hl).trans T2.hl;refine⟨l,ws,.ref p,rfl,rfl,h3l,aS T2.lw (by decide),?_⟩;generalize hH4:upd (upd H2 p<|.tup [lv,gv]) l (.lst<|ws++[.ref p])=H4;have old:∀b,b≠p->b≠l->H4 b=H2 b:=λb b1 b2=>by rw[← hH4,aC b2,aC b1]
 have np:H p=none:=by
  cases e:H p with
  |none=>rfl
  |some u=>rw[g02 _ _ e] at hp;cases hp
 have npl:p≠l:=λz=>ne T2.hl z.symm;have h4p:H4 p=some (.tup [lv,gv]):=by rw[← hH4,aC npl];exact az
 have h4l:H4 l=some (.lst<|ws++[.ref p]):=by rw[← hH4];exact az
 have h4o:H4 o=some (.ins Co dxo<|opF hv lv<|.ref l):=(old o (ne T2.ho) T2.n6).trans T2.ho;have h4w:H4 wa=some (.lst<|(xs++[o]).map V.ref):=(old wa (ne T2.hw) T2.n5).trans T2.hw;have kp4:Kp O H2 H4:=λb u e nb=>by
  rw[old b (ne e) λz=>nb (by rw[z];exact T2.ol)];exact e
 have mO4:∀b,O b->bL (H4 b):=λb ob=>by
  by_cases z:b=l
  ·rw[z,h4l];exact .inl ⟨_,rfl⟩
  ·have m2:=T2.mO b ob;have nb:b≠p:=λy=>by rw[y,hp] at m2;rcases m2 with⟨_,e⟩|⟨_,e⟩|⟨_,e⟩|⟨_,e⟩<;>cases e
   rw[old b nb z];exact m2
 have dh4:=T2.dh.kp T2.mO kp4;have dl4:=T2.dl.kp T2.mO kp4;have dg4:DV ⟨K,mg⟩ O H4 gv dg:=(dgv.mono g02).kp T2.mO kp4;have dp4:DV ⟨K,mg⟩ O H4 (.ref p) (.tup [dl,dg]):=.tup (.inl h4p)<|.cons dl4<|.cons dg4 .nil;have dw4:DVs ⟨K,mg⟩ O H4 (ws++[.ref p]) (wd++[.tup [dl,dg]]):=gU (T2.dw.kp T2.mO kp4)<|.cons dp4 .nil;have R4:Rd1 K mg H4 r C dx (tx<|a++t) a.length:=⟨(old r (ne<|g02 _ _ R.at_) T2.n3).trans<|g02 _ _ R.at_,R.rc,R.zl,R.il⟩;have k4:∀b u,b≠l->H b=some u->H4 b=some u:=λb u nb e=>(old b (ne<|g02 _ _ e) nb).trans<|g02 _ _ e;have lc:(ae ", ").length=2:=by decide +kernel
 have lp:(ae ")").length=1:=by decide +kernel
 have sc:ae ", " = tx [44,32]:=by decide +kernel
 have sp:ae ")" = tx [41]:=by decide +kernel
 have zl:(tx<|a++t).length=a.length+t.length:=by rw[aW];simp
 refine⟨_,rfl,r,C,dx,_,rfl,R.rc.at_,R4.at_,rfl,r,C,dx,_,_,_,rfl,R4,by rw[lc];decide,?_⟩;by_cases pc:Pc (tx<|a++t) a.length ", " = true
 ·rw[if_pos pc];obtain⟨t1,e1⟩:=rF sc pc;have hz2:tx ((a++[44,32])++t1)=tx (a++t):=by congr 1;rw[e1];simp
  have a2l:(a++([44,32]:List Nat)).length=a.length+2:=by simp
  have tl:t.length=2+t1.length:=by rw[e1];simp;omega
  have hΦ1:∀c b,t1=c++b->ROk Φ c:=λc b e=>hΦ [44,32] c b (by rw[e1,e];simp);have q1:=λ(c b:List Nat) (d:D) (e:t1=c++32::b)=>q1 c b d (by rw[e1,e]);refine⟨_,rfl,?_⟩;show if true=true then _ else _
  rw[if_pos rfl,lc];generalize hz:tx (a++t)=z at *;have m5:∀b,O b->bL (rdU H4 r C dx z (a.length+2) b):=wO mO4;have k5:Kp O H4 (rdU H4 r C dx z<|a.length+2):=t8 T2.or;have R5:Rd1 K mg (rdU H4 r C dx z<|a.length+2) r C dx (tx<|(a++[44,32])++t1) (a++([44,32]:List Nat)).length:=by
   rw[hz2,a2l];exact⟨az,R.rc,R.zl,by omega⟩
  have rf5:RF ⟨K,mg⟩ E M (rdU H4 r C dx z<|a.length+2):=rf.go λb u e nb=>⟨(aC λz=>nb (by rw[z];exact mr)).trans<|k4 b u (λz=>nb (by rw[z];exact ml)) e,nb⟩;refine⟨_,rfl,_,rfl,O,M,r,C,dx,o,Co,dxo,hv,lv,.ref l,hd,ds,a++[44,32],t1,rfl,m5,T2.n2,R5,(aC T2.n2.symm).trans h4o,T2.oc,T2.or,dh4.kp mO4 k5,hΦ1,mr,rf5,λc b d eb hc ld lv' H6 g6 dv6=>?_⟩;rw[hz2,a2l] at g6;have h6r:H6 r=some (.ins C dx<|rdF z ((a.length+2+c.length+1:Nat):Int)):=g6 _ _ az;have k6:∀b u,b≠r->H4 b=some u->H6 b=some u:=λb u nb e=>g6 b u (by unfold rdU;rw[aC nb,aC nb];exact e);have kq:Kp O H4 H6:=λb u e nb=>k6 b u (λz=>nb (by rw[z];exact T2.or)) e;have m6:∀b,O b->bL (H6 b):=λb ob=>by
   by_cases z:b=r
   ·rw[z,h6r];exact .inr<|.inr<|.inr ⟨(C,dx,_),rfl⟩
   ·cases hb:H4 b with
    |none=>have:=mO4 b ob;rw[hb] at this;rcases this with⟨_,e⟩|⟨_,e⟩|⟨_,e⟩|⟨_,e⟩<;>cases e
    |some u=>rw[k6 b u z hb,← hb];exact mO4 b ob
  have k7:Kp O H6 (upd H6 o<|.ins Co dxo<|opF hv lv'<|.ref l):=t8 T2.oo;refine q1 c b d eb hc ld p lv' _ np ((aC T2.n2).trans h6r) ((aC T2.n6.symm).trans<|k6 _ _ T2.n3.symm h4l) az (λb u b1 b2 b3 e=>(aC b2).trans<|k6 b u b1<|k4 b u b3 e) (dv6.kp m6 k7)<|(dp4.kp mO4 kq).kp m6 k7
 ·rw[if_neg pc];refine⟨_,rfl,?_⟩;show if false=true then _ else _
  rw[if_neg<|by simp];refine⟨_,rfl,r,C,dx,_,rfl,R.rc.at_,R4.at_,rfl,r,C,dx,_,_,_,rfl,R4,by rw[lp];decide,λpc=>?_,rf.go λb u e nb=>⟨k4 b u (λz=>nb (by rw[z];exact ml)) e,λz=>nb (by rw[z];exact mr)⟩⟩;obtain⟨b,eb⟩:=rF sp pc;have tl:t.length=1+b.length:=by rw[eb];simp;omega
  rw[lp];generalize hz:tx (a++t)=z at *;have h5w:rdU H4 r C dx z (a.length+1) wa=some (.lst<|(xs++[o]).map V.ref):=(aC T2.n1.symm).trans h4w;refine⟨_,rfl,.inl ⟨rfl,_,.inl<|.inl h5w⟩,wa,_,.ref o,rfl,rfl,h5w,zM,?_⟩;rw[zE];generalize hH6:upd (rdU H4 r C dx z<|a.length+1) wa (.lst<|xs.map V.ref)=H6;have old6:∀b,b≠wa->b≠r->H6 b=H4 b:=λb b1 b2=>by rw[← hH6,aC b1];exact aC b2
  have h6r:H6 r=some (.ins C dx<|rdF z ((a.length+1:Nat):Int)):=by rw[← hH6,aC T2.n1];exact az
  have h6w:H6 wa=some (.lst<|xs.map V.ref):=by rw[← hH6];exact az
  have k6:Kp O H4 H6:=λb u e nb=>by rw[old6 b (λz=>nb (by rw[z];exact T2.ow)) λz=>nb (by rw[z];exact T2.or)];exact e
  have m6:∀b,O b->bL (H6 b):=λb ob=>by
   by_cases z:b=r
   ·rw[z,h6r];exact .inr<|.inr<|.inr ⟨(C,dx,_),rfl⟩
   ·by_cases y:b=wa
    ·rw[y,h6w];exact .inl ⟨_,rfl⟩
    ·rw[old6 b y z];exact mO4 b ob
  have h6o:H6 o=some (.ins Co dxo<|opF hv lv<|.ref l):=(old6 o T2.n4.symm T2.n2.symm).trans h4o;have h6l:H6 l=some (.lst<|ws++[.ref p]):=(old6 l T2.n5.symm T2.n3.symm).trans h4l;refine⟨_,rfl,o,Co,dxo,_,hv,rfl,h6o,T2.oc.cls,T2.oc.head,rfl,_,rfl,o,Co,dxo,_,.ref l,rfl,h6o,T2.oc.cls,T2.oc.ways,rfl,O,[D.lst<|wd++[D.tup [dl,dg]]],D.tup<|wd++[D.tup [dl,dg]],m6,.cons (.inr ⟨l,rfl,T2.ol,_,h6l,dw4.kp mO4 k6⟩) .nil,rfl,λv7 H7 g7 d7=>⟨by simp,λp' hp'=>?_⟩⟩;have g67:aD H6 (upd H7 p'<|.tup [v7]):=g7.trans<|bC hp' _;have m7:∀b,O b->bL (upd H7 p' (.tup [v7]) b):=λb ob=>c7 g67<|m6 b ob;refine⟨O,.tup (.str hd::ds),.tup [.tup<|wd++[.tup [dl,dg]]],.tup (.str hd::ds++[.tup<|wd++[.tup [dl,dg]]]),m7,.inl<|(dh4.kp mO4 k6).mono g67,.inl<|.tup (.inl az)<|.cons (d7.mono<|bC hp' _) .nil,?_,λv8 H8 g8 d8=>?_⟩
  ·show(if(D.str hd::ds).length+[D.tup<|wd++[.tup [dl,dg]]].length<=be then some (D.tup<|(D.str hd::ds)++[D.tup<|wd++[.tup [dl,dg]]]) else none)=_;have zz:be=16777216:=rfl;rw[if_pos (by simp only[bX,lx];omega)]
  ·have g68:=g67.trans g8;have m8:∀b,O b->bL (H8 b):=λb ob=>c7 g68<|m6 b ob;refine⟨_,rfl,O,_,m8,.cons d8 .nil,?_⟩;obtain⟨fr,bb,e⟩:=hΨ;rw[e];refine λv9 H9 g9 d9 _=>?_;cases d9;refine⟨_,rfl,?_⟩;have kk:∀b u,b≠r->b≠wa->b≠l->H b=some u->H9 b=some u:=λb u b1 b2 b3 e=>(g68.trans g9) _ _<|(old6 b b2 b1).trans<|k4 b u b3 e;cases bb with
   |true=>
    show if false=true then _ else _
    rw[if_neg<|by simp];exact⟨_,rfl,q2 b fr eb e _ _ ((g68.trans g9) _ _ h6r) ((g68.trans g9) _ _ h6w) kk<|d8.mono g9⟩
   |false=>
    show if true=true then _ else _
    rw[if_pos rfl];exact⟨M,rf.go λb u e nb=>⟨kk b u (λz=>nb (by rw[z];exact mr)) (λz=>nb (by rw[z];exact mw)) (λz=>nb (by rw[z];exact ml)) e,nb⟩⟩
end
abbrev Wy:Type:=List Nat×D×Gt
def tT (x:Wy):List Nat:=x.1++32::tG x.2.2
def tD (x:Wy):D:=.tup [x.2.1,dGt x.2.2]
def pT:List Wy->List Nat
 |[]=>[]
 |x::r=>tT x++44::32::pT r
def ofW:List Wy->Wy->Wt
 |[],x=>.one x.1 x.2.1 x.2.2
 |y::r,x=>.more y.1 y.2.1 y.2.2<|ofW r x
theorem Q5:∀(dn:List Wy) (x:Wy),tW (ofW dn x)=pT dn++tT x
 |[],x=>by simp[ofW,tW,pT,tT]
 |y::r,x=>by simp[ofW,tW,pT,tT,Q5 r x]
theorem Mh:∀(dn:List Wy) (x:Wy),dWt (ofW dn x)=dn.map tD++[tD x]
 |[],x=>rfl
 |y::r,x=>by simp[ofW,dWt,tD,Mh r x]
theorem Kf:∀(dn:List Wy) (x:Wy),pT (dn++[x])=pT dn++(tT x++[44,32])
 |[],x=>by simp[pT]
 |y::r,x=>by simp[pT,Kf r x]
section
variable (Φ Ψ:Zf)
def okY (ho:Option Int)(y:Wy):Prop:=(∀x∈y.1,x∉stops)/\Led Φ (hN ho) y.1 y.2.1/\okG Φ Ψ y.2.2
structure FrN where
 ho:Option Int
 n:List Nat
 dn:List Wy
 c:List Nat
 d:D
def okF (f:FrN):Prop:=(∀s,f.ho=some s->s=1\/s=2)/\(∀x∈f.n,x∉stops)/\(∀x∈f.c,x∉stops)/\Led Φ (hN f.ho) f.c f.d/\∀y∈f.dn,okY Φ Ψ f.ho y
theorem Je {ho:Option Int}:∀(dn:List Wy) (x:Wy),(∀y∈dn,okY Φ Ψ ho y)->okY Φ Ψ ho x->okW Φ Ψ ho (ofW dn x)
 |[],x,_,h=>by simp only[ofW,okW];exact h
 |y::r,x,h,hx=>by
  simp only[ofW,okW];obtain⟨h1,h2,h3⟩:=h y a8;exact⟨h1,h2,h3,Je r x (λz hz=>h z<|ax _ hz) hx⟩
end
def mkF (f:FrN):Frm:=⟨f.ho,f.n,f.dn.map tD,f.d,none⟩
def qU (f:FrN):List Nat:=hT f.ho f.n++40::(pT f.dn++(f.c++[32]))
def pre:List FrN->List Nat
 |[]=>[]
 |f::fs=>pre fs++qU f
theorem Ma:∀dn:List Wy,dn.length<=(pT dn).length
 |[]=>a9 _
 |x::r=>by have:=Ma r;simp[pT];omega
theorem sV:∀fs:List FrN,fs.length<=(pre fs).length/\∀f∈fs,f.dn.length<=(pre fs).length
 |[]=>⟨a9 _,(λ_ z=>(nomatch z))⟩
 |f::fs=>by
  obtain⟨h1,h2⟩:=sV fs;have h3:=Ma f.dn;refine⟨by simp[pre,qU];omega,λg hg=>?_⟩;rcases ag.mp hg with rfl|w
  ·simp[pre,qU];omega
  ·have:=h2 g w;simp[pre,qU];omega
section
variable {K:av}{mg:Zs}{Φ Ψ:Zf}{O0:Za}{H0 H:Hp}{r C dx wa:Addr}{L:List Nat}{fs:List FrN}{ps:List (Addr×Addr)}{a t:List Nat}{Q:VK}{E:XK}
def O4 (K:av)(mg:Zs)(Φ Ψ:Zf)(O0:Za)(H0:Hp)(r C dx wa:Addr)(L:List Nat)(n:Nat)(v:V)(H:Hp):Prop:=∃(fs:List FrN) (ps:List (Addr×Addr)) (a t:List Nat),n<a.length/\L=a++t/\RS K mg O0 H0 r C dx wa (tx L) (fs.map mkF) ps a.length H/\(∀f∈fs,okF Φ Ψ f)/\
 ((v=.non/\fs≠[]/\a=pre fs)\/(v≠.non/\∃g,okG Φ Ψ g/\DV ⟨K,mg⟩ (Own O0 r wa ps) H v (dGt g)/\a=pre fs++tG g))
def Mw (r wa:Addr)(ps:List (Addr×Addr)):Za:=λb=>b=r\/b=wa\/∃p∈ps,b=p.2
theorem MJ {fs:List Frm}{z:Str}{i:Nat}(R:RS K mg O0 H0 r C dx wa z fs ps i H)(rf:∀C H',XP ⟨K,mg⟩ H' nT C->aD H0 H'->E (.ref C.1) C.2 H'):RF ⟨K,mg⟩ E (Mw r wa ps) H:=λC' H' xp k=>rf C' H' xp λb u e=>k b u (R.sm b u e) λm=>by
 rcases m with m|m|⟨p,hp,m⟩
 ·rw[m,R.r0] at e;cases e
 ·rw[m,R.w0] at e;cases e
 ·obtain⟨⟨_,n2⟩,_⟩:=R.fr.new p hp;rw[m,n2] at e;cases e
theorem yH (hΦ:∀p c b,L=p++c++b->ROk Φ c)(eL:L=pre fs++t)(R:RS K mg O0 H0 r C dx wa (tx L) (fs.map mkF) ps (pre fs).length H)(ok:∀f∈fs,okF Φ Ψ f)(rf:∀C H',XP ⟨K,mg⟩ H' nT C->aD H0 H'->E (.ref C.1) C.2 H')
  (q:∀v H',O4 K mg Φ Ψ O0 H0 r C dx wa L (pre fs).length v H'->Q v H'):ql K mg Φ [.ref r,.ref wa] H Q E:=by
 have zl:=R.rd.zl;have Ll:(tx L).length=(pre fs).length+t.length:=by rw[aW,eL];simp
 have ln:ps.length<=(pre fs).length:=by have:=R.fr.len;rw[fA] at this;rw[this];exact(sV fs).1
 refine⟨Own O0 r wa ps,Mw r wa ps,r,C,dx,wa,pre fs,t,_,rfl,R.mO,oJ,wI,R.rw,by rw[← eL];exact R.rd,R.hw,by simp;omega,λp c b e=>hΦ (pre fs++p) c b (by rw[eL,e];simp),.inl rfl,MJ R rf,λc b fr d et hc hb e v H' g dv=>?_,λho n c b d hs hn hc et ld o Co dxo l hv lv H' oc no nl onl hr hw hho hl k d1 d2=>?_⟩
 ·rw[← eL] at g;have l1:(pre fs).length+(enT++c).length<=(tx L).length:=by rw[Ll,et];simp
  refine q v H' ⟨fs,ps,pre fs++(enT++c),b,by simp,by rw[eL,et];simp,by rw[aw];exact R.on l1 g,ok,.inr ⟨λz=>(by rw[z] at dv;cases dv),.fin c d,?_,dv,rfl⟩⟩;simp only[okG];exact⟨hc,fr,e⟩
 ·rw[← eL] at hr;have ea:pre (⟨ho,n,[],c,d⟩::fs)=pre fs++(hT ho n++40::(c++[32])):=by simp[pre,qU,pT]
  have l1:(pre (⟨ho,n,[],c,d⟩::fs)).length=(pre fs).length+(hT ho n).length+1+c.length+1:=by rw[ea];simp;omega
  have l2:(pre fs).length+(hT ho n).length+1+c.length+1<=(tx L).length:=by rw[Ll,et];simp;omega
  have eo:(λb=>Own O0 r wa ps b\/b=o\/b=l)=Own O0 r wa ((o,l)::ps):=funext λb=>propext ⟨λh=>h.elim zc λh=>.inr<|.inr<|.inr ⟨(o,l),a8,h⟩,Du⟩;rw[eo] at d1 d2;refine q _ _ ⟨⟨ho,n,[],c,d⟩::fs,(o,l)::ps,pre (⟨ho,n,[],c,d⟩::fs),b,by rw[l1];omega,by rw[eL,et,ea];simp,?_,λf hf=>?_,.inl ⟨rfl,by simp,rfl⟩⟩
  ·rw[l1];exact RS.open (f:=mkF ⟨ho,n,[],c,d⟩) R l2 oc no nl onl hr hw hho hl k rfl d1 d2
  ·rcases ag.1 hf with rfl|hf
   ·exact⟨hs,hn,hc,ld,λ_ z=>(nomatch z)⟩
   ·exact ok f hf
theorem PX {f:FrN}{p:Addr×Addr}{v:V}{g:Gt}(hΦ:∀p c b,L=p++c++b->ROk Φ c)(hΨ:∃fr b,Ψ [clD f.ho f.n<|f.dn.map tD++[tD (f.c,f.d,g)]]=.ok (fr,.bl b))(ea:a=pre (f::fs)++tG g)(eL:L=a++t)(R:RS K mg O0 H0 r C dx wa (tx L) ((f::fs).map mkF) (p::ps) a.length H)(ok:∀f'∈f::fs,okF Φ Ψ f')
  (og:okG Φ Ψ g) (dv:DV ⟨K,mg⟩ (Own O0 r wa (p::ps)) H v (dGt g)) (rf:∀C H',XP ⟨K,mg⟩ H' nT C->aD H0 H'->E (.ref C.1) C.2 H') (q:∀v H',O4 K mg Φ Ψ O0 H0 r C dx wa L a.length v H'->Q v H'):sW K mg Φ Ψ [.ref r,.ref wa,v] H Q E:=by
 have zl:=R.rd.zl;have Ll:(tx L).length=a.length+t.length:=by rw[aW,eL];simp
 obtain⟨⟨Co,dxo,hv,lv,ws,oc,e1,e2,d1,d2,d3⟩,ad,hs⟩:=R.fr;have lw:ws.length=f.dn.length:=by have:=bT d3;rw[this];simp[mkF]
 have bf:=(sV (f::fs)).2 f a8;have al:(pre (f::fs)).length<=a.length:=by rw[ea];simp
 have T:Top K mg (Own O0 r wa (p::ps)) H r wa p.1 Co dxo p.2 hv lv (ps.map n9).reverse ws (hN f.ho) (hP f.ho f.n) (f.dn.map tD) f.d:=
  ⟨R.mO,oJ,wI,zx,v5,R.rw,ad.r1.symm,ad.r2.symm,ad.w1.symm,ad.w2.symm,ad.n12,by rw[R.hw];simp,e1,oc,e2,by omega,by rw[← Ru];exact d1,d2,d3⟩
 obtain⟨o1,o2,o3,o4,o5⟩:=ok f a8;have okf:∀f'∈fs,okF Φ Ψ f':=λf' h=>ok f'<|ax _ h;have og':okY Φ Ψ f.ho (f.c,f.d,g):=⟨o3,o4,og⟩;refine⟨Own O0 r wa (p::ps),Mw r wa (p::ps),r,C,dx,wa,p.1,Co,dxo,p.2,hv,lv,v,_,ws,_,_,_,_,dGt g,a,t,rfl,T,dv,by rw[← eL];exact R.rd,by cases f.ho<;>simp[hP],λp' c b e=>hΦ (a++p') c b (by rw[eL,e];simp),hΨ,.inl rfl,.inr<|.inl rfl,.inr<|.inr ⟨p,a8,rfl⟩,MJ R rf,λc b d et hc ld t' lv' H' nt hr hl' ho k d5 d6=>?_,λb fr et eΨ v' H' hr hw k d5=>?_⟩
 ·rw[← eL] at hr;have ep:pre (⟨f.ho,f.n,f.dn++[(f.c,f.d,g)],c,d⟩::fs)=a++([44,32]++(c++[32])):=by rw[ea];simp[pre,qU,Kf,tT]
  have l1:(pre (⟨f.ho,f.n,f.dn++[(f.c,f.d,g)],c,d⟩::fs)).length=a.length+2+c.length+1:=by rw[ep];simp;omega
  have l2:a.length+2+c.length+1<=(tx L).length:=by rw[Ll,et];simp;omega
  have kp:Kp (Own O0 r wa (p::ps)) H H':=λb u e nb=>k b u (λz=>nb (by rw[z];exact oJ)) (λz=>nb (by rw[z];exact zx)) (λz=>nb (by rw[z];exact v5)) e;refine q _ _ ⟨⟨f.ho,f.n,f.dn++[(f.c,f.d,g)],c,d⟩::fs,p::ps,pre (⟨f.ho,f.n,f.dn++[(f.c,f.d,g)],c,d⟩::fs),b,by rw[l1];omega,by rw[eL,et,ep];simp,?_,λf' hf=>?_,.inl ⟨rfl,by simp,rfl⟩⟩
  ·rw[l1];refine RS.next (f':=mkF ⟨f.ho,f.n,f.dn++[(f.c,f.d,g)],c,d⟩) R l2 oc hr ho hl' k (d1.kp R.mO kp) d5 ?_;show DVs _ _ _ _ ((f.dn++[(f.c,f.d,g)]).map tD);rw[nv];exact gU (d3.kp R.mO kp)<|.cons d6 .nil
  ·rcases ag.1 hf with rfl|hf
   ·refine⟨o1,o2,hc,ld,λy hy=>?_⟩;rcases bE.mp hy with w|w
    ·exact o5 y w
    ·rw[cx.mp w];exact og'
   ·exact okf f' hf
 ·rw[← eL] at hr;have eg:tG (.nd f.ho f.n<|ofW f.dn (f.c,f.d,g))=qU f++(tG g++[41]):=by simp[tG,qU,Q5,tT]
  have ed:dGt (.nd f.ho f.n<|ofW f.dn (f.c,f.d,g))=clD f.ho f.n (f.dn.map tD++[tD (f.c,f.d,g)]):=by simp only[dGt,Mh]
  have l2:a.length+1<=(tx L).length:=by rw[Ll,et];simp
  refine q _ _ ⟨fs,ps,a++[41],b,by simp,by rw[eL,et];simp,?_,okf,.inr ⟨λz=>(by rw[z] at d5;cases d5),.nd f.ho f.n<|ofW f.dn (f.c,f.d,g),?_,?_,?_⟩⟩
  ·rw[aw];exact R.close l2 hr hw k
  ·simp only[okG];refine⟨o1,o2,Je Φ Ψ f.dn _ o5 og',fr,?_⟩;rw[Mh];exact eΨ
  ·rw[ed];exact d5.bZ λb o=>.inl<|zc o
  ·rw[ea,eg];simp[pre]
end
theorem Q8 {P:bg}{w:cw}{K:av}{mg:Zs}{base:Heap}{j k:Nat}{x:Str}{ps:List Str}{sp:Sp}(h:Hd.Fn P w K mg base j x ps sp)(le:j<=k):Hd.Fn P w K mg base k x ps sp:=by
 obtain⟨f,fd,F,b,kp,m⟩:=h.ex;exact⟨f,fd,F.mono le,b,kp,m⟩
def Ri (K:av)(mg:Zs)(Φ Ψ:Zf):Sp:=λvs H Q E=>∃(O0:Za) (g:Gt),vs=[.str<|tx<|tG g]/\okG Φ Ψ g/\(tx<|tG g).length<=100000/\(∀b,O0 b->bL (H b))/\∀v H',aD H H'->DV ⟨K,mg⟩ O0 H' v (dGt g)->Q v H'
def Wf (K:av)(mg:Zs)(Φ Ψ:Zf):Sp:=λvs H Q E=>∃(O0:Za) (L:List Nat),vs=[.str<|tx L]/\L.length<=100000/\(∀x∈L,x<128)/\(¬ ∃g,okG Φ Ψ g/\tG g=L)/\(∀b,O0 b->bL (H b))/\∀C H',XP ⟨K,mg⟩ H' nT C->aD H H'->E (.ref C.1) C.2 H'
def Q4 (K:av)(mg:Zs):Sp:=λvs H Q E=>∃(O:Za) (d:D) (v:V),vs=[v]/\DV ⟨K,mg⟩ O H v d/\cH d≠""/\cH d≠"str"/\∀C H',XP ⟨K,mg⟩ H' nT C->aD H H'->E (.ref C.1) C.2 H'
def RZ (Φ:Zf):Prop:=∀c:List Nat,c.length<=100000->(∀x∈c,x<128)->ROk Φ c
def Us (Φ Ψ:Zf):Prop:=∀(ho:Option Int) (n:List Nat) (ws:List Wy),(∀s,ho=some s->s=1\/s=2)->n.length<=100000->ws≠[]->ws.length<=200000->(∀y∈ws,y.1.length<=100000/\(∀x∈y.1,x<128)/\Led Φ (hN ho) y.1 y.2.1)->∃fr b,Ψ [clD ho n<|ws.map tD]=.ok (fr,.bl b)
theorem Ec:∀{fs:List FrN},∀f∈fs,f.n.length<=(pre fs).length/\(f.c.length<=(pre fs).length/\∀x∈f.c,x∈pre fs)/\∀y∈f.dn,y.1.length<=(pre fs).length/\∀x∈y.1,x∈pre fs
 |[],f,h=>(nomatch h)
 |f::fs,g,hg=>by
  have pl:∀(l:List Wy),∀y∈l,y.1.length<=(pT l).length/\∀x∈y.1,x∈pT l:=λl=>by
   induction l with
   |nil=>exact λ_ z=>(nomatch z)
   |cons x r ih=>
    intro y hy;rcases ag.mp hy with rfl|w
    ·exact⟨by simp[pT,tT],λx hx=>by simp[pT,tT,hx]⟩
    ·have:=ih y w;exact⟨by simp[pT];omega,λx hx=>by simp[pT,this.2 x hx]⟩
  rcases ag.mp hg with rfl|w
  ·have hn:g.n.length<=(hT g.ho g.n).length:=by cases g.ho<;>simp[hT]<;>try omega
   refine⟨by simp[pre,qU];omega,⟨by simp[pre,qU];omega,λx hx=>by simp[pre,qU,hx]⟩,λy hy=>?_⟩
   have:=pl g.dn y hy
   exact⟨by simp[pre,qU];omega,λx hx=>by simp[pre,qU,this.2 x hx]⟩
  ·obtain⟨h1,⟨h2,h3⟩,h4⟩:=Ec g w;refine⟨by simp[pre];omega,⟨by simp[pre];omega,λx hx=>by simp[pre,h3 x hx]⟩,λy hy=>?_⟩
   have:=h4 y hy
   exact⟨by simp[pre];omega,λx hx=>by simp[pre,this.2 x hx]⟩
section
variable {P:bg}{w:cw}{K:av}{mg:Zs}{base:Heap}{f:Addr}{fd:dQ}{Φ Ψ:Zf}
theorem M5 (B:Bt mg)(Gm:MkT P w K mg base 1 "Reader" ["self", "text"] (yz K mg))(rc:∀C,mg "Reader" = some (.ref C)->RC K mg C)(Gb:Hd.Fn P w K mg base 6 "begun" ["reader", "waiting"] (sY K mg Φ))(Gg:Hd.Fn P w K mg base 7 "gone_on" ["reader", "waiting", "game"] (wX K mg Φ Ψ))(Fu:Fun K "read" "read" uH f fd):bR P w K mg base (CX1 P w) 8 f fd ["text"] (Ri K mg Φ Ψ):=by
 refine cO Fu iT (λvs H Q E h=>by obtain⟨_,g,rfl,_⟩:=h;rfl) λcdv A outer s H vs Q E hr h=>?_;obtain⟨O0,g,rfl,og,zl,mO,q⟩:=h;obtain⟨C,gi,fdi,hC,M,Gi,bi⟩:=Gm.ex;refine⟨_,aJ (gf (nu<|gK<|dI qY rfl B.isinstance aZ<|aB (aA (i:=0) rfl<|af rfl)<|aB (sX (v:=.ty "str") rfl B.str jM rfl) aP) kJ dH)
  (aJ (cu (i:=1) iT.nd rfl (af rfl)<|tu M Gi (hr.mono<|by decide) rfl hC bi .nil (E:=E) aK<|aB (aA (i:=0) rfl<|af rfl) aP)
  (aJ (cu (i:=2) iT.nd rfl (af rfl)<|xT aP)
  (aJ (cu (i:=3) iT.nd rfl (af rfl)<|nF Gb hr<|aB (aA (i:=1) rfl<|af rfl)<|aB (aA (i:=2) rfl<|af rfl) aP)
  (aJ (pU hG (pI<|QV (dI ji rfl B.len rfl<|aB (aA (i:=2) rfl<|af rfl) aP) lJ)
   (bA (gf (pI<|K7<|aA (i:=3) rfl<|af rfl)
    (bA<|cu (i:=3) iT.nd rfl (af rfl)<|nF Gb hr<|aB (aA (i:=1) rfl<|af rfl)<|aB (aA (i:=2) rfl<|af rfl) aP)
    (bA<|cu (i:=3) iT.nd rfl (af rfl)<|nF Gg hr<|aB (aA (i:=1) rfl<|af rfl)<|aB (aA (i:=2) rfl<|af rfl)<|aB (aA (i:=3) rfl<|af rfl) aP))))
  (aJ (gf (pI<|Kg (dj (aA (i:=1) rfl<|af rfl) rfl)<|dI gP rfl B.len rfl<|aB (aA (i:=0) rfl<|af rfl) aP) kJ dH)
  (bA<|dW<|aA (i:=3) rfl<|af rfl)))))),?_⟩
 generalize hz:tx (tG g)=z at *;refine⟨_,rfl,_,_,.type "str",_,true,rfl,rfl,.of<|.str z,rfl,_,rfl,?_⟩;show if(!true)=true then _ else _
 rw[if_neg<|by simp];refine⟨_,rfl,λr dx hr0 hd0 dr=>⟨r,C,dx,z,rfl,az,rc C hC,rfl,?_⟩⟩;generalize hH1:rdU (upd (upd H dx<|.own r) r<|.ins C dx []) r C dx z 0=H1;have h1r:H1 r=some (.ins C dx<|rdF z ((0:Nat):Int)):=by rw[← hH1];exact az
 have s01:aD H H1:=λb u e=>by
  rw[← hH1];have n1:b≠r:=λz=>by rw[z,hr0] at e;cases e
  have n2:b≠dx:=λz=>by rw[z,hd0] at e;cases e
  unfold rdU;rw[aC n1,aC n1,aC n2];exact e
 refine⟨fF _,λwa hw0=>?_⟩;have rw_:r≠wa:=λz=>by rw[← z,h1r] at hw0;cases hw0
 have w0:H wa=none:=by
  cases e:H wa with
  |none=>rfl
  |some u=>rw[s01 _ _ e] at hw0;cases hw0
 have R0:RS K mg O0 H r C dx wa z [] [] ([]:List Nat).length (upd H1 wa<|.lst []):=
  ⟨s01.trans<|bC hw0 _,mO,⟨(aC rw_).trans h1r,rc C hC,zl,fF _⟩,rw_,hr0,w0,az,trivial⟩
 have M0:MdA Φ Ψ z (dGt g) [] []:=⟨⟨a9 _,λ_ h=>by cases h⟩,g,og,by rw[← hz];simp[kT],rfl,trivial⟩;refine⟨_,rfl,_,rfl,zO (E:=E0) R0 M0 λv H2 A2=>?_⟩;refine⟨λm σ H'=>∃v n,m=z.length-n/\σ=[some<|.str z,some<|.ref r,some<|.ref wa,some v]/\Aft K mg Φ Ψ O0 H r C dx wa z (dGt g) n v H',⟨_,v,_,rfl,rfl,A2⟩,?_⟩;rintro m σ H3 ⟨v3,n,rfl,rfl,fs,ps,a,na,R,md⟩;have il:=R.rd.il;refine⟨_,rfl,wa,_,rfl,.inl<|.inl<|.inl R.hw,_,_,rfl,rfl,_,rfl,?_⟩;have le:((ps.map n9).reverse.map V.ref).length=ps.length:=by simp
 show if decide (((((ps.map n9).reverse.map V.ref).length:Nat):Int)>0)=true then _ else _
 rw[le]
 match fs,ps,R,md with
 |[],[],R,md=>
  rw[if_neg<|by simp];rcases md with⟨_,h,_⟩|⟨_,d,dv,_,ez,ep,_⟩
  ·exact absurd rfl h
  ·have ea:a.length=z.length:=by rw[ez,aW];simp[kT]
   refine⟨_,rfl,r,C,dx,_,.int a.length,rfl,R.rd.at_,R.rd.rc.cls,R.rd.rc.spot,rfl,_,rfl,_,rfl,cm zl (by decide),_,_,rfl,rfl,_,rfl,?_⟩;show if decide ((a.length:Int)<(z.length:Int))=true then _ else _
   rw[if_neg (by rw[decide_eq_true_eq];omega)];refine⟨_,rfl,q _ _ R.sm ?_⟩
   have:d=dGt g:=ep
   rw[← this];exact dv.bZ λb o=>.inl<|.inl o
 |f'::fs,p::ps,R,md=>
  rw[if_pos<|by simp];refine⟨λσ' H'=>∃v,σ'=[some<|.str z,some<|.ref r,some<|.ref wa,some v]/\Aft K mg Φ Ψ O0 H r C dx wa z (dGt g) a.length v H',λσ' H' ⟨v,e,A⟩=>⟨z.length-a.length,by omega,v,a.length,rfl,e,A⟩,?_⟩;rcases md with⟨rfl,_,m⟩|⟨nn,d,dv,m⟩
  ·refine⟨_,rfl,_,rfl,?_⟩;show if decide (V.non=V.non)=true then _ else _
   rw[if_pos<|by simp];exact⟨_,rfl,_,rfl,zO (E:=E0) R m λv H' A=>⟨v,rfl,A⟩⟩
  ·refine⟨_,rfl,_,rfl,?_⟩;show if decide (v3=V.non)=true then _ else _
   rw[if_neg (by rw[decide_eq_true_eq];exact nn)];exact⟨_,rfl,_,rfl,_,rfl,Oc (E:=E0) R dv m λv H' A=>⟨v,rfl,A⟩⟩
 |[],_::_,R,_=>exact R.fr.elim
 |_::_,[],R,_=>exact R.fr.elim
theorem J3 (Nt:NtT K mg)(ra:RZ Φ)(fa:Us Φ Ψ)(B:Bt mg)(Gm:MkT P w K mg base 1 "Reader" ["self", "text"] (yz K mg))(rc:∀C,mg "Reader" = some (.ref C)->RC K mg C)(Gb:Hd.Fn P w K mg base 6 "begun" ["reader", "waiting"] (ql K mg Φ))(Gg:Hd.Fn P w K mg base 7 "gone_on" ["reader", "waiting", "game"] (sW K mg Φ Ψ))(Fu:Fun K "read" "read" uH f fd):bR P w K mg base (CX1 P w) 8 f fd ["text"] (λvs H Q E=>Wf K mg Φ Ψ vs H Q E\/Q4 K mg vs H Q E):=by
 refine cO Fu iT (λvs H Q E h=>by rcases h with⟨_,L,rfl,_⟩|⟨_,_,v,rfl,_⟩<;>rfl) (λcdv A outer s H vs Q E hr h=>?_);obtain⟨C,gi,fdi,hC,M,Gi,bi⟩:=Gm.ex;refine⟨_,aJ (gf (nu<|gK<|dI qY rfl B.isinstance aZ<|aB (aA (i:=0) rfl<|af rfl)<|aB (sX (v:=.ty "str") rfl B.str jM rfl) aP) (bA<|zm Nt rfl hr.hd cj λ_ _ _ _ _ _ _ _ I mk q=>iJ I mk q) dH)
  (aJ (cu (i:=1) iT.nd rfl (af rfl)<|tu M Gi (hr.mono<|by decide) rfl hC bi .nil (E:=E) aK<|aB (aA (i:=0) rfl<|af rfl) aP)
  (aJ (cu (i:=2) iT.nd rfl (af rfl)<|xT aP)
  (aJ (cu (i:=3) iT.nd rfl (af rfl)<|mD Gb hr (E:=E) aK<|aB (aA (i:=1) rfl<|af rfl)<|aB (aA (i:=2) rfl<|af rfl) aP)
  (aJ (pU hG (pI<|QV (dI ji rfl B.len rfl<|aB (aA (i:=2) rfl<|af rfl) aP) lJ)
   (bA (gf (pI<|K7<|aA (i:=3) rfl<|af rfl)
    (bA<|cu (i:=3) iT.nd rfl (af rfl)<|mD Gb hr (E:=E) aK<|aB (aA (i:=1) rfl<|af rfl)<|aB (aA (i:=2) rfl<|af rfl) aP)
    (bA<|cu (i:=3) iT.nd rfl (af rfl)<|mD Gg hr (E:=E) aK<|aB (aA (i:=1) rfl<|af rfl)<|aB (aA (i:=2) rfl<|af rfl)<|aB (aA (i:=3) rfl<|af rfl) aP))))
  (aJ (gf (pI<|Kg (dj (aA (i:=1) rfl<|af rfl) rfl)<|dI gP rfl B.len rfl<|aB (aA (i:=0) rfl<|af rfl) aP) (bA<|zm Nt rfl hr.hd cj λ_ _ _ _ _ _ _ _ I mk q=>iJ I mk q) dH)
  (bA<|dW<|aA (i:=3) rfl<|af rfl)))))),?_⟩
 rcases h with h|⟨O,d,v,rfl,dv,k1,k2,rf⟩
 ·obtain⟨O0,L,rfl,zl,hc,no,mO,rf⟩:=h;have hΦ:∀p c b,L=p++c++b->ROk Φ c:=λp c b e=>ra c (by rw[e] at zl;simp at zl;omega) λx hx=>hc x (by rw[e];simp[hx]);have zl2:(tx L).length<=100000:=by rw[aW];exact zl
  refine⟨_,rfl,_,_,.type "str",_,true,rfl,rfl,.of<|.str _,rfl,_,rfl,?_⟩;show if(!true)=true then _ else _
  rw[if_neg<|by simp];refine⟨_,rfl,λr dx hr0 hd0 dr=>⟨r,C,dx,tx L,rfl,az,rc C hC,rfl,?_⟩⟩;generalize hH1:rdU (upd (upd H dx<|.own r) r<|.ins C dx []) r C dx (tx L) 0=H1;have h1r:H1 r=some (.ins C dx<|rdF (tx L) ((0:Nat):Int)):=by rw[← hH1];exact az
  have s01:aD H H1:=λb u e=>by
   rw[← hH1];have n1:b≠r:=λz=>by rw[z,hr0] at e;cases e
   have n2:b≠dx:=λz=>by rw[z,hd0] at e;cases e
   unfold rdU;rw[aC n1,aC n1,aC n2];exact e
  refine⟨fF _,λwa hw0=>?_⟩;have rw_:r≠wa:=λz=>by rw[← z,h1r] at hw0;cases hw0
  have w0:H wa=none:=by
   cases e:H wa with
   |none=>rfl
   |some u=>rw[s01 _ _ e] at hw0;cases hw0
  have R0:RS K mg O0 H r C dx wa (tx L) (([]:List FrN).map mkF) [] (pre []).length (upd H1 wa<|.lst []):=
   ⟨s01.trans<|bC hw0 _,mO,⟨(aC rw_).trans h1r,rc C hC,zl2,fF _⟩,rw_,hr0,w0,az,trivial⟩
  refine⟨_,rfl,_,rfl,yH (Ψ:=Ψ) (t:=L) hΦ rfl R0 (λ_ z=>(nomatch z)) rf λv H2 A2=>?_⟩;refine⟨λm σ H'=>∃v n,m=L.length-n/\σ=[some<|.str<|tx L,some<|.ref r,some<|.ref wa,some v]/\O4 K mg Φ Ψ O0 H r C dx wa L n v H',⟨_,v,_,rfl,rfl,A2⟩,?_⟩;rintro m σ H3 ⟨v3,n,rfl,rfl,fs,ps,a,t,na,eL,R,ok,md⟩;have il:=R.rd.il;have la:L.length=a.length+t.length:=by rw[eL];simp
  refine⟨_,rfl,wa,_,rfl,.inl<|.inl<|.inl R.hw,_,_,rfl,rfl,_,rfl,?_⟩;have le:((ps.map n9).reverse.map V.ref).length=ps.length:=by simp
  show if decide (((((ps.map n9).reverse.map V.ref).length:Nat):Int)>0)=true then _ else _
  rw[le]
  match fs,ps,R,md,ok with
  |[],[],R,md,_=>
   rw[if_neg<|by simp];rcases md with⟨_,h,_⟩|⟨_,g,og,dv,ea⟩
   ·exact absurd rfl h
   ·refine⟨_,rfl,r,C,dx,_,.int a.length,rfl,R.rd.at_,R.rd.rc.cls,R.rd.rc.spot,rfl,_,rfl,_,rfl,cm zl2 (by decide),_,_,rfl,rfl,_,rfl,?_⟩;show if decide ((a.length:Int)<((tx L).length:Int))=true then _ else _
    have ne:t≠[]:=λz=>no ⟨g,og,by rw[eL,ea,z];simp[pre]⟩;have lt:0<t.length:=List.length_pos_iff.mpr ne;rw[if_pos (by rw[decide_eq_true_eq,aW,la];omega)];exact⟨_,MJ R rf⟩
  |f'::fs,p::ps,R,md,ok=>
   rw[if_pos<|by simp];refine⟨λσ' H'=>∃v,σ'=[some<|.str<|tx L,some<|.ref r,some<|.ref wa,some v]/\O4 K mg Φ Ψ O0 H r C dx wa L a.length v H',λσ' H' ⟨v,e,A⟩=>⟨L.length-a.length,by omega,v,a.length,rfl,e,A⟩,?_⟩;rcases md with⟨rfl,_,ea⟩|⟨nn,g,og,dv,ea⟩
   ·refine⟨_,rfl,_,rfl,?_⟩;show if decide (V.non=V.non)=true then _ else _
    rw[if_pos<|by simp];subst ea;exact⟨_,rfl,_,rfl,yH hΦ eL R ok rf λv H' A=>⟨v,rfl,A⟩⟩
   ·refine⟨_,rfl,_,rfl,?_⟩;show if decide (v3=V.non)=true then _ else _
    rw[if_neg (by rw[decide_eq_true_eq];exact nn)];have al:(pre (f'::fs)).length<=a.length:=by rw[ea];simp
    obtain⟨b1,⟨b2,b2'⟩,b3⟩:=Ec f'<|a8 (l:=fs);have inL:∀x∈pre (f'::fs),x<128:=λx hx=>hc x (by rw[eL,ea];simp[hx]);have b4:=(sV (f'::fs)).2 f' a8;obtain⟨o1,o2,o3,o4,o5⟩:=ok f' a8;have hΨ:∃fr b,Ψ [clD f'.ho f'.n<|f'.dn.map tD++[tD (f'.c,f'.d,g)]]=.ok (fr,.bl b):=by
     have:=fa f'.ho f'.n (f'.dn++[(f'.c,f'.d,g)]) o1 (by omega) (by simp) (by simp;omega) λy hy=>by
      rcases bE.mp hy with w|w
      ·exact⟨by have:=(b3 y w).1;omega,λx hx=>inL x<|(b3 y w).2 x hx,(o5 y w).2.1⟩
      ·rw[cx.mp w];exact⟨by show f'.c.length<=_;omega,λx hx=>inL x<|b2' x hx,o4⟩
     rwa [nv] at this
    refine⟨_,rfl,_,rfl,_,rfl,?_⟩;dsimp only[yd,br,ef];refine PX (E:=E) (Φ:=Φ) hΦ hΨ ea eL R ok og dv rf λv H' A=>?_;exact⟨v,rfl,A⟩
  |[],_::_,R,_,_=>exact R.fr.elim
  |_::_,[],R,_,_=>exact R.fr.elim
 ·obtain⟨k3,k4⟩:=za (.inl dv) k1;have e:qK (cH d) "str" = false:=by
   unfold qK;simp[k2]
  have kt:=CQ (K:=K) _ k3 "str" (by decide);rw[e] at kt;refine⟨_,rfl,_,_,_,_,false,rfl,rfl,k4,kt,_,rfl,?_⟩;show if(!false)=true then _ else _
  rw[if_pos<|by simp];exact⟨λ_=>False,λC' H' xp k=>rf C' H' xp λb u e=>k b u e λz=>z⟩
theorem Qg (Nt:NtT K mg)(ra:RZ Φ)(fa:Us Φ Ψ)(B:Bt mg)(Gm:MkT P w K mg base 1 "Reader" ["self", "text"] (yz K mg))(rc:∀C,mg "Reader" = some (.ref C)->RC K mg C)(Gb:Hd.Fn P w K mg base 6 "begun" ["reader", "waiting"] (sY K mg Φ))(Gg:Hd.Fn P w K mg base 7 "gone_on" ["reader", "waiting", "game"] (wX K mg Φ Ψ))
  (Gb':Hd.Fn P w K mg base 6 "begun" ["reader", "waiting"] (ql K mg Φ)) (Gg':Hd.Fn P w K mg base 7 "gone_on" ["reader", "waiting", "game"] (sW K mg Φ Ψ)) (Fu:Fun K "read" "read" uH f fd):bR P w K mg base (CX1 P w) 8 f fd ["text"] (spF ⟨K,mg⟩<|zR Φ Ψ):=by
 have F1:=M5 B Gm rc Gb Gg Fu;have F2:=J3 Nt ra fa B Gm rc Gb' Gg' Fu;have F3:bR P w K mg base (CX1 P w) 8 f fd ["text"] (λvs H Q E=>Ri K mg Φ Ψ vs H Q E\/Wf K mg Φ Ψ vs H Q E\/Q4 K mg vs H Q E):=
  ⟨λvs H Q E h=>h.elim (F1.len vs H Q E)<|F2.len vs H Q E,λA outer s H args us vs Q E hr he hb hv h=>h.elim (F1.run A outer s H args us vs Q E hr he hb hv)<|F2.run A outer s H args us vs Q E hr he hb hv⟩
 refine F3.imp λvs H Q E h=>?_;obtain⟨O,ds,mO,dv,h⟩:=h
 match ds,dv,h with
 |[],_,h=>exact h.elim
 |[d],.cons dv .nil,h=>
  have odd:(∀z,d≠.str z)->zR Φ Ψ [d]=if cH d = "" then .stuck else .exc nT:=λn=>by
   cases d<;>first|rfl|exact absurd rfl (n _)
  by_cases hs:∃z,d=.str z
  ·obtain⟨z,rfl⟩:=hs;cases dv;have e0:zR Φ Ψ [.str z]=open Classical in if Qh z then(if h:∃g,Rdb Φ Ψ [.str z] g then .ok (false,dGt h.choose) else .exc nT) else .stuck:=rfl
   rw[e0] at h;by_cases tk:Qh z
   ·rw[if_pos tk] at h;obtain⟨L,rfl,l1,l2⟩:=tk;by_cases hg:∃g,Rdb Φ Ψ [.str<|tx L] g
    ·rw[dif_pos hg] at h;obtain⟨e1,e2⟩:=hg.choose_spec;simp only[cE,D.str.injEq,and_true] at e1;refine .inl ⟨O,hg.choose,congrArg (λz=>[V.str z]) e1,e2,by have z:=congrArg Str.length e1;rw[aW] at z;omega,mO,λv H' s d=>h v H' s d λz=>by cases z⟩
    ·rw[dif_neg hg] at h;exact .inr<|.inl ⟨O,L,rfl,l1,l2,λ⟨g,og,eg⟩=>hg ⟨g,by rw[eg],og⟩,mO,h⟩
   ·rw[if_neg tk] at h;exact h.elim
  ·have n:∀z,d≠.str z:=λz e=>hs ⟨z,e⟩;rw[odd n] at h;by_cases k:cH d = ""
   ·rw[if_pos k] at h;exact h.elim
   ·rw[if_neg k] at h;refine .inr<|.inr ⟨O,d,_,rfl,dv,k,λe=>?_,h⟩;cases d<;>simp[cH] at e;exact n _ rfl
 |_::_::_,_,h=>
  exact absurd h<|by simp[zR,Pu]
end
end K10
namespace F
open PySem PySem.NumText Hd
def sh (t b:Int):List Nat:=sg t++if b=1 then[] else 47::dg b.natAbs
def Gd (t b:Int):Prop:=t.natAbs<10^30/\b.natAbs<10^30/\1<=b/\gI t b=1
def Fm (l:List Nat):Prop:=∃t b,Gd t b/\l=sh t b
def dgB (c:Nat):Bool:=decide<|48<=c/\c<=57
theorem QK {l:List Nat}:l.all dgB=true↔AllDigits l:=by
 simp only[gL,dgB,decide_eq_true_eq];exact Iff.rfl
def canon (w:List Nat):Bool:=decide (1<=w.length)&&decide (w.length<=30)&&w.all dgB&&(decide (¬w.head? = some 48)||decide (w=[48]))
theorem Hw {w:List Nat}:canon w=true↔1<=w.length/\w.length<=30/\AllDigits w/\(¬w.head? = some 48\/w=[48]):=by
 unfold canon;rw[cy,cy,cy,r9,QK];simp only[decide_eq_true_eq,and_assoc]
theorem QW:∀(w:List Nat),AllDigits w->digitsVal w<10^w.length:=by
 intro w;induction hn:w.length generalizing w with
 |zero=>intro _;rw[p0.mp hn];decide
 |succ n ih=>
  intro h;have hne:w≠[]:=λz=>by rw[z] at hn;cases hn
  obtain⟨v,c,rfl⟩:∃v c,w=v++[c]:=⟨w.dropLast,w.getLast hne,(mn hne).symm⟩;have hc:=h c<|by simp
  have:=ih v (by simpa using hn) λd hd=>h d<|by simp[hd]
  rw[digitsVal_snoc,Nat.pow_succ];omega
theorem Eu {n:Nat}(h:(dg n).head? = some 48):n=0:=by
 induction n using nB with
 |_ n ih=>
  by_cases z:n<10
  ·rw[iK n z] at h
   have:48+n=48:=ck h
   omega
  ·rw[qx<|by omega] at h
   have:(dg<|n/10).head? = some 48:=by
    have:=Es<|n/10
    cases e:dg (n/10) with
    |nil=>exact absurd e this
    |cons a r=>rw[e] at h;exact h
   have:=ih (n/10) (by omega) this
   omega
theorem zK {n:Nat}(h:n<10^30):canon (dg n)=true:=by
 refine Hw.mpr ⟨xx n,qI 29 n h,lQ n,?_⟩;by_cases z:n=0
 ·right;subst z;exact iK 0<|by decide
 ·exact .inl λy=>z<|Eu y
theorem tY {i:Int}(h:0<=i):sg i=dg i.natAbs:=by unfold sg;rw[if_neg<|by omega];rfl
theorem Lf {i:Int}(h:i<0):sg i=45::dg i.natAbs:=by unfold sg;rw[if_pos h];rfl
theorem Jb {n:Nat}:47∉dg n:=λh=>by have:=lQ n 47 h;omega
theorem oA {i:Int}:47∉sg i:=λh=>by
 unfold sg at h;rcases bE.mp h with w|w
 ·split at w
  ·simp at w
  ·cases w
 ·exact Jb w
theorem u9 {n:Nat}:¬(dg n).head? = some 45:=λh=>by
 cases e:dg n with
 |nil=>rw[e] at h;cases h
 |cons a r=>rw[e] at h;cases h;have:=lQ n 45 (by rw[e];simp);omega
theorem zp {c:Nat}:∀{a a' b b':List Nat},c∉a->c∉a'->a++c::b=a'++c::b'->a=a'/\b=b'
 |[],[],_,_,_,_,e=>⟨rfl,by simpa using e⟩
 |[],x::_,_,_,_,h,e=>by
  have:c=x:=by simpa using congrArg List.head? e
  exact absurd (by rw[this];simp) h
 |x::_,[],_,_,h,_,e=>by
  have:x=c:=by simpa using congrArg List.head? e
  exact absurd (by rw[this];simp) h
 |x::a,y::a',b,b',h,h',e=>by
  have e2:x=y/\a++c::b=a'++c::b':=by simpa using e
  obtain⟨r1,r2⟩:=zp (a:=a) (a':=a') (λz=>h<|ax _ z) (λz=>h'<|ax _ z) e2.2;exact⟨by rw[e2.1,r1],r2⟩
theorem Ba {c:Nat}:∀{l:List Nat},c∈l->∃a b,l=a++c::b/\c∉a
 |x::l,h=>by
  by_cases z:x=c
  ·subst z;exact⟨[],l,rfl,by simp⟩
  ·obtain⟨a,b,e,n⟩:=Ba (l:=l) (by rcases ag.mp h with y|y;exact absurd y.symm z;exact y);exact⟨x::a,b,by rw[e];rfl,by simp[n];exact λy=>z y.symm⟩
theorem V8 {l:List Nat}(h:47∉l)(f:Fm l):∃t:Int,t.natAbs<10^30/\l=sg t:=by
 obtain⟨t,b,g,rfl⟩:=f;unfold sh at h ⊢;by_cases z:b=1
 ·rw[if_pos z];exact⟨t,g.1,by simp⟩
 ·rw[if_neg z] at h;exact absurd (by simp) h
theorem Uc {a b:List Nat}(h:47∉a)(f:Fm (a++47::b)):∃(t:Int) (n:Nat),t.natAbs<10^30/\n<10^30/\2<=n/\gI t n=1/\a=sg t/\b=dg n:=by
 obtain⟨t,c,⟨g1,g2,g3,g4⟩,e⟩:=f;unfold sh at e;by_cases z:c=1
 ·rw[if_pos z,eC] at e;exact absurd (by rw[← e];simp)<|oA (i:=t)
 ·rw[if_neg z] at e;obtain⟨r1,r2⟩:=zp h oA e;refine⟨t,c.natAbs,g1,g2,by omega,?_,r1,r2⟩;rw[show((c.natAbs:Nat):Int)=c by omega];exact g4
theorem S9 {t:Int}(h1:t.natAbs<10^30):Gd t 1/\sh t 1=sg t:=by
 refine⟨⟨h1,by decide,by decide,by unfold gI;simp⟩,?_⟩;unfold sh
 simp
theorem M4 {l:List Nat}(f:Fm l):∀c∈l,c=45\/c=47\/(48<=c/\c<=57):=by
 obtain⟨t,b,g,rfl⟩:=f;have h0:∀c∈sg t,c=45\/c=47\/(48<=c/\c<=57):=by
  intro c hc;unfold sg at hc;rcases bE.mp hc with w|w
  ·split at w
   ·left;simpa using w
   ·cases w
  ·exact .inr<|.inr<|lQ _ c w
 intro c hc;unfold sh at hc;rcases bE.mp hc with w|w
 ·exact h0 c w
 ·split at w
  ·cases w
  ·rcases ag.mp w with y|y
   ·exact .inr<|.inl y
   ·exact .inr<|.inr<|lQ _ c y
def iY (a:List Nat):List Nat:=if a.head? = some 45 then a.tail else a
theorem Gy (t:Int):iY (sg t)=dg t.natAbs:=by
 unfold iY;by_cases h:t<0
 ·rw[Lf h];rfl
 ·rw[tY (by omega),if_neg u9]
theorem TX (t:Int):¬sg t=[45,48]:=λh=>by
 by_cases z:t<0
 ·rw[Lf z] at h
  have:dg t.natAbs=[48]:=by simpa using h
  have:=Eu (n:=t.natAbs) (by rw[this];rfl)
  omega
 ·rw[tY<|by omega] at h;exact u9 (n:=t.natAbs) (by rw[h];rfl)
theorem JX {a:List Nat}(h:AllDigits (iY a))(h1:iY a≠[])(h2:(iY a).length<=30):∃t:Int,sC (tx a)=some t/\t.natAbs=digitsVal (iY a)/\(tx a).length<=31:=by
 unfold iY at h h1 h2 ⊢;by_cases z:a.head? = some 45
 ·rw[if_pos z] at h h1 h2 ⊢;cases a with
  |nil=>cases z
  |cons x r=>
   have hx:x=45:=ck z;subst hx;have hl:(tx (45::r)).length<=31:=by rw[aW];simp at h2 ⊢;exact h2
   exact⟨_,intText_neg (x:=tx (45::r)) (cs:=r) rfl h h1 (by omega),by simp,hl⟩
 ·rw[if_neg z] at h h1 h2 ⊢;have hl:(tx a).length<=31:=by rw[aW];omega
  exact⟨_,sT (x:=tx a) (by rw[cg];exact h) (by rw[cg];exact h1) (by omega),by rw[cg];simp,hl⟩
end F
namespace K10
open PySem PySem.NumText L2 Hd F Pk
open L2 (atI ixN Key)
theorem dR:ae "/" = ⟨#[47]⟩:=by decide +kernel
theorem Ft:ae "-" = ⟨#[45]⟩:=by decide +kernel
theorem BR:ae "" = tx []:=by decide +kernel
theorem Pb:js=tx []:=by decide +kernel
theorem Um:ae "0123456789" = tx [48,49,50,51,52,53,54,55,56,57]:=by decide +kernel
theorem JD:ae "1" = tx [49]:=by decide +kernel
theorem Fv {l:List Nat}{c:Nat}(h:c∉l):cK (tx l) ⟨#[c]⟩=(tx l,tx [],tx []):=by
 unfold cK;rw[Bh h];rfl
theorem El {a b:List Nat}{c:Nat}(h:c∉a):cK (tx (a++c::b)) ⟨#[c]⟩=(tx a,⟨#[c]⟩,tx b):=by
 unfold cK;obtain⟨r,e⟩:=RL (b:=b) h;rw[e];have e1:oe (tx (a++c::b)) 0 a.length=tx a:=wu (by rw[si,cg];simp);have e2:oe (tx (a++c::b)) (a.length+1) (tx (a++c::b)).length=tx b:=wu (by
  rw[si,cg,aW]
  have:(a++c::b).drop (a.length+1)=b:=by rw[← List.drop_drop,oz];rfl
  rw[this];exact lP (by simp;omega))
 show(_,_,oe (tx (a++c::b)) (a.length+1) _)=_;rw[e1,e2]
theorem uo {l:List Nat}{c:Nat}:gu (tx l) ⟨#[c]⟩=decide (l.head? = some c):=by
 unfold gu;rw[qr,cg,aW];cases l with
 |nil=>rfl
 |cons a r=>
  show(decide (0+1<=(a::r).length)&&([a]==[c]))=decide (some a=some c);by_cases h:a=c
  ·subst h;simp
  ·simp[h]
theorem wB {a:Nat}{l:List Nat}:h7 (tx (a::l)) (some 1) none=tx l:=by
 have:=qB (x:=tx (a::l)) (i:=1) ⟨by decide,by rw[cg];simp;omega⟩
 refine(show h7 (tx (a::l)) (some 1) none=_ from this).trans ?_;refine wu ?_;rw[cg];show(l.take _)=l;exact lP<|by simp
theorem pL {i:Int}(h:i.natAbs<10^30):sr [.int i]=some (.str<|tx<|sg i):=by
 have:i.natAbs.log2<1920:=by
  by_cases z:i.natAbs=0
  ·rw[z];decide
  ·have e:(10:Nat)^30<=2^100:=by decide
   exact(Nat.log2_lt z).mpr (aS (aS h e)<|iP (by decide)<|by decide)
 show(if i.natAbs.log2<1920 then some (D.str<|ae<|toString i) else none)=_;rw[if_pos this,RT]
theorem qN {i:Int}(h:i.natAbs<10^30):(sg i).length<=31:=by
 have:=(Jw h).2
 rwa [aW] at this
theorem yf {t b:Int}(ht:t.natAbs<10^30)(hb:b.natAbs<10^30)(h1:1<=b):fJ [qD (t,b)]=.ok (false,.str<|tx<|sh t b):=by
 have e1:=pL ht;have e2:=pL hb;by_cases z:b=1
 ·have e:sh t b=sg t:=by unfold sh;rw[if_pos z];simp
  rw[e];simp[fJ,bY,jf,jo,bj,bM,aU,aa,aG,aF,aj,fC,gIx,qD,ix0,ix1,e1,gIf,bK,z,bH,Me.let,Sl.let,bW]
 ·have e:tx (sg t)++(⟨#[47]⟩:Str)++tx (sg b)=tx (sh t b):=by
   rw[show(⟨#[47]⟩:Str)=tx [47] from rfl,lF,lF];unfold sh;rw[if_neg z,tY (i:=b)<|by omega]
   simp
  have l1:=qN ht;have l2:=qN hb;have f1:Hc (.str<|tx<|sg t)=some (.str<|tx<|sg t):=if_pos (by rw[aW,szl];omega);have f2:Hc (.str<|tx<|sg b)=some (.str<|tx<|sg b):=if_pos (by rw[aW,szl];omega);have l4:(tx<|sg t).length<=16777216:=by rw[aW];omega
  have l5:(tx (sg t)++ae "/").length<=16777216:=by rw[dR,show(⟨#[47]⟩:Str)=tx [47] from rfl,lF,aW];simp;omega
  have e3:js++tx (sg t)=tx (sg t):=by rw[Pb,lF];rfl
  have e4:tx (sg t)++(ae "/")++tx (sg b)=tx (sh t b):=by rw[dR];exact e
  have l3:(tx<|sh t b).length<=16777216:=by rw[← e4,dR,show(⟨#[47]⟩:Str)=tx [47] from rfl,lF,lF,aW];simp;omega
  simp[fJ,bY,jf,jo,bj,bM,aU,aa,aG,aF,aj,fC,gIx,qD,ix0,ix1,e1,e2,gIf,bK,z,gNx,bH,Me.let,Sl.let,jn,lg,yt,fUn,f1,f2,e3,e4,l3,l4,l5]
def inB (ks:List Nat)(c:Nat):Bool:=decide<|c∈ks
theorem U9 {ks:List Nat}{S:Str}(hS:S=tx ks)(c:Nat):gIn (.str ⟨#[c]⟩) (.str S)=some (inB ks c):=by
 subst hS;show some (!(dP _ _ 0 _ 1).isEmpty)=_;unfold inB;by_cases h:c∈ks
 ·rw[Eh h,decide_eq_true h];rfl
 ·rw[Bh h,decide_eq_false h];rfl
theorem wg (p:Nat->Bool):∀l:List Nat,oX (l.map λc=>D.bl<|p c)=some (l.map p)
 |[]=>rfl
 |c::l=>by simp[oX,wg p l]
abbrev fks:List Nat:=[48,49,50,51,52,53,54,55,56,57]
abbrev nks:List Nat:=(qf 97 26)++qf 48 10
def okB (ks:List Nat)(n:Nat)(l:List Nat):Bool:=decide (1<=l.length)&&decide (l.length<=n)&&l.all (inB ks)
theorem HW {ks l:List Nat}:vJ [.lst<|l.map λc=>D.bl<|inB ks c]=some (.bl<|l.all<|inB ks):=by
 show(oX _).map _=_;rw[wg]
 simp
theorem Jf {Q:Zl}{l:List Nat}(hl:l.length<=200000)(hq:Q [.fz<|.str<|tx l]=.ok (.lst<|l.map λc=>D.bl<|inB fks c)):bY 1 1 (dY Q) [.str<|tx l]=.ok (false,.bl<|okB fks 30 l):=by
 have hz2:(tx l).length<=16777216:=by rw[aW];omega
 have e3:=HW (ks:=fks) (l:=l);unfold okB;generalize l.all (inB fks)=A at *;by_cases g1:1<=l.length
 ·have g1':(1:Int)<=((tx l).length:Int):=by rw[aW];omega
  by_cases g2:l.length<=30
  ·have g2':((tx l).length:Int)<=30:=by rw[aW];omega
   simp[bY,dY,bH,Me.let,Sl.let,jT,fTv,iR,fC,aU,aa,aG,aj,cT,hz2,gLe,g1',g2',hq,e3,g1,g2]
  ·have g2':¬((tx l).length:Int)<=30:=by rw[aW];omega
   simp[bY,dY,bH,Me.let,Sl.let,jT,fTv,iR,fC,aU,aa,aG,aj,cT,hz2,gLe,g1',g2',hq,e3,g1,g2]
 ·have g1':¬(1:Int)<=((tx l).length:Int):=by rw[aW];omega
  simp[bY,dY,bH,Me.let,Sl.let,jT,fTv,iR,fC,aU,aa,aG,aj,cT,hz2,gLe,g1',hq,e3,g1]
theorem mJ {l:List Nat}(hl:l.length<=200000):dZ [.str<|tx l]=.ok (false,.bl<|okB fks 30 l):=by
 refine Jf hl ?_;have e:jd (hName 0) pq iU [.un] (l.map λc=>D.str ⟨#[c]⟩)=.ok (l.map λc=>D.bl<|inB fks c):=jt l λc hc=>by
  refine⟨_,rfl,rfl,?_⟩;have hi:=U9 Um c;simp[iU,gQ,aj,fC,hi]
 have hs:signs (tx l)=l.map λc=>D.str ⟨#[c]⟩:=rfl;have hz:l.length<=16777216:=by omega
 have hz2:(tx l).length<=16777216:=by rw[aW];omega
 simp[mG,gW,KY,bW,cMe,hz2,hz,hs,e]
theorem ym {l:List Nat}(h:AllDigits l)(h1:1<=l.length)(h2:l.length<=30):dZ [.str<|tx l]=.ok (false,.bl true):=by
 rw[mJ<|by omega]
 have:l.all (inB fks)=true:=gL.mpr λc hc=>by
  have:=h c hc
  unfold inB;simp only[ag,cp,or_false,decide_eq_true_eq];omega
 simp[okB,h1,h2,this]
theorem Vd:ae "abcdefghijklmnopqrstuvwxyz0123456789" = tx nks:=by decide +kernel
theorem uh {l:List Nat}(hl:l.length<=200000):iC [.str<|tx l]=.ok (false,.bl<|okB nks 8 l):=by
 have hz2:(tx l).length<=16777216:=by rw[aW];omega
 have hz:l.length<=16777216:=by omega
 have e3:=HW (ks:=nks) (l:=l);have e:jd (hName 0) pq mY [.un] (l.map λc=>D.str ⟨#[c]⟩)=.ok (l.map λc=>D.bl<|inB nks c):=jt l λc hc=>by
  refine⟨_,rfl,rfl,?_⟩;have hi:=U9 Vd c;generalize inB nks c=ic at *;simp[mY,gQ,aj,fC,hi]
 have hs:signs (tx l)=l.map λc=>D.str ⟨#[c]⟩:=rfl;have q:mZ [.fz<|.str<|tx l]=.ok (.lst<|l.map λc=>D.bl<|inB nks c):=by
  generalize inB nks=ib at *;simp[mZ,gW,KY,bW,cMe,hz2,hz,hs,e]
 have it:gn "str" (aj 0) [.fz<|.str<|tx l]=.ok (.bl true):=rfl;unfold okB;have c:∀(Q:Zl) (ib:Nat->Bool),Q [.fz<|.str<|tx l]=.ok (.lst<|l.map λc=>D.bl<|ib c)->vJ [.lst<|l.map λc=>D.bl<|ib c]=some (.bl<|l.all ib)->bY 1 1 (ju Q) [.str<|tx l]=.ok (false,.bl<|decide (1<=l.length)&&decide (l.length<=8)&&l.all ib):=by
  intro Q ib hq e3;generalize l.all ib=A at *;by_cases g1:1<=l.length
  ·have g1':(1:Int)<=((tx l).length:Int):=by rw[aW];omega
   by_cases g2:l.length<=8
   ·have g2':((tx l).length:Int)<=8:=by rw[aW];omega
    simp[bY,ju,bj,gIf,cz,it,gNx,bH,Me.let,Sl.let,jT,fTv,iR,fC,aU,aa,aG,aj,cT,hz2,gLe,g1',g2',hq,e3,g1,g2]
   ·have g2':¬((tx l).length:Int)<=8:=by rw[aW];omega
    simp[bY,ju,bj,gIf,cz,it,gNx,bH,Me.let,Sl.let,jT,fTv,iR,fC,aU,aa,aG,aj,cT,hz2,gLe,g1',g2',hq,e3,g1,g2]
  ·have g1':¬(1:Int)<=((tx l).length:Int):=by rw[aW];omega
   simp[bY,ju,bj,gIf,cz,it,gNx,bH,Me.let,Sl.let,jT,fTv,iR,fC,aU,aa,aG,aj,cT,hz2,gLe,g1',hq,e3,g1]
 exact c _ _ q e3
structure Nam (l:List Nat):Prop where
 lo:1<=l.length
 hi:l.length<=8
 sg:∀c∈l,97<=c/\c<=122\/48<=c/\c<=57
theorem Nam.no {l:List Nat}(h:Nam l){c:Nat}(hc:c=32\/c=59):c∉l:=λz=>by
 have:=h.sg c z
 omega
theorem zQ {φl φs φa:Zf}{z p1 p2 p3 bt bare:Str}{ti bi:Int}{r:D}
  (hp:ir (.str z) [.str<|ae "/"]=some (.tup [.str p1,.str p2,.str p3])) (hl:p1.length<=16777216)
  (hb:(if p2=ae "/" then p3 else ae "1")=bt) (hs:(if gu p1 (ae "-")=true then h7 p1 (some 1) none else p1)=bare)
  (f1:φa [.str bare]=.ok (false,.bl true)) (f2:φa [.str bt]=.ok (false,.bl true)) (i1:jQ [.str p1]=some (.int ti)) (i2:jQ [.str bt]=some (.int bi)) (nz:bi≠0)
  (l:φl [.int ti,.int bi]=.ok (false,r)) (s:φs [r]=.ok (false,.str z)):bY 6 1 (b8 φl φs φa) [.str z]=.ok (false,r):=by
 have x0:∀a b c:D,atI [a,b,c] 0=some a:=λ_ _ _=>rfl;have x1:∀a b c:D,atI [a,b,c] 1=some b:=λ_ _ _=>rfl;have x2:∀a b c:D,atI [a,b,c] 2=some c:=λ_ _ _=>rfl;subst hb;subst hs;by_cases c1:p2=ae "/"
 ·rw[if_pos c1] at f2 i2;by_cases c2:gu p1 (ae "-")=true
  ·rw[if_pos c2] at f1;simp[bY,b8,bj,gIf,cz,fTv,gn,aj,cH,qK,gNx,bM,fU,tyD,aa,aG,fC,hp,aF,gIx,x0,x1,x2,fIf,bK,c1,gR,c2,fSl,fO1,fO0,gSl,hl,dN,fFn,bW,f1,f2,aU,i1,i2,nz,l,s,bH,Me.let,Sl.let]
  ·rw[if_neg c2] at f1;simp[bY,b8,bj,gIf,cz,fTv,gn,aj,cH,qK,gNx,bM,fU,tyD,aa,aG,fC,hp,aF,gIx,x0,x1,x2,fIf,bK,c1,gR,c2,fSl,fO1,fO0,gSl,hl,dN,fFn,bW,f1,f2,aU,i1,i2,nz,l,s,bH,Me.let,Sl.let]
 ·rw[if_neg c1] at f2 i2;by_cases c2:gu p1 (ae "-")=true
  ·rw[if_pos c2] at f1;simp[bY,b8,bj,gIf,cz,fTv,gn,aj,cH,qK,gNx,bM,fU,tyD,aa,aG,fC,hp,aF,gIx,x0,x1,x2,fIf,bK,c1,gR,c2,fSl,fO1,fO0,gSl,hl,dN,fFn,bW,f1,f2,aU,i1,i2,nz,l,s,bH,Me.let,Sl.let]
  ·rw[if_neg c2] at f1;simp[bY,b8,bj,gIf,cz,fTv,gn,aj,cH,qK,gNx,bM,fU,tyD,aa,aG,fC,hp,aF,gIx,x0,x1,x2,fIf,bK,c1,gR,c2,fSl,fO1,fO0,gSl,hl,dN,fFn,bW,f1,f2,aU,i1,i2,nz,l,s,bH,Me.let,Sl.let]
theorem xM {i:Int}(h:i.natAbs<10^30):jQ [.str<|tx<|sg i]=some (.int i):=by
 obtain⟨h1,h2⟩:=Jw h;show(if(tx<|sg i).length<=640 then(sC<|tx<|sg i).map D.int else none)=_;rw[if_pos (by omega),h1];rfl
theorem xJ {t b:Int}(ht:t.natAbs<10^30)(hb:b.natAbs<10^30)(h1:1<=b)(hg:gI t b=1):bu [.str<|tx<|sh t b]=.ok (false,qD (t,b)):=by
 have lt1:=qN ht;have lb1:=qN hb;have low:jB [.int t,.int b]=.ok (false,qD (t,b)):=by
  obtain⟨z1,z2⟩:=Oe h1 hg;have hB:Bq b:=K5 (k:=100)<|aS hb (by decide);rw[rE (by omega) hB,z1,z2];rfl
 have zl:(tx<|sh t b).length<=16777216:=by
  rw[aW];unfold sh;rw[aw]
  have:=qI 29 b.natAbs hb
  split<;>simp<;>omega
 have bare:∃bs,(if gu (tx<|sg t) (ae "-")=true then h7 (tx<|sg t) (some 1) none else tx (sg t))=tx bs/\dZ [.str<|tx bs]=.ok (false,.bl true):=by
  refine⟨dg t.natAbs,?_,ym (lQ _) (xx _)<|qI 29 _ ht⟩;rw[Ft,uo];by_cases n:t<0
  ·have e:sg t=45::dg t.natAbs:=by unfold sg;rw[if_pos n];rfl
   rw[e,if_pos (by simp),wB]
  ·have e:sg t=dg t.natAbs:=tY (by omega);rw[e,if_neg<|by simpa using u9]
 obtain⟨bs,hbare,hfig⟩:=bare;have pl:(tx<|sg t).length<=16777216:=by rw[aW];omega
 by_cases z:b=1
 ·have e:sh t b=sg t:=by unfold sh;rw[if_pos z];simp
  refine zQ (p1:=tx<|sg t) (p2:=tx []) (p3:=tx []) (bt:=ae "1") (bare:=tx bs) (ti:=t) (bi:=b) ?_ pl ?_ hbare hfig ?_ (xM ht) ?_ (by omega) low<|yf ht hb h1
  ·show(if _ then some (D.tup [.str (cK (tx<|sh t b)<|ae "/").1,.str (cK (tx<|sh t b)<|ae "/").2.1,.str (cK (tx<|sh t b)<|ae "/").2.2]) else none)=_;rw[if_pos ⟨by rw[szl];exact zl,by rw[dR];rfl⟩,dR,e,Fv oA]
  ·rw[if_neg (by rw[dR,show(⟨#[47]⟩:Str)=tx [47] from rfl,pH];decide)]
  ·rw[JD];exact ym (by intro c hc;rw[cx.mp hc];decide) (by decide) (by decide)
  ·rw[z,JD];exact xM (i:=1)<|by decide
 ·have e:sh t b=sg t++47::dg b.natAbs:=by unfold sh;rw[if_neg z]
  have eb:sg b=dg b.natAbs:=tY (by omega);refine zQ (p1:=tx<|sg t) (p2:=⟨#[47]⟩) (p3:=tx<|sg b) (bt:=tx<|sg b) (bare:=tx bs) (ti:=t) (bi:=b) ?_ pl ?_ hbare hfig ?_ (xM ht) (xM hb) (by omega) low<|yf ht hb h1
  ·show(if _ then some (D.tup [.str (cK (tx<|sh t b)<|ae "/").1,.str (cK (tx<|sh t b)<|ae "/").2.1,.str (cK (tx<|sh t b)<|ae "/").2.2]) else none)=_;rw[if_pos ⟨by rw[szl];exact zl,by rw[dR];rfl⟩,dR,e,El oA,eb]
  ·rw[if_pos dR.symm]
  ·rw[eb];exact ym (lQ _) (xx _)<|qI 29 _ hb
theorem Aa {φl φs φa:Zf}{z p1 p2 p3 bt bare w:Str}{A B:Bool}{ti bi:Int}{r:D}
  (hp:ir (.str z) [.str<|ae "/"]=some (.tup [.str p1,.str p2,.str p3])) (hl:p1.length<=16777216)
  (hb:(if p2=ae "/" then p3 else ae "1")=bt) (hs:(if gu p1 (ae "-")=true then h7 p1 (some 1) none else p1)=bare)
  (m0:(pE z).length<=16777216) (m1:(js++pE z).length<=16777216) (m2:(js++pE z++ae " is no fraction").length<=16777216) (m3:(js++pE z++ae " is not how its fraction is shown").length<=16777216)
  (f1:φa [.str bare]=.ok (false,.bl A)) (f2:φa [.str bt]=.ok (false,.bl B)) (i2:A=true->B=true->jQ [.str bt]=some (.int bi)) (i1:A=true->B=true->bi≠0->jQ [.str p1]=some (.int ti)/\φl [.int ti,.int bi]=.ok (false,r)/\φs [r]=.ok (false,.str w)/\w≠z):
  bY 6 1 (b8 φl φs φa) [.str z]=.exc nT:=by
 have x0:∀a b c:D,atI [a,b,c] 0=some a:=λ_ _ _=>rfl;have x1:∀a b c:D,atI [a,b,c] 1=some b:=λ_ _ _=>rfl;have x2:∀a b c:D,atI [a,b,c] 2=some c:=λ_ _ _=>rfl;have pre:∀{bt' bare':Str},bt'=bt->bare'=bare->φa [.str bare']=.ok (false,.bl A)/\φa [.str bt']=.ok (false,.bl B)/\(A=true->B=true->jQ [.str bt']=some (.int bi)):=λe1 e2=>by subst e1 e2;exact⟨f1,f2,i2⟩
 subst hb;subst hs;clear f1 f2 i2;obtain⟨f1,f2,i2⟩:=pre rfl rfl;clear pre;by_cases c1:p2=ae "/"<;>by_cases c2:gu p1 (ae "-")=true
 all_goals
  simp only[c1,c2,if_true,if_false,kU] at f1 f2 i2;cases A
  ·simp[bY,b8,bj,gIf,cz,fTv,gn,aj,cH,qK,gNx,bM,fU,tyD,aa,aG,fC,hp,aF,gIx,x0,x1,x2,fIf,bK,c1,gR,c2,fSl,fO1,fO0,gSl,hl,dN,fFn,bW,f1,lO,fM,jn,lg,yt,fUn,rA,m0,m1,m2]
  ·cases B
   ·simp[bY,b8,bj,gIf,cz,fTv,gn,aj,cH,qK,gNx,bM,fU,tyD,aa,aG,fC,hp,aF,gIx,x0,x1,x2,fIf,bK,c1,gR,c2,fSl,fO1,fO0,gSl,hl,dN,fFn,bW,f1,f2,lO,fM,jn,lg,yt,fUn,rA,m0,m1,m2]
   ·have i2':=i2 rfl rfl;by_cases nz:bi=0
    ·simp[bY,b8,bj,gIf,cz,fTv,gn,aj,cH,qK,gNx,bM,fU,tyD,aa,aG,fC,hp,aF,gIx,x0,x1,x2,fIf,bK,c1,gR,c2,fSl,fO1,fO0,gSl,hl,dN,fFn,bW,f1,f2,aU,i2',nz,lO,fM,jn,lg,yt,fUn,rA,m0,m1,m2]
    ·obtain⟨i1',l,s,ne⟩:=i1 rfl rfl nz;simp[bY,b8,bj,gIf,cz,fTv,gn,aj,cH,qK,gNx,bM,fU,tyD,aa,aG,fC,hp,aF,gIx,x0,x1,x2,fIf,bK,c1,gR,c2,fSl,fO1,fO0,gSl,hl,dN,fFn,bW,f1,f2,aU,i1',i2',nz,l,s,ne,lO,fM,jn,lg,yt,fUn,rA,m0,m1,m3]
theorem O5 {l:List Nat}(hl:l.length<=100000)(hc:∀c∈l,c<128)(hf:¬Fm l):bu [.str<|tx l]=.exc nT:=by
 have m0:(pE<|tx l).length<=1000002:=by
  have:=StrLaws.reprText_len (tx l) λc h=>by have:=hc c h;exact aS this<|by decide
  rw[aW] at this;omega
 have app_len:∀a b:Str,(a++b).length=a.length+b.length:=λa b=>by show(a.cps++b.cps).size=_;rw[Array.size_append];rfl
 have e0:js.length=0:=rfl;have e1:(ae " is no fraction").length=15:=by decide +kernel
 have e2:(ae " is not how its fraction is shown").length=33:=by decide +kernel
 obtain⟨a,p2,p3,b,hp,hb,hla,hlb,hlab,hcut⟩:∃(a:List Nat) (p2 p3:Str) (b:List Nat),ir (.str<|tx l) [.str<|ae "/"]=some (.tup [.str<|tx a,.str p2,.str p3])/\(if p2=ae "/" then p3 else ae "1")=tx b/\a.length<=100000/\b.length<=100000/\47∉a/\((b=[49]/\l=a)\/l=a++47::b):=by
  by_cases h:47∈l
  ·obtain⟨a,b,rfl,n⟩:=Ba h;rw[aw,bX] at hl;refine⟨a,⟨#[47]⟩,tx b,b,?_,by rw[if_pos dR.symm],by omega,by omega,n,.inr rfl⟩;show(if _ then some (D.tup [.str (cK (tx (a++47::b))<|ae "/").1,.str (cK (tx (a++47::b))<|ae "/").2.1,.str (cK (tx (a++47::b))<|ae "/").2.2]) else none)=_;rw[if_pos ⟨by rw[szl,aW];simp;omega,by rw[dR];rfl⟩,dR,El n]
  ·refine⟨l,tx [],tx [],[49],?_,by rw[if_neg (by rw[dR,show(⟨#[47]⟩:Str)=tx [47] from rfl,pH];decide),JD],hl,by decide,h,.inl ⟨rfl,rfl⟩⟩;show(if _ then some (D.tup [.str (cK (tx l)<|ae "/").1,.str (cK (tx l)<|ae "/").2.1,.str (cK (tx l)<|ae "/").2.2]) else none)=_;rw[if_pos ⟨by rw[szl,aW];omega,by rw[dR];rfl⟩,dR,Fv h]
 have hs:(if gu (tx a) (ae "-")=true then h7 (tx a) (some 1) none else tx a)=tx (iY a):=by
  rw[Ft,uo];unfold iY;cases a with
  |nil=>rw[if_neg (by simp),if_neg<|by simp]
  |cons x r=>
   by_cases z:x=45
   ·subst z;rw[if_pos (by simp),wB,if_pos<|show(45::r).head? = some 45 from rfl];rfl
   ·rw[if_neg (by simpa using z),if_neg<|show ¬(x::r).head? = some 45 from λw=>z<|ck w]
 have hbl:(iY a).length<=100000:=by
  unfold iY;split
  ·rw[List.length_tail];omega
  ·exact hla
 have fig:∀{w:List Nat},okB fks 30 w=true->AllDigits w/\w≠[]/\w.length<=30:=λ{w} h=>by
  unfold okB at h;rw[cy,cy,decide_eq_true_eq,decide_eq_true_eq] at h;refine⟨λc hc=>?_,λz=>by rw[z] at h;simp at h,h.1.2⟩
  have:=gL.mp h.2 c hc
  unfold inB at this;simp only[ag,cp,or_false,decide_eq_true_eq] at this;omega
 have tb:okB fks 30 b=true->sC (tx b)=some ((digitsVal b:Nat):Int)/\digitsVal b<10^30:=λh=>by
  obtain⟨g1,g2,g3⟩:=fig h;exact⟨sT (x:=tx b) g1 g2 (by rw[aW];omega),aS (F.QW b g1)<|iP (by decide) g3⟩
 by_cases both:okB fks 30 (iY a)=true/\okB fks 30 b=true/\digitsVal b≠0
 ·obtain⟨g1,g2,g3⟩:=fig both.1;obtain⟨t,ht,ht2,ht3⟩:=JX g1 g2 g3;obtain⟨hb1,hb2⟩:=tb both.2.1;have hb0:((digitsVal b:Nat):Int)≠0:=by have:=both.2.2;omega
  have tl:t.natAbs<10^30:=by rw[ht2];exact aS (F.QW _ g1)<|iP (by decide) g3
  have hB:Bq ((digitsVal b:Nat):Int):=K5 (k:=100)<|aS (by simpa using hb2) (by decide);have hg:Gd (lt t (digitsVal b:Nat)) (lb t (digitsVal b:Nat)):=⟨Nat.lt_of_le_of_lt (Wl hb0) tl,Nat.lt_of_le_of_lt (Wa hb0) (by simpa using hb2),HX hb0,DX hb0⟩;exact Aa (w:=tx<|sh (lt t (digitsVal b:Nat))<|lb t (digitsVal b:Nat)) (A:=okB fks 30<|iY a) (B:=okB fks 30 b) (ti:=t) (bi:=(digitsVal b:Nat)) (r:=qD (lt t (digitsVal b:Nat),lb t (digitsVal b:Nat))) hp (by rw[aW];omega) hb hs (by omega) (by rw[app_len];omega) (by rw[app_len,app_len];omega) (by rw[app_len,app_len];omega)
   (mJ<|by omega) (mJ<|by omega) (λ_ h2=>by
    have:=(fig h2).2.2
    show(if(tx b).length<=640 then(sC<|tx b).map D.int else none)=_;rw[if_pos (by rw[aW];omega),hb1];rfl) (λ_ _ _=>⟨by
    show(if(tx a).length<=640 then(sC<|tx a).map D.int else none)=_;rw[if_pos (by omega),ht];rfl,rE hb0 hB,yf hg.1 hg.2.1 hg.2.2.1,λz=>hf ⟨_,_,hg,(pH.mp z).symm⟩⟩)
 ·refine Aa (w:=tx []) (A:=okB fks 30<|iY a) (B:=okB fks 30 b) (ti:=0) (bi:=(digitsVal b:Nat)) (r:=.non) hp (by rw[aW];omega) hb hs (by omega) (by rw[app_len];omega) (by rw[app_len,app_len];omega) (by rw[app_len,app_len];omega)
   (mJ<|by omega) (mJ<|by omega) (λ_ h=>by
    have:=(fig h).2.2
    show(if(tx b).length<=640 then(sC<|tx b).map D.int else none)=_;rw[if_pos (by rw[aW];omega),(tb h).1];rfl) (λh1 h2 h3=>absurd ⟨h1,h2,by omega⟩ both)
theorem ur {c:List Nat}(hl:c.length<=100000)(hc:∀x∈c,x<128):(∃t b,Gd t b/\c=sh t b/\bu [.str<|tx c]=.ok (false,qD (t,b)))\/(¬Fm c/\bu [.str<|tx c]=.exc nT):=by
 by_cases h:Fm c
 ·obtain⟨t,b,g,e⟩:=h;exact .inl ⟨t,b,g,e,by rw[e];exact xJ g.1 g.2.1 g.2.2.1 g.2.2.2⟩
 ·exact .inr ⟨h,O5 hl hc h⟩
theorem JC:RZ bu:=λc hl hc=>by
 rcases ur hl hc with⟨t,b,_,_,e⟩|⟨_,e⟩
 ·exact .inl ⟨_,_,e⟩
 ·exact .inr e
open L2 (atI ixN Key)
theorem Bb {t b:Int}(r:Gd t b):eY [qD (t,b)]=.ok (false,.bl true):=by
 have x0:∀a b:D,atI [a,b] 0=some a:=λ_ _=>rfl;have x1:∀a b:D,atI [a,b] 1=some b:=λ_ _=>rfl;have w:∀i:Int,fY [.int i]=.ok (false,.bl true):=λ_=>rfl;have e:=fL t b;rw[r.2.2.2] at e;have g1:=r.2.2.1;have l2:cT [.tup [.int t,.int b]]=some (.int 2):=rfl;have it:gn "tuple" (aj 0) [.fz<|.tup [.int t,.int b]]=.ok (.bl true):=rfl;simp[qD,eY,bY,pD,o9,bj,gIf,dN,cz,fTv,it,bK,aU,aa,aG,aj,l2,fC,gNe,gNx,fFn,aF,gIx,x0,x1,w,bH,Me.let,Sl.let,jT,gQ,gGe,g1,e]
theorem tU {α:Type}(p:α->Bool):∀l:List α,oX (l.map λc=>D.bl<|p c)=some (l.map p)
 |[]=>rfl
 |c::l=>by simp[oX,tU p l]
theorem Bv {α:Type}(p:α->Bool)(l:List α):vJ [.lst<|l.map λc=>D.bl<|p c]=some (.bl<|l.all p):=by
 show(oX _).map _=_;rw[tU]
 simp
theorem yV {l:List Wy}{m:Nat}(h0:l≠[])(hl:l.length<=200000):cX [.tup<|l.map tD,.int (m:Int)]=.ok (false,.bl<|decide<|l.length<=m):=by
 have l1:1<=l.length:=by cases l with|nil=>exact absurd rfl h0|cons _ _=>simp
 have l1':(1:Int)<=(l.length:Int):=by omega
 have e:jd (hName 0) pq j8 [.un] (l.map tD)=.ok (l.map λ_=>.bl true):=jt l λx hx=>by
  have p:nO [tD x]=.ok (false,.bl true):=rfl;exact⟨_,rfl,rfl,by simp[j8,fFn,aa,aG,bW,p]⟩
 have hz:l.length<=16777216:=by omega
 have q:j7 [.fz<|.tup<|l.map tD,.fz<|.int m]=.ok (.lst<|l.map λ_=>.bl true):=by
  generalize hL:l.map tD=L at *
  have:L.length=l.length:=by rw[← hL];simp
  simp[j7,gW,Bf,bW,cMe,this,hz,e]
 have ga:=Bv (λ_=>true) l;have gt:(l.all λ_=>true)=true:=by simp
 rw[gt] at ga;have it:gn "tuple" (aj 0) [.fz<|.tup<|l.map tD,.fz<|.int m]=.ok (.bl true):=rfl;have gl:cT [.tup<|l.map tD]=some (.int l.length):=by simp[cT]
 generalize l.map tD=L at *;generalize l.map (λ_=>D.bl true)=B at *;by_cases h:l.length<=m
 ·have h':(l.length:Int)<=(m:Int):=by omega
  simp[cX,bY,jX,jU,bH,Me.let,Sl.let,jT,fTv,it,iR,fC,aU,aa,aG,aj,gl,gLe,l1',h,h',q,ga]
 ·have h':¬(l.length:Int)<=(m:Int):=by omega
  simp[cX,bY,jX,jU,bH,Me.let,Sl.let,jT,fTv,it,iR,fC,aU,aa,aG,aj,gl,gLe,l1',h,h',q,ga]
theorem Er {f:Zl}{l:List Wy}{φ:Wy->D}(h:∀x∈l,f [.fz x.2.1,.fz<|dGt x.2.2]=.ok (φ x)):jd (Px 2<|vg (hName 0)<|vg (hName 1) O7) pq f [.un,.un] (l.map tD)=.ok (l.map φ):=jt l λx hx=>⟨_,rfl,rfl,h x hx⟩
theorem x31:∀a b c:D,atI [a,b,c] 1=some b:=λ_ _ _=>rfl
theorem x32:∀a b c:D,atI [a,b,c] 2=some c:=λ_ _ _=>rfl
theorem x30:∀a b c:D,atI [a,b,c] 0=some a:=λ_ _ _=>rfl
theorem x40:∀a b c d:D,atI [a,b,c,d] 0=some a:=λ_ _ _ _=>rfl
theorem x41:∀a b c d:D,atI [a,b,c,d] 1=some b:=λ_ _ _ _=>rfl
theorem x42:∀a b c d:D,atI [a,b,c,d] 2=some c:=λ_ _ _ _=>rfl
theorem x43:∀a b c d:D,atI [a,b,c,d] 3=some d:=λ_ _ _ _=>rfl
theorem Ou {n:List Nat}{l:List Wy}(hn:n.length<=100000)(h0:l≠[])(hl:l.length<=200000)(hr:∀x∈l,eY [x.2.1]=.ok (false,.bl true)):kO [.tup [.str "deal",.str<|tx n,.tup<|l.map tD]]=.ok (false,.bl<|okB nks 8 n&&decide (l.length<=64)):=by
 have ep:=yV (m:=64) h0 hl;have en:=uh (l:=n) (by omega);have e:=Er (f:=nH) (l:=l) (φ:=λ_=>.bl true) λx hx=>by
  have e':=hr x hx;simp[nH,fFn,aa,aG,bW,e']
 have ga:=Bv (λ_=>true) l;have gt:(l.all λ_=>true)=true:=by simp
 rw[gt] at ga;have hz:l.length<=16777216:=by omega
 have lL:(l.map tD).length=l.length:=by simp
 generalize okB nks 8 n=ok at *;generalize decide (l.length<=64)=le at *;generalize l.map tD=L at *;generalize l.map (λ_=>D.bl true)=B at *;have q:mX [.fz<|.tup [.str "deal",.str<|tx n,.tup L]]=.ok (.lst B):=by
  simp[mX,gW,Bf,aF,aj,fC,gIx,x32,cMe,lL,hz,e]
 have ep':cX [.tup L,.int 64]=.ok (false,.bl le):=ep;cases ok<;>cases le<;>simp[kO,bY,qX,qW,bj,gIf,dN,bK,aU,aa,aG,aj,cT,fC,gNe,cz,fTv,fFn,aF,gIx,x31,x32,en,ep',gNx,bH,Me.let,Sl.let,q,ga]
theorem UT (i:Int):Ho (.int i) (.tup [.int 1,.int 2])=some (!(decide (i=1)||decide (i=2))):=by
 have e:∀k:Int,L2.eqV (.int k) (.int i)=decide (i=k):=λk=>by
  show(k==i)=_;by_cases h:k=i
  ·rw[h];simp
  ·have h':¬i=k:=λz=>h z.symm;rw[decide_eq_false h'];simpa using h
 simp[Ho,gIn,inD,flat,vOf,L2.inV,e]
def wds (l:List Wy):List Str:=(l.map (·.1)).map tx
def mvB (l:List Wy):Bool:=decide (l.length<=6)&&(l.all (λy=>okB nks 8 y.1)&&decide (cnt (wds l)=l.length))
theorem Dc:∀l:List Wy,txs (l.map λx=>D.str<|tx x.1)=some (wds l)
 |[]=>rfl
 |a::l=>by
  have ih:=Dc l;unfold wds at ih ⊢;simp only[eJ,txs,ih];rfl
theorem O6 {s:Int}{n:List Nat}{l:List Wy}(hs:s=1\/s=2)(hn:n.length<=100000)(h0:l≠[])(hl:l.length<=200000)(hw:∀x∈l,x.1.length<=100000/\x.2.1=.str (tx x.1)):gY [.tup [.str "move",.int s,.str<|tx n,.tup<|l.map tD]]=.ok (false,.bl<|okB nks 8 n&&mvB l):=by
 have ep:=yV (m:=6) h0 hl;have en:=uh (l:=n) (by omega);have ew:fY [.int s]=.ok (false,.bl true):=rfl;have e12':Ho (.int s) (.tup [.int 1,.int 2])=some false:=by
  rw[UT s];rcases hs with rfl|rfl<;>rfl
 have e:=Er (f:=bW 0) (l:=l) (φ:=λx=>.str<|tx x.1) λx hx=>by rw[(hw x hx).2];rfl
 have e3:jd (hName 0) pq nJ [.un] (l.map λx=>D.str<|tx x.1)=.ok (l.map λx=>.bl<|okB nks 8 x.1):=jt l λx hx=>by
  have p:=uh (l:=x.1) (by have:=(hw x hx).1;omega);exact⟨_,rfl,rfl,by generalize okB nks 8 x.1=z at *;simp[nJ,fFn,aa,aG,bW,p]⟩
 have gs:decide (l.length<=6)=true->qj [.lst<|l.map λx=>D.str<|tx x.1]=some (.int<|cnt<|wds l):=λhd=>by
  have hd:=of_decide_eq_true hd;have ez:=Dc l;have b:(wds l).length+1<ll:=by unfold ll wds;simp;omega
  unfold qj;simp only[ez];rw[if_pos b]
 have ga:=Bv (λx:Wy=>okB nks 8 x.1) l;have hz:l.length<=16777216:=by omega
 have lL:(l.map tD).length=l.length:=by simp
 have lW:(l.map λx=>D.str<|tx x.1).length=l.length:=by simp
 have gw:cT [.lst<|l.map λx=>D.str<|tx x.1]=some (.int l.length):=by simp[cT]
 unfold mvB;generalize(l.all λy=>okB nks 8 y.1)=al at *;generalize okB nks 8 n=ok at *;generalize l.map tD=L at *;generalize l.map (λx=>D.bl<|okB nks 8 x.1)=B at *;generalize(l.map λx=>D.str<|tx x.1)=W at *;have q:∀t,m9 (.fz (.tup [.str "move",.int s,.str<|tx n,.tup L])::t)=.ok (.lst W):=λt=>by
  simp[m9,gW,Bf,aF,aj,fC,gIx,x43,cMe,lL,hz,e]
 have q3:∀a,nG [a,.fz<|.lst W]=.ok (.lst B):=λa=>by
  simp[nG,gW,Cj,aj,cMe,lW,hz,e3]
 have ep':cX [.tup L,.int 6]=.ok (false,.bl<|decide<|l.length<=6):=ep;have ec:decide (cnt (wds l)=l.length)=decide (((cnt (wds l):Nat):Int)=((l.length:Nat):Int)):=by
  by_cases h:cnt (wds l)=l.length
  ·rw[decide_eq_true h,decide_eq_true<|by omega]
  ·rw[decide_eq_false h,decide_eq_false<|by omega]
 rw[ec];generalize decide (l.length<=6)=le at *;cases ok
 ·simp[gY,bY,lz,lB,bj,gIf,dN,bK,aU,aa,aG,aj,cT,fC,gNe,cz,fTv,fFn,aF,gIx,x41,x42,x43,en,ew,rW,e12',gNx,bH,Me.let,Sl.let]
 ·cases le
  ·simp[gY,bY,lz,lB,bj,gIf,dN,bK,aU,aa,aG,aj,cT,fC,gNe,cz,fTv,fFn,aF,gIx,x41,x42,x43,en,ep',ew,rW,e12',gNx,bH,Me.let,Sl.let]
  ·have gs:=gs rfl;have l4:cT [.tup [.str "move",.int s,.str<|tx n,.tup L]]=some (.int 4):=rfl;cases al<;>simp[gY,bY,lz,lB,bj,gIf,dN,bK,aU,aa,aG,aj,l4,gw,fC,gNe,cz,fTv,fFn,aF,gIx,x41,x42,x43,en,ep',ew,rW,e12',gNx,bM,q,q3,bH,Me.let,Sl.let,ga,jT,gs,gQ]
def fmB (ho:Option Int)(n:List Nat)(l:List Wy):Bool:=okB nks 8 n&&(match ho with|none=>decide (l.length<=64)|some _=>mvB l)
theorem Jy {c:List Nat}{d:D}(hl:c.length<=100000)(hc:∀x∈c,x<128)(h:Led bu (hN none) c d):∃t b,Gd t b/\c=sh t b/\d=qD (t,b):=by
 unfold Led at h;rw[if_pos<|show hN none=ae "deal" from rfl] at h;obtain⟨fr,e⟩:=h;rcases ur hl hc with⟨t,b,g,e1,e2⟩|⟨_,e2⟩
 ·rw[e2] at e;cases e;exact⟨t,b,g,e1,rfl⟩
 ·rw[e2] at e;cases e
theorem qM {ho:Option Int}{n:List Nat}{ws:List Wy}(hs:∀s,ho=some s->s=1\/s=2)(hn:n.length<=100000)(h0:ws≠[])(hl:ws.length<=200000)(hw:∀y∈ws,y.1.length<=100000/\(∀x∈y.1,x<128)/\Led bu (hN ho) y.1 y.2.1):bJ [clD ho n<|ws.map tD]=.ok (false,.bl<|fmB ho n ws):=by
 cases ho with
 |none=>
  have e:=Ou hn h0 hl λx hx=>by
   obtain⟨h1,h2,h3⟩:=hw x hx;obtain⟨t,b,g,_,ed⟩:=Jy h1 h2 h3;rw[ed];exact Bb g
  show bJ [.tup [.str "deal",.str<|tx n,.tup<|ws.map tD]]=.ok (false,.bl<|okB nks 8 n&&decide (ws.length<=64));generalize(okB nks 8 n&&decide (ws.length<=64))=R at *;generalize ws.map tD=L at *;have t1:gn "tuple" (aj 0) [.fz<|.tup [.str "deal",.str<|tx n,.tup L]]=.ok (.bl true):=rfl;have t2:gn "str" (aF gIx (aj 0)<|fC<|.int 0) [.fz<|.tup [.str "deal",.str<|tx n,.tup L]]=.ok (.bl true):=rfl;have n1:¬(ae "deal" = ae "end"):=by decide +kernel
  simp[bJ,bY,j6,jY,bj,gIf,dN,cz,fTv,t1,t2,bK,aU,aa,aG,aj,cT,fC,bH,Me.let,Sl.let,aF,gIx,x30,gNx,n1,fFn,bW,e]
 |some s=>
  have e:=O6 (hs s rfl) hn h0 hl λx hx=>by
   obtain⟨h1,h2,h3⟩:=hw x hx;unfold Led at h3;rw[if_neg (by show ¬ae "move" = ae "deal";decide +kernel)] at h3;exact⟨h1,h3⟩
  show bJ [.tup [.str "move",.int s,.str<|tx n,.tup<|ws.map tD]]=.ok (false,.bl<|okB nks 8 n&&mvB ws);generalize(okB nks 8 n&&mvB ws)=R at *;generalize ws.map tD=L at *;have t1:gn "tuple" (aj 0) [.fz<|.tup [.str "move",.int s,.str<|tx n,.tup L]]=.ok (.bl true):=rfl;have t2:gn "str" (aF gIx (aj 0)<|fC<|.int 0) [.fz<|.tup [.str "move",.int s,.str<|tx n,.tup L]]=.ok (.bl true):=rfl;have n1:¬(ae "move" = ae "end"):=by decide +kernel
  have n2:¬(ae "move" = ae "deal"):=by decide +kernel
  simp[bJ,bY,j6,jY,bj,gIf,dN,cz,fTv,t1,t2,bK,aU,aa,aG,aj,cT,fC,bH,Me.let,Sl.let,aF,gIx,x40,gNx,n1,n2,fFn,bW,jT,gQ,e]
theorem GF:Us bu bJ:=λ_ _ _ hs hn h0 hl hw=>⟨_,_,qM hs hn h0 hl hw⟩
open L2 (atI ixN Key)
def wl:Wt->List Wy
 | .one c d g=>[(c,d,g)]
 | .more c d g r=>(c,d,g)::wl r
theorem RB:∀ws:Wt,wl ws≠[]
 | .one _ _ _=>by simp[wl]
 | .more _ _ _ _=>by simp[wl]
theorem Cu:∀ws:Wt,dWt ws=(wl ws).map tD
 | .one _ _ _=>by simp[dWt,wl,tD]
 | .more _ _ _ r=>by simp[dWt,wl,tD,Cu r]
mutual
def PG:Gt->Prop
 | .fin c _=>Fm c
 | .nd ho n ws=>(∀s,ho=some s->s=1\/s=2)/\fmB ho n (wl ws)=true/\PW ho ws
def PW (ho:Option Int):Wt->Prop
 | .one c d g=>(∀x∈c,x∉stops)/\(ho=none->Fm c)/\(ho≠none->d=.str (tx c))/\PG g
 | .more c d g r=>(∀x∈c,x∉stops)/\(ho=none->Fm c)/\(ho≠none->d=.str (tx c))/\PG g/\PW ho r
end
theorem Q7 {s:Int}{c:List Nat}{d:D}(h:Led bu (hN<|some s) c d):d=.str (tx c):=by
 unfold Led at h;rw[if_neg (by show ¬ae "move" = ae "deal";decide +kernel)] at h;exact h
theorem Ls:∀{ws:Wt},∀y∈wl ws,y.1.length<=(tW ws).length/\∀x∈y.1,x∈tW ws
 | .one c d g,y,h=>by
  simp only[wl,cx] at h;subst h;exact⟨by simp[tW],λx hx=>by simp[tW,hx]⟩
 | .more c d g r,y,h=>by
  simp only[wl,ag] at h;rcases h with rfl|h
  ·exact⟨by simp[tW],λx hx=>by simp[tW,hx]⟩
  ·have:=Ls (ws:=r) y h
   exact⟨by simp[tW];omega,λx hx=>by simp[tW,this.2 x hx]⟩
theorem Rx:∀ws:Wt,(wl ws).length<=(tW ws).length
 | .one c d g=>by simp[wl,tW];omega
 | .more c d g r=>by have:=Rx r;simp[wl,tW];omega
theorem CK {ho:Option Int}:∀{ws:Wt},okW bu bJ ho ws->∀y∈wl ws,Led bu (hN ho) y.1 y.2.1
 | .one c d g,h,y,hy=>by
  simp only[okW] at h;simp only[wl,cx] at hy;subst hy;exact h.2.1
 | .more c d g r,h,y,hy=>by
  simp only[okW] at h;simp only[wl,ag] at hy;rcases hy with rfl|hy
  ·exact h.2.1
  ·exact CK h.2.2.2 y hy
mutual
theorem vR:∀{g:Gt},okG bu bJ g->(tG g).length<=100000->(∀x∈tG g,x<128)->PG g
 | .fin c d,h,hl,hc=>by
  simp only[okG] at h;obtain⟨_,fr,e⟩:=h;simp only[tG,aw] at hl;rcases ur (c:=c) (by omega) (λx hx=>hc x<|by simp[tG,hx]) with⟨t,b,g,e1,_⟩|⟨_,e2⟩
  ·exact⟨t,b,g,e1⟩
  ·rw[e2] at e;cases e
 | .nd ho n ws,h,hl,hc=>by
  simp only[okG] at h;obtain⟨hs,hn,ow,fr,e⟩:=h;have l1:(tW ws).length<=100000/\n.length<=100000:=by
   have hT_n:n.length<=(hT ho n).length:=by cases ho<;>simp[hT]<;>try omega
   simp[tG] at hl;omega
  have c1:∀x∈tW ws,x<128:=λx hx=>hc x (by simp[tG,hx]);have hf:=qM (ho:=ho) (n:=n) (ws:=wl ws) hs l1.2 (RB ws) (by have:=Rx ws;omega) λy hy=>by
   obtain⟨h1,h2⟩:=Ls y hy;exact⟨by omega,λx hx=>c1 x<|h2 x hx,CK ow y hy⟩
  rw[← Cu,e] at hf;simp only[PG];exact⟨hs,by simp only[Res.ok.injEq,Prod.mk.injEq,D.bl.injEq] at hf;exact hf.2.symm,Q0 ow l1.1 c1⟩
theorem Q0:∀{ho:Option Int} {ws:Wt},okW bu bJ ho ws->(tW ws).length<=100000->(∀x∈tW ws,x<128)->PW ho ws
 |ho,.one c d g,h,hl,hc=>by
  simp only[okW] at h;simp only[tW,aw,bX] at hl;simp only[PW];refine⟨h.1,λe=>?_,λe=>?_,vR h.2.2 (by omega) λx hx=>hc x<|by simp[tW,hx]⟩
  ·subst e;obtain⟨t,b,g,e1,_⟩:=Jy (by omega) (λx hx=>hc x<|by simp[tW,hx]) h.2.1;exact⟨t,b,g,e1⟩
  ·cases ho with
   |none=>exact absurd rfl e
   |some s=>exact Q7 h.2.1
 |ho,.more c d g r,h,hl,hc=>by
  simp only[okW] at h;simp only[tW,aw,bX] at hl;simp only[PW];refine⟨h.1,λe=>?_,λe=>?_,vR h.2.2.1 (by omega) λx hx=>hc x (by simp[tW,hx]),Q0 h.2.2.2 (by omega) λx hx=>hc x<|by simp[tW,hx]⟩
  ·subst e;obtain⟨t,b,g,e1,_⟩:=Jy (by omega) (λx hx=>hc x<|by simp[tW,hx]) h.2.1;exact⟨t,b,g,e1⟩
  ·cases ho with
   |none=>exact absurd rfl e
   |some s=>exact Q7 h.2.1
end
def Al (x:Nat):Prop:=97<=x/\x<=122\/45<=x/\x<=57/\x≠46\/x=32\/x=40\/x=41\/x=44
theorem Aj {l:List Nat}(h:okB nks 8 l=true):∀x∈l,97<=x/\x<=122\/48<=x/\x<=57:=λx hx=>by
 unfold okB at h;rw[cy] at h
 have:=gL.mp h.2 x hx
 unfold inB at this;rw[decide_eq_true_eq,bE,l7,l7] at this;omega
theorem zH {c:List Nat}(h:Fm c):∀x∈c,x=45\/x=47\/(48<=x/\x<=57):=M4 h
theorem Lb {ho:Option Int}{n:List Nat}{l:List Wy}(h:fmB ho n l=true):okB nks 8 n=true:=by
 unfold fmB at h;rw[cy] at h;exact h.1
theorem VD {s:Int}{n:List Nat}{l:List Wy}(h:fmB (some s) n l=true):∀y∈l,okB nks 8 y.1=true:=λy hy=>by
 unfold fmB at h;simp only[mvB,cy] at h;exact gL.mp h.2.2.1 y hy
theorem zr {ho:Option Int}{n:List Nat}(hn:∀x∈n,97<=x/\x<=122\/48<=x/\x<=57):∀x∈hT ho n,Al x/\x≠40/\x≠41:=λx hx=>by
 cases ho with
 |none=>
  simp only[hT,dlT,br,ef,ag] at hx;unfold Al;rcases hx with rfl|rfl|rfl|rfl|rfl|hx
  all_goals first|(have:=hn x hx;omega)|omega
 |some s=>
  have:x∈sdS s->x=49\/x=50:=λh=>by unfold sdS at h;split at h<;>simp at h<;>simp[h]
  simp only[hT,mvT,br,ef,ag,bE] at hx;unfold Al;rcases hx with rfl|rfl|rfl|rfl|rfl|hx|rfl|hx
  all_goals first|(have:=this hx;omega)|(have:=hn x hx;omega)|omega
theorem jZ {l:List Nat}{k:Nat}(h:∀x∈l,x≠k):l.count k=0:=List.count_eq_zero.mpr λz=>h k z rfl
mutual
theorem Hn:∀{g:Gt},PG g->(∀x∈tG g,Al x)/\(tG g).count 40=(tG g).count 41
 | .fin c d,h=>by
  have hc:=zH<|show Fm c from h;refine⟨λx hx=>?_,?_⟩
  ·simp only[tG,enT,br,ef,ag] at hx;unfold Al;rcases hx with rfl|rfl|rfl|rfl|hx
   all_goals first|(have:=hc x hx;omega)|omega
  ·have c1:=jZ (k:=40) λx hx=>by have:=hc x hx;omega
   have c2:=jZ (k:=41) λx hx=>by have:=hc x hx;omega
   simp[tG,enT,h8,c1,c2]
 | .nd ho n ws,h=>by
  simp only[PG] at h;obtain⟨hs,hf,hw⟩:=h;have hn:=zr (ho:=ho)<|Aj<|Lb hf;obtain⟨a1,a2⟩:=Wg hw λe y hy=>by
   cases ho with
   |none=>exact absurd rfl e
   |some s=>exact Aj (VD hf y hy)
  refine⟨λx hx=>?_,?_⟩
  ·simp only[tG,bE,ag,cp,or_false] at hx;rcases hx with hx|rfl|hx|rfl
   ·exact(hn x hx).1
   ·unfold Al;omega
   ·exact a1 x hx
   ·unfold Al;omega
  ·have c1:=jZ (k:=40) λx hx=>(hn x hx).2.1;have c2:=jZ (k:=41) λx hx=>(hn x hx).2.2;simp[tG,eM,h8,c1,c2,a2]
theorem Wg:∀{ho:Option Int} {ws:Wt},PW ho ws->(ho≠none->∀y∈wl ws,∀x∈y.1,97<=x/\x<=122\/48<=x/\x<=57)->(∀x∈tW ws,Al x)/\(tW ws).count 40=(tW ws).count 41
 |ho,.one c d g,h,hw=>by
  simp only[PW] at h;obtain⟨a1,a2⟩:=Hn h.2.2.2;have hc:∀x∈c,(97<=x/\x<=122)\/45<=x/\x<=57/\x≠46:=λx hx=>by
   by_cases e:ho=none
   ·have:=zH (h.2.1 e) x hx;omega
   ·have:=hw e (c,d,g) (by simp[wl]) x hx;omega
  have c1:=jZ (k:=40) λx hx=>by have:=hc x hx;omega
  have c2:=jZ (k:=41) λx hx=>by have:=hc x hx;omega
  refine⟨λx hx=>?_,by simp[tW,eM,h8,c1,c2,a2]⟩;simp only[tW,bE,ag] at hx;rcases hx with hx|rfl|hx
  ·unfold Al;have:=hc x hx;omega
  ·unfold Al;omega
  ·exact a1 x hx
 |ho,.more c d g r,h,hw=>by
  simp only[PW] at h;obtain⟨a1,a2⟩:=Hn h.2.2.2.1;obtain⟨b1,b2⟩:=Wg h.2.2.2.2 λe y hy=>hw e y (by simp[wl,hy]);have hc:∀x∈c,(97<=x/\x<=122)\/45<=x/\x<=57/\x≠46:=λx hx=>by
   by_cases e:ho=none
   ·have:=zH (h.2.1 e) x hx;omega
   ·have:=hw e (c,d,g) (by simp[wl]) x hx;omega
  have c1:=jZ (k:=40) λx hx=>by have:=hc x hx;omega
  have c2:=jZ (k:=41) λx hx=>by have:=hc x hx;omega
  refine⟨λx hx=>?_,by simp[tW,eM,h8,c1,c2,a2,b2]⟩;simp only[tW,bE,ag] at hx;rcases hx with hx|rfl|hx|rfl|rfl|hx
  ·unfold Al;have:=hc x hx;omega
  ·unfold Al;omega
  ·exact a1 x hx
  ·unfold Al;omega
  ·unfold Al;omega
  ·exact b1 x hx
end
open L2 (atI ixN Key)
def spn:List Nat->List Nat×List Nat
 |[]=>([],[])
 |x::l=>if x∈stops then([],x::l) else(x::(spn l).1,(spn l).2)
def SH (b:List Nat):Prop:=∀x,b.head? = some x->x∈stops
theorem o8:∀{c b:List Nat},(∀x∈c,x∉stops)->SH b->spn (c++b)=(c,b)
 |[],[],_,_=>rfl
 |[],y::b,_,h=>by show spn (y::b)=_;unfold spn;rw[if_pos<|h y rfl]
 |x::c,b,hc,h=>by
  have ih:=o8 (c:=c) (λy hy=>hc y<|ax _ hy) h;show spn (x::(c++b))=_;unfold spn;rw[if_neg<|hc x a8,ih]
def Rr (r:List Nat):Prop:=∀x,r.head? = some x->x=41\/x=44
theorem Rr.sh {r:List Nat}(h:Rr r):SH r:=λx e=>by rcases h x e with rfl|rfl<;>decide
theorem pfx:∀{k x p r:List Nat},(∀y∈k,y≠41/\y≠44)->Rr r->k++x=p++r->∃p',p=k++p'/\x=p'++r
 |[],x,p,r,_,_,e=>⟨p,rfl,e⟩
 |y::k,x,[],r,hk,hr,e=>by
  have e:y::(k++x)=r:=e
  have:=hr y (by rw[← e];rfl)
  have:=hk y a8
  omega
 |y::k,x,z::p,r,hk,hr,e=>by
  simp only[br,cE] at e;obtain⟨p',e1,e2⟩:=pfx (λw hw=>hk w<|ax _ hw) hr e.2;exact⟨p',by rw[e.1,e1];rfl,e2⟩
theorem VG {p r:List Nat}(h:SH (p++r)):SH p:=λx e=>h x<|by cases p with|nil=>cases e|cons y p=>exact e
def oM:List Nat->List Nat×Option (List Nat)
 |[]=>([],none)
 |x::l=>if x=47 then([],some l) else(x::(oM l).1,(oM l).2)
theorem zG:∀{l:List Nat},47∉l->oM l=(l,none)
 |[],_=>rfl
 |x::l,h=>by
  rw[ag,not_or] at h;unfold oM;rw[if_neg λz=>h.1 z.symm,zG h.2]
theorem zW:∀{a b:List Nat},47∉a->oM (a++47::b)=(a,some b)
 |[],b,_=>by show oM (47::b)=_;unfold oM;rw[if_pos rfl]
 |x::a,b,h=>by
  rw[ag,not_or] at h;show oM (x::(a++47::b))=_;unfold oM;rw[if_neg λz=>h.1 z.symm,zW h.2]
def tB (a:List Nat):Bool:=canon (iY a)&&decide (a≠[45,48])
def fB (c:List Nat):Bool:=match oM c with
 |(a,none)=>tB a
 |(a,some b)=>tB a&&canon b&&decide (2<=digitsVal b)&&decide (Nat.gcd (digitsVal<|iY a) (digitsVal b)=1)
theorem Rn {t:Int}(h:t.natAbs<10^30):tB (sg t)=true:=by
 unfold tB;rw[Gy,zK h,decide_eq_true<|TX t];rfl
theorem Ks {c:List Nat}(h:Fm c):fB c=true:=by
 by_cases m:47∈c
 ·obtain⟨a,b,rfl,n⟩:=Ba m;obtain⟨t,k,h1,h2,h3,h4,rfl,rfl⟩:=Uc n h;unfold fB;rw[zW n];simp only[];rw[Rn h1,zK h2,Gy,yh,yh]
  have:Nat.gcd t.natAbs k=1:=by
   unfold gI at h4;simp only[pS] at h4;have h5:((Nat.gcd t.natAbs k:Nat):Int)=1:=by simpa using h4
   omega
  simp[this,h3]
 ·obtain⟨t,h1,rfl⟩:=V8 m h;unfold fB;rw[zG m];exact Rn h1
def fmL (ho:Option Int)(n:List Nat)(cs:List (List Nat)):Bool:=okB nks 8 n&&(match ho with|none=>decide (cs.length<=64)|some _=>decide (cs.length<=6)&&(cs.all (okB nks 8)&&decide (cnt (cs.map tx)=cs.length)))
theorem My {ho:Option Int}{n:List Nat}{l:List Wy}:fmB ho n l=fmL ho n (l.map (·.1)):=by
 cases ho with
 |none=>simp[fmB,fmL]
 |some s=>simp[fmB,fmL,mvB,wds,List.all_map,Function.comp_def]
inductive Rz where
 |bad
 |opn
 |dn (b:List Nat)
def Wh (c:List Nat):Option Int:=if c=[49] then some 1 else if c=[50] then some 2 else none
mutual
def rdG:Nat->List Nat->Rz
 |0,_=>.opn
 |n+1,l=>
  if enT.isPrefixOf l then(if fB (spn<|l.drop 4).1 then .dn (spn<|l.drop 4).2 else .bad)
  else if dlT.isPrefixOf l then(match(spn<|l.drop 5).2 with
   |40::b=>rdW n none (spn<|l.drop 5).1 [] b
   |_=>.bad)
  else if mvT.isPrefixOf l then(match Wh (spn<|l.drop 5).1,(spn<|l.drop 5).2 with
   |some s,32::b=>(match(spn b).2 with
    |40::b2=>rdW n (some s) (spn b).1 [] b2
    |_=>.bad)
   |_,_=>.bad)
  else .bad
def rdW:Nat->Option Int->List Nat->List (List Nat)->List Nat->Rz
 |0,_,_,_,_=>.opn
 |n+1,ho,nm,cs,l=>match(spn l).2 with
  |32::b=>if ho.isSome||fB (spn l).1 then(match rdG n b with
    | .dn []=>.opn
    | .dn (41::b3)=>if fmL ho nm (cs++[(spn l).1]) then .dn b3 else .bad
    | .dn (44::32::b3)=>rdW n ho nm (cs++[(spn l).1]) b3
    | .dn _=>.bad
    |z=>z) else .bad
  |_=>.bad
end
theorem pre_of {k l:List Nat}:k.isPrefixOf (k++l)=true:=by rw[List.isPrefixOf_iff_prefix];exact List.prefix_append _ _
theorem wG {c:List Nat}(h:∀x∈c,x∉stops):∀y∈c,y≠41/\y≠44:=λy hy=>by
 have:=h y hy
 simp only[stops,ag,cp,or_false] at this;omega
theorem Ra {n:List Nat}(h:okB nks 8 n=true):∀x∈n,x∉stops:=λx hx z=>by
 have:=Aj h x hx
 simp only[stops,ag,cp,or_false] at z;omega
theorem QT {n:List Nat}(h:Fm n):∀x∈n,x∉stops:=λx hx z=>by
 have:=zH h x hx
 simp only[stops,ag,cp,or_false] at z;omega
mutual
theorem Ai:∀(n:Nat) (g:Gt) (b p r:List Nat),PG g->SH b->Rr r->tG g++b=p++r->rdG n p=.opn\/∃p',rdG n p=.dn p'/\b=p'++r
 |0,g,b,p,r,_,_,_,_=>.inl<|by simp[rdG]
 |n+1,.fin c d,b,p,r,h,hb,hr,e=>by
  have hf:Fm c:=h;have hc:=QT hf;simp only[tG,aE] at e;obtain⟨p1,rfl,e1⟩:=pfx (k:=enT) (by decide) hr e;obtain⟨p2,rfl,e2⟩:=pfx (wG hc) hr e1;have hp:SH p2:=VG (by rw[← e2];exact hb);refine .inr ⟨p2,?_,e2⟩;unfold rdG;rw[if_pos pre_of,show(enT++(c++p2)).drop 4=c++p2 from rfl,o8 hc hp,if_pos<|Ks hf]
 |n+1,.nd ho nm ws,b,p,r,h,hb,hr,e=>by
  simp only[PG] at h;obtain⟨hs,hf,hw⟩:=h;have hn:=Ra<|Lb hf;have hf':fmL ho nm ([]++(wl ws).map (·.1))=true:=by show fmL ho nm ((wl ws).map (·.1))=true;rw[← My];exact hf
  cases ho with
  |none=>
   simp only[tG,hT,aE,br] at e;obtain⟨p1,rfl,e1⟩:=pfx (k:=dlT) (by decide) hr<|show dlT++(nm++40::(tW ws++([41]++b)))=p++r from e;obtain⟨p2,rfl,e2⟩:=pfx (wG hn) hr e1;obtain⟨p3,rfl,e3⟩:=pfx (k:=[40]) (by decide) hr<|show[40]++(tW ws++([41]++b))=p2++r from e2;have sp:spn (nm++([40]++p3))=(nm,40::p3):=o8 hn (λx e=>by cases e;decide);have ih:=Ag n none nm ws [] b p3 r hs hw hf' hr e3;have d5:List.drop 5 (dlT++(nm++([40]++p3)))=nm++([40]++p3):=rfl;unfold rdG;rw[if_neg (by simp[enT,dlT,sj]),if_pos pre_of,d5,sp];exact ih
  |some s=>
   have hsd:=hs s rfl;have sc:∀x∈sdS s,x∉stops:=by rcases hsd with rfl|rfl<;>decide
   have so:Wh (sdS s)=some s:=by rcases hsd with rfl|rfl<;>rfl
   simp only[tG,hT,aE,br] at e;obtain⟨p1,rfl,e1⟩:=pfx (k:=mvT) (by decide) hr<|show mvT++(sdS s++32::(nm++40::(tW ws++([41]++b))))=p++r from e;obtain⟨p2,rfl,e2⟩:=pfx (wG sc) hr e1;obtain⟨p3,rfl,e3⟩:=pfx (k:=[32]) (by decide) hr<|show[32]++(nm++40::(tW ws++([41]++b)))=p2++r from e2;obtain⟨p4,rfl,e4⟩:=pfx (wG hn) hr e3;obtain⟨p5,rfl,e5⟩:=pfx (k:=[40]) (by decide) hr<|show[40]++(tW ws++([41]++b))=p4++r from e4;have sp:spn (nm++([40]++p5))=(nm,40::p5):=o8 hn (λx e=>by cases e;decide);have sp2:spn (sdS s++([32]++(nm++([40]++p5))))=(sdS s,32::(nm++([40]++p5))):=o8 sc (λx e=>by cases e;decide);have ih:=Ag n (some s) nm ws [] b p5 r hs hw hf' hr e5;have d5:List.drop 5 (mvT++(sdS s++([32]++(nm++([40]++p5)))))=sdS s++([32]++(nm++([40]++p5))):=rfl;unfold rdG;rw[if_neg (by simp[enT,mvT,sj]),if_neg (by simp[dlT,mvT,sj]),if_pos pre_of,d5,sp2];simp only[so];rw[sp];exact ih
theorem Ag:∀(n:Nat) (ho:Option Int) (nm:List Nat) (ws:Wt) (cs:List (List Nat)) (b p r:List Nat),(∀s,ho=some s->s=1\/s=2)->PW ho ws->fmL ho nm (cs++(wl ws).map (·.1))=true->Rr r->tW ws++([41]++b)=p++r->rdW n ho nm cs p=.opn\/∃p',rdW n ho nm cs p=.dn p'/\b=p'++r
 |0,ho,nm,ws,cs,b,p,r,_,_,_,_,_=>.inl<|by simp[rdW]
 |n+1,ho,nm,.one c d g,cs,b,p,r,hs,h,hf,hr,e=>by
  simp only[PW] at h;simp only[tW,aE,br] at e;obtain⟨p1,rfl,e1⟩:=pfx (wG h.1) hr e;obtain⟨p2,rfl,e2⟩:=pfx (k:=[32]) (by decide) hr<|show[32]++(tG g++([41]++b))=p1++r from e1;have sp:spn (c++([32]++p2))=(c,32::p2):=o8 h.1 (λx e=>by cases e;decide);have ok:(ho.isSome||fB c)=true:=by
   cases ho with
   |none=>rw[Ks<|h.2.1 rfl];rfl
   |some _=>rfl
  unfold rdW;rw[sp];simp only[ok,if_true];rcases Ai n g ([41]++b) p2 r h.2.2.2 (λx e=>by cases e;decide) hr e2 with z|⟨p3,z,e3⟩
  ·exact .inl<|by rw[z]
  ·rw[z];cases p3 with
   |nil=>exact .inl rfl
   |cons y p4=>
    simp only[br,ef,cE] at e3;obtain⟨rfl,e4⟩:=e3;have hf':fmL ho nm (cs++[c])=true:=hf;simp only[hf',if_true];exact .inr ⟨p4,rfl,e4⟩
 |n+1,ho,nm,.more c d g w,cs,b,p,r,hs,h,hf,hr,e=>by
  simp only[PW] at h;simp only[tW,aE,br] at e;obtain⟨p1,rfl,e1⟩:=pfx (wG h.1) hr e;obtain⟨p2,rfl,e2⟩:=pfx (k:=[32]) (by decide) hr<|show[32]++(tG g++(44::32::(tW w++([41]++b))))=p1++r from e1;have sp:spn (c++([32]++p2))=(c,32::p2):=o8 h.1 (λx e=>by cases e;decide);have ok:(ho.isSome||fB c)=true:=by
   cases ho with
   |none=>rw[Ks<|h.2.1 rfl];rfl
   |some _=>rfl
  unfold rdW;rw[sp];simp only[ok,if_true];rcases Ai n g (44::32::(tW w++([41]++b))) p2 r h.2.2.2.1 (λx e=>by cases e;decide) hr e2 with z|⟨p3,z,e3⟩
  ·exact .inl<|by rw[z]
  ·rw[z]
   match p3,e3 with
   |[],_=>exact .inl rfl
   |[y],e3=>
    simp only[br,ef,cE] at e3
    have:=hr 32 (by rw[← e3.2];rfl)
    omega
   |y::y2::p4,e3=>
    simp only[br,cE] at e3;obtain⟨rfl,rfl,e4⟩:=e3;exact Ag n ho nm w (cs++[c]) b p4 r hs h.2.2.2.2 (by rw[aE];exact hf) hr e4
end
def Ku:Rz->Bool
 | .bad=>true
 | .opn=>false
 | .dn []=>false
 | .dn (y::_)=>y != 41&&y != 44
def NP (T:List Nat):Prop:=∀g b r,PG g->Rr b->Rr r->tG g++b≠T++r
theorem U3 {n:Nat}{p:List Nat}(h:Ku (rdG n p)=true):NP p:=λg b r hg hb hr e=>by
 rcases Ai n g b p r hg hb.sh hr e with z|⟨p',z,e'⟩
 ·rw[z] at h;cases h
 ·rw[z] at h;cases p' with
  |nil=>cases h
  |cons y p'=>
   have:=hb y (by rw[e'];rfl)
   simp only[Ku,cy,bne_iff_ne] at h;omega
open L2 (atI ixN Key)
def PS:List Str:=([
 "end 2/4",
 "end",
 "end ",
 "end 01",
 "end 1/0",
 "end +1",
 "end --1",
 "end 1 ",
 "end  1",
 "End 1",
 "fin 1",
 "1",
 "move 3 s(a end 1)",
 "move 1 (a end 1)",
 "move 1 abcdefghi(a end 1)",
 "move 1 s()",
 "move 1 s(a end 1",
 "move 1 s(a end 1,b end 1)",
 "move 1 s(a end 1, a end 1)",
 "move 1 s(a end 1,  b end 1)",
 "move s(a end 1)",
 "deal d(1 end 1, )",
 "deal D(1 end 1)",
 "deal d(1/1 end 1)",
 "deal d(end 1)",
 "deal d(a end 1)",
 "deal d",
 "move 1 s(abcdefghi end 1)",
 "deal abcdefghi(1 end 1)",
 "move 1 s (a end 1)",
 "deal d_(1 end 1)",
 "deal d(1/65 end 1, 1/65 end 1, 1/65 end 1, 1/65 end 1, 1/65 end 1, 1/65 end 1, 1/65 end 1, 1/65 end 1, 1/65 end 1, 1/65 end 1, 1/65 end 1, 1/65 end 1, 1/65 end 1, 1/65 end 1, 1/65 end 1, 1/65 end 1, 1/65 end 1, 1/65 end 1, 1/65 end 1, 1/65 end 1, 1/65 end 1, 1/65 end 1, 1/65 end 1, 1/65 end 1, 1/65 end 1, 1/65 end 1, 1/65 end 1, 1/65 end 1, 1/65 end 1, 1/65 end 1, 1/65 end 1, 1/65 end 1, 1/65 end 1, 1/65 end 1, 1/65 end 1, 1/65 end 1, 1/65 end 1, 1/65 end 1, 1/65 end 1, 1/65 end 1, 1/65 end 1, 1/65 end 1, 1/65 end 1, 1/65 end 1, 1/65 end 1, 1/65 end 1, 1/65 end 1, 1/65 end 1, 1/65 end 1, 1/65 end 1, 1/65 end 1, 1/65 end 1, 1/65 end 1, 1/65 end 1, 1/65 end 1, 1/65 end 1, 1/65 end 1, 1/65 end 1, 1/65 end 1, 1/65 end 1, 1/65 end 1, 1/65 end 1, 1/65 end 1, 1/65 end 1, 1/65 end 1)",
 "deal d(2/4 end 1)",
 "deal d(01 end 1)",
 "move 1 s(a end 1, b end 1, a end 1)",
 "deal d(1111111111111111111111111111111 end 1)",
 "end 1111111111111111111111111111111",
 "move 2 s(a0 end 1, a1 end 1, a2 end 1, a3 end 1, a4 end 1, a5 end 1, a6 end 1)",
 "move 2 s(A end 1)",
 "deal d (1 end 1)"]:List String).map ae
def Bad (T:List Nat):Prop:=NP T\/T.count 40=T.count 41+1
def okS (s:Str):Bool:=(Ku (rdG 200 s.cps.toList)||decide (s.cps.toList.count 40=s.cps.toList.count 41+1))&&s.cps.toList.all (λc=>decide<|c<128)&&decide (1<=s.cps.toList.length)&&decide (s.cps.toList.length<=1000)
theorem VH:PS.all okS=true:=by decide +kernel
theorem Mf (x:Int):jD kY [.fz<|.int x,.un,.un]=(bH<|aF gIx (aF aY (aj 1)<|dq<|aa (aF aY (aF aY (fC<|.str "move 2 s(")<|aj 2)<|fC<|.str ")")<|aa (fC<|.str "move 2 s(A end 1)")<|aa (fC<|.str "deal d (1 end 1)") aG)<|aF dG (aj 0)<|fC<|.int 40) [.fz<|.int x,.fz<|.lst<|(PS.take 37).map D.str,.fz<|.str "a0 end 1, a1 end 1, a2 end 1, a3 end 1, a4 end 1, a5 end 1, a6 end 1"]:=by kernel_rfl
theorem Ko (x:Int):(aF aY (aj 1)<|dq<|aa (aF aY (aF aY (fC<|.str "move 2 s(")<|aj 2)<|fC<|.str ")")<|aa (fC<|.str "move 2 s(A end 1)")<|aa (fC<|.str "deal d (1 end 1)") aG) [.fz<|.int x,.fz<|.lst<|(PS.take 37).map D.str,.fz<|.str "a0 end 1, a1 end 1, a2 end 1, a3 end 1, a4 end 1, a5 end 1, a6 end 1"]=.ok (.lst<|PS.map D.str):=by kernel_rfl
theorem BZ {ds:List D}{i:Int}(h0:0<=i)(h1:i<(ds.length:Int)):∃d∈ds,atI ds i=some d:=by
 have lt:i.toNat<ds.length:=by omega
 refine⟨ds[i.toNat],List.getElem_mem lt,?_⟩;have e:=Ol<|eI lt
 rwa [Int.toNat_of_nonneg h0] at e
theorem Ud {N n:Nat}{g:Zg}{ds:List D}{m:Me}{fr:Bool}{d:D}(h1:ds.length=n)(h:g (ds.map Sl.fz++bP (N-n) Sl.un)=.ok (.rt fr d,m)):bY N n g ds=.ok (fr,d):=by
 unfold bY;rw[if_pos h1,h]
theorem Ek (x:Int):∃p:List Nat,cM [.int x]=.ok (false,.str<|tx p)/\Bad p/\1<=p.length/\p.length<=1000/\∀c∈p,c<128:=by
 have l:((PS.map D.str).length:Int)=40:=by decide
 obtain⟨d,hd,e⟩:=BZ (ds:=PS.map D.str) (i:=x%40) (gy _<|by decide) (by rw[l];exact fR _<|by decide);obtain⟨s,hs,rfl⟩:=kQ.mp hd;have hb:=gL.mp VH s hs;unfold okS at hb;simp only[cy,r9,decide_eq_true_eq] at hb;obtain⟨⟨⟨b1,b2⟩,b3⟩,b4⟩:=hb;refine⟨s.cps.toList,?_,b1.imp U3 id,b3,b4,λc hc=>of_decide_eq_true<|gL.mp b2 c hc⟩;have es:tx s.cps.toList=s:=by cases s;rfl
 rw[es];refine Ud (m:=[.fz<|.int x,.fz<|.lst<|(PS.take 37).map D.str,.fz<|.str "a0 end 1, a1 end 1, a2 end 1, a3 end 1, a4 end 1, a5 end 1, a6 end 1"]) rfl<|(Mf x).trans ?_;have ea:=Ko x;generalize(PS.take 37).map D.str=S at *;generalize PS.map D.str=S' at *;have el:aF dG (aj 0) (fC<|.int 40) [.fz<|.int x,.fz<|.lst S,.fz<|.str "a0 end 1, a1 end 1, a2 end 1, a3 end 1, a4 end 1, a5 end 1, a6 end 1"]=.ok (.int<|x%40):=by simp[aF,aj,fC,dG,mdI]
 have go:∀(A B:Zl) (m:Me),m.let=m->A m=.ok (.lst S')->B m=.ok (.int<|x%40)->bH (aF gIx A B) m=.ok (.rt false<|.str s,m):=λA B m hm h1 h2=>by
  unfold bH;rw[hm];simp[aF,h1,h2,gIx,e]
 exact go _ _ _ rfl ea el
open L2 (atI ixN Key)
theorem cU {a b:List Nat}(h:a.length+b.length<=16777216):aY (.str<|tx a) (.str<|tx b)=some (.str<|tx<|a++b):=by
 show(if(tx a).length+(tx b).length<=be then some (D.str<|tx a++tx b) else none)=_;rw[aW,aW,if_pos (by rw[szl];exact h),lF]
theorem Q9:ae ", " = tx [44,32]:=by decide +kernel
theorem s_end:ae "end " = tx enT:=by decide +kernel
theorem Sq:ae "deal " = tx dlT:=by decide +kernel
theorem RM:ae "move " = tx mvT:=by decide +kernel
theorem Qd:ae " " = tx [32]:=by decide +kernel
theorem s_o:ae "(" = tx [40]:=by decide +kernel
theorem s_c:ae ")" = tx [41]:=by decide +kernel
theorem Gz (s:List Nat):∀l:List (List Nat),oF l<=(jl s l).length
 |[]=>by simp[oF]
 |[a]=>by simp[oF,jl]
 |a::b::r=>by
  have:=Gz s (b::r)
  simp only[oF,eJ,vb,jl,aw] at this ⊢;omega
theorem QX (s:List Nat):∀l:List (List Nat),(jl s l).length<=oF l+l.length*s.length
 |[]=>by simp[jl]
 |[a]=>by simp[oF,jl]
 |a::b::r=>by
  have:=QX s (b::r)
  simp only[oF,eJ,vb,jl,aw,bX,xl,Nat.one_mul] at this ⊢;omega
theorem RQ {s:Int}(h:s=1\/s=2):sr [.int s]=some (.str<|tx<|sdS s):=by
 have e:sg s=sdS s:=by rcases h with rfl|rfl<;>decide +kernel
 rw[pL (by rcases h with rfl|rfl<;>decide),e]
def mkW:Wy->List Wy->Wt
 |x,[]=>.one x.1 x.2.1 x.2.2
 |x,y::r=>.more x.1 x.2.1 x.2.2<|mkW y r
theorem Rj:∀(r:List Wy) (x:Wy),wl (mkW x r)=x::r
 |[],x=>rfl
 |y::r,x=>by show _::wl (mkW y r)=_;rw[Rj r y]
theorem Q6:∀ws:Wt,tW ws=jl [44,32] ((wl ws).map tT)
 | .one _ _ _=>by simp[tW,wl,tT,jl]
 | .more c d g r=>by
  have ih:=Q6 r;cases e:wl r with
  |nil=>exact absurd e (RB r)
  |cons y t=>
   rw[e] at ih;simp only[eJ] at ih;simp only[tW,wl,eJ,e,jl,ih,tT]
   simp
theorem mj:∀{c c' b b':List Nat},(∀x∈c,x∉stops)->(∀x∈c',x∉stops)->SH b->SH b'->c++b=c'++b'->c=c'/\b=b'
 |[],[],_,_,_,_,_,_,e=>⟨rfl,e⟩
 |[],y::c',b,b',_,h',hb,_,e=>by
  refine absurd (hb y ?_)<|h' y a8
  have:b=(y::c')++b':=e
  rw[this];rfl
 |y::c,[],b,b',h,_,_,hb',e=>by
  refine absurd (hb' y ?_)<|h y a8
  have:b'=(y::c)++b:=e.symm
  rw[this];rfl
 |y::c,y'::c',b,b',h,h',hb,hb',e=>by
  simp only[br,cE] at e;obtain⟨e1,e2⟩:=mj (λx hx=>h x<|ax _ hx) (λx hx=>h' x<|ax _ hx) hb hb' e.2;exact⟨by rw[e.1,e1],e2⟩
theorem jP {x:Nat}{b:List Nat}(h:x∈stops):SH (x::b):=λy e=>by cases e;exact h
theorem vI:32∈stops:=by decide
theorem Qq:40∈stops:=by decide
theorem Ot:41∈stops:=by decide
theorem Qu:44∈stops:=by decide
theorem Sh {s s':Int}(h:s=1\/s=2)(h':s'=1\/s'=2){b b':List Nat}(e:sdS s++b=sdS s'++b'):s=s'/\b=b':=by
 rcases h with rfl|rfl<;>rcases h' with rfl|rfl<;>simp[sdS] at e<;>simp[e]
theorem Ab {ho ho':Option Int}{n n' b b':List Nat}(hs:∀s,ho=some s->s=1\/s=2)(hs':∀s,ho'=some s->s=1\/s=2)(hn:∀x∈n,x∉stops)(hn':∀x∈n',x∉stops)(e:hT ho n++40::b=hT ho' n'++40::b'):ho=ho'/\n=n'/\b=b':=by
 cases ho with
 |none=>
  cases ho' with
  |none=>
   simp only[hT,dlT,br,ef,cE,true_and] at e;obtain⟨e1,e2⟩:=mj hn hn' (jP Qq) (jP Qq) e;cases e2;exact⟨rfl,e1,rfl⟩
  |some s'=>simp[hT,dlT,mvT] at e
 |some s=>
  cases ho' with
  |none=>simp[hT,dlT,mvT] at e
  |some s'=>
   simp only[hT,mvT,br,ef,cE,true_and,aE] at e;obtain⟨es,ex⟩:=Sh (hs s rfl) (hs' s' rfl) e;subst es;simp only[cE,true_and] at ex;obtain⟨e1,e2⟩:=mj hn hn' (jP Qq) (jP Qq) ex;cases e2;exact⟨rfl,e1,rfl⟩
section
variable {Φ Ψ:Zf}
theorem Jg {ho:Option Int}:∀ws:Wt,(∀x∈wl ws,(∀y∈x.1,y∉stops)/\Led Φ (hN ho) x.1 x.2.1/\okG Φ Ψ x.2.2)->okW Φ Ψ ho ws
 | .one c d g,h=>by
  simp only[okW];exact h (c,d,g)<|by simp[wl]
 | .more c d g r,h=>by
  simp only[okW];obtain⟨h1,h2,h3⟩:=h (c,d,g) (by simp[wl]);exact⟨h1,h2,h3,Jg r λx hx=>h x<|by simp[wl,hx]⟩
end
def Sx (x:Int):Prop:=0<=x/\x<1000003
theorem Vv {α:Type}(xs:List α):(cut xs none<|some 12).length<=12/\(cut xs none<|some 12).length<=xs.length:=by
 unfold cut HT.sIx;simp only[List.drop_zero,Nat.sub_zero,ip];rw[if_neg<|by decide];omega
theorem JV {ns xs:List Int}{j c:Int}(h0:0<=j)(h1:j<=12)(ec:atI (ns.map D.int) j=some (.int c))(hz:xs.length<=12):
  dM [.fz<|.lst<|ns.map D.int,.ow<|.lst<|xs.map D.int,.fz<|.int j] =
  .ok (.nx,[.fz<|.lst<|ns.map D.int,.ow<|.lst<|(xs++[(c%1000000007+47*j*j+19*j+5)*39373%1000003]).map D.int,.fz<|.int j]):=by
 have e:47*j*j=47*(j*j):=Int.mul_assoc _ _ _;have h2:j*j<=12*12:=Int.mul_le_mul h1 h1 h0 (by decide);have h3:0<=j*j:=Int.mul_nonneg h0 h0;have hm:=gy c (show(1000000007:Int)≠0 by decide);have hm2:=fR c (show(0:Int)<1000000007 by decide);have b1:Bg 47:=fP (by decide) (by decide);have b2:Bg j:=fP (by omega) (by omega);have b3:Bg (47*j):=fP (by omega) (by omega);have b4:Bg 19:=fP (by decide) (by decide);have b5:Bg (c%1000000007+47*j*j+19*j+5):=fP (by omega) (by omega);have b6:Bg 39373:=fP (by decide) (by decide);have hz':xs.length<16777216:=by omega
 simp[dM,yu,o7,aF,aj,fC,gIx,ec,dG,mdI,uZ,aY,b1,b2,b3,b4,b5,b6,hz',putL]
theorem HR {G:Zg}{a:D}{ds':List D}{s2:Sl}(e1:G [.fz a,.ow<|.lst [],.un]=.ok (.nx,[.fz a,.ow<|.lst ds',s2])):bY 3 1 (bj (xH 1<|dq aG)<|bj G<|yO 1) [a]=.ok (true,.lst ds'):=by
 simp[bY,bj,xH,dq,aG,e1,yO]
theorem Cy (ns:List Int):∃xs:List Int,gD [.lst<|ns.map D.int]=.ok (true,.lst<|xs.map D.int)/\∀x∈xs,Sx x:=by
 obtain⟨c1,c2⟩:=Vv<|ns.map D.int;rw[fA] at c2;generalize hn:(cut (ns.map D.int) none<|some 12).length=n at c1 c2;have h1:(-4611686018427387904:Int)<=(n:Int):=by omega
 have h2:(n:Int)<4611686018427387904:=by omega
 have step:∀(j:Nat) (d:D) (m:Me),((ij n).map λ(i:Nat)=>D.int i)[j]? = some d->(∃(xs:List Int) (s2:Sl),m=[.fz<|.lst<|ns.map D.int,.ow<|.lst<|xs.map D.int,s2]/\xs.length=0+j/\∀x∈xs,Sx x)->
   ∃m1 m2,hName 2 d m=some m1/\dM m1=.ok (.nx,m2)/\
    ∃(xs:List Int) (s2:Sl),m2=[.fz<|.lst<|ns.map D.int,.ow<|.lst<|xs.map D.int,s2]/\xs.length=0+j+1/\∀x∈xs,Sx x:=by
  rintro j d m hj ⟨xs,s2,rfl,hl,hx⟩;obtain⟨hj',rfl⟩:=HY hj;obtain⟨c,_,ec⟩:=Ue (ns:=ns) (k:=(j:Int)) (by omega) (by omega);refine⟨_,_,rfl,JV (by omega) (by omega) ec (by omega),_,_,rfl,by rw[aw,ko,hl],λx hx'=>?_⟩;rcases bE.mp hx' with w|w
  ·exact hx x w
  ·rw[cx.mp w];exact⟨gy _ (by decide),fR _<|by decide⟩
 obtain⟨m',e,xs,s2,rfl,hl,hx⟩:=zV (λi m=>∃(xs:List Int) (s2:Sl),m=[.fz<|.lst<|ns.map D.int,.ow<|.lst<|xs.map D.int,s2]/\xs.length=i/\∀x∈xs,Sx x) _ 0 _ ⟨[],.un,rfl,rfl,λ_ z=>nomatch z⟩ step;refine⟨xs,?_,hx⟩;simp only[List.map_nil] at e;have e0:=Vk (f:=aa (aU cT<|aa (fSl (aj 0) fO0<|fO1<|fC<|.int 12) aG) aG) (m:=[.fz<|.lst<|ns.map D.int,.ow<|.lst [],.un]) (j:=n) (by simp[aa,aU,aG,fSl,aj,fO0,fO1,fC,gSl,cT,hn]) (by omega) (by omega);rw[Int.toNat_natCast] at e0;have e1:yj (qy<|aa (aU cT<|aa (fSl (aj 0) fO0<|fO1<|fC<|.int 12) aG) aG) (hName 2) dM [.fz<|.lst<|ns.map D.int,.ow<|.lst [],.un]=.ok (.nx,[.fz<|.lst<|ns.map D.int,.ow<|.lst<|xs.map D.int,s2]):=by
  unfold yj;rw[e0];exact e
 show bY 3 1 (gC iy) _=_;unfold gC iy;exact HR e1
theorem dD {i:Int}(h1:-1000000000000000000000000000000<=i)(h2:i<=1000000000000000000000000000000):Bq i:=K5 (k:=100)<|by omega
theorem KH:(ae "abcdefghijklmnopqrstuvwxyz0123456789").cps.toList.length=36:=by decide +kernel
def NS (c:Nat):Prop:=97<=c/\c<=122\/48<=c/\c<=57
instance (c:Nat):Decidable (NS c):=by unfold NS;infer_instance
theorem Qw:∀c∈(ae "abcdefghijklmnopqrstuvwxyz0123456789").cps.toList,NS c:=by decide +kernel
theorem yR {x:Int}(h0:0<=x)(h1:x<10000000):∃c,gj [.int x]=.ok (false,.str<|tx c)/\Nam c:=by
 have hm:=gy x (show(8:Int)≠0 by decide);have hm2:=fR x (show(0:Int)<8 by decide);have hr:(-4611686018427387904:Int)<=1+x%8:=by omega
 have hr2:1+x%8<4611686018427387904:=by omega
 obtain⟨ys,e,hl,hy⟩:=Gw (h:=hName 0) (ft:=pq) (fe:=kh)
  (m0:=[.un,.fz<|.str "abcdefghijklmnopqrstuvwxyz0123456789",.fz<|.int x]) (One NS) ((ij (1+x%8).toNat).map λ(i:Nat)=>D.int i) (by
   intro d hd;obtain⟨j,hj,rfl⟩:=kQ.mp hd;have hj':j<(1+x%8).toNat:=List.mem_range.mp hj;have hjj:(j:Int)*j<=8*8:=Int.mul_le_mul (by omega) (by omega) (by omega) (by decide);have hjj0:(0:Int)<=j*j:=Int.mul_nonneg (by omega) (by omega);have b1:Bq ((j:Int)+1):=dD (by omega) (by omega);have b2:Bg (j:Int):=fP (by omega) (by omega);have b3:Bg ((j:Int)*j):=fP (by omega) (by omega);have b4:Bg 5:=fP (by decide) (by decide);have n1:¬((j:Int)+1=0):=by omega
   obtain⟨y,ey,oy⟩:=Dj (z:="abcdefghijklmnopqrstuvwxyz0123456789") (i:=(dvI x (j+1)+j*j*5)%36) (P:=NS) (by decide +kernel) Qw (gy _<|by decide) (by rw[KH];exact fR _<|by decide);refine⟨_,y,rfl,rfl,?_,oy⟩;simp[kh,aF,aj,fC,dG,mdI,aY,iz,uZ,b1,b2,b3,b4,n1,ey])
 have hl':ys.length<=16777216:=by rw[hl];simp;omega
 have hl2:ys.length=(1+x%8).toNat:=by rw[hl];simp
 obtain⟨cs,ej,lc,hc⟩:=join_ones hy hl';refine⟨cs,?_,by omega,by omega,hc⟩;have hz:(1+x%8).toNat<=16777216:=by omega
 show _=Res.ok (false,D.str ⟨cs.toArray⟩);simp[gj,bY,nj,mV,oU,bj,bM,fC,bH,Me.let,Sl.let,fU,tyD,aa,aG,gW,qy,aF,aj,aY,dG,mdI,hr,hr2,hz,cMe,Sl.bor,e,ej]
theorem W7:∀j:Nat,j<6->sg ((j:Nat):Int)=[48+j]:=by decide +kernel
open L2 (atI ixN Key)
def sD (c:List Nat):D:=.str<|tx c
def ld (m:Bool)(i:Nat):List Nat:=if m then[98,48+i] else[49,47,51]
def ldD (m:Bool)(i:Nat):D:=if m then .str (tx [98,48+i]) else qD (1,3)
def lws (m:Bool):Nat->List Gt->List Wy
 |_,[]=>[]
 |i,g::gs=>(ld m i,ldD m i,g)::lws m (i+1) gs
theorem oh (m:Bool):∀(gs:List Gt) (i:Nat),(lws m i gs).length=gs.length
 |[],_=>rfl
 |g::gs,i=>by simp[lws,oh m gs]
theorem Dm (m:Bool):∀(gs:List Gt) (i:Nat) (g:Gt),lws m i (gs++[g])=lws m i gs++[(ld m<|i+gs.length,ldD m<|i+gs.length,g)]
 |[],i,g=>rfl
 |a::gs,i,g=>by simp[lws,Dm m gs (i+1) g];rw[show i+1+gs.length=i+(gs.length+1) by omega];simp
theorem sZ (m:Bool):∀(gs:List Gt) (i:Nat),∀y∈lws m i gs,∃k,i<=k/\k<i+gs.length/\y.1=ld m k/\y.2.1=ldD m k/\y.2.2∈gs
 |[],i,y,h=>by simp[lws] at h
 |g::gs,i,y,h=>by
  simp only[lws,ag] at h;rcases h with rfl|h
  ·exact⟨i,a9 _,by simp,rfl,rfl,by simp⟩
  ·obtain⟨k,h1,h2,h3,h4,h5⟩:=sZ m gs (i+1) y h;exact⟨k,by omega,by simp;omega,h3,h4,by simp[h5]⟩
def hoM (m:Bool)(s:Int):Option Int:=if m then some s else none
structure Gq (M:Nat)(g:Gt):Prop where
 ok:okG bu bJ g
 len:(tG g).length<=M
 sg:∀c∈tG g,c<128
theorem Gq.bal {M:Nat}{g:Gt}(h:Gq M g)(hM:M<=100000):(tG g).count 40=(tG g).count 41:=(Hn<|vR h.ok (cm h.len hM) h.sg).2
theorem third:bu [.str<|tx [49,47,51]]=.ok (false,qD (1,3)):=by
 have:=xJ (t:=1) (b:=3) (by decide) (by decide) (by decide)<|by decide
 have e:sh 1 3=[49,47,51]:=by decide +kernel
 rwa [e] at this
theorem JK (m:Bool)(s:Int)(i:Nat):Led bu (hN<|hoM m s) (ld m i) (ldD m i):=by
 unfold Led;cases m with
 |false=>rw[if_pos<|show hN (hoM false s)=ae "deal" from rfl];exact⟨_,third⟩
 |true=>rw[if_neg (by show ¬ae "move" = ae "deal";decide +kernel)];rfl
theorem oN (m:Bool){i:Nat}(h:i<3):∀x∈ld m i,97<=x/\x<=122\/47<=x/\x<=57:=λx hx=>by
 cases m<;>simp[ld] at hx<;>omega
theorem uL (m:Bool)(i:Nat):(ld m i).length<=3:=by cases m<;>simp[ld]
theorem mv3 {nm:List Nat}(hn:Nam nm)(m:Bool)(s:Int):∀gs:List Gt,gs≠[]->gs.length<=3->fmB (hoM m s) nm (lws m 0 gs)=true:=by
 have on:okB nks 8 nm=true:=by
  have:=hn.lo;have:=hn.hi
  have al:nm.all (inB nks)=true:=gL.mpr λc hc=>by
   have:=hn.sg c hc
   unfold inB;rw[decide_eq_true_eq,bE,l7,l7];omega
  unfold okB;rw[al];simp;omega
 intro gs h0 h3;rw[My];have key:∀cs:List (List Nat),(cs=(if m then[[98,48]] else[[49,47,51]])\/cs=(if m then[[98,48],[98,49]] else[[49,47,51],[49,47,51]])\/cs=(if m then[[98,48],[98,49],[98,50]] else[[49,47,51],[49,47,51],[49,47,51]]))->fmL (hoM m s) nm cs=true:=λcs h=>by
  unfold fmL;rw[on];cases m with
  |false=>rcases h with rfl|rfl|rfl<;>rfl
  |true=>
   have e3:∀cs∈([[[98,48]],[[98,48],[98,49]],[[98,48],[98,49],[98,50]]]:List (List<|List Nat)),(decide (cs.length<=6)&&(cs.all (okB nks 8)&&decide (cnt (cs.map tx)=cs.length)))=true:=by decide +kernel
   rcases h with rfl|rfl|rfl
   ·exact e3 [[98,48]]<|by simp
   ·exact e3 [[98,48],[98,49]]<|by simp
   ·exact e3 [[98,48],[98,49],[98,50]]<|by simp
 match gs,h0,h3 with
 |[a],_,_=>exact key _ (.inl (by cases m<;>rfl))
 |[a,b],_,_=>exact key _ (.inr<|.inl (by cases m<;>rfl))
 |[a,b,c],_,_=>exact key _ (.inr<|.inr (by cases m<;>rfl))
def lim:Nat->Nat
 |0=>1000
 |k+1=>17+3*(6+lim k)
theorem Ip:∀k:Nat,1000<=lim k
 |0=>a9 _
 |k+1=>by have:=Ip k;show 1000<=17+3*(6+lim k);omega
theorem Uy {k:Nat}(h:k<=4):lim k<=82400:=by
 have c:k=0\/k=1\/k=2\/k=3\/k=4:=by omega
 rcases c with rfl|rfl|rfl|rfl|rfl<;>decide
theorem Ja {ho:Option Int}{n:List Nat}(h:n.length<=8):(hT ho n).length<=15:=by
 cases ho with
 |none=>simp[hT];omega
 |some s=>
  have:(sdS s).length=1:=by unfold sdS;split<;>rfl
  simp[hT,this];omega
theorem zJ {W:List (List Nat)}{M:Nat}(h:∀w∈W,w.length<=4+M)(h3:W.length<=3):(jl [44,32] W).length<=3*(6+M):=by
 have h1:=QX [44,32] W;have h2:oF W<=W.length*(4+M):=by
  clear h1 h3;induction W with
  |nil=>simp[oF]
  |cons a W ih=>
   have i1:=ih λw hw=>h w<|ax _ hw;have i2:=h a a8;simp only[oF,eJ,vb,bX,xl,Nat.one_mul] at i1 ⊢;omega
 have h4:W.length*(4+M)<=3*(4+M):=Nat.mul_le_mul_right _ h3;simp only[bX,lx] at h1;omega
theorem BL {s:List Nat}:∀{W:List (List Nat)} {x:Nat},x∈jl s W->x∈s\/∃w∈W,x∈w
 |[],x,h=>by simp[jl] at h
 |[a],x,h=>.inr ⟨a,by simp,by simpa[jl] using h⟩
 |a::b::W,x,h=>by
  simp only[jl,bE] at h;rcases h with(h|h)|h
  ·exact .inr ⟨a,by simp,h⟩
  ·exact .inl h
  ·rcases BL (W:=b::W) h with z|⟨w,hw,z⟩
   ·exact .inl z
   ·exact .inr ⟨w,ax _ hw,z⟩
theorem node {nm:List Nat}{m:Bool}{s:Int}{gs:List Gt}{M:Nat}(hs:s=1\/s=2)(hn:Nam nm)(h0:gs≠[])(h3:gs.length<=3)(hg:∀g∈gs,Gq M g):∃g,tG g=hT (hoM m s) nm++40::(jl [44,32] ((lws m 0 gs).map tT)++[41])/\Gq (17+3*(6+M)) g:=by
 cases hl:lws m 0 gs with
 |nil=>have:=oh m gs 0;rw[hl] at this;exact absurd (p0.mp this.symm) h0
 |cons x r=>
  have e:=Rj r x;have em:∀y∈wl (mkW x r),∃k,k<3/\y.1=ld m k/\y.2.1=ldD m k/\y.2.2∈gs:=λy hy=>by
   rw[e,← hl] at hy;obtain⟨k,h1,h2,h4,h5,h6⟩:=sZ m gs 0 y hy;exact⟨k,by omega,h4,h5,h6⟩
  have et:tG (.nd (hoM m s) nm<|mkW x r)=hT (hoM m s) nm++40::(jl [44,32] ((x::r).map tT)++[41]):=by
   show hT (hoM m s) nm++40::(tW (mkW x r)++[41])=_;rw[Q6,e]
  have hv:∀s',hoM m s=some s'->s'=1\/s'=2:=λs' z=>by cases m<;>simp[hoM] at z;exact z▸hs
  have nst:∀y∈nm,y∉stops:=λy hy z=>by
   have:=hn.sg y hy
   simp only[stops,ag,cp,or_false] at z;omega
  have lds:∀{k:Nat},k<3->∀y∈ld m k,y∉stops:=λhk y hy z=>by
   have:=oN m hk y hy
   simp only[stops,ag,cp,or_false] at z;omega
  have wlen:∀w∈(x::r).map tT,w.length<=4+M/\∀c∈w,c<128:=λw hw=>by
   obtain⟨y,hy,rfl⟩:=kQ.mp hw;rw[← e] at hy;obtain⟨k,h1,h2,_,h5⟩:=em y hy
   have:=(hg _ h5).len
   have:=uL m k
   refine⟨by simp[tT,h2];omega,λc hc=>?_⟩;simp only[tT,h2,bE,ag] at hc;rcases hc with hc|rfl|hc
   ·have:=oN m h1 c hc;omega
   ·decide
   ·exact(hg _ h5).sg c hc
  have l3:((x::r).map tT).length<=3:=by rw[fA,← hl,oh];exact h3
  refine⟨.nd (hoM m s) nm<|mkW x r,et,?_,?_,?_⟩
  ·have hf:=qM (ho:=hoM m s) (n:=nm) (ws:=lws m 0 gs) hv (by have:=hn.hi;omega) (by rw[hl];simp) (by rw[oh];omega) λy hy=>by
    rw[hl,← e] at hy;obtain⟨k,h1,h2,h4,_⟩:=em y hy;rw[h2,h4];exact⟨by have:=uL m k;omega,λc hc=>by have:=oN m h1 c hc;omega,JK m s k⟩
   rw[mv3 hn m s gs h0 h3] at hf;simp only[okG];refine⟨hv,nst,Jg _ λy hy=>?_,false,by rw[Cu,e,← hl];exact hf⟩;obtain⟨k,h1,h2,h4,h5⟩:=em y hy;rw[h2,h4];exact⟨lds h1,JK m s k,(hg _ h5).ok⟩
  ·rw[et]
   have:=zJ (λw hw=>(wlen w hw).1) l3
   have:=Ja (ho:=hoM m s) hn.hi
   simp only[aw,bX,lx];omega
  ·rw[et];intro c hc;simp only[bE,ag,cp,or_false] at hc;rcases hc with hc|rfl|hc|rfl
   ·have:=(zr (ho:=hoM m s) hn.sg c hc).1;unfold Al at this;omega
   ·decide
   ·rcases BL hc with z|⟨w,hw,z⟩
    ·simp at z;omega
    ·exact(wlen w hw).2 c z
   ·decide
theorem Rf:∀{W:List (List Nat)},(∀w∈W,w.count 40=w.count 41)->(jl [44,32] W).count 40=(jl [44,32] W).count 41
 |[],_=>rfl
 |[a],h=>by simpa[jl] using h a (by simp)
 |a::b::W,h=>by
  have h1:=h a (by simp);have h2:=Rf (W:=b::W) λw hw=>h w<|ax _ hw;simp only[jl,eM,h1,h2];rfl
theorem CP {a:List Nat}{W:List (List Nat)}:jl [44,32] (a::W)=a++(match W with | []=>[]|_=>[44,32]++jl [44,32] W):=by
 cases W<;>simp[jl]
theorem Kc {nm T0:List Nat}{m:Bool}{s:Int}{W:List (List Nat)}(hs:s=1\/s=2)(hn:Nam nm)(hb:Bad T0)(hW:∀w∈W,w.count 40=w.count 41):Bad (hT (hoM m s) nm++40::(jl [44,32] ((ld m 0++32::T0)::W)++[41])):=by
 have hv:∀s',hoM m s=some s'->s'=1\/s'=2:=λs' z=>by cases m<;>simp[hoM] at z;exact z▸hs
 have nst:∀y∈nm,y∉stops:=λy hy z=>by
  have:=hn.sg y hy
  simp only[stops,ag,cp,or_false] at z;omega
 have lst:∀y∈ld m 0,y∉stops:=λy hy z=>by
  have:=oN m (i:=0) (by decide) y hy
  simp only[stops,ag,cp,or_false] at z;omega
 rcases hb with hb|hb
 ·refine .inl λg b r hg hb' hr e=>?_;rw[CP] at e
  have:∃tl,Rr tl/\hT (hoM m s) nm++40::(ld m 0++32::(T0++tl))=tG g++b:=by
   refine⟨(match W with | []=>[]|_=>[44,32]++jl [44,32] W)++([41]++r),?_,by rw[e];simp⟩;cases W with
   |nil=>exact λx e=>by cases e;exact .inl rfl
   |cons _ _=>exact λx e=>by cases e;exact .inr rfl
  obtain⟨tl,htl,e⟩:=this;cases g with
  |fin c d=>cases m<;>simp[hoM,tG,enT,hT,dlT,mvT] at e
  |nd ho' n' ws'=>
   simp only[PG] at hg;obtain⟨hs',hf',hw'⟩:=hg;simp only[tG,aE,br] at e;obtain⟨e1,e2,e3⟩:=Ab hv hs' nst (Ra<|Lb hf') e;have go:∀(c:List Nat) (g1:Gt) (b1:List Nat),(∀x∈c,x∉stops)->PG g1->Rr b1->ld m 0++32::(T0++tl)=c++32::(tG g1++b1)->False:=λc g1 b1 hc hg1 hb1 e=>by
    obtain⟨_,e4⟩:=mj lst hc (jP vI) (jP vI) e;simp only[cE,true_and] at e4;exact hb g1 b1 tl hg1 hb1 htl e4.symm
   cases ws' with
   |one c d g1=>
    simp only[PW] at hw';exact go c g1 ([41]++b) hw'.1 hw'.2.2.2 (λx e=>by cases e;exact .inl rfl) (by rw[e3];simp[tW])
   |more c d g1 w1=>
    simp only[PW] at hw';exact go c g1 (44::32::(tW w1++([41]++b))) hw'.1 hw'.2.2.2.1 (λx e=>by cases e;exact .inr rfl) (by rw[e3];simp[tW])
 ·refine .inr ?_;have c1:=jZ (k:=40) (l:=hT (hoM m s) nm) λx hx=>(zr hn.sg x hx).2.1;have c2:=jZ (k:=41) (l:=hT (hoM m s) nm) λx hx=>(zr hn.sg x hx).2.2;have c3:=jZ (k:=40) (l:=ld m 0) λx hx=>by have:=oN m (i:=0) (by decide) x hx;omega
  have c4:=jZ (k:=41) (l:=ld m 0) λx hx=>by have:=oN m (i:=0) (by decide) x hx;omega
  rw[CP];have c5:(match W with | []=>[]|_=>[44,32]++jl [44,32] W).count 40=(match W with | []=>[]|_=>[44,32]++jl [44,32] W).count 41:=by
   cases W with
   |nil=>rfl
   |cons a W=>have:=Rf hW;simp only[eM,this];rfl
  simp only[eM,h8,c1,c2,c3,c4,c5,hb]
  simp
  omega
open L2 (atI ixN Key)
theorem XD:ae "1/3" = tx [49,47,51]:=by decide +kernel
theorem s_b:ae "b" = tx [98]:=by decide +kernel
theorem Kw (b:Bool):jQ [.bl b]=some (.int<|if b then 1 else 0):=by cases b<;>rfl
theorem ix2 (a b:D)(c:Bool):gIx (.lst [a,b]) (.int<|if c then 1 else 0)=some (if c then b else a):=by cases c<;>rfl
theorem step_eq {Φ:List D->List D->Res (D×List D)}{es es':List D}{dd x:Int}{many:Sl}{part T:List Nat}{W:List D}{i:Nat}{s7:Sl}(hi:i<3)(hW:W.length<=3)(hT:T.length<=100000)
  (e:Φ es [.int<|dd-1,.str<|tx<|if i=0 then part else[]]=.ok (.str<|tx T,es')):
  gB Φ [.io<|.lst es,.fz<|.int dd,.fz<|.str<|tx part,.fz<|.int x,many,.ow<|.lst W,.fz<|.int i,s7] =
  .ok (.nx,[.io<|.lst es',.fz<|.int dd,.fz<|.str<|tx part,.fz<|.int x,many,.ow<|.lst<|W++[sD (ld (decide<|2<x%6) i++32::T)],.fz<|.int i,.fz<|.str<|tx<|ld (decide<|2<x%6) i]):=by
 have gs:=pL (i:=(i:Int)) (by omega);rw[W7 i<|by omega] at gs;have a1:aY (.str<|ae "b") (.str<|tx [48+i])=some (.str<|tx [98,48+i]):=by rw[s_b,cU<|by simp];rfl
 have hl:=uL (decide<|2<x%6) i;have el:(if decide (2<x%6)=true then D.str (tx [98,48+i]) else .str (ae "1/3"))=.str (tx<|ld (decide<|2<x%6) i):=by
  rw[XD];unfold ld;cases decide (2<x%6)<;>rfl
 have a2:aY (.str<|tx<|ld (decide<|2<x%6) i) (.str<|ae " ")=some (.str<|tx<|ld (decide<|2<x%6) i++[32]):=by rw[Qd];exact cU (by simp;omega)
 have a3:aY (.str<|tx<|ld (decide<|2<x%6) i++[32]) (.str<|tx T)=some (sD (ld (decide<|2<x%6) i++32::T)):=by rw[cU (by simp;omega)];simp[sD]
 have ep:(if decide (0<i)=true then D.str (ae "") else .str (tx part))=.str (tx<|if i=0 then part else[]):=by
  rw[BR];by_cases z:i=0
  ·rw[if_pos z,decide_eq_false<|by omega];rfl
  ·rw[if_neg z,decide_eq_true<|by omega];rfl
 have i1:=ix2 (.str<|ae "1/3") (.str<|tx [98,48+i])<|decide<|2<x%6;rw[el] at i1;have i2:=ix2 (.str<|tx part) (.str<|ae "")<|decide<|0<i;rw[ep] at i2;have hW':W.length<16777216:=by omega
 generalize ld (decide<|2<x%6) i=L at *;generalize sD (L++32::T)=R at *;generalize tx (L++[32])=r1 at *;generalize tx L=r2 at *;generalize tx T=r3 at *;generalize tx (if i=0 then part else[])=r4 at *;generalize tx [98,48+i]=r5 at *;generalize tx [48+i]=r6 at *;generalize tx part=r7 at *;have c1:aU jQ (aa (gQ gGt (aF dG (aj 3)<|fC<|.int 6)<|fC<|.int 2) aG) [.io<|.lst es,.fz<|.int dd,.fz<|.str r7,.fz<|.int x,many,.ow<|.lst W,.fz<|.int i,s7]=.ok (.int<|if decide (2<x%6)=true then 1 else 0):=by
  have:=Kw<|decide<|2<x%6
  generalize hd:decide (2<x%6)=dc at *;simp[aU,aa,aG,gQ,aF,aj,fC,dG,mdI,gGt,hd,this]
 have c2:∀s,aU jQ (aa (gQ gGt (aj 6)<|fC<|.int 0) aG) [.io<|.lst es,.fz<|.int dd,.fz<|.str r7,.fz<|.int x,many,.ow<|.lst W,.fz<|.int i,s]=.ok (.int<|if decide (0<i)=true then 1 else 0):=λs=>by
  have:=Kw<|decide<|0<i
  generalize hd:decide (0<i)=dc at *;simp[aU,aa,aG,gQ,aj,fC,gGt,hd,this]
 unfold gB;generalize aU jQ (aa (gQ gGt (aF dG (aj 3)<|fC<|.int 6)<|fC<|.int 2) aG)=F1 at *;generalize aU jQ (aa (gQ gGt (aj 6)<|fC<|.int 0) aG)=F2 at *;generalize(if decide (2<x%6)=true then(1:Int) else 0)=n1 at *;generalize(if decide (0<i)=true then(1:Int) else 0)=n2 at *;simp[bj,bM,aF,dq,aa,aG,fC,aU,aj,gs,a1,c1,i1,vm,Iz,fX,a2,UJ,o7,F.HH,bW,c2,i2,e,putL,a3,hW']
theorem Rg {Φ:List D->List D->Res (D×List D)}{dd x:Int}{many:Sl}{part w0:List Nat}{M:Nat}(hM:M<=100000)
  (ih:∀es:List Int,(∀y∈es,Sx y)->∃(g:Gt) (es':List Int),Φ (es.map D.int) [.int<|dd-1,.str<|tx []]=.ok (.str<|tx<|tG g,es'.map D.int)/\(∀y∈es',Sx y)/\Gq M g):
  ∀(d i:Nat) (gs:List Gt) (es:List Int) (s6 s7:Sl),1<=i->i+d<=3->gs.length+1=i->(∀g∈gs,Gq M g)->(∀y∈es,Sx y)->∃(gs':List Gt) (es':List Int) (s6' s7':Sl),
   iZ (hName 6) (gB Φ) ((qf i d).map λ(k:Nat)=>D.int k) [.io<|.lst<|es.map D.int,.fz<|.int dd,.fz<|.str<|tx part,.fz<|.int x,many,.ow<|.lst<|(w0::(lws (decide<|2<x%6) 1 gs).map tT).map sD,s6,s7] =
    .ok (.nx,[.io<|.lst<|es'.map D.int,.fz<|.int dd,.fz<|.str<|tx part,.fz<|.int x,many,.ow<|.lst<|(w0::(lws (decide<|2<x%6) 1 gs').map tT).map sD,s6',s7'])/\gs'.length+1=i+d/\(∀g∈gs',Gq M g)/\∀y∈es',Sx y
 |0,i,gs,es,s6,s7,_,_,hl,hg,hs=>⟨gs,es,s6,s7,rfl,by omega,hg,hs⟩
 |d+1,i,gs,es,s6,s7,h1,h3,hl,hg,hs=>by
  obtain⟨g,es1,e1,hs1,g1⟩:=ih es hs;have hW:((w0::(lws (decide<|2<x%6) 1 gs).map tT).map sD).length<=3:=by simp[oh];omega
  have st:=step_eq (x:=x) (many:=many) (part:=part) (i:=i) (s7:=s7) (by omega) hW (cm g1.len hM) (by rw[if_neg<|by omega];exact e1);obtain⟨gs',es',s6',s7',e,hl',hg',hs'⟩:=Rg (many:=many) (part:=part) (w0:=w0) hM ih d (i+1) (gs++[g]) es1 (.fz<|.int i) (.fz<|.str<|tx<|ld (decide<|2<x%6) i) (by omega) (by omega) (by simp;omega) (λy hy=>by
   rcases bE.mp hy with w|w
   ·exact hg y w
   ·rw[cx.mp w];exact g1) hs1
  refine⟨gs',es',s6',s7',?_,by omega,hg',hs'⟩;have ew:(w0::(lws (decide<|2<x%6) 1<|gs++[g]).map tT).map sD=(w0::(lws (decide<|2<x%6) 1 gs).map tT).map sD++[sD (ld (decide<|2<x%6) i++32::tG g)]:=by
   rw[Dm,show 1+gs.length=i by omega];simp[tT]
  rw[ew] at e;rw[List.range'_succ];generalize(w0::(lws (decide<|2<x%6) 1 gs).map tT).map sD=WW at *;generalize sD (ld (decide<|2<x%6) i++32::tG g)=R at *;show iZ _ _ (D.int i::(qf (i+1) d).map λ(k:Nat)=>D.int k) _=_;unfold iZ;have eh:hName 6 (D.int i) [.io<|.lst<|es.map D.int,.fz<|.int dd,.fz<|.str<|tx part,.fz<|.int x,many,.ow<|.lst WW,s6,s7]=some [.io<|.lst<|es.map D.int,.fz<|.int dd,.fz<|.str<|tx part,.fz<|.int x,many,.ow<|.lst WW,.fz<|.int i,s7]:=rfl;rw[eh];simp only[st];exact e
theorem Nf {Φ:List D->List D->Res (D×List D)}{dd x:Int}{many:Nat}{part T0:List Nat}{M:Nat}{es es1:List Int}(h1:1<=many)(h3:many<=3)(hM:M<=100000)(hT:T0.length<=100000)
  (e0:Φ (es.map D.int) [.int<|dd-1,.str<|tx part]=.ok (.str<|tx T0,es1.map D.int)) (hs1:∀y∈es1,Sx y)
  (ih:∀es:List Int,(∀y∈es,Sx y)->∃(g:Gt) (es':List Int),Φ (es.map D.int) [.int<|dd-1,.str<|tx []]=.ok (.str<|tx<|tG g,es'.map D.int)/\(∀y∈es',Sx y)/\Gq M g):
  ∃(gs:List Gt) (es':List Int) (s6 s7:Sl),gF Φ [.io<|.lst<|es.map D.int,.fz<|.int dd,.fz<|.str<|tx part,.fz<|.int x,.fz<|.int many,.ow<|.lst [],.un,.un] =
    .ok (.nx,[.io<|.lst<|es'.map D.int,.fz<|.int dd,.fz<|.str<|tx part,.fz<|.int x,.fz<|.int many,.ow<|.lst<|((ld (decide<|2<x%6) 0++32::T0)::(lws (decide<|2<x%6) 1 gs).map tT).map sD,s6,s7])/\gs.length+1=many/\(∀g∈gs,Gq M g)/\∀y∈es',Sx y:=by
 obtain⟨m',rfl⟩:∃m',many=m'+1:=⟨many-1,by omega⟩;have st:=step_eq (x:=x) (many:=.fz<|.int ((m'+1:Nat):Int)) (part:=part) (W:=[]) (i:=0) (s7:=.un) (by decide) (by simp) hT (by rw[if_pos rfl];exact e0);obtain⟨gs,es',s6,s7,e,hl,hg,hs⟩:=Rg (dd:=dd) (x:=x) (many:=.fz<|.int ((m'+1:Nat):Int)) (part:=part) (w0:=ld (decide<|2<x%6) 0++32::T0) hM ih m' 1 [] es1 (.fz<|.int 0) (.fz<|.str<|tx<|ld (decide<|2<x%6) 0) (by decide) (by omega) rfl (λ_ z=>(nomatch z)) hs1;refine⟨gs,es',s6,s7,?_,by omega,hg,hs⟩;unfold gF yj;rw[Vk (f:=aa (aj 4) aG) (j:=((m'+1:Nat):Int)) rfl (by omega)<|by omega];have er:((ij (((m'+1:Nat):Int)).toNat).map λ(i:Nat)=>D.int i)=D.int ((0:Nat):Int)::(qf 1 m').map λ(k:Nat)=>D.int k:=by
  rw[show(((m'+1:Nat):Int)).toNat=m'+1 by omega,List.range_eq_range',List.range'_succ];rfl
 rw[er,Res.O8];unfold iZ;have eh:hName 6 (D.int ((0:Nat):Int)) [.io<|.lst<|es.map D.int,.fz<|.int dd,.fz<|.str<|tx part,.fz<|.int x,.fz<|.int ((m'+1:Nat):Int),.ow<|.lst [],.un,.un]=some [.io<|.lst<|es.map D.int,.fz<|.int dd,.fz<|.str<|tx part,.fz<|.int x,.fz<|.int ((m'+1:Nat):Int),.ow<|.lst [],.fz<|.int ((0:Nat):Int),.un]:=rfl;rw[eh];simp only[st];exact e
open L2 (atI ixN Key)
def Fg:Zl:=aF gIx (dq<|aa (bW 2)<|aa (aF aY (fC<|.str "end ")<|aU sr<|aa (aF HH (aF dG (aF iz (aj 3)<|fC<|.int 6)<|fC<|.int 23)<|fC<|.int 11) aG) aG)<|aU jQ<|aa (gQ gEq (aj 2)<|fC<|.str "") aG
def mH (part:List Nat)(x:Int):List Nat:=if part=[] then enT++sg (x/6%23-11) else part
theorem yc {m0 dd:Sl}{t:List Sl}{x:Int}{part:List Nat}:Fg (m0::dd::.fz (.str<|tx part)::.fz (.int x)::t)=.ok (.str<|tx<|mH part x):=by
 have b6:Bq 6:=dD (by decide) (by decide);have hz:(x/6%23-11).natAbs<10^30:=by omega
 have gs:=pL hz;have ls:=qN hz;have a1:aY (.str<|ae "end ") (.str<|tx<|sg<|x/6%23-11)=some (.str<|tx<|enT++sg (x/6%23-11)):=by rw[s_end];exact cU (by simp;omega)
 have e2:aU jQ (aa (gQ gEq (aj 2)<|fC<|.str "") aG) (m0::dd::.fz (.str<|tx part)::.fz (.int x)::t)=.ok (.int<|if decide (part=[])=true then 1 else 0):=by
  have hd:decide (tx part=ae "")=decide (part=[]):=by
   rw[BR];by_cases z:part=[]
   ·rw[decide_eq_true z,z];simp
   ·rw[decide_eq_false z,decide_eq_false λy=>z<|pH.mp y]
  have:=Kw<|decide<|part=[]
  generalize decide (part=[])=dc at *;simp[aU,aa,aG,gQ,aj,fC,hd,this]
 have i1:=ix2 (.str<|tx part) (.str<|tx<|enT++sg (x/6%23-11))<|decide<|part=[];have er:(if decide (part=[])=true then D.str (tx<|enT++sg (x/6%23-11)) else .str (tx part))=.str (tx<|mH part x):=by
  unfold mH;by_cases z:part=[]
  ·rw[if_pos<|decide_eq_true z,if_pos z]
  ·rw[if_neg (by simpa using z),if_neg z]
 rw[er] at i1;unfold Fg;generalize tx (mH part x)=r at *;generalize aU jQ (aa (gQ gEq (aj 2)<|fC<|.str "") aG)=F1 at *;generalize tx (enT++sg (x/6%23-11))=r1 at *;generalize tx (sg<|x/6%23-11)=r2 at *;generalize tx part=r3 at *;generalize(if decide (part=[])=true then(1:Int) else 0)=n1 at *;simp[aF,dq,aa,aG,bW,fC,aU,aj,iz,dvI,b6,dG,mdI,F.HH,gs,a1,e2,i1]
theorem ai (i j:Int):F.aY (.int i) (.int j)=some (.int<|i+j):=rfl
theorem Ey {part:List Nat}{x:Int}(hp:part≠[]->Bad part/\part.length<=1000/\∀c∈part,c<128)(k:Nat):(mH part x).length<=lim k/\(∀c∈mH part x,c<128)/\(part=[]->∃g,mH part x=tG g/\Gq (lim k) g)/\(part≠[]->Bad (mH part x)):=by
 have hl:=Ip k;unfold mH;by_cases z:part=[]
 ·have hz:(x/6%23-11).natAbs<10^30:=by omega
  obtain⟨gd,es⟩:=S9 hz;have ls:=qN hz;have fm:Fm (sg<|x/6%23-11):=⟨_,_,gd,es.symm⟩;have rd:=xJ gd.1 gd.2.1 gd.2.2.1 gd.2.2.2;rw[es] at rd;have l1:(enT++sg (x/6%23-11)).length<=lim k:=by simp;omega
  have l2:∀c∈enT++sg (x/6%23-11),c<128:=λc hc=>by
   rcases bE.mp hc with w|w
   ·simp[enT] at w;omega
   ·have:=zH fm c w;omega
  rw[if_pos z];refine⟨l1,l2,λ_=>⟨.fin (sg<|x/6%23-11)<|qD (x/6%23-11,1),rfl,?_,l1,l2⟩,λy=>absurd z y⟩;simp only[okG];exact⟨QT fm,_,rd⟩
 ·obtain⟨h1,h2,h3⟩:=hp z;rw[if_neg z];exact⟨by omega,h3,λy=>absurd y z,λ_=>h1⟩
def cG (LE:Zl)(φ__law_name:Zf)(l_2:Zg):Zg:=
 (bj (bM 3<|fC<|.int 0)
 (bj (gIf (bK gGt (aU cT<|aa (aj 0) aG)<|fC<|.int 0) (jV 3 0) gNx)
 (bj (gIf (dN (bK gEq (aj 1)<|fC<|.int 0)<|dN (bK gEq (aU cT<|aa (aj 0) aG)<|fC<|.int 0)<|bK gEq (aF dG (aj 3)<|fC<|.int 6)<|fC<|.int 0) (bH LE) gNx)
 (bj (bM 4<|aF aY (fC<|.int 1)<|aF dG (aF iz (aj 3)<|fC<|.int 6)<|fC<|.int 3)
 (bj (xH 5<|dq aG)
 (bj l_2
 (bj (gIf (bK gLt (aF dG (aj 3)<|fC<|.int 6)<|fC<|.int 3) (bH<|aF aY (aF aY (aF aY (aF aY (fC<|.str "deal ")<|fFn φ__law_name<|aa (aF iz (aj 3)<|fC<|.int 2) aG)<|fC<|.str "(")<|fU "str" jc (fC<|.str ", ") (aa (aj 5) aG))<|fC<|.str ")") gNx)
 (bH<|aF aY (aF aY (aF aY (aF aY (aF aY (aF aY (fC<|.str "move ")<|aU sr<|aa (aF aY (fC<|.int 1)<|aF dG (aF iz (aj 3)<|fC<|.int 3)<|fC<|.int 2) aG)<|fC<|.str " ")<|fFn φ__law_name<|aa (aF iz (aj 3)<|fC<|.int 5) aG)<|fC<|.str "(")<|fU "str" jc (fC<|.str ", ") (aa (aj 5) aG))<|fC<|.str ")"))))))))
theorem We {g:Zf}{LL:Zg}:jk g LL=cG Fg g LL:=rfl
section
variable {LE:Zl}{g:Zf}{LL:Zg}{es':List D}{dd x:Int}{P r:Str}
theorem V0 (el:∀m0 dd t,LE (m0::dd::.fz (.str P)::.fz (.int 0)::t)=.ok (.str r)):jb 8 3 (cG LE g LL) [] [.int dd,.str P]=.ok (.str r,[]):=by
 unfold cG;simp[jb,bj,bM,fC,gIf,bK,gGt,aU,cT,aa,aj,aG,gNx,dN,bH,Me.let,Sl.let,el,sy]
theorem Va (el:∀m0 dd t,LE (m0::dd::.fz (.str P)::.fz (.int x)::t)=.ok (.str r))(h:dd=0\/es'=[]\/x%6=0):jb 8 3 (cG LE g LL) (es'++[.int x]) [.int dd,.str P]=.ok (.str r,es'):=by
 unfold cG;by_cases c1:dd=0
 ·simp[jb,bj,bM,fC,gIf,bK,gGt,aU,cT,aa,aj,aG,jV,o7,putL,dN,c1,bH,Me.let,Sl.let,el,sy]
 ·by_cases c2:es'=[]
  ·subst c2;simp[jb,bj,bM,fC,gIf,bK,gGt,aU,cT,aa,aj,aG,jV,o7,putL,dN,c1,bH,Me.let,Sl.let,el,sy]
  ·have c3:=(h.resolve_left c1).resolve_left c2;simp[jb,bj,bM,fC,gIf,bK,gGt,aU,cT,aa,aj,aG,jV,o7,putL,dN,c1,c2,c3,aF,dG,mdI,bH,Me.let,Sl.let,el,sy]
variable {ys es2 WW:List D}{many sd:Int}{s6 s7:Sl}{q1 q2 q3 q4 q5 q6 q7 q8:Str}
theorem Le (c1:¬dd=0)(c2:¬ys=[])(c3:¬x%6=0)(c4:x%6<3)(hm:1+x/6%3=many)(eL:LL [.io<|.lst ys,.fz<|.int dd,.fz<|.str P,.fz<|.int x,.fz<|.int many,.ow<|.lst [],.un,.un]=.ok (.nx,[.io<|.lst es2,.fz<|.int dd,.fz<|.str P,.fz<|.int x,.fz<|.int many,.ow<|.lst WW,s6,s7]))
  (en:g [.int<|x/2]=.ok (false,.str q4)) (ej:jc (.str<|ae ", ") [.lst WW]=some (.str q5)) (a1:aY (.str<|ae "deal ") (.str q4)=some (.str q3)) (a2:aY (.str q3) (.str<|ae "(")=some (.str q2)) (a3:aY (.str q2) (.str q5)=some (.str q1)) (a4:aY (.str q1) (.str<|ae ")")=some (.str r)):
  jb 8 3 (cG LE g LL) (ys++[.int x]) [.int dd,.str P]=.ok (.str r,es2):=by
 have b6:Bq 6:=dD (by decide) (by decide);have b2:Bq 2:=dD (by decide) (by decide);unfold cG;simp[jb,bj,bM,fC,gIf,bK,gGt,aU,cT,aa,aj,aG,jV,o7,putL,dN,c1,c2,c3,c4,gLt,dG,mdI,gNx,aF,iz,dvI,b6,b2,ai,hm,xH,dq,eL,bH,Me.let,Sl.let,fFn,en,fU,tyD,ej,a1,a2,a3,a4,sy]
theorem JF (c1:¬dd=0)(c2:¬ys=[])(c3:¬x%6=0)(c4:¬x%6<3)(hm:1+x/6%3=many)(esd:1+x/3%2=sd)(eL:LL [.io<|.lst ys,.fz<|.int dd,.fz<|.str P,.fz<|.int x,.fz<|.int many,.ow<|.lst [],.un,.un]=.ok (.nx,[.io<|.lst es2,.fz<|.int dd,.fz<|.str P,.fz<|.int x,.fz<|.int many,.ow<|.lst WW,s6,s7]))
  (en:g [.int<|x/5]=.ok (false,.str q4)) (ej:jc (.str<|ae ", ") [.lst WW]=some (.str q5)) (gsd:sr [.int sd]=some (.str q8)) (a1:aY (.str<|ae "move ") (.str q8)=some (.str q7)) (a2:aY (.str q7) (.str<|ae " ")=some (.str q6)) (a3:aY (.str q6) (.str q4)=some (.str q3)) (a4:aY (.str q3) (.str<|ae "(")=some (.str q2)) (a5:aY (.str q2) (.str q5)=some (.str q1)) (a6:aY (.str q1) (.str<|ae ")")=some (.str r)):
  jb 8 3 (cG LE g LL) (ys++[.int x]) [.int dd,.str P]=.ok (.str r,es2):=by
 have b6:Bq 6:=dD (by decide) (by decide);have b3:Bq 3:=dD (by decide) (by decide);have b5:Bq 5:=dD (by decide) (by decide);unfold cG;simp[jb,bj,bM,fC,gIf,bK,gGt,aU,cT,aa,aj,aG,jV,o7,putL,dN,c1,c2,c3,c4,gLt,dG,mdI,gNx,aF,iz,dvI,b6,b3,b5,ai,hm,esd,xH,dq,eL,bH,Me.let,Sl.let,fFn,en,fU,tyD,ej,gsd,a1,a2,a3,a4,a5,a6,sy]
end
def GP (Φ:List D->List D->Res (D×List D))(n:Nat):Prop:=∀(es:List Int) (dd:Int) (part:List Nat),0<=dd->dd<n->dd<=4->(∀x∈es,Sx x)->(part≠[]->Bad part/\part.length<=1000/\∀c∈part,c<128)->
  ∃(T:List Nat) (es':List Int),Φ (es.map D.int) [.int dd,.str<|tx part]=.ok (.str<|tx T,es'.map D.int)/\(∀x∈es',Sx x)/\T.length<=lim dd.toNat/\(∀c∈T,c<128)/\(part=[]->∃g,T=tG g/\Gq (lim dd.toNat) g)/\(part≠[]->Bad T)
theorem Ca {Φ:List D->List D->Res (D×List D)}{n:Nat}(IH:GP Φ n):GP (jb 8 3<|jk gj<|gF Φ) (n+1):=by
  intro es dd part h0 h1 h4 hs hp;have b6:Bq 6:=dD (by decide) (by decide);have b3:Bq 3:=dD (by decide) (by decide);have b2:Bq 2:=dD (by decide) (by decide);have b5:Bq 5:=dD (by decide) (by decide);have el:∀(m0 dd:Sl) (t:List Sl) (x:Int),Fg (m0::dd::.fz (.str<|tx part)::.fz (.int x)::t)=.ok (.str<|tx<|mH part x):=λ_ _ _ _=>yc;rw[We];by_cases hes:es=[]
  ·subst hes;obtain⟨k1,k2,k3,k4⟩:=Ey (x:=0) hp dd.toNat;exact⟨mH part 0,[],V0 λ_ _ _=>yc,(λ_ z=>(nomatch z)),k1,k2,k3,k4⟩
  ·obtain⟨ys,x,rfl⟩:=NK hes;have hx:Sx x:=hs x (by simp);obtain⟨hx0,hx1⟩:=hx;have hy:∀y∈ys,Sx y:=λy h=>hs y (by simp[h]);have em:(ys++[x]).map D.int=ys.map D.int++[.int x]:=by simp
   by_cases c:dd=0\/ys=[]\/x%6=0
   ·obtain⟨k1,k2,k3,k4⟩:=Ey (x:=x) hp dd.toNat;exact⟨mH part x,ys,by rw[em];exact Va (λ_ _ _=>yc)<|c.imp id<|Or.imp (λz=>by rw[z];rfl) id,hy,k1,k2,k3,k4⟩
   ·have c1:¬dd=0:=λz=>c<|.inl z;have c2:¬ys=[]:=λz=>c<|.inr<|.inl z;have c3:¬x%6=0:=λz=>c<|.inr<|.inr z;obtain⟨k0,hk0⟩:∃k0,(dd-1).toNat=k0:=⟨_,rfl⟩;have ek:dd.toNat=k0+1:=by omega
    have hM:lim k0<=100000:=by have:=Uy (k:=k0) (by omega);omega
    obtain⟨T0,es1,e0,hs1,t1,t2,t3,t4⟩:=IH ys (dd-1) part (by omega) (by omega) (by omega) hy hp;rw[hk0] at t1 t3;have ih:∀es:List Int,(∀y∈es,Sx y)->∃(g:Gt) (es':List Int),Φ (es.map D.int) [.int<|dd-1,.str<|tx []]=.ok (.str<|tx<|tG g,es'.map D.int)/\(∀y∈es',Sx y)/\Gq (lim k0) g:=λes h=>by
     obtain⟨T,es',e,h1,_,_,h2,_⟩:=IH es (dd-1) [] (by omega) (by omega) (by omega) h λz=>absurd rfl z;rw[hk0] at h2;obtain⟨g,rfl,hg⟩:=h2 rfl;exact⟨g,es',e,h1,hg⟩
    obtain⟨many,hm⟩:∃many:Nat,1+x/6%3=(many:Int):=⟨(1+x/6%3).toNat,by omega⟩;obtain⟨gs,es2,s6,s7,eL,hl,hg,hs2⟩:=Nf (x:=x) (many:=many) (by omega) (by omega) hM (cm t1 hM) e0 hs1 ih;have hm2:decide (2<x%6)=!decide (x%6<3):=by
     by_cases z:x%6<3
     ·rw[decide_eq_true z,decide_eq_false<|by omega];rfl
     ·rw[decide_eq_false z,decide_eq_true<|by omega];rfl
    have sd:∃sd:Int,(sd=1\/sd=2)/\1+x/3%2=sd:=⟨_,by omega,rfl⟩;obtain⟨sd,hsd,esd⟩:=sd;obtain⟨W,hW⟩:∃W,W=(ld (decide<|2<x%6) 0++32::T0)::(lws (decide<|2<x%6) 1 gs).map tT:=⟨_,rfl⟩;rw[← hW] at eL;have wl:∀w∈W,w.length<=4+lim k0/\∀c∈w,c<128:=λw hw=>by
     rw[hW] at hw;rcases ag.mp hw with rfl|hw
     ·have:=uL (decide<|2<x%6) 0
      refine⟨by simp;omega,λc hc=>?_⟩;simp only[bE,ag] at hc;rcases hc with hc|rfl|hc
      ·have:=oN (decide<|2<x%6) (i:=0) (by decide) c hc;omega
      ·decide
      ·exact t2 c hc
     ·obtain⟨y,hy',rfl⟩:=kQ.mp hw;obtain⟨k,h1,h2,h3,_,h5⟩:=sZ _ gs 1 y hy'
      have:=uL (decide<|2<x%6) k
      have:=(hg _ h5).len
      refine⟨by simp[tT,h3];omega,λc hc=>?_⟩;simp only[tT,h3,bE,ag] at hc;rcases hc with hc|rfl|hc
      ·have:=oN (decide<|2<x%6) (i:=k) (by omega) c hc;omega
      ·decide
      ·exact(hg _ h5).sg c hc
    have wn:W.length<=3:=by rw[hW];simp[oh];omega
    have jlen:=zJ (λw hw=>(wl w hw).1) wn;have ej:jc (.str<|ae ", ") [.lst<|W.map sD]=some (.str<|tx<|jl [44,32] W):=by
     have:=Qk (s:=[44,32]) (l:=W) (by
      have h2:oF W<=(jl [44,32] W).length:=Gz [44,32] W
      simp;omega)
     rw[Q9];exact this
    have all:∀nm:List Nat,Nam nm->∃T,T=hT (hoM (decide<|2<x%6) sd) nm++40::(jl [44,32] W++[41])/\T.length<=lim dd.toNat/\(∀c∈T,c<128)/\(part=[]->∃g,T=tG g/\Gq (lim dd.toNat) g)/\(part≠[]->Bad T):=λnm hn=>by
     refine⟨_,rfl,?_,λc hc=>?_,λz=>?_,λz=>?_⟩
     ·rw[ek]
      have:=Ja (ho:=hoM (decide<|2<x%6) sd) hn.hi
      show _<=17+3*(6+lim k0);simp only[aw,bX,lx];omega
     ·simp only[bE,ag,cp,or_false] at hc;rcases hc with hc|rfl|hc|rfl
      ·have:=(zr (ho:=hoM (decide<|2<x%6) sd) hn.sg c hc).1;unfold Al at this;omega
      ·decide
      ·rcases BL hc with z|⟨w,hw,z⟩
       ·simp at z;omega
       ·exact(wl w hw).2 c z
      ·decide
     ·obtain⟨g0,rfl,hg0⟩:=t3 z;obtain⟨g,eg,hg'⟩:=node (m:=decide<|2<x%6) (gs:=g0::gs) hsd hn (by simp) (by simp;omega) (M:=lim k0) λg hg1=>by
       rcases ag.mp hg1 with rfl|w
       ·exact hg0
       ·exact hg g w
      refine⟨g,?_,by rw[ek];exact hg'⟩;rw[eg,hW];rfl
     ·rw[hW];exact Kc hsd hn (t4 z) λw hw=>by
       obtain⟨y,hy',rfl⟩:=kQ.mp hw;obtain⟨k,h1,h2,h3,_,h5⟩:=sZ _ gs 1 y hy';have cb:=(hg _ h5).bal hM;have c3:=jZ (k:=40) (l:=ld (decide<|2<x%6) k) λx' hx'=>by have:=oN _ (i:=k) (by omega) x' hx';omega
       have c4:=jZ (k:=41) (l:=ld (decide<|2<x%6) k) λx' hx'=>by have:=oN _ (i:=k) (by omega) x' hx';omega
       simp[tT,h3,eM,h8,c3,c4,cb]
    have lj:(jl [44,32] W).length<=400000:=by omega
    rw[em];have c2':¬ys.map D.int=[]:=λz=>c2<|List.map_eq_nil_iff.mp z;by_cases c4:x%6<3
    ·obtain⟨nm,en,hn⟩:=yR (x:=x/2) (by omega) (by omega);obtain⟨T,eT,r1,r2,r3,r4⟩:=all nm hn;refine⟨T,es2,?_,hs2,r1,r2,r3,r4⟩;have a1:aY (.str<|ae "deal ") (.str<|tx nm)=some (.str<|tx<|dlT++nm):=by rw[Sq];exact cU (by have:=hn.hi;simp;omega)
     have a2:aY (.str<|tx<|dlT++nm) (.str<|ae "(")=some (.str<|tx<|dlT++nm++[40]):=by rw[s_o];exact cU (by have:=hn.hi;simp;omega)
     have a3:aY (.str<|tx<|dlT++nm++[40]) (.str<|tx<|jl [44,32] W)=some (.str<|tx<|dlT++nm++[40]++jl [44,32] W):=cU (by have:=hn.hi;simp;omega);have a4:aY (.str<|tx<|dlT++nm++[40]++jl [44,32] W) (.str<|ae ")")=some (.str<|tx T):=by rw[s_c,cU (by have:=hn.hi;simp;omega),eT,hm2,decide_eq_true c4];simp[hT,hoM]
     exact Le c1 c2' c3 c4 hm eL en ej a1 a2 a3 a4
    ·obtain⟨nm,en,hn⟩:=yR (x:=x/5) (by omega) (by omega);obtain⟨T,eT,r1,r2,r3,r4⟩:=all nm hn;refine⟨T,es2,?_,hs2,r1,r2,r3,r4⟩;have gsd:=RQ hsd;have ls:(sdS sd).length=1:=by unfold sdS;split<;>rfl
     have a1:aY (.str<|ae "move ") (.str<|tx<|sdS sd)=some (.str<|tx<|mvT++sdS sd):=by rw[RM];exact cU (by simp;omega)
     have a2:aY (.str<|tx<|mvT++sdS sd) (.str<|ae " ")=some (.str<|tx<|mvT++sdS sd++[32]):=by rw[Qd];exact cU (by simp;omega)
     have a3:aY (.str<|tx<|mvT++sdS sd++[32]) (.str<|tx nm)=some (.str<|tx<|mvT++sdS sd++[32]++nm):=cU (by have:=hn.hi;simp;omega);have a4:aY (.str<|tx<|mvT++sdS sd++[32]++nm) (.str<|ae "(")=some (.str<|tx<|mvT++sdS sd++[32]++nm++[40]):=by rw[s_o];exact cU (by have:=hn.hi;simp;omega)
     have a5:aY (.str<|tx<|mvT++sdS sd++[32]++nm++[40]) (.str<|tx<|jl [44,32] W)=some (.str<|tx<|mvT++sdS sd++[32]++nm++[40]++jl [44,32] W):=cU (by have:=hn.hi;simp;omega);have a6:aY (.str<|tx<|mvT++sdS sd++[32]++nm++[40]++jl [44,32] W) (.str<|ae ")")=some (.str<|tx T):=by rw[s_c,cU (by have:=hn.hi;simp;omega),eT,hm2,decide_eq_false c4];simp[hT,hoM]
     exact JF c1 c2' c3 c4 hm esd eL en ej gsd a1 a2 a3 a4 a5 a6
theorem uR:∀n:Nat,GP (cL n) n
 |0=>λ_ dd _ h0 h1=>absurd h1<|by omega
 |n+1=>Ca<|uR n
open L2 (atI ixN Key)
theorem Gj {Φ:Zf}{hd:Str}{c:List Nat}{d d':D}(h:Led Φ hd c d)(h':Led Φ hd c d'):d=d':=by
 unfold Led at h h';split at h
 ·rename_i z;rw[if_pos z] at h';obtain⟨f,e⟩:=h;obtain⟨f',e'⟩:=h';rw[e] at e';cases e';rfl
 ·rename_i z;rw[if_neg z] at h';rw[h,h']
section
variable {Φ Ψ:Zf}
mutual
theorem uG:∀(g g':Gt) (b b':List Nat),okG Φ Ψ g->okG Φ Ψ g'->SH b->SH b'->tG g++b=tG g'++b'->dGt g=dGt g'/\b=b'
 | .fin c d,.fin c' d',b,b',h,h',hb,hb',e=>by
  simp only[okG] at h h';simp only[tG,enT,br,ef,cE,true_and] at e;obtain⟨e1,e2⟩:=mj h.1 h'.1 hb hb' e;obtain⟨_,f,q⟩:=h;obtain⟨_,f',q'⟩:=h';rw[e1,q'] at q;cases q;exact⟨rfl,e2⟩
 | .fin c d,.nd ho n ws,b,b',h,h',hb,hb',e=>by cases ho<;>simp[tG,enT,hT] at e
 | .nd ho n ws,.fin c d,b,b',h,h',hb,hb',e=>by cases ho<;>simp[tG,enT,hT] at e
 | .nd ho n ws,.nd ho' n' ws',b,b',h,h',hb,hb',e=>by
  simp only[okG] at h h';simp only[tG,aE,br,ef] at e;obtain⟨rfl,rfl,ex⟩:=Ab h.1 h'.1 h.2.1 h'.2.1 e;obtain⟨e1,e2⟩:=uW ho ws ws' b b' h.2.2.1 h'.2.2.1 ex;exact⟨by simp only[dGt,e1],e2⟩
theorem uW:∀(ho:Option Int) (ws ws':Wt) (b b':List Nat),okW Φ Ψ ho ws->okW Φ Ψ ho ws'->tW ws++41::b=tW ws'++41::b'->dWt ws=dWt ws'/\b=b'
 |ho,.one c d g,.one c' d' g',b,b',h,h',e=>by
  simp only[okW] at h h';simp only[tW,aE,br] at e;obtain⟨rfl,ex⟩:=mj h.1 h'.1 (jP vI) (jP vI) e;simp only[cE,true_and] at ex;obtain⟨e1,e2⟩:=uG g g' (41::b) (41::b') h.2.2 h'.2.2 (jP Ot) (jP Ot) ex;cases e2
  have:=Gj h.2.1 h'.2.1
  exact⟨by simp only[dWt,e1,this],rfl⟩
 |ho,.one c d g,.more c' d' g' r',b,b',h,h',e=>by
  simp only[okW] at h h';simp only[tW,aE,br] at e;obtain⟨rfl,ex⟩:=mj h.1 h'.1 (jP vI) (jP vI) e;simp only[cE,true_and] at ex;obtain⟨e1,e2⟩:=uG g g' (41::b) _ h.2.2 h'.2.2.1 (jP Ot) (jP Qu) ex;cases e2
 |ho,.more c d g r,.one c' d' g',b,b',h,h',e=>by
  simp only[okW] at h h';simp only[tW,aE,br] at e;obtain⟨rfl,ex⟩:=mj h.1 h'.1 (jP vI) (jP vI) e;simp only[cE,true_and] at ex;obtain⟨e1,e2⟩:=uG g g' _ (41::b') h.2.2.1 h'.2.2 (jP Qu) (jP Ot) ex;cases e2
 |ho,.more c d g r,.more c' d' g' r',b,b',h,h',e=>by
  simp only[okW] at h h';simp only[tW,aE,br] at e;obtain⟨rfl,ex⟩:=mj h.1 h'.1 (jP vI) (jP vI) e;simp only[cE,true_and] at ex;obtain⟨e1,e2⟩:=uG g g' _ _ h.2.2.1 h'.2.2.1 (jP Qu) (jP Qu) ex;simp only[cE,true_and] at e2;obtain⟨e3,e4⟩:=uW ho r r' b b' h.2.2.2 h'.2.2.2 e2
  have:=Gj h.2.1 h'.2.1
  exact⟨by simp only[dWt,e1,this,e3],e4⟩
end
end
theorem Wk {w:List Nat}{i:Int}(h0:0<=i)(h1:i<=w.length)(hw:w.length<=100000):gSl (.str<|tx w) none (some i)=some (.str<|tx<|w.take i.toNat):=by
 show(if(tx w).length<=be then some (D.str<|h7 (tx w) none<|some i) else none)=_;rw[if_pos (by rw[aW,szl];omega)]
 have:=StrLaws.sliceText_to (x:=tx w) (j:=i) ⟨h0,by rw[cg];exact h1⟩
 rw[show h7 (tx w) none (some i)=vw (tx w) none (some i) from rfl,this];simp[tx]
theorem LC {w:List Nat}{i:Int}(h0:0<=i)(h1:i<=w.length):h7 (tx w) (some i) none=tx (w.drop i.toNat):=by
 have:=qB (x:=tx w) (i:=i) ⟨h0,by rw[cg];exact h1⟩
 rw[show h7 (tx w) (some i) none=vw (tx w) (some i) none from rfl,this];refine wu ?_;rw[cg];show((w.drop i.toNat).take _)=_;exact lP (by rw[iq];omega)
theorem Og {w:List Nat}{i:Int}(h0:0<=i)(h1:i<=w.length)(hw:w.length<=100000):gSl (.str<|tx w) (some i) none=some (.str<|tx<|w.drop i.toNat):=by
 show(if(tx w).length<=be then some (D.str<|h7 (tx w) (some i) none) else none)=_;rw[if_pos (by rw[aW,szl];omega),LC h0 h1]
abbrev sgs:List Nat:=[65,90,95,46,43,35,126,33,58,59,61]
inductive Sp7 (T:List Nat):List Nat->Prop where
 |b (s:List Nat) (h:s=[32]\/s=[41]\/s=[44,32]):Sp7 T (T++s)
 |a:Sp7 T (32::T)
 |i (n c:Nat) (h:c=40\/c=41\/c∈sgs):Sp7 T (T.take n++c::T.drop n)
theorem UG {T z:List Nat}(h:Sp7 T z){g:Gt}{M:Nat}(hM:M<=99000)(hg:Gq M g)(eT:T=tG g):(z.length<=100000/\∀x∈z,x<128)/\¬ ∃g',okG bu bJ g'/\tG g'=z:=by
 have l1:=hg.len;have l2:=hg.sg;rw[← eT] at l1 l2;have td:∀n,(T.take n).length+(T.drop n).length=T.length:=λn=>by rw[ip,iq];omega
 have bz:z.length<=100000/\∀x∈z,x<128:=by
  cases h with
  |b s h=>rcases h with rfl|rfl|rfl<;>(refine⟨by simp;omega,λx hx=>?_⟩;simp at hx;rcases hx with hx|hx)<;>first|exact l2 x hx|omega
  |a=>exact⟨by simp;omega,λx hx=>by rcases ag.mp hx with rfl|w;decide;exact l2 x w⟩
  |i n c h=>
   have:=td n
   refine⟨by rw[aw,bX];omega,λx hx=>?_⟩;rcases bE.mp hx with w|w
   ·exact l2 x<|sN w
   ·rcases ag.mp w with rfl|w
    ·rcases h with rfl|rfl|h
     ·decide
     ·decide
     ·simp only[sgs,ag,cp,or_false] at h;omega
    ·exact l2 x<|sP w
 refine⟨bz,λ⟨g',ok',e⟩=>?_⟩;have pg:=vR hg.ok (by have:=hg.len;omega) hg.sg;have pg':=vR ok' (by rw[e];exact bz.1) (by rw[e];exact bz.2);obtain⟨al,bal⟩:=Hn pg;obtain⟨al',bal'⟩:=Hn pg';rw[← eT] at al bal;rw[e] at al' bal';cases h with
 |b s h=>
  have hb:SH s:=by rcases h with rfl|rfl|rfl<;>exact λx e=>by cases e;decide
  have:=(uG g g' s [] hg.ok ok' hb (λx z=>by cases z) (by rw[← eT,e];simp)).2
  rcases h with rfl|rfl|rfl<;>cases this
 |a=>
  cases g' with
  |fin c d=>simp[tG,enT] at e
  |nd ho n ws=>cases ho<;>simp[tG,hT,dlT,mvT] at e
 |i n c h=>
  have ct:∀k,(T.take n).count k+(T.drop n).count k=T.count k:=λk=>by rw[← eM,rX]
  have c0:=ct 40;have c1:=ct 41;rcases h with rfl|rfl|h
  ·simp[eM,h8] at bal';omega
  ·simp[eM,h8] at bal';omega
  ·have:=al' c (by simp)
   unfold Al at this;simp only[sgs,ag,cp,or_false] at h;omega
theorem MF:ae "AZ_.+#~!:;=" = tx sgs:=by decide +kernel
theorem TJ {i:Int}(h0:0<=i)(h1:i<11):∃c∈sgs,gIx (.str<|ae "AZ_.+#~!:;=") (.int i)=some (.str<|tx [c]):=by
 obtain⟨y,e,c,hc,rfl⟩:=Dj (z:=ae "AZ_.+#~!:;=") (i:=i) (P:=λc=>c∈sgs) (by rw[MF,aW];decide) (by rw[MF,cg];exact λc h=>h) h0 (by rw[MF,cg];simpa using h1);exact⟨c,hc,e⟩
theorem zb {P S K R A B C E1 E2 F1 F2 Dd G1 G2:Str}{x n:Int}{r:D}(hl:cT [.str P]=some (.int n))(hp:0<n)(nq:Bq n)(hs:gIx (.str<|ae "AZ_.+#~!:;=") (.int<|x/7/n%11)=some (.str S))
  (t1:gSl (.str P) none (some<|x/7%n)=some (.str K)) (t2:gSl (.str P) (some<|x/7%n) none=some (.str R)) (p1:aY (.str P) (.str<|ae " ")=some (.str A)) (p2:aY (.str<|ae " ") (.str P)=some (.str B)) (p3:aY (.str P) (.str<|ae ")")=some (.str C))
  (p4:aY (.str K) (.str<|ae "(")=some (.str E1)) (p5:aY (.str E1) (.str R)=some (.str E2)) (p6:aY (.str K) (.str S)=some (.str F1)) (p7:aY (.str F1) (.str R)=some (.str F2)) (p8:aY (.str P) (.str<|ae ", ")=some (.str Dd))
  (p9:aY (.str K) (.str<|ae ")")=some (.str G1)) (p10:aY (.str G1) (.str R)=some (.str G2)) (hr:gIx (.lst [.str A,.str B,.str C,.str E2,.str F2,.str Dd,.str G2]) (.int<|x%7)=some r):cN [.str P,.int x]=.ok (false,r):=by
 have b7:Bq 7:=dD (by decide) (by decide);have nz:n≠0:=by omega
 have la:aY (.lst [.str A,.str B,.str C,.str E2,.str F2,.str Dd]) (.lst [.str G2])=some (.lst [.str A,.str B,.str C,.str E2,.str F2,.str Dd,.str G2]):=rfl;simp[cN,bY,jC,jG,bj,bM,aF,aj,fC,iz,dvI,b7,aU,aa,aG,hl,dG,mdI,hp,nz,nq,hs,dq,p1,p2,p3,fSl,fO0,fO1,t1,t2,p4,p5,p6,p7,p8,p9,p10,bH,Me.let,Sl.let,la,hr]
theorem Bw {T:List Nat}{x:Int}(h1:1<=T.length)(h2:T.length<=99000)(h0:0<=x):∃z,Sp7 T z/\cN [.str<|tx T,.int x]=.ok (false,.str<|tx z):=by
 have n1:(0:Int)<(T.length:Int):=by omega
 have a0:=gy (x/7) (show(T.length:Int)≠0 by omega);have a1:=fR (x/7) n1;have hd0:0<=x/7/(T.length:Int):=Int.ediv_nonneg (by omega) (by omega);obtain⟨c,hc,hs⟩:=TJ (i:=x/7/(T.length:Int)%11) (by omega) (by omega);obtain⟨k,hk⟩:∃k,(x/7%(T.length:Int)).toNat=k:=⟨_,rfl⟩;have t1:=Wk (w:=T) (i:=x/7%(T.length:Int)) a0 (by omega) (by omega);have t2:=Og (w:=T) (i:=x/7%(T.length:Int)) a0 (by omega) (by omega);rw[hk] at t1 t2;have lk:(T.take k).length<=T.length:=by rw[ip];omega
 have lr:(T.drop k).length<=T.length:=by rw[iq];omega
 have zs:∀z∈[T++[32],[32]++T,T++[41],T.take k++[40]++T.drop k,T.take k++[c]++T.drop k,T++[44,32],T.take k++[41]++T.drop k],Sp7 T z:=λz hz=>by
  simp only[ag,cp,or_false] at hz;rcases hz with rfl|rfl|rfl|rfl|rfl|rfl|rfl
  ·exact .b _<|.inl rfl
  ·exact .a
  ·exact .b _<|.inr<|.inl rfl
  ·rw[aE];exact .i k 40<|.inl rfl
  ·rw[aE];exact .i k c<|.inr<|.inr hc
  ·exact .b _<|.inr<|.inr rfl
  ·rw[aE];exact .i k 41<|.inr<|.inl rfl
 obtain⟨d,hd,e⟩:=BZ (ds:=[T++[32],[32]++T,T++[41],T.take k++[40]++T.drop k,T.take k++[c]++T.drop k,T++[44,32],T.take k++[41]++T.drop k].map sD) (i:=x%7) (by omega) (by simp;omega);obtain⟨z,hz,rfl⟩:=kQ.mp hd;refine⟨z,zs z hz,zb (n:=(T.length:Int)) ?_ n1 (dD (by omega)<|by omega) hs t1 t2 (by rw[Qd];exact cU (by simp;omega)) (by rw[Qd];exact cU (by simp;omega)) (by rw[s_c];exact cU (by simp;omega)) (by rw[s_o];exact cU (by simp;omega)) (cU (by simp;omega)) (cU (by simp;omega)) (cU (by simp;omega)) (by rw[Q9];exact cU (by simp;omega)) (by rw[s_c];exact cU (by simp;omega)) (cU (by simp;omega)) e⟩
 have:T.length<=16777216:=by omega
 simp[cT,aW,this]
open L2 (atI ixN Key)
theorem z7 (z:Str):jN [.str z]=open Classical in if Qh z then(if h:∃g,Rdb bu bJ [.str z] g then .ok (false,dGt h.choose) else .exc nT) else .stuck:=rfl
theorem La {g:Gt}{M:Nat}(hg:Gq M g)(hM:M<=100000):∃g',jN [.str<|tx<|tG g]=.ok (false,dGt g'):=by
 have ex:∃g',Rdb bu bJ [.str<|tx<|tG g] g':=⟨g,rfl,hg.ok⟩;rw[z7,if_pos ⟨tG g,rfl,cm hg.len hM,hg.sg⟩,dif_pos ex];exact⟨_,rfl⟩
theorem vU {z:List Nat}(h:z.length<=100000/\∀x∈z,x<128)(n:¬ ∃g',okG bu bJ g'/\tG g'=z):jN [.str<|tx z]=.exc nT:=by
 rw[z7,if_pos ⟨z,rfl,h.1,h.2⟩,dif_neg];rintro⟨g,e,o⟩;simp only[cE,D.str.injEq,and_true,pH] at e;exact n ⟨g,o,e.symm⟩
theorem Jc {T:List Nat}(h:Bad T)(b:T.length<=100000/\∀x∈T,x<128):jN [.str<|tx T]=.exc nT:=vU b λ⟨g,ok,e⟩=>by
 have pg:=vR ok (by rw[e];exact b.1) (by rw[e];exact b.2);rcases h with h|h
 ·exact h g [] [] pg (λ_ z=>by cases z) (λ_ z=>by cases z) (by rw[e])
 ·have:=(Hn pg).2
  rw[e] at this;omega
theorem Im {d:D}(h:cH d≠""/\cH d≠"str"):jN [d]=.exc nT:=by
 have odd:(∀z,d≠.str z)->jN [d]=if cH d = "" then .stuck else .exc nT:=λn=>by
  cases d<;>first|rfl|exact absurd rfl (n _)
 rw[odd λz e=>h.2 (by rw[e];rfl),if_neg h.1]
theorem S7 (g:Gt):cH (dGt g) = "tuple":=by
 cases g with
 |fin _ _=>rfl
 |nd ho _ _=>cases ho<;>rfl
theorem zj {φ:Zf}{d:D}(e:φ [d]=.exc nT):bY 3 1 (gr φ) [d]=.ok (false,.bl true):=by
 have q:gEq (.lst [.bl true,.bl true,.bl false,.bl false,.bl false,.bl false,.bl false,.bl false]) (.lst [.bl true,.bl true,.bl false,.bl false,.bl false,.bl false,.bl false,.bl false])=some true:=by kernel_rfl
 have la:aY (.lst [.bl true,.bl true,.bl false,.bl false]) (.lst [.bl false,.bl false,.bl false,.bl false])=some (.lst [.bl true,.bl true,.bl false,.bl false,.bl false,.bl false,.bl false,.bl false]):=rfl;simp[bY,gr,bj,bM,dq,aa,aG,Ln,yw,bW,e,eE,xO,Fx,aj,jJ,eV,gH,jE,lu,jO,gO,gA,aF,la,bH,Me.let,Sl.let,gQ,q,fC]
theorem lG {d:D}(e:jN [d]=.exc nT):bG [d]=.ok (false,.bl true):=zj e
theorem LQ {ns0 s4 s5:Sl}{L:List D}{L':List D}{P B S Q:Str}{c x:Int}{th:D}(hx:mdI (mdI c 1000000007*48271) 1000003=x)(bc:Bg (mdI c 1000000007))(b3:Bq 3)(hx3:dvI x 3=dvI x 3)
  (e1:cM [.int<|dvI x 3]=.ok (false,.str S)) (e2:cL 30 L [.int 4,.str S]=.ok (.str B,L')) (r1:bG [.str B]=.ok (false,.bl true)) (e3:cN [.str P,.int x]=.ok (false,.str Q)) (r2:bG [.str Q]=.ok (false,.bl true))
  (e4:∃S2,cM [.int x]=.ok (false,.str S2)/\bG [.str S2]=.ok (false,.bl true)) (e5:gIx (.lst [.non,.int 5,.bl true,.lst [.str P],.tup [.str P],.dct [] [],.tup [.str "end",.tup [.int 1,.int 1]],.lst [.str "end 1"]]) (.int<|mdI x 8)=some th) (r3:bG [th]=.ok (false,.bl true)):
  pR [ns0,.fz<|.lst L,.fz<|.str P,.fz<|.int c,s4,s5]=.ok (.nx,[ns0,.fz<|.lst L,.fz<|.str P,.fz<|.int c,.fz<|.int x,.fz<|.str B]):=by
 obtain⟨S2,e4,r4⟩:=e4;unfold pR;generalize cL 30=G at *;generalize cM=N at *;generalize bG=R at *;generalize cN=SP at *;have gm:uZ (.int<|mdI c 1000000007) (.int 48271)=some (.int<|mdI c 1000000007*48271):=if_pos<|.inr (by decide);have g1:dG (.int c) (.int 1000000007)=some (.int<|mdI c 1000000007):=rfl;have g2:dG (.int<|mdI c 1000000007*48271) (.int 1000003)=some (.int x):=by rw[← hx];rfl
 have g3:iz (.int x) (.int 3)=some (.int<|dvI x 3):=by simp[iz,b3]
 have g4:dG (.int x) (.int 8)=some (.int<|mdI x 8):=rfl;simp[bj,bM,aF,aj,fC,gm,g1,g2,K8,aU,yM,aa,aG,fFn,g3,e1,e2,gIf,dN,cz,fTv,bW,r1,e3,r2,e4,r4,gNx,dq,rW,KC,g4,e5,r3]
theorem Kq {P:Str}{x:Int}:∃th,gIx (.lst [.non,.int 5,.bl true,.lst [.str P],.tup [.str P],.dct [] [],.tup [.str "end",.tup [.int 1,.int 1]],.lst [.str "end 1"]]) (.int<|mdI x 8)=some th/\cH th≠""/\cH th≠"str":=by
 have e:mdI x 8=x%8:=rfl;obtain⟨d,hd,h⟩:=BZ (ds:=[.non,.int 5,.bl true,.lst [.str P],.tup [.str P],.dct [] [],.tup [.str "end",.tup [.int 1,.int 1]],.lst [.str "end 1"]]) (i:=x%8) (by omega) (by simp;omega);rw[e];refine⟨d,h,?_⟩;simp only[ag,cp,or_false] at hd;rcases hd with rfl|rfl|rfl|rfl|rfl|rfl|rfl|rfl<;>simp[cH]
theorem Qa {ns0 s4 s5:Sl}{xs:List Int}{g:Gt}{c:Int}(hx:∀x∈xs,Sx x)(hg:Gq (lim 4) g):∃s4' s5',pR [ns0,.fz<|.lst<|xs.map D.int,.fz<|.str<|tx<|tG g,.fz<|.int c,s4,s5]=.ok (.nx,[ns0,.fz<|.lst<|xs.map D.int,.fz<|.str<|tx<|tG g,.fz<|.int c,s4',s5']):=by
 have l4:lim 4=82400:=by decide
 obtain⟨x,ex⟩:∃x,mdI (mdI c 1000000007*48271) 1000003=x:=⟨_,rfl⟩;have x0:0<=x:=by rw[← ex];exact gy _<|by decide
 have m0:=gy c (show(1000000007:Int)≠0 by decide);have m1:=fR c (show(0:Int)<1000000007 by decide);have bc:Bg (mdI c 1000000007):=fP (by show _<=c%1000000007;omega) (by show c%1000000007<=_;omega);have refp:∀p:List Nat,Bad p->p.length<=1000->(∀c∈p,c<128)->bG [.str<|tx p]=.ok (false,.bl true):=λp h1 h2 h3=>lG<|Jc h1 ⟨by omega,h3⟩;obtain⟨p,e1,p1,p2,p3,p4⟩:=Ek<|dvI x 3;obtain⟨T2,es',e2,_,t1,t2,_,t4⟩:=uR 30 xs 4 p (by decide) (by decide) (by decide) hx λ_=>⟨p1,p3,p4⟩;have t1:T2.length<=82400:=by rw[← l4];exact t1
 have r1:=lG<|Jc (t4 (λz=>by rw[z] at p2;simp at p2)) ⟨by omega,t2⟩;have gl:=hg.len;have g1:1<=(tG g).length:=by
  cases g with
  |fin _ _=>simp[tG]
  |nd _ _ _=>simp[tG];omega
 obtain⟨z,hz,e3⟩:=Bw (T:=tG g) (x:=x) g1 (by omega) x0;obtain⟨b1,b2⟩:=UG hz (M:=lim 4) (by omega) hg rfl;have r2:=lG<|vU b1 b2;obtain⟨p',e4,q1,q2,q3,q4⟩:=Ek x;obtain⟨th,e5,k⟩:=Kq (P:=tx<|tG g) (x:=x);exact⟨_,_,LQ ex bc (dD (by decide)<|by decide) rfl e1 e2 r1 e3 r2 ⟨_,e4,refp p' q1 q3 q4⟩ e5<|lG<|Im k⟩
theorem yJ {ns0:Sl}{xs:List Int}{g:Gt}(hx:∀x∈xs,Sx x)(hg:Gq (lim 4) g):∀(ds:List D) (s3 s4 s5:Sl),(∀d∈ds,∃c,d=D.int c)->∃s3' s4' s5',iZ (hName 3) pR ds [ns0,.fz<|.lst<|xs.map D.int,.fz<|.str<|tx<|tG g,s3,s4,s5]=.ok (.nx,[ns0,.fz<|.lst<|xs.map D.int,.fz<|.str<|tx<|tG g,s3',s4',s5'])
 |[],s3,s4,s5,_=>⟨s3,s4,s5,rfl⟩
 |d::ds,s3,s4,s5,h=>by
  obtain⟨c,rfl⟩:=h d a8;obtain⟨t4,t5,eb⟩:=Qa (ns0:=ns0) (s4:=s4) (s5:=s5) (c:=c) hx hg;obtain⟨s3',s4',s5',e⟩:=yJ (ns0:=ns0) hx hg ds (.fz<|.int c) t4 t5 λy hy=>h y<|ax _ hy;refine⟨s3',s4',s5',?_⟩;unfold iZ;have eh:hName 3 (D.int c) [ns0,.fz<|.lst<|xs.map D.int,.fz<|.str<|tx<|tG g,s3,s4,s5]=some [ns0,.fz<|.lst<|xs.map D.int,.fz<|.str<|tx<|tG g,.fz<|.int c,s4,s5]:=rfl;rw[eh];simp only[eb];exact e
theorem QH {α:Type}{xs:List α}{lo hi:Option Int}{d:α}(h:d∈cut xs lo hi):d∈xs:=by
 unfold cut at h;exact sP<|sN h
theorem T4 {α:Type}{xs:List α}{lo hi:Option Int}:(cut xs lo hi).length<=xs.length:=by
 unfold cut;rw[ip,iq];omega
theorem O1 {R N:Zf}{G:List D->List D->Res (D×List D)}{LL:Zg}{A d:D}{L L':List D}{P:Str}{s3 s4 s5:Sl}(e1:N [A]=.ok (true,.lst L))(e2:G L [.int 4,.str<|ae ""]=.ok (.str P,L'))(e3:R [.str P]=.ok (false,d))(k:cH d = "tuple")
  (eL:LL [.fz A,.fz<|.lst L,.fz<|.str P,.un,.un,.un]=.ok (.nx,[.fz A,.fz<|.lst L,.fz<|.str P,s3,s4,s5])):bY 6 1 (Ed R N G LL) [A]=.ok (false,.bl true):=by
 have ki:∀t,gn "tuple" (fFn R<|aa (bW 2) aG) (.fz A::.fz (.lst L)::.fz (.str P)::t)=.ok (.bl true):=λt=>by
  simp[gn,fFn,aa,aG,bW,e3,k,qK]
 unfold Ed;generalize gn "tuple" (fFn R<|aa (bW 2) aG)=FI at *;simp[bY,bj,bM,fFn,aa,aG,bW,e1,K8,aU,yM,aj,fC,e2,gIf,cz,fTv,ki,gNx,eL,bH,Me.let,Sl.let]
theorem M6 (ns:List Int)(hn:ns.length<=63):∃fr,Rb [.lst<|ns.map D.int]=.ok (fr,.bl true):=by
 have l4:lim 4=82400:=by decide
 obtain⟨xs,en,hx⟩:=Cy ns;obtain⟨T,es',e2,_,_,_,t3,_⟩:=uR 30 xs 4 [] (by decide) (by decide) (by decide) hx λz=>absurd rfl z;obtain⟨g,rfl,hg⟩:=t3 rfl;have hg:Gq (lim 4) g:=hg;obtain⟨g',e3⟩:=La hg (by omega);rw[← BR] at e2;have hc:=T4 (xs:=ns.map D.int) (lo:=some 12) (hi:=some 24);rw[fA] at hc;obtain⟨s3,s4,s5,eL⟩:=yJ (ns0:=.fz<|.lst<|ns.map D.int) hx hg (cut (ns.map D.int) (some 12) (some 24)++[.int ns.length]) .un .un .un λd hd=>by
  rcases bE.mp hd with w|w
  ·obtain⟨c,_,rfl⟩:=kQ.mp<|QH w;exact⟨c,rfl⟩
  ·rw[cx.mp w];exact⟨_,rfl⟩
 have ei:Cj (aF aY (fSl (aj 0) (fO1<|fC<|.int 12)<|fO1<|fC<|.int 24)<|dq<|aa (aU cT<|aa (aj 0) aG) aG) [.fz<|.lst<|ns.map D.int,.fz<|.lst<|xs.map D.int,.fz<|.str<|tx<|tG g,.un,.un,.un]=.ok (cut (ns.map D.int) (some 12) (some 24)++[.int ns.length]):=by
  generalize hC:cut (ns.map D.int) (some 12) (some 24)=C at *;have la:aY (.lst C) (.lst [.int ns.length])=some (.lst<|C++[.int ns.length]):=by
   have z:C.length+1<=16777216:=by omega
   simp[aY,z]
  have gl:cT [.lst<|ns.map D.int]=some (.int ns.length):=by simp[cT]
  generalize ns.map D.int=NS at *;simp[Cj,aF,fSl,aj,fO1,fC,gSl,hC,dq,aa,aG,aU,gl,la]
 refine⟨false,O1 en e2 e3 (S7 g') (s3:=s3) (s4:=s4) (s5:=s5) ?_⟩;unfold DY yj;rw[ei];exact eL
open PySem L2 Hd F Pk Lw
variable {P:bg}{w:cw}{K:av}{mg:Zs}{base:Heap}{f:Addr}{fd:dQ}
theorem zU(B:Bt mg)(Fu:Fun K "is_whole" "is_whole" o6 f fd)  :
  bR P w K mg base (CX1 P w) 1 f fd ["thing"] (spF ⟨K,mg⟩ fY):=
 cQ Fu Cr λcdv A outer s H E hr=>by
 have hu:=hr.units;unfold uB tQ;exact(bh<|bO<|kj (jy (x:="") (aq 0) rfl B.isinstance aZ rfl B.int pJ)<|lK<|RN<|jy (x:="") (aq 0) rfl B.isinstance aZ rfl B.bool Np)
theorem qw(B:Bt mg)(Fu:Fun K "common_divisor" "common_divisor" iB f fd)  :
  bR P w K mg base (CX1 P w) 1 f fd ["first", "second"] (spF ⟨K,mg⟩ cJ):=
 cQ Fu cZ λcdv A outer s H E hr=>by
 have hu:=hr.units;unfold ik ie;exact(aO (cB (i:=2) cZ.nd rfl (af rfl)<|bQ vP rfl B.abs Iu<|aR (aq 0) aX)
  (aO (cB (i:=3) cZ.nd rfl (af rfl)<|bQ vP rfl B.abs Iu<|aR (aq 1) aX)
  (aO (JZ hG (eG (ue hu) (aq 3) (ak aH)<|cC _)
  (aO (cB (i:=4) cZ.nd rfl (af rfl)<|aQ dm (aq 2)<|aq 3)
  (aO (cB (i:=2) cZ.nd rfl (af rfl)<|bV 3)
  (bh<|cB (i:=3) cZ.nd rfl (af rfl)<|bV 4))))
  (bh<|bO<|bV 2))))
theorem HJ(B:Bt mg)(Fu:Fun K "lowest" "lowest" tR f fd)(Gcommon_divisor:FF P w K mg base 1 "common_divisor" ["first", "second"] cJ):
  bR P w K mg base (CX1 P w) 2 f fd ["top", "bottom"] (spF ⟨K,mg⟩ jB):=
 cQ Fu uY λcdv A outer s H E hr=>by
 have hu:=hr.units;unfold pM pW;exact(aO (cB (i:=2) uY.nd rfl (af rfl)<|cW Gcommon_divisor hr aK<|au (bV 0)<|au (bV 1) aN)
  (aO (gk (eG (K1 hu) (aq 1) (ak aH)<|cC _)
  (bh<|cB (i:=2) uY.nd rfl (af rfl)<|Vs xK<|aq 2)
  cP)
  (bh<|bO<|uT<|au (aQ fV (aq 0)<|aq 2)<|au (aQ fV (aq 1)<|aq 2) aN)))
theorem yU(B:Bt mg)(Fu:Fun K "is_ratio" "is_ratio" pF f fd)(Gis_whole:FF P w K mg base 1 "is_whole" ["thing"] fY)(Gcommon_divisor:FF P w K mg base 1 "common_divisor" ["first", "second"] cJ):
  bR P w K mg base (CX1 P w) 2 f fd ["thing"] (spF ⟨K,mg⟩ eY):=
 cQ Fu BJ λcdv A outer s H E hr=>by
 have hu:=hr.units;unfold pD o9;exact(aO (gk (xU<|jF (dX<|dJ<|jy (x:="") (aq 0) rfl B.isinstance aZ rfl B.tuple iQ)<|my<|eG (ue hu) (ak<|bQ cD rfl B.len fO<|aR (aq 0) aX) (ak aH)<|cC _)
  (bh<|bO gM)
  cP)
  (aO (gk (xU<|jF (dX<|dJ<|cW Gis_whole hr aK<|au (cR eO (aq 0) (ak aH) λ_ _=>rfl) aN)<|my<|dX<|dJ<|cW Gis_whole hr aK<|au (cR eO (aq 0) (ak aH) λ_ _=>rfl) aN)
  (bh<|bO gM)
  cP)
  (bh<|bO<|kj (iW Uv (ak<|cR eO (aq 0) (ak aH) λ_ _=>rfl) (ak aH)<|cC _)<|lK<|iW (eN hu) (ak<|cW Gcommon_divisor hr aK<|au (cR eO (aq 0) (ak aH) λ_ _=>rfl)<|au (cR eO (aq 0) (ak aH) λ_ _=>rfl) aN) (ak aH)<|cC _)))
theorem vA(B:Bt mg)(Fu:Fun K "show_ratio" "show_ratio" lR f fd)  :
  bR P w K mg base (CX1 P w) 1 f fd ["first"] (spF ⟨K,mg⟩ fJ):=
 cQ Fu lY λcdv A outer s H E hr=>by
 have hu:=hr.units;unfold jf jo;exact(aO (cB (i:=1) lY.nd rfl (af rfl)<|dC jw rfl B.str jM<|aR (ak<|cR eO (aq 0) (ak aH) λ_ _=>rfl) aX)
  (aO (gk (eG (eN hu) (ak<|cR eO (aq 0) (ak aH) λ_ _=>rfl) (ak aH)<|cC _)
  (bh<|bO<|bV 1)
  cP)
  (aO (cB (i:=2) lY.nd rfl (af rfl)<|dC jw rfl B.str jM<|aR (ak<|cR eO (aq 0) (ak aH) λ_ _=>rfl) aX)
  (bh<|bO<|qZ<|lU (Iv<|aq 1)<|lU aM<|lU (Iv<|aq 2) Bp))))
theorem uc(B:Bt mg)(Cn:CnT K mg)(Fu:Fun K "are_figures" "are_figures" iD f fd)  :
  bR P w K mg base (CX1 P w) 1 f fd ["text"] (spF ⟨K,mg⟩ dZ):=
 cQ Fu vo λcdv A outer s H E hr=>by
 have hu:=hr.units;unfold oG dY;exact(bh<|bO<|kj (uE qC qC (ak aH) (ak<|bQ cD rfl B.len fO<|aR (aq 0) aX)<|ak<|rZ Cn rfl)<|lK<|bQ (km rfl) rfl B.all uf<|aR (ak<|di<|lX (aL iD) ["sign"] [] 1 [] rfl ⟨rfl,by decide +kernel,by decide +kernel,by decide +kernel,by decide +kernel⟩ .nil (pB<|Iw<|bV 0) (λ_ _ _ _ _ _=>(fH (i:=0) (show kB (["sign"]:List Str) by decide) rfl (af rfl))) (λ_ _ _ _ _ _=>iM) (λ_ _ _ _ _ _=>(iW JW (aq 0) (ak<|Ah Cn rfl)<|by with_unfolding_all rfl))) aX)
theorem vz(B:Bt mg)(Ex:ExT K mg)(Xc:XcT K mg)(Fu:Fun K "read_ratio" "read_ratio" lZ f fd)(Glowest:FF P w K mg base 2 "lowest" ["top", "bottom"] jB)(Gshow_ratio:FF P w K mg base 1 "show_ratio" ["first"] fJ)(Gare_figures:FF P w K mg base 1 "are_figures" ["text"] dZ):
  bR P w K mg base (CX1 P w) 3 f fd ["text"] (spF ⟨K,mg⟩ bu):=
 cQ Fu fG λcdv A outer s H E hr=>by
 have hu:=hr.units;unfold qt b8;exact(aO (gk (dX<|dJ<|jy (x:="") (aq 0) rfl B.isinstance aZ rfl B.str jM)
  (bh<|qP Ex.NoText rfl hr.hd (LK aM) λ_ _ _ _ _ _ _ _ I mk q=>iJ I mk q)
  cP)
  (aO (cB (i:=1) fG.nd rfl (af rfl)<|uw eD nV PySem.F.type_str_partition vO (aq 0)<|aR (ak aM) aX)
  (aO (cB (i:=2) fG.nd rfl (af rfl)<|cR eO (aq 1) (ak aH) λ_ _=>rfl)
  (aO (cB (i:=3) fG.nd rfl (af rfl)<|RD (eG (eN hu) (ak<|cR eO (aq 1) (ak aH) λ_ _=>rfl) (ak aM)<|cC _) (cR eO (aq 1) (ak aH) λ_ _=>rfl) aM)
  (aO (cB (i:=4) fG.nd rfl (af rfl)<|RD (dJ<|uw eD nE nI Bl (aq 2)<|aR (ak aM) aX) (gG (aq 2) (iG<|ak aH) j0)<|bV 2)
  (aO (gk (xU<|jF (dX<|dJ<|cW Gare_figures hr aK<|au (bV 4) aN)<|jF (dX<|dJ<|cW Gare_figures hr aK<|au (bV 3) aN)<|my<|eG (eN hu) (ak<|dC jr rfl B.int pJ<|aR (aq 3) aX) (ak aH)<|cC _)
  (bh<|qP Ex.NoText rfl hr.hd (LK<|qZ<|lU (Ds<|aq 0)<|lU aM Bp) λ_ _ _ _ _ _ _ _ I mk q=>iJ I mk q)
  cP)
  (aO (cB (i:=5) fG.nd rfl (af rfl)<|cW Glowest hr aK<|au (dC jr rfl B.int pJ<|aR (aq 2) aX)<|au (dC jr rfl B.int pJ<|aR (aq 3) aX) aN)
  (aO (gk (eG (ue hu) (ak<|cW Gshow_ratio hr aK<|au (bV 5) aN) (aq 0)<|cC _)
  (bh<|qP Ex.NoText rfl hr.hd (LK<|qZ<|lU (Ds<|aq 0)<|lU aM Bp) λ_ _ _ _ _ _ _ _ I mk q=>iJ I mk q)
  cP)
  (bh<|bO<|bV 5)))))))))
theorem Cw(B:Bt mg)(Cn:CnT K mg)(Fu:Fun K "is_name" "is_name" n8 f fd)  :
  bR P w K mg base (CX1 P w) 1 f fd ["thing"] (spF ⟨K,mg⟩ iC):=
 cQ Fu Hg λcdv A outer s H E hr=>by
 have hu:=hr.units;unfold wQ ju;exact(aO (gk (dX<|dJ<|jy (x:="") (aq 0) rfl B.isinstance aZ rfl B.str jM)
  (bh<|bO gM)
  cP)
  (bh<|bO<|kj (uE qC qC (ak aH) (ak<|bQ cD rfl B.len fO<|aR (aq 0) aX)<|ak<|vK Cn rfl)<|lK<|bQ (km rfl) rfl B.all uf<|aR (ak<|di<|lX (aL n8) ["sign"] [] 1 [] rfl ⟨rfl,by decide +kernel,by decide +kernel,by decide +kernel,by decide +kernel⟩ .nil (pB<|Iw<|bV 0) (λ_ _ _ _ _ _=>(fH (i:=0) (show kB (["sign"]:List Str) by decide) rfl (af rfl))) (λ_ _ _ _ _ _=>iM) (λ_ _ _ _ _ _=>(iW JW (aq 0) (ak<|vB Cn rfl)<|by with_unfolding_all rfl))) aX))
theorem Bu(B:Bt mg)(Fu:Fun K "is_pair" "is_pair" qF f fd)  :
  bR P w K mg base (CX1 P w) 1 f fd ["thing"] (spF ⟨K,mg⟩ nO):=
 cQ Fu Hb λcdv A outer s H E hr=>by
 have hu:=hr.units;unfold wD wL;exact(bh<|bO<|kj (jy (x:="") (aq 0) rfl B.isinstance aZ rfl B.tuple iQ)<|lK<|iW (eN hu) (ak<|bQ cD rfl B.len fO<|aR (aq 0) aX) (ak aH)<|cC _)
theorem yD(B:Bt mg)(Fu:Fun K "are_pairs" "are_pairs" j5 f fd)(Gis_pair:FF P w K mg base 1 "is_pair" ["thing"] nO):
  bR P w K mg base (CX1 P w) 2 f fd ["thing", "most"] (spF ⟨K,mg⟩ cX):=
 cQ Fu yQ λcdv A outer s H E hr=>by
 have hu:=hr.units;unfold jX jU;exact(bh<|bO<|kj (jy (x:="") (aq 0) rfl B.isinstance aZ rfl B.tuple iQ)<|kj (uE qC qC (ak aH) (ak<|bQ cD rfl B.len fO<|aR (aq 0) aX)<|aq 1)<|lK<|bQ (km rfl) rfl B.all uf<|aR (ak<|di<|lX (aL j5) ["each"] [] 1 [] rfl ⟨rfl,by decide +kernel,by decide +kernel,by decide +kernel,by decide +kernel⟩ .nil (pB<|Bm<|bV 0) (λ_ _ _ _ _ _=>(fH (i:=0) (show kB (["each"]:List Str) by decide) rfl (af rfl))) (λ_ _ _ _ _ _=>iM) (λ_ _ _ _ _ _=>(cW Gis_pair hr Ew<|au (bV 0) aN))) aX)
theorem G4(B:Bt mg)(Fu:Fun K "is_end" "is_end" vh f fd)(Gis_ratio:FF P w K mg base 2 "is_ratio" ["thing"] eY):
  bR P w K mg base (CX1 P w) 3 f fd ["thing"] (spF ⟨K,mg⟩ uK):=
 cQ Fu Lh λcdv A outer s H E hr=>by
 have hu:=hr.units;unfold Ac yW;exact(bh<|bO<|kj (iW (eN hu) (ak<|bQ cD rfl B.len fO<|aR (aq 0) aX) (ak aH)<|cC _)<|lK<|cW Gis_ratio hr aK<|au (cR eO (aq 0) (ak aH) λ_ _=>rfl) aN)
theorem Bc(B:Bt mg)(Cn:CnT K mg)(Fu:Fun K "is_deal" "is_deal" nW f fd)(Gis_ratio:FF P w K mg base 2 "is_ratio" ["thing"] eY)(Gis_name:FF P w K mg base 1 "is_name" ["thing"] iC)(Gare_pairs:FF P w K mg base 2 "are_pairs" ["thing", "most"] cX):
  bR P w K mg base (CX1 P w) 3 f fd ["thing"] (spF ⟨K,mg⟩ kO):=
 cQ Fu Hz λcdv A outer s H E hr=>by
 have hu:=hr.units;unfold qX qW;exact(aO (gk (xU<|jF (eG (ue hu) (ak<|bQ cD rfl B.len fO<|aR (aq 0) aX) (ak aH)<|cC _)<|jF (dX<|dJ<|cW Gis_name hr aK<|au (cR eO (aq 0) (ak aH) λ_ _=>rfl) aN)<|my<|dX<|dJ<|cW Gare_pairs hr aK<|au (cR eO (aq 0) (ak aH) λ_ _=>rfl)<|au (vL Cn rfl) aN)
  (bh<|bO gM)
  cP)
  (bh<|bO<|bQ (km rfl) rfl B.all uf<|aR (ak<|di<|lX (aL nW) ["share", "branch"] [] 2 [] rfl ⟨rfl,by decide +kernel,by decide +kernel,by decide +kernel,by decide +kernel⟩ .nil (pB<|Bm<|cR eO (aq 0) (ak aH) λ_ _=>rfl) (λ_ _ _ _ _ _=>(Ig rfl<|qi (fH (i:=0) (show kB (["share", "branch"]:List Str) by decide) rfl (af rfl)) (qi (fH (i:=1) (show kB (["share", "branch"]:List Str) by decide) rfl (af rfl)) Ga))) (λ_ _ _ _ _ _=>iM) (λ_ _ _ _ _ _=>(cW Gis_ratio hr Ew<|au (bV 0) aN))) aX))
theorem Ci(B:Bt mg)(Cn:CnT K mg)(Fu:Fun K "is_move" "is_move" kZ f fd)(Gis_whole:FF P w K mg base 1 "is_whole" ["thing"] fY)(Gis_name:FF P w K mg base 1 "is_name" ["thing"] iC)(Gare_pairs:FF P w K mg base 2 "are_pairs" ["thing", "most"] cX):
  bR P w K mg base (CX1 P w) 3 f fd ["thing"] (spF ⟨K,mg⟩ gY):=
 cQ Fu wy λcdv A outer s H E hr=>by
 have hu:=hr.units;unfold lz lB;exact(aO (gk (xU<|jF (eG (ue hu) (ak<|bQ cD rfl B.len fO<|aR (aq 0) aX) (ak aH)<|cC _)<|jF (dX<|dJ<|cW Gis_whole hr aK<|au (cR eO (aq 0) (ak aH) λ_ _=>rfl) aN)<|my<|eG Ge (ak<|cR eO (aq 0) (ak aH) λ_ _=>rfl) (ak<|uT<|au aH<|au aH aN)<|by with_unfolding_all rfl)
  (bh<|bO gM)
  cP)
  (aO (gk (xU<|jF (dX<|dJ<|cW Gis_name hr aK<|au (cR eO (aq 0) (ak aH) λ_ _=>rfl) aN)<|my<|dX<|dJ<|cW Gare_pairs hr aK<|au (cR eO (aq 0) (ak aH) λ_ _=>rfl)<|au (vN Cn rfl) aN)
  (bh<|bO gM)
  cP)
  (aO (Cp (i:=1) (aL kZ) ["word", "branch"] [] 2 [] wy.nd rfl (af rfl) rfl ⟨rfl,by decide +kernel,by decide +kernel,by decide +kernel,by decide +kernel⟩ .nil (pB<|Bm<|cR eO (aq 0) (ak aH) λ_ _=>rfl) (λ_ _ _ _ _ _=>(Ig rfl<|qi (fH (i:=0) (show kB (["word", "branch"]:List Str) by decide) rfl (af rfl)) (qi (fH (i:=1) (show kB (["word", "branch"]:List Str) by decide) rfl (af rfl)) Ga))) (λ_ _ _ _ _ _=>iM) (λ_ _ _ _ _ _=>(bV 0)))
  (bh<|bO<|kj (bQ (km rfl) rfl B.all uf<|aR (ak<|di<|lX (aL kZ) ["word"] [] 1 [] rfl ⟨rfl,by decide +kernel,by decide +kernel,by decide +kernel,by decide +kernel⟩ .nil (Kv<|aq 1) (λ_ _ _ _ _ _=>(fH (i:=0) (show kB (["word"]:List Str) by decide) rfl (af rfl))) (λ_ _ _ _ _ _=>iM) (λ_ _ _ _ _ _=>(cW Gis_name hr Ew<|au (bV 0) aN))) aX) (lK<|iW (eN hu) (ak<|Hv rfl rfl B.len rfl B.set<|aR (aq 1) aX) (ak<|bQ cD rfl B.len fO<|aR (aq 1) aX)<|cC _)))))
theorem xg(B:Bt mg)(Fu:Fun K "is_formed" "is_formed" nC f fd)(Gis_end:FF P w K mg base 3 "is_end" ["thing"] uK)(Gis_deal:FF P w K mg base 3 "is_deal" ["thing"] kO)(Gis_move:FF P w K mg base 3 "is_move" ["thing"] gY):
  bR P w K mg base (CX1 P w) 4 f fd ["thing"] (spF ⟨K,mg⟩ bJ):=
 cQ Fu zB λcdv A outer s H E hr=>by
 have hu:=hr.units;unfold j6 jY;exact(aO (gk (xU<|jF (dX<|dJ<|jy (x:="") (aq 0) rfl B.isinstance aZ rfl B.tuple iQ)<|jF (eG (eN hu) (ak<|bQ cD rfl B.len fO<|aR (aq 0) aX) (ak aH)<|cC _)<|my<|dX<|dJ<|jy (x:="") (ak<|cR eO (aq 0) (ak aH) λ_ _=>rfl) rfl B.isinstance aZ rfl B.str jM)
  (bh<|bO gM)
  cP)
  (aO (gk (eG (eN hu) (ak<|cR eO (aq 0) (ak aH) λ_ _=>rfl) (ak aM)<|cC _)
  (bh<|bO<|cW Gis_end hr aK<|au (bV 0) aN)
  cP)
  (aO (gk (eG (eN hu) (ak<|cR eO (aq 0) (ak aH) λ_ _=>rfl) (ak aM)<|cC _)
  (bh<|bO<|cW Gis_deal hr aK<|au (bV 0) aN)
  cP)
  (bh<|bO<|kj (iW (eN hu) (ak<|cR eO (aq 0) (ak aH) λ_ _=>rfl) (ak aM)<|cC _)<|lK<|cW Gis_move hr aK<|au (bV 0) aN))))
theorem rY(B:Bt mg)(Fu:Fun K "_law_numbers" "_law_numbers" jK f fd)  :
  bR P w K mg base (CX1 P w) 1 f fd ["_law_script"] (spF ⟨K,mg⟩ gD):=
 cQ Fu jx λcdv A outer s H E hr=>by
 have hu:=hr.units;unfold mW gC;exact(aO (Io (i:=1) jx.nd rfl (af rfl)<|eX aN)
  (aO (CJ (k:=1000) hG rfl (nQ rfl B.range<|aR (ak<|bQ cD rfl B.len fO<|aR (ak<|gG (aq 0) j0<|iG<|ak aH) aX) aX) (fH (i:=2) jx.nd rfl<|af rfl)
  (bh<|Hx 1<|aQ dm (ak<|aQ lH (ak<|aQ aV (ak<|aQ aV (ak<|aQ aV (ak<|aQ dm (ak<|cR eO (aq 0) (aq 2) λ_ _=>rfl)<|ak aH)<|ak<|aQ lH (ak<|aQ lH (ak aH)<|aq 2)<|aq 2)<|ak<|aQ lH (ak aH)<|aq 2)<|ak aH)<|ak aH)<|ak aH))
  (bh<|NQ 1)))
theorem yl(B:Bt mg)(Fu:Fun K "_law_name" "_law_name" jW f fd)  :
  bR P w K mg base (CX1 P w) 1 f fd ["_law_x"] (spF ⟨K,mg⟩ gj):=
 cQ Fu rJ λcdv A outer s H E hr=>by
 have hu:=hr.units;unfold nj mV;exact(aO (cB (i:=1) rJ.nd rfl (kF rfl) aM)
  (bh<|bO<|uw eD iE iF mQ (ak aM)<|aR (ak<|di<|lX (aL jW) ["_law_j", "_law_signs", "_law_x"] ["_law_signs", "_law_x"] 1 [1,0] rfl ⟨rfl,by decide +kernel,by decide +kernel,by decide +kernel,by decide +kernel⟩ (.cons rfl<|.cons rfl .nil) (pB<|nQ rfl B.range<|aR (ak<|aQ aV (ak aH)<|ak<|aQ dm (aq 0)<|ak aH) aX) (λ_ _ _ _ _ _=>(fH (i:=0) (show kB (["_law_j", "_law_signs", "_law_x"]:List Str) by decide) rfl (af rfl))) (λ_ _ _ _ _ _=>iM) (λ_ _ _ _ _ _=>(cR eO (aq 1) (ak<|aQ dm (ak<|aQ aV (ak<|aQ fV (aq 2)<|ak<|aQ aV (aq 0)<|ak aH)<|ak<|aQ lH (ak<|aQ lH (aq 0)<|aq 0)<|ak aH)<|ak aH) λ_ _=>rfl))) aX))
theorem vG(B:Bt mg)(Fu:Fun K "_law_grown" "_law_grown" lM f fd)(G_law_name:FF P w K mg base 1 "_law_name" ["_law_x"] gj)(n:Nat)(G_law_grown:FIO P w K mg base (1+n) "_law_grown" ["_law_xs", "_law_deep", "_law_part"] (cL n)):
  bR P w K mg base (CX1 P w) (1+n+1) f fd ["_law_xs", "_law_deep", "_law_part"] (Ht ⟨K,mg⟩<|cL<|n+1):=
 Jj Fu dU λcdv A outer s H E hr=>by
 have hu:=hr.units;unfold jk;exact(aO (cB (i:=3) dU.nd rfl (af rfl) aH)
  (aO (gk (eG Bo (ak<|bQ cD rfl B.len fO<|aR (aq 0) aX) (ak aH)<|cC _)
  (bh<|GJ 3 0 dU.nd rfl<|af rfl)
  cP)
  (aO (gk (xU<|jF (eG (eN hu) (aq 1) (ak aH)<|cC _)<|jF (eG (eN hu) (ak<|bQ cD rfl B.len fO<|aR (aq 0) aX) (ak aH)<|cC _)<|my<|eG (eN hu) (ak<|aQ dm (aq 3)<|ak aH) (ak aH)<|cC _)
  (bh<|bO<|cR eO (ak<|di<|eX<|au (bV 2)<|au (aQ aV (ak aM)<|ak<|dC jw rfl B.str jM<|aR (ak<|aQ EY (ak<|aQ dm (ak<|aQ fV (aq 3)<|ak aH)<|ak aH)<|ak aH) aX) aN) (ak<|dC jr rfl B.int pJ<|aR (ak<|iW (eN hu) (aq 2) (ak aM)<|cC _) aX) λ_ _=>rfl)
  cP)
  (aO (cB (i:=4) dU.nd rfl (af rfl)<|aQ aV (ak aH)<|ak<|aQ dm (ak<|aQ fV (aq 3)<|ak aH)<|ak aH)
  (aO (Io (i:=5) dU.nd rfl (af rfl)<|eX aN)
  (aO (CJ (k:=1000) hG rfl (nQ rfl B.range<|aR (aq 4) aX) (fH (i:=6) dU.nd rfl<|af rfl)
  (aO (cB (i:=7) dU.nd rfl (af rfl)<|cR eO (ak<|di<|eX<|au aM<|au (aQ aV (ak aM)<|ak<|dC jw rfl B.str jM<|aR (aq 6) aX) aN) (ak<|dC jr rfl B.int pJ<|aR (ak<|iW Bo (ak<|aQ dm (aq 3)<|ak aH) (ak aH)<|cC _) aX) λ_ _=>rfl)
  (bh<|Bx 5<|RP aV (Wb<|aQ aV (aq 7)<|ak aM)<|V3 0 G_law_grown hr aK (au (aQ EY (aq 1)<|ak aH)<|au (cR eO (ak<|di<|eX<|au (bV 2)<|au aM aN) (ak<|dC jr rfl B.int pJ<|aR (ak<|iW Bo (aq 6) (ak aH)<|cC _) aX) λ_ _=>rfl) aN) (hk:=by omega))))
  (aO (gk (eG (K1 hu) (ak<|aQ dm (aq 3)<|ak aH) (ak aH)<|cC _)
  (bh<|bO<|aQ aV (ak<|aQ aV (ak<|aQ aV (ak<|aQ aV (ak aM)<|ak<|cW G_law_name hr aK (au (aQ fV (aq 3)<|ak aH) aN) (hk:=by omega))<|ak aM)<|ak<|uw eD iE iF mQ (ak aM)<|aR (aq 5) aX)<|ak aM)
  cP)
  (bh<|bO<|aQ aV (ak<|aQ aV (ak<|aQ aV (ak<|aQ aV (ak<|aQ aV (ak<|aQ aV (ak aM)<|ak<|dC jw rfl B.str jM<|aR (ak<|aQ aV (ak aH)<|ak<|aQ dm (ak<|aQ fV (aq 3)<|ak aH)<|ak aH) aX)<|ak aM)<|ak<|cW G_law_name hr aK (au (aQ fV (aq 3)<|ak aH) aN) (hk:=by omega))<|ak aM)<|ak<|uw eD iE iF mQ (ak aM)<|aR (aq 5) aX)<|ak aM))))))))
theorem sG(B:Bt mg)(Fu:Fun K "_law_no_part" "_law_no_part" gJ f fd)  :
  bR P w K mg base (CX1 P w) 1 f fd ["_law_x"] (spF ⟨K,mg⟩ cM):=
 cQ Fu bD λcdv A outer s H E hr=>by
 have hu:=hr.units;unfold mL jD;refine Wr.out ?_;exact(gZ (kI (i:=1) bD.nd rfl (af rfl)<|lA<|lq<|cA (Wr.mk aM)<|cA (Wr.mk aM)<|cA (Wr.mk aM)<|cA (Wr.mk aM)<|cA (Wr.mk aM)<|cA (Wr.mk aM)<|cA (Wr.mk aM)<|cA (Wr.mk aM)<|cA (Wr.mk aM)<|cA (Wr.mk aM)<|Wr.mk aN)<|gZ (kI (i:=1) bD.nd rfl (af rfl)<|fK aV (Wr.mk<|aq 1)<|fQ<|lA<|lq<|cA (Wr.mk aM)<|cA (Wr.mk aM)<|Wr.mk aN)<|gZ (kI (i:=1) bD.nd rfl (af rfl)<|fK aV (Wr.mk<|aq 1)<|fQ<|lA<|lq<|cA (Wr.mk aM)<|cA (Wr.mk aM)<|cA (Wr.mk aM)<|cA (Wr.mk aM)<|Wr.mk aN)<|gZ (kI (i:=1) bD.nd rfl (af rfl)<|fK aV (Wr.mk<|aq 1)<|fQ<|lA<|lq<|cA (Wr.mk aM)<|Wr.mk aN)<|gZ (kI (i:=1) bD.nd rfl (af rfl)<|fK aV (Wr.mk<|aq 1)<|fQ<|lA<|lq<|cA (Wr.mk aM)<|cA (Wr.mk aM)<|cA (Wr.mk aM)<|Wr.mk aN)<|gZ (kI (i:=1) bD.nd rfl (af rfl)<|fK aV (Wr.mk<|aq 1)<|fQ<|lA<|lq<|cA (Wr.mk aM)<|Wr.mk aN)<|gZ (kI (i:=1) bD.nd rfl (af rfl)<|fK aV (Wr.mk<|aq 1)<|fQ<|lA<|lq<|cA (Wr.mk aM)<|cA (Wr.mk aM)<|cA (Wr.mk aM)<|cA (Wr.mk aM)<|cA (Wr.mk aM)<|Wr.mk aN)<|gZ (kI (i:=1) bD.nd rfl (af rfl)<|fK aV (Wr.mk<|aq 1)<|fQ<|lA<|lq<|cA (Wr.mk aM)<|Wr.mk aN)<|gZ (kI (i:=1) bD.nd rfl (af rfl)<|fK aV (Wr.mk<|aq 1)<|fQ<|lA<|lq<|cA (Wr.mk aM)<|cA (Wr.mk aM)<|cA (Wr.mk aM)<|cA (Wr.mk aM)<|Wr.mk aN)<|gZ (kI (i:=1) bD.nd rfl (af rfl)<|fK aV (Wr.mk<|aq 1)<|fQ<|lA<|lq<|cA (fK aV (fQ<|fK aV (fQ<|Wr.mk aM)<|fQ<|Wr.mk<|uw eD iE iF mQ (ak aM)<|aR (ak<|aQ Kl (ak<|di<|eX<|au aM aN)<|ak aH) aX)<|fQ<|Wr.mk aM)<|Wr.mk aN)<|gZ (kI (i:=1) bD.nd rfl (af rfl)<|fK aV (Wr.mk<|aq 1)<|fQ<|lA<|lq<|cA (Wr.mk aM)<|cA (Wr.mk aM)<|cA (Wr.mk aM)<|Wr.mk aN)<|gZ (kI (i:=1) bD.nd rfl (af rfl)<|fK aV (Wr.mk<|aq 1)<|fQ<|lA<|lq<|cA (fK aV (fQ<|fK aV (fQ<|Wr.mk aM)<|fQ<|fK zN (fQ<|Wr.mk aM)<|fQ<|Wr.mk aH)<|fQ<|Wr.mk aM)<|cA (fK aV (fQ<|Wr.mk aM)<|fQ<|fK zN (fQ<|Wr.mk aM)<|fQ<|Wr.mk aH)<|Wr.mk aN)<|gZ (kI (i:=2) bD.nd rfl (af rfl)<|Wr.mk<|uw eD iE iF mQ (ak aM)<|aR (ak<|di<|lX (aL gJ) ["_law_k"] [] 1 [] rfl ⟨rfl,by decide +kernel,by decide +kernel,by decide +kernel,by decide +kernel⟩ .nil (pB<|nQ rfl B.range<|aR (ak aH) aX) (λ_ _ _ _ _ _=>(fH (i:=0) (show kB (["_law_k"]:List Str) by decide) rfl (af rfl))) (λ_ _ _ _ _ _=>iM) (λ_ _ _ _ _ _=>(aQ aV (ak<|aQ aV (ak aM)<|ak<|dC jw rfl B.str jM<|aR (aq 0) aX)<|ak aM))) aX) (Wx<|Wm<|Xm eO (fQ<|fK aV (Wr.mk<|aq 1)<|fQ<|lA<|lq<|cA (fK aV (fQ<|fK aV (fQ<|Wr.mk aM)<|Wr.mk<|aq 2)<|fQ<|Wr.mk aM)<|cA (Wr.mk aM)<|cA (Wr.mk aM)<|Wr.mk aN) (fQ<|fK dm (Wr.mk<|aq 0)<|fQ<|Wr.mk aH) λ_ _=>rfl))
theorem rT(B:Bt mg)(Fu:Fun K "_law_spoiled" "_law_spoiled" jL f fd)  :
  bR P w K mg base (CX1 P w) 1 f fd ["_law_text", "_law_x"] (spF ⟨K,mg⟩ cN):=
 cQ Fu gq λcdv A outer s H E hr=>by
 have hu:=hr.units;unfold jC jG;exact(aO (cB (i:=2) gq.nd rfl (af rfl)<|aQ dm (ak<|aQ fV (aq 1)<|ak aH)<|ak<|bQ cD rfl B.len fO<|aR (aq 0) aX)
  (aO (cB (i:=3) gq.nd rfl (af rfl)<|cR eO (ak aM) (ak<|aQ dm (ak<|aQ fV (ak<|aQ fV (aq 1)<|ak aH)<|ak<|bQ cD rfl B.len fO<|aR (aq 0) aX)<|ak aH) λ_ _=>rfl)
  (aO (cB (i:=4) gq.nd rfl (af rfl)<|di<|eX<|au (aQ aV (aq 0)<|ak aM)<|au (aQ aV (ak aM)<|aq 0)<|au (aQ aV (aq 0)<|ak aM)<|au (aQ aV (ak<|aQ aV (ak<|gG (aq 0) j0<|iG<|aq 2)<|ak aM)<|ak<|gG (aq 0) (iG<|aq 2) j0)<|au (aQ aV (ak<|aQ aV (ak<|gG (aq 0) j0<|iG<|aq 2)<|aq 3)<|ak<|gG (aq 0) (iG<|aq 2) j0)<|au (aQ aV (aq 0)<|ak aM) aN)
  (bh<|bO<|cR eO (ak<|aQ aV (aq 4)<|ak<|di<|eX<|au (aQ aV (ak<|aQ aV (ak<|gG (aq 0) j0<|iG<|aq 2)<|ak aM)<|ak<|gG (aq 0) (iG<|aq 2) j0) aN) (ak<|aQ dm (aq 1)<|ak aH) λ_ _=>rfl))))
theorem sH(B:Bt mg)(Xc:XcT K mg)(Fu:Fun K "_law_refused" "_law_refused" jH f fd)(Gread:FF P w K mg base 8 "read" ["text"] jN):
  bR P w K mg base (CX1 P w) 9 f fd ["_law_thing"] (spF ⟨K,mg⟩ bG):=
 cQ Fu eZ λcdv A outer s H E hr=>by
 have hu:=hr.units;unfold mU gr;exact(aO (cB (i:=1) eZ.nd rfl (af rfl)<|di<|eX aN)
  (aO (Pn (i:=2) (eE) rfl rfl (Lr Gread hr<|au (bV 0) aN) eZ.nd rfl rfl rfl Xc.c_DuelError (λea=>
  (aO (cB (i:=1) eZ.nd rfl (af rfl)<|di<|eX<|au (pG (aq 2) rfl B.isinstance aZ rfl Xc.i_NoText)<|au (Pr (aq 2) rfl B.isinstance aZ rfl Xc.i_ValueError vC)<|au (pG (aq 2) rfl B.isinstance aZ rfl Xc.i_NoNumber)<|au (pG (aq 2) rfl B.isinstance aZ rfl Xc.i_NoPlan) aN)
  (bh<|cB (i:=1) eZ.nd rfl (af rfl)<|aQ aV (aq 1)<|ak<|di<|eX<|au (pG (aq 2) rfl B.isinstance aZ rfl Xc.i_NoRow)<|au (pG (aq 2) rfl B.isinstance aZ rfl Xc.i_NoName)<|au (pG (aq 2) rfl B.isinstance aZ rfl Xc.i_TooGreat)<|au (pG (aq 2) rfl B.isinstance aZ rfl Xc.i_NoShares) aN))))
  (bh<|bO<|iW (eN hu) (aq 1) (ak<|di<|eX<|au gM<|au gM<|au gM<|au gM<|au gM<|au gM<|au gM<|au gM aN)<|cC _)))
theorem T8(B:Bt mg)(Fu:Fun K "law" "law" wR f fd)(Gread:FF P w K mg base 8 "read" ["text"] jN)(G_law_numbers:FF P w K mg base 1 "_law_numbers" ["_law_script"] gD)(G_law_grown:FIO P w K mg base 31 "_law_grown" ["_law_xs", "_law_deep", "_law_part"] (cL 30))(G_law_no_part:FF P w K mg base 1 "_law_no_part" ["_law_x"] cM)(G_law_spoiled:FF P w K mg base 1 "_law_spoiled" ["_law_text", "_law_x"] cN)(G_law_refused:FF P w K mg base 9 "_law_refused" ["_law_thing"] bG):
  bR P w K mg base (CX1 P w) 32 f fd ["_law_script"] (spF ⟨K,mg⟩ Rb):=
 cQ Fu wz λcdv A outer s H E hr=>by
 have hu:=hr.units;unfold QZ Ed;exact(aO (cB (i:=1) wz.nd rfl (af rfl)<|cW G_law_numbers hr aK<|au (bV 0) aN)
  (aO (cB (i:=2) wz.nd rfl (af rfl)<|JN G_law_grown hr aK (wj uX rfl B.list Fj<|aR (aq 1) aX)<|au aH<|au aM aN)
  (aO (gk (dX<|dJ<|jy (x:="") (ak<|cW Gread hr aK<|au (bV 2) aN) rfl B.isinstance aZ rfl B.tuple iQ)
  (bh<|bO gM)
  cP)
  (aO (CJ (k:=1000) hG rfl (Qv<|aQ aV (ak<|gG (aq 0) (iG<|ak aH)<|iG<|ak aH)<|ak<|di<|eX<|au (bQ cD rfl B.len fO<|aR (aq 0) aX) aN) (fH (i:=3) wz.nd rfl<|af rfl)
  (aO (cB (i:=4) wz.nd rfl (af rfl)<|aQ dm (ak<|aQ lH (ak<|aQ dm (aq 3)<|ak aH)<|ak aH)<|ak aH)
  (aO (cB (i:=5) wz.nd rfl (af rfl)<|JN G_law_grown hr aK (wj uX rfl B.list Fj<|aR (aq 1) aX)<|au aH<|au (cW G_law_no_part hr aK<|au (aQ fV (aq 4)<|ak aH) aN) aN)
  (aO (gk (xU<|jF (dX<|dJ<|cW G_law_refused hr aK<|au (bV 5) aN)<|jF (dX<|dJ<|cW G_law_refused hr aK<|au (cW G_law_spoiled hr aK<|au (bV 2)<|au (bV 4) aN) aN)<|my<|dX<|dJ<|cW G_law_refused hr aK<|au (cW G_law_no_part hr aK<|au (bV 4) aN) aN)
  (bh<|bO gM)
  cP)
  (bh (gk (dX<|dJ<|cW G_law_refused hr aK<|au (cR eO (ak<|di<|eX<|au Tq<|au aH<|au gM<|au (di<|eX<|au (bV 2) aN)<|au (uT<|au (bV 2) aN)<|au (di PB)<|au (uT<|au aM<|au (uT<|au aH<|au aH aN) aN)<|au (di<|eX<|au aM aN) aN) (ak<|aQ dm (aq 4)<|ak aH) λ_ _=>rfl) aN)
  (bh<|bO gM)
  cP))))))
  (bh<|bO<|jy (x:="") (ak<|cW Gread hr aK<|au (bV 2) aN) rfl B.isinstance aZ rfl B.tuple iQ)))))
theorem all_mk {l:W.OpenLaw}{w:cw}{K:av}{h:Heap}{mg:Zs}{fa:Addr}(X:K.In h)(G:h.Ns bo mg)(hfa:mg "law" = some (.ref fa))
  (q0:QD K "is_whole" o6)
  (q1:QD K "common_divisor" iB)
  (q2:QD K "lowest" tR)
  (q3:QD K "is_ratio" pF)
  (q4:QD K "show_ratio" lR)
  (q5:QD K "are_figures" iD)
  (q6:QD K "read_ratio" lZ)
  (q7:QD K "is_name" n8)
  (q8:QD K "is_pair" qF)
  (q9:QD K "are_pairs" j5)
  (q10:QD K "is_end" vh)
  (q11:QD K "is_deal" nW)
  (q12:QD K "is_move" kZ)
  (q13:QD K "is_formed" nC)
  (q14:QD K "read" uH)
  (q15:QD K "_law_numbers" jK)
  (q16:QD K "_law_name" jW)
  (q17:QD K "_law_grown" lM)
  (q18:QD K "_law_no_part" gJ)
  (q19:QD K "_law_spoiled" jL)
  (q20:QD K "_law_refused" jH)
  (q21:QD K "law" wR)
  (qa:QD K "read_lead" yq)
  (qb:QD K "read_side" xV)
  (qc:QD K "read_head" xY)
  (qb_:QD K "begun" sO)
  (qg:QD K "gone_on" xZ)
  {CR:Addr} (oR:ff K bo "Reader" = some (some<|.ref CR))
  (pgR:oI K CR js=true)
  (hdR:mP K CR=true)
  (poR:tf K CR=true)
  (saR:fv K (.ref CR) "__setattr__" = some (some<|.builtin "object.__setattr__"))
  (mkR:ub K CR=true)
  (kcR:kX K (.ref CR)=true)
  (nRtext:fv K (.ref CR) "text" = some none)
  (nRspot:fv K (.ref CR) "spot" = some none)
  {CO:Addr} (oO:ff K bo "Opened" = some (some<|.ref CO))
  (pgO:oI K CO js=true)
  (hdO:mP K CO=true)
  (poO:tf K CO=true)
  (saO:fv K (.ref CO) "__setattr__" = some (some<|.builtin "object.__setattr__"))
  (mkO:ub K CO=true)
  (kcO:kX K (.ref CO)=true)
  (nOhead:fv K (.ref CO) "head" = some none)
  (nOlead:fv K (.ref CO) "lead" = some none)
  (nOways:fv K (.ref CO) "ways" = some none)
  (mR0:QM K CR "__init__" "Reader.__init__" Cd)
  (mR1:QM K CR "passes" "Reader.passes" uI)
  (mR2:QM K CR "need" "Reader.need" yg)
  (mR3:QM K CR "chunk" "Reader.chunk" xm)
  (mO0:QM K CO "__init__" "Opened.__init__" Cg)
  {CS:Addr} (oS:ff K bo "SIDES" = some (some<|.ref CS))
  {esS:Array DictEntry} {nnS:Nat} (lS:K.lookup CS=some ⟨.type "dict",none,.dict esS nnS,#[]⟩)
  (kS:W.KeysLit w.params esS.toList)
  (sS:(CS==mo)=false)
  {tS1:Tok} (s1:ff K CS "1" = some (some<|.int 1 tS1))
  {tS2:Tok} (s2:ff K CS "2" = some (some<|.int 2 tS2))
  (eS:∃h1 t1 v1 h2 t2 v2,esS=#[⟨h1,.str "1" t1,v1⟩,⟨h2,.str "2" t2,v2⟩])
  {CDuelError:Addr} (nDuelError:ff K bo "DuelError" = some (some<|.ref CDuelError))
  {CNoName:Addr} (nNoName:ff K bo "NoName" = some (some<|.ref CNoName))
  {CNoNumber:Addr} (nNoNumber:ff K bo "NoNumber" = some (some<|.ref CNoNumber))
  {CNoPlan:Addr} (nNoPlan:ff K bo "NoPlan" = some (some<|.ref CNoPlan))
  {CNoRow:Addr} (nNoRow:ff K bo "NoRow" = some (some<|.ref CNoRow))
  {CNoShares:Addr} (nNoShares:ff K bo "NoShares" = some (some<|.ref CNoShares))
  {CNoText:Addr} (nNoText:ff K bo "NoText" = some (some<|.ref CNoText))
  {CTooGreat:Addr} (nTooGreat:ff K bo "TooGreat" = some (some<|.ref CTooGreat))
  (zValueError:ff K bo "ValueError" = some none)
  (zabs:ff K bo "abs" = some none)
  (zall:ff K bo "all" = some none)
  (zbool:ff K bo "bool" = some none)
  (zint:ff K bo "int" = some none)
  (zisinstance:ff K bo "isinstance" = some none)
  (zlen:ff K bo "len" = some none)
  (zlist:ff K bo "list" = some none)
  (zrange:ff K bo "range" = some none)
  (zset:ff K bo "set" = some none)
  (zstr:ff K bo "str" = some none)
  (ztuple:ff K bo "tuple" = some none)
  {tFIGURES:Tok} (nFIGURES:ff K bo "FIGURES" = some (some<|.str "0123456789" tFIGURES))
  {tMOST_FIGURES:Tok} (nMOST_FIGURES:ff K bo "MOST_FIGURES" = some (some<|.int 30 tMOST_FIGURES))
  {tNAME_SIGNS:Tok} (nNAME_SIGNS:ff K bo "NAME_SIGNS" = some (some<|.str "abcdefghijklmnopqrstuvwxyz0123456789" tNAME_SIGNS))
  {tMOST_SIGNS:Tok} (nMOST_SIGNS:ff K bo "MOST_SIGNS" = some (some<|.int 8 tMOST_SIGNS))
  {tMOST_DEALT:Tok} (nMOST_DEALT:ff K bo "MOST_DEALT" = some (some<|.int 64 tMOST_DEALT))
  {tMOST_WORDS:Tok} (nMOST_WORDS:ff K bo "MOST_WORDS" = some (some<|.int 6 tMOST_WORDS))
  {tSTOPS:Tok} (nSTOPS:ff K bo "STOPS" = some (some<|.str " ()," tSTOPS))
  (eNoText:xi K CNoText [.type "ValueError",.type "Exception",.type "BaseException",.type "object"] "ValueError.__new__" = true)
  (xNoText0:fv K (.ref CNoText) "__getattribute__" = some (some<|.builtin "BaseException.__getattribute__"))
  (xNoText1:fv K (.ref CNoText) "__getattr__" = some none)
  (xNoText2:fv K (.ref CNoText) "__class__" = some (some<|.builtin "object.__class__"))
  (xNoText3:W.subIn K (.ref CNoText) (.type "BaseException")=some true)
  (xNoText4:W.subIn K (.ref CNoText) (.type "object")=some true)
  (xNoText5:mP K CNoText=true)
  (uDuelErrorNoText:uS K (.ref CNoText) (.ref CDuelError)=some true)
  (wNoNameNoText:d4 K (.ref CNoText) (.ref CNoName)=some false)
  (vNoName:d4 K (.type "NoneType") (.ref CNoName)=some false)
  (wNoNumberNoText:d4 K (.ref CNoText) (.ref CNoNumber)=some false)
  (vNoNumber:d4 K (.type "NoneType") (.ref CNoNumber)=some false)
  (wNoPlanNoText:d4 K (.ref CNoText) (.ref CNoPlan)=some false)
  (vNoPlan:d4 K (.type "NoneType") (.ref CNoPlan)=some false)
  (wNoRowNoText:d4 K (.ref CNoText) (.ref CNoRow)=some false)
  (vNoRow:d4 K (.type "NoneType") (.ref CNoRow)=some false)
  (wNoSharesNoText:d4 K (.ref CNoText) (.ref CNoShares)=some false)
  (vNoShares:d4 K (.type "NoneType") (.ref CNoShares)=some false)
  (wNoTextNoText:d4 K (.ref CNoText) (.ref CNoText)=some true)
  (vNoText:d4 K (.type "NoneType") (.ref CNoText)=some false)
  (wTooGreatNoText:d4 K (.ref CNoText) (.ref CTooGreat)=some false)
  (vTooGreat:d4 K (.type "NoneType") (.ref CTooGreat)=some false)
  (wValueErrorNoText:d4 K (.ref CNoText) (.type "ValueError")=some true)
  : ∃fd:dQ,(∀(s:aT) (v:a7),xc s fd ⟨[v],[]⟩ [("_law_script",v)])/\∀base:Heap,K.In base->base.Ns bo mg->bR l.prog w K mg base (CX1 l.prog w) 32 fa fd ["_law_script"] (Dz K):=by
 obtain⟨f,fd,F0,a⟩:=q21.ex;have e:=hfa.symm.trans<|ia X G a;cases e;have D0:=q0.df (ps:=["thing"]) X G λ_ _ _ _ _ _=>xb1 λ_=>rfl;have D1:=q1.df (ps:=["first", "second"]) X G λ_ _ _ _ _ _=>xb2 λ_ _=>rfl;have D2:=q2.df (ps:=["top", "bottom"]) X G λ_ _ _ _ _ _=>xb2 λ_ _=>rfl;have D3:=q3.df (ps:=["thing"]) X G λ_ _ _ _ _ _=>xb1 λ_=>rfl;have D4:=q4.df (ps:=["first"]) X G λ_ _ _ _ _ _=>xb1 λ_=>rfl;have D5:=q5.df (ps:=["text"]) X G λ_ _ _ _ _ _=>xb1 λ_=>rfl;have D6:=q6.df (ps:=["text"]) X G λ_ _ _ _ _ _=>xb1 λ_=>rfl;have D7:=q7.df (ps:=["thing"]) X G λ_ _ _ _ _ _=>xb1 λ_=>rfl;have D8:=q8.df (ps:=["thing"]) X G λ_ _ _ _ _ _=>xb1 λ_=>rfl;have D9:=q9.df (ps:=["thing", "most"]) X G λ_ _ _ _ _ _=>xb2 λ_ _=>rfl;have D10:=q10.df (ps:=["thing"]) X G λ_ _ _ _ _ _=>xb1 λ_=>rfl;have D11:=q11.df (ps:=["thing"]) X G λ_ _ _ _ _ _=>xb1 λ_=>rfl;have D12:=q12.df (ps:=["thing"]) X G λ_ _ _ _ _ _=>xb1 λ_=>rfl;have D13:=q13.df (ps:=["thing"]) X G λ_ _ _ _ _ _=>xb1 λ_=>rfl;have D14:=q14.df (ps:=["text"]) X G λ_ _ _ _ _ _=>xb1 λ_=>rfl;have D15:=q15.df (ps:=["_law_script"]) X G λ_ _ _ _ _ _=>xb1 λ_=>rfl;have D16:=q16.df (ps:=["_law_x"]) X G λ_ _ _ _ _ _=>xb1 λ_=>rfl;have D17:=q17.df (ps:=["_law_xs", "_law_deep", "_law_part"]) X G λ_ _ _ _ _ _=>xb3 λ_ _ _=>rfl;have D18:=q18.df (ps:=["_law_x"]) X G λ_ _ _ _ _ _=>xb1 λ_=>rfl;have D19:=q19.df (ps:=["_law_text", "_law_x"]) X G λ_ _ _ _ _ _=>xb2 λ_ _=>rfl;have D20:=q20.df (ps:=["_law_thing"]) X G λ_ _ _ _ _ _=>xb1 λ_=>rfl;have B:Bt mg:=⟨fT X G zValueError,fT X G zabs,fT X G zall,fT X G zbool,fT X G zint,fT X G zisinstance,fT X G zlen,fT X G zlist,fT X G zrange,fT X G zset,fT X G zstr,fT X G ztuple⟩;have Cn:CnT K mg:=⟨⟨.str "0123456789",_,ia X G nFIGURES,⟨tFIGURES,rfl⟩,λ_ _=>.str "0123456789"⟩,⟨.int 30,_,ia X G nMOST_FIGURES,⟨tMOST_FIGURES,rfl⟩,λ_ _=>.int 30⟩,⟨.str "abcdefghijklmnopqrstuvwxyz0123456789",_,ia X G nNAME_SIGNS,⟨tNAME_SIGNS,rfl⟩,λ_ _=>.str "abcdefghijklmnopqrstuvwxyz0123456789"⟩,⟨.int 8,_,ia X G nMOST_SIGNS,⟨tMOST_SIGNS,rfl⟩,λ_ _=>.int 8⟩,⟨.int 64,_,ia X G nMOST_DEALT,⟨tMOST_DEALT,rfl⟩,λ_ _=>.int 64⟩,⟨.int 6,_,ia X G nMOST_WORDS,⟨tMOST_WORDS,rfl⟩,λ_ _=>.int 6⟩,⟨.str " (),",_,ia X G nSTOPS,⟨tSTOPS,rfl⟩,λ_ _=>.str " (),"⟩⟩;have Ex:ExT K mg:=⟨⟨CNoText,ia X G nNoText,eNoText⟩⟩;have yNoText:(W.clsIn K CNoText).isSome=true:=by
  obtain⟨cd,hc,_⟩:=W.any_some xNoText5;rw[hc];rfl
 have ZNoText:XC K CNoText:=⟨xNoText0,xNoText1,xNoText2,xNoText3,xNoText4,yNoText⟩;have MNoText:∀{D:Addr},mg "NoText" = some (.ref D)->D=CNoText:=λh=>by rw[ia X G nNoText] at h;cases h;rfl
 have sDuelError:∀c D,eE c=true->mg c=some (.ref D)->uS K (.ref D) (.ref CDuelError)=some true:=by
  intro c D hs hm;simp only[eE,r9,beq_iff_eq] at hs;subst hs;rw[MNoText hm];exact uDuelErrorNoText
 have iNoName:∀c D b,jO c=some b->mg c=some (.ref D)->XC K D/\d4 K (.ref D) (.ref CNoName)=some b:=by
  intro c D b hs hm;simp only[jO] at hs;by_cases qNoText:c = "NoText"
  ·rw[if_pos qNoText] at hs;cases hs;subst qNoText;rw[MNoText hm];exact⟨ZNoText,wNoNameNoText⟩
  rw[if_neg qNoText] at hs;cases hs
 have iNoNumber:∀c D b,gH c=some b->mg c=some (.ref D)->XC K D/\d4 K (.ref D) (.ref CNoNumber)=some b:=by
  intro c D b hs hm;simp only[gH] at hs;by_cases qNoText:c = "NoText"
  ·rw[if_pos qNoText] at hs;cases hs;subst qNoText;rw[MNoText hm];exact⟨ZNoText,wNoNumberNoText⟩
  rw[if_neg qNoText] at hs;cases hs
 have iNoPlan:∀c D b,jE c=some b->mg c=some (.ref D)->XC K D/\d4 K (.ref D) (.ref CNoPlan)=some b:=by
  intro c D b hs hm;simp only[jE] at hs;by_cases qNoText:c = "NoText"
  ·rw[if_pos qNoText] at hs;cases hs;subst qNoText;rw[MNoText hm];exact⟨ZNoText,wNoPlanNoText⟩
  rw[if_neg qNoText] at hs;cases hs
 have iNoRow:∀c D b,lu c=some b->mg c=some (.ref D)->XC K D/\d4 K (.ref D) (.ref CNoRow)=some b:=by
  intro c D b hs hm;simp only[lu] at hs;by_cases qNoText:c = "NoText"
  ·rw[if_pos qNoText] at hs;cases hs;subst qNoText;rw[MNoText hm];exact⟨ZNoText,wNoRowNoText⟩
  rw[if_neg qNoText] at hs;cases hs
 have iNoShares:∀c D b,gA c=some b->mg c=some (.ref D)->XC K D/\d4 K (.ref D) (.ref CNoShares)=some b:=by
  intro c D b hs hm;simp only[gA] at hs;by_cases qNoText:c = "NoText"
  ·rw[if_pos qNoText] at hs;cases hs;subst qNoText;rw[MNoText hm];exact⟨ZNoText,wNoSharesNoText⟩
  rw[if_neg qNoText] at hs;cases hs
 have iNoText:∀c D b,jJ c=some b->mg c=some (.ref D)->XC K D/\d4 K (.ref D) (.ref CNoText)=some b:=by
  intro c D b hs hm;simp only[jJ] at hs;by_cases qNoText:c = "NoText"
  ·rw[if_pos qNoText] at hs;cases hs;subst qNoText;rw[MNoText hm];exact⟨ZNoText,wNoTextNoText⟩
  rw[if_neg qNoText] at hs;cases hs
 have iTooGreat:∀c D b,gO c=some b->mg c=some (.ref D)->XC K D/\d4 K (.ref D) (.ref CTooGreat)=some b:=by
  intro c D b hs hm;simp only[gO] at hs;by_cases qNoText:c = "NoText"
  ·rw[if_pos qNoText] at hs;cases hs;subst qNoText;rw[MNoText hm];exact⟨ZNoText,wTooGreatNoText⟩
  rw[if_neg qNoText] at hs;cases hs
 have iValueError:∀c D b,eV c=some b->mg c=some (.ref D)->XC K D/\d4 K (.ref D) (.type "ValueError")=some b:=by
  intro c D b hs hm;simp only[eV] at hs;by_cases qNoText:c = "NoText"
  ·rw[if_pos qNoText] at hs;cases hs;subst qNoText;rw[MNoText hm];exact⟨ZNoText,wValueErrorNoText⟩
  rw[if_neg qNoText] at hs;cases hs
 have Xc:XcT K mg:=⟨⟨CDuelError,ia X G nDuelError,sDuelError⟩,⟨CNoName,ia X G nNoName,iNoName,vNoName⟩,⟨CNoNumber,ia X G nNoNumber,iNoNumber,vNoNumber⟩,⟨CNoPlan,ia X G nNoPlan,iNoPlan,vNoPlan⟩,⟨CNoRow,ia X G nNoRow,iNoRow,vNoRow⟩,⟨CNoShares,ia X G nNoShares,iNoShares,vNoShares⟩,⟨CNoText,ia X G nNoText,iNoText,vNoText⟩,⟨CTooGreat,ia X G nTooGreat,iTooGreat,vTooGreat⟩,⟨fT X G zValueError,iValueError⟩⟩;obtain⟨oc,od,kV,doc,pm,an,cdv,ct,osl,rfl,lk,hcd⟩:=F0.ex;refine⟨ri "law" "law" (iH wR) (fj wR) (aL wR) .none kV doc pm an cdv ct,λs v=>.of_eq rfl,λbase kb nb=>?_⟩;have Gis_whole:=D0.fn (P:=l.prog) (w:=w) (base:=base) λf fd F=>zU B F;have Gcommon_divisor:=D1.fn (P:=l.prog) (w:=w) (base:=base) λf fd F=>qw B F;have Glowest:=D2.fn (P:=l.prog) (w:=w) (base:=base) λf fd F=>HJ B F Gcommon_divisor;have Gis_ratio:=D3.fn (P:=l.prog) (w:=w) (base:=base) λf fd F=>yU B F Gis_whole Gcommon_divisor;have Gshow_ratio:=D4.fn (P:=l.prog) (w:=w) (base:=base) λf fd F=>vA B F;have Gare_figures:=D5.fn (P:=l.prog) (w:=w) (base:=base) λf fd F=>uc B Cn F;have Gread_ratio:=D6.fn (P:=l.prog) (w:=w) (base:=base) λf fd F=>vz B Ex Xc F Glowest Gshow_ratio Gare_figures;have Gis_name:=D7.fn (P:=l.prog) (w:=w) (base:=base) λf fd F=>Cw B Cn F;have Gis_pair:=D8.fn (P:=l.prog) (w:=w) (base:=base) λf fd F=>Bu B F;have Gare_pairs:=D9.fn (P:=l.prog) (w:=w) (base:=base) λf fd F=>yD B F Gis_pair;have Gis_end:=D10.fn (P:=l.prog) (w:=w) (base:=base) λf fd F=>G4 B F Gis_ratio;have Gis_deal:=D11.fn (P:=l.prog) (w:=w) (base:=base) λf fd F=>Bc B Cn F Gis_ratio Gis_name Gare_pairs;have Gis_move:=D12.fn (P:=l.prog) (w:=w) (base:=base) λf fd F=>Ci B Cn F Gis_whole Gis_name Gare_pairs;have Gis_formed:=D13.fn (P:=l.prog) (w:=w) (base:=base) λf fd F=>xg B F Gis_end Gis_deal Gis_move;have ClR:Cls K CR:=⟨pgR,hdR,poR,saR⟩;have MgR:=ia X G oR;have rcR:RC K mg CR:=⟨MgR,ClR,nRtext,nRspot⟩;have ClO:Cls K CO:=⟨pgO,hdO,poO,saO⟩;have MgO:=ia X G oO;have ocO:OC K mg CO:=⟨MgO,ClO,nOhead,nOlead,nOways⟩;have Sd:SdT w K mg:=⟨CS,ia X G oS,⟨_,_,lS,kS,sS⟩,⟨_,s1⟩,_,s2⟩;have GmR:=mR0.mkT (P:=l.prog) (w:=w) (base:=base) MgR mkR kcR (λ_ _ F=>QR F) λ_ _ _ _ _ _=>xb2 λ_ _=>rfl;have GmO:=mO0.mkT (P:=l.prog) (w:=w) (base:=base) MgO mkO kcO (λ_ _ F=>Qo F) λ_ _ _ _ _ _=>xb2 λ_ _=>rfl;have Gps:=mR1.mt (P:=l.prog) (w:=w) (base:=base) MgR ClR (λ_ _ F=>HB B F) λ_ _ _ _ _ _=>xb2 λ_ _=>rfl;have Gnd:=mR2.mt (P:=l.prog) (w:=w) (base:=base) MgR ClR (λ_ _ F=>Nm Gps F) λ_ _ _ _ _ _=>xb2 λ_ _=>rfl;have Gck:=mR3.mt (P:=l.prog) (w:=w) (base:=base) MgR ClR (λ_ _ F=>Jz B Cn F) λ_ _ _ _ _ _=>xb1 λ_=>rfl;have Gr:=Q8 (k:=4) Gread_ratio (by decide);have Gf:=Q8 (k:=6) Gis_formed (by decide);have Glead:=(qa.df (ps:=["reader", "opened"]) X G λ_ _ _ _ _ _=>xb2 λ_ _=>rfl).fn (P:=l.prog) (w:=w) (base:=base) λf fd F=>Nv Gck Gnd Gr F;have Gside:=(qb.df (ps:=["reader"]) X G λ_ _ _ _ _ _=>xb1 λ_=>rfl).fn (P:=l.prog) (w:=w) (base:=base) λf fd F=>Pz Sd Gck Gnd F;have Ghead:=(qc.df (ps:=["reader"]) X G λ_ _ _ _ _ _=>xb1 λ_=>rfl).fn (P:=l.prog) (w:=w) (base:=base) λf fd F=>Pj Gps Gck Gnd Gside F;have Gbegun:=(qb_.df (ps:=["reader", "waiting"]) X G λ_ _ _ _ _ _=>xb2 λ_ _=>rfl).fn (P:=l.prog) (w:=w) (base:=base) λf fd F=>Mg Gps Gck Gr GmO (λC e=>by rw[MgO] at e;cases e;exact ocO) Ghead Glead F;have Ggone:=(qg.df (ps:=["reader", "waiting", "game"]) X G λ_ _ _ _ _ _=>xb3 λ_ _ _=>rfl).fn (P:=l.prog) (w:=w) (base:=base) λf fd F=>Oo B Gps Gnd Gf Glead F;have GndN:=mR2.mt (P:=l.prog) (w:=w) (base:=base) MgR ClR (λ_ _ F=>JB Ex.NoText Gps F) λ_ _ _ _ _ _=>xb2 λ_ _=>rfl;have SdN:SdU K mg:=⟨CS,esS,nnS,ia X G oS,lS,eS⟩;have GleadN:=(qa.df (ps:=["reader", "opened"]) X G λ_ _ _ _ _ _=>xb2 λ_ _=>rfl).fn (P:=l.prog) (w:=w) (base:=base) λf fd F=>Jx Gck GndN Gr F;have GsideN:=(qb.df (ps:=["reader"]) X G λ_ _ _ _ _ _=>xb1 λ_=>rfl).fn (P:=l.prog) (w:=w) (base:=base) λf fd F=>MK Ex.NoText Sd SdN Gck GndN F;have GheadN:=(qc.df (ps:=["reader"]) X G λ_ _ _ _ _ _=>xb1 λ_=>rfl).fn (P:=l.prog) (w:=w) (base:=base) λf fd F=>IV Gps Gck GndN GsideN F;have GbegunN:=(qb_.df (ps:=["reader", "waiting"]) X G λ_ _ _ _ _ _=>xb2 λ_ _=>rfl).fn (P:=l.prog) (w:=w) (base:=base) λf fd F=>Hy Gps Gck Gr GmO (λC e=>by rw[MgO] at e;cases e;exact ocO) GheadN GleadN F;have GgoneN:=(qg.df (ps:=["reader", "waiting", "game"]) X G λ_ _ _ _ _ _=>xb3 λ_ _ _=>rfl).fn (P:=l.prog) (w:=w) (base:=base) λf fd F=>JQ Ex.NoText B Gps GndN Gf GleadN F;have Gread:=D14.fn (P:=l.prog) (w:=w) (base:=base) λf fd F=>Qg Ex.NoText JC GF B GmR (λC e=>by rw[MgR] at e;cases e;exact rcR) Gbegun Ggone GbegunN GgoneN F;have G_law_numbers:=D15.fn (P:=l.prog) (w:=w) (base:=base) λf fd F=>rY B F;have G_law_name:=D16.fn (P:=l.prog) (w:=w) (base:=base) λf fd F=>yl B F;have G_law_grown:∀n:Nat,FIO l.prog w K mg base (1+n) "_law_grown" ["_law_xs", "_law_deep", "_law_part"] (cL n):=by
  intro n;induction n with
  |zero=>exact D17.fn λf fd F=>Vw
  |succ n ih=>exact D17.fn λf fd F=>vG B F G_law_name n ih
 have G_law_no_part:=D18.fn (P:=l.prog) (w:=w) (base:=base) λf fd F=>sG B F;have G_law_spoiled:=D19.fn (P:=l.prog) (w:=w) (base:=base) λf fd F=>rT B F;have G_law_refused:=D20.fn (P:=l.prog) (w:=w) (base:=base) λf fd F=>sH B Xc F Gread;exact Oh M6<|T8 B F0 Gread G_law_numbers (G_law_grown 30) G_law_no_part G_law_spoiled G_law_refused
theorem walk {l:W.OpenLaw}{q:bg}{loose:List Str}{XP:(Zs)->Heap->Prop}{YP:cw->Heap->Prop}{d:DefRec}{K:Params->av}(hn:l.most=some 63)(hdf:d.params.defaults=[])
  (hY:∀(w:cw) (h:Heap),YP w h->(K w.params).In h)
  (F:∀(w:cw) (mg:Zs) (fa:Addr) (h:Heap),(K w.params).In h->h.Ns bo mg->mg d.name=some (.ref fa)->
   ∃fd:dQ,(∀(s:aT) (u:a7),xc s fd ⟨[u],[]⟩ [("_law_script",u)])/\∀base:Heap,(K w.params).In base->base.Ns bo mg->bR l.prog w (K w.params) mg base (CX1 l.prog w) 32 fa fd ["_law_script"] (Dz<|K w.params)):
  W.WalkO q loose XP YP l.row.toRowW d [] (λf vs=>xt f vs):=
 L2.Ny (n:=63) (k:=32) (x:="_law_script") (CX:=λw=>CX1 l.prog w) (sp:=λw=>Dz<|K w.params) hn (by decide) hdf ⟨rfl,by decide,by decide,rfl⟩ hY F (λ_ _ a ns hl _ hS=>⟨a,ns,rfl,hS,hl,λ_=>rfl⟩) λ_ _ _ _ _ ⟨_,_,_,_,_,_,z⟩=>z.elim
end K10
namespace PySem.W.Fast
theorem tw17545141837414464241:True:=⟨⟩
theorem tw14675181406065785330:True:=⟨⟩
theorem tw13390734492769937596:True:=⟨⟩
theorem tw12959695142116463415:True:=⟨⟩
theorem tw15648318789792916357:True:=⟨⟩
theorem tw16432780933960516617:True:=⟨⟩
theorem tw7802770132454696753:True:=⟨⟩
theorem tw6849016900196112757:True:=⟨⟩
theorem tw8872711179624145353:True:=⟨⟩
theorem tw10412915925463772939:True:=⟨⟩
theorem tw15422672218920419197:True:=⟨⟩
theorem tw14350950712721618364:True:=⟨⟩
theorem tw4976333138443776526:True:=⟨⟩
theorem tw16357636905900375192:True:=⟨⟩
theorem tw1513357543543113583:True:=⟨⟩
theorem tw6201528798174511628:True:=⟨⟩
theorem tw12814667360989797081:True:=⟨⟩
theorem tw6872561611793075486:True:=⟨⟩
theorem tw11835394775001074613:True:=⟨⟩
theorem tw1103407560833223886:True:=⟨⟩
theorem tw6311890506022154926:True:=⟨⟩
theorem tw13114907590969729777:True:=⟨⟩
theorem tw2992981040550053477:True:=⟨⟩
theorem tw2138266162197247514:True:=⟨⟩
theorem tw13379648945996897409:True:=⟨⟩
theorem tw17707849560117966170:True:=⟨⟩
theorem tw14767696189335542374:True:=⟨⟩
theorem tw17793207911666649845:True:=⟨⟩
theorem tw17990557019682575359:True:=⟨⟩
theorem tw12471100834121980823:True:=⟨⟩
theorem tw11117159256248147681:True:=⟨⟩
theorem tw2026245971432888889:True:=⟨⟩
theorem tw4384101575094066445:True:=⟨⟩
theorem tw2509631459830618172:True:=⟨⟩
theorem tw12917852787796577825:True:=⟨⟩
theorem tw3744352547613284448:True:=⟨⟩
theorem tw4886735455538762287:True:=⟨⟩
theorem tw5742275244543369326:True:=⟨⟩
theorem tw13494997605678916999:True:=⟨⟩
theorem tw9157078744604366885:True:=⟨⟩
theorem tw11803062560104079623:True:=⟨⟩
theorem tw4666579836684051119:True:=⟨⟩
theorem tw7020122329741253625:True:=⟨⟩
theorem tw221213400845276443:True:=⟨⟩
theorem tw15950377646217163063:True:=⟨⟩
theorem tw11305339537765446121:True:=⟨⟩
theorem tw3663984077781365606:True:=⟨⟩
theorem tw16010895429510616540:True:=⟨⟩
theorem tw16604018754565831349:True:=⟨⟩
theorem tw8088444167594243243:True:=⟨⟩
theorem tw4374600030928825512:True:=⟨⟩
theorem tw2834847771944512462:True:=⟨⟩
theorem tw2474560758623315918:True:=⟨⟩
theorem tw7739335162793561280:True:=⟨⟩
theorem tw3127972976506302082:True:=⟨⟩
theorem tw8793360503705157935:True:=⟨⟩
theorem tw8120628902722231847:True:=⟨⟩
theorem tw13624040813906600301:True:=⟨⟩
theorem tw10564410003526636945:True:=⟨⟩
theorem tw2354665269444106803:True:=⟨⟩
theorem tw9750061295449302533:True:=⟨⟩
theorem tw12302084675449681367:True:=⟨⟩
theorem tw8683398274863694892:True:=⟨⟩
theorem tw1727696310776448037:True:=⟨⟩
theorem tw10103835176024285646:True:=⟨⟩
theorem tw17358794647144620895:True:=⟨⟩
theorem tw13436285440933580571:True:=⟨⟩
theorem tw8052276488465751049:True:=⟨⟩
theorem tw12822945929072598546:True:=⟨⟩
theorem tw8263403419029600065:True:=⟨⟩
theorem tw7561042162236484093:True:=⟨⟩
theorem tw3988856340269127152:True:=⟨⟩
theorem tw11915054957554029064:True:=⟨⟩
theorem tw15911314366148841528:True:=⟨⟩
theorem tw7926274170381866307:True:=⟨⟩
theorem tw13429562459702352982:True:=⟨⟩
theorem tw12089646970296352193:True:=⟨⟩
theorem tw4371777179742678063:True:=⟨⟩
theorem tw1873805745431571578:True:=⟨⟩
theorem tw6905298103294667163:True:=⟨⟩
theorem tw12113652270709161494:True:=⟨⟩
theorem tw8590862900379622427:True:=⟨⟩
theorem tw11645161829679885085:True:=⟨⟩
theorem tw57580785521473539:True:=⟨⟩
theorem tw10336442285781531958:True:=⟨⟩
theorem tw1055512353344629383:True:=⟨⟩
theorem tw6986240328617235839:True:=⟨⟩
theorem tw9840962397599093049:True:=⟨⟩
theorem tw11830186753026579390:True:=⟨⟩
theorem tw4498007705129880463:True:=⟨⟩
theorem tw4040102290102949552:True:=⟨⟩
theorem tw523512123189441618:True:=⟨⟩
theorem tw5976967935014235932:True:=⟨⟩
theorem tw13666710444653345812:True:=⟨⟩
theorem tw6427232948011528011:True:=⟨⟩
theorem tw3790735375857107344:True:=⟨⟩
theorem tw10687052248614178615:True:=⟨⟩
theorem tw2387600133409818070:True:=⟨⟩
theorem tw4423090101988379153:True:=⟨⟩
theorem tw7150501585481991042:True:=⟨⟩
theorem tw6135125389947935024:True:=⟨⟩
theorem tw14940722284005774650:True:=⟨⟩
theorem tw7745893008237274523:True:=⟨⟩
theorem tw10148133720972098240:True:=⟨⟩
theorem tw3189281068533348048:True:=⟨⟩
theorem tw17876148539950408382:True:=⟨⟩
theorem tw13274121705047465807:True:=⟨⟩
theorem tw12877975398350554353:True:=⟨⟩
theorem tw2133996656427537586:True:=⟨⟩
theorem tw10191022155230894769:True:=⟨⟩
theorem tw9513253803491171047:True:=⟨⟩
theorem tw9077556637208504258:True:=⟨⟩
theorem tw8132371828793667678:True:=⟨⟩
theorem tw6145282786127490905:True:=⟨⟩
theorem tw5048881682728112935:True:=⟨⟩
theorem tw1509953941452241963:True:=⟨⟩
theorem tw6519918435281531523:True:=⟨⟩
theorem tw13850937843863114399:True:=⟨⟩
theorem tw1427069091646210373:True:=⟨⟩
theorem tw12793865666286660362:True:=⟨⟩
theorem tw13753884500933173669:True:=⟨⟩
theorem tw14672894465936439156:True:=⟨⟩
theorem tw9257683944537542620:True:=⟨⟩
theorem tw6044687891572288758:True:=⟨⟩
theorem tw5310011509143152866:True:=⟨⟩
theorem tw3239441594805054980:True:=⟨⟩
theorem tw10047081544364117844:True:=⟨⟩
theorem tw7277471798386202951:True:=⟨⟩
theorem tw15700562591994578630:True:=⟨⟩
theorem tw11730034509350164097:True:=⟨⟩
theorem tw1363534799235152802:True:=⟨⟩
theorem tw8394782620770454743:True:=⟨⟩
theorem tw8019477194997592385:True:=⟨⟩
theorem tw5061787675211637421:True:=⟨⟩
theorem tw2592141177453919923:True:=⟨⟩
theorem tw1642896942635847875:True:=⟨⟩
theorem tw14181393602894299644:True:=⟨⟩
theorem tw16734688099497342351:True:=⟨⟩
theorem tw8952526197731697246:True:=⟨⟩
theorem tw6959958134696920103:True:=⟨⟩
theorem tw3334917347366758174:True:=⟨⟩
theorem tw2540656317005612097:True:=⟨⟩
theorem tw8250517977854860366:True:=⟨⟩
theorem tw4192922062450670616:True:=⟨⟩
theorem tw1186162045855704873:True:=⟨⟩
theorem tw10092275871235616280:True:=⟨⟩
theorem tw18440095242490587163:True:=⟨⟩
theorem tw9999069429926642138:True:=⟨⟩
theorem tw5209605622249412895:True:=⟨⟩
theorem tw9691829939693669349:True:=⟨⟩
theorem tw11980191954905971015:True:=⟨⟩
theorem tw14406674031261892048:True:=⟨⟩
theorem tw11960098747101340741:True:=⟨⟩
theorem tw6167890242949696076:True:=⟨⟩
theorem tw18407988239036077313:True:=⟨⟩
theorem tw1746060938445729925:True:=⟨⟩
theorem tw1470128246272490896:True:=⟨⟩
theorem tw11441500112203602499:True:=⟨⟩
theorem tw11203870190674724609:True:=⟨⟩
theorem tw18293622924055994587:True:=⟨⟩
theorem tw1146835861413605529:True:=⟨⟩
theorem tw12911348095857673909:True:=⟨⟩
theorem tw1177393578320754573:True:=⟨⟩
theorem tw11888033140285643768:True:=⟨⟩
theorem tw9399364636009198148:True:=⟨⟩
theorem tw6601188393696016796:True:=⟨⟩
theorem tw394066290531535922:True:=⟨⟩
theorem tw3732392775957433820:True:=⟨⟩
theorem tw362404346574148106:True:=⟨⟩
theorem tw17988689028921480020:True:=⟨⟩
theorem tw16702971582416692228:True:=⟨⟩
theorem tw14113916252974347378:True:=⟨⟩
theorem tw12517647182949373832:True:=⟨⟩
theorem tw7185932706499128212:True:=⟨⟩
theorem tw4582780430098459686:True:=⟨⟩
theorem tw4509500874817001941:True:=⟨⟩
theorem tw1863151494613079678:True:=⟨⟩
theorem tw17813946903610019895:True:=⟨⟩
theorem tw14358924072818570581:True:=⟨⟩
theorem tw13696809847146168335:True:=⟨⟩
theorem tw13436498805552722245:True:=⟨⟩
theorem tw1310370188695586065:True:=⟨⟩
theorem tw12828750341994291173:True:=⟨⟩
theorem tw12360834809976639554:True:=⟨⟩
theorem tw11829720509479347066:True:=⟨⟩
theorem tw17998153763142470791:True:=⟨⟩
theorem tw9650019820814590798:True:=⟨⟩
theorem tw9329678308414759364:True:=⟨⟩
theorem tw8921891732543155026:True:=⟨⟩
theorem tw8817817058754369278:True:=⟨⟩
theorem tw772079109824522575:True:=⟨⟩
theorem tw7269651474631840720:True:=⟨⟩
theorem tw6592275500452971352:True:=⟨⟩
theorem tw441925164161048571:True:=⟨⟩
theorem tw3932959291336039483:True:=⟨⟩
theorem tw3932008209447339725:True:=⟨⟩
theorem tw3408599646886491667:True:=⟨⟩
theorem tw3262090771607478335:True:=⟨⟩
theorem tw2235206105286055343:True:=⟨⟩
theorem tw16415568285140777439:True:=⟨⟩
theorem tw15101603379504841616:True:=⟨⟩
theorem tw14983414837520595124:True:=⟨⟩
theorem tw14769970461229067591:True:=⟨⟩
theorem tw10694505534307972846:True:=⟨⟩
theorem tw10610045457357824946:True:=⟨⟩
theorem tw3364629517244180660:True:=⟨⟩
theorem tw11647274038736932737:True:=⟨⟩
theorem tw1118491146689450921:True:=⟨⟩
theorem tw2341185028358323353:True:=⟨⟩
theorem tw13697943367837812894:True:=⟨⟩
theorem tw491186156202676968:True:=⟨⟩
theorem tw8589628840905009371:True:=⟨⟩
theorem tw857584560820857895:True:=⟨⟩
theorem tw3461924657556024346:True:=⟨⟩
theorem tw2720651078939110647:True:=⟨⟩
theorem tw16763911162264875550:True:=⟨⟩
theorem tw15388876736025536589:True:=⟨⟩
theorem tw12570120809042066337:True:=⟨⟩
theorem tw8080852133847728852:True:=⟨⟩
theorem tw7632208816433589615:True:=⟨⟩
theorem tw17568020701779817058:True:=⟨⟩
theorem tw17289313166322142664:True:=⟨⟩
theorem tw13938075726568838345:True:=⟨⟩
theorem tw13610489021193974118:True:=⟨⟩
theorem tw6301274471851039111:True:=⟨⟩
theorem tw4159792819997618162:True:=⟨⟩
theorem tw10428899551824206630:True:=⟨⟩
theorem tw1055388420482204319:True:=⟨⟩
theorem tw9867741468902833174:True:=⟨⟩
theorem tw7725100114425962087:True:=⟨⟩
theorem tw7457207928399216874:True:=⟨⟩
theorem tw16446001871586842673:True:=⟨⟩
theorem tw11655098628034657337:True:=⟨⟩
theorem tw18323900704631373254:True:=⟨⟩
theorem tw14601467409081169066:True:=⟨⟩
theorem tw8547738521996982865:True:=⟨⟩
theorem tw8332406200733526232:True:=⟨⟩
theorem tw2584302150927664417:True:=⟨⟩
theorem tw18248483384771398171:True:=⟨⟩
theorem tw15654754019411727184:True:=⟨⟩
theorem tw14896948098304551282:True:=⟨⟩
theorem tw14317839233612001383:True:=⟨⟩
theorem tw13749905111534297753:True:=⟨⟩
theorem tw12778714429292418278:True:=⟨⟩
theorem tw5721424255066054119:True:=⟨⟩
theorem tw5028565942576856409:True:=⟨⟩
theorem tw2011550235193208263:True:=⟨⟩
theorem tw1758403831626375776:True:=⟨⟩
theorem tw16425090366649086703:True:=⟨⟩
theorem tw14507407703507758636:True:=⟨⟩
theorem tw12061168844441868170:True:=⟨⟩
theorem tw11748151093222134132:True:=⟨⟩
theorem tw10092975487982692630:True:=⟨⟩
theorem tw13261371077784095936:True:=⟨⟩
theorem tw10389204689889529907:True:=⟨⟩
theorem tw9166919452683823676:True:=⟨⟩
theorem tw9140269900258692700:True:=⟨⟩
theorem tw6406338213689698766:True:=⟨⟩
theorem tw173234308001865709:True:=⟨⟩
theorem tw14460844529876470362:True:=⟨⟩
theorem tw14001866601373818703:True:=⟨⟩
theorem tw13711282417925376140:True:=⟨⟩
theorem tw13587193355911127324:True:=⟨⟩
theorem tw13586421421545479021:True:=⟨⟩
theorem tw13201763800841415533:True:=⟨⟩
theorem tw13187561911801454179:True:=⟨⟩
theorem tw12764175544740457463:True:=⟨⟩
theorem tw12737373609181621240:True:=⟨⟩
theorem tw12612645822736802742:True:=⟨⟩
theorem tw12534168933855629719:True:=⟨⟩
theorem tw12316007301051686166:True:=⟨⟩
theorem tw12114980804860632533:True:=⟨⟩
theorem tw11417129131499945121:True:=⟨⟩
theorem tw11140393013761052316:True:=⟨⟩
theorem tw10660550742447966310:True:=⟨⟩
theorem tw10544332483432592022:True:=⟨⟩
theorem tw10366102896868523202:True:=⟨⟩
theorem tw9977119802694640713:True:=⟨⟩
theorem tw9835343780911683690:True:=⟨⟩
theorem tw9382900467400487232:True:=⟨⟩
theorem tw9295325313190425484:True:=⟨⟩
theorem tw9223728966144092935:True:=⟨⟩
theorem tw9166722389739353298:True:=⟨⟩
theorem tw8755751979651710506:True:=⟨⟩
theorem tw8500340298846405702:True:=⟨⟩
theorem tw8386553161040279724:True:=⟨⟩
theorem tw8370851833964394795:True:=⟨⟩
theorem tw8190422070129090428:True:=⟨⟩
theorem tw8183210700808903487:True:=⟨⟩
theorem tw7571678236736167268:True:=⟨⟩
theorem tw7416031882370666795:True:=⟨⟩
theorem tw731144526191149938:True:=⟨⟩
theorem tw7194373326522894175:True:=⟨⟩
theorem tw710468694756844390:True:=⟨⟩
theorem tw6951805429294304000:True:=⟨⟩
theorem tw6879693379525256970:True:=⟨⟩
theorem tw6861061958320573414:True:=⟨⟩
theorem tw6700565990516299546:True:=⟨⟩
theorem tw6619238551360723490:True:=⟨⟩
theorem tw6519829203920346658:True:=⟨⟩
theorem tw6496571230078577993:True:=⟨⟩
theorem tw6450143639691932733:True:=⟨⟩
theorem tw6407012150287795346:True:=⟨⟩
theorem tw6108319846254019683:True:=⟨⟩
theorem tw5948482254461946317:True:=⟨⟩
theorem tw5679636012787493081:True:=⟨⟩
theorem tw5665128051402773867:True:=⟨⟩
theorem tw5303114279520162249:True:=⟨⟩
theorem tw5279441920863115175:True:=⟨⟩
theorem tw5278603464879682036:True:=⟨⟩
theorem tw5158481446370436148:True:=⟨⟩
theorem tw4722354606143001537:True:=⟨⟩
theorem tw4675148537947720840:True:=⟨⟩
theorem tw4587577502516517829:True:=⟨⟩
theorem tw4382686454842319121:True:=⟨⟩
theorem tw4194686207874958799:True:=⟨⟩
theorem tw4043510689399166376:True:=⟨⟩
theorem tw3923220365795876545:True:=⟨⟩
theorem tw3612108066182227777:True:=⟨⟩
theorem tw3337310276028491403:True:=⟨⟩
theorem tw3214604424312633400:True:=⟨⟩
theorem tw3161510991493495005:True:=⟨⟩
theorem tw3116370932327280876:True:=⟨⟩
theorem tw3036110528214662920:True:=⟨⟩
theorem tw288459758371933693:True:=⟨⟩
theorem tw27419345147728170:True:=⟨⟩
theorem tw2725417715351265923:True:=⟨⟩
theorem tw2670633849957272162:True:=⟨⟩
theorem tw192544313689721135:True:=⟨⟩
end PySem.W.Fast
open PySem PySem.W PyProof.Rows
set_option maxRecDepth 100000 in
set_option maxHeartbeats 0 in
theorem PySem.Challenge.cw_hushduel_k10_no_text_of_a_game_holds : PySem.Challenge.rw_hushduel_k10_no_text_of_a_game.Holds := by
 w_on;o_law;k_head;(case hw=>w_witness2)
 k_fill
 refine K10.walk (l:=PySem.Challenge.rw_hushduel_k10_no_text_of_a_game) rfl rfl (λw h Y=>PySem.W.kIn_of Y) ?F
 case F=>
  intro w mg fa h KX G hmg;refine' K10.all_mk KX G hmg ?_ ?_ ?_ ?_ ?_ ?_ ?_ ?_ ?_ ?_ ?_ ?_ ?_ ?_ ?_ ?_ ?_ ?_ ?_ ?_ ?_ ?_ ?_ ?_ ?_ ?_ ?_ ?_ ?_ ?_ ?_ ?_ ?_ ?_ ?_ ?_ ?_ ?_ ?_ ?_ ?_ ?_ ?_ ?_ ?_ ?_ ?_ ?_ ?_ ?_ ?_ ?_ ?_ ?kS ?sS ?_ ?_ ?eS ?_ ?_ ?_ ?_ ?_ ?_ ?_ ?_ ?_ ?_ ?_ ?_ ?_ ?_ ?_ ?_ ?_ ?_ ?_ ?_ ?_ ?_ ?_ ?_ ?_ ?_ ?_ ?eNoText ?_ ?_ ?_ ?_ ?_ ?_ ?uDuelErrorNoText ?wNoNameNoText ?vNoName ?wNoNumberNoText ?vNoNumber ?wNoPlanNoText ?vNoPlan ?wNoRowNoText ?vNoRow ?wNoSharesNoText ?vNoShares ?wNoTextNoText ?vNoText ?wTooGreatNoText ?vTooGreat ?wValueErrorNoText
  all_goals try first | (refine' F.qd ?a ?l ?c ?k;(case a=>k_is);(case l=>k_is);(case c=>k_is);(case k=>k_is)) | (refine' F.qm ?a ?i ?l ?c ?k;(case a=>k_is);(case i=>k_is);(case l=>k_is);(case c=>k_is);(case k=>k_is)) | k_is
  (case kS=>k_keys)
  (case sS=>decide)
  (case eS=>exact ⟨_,_,_,_,_,_,rfl⟩)
  (case eNoText=>k_exc)
  (case uDuelErrorNoText=>kts_exm)
  (case wNoNameNoText=>(first | kit_is | (unfold eu;rw [if_pos (by simp)])))
  (case vNoName=>(first | kit_is | (unfold eu;rw [if_neg (by simp)];k_is) | k_is))
  (case wNoNumberNoText=>(first | kit_is | (unfold eu;rw [if_pos (by simp)])))
  (case vNoNumber=>(first | kit_is | (unfold eu;rw [if_neg (by simp)];k_is) | k_is))
  (case wNoPlanNoText=>(first | kit_is | (unfold eu;rw [if_pos (by simp)])))
  (case vNoPlan=>(first | kit_is | (unfold eu;rw [if_neg (by simp)];k_is) | k_is))
  (case wNoRowNoText=>(first | kit_is | (unfold eu;rw [if_pos (by simp)])))
  (case vNoRow=>(first | kit_is | (unfold eu;rw [if_neg (by simp)];k_is) | k_is))
  (case wNoSharesNoText=>(first | kit_is | (unfold eu;rw [if_pos (by simp)])))
  (case vNoShares=>(first | kit_is | (unfold eu;rw [if_neg (by simp)];k_is) | k_is))
  (case wNoTextNoText=>(first | kit_is | (unfold eu;rw [if_pos (by simp)])))
  (case vNoText=>(first | kit_is | (unfold eu;rw [if_neg (by simp)];k_is) | k_is))
  (case wTooGreatNoText=>(first | kit_is | (unfold eu;rw [if_pos (by simp)])))
  (case vTooGreat=>(first | kit_is | (unfold eu;rw [if_neg (by simp)];k_is) | k_is))
  (case wValueErrorNoText=>(first | kit_is | (unfold eu;rw [if_pos (by simp)])))
